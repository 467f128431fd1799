import PyProof.Rows.All
import Wide.All
import OpenK.AllK
import Wide.FinOn
import Lean
import PyProof.EqAt
import PyProof.EqKinds
import PyProof.TupleCall
import PyProof.EqLayable
import PyProof.StationsW
import PyProof.NsDelKeeps
import PyProof.ExcArgsOwn
import PyProof.ExcAttrAll.ValueError
import PyProof.ZipIter
import PyProof.EnumFor
import PyProof.EnumStmt
import PyProof.EnumMake
import PyProof.ConsumeWalk
import PyProof.Cells
import PyProof.CompUse
import PyProof.DictIter
import PyProof.DictWalks
import PyProof.CollectWalk
import PyProof.WalksS
import PyProof.P3Statements
import PyProof.DictRoadsH
import KE.KSortTup
import PyProof.P3In
import KE.KRevSl
import PyProof.ReprReads
import KE.KMinKey
import PyProof.ReprRoads
import PyProof.Conv_int_bool
import PyProof.AutoListH
import PyProof.TupleIter
import PyProof.ReprBulk
import PyProof.FitsInt
import PySem.Challenge.RW_swaprest_k58_grown_and_logged_sums
set_option Elab.async false
set_option linter.all false
set_option maxRecDepth 100000
set_option maxHeartbeats 4000000
namespace L2
open PySem PySem.Spec PyProof.Rows
section
abbrev Key:=Sum Int Str
def zmS:Key->Value->Bool
 | .inl k,v=>Value.isInt k v
 | .inr x,v=>Value.isStrOf x v
def zxB(w:World):Key->Int
 | .inl k=>hashInt k
 | .inr x=>hashStr w x
theorem zaT:∀{k:Key} {v:Value},zmS k v=true->(∃ i t,k=Sum.inl i/\v=Value.int i t)\/(∃ x t,k=Sum.inr x/\v=Value.str x t)
 | .inl i,v,h=>by
  obtain⟨t,e⟩:=Value.isInt_shape (k:=i) (v:=v) h
  exact .inl ⟨i,t,rfl,e⟩
 | .inr x,v,h=>by
  obtain⟨t,e⟩:=Value.isStrOf_shape (x:=x) (v:=v) h
  exact .inr ⟨x,t,rfl,e⟩
theorem zoJ(i:Int)(t:Tok):zmS (.inl i) (.int i t)=true:=by simp [zmS,Value.isInt]
theorem zoI(x:Str)(t:Tok):zmS (.inr x) (.str x t)=true:=by simp [zmS,Value.isStrOf]
theorem zu5(a b:Int):decide ((Sum.inl a:Key)=Sum.inl b)=(a==b):=by
 by_cases e:a=b
 ·subst e;simp
 ·have h:¬ (Sum.inl a:Key)=Sum.inl b:=fun q=>e (Sum.inl.inj q)
  rw [decide_eq_false h]
  exact(beq_eq_false_iff_ne.mpr e).symm
theorem zu1(a b:Str):decide ((Sum.inr a:Key)=Sum.inr b)=decide (a=b):=by
 by_cases e:a=b
 ·subst e;simp
 ·have h:¬ (Sum.inr a:Key)=Sum.inr b:=fun q=>e (Sum.inr.inj q)
  rw [decide_eq_false h,decide_eq_false e]
theorem zu4(a:Int)(b:Str):decide ((Sum.inl a:Key)=Sum.inr b)=false:=decide_eq_false (fun q=>nomatch q)
theorem zu2(a:Str)(b:Int):decide ((Sum.inr a:Key)=Sum.inl b)=false:=decide_eq_false (fun q=>nomatch q)
def zbI(prog:Program)(w:World):PySem.KeyKind prog w Key where
 is:=zmS
 hash:=zxB w
 inj:=fun v a b ha hb=>by
  rcases zaT ha with⟨i,t,rfl,rfl⟩|⟨x,t,rfl,rfl⟩
  ·rcases zaT hb with⟨j,u,rfl,e⟩|⟨y,u,rfl,e⟩
   ·injection e with e1 _;rw [e1]
   ·exact nomatch e
  ·rcases zaT hb with⟨j,u,rfl,e⟩|⟨y,u,rfl,e⟩
   ·exact nomatch e
   ·injection e with e1 _;rw [e1]
 byValue:=fun k v h=>by
  rcases zaT h with⟨i,t,rfl,rfl⟩|⟨x,t,rfl,rfl⟩ <;> rfl
 pyHash:=fun hv h=>by
  rcases zaT hv with⟨i,t,rfl,rfl⟩|⟨x,t,rfl,rfl⟩
  ·exact wpAny_pyHash_int h
  ·exact wpAny_pyHash_str h
 eqBool:=fun hu hv h=>by
  rcases zaT hu with⟨i,t,rfl,rfl⟩|⟨x,t,rfl,rfl⟩
  ·rcases zaT hv with⟨j,u,rfl,rfl⟩|⟨y,u,rfl,rfl⟩
   ·rw [zu5] at h;exact wpAny_eqBool_int h
   ·rw [zu4] at h;exact SeqAt.EqAt.int_str i t y u _ _ _ _ h
  ·rcases zaT hv with⟨j,u,rfl,rfl⟩|⟨y,u,rfl,rfl⟩
   ·rw [zu2] at h;exact SeqAt.EqAt.str_int x t j u _ _ _ _ h
   ·rw [zu1] at h;exact wpAny_eqBool_str h
 «strs»:=fun k x t v h=>by
  rcases zaT h with⟨i,u,rfl,e⟩|⟨y,u,rfl,e⟩
  ·exact nomatch e
  ·injection e with e1 _
   subst e1
   cases v <;> rfl
theorem zkZ(prog:Program)(w:World)(i:Int)(t:Tok):(zbI prog w).is (.inl i) (.int i t)=true:=zoJ i t
theorem zkY(prog:Program)(w:World)(x:Str)(t:Tok):(zbI prog w).is (.inr x) (.str x t)=true:=zoI x t
end
section
inductive V where
 | non|bl(b:Bool)|int(i:Int)|str(x:Str)|byt(b:Array UInt8)|flt(b:UInt64)|ref(a:Addr)|ty(n:String)
 deriving DecidableEq
def RelV:V->Value->Prop
 | .non,u=>u=Value.none
 | .bl b,u=>u=Value.bool b
 | .int i,u=>∃ t,u=Value.int i t
 | .str x,u=>∃ t,u=Value.str x t
 | .byt b,u=>∃ t,u=Value.bytes b t
 | .flt b,u=>∃ t,u=Value.float b t
 | .ref a,u=>u=Value.ref a
 | .ty n,u=>u=Value.type n
abbrev Vals:List V->List Value->Prop:=Paired RelV
theorem Vals.length{xs:List V}{us:List Value}(r:Vals xs us):xs.length=us.length:=Paired.length r
theorem Vals.get:∀{xs:List V} {us:List Value} {i:Nat} {x:V},Vals xs us->xs[i]?=some x->∃ u,us[i]?=some u/\RelV x u
 | _,_,_,_,.nil,e=>by simp at e
 | _,_,0,_,.cons r _,e=>by simp at e;subst e;exact⟨_,rfl,r⟩
 | _,_,i+1,x,.cons _ t,e=>by
  obtain⟨u,h1,h2⟩:=Vals.get (i:=i) (x:=x) t (by simpa using e)
  exact⟨u,by simpa using h1,h2⟩
theorem Vals.set{x:V}{u:Value}(r:RelV x u):∀{xs:List V} {us:List Value} (i:Nat),Vals xs us->Vals (xs.set i x) (us.set i u)
 | _,_,_,.nil=>.nil
 | _,_,0,.cons _ t=>.cons r t
 | _,_,i+1,.cons q t=>.cons q (Vals.set r i t)
theorem Vals.append:∀{xs ys:List V} {us ws:List Value},Vals xs us->Vals ys ws->Vals (xs++ys) (us++ws)
 | _,_,_,_,.nil,s=>s
 | _,_,_,_,.cons r t,s=>.cons r (Vals.append t s)
theorem Vals.take:∀{xs:List V} {us:List Value} (n:Nat),Vals xs us->Vals (xs.take n) (us.take n)
 | _,_,0,_=>.nil
 | _,_,_+1,.nil=>.nil
 | _,_,n+1,.cons r t=>.cons r (Vals.take n t)
theorem Vals.drop:∀{xs:List V} {us:List Value} (n:Nat),Vals xs us->Vals (xs.drop n) (us.drop n)
 | _,_,0,r=>r
 | _,_,_+1,.nil=>.nil
 | _,_,n+1,.cons _ t=>Vals.drop n t
def znm:Option V->Option Value->Prop
 | some v,some u=>RelV v u
 | none,none=>True
 | _,_=>False
def KV{κ:Type}:List (κ×V)->List (κ×Value)->Prop:=Paired fun(p:κ×V) (q:κ×Value)=>p.1=q.1/\RelV p.2 q.2
def kV:Key->V
 | .inl i=>.int i
 | .inr x=>.str x
inductive HO where
 /-- a list -/
 | lst(xs:List V)
 /-- a tuple(never changes) -/
 | tup(xs:List V)
 /-- a dict whose keys are ints and texts;one whose keys are tuples of ints and texts(the empty one is both) -/
 | dK(kvs:List (Key×V))|dT(kvs:List (List Key×V))
 /-- a set of ints: its members,its size -/
 | set (S:Int->Bool) (n:Nat)
 /-- an instance of the class at C,its dict at dx,its attributes -/
 | ins (C dx:Addr) (fs:List (Str×V))
 /-- the dict of the instance at x -/
 | own (x:Addr)
 /-- the dict of an exception -/
 | xd (fs:List (Str×V))
 /-- a bound method,f of x -/
 | met (f x:Addr)
 /-- a range object lo,lo+1,.. below hi -/
 | rng (lo hi:Int)
 /-- a thing that is known to the object (the script;a dict while a loop walks it): read,never written while it is so -/
 | frz (o:Obj) (u:HO)
 /-- a code object's table -/
 | tbl (ps:Array Value)
 /-- any other thing,by what is true of its one object (a def of one's own: SetO a S n:=HO.ext fun h=>..) -/
 | ext (φ:Heap->Prop)
abbrev Hp:=Addr->Option HO
def upd(H:Hp)(a:Addr)(o:HO):Hp:=fun b=>if b=a then some o else H b
theorem zal{H:Hp}{a:Addr}{o:HO}:upd H a o a=some o:=by unfold upd;rw [if_pos rfl]
theorem zan{H:Hp}{a b:Addr}{o:HO}(h:b≠a):upd H a o b=H b:=by unfold upd;rw [if_neg h]
theorem zr9{H:Hp}{a:Addr}{o u:HO}:upd (upd H a o) a u=upd H a u:=by
 funext b;unfold upd;split <;> rfl
theorem zhs{H:Hp}{a b:Addr}{o u:HO}(h:H a=some o)(h':H b=some u)(d:o≠u):a≠b:=by
 intro e;subst e;rw [h] at h';exact d (Option.some.inj h')
theorem zbe{H:Hp}{a b:Addr}{o:HO}(h:H a=some o)(h':H b=none):a≠b:=by
 intro e;subst e;rw [h] at h';cases h'
def TAt(H:Hp)(b:Addr)(xs:List V):Prop:=H b=some (.tup xs)\/∃ o,H b=some (.frz o (.tup xs))
theorem TAt.upd{H:Hp}{a b:Addr}{u:HO}{xs:List V}(q:TAt H b xs)(n1:∀ ys,H b=some (.tup ys)->b≠a)(n2:∀ o ys,H b=some (.frz o (.tup ys))->b≠a):TAt (upd H a u) b xs:=by
 rcases q with q|⟨o,q⟩
 ·left;rw [zan (n1 _ q)];exact q
 ·right;exact⟨o,by rw [zan (n2 _ _ q)];exact q⟩
section
variable (P:Program)(w:World)
def zbM(H:Hp)(h:Heap)(a:Addr):HO->Prop
 | .lst xs=>xs.length<=sizeLine/\∃(its:List Value) (n:Nat),Vals xs its/\h.get? a=some { cls:=.type "list",data:=.seq its.toArray n }
 | .tup xs=>xs.length<=sizeLine/\∃ its:List Value,Vals xs its/\IsTup h a its.toArray
 | .dK kvs=>kvs.length<=sizeLine/\(a==sysModules)=false/\∃ vs,KV kvs vs/\h.DictOf (zbI P w) a vs
 | .dT kvs=>kvs.length<=sizeLine/\(a==sysModules)=false/\∃ xs:List (List Key×Addr×Value),
   Paired (fun(p:List Key×V) (q:List Key×Addr×Value)=>p.1=q.1/\TAt H q.2.1 (p.1.map kV)/\RelV p.2 q.2.2) kvs xs /\
   ∃ o es ep,h.get? a=some o/\o.ExactDict/\o.data=.dict es ep/\es.toList=xs.map (entryOfKey (tupleKind (zbI P w)))/\(xs.map (·.1)).Nodup
 | .set S n=>h.SetOf (intKind P w) a S n
 | .ins C dx fs=>H dx=some (.own a)/\fs.length<=1000/\dx≠a/\h.get? a=some (PySem.W.instObj C dx) /\
   ∃ mA,h.Ns1 dx mA/\(∀ f,znm (fs.lookup f) (mA f))/\PySem.Within mA (fs.map (·.1))
 | .own _=>∃ o,h.get? a=some o
 | .xd fs=>∃ mA,h.Ns1 a mA/\∀ f,znm (fs.lookup f) (mA f)
 | .rng lo hi=>∃ t u v,h.get? a=some { cls:=.type "range",data:=.fields #[.int lo t,.int hi u,.int 1 v] }
 | .frz o u=>h.get? a=some o/\zbM H h a u
 | .tbl ps=>h.get? a=some { cls:=.none,data:=.fields ps }
 | .met f x=>h.get? a=some (PySem.W.methodObj (.ref f) (.ref x))
 | .ext φ=>φ h/\(∃ o,h.get? a=some o)/\∀ h1 h2:Heap,φ h1->(∀ o,h1.get? a=some o->h2.get? a=some o)->φ h2
def HOk(H:Hp)(h:Heap):Prop:=∀ a o,H a=some o->zbM P w H h a o
end
section
variable {P:Program}{w:World}{H H':Hp}{h h':Heap}{a:Addr}{o:HO}
theorem zbM.lt(x:zbM P w H h a o):a<h.objs.size:=by
 cases o with
 | lst xs=>obtain⟨_,_,_,_,e⟩:=x;exact Heap.lt_size e
 | tup xs=>obtain⟨_,_,_,p⟩:=x;exact p.lt
 | dK kvs=>obtain⟨_,_,_,_,o,_,_,e,_⟩:=x;exact Heap.lt_size e
 | dT kvs=>obtain⟨_,_,_,_,o,_,_,e,_⟩:=x;exact Heap.lt_size e
 | set S n=>obtain⟨o,_,_,_,e,_⟩:=x;exact Heap.lt_size e
 | ins C dx fs=>obtain⟨_,_,_,e,_⟩:=x;exact Heap.lt_size e
 | own y=>obtain⟨_,e⟩:=x;exact Heap.lt_size e
 | xd fs=>obtain⟨_,⟨_,_,_,e,_⟩,_⟩:=x;exact Heap.lt_size e
 | rng lo hi=>obtain⟨_,_,_,e⟩:=x;exact Heap.lt_size e
 | frz ob u=>obtain⟨e,_⟩:=x;exact Heap.lt_size e
 | tbl ps=>exact Heap.lt_size (show h.get? a=some _ from x)
 | met f y=>exact Heap.lt_size (show h.get? a=some _ from x)
 | ext φ=>obtain⟨_,⟨_,e⟩,_⟩:=x;exact Heap.lt_size e
theorem Paired.zwK{α β:Type}{F G:α->β->Prop}:∀{l₁:List α} {l₂:List β},Paired F l₁ l₂->(∀ a b,F a b->G a b)->Paired G l₁ l₂
 | _,_,.nil,_=>.nil
 | _,_,.cons r t,f=>.cons (f _ _ r) (Paired.zwK t f)
theorem zbM.stay(x:zbM P w H h a o)(k:∀ b u,(b=a\/H b=some (.own a))->h.get? b=some u->h'.get? b=some u)
  (ho:∀ b,H b=some (.own a)->H' b=some (.own a))(ht:∀ b xs,TAt H b xs->TAt H' b xs):zbM P w H' h' a o:=by
 induction o with
 | lst xs=>obtain⟨z,its,n,r,e⟩:=x;exact⟨z,its,n,r,k _ _ (.inl rfl) e⟩
 | tup xs=>obtain⟨z,its,r,ob,e,c⟩:=x;exact⟨z,its,r,ob,k _ _ (.inl rfl) e,c⟩
 | dK kvs=>obtain⟨z,y,vs,r,ob,es,ep,e,c⟩:=x;exact⟨z,y,vs,r,ob,es,ep,k _ _ (.inl rfl) e,c⟩
 | dT kvs =>
  obtain⟨z,y,xs,r,ob,es,ep,e,c⟩:=x
  exact⟨z,y,xs,Paired.zwK r fun p q z=>⟨z.1,ht _ _ z.2.1,z.2.2⟩,ob,es,ep,k _ _ (.inl rfl) e,c⟩
 | set S n=>obtain⟨ob,es,ep,t,e,c⟩:=x;exact⟨ob,es,ep,t,k _ _ (.inl rfl) e,c⟩
 | ins C dx fs =>
  obtain⟨d,z,ne,e,mA,⟨od,es,ep,e2,c⟩,r⟩:=x
  exact⟨ho _ d,z,ne,k _ _ (.inl rfl) e,mA,⟨od,es,ep,k _ _ (.inr d) e2,c⟩,r⟩
 | own y=>obtain⟨ob,e⟩:=x;exact⟨ob,k _ _ (.inl rfl) e⟩
 | xd fs=>obtain⟨mA,⟨od,es,ep,e,c⟩,r⟩:=x;exact⟨mA,⟨od,es,ep,k _ _ (.inl rfl) e,c⟩,r⟩
 | rng lo hi=>obtain⟨t,u,v,e⟩:=x;exact⟨t,u,v,k _ _ (.inl rfl) e⟩
 | frz ob u ih=>obtain⟨e,q⟩:=x;exact⟨k _ _ (.inl rfl) e,ih q⟩
 | tbl ps =>
  have e:h.get? a=some { cls:=.none,data:=.fields ps }:=x
  show h'.get? a=some { cls:=.none,data:=.fields ps }
  exact k a _ (.inl rfl) e
 | met f y =>
  have e:h.get? a=some (PySem.W.methodObj (.ref f) (.ref y)):=x
  show h'.get? a=some (PySem.W.methodObj (.ref f) (.ref y))
  exact k a _ (.inl rfl) e
 | ext φ=>obtain⟨p,⟨o,e⟩,st⟩:=x;exact⟨st _ _ p fun o q=>k _ _ (.inl rfl) q,⟨o,k _ _ (.inl rfl) e⟩,st⟩
theorem HOk.lt(x:HOk P w H h)(e:H a=some o):a<h.objs.size:=(x a o e).lt
theorem HOk.fresh(x:HOk P w H h)(e:h.objs.size<=a):H a=none:=by
 cases q:H a with
 | none=>rfl
 | some u=>exact absurd (Nat.lt_of_lt_of_le (x.lt q) e) (Nat.lt_irrefl _)
theorem HOk.kept(x:HOk P w H h)(k:∀ b u,h.get? b=some u->h'.get? b=some u):HOk P w H h':=fun a o e =>
 (x a o e).stay (fun b u _ q=>k b u q) (fun _ q=>q) fun _ _ q=>q
theorem HOk.laid(x:HOk P w H h)(k:∀ b u,h.get? b=some u->h'.get? b=some u)(hp:h.objs.size<=a)(new:zbM P w (upd H a o) h' a o):HOk P w (upd H a o) h':=fun b u e=>by
 have hn:=x.fresh hp
 by_cases hb:b=a
 ·subst hb;rw [zal] at e;cases e;exact new
 ·rw [zan hb] at e
  exact(x b u e).stay (fun c v _ q=>k c v q) (fun c q=>by rw [zan (zbe q hn)];exact q) fun c xs q=>q.upd (fun _ r=>zbe r hn) fun _ _ r=>zbe r hn
end
def Rd(H:Hp)(a:Addr)(u:HO):Prop:=H a=some u\/∃ o,H a=some (.frz o u)
theorem Rd.ok{P:Program}{w:World}{H:Hp}{h:Heap}{a:Addr}{u:HO}(r:Rd H a u)(x:HOk P w H h):zbM P w H h a u:=by
 rcases r with r|⟨o,r⟩
 ·exact x a u r
 ·obtain⟨_,q⟩:=x a _ r
  exact q
def Mut:Option HO->Prop
 | some (.lst _)=>True
 | some (.dK _)=>True
 | some (.dT _)=>True
 | some (.set _ _)=>True
 | some (.ins _ _ _)=>True
 | some (.ext _)=>True
 | _=>False
section
variable {P:Program}{w:World}{H:Hp}{h h':Heap}{x e:Addr}{o':HO}
theorem HOk.write(ok:HOk P w H h)(mu:Mut (H x))(he:e=x\/H e=some (.own x))(k:∀ b u,b≠e->h.get? b=some u->h'.get? b=some u)(heo:∃ u,h'.get? e=some u)
  (new:zbM P w (upd H x o') h' x o'):HOk P w (upd H x o') h':=fun b u q=>by
 have nown:∀ c y,H c=some (.own y)->c≠x:=fun c y r z=>by subst z;rw [r] at mu;exact mu
 have ntup:∀ c xs,H c=some (.tup xs)->c≠x:=fun c xs r z=>by subst z;rw [r] at mu;exact mu
 by_cases hb:b=x
 ·subst hb;rw [zal] at q;cases q;exact new
 ·rw [zan hb] at q
  by_cases hbe:b=e
  ·have q':H b=some (.own x):=by
    rcases he with z|z
    ·exact absurd (hbe.trans z) hb
    ·rw [hbe];exact z
   rw [q] at q';cases q'
   obtain⟨v,hv⟩:=heo
   exact⟨v,by rw [hbe];exact hv⟩
  ·refine(ok b u q).stay (fun c v hc r=>k c v ?_ r) (fun c r=>by rw [zan (nown c b r)];exact r) fun c xs r=>r.upd (fun ys z=>ntup c ys z) fun o ys z e=>by subst e;rw [z] at mu;exact mu
   rcases hc with rfl|hc
   ·exact hbe
   ·rintro rfl
    rcases he with z|z
    ·exact nown c b hc z
    ·rw [hc] at z;cases z;exact hb rfl
end
structure Un(fs ex:List Addr)(H H':Hp)(h h':Heap):Prop where
 keep:∀ b o,h.get? b=some o->H b=none->b∉fs->b∉ex->h'.get? b=some o
 slot:∀ b o,h.get? b=some o->H b=none->b∈fs->b∉ex->∃ sl,h'.get? b=some { o with slots:=sl }
 free:∀ b o,h.get? b=some o->H b=none->b∉ex->H' b=none
 there:∀ b o,h.get? b=some o->b∉ex->∃ o',h'.get? b=some o'
 tups:∀ b xs,H b=some (.tup xs)->H' b=some (.tup xs)
 frzs:∀ b o u,H b=some (.frz o u)->H' b=some (.frz o u)
 tbls:∀ b ps,H b=some (.tbl ps)->∃ more,H' b=some (.tbl (ps++more))
section
variable {fs fs' ex ex':List Addr}{H H1 H2:Hp}{h h1 h2 h':Heap}{a x e:Addr}{o:HO}
theorem Un.any(u:Un fs ex H H1 h h1){b:Addr}{ob:Obj}(q:h.get? b=some ob)(n:H b=none)(hx:b∉ex):∃ sl,h1.get? b=some { ob with slots:=sl }:=by
 by_cases hb:b∈fs
 ·exact u.slot b ob q n hb hx
 ·exact⟨ob.slots,u.keep b ob q n hb hx⟩
theorem Un.kept(k:∀ b u,h.get? b=some u->h'.get? b=some u):Un fs ex H H h h' :=
 ⟨fun b ob q _ _ _=>k b ob q,fun b ob q _ _ _=>⟨ob.slots,k b ob q⟩,fun _ _ _ n _=>n,fun b ob q _=>⟨ob,k b ob q⟩,fun _ _ q=>q,fun _ _ _ q=>q,fun _ ps q=>⟨#[],by rw [q];simp⟩⟩
theorem Un.refl:Un fs ex H H h h:=Un.kept fun _ _ q=>q
theorem Un.laid(k:∀ b u,h.get? b=some u->h'.get? b=some u)(hp:h.objs.size<=a)(hn:H a=none):Un fs ex H (upd H a o) h h' where
 keep:=fun b u q _ _ _=>k b u q
 slot:=fun b u q _ _ _=>⟨u.slots,k b u q⟩
 free:=fun b u q n _=>by rw [zan (Nat.ne_of_lt (Nat.lt_of_lt_of_le (Heap.lt_size q) hp))];exact n
 there:=fun b u q _=>⟨u,k b u q⟩
 tups:=fun b xs q=>by rw [zan (zbe q hn)];exact q
 frzs:=fun b u xs q=>by rw [zan (zbe q hn)];exact q
 tbls:=fun b ps q=>⟨#[],by rw [zan (zbe q hn),q];simp⟩
theorem Un.write(mu:Mut (H x))(he:e=x\/H e=some (.own x))(k:∀ b u,b≠e->h.get? b=some u->h'.get? b=some u)(heo:∃ u,h'.get? e=some u):Un fs ex H (upd H x o) h h':=by
 have hx:∀ b,H b=none->b≠x:=fun b n z=>by subst z;rw [n] at mu;exact mu
 have hb:∀ b,H b=none->b≠e:=fun b n z=>by
  subst z
  rcases he with r|r
  ·exact hx b n r
  ·rw [n] at r;cases r
 have hm:∀ b u,H b=some u->¬ Mut (some u)->b≠x:=fun b u q nm z=>by subst z;rw [q] at mu;exact nm mu
 refine⟨fun b u q n _ _=>k b u (hb b n) q,fun b u q n _ _=>⟨u.slots,k b u (hb b n) q⟩,fun b u q n _=>by rw [zan (hx b n)];exact n,fun b u q _=>?_,
  fun b xs q=>by rw [zan (hm b _ q fun z=>z)];exact q,fun b u xs q=>by rw [zan (hm b _ q fun z=>z)];exact q,fun b ps q=>⟨#[],by rw [zan (hm b _ q fun z=>z),q];simp⟩⟩
 by_cases hbe:b=e
 ·subst hbe;exact heo
 ·exact⟨u,k b u hbe q⟩
end
def trk(h:Heap)(H:Hp):List Addr:=(List.range h.objs.size).filter fun a=>(H a).isSome
def zqS(h:Heap)(H:Hp):Heap:=PySem.W.hideAll h (trk h H)
theorem zoW(h:Heap)(H:Hp):(zqS h H).objs.size=h.objs.size:=PySem.W.hideAll_size _ _
theorem zqR{h:Heap}{H:Hp}{b:Addr}{o:Obj}(e:h.get? b=some o)(n:H b=none):(zqS h H).get? b=some o :=
 PySem.W.hideAll_get _ e fun hm=>by
  have q:(H b).isSome=true:=(List.mem_filter.mp hm).2
  rw [n] at q;simp at q
theorem zs2{h:Heap}{H:Hp}{b:Addr}{o:Obj}(e:(zqS h H).get? b=some o):h.get? b=some o/\H b=none:=by
 have e':h.get? b=some o:=PySem.W.of_hideAll (trk h H) e
 refine⟨e',?_⟩
 cases q:H b with
 | none=>rfl
 | some x =>
  have hm:b∈trk h H:=List.mem_filter.mpr ⟨List.mem_range.mpr (Heap.lt_size e'),by simp [q]⟩
  have z:(zqS h H).get? b=none:=PySem.W.hideAll_none (trk h H) hm
  rw [z] at e;cases e
def ztz(g h:Heap)(L:Addr):List (Addr×Obj):=(List.range h.objs.size).filterMap fun a=>if a=L\/(g.get? a).isSome=true then none else(h.get? a).map fun o=>(a,o)
def rest(g h:Heap)(L d:Addr):List (Addr×Obj):=(ztz g h L).filter fun p=>decide (p.1≠d)
end
section
structure Mod(K:W.Frag)(mg:Str->Option Value)(base:Heap):Prop where
 kin:K.In base
 glob:base.Ns mainGlobals mg
 blt:∃ mb,base.Ns builtinsNs mb/\∀ x:Str,x ≠ "__name__"->mb x=bootBuiltins x
 nolimit:base.NoLimit
 seer:base.NoSeer
def zyI(l:List Env):Prop:=∃ env r,l=env::r/\env.scope.isGenerator=false/\env.scope.isCoroutine=false/\env.builtins=builtinsNs/\env.globals=mainGlobals
structure Cx where
 prog:Program
 w:World
 K:W.Frag
 mg:Str->Option Value
 base:Heap
 A:Around
 N:List Str
 s₀:Shared
 H₀:Hp
 env:Env
 outer:List Env
 stack:List Env
 ex:List Addr
 fn:Str->Bool
 calm:Bool
 pn:List (Addr×Obj)
 xe:Value->Shared->Prop
def frs(l:List Env):List Addr:=l.filterMap (·.frame)
abbrev Cx.fs(X:Cx):List Addr:=frs X.outer
def Vis(sc:Scope)(x:Str):Prop:=sc.names.lookup x=some .local\/sc.names.lookup x=some .cell\/sc.names.lookup x=some .free
def Loc(sc:Scope)(x:Str):Prop:=sc.names.lookup x=some .local\/sc.names.lookup x=some .cell
def Look(env:Env)(h:Heap)(m:Str->Option Value)(x:Str)(u:Value):Prop :=
 (env.kindOf x=some .local/\m x=some u)\/((env.kindOf x=some .cell\/env.kindOf x=some .free)/\∃ c,env.cells.lookup x=some c/\h.IsCell c (some u))
structure Cx.Ok(X:Cx):Prop where
 mod:Mod X.K X.mg X.base
 kind:X.env.scope.kind=.function
 glob:X.env.globals=mainGlobals
 blt:X.env.builtins=builtinsNs
 above:X.s₀.heap.objs.size<=X.env.locals
 inj:∀ x y c,X.env.cells.lookup x=some c->X.env.cells.lookup y=some c->x=y
 has:∀ x,(X.env.kindOf x=some .cell\/X.env.kindOf x=some .free)->∃ c,X.env.cells.lookup x=some c
 cab:∀ x c,X.fn x=true->X.env.cells.lookup x=some c->X.s₀.heap.objs.size<=c
 hd:X.calm=true->X.A.handled=none
 frames:X.A.frames=some X.stack
 stk:X.stack=X.outer\/(X.stack=X.env::X.outer/\X.env.frame=some X.env.locals)
 exf:∀ b∈X.ex,b≠X.env.locals/\∀ x c,X.env.cells.lookup x=some c->c≠b
 bs:∀ b o,X.base.get? b=some o->X.s₀.heap.get? b=some o/\X.H₀ b=none
 bsz:X.base.objs.size<=X.s₀.heap.objs.size
 noex:∀ b o,X.base.get? b=some o->b∉X.ex
 exfs:∀ b∈X.ex,b∉X.fs
 zm2:X.s₀.heap.FunFrames X.base X.outer
 frf:∀ b∈X.fs,X.H₀ b=none
 tree:X.prog.given.tree=none
 sk:zyI X.stack
structure Inv(X:Cx)(pins:List (Addr×Obj))(σ:List (Option V))(H:Hp)(s:Shared):Prop where
 ok:X.Ok
 os:s.os=X.s₀.os
 bare:AllBare s.gens
 base:Un X.fs X.ex X.H₀ H X.s₀.heap s.heap
 loc:∃ m,s.heap.Ns X.env.locals m/\∀(i:Nat) (x:Str) (v:V),X.N[i]?=some x->σ[i]?=some (some v)->Vis X.env.scope x->∃ u,RelV v u/\Look X.env s.heap m x u
 cell:∀ x c,X.env.cells.lookup x=some c->∃ v,s.heap.IsCell c v
 free:H X.env.locals=none
 freeC:∀ x c,X.env.cells.lookup x=some c->H c=none
 pin:∀ p∈X.pn++pins,s.heap.get? p.1=some p.2/\H p.1=none/\p.1≠X.env.locals/\p.1∉X.fs/\∀ v,p.2.data≠.cell v
 hok:HOk X.prog X.w H s.heap
 len:σ.length=X.N.length
section
variable {X:Cx}{pins:List (Addr×Obj)}{σ:List (Option V)}{H H':Hp}{s:Shared}{h':Heap}
theorem Cx.Ok.zym(ok:X.Ok){b:Addr}{o:Obj}(e:X.base.get? b=some o):b∉X.fs:=fun hb=>by
 have:=(ok.zm2.mem hb).1
 rw [e] at this;cases this
theorem Inv.bs(I:Inv X pins σ H s):∀ b o,X.base.get? b=some o->s.heap.get? b=some o/\H b=none:=fun b o e =>
 ⟨I.base.keep b o (I.ok.bs b o e).1 (I.ok.bs b o e).2 (I.ok.zym e) (I.ok.noex b o e),I.base.free b o (I.ok.bs b o e).1 (I.ok.bs b o e).2 (I.ok.noex b o e)⟩
theorem Inv.bk(I:Inv X pins σ H s):∀ b o,X.base.get? b=some o->s.heap.get? b=some o:=fun b o e=>(I.bs b o e).1
theorem Inv.mod(I:Inv X pins σ H s):Mod X.K X.mg X.base:=I.ok.mod
theorem Inv.kIn(I:Inv X pins σ H s):X.K.In s.heap:=I.ok.mod.kin.keeps I.bk
theorem Inv.nolimit(I:Inv X pins σ H s):s.heap.NoLimit:=I.ok.mod.nolimit.keeps I.bk
theorem Inv.lt(I:Inv X pins σ H s):X.env.locals<s.heap.objs.size:=let⟨_,hn,_⟩:=I.loc;hn.lt
theorem Inv.sz(I:Inv X pins σ H s):X.s₀.heap.objs.size<=s.heap.objs.size:=Nat.le_trans I.ok.above (Nat.le_of_lt I.lt)
theorem Inv.zyl(I:Inv X pins σ H s){a:Addr}(h:s.heap.objs.size<=a):a∉X.fs:=fun hb=>by
 obtain⟨_,o,ho,_⟩:=I.ok.zm2.mem hb
 exact absurd (Nat.lt_of_lt_of_le (Heap.lt_size ho) (Nat.le_trans I.sz h)) (Nat.lt_irrefl _)
theorem Inv.cne(I:Inv X pins σ H s):∀ x c,X.env.cells.lookup x=some c->c≠X.env.locals:=fun x c e z=>by
 obtain⟨v,o,ho,hd⟩:=I.cell x c e
 obtain⟨m,⟨o',es,ep,ho',hd',_⟩,_⟩:=I.loc
 rw [z,ho'] at ho;cases ho;rw [hd'] at hd;cases hd
theorem Inv.zm2(I:Inv X pins σ H s):s.heap.FunFrames X.base X.outer:=by
 have all:∀(l:List Env),(∀ b∈frs l,b∈X.fs)->X.s₀.heap.FunFrames X.base l->s.heap.FunFrames X.base l:=by
  intro l
  induction l with
  | nil=>intro _ _;trivial
  | cons env r ih =>
   intro hs hl
   obtain⟨hk,⟨L,o,hf,hn,ho,hd⟩,hr⟩:=hl
   have hL:L∈X.fs:=hs L (by unfold frs;rw [List.filterMap_cons,hf];exact List.mem_cons_self)
   obtain⟨sl,e⟩:=I.base.slot L o ho (I.ok.frf L hL) hL fun z=>I.ok.exfs L z hL
   exact⟨hk,⟨L,_,hf,hn,e,hd⟩,ih (fun b hb=>hs b (by unfold frs;rw [List.filterMap_cons,hf];exact List.mem_cons_of_mem _ hb)) hr⟩
 exact all X.outer (fun _ hb=>hb) I.ok.zm2
theorem Inv.stack(I:Inv X pins σ H s):s.heap.FunFrames X.base X.stack:=by
 rcases I.ok.stk with e|⟨e,hf⟩
 ·rw [e];exact I.zm2
 ·rw [e]
  obtain⟨m,hn,_⟩:=I.loc
  refine .cons (by rw [I.ok.kind];decide) hf hn ?_ I.zm2
  exact Heap.get?_none_of_le (Nat.le_trans I.ok.bsz I.ok.above)
theorem Inv.znB(I:Inv X pins σ H s):∀ b∈frs X.stack,b∈X.env.locals::X.fs:=fun b hb=>by
 rcases I.ok.stk with e|⟨e,hf⟩
 ·rw [e] at hb;exact List.mem_cons_of_mem _ hb
 ·rw [e] at hb
  unfold frs at hb
  rw [List.filterMap_cons,hf] at hb
  exact hb
theorem Inv.znC(I:Inv X pins σ H s):∀ b∈frs X.stack,H b=none:=fun b hb=>by
 rcases List.mem_cons.mp (I.znB b hb) with e|hb
 ·rw [e];exact I.free
 ·obtain⟨_,o,ho,_⟩:=I.ok.zm2.mem hb
  exact I.base.free b o ho (I.ok.frf b hb) fun z=>I.ok.exfs b z hb
theorem Inv.step{g':Array GenState}{t':Nat}{d':Drawn}{ch:List Addr}(I:Inv X pins σ H s)
  (hch:∀ b∈ch,(b∈X.ex\/X.s₀.heap.objs.size<=b)/\b≠X.env.locals/\(∀ x c,X.env.cells.lookup x=some c->c≠b)/\∀ p∈X.pn++pins,p.1≠b)
  (keep:∀ b o,b≠X.env.locals->b∉X.fs->b∉ch->s.heap.get? b=some o->H b=none->h'.get? b=some o)
  (slot:∀ b o,b≠X.env.locals->b∈X.fs->b∉ch->s.heap.get? b=some o->H b=none->∃ sl,h'.get? b=some { o with slots:=sl })(free:∀ b o,b∉ch->s.heap.get? b=some o->H b=none->H' b=none)
  (there:∀ b o,b∉ch->s.heap.get? b=some o->∃ o',h'.get? b=some o')
  (tups:∀ b xs,H b=some (.tup xs)->H' b=some (.tup xs))(frzs:∀ b o u,H b=some (.frz o u)->H' b=some (.frz o u))(tbls:∀ b ps,H b=some (.tbl ps)->∃ more,H' b=some (.tbl (ps++more)))
  (ns:∀ m,s.heap.Ns X.env.locals m->h'.Ns X.env.locals m)(hok:HOk X.prog X.w H' h')(hg:AllBare g') :
  Inv X pins σ H' { s with heap:=h',gens:=g',drawn:=d',toks:=t' }:=by
 have neL:∀ b o,X.s₀.heap.get? b=some o->b≠X.env.locals:=fun b o e=>Nat.ne_of_lt (Nat.lt_of_lt_of_le (Heap.lt_size e) I.ok.above)
 have neC:∀ b o,X.s₀.heap.get? b=some o->b∉X.ex->b∉ch:=fun b o e hx hb=>by
  rcases (hch b hb).1 with z|z
  ·exact hx z
  ·exact absurd (Nat.lt_of_lt_of_le (Heap.lt_size e) z) (Nat.lt_irrefl _)
 have cellK:∀ x c,X.env.cells.lookup x=some c->∀ v,s.heap.IsCell c v->h'.IsCell c v:=fun x c e v ⟨o,ho,hd⟩=>by
  have nch:c∉ch:=fun z=>(hch c z).2.2.1 x c e rfl
  by_cases hc:c∈X.fs
  ·obtain⟨sl,q⟩:=slot c o (I.cne x c e) hc nch ho (I.freeC x c e)
   exact⟨_,q,hd⟩
  ·exact⟨o,keep c o (I.cne x c e) hc nch ho (I.freeC x c e),hd⟩
 refine⟨I.ok,I.os,hg,⟨fun b o e n hb hx=>?_,fun b o e n hb hx=>?_,fun b o e n hx=>?_,fun b o e hx=>?_,fun b xs e=>tups b xs (I.base.tups b xs e),fun b o xs e=>frzs b o xs (I.base.frzs b o xs e),fun b ps e=>?_⟩,?_,fun x c e=>?_,?_,fun x c e=>?_,fun p hp=>?_,hok,I.len⟩
 ·exact keep b o (neL b o e) hb (neC b o e hx) (I.base.keep b o e n hb hx) (I.base.free b o e n hx)
 ·obtain⟨sl,e1⟩:=I.base.slot b o e n hb hx
  obtain⟨sl',e2⟩:=slot b _ (neL b o e) hb (neC b o e hx) e1 (I.base.free b o e n hx)
  exact⟨sl',e2⟩
 ·obtain⟨o',e1⟩:=I.base.there b o e hx
  exact free b o' (neC b o e hx) e1 (I.base.free b o e n hx)
 ·obtain⟨o',e1⟩:=I.base.there b o e hx
  exact there b o' (neC b o e hx) e1
 ·obtain⟨m1,e1⟩:=I.base.tbls b ps e
  obtain⟨m2,e2⟩:=tbls b _ e1
  exact⟨m1++m2,by rw [e2,Array.append_assoc]⟩
 ·obtain⟨m,hn,hl⟩:=I.loc
  refine⟨m,ns m hn,fun i x v e1 e2 e3=>?_⟩
  obtain⟨u,r,l⟩:=hl i x v e1 e2 e3
  refine⟨u,r,?_⟩
  rcases l with l|⟨k,c,e,z⟩
  ·exact .inl l
  ·exact .inr ⟨k,c,e,cellK x c e _ z⟩
 ·obtain⟨v,z⟩:=I.cell x c e
  exact⟨v,cellK x c e v z⟩
 ·obtain⟨m,⟨o,_,_,ho,_⟩,_⟩:=I.loc
  exact free _ o (fun z=>(hch _ z).2.1 rfl) ho I.free
 ·obtain⟨v,o,ho,hd⟩:=I.cell x c e
  exact free c o (fun z=>(hch c z).2.2.1 x c e rfl) ho (I.freeC x c e)
 ·obtain⟨e,n,ne,nf,d⟩:=I.pin p hp
  have nch:p.1∉ch:=fun z=>(hch p.1 z).2.2.2 p hp rfl
  exact⟨keep p.1 p.2 ne nf nch e n,free p.1 p.2 nch e n,ne,nf,d⟩
theorem Inv.un{t':Nat}(I:Inv X pins σ H s)(u:Un X.fs [] H H' s.heap h')(hok:HOk X.prog X.w H' h'):Inv X pins σ H' { s with heap:=h',toks:=t' }:=by
 obtain⟨m,⟨o,es,ep,ho,r⟩,_⟩:=id I.loc
 obtain⟨sl,hL⟩:=u.any ho I.free (by simp)
 exact I.step (g':=s.gens) (d':=s.drawn) (ch:=[]) (fun _ z=>nomatch z) (fun b o _ hb _ e n=>u.keep b o e n hb (by simp)) (fun b o _ hb _ e n=>u.slot b o e n hb (by simp)) (fun b o _ e n=>u.free b o e n (by simp)) (fun b o _ e=>u.there b o e (by simp)) u.tups u.frzs u.tbls (fun m' hm=>by
  obtain⟨o',es',ep',ho',r'⟩:=hm
  rw [ho] at ho';cases ho'
  exact⟨_,es',ep',hL,r'⟩) hok I.bare
theorem Inv.call{g':Array GenState}{t':Nat}{d':Drawn}{ch:List Addr}(I:Inv X pins σ H s)(u:Un (frs X.stack) ch H H' s.heap h')(hok:HOk X.prog X.w H' h')(hg:AllBare g')
  (hch:∀ b∈ch,(b∈X.ex\/X.s₀.heap.objs.size<=b)/\b≠X.env.locals/\(∀ x c,X.env.cells.lookup x=some c->c≠b)/\∀ p∈X.pn++pins,p.1≠b) :
  Inv X pins σ H' { s with heap:=h',gens:=g',drawn:=d',toks:=t' }:=by
 obtain⟨m,⟨o,es,ep,ho,r⟩,_⟩:=id I.loc
 obtain⟨sl,hL⟩:=u.any ho I.free fun z=>(hch _ z).2.1 rfl
 exact I.step (ch:=ch) hch (fun b o hL hb hc e n=>u.keep b o e n (fun z=>(List.mem_cons.mp (I.znB b z)).elim hL hb) hc) (fun b o _ _ hc e n=>u.any e n hc) (fun b o hc e n=>u.free b o e n hc) (fun b o hc e=>u.there b o e hc) u.tups u.frzs u.tbls (fun m' hm=>by
  obtain⟨o',es',ep',ho',r'⟩:=hm
  rw [ho] at ho';cases ho'
  exact⟨_,es',ep',hL,r'⟩) hok hg
theorem Inv.turned{t':Nat}{it:Addr}(I:Inv X pins σ H s)(k:∀ b o,b≠it->s.heap.get? b=some o->h'.get? b=some o)(hn:H it=none)(hL:it≠X.env.locals)
  (h1:it∈X.ex\/X.s₀.heap.objs.size<=it)(h2:∀ x c,X.env.cells.lookup x=some c->c≠it)(h3:∀ p∈X.pn++pins,p.1≠it):Inv X pins σ H { s with heap:=h',toks:=t' }:=by
 have nit:∀ b u,H b=some u->b≠it:=fun b u e z=>by rw [z,hn] at e;cases e
 refine I.step (g':=s.gens) (d':=s.drawn) (ch:=[it]) (fun b hb=>?_) (fun b o _ _ hc e _=>k b o (fun z=>hc (by simp [z])) e) (fun b o _ _ hc e _=>⟨o.slots,k b o (fun z=>hc (by simp [z])) e⟩) (fun _ _ _ _ n=>n)
  (fun b o hc e=>⟨o,k b o (fun z=>hc (by simp [z])) e⟩) (fun _ _ e=>e) (fun _ _ _ e=>e) (fun b ps e=>⟨#[],by rw [e];simp⟩) (fun m hm=>?_) (fun b u e=>?_) I.bare
 ·have e:b=it:=by simpa using hb
  subst e
  exact⟨h1,hL,h2,h3⟩
 ·obtain⟨o,es,ep,ho,r⟩:=hm
  exact⟨o,es,ep,k _ o (Ne.symm hL) ho,r⟩
 ·refine(I.hok b u e).stay (fun c v hc q=>k c v ?_ q) (fun _ q=>q) fun _ _ q=>q
  rcases hc with z|z
  ·rw [z];exact nit b u e
  ·exact nit c _ z
theorem Inv.tok(I:Inv X pins σ H s)(t:Nat):Inv X pins σ H { s with toks:=t }:=I.un (h':=s.heap) (t':=t) Un.refl I.hok
theorem Inv.kept{t':Nat}(I:Inv X pins σ H s)(k:∀ b u,s.heap.get? b=some u->h'.get? b=some u):Inv X pins σ H { s with heap:=h',toks:=t' }:=I.un (Un.kept k) (I.hok.kept k)
theorem Inv.laid{a:Addr}{o:HO}{t':Nat}(I:Inv X pins σ H s)(k:∀ b u,s.heap.get? b=some u->h'.get? b=some u)(hp:s.heap.objs.size<=a)(new:zbM X.prog X.w (upd H a o) h' a o) :
  Inv X pins σ (upd H a o) { s with heap:=h',toks:=t' }:=I.un (Un.laid k hp (I.hok.fresh hp)) (I.hok.laid k hp new)
theorem Inv.write{x e:Addr}{o:HO}{t':Nat}(I:Inv X pins σ H s)(mu:Mut (H x))(he:e=x\/H e=some (.own x))(k:∀ b u,b≠e->s.heap.get? b=some u->h'.get? b=some u)(heo:∃ u,h'.get? e=some u)
  (new:zbM X.prog X.w (upd H x o) h' x o):Inv X pins σ (upd H x o) { s with heap:=h',toks:=t' }:=I.un (Un.write mu he k heo) (I.hok.write mu he k heo new)
theorem Inv.weak{σ':List (Option V)}(I:Inv X pins σ H s)(hl:σ'.length=σ.length)(w:∀(i:Nat) v,σ'[i]?=some (some v)->σ[i]?=some (some v)):Inv X pins σ' H s :=
 ⟨I.ok,I.os,I.bare,I.base,let⟨m,hn,hl'⟩:=I.loc;⟨m,hn,fun i x v e1 e2 e3=>hl' i x v e1 (w i v e2) e3⟩,I.cell,I.free,I.freeC,I.pin,I.hok,hl.trans I.len⟩
theorem Inv.ziC{pins':List (Addr×Obj)}(I:Inv X pins σ H s)(h:∀ p∈pins',s.heap.get? p.1=some p.2/\H p.1=none/\p.1≠X.env.locals/\p.1∉X.fs/\∀ v,p.2.data≠.cell v):Inv X pins' σ H s :=
 ⟨I.ok,I.os,I.bare,I.base,I.loc,I.cell,I.free,I.freeC,fun p hp=>(List.mem_append.mp hp).elim (fun z=>I.pin p (List.mem_append_left _ z)) (h p),I.hok,I.len⟩
theorem zl2{N:List Str}(hN:N.Nodup){i j:Nat}{x:Str}(a:N[i]?=some x)(b:N[j]?=some x):i=j:=by
 obtain⟨h1,e1⟩:=List.getElem?_eq_some_iff.mp a
 obtain⟨h2,e2⟩:=List.getElem?_eq_some_iff.mp b
 exact(List.getElem_inj hN).mp (e1.trans e2.symm)
theorem zju{M:Model}{A:Around}{E:Value->Shared->Prop}{i:Nat}{x:Str}{v:V}{u:Value}{Q:Unit->Shared->Prop}(I:Inv X pins σ H s)(hN:X.N.Nodup)(hi:X.N[i]?=some x)(hx:Loc X.env.scope x)(r:RelV v u)
  (h:∀ s',Inv X pins (σ.set i (some v)) H s'->(∃ a,Heap.SameBut a s.heap s'.heap/\(a=X.env.locals\/X.env.cells.lookup x=some a))->Q () s')(hf:X.fn x=true\/X.env.scope.names.lookup x=some .local:=by first|exact .inl rfl|exact .inr rfl|assumption):wpAny M A (storeName X.env x u) Q E s:=by
 obtain⟨m,hn,hl⟩:=id I.loc
 have hcls:(X.env.scope.kind==.class||(X.env.scope.kind==.module&&X.env.locals != X.env.globals))=false:=by rw [I.ok.kind];rfl
 have hiσ:i<σ.length:=by rw [I.len];exact(List.getElem?_eq_some_iff.mp hi).1
 have cne:=I.cne
 have tracked:∀{a:Addr} {h':Heap},(∃ o,s.heap.get? a=some o/\H a=none)->Heap.SameBut a s.heap h'->HOk X.prog X.w H h':=fun{a h'} ha hs b ob e=>by
  obtain⟨_,_,hfree⟩:=ha
  refine(I.hok b ob e).stay (fun c w' hc q=>(hs.2 c ?_).trans q) (fun _ q=>q) fun _ _ q=>q
  rintro rfl
  rcases hc with rfl|hc
  ·rw [hfree] at e;cases e
  ·rw [hfree] at hc;cases hc
 rcases hx with hk|hk
 ·refine wpAny_storeName_local hk hn (fun h' hn' hs=>?_) hcls
  obtain⟨oL,_,_,hoL,_⟩:=id hn
  refine h _ ⟨I.ok,I.os,I.bare,⟨fun b o e n hb hx=>?_,fun b o e n hb hx=>?_,I.base.free,fun b o e hx=>?_,I.base.tups,I.base.frzs,I.base.tbls⟩,⟨_,hn',fun j y v' e1 e2 e3=>?_⟩,fun y c e=>?_,I.free,I.freeC,fun p hp=>?_,tracked ⟨oL,hoL,I.free⟩ hs,by simpa using I.len⟩ ⟨_,hs,.inl rfl⟩
  ·exact(hs.2 b (Nat.ne_of_lt (Nat.lt_of_lt_of_le (Heap.lt_size e) I.ok.above))).trans (I.base.keep b o e n hb hx)
  ·obtain⟨sl,e1⟩:=I.base.slot b o e n hb hx
   exact⟨sl,(hs.2 b (Nat.ne_of_lt (Nat.lt_of_lt_of_le (Heap.lt_size e) I.ok.above))).trans e1⟩
  ·obtain⟨o',e1⟩:=I.base.there b o e hx
   exact⟨o',(hs.2 b (Nat.ne_of_lt (Nat.lt_of_lt_of_le (Heap.lt_size e) I.ok.above))).trans e1⟩
  ·by_cases hj:j=i
   ·subst hj
    rw [hi] at e1;cases e1
    rw [List.getElem?_set_self hiσ] at e2
    cases e2
    exact⟨u,r,.inl ⟨hk,by simp⟩⟩
   ·rw [List.getElem?_set_ne (Ne.symm hj)] at e2
    obtain⟨u',r',q⟩:=hl j y v' e1 e2 e3
    refine⟨u',r',?_⟩
    rcases q with⟨k,e⟩|⟨k,c,e,z⟩
    ·refine .inl ⟨k,?_⟩
     have:y≠x:=fun e=>hj (zl2 hN e1 (e▸hi))
     simp [this,e]
    ·exact .inr ⟨k,c,e,z.sameBut hs (cne y c e)⟩
  ·obtain⟨w',z⟩:=I.cell y c e
   exact⟨w',z.sameBut hs (cne y c e)⟩
  ·obtain⟨e,n,ne,nf,d⟩:=I.pin p hp
   exact⟨(hs.2 p.1 ne).trans e,n,ne,nf,d⟩
 ·have hfn:X.fn x=true:=by
   rcases hf with z|z
   ·exact z
   ·rw [z] at hk;cases hk
  obtain⟨c,hc⟩:=I.ok.has x (.inl hk)
  obtain⟨w',z⟩:=I.cell x c hc
  refine wpAny_storeName_cell I.ok.kind hk hc z (fun h' hc' hs=>?_)
  obtain⟨oc,hoc,hocd⟩:=id z
  refine h { s with heap:=h' } ⟨I.ok,I.os,I.bare,⟨fun b o e n hb hx=>?_,fun b o e n hb hx=>?_,I.base.free,fun b o e hx=>?_,I.base.tups,I.base.frzs,I.base.tbls⟩,⟨m,hn.sameBut hs (Ne.symm (cne x c hc)),fun j y v' e1 e2 e3=>?_⟩,fun y c' e=>?_,I.free,I.freeC,fun p hp=>?_,tracked ⟨oc,hoc,I.freeC x c hc⟩ hs,by simpa using I.len⟩ ⟨c,hs,.inr hc⟩
  ·exact(hs.2 b (Nat.ne_of_lt (Nat.lt_of_lt_of_le (Heap.lt_size e) (I.ok.cab x c hfn hc)))).trans (I.base.keep b o e n hb hx)
  ·obtain⟨sl,e1⟩:=I.base.slot b o e n hb hx
   exact⟨sl,(hs.2 b (Nat.ne_of_lt (Nat.lt_of_lt_of_le (Heap.lt_size e) (I.ok.cab x c hfn hc)))).trans e1⟩
  ·obtain⟨o',e1⟩:=I.base.there b o e hx
   exact⟨o',(hs.2 b (Nat.ne_of_lt (Nat.lt_of_lt_of_le (Heap.lt_size e) (I.ok.cab x c hfn hc)))).trans e1⟩
  ·by_cases hj:j=i
   ·subst hj
    rw [hi] at e1;cases e1
    rw [List.getElem?_set_self hiσ] at e2
    cases e2
    exact⟨u,r,.inr ⟨.inl hk,c,hc,hc'⟩⟩
   ·rw [List.getElem?_set_ne (Ne.symm hj)] at e2
    obtain⟨u',r',q⟩:=hl j y v' e1 e2 e3
    refine⟨u',r',?_⟩
    rcases q with q|⟨k,c',e,z'⟩
    ·exact .inl q
    ·refine .inr ⟨k,c',e,z'.sameBut hs ?_⟩
     rintro rfl
     exact hj (zl2 hN e1 (I.ok.inj _ _ _ e hc▸hi))
  ·by_cases hcc:c'=c
   ·subst hcc;exact⟨_,hc'⟩
   ·obtain⟨w2,z2⟩:=I.cell y c' e
    exact⟨w2,z2.sameBut hs hcc⟩
  ·obtain⟨e,n,ne,nf,d⟩:=I.pin p hp
   refine⟨(hs.2 p.1 ?_).trans e,n,ne,nf,d⟩
   intro q
   rw [q,hoc] at e
   have q':oc=p.2:=Option.some.inj e
   exact d w' (by rw [<- q'];exact hocd)
theorem zf8{M:Model}{A:Around}{E:Value->Shared->Prop}{i:Nat}{x:Str}{v:V}{u:Value}{Q:Unit->Shared->Prop}(I:Inv X pins σ H s)(hN:X.N.Nodup)(hi:X.N[i]?=some x)(hx:Loc X.env.scope x)(r:RelV v u)
  (h:∀ s',Inv X pins (σ.set i (some v)) H s'->Q () s')(hf:X.fn x=true\/X.env.scope.names.lookup x=some .local:=by first|exact .inl rfl|exact .inr rfl|assumption):wpAny M A (storeName X.env x u) Q E s :=
 zju I hN hi hx r (fun s' I' _=>h s' I') hf
theorem Inv.call'{s':Shared}{ch:List Addr}(I:Inv X pins σ H s)(ho:s'.os=s.os)(u:Un (frs X.stack) ch H H' s.heap s'.heap)(hok:HOk X.prog X.w H' s'.heap)(hg:AllBare s'.gens)
  (hch:∀ b∈ch,(b∈X.ex\/X.s₀.heap.objs.size<=b)/\b≠X.env.locals/\(∀ x c,X.env.cells.lookup x=some c->c≠b)/\∀ p∈X.pn++pins,p.1≠b):Inv X pins σ H' s':=by
 obtain⟨h',g',d',t',o'⟩:=s'
 have e:o'=s.os:=ho
 subst e
 exact I.call (g':=g') (t':=t') (d':=d') u hok hg hch
end
abbrev XK:=Value->Option Addr->Hp->Prop
abbrev St:=List (Option V)
abbrev VK:=V->Hp->Prop
abbrev TE:=St->Hp->VK->Prop
abbrev TT:=St->Hp->(Bool->Hp->Prop)->Prop
abbrev TA:=St->Hp->(List V->Hp->Prop)->Prop
structure Ends where
 nx:St->Hp->Prop
 rt:VK
 bk:St->Hp->Prop:=fun _ _=>False
 ct:St->Hp->Prop:=fun _ _=>False
abbrev TS:=Ends->St->Hp->Prop
def EP(X:Cx)(pins:List (Addr×Obj))(σ:St)(Q:VK)(u:Value)(s':Shared):Prop:=∃ v H',Inv X pins σ H' s'/\RelV v u/\Q v H'
def TP(X:Cx)(pins:List (Addr×Obj))(σ:St)(Q:Bool->Hp->Prop)(b:Bool)(s':Shared):Prop:=∃ H',Inv X pins σ H' s'/\Q b H'
def AP(X:Cx)(pins:List (Addr×Obj))(σ:St)(Q:List V->Hp->Prop)(us:List Value)(s':Shared):Prop:=∃ vs H',Inv X pins σ H' s'/\Vals vs us/\Q vs H'
def SP(X:Cx)(pins:List (Addr×Obj))(D:Ends)(f:Flow)(s':Shared):Prop :=
 match f with
 | .next=>∃ σ' H',Inv X pins σ' H' s'/\D.nx σ' H'
 | .brk=>∃ σ' H',Inv X pins σ' H' s'/\D.bk σ' H'
 | .cont=>∃ σ' H',Inv X pins σ' H' s'/\D.ct σ' H'
 | .ret u=>∃ v σ' H',Inv X pins σ' H' s'/\RelV v u/\D.rt v H'
def PE(X:Cx)(e:Expr)(t:TE):Prop :=
 ∀(pins:List (Addr×Obj)) (s:Shared) (σ:St) (H:Hp) (Q:VK),Inv X pins σ H s->t σ H Q->wpAny (model X.prog X.w) X.A (eval e X.env) (EP X pins σ Q) X.xe s
def PT(X:Cx)(e:Expr)(t:TT):Prop :=
 ∀(pins:List (Addr×Obj)) (s:Shared) (σ:St) (H:Hp) (Q:Bool->Hp->Prop),Inv X pins σ H s->t σ H Q->wpAny (model X.prog X.w) X.A (isTrue e X.env (eval e X.env)) (TP X pins σ Q) X.xe s
def PW(X:Cx)(e:Expr)(t:TT):Prop :=
 ∀(whole:Sem Value) (pins:List (Addr×Obj)) (s:Shared) (σ:St) (H:Hp) (Q:Bool->Hp->Prop),Inv X pins σ H s->t σ H Q->wpAny (model X.prog X.w) X.A (isTrue e X.env whole) (TP X pins σ Q) X.xe s
theorem PW.pt{X:Cx}{e:Expr}{t:TT}(h:PW X e t):PT X e t:=h _
def PA(X:Cx)(es:List Expr)(t:TA):Prop :=
 ∀(pos:Pos) (pins:List (Addr×Obj)) (s:Shared) (σ:St) (H:Hp) (Q:List V->Hp->Prop),Inv X pins σ H s->t σ H Q->wpAny (model X.prog X.w) X.A (spliced (backTo pos (starEach es X.env))) (AP X pins σ Q) X.xe s
def PS(X:Cx)(st:Stmt)(t:TS):Prop :=
 ∀(pins:List (Addr×Obj)) (s:Shared) (σ:St) (H:Hp) (D:Ends),Inv X pins σ H s->t D σ H->wpAny (model X.prog X.w) X.A (exec st X.env) (SP X pins D) X.xe s
def PSs(X:Cx)(st:List Stmt)(t:TS):Prop :=
 ∀(pins:List (Addr×Obj)) (s:Shared) (σ:St) (H:Hp) (D:Ends),Inv X pins σ H s->t D σ H->wpAny (model X.prog X.w) X.A (execs st X.env) (SP X pins D) X.xe s
theorem thn{α:Type}{t:Sem α}{Q Q':α->Shared->Prop}{M:Model}{A:Around}{E:Value->Shared->Prop}{s:Shared}(h:wpAny M A t Q E s)(hQ:∀ a s,Q a s->Q' a s):wpAny M A t Q' E s:=wpAny_mono h hQ fun _ _ x=>x
end
section
section
variable {X:Cx}
def zin(i:Nat):TE:=fun σ H Q=>∃ v,σ[i]?=some (some v)/\Q v H
def tC(v:V):TE:=fun _ H Q=>Q v H
theorem zrz{i:Nat}{x:Str}{pos:Pos}(hN:X.N[i]?=some x)(hv:Vis X.env.scope x)(hd:(x==("__debug__":Str))=false:=by decide) (hcd:(x==("__classdict__":Str))=false:=by decide):PE X (.Name x pos) (zin i):=by
 intro pins s σ H Q I h
 obtain⟨v,e,h⟩:=h
 obtain⟨m,hn,hl⟩:=I.loc
 obtain⟨u,r,l⟩:=hl i x v hN e hv
 have fin:EP X pins σ Q u s:=⟨v,H,I,r,h⟩
 rcases l with⟨hk,hm⟩|⟨hk,c,hc,hcell⟩
 ·exact wpAny_Name (wpAny_loadName_local I.ok.kind hk hn hm fin) hd
 ·rcases hk with hk|hk
  ·exact wpAny_Name (wpAny_loadName_cell I.ok.kind hk hc hcell fin) hd
  ·exact wpAny_Name (wpAny_loadName_free I.ok.kind hk hc hcell fin hcd) hd
theorem zuB{i j pos}:PE X (.Constant (.int i) j pos) (tC (.int i)):=fun _ _ _ H _ I h=>wpAny_Constant_int ⟨.int i,H,I.tok _,⟨_,rfl⟩,h⟩
theorem zwy{b j pos}:PE X (.Constant (.bool b) j pos) (tC (.bl b)):=fun _ _ _ H _ I h=>Constant_bool ⟨.bl b,H,I,rfl,h⟩
theorem zuz{j pos}:PE X (.Constant .none j pos) (tC .non):=fun _ _ _ H _ I h=>Constant_none ⟨.non,H,I,rfl,h⟩
def Gl(X:Cx)(x:Str):Prop:=X.env.kindOf x=some .globalImplicit
theorem zk4{E:Value->Shared->Prop}{pins:List (Addr×Obj)}{s:Shared}{σ:St}{H:Hp}{x:Str}{u:Value}{pos:Pos}{Q:Value->Shared->Prop}(I:Inv X pins σ H s)(hg:Gl X x)(hm:X.mg x=some u)(h:Q u s)
  (hd:(x==("__debug__":Str))=false:=by decide):wpAny (model X.prog X.w) X.A (eval (.Name x pos) X.env) Q E s :=
 Calls.Name_function_global I.ok.kind hg (Calls.loadGlobal_global (by rw [I.ok.glob];exact I.mod.glob.keeps I.bk) hm h) hd
theorem zgC{E:Value->Shared->Prop}{pins:List (Addr×Obj)}{s:Shared}{σ:St}{H:Hp}{x:Str}{u:Value}{pos:Pos}{Q:Value->Shared->Prop}(I:Inv X pins σ H s)(hg:Gl X x)(hm:X.mg x=none)(hv:bootBuiltins x=some u)(h:Q u s)
  (hn:x ≠ "__name__":=by decide) (hd:(x==("__debug__":Str))=false:=by decide):wpAny (model X.prog X.w) X.A (eval (.Name x pos) X.env) Q E s:=by
 obtain⟨mb,h1,h2⟩:=I.mod.blt
 exact Calls.Name_function_global I.ok.kind hg (Calls.loadGlobal_builtin (by rw [I.ok.glob];exact I.mod.glob.keeps I.bk) hm (by rw [I.ok.blt];exact h1.keeps I.bk) ((h2 x hn).trans hv) h) hd
theorem zoe{x:Str}{v:V}{u:Value}{pos:Pos}(hg:Gl X x)(hm:X.mg x=some u)(r:RelV v u)(hd:(x==("__debug__":Str))=false:=by decide):PE X (.Name x pos) (tC v) :=
 fun _ _ _ H _ I h=>zk4 I hg hm ⟨v,H,I,r,h⟩ hd
theorem zsW{x:Str}{v:V}{u:Value}{pos:Pos}(hg:Gl X x)(hm:X.mg x=none)(hv:bootBuiltins x=some u)(r:RelV v u)(hn:x ≠ "__name__":=by decide) (hd:(x==("__debug__":Str))=false:=by decide):PE X (.Name x pos) (tC v) :=
 fun _ _ _ H _ I h=>zgC I hg hm hv ⟨v,H,I,r,h⟩ hn hd
variable {a b:Expr}{ta tb:TE}{pos:Pos}
def tB(t:TE):TT:=fun σ H Q=>t σ H fun x H1=>∃ c,x=.bl c/\Q c H1
variable {tA tB':TT}{rest:List Expr}
def zwd(t u:TT):TT:=fun σ H Q=>t σ H fun c H1=>if c=true then u σ H1 Q else Q false H1
def tOr(t u:TT):TT:=fun σ H Q=>t σ H fun c H1=>if c=true then Q true H1 else u σ H1 Q
def zen(t:TT):TT:=fun σ H Q=>t σ H fun c H1=>Q (!c) H1
theorem zud(ha:PT X a tA):PW X (.BoolOp .Or [a] pos) tA:=by
 intro wh pins s σ H Q I h
 refine isTrue_or (thn (ha pins s σ H Q I h) fun c s1 e=>?_)
 cases c with
 | false=>exact isTrue_or_nil e
 | true=>exact e
theorem zwp(ha:PT X a tA)(hb:PW X (.BoolOp .Or (b::rest) pos) tB'):PW X (.BoolOp .Or (a::b::rest) pos) (tOr tA tB'):=by
 intro wh pins s σ H Q I h
 refine isTrue_or (thn (ha pins s σ H _ I h) fun c s1 ⟨H1,I1,q1⟩=>?_)
 cases c with
 | true=>exact⟨H1,I1,q1⟩
 | false=>exact hb wh pins s1 σ H1 Q I1 q1
theorem zun(ha:PT X a tA):PT X (.UnaryOp .Not a pos) (zen tA):=by
 intro pins s σ H Q I h
 exact isTrue_not (ha pins s σ H (fun c H1=>Q (!c) H1) I h)
def zwc(ta tb:TE):TE:=fun σ H Q=>ta σ H fun x H1=>∃ c,x=.bl c/\if c=true then tb σ H1 Q else Q (.bl false) H1
def zxU(ta tb:TE):TE:=fun σ H Q=>ta σ H fun x H1=>∃ c,x=.bl c/\if c=true then Q (.bl true) H1 else tb σ H1 Q
def zv8(ta:TE):TE:=fun σ H Q=>ta σ H fun x H1=>∃ c,x=.bl c/\Q (.bl (!c)) H1
theorem zux{op}{t:TE}(h:PE X a t):PE X (.BoolOp op [a] pos) t:=fun pins s σ H Q I hw=>BoolOp_one (h pins s σ H Q I hw)
theorem zuE(ha:PE X a ta)(hb:PE X (.BoolOp .And (b::rest) pos) tb):PE X (.BoolOp .And (a::b::rest) pos) (zwc ta tb):=by
 intro pins s σ H Q I h
 refine BoolOp_and (thn (ha pins s σ H _ I h) fun v s1 ⟨x,H1,I1,r1,q1⟩=>?_)
 obtain⟨c,rfl,q1⟩:=q1
 cases r1
 refine wpAny_truthy_bool ?_
 cases c with
 | true=>exact hb pins s1 σ H1 Q I1 q1
 | false=>exact⟨.bl false,H1,I1,rfl,q1⟩
theorem zwx(ha:PE X a ta)(hb:PE X (.BoolOp .Or (b::rest) pos) tb):PE X (.BoolOp .Or (a::b::rest) pos) (zxU ta tb):=by
 intro pins s σ H Q I h
 refine BoolOp_or (thn (ha pins s σ H _ I h) fun v s1 ⟨x,H1,I1,r1,q1⟩=>?_)
 obtain⟨c,rfl,q1⟩:=q1
 cases r1
 refine wpAny_truthy_bool ?_
 cases c with
 | false=>exact hb pins s1 σ H1 Q I1 q1
 | true=>exact⟨.bl true,H1,I1,rfl,q1⟩
theorem zuy(ha:PE X a ta):PE X (.UnaryOp .Not a pos) (zv8 ta):=by
 intro pins s σ H Q I h
 refine UnaryOp_ (thn (ha pins s σ H _ I h) fun v s1 ⟨x,H1,I1,r1,q1⟩=>?_)
 obtain⟨c,rfl,q1⟩:=q1
 cases r1
 exact not_of (wpAny_truthy_bool ⟨.bl (!c),H1,I1,rfl,q1⟩)
def tIf(t:TT)(ta tb:TE):TE:=fun σ H Q=>t σ H fun c H1=>if c=true then ta σ H1 Q else tb σ H1 Q
theorem zqo{c:Expr}(hc:PT X c tA)(ha:PE X a ta)(hb:PE X b tb):PE X (.IfExp c a b pos) (tIf tA ta tb):=by
 intro pins s σ H Q I h
 refine wpAny_IfExp (thn (hc pins s σ H _ I h) fun d s1 ⟨H1,I1,q1⟩=>?_)
 cases d with
 | true=>exact ha pins s1 σ H1 Q I1 q1
 | false=>exact hb pins s1 σ H1 Q I1 q1
end
end
section
def SqL(K:W.Frag)(H:Hp)(a:Addr)(xs:List V):Prop :=
 Rd H a (.lst xs) \/
  ∃(o:Obj) (its:Array Value) (n:Nat),K.lookup a=some o/\o.cls=.type "list"/\o.dict=none/\o.data=.seq its n/\its.size<=sizeLine/\Vals xs its.toList
def SqT(K:W.Frag)(H:Hp)(a:Addr)(xs:List V):Prop :=
 Rd H a (.tup xs) \/
  ∃(o:Obj) (its:Array Value) (n:Nat),K.lookup a=some o/\o.cls=.type "tuple"/\o.data=.seq its n/\its.size<=sizeLine/\Vals xs its.toList
def zyG:Value->Option V
 | .none=>some .non
 | .bool b=>some (.bl b)
 | .int i _=>some (.int i)
 | .str x _=>some (.str x)
 | .bytes b _=>some (.byt b)
 | .float b _=>some (.flt b)
 | .ref a=>some (.ref a)
 | .type n=>some (.ty n)
 | _=>none
theorem RelV.abs{x:V}{u:Value}(r:RelV x u):zyG u=some x:=by
 cases x with
 | non=>cases r;rfl
 | bl _=>cases r;rfl
 | int _=>obtain⟨t,rfl⟩:=r;rfl
 | str _=>obtain⟨t,rfl⟩:=r;rfl
 | byt _=>obtain⟨t,rfl⟩:=r;rfl
 | flt _=>obtain⟨t,rfl⟩:=r;rfl
 | ref _=>cases r;rfl
 | ty _=>cases r;rfl
theorem RelV.inj{x y:V}{u:Value}(r:RelV x u)(q:RelV y u):x=y:=Option.some.inj (r.abs.symm.trans q.abs)
theorem Vals.inj:∀{xs ys:List V} {us:List Value},Vals xs us->Vals ys us->xs=ys
 | _,_,_,.nil,.nil=>rfl
 | _,_,_,.cons r t,.cons r' t'=>by rw [r.inj r',Vals.inj t t']
section
variable {X:Cx}{pins:List (Addr×Obj)}{σ:St}{H:Hp}{s:Shared}{a:Addr}{xs ys:List V}
theorem SqL.of{K:W.Frag}(h:H a=some (.lst xs)):SqL K H a xs:=.inl (.inl h)
theorem Inv.list(I:Inv X pins σ H s)(h:SqL X.K H a xs):∃ its:List Value,Vals xs its/\PlainL s.heap a its.toArray/\xs.length<=sizeLine:=by
 rcases h with h|⟨o,its,n,hk,hc,hd,hs,hz,r⟩
 ·obtain⟨z,its,n,r,e⟩:=h.ok I.hok
  exact⟨its,r,⟨_,n,e,rfl,rfl,rfl⟩,z⟩
 ·refine⟨its.toList,r,⟨o,n,I.kIn a o hk,hc,hd,by simpa using hs⟩,?_⟩
  have e:=r.length
  simp only [Array.length_toList] at e
  omega
theorem Inv.tuple(I:Inv X pins σ H s)(h:SqT X.K H a xs):∃ its:List Value,Vals xs its/\IsTup s.heap a its.toArray/\xs.length<=sizeLine:=by
 rcases h with h|⟨o,its,n,hk,hc,hs,hz,r⟩
 ·obtain⟨z,its,r,p⟩:=h.ok I.hok
  exact⟨its,r,p,z⟩
 ·refine⟨its.toList,r,⟨o,I.kIn a o hk,hc,n,by simpa using hs⟩,?_⟩
  have e:=r.length
  simp only [Array.length_toList] at e
  omega
theorem Inv.zl9(I:Inv X pins σ H s)(h:SqL X.K H a xs)(h':SqL X.K H a ys):xs=ys:=by
 obtain⟨its,r,⟨o,n,e,_,_,d⟩,_⟩:=I.list h
 obtain⟨its',r',⟨o',n',e',_,_,d'⟩,_⟩:=I.list h'
 rw [e] at e';cases e'
 rw [d] at d'
 injection d' with d1 _
 have:its=its':=by simpa using congrArg Array.toList d1
 subst this
 exact r.inj r'
theorem Inv.znv(I:Inv X pins σ H s)(h:SqT X.K H a xs)(h':SqT X.K H a ys):xs=ys:=by
 obtain⟨its,r,⟨o,e,_,n,d⟩,_⟩:=I.tuple h
 obtain⟨its',r',⟨o',e',_,n',d'⟩,_⟩:=I.tuple h'
 rw [e] at e';cases e'
 rw [d] at d'
 injection d' with d1 _
 have:its=its':=by simpa using congrArg Array.toList d1
 subst this
 exact r.inj r'
end
abbrev Cx.wish(X:Cx)(E:Value->Shared->Prop):Cx:={ X with xe:=E }
abbrev Cx.nox(X:Cx):Cx:=X.wish fun _ _=>False
theorem Cx.Ok.wish{X:Cx}(ok:X.Ok)(E:Value->Shared->Prop):(X.wish E).Ok :=
 ⟨ok.mod,ok.kind,ok.glob,ok.blt,ok.above,ok.inj,ok.has,ok.cab,ok.hd,ok.frames,ok.stk,ok.exf,ok.bs,ok.bsz,ok.noex,ok.exfs,ok.zm2,ok.frf,ok.tree,ok.sk⟩
theorem Cx.Ok.zfF{X:Cx}{E:Value->Shared->Prop}(ok:(X.wish E).Ok):X.Ok :=
 ⟨ok.mod,ok.kind,ok.glob,ok.blt,ok.above,ok.inj,ok.has,ok.cab,ok.hd,ok.frames,ok.stk,ok.exf,ok.bs,ok.bsz,ok.noex,ok.exfs,ok.zm2,ok.frf,ok.tree,ok.sk⟩
section
variable {X:Cx}{pins:List (Addr×Obj)}{σ:St}{H:Hp}{s:Shared}{E:Value->Shared->Prop}
theorem Inv.wish(I:Inv X pins σ H s)(E:Value->Shared->Prop):Inv (X.wish E) pins σ H s:=⟨I.ok.wish E,I.os,I.bare,I.base,I.loc,I.cell,I.free,I.freeC,I.pin,I.hok,I.len⟩
theorem Inv.zfF(I:Inv (X.wish E) pins σ H s):Inv X pins σ H s:=⟨I.ok.zfF,I.os,I.bare,I.base,I.loc,I.cell,I.free,I.freeC,I.pin,I.hok,I.len⟩
theorem SP.zfF{D:Ends}{f:Flow}{s':Shared}(h:SP (X.wish E) pins D f s'):SP X pins D f s':=by
 cases f with
 | next=>obtain⟨σ',H',I,q⟩:=h;exact⟨σ',H',I.zfF,q⟩
 | brk=>obtain⟨σ',H',I,q⟩:=h;exact⟨σ',H',I.zfF,q⟩
 | cont=>obtain⟨σ',H',I,q⟩:=h;exact⟨σ',H',I.zfF,q⟩
 | ret u=>obtain⟨v,σ',H',I,r,q⟩:=h;exact⟨v,σ',H',I.zfF,r,q⟩
theorem PSs.nox{st:List Stmt}{t:TS}(h:PSs X.nox st t):PSs X st t:=fun pins s σ H D I hw =>
 wpAny_mono (h pins s σ H D (I.wish _) hw) (fun _ _ q=>q.zfF) fun _ _ z=>False.elim z
end
section
variable {X:Cx}{st:Stmt}{rest:List Stmt}{t u:TS}{e:Expr}{te:TE}{pos:Pos}
def zv9:TS:=fun D σ H=>D.nx σ H
def zxR(t u:TS):TS:=fun D σ H=>t { D with nx:=u D } σ H
theorem znZ:PSs X [] zv9:=fun _ _ σ H _ I h=>wpAny_execs_nil ⟨σ,H,I,h⟩
theorem ziy(h1:PS X st t)(h2:PSs X rest u):PSs X (st::rest) (zxR t u):=by
 intro pins s σ H D I h
 refine wpAny_execs_cons (thn (h1 pins s σ H { D with nx:=u D } I h) fun f s1 q=>?_)
 cases f with
 | next =>
  obtain⟨σ',H',I',q⟩:=q
  exact h2 pins s1 σ' H' D I' q
 | ret v=>exact q
 | brk=>exact q
 | cont=>exact q
theorem zix(h1:PS X st t):PSs X [st] t:=by
 intro pins s σ H D I h
 refine wpAny_execs_cons (thn (h1 pins s σ H D I h) fun f s1 q=>?_)
 cases f with
 | next=>exact wpAny_execs_nil q
 | ret v=>exact q
 | brk=>exact q
 | cont=>exact q
theorem Inv.quiet{pins:List (Addr×Obj)}{σ:St}{H:Hp}{s:Shared}(I:Inv X pins σ H s):interactive X.env=false:=by simp [interactive,I.ok.kind]
def zwa(te:TE):TS:=fun D σ H=>te σ H fun _ H1=>D.nx σ H1
theorem zn3(he:PE X e te)(hs:swapsWith e none pos.line X.env=pure false:=by rfl):PS X (.Expr e pos) (zwa te):=by
 intro pins s σ H D I h
 exact wpAny_Expr_any (thn (he pins s σ H _ I h) fun v s1 ⟨x,H1,I1,r1,q1⟩=>⟨σ,H1,I1,q1⟩) I.quiet hs
def zxS(te:TE):TS:=fun D σ H=>te σ H D.rt
theorem zlV(he:PE X e te):PS X (.Return (some e) pos) (zxS te):=by
 intro pins s σ H D I h
 exact wpAny_Return_some (thn (he pins s σ H _ I h) fun v s1 ⟨x,H1,I1,r1,q1⟩=>⟨x,σ,H1,I1,r1,q1⟩)
def zxX(c:TT)(t u:TS):TS:=fun D σ H=>c σ H fun b H1=>if b=true then t D σ H1 else u D σ H1
theorem zuq{c:Expr}{a b:List Stmt}{tc:TT}(hc:PT X c tc)(ha:PSs X a t)(hb:PSs X b u):PS X (.If c a b pos) (zxX tc t u):=by
 intro pins s σ H D I h
 refine wpAny_If (thn (hc pins s σ H _ I h) fun d s1 ⟨H1,I1,q1⟩=>?_)
 cases d with
 | true=>exact ha pins s1 σ H1 D I1 q1
 | false=>exact hb pins s1 σ H1 D I1 q1
def ztY:TS:=fun _ _ _=>False
theorem zqj:PS X st ztY:=fun _ _ _ _ _ _ h=>h.elim
end
abbrev TG:=V->St->Hp->(St->Hp->Prop)->Prop
abbrev TGs:=List V->St->Hp->(St->Hp->Prop)->Prop
def PG(X:Cx)(target:Expr)(t:TG):Prop :=
 ∀(pins:List (Addr×Obj)) (s:Shared) (σ:St) (H:Hp) (v:V) (u:Value) (Q:St->Hp->Prop),Inv X pins σ H s->RelV v u->t v σ H Q ->
  wpAny (model X.prog X.w) X.A (assign target X.env u) (fun _ s'=>∃ σ' H',Inv X pins σ' H' s'/\Q σ' H') X.xe s
def PGs(X:Cx)(ts:List Expr)(t:TGs):Prop :=
 ∀(pins:List (Addr×Obj)) (s:Shared) (σ:St) (H:Hp) (vs:List V) (us:List Value) (Q:St->Hp->Prop),Inv X pins σ H s->Vals vs us->t vs σ H Q ->
  wpAny (model X.prog X.w) X.A (assignInOrder ((assignEach ts X.env).map (·.2)) us) (fun _ s'=>∃ σ' H',Inv X pins σ' H' s'/\Q σ' H') X.xe s
abbrev zxj:=V->V->V->Hp->(Hp->Prop)->Prop
def zxN(X:Cx)(t:zxj):Prop :=
 ∀(pins:List (Addr×Obj)) (s:Shared) (σ:St) (H:Hp) (o i v:V) (ov iv u:Value) (Q:Hp->Prop),Inv X pins σ H s->RelV o ov->RelV i iv->RelV v u->t o i v H Q ->
  wpAny (model X.prog X.w) X.A (setItem ov iv u) (fun _ s'=>∃ H',Inv X pins σ H' s'/\Q H') X.xe s
section
variable {X:Cx}{pos:Pos}
def zm1(i:Nat):TG:=fun v σ H Q=>Q (σ.set i (some v)) H
theorem zod{i:Nat}{x:Str}(hN:X.N.Nodup)(hi:X.N[i]?=some x)(hx:Loc X.env.scope x)(hf:X.fn x=true\/X.env.scope.names.lookup x=some .local:=by first|exact .inl rfl|exact .inr rfl|assumption):PG X (.Name x pos) (zm1 i):=by
 intro pins s σ H v u Q I r h
 exact wpAny_assign_Name (zf8 I hN hi hx r (fun s' I'=>⟨_,H,I',h⟩) hf)
def zyy:TGs:=fun vs σ H Q=>vs=[]/\Q σ H
def zw3(t:TG)(u:TGs):TGs:=fun vs σ H Q=>∃ v r,vs=v::r/\t v σ H fun σ' H'=>u r σ' H' Q
theorem zsT:PGs X [] zyy:=by
 intro pins s σ H vs us Q I r h
 obtain⟨e,h⟩:=h
 subst e
 cases r
 exact assignInOrder_nil ⟨σ,H,I,h⟩
theorem zqm{e:Expr}{es:List Expr}{t:TG}{u:TGs}(h1:PG X e t)(h2:PGs X es u)
  (hs:(assignEach (e::es) X.env).map (·.2)=assign e X.env::(assignEach es X.env).map (·.2):=by rfl):PGs X (e::es) (zw3 t u):=by
 intro pins s σ H vs us Q I r h
 obtain⟨v,vr,e1,h⟩:=h
 subst e1
 cases r with
 | cons r rr =>
  rw [hs]
  refine assignInOrder_cons (thn (h1 pins s σ H _ _ _ I r h) fun _ s1 ⟨σ1,H1,I1,q1⟩=>?_)
  exact h2 pins s1 σ1 H1 _ _ Q I1 rr q1
def zyw(K:W.Frag)(n:Nat)(t:TGs):TG:=fun v σ H Q=>∃ a xs,v=.ref a/\SqT K H a xs/\xs.length=n/\t xs σ H Q
theorem zut{es:List Expr}{k:Nat}{t:TGs}{n:Nat}(hc:X.calm=true)(h:PGs X es t)
  (hn:(assignEach es X.env).length=n:=by rfl)(hst:(assignEach es X.env).findIdx? (·.1)=none:=by rfl):PG X (.Tuple es k pos) (zyw X.K n t):=by
 intro pins s σ H v u Q I r hw
 obtain⟨a,xs,e1,hq,hl,hw⟩:=hw
 subst e1
 cases r
 obtain⟨its,rv,ht,hz⟩:=I.tuple hq
 refine assign_Tuple_tuple (I.ok.hd hc) ht (by simp [hn,<- hl,rv.length]) hst fun h' hx=>?_
 have I1:Inv X pins σ H { s with heap:=h' }:=I.kept (t':=s.toks) fun b o e=>hx b o (Nat.ne_of_lt (Heap.lt_size e)) e
 exact h pins _ σ H xs _ Q I1 (by simpa using rv) hw
def zyx(to ti:TE)(t:zxj):TG:=fun v σ H Q=>to σ H fun o H1=>ti σ H1 fun i H2=>t o i v H2 fun H3=>Q σ H3
theorem zuu{o i:Expr}{to ti:TE}{t:zxj}(ho:PE X o to)(hi:PE X i ti)(hs:zxN X t)
  (ha:∀ v,assign (.Subscript o i pos) X.env v=(do
   let ov <- holding [v] (eval o X.env)
   let iv <- holding [v,ov] (eval i X.env)
   standAt pos
   holding [v,ov,iv] (setItem ov iv v)
   release [v,ov,iv] []):=by intro _;rfl):PG X (.Subscript o i pos) (zyx to ti t):=by
 intro pins s σ H v u Q I r h
 rw [ha]
 refine wpAny_bind (wpAny_holding (thn (ho pins s σ H _ I h) fun ov s1 ⟨x,H1,I1,r1,q1⟩=>?_))
 refine wpAny_bind (wpAny_holding (thn (hi pins s1 σ H1 _ I1 q1) fun iv s2 ⟨y,H2,I2,r2,q2⟩=>?_))
 refine wpAny_bind (wpAny_standAt (wpAny_bind (wpAny_holding (thn (hs pins s2 σ H2 x y v ov iv u _ I2 r1 r2 r q2) fun _ s3 ⟨H3,I3,q3⟩=>?_))))
 exact wpAny_release ⟨σ,H3,I3,q3⟩
def ztE(te:TE)(g:TG):TS:=fun D σ H=>te σ H fun x H1=>g x σ H1 D.nx
theorem zry{tg e:Expr}{te:TE}{g:TG}(he:PE X e te)(hg:PG X tg g)(hs:swapsWithSole [tg] e pos.line X.env=pure false:=by rfl)(hw:swappedStores [tg] e X.env=pure none:=by rfl)
  (h1:(assignEach [tg] X.env).map (·.2)=[assign tg X.env]:=by rfl):PS X (.Assign [tg] e pos) (ztE te g):=by
 intro pins s σ H D I h
 refine wpAny_Assign_stores (thn (he pins s σ H _ I h) fun v s1 ⟨x,H1,I1,r1,q1⟩=>?_) hs hw
 rw [h1]
 exact thn (hg pins s1 σ H1 x v _ I1 r1 q1) fun _ s2 q=>q
theorem zn2{i:Nat}{x:Str}{e:Expr}{te:TE}{pos':Pos}(hN:X.N.Nodup)(hi:X.N[i]?=some x)(hx:Loc X.env.scope x)(he:PE X e te)(hs:swapsWith e (some (.Name x pos')) pos.line X.env=pure false:=by rfl)(hf:X.fn x=true\/X.env.scope.names.lookup x=some .local:=by first|exact .inl rfl|exact .inr rfl|assumption) :
  PS X (.Assign [.Name x pos'] e pos) (ztE te (zm1 i)):=by
 intro pins s σ H D I h
 refine wpAny_Assign_Name (thn (he pins s σ H _ I h) fun v s1 ⟨y,H1,I1,r1,q1⟩=>?_) hs
 exact zf8 I1 hN hi hx r1 (fun s2 I2=>⟨_,H1,I2,q1⟩) hf
def zxT(i j:Nat)(ta:TA):TS:=fun D σ H=>ta σ H fun vs H1=>∃ v w,vs=[v,w]/\D.nx ((σ.set i (some v)).set j (some w)) H1
theorem zup{i j:Nat}{x y:Str}{a b:Expr}{ta:TA}{px py pt:Pos}{kt k2 pt2}(hc:X.calm=true)(hN:X.N.Nodup)(hi:X.N[i]?=some x)(hj:X.N[j]?=some y)(hij:i≠j)
  (hx:X.env.scope.names.lookup x=some .local)(hy:X.env.scope.names.lookup y=some .local)(ha:PA X [a,b] ta)
  (hw:swappedStores [.Tuple [.Name x px,.Name y py] kt pt] (.Tuple [a,b] k2 pt2) X.env=pure (some [x,y]))
  (hs:swapsWithSole [.Tuple [.Name x px,.Name y py] kt pt] (.Tuple [a,b] k2 pt2) pos.line X.env=pure false:=by rfl) :
  PS X (.Assign [.Tuple [.Name x px,.Name y py] kt pt] (.Tuple [a,b] k2 pt2) pos) (zxT i j ta):=by
 intro pins s σ H D I h
 rw [exec_Assign_arm]
 refine wpAny_bind (wpAny_standAt ?_)
 rw [hs]
 refine wpAny_bind (wpAny_pure ?_)
 rw [if_neg (by decide)]
 refine wpAny_bind (Tuple_ (thn (ha _ pins s σ H _ I h) fun us s1 ⟨vs,H1,I1,r1,q1⟩=>?_))
 obtain⟨v,w,e1,q1⟩:=q1
 subst e1
 obtain⟨u1,u2,rfl,rv,rw'⟩:∃ u1 u2,us=[u1,u2]/\RelV v u1/\RelV w u2:=by
  cases r1 with
  | cons p q =>
   cases q with
   | cons p' q' =>
    cases q'
    exact⟨_,_,rfl,p,p'⟩
 refine wpAny_newObj_type ?_ (by show 2<=sizeLine;decide)
 have I2:Inv X pins σ H1 { s1 with heap:=s1.heap.push { cls:=.type "tuple",data:=.seq [u1,u2].toArray } }:=I1.kept (t':=s1.toks) fun b o e=>Heap.get?_push_of_some _ e
 rw [hw]
 refine wpAny_bind (wpAny_pure ?_)
 show wpAny (model X.prog X.w) X.A (do rule "assign.swapped-stores";let items <- unpackItems (.ref s1.heap.objs.size) 2 none;assignInOrder [fun v=>bindName X.env y v,fun v=>bindName X.env x v] items.reverse;pure Flow.next) _ _ _
 refine wpAny_bind (wpAny_rule (wpAny_bind (unpackItems_tuple (items:=#[u1,u2]) (I.ok.hd hc) (IsTup.new s1.heap _) fun h' hx'=>?_)))
 have I3:=I2.kept (h':=h') (t':=s1.toks) fun b o e=>hx' b o (Nat.ne_of_lt (Heap.lt_size e)) e
 show wpAny _ _ (assignInOrder [fun v=>bindName X.env y v,fun v=>bindName X.env x v] [u2,u1] >>= fun _=>pure Flow.next) _ _ _
 refine wpAny_bind (assignInOrder_cons (wpAny_bindName (zf8 I3 hN hj (.inl hy) rw' (fun s2 I4=>?_) (.inr hy))))
 refine assignInOrder_cons (wpAny_bindName (zf8 I4 hN hi (.inl hx) rv (fun s3 I5=>assignInOrder_nil (wpAny_pure ?_)) (.inr hx)))
 rw [List.set_comm _ _ (Ne.symm hij)] at I5
 exact⟨_,H1,I5,q1⟩
end
section
variable {X:Cx}{pos:Pos}
def ztW(c:TT)(tb:TS):TS:=fun D σ H=>∃ W:Nat->St->Hp->Prop,(∃ m,W m σ H)/\∀ m σ H,W m σ H ->
 c σ H fun b H1=>if b=true then ∃ N:St->Hp->Prop,(∀ σ' H',N σ' H'->∃ m',m'<m/\W m' σ' H')/\tb { D with nx:=N,ct:=N,bk:=D.nx } σ H1 else D.nx σ H1
theorem zqi{c:Expr}{body:List Stmt}{tc:TT}{tb:TS}(hp:PassesOwn (model X.prog X.w) X.A X.env X.xe)(hc:PT X c tc)(hb:PSs X body tb):PS X (.While c body [] pos) (ztW tc tb):=by
 intro pins s σ H D I h
 obtain⟨W,⟨m0,w0⟩,turn⟩:=h
 refine wpAny_While (codeAny_whileLoop (fun n s'=>∃ σ' H',Inv X pins σ' H' s'/\W n σ' H') ?_ m0 ⟨σ,H,I,w0⟩)
 rintro n s1 ⟨σ1,H1,I1,w1⟩
 refine wpAny_passesOwn hp (thn (hc pins s1 σ1 H1 _ I1 (turn n σ1 H1 w1)) fun b s2 ⟨H2,I2,q2⟩=>?_)
 cases b with
 | true =>
  obtain⟨N,hN,q2⟩:=q2
  rw [if_pos rfl]
  refine wpAny_passesOwn hp (thn (hb pins s2 σ1 H2 _ I2 q2) fun f s3 q3=>?_)
  cases f with
  | next =>
   obtain⟨σ3,H3,I3,n3⟩:=q3
   obtain⟨m',hm,w3⟩:=hN σ3 H3 n3
   exact⟨m',hm,σ3,H3,I3,w3⟩
  | cont =>
   obtain⟨σ3,H3,I3,n3⟩:=q3
   obtain⟨m',hm,w3⟩:=hN σ3 H3 n3
   exact⟨m',hm,σ3,H3,I3,w3⟩
  | brk=>exact q3
  | ret v=>exact q3
 | false =>
  rw [if_neg Bool.false_ne_true]
  exact wpAny_execs_nil ⟨σ1,H2,I2,q2⟩
end
structure It where
 go:Nat->Hp->Prop
 yld:Nat->Hp->V->Hp->Prop
 stop:Nat->Hp->Prop
def zhn(X:Cx)(pins:List (Addr×Obj))(H:Hp)(b:Addr):Prop :=
 H b=none/\b≠X.env.locals/\b∉X.fs/\(b∈X.ex\/X.s₀.heap.objs.size<=b)/\(∀ x c,X.env.cells.lookup x=some c->c≠b)/\∀ p∈X.pn++pins,p.1≠b
theorem Inv.zpO{X:Cx}{pins:List (Addr×Obj)}{σ:St}{H H':Hp}{s:Shared}{b:Addr}(I:Inv X pins σ H s)(hb:s.heap.objs.size<=b)(hn:H' b=none):zhn X pins H' b:=by
 refine⟨hn,Nat.ne_of_gt (Nat.lt_of_lt_of_le I.lt hb),I.zyl hb,.inr (Nat.le_trans I.sz hb),fun x c e z=>?_,fun p hp z=>?_⟩
 ·obtain⟨v,q⟩:=I.cell x c e
  exact absurd (Nat.lt_of_lt_of_le q.lt (by rw [z];exact hb)) (Nat.lt_irrefl _)
 ·exact absurd (Nat.lt_of_lt_of_le (Heap.lt_size (I.pin p hp).1) (by rw [z];exact hb)) (Nat.lt_irrefl _)
structure Turn(P:Program)(w:World)(K:W.Frag)(tg:Expr)(J:It)(fp:List Addr)(it:Addr)(tn:Nat->Heap->Prop):Prop where
 mem:it∈fp
 obj:∀ i h,tn i h->∀ b∈fp,∃ o,h.get? b=some o/\∀ v,o.data≠.cell v
 keep:∀ i h h',tn i h->(∀ b∈fp,∀ o,h.get? b=some o->h'.get? b=some o)->tn i h'
 item:∀(X:Cx),X.prog=P->X.w=w->X.K=K->X.calm=true->∀(i:Nat) (pins:List (Addr×Obj)) (s:Shared) (σ:St) (H:Hp) (E:Value->Shared->Prop),Inv X pins σ H s->(∀ b∈fp,zhn X pins H b)->tn i s.heap->J.go i H ->
  wpAny (model P w) X.A (pyNext (.ref it)) (fun r s1=>∃ u,r=some u /\
   wpAny (model P w) X.A (letOwnedTupleGo tg (.ref it) u) (fun _ s2=>∃ x H',Inv X pins σ H' s2/\RelV x u/\J.yld i H x H'/\tn (i+1) s2.heap/\∀ b∈fp,H' b=none) E s1) E s
 done:∀(X:Cx),X.prog=P->X.w=w->X.K=K->X.calm=true->∀(i:Nat) (pins:List (Addr×Obj)) (s:Shared) (σ:St) (H:Hp) (E:Value->Shared->Prop),Inv X pins σ H s->(∀ b∈fp,zhn X pins H b)->tn i s.heap->J.stop i H ->
  wpAny (model P w) X.A (pyNext (.ref it)) (fun r s1=>r=none/\Inv X pins σ H s1) E s
 self:∀(A:Around) (i:Nat) (s:Shared) (Q:Value->Shared->Prop) (E:Value->Shared->Prop),tn i s.heap->Q (.ref it) s->wpAny (model P w) A (pyIter (.ref it)) Q E s
abbrev TI:=St->Hp->(It->Hp->Prop)->Prop
def PIE(X:Cx)(pins:List (Addr×Obj))(σ:St)(tg:Expr)(R:It->Hp->Prop)(itv:Value)(s2:Shared):Prop :=
 ∃(it:Addr) (fp:List Addr) (tn:Nat->Heap->Prop) (J:It) (H':Hp),itv=.ref it/\Inv X pins σ H' s2/\Turn X.prog X.w X.K tg J fp it tn/\tn 0 s2.heap/\(∀ b∈fp,zhn X pins H' b)/\R J H'
def PI(X:Cx)(tg iter:Expr)(wi:TI):Prop :=
 ∀(pins:List (Addr×Obj)) (s:Shared) (σ:St) (H:Hp) (R:It->Hp->Prop),Inv X pins σ H s->wi σ H R ->
  wpAny (model X.prog X.w) X.A (eval iter X.env) (fun v s1=>wpAny (model X.prog X.w) X.A (pyIter v) (PIE X pins σ tg R) X.xe s1) X.xe s
theorem zqU{M:Model}{A:Around}{E:Value->Shared->Prop}{s:Shared}{tg:Expr}{it:Addr}{u:Value}{o:Obj}{n:String}{vs:Array Value}{Q:Unit->Shared->Prop}(ho:s.heap.get? it=some o)(hc:o.cls=.type n)(hd:o.data=.fields vs)
    (hn:["enumerate","zip","dict_itemiterator","dict_reverseitemiterator","odict_iterator","itertools.zip_longest","itertools.pairwise"].contains n=false) (hQ:Q () s):wpAny M A (letOwnedTupleGo tg (.ref it) u) Q E s:=by
  unfold letOwnedTupleGo
  cases tg <;> first
    | exact wpAny_pure hQ
    | (cases u <;> first
        | exact wpAny_pure hQ
        | (refine wpAny_bind (wpAny_load ho ?_)
           rw [hc,hd]
           show wpAny M A (if(["enumerate","zip","dict_itemiterator","dict_reverseitemiterator","odict_iterator","itertools.zip_longest","itertools.pairwise"].contains n&&vs[0]?==some (rawInt _))=true then _ else _) Q E s
           rw [if_neg (by intro h;rw [hn,Bool.false_and] at h;cases h)]
           exact wpAny_pure hQ))
def Itl(K:W.Frag)(a:Addr):It :=
 ⟨fun i H=>∃ xs x,SqL K H a xs/\xs[i]?=some x,fun i H x H'=>H'=H/\∀ xs,SqL K H a xs->xs[i]?=some x,fun i H=>∃ xs,SqL K H a xs/\xs.length<=i⟩
def Itt(K:W.Frag)(a:Addr):It :=
 ⟨fun i H=>∃ xs x,SqT K H a xs/\xs[i]?=some x,fun i H x H'=>H'=H/\∀ xs,SqT K H a xs->xs[i]?=some x,fun i H=>∃ xs,SqT K H a xs/\xs.length<=i⟩
def Itr(lo:Int)(n:Nat):It:=⟨fun i _=>i<n,fun i H x H'=>H'=H/\x=.int (lo+i),fun i _=>n<=i⟩
theorem zjs{P:Program}{w:World}{K:W.Frag}{tg:Expr}(a it:Addr):Turn P w K tg (Itl K a) [it] it (fun i h=>h.IsListIter it a i) where
 mem:=by simp
 obj:=fun i h st b hb=>by
  have e:b=it:=by simpa using hb
  subst e
  obtain⟨o,e,c,d⟩:=st
  exact⟨o,e,fun v z=>by rw [d] at z;cases z⟩
 keep:=fun i h h' st k=>st.at fun o e=>k it (by simp) o e
 item:=by
  intro X hP hw hK hc i pins s σ H E I hf st hg
  subst hP hw hK
  obtain⟨xs,x,hq,hx⟩:=hg
  obtain⟨its,rv,p,hz⟩:=I.list hq
  obtain⟨u,hu,ru⟩:=rv.get hx
  obtain⟨f0,f1,f2,f3,f4,f5⟩:=hf it (by simp)
  refine wpAny_pyNext_list_item st p.isList (x:=u) (by simpa using hu) fun h' st' sb=>?_
  have I1:Inv X pins σ H { s with heap:=h' }:=I.turned (t':=s.toks) (fun b o hb e=>(sb.2 b hb).trans e) f0 f1 f3 f4 f5
  obtain⟨o,e,c,d⟩:=id st'
  exact⟨u,rfl,zqU (s:={ s with heap:=h' }) e c d (by decide) ⟨x,H,I1,ru,⟨rfl,fun ys hy=>by rw [I.zl9 hy hq];exact hx⟩,st',fun b hb=>(hf b hb).1⟩⟩
 done:=by
  intro X hP hw hK hc i pins s σ H E I hf st hg
  subst hP hw hK
  obtain⟨xs,hq,hx⟩:=hg
  obtain⟨its,rv,p,hz⟩:=I.list hq
  obtain⟨f0,f1,f2,f3,f4,f5⟩:=hf it (by simp)
  have hl:=rv.length
  exact wpAny_pyNext_list_end (I.ok.hd hc) st p.isList (by simp;omega) fun h' eb=>⟨rfl,I.turned (t':=s.toks) (fun b o hb e=>eb b o hb e) f0 f1 f3 f4 f5⟩
 self:=fun _ _ _ _ _ st h=>wpAny_pyIter_listiter st h
theorem zmB{P:Program}{w:World}{K:W.Frag}{tg:Expr}(a it:Addr):Turn P w K tg (Itt K a) [it] it (fun i h=>h.IsTupleIter it a i) where
 mem:=by simp
 obj:=fun i h st b hb=>by
  have e:b=it:=by simpa using hb
  subst e
  obtain⟨o,e,c,d⟩:=st
  exact⟨o,e,fun v z=>by rw [d] at z;cases z⟩
 keep:=fun i h h' st k=>st.at fun o e=>k it (by simp) o e
 item:=by
  intro X hP hw hK hc i pins s σ H E I hf st hg
  subst hP hw hK
  obtain⟨xs,x,hq,hx⟩:=hg
  obtain⟨its,rv,p,hz⟩:=I.tuple hq
  obtain⟨u,hu,ru⟩:=rv.get hx
  obtain⟨f0,f1,f2,f3,f4,f5⟩:=hf it (by simp)
  refine wpAny_pyNext_tuple_item st (show s.heap.IsTuple a its.toArray from p) (x:=u) (by simpa using hu) fun h' st' sb=>?_
  have I1:Inv X pins σ H { s with heap:=h' }:=I.turned (t':=s.toks) (fun b o hb e=>(sb.2 b hb).trans e) f0 f1 f3 f4 f5
  obtain⟨o,e,c,d⟩:=id st'
  exact⟨u,rfl,zqU (s:={ s with heap:=h' }) e c d (by decide) ⟨x,H,I1,ru,⟨rfl,fun ys hy=>by rw [I.znv hy hq];exact hx⟩,st',fun b hb=>(hf b hb).1⟩⟩
 done:=by
  intro X hP hw hK hc i pins s σ H E I hf st hg
  subst hP hw hK
  obtain⟨xs,hq,hx⟩:=hg
  obtain⟨its,rv,p,hz⟩:=I.tuple hq
  obtain⟨f0,f1,f2,f3,f4,f5⟩:=hf it (by simp)
  have hl:=rv.length
  exact wpAny_pyNext_tuple_end (I.ok.hd hc) st (show s.heap.IsTuple a its.toArray from p) (by simp;omega) fun h' eb=>⟨rfl,I.turned (t':=s.toks) (fun b o hb e=>eb b o hb e) f0 f1 f3 f4 f5⟩
 self:=fun _ _ _ _ _ st h=>wpAny_pyIter_tupleiter st h
theorem zmC{P:Program}{w:World}{K:W.Frag}{tg:Expr}(it:Addr)(lo:Int)(n:Nat):Turn P w K tg (Itr lo n) [it] it (fun i h=>IsRangeIter h it (lo+(i:Nat)*1) ((n:Int)-(i:Nat)) 1) where
 mem:=by simp
 obj:=fun i h st b hb=>by
  have e:b=it:=by simpa using hb
  subst e
  exact⟨_,st,fun v z=>by
   have z':Data.fields _=Data.cell v:=z
   cases z'⟩
 keep:=fun i h h' st k=>k it (by simp) _ st
 item:=by
  intro X hP hw hK hc i pins s σ H E I hf st hg
  subst hP hw hK
  obtain⟨f0,f1,f2,f3,f4,f5⟩:=hf it (by simp)
  have W:=Walks.range (prog:=X.prog) (w:=X.w) (I.ok.hd hc) it lo 1 n
  refine W.item i s _ _ hg st fun v h' tk hv st' kk=>?_
  obtain⟨t,rfl⟩:=hv
  have I1:Inv X pins σ H { s with heap:=h',toks:=tk }:=I.turned (fun b o hb e=>kk b o (by simpa using hb) e) f0 f1 f3 f4 f5
  refine⟨_,rfl,zqU (s:={ s with heap:=h',toks:=tk }) (n:="range_iterator") st' rfl rfl (by decide) ⟨.int (lo+i),H,I1,⟨t,?_⟩,⟨rfl,rfl⟩,st',fun b hb=>(hf b hb).1⟩⟩
  rw [Int.mul_one]
 done:=by
  intro X hP hw hK hc i pins s σ H E I hf st hg
  subst hP hw hK
  obtain⟨f0,f1,f2,f3,f4,f5⟩:=hf it (by simp)
  exact wpAny_pyNext_range_end (I.ok.hd hc) st (by have:n<=i:=hg;omega) fun h' eb=>⟨rfl,I.turned (t':=s.toks) (fun b o hb e=>eb b o hb e) f0 f1 f3 f4 f5⟩
 self:=fun _ _ _ _ _ st h=>wpAny_pyIter_rangeiter st h
end
section
section
variable {X:Cx}{tg:Expr}
def zwX(K:W.Frag)(tl:TE):TI:=fun σ H R=>tl σ H fun x H1=>∃ a,x=.ref a/\(∃ xs,SqL K H1 a xs)/\R (Itl K a) H1
theorem zsR{l:Expr}{tl:TE}(hl:PE X l tl):PI X tg l (zwX X.K tl):=by
 intro pins s σ H R I h
 refine thn (hl pins s σ H _ I h) fun v s1 ⟨x,H1,I1,r1,q1⟩=>?_
 obtain⟨a,e,⟨xs,hq⟩,q⟩:=q1
 subst e
 cases r1
 obtain⟨its,rv,p,hz⟩:=I1.list hq
 refine wpAny_pyIter_list p.isList ?_
 refine⟨s1.heap.objs.size,[s1.heap.objs.size],_,_,H1,rfl,I1.kept (t':=s1.toks) fun b o e=>Heap.get?_push_of_some _ e,zjs a _,⟨_,Heap.get?_push_size _ rfl,rfl,rfl⟩,fun b hb=>?_,q⟩
 have e:b=s1.heap.objs.size:=by simpa using hb
 subst e
 exact I1.zpO (Nat.le_refl _) (I1.hok.fresh (Nat.le_refl _))
theorem zlO{pins:List (Addr×Obj)}{σ:St}{H:Hp}{s:Shared}{R:It->Hp->Prop}{E:Value->Shared->Prop}{lo hi:Int}{t u v:Tok}{tk:Nat}(I:Inv X pins σ H s)(h1:-(2^62)<=lo)(h2:lo<2^62)(h3:-(2^62)<=hi)(h4:hi<2^62)
  (q:R (Itr lo (hi-lo).toNat) H):wpAny (model X.prog X.w) X.A (pyIter (.ref s.heap.objs.size)) (PIE X pins σ tg R) E { s with heap:=s.heap.push { cls:=.type "range",data:=.fields #[.int lo t,.int hi u,.int 1 v] },toks:=tk }:=by
 refine wpAny_pyIter_range (IsRange.new ..) (small_one h1 h2 h3 h4) ?_
 have I1:Inv X pins σ H { s with heap:=s.heap.push { cls:=.type "range",data:=.fields #[.int lo t,.int hi u,.int 1 v] },toks:=tk }:=I.kept fun b o e=>Heap.get?_push_of_some _ e
 refine⟨(s.heap.push { cls:=.type "range",data:=.fields #[.int lo t,.int hi u,.int 1 v] }).objs.size,[(s.heap.push { cls:=.type "range",data:=.fields #[.int lo t,.int hi u,.int 1 v] }).objs.size],_,_,H,rfl,
  I1.kept (t':=tk) fun b o e=>Heap.get?_push_of_some _ e,zmC _ lo (hi-lo).toNat,?_,fun b hb=>?_,q⟩
 ·have e1:lo+((0:Nat):Int)*1=lo:=by simp
  have e2:(((hi-lo).toNat:Nat):Int)-((0:Nat):Int)=Builtin.Range.rangeSize lo hi 1:=by rw [rangeSize_one];split <;> omega
  show IsRangeIter _ _ (lo+((0:Nat):Int)*1) ((((hi-lo).toNat:Nat):Int)-((0:Nat):Int)) 1
  rw [e1,e2]
  exact Heap.get?_push_size _ rfl
 ·have e:b=(s.heap.push { cls:=.type "range",data:=.fields #[.int lo t,.int hi u,.int 1 v] }).objs.size:=by simpa using hb
  subst e
  exact I1.zpO (Nat.le_refl _) (I1.hok.fresh (Nat.le_refl _))
def zwW(ta:TA):TI:=fun σ H R=>ta σ H fun vs H1=>∃ j:Int,vs=[.int j]/\-(2^62)<=j/\j<2^62/\R (Itr 0 j.toNat) H1
def zwV(ta:TA):TI:=fun σ H R=>ta σ H fun vs H1=>∃ i j:Int,vs=[.int i,.int j]/\(-(2^62)<=i/\i<2^62/\-(2^62)<=j/\j<2^62)/\R (Itr i (j-i).toNat) H1
theorem zoc{a:Expr}{ta:TA}{p pos:Pos}(hg:Gl X "range") (hm:X.mg "range"=none) (ha:PA X [a] ta) (hs:starEach [a] X.env=[(false,eval a X.env)]:=by rfl):PI X tg (.Call (.Name "range" p) [a] [] pos) (zwW ta):=by
 intro pins s σ H R I h
 refine Call_ (zgC I hg hm boot_range (PyProof.Rows.callWith_type1 (thn (ha pos pins s σ H _ I h) fun us s1 ⟨vs,H1,I1,r1,q1⟩=>?_) hs rfl))
 obtain⟨j,e,q1,q2,q⟩:=q1
 subst e
 cases r1 with
 | cons r rr =>
  cases rr
  obtain⟨t,rfl⟩:=r
  exact call_range_1 (zlO I1 (by omega) (by omega) q1 q2 (by simpa using q))
theorem zob{a b:Expr}{ta:TA}{p pos:Pos}(hg:Gl X "range") (hm:X.mg "range"=none) (ha:PA X [a,b] ta) (hs:starEach [a,b] X.env=[(false,eval a X.env),(false,eval b X.env)]:=by rfl) (hs2:starEach [b] X.env=[(false,eval b X.env)]:=by rfl) :
  PI X tg (.Call (.Name "range" p) [a,b] [] pos) (zwV ta):=by
 intro pins s σ H R I h
 refine Call_ (zgC I hg hm boot_range (PyProof.Rows.callWith_type1 (thn (ha pos pins s σ H _ I h) fun us s1 ⟨vs,H1,I1,r1,q1⟩=>?_) (by rw [hs,hs2]) (by rw [hs2];rfl)))
 obtain⟨i,j,e,⟨q1,q2,q3,q4⟩,q⟩:=q1
 subst e
 cases r1 with
 | cons r rr =>
  cases rr with
  | cons r' rr =>
   cases rr
   obtain⟨t,rfl⟩:=r
   obtain⟨t',rfl⟩:=r'
   exact call_range_2 (zlO I1 q1 q2 q3 q4 q)
def zxY(wi:TI)(g:TG)(tb:TS):TS:=fun D σ H=>wi σ H fun J H1=>∃ W:Nat->Nat->St->Hp->Prop,(∃ m,W 0 m σ H1)/\∀ i m σ H,W i m σ H ->
 (J.stop i H/\D.nx σ H)\/(J.go i H/\∃ N:St->Hp->Prop,(∀ σ' H',N σ' H'->∃ m',m'<m/\W (i+1) m' σ' H')/\∀ x H',J.yld i H x H'->g x σ H' fun σ2 H2=>tb { D with nx:=N,ct:=N,bk:=D.nx } σ2 H2)
def zgw(fp:List Addr)(h:Heap):List (Addr×Obj):=fp.filterMap fun b=>(h.get? b).map fun o=>(b,o)
theorem zbx{fp:List Addr}{h:Heap}{b:Addr}{o:Obj}(hb:b∈fp)(e:h.get? b=some o):(b,o)∈zgw fp h:=List.mem_filterMap.mpr ⟨b,hb,by rw [e];rfl⟩
theorem zog{fp:List Addr}{h:Heap}{p:Addr×Obj}(hp:p∈zgw fp h):p.1∈fp/\h.get? p.1=some p.2:=by
 obtain⟨b,hb,e⟩:=List.mem_filterMap.mp hp
 cases q:h.get? b with
 | none=>rw [q] at e;cases e
 | some o =>
  rw [q] at e
  have e':(b,o)=p:=Option.some.inj e
  subst e'
  exact⟨hb,q⟩
theorem Inv.pinned{pins:List (Addr×Obj)}{σ:St}{H:Hp}{s:Shared}{fp:List Addr}(I:Inv X pins σ H s)(hf:∀ b∈fp,zhn X pins H b)(ho:∀ b∈fp,∃ o,s.heap.get? b=some o/\∀ v,o.data≠.cell v):Inv X (pins++zgw fp s.heap) σ H s :=
 I.ziC fun p hp=>(List.mem_append.mp hp).elim (fun z=>I.pin p (List.mem_append_right _ z)) fun z=>by
  obtain⟨hb,e⟩:=zog z
  obtain⟨f0,f1,f2,_⟩:=hf p.1 hb
  obtain⟨o,e',d⟩:=ho p.1 hb
  rw [e] at e';cases e'
  exact⟨e,f0,f1,f2,d⟩
theorem Inv.zcw{pins pl:List (Addr×Obj)}{σ:St}{H:Hp}{s:Shared}(I:Inv X (pins++pl) σ H s):Inv X pins σ H s:=I.ziC fun p hp=>I.pin p (List.mem_append_right _ (List.mem_append_left _ hp))
theorem zrx{iter:Expr}{body:List Stmt}{wi:TI}{g:TG}{tb:TS}{pos:Pos}(hp:PassesOwn (model X.prog X.w) X.A X.env X.xe)(hc:X.calm=true)(hi:PI X tg iter wi)(hg:PG X tg g)(hb:PSs X body tb)
  (hs:∀ x,foldedSetIterable iter X.env x=pure x:=by intro _;rfl):PS X (.For tg iter body [] pos) (zxY wi g tb):=by
 intro pins s σ H D I h
 refine wpAny_For (thn (hi pins s σ H _ I h) fun v s1 h1=>thn h1 fun itv s2 h2=>?_) hs
 obtain⟨it,fp,tn,J,H2,e,I2,T,st2,f2,W,⟨m0,w0⟩,turn⟩:=h2
 subst e
 have stat:∀{H':Hp},(∀ b∈fp,H' b=none)->∀ b∈fp,zhn X pins H' b:=fun hn b hb=>⟨hn b hb,(f2 b hb).2⟩
 refine codeAny_forLoop_any (fun n s'=>∃ i σ' H',Inv X pins σ' H' s'/\tn i s'.heap/\(∀ b∈fp,H' b=none)/\W i n σ' H') ?_ m0 ⟨0,σ,H2,I2,st2,fun b hb=>(f2 b hb).1,w0⟩
 rintro n s3 ⟨i,σ3,H3,I3,st3,fr3,w3⟩
 rcases turn i n σ3 H3 w3 with⟨stop,qn⟩|⟨go,N,hN,step⟩
 ·refine wpAny_passesOwn hp (thn (T.done X rfl rfl rfl hc i pins s3 σ3 H3 X.xe I3 (stat fr3) st3 stop) fun r s4 ⟨hr,I4⟩=>?_)
  subst hr
  exact wpAny_execs_nil ⟨σ3,H3,I4,qn⟩
 ·refine wpAny_passesOwn hp (thn (T.item X rfl rfl rfl hc i pins s3 σ3 H3 X.xe I3 (stat fr3) st3 go) fun r s4 ⟨u,hr,h4⟩=>?_)
  subst hr
  refine wpAny_passesOwn hp (thn h4 fun _ s5 ⟨x,H5,I5,r5,y5,st5,fr5⟩=>?_)
  have I5':=I5.pinned (stat fr5) (T.obj _ _ st5)
  refine wpAny_passesOwn hp (thn (hg _ s5 σ3 H5 x u _ I5' r5 (step x H5 y5)) fun _ s6 ⟨σ6,H6,I6,q6⟩=>?_)
  refine wpAny_passesOwn hp (thn (hb _ s6 σ6 H6 _ I6 q6) fun f s7 q7=>?_)
  have again:∀{σ7:St} {H7:Hp},Inv X (pins++zgw fp s5.heap) σ7 H7 s7->N σ7 H7->∃ m,m<n/\∃ i σ' H',Inv X pins σ' H' s7/\tn i s7.heap/\(∀ b∈fp,H' b=none)/\W i m σ' H':=fun{σ7 H7} I7 n7=>by
   obtain⟨m',hm,w7⟩:=hN σ7 H7 n7
   refine⟨m',hm,i+1,σ7,H7,I7.zcw,T.keep _ _ _ st5 fun b hb o e=>(I7.pin (b,o) (List.mem_append_right _ (List.mem_append_right _ (zbx hb e)))).1,fun b hb=>?_,w7⟩
   obtain⟨o,e,d⟩:=T.obj _ _ st5 b hb
   exact(I7.pin (b,o) (List.mem_append_right _ (List.mem_append_right _ (zbx hb e)))).2.1
  cases f with
  | next=>obtain⟨σ7,H7,I7,n7⟩:=q7;exact again I7 n7
  | cont=>obtain⟨σ7,H7,I7,n7⟩:=q7;exact again I7 n7
  | brk=>obtain⟨σ7,H7,I7,q7⟩:=q7;exact⟨σ7,H7,I7.zcw,q7⟩
  | ret v=>obtain⟨x7,σ7,H7,I7,r7,q7⟩:=q7;exact⟨x7,σ7,H7,I7.zcw,r7,q7⟩
end
end
section
abbrev R2:=V->V->Hp->VK->Prop
def OpR(X:Cx)(f:Value->Value->Sem Value)(r:R2):Prop :=
 ∀(pins:List (Addr×Obj)) (s:Shared) (σ:St) (H:Hp) (x y:V) (v u:Value) (Q:VK),Inv X pins σ H s->RelV x v->RelV y u->r x y H Q ->
  wpAny (model X.prog X.w) X.A (f v u) (EP X pins σ Q) X.xe s
def UnR(X:Cx)(f:Value->Sem Value)(r:V->Hp->VK->Prop):Prop :=
 ∀(pins:List (Addr×Obj)) (s:Shared) (σ:St) (H:Hp) (x:V) (v:Value) (Q:VK),Inv X pins σ H s->RelV x v->r x H Q ->
  wpAny (model X.prog X.w) X.A (f v) (EP X pins σ Q) X.xe s
def zfC(X:Cx)(f:Value)(r:List V->Hp->VK->Prop):Prop :=
 ∀(pins:List (Addr×Obj)) (s:Shared) (σ:St) (H:Hp) (xs:List V) (us:List Value) (Q:VK),Inv X pins σ H s->Vals xs us->r xs H Q ->
  wpAny (model X.prog X.w) X.A (call f us) (EP X pins σ Q) X.xe s
def zxi(X:Cx)(r:V->Hp->(Bool->Hp->Prop)->Prop):Prop :=
 ∀(pins:List (Addr×Obj)) (s:Shared) (σ:St) (H:Hp) (x:V) (v:Value) (Q:Bool->Hp->Prop),Inv X pins σ H s->RelV x v->r x H Q ->
  wpAny (model X.prog X.w) X.A (truthy v) (TP X pins σ Q) X.xe s
def tOp(r:R2)(ta tb:TE):TE:=fun σ H Q=>ta σ H fun x H1=>tb σ H1 fun y H2=>r x y H2 Q
def tUn(r:V->Hp->VK->Prop)(ta:TE):TE:=fun σ H Q=>ta σ H fun x H1=>r x H1 Q
def rI(C:Int->Int->Prop)(g:Int->Int->V):R2:=fun x y H Q=>∃ i j,x=.int i/\y=.int j/\C i j/\Q (g i j) H
def rI0(g:Int->Int->V):R2:=fun x y H Q=>∃ i j,x=.int i/\y=.int j/\Q (g i j) H
def rU(g:Int->V):V->Hp->VK->Prop:=fun x H Q=>∃ i,x=.int i/\Q (g i) H
section
variable {X:Cx}{a b c:Expr}{ta tb tc:TE}{pos:Pos}
theorem zxf(ha:PE X a ta)(hb:PE X b tb){pins:List (Addr×Obj)}{s:Shared}{σ:St}{H:Hp}{R:V->V->Hp->Prop}(I:Inv X pins σ H s)
  (h:ta σ H fun x H1=>tb σ H1 fun y H2=>R x y H2){Q:Value->Shared->Prop}{f:Value->Value->Sem Value}
  (hf:∀ v u s2 x y H2,Inv X pins σ H2 s2->RelV x v->RelV y u->R x y H2->wpAny (model X.prog X.w) X.A (f v u) Q X.xe s2) :
  wpAny (model X.prog X.w) X.A (eval a X.env) (fun v s₁=>wpAny (model X.prog X.w) X.A (eval b X.env) (fun u s₂=>wpAny (model X.prog X.w) X.A (f v u) Q X.xe s₂) X.xe s₁) X.xe s:=by
 refine thn (ha pins s σ H _ I h) fun v s1 ⟨x,H1,I1,r1,q1⟩=>?_
 refine thn (hb pins s1 σ H1 _ I1 q1) fun u s2 ⟨y,H2,I2,r2,q2⟩=>?_
 exact hf v u s2 x y H2 I2 r1 r2 q2
theorem zuw{op:Operator}{r:R2}(ho:OpR X (binaryOp op) r)(ha:PE X a ta)(hb:PE X b tb):PE X (.BinOp a op b pos) (tOp r ta tb):=by
 intro pins s σ H Q I h
 exact wpAny_BinOp (zxf ha hb I h fun v u s2 x y H2 I2 rx ry q=>ho pins s2 σ H2 x y v u Q I2 rx ry q)
theorem zwv{op:UnaryOp}{r:V->Hp->VK->Prop}(ho:UnR X (unaryOp op) r)(ha:PE X a ta):PE X (.UnaryOp op a pos) (tUn r ta):=by
 intro pins s σ H Q I h
 exact UnaryOp_ (thn (ha pins s σ H _ I h) fun v s1 ⟨x,H1,I1,r1,q1⟩=>ho pins s1 σ H1 x v Q I1 r1 q1)
theorem opI{f:Value->Value->Sem Value}{C:Int->Int->Prop}{g:Int->Int->Int}
  (rule:∀(i j:Int) (t u:Tok) (s:Shared) (Q:Value->Shared->Prop) (E:Value->Shared->Prop),C i j->Q (.int (g i j) s.toks) { s with toks:=s.toks+1 }->wpAny (model X.prog X.w) X.A (f (.int i t) (.int j u)) Q E s) :
  OpR X f (rI C fun i j=>.int (g i j)):=by
 intro pins s σ H x y v u Q I rx ry h
 obtain⟨i,j,rfl,rfl,hc,q⟩:=h
 obtain⟨t,rfl⟩:=rx
 obtain⟨t',rfl⟩:=ry
 exact rule i j t t' s _ _ hc ⟨.int (g i j),H,I.tok _,⟨_,rfl⟩,q⟩
theorem zxw{f:Value->Value->Sem Value}{g:Int->Int->Int}
  (rule:∀(i j:Int) (t u:Tok) (s:Shared) (Q:Value->Shared->Prop) (E:Value->Shared->Prop),Q (.int (g i j) s.toks) { s with toks:=s.toks+1 }->wpAny (model X.prog X.w) X.A (f (.int i t) (.int j u)) Q E s) :
  OpR X f (rI0 fun i j=>.int (g i j)):=by
 intro pins s σ H x y v u Q I rx ry h
 obtain⟨i,j,rfl,rfl,q⟩:=h
 obtain⟨t,rfl⟩:=rx
 obtain⟨t',rfl⟩:=ry
 exact rule i j t t' s _ _ ⟨.int (g i j),H,I.tok _,⟨_,rfl⟩,q⟩
theorem zvU{f:Value->Value->Sem Value}{g:Int->Int->Bool}
  (rule:∀(i j:Int) (t u:Tok) (s:Shared) (Q:Value->Shared->Prop) (E:Value->Shared->Prop),Q (.bool (g i j)) s->wpAny (model X.prog X.w) X.A (f (.int i t) (.int j u)) Q E s) :
  OpR X f (rI0 fun i j=>.bl (g i j)):=by
 intro pins s σ H x y v u Q I rx ry h
 obtain⟨i,j,rfl,rfl,q⟩:=h
 obtain⟨t,rfl⟩:=rx
 obtain⟨t',rfl⟩:=ry
 exact rule i j t t' s _ _ ⟨.bl (g i j),H,I,rfl,q⟩
def zxO(i j:Int):Prop:=0<=j/\j<=1000000/\i.natAbs<2^64
theorem zuN:OpR X (binaryOp .Add) (rI0 fun i j=>.int (i+j)):=zxw fun _ _ _ _ _ _ _ q=>add_int q
theorem zuG:OpR X (binaryOp .Sub) (rI0 fun i j=>.int (i-j)):=zxw fun _ _ _ _ _ _ _ q=>sub_int q
theorem zs0:OpR X (binaryOp .Mod) (rI (fun _ j=>j≠0) fun i j=>.int (i.fmod j)):=opI fun _ _ _ _ _ _ _ hc q=>mod_int' hc q
theorem zuH:OpR X (binaryOp .Pow) (rI zxO fun i j=>.int (i^j.toNat)):=opI fun _ _ _ _ _ _ _ hc q=>pow_int_small hc.1 hc.2.1 hc.2.2 q
theorem unI{f:Value->Sem Value}{g:Int->Int}
  (rule:∀(i:Int) (t:Tok) (s:Shared) (Q:Value->Shared->Prop) (E:Value->Shared->Prop),Q (.int (g i) s.toks) { s with toks:=s.toks+1 }->wpAny (model X.prog X.w) X.A (f (.int i t)) Q E s) :
  UnR X f (rU fun i=>.int (g i)):=by
 intro pins s σ H x v Q I rx h
 obtain⟨i,rfl,q⟩:=h
 obtain⟨t,rfl⟩:=rx
 exact rule i t s _ _ ⟨.int (g i),H,I.tok _,⟨_,rfl⟩,q⟩
theorem ztR:UnR X (unaryOp .USub) (rU fun i=>.int (-i)):=unI fun _ _ _ _ _ q=>neg_int q
end
section
variable {X:Cx}{a b c:Expr}{ta tb tc:TE}{pos:Pos}
theorem zvn{pins:List (Addr×Obj)}{σ:St}{H:Hp}{s:Shared}{Q:VK}{k k':Bool}(I:Inv X pins σ H s)(q:Q (.bl k) H)(e:k=k'):EP X pins σ Q (.bool k') s:=by
 subst e
 exact⟨.bl k,H,I,rfl,q⟩
theorem zwz:OpR X (compareOp .Lt) (rI0 fun i j=>.bl (decide (i<j))):=zvU fun _ _ _ _ _ _ _ q=>lt_int q
theorem zwA:OpR X (compareOp .LtE) (rI0 fun i j=>.bl (decide (i<=j))):=zvU fun _ _ _ _ _ _ _ q=>le_int q
theorem zwB:OpR X (compareOp .Gt) (rI0 fun i j=>.bl (decide (j<i))):=zvU fun _ _ _ _ _ _ _ q=>gt_int q
theorem zwC:OpR X (compareOp .GtE) (rI0 fun i j=>.bl (decide (j<=i))):=zvU fun _ _ _ _ _ _ _ q=>ge_int q
theorem zuJ:OpR X (compareOp .Is) (fun x y H Q=>y=.non/\Q (.bl (decide (x=.non))) H):=by
 intro pins s σ H x y v u Q I rx ry h
 obtain⟨rfl,q⟩:=h
 cases ry
 refine is_none_gen (zvn I q ?_)
 cases x <;> first
  | (cases rx;rfl)
  | (obtain⟨t,rfl⟩:=rx;rfl)
theorem zon(b:Expr){op:CmpOp}(h:op≠.In:=by decide)(h2:op≠.NotIn:=by decide):behindInMarks op b=false:=by
 have e1:(op==CmpOp.In)=false:=by cases op <;> first|rfl|exact absurd rfl h
 have e2:(op==CmpOp.NotIn)=false:=by cases op <;> first|rfl|exact absurd rfl h2
 cases b <;> simp [behindInMarks,e1,e2]
theorem zsU{op:CmpOp}{r:R2}(ho:OpR X (compareOp op) r)(ha:PE X a ta)(hb:PE X b tb)(hm:behindInMarks op b=false):PE X (.Compare a [op] [b] pos) (tOp r ta tb):=by
 intro pins s σ H Q I h
 exact wpAny_Compare1 (zxf ha hb I h fun v u s2 x y H2 I2 rx ry q=>ho pins s2 σ H2 x y v u Q I2 rx ry q) hm
def ztX(t:TE):TT:=fun σ H Q=>t σ H fun x H'=>∃ k,x=.bl k/\Q k H'
theorem znY{op:CmpOp}{r:R2}(ho:OpR X (compareOp op) r)(ha:PE X a ta)(hb:PE X b tb)(hm:behindInMarks op b=false):PT X (.Compare a [op] [b] pos) (ztX (tOp r ta tb)):=by
 intro pins s σ H Q I h
 refine wpAny_isTrue_Compare1 (thn (ha pins s σ H _ I h) fun v s1 ⟨x,H1,I1,r1,q1⟩=>thn (hb pins s1 σ H1 _ I1 q1) fun u s2 ⟨y,H2,I2,r2,q2⟩ =>
  thn (ho pins s2 σ H2 x y v u _ I2 r1 r2 q2) fun c s3 ⟨z,H3,I3,r3,k,e,q3⟩=>?_) hm
 subst e
 cases r3
 exact wpAny_truthy_bool ⟨H3,I3,q3⟩
def znA(r r':R2)(ta tb tc:TE):TE:=fun σ H Q=>ta σ H fun x H1=>tb σ H1 fun y H2=>r x y H2 fun z H3=>∃ k,z=.bl k /\
 (if k=true then tc σ H3 fun w' H4=>r' y w' H4 Q else Q (.bl false) H3)
theorem zqt{op op':CmpOp}{r r':R2}(ho:OpR X (compareOp op) r)(ho':OpR X (compareOp op') r')(ha:PE X a ta)(hb:PE X b tb)(hc:PE X c tc)
  (hm:lastMarks [op,op'] [b,c]=false:=by with_unfolding_all rfl):PE X (.Compare a [op,op'] [b,c] pos) (znA r r' ta tb tc):=by
 intro pins s σ H Q I h
 refine Compare_chain (thn (ha pins s σ H _ I h) fun v s1 ⟨x,H1,I1,r1,q1⟩=>chain_link (thn (hb pins s1 σ H1 _ I1 q1) fun u s2 ⟨y,H2,I2,r2,q2⟩ =>
  thn (ho pins s2 σ H2 x y v u _ I2 r1 r2 q2) fun d s3 ⟨z,H3,I3,r3,k,e,q3⟩=>?_)) hm
 subst e
 cases r3
 refine wpAny_truthy_bool ?_
 cases k with
 | false=>exact ite_ff ⟨.bl false,H3,I3,rfl,q3⟩
 | true=>exact ite_tt (chain_last (thn (hc pins s3 σ H3 _ I3 q3) fun w' s4 ⟨z',H4,I4,r4,q4⟩=>ho' pins s4 σ H4 y z' u w' Q I4 r2 r4 q4))
theorem zqg{op op':CmpOp}{r r':R2}(ho:OpR X (compareOp op) r)(ho':OpR X (compareOp op') r')(ha:PE X a ta)(hb:PE X b tb)(hc:PE X c tc)
  (hm:lastMarks [op,op'] [b,c]=false:=by with_unfolding_all rfl):PT X (.Compare a [op,op'] [b,c] pos) (ztX (znA r r' ta tb tc)):=by
 intro pins s σ H Q I h
 refine isTrue_chain (thn (ha pins s σ H _ I h) fun v s1 ⟨x,H1,I1,r1,q1⟩=>test_link (thn (hb pins s1 σ H1 _ I1 q1) fun u s2 ⟨y,H2,I2,r2,q2⟩ =>
  thn (ho pins s2 σ H2 x y v u _ I2 r1 r2 q2) fun d s3 ⟨z,H3,I3,r3,k,e,q3⟩=>?_)) hm
 subst e
 cases r3
 refine wpAny_truthy_bool ?_
 cases k with
 | false =>
  obtain⟨k',e',q'⟩:=q3
  cases e'
  exact ite_ff ⟨H3,I3,q'⟩
 | true =>
  refine ite_tt (test_last (thn (hc pins s3 σ H3 _ I3 q3) fun w' s4 ⟨z',H4,I4,r4,q4⟩=>thn (ho' pins s4 σ H4 y z' u w' _ I4 r2 r4 q4) fun d' s5 ⟨z2,H5,I5,r5,k2,e2,q5⟩=>?_))
  subst e2
  cases r5
  exact wpAny_truthy_bool ⟨H5,I5,q5⟩
def zyH(K:W.Frag)(x:V)(H:Hp)(k:Bool):Prop :=
 match x with
 | .non=>k=false
 | .bl b=>k=b
 | .int i=>k=(i != 0)
 | .str y=>y.length<=sizeLine/\k=((y.length:Int) != 0)
 | .byt y=>y.size<=sizeLine/\k=((y.size:Int) != 0)
 | .ref p=>(∃ xs,SqL K H p xs/\k=!xs.isEmpty)\/(∃ xs,SqT K H p xs/\k=!xs.isEmpty)\/∃ kvs,H p=some (.dK kvs)/\k=!kvs.isEmpty
 | _=>False
theorem zmZ{κ:Type}{kvs:List (κ×V)}{vs:List (κ×Value)}(r:KV kvs vs):(!vs.isEmpty)=!kvs.isEmpty:=by
 cases r <;> rfl
theorem zhS{xs:List V}{its:List Value}(r:Vals xs its):(!its.toArray.isEmpty)=!xs.isEmpty:=by
 cases r <;> simp
theorem zjP:(sizeLine:Nat)<2^63:=by rw [sizeLine_eq];decide
theorem ztU:zxi X (fun x H Q=>∃ k,zyH X.K x H k/\Q k H):=by
 intro pins s σ H x v Q I rx h
 obtain⟨k,e,q⟩:=h
 have hl:=zjP
 have hs:sizeLine=16777216:=sizeLine_eq
 cases x with
 | non =>
  cases rx
  have e':k=false:=e
  subst e'
  exact truthy_none ⟨H,I,q⟩
 | bl b =>
  cases rx
  have e':k=b:=e
  subst e'
  exact wpAny_truthy_bool ⟨H,I,q⟩
 | int i =>
  obtain⟨t,rfl⟩:=rx
  have e':k=(i != 0):=e
  subst e'
  exact PySem.P.truthy_int ⟨H,I,q⟩
 | str y =>
  obtain⟨t,rfl⟩:=rx
  obtain⟨hy,e'⟩:y.length<=sizeLine/\k=((y.length:Int) != 0):=e
  subst e'
  exact PySem.P.truthy_str (by omega) ⟨H,I.tok _,q⟩
 | byt y =>
  obtain⟨t,rfl⟩:=rx
  obtain⟨hy,e'⟩:y.size<=sizeLine/\k=((y.size:Int) != 0):=e
  subst e'
  exact PySem.W.truthy_bytes (by omega) ⟨H,I.tok _,q⟩
 | ref p =>
  cases rx
  have e':(∃ xs,SqL X.K H p xs/\k=!xs.isEmpty)\/(∃ xs,SqT X.K H p xs/\k=!xs.isEmpty)\/∃ kvs,H p=some (.dK kvs)/\k=!kvs.isEmpty:=e
  rcases e' with⟨xs,hx,e'⟩|⟨xs,hx,e'⟩|⟨kvs,hx,e'⟩
  ·subst e'
   obtain⟨its,r,pl,hz⟩:=I.list hx
   have hlen:=r.length
   exact wpAny_truthy_list pl.isList (by simp only [List.size_toArray];omega) ⟨H,I.tok _,by rw [zhS r];exact q⟩
  ·subst e'
   obtain⟨its,r,pl,hz⟩:=I.tuple hx
   have hlen:=r.length
   exact truthy_tuple pl (by simp only [List.size_toArray];omega) ⟨H,I.tok _,by rw [zhS r];exact q⟩
  ·subst e'
   obtain⟨hz,hS,vs,r,m⟩:kvs.length<=sizeLine/\(p==sysModules)=false/\∃ vs,KV kvs vs/\s.heap.DictOf (zbI X.prog X.w) p vs:=I.hok p _ hx
   have hlen:kvs.length=vs.length:=Paired.length r
   exact wpAny_truthy_dict hS m (by omega) ⟨H,I.tok _,by rw [zmZ r];exact q⟩
 | _=>exact(show False from e).elim
theorem vals1{x:V}{us:List Value}(r:Vals [x] us):∃ u,us=[u]/\RelV x u:=by
 cases r with
 | cons r1 r2=>cases r2;exact⟨_,rfl,r1⟩
theorem vals2{x y:V}{us:List Value}(r:Vals [x,y] us):∃ u w',us=[u,w']/\RelV x u/\RelV y w':=by
 cases r with
 | cons r1 r2 =>
  cases r2 with
  | cons r3 r4=>cases r4;exact⟨_,_,rfl,r1,r3⟩
theorem zrd:zfC X (.builtin "abs") (fun xs H Q=>∃ i,xs=[.int i]/\Q (.int (if i<0 then -i else i)) H):=by
 intro pins s σ H xs us Q I r h
 obtain⟨i,rfl,q⟩:=h
 obtain⟨u,rfl,t,rfl⟩:=vals1 r
 exact call_abs_int fun u tk=>⟨.int (if i<0 then -i else i),H,I.tok _,⟨_,rfl⟩,q⟩
end
end
section
theorem znm.some_of{v:V}{o:Option Value}(r:znm (some v) o):∃ u,o=some u/\RelV v u:=by
 cases o with
 | none=>exact(show False from r).elim
 | some u=>exact⟨u,rfl,r⟩
end
section
structure zce(k:Nat)(A:Around):Prop where
 hd:A.handled=none
 dp:A.depth+3*k+110<recursionLimit
 un:A.units+16*k+200<cLine
 gd:A.guards=some []
theorem zce.mono{j k:Nat}{A:Around}(r:zce k A)(h:j<=k):zce j A:=⟨r.hd,by have:=r.dp;omega,by have:=r.un;omega,r.gd⟩
theorem zce.deeper{k:Nat}{A:Around}(r:zce (k+1) A)(env:Env):zce k (A.deeper env) :=
 ⟨r.hd,by have:=r.dp;show A.depth+1+3*k+110<_;omega,by have:=r.un;show A.units+3+16*k+200<_;omega,r.gd⟩
theorem zce.in1{k:Nat}{A:Around}(r:zce (k+1) A):zce k A.in1 :=
 ⟨r.hd,by have:=r.dp;show A.depth+3*k+110<_;omega,by have:=r.un;show A.units+1+16*k+200<_;omega,r.gd⟩
theorem zce.depth{k:Nat}{A:Around}(r:zce k A):A.depth<recursionLimit:=by have:=r.dp;omega
theorem zce.units{k:Nat}{A:Around}(r:zce k A):A.units+64<cLine:=by have:=r.un;omega
def zxV:TA:=fun _ H Q=>Q [] H
def zwb(ta:TE)(tr:TA):TA:=fun σ H Q=>ta σ H fun x H1=>tr σ H1 fun xs H2=>Q (x::xs) H2
section
variable {X:Cx}{e:Expr}{es:List Expr}{te:TE}{t:TA}{pos:Pos}
theorem zhL:PA X [] zxV:=fun _ _ _ _ H Q I h=>Calls.spliced_nil ⟨[],H,I,.nil,h⟩
theorem zcJ(ha:PE X e te)(hr:PA X es t)(hs:starEach (e::es) X.env=(false,eval e X.env)::starEach es X.env:=by rfl):PA X (e::es) (zwb te t):=by
 intro pos pins s σ H Q I h
 rw [hs]
 show wpAny _ _ (spliced ((false,eval e X.env)::backTo pos (starEach es X.env))) _ _ s
 refine Calls.spliced_cons (thn (ha pins s σ H _ I h) fun u s1 ⟨x,H1,I1,r1,q1⟩=>?_)
 exact thn (hr pos pins s1 σ H1 _ I1 q1) fun us s2 ⟨xs,H2,I2,r2,q2⟩=>⟨x::xs,H2,I2,.cons r1 r2,q2⟩
def zxQ(t:TA):TE:=fun σ H Q=>t σ H fun xs H1=>xs.length<=sizeLine/\∀ p,H1 p=none->Q (.ref p) (upd H1 p (.tup xs))
def zxW(t:TA):TE:=fun σ H Q=>t σ H fun xs H1=>xs.length<=sizeLine/\∀ p,H1 p=none->Q (.ref p) (upd H1 p (.lst xs))
theorem zuv{x1}(h:PA X es t):PE X (.Tuple es x1 pos) (zxQ t):=by
 intro pins s σ H Q I hq
 refine wpAny_Tuple_spliced (thn (h pos pins s σ H _ I hq) fun us s1 ⟨xs,H1,I1,r,z,q⟩=>⟨by rw [<- r.length];exact z,?_⟩)
 have hf:H1 s1.heap.objs.size=none:=I1.hok.fresh (Nat.le_refl _)
 refine⟨.ref s1.heap.objs.size,upd H1 s1.heap.objs.size (.tup xs),I1.laid (t':=s1.toks) (fun b u e=>Heap.get?_push_of_some _ e) (Nat.le_refl _) ?_,rfl,q _ hf⟩
 exact⟨z,us,r,⟨_,Heap.get?_push_size _ rfl,rfl,_,rfl⟩⟩
theorem zrA(h:PA X es t):PE X (.List es pos) (zxW t):=by
 intro pins s σ H Q I hq
 refine wpAny_List_spliced (thn (h pos pins s σ H _ I hq) fun us s1 ⟨xs,H1,I1,r,z,q⟩=>⟨by rw [<- r.length];exact z,?_⟩)
 have hf:H1 s1.heap.objs.size=none:=I1.hok.fresh (Nat.le_refl _)
 refine⟨.ref s1.heap.objs.size,upd H1 s1.heap.objs.size (.lst xs),I1.laid (t':=s1.toks) (fun b u e=>Heap.get?_push_of_some _ e) (Nat.le_refl _) ?_,rfl,q _ hf⟩
 exact⟨z,us,0,r,Heap.get?_push_size _ rfl⟩
end
abbrev Sp:=List V->Hp->VK->XK->Prop
abbrev CXT:=List Env->Hp->Shared->XK->Value->Shared->Prop
structure zv4(P:Program)(w:World)(K:W.Frag)(mg:Str->Option Value)(base:Heap)(A:Around)(outer:List Env)(s:Shared)(H:Hp):Prop where
 frames:A.frames=some outer
 mod:Mod K mg base
 bs:∀ b o,base.get? b=some o->s.heap.get? b=some o/\H b=none
 bsz:base.objs.size<=s.heap.objs.size
 zm2:s.heap.FunFrames base outer
 frf:∀ b∈frs outer,H b=none
 hok:HOk P w H s.heap
 bare:AllBare s.gens
 tree:P.given.tree=none
theorem Inv.pyl{X:Cx}{pins:List (Addr×Obj)}{σ:List (Option V)}{H:Hp}{s:Shared}(I:Inv X pins σ H s)(hd:X.A.depth+100<recursionLimit):PySem.PylongRoom (model X.prog X.w) X.A s:=by
 obtain⟨env,r,e,h1,h2,h3,h4⟩:=I.ok.sk
 exact PySem.PylongRoom.of I.nolimit hd (PySem.SeerAt.of (I.ok.mod.seer.keeps I.bk) I.ok.tree (I.ok.frames.trans (congrArg some e)) h1 h2 h3 h4)
def CE(outer:List Env)(P:Program)(w:World)(H:Hp)(s:Shared)(Q:VK)(u:Value)(s':Shared):Prop :=
 ∃ v H',s'.os=s.os/\AllBare s'.gens/\Un (frs outer) [] H H' s.heap s'.heap/\HOk P w H' s'.heap/\RelV v u/\Q v H'
def CR(CX:CXT)(outer:List Env)(P:Program)(w:World)(H:Hp)(s:Shared)(Q:VK)(E:XK)(r:Result)(s':Shared):Prop :=
 match r with
 | .ok (.ret u)=>CE outer P w H s Q u s'
 | .ok _=>False
 | .error e=>CX outer H s E e s'
structure zie(P:Program)(w:World)(K:W.Frag)(mg:Str->Option Value)(base:Heap)(CX:CXT)(k:Nat)(f:Addr)(fd:FuncData)(ps:List Str)(sp:Sp):Prop where
 len:∀ vs H Q E,sp vs H Q E->vs.length=ps.length
 run:∀(A:Around) (outer:List Env) (s:Shared) (H:Hp) (args:Args) (us:List Value) (vs:List V) (Q:VK) (E:XK),zce k A->zv4 P w K mg base A outer s H->BindsTo s fd args (ps.zip us)->Vals vs us->sp vs H Q E ->
  codeAny (model P w) A (.call (.ref f) args) (CR CX outer P w H s Q E) s
theorem zie.imp{P:Program}{w:World}{K:W.Frag}{mg:Str->Option Value}{base:Heap}{CX:CXT}{k:Nat}{f:Addr}{fd:FuncData}{ps:List Str}{sp sp':Sp}(F:zie P w K mg base CX k f fd ps sp)
  (h:∀ vs H Q E,sp' vs H Q E->sp vs H Q E):zie P w K mg base CX k f fd ps sp' :=
 ⟨fun vs H Q E q=>F.len vs H Q E (h _ _ _ _ q),fun A outer s H args us vs Q E hr he hb hv hs=>F.run A outer s H args us vs Q E hr he hb hv (h _ _ _ _ hs)⟩
section
variable {X:Cx}{pins:List (Addr×Obj)}{σ:St}{H:Hp}{s s':Shared}
theorem Inv.env0(I:Inv X pins σ H s):zv4 X.prog X.w X.K X.mg X.base X.A X.stack s H :=
 ⟨I.ok.frames,I.ok.mod,I.bs,Nat.le_trans I.ok.bsz I.sz,I.stack,I.znC,I.hok,I.bare,I.ok.tree⟩
theorem Inv.after{Q:VK}{u:Value}(I:Inv X pins σ H s)(h:CE X.stack X.prog X.w H s Q u s'):EP X pins σ Q u s':=by
 obtain⟨v,H',os,bare,un,hok,r,q⟩:=h
 obtain⟨hh,g,d,t,os'⟩:=s'
 obtain rfl:os'=s.os:=os
 exact⟨v,H',I.call (h':=hh) (g':=g) (d':=d) (t':=t) (ch:=[]) un hok bare (fun b z=>absurd z (by simp)),r,q⟩
end
def zsd(sp:Sp)(dvs:List V)(E:XK)(t:TA):TE:=fun σ H Q=>t σ H fun vs H1=>sp (vs++dvs) H1 Q E
def Binds(K:W.Frag)(fd:FuncData)(ps:List Str)(ds:List Value):Prop :=
 ∀(s:Shared) (us:List Value),K.In s.heap->(us++ds).length=ps.length->BindsTo s fd ⟨us,[]⟩ (ps.zip (us++ds))
theorem Binds.all{K:W.Frag}{fd:FuncData}{ps:List Str}(h:∀ us:List Value,us.length=ps.length->bindArgs fd ⟨us,[]⟩=pure (ps.zip us)):Binds K fd ps []:=fun s us _ hl=>by
 rw [List.append_nil] at hl ⊢
 exact .of_eq (h us hl)
def Passes(CX:CXT)(X:Cx)(E:XK):Prop:=∀(pins:List (Addr×Obj)) (σ:St) (H:Hp) (s:Shared) (e:Value) (s':Shared),Inv X pins σ H s->CX X.stack H s E e s'->X.xe e s'
section
variable {X:Cx}{CX:CXT}{k:Nat}{f C:Addr}{fd:FuncData}{ps:List Str}{sp:Sp}{dvs:List V}{ds:List Value}{E:XK}{x m:Str}{p pos apos:Pos}{e o:Expr}{es:List Expr}{ta:TE}{t:TA}
theorem zt6{pins:List (Addr×Obj)}{σ:St}{H:Hp}{s:Shared}{Q:VK}{us:List Value}{vs:List V}(F:zie X.prog X.w X.K X.mg X.base CX k f fd ps sp)(hr:zce k X.A)(hb:Binds X.K fd ps ds)(hd:Vals dvs ds)(hx:Passes CX X E)
  (I:Inv X pins σ H s)(r:Vals vs us)(h:sp (vs++dvs) H Q E):wpAny (model X.prog X.w) X.A (call (.ref f) us) (EP X pins σ Q) X.xe s:=by
 have r2:Vals (vs++dvs) (us++ds):=r.append hd
 have hl:(us++ds).length=ps.length:=by rw [<- r2.length];exact F.len _ _ _ _ h
 refine wpAny_call (codeAny_mono (F.run X.A X.stack s H ⟨us,[]⟩ (us++ds) (vs++dvs) Q E hr I.env0 (hb s us I.kIn hl) r2 h) fun r s' hq=>?_)
 cases r with
 | error e=>exact hx pins σ H s e s' I hq
 | ok fl =>
  cases fl with
  | ret u=>exact I.after hq
  | next=>exact False.elim hq
  | brk=>exact False.elim hq
  | cont=>exact False.elim hq
theorem zsV(F:zie X.prog X.w X.K X.mg X.base CX k f fd ps sp)(hr:zce k X.A)(hg:Gl X x)(hm:X.mg x=some (.ref f))(hk:PySem.W.keepIn X.K (.ref f)=true)(hb:Binds X.K fd ps ds)(hd:Vals dvs ds)(hx:Passes CX X E)
  (ha:PA X (e::es) t)(hdb:(x==("__debug__":Str))=false:=by decide) (he:starEach (e::es) X.env=(false,eval e X.env)::starEach es X.env:=by rfl) (hpl:(backTo pos (starEach es X.env)).any (·.1)=false:=by rfl) :
  PE X (.Call (.Name x p) (e::es) [] pos) (zsd sp dvs E t):=by
 intro pins s σ H Q I h
 refine wpAny_Call_Name_kw (zk4 I hg hm ?_ hdb)
 refine PySem.W.callWith_K (h₀:=X.base) I.ok.mod.kin hk (thn (ha pos pins s σ H _ I h) fun us s1 ⟨vs,H1,I1,r,q⟩=>⟨I1.kIn,?_⟩) he hpl
 exact zt6 F hr hb hd hx I1 r q
end
structure zdT(N P:List Str)(sc:Scope):Prop where
 kind:sc.kind=.function
 co:sc.isCoroutine=false
 gen:sc.isGenerator=false
 nd:N.Nodup
 pre:N.take P.length=P
 par:∀ x∈P,sc.names.lookup x=some .local\/sc.names.lookup x=some .cell
 nofree:∀ y∈sc.names,y.2≠.free
theorem zkk{kindOf:Str->Option NameKind}{x:Str}:∀{binds:List (Str×Value)} {m:Str->Option Value},(∀ v,(x,v)∉binds)->bindL kindOf binds m x=m x
 | [],_,_=>rfl
 | (n,v)::r,m,h=>by
  unfold bindL
  rw [zkk fun w hw=>h w (List.mem_cons_of_mem _ hw)]
  split
  ·have:x≠n:=by rintro rfl;exact h v List.mem_cons_self
   simp [this]
  ·rfl
theorem zkm{kindOf:Str->Option NameKind}{x:Str}:∀{binds:List (Str×Value)} {m:Str->Option Value},(∀ v,(x,v)∉binds)->bindC kindOf binds m x=m x
 | [],_,_=>rfl
 | (n,v)::r,m,h=>by
  unfold bindC
  rw [zkm fun w hw=>h w (List.mem_cons_of_mem _ hw)]
  split
  ·rfl
  ·have:x≠n:=by rintro rfl;exact h v List.mem_cons_self
   simp [this]
theorem zkl{kindOf:Str->Option NameKind}{x:Str}{v:Value}:∀{P:List Str} {vs:List Value} {i:Nat} {m:Str->Option Value},P.Nodup->P[i]?=some x->vs[i]?=some v->kindOf x=some .local ->
  bindL kindOf (P.zip vs) m x=some v
 | [],_,_,_,_,h,_,_=>by simp at h
 | _::_,[],_,_,_,_,h,_=>by simp at h
 | p::P,w::vs,0,m,nd,h1,h2,hk=>by
  simp at h1 h2;subst h1;subst h2
  show bindL kindOf ((p,w)::P.zip vs) m p=_
  unfold bindL
  rw [zkk fun v hv=>(List.nodup_cons.mp nd).1 (List.of_mem_zip hv).1,if_pos hk]
  simp
 | p::P,w::vs,i+1,m,nd,h1,h2,hk=>by
  show bindL kindOf ((p,w)::P.zip vs) m x=_
  unfold bindL
  exact zkl (i:=i) (List.nodup_cons.mp nd).2 (by simpa using h1) (by simpa using h2) hk
theorem zkn{kindOf:Str->Option NameKind}{x:Str}{v:Value}:∀{P:List Str} {vs:List Value} {i:Nat} {m:Str->Option Value},P.Nodup->P[i]?=some x->vs[i]?=some v->kindOf x≠some .local ->
  bindC kindOf (P.zip vs) m x=some v
 | [],_,_,_,_,h,_,_=>by simp at h
 | _::_,[],_,_,_,_,h,_=>by simp at h
 | p::P,w::vs,0,m,nd,h1,h2,hk=>by
  simp at h1 h2;subst h1;subst h2
  show bindC kindOf ((p,w)::P.zip vs) m p=_
  unfold bindC
  rw [zkm fun v hv=>(List.nodup_cons.mp nd).1 (List.of_mem_zip hv).1,if_neg hk]
  simp
 | p::P,w::vs,i+1,m,nd,h1,h2,hk=>by
  show bindC kindOf ((p,w)::P.zip vs) m x=_
  unfold bindC
  exact zkn (i:=i) (List.nodup_cons.mp nd).2 (by simpa using h1) (by simpa using h2) hk
def start(N:List Str)(vs:List V):St:=vs.map some++List.replicate (N.length-vs.length) none
def zpP(CX:CXT)(P:Program)(w:World)(K:W.Frag)(mg:Str->Option Value)(base:Heap)(N:List Str)(qual:Str)(scope:Scope)(f:Addr)(cd:Value)(A:Around)(outer:List Env)(s:Shared)(H:Hp)(E:XK):Cx where
 prog:=P
 w:=w
 K:=K
 mg:=mg
 base:=base
 A:=A.deeper (envOfC qual scope s.heap.objs.size f cd)
 N:=N
 s₀:=s
 H₀:=H
 env:=envOfC qual scope s.heap.objs.size f cd
 outer:=outer
 stack:=envOfC qual scope s.heap.objs.size f cd::outer
 ex:=[]
 calm:=true
 fn:=fun _=>true
 pn:=[]
 xe:=fun e s'=>wpAny (model P w) (A.deeper (envOfC qual scope s.heap.objs.size f cd)) (leaving (envOfC qual scope s.heap.objs.size f cd) e) (fun _ s''=>CX outer H s E e s'') (fun e' s''=>CX outer H s E e' s'') s'
theorem zmr{sc:Scope}{n:Nat}{x:Str}(h:sc.names.lookup x=some .cell):∃ c,(cellsFrom n sc.names []).lookup x=some c:=by
 have q:=PySem.W.cellsFrom_some sc.names n [] (.inl h)
 exact Option.isSome_iff_exists.mp q
theorem zoQ{CX:CXT}{P:Program}{w:World}{K:W.Frag}{mg:Str->Option Value}{base:Heap}{N ps:List Str}{qual:Str}{scope:Scope}{f:Addr}{cd:Value}{A:Around}{outer:List Env}{s s1:Shared}{H:Hp}{E:XK}{us:List Value}{vs:List V}
  (S:zdT N ps scope)(hd:A.handled=none)(e0:zv4 P w K mg base A outer s H)(hl:vs.length=ps.length)(r:Vals vs us)
  (x:InCallC s s.heap.objs.size (bindL (envOfC qual scope s.heap.objs.size f cd).kindOf (ps.zip us) fun _=>none) (cellsFrom (s.heap.objs.size+1) scope.names []) (bindC (envOfC qual scope s.heap.objs.size f cd).kindOf (ps.zip us) fun _=>none) s1) :
  Inv (zpP CX P w K mg base N qual scope f cd A outer s H E) [] (start N vs) H s1:=by
 have hpl:ps.length<=N.length:=by have:=congrArg List.length S.pre;rw [List.length_take] at this;omega
 obtain⟨h1,tk,rfl,hk⟩:=x.done
 have noA:∀ b:Addr,b∉(zpP CX P w K mg base N qual scope f cd A outer s H E).ex:=fun b z=>absurd (show b∈([]:List Addr) from z) (by simp)
 refine⟨⟨e0.mod,S.kind,rfl,rfl,Nat.le_refl _,fun y z c h1 h2=>?_,fun y hy=>?_,fun y c _ h=>?_,fun _=>hd,Around.frames_deeper e0.frames,.inr ⟨rfl,rfl⟩,fun b z=>absurd z (noA b),e0.bs,e0.bsz,fun b _ _=>noA b,fun b z=>absurd z (noA b),e0.zm2,e0.frf,e0.tree,⟨_,_,rfl,S.gen,S.co,rfl,rfl⟩⟩,
  rfl,e0.bare,Un.kept hk,⟨_,x.toInCall.ns,fun i y v h1 h2 h3=>?_⟩,fun y c h=>⟨_,x.cell y c h⟩,e0.hok.fresh (Nat.le_refl _),fun y c h=>?_,fun p hp=>absurd (show p∈([]:List (Addr×Obj)) from hp) (by simp),e0.hok.kept hk,?_⟩
 ·exact name_of_addr x.apart (PySem.mem_of_lookup h1) (PySem.mem_of_lookup h2)
 ·have hy:scope.names.lookup y=some .cell\/scope.names.lookup y=some .free:=hy
  rcases hy with hy|hy
  ·exact zmr hy
  ·exact absurd rfl (S.nofree _ (PySem.mem_of_lookup hy))
 ·exact Nat.le_of_lt (x.above y c (PySem.mem_of_lookup h))
 ·have hi:i<vs.length:=by
   unfold start at h2
   by_cases hi:i<vs.length
   ·exact hi
   ·rw [List.getElem?_append_right (by simpa using hi)] at h2
    rw [List.getElem?_replicate] at h2
    split at h2 <;> cases h2
  have ha:vs[i]?=some v:=by
   unfold start at h2
   rw [List.getElem?_append_left (by simpa using hi),List.getElem?_map] at h2
   cases e:vs[i]? with
   | none=>rw [e] at h2;cases h2
   | some a=>rw [e] at h2;cases h2;rfl
  obtain⟨u,hu,rv⟩:=r.get ha
  have hp:ps[i]?=some y:=by
   rw [<- S.pre,List.getElem?_take_of_lt (by omega)];exact h1
  have ndP:ps.Nodup:=by rw [<- S.pre];exact S.nd.sublist (List.take_sublist _ _)
  refine⟨u,rv,?_⟩
  rcases S.par y (List.mem_of_getElem? hp) with k|k
  ·exact .inl ⟨k,zkl ndP hp hu k⟩
  ·obtain⟨c,e⟩:=zmr (n:=s.heap.objs.size+1) k
   refine .inr ⟨.inl k,c,e,?_⟩
   have q:=x.cell y c e
   rw [zkn ndP hp hu (by show scope.names.lookup y≠_;rw [k];decide)] at q
   exact q
 ·exact e0.hok.fresh (Nat.le_of_lt (x.above y c (PySem.mem_of_lookup h)))
 ·unfold start
  show _=N.length
  rw [List.length_append,List.length_map,List.length_replicate]
  omega
theorem zw6{CX:CXT}{P:Program}{w:World}{K:W.Frag}{mg:Str->Option Value}{base:Heap}{k:Nat}{f:Addr}{name qual:Str}{params:Arguments}{body:List Stmt}{scope:Scope}{dV kV doc pm cdv ct oc:Value}{an od:Option Addr}
  {osl:Array (Option Value)}{N ps:List Str}{sp:Sp}(lk:K.lookup f=some ⟨oc,od,.func (PySem.W.fnOf name qual params body scope dV kV doc pm an cdv ct),osl⟩)(hcd:PySem.W.codeIn K cdv qual=true)(S:zdT N ps scope)
  (len:∀ vs H Q E,sp vs H Q E->vs.length=ps.length)
  (hbody:∀(A:Around) (outer:List Env) (s:Shared) (H:Hp) (vs:List V) (Q:VK) (E:XK),zce k (A.deeper (envOfC qual scope s.heap.objs.size f cdv))->sp vs H Q E ->
   ∃ t,PSs (zpP CX P w K mg base N qual scope f cdv A outer s H E) body t/\t { nx:=fun _ H'=>Q .non H',rt:=Q } (start N vs) H) :
  zie P w K mg base CX (k+1) f (PySem.W.fnOf name qual params body scope dV kV doc pm an cdv ct) ps sp:=by
 refine⟨len,fun A outer s H args us vs Q E hr e0 hb r hsp=>?_⟩
 have hl:=len _ _ _ _ hsp
 have KX:K.In s.heap:=e0.mod.kin.keeps fun b o e=>(e0.bs b o e).1
 have lim:s.heap.NoLimit:=e0.mod.nolimit.keeps fun b o e=>(e0.bs b o e).1
 have hkind:∀ y∈ps.zip us,scope.names.lookup y.1=some .local\/(scope.names.lookup y.1=some .cell/\((cellsFrom (s.heap.objs.size+1) scope.names []).lookup y.1).isSome=true):=fun⟨n,v⟩ hy=>by
  rcases S.par n (List.of_mem_zip hy).1 with q|q
  ·exact .inl q
  ·exact .inr ⟨q,PySem.W.cellsFrom_some _ _ _ (.inl q)⟩
 refine codeAny_call_function hr.depth (KX _ _ lk) rfl S.co S.gen rfl (PySem.W.codeRec_of KX hcd) (hb _ _ _ _ ?_)
 refine wpAny_newFunctionEnv_cells S.kind hkind fun env he s1 x=>?_
 subst he
 refine⟨lim.keeps x.toInCall.keep,codeAny_func ?_⟩
 obtain⟨t,ht,hq⟩:=hbody A outer s H vs Q E (hr.deeper _) hsp
 have I:Inv (zpP CX P w K mg base N qual scope f cdv A outer s H E) [] (start N vs) H s1:=zoQ S hr.hd e0 hl r x
 refine wpAny_mono (ht [] s1 (start N vs) H _ I hq) (fun fl s' hs=>?_) fun e s' hs=>hs
 have fin:∀{σ':St} {H':Hp} {v:V} {u:Value},Inv (zpP CX P w K mg base N qual scope f cdv A outer s H E) [] σ' H' s'->RelV v u->Q v H'->CE outer P w H s Q u s' :=
  fun{σ' H' v u} J rv q=>⟨v,H',J.os,J.bare,J.base,J.hok,rv,q⟩
 cases fl with
 | ret u =>
  obtain⟨v,σ',H',J,rv,q⟩:=hs
  exact fin J rv q
 | next =>
  obtain⟨σ',H',J,q⟩:=hs
  exact fin (v:=V.non) (u:=Value.none) J rfl q
 | brk =>
  obtain⟨_,_,_,q⟩:=hs
  exact False.elim q
 | cont =>
  obtain⟨_,_,_,q⟩:=hs
  exact False.elim q
end
section
section
variable {X:Cx}{x:Str}{p pos:Pos}{e:Expr}{es:List Expr}{t:TA}{id T:String}{r:List V->Hp->VK->Prop}
def tCB(r:List V->Hp->VK->Prop)(t:TA):TE:=fun σ H Q=>t σ H fun vs H1=>r vs H1 Q
theorem zlX(hc:zfC X (.builtin id) r)(hg:Gl X x)(hm:X.mg x=none)(hv:bootBuiltins x=some (.builtin id))(ha:PA X (e::es) t)(hn:x ≠ "__name__":=by decide) (hdb:(x==("__debug__":Str))=false:=by decide)
  (he:starEach (e::es) X.env=(false,eval e X.env)::starEach es X.env:=by rfl) (hpl:(backTo pos (starEach es X.env)).any (·.1)=false:=by rfl):PE X (.Call (.Name x p) (e::es) [] pos) (tCB r t):=by
 intro pins s σ H Q I h
 refine wpAny_Call_Name_kw (zgC I hg hm hv ?_ hn hdb)
 exact PyProof.Rows.callWith_builtin1 (thn (ha pos pins s σ H _ I h) fun us s1 ⟨vs,H1,I1,r1,q1⟩=>hc pins s1 σ H1 vs us Q I1 r1 q1) he hpl
theorem zjI(hc:zfC X (.type T) r)(hg:Gl X x)(hm:X.mg x=none)(hv:bootBuiltins x=some (.type T))(ha:PA X (e::es) t)(hn:x ≠ "__name__":=by decide) (hdb:(x==("__debug__":Str))=false:=by decide)
  (he:starEach (e::es) X.env=(false,eval e X.env)::starEach es X.env:=by rfl) (hpl:(backTo pos (starEach es X.env)).any (·.1)=false:=by rfl):PE X (.Call (.Name x p) (e::es) [] pos) (tCB r t):=by
 intro pins s σ H Q I h
 refine wpAny_Call_Name_kw (zgC I hg hm hv ?_ hn hdb)
 exact PyProof.Rows.callWith_type1 (thn (ha pos pins s σ H _ I h) fun us s1 ⟨vs,H1,I1,r1,q1⟩=>hc pins s1 σ H1 vs us Q I1 r1 q1) he hpl
end
end
end L2
namespace HT
open PySem PyProof.Rows
def lexLt:List Int->List Int->Bool
 | [],[]=>false
 | [],_::_=>true
 | _::_,[]=>false
 | x::xs,y::ys=>if x=y then lexLt xs ys else decide (x<y)
theorem zmQ(x y:Int)(xs ys:List Int):lexLt (x::xs) (y::ys)=if x=y then lexLt xs ys else decide (x<y):=rfl
theorem ziJ:lexLt [] []=false:=rfl
theorem zht(y:Int)(ys:List Int):lexLt [] (y::ys)=true:=rfl
theorem zhu(x:Int)(xs:List Int):lexLt (x::xs) []=false:=rfl
theorem zq0(A:Around)(s:Shared)(a:Int)(t:Tok)(c:Int)(u:Tok):∃ e,SeqAt.EqAt A s (.int a t) (.int c u) e/\(e=true↔a=c) :=
 ⟨(a==c),SeqAt.EqAt.int_int a t c u,by simp⟩
theorem zlN(A:Around)(s:Shared)(a:Int)(t:Tok)(c:Int)(u:Tok)(prog:Program)(w:World)(E:Value->Shared->Prop)(Q:Value->Shared->Prop)(h:Q (.bool (decide (a<c))) s) :
  wpAny (model prog w) A (richCompare .Lt (.int a t) (.int c u)) Q E s :=
 (PyProof.Rows.lt_int h:wpAny (model prog w) A (compareOp .Lt (.int a t) (.int c u)) Q E s)
section
open PySem.SeqAt
open PySem.AutoSeq1 (wpAny_loadPart')
open PySem.MeetsSeq PySem.MeetsSeq2 PySem.MeetsSeq3
theorem zik(l b:Addr)(items items2:Array Value)(n n2:Nat)(dd dd2:Option Addr)(sl sl2:Array (Option Value))(ns ms:List Int)(hi:IntsAre items.toList ns)(hj:IntsAre items2.toList ms) :
  Meets (Builtin.«tuple.__lt__» ⟨[.ref l,.ref b],[]⟩)
   (fun _ R s=>s.heap.get? l=some { cls:=.type "tuple",dict:=dd,data:=.seq items n,slots:=sl }/\s.heap.get? b=some { cls:=.type "tuple",dict:=dd2,data:=.seq items2 n2,slots:=sl2 } /\
    R (.ok (.ret (.bool (lexLt ns ms)))) s) :=
 .of_wp fun prog w A R s h=>by
  obtain⟨hp,g,d,tk,os⟩:=s;obtain⟨hl,hb,h⟩:=h
  have f2:=AutoSeq1.sub_tuple_tuple
  have z1:items.size=ns.length:=by rw [<- hi.length];simp
  have z2:items2.size=ms.length:=by rw [<- hj.length];simp
  wp_walk using wpAny_loadPart' hl,wpAny_loadPart' hb,wpAny_forIn_list _ (fun rest b s'=>b.1=none/\s'=⟨hp,g,d,tk,os⟩/\∃(vs ws:List Value) (ns' ms':List Int),rest=vs.zip ws /\
   IntsAre vs ns'/\IntsAre ws ms'/\ns'.length+items2.size=ms'.length+items.size/\R (.ok (.ret (.bool (lexLt ns' ms')))) ⟨hp,g,d,tk,os⟩) _
  case turn =>
   rintro⟨y,x⟩ rest b s' ⟨hb',rfl,vs,ws,ns',ms',hz,hvi,hwi,hlen,hR⟩
   cases hvi with
   | nil=>rw [List.zip_nil_left] at hz;cases hz
   | cons a t hvi' =>
    cases hwi with
    | nil=>rw [List.zip_nil_right] at hz;cases hz
    | cons c u hwi' =>
     rw [List.zip_cons_cons] at hz
     injection hz with hyx hrest
     injection hyx with hy hx
     subst hy hx
     rw [zmQ] at hR
     simp only [List.length_cons] at hlen
     obtain⟨e,he,hiff⟩:=zq0 A.in1 ⟨hp,g,d,tk,os⟩ a t c u
     refine wpAny_bind (he prog w _ _ ?_)
     cases e with
     | true =>
      rw [if_pos (hiff.mp rfl)] at hR
      wp_walk
      exact⟨rfl,rfl,_,_,_,_,hrest,hvi',hwi',by omega,hR⟩
     | false =>
      rw [if_neg (fun q=>absurd (hiff.mpr q) Bool.false_ne_true)] at hR
      have hri:=zlN A.in1 ⟨hp,g,d,tk,os⟩ a t c u prog w
      wp_walk using hri
      exact⟨_,rfl,by simpa using hR⟩
  case fin =>
   rintro⟨b1,b2⟩ s' ⟨hb',rfl,vs,ws,ns',ms',hz,hvi,hwi,hlen,hR⟩
   simp only at hb'
   subst hb'
   have hv:lexLt ns' ms'=decide (items.size<items2.size):=by
    cases hvi with
    | nil =>
     cases hwi with
     | nil =>
      simp only [List.length_nil] at hlen
      rw [ziJ]
      exact(decide_eq_false (by omega)).symm
     | cons c u hw =>
      simp only [List.length_nil,List.length_cons] at hlen
      rw [zht]
      exact(decide_eq_true (by omega)).symm
    | cons a t hv =>
     cases hwi with
     | nil =>
      simp only [List.length_nil,List.length_cons] at hlen
      rw [zhu]
      exact(decide_eq_false (by omega)).symm
     | cons c u hw =>
      rw [List.zip_cons_cons] at hz
      cases hz
   rw [hv] at hR
   wp_walk
   exact⟨_,rfl,by simpa [Builtin.Tuple.tupleCompareSizes] using hR⟩
  case h =>
   exact⟨rfl,rfl,items.toList,items2.toList,ns,ms,rfl,hi,hj,by omega,h⟩
end
section
variable {prog:Program}{w:World}{A:Around}{E:Value->Shared->Prop}{s:Shared}
theorem zfk{l b:Addr}{items items2:Array Value}{ns ms:List Int}{Q:Value->Shared->Prop}(hl:IsTup s.heap l items)(hb:IsTup s.heap b items2)(hi:IntsAre items.toList ns)(hj:IntsAre items2.toList ms)
  (hu:A.units<cLine)(h:Q (.bool (lexLt ns ms)) s):wpAny (model prog w) A (compareOp .Lt (.ref l) (.ref b)) Q E s:=by
 obtain⟨⟨cls,dd,data,sl⟩,ho,hc,n,hd⟩:=id hl
 obtain⟨⟨cls2,dd2,data2,sl2⟩,ho2,hc2,n2,hd2⟩:=id hb
 simp only at hc hd hc2 hd2
 subst hc hd hc2 hd2
 exact richCompare_meets_room (op:=.Lt) ⟨_,ho,rfl⟩ ⟨_,ho2,rfl⟩ PySem.F.slot_tuple_lt PySem.F.entry_tuple_lt (PySem.F.args_tuple_lt_2 _ _) (zik l b items items2 n n2 dd dd2 sl sl2 ns ms hi hj)
  ⟨ho,ho2,show Value.bool (lexLt ns ms)≠Value.notImplemented/\Q (.bool (lexLt ns ms)) s from⟨(fun x=>nomatch x),h⟩⟩ hu
theorem ztu{t b:Addr}{vs ws:List Value}{Q:Value->Shared->Prop}(ht:IsTup s.heap t vs.toArray)(hb:IsTup s.heap b ws.toArray)(hv:vs≠[])
  (h1:ws=[]->Q (.ref t) s)(h2:ws≠[]->Q (.ref s.heap.objs.size) { s with heap:=s.heap.push { cls:=.type "tuple",data:=.seq (vs++ws).toArray } })
  (hsz:vs.length+ws.length<=sizeLine):wpAny (model prog w) A (binaryOp .Add (.ref t) (.ref b)) Q E s:=by
 obtain⟨⟨cls,dd,data,sl⟩,ho,hc,n,hd⟩:=id ht
 obtain⟨⟨cls2,dd2,data2,sl2⟩,ho2,hc2,n2,hd2⟩:=id hb
 simp only at hc hd hc2 hd2
 subst hc hd hc2 hd2
 have e:vs.toArray++ws.toArray=(vs++ws).toArray:=by simp
 by_cases hw:ws=[]
 ·exact concat_meets ⟨_,ho,rfl⟩ ⟨_,ho2,rfl⟩ noFill_tuple_add seq_tuple_add PySem.F.slot_tuple_add PySem.F.entry_tuple_add (PySem.F.args_tuple_add_2 _ _)
   (tuple_addW1 t b vs.toArray ws.toArray n n2 dd dd2 sl sl2 (by simpa using hv) (by simp [hw])) ⟨ho,ho2,h1 hw⟩
 ·refine concat_meets ⟨_,ho,rfl⟩ ⟨_,ho2,rfl⟩ noFill_tuple_add seq_tuple_add PySem.F.slot_tuple_add PySem.F.entry_tuple_add (PySem.F.args_tuple_add_2 _ _)
   (tuple_addW2 t b vs.toArray ws.toArray n n2 dd dd2 sl sl2 (by simpa using hv) (by simpa using hw) (by rw [List.size_toArray,List.size_toArray];exact hsz)) ⟨ho,ho2,?_⟩
  rw [e]
  exact h2 hw
def sIx(n d:Nat):Option Int->Nat
 | none=>d
 | some v=>if v<0 then(v+(n:Int)).toNat else min v.toNat n
theorem zt5(n d:Nat)(hd:d<=n)(o:Option Int):sIx n d o<=n:=by
 cases o with
 | none=>exact hd
 | some v =>
  show(if v<0 then(v+(n:Int)).toNat else min v.toNat n)<=n
  by_cases hv:v<0
  ·rw [if_pos hv];omega
  ·rw [if_neg hv];exact Nat.min_le_right _ _
theorem zpm(v:Int)(n d:Nat):(if v<0 then max (v+(n:Int)) 0 else min v (n:Int))=((sIx n d (some v):Nat):Int):=by
 show(if v<0 then max (v+(n:Int)) 0 else min v (n:Int))=(((if v<0 then(v+(n:Int)).toNat else min v.toNat n):Nat):Int)
 by_cases hv:v<0
 ·simp only [if_pos hv];omega
 ·simp only [if_neg hv];omega
theorem zna(lo hi:Option Int)(n:Nat):Builtin.Slice.sliceAdjust lo hi 1 (n:Int)=(((sIx n 0 lo:Nat):Int),((sIx n n hi:Nat):Int)):=by
 have h1:¬ ((1:Int)<0):=by omega
 unfold Builtin.Slice.sliceAdjust
 simp only [h1,if_false]
 refine Prod.ext ?_ ?_
 ·cases lo with
  | none=>rfl
  | some v=>exact zpm v n 0
 ·cases hi with
  | none=>rfl
  | some v=>exact zpm v n n
theorem zmK(i j:Nat):Builtin.Slice.slicePlaces (i:Int) (j:Int) 1=j-i:=by
 unfold Builtin.Slice.slicePlaces
 have h1:(1:Int) > 0:=by omega
 simp only [h1,if_true,Int.ediv_one]
 split <;> omega
theorem zhE{v:Value}{o:Option Int}{Q:Option Int->Shared->Prop}(p:IsPart v o)(h:Q o s):wpAny (model prog w) A (Builtin.Slice.slicePartIndex v) Q E s:=by
 cases p with
 | none=>exact slicePart_none h
 | int i t=>exact slicePart_int h
theorem zdu{sl:Addr}{vl vu:Value}{lo hi:Option Int}{n:Nat}{Q:Int×Int×Nat->Shared->Prop}(hs:s.heap.IsSliceOf sl vl vu .none)(pl:IsPart vl lo)(pu:IsPart vu hi)
  (h:Q (((sIx n 0 lo:Nat):Int),1,sIx n n hi-sIx n 0 lo) s):wpAny (model prog w) A (Builtin.Slice.sliceApplied (.ref sl) (pure (n:Int))) Q E s:=by
 obtain⟨os,hos,hcs,hds⟩:=id hs
 unfold Builtin.Slice.sliceApplied Builtin.Slice.sliceFields
 refine wpAny_bind (wpAny_bind (wpAny_field hos hds (x:=vl) rfl (wpAny_bind (wpAny_field hos hds (x:=vu) rfl (wpAny_bind (wpAny_field hos hds (x:=.none) rfl (wpAny_pure ?_)))))))
 refine wpAny_bind (slicePart_none ?_)
 show wpAny _ _ (if((1:Int)==0)=true then _ else _) _ _ s
 rw [if_neg (by decide)]
 refine wpAny_bind (zhE pl (wpAny_bind (zhE pu (wpAny_bind (wpAny_pure ?_)))))
 show wpAny _ _ (match Builtin.Slice.sliceAdjust lo hi 1 (n:Int) with|(lo,hi)=>pure (lo,(1:Int),Builtin.Slice.slicePlaces lo hi 1)) _ _ s
 rw [zna lo hi n]
 show wpAny _ _ (pure (((sIx n 0 lo:Nat):Int),(1:Int),Builtin.Slice.slicePlaces ((sIx n 0 lo:Nat):Int) ((sIx n n hi:Nat):Int) 1)) _ _ s
 rw [zmK]
 exact wpAny_pure h
theorem zql(xs:Array Value)(i k:Nat):((List.range k).filterMap fun(m:Nat)=>xs[((i:Int)+(m:Int)*1).toNat]?).toArray=((xs.toList.drop i).take k).toArray:=by
 have e:(fun(m:Nat)=>xs[((i:Int)+(m:Int)*1).toNat]?)=fun m=>xs[i+m]?:=by
  funext m
  have:((i:Int)+(m:Int)*1).toNat=i+m:=by omega
  rw [this]
 rw [e]
 have:=pick_run xs i k
 rw [List.filterMap_map] at this
 have e2:((fun x=>xs[x]?)∘fun x=>i+x)=fun m=>xs[i+m]?:=rfl
 rw [e2] at this
 rw [this]
theorem zfo{t sl:Addr}{items:Array Value}{vl vu:Value}{lo hi:Option Int}{Q:Value->Shared->Prop}(ht:IsTup s.heap t items)(hs:s.heap.IsSliceOf sl vl vu .none)(pl:IsPart vl lo)(pu:IsPart vu hi)
  (hw:¬ (sIx items.size 0 lo=0/\sIx items.size items.size hi=items.size))
  (h:Q (.ref s.heap.objs.size) { s with heap:=s.heap.push { cls:=.type "tuple",data:=.seq ((items.toList.drop (sIx items.size 0 lo)).take (sIx items.size items.size hi-sIx items.size 0 lo)).toArray } })
  (hsz:items.size<=sizeLine):wpAny (model prog w) A (getItem (.ref t) (.ref sl)) Q E s:=by
 have htake:sizeOk (.seq ((items.toList.drop (sIx items.size 0 lo)).take (sIx items.size items.size hi-sIx items.size 0 lo)).toArray):=by
  show((items.toList.drop (sIx items.size 0 lo)).take (sIx items.size items.size hi-sIx items.size 0 lo)).toArray.size<=sizeLine
  rw [List.size_toArray,List.length_take,List.length_drop,Array.length_toList]
  omega
 have hj:sIx items.size items.size hi<=items.size:=zt5 _ _ (Nat.le_refl _) hi
 obtain⟨os,hos,hcs,hds⟩:=id hs
 have hTs:s.TypeIs (.ref sl) "slice":=⟨os,hos,hcs⟩
 unfold getItem
 try with_reducible refine wpAny_holding ?_
 first|refine wpAny_bind (wpAny_pure ?_)|skip
 refine wpAny_bind (wpAny_sequenceKey ht.typeIs (by decide) ?_)
 refine wpAny_bind (wpAny_callSpecial?_slot (name:=Str.ofString "__getitem__") ht.typeIs PyProof.Rows.slot_tuple_getitem
  (wpAny_call_entry PyProof.Rows.slot_tuple_getitem ht.typeIs entry_tuple_getitem ?_ (args_tuple_getitem _ _)))
 show wpAny _ _ (Builtin.Tuple.tupleItemsOf (.ref t) >>= _) _ _ s
 refine wpAny_bind (tupleItemsOf_ ht ?_)
 refine wpAny_bind (wpAny_typeOf hTs ?_)
 rw [if_pos (by decide)]
 refine wpAny_bind (zdu hs pl pu ?_)
 have hno:¬ ((((sIx items.size 0 lo:Nat):Int)==0&&(1:Int)==1&&(sIx items.size items.size hi-sIx items.size 0 lo)==items.size)=true):=by
  intro q
  rw [Bool.and_eq_true,Bool.and_eq_true] at q
  have q1:((sIx items.size 0 lo:Nat):Int)=0:=eq_of_beq q.1.1
  have q2:sIx items.size items.size hi-sIx items.size 0 lo=items.size:=eq_of_beq q.2
  exact hw ⟨by omega,by omega⟩
 show wpAny _ _ (if(((sIx items.size 0 lo:Nat):Int)==0&&(1:Int)==1&&(sIx items.size items.size hi-sIx items.size 0 lo)==items.size)=true then _ else _) _ _ s
 rw [if_neg hno,zql]
 first
  | exact wpAny_bind (m:=Builtin.Tuple.tupleExact _) (wpAny_newObj_type (wpAny_pure ⟨_,rfl,wpAny_pure h⟩) htake)
  | exact wpAny_bind (m:=Builtin.Tuple.tupleExact _) (wpAny_newObj_type (wpAny_bind (wpAny_pure (wpAny_pure ⟨_,rfl,wpAny_pure h⟩))) htake)
  | exact wpAny_bind (wpAny_bind (m:=Builtin.Tuple.tupleExact _) (wpAny_newObj_type (wpAny_pure (wpAny_pure ⟨_,rfl,wpAny_pure h⟩)) htake))
  | exact wpAny_bind (wpAny_bind (m:=Builtin.Tuple.tupleExact _) (wpAny_newObj_type (wpAny_pure ⟨_,rfl,wpAny_pure h⟩) htake))
end
end HT
namespace L2
open PySem PySem.Spec PyProof.Rows
section
abbrev TO:=St->Hp->(Option Int->Hp->Prop)->Prop
def PO(X:Cx)(e:Option Expr)(t:TO):Prop :=
 ∀(pins:List (Addr×Obj)) (s:Shared) (σ:St) (H:Hp) (Q:Option Int->Hp->Prop),Inv X pins σ H s->t σ H Q ->
  wpAny (model X.prog X.w) X.A (evalPart e X.env) (fun u s'=>∃ o H',Inv X pins σ H' s'/\IsPart u o/\Q o H') X.xe s
def zsc:TO:=fun _ H Q=>Q none H
def zv7(t:TE):TO:=fun σ H Q=>t σ H fun x H1=>∃ i,x=.int i/\Q (some i) H1
theorem intsAre_of{ns:List Int}:∀{us:List Value},Vals (ns.map V.int) us->IntsAre us ns:=by
 induction ns with
 | nil=>intro us r;rw [List.map_nil] at r;cases r;exact .nil
 | cons n ns ih =>
  intro us r
  rw [List.map_cons] at r
  cases r with
  | cons r1 r2 =>
   obtain⟨t,e⟩:=r1
   subst e
   exact .cons n t (ih r2)
section
variable {X:Cx}{e:Expr}{te:TE}{lo hi:Option Expr}{tl th:TO}{pos p2:Pos}
theorem zsN:PO X none zsc:=by
 intro pins s σ H Q I h
 rw [evalPart_none]
 exact wpAny_pure ⟨none,H,I,.none,h⟩
theorem zsM(h:PE X e te):PO X (some e) (zv7 te):=by
 intro pins s σ H Q I hw
 rw [evalPart_some]
 refine thn (h pins s σ H _ I hw) fun u s1 ⟨x,H1,I1,r1,q1⟩=>?_
 obtain⟨i,rfl,q⟩:=q1
 obtain⟨t,rfl⟩:=r1
 exact⟨some i,H1,I1,.int i t,q⟩
def SlR(X:Cx)(r:V->Option Int->Option Int->Hp->VK->Prop):Prop :=
 ∀(pins:List (Addr×Obj)) (s:Shared) (σ:St) (H:Hp) (x:V) (v vl vu:Value) (lo hi:Option Int) (sl:Addr) (Q:VK),Inv X pins σ H s->RelV x v->s.heap.IsSliceOf sl vl vu .none->IsPart vl lo->IsPart vu hi->r x lo hi H Q ->
  ∃ T id,typeLookup (.type T) "__getitem__"=pure (some (.builtin id))/\s.TypeIs v T/\wpAny (model X.prog X.w) X.A (getItem v (.ref sl)) (EP X pins σ Q) X.xe s
def tSl(r:V->Option Int->Option Int->Hp->VK->Prop)(te:TE)(tl th:TO):TE:=fun σ H Q=>te σ H fun x H1=>tl σ H1 fun l H2=>th σ H2 fun u H3=>r x l u H3 Q
theorem zqn{r:V->Option Int->Option Int->Hp->VK->Prop}(hr:SlR X r)(he:PE X e te)(hl:PO X lo tl)(hu:PO X hi th):PE X (.Subscript e (.Slice lo hi none p2) pos) (tSl r te tl th):=by
 intro pins s σ H Q I h
 refine Subscript_ (thn (he pins s σ H _ I h) fun v s1 ⟨x,H1,I1,r1,q1⟩=>?_)
 refine wpAny_Slice (thn (hl pins s1 σ H1 _ I1 q1) fun vl s2 ⟨l,H2,I2,pl,q2⟩=>thn (hu pins s2 σ H2 _ I2 q2) fun vu s3 ⟨u,H3,I3,pu,q3⟩=>?_)
 rw [evalPart_none]
 refine wpAny_pure ?_
 have I4:Inv X pins σ H3 { s3 with heap:=s3.heap.push { cls:=.type "slice",data:=.fields #[vl,vu,.none] } }:=I3.kept (t':=s3.toks) fun b ob q=>Heap.get?_push_of_some _ q
 obtain⟨T,id,hT,ht,hg⟩:=hr pins { s3 with heap:=s3.heap.push { cls:=.type "slice",data:=.fields #[vl,vu,.none] } } σ H3 x v vl vu l u s3.heap.objs.size Q I4 r1 (Heap.IsSliceOf.new ..) pl pu q3
 show wpAny (model X.prog X.w) X.A (subscriptTail e (.Slice lo hi none p2) v (.ref s3.heap.objs.size)) (EP X pins σ Q) X.xe { s3 with heap:=s3.heap.push { cls:=.type "slice",data:=.fields #[vl,vu,.none] } }
 exact tail_any (ops:=[.ref s3.heap.objs.size,v]) ht hT hg (by with_unfolding_all rfl)
def zq6(xs:List V)(lo hi:Option Int):List V:=(xs.drop (HT.sIx xs.length 0 lo)).take (HT.sIx xs.length xs.length hi-HT.sIx xs.length 0 lo)
theorem zgW(xs:List V)(lo hi:Option Int):(zq6 xs lo hi).length<=xs.length:=by
 unfold zq6
 rw [List.length_take,List.length_drop]
 omega
def zx2(K:W.Frag):V->Option Int->Option Int->Hp->VK->Prop:=fun x lo hi H Q=>∃ a xs,x=.ref a/\SqT K H a xs /\
 ¬ (HT.sIx xs.length 0 lo=0/\HT.sIx xs.length xs.length hi=xs.length)/\∀ p,H p=none->Q (.ref p) (upd H p (.tup (zq6 xs lo hi)))
theorem zt3:SlR X (zx2 X.K):=by
 intro pins s σ H x v vl vu lo hi sl Q I rx hs pl pu h
 obtain⟨a,xs,rfl,hx,hw,q⟩:=h
 cases rx
 obtain⟨its,r,ht,hz⟩:=I.tuple hx
 have hlen:its.toArray.size=xs.length:=by rw [List.size_toArray];exact r.length.symm
 refine⟨"tuple",_,PyProof.Rows.slot_tuple_getitem.lookup,ht.typeIs,?_⟩
 refine HT.zfo ht hs pl pu (by rw [hlen];exact hw) ?_ (by rw [hlen];exact hz)
 rw [hlen]
 refine⟨.ref s.heap.objs.size,_,I.laid (t':=s.toks) (o:=.tup (zq6 xs lo hi)) (fun b ob q=>Heap.get?_push_of_some _ q) (Nat.le_refl _) ?_,rfl,q _ (I.hok.fresh (Nat.le_refl _))⟩
 exact⟨Nat.le_trans (zgW xs lo hi) hz,_,(r.drop (HT.sIx xs.length 0 lo)).take (HT.sIx xs.length xs.length hi-HT.sIx xs.length 0 lo),IsTup.new _ _⟩
def zwn(K:W.Frag):R2:=fun x y H Q=>∃ a b xs ys,x=.ref a/\y=.ref b/\SqT K H a xs/\SqT K H b ys/\xs≠[]/\xs.length+ys.length<=sizeLine /\
 (ys=[]->Q (.ref a) H)/\(ys≠[]->∀ p,H p=none->Q (.ref p) (upd H p (.tup (xs++ys))))
theorem Vals.zkV{xs:List V}{us:List Value}(r:Vals xs us):us=[]↔xs=[]:=by
 cases r with
 | nil=>simp
 | cons _ _=>simp
theorem zs1:OpR X (binaryOp .Add) (zwn X.K):=by
 intro pins s σ H x y v u Q I rx ry h
 obtain⟨a,b,xs,ys,rfl,rfl,ha,hb,hx,hz,q1,q2⟩:=h
 cases rx
 cases ry
 obtain⟨its,r1,p1,_⟩:=I.tuple ha
 obtain⟨its2,r2,p2,_⟩:=I.tuple hb
 refine HT.ztu p1 p2 (fun z=>hx (r1.zkV.mp z)) (fun z=>⟨.ref a,H,I,rfl,q1 (r2.zkV.mp z)⟩) (fun z=>?_) (by rw [<- r1.length,<- r2.length];exact hz)
 refine⟨.ref s.heap.objs.size,_,I.laid (t':=s.toks) (o:=.tup (xs++ys)) (fun b ob q=>Heap.get?_push_of_some _ q) (Nat.le_refl _) ?_,rfl,q2 (fun w=>z (r2.zkV.mpr w)) _ (I.hok.fresh (Nat.le_refl _))⟩
 exact⟨by rw [List.length_append];exact hz,_,r1.append r2,IsTup.new _ _⟩
end
end
section
def ixN(n:Nat)(i:Int):Option Nat:=if 0<=i then(if i<n then some i.toNat else none) else if -(n:Int)<=i then some (i+n).toNat else none
def atI{α:Type}(xs:List α)(i:Int):Option α:=(ixN xs.length i).bind fun j=>xs[j]?
theorem zoP{n:Nat}{i:Int}{j:Nat}(h:ixN n i=some j):seqIndex? i n=some j/\j<n/\-(n:Int)<=i/\i<n:=by
 unfold ixN at h
 by_cases h0:0<=i
 ·rw [if_pos h0] at h
  by_cases h1:i<n
  ·rw [if_pos h1] at h
   have e:i.toNat=j:=Option.some.inj h
   exact⟨by rw [seqIndex_of h0 h1,e],by omega,by omega,h1⟩
  ·rw [if_neg h1] at h;cases h
 ·rw [if_neg h0] at h
  by_cases h1:-(n:Int)<=i
  ·rw [if_pos h1] at h
   have e:(i+n).toNat=j:=Option.some.inj h
   exact⟨by rw [seqIndex_neg (by omega) h1,e],by omega,h1,by omega⟩
  ·rw [if_neg h1] at h;cases h
theorem zpu{α:Type}{xs:List α}{i:Int}{v:α}(h:atI xs i=some v):∃ j,seqIndex? i xs.length=some j/\xs[j]?=some v/\j<xs.length/\-(xs.length:Int)<=i/\i<xs.length:=by
 unfold atI at h
 cases e:ixN xs.length i with
 | none=>rw [e] at h;cases h
 | some j =>
  rw [e] at h
  obtain⟨h1,h2,h3,h4⟩:=zoP e
  exact⟨j,h1,h,h2,h3,h4⟩
def zjb(b:Expr):Prop:=∀ o i,subscripted b false o i=operate [o,i] (getItem o i)
def IxR(X:Cx)(r:R2):Prop :=
 ∀(value slice:Expr) (pins:List (Addr×Obj)) (s:Shared) (σ:St) (H:Hp) (x y:V) (v u:Value) (Q:VK),Inv X pins σ H s->RelV x v->RelV y u->r x y H Q ->
  subscripted slice false v u=operate [v,u] (getItem v u)->wpAny (model X.prog X.w) X.A (subscriptTail value slice v u) (EP X pins σ Q) X.xe s
def MtR(X:Cx)(id:String)(r:V->List V->Hp->VK->Prop):Prop :=
 ∀(pins:List (Addr×Obj)) (s:Shared) (σ:St) (H:Hp) (x:V) (xs:List V) (v:Value) (us:List Value) (Q:VK),Inv X pins σ H s->RelV x v->Vals xs us->r x xs H Q ->
  wpAny (model X.prog X.w) X.A (call (.builtin id) (v::us)) (EP X pins σ Q) X.xe s
section
variable {X:Cx}{a b:Expr}{ta tb:TE}{pos:Pos}
theorem zuA{r:R2}(hr:IxR X r)(ha:PE X a ta)(hb:PE X b tb)(hs:zjb b):PE X (.Subscript a b pos) (tOp r ta tb):=by
 intro pins s σ H Q I h
 exact Subscript_ (zxf ha hb I h fun v u s2 x y H2 I2 rx ry q=>hr a b pins s2 σ H2 x y v u Q I2 rx ry q (hs _ _))
def zx6(K:W.Frag):R2:=fun x y H Q=>∃ p xs i v,x=.ref p/\y=.int i/\SqL K H p xs/\atI xs i=some v/\Q v H
def zx5(K:W.Frag):R2:=fun x y H Q=>∃ p xs i v,x=.ref p/\y=.int i/\SqT K H p xs/\atI xs i=some v/\Q v H
theorem ztf:IxR X (zx6 X.K):=by
 intro value slice pins s σ H x y v u Q I rx ry h hs
 obtain⟨p,xs,i,z,rfl,rfl,hq,he,q⟩:=h
 cases rx
 obtain⟨t,rfl⟩:=ry
 obtain⟨its,r,pl,hz⟩:=I.list hq
 obtain⟨j,h1,h2,h3,h4,h5⟩:=zpu he
 obtain⟨w,ew,rw'⟩:=r.get h2
 have hl:=r.length
 have hn:=zjP
 have fin:EP X pins σ Q w s:=⟨z,H,I,rw',q⟩
 by_cases h0:0<=i
 ·have hj:i.toNat=j:=by
   rw [seqIndex_of h0 h5] at h1
   exact Option.some.inj h1
  exact item_listR pl.isList h0 (by omega) (by rw [hj];simpa using ew) fin hs
 ·have hj:(i+(its.toArray.size:Int)).toNat=j:=by
   rw [seqIndex_neg (by omega) h4] at h1
   rw [List.size_toArray,<- hl]
   exact Option.some.inj h1
  exact subscriptTail_builtinR (x:=w) pl.isList.typeIs slot_list_getitem.lookup
   (wpAny_getItem_list_neg (Q:=fun r s'=>r=w/\EP X pins σ Q r s') pl.isList (by omega) (by rw [List.size_toArray] <;> omega) (by omega) (by rw [hj];simpa using ew) ⟨rfl,fin⟩) hs
theorem zu8:IxR X (zx5 X.K):=by
 intro value slice pins s σ H x y v u Q I rx ry h hs
 obtain⟨p,xs,i,z,rfl,rfl,hq,he,q⟩:=h
 cases rx
 obtain⟨t,rfl⟩:=ry
 obtain⟨its,r,pl,hz⟩:=I.tuple hq
 obtain⟨j,h1,h2,h3,h4,h5⟩:=zpu he
 obtain⟨w,ew,rw'⟩:=r.get h2
 have hl:=r.length
 have hn:=zjP
 have fin:EP X pins σ Q w s:=⟨z,H,I,rw',q⟩
 exact subscriptTail_builtinR (x:=w) pl.typeIs slot_tuple_getitem.lookup
  (getItem_tuple (j:=j) (Q:=fun r s'=>r=w/\EP X pins σ Q r s') pl (by omega) (by omega) (by rw [List.size_toArray,<- hl];exact h1) (by simpa using ew) ⟨rfl,fin⟩) hs
theorem zmP(its:List Value)(n j:Nat)(u:Value):Obj.mapSeq (·.setIfInBounds j u) { cls:=.type "list",data:=.seq its.toArray n }={ cls:=.type "list",data:=.seq (its.set j u).toArray n }:=by
 simp [Obj.mapSeq]
theorem Inv.lst{pins:List (Addr×Obj)}{σ:St}{H:Hp}{s:Shared}{p:Addr}{xs:List V}(I:Inv X pins σ H s)(h:H p=some (.lst xs)) :
  ∃(its:List Value) (n:Nat),Vals xs its/\s.heap.get? p=some { cls:=.type "list",data:=.seq its.toArray n }/\xs.length<=sizeLine:=by
 obtain⟨z,its,n,r,e⟩:=I.hok p _ h
 exact⟨its,n,r,e,z⟩
theorem Inv.zuY{pins:List (Addr×Obj)}{σ:St}{H:Hp}{s:Shared}{p:Addr}{xs ys:List V}{its its':List Value}{n n':Nat}{f:Obj->Obj}(I:Inv X pins σ H s)(h:H p=some (.lst xs))
  (ho:s.heap.get? p=some { cls:=.type "list",data:=.seq its.toArray n }) (hf:f { cls:=.type "list",data:=.seq its.toArray n }={ cls:=.type "list",data:=.seq its'.toArray n' }) (r:Vals ys its') (hz:ys.length<=sizeLine) (t:Nat) :
  Inv X pins σ (upd H p (.lst ys)) { s with heap:=s.heap.update p f,toks:=t }:=by
 have e:(s.heap.update p f).get? p=some { cls:=.type "list",data:=.seq its'.toArray n' }:=by
  rw [Heap.get?_update_self f ho (by rw [hf] <;> rfl),hf]
 refine I.write (x:=p) (e:=p) (by rw [h];trivial) (.inl rfl) (fun b u hb q=>(Heap.get?_update_other _ _ (Ne.symm hb)).trans q) ⟨_,e⟩ ?_
 exact⟨hz,its',n',r,e⟩
def zwm:V->V->V->Hp->(Hp->Prop)->Prop:=fun o i v H Q=>∃ p xs k j,o=.ref p/\i=.int k/\H p=some (.lst xs)/\ixN xs.length k=some j/\Q (upd H p (.lst (xs.set j v)))
theorem set_list:zxN X zwm:=by
 intro pins s σ H o i v ov iv u Q I ro ri rv h
 obtain⟨p,xs,k,j,rfl,rfl,hp,hj,q⟩:=h
 cases ro
 obtain⟨t,rfl⟩:=ri
 obtain⟨its,n,r,ho,hz⟩:=I.lst hp
 obtain⟨h1,h2,h3,h4⟩:=zoP hj
 have hl:=r.length
 have hn:=zjP
 have I':Inv X pins σ (upd H p (.lst (xs.set j v))) { s with heap:=s.heap.update p (Obj.mapSeq (·.setIfInBounds j u)) } :=
  I.zuY hp ho (zmP its n j u) (r.set rv j) (by rw [List.length_set];exact hz) s.toks
 by_cases h0:0<=k
 ·have hk:k.toNat=j:=by
   rw [seqIndex_of h0 h4] at h1
   exact Option.some.inj h1
  exact PySem.W.ki_setAt ho h0 (by omega) (by rw [List.size_toArray,<- hl];exact h4) (by rw [hk];exact⟨_,I',q⟩)
 ·have hk:(k+(its.toArray.size:Int)).toNat=j:=by
   rw [seqIndex_neg (by omega) h3] at h1
   rw [List.size_toArray,<- hl]
   exact Option.some.inj h1
  exact PySem.W.ki_setBack ho (by omega) (by rw [List.size_toArray,<- hl];exact h3) (by omega) (by rw [hk];exact⟨_,I',q⟩)
theorem zjv(lo hi:Option Int)(n:Nat):(sliceBounds lo hi none n).1=((HT.sIx n 0 lo:Nat):Int)/\(sliceBounds lo hi none n).2.1=((HT.sIx n n hi:Nat):Int)/\(sliceBounds lo hi none n).2.2=1:=by
 refine⟨?_,?_,rfl⟩
 ·cases lo with
  | none=>simp [sliceBounds,HT.sIx]
  | some i =>
   simp only [sliceBounds,HT.sIx,Option.getD_none,show(1:Int) > 0 by decide,if_true]
   by_cases h:i<0
   ·simp only [h,if_true] <;> omega
   ·simp only [h,if_false] <;> omega
 ·cases hi with
  | none=>simp [sliceBounds,HT.sIx]
  | some i =>
   simp only [sliceBounds,HT.sIx,Option.getD_none,show(1:Int) > 0 by decide,if_true]
   by_cases h:i<0
   ·simp only [h,if_true] <;> omega
   ·simp only [h,if_false] <;> omega
theorem zio(its:List Value)(lo hi:Option Int):slicePick its.toArray lo hi none=((its.drop (HT.sIx its.length 0 lo)).take (HT.sIx its.length its.length hi-HT.sIx its.length 0 lo)).toArray:=by
 obtain⟨h1,h2,h3⟩:=zjv lo hi its.toArray.size
 unfold slicePick
 rw [h1,h2,h3]
 simp only [sliceRange_one,pick_run,List.size_toArray] <;> rfl
def zx3(K:W.Frag):V->Option Int->Option Int->Hp->VK->Prop:=fun x lo hi H Q=>∃ a xs,x=.ref a/\SqL K H a xs/\∀ p,H p=none->Q (.ref p) (upd H p (.lst (zq6 xs lo hi)))
theorem zsh:SlR X (zx3 X.K):=by
 intro pins s σ H x v vl vu lo hi sl Q I rx hs pl pu h
 obtain⟨a,xs,rfl,hx,q⟩:=h
 cases rx
 obtain⟨its,r,ht,hz⟩:=I.list hx
 have hlen:=r.length
 refine⟨"list",_,slot_list_getitem.lookup,ht.isList.typeIs,?_⟩
 refine wpAny_getItem_list_slice ht.isList hs pl pu .none (by simp) ?_ (by rw [List.size_toArray] <;> omega)
 rw [zio,<- hlen]
 refine⟨.ref s.heap.objs.size,_,I.laid (t':=s.toks) (o:=.lst (zq6 xs lo hi)) (fun b ob q=>Heap.get?_push_of_some _ q) (Nat.le_refl _) ?_,rfl,q _ (I.hok.fresh (Nat.le_refl _))⟩
 exact⟨Nat.le_trans (zgW xs lo hi) hz,_,0,(r.drop (HT.sIx xs.length 0 lo)).take (HT.sIx xs.length xs.length hi-HT.sIx xs.length 0 lo),Heap.get?_push_size _ rfl⟩
theorem zfM:zfC X (.builtin "len") (fun xs H Q=>∃ p ys,xs=[.ref p]/\(SqL X.K H p ys\/SqT X.K H p ys)/\Q (.int ys.length) H):=by
 intro pins s σ H xs us Q I r h
 obtain⟨p,ys,rfl,hq,q⟩:=h
 obtain⟨u,rfl,rx⟩:=vals1 r
 cases rx
 have hn:=zjP
 rcases hq with hq|hq
 ·obtain⟨its,r',pl,hz⟩:=I.list hq
  have hlen:=r'.length
  exact Calls.call_len_list pl.isList (by simp only [List.size_toArray] <;> omega) ⟨.int ys.length,H,I.tok _,⟨s.toks+1,by rw [List.size_toArray,hlen]⟩,q⟩
 ·obtain⟨its,r',pl,hz⟩:=I.tuple hq
  have hlen:=r'.length
  exact len_tuple pl (by simp only [List.size_toArray] <;> omega) ⟨.int ys.length,H,I.tok _,⟨s.toks+1,by rw [List.size_toArray,hlen]⟩,q⟩
theorem zfL:zfC X (.type "list") (fun xs H Q=>∃ p ys,xs=[.ref p]/\(SqL X.K H p ys\/SqT X.K H p ys)/\∀ l,H l=none->Q (.ref l) (upd H l (.lst ys))):=by
 intro pins s σ H xs us Q I r h
 obtain⟨p,ys,rfl,hq,q⟩:=h
 obtain⟨u,rfl,rx⟩:=vals1 r
 cases rx
 have fin:∀(its:List Value),Vals ys its->ys.length<=sizeLine->∀(h':Heap) (c':Nat),(∀ b o',s.heap.get? b=some o'->h'.get? b=some o') ->
   h'.get? s.heap.objs.size=some { cls:=.type "list",dict:=none,data:=.seq its.toArray c',slots:=#[] }->EP X pins σ Q (.ref s.heap.objs.size) { s with heap:=h' }:=fun its r' hz h' c' kp e =>
  ⟨.ref s.heap.objs.size,_,I.laid (t':=s.toks) kp (Nat.le_refl _) (show zbM X.prog X.w _ h' _ (.lst ys) from⟨hz,its,c',r',e⟩),rfl,q _ (I.hok.fresh (Nat.le_refl _))⟩
 rcases hq with hq|hq
 ·obtain⟨its,r',pl,hz⟩:=I.list hq
  have hlen:=r'.length
  obtain⟨o,ho,hc,n,hd⟩:=pl.isList
  exact call_list_seq p (.inl rfl) ho hc hd (fun h' c' kp e=>fin its r' hz h' c' kp e) (by simp only [List.size_toArray] <;> omega)
 ·obtain⟨its,r',pl,hz⟩:=I.tuple hq
  have hlen:=r'.length
  obtain⟨o,ho,hc,n,hd⟩:=pl
  exact call_list_seq p (.inr rfl) ho hc hd (fun h' c' kp e=>fin its r' hz h' c' kp e) (by simp only [List.size_toArray] <;> omega)
theorem ze4:zfC X (.type "tuple") (fun xs H Q=>∃ p ys,xs=[.ref p]/\((SqL X.K H p ys/\∀ l,H l=none->Q (.ref l) (upd H l (.tup ys)))\/(SqT X.K H p ys/\Q (.ref p) H))):=by
 intro pins s σ H xs us Q I r h
 obtain⟨p,ys,rfl,h⟩:=h
 obtain⟨u,rfl,rx⟩:=vals1 r
 cases rx
 rcases h with⟨hq,q⟩|⟨hq,q⟩
 ·obtain⟨its,r',pl,hz⟩:=I.list hq
  have hlen:=r'.length
  refine call_tuple_list pl.isList (fun h' kp=>?_) (by simp only [List.size_toArray] <;> omega)
  have I1:Inv X pins σ H { s with heap:=h' }:=I.kept (t':=s.toks) kp
  have I2:Inv X pins σ (upd H h'.objs.size (.tup ys)) { s with heap:=h'.push { cls:=.type "tuple",data:=.seq its.toArray } } :=
   I1.laid (t':=s.toks) (fun b o e=>Heap.get?_push_of_some _ e) (Nat.le_refl _) (show zbM X.prog X.w _ _ _ (.tup ys) from⟨hz,its,r',IsTup.new _ _⟩)
  exact⟨.ref h'.objs.size,_,I2,rfl,q _ (I1.hok.fresh (Nat.le_refl _))⟩
 ·obtain⟨its,r',pl,hz⟩:=I.tuple hq
  exact call_tuple_same pl ⟨.ref p,H,I,rfl,q⟩
def tyV(K:W.Frag)(T:String)(x:V)(H:Hp):Prop:=match x with
 | .str _=>T="str"
 | .int _=>T="int"
 | .ref p=>(T="list"/\∃ xs,SqL K H p xs)\/(T="tuple"/\∃ o,K.lookup p=some o/\o.cls=.type "tuple"/\o.dict=none) \/
   (T="dict"/\((∃ kvs,H p=some (.dK kvs))\/∃ kvs,H p=some (.dT kvs)))\/(T="set"/\∃ S n,H p=some (.set S n))
 | _=>False
theorem ztT{pins:List (Addr×Obj)}{σ:St}{H:Hp}{s:Shared}{T:String}{x:V}{v:Value}(I:Inv X pins σ H s)(r:RelV x v)(ty:tyV X.K T x H) :
  s.TypeIs v T/\∀ a,v=.ref a->∃ ob,s.heap.get? a=some ob/\ob.dict=none:=by
 cases x with
 | str z =>
  obtain⟨t,rfl⟩:=r
  cases (show T="str" from ty)
  exact⟨typeIs_str s z t,fun _ e=>nomatch e⟩
 | int i =>
  obtain⟨t,rfl⟩:=r
  cases (show T="int" from ty)
  exact⟨typeIs_int s i t,fun _ e=>nomatch e⟩
 | ref p =>
  cases r
  rcases ty with⟨rfl,xs,hq⟩|⟨rfl,o,hk,hc,hd⟩|⟨rfl,hk⟩|⟨rfl,S,n,hk⟩
  ·obtain⟨its,_,pl,_⟩:=I.list hq
   refine⟨pl.isList.typeIs,fun a e=>?_⟩
   cases e
   obtain⟨o,n,e,c,hd,_⟩:=pl
   exact⟨o,e,hd⟩
  ·refine⟨⟨o,I.kIn p o hk,hc⟩,fun a e=>?_⟩
   cases e
   exact⟨o,I.kIn _ o hk,hd⟩
  ·have z:∃ o,s.heap.get? p=some o/\o.ExactDict:=by
    rcases hk with⟨kvs,hk⟩|⟨kvs,hk⟩
    ·obtain⟨_,_,_,_,o,_,_,e,ex,_⟩:=I.hok p _ hk
     exact⟨o,e,ex⟩
    ·obtain⟨_,_,_,_,o,_,_,e,ex,_⟩:=I.hok p _ hk
     exact⟨o,e,ex⟩
   obtain⟨o,e,ex⟩:=z
   refine⟨⟨o,e,ex.1⟩,fun a e2=>?_⟩
   cases e2
   exact⟨o,e,ex.2.1⟩
  ·obtain⟨o,_,_,_,e,ex,_⟩:=I.hok p _ hk
   refine⟨⟨o,e,ex.1⟩,fun a e2=>?_⟩
   cases e2
   exact⟨o,e,ex.2.1⟩
 | _=>exact False.elim ty
def zxZ(K:W.Frag)(T:String)(r:V->List V->Hp->VK->Prop)(to:TE):TE:=fun σ H Q=>to σ H fun x H1=>tyV K T x H1/\r x [] H1 Q
variable {o e:Expr}{es:List Expr}{to:TE}{t:TA}{name:Str}{apos cpos:Pos}{T id:String}{r:V->List V->Hp->VK->Prop}
theorem zuD(pa:PlainAttrs T)(slot:Slot T name id)(hty:typeOf (.builtin id)=pure (.type "method_descriptor")) (hm:MtR X id r) (ho:PE X o to)
  (hbase:attributeBase o name X.env (eval o X.env)=eval o X.env:=by rfl) (hline:(apos.endLine==cpos.line)=true:=by rfl):PE X (.Call (.Attribute o name apos) [] [] cpos) (zxZ X.K T r to):=by
 intro pins s σ H Q I h
 refine wpAny_Call_method0_late hbase hline (thn (ho pins s σ H _ I h) fun v s1 ⟨x,H1,I1,r1,ty,q1⟩=>?_)
 obtain⟨h1,h2⟩:=ztT I1 r1 ty
 exact⟨T,id,pa,slot,hty,h1,h2,Calls.callWith_builtin rfl (PySem.evalArgs_none (hm pins s1 σ H1 x [] v [] Q I1 r1 .nil q1))⟩
end
end
section
def MtM(X:Cx)(id:String)(r:V->List V->Hp->VK->Prop):Prop :=
 ∀(pins:List (Addr×Obj)) (s:Shared) (σ:St) (H:Hp) (x:V) (xs:List V) (v:Value) (us:List Value) (Q:VK),Inv X pins σ H s->RelV x v->Vals xs us->r x xs H Q ->
  wpAny (model X.prog X.w) X.A (call (.builtin id) (v::us)) (EP X pins σ Q) X.xe s
theorem Vals.one:∀{x:V} {us:List Value},Vals [x] us->∃ u,us=[u]/\RelV x u
 | _,_,.cons r .nil=>⟨_,rfl,r⟩
theorem Vals.zero:∀{us:List Value},Vals [] us->us=[]
 | _,.nil=>rfl
theorem Vals.dropLast{xs:List V}{us:List Value}(h:Vals xs us):Vals xs.dropLast us.dropLast:=by
 induction h with
 | nil=>exact .nil
 | cons r t ih =>
  cases t with
  | nil=>exact .nil
  | cons q t'=>exact .cons r ih
theorem Vals.rep{xs:List V}{us:List Value}(h:Vals xs us):∀ k:Nat,Vals (List.replicate k xs).flatten (List.replicate k us).flatten
 | 0=>.nil
 | k+1=>by
  rw [List.replicate_succ,List.replicate_succ,List.flatten_cons,List.flatten_cons]
  exact Vals.append h (Vals.rep h k)
theorem ztH{α:Type}(l:List α):l.eraseIdx (l.length-1)=l.dropLast:=by
 induction l with
 | nil=>rfl
 | cons a r ih =>
  cases r with
  | nil=>rfl
  | cons b r =>
   have e:(a::b::r).length-1=((b::r).length-1)+1:=by
    have h1:(a::b::r).length=r.length+2:=rfl
    have h2:(b::r).length=r.length+1:=rfl
    omega
   rw [e,List.eraseIdx_cons_succ,ih]
   all_goals rfl
theorem foldl_rep(its:List Value):∀(k:Nat) (acc:List Value),
  List.foldl (fun x1 x2=>x1++x2) acc.toArray (List.replicate k its.toArray)=(acc++(List.replicate k its).flatten).toArray
 | 0,acc=>by simp
 | k+1,acc=>by
  have e:acc.toArray++its.toArray=(acc++its).toArray:=by simp
  have e2:(acc++its)++(List.replicate k its).flatten=acc++(List.replicate (k+1) its).flatten:=by
   rw [List.replicate_succ,List.flatten_cons,List.append_assoc]
  rw [<- e2,<- foldl_rep its k (acc++its),<- e,List.replicate_succ,List.foldl_cons]
section
variable {X:Cx}{pins:List (Addr×Obj)}{σ:St}{H:Hp}{s:Shared}{l b:Addr}{xs ys zs:List V}
theorem Inv.zxz{its its':List Value}{n:Nat}{f:Array Value->Array Value}{t':Nat}(I:Inv X pins σ H s)(hH:H l=some (.lst xs))
  (e:s.heap.get? l=some { cls:=.type "list",data:=.seq its.toArray n }) (hf:f its.toArray=its'.toArray) (hv:Vals ys its') (hz:ys.length<=sizeLine) :
  Inv X pins σ (upd H l (.lst ys)) { s with heap:=s.heap.update l (Obj.mapSeq f),toks:=t' }:=by
 have q:=PySem.IsL.update e f
 rw [hf] at q
 refine I.write (x:=l) (e:=l) (by rw [hH];exact trivial) (.inl rfl) (fun b' u hb hu=>(Heap.get?_update_other s.heap (Obj.mapSeq f) (Ne.symm hb)).trans hu) ⟨_,q⟩ ?_
 exact⟨hz,its',_,hv,q⟩
theorem Inv.zxA{its:List Value}{t':Nat}(I:Inv X pins σ H s)(hv:Vals ys its)(hz:ys.length<=sizeLine) :
  Inv X pins σ (upd H s.heap.objs.size (.lst ys)) { s with heap:=s.heap.push { cls:=.type "list",data:=.seq its.toArray },toks:=t' } :=
 I.laid (fun _ _ q=>Heap.get?_push_of_some _ q) (Nat.le_refl _) ⟨hz,its,0,hv,Heap.get?_push_size _ rfl⟩
theorem Inv.fresh(I:Inv X pins σ H s):H s.heap.objs.size=none:=I.hok.fresh (Nat.le_refl _)
theorem Inv.zxx(I:Inv X pins σ H s)(hH:H l=some (.lst xs)):xs.length<=sizeLine/\∃(its:List Value) (n:Nat),Vals xs its/\xs.length=its.length/\s.heap.get? l=some { cls:=.type "list",data:=.seq its.toArray n }:=by
 obtain⟨z,its,n,r,e⟩:=I.hok l _ hH
 exact⟨z,its,n,r,r.length,e⟩
end
section
variable {X:Cx}
def zsm:V->List V->Hp->VK->Prop:=fun x vs H Q=>∃ l xs y,x=.ref l/\vs=[y]/\H l=some (.lst xs)/\xs.length<sizeLine/\Q .non (upd H l (.lst (xs++[y])))
theorem zjN:MtM X "list.append" zsm:=by
 intro pins s σ H x vs v us Q I rx rv h
 obtain⟨l,xs,y,rfl,rfl,hH,hz,q⟩:=h
 cases rx
 obtain⟨u,rfl,ru⟩:=rv.one
 obtain⟨z,its,n,r,hl,e⟩:=I.zxx hH
 refine call_meets F.slot_list_append ⟨_,e,rfl⟩ F.entry_list_append (F.args_list_append_2 _ _) (PySem.list_append l its.toArray n u (by rw [List.size_toArray];omega)) ⟨e,?_⟩
 refine⟨.non,_,I.zxz (its':=its++[u]) hH e (by simp) (r.append (.cons ru .nil)) ?_,rfl,q⟩
 rw [List.length_append,List.length_singleton]
 omega
def zua:V->List V->Hp->VK->Prop:=fun x vs H Q=>∃ l xs,x=.ref l/\vs=[]/\H l=some (.lst xs)/\Q .non (upd H l (.lst []))
theorem zqB:MtM X "list.clear" zua:=by
 intro pins s σ H x vs v us Q I rx rv h
 obtain⟨l,xs,rfl,rfl,hH,q⟩:=h
 cases rx
 have hus:=rv.zero
 subst hus
 obtain⟨z,its,n,r,hl,e⟩:=I.zxx hH
 refine call_meets F.slot_list_clear ⟨_,e,rfl⟩ F.entry_list_clear (F.args_list_clear_1 _) (AutoSeq1.list_clear_list_0 l its.toArray n (by rw [List.size_toArray];omega)) ⟨e,?_⟩
 exact⟨.non,_,I.zxz (its':=[]) (ys:=[]) hH e rfl .nil (Nat.zero_le _),rfl,q⟩
theorem len_rep{α:Type}(xs:List α)(k:Nat):(List.replicate k xs).flatten.length=k*xs.length:=by
 induction k with
 | zero=>simp
 | succ k ih=>rw [List.replicate_succ,List.flatten_cons,List.length_append,ih,Nat.succ_mul,Nat.add_comm]
end
end
end L2
namespace Att
open PySem PySem.W PySem.Calls PyProof.Rows
theorem zgI{P:Params}{h:Heap}:∀(ns:List Int) (vs:List Value),WellAll P h vs (ns.map WData.int)->IntsAre vs ns:=by
 intro ns
 induction ns with
 | nil =>
  intro vs w
  rw [List.map_nil] at w
  cases w
  exact .nil
 | cons n ns ih =>
  intro vs w
  rw [List.map_cons] at w
  cases w with
  | cons a b =>
   cases a
   exact .cons _ _ (ih _ b)
theorem znH{l:OpenLaw}{n:Nat}(hn:l.most=some n){P:Params}{h:Heap}{args:List WData}{vals:List Value}
  (hpre:l.row.toRowW.claim.pre args=true)(hwl:WellAll P h vals args) :
  ∃ a vs ns,vals=[Value.ref a]/\args=[WData.list (ns.map WData.int)]/\h.get? a=some { cls:=.type "list",data:=.seq vs.toArray }/\IntsAre vs ns/\ns.length<=n:=by
 have hsh:WShape.hasAll [] args [.list .int]=true:=(pre_splitW hpre).1
 have hc:l.pre.holds [] { args:=args }=true:=(pre_splitW hpre).2
 obtain⟨d,r,rfl,h1,h2⟩:=hasAllW_cons hsh
 obtain rfl:=hasAllW_nil h2
 obtain⟨xs,rfl,h3⟩:=hasW_list h1
 obtain⟨ns,rfl⟩:=items_int h3
 have hlen:ns.length<=n:=by
  unfold OpenLaw.pre at hc
  have h4:(WTm.not (.lt (.lit (.int n)) (.len (.arg 0)))).holds [] { args:=[.list (ns.map .int)] }=true:=by
   have h4:=(holds_andW hc).1
   rw [hn] at h4
   exact h4
  have h5:=condW_of h4 (w_not (w_lt w_lit (w_len_list (w_arg rfl))))
  rw [List.length_map] at h5
  refine Nat.le_of_not_lt fun q=>?_
  have q':(n:Int)<((ns.length:Nat):Int):=by omega
  first
   | (rw [decide_eq_true q'] at h5;exact absurd h5 (by decide))
   | (simp at h5;omega)
 cases hwl with
 | cons w1 w2 =>
  cases w2
  cases w1 with
  | list ho hall=>exact⟨_,_,ns,rfl,rfl,ho,zgI ns _ hall,hlen⟩
theorem zn4(l:OpenLaw)(args:List WData):l.row.toRowW.claim.post args (.bool true) args=true :=
 postW_of (r:=l.row.toRowW) (X:=(true==true))
  (show WShape.has [] (.bool true) .bool=true by first|rfl|decide|simp [WShape.has,WShape.arms,WShape.armsAll])
  (show(WTm.eq .res (.lit (.bool true))).value [] { args:=args,res:=some (.bool true),after:=args }=some (.bool (true==true)) from w_eq_bool (w_res rfl) w_lit) rfl
theorem zlp{l:OpenLaw}{n:Nat}{q:Program}{loose:List Str}{XP:(Str->Option Value)->Heap->Prop}{YP:World->Heap->Prop}{d:DefRec}
  (hn:l.most=some n)(hdf:d.params.defaults=[])
  (call:∀(w:World) (s₀ s₁:Shared) (mg mb:Str->Option Value) (fa:Addr) (o:Obj) (pm cd doc:Value) (a:Addr) (vs:List Value) (ns:List Int),
   Ground q loose [] XP w s₀ mg mb s₁.heap->YP w s₁.heap ->
   s₁.heap.get? fa=some o->o.data=.func (docDef d.name d.params d.body d.scope pm cd doc)->s₁.heap.CodeRec cd d.name->mg d.name=some (.ref fa) ->
   s₁.heap.get? a=some { cls:=.type "list",data:=.seq vs.toArray }->IntsAre vs ns->ns.length<=n->s₁.gens=#[] ->
   codeAny (model l.prog w) callerA (.call (.ref fa) ⟨[.ref a],[]⟩) (fun r s'=>r=.ok (.ret (.bool true))/\OldK s₁.heap s'.heap/\s'.os=s₁.os/\AllBare s'.gens) s₁) :
  WalkO q loose XP YP l.row.toRowW d [] (fun f vs=>PySem.call f vs):=by
 intro w s₀ s₁ mg mb G Y fa o pm cd doc dV kV ho hd hcd hD hmg hg args vals as hpre hlay hrd hwl hlo
 obtain rfl:dV=.none:=Dflts.none hD hdf
 obtain rfl:kV=.none:=Dflts.noKw hD
 obtain⟨a,vs,ns,rfl,rfl,hobj,hints,hlen⟩:=znH hn hpre hwl
 refine enter_call (codeAny_mono (call w s₀ s₁ mg mb fa o pm cd doc a vs ns G Y ho (fd_plain hd) hcd hmg hobj hints hlen hg) fun r s' hq=>?_)
 obtain⟨rfl,h2,h3,h4⟩:=hq
 exact⟨.inl ⟨.bool true,.bool true,[],rfl,fun _=>rfl,.bool true,zn4 l _,fun _=>⟨List.Pairwise.nil,fun _ hm=>(nomatch hm)⟩⟩,h2,h3,h4⟩
end Att
namespace L2
open PySem PySem.Spec PyProof.Rows
section
theorem zjq:∀{vs:List Value} {ns:List Int},IntsAre vs ns->Vals (ns.map V.int) vs
 | _,_,.nil=>.nil
 | _,_,.cons n t h=>.cons ⟨t,rfl⟩ (zjq h)
end
section
abbrev KOf{K:W.Frag}{h:Heap}(_:K.In h):W.Frag:=K
end
section
def zdn(s:Stmt):Arguments:=match s with
 | .FunctionDef _ a _ _ _ _ _ _ _ _=>a
 | _=>{ posonlyargs:=[],args:=[],vararg:=none,kwonlyargs:=[],kw_defaults:=[],kwarg:=none,defaults:=[] }
def zbL(s:Stmt):List Stmt:=match s with
 | .FunctionDef _ _ b _ _ _ _ _ _ _=>b
 | _=>[]
def zau(s:Stmt):Scope:=match s with
 | .FunctionDef _ _ _ _ _ _ sc _ _ _=>sc
 | _=>{ kind:=.function,names:=[],isGenerator:=false,isCoroutine:=false }
abbrev E0:XK:=fun _ _ _=>False
structure Fun(K:W.Frag)(x qual:Str)(st:Stmt)(f:Addr)(fd:FuncData):Prop where
 ex:∃(oc:Value) (od:Option Addr) (kV doc pm:Value) (an:Option Addr) (cdv ct:Value) (osl:Array (Option Value)),
  fd=PySem.W.fnOf x qual (zdn st) (zbL st) (zau st) .none kV doc pm an cdv ct/\K.lookup f=some ⟨oc,od,.func fd,osl⟩/\PySem.W.codeIn K cdv qual=true
 kp:PySem.W.keepIn K (.ref f)=true
section
variable {P:Program}{w:World}{K:W.Frag}{mg:Str->Option Value}{base:Heap}
theorem Fun.binds{x qual:Str}{st:Stmt}{f:Addr}{fd:FuncData}{ps:List Str}(F:Fun K x qual st f fd)
  (h:∀(kV doc pm:Value) (an:Option Addr) (cdv ct:Value) (us:List Value),us.length=ps.length->bindArgs (PySem.W.fnOf x qual (zdn st) (zbL st) (zau st) .none kV doc pm an cdv ct) ⟨us,[]⟩=pure (ps.zip us)):Binds K fd ps []:=by
 obtain⟨oc,od,kV,doc,pm,an,cdv,ct,osl,rfl,lk,hcd⟩:=F.ex
 exact .all (h kV doc pm an cdv ct)
theorem zvi{x qual:Str}{st:Stmt}{f:Addr}{oc:Value}{od an:Option Addr}{osl:Array (Option Value)}{kV doc pm cdv ct:Value}(l:K.lookup f=some ⟨oc,od,.func (PySem.W.fnOf x qual (zdn st) (zbL st) (zau st) .none kV doc pm an cdv ct),osl⟩)
  (c:PySem.W.codeIn K cdv qual=true)(k:PySem.W.keepIn K (.ref f)=true):Fun K x qual st f (PySem.W.fnOf x qual (zdn st) (zbL st) (zau st) .none kV doc pm an cdv ct):=⟨⟨oc,od,kV,doc,pm,an,cdv,ct,osl,rfl,l,c⟩,k⟩
end
theorem znG{n:Nat}(h:n<=1000):n<sizeLine:=Nat.lt_of_le_of_lt h (by decide)
section
variable {X:Cx}
theorem pv(i:Nat){x:Str}{pos:Pos}(hN:X.N[i]?=some x:=by rfl)(hv:Vis X.env.scope x:=by first|exact Or.inl rfl|exact Or.inr (Or.inl rfl)|exact Or.inr (Or.inr rfl))(hd:(x==("__debug__":Str))=false:=by decide)
  (hcd:(x==("__classdict__":Str))=false:=by decide):PE X (.Name x pos) (zin i):=zrz hN hv hd hcd
end
theorem zpM{A B:Prop}(h:B):if false=true then A else B:=by
 rw [if_neg Bool.false_ne_true]
 exact h
theorem zpL{A B:Prop}(h:A):if true=true then A else B:=by
 rw [if_pos rfl]
 exact h
def zaB(H H':Hp):Prop:=∀ b o,H b=some o->H' b=some o
theorem zaB.refl(H:Hp):zaB H H:=fun _ _ h=>h
end
section
theorem bits_le{k:Int}{a:Nat}(h:k.natAbs<2^a):Builtin.Int.intBits k<=a:=by
 unfold Builtin.Int.intBits
 split
 ·exact Nat.zero_le _
 ·rename_i h0
  have hp:k.natAbs≠0:=by
   intro z
   apply h0
   have:k=0:=by omega
   subst this
   rfl
  have:=(Nat.log2_lt hp).mpr h
  omega
theorem mulOk_of{i j:Int}{a b:Nat}(hi:i.natAbs<2^a)(hj:j.natAbs<2^b)(h:a+b<=134217728):IntMulOk i j:=by
 have h1:=bits_le hi
 have h2:=bits_le hj
 have h3:Builtin.Int.intTooBig ((Builtin.Int.intBits i:Int)+(Builtin.Int.intBits j:Int))=false:=by
  unfold Builtin.Int.intTooBig
  rw [bitsLine_eq]
  simp
  omega
 unfold IntMulOk
 rw [h3]
 simp
section
variable {X:Cx}
theorem zsZ:OpR X (binaryOp .Mult) (rI IntMulOk fun i j=>.int (i*j)):=opI fun _ _ _ _ _ _ _ hc q=>mul_int q hc
end
mutual
/-- the value v is the thing d in the abstract heap -/
def Is(K:W.Frag)(H:Hp):PyData->V->Prop
 | .none,v=>v=.non
 | .bool b,v=>v=.bl b
 | .int i,v=>v=.int i
 | .str x,v=>v=.str x
 | .list xs,v=>∃ a vs,v=.ref a/\SqL K H a vs/\zfA K H xs vs
 | .tuple xs,v=>∃ a vs,v=.ref a/\SqT K H a vs/\zfA K H xs vs
 | .dict _,_=>False
def zfA(K:W.Frag)(H:Hp):List PyData->List V->Prop
 | [],vs=>vs=[]
 | d::ds,vs=>∃ v r,vs=v::r/\Is K H d v/\zfA K H ds r
end
section
variable {X:Cx}{pins:List (Addr×Obj)}{σ:St}{H:Hp}{s:Shared}
mutual
theorem Is.reads(I:Inv X pins σ H s):∀(d:PyData) (v:V) (u:Value),Is X.K H d v->RelV v u->∃ as,Reads s.heap u d as
 | .none,v,u,h,r=>by
  simp only [Is] at h;subst h
  cases (show u=Value.none from r)
  exact⟨_,.none⟩
 | .bool b,v,u,h,r=>by
  simp only [Is] at h;subst h
  cases (show u=Value.bool b from r)
  exact⟨_,.bool b⟩
 | .int i,v,u,h,r=>by
  simp only [Is] at h;subst h
  obtain⟨t,rfl⟩:=(show ∃ t,u=Value.int i t from r)
  exact⟨_,.int i t⟩
 | .str x,v,u,h,r=>by
  simp only [Is] at h;subst h
  obtain⟨t,rfl⟩:=(show ∃ t,u=Value.str x t from r)
  exact⟨_,.str x t⟩
 | .list xs,v,u,h,r=>by
  simp only [Is] at h
  obtain⟨a,vs,rfl,h1,h2⟩:=h
  cases (show u=Value.ref a from r)
  obtain⟨its,rv,⟨o,n,ho,hc,_,hd⟩,_⟩:=I.list h1
  obtain⟨as,ra⟩:=zfA.reads I xs vs its h2 rv
  exact⟨_,.list ho hc hd (by simpa using ra)⟩
 | .tuple xs,v,u,h,r=>by
  simp only [Is] at h
  obtain⟨a,vs,rfl,h1,h2⟩:=h
  cases (show u=Value.ref a from r)
  obtain⟨its,rv,⟨o,ho,hc,n,hd⟩,_⟩:=I.tuple h1
  obtain⟨as,ra⟩:=zfA.reads I xs vs its h2 rv
  exact⟨_,.tuple ho hc hd (by simpa using ra)⟩
 | .dict _,v,u,h,r=>by simp only [Is] at h
theorem zfA.reads(I:Inv X pins σ H s):∀(ds:List PyData) (vs:List V) (us:List Value),zfA X.K H ds vs->Vals vs us->∃ as,ReadsAll s.heap us ds as
 | [],vs,us,h,r=>by
  simp only [zfA] at h;subst h
  cases r
  exact⟨_,.nil⟩
 | d::ds,vs,us,h,r=>by
  simp only [zfA] at h
  obtain⟨v,rr,rfl,h1,h2⟩:=h
  cases r with
  | cons r1 r2 =>
   obtain⟨as,q1⟩:=Is.reads I d v _ h1 r1
   obtain⟨bs,q2⟩:=zfA.reads I ds rr _ h2 r2
   exact⟨_,.cons q1 q2⟩
end
end
section
variable {X:Cx}
def zx8(K:W.Frag):R2:=fun x y H Q=>∃ d e,Is K H d x/\Is K H e y/\SeqAt.shaped d=true/\SeqAt.shaped e=true/\Q (.bl (PyData.eqv d e)) H
def zx4(K:W.Frag):R2:=fun x y H Q=>∃ d e,Is K H d x/\Is K H e y/\SeqAt.shaped d=true/\SeqAt.shaped e=true/\Q (.bl (!PyData.eqv d e)) H
theorem zuL(hu:X.A.units+64<cLine):OpR X (compareOp .Eq) (zx8 X.K):=by
 intro pins s σ H x y v u Q I rx ry h
 obtain⟨d,e,h1,h2,c1,c2,q⟩:=h
 obtain⟨as,ra⟩:=Is.reads I d x v h1 rx
 obtain⟨bs,rb⟩:=Is.reads I e y u h2 ry
 exact SeqAt.compareEq_shaped ra rb c1 c2 hu ⟨.bl _,H,I,rfl,q⟩
theorem zuI(hu:X.A.units+64<cLine):OpR X (compareOp .NotEq) (zx4 X.K):=by
 intro pins s σ H x y v u Q I rx ry h
 obtain⟨d,e,h1,h2,c1,c2,q⟩:=h
 obtain⟨as,ra⟩:=Is.reads I d x v h1 rx
 obtain⟨bs,rb⟩:=Is.reads I e y u h2 ry
 exact SeqAt.compareNe_shaped ra rb c1 c2 hu ⟨.bl _,H,I,rfl,q⟩
end
end
section
inductive Ty(K:W.Frag)(H:Hp):V->Value->Prop where
 | non:Ty K H .non (.type "NoneType")
 | bl (x:Bool):Ty K H (.bl x) (.type "bool")
 | int (i:Int):Ty K H (.int i) (.type "int")
 | str (x:Str):Ty K H (.str x) (.type "str")
 | lst {a:Addr} {xs:List V} (e:SqL K H a xs):Ty K H (.ref a) (.type "list")
 | tup {a:Addr} {xs:List V} (e:SqT K H a xs):Ty K H (.ref a) (.type "tuple")
def zv0:V->Value
 | .ty n=>.type n
 | .ref a=>.ref a
 | _=>.none
theorem zts{y:V}{u:Value}(r:RelV y u)(h:zv0 y≠.none):u=zv0 y:=by
 cases y with
 | ty n=>exact r
 | ref a=>exact r
 | _=>exact absurd rfl h
section
variable {X:Cx}
theorem zva{pins:List (Addr×Obj)}{σ:St}{H:Hp}{s:Shared}{A:Around}{E:Value->Shared->Prop}{Q:Value->Shared->Prop}{c:Value}{b:Bool}{x:V}{u t:Value}(I:Inv X pins σ H s)(rx:RelV x u)(ty:Ty X.K H x t)(e:PySem.W.kitOne X.K t c=some b)(h:∀ tk,Q (.bool b) { s with toks:=tk }) :
  wpAny (model X.prog X.w) A (call (.builtin "isinstance") [u,c]) Q E s:=by
 cases ty with
 | non=>cases (show u=Value.none from rx);exact PySem.W.kia_one PySem.W.kitx_none I.kIn True.intro e (fun z=>nomatch z) h
 | bl y=>cases (show u=Value.bool y from rx);exact PySem.W.kia_one PySem.W.kitx_bool I.kIn True.intro e (fun z=>nomatch z) h
 | int i=>obtain⟨t,q⟩:=(show ∃ t,u=Value.int i t from rx);cases q;exact PySem.W.kia_one PySem.W.kitx_int I.kIn True.intro e (fun z=>nomatch z) h
 | str y=>obtain⟨t,q⟩:=(show ∃ t,u=Value.str y t from rx);cases q;exact PySem.W.kia_one PySem.W.kitx_str I.kIn True.intro e (fun z=>nomatch z) h
 | @lst a xs ea =>
  cases (show u=Value.ref a from rx)
  obtain⟨its,_,⟨o,n,ho,hc,_⟩,_⟩:=I.list ea
  exact PySem.W.kia_one PySem.W.kitx_list I.kIn ⟨o,ho,hc⟩ e (fun z=>nomatch z) h
 | @tup a xs ea =>
  cases (show u=Value.ref a from rx)
  obtain⟨its,_,⟨o,ho,hc,_⟩,_⟩:=I.tuple ea
  exact PySem.W.kia_one PySem.W.kitx_tuple I.kIn ⟨o,ho,hc⟩ e (fun z=>nomatch z) h
def zx7(K:W.Frag):List V->Hp->VK->Prop:=fun xs H Q=>∃ x y t b,xs=[x,y]/\zv0 y≠.none/\Ty K H x t/\PySem.W.kitOne K t (zv0 y)=some b/\Q (.bl b) H
theorem zrb:zfC X (.builtin "isinstance") (zx7 X.K):=by
 intro pins s σ H xs us Q I r h
 obtain⟨x,y,t,b,rfl,hy,ty,e,q⟩:=h
 obtain⟨u,v,rfl,ru,rv⟩:=vals2 r
 cases zts rv hy
 exact zva I ru ty e fun tk=>⟨.bl b,H,I.tok tk,rfl,q⟩
theorem zww{x:Str}{n:String}{pos:Pos}(hg:Gl X x)(hm:X.mg x=none)(hv:bootBuiltins x=some (.type n))(hn:x ≠ "__name__":=by decide) (hd:(x==("__debug__":Str))=false:=by decide):PE X (.Name x pos) (tC (.ty n)):=zsW hg hm hv rfl hn hd
end
end
section
def zg0(cells:List (Str×Addr)):List (Str×NameKind)->List (Str×Addr)->List (Str×Addr)
 | [],acc=>acc
 | (n,k)::r,acc=>if k=.free then(match cells.lookup n with|some a=>zg0 cells r ((n,a)::acc)|none=>zg0 cells r acc) else zg0 cells r acc
theorem zgh{cells:List (Str×Addr)}:∀{names:List (Str×NameKind)} {acc:List (Str×Addr)},(∀ p∈acc,cells.lookup p.1=some p.2)->∀ p∈zg0 cells names acc,cells.lookup p.1=some p.2
 | [],acc,h,p,hp=>h p hp
 | (n,k)::r,acc,h,p,hp=>by
  unfold zg0 at hp
  split at hp
  ·split at hp
   ·rename_i a e
    exact zgh (names:=r) (acc:=(n,a)::acc) (fun q hq=>by
     rcases List.mem_cons.mp hq with rfl|hq
     ·exact e
     ·exact h q hq) p hp
   ·exact zgh h p hp
  ·exact zgh h p hp
theorem zgi{cells:List (Str×Addr)}:∀{names:List (Str×NameKind)} {acc:List (Str×Addr)},∀ p∈acc,p∈zg0 cells names acc
 | [],acc,p,hp=>hp
 | (n,k)::r,acc,p,hp=>by
  unfold zg0
  split
  ·split
   ·exact zgi p (List.mem_cons_of_mem _ hp)
   ·exact zgi p hp
  ·exact zgi p hp
theorem ze3{cells:List (Str×Addr)}{x:Str}{a:Addr}(e:cells.lookup x=some a):∀{names:List (Str×NameKind)} {acc:List (Str×Addr)},(x,NameKind.free)∈names->(x,a)∈zg0 cells names acc
 | (n,k)::r,acc,h=>by
  unfold zg0
  rcases List.mem_cons.mp h with h|h
  ·cases h
   rw [if_pos rfl,e]
   exact zgi _ (List.mem_cons_self ..)
  ·split
   ·split
    ·exact ze3 e h
    ·exact ze3 e h
   ·exact ze3 e h
theorem zbJ{α:Type}{x:Str}{a:α}:∀{l:List (Str×α)},(x,a)∈l->∃ b,l.lookup x=some b
 | (y,b)::r,h=>by
  by_cases e:(x==y)=true
  ·exact⟨b,by simp [List.lookup_cons,e]⟩
  ·rcases List.mem_cons.mp h with h|h
   ·cases h
    exact absurd (beq_self_eq_true _) e
   ·obtain⟨c,hc⟩:=zbJ h
    refine⟨c,?_⟩
    have e':(x==y)=false:=by simpa using e
    simp only [List.lookup_cons,e']
    exact hc
theorem zdo{scope:Scope}{env:Env}(h:∀ y∈scope.names,y.2=.free->∃ a,env.cells.lookup y.1=some a):closureFor scope env=pure (zg0 env.cells scope.names []):=by
 have key:∀(names:List (Str×NameKind)) (acc:List (Str×Addr)),(∀ y∈names,y.2=.free->∃ a,env.cells.lookup y.1=some a) ->
   (forIn names acc (fun x r=>match x with
    | (name,kind)=>if(kind==NameKind.free)=true then do let a <- cellOf env name;pure (ForInStep.yield ((name,a)::r)) else pure (ForInStep.yield r)):Sem (List (Str×Addr)))=pure (zg0 env.cells names acc):=by
  intro names
  induction names with
  | nil=>intro acc _;rfl
  | cons p r ih =>
   intro acc hh
   obtain⟨n,k⟩:=p
   rw [List.forIn_cons]
   by_cases hk:k=.free
   ·subst hk
    obtain⟨a,ea⟩:=hh (n,.free) (List.mem_cons_self ..) rfl
    have e1:cellOf env n=pure a:=by unfold cellOf;rw [ea]
    simp only [beq_self_eq_true,if_true,e1,pure_bind,zg0,ea]
    exact ih _ fun y hy=>hh y (List.mem_cons_of_mem _ hy)
   ·have hk':(k==NameKind.free)=false:=by simpa using hk
    simp only [hk',Bool.false_eq_true,if_false,pure_bind,zg0,hk]
    exact ih _ fun y hy=>hh y (List.mem_cons_of_mem _ hy)
 unfold closureFor
 exact(bind_pure _).trans (key scope.names [] h)
theorem za8{scope:Scope}{env:Env}{x:Str}{k:NameKind}:∀{names:List (Str×NameKind)},
  (names.map fun(n,k)=>if(k==NameKind.free&&env.scope.kind==.function&&env.kindOf n==some .cell) then(n,NameKind.cell) else(n,k)).lookup x=some k ->
  ∃ k0,names.lookup x=some k0/\(x,k0)∈names/\(k0=k\/(k0=.free/\k=.cell))
 | [],h=>by simp at h
 | (n,k0)::r,h=>by
  by_cases e:(x==n)=true
  ·have en:x=n:=by simpa using e
   subst en
   refine⟨k0,by simp [List.lookup_cons],List.mem_cons_self ..,?_⟩
   rw [List.map_cons] at h
   by_cases hc:(k0==NameKind.free&&env.scope.kind==.function&&env.kindOf x==some .cell)=true
   ·simp only [hc,if_true,List.lookup_cons,beq_self_eq_true] at h
    simp only [Bool.and_eq_true,beq_iff_eq] at hc
    exact .inr ⟨hc.1.1,(Option.some.inj h).symm⟩
   ·simp only [hc,Bool.false_eq_true,if_false,List.lookup_cons,beq_self_eq_true] at h
    exact .inl (Option.some.inj h)
  ·have e':(x==n)=false:=by simpa using e
   rw [List.map_cons] at h
   have h':(r.map fun(n,k)=>if(k==NameKind.free&&env.scope.kind==.function&&env.kindOf n==some .cell) then(n,NameKind.cell) else(n,k)).lookup x=some k:=by
    by_cases hc:(k0==NameKind.free&&env.scope.kind==.function&&env.kindOf n==some .cell)=true
    ·simp only [hc,if_true,List.lookup_cons,e'] at h
     exact h
    ·simp only [hc,Bool.false_eq_true,if_false,List.lookup_cons,e'] at h
     exact h
   obtain⟨k1,h1,h2,h3⟩:=za8 (scope:=scope) h'
   exact⟨k1,by simp only [List.lookup_cons,e'];exact h1,List.mem_cons_of_mem _ h2,h3⟩
def zeg(X:Cx)(ix:List Nat):List Str:=ix.map fun i=>X.N.getD i ""
def zef(k:Nat)(ix:List Nat)(σ:St):St:=List.replicate k none++ix.map fun i=>(σ[i]?).getD none
end
section
section
variable {prog:Program}{w:World}{A:Around}{R:Result->Shared->Prop}{s:Shared}
theorem zgY{elt target iter:Expr}{ifs:List Expr}{scope:Scope}{pos:Pos}{it acc:Value}{env:Env}(I:Nat->Shared->Prop)
  (turn:∀ n s,I n s->wpAny (model prog w) A (pyNext it) (fun r s₁=>match r with
   | none=>R (.ok .next) s₁
   | some v=>wpAny (model prog w) A (letOwnedTupleGo target it v) (fun _ s₀=>wpAny (model prog w) A (assign target env v) (fun _ s₂ =>
     wpAny (model prog w) A (forIn ifs true fun c r=>if r=true then do let ok <- isTrue c env (eval c env);pure (ForInStep.yield ok) else pure (ForInStep.yield r)) (fun ok s₃ =>
      if ok=true then wpAny (model prog w) A (eval elt env) (fun x s₄ =>
       wpAny (model prog w) A (call (.builtin "list.append") [acc,x]) (fun _ s₅=>∃ m,m<n/\I m s₅) (notedBy (model prog w) A env fun e s'=>R (.error e) s') s₄) (notedBy (model prog w) A env fun e s'=>R (.error e) s') s₃
      else ∃ m,m<n/\I m s₃) (notedBy (model prog w) A env fun e s'=>R (.error e) s') s₂) (notedBy (model prog w) A env fun e s'=>R (.error e) s') s₀) (notedBy (model prog w) A env fun e s'=>R (.error e) s') s₁) (notedBy (model prog w) A env fun e s'=>R (.error e) s') s)
  (n:Nat) (h:I n s) :
  codeAny (model prog w) A (.compLoop (.ListComp elt [⟨target,iter,ifs,0⟩] scope pos) 0 it acc env) R s:=by
 refine codeAny_loop rfl I (fun n s hI=>?_) n h
 show wpAny _ A ((compTurn (.ListComp elt [⟨target,iter,ifs,0⟩] scope pos) 0 it acc env).onRaise (fun x=>do noteFrame x env;theTreesLotGoes x)) _ _ s
 refine wpAny_noted ?_
 rw [compTurn_list]
 refine wpAny_bind (wpAny_standAt (wpAny_bind (wpAny_mono (turn n s hI) (fun r s₁ h₁=>?_) fun _ _ h'=>h')))
 cases r with
 | none=>exact wpAny_pure h₁
 | some v =>
  refine wpAny_bind (wpAny_mono h₁ (fun _ s₀ h₀=>?_) fun _ _ h'=>h')
  refine wpAny_bind (wpAny_mono h₀ (fun _ s₂ h₂=>wpAny_bind (wpAny_mono h₂ (fun ok s₃ h₃=>?_) fun _ _ h'=>h')) fun _ _ h'=>h')
  cases ok with
  | false=>exact wpAny_pure ⟨rfl,h₃⟩
  | true =>
   exact wpAny_bind (wpAny_bind (wpAny_mono h₃ (fun x s₄ h₄=>wpAny_bind (wpAny_mono h₄ (fun _ s₅ h₅=>wpAny_pure (wpAny_pure ⟨rfl,h₅⟩)) fun _ _ h'=>h')) fun _ _ h'=>h'))
end
def PTs(X:Cx)(ifs:List Expr)(t:TT):Prop :=
 ∀(pins:List (Addr×Obj)) (s:Shared) (σ:St) (H:Hp) (Q:Bool->Hp->Prop),Inv X pins σ H s->t σ H Q ->
  wpAny (model X.prog X.w) X.A (forIn ifs true fun c r=>if r=true then do let ok <- isTrue c X.env (eval c X.env);pure (ForInStep.yield ok) else pure (ForInStep.yield r)) (TP X pins σ Q) X.xe s
def zx0:TT:=fun _ H Q=>Q true H
theorem zsE{X:Cx}:PTs X [] zx0:=fun _ _ _ H _ I h=>wpAny_tests_nil ⟨H,I,h⟩
theorem zsD{X:Cx}{c:Expr}{t:TT}(hc:PT X c t):PTs X [c] t:=fun pins s σ H Q I h=>wpAny_tests_one (hc pins s σ H Q I h)
def zly(k:Nat)(g:TG):Prop:=∀ x σ H Q,g x σ H Q->g x σ H fun σ2 H2=>(σ2.length=σ.length/\∀ i:Nat,k<=i->σ2[i]?=σ[i]?)/\Q σ2 H2
def zmF(k:Nat)(ix:List Nat)(wi:TI)(g:TG)(tc:TT)(te:TE):TE:=fun σ H Q=>wi σ H fun J H1=>∀ l,H1 l=none ->
 ∃ W:Nat->Nat->List V->Hp->Prop,(∃ m,W 0 m [] (upd H1 l (.lst [])))/\∀ i m ys H2,W i m ys H2->H2 l=some (.lst ys) /\
  ((J.stop i H2/\Q (.ref l) H2)\/(J.go i H2/\∀ x H3,J.yld i H2 x H3->g x (zef k ix σ) H3 fun σ2 H4=>tc σ2 H4 fun b H5 =>
   if b=true then te σ2 H5 fun v H6=>H6 l=some (.lst ys)/\ys.length<sizeLine/\∃ m',m'<m/\W (i+1) m' (ys++[v]) (upd H6 l (.lst (ys++[v]))) else ∃ m',m'<m/\W (i+1) m' ys H5))
end
section
def Fl(h:Heap)(e:Addr)(cls:Value)(dd:Option Addr)(T:Addr)(fl:Value):Prop :=
 ∃ oe vs oT ts,h.get? e=some oe/\oe.cls=cls/\oe.dict=dd/\oe.data=.fields vs/\vs[1]?=some (.ref T)/\T≠e/\h.get? T=some oT/\oT.data=.fields ts/\ts[3]?=some fl
end
section
theorem zbM.some{P:Program}{w:World}{H:Hp}{h:Heap}{a:Addr}{o:HO}(x:zbM P w H h a o):∃ ob,h.get? a=some ob:=by
 cases o with
 | lst xs=>obtain⟨_,_,_,_,e⟩:=x;exact⟨_,e⟩
 | tup xs=>obtain⟨_,_,_,ob,e,_⟩:=x;exact⟨_,e⟩
 | dK kvs=>obtain⟨_,_,_,_,ob,_,_,e,_⟩:=x;exact⟨_,e⟩
 | dT kvs=>obtain⟨_,_,_,_,ob,_,_,e,_⟩:=x;exact⟨_,e⟩
 | set S n=>obtain⟨ob,_,_,_,e,_⟩:=x;exact⟨_,e⟩
 | ins C dx fs=>obtain⟨_,_,_,e,_⟩:=x;exact⟨_,e⟩
 | own y=>exact x
 | xd fs=>obtain⟨_,⟨od,_,_,e,_⟩,_⟩:=x;exact⟨_,e⟩
 | met f y=>exact⟨_,x⟩
 | rng lo hi=>obtain⟨_,_,_,e⟩:=x;exact⟨_,e⟩
 | frz ob u=>exact⟨_,x.1⟩
 | tbl ps=>exact⟨_,x⟩
 | ext φ=>exact x.2.1
def CXe(P:Program)(w:World):CXT:=fun outer H s E ev s'=>∃(e:Addr) (cls:Value) (dd:Option Addr) (T:Addr) (H':Hp),ev=.ref e/\s'.os=s.os/\AllBare s'.gens/\Un (frs outer) [] H H' s.heap s'.heap/\HOk P w H' s'.heap /\
 Fl s'.heap e cls dd T .none/\H' e=none/\H' T=none/\s.heap.get? e=none/\s.heap.get? T=none/\E cls dd H'
theorem ziD{P:Program}{w:World}{X:Cx}:Passes (CXe P w) X E0:=fun _ _ _ _ _ _ _ ⟨_,_,_,_,_,_,_,_,_,_,_,_,_,_,_,q⟩=>q.elim
section
variable {P:Program}{w:World}{K:W.Frag}{mg:Str->Option Value}{base:Heap}{N:List Str}{qual:Str}{scope:Scope}{f:Addr}{cd:Value}{A:Around}{outer:List Env}{s:Shared}{H:Hp}{E:XK}
theorem Fun.okE{x:Str}{st:Stmt}{fd:FuncData}{ps:List Str}{k:Nat}{sp:Sp}(F:Fun K x qual st f fd)(S:zdT N ps (zau st))(len:∀ vs H Q E,sp vs H Q E->vs.length=ps.length)
  (hbody:∀(cdv:Value) (A:Around) (outer:List Env) (s:Shared) (H:Hp) (vs:List V) (Q:VK) (E:XK),zce k (A.deeper (envOfC qual (zau st) s.heap.objs.size f cdv))->sp vs H Q E ->
   ∃ t,PSs (zpP (CXe P w) P w K mg base N qual (zau st) f cdv A outer s H E) (zbL st) t/\t { nx:=fun _ H'=>Q .non H',rt:=Q } (start N vs) H):zie P w K mg base (CXe P w) (k+1) f fd ps sp:=by
 obtain⟨oc,od,kV,doc,pm,an,cdv,ct,osl,rfl,lk,hcd⟩:=F.ex
 exact zw6 lk hcd S len fun A outer s H vs Q E hr hsp=>hbody cdv A outer s H vs Q E hr hsp
end
end
section
def Nw(X:Cx)(pins:List (Addr×Obj))(b:Addr):Prop :=
 X.s₀.heap.get? b=none/\b≠X.env.locals/\b∉X.fs/\(∀ x c,X.env.cells.lookup x=some c->c≠b)/\∀ p∈X.pn++pins,p.1≠b
def XP(X:Cx)(pins:List (Addr×Obj))(σ:St)(E:XK)(ev:Value)(s':Shared):Prop :=
 ∃(e:Addr) (cls:Value) (dd:Option Addr) (T:Addr) (H':Hp),ev=.ref e/\Inv X pins σ H' s'/\Fl s'.heap e cls dd T .none/\H' e=none/\H' T=none/\Nw X pins e/\Nw X pins T/\E cls dd H'
abbrev TSX:=Ends->(St->XK)->St->Hp->Prop
end
section
end
section
end
section
def Has(K:W.Frag)(mg:Str->Option Value)(x:Str)(st:Stmt):Prop:=∃(f:Addr) (fd:FuncData),mg x=some (.ref f)/\Fun K x x st f fd
def Callee(P:Program)(w:World)(K:W.Frag)(mg:Str->Option Value)(base:Heap)(x:Str)(k:Nat)(ps:List Str)(sp:Sp):Prop :=
 ∃(f:Addr) (fd:FuncData),mg x=some (.ref f)/\PySem.W.keepIn K (.ref f)=true/\Binds K fd ps []/\zie P w K mg base (CXe P w) k f fd ps sp
section
variable {X:Cx}{k j:Nat}{ps:List Str}{sp:Sp}{E:XK}{x:Str}{p pos:Pos}{e:Expr}{es:List Expr}{t:TA}
theorem zeS(c:Callee X.prog X.w X.K X.mg X.base x k ps sp)(hr:zce j X.A)(hg:Gl X x)(hx:Passes (CXe X.prog X.w) X E)(ha:PA X (e::es) t)(hj:k<=j:=by decide)(hdb:(x==("__debug__":Str))=false:=by decide)
  (he:starEach (e::es) X.env=(false,eval e X.env)::starEach es X.env:=by rfl) (hpl:(backTo pos (starEach es X.env)).any (·.1)=false:=by rfl):PE X (.Call (.Name x p) (e::es) [] pos) (zsd sp [] E t):=by
 obtain⟨f,fd,hm,hk,hb,F⟩:=c
 exact zsV F (hr.mono hj) hg hm hk hb .nil hx ha hdb he hpl
end
end
section
end
section
end
section
theorem zaB.upd{H:Hp}{l:Addr}{o:HO}(h:H l=none):zaB H (upd H l o):=fun b u e=>by rw [zan (zbe e h)];exact e
end
section
end
section
end
section
section
variable {X:Cx}{pins:List (Addr×Obj)}{σ:List (Option V)}{H H':Hp}{s:Shared}{h':Heap}
theorem Inv.zij{t':Nat}{fp:List Addr}(I:Inv X pins σ H s)(k:∀ b o,b∉fp->s.heap.get? b=some o->h'.get? b=some o)(hf:∀ b∈fp,zhn X pins H b):Inv X pins σ H { s with heap:=h',toks:=t' }:=by
 have nit:∀ b u,H b=some u->b∉fp:=fun b u e z=>by
  have:=(hf b z).1
  rw [e] at this
  cases this
 have hL:X.env.locals∉fp:=fun z=>(hf _ z).2.1 rfl
 refine I.step (g':=s.gens) (d':=s.drawn) (ch:=fp) (fun b hb=>?_) (fun b o _ _ hc e _=>k b o hc e) (fun b o _ _ hc e _=>⟨o.slots,k b o hc e⟩) (fun _ _ _ _ n=>n)
  (fun b o hc e=>⟨o,k b o hc e⟩) (fun _ _ e=>e) (fun _ _ _ e=>e) (fun b ps e=>⟨#[],by rw [e];simp⟩) (fun m hm=>?_) (fun b u e=>?_) I.bare
 ·obtain⟨_,h1,_,h3,h4,h5⟩:=hf b hb
  exact⟨h3,h1,h4,h5⟩
 ·obtain⟨o,es,ep,ho,r⟩:=hm
  exact⟨o,es,ep,k _ o hL ho,r⟩
 ·refine(I.hok b u e).stay (fun c v hc q=>k c v ?_ q) (fun _ q=>q) fun _ _ q=>q
  rcases hc with z|z
  ·rw [z];exact nit b u e
  ·exact nit c _ z
theorem Inv.zsa{t':Nat}{fp:List Addr}{xs:List V}{us:List Value}{n:Nat}(I:Inv X pins σ H s)(k:∀ b o,b∉fp->s.heap.get? b=some o->h'.get? b=some o)(hf:∀ b∈fp,zhn X pins H b)(hfp:∀ b∈fp,b<s.heap.objs.size)
  (ht:h'.get? s.heap.objs.size=some { cls:=.type "tuple",data:=.seq us.toArray n }) (r:Vals xs us) (hz:xs.length<=sizeLine) :
  Inv X pins σ (upd H s.heap.objs.size (.tup xs)) { s with heap:=h',toks:=t' }:=by
 have I1:Inv X pins σ (upd H s.heap.objs.size (.tup xs)) { s with heap:=s.heap.push { cls:=.type "tuple",data:=.seq us.toArray n },toks:=s.toks } :=
  I.laid (t':=s.toks) (fun b u e=>Heap.get?_push_of_some _ e) (Nat.le_refl _) ⟨hz,us,r,⟨_,Heap.get?_push_size _ rfl,rfl,_,rfl⟩⟩
 refine Inv.zij (s:={ s with heap:=s.heap.push { cls:=.type "tuple",data:=.seq us.toArray n },toks:=s.toks }) (t':=t') (fp:=fp) I1 (fun b o hb e=>?_) fun b hb=>⟨by rw [zan (Nat.ne_of_lt (hfp b hb))];exact(hf b hb).1,(hf b hb).2⟩
 by_cases hbs:b=s.heap.objs.size
 ·subst hbs
  have e':(s.heap.push { cls:=.type "tuple",data:=.seq us.toArray n }).get? s.heap.objs.size=some o:=e
  rw [Heap.get?_push_size _ rfl] at e'
  cases e'
  exact ht
 ·refine k b o hb ?_
  have e':(s.heap.push { cls:=.type "tuple",data:=.seq us.toArray n }).get? b=some o:=e
  have lt:b<(s.heap.push { cls:=.type "tuple",data:=.seq us.toArray n }).objs.size:=Heap.lt_size e'
  rw [Heap.size_push] at lt
  have lt':b<s.heap.objs.size:=Nat.lt_of_le_of_ne (Nat.le_of_lt_succ lt) hbs
  unfold Heap.get? at e' ⊢
  unfold Heap.push at e'
  simp only at e'
  rw [Array.getElem?_push_lt lt'] at e'
  rw [Array.getElem?_eq_getElem lt']
  exact e'
end
def Ite(K:W.Frag)(a:Addr):It :=
 ⟨fun i H=>∃ xs x,SqL K H a xs/\xs[i]?=some x,fun i H x H'=>∃ t v,x=.ref t/\H t=none/\H'=upd H t (.tup [.int i,v])/\∀ xs,SqL K H a xs->xs[i]?=some v,fun i H=>∃ xs,SqL K H a xs/\xs.length<=i⟩
theorem znu{P:Program}{w:World}{K:W.Frag}{es:List Expr}{k:Nat}{pos:Pos}(e it a:Addr)(hne:e≠it):Turn P w K (.Tuple es k pos) (Ite K a) [e,it] e (fun i h=>(∃ old,IsEnum h e it i old)/\h.IsListIter it a i) where
 mem:=by simp
 obj:=fun i h st c hc=>by
  obtain⟨⟨old,h1⟩,⟨o4,h4,_,d4⟩⟩:=st
  simp only [List.mem_cons,List.not_mem_nil,or_false] at hc
  rcases hc with rfl|rfl
  ·exact⟨_,h1,fun v z=>by cases z⟩
  ·exact⟨_,h4,fun v z=>by rw [d4] at z;cases z⟩
 keep:=fun i h h' st k=>by
  obtain⟨⟨old,h1⟩,h4⟩:=st
  exact⟨⟨old,k _ (by simp) _ h1⟩,h4.at fun o e=>k _ (by simp) o e⟩
 item:=by
  intro X hP hw hK hc i pins s σ H E I hf st hg
  subst hP hw hK
  obtain⟨xs,x,hqx,hx⟩:=hg
  obtain⟨itx,rvx,px,_⟩:=I.list hqx
  obtain⟨ux,hux,rux⟩:=rvx.get hx
  obtain⟨⟨old,h1⟩,h4⟩:=id st
  have lts:∀ c∈[e,it],c<s.heap.objs.size:=fun c hc=>by
   obtain⟨o4,e4,_⟩:=id h4
   simp only [List.mem_cons,List.not_mem_nil,or_false] at hc
   rcases hc with rfl|rfl
   ·exact Heap.lt_size h1
   ·exact Heap.lt_size e4
  refine wpAny_pyNext_enum_item h1 h4 px.isList (by simpa using hux) hne fun h' a1 a3 a5 a6 hk=>?_
  refine⟨_,rfl,wpAny_letOwnedTupleGo_enum a1 fun h'' b1 sb=>?_⟩
  have zlt:=lts e (by simp)
  have k2:∀ c o,c∉[e,it]->s.heap.get? c=some o->h''.get? c=some o:=fun c o hc g=>by
   simp only [List.mem_cons,List.not_mem_nil,or_false,not_or] at hc
   exact sb.extBut c o hc.1 (hk c o hc.1 hc.2 g)
  have ht:h''.get? s.heap.objs.size=some { cls:=.type "tuple",data:=.seq #[.int i s.toks,ux] }:=sb.extBut _ _ (Nat.ne_of_gt zlt) a5
  refine⟨.ref s.heap.objs.size,_,Inv.zsa (s:=s) (h':=h'') (t':=s.toks+1) (fp:=[e,it]) I (xs:=[.int i,x]) (us:=[.int i s.toks,ux]) k2 hf lts ht (.cons ⟨_,rfl⟩ (.cons rux .nil)) (by rw [sizeLine_eq];show 2<=16777216;decide),rfl,
   ⟨_,x,rfl,I.hok.fresh (Nat.le_refl _),rfl,fun zs hz=>by rw [I.zl9 hz hqx];exact hx⟩,?_,fun c hc=>?_⟩
  ·exact⟨⟨_,b1⟩,a3.extBut sb.extBut (Ne.symm hne)⟩
  ·rw [zan (Nat.ne_of_lt (lts c hc))]
   exact(hf c hc).1
 done:=by
  intro X hP hw hK hc i pins s σ H E I hf st hg
  subst hP hw hK
  obtain⟨xs,hqx,hend⟩:=hg
  obtain⟨itx,rvx,px,_⟩:=I.list hqx
  obtain⟨⟨old,h1⟩,h4⟩:=id st
  have lx:=rvx.length
  refine wpAny_pyNext_enum_end (I.ok.hd hc) h1 h4 px.isList (by simp;omega) fun h' hk=>⟨rfl,I.zij (t':=s.toks) (fun c o hc g=>?_) hf⟩
  simp only [List.mem_cons,List.not_mem_nil,or_false,not_or] at hc
  exact hk c o hc.2 g
 self:=fun _ _ _ _ _ st h=>by
  obtain⟨⟨old,h1⟩,_⟩:=st
  exact wpAny_pyIter_enum h1 h
section
variable {X:Cx}
def zwY(K:W.Frag)(ta:TA):TI:=fun σ H R=>ta σ H fun vs H1=>∃ a,vs=[.ref a]/\(∃ xs,SqL K H1 a xs)/\R (Ite K a) H1
theorem zsS{es:List Expr}{k:Nat}{p0:Pos}{a:Expr}{ta:TA}{p pos:Pos}(hg:Gl X "enumerate") (hm:X.mg "enumerate"=none) (ha:PA X [a] ta) (hs:starEach [a] X.env=[(false,eval a X.env)]:=by rfl) :
  PI X (.Tuple es k p0) (.Call (.Name "enumerate" p) [a] [] pos) (zwY X.K ta):=by
 intro pins s σ H R I h
 refine Call_ (zgC I hg hm (by decide +kernel:bootBuiltins "enumerate"=some (.type "enumerate")) (PyProof.Rows.callWith_type1 (thn (ha pos pins s σ H _ I h) fun us s1 ⟨vs,H1,I1,r1,q1⟩=>?_) hs rfl))
 obtain⟨l1,e,⟨xs,hx⟩,q⟩:=q1
 subst e
 cases r1 with
 | cons r rr =>
  cases rr
  cases r
  obtain⟨itx,rvx,px,_⟩:=I1.list hx
  refine call_enumerate_list px.isList fun h' g1 g4 g6 hk=>?_
  refine wpAny_pyIter_enum g1 ⟨_,[s1.heap.objs.size+1,s1.heap.objs.size],_,_,H1,rfl,I1.kept (t':=s1.toks) hk,znu _ _ l1 (Nat.succ_ne_self _),⟨⟨_,g1⟩,g4⟩,fun c hc=>?_,q⟩
  have hc':s1.heap.objs.size<=c:=by
   simp only [List.mem_cons,List.not_mem_nil,or_false] at hc
   rcases hc with rfl|rfl <;> first|exact Nat.le_add_right _ _|exact Nat.le_refl _
  exact I1.zpO hc' (I1.hok.fresh hc')
theorem zrg{bs:List Bool}:∀{us:List Value},Vals (bs.map V.bl) us->us=bs.map Value.bool:=by
 induction bs with
 | nil=>intro us h;cases h;rfl
 | cons b r ih =>
  intro us h
  cases h with
  | cons h1 h2 =>
   have:=ih h2
   cases h1
   rw [this]
   rfl
theorem zrc(hc:X.calm=true):zfC X (.builtin "all") (fun xs H Q=>∃(a:Addr) (bs:List Bool),xs=[.ref a]/\SqL X.K H a (bs.map V.bl)/\Q (.bl (bs.all id)) H):=by
 intro pins s σ H xs us Q I r h
 obtain⟨a,bs,rfl,hq,q⟩:=h
 obtain⟨u,rfl,rx⟩:=vals1 r
 cases rx
 obtain⟨its,rv,p,hz⟩:=I.list hq
 have e:=zrg rv
 subst e
 have hne:a≠s.heap.objs.size:=by
  obtain⟨o,eo,_⟩:=p.isList
  exact Nat.ne_of_lt (Heap.lt_size eo)
 have W:=Walks.list (prog:=X.prog) (w:=X.w) (A:=X.A.in1) (show X.A.in1.handled=none from I.ok.hd hc) s.heap.objs.size a hne (bs.map Value.bool).toArray
 refine call_all_walk (wpAny_pyIter_list p.isList ⟨_,_,_,_,_,_,fun i=>bs.getD i true,rfl,W,⟨⟨_,Heap.get?_push_size _ rfl,rfl,rfl⟩,p.isList.push _⟩,?_,fun h' tk hk=>⟨.bl (bs.all id),H,?_,?_,q⟩⟩)
 ·intro i v s' Q' E' hP hQ
  have hP':(bs.map Value.bool)[i]?=some v:=by simpa using hP
  rw [List.getElem?_map] at hP'
  cases e:bs[i]? with
  | none=>rw [e] at hP';cases hP'
  | some b =>
   rw [e] at hP'
   cases hP'
   have:bs.getD i true=b:=by simp [List.getD,e]
   have hQ2:Q' (bs.getD i true) s':=hQ
   rw [this] at hQ2
   exact wpAny_pure hQ2
 ·refine Inv.zij (s:={ s with heap:=s.heap.push { cls:=.type "list_iterator",data:=.fields #[.ref a,.int 0 0] },toks:=s.toks }) (t':=tk) (fp:=[s.heap.objs.size]) (I.kept (t':=s.toks) fun b o e=>Heap.get?_push_of_some _ e) (fun b o hb e=>hk b o hb e) fun b hb=>?_
  have e:b=s.heap.objs.size:=by simpa using hb
  subst e
  exact I.zpO (Nat.le_refl _) (I.hok.fresh (Nat.le_refl _))
 ·show Value.bool _=Value.bool _
  congr 1
  simp only [List.size_toArray,List.length_map]
  rw [Bool.eq_iff_iff,List.all_eq_true,List.all_eq_true]
  constructor
  ·intro h b hb
   obtain⟨i,hi,e⟩:=List.getElem_of_mem hb
   have:=h i (List.mem_range.mpr hi)
   simpa [List.getD,hi,e] using this
  ·intro h i hi
   have hi':=List.mem_range.mp hi
   have:=h bs[i] (List.getElem_mem hi')
   simpa [List.getD,hi'] using this
end
end
section
theorem zg2:∀(names:List (Str×NameKind)) (n:Nat) (acc:List (Str×Addr)),cellsFrom n names acc=cellsFrom n names []++acc
 | [],n,acc=>rfl
 | (x,k)::r,n,acc=>by
  unfold cellsFrom
  split
  ·rw [zg2 r (n+1) ((x,n)::acc),zg2 r (n+1) [(x,n)]]
   simp
  ·exact zg2 r n acc
theorem zi6:∀(names:List (Str×NameKind)) (n:Nat) (p:Str×Addr),p∈cellsFrom n names []->(p.1,NameKind.cell)∈names
 | [],n,p,h=>nomatch h
 | (x,k)::r,n,p,h=>by
  unfold cellsFrom at h
  split at h
  ·rename_i hk
   rw [zg2] at h
   rcases List.mem_append.mp h with h|h
   ·exact List.mem_cons_of_mem _ (zi6 r _ p h)
   ·have e:p=(x,n):=by simpa using h
    have hk':k=.cell:=by simpa using hk
    subst e hk'
    exact List.mem_cons_self ..
  ·exact List.mem_cons_of_mem _ (zi6 r _ p h)
theorem zpn{x:Str}:∀(names:List (Str×NameKind)) (n:Nat),(x,NameKind.cell)∈names->∃ c,(x,c)∈cellsFrom n names []
 | (y,k)::r,n,h=>by
  unfold cellsFrom
  rcases List.mem_cons.mp h with e|h
  ·cases e
   rw [if_pos (by rfl),zg2]
   exact⟨n,List.mem_append_right _ (List.mem_singleton.mpr rfl)⟩
  ·split
   ·obtain⟨c,hc⟩:=zpn r (n+1) h
    exact⟨c,by rw [zg2];exact List.mem_append_left _ hc⟩
   ·exact zpn r n h
theorem zhP{α:Type}{x:Str}{c:α}:∀{l m:List (Str×α)},(l++m).lookup x=some c->l.lookup x=some c\/(l.lookup x=none/\m.lookup x=some c)
 | [],m,h=>.inr ⟨rfl,h⟩
 | (y,b)::r,m,h=>by
  rw [List.cons_append,List.lookup_cons] at h
  rw [List.lookup_cons]
  split at h
  ·exact .inl h
  ·exact zhP h
theorem zek{α:Type}{x:Str}{c:α}:∀{l m:List (Str×α)},m.lookup x=some c->∃ d,(l++m).lookup x=some d
 | [],m,h=>⟨c,h⟩
 | (y,b)::r,m,h=>by
  rw [List.cons_append,List.lookup_cons]
  split
  ·exact⟨_,rfl⟩
  ·exact zek h
theorem zdJ{α:Type}{x:Str}:∀{l m:List (Str×α)},l.lookup x=none->(l++m).lookup x=m.lookup x
 | [],m,h=>rfl
 | (y,b)::r,m,h=>by
  rw [List.lookup_cons] at h
  rw [List.cons_append,List.lookup_cons]
  split at h
  ·cases h
  ·exact zdJ h
theorem zej{α:Type}{x:Str}:∀{l:List (Str×α)},(∀ p∈l,p.1≠x)->l.lookup x=none
 | [],_=>rfl
 | (y,b)::r,h=>by
  rw [List.lookup_cons]
  have:(x==y)=false:=by
   have:=h (y,b) (List.mem_cons_self ..)
   simpa using fun e=>this e.symm
  rw [this]
  exact zej fun p hp=>h p (List.mem_cons_of_mem _ hp)
def zjJ(C:Addr)(scope:Scope):List (Str×Addr):=cellsFrom (C+1) scope.names []
def zap(X:Cx)(M:List Str)(scope:Scope)(C:Addr)(s₃:Shared)(H₃:Hp)(fp:List Addr):Cx :=
 { X with N:=M,s₀:=s₃,H₀:=H₃,env:=compEnvC scope (zjJ C scope++zg0 X.env.cells scope.names []) C X.env,outer:=X.stack,stack:=X.stack,ex:=fp,fn:=fun x=>scope.names.contains (x,NameKind.cell),pn:=[],xe:=fun _ _=>False }
structure zee(X:Cx)(scope:Scope)(cap:List Str):Prop where
 kind:scope.kind=.function
 cell:∀ y∈scope.names,y.2=.free->X.env.kindOf y.1=some .cell
 loc:∀ y∈scope.names,y.2=.local->scope.names.lookup y.1=some .local
 cap:∀ x∈cap,scope.names.lookup x≠some .local/\(x,NameKind.cell)∉scope.names
 dis:∀ y∈scope.names,y.2=.free->(y.1,NameKind.cell)∉scope.names
theorem zjM{C:Addr}{m:Str->Option Value}:∀(names:List (Str×NameKind)) {h:Heap},h.Ns C m->(pushCells h names).Ns C m:=fun names h hn=>by
 obtain⟨o,es,ep,ho,r⟩:=hn
 exact⟨o,es,ep,pushCells_keeps names h C o ho,r⟩
section
variable {X:Cx}{pins:List (Addr×Obj)}{σ:St}{H:Hp}{s:Shared}
theorem zgH{scope:Scope}{L:List Str}{ix:List Nat}{h':Heap}{fp:List Addr}{t':Nat}(S:zee X scope (zeg X ix))(I:Inv X pins σ H s)(hf:∀ b∈fp,zhn X pins H b)(hfp:∀ b∈fp,b<s.heap.objs.size)
  (hix:∀ i∈ix,i<X.N.length)(hn:h'.Ns s.heap.objs.size fun _=>none)(hk:∀ b u,s.heap.get? b=some u->h'.get? b=some u)(hcs:CellsOk h' (s.heap.objs.size+1) (zjJ s.heap.objs.size scope)) :
  Inv (zap X (L++zeg X ix) scope s.heap.objs.size s H fp) [] (zef L.length ix σ) H { s with heap:=h',toks:=t' }:=by
 have cl:∀ x c,(zg0 X.env.cells scope.names []).lookup x=some c->X.env.cells.lookup x=some c:=fun x c e =>
  zgh (acc:=[]) (fun p hp=>nomatch hp) (x,c) (PySem.mem_of_lookup e)
 have old:∀ x c,X.env.cells.lookup x=some c->c<s.heap.objs.size:=fun x c e=>by
  obtain⟨v,q⟩:=I.cell x c e
  exact q.lt
 have own:∀ x c,(zjJ s.heap.objs.size scope).lookup x=some c->h'.IsCell c none/\s.heap.objs.size+1<=c/\(x,NameKind.cell)∈scope.names:=fun x c e=>by
  have m:=PySem.mem_of_lookup e
  exact⟨(hcs.empty x c m).1,(hcs.empty x c m).2,zi6 _ _ _ m⟩
 have al:∀ x c,(zjJ s.heap.objs.size scope++zg0 X.env.cells scope.names []).lookup x=some c->(zjJ s.heap.objs.size scope).lookup x=some c\/((zjJ s.heap.objs.size scope).lookup x=none/\X.env.cells.lookup x=some c):=fun x c e=>by
  rcases zhP e with h|⟨h1,h2⟩
  ·exact .inl h
  ·exact .inr ⟨h1,cl x c h2⟩
 have ownHas:∀ x,(x,NameKind.cell)∈scope.names->∃ c,(zjJ s.heap.objs.size scope).lookup x=some c:=fun x hx=>by
  obtain⟨c,hc⟩:=zpn scope.names (s.heap.objs.size+1) hx
  exact zbJ hc
 refine⟨⟨I.ok.mod,S.kind,I.ok.glob,I.ok.blt,Nat.le_refl _,fun x y c e1 e2=>?_,fun x hx=>?_,fun x c e1 e2=>?_,I.ok.hd,I.ok.frames,.inl rfl,fun b hb=>⟨Nat.ne_of_lt (hfp b hb),fun x c e=>?_⟩,
  fun b o e=>I.bs b o e,Nat.le_trans I.ok.bsz I.sz,fun b o e hb=>?_,fun b hb hz=>?_,I.stack,I.znC,I.ok.tree,I.ok.sk⟩,
  rfl,I.bare,Un.kept hk,⟨_,hn,fun i x v h1 h2 h3=>?_⟩,fun x c e=>?_,I.hok.fresh (Nat.le_refl _),fun x c e=>?_,fun p hp=>absurd (show p∈([]:List (Addr×Obj)) from hp) (by simp),I.hok.kept hk,?_⟩
 ·rcases al x c e1 with a1|⟨_,a1⟩ <;> rcases al y c e2 with a2|⟨_,a2⟩
  ·exact name_of_addr hcs.apart (PySem.mem_of_lookup a1) (PySem.mem_of_lookup a2)
  ·exact absurd (old y c a2) (Nat.not_lt.mpr (Nat.le_of_succ_le (own x c a1).2.1))
  ·exact absurd (old x c a1) (Nat.not_lt.mpr (Nat.le_of_succ_le (own y c a2).2.1))
  ·exact I.ok.inj x y c a1 a2
 ·have hx':(relabel scope X.env).names.lookup x=some .cell\/(relabel scope X.env).names.lookup x=some .free:=hx
  have fr:(x,NameKind.cell)∈scope.names\/(x,NameKind.free)∈scope.names:=by
   rcases hx' with q|q
   ·obtain⟨k0,_,h2,h3⟩:=za8 (scope:=scope) q
    rcases h3 with rfl|⟨rfl,_⟩
    ·exact .inl h2
    ·exact .inr h2
   ·obtain⟨k0,_,h2,h3⟩:=za8 (scope:=scope) q
    rcases h3 with rfl|⟨_,z⟩
    ·exact .inr h2
    ·cases z
  rcases fr with fr|fr
  ·obtain⟨c,hc⟩:=ownHas x fr
   show ∃ c,(zjJ s.heap.objs.size scope++zg0 X.env.cells scope.names []).lookup x=some c
   exact zbJ (List.mem_append_left _ (PySem.mem_of_lookup hc))
  ·obtain⟨c,hc⟩:=I.ok.has x (.inl (S.cell _ fr rfl))
   obtain⟨d,hd⟩:=zbJ (ze3 (names:=scope.names) (acc:=[]) hc fr)
   exact zek hd
 ·have hx:(x,NameKind.cell)∈scope.names:=by
   have e1':scope.names.contains (x,NameKind.cell)=true:=e1
   simpa using e1'
  rcases al x c e2 with a1|⟨a1,_⟩
  ·exact Nat.le_of_succ_le (own x c a1).2.1
  ·obtain⟨d,hd⟩:=ownHas x hx
   rw [a1] at hd
   cases hd
 ·rcases al x c e with a1|⟨_,a1⟩
  ·exact Nat.ne_of_gt (Nat.lt_of_lt_of_le (hfp b hb) (Nat.le_of_succ_le (own x c a1).2.1))
  ·exact(hf b hb).2.2.2.2.1 x c a1
 ·rcases (hf b hb).2.2.2.1 with z|z
  ·exact I.ok.noex b o e z
  ·exact absurd (Heap.lt_size (I.ok.bs b o e).1) (Nat.not_lt.mpr z)
 ·rcases List.mem_cons.mp (I.znB b hz) with z|z
  ·exact(hf b hb).2.1 z
  ·exact(hf b hb).2.2.1 z
 ·-- a name that is drawn in
  have hi:L.length<=i:=by
   by_cases hi:i<L.length
   ·unfold zef at h2
    rw [List.getElem?_append_left (by simpa using hi),List.getElem?_replicate,if_pos hi] at h2
    cases h2
   ·omega
  unfold zef at h2
  rw [List.getElem?_append_right (by simpa using hi),List.length_replicate,List.getElem?_map] at h2
  have h1':(L++zeg X ix)[i]?=some x:=h1
  rw [List.getElem?_append_right hi] at h1'
  unfold zeg at h1'
  rw [List.getElem?_map] at h1'
  cases ej:ix[i-L.length]? with
  | none=>rw [ej] at h1';cases h1'
  | some j =>
   rw [ej] at h1' h2
   have hj:j<X.N.length:=hix j (List.mem_of_getElem? ej)
   have e1:X.N[j]?=some x:=by
    have:X.N.getD j ""=x:=Option.some.inj h1'
    rw [<- this]
    simp [List.getD,hj]
   have e2:σ[j]?=some (some v):=by
    have z:(σ[j]?).getD none=some v:=Option.some.inj h2
    cases q:σ[j]? with
    | none=>rw [q] at z;cases z
    | some o=>rw [q] at z;exact congrArg some z
   have hx:x∈zeg X ix:=by
    unfold zeg
    refine List.mem_map.mpr ⟨j,List.mem_of_getElem? ej,?_⟩
    exact Option.some.inj h1'
   have h3':(relabel scope X.env).names.lookup x=some .local\/(relabel scope X.env).names.lookup x=some .cell\/(relabel scope X.env).names.lookup x=some .free:=h3
   have fr:(x,NameKind.free)∈scope.names:=by
    rcases h3' with q|q|q
    ·obtain⟨k0,g1,g2,g3⟩:=za8 (scope:=scope) q
     rcases g3 with rfl|⟨_,z⟩
     ·exact absurd g1 (S.cap x hx).1
     ·cases z
    ·obtain⟨k0,_,g2,g3⟩:=za8 (scope:=scope) q
     rcases g3 with rfl|⟨rfl,_⟩
     ·exact absurd g2 (S.cap x hx).2
     ·exact g2
    ·obtain⟨k0,_,g2,g3⟩:=za8 (scope:=scope) q
     rcases g3 with rfl|⟨_,z⟩
     ·exact g2
     ·cases z
   have hc:X.env.kindOf x=some .cell:=S.cell _ fr rfl
   obtain⟨m,_,hl⟩:=I.loc
   obtain⟨u,ru,lk⟩:=hl j x v e1 e2 (.inr (.inl hc))
   refine⟨u,ru,?_⟩
   rcases lk with⟨z,_⟩|⟨_,c,ec,ic⟩
   ·rw [hc] at z;cases z
   ·have k3:(relabel scope X.env).names.lookup x=some .cell\/(relabel scope X.env).names.lookup x=some .free:=by
     rcases h3' with q|q|q
     ·obtain⟨k0,g1,g2,g3⟩:=za8 (scope:=scope) q
      rcases g3 with rfl|⟨_,z⟩
      ·exact absurd g1 (S.cap x hx).1
      ·cases z
     ·exact .inl q
     ·exact .inr q
    obtain⟨c',ec'⟩:=zbJ (ze3 (names:=scope.names) (acc:=[]) ec fr)
    have e3:=cl x c' ec'
    rw [ec] at e3
    cases e3
    obtain⟨oc,g1,g2⟩:=ic
    have no:(zjJ s.heap.objs.size scope).lookup x=none:=zej fun p hp z=>(S.cap x hx).2 (by rw [<- z];exact zi6 _ _ _ hp)
    exact .inr ⟨k3,c,(zdJ no).trans ec',oc,hk _ _ g1,g2⟩
 ·rcases al x c e with a1|⟨_,a1⟩
  ·exact⟨none,(own x c a1).1⟩
  ·obtain⟨v,oc,g1,g2⟩:=I.cell x c a1
   exact⟨v,oc,hk _ _ g1,g2⟩
 ·rcases al x c e with a1|⟨_,a1⟩
  ·exact I.hok.fresh (Nat.le_of_succ_le (own x c a1).2.1)
  ·exact I.freeC x c a1
 ·show(zef L.length ix σ).length=(L++zeg X ix).length
  unfold zef zeg
  simp
end
theorem zkW{M:Model}{A:Around}{E:Value->Shared->Prop}{s:Shared}{scope:Scope}{globals:Addr}{cl:List (Str×Addr)}{qual:Str}{outer:Env}{Q:Env->Shared->Prop}
  (hQ:∀ h',h'.Ns s.heap.objs.size (fun _=>none)->(∀ b u,s.heap.get? b=some u->h'.get? b=some u)->CellsOk h' (s.heap.objs.size+1) (zjJ s.heap.objs.size scope) ->
   Q { scope:=scope,locals:=s.heap.objs.size,globals:=globals,cells:=zjJ s.heap.objs.size scope++cl,qual:=qual,func:=none,code:=outer.code,frame:=outer.frame,builtins:=outer.builtins } { s with heap:=h' }) :
  wpAny M A (newFunctionEnv scope globals cl [] qual none .none (some outer)) Q E s:=by
 simp only [newFunctionEnv,Option.isSome_some,if_true]
 refine wpAny_bind (wpAny_alloc ?_)
 refine wpAny_bind (wpAny_layCells _ (fun name kind cells=>by cases hkc:kind==NameKind.cell <;> simp [hkc]) _ _ _ _ ?_)
 have ok:=cellsFrom_ok scope.names (s.heap.push { cls:=.type "dict",data:=.dict #[] }) (s.heap.objs.size+1) [] ⟨fun _ _ hm=>(nomatch hm),List.Pairwise.nil⟩ (by rw [Heap.size_push];exact Nat.le_refl _)
 rw [Heap.size_push] at ok
 rw [show({ s with heap:=s.heap.push { cls:=.type "dict",data:=.dict #[] } }:Shared).heap.objs.size=s.heap.objs.size+1 from Heap.size_push ..,zg2]
 refine wpAny_bind ?_
 rw [List.forIn_nil]
 refine wpAny_pure (wpAny_pure ?_)
 exact hQ _ (zjM _ (Heap.Ns.new ..)) (fun b u e=>pushCells_keeps _ _ _ _ (Heap.get?_push_of_some _ e)) ok
section
variable {X:Cx}
theorem zqs{elt tg iter:Expr}{ifs:List Expr}{scope:Scope}{pos:Pos}{L:List Str}{ix:List Nat}{wi:TI}{g:TG}{tc:TT}{te:TE}(hc:X.calm=true)(S:zee X scope (zeg X ix))(hix:∀ i∈ix,i<X.N.length)(hi:PI X tg iter wi)
  (hg:∀ C s₃ H₃ fp,PG (zap X (L++zeg X ix) scope C s₃ H₃ fp) tg g)(hgo:zly L.length g)
  (ht:∀ C s₃ H₃ fp,PTs (zap X (L++zeg X ix) scope C s₃ H₃ fp) ifs tc)(he:∀ C s₃ H₃ fp,PE (zap X (L++zeg X ix) scope C s₃ H₃ fp) elt te)
  (hs:∀ x,foldedSetIterable iter X.env x=pure x:=by intro _;rfl) :
  PE X (.ListComp elt [⟨tg,iter,ifs,0⟩] scope pos) (zmF L.length ix wi g tc te):=by
 intro pins s σ H Q I h
 rw [eval_ListComp]
 refine wpAny_comprehension_free (use:=none) rfl hs (zdo fun y hy e=>I.ok.has y.1 (.inl (S.cell y hy e))) S.kind S.loc (thn (hi pins s σ H _ I h) fun xv s1 h1=>thn h1 fun itv s2 h2=>?_)
 obtain⟨it,fp,tn,J,H2,rfl,I2,T,st2,f2,q⟩:=h2
 have nD:H2 s2.heap.objs.size=none:=I2.hok.fresh (Nat.le_refl _)
 obtain⟨W,⟨m0,w0⟩,turn⟩:=q _ nD
 generalize hD:s2.heap.objs.size=D at nD w0 turn
 have fD:∀ b∈fp,b<D:=fun b hb=>by
  obtain⟨o,e,_⟩:=T.obj _ _ st2 b hb
  rw [<- hD]
  exact Heap.lt_size e
 have I3:Inv X pins σ (upd H2 D (.lst [])) { s2 with heap:=s2.heap.push { cls:=.type "list",data:=.seq ([]:List Value).toArray },toks:=s2.toks }:=by
  rw [<- hD]
  exact I2.laid (t':=s2.toks) (fun b u e=>Heap.get?_push_of_some _ e) (Nat.le_refl _) ⟨by simp,[],0,.nil,Heap.get?_push_size _ rfl⟩
 refine wpAny_newObj_type (zkW (fun h₁ hns₁ hsb₁ hcs₁=>?_)) (by show 0<=sizeLine;exact Nat.zero_le _)
 rw [hD]
 have st3:tn 0 (s2.heap.push { cls:=.type "list",data:=.seq ([]:List Value).toArray }):=T.keep _ _ _ st2 fun b hb o e=>Heap.get?_push_of_some _ e
 generalize hp3:s2.heap.push { cls:=.type "list",data:=.seq ([]:List Value).toArray }=h3 at I3 st3 hns₁ hsb₁ hcs₁
 dsimp only at hns₁ hsb₁ hcs₁ ⊢
 have sz3:h3.objs.size=D+1:=by rw [<- hp3,Heap.size_push,hD]
 have old:∀ b u,h3.get? b=some u->h₁.get? b=some u:=fun b u e=>hsb₁ b u e
 have f3:∀ b∈fp,zhn X pins (upd H2 D (.lst [])) b:=fun b hb=>⟨by rw [zan (Nat.ne_of_lt (fD b hb))];exact(f2 b hb).1,(f2 b hb).2⟩
 have I4:=zgH (L:=L) (ix:=ix) (t':=s2.toks) S I3 f3 (fun b hb=>by show b<h3.objs.size;rw [sz3];exact Nat.lt_succ_of_lt (fD b hb)) hix (h':=h₁) hns₁ old hcs₁
 have st4:tn 0 h₁:=T.keep _ _ _ st3 fun b hb o e=>old b o e
 generalize hC:(zap X (L++zeg X ix) scope h3.objs.size { s2 with heap:=h3,toks:=s2.toks } (upd H2 D (.lst [])) fp)=Y at I4
 have eEnv:Y.env=compEnvC scope (zjJ h3.objs.size scope++zg0 X.env.cells scope.names []) h3.objs.size X.env:=by rw [<- hC];rfl
 have hcY:Y.calm=true:=by rw [<- hC];exact hc
 have xeY:Y.xe=fun _ _=>False:=by rw [<- hC];rfl
 have eP:Y.prog=X.prog:=by rw [<- hC];rfl
 have eW:Y.w=X.w:=by rw [<- hC];rfl
 have eK:Y.K=X.K:=by rw [<- hC];rfl
 have eA:Y.A=X.A:=by rw [<- hC];rfl
 have gY:PG Y tg g:=by rw [<- hC];exact hg _ _ _ _
 have tY:PTs Y ifs tc:=by rw [<- hC];exact ht _ _ _ _
 have pY:PE Y elt te:=by rw [<- hC];exact he _ _ _ _
 have stat:∀{H':Hp},(∀ b∈fp,H' b=none)->∀ b∈fp,zhn Y [] H' b:=fun{H'} hn b hb=>by
  have z1:b∈Y.ex:=by rw [<- hC];exact hb
  have zp:Y.pn=[]:=by rw [<- hC];rfl
  refine⟨hn b hb,(I4.ok.exf b z1).1,I4.ok.exfs b z1,.inl z1,(I4.ok.exf b z1).2,fun p hp=>?_⟩
  rw [zp] at hp
  exact absurd hp (by simp)
 have fin:∀{H':Hp} {s':Shared},Inv Y [] (zef L.length ix σ) H' s'->Q (.ref D) H'->compPost (model X.prog X.w) X.A X.xe none (EP X pins σ Q) (.ref D) h3.objs.size (.ok .next) s':=by
  intro H' s' J' qe
  obtain⟨m,hm,_⟩:=J'.loc
  rw [eEnv] at hm
  refine⟨m,hm,fun h' sb=>⟨.ref D,H',?_,rfl,qe⟩⟩
  have hfr:H' h3.objs.size=none:=by
   have:=J'.free
   rw [eEnv] at this
   exact this
  have neC:∀ b u,H' b=some u->b≠h3.objs.size:=fun b u e z=>by rw [z,hfr] at e;cases e
  have base:Un (frs X.stack) fp (upd H2 D (.lst [])) H' h3 s'.heap:=by
   have:=J'.base
   rw [<- hC] at this
   exact this
  have to':∀ b o,b≠h3.objs.size->s'.heap.get? b=some o->h'.get? b=some o:=fun b o hb e=>sb.extBut b o hb e
  have lt3:∀ b o,h3.get? b=some o->b≠h3.objs.size:=fun b o e=>Nat.ne_of_lt (Heap.lt_size e)
  have un:Un (frs X.stack) fp (upd H2 D (.lst [])) H' h3 h' :=
   ⟨fun b o e n hb hx=>to' b o (lt3 b o e) (base.keep b o e n hb hx),
    fun b o e n hb hx=>by
    obtain⟨sl,z⟩:=base.slot b o e n hb hx
    exact⟨sl,to' _ _ (lt3 b o e) z⟩,
    base.free,
    fun b o e hx=>by
    obtain⟨o',z⟩:=base.there b o e hx
    exact⟨o',to' _ _ (lt3 b o e) z⟩,
    base.tups,base.frzs,base.tbls⟩
  have hok:HOk X.prog X.w H' h':=fun b u e=>by
   have z:=J'.hok b u e
   rw [eP,eW] at z
   refine z.stay (fun c v hcv qv=>to' c v ?_ qv) (fun _ qq=>qq) fun _ _ qq=>qq
   rcases hcv with zz|zz
   ·rw [zz];exact neC b u e
   ·exact neC c _ zz
  refine I3.call' (s':={ s' with heap:=h' }) (ch:=fp) ?_ un hok J'.bare fun b hb=>?_
  ·have:=J'.os
   rw [<- hC] at this
   exact this
  ·obtain⟨_,g1,g2,g3,g4,g5⟩:=f2 b hb
   exact⟨g3,g1,g4,g5⟩
 have key:∀ s5:Shared,s5={ s2 with heap:=h₁,toks:=s2.toks } ->
   codeAny (model X.prog X.w) X.A (.compLoop (.ListComp elt [⟨tg,iter,ifs,0⟩] scope pos) 0 (.ref it) (.ref D) (compEnvC scope (zjJ h3.objs.size scope++zg0 X.env.cells scope.names []) h3.objs.size X.env))
    (compPost (model X.prog X.w) X.A X.xe none (EP X pins σ Q) (.ref D) h3.objs.size) s5:=by
  rintro s5 rfl
  rw [<- eEnv,<- eP,<- eW,<- eA]
  refine zgY (fun n s'=>∃ i ys H',Inv Y [] (zef L.length ix σ) H' s'/\tn i s'.heap/\(∀ b∈fp,H' b=none)/\W i n ys H') ?_ m0 ⟨0,[],_,?_,st4,fun b hb=>(f3 b hb).1,w0⟩
  ·rintro n s6 ⟨i,ys,H6,I6,st6,fr6,w6⟩
   obtain⟨hl6,alt⟩:=turn i n ys H6 w6
   rcases alt with⟨stop,qe⟩|⟨go,step⟩
   ·have Td:=T.done Y eP eW eK hcY i [] s6 _ H6 (fun _ _=>False) I6 (stat fr6) st6 stop
    rw [<- eP,<- eW] at Td
    refine wpAny_mono Td (fun r s7 hr7=>?_) fun _ _ f=>f.elim
    obtain⟨hr,I7⟩:=hr7
    subst hr
    rw [eP,eW,eA]
    exact fin I7 qe
   ·have Ti:=T.item Y eP eW eK hcY i [] s6 _ H6 (fun _ _=>False) I6 (stat fr6) st6 go
    rw [<- eP,<- eW] at Ti
    refine wpAny_mono Ti (fun r s7 hr7=>?_) fun _ _ f=>f.elim
    obtain⟨u,hr,h7⟩:=hr7
    subst hr
    refine wpAny_mono h7 (fun _ s8 hr8=>?_) fun _ _ f=>f.elim
    obtain⟨x,H8,I8,r8,y8,st8,fr8⟩:=hr8
    have I8':=I8.pinned (stat fr8) (T.obj _ _ st8)
    have stp:=hgo _ _ _ _ (step x H8 y8)
    refine wpAny_mono (gY _ s8 _ H8 x u _ I8' r8 stp) (fun _ s9 ⟨σ9,H9,I9,⟨k1,k2⟩,q9⟩=>?_) fun _ _ f=>by rw [xeY] at f;exact f.elim
    have weak:∀{Hz:Hp} {sz:Shared},Inv Y ([]++zgw fp s8.heap) σ9 Hz sz->Inv Y [] (zef L.length ix σ) Hz sz/\tn (i+1) sz.heap/\∀ b∈fp,Hz b=none:=fun{Hz sz} Iz=>by
     refine⟨Iz.zcw.weak k1.symm fun j v e=>?_,T.keep _ _ _ st8 fun b hb o e=>(Iz.pin (b,o) (List.mem_append_right _ (List.mem_append_right _ (zbx hb e)))).1,fun b hb=>?_⟩
     ·by_cases hj:L.length<=j
      ·rw [k2 j hj];exact e
      ·unfold zef at e
       rw [List.getElem?_append_left (by simpa using Nat.lt_of_not_le hj),List.getElem?_replicate,if_pos (Nat.lt_of_not_le hj)] at e
       cases e
     ·obtain⟨o,e,d⟩:=T.obj _ _ st8 b hb
      exact(Iz.pin (b,o) (List.mem_append_right _ (List.mem_append_right _ (zbx hb e)))).2.1
    refine wpAny_mono (tY _ s9 σ9 H9 _ I9 q9) (fun ok s10 ⟨H10,I10,q10⟩=>?_) fun _ _ f=>by rw [xeY] at f;exact f.elim
    cases ok with
    | false =>
     have q10':∃ m',m'<n/\W (i+1) m' ys H10:=q10
     obtain⟨m',hm',w10⟩:=q10'
     obtain⟨z1,z2,z3⟩:=weak I10
     exact⟨m',hm',i+1,ys,H10,z1,z2,z3,w10⟩
    | true =>
     refine wpAny_mono (pY _ s10 σ9 H10 _ I10 q10) (fun xv s11 ⟨v,H11,I11,r11,hl11,hz11,m',hm',w11⟩=>?_) fun _ _ f=>by rw [xeY] at f;exact f.elim
     refine wpAny_mono (zjN (X:=Y) _ s11 σ9 H11 (.ref D) [v] (.ref D) [xv] (fun _ Hq=>Hq=upd H11 D (.lst (ys++[v]))) I11 rfl (.cons r11 .nil) ⟨D,ys,v,rfl,rfl,hl11,hz11,rfl⟩) (fun _ s12 ⟨_,H12,I12,_,e12⟩=>?_) fun _ _ f=>by rw [xeY] at f;exact f.elim
     subst e12
     obtain⟨z1,z2,z3⟩:=weak I12
     exact⟨m',hm',i+1,ys++[v],_,z1,z2,z3,w11⟩
  ·exact I4
 exact codeAny_compStart_list (key _ rfl) (T.self _ 0 _ _ _ st4 (key _ rfl))
end
end
section
def zca(sc scope:Scope)(N:List Str)(ix:List Nat):Bool :=
 (scope.names.all fun y=>(y.2 != .free||sc.names.lookup y.1==some .cell)&&(y.2 != .local||scope.names.lookup y.1==some .local)&&(y.2 != .free||!(scope.names.contains (y.1,NameKind.cell)))) &&
 ((ix.map fun i=>N.getD i "").all fun x=>scope.names.lookup x != some .local&&!(scope.names.contains (x,NameKind.cell)))&&ix.all (fun i=>decide (i<N.length))
section
variable {X:Cx}
theorem zqr{elt tg iter:Expr}{ifs:List Expr}{scope:Scope}{pos:Pos}{wi:TI}{g:TG}{tc:TT}{te:TE}(L:List Str)(ix:List Nat)(M:List Str)(hc:X.calm=true)(hk:scope.kind=.function)
  (hd:zca X.env.scope scope X.N ix=true)(hM:M=L++ix.map fun i=>X.N.getD i "") (hi:PI X tg iter wi)
  (hg:∀ C s₃ H₃ fp,PG (zap X M scope C s₃ H₃ fp) tg g) (hgo:zly L.length g)
  (ht:∀ C s₃ H₃ fp,PTs (zap X M scope C s₃ H₃ fp) ifs tc) (he:∀ C s₃ H₃ fp,PE (zap X M scope C s₃ H₃ fp) elt te)
  (hs:∀ x,foldedSetIterable iter X.env x=pure x:=by intro _;rfl) :
  PE X (.ListComp elt [⟨tg,iter,ifs,0⟩] scope pos) (zmF L.length ix wi g tc te):=by
 unfold zca at hd
 simp only [Bool.and_eq_true,List.all_eq_true,bne_iff_ne,ne_eq,Bool.or_eq_true,beq_iff_eq,decide_eq_true_eq,Bool.not_eq_true',List.contains_eq_mem,decide_eq_false_iff_not] at hd
 obtain⟨⟨d1,d2⟩,d3⟩:=hd
 have eM:M=L++zeg X ix:=by rw [hM];unfold zeg;rfl
 subst eM
 refine zqs (L:=L) (ix:=ix) hc ⟨hk,fun y hy e=>?_,fun y hy e=>?_,fun x hx=>?_,fun y hy e=>?_⟩ d3 hi hg hgo ht he hs
 ·rcases (d1 y hy).1.1 with z|z
  ·exact absurd e z
  ·exact z
 ·rcases (d1 y hy).1.2 with z|z
  ·exact absurd e z
  ·exact z
 ·unfold zeg at hx
  exact d2 x hx
 ·rcases (d1 y hy).2 with z|z
  ·exact absurd e z
  ·exact z
end
end
section
end
section
section
variable {X:Cx}
theorem zsH{elt tg iter:Expr}{ifs:List Expr}{scope:Scope}{pos:Pos}{L:List Str}{ix:List Nat}{wi:TI}{g:TG}{tc:TT}{te:TE}{i0:Nat}{x0:Str}{pos' spos:Pos}(hN:X.N.Nodup)(hii:X.N[i0]?=some x0)(hx0:Loc X.env.scope x0)(hf0:X.fn x0=true\/X.env.scope.names.lookup x0=some .local)
  (hsw:swapsWith (.ListComp elt [⟨tg,iter,ifs,0⟩] scope pos) (some (.Name x0 pos')) spos.line X.env=pure true)(hc:X.calm=true)(S:zee X scope (zeg X ix))(hix:∀ i∈ix,i<X.N.length)(hi:PI X tg iter wi)
  (hg:∀ C s₃ H₃ fp,PG (zap X (L++zeg X ix) scope C s₃ H₃ fp) tg g)(hgo:zly L.length g)
  (ht:∀ C s₃ H₃ fp,PTs (zap X (L++zeg X ix) scope C s₃ H₃ fp) ifs tc)(he:∀ C s₃ H₃ fp,PE (zap X (L++zeg X ix) scope C s₃ H₃ fp) elt te)
  (hs:∀ x,foldedSetIterable iter X.env x=pure x:=by intro _;rfl) :
  PS X (.Assign [.Name x0 pos'] (.ListComp elt [⟨tg,iter,ifs,0⟩] scope pos) spos) (ztE (zmF L.length ix wi g tc te) (zm1 i0)):=by
 intro pins s σ H Dn I h
 have h:zmF L.length ix wi g tc te σ H (fun v H1=>Dn.nx (σ.set i0 (some v)) H1):=h
 generalize hQ:(fun v H1=>Dn.nx (σ.set i0 (some v)) H1:VK)=Q at h
 rw [exec_Assign_Name_used _ _ _ _ hsw]
 refine wpAny_bind (wpAny_standAt (wpAny_bind ?_))
 show wpAny _ _ (do let _ <- comprehension (.ListComp elt [⟨tg,iter,ifs,0⟩] scope pos) scope X.env _ (newList []) false (eval iter X.env) (some (assign (.Name x0 pos') X.env))) _ _ s
 refine wpAny_bind (wpAny_mono (wpAny_comprehension_free (use:=some (assign (.Name x0 pos') X.env)) (Q:=fun _ s'=>SP X pins Dn .next s') rfl hs (zdo fun y hy e=>I.ok.has y.1 (.inl (S.cell y hy e))) S.kind S.loc (thn (hi pins s σ H _ I h) fun xv s1 h1=>thn h1 fun itv s2 h2=>?_)) (fun _ s' hq=>wpAny_pure (wpAny_pure hq)) fun _ _ e=>e)
 obtain⟨it,fp,tn,J,H2,rfl,I2,T,st2,f2,q⟩:=h2
 have nD:H2 s2.heap.objs.size=none:=I2.hok.fresh (Nat.le_refl _)
 obtain⟨W,⟨m0,w0⟩,turn⟩:=q _ nD
 generalize hD:s2.heap.objs.size=D at nD w0 turn
 have fD:∀ b∈fp,b<D:=fun b hb=>by
  obtain⟨o,e,_⟩:=T.obj _ _ st2 b hb
  rw [<- hD]
  exact Heap.lt_size e
 have I3:Inv X pins σ (upd H2 D (.lst [])) { s2 with heap:=s2.heap.push { cls:=.type "list",data:=.seq ([]:List Value).toArray },toks:=s2.toks }:=by
  rw [<- hD]
  exact I2.laid (t':=s2.toks) (fun b u e=>Heap.get?_push_of_some _ e) (Nat.le_refl _) ⟨by simp,[],0,.nil,Heap.get?_push_size _ rfl⟩
 refine wpAny_newObj_type (zkW (fun h₁ hns₁ hsb₁ hcs₁=>?_)) (by show 0<=sizeLine;exact Nat.zero_le _)
 rw [hD]
 have st3:tn 0 (s2.heap.push { cls:=.type "list",data:=.seq ([]:List Value).toArray }):=T.keep _ _ _ st2 fun b hb o e=>Heap.get?_push_of_some _ e
 generalize hp3:s2.heap.push { cls:=.type "list",data:=.seq ([]:List Value).toArray }=h3 at I3 st3 hns₁ hsb₁ hcs₁
 dsimp only at hns₁ hsb₁ hcs₁ ⊢
 have sz3:h3.objs.size=D+1:=by rw [<- hp3,Heap.size_push,hD]
 have old:∀ b u,h3.get? b=some u->h₁.get? b=some u:=fun b u e=>hsb₁ b u e
 have f3:∀ b∈fp,zhn X pins (upd H2 D (.lst [])) b:=fun b hb=>⟨by rw [zan (Nat.ne_of_lt (fD b hb))];exact(f2 b hb).1,(f2 b hb).2⟩
 have I4:=zgH (L:=L) (ix:=ix) (t':=s2.toks) S I3 f3 (fun b hb=>by show b<h3.objs.size;rw [sz3];exact Nat.lt_succ_of_lt (fD b hb)) hix (h':=h₁) hns₁ old hcs₁
 have st4:tn 0 h₁:=T.keep _ _ _ st3 fun b hb o e=>old b o e
 generalize hC:(zap X (L++zeg X ix) scope h3.objs.size { s2 with heap:=h3,toks:=s2.toks } (upd H2 D (.lst [])) fp)=Y at I4
 have eEnv:Y.env=compEnvC scope (zjJ h3.objs.size scope++zg0 X.env.cells scope.names []) h3.objs.size X.env:=by rw [<- hC];rfl
 have hcY:Y.calm=true:=by rw [<- hC];exact hc
 have xeY:Y.xe=fun _ _=>False:=by rw [<- hC];rfl
 have eP:Y.prog=X.prog:=by rw [<- hC];rfl
 have eW:Y.w=X.w:=by rw [<- hC];rfl
 have eK:Y.K=X.K:=by rw [<- hC];rfl
 have eA:Y.A=X.A:=by rw [<- hC];rfl
 have gY:PG Y tg g:=by rw [<- hC];exact hg _ _ _ _
 have tY:PTs Y ifs tc:=by rw [<- hC];exact ht _ _ _ _
 have pY:PE Y elt te:=by rw [<- hC];exact he _ _ _ _
 have stat:∀{H':Hp},(∀ b∈fp,H' b=none)->∀ b∈fp,zhn Y [] H' b:=fun{H'} hn b hb=>by
  have z1:b∈Y.ex:=by rw [<- hC];exact hb
  have zp:Y.pn=[]:=by rw [<- hC];rfl
  refine⟨hn b hb,(I4.ok.exf b z1).1,I4.ok.exfs b z1,.inl z1,(I4.ok.exf b z1).2,fun p hp=>?_⟩
  rw [zp] at hp
  exact absurd hp (by simp)
 have fin:∀{H':Hp} {s':Shared},Inv Y [] (zef L.length ix σ) H' s'->Q (.ref D) H'->compPost (model X.prog X.w) X.A X.xe (some (assign (.Name x0 pos') X.env)) (fun _ s'=>SP X pins Dn .next s') (.ref D) h3.objs.size (.ok .next) s':=by
  intro H' s' J' qe
  obtain⟨m,hm,_⟩:=J'.loc
  rw [eEnv] at hm
  have hfr:H' h3.objs.size=none:=by
   have:=J'.free
   rw [eEnv] at this
   exact this
  have mk:∀ h',Heap.SameBut h3.objs.size s'.heap h'->Inv X pins σ H' { s' with heap:=h' }:=by
   intro h' sb
   have hfr:H' h3.objs.size=none:=by
    have:=J'.free
    rw [eEnv] at this
    exact this
   have neC:∀ b u,H' b=some u->b≠h3.objs.size:=fun b u e z=>by rw [z,hfr] at e;cases e
   have base:Un (frs X.stack) fp (upd H2 D (.lst [])) H' h3 s'.heap:=by
    have:=J'.base
    rw [<- hC] at this
    exact this
   have to':∀ b o,b≠h3.objs.size->s'.heap.get? b=some o->h'.get? b=some o:=fun b o hb e=>sb.extBut b o hb e
   have lt3:∀ b o,h3.get? b=some o->b≠h3.objs.size:=fun b o e=>Nat.ne_of_lt (Heap.lt_size e)
   have un:Un (frs X.stack) fp (upd H2 D (.lst [])) H' h3 h' :=
    ⟨fun b o e n hb hx=>to' b o (lt3 b o e) (base.keep b o e n hb hx),
     fun b o e n hb hx=>by
     obtain⟨sl,z⟩:=base.slot b o e n hb hx
     exact⟨sl,to' _ _ (lt3 b o e) z⟩,
     base.free,
     fun b o e hx=>by
     obtain⟨o',z⟩:=base.there b o e hx
     exact⟨o',to' _ _ (lt3 b o e) z⟩,
     base.tups,base.frzs,base.tbls⟩
   have hok:HOk X.prog X.w H' h':=fun b u e=>by
    have z:=J'.hok b u e
    rw [eP,eW] at z
    refine z.stay (fun c v hcv qv=>to' c v ?_ qv) (fun _ qq=>qq) fun _ _ qq=>qq
    rcases hcv with zz|zz
    ·rw [zz];exact neC b u e
    ·exact neC c _ zz
   refine I3.call' (s':={ s' with heap:=h' }) (ch:=fp) ?_ un hok J'.bare fun b hb=>?_
   ·have:=J'.os
    rw [<- hC] at this
    exact this
   ·obtain⟨_,g1,g2,g3,g4,g5⟩:=f2 b hb
    exact⟨g3,g1,g4,g5⟩
  have I5:Inv X pins σ H' s':=mk s'.heap (Heap.SameBut.refl ..)
  show wpAny _ _ (assign (.Name x0 pos') X.env (.ref D)) _ _ s'
  refine wpAny_assign_Name (zju (v:=.ref D) I5 hN hii hx0 rfl (fun s'' I6 hh=>?_) hf0)
  obtain⟨a6,sb6,ha6⟩:=hh
  have neC:a6≠h3.objs.size:=by
   rcases ha6 with z|z
   ·rw [z];exact Nat.ne_of_lt I3.lt
   ·obtain⟨v6,q6⟩:=I3.cell x0 a6 z
    exact Nat.ne_of_lt q6.lt
  refine⟨m,hm.sameBut sb6 (Ne.symm neC),fun h'' sb2=>⟨_,H',?_,by rw [<- hQ] at qe;exact qe⟩⟩
  refine Inv.zij (t':=s''.toks) (fp:=[h3.objs.size]) I6 (fun b o hb e=>sb2.extBut b o (by simpa using hb) e) fun b hb=>?_
  have e:b=h3.objs.size:=by simpa using hb
  subst e
  exact I3.zpO (Nat.le_refl _) hfr
 have key:∀ s5:Shared,s5={ s2 with heap:=h₁,toks:=s2.toks } ->
   codeAny (model X.prog X.w) X.A (.compLoop (.ListComp elt [⟨tg,iter,ifs,0⟩] scope pos) 0 (.ref it) (.ref D) (compEnvC scope (zjJ h3.objs.size scope++zg0 X.env.cells scope.names []) h3.objs.size X.env))
    (compPost (model X.prog X.w) X.A X.xe (some (assign (.Name x0 pos') X.env)) (fun _ s'=>SP X pins Dn .next s') (.ref D) h3.objs.size) s5:=by
  rintro s5 rfl
  rw [<- eEnv,<- eP,<- eW,<- eA]
  refine zgY (fun n s'=>∃ i ys H',Inv Y [] (zef L.length ix σ) H' s'/\tn i s'.heap/\(∀ b∈fp,H' b=none)/\W i n ys H') ?_ m0 ⟨0,[],_,?_,st4,fun b hb=>(f3 b hb).1,w0⟩
  ·rintro n s6 ⟨i,ys,H6,I6,st6,fr6,w6⟩
   obtain⟨hl6,alt⟩:=turn i n ys H6 w6
   rcases alt with⟨stop,qe⟩|⟨go,step⟩
   ·have Td:=T.done Y eP eW eK hcY i [] s6 _ H6 (fun _ _=>False) I6 (stat fr6) st6 stop
    rw [<- eP,<- eW] at Td
    refine wpAny_mono Td (fun r s7 hr7=>?_) fun _ _ f=>f.elim
    obtain⟨hr,I7⟩:=hr7
    subst hr
    rw [eP,eW,eA]
    exact fin I7 qe
   ·have Ti:=T.item Y eP eW eK hcY i [] s6 _ H6 (fun _ _=>False) I6 (stat fr6) st6 go
    rw [<- eP,<- eW] at Ti
    refine wpAny_mono Ti (fun r s7 hr7=>?_) fun _ _ f=>f.elim
    obtain⟨u,hr,h7⟩:=hr7
    subst hr
    refine wpAny_mono h7 (fun _ s8 hr8=>?_) fun _ _ f=>f.elim
    obtain⟨x,H8,I8,r8,y8,st8,fr8⟩:=hr8
    have I8':=I8.pinned (stat fr8) (T.obj _ _ st8)
    have stp:=hgo _ _ _ _ (step x H8 y8)
    refine wpAny_mono (gY _ s8 _ H8 x u _ I8' r8 stp) (fun _ s9 ⟨σ9,H9,I9,⟨k1,k2⟩,q9⟩=>?_) fun _ _ f=>by rw [xeY] at f;exact f.elim
    have weak:∀{Hz:Hp} {sz:Shared},Inv Y ([]++zgw fp s8.heap) σ9 Hz sz->Inv Y [] (zef L.length ix σ) Hz sz/\tn (i+1) sz.heap/\∀ b∈fp,Hz b=none:=fun{Hz sz} Iz=>by
     refine⟨Iz.zcw.weak k1.symm fun j v e=>?_,T.keep _ _ _ st8 fun b hb o e=>(Iz.pin (b,o) (List.mem_append_right _ (List.mem_append_right _ (zbx hb e)))).1,fun b hb=>?_⟩
     ·by_cases hj:L.length<=j
      ·rw [k2 j hj];exact e
      ·unfold zef at e
       rw [List.getElem?_append_left (by simpa using Nat.lt_of_not_le hj),List.getElem?_replicate,if_pos (Nat.lt_of_not_le hj)] at e
       cases e
     ·obtain⟨o,e,d⟩:=T.obj _ _ st8 b hb
      exact(Iz.pin (b,o) (List.mem_append_right _ (List.mem_append_right _ (zbx hb e)))).2.1
    refine wpAny_mono (tY _ s9 σ9 H9 _ I9 q9) (fun ok s10 ⟨H10,I10,q10⟩=>?_) fun _ _ f=>by rw [xeY] at f;exact f.elim
    cases ok with
    | false =>
     have q10':∃ m',m'<n/\W (i+1) m' ys H10:=q10
     obtain⟨m',hm',w10⟩:=q10'
     obtain⟨z1,z2,z3⟩:=weak I10
     exact⟨m',hm',i+1,ys,H10,z1,z2,z3,w10⟩
    | true =>
     refine wpAny_mono (pY _ s10 σ9 H10 _ I10 q10) (fun xv s11 ⟨v,H11,I11,r11,hl11,hz11,m',hm',w11⟩=>?_) fun _ _ f=>by rw [xeY] at f;exact f.elim
     refine wpAny_mono (zjN (X:=Y) _ s11 σ9 H11 (.ref D) [v] (.ref D) [xv] (fun _ Hq=>Hq=upd H11 D (.lst (ys++[v]))) I11 rfl (.cons r11 .nil) ⟨D,ys,v,rfl,rfl,hl11,hz11,rfl⟩) (fun _ s12 ⟨_,H12,I12,_,e12⟩=>?_) fun _ _ f=>by rw [xeY] at f;exact f.elim
     subst e12
     obtain⟨z1,z2,z3⟩:=weak I12
     exact⟨m',hm',i+1,ys++[v],_,z1,z2,z3,w11⟩
  ·exact I4
 exact codeAny_compStart_list (key _ rfl) (T.self _ 0 _ _ _ st4 (key _ rfl))
theorem zsG{elt tg iter:Expr}{ifs:List Expr}{scope:Scope}{pos:Pos}{wi:TI}{g:TG}{tc:TT}{te:TE}{x0:Str}{pos' spos:Pos}(i0:Nat)(L:List Str)(ix:List Nat)(M:List Str)(hN:X.N.Nodup)(hii:X.N[i0]?=some x0)(hx0:X.env.scope.names.lookup x0=some .local)
  (hsw:swapsWith (.ListComp elt [⟨tg,iter,ifs,0⟩] scope pos) (some (.Name x0 pos')) spos.line X.env=pure true)(hc:X.calm=true)(hk:scope.kind=.function)
  (hd:zca X.env.scope scope X.N ix=true)(hM:M=L++ix.map fun i=>X.N.getD i "") (hi:PI X tg iter wi)
  (hg:∀ C s₃ H₃ fp,PG (zap X M scope C s₃ H₃ fp) tg g) (hgo:zly L.length g)
  (ht:∀ C s₃ H₃ fp,PTs (zap X M scope C s₃ H₃ fp) ifs tc) (he:∀ C s₃ H₃ fp,PE (zap X M scope C s₃ H₃ fp) elt te)
  (hs:∀ x,foldedSetIterable iter X.env x=pure x:=by intro _;rfl) :
  PS X (.Assign [.Name x0 pos'] (.ListComp elt [⟨tg,iter,ifs,0⟩] scope pos) spos) (ztE (zmF L.length ix wi g tc te) (zm1 i0)):=by
 unfold zca at hd
 simp only [Bool.and_eq_true,List.all_eq_true,bne_iff_ne,ne_eq,Bool.or_eq_true,beq_iff_eq,decide_eq_true_eq,Bool.not_eq_true',List.contains_eq_mem,decide_eq_false_iff_not] at hd
 obtain⟨⟨d1,d2⟩,d3⟩:=hd
 have eM:M=L++zeg X ix:=by rw [hM];unfold zeg;rfl
 subst eM
 refine zsH (L:=L) (ix:=ix) hN hii (.inl hx0) (.inr hx0) hsw hc ⟨hk,fun y hy e=>?_,fun y hy e=>?_,fun x hx=>?_,fun y hy e=>?_⟩ d3 hi hg hgo ht he hs
 ·rcases (d1 y hy).1.1 with z|z
  ·exact absurd e z
  ·exact z
 ·rcases (d1 y hy).1.2 with z|z
  ·exact absurd e z
  ·exact z
 ·unfold zeg at hx
  exact d2 x hx
 ·rcases (d1 y hy).2 with z|z
  ·exact absurd e z
  ·exact z
end
end
section
theorem zhK{α β:Type}{R:α->β->Prop}:∀{xs:List α} {ys:List β} {i:Nat} {x:α},Paired R xs ys->xs[i]?=some x->∃ y,ys[i]?=some y/\R x y
 | _::_,_::_,0,_,.cons r _,e=>by
  simp only [List.getElem?_cons_zero,Option.some.injEq] at e
  subst e
  exact⟨_,rfl,r⟩
 | _::_,_::_,i+1,_,.cons _ t,e=>by
  simp only [List.getElem?_cons_succ] at e ⊢
  exact zhK t e
 | [],_,_,_,_,e=>by simp at e
end
section
section
variable {κ:Type}[DecidableEq κ]
def zlD(kvs:List (κ×V))(k:κ):Option V:=(kvs.find? fun kv=>decide (kv.1=k)).map (·.2)
def putK(kvs:List (κ×V))(k:κ)(v:V):List (κ×V) :=
 if(kvs.any fun kv=>decide (kv.1=k))=true then kvs.map (fun kv=>if kv.1=k then(kv.1,v) else kv) else kvs++[(k,v)]
def zcY(kvs:List (κ×V))(k:κ):List (κ×V):=kvs.filter fun kv=>decide (kv.1≠k)
theorem zih{p:κ×V}{r:List (κ×V)}{k:κ}(e:p.1=k):zlD (p::r) k=some p.2:=by simp [zlD,List.find?_cons,e]
theorem zii{p:κ×V}{r:List (κ×V)}{k:κ}(e:¬ p.1=k):zlD (p::r) k=zlD r k:=by simp [zlD,List.find?_cons,e]
theorem zlC(k:κ):∀ kvs:List (κ×V),(kvs.any fun kv=>decide (kv.1=k))=(zlD kvs k).isSome
 | []=>rfl
 | p::r=>by
  rw [List.any_cons]
  by_cases e:p.1=k
  ·simp only [zih e,decide_eq_true e,Bool.true_or,Option.isSome_some]
  ·rw [zii e,decide_eq_false e,Bool.false_or];exact zlC k r
theorem zez(kvs:List (κ×V))(k:κ)(v:V):(putK kvs k v).length<=kvs.length+1:=by
 unfold putK
 split
 ·rw [List.length_map];omega
 ·rw [List.length_append,List.length_cons,List.length_nil];omega
theorem znm.zj2{o:Option V}{u:Option Value}(r:znm o u):o.isSome=u.isSome:=by
 cases o with
 | none=>cases u with
  | none=>rfl
  | some _=>exact(show False from r).elim
 | some _=>cases u with
  | none=>exact(show False from r).elim
  | some _=>rfl
theorem znm.getD{o:Option V}{u:Option Value}{d:V}{d':Value}(r:znm o u)(rd:RelV d d'):RelV (o.getD d) (u.getD d'):=by
 cases o with
 | none=>cases u with
  | none=>exact rd
  | some _=>exact(show False from r).elim
 | some _=>cases u with
  | none=>exact(show False from r).elim
  | some _=>exact r
theorem zmo(kvs:List (κ×V))(k:κ):(zcY kvs k).length<=kvs.length:=List.length_filter_le _ _
end
theorem zwS{P:Program}{w:World}{k:Key}{u:Value}(r:RelV (kV k) u):(zbI P w).is k u=true:=by
 cases k with
 | inl i=>obtain⟨t,e⟩:=(show ∃ t,u=Value.int i t from r);subst e;exact zkZ P w i t
 | inr x=>obtain⟨t,e⟩:=(show ∃ t,u=Value.str x t from r);subst e;exact zkY P w x t
theorem zj1{P:Program}{w:World}:∀{ks:List Key} {us:List Value},Vals (ks.map kV) us->ItemsAre (zbI P w) ks us
 | [],_,r=>by rw [List.map_nil] at r;cases r;exact .nil
 | k::ks,_,r=>by
  rw [List.map_cons] at r
  cases r with
  | cons h t=>exact .cons (zwS h) (zj1 t)
abbrev KT(H:Hp):List (List Key×V)->List (List Key×Addr×Value)->Prop:=Paired fun p q=>p.1=q.1/\TAt H q.2.1 (p.1.map kV)/\RelV p.2 q.2.2
theorem KT.val{H:Hp}{kvs:List (List Key×V)}{xs:List (List Key×Addr×Value)}(r:KT H kvs xs)(k:List Key):znm (zlD kvs k) ((atKey xs k).map (·.2)):=by
 induction r with
 | nil=>exact True.intro
 | @cons p q ps qs h t ih =>
  obtain⟨h1,_,h2⟩:=h
  by_cases e:p.1=k
  ·have e':q.1=k:=h1.symm.trans e
   have b:atKey (q::qs) k=some q.2:=by simp [atKey,List.find?_cons,e']
   rw [zih e,b];exact h2
  ·have e':¬ q.1=k:=fun z=>e (h1.trans z)
   have b:atKey (q::qs) k=atKey qs k:=by simp [atKey,List.find?_cons,e']
   rw [zii e,b];exact ih
theorem KT.repl{H:Hp}{kvs:List (List Key×V)}{xs:List (List Key×Addr×Value)}(r:KT H kvs xs)(k:List Key){y:V}{u:Value}(ry:RelV y u) :
  KT H (kvs.map fun kv=>if kv.1=k then(kv.1,y) else kv) (xs.map (putAt k u)):=by
 induction r with
 | nil=>exact .nil
 | @cons p q ps qs h t ih =>
  rw [List.map_cons,List.map_cons]
  refine .cons ?_ ih
  obtain⟨h1,h2,h3⟩:=h
  unfold putAt
  by_cases e:p.1=k
  ·rw [if_pos e,if_pos (h1.symm.trans e)];exact⟨h1,h2,ry⟩
  ·rw [if_neg e,if_neg (fun z=>e (h1.trans z))];exact⟨h1,h2,h3⟩
theorem KT.put{H:Hp}{kvs:List (List Key×V)}{xs:List (List Key×Addr×Value)}(r:KT H kvs xs)(k:List Key){b:Addr}{y:V}{u:Value}(hb:TAt H b (k.map kV))(ry:RelV y u) :
  KT H (putK kvs k y) (storedH xs k b u):=by
 have e:(kvs.any fun kv=>decide (kv.1=k))=(atKey xs k).isSome:=by
  rw [zlC,(r.val k).zj2,Option.isSome_map]
 unfold putK storedH
 rw [e]
 by_cases q:(atKey xs k).isSome=true
 ·rw [if_pos q,if_pos q];exact r.repl k ry
 ·rw [if_neg q,if_neg q];exact Paired.snoc r ⟨rfl,hb,ry⟩
theorem KT.keeps{H H':Hp}{kvs:List (List Key×V)}{xs:List (List Key×Addr×Value)}(r:KT H kvs xs)(ht:∀ b ys,TAt H b ys->TAt H' b ys):KT H' kvs xs :=
 Paired.zwK r fun _ _ z=>⟨z.1,ht _ _ z.2.1,z.2.2⟩
section
variable {P:Program}{w:World}{H:Hp}{h:Heap}{a:Addr}
theorem zwl{u:HO}(ok:HOk P w H h)(e:Rd H a u):zbM P w H h a u:=e.ok ok
theorem zcW{ks:List Key}(ok:HOk P w H h)(e:TAt H a (ks.map kV)):(tupleKind (zbI P w)).is h ks a:=by
 obtain⟨_,its,r,o,h1,h2,n,h3⟩:=(show zbM P w H h a (.tup (ks.map kV)) from Rd.ok e ok)
 exact⟨o,its.toArray,n,h1,h2,h3,by simpa using zj1 r⟩
theorem zkd{kvs:List (List Key×V)}(ok:HOk P w H h)(e:Rd H a (.dT kvs)):kvs.length<=sizeLine/\(a==sysModules)=false /\
  ∃ xs,KT H kvs xs/\h.DictOfH (tupleKind (zbI P w)) a xs:=by
 obtain⟨z,y,xs,r,o,es,ep,h1,h2,h3,h4,h5⟩:=(show zbM P w H h a (.dT kvs) from zwl ok e)
 refine⟨z,y,xs,r,o,es,ep,h1,h2,h3,h4,fun x hx=>?_,h5⟩
 have all:∀{l:List (List Key×V)} {m:List (List Key×Addr×Value)},KT H l m->∀ x∈m,(tupleKind (zbI P w)).is h x.1 x.2.1:=by
  intro l m q
  induction q with
  | nil=>intro x hx;exact nomatch hx
  | @cons p q ps qs hq t ih =>
   intro x hx
   rcases List.mem_cons.mp hx with e|hx
   ·subst e
    exact zcW ok (by rw [<- hq.1];exact hq.2.1)
   ·exact ih x hx
 exact all r x hx
theorem zpe{kvs:List (List Key×V)}(ok:HOk P w H h)(e:H a=some (.dT kvs)):kvs.length<=sizeLine/\(a==sysModules)=false /\
  ∃ xs,KT H kvs xs/\h.DictOfH (tupleKind (zbI P w)) a xs:=zkd ok (.inl e)
end
def zvQ(H:Hp)(a:Addr)(y:V)(r:Option V):Prop :=
 ∃ kvs k b,Rd H a (.dT kvs)/\y=.ref b/\TAt H b (k.map kV)/\r=zlD kvs k
def zv5(H:Hp)(a:Addr)(y v:V)(H':Hp):Prop :=
 ∃ kvs k b,H a=some (.dT kvs)/\y=.ref b/\TAt H b (k.map kV)/\kvs.length<sizeLine/\H'=upd H a (.dT (putK kvs k v))
section
variable {X:Cx}{pins:List (Addr×Obj)}{σ:St}{H:Hp}{s:Shared}{a:Addr}{y v:V}{u r:Value}{o:Option V}{A:Around}{E:Value->Shared->Prop}
theorem Inv.big(I:Inv X pins σ H s):sysModules<s.heap.objs.size:=by
 have h:mainGlobals<s.heap.objs.size:=(I.mod.glob.keeps I.bk).lt
 exact Nat.lt_trans (by decide) h
theorem zpi{Q:Value->Shared->Prop}(hu:A.units+1<cLine)(I:Inv X pins σ H s)(g:zvQ H a y (some v))(ry:RelV y u)(h:∀ w' s',Inv X pins σ H s'->RelV v w'->Q w' s') :
  wpAny (model X.prog X.w) A (getItem (.ref a) u) Q E s:=by
 obtain⟨kvs,k,b,e,ey,eb,l⟩:=g
 subst ey
 cases (show u=Value.ref b from ry)
 obtain⟨z,hd,xs,rel,dd⟩:=zkd I.hok e
 obtain⟨w',hw,rw'⟩:=znm.some_of (v:=v) (o:=(atKey xs k).map (·.2)) (by rw [l];exact rel.val k)
 obtain⟨p,hp,hp2⟩:=Option.map_eq_some_iff.mp hw
 refine wpAny_getItem_heap (tupleKind_room_in1 hu) (zcW I.hok eb) dd hp ?_
 rw [hp2]
 exact h w' _ (I.tok _) rw'
theorem zyC{Q:Value->Shared->Prop}(hu:A.units+1<cLine)(I:Inv X pins σ H s)(g:zvQ H a y o)(ry:RelV y u)(h:∀ s',Inv X pins σ H s'->Q (.bool o.isSome) s') :
  wpAny (model X.prog X.w) A (compareOp .In u (.ref a)) Q E s:=by
 obtain⟨kvs,k,b,e,ey,eb,l⟩:=g
 subst ey
 cases (show u=Value.ref b from ry)
 obtain⟨z,hd,xs,rel,dd⟩:=zkd I.hok e
 refine wpAny_in_heap (tupleKind_room_in1 hu) (zcW I.hok eb) hd dd ?_
 have q:=(rel.val k).zj2
 rw [Option.isSome_map] at q
 rw [<- q,<- l]
 exact h _ (I.tok _)
theorem zgV{h':Heap}{t':Nat}{ob:HO}(I:Inv X pins σ H s)(mu:Mut (H a))(hs:Heap.SameBut a s.heap h')(he:∃ q,h'.get? a=some q)(new:zbM X.prog X.w (upd H a ob) h' a ob) :
  Inv X pins σ (upd H a ob) { s with heap:=h',toks:=t' } :=
 I.write (x:=a) (e:=a) mu (.inl rfl) (fun b q hb z=>(hs.2 b hb).trans z) he new
theorem zph{H':Hp}{Q:Unit->Shared->Prop}(hu:A.units+1<cLine)(I:Inv X pins σ H s)(g:zv5 H a y v H')(ry:RelV y u)(rv:RelV v r)(h:∀ s',Inv X pins σ H' s'->Q () s') :
  wpAny (model X.prog X.w) A (setItem (.ref a) u r) Q E s:=by
 obtain⟨kvs,k,b,e,ey,eb,l,eH⟩:=g
 subst ey eH
 cases (show u=Value.ref b from ry)
 obtain⟨z,hd,xs,rel,dd⟩:=zpe I.hok e
 have hz:xs.length<=sizeLine:=by rw [<- Paired.length rel];exact z
 have hl:(putK kvs k v).length<=sizeLine:=by have:=zez kvs k v;omega
 refine wpAny_setItem_heap (hsz:=hz) (tupleKind_room_in1 hu) (zcW I.hok eb) dd fun h' dd' hs=>h _ ?_
 obtain⟨q,es,ep,hq,h2,h3,h4,_,h5⟩:=dd'
 refine zgV I (by rw [e];exact True.intro) hs ⟨q,hq⟩ ⟨hl,hd,_,(rel.put k eb rv).keeps fun c ys ec=>?_,q,es,ep,hq,h2,h3,h4,h5⟩
 exact ec.upd (fun _ z=>zhs z e (fun z=>nomatch z)) fun _ _ z=>zhs z e (fun z=>nomatch z)
end
theorem zlj{X:Cx}{pins:List (Addr×Obj)}{σ:St}{H:Hp}{s:Shared}{a:Addr}{y:V}{o:Option V}(I:Inv X pins σ H s)(g:zvQ H a y o):s.TypeIs (.ref a) "dict":=by
 obtain⟨kvs,k,b,e,_,_,_⟩:=g
 obtain⟨_,_,xs,_,dd⟩:=zkd I.hok e
 exact dd.typeIs
theorem zi2{P:Program}{w:World}{H:Hp}(h:Heap)(hb:sysModules<h.objs.size):zbM P w H (h.push { cls:=.type "dict",data:=.dict #[] }) h.objs.size (.dT []) :=
 ⟨Nat.zero_le _,beq_eq_false_iff_ne.mpr (Ne.symm (Nat.ne_of_lt hb)),[],.nil,_,#[],0,Heap.get?_push_size _ rfl,⟨rfl,rfl,rfl⟩,rfl,rfl,List.nodup_nil⟩
def zt1:TE:=fun _ H Q=>∀ p,H p=none->Q (.ref p) (upd H p (.dT []))
section
variable {X:Cx}{pos:Pos}
theorem zqp:PE X (.Dict [] [] pos) zt1:=fun pins s σ H Q I h =>
 wpAny_Dict_empty ⟨.ref s.heap.objs.size,_,I.laid (a:=s.heap.objs.size) (o:=.dT []) (t':=s.toks) (fun _ _ q=>Heap.get?_push_of_some _ q) (Nat.le_refl _) (zi2 s.heap I.big),rfl,h _ (I.hok.fresh (Nat.le_refl _))⟩
end
def zrt:List (TE×TE)->St->Hp->(List (V×V)->Hp->Prop)->Prop
 | [],_,H,Q=>Q [] H
 | (tk,tv)::r,σ,H,Q=>tk σ H fun x H1=>tv σ H1 fun y H2=>zrt r σ H2 fun ps H3=>Q ((x,y)::ps) H3
abbrev VV:List (V×V)->List (Value×Value)->Prop:=Paired fun p q=>RelV p.1 q.1/\RelV p.2 q.2
def PPs(X:Cx)(pos:Pos)(keys:List (Option Expr))(values:List Expr)(trs:List (TE×TE)):Prop :=
 ∀(pins:List (Addr×Obj)) (s:Shared) (σ:St) (H:Hp) (Q:List (V×V)->Hp->Prop),Inv X pins σ H s->zrt trs σ H Q ->
  wpAny (model X.prog X.w) X.A (evalPairs (pairTrees keys values X.env pos)) (fun vs s'=>∃ ps H',Inv X pins σ H' s'/\VV ps vs/\Q ps H') X.xe s
theorem zsL{X:Cx}{pos:Pos}:PPs X pos [] [] []:=fun pins s σ H Q I h=>pairTrees_nil_walk ⟨[],H,I,.nil,h⟩
theorem zqk{X:Cx}{pos:Pos}{k v:Expr}{ks:List (Option Expr)}{vs:List Expr}{tk tv:TE}{trs:List (TE×TE)}(hk:PE X k tk)(hv:PE X v tv)(hr:PPs X pos ks vs trs) :
  PPs X pos (some k::ks) (v::vs) ((tk,tv)::trs):=fun pins s σ H Q I h =>
 pairTrees_cons_walk (thn (hk pins s σ H _ I h) fun u s1 ⟨x,H1,I1,rx,q1⟩=>thn (hv pins s1 σ H1 _ I1 q1) fun w2 s2 ⟨y,H2,I2,ry,q2⟩ =>
  thn (hr pins s2 σ H2 _ I2 q2) fun ws s3 ⟨ps,H3,I3,rel,q3⟩=>⟨(x,y)::ps,H3,I3,.cons ⟨rx,ry⟩ rel,q3⟩)
structure M1(X:Cx)(o:Expr)(m:Str)(apos:Pos)(e:Expr)(cpos:Pos):Prop where
 base:attributeBase o m X.env (eval o X.env)=eval o X.env
 few:((backTo cpos (starEach [e] X.env)).all (fun x=>!x.1)&&(backToKw cpos (keywordEach [] X.env)).all (fun x=>x.1.isSome)
  && decide (([e]:List Expr).length+([]:List Keyword).length+(if([]:List Keyword).isEmpty then 0 else 1)<30))=true
 line:(apos.endLine==cpos.line)=true
 trees:backTo cpos (starEach [e] X.env)=[(false,eval e X.env)]
structure M2(X:Cx)(o:Expr)(m:Str)(apos:Pos)(e f:Expr)(cpos:Pos):Prop where
 base:attributeBase o m X.env (eval o X.env)=eval o X.env
 few:((backTo cpos (starEach [e,f] X.env)).all (fun x=>!x.1)&&(backToKw cpos (keywordEach [] X.env)).all (fun x=>x.1.isSome)
  && decide (([e,f]:List Expr).length+([]:List Keyword).length+(if([]:List Keyword).isEmpty then 0 else 1)<30))=true
 line:(apos.endLine==cpos.line)=true
 trees:backTo cpos (starEach [e,f] X.env)=[(false,eval e X.env),(false,eval f X.env)]
def IsD(H:Hp)(a:Addr):Prop:=∃ kvs,Rd H a (.dT kvs)
theorem zrP{X:Cx}{pins:List (Addr×Obj)}{σ:St}{H:Hp}{s:Shared}{a:Addr}(I:Inv X pins σ H s)(d:IsD H a) :
  s.TypeIs (.ref a) "dict"/\(∀ b,Value.ref a=.ref b->∃ ob,s.heap.get? b=some ob/\ob.dict=none)/\(a==sysModules)=false:=by
 obtain⟨kvs,e⟩:=d
 obtain⟨_,hd,xs,_,dd⟩:=zkd I.hok e
 refine⟨dd.typeIs,fun b q=>?_,hd⟩
 cases q
 obtain⟨ob,_,_,h1,h2,_⟩:=dd
 exact⟨ob,h1,h2.2.1⟩
section
variable {X:Cx}{pins:List (Addr×Obj)}{σ:St}{H:Hp}{s:Shared}{a:Addr}{y d:V}{u r:Value}{o:Option V}{A:Around}{E:Value->Shared->Prop}
theorem zvw{Q:Value->Shared->Prop}(hu:A.units+1<cLine)(I:Inv X pins σ H s)(g:zvQ H a y o)(ry:RelV y u)(rd:RelV d r)(h:∀ w' s',Inv X pins σ H s'->RelV (o.getD d) w'->Q w' s') :
  wpAny (model X.prog X.w) A (call (.builtin "dict.get") [.ref a,u,r]) Q E s:=by
 obtain⟨kvs,k,b,e,ey,eb,l⟩:=g
 subst ey
 cases (show u=Value.ref b from ry)
 obtain⟨z,hd,xs,rel,dd⟩:=zkd I.hok e
 refine call_meetsIn PySem.F.slot_dict_get dd.typeIs PySem.F.entry_dict_get (PySem.F.args_dict_get_3 _ _ _) (meetsH_dict_get_default (tupleKind (zbI X.prog X.w)) a b hd r) ⟨tupleKind_room_in1 hu,k,xs,zcW I.hok eb,dd,h _ _ (I.tok _) ?_⟩
 rw [l]
 exact(rel.val k).getD rd
end
end
section
section
variable {κ:Type}[DecidableEq κ]
theorem zpf{p:κ×V}{r:List (κ×V)}{k:κ}(e:p.1=k):zcY (p::r) k=zcY r k:=by
 unfold zcY
 rw [List.filter_cons,if_neg (by simp [e])]
theorem zpg{p:κ×V}{r:List (κ×V)}{k:κ}(e:¬ p.1=k):zcY (p::r) k=p::zcY r k:=by
 unfold zcY
 rw [List.filter_cons,if_pos (by simp [e])]
end
end
section
section
variable {prog:Program}{w:World}{A:Around}{R:Result->Shared->Prop}{s:Shared}
theorem zkg{kx vx target iter:Expr}{ifs:List Expr}{scope:Scope}{pos:Pos}{it:Value}{D:Addr}{env:Env}(I:Nat->Shared->Prop)
  (turn:∀ n s,I n s->wpAny (model prog w) A (pyNext it) (fun r s₁=>match r with
   | none=>R (.ok .next) s₁
   | some v=>wpAny (model prog w) A (letOwnedTupleGo target it v) (fun _ s₀=>wpAny (model prog w) A (assign target env v) (fun _ s₂ =>
     wpAny (model prog w) A (forIn ifs true fun c r=>if r=true then do let ok <- isTrue c env (eval c env);pure (ForInStep.yield ok) else pure (ForInStep.yield r)) (fun ok s₃ =>
      if ok=true then wpAny (model prog w) A (eval kx env) (fun kv s₄=>wpAny (model prog w) A (eval vx env) (fun vv s₅ =>
       wpAny (model prog w) A (dictSet D kv vv) (fun _ s₆=>∃ m,m<n/\I m s₆) (notedBy (model prog w) A env fun e s'=>R (.error e) s') s₅) (notedBy (model prog w) A env fun e s'=>R (.error e) s') s₄) (notedBy (model prog w) A env fun e s'=>R (.error e) s') s₃
      else ∃ m,m<n/\I m s₃) (notedBy (model prog w) A env fun e s'=>R (.error e) s') s₂) (notedBy (model prog w) A env fun e s'=>R (.error e) s') s₀) (notedBy (model prog w) A env fun e s'=>R (.error e) s') s₁) (notedBy (model prog w) A env fun e s'=>R (.error e) s') s)
  (n:Nat)(h:I n s):codeAny (model prog w) A (.compLoop (.DictComp kx vx [⟨target,iter,ifs,0⟩] scope pos) 0 it (.ref D) env) R s:=by
 refine codeAny_loop rfl I (fun n s hI=>?_) n h
 show wpAny _ A ((compTurn (.DictComp kx vx [⟨target,iter,ifs,0⟩] scope pos) 0 it (.ref D) env).onRaise (fun x=>do noteFrame x env;theTreesLotGoes x)) _ _ s
 refine wpAny_noted ?_
 rw [compTurn_dict]
 refine wpAny_bind (wpAny_standAt (wpAny_bind (wpAny_mono (turn n s hI) (fun r s₁ h₁=>?_) fun _ _ h'=>h')))
 cases r with
 | none=>exact wpAny_pure h₁
 | some v =>
  refine wpAny_bind (wpAny_mono h₁ (fun _ s₀ h₀=>?_) fun _ _ h'=>h')
  refine wpAny_bind (wpAny_mono h₀ (fun _ s₂ h₂=>wpAny_bind (wpAny_mono h₂ (fun ok s₃ h₃=>?_) fun _ _ h'=>h')) fun _ _ h'=>h')
  cases ok with
  | false=>exact wpAny_pure ⟨rfl,h₃⟩
  | true =>
   exact wpAny_bind (wpAny_bind (wpAny_mono h₃ (fun kv s₄ h₄=>wpAny_bind (wpAny_holding (wpAny_mono h₄ (fun vv s₅ h₅=>wpAny_bind (wpAny_standAt (wpAny_holding (wpAny_mono h₅ (fun _ s₆ h₆=>wpAny_pure ⟨rfl,h₆⟩) fun _ _ h'=>h')))) fun _ _ h'=>h'))) fun _ _ h'=>h'))
end
end
section
end
section
end
section
end
section
theorem zns:∀{xs:List V} {us:List Value},xs.length=us.length->(∀(j:Nat) x u,xs[j]?=some x->us[j]?=some u->RelV x u)->Vals xs us
 | [],[],_,_=>.nil
 | x::xs,u::us,l,h=>.cons (h 0 x u rfl rfl) (zns (by simpa using l) fun j y v e1 e2=>h (j+1) y v (by simpa using e1) (by simpa using e2))
end
end L2
namespace Q1
section
def fr(t b:Int):Int×Int:=if b<0 then(t / -(Int.gcd t b:Int),b / -(Int.gcd t b:Int)) else(t / (Int.gcd t b:Int),b / (Int.gcd t b:Int))
structure Low(p q:Int):Prop where
 pos:0<q
 cop:Int.gcd p q=1
theorem zgM{t b:Int}(h:b≠0):0<(Int.gcd t b:Int):=by
 have:0<Int.gcd t b:=Int.gcd_pos_of_ne_zero_right _ h
 omega
theorem zw7{t b:Int}:((Int.gcd t b:Nat):Int)∣t:=Int.gcd_dvd_left ..
theorem ztq{t b:Int}:((Int.gcd t b:Nat):Int)∣b:=Int.gcd_dvd_right ..
theorem zgX{t b:Int}(h:b≠0):Int.gcd (t / (Int.gcd t b:Int)) (b / (Int.gcd t b:Int))=1:=by
 have hp:0<Int.gcd t b:=Int.gcd_pos_of_ne_zero_right _ h
 exact Int.gcd_ediv_gcd_ediv_gcd hp
theorem zvk{t b:Int}(h:b≠0):Low (fr t b).1 (fr t b).2:=by
 have hg:=zgM (t:=t) h
 have c:=zgX (t:=t) h
 unfold fr
 split
 ·rename_i hb
  refine⟨?_,?_⟩
  ·show 0<b / -(Int.gcd t b:Int)
   rw [Int.ediv_neg]
   have:=Int.ediv_mul_cancel (ztq (t:=t) (b:=b))
   have h1:b / (Int.gcd t b:Int)<0:=by
    rcases Int.lt_trichotomy (b / (Int.gcd t b:Int)) 0 with z|z|z
    ·exact z
    ·rw [z] at this;omega
    ·have:=Int.mul_pos z hg;omega
   omega
  ·show Int.gcd (t / -(Int.gcd t b:Int)) (b / -(Int.gcd t b:Int))=1
   rw [Int.ediv_neg,Int.ediv_neg,Int.gcd_neg,Int.neg_gcd]
   exact c
 ·rename_i hb
  refine⟨?_,c⟩
  show 0<b / (Int.gcd t b:Int)
  have:=Int.ediv_mul_cancel (ztq (t:=t) (b:=b))
  rcases Int.lt_trichotomy (b / (Int.gcd t b:Int)) 0 with z|z|z
  ·have:=Int.mul_neg_of_neg_of_pos z hg;omega
  ·rw [z] at this;omega
  ·exact z
theorem zw5{t b:Int}(h:b≠0):(fr t b).1*b=t*(fr t b).2:=by
 have e1:=Int.ediv_mul_cancel (zw7 (t:=t) (b:=b))
 have e2:=Int.ediv_mul_cancel (ztq (t:=t) (b:=b))
 have key:t / (Int.gcd t b:Int)*b=t*(b / (Int.gcd t b:Int)):=by
  calc t / (Int.gcd t b:Int)*b=t / (Int.gcd t b:Int)*(b / (Int.gcd t b:Int)*(Int.gcd t b:Int)):=by rw [e2]
   _=t / (Int.gcd t b:Int)*(Int.gcd t b:Int)*(b / (Int.gcd t b:Int)):=by rw [Int.mul_assoc,Int.mul_comm (b / _)]
   _=t*(b / (Int.gcd t b:Int)):=by rw [e1]
 unfold fr
 split
 ·show t / -(Int.gcd t b:Int)*b=t*(b / -(Int.gcd t b:Int))
  rw [Int.ediv_neg,Int.ediv_neg,Int.neg_mul,Int.mul_neg,key]
 ·exact key
theorem zgR{q p r:Int}(h:q∣p*r)(c:Int.gcd p q=1):q∣r:=by
 have h1:q.natAbs∣p.natAbs*r.natAbs:=by
  rw [<- Int.natAbs_mul]
  exact Int.natAbs_dvd_natAbs.mpr h
 have c':Nat.Coprime q.natAbs p.natAbs:=by
  show Nat.gcd q.natAbs p.natAbs=1
  rw [Nat.gcd_comm]
  exact c
 exact Int.natAbs_dvd_natAbs.mp (Nat.Coprime.dvd_of_dvd_mul_left c' h1)
theorem zqF{p q p' q':Int}(a:Low p q)(b:Low p' q')(h:p*q'=p'*q):p=p'/\q=q':=by
 have d1:q∣q':=by
  have:q∣p*q':=⟨p',by rw [h,Int.mul_comm]⟩
  exact zgR this a.cop
 have d2:q'∣q:=by
  have:q'∣p'*q:=⟨p,by rw [<- h,Int.mul_comm]⟩
  exact zgR this b.cop
 have e:q=q':=Int.dvd_antisymm (Int.le_of_lt a.pos) (Int.le_of_lt b.pos) d1 d2
 refine⟨?_,e⟩
 subst e
 exact Int.eq_of_mul_eq_mul_right (Int.ne_of_gt a.pos) h
theorem zvj{t b p q:Int}(hb:b≠0)(l:Low p q)(h:p*b=t*q):fr t b=(p,q):=by
 have e:=zw5 (t:=t) hb
 have l':=zvk (t:=t) hb
 have:(fr t b).1*q=p*(fr t b).2:=by
  have h2:(fr t b).1*q*b=p*(fr t b).2*b:=by
   calc (fr t b).1*q*b=(fr t b).1*b*q:=by rw [Int.mul_assoc,Int.mul_comm q,Int.mul_assoc]
    _=t*(fr t b).2*q:=by rw [e]
    _=t*q*(fr t b).2:=by rw [Int.mul_assoc,Int.mul_comm (fr t b).2,Int.mul_assoc]
    _=p*b*(fr t b).2:=by rw [h]
    _=p*(fr t b).2*b:=by rw [Int.mul_assoc,Int.mul_comm b,Int.mul_assoc]
  exact Int.eq_of_mul_eq_mul_right hb h2
 obtain⟨a1,a2⟩:=zqF l' l this
 exact Prod.ext a1 a2
theorem zrS{t b:Int}(h:0<b):fr t b=(t / (Int.gcd t b:Int),b / (Int.gcd t b:Int)):=by
 unfold fr
 rw [if_neg (by omega)]
end
section
theorem Low.ne{p q:Int}(l:Low p q):q≠0:=Int.ne_of_gt l.pos
theorem gcd_one{a b:Int}(h:∀ d:Int,d∣a->d∣b->d∣1):Int.gcd a b=1:=by
 have:=h (Int.gcd a b:Int) (Int.gcd_dvd_left ..) (Int.gcd_dvd_right ..)
 have h2:(Int.gcd a b)∣1:=by
  have:=Int.natAbs_dvd_natAbs.mpr this
  simpa using this
 exact Nat.dvd_one.mp h2
theorem dvd_one{a b d:Int}(h:Int.gcd a b=1)(h1:d∣a)(h2:d∣b):d∣1:=by
 have:=Int.dvd_coe_gcd h1 h2
 rw [h] at this
 exact this
theorem zgN{a b:Int}(h:Int.gcd a b=1):Int.gcd b a=1:=by rw [Int.gcd_comm];exact h
theorem gcd_mul{a b c:Int}(h1:Int.gcd a b=1)(h2:Int.gcd a c=1):Int.gcd a (b*c)=1:=by
 refine gcd_one fun d da db=>?_
 have c1:Int.gcd b d=1:=gcd_one fun e e1 e2=>dvd_one h1 (Int.dvd_trans e2 da) e1
 exact dvd_one h2 da (zgR db c1)
theorem zmh{a b a' b':Int}(h:Int.gcd a b=1)(h1:a'∣a)(h2:b'∣b):Int.gcd a' b'=1 :=
 gcd_one fun d da db=>dvd_one h (Int.dvd_trans da h1) (Int.dvd_trans db h2)
theorem zgg{a b:Int}(h:b∣a):a / b∣a:=by
 obtain⟨c,rfl⟩:=h
 by_cases z:b=0
 ·subst z;simp
 ·rw [Int.mul_ediv_cancel_left _ z];exact⟨b,Int.mul_comm _ _⟩
theorem zcV{a b:Int}(h:0<a*b)(hb:0<b):0<a:=by
 rcases Int.lt_trichotomy a 0 with z|z|z
 ·have:=Int.mul_neg_of_neg_of_pos z hb;omega
 ·subst z;simp at h
 ·exact z
def zmJ(p q r s:Int):Int×Int :=
 let g:=(Int.gcd q s:Int)
 let top:=p*(s / g)+r*(q / g)
 let e:=(Int.gcd top g:Int)
 (top / e,q / g*(s / e))
def zlG(p q r s:Int):Int×Int :=
 (p / (Int.gcd p s:Int)*(r / (Int.gcd r q:Int)),q / (Int.gcd r q:Int)*(s / (Int.gcd p s:Int)))
theorem zn6{p q r s g m t e top T G:Int}(l1:Low p q)(l2:Low r s)(g0:0<g)(e0:0<e)(hq:q=m*g)(hs:s=t*g)(hmt:Int.gcd m t=1)
  (ht:top=p*t+r*m)(hT:top=T*e)(hG:g=G*e)(hTG:Int.gcd T G=1):Low T (m*(t*G))/\T*(q*s)=(p*s+r*q)*(m*(t*G)):=by
 have hm:0<m:=zcV (by rw [<- hq];exact l1.pos) g0
 have htt:0<t:=zcV (by rw [<- hs];exact l2.pos) g0
 have hGG:0<G:=zcV (by rw [<- hG];exact g0) e0
 refine⟨⟨Int.mul_pos hm (Int.mul_pos htt hGG),?_⟩,?_⟩
 ·have dT:T∣top:=⟨e,hT⟩
  have c1:Int.gcd T m=1:=by
   refine gcd_one fun d da db=>?_
   have h1:d∣p*t:=by
    have h2:d∣p*t+r*m:=by rw [<- ht];exact Int.dvd_trans da dT
    exact(Int.dvd_add_left (Int.dvd_mul_of_dvd_right db)).mp h2
   have h3:Int.gcd p d=1:=zmh l1.cop (Int.dvd_refl _) (by rw [hq];exact Int.dvd_trans db (Int.dvd_mul_right ..))
   exact dvd_one hmt db (zgR h1 h3)
  have c2:Int.gcd T t=1:=by
   refine gcd_one fun d da db=>?_
   have h1:d∣r*m:=by
    have h2:d∣p*t+r*m:=by rw [<- ht];exact Int.dvd_trans da dT
    exact(Int.dvd_add_right (Int.dvd_mul_of_dvd_right db)).mp h2
   have h3:Int.gcd r d=1:=zmh l2.cop (Int.dvd_refl _) (by rw [hs];exact Int.dvd_trans db (Int.dvd_mul_right ..))
   exact dvd_one hmt (zgR h1 h3) db
  exact gcd_mul c1 (gcd_mul c2 hTG)
 ·have k1:p*s+r*q=top*g:=by
   rw [hq,hs,ht,Int.add_mul,Int.mul_assoc,Int.mul_assoc]
  rw [k1,hT,hq,hs]
  rw [show m*g*(t*g)=m*(t*G)*(e*g) by rw [show t*g=t*(G*e) by rw [hG]];ac_rfl]
  ac_rfl
theorem zsP{p q r s:Int}(l1:Low p q)(l2:Low r s):zmJ p q r s=fr (p*s+r*q) (q*s):=by
 have g0:0<(Int.gcd q s:Int):=zgM l2.ne
 have d1:(Int.gcd q s:Int)∣q:=Int.gcd_dvd_left ..
 have d2:(Int.gcd q s:Int)∣s:=Int.gcd_dvd_right ..
 have e0:0<(Int.gcd (p*(s / (Int.gcd q s:Int))+r*(q / (Int.gcd q s:Int))) (Int.gcd q s:Int):Int):=zgM (Int.ne_of_gt g0)
 have d3:=Int.gcd_dvd_left (a:=p*(s / (Int.gcd q s:Int))+r*(q / (Int.gcd q s:Int))) (b:=(Int.gcd q s:Int))
 have d4:=Int.gcd_dvd_right (a:=p*(s / (Int.gcd q s:Int))+r*(q / (Int.gcd q s:Int))) (b:=(Int.gcd q s:Int))
 have core:=zn6 l1 l2 g0 e0 (Int.ediv_mul_cancel d1).symm (Int.ediv_mul_cancel d2).symm (zgX l2.ne) rfl (Int.ediv_mul_cancel d3).symm (Int.ediv_mul_cancel d4).symm (zgX (Int.ne_of_gt g0))
 have e:zmJ p q r s=(_,_):=rfl
 have hs:s / (Int.gcd (p*(s / (Int.gcd q s:Int))+r*(q / (Int.gcd q s:Int))) (Int.gcd q s:Int):Int)=s / (Int.gcd q s:Int)*((Int.gcd q s:Int) / (Int.gcd (p*(s / (Int.gcd q s:Int))+r*(q / (Int.gcd q s:Int))) (Int.gcd q s:Int):Int)):=by
  refine Int.ediv_eq_of_eq_mul_left (Int.ne_of_gt e0) ?_
  rw [Int.mul_assoc,Int.ediv_mul_cancel d4,Int.ediv_mul_cancel d2]
 symm
 refine zvj (Int.ne_of_gt (Int.mul_pos l1.pos l2.pos)) (p:=(zmJ p q r s).1) (q:=(zmJ p q r s).2) ?_ ?_
 ·have:(zmJ p q r s).2=_:=rfl
  rw [this]
  show Low _ (q / (Int.gcd q s:Int)*(s / _))
  rw [hs]
  exact core.1
 ·show _*(q*s)=_*(q / (Int.gcd q s:Int)*(s / _))
  rw [hs]
  exact core.2
theorem zil{p q r s:Int}(l1:Low p q)(l2:Low r s):zlG p q r s=fr (p*r) (q*s):=by
 have m0:0<(Int.gcd p s:Int):=zgM l2.ne
 have i0:0<(Int.gcd r q:Int):=zgM l1.ne
 have a1:(Int.gcd p s:Int)∣p:=Int.gcd_dvd_left ..
 have a2:(Int.gcd p s:Int)∣s:=Int.gcd_dvd_right ..
 have b1:(Int.gcd r q:Int)∣r:=Int.gcd_dvd_left ..
 have b2:(Int.gcd r q:Int)∣q:=Int.gcd_dvd_right ..
 symm
 refine zvj (Int.ne_of_gt (Int.mul_pos l1.pos l2.pos)) (p:=(zlG p q r s).1) (q:=(zlG p q r s).2) ⟨?_,?_⟩ ?_
 ·refine Int.mul_pos ?_ ?_
  ·exact zcV (by rw [Int.ediv_mul_cancel b2];exact l1.pos) i0
  ·exact zcV (by rw [Int.ediv_mul_cancel a2];exact l2.pos) m0
 ·show Int.gcd (p / _*(r / _)) (q / _*(s / _))=1
  have x1:Int.gcd (p / (Int.gcd p s:Int)) (q / (Int.gcd r q:Int))=1:=zmh l1.cop (zgg a1) (zgg b2)
  have x2:Int.gcd (p / (Int.gcd p s:Int)) (s / (Int.gcd p s:Int))=1:=zgX l2.ne
  have x3:Int.gcd (r / (Int.gcd r q:Int)) (q / (Int.gcd r q:Int))=1:=zgX l1.ne
  have x4:Int.gcd (r / (Int.gcd r q:Int)) (s / (Int.gcd p s:Int))=1:=zmh l2.cop (zgg b1) (zgg a2)
  exact zgN (gcd_mul (zgN (gcd_mul x1 x2)) (zgN (gcd_mul x3 x4)))
 ·show p / (Int.gcd p s:Int)*(r / (Int.gcd r q:Int))*(q*s)=p*r*(q / (Int.gcd r q:Int)*(s / (Int.gcd p s:Int)))
  have y1:=Int.ediv_mul_cancel a1
  have y2:=Int.ediv_mul_cancel a2
  have y3:=Int.ediv_mul_cancel b1
  have y4:=Int.ediv_mul_cancel b2
  generalize (Int.gcd p s:Int)=m at *
  generalize (Int.gcd r q:Int)=i at *
  generalize p / m=P at *
  generalize s / m=S at *
  generalize r / i=R at *
  generalize q / i=Q at *
  rw [<- y1,<- y2,<- y3,<- y4]
  ac_rfl
end
end Q1
namespace QR
open Q1
theorem low(r:Rat):Low r.num r.den:=⟨by have:=r.den_nz;omega,by
 have:=r.reduced
 unfold Nat.Coprime at this
 show Nat.gcd r.num.natAbs (r.den:Int).natAbs=1
 simpa using this⟩
theorem zyt(t:Int)(d:Nat):(Int.gcd t (d:Int))=Nat.gcd t.natAbs d:=by
 show Nat.gcd t.natAbs (d:Int).natAbs=_
 simp
theorem norm{t:Int}{d:Nat}(h:d≠0):fr t (d:Int)=((Rat.normalize t d h).num,((Rat.normalize t d h).den:Int)):=by
 rw [zrS (by omega),Rat.normalize_eq,zyt]
 simp
theorem add(r s:Rat):fr (r.num*s.den+s.num*r.den) ((r.den:Int)*s.den)=((r+s).num,((r+s).den:Int)):=by
 rw [Rat.add_def,<- norm]
 congr 1
theorem mul(r s:Rat):fr (r.num*s.num) ((r.den:Int)*s.den)=((r*s).num,((r*s).den:Int)):=by
 rw [Rat.mul_def,<- norm]
 congr 1
def Bd(n:Nat)(r:Rat):Prop:=r.num.natAbs<2^n/\r.den<2^n
theorem Bd.mono{n m:Nat}{r:Rat}(h:Bd n r)(k:n<=m):Bd m r:=⟨Nat.lt_of_lt_of_le h.1 (Nat.pow_le_pow_right (by decide) k),Nat.lt_of_lt_of_le h.2 (Nat.pow_le_pow_right (by decide) k)⟩
theorem zvl(t b:Int):(fr t b).1.natAbs<=t.natAbs/\(fr t b).2.natAbs<=b.natAbs:=by
 unfold fr
 split
 ·exact⟨Int.natAbs_ediv_le_natAbs _ _,Int.natAbs_ediv_le_natAbs _ _⟩
 ·exact⟨Int.natAbs_ediv_le_natAbs _ _,Int.natAbs_ediv_le_natAbs _ _⟩
theorem zl5{a b n m:Nat}(h1:a<2^n)(h2:b<2^m):a*b<2^(n+m):=by
 rw [Nat.pow_add]
 exact Nat.mul_lt_mul'' h1 h2
theorem Bd.mul{n m:Nat}{r s:Rat}(h:Bd n r)(k:Bd m s):Bd (n+m) (r*s):=by
 have e:=QR.mul r s
 have l:=zvl (r.num*s.num) ((r.den:Int)*s.den)
 rw [e] at l
 simp only at l
 refine⟨?_,?_⟩
 ·refine Nat.lt_of_le_of_lt l.1 ?_
  rw [Int.natAbs_mul]
  exact zl5 h.1 k.1
 ·have:=l.2
  rw [Int.natAbs_mul,Int.natAbs_natCast,Int.natAbs_natCast,Int.natAbs_natCast] at this
  exact Nat.lt_of_le_of_lt this (zl5 h.2 k.2)
theorem Bd.zero(n:Nat):Bd (n+1) 0:=by
 refine⟨?_,?_⟩
 ·show(0:Nat)<2^(n+1)
  exact Nat.pos_of_ne_zero (by simp)
 ·show(1:Nat)<2^(n+1)
  exact Nat.one_lt_two_pow (by omega)
def part(xs ys:List Rat):Nat->Rat
 | 0=>0
 | i+1=>part xs ys i+xs.getD i 0*ys.getD i 0
end QR
namespace KC
open PySem L2 PySem.Spec PyProof.Rows
section
namespace Bt
theorem isinstance:bootBuiltins "isinstance"=some (.builtin "isinstance"):=by decide +kernel
end Bt
def isInt:PyData->Bool
 | .int _ | .bool _=>true|_=>false
def zf2(T c:String):Option Bool:=if(Value.type T==Value.type c)=true then some true else if PySem.W.kitMeta c=true then(fastBuiltinMro T).map (·.contains (.type c)) else none
def Sz(n:Int):Prop:=n.natAbs<2^4000
end
section
end
section
end
end KC
namespace FL
theorem zz0 {α:Type} {a:α} {l:List α}:(a::l)[0]?=some a:=rfl
theorem zz1 {α:Type} {a:α} {l:List α} {i:Nat}:(a::l)[i + 1]?=l[i]?:=rfl
open PySem
abbrev D:=PyData
inductive R(α:Type) where
 | bad
 | err(c:String)(fs:List D)
 | ok(a:α)
def R.bind{α β:Type}(r:R α)(k:α->R β):R β:=match r with
 | .bad=>.bad
 | .err c f=>.err c f
 | .ok a=>k a
theorem zac{α β:Type}(a:α)(k:α->R β):(R.ok a).bind k=k a:=rfl
theorem zmv{α β:Type}(k:α->R β):(R.bad:R α).bind k=.bad:=rfl
theorem zmu{α β:Type}(c:String)(f:List D)(k:α->R β):(R.err c f:R α).bind k=.err c f:=rfl
def chk{α:Type}(c:Bool)(r:R α):R α:=if c=true then r else .bad
theorem zav{α:Type}{c:Bool}{r:R α}(h:c=true):chk c r=r:=if_pos h
inductive Sl where
 | no
 | val(d:D)
 | ow(p:Bool)(d:D)
 /-- a thing of an own class,which stays: its class,its fields -/
 | ob (c:String) (ds:List D)
abbrev En:=List Sl
inductive Fl where
 | nx|bk|ct
 | rt(d:D)
 | rf(d:D)
abbrev EF:=En->R (D×En)
abbrev TF:=En->R (Bool×En)
abbrev AF:=En->R (List D×En)
abbrev SF:=En->R (Fl×En)
abbrev GF:=D->En->R En
def tyOf:D->String
 | .none=>"NoneType" | .bool _=>"bool" | .int _=>"int" | .str _=>"str" | .list _=>"list" | .tuple _=>"tuple" | .dict _=>"dict"
def isI(T:String)(d:D):Bool:=match d with
 | .bool _=>T == "bool" || T == "int"
 | d=>tyOf d==T
def lim:Nat:=1000000
def intsOf:List D->Option (List Int)
 | []=>some []
 | .int i::r=>(intsOf r).map (i::·)
 | _::_=>none
def boolsOf:List D->Option (List Bool)
 | []=>some []
 | .bool i::r=>(boolsOf r).map (i::·)
 | _::_=>none
def R.of{α:Type}:Option α->R α
 | none=>.bad
 | some a=>.ok a
def leB(a b:Nat):Bool:=Nat.ble a b
theorem leB_iff{a b:Nat}:leB a b=true↔a<=b:=Iff.of_eq Nat.ble_eq
theorem zeU{a b:Nat}(h:a<=b):leB a b=true:=leB_iff.mpr h
theorem ziM{a b:Nat}(h:leB a b=true):a<=b:=leB_iff.mp h
def zot(i j:Int):Bool:=leB (i.natAbs.log2+j.natAbs.log2+2) 134217728
def zaV:D->D->R D
 | .int i,.int j=>.ok (.int (i+j))
 | .list a,.list b=>chk (leB (a.length+b.length) lim) (.ok (.list (a++b)))
 | .tuple a,.tuple b=>chk (leB (a.length+b.length) lim) (.ok (.tuple (a++b)))
 | _,_=>.bad
def zhr:D->D->R D
 | .int i,.int j=>.ok (.int (i-j))
 | _,_=>.bad
def zbS:D->D->R D
 | .int i,.int j=>chk (zot i j) (.ok (.int (i*j)))
 | .tuple a,.int k=>chk (!a.isEmpty&&leB 2 k.toNat&&leB k.toNat 1000000&&leB (a.length*k.toNat) lim) (.ok (.tuple (List.replicate k.toNat a).flatten))
 | _,_=>.bad
def zaG:D->D->R D
 | .int i,.int j=>chk (decide (j≠0)) (.ok (.int (i.fdiv j)))
 | _,_=>.bad
def zgd:D->D->R D
 | .int i,.int j=>chk (decide (j≠0)) (.ok (.int (i.fmod j)))
 | _,_=>.bad
def zhI:D->D->R D
 | .int i,.int j=>chk (decide (0<=j)&&leB j.toNat 1000000&&leB i.natAbs 18446744073709551615) (.ok (.int (i^j.toNat)))
 | _,_=>.bad
def zrE:D->R D
 | .int i=>.ok (.int (-i))
 | _=>.bad
def eqD(a b:D):R D:=chk (SeqAt.shaped a&&SeqAt.shaped b) (.ok (.bool (PyData.eqv a b)))
def neD(a b:D):R D:=chk (SeqAt.shaped a&&SeqAt.shaped b) (.ok (.bool (!PyData.eqv a b)))
def lexLt:List Int->List Int->Bool
 | [],[]=>false
 | [],_::_=>true
 | _::_,[]=>false
 | x::xs,y::ys=>if x=y then lexLt xs ys else decide (x<y)
def zxI(p:Int->Int->Bool)(q:List Int->List Int->Bool):D->D->R D
 | .int i,.int j=>.ok (.bool (p i j))
 | .tuple a,.tuple b=>(R.of (intsOf a)).bind fun x=>(R.of (intsOf b)).bind fun y=>.ok (.bool (q x y))
 | _,_=>.bad
def ltD:D->D->R D:=zxI (fun i j=>decide (i<j)) lexLt
def zvZ(p:Int->Int->Bool):D->D->R D
 | .int i,.int j=>.ok (.bool (p i j))
 | _,_=>.bad
def leD:D->D->R D:=zvZ fun i j=>decide (i<=j)
def gtD:D->D->R D:=zvZ fun i j=>decide (j<i)
def geD:D->D->R D:=zvZ fun i j=>decide (j<=i)
def zyr:D->R D
 | .none=>.ok (.bool true)
 | _=>.ok (.bool false)
def isD(a b:D):R D:=match b with
 | .none=>zyr a
 | _=>.bad
def ixN(n:Nat)(i:Int):Option Nat:=if 0<=i then(if i<n then some i.toNat else none) else if -(n:Int)<=i then some (i+n).toNat else none
def atI{α:Type}(xs:List α)(i:Int):Option α:=(ixN xs.length i).bind fun j=>xs[j]?
def ixD:D->D->R D
 | .list a,.int i=>R.of (atI a i)
 | .tuple a,.int i=>R.of (atI a i)
 | _,_=>.bad
def sIx(n d:Nat):Option Int->Nat
 | none=>d
 | some v=>if v<0 then(v+(n:Int)).toNat else min v.toNat n
def cut{α:Type}(xs:List α)(lo hi:Option Int):List α:=(xs.drop (sIx xs.length 0 lo)).take (sIx xs.length xs.length hi-sIx xs.length 0 lo)
def zhF(d:D)(lo hi:Option Int):R D:=match d with
 | .list a=>.ok (.list (cut a lo hi))
 | .tuple a=>.ok (.tuple (cut a lo hi))
 | _=>.bad
def zkJ:D->R Bool
 | .none=>.ok false
 | .bool b=>.ok b
 | .int i=>.ok (i != 0)
 | .list a=>.ok (!a.isEmpty)
 | .tuple a=>.ok (!a.isEmpty)
 | _=>.bad
def zdg:D->R D
 | .list a=>.ok (.int a.length)
 | .tuple a=>.ok (.int a.length)
 | _=>.bad
def zpA:D->R D
 | .int i=>.ok (.int (if i<0 then -i else i))
 | _=>.bad
def zv1:D->R D
 | .list a=>(R.of (boolsOf a)).bind fun x=>.ok (.bool (x.all id))
 | _=>.bad
def ziI:D->R D
 | .list a=>.ok (.list a)
 | .tuple a=>.ok (.list a)
 | _=>.bad
def zjt:D->R D
 | .list a=>.ok (.tuple a)
 | .tuple a=>.ok (.tuple a)
 | _=>.bad
def zxp(d:D):Bool:=match d with
 | .dict _=>false
 | _=>true
def zdK(T:String)(d:D):R D:=chk (zxp d) (.ok (.bool (isI T d)))
def one(g:D->R D):List D->R D
 | [d]=>g d
 | _=>.bad
def two(g:D->D->R D):List D->R D
 | [d,e]=>g d e
 | _=>.bad
def zhR:D->R (List D)
 | .list a=>.ok a
 | .tuple a=>.ok a
 | _=>.bad
def rng(lo hi:Int):List D:=(List.range (hi-lo).toNat).map fun(i:Nat)=>.int (lo+(i:Int))
def zit(i:Int):Bool:=leB i.natAbs 1000000000
def zdG:List D->R (List D)
 | [.int j]=>chk (zit j&&leB j.toNat lim) (.ok (rng 0 j))
 | _=>.bad
def zkR:List D->R (List D)
 | [.int i,.int j]=>chk (zit i&&zit j&&leB (j-i).toNat lim) (.ok (rng i j))
 | _=>.bad
def eC(d:D):EF:=fun ρ=>.ok (d,ρ)
def eV(i:Nat):EF:=fun ρ=>match ρ[i]? with
 | some (.val d)=>.ok (d,ρ)
 | _=>.bad
def e1(g:D->R D)(f:EF):EF:=fun ρ=>(f ρ).bind fun x=>(g x.1).bind fun d=>.ok (d,x.2)
def e2(g:D->D->R D)(f h:EF):EF:=fun ρ=>(f ρ).bind fun x=>(h x.2).bind fun y=>(g x.1 y.1).bind fun d=>.ok (d,y.2)
def zm4(f h:EF):EF:=fun ρ=>(f ρ).bind fun x=>match x.1 with
 | .bool true=>h x.2
 | .bool false=>.ok (.bool false,x.2)
 | _=>.bad
def eOr(f h:EF):EF:=fun ρ=>(f ρ).bind fun x=>match x.1 with
 | .bool true=>.ok (.bool true,x.2)
 | .bool false=>h x.2
 | _=>.bad
def zvs(f:EF):EF:=fun ρ=>(f ρ).bind fun x=>match x.1 with
 | .bool b=>.ok (.bool (!b),x.2)
 | _=>.bad
def eIf(t:TF)(f h:EF):EF:=fun ρ=>(t ρ).bind fun c=>if c.1=true then f c.2 else h c.2
def ze1(g h:D->D->R D)(f1 f2 f3:EF):EF:=fun ρ=>(f1 ρ).bind fun x=>(f2 x.2).bind fun y=>(g x.1 y.1).bind fun c=>match c with
 | .bool true=>(f3 y.2).bind fun z=>(h y.1 z.1).bind fun d=>.ok (d,z.2)
 | .bool false=>.ok (.bool false,y.2)
 | _=>.bad
def zah:AF:=fun ρ=>.ok ([],ρ)
def zaa(f:EF)(a:AF):AF:=fun ρ=>(f ρ).bind fun x=>(a x.2).bind fun y=>.ok (x.1::y.1,y.2)
def zaP(a:AF):EF:=fun ρ=>(a ρ).bind fun x=>chk (leB x.1.length lim) (.ok (.tuple x.1,x.2))
def zcR(a:AF):EF:=fun ρ=>(a ρ).bind fun x=>chk (leB x.1.length lim) (.ok (.list x.1,x.2))
def zag(G:List D->R D)(a:AF):EF:=fun ρ=>(a ρ).bind fun x=>(G x.1).bind fun d=>.ok (d,x.2)
abbrev OF:=En->R (Option Int×En)
def zmN:OF:=fun ρ=>.ok (none,ρ)
def zmM(f:EF):OF:=fun ρ=>(f ρ).bind fun x=>match x.1 with
 | .int i=>.ok (some i,x.2)
 | _=>.bad
def eSl(f:EF)(lo hi:OF):EF:=fun ρ=>(f ρ).bind fun x=>(lo x.2).bind fun l=>(hi l.2).bind fun u=>(zhF x.1 l.1 u.1).bind fun d=>.ok (d,u.2)
def zaw(ρ:En)(i:Nat):R D:=match ρ[i]? with
 | some (.ow _ d)=>.ok d
 | _=>.bad
def zfl(ρ:En)(i:Nat):R (List D):=match ρ[i]? with
 | some (.ow _ (.list a))=>.ok a
 | _=>.bad
def m1(g:D->R D)(i:Nat):EF:=fun ρ=>(zaw ρ i).bind fun c=>(g c).bind fun d=>.ok (d,ρ)
def m2(g:D->D->R D)(i:Nat)(h:EF):EF:=fun ρ=>(zaw ρ i).bind fun _=>(h ρ).bind fun y=>(zaw y.2 i).bind fun c=>(g c y.1).bind fun d=>.ok (d,y.2)
def m2r(g:D->D->R D)(f:EF)(i:Nat):EF:=fun ρ=>(f ρ).bind fun x=>(zaw x.2 i).bind fun c=>(g x.1 c).bind fun d=>.ok (d,x.2)
def m2m(g:D->D->R D)(i j:Nat):EF:=fun ρ=>(zaw ρ i).bind fun c=>(zaw ρ j).bind fun e=>(g c e).bind fun d=>.ok (d,ρ)
def mSl(i:Nat)(lo hi:OF):EF:=fun ρ=>(zaw ρ i).bind fun _=>(lo ρ).bind fun l=>(hi l.2).bind fun u=>(zaw u.2 i).bind fun c=>(zhF c l.1 u.1).bind fun d=>.ok (d,u.2)
def zuW(g:D->D->R D)(i:Nat)(h:EF):EF:=fun ρ=>(zaw ρ i).bind fun _=>(h ρ).bind fun y=>(zaw y.2 i).bind fun c=>(g (.list [c]) y.1).bind fun d=>.ok (d,y.2)
inductive Ar where
 | v(f:EF)
 | m(i:Nat)
 | t(f:EF)
inductive Itm where
 | vd(d:D)
 | mi(i:Nat)
 | td(d:D)
def zjm:List Ar->En->R (List Itm×En)
 | [],ρ=>.ok ([],ρ)
 | .v f::r,ρ=>(f ρ).bind fun x=>(zjm r x.2).bind fun y=>.ok (.vd x.1::y.1,y.2)
 | .m i::r,ρ=>(zaw ρ i).bind fun _=>(zjm r ρ).bind fun y=>.ok (.mi i::y.1,y.2)
 | .t f::r,ρ=>(f ρ).bind fun x=>(zjm r x.2).bind fun y=>.ok (.td x.1::y.1,y.2)
def zhz(ρ:En):List Itm->R (List D)
 | []=>.ok []
 | .vd d::r=>(zhz ρ r).bind fun ds=>.ok (d::ds)
 | .mi i::r=>(zaw ρ i).bind fun d=>(zhz ρ r).bind fun ds=>.ok (d::ds)
 | .td d::r=>(zhz ρ r).bind fun ds=>.ok (d::ds)
def za4(ρ:En)(i:Nat)(d:D):En:=match ρ[i]? with
 | some (.ow p _)=>ρ.set i (.ow p d)
 | _=>ρ
def zhc:List Itm->List D->List (Nat×Sl)
 | .mi i::r,d::ds=>(i,.ow true d)::zhc r ds
 | .vd _::r,_::ds=>zhc r ds
 | .td _::r,_::ds=>zhc r ds
 | _,_=>[]
def bk1(m:List (Nat×Sl))(i:Nat)(x:Sl):Sl:=match x,m.lookup i with
 | .ow p _,some (.ow _ d)=>.ow p d
 | x,_=>x
def bkL(m:List (Nat×Sl)):Nat->En->En
 | _,[]=>[]
 | n,x::r=>bk1 m n x::bkL m (n+1) r
def zhd(ρ:En)(a:List Itm)(os:List D):En:=bkL (zhc a os) 0 ρ
def zao(F:List D->R (D×List D))(a:List Ar):EF:=fun ρ=>(zjm a ρ).bind fun x=>(zhz x.2 x.1).bind fun ds=>(F ds).bind fun y=>.ok (y.1,zhd x.2 x.1 y.2)
def tE(f:EF):TF:=fun ρ=>(f ρ).bind fun x=>(zkJ x.1).bind fun b=>.ok (b,x.2)
def tB(f:EF):TF:=fun ρ=>(f ρ).bind fun x=>match x.1 with
 | .bool b=>.ok (b,x.2)
 | _=>.bad
def zwd(t u:TF):TF:=fun ρ=>(t ρ).bind fun c=>if c.1=true then u c.2 else .ok (false,c.2)
def tOr(t u:TF):TF:=fun ρ=>(t ρ).bind fun c=>if c.1=true then .ok (true,c.2) else u c.2
def zen(t:TF):TF:=fun ρ=>(t ρ).bind fun c=>.ok (!c.1,c.2)
def tM(i:Nat):TF:=fun ρ=>(zaw ρ i).bind fun c=>(zkJ c).bind fun b=>.ok (b,ρ)
def zc8:TF:=fun ρ=>.ok (true,ρ)
abbrev IF:=En->R (List D×En)
def iE(f:EF):IF:=fun ρ=>(f ρ).bind fun x=>(zhR x.1).bind fun l=>.ok (l,x.2)
def iR1(a:AF):IF:=fun ρ=>(a ρ).bind fun x=>(zdG x.1).bind fun l=>.ok (l,x.2)
def iR2(a:AF):IF:=fun ρ=>(a ρ).bind fun x=>(zkR x.1).bind fun l=>.ok (l,x.2)
def zf5:Nat->List D->List D
 | _,[]=>[]
 | n,d::r=>.tuple [.int n,d]::zf5 (n+1) r
def gN(i:Nat):GF:=fun d ρ=>match ρ[i]? with
 | some (.ow true _)=>.bad
 | some _=>.ok (ρ.set i (.val d))
 | none=>.bad
def zqX:List GF->List D->En->R En
 | [],[],ρ=>.ok ρ
 | g::r,d::ds,ρ=>(g d ρ).bind fun ρ1=>zqX r ds ρ1
 | _,_,_=>.bad
def gT(gs:List GF):GF:=fun d ρ=>match d with
 | .tuple ds=>zqX gs ds ρ
 | _=>.bad
def blk(k:Nat)(ix:List Nat)(ρ:En):En:=List.replicate k .no++ix.map fun i=>(ρ[i]?).getD .no
def back(ρ:En)(ix:List Nat)(cs:En):En:=bkL (ix.zip cs) 0 ρ
def zgZ(k:Nat)(ix:List Nat)(g:GF)(t:TF)(f:EF):List D->En->List D->R (List D×En)
 | [],ρ,acc=>.ok (acc,ρ)
 | x::xs,ρ,acc=>(g x (blk k ix ρ)).bind fun β=>(t β).bind fun c =>
   if c.1=true then(f c.2).bind fun y=>chk (leB (acc.length+1) lim) (zgZ k ix g t f xs (back ρ ix (y.2.drop k)) (acc++[y.1]))
   else zgZ k ix g t f xs (back ρ ix (c.2.drop k)) acc
def zdm(k:Nat)(ix:List Nat)(it:IF)(g:GF)(t:TF)(f:EF):EF:=fun ρ=>(it ρ).bind fun x=>(zgZ k ix g t f x.1 x.2 []).bind fun y=>.ok (.list y.1,y.2)
def sNx:SF:=fun ρ=>.ok (.nx,ρ)
def zat(s t:SF):SF:=fun ρ=>(s ρ).bind fun x=>match x.1 with
 | .nx=>t x.2
 | _=>.ok x
def sE(f:EF):SF:=fun ρ=>(f ρ).bind fun x=>.ok (.nx,x.2)
def zaL(g:GF)(f:EF):SF:=fun ρ=>(f ρ).bind fun x=>(g x.1 x.2).bind fun ρ1=>.ok (.nx,ρ1)
def zdE(i:Nat)(f:EF):SF:=fun ρ=>(f ρ).bind fun x=>match x.2[i]? with
 | some (.ow true _)=>.bad
 | some _=>.ok (.nx,x.2.set i (.ow false x.1))
 | none=>.bad
def zir(i:Nat)(s:SF):SF:=fun ρ=>(s ρ).bind fun x=>match x.1 with
 | .nx=>(match x.2[i]? with
  | some (.ow false d)=>.ok (.nx,x.2.set i (.val d))
  | _=>.bad)
 | _=>.ok x
def zgr(i j:Nat)(f h:EF):SF:=fun ρ=>(f ρ).bind fun x=>(h x.2).bind fun y=>(gN i x.1 y.2).bind fun ρ1=>(gN j y.1 ρ1).bind fun ρ2=>.ok (.nx,ρ2)
def zxH(f n:EF):EF:=fun ρ=>(f ρ).bind fun x=>(n x.2).bind fun y=>match y.1 with
 | .int k=>chk (decide (0<=k)&&leB k.toNat 1000000) (.ok (.list (List.replicate k.toNat x.1),y.2))
 | _=>.bad
def zkP(i:Nat)(s:SF):SF:=fun ρ=>match ρ[i]? with
 | some (.ow false d)=>s (ρ.set i (.val d))
 | _=>.bad
def zaD(f:EF):SF:=fun ρ=>(f ρ).bind fun x=>.ok (.rt x.1,x.2)
def zbc(f:EF):SF:=fun ρ=>(f ρ).bind fun x=>.ok (.rf x.1,x.2)
def zjx(i:Nat):SF:=fun ρ=>match ρ[i]? with
 | some (.ow false d)=>.ok (.rf d,ρ)
 | _=>.bad
def zt4:SF:=fun ρ=>.ok (.rt .none,ρ)
def sIf(t:TF)(a b:SF):SF:=fun ρ=>(t ρ).bind fun c=>if c.1=true then a c.2 else b c.2
def znL:SF:=fun _=>.bad
def zxr:SF:=fun ρ=>.ok (.bk,ρ)
def zxq:SF:=fun ρ=>.ok (.ct,ρ)
def forL(g:GF)(b:SF):List D->En->R (Fl×En)
 | [],ρ=>.ok (.nx,ρ)
 | x::xs,ρ=>(g x ρ).bind fun ρ1=>(b ρ1).bind fun y=>match y.1 with
  | .nx | .ct=>forL g b xs y.2
  | .bk=>.ok (.nx,y.2)
  | .rt d=>.ok (.rt d,y.2)
  | .rf d=>.ok (.rf d,y.2)
def zep(it:IF)(g:GF)(b:SF):SF:=fun ρ=>(it ρ).bind fun x=>forL g b x.1 x.2
def zgn(t:TF)(b:SF):Nat->En->R (Fl×En)
 | 0,_=>.bad
 | n+1,ρ=>(t ρ).bind fun c=>if c.1=true then(b c.2).bind fun y=>match y.1 with
   | .nx | .ct=>zgn t b n y.2
   | .bk=>.ok (.nx,y.2)
   | .rt d=>.ok (.rt d,y.2)
   | .rf d=>.ok (.rf d,y.2)
  else .ok (.nx,c.2)
def zgq(fuel:En->Nat)(t:TF)(b:SF):SF:=fun ρ=>zgn t b (fuel ρ) ρ
def zxo(i:Nat)(u:List D->D->R (List D))(f:EF):SF:=fun ρ=>(zfl ρ i).bind fun _=>(f ρ).bind fun x=>(zfl x.2 i).bind fun c=>(u c x.1).bind fun c'=>.ok (.nx,za4 x.2 i (.list c'))
def zxK(a:List D)(d:D):R (List D):=chk (leB (a.length+1) lim) (.ok (a++[d]))
def ztQ(i:Nat)(u:List D->R (List D)):SF:=fun ρ=>(zfl ρ i).bind fun c=>(u c).bind fun c'=>.ok (.nx,za4 ρ i (.list c'))
def setM(i:Nat)(f k:EF):SF:=fun ρ=>(f ρ).bind fun x=>(zfl x.2 i).bind fun _=>(k x.2).bind fun y=>(zfl y.2 i).bind fun c=>match y.1 with
 | .int j=>(R.of (ixN c.length j)).bind fun n=>.ok (.nx,za4 y.2 i (.list (c.set n x.1)))
 | _=>.bad
def slots:List Bool->List D->En
 | m::ms,d::ds=>(if m=true then .ow true d else .val d)::slots ms ds
 | _,_=>[]
def outD(m:Bool)(d:D)(x:Option Sl):D:=match m,x with
 | true,some (.ow _ d')=>d'
 | _,_=>d
def outs:List Bool->List D->En->List D
 | m::ms,d::ds,ρ=>outD m d ρ.head?::outs ms ds ρ.tail
 | _,_,_=>[]
def run(ms:List Bool)(fr:Bool)(n:Nat)(b:SF)(ds:List D):R (D×List D) :=
 if ds.length=ms.length then(b (slots ms ds++List.replicate (n-ds.length) .no)).bind fun x=>match x.1,fr with
  | .rt d,false=>.ok (d,outs ms ds x.2)
  | .rf d,true=>.ok (d,outs ms ds x.2)
  | .nx,false=>.ok (.none,outs ms ds x.2)
  | _,_=>.bad
 else .bad
def zbj(fr:Bool)(k n:Nat)(b:SF)(ds:List D):R D:=(run (List.replicate k false) fr n b ds).bind fun x=>.ok x.1
end FL
namespace FL
open PySem L2 PySem.Spec
open PyProof.Rows hiding St
section
class Cs where
 C:Hp
 st:∀ a u,C a=some u->∃ o xs,u=.frz o (.tup xs)
 /-- the own classes: where each stands,its fields' names -/
 O:String->Option (Addr×List Str):=fun _=>none
def FzL(K:W.Frag)(H:Hp)(a:Addr)(xs:List V):Prop:=(∃ o,H a=some (.frz o (.lst xs))) \/
 ∃(o:Obj) (its:Array Value) (n:Nat),K.lookup a=some o/\o.cls=.type "list"/\o.dict=none/\o.data=.seq its n/\its.size<=sizeLine/\Vals xs its.toList
def kD:Key->PyData
 | .inl i=>.int i
 | .inr x=>.str x
def zme(k:List Key):PyData:=.tuple (k.map kD)
mutual
def Fz(K:W.Frag)(H:Hp):PyData->V->Prop
 | .none,v=>v=.non
 | .bool b,v=>v=.bl b
 | .int i,v=>v=.int i
 | .str x,v=>v=.str x
 | .list xs,v=>∃ a vs,v=.ref a/\FzL K H a vs/\zaf K H xs vs
 | .tuple xs,v=>∃ a vs,v=.ref a/\TAt H a vs/\zaf K H xs vs
 | .dict kvs,v=>∃ a o,v=.ref a/\∃ kk,H a=some (.frz o (.dT kk))/\zbB K H kvs kk
def zaf(K:W.Frag)(H:Hp):List PyData->List V->Prop
 | [],vs=>vs=[]
 | d::ds,vs=>∃ v r,vs=v::r/\Fz K H d v/\zaf K H ds r
def zbB(K:W.Frag)(H:Hp):List (PyData×PyData)->List (List Key×V)->Prop
 | [],kk=>kk=[]
 | (k,d)::r,kk=>∃ q v t,kk=(q,v)::t/\k=zme q/\Fz K H d v/\zbB K H r t
end
def ztK:HO->Prop
 | .tup _=>True
 | .frz _ _=>True
 | .ins _ _ _=>True
 | _=>False
def Fzn(H H':Hp):Prop:=∀ a o,H a=some o->ztK o->H' a=some o
theorem Fzn.refl(H:Hp):Fzn H H:=fun _ _ h _=>h
theorem Fzn.trans{H H1 H2:Hp}(a:Fzn H H1)(b:Fzn H1 H2):Fzn H H2:=fun c o h s=>b c o (a c o h s) s
theorem Fzn.of{H H':Hp}(s:zaB H H'):Fzn H H':=fun a o h _=>s a o h
section
variable {K:W.Frag}{H H':Hp}
theorem Fzn.zvR{a:Addr}{xs:List V}(e:Fzn H H')(h:TAt H a xs):TAt H' a xs:=by
 rcases h with h|⟨o,h⟩
 ·exact .inl (e _ _ h trivial)
 ·exact .inr ⟨o,e _ _ h trivial⟩
theorem Fzn.zsj{a:Addr}{xs:List V}(e:Fzn H H')(h:FzL K H a xs):FzL K H' a xs:=by
 rcases h with⟨o,h⟩|h
 ·exact .inl ⟨o,e _ _ h trivial⟩
 ·exact .inr h
theorem FzL.sq{a:Addr}{xs:List V}(h:FzL K H a xs):SqL K H a xs:=by
 rcases h with⟨o,h⟩|h
 ·exact .inl (.inr ⟨o,h⟩)
 ·exact .inr h
mutual
theorem Fz.mono(e:Fzn H H'):∀(d:PyData) (v:V),Fz K H d v->Fz K H' d v
 | .none,v,h=>by simp only [Fz] at h ⊢;exact h
 | .bool b,v,h=>by simp only [Fz] at h ⊢;exact h
 | .int i,v,h=>by simp only [Fz] at h ⊢;exact h
 | .str x,v,h=>by simp only [Fz] at h ⊢;exact h
 | .list xs,v,h=>by
  simp only [Fz] at h ⊢
  obtain⟨a,vs,e1,h1,h2⟩:=h
  exact⟨a,vs,e1,e.zsj h1,zaf.mono e xs vs h2⟩
 | .tuple xs,v,h=>by
  simp only [Fz] at h ⊢
  obtain⟨a,vs,e1,h1,h2⟩:=h
  exact⟨a,vs,e1,e.zvR h1,zaf.mono e xs vs h2⟩
 | .dict kvs,v,h=>by
  simp only [Fz] at h ⊢
  obtain⟨a,o,e1,h⟩:=h
  obtain⟨kk,h1,h2⟩:=h
  exact⟨a,o,e1,⟨kk,e _ _ h1 trivial,zbB.mono e kvs kk h2⟩⟩
theorem zaf.mono(e:Fzn H H'):∀(ds:List PyData) (vs:List V),zaf K H ds vs->zaf K H' ds vs
 | [],vs,h=>by simp only [zaf] at h ⊢;exact h
 | d::ds,vs,h=>by
  simp only [zaf] at h ⊢
  obtain⟨v,r,e1,h1,h2⟩:=h
  exact⟨v,r,e1,Fz.mono e d v h1,zaf.mono e ds r h2⟩
theorem zbB.mono(e:Fzn H H'):∀(kvs:List (PyData×PyData)) (kk:List (List Key×V)),zbB K H kvs kk->zbB K H' kvs kk
 | [],kk,h=>by simp only [zbB] at h ⊢;exact h
 | (k,d)::r,kk,h=>by
  simp only [zbB] at h ⊢
  obtain⟨q,v,t,e1,e2,h1,h2⟩:=h
  exact⟨q,v,t,e1,e2,Fz.mono e d v h1,zbB.mono e r t h2⟩
end
theorem zaf.len:∀{ds:List PyData} {vs:List V},zaf K H ds vs->vs.length=ds.length
 | [],vs,h=>by simp only [zaf] at h;subst h;rfl
 | d::ds,vs,h=>by
  simp only [zaf] at h
  obtain⟨v,r,rfl,_,h2⟩:=h
  simp [zaf.len h2]
theorem zaf.get:∀{ds:List PyData} {vs:List V} {i:Nat} {d:PyData},zaf K H ds vs->ds[i]?=some d->∃ v,vs[i]?=some v/\Fz K H d v
 | [],vs,i,d,h,e=>by simp at e
 | d0::ds,vs,i,d,h,e=>by
  simp only [zaf] at h
  obtain⟨v,r,rfl,h1,h2⟩:=h
  cases i with
  | zero=>simp at e;subst e;exact⟨v,by simp,h1⟩
  | succ i =>
   obtain⟨w,e1,f⟩:=zaf.get h2 (by simpa using e)
   exact⟨w,by simpa using e1,f⟩
theorem zaf.app:∀{ds es:List PyData} {vs ws:List V},zaf K H ds vs->zaf K H es ws->zaf K H (ds++es) (vs++ws)
 | [],es,vs,ws,h,g=>by simp only [zaf] at h;subst h;exact g
 | d::ds,es,vs,ws,h,g=>by
  simp only [zaf] at h
  obtain⟨v,r,rfl,h1,h2⟩:=h
  simp only [List.cons_append,zaf]
  exact⟨v,r++ws,rfl,h1,zaf.app h2 g⟩
theorem zaf.take:∀{ds:List PyData} {vs:List V} (n:Nat),zaf K H ds vs->zaf K H (ds.take n) (vs.take n)
 | ds,vs,0,h=>by simp [zaf]
 | [],vs,n+1,h=>by simp only [zaf] at h;subst h;simp [zaf]
 | d::ds,vs,n+1,h=>by
  simp only [zaf] at h
  obtain⟨v,r,rfl,h1,h2⟩:=h
  simp only [List.take_succ_cons,zaf]
  exact⟨v,_,rfl,h1,zaf.take n h2⟩
theorem zaf.drop:∀{ds:List PyData} {vs:List V} (n:Nat),zaf K H ds vs->zaf K H (ds.drop n) (vs.drop n)
 | ds,vs,0,h=>by simpa using h
 | [],vs,n+1,h=>by simp only [zaf] at h;subst h;simp [zaf]
 | d::ds,vs,n+1,h=>by
  simp only [zaf] at h
  obtain⟨v,r,rfl,h1,h2⟩:=h
  simpa using zaf.drop n h2
theorem zaf.set:∀{ds:List PyData} {vs:List V} {d:PyData} {v:V} (n:Nat),zaf K H ds vs->Fz K H d v->zaf K H (ds.set n d) (vs.set n v)
 | [],vs,d,v,n,h,f=>by simp only [zaf] at h;subst h;simp [zaf]
 | d0::ds,vs,d,v,n,h,f=>by
  simp only [zaf] at h
  obtain⟨v0,r,rfl,h1,h2⟩:=h
  cases n with
  | zero=>simp only [List.set_cons_zero,zaf];exact⟨v,r,rfl,f,h2⟩
  | succ n=>simp only [List.set_cons_succ,zaf];exact⟨v0,_,rfl,h1,zaf.set n h2 f⟩
theorem zaf.rep{ds:List PyData}{vs:List V}(h:zaf K H ds vs):∀ k:Nat,zaf K H (List.replicate k ds).flatten (List.replicate k vs).flatten
 | 0=>by simp [zaf]
 | k+1=>by simp only [List.replicate_succ,List.flatten_cons];exact zaf.app h (zaf.rep h k)
theorem zaf.ints:∀{ds:List PyData} {vs:List V} {ns:List Int},zaf K H ds vs->intsOf ds=some ns->vs=ns.map V.int/\ds=ns.map PyData.int
 | [],vs,ns,h,e=>by simp only [zaf] at h;simp only [intsOf,Option.some.injEq] at e;subst h;subst e;exact⟨rfl,rfl⟩
 | d::ds,vs,ns,h,e=>by
  simp only [zaf] at h
  obtain⟨v,r,rfl,h1,h2⟩:=h
  cases d with
  | int i =>
   simp only [intsOf,Option.map_eq_some_iff] at e
   obtain⟨ms,e1,rfl⟩:=e
   obtain⟨a,b⟩:=zaf.ints h2 e1
   simp only [Fz] at h1
   subst h1;subst a;subst b
   exact⟨rfl,rfl⟩
  | _=>simp [intsOf] at e
theorem zaf.bools:∀{ds:List PyData} {vs:List V} {ns:List Bool},zaf K H ds vs->boolsOf ds=some ns->vs=ns.map V.bl/\ds=ns.map PyData.bool
 | [],vs,ns,h,e=>by simp only [zaf] at h;simp only [boolsOf,Option.some.injEq] at e;subst h;subst e;exact⟨rfl,rfl⟩
 | d::ds,vs,ns,h,e=>by
  simp only [zaf] at h
  obtain⟨v,r,rfl,h1,h2⟩:=h
  cases d with
  | bool i =>
   simp only [boolsOf,Option.map_eq_some_iff] at e
   obtain⟨ms,e1,rfl⟩:=e
   obtain⟨a,b⟩:=zaf.bools h2 e1
   simp only [Fz] at h1
   subst h1;subst a;subst b
   exact⟨rfl,rfl⟩
  | _=>simp [boolsOf] at e
theorem zaf.ofInts:∀(ns:List Int),zaf K H (ns.map PyData.int) (ns.map V.int)
 | []=>by simp [zaf]
 | i::r=>by simp only [List.map_cons,zaf];exact⟨_,_,rfl,by simp [Fz],zaf.ofInts r⟩
end
def zbh(K:W.Frag)(H:Hp)(a:Addr):PyData->Prop
 | .list ds=>∃ vs,H a=some (.lst vs)/\zaf K H ds vs
 | .dict kvs=>∃ kk,H a=some (.dT kk)/\zbB K H kvs kk
 | _=>False
def Tp(K:W.Frag)(H:Hp):PyData->V->Prop
 | .list ds,v=>∃ a vs,v=.ref a/\SqL K H a vs/\zaf K H ds vs
 | .dict kvs,v=>∃ a,v=.ref a/\∃ kk,Rd H a (.dT kk)/\zbB K H kvs kk
 | d,v=>Fz K H d v
section
variable {K:W.Frag}{H H':Hp}
theorem Fz.tp{d:PyData}{v:V}(h:Fz K H d v):Tp K H d v:=by
 cases d with
 | list ds =>
  simp only [Fz] at h
  obtain⟨a,vs,e,h1,h2⟩:=h
  exact⟨a,vs,e,h1.sq,h2⟩
 | dict kvs =>
  simp only [Fz] at h
  obtain⟨a,o,e,h⟩:=h
  obtain⟨kk,h1,h2⟩:=h
  exact⟨a,e,⟨kk,.inr ⟨o,h1⟩,h2⟩⟩
 | _=>exact h
theorem zbh.tp{d:PyData}{a:Addr}(h:zbh K H a d):Tp K H d (.ref a):=by
 cases d with
 | list ds =>
  obtain⟨vs,h1,h2⟩:=h
  exact⟨a,vs,rfl,SqL.of h1,h2⟩
 | dict kvs =>
  obtain⟨kk,h1,h2⟩:=h
  exact⟨a,rfl,⟨kk,.inl h1,h2⟩⟩
 | _=>exact h.elim
def Own:HO->Prop
 | .lst _=>True
 | .dT _=>True
 | .dK _=>True
 | _=>False
theorem zbh.own{d:PyData}{a:Addr}(h:zbh K H a d):∃ o,H a=some o/\Own o:=by
 cases d with
 | list ds=>obtain⟨vs,h1,_⟩:=h;exact⟨_,h1,trivial⟩
 | dict kvs =>
  obtain⟨kk,h1,h2⟩:=h
  exact⟨_,h1,trivial⟩
 | _=>exact h.elim
theorem Own.zcz{o:HO}(h:Own o):¬ ztK o:=by cases o <;> first|exact fun z=>z|exact h.elim
theorem zbh.mono{d:PyData}{a:Addr}(e:Fzn H H')(k:H' a=H a)(h:zbh K H a d):zbh K H' a d:=by
 cases d with
 | list ds=>obtain⟨vs,h1,h2⟩:=h;exact⟨vs,by rw [k];exact h1,h2.mono e⟩
 | dict kvs =>
  obtain⟨kk,h1,h2⟩:=h
  exact⟨kk,by rw [k];exact h1,h2.mono e⟩
 | _=>exact h.elim
end
def zvM[Cs](K:W.Frag)(H:Hp)(a:Addr)(c:String)(ds:List D):Prop:=∃ C ns dx vs,Cs.O c=some (C,ns)/\H a=some (.ins C dx (ns.zip vs))/\vs.length=ns.length/\zaf K H ds vs
def zr5[Cs](K:W.Frag)(H:Hp):Sl->Option V->Prop
 | .no,_=>True
 | .val d,some v=>Fz K H d v
 | .ow _ d,some (.ref a)=>zbh K H a d
 | .ob c ds,some (.ref a)=>zvM K H a c ds
 | _,_=>False
def At(ρ:En)(σ:St)(i:Nat)(a:Addr):Prop:=(∃ p d,ρ[i]?=some (.ow p d))/\σ[i]?=some (some (.ref a))
def zrm[Cs](H:Hp):Prop:=∀ a u,Cs.C a=some u->H a=some u
theorem zrm.mono[Cs]{H H':Hp}(h:zrm H)(e:Fzn H H'):zrm H':=fun a u q=>e a u (h a u q) (by
 obtain⟨o,xs,rfl⟩:=Cs.st a u q
 trivial)
structure Rel[Cs](K:W.Frag)(ρ:En)(σ:St)(H:Hp):Prop where
 len:ρ.length=σ.length
 ok:∀(i:Nat) x v,ρ[i]?=some x->σ[i]?=some v->zr5 K H x v
 sep:∀ i j a,At ρ σ i a->At ρ σ j a->i=j
 cst:zrm H
variable [Cs]
def MA(ρ:En)(σ:St)(a:Addr):Prop:=∃ i,At ρ σ i a
structure Stp(ρ ρ':En)(σ:St)(H H':Hp):Prop where
 md:∀(i:Nat) p,(∃ d,ρ[i]?=some (.ow p d))↔∃ d,ρ'[i]?=some (.ow p d)
 kp:∀ a o,H a=some o->¬ MA ρ σ a->H' a=some o
section
variable {K:W.Frag}{ρ ρ' ρ'':En}{σ:St}{H H' H'':Hp}
theorem Rel.zvH(r:Rel K ρ σ H){i:Nat}{a:Addr}(h:At ρ σ i a):∃ p d,ρ[i]?=some (.ow p d)/\zbh K H a d:=by
 obtain⟨⟨p,d,e⟩,e2⟩:=h
 exact⟨p,d,e,r.ok i _ _ e e2⟩
theorem Rel.za5(r:Rel K ρ σ H){a:Addr}(h:MA ρ σ a):∃ o,H a=some o/\Own o:=by
 obtain⟨i,h⟩:=h
 obtain⟨p,d,_,m⟩:=r.zvH h
 exact m.own
theorem Stp.refl:Stp ρ ρ σ H H:=⟨fun _ _=>Iff.rfl,fun _ _ h _=>h⟩
theorem Stp.ma(s:Stp ρ ρ' σ H H'){a:Addr}:MA ρ σ a↔MA ρ' σ a:=by
 constructor
 ·rintro⟨i,⟨p,h⟩,e⟩;exact⟨i,⟨p,(s.md i p).mp h⟩,e⟩
 ·rintro⟨i,⟨p,h⟩,e⟩;exact⟨i,⟨p,(s.md i p).mpr h⟩,e⟩
theorem Stp.trans(a:Stp ρ ρ' σ H H')(b:Stp ρ' ρ'' σ H' H''):Stp ρ ρ'' σ H H'' :=
 ⟨fun i p=>(a.md i p).trans (b.md i p),fun c o h n=>b.kp c o (a.kp c o h n) fun z=>n (a.ma.mpr z)⟩
theorem Stp.of(s:zaB H H'):Stp ρ ρ σ H H':=⟨fun _ _=>Iff.rfl,fun a o h _=>s a o h⟩
theorem Stp.fzn(s:Stp ρ ρ' σ H H')(r:Rel K ρ σ H):Fzn H H':=fun a o h st=>s.kp a o h fun m=>by
 obtain⟨o',e,w⟩:=r.za5 m
 rw [h] at e
 cases e
 exact w.zcz st
theorem zvM.mono{a:Addr}{c:String}{ds:List D}(f:Fzn H H')(h:zvM K H a c ds):zvM K H' a c ds:=by
 obtain⟨C,ns,dx,vs,h1,h2,h3,h4⟩:=h
 exact⟨C,ns,dx,vs,h1,f _ _ h2 trivial,h3,h4.mono f⟩
theorem zr5.mono{x:Sl}{v:Option V}(f:Fzn H H')(k:∀ a,v=some (.ref a)->(∃ p d,x=.ow p d)->H' a=H a)(h:zr5 K H x v):zr5 K H' x v:=by
 cases x with
 | no=>trivial
 | val d=>cases v with
  | none=>exact h.elim
  | some v=>exact Fz.mono f d v h
 | ow p d=>cases v with
  | none=>exact h.elim
  | some v=>cases v with
   | ref a=>exact zbh.mono f (k a rfl ⟨p,d,rfl⟩) h
   | _=>exact h.elim
 | ob c ds=>cases v with
  | none=>exact h.elim
  | some v=>cases v with
   | ref a=>exact zvM.mono f h
   | _=>exact h.elim
theorem Rel.same(r:Rel K ρ σ H)(s:zaB H H'):Rel K ρ σ H':=by
 refine⟨r.len,fun i x v e1 e2=>(r.ok i x v e1 e2).mono (Fzn.of s) fun a e3 ⟨p,d,e4⟩=>?_,r.sep,r.cst.mono (Fzn.of s)⟩
 subst e3;subst e4
 obtain⟨o,e,_⟩:=r.za5 ⟨i,⟨p,d,e1⟩,e2⟩
 rw [e,s a o e]
theorem Rel.put{a:Addr}{o:HO}(r:Rel K ρ σ H)(n:¬ MA ρ σ a)(ns:∀ u,H a=some u->¬ ztK u):Rel K ρ σ (upd H a o):=by
 have f:Fzn H (upd H a o):=fun b u e st=>by
  rw [zan fun z=>by subst z;exact ns u e st]
  exact e
 refine⟨r.len,fun i x v e1 e2=>(r.ok i x v e1 e2).mono f fun b e3 ⟨p,d,e4⟩=>?_,r.sep,r.cst.mono f⟩
 subst e3;subst e4
 exact zan fun z=>n ⟨i,⟨p,d,e1⟩,z▸e2⟩
end
def nst:Expr->Bool
 | .Starred _ _=>false
 | _=>true
theorem se{a:Expr}{es:List Expr}{env:Env}(h:nst a=true):starEach (a::es) env=(false,eval a env)::starEach es env:=by
 cases a <;> first|rfl|cases h
theorem sp{pos:Pos}{es:List Expr}{env:Env}(h:es.all nst=true):(backTo pos (starEach es env)).any (·.1)=false:=by
 induction es with
 | nil=>rfl
 | cons a es ih =>
  rw [List.all_cons,Bool.and_eq_true] at h
  rw [se h.1]
  exact ih h.2
end
section
variable [Cs]
section
variable {X:Cx}{pins:List (Addr×Obj)}{σ:L2.St}{H:Hp}{s:Shared}
theorem zvX{a:Addr}{u:HO}{o:Obj}(I:Inv X pins σ H s)(hd:H a=some u)(ow:Own u)(ho:s.heap.get? a=some o):Inv X pins σ (upd H a (.frz o u)) s:=by
 have ne:∀ b w,H b=some w->¬ Own w->b≠a:=fun b w e n z=>by
  subst z
  rw [e] at hd
  cases hd
  exact n ow
 refine Inv.step (s:=s) (h':=s.heap) (H':=upd H a (.frz o u)) (g':=s.gens) (t':=s.toks) (d':=s.drawn) (ch:=[]) I (fun _ z=>nomatch z) (fun b o _ _ _ e _=>e) (fun b o _ _ _ e _=>⟨o.slots,e⟩) (fun b _ _ _ n=>?_) (fun b o _ e=>⟨o,e⟩)
  (fun b xs e=>?_) (fun b o u e=>?_) (fun b ps e=>⟨#[],?_⟩) (fun m hm=>hm) (fun b w e=>?_) I.bare
 ·rw [zan fun z=>by subst z;rw [n] at hd;cases hd];exact n
 ·rw [zan (ne b _ e fun z=>z)];exact e
 ·rw [zan (ne b _ e fun z=>z)];exact e
 ·rw [zan (ne b _ e fun z=>z),e];simp
 ·have st:∀(b:Addr) (w:HO),zbM X.prog X.w H s.heap b w->zbM X.prog X.w (upd H a (.frz o u)) s.heap b w:=fun b w k =>
   k.stay (fun _ _ _ q=>q) (fun b' q=>by rw [zan (ne b' _ q fun z=>z)];exact q) (fun b' xs q=>q.upd (fun _ r=>ne b' _ r fun z=>z) fun _ _ r=>ne b' _ r fun z=>z)
  by_cases c:b=a
  ·subst c
   rw [zal] at e
   cases e
   exact⟨ho,st b u (I.hok b u hd)⟩
  ·rw [zan c] at e
   exact st b w (I.hok b w e)
theorem zvr{Q:VK}{w:Value}(h:EP X pins σ (fun v H1=>∃ a u,v=.ref a/\H1 a=some u/\Own u/\∀ o,Q v (upd H1 a (.frz o u))) w s):EP X pins σ Q w s:=by
 obtain⟨v,H1,I,r,a,u,e,e1,ow,q⟩:=h
 obtain⟨o,ho⟩:=(I.hok a u e1).some
 exact⟨v,_,zvX I e1 ow ho,r,q o⟩
def tFz(t:TE):TE:=fun σ H Q=>t σ H fun v H1=>∃ a u,v=.ref a/\H1 a=some u/\Own u/\∀ o,Q v (upd H1 a (.frz o u))
theorem zuC{e:Expr}{t:TE}(h:PE X e t):PE X e (tFz t):=fun pins s σ H Q I q=>thn (h pins s σ H _ I q) fun _ _ z=>zvr z
end
def Good{β:Type}(K:W.Frag)(ρ:En)(σ:L2.St)(H:Hp)(r:R (β×En))(P:β->En->Hp->Prop):Prop:=match r with
 | .ok x=>∀ H',Rel K x.2 σ H'->Stp ρ x.2 σ H H'->P x.1 x.2 H'
 | _=>False
def tV(K:W.Frag)(f:EF):TE:=fun σ H Q=>∃ ρ,Rel K ρ σ H/\Good K ρ σ H (f ρ) fun d _ H'=>∀ v,Fz K H' d v->Q v H'
def tT(K:W.Frag)(f:TF):TT:=fun σ H Q=>∃ ρ,Rel K ρ σ H/\Good K ρ σ H (f ρ) fun b _ H'=>Q b H'
def tA(K:W.Frag)(f:AF):TA:=fun σ H Q=>∃ ρ,Rel K ρ σ H/\Good K ρ σ H (f ρ) fun ds _ H'=>∀ vs,zaf K H' ds vs->Q vs H'
def tO(K:W.Frag)(f:OF):TO:=fun σ H Q=>∃ ρ,Rel K ρ σ H/\Good K ρ σ H (f ρ) fun o _ H'=>Q o H'
def tN(K:W.Frag)(f:EF):TE:=fun σ H Q=>∃ ρ,Rel K ρ σ H/\Good K ρ σ H (f ρ) fun d ρ' H'=>∀ a,H a=none->zbh K H' a d->Q (.ref a) H'
structure PV(K:W.Frag)(X:Cx)(e:Expr)(f:EF):Prop where
 run:X.K=K->PE X e (tV K f)
instance {K:W.Frag} {X:Cx} {e:Expr} {f:EF}:CoeFun (PV K X e f) fun _=>X.K=K->PE X e (tV K f):=⟨PV.run⟩
structure PVT(K:W.Frag)(X:Cx)(e:Expr)(f:TF):Prop where
 run:X.K=K->PT X e (tT K f)
instance {K:W.Frag} {X:Cx} {e:Expr} {f:TF}:CoeFun (PVT K X e f) fun _=>X.K=K->PT X e (tT K f):=⟨PVT.run⟩
structure PVW(K:W.Frag)(X:Cx)(e:Expr)(f:TF):Prop where
 run:X.K=K->PW X e (tT K f)
instance {K:W.Frag} {X:Cx} {e:Expr} {f:TF}:CoeFun (PVW K X e f) fun _=>X.K=K->PW X e (tT K f):=⟨PVW.run⟩
structure PVA(K:W.Frag)(X:Cx)(es:List Expr)(f:AF):Prop where
 run:X.K=K->PA X es (tA K f)
instance {K:W.Frag} {X:Cx} {es:List Expr} {f:AF}:CoeFun (PVA K X es f) fun _=>X.K=K->PA X es (tA K f):=⟨PVA.run⟩
structure PVO(K:W.Frag)(X:Cx)(e:Option Expr)(f:OF):Prop where
 run:X.K=K->PO X e (tO K f)
instance {K:W.Frag} {X:Cx} {e:Option Expr} {f:OF}:CoeFun (PVO K X e f) fun _=>X.K=K->PO X e (tO K f):=⟨PVO.run⟩
structure PVN(K:W.Frag)(X:Cx)(e:Expr)(f:EF):Prop where
 run:X.K=K->PE X e (tN K f)
instance {K:W.Frag} {X:Cx} {e:Expr} {f:EF}:CoeFun (PVN K X e f) fun _=>X.K=K->PE X e (tN K f):=⟨PVN.run⟩
theorem _root_.L2.PE.weak{X:Cx}{e:Expr}{t t':TE}(h:PE X e t)(w:∀ σ H Q,t' σ H Q->t σ H Q):PE X e t':=fun pins s σ H Q I q=>h pins s σ H Q I (w σ H Q q)
theorem _root_.L2.PT.weak{X:Cx}{e:Expr}{t t':TT}(h:PT X e t)(w:∀ σ H Q,t' σ H Q->t σ H Q):PT X e t':=fun pins s σ H Q I q=>h pins s σ H Q I (w σ H Q q)
theorem _root_.L2.PW.weak{X:Cx}{e:Expr}{t t':TT}(h:PW X e t)(w:∀ σ H Q,t' σ H Q->t σ H Q):PW X e t':=fun wh pins s σ H Q I q=>h wh pins s σ H Q I (w σ H Q q)
theorem _root_.L2.PA.weak{X:Cx}{e:List Expr}{t t':TA}(h:PA X e t)(w:∀ σ H Q,t' σ H Q->t σ H Q):PA X e t':=fun pos pins s σ H Q I q=>h pos pins s σ H Q I (w σ H Q q)
theorem _root_.L2.PO.weak{X:Cx}{e:Option Expr}{t t':TO}(h:PO X e t)(w:∀ σ H Q,t' σ H Q->t σ H Q):PO X e t':=fun pins s σ H Q I q=>h pins s σ H Q I (w σ H Q q)
section
variable {K:W.Frag}{ρ ρ1:En}{σ:L2.St}{H H1:Hp}{β γ:Type}
theorem Good.step{r:R (β×En)}{P:β->En->Hp->Prop}(st:Stp ρ ρ1 σ H H1)(g:Good K ρ σ H r P):Good K ρ1 σ H1 r P:=by
 cases r with
 | ok x=>exact fun H' rel s=>g H' rel (st.trans s)
 | _=>exact g
theorem Good.bnd{r:R (β×En)}{k:β×En->R (γ×En)}{P:γ->En->Hp->Prop}(g:Good K ρ σ H (r.bind k) P):∃ x,r=.ok x/\Good K ρ σ H (k x) P:=by
 cases r with
 | ok x=>exact⟨x,rfl,g⟩
 | _=>exact g.elim
theorem Good.zdP{r:R β}{k:β->R (γ×En)}{P:γ->En->Hp->Prop}(g:Good K ρ σ H (r.bind k) P):∃ x,r=.ok x/\Good K ρ σ H (k x) P:=by
 cases r with
 | ok x=>exact⟨x,rfl,g⟩
 | _=>exact g.elim
theorem Good.chk{c:Bool}{r:R (γ×En)}{P:γ->En->Hp->Prop}(g:Good K ρ σ H (chk c r) P):c=true/\Good K ρ σ H r P:=by
 cases c with
 | true=>exact⟨rfl,g⟩
 | false=>exact g.elim
theorem Good.now{x:β}{P:β->En->Hp->Prop}(g:Good K ρ σ H (.ok (x,ρ)) P)(rel:Rel K ρ σ H):P x ρ H:=g H rel .refl
theorem Good.new{x:β}{P:β->En->Hp->Prop}(g:Good K ρ σ H (.ok (x,ρ)) P)(rel:Rel K ρ σ H)(s:zaB H H1):P x ρ H1:=g H1 (rel.same s) (.of s)
theorem goV{f:EF}{k:D×En->R (β×En)}{S:VK}{P:β->En->Hp->Prop}(rel:Rel K ρ σ H)(g:Good K ρ σ H ((f ρ).bind k) P)
  (h:∀ d ρ1 v H1,Rel K ρ1 σ H1->Stp ρ ρ1 σ H H1->Fz K H1 d v->Good K ρ1 σ H1 (k (d,ρ1)) P->S v H1):tV K f σ H S:=by
 obtain⟨x,e,g1⟩:=g.bnd
 refine⟨ρ,rel,?_⟩
 rw [e]
 exact fun H' r s v fz=>h x.1 x.2 v H' r s fz (g1.step s)
theorem goT{f:TF}{k:Bool×En->R (β×En)}{S:Bool->Hp->Prop}{P:β->En->Hp->Prop}(rel:Rel K ρ σ H)(g:Good K ρ σ H ((f ρ).bind k) P)
  (h:∀ b ρ1 H1,Rel K ρ1 σ H1->Stp ρ ρ1 σ H H1->Good K ρ1 σ H1 (k (b,ρ1)) P->S b H1):tT K f σ H S:=by
 obtain⟨x,e,g1⟩:=g.bnd
 refine⟨ρ,rel,?_⟩
 rw [e]
 exact fun H' r s=>h x.1 x.2 H' r s (g1.step s)
theorem goA{f:AF}{k:List D×En->R (β×En)}{S:List V->Hp->Prop}{P:β->En->Hp->Prop}(rel:Rel K ρ σ H)(g:Good K ρ σ H ((f ρ).bind k) P)
  (h:∀ ds ρ1 vs H1,Rel K ρ1 σ H1->Stp ρ ρ1 σ H H1->zaf K H1 ds vs->Good K ρ1 σ H1 (k (ds,ρ1)) P->S vs H1):tA K f σ H S:=by
 obtain⟨x,e,g1⟩:=g.bnd
 refine⟨ρ,rel,?_⟩
 rw [e]
 exact fun H' r s vs fz=>h x.1 x.2 vs H' r s fz (g1.step s)
theorem goO{f:OF}{k:Option Int×En->R (β×En)}{S:Option Int->Hp->Prop}{P:β->En->Hp->Prop}(rel:Rel K ρ σ H)(g:Good K ρ σ H ((f ρ).bind k) P)
  (h:∀ b ρ1 H1,Rel K ρ1 σ H1->Stp ρ ρ1 σ H H1->Good K ρ1 σ H1 (k (b,ρ1)) P->S b H1):tO K f σ H S:=by
 obtain⟨x,e,g1⟩:=g.bnd
 refine⟨ρ,rel,?_⟩
 rw [e]
 exact fun H' r s=>h x.1 x.2 H' r s (g1.step s)
end
def rD(K:W.Frag)(g:D->D->R D):R2:=fun x y H Q=>∃ dx dy d,Tp K H dx x/\Tp K H dy y/\g dx dy=.ok d/\∀ v H',zaB H H'->Fz K H' d v->Q v H'
def rD1(K:W.Frag)(g:D->R D):V->Hp->VK->Prop:=fun x H Q=>∃ dx d,Tp K H dx x/\g dx=.ok d/\∀ v H',zaB H H'->Fz K H' d v->Q v H'
def rDs(K:W.Frag)(G:List D->R D):List V->Hp->VK->Prop:=fun xs H Q=>∃ ds d,zaf K H ds xs/\G ds=.ok d/\∀ v H',zaB H H'->Fz K H' d v->Q v H'
def rD0(K:W.Frag)(g:D->R D):List V->Hp->VK->Prop:=fun xs H Q=>∃ x dx d,xs=[x]/\Tp K H dx x/\g dx=.ok d/\∀ v H',zaB H H'->Fz K H' d v->Q v H'
section
variable {K:W.Frag}{X:Cx}{a b c:Expr}{f h k:EF}{pos:Pos}
theorem zab{x:Str}(i:Nat)(hN:X.N[i]?=some x:=by rfl)(hv:Vis X.env.scope x:=by first|exact Or.inl rfl|exact Or.inr (Or.inl rfl)|exact Or.inr (Or.inr rfl))(hd:(x==("__debug__":Str))=false:=by decide)
  (hcd:(x==("__classdict__":Str))=false:=by decide):PV K X (.Name x pos) (eV i):=.mk fun _=>(zrz hN hv hd hcd).weak fun σ H Q=>by
 rintro⟨ρ,rel,g⟩
 unfold eV at g
 cases e:ρ[i]? with
 | none=>rw [e] at g;exact g.elim
 | some x =>
  rw [e] at g
  cases x with
  | val d =>
   have hl:i<σ.length:=by rw [<- rel.len];exact(List.getElem?_eq_some_iff.mp e).1
   have o:=rel.ok i _ _ e (List.getElem?_eq_getElem hl)
   cases es:σ[i] with
   | none=>rw [es] at o;exact o.elim
   | some v =>
    rw [es] at o
    exact⟨v,by rw [List.getElem?_eq_getElem hl,es],g.now rel v o⟩
  | _=>exact g.elim
theorem zvS{e:Expr}{v:V}{d:D}(h:PE X e (tC v))(hv:∀ H,Fz K H d v):PV K X e (eC d):=.mk fun _=>h.weak fun σ H Q=>by
 rintro⟨ρ,rel,g⟩
 exact g.now rel v (hv H)
theorem zad{i:Int}{j}:PV K X (.Constant (.int i) j pos) (eC (.int i)):=zvS zuB fun _=>by simp [Fz]
theorem zjF{i:Bool}{j}:PV K X (.Constant (.bool i) j pos) (eC (.bool i)):=zvS zwy fun _=>by simp [Fz]
theorem zru{j}:PV K X (.Constant .none j pos) (eC .none):=zvS zuz fun _=>by simp [Fz]
theorem zfh{x:Str}{v:V}{u:Value}{d:D}(hg:Gl X x)(hm:X.mg x=some u)(r:RelV v u)(hv:∀ H,Fz K H d v)(hd:(x==("__debug__":Str))=false:=by decide):PV K X (.Name x pos) (eC d):=zvS (zoe hg hm r hd) hv
theorem zvW{g:D->D->R D}{r:R2}(ho:∀ x y H Q,rD K g x y H Q->r x y H Q)(σ:L2.St)(H:Hp)(Q:VK)(q:tV K (e2 g f h) σ H Q):tOp r (tV K f) (tV K h) σ H Q:=by
 obtain⟨ρ,rel,q⟩:=q
 refine goV rel q fun dx ρ1 x H1 rel1 st1 fx q1=>goV rel1 q1 fun dy ρ2 y H2 rel2 st2 fy q2=>?_
 obtain⟨d,ed,q3⟩:=q2.zdP
 exact ho _ _ _ _ ⟨dx,dy,d,(fx.mono (st2.fzn rel1)).tp,fy.tp,ed,fun v H' s fz=>q3.new rel2 s v fz⟩
theorem zar{op:Operator}{g:D->D->R D}(ho:OpR X (binaryOp op) (rD X.K g))(ha:PV K X a f)(hb:PV K X b h):PV K X (.BinOp a op b pos) (e2 g f h):=.mk fun hK=>by
 subst hK
 exact(zuw ho (ha rfl) (hb rfl)).weak fun σ H Q q=>zvW (fun _ _ _ _ z=>z) σ H Q q
theorem zaF{g:D->D->R D}(ho:IxR X (rD X.K g))(ha:PV K X a f)(hb:PV K X b h)(hs:zjb b:=by exact fun _ _=>rfl):PV K X (.Subscript a b pos) (e2 g f h):=.mk fun hK=>by
 subst hK
 exact(zuA ho (ha rfl) (hb rfl) hs).weak fun σ H Q q=>zvW (fun _ _ _ _ z=>z) σ H Q q
theorem zul{op:CmpOp}{g:D->D->R D}(ho:OpR X (compareOp op) (rD X.K g))(ha:PV K X a f)(hb:PV K X b h)(hm:behindInMarks op b=false):PV K X (.Compare a [op] [b] pos) (e2 g f h):=.mk fun hK=>by
 subst hK
 exact(zsU ho (ha rfl) (hb rfl) hm).weak fun σ H Q q=>zvW (fun _ _ _ _ z=>z) σ H Q q
theorem zuh{op:UnaryOp}{g:D->R D}(ho:UnR X (unaryOp op) (rD1 X.K g))(ha:PV K X a f):PV K X (.UnaryOp op a pos) (e1 g f):=.mk fun hK=>by
 subst hK
 exact(zwv ho (ha rfl)).weak fun σ H Q=>by
  rintro⟨ρ,rel,q⟩
  refine goV rel q fun dx ρ1 x H1 rel1 st1 fx q1=>?_
  obtain⟨d,ed,q3⟩:=q1.zdP
  exact⟨dx,d,fx.tp,ed,fun v H' s fz=>q3.new rel1 s v fz⟩
theorem zo3{g g':D->D->R D}(σ:L2.St)(H:Hp)(Q:VK)(q:tV K (ze1 g g' f h k) σ H Q):znA (rD K g) (rD K g') (tV K f) (tV K h) (tV K k) σ H Q:=by
 obtain⟨ρ,rel,q⟩:=q
 refine goV rel q fun dx ρ1 x H1 rel1 st1 fx q1=>goV rel1 q1 fun dy ρ2 y H2 rel2 st2 fy q2=>?_
 obtain⟨d,ed,q3⟩:=q2.zdP
 refine⟨dx,dy,d,(fx.mono (st2.fzn rel1)).tp,fy.tp,ed,fun v H' s fz=>?_⟩
 cases d with
 | bool bb =>
  simp only [Fz] at fz
  subst fz
  have rel3:=rel2.same s
  have q4:=q3.step (.of s)
  cases bb with
  | true =>
   refine⟨true,rfl,zpL ?_⟩
   refine goV rel3 q4 fun dz ρ3 z H3 rel4 st4 fzz q5=>?_
   obtain⟨d2,ed2,q6⟩:=q5.zdP
   exact⟨dy,dz,d2,((fy.mono (Fzn.of s)).mono (st4.fzn rel3)).tp,fzz.tp,ed2,fun v H' s fz=>q6.new rel4 s v fz⟩
  | false=>exact⟨false,rfl,zpM (q4.now rel3 _ (by simp [Fz]))⟩
 | _=>exact q3.elim
theorem zqb{op op':CmpOp}{g g':D->D->R D}(ho:OpR X (compareOp op) (rD X.K g))(ho':OpR X (compareOp op') (rD X.K g'))(ha:PV K X a f)(hb:PV K X b h)(hc:PV K X c k)
  (hm:lastMarks [op,op'] [b,c]=false:=by with_unfolding_all rfl):PV K X (.Compare a [op,op'] [b,c] pos) (ze1 g g' f h k):=.mk fun hK=>by
 subst hK
 exact(zqt ho ho' (ha rfl) (hb rfl) (hc rfl) hm).weak fun σ H Q q=>zo3 σ H Q q
theorem zlR{op}(ha:PV K X a f):PV K X (.BoolOp op [a] pos) f:=.mk fun hK=>zux (ha hK)
theorem zlT{rest:List Expr}(ha:PV K X a f)(hb:PV K X (.BoolOp .And (b::rest) pos) h):PV K X (.BoolOp .And (a::b::rest) pos) (zm4 f h):=.mk fun hK=>(zuE (ha hK) (hb hK)).weak fun σ H Q=>by
 rintro⟨ρ,rel,q⟩
 refine goV rel q fun dx ρ1 x H1 rel1 st1 fx q1=>?_
 cases dx with
 | bool bb =>
  simp only [Fz] at fx
  subst fx
  cases bb with
  | true=>exact⟨true,rfl,zpL ⟨ρ1,rel1,q1⟩⟩
  | false=>exact⟨false,rfl,zpM (q1.now rel1 _ (by simp [Fz]))⟩
 | _=>exact q1.elim
theorem zws{rest:List Expr}(ha:PV K X a f)(hb:PV K X (.BoolOp .Or (b::rest) pos) h):PV K X (.BoolOp .Or (a::b::rest) pos) (eOr f h):=.mk fun hK=>(zwx (ha hK) (hb hK)).weak fun σ H Q=>by
 rintro⟨ρ,rel,q⟩
 refine goV rel q fun dx ρ1 x H1 rel1 st1 fx q1=>?_
 cases dx with
 | bool bb =>
  simp only [Fz] at fx
  subst fx
  cases bb with
  | true=>exact⟨true,rfl,zpL (q1.now rel1 _ (by simp [Fz]))⟩
  | false=>exact⟨false,rfl,zpM ⟨ρ1,rel1,q1⟩⟩
 | _=>exact q1.elim
theorem zui(ha:PV K X a f):PV K X (.UnaryOp .Not a pos) (zvs f):=.mk fun hK=>(zuy (ha hK)).weak fun σ H Q=>by
 rintro⟨ρ,rel,q⟩
 refine goV rel q fun dx ρ1 x H1 rel1 st1 fx q1=>?_
 cases dx with
 | bool bb =>
  simp only [Fz] at fx
  subst fx
  exact⟨bb,rfl,q1.now rel1 _ (by simp [Fz])⟩
 | _=>exact q1.elim
theorem zwt{t:TF}(hc:PVT K X c t)(ha:PV K X a f)(hb:PV K X b h):PV K X (.IfExp c a b pos) (eIf t f h):=.mk fun hK=>(zqo (hc hK) (ha hK) (hb hK)).weak fun σ H Q=>by
 rintro⟨ρ,rel,q⟩
 refine goT rel q fun cb ρ1 H1 rel1 st1 q1=>?_
 cases cb with
 | true=>exact zpL ⟨ρ1,rel1,q1⟩
 | false=>exact zpM ⟨ρ1,rel1,q1⟩
variable {es:List Expr}{fa:AF}
theorem zbH:PVA K X [] zah:=.mk fun _=>zhL.weak fun σ H Q=>by
 rintro⟨ρ,rel,q⟩
 exact q.now rel [] (by simp [zaf])
theorem zd1(ha:PV K X a f)(hr:PVA K X es fa)(hs:starEach (a::es) X.env=(false,eval a X.env)::starEach es X.env:=by exact FL.se rfl):PVA K X (a::es) (zaa f fa):=.mk fun hK=>(zcJ (ha hK) (hr hK) hs).weak fun σ H Q=>by
 rintro⟨ρ,rel,q⟩
 refine goV rel q fun dx ρ1 x H1 rel1 st1 fx q1=>goA rel1 q1 fun ds ρ2 vs H2 rel2 st2 fs q2=>?_
 exact q2.now rel2 _ (by simp only [zaf];exact⟨x,vs,rfl,fx.mono (st2.fzn rel1),fs⟩)
theorem zb0:lim<=sizeLine:=by rw [sizeLine_eq];decide
theorem zaO{x1}(h:PVA K X es fa):PV K X (.Tuple es x1 pos) (zaP fa):=.mk fun hK=>(zuv (h hK)).weak fun σ H Q=>by
 rintro⟨ρ,rel,q⟩
 refine goA rel q fun ds ρ1 vs H1 rel1 st1 fs q1=>?_
 obtain⟨c,q2⟩:=q1.chk
 refine⟨by rw [fs.len];exact Nat.le_trans (ziM c) zb0,fun p hp=>?_⟩
 have s:zaB H1 (upd H1 p (.tup vs)):=zaB.upd hp
 refine q2.new rel1 s _ ?_
 simp only [Fz]
 exact⟨p,vs,rfl,.inl zal,fs.mono (Fzn.of s)⟩
theorem zdb(h:PVA K X es fa):PVN K X (.List es pos) (zcR fa):=.mk fun hK=>(zrA (h hK)).weak fun σ H Q=>by
 rintro⟨ρ,rel,q⟩
 refine goA rel q fun ds ρ1 vs H1 rel1 st1 fs q1=>?_
 obtain⟨c,q2⟩:=q1.chk
 refine⟨by rw [fs.len];exact Nat.le_trans (ziM c) zb0,fun p hp=>?_⟩
 have s:zaB H1 (upd H1 p (.lst vs)):=zaB.upd hp
 refine q2.new rel1 s p ?_ ?_
 ·cases e:H p with
  | none=>rfl
  | some o =>
   by_cases m:MA ρ σ p
   ·obtain⟨o',e',_⟩:=rel1.za5 (st1.ma.mp m)
    rw [hp] at e';cases e'
   ·rw [st1.kp p o e m] at hp;cases hp
 ·exact⟨vs,zal,fs.mono (Fzn.of s)⟩
theorem PVN.pv{e:Expr}{f:EF}(h:PVN K X e f):PV K X e f:=.mk fun hK=>(zuC (h hK)).weak fun σ H Q=>by
 rintro⟨ρ,rel,q⟩
 refine⟨ρ,rel,?_⟩
 cases e:f ρ with
 | ok x =>
  rw [e] at q
  intro H' rel' st a ha m
  obtain⟨u,e1,ow⟩:=m.own
  refine⟨a,u,rfl,e1,ow,fun o=>?_⟩
  have nma:¬ MA ρ σ a:=fun z=>by
   obtain⟨o',e',_⟩:=rel.za5 z
   rw [ha] at e';cases e'
  have nma':¬ MA x.2 σ a:=fun z=>nma (st.ma.mpr z)
  have fz:Fzn H' (upd H' a (.frz o u)):=fun b w e2 sy=>by
   rw [zan fun z=>by subst z;rw [e1] at e2;cases e2;exact ow.zcz sy]
   exact e2
  refine q _ (rel'.put nma' fun u' e2=>by rw [e1] at e2;cases e2;exact ow.zcz) ⟨st.md,fun b w e2 n=>?_⟩ _ ?_
  ·rw [zan fun z=>by subst z;rw [ha] at e2;cases e2]
   exact st.kp b w e2 n
  ·obtain⟨d,ρ'⟩:=x
   cases d with
   | list ds =>
    obtain⟨vs,h1,h2⟩:=m
    rw [e1] at h1
    cases h1
    simp only [Fz]
    exact⟨a,vs,rfl,.inl ⟨o,zal⟩,h2.mono fz⟩
   | dict kvs =>
    simp only [Fz]
    obtain⟨kk,h1,h2⟩:=m
    rw [e1] at h1
    cases h1
    exact⟨a,o,rfl,⟨kk,zal,h2.mono fz⟩⟩
   | _=>exact m.elim
 | _=>rw [e] at q;exact q.elim
theorem goC{G:List D->R D}{r:List V->Hp->VK->Prop}(hr:∀ xs H Q,rDs K G xs H Q->r xs H Q)(σ:L2.St)(H:Hp)(Q:VK)(q:tV K (zag G fa) σ H Q):tCB r (tA K fa) σ H Q:=by
 obtain⟨ρ,rel,q⟩:=q
 refine goA rel q fun ds ρ1 vs H1 rel1 st1 fs q1=>?_
 obtain⟨d,ed,q2⟩:=q1.zdP
 exact hr _ _ _ ⟨ds,d,fs,ed,fun v H' s fz=>q2.new rel1 s v fz⟩
theorem zqd{x:Str}{id:String}{G:List D->R D}{p:Pos}{e:Expr}(hc:zfC X (.builtin id) (rDs X.K G))(hg:Gl X x)(hm:X.mg x=none)(hv:bootBuiltins x=some (.builtin id))(ha:PVA K X (e::es) fa)(hn:x ≠ "__name__":=by decide) (hdb:(x==("__debug__":Str))=false:=by decide)
  (he:starEach (e::es) X.env=(false,eval e X.env)::starEach es X.env:=by exact FL.se rfl) (hpl:(backTo pos (starEach es X.env)).any (·.1)=false:=by exact FL.sp rfl):PV K X (.Call (.Name x p) (e::es) [] pos) (zag G fa):=.mk fun hK=>by
 subst hK
 exact(zlX hc hg hm hv (ha rfl) hn hdb he hpl).weak fun σ H Q q=>goC (fun _ _ _ z=>z) σ H Q q
theorem znW{x:Str}{T:String}{G:List D->R D}{p:Pos}{e:Expr}(hc:zfC X (.type T) (rDs X.K G))(hg:Gl X x)(hm:X.mg x=none)(hv:bootBuiltins x=some (.type T))(ha:PVA K X (e::es) fa)(hn:x ≠ "__name__":=by decide) (hdb:(x==("__debug__":Str))=false:=by decide)
  (he:starEach (e::es) X.env=(false,eval e X.env)::starEach es X.env:=by exact FL.se rfl) (hpl:(backTo pos (starEach es X.env)).any (·.1)=false:=by exact FL.sp rfl):PV K X (.Call (.Name x p) (e::es) [] pos) (zag G fa):=.mk fun hK=>by
 subst hK
 exact(zjI hc hg hm hv (ha rfl) hn hdb he hpl).weak fun σ H Q q=>goC (fun _ _ _ z=>z) σ H Q q
variable {lo hi:Option Expr}{fl fh:OF}
theorem zp5:PVO K X none zmN:=.mk fun _=>zsN.weak fun σ H Q=>by
 rintro⟨ρ,rel,q⟩
 exact q.now rel
theorem zp4(h:PV K X a f):PVO K X (some a) (zmM f):=.mk fun hK=>(zsM (h hK)).weak fun σ H Q=>by
 rintro⟨ρ,rel,q⟩
 refine goV rel q fun dx ρ1 x H1 rel1 st1 fx q1=>?_
 cases dx with
 | int i =>
  simp only [Fz] at fx
  exact⟨i,fx,q1.now rel1⟩
 | _=>exact q1.elim
def zxt(K:W.Frag):V->Option Int->Option Int->Hp->VK->Prop:=fun x lo hi H Q=>∃ dx d,Tp K H dx x/\zhF dx lo hi=.ok d/\∀ v H',zaB H H'->Fz K H' d v->Q v H'
theorem zqa{p2:Pos}(hr:SlR X (zxt X.K))(he:PV K X a f)(hl:PVO K X lo fl)(hu:PVO K X hi fh):PV K X (.Subscript a (.Slice lo hi none p2) pos) (eSl f fl fh):=.mk fun hK=>by
 subst hK
 exact(zqn hr (he rfl) (hl rfl) (hu rfl)).weak fun σ H Q=>by
  rintro⟨ρ,rel,q⟩
  refine goV rel q fun dx ρ1 x H1 rel1 st1 fx q1=>goO rel1 q1 fun l ρ2 H2 rel2 st2 q2=>goO rel2 q2 fun u ρ3 H3 rel3 st3 q3=>?_
  obtain⟨d,ed,q4⟩:=q3.zdP
  exact⟨dx,d,((fx.mono (st2.fzn rel1)).mono (st3.fzn rel2)).tp,ed,fun v H' s fz=>q4.new rel3 s v fz⟩
variable {t u:TF}
theorem zdH(hv:zxi X (fun x H Q=>∃ d k,Tp X.K H d x/\zkJ d=.ok k/\Q k H))(h:PV K X a f)(he:∀ whole,isTrue a X.env whole=(do let v <- whole;standAt a.pos;holding [v] (truthy v)):=by intro _;rfl):PVT K X a (tE f):=.mk fun hK=>by
 subst hK
 intro pins s σ H Q I q
 rw [he]
 obtain⟨ρ,rel,q⟩:=q
 refine wpAny_bind (thn (h rfl pins s σ H (fun x H'=>∃ d k,Tp X.K H' d x/\zkJ d=.ok k/\Q k H') I ?_) fun v s1 ⟨x,H1,I1,r1,q1⟩=>wpAny_bind (wpAny_standAt (wpAny_holding (hv pins s1 σ H1 x v Q I1 r1 q1))))
 refine goV rel q fun dx ρ1 x H1 rel1 st1 fx q1=>?_
 obtain⟨d,ed,q2⟩:=q1.zdP
 exact⟨dx,d,fx.tp,ed,q2.now rel1⟩
theorem goB{te:TE}(hw:∀ σ H Q,tV K f σ H Q->te σ H Q)(σ:L2.St)(H:Hp)(Q:Bool->Hp->Prop)(q:tT K (tB f) σ H Q):te σ H fun x H'=>∃ k,x=.bl k/\Q k H':=by
 obtain⟨ρ,rel,q⟩:=q
 refine hw σ H _ (goV rel q fun dx ρ1 x H1 rel1 st1 fx q1=>?_)
 cases dx with
 | bool bb =>
  simp only [Fz] at fx
  exact⟨bb,fx,q1.now rel1⟩
 | _=>exact q1.elim
theorem zsr{op:CmpOp}{g:D->D->R D}(ho:OpR X (compareOp op) (rD X.K g))(ha:PV K X a f)(hb:PV K X b h)(hm:behindInMarks op b=false):PVT K X (.Compare a [op] [b] pos) (tB (e2 g f h)):=.mk fun hK=>by
 subst hK
 exact(znY ho (ha rfl) (hb rfl) hm).weak fun σ H Q q=>goB (fun σ H Q z=>zvW (fun _ _ _ _ z=>z) σ H Q z) σ H Q q
theorem zes(ha:PVT K X a t):PVW K X (.BoolOp .Or [a] pos) t:=.mk fun hK=>zud (ha hK)
theorem zfJ{rest:List Expr}(ha:PVT K X a t)(hb:PVW K X (.BoolOp .Or (b::rest) pos) u):PVW K X (.BoolOp .Or (a::b::rest) pos) (FL.tOr t u):=.mk fun hK=>(zwp (ha hK) (hb hK)).weak fun σ H Q=>by
 rintro⟨ρ,rel,q⟩
 refine goT rel q fun cb ρ1 H1 rel1 st1 q1=>?_
 cases cb with
 | true=>exact zpL (q1.now rel1)
 | false=>exact zpM ⟨ρ1,rel1,q1⟩
theorem PVW.pvt(h:PVW K X a t):PVT K X a t:=.mk fun hK=>(h hK).pt
theorem zda(ha:PVT K X a t):PVT K X (.UnaryOp .Not a pos) (FL.zen t):=.mk fun hK=>(zun (ha hK)).weak fun σ H Q=>by
 rintro⟨ρ,rel,q⟩
 exact goT rel q fun cb ρ1 H1 rel1 st1 q1=>q1.now rel1
theorem znO{op op':CmpOp}{g g':D->D->R D}(ho:OpR X (compareOp op) (rD X.K g))(ho':OpR X (compareOp op') (rD X.K g'))(ha:PV K X a f)(hb:PV K X b h)(hc:PV K X c k)
  (hm:lastMarks [op,op'] [b,c]=false:=by with_unfolding_all rfl):PVT K X (.Compare a [op,op'] [b,c] pos) (tB (ze1 g g' f h k)):=.mk fun hK=>by
 subst hK
 exact(zqg ho ho' (ha rfl) (hb rfl) (hc rfl) hm).weak fun σ H Q q=>goB (fun σ H Q z=>zo3 σ H Q z) σ H Q q
end
end
section
variable [Cs]
theorem zt9(A:Around)(s:Shared)(a:Int)(t:Tok)(c:Int)(u:Tok)(prog:Program)(w:World)(E:Value->Shared->Prop)(Q:Value->Shared->Prop)(h:Q (.bool (decide (a<=c))) s) :
  wpAny (model prog w) A (richCompare .LtE (.int a t) (.int c u)) Q E s :=
 (PyProof.Rows.le_int h:wpAny (model prog w) A (compareOp .LtE (.int a t) (.int c u)) Q E s)
end
section
variable [Cs]
section
variable {K:W.Frag}{H:Hp}
mutual
theorem Fz.is:∀(d:PyData) (v:V),PyData.canLay0 d=true->Fz K H d v->Is K H d v
 | .none,v,_,h=>by simp only [Fz] at h;simp only [Is];exact h
 | .bool b,v,_,h=>by simp only [Fz] at h;simp only [Is];exact h
 | .int i,v,_,h=>by simp only [Fz] at h;simp only [Is];exact h
 | .str x,v,_,h=>by simp only [Fz] at h;simp only [Is];exact h
 | .list xs,v,c,h=>by
  simp only [Fz] at h;simp only [Is]
  obtain⟨a,vs,e1,h1,h2⟩:=h
  exact⟨a,vs,e1,h1.sq,zaf.is xs vs c h2⟩
 | .tuple xs,v,c,h=>by
  simp only [Fz] at h;simp only [Is]
  obtain⟨a,vs,e1,h1,h2⟩:=h
  exact⟨a,vs,e1,.inl h1,zaf.is xs vs c h2⟩
 | .dict kvs,v,c,h=>by simp [PyData.canLay0] at c
theorem zaf.is:∀(ds:List PyData) (vs:List V),PyData.canLayAll0 ds=true->zaf K H ds vs->zfA K H ds vs
 | [],vs,_,h=>by simp only [zaf] at h;simp only [zfA];exact h
 | d::ds,vs,c,h=>by
  simp only [PyData.canLayAll0,Bool.and_eq_true] at c
  simp only [zaf] at h;simp only [zfA]
  obtain⟨v,r,e1,h1,h2⟩:=h
  exact⟨v,r,e1,Fz.is d v c.1 h1,zaf.is ds r c.2 h2⟩
end
theorem Tp.is{d:PyData}{v:V}(c:PyData.canLay0 d=true)(h:Tp K H d v):Is K H d v:=by
 cases d with
 | list ds =>
  obtain⟨a,vs,e,h1,h2⟩:=h
  simp only [Is]
  exact⟨a,vs,e,h1,zaf.is ds vs c h2⟩
 | dict kvs=>simp [PyData.canLay0] at c
 | none=>exact Fz.is _ _ c h
 | bool b=>exact Fz.is _ _ c h
 | int b=>exact Fz.is _ _ c h
 | str b=>exact Fz.is _ _ c h
 | tuple b=>exact Fz.is _ _ c h
theorem Tp.int{i:Int}{v:V}(h:Tp K H (.int i) v):v=.int i:=by simpa [Tp,Fz] using h
theorem Tp.bool{i:Bool}{v:V}(h:Tp K H (.bool i) v):v=.bl i:=by simpa [Tp,Fz] using h
theorem Tp.none{v:V}(h:Tp K H .none v):v=.non:=by simpa [Tp,Fz] using h
theorem Tp.zxP{ds:List PyData}{v:V}(h:Tp K H (.tuple ds) v):∃ a vs,v=.ref a/\TAt H a vs/\zaf K H ds vs:=by simpa [Tp,Fz] using h
theorem Tp.tup{ds:List PyData}{v:V}(h:Tp K H (.tuple ds) v):∃ a vs,v=.ref a/\SqT K H a vs/\zaf K H ds vs :=
 let⟨a,vs,x,y,z⟩:=Tp.zxP h
 ⟨a,vs,x,.inl y,z⟩
theorem Tp.lst{ds:List PyData}{v:V}(h:Tp K H (.list ds) v):∃ a vs,v=.ref a/\SqL K H a vs/\zaf K H ds vs:=h
theorem zcp(i:Int):Fz K H (.int i) (.int i):=by simp [Fz]
theorem zhy(i:Bool):Fz K H (.bool i) (.bl i):=by simp [Fz]
theorem zmj{a:Addr}{vs:List V}{ds:List PyData}(h:TAt H a vs)(f:zaf K H ds vs):Fz K H (.tuple ds) (.ref a):=by simp only [Fz];exact⟨a,vs,rfl,h,f⟩
theorem zaf.atI{ds:List PyData}{vs:List V}{i:Int}{d:PyData}(h:zaf K H ds vs)(e:FL.atI ds i=some d):∃ v,L2.atI vs i=some v/\Fz K H d v:=by
 unfold FL.atI at e
 cases en:FL.ixN ds.length i with
 | none=>rw [en] at e;cases e
 | some j =>
  rw [en] at e
  obtain⟨v,e1,f⟩:=h.get (show ds[j]?=some d from e)
  refine⟨v,?_,f⟩
  unfold L2.atI
  rw [h.len,show L2.ixN ds.length i=some j from en]
  exact e1
theorem zaf.cut{ds:List PyData}{vs:List V}(h:zaf K H ds vs)(lo hi:Option Int):zaf K H (FL.cut ds lo hi) (zq6 vs lo hi):=by
 unfold FL.cut zq6
 rw [h.len]
 exact(h.drop _).take _
end
theorem za1{α:Type}{c:Bool}{r:R α}{d:α}(h:chk c r=.ok d):c=true/\r=.ok d:=by
 cases c with
 | true=>exact⟨rfl,h⟩
 | false=>exact nomatch (show(R.bad:R α)=.ok d from h)
section
variable {X:Cx}
theorem zmm{pins:List (Addr×Obj)}{σ:L2.St}{s:Shared}{H:Hp}{Q:VK}{w:Value}{ds:List D}{vs:List V}(f:zaf X.K H ds vs)(q:∀ v H',zaB H H'->Fz X.K H' (.list ds) v->Q v H')
  (h:EP X pins σ (fun v H1=>∃ p,v=.ref p/\H p=none/\H1=upd H p (.lst vs)) w s):EP X pins σ Q w s:=by
 obtain⟨v,H1,I,r,p,rfl,hp,rfl⟩:=h
 refine zvr ⟨.ref p,_,I,r,p,.lst vs,rfl,zal,trivial,fun o=>?_⟩
 rw [zr9]
 refine q _ _ (zaB.upd hp) ?_
 simp only [Fz]
 exact⟨p,vs,rfl,.inl ⟨o,zal⟩,f.mono (Fzn.of (zaB.upd hp))⟩
theorem zbA:OpR X (binaryOp .Add) (rD X.K zaV):=by
 intro pins s σ H x y v u Q I rx ry h
 obtain⟨dx,dy,d,tx,ty,e,q⟩:=h
 cases dx with
 | int i =>
  cases dy with
  | int j=>cases e;exact zuN pins s σ H x y v u Q I rx ry ⟨i,j,tx.int,ty.int,q _ H (zaB.refl _) (zcp _)⟩
  | _=>exact nomatch (show(R.bad:R D)=.ok d from e)
 | list a =>
  cases dy with
  | list b =>
   obtain⟨c,e⟩:=za1 (show chk (leB (a.length+b.length) lim) (.ok (.list (a++b)))=.ok d from e)
   ·cases e
    obtain⟨l,xs,rfl,sx,fx⟩:=tx.lst
    obtain⟨m,ys,rfl,sy,fy⟩:=ty.lst
    cases rx
    cases ry
    obtain⟨its,r1,⟨o,n,ho,hc,hdn,hd⟩,z1⟩:=I.list sx
    obtain⟨its2,r2,⟨o2,n2,ho2,hc2,hdn2,hd2⟩,z2⟩:=I.list sy
    obtain⟨cls,dd,data,sl⟩:=o
    obtain⟨cls2,dd2,data2,sl2⟩:=o2
    simp only at hc hd hc2 hd2 hdn hdn2
    subst hc hd hc2 hd2 hdn hdn2
    have hz:its.length+its2.length<=sizeLine:=by
     have:=ziM c
     have l0:=zb0
     rw [<- r1.length,<- r2.length,fx.len,fy.len]
     omega
    refine thn (concat_meets (Q:=EP X pins σ fun v H1=>∃ p,v=.ref p/\H p=none/\H1=upd H p (.lst (xs++ys))) ⟨_,ho,rfl⟩ ⟨_,ho2,rfl⟩ PySem.noFill_list_add PySem.seq_list_add PySem.F.slot_list_add PySem.F.entry_list_add (PySem.F.args_list_add_2 _ _)
     (list_addW l m its.toArray its2.toArray n n2 none none sl sl2 (by rw [List.size_toArray,List.size_toArray];exact hz)) ⟨ho,ho2,?_⟩) fun _ _ z=>zmm (fx.app fy) q z
    have ea:its.toArray++its2.toArray=(its++its2).toArray:=by simp
    rw [ea]
    exact⟨.ref _,_,I.zxA (t':=s.toks) (r1.append r2) (by rw [List.length_append,r1.length,r2.length];exact hz),rfl,_,rfl,I.fresh,rfl⟩
  | _=>exact nomatch (show(R.bad:R D)=.ok d from e)
 | tuple a =>
  cases dy with
  | tuple b =>
   obtain⟨c,e⟩:=za1 (show chk (leB (a.length+b.length) lim) (.ok (.tuple (a++b)))=.ok d from e)
   ·cases e
    obtain⟨l,xs,rfl,sx,fx⟩:=tx.tup
    obtain⟨m,ys,rfl,sy,fy⟩:=ty.tup
    have hz:xs.length+ys.length<=sizeLine:=by
     have:=ziM c
     have l0:=zb0
     rw [fx.len,fy.len]
     omega
    by_cases x0:xs=[]
    ·subst x0
     have a0:a=[]:=by have:=fx.len;cases a with|nil=>rfl|cons _ _=>simp at this
     subst a0
     cases rx
     cases ry
     obtain⟨its,r1,p1,z1⟩:=I.tuple sx
     obtain⟨its2,r2,p2,z2⟩:=I.tuple sy
     cases r1
     obtain⟨⟨cls,dd,data,sl⟩,ho,hc,n,hd⟩:=id p1
     obtain⟨⟨cls2,dd2,data2,sl2⟩,ho2,hc2,n2,hd2⟩:=id p2
     simp only at hc hd hc2 hd2
     subst hc hd hc2 hd2
     exact concat_meets ⟨_,ho,rfl⟩ ⟨_,ho2,rfl⟩ noFill_tuple_add seq_tuple_add PySem.F.slot_tuple_add PySem.F.entry_tuple_add (PySem.F.args_tuple_add_2 _ _)
      (tuple_addW0 l m #[] its2.toArray n n2 dd dd2 sl sl2 rfl) ⟨ho,ho2,⟨.ref m,H,I.tok _,rfl,q _ H (zaB.refl _) ty⟩⟩
    ·exact zs1 pins s σ H _ _ v u Q I rx ry ⟨l,m,xs,ys,rfl,rfl,sx,sy,x0,hz,fun y0=>by
      subst y0
      have b0:b=[]:=by have:=fy.len;cases b with|nil=>rfl|cons _ _=>simp at this
      subst b0
      rw [List.append_nil] at q
      exact q _ H (zaB.refl _) tx,fun _ p hp=>q _ _ (zaB.upd hp) (zmj (.inl zal) ((fx.app fy).mono (Fzn.of (zaB.upd hp))))⟩
  | _=>exact nomatch (show(R.bad:R D)=.ok d from e)
 | _=>exact nomatch (show(R.bad:R D)=.ok d from e)
theorem zqw{f:Value->Value->Sem Value}{C:Int->Int->Prop}{g:Int->Int->Int}{c:Int->Int->Bool}{G:D->D->R D}(ho:OpR X f (rI C fun i j=>.int (g i j)))(hC:∀ i j,c i j=true->C i j)
  (hG:∀ dx dy d,G dx dy=.ok d->∃ i j,dx=.int i/\dy=.int j/\c i j=true/\d=.int (g i j)):OpR X f (rD X.K G):=by
 intro pins s σ H x y v u Q I rx ry h
 obtain⟨dx,dy,d,tx,ty,e,q⟩:=h
 obtain⟨i,j,rfl,rfl,cc,rfl⟩:=hG _ _ _ e
 exact ho pins s σ H x y v u Q I rx ry ⟨i,j,tx.int,ty.int,hC i j cc,q _ H (zaB.refl _) (zcp _)⟩
theorem zqW{c:Int->Int->Bool}{g:Int->Int->Int}{G:D->D->R D}(h:∀ i j,G (.int i) (.int j)=chk (c i j) (.ok (.int (g i j))))(h0:∀ dx dy,(¬ ∃ i j,dx=.int i/\dy=.int j)->G dx dy=.bad) :
  ∀ dx dy d,G dx dy=.ok d->∃ i j,dx=.int i/\dy=.int j/\c i j=true/\d=.int (g i j):=by
 intro dx dy d e
 by_cases k:∃ i j,dx=.int i/\dy=.int j
 ·obtain⟨i,j,rfl,rfl⟩:=k
  rw [h] at e
  obtain⟨cc,e⟩:=za1 e
  cases e
  exact⟨i,j,rfl,rfl,cc,rfl⟩
 ·rw [h0 _ _ k] at e;cases e
theorem zl3{dx dy:D}{G:D->D->R D}(hb:∀ dx dy,(∀ i,dx≠.int i)->G dx dy=.bad)(hb2:∀ i dy,(∀ j,dy≠.int j)->G (.int i) dy=.bad)(h:¬ ∃ i j,dx=.int i/\dy=.int j):G dx dy=.bad:=by
 cases dx with
 | int i=>exact hb2 i dy fun j e=>h ⟨i,j,rfl,e⟩
 | _=>exact hb _ _ fun i e=>nomatch e
theorem zqv:OpR X (binaryOp .Sub) (rD X.K zhr):=zqw (C:=fun _ _=>True) (c:=fun _ _=>true) (g:=fun i j=>i-j)
 (fun pins s σ H x y v u Q I rx ry ⟨i,j,e1,e2,_,q⟩=>zuG pins s σ H x y v u Q I rx ry ⟨i,j,e1,e2,q⟩) (fun _ _ _=>trivial)
 (zqW (fun _ _=>rfl) fun dx dy h=>zl3 (fun dx dy h=>by cases dx <;> first|rfl|exact absurd rfl (h _)) (fun i dy h=>by cases dy <;> first|rfl|exact absurd rfl (h _)) h)
theorem zqA{i j:Int}(h:zot i j=true):IntMulOk i j:=by
 have:=ziM h
 have b:∀ k:Int,k.natAbs<2^(k.natAbs.log2+1):=fun k=>Nat.lt_log2_self
 exact mulOk_of (a:=i.natAbs.log2+1) (b:=j.natAbs.log2+1) (b i) (b j) (by omega)
theorem zqu{k:Nat}(hr:zce k X.A):OpR X (binaryOp .FloorDiv) (rI (fun _ j=>j≠0) fun i j=>.int (i.fdiv j)):=by
 intro pins s σ H x y v u Q I rx ry h
 obtain⟨i,j,rfl,rfl,hc,q⟩:=h
 obtain⟨t,rfl⟩:=rx
 obtain⟨t',rfl⟩:=ry
 exact floordiv_int hc ⟨.int (i.fdiv j),H,I.tok _,⟨_,rfl⟩,q⟩ (.inr (I.pyl (by have:=hr.dp;omega)))
theorem zdI{k:Nat}(hr:zce k X.A):OpR X (binaryOp .FloorDiv) (rD X.K zaG):=zqw (C:=fun _ j=>j≠0) (c:=fun i j=>decide (j≠0)) (g:=fun i j=>i.fdiv j) (zqu hr) (fun i j h=>by simpa using h)
 (zqW (fun _ _=>rfl) fun dx dy h=>zl3 (fun dx dy h=>by cases dx <;> first|rfl|exact absurd rfl (h _)) (fun i dy h=>by cases dy <;> first|rfl|exact absurd rfl (h _)) h)
theorem zjL:OpR X (binaryOp .Mod) (rD X.K zgd):=zqw (C:=fun _ j=>j≠0) (c:=fun i j=>decide (j≠0)) (g:=fun i j=>i.fmod j) zs0 (fun i j h=>by simpa using h)
 (zqW (fun _ _=>rfl) fun dx dy h=>zl3 (fun dx dy h=>by cases dx <;> first|rfl|exact absurd rfl (h _)) (fun i dy h=>by cases dy <;> first|rfl|exact absurd rfl (h _)) h)
theorem zjK:OpR X (binaryOp .Pow) (rD X.K zhI):=zqw (C:=zxO) (c:=fun i j=>decide (0<=j)&&leB j.toNat 1000000&&leB i.natAbs 18446744073709551615) (g:=fun i j=>i^j.toNat) zuH (fun i j h=>by simp only [Bool.and_eq_true,decide_eq_true_eq,leB_iff] at h;exact⟨h.1.1,by omega,by omega⟩)
 (zqW (fun _ _=>rfl) fun dx dy h=>zl3 (fun dx dy h=>by cases dx <;> first|rfl|exact absurd rfl (h _)) (fun i dy h=>by cases dy <;> first|rfl|exact absurd rfl (h _)) h)
theorem ztS:UnR X (unaryOp .USub) (rD1 X.K zrE):=by
 intro pins s σ H x v Q I rx h
 obtain⟨dx,d,tx,e,q⟩:=h
 cases dx with
 | int i=>cases e;exact ztR pins s σ H x v Q I rx ⟨i,tx.int,q _ H (zaB.refl _) (zcp _)⟩
 | _=>exact nomatch (show(R.bad:R D)=.ok d from e)
theorem zyk(hu:X.A.units+64<cLine):OpR X (compareOp .Eq) (rD X.K eqD):=by
 intro pins s σ H x y v u Q I rx ry h
 obtain⟨dx,dy,d,tx,ty,e,q⟩:=h
 obtain⟨c,e⟩:=za1 e
 ·cases e
  simp only [Bool.and_eq_true] at c
  exact zuL hu pins s σ H x y v u Q I rx ry ⟨dx,dy,tx.is (SeqAt.canLay_of_shaped c.1),ty.is (SeqAt.canLay_of_shaped c.2),c.1,c.2,q _ H (zaB.refl _) (zhy _)⟩
theorem zye(hu:X.A.units+64<cLine):OpR X (compareOp .NotEq) (rD X.K neD):=by
 intro pins s σ H x y v u Q I rx ry h
 obtain⟨dx,dy,d,tx,ty,e,q⟩:=h
 obtain⟨c,e⟩:=za1 e
 ·cases e
  simp only [Bool.and_eq_true] at c
  exact zuI hu pins s σ H x y v u Q I rx ry ⟨dx,dy,tx.is (SeqAt.canLay_of_shaped c.1),ty.is (SeqAt.canLay_of_shaped c.2),c.1,c.2,q _ H (zaB.refl _) (zhy _)⟩
theorem zge:∀ a b,FL.lexLt a b=HT.lexLt a b
 | [],[]=>rfl
 | [],_::_=>rfl
 | _::_,[]=>rfl
 | x::xs,y::ys=>by unfold FL.lexLt HT.lexLt;rw [zge xs ys]
theorem zwG{op:CmpOp}{p:Int->Int->Bool}{q:List Int->List Int->Bool}(hi:OpR X (compareOp op) (rI0 fun i j=>.bl (p i j)))
  (ht:∀{s:Shared} {l b:Addr} {items items2:Array Value} {ns ms:List Int} {Q:Value->Shared->Prop},IsTup s.heap l items->IsTup s.heap b items2->IntsAre items.toList ns->IntsAre items2.toList ms ->
   Q (.bool (q ns ms)) s->wpAny (model X.prog X.w) X.A (compareOp op (.ref l) (.ref b)) Q X.xe s):OpR X (compareOp op) (rD X.K (zxI p q)):=by
 intro pins s σ H x y v u Q I rx ry h
 obtain⟨dx,dy,d,tx,ty,e,k⟩:=h
 cases dx with
 | int i =>
  cases dy with
  | int j=>cases e;exact hi pins s σ H x y v u Q I rx ry ⟨i,j,tx.int,ty.int,k _ H (zaB.refl _) (zhy _)⟩
  | _=>exact nomatch (show(R.bad:R D)=.ok d from e)
 | tuple a =>
  cases dy with
  | tuple b =>
   replace e:((R.of (intsOf a)).bind fun x=>(R.of (intsOf b)).bind fun y=>R.ok (PyData.bool (q x y)))=.ok d:=e
   cases ea:intsOf a with
   | none=>rw [ea] at e;cases e
   | some ns =>
    cases eb:intsOf b with
    | none=>rw [ea,eb] at e;cases e
    | some ms =>
     rw [ea,eb] at e
     cases e
     obtain⟨l,xs,rfl,sx,fx⟩:=tx.tup
     obtain⟨m,ys,rfl,sy,fy⟩:=ty.tup
     cases rx
     cases ry
     obtain⟨rfl,_⟩:=fx.ints ea
     obtain⟨rfl,_⟩:=fy.ints eb
     obtain⟨its,r1,p1,_⟩:=I.tuple sx
     obtain⟨its2,r2,p2,_⟩:=I.tuple sy
     exact ht p1 p2 (intsAre_of r1) (intsAre_of r2) ⟨.bl (q ns ms),H,I,rfl,k _ H (zaB.refl _) (zhy _)⟩
  | _=>exact nomatch (show(R.bad:R D)=.ok d from e)
 | _=>exact nomatch (show(R.bad:R D)=.ok d from e)
theorem zyf(hu:X.A.units+64<cLine):OpR X (compareOp .Lt) (rD X.K ltD):=zwG zwz fun p1 p2 i1 i2 h=>HT.zfk p1 p2 i1 i2 (by omega) (by rw [<- zge];exact h)
theorem zoi{op:CmpOp}{p:Int->Int->Bool}(hi:OpR X (compareOp op) (rI0 fun i j=>.bl (p i j))):OpR X (compareOp op) (rD X.K (zvZ p)):=by
 intro pins s σ H x y v u Q I rx ry h
 obtain⟨dx,dy,d,tx,ty,e,k⟩:=h
 cases dx with
 | int i =>
  cases dy with
  | int j=>cases e;exact hi pins s σ H x y v u Q I rx ry ⟨i,j,tx.int,ty.int,k _ H (zaB.refl _) (zhy _)⟩
  | _=>exact nomatch (show(R.bad:R D)=.ok d from e)
 | _=>exact nomatch (show(R.bad:R D)=.ok d from e)
theorem zyg(hu:X.A.units+64<cLine):OpR X (compareOp .LtE) (rD X.K leD):=zoi zwA
theorem zyh(hu:X.A.units+64<cLine):OpR X (compareOp .Gt) (rD X.K gtD):=zoi zwB
theorem zyi(hu:X.A.units+64<cLine):OpR X (compareOp .GtE) (rD X.K geD):=zoi zwC
theorem zwF:OpR X (compareOp .Is) (rD X.K isD):=by
 intro pins s σ H x y v u Q I rx ry h
 obtain⟨dx,dy,d,tx,ty,e,q⟩:=h
 cases dy with
 | none =>
  refine zuJ pins s σ H x y v u Q I rx ry ⟨ty.none,?_⟩
  have:d=.bool (decide (x=.non)):=by
   cases dx with
   | none=>have:=tx.none;subst this;cases e;rfl
   | bool b=>have:=tx.bool;subst this;cases e;rfl
   | int b=>have:=tx.int;subst this;cases e;rfl
   | str b =>
    have:x=.str b:=by simpa [Tp,Fz] using tx
    subst this;cases e;rfl
   | list b=>obtain⟨_,_,rfl,_⟩:=tx.lst;cases e;rfl
   | tuple b=>obtain⟨_,_,rfl,_⟩:=tx.tup;cases e;rfl
   | dict b=>obtain⟨_,rfl,_⟩:=tx;cases e;rfl
  subst this
  exact q _ H (zaB.refl _) (zhy _)
 | _=>exact nomatch (show(R.bad:R D)=.ok d from e)
theorem zcu:IxR X (rD X.K ixD):=by
 intro value slice pins s σ H x y v u Q I rx ry h hs
 obtain⟨dx,dy,d,tx,ty,e,q⟩:=h
 cases dx with
 | list a =>
  cases dy with
  | int i =>
   replace e:R.of (FL.atI a i)=.ok d:=e
   cases ea:FL.atI a i with
   | none=>rw [ea] at e;cases e
   | some d' =>
    rw [ea] at e
    cases e
    obtain⟨l,xs,rfl,sx,fx⟩:=tx.lst
    obtain⟨w,ew,fw⟩:=fx.atI ea
    exact ztf value slice pins s σ H _ y v u Q I rx ry ⟨l,xs,i,w,rfl,ty.int,sx,ew,q _ H (zaB.refl _) fw⟩ hs
  | _=>exact nomatch (show(R.bad:R D)=.ok d from e)
 | tuple a =>
  cases dy with
  | int i =>
   replace e:R.of (FL.atI a i)=.ok d:=e
   cases ea:FL.atI a i with
   | none=>rw [ea] at e;cases e
   | some d' =>
    rw [ea] at e
    cases e
    obtain⟨l,xs,rfl,sx,fx⟩:=tx.tup
    obtain⟨w,ew,fw⟩:=fx.atI ea
    exact zu8 value slice pins s σ H _ y v u Q I rx ry ⟨l,xs,i,w,rfl,ty.int,sx,ew,q _ H (zaB.refl _) fw⟩ hs
  | _=>exact nomatch (show(R.bad:R D)=.ok d from e)
 | _=>exact nomatch (show(R.bad:R D)=.ok d from e)
theorem zjr:zxi X (fun x H Q=>∃ d k,Tp X.K H d x/\zkJ d=.ok k/\Q k H):=by
 intro pins s σ H x v Q I rx h
 obtain⟨d,k,tx,e,q⟩:=h
 refine ztU pins s σ H x v Q I rx ⟨k,?_,q⟩
 cases d with
 | none=>have:=tx.none;subst this;cases e;rfl
 | bool b=>have:=tx.bool;subst this;cases e;rfl
 | int b=>have:=tx.int;subst this;cases e;rfl
 | list b =>
  obtain⟨a,vs,rfl,sx,fx⟩:=tx.lst
  cases e
  refine .inl ⟨vs,sx,?_⟩
  have:=fx.len
  cases b <;> cases vs <;> simp_all
 | tuple b =>
  obtain⟨a,vs,rfl,sx,fx⟩:=tx.tup
  cases e
  refine .inr (.inl ⟨vs,sx,?_⟩)
  have:=fx.len
  cases b <;> cases vs <;> simp_all
 | _=>exact nomatch (show(R.bad:R Bool)=.ok k from e)
end
end
section
variable [Cs]
theorem zf0:fillsNumberSlot (.type "tuple") "mul"=pure false :=
 PySem.fillsNumberSlot_seq (id:="tuple.__mul__") (r:=some (.builtin "tuple.__rmul__")) PySem.F.slot_tuple_mul.lookup (by decide +kernel) PySem.F.slot_tuple_rmul.lookup (by decide +kernel)
theorem zjA:seqRepeat? (.type "tuple")=pure (some (.builtin "tuple.__mul__")):=by
 unfold seqRepeat?
 rw [PySem.seqSlot_of (T:="tuple") (name:="__mul__") (id:="tuple.__mul__") PySem.F.slot_tuple_mul.lookup (by decide +kernel),PySem.seqSlot_of (T:="tuple") (name:="__rmul__") (id:="tuple.__rmul__") PySem.F.slot_tuple_rmul.lookup (by decide +kernel)]
 rfl
section
open PySem.SeqAt
open PySem.AutoSeq1 (wpAny_loadPart')
open PySem.MeetsSeq PySem.MeetsSeq2 PySem.MeetsSeq3
theorem zhx(a:Int)(t:Tok)(l:Addr)(items:Array Value)(n:Nat)(dd:Option Addr)(sl:Array (Option Value)) :
  Meets (Builtin.«int.__rmul__» ⟨[.int a t,.ref l],[]⟩) (fun _ R s=>s.heap.get? l=some { cls:=.type "tuple",dict:=dd,data:=.seq items n,slots:=sl }/\R (.ok (.ret Value.notImplemented)) s) :=
 .of_wp fun prog w A R s h=>by obtain⟨hp,g,d,tk,os⟩:=s;obtain⟨hl,h⟩:=h;wp_walk;exact⟨_,rfl,h⟩
theorem zmE(l:Addr)(items:Array Value)(n:Nat)(dd:Option Addr)(sl:Array (Option Value))(k:Int)(t:Tok)(h0:items.isEmpty=false)(h1:2<=k)(h2:k<2^62)(h3:items.size*k.toNat<=sizeLine) :
  Meets (Builtin.«tuple.__mul__» ⟨[.ref l,.int k t],[]⟩) (fun _ R s=>s.heap.get? l=some { cls:=.type "tuple",dict:=dd,data:=.seq items n,slots:=sl } /\
   R (.ok (.ret (.ref s.heap.objs.size))) { s with heap:=s.heap.push { cls:=.type "tuple",data:=.seq ((List.replicate k.toNat items).foldl (·++·) #[]) } }) :=
 .of_wp fun prog w A R s h=>by
  obtain⟨hp,g,d,tk,os⟩:=s;obtain⟨hl,h⟩:=h
  have f1:=AutoSeq1.idx_int
  have i0:(items.size:Int)*k<=(sizeLine:Int):=by
   have e:((items.size*k.toNat:Nat):Int)=(items.size:Int)*k:=by rw [Int.natCast_mul,Int.toNat_of_nonneg (by omega)]
   rw [<- e]
   exact Int.ofNat_le.mpr h3
  have hA:¬ (decide (k < -2^63)||decide (k ≥ 2^63))=true:=by
   simp only [Bool.or_eq_true,decide_eq_true_eq,not_or]
   constructor <;> omega
  have hB:¬ (items.isEmpty||k==1)=true:=by
   rw [h0]
   simp only [Bool.false_or,beq_iff_eq]
   omega
  have hC:¬ (decide (k<=0)||items.isEmpty)=true:=by
   rw [h0]
   simp only [Bool.or_false,decide_eq_true_eq]
   omega
  have sz:(sizeLine:Int)<=16777216:=by rw [sizeLine_eq];decide
  have hD:¬ (items.size:Int)*k > (2^63-1) / 8:=by omega
  have hE:¬ Builtin.Tuple.tupleTooMany ((items.size:Int)*k)=true:=by
   unfold Builtin.Tuple.tupleTooMany
   simp only [decide_eq_true_eq]
   omega
  have hs:sizeOk (.seq (List.foldl (fun x1 x2=>x1++x2) #[] (List.replicate k.toNat items))):=by
   obtain⟨its⟩:=items
   have:=foldl_rep its k.toNat []
   rw [List.nil_append] at this
   rw [this]
   show(List.replicate k.toNat its).flatten.toArray.size<=sizeLine
   rw [List.size_toArray,len_rep,Nat.mul_comm]
   exact h3
  wp_walk
  rw [if_neg hA]
  wp_walk using wpAny_loadPart' hl
  rw [if_neg hB]
  wp_walk
  rw [if_neg hC]
  wp_walk
  rw [if_neg hD]
  wp_walk
  rw [if_neg (show ¬ (List.foldl (fun x1 x2=>x1++x2) #[] (List.replicate k.toNat items)).size > sizeLine from Nat.not_lt.mpr hs)]
  wp_walk
  exact⟨_,rfl,h⟩
end
section
variable {prog:Program}{w:World}{A:Around}{E:Value->Shared->Prop}{s:Shared}
theorem zkO{t sl:Addr}{items:Array Value}{vl vu:Value}{lo hi:Option Int}{Q:Value->Shared->Prop}(ht:IsTup s.heap t items)(hs:s.heap.IsSliceOf sl vl vu .none)(pl:IsPart vl lo)(pu:IsPart vu hi)
  (hw:HT.sIx items.size 0 lo=0/\HT.sIx items.size items.size hi=items.size)(h:Q (.ref t) s):wpAny (model prog w) A (getItem (.ref t) (.ref sl)) Q E s:=by
 obtain⟨os,hos,hcs,hds⟩:=id hs
 have hTs:s.TypeIs (.ref sl) "slice":=⟨os,hos,hcs⟩
 unfold getItem
 try with_reducible refine wpAny_holding ?_
 first|refine wpAny_bind (wpAny_pure ?_)|skip
 refine wpAny_bind (wpAny_sequenceKey ht.typeIs (by decide) ?_)
 refine wpAny_bind (wpAny_callSpecial?_slot (name:=Str.ofString "__getitem__") ht.typeIs PyProof.Rows.slot_tuple_getitem
  (wpAny_call_entry PyProof.Rows.slot_tuple_getitem ht.typeIs entry_tuple_getitem ?_ (args_tuple_getitem _ _)))
 show wpAny _ _ (Builtin.Tuple.tupleItemsOf (.ref t) >>= _) _ _ s
 refine wpAny_bind (tupleItemsOf_ ht ?_)
 refine wpAny_bind (wpAny_typeOf hTs ?_)
 rw [if_pos (by decide)]
 refine wpAny_bind (HT.zdu hs pl pu ?_)
 show wpAny _ _ (if(((HT.sIx items.size 0 lo:Nat):Int)==0&&(1:Int)==1&&(HT.sIx items.size items.size hi-HT.sIx items.size 0 lo)==items.size)=true then _ else _) _ _ s
 rw [hw.1,hw.2,if_pos (by simp)]
 refine wpAny_bind (m:=Builtin.Tuple.tupleIsExact _) ?_
 unfold Builtin.Tuple.tupleIsExact
 refine wpAny_bind (wpAny_typeOf ht.typeIs (wpAny_pure ?_))
 rw [if_pos (by decide)]
 exact wpAny_bind (wpAny_rule (wpAny_bind (wpAny_pure (wpAny_pure ⟨_,rfl,wpAny_pure h⟩))))
end
section
variable {X:Cx}
theorem zde:OpR X (binaryOp .Mult) (rD X.K zbS):=by
 intro pins s σ H x y v u Q I rx ry h
 obtain⟨dx,dy,d,tx,ty,e,q⟩:=h
 cases dx with
 | int i =>
  cases dy with
  | int j =>
   obtain⟨c,e⟩:=za1 (show chk (zot i j) (.ok (.int (i*j)))=.ok d from e)
   cases e
   exact zsZ pins s σ H x y v u Q I rx ry ⟨i,j,tx.int,ty.int,zqA c,q _ H (zaB.refl _) (zcp _)⟩
  | _=>exact nomatch (show(R.bad:R D)=.ok d from e)
 | tuple a =>
  cases dy with
  | int k =>
   obtain⟨c,e⟩:=za1 (show chk (!a.isEmpty&&leB 2 k.toNat&&leB k.toNat 1000000&&leB (a.length*k.toNat) lim) (.ok (.tuple (List.replicate k.toNat a).flatten))=.ok d from e)
   cases e
   simp only [Bool.and_eq_true,leB_iff] at c
   obtain⟨⟨⟨c0,c1⟩,c2⟩,c3⟩:=c
   obtain⟨l,xs,rfl,sx,fx⟩:=tx.tup
   have:=ty.int
   subst this
   cases rx
   obtain⟨t,rfl⟩:=ry
   obtain⟨its,r1,p1,z1⟩:=I.tuple sx
   obtain⟨⟨cls,dd,data,sl⟩,ho,hc,n,hd⟩:=id p1
   simp only at hc hd
   subst hc hd
   have hl:its.length=a.length:=by rw [<- r1.length,fx.len]
   have hz:its.length*k.toNat<=sizeLine:=by rw [hl];exact Nat.le_trans c3 zb0
   have he:its.toArray.isEmpty=false:=by
    cases its with
    | nil=>simp only [List.length_nil] at hl;cases a with|nil=>simp at c0|cons _ _=>simp at hl
    | cons _ _=>rfl
   refine wpAny_binaryOp_repeat_ref (T:="tuple") (U:="int") (by decide) ⟨_,ho,rfl⟩ (fun s'=>typeIs_int s' k t) zf0 PySem.F.fills_int_mul PySem.F.slot_int_rmul zjA PySem.F.slot_int_index.lookup
    (call_meets PySem.F.slot_int_rmul (typeIs_int s k t) PySem.F.entry_int_rmul (PySem.F.args_int_rmul_2 _ _) (zhx k t l its.toArray n dd sl)
     ⟨ho,rfl,⟨_,ho,rfl⟩,call_meets PySem.F.slot_tuple_mul ⟨_,ho,rfl⟩ PySem.F.entry_tuple_mul (PySem.F.args_tuple_mul_2 _ _) (zmE l its.toArray n dd sl k t he (by omega) (by omega) (by rw [List.size_toArray];exact hz)) ⟨ho,?_⟩⟩)
   have en:=foldl_rep its k.toNat []
   rw [List.nil_append] at en
   rw [en]
   have hp:H s.heap.objs.size=none:=I.hok.fresh (Nat.le_refl _)
   refine⟨.ref s.heap.objs.size,_,I.laid (t':=s.toks) (o:=.tup (List.replicate k.toNat xs).flatten) (fun b ob q=>Heap.get?_push_of_some _ q) (Nat.le_refl _) ⟨by rw [len_rep,Nat.mul_comm,r1.length];exact hz,_,r1.rep k.toNat,IsTup.new _ _⟩,rfl,
    q _ _ (zaB.upd hp) (zmj (.inl zal) ((fx.rep k.toNat).mono (Fzn.of (zaB.upd hp))))⟩
  | _=>exact nomatch (show(R.bad:R D)=.ok d from e)
 | _=>exact nomatch (show(R.bad:R D)=.ok d from e)
theorem zpk{α:Type}{ds:List α}{lo hi:Option Int}(h1:FL.sIx ds.length 0 lo=0)(h2:FL.sIx ds.length ds.length hi=ds.length):FL.cut ds lo hi=ds:=by
 unfold FL.cut
 rw [h1,h2]
 simp
theorem zwg:SlR X (zxt X.K):=by
 intro pins s σ H x v vl vu lo hi sl Q I rx hs pl pu h
 obtain⟨dx,d,tx,e,q⟩:=h
 cases dx with
 | list a =>
  cases e
  obtain⟨l,xs,rfl,sx,fx⟩:=tx.lst
  obtain⟨T,id,h1,h2,h3⟩:=zsh pins s σ H _ v vl vu lo hi sl (fun v H1=>∃ p,v=.ref p/\H p=none/\H1=upd H p (.lst (zq6 xs lo hi))) I rx hs pl pu ⟨l,xs,rfl,sx,fun p hp=>⟨p,rfl,hp,rfl⟩⟩
  exact⟨T,id,h1,h2,thn h3 fun _ _ z=>zmm (fx.cut lo hi) q z⟩
 | tuple a =>
  cases e
  obtain⟨l,xs,rfl,sx,fx⟩:=tx.tup
  by_cases w:HT.sIx xs.length 0 lo=0/\HT.sIx xs.length xs.length hi=xs.length
  ·cases rx
   obtain⟨its,r,ht,hz⟩:=I.tuple sx
   have hlen:its.toArray.size=xs.length:=by rw [List.size_toArray];exact r.length.symm
   refine⟨"tuple",_,PyProof.Rows.slot_tuple_getitem.lookup,ht.typeIs,zkO ht hs pl pu (by rw [hlen];exact w) ⟨.ref l,H,I,rfl,q _ H (zaB.refl _) ?_⟩⟩
   rw [fx.len] at w
   rw [zpk w.1 w.2]
   exact tx
  ·exact zt3 pins s σ H _ v vl vu lo hi sl Q I rx hs pl pu ⟨l,xs,rfl,sx,w,fun p hp=>q _ _ (zaB.upd hp) (zmj (.inl zal) ((fx.cut lo hi).mono (Fzn.of (zaB.upd hp))))⟩
 | _=>exact nomatch (show(R.bad:R D)=.ok d from e)
end
end
section
variable [Cs]
section
variable {X:Cx}
def CallD(X:Cx)(f:Value)(g:D->R D):Prop:=zfC X f (rD0 X.K g)
theorem CallD.ds{f:Value}{g:D->R D}(h:CallD X f g):zfC X f (rDs X.K (one g)):=fun pins s σ H xs us Q I r ⟨ds,d,fz,e,q⟩=>by
 cases ds with
 | nil=>exact nomatch (show(R.bad:R D)=.ok d from e)
 | cons d0 r0 =>
  cases r0 with
  | nil =>
   simp only [zaf] at fz
   obtain⟨v,r',rfl,fv,e2⟩:=fz
   subst e2
   exact h pins s σ H _ us Q I r ⟨v,d0,d,rfl,fv.tp,e,q⟩
  | cons _ _=>exact nomatch (show(R.bad:R D)=.ok d from e)
theorem zg3:CallD X (.builtin "len") zdg:=by
 intro pins s σ H xs us Q I r h
 obtain⟨x,dx,d,rfl,tx,e,q⟩:=h
 cases dx with
 | list a=>obtain⟨p,vs,rfl,sx,fx⟩:=tx.lst;cases e;exact zfM pins s σ H _ us Q I r ⟨p,vs,rfl,.inl sx,by rw [fx.len];exact q _ H (zaB.refl _) (zcp _)⟩
 | tuple a=>obtain⟨p,vs,rfl,sx,fx⟩:=tx.tup;cases e;exact zfM pins s σ H _ us Q I r ⟨p,vs,rfl,.inr sx,by rw [fx.len];exact q _ H (zaB.refl _) (zcp _)⟩
 | _=>exact nomatch (show(R.bad:R D)=.ok d from e)
theorem ztx:CallD X (.builtin "abs") zpA:=by
 intro pins s σ H xs us Q I r h
 obtain⟨x,dx,d,rfl,tx,e,q⟩:=h
 cases dx with
 | int i=>have:=tx.int;subst this;cases e;exact zrd pins s σ H _ us Q I r ⟨i,rfl,q _ H (zaB.refl _) (zcp _)⟩
 | _=>exact nomatch (show(R.bad:R D)=.ok d from e)
theorem zxc(hc:X.calm=true):CallD X (.builtin "all") zv1:=by
 intro pins s σ H xs us Q I r h
 obtain⟨x,dx,d,rfl,tx,e,q⟩:=h
 cases dx with
 | list a =>
  obtain⟨p,vs,rfl,sx,fx⟩:=tx.lst
  replace e:((R.of (boolsOf a)).bind fun x=>R.ok (PyData.bool (x.all id)))=.ok d:=e
  cases ea:boolsOf a with
  | none=>rw [ea] at e;cases e
  | some ns =>
   rw [ea] at e
   cases e
   obtain⟨rfl,_⟩:=fx.bools ea
   exact zrc hc pins s σ H _ us Q I r ⟨p,ns,rfl,sx,q _ H (zaB.refl _) (zhy _)⟩
 | _=>exact nomatch (show(R.bad:R D)=.ok d from e)
theorem zr0:CallD X (.type "list") ziI:=by
 intro pins s σ H xs us Q I r h
 obtain⟨x,dx,d,rfl,tx,e,q⟩:=h
 cases dx with
 | list a =>
  obtain⟨p,vs,rfl,sx,fx⟩:=tx.lst
  cases e
  exact thn (zfL pins s σ H _ us (fun v H1=>∃ p,v=.ref p/\H p=none/\H1=upd H p (.lst vs)) I r ⟨p,vs,rfl,.inl sx,fun l hl=>⟨l,rfl,hl,rfl⟩⟩) fun _ _ z=>zmm fx q z
 | tuple a =>
  obtain⟨p,vs,rfl,sx,fx⟩:=tx.tup
  cases e
  exact thn (zfL pins s σ H _ us (fun v H1=>∃ p,v=.ref p/\H p=none/\H1=upd H p (.lst vs)) I r ⟨p,vs,rfl,.inr sx,fun l hl=>⟨l,rfl,hl,rfl⟩⟩) fun _ _ z=>zmm fx q z
 | _=>exact nomatch (show(R.bad:R D)=.ok d from e)
theorem ztw:CallD X (.type "tuple") zjt:=by
 intro pins s σ H xs us Q I r h
 obtain⟨x,dx,d,rfl,tx,e,q⟩:=h
 cases dx with
 | list a =>
  obtain⟨p,vs,rfl,sx,fx⟩:=tx.lst
  cases e
  exact ze4 pins s σ H _ us Q I r ⟨p,vs,rfl,.inl ⟨sx,fun l hl=>q _ _ (zaB.upd hl) (zmj (.inl zal) (fx.mono (Fzn.of (zaB.upd hl))))⟩⟩
 | tuple a =>
  obtain⟨p,vs,rfl,sx,fx⟩:=tx.tup
  cases e
  exact ze4 pins s σ H _ us Q I r ⟨p,vs,rfl,.inr ⟨sx,q _ H (zaB.refl _) tx⟩⟩
 | _=>exact nomatch (show(R.bad:R D)=.ok d from e)
end
theorem Tp.ty{K:W.Frag}{H:Hp}{d:D}{x:V}(c:zxp d=true)(h:Tp K H d x):Ty K H x (.type (tyOf d)):=by
 cases d with
 | none=>have:=h.none;subst this;exact .non
 | bool b=>have:=h.bool;subst this;exact .bl b
 | int b=>have:=h.int;subst this;exact .int b
 | str b =>
  have:x=.str b:=by simpa [Tp,Fz] using h
  subst this;exact .str b
 | list b=>obtain⟨_,_,rfl,s,_⟩:=h.lst;exact .lst s
 | tuple b=>obtain⟨_,_,rfl,s,_⟩:=h.tup;exact .tup s
 | dict b=>cases c
def znc(T:String):Prop:=∀(K:W.Frag) (d:D),PySem.W.kitOne K (.type (tyOf d)) (.type T)=some (isI T d)
theorem zoH{T:String}(h0:KC.zf2 "NoneType" T=some (isI T .none)) (h1:∀ b,KC.zf2 "bool" T=some (isI T (.bool b))) (h2:∀ b,KC.zf2 "int" T=some (isI T (.int b))) (h3:∀ b,KC.zf2 "str" T=some (isI T (.str b))) (h4:∀ b,KC.zf2 "list" T=some (isI T (.list b)))
  (h5:∀ b,KC.zf2 "tuple" T=some (isI T (.tuple b))) (h6:∀ b,KC.zf2 "dict" T=some (isI T (.dict b))):znc T:=fun K d=>by
 cases d with
 | none=>exact h0
 | bool b=>exact h1 b
 | int b=>exact h2 b
 | str b=>exact h3 b
 | list b=>exact h4 b
 | tuple b=>exact h5 b
 | dict b=>exact h6 b
theorem zta:znc "int":=zoH (by decide +kernel) (fun _=>(by decide +kernel:KC.zf2 "bool" "int"=some (isI "int" (.bool true)))) (fun _=>(by decide +kernel:KC.zf2 "int" "int"=some (isI "int" (.int 0)))) (fun _=>(by decide +kernel:KC.zf2 "str" "int"=some (isI "int" (.str "")))) (fun _=>(by decide +kernel:KC.zf2 "list" "int"=some (isI "int" (.list [])))) (fun _=>(by decide +kernel:KC.zf2 "tuple" "int"=some (isI "int" (.tuple [])))) (fun _=>(by decide +kernel:KC.zf2 "dict" "int"=some (isI "int" (.dict []))))
theorem zqK:znc "bool":=zoH (by decide +kernel) (fun _=>(by decide +kernel:KC.zf2 "bool" "bool"=some (isI "bool" (.bool true)))) (fun _=>(by decide +kernel:KC.zf2 "int" "bool"=some (isI "bool" (.int 0)))) (fun _=>(by decide +kernel:KC.zf2 "str" "bool"=some (isI "bool" (.str "")))) (fun _=>(by decide +kernel:KC.zf2 "list" "bool"=some (isI "bool" (.list [])))) (fun _=>(by decide +kernel:KC.zf2 "tuple" "bool"=some (isI "bool" (.tuple [])))) (fun _=>(by decide +kernel:KC.zf2 "dict" "bool"=some (isI "bool" (.dict []))))
theorem kit_tuple:znc "tuple":=zoH (by decide +kernel) (fun _=>(by decide +kernel:KC.zf2 "bool" "tuple"=some (isI "tuple" (.bool true)))) (fun _=>(by decide +kernel:KC.zf2 "int" "tuple"=some (isI "tuple" (.int 0)))) (fun _=>(by decide +kernel:KC.zf2 "str" "tuple"=some (isI "tuple" (.str "")))) (fun _=>(by decide +kernel:KC.zf2 "list" "tuple"=some (isI "tuple" (.list [])))) (fun _=>(by decide +kernel:KC.zf2 "tuple" "tuple"=some (isI "tuple" (.tuple [])))) (fun _=>(by decide +kernel:KC.zf2 "dict" "tuple"=some (isI "tuple" (.dict []))))
section
variable {K:W.Frag}{X:Cx}{a:Expr}{f:EF}{pos:Pos}
theorem zuk{T:String}{tn:Str}{p p2:Pos}(kt:znc T)(hg:Gl X "isinstance") (hm:X.mg "isinstance"=none) (hg2:Gl X tn) (hm2:X.mg tn=none) (hv2:bootBuiltins tn=some (.type T)) (ha:PV K X a f) (hn:tn ≠ "__name__":=by decide) (hd:(tn==("__debug__":Str))=false:=by decide)
  (hs1:starEach [a,.Name tn p2] X.env=(false,eval a X.env)::starEach [.Name tn p2] X.env:=by exact FL.se rfl) (hs2:starEach [.Name tn p2] X.env=(false,eval (.Name tn p2) X.env)::starEach [] X.env:=by exact FL.se rfl) (hpl:(backTo pos (starEach [.Name tn p2] X.env)).any (·.1)=false:=by exact FL.sp rfl) :
  PV K X (.Call (.Name "isinstance" p) [a,.Name tn p2] [] pos) (e1 (zdK T) f):=.mk fun hK=>by
 subst hK
 refine(zlX (x:="isinstance") (id:="isinstance") zrb hg hm KC.Bt.isinstance (zcJ (ha rfl) (zcJ (zww hg2 hm2 hv2 hn hd) zhL hs2) hs1) (by decide) (by decide) hs1 hpl).weak fun σ H Q=>?_
 rintro⟨ρ,rel,q⟩
 refine goV rel q fun dx ρ1 x H1 rel1 st1 fx q1=>?_
 obtain⟨d,ed,q3⟩:=q1.zdP
 obtain⟨c,ed⟩:=za1 ed
 cases ed
 exact⟨x,.ty T,_,_,rfl,(fun z=>nomatch z),fx.tp.ty c,kt X.K dx,q3.now rel1 _ (zhy _)⟩
theorem znT{g:D->R D}{f:EF}{e:Expr}(h:PV K X e (zag (one g) (zaa f zah))):PV K X e (e1 g f):=.mk fun hK=>(h hK).weak fun σ H Q=>by
 rintro⟨ρ,rel,q⟩
 refine⟨ρ,rel,?_⟩
 have:zag (one g) (zaa f zah) ρ=e1 g f ρ:=by
  unfold zag zaa zah e1
  cases f ρ with
  | ok x=>rfl
  | _=>rfl
 rw [this]
 exact q
end
end
section
variable [Cs]
section
variable {K:W.Frag}{ρ ρ1:En}{σ:L2.St}{H H1:Hp}{i:Nat}{d:D}
theorem zgz(h:zaw ρ i=.ok d):∃ p,ρ[i]?=some (.ow p d):=by
 unfold zaw at h
 cases e:ρ[i]? with
 | none=>rw [e] at h;cases h
 | some x =>
  rw [e] at h
  cases x with
  | ow p c=>cases h;exact⟨p,rfl⟩
  | _=>cases h
theorem Rel.zkX(r:Rel K ρ σ H)(h:zaw ρ i=.ok d):∃ a,At ρ σ i a/\zbh K H a d:=by
 obtain⟨p,e⟩:=zgz h
 have hl:i<σ.length:=by rw [<- r.len];exact(List.getElem?_eq_some_iff.mp e).1
 have o:=r.ok i _ _ e (List.getElem?_eq_getElem hl)
 cases es:σ[i] with
 | none=>rw [es] at o;exact o.elim
 | some v =>
  rw [es] at o
  cases v with
  | ref a=>exact⟨a,⟨⟨p,d,e⟩,by rw [List.getElem?_eq_getElem hl,es]⟩,o⟩
  | _=>exact o.elim
theorem Rel.again{a:Addr}(r:Rel K ρ1 σ H1)(h:zaw ρ1 i=.ok d)(at0:At ρ σ i a):zbh K H1 a d:=by
 obtain⟨b,ab,m⟩:=r.zkX h
 have:=at0.2.symm.trans ab.2
 cases this
 exact m
theorem Rel.zyc{a:Addr}{o:HO}(r:Rel K ρ σ H)(at0:At ρ σ i a)(m:zbh K (upd H a o) a d):Rel K (za4 ρ i d) σ (upd H a o):=by
 obtain⟨⟨p,c,e⟩,es⟩:=at0
 have hp:za4 ρ i d=ρ.set i (.ow p d):=by unfold za4;rw [e]
 obtain⟨u,hu,ow⟩:=r.za5 ⟨i,⟨p,c,e⟩,es⟩
 have f:Fzn H (upd H a o):=fun b w eb st=>by
  rw [zan fun z=>by subst z;rw [hu] at eb;cases eb;exact ow.zcz st]
  exact eb
 have hl:i<ρ.length:=(List.getElem?_eq_some_iff.mp e).1
 rw [hp]
 refine⟨by rw [List.length_set];exact r.len,fun j x v e1 e2=>?_,fun j k b h1 h2=>?_,r.cst.mono f⟩
 ·by_cases c:i=j
  ·subst c
   rw [List.getElem?_set_self hl] at e1
   cases e1
   rw [es] at e2
   cases e2
   exact m
  ·rw [List.getElem?_set_ne c] at e1
   refine(r.ok j x v e1 e2).mono f fun b e3 ⟨q,dd,e4⟩=>?_
   subst e3;subst e4
   refine zan fun z=>?_
   subst z
   exact c (r.sep i j b ⟨⟨p,_,e⟩,es⟩ ⟨⟨q,dd,e1⟩,e2⟩)
 ·have w:∀ j b,At (ρ.set i (.ow p d)) σ j b->At ρ σ j b:=fun j b ⟨⟨q,dd,e1⟩,e2⟩=>by
   by_cases c:i=j
   ·subst c;exact⟨⟨p,_,e⟩,e2⟩
   ·rw [List.getElem?_set_ne c] at e1;exact⟨⟨q,dd,e1⟩,e2⟩
  exact r.sep j k b (w _ _ h1) (w _ _ h2)
theorem zlJ{a:Addr}{o:HO}(at0:At ρ σ i a):Stp ρ (za4 ρ i d) σ H (upd H a o):=by
 obtain⟨⟨p,c,e⟩,es⟩:=at0
 have hp:za4 ρ i d=ρ.set i (.ow p d):=by unfold za4;rw [e]
 have hl:i<ρ.length:=(List.getElem?_eq_some_iff.mp e).1
 rw [hp]
 refine⟨fun j q=>?_,fun b w eb n=>?_⟩
 ·by_cases c:i=j
  ·subst c
   rw [List.getElem?_set_self hl,e]
   constructor
   ·rintro⟨_,z⟩;cases z;exact⟨_,rfl⟩
   ·rintro⟨_,z⟩;cases z;exact⟨_,rfl⟩
  ·rw [List.getElem?_set_ne c]
 ·rw [zan fun z=>by subst z;exact n ⟨i,⟨p,c,e⟩,es⟩]
  exact eb
end
section
variable {K:W.Frag}{X:Cx}{a b c:Expr}{f h k:EF}{pos:Pos}
theorem zys{g:D->D->R D}{i:Nat}{r:R2}(hr:∀ x y H Q,rD K g x y H Q->r x y H Q)(σ:L2.St)(H:Hp)(Q:VK)(q:tV K (m2 g i h) σ H Q):tOp r (zin i) (tV K h) σ H Q:=by
 obtain⟨ρ,rel,q⟩:=q
 obtain⟨d,ed,q1⟩:=q.zdP
 obtain⟨ad,at0,m⟩:=rel.zkX ed
 refine⟨.ref ad,at0.2,goV rel q1 fun dy ρ1 y H1 rel1 st1 fy q2=>?_⟩
 obtain⟨d2,ed2,q3⟩:=q2.zdP
 obtain⟨x,ex,q4⟩:=q3.zdP
 exact hr _ _ _ _ ⟨d2,dy,x,(rel1.again ed2 at0).tp,fy.tp,ex,fun v H' s fz=>q4.new rel1 s v fz⟩
theorem zuj{g:D->D->R D}{y:Str}{py:Pos}(i:Nat)(ho:IxR X (rD X.K g))(ha:PE X (.Name y py) (zin i))(hb:PV K X b h)(hs:zjb b:=by exact fun _ _=>rfl):PV K X (.Subscript (.Name y py) b pos) (m2 g i h):=.mk fun hK=>by
 subst hK
 exact(zuA ho ha (hb rfl) hs).weak fun σ H Q q=>zys (fun _ _ _ _ z=>z) σ H Q q
theorem zw1{g:D->D->R D}{i:Nat}{r:R2}(hr:∀ x y H Q,rD K g x y H Q->r x y H Q)(σ:L2.St)(H:Hp)(Q:VK)(q:tV K (m2r g f i) σ H Q):tOp r (tV K f) (zin i) σ H Q:=by
 obtain⟨ρ,rel,q⟩:=q
 refine goV rel q fun dx ρ1 x H1 rel1 st1 fx q2=>?_
 obtain⟨d2,ed2,q3⟩:=q2.zdP
 obtain⟨x,ex,q4⟩:=q3.zdP
 obtain⟨ad,at0,m⟩:=rel1.zkX ed2
 exact⟨.ref ad,at0.2,hr _ _ _ _ ⟨dx,d2,x,fx.tp,m.tp,ex,fun v H' s fz=>q4.new rel1 s v fz⟩⟩
theorem zsp{op:CmpOp}{g:D->D->R D}{y:Str}{py:Pos}(i:Nat)(ho:OpR X (compareOp op) (rD X.K g))(ha:PV K X a f)(hb:PE X (.Name y py) (zin i))(hm:behindInMarks op (.Name y py)=false):PVT K X (.Compare a [op] [.Name y py] pos) (tB (m2r g f i)):=.mk fun hK=>by
 subst hK
 exact(znY ho (ha rfl) hb hm).weak fun σ H Q q=>goB (fun σ H Q z=>zw1 (fun _ _ _ _ z=>z) σ H Q z) σ H Q q
end
end
section
variable [Cs]
structure SC where
 H₀:Hp
 σ₀:L2.St
 ρ₀:En
structure zdz(K:W.Frag)(C:SC)(ρ:En)(σ:L2.St)(H:Hp):Prop where
 rel:Rel K ρ σ H
 keep:∀ a o,C.H₀ a=some o->¬ MA C.ρ₀ C.σ₀ a->H a=some o
 own:∀(i:Nat) a d,ρ[i]?=some (.ow false d)->σ[i]?=some (some (.ref a))->C.H₀ a=none
 pin:∀(i:Nat),(∃ d,ρ[i]?=some (.ow true d))↔∃ d,C.ρ₀[i]?=some (.ow true d)
 fix:∀(i:Nat) d,ρ[i]?=some (.ow true d)->σ[i]?=C.σ₀[i]?
 prm:∀(i:Nat) p d,C.ρ₀[i]?=some (.ow p d)->p=true
section
variable {K:W.Frag}{C:SC}{ρ ρ1:En}{σ σ1:L2.St}{H H1:Hp}
theorem zdz.zyn(r:zdz K C ρ σ H){a:Addr}{o:HO}(e:C.H₀ a=some o)(n:¬ MA C.ρ₀ C.σ₀ a):¬ MA ρ σ a:=by
 rintro⟨i,⟨p,d,e1⟩,e2⟩
 cases p with
 | false=>rw [r.own i a d e1 e2] at e;cases e
 | true =>
  obtain⟨d0,e0⟩:=(r.pin i).mp ⟨d,e1⟩
  exact n ⟨i,⟨true,d0,e0⟩,by rw [<- r.fix i d e1];exact e2⟩
theorem zdz.step(r:zdz K C ρ σ H)(rel:Rel K ρ1 σ H1)(st:Stp ρ ρ1 σ H H1):zdz K C ρ1 σ H1 where
 rel:=rel
 keep:=fun a o e n=>st.kp a o (r.keep a o e n) (r.zyn e n)
 own:=fun i a d e1 e2=>by
  obtain⟨d',e'⟩:=(st.md i false).mpr ⟨d,e1⟩
  exact r.own i a d' e' e2
 pin:=fun i=>(st.md i true).symm.trans (r.pin i)
 fix:=fun i d e=>by
  obtain⟨d',e'⟩:=(st.md i true).mpr ⟨d,e⟩
  exact r.fix i d' e'
 prm:=r.prm
def Chg(dom:List Nat)(ρ ρ1:En)(σ σ1:L2.St):Prop:=σ1.length=σ.length/\∀(i:Nat),(ρ1[i]?=ρ[i]?/\σ1[i]?=σ[i]?)\/(i∈dom/\(∃ d,ρ1[i]?=some (.val d))/\∀ e,ρ[i]?≠some (.ow true e))
theorem Chg.refl{dom:List Nat}:Chg dom ρ ρ σ σ:=⟨rfl,fun _=>.inl ⟨rfl,rfl⟩⟩
theorem Chg.trans{d1 d2:List Nat}{ρ2:En}{σ2:L2.St}(a:Chg d1 ρ ρ1 σ σ1)(b:Chg d2 ρ1 ρ2 σ1 σ2):Chg (d1++d2) ρ ρ2 σ σ2:=⟨b.1.trans a.1,fun i=>by
 rcases b.2 i with⟨b1,b2⟩|⟨bm,b1,b2⟩
 ·rcases a.2 i with⟨a1,a2⟩|⟨am,a1,a2⟩
  ·exact .inl ⟨b1.trans a1,b2.trans a2⟩
  ·exact .inr ⟨List.mem_append_left _ am,by rw [b1];exact a1,a2⟩
 ·rcases a.2 i with⟨a1,a2⟩|⟨am,a1,a2⟩
  ·exact .inr ⟨List.mem_append_right _ bm,b1,fun e z=>b2 e (by rw [a1];exact z)⟩
  ·exact .inr ⟨List.mem_append_left _ am,b1,a2⟩⟩
theorem zdz.chg{dom:List Nat}(r:zdz K C ρ σ H)(rel:Rel K ρ1 σ1 H)(c:Chg dom ρ ρ1 σ σ1):zdz K C ρ1 σ1 H where
 rel:=rel
 keep:=r.keep
 own:=fun i a d e1 e2=>by
  rcases c.2 i with⟨c1,c2⟩|⟨_,⟨d',c1⟩,c2⟩
  ·exact r.own i a d (by rw [<- c1];exact e1) (by rw [<- c2];exact e2)
  ·rw [c1] at e1;cases e1
 pin:=fun i=>by
  rcases c.2 i with⟨c1,c2⟩|⟨_,⟨d',c1⟩,c2⟩
  ·rw [c1];exact r.pin i
  ·rw [c1,<- r.pin i]
   constructor
   ·rintro⟨_,z⟩;cases z
   ·rintro⟨d,z⟩;exact absurd z (c2 d)
 fix:=fun i d e=>by
  rcases c.2 i with⟨c1,c2⟩|⟨_,⟨d',c1⟩,c2⟩
  ·rw [c2];exact r.fix i d (by rw [<- c1];exact e)
  ·rw [c1] at e;cases e
 prm:=r.prm
theorem zdz.fresh(r:zdz K C ρ σ H){a:Addr}(ha:H a=none):C.H₀ a=none:=by
 cases e0:C.H₀ a with
 | none=>rfl
 | some o =>
  by_cases k:MA C.ρ₀ C.σ₀ a
  ·obtain⟨i,⟨p,d0,e1⟩,e2⟩:=k
   have:=r.prm i p d0 e1
   subst this
   obtain⟨d2,e3⟩:=(r.pin i).mpr ⟨d0,e1⟩
   obtain⟨o',e',_⟩:=r.rel.za5 ⟨i,⟨true,d2,e3⟩,by rw [r.fix i d2 e3];exact e2⟩
   rw [ha] at e';cases e'
  ·rw [r.keep a o e0 k] at ha;cases ha
def zcs(K:W.Frag)(C:SC)(H:Hp)(r:R (Fl×En))(Dn:Ends):Prop:=match r with
 | .ok x=>match x.1 with
  | .nx=>∀ σ' H',zdz K C x.2 σ' H'->Fzn H H'->Dn.nx σ' H'
  | .bk=>∀ σ' H',zdz K C x.2 σ' H'->Fzn H H'->Dn.bk σ' H'
  | .ct=>∀ σ' H',zdz K C x.2 σ' H'->Fzn H H'->Dn.ct σ' H'
  | .rt d=>∀ v σ' H',zdz K C x.2 σ' H'->Fz K H' d v->Dn.rt v H'
  | .rf d=>∀ a σ' H',zdz K C x.2 σ' H'->C.H₀ a=none->zbh K H' a d->Dn.rt (.ref a) H'
 | _=>False
theorem zcs.step{r:R (Fl×En)}{Dn:Ends}(f:Fzn H H1)(g:zcs K C H r Dn):zcs K C H1 r Dn:=by
 cases r with
 | ok x =>
  obtain⟨fl,ρ⟩:=x
  cases fl with
  | nx=>exact fun σ' H' r z=>g σ' H' r (f.trans z)
  | bk=>exact fun σ' H' r z=>g σ' H' r (f.trans z)
  | ct=>exact fun σ' H' r z=>g σ' H' r (f.trans z)
  | rt d=>exact g
  | rf d=>exact g
 | _=>exact g
theorem zcs.bnd{β:Type}{r:R β}{k:β->R (Fl×En)}{Dn:Ends}(g:zcs K C H (r.bind k) Dn):∃ x,r=.ok x/\zcs K C H (k x) Dn:=by
 cases r with
 | ok x=>exact⟨x,rfl,g⟩
 | _=>exact g.elim
def tS(K:W.Frag)(C:SC)(f:SF):TS:=fun Dn σ H=>∃ ρ,zdz K C ρ σ H/\zcs K C H (f ρ) Dn
theorem zm0{f:EF}{k:D×En->R (Fl×En)}{S:VK}{Dn:Ends}(rel:zdz K C ρ σ H)(g:zcs K C H ((f ρ).bind k) Dn)
  (h:∀ d ρ1 v H1,zdz K C ρ1 σ H1->Stp ρ ρ1 σ H H1->Fz K H1 d v->zcs K C H1 (k (d,ρ1)) Dn->S v H1):tV K f σ H S:=by
 obtain⟨x,e,g1⟩:=g.bnd
 refine⟨ρ,rel.rel,?_⟩
 rw [e]
 exact fun H' r s v fz=>h x.1 x.2 v H' (rel.step r s) s fz (g1.step (s.fzn rel.rel))
theorem zw0{f:TF}{k:Bool×En->R (Fl×En)}{S:Bool->Hp->Prop}{Dn:Ends}(rel:zdz K C ρ σ H)(g:zcs K C H ((f ρ).bind k) Dn)
  (h:∀ b ρ1 H1,zdz K C ρ1 σ H1->Fzn H H1->zcs K C H1 (k (b,ρ1)) Dn->S b H1):tT K f σ H S:=by
 obtain⟨x,e,g1⟩:=g.bnd
 refine⟨ρ,rel.rel,?_⟩
 rw [e]
 exact fun H' r s=>h x.1 x.2 H' (rel.step r s) (s.fzn rel.rel) (g1.step (s.fzn rel.rel))
theorem zxD{f:EF}{k:D×En->R (Fl×En)}{S:VK}{Dn:Ends}(rel:zdz K C ρ σ H)(g:zcs K C H ((f ρ).bind k) Dn)
  (h:∀ d ρ1 a H1,zdz K C ρ1 σ H1->Fzn H H1->H a=none->¬ MA ρ1 σ a->zbh K H1 a d->zcs K C H1 (k (d,ρ1)) Dn->S (.ref a) H1):tN K f σ H S:=by
 obtain⟨x,e,g1⟩:=g.bnd
 refine⟨ρ,rel.rel,?_⟩
 rw [e]
 refine fun H' r s a ha m=>h x.1 x.2 a H' (rel.step r s) (s.fzn rel.rel) ha (fun z=>?_) m (g1.step (s.fzn rel.rel))
 obtain⟨o',e',_⟩:=rel.rel.za5 (s.ma.mpr z)
 rw [ha] at e';cases e'
end
structure PSV(K:W.Frag)(X:Cx)(st:Stmt)(f:SF):Prop where
 run:X.K=K->∀ C,PS X st (tS K C f)
instance {K:W.Frag} {X:Cx} {st:Stmt} {f:SF}:CoeFun (PSV K X st f) fun _=>X.K=K->∀ C,PS X st (tS K C f):=⟨PSV.run⟩
structure zjc(K:W.Frag)(X:Cx)(st:List Stmt)(f:SF):Prop where
 run:X.K=K->∀ C,PSs X st (tS K C f)
instance {K:W.Frag} {X:Cx} {st:List Stmt} {f:SF}:CoeFun (zjc K X st f) fun _=>X.K=K->∀ C,PSs X st (tS K C f):=⟨zjc.run⟩
theorem _root_.L2.PS.weak{X:Cx}{e:Stmt}{t t':TS}(h:PS X e t)(w:∀ Dn σ H,t' Dn σ H->t Dn σ H):PS X e t':=fun pins s σ H Dn I q=>h pins s σ H Dn I (w Dn σ H q)
theorem _root_.L2.PSs.weak{X:Cx}{e:List Stmt}{t t':TS}(h:PSs X e t)(w:∀ Dn σ H,t' Dn σ H->t Dn σ H):PSs X e t':=fun pins s σ H Dn I q=>h pins s σ H Dn I (w Dn σ H q)
def tG(K:W.Frag)(dom:List Nat)(g:GF):TG:=fun v σ H Q=>∃ ρ d ρ1,Rel K ρ σ H/\Fz K H d v/\g d ρ=.ok ρ1/\∀ σ1,Rel K ρ1 σ1 H->Chg dom ρ ρ1 σ σ1->Q σ1 H
def tGs(K:W.Frag)(dom:List Nat)(gs:List GF):TGs:=fun vs σ H Q=>∃ ρ ds ρ1,Rel K ρ σ H/\zaf K H ds vs/\zqX gs ds ρ=.ok ρ1/\∀ σ1,Rel K ρ1 σ1 H->Chg dom ρ ρ1 σ σ1->Q σ1 H
structure PVG(K:W.Frag)(X:Cx)(dom:List Nat)(e:Expr)(g:GF):Prop where
 run:X.K=K->PG X e (tG K dom g)
instance {K:W.Frag} {X:Cx} {dom:List Nat} {e:Expr} {g:GF}:CoeFun (PVG K X dom e g) fun _=>X.K=K->PG X e (tG K dom g):=⟨PVG.run⟩
structure ztM(K:W.Frag)(X:Cx)(dom:List Nat)(e:List Expr)(g:List GF):Prop where
 run:X.K=K->PGs X e (tGs K dom g)
instance {K:W.Frag} {X:Cx} {dom:List Nat} {e:List Expr} {g:List GF}:CoeFun (ztM K X dom e g) fun _=>X.K=K->PGs X e (tGs K dom g):=⟨ztM.run⟩
theorem _root_.L2.PG.weak{X:Cx}{e:Expr}{t t':TG}(h:PG X e t)(w:∀ v σ H Q,t' v σ H Q->t v σ H Q):PG X e t':=fun pins s σ H v u Q I r q=>h pins s σ H v u Q I r (w v σ H Q q)
theorem _root_.L2.PGs.weak{X:Cx}{e:List Expr}{t t':TGs}(h:PGs X e t)(w:∀ v σ H Q,t' v σ H Q->t v σ H Q):PGs X e t':=fun pins s σ H v u Q I r q=>h pins s σ H v u Q I r (w v σ H Q q)
theorem Rel.set{K:W.Frag}{ρ:En}{σ:L2.St}{H:Hp}{i:Nat}{x:Sl}{v:Option V}(r:Rel K ρ σ H)(o:zr5 K H x v)(s:∀ a p d,x=.ow p d->v=some (.ref a)->¬ MA ρ σ a):Rel K (ρ.set i x) (σ.set i v) H:=by
 refine⟨by rw [List.length_set,List.length_set];exact r.len,fun j y w e1 e2=>?_,fun j k b h1 h2=>?_,r.cst⟩
 ·by_cases c:i=j
  ·subst c
   by_cases hl:i<ρ.length
   ·rw [List.getElem?_set_self hl] at e1
    rw [List.getElem?_set_self (by rw [<- r.len];exact hl)] at e2
    cases e1;cases e2
    exact o
   ·rw [List.getElem?_eq_none (by rw [List.length_set];omega)] at e1;cases e1
  ·rw [List.getElem?_set_ne c] at e1 e2
   exact r.ok j y w e1 e2
 ·have w:∀ j b,At (ρ.set i x) (σ.set i v) j b->(j=i/\(∃ p d,x=.ow p d)/\v=some (.ref b))\/(j≠i/\At ρ σ j b):=fun j b ⟨⟨q,dd,e1⟩,e2⟩=>by
   by_cases c:i=j
   ·subst c
    have hl:i<ρ.length:=by
     have:=(List.getElem?_eq_some_iff.mp e1).1
     rwa [List.length_set] at this
    rw [List.getElem?_set_self hl] at e1
    rw [List.getElem?_set_self (by rw [<- r.len];exact hl)] at e2
    cases e1;cases e2
    exact .inl ⟨rfl,⟨q,dd,rfl⟩,rfl⟩
   ·rw [List.getElem?_set_ne c] at e1 e2
    exact .inr ⟨fun z=>c z.symm,⟨q,dd,e1⟩,e2⟩
  rcases w j b h1 with⟨rfl,⟨p,d,e⟩,e'⟩|⟨n1,a1⟩
  ·rcases w k b h2 with⟨rfl,_,_⟩|⟨n2,a2⟩
   ·rfl
   ·exact absurd ⟨k,a2⟩ (s b p d e e')
  ·rcases w k b h2 with⟨rfl,⟨p,d,e⟩,e'⟩|⟨n2,a2⟩
   ·exact absurd ⟨j,a1⟩ (s b p d e e')
   ·exact r.sep j k b a1 a2
section
variable {K:W.Frag}{X:Cx}{pos:Pos}
theorem zj9{i:Nat}{d:D}{ρ ρ1:En}(h:gN i d ρ=.ok ρ1):ρ1=ρ.set i (.val d)/\(∀ e,ρ[i]?≠some (.ow true e))/\i<ρ.length:=by
 unfold gN at h
 cases e:ρ[i]? with
 | none=>rw [e] at h;cases h
 | some x =>
  rw [e] at h
  have hl:i<ρ.length:=(List.getElem?_eq_some_iff.mp e).1
  cases x with
  | no=>cases h;exact⟨rfl,(fun _ z=>nomatch z),hl⟩
  | val c=>cases h;exact⟨rfl,(fun _ z=>nomatch z),hl⟩
  | ob c ds=>cases h;exact⟨rfl,(fun _ z=>nomatch z),hl⟩
  | ow p c =>
   cases p with
   | true=>cases h
   | false=>cases h;exact⟨rfl,(fun _ z=>nomatch z),hl⟩
theorem zg1{ρ:En}{σ:L2.St}{i:Nat}{d:D}{v:Option V}(n:∀ e,ρ[i]?≠some (.ow true e))(hl:i<ρ.length):Chg [i] ρ (ρ.set i (.val d)) σ (σ.set i v):=⟨List.length_set,fun j=>by
 by_cases c:i=j
 ·subst c
  exact .inr ⟨List.mem_singleton.mpr rfl,⟨d,List.getElem?_set_self hl⟩,n⟩
 ·exact .inl ⟨List.getElem?_set_ne c,List.getElem?_set_ne c⟩⟩
theorem zp9{i:Nat}{x:Str}(hN:X.N.Nodup)(hi:X.N[i]?=some x)(hx:Loc X.env.scope x)(hf:X.fn x=true\/X.env.scope.names.lookup x=some .local:=by first|exact .inl rfl|exact .inr rfl|assumption):PVG K X [i] (.Name x pos) (gN i):=.mk fun _=>(zod hN hi hx hf).weak fun v σ H Q=>by
 rintro⟨ρ,d,ρ1,rel,fz,e,q⟩
 obtain⟨rfl,n,hl⟩:=zj9 e
 exact q _ (rel.set fz fun _ _ _ z=>nomatch z) (zg1 n hl)
theorem zdc:ztM K X [] [] []:=.mk fun _=>zsT.weak fun vs σ H Q=>by
 rintro⟨ρ,ds,ρ1,rel,fz,e,q⟩
 cases ds with
 | nil =>
  cases e
  simp only [zaf] at fz
  exact⟨fz,q _ rel .refl⟩
 | cons _ _=>cases e
theorem zaj{α β:Type}{r:R α}{k:α->R β}{b:β}(h:r.bind k=.ok b):∃ a,r=.ok a/\k a=.ok b:=by
 cases r with
 | ok a=>exact⟨a,rfl,h⟩
 | _=>cases h
theorem zaE{e:Expr}{es:List Expr}{g:GF}{gs:List GF}{d1 d2:List Nat}(h1:PVG K X d1 e g)(h2:ztM K X d2 es gs)
  (hs:(assignEach (e::es) X.env).map (·.2)=assign e X.env::(assignEach es X.env).map (·.2):=by rfl):ztM K X (d1++d2) (e::es) (g::gs):=.mk fun hK=>(zqm (h1 hK) (h2 hK) hs).weak fun vs σ H Q=>by
 rintro⟨ρ,ds,ρ1,rel,fz,e,q⟩
 cases ds with
 | nil=>cases e
 | cons d ds =>
  simp only [zaf] at fz
  obtain⟨v,r,rfl,f1,f2⟩:=fz
  obtain⟨ρ2,e2,e3⟩:=zaj (show(g d ρ).bind (fun ρ1=>zqX gs ds ρ1)=.ok ρ1 from e)
  exact⟨v,r,rfl,ρ,d,ρ2,rel,f1,e2,fun σ1 rel1 c1=>⟨ρ2,ds,ρ1,rel1,f2,e3,fun σ2 rel2 c2=>q σ2 rel2 (c1.trans c2)⟩⟩
theorem zmi:∀{gs:List GF} {ds:List D} {ρ ρ1:En},zqX gs ds ρ=.ok ρ1->ds.length=gs.length
 | [],[],_,_,_=>rfl
 | [],_::_,_,_,e=>by cases e
 | _::_,[],_,_,e=>by cases e
 | g::gs,d::ds,ρ,ρ1,e=>by
  obtain⟨ρ2,e2,e3⟩:=zaj (show(g d ρ).bind (fun ρ1=>zqX gs ds ρ1)=.ok ρ1 from e)
  simp [zmi e3]
theorem zet{es:List Expr}{k:Nat}{gs:List GF}{dom:List Nat}(hc:X.calm=true)(h:ztM K X dom es gs)
  (hn:(assignEach es X.env).length=gs.length:=by rfl)(hst:(assignEach es X.env).findIdx? (·.1)=none:=by rfl):PVG K X dom (.Tuple es k pos) (gT gs):=.mk fun hK=>by
 subst hK
 refine(zut hc (h rfl) hn hst).weak fun v σ H Q=>?_
 rintro⟨ρ,d,ρ1,rel,fz,e,q⟩
 cases d with
 | tuple ds =>
  simp only [Fz] at fz
  obtain⟨a,vs,rfl,s,f⟩:=fz
  replace e:zqX gs ds ρ=.ok ρ1:=e
  exact⟨a,vs,rfl,.inl s,by rw [f.len,zmi e],ρ,ds,ρ1,rel,f,e,q⟩
 | _=>cases e
variable {st:Stmt}{rest:List Stmt}{s t:SF}{e:Expr}{f:EF}
theorem zaZ:zjc K X [] sNx:=.mk fun _ C=>znZ.weak fun Dn σ H=>by
 rintro⟨ρ,rel,g⟩
 exact g σ H rel (Fzn.refl H)
theorem zae(h1:PSV K X st s)(h2:zjc K X rest t):zjc K X (st::rest) (zat s t):=.mk fun hK C=>(ziy (h1 hK C) (h2 hK C)).weak fun Dn σ H=>by
 rintro⟨ρ,rel,g⟩
 refine⟨ρ,rel,?_⟩
 obtain⟨x,ex,g1⟩:=g.bnd
 rw [ex]
 obtain⟨fl,ρ1⟩:=x
 cases fl with
 | nx=>exact fun σ' H' r z=>⟨ρ1,r,g1.step z⟩
 | bk=>exact g1
 | ct=>exact g1
 | rt d=>exact g1
 | rf d=>exact g1
theorem zam(h1:PSV K X st s):zjc K X [st] s:=.mk fun hK C=>zix (h1 hK C)
theorem zeR:PSV K X st znL:=.mk fun _ C=>zqj.weak fun Dn σ H=>by
 rintro⟨ρ,rel,g⟩
 exact g.elim
theorem zbZ(he:PV K X e f)(hs:swapsWith e none pos.line X.env=pure false:=by rfl):PSV K X (.Expr e pos) (sE f):=.mk fun hK C=>(zn3 (he hK) hs).weak fun Dn σ H=>by
 rintro⟨ρ,rel,g⟩
 exact zm0 rel g fun d ρ1 v H1 rel1 st1 fz g1=>g1 σ H1 rel1 (Fzn.refl H1)
theorem zst(he:PV K X e f):PSV K X (.Return (some e) pos) (zaD f):=.mk fun hK C=>(zlV (he hK)).weak fun Dn σ H=>by
 rintro⟨ρ,rel,g⟩
 exact zm0 rel g fun d ρ1 v H1 rel1 st1 fz g1=>g1 v σ H1 rel1 fz
theorem zbd(he:PVN K X e f):PSV K X (.Return (some e) pos) (zbc f):=.mk fun hK C=>(zlV (he hK)).weak fun Dn σ H=>by
 rintro⟨ρ,rel,g⟩
 exact zxD rel g fun d ρ1 a H1 rel1 fz ha n m g1=>g1 a σ H1 rel1 (rel.fresh ha) m
theorem zga{y:Str}{py:Pos}(i:Nat)(ha:PE X (.Name y py) (zin i)):PSV K X (.Return (some (.Name y py)) pos) (zjx i):=.mk fun hK C=>(zlV ha).weak fun Dn σ H=>by
 rintro⟨ρ,rel,g⟩
 unfold zjx at g
 cases e:ρ[i]? with
 | none=>rw [e] at g;exact g.elim
 | some x =>
  rw [e] at g
  cases x with
  | ow p d =>
   cases p with
   | false =>
    obtain⟨a,at0,m⟩:=rel.rel.zkX (d:=d) (show zaw ρ i=.ok d by unfold zaw;rw [e])
    exact⟨.ref a,at0.2,g a σ H rel (rel.own i a d e at0.2) m⟩
   | true=>exact g.elim
  | _=>exact g.elim
theorem zbG{c:Expr}{a b:List Stmt}{tc:TF}(hc:PVT K X c tc)(ha:zjc K X a s)(hb:zjc K X b t):PSV K X (.If c a b pos) (sIf tc s t):=.mk fun hK C=>(zuq (hc hK) (ha hK C) (hb hK C)).weak fun Dn σ H=>by
 rintro⟨ρ,rel,g⟩
 refine zw0 rel g fun cb ρ1 H1 rel1 fz g1=>?_
 cases cb with
 | true=>exact zpL ⟨ρ1,rel1,g1⟩
 | false=>exact zpM ⟨ρ1,rel1,g1⟩
theorem zsy{tg:Expr}{g:GF}{dom:List Nat}(he:PV K X e f)(hg:PVG K X dom tg g)(hs:swapsWithSole [tg] e pos.line X.env=pure false:=by rfl)(hw:swappedStores [tg] e X.env=pure none:=by rfl)
  (h1:(assignEach [tg] X.env).map (·.2)=[assign tg X.env]:=by rfl):PSV K X (.Assign [tg] e pos) (zaL g f):=.mk fun hK C=>(zry (he hK) (hg hK) hs hw h1).weak fun Dn σ H=>by
 rintro⟨ρ,rel,q⟩
 refine zm0 rel q fun d ρ1 v H1 rel1 st1 fz q1=>?_
 obtain⟨ρ2,e2,q2⟩:=q1.bnd
 exact⟨ρ1,d,ρ2,rel1.rel,fz,e2,fun σ1 rel2 c=>q2 σ1 H1 (rel1.chg rel2 c) (Fzn.refl H1)⟩
theorem zss{i:Nat}{x:Str}{pos':Pos}(hN:X.N.Nodup)(hi:X.N[i]?=some x)(hx:Loc X.env.scope x)(he:PV K X e f)(hs:swapsWith e (some (.Name x pos')) pos.line X.env=pure false:=by rfl)(hf:X.fn x=true\/X.env.scope.names.lookup x=some .local:=by first|exact .inl rfl|exact .inr rfl|assumption) :
  PSV K X (.Assign [.Name x pos'] e pos) (zaL (gN i) f):=.mk fun hK C=>(zn2 hN hi hx (he hK) hs hf).weak fun Dn σ H=>by
 rintro⟨ρ,rel,q⟩
 refine zm0 rel q fun d ρ1 v H1 rel1 st1 fz q1=>?_
 obtain⟨ρ2,e2,q2⟩:=q1.bnd
 obtain⟨rfl,n,hl⟩:=zj9 e2
 exact q2 _ H1 (rel1.chg (rel1.rel.set fz fun _ _ _ z=>nomatch z) (zg1 n hl)) (Fzn.refl H1)
theorem zvf{i:Nat}{C:SC}(Dn:Ends)(σ:L2.St)(H:Hp)(q0:tS K C (zdE i f) Dn σ H):ztE (tN K f) (zm1 i) Dn σ H:=by
 revert q0
 rintro⟨ρ,rel,q⟩
 refine zxD rel q fun d ρ1 a H1 rel1 fz ha n m q1=>?_
 have hf:=rel.fresh ha
 replace q1:zcs K C H1 (match ρ1[i]? with|some (.ow true _)=>.bad|some _=>.ok (.nx,ρ1.set i (.ow false d))|none=>.bad) Dn:=q1
 have fin:(∀ e,ρ1[i]?≠some (.ow true e))->i<ρ1.length->zdz K C (ρ1.set i (.ow false d)) (σ.set i (some (.ref a))) H1:=fun np hl=>by
  have hls:i<σ.length:=by rw [<- rel1.rel.len];exact hl
  refine⟨rel1.rel.set (show zr5 K H1 (.ow false d) (some (.ref a)) from m) fun b p c e1 e2=>by cases e2;exact n,rel1.keep,fun j b c e1 e2=>?_,fun j=>?_,fun j c e1=>?_,rel1.prm⟩
  ·by_cases k:i=j
   ·subst k
    rw [List.getElem?_set_self hls] at e2
    cases e2
    exact hf
   ·rw [List.getElem?_set_ne k] at e1 e2
    exact rel1.own j b c e1 e2
  ·by_cases k:i=j
   ·subst k
    rw [List.getElem?_set_self hl,<- rel1.pin i]
    constructor
    ·rintro⟨_,z⟩;cases z
    ·rintro⟨c,z⟩;exact absurd z (np c)
   ·rw [List.getElem?_set_ne k];exact rel1.pin j
  ·by_cases k:i=j
   ·subst k
    rw [List.getElem?_set_self hl] at e1;cases e1
   ·rw [List.getElem?_set_ne k] at e1 ⊢
    exact rel1.fix j c e1
 cases e1:ρ1[i]? with
 | none=>rw [e1] at q1;exact q1.elim
 | some y =>
  have hl:i<ρ1.length:=(List.getElem?_eq_some_iff.mp e1).1
  rw [e1] at q1
  cases y with
  | no=>exact q1 _ H1 (fin (fun e z=>by rw [e1] at z;cases z) hl) (Fzn.refl H1)
  | val c=>exact q1 _ H1 (fin (fun e z=>by rw [e1] at z;cases z) hl) (Fzn.refl H1)
  | ob c ds=>exact q1 _ H1 (fin (fun e z=>by rw [e1] at z;cases z) hl) (Fzn.refl H1)
  | ow p c =>
   cases p with
   | true=>exact q1.elim
   | false=>exact q1 _ H1 (fin (fun e z=>by rw [e1] at z;cases z) hl) (Fzn.refl H1)
theorem zsv{i:Nat}{x:Str}{pos':Pos}(hN:X.N.Nodup)(hi:X.N[i]?=some x)(hx:Loc X.env.scope x)(he:PVN K X e f)(hs:swapsWith e (some (.Name x pos')) pos.line X.env=pure false:=by rfl)(hf:X.fn x=true\/X.env.scope.names.lookup x=some .local:=by first|exact .inl rfl|exact .inr rfl|assumption) :
  PSV K X (.Assign [.Name x pos'] e pos) (zdE i f):=.mk fun hK C=>(zn2 hN hi hx (he hK) hs hf).weak fun Dn σ H q=>zvf Dn σ H q
theorem zgu(i:Nat)(h:PSV K X st s):PSV K X st (zkP i s):=.mk fun hK C=>by
 have h1:PS X st (fun Dn σ H=>∃ a u,H a=some u/\Own u/\∀ o,tS K C s Dn σ (upd H a (.frz o u))):=fun pins sh σ H Dn I ⟨a,u,e,ow,q⟩=>by
  obtain⟨o,ho⟩:=(I.hok a u e).some
  exact h hK C pins sh σ _ Dn (zvX I e ow ho) (q o)
 refine h1.weak fun Dn σ H=>?_
 rintro⟨ρ,rel,g⟩
 unfold zkP at g
 cases e:ρ[i]? with
 | none=>rw [e] at g;exact g.elim
 | some x =>
  rw [e] at g
  cases x with
  | ow p d =>
   cases p with
   | true=>exact g.elim
   | false =>
    obtain⟨a,at0,m⟩:=rel.rel.zkX (d:=d) (show zaw ρ i=.ok d by unfold zaw;rw [e])
    obtain⟨u,e1,ow⟩:=m.own
    refine⟨a,u,e1,ow,fun o=>⟨ρ.set i (.val d),?_,g.step ?_⟩⟩
    ·have hl:i<ρ.length:=(List.getElem?_eq_some_iff.mp e).1
     have hfr:=rel.own i a d e at0.2
     have fz:Fzn H (upd H a (.frz o u)):=fun b w e2 sy=>by
      rw [zan fun z=>by subst z;rw [e1] at e2;cases e2;exact ow.zcz sy]
      exact e2
     have fd:Fz K (upd H a (.frz o u)) d (.ref a):=by
      cases d with
      | list ds =>
       obtain⟨vs,h1,h2⟩:=m
       rw [e1] at h1
       cases h1
       simp only [Fz]
       exact⟨a,vs,rfl,.inl ⟨o,zal⟩,h2.mono fz⟩
      | dict kvs =>
       simp only [Fz]
       obtain⟨kk,h1,h2⟩:=m
       rw [e1] at h1
       cases h1
       exact⟨a,o,rfl,⟨kk,zal,h2.mono fz⟩⟩
      | _=>exact m.elim
     have atw:∀ j b,At (ρ.set i (.val d)) σ j b->j≠i/\At ρ σ j b:=fun j b ⟨⟨q,dd,e1⟩,e2⟩=>by
      by_cases c:i=j
      ·subst c
       rw [List.getElem?_set_self hl] at e1;cases e1
      ·rw [List.getElem?_set_ne c] at e1
       exact⟨fun z=>c z.symm,⟨q,dd,e1⟩,e2⟩
     refine⟨⟨by rw [List.length_set];exact rel.rel.len,fun j y w e2 e3=>?_,fun j k b h1 h2=>rel.rel.sep j k b (atw j b h1).2 (atw k b h2).2,rel.rel.cst.mono fz⟩,fun b w e2 n=>?_,fun j b c e2 e3=>?_,fun j=>?_,fun j c e2=>?_,rel.prm⟩
     ·by_cases c:i=j
      ·subst c
       rw [List.getElem?_set_self hl] at e2
       cases e2
       rw [at0.2] at e3
       cases e3
       exact fd
      ·rw [List.getElem?_set_ne c] at e2
       refine(rel.rel.ok j y w e2 e3).mono fz fun b e4 ⟨p,dd,e5⟩=>?_
       subst e4;subst e5
       refine zan fun z=>?_
       subst z
       exact c (rel.rel.sep i j b at0 ⟨⟨p,dd,e2⟩,e3⟩)
     ·rw [zan fun z=>by subst z;rw [hfr] at e2;cases e2]
      exact rel.keep b w e2 n
     ·by_cases c:i=j
      ·subst c
       rw [List.getElem?_set_self hl] at e2;cases e2
      ·rw [List.getElem?_set_ne c] at e2
       exact rel.own j b _ e2 e3
     ·by_cases c:i=j
      ·subst c
       rw [List.getElem?_set_self hl,<- rel.pin i,e]
       constructor
       ·rintro⟨_,z⟩;cases z
       ·rintro⟨_,z⟩;cases z
      ·rw [List.getElem?_set_ne c];exact rel.pin j
     ·by_cases k:i=j
      ·subst k
       rw [List.getElem?_set_self hl] at e2;cases e2
      ·rw [List.getElem?_set_ne k] at e2
       exact rel.fix j c e2
    ·exact fun b w e2 sy=>by
      rw [zan fun z=>by subst z;rw [e1] at e2;cases e2;exact ow.zcz sy]
      exact e2
  | _=>exact g.elim
theorem zoy{ρ:En}{i:Nat}{c:List D}(h:zfl ρ i=.ok c):∃ p,ρ[i]?=some (.ow p (.list c)):=by
 unfold zfl at h
 cases e:ρ[i]? with
 | none=>rw [e] at h;cases h
 | some x =>
  rw [e] at h
  cases x with
  | ow p d =>
   cases d with
   | list a=>cases h;exact⟨p,rfl⟩
   | _=>cases h
  | _=>cases h
theorem Rel.zxy{ρ:En}{σ:L2.St}{H:Hp}{i:Nat}{c:List D}(r:Rel K ρ σ H)(h:zfl ρ i=.ok c):∃ a vs,At ρ σ i a/\H a=some (.lst vs)/\zaf K H c vs:=by
 obtain⟨p,e⟩:=zoy h
 obtain⟨a,at0,m⟩:=r.zkX (d:=.list c) (show zaw ρ i=.ok (.list c) by unfold zaw;rw [e])
 obtain⟨vs,h1,h2⟩:=m
 exact⟨a,vs,at0,h1,h2⟩
theorem Rel.zyo{ρ ρ1:En}{σ:L2.St}{H1:Hp}{i:Nat}{c:List D}{a:Addr}(r:Rel K ρ1 σ H1)(h:zfl ρ1 i=.ok c)(at0:At ρ σ i a):∃ vs,At ρ1 σ i a/\H1 a=some (.lst vs)/\zaf K H1 c vs:=by
 obtain⟨b,vs,ab,h1,h2⟩:=r.zxy h
 have:=at0.2.symm.trans ab.2
 cases this
 exact⟨vs,ab,h1,h2⟩
theorem zqV{C:SC}{ρ:En}{σ:L2.St}{H:Hp}{i:Nat}{a:Addr}{o:HO}{d:D}{Dn:Ends}(rel:zdz K C ρ σ H)(at0:At ρ σ i a)(m:zbh K (upd H a o) a d)(g:zcs K C H (.ok (.nx,za4 ρ i d)) Dn):Dn.nx σ (upd H a o):=by
 have st:Stp ρ (za4 ρ i d) σ H (upd H a o):=zlJ at0
 exact g σ _ (rel.step (rel.rel.zyc at0 m) st) (st.fzn rel.rel)
theorem zvg{C:SC}{ρ:En}{σ:L2.St}{H:Hp}{i:Nat}{a:Addr}{o:HO}(rel:zdz K C ρ σ H)(at0:At ρ σ i a):Fzn H (upd H a o):=(zlJ (d:=.none) at0).fzn rel.rel
theorem ziu{y:Str}{py ps':Pos}{ke:Expr}{k:EF}(i:Nat)(ha:PE X (.Name y py) (zin i))(he:PV K X e f)(hk:PV K X ke k)
  (has:∀ v,assign (.Subscript (.Name y py) ke ps') X.env v=(do
   let ov <- holding [v] (eval (.Name y py) X.env)
   let iv <- holding [v,ov] (eval ke X.env)
   standAt ps'
   holding [v,ov,iv] (setItem ov iv v)
   release [v,ov,iv] []):=by intro _;rfl)
  (hs:swapsWithSole [.Subscript (.Name y py) ke ps'] e pos.line X.env=pure false:=by rfl)(hw:swappedStores [.Subscript (.Name y py) ke ps'] e X.env=pure none:=by rfl)
  (h1:(assignEach [.Subscript (.Name y py) ke ps'] X.env).map (·.2)=[assign (.Subscript (.Name y py) ke ps') X.env]:=by rfl):PSV K X (.Assign [.Subscript (.Name y py) ke ps'] e pos) (setM i f k):=.mk fun hK C=>by
 subst hK
 refine(zry (he rfl) (zuu ha (hk rfl) set_list has) hs hw h1).weak fun Dn σ H=>?_
 rintro⟨ρ,rel,g⟩
 refine zm0 rel g fun dx ρ1 v H1 rel1 st1 fz g1=>?_
 obtain⟨d,ed,g2⟩:=g1.bnd
 obtain⟨a,vs0,at0,h0,_⟩:=rel1.rel.zxy ed
 refine⟨.ref a,at0.2,zm0 rel1 g2 fun dk ρ2 kv H2 rel2 st2 fk g3=>?_⟩
 obtain⟨c,ec,g4⟩:=g3.bnd
 obtain⟨vs,at1,h1,h2⟩:=rel2.rel.zyo ec at0
 cases dk with
 | int j =>
  obtain⟨n,en,g5⟩:=(show zcs X.K C H2 ((R.of (FL.ixN c.length j)).bind fun n=>.ok (.nx,za4 ρ2 i (.list (c.set n dx)))) Dn from g4).bnd
  simp only [Fz] at fk
  subst fk
  refine⟨a,vs,j,n,rfl,rfl,h1,?_,zqV (d:=.list (c.set n dx)) rel2 at1 ⟨_,zal,(h2.set n (fz.mono (st2.fzn rel1.rel))).mono (zvg rel2 at1)⟩ g5⟩
  rw [h2.len]
  cases e2:FL.ixN c.length j with
  | none=>rw [e2] at en;cases en
  | some m=>rw [e2] at en;cases en;exact e2
 | _=>exact g4.elim
end
end
section
variable [Cs]
def Walk(K:W.Frag)(J:It)(items:List D)(H:Hp):Prop :=
 (∀ i d H',Fzn H H'->items[i]?=some d->J.go i H'/\∀ x H'',J.yld i H' x H''->zaB H' H''/\Fz K H'' d x)/\∀ i H',Fzn H H'->items.length<=i->J.stop i H'
def tI(K:W.Frag)(it:IF):TI:=fun σ H R=>∃ ρ,Rel K ρ σ H/\Good K ρ σ H (it ρ) fun items _ H'=>∀ J,Walk K J items H'->R J H'
structure PVI(K:W.Frag)(X:Cx)(tg e:Expr)(it:IF):Prop where
 run:X.K=K->PI X tg e (tI K it)
instance {K:W.Frag} {X:Cx} {tg e:Expr} {it:IF}:CoeFun (PVI K X tg e it) fun _=>X.K=K->PI X tg e (tI K it):=⟨PVI.run⟩
theorem _root_.L2.PI.weak{X:Cx}{tg e:Expr}{t t':TI}(h:PI X tg e t)(w:∀ σ H R,t' σ H R->t σ H R):PI X tg e t':=fun pins s σ H R I q=>h pins s σ H R I (w σ H R q)
section
variable {K:W.Frag}{X:Cx}{tg e:Expr}{f:EF}{pos:Pos}
theorem zur{l:Expr}{tl:TE}(hl:PE X l tl):PI X tg l (fun σ H R=>tl σ H fun x H1=>∃ a,x=.ref a/\(((∃ xs,SqL X.K H1 a xs)/\R (Itl X.K a) H1)\/((∃ xs,SqT X.K H1 a xs)/\R (Itt X.K a) H1))):=by
 intro pins s σ H R I h
 refine thn (hl pins s σ H _ I h) fun v s1 ⟨x,H1,I1,r1,q1⟩=>?_
 obtain⟨a,e,q1⟩:=q1
 subst e
 cases r1
 rcases q1 with⟨⟨xs,hq⟩,q⟩|⟨⟨xs,hq⟩,q⟩
 ·obtain⟨its,rv,p,hz⟩:=I1.list hq
  refine wpAny_pyIter_list p.isList ?_
  refine⟨s1.heap.objs.size,[s1.heap.objs.size],_,_,H1,rfl,I1.kept (t':=s1.toks) fun b o e=>Heap.get?_push_of_some _ e,zjs a _,⟨_,Heap.get?_push_size _ rfl,rfl,rfl⟩,fun b hb=>?_,q⟩
  have e:b=s1.heap.objs.size:=by simpa using hb
  subst e
  exact I1.zpO (Nat.le_refl _) (I1.hok.fresh (Nat.le_refl _))
 ·obtain⟨its,rv,p,hz⟩:=I1.tuple hq
  refine wpAny_pyIter_tuple (show s1.heap.IsTuple a its.toArray from p) ?_
  refine⟨s1.heap.objs.size,[s1.heap.objs.size],_,_,H1,rfl,I1.kept (t':=s1.toks) fun b o e=>Heap.get?_push_of_some _ e,zmB a _,⟨_,Heap.get?_push_size _ rfl,rfl,rfl⟩,fun b hb=>?_,q⟩
  have e:b=s1.heap.objs.size:=by simpa using hb
  subst e
  exact I1.zpO (Nat.le_refl _) (I1.hok.fresh (Nat.le_refl _))
theorem znq{H:Hp}{a:Addr}{vs:List V}{items:List D}(h:FzL K H a vs)(f:zaf K H items vs):Walk K (Itl K a) items H:=by
 refine⟨fun i d H' fz e=>?_,fun i H' fz e=>⟨vs,(fz.zsj h).sq,by rw [f.len];exact e⟩⟩
 obtain⟨v,ev,_⟩:=f.get e
 refine⟨⟨vs,v,(fz.zsj h).sq,ev⟩,fun x H'' y=>?_⟩
 obtain⟨rfl,y⟩:=y
 have ex:=y vs (fz.zsj h).sq
 obtain⟨v',ev',fv⟩:=(f.mono fz).get e
 rw [ex] at ev'
 cases ev'
 exact⟨zaB.refl _,fv⟩
theorem zpS{H:Hp}{a:Addr}{vs:List V}{items:List D}(h:TAt H a vs)(f:zaf K H items vs):Walk K (Itt K a) items H:=by
 refine⟨fun i d H' fz e=>?_,fun i H' fz e=>⟨vs,.inl (fz.zvR h),by rw [f.len];exact e⟩⟩
 obtain⟨v,ev,_⟩:=f.get e
 refine⟨⟨vs,v,.inl (fz.zvR h),ev⟩,fun x H'' y=>?_⟩
 obtain⟨rfl,y⟩:=y
 have ex:=y vs (.inl (fz.zvR h))
 obtain⟨v',ev',fv⟩:=(f.mono fz).get e
 rw [ex] at ev'
 cases ev'
 exact⟨zaB.refl _,fv⟩
theorem zcI(he:PV K X e f):PVI K X tg e (iE f):=.mk fun hK=>by
 subst hK
 refine(zur (he rfl)).weak fun σ H R=>?_
 rintro⟨ρ,rel,q⟩
 refine goV rel q fun dx ρ1 x H1 rel1 st1 fx q1=>?_
 obtain⟨items,ei,q2⟩:=q1.zdP
 cases dx with
 | list a =>
  cases ei
  simp only [Fz] at fx
  obtain⟨l,vs,rfl,sx,f⟩:=fx
  exact⟨l,rfl,.inl ⟨⟨vs,sx.sq⟩,q2.now rel1 _ (znq sx f)⟩⟩
 | tuple a =>
  cases ei
  simp only [Fz] at fx
  obtain⟨l,vs,rfl,sx,f⟩:=fx
  exact⟨l,rfl,.inr ⟨⟨vs,.inl sx⟩,q2.now rel1 _ (zpS sx f)⟩⟩
 | _=>cases ei
theorem p62:(2:Int)^62=4611686018427387904:=by decide
theorem zsk{lo hi:Int}{i:Nat}{d:D}(h:(rng lo hi)[i]?=some d):i<(hi-lo).toNat/\d=.int (lo+i):=by
 unfold rng at h
 rw [List.getElem?_map] at h
 by_cases c:i<(hi-lo).toNat
 ·rw [List.getElem?_range c] at h
  cases h
  exact⟨c,rfl⟩
 ·rw [List.getElem?_eq_none (by rw [List.length_range];omega)] at h;cases h
theorem zlA{H:Hp}(lo hi:Int):Walk K (Itr lo (hi-lo).toNat) (rng lo hi) H:=by
 refine⟨fun i d H' fz e=>?_,fun i H' fz e=>?_⟩
 ·obtain⟨c,rfl⟩:=zsk e
  refine⟨c,fun x H'' y=>?_⟩
  obtain⟨rfl,rfl⟩:=y
  exact⟨zaB.refl _,zcp _⟩
 ·show(hi-lo).toNat<=i
  simpa [rng] using e
theorem zcU{a:Expr}{fa:AF}{p:Pos}(hg:Gl X "range") (hm:X.mg "range"=none) (ha:PVA K X [a] fa) (hs:starEach [a] X.env=[(false,eval a X.env)]:=by exact FL.se rfl):PVI K X tg (.Call (.Name "range" p) [a] [] pos) (iR1 fa):=.mk fun hK=>(zoc hg hm (ha hK) hs).weak fun σ H R=>by
 rintro⟨ρ,rel,q⟩
 refine goA rel q fun ds ρ1 vs H1 rel1 st1 fs q1=>?_
 obtain⟨items,ei,q2⟩:=q1.zdP
 cases ds with
 | nil=>cases ei
 | cons d r =>
  cases r with
  | cons _ _=>cases d <;> cases ei
  | nil =>
   cases d with
   | int j =>
    obtain⟨c,ei⟩:=za1 (show chk (zit j&&leB j.toNat lim) (.ok (rng 0 j))=.ok items from ei)
    cases ei
    simp only [zaf,Fz] at fs
    obtain⟨_,_,rfl,rfl,rfl⟩:=fs
    simp only [zit,Bool.and_eq_true,leB_iff] at c
    have:=zlA (K:=K) (H:=H1) 0 j
    rw [Int.sub_zero] at this
    have e62:=p62
    exact⟨j,rfl,by omega,by omega,q2.now rel1 _ this⟩
   | _=>cases ei
theorem zhH{a b:Expr}{fa:AF}{p:Pos}(hg:Gl X "range") (hm:X.mg "range"=none) (ha:PVA K X [a,b] fa) (hs:starEach [a,b] X.env=[(false,eval a X.env),(false,eval b X.env)]:=by rfl) (hs2:starEach [b] X.env=[(false,eval b X.env)]:=by exact FL.se rfl) :
  PVI K X tg (.Call (.Name "range" p) [a,b] [] pos) (iR2 fa):=.mk fun hK=>(zob hg hm (ha hK) hs hs2).weak fun σ H R=>by
 rintro⟨ρ,rel,q⟩
 refine goA rel q fun ds ρ1 vs H1 rel1 st1 fs q1=>?_
 obtain⟨items,ei,q2⟩:=q1.zdP
 have key:∃ i j,ds=[.int i,.int j]:=by
  cases ds with
  | nil=>cases ei
  | cons d r =>
   cases d with
   | int i =>
    cases r with
    | nil=>cases ei
    | cons d2 r =>
     cases d2 with
     | int j =>
      cases r with
      | nil=>exact⟨i,j,rfl⟩
      | cons _ _=>cases ei
     | _=>cases ei
   | _=>cases ei
 obtain⟨i,j,rfl⟩:=key
 obtain⟨c,ei⟩:=za1 (show chk (zit i&&zit j&&leB (j-i).toNat lim) (.ok (rng i j))=.ok items from ei)
 cases ei
 simp only [zaf,Fz] at fs
 obtain⟨_,_,rfl,rfl,_,_,rfl,rfl,rfl⟩:=fs
 simp only [zit,Bool.and_eq_true,leB_iff] at c
 have e62:=p62
 exact⟨i,j,rfl,⟨by omega,by omega,by omega,by omega⟩,q2.now rel1 _ (zlA i j)⟩
variable {it:IF}{g:GF}{b t:SF}{body:List Stmt}
theorem zsw{dom:List Nat}(hp:PassesOwn (model X.prog X.w) X.A X.env X.xe)(hc:X.calm=true)(hi:PVI K X tg e it)(hg:PVG K X dom tg g)(hb:zjc K X body b)(hs:∀ x,foldedSetIterable e X.env x=pure x:=by intro _;rfl):PSV K X (.For tg e body [] pos) (zep it g b):=.mk fun hK C =>
 (zrx hp hc (hi hK) (hg hK) (hb hK C) hs).weak fun Dn σ0 H0=>by
 rintro⟨ρ0,rel0,q⟩
 obtain⟨x,ex,q⟩:=q.bnd
 refine⟨ρ0,rel0.rel,?_⟩
 rw [ex]
 intro Hs r st J wk
 have rel1:=rel0.step r st
 have q1:=q.step (st.fzn rel0.rel)
 obtain⟨items,ρs⟩:=x
 refine⟨fun i m σ H=>m=items.length-i/\i<=items.length/\∃ ρ,zdz K C ρ σ H/\Fzn Hs H/\zcs K C H (forL g b (items.drop i) ρ) Dn,⟨items.length,by simp,Nat.zero_le _,ρs,rel1,Fzn.refl _,q1⟩,?_⟩
 rintro i m σ H ⟨rfl,hi,ρ,rel,fz,gd⟩
 by_cases c:i<items.length
 ·have ed:=List.drop_eq_getElem_cons c
  rw [ed] at gd
  obtain⟨hgo,hy⟩:=wk.1 i items[i] H fz (List.getElem?_eq_getElem c)
  refine .inr ⟨hgo,fun σ' H'=>∃ ρ,zdz K C ρ σ' H'/\Fzn Hs H'/\zcs K C H' (forL g b (items.drop (i+1)) ρ) Dn,fun σ' H' n=>⟨items.length-(i+1),by omega,rfl,c,n⟩,fun x H3 y=>?_⟩
  obtain⟨sm,fx⟩:=hy x H3 y
  have rel3:zdz K C ρ σ H3:=rel.step (rel.rel.same sm) (.of sm)
  obtain⟨ρ1,e1,gd1⟩:=gd.bnd
  refine⟨ρ,items[i],ρ1,rel3.rel,fx,e1,fun σ1 rel4 chg=>⟨ρ1,rel3.chg rel4 chg,?_⟩⟩
  obtain⟨y,ey,gd2⟩:=gd1.bnd
  rw [ey]
  have gd3:=gd2.step (Fzn.of sm)
  have fz3:=fz.trans (Fzn.of sm)
  obtain⟨fl,ρ2⟩:=y
  cases fl with
  | nx=>exact fun σ' H' r z=>⟨ρ2,r,fz3.trans z,gd3.step z⟩
  | ct=>exact fun σ' H' r z=>⟨ρ2,r,fz3.trans z,gd3.step z⟩
  | bk=>exact gd3
  | rt d=>exact gd3
  | rf d=>exact gd3
 ·have e:i=items.length:=by omega
  subst e
  rw [List.drop_length] at gd
  exact .inl ⟨wk.2 _ H fz (Nat.le_refl _),gd σ H rel (Fzn.refl _)⟩
theorem zjB{c:Expr}{tc:TF}(fuel:En->Nat)(hp:PassesOwn (model X.prog X.w) X.A X.env X.xe)(hc:PVT K X c tc)(hb:zjc K X body b):PSV K X (.While c body [] pos) (zgq fuel tc b):=.mk fun hK C =>
 (zqi hp (hc hK) (hb hK C)).weak fun Dn σ0 H0=>by
 rintro⟨ρ0,rel0,q⟩
 refine⟨fun m σ H=>∃ ρ,zdz K C ρ σ H/\zcs K C H (zgn tc b m ρ) Dn,⟨fuel ρ0,ρ0,rel0,q⟩,?_⟩
 rintro m σ H ⟨ρ,rel,gd⟩
 cases m with
 | zero=>exact gd.elim
 | succ n =>
  refine zw0 rel gd fun cb ρ1 H1 rel1 fz g1=>?_
  cases cb with
  | false=>exact zpM (g1 σ H1 rel1 (Fzn.refl _))
  | true =>
   refine zpL ⟨fun σ' H'=>∃ ρ,zdz K C ρ σ' H'/\zcs K C H' (zgn tc b n ρ) Dn,fun σ' H' z=>⟨n,Nat.lt_succ_self _,z⟩,ρ1,rel1,?_⟩
   obtain⟨y,ey,gd2⟩:=(show zcs K C H1 ((b ρ1).bind fun y=>match y.1 with
   | .nx | .ct=>zgn tc b n y.2
   | .bk=>.ok (.nx,y.2)
   | .rt d=>.ok (.rt d,y.2)
   | .rf d=>.ok (.rf d,y.2)) Dn from g1).bnd
   rw [ey]
   obtain⟨fl,ρ2⟩:=y
   cases fl with
   | nx=>exact fun σ' H' r z=>⟨ρ2,r,gd2.step z⟩
   | ct=>exact fun σ' H' r z=>⟨ρ2,r,gd2.step z⟩
   | bk=>exact gd2
   | rt d=>exact gd2
   | rf d=>exact gd2
end
end
section
variable [Cs]
section
variable {K:W.Frag}{ρ:En}{σ:L2.St}{H H':Hp}{k:Nat}{ix:List Nat}
theorem zpq{j:Nat}(h:j<k):(blk k ix ρ)[j]?=some .no:=by
 unfold blk
 rw [List.getElem?_append_left (by simpa using h),List.getElem?_replicate,if_pos h]
theorem zmt(j:Nat):(blk k ix ρ)[k+j]?=(ix[j]?).map fun i=>(ρ[i]?).getD .no:=by
 unfold blk
 rw [List.getElem?_append_right (by simp),List.length_replicate,Nat.add_sub_cancel_left,List.getElem?_map]
theorem zpo(j:Nat):(zef k ix σ)[k+j]?=(ix[j]?).map fun i=>(σ[i]?).getD none:=by
 unfold zef
 rw [List.getElem?_append_right (by simp),List.length_replicate,Nat.add_sub_cancel_left,List.getElem?_map]
theorem zh1{j:Nat}{a:Addr}(h:At (blk k ix ρ) (zef k ix σ) j a):∃ j' i,j=k+j'/\ix[j']?=some i/\At ρ σ i a:=by
 obtain⟨⟨p,d,e1⟩,e2⟩:=h
 by_cases c:j<k
 ·rw [zpq c] at e1;cases e1
 ·obtain⟨j',rfl⟩:∃ j',j=k+j':=⟨j-k,by omega⟩
  rw [zmt] at e1
  rw [zpo] at e2
  cases ei:ix[j']? with
  | none=>rw [ei] at e1;cases e1
  | some i =>
   rw [ei] at e1 e2
   refine⟨j',i,rfl,ei,⟨p,d,?_⟩,?_⟩
   ·simp only [Option.map_some,Option.some.injEq] at e1
    cases er:ρ[i]? with
    | none=>rw [er] at e1;cases e1
    | some x=>rw [er] at e1;simpa using e1
   ·simp only [Option.map_some,Option.some.injEq] at e2
    cases es:σ[i]? with
    | none=>rw [es] at e2;cases e2
    | some x=>rw [es] at e2;simpa using e2
theorem zoo{l:List Nat}(h:l.Nodup){i j x:Nat}(a:l[i]?=some x)(b:l[j]?=some x):i=j:=by
 obtain⟨h1,e1⟩:=List.getElem?_eq_some_iff.mp a
 obtain⟨h2,e2⟩:=List.getElem?_eq_some_iff.mp b
 exact(List.getElem_inj h).mp (e1.trans e2.symm)
theorem zpp(nd:ix.Nodup)(r:Rel K ρ σ H):Rel K (blk k ix ρ) (zef k ix σ) H:=by
 refine⟨by simp [blk,zef],fun j x v e1 e2=>?_,fun i j a h1 h2=>?_,r.cst⟩
 ·by_cases c:j<k
  ·rw [zpq c] at e1;cases e1;trivial
  ·obtain⟨j',rfl⟩:∃ j',j=k+j':=⟨j-k,by omega⟩
   rw [zmt] at e1
   rw [zpo] at e2
   cases ei:ix[j']? with
   | none=>rw [ei] at e1;cases e1
   | some i =>
    rw [ei] at e1 e2
    simp only [Option.map_some,Option.some.injEq] at e1 e2
    cases er:ρ[i]? with
    | none=>rw [er] at e1;cases e1;trivial
    | some y =>
     have hl:i<σ.length:=by rw [<- r.len];exact(List.getElem?_eq_some_iff.mp er).1
     rw [er] at e1
     rw [List.getElem?_eq_getElem hl] at e2
     cases e1;cases e2
     exact r.ok i _ _ er (List.getElem?_eq_getElem hl)
 ·obtain⟨i',x,rfl,e1,a1⟩:=zh1 h1
  obtain⟨j',y,rfl,e2,a2⟩:=zh1 h2
  have:=r.sep x y a a1 a2
  subst this
  rw [zoo nd e1 e2]
theorem zlo{m:List (Nat×Sl)}:∀(ρ:En) (n i:Nat),(bkL m n ρ)[i]?=(ρ[i]?).map (bk1 m (n+i))
 | [],n,i=>by simp [bkL]
 | x::r,n,0=>by simp [bkL]
 | x::r,n,i+1=>by
  simp only [bkL,zz1]
  rw [zlo r (n+1) i,show n+1+i=n+(i+1) by omega]
theorem zmw{cs:En}(i:Nat):(back ρ ix cs)[i]?=(ρ[i]?).map (bk1 (ix.zip cs) i):=by
 unfold back
 rw [zlo,Nat.zero_add]
theorem zln{m:List (Nat×Sl)}:∀(ρ:En) (n:Nat),(bkL m n ρ).length=ρ.length
 | [],n=>rfl
 | x::r,n=>by simp [bkL,zln r]
theorem zhD:∀{ix:List Nat} {cs:En} {i:Nat} {c:Sl},(ix.zip cs).lookup i=some c->∃ j:Nat,ix[j]?=some i/\cs[j]?=some c
 | [],cs,i,c,h=>by simp at h
 | x::r,[],i,c,h=>by simp at h
 | x::r,y::s,i,c,h=>by
  rw [List.zip_cons_cons,List.lookup_cons] at h
  by_cases e:i=x
  ·subst e
   simp only [beq_self_eq_true] at h
   cases h
   exact⟨0,rfl,rfl⟩
  ·rw [beq_false_of_ne e] at h
   obtain⟨j,h1,h2⟩:=zhD h
   exact⟨j+1,by simpa using h1,by simpa using h2⟩
theorem zeI:∀{ix:List Nat} {cs:En} {i j:Nat} {c:Sl},ix.Nodup->ix[j]?=some i->cs[j]?=some c->(ix.zip cs).lookup i=some c
 | [],cs,i,j,c,_,h1,_=>by simp at h1
 | x::r,[],i,j,c,_,_,h2=>by simp at h2
 | x::r,y::s,i,j,c,nd,h1,h2=>by
  rw [List.zip_cons_cons,List.lookup_cons]
  cases j with
  | zero =>
   simp at h1 h2
   subst h1;subst h2
   simp
  | succ j =>
   simp at h1 h2
   have:i≠x:=fun z=>by
    subst z
    exact(List.nodup_cons.mp nd).1 (List.mem_of_getElem? h1)
   rw [beq_false_of_ne this]
   exact zeI (List.nodup_cons.mp nd).2 h1 h2
theorem zi8{β:En}{σβ:L2.St}(nd:ix.Nodup)(r:Rel K ρ σ H)(hs:∀ j,σβ[k+j]?=(zef k ix σ)[k+j]?)(rb:Rel K β σβ H')
  (md:∀ j p,(∃ d,β[k+j]?=some (.ow p d))↔∃ d,(blk k ix ρ)[k+j]?=some (.ow p d))(kp:∀ a o,H a=some o->¬ MA (blk k ix ρ) (zef k ix σ) a->H' a=some o) :
  Rel K (back ρ ix (β.drop k)) σ H'/\Stp ρ (back ρ ix (β.drop k)) σ H H':=by
 have hm:∀ a,MA (blk k ix ρ) (zef k ix σ) a->MA ρ σ a:=fun a ⟨j,h⟩=>by
  obtain⟨_,i,_,_,h⟩:=zh1 h
  exact⟨i,h⟩
 have fz:Fzn H H':=fun a o h st=>kp a o h fun m=>by
  obtain⟨o',e,w⟩:=r.za5 (hm a m)
  rw [h] at e
  cases e
  exact w.zcz st
 have mdB:∀(i:Nat) p,(∃ d,ρ[i]?=some (.ow p d))↔∃ d,(back ρ ix (β.drop k))[i]?=some (.ow p d):=fun i p=>by
  rw [zmw]
  constructor
  ·rintro⟨d,e⟩
   rw [e]
   simp only [Option.map_some,bk1]
   split
   ·rename_i p' d1 q' d2 h1 h2;cases h1;exact⟨_,rfl⟩
   ·exact⟨_,rfl⟩
  ·rintro⟨d,e⟩
   cases er:ρ[i]? with
   | none=>rw [er] at e;cases e
   | some x =>
    rw [er] at e
    simp only [Option.map_some,Option.some.injEq,bk1] at e
    split at e
    ·cases e;exact⟨_,rfl⟩
    ·subst e;exact⟨_,rfl⟩
 have atB:∀ i a,At (back ρ ix (β.drop k)) σ i a->At ρ σ i a:=fun i a ⟨⟨p,d,e1⟩,e2⟩=>⟨⟨p,(mdB i p).mpr ⟨d,e1⟩⟩,e2⟩
 refine⟨⟨by rw [show(back ρ ix (β.drop k)).length=ρ.length from zln _ _];exact r.len,fun i x v e1 e2=>?_,fun i j a h1 h2=>r.sep i j a (atB i a h1) (atB j a h2),r.cst.mono fz⟩,⟨mdB,fun a o h n=>kp a o h fun m=>n (hm a m)⟩⟩
 rw [zmw] at e1
 cases er:ρ[i]? with
 | none=>rw [er] at e1;cases e1
 | some y =>
  rw [er] at e1
  simp only [Option.map_some,Option.some.injEq] at e1
  have o:=r.ok i y v er e2
  cases y with
  | no=>simp only [bk1] at e1;subst e1;trivial
  | val d =>
   simp only [bk1] at e1
   subst e1
   exact o.mono fz fun a _ ⟨p,d',z⟩=>nomatch z
  | ob c ds =>
   simp only [bk1] at e1
   subst e1
   exact o.mono fz fun a _ ⟨p,d',z⟩=>nomatch z
  | ow p d =>
   cases v with
   | none=>exact o.elim
   | some v =>
    cases v with
    | ref a =>
     have ai:At ρ σ i a:=⟨⟨p,d,er⟩,e2⟩
     cases el:(ix.zip (β.drop k)).lookup i with
     | none =>
      simp only [bk1,el] at e1
      subst e1
      refine o.mono fz fun b e3 _=>?_
      cases e3
      obtain⟨u,hu,_⟩:=r.za5 ⟨i,ai⟩
      rw [hu]
      refine kp a u hu fun⟨j,h⟩=>?_
      obtain⟨j',i',rfl,ej,h'⟩:=zh1 h
      have:=r.sep i i' a ai h'
      subst this
      have hb:β[k+j']?≠none:=fun z=>by
       have:∃ d,β[k+j']?=some (.ow p d):=(md j' p).mpr ⟨d,by rw [zmt,ej];simp [er]⟩
       obtain⟨_,w⟩:=this
       rw [z] at w;cases w
      cases hbe:β[k+j']? with
      | none=>exact hb hbe
      | some c =>
       have:(β.drop k)[j']?=some c:=by rw [List.getElem?_drop];exact hbe
       rw [zeI nd ej this] at el
       cases el
     | some c =>
      obtain⟨j,hj,hc⟩:=zhD el
      rw [List.getElem?_drop] at hc
      have bm:(blk k ix ρ)[k+j]?=some (.ow p d):=by rw [zmt,hj];simp [er]
      obtain⟨d',hd'⟩:=(md j p).mpr ⟨d,bm⟩
      rw [hc] at hd'
      cases hd'
      simp only [bk1,el] at e1
      subst e1
      have es:σβ[k+j]?=some (some (.ref a)):=by rw [hs j,zpo,hj];simp [e2]
      exact rb.ok (k+j) _ _ hc es
    | _=>exact o.elim
end
theorem ziU{K:W.Frag}{k:Nat}{dom:List Nat}{g:GF}(hd:dom.all (fun i=>decide (i<k))=true):zly k (tG K dom g):=fun x σ H Q=>by
 rintro⟨ρ,d,ρ1,rel,fz,e,q⟩
 refine⟨ρ,d,ρ1,rel,fz,e,fun σ1 rel1 c=>⟨⟨c.1,fun i hi=>?_⟩,q σ1 rel1 c⟩⟩
 rcases c.2 i with⟨_,c2⟩|⟨m,_⟩
 ·exact c2
 ·have:=of_decide_eq_true (List.all_eq_true.mp hd i m)
  omega
structure zpQ(K:W.Frag)(X:Cx)(ifs:List Expr)(t:TF):Prop where
 run:X.K=K->PTs X ifs (tT K t)
instance {K:W.Frag} {X:Cx} {ifs:List Expr} {t:TF}:CoeFun (zpQ K X ifs t) fun _=>X.K=K->PTs X ifs (tT K t):=⟨zpQ.run⟩
theorem _root_.L2.PTs.weak{X:Cx}{e:List Expr}{t t':TT}(h:PTs X e t)(w:∀ σ H Q,t' σ H Q->t σ H Q):PTs X e t':=fun pins s σ H Q I q=>h pins s σ H Q I (w σ H Q q)
theorem zd0{K:W.Frag}{X:Cx}:zpQ K X [] zc8:=.mk fun _=>zsE.weak fun σ H Q=>by
 rintro⟨ρ,rel,q⟩
 exact q.now rel
theorem zlP{K:W.Frag}{X:Cx}{c:Expr}{t:TF}(h:PVT K X c t):zpQ K X [c] t:=.mk fun hK=>zsD (h hK)
section
variable {K:W.Frag}{X:Cx}{elt tg iter:Expr}{ifs:List Expr}{scope:Scope}{pos:Pos}{it:IF}{g:GF}{t:TF}{f:EF}{dom:List Nat}
theorem zrR{k:Nat}{ix:List Nat}(nd:ix.Nodup)(hgo:dom.all (fun i=>decide (i<k))=true)(σ:L2.St)(H:Hp)(Q:VK)(q:tN K (zdm k ix it g t f) σ H Q):zmF k ix (tI K it) (tG K dom g) (tT K t) (tV K f) σ H Q:=by
 revert q
 rintro⟨ρ0,rel0,q⟩
 obtain⟨x,ex,q⟩:=q.bnd
 refine⟨ρ0,rel0,?_⟩
 rw [ex]
 intro H1 rel1 st1 J wk l hl
 obtain⟨items,ρs⟩:=x
 have hl0:H l=none:=by
  cases e:H l with
  | none=>rfl
  | some o =>
   by_cases m:MA ρ0 σ l
   ·obtain⟨o',e',_⟩:=rel1.za5 (st1.ma.mp m)
    rw [hl] at e';cases e'
   ·rw [st1.kp l o e m] at hl;cases hl
 have sl:zaB H1 (upd H1 l (.lst [])):=zaB.upd hl
 refine⟨fun i m ys H2=>m=items.length-i/\i<=items.length/\H2 l=some (.lst ys)/\∃ ρ acc,Rel K ρ σ H2/\¬ MA ρ σ l/\zaf K H2 acc ys/\Fzn H1 H2/\Stp ρ0 ρ σ H H2 /\
  Good K ρ0 σ H ((zgZ k ix g t f (items.drop i) ρ acc).bind fun(y:List D×En)=>.ok ((PyData.list y.1:D),y.2)) fun d ρ' H'=>∀ a,H a=none->zbh K H' a d->Q (.ref a) H',
  ⟨items.length,by simp,Nat.zero_le _,zal,ρs,[],rel1.same sl,fun z=>?_,by simp [zaf],Fzn.of sl,st1.trans (.of sl),q⟩,?_⟩
 ·obtain⟨o',e',_⟩:=rel1.za5 z
  rw [hl] at e';cases e'
 rintro i m ys H2 ⟨rfl,hi,hly,ρ,acc,rel,nma,fa,fz,st0,gd⟩
 refine⟨hly,?_⟩
 by_cases c:i<items.length
 ·have ed:=List.drop_eq_getElem_cons c
  rw [ed] at gd
  obtain⟨hgo',hy⟩:=wk.1 i items[i] H2 fz (List.getElem?_eq_getElem c)
  refine .inr ⟨hgo',fun x H3 y=>?_⟩
  obtain⟨sm,fx⟩:=hy x H3 y
  have rel3:Rel K ρ σ H3:=rel.same sm
  obtain⟨w,ew,gd⟩:=gd.zdP
  obtain⟨β1,e1,ew⟩:=zaj (show(g items[i] (blk k ix ρ)).bind _=.ok w from ew)
  obtain⟨c1,ec,ew⟩:=zaj ew
  refine⟨blk k ix ρ,items[i],β1,zpp nd rel3,fx,e1,fun σ1 relβ chg=>⟨β1,relβ,?_⟩⟩
  rw [ec]
  intro H5 rel5 st5
  have hσ:∀ j,σ1[k+j]?=(zef k ix σ)[k+j]?:=fun j=>by
   rcases chg.2 (k+j) with⟨_,c2⟩|⟨m,_⟩
   ·exact c2
   ·have:=of_decide_eq_true (List.all_eq_true.mp hgo _ m)
    omega
  have hβ:∀ j,β1[k+j]?=(blk k ix ρ)[k+j]?:=fun j=>by
   rcases chg.2 (k+j) with⟨c2,_⟩|⟨m,_⟩
   ·exact c2
   ·have:=of_decide_eq_true (List.all_eq_true.mp hgo _ m)
    omega
  have hMA:∀ a,MA β1 σ1 a->MA (blk k ix ρ) (zef k ix σ) a:=fun a ⟨j,⟨p,d,z1⟩,z2⟩=>by
   rcases chg.2 j with⟨c1,c2⟩|⟨_,⟨d',c1⟩,_⟩
   ·exact⟨j,⟨p,d,by rw [<- c1];exact z1⟩,by rw [<- c2];exact z2⟩
   ·rw [c1] at z1;cases z1
  have hMB:∀ a,MA (blk k ix ρ) (zef k ix σ) a->MA ρ σ a:=fun a ⟨j,h⟩=>by
   obtain⟨_,i,_,_,h⟩:=zh1 h
   exact⟨i,h⟩
  have h3l:H3 l=some (.lst ys):=sm l _ hly
  have n1:¬ MA β1 σ1 l:=fun z=>nma (hMB l (hMA l z))
  have h5l:H5 l=some (.lst ys):=st5.kp l _ h3l n1
  obtain⟨cb,β2⟩:=c1
  cases cb with
  | true =>
   refine zpL ⟨β2,rel5,?_⟩
   obtain⟨y,ey,ew⟩:=zaj (show(f β2).bind _=.ok w from ew)
   rw [ey]
   intro H6 rel6 st6 v fv
   obtain⟨cc,ew⟩:=za1 ew
   have n2:¬ MA β2 σ1 l:=fun z=>n1 (st5.ma.mpr z)
   have h6l:H6 l=some (.lst ys):=st6.kp l _ h5l n2
   have st:Stp β1 y.2 σ1 H3 H6:=st5.trans st6
   obtain⟨rb,sb⟩:=zi8 (k:=k) nd rel3 hσ rel6 (fun j p=>by rw [<- hβ j];exact(st.md (k+j) p).symm) (fun a o h n=>st.kp a o h fun z=>n (hMA a z))
   have nmb:¬ MA (back ρ ix (y.2.drop k)) σ l:=fun z=>nma (sb.ma.mpr z)
   have fz6:Fzn H2 H6:=(Fzn.of sm).trans (sb.fzn rel3)
   have fz7:Fzn H6 (upd H6 l (.lst (ys++[v]))):=fun b u e s=>by
    rw [zan fun z=>by subst z;rw [h6l] at e;cases e;exact s]
    exact e
   refine⟨h6l,?_,items.length-(i+1),by omega,rfl,c,zal,back ρ ix (y.2.drop k),acc++[y.1],rb.put nmb (fun u e=>by rw [h6l] at e;cases e;exact fun z=>z),nmb,?_,(fz.trans fz6).trans fz7,⟨((st0.trans (.of sm)).trans sb).md,fun a o h n=>?_⟩,?_⟩
   ·have:=ziM cc
    have l0:=zb0
    rw [fa.len];omega
   ·refine((fa.mono fz6).mono fz7).app ?_
    simp only [zaf]
    exact⟨v,[],rfl,fv.mono fz7,rfl⟩
   ·rw [zan fun z=>by subst z;rw [hl0] at h;cases h]
    exact((st0.trans (.of sm)).trans sb).kp a o h n
   ·rw [ew]
    exact gd
  | false =>
   obtain⟨rb,sb⟩:=zi8 (k:=k) nd rel3 hσ rel5 (fun j p=>by rw [<- hβ j];exact(st5.md (k+j) p).symm) (fun a o h n=>st5.kp a o h fun z=>n (hMA a z))
   have nmb:¬ MA (back ρ ix (β2.drop k)) σ l:=fun z=>nma (sb.ma.mpr z)
   have fz6:Fzn H2 H5:=(Fzn.of sm).trans (sb.fzn rel3)
   refine zpM ⟨items.length-(i+1),by omega,rfl,c,h5l,back ρ ix (β2.drop k),acc,rb,nmb,fa.mono fz6,fz.trans fz6,(st0.trans (.of sm)).trans sb,?_⟩
   rw [show zgZ k ix g t f (items.drop (i+1)) (back ρ ix (β2.drop k)) acc=.ok w from ew]
   exact gd
 ·have e:i=items.length:=by omega
  subst e
  rw [List.drop_length] at gd
  exact .inl ⟨wk.2 _ H2 fz (Nat.le_refl _),gd H2 rel st0 l hl0 ⟨ys,hly,fa⟩⟩
theorem zp6(L:List Str)(ix:List Nat)(M:List Str)(hc:X.calm=true)(hk:scope.kind=.function)(hd:zca X.env.scope scope X.N ix=true)(hM:M=L++ix.map fun i=>X.N.getD i "") (nd:ix.Nodup) (hi:PVI K X tg iter it)
  (hg:∀ C s₃ H₃ fp,PVG K (zap X M scope C s₃ H₃ fp) dom tg g) (hgo:dom.all (fun i=>decide (i<L.length))=true)
  (ht:∀ C s₃ H₃ fp,zpQ K (zap X M scope C s₃ H₃ fp) ifs t) (he:∀ C s₃ H₃ fp,PV K (zap X M scope C s₃ H₃ fp) elt f)
  (hs:∀ x,foldedSetIterable iter X.env x=pure x:=by intro _;rfl) :
  PVN K X (.ListComp elt [⟨tg,iter,ifs,0⟩] scope pos) (zdm L.length ix it g t f):=.mk fun hK=>by
 refine(zqr L ix M hc hk hd hM (hi hK) (fun C s₃ H₃ fp=>hg C s₃ H₃ fp hK) (ziU hgo) (fun C s₃ H₃ fp=>ht C s₃ H₃ fp hK) (fun C s₃ H₃ fp=>he C s₃ H₃ fp hK) hs).weak fun σ H Q q=>zrR nd hgo σ H Q q
end
end
section
variable [Cs]
def spF(K:W.Frag)(ms:List Bool)(fr:Bool)(F:List D->R (D×List D)):Sp:=fun vs H Q _=>∃ ds,vs.length=ms.length/\ds.length=ms.length/\Rel K (slots ms ds) (vs.map some) H /\
 ∃ d os,F ds=.ok (d,os)/\∀ v H',Rel K (slots ms os) (vs.map some) H'->(∀ a o,H a=some o->¬ MA (slots ms ds) (vs.map some) a->H' a=some o) ->
  (if fr=true then ∃ a,v=.ref a/\H a=none/\zbh K H' a d else Fz K H' d v)->Q v H'
def spP(K:W.Frag)(n:Nat)(fr:Bool)(G:List D->R D):Sp:=fun vs H Q _=>∃ ds,vs.length=n/\zrm H/\zaf K H ds vs/\∃ d,G ds=.ok d/\∀ v H',zaB H H'->(if fr=true then ∃ a,v=.ref a/\H a=none/\zbh K H' a d else Fz K H' d v)->Q v H'
theorem zb4:∀{ms:List Bool} {ds:List D} {i:Nat},ds.length=ms.length->(slots ms ds)[i]?=(ms[i]?).bind fun m=>(ds[i]?).map fun d=>if m=true then Sl.ow true d else Sl.val d
 | [],[],i,_=>by simp [slots]
 | [],_::_,i,h=>by simp at h
 | _::_,[],i,h=>by simp at h
 | m::ms,d::ds,0,_=>by simp [slots]
 | m::ms,d::ds,i+1,h=>by
  simp only [slots,zz1]
  exact zb4 (by simpa using h)
theorem zdC:∀{ms:List Bool} {ds:List D},ds.length=ms.length->(slots ms ds).length=ms.length
 | [],[],_=>rfl
 | [],_::_,h=>by simp at h
 | _::_,[],h=>by simp at h
 | m::ms,d::ds,h=>by simp only [slots,List.length_cons];rw [zdC (by simpa using h)]
theorem zeT:∀{ms:List Bool} {ds:List D} {ρ:En},ds.length=ms.length->(outs ms ds ρ).length=ms.length
 | [],[],_,_=>rfl
 | [],_::_,_,h=>by simp at h
 | _::_,[],_,h=>by simp at h
 | m::ms,d::ds,ρ,h=>by simp only [outs,List.length_cons];rw [zeT (by simpa using h)]
theorem zlZ:∀{ms:List Bool} {ds:List D} {ρ:En} {i:Nat} {m:Bool} {d:D},ms[i]?=some m->ds[i]?=some d->(outs ms ds ρ)[i]?=some (outD m d ρ[i]?)
 | m0::ms,d0::ds,ρ,0,m,d,h1,h2=>by
  simp at h1 h2
  subst h1;subst h2
  simp [outs,List.head?_eq_getElem?]
 | m0::ms,d0::ds,ρ,i+1,m,d,h1,h2=>by
  simp at h1 h2
  simp only [outs,zz1]
  rw [zlZ h1 h2,List.getElem?_tail]
 | [],_,_,_,_,_,h,_=>by simp at h
 | _::_,[],_,_,_,_,_,h=>by simp at h
section
variable {K:W.Frag}{ρ:En}{σ:L2.St}{H:Hp}
theorem Rel.pad(r:Rel K ρ σ H)(n:Nat):Rel K (ρ++List.replicate n .no) (σ++List.replicate n none) H:=by
 have w:∀ i a,At (ρ++List.replicate n .no) (σ++List.replicate n none) i a->At ρ σ i a:=fun i a ⟨⟨p,d,e1⟩,e2⟩=>by
  by_cases c:i<ρ.length
  ·rw [List.getElem?_append_left c] at e1
   rw [List.getElem?_append_left (by rw [<- r.len];exact c)] at e2
   exact⟨⟨p,d,e1⟩,e2⟩
  ·rw [List.getElem?_append_right (by omega),List.getElem?_replicate] at e1
   split at e1 <;> cases e1
 refine⟨by simp [r.len],fun i x v e1 e2=>?_,fun i j a h1 h2=>r.sep i j a (w i a h1) (w j a h2),r.cst⟩
 by_cases c:i<ρ.length
 ·rw [List.getElem?_append_left c] at e1
  rw [List.getElem?_append_left (by rw [<- r.len];exact c)] at e2
  exact r.ok i x v e1 e2
 ·rw [List.getElem?_append_right (by omega),List.getElem?_replicate] at e1
  split at e1
  ·cases e1;trivial
  ·cases e1
theorem zuV{n:Nat}{a:Addr}(hl:ρ.length=σ.length):MA (ρ++List.replicate n .no) (σ++List.replicate n none) a↔MA ρ σ a:=by
 constructor
 ·rintro⟨i,⟨p,d,e1⟩,e2⟩
  by_cases c:i<ρ.length
  ·rw [List.getElem?_append_left c] at e1
   rw [List.getElem?_append_left (by rw [<- hl];exact c)] at e2
   exact⟨i,⟨p,d,e1⟩,e2⟩
  ·rw [List.getElem?_append_right (by omega),List.getElem?_replicate] at e1
   split at e1 <;> cases e1
 ·rintro⟨i,⟨p,d,e1⟩,e2⟩
  have c:=(List.getElem?_eq_some_iff.mp e1).1
  exact⟨i,⟨p,d,by rw [List.getElem?_append_left c];exact e1⟩,by rw [List.getElem?_append_left (by rw [<- hl];exact c)];exact e2⟩
end
theorem zdX{ms:List Bool}{ds:List D}{i:Nat}{p:Bool}{d:D}(hl:ds.length=ms.length)(e:(slots ms ds)[i]?=some (.ow p d)):p=true/\ms[i]?=some true/\ds[i]?=some d:=by
 rw [zb4 hl] at e
 cases em:ms[i]? with
 | none=>rw [em] at e;cases e
 | some m =>
  cases ed:ds[i]? with
  | none=>rw [em,ed] at e;cases e
  | some d' =>
   rw [em,ed] at e
   cases m with
   | true=>simp at e;exact⟨e.1,rfl,by rw [e.2]⟩
   | false=>simp at e
section
variable {P:Program}{w:World}{K:W.Frag}{mg:Str->Option Value}{base:Heap}
theorem zo6{x:Str}{st:Stmt}{f:Addr}{fd:FuncData}{N ps:List Str}{k:Nat}{b:SF}(ms:List Bool)(fr:Bool)(h:Fun K x x st f fd)(S:zdT N ps (zau st))(hps:ps.length=ms.length)(hpN:ps.length<=N.length)
  (hb:∀(cdv:Value) (A:Around) (outer:List Env) (s:Shared) (H:Hp) (E:XK),zce k (A.deeper (envOfC x (zau st) s.heap.objs.size f cdv))->zjc K (zpP (CXe P w) P w K mg base N x (zau st) f cdv A outer s H E) (zbL st) b) :
  zie P w K mg base (CXe P w) (k+1) f fd ps (spF K ms fr (run ms fr N.length b)):=by
 refine h.okE S (fun vs H Q E ⟨ds,e,_⟩=>by rw [e,hps]) fun cdv A outer s H vs Q E hr hq=>?_
 obtain⟨ds,hv,hd,rel,d,os,hF,q⟩:=hq
 have hst:L2.start N vs=vs.map some++List.replicate (N.length-ds.length) none:=by unfold L2.start;rw [hv,hd]
 refine⟨tS K ⟨H,L2.start N vs,slots ms ds++List.replicate (N.length-ds.length) .no⟩ b,hb cdv A outer s H E hr rfl _,slots ms ds++List.replicate (N.length-ds.length) .no,?_,?_⟩
 ·have tru:∀(i:Nat) p d,(slots ms ds++List.replicate (N.length-ds.length) .no)[i]?=some (.ow p d)->p=true:=fun i p d e=>by
   by_cases c:i<(slots ms ds).length
   ·rw [List.getElem?_append_left c] at e
    exact(zdX hd e).1
   ·rw [List.getElem?_append_right (by omega),List.getElem?_replicate] at e
    split at e <;> cases e
  refine⟨?_,fun a o e _=>e,fun i a d e _=>absurd (tru i false d e) Bool.false_ne_true,fun i=>Iff.rfl,fun i d e=>rfl,tru⟩
  rw [hst]
  exact rel.pad _
 ·unfold run at hF
  rw [if_pos hd] at hF
  obtain⟨y,ey,hF⟩:=zaj hF
  rw [ey]
  have fin:∀(ρ':En) (σ':L2.St) (H':Hp),zdz K ⟨H,L2.start N vs,slots ms ds++List.replicate (N.length-ds.length) .no⟩ ρ' σ' H' ->
    Rel K (slots ms (outs ms ds ρ')) (vs.map some) H'/\(∀ a o,H a=some o->¬ MA (slots ms ds) (vs.map some) a->H' a=some o):=fun ρ' σ' H' r=>by
   have hl0:(slots ms ds).length=(vs.map some).length:=by rw [zdC hd,List.length_map,hv]
   have kp:∀ a o,H a=some o->¬ MA (slots ms ds) (vs.map some) a->H' a=some o:=fun a o e n=>r.keep a o e fun z=>n (by
    have z':MA (slots ms ds++List.replicate (N.length-ds.length) .no) (L2.start N vs) a:=z
    rw [hst] at z'
    exact(zuV hl0).mp z')
   have fz:Fzn H H':=fun a o e sy=>kp a o e fun m=>by
    obtain⟨o',e',ow⟩:=rel.za5 m
    rw [e] at e'
    cases e'
    exact ow.zcz sy
   refine⟨?_,kp⟩
   have pinned:∀(i:Nat) d0,ms[i]?=some true->ds[i]?=some d0->∃ d',ρ'[i]?=some (.ow true d')/\σ'[i]?=(vs.map some)[i]?:=fun i d0 em ed=>by
    have hi:i<(slots ms ds).length:=by rw [zdC hd];exact(List.getElem?_eq_some_iff.mp em).1
    have e0:(slots ms ds++List.replicate (N.length-ds.length) .no)[i]?=some (.ow true d0):=by
     rw [List.getElem?_append_left hi,zb4 hd,em,ed];rfl
    obtain⟨d',e'⟩:=(r.pin i).mpr ⟨d0,e0⟩
    refine⟨d',e',?_⟩
    rw [r.fix i d' e']
    show(L2.start N vs)[i]?=_
    rw [hst,List.getElem?_append_left (by rw [<- hl0];exact hi)]
   have ho:(outs ms ds ρ').length=ms.length:=zeT hd
   refine⟨by rw [zdC ho,List.length_map,hv],fun i x v e1 e2=>?_,fun i j a h1 h2=>?_,rel.cst.mono fz⟩
   ·rw [zb4 ho] at e1
    cases em:ms[i]? with
    | none=>rw [em] at e1;cases e1
    | some m =>
     have hi:i<ds.length:=by rw [hd];exact(List.getElem?_eq_some_iff.mp em).1
     have ed:=List.getElem?_eq_getElem hi
     rw [em,zlZ em ed] at e1
     cases m with
     | true =>
      obtain⟨d',e3,e4⟩:=pinned i _ em ed
      rw [e3] at e1
      cases e1
      rw [<- e4] at e2
      exact r.rel.ok i _ _ e3 e2
     | false =>
      cases e1
      have e5:(slots ms ds)[i]?=some (.val ds[i]):=by rw [zb4 hd,em,ed];rfl
      exact(rel.ok i _ _ e5 e2).mono fz fun a _ ⟨p,d',z⟩=>nomatch z
   ·have w:∀ i a,At (slots ms (outs ms ds ρ')) (vs.map some) i a->At (slots ms ds) (vs.map some) i a:=fun i a ⟨⟨p,d0,e1⟩,e2⟩=>by
     obtain⟨rfl,em,_⟩:=zdX ho e1
     have hi:i<ds.length:=by rw [hd];exact(List.getElem?_eq_some_iff.mp em).1
     have ed:=List.getElem?_eq_getElem hi
     exact⟨⟨true,ds[i],by rw [zb4 hd,em,ed];rfl⟩,e2⟩
    exact rel.sep i j a (w i a h1) (w j a h2)
  obtain⟨fl,ρ'⟩:=y
  cases fr with
  | false =>
   cases fl with
   | rt dr =>
    cases hF
    exact fun v σ' H' r fz=>q v H' (fin ρ' σ' H' r).1 (fin ρ' σ' H' r).2 fz
   | nx =>
    cases hF
    exact fun σ' H' r fz=>q .non H' (fin ρ' σ' H' r).1 (fin ρ' σ' H' r).2 (by show Fz K H' .none .non;simp [Fz])
   | _=>cases hF
  | true =>
   cases fl with
   | rf dr =>
    cases hF
    exact fun a σ' H' r ha m=>q (.ref a) H' (fin ρ' σ' H' r).1 (fin ρ' σ' H' r).2 ⟨a,rfl,ha,m⟩
   | _=>cases hF
theorem zvm{x:Str}{st:Stmt}{N ps:List Str}{k:Nat}{b:SF}(ms:List Bool)(fr:Bool)(h:Has K mg x st)(S:zdT N ps (zau st))(hps:ps.length=ms.length)(hpN:ps.length<=N.length)
  (hbi:∀(kV doc pm:Value) (an:Option Addr) (cdv ct:Value) (us:List Value),us.length=ps.length->bindArgs (PySem.W.fnOf x x (zdn st) (zbL st) (zau st) .none kV doc pm an cdv ct) ⟨us,[]⟩=pure (ps.zip us))
  (hb:∀(f:Addr) (cdv:Value) (A:Around) (outer:List Env) (s:Shared) (H:Hp) (E:XK),zce k (A.deeper (envOfC x (zau st) s.heap.objs.size f cdv))->zjc K (zpP (CXe P w) P w K mg base N x (zau st) f cdv A outer s H E) (zbL st) b) :
  Callee P w K mg base x (k+1) ps (spF K ms fr (run ms fr N.length b)):=by
 obtain⟨f,fd,hm,F⟩:=h
 exact⟨f,fd,hm,F.kp,F.binds hbi,zo6 ms fr F S hps hpN (hb f)⟩
end
end
section
variable [Cs]
theorem zeo:∀{n:Nat} {ds:List D},ds.length=n->slots (List.replicate n false) ds=ds.map Sl.val
 | 0,[],_=>rfl
 | n+1,d::ds,h=>by
  simp only [List.replicate_succ,slots,List.map_cons]
  rw [zeo (by simpa using h)]
  rfl
 | 0,_::_,h=>by simp at h
 | n+1,[],h=>by simp at h
theorem zpZ{K:W.Frag}{H:Hp}:∀{ds:List D} {vs:List V},zrm H->zaf K H ds vs->Rel K (ds.map Sl.val) (vs.map some) H:=fun{ds vs} cst f=>by
 refine⟨by simp [f.len],fun i x v e1 e2=>?_,fun i j a ⟨⟨p,d,e⟩,_⟩=>?_,cst⟩
 ·rw [List.getElem?_map] at e1 e2
  cases ed:ds[i]? with
  | none=>rw [ed] at e1;cases e1
  | some d =>
   obtain⟨u,eu,fu⟩:=f.get ed
   rw [ed] at e1
   rw [eu] at e2
   cases e1;cases e2
   exact fu
 ·rw [List.getElem?_map] at e
  cases ed:ds[i]? with
  | none=>rw [ed] at e;cases e
  | some d=>rw [ed] at e;cases e
theorem zmO{ds:List D}{σ:L2.St}{a:Addr}:¬ MA (ds.map Sl.val) σ a:=by
 rintro⟨i,⟨p,d,e⟩,_⟩
 rw [List.getElem?_map] at e
 cases ed:ds[i]? with
 | none=>rw [ed] at e;cases e
 | some d=>rw [ed] at e;cases e
section
variable {P:Program}{w:World}{K:W.Frag}{mg:Str->Option Value}{base:Heap}{x:Str}{k:Nat}{ps:List Str}
theorem zie.pure{f:Addr}{fd:FuncData}{n m:Nat}{fr:Bool}{b:SF}(F:zie P w K mg base (CXe P w) k f fd ps (spF K (List.replicate n false) fr (run (List.replicate n false) fr m b))):zie P w K mg base (CXe P w) k f fd ps (spP K n fr (zbj fr n m b)):=by
 refine F.imp fun vs H Q E=>?_
 rintro⟨ds,hv,cst,f,d,e,q⟩
 have hd:ds.length=n:=by rw [<- f.len,hv]
 obtain⟨y,ey,e⟩:=zaj e
 cases e
 refine⟨ds,by simpa using hv,by simpa using hd,by rw [zeo hd];exact zpZ cst f,y.1,y.2,by rw [ey],fun v H' r kp fin=>q v H' (fun a o e=>kp a o e (by rw [zeo hd];exact zmO)) fin⟩
theorem Callee.pure{n m:Nat}{fr:Bool}{b:SF}(c:Callee P w K mg base x k ps (spF K (List.replicate n false) fr (run (List.replicate n false) fr m b))):Callee P w K mg base x k ps (spP K n fr (zbj fr n m b)):=by
 obtain⟨f,fd,h1,h2,h3,F⟩:=c
 exact⟨f,fd,h1,h2,h3,zie.pure F⟩
end
def ztD(fa:AF)(n:Nat):Prop:=∀ ρ y,fa ρ=.ok y->y.1.length=n
theorem zmx:ztD zah 0:=fun ρ y h=>by cases h;rfl
theorem zku{f:EF}{a:AF}{n:Nat}(h:ztD a n):ztD (zaa f a) (n+1):=fun ρ y e=>by
 obtain⟨x,_,e⟩:=zaj (show(f ρ).bind _=.ok y from e)
 obtain⟨z,e2,e⟩:=zaj e
 cases e
 simp [h _ _ e2]
section
variable {K:W.Frag}{X:Cx}{k j n:Nat}{ps:List Str}{E:XK}{x:Str}{p pos:Pos}{e:Expr}{es:List Expr}{G:List D->R D}{fa:AF}
theorem zsB(c:Callee X.prog X.w X.K X.mg X.base x k ps (spP X.K n false G))(hr:zce j X.A)(hg:Gl X x)(hx:Passes (CXe X.prog X.w) X E)(ha:PVA K X (e::es) fa)(hl:ztD fa n)(hj:k<=j:=by decide)(hdb:(x==("__debug__":Str))=false:=by decide)
  (he:starEach (e::es) X.env=(false,eval e X.env)::starEach es X.env:=by exact FL.se rfl) (hpl:(backTo pos (starEach es X.env)).any (·.1)=false:=by exact FL.sp rfl):PV K X (.Call (.Name x p) (e::es) [] pos) (zag G fa):=.mk fun hK=>by
 subst hK
 refine(zeS c hr hg hx (ha rfl) hj hdb he hpl).weak fun σ H Q=>?_
 rintro⟨ρ,rel,q⟩
 obtain⟨y,ey,q0⟩:=q.bnd
 have hy:=hl ρ y ey
 refine⟨ρ,rel,?_⟩
 rw [ey]
 intro H1 rel1 st1 vs fs
 obtain⟨d,ed,q2⟩:=(q0.step st1).zdP
 rw [List.append_nil]
 exact⟨y.1,by rw [fs.len,hy],rel1.cst,fs,d,ed,fun v H' s fin=>q2.new rel1 s v fin⟩
theorem zp7(c:Callee X.prog X.w X.K X.mg X.base x k ps (spP X.K n true G))(hr:zce j X.A)(hg:Gl X x)(hx:Passes (CXe X.prog X.w) X E)(ha:PVA K X (e::es) fa)(hl:ztD fa n)(hj:k<=j:=by decide)(hdb:(x==("__debug__":Str))=false:=by decide)
  (he:starEach (e::es) X.env=(false,eval e X.env)::starEach es X.env:=by exact FL.se rfl) (hpl:(backTo pos (starEach es X.env)).any (·.1)=false:=by exact FL.sp rfl):PVN K X (.Call (.Name x p) (e::es) [] pos) (zag G fa):=.mk fun hK=>by
 subst hK
 refine(zeS c hr hg hx (ha rfl) hj hdb he hpl).weak fun σ H Q=>?_
 rintro⟨ρ,rel,q⟩
 obtain⟨y,ey,q0⟩:=q.bnd
 have hy:=hl ρ y ey
 refine⟨ρ,rel,?_⟩
 rw [ey]
 intro H1 rel1 st1 vs fs
 obtain⟨d,ed,q2⟩:=(q0.step st1).zdP
 rw [List.append_nil]
 refine⟨y.1,by rw [fs.len,hy],rel1.cst,fs,d,ed,fun v H' s fin=>?_⟩
 obtain⟨a,rfl,ha,m⟩:=fin
 refine q2.new rel1 s a ?_ m
 cases e0:H a with
 | none=>rfl
 | some o =>
  by_cases mm:MA ρ σ a
  ·obtain⟨o',e',_⟩:=rel1.za5 (st1.ma.mp mm)
   rw [ha] at e';cases e'
  ·rw [st1.kp a o e0 mm] at ha;cases ha
def zjn(K:W.Frag)(σ:L2.St)(H₀ H:Hp):List Itm->List V->Prop
 | [],vs=>vs=[]
 | .vd d::r,vs=>∃ v t,vs=v::t/\Fz K H d v/\zjn K σ H₀ H r t
 | .mi i::r,vs=>∃ v t,vs=v::t/\σ[i]?=some (some v)/\zjn K σ H₀ H r t
 | .td d::r,vs=>∃ a t,vs=.ref a::t/\zbh K H a d/\H₀ a=none/\zjn K σ H₀ H r t
theorem Stp.old{ρ ρ1:En}{σ:L2.St}{H H1:Hp}(st:Stp ρ ρ1 σ H H1)(rel1:Rel K ρ1 σ H1){a:Addr}(ha:H1 a=none):H a=none:=by
 cases e0:H a with
 | none=>rfl
 | some o =>
  by_cases mm:MA ρ σ a
  ·obtain⟨o',e',_⟩:=rel1.za5 (st.ma.mp mm)
   rw [ha] at e';cases e'
  ·rw [st.kp a o e0 mm] at ha;cases ha
theorem zjn.back{σ:L2.St}{H H1 H2:Hp}(h:∀ a,H1 a=none->H a=none):∀{l:List Itm} {vs:List V},zjn K σ H1 H2 l vs->zjn K σ H H2 l vs
 | [],vs,z=>z
 | .vd d::r,vs,z=>by
  obtain⟨v,t,e,f,z⟩:=z
  exact⟨v,t,e,f,zjn.back h z⟩
 | .mi i::r,vs,z=>by
  obtain⟨v,t,e,f,z⟩:=z
  exact⟨v,t,e,f,zjn.back h z⟩
 | .td d::r,vs,z=>by
  obtain⟨v,t,e,f,g,z⟩:=z
  exact⟨v,t,e,f,h _ g,zjn.back h z⟩
def tAr(K:W.Frag)(a:List Ar):TA:=fun σ H Q=>∃ ρ,Rel K ρ σ H/\Good K ρ σ H (zjm a ρ) fun l _ H'=>∀ vs,zjn K σ H H' l vs->Q vs H'
structure znb(K:W.Frag)(X:Cx)(es:List Expr)(a:List Ar):Prop where
 run:X.K=K->PA X es (tAr K a)
instance {K:W.Frag} {X:Cx} {es:List Expr} {a:List Ar}:CoeFun (znb K X es a) fun _=>X.K=K->PA X es (tAr K a):=⟨znb.run⟩
theorem zay:znb K X [] []:=.mk fun _=>zhL.weak fun σ H Q=>by
 rintro⟨ρ,rel,q⟩
 exact q.now rel [] rfl
theorem zaN{f:EF}{a:List Ar}(he:PV K X e f)(hr:znb K X es a)(hs:starEach (e::es) X.env=(false,eval e X.env)::starEach es X.env:=by exact FL.se rfl):znb K X (e::es) (.v f::a):=.mk fun hK=>(zcJ (he hK) (hr hK) hs).weak fun σ H Q=>by
 rintro⟨ρ,rel,q⟩
 refine goV rel q fun dx ρ1 x H1 rel1 st1 fx q1=>?_
 obtain⟨y,ey,q2⟩:=q1.bnd
 refine⟨ρ1,rel1,?_⟩
 rw [ey]
 exact fun H2 rel2 st2 vs it=>(q2.step st2).now rel2 _ ⟨x,vs,rfl,fx.mono (st2.fzn rel1),it.back fun a ha=>st1.old rel1 ha⟩
theorem zug{a:List Ar}{y:Str}{py:Pos}(i:Nat)(ha:PE X (.Name y py) (zin i))(hr:znb K X es a)(hs:starEach (.Name y py::es) X.env=(false,eval (.Name y py) X.env)::starEach es X.env:=by exact FL.se rfl):znb K X (.Name y py::es) (.m i::a):=.mk fun hK=>(zcJ ha (hr hK) hs).weak fun σ H Q=>by
 rintro⟨ρ,rel,q⟩
 obtain⟨d,ed,q1⟩:=(show Good K ρ σ H ((zaw ρ i).bind fun _=>(zjm a ρ).bind fun y=>.ok (.mi i::y.1,y.2)) _ from q).zdP
 obtain⟨ad,at0,_⟩:=rel.zkX ed
 obtain⟨y,ey,q2⟩:=q1.bnd
 refine⟨.ref ad,at0.2,ρ,rel,?_⟩
 rw [ey]
 exact fun H2 rel2 st2 vs it=>(q2.step st2).now rel2 _ ⟨.ref ad,vs,rfl,at0.2,it⟩
def arM:List Ar->List Bool
 | []=>[]
 | .v _::r=>false::arM r
 | .m _::r=>true::arM r
 | .t _::r=>true::arM r
def arI:List Ar->List Nat
 | []=>[]
 | .v _::r=>arI r
 | .m i::r=>i::arI r
 | .t _::r=>arI r
def arT:List Ar->Nat
 | []=>0
 | .v _::r=>arT r
 | .m _::r=>arT r
 | .t _::r=>arT r+1
def isR:Itm->Bool
 | .vd _=>false
 | _=>true
def ztV:Itm->Option Nat
 | .mi i=>some i
 | _=>none
def isT:Itm->Bool
 | .td _=>true
 | _=>false
theorem zd6:∀{a:List Ar} {ρ:En} {y:List Itm×En},zjm a ρ=.ok y->y.1.map isR=arM a/\y.1.filterMap ztV=arI a/\y.1.countP isT=arT a
 | [],ρ,y,h=>by cases h;exact⟨rfl,rfl,rfl⟩
 | .v f::r,ρ,y,h=>by
  obtain⟨x,_,h⟩:=zaj (show(f ρ).bind _=.ok y from h)
  obtain⟨z,e,h⟩:=zaj h
  cases h
  obtain⟨h1,h2,h3⟩:=zd6 e
  simp only [List.map_cons,List.filterMap_cons]
  exact⟨by rw [h1];rfl,h2,by rw [List.countP_cons_of_neg (by simp [isT])];exact h3⟩
 | .m i::r,ρ,y,h=>by
  obtain⟨_,_,h⟩:=zaj (show(zaw ρ i).bind _=.ok y from h)
  obtain⟨z,e,h⟩:=zaj h
  cases h
  obtain⟨h1,h2,h3⟩:=zd6 e
  simp only [List.map_cons,List.filterMap_cons]
  exact⟨by rw [h1];rfl,by rw [h2];rfl,by rw [List.countP_cons_of_neg (by simp [isT])];exact h3⟩
 | .t f::r,ρ,y,h=>by
  obtain⟨x,_,h⟩:=zaj (show(f ρ).bind _=.ok y from h)
  obtain⟨z,e,h⟩:=zaj h
  cases h
  obtain⟨h1,h2,h3⟩:=zd6 e
  simp only [List.map_cons,List.filterMap_cons]
  exact⟨by rw [h1];rfl,h2,by rw [List.countP_cons_of_pos (by simp [isT]),h3];rfl⟩
theorem zd5{ρ:En}:∀{l:List Itm} {ds:List D},zhz ρ l=.ok ds->ds.length=l.length/\∀(j:Nat) z,l[j]?=some z->∃ d,ds[j]?=some d/\(match z with | .vd d'=>d=d' | .mi i=>zaw ρ i=.ok d | .td d'=>d=d')
 | [],ds,h=>by cases h;exact⟨rfl,fun j z e=>by simp at e⟩
 | .vd d::r,ds,h=>by
  obtain⟨ds',e,h⟩:=zaj (show(zhz ρ r).bind _=.ok ds from h)
  cases h
  obtain⟨h1,h2⟩:=zd5 e
  refine⟨by simp [h1],fun j z ez=>?_⟩
  cases j with
  | zero=>simp at ez;subst ez;exact⟨d,rfl,rfl⟩
  | succ j=>obtain⟨d',h3,h4⟩:=h2 j z (by simpa using ez);exact⟨d',by simpa using h3,h4⟩
 | .td d::r,ds,h=>by
  obtain⟨ds',e,h⟩:=zaj (show(zhz ρ r).bind _=.ok ds from h)
  cases h
  obtain⟨h1,h2⟩:=zd5 e
  refine⟨by simp [h1],fun j z ez=>?_⟩
  cases j with
  | zero=>simp at ez;subst ez;exact⟨d,rfl,rfl⟩
  | succ j=>obtain⟨d',h3,h4⟩:=h2 j z (by simpa using ez);exact⟨d',by simpa using h3,h4⟩
 | .mi i::r,ds,h=>by
  obtain⟨d,e0,h⟩:=zaj (show(zaw ρ i).bind _=.ok ds from h)
  obtain⟨ds',e,h⟩:=zaj h
  cases h
  obtain⟨h1,h2⟩:=zd5 e
  refine⟨by simp [h1],fun j z ez=>?_⟩
  cases j with
  | zero=>simp at ez;subst ez;exact⟨d,rfl,e0⟩
  | succ j=>obtain⟨d',h3,h4⟩:=h2 j z (by simpa using ez);exact⟨d',by simpa using h3,h4⟩
theorem zjn.get{σ:L2.St}{H₀ H:Hp}:∀{l:List Itm} {vs:List V},zjn K σ H₀ H l vs->vs.length=l.length/\∀(j:Nat) z,l[j]?=some z->∃ v,vs[j]?=some v/\(match z with | .vd d=>Fz K H d v | .mi i=>σ[i]?=some (some v) | .td d=>∃ a,v=.ref a/\zbh K H a d/\H₀ a=none)
 | [],vs,h=>by cases (show vs=[] from h);exact⟨rfl,fun j z e=>by simp at e⟩
 | .vd d::r,vs,h=>by
  obtain⟨v,t,rfl,f,h⟩:=h
  obtain⟨h1,h2⟩:=zjn.get h
  refine⟨by simp [h1],fun j z ez=>?_⟩
  cases j with
  | zero=>simp at ez;subst ez;exact⟨v,rfl,f⟩
  | succ j=>obtain⟨d',h3,h4⟩:=h2 j z (by simpa using ez);exact⟨d',by simpa using h3,h4⟩
 | .mi i::r,vs,h=>by
  obtain⟨v,t,rfl,f,h⟩:=h
  obtain⟨h1,h2⟩:=zjn.get h
  refine⟨by simp [h1],fun j z ez=>?_⟩
  cases j with
  | zero=>simp at ez;subst ez;exact⟨v,rfl,f⟩
  | succ j=>obtain⟨d',h3,h4⟩:=h2 j z (by simpa using ez);exact⟨d',by simpa using h3,h4⟩
 | .td d::r,vs,h=>by
  obtain⟨v,t,rfl,f,g,h⟩:=h
  obtain⟨h1,h2⟩:=zjn.get h
  refine⟨by simp [h1],fun j z ez=>?_⟩
  cases j with
  | zero=>simp at ez;subst ez;exact⟨_,rfl,v,rfl,f,g⟩
  | succ j=>obtain⟨d',h3,h4⟩:=h2 j z (by simpa using ez);exact⟨d',by simpa using h3,h4⟩
end
end
section
variable [Cs]
section
variable {K:W.Frag}{ρ:En}{σ:L2.St}{H H':Hp}
theorem zuF{m:List (Nat×Sl)}(r:Rel K ρ σ H)(hA:∀ i c,m.lookup i=some c->∀ a,At ρ σ i a->∃ q d,c=.ow q d/\zbh K H' a d)(hB:∀ i a,At ρ σ i a->m.lookup i=none->H' a=H a)(fz:Fzn H H') :
  Rel K (bkL m 0 ρ) σ H'/\∀(i:Nat) p,(∃ d,ρ[i]?=some (.ow p d))↔∃ d,(bkL m 0 ρ)[i]?=some (.ow p d):=by
 have gt:∀ i:Nat,(bkL m 0 ρ)[i]?=(ρ[i]?).map (bk1 m i):=fun i=>by rw [zlo,Nat.zero_add]
 have mdB:∀(i:Nat) p,(∃ d,ρ[i]?=some (.ow p d))↔∃ d,(bkL m 0 ρ)[i]?=some (.ow p d):=fun i p=>by
  rw [gt]
  constructor
  ·rintro⟨d,e⟩
   rw [e]
   simp only [Option.map_some,bk1]
   split
   ·rename_i p' d1 q' d2 h1 h2;cases h1;exact⟨_,rfl⟩
   ·exact⟨_,rfl⟩
  ·rintro⟨d,e⟩
   cases er:ρ[i]? with
   | none=>rw [er] at e;cases e
   | some x =>
    rw [er] at e
    simp only [Option.map_some,Option.some.injEq,bk1] at e
    split at e
    ·cases e;exact⟨_,rfl⟩
    ·subst e;exact⟨_,rfl⟩
 have atB:∀ i a,At (bkL m 0 ρ) σ i a->At ρ σ i a:=fun i a ⟨⟨p,d,e1⟩,e2⟩=>⟨⟨p,(mdB i p).mpr ⟨d,e1⟩⟩,e2⟩
 refine⟨⟨by rw [zln];exact r.len,fun i x v e1 e2=>?_,fun i j a h1 h2=>r.sep i j a (atB i a h1) (atB j a h2),r.cst.mono fz⟩,mdB⟩
 rw [gt] at e1
 cases er:ρ[i]? with
 | none=>rw [er] at e1;cases e1
 | some y =>
  rw [er] at e1
  simp only [Option.map_some,Option.some.injEq] at e1
  have o:=r.ok i y v er e2
  cases y with
  | no=>simp only [bk1] at e1;subst e1;trivial
  | val d =>
   simp only [bk1] at e1
   subst e1
   exact o.mono fz fun a _ ⟨p,d',z⟩=>nomatch z
  | ob c ds =>
   simp only [bk1] at e1
   subst e1
   exact o.mono fz fun a _ ⟨p,d',z⟩=>nomatch z
  | ow p d =>
   cases v with
   | none=>exact o.elim
   | some v =>
    cases v with
    | ref a =>
     have ai:At ρ σ i a:=⟨⟨p,d,er⟩,e2⟩
     cases el:m.lookup i with
     | none =>
      simp only [bk1,el] at e1
      subst e1
      exact o.mono fz fun b e3 _=>by cases e3;exact hB i a ai el
     | some c =>
      obtain⟨q,d',rfl,mm⟩:=hA i c el a ai
      simp only [bk1,el] at e1
      subst e1
      exact mm
    | _=>exact o.elim
end
theorem zrI:∀{l:List Itm} {j j' i:Nat},(l.filterMap ztV).Nodup->l[j]?=some (.mi i)->l[j']?=some (.mi i)->j=j'
 | [],j,j',i,_,h,_=>by simp at h
 | z::r,j,j',i,nd,h1,h2=>by
  have rest:(r.filterMap ztV).Nodup:=by
   rw [List.filterMap_cons] at nd
   cases z with
   | mi k=>exact(List.nodup_cons.mp nd).2
   | _=>exact nd
  have mem:∀{j:Nat},r[j]?=some (.mi i)->i∈r.filterMap ztV:=fun h=>List.mem_filterMap.mpr ⟨.mi i,List.mem_of_getElem? h,rfl⟩
  have hd:z=.mi i->∀{j:Nat},r[j]?≠some (.mi i):=fun e j h=>by
   subst e
   rw [List.filterMap_cons] at nd
   exact(List.nodup_cons.mp nd).1 (mem h)
  cases j with
  | zero =>
   cases j' with
   | zero=>rfl
   | succ j'=>exact absurd (by simpa using h2) (hd (by simpa using h1) (j:=j'))
  | succ j =>
   cases j' with
   | zero=>exact absurd (by simpa using h1) (hd (by simpa using h2) (j:=j))
   | succ j' =>
    have:=zrI (l:=r) rest (by simpa using h1) (by simpa using h2)
    rw [this]
theorem zrs:∀{l:List Itm} {j j':Nat} {d d':D},l.countP isT<=1->l[j]?=some (.td d)->l[j']?=some (.td d')->j=j'
 | [],j,j',d,d',_,h,_=>by simp at h
 | z::r,j,j',d,d',c,h1,h2=>by
  have rest:r.countP isT<=1:=by
   rw [List.countP_cons] at c;omega
  have none:isT z=true->∀{j:Nat} {d:D},r[j]?≠some (.td d):=fun e j d h=>by
   rw [List.countP_cons,if_pos e] at c
   have:0<r.countP isT:=List.countP_pos_iff.mpr ⟨_,List.mem_of_getElem? h,rfl⟩
   omega
  cases j with
  | zero =>
   cases j' with
   | zero=>rfl
   | succ j' =>
    have e:z=.td d:=by simpa using h1
    subst e
    exact absurd (by simpa using h2) (none rfl (j:=j'))
  | succ j =>
   cases j' with
   | zero =>
    have e:z=.td d':=by simpa using h2
    subst e
    exact absurd (by simpa using h1) (none rfl (j:=j))
   | succ j' =>
    have:=zrs (l:=r) rest (by simpa using h1) (by simpa using h2)
    rw [this]
theorem zdq:∀{l:List Itm} {os:List D} {i:Nat} {c:Sl},(zhc l os).lookup i=some c->∃(j:Nat) (d:D),l[j]?=some (.mi i)/\os[j]?=some d/\c=.ow true d
 | [],os,i,c,h=>by simp [zhc] at h
 | z::r,[],i,c,h=>by cases z <;> simp [zhc] at h
 | .vd d::r,o::os,i,c,h=>by
  obtain⟨j,d',h1,h2,h3⟩:=zdq (l:=r) (os:=os) (by simpa [zhc] using h)
  exact⟨j+1,d',by simpa using h1,by simpa using h2,h3⟩
 | .td d::r,o::os,i,c,h=>by
  obtain⟨j,d',h1,h2,h3⟩:=zdq (l:=r) (os:=os) (by simpa [zhc] using h)
  exact⟨j+1,d',by simpa using h1,by simpa using h2,h3⟩
 | .mi k::r,o::os,i,c,h=>by
  simp only [zhc] at h
  rw [List.lookup_cons] at h
  by_cases e:i=k
  ·subst e
   simp only [beq_self_eq_true] at h
   cases h
   exact⟨0,o,rfl,rfl,rfl⟩
  ·rw [beq_false_of_ne e] at h
   obtain⟨j,d',h1,h2,h3⟩:=zdq (l:=r) (os:=os) h
   exact⟨j+1,d',by simpa using h1,by simpa using h2,h3⟩
theorem zgl:∀{l:List Itm} {os:List D} {i j:Nat} {d:D},l[j]?=some (.mi i)->os[j]?=some d->∃ c,(zhc l os).lookup i=some c
 | [],os,i,j,d,h,_=>by simp at h
 | z::r,[],i,j,d,_,h=>by simp at h
 | .vd _::r,o::os,i,j,d,h1,h2=>by
  cases j with
  | zero=>simp at h1
  | succ j =>
   simp only [zhc]
   exact zgl (l:=r) (by simpa using h1) (by simpa using h2)
 | .td _::r,o::os,i,j,d,h1,h2=>by
  cases j with
  | zero=>simp at h1
  | succ j =>
   simp only [zhc]
   exact zgl (l:=r) (by simpa using h1) (by simpa using h2)
 | .mi k::r,o::os,i,j,d,h1,h2=>by
  simp only [zhc]
  rw [List.lookup_cons]
  by_cases e:i=k
  ·subst e
   simp
  ·rw [beq_false_of_ne e]
   cases j with
   | zero=>simp at h1;exact absurd h1.symm e
   | succ j=>exact zgl (l:=r) (by simpa using h1) (by simpa using h2)
section
variable {K:W.Frag}{ρ0 ρ:En}{σ:L2.St}{H0 H H':Hp}{l:List Itm}{ds os:List D}{vs:List V}{ms:List Bool}
theorem zfy(rel:Rel K ρ σ H)(it:zjn K σ H0 H l vs)(hi:zhz ρ l=.ok ds)(hm:l.map isR=ms){j:Nat}{a:Addr}(hd:ds.length=ms.length)(h:At (slots ms ds) (vs.map some) j a):(∃ i,l[j]?=some (.mi i)/\At ρ σ i a)\/∃ d,l[j]?=some (.td d)/\H0 a=none:=by
 obtain⟨v1,v2⟩:=it.get
 obtain⟨d1,d2⟩:=zd5 hi
 obtain⟨⟨p,d,e1⟩,e2⟩:=h
 obtain⟨rfl,em,ed⟩:=zdX hd e1
 rw [<- hm,List.getElem?_map] at em
 cases el:l[j]? with
 | none=>rw [el] at em;cases em
 | some z =>
  rw [el] at em
  obtain⟨v,ev,es⟩:=v2 j _ el
  obtain⟨d',ed',em'⟩:=d2 j _ el
  rw [List.getElem?_map,ev] at e2
  cases e2
  cases z with
  | vd _=>cases em
  | mi i =>
   obtain⟨q,eq⟩:=zgz em'
   exact .inl ⟨i,rfl,⟨q,d',eq⟩,es⟩
  | td d0 =>
   obtain⟨b,eb,_,hb⟩:=es
   cases eb
   exact .inr ⟨d0,rfl,hb⟩
theorem zri(r0:Rel K ρ0 σ H0)(st:Stp ρ0 ρ σ H0 H)(rel:Rel K ρ σ H)(it:zjn K σ H0 H l vs)(hi:zhz ρ l=.ok ds)(hm:l.map isR=ms)(nd:(l.filterMap ztV).Nodup)(ct:l.countP isT<=1):ds.length=ms.length/\vs.length=ms.length/\Rel K (slots ms ds) (vs.map some) H:=by
 obtain⟨v1,v2⟩:=it.get
 obtain⟨d1,d2⟩:=zd5 hi
 have hl:ms.length=l.length:=by rw [<- hm,List.length_map]
 have hd:ds.length=ms.length:=by rw [d1,hl]
 have hv:vs.length=ms.length:=by rw [v1,hl]
 have apart:∀{i:Nat} {a:Addr},At ρ σ i a->H0 a=none->False:=fun h1 h2=>by
  obtain⟨o',e',_⟩:=r0.za5 (st.ma.mpr ⟨_,h1⟩)
  rw [h2] at e';cases e'
 refine⟨hd,hv,⟨by rw [zdC hd,List.length_map,hv],fun j x v e1 e2=>?_,fun j j' a h1 h2=>?_,rel.cst⟩⟩
 ·rw [zb4 hd] at e1
  cases em:ms[j]? with
  | none=>rw [em] at e1;cases e1
  | some m =>
   cases ed:ds[j]? with
   | none=>rw [em,ed] at e1;cases e1
   | some d =>
    rw [em,ed] at e1
    rw [<- hm,List.getElem?_map] at em
    cases el:l[j]? with
    | none=>rw [el] at em;cases em
    | some z =>
     rw [el] at em
     obtain⟨u,eu,es⟩:=v2 j z el
     obtain⟨d',ed',em'⟩:=d2 j z el
     rw [ed] at ed'
     cases ed'
     rw [List.getElem?_map,eu] at e2
     cases e2
     cases z with
     | vd dz =>
      cases em
      cases e1
      cases em'
      exact es
     | mi i =>
      cases em
      cases e1
      obtain⟨q,eq⟩:=zgz em'
      have o:=rel.ok i _ _ eq es
      show zr5 K H (.ow true d) (some u)
      cases u with
      | ref a=>exact o
      | _=>exact o.elim
     | td dz =>
      cases em
      cases e1
      cases em'
      obtain⟨b,rfl,mb,_⟩:=es
      exact mb
 ·rcases zfy rel it hi hm hd h1 with⟨i,e1,a1⟩|⟨d,e1,a1⟩
  ·rcases zfy rel it hi hm hd h2 with⟨i',e2,a2⟩|⟨d,e2,a2⟩
   ·have:=rel.sep i i' a a1 a2
    subst this
    exact zrI nd e1 e2
   ·exact(apart a1 a2).elim
  ·rcases zfy rel it hi hm hd h2 with⟨i',e2,a2⟩|⟨d,e2,a2⟩
   ·exact(apart a2 a1).elim
   ·exact zrs ct e1 e2
theorem zpy(r0:Rel K ρ0 σ H0)(st:Stp ρ0 ρ σ H0 H)(rel:Rel K ρ σ H)(it:zjn K σ H0 H l vs)(hi:zhz ρ l=.ok ds)(hm:l.map isR=ms)(hd:ds.length=ms.length)(ho:os.length=ms.length)(ra:Rel K (slots ms os) (vs.map some) H')(hC:∀ a o,H a=some o->¬ MA (slots ms ds) (vs.map some) a->H' a=some o) :
  Rel K (zhd ρ l os) σ H'/\Stp ρ0 (zhd ρ l os) σ H0 H':=by
 obtain⟨v1,v2⟩:=it.get
 obtain⟨d1,d2⟩:=zd5 hi
 have hl:ms.length=l.length:=by rw [<- hm,List.length_map]
 have apart:∀{i:Nat} {a:Addr},At ρ σ i a->H0 a=none->False:=fun h1 h2=>by
  obtain⟨o',e',_⟩:=r0.za5 (st.ma.mpr ⟨_,h1⟩)
  rw [h2] at e';cases e'
 have kp0:∀ a o,H0 a=some o->¬ MA ρ0 σ a->H' a=some o:=fun a o e n=>hC a o (st.kp a o e n) fun⟨j,h⟩=>by
  rcases zfy rel it hi hm hd h with⟨i,_,a1⟩|⟨d,_,a1⟩
  ·exact n (st.ma.mpr ⟨i,a1⟩)
  ·rw [e] at a1;cases a1
 have fz:Fzn H H':=fun a o e sy=>hC a o e fun⟨j,h⟩=>by
  obtain⟨⟨p,d,e1⟩,e2⟩:=id h
  obtain⟨rfl,em,ed⟩:=zdX hd e1
  rcases zfy rel it hi hm hd h with⟨i,_,a1⟩|⟨d,el,a1⟩
  ·obtain⟨o',e',ow⟩:=rel.za5 ⟨i,a1⟩
   rw [e] at e'
   cases e'
   exact ow.zcz sy
  ·obtain⟨v,ev,b,eb,mb,_⟩:=v2 j _ el
   rw [List.getElem?_map,ev] at e2
   cases e2
   cases eb
   obtain⟨o',e',ow⟩:=mb.own
   rw [e] at e'
   cases e'
   exact ow.zcz sy
 have key:=zuF (H:=H) (H':=H') (m:=zhc l os) rel (fun i c e a at0=>by
  obtain⟨j,d,e1,e2,rfl⟩:=zdq e
  obtain⟨v,ev,es⟩:=v2 j _ e1
  replace es:σ[i]?=some (some v):=es
  rw [at0.2] at es
  cases es
  refine⟨true,d,rfl,?_⟩
  have em:ms[j]?=some true:=by rw [<- hm,List.getElem?_map,e1];rfl
  exact ra.ok j (.ow true d) (some (.ref a)) (by rw [zb4 ho,em,e2];rfl) (by rw [List.getElem?_map,ev];rfl)) (fun i a at0 e=>by
  obtain⟨u,hu,_⟩:=rel.za5 ⟨i,at0⟩
  rw [hu]
  refine hC a u hu fun⟨j,h⟩=>?_
  rcases zfy rel it hi hm hd h with⟨i',el,a1⟩|⟨d,_,a1⟩
  ·have:=rel.sep i i' a at0 a1
   subst this
   have hj:j<os.length:=by rw [ho,hl];exact(List.getElem?_eq_some_iff.mp el).1
   obtain⟨c,ec⟩:=zgl el (List.getElem?_eq_getElem hj)
   rw [ec] at e
   cases e
  ·exact apart at0 a1) fz
 exact⟨key.1,⟨fun i p=>(st.md i p).trans (key.2 i p),kp0⟩⟩
end
section
variable {K:W.Frag}{X:Cx}{k j:Nat}{ps:List Str}{E:XK}{x:Str}{p pos:Pos}{e:Expr}{es:List Expr}{F:List D->R (D×List D)}{a:List Ar}
def ztN(F:List D->R (D×List D))(n:Nat):Prop:=∀ ds y,F ds=.ok y->y.2.length=n
theorem zl1{ms:List Bool}{fr:Bool}{m:Nat}{b:SF}:ztN (run ms fr m b) ms.length:=fun ds y h=>by
 unfold run at h
 split at h
 ·rename_i hd
  obtain⟨z,_,h⟩:=zaj h
  obtain⟨fl,ρ⟩:=z
  cases fr with
  | false =>
   cases fl with
   | rt d=>cases h;exact zeT hd
   | nx=>cases h;exact zeT hd
   | _=>cases h
  | true =>
   cases fl with
   | rf d=>cases h;exact zeT hd
   | _=>cases h
 ·cases h
theorem zxE{fr:Bool}(ho:ztN F (arM a).length)(nd:(arI a).Nodup)(ct:arT a<=1)(σ:L2.St)(H:Hp)(Q:VK)(ρ:En)(rel:Rel K ρ σ H)
  (q:Good K ρ σ H (zao F a ρ) fun d ρ' H'=>∀ v,(if fr=true then ∃ a,v=.ref a/\H a=none/\zbh K H' a d else Fz K H' d v)->Q v H'):zsd (spF K (arM a) fr F) [] E (tAr K a) σ H Q:=by
 obtain⟨y,ey,q0⟩:=q.bnd
 obtain⟨h1,h2,h3⟩:=zd6 ey
 refine⟨ρ,rel,?_⟩
 rw [ey]
 intro H1 rel1 st1 vs it
 obtain⟨ds,ed,q1⟩:=q0.zdP
 obtain⟨z,ez,q2⟩:=q1.zdP
 obtain⟨hd,hv,ra⟩:=zri rel st1 rel1 it ed h1 (by rw [h2];exact nd) (by rw [h3];exact ct)
 rw [List.append_nil]
 refine⟨ds,hv,hd,ra,z.1,z.2,ez,fun v H' rb kp fin=>?_⟩
 obtain⟨r2,s2⟩:=zpy rel st1 rel1 it ed h1 hd (ho ds z ez) rb kp
 refine q2 H' r2 s2 v ?_
 cases fr with
 | false=>exact fin
 | true =>
  obtain⟨ad,rfl,ha,m⟩:=fin
  exact⟨ad,rfl,st1.old rel1 ha,m⟩
theorem zqc(c:Callee X.prog X.w X.K X.mg X.base x k ps (spF X.K (arM a) false F))(ho:ztN F (arM a).length)(nd:(arI a).Nodup)(ct:arT a<=1)(hr:zce j X.A)(hg:Gl X x)(hx:Passes (CXe X.prog X.w) X E)(ha:znb K X (e::es) a)(hj:k<=j:=by decide)(hdb:(x==("__debug__":Str))=false:=by decide)
  (he:starEach (e::es) X.env=(false,eval e X.env)::starEach es X.env:=by exact FL.se rfl) (hpl:(backTo pos (starEach es X.env)).any (·.1)=false:=by exact FL.sp rfl):PV K X (.Call (.Name x p) (e::es) [] pos) (zao F a):=.mk fun hK=>by
 subst hK
 refine(zeS c hr hg hx (ha rfl) hj hdb he hpl).weak fun σ H Q=>?_
 rintro⟨ρ,rel,q⟩
 exact zxE (fr:=false) ho nd ct σ H Q ρ rel q
theorem znR(c:Callee X.prog X.w X.K X.mg X.base x k ps (spF X.K (arM a) true F))(ho:ztN F (arM a).length)(nd:(arI a).Nodup)(ct:arT a<=1)(hr:zce j X.A)(hg:Gl X x)(hx:Passes (CXe X.prog X.w) X E)(ha:znb K X (e::es) a)(hj:k<=j:=by decide)(hdb:(x==("__debug__":Str))=false:=by decide)
  (he:starEach (e::es) X.env=(false,eval e X.env)::starEach es X.env:=by exact FL.se rfl) (hpl:(backTo pos (starEach es X.env)).any (·.1)=false:=by exact FL.sp rfl):PVN K X (.Call (.Name x p) (e::es) [] pos) (zao F a):=.mk fun hK=>by
 subst hK
 refine(zeS c hr hg hx (ha rfl) hj hdb he hpl).weak fun σ H Q=>?_
 rintro⟨ρ,rel,q⟩
 refine zxE (fr:=true) ho nd ct σ H Q ρ rel ?_
 cases e0:zao F a ρ with
 | ok y =>
  rw [e0] at q
  exact fun H' r s v ⟨ad,hv,ha,m⟩=>by subst hv;exact q H' r s ad ha m
 | _=>rw [e0] at q;exact q.elim
end
end
section
variable [Cs]
section
variable {K:W.Frag}{X:Cx}{st:Stmt}{s:SF}{e:Expr}{f h:EF}{pos:Pos}
theorem ztm{C:SC}{ρ:En}{σ:L2.St}{H:Hp}{i:Nat}{d:D}(rel:zdz K C ρ σ H)(e:ρ[i]?=some (.ow false d)):∃ a u,H a=some u/\Own u/\∀ o,zdz K C (ρ.set i (.val d)) σ (upd H a (.frz o u))/\Fzn H (upd H a (.frz o u)):=by
 obtain⟨a,at0,m⟩:=rel.rel.zkX (d:=d) (show zaw ρ i=.ok d by unfold zaw;rw [e])
 obtain⟨u,e1,ow⟩:=m.own
 refine⟨a,u,e1,ow,fun o=>?_⟩
 have hl:i<ρ.length:=(List.getElem?_eq_some_iff.mp e).1
 have hfr:=rel.own i a d e at0.2
 have fz:Fzn H (upd H a (.frz o u)):=fun b w e2 sy=>by
  rw [zan fun z=>by subst z;rw [e1] at e2;cases e2;exact ow.zcz sy]
  exact e2
 refine⟨?_,fz⟩
 have fd:Fz K (upd H a (.frz o u)) d (.ref a):=by
  cases d with
  | list ds =>
   obtain⟨vs,h1,h2⟩:=m
   rw [e1] at h1
   cases h1
   simp only [Fz]
   exact⟨a,vs,rfl,.inl ⟨o,zal⟩,h2.mono fz⟩
  | dict kvs =>
   simp only [Fz]
   obtain⟨kk,h1,h2⟩:=m
   rw [e1] at h1
   cases h1
   exact⟨a,o,rfl,⟨kk,zal,h2.mono fz⟩⟩
  | _=>exact m.elim
 have atw:∀ j b,At (ρ.set i (.val d)) σ j b->j≠i/\At ρ σ j b:=fun j b ⟨⟨q,dd,e1⟩,e2⟩=>by
  by_cases c:i=j
  ·subst c
   rw [List.getElem?_set_self hl] at e1;cases e1
  ·rw [List.getElem?_set_ne c] at e1
   exact⟨fun z=>c z.symm,⟨q,dd,e1⟩,e2⟩
 refine⟨⟨by rw [List.length_set];exact rel.rel.len,fun j y w e2 e3=>?_,fun j k b h1 h2=>rel.rel.sep j k b (atw j b h1).2 (atw k b h2).2,rel.rel.cst.mono fz⟩,fun b w e2 n=>?_,fun j b c e2 e3=>?_,fun j=>?_,fun j c e2=>?_,rel.prm⟩
 ·by_cases c:i=j
  ·subst c
   rw [List.getElem?_set_self hl] at e2
   cases e2
   rw [at0.2] at e3
   cases e3
   exact fd
  ·rw [List.getElem?_set_ne c] at e2
   refine(rel.rel.ok j y w e2 e3).mono fz fun b e4 ⟨p,dd,e5⟩=>?_
   subst e4;subst e5
   refine zan fun z=>?_
   subst z
   exact c (rel.rel.sep i j b at0 ⟨⟨p,dd,e2⟩,e3⟩)
 ·rw [zan fun z=>by subst z;rw [hfr] at e2;cases e2]
  exact rel.keep b w e2 n
 ·by_cases c:i=j
  ·subst c
   rw [List.getElem?_set_self hl] at e2;cases e2
  ·rw [List.getElem?_set_ne c] at e2
   exact rel.own j b _ e2 e3
 ·by_cases c:i=j
  ·subst c
   rw [List.getElem?_set_self hl,<- rel.pin i,e]
   constructor
   ·rintro⟨_,z⟩;cases z
   ·rintro⟨_,z⟩;cases z
  ·rw [List.getElem?_set_ne c];exact rel.pin j
 ·by_cases k:i=j
  ·subst k
   rw [List.getElem?_set_self hl] at e2;cases e2
  ·rw [List.getElem?_set_ne k] at e2
   exact rel.fix j c e2
theorem zlQ(i:Nat)(hh:PSV K X st s):PSV K X st (zir i s):=.mk fun hK C=>by
 have h1:PS X st (fun Dn σ H=>tS K C s { Dn with nx:=fun σ H=>∃ a u,H a=some u/\Own u/\∀ o,Dn.nx σ (upd H a (.frz o u)) } σ H):=fun pins sh σ H Dn I q=>by
  refine thn (hh hK C pins sh σ H _ I q) fun fl s1 z=>?_
  cases fl with
  | next =>
   obtain⟨σ',H',I',a,u,e,ow,q⟩:=z
   obtain⟨o,ho⟩:=(I'.hok a u e).some
   exact⟨σ',_,zvX I' e ow ho,q o⟩
  | brk=>exact z
  | cont=>exact z
  | ret v=>exact z
 refine h1.weak fun Dn σ H=>?_
 rintro⟨ρ,rel,g⟩
 refine⟨ρ,rel,?_⟩
 obtain⟨x,ex,g1⟩:=g.bnd
 rw [ex]
 obtain⟨fl,ρ1⟩:=x
 cases fl with
 | nx =>
  replace g1:zcs K C H (match ρ1[i]? with|some (.ow false d)=>.ok (.nx,ρ1.set i (.val d))|_=>.bad) Dn:=g1
  cases e:ρ1[i]? with
  | none=>rw [e] at g1;exact g1.elim
  | some y =>
   rw [e] at g1
   cases y with
   | ow p d =>
    cases p with
    | true=>exact g1.elim
    | false =>
     intro σ' H' r z
     obtain⟨a,u,e1,ow,k⟩:=ztm r e
     exact⟨a,u,e1,ow,fun o=>g1 σ' _ (k o).1 (z.trans (k o).2)⟩
   | _=>exact g1.elim
 | bk=>exact g1
 | ct=>exact g1
 | rt d=>exact g1
 | rf d=>exact g1
theorem zsu{i j:Nat}{x y:Str}{a b:Expr}{px py pt:Pos}{kt k2 pt2}(hc:X.calm=true)(hN:X.N.Nodup)(hi:X.N[i]?=some x)(hj:X.N[j]?=some y)(hij:i≠j)
  (hx:X.env.scope.names.lookup x=some .local)(hy:X.env.scope.names.lookup y=some .local)(ha:PV K X a f)(hb:PV K X b h)
  (hw:swappedStores [.Tuple [.Name x px,.Name y py] kt pt] (.Tuple [a,b] k2 pt2) X.env=pure (some [x,y]))
  (hs:swapsWithSole [.Tuple [.Name x px,.Name y py] kt pt] (.Tuple [a,b] k2 pt2) pos.line X.env=pure false:=by rfl)(hs1:starEach [a,b] X.env=(false,eval a X.env)::starEach [b] X.env:=by exact FL.se rfl)(hs2:starEach [b] X.env=(false,eval b X.env)::starEach [] X.env:=by exact FL.se rfl) :
  PSV K X (.Assign [.Tuple [.Name x px,.Name y py] kt pt] (.Tuple [a,b] k2 pt2) pos) (zgr i j f h):=.mk fun hK C=>(zup hc hN hi hj hij hx hy (zcJ (ha hK) (zcJ (hb hK) zhL hs2) hs1) hw hs).weak fun Dn σ H=>by
 rintro⟨ρ,rel,g⟩
 refine zm0 rel g fun d ρ1 v H1 rel1 st1 fz g1=>zm0 rel1 g1 fun d2 ρ2 v2 H2 rel2 st2 fz2 g2=>?_
 obtain⟨ρ3,e3,g3⟩:=g2.bnd
 obtain⟨ρ4,e4,g4⟩:=g3.bnd
 obtain⟨rfl,n1,l1⟩:=zj9 e3
 obtain⟨rfl,n2,l2⟩:=zj9 e4
 have f1:=fz.mono (st2.fzn rel1.rel)
 have r3:=rel2.chg (rel2.rel.set (i:=i) (x:=.val d) (v:=some v) f1 fun _ _ _ z=>nomatch z) (zg1 n1 l1)
 have r4:=r3.chg (r3.rel.set (i:=j) (x:=.val d2) (v:=some v2) fz2 fun _ _ _ z=>nomatch z) (zg1 n2 l2)
 exact⟨v,v2,rfl,g4 _ H2 r4 (Fzn.refl _)⟩
theorem zp1{elt tg iter:Expr}{ifs:List Expr}{scope:Scope}{it:IF}{g:GF}{t:TF}{dom:List Nat}{x0:Str}{pos' spos:Pos}(i0:Nat)(L:List Str)(ix:List Nat)(M:List Str)(hN:X.N.Nodup)(hii:X.N[i0]?=some x0)(hx0:X.env.scope.names.lookup x0=some .local)
  (hsw:swapsWith (.ListComp elt [⟨tg,iter,ifs,0⟩] scope pos) (some (.Name x0 pos')) spos.line X.env=pure true)(hc:X.calm=true)(hk:scope.kind=.function)
  (hd:zca X.env.scope scope X.N ix=true)(hM:M=L++ix.map fun i=>X.N.getD i "") (nd:ix.Nodup) (hi:PVI K X tg iter it)
  (hg:∀ C s₃ H₃ fp,PVG K (zap X M scope C s₃ H₃ fp) dom tg g) (hgo:dom.all (fun i=>decide (i<L.length))=true)
  (ht:∀ C s₃ H₃ fp,zpQ K (zap X M scope C s₃ H₃ fp) ifs t) (he:∀ C s₃ H₃ fp,PV K (zap X M scope C s₃ H₃ fp) elt f)
  (hs:∀ x,foldedSetIterable iter X.env x=pure x:=by intro _;rfl) :
  PSV K X (.Assign [.Name x0 pos'] (.ListComp elt [⟨tg,iter,ifs,0⟩] scope pos) spos) (zdE i0 (zdm L.length ix it g t f)):=.mk fun hK C =>
 (zsG i0 L ix M hN hii hx0 hsw hc hk hd hM (hi hK) (fun C s₃ H₃ fp=>hg C s₃ H₃ fp hK) (ziU hgo) (fun C s₃ H₃ fp=>ht C s₃ H₃ fp hK) (fun C s₃ H₃ fp=>he C s₃ H₃ fp hK) hs).weak fun Dn σ H q=>zrR nd hgo σ H _ (zvf Dn σ H q)
end
end
section
variable [Cs]
structure Blt(mg:Str->Option Value):Prop where
 zos:mg "abs"=none
 zba:mg "isinstance"=none
 zqz:mg "int"=none
 zor:mg "bool"=none
 zfi:mg "tuple"=none
 zl4:mg "list"=none
 zqy:mg "str"=none
 zfj:mg "len"=none
 zs5:mg "all"=none
 zdf:mg "range"=none
 zuQ:mg "zip"=none
 zex:mg "enumerate"=none
 zuT:mg "max"=none
 zuS:mg "min"=none
 zuR:mg "sum"=none
 zgc:mg "sorted"=none
 zoq:mg "dict"=none
 zuU:mg "any"=none
namespace Bt
theorem abs:bootBuiltins "abs"=some (.builtin "abs"):=by decide +kernel
theorem len:bootBuiltins "len"=some (.builtin "len"):=by decide +kernel
theorem all:bootBuiltins "all"=some (.builtin "all"):=by decide +kernel
theorem dict:bootBuiltins "dict"=some (.type "dict"):=by decide +kernel
theorem int:bootBuiltins "int"=some (.type "int"):=by decide +kernel
theorem bool:bootBuiltins "bool"=some (.type "bool"):=by decide +kernel
theorem tuple:bootBuiltins "tuple"=some (.type "tuple"):=by decide +kernel
theorem list:bootBuiltins "list"=some (.type "list"):=by decide +kernel
theorem str:bootBuiltins "str"=some (.type "str"):=by decide +kernel
end Bt
theorem znP{K:W.Frag}{X:Cx}{st:List Stmt}{f:SF}(h:zjc K X.nox st f):zjc K X st f:=.mk fun hK C=>PSs.nox (h hK C)
theorem zu0{K:W.Frag}{G:List D->R D}{H:Hp}{a:Addr}{ns:List Int}(h:G [.list (ns.map PyData.int)]=.ok (.bool true))(hO:∀ b xs,H b≠some (.lst xs))(hC:zrm H)(hS:SqL K H a (ns.map V.int)):spP K 1 false G [.ref a] H (fun v _=>v=.bl true) fun _ _ _=>False:=by
 refine⟨[.list (ns.map PyData.int)],rfl,hC,?_,.bool true,h,fun v H' _ fz=>by simpa [Fz] using fz⟩
 simp only [zaf,Fz]
 refine⟨.ref a,[],rfl,⟨a,ns.map V.int,rfl,?_,zaf.ofInts ns⟩,rfl⟩
 rcases hS with(hS|⟨o,hS⟩)|hS
 ·exact absurd hS (hO a _)
 ·exact .inl ⟨o,hS⟩
 ·exact .inr hS
end
end FL
namespace FL
open PySem
end FL
namespace L2
open PySem PySem.Spec PyProof.Rows
section
end
section
end
end L2
namespace FL
open PySem L2 PySem.Spec
open PyProof.Rows hiding St
variable [Cs]
end FL
namespace FL
open PySem
abbrev K1:=Int ⊕ Str
abbrev KQ:=List K1 ⊕ K1
def kOf:D->Option K1
 | .int i=>some (.inl i)
 | .str x=>some (.inr x)
 | _=>none
def zpK:List D->Option (List K1)
 | []=>some []
 | d::r=>(kOf d).bind fun k=>(zpK r).map fun ks=>k::ks
def keyOf:D->Option KQ
 | .tuple xs=>(zpK xs).map .inl
 | _=>none
def form:KQ->Bool
 | .inl _=>true
 | .inr _=>false
def keysOk(f:Bool)(kvs:List (D×D)):Bool:=kvs.all fun kv=>match keyOf kv.1 with
 | some q=>form q==f
 | none=>false
def look(kvs:List (D×D))(q:KQ):Option D:=(kvs.find? fun kv=>decide (keyOf kv.1=some q)).map (·.2)
def zum(kvs:List (D×D))(k:D)(q:KQ)(v:D):List (D×D) :=
 if(kvs.any fun kv=>decide (keyOf kv.1=some q))=true then kvs.map fun kv=>if keyOf kv.1=some q then(kv.1,v) else kv else kvs++[(k,v)]
def zgS(kvs:List (D×D))(q:KQ):List (D×D):=kvs.filter fun kv=>decide (keyOf kv.1≠some q)
def dictAt(d k:D):R (List (D×D)×KQ):=match d with
 | .dict kvs=>(R.of (keyOf k)).bind fun q=>chk (keysOk (form q) kvs) (.ok (kvs,q))
 | _=>.bad
def zdO(d k:D):R (Option D):=(dictAt d k).bind fun x=>.ok (look x.1 x.2)
def ziW(d k x:D):R D:=(zdO d k).bind fun o=>.ok (o.getD x)
def inD(k d:D):R D:=(zdO d k).bind fun o=>.ok (.bool o.isSome)
def zfc(d k:D):R D:=(zdO d k).bind fun o=>R.of o
def zke(d k v:D):R D:=(dictAt d k).bind fun x=>chk (leB (x.1.length+1) lim) (.ok (.dict (zum x.1 k x.2 v)))
def zm7(d k:D):R D:=(dictAt d k).bind fun x=>chk (look x.1 x.2).isSome (.ok (.dict (zgS x.1 x.2)))
def zfm:D->R (List D)
 | .dict kvs=>.ok (kvs.map (·.1))
 | _=>.bad
def zf1(i:Nat)(k x:EF):EF:=fun ρ=>(zaw ρ i).bind fun c0=>(zfm c0).bind fun _=>(k ρ).bind fun a=>(x a.2).bind fun b=>(zaw b.2 i).bind fun c=>(ziW c a.1 b.1).bind fun d=>.ok (d,b.2)
def e3(g:D->D->D->R D)(d k x:EF):EF:=fun ρ=>(d ρ).bind fun c=>(k c.2).bind fun a=>(x a.2).bind fun b=>(g c.1 a.1 b.1).bind fun r=>.ok (r,b.2)
def zfu(i:Nat)(k f:EF):SF:=fun ρ=>(f ρ).bind fun v=>(zaw v.2 i).bind fun _=>(k v.2).bind fun a=>(zaw a.2 i).bind fun c=>(zke c a.1 v.1).bind fun d=>.ok (.nx,za4 a.2 i d)
def zlk(i:Nat)(k:EF):SF:=fun ρ=>(zaw ρ i).bind fun _=>(k ρ).bind fun a=>(zaw a.2 i).bind fun c=>(zm7 c a.1).bind fun d=>.ok (.nx,za4 a.2 i d)
def iD(f:EF):IF:=fun ρ=>(f ρ).bind fun x=>(zfm x.1).bind fun l=>.ok (l,x.2)
def zeZ(k v:EF):EF:=fun ρ=>(k ρ).bind fun x=>(v x.2).bind fun y=>(zke (.dict []) x.1 y.1).bind fun d=>.ok (d,y.2)
def zcq:EF:=fun ρ=>.ok (.dict [],ρ)
end FL
namespace PySem
open Spec
section
variable {prog:Program}{w:World}{A:Around}{E:Value->Shared->Prop}{s:Shared}{K:Type}[DecidableEq K]{knd:HeapKind prog w K}
def zdy(xs:List (K×Addr×Value))(k:K):List (K×Addr×Value):=xs.filter fun x=>decide (x.1≠k)
theorem zgP{k:K}{p:Addr×Value}:∀{xs:List (K×Addr×Value)} {j:Nat},(xs.map (·.1)).Nodup->xs[j]?=some (k,p)->xs.eraseIdx j=zdy xs k
 | [],j,_,h=>by simp at h
 | x::xs,0,hn,h=>by
  have hx:x=(k,p):=by simpa using h
  subst hx
  rw [List.map_cons,List.nodup_cons] at hn
  have hf:zdy ((k,p)::xs) k=zdy xs k:=by simp [zdy]
  rw [hf]
  show xs=_
  unfold zdy
  rw [List.filter_eq_self.mpr]
  intro y hy
  refine decide_eq_true fun e=>hn.1 ?_
  show k∈_
  rw [<- e]
  exact List.mem_map_of_mem hy
 | x::xs,j+1,hn,h=>by
  rw [List.map_cons,List.nodup_cons] at hn
  have h':xs[j]?=some (k,p):=by simpa using h
  have hne:x.1≠k:=fun e=>hn.1 (by rw [e];exact List.mem_map.mpr ⟨(k,p),List.mem_of_getElem? h',rfl⟩)
  have hf:zdy (x::xs) k=x::zdy xs k:=by simp [zdy,hne]
  rw [List.eraseIdx_cons_succ,zgP hn.2 h',hf]
theorem zkc{α β:Type}(f:α->β):∀(l:List α) (j:Nat),(l.map f).eraseIdx j=(l.eraseIdx j).map f
 | [],_=>rfl
 | _::_,0=>rfl
 | x::l,j+1=>by rw [List.map_cons,List.eraseIdx_cons_succ,List.eraseIdx_cons_succ,List.map_cons,zkc f l j]
theorem zlH{d a:Addr}{xs:List (K×Addr×Value)}{k:K}{Q:Option DictEntry->Shared->Prop}(hu:knd.room A)(hkey:knd.is s.heap k a)(hm:s.heap.DictOfH knd d xs)(there:∃ p,(k,p)∈xs)
  (hQ:∀ e h',h'.DictOfH knd d (zdy xs k)->Heap.SameBut d s.heap h'->Q (some e) { s with heap:=h',toks:=s.toks+knd.draws k })(hsz:xs.length<=sizeLine) :
  wpAny (model prog w) A (Builtin.Dict.takeOut d (.ref a)) Q E s:=by
 obtain⟨o,es,ep,ho,hc,hd,he,his,hn⟩:=hm
 unfold Builtin.Dict.takeOut
 try with_reducible refine wpAny_holding ?_
 refine wpAny_bind (knd.pyHash hu hkey ?_)
 refine wpAny_bind (wpAny_dictFind_heap (s:={ s with toks:=s.toks+knd.draws k }) hu hkey ho hd he his hn ?_ ?_)
 ·intro hno
  obtain⟨p,hp⟩:=there
  obtain⟨j,hj⟩:=List.getElem?_of_mem hp
  exact absurd hj (hno j p)
 ·intro j p hj
  refine wpAny_bind (wpAny_dictEntries (s:={ s with toks:=s.toks+knd.draws k }) ho hd ?_)
  rw [entry_at he j,hj]
  refine wpAny_bind (wpAny_updateDictKeys (hz:=by have e:=size_of_entries he;omega) (s:={ s with toks:=s.toks+knd.draws k }) ho hd (wpAny_pure (hQ _ _ ⟨_,_,ep+1,Heap.get?_update_self _ ho (Obj.isFreed_of_dict (Obj.data_mapDictKeys hd _)),
   hc.mapDictKeys _,Obj.data_mapDictKeys hd _,?_,?_,?_⟩ (Heap.SameBut.update ..))))
  ·rw [<- zgP hn hj]
   have:(es.eraseIdxIfInBounds j).toList=es.toList.eraseIdx j:=by
    obtain⟨l⟩:=es
    simp
   rw [this,he,zkc]
  ·intro x hx
   exact knd.keeps (his x (List.mem_filter.mp hx).1) ho hd (Heap.SameBut.update ..)
  ·exact List.Nodup.sublist (List.Sublist.map _ List.filter_sublist) hn
theorem zq4{d a:Addr}{xs:List (K×Addr×Value)}{k:K}{Q:Unit->Shared->Prop}(hu:knd.room A.in1)(hkey:knd.is s.heap k a)(hm:s.heap.DictOfH knd d xs)(there:∃ p,(k,p)∈xs)
  (hQ:∀ h',h'.DictOfH knd d (zdy xs k)->Heap.SameBut d s.heap h'->Q () { s with heap:=h',toks:=s.toks+knd.draws k })(hsz:xs.length<=sizeLine) :
  wpAny (model prog w) A (delItem (.ref d) (.ref a)) Q E s:=by
 refine wpAny_delItem_slot hm.typeIs (by decide) PySem.F.slot_dict_delitem (wpAny_call_entry PySem.F.slot_dict_delitem hm.typeIs PySem.F.entry_dict_delitem ?_ (PySem.F.args_dict_delitem_2 _ _))
 unfold Builtin.«dict.__delitem__»
 refine wpAny_bind ?_
 unfold Builtin.Dict.dictSlotArgs
 refine wpAny_bind (wpAny_notOrdered_dict hm.typeIs ?_)
 show wpAny _ _ (pure (Value.ref d,Value.ref a)) _ _ s
 refine wpAny_pure ?_
 show wpAny _ _ (Builtin.Dict.takeOut d (.ref a) >>= _) _ _ s
 refine wpAny_bind (zlH hu hkey hm there (fun e h' hm' hs'=>?_) hsz)
 exact wpAny_bind (wpAny_letGo (wpAny_pure ⟨.none,rfl,hQ h' hm' hs'⟩))
end
end PySem
namespace L2
open PySem PySem.Spec PyProof.Rows
theorem KT.drop{H:Hp}{kvs:List (List Key×V)}{xs:List (List Key×Addr×Value)}(r:KT H kvs xs)(k:List Key):KT H (zcY kvs k) (zdy xs k):=by
 induction r with
 | nil=>exact .nil
 | @cons p q ps qs hq t ih =>
  by_cases e:p.1=k
  ·have e2:q.1=k:=by rw [<- hq.1];exact e
   have d1:zcY (p::ps) k=zcY ps k:=by simp [zcY,e]
   have d2:zdy (q::qs) k=zdy qs k:=by simp [zdy,e2]
   rw [d1,d2];exact ih
  ·have e2:¬ q.1=k:=by rw [<- hq.1];exact e
   have d1:zcY (p::ps) k=p::zcY ps k:=by simp [zcY,e]
   have d2:zdy (q::qs) k=q::zdy qs k:=by simp [zdy,e2]
   rw [d1,d2];exact .cons hq ih
section
variable {X:Cx}{pins:List (Addr×Obj)}{σ:St}{H:Hp}{s:Shared}{a b:Addr}{kvs:List (List Key×V)}{k:List Key}{A:Around}{E:Value->Shared->Prop}
theorem zvy{Q:Unit->Shared->Prop}(hu:A.units+1<cLine)(I:Inv X pins σ H s)(e:H a=some (.dT kvs))(eb:TAt H b (k.map kV))(l:(zlD kvs k).isSome=true)(h:∀ s',Inv X pins σ (upd H a (.dT (zcY kvs k))) s'->Q () s') :
  wpAny (model X.prog X.w) A (delItem (.ref a) (.ref b)) Q E s:=by
 obtain⟨z,hd,xs,rel,dd⟩:=zpe I.hok e
 have hz:xs.length<=sizeLine:=by rw [<- Paired.length rel];exact z
 have there:∃ p,(k,p)∈xs:=by
  have hv:=rel.val k
  obtain⟨v,ev⟩:=Option.isSome_iff_exists.mp l
  rw [ev] at hv
  obtain⟨w',hw,_⟩:=znm.some_of (v:=v) (o:=(atKey xs k).map (·.2)) hv
  obtain⟨p,hp,_⟩:=Option.map_eq_some_iff.mp hw
  unfold atKey at hp
  obtain⟨x,hx,ex⟩:=Option.map_eq_some_iff.mp hp
  have h0:=List.find?_some hx
  have h1:x.1=k:=of_decide_eq_true h0
  exact⟨x.2,by rw [<- h1];exact List.mem_of_find?_eq_some hx⟩
 refine zq4 (tupleKind_room_in1 hu) (zcW I.hok eb) dd there (fun h' dd' hs=>h _ ?_) hz
 obtain⟨q,es,ep,hq,h2,h3,h4,_,h5⟩:=dd'
 refine zgV I (by rw [e];exact True.intro) hs ⟨q,hq⟩ ⟨Nat.le_trans (zmo kvs k) z,hd,_,(rel.drop k).keeps fun c ys ec=>?_,q,es,ep,hq,h2,h3,h4,h5⟩
 exact ec.upd (fun _ z=>zhs z e (fun z=>nomatch z)) fun _ _ z=>zhs z e (fun z=>nomatch z)
end
end L2
namespace PySem
open Spec
section
variable {prog:Program}{w:World}{A:Around}{E:Value->Shared->Prop}{s:Shared}
structure DEs(h:Heap)(d:Addr)(es:Array DictEntry)(ep:Nat):Prop where
 ex:∃ o,h.get? d=some o/\o.ExactDict/\o.data=.dict es ep
theorem DEs.typ{d:Addr}{es:Array DictEntry}{ep:Nat}(x:DEs s.heap d es ep):s.TypeIs (.ref d) "dict":=by
 obtain⟨o,ho,hc,_⟩:=x.ex
 exact⟨o,ho,hc.1⟩
theorem zu9{d:Addr}{es:Array DictEntry}{ep:Nat}{Q:Value->Shared->Prop}(hd:(d==sysModules)=false)(x:DEs s.heap d es ep)
  (hQ:Q (.ref s.heap.objs.size) { s with heap:=s.heap.push { cls:=.type "dict_keyiterator",data:=.fields #[.ref d,.int 0 0,.int es.size 0,.int ep 0] } }):wpAny (model prog w) A (pyIter (.ref d)) Q E s:=by
 obtain⟨o,ho,hc,hdat⟩:=x.ex
 have hT:=x.typ
 refine wpAny_pyIter_slot hT F.slot_dict_iter (wpAny_call_entry F.slot_dict_iter hT F.entry_dict_iter ?_ (F.args_dict_iter_1 _))
 unfold Builtin.«dict.__iter__» Builtin.Dict.dictSlotNone
 refine wpAny_bind (wpAny_bind (wpAny_notOrdered_dict hT ?_))
 show wpAny _ _ (pure (Value.ref d)) _ _ s
 refine wpAny_pure ?_
 show wpAny _ _ (Builtin.Dict.showsAll d >>= _) _ _ s
 unfold Builtin.Dict.showsAll
 rw [if_neg (by rw [hd];exact Bool.false_ne_true)]
 refine wpAny_bind (wpAny_pure (wpAny_bind (wpAny_dictEntries ho hdat (wpAny_bind (wpAny_dictEpoch ho hdat ?_)))))
 refine wpAny_bind (wpAny_newObj_type (wpAny_pure ⟨_,rfl,"dict_keyiterator",_,⟨_,Heap.get?_push_size _ rfl,rfl⟩,F.slot_dict_keyiterator_next.lookup,?_⟩))
 simpa [rawInt] using hQ
theorem zuP{it d:Addr}{i ep:Nat}{es:Array DictEntry}{Q:Option Value->Shared->Prop}(hit:s.heap.IsKeyIter it d i es.size ep)(x:DEs s.heap d es ep)(hi:i<es.size)
  (hQ:∀ h',h'.IsKeyIter it d (i+1) es.size ep->Heap.SameBut it s.heap h'->Q (some es[i].key) { s with heap:=h' }):wpAny (model prog w) A (pyNext (.ref it)) Q E s:=by
 obtain⟨o,ho,hc,hd⟩:=id hit
 obtain⟨od,hod,hcd,hdd⟩:=x.ex
 unfold pyNext
 refine wpAny_bind (wpAny_attempt (wpAny_callSpecial?_slot (name:=Str.ofString "__next__") hit.typeIs F.slot_dict_keyiterator_next (wpAny_call_entry F.slot_dict_keyiterator_next hit.typeIs F.entry_dict_keyiterator_next ?_ (F.args_dict_keyiterator_next_1 _))))
 refine wpAny_bind (wpAny_pure (wpAny_bind (wpAny_bind ?_)))
 first|refine wpAny_bind (wpAny_typeNameOfWhole_keyiter hit.typeIs (wpAny_pure ?_))|refine wpAny_bind (wpAny_typeNameOf_keyiter hit.typeIs (wpAny_pure ?_))
 refine wpAny_bind (wpAny_fieldsOf ho hd ?_)
 have hown:Builtin.Dict_items.ownsTuple "dict_keyiterator"=false:=by decide
 simp only [hown,Bool.false_eq_true,if_false]
 show wpAny _ _ (if(Value.ref d==Value.none)=true then _ else _) _ _ s
 rw [if_neg (show ¬ ((Value.ref d==Value.none)=true) from Bool.false_ne_true)]
 refine wpAny_bind (wpAny_pure (wpAny_bind (wpAny_dictEntries hod hdd ?_)))
 rw [if_neg (by simp)]
 refine wpAny_bind (wpAny_pure (wpAny_bind (wpAny_dictEpoch hod hdd ?_)))
 rw [if_neg (by simp)]
 refine wpAny_pure ?_
 simp only [show ¬ ((i:Int)<0) from by omega,if_false,Int.toNat_natCast,Array.getElem?_eq_getElem hi]
 refine wpAny_bind ?_
 first|refine wpAny_bind (wpAny_typeNameOfWhole_keyiter hit.typeIs (wpAny_pure ?_))|refine wpAny_bind (wpAny_typeNameOf_keyiter hit.typeIs (wpAny_pure ?_))
 refine wpAny_bind (wpAny_isOneOf_keyiter hit.typeIs ?_)
 show wpAny _ _ (setField (.ref it) 1 (rawInt ((i:Int)+1)) >>= _) _ _ s
 refine wpAny_bind (wpAny_setField ho hd (by simp) ?_)
 have hit':(s.heap.update it (Obj.mapFields (·.setIfInBounds 1 (rawInt ((i:Int)+1))))).IsKeyIter it d (i+1) es.size ep :=
  ⟨_,Heap.get?_update_self _ ho (Obj.isFreed_of_fields (Obj.data_mapFields hd _)),(Obj.cls_mapFields ..).trans hc,by rw [Obj.data_mapFields hd];simp [rawInt]⟩
 refine wpAny_bind (wpAny_holding (wpAny_bind (wpAny_isOneOf_keyiter (s:={ s with heap:=s.heap.update it (Obj.mapFields (·.setIfInBounds 1 (rawInt ((i:Int)+1)))) }) hit'.typeIs ?_)))
 show wpAny _ _ (pure es[i].key) _ _ _
 exact wpAny_pure (wpAny_pure ⟨_,rfl,wpAny_pure (hQ _ hit' (Heap.SameBut.update ..))⟩)
theorem zvY{it d:Addr}{i ep:Nat}{es:Array DictEntry}{Q:Option Value->Shared->Prop}(hh:A.handled=none)(hit:s.heap.IsKeyIter it d i es.size ep)(x:DEs s.heap d es ep)(hge:es.size<=i)
  (hQ:∀ h',Heap.ExtBut it s.heap h'->Q none { s with heap:=h' }):wpAny (model prog w) A (pyNext (.ref it)) Q E s:=by
 obtain⟨o,ho,hc,hd⟩:=id hit
 obtain⟨od,hod,hcd,hdd⟩:=x.ex
 unfold pyNext
 refine wpAny_bind (wpAny_attempt (wpAny_callSpecial?_slot (name:=Str.ofString "__next__") hit.typeIs F.slot_dict_keyiterator_next (wpAny_call_entry F.slot_dict_keyiterator_next hit.typeIs F.entry_dict_keyiterator_next ?_ (F.args_dict_keyiterator_next_1 _))))
 refine wpAny_bind (wpAny_pure (wpAny_bind (wpAny_bind ?_)))
 first|refine wpAny_bind (wpAny_typeNameOfWhole_keyiter hit.typeIs (wpAny_pure ?_))|refine wpAny_bind (wpAny_typeNameOf_keyiter hit.typeIs (wpAny_pure ?_))
 refine wpAny_bind (wpAny_fieldsOf ho hd ?_)
 have hown:Builtin.Dict_items.ownsTuple "dict_keyiterator"=false:=by decide
 simp only [hown,Bool.false_eq_true,if_false]
 show wpAny _ _ (if(Value.ref d==Value.none)=true then _ else _) _ _ s
 rw [if_neg (show ¬ ((Value.ref d==Value.none)=true) from Bool.false_ne_true)]
 refine wpAny_bind (wpAny_pure (wpAny_bind (wpAny_dictEntries hod hdd ?_)))
 rw [if_neg (by simp)]
 refine wpAny_bind (wpAny_pure (wpAny_bind (wpAny_dictEpoch hod hdd ?_)))
 rw [if_neg (by simp)]
 refine wpAny_pure ?_
 simp only [show ¬ ((i:Int)<0) from by omega,if_false,Int.toNat_natCast,Array.getElem?_eq_none hge]
 refine wpAny_bind ?_
 first|refine wpAny_bind (wpAny_typeNameOfWhole_keyiter hit.typeIs (wpAny_pure ?_))|refine wpAny_bind (wpAny_typeNameOf_keyiter hit.typeIs (wpAny_pure ?_))
 show wpAny _ _ (setField (.ref it) 0 .none >>= _) _ _ s
 refine wpAny_bind (wpAny_setField ho hd (by simp) ?_)
 show wpAny _ _ (newExc (.type "StopIteration") [] >>= _) _ _ _
 refine wpAny_bind ?_
 simp only [newExc,newTuple]
 refine wpAny_bind (wpAny_newObj_type ?_ (by size_fits))
 refine wpAny_bind (m:=firstArgMember _ _) (wpAny_of_eq (a:=Value.none) (by first|rfl|(simp only [firstArgMember];rfl)) ?_)
 refine wpAny_newObj_type ?_ (by size_fits)
 simp only [raiseNew]
 refine wpAny_bind (wpAny_handled ?_)
 rw [show A.in1.handled=none from hh]
 refine wpAny_bind (wpAny_pure (wpAny_throw ?_))
 refine wpAny_bind (wpAny_isInstance (T:="StopIteration") (b:=true) ⟨_,Heap.get?_push_size _ rfl,rfl⟩ isSubtype_stop ?_)
 exact wpAny_pure (hQ _ (((Heap.SameBut.update ..).extBut.push _).push _))
end
end PySem
namespace L2
open PySem PySem.Spec PyProof.Rows
section
def zxl(d:Addr)(o:Obj)(kvs:List (List Key×V)):It :=
 ⟨fun i H=>H d=some (.frz o (.dT kvs))/\i<kvs.length,fun i H x H'=>H'=H/\∃ k v b,kvs[i]?=some (k,v)/\x=.ref b/\TAt H b (k.map kV),fun i H=>H d=some (.frz o (.dT kvs))/\kvs.length<=i⟩
theorem zlg{P:Program}{w:World}{H:Hp}{h:Heap}{d:Addr}{o:Obj}{kvs:List (List Key×V)}{es:Array DictEntry}{ep:Nat}(ok:zbM P w H h d (.frz o (.dT kvs)))(hd:o.data=.dict es ep) :
  ∃ xs,KT H kvs xs/\DEs h d es ep/\es.toList=xs.map (entryOfKey (tupleKind (zbI P w)))/\(d==sysModules)=false:=by
 obtain⟨e,_,sy,xs,kt,o',es',ep',e',r1,r2,r3,r4⟩:=ok
 rw [e] at e'
 cases e'
 rw [hd] at r2
 cases r2
 exact⟨xs,kt,⟨o,e,r1,hd⟩,r3,sy⟩
theorem zmD{P:Program}{w:World}{K:W.Frag}{tg:Expr}{o:Obj}{es:Array DictEntry}{ep:Nat}{kvs:List (List Key×V)}(d it:Addr)(hdat:o.data=.dict es ep) :
  Turn P w K tg (zxl d o kvs) [it] it (fun i h=>h.IsKeyIter it d i es.size ep) where
 mem:=by simp
 obj:=fun i h st b hb=>by
  have e:b=it:=by simpa using hb
  subst e
  obtain⟨o,e,c,d⟩:=st
  exact⟨o,e,fun v z=>by rw [d] at z;cases z⟩
 keep:=fun i h h' st k=>st.at fun o e=>k it (by simp) o e
 item:=by
  intro X hP hw hK hc i pins s σ H E I hf st hg
  subst hP hw hK
  obtain⟨hd,hi⟩:=hg
  obtain⟨xs,kt,da,he,_⟩:=zlg (I.hok d _ hd) hdat
  have hl:kvs.length=xs.length:=Paired.length kt
  have hsz:es.size=xs.length:=size_of_entries he
  obtain⟨⟨k',b,v'⟩,ev,rk,rb,rv⟩:=zhK kt (List.getElem?_eq_getElem hi)
  obtain⟨f0,f1,f2,f3,f4,f5⟩:=hf it (by simp)
  have hi':i<es.size:=by omega
  have hk:es[i].key=.ref b:=by
   have:=entry_at he i
   rw [ev,Array.getElem?_eq_getElem hi'] at this
   simp only [Option.map_some,Option.some.injEq] at this
   rw [this]
   rfl
  refine zuP st da hi' fun h' st2 sb=>?_
  have I1:Inv X pins σ H { s with heap:=h' }:=I.turned (t':=s.toks) (fun b o hb e=>(sb.2 b hb).trans e) f0 f1 f3 f4 f5
  obtain⟨o,e,c,dd⟩:=id st2
  rw [hk]
  exact⟨.ref b,rfl,zqU (s:={ s with heap:=h' }) e c dd (by decide) ⟨.ref b,H,I1,rfl,⟨rfl,kvs[i].1,kvs[i].2,b,List.getElem?_eq_getElem hi,rfl,rb⟩,st2,fun b hb=>(hf b hb).1⟩⟩
 done:=by
  intro X hP hw hK hc i pins s σ H E I hf st hg
  subst hP hw hK
  obtain⟨hd,hi⟩:=hg
  obtain⟨xs,kt,da,he,_⟩:=zlg (I.hok d _ hd) hdat
  have hl:kvs.length=xs.length:=Paired.length kt
  have hsz:es.size=xs.length:=size_of_entries he
  obtain⟨f0,f1,f2,f3,f4,f5⟩:=hf it (by simp)
  exact zvY (I.ok.hd hc) st da (by omega) fun h' eb=>⟨rfl,I.turned (t':=s.toks) (fun b o hb e=>eb b o hb e) f0 f1 f3 f4 f5⟩
 self:=fun _ _ _ _ _ st h=>wpAny_pyIter_keyiter st h
end
section
def DG(H:Hp)(a:Addr)(y:V)(r:Option V):Prop :=
 zvQ H a y r
section
variable {X:Cx}{pins:List (Addr×Obj)}{σ:St}{H:Hp}{s:Shared}{a:Addr}{y v d:V}{u r:Value}{o:Option V}{A:Around}{E:Value->Shared->Prop}
theorem zw8{Q:Value->Shared->Prop}(hu:A.units+1<cLine)(I:Inv X pins σ H s)(g:DG H a y o)(ry:RelV y u)(h:∀ s',Inv X pins σ H s'->Q (.bool o.isSome) s') :
  wpAny (model X.prog X.w) A (compareOp .In u (.ref a)) Q E s:=by
 exact zyC hu I g ry h
theorem ztr{Q:Value->Shared->Prop}(hu:A.units+1<cLine)(I:Inv X pins σ H s)(g:DG H a y o)(ry:RelV y u)(rd:RelV d r)(h:∀ w' s',Inv X pins σ H s'->RelV (o.getD d) w'->Q w' s') :
  wpAny (model X.prog X.w) A (call (.builtin "dict.get") [.ref a,u,r]) Q E s:=by
 exact zvw hu I g ry rd h
def DP(H:Hp)(a:Addr)(y v:V)(H':Hp):Prop :=
 zv5 H a y v H'
theorem zvt{H':Hp}{Q:Unit->Shared->Prop}(hu:A.units+1<cLine)(I:Inv X pins σ H s)(g:DP H a y v H')(ry:RelV y u)(rv:RelV v r)(h:∀ s',Inv X pins σ H' s'->Q () s') :
  wpAny (model X.prog X.w) A (setItem (.ref a) u r) Q E s:=by
 exact zph hu I g ry rv h
end
section
variable {X:Cx}{o i e f value:Expr}{apos cpos pos pos':Pos}{td ty tx tv:TE}
def ztZ(td ty tx:TE):TE:=fun σ H Q=>td σ H fun x H1=>∃ a,x=.ref a/\IsD H1 a/\ty σ H1 fun y H2=>tx σ H2 fun z H3=>∃ o,DG H3 a y o/\Q (o.getD z) H3
def zwh(td ty tv:TE):TS:=fun D σ H=>tv σ H fun v H1=>td σ H1 fun x H2=>ty σ H2 fun y H3=>∃ a H4,x=.ref a/\DP H3 a y v H4/\D.nx σ H4
theorem zlW(hu:X.A.units+1<cLine)(ho:PE X o td)(he:PE X e ty)(hf:PE X f tx)(m:M2 X o "get" apos e f cpos):PE X (.Call (.Attribute o "get" apos) [e,f] [] cpos) (ztZ td ty tx):=by
 intro pins s σ H Q I h
 refine wpAny_Call_method m.base m.few m.line PySem.F.plainAttrs_dict PySem.F.slot_dict_get PySem.F.type_dict_get (thn (ho pins s σ H _ I h) fun u s1 ⟨x,H1,I1,rx,a,ex,d,q1⟩=>?_)
 subst ex
 obtain rfl:u=Value.ref a:=rx
 obtain⟨t1,t2,_⟩:=zrP I1 d
 refine⟨t1,t2,?_⟩
 rw [m.trees]
 exact Calls.callWith_builtin rfl (Calls.evalArgs_plain (Calls.spliced_cons (thn (he pins s1 σ H1 _ I1 q1) fun iv s2 ⟨y,H2,I2,ry,q2⟩ =>
  Calls.spliced_cons (thn (hf pins s2 σ H2 _ I2 q2) fun fv s3 ⟨z,H3,I3,rz,ov,g,q3⟩=>Calls.spliced_nil (ztr hu I3 g ry rz fun w' s4 I4 rw'=>⟨_,H3,I4,rw',q3⟩)))))
theorem zsI(hu:X.A.units+1<cLine)(ho:PE X o td)(hi:PE X i ty)(hv:PE X value tv)(hs:swapsWith value (some (.Subscript o i pos')) pos.line X.env=pure false) :
  PS X (.Assign [.Subscript o i pos'] value pos) (zwh td ty tv):=by
 intro pins s σ H D I h
 refine wpAny_Assign_Subscript (thn (hv pins s σ H _ I h) fun r s1 ⟨v,H1,I1,rv,q1⟩=>thn (ho pins s1 σ H1 _ I1 q1) fun u s2 ⟨x,H2,I2,rx,q2⟩=>thn (hi pins s2 σ H2 _ I2 q2) fun iv s3 ⟨y,H3,I3,ry,a,H4,ex,g,q3⟩=>?_) hs
 subst ex
 obtain rfl:u=Value.ref a:=rx
 exact zvt hu I3 g ry rv fun s4 I4=>⟨σ,H4,I4,q3⟩
end
end
end L2
namespace FL
open PySem L2 PySem.Spec
open PyProof.Rows hiding St
section
variable [Cs]
theorem zoh{α:Type}{o:Option α}{a:α}(h:R.of o=.ok a):o=some a:=by
 cases o with
 | none=>cases h
 | some b=>cases h;rfl
theorem zu7(k:Key):kOf (kD k)=some k:=by cases k <;> rfl
theorem zoF:∀ ks:List Key,zpK (ks.map kD)=some ks
 | []=>rfl
 | k::r=>by simp only [List.map_cons,zpK,zu7,Option.bind_some,zoF r,Option.map_some]
theorem zeA(q:List Key):keyOf (zme q)=some (.inl q):=by simp only [zme,keyOf,zoF,Option.map_some]
theorem zte{d:D}{k:Key}(h:kOf d=some k):d=kD k:=by
 cases d with
 | int i=>cases h;rfl
 | str i=>cases h;rfl
 | _=>cases h
theorem zmb:∀{ds:List D} {ks:List Key},zpK ds=some ks->ds=ks.map kD
 | [],ks,h=>by simp only [zpK,Option.some.injEq] at h;subst h;rfl
 | d::r,ks,h=>by
  simp only [zpK,Option.bind_eq_some_iff,Option.map_eq_some_iff] at h
  obtain⟨k,e,ks',e',rfl⟩:=h
  rw [zte e,zmb e'];rfl
section
variable {K:W.Frag}{H H':Hp}
theorem zw4{k:Key}:Fz K H (kD k) (kV k):=by cases k <;> simp [kD,kV,Fz]
theorem zwT{k:Key}{v:V}(h:Fz K H (kD k) v):v=kV k:=by cases k <;> simpa [kD,kV,Fz] using h
theorem zmk:∀ ks:List Key,zaf K H (ks.map kD) (ks.map kV)
 | []=>by simp [zaf]
 | k::r=>by simp only [List.map_cons,zaf];exact⟨_,_,rfl,zw4,zmk r⟩
theorem zrO:∀{ks:List Key} {vs:List V},zaf K H (ks.map kD) vs->vs=ks.map kV
 | [],vs,h=>by simpa [zaf] using h
 | k::r,vs,h=>by
  simp only [List.map_cons,zaf] at h
  obtain⟨v,t,rfl,h1,h2⟩:=h
  rw [zwT h1,zrO h2];rfl
theorem zo5{ks:List Key}{b:Addr}(h:TAt H b (ks.map kV)):Fz K H (zme ks) (.ref b):=by
 simp only [zme,Fz]
 exact⟨b,_,rfl,h,zmk ks⟩
theorem znw{k:D}{v:V}{q:KQ}(f:Tp K H k v)(e:keyOf k=some q):∃ ks b,q=.inl ks/\k=zme ks/\v=.ref b/\TAt H b (ks.map kV):=by
 cases k with
 | tuple xs =>
  simp only [keyOf,Option.map_eq_some_iff] at e
  obtain⟨ks,e1,rfl⟩:=e
  have:=zmb e1
  subst this
  obtain⟨b,vs,rfl,tb,fa⟩:=(show ∃ a vs,v=.ref a/\TAt H a vs/\zaf K H (ks.map kD) vs by simpa [Tp,Fz] using f)
  rw [zrO fa] at tb
  exact⟨ks,b,rfl,rfl,rfl,tb⟩
 | _=>cases e
theorem zoz:∀{kvs:List (D×D)} {kk:List (List Key×V)},zbB K H kvs kk->∀ q:List Key,(look kvs (.inl q)=none/\zlD kk q=none)\/∃ d v,look kvs (.inl q)=some d/\zlD kk q=some v/\Fz K H d v
 | [],kk,h,q=>by simp only [zbB] at h;subst h;exact .inl ⟨rfl,rfl⟩
 | (k,d)::r,kk,h,q=>by
  simp only [zbB] at h
  obtain⟨q',v,t,rfl,rfl,f,h2⟩:=h
  by_cases c:q'=q
  ·subst c
   exact .inr ⟨d,v,by simp [look,List.find?_cons,zeA],zih rfl,f⟩
  ·have e1:look ((zme q',d)::r) (.inl q)=look r (.inl q):=by simp [look,List.find?_cons,zeA,c]
   rw [e1,zii (p:=(q',v)) c]
   exact zoz h2 q
theorem zd3{d k:D}{x:List (D×D)×KQ}(h:dictAt d k=.ok x):d=.dict x.1/\keyOf k=some x.2/\keysOk (form x.2) x.1=true:=by
 cases d with
 | dict kvs =>
  obtain⟨q,e1,h⟩:=zaj (show(R.of (keyOf k)).bind _=.ok x from h)
  obtain⟨c,h⟩:=za1 h
  cases h
  exact⟨rfl,zoh e1,c⟩
 | _=>cases h
theorem zq3{d k:D}{x y:V}{o:Option D}(t:Tp K H d x)(f:Tp K H k y)(e:zdO d k=.ok o) :
  ∃ a r,x=.ref a/\IsD H a/\DG H a y r/\((o=none/\r=none)\/∃ d v,o=some d/\r=some v/\Fz K H d v):=by
 obtain⟨⟨kvs,q⟩,e1,e⟩:=zaj (show(dictAt d k).bind _=.ok o from e)
 cases e
 obtain⟨rfl,ek,c⟩:=zd3 e1
 obtain⟨a,ea,kk,rd,h⟩:=(show ∃ a,x=.ref a/\∃ kk,Rd H a (.dT kk)/\zbB K H kvs kk from t)
 subst ea
 obtain⟨ks,b,rfl,rfl,rfl,tb⟩:=znw f ek
 refine⟨a,zlD kk ks,rfl,⟨kk,rd⟩,⟨kk,ks,b,rd,rfl,tb,rfl⟩,?_⟩
 rcases zoz h ks with⟨z1,z2⟩|⟨d,v,z1,z2,z3⟩
 ·exact .inl ⟨z1,z2⟩
 ·exact .inr ⟨d,v,z1,z2,z3⟩
theorem zvK:∀{kvs:List (D×D)} {kk:List (List Key×V)},zbB K H kvs kk->∀ q:List Key,(kvs.any fun kv=>decide (keyOf kv.1=some (.inl q)))=kk.any fun kv=>decide (kv.1=q)
 | [],kk,h,q=>by simp only [zbB] at h;subst h;rfl
 | (k,d)::r,kk,h,q=>by
  simp only [zbB] at h
  obtain⟨q',v,t,rfl,rfl,f,h2⟩:=h
  simp only [List.any_cons,zvK h2 q,zeA,Option.some.injEq,Sum.inl.injEq]
theorem zt8{d:D}{v:V}(f:Fz K H d v):∀{kvs:List (D×D)} {kk:List (List Key×V)},zbB K H kvs kk->∀ q:List Key,zbB K H (kvs.map fun kv=>if keyOf kv.1=some (.inl q) then(kv.1,d) else kv) (kk.map fun kv=>if kv.1=q then(kv.1,v) else kv)
 | [],kk,h,q=>by simp only [zbB] at h;subst h;simp [zbB]
 | (k,d0)::r,kk,h,q=>by
  simp only [zbB] at h
  obtain⟨q',v0,t,rfl,rfl,f0,h2⟩:=h
  have ih:=zt8 f h2 q
  by_cases c:q'=q
  ·subst c
   simp only [List.map_cons,zeA,if_true,zbB]
   exact⟨q',v,_,rfl,rfl,f,ih⟩
  ·simp only [List.map_cons,zeA,Option.some.injEq,Sum.inl.injEq,if_neg c,zbB]
   exact⟨q',v0,_,rfl,rfl,f0,ih⟩
theorem zvJ{d:D}{v:V}(f:Fz K H d v)(q:List Key):∀{kvs:List (D×D)} {kk:List (List Key×V)},zbB K H kvs kk->zbB K H (kvs++[(zme q,d)]) (kk++[(q,v)])
 | [],kk,h=>by simp only [zbB] at h;subst h;simp only [List.nil_append,zbB];exact⟨q,v,[],rfl,rfl,f,rfl⟩
 | (k,d0)::r,kk,h=>by
  simp only [zbB] at h
  obtain⟨q',v0,t,rfl,rfl,f0,h2⟩:=h
  simp only [List.cons_append,zbB]
  exact⟨q',v0,_,rfl,rfl,f0,zvJ f q h2⟩
theorem zwu{d:D}{v:V}{kvs:List (D×D)}{kk:List (List Key×V)}(h:zbB K H kvs kk)(f:Fz K H d v)(q:List Key):zbB K H (zum kvs (zme q) (.inl q) d) (putK kk q v):=by
 unfold zum putK
 rw [zvK h q]
 split
 ·exact zt8 f h q
 ·exact zvJ f q h
theorem zrV:∀{kvs:List (D×D)} {kk:List (List Key×V)},zbB K H kvs kk->∀ q:List Key,zbB K H (zgS kvs (.inl q)) (zcY kk q)
 | [],kk,h,q=>by simp only [zbB] at h;subst h;simp [zgS,zcY,zbB]
 | (k,d0)::r,kk,h,q=>by
  simp only [zbB] at h
  obtain⟨q',v0,t,rfl,rfl,f0,h2⟩:=h
  have ih:=zrV h2 q
  by_cases c:q'=q
  ·subst c
   have e1:zgS ((zme q',d0)::r) (.inl q')=zgS r (.inl q'):=by simp [zgS,zeA]
   rw [e1,zpf (p:=(q',v0)) rfl]
   exact ih
  ·have e1:zgS ((zme q',d0)::r) (.inl q)=(zme q',d0)::zgS r (.inl q):=by simp [zgS,zeA,c]
   rw [e1,zpg (p:=(q',v0)) c]
   simp only [zbB]
   exact⟨q',v0,_,rfl,rfl,f0,ih⟩
theorem zbB.len:∀{kvs:List (D×D)} {kk:List (List Key×V)},zbB K H kvs kk->kk.length=kvs.length
 | [],kk,h=>by simp only [zbB] at h;subst h;rfl
 | (k,d0)::r,kk,h=>by
  simp only [zbB] at h
  obtain⟨q',v0,t,rfl,rfl,f0,h2⟩:=h
  simp [h2.len]
theorem zo4{a:Addr}{u o:HO}(e:H a=some u)(ow:Own u):Fzn H (upd H a o):=fun b w eb st=>by
 rw [zan fun z=>by subst z;rw [e] at eb;cases eb;exact ow.zcz st]
 exact eb
theorem zto{c k dv d':D}{a:Addr}{y v:V}(m:zbh K H a c)(f:Fz K H k y)(g:Fz K H dv v)(e:zke c k dv=.ok d'):∃ o,DP H a y v (upd H a o)/\zbh K (upd H a o) a d':=by
 obtain⟨⟨kvs,q⟩,e1,e⟩:=zaj (show(dictAt c k).bind _=.ok d' from e)
 obtain⟨l,e⟩:=za1 e
 cases e
 obtain⟨rfl,ek,c⟩:=zd3 e1
 have hl:kvs.length+1<=sizeLine:=Nat.le_trans (ziM l) zb0
 obtain⟨kk,rd,h⟩:=(show ∃ kk,H a=some (.dT kk)/\zbB K H kvs kk from m)
 have fz:∀ o,Fzn H (upd H a o):=fun o=>zo4 rd trivial
 obtain⟨ks,b,rfl,rfl,rfl,tb⟩:=znw f.tp ek
 exact⟨.dT (putK kk ks v),⟨kk,ks,b,rd,rfl,tb,by rw [h.len];omega,rfl⟩,⟨_,zal,(zwu h g ks).mono (fz _)⟩⟩
def DDl(H:Hp)(a:Addr)(y:V)(o:HO):Prop:=∃ kvs k b,H a=some (.dT kvs)/\y=.ref b/\TAt H b (k.map kV)/\(zlD kvs k).isSome=true/\o=.dT (zcY kvs k)
theorem zvu{c k d':D}{a:Addr}{y:V}(m:zbh K H a c)(f:Fz K H k y)(e:zm7 c k=.ok d'):∃ o,DDl H a y o/\zbh K (upd H a o) a d':=by
 obtain⟨⟨kvs,q⟩,e1,e⟩:=zaj (show(dictAt c k).bind _=.ok d' from e)
 obtain⟨l,e⟩:=za1 e
 cases e
 obtain⟨rfl,ek,c⟩:=zd3 e1
 obtain⟨kk,rd,h⟩:=(show ∃ kk,H a=some (.dT kk)/\zbB K H kvs kk from m)
 have fz:∀ o,Fzn H (upd H a o):=fun o=>zo4 rd trivial
 obtain⟨ks,b,rfl,rfl,rfl,tb⟩:=znw f.tp ek
 refine⟨.dT (zcY kk ks),⟨kk,ks,b,rd,rfl,tb,?_,rfl⟩,⟨_,zal,(zrV h ks).mono (fz _)⟩⟩
 rcases zoz h ks with⟨z1,z2⟩|⟨d,v,z1,z2,z3⟩
 ·rw [show look kvs (.inl ks)=none from z1] at l;cases l
 ·rw [z2];rfl
end
end
section
variable [Cs]
section
variable {X:Cx}
theorem zuK(hu:X.A.units+1<cLine):OpR X (compareOp .In) (rD X.K inD):=by
 intro pins s σ H x y v u Q I rx ry h
 obtain⟨dx,dy,d,tx,ty,e,q⟩:=h
 obtain⟨o,e1,e⟩:=zaj (show(zdO dy dx).bind _=.ok d from e)
 cases e
 obtain⟨a,r,rfl,_,g,rel⟩:=zq3 ty tx e1
 cases ry
 have hb:o.isSome=r.isSome:=by
  rcases rel with⟨rfl,rfl⟩|⟨_,_,rfl,rfl,_⟩ <;> rfl
 exact zw8 hu I g rx fun s3 I3=>⟨.bl r.isSome,H,I3,rfl,q _ H (zaB.refl _) (by rw [hb];simp [Fz])⟩
theorem ztg(hu:X.A.units+1<cLine):IxR X (rD X.K zfc):=by
 intro value slice pins s σ H x y v u Q I rx ry h hs
 obtain⟨dx,dy,d,tx,ty,e,q⟩:=h
 obtain⟨o,e1,e⟩:=zaj (show(zdO dx dy).bind _=.ok d from e)
 have eo:=zoh e
 subst eo
 obtain⟨a,r,rfl,_,g,rel⟩:=zq3 tx ty e1
 cases rx
 rcases rel with⟨z,_⟩|⟨d',w,z,rfl,fz⟩
 ·cases z
 cases z
 have hT:=zlj I g
 have h2:wpAny (model X.prog X.w) X.A (getItem (.ref a) u) (EP X pins σ Q) X.xe s:=zpi hu I g ry fun w' s3 I3 rw'=>⟨w,H,I3,rw',q w H (zaB.refl _) fz⟩
 unfold subscriptTail
 refine wpAny_bind ?_
 rw [getitemInPython_of_ne hT.not_modules]
 refine wpAny_bind (wpAny_specialOf hT PySem.F.slot_dict_getitem.lookup ?_)
 have fin:wpAny (model X.prog X.w) X.A (subscripted slice false (.ref a) u) (fun r s₃=>wpAny (model X.prog X.w) X.A (letTemporaryGo value (.ref a) r >>= fun _=>pure r) (EP X pins σ Q) X.xe s₃) X.xe s:=by
  rw [hs]
  exact wpAny_operating (wpAny_mono h2 (fun r s₃ h₃=>wpAny_bind (wpAny_letTemporaryGo (wpAny_pure h₃))) fun _ _ x=>x)
 first
  | exact wpAny_pure (wpAny_bind fin)
  | exact wpAny_bind (wpAny_pure (wpAny_bind fin))
  | exact wpAny_bind fin
end
section
variable {K:W.Frag}{X:Cx}{o e e':Expr}{fd fk fx f:EF}{apos cpos pos:Pos}
theorem zsA(hu:X.A.units+1<cLine)(ho:PV K X o fd)(he:PV K X e fk)(hf:PV K X e' fx)(m:M2 X o "get" apos e e' cpos):PV K X (.Call (.Attribute o "get" apos) [e,e'] [] cpos) (e3 ziW fd fk fx):=.mk fun hK=>by
 subst hK
 refine(zlW hu (ho rfl) (he rfl) (hf rfl) m).weak fun σ H Q=>?_
 rintro⟨ρ,rel,q⟩
 refine goV rel q fun dx ρ1 x H1 rel1 st1 fz1 q1=>?_
 obtain⟨ya,ea,q2⟩:=id q1.bnd
 obtain⟨yb,eb,q3⟩:=q2.bnd
 obtain⟨dr,er,_⟩:=q3.zdP
 obtain⟨o0,e0,_⟩:=zaj (show(zdO dx ya.1).bind _=.ok dr from er)
 obtain⟨z0,e00,_⟩:=zaj (show(dictAt dx ya.1).bind _=.ok o0 from e0)
 obtain⟨rfl,_,_⟩:=zd3 e00
 have isd:∃ a,x=.ref a/\IsD H1 a:=by
  obtain⟨a,rfl,kk,rd,_⟩:=fz1.tp
  exact⟨a,rfl,kk,rd⟩
 obtain⟨a,rfl,isd⟩:=isd
 refine⟨a,rfl,isd,goV rel1 q1 fun dk ρ2 y H2 rel2 st2 fz2 q2=>goV rel2 q2 fun dz ρ3 z H3 rel3 st3 fz3 q3=>?_⟩
 obtain⟨dr,er,q4⟩:=q3.zdP
 obtain⟨o1,e1,er⟩:=zaj (show(zdO _ dk).bind _=.ok dr from er)
 cases er
 obtain⟨a',r,ea',_,g,rl⟩:=zq3 ((fz1.mono (st2.fzn rel1)).mono (st3.fzn rel2)).tp (fz2.mono (st3.fzn rel2)).tp e1
 cases ea'
 refine⟨r,g,q4.now rel3 _ ?_⟩
 rcases rl with⟨rfl,rfl⟩|⟨d,v,rfl,rfl,fv⟩
 ·exact fz3
 ·exact fv
theorem zhM{H:Hp}{a:Addr}{d:D}{kvs:List (D×D)}(m:zbh K H a (.dict kvs)):IsD H a:=by
 obtain⟨kk,rd,_⟩:=(show ∃ kk,H a=some (.dT kk)/\_ from m)
 exact⟨kk,.inl rd⟩
theorem zlS{y:Str}{py:Pos}(i:Nat)(hu:X.A.units+1<cLine)(ha:PE X (.Name y py) (zin i))(he:PV K X e fk)(hf:PV K X e' fx)(m:M2 X (.Name y py) "get" apos e e' cpos):PV K X (.Call (.Attribute (.Name y py) "get" apos) [e,e'] [] cpos) (zf1 i fk fx):=.mk fun hK=>by
 subst hK
 refine(zlW hu ha (he rfl) (hf rfl) m).weak fun σ H Q=>?_
 rintro⟨ρ,rel,q⟩
 obtain⟨d0,ed0,q0⟩:=q.zdP
 obtain⟨ks0,ek0,q1⟩:=q0.zdP
 cases d0 with
 | dict kvs0 =>
  obtain⟨a,at0,m0⟩:=rel.zkX ed0
  refine⟨.ref a,at0.2,a,rfl,zhM (d:=.none) m0,goV rel q1 fun dk ρ2 y H2 rel2 st2 fz2 q2=>goV rel2 q2 fun dz ρ3 z H3 rel3 st3 fz3 q3=>?_⟩
  obtain⟨c,ec,q4⟩:=q3.zdP
  obtain⟨dr,er,q5⟩:=q4.zdP
  obtain⟨o1,e1,er⟩:=zaj (show(zdO c dk).bind _=.ok dr from er)
  cases er
  obtain⟨a',r,ea',_,g,rl⟩:=zq3 (rel3.again ec at0).tp (fz2.mono (st3.fzn rel2)).tp e1
  cases ea'
  refine⟨r,g,q5.now rel3 _ ?_⟩
  rcases rl with⟨rfl,rfl⟩|⟨d,v,rfl,rfl,fv⟩
  ·exact fz3
  ·exact fv
 | _=>cases ek0
theorem ziv{y:Str}{py ps':Pos}{ke:Expr}{k:EF}(i:Nat)(hu:X.A.units+1<cLine)(ha:PE X (.Name y py) (zin i))(he:PV K X e f)(hk:PV K X ke k)
  (hs:swapsWith e (some (.Subscript (.Name y py) ke ps')) pos.line X.env=pure false:=by rfl):PSV K X (.Assign [.Subscript (.Name y py) ke ps'] e pos) (zfu i k f):=.mk fun hK C=>by
 subst hK
 refine(zsI hu ha (hk rfl) (he rfl) hs).weak fun Dn σ H=>?_
 rintro⟨ρ,rel,g⟩
 refine zm0 rel g fun dv ρ1 v H1 rel1 st1 fv g1=>?_
 obtain⟨d,ed,g2⟩:=g1.bnd
 obtain⟨a,at0,m0⟩:=rel1.rel.zkX ed
 refine⟨.ref a,at0.2,zm0 rel1 g2 fun dk ρ2 kv H2 rel2 st2 fk g3=>?_⟩
 obtain⟨c,ec,g4⟩:=g3.bnd
 obtain⟨d',ed',g5⟩:=g4.bnd
 obtain⟨o,dp,mm⟩:=zto (rel2.rel.again ec at0) fk (fv.mono (st2.fzn rel1.rel)) ed'
 obtain⟨a2,at2,_⟩:=rel2.rel.zkX ec
 have:=at0.2.symm.trans at2.2
 cases this
 exact⟨a,_,rfl,dp,zqV rel2 at2 mm g5⟩
def zwj(td ty:TE):TS:=fun D σ H=>td σ H fun x H1=>ty σ H1 fun y H2=>∃ a o,x=.ref a/\DDl H2 a y o/\D.nx σ (upd H2 a o)
theorem zsK{i o:Expr}{td ty:TE}{tpos:Pos}(hu:X.A.units+1<cLine)(ho:PE X o td)(hi:PE X i ty):PS X (.Delete [.Subscript o i tpos] pos) (zwj td ty):=by
 intro pins s σ H D I h
 refine wpAny_Delete (wpAny_deleteEach_cons (wpAny_delete_Subscript (thn (ho pins s σ H _ I h) fun u s1 ⟨x,H1,I1,rx,q1⟩=>thn (hi pins s1 σ H1 _ I1 q1) fun iv s2 ⟨y,H2,I2,ry,a,o,ex,dd,q2⟩=>?_)))
 subst ex
 obtain rfl:u=Value.ref a:=rx
 obtain⟨kvs,k,b,e,rfl,eb,l,rfl⟩:=dd
 obtain rfl:iv=Value.ref b:=ry
 exact zvy hu I2 e eb l fun s3 I3=>wpAny_deleteEach_nil ⟨σ,_,I3,q2⟩
theorem zp3{y:Str}{py tpos:Pos}{ke:Expr}{k:EF}(i:Nat)(hu:X.A.units+1<cLine)(ha:PE X (.Name y py) (zin i))(hk:PV K X ke k):PSV K X (.Delete [.Subscript (.Name y py) ke tpos] pos) (zlk i k):=.mk fun hK C=>by
 subst hK
 refine(zsK hu ha (hk rfl)).weak fun Dn σ H=>?_
 rintro⟨ρ,rel,g⟩
 obtain⟨d,ed,g2⟩:=g.bnd
 obtain⟨a,at0,m0⟩:=rel.rel.zkX ed
 refine⟨.ref a,at0.2,zm0 rel g2 fun dk ρ2 kv H2 rel2 st2 fk g3=>?_⟩
 obtain⟨c,ec,g4⟩:=g3.bnd
 obtain⟨d',ed',g5⟩:=g4.bnd
 obtain⟨o,dd,mm⟩:=zvu (rel2.rel.again ec at0) fk ed'
 obtain⟨a2,at2,_⟩:=rel2.rel.zkX ec
 have:=at0.2.symm.trans at2.2
 cases this
 exact⟨a,o,rfl,dd,zqV rel2 at2 mm g5⟩
theorem zcT:PVN K X (.Dict [] [] pos) zcq:=.mk fun hK=>zqp.weak fun σ H Q=>by
 rintro⟨ρ,rel,q⟩ p hp
 exact q.new rel (zaB.upd hp) p hp ⟨[],zal,by simp [zbB]⟩
theorem zus{tg l:Expr}{tl:TE}(hl:PE X l tl):PI X tg l (fun σ H R=>tl σ H fun x H1=>∃ d o,x=.ref d/\∃ kvs,H1 d=some (.frz o (.dT kvs))/\R (zxl d o kvs) H1):=by
 intro pins s σ H R I h
 refine thn (hl pins s σ H _ I h) fun v s1 ⟨x,H1,I1,r1,q1⟩=>?_
 obtain⟨d,o,e,q1⟩:=q1
 subst e
 cases r1
 obtain⟨kvs,e,q⟩:=q1
 obtain⟨e0,_,_,_,_,o',es,ep,e',_,dd,_⟩:=id (show zbM X.prog X.w H1 s1.heap d (.frz o (.dT kvs)) from I1.hok d _ e)
 rw [e0] at e'
 cases e'
 obtain⟨xs,kt,da,he,sy⟩:=zlg (I1.hok d _ e) dd
 refine zu9 sy da ?_
 refine⟨s1.heap.objs.size,[s1.heap.objs.size],_,_,H1,rfl,I1.kept (t':=s1.toks) fun b o e=>Heap.get?_push_of_some _ e,zmD d _ dd,⟨_,Heap.get?_push_size _ rfl,rfl,rfl⟩,fun b hb=>?_,q⟩
 have e:b=s1.heap.objs.size:=by simpa using hb
 subst e
 exact I1.zpO (Nat.le_refl _) (I1.hok.fresh (Nat.le_refl _))
theorem zbB.at{H:Hp}:∀{kvs:List (D×D)} {kk:List (List Key×V)} {i:Nat} {d:D},zbB K H kvs kk->(kvs.map (·.1))[i]?=some d->∃ q v,kk[i]?=some (q,v)/\d=zme q
 | [],kk,i,d,h,e=>by simp at e
 | (k,d0)::r,kk,i,d,h,e=>by
  simp only [zbB] at h
  obtain⟨q',v0,t,rfl,rfl,f0,h2⟩:=h
  cases i with
  | zero=>simp at e;exact⟨q',v0,rfl,e.symm⟩
  | succ i =>
   obtain⟨q,v,z1,z2⟩:=zbB.at h2 (i:=i) (by simpa using e)
   exact⟨q,v,by simpa using z1,z2⟩
theorem zr8{H:Hp}{a:Addr}{o:Obj}{kvs:List (D×D)}{kk:List (List Key×V)}(h:H a=some (.frz o (.dT kk)))(f:zbB K H kvs kk):Walk K (zxl a o kk) (kvs.map (·.1)) H:=by
 refine⟨fun i d H' fz e=>?_,fun i H' fz e=>⟨fz _ _ h trivial,by rw [f.len];simpa using e⟩⟩
 obtain⟨q,v,e1,rfl⟩:=f.at e
 refine⟨⟨fz _ _ h trivial,(List.getElem?_eq_some_iff.mp e1).1⟩,fun x H'' y=>?_⟩
 obtain⟨rfl,k,v',b,e2,rfl,tb⟩:=y
 rw [e1] at e2
 cases e2
 exact⟨zaB.refl _,zo5 tb⟩
theorem zgb{tg:Expr}(he:PV K X e f):PVI K X tg e (iD f):=.mk fun hK=>by
 subst hK
 refine(zus (he rfl)).weak fun σ H R=>?_
 rintro⟨ρ,rel,q⟩
 refine goV rel q fun dx ρ1 x H1 rel1 st1 fx q1=>?_
 obtain⟨items,ei,q2⟩:=q1.zdP
 cases dx with
 | dict kvs =>
  cases ei
  simp only [Fz] at fx
  obtain⟨a,o,rfl,h⟩:=fx
  obtain⟨kk,h1,h2⟩:=h
  exact⟨a,o,rfl,⟨kk,h1,q2.now rel1 _ (zr8 h1 h2)⟩⟩
 | _=>cases ei
end
end
end FL
namespace FL
open PySem
def zdD(i:Nat)(ρ:En):Nat:=match ρ[i]? with
 | some (.val (.int n))=>n.natAbs+1
 | _=>0
abbrev WK:=Int×List Int
def zpR:D->Option WK
 | .tuple [.int n,.tuple xs]=>(intsOf xs).map fun w=>(n,w)
 | _=>none
def zgE(G:List D->R D):List D->R (List WK)
 | []=>.ok []
 | d::r=>(G [d]).bind fun k=>(R.of (zpR k)).bind fun w=>(zgE G r).bind fun ws=>.ok (w::ws)
def ltW(p q:WK):Bool:=if p.1=q.1 then lexLt p.2 q.2 else decide (p.1<q.1)
def zoS(x:WK×D):List (WK×D)->List (WK×D)
 | []=>[x]
 | y::r=>if ltW y.1 x.1=true then y::zoS x r else x::y::r
def zfK:List (WK×D)->List (WK×D)
 | []=>[]
 | x::r=>zoS x (zfK r)
def zeL(G:List D->R D)(d:D):R D:=(zfm d).bind fun ks=>chk (leB (ks.length+1) 64) ((zgE G ks).bind fun ws=>chk (decide ws.Nodup) (.ok (.list ((zfK (ws.zip ks)).map (·.2)))))
theorem zgK(x:WK×D):∀ l,(zoS x l).Perm (x::l)
 | []=>.refl _
 | y::r=>by
  unfold zoS
  split
  ·exact((zgK x r).cons y).trans (.swap x y r)
  ·exact .refl _
theorem zgG:∀ l:List (WK×D),(zfK l).Perm l
 | []=>.refl _
 | x::r=>(zgK x _).trans ((zgG r).cons x)
def zt7:D->R D
 | .list a=>.ok (.list a.reverse)
 | _=>.bad
end FL
namespace L2
open PySem PySem.Spec PyProof.Rows PySem.W
abbrev gp(p:Array Nat)(i:Nat):Nat:=p.getD i 0
theorem zo2{p q:Array Nat}{i j:Nat}(h:p[i]?=q[j]?):gp p i=gp q j:=by
 simp only [gp,Array.getD_eq_getD_getElem?,h]
section
variable {lt:Nat->Nat->Bool}{n:Nat}{cmp:Nat->Nat->(Bool->Shared->Prop)->Shared->Prop}{P:Shared->Prop}
structure Ord(lt:Nat->Nat->Bool):Prop where
 tr:∀ i j k,lt j i=false->lt k j=false->lt k i=false
 as:∀ i j,lt i j=true->lt j i=false
def Asks(lt:Nat->Nat->Bool)(n:Nat)(P:Shared->Prop)(cmp:Nat->Nat->(Bool->Shared->Prop)->Shared->Prop):Prop :=
 ∀ i j (C:Bool->Shared->Prop) s,i<n->j<n->P s->(∀ s',P s'->C (lt i j) s')->cmp i j C s
theorem Ord.refl(o:Ord lt)(i:Nat):lt i i=false:=by
 cases h:lt i i with
 | false=>rfl
 | true=>exact h.symm.trans (o.as i i h)
def Up(lt:Nat->Nat->Bool)(p:Array Nat)(m:Nat):Prop:=∀ i j,i<=j->j<m->lt (gp p j) (gp p i)=false
def Dn(lt:Nat->Nat->Bool)(p:Array Nat)(m:Nat):Prop:=∀ i j,i<=j->j<m->lt (gp p i) (gp p j)=false
def Eb(lt:Nat->Nat->Bool)(p:Array Nat)(a b:Nat):Prop:=∀ i j,a<=i->i<b->a<=j->j<b->lt (gp p i) (gp p j)=false
structure Arr(n:Nat)(p:Array Nat):Prop where
 sz:p.size=n
 pm:p.Perm (List.toArray (List.range n))
theorem Arr.lim{p:Array Nat}(h:Arr n p)(hn:0<n)(i:Nat):gp p i<n:=by
 by_cases c:i<p.size
 ·have e:gp p i=p[i]:=by simp [gp,Array.getD,c]
  rw [e]
  have m:p[i]∈p.toList:=Array.getElem_mem_toList c
  have m2:=(Array.perm_iff_toList_perm.mp h.pm).mem_iff.mp m
  simpa using m2
 ·have e:gp p i=0:=by simp [gp,Array.getD,c]
  rw [e];exact hn
theorem Up.next(o:Ord lt){p:Array Nat}{m:Nat}(h:Up lt p m)(hm:1<=m)(e:lt (gp p m) (gp p (m-1))=false):Up lt p (m+1):=fun i j hij hj=>by
 by_cases c:j<m
 ·exact h i j hij c
 ·have:j=m:=by omega
  subst this
  by_cases c2:i=j
  ·subst c2;exact o.refl _
  ·exact o.tr _ _ _ (h i (j-1) (by omega) (by omega)) e
theorem Dn.next(o:Ord lt){p:Array Nat}{m:Nat}(h:Dn lt p m)(hm:1<=m)(e:lt (gp p (m-1)) (gp p m)=false):Dn lt p (m+1):=fun i j hij hj=>by
 by_cases c:j<m
 ·exact h i j hij c
 ·have:j=m:=by omega
  subst this
  by_cases c2:i=j
  ·subst c2;exact o.refl _
  ·exact o.tr _ _ _ e (h i (j-1) (by omega) (by omega))
theorem zhX{p:Array Nat}{a b:Nat}(hb:b<=p.size)(k:Nat):gp (kas_rev p a b) k=if a<=k/\k<b then gp p (a+b-1-k) else gp p k:=by
 have e:=getElem?_mirror_all (xs:=p) (i:=a) hb k
 unfold kas_rev
 split
 ·rename_i c;rw [if_pos c] at e;exact zo2 e
 ·rename_i c;rw [if_neg c] at e;exact zo2 e
theorem Arr.rev{p:Array Nat}(h:Arr n p)(a b:Nat):Arr n (kas_rev p a b):=⟨by unfold kas_rev;rw [mirror_size];exact h.sz,(mirror_perm _ _ _ _).trans h.pm⟩
theorem Dn.rev(o:Ord lt){p:Array Nat}{a b m:Nat}(hb:b<=p.size)(h:Dn lt p m)(e:Eb lt p a b)(hbm:b<=m):Dn lt (kas_rev p a b) m:=fun i j hij hj=>by
 rw [zhX hb,zhX hb]
 split
 ·rename_i c1
  split
  ·rename_i c2;exact e _ _ (by omega) (by omega) (by omega) (by omega)
  ·rename_i c2;exact h _ _ (by omega) (by omega)
 ·rename_i c1
  split
  ·rename_i c2;exact h _ _ (by omega) (by omega)
  ·exact h _ _ hij hj
theorem zpv(o:Ord lt)(hc:Asks lt n P cmp)(hn:0<n){p:Array Nat}(ar:Arr n p):∀(f m:Nat) {Q:Nat->Shared->Prop} {s:Shared},1<=m->Up lt p m->P s ->
  (∀ m' s',P s'->m<=m'->m'<=m+f->Up lt p m'->(m'=m+f\/lt (gp p m') (gp p (m'-1))=true)->Q m' s')->(kas_asc p f m).kasWp cmp Q s
 | 0,m,Q,s,h1,hu,hp,h=>h m s hp (Nat.le_refl _) (Nat.le_refl _) hu (.inl rfl)
 | f+1,m,Q,s,h1,hu,hp,h=>by
  refine hc _ _ _ s (ar.lim hn _) (ar.lim hn _) hp fun s' hp'=>?_
  cases e:lt (p.getD m 0) (p.getD (m-1) 0) with
  | true=>exact h m s' hp' (Nat.le_refl _) (by omega) hu (.inr e)
  | false =>
   refine zpv o hc hn ar f (m+1) (by omega) (hu.next o h1 e) hp' fun m' s'' hp'' a b c d=>h m' s'' hp'' (by omega) (by omega) c ?_
   rcases d with d|d
   ·exact .inl (by omega)
   ·exact .inr d
theorem zi5(o:Ord lt)(hc:Asks lt n P cmp)(hn:0<n):∀(f:Nat) (p:Array Nat) (m q:Nat) {Q:Array Nat×Nat×Nat->Shared->Prop} {s:Shared},Arr n p->q+1<=m->m+f<=n->Dn lt p m->Eb lt p (m-(q+1)) m->P s ->
  (∀ p' m' q' s',P s'->Arr n p'->m<=m'->m'<=n->q'+1<=m'->Dn lt p' m'->Eb lt p' (m'-(q'+1)) m'->Q (p',m',q') s')->(kas_desc f p m q).kasWp cmp Q s
 | 0,p,m,q,Q,s,ar,h1,h2,hd,he,hp,h=>h p m q s hp ar (Nat.le_refl _) (by omega) h1 hd he
 | f+1,p,m,q,Q,s,ar,h1,h2,hd,he,hp,h=>by
  refine hc _ _ _ s (ar.lim hn _) (ar.lim hn _) hp fun s' hp'=>?_
  cases e:lt (p.getD m 0) (p.getD (m-1) 0) with
  | true =>
   have hd2:Dn lt p (m+1):=hd.next o (by omega) (o.as _ _ e)
   show(if q > 0 then kas_desc f (kas_rev p (m-(q+1)) m) (m+1) 0 else kas_desc f p (m+1) 0).kasWp cmp Q s'
   split
   ·refine zi5 o hc hn f _ (m+1) 0 (ar.rev _ _) (by omega) (by omega) (hd2.rev o (by rw [ar.sz];omega) he (by omega)) (fun i j a b c d=>?_) hp' fun p' m' q' s'' a b c=>h p' m' q' s'' a b (by omega)
    have e1:i=m:=by omega
    have e2:j=m:=by omega
    subst e1;subst e2;exact o.refl _
   ·refine zi5 o hc hn f _ (m+1) 0 ar (by omega) (by omega) hd2 (fun i j a b c d=>?_) hp' fun p' m' q' s'' a b c=>h p' m' q' s'' a b (by omega)
    have e1:i=m:=by omega
    have e2:j=m:=by omega
    subst e1;subst e2;exact o.refl _
  | false =>
   refine hc _ _ _ s' (ar.lim hn _) (ar.lim hn _) hp' fun s'' hp''=>?_
   cases e2:lt (p.getD (m-1) 0) (p.getD m 0) with
   | true=>exact h p m q s'' hp'' ar (Nat.le_refl _) (by omega) h1 hd he
   | false =>
    refine zi5 o hc hn f p (m+1) (q+1) ar (by omega) (by omega) (hd.next o (by omega) e2) (fun i j a b c d=>?_) hp'' fun p' m' q' s3 a b c=>h p' m' q' s3 a b (by omega)
    have eq1:∀ x,m-(q+1)<=x->x<m->lt (gp p m) (gp p x)=false/\lt (gp p x) (gp p m)=false:=fun x x1 x2 =>
     ⟨o.tr _ _ _ (he (m-1) x (by omega) (by omega) x1 x2) e,o.tr _ _ _ e2 (he x (m-1) x1 x2 (by omega) (by omega))⟩
    by_cases c1:i=m
    ·by_cases c2:j=m
     ·subst c1;subst c2;exact o.refl _
     ·subst c1;exact(eq1 j (by omega) (by omega)).1
    ·by_cases c2:j=m
     ·subst c2;exact(eq1 i (by omega) (by omega)).2
     ·exact he i j (by omega) (by omega) (by omega) (by omega)
theorem zlI(o:Ord lt)(hc:Asks lt n P cmp)(hn:0<n){p:Array Nat}(ar:Arr n p){m:Nat}{Q:Nat×Array Nat->Shared->Prop}{s:Shared}(h1:1<=m)(hm:m<=n)(hd:Dn lt p m)(hp:P s)
  (h:∀ m' p' s',P s'->Arr n p'->1<=m'->m'<=n->Up lt p' m'->Q (m',p') s'):(kas_tail3 m n p).kasWp cmp Q s:=by
 unfold kas_tail3
 rw [KasT.kasWp_bind]
 refine zpv o hc hn (ar.rev 0 m) (n-m) m h1 (fun i j hij hj=>?_) hp fun m' s' hp' a b c _=>h m' _ s' hp' (ar.rev 0 m) (by omega) (by omega) c
 rw [zhX (by rw [ar.sz];exact hm),zhX (by rw [ar.sz];exact hm),if_pos (by omega),if_pos (by omega)]
 exact hd _ _ (by omega) (by omega)
theorem zgU(o:Ord lt)(hc:Asks lt n P cmp)(hn:0<n){p:Array Nat}(ar:Arr n p){m:Nat}{Q:Nat×Array Nat->Shared->Prop}{s:Shared}(hm:m+1<=n)(hd:Dn lt p (m+1))(hp:P s)
  (h:∀ m' p' s',P s'->Arr n p'->1<=m'->m'<=n->Up lt p' m'->Q (m',p') s'):(kas_descPart m n p).kasWp cmp Q s:=by
 unfold kas_descPart
 rw [KasT.kasWp_bind]
 refine zi5 o hc hn _ p (m+1) 0 ar (by omega) (by omega) hd (fun i j a b c d=>?_) hp fun p' m' q' s' hp' ar' a b c hd' he'=>?_
 ·have e1:i=m:=by omega
  have e2:j=m:=by omega
  subst e1;subst e2;exact o.refl _
 ·show(if q' > 0 then kas_tail3 m' n (kas_rev p' (m'-(q'+1)) m') else kas_tail3 m' n p').kasWp cmp Q s'
  split
  ·exact zlI o hc hn (ar'.rev _ _) (by omega) b (hd'.rev o (by rw [ar'.sz];exact b) he' (Nat.le_refl _)) hp' h
  ·exact zlI o hc hn ar' (by omega) b hd' hp' h
theorem zq8(o:Ord lt)(hc:Asks lt n P cmp)(hn:0<n){p:Array Nat}(ar:Arr n p){Q:Nat×Array Nat->Shared->Prop}{s:Shared}(hp:P s)
  (h:∀ m' p' s',P s'->Arr n p'->1<=m'->m'<=n->Up lt p' m'->Q (m',p') s'):(kas_count n p).kasWp cmp Q s:=by
 unfold kas_count
 rw [KasT.kasWp_bind]
 refine zpv o hc hn ar (n-1) 1 (Nat.le_refl _) (fun i j a b=>?_) hp fun m s' hp' a b hu hl=>?_
 ·have e1:i=0:=by omega
  have e2:j=0:=by omega
  subst e1;subst e2;exact o.refl _
 by_cases c:m=n
 ·subst c
  rw [if_pos (by simp)]
  exact h m p s' hp' ar a (Nat.le_refl _) hu
 ·rw [if_neg (by simpa using c)]
  have hl2:lt (gp p m) (gp p (m-1))=true:=by
   rcases hl with hl|hl
   ·omega
   ·exact hl
  by_cases c1:m > 1
  ·rw [if_pos c1]
   refine hc _ _ _ s' (ar.lim hn _) (ar.lim hn _) hp' fun s'' hp''=>?_
   cases e:lt (p.getD 0 0) (p.getD (m-1) 0) with
   | true=>exact h m p s'' hp'' ar a (by omega) hu
   | false =>
    have hs:m<=p.size:=by rw [ar.sz];omega
    have all:∀ i j,i<m->j<m->lt (gp p i) (gp p j)=false:=fun i j hi hj =>
     o.tr _ _ _ (hu j (m-1) (by omega) (by omega)) (o.tr _ _ _ e (hu 0 i (Nat.zero_le _) hi))
    refine zgU o hc hn (ar.rev 0 m) (by omega) (fun i j hij hj=>?_) hp'' h
    rw [zhX hs,zhX hs]
    by_cases cj:j<m
    ·rw [if_pos (by omega),if_pos (by omega)]
     exact all _ _ (by omega) (by omega)
    ·have ej:j=m:=by omega
     subst ej
     rw [if_neg (by omega:¬ (0<=j/\j<j))]
     split
     ·exact o.tr _ _ _ (o.as _ _ hl2) (all _ _ (by omega) (by omega))
     ·have ei:i=j:=by omega
      subst ei;exact o.refl _
  ·rw [if_neg c1]
   have e1:m=1:=by omega
   subst e1
   refine zgU o hc hn ar (by omega) ?_ hp' h
   refine Dn.next o (fun i j hij hj=>?_) (Nat.le_refl _) (o.as _ _ hl2)
   have e1:i=0:=by omega
   have e2:j=0:=by omega
   subst e1;subst e2;exact o.refl _
theorem ziA(o:Ord lt)(hc:Asks lt n P cmp)(hn:0<n){p:Array Nat}(ar:Arr n p){k:Nat}(hu:Up lt p k):∀(f l r:Nat) {Q:Nat->Shared->Prop} {s:Shared},l<=r->r<=k->r-l<=f ->
  (∀ i,i<l->lt (gp p k) (gp p i)=false)->(∀ i,r<=i->i<k->lt (gp p i) (gp p k)=false)->P s ->
  (∀ l' s',P s'->l'<=k->(∀ i,i<l'->lt (gp p k) (gp p i)=false)->(∀ i,l'<=i->i<k->lt (gp p i) (gp p k)=false)->Q l' s')->(kas_place p k f l r).kasWp cmp Q s
 | 0,l,r,Q,s,h1,h2,h3,a,b,hp,h=>h l s hp (by omega) a (by
   have:l=r:=by omega
   subst this;exact b)
 | f+1,l,r,Q,s,h1,h2,h3,a,b,hp,h=>by
  unfold kas_place
  by_cases c:l ≥ r
  ·rw [if_pos c]
   have:l=r:=by omega
   subst this
   exact h l s hp h2 a b
  ·rw [if_neg c]
   refine hc _ _ _ s (ar.lim hn _) (ar.lim hn _) hp fun s' hp'=>?_
   cases e:lt (p.getD k 0) (p.getD ((l+r) / 2) 0) with
   | true =>
    refine ziA o hc hn ar hu f l ((l+r) / 2) (by omega) (by omega) (by omega) a (fun i i1 i2=>?_) hp' h
    exact o.tr _ _ _ (o.as _ _ e) (hu _ _ i1 i2)
   | false =>
    refine ziA o hc hn ar hu f ((l+r) / 2+1) r (by omega) h2 (by omega) (fun i i1=>?_) b hp' h
    exact o.tr _ _ _ (hu i ((l+r) / 2) (by omega) (by omega)) e
theorem zr1(o:Ord lt)(hc:Asks lt n P cmp)(hn:0<n):∀(f:Nat) (p:Array Nat) (k:Nat) {Q:Array Nat->Shared->Prop} {s:Shared},Arr n p->k+f=n->Up lt p k->P s ->
  (∀ p' s',P s'->Arr n p'->Up lt p' n->Q p' s')->(kas_bin f p k).kasWp cmp Q s
 | 0,p,k,Q,s,ar,h1,hu,hp,h=>h p s hp ar (by
  have:k=n:=by omega
  subst this;exact hu)
 | f+1,p,k,Q,s,ar,h1,hu,hp,h=>by
  unfold kas_bin
  rw [KasT.kasWp_bind]
  refine ziA o hc hn ar hu k 0 k (Nat.zero_le _) (Nat.le_refl _) (by omega) (fun i hi=>by omega) (fun i a b=>by omega) hp fun l s' hp' hl ha hb=>?_
  have hk:k<p.size:=by rw [ar.sz];omega
  have gb:∀ i,gp (bubble p k (k-l)) i=if i=l then gp p k else if l<i/\i<=k then gp p (i-1) else gp p i:=fun i=>by
   have e:=getElem?_bubble hk (k-l) (by omega) i
   rw [show k-(k-l)=l by omega] at e
   by_cases c1:i=l
   ·rw [if_pos c1] at e ⊢;exact zo2 e
   ·rw [if_neg c1] at e ⊢
    by_cases c2:l<i/\i<=k
    ·rw [if_pos c2] at e ⊢;exact zo2 e
    ·rw [if_neg c2] at e ⊢;exact zo2 e
  refine zr1 o hc hn f _ (k+1) ⟨by rw [bubble_size];exact ar.sz,(bubble_perm _ _ _).trans ar.pm⟩ (by omega) (fun i j hij hj=>?_) hp' h
  rw [gb i,gb j]
  by_cases c1:i=l
  ·rw [if_pos c1]
   by_cases c2:j=l
   ·rw [if_pos c2];exact o.refl _
   ·rw [if_neg c2,if_pos (by omega)]
    exact hb _ (by omega) (by omega)
  ·rw [if_neg c1]
   by_cases c2:j=l
   ·rw [if_pos c2,if_neg (by omega)]
    exact ha _ (by omega)
   ·rw [if_neg c2]
    by_cases c3:l<i/\i<=k
    ·rw [if_pos c3,if_pos (by omega)]
     exact hu _ _ (by omega) (by omega)
    ·rw [if_neg c3]
     split
     ·exact hu _ _ (by omega) (by omega)
     ·exact hu _ _ (by omega) (by omega)
theorem zsf(o:Ord lt)(hc:Asks lt n P cmp)(hn:0<n){Q:Array Nat->Shared->Prop}{s:Shared}(hp:P s)(h:∀ p s',P s'->Arr n p->Up lt p n->Q p s'):(kas_sort n).kasWp cmp Q s:=by
 unfold kas_sort
 rw [KasT.kasWp_bind]
 refine zq8 o hc hn ⟨by simp,Array.Perm.refl _⟩ hp fun m p s' hp' ar h1 h2 hu=>?_
 show(if m<n then kas_bin (n-max m 1) p (max m 1) else KasT.ret p).kasWp cmp Q s'
 split
 ·have e:max m 1=m:=by omega
  rw [e]
  exact zr1 o hc hn _ p m ar (by omega) hu hp' h
 ·have:m=n:=by omega
  subst this
  exact h p s' hp' ar hu
end
end L2
namespace PySem
open Spec PyProof.Rows
section
variable {prog:Program}{w:World}{A:Around}{E:Value->Shared->Prop}{s:Shared}
theorem DEs.at{h h':Heap}{d:Addr}{es:Array DictEntry}{ep:Nat}(x:DEs h d es ep)(k:∀ o,h.get? d=some o->h'.get? d=some o):DEs h' d es ep:=by
 obtain⟨o,e,r⟩:=x.ex
 exact⟨o,k o e,r⟩
theorem ztP(hh:A.handled=none)(I d:Addr)(hne:d≠I)(es:Array DictEntry)(ep:Nat) :
  Walks prog w A I [I,d] [I] es.size (fun i v=>∃ h:i<es.size,v=es[i].key) (fun i h=>h.IsKeyIter I d i es.size ep/\DEs h d es ep) where
 sub:=fun b hb=>by simp at hb;simp [hb]
 frame:=fun _ _ _ st hk=>⟨st.1.at fun o e=>hk I (by simp) o e,st.2.at fun o e=>hk d (by simp) o e⟩
 item:=fun i s Q E hi st hQ=>by
  refine zuP st.1 st.2 hi fun h' hit' hs'=>?_
  exact hQ _ h' s.toks ⟨hi,rfl⟩ ⟨hit',st.2.at fun o e=>hs'.extBut d o hne e⟩ fun b o hb e=>hs'.extBut b o (fun h=>hb (by simp [h])) e
 done:=fun s Q E st hQ=>zvY hh st.1 st.2 (Nat.le_refl _) fun h' he'=>hQ h' s.toks fun b o hb e=>he' b o (fun h=>hb (by simp [h])) e
 self:=fun _ _ _ _ st hQ=>wpAny_pyIter_keyiter st.1 hQ
theorem zq9{d:Addr}{es:Array DictEntry}{ep:Nat}{Q:List Value->Shared->Prop}(hh:A.handled=none)(sy:(d==sysModules)=false)(hm:DEs s.heap d es ep)(hn:es.size<=1000)
  (hQ:∀ s' (acc:Array Value),(∀ b o,s.heap.get? b=some o->s'.heap.get? b=some o)->s'.gens=s.gens->s'.drawn=s.drawn->s'.os=s.os->s.heap.objs.size<=s'.heap.objs.size->ItemsOf (fun i v=>∃ h:i<es.size,v=es[i].key) acc es.size->Q acc.toList s') :
  wpAny (model prog w) A (collect (.ref d)) Q E s:=by
 obtain⟨od,hod,hxd,hdd⟩:=hm.ex
 have dl:=Heap.lt_size hod
 unfold collect
 refine wpAny_bind (wpAny_runValue (codeAny_builtin F.entry_proto_collect ?_))
 rw [Around.under_plainId F.plain_proto_collect _]
 show wpAny _ A.in1 (newList [] >>= fun l=>again (.builtin "list.__iadd__" ⟨[l,.ref d],[]⟩)) _ _ s
 refine wpAny_bind (wpAny_newObj_type ?_)
 refine wpAny_pure ⟨plainId_quiet F.plain_list_iadd _,codeAny_builtin F.entry_list_iadd ?_⟩
 rw [Around.under_plainId F.plain_list_iadd _]
 have hm1:DEs (s.heap.push { cls:=.type "list",data:=.seq ([]:List Value).toArray }) d es ep:=hm.at fun o e=>Heap.get?_push_of_some _ e
 have hSd:s.heap.objs.size≠d:=Nat.ne_of_gt dl
 have h1:Builtin.List.listSameRef (.ref s.heap.objs.size) (.ref d)=false:=by simp [Builtin.List.listSameRef,hSd]
 show wpAny _ A.in1 (Builtin.List.listExtendWith (.ref s.heap.objs.size) (.ref d) (.ref s.heap.objs.size)) _ _ _
 unfold Builtin.List.listExtendWith
 refine wpAny_bind (wpAny_typeOf (s:={ s with heap:=s.heap.push { cls:=.type "list",data:=.seq ([]:List Value).toArray } }) hm1.typ ?_)
 rw [if_neg (by rw [h1];decide)]
 refine wpAny_bind (zu9 (s:={ s with heap:=s.heap.push { cls:=.type "list",data:=.seq ([]:List Value).toArray } }) sy hm1 ?_)
 refine wpAny_bind (wpAny_holding ?_)
 have I2:s.heap.objs.size+1=(s.heap.push { cls:=.type "list",data:=.seq ([]:List Value).toArray }).objs.size:=(Heap.size_push ..).symm
 have hm2:DEs ((s.heap.push { cls:=.type "list",data:=.seq ([]:List Value).toArray }).push { cls:=.type "dict_keyiterator",data:=.fields #[.ref d,.int 0 0,.int es.size 0,.int ep 0] }) d es ep:=hm1.at fun o e=>Heap.get?_push_of_some _ e
 have ty2:=DEs.typ (s:={ s with heap:=(s.heap.push { cls:=.type "list",data:=.seq ([]:List Value).toArray }).push { cls:=.type "dict_keyiterator",data:=.fields #[.ref d,.int 0 0,.int es.size 0,.int ep 0] } }) hm2
 unfold Builtin.List.listLengthHint
 refine wpAny_bind (wpAny_specialOf ty2 F.slot_dict_len.lookup ?_)
 generalize hid:("dict.__len__":String)=id0
 wp_delta
 rw [show splitId id0=some ("dict","__len__") from by subst hid;decide +kernel]
 subst hid
 refine wpAny_bind (wpAny_isInstance (b:=true) ty2 (by rw [isSubtype_type];kernel_rfl) ?_)
 rw [if_neg (by decide)]
 dsimp only
 rw [if_pos (by decide +kernel)]
 refine wpAny_bind (wpAny_typeOf ty2 ?_)
 refine wpAny_pure ?_
 rw [if_pos (by decide +kernel)]
 refine wpAny_bind (wpAny_rule ?_)
 unfold Builtin.List.listTouch
 have hS0:((s.heap.push { cls:=.type "list",data:=.seq ([]:List Value).toArray }).push { cls:=.type "dict_keyiterator",data:=.fields #[.ref d,.int 0 0,.int es.size 0,.int ep 0] }).get? s.heap.objs.size=some (seqObj "list" #[] 0):=Heap.get?_push_of_some _ (Heap.get?_push_size _ rfl)
 refine wpAny_bind (wpAny_bind (listUpdate_at hS0 rfl ?_ (Nat.zero_le _) (by show 1<=sizeLine+1;omega)))
 have hS1:=get?_update_seq hS0 (·.push .none)
 refine listUpdate_at hS1 rfl ?_ (by show 1<=sizeLine;rw [sizeLine_eq];decide) (by show 0<=sizeLine+1;omega)
 have hS2:=get?_update_seq hS1 (·.pop)
 have up:∀ b o,b≠s.heap.objs.size->((s.heap.push { cls:=.type "list",data:=.seq ([]:List Value).toArray }).push { cls:=.type "dict_keyiterator",data:=.fields #[.ref d,.int 0 0,.int es.size 0,.int ep 0] }).get? b=some o ->
   ((((s.heap.push { cls:=.type "list",data:=.seq ([]:List Value).toArray }).push { cls:=.type "dict_keyiterator",data:=.fields #[.ref d,.int 0 0,.int es.size 0,.int ep 0] }).update s.heap.objs.size (Obj.mapSeq fun x=>x.push Value.none)).update s.heap.objs.size (Obj.mapSeq fun x=>x.pop)).get? b=some o:=fun b o hb e =>
  (((Heap.SameBut.update ..).2 b hb).trans ((Heap.SameBut.update ..).2 b hb)).trans e
 have hI:((s.heap.push { cls:=.type "list",data:=.seq ([]:List Value).toArray }).push { cls:=.type "dict_keyiterator",data:=.fields #[.ref d,.int 0 0,.int es.size 0,.int ep 0] }).get? (s.heap.push { cls:=.type "list",data:=.seq ([]:List Value).toArray }).objs.size=some { cls:=.type "dict_keyiterator",data:=.fields #[.ref d,.int 0 0,.int es.size 0,.int ep 0] }:=Heap.get?_push_size _ rfl
 have neI:(s.heap.push { cls:=.type "list",data:=.seq ([]:List Value).toArray }).objs.size≠s.heap.objs.size:=by rw [<- I2];omega
 have old:∀ b o,s.heap.get? b=some o->((s.heap.push { cls:=.type "list",data:=.seq ([]:List Value).toArray }).push { cls:=.type "dict_keyiterator",data:=.fields #[.ref d,.int 0 0,.int es.size 0,.int ep 0] }).get? b=some o:=fun b o e=>Heap.get?_push_of_some _ (Heap.get?_push_of_some _ e)
 generalize ((((s.heap.push { cls:=.type "list",data:=.seq ([]:List Value).toArray }).push { cls:=.type "dict_keyiterator",data:=.fields #[.ref d,.int 0 0,.int es.size 0,.int ep 0] }).update s.heap.objs.size (Obj.mapSeq fun x=>x.push Value.none)).update s.heap.objs.size (Obj.mapSeq fun x=>x.pop))=h5 at hS2 up ⊢
 have st:h5.IsKeyIter (s.heap.push { cls:=.type "list",data:=.seq ([]:List Value).toArray }).objs.size d 0 es.size ep:=⟨_,up _ _ neI hI,rfl,rfl⟩
 have da:DEs h5 d es ep:=hm2.at fun o e=>up d o (Ne.symm hSd) e
 generalize hIa:(s.heap.push { cls:=.type "list",data:=.seq ([]:List Value).toArray }).objs.size=Ia at st neI hI ⊢
 have ia:Ia=s.heap.objs.size+1:=by rw [<- hIa];exact I2.symm
 have ne:d≠Ia:=by rw [ia];exact Nat.ne_of_lt (Nat.lt_succ_of_lt dl)
 have nS:s.heap.objs.size∉[Ia,d]:=fun h=>by
  rcases List.mem_cons.mp h with c|c
  ·exact neI c.symm
  ·exact hSd (List.mem_singleton.mp c)
 have W:=(ztP (prog:=prog) (w:=w) (A:=A.in1) hh Ia d ne es ep).toS
 refine wpAny_pure ⟨plainId_quiet F.plain_extend_loop _,codeAny_extend_loopS W (by rw [sizeLine_eq];omega) s.heap.objs.size nS _ es.size 0 _ _ _ rfl (Nat.zero_le _) ⟨st,da⟩ hS2 (ItemsOf.nil _) fun s' acc' c' mv hS' hacc=>?_⟩
 show wpAny _ A (load s.heap.objs.size >>= _) _ _ s'
 refine wpAny_bind (wpAny_load hS' ?_)
 refine wpAny_pure (hQ s' acc' (fun b o e=>?_) mv.gens mv.drawn mv.os (Nat.le_of_lt (Heap.lt_size hS')) hacc)
 have lt:=Heap.lt_size e
 have b1:b≠s.heap.objs.size:=Nat.ne_of_lt lt
 have b2:b≠Ia:=by rw [ia];exact Nat.ne_of_lt (Nat.lt_succ_of_lt lt)
 refine mv.heap b o (fun h=>?_) (up b o b1 (old b o e))
 rcases List.mem_cons.mp h with c|c
 ·exact b1 c
 ·exact b2 (List.mem_singleton.mp c)
end
end PySem
namespace L2
open PySem PySem.Spec PyProof.Rows PySem.W
section
def Cx.in1(X:Cx):Cx:={ X with A:=X.A.in1 }
section
variable {X:Cx}{pins:List (Addr×Obj)}{σ:L2.St}{H:Hp}{s:Shared}
theorem Cx.Ok.in1(o:X.Ok):X.in1.Ok:=⟨o.mod,o.kind,o.glob,o.blt,o.above,o.inj,o.has,o.cab,o.hd,o.frames,o.stk,o.exf,o.bs,o.bsz,o.noex,o.exfs,o.zm2,o.frf,o.tree,o.sk⟩
theorem Cx.Ok.zvT(o:X.in1.Ok):X.Ok:=⟨o.mod,o.kind,o.glob,o.blt,o.above,o.inj,o.has,o.cab,o.hd,o.frames,o.stk,o.exf,o.bs,o.bsz,o.noex,o.exfs,o.zm2,o.frf,o.tree,o.sk⟩
theorem Inv.in1(I:Inv X pins σ H s):Inv X.in1 pins σ H s:=⟨I.ok.in1,I.os,I.bare,I.base,I.loc,I.cell,I.free,I.freeC,I.pin,I.hok,I.len⟩
theorem Inv.zvT(I:Inv X.in1 pins σ H s):Inv X pins σ H s:=⟨I.ok.zvT,I.os,I.bare,I.base,I.loc,I.cell,I.free,I.freeC,I.pin,I.hok,I.len⟩
end
end
section
theorem zrJ:∀ a b c:List Int,HT.lexLt b a=false->HT.lexLt c b=false->HT.lexLt c a=false
 | [],_,[],_,_=>rfl
 | [],[],_::_,_,_=>rfl
 | [],_::_,_::_,_,_=>rfl
 | _::_,[],_,h,_=>by cases h
 | _::_,_::_,[],_,h=>by cases h
 | x::xs,y::ys,z::zs,h1,h2=>by
  simp only [HT.lexLt] at h1 h2 ⊢
  by_cases c1:y=x
  ·subst c1
   rw [if_pos rfl] at h1
   by_cases c2:z=y
   ·subst c2;rw [if_pos rfl] at h2 ⊢;exact zrJ xs ys zs h1 h2
   ·rw [if_neg c2] at h2 ⊢;exact h2
  ·rw [if_neg c1] at h1
   have h1':=of_decide_eq_false h1
   by_cases c2:z=y
   ·subst c2;rw [if_neg c1];exact h1
   ·rw [if_neg c2] at h2
    have h2':=of_decide_eq_false h2
    rw [if_neg (by omega)]
    exact decide_eq_false (by omega)
theorem zma:∀ a b:List Int,HT.lexLt a b=true->HT.lexLt b a=false
 | [],[],h=>by cases h
 | [],_::_,_=>rfl
 | _::_,[],h=>by cases h
 | x::xs,y::ys,h=>by
  simp only [HT.lexLt] at h ⊢
  by_cases c:x=y
  ·subst c;rw [if_pos rfl] at h ⊢;exact zma xs ys h
  ·rw [if_neg c] at h
   have h':=of_decide_eq_true h
   rw [if_neg (by omega)]
   exact decide_eq_false (by omega)
abbrev WK:=Int×List Int
def ltK(p q:WK):Bool:=if p.1=q.1 then HT.lexLt p.2 q.2 else decide (p.1<q.1)
theorem zow(a b c:WK)(h1:ltK b a=false)(h2:ltK c b=false):ltK c a=false:=by
 unfold ltK at h1 h2 ⊢
 by_cases c1:b.1=a.1
 ·rw [if_pos c1] at h1
  by_cases c2:c.1=b.1
  ·rw [if_pos c2] at h2;rw [if_pos (c2.trans c1)];exact zrJ _ _ _ h1 h2
  ·rw [if_neg c2] at h2;rw [if_neg (by rw [<- c1];exact c2),<- c1];exact h2
 ·rw [if_neg c1] at h1
  have h1':=of_decide_eq_false h1
  by_cases c2:c.1=b.1
  ·rw [c2,if_neg c1];exact h1
  ·rw [if_neg c2] at h2
   have h2':=of_decide_eq_false h2
   rw [if_neg (by omega)]
   exact decide_eq_false (by omega)
theorem zhO(a b:WK)(h:ltK a b=true):ltK b a=false:=by
 unfold ltK at h ⊢
 by_cases c:a.1=b.1
 ·rw [if_pos c] at h;rw [if_pos c.symm];exact zma _ _ h
 ·rw [if_neg c] at h
  have h':=of_decide_eq_true h
  rw [if_neg (by omega)]
  exact decide_eq_false (by omega)
def ltP(kd:List WK)(i j:Nat):Bool:=ltK (kd.getD i (0,[])) (kd.getD j (0,[]))
theorem zxv(kd:List WK):Ord (ltP kd):=⟨fun _ _ _ h1 h2=>zow _ _ _ h1 h2,fun _ _ h=>zhO _ _ h⟩
def zeH(H:Hp)(k:WK)(v:V):Prop:=∃ b c,v=.ref b/\TAt H b [.int k.1,.ref c]/\TAt H c (k.2.map V.int)
def zia(H:Hp):List WK->List V->Prop
 | [],vs=>vs=[]
 | k::r,vs=>∃ v t,vs=v::t/\zeH H k v/\zia H r t
theorem TAt.same{H H':Hp}{b:Addr}{xs:List V}(s:zaB H H')(h:TAt H b xs):TAt H' b xs:=by
 rcases h with h|⟨o,h⟩
 ·exact .inl (s _ _ h)
 ·exact .inr ⟨o,s _ _ h⟩
theorem zeH.same{H H':Hp}{k:WK}{v:V}(s:zaB H H')(h:zeH H k v):zeH H' k v:=by
 obtain⟨b,c,e,h1,h2⟩:=h
 exact⟨b,c,e,h1.same s,h2.same s⟩
theorem zia.same{H H':Hp}(s:zaB H H'):∀{ks:List WK} {vs:List V},zia H ks vs->zia H' ks vs
 | [],vs,h=>h
 | k::r,vs,h=>by
  obtain⟨v,t,e,h1,h2⟩:=h
  exact⟨v,t,e,h1.same s,zia.same s h2⟩
theorem zia.snoc{H:Hp}{k:WK}{v:V}(h:zeH H k v):∀{ks:List WK} {vs:List V},zia H ks vs->zia H (ks++[k]) (vs++[v])
 | [],vs,e=>by
  have:vs=[]:=e
  subst this
  exact⟨v,[],rfl,h,rfl⟩
 | k0::r,vs,e=>by
  obtain⟨v0,t,rfl,h1,h2⟩:=e
  exact⟨v0,t++[v],rfl,h1,zia.snoc h h2⟩
theorem zia.len{H:Hp}:∀{ks:List WK} {vs:List V},zia H ks vs->vs.length=ks.length
 | [],vs,e=>by
  have:vs=[]:=e
  subst this;rfl
 | k0::r,vs,e=>by
  obtain⟨v0,t,rfl,h1,h2⟩:=e
  simp [zia.len h2]
theorem zia.get{H:Hp}:∀{ks:List WK} {vs:List V} {i:Nat} {v:V},zia H ks vs->vs[i]?=some v->zeH H (ks.getD i (0,[])) v
 | [],vs,i,v,e,h=>by
  have:vs=[]:=e
  subst this;simp at h
 | k0::r,vs,i,v,e,h=>by
  obtain⟨v0,t,rfl,h1,h2⟩:=e
  cases i with
  | zero=>simp at h;subst h;exact h1
  | succ i=>simpa using zia.get h2 (i:=i) (by simpa using h)
section
variable {X:Cx}{pins:List (Addr×Obj)}{σ:L2.St}{H:Hp}{s:Shared}
theorem zgF(I:Inv X pins σ H s){k:WK}{v:V}{u:Value}(h:zeH H k v)(r:RelV v u) :
  ∃ b o n0 c,∃ tk:Tok,u=.ref b/\s.heap.get? b=some o/\o.cls=.type "tuple"/\o.data=.seq #[.int k.1 tk,.ref c] n0/\TAt H c (k.2.map V.int):=by
 obtain⟨b,c,rfl,h1,h2⟩:=h
 cases r
 obtain⟨its,rv,⟨o,ho,hc,n,hd⟩,_⟩:=I.tuple (.inl h1)
 cases rv with
 | cons r1 rv =>
  cases rv with
  | cons r2 rv =>
   cases rv
   obtain⟨tk,rfl⟩:=r1
   cases r2
   exact⟨b,o,n,c,tk,rfl,ho,hc,hd,h2⟩
theorem ziN(I:Inv X pins σ H s){c:Addr}{w:List Int}(h:TAt H c (w.map V.int)):∃ its:Array Value,IsTup s.heap c its/\IntsAre its.toList w:=by
 obtain⟨its,rv,p,_⟩:=I.tuple (.inl h)
 exact⟨its.toArray,p,by simpa using intsAre_of rv⟩
theorem map_inl(w:List Int):(w.map (Sum.inl (β:=Str))).map kV=w.map V.int:=by simp [kV]
theorem zu3(hu:X.A.units+1<cLine)(I:Inv X pins σ H s){k k':WK}{v v':V}{u u':Value}{C:Bool->Shared->Prop}{E:Value->Shared->Prop}(h:zeH H k v)(h':zeH H k' v')(r:RelV v u)(r':RelV v' u')
  (q:C (ltK k k') s):wpAny (model X.prog X.w) X.A (keyLt' (tuples' true) u u') C E s:=by
 obtain⟨b,o,n0,c,tk,rfl,ho,hc,hd,hw⟩:=zgF I h r
 obtain⟨b',o',n0',c',tk',rfl,ho',hc',hd',hw'⟩:=zgF I h' r'
 refine kat_lt ho hd ho' hd' ?_
 refine kat_cons (wpAny_eqBool_int ?_)
 unfold ltK at q
 by_cases e1:k.1=k'.1
 ·rw [if_pos e1] at q
  rw [show(k.1==k'.1)=true from by simpa using e1]
  refine kat_yes (kat_cons ?_)
  have i1:=zcW (ks:=k.2.map (Sum.inl (β:=Str))) I.hok (by rw [map_inl];exact hw)
  have i2:=zcW (ks:=k'.2.map (Sum.inl (β:=Str))) I.hok (by rw [map_inl];exact hw')
  refine wpAny_eqBool_tuple (by omega) i1 i2 ?_
  by_cases e2:k.2=k'.2
  ·rw [show decide (k.2.map (Sum.inl (β:=Str))=k'.2.map Sum.inl)=true from by rw [e2];simp]
   refine kat_yes (kat_nil ?_)
   rw [e2] at q
   have z:HT.lexLt k'.2 k'.2=false:=by
    cases hz:HT.lexLt k'.2 k'.2 with
    | false=>rfl
    | true=>exact hz.symm.trans (zma _ _ hz)
   rw [z] at q
   simpa using q
  ·rw [show decide (k.2.map (Sum.inl (β:=Str))=k'.2.map Sum.inl)=false from decide_eq_false fun z=>e2 (by
    have:=congrArg (List.map (Sum.elim id fun _=>(0:Int))) z
    simpa [List.map_map,Function.comp_def] using this)]
   refine kat_no ?_
   obtain⟨its,p1,j1⟩:=ziN I hw
   obtain⟨its',p2,j2⟩:=ziN I hw'
   exact kat_one _ _ (HT.zfk p1 p2 j1 j2 (by omega) q)
 ·rw [if_neg e1] at q
  rw [show(k.1==k'.1)=false from by simpa using e1]
  exact kat_no (oneLt_int q)
end
end
section
section
variable {X:Cx}{pins:List (Addr×Obj)}{σ:L2.St}{H:Hp}{s:Shared}{h':Heap}
theorem Inv.adopt{a:Addr}{o:HO}{t':Nat}(I:Inv X pins σ H s)(k:∀ b u,b≠a->s.heap.get? b=some u->h'.get? b=some u)(hf:zhn X pins H a)(new:zbM X.prog X.w (upd H a o) h' a o) :
  Inv X pins σ (upd H a o) { s with heap:=h',toks:=t' }:=by
 obtain⟨hn,hL,hfs,h1,h2,h3⟩:=hf
 have ne:∀ b u,H b=some u->b≠a:=fun b u e z=>by rw [z,hn] at e;cases e
 refine I.step (g':=s.gens) (d':=s.drawn) (ch:=[a]) (fun b hb=>?_) (fun b o _ _ hc e _=>k b o (fun z=>hc (by simp [z])) e) (fun b o _ _ hc e _=>⟨o.slots,k b o (fun z=>hc (by simp [z])) e⟩) (fun b o hc _ n=>?_)
  (fun b o hc e=>⟨o,k b o (fun z=>hc (by simp [z])) e⟩) (fun b xs e=>?_) (fun b o u e=>?_) (fun b ps e=>⟨#[],?_⟩) (fun m hm=>?_) (fun b u e=>?_) I.bare
 ·have e:b=a:=by simpa using hb
  subst e
  exact⟨h1,hL,h2,h3⟩
 ·rw [zan fun z=>hc (by simp [z])];exact n
 ·rw [zan (ne b _ e)];exact e
 ·rw [zan (ne b _ e)];exact e
 ·rw [zan (ne b _ e),e];simp
 ·obtain⟨o,es,ep,ho,r⟩:=hm
  exact⟨o,es,ep,k _ o (Ne.symm hL) ho,r⟩
 ·by_cases c:b=a
  ·subst c
   rw [zal] at e
   cases e
   exact new
  ·rw [zan c] at e
   refine(I.hok b u e).stay (fun d v hc q=>k d v ?_ q) (fun b' q=>by rw [zan (ne b' _ q)];exact q) fun b' xs q=>q.upd (fun _ r=>ne b' _ r) fun _ _ r=>ne b' _ r
   rcases hc with z|z
   ·rw [z];exact ne b u e
   ·exact ne d _ z
variable {f kS a:Addr}{oa:Obj}{H0:Hp}{E:Value->Shared->Prop}{Q:Shared->Prop}
def KCall(X:Cx)(σ:L2.St)(H0:Hp)(f:Addr)(x:V)(kk:WK):Prop:=∀(u:Value) (pins':List (Addr×Obj)) (H':Hp) (s':Shared),RelV x u->zaB H0 H'->Inv X pins' σ H' s' ->
 wpAny (model X.prog X.w) X.A (call (.ref f) [u]) (EP X pins' σ fun k H''=>zaB H' H''/\zeH H'' kk k) (fun _ _=>False) s'
def zib(X:Cx)(σ:L2.St)(H0:Hp)(f:Addr):List V->List WK->Prop
 | [],kd=>kd=[]
 | x::r,kd=>∃ k t,kd=k::t/\KCall X σ H0 f x k/\zib X σ H0 f r t
theorem zhG{H1 H2 H3:Hp}(a:zaB H1 H2)(b:zaB H2 H3):zaB H1 H3:=fun c o e=>b c o (a c o e)
theorem zmd{body:Value->PUnit->Sem (ForInStep PUnit)}
  (hb:∀(x:Value) (s:Shared) (C:Shared->Prop),wpAny (model X.prog X.w) X.A (call (.ref f) [x]) (fun k s'=>wpAny (model X.prog X.w) X.A (Builtin.List.listUpdate (.ref kS) (·.push k)) (fun _ s''=>C s'') E s') (fun _ _=>False) s ->
   wpAny (model X.prog X.w) X.A (body x ⟨⟩) (fun r s''=>r=.yield ⟨⟩/\C s'') E s) :
  ∀(us:List Value) (xs:List V) (kd:List WK) (done:List Value) (kvs:List V) (dk:List WK) (e:Nat) (H:Hp) (s:Shared),Vals xs us->done.length+us.length<64->Inv X (pins++[(a,oa)]) σ H s->zaB H0 H ->
   zhn X (pins++[(a,oa)]) H kS->s.heap.get? kS=some (seqObj "list" done.toArray e)->Vals kvs done->zia H dk kvs->zib X σ H0 f xs kd ->
   (∀ H' s' done' kvs' e',Inv X (pins++[(a,oa)]) σ H' s'->zaB H0 H'->zhn X (pins++[(a,oa)]) H' kS->s'.heap.get? kS=some (seqObj "list" (List.toArray done') e')->Vals kvs' done'->zia H' (dk++kd) kvs'->Q s') ->
   wpAny (model X.prog X.w) X.A (forIn us PUnit.unit body) (fun _ s'=>Q s') E s
 | [],xs,kd,done,kvs,dk,e,H,s,rv,hl,I,sm,fp,hk,rk,ks,kc,fin=>by
  rw [List.forIn_nil]
  cases rv
  have:kd=[]:=kc
  subst this
  refine wpAny_pure (fin H s done kvs e I sm fp hk rk ?_)
  rw [List.append_nil];exact ks
 | u::us,xs,kd,done,kvs,dk,e,H,s,rv,hl,I,sm,fp,hk,rk,ks,kc,fin=>by
  rw [List.forIn_cons]
  cases rv with
  | @cons x _ xr _ rx rv =>
   obtain⟨k,t,rfl,c1,kc⟩:=kc
   rw [List.length_cons] at hl
   have I2:Inv X ((pins++[(a,oa)])++[(kS,seqObj "list" done.toArray e)]) σ H s:=I.ziC fun p hp=>by
    rcases List.mem_append.mp hp with z|z
    ·exact I.pin p (List.mem_append_right _ z)
    ·have e:p=(kS,seqObj "list" done.toArray e):=by simpa using z
     subst e
     exact⟨hk,fp.1,fp.2.1,fp.2.2.1,fun v z=>nomatch z⟩
   refine wpAny_bind (wpAny_mono (hb u s (fun s2=>∃ H2 k2 v2 e2,Inv X (pins++[(a,oa)]) σ H2 s2/\zaB H H2/\zhn X (pins++[(a,oa)]) H2 kS/\s2.heap.get? kS=some (seqObj "list" (done++[k2]).toArray e2)/\RelV v2 k2/\zeH H2 k v2) ?_) (fun r s2 ⟨er,H2,k2,v2,e2,I5,sm2,fp2,hk2,rk2,ka⟩=>?_) fun _ _ z=>z)
   ·refine wpAny_mono (c1 u _ H s rx sm I2) (fun k2 s3 ⟨v2,H3,I3,r3,sm3,ka⟩=>?_) fun _ _ z=>z
    obtain⟨p1,p2,_⟩:=I3.pin (kS,seqObj "list" done.toArray e) (List.mem_append_right _ (List.mem_append_right _ (by simp)))
    have hlen:done.toArray.size<64:=by rw [List.size_toArray];omega
    have ea:(done.toArray).push k2=(done++[k2]).toArray:=by simp
    refine listUpdate_at p1 rfl ?_ (by rw [sizeLine_eq];omega) (by rw [Array.size_push,sizeLine_eq];omega)
    have I4:=I3.zcw
    refine⟨H3,k2,v2,(if((done.toArray).push k2).size==done.toArray.size then e else e+1),I4.turned (t':=s3.toks) (fun b o hb e=>((Heap.SameBut.update ..).2 b hb).trans e) p2 fp.2.1 fp.2.2.2.1 fp.2.2.2.2.1 fp.2.2.2.2.2,sm3,⟨p2,fp.2⟩,?_,r3,ka⟩
    rw [<- ea]
    exact get?_update_seq p1 (·.push k2)
   ·subst er
    show wpAny _ _ (forIn us PUnit.unit body) _ _ s2
    refine zmd hb us xr t (done++[k2]) (kvs++[v2]) (dk++[k]) e2 H2 s2 rv (by rw [List.length_append,List.length_singleton];omega) I5 (zhG sm sm2) fp2 hk2 (rk.append (.cons rk2 .nil)) (zia.snoc ka (ks.same sm2)) kc fun H' s' d' kv' e' a1 a2 a3 a4 a5 a6=>fin H' s' d' kv' e' a1 a2 a3 a4 a5 ?_
    rw [List.append_assoc] at a6
    exact a6
theorem zlB:∀{xs:List V} {us:List Value} (p:List Nat),Vals xs us->(∀ i∈p,i<us.length)->Vals (p.map fun i=>xs.getD i .non) (p.map fun i=>us.getD i Value.none)
 | xs,us,[],_,_=>.nil
 | xs,us,i::p,r,h=>by
  refine .cons ?_ (zlB p r fun j hj=>h j (List.mem_cons_of_mem _ hj))
  have hi:=h i (List.mem_cons_self ..)
  have hl:=r.length
  obtain⟨w,ew,rw'⟩:=r.get (i:=i) (x:=xs[i]) (List.getElem?_eq_getElem (by omega))
  have e1:xs.getD i .non=xs[i]:=by simp [List.getD_eq_getElem?_getD,List.getElem?_eq_getElem (show i<xs.length by omega)]
  have e2:us.getD i Value.none=w:=by rw [List.getD_eq_getElem?_getD,ew];rfl
  show RelV (xs.getD i .non) (us.getD i Value.none)
  rw [e1,e2]
  exact rw'
theorem zvI(n:Nat):Arr n (List.toArray (List.range n)):=⟨by simp,Array.Perm.refl _⟩
theorem znE{us:List Value}{xs:List V}{kd:List WK}{n0:Nat}{P:PySem.Fin->Shared->Prop}(hu:X.A.units+1<cLine)(I:Inv X pins σ H s)(ho:s.heap.get? a=some (seqObj "list" us.toArray n0)) (hf:zhn X pins H a) (rv:Vals xs us) (hl:us.length<64)
  (hc:zib X σ H f xs kd)
  (hQ:∀(p:Array Nat) (H':Hp) (s':Shared),Arr us.length p->Up (ltP kd) p us.length->zaB H H'->H' a=none->Inv X pins σ (upd H' a (.lst (p.toList.map fun i=>xs.getD i .non))) s'->P (.done (.ret .none)) s') :
  wpAny (model X.prog X.w) X.A (ksk_tree a (.ref f) false) P E s:=by
 have hk:∀{xs:List V} {kd:List WK},zib X σ H f xs kd->kd.length=xs.length:=by
  intro xs
  induction xs with
  | nil=>intro kd h;have:kd=[]:=h;subst this;rfl
  | cons x r ih=>intro kd h;obtain⟨k,t,rfl,_,h2⟩:=h;simp [ih h2]
 have hkl:=hk hc
 have hxl:=rv.length
 have s1:=Heap.SameBut.update s.heap a (Obj.mapSeq fun _=>(#[]:Array Value))
 obtain⟨e1,ho1⟩:∃ e1,(s.heap.update a (Obj.mapSeq fun _=>(#[]:Array Value))).get? a=some (seqObj "list" #[] e1):=⟨_,get?_update_seq ho fun _=>#[]⟩
 unfold ksk_tree
 refine wpAny_bind (listItems_at ho rfl ?_)
 refine wpAny_bind (listUpdate_at ho rfl ?_ (by rw [List.size_toArray,sizeLine_eq];omega) (Nat.zero_le _))
 refine wpAny_bind (seqEpoch_at ho1 rfl ?_)
 refine wpAny_bind (wpAny_newTuple ?_ (by show us.length<=_;rw [sizeLine_eq];omega))
 refine wpAny_bind (wpAny_newList ?_ (Nat.zero_le _))
 refine wpAny_holding ?_
 have I1:Inv X pins σ H { s with heap:=s.heap.update a (Obj.mapSeq fun _=>(#[]:Array Value)) }:=I.turned (t':=s.toks) (fun b o hb e=>(s1.2 b hb).trans e) hf.1 hf.2.1 hf.2.2.2.1 hf.2.2.2.2.1 hf.2.2.2.2.2
 have k2:∀ b u,(s.heap.update a (Obj.mapSeq fun _=>(#[]:Array Value))).get? b=some u->(((s.heap.update a (Obj.mapSeq fun _=>(#[]:Array Value))).push (seqObj "tuple" us.toArray 0)).push (seqObj "list" #[] 0)).get? b=some u:=fun b u e=>Heap.get?_push_of_some _ (Heap.get?_push_of_some _ e)
 have I2:Inv X pins σ H { s with heap:=((s.heap.update a (Obj.mapSeq fun _=>(#[]:Array Value))).push (seqObj "tuple" us.toArray 0)).push (seqObj "list" #[] 0) }:=I1.kept (t':=s.toks) k2
 have ho2:=k2 a _ ho1
 have hkS:(((s.heap.update a (Obj.mapSeq fun _=>(#[]:Array Value))).push (seqObj "tuple" us.toArray 0)).push (seqObj "list" #[] 0)).get? ((s.heap.update a (Obj.mapSeq fun _=>(#[]:Array Value))).push (seqObj "tuple" us.toArray 0)).objs.size=some (seqObj "list" ([]:List Value).toArray 0):=Heap.get?_push_size _ rfl
 have hge:s.heap.objs.size<=((s.heap.update a (Obj.mapSeq fun _=>(#[]:Array Value))).push (seqObj "tuple" us.toArray 0)).objs.size:=by rw [size_push',Heap.size_update];omega
 have I3:Inv X (pins++[(a,seqObj "list" #[] e1)]) σ H { s with heap:=((s.heap.update a (Obj.mapSeq fun _=>(#[]:Array Value))).push (seqObj "tuple" us.toArray 0)).push (seqObj "list" #[] 0) }:=I2.ziC fun p hp=>by
  rcases List.mem_append.mp hp with z|z
  ·exact I2.pin p (List.mem_append_right _ z)
  ·have e:p=(a,seqObj "list" #[] e1):=by simpa using z
   subst e
   exact⟨ho2,hf.1,hf.2.1,hf.2.2.1,fun v z=>nomatch z⟩
 have fkS:zhn X (pins++[(a,seqObj "list" #[] e1)]) H ((s.heap.update a (Obj.mapSeq fun _=>(#[]:Array Value))).push (seqObj "tuple" us.toArray 0)).objs.size:=by
  obtain⟨f0,f1,f2,f3,f4,f5⟩:=I.zpO hge (I.hok.fresh hge)
  refine⟨f0,f1,f2,f3,f4,fun p hp=>?_⟩
  rw [<- List.append_assoc] at hp
  rcases List.mem_append.mp hp with z|z
  ·exact f5 p z
  ·have e:p=(a,seqObj "list" #[] e1):=by simpa using z
   subst e
   exact Nat.ne_of_lt (Nat.lt_of_lt_of_le (Heap.lt_size ho) hge)
 generalize hks:((s.heap.update a (Obj.mapSeq fun _=>(#[]:Array Value))).push (seqObj "tuple" us.toArray 0)).objs.size=kS at hkS fkS ⊢
 have nka:kS≠a:=fun z=>fkS.2.2.2.2.2 (a,seqObj "list" #[] e1) (List.mem_append_right _ (List.mem_append_right _ (by simp))) z.symm
 clear hge hks k2 I2 I1
 unfold ksk_rest
 refine wpAny_bind (wpAny_rule ?_)
 first
  | rw [List.forIn_toArray]
  | (rw [<- Array.forIn_toList];simp only [List.toList_toArray])
  | rw [<- Array.forIn_toList]
 refine wpAny_bind (wpAny_mono (zmd (E:=E) (H0:=H) (a:=a) (oa:=seqObj "list" #[] e1) (kS:=kS) (f:=f) (Q:=fun s'=>∃ H' done kvs e',Inv X (pins++[(a,seqObj "list" #[] e1)]) σ H' s'/\zaB H H'/\zhn X (pins++[(a,seqObj "list" #[] e1)]) H' kS/\s'.heap.get? kS=some (seqObj "list" (List.toArray done) e')/\Vals kvs done/\zia H' kd kvs)
  (fun x s' C hx=>?_) us xs kd [] [] [] 0 H _ rv (by simpa using hl) I3 (zaB.refl _) fkS hkS .nil rfl hc fun H' s' d' kv' e' a1 a2 a3 a4 a5 a6=>⟨H',d',kv',e',a1,a2,a3,a4,a5,a6⟩) (fun _ s' hd=>?_) fun _ _ z=>z)
 ·refine wpAny_bind (wpAny_attempt (wpAny_mono hx (fun k s'' hk=>?_) fun _ _ hF=>hF.elim))
  try dsimp only
  exact wpAny_bind (wpAny_mono hk (fun _ s3 h3=>wpAny_pure ⟨rfl,h3⟩) fun _ _ z=>z)
 ·obtain⟨H',done,kvs,e',I4,sm,fk,hk4,rk,ks⟩:=hd
  try dsimp only
  refine wpAny_bind (listItems_at hk4 rfl ?_)
  have hdl:done.length=us.length:=by rw [<- rk.length,ks.len,hkl,hxl]
  obtain⟨pa1,pa2,_⟩:=I4.pin (a,seqObj "list" #[] e1) (List.mem_append_right _ (List.mem_append_right _ (by simp)))
  have tail:∀(st:SortSt) (p:Array Nat),Arr us.length p->Up (ltP kd) p us.length->(arrOf st).map (·.2)=List.toArray (p.toList.map fun i=>us.getD i Value.none)->failedOf st=none ->
    wpAny (model X.prog X.w) X.A (ksk_tail a false e1 (.ref kS) st) P E s':=fun st p ar up har hfl=>by
   have hps:p.size=us.length:=ar.sz
   have hout:(List.toArray (p.toList.map fun i=>us.getD i Value.none)).size=us.length:=by rw [List.size_toArray,List.length_map,Array.length_toList,hps]
   have t1:=Heap.SameBut.update s'.heap kS (Obj.mapSeq fun _=>(#[]:Array Value))
   have na1:(s'.heap.update kS (Obj.mapSeq fun _=>(#[]:Array Value))).get? a=some (seqObj "list" #[] e1):=(t1.2 a nka.symm).trans pa1
   have t2:=Heap.SameBut.update (s'.heap.update kS (Obj.mapSeq fun _=>(#[]:Array Value))) a (Obj.mapSeq fun _=>List.toArray (p.toList.map fun i=>us.getD i Value.none))
   obtain⟨c2,hc2⟩:∃ c2,((s'.heap.update kS (Obj.mapSeq fun _=>(#[]:Array Value))).update a (Obj.mapSeq fun _=>List.toArray (p.toList.map fun i=>us.getD i Value.none))).get? a=some (seqObj "list" (List.toArray (p.toList.map fun i=>us.getD i Value.none)) c2) :=
    ⟨_,get?_update_seq na1 fun _=>List.toArray (p.toList.map fun i=>us.getD i Value.none)⟩
   unfold ksk_tail
   try dsimp only
   rw [har]
   refine wpAny_bind (listUpdate_at hk4 rfl ?_ (by rw [List.size_toArray,sizeLine_eq];omega) (Nat.zero_le _))
   refine wpAny_bind (wpAny_letGo ?_)
   refine wpAny_bind (seqEpoch_at na1 rfl ?_)
   refine wpAny_bind (listUpdate_at na1 rfl ?_ (Nat.zero_le _) (by simp only [Bool.false_eq_true,if_false];rw [hout,sizeLine_eq];omega))
   rw [hfl]
   simp only [bne_self_eq_false,Bool.false_eq_true,if_false]
   have I5:=I4.turned (t':=s'.toks) (fun b o hb e=>(t1.2 b hb).trans e) fk.1 fk.2.1 fk.2.2.2.1 fk.2.2.2.2.1 fk.2.2.2.2.2
   have I6:Inv X pins σ H' { s' with heap:=s'.heap.update kS (Obj.mapSeq fun _=>(#[]:Array Value)) }:=I5.zcw
   refine wpAny_pure (hQ p H' _ ar up sm pa2 (I6.adopt (t':=s'.toks) (fun b u hb e=>(t2.2 b hb).trans e) ⟨pa2,hf.2⟩ ?_))
   have mem:∀ i∈p.toList,i<us.length:=fun i hi=>by
    have:=(Array.perm_iff_toList_perm.mp ar.pm).mem_iff.mp hi
    simpa using this
   exact⟨by rw [List.length_map,Array.length_toList,hps,sizeLine_eq];omega,p.toList.map fun i=>us.getD i Value.none,c2,zlB p.toList rv mem,hc2⟩
  unfold ksk_end
  try dsimp only
  simp only [Bool.false_eq_true,if_false]
  by_cases h2:us.toArray.size<2
  ·rw [if_pos h2,if_pos h2]
   rw [List.size_toArray] at h2
   refine wpAny_bind (wpAny_pure ?_)
   rw [StateT.run_pure]
   refine wpAny_bind (wpAny_pure ?_)
   try dsimp only
   refine tail _ (List.toArray (List.range us.length)) (zvI _) (fun i j hij hj=>?_) ?_ rfl
   ·have:i=j:=by omega
    subst this
    exact(zxv kd).refl _
   ·show((done.toArray.zip us.toArray).map (·.2))=_
    apply Array.toList_inj.mp
    rw [Array.toList_map,ksk_zip]
    simp only [List.toList_toArray]
    rw [List.map_snd_zip (by omega)]
    apply List.ext_getElem (by simp)
    intro i h3 h4
    simp [List.getD_eq_getElem?_getD,List.getElem?_eq_getElem h3]
  ·rw [if_neg h2,if_neg h2]
   rw [List.size_toArray] at h2
   have tups:∀{ks:List WK} {kv:List V} {ds:List Value},zia H' ks kv->Vals kv ds->∃ fs:List Value,KatTups s'.heap ds fs/\fs.length=ds.length/\∀ v∈fs,∃ i t,v=Value.int i t:=by
    intro ks
    induction ks with
    | nil=>intro kv ds h r;have:kv=[]:=h;subst this;cases r;exact⟨[],.nil,rfl,fun v hv=>by simp at hv⟩
    | cons k r0 ih =>
     intro kv ds h r
     obtain⟨v,t,rfl,h1,h2⟩:=h
     cases r with
     | cons r1 r2 =>
      obtain⟨fs,t1,t2,t3⟩:=ih h2 r2
      obtain⟨b,o,n0,c,tk,rfl,g1,g2,g3,_⟩:=zgF I4 h1 r1
      refine⟨.int k.1 tk::fs,.cons g1 g2 g3 rfl t1,by simp [t2],fun v hv=>?_⟩
      rcases List.mem_cons.mp hv with rfl|hv
      ·exact⟨_,_,rfl⟩
      ·exact t3 v hv
   obtain⟨fs,kt,lfs,hfs⟩:=tups ks rk
   refine wpAny_bind (kat_kind (T:=.type "int") kt (by omega) (fun v hv=>by obtain⟨i,t,rfl⟩:=hfs v hv;exact Looks.of_pure rfl) (by decide) ?_)
   rw [show((Value.type "int" != Value.type "tuple"):Bool)=true from by decide]
   refine wpAny_bind (wpAny_mono (kat_run (E:=E) (vs:=us) (ks:=done) (κ:=tuples' true) (Q:=fun st' s2=>s2=s'/\∃ p:Array Nat,Arr us.length p/\Up (ltP kd) p us.length/\arrOf st'=p.map (kas_item (done.toArray.zip us.toArray))/\failedOf st'=none) hdl (by omega) hl
    (G:=fun p s2=>s2=s'/\Arr us.length p/\Up (ltP kd) p us.length) (fun p st' s2 a1 a2 a3 a4=>⟨a4.1,p,a4.2.1,a4.2.2,a2,a3⟩) ?_) ?_ fun _ _ z=>z)
   ·refine zsf (P:=fun s2=>s2=s') (zxv kd) (fun i j C s2 hi hj es hC=>?_) (by omega) rfl fun p s2 es ar up=>⟨es,ar,up⟩
    subst es
    have hget:∀ i,i<us.length->∃ v u,kvs[i]?=some v/\RelV v u/\done.getD i Value.none=u:=fun i hi=>by
     have hi':i<kvs.length:=by rw [rk.length];omega
     obtain⟨u,eu,ru⟩:=rk.get (List.getElem?_eq_getElem hi')
     exact⟨_,u,List.getElem?_eq_getElem hi',ru,by rw [List.getD_eq_getElem?_getD,eu];rfl⟩
    obtain⟨v,u,g1,g2,g3⟩:=hget i hi
    obtain⟨v',u',g1',g2',g3'⟩:=hget j hj
    show wpAny _ _ (keyLt' (tuples' true) (done.getD i Value.none) (done.getD j Value.none)) _ _ _
    rw [g3,g3']
    exact zu3 hu I4 (ks.get g1) (ks.get g1') g2 g2' (hC _ rfl)
   ·rintro⟨⟨⟩,st'⟩ s2 ⟨es,p,ar,up,har,hfl⟩
    have es':s2=s':=es
    subst es'
    try dsimp only
    exact tail st' p ar up (kat_snds hdl har) hfl
end
end
section
def KTs(H:Hp):List (List Key×V)->List V->Prop
 | [],xs=>xs=[]
 | kv::r,xs=>∃ b t,xs=.ref b::t/\TAt H b (kv.1.map kV)/\KTs H r t
def zpJ(H:Hp)(d:Addr)(xs:List V):Prop:=∃ kvs,Rd H d (.dT kvs)/\KTs H kvs xs
section
variable {X:Cx}{pins:List (Addr×Obj)}{σ:L2.St}{H:Hp}{s:Shared}{d f:Addr}
theorem zrL:∀{kvs:List (List Key×V)} {ys:List (List Key×Addr×Value)},KT H kvs ys->KTs H kvs (ys.map fun y=>V.ref y.2.1)
 | [],_,.nil=>rfl
 | kv::r,_,.cons h t=>⟨_,_,rfl,h.2.1,zrL t⟩
theorem zra{A:Around}{E:Value->Shared->Prop}{Q:List Value->Shared->Prop}(hh:A.handled=none)(I:Inv X pins σ H s)(rd:IsD H d)(hn:∀ xs,zpJ H d xs->xs.length<64)
  (hQ:∀ xs us s',zpJ H d xs->Vals xs us->Inv X pins σ H s'->Q us s'):wpAny (model X.prog X.w) A (collect (.ref d)) Q E s:=by
 have fin:∀(s':Shared),(∀ b o,s.heap.get? b=some o->s'.heap.get? b=some o)->s'.gens=s.gens->s'.drawn=s.drawn->s'.os=s.os->Inv X pins σ H s':=fun s' k g dr os=>by
  obtain⟨h,g',dr',tk,os'⟩:=s'
  simp only at g dr os
  subst g;subst dr;subst os
  exact I.kept (t':=tk) k
 obtain⟨kvs,rd⟩:=rd
 obtain⟨z,sy,ys,kt,o,es,ep,e',r1,r2,r3,r4⟩:=zkd I.hok rd
 have ks:=zrL kt
 have lk:=hn _ ⟨kvs,rd,ks⟩
 have ly:kvs.length=ys.length:=Paired.length kt
 have hsz:es.size=ys.length:=size_of_entries r3
 rw [List.length_map] at lk
 refine zq9 hh sy ⟨o,e',r1,r2⟩ (by omega) fun s' acc hk hg hd ho hs hacc=>hQ _ _ s' ⟨kvs,rd,ks⟩ ?_ (fin s' hk hg hd ho)
 have la:acc.toList.length=es.size:=by rw [Array.length_toList];exact hacc.1
 refine zns (by rw [List.length_map];omega) fun j x v ex ev=>?_
 rw [Array.getElem?_toList] at ev
 obtain⟨hj,rfl⟩:=hacc.2 j v ev
 have lj:j<ys.length:=by omega
 rw [List.getElem?_map,List.getElem?_eq_getElem lj] at ex
 cases ex
 have:=entry_at r3 j
 rw [List.getElem?_eq_getElem lj,Array.getElem?_eq_getElem hj] at this
 simp only [Option.map_some,Option.some.injEq] at this
 rw [this]
 rfl
theorem zkj{Q:VK}{E:Value->Shared->Prop}(hu:X.A.units+3<cLine)(hc:X.calm=true)(I:Inv X pins σ H s)(rd:IsD H d)(hn:∀ xs,zpJ H d xs->xs.length<64)
  (h:∀ xs,zpJ H d xs->∃ kd,zib X.in1.in1 σ H f xs kd/\∀(p:Array Nat) (a:Addr) (H':Hp),Arr xs.length p->Up (ltP kd) p xs.length->zaB H H'->H' a=none->Q (.ref a) (upd H' a (.lst (p.toList.map fun i=>xs.getD i .non)))) :
  wpAny (model X.prog X.w) X.A (call (.builtin "sorted") [.ref d] [(Str.ofString "key",.ref f)]) (EP X pins σ Q) E s:=by
 refine call_function_entry_kw kind_sorted plain_sorted entry_sorted (ksk_s1 _ _) ?_
 unfold Builtin.«sorted»
 refine wpAny_bind (m:=checkCount "sorted" 1 1 _) (wpAny_pure ?_)
 refine wpAny_bind (zra (show X.A.in1.handled=none from I.ok.hd hc) I rd hn fun xs us s1 dk rv I1=>?_)
 have hx:=hn xs dk
 have hxl:=rv.length
 obtain⟨kd,kc,hq⟩:=h xs dk
 refine wpAny_bind (wpAny_newList ?_ (by rw [sizeLine_eq];omega))
 have hoL:(s1.heap.push (seqObj "list" us.toArray 0)).get? s1.heap.objs.size=some (seqObj "list" us.toArray 0):=Heap.get?_push_size _ rfl
 have I2:Inv X pins σ H { s1 with heap:=s1.heap.push (seqObj "list" us.toArray 0) }:=I1.kept (t':=s1.toks) fun b u e=>Heap.get?_push_of_some _ e
 have fa:zhn X pins H s1.heap.objs.size:=I1.zpO (Nat.le_refl _) (I1.hok.fresh (Nat.le_refl _))
 refine wpAny_bind (wpAny_holding (wpAny_call_entry_kw slot_list_sort ⟨_,hoL,rfl⟩ entry_list_sort ?body (ksk_l1 _ _)))
 case body =>
  show wpAny (model X.prog X.w) X.in1.in1.A (Builtin.«list.sort» ⟨[.ref s1.heap.objs.size],[(Str.ofString "key",.ref f)]⟩) _ _ _
  rw [ksk_t1]
  refine znE (X:=X.in1.in1) (by show X.A.units+1+1+1<cLine;omega) I2.in1.in1 hoL fa rv (by omega) kc fun p H' s' ar up sm ha I3=>⟨_,rfl,?_⟩
  refine wpAny_pure ⟨_,rfl,.ref s1.heap.objs.size,_,I3.zvT.zvT,rfl,hq p _ H' (by rw [hxl];exact ar) (by rw [hxl];exact up) sm ha⟩
end
end
end L2
namespace FL
open PySem L2 PySem.Spec
open PyProof.Rows hiding St
variable [Cs]
theorem zhN(p q:WK):ltW p q=L2.ltK p q:=by
 unfold ltW L2.ltK
 rw [zge]
theorem zoB:∀ a b:List Int,HT.lexLt a b=false->HT.lexLt b a=false->a=b
 | [],[],_,_=>rfl
 | [],_::_,h,_=>by cases h
 | _::_,[],_,h=>by cases h
 | x::xs,y::ys,h1,h2=>by
  simp only [HT.lexLt] at h1 h2
  by_cases c:x=y
  ·subst c
   rw [if_pos rfl] at h1 h2
   rw [zoB xs ys h1 h2]
  ·rw [if_neg c] at h1
   rw [if_neg (Ne.symm c)] at h2
   have a1:=of_decide_eq_false h1
   have a2:=of_decide_eq_false h2
   omega
theorem zox(p q:WK)(h1:L2.ltK p q=false)(h2:L2.ltK q p=false):p=q:=by
 unfold L2.ltK at h1 h2
 by_cases c:p.1=q.1
 ·rw [if_pos c] at h1
  rw [if_pos c.symm] at h2
  exact Prod.ext c (zoB _ _ h1 h2)
 ·rw [if_neg c] at h1
  rw [if_neg (Ne.symm c)] at h2
  have a1:=of_decide_eq_false h1
  have a2:=of_decide_eq_false h2
  omega
def LeP(x y:WK×D):Prop:=L2.ltK y.1 x.1=false
theorem zqQ{x z:WK×D}{l:List (WK×D)}(h:z∈zoS x l):z=x\/z∈l:=by
 have:=(zgK x l).mem_iff.mp h
 simpa using this
theorem zgJ(x:WK×D):∀ l:List (WK×D),l.Pairwise LeP->(zoS x l).Pairwise LeP
 | [],_=>by simp [zoS]
 | y::r,h=>by
  unfold zoS
  rw [List.pairwise_cons] at h
  split
  ·rename_i c
   rw [zhN] at c
   rw [List.pairwise_cons]
   refine⟨fun z hz=>?_,zgJ x r h.2⟩
   rcases zqQ hz with rfl|hz
   ·exact zhO _ _ c
   ·exact h.1 z hz
  ·rename_i c
   rw [zhN] at c
   have c':L2.ltK y.1 x.1=false:=by simpa using c
   rw [List.pairwise_cons]
   refine⟨fun z hz=>?_,List.pairwise_cons.mpr h⟩
   rcases List.mem_cons.mp hz with rfl|hz
   ·exact c'
   ·exact zow _ _ _ c' (h.1 z hz)
theorem zeW:∀ l:List (WK×D),(zfK l).Pairwise LeP
 | []=>.nil
 | x::r=>zgJ x _ (zeW r)
theorem zjH{α:Type}{le:α->α->Prop}:∀{l1 l2:List α},l1.Perm l2->l1.Pairwise le->l2.Pairwise le->(∀ a∈l1,∀ b∈l1,le a b->le b a->a=b)->l1=l2
 | [],l2,h,_,_,_=>(List.nil_perm.mp h).symm
 | a::r1,[],h,_,_,_=>by have:=h.length_eq;simp at this
 | a::r1,b::r2,h,p1,p2,an=>by
  rw [List.pairwise_cons] at p1 p2
  have e:a=b:=by
   have ha:a∈b::r2:=h.mem_iff.mp (List.mem_cons_self ..)
   have hb:b∈a::r1:=h.mem_iff.mpr (List.mem_cons_self ..)
   rcases List.mem_cons.mp ha with e|ha'
   ·exact e
   rcases List.mem_cons.mp hb with e|hb'
   ·exact e.symm
   exact an a (List.mem_cons_self ..) b (List.mem_cons_of_mem _ hb') (p1.1 b hb') (p2.1 a ha')
  subst e
  rw [zjH ((List.perm_cons a).mp h) p1.2 p2.2 fun x hx y hy=>an x (List.mem_cons_of_mem _ hx) y (List.mem_cons_of_mem _ hy)]
theorem zgm:∀{ws:List WK} {ks:List D} {x y:WK×D},ws.Nodup->x∈ws.zip ks->y∈ws.zip ks->x.1=y.1->x=y
 | [],ks,x,y,_,h,_,_=>by simp at h
 | _::_,[],x,y,_,h,_,_=>by simp at h
 | w::ws,k::ks,x,y,nd,h1,h2,e=>by
  rw [List.nodup_cons] at nd
  rw [List.zip_cons_cons] at h1 h2
  rcases List.mem_cons.mp h1 with rfl|h1
  ·rcases List.mem_cons.mp h2 with rfl|h2
   ·rfl
   ·exact absurd (by rw [show w=y.1 from e];exact(List.of_mem_zip h2).1) nd.1
  ·rcases List.mem_cons.mp h2 with rfl|h2
   ·exact absurd (by rw [show w=x.1 from e.symm];exact(List.of_mem_zip h1).1) nd.1
   ·exact zgm nd.2 h1 h2 e
theorem znN(ws:List WK)(ks:List D)(h:ws.length=ks.length):(List.range ks.length).map (fun i=>(ws.getD i (0,[]),ks.getD i PyData.none))=ws.zip ks:=by
 apply List.ext_getElem
 ·simp [h]
 ·intro i h1 h2
  have hi:i<ks.length:=by simpa using h1
  have hi':i<ws.length:=by omega
  simp [List.getD_eq_getElem?_getD,List.getElem?_eq_getElem hi,List.getElem?_eq_getElem hi']
theorem znD{ws:List WK}{ks:List D}{p:Array Nat}(hl:ws.length=ks.length)(nd:ws.Nodup)(ar:Arr ks.length p)(up:Up (ltP ws) p ks.length):p.toList.map (fun i=>ks.getD i PyData.none)=(zfK (ws.zip ks)).map (·.2):=by
 have hp:(p.toList.map fun i=>(ws.getD i (0,[]),ks.getD i PyData.none)).Perm (ws.zip ks):=by
  have:=(Array.perm_iff_toList_perm.mp ar.pm).map fun i=>(ws.getD i (0,[]),ks.getD i PyData.none)
  rw [List.toList_toArray,znN ws ks hl] at this
  exact this
 have e:(p.toList.map fun i=>(ws.getD i (0,[]),ks.getD i PyData.none))=zfK (ws.zip ks):=by
  refine zjH (hp.trans (zgG _).symm) ?_ (zeW _) fun x hx y hy h1 h2=>?_
  ·rw [List.pairwise_iff_getElem]
   intro i j hi hj hij
   have hi':i<p.size:=by simpa using hi
   have hj':j<p.size:=by simpa using hj
   have:=up i j (Nat.le_of_lt hij) (by rw [<- ar.sz];exact hj')
   rw [show gp p i=p[i] by simp [gp,Array.getD,hi'],show gp p j=p[j] by simp [gp,Array.getD,hj']] at this
   simpa [LeP,ltP] using this
  ·exact zgm nd (hp.mem_iff.mp hx) (hp.mem_iff.mp hy) (zox _ _ h2 h1)
 rw [<- e,List.map_map]
 rfl
section
variable {K:W.Frag}{X:Cx}{H:Hp}
theorem zrM:∀{kvs:List (D×D)} {kk:List (List Key×V)} {xs:List V},zbB K H kvs kk->KTs H kk xs->zaf K H (kvs.map (·.1)) xs
 | [],kk,xs,h,t=>by
  simp only [zbB] at h
  subst h
  have:xs=[]:=t
  subst this
  simp [zaf]
 | (k,d)::r,kk,xs,h,t=>by
  simp only [zbB] at h
  obtain⟨q,v,t',rfl,rfl,f,h2⟩:=h
  obtain⟨b,u,rfl,tb,t2⟩:=t
  simp only [List.map_cons,zaf]
  exact⟨_,_,rfl,zo5 tb,zrM h2 t2⟩
theorem zi4{kvs:List (D×D)}{d:Addr}{xs:List V}(h:Fz K H (.dict kvs) (.ref d))(t:zpJ H d xs):zaf K H (kvs.map (·.1)) xs:=by
 simp only [Fz] at h
 obtain⟨a,o,e,h⟩:=h
 cases e
 obtain⟨kk,h1,h2⟩:=h
 obtain⟨kk',rd,t⟩:=t
 have:kk'=kk:=by
  rcases rd with z|⟨o',z⟩
  ·rw [h1] at z;cases z
  ·rw [h1] at z;cases z;rfl
 subst this
 exact zrM h2 t
theorem zvh{kvs:List (D×D)}{d:Addr}(h:Fz K H (.dict kvs) (.ref d)):IsD H d:=by
 simp only [Fz] at h
 obtain⟨a,o,e,h⟩:=h
 cases e
 obtain⟨kk,h1,h2⟩:=h
 exact⟨kk,.inr ⟨o,h1⟩⟩
theorem znp{kd:D}{w:WK}{v:V}(e:zpR kd=some w)(f:Fz K H kd v):zeH H w v:=by
 unfold zpR at e
 split at e
 ·rename_i n xs
  rw [Option.map_eq_some_iff] at e
  obtain⟨w0,e0,rfl⟩:=e
  simp only [Fz,zaf] at f
  obtain⟨b,vs,rfl,tb,v1,r1,rfl,rfl,v2,r2,rfl,⟨c,ws,rfl,tc,fw⟩,rfl⟩:=f
  obtain⟨rfl,_⟩:=zaf.ints fw e0
  exact⟨b,c,rfl,tb,tc⟩
 ·cases e
theorem zjT{p1:Str}{k:Nat}{f:Addr}{fd:FuncData}{G:List D->R D}{σ:L2.St}(hr:zce k X.A)(hb:Binds X.K fd [p1] [])(F:zie X.prog X.w X.K X.mg X.base (CXe X.prog X.w) k f fd [p1] (spP X.K 1 false G))(cst:zrm H) :
  ∀{ds:List D} {xs:List V} {ws:List WK},zaf X.K H ds xs->zgE G ds=.ok ws->zib X σ H f xs ws
 | [],xs,ws,h,e=>by
  simp only [zaf] at h
  subst h
  cases e
  rfl
 | d::ds,xs,ws,h,e=>by
  simp only [zaf] at h
  obtain⟨v,r,rfl,h1,h2⟩:=h
  obtain⟨kd,e1,e⟩:=zaj (show(G [d]).bind _=.ok ws from e)
  obtain⟨w,e2,e⟩:=zaj e
  obtain⟨ws',e3,e⟩:=zaj e
  cases e
  refine⟨w,ws',rfl,fun u pins' H' s' ru sm I=>?_,zjT hr hb F cst h2 e3⟩
  have hl:([u]++([]:List Value)).length=[p1].length:=rfl
  refine wpAny_call (codeAny_mono (F.run X.A X.stack s' H' ⟨[u],[]⟩ ([u]++[]) [v] (fun k H''=>zaB H' H''/\zeH H'' w k) (fun _ _ _=>False) hr I.env0 (hb s' [u] I.kIn hl) (.cons ru .nil) ?_) fun r s2 hq=>?_)
  ·refine⟨[d],rfl,cst.mono (Fzn.of sm),?_,kd,e1,fun k H'' sm2 fz=>⟨sm2,znp (zoh e2) fz⟩⟩
   simp only [zaf]
   exact⟨v,[],rfl,h1.mono (Fzn.of sm),rfl⟩
  ·cases r with
   | error ev =>
    obtain⟨_,_,_,_,_,_,_,_,_,_,_,_,_,_,_,z⟩:=(show CXe X.prog X.w X.stack H' s' (fun _ _ _=>False) ev s2 from hq)
    exact z.elim
   | ok fl =>
    cases fl with
    | ret u=>exact I.after hq
    | next=>exact False.elim hq
    | brk=>exact False.elim hq
    | cont=>exact False.elim hq
theorem zaf.pick{ds:List D}{xs:List V}(h:zaf K H ds xs):∀(p:List Nat),(∀ i∈p,i<ds.length)->zaf K H (p.map fun i=>ds.getD i PyData.none) (p.map fun i=>xs.getD i .non)
 | [],_=>by simp [zaf]
 | i::p,hp=>by
  simp only [List.map_cons,zaf]
  have hi:=hp i (List.mem_cons_self ..)
  obtain⟨v,ev,fv⟩:=h.get (List.getElem?_eq_getElem hi)
  refine⟨_,_,rfl,?_,zaf.pick h p fun j hj=>hp j (List.mem_cons_of_mem _ hj)⟩
  rw [List.getD_eq_getElem?_getD,List.getD_eq_getElem?_getD,ev,List.getElem?_eq_getElem hi]
  exact fv
theorem zjD{x p1:Str}{k j:Nat}{G:List D->R D}{e:Expr}{f:EF}{p px kp pos:Pos}(c:Callee X.prog X.w X.K X.mg X.base x k [p1] (spP X.K 1 false G))(hr:zce j X.A)(hc:X.calm=true)(hgs:Gl X "sorted") (hms:X.mg "sorted"=none) (hgx:Gl X x) (he:PV K X e f) (hj:k+2<=j:=by decide)
  (hv:bootBuiltins "sorted"=some (.builtin "sorted"):=by decide +kernel) (hdx:(x==("__debug__":Str))=false:=by decide) (hs:starEach [e] X.env=(false,eval e X.env)::starEach [] X.env:=by exact FL.se rfl)
  (hst:backTo pos (starEach [e] X.env)=(false,eval e X.env)::backTo pos (starEach [] X.env):=by rfl) (hpl:(backTo pos (starEach [e] X.env)).any (·.1)=false:=by exact FL.sp rfl) :
  PVN K X (.Call (.Name "sorted" p) [e] [⟨some "key",.Name x px,kp⟩] pos) (e1 (zeL G) f):=.mk fun hK=>by
 subst hK
 obtain⟨fa,fd,hm,hkp,hb,F⟩:=c
 intro pins s σ H Q I h
 obtain⟨ρ,rel,q⟩:=h
 have q0:(tA X.K (zaa f zah)) σ H fun vs H1=>∃ dd v ρ1,vs=[v]/\Rel X.K ρ1 σ H1/\Stp ρ ρ1 σ H H1/\Fz X.K H1 dd v/\Good X.K ρ1 σ H1 ((zeL G dd).bind fun d=>.ok (d,ρ1)) fun d ρ' H'=>∀ a,H a=none->zbh X.K H' a d->Q (.ref a) H':=by
  obtain⟨y,ey,q⟩:=q.bnd
  refine⟨ρ,rel,?_⟩
  show Good X.K ρ σ H ((f ρ).bind fun x=>(zah x.2).bind fun y=>.ok (x.1::y.1,y.2)) _
  rw [ey]
  intro H1 rel1 st1 vs fs
  simp only [zaf] at fs
  obtain⟨v,r,rfl,fv,rfl⟩:=fs
  exact⟨y.1,v,y.2,rfl,rel1,st1,fv,q.step st1⟩
 refine wpAny_Call_Name_kw (zgC I hgs hms hv ?_)
 refine callWith_kw (thn ((zd1 he zbH hs rfl) pos pins s σ H _ I q0) fun us s1 ⟨vs,H1,I1,r1,dd,v,ρ1,evs,rel1,st1,fv,q1⟩=>?_) hst hpl rfl rfl
 subst evs
 cases r1 with
 | cons ru rn =>
  cases rn
  refine kws_cons (zk4 I1 hgx hm (kws_nil ?_) hdx)
  obtain⟨dr,edr,q2⟩:=q1.zdP
  obtain⟨ks,e1,edr⟩:=zaj (show(zfm dd).bind _=.ok dr from edr)
  obtain⟨cl,edr⟩:=za1 edr
  obtain⟨ws,e2,edr⟩:=zaj edr
  obtain⟨cn,edr⟩:=za1 edr
  cases edr
  cases dd with
  | dict kvs =>
   cases e1
   have hd:∃ d,v=.ref d:=by
    simp only [Fz] at fv
    obtain⟨a,_,e,_⟩:=fv
    exact⟨a,e⟩
   obtain⟨d,rfl⟩:=hd
   cases ru
   have hlen:(kvs.map (·.1)).length<64:=ziM cl
   have hu:=hr.un
   have hu:X.A.units+3<cLine:=by omega
   have rr:zce k X.in1.in1.A:=((hr.mono hj:zce (k+1+1) X.A).in1).in1
   have wlen:∀{ds:List D} {ws:List WK},zgE G ds=.ok ws->ws.length=ds.length:=by
    intro ds
    induction ds with
    | nil=>intro ws h;cases h;rfl
    | cons d0 r0 ih =>
     intro ws h
     obtain⟨_,_,h⟩:=zaj (show(G [d0]).bind _=.ok ws from h)
     obtain⟨_,_,h⟩:=zaj h
     obtain⟨ws',e3,h⟩:=zaj h
     cases h
     simp [ih e3]
   have wl:=wlen e2
   refine zkj (f:=fa) hu hc I1 (zvh fv) (fun xs dk=>by rw [(zi4 fv dk).len];exact hlen) fun xs dk=>⟨ws,zjT (X:=X.in1.in1) rr hb F rel1.cst (zi4 fv dk) e2,fun pp a H' ar up sm ha=>?_⟩
   have fx:=zi4 fv dk
   rw [fx.len] at ar up
   have su:=znD wl (of_decide_eq_true cn) ar up
   have sm2:zaB H1 (upd H' a (.lst (pp.toList.map fun i=>xs.getD i .non))):=zhG sm (zaB.upd ha)
   refine q2.new rel1 sm2 a ?_ ?_
   ·have h1a:H1 a=none:=by
     cases e0:H1 a with
     | none=>rfl
     | some o=>rw [sm a o e0] at ha;cases ha
    exact st1.old rel1 h1a
   ·refine⟨_,zal,?_⟩
    rw [<- su]
    refine(fx.mono (Fzn.of sm2)).pick pp.toList fun i hi=>?_
    have:=(Array.perm_iff_toList_perm.mp ar.pm).mem_iff.mp hi
    simpa using this
  | _=>cases e1
end
end FL
namespace L2
open PySem PySem.Spec PyProof.Rows PySem.W
section
variable {X:Cx}{pins:List (Addr×Obj)}{σ:L2.St}{H:Hp}{s:Shared}{a:Addr}{y v:V}{u r:Value}{A:Around}{E:Value->Shared->Prop}
theorem zm6{H':Hp}{Q:Unit->Shared->Prop}(hu:A.units<cLine)(I:Inv X pins σ H s)(g:DP H a y v H')(ry:RelV y u)(rv:RelV v r)(h:∀ s',Inv X pins σ H' s'->Q () s') :
  wpAny (model X.prog X.w) A (dictSet a u r) Q E s:=by
 have base:∀{H:Hp} {s:Shared},Inv X pins σ H s->zv5 H a y v H'->(∀ s',Inv X pins σ H' s'->Q () s')->wpAny (model X.prog X.w) A (dictSet a u r) Q E s:=by
  intro H s I g h
  obtain⟨kvs,k,b,e,ey,eb,l,eH⟩:=g
  subst ey eH
  cases (show u=Value.ref b from ry)
  obtain⟨z,hd,xs,rel,dd⟩:=zpe I.hok e
  have hz:xs.length<=sizeLine:=by rw [<- Paired.length rel];exact z
  have hl:(putK kvs k v).length<=sizeLine:=by have:=zez kvs k v;omega
  refine wpAny_dictSet_heap (hsz:=hz) (knd:=tupleKind (zbI X.prog X.w)) hu (zcW I.hok eb) dd fun h' dd' hs=>h _ ?_
  obtain⟨q,es,ep,hq,h2,h3,h4,_,h5⟩:=dd'
  refine zgV I (by rw [e];exact True.intro) hs ⟨q,hq⟩ ⟨hl,hd,_,(rel.put k eb rv).keeps fun c ys ec=>?_,q,es,ep,hq,h2,h3,h4,h5⟩
  exact ec.upd (fun _ z=>zhs z e (fun z=>nomatch z)) fun _ _ z=>zhs z e (fun z=>nomatch z)
 exact base I g h
end
def zt0(tk tv:TE):TE:=fun σ H Q=>∀ p,H p=none->tk σ (upd H p (.dT [])) fun x H1=>tv σ H1 fun y H2=>∃ H3,DP H2 p x y H3/\Q (.ref p) H3
section
variable {X:Cx}{k v e:Expr}{tk tv te:TE}{pos p2:Pos}
theorem zqq(hu:X.A.units+1<cLine)(hk:PE X k tk)(hv:PE X v tv):PE X (.Dict [some k] [v] pos) (zt0 tk tv):=by
 intro pins s σ H Q I q
 have hn:=I.hok.fresh (Nat.le_refl s.heap.objs.size)
 have I1:=I.laid (a:=s.heap.objs.size) (o:=.dT []) (h':=s.heap.push { cls:=.type "dict",data:=.dict #[] }) (t':=s.toks) (fun _ _ q=>Heap.get?_push_of_some _ q) (Nat.le_refl _) (zi2 s.heap I.big)
 refine wpAny_Dict_any rfl rfl (by simp) (Nat.le_of_ble_eq_true rfl) (thn ((zqk hk hv zsL:PPs X pos [some k] [v] _) pins _ σ _ (fun ps H2=>match ps with
  | [(x,y)]=>∃ H3,DP H2 s.heap.objs.size x y H3/\Q (.ref s.heap.objs.size) H3
  | _=>False) I1 (q _ hn)) fun ws s2 ⟨ps,H2,I2,rel,q1⟩=>?_)
 match ps,rel,q1 with
 | [(x,y)],.cons r1 .nil,⟨H3,dp,q2⟩ =>
  unfold storeAll
  rw [List.forIn_cons]
  refine wpAny_bind (wpAny_bind (zm6 (by omega) I2 dp r1.1 r1.2 fun s3 I3=>wpAny_pure ?_))
  show wpAny _ _ (forIn ([]:List (Value×Value)) PUnit.unit _) _ _ s3
  rw [List.forIn_nil]
  exact wpAny_pure ⟨.ref s.heap.objs.size,H3,I3,rfl,q2⟩
end
end L2
namespace FL
open PySem L2 PySem.Spec
open PyProof.Rows hiding St
section
variable [Cs]
section
variable {K:W.Frag}{X:Cx}{e ke ve:Expr}{f k v:EF}{pos p2:Pos}
theorem zgv(hu:X.A.units+1<cLine)(hk:PV K X ke k)(hv:PV K X ve v):PVN K X (.Dict [some ke] [ve] pos) (zeZ k v):=.mk fun hK=>(zqq hu (hk hK) (hv hK)).weak fun σ H Q=>by
 rintro⟨ρ,rel,q⟩ p hp
 have sm:zaB H (upd H p (.dT [])):=zaB.upd hp
 have nma:¬ MA ρ σ p:=fun z=>by
  obtain⟨o',e',_⟩:=rel.za5 z
  rw [hp] at e';cases e'
 have rel0:=rel.same sm
 have st0:Stp ρ ρ σ H (upd H p (.dT [])):=.of sm
 obtain⟨xk,ek,q1⟩:=q.bnd
 obtain⟨xv,ev,q2⟩:=q1.bnd
 obtain⟨d,ed,q3⟩:=q2.zdP
 refine⟨ρ,rel0,?_⟩
 rw [ek]
 intro H1 rel1 st1 x fx
 refine⟨xk.2,rel1,?_⟩
 rw [ev]
 intro H2 rel2 st2 y fy
 have st12:=st1.trans st2
 have h2p:H2 p=some (.dT []):=st12.kp p _ zal nma
 have nma2:¬ MA xv.2 σ p:=fun z=>nma (st12.ma.mpr z)
 obtain⟨o,dp,mm⟩:=zto (K:=K) (c:=.dict []) ⟨[],h2p,by simp [zbB]⟩ (fx.mono (st2.fzn rel1)) fy ed
 refine⟨_,dp,?_⟩
 have rel3:Rel K xv.2 σ (upd H2 p o):=rel2.put nma2 fun u eu=>by rw [h2p] at eu;cases eu;exact fun z=>z
 refine q3 _ rel3 ⟨st12.md,fun b w eb nb=>?_⟩ p hp mm
 have c:b≠p:=fun z=>by subst z;rw [hp] at eb;cases eb
 rw [zan c]
 exact st12.kp b w (by rw [zan c];exact eb) nb
end
end
section
def zfe(cs:List Addr)(K:W.Frag):W.Frag:=K.filter fun p=>!cs.contains p.1
theorem zd4(cs:List Addr):∀(K:W.Frag) (b:Addr),(zfe cs K).lookup b=if cs.contains b=true then none else K.lookup b
 | [],b=>by simp [zfe]
 | (c,o)::K,b=>by
  have ih:=zd4 cs K b
  unfold zfe at ih ⊢
  rw [List.filter_cons]
  by_cases hc:cs.contains c=true
  ·rw [if_neg (by simp only [hc];decide),ih]
   by_cases hb:cs.contains b=true
   ·rw [if_pos hb,if_pos hb]
   ·have ne:b≠c:=fun z=>by rw [z] at hb;exact hb hc
    rw [if_neg hb,if_neg hb]
    simp [List.lookup_cons,show(b==c)=false from by simpa using ne]
  ·have hc':cs.contains c=false:=by simpa using hc
   rw [if_pos (by simp only [hc'];decide)]
   by_cases e:b=c
   ·subst e
    rw [if_neg hc]
    simp [List.lookup_cons]
   ·have e':(b==c)=false:=by simpa using e
    rw [List.lookup_cons,List.lookup_cons,e']
    exact ih
theorem zrY{cs:List Addr}{K:W.Frag}{h:Heap}(x:K.In h):(zfe cs K).In h:=fun a o e=>by
 rw [zd4] at e
 split at e
 ·cases e
 ·exact x a o e
def ztL(cs:List Addr)(K:W.Frag):Prop:=∀ c∈cs,∃ o its n,K.lookup c=some o/\o.data=Data.seq its n
theorem zmq{cs:List Addr}{K:W.Frag}(s:ztL cs K){b:Addr}{o:Obj}(e:K.lookup b=some o)(n:∀ its m,o.data≠.seq its m):(zfe cs K).lookup b=some o:=by
 rw [zd4,if_neg,e]
 intro c
 obtain⟨o',its,m,e',d⟩:=s b (by simpa using c)
 rw [e] at e'
 cases e'
 exact n _ _ d
theorem zm8{cs:List Addr}{K:W.Frag}(s:ztL cs K){cd:Value}{q:Str}(h:PySem.W.codeIn K cd q=true):PySem.W.codeIn (zfe cs K) cd q=true:=by
 cases cd with
 | ref c =>
  unfold PySem.W.codeIn at h ⊢
  cases e:K.lookup c with
  | none=>simp only [e] at h;cases h
  | some o =>
   obtain⟨oc,od,data,sl⟩:=o
   cases data with
   | fields vs =>
    simp only [e] at h
    simp only [zmq s e fun _ _ z=>nomatch z]
    exact h
   | _=>simp only [e] at h;cases h
 | _=>cases h
theorem Fun.cut{cs:List Addr}{K:W.Frag}(s:ztL cs K){x q:Str}{st:Stmt}{f:Addr}{fd:FuncData}(F:Fun K x q st f fd):Fun (zfe cs K) x q st f fd:=by
 obtain⟨⟨oc,od,kV,doc,pm,an,cdv,ct,osl,e,l,c⟩,kp⟩:=F
 have l':=zmq s l fun _ _ z=>nomatch z
 refine⟨⟨oc,od,kV,doc,pm,an,cdv,ct,osl,e,l',zm8 s c⟩,?_⟩
 unfold PySem.W.keepIn
 simp only [l']
theorem Has.cut{cs:List Addr}{K:W.Frag}{mg:Str->Option Value}(s:ztL cs K){x:Str}{st:Stmt}(h:Has K mg x st):Has (zfe cs K) mg x st:=by
 obtain⟨f,fd,hm,F⟩:=h
 exact⟨f,fd,hm,Fun.cut s F⟩
abbrev CL:=List (Addr×Obj×List V)
def zj6(cl:CL):Hp:=fun b=>(cl.lookup b).map fun p=>.frz p.1 (.tup p.2)
theorem zwZ(cl:CL)(a:Addr)(u:HO)(h:zj6 cl a=some u):∃ o xs,u=.frz o (.tup xs):=by
 unfold zj6 at h
 rw [Option.map_eq_some_iff] at h
 obtain⟨p,_,rfl⟩:=h
 exact⟨_,_,rfl⟩
@[reducible] def ztI(cl:CL)(ob:String->Option (Addr×List Str):=fun _=>none):Cs:={ C:=zj6 cl,st:=zwZ cl,O:=ob }
def zjo(cl:CL)(K:W.Frag):Prop:=∀ p∈cl,K.lookup p.1=some p.2.1/\p.2.1.cls=.type "tuple"/\p.2.2.length<=sizeLine/\∃(its:Array Value) (n:Nat),p.2.1.data=.seq its n/\Vals p.2.2 its.toList
theorem zjo.nil{K:W.Frag}:zjo [] K:=fun p hp=>by simp at hp
theorem zjo.cons{K:W.Frag}{a:Addr}{od:Option Addr}{its:Array Value}{n:Nat}{sl:Array (Option Value)}{xs:List V}{cl:CL}(e:K.lookup a=some ⟨.type "tuple",od,.seq its n,sl⟩) (hv:Vals xs its.toList) (hl:xs.length<=1000) (r:zjo cl K):zjo ((a,⟨.type "tuple",od,.seq its n,sl⟩,xs)::cl) K:=fun p hp=>by
 rcases List.mem_cons.mp hp with rfl|hp
 ·exact⟨e,rfl,Nat.le_of_lt (znG hl),its,n,rfl,hv⟩
 ·exact r p hp
theorem zjo.seqs{cl:CL}{K:W.Frag}(h:zjo cl K):ztL (cl.map (·.1)) K:=fun c hc=>by
 obtain⟨p,hp,rfl⟩:=List.mem_map.mp hc
 obtain⟨e,_,_,its,n,d,_⟩:=h p hp
 exact⟨_,its,n,e,d⟩
theorem mem_of_lookup{α:Type}:∀{l:List (Addr×α)} {a:Addr} {x:α},l.lookup a=some x->(a,x)∈l
 | [],a,x,h=>by simp at h
 | (b,y)::r,a,x,h=>by
  rw [List.lookup_cons] at h
  cases e:a==b with
  | true =>
   rw [e] at h
   cases h
   have:=eq_of_beq e
   subst this
   exact List.mem_cons_self ..
  | false =>
   rw [e] at h
   exact List.mem_cons_of_mem _ (mem_of_lookup h)
theorem zhU{cl:CL}{K:W.Frag}(h:zjo cl K){b:Addr}{u:HO}(e:zj6 cl b=some u):(zfe (cl.map (·.1)) K).lookup b=none/\∃(o:Obj) (xs:List V) (its:Array Value) (n:Nat),u=.frz o (.tup xs)/\K.lookup b=some o/\o.cls=.type "tuple"/\o.data=.seq its n/\xs.length<=sizeLine/\Vals xs its.toList:=by
 unfold zj6 at e
 rw [Option.map_eq_some_iff] at e
 obtain⟨⟨o,xs⟩,el,rfl⟩:=e
 have m:=mem_of_lookup el
 obtain⟨h1,h2,h3,its,n,h4,h5⟩:=h _ m
 refine⟨?_,o,xs,its,n,rfl,h1,h2,h4,h3,h5⟩
 rw [zd4,if_pos]
 have:b∈cl.map (·.1):=List.mem_map.mpr ⟨_,m,rfl⟩
 simpa using this
theorem zoE{P:Program}{w:World}{K:W.Frag}{mg mb:Str->Option Value}{CX:CXT}{k:Nat}{fa a:Addr}{fd:FuncData}{x:Str}{sp:Sp}{s₁:Shared}{vs:List Value}{ns:List Int}{cl:CL}
  (KX:K.In s₁.heap)(hC:zjo cl K)(hns:s₁.heap.Ns mainGlobals mg)(hb:s₁.heap.Ns builtinsNs mb)(hbb:∀ x:Str,x ≠ "__name__"->mb x=bootBuiltins x) (hlim:s₁.heap.NoLimit) (hse:s₁.heap.NoSeer) (htr:P.given.tree=none) (hg:s₁.gens=#[])
  (ha:s₁.heap.get? a=some { cls:=.type "list",data:=.seq vs.toArray }) (hi:IntsAre vs ns) (hl:ns.length<=sizeLine) (hr:zce k callerA)
  (F:∀ base:Heap,(zfe (cl.map (·.1)) K).In base->base.Ns mainGlobals mg->zie P w (zfe (cl.map (·.1)) K) mg base CX k fa fd [x] sp) (hbind:∀(s:Shared) (u:Value),BindsTo s fd ⟨[u],[]⟩ [(x,u)])
  (hsp:∀ H:Hp,(∀ b xs,H b≠some (.lst xs))->(∀ b u,zj6 cl b=some u->H b=some u)->SqL (zfe (cl.map (·.1)) K) H a (ns.map V.int)->sp [.ref a] H (fun v _=>v=.bl true) fun _ _ _=>False)
  (hCX:∀ H e s',CX [] H s₁ (fun _ _ _=>False) e s'->False) :
  codeAny (model P w) callerA (.call (.ref fa) ⟨[.ref a],[]⟩) (fun r s'=>r=.ok (.ret (.bool true))/\OldK s₁.heap s'.heap/\s'.os=s₁.os/\AllBare s'.gens) s₁:=by
 have rv:=zjq hi
 have lenV:=hi.length
 have core:∀ H:Hp,(∀ b u,H b=some u->∃ o v,u=.frz o v/\o.cls≠.type "module"/\∀ es ep,o.data≠.dict es ep)->(∀ b xs,H b≠some (.lst xs))->(∀ b u,zj6 cl b=some u->H b=some u)->SqL (zfe (cl.map (·.1)) K) H a (ns.map V.int)->HOk P w H s₁.heap->(∀ b,H b≠none->(zfe (cl.map (·.1)) K).lookup b=none) ->
   codeAny (model P w) callerA (.call (.ref fa) ⟨[.ref a],[]⟩) (fun r s'=>r=.ok (.ret (.bool true))/\OldK s₁.heap s'.heap/\s'.os=s₁.os/\AllBare s'.gens) s₁:=by
  intro H hO hL hcc hS hok hK
  have base_of:∀{b:Addr} {o:Obj},s₁.heap.get? b=some o->H b=none->(zqS s₁.heap H).get? b=some o:=fun e n=>zqR e n
  have noA:∀{b:Addr} {o:Obj} {es:Array DictEntry} {ep:Nat},s₁.heap.get? b=some o->o.data=.dict es ep->H b=none:=fun{b o es ep} e d=>by
   cases q:H b with
   | none=>rfl
   | some u =>
    obtain⟨o',v,rfl,_,nd⟩:=hO b u q
    obtain⟨e',_⟩:=hok b _ q
    rw [e] at e'
    cases e'
    exact absurd d (nd es ep)
  have noM:∀{b:Addr} {o:Obj},s₁.heap.get? b=some o->o.cls=.type "module"->H b=none:=fun{b o} e d=>by
   cases q:H b with
   | none=>rfl
   | some u =>
    obtain⟨o',v,rfl,nd,_⟩:=hO b u q
    obtain⟨e',_⟩:=hok b _ q
    rw [e] at e'
    cases e'
    exact absurd d nd
  have nsK:∀{b:Addr} {m:Str->Option Value},s₁.heap.Ns b m->(zqS s₁.heap H).Ns b m:=fun{b m} ⟨o,es,ep,e,d,r⟩=>⟨o,es,ep,base_of e (noA e d),d,r⟩
  have hKb:(zfe (cl.map (·.1)) K).In (zqS s₁.heap H):=fun b o e=>base_of (zrY KX b o e) (by
   cases q:H b with
   | none=>rfl
   | some u=>rw [hK b (by rw [q];simp)] at e;cases e)
  have hM:Mod (zfe (cl.map (·.1)) K) mg (zqS s₁.heap H):=⟨hKb,nsK hns,⟨mb,nsK hb,hbb⟩,let⟨mc,h1,h2⟩:=hlim;⟨mc,nsK h1,h2⟩,(let⟨mc,h1,h2⟩:=hse.statics;⟨mc,nsK h1,h2⟩),(let⟨mc,h1,h2⟩:=hse.mods;⟨mc,nsK h1,h2⟩),(let⟨mc,h1,h2⟩:=hse.imp;⟨mc,nsK h1,h2⟩),(let⟨mg,bm,ob,h1,h2,h3,h4,h5⟩:=hse.main;⟨mg,bm,ob,nsK h1,h2,base_of h3 (noM h3 h4),h4,h5⟩)⟩
  have e0:zv4 P w (zfe (cl.map (·.1)) K) mg (zqS s₁.heap H) callerA [] s₁ H:=⟨rfl,hM,fun b o e=>zs2 e,Nat.le_of_eq (zoW _ _),trivial,fun b hb=>absurd (show b∈([]:List Addr) from hb) (by simp),hok,.of_eq hg,htr⟩
  refine codeAny_mono ((F _ hKb (nsK hns)).run callerA [] s₁ H ⟨[.ref a],[]⟩ [.ref a] [.ref a] _ _ hr e0 (hbind s₁ (.ref a)) (.cons rfl .nil) (hsp H hL hcc hS)) fun r s' h=>?_
  cases r with
  | error e=>exact(hCX H e s' h).elim
  | ok fl =>
   cases fl with
   | next=>exact False.elim h
   | brk=>exact False.elim h
   | cont=>exact False.elim h
   | ret u =>
    obtain⟨v,H',os,bare,un,hok',r',q⟩:=h
    have q':v=.bl true:=q
    subst q'
    obtain rfl:u=Value.bool true:=r'
    refine⟨rfl,OldK.of_keep fun b o e=>?_,os,bare⟩
    cases q:H b with
    | none=>exact un.keep b o e q (by intro z;exact absurd (show b∈([]:List Addr) from z) (by simp)) (by simp)
    | some u =>
     obtain⟨ob,v,rfl,_,_⟩:=hO b u q
     have z2:=un.frzs b ob _ q
     obtain⟨e1,_⟩:=hok b _ q
     obtain⟨e2,_⟩:=hok' b _ z2
     rw [e] at e1;cases e1
     exact e2
 have cok:∀{H:Hp} {b:Addr} {u:HO},zj6 cl b=some u->zbM P w H s₁.heap b u:=fun{H b u} e=>by
  obtain⟨_,o,xs,its,n,rfl,h1,h2,h3,h4,h5⟩:=zhU hC e
  have hg:=KX b o h1
  exact⟨hg,h4,its.toList,h5,o,hg,h2,n,by simpa using h3⟩
 have cfr:∀{b:Addr} {u:HO},zj6 cl b=some u->∃ o v,u=.frz o v/\o.cls≠.type "module"/\∀ es ep,o.data≠.dict es ep:=fun{b u} e=>by
  obtain⟨_,o,xs,its,n,rfl,h1,h2,h3,h4,h5⟩:=zhU hC e
  exact⟨o,_,rfl,by rw [h2];simp,fun es ep z=>by rw [h3] at z;cases z⟩
 have clst:∀{b:Addr} {xs:List V},zj6 cl b≠some (.lst xs):=fun{b xs} e=>by
  obtain⟨_,o,xs,its,n,z,_⟩:=zhU hC e
  cases z
 cases hk:(zfe (cl.map (·.1)) K).lookup a with
 | some o =>
  have e:=zrY KX a o hk
  rw [ha] at e
  cases e
  exact core (zj6 cl) (fun b u e=>cfr e) (fun b xs e=>clst e) (fun _ _ e=>e) (.inr ⟨_,vs.toArray,_,hk,rfl,rfl,rfl,by rw [List.size_toArray,lenV];exact hl,by simpa using rv⟩) (fun b u z=>cok z) fun b hb=>by
   cases q:zj6 cl b with
   | none=>exact absurd q hb
   | some u=>exact(zhU hC q).1
 | none =>
  have na:∀ u,zj6 cl a≠some u:=fun u z=>by
   obtain⟨_,o,xs,its,n,rfl,h1,h2,h3,h4,h5⟩:=zhU hC z
   have:=KX a o h1
   rw [ha] at this
   cases this
   simp at h2
  refine core (fun b=>if b=a then some (.frz { cls:=.type "list",data:=.seq vs.toArray } (.lst (ns.map V.int))) else zj6 cl b) (fun b u e=>?_) (fun b xs e=>?_) (fun b u e=>?_) (.inl (.inr ⟨{ cls:=.type "list",data:=.seq vs.toArray },if_pos rfl⟩)) (fun b u z=>?_) fun b hb=>?_
  ·split at e
   ·cases e;exact⟨_,_,rfl,by simp,fun es ep z=>nomatch z⟩
   ·exact cfr e
  ·split at e
   ·cases e
   ·exact clst e
  ·have:b≠a:=fun z=>by subst z;exact na u e
   simp only [if_neg this];exact e
  ·simp only at z
   split at z
   ·rename_i c
    cases z
    subst c
    exact⟨ha,by rw [List.length_map];exact hl,vs,_,rv,ha⟩
   ·exact cok z
  ·by_cases c:b=a
   ·subst c;exact hk
   ·simp only [if_neg c] at hb
    cases q:zj6 cl b with
    | none=>exact absurd q hb
    | some u=>exact(zhU hC q).1
theorem zpT{l:PySem.W.OpenLaw}{k:Nat}{q:Program}{loose:List Str}{XP:(Str->Option Value)->Heap->Prop}{YP:World->Heap->Prop}{d:DefRec}{K:Params->W.Frag}{x:Str}{G:List D->R D}
  (hlaw:∀ ns:List Int,ns.length<=63->G [.list (ns.map PyData.int)]=.ok (.bool true))(hn:l.most=some 63)(hdf:d.params.defaults=[])(hi:importsNone q=true)(htr:l.prog.given.tree=none)(hr:zce k callerA)
  (hY:∀(w:World) (h:Heap),YP w h->(K w.params).In h)
  (F:∀(w:World) (mg:Str->Option Value) (fa:Addr) (h:Heap),(K w.params).In h->h.Ns mainGlobals mg->mg d.name=some (.ref fa) ->
   ∃(cl:CL) (fd:FuncData),zjo cl (K w.params)/\(∀(s:Shared) (u:Value),BindsTo s fd ⟨[u],[]⟩ [(x,u)]) /\
    ∀ base:Heap,(zfe (cl.map (·.1)) (K w.params)).In base->base.Ns mainGlobals mg->zie l.prog w (zfe (cl.map (·.1)) (K w.params)) mg base (CXe l.prog w) k fa fd [x] (@spP (ztI cl) (zfe (cl.map (·.1)) (K w.params)) 1 false G)) :
  PySem.W.WalkO q loose XP YP l.row.toRowW d [] (fun f vs=>PySem.call f vs):=by
 refine Att.zlp hn hdf fun w s₀ s₁ mg mb fa o pm cd doc a vs ns GG Y ho hd hcd hmg hobj hints hlen hg=>?_
 have KX:=hY w _ Y
 obtain⟨cl,fd,hC,hb,hF⟩:=F w mg fa _ KX GG.T.g hmg
 refine zoE KX hC GG.T.g GG.T.b GG.T.builtins GG.T.nolimit (GG.T.seer hi) htr hg hobj hints (Nat.le_trans hlen (by decide)) hr hF hb (fun H hO hcc hS=>@zu0 (ztI cl) _ G H a ns (hlaw ns hlen) hO hcc hS) fun H e s' ⟨_,_,_,_,_,_,_,_,_,_,_,_,_,_,_,z⟩=>z
variable [Cs]
theorem zei{K:W.Frag}{X:Cx}{x:Str}{a:Addr}{pos:Pos}{ds:List D}{vs:List V}(hg:Gl X x)(hm:X.mg x=some (.ref a))(hc:∃ o,Cs.C a=some (.frz o (.tup vs)))(hf:∀ H,zaf K H ds vs)(hd:(x==("__debug__":Str))=false:=by decide) :
  PV K X (.Name x pos) (eC (.tuple ds)):=.mk fun _=>(zoe hg hm (v:=.ref a) rfl hd).weak fun σ H Q=>by
 rintro⟨ρ,rel,g⟩
 obtain⟨o,hc⟩:=hc
 refine g.now rel (.ref a) ?_
 simp only [Fz]
 exact⟨a,vs,rfl,.inr ⟨o,rel.cst _ _ hc⟩,hf H⟩
end
section
theorem zcx{k:Nat}{A:Around}(hr:zce k A):A.units+1<cLine:=by have:=hr.un;omega
theorem znM{x y:V}{u:Value}(h1:L2.RelV x u)(h2:L2.RelV y u):x=y:=by
 cases x <;> cases y <;> simp only [L2.RelV] at h1 h2 <;> first
  | (subst h1;cases h2;rfl;done)
  | (subst h1;obtain⟨t',h2⟩:=h2;cases h2;done)
  | (obtain⟨t,rfl⟩:=h1;obtain⟨t',h2⟩:=h2;cases h2;rfl;done)
  | (obtain⟨t,rfl⟩:=h1;obtain⟨t',h2⟩:=h2;cases h2;done)
  | (subst h1;cases h2;done)
  | (obtain⟨t,rfl⟩:=h1;cases h2;done)
theorem zjp:∀{xs ys:List V} {us:List Value},Vals xs us->Vals ys us->xs=ys
 | _,_,_,.nil,.nil=>rfl
 | _,_,_,.cons r1 t1,.cons r2 t2=>by rw [znM r1 r2,zjp t1 t2]
theorem lookup_mem{α:Type}:∀{l:List (Addr×α)} {a:Addr} {x:α},(a,x)∈l->∃ y,l.lookup a=some y
 | [],a,x,h=>by simp at h
 | (b,y)::r,a,x,h=>by
  rw [List.lookup_cons]
  cases e:a==b with
  | true=>exact⟨y,rfl⟩
  | false =>
   rcases List.mem_cons.mp h with z|z
   ·cases z;simp at e
   ·exact lookup_mem z
theorem zoZ{cl:CL}{ob:String->Option (Addr×List Str)}{K:W.Frag}(h:zjo cl K){a:Addr}{o:Obj}{xs:List V}(m:(a,o,xs)∈cl):∃ o',(ztI cl ob).C a=some (.frz o' (.tup xs)):=by
 obtain⟨⟨o2,ys⟩,el⟩:=lookup_mem m
 obtain⟨h1,_,_,its,n,h2,h3⟩:=h _ m
 obtain⟨g1,_,_,its',n',g2,g3⟩:=h _ (mem_of_lookup el)
 simp only at h1 h2 h3 g1 g2 g3
 rw [h1] at g1
 cases g1
 rw [h2] at g2
 cases g2
 refine⟨o,?_⟩
 show zj6 cl a=_
 unfold zj6
 rw [el,zjp h3 g3]
 rfl
theorem zvb{K:W.Frag}{h:Heap}{mg:Str->Option Value}{x:Str}{st:Stmt}{f:Addr}{oc:Value}{od an:Option Addr}{osl:Array (Option Value)}{kV doc pm cdv ct:Value}(X:K.In h)(G:h.Ns mainGlobals mg)(q:PySem.W.nsIn K mainGlobals x=some (some (.ref f)))
  (l:K.lookup f=some ⟨oc,od,.func (PySem.W.fnOf x x (zdn st) (zbL st) (zau st) .none kV doc pm an cdv ct),osl⟩)(c:PySem.W.codeIn K cdv x=true)(k:PySem.W.keepIn K (.ref f)=true):Has K mg x st:=⟨f,_,PySem.W.mg_of X G q,zvi (st:=st) l c k⟩
theorem _root_.L2.Has.cut{cs:List Addr}{K:W.Frag}{mg:Str->Option Value}{x:Str}{st:Stmt}(h:Has K mg x st)(s:ztL cs K):Has (zfe cs K) mg x st:=FL.Has.cut s h
end
end FL
namespace FL
open PySem
def enD:List D->R (List D)
 | [.list l]=>.ok (zf5 0 l)
 | _=>.bad
def zvV(a:AF):IF:=fun ρ=>(a ρ).bind fun x=>(enD x.1).bind fun l=>.ok (l,x.2)
def zem(k:Nat)(ix:List Nat)(g:GF)(t:TF)(kf vf:EF):List D->En->D->R (D×En)
 | [],ρ,acc=>.ok (acc,ρ)
 | x::xs,ρ,acc=>(g x (blk k ix ρ)).bind fun β=>(t β).bind fun c =>
   if c.1=true then(kf c.2).bind fun y=>(vf y.2).bind fun z=>(zke acc y.1 z.1).bind fun d=>zem k ix g t kf vf xs (back ρ ix (z.2.drop k)) d
   else zem k ix g t kf vf xs (back ρ ix (c.2.drop k)) acc
def ze0(k:Nat)(ix:List Nat)(it:IF)(g:GF)(t:TF)(kf vf:EF):EF:=fun ρ=>(it ρ).bind fun x=>(zem k ix g t kf vf x.1 x.2 (.dict [])).bind fun y=>.ok (y.1,y.2)
def zpj(i:Nat)(k:EF):SF:=fun ρ=>(zaw ρ i).bind fun c0=>(zfm c0).bind fun _=>(k ρ).bind fun a=>(zaw a.2 i).bind fun c=>(zm7 c a.1).bind fun d=>.ok (.nx,za4 a.2 i d)
def zse(d:D):R D:=match d with
 | .list l=>chk (PyData.canLay0 (.list l)&&(PyData.showable (.list l)&&(leB (PyData.depth (.list l)) 60&&leB (PyData.shown (.list l)).length lim))) (.ok (.str (PyData.shown (.list l))))
 | .tuple l=>chk (PyData.canLay0 (.tuple l)&&(PyData.showable (.tuple l)&&(leB (PyData.depth (.tuple l)) 60&&leB (PyData.shown (.tuple l)).length lim))) (.ok (.str (PyData.shown (.tuple l))))
 | _=>.bad
def zuX(x y:D):R D:=(R.of (zpR x)).bind fun p=>(R.of (zpR y)).bind fun q=>.ok (.bool (ltW p q))
def zwJ:D->D->R D
 | .str x,.str y=>.ok (.bool (x != y))
 | _,_=>.bad
end FL
namespace L2
open PySem PySem.Spec PyProof.Rows
section
variable {X:Cx}{pins:List (Addr×Obj)}{σ:St}{H:Hp}{s:Shared}{a:Addr}{y v:V}{u r:Value}{A:Around}{E:Value->Shared->Prop}
theorem zvx{H':Hp}{Q:Unit->Shared->Prop}(hu:A.units+1<cLine)(I:Inv X pins σ H s)(g:zv5 H a y v H')(ry:RelV y u)(rv:RelV v r)(h:∀ s',Inv X pins σ H' s'->Q () s') :
  wpAny (model X.prog X.w) A (dictSet a u r) Q E s:=by
 obtain⟨kvs,k,b,e,ey,eb,l,eH⟩:=g
 subst ey eH
 cases (show u=Value.ref b from ry)
 obtain⟨z,hd,xs,rel,dd⟩:=zpe I.hok e
 have hz:xs.length<=sizeLine:=by rw [<- Paired.length rel];exact z
 have hl:(putK kvs k v).length<=sizeLine:=by have:=zez kvs k v;omega
 refine wpAny_dictSet_heap (hsz:=hz) (show A.units<cLine from Nat.lt_of_succ_lt hu) (zcW I.hok eb) dd fun h' dd' hs=>h _ ?_
 obtain⟨q,es,ep,hq,h2,h3,h4,_,h5⟩:=dd'
 refine zgV I (by rw [e];exact True.intro) hs ⟨q,hq⟩ ⟨hl,hd,_,(rel.put k eb rv).keeps fun c ys ec=>?_,q,es,ep,hq,h2,h3,h4,h5⟩
 exact ec.upd (fun _ z=>zhs z e (fun z=>nomatch z)) fun _ _ z=>zhs z e (fun z=>nomatch z)
theorem ztp{H':Hp}{Q:Unit->Shared->Prop}(hu:A.units+1<cLine)(I:Inv X pins σ H s)(g:DP H a y v H')(ry:RelV y u)(rv:RelV v r)(h:∀ s',Inv X pins σ H' s'->Q () s') :
  wpAny (model X.prog X.w) A (dictSet a u r) Q E s:=by
 exact zvx hu I g ry rv h
end
def zkN(k:Nat)(ix:List Nat)(wi:TI)(g:TG)(tc:TT)(tk tv:TE):TE:=fun σ H Q=>wi σ H fun J H1=>∀ l,H1 l=none ->
 ∃ W:Nat->Nat->Hp->Prop,(∃ m,W 0 m (upd H1 l (.dT [])))/\∀ i m H2,W i m H2 ->
  ((J.stop i H2/\Q (.ref l) H2)\/(J.go i H2/\∀ x H3,J.yld i H2 x H3->g x (zef k ix σ) H3 fun σ2 H4=>tc σ2 H4 fun b H5 =>
   if b=true then tk σ2 H5 fun y H6=>tv σ2 H6 fun v H7=>∃ H8,DP H7 l y v H8/\∃ m',m'<m/\W (i+1) m' H8 else ∃ m',m'<m/\W (i+1) m' H5))
section
variable {X:Cx}
theorem zof{kx vx tg iter:Expr}{ifs:List Expr}{scope:Scope}{pos:Pos}{L:List Str}{ix:List Nat}{wi:TI}{g:TG}{tc:TT}{tk tv:TE}(hu:X.A.units+1<cLine)(hc:X.calm=true)(S:zee X scope (zeg X ix))(hix:∀ i∈ix,i<X.N.length)(hi:PI X tg iter wi)
  (hg:∀ C s₃ H₃ fp,PG (zap X (L++zeg X ix) scope C s₃ H₃ fp) tg g)(hgo:zly L.length g)
  (ht:∀ C s₃ H₃ fp,PTs (zap X (L++zeg X ix) scope C s₃ H₃ fp) ifs tc)(hk:∀ C s₃ H₃ fp,PE (zap X (L++zeg X ix) scope C s₃ H₃ fp) kx tk)(he:∀ C s₃ H₃ fp,PE (zap X (L++zeg X ix) scope C s₃ H₃ fp) vx tv)
  (hs:∀ x,foldedSetIterable iter X.env x=pure x:=by intro _;rfl) :
  PE X (.DictComp kx vx [⟨tg,iter,ifs,0⟩] scope pos) (zkN L.length ix wi g tc tk tv):=by
 intro pins s σ H Q I h
 rw [arm_eval_DictComp]
 refine wpAny_comprehension_free (use:=none) rfl hs (zdo fun y hy e=>I.ok.has y.1 (.inl (S.cell y hy e))) S.kind S.loc (thn (hi pins s σ H _ I h) fun xv s1 h1=>thn h1 fun itv s2 h2=>?_)
 obtain⟨it,fp,tn,J,H2,rfl,I2,T,st2,f2,q⟩:=h2
 have nD:H2 s2.heap.objs.size=none:=I2.hok.fresh (Nat.le_refl _)
 obtain⟨W,⟨m0,w0⟩,turn⟩:=q _ nD
 generalize hD:s2.heap.objs.size=D at nD w0 turn
 have fD:∀ b∈fp,b<D:=fun b hb=>by
  obtain⟨o,e,_⟩:=T.obj _ _ st2 b hb
  rw [<- hD]
  exact Heap.lt_size e
 have I3:Inv X pins σ (upd H2 D (.dT [])) { s2 with heap:=s2.heap.push { cls:=.type "dict",data:=.dict #[] },toks:=s2.toks }:=by
  rw [<- hD]
  exact I2.laid (t':=s2.toks) (fun b u e=>Heap.get?_push_of_some _ e) (Nat.le_refl _) (zi2 s2.heap I2.big)
 refine wpAny_newObj_type (zkW (fun h₁ hns₁ hsb₁ hcs₁=>?_)) (by show 0<=sizeLine+1;exact Nat.zero_le _)
 rw [hD]
 have st3:tn 0 (s2.heap.push { cls:=.type "dict",data:=.dict #[] }):=T.keep _ _ _ st2 fun b hb o e=>Heap.get?_push_of_some _ e
 generalize hp3:s2.heap.push { cls:=.type "dict",data:=.dict #[] }=h3 at I3 st3 hns₁ hsb₁ hcs₁
 dsimp only at hns₁ hsb₁ hcs₁ ⊢
 have sz3:h3.objs.size=D+1:=by rw [<- hp3,Heap.size_push,hD]
 have old:∀ b u,h3.get? b=some u->h₁.get? b=some u:=fun b u e=>hsb₁ b u e
 have f3:∀ b∈fp,zhn X pins (upd H2 D (.dT [])) b:=fun b hb=>⟨by rw [zan (Nat.ne_of_lt (fD b hb))];exact(f2 b hb).1,(f2 b hb).2⟩
 have I4:=zgH (L:=L) (ix:=ix) (t':=s2.toks) S I3 f3 (fun b hb=>by show b<h3.objs.size;rw [sz3];exact Nat.lt_succ_of_lt (fD b hb)) hix (h':=h₁) hns₁ old hcs₁
 have st4:tn 0 h₁:=T.keep _ _ _ st3 fun b hb o e=>old b o e
 generalize hC:(zap X (L++zeg X ix) scope h3.objs.size { s2 with heap:=h3,toks:=s2.toks } (upd H2 D (.dT [])) fp)=Y at I4
 have eEnv:Y.env=compEnvC scope (zjJ h3.objs.size scope++zg0 X.env.cells scope.names []) h3.objs.size X.env:=by rw [<- hC];rfl
 have hcY:Y.calm=true:=by rw [<- hC];exact hc
 have xeY:Y.xe=fun _ _=>False:=by rw [<- hC];rfl
 have eP:Y.prog=X.prog:=by rw [<- hC];rfl
 have eW:Y.w=X.w:=by rw [<- hC];rfl
 have eK:Y.K=X.K:=by rw [<- hC];rfl
 have eA:Y.A=X.A:=by rw [<- hC];rfl
 have gY:PG Y tg g:=by rw [<- hC];exact hg _ _ _ _
 have tY:PTs Y ifs tc:=by rw [<- hC];exact ht _ _ _ _
 have kY:PE Y kx tk:=by rw [<- hC];exact hk _ _ _ _
 have pY:PE Y vx tv:=by rw [<- hC];exact he _ _ _ _
 have stat:∀{H':Hp},(∀ b∈fp,H' b=none)->∀ b∈fp,zhn Y [] H' b:=fun{H'} hn b hb=>by
  have z1:b∈Y.ex:=by rw [<- hC];exact hb
  have zp:Y.pn=[]:=by rw [<- hC];rfl
  refine⟨hn b hb,(I4.ok.exf b z1).1,I4.ok.exfs b z1,.inl z1,(I4.ok.exf b z1).2,fun p hp=>?_⟩
  rw [zp] at hp
  exact absurd hp (by simp)
 have fin:∀{H':Hp} {s':Shared},Inv Y [] (zef L.length ix σ) H' s'->Q (.ref D) H'->compPost (model X.prog X.w) X.A X.xe none (EP X pins σ Q) (.ref D) h3.objs.size (.ok .next) s':=by
  intro H' s' J' qe
  obtain⟨m,hm,_⟩:=J'.loc
  rw [eEnv] at hm
  refine⟨m,hm,fun h' sb=>⟨.ref D,H',?_,rfl,qe⟩⟩
  have hfr:H' h3.objs.size=none:=by
   have:=J'.free
   rw [eEnv] at this
   exact this
  have neC:∀ b u,H' b=some u->b≠h3.objs.size:=fun b u e z=>by rw [z,hfr] at e;cases e
  have base:Un (frs X.stack) fp (upd H2 D (.dT [])) H' h3 s'.heap:=by
   have:=J'.base
   rw [<- hC] at this
   exact this
  have to':∀ b o,b≠h3.objs.size->s'.heap.get? b=some o->h'.get? b=some o:=fun b o hb e=>sb.extBut b o hb e
  have lt3:∀ b o,h3.get? b=some o->b≠h3.objs.size:=fun b o e=>Nat.ne_of_lt (Heap.lt_size e)
  have un:Un (frs X.stack) fp (upd H2 D (.dT [])) H' h3 h' :=
   ⟨fun b o e n hb hx=>to' b o (lt3 b o e) (base.keep b o e n hb hx),
    fun b o e n hb hx=>by
    obtain⟨sl,z⟩:=base.slot b o e n hb hx
    exact⟨sl,to' _ _ (lt3 b o e) z⟩,
    base.free,
    fun b o e hx=>by
    obtain⟨o',z⟩:=base.there b o e hx
    exact⟨o',to' _ _ (lt3 b o e) z⟩,
    base.tups,base.frzs,base.tbls⟩
  have hok:HOk X.prog X.w H' h':=fun b u e=>by
   have z:=J'.hok b u e
   rw [eP,eW] at z
   refine z.stay (fun c v hcv qv=>to' c v ?_ qv) (fun _ qq=>qq) fun _ _ qq=>qq
   rcases hcv with zz|zz
   ·rw [zz];exact neC b u e
   ·exact neC c _ zz
  refine I3.call' (s':={ s' with heap:=h' }) (ch:=fp) ?_ un hok J'.bare fun b hb=>?_
  ·have:=J'.os
   rw [<- hC] at this
   exact this
  ·obtain⟨_,g1,g2,g3,g4,g5⟩:=f2 b hb
   exact⟨g3,g1,g4,g5⟩
 have key:∀ s5:Shared,s5={ s2 with heap:=h₁,toks:=s2.toks } ->
   codeAny (model X.prog X.w) X.A (.compLoop (.DictComp kx vx [⟨tg,iter,ifs,0⟩] scope pos) 0 (.ref it) (.ref D) (compEnvC scope (zjJ h3.objs.size scope++zg0 X.env.cells scope.names []) h3.objs.size X.env))
    (compPost (model X.prog X.w) X.A X.xe none (EP X pins σ Q) (.ref D) h3.objs.size) s5:=by
  rintro s5 rfl
  rw [<- eEnv,<- eP,<- eW,<- eA]
  refine zkg (fun n s'=>∃ i H',Inv Y [] (zef L.length ix σ) H' s'/\tn i s'.heap/\(∀ b∈fp,H' b=none)/\W i n H') ?_ m0 ⟨0,_,?_,st4,fun b hb=>(f3 b hb).1,w0⟩
  ·rintro n s6 ⟨i,H6,I6,st6,fr6,w6⟩
   rcases turn i n H6 w6 with⟨stop,qe⟩|⟨go,step⟩
   ·have Td:=T.done Y eP eW eK hcY i [] s6 _ H6 (fun _ _=>False) I6 (stat fr6) st6 stop
    rw [<- eP,<- eW] at Td
    refine wpAny_mono Td (fun r s7 hr7=>?_) fun _ _ f=>f.elim
    obtain⟨hr,I7⟩:=hr7
    subst hr
    rw [eP,eW,eA]
    exact fin I7 qe
   ·have Ti:=T.item Y eP eW eK hcY i [] s6 _ H6 (fun _ _=>False) I6 (stat fr6) st6 go
    rw [<- eP,<- eW] at Ti
    refine wpAny_mono Ti (fun r s7 hr7=>?_) fun _ _ f=>f.elim
    obtain⟨u,hr,h7⟩:=hr7
    subst hr
    refine wpAny_mono h7 (fun _ s8 hr8=>?_) fun _ _ f=>f.elim
    obtain⟨x,H8,I8,r8,y8,st8,fr8⟩:=hr8
    have I8':=I8.pinned (stat fr8) (T.obj _ _ st8)
    have stp:=hgo _ _ _ _ (step x H8 y8)
    refine wpAny_mono (gY _ s8 _ H8 x u _ I8' r8 stp) (fun _ s9 ⟨σ9,H9,I9,⟨k1,k2⟩,q9⟩=>?_) fun _ _ f=>by rw [xeY] at f;exact f.elim
    have weak:∀{Hz:Hp} {sz:Shared},Inv Y ([]++zgw fp s8.heap) σ9 Hz sz->Inv Y [] (zef L.length ix σ) Hz sz/\tn (i+1) sz.heap/\∀ b∈fp,Hz b=none:=fun{Hz sz} Iz=>by
     refine⟨Iz.zcw.weak k1.symm fun j v e=>?_,T.keep _ _ _ st8 fun b hb o e=>(Iz.pin (b,o) (List.mem_append_right _ (List.mem_append_right _ (zbx hb e)))).1,fun b hb=>?_⟩
     ·by_cases hj:L.length<=j
      ·rw [k2 j hj];exact e
      ·unfold zef at e
       rw [List.getElem?_append_left (by simpa using Nat.lt_of_not_le hj),List.getElem?_replicate,if_pos (Nat.lt_of_not_le hj)] at e
       cases e
     ·obtain⟨o,e,d⟩:=T.obj _ _ st8 b hb
      exact(Iz.pin (b,o) (List.mem_append_right _ (List.mem_append_right _ (zbx hb e)))).2.1
    refine wpAny_mono (tY _ s9 σ9 H9 _ I9 q9) (fun ok s10 ⟨H10,I10,q10⟩=>?_) fun _ _ f=>by rw [xeY] at f;exact f.elim
    cases ok with
    | false =>
     have q10':∃ m',m'<n/\W (i+1) m' H10:=q10
     obtain⟨m',hm',w10⟩:=q10'
     obtain⟨z1,z2,z3⟩:=weak I10
     exact⟨m',hm',i+1,H10,z1,z2,z3,w10⟩
    | true =>
     refine wpAny_mono (kY _ s10 σ9 H10 _ I10 q10) (fun yv s11 ⟨y,H11,I11,r11,q11⟩=>?_) fun _ _ f=>by rw [xeY] at f;exact f.elim
     refine wpAny_mono (pY _ s11 σ9 H11 _ I11 q11) (fun xv s12 ⟨v,H12,I12,r12,H8',g12,m',hm',w12⟩=>?_) fun _ _ f=>by rw [xeY] at f;exact f.elim
     refine ztp (by rw [eA];exact hu) I12 g12 r11 r12 fun s13 I13=>?_
     obtain⟨z1,z2,z3⟩:=weak I13
     exact⟨m',hm',i+1,_,z1,z2,z3,w12⟩
  ·exact I4
 exact codeAny_compStart_dict (key _ rfl) (T.self _ 0 _ _ _ st4 (key _ rfl))
theorem zmL{kx vx tg iter:Expr}{ifs:List Expr}{scope:Scope}{pos:Pos}{wi:TI}{g:TG}{tc:TT}{tk tv:TE}(L:List Str)(ix:List Nat)(M:List Str)(hu:X.A.units+1<cLine)(hc:X.calm=true)(hk:scope.kind=.function)
  (hd:zca X.env.scope scope X.N ix=true)(hM:M=L++ix.map fun i=>X.N.getD i "") (hi:PI X tg iter wi)
  (hg:∀ C s₃ H₃ fp,PG (zap X M scope C s₃ H₃ fp) tg g) (hgo:zly L.length g)
  (ht:∀ C s₃ H₃ fp,PTs (zap X M scope C s₃ H₃ fp) ifs tc) (hke:∀ C s₃ H₃ fp,PE (zap X M scope C s₃ H₃ fp) kx tk) (he:∀ C s₃ H₃ fp,PE (zap X M scope C s₃ H₃ fp) vx tv)
  (hs:∀ x,foldedSetIterable iter X.env x=pure x:=by intro _;rfl) :
  PE X (.DictComp kx vx [⟨tg,iter,ifs,0⟩] scope pos) (zkN L.length ix wi g tc tk tv):=by
 unfold zca at hd
 simp only [Bool.and_eq_true,List.all_eq_true,bne_iff_ne,ne_eq,Bool.or_eq_true,beq_iff_eq,decide_eq_true_eq,Bool.not_eq_true',List.contains_eq_mem,decide_eq_false_iff_not] at hd
 obtain⟨⟨d1,d2⟩,d3⟩:=hd
 have eM:M=L++zeg X ix:=by rw [hM];unfold zeg;rfl
 subst eM
 refine zof (L:=L) (ix:=ix) hu hc ⟨hk,fun y hy e=>?_,fun y hy e=>?_,fun x hx=>?_,fun y hy e=>?_⟩ d3 hi hg hgo ht hke he hs
 ·rcases (d1 y hy).1.1 with z|z
  ·exact absurd e z
  ·exact z
 ·rcases (d1 y hy).1.2 with z|z
  ·exact absurd e z
  ·exact z
 ·unfold zeg at hx
  exact d2 x hx
 ·rcases (d1 y hy).2 with z|z
  ·exact absurd e z
  ·exact z
end
end L2
namespace FL
open PySem L2 PySem.Spec
open PyProof.Rows hiding St
theorem zpc:∀(i:Nat) (l:List D),(zf5 i l).length=l.length
 | _,[]=>rfl
 | i,d::r=>by rw [zf5,List.length_cons,List.length_cons,zpc]
theorem zpd:∀{i:Nat} {l:List D} {j:Nat} {x:D},(zf5 i l)[j]?=some x->∃ d,l[j]?=some d/\x=.tuple [.int ((i+j:Nat):Int),d]
 | _,[],_,_,h=>by simp [zf5] at h
 | i,d::r,0,x,h=>by
  simp only [zf5,zz0,Option.some.injEq] at h
  exact⟨d,rfl,h.symm⟩
 | i,d::r,j+1,x,h=>by
  simp only [zf5,zz1] at h
  obtain⟨d',h1,h2⟩:=zpd h
  refine⟨d',by simpa using h1,?_⟩
  rw [h2,Nat.add_assoc,Nat.add_comm 1 j]
section
variable [Cs]{K:W.Frag}{X:Cx}{e e':Expr}{fa:AF}{pos:Pos}{es:List Expr}{k:Nat}{p0 p:Pos}
theorem ztl{H:Hp}{t:Addr}{a b:D}{u v:V}(h0:H t=none)(fa:Fz K H a u)(fb:Fz K H b v):Fz K (upd H t (.tup [u,v])) (.tuple [a,b]) (.ref t):=by
 have m:Fzn H (upd H t (.tup [u,v])):=Fzn.of (zaB.upd h0)
 simp only [Fz,zaf]
 exact⟨t,[u,v],rfl,.inl zal,u,[v],rfl,fa.mono m,v,[],rfl,fb.mono m,rfl⟩
theorem znr{H:Hp}{a:Addr}{vs:List V}{items:List D}(h:FzL K H a vs)(f:zaf K H items vs):Walk K (Ite K a) (zf5 0 items) H:=by
 refine⟨fun i d H' fz e=>?_,fun i H' fz e=>⟨vs,(fz.zsj h).sq,by rw [f.len,<- zpc 0];exact e⟩⟩
 obtain⟨d',e',rfl⟩:=zpd e
 obtain⟨v,ev,fv⟩:=(f.mono fz).get e'
 refine⟨⟨vs,v,(fz.zsj h).sq,ev⟩,fun x H'' y=>?_⟩
 obtain⟨t,v',rfl,ht,rfl,hv⟩:=y
 have ex:=hv vs (fz.zsj h).sq
 rw [ev] at ex
 cases ex
 refine⟨zaB.upd ht,?_⟩
 rw [Nat.zero_add]
 exact ztl ht (zcp _) fv
theorem zp8(hg:Gl X "enumerate") (hm:X.mg "enumerate"=none) (ha:PVA K X [e] fa) (hs:starEach [e] X.env=[(false,eval e X.env)]:=by exact FL.se rfl):PVI K X (.Tuple es k p0) (.Call (.Name "enumerate" p) [e] [] pos) (zvV fa):=.mk fun hK=>by
 subst hK
 refine(zsS hg hm (ha rfl) hs).weak fun σ H R=>?_
 rintro⟨ρ,rel,q⟩
 refine goA rel q fun ds ρ1 vs H1 rel1 st1 fs q1=>?_
 obtain⟨items,ei,q2⟩:=q1.zdP
 cases ds with
 | nil=>cases ei
 | cons d r =>
  cases r with
  | cons _ _=>cases d <;> cases ei
  | nil =>
   cases d with
   | list a =>
    cases ei
    simp only [zaf,Fz] at fs
    obtain⟨_,_,rfl,⟨l,vs,rfl,sx,f⟩,rfl⟩:=fs
    exact⟨l,rfl,⟨vs,sx.sq⟩,q2.now rel1 _ (znr sx f)⟩
   | _=>cases ei
end
section
variable [Cs]{K:W.Frag}{X:Cx}{ke ve tg iter:Expr}{ifs:List Expr}{scope:Scope}{pos:Pos}{it:IF}{g:GF}{t:TF}{kf vf:EF}{dom:List Nat}
theorem zlY{o:HO}(h:Own o):¬ ztK o:=by cases o <;> simp [Own,ztK] at h ⊢
theorem ztj{k:Nat}{ix:List Nat}(nd:ix.Nodup)(hgo:dom.all (fun i=>decide (i<k))=true)(σ:L2.St)(H:Hp)(Q:VK)(q:tN K (ze0 k ix it g t kf vf) σ H Q):zkN k ix (tI K it) (tG K dom g) (tT K t) (tV K kf) (tV K vf) σ H Q:=by
 revert q
 rintro⟨ρ0,rel0,q⟩
 obtain⟨x,ex,q⟩:=q.bnd
 refine⟨ρ0,rel0,?_⟩
 rw [ex]
 intro H1 rel1 st1 J wk l hl
 obtain⟨items,ρs⟩:=x
 have hl0:H l=none:=by
  cases e:H l with
  | none=>rfl
  | some o =>
   by_cases m:MA ρ0 σ l
   ·obtain⟨o',e',_⟩:=rel1.za5 (st1.ma.mp m)
    rw [hl] at e';cases e'
   ·rw [st1.kp l o e m] at hl;cases hl
 have sl:zaB H1 (upd H1 l (.dT [])):=zaB.upd hl
 refine⟨fun i m H2=>m=items.length-i/\i<=items.length/\∃ ρ acc,zbh K H2 l acc/\Rel K ρ σ H2/\¬ MA ρ σ l/\Fzn H1 H2/\Stp ρ0 ρ σ H H2 /\
  Good K ρ0 σ H ((zem k ix g t kf vf (items.drop i) ρ acc).bind fun(y:D×En)=>.ok (y.1,y.2)) fun d ρ' H'=>∀ a,H a=none->zbh K H' a d->Q (.ref a) H',
  ⟨items.length,by simp,Nat.zero_le _,ρs,.dict [],⟨[],zal,by simp [zbB]⟩,rel1.same sl,fun z=>?_,Fzn.of sl,st1.trans (.of sl),q⟩,?_⟩
 ·obtain⟨o',e',_⟩:=rel1.za5 z
  rw [hl] at e';cases e'
 rintro i m H2 ⟨rfl,hi,ρ,acc,mu,rel,nma,fz,st0,gd⟩
 obtain⟨ob,hly,own⟩:=mu.own
 by_cases c:i<items.length
 ·have ed:=List.drop_eq_getElem_cons c
  rw [ed] at gd
  obtain⟨hgo',hy⟩:=wk.1 i items[i] H2 fz (List.getElem?_eq_getElem c)
  refine .inr ⟨hgo',fun x H3 y=>?_⟩
  obtain⟨sm,fx⟩:=hy x H3 y
  have rel3:Rel K ρ σ H3:=rel.same sm
  obtain⟨w,ew,gd⟩:=gd.zdP
  obtain⟨β1,e1,ew⟩:=zaj (show(g items[i] (blk k ix ρ)).bind _=.ok w from ew)
  obtain⟨c1,ec,ew⟩:=zaj ew
  refine⟨blk k ix ρ,items[i],β1,zpp nd rel3,fx,e1,fun σ1 relβ chg=>⟨β1,relβ,?_⟩⟩
  rw [ec]
  intro H5 rel5 st5
  have hσ:∀ j,σ1[k+j]?=(zef k ix σ)[k+j]?:=fun j=>by
   rcases chg.2 (k+j) with⟨_,c2⟩|⟨m,_⟩
   ·exact c2
   ·have:=of_decide_eq_true (List.all_eq_true.mp hgo _ m)
    omega
  have hβ:∀ j,β1[k+j]?=(blk k ix ρ)[k+j]?:=fun j=>by
   rcases chg.2 (k+j) with⟨c2,_⟩|⟨m,_⟩
   ·exact c2
   ·have:=of_decide_eq_true (List.all_eq_true.mp hgo _ m)
    omega
  have hMA:∀ a,MA β1 σ1 a->MA (blk k ix ρ) (zef k ix σ) a:=fun a ⟨j,⟨p,d,z1⟩,z2⟩=>by
   rcases chg.2 j with⟨c1,c2⟩|⟨_,⟨d',c1⟩,_⟩
   ·exact⟨j,⟨p,d,by rw [<- c1];exact z1⟩,by rw [<- c2];exact z2⟩
   ·rw [c1] at z1;cases z1
  have hMB:∀ a,MA (blk k ix ρ) (zef k ix σ) a->MA ρ σ a:=fun a ⟨j,h⟩=>by
   obtain⟨_,i,_,_,h⟩:=zh1 h
   exact⟨i,h⟩
  have h3l:H3 l=some ob:=sm l _ hly
  have n1:¬ MA β1 σ1 l:=fun z=>nma (hMB l (hMA l z))
  have h5l:H5 l=some ob:=st5.kp l _ h3l n1
  obtain⟨cb,β2⟩:=c1
  cases cb with
  | true =>
   refine zpL ⟨β2,rel5,?_⟩
   obtain⟨y,ey,ew⟩:=zaj (show(kf β2).bind _=.ok w from ew)
   obtain⟨z,ez,ew⟩:=zaj ew
   obtain⟨d',ed',ew⟩:=zaj ew
   rw [ey]
   intro H6 rel6 st6 v fv
   refine⟨y.2,rel6,?_⟩
   rw [ez]
   intro H7 rel7 st7 v2 fv2
   have n2:¬ MA β2 σ1 l:=fun z=>n1 (st5.ma.mpr z)
   have h6l:H6 l=some ob:=st6.kp l _ h5l n2
   have n3:¬ MA y.2 σ1 l:=fun z=>n2 (st6.ma.mpr z)
   have h7l:H7 l=some ob:=st7.kp l _ h6l n3
   have st:Stp β1 z.2 σ1 H3 H7:=(st5.trans st6).trans st7
   obtain⟨rb,sb⟩:=zi8 (k:=k) nd rel3 hσ rel7 (fun j p=>by rw [<- hβ j];exact(st.md (k+j) p).symm) (fun a o h n=>st.kp a o h fun z=>n (hMA a z))
   have nmb:¬ MA (back ρ ix (z.2.drop k)) σ l:=fun z=>nma (sb.ma.mpr z)
   have fz6:Fzn H2 H7:=(Fzn.of sm).trans (sb.fzn rel3)
   have mut7:zbh K H7 l acc:=mu.mono fz6 (by rw [h7l,hly])
   obtain⟨o',dp,mut8⟩:=zto mut7 (fv.mono (st7.fzn rel6)) fv2 ed'
   have fz7:Fzn H7 (upd H7 l o'):=fun b u e s=>by
    rw [zan fun z=>by subst z;rw [h7l] at e;cases e;exact zlY own s]
    exact e
   refine⟨_,dp,items.length-(i+1),by omega,rfl,c,back ρ ix (z.2.drop k),d',mut8,rb.put nmb (fun u e=>by rw [h7l] at e;cases e;exact zlY own),nmb,(fz.trans fz6).trans fz7,⟨((st0.trans (.of sm)).trans sb).md,fun a o h n=>?_⟩,?_⟩
   ·rw [zan fun z=>by subst z;rw [hl0] at h;cases h]
    exact((st0.trans (.of sm)).trans sb).kp a o h n
   ·rw [ew]
    exact gd
  | false =>
   obtain⟨rb,sb⟩:=zi8 (k:=k) nd rel3 hσ rel5 (fun j p=>by rw [<- hβ j];exact(st5.md (k+j) p).symm) (fun a o h n=>st5.kp a o h fun z=>n (hMA a z))
   have nmb:¬ MA (back ρ ix (β2.drop k)) σ l:=fun z=>nma (sb.ma.mpr z)
   have fz6:Fzn H2 H5:=(Fzn.of sm).trans (sb.fzn rel3)
   refine zpM ⟨items.length-(i+1),by omega,rfl,c,back ρ ix (β2.drop k),acc,mu.mono fz6 (by rw [h5l,hly]),rb,nmb,fz.trans fz6,(st0.trans (.of sm)).trans sb,?_⟩
   rw [show zem k ix g t kf vf (items.drop (i+1)) (back ρ ix (β2.drop k)) acc=.ok w from ew]
   exact gd
 ·have e:i=items.length:=by omega
  subst e
  rw [List.drop_length] at gd
  exact .inl ⟨wk.2 _ H2 fz (Nat.le_refl _),gd H2 rel st0 l hl0 mu⟩
theorem znQ(L:List Str)(ix:List Nat)(M:List Str)(hu:X.A.units+1<cLine)(hc:X.calm=true)(hk:scope.kind=.function)(hd:zca X.env.scope scope X.N ix=true)(hM:M=L++ix.map fun i=>X.N.getD i "") (nd:ix.Nodup) (hi:PVI K X tg iter it)
  (hg:∀ C s₃ H₃ fp,PVG K (zap X M scope C s₃ H₃ fp) dom tg g) (hgo:dom.all (fun i=>decide (i<L.length))=true)
  (ht:∀ C s₃ H₃ fp,zpQ K (zap X M scope C s₃ H₃ fp) ifs t) (hke:∀ C s₃ H₃ fp,PV K (zap X M scope C s₃ H₃ fp) ke kf) (he:∀ C s₃ H₃ fp,PV K (zap X M scope C s₃ H₃ fp) ve vf)
  (hs:∀ x,foldedSetIterable iter X.env x=pure x:=by intro _;rfl) :
  PVN K X (.DictComp ke ve [⟨tg,iter,ifs,0⟩] scope pos) (ze0 L.length ix it g t kf vf):=.mk fun hK=>by
 refine(zmL L ix M hu hc hk hd hM (hi hK) (fun C s₃ H₃ fp=>hg C s₃ H₃ fp hK) (ziU hgo) (fun C s₃ H₃ fp=>ht C s₃ H₃ fp hK) (fun C s₃ H₃ fp=>hke C s₃ H₃ fp hK) (fun C s₃ H₃ fp=>he C s₃ H₃ fp hK) hs).weak fun σ H Q q=>ztj nd hgo σ H Q q
end
end FL
namespace L2
open PySem PySem.Spec PyProof.Rows
end L2
namespace FL
open PySem L2 PySem.Spec
open PyProof.Rows hiding St
end FL
namespace PySem
open Spec
section
variable {prog:Program}{w:World}{A:Around}{E:Value->Shared->Prop}{s:Shared}{K:Type}[DecidableEq K]{knd:HeapKind prog w K}
theorem zyd{d a:Addr}{xs:List (K×Addr×Value)}{k:K}{Q:Value->Shared->Prop}(hu:knd.room A.in1)(hkey:knd.is s.heap k a)(hm:s.heap.DictOfH knd d xs)(there:∃ p,(k,p)∈xs)
  (hQ:∀ v h',h'.DictOfH knd d (zdy xs k)->Heap.SameBut d s.heap h'->Q v { s with heap:=h',toks:=s.toks+knd.draws k })(hsz:xs.length<=sizeLine) :
  wpAny (model prog w) A (call (.builtin "dict.pop") [.ref d,.ref a]) Q E s:=by
 refine wpAny_call_entry PySem.F.slot_dict_pop hm.typeIs PySem.F.entry_dict_pop ?_ (PySem.F.args_dict_pop_2 _ _)
 unfold Builtin.«dict.pop»;refine wpAny_bind ?_
 unfold Builtin.Dict.keyAndDefault;refine wpAny_bind (wpAny_notOrdered_dict hm.typeIs ?_)
 show wpAny _ _ (pure (d,Value.ref a,none)) _ _ s;refine wpAny_pure ?_
 obtain⟨o,es,ep,ho,hc,hd,he,his,hn⟩:=id hm
 have ne:es.isEmpty=false:=by
  obtain⟨p,hp⟩:=there
  cases z:es.isEmpty with
  | false=>rfl
  | true =>
   rw [Array.isEmpty_iff] at z
   rw [z] at he
   have:xs=[]:=by simpa using he.symm
   rw [this] at hp;cases hp
 simp only [show(keyPart (Value.ref a)).isSome=false from rfl,Bool.false_eq_true,if_false]
 refine wpAny_bind (wpAny_dictEntries ho hd (wpAny_bind (wpAny_pure ?_)))
 rw [ne];simp only [Bool.false_eq_true,if_false]
 refine wpAny_bind (zlH hu hkey hm there (fun e h' hm' hs'=>?_) hsz)
 simp only [Option.isNone_some,Bool.false_eq_true,if_false];exact wpAny_bind (wpAny_letGo (wpAny_pure ⟨e.val,rfl,hQ e.val h' hm' hs'⟩))
end
end PySem
namespace FL
open PySem L2 PySem.Spec
open PyProof.Rows hiding St
section
section
variable {X:Cx}{pins:List (Addr×Obj)}{σ:L2.St}{H:Hp}{s:Shared}{a b:Addr}{kvs:List (List Key×V)}{k:List Key}{A:Around}{E:Value->Shared->Prop}
theorem zvv{Q:Value->Shared->Prop}(hu:A.units+1<cLine)(I:Inv X pins σ H s)(e:H a=some (.dT kvs))(eb:TAt H b (k.map kV))(l:(zlD kvs k).isSome=true)(h:∀ v s',Inv X pins σ (upd H a (.dT (zcY kvs k))) s'->Q v s') :
  wpAny (model X.prog X.w) A (call (.builtin "dict.pop") [.ref a,.ref b]) Q E s:=by
 obtain⟨z,hd,xs,rel,dd⟩:=zpe I.hok e
 have hz:xs.length<=sizeLine:=by rw [<- Paired.length rel];exact z
 have there:∃ p,(k,p)∈xs:=by
  have hv:=rel.val k
  obtain⟨v,ev⟩:=Option.isSome_iff_exists.mp l
  rw [ev] at hv
  obtain⟨w',hw,_⟩:=znm.some_of (v:=v) (o:=(atKey xs k).map (·.2)) hv
  obtain⟨p,hp,_⟩:=Option.map_eq_some_iff.mp hw
  unfold atKey at hp
  obtain⟨x,hx,ex⟩:=Option.map_eq_some_iff.mp hp
  have h0:=List.find?_some hx
  have h1:x.1=k:=of_decide_eq_true h0
  exact⟨x.2,by rw [<- h1];exact List.mem_of_find?_eq_some hx⟩
 refine zyd (tupleKind_room_in1 hu) (zcW I.hok eb) dd there (fun v h' dd' hs=>h v _ ?_) hz
 obtain⟨q,es,ep,hq,h2,h3,h4,_,h5⟩:=dd'
 refine zgV I (by rw [e];exact True.intro) hs ⟨q,hq⟩ ⟨Nat.le_trans (zmo kvs k) z,hd,_,(rel.drop k).keeps fun c ys ec=>?_,q,es,ep,hq,h2,h3,h4,h5⟩
 exact ec.upd (fun _ z=>zhs z e (fun z=>nomatch z)) fun _ _ z=>zhs z e (fun z=>nomatch z)
end
section
variable {X:Cx}{o e:Expr}{td ty:TE}{apos cpos pos:Pos}
def zwi(td ty:TE):TS:=fun D σ H=>td σ H fun x H1=>∃ a,x=.ref a/\IsD H1 a/\ty σ H1 fun y H2=>∃ o,DDl H2 a y o/\D.nx σ (upd H2 a o)
theorem zsJ(hu:X.A.units+1<cLine)(ho:PE X o td)(he:PE X e ty)(m:M1 X o "pop" apos e cpos) (hs:swapsWith (.Call (.Attribute o "pop" apos) [e] [] cpos) none pos.line X.env=pure false:=by rfl) :
  PS X (.Expr (.Call (.Attribute o "pop" apos) [e] [] cpos) pos) (zwi td ty):=by
 intro pins s σ H D I h
 refine wpAny_Expr_any ?_ I.quiet hs
 refine wpAny_Call_method m.base m.few m.line PySem.F.plainAttrs_dict PySem.F.slot_dict_pop PySem.F.type_dict_pop (thn (ho pins s σ H _ I h) fun u s1 ⟨x,H1,I1,rx,a,ex,d,q1⟩=>?_)
 subst ex
 obtain rfl:u=Value.ref a:=rx
 obtain⟨t1,t2,_⟩:=zrP I1 d
 refine⟨t1,t2,?_⟩
 rw [m.trees];refine Calls.callWith_builtin rfl (Calls.evalArgs_plain (Calls.spliced_cons (thn (he pins s1 σ H1 _ I1 q1) fun iv s2 ⟨y,H2,I2,ry,o2,g,q2⟩=>Calls.spliced_nil ?_)))
 obtain⟨kvs,k,b,e,rfl,eb,l,rfl⟩:=g
 cases (show iv=Value.ref b from ry)
 exact zvv hu I2 e eb l fun v s3 I3=>⟨σ,_,I3,q2⟩
end
section
variable [Cs]{K:W.Frag}{X:Cx}{pos:Pos}
theorem zp2{y:Str}{py apos cpos:Pos}{ke:Expr}{k:EF}(i:Nat)(hu:X.A.units+1<cLine)(ha:PE X (.Name y py) (zin i))(hk:PV K X ke k)(m:M1 X (.Name y py) "pop" apos ke cpos)
  (hs:swapsWith (.Call (.Attribute (.Name y py) "pop" apos) [ke] [] cpos) none pos.line X.env=pure false:=by rfl):PSV K X (.Expr (.Call (.Attribute (.Name y py) "pop" apos) [ke] [] cpos) pos) (zpj i k):=.mk fun hK C=>by
 subst hK
 refine(zsJ hu ha (hk rfl) m hs).weak fun Dn σ H=>?_
 rintro⟨ρ,rel,g⟩
 obtain⟨d,ed,g1⟩:=g.bnd
 obtain⟨ks,ek,g2⟩:=g1.bnd
 obtain⟨a,at0,m0⟩:=rel.rel.zkX ed
 refine⟨.ref a,at0.2,a,rfl,?_,zm0 rel g2 fun dk ρ2 kv H2 rel2 st2 fk g3=>?_⟩
 ·cases d with
  | dict kvs=>exact zhM (d:=.none) m0
  | _=>cases ek
 obtain⟨c,ec,g4⟩:=g3.bnd
 obtain⟨d',ed',g5⟩:=g4.bnd
 obtain⟨o,dd,mm⟩:=zvu (rel2.rel.again ec at0) fk ed'
 obtain⟨a2,at2,_⟩:=rel2.rel.zkX ec
 have:=at0.2.symm.trans at2.2
 cases this
 exact⟨o,dd,zqV rel2 at2 mm g5⟩
end
end
section
end
end FL
namespace L2
open PySem PySem.Spec PyProof.Rows
open PySem.SeqAt
open PySem.AutoSeq1 (wpAny_loadPart')
open PySem.MeetsSeq PySem.MeetsSeq2 PySem.MeetsSeq3
section
variable {X:Cx}{pins:List (Addr×Obj)}{σ:L2.St}{H:Hp}{s:Shared}
theorem ztb(hu:X.A.units+2<cLine)(I:Inv X pins σ H s){k k':WK}{v v':V}{u u':Value}{Q:Value->Shared->Prop}{E:Value->Shared->Prop}(h:zeH H k v)(h':zeH H k' v')(r:RelV v u)(r':RelV v' u')
  (q:Q (.bool (ltK k k')) s):wpAny (model X.prog X.w) X.A (compareOp .Lt u u') Q E s:=by
 obtain⟨b,o,n0,c,tk,rfl,ho,hc,hd,hw⟩:=zgF I h r
 obtain⟨b',o',n0',c',tk',rfl,ho',hc',hd',hw'⟩:=zgF I h' r'
 refine wpAny_richCompare_same_room (op:=.Lt) (T:="tuple") (id:="tuple.__lt__") ⟨_,ho,hc⟩ ⟨_,ho',hc'⟩ PySem.F.slot_tuple_lt (wpAny_call_entry PySem.F.slot_tuple_lt ⟨_,ho,hc⟩ PySem.F.entry_tuple_lt ?_ (PySem.F.args_tuple_lt_2 _ _)) (by omega)
 obtain⟨ocl,od,oda,osl⟩:=o
 obtain⟨ocl',od',oda',osl'⟩:=o'
 simp only at hc hd hc' hd'
 subst hc hd hc' hd'
 obtain⟨hp,g,d,tks,os⟩:=s
 have f2:=AutoSeq1.sub_tuple_tuple
 have i1:=zcW (ks:=k.2.map (Sum.inl (β:=Str))) I.hok (by rw [map_inl];exact hw)
 have i2:=zcW (ks:=k'.2.map (Sum.inl (β:=Str))) I.hok (by rw [map_inl];exact hw')
 obtain⟨its,p1,j1⟩:=ziN I hw
 obtain⟨its',p2,j2⟩:=ziN I hw'
 wp_walk using wpAny_loadPart' ho,wpAny_loadPart' ho',wpAny_forIn_list _ (fun rest bb s'=>bb.1=none/\s'=⟨hp,g,d,tks,os⟩/\((rest=[(Value.int k.1 tk,Value.int k'.1 tk'),(.ref c,.ref c')])\/(k.1=k'.1/\rest=[(Value.ref c,Value.ref c')])\/(k.1=k'.1/\k.2=k'.2/\rest=[]))) _
 case turn =>
  rintro⟨y,x⟩ rest bb s' ⟨hb',rfl,alt⟩
  rcases alt with e|⟨e1,e⟩|⟨e1,e2,e⟩
  ·cases e
   refine wpAny_bind (wpAny_eqBool_int ?_)
   by_cases e1:k.1=k'.1
   ·rw [show(k.1==k'.1)=true from by simpa using e1]
    wp_walk
    exact⟨rfl,rfl,.inr (.inl ⟨e1,rfl⟩)⟩
   ·rw [show(k.1==k'.1)=false from by simpa using e1]
    have hri:=HT.zlN X.A.in1 ⟨hp,g,d,tks,os⟩ k.1 tk k'.1 tk' X.prog X.w
    wp_walk using hri
    refine⟨_,rfl,(fun z=>nomatch z),?_⟩
    unfold ltK at q
    rw [if_neg e1] at q
    exact q
  ·cases e
   refine wpAny_bind (wpAny_eqBool_tuple (by show X.A.units+1<cLine;omega) i1 i2 ?_)
   by_cases e2:k.2=k'.2
   ·rw [show decide (k.2.map (Sum.inl (β:=Str))=k'.2.map Sum.inl)=true from by rw [e2];simp]
    wp_walk
    exact⟨rfl,rfl,.inr (.inr ⟨e1,e2,rfl⟩)⟩
   ·rw [show decide (k.2.map (Sum.inl (β:=Str))=k'.2.map Sum.inl)=false from decide_eq_false fun z=>e2 (by
     have:=congrArg (List.map (Sum.elim id fun _=>(0:Int))) z
     simpa [List.map_map,Function.comp_def] using this)]
    have hri:∀{C:Value->Shared->Prop} {E:Value->Shared->Prop},C (.bool (HT.lexLt k.2 k'.2)) ⟨hp,g,d,tks,os⟩->wpAny (model X.prog X.w) X.A.in1 (richCompare .Lt (.ref c) (.ref c')) C E ⟨hp,g,d,tks,os⟩:=fun{C E} hC=>HT.zfk p1 p2 j1 j2 (by show X.A.units+1<cLine;omega) hC
    wp_walk using hri
    refine⟨_,rfl,(fun z=>nomatch z),?_⟩
    unfold ltK at q
    rw [if_pos e1] at q
    exact q
  ·cases e
 case fin =>
  rintro⟨b1,b2⟩ s' ⟨hb',rfl,alt⟩
  simp only at hb'
  subst hb'
  rcases alt with e|⟨e1,e⟩|⟨e1,e2,e⟩
  ·cases e
  ·cases e
  ·wp_walk
   refine⟨_,rfl,(fun z=>nomatch z),?_⟩
   unfold ltK at q
   rw [if_pos e1,e2] at q
   have z:HT.lexLt k'.2 k'.2=false:=by
    cases hz:HT.lexLt k'.2 k'.2 with
    | false=>rfl
    | true=>exact hz.symm.trans (zma _ _ hz)
   rw [z] at q
   exact q
 case h=>exact⟨rfl,rfl,.inl rfl⟩
end
end L2
namespace FL
open PySem L2 PySem.Spec
open PyProof.Rows hiding St
theorem zxM{α:Type}{o:Option α}{a:α}(h:R.of o=.ok a):o=some a:=by
 cases o with
 | none=>cases h
 | some x=>cases h;rfl
theorem ztO[Cs]{K:W.Frag}{H:Hp}{d:D}{w:WK}{v:V}(e:zpR d=some w)(t:Tp K H d v):Fz K H d v:=by
 cases d with
 | list _=>cases e
 | dict _=>cases e
 | _=>exact t
theorem zwE[Cs]{X:Cx}(hu:X.A.units+64<cLine):OpR X (compareOp .Lt) (rD X.K zuX):=by
 intro pins s σ H x y v u Q I rx ry h
 obtain⟨dx,dy,d,tx,ty,e,k⟩:=h
 obtain⟨p,ep,e⟩:=zaj (show(R.of (zpR dx)).bind _=.ok d from e)
 obtain⟨q,eq,e⟩:=zaj e
 cases e
 have hp:=zxM ep
 have hq:=zxM eq
 refine ztb (by omega) I (znp hp (ztO hp tx)) (znp hq (ztO hq ty)) rx ry ⟨.bl (ltW p q),H,I,?_,k _ H (zaB.refl _) (zhy _)⟩
 show Value.bool (ltK p q)=.bool (ltW p q)
 unfold ltK ltW
 rw [zge]
theorem zvD[Cs]{X:Cx}{j:Nat}(hr:zce j X.A):CallD X (.type "str") zse:=by
 intro pins s σ H xs us Q I r h
 obtain⟨x,dx,d,rfl,tx,e,q⟩:=h
 obtain⟨u,rfl,ru⟩:=vals1 r
 have hu:=hr.un
 have key:∀{D':PyData} {a:Addr},Tp X.K H D' (.ref a)->(PyData.canLay0 D'&&(PyData.showable D'&&(leB (PyData.depth D') 60&&leB (PyData.shown D').length lim)))=true->u=.ref a->(∀ v H',zaB H H'->Fz X.K H' (.str D'.shown) v->Q v H') ->
   wpAny (model X.prog X.w) X.A (call (.type "str") [u]) (EP X pins σ Q) X.xe s:=fun{D' a} ht c eu q=>by
  simp only [Bool.and_eq_true,leB_iff] at c
  obtain⟨c1,c2,c3,c4⟩:=c
  subst eu
  obtain⟨as,rd⟩:=Is.reads I _ _ (.ref a) (Tp.is c1 ht) rfl
  refine str_of_reads rd c2 (PyData.noDict_hsm (PyData.hasDict_of_canLay _ c1)) hr.gd (by omega) (fun _ _ e=>e) (fun h' t tk kp=>?_) (by have:=zb0;omega)
  exact⟨.str D'.shown,H,I.kept kp,⟨t,rfl⟩,q _ H (zaB.refl _) (by simp only [Fz])⟩
 cases dx with
 | list l =>
  obtain⟨c,e⟩:=za1 (show chk _ (.ok (.str (PyData.shown (.list l))))=.ok d from e)
  cases e
  obtain⟨p,vs,rfl,sx,fx⟩:=tx.lst
  exact key tx c ru q
 | tuple l =>
  obtain⟨c,e⟩:=za1 (show chk _ (.ok (.str (PyData.shown (.tuple l))))=.ok d from e)
  cases e
  obtain⟨p,vs,rfl,sx,fx⟩:=tx.tup
  exact key tx c ru q
 | _=>exact nomatch (show(R.bad:R D)=.ok d from e)
theorem zwD[Cs]{X:Cx}:OpR X (compareOp .NotEq) (rD X.K zwJ):=by
 intro pins s σ H x y v u Q I rx ry h
 obtain⟨dx,dy,d,tx,ty,e,k⟩:=h
 cases dx with
 | str a =>
  cases dy with
  | str b =>
   cases e
   have ex:x=.str a:=by simpa [Tp,Fz] using tx
   have ey:y=.str b:=by simpa [Tp,Fz] using ty
   subst ex ey
   obtain⟨t,rfl⟩:=rx
   obtain⟨t',rfl⟩:=ry
   refine ne_str ⟨.bl _,H,I,rfl,?_⟩
   exact k _ H (zaB.refl _) (zhy _)
  | _=>exact nomatch (show(R.bad:R D)=.ok d from e)
 | _=>exact nomatch (show(R.bad:R D)=.ok d from e)
end FL
namespace FL
open PySem
def intD:D->R D
 | .bool b=>.ok (.int (if b then 1 else 0))
 | .int i=>.ok (.int i)
 | _=>.bad
end FL
namespace L2
open PySem PySem.Spec PyProof.Rows PySem.W
end L2
namespace FL
open PySem L2 PySem.Spec
open PyProof.Rows hiding St
section
variable [Cs]
section
variable {K:W.Frag}{X:Cx}{b:Expr}{h:EF}{pos:Pos}
theorem zxa:CallD X (.type "int") intD:=by
 intro pins s σ H xs us Q I r h
 obtain⟨x,dx,d,rfl,tx,e,q⟩:=h
 obtain⟨u,rfl,ru⟩:=vals1 r
 cases dx with
 | bool c =>
  have tx:Fz X.K H (.bool c) x:=tx
  simp only [Fz] at tx
  subst tx
  cases e
  cases ru
  exact PySem.call_int_bool ⟨.int _,H,I.tok _,⟨_,rfl⟩,q _ H (zaB.refl _) (by simp [Fz])⟩
 | int i =>
  have tx:Fz X.K H (.int i) x:=tx
  simp only [Fz] at tx
  subst tx
  cases e
  obtain⟨t,rfl⟩:=ru
  exact PySem.call_int_int ⟨.int i,H,I,⟨t,rfl⟩,q _ H (zaB.refl _) (by simp [Fz])⟩
 | _=>exact nomatch (show(R.bad:R D)=.ok d from e)
end
end
section
variable [Cs]
section
variable {P:Program}{w:World}{K:W.Frag}{mg:Str->Option Value}{base:Heap}{x:Str}{st:Stmt}{ps:List Str}{k:Nat}{b:SF}{fr:Bool}
theorem fnM(ms:List Bool)(N:List Str)(h:Has K mg x st)
  (hb:∀{f:Addr} {cdv:Value} {A:Around} {outer:List Env} {s:Shared} {H:Hp} {E:XK},zce k (A.deeper (envOfC x (zau st) s.heap.objs.size f cdv))->N.Nodup->zjc K (zpP (CXe P w) P w K mg base N x (zau st) f cdv A outer s H E).nox (zbL st) b)
  (S:zdT N ps (zau st):=by exact⟨rfl,rfl,rfl,by decide +kernel,rfl,by decide +kernel,by decide +kernel⟩)(hps:ps.length=ms.length:=by rfl)(hpN:ps.length<=N.length:=by decide)
  (hbi:∀(kV doc pm:Value) (an:Option Addr) (cdv ct:Value) (us:List Value),us.length=ps.length->bindArgs (PySem.W.fnOf x x (zdn st) (zbL st) (zau st) .none kV doc pm an cdv ct) ⟨us,[]⟩=pure (ps.zip us):=by
   first
    | exact fun _ _ _ _ _ _ us hl=>match us,hl with | [_],_=>rfl
    | exact fun _ _ _ _ _ _ us hl=>match us,hl with | [_,_],_=>rfl
    | exact fun _ _ _ _ _ _ us hl=>match us,hl with | [_,_,_],_=>rfl
    | exact fun _ _ _ _ _ _ us hl=>match us,hl with | [_,_,_,_],_=>rfl
    | exact fun _ _ _ _ _ _ us hl=>match us,hl with | [_,_,_,_,_],_=>rfl):Callee P w K mg base x (k+1) ps (spF K ms fr (FL.run ms fr N.length b)) :=
 zvm ms fr h S hps hpN hbi fun f cdv A outer s H E hr=>znP (hb hr S.nd)
theorem fnP(N:List Str)(h:Has K mg x st)
  (hb:∀{f:Addr} {cdv:Value} {A:Around} {outer:List Env} {s:Shared} {H:Hp} {E:XK},zce k (A.deeper (envOfC x (zau st) s.heap.objs.size f cdv))->N.Nodup->zjc K (zpP (CXe P w) P w K mg base N x (zau st) f cdv A outer s H E).nox (zbL st) b)
  (S:zdT N ps (zau st):=by exact⟨rfl,rfl,rfl,by decide +kernel,rfl,by decide +kernel,by decide +kernel⟩)(hpN:ps.length<=N.length:=by decide)
  (hbi:∀(kV doc pm:Value) (an:Option Addr) (cdv ct:Value) (us:List Value),us.length=ps.length->bindArgs (PySem.W.fnOf x x (zdn st) (zbL st) (zau st) .none kV doc pm an cdv ct) ⟨us,[]⟩=pure (ps.zip us):=by
   first
    | exact fun _ _ _ _ _ _ us hl=>match us,hl with | [_],_=>rfl
    | exact fun _ _ _ _ _ _ us hl=>match us,hl with | [_,_],_=>rfl
    | exact fun _ _ _ _ _ _ us hl=>match us,hl with | [_,_,_],_=>rfl
    | exact fun _ _ _ _ _ _ us hl=>match us,hl with | [_,_,_,_],_=>rfl
    | exact fun _ _ _ _ _ _ us hl=>match us,hl with | [_,_,_,_,_],_=>rfl):Callee P w K mg base x (k+1) ps (spP K ps.length fr (zbj fr ps.length N.length b)) :=
 Callee.pure (fnM (List.replicate ps.length false) N h hb S (by simp) hpN hbi)
end
section
variable {K:W.Frag}{X:Cx}{a b c e:Expr}{es:List Expr}{f h g1 g2:EF}{fa:AF}{pos p:Pos}{j k:Nat}
theorem a1(ha:PV K X a f)(hs:starEach [a] X.env=(false,eval a X.env)::starEach [] X.env:=by exact FL.se rfl):PVA K X [a] (zaa f zah):=zd1 ha zbH hs
theorem a2(ha:PV K X a f)(hb:PV K X b h)(hs:starEach [a,b] X.env=(false,eval a X.env)::starEach [b] X.env:=by exact FL.se rfl)(hs2:starEach [b] X.env=(false,eval b X.env)::starEach [] X.env:=by exact FL.se rfl):PVA K X [a,b] (zaa f (zaa h zah)):=zd1 ha (a1 hb hs2) hs
theorem a3(ha:PV K X a f)(hb:PV K X b h)(hc:PV K X c g1)(hs:starEach [a,b,c] X.env=(false,eval a X.env)::starEach [b,c] X.env:=by exact FL.se rfl)(hs2:starEach [b,c] X.env=(false,eval b X.env)::starEach [c] X.env:=by exact FL.se rfl)(hs3:starEach [c] X.env=(false,eval c X.env)::starEach [] X.env:=by exact FL.se rfl):PVA K X [a,b,c] (zaa f (zaa h (zaa g1 zah))):=zd1 ha (a2 hb hc hs2 hs3) hs
variable {ps:List Str}{x y:Str}{G:List D->R D}{n:Nat}{py:Pos}
theorem zbR(cc:Callee X.prog X.w X.K X.mg X.base x k ps (spP X.K n false G))(hr:zce j X.A)(ha:PVA K X (e::es) fa)(hl:ztD fa n:=by repeat (first|exact zmx|refine zku ?_))(hg:Gl X x:=by rfl)(hj:k<=j:=by decide)(hdb:(x==("__debug__":Str))=false:=by decide)
  (he:starEach (e::es) X.env=(false,eval e X.env)::starEach es X.env:=by exact FL.se rfl) (hpl:(backTo pos (starEach es X.env)).any (·.1)=false:=by exact FL.sp rfl):PV K X (.Call (.Name x p) (e::es) [] pos) (zag G fa):=zsB cc hr hg ziD ha hl hj hdb he hpl
theorem za3(cc:Callee X.prog X.w X.K X.mg X.base x k ps (spP X.K n true G))(hr:zce j X.A)(ha:PVA K X (e::es) fa)(hl:ztD fa n:=by repeat (first|exact zmx|refine zku ?_))(hg:Gl X x:=by rfl)(hj:k<=j:=by decide)(hdb:(x==("__debug__":Str))=false:=by decide)
  (he:starEach (e::es) X.env=(false,eval e X.env)::starEach es X.env:=by exact FL.se rfl) (hpl:(backTo pos (starEach es X.env)).any (·.1)=false:=by exact FL.sp rfl):PVN K X (.Call (.Name x p) (e::es) [] pos) (zag G fa):=zp7 cc hr hg ziD ha hl hj hdb he hpl
variable {F:List D->R (D×List D)}{ar:List Ar}
theorem zdd(cc:Callee X.prog X.w X.K X.mg X.base x k ps (spF X.K (arM ar) false F))(hr:zce j X.A)(ha:znb K X (e::es) ar)(ho:ztN F (arM ar).length:=by exact zl1)(nd:(arI ar).Nodup:=by decide)(ct:arT ar<=1:=by decide)(hg:Gl X x:=by rfl)(hj:k<=j:=by decide)(hdb:(x==("__debug__":Str))=false:=by decide)
  (he:starEach (e::es) X.env=(false,eval e X.env)::starEach es X.env:=by exact FL.se rfl) (hpl:(backTo pos (starEach es X.env)).any (·.1)=false:=by exact FL.sp rfl):PV K X (.Call (.Name x p) (e::es) [] pos) (zao F ar):=zqc cc ho nd ct hr hg ziD ha hj hdb he hpl
theorem zuf(cc:Callee X.prog X.w X.K X.mg X.base x k ps (spF X.K (arM ar) true F))(hr:zce j X.A)(ha:znb K X (e::es) ar)(ho:ztN F (arM ar).length:=by exact zl1)(nd:(arI ar).Nodup:=by decide)(ct:arT ar<=1:=by decide)(hg:Gl X x:=by rfl)(hj:k<=j:=by decide)(hdb:(x==("__debug__":Str))=false:=by decide)
  (he:starEach (e::es) X.env=(false,eval e X.env)::starEach es X.env:=by exact FL.se rfl) (hpl:(backTo pos (starEach es X.env)).any (·.1)=false:=by exact FL.sp rfl):PVN K X (.Call (.Name x p) (e::es) [] pos) (zao F ar):=znR cc ho nd ct hr hg ziD ha hj hdb he hpl
theorem zh8(i:Nat)(h:znb K X es ar)(ha:PE X (.Name y py) (zin i):=by exact pv _)(hs:starEach (.Name y py::es) X.env=(false,eval (.Name y py) X.env)::starEach es X.env:=by exact FL.se rfl):znb K X (.Name y py::es) (.m i::ar):=zug i ha h hs
theorem zeu{id:String}{g:D->R D}(hc:CallD X (.builtin id) g)(hm:X.mg x=none)(hv:bootBuiltins x=some (.builtin id))(ha:PV K X e f)(hg:Gl X x:=by rfl)(hn:x ≠ "__name__":=by decide) (hdb:(x==("__debug__":Str))=false:=by decide)
  (he:starEach [e] X.env=(false,eval e X.env)::starEach [] X.env:=by exact FL.se rfl) (hpl:(backTo pos (starEach [] X.env)).any (·.1)=false:=by exact FL.sp rfl):PV K X (.Call (.Name x p) [e] [] pos) (e1 g f):=znT (zqd (CallD.ds hc) hg hm hv (a1 ha he) hn hdb he hpl)
theorem zmI{T:String}{g:D->R D}(hc:CallD X (.type T) g)(hm:X.mg x=none)(hv:bootBuiltins x=some (.type T))(ha:PV K X e f)(hg:Gl X x:=by rfl)(hn:x ≠ "__name__":=by decide) (hdb:(x==("__debug__":Str))=false:=by decide)
  (he:starEach [e] X.env=(false,eval e X.env)::starEach [] X.env:=by exact FL.se rfl) (hpl:(backTo pos (starEach [] X.env)).any (·.1)=false:=by exact FL.sp rfl):PV K X (.Call (.Name x p) [e] [] pos) (e1 g f):=znT (znW (CallD.ds hc) hg hm hv (a1 ha he) hn hdb he hpl)
theorem znU{T:String}{tn:Str}{p2:Pos}(kt:znc T)(hm:X.mg "isinstance"=none) (hm2:X.mg tn=none) (hv2:bootBuiltins tn=some (.type T)) (ha:PV K X a f) (hg:Gl X "isinstance":=by rfl) (hg2:Gl X tn:=by rfl) (hn:tn ≠ "__name__":=by decide) (hd:(tn==("__debug__":Str))=false:=by decide)
  (hs1:starEach [a,.Name tn p2] X.env=(false,eval a X.env)::starEach [.Name tn p2] X.env:=by exact FL.se rfl) (hs2:starEach [.Name tn p2] X.env=(false,eval (.Name tn p2) X.env)::starEach [] X.env:=by exact FL.se rfl) (hpl:(backTo pos (starEach [.Name tn p2] X.env)).any (·.1)=false:=by exact FL.sp rfl) :
  PV K X (.Call (.Name "isinstance" p) [a,.Name tn p2] [] pos) (e1 (zdK T) f):=zuk kt hg hm hg2 hm2 hv2 ha hn hd hs1 hs2 hpl
theorem zuc(hr:zce j X.A):OpR X (compareOp .Eq) (rD X.K eqD):=zyk hr.units
theorem znl(hr:zce j X.A):OpR X (compareOp .NotEq) (rD X.K neD):=zye hr.units
theorem ztG(hr:zce j X.A):OpR X (compareOp .Lt) (rD X.K ltD):=zyf hr.units
theorem zwo(hr:zce j X.A):OpR X (compareOp .LtE) (rD X.K leD):=zyg hr.units
theorem zxu(hr:zce j X.A):OpR X (compareOp .Gt) (rD X.K gtD):=zyh hr.units
theorem zx9(hr:zce j X.A):OpR X (compareOp .GtE) (rD X.K geD):=zyi hr.units
theorem zub(hr:zce j X.A):OpR X (compareOp .In) (rD X.K inD):=zuK (zcx hr)
theorem zso(hr:zce j X.A):IxR X (rD X.K zfc):=ztg (zcx hr)
variable {op:CmpOp}{g:D->D->R D}{z:Str}{pz:Pos}
theorem znV(ho:OpR X (compareOp op) (rD X.K g))(ha:PV K X a f)(hb:PV K X b h)(hm:behindInMarks op b=false:=by first|exact zon _|rfl):PV K X (.Compare a [op] [b] pos) (e2 g f h):=zul ho ha hb hm
theorem za2(ho:OpR X (compareOp op) (rD X.K g))(ha:PV K X a f)(hb:PV K X b h)(hm:behindInMarks op b=false:=by first|exact zon _|rfl):PVT K X (.Compare a [op] [b] pos) (tB (e2 g f h)):=zsr ho ha hb hm
theorem zsq(i:Nat)(ho:OpR X (compareOp op) (rD X.K g))(hb:PV K X a f)(ha:PE X (.Name y py) (zin i):=by exact pv _)(hm:behindInMarks op (.Name y py)=false:=by first|exact zon _|rfl):PVT K X (.Compare a [op] [.Name y py] pos) (tB (m2r g f i)):=zsp i ho hb ha hm
theorem zjE(i:Nat)(ho:IxR X (rD X.K g))(hb:PV K X b h)(ha:PE X (.Name y py) (zin i):=by exact pv _)(hs:zjb b:=by exact fun _ _=>rfl):PV K X (.Subscript (.Name y py) b pos) (m2 g i h):=zuj i ho ha hb hs
theorem zb5(he:PV K X e f):zjc K X [.Return (some e) pos] (zaD f):=zam (zst he)
theorem zaM(i:Nat)(hN:X.N.Nodup)(he:PV K X e f)(hi:X.N[i]?=some x:=by rfl)(hx:Loc X.env.scope x:=by first|exact Or.inl rfl|exact Or.inr rfl)(hs:swapsWith e (some (.Name x py)) pos.line X.env=pure false:=by rfl)(hf:X.fn x=true\/X.env.scope.names.lookup x=some .local:=by first|exact .inl rfl|exact .inr rfl|assumption):PSV K X (.Assign [.Name x py] e pos) (zaL (gN i) f):=zss hN hi hx he hs hf
theorem zeh(i:Nat)(hN:X.N.Nodup)(he:PVN K X e f)(hi:X.N[i]?=some x:=by rfl)(hx:Loc X.env.scope x:=by first|exact Or.inl rfl|exact Or.inr rfl)(hs:swapsWith e (some (.Name x py)) pos.line X.env=pure false:=by rfl)(hf:X.fn x=true\/X.env.scope.names.lookup x=some .local:=by first|exact .inl rfl|exact .inr rfl|assumption):PSV K X (.Assign [.Name x py] e pos) (zdE i f):=zsv hN hi hx he hs hf
theorem g_n(i:Nat)(hN:X.N.Nodup)(hi:X.N[i]?=some x:=by rfl)(hx:Loc X.env.scope x:=by first|exact Or.inl rfl|exact Or.inr rfl)(hf:X.fn x=true\/X.env.scope.names.lookup x=some .local:=by first|exact .inl rfl|exact .inr rfl|assumption):PVG K X [i] (.Name x pos) (gN i):=zp9 hN hi hx hf
theorem zjC(i j:Nat){kt k2:Nat}{px pt pt2:Pos}(nd:X.N.Nodup)(ha:PV K X a f)(hb:PV K X b h)(hc:X.calm=true:=by rfl)(hi:X.N[i]?=some x:=by rfl)(hj:X.N[j]?=some y:=by rfl)(ij:i≠j:=by decide)(l1:X.env.scope.names.lookup x=some .local:=by rfl)(l2:X.env.scope.names.lookup y=some .local:=by rfl)
  (sw:swappedStores [.Tuple [.Name x px,.Name y py] kt pt] (.Tuple [a,b] k2 pt2) X.env=pure (some [x,y]):=by rfl)(s1:swapsWithSole [.Tuple [.Name x px,.Name y py] kt pt] (.Tuple [a,b] k2 pt2) pos.line X.env=pure false:=by rfl)(s2:starEach [a,b] X.env=(false,eval a X.env)::starEach [b] X.env:=by exact FL.se rfl)(s3:starEach [b] X.env=(false,eval b X.env)::starEach [] X.env:=by exact FL.se rfl) :
  PSV K X (.Assign [.Tuple [.Name x px,.Name y py] kt pt] (.Tuple [a,b] k2 pt2) pos) (zgr i j f h):=zsu hc nd hi hj ij l1 l2 ha hb sw s1 s2 s3
variable {it:IF}{gg:GF}{bb:SF}{body:List Stmt}{dom:List Nat}{tg:Expr}
theorem zcy(hi:PVI K X tg e it)(hg:PVG K X dom tg gg)(hb:zjc K X body bb)(hp:PassesOwn (model X.prog X.w) X.A X.env X.xe:=by exact PassesOwn.never)(hc:X.calm=true:=by rfl)(hs:∀ v,foldedSetIterable e X.env v=pure v:=by intro _;rfl):PSV K X (.For tg e body [] pos) (zep it gg bb):=zsw hp hc hi hg hb hs
variable {elt iter ke ve:Expr}{ifs:List Expr}{scope:Scope}{t:TF}{kf vf:EF}
theorem cp(L:List Str)(ix:List Nat)(M:List Str)(hi:PVI K X tg iter it)(hg:∀{C:Addr} {s₃:Shared} {H₃:Hp} {fp:List Addr},M.Nodup->PVG K (zap X M scope C s₃ H₃ fp) dom tg gg)(ht:∀{C:Addr} {s₃:Shared} {H₃:Hp} {fp:List Addr},zpQ K (zap X M scope C s₃ H₃ fp) ifs t)(he:∀{C:Addr} {s₃:Shared} {H₃:Hp} {fp:List Addr},PV K (zap X M scope C s₃ H₃ fp) elt f)
  (hc:X.calm=true:=by rfl)(hk:scope.kind=.function:=by rfl)(ho:zca X.env.scope scope X.N ix=true:=by kernel_rfl)(hM:M=L++ix.map (fun i=>X.N.getD i ""):=by rfl) (nd:ix.Nodup:=by decide) (hMn:M.Nodup:=by decide +kernel) (hd:(dom.all fun i=>decide (i<L.length))=true:=by decide) (hs:∀ v,foldedSetIterable iter X.env v=pure v:=by intro _;rfl) :
  PVN K X (.ListComp elt [⟨tg,iter,ifs,0⟩] scope pos) (zdm L.length ix it gg t f):=zp6 L ix M hc hk ho hM nd hi (fun _ _ _ _=>hg hMn) hd (fun _ _ _ _=>ht) (fun _ _ _ _=>he) hs
theorem cpS(i0:Nat)(L:List Str)(ix:List Nat)(M:List Str)(hN:X.N.Nodup)(hi:PVI K X tg iter it)(hg:∀{C:Addr} {s₃:Shared} {H₃:Hp} {fp:List Addr},M.Nodup->PVG K (zap X M scope C s₃ H₃ fp) dom tg gg)(ht:∀{C:Addr} {s₃:Shared} {H₃:Hp} {fp:List Addr},zpQ K (zap X M scope C s₃ H₃ fp) ifs t)(he:∀{C:Addr} {s₃:Shared} {H₃:Hp} {fp:List Addr},PV K (zap X M scope C s₃ H₃ fp) elt f)
  (h0:X.N[i0]?=some x:=by rfl)(hl:X.env.scope.names.lookup x=some .local:=by rfl)(hsw:swapsWith (.ListComp elt [⟨tg,iter,ifs,0⟩] scope pos) (some (.Name x py)) p.line X.env=pure true:=by rfl)(hc:X.calm=true:=by rfl)(hk:scope.kind=.function:=by rfl)(ho:zca X.env.scope scope X.N ix=true:=by kernel_rfl)(hM:M=L++ix.map (fun i=>X.N.getD i ""):=by rfl) (nd:ix.Nodup:=by decide) (hMn:M.Nodup:=by decide +kernel) (hd:(dom.all fun i=>decide (i<L.length))=true:=by decide) (hs:∀ v,foldedSetIterable iter X.env v=pure v:=by intro _;rfl) :
  PSV K X (.Assign [.Name x py] (.ListComp elt [⟨tg,iter,ifs,0⟩] scope pos) p) (zdE i0 (zdm L.length ix it gg t f)):=zp1 i0 L ix M hN h0 hl hsw hc hk ho hM nd hi (fun _ _ _ _=>hg hMn) hd (fun _ _ _ _=>ht) (fun _ _ _ _=>he) hs
theorem dcp(L:List Str)(ix:List Nat)(M:List Str)(hr:zce j X.A)(hi:PVI K X tg iter it)(hg:∀{C:Addr} {s₃:Shared} {H₃:Hp} {fp:List Addr},M.Nodup->PVG K (zap X M scope C s₃ H₃ fp) dom tg gg)(ht:∀{C:Addr} {s₃:Shared} {H₃:Hp} {fp:List Addr},zpQ K (zap X M scope C s₃ H₃ fp) ifs t)(hke:∀{C:Addr} {s₃:Shared} {H₃:Hp} {fp:List Addr},PV K (zap X M scope C s₃ H₃ fp) ke kf)(hve:∀{C:Addr} {s₃:Shared} {H₃:Hp} {fp:List Addr},PV K (zap X M scope C s₃ H₃ fp) ve vf)
  (hc:X.calm=true:=by rfl)(hk:scope.kind=.function:=by rfl)(ho:zca X.env.scope scope X.N ix=true:=by kernel_rfl)(hM:M=L++ix.map (fun i=>X.N.getD i ""):=by rfl) (nd:ix.Nodup:=by decide) (hMn:M.Nodup:=by decide +kernel) (hd:(dom.all fun i=>decide (i<L.length))=true:=by decide) (hs:∀ v,foldedSetIterable iter X.env v=pure v:=by intro _;rfl) :
  PVN K X (.DictComp ke ve [⟨tg,iter,ifs,0⟩] scope pos) (ze0 L.length ix it gg t kf vf):=znQ L ix M (zcx hr) hc hk ho hM nd hi (fun _ _ _ _=>hg hMn) hd (fun _ _ _ _=>ht) (fun _ _ _ _=>hke) (fun _ _ _ _=>hve) hs
end
abbrev CT(x:Str)(k:Nat)(ps:List Str)(n:Nat)(fr:Bool)(G:List D->R D)(P:Program)(w:World)(K:W.Frag)(mg:Str->Option Value)(base:Heap):Prop:=Callee P w K mg base x k ps (spP K n fr G)
abbrev CTM(x:Str)(k:Nat)(ps:List Str)(ms:List Bool)(fr:Bool)(F:List D->R (D×List D))(P:Program)(w:World)(K:W.Frag)(mg:Str->Option Value)(base:Heap):Prop:=Callee P w K mg base x k ps (spF K ms fr F)
end
end FL
namespace FL
open PySem
def aCs(ds:List D):AF:=fun ρ=>.ok (ds,ρ)
end FL
namespace L2
open PySem PySem.Spec
variable {X:Cx}
end L2
namespace FL
open PySem L2 PySem.Spec
open PyProof.Rows hiding St
section
variable [Cs]
end
section
variable [Cs]
def New(H H':Hp)(v:V):Prop:=∃ p o xs,v=.ref p/\H p=none/\H' p=some (.frz o (.lst xs))
def zvN(H H':Hp)(ds:List D)(vs:List V):Prop:=∀ q∈ds.zip vs,(∃ es,q.1=.list es)->New H H' q.2
def zyJ(H H':Hp)(a:Addr)(d:D):Prop:=∀ ds vs,d=.list ds->H' a=some (.lst vs)->zvN H H' ds vs
def tVF(K:W.Frag)(f:EF):TE:=fun σ H Q=>∃ ρ,Rel K ρ σ H/\Good K ρ σ H (f ρ) fun d _ H'=>∀ v,Fz K H' d v->((∃ es,d=.list es)->New H H' v)->Q v H'
def tND(K:W.Frag)(f:EF):TE:=fun σ H Q=>∃ ρ,Rel K ρ σ H/\Good K ρ σ H (f ρ) fun d _ H'=>∀ a,H a=none->zbh K H' a d->zyJ H H' a d->Q (.ref a) H'
theorem New.mono{H H1 H2:Hp}{v:V}(h:New H H1 v)(f:Fzn H1 H2):New H H2 v:=by
 obtain⟨p,o,xs,e1,e2,e3⟩:=h
 exact⟨p,o,xs,e1,e2,f _ _ e3 trivial⟩
theorem Stp.none{K:W.Frag}{ρ ρ':En}{σ:L2.St}{H H':Hp}{a:Addr}(s:Stp ρ ρ' σ H H')(r:Rel K ρ' σ H')(h:H' a=none):H a=none:=by
 cases e:H a with
 | none=>rfl
 | some o =>
  by_cases m:MA ρ σ a
  ·obtain⟨o',e',_⟩:=r.za5 (s.ma.mp m)
   rw [h] at e';cases e'
  ·rw [s.kp a o e m] at h;cases h
def PVF(K:W.Frag)(X:Cx)(e:Expr)(f:EF):Prop:=X.K=K->PE X e (tVF K f)
def PVD(K:W.Frag)(X:Cx)(e:Expr)(f:EF):Prop:=X.K=K->PE X e (tND K f)
def PSD(K:W.Frag)(X:Cx)(st:Stmt)(i:Nat)(f:EF):Prop:=X.K=K->PS X st (ztE (tND K f) (zm1 i))
section
variable {K:W.Frag}{X:Cx}
theorem PVN.vf{e:Expr}{f:EF}(h:PVN K X e f):PVF K X e f:=fun hK=>(zuC (h hK)).weak fun σ H Q=>by
 rintro⟨ρ,rel,q⟩
 refine⟨ρ,rel,?_⟩
 cases e:f ρ with
 | ok x =>
  rw [e] at q
  intro H' rel' st a ha m
  obtain⟨u,e1,ow⟩:=m.own
  refine⟨a,u,rfl,e1,ow,fun o=>?_⟩
  have nma:¬ MA ρ σ a:=fun z=>by
   obtain⟨o',e',_⟩:=rel.za5 z
   rw [ha] at e';cases e'
  have nma':¬ MA x.2 σ a:=fun z=>nma (st.ma.mpr z)
  have fz:Fzn H' (upd H' a (.frz o u)):=fun b w e2 sy=>by
   rw [zan fun z=>by subst z;rw [e1] at e2;cases e2;exact ow.zcz sy]
   exact e2
  refine q _ (rel'.put nma' fun u' e2=>by rw [e1] at e2;cases e2;exact ow.zcz) ⟨st.md,fun b w e2 n=>?_⟩ _ ?_ fun⟨es,ez⟩=>?_
  ·rw [zan fun z=>by subst z;rw [ha] at e2;cases e2]
   exact st.kp b w e2 n
  ·obtain⟨d,ρ'⟩:=x
   cases d with
   | list ds =>
    obtain⟨vs,h1,h2⟩:=m
    rw [e1] at h1
    cases h1
    simp only [Fz]
    exact⟨a,vs,rfl,.inl ⟨o,zal⟩,h2.mono fz⟩
   | dict kvs =>
    simp only [Fz]
    obtain⟨kk,h1,h2⟩:=m
    rw [e1] at h1
    cases h1
    exact⟨a,o,rfl,⟨kk,zal,h2.mono fz⟩⟩
   | _=>exact m.elim
  ·rw [ez] at m
   obtain⟨vs,h1,h2⟩:=m
   rw [e1] at h1
   cases h1
   exact⟨a,o,vs,rfl,ha,zal⟩
 | _=>rw [e] at q;exact q.elim
end
section
variable {K:W.Frag}{X:Cx}{k j n:Nat}{ps:List Str}{E:XK}{x:Str}{p pos py:Pos}{e:Expr}{es:List Expr}{G:List D->R D}{fa:AF}
theorem zrw(i:Nat){f:EF}{pos:Pos}(hN:X.N.Nodup)(he:PVD K X e f)(hi:X.N[i]?=some x:=by rfl)(hx:Loc X.env.scope x:=by first|exact Or.inl rfl|exact Or.inr rfl)(hs:swapsWith e (some (.Name x py)) pos.line X.env=pure false:=by rfl)(hf:X.fn x=true\/X.env.scope.names.lookup x=some .local:=by first|exact .inl rfl|exact .inr rfl|assumption):PSD K X (.Assign [.Name x py] e pos) i f:=fun hK=>zn2 hN hi hx (he hK) hs hf
end
end
section
variable [Cs]
def Frm(dom:List Nat)(σ σ':L2.St):Prop:=∀ i,i∉dom->σ'[i]?=σ[i]?
theorem Frm.refl{dom:List Nat}{σ:L2.St}:Frm dom σ σ:=fun _ _=>rfl
theorem Frm.trans{dom:List Nat}{σ σ1 σ2:L2.St}(a:Frm dom σ σ1)(b:Frm dom σ1 σ2):Frm dom σ σ2:=fun i h=>(b i h).trans (a i h)
theorem Frm.set{dom:List Nat}{σ:L2.St}{i:Nat}{v:Option V}(h:i∈dom):Frm dom σ (σ.set i v):=fun j hj=>List.getElem?_set_ne fun z=>hj (by subst z;exact h)
def EFr(dom:List Nat)(σ:L2.St)(Dn:Ends):Ends:={ nx:=fun σ' H'=>Frm dom σ σ'->Dn.nx σ' H',rt:=Dn.rt,bk:=fun σ' H'=>Frm dom σ σ'->Dn.bk σ' H',ct:=fun σ' H'=>Frm dom σ σ'->Dn.ct σ' H' }
def tSf(K:W.Frag)(C:SC)(dom:List Nat)(f:SF):TS:=fun Dn σ H=>tS K C f (EFr dom σ Dn) σ H
def PSF(K:W.Frag)(X:Cx)(dom:List Nat)(st:Stmt)(f:SF):Prop:=X.K=K->∀ C,PS X st (tSf K C dom f)
def zv2(K:W.Frag)(X:Cx)(dom:List Nat)(st:List Stmt)(f:SF):Prop:=X.K=K->∀ C,PSs X st (tSf K C dom f)
section
variable {K:W.Frag}{X:Cx}{dom:List Nat}{st:Stmt}{rest:List Stmt}{s t:SF}{e:Expr}{f:EF}{pos:Pos}
theorem zn0:zv2 K X dom [] sNx:=fun _ C=>znZ.weak fun Dn σ H=>by
 rintro⟨ρ,rel,g⟩
 exact g σ H rel (Fzn.refl H) .refl
theorem zuo(he:PV K X e f):zv2 K X dom [.Return (some e) pos] (zaD f):=fun hK C=>zix ((zlV (he hK)).weak fun Dn σ H=>by
 rintro⟨ρ,rel,g⟩
 exact zm0 rel g fun d ρ1 v H1 rel1 st1 fz g1=>g1 v σ H1 rel1 fz)
theorem zrv{c:Expr}{a b:List Stmt}{tc:TF}(hc:PVT K X c tc)(ha:zv2 K X dom a s)(hb:zv2 K X dom b t):PSF K X dom (.If c a b pos) (sIf tc s t):=fun hK C=>(zuq (hc hK) (ha hK C) (hb hK C)).weak fun Dn σ H=>by
 rintro⟨ρ,rel,g⟩
 refine zw0 rel g fun cb ρ1 H1 rel1 fz g1=>?_
 cases cb with
 | true=>exact zpL ⟨ρ1,rel1,g1⟩
 | false=>exact zpM ⟨ρ1,rel1,g1⟩
end
open Classical in
noncomputable def znk(Z:Addr->Prop)(H:Hp):Hp:=fun b=>if Z b then(match H b with|some (.frz _ u)=>some u|z=>z) else H b
section
variable {X:Cx}{pins:List (Addr×Obj)}{σ:L2.St}{H:Hp}{s:Shared}{Z:Addr->Prop}
theorem zgp{b:Addr}(h:¬ Z b):znk Z H b=H b:=if_neg h
theorem zim{b:Addr}{o:Obj}{u:HO}(h:Z b)(e:H b=some (.frz o u)):znk Z H b=some u:=by
 unfold znk
 rw [if_pos h,e]
theorem zv6(I:Inv X pins σ H s)(hz:∀ b,Z b->(∃ o xs,H b=some (.frz o (.lst xs)))/\∀ o u,X.H₀ b≠some (.frz o u)):Inv X pins σ (znk Z H) s:=by
 have nz:∀ b,(∀ o xs,H b≠some (.frz o (.lst xs)))->znk Z H b=H b:=fun b h=>zgp fun z=>by
  obtain⟨⟨o,xs,e⟩,_⟩:=hz b z
  exact h o xs e
 have nn:∀ b,H b=none->znk Z H b=none:=fun b h=>by rw [nz b fun o xs z=>by rw [h] at z;cases z];exact h
 have st:∀(a:Addr) (w:HO),zbM X.prog X.w H s.heap a w->zbM X.prog X.w (znk Z H) s.heap a w:=fun a w k =>
  k.stay (fun _ _ _ q=>q) (fun b q=>by rw [nz b fun o xs z=>by rw [q] at z;cases z];exact q) (fun b xs q=>by
   rcases q with q|⟨o,q⟩
   ·exact .inl (by rw [nz b fun o xs z=>by rw [q] at z;cases z];exact q)
   ·exact .inr ⟨o,by rw [nz b fun o xs z=>by rw [q] at z;cases z];exact q⟩)
 refine⟨I.ok,I.os,I.bare,⟨I.base.keep,I.base.slot,fun b o e n hx=>nn b (I.base.free b o e n hx),I.base.there,fun b xs e=>?_,fun b o u e=>?_,fun b ps e=>?_⟩,I.loc,I.cell,nn _ I.free,fun x c e=>nn c (I.freeC x c e),fun p hp=>?_,fun a o e=>?_,I.len⟩
 ·have:=I.base.tups b xs e
  rw [nz b fun o xs z=>by rw [this] at z;cases z]
  exact this
 ·have:=I.base.frzs b o u e
  rw [zgp fun z=>(hz b z).2 o u e]
  exact this
 ·obtain⟨m,q⟩:=I.base.tbls b ps e
  exact⟨m,by rw [nz b fun o xs z=>by rw [q] at z;cases z];exact q⟩
 ·obtain⟨e,n,r⟩:=I.pin p hp
  exact⟨e,nn _ n,r⟩
 ·by_cases z:Z a
  ·obtain⟨⟨ob,xs,q⟩,_⟩:=hz a z
   rw [zim z q] at e
   cases e
   exact st a _ (I.hok a _ q).2
  ·rw [zgp z] at e
   exact st a _ (I.hok a o e)
end
end
section
def zxn(ρ0 ρ1:En)(d:D)(it j:Nat)(dead dom:List Nat):Prop :=
 (∀(i:Nat) x,ρ1[i]?=some x->i=it\/i=j\/i∈dead\/x=.no\/(∃ c,x=.val c/\ρ0[i]?=some (.val c)/\i∉dom)\/∃(p:Bool) (ns:List Int),x=.ow p (.list (ns.map PyData.int))) /\
 (∀(i:Nat) p c,i=it\/i=j\/i∈dead->ρ1[i]?≠some (.ow p c))/\j<ρ1.length/\(∀ i∈dead,i<ρ1.length) /\
 ∃ rows:List (List (List Int)),d=.list (rows.map fun r=>.list (r.map fun q=>.tuple (q.map PyData.int)))
def kill(ks:List Nat)(ρ:En):En:=ρ.mapIdx fun i x=>if i∈ks then .no else x
def zvY(ρ:En)(d:D)(it j:Nat)(dead:List Nat):En:=(kill (it::dead) ρ).set j (.val d)
open Classical in
noncomputable def zyK(f:EF)(it j:Nat)(dead dom:List Nat)(t:SF)(ρ0:En):SF:=fun ρ=>(f ρ).bind fun y=>if zxn ρ0 y.2 y.1 it j dead dom then t (zvY y.2 y.1 it j dead) else .bad
def LL(d:D):Prop:=∃ rows:List (List D),d=.list (rows.map PyData.list)
open Classical in
noncomputable def zx1(it:Nat)(f:EF)(g:En->SF):SF:=fun ρ=>(f ρ).bind fun y=>if LL y.1 then(gN it y.1 y.2).bind fun ρ1=>g ρ ρ1 else .bad
variable [Cs]
section
variable {K:W.Frag}{X:Cx}{it j:Nat}{dom dead:List Nat}{st:Stmt}{rest:List Stmt}{s t:SF}{g:En->SF}{e:Expr}{f:EF}{pos:Pos}
theorem zmc{ks:List Nat}{ρ:En}{i:Nat}:(kill ks ρ)[i]?=(ρ[i]?).map fun x=>if i∈ks then .no else x:=by unfold kill;rw [List.getElem?_mapIdx]
theorem zqL{ks:List Nat}{ρ:En}:(kill ks ρ).length=ρ.length:=by unfold kill;simp
theorem zaf.chg{H H':Hp}:∀{ds:List D} {vs:List V},(∀ q∈ds.zip vs,Fz K H q.1 q.2->Fz K H' q.1 q.2)->zaf K H ds vs->zaf K H' ds vs
 | [],vs,_,h=>by simp only [zaf] at h ⊢;exact h
 | d::ds,vs,k,h=>by
  simp only [zaf] at h ⊢
  obtain⟨v,r,rfl,h1,h2⟩:=h
  exact⟨v,r,rfl,k (d,v) (by simp) h1,zaf.chg (fun q hq=>k q (by simp only [List.zip_cons_cons,List.mem_cons];exact .inr hq)) h2⟩
theorem zaf.zwU{H H':Hp}{ns:List Int}{vs:List V}(h:zaf K H (ns.map PyData.int) vs):zaf K H' (ns.map PyData.int) vs:=h.chg fun q hq z=>by
 obtain⟨i,_,e⟩:=List.mem_map.mp (List.of_mem_zip (a:=q.1) (b:=q.2) hq).1
 rw [<- e] at z ⊢
 simp only [Fz] at z ⊢
 exact z
end
end
section
variable [Cs]
end
end FL
namespace FL
open PySem
def hW(ns:List Int):Int:=reduceHash (Builtin.Tuple.tupleHashOf (ns.map hashInt))
def zj4:List D->Option (List Int)
 | []=>some []
 | .int i::r=>(zj4 r).map fun l=>i::l
 | _::_=>none
def hkD:D->Option Int
 | .tuple xs=>(zj4 xs).map hW
 | _=>none
def hkA:List (D×D)->Option (List Int)
 | []=>some []
 | kv::r=>(hkD kv.1).bind fun h=>(hkA r).map fun l=>h::l
def zkf:D->R D
 | .dict kvs=>(R.of (hkA kvs)).bind fun hs=>if hs.Nodup then .ok (.dict kvs) else .bad
 | _=>.bad
end FL
namespace L2
open PySem PySem.Spec PyProof.Rows
section
variable {prog:Program}{w:World}{A:Around}{E:Value->Shared->Prop}{s:Shared}
theorem zrG{α:Type}{f:α->Int}:∀{xs:List α},(xs.map f).Nodup->∀ y:Int,(xs.filter fun x=>f x==y).length<=1
 | [],_,_=>Nat.zero_le _
 | x::r,hn,y=>by
  rw [List.map_cons,List.nodup_cons] at hn
  have ih:=zrG hn.2 y
  by_cases e:f x=y
  ·have z:r.filter (fun x=>f x==y)=[]:=List.filter_eq_nil_iff.mpr fun q hq h=>hn.1 (List.mem_map.mpr ⟨q,hq,(eq_of_beq h).trans e.symm⟩)
   rw [List.filter_cons_of_pos (by simpa using e),z]
   exact Nat.le_refl _
  ·rw [List.filter_cons_of_neg (by simpa using e)]
   exact ih
theorem zyB{id:String}{d:Addr}{o:Obj}{es:Array DictEntry}{ep:Nat}{Q:Array DictEntry->Shared->Prop}(ho:s.heap.get? d=some o)(hd:o.data=.dict es ep)(hk:∀ e∈es.toList,s.TypeIs e.key "tuple"/\∃ a,e.key=.ref a) (hn:(es.toList.map (·.hash)).Nodup) (h:Q es s) :
  wpAny (model prog w) A (Builtin.Dict.entriesForEmpty id d) Q E s:=by
 unfold Builtin.Dict.entriesForEmpty
 refine wpAny_bind (wpAny_dictEntries ho hd ?_)
 refine wpAny_bind ?_
 rw [<- Array.forIn_toList]
 refine wpAny_forIn_list _ (fun rest _ s'=>s'=s/\∀ e∈rest,e∈es.toList) _ ?_ ?_ _ _ ⟨rfl,fun e he=>he⟩
 ·rintro e rest b s' ⟨rfl,hr⟩
  have he:=hr e (List.mem_cons_self ..)
  obtain⟨ht,a,ea⟩:=hk e he
  refine wpAny_bind ?_
  unfold Builtin.Dict.quietEq
  rw [ea] at ht ⊢
  refine wpAny_bind (wpAny_specialOf ht F.slot_tuple_eq.lookup (wpAny_pure ?_))
  have hsz:¬ (es.filter (·.hash==e.hash)).size > 1:=by
   have z:=zrG hn e.hash
   rw [<- Array.length_toList,Array.toList_filter]
   omega
  rw [if_pos (by decide +kernel),if_neg hsz]
  exact wpAny_pure ⟨rfl,fun e he=>hr e (List.mem_cons_of_mem _ he)⟩
 ·rintro b s' ⟨rfl,_⟩
  exact wpAny_pure h
theorem mgT{nm:String}{d o:Addr}{od:Obj}{epd:Nat}{oo:Obj}{es:Array DictEntry}{ep:Nat}{Q:Unit->Shared->Prop}(hdo:d≠o)(hoS:(o==sysModules)=false)(hod:s.heap.get? d=some od)(hdd:od.data=.dict #[] epd)
  (ho:s.heap.get? o=some oo)(hd:oo.data=.dict es ep)(hk:∀ e∈es.toList,s.TypeIs e.key "tuple"/\∃ a,e.key=.ref a) (hn:(es.toList.map (·.hash)).Nodup) (hsz:es.size<=sizeLine)
  (hQ:∀ h' o',h'.get? d=some o'->(∃ ep',o'.data=.dict es ep')->(od.ExactDict->o'.ExactDict)->Heap.SameBut d s.heap h'->Q () { s with heap:=h' }) :
  wpAny (model prog w) A (Builtin.Dict.mergeDict nm d o) Q E s:=by
 unfold Builtin.Dict.mergeDict
 rw [if_neg (by simpa using hdo)]
 unfold Builtin.Dict.showsAll
 rw [if_neg (by rw [hoS];exact Bool.false_ne_true)]
 refine wpAny_bind (wpAny_pure ?_)
 refine wpAny_bind (wpAny_dictEntries ho hd ?_)
 by_cases c:es=#[]
 ·subst c
  dsimp only
  rw [if_neg (by simp)]
  refine wpAny_bind (wpAny_dictEpoch ho hd ?_)
  refine wpAny_bind (wpAny_dictEntries ho hd ?_)
  refine wpAny_bind ?_
  rw [Std.Legacy.Range.forIn_eq_forIn_range']
  exact wpAny_pure (wpAny_pure (hQ s.heap od hod ⟨_,hdd⟩ id (Heap.SameBut.refl _ _)))
 ·have ne:es.isEmpty=false:=by
   cases e:es.isEmpty with
   | false=>rfl
   | true=>exact absurd (Array.isEmpty_iff.mp e) c
  have few:(decide (es.size<=8)&&es.all fun e=>(keyPart e.key).isSome)=false:=by
   rw [Bool.and_eq_false_iff]
   right
   obtain⟨l⟩:=es
   cases l with
   | nil=>exact absurd rfl c
   | cons e r =>
    obtain⟨_,a,ea⟩:=hk e (List.mem_cons_self ..)
    simp [ea,keyPart]
  dsimp only
  rw [few,if_pos (by decide)]
  refine wpAny_bind (wpAny_dictEntries hod hdd ?_)
  rw [if_pos (by rfl)]
  refine wpAny_bind (zyB ho hd hk hn ?_)
  rw [ne,if_pos (by decide)]
  exact wpAny_bind (wpAny_updateDictKeysTo hod hdd (wpAny_pure (hQ _ _ (Heap.get?_update_self _ hod (Obj.isFreed_of_dict (Obj.data_mapDictKeys hdd _))) ⟨_,Obj.data_mapDictKeys hdd _⟩ (fun z=>z.mapDictKeys _) (Heap.SameBut.update ..))) (by omega))
theorem cdT{o:Addr}{oo:Obj}{es:Array DictEntry}{ep:Nat}{Q:Value->Shared->Prop}(hoS:(o==sysModules)=false)(ho:s.heap.get? o=some oo)(hx:oo.ExactDict)(hd:oo.data=.dict es ep)(hk:∀ e∈es.toList,s.TypeIs e.key "tuple"/\∃ a,e.key=.ref a) (hn:(es.toList.map (·.hash)).Nodup) (hsz:es.size<=sizeLine)
  (h:∀ h' o',h'.get? s.heap.objs.size=some o'->(∃ ep',o'.data=.dict es ep')->o'.ExactDict->(∀ b q,s.heap.get? b=some q->h'.get? b=some q)->Q (.ref s.heap.objs.size) { s with heap:=h' }) :
  wpAny (model prog w) A (call (.type "dict") [.ref o]) Q E s:=by
 refine callType_codes (Q₁:=fun obj s₁=>obj=.ref s.heap.objs.size/\s₁={ s with heap:=s.heap.push { cls:=.type "dict",data:=.dict #[] } }) F.kt_called_dict (F.kt_typeCall_dict_1 _) F.entry_dict_init (kt_code_dict_new _ ⟨rfl,rfl⟩) ?_
 rintro obj s₁ ⟨rfl,rfl⟩
 have hg:=Heap.get?_push_size s.heap (o:={ cls:=.type "dict",data:=.dict #[] }) rfl
 have ho':(s.heap.push { cls:=.type "dict",data:=.dict #[] }).get? o=some oo:=Heap.get?_push_of_some _ ho
 have hdo:s.heap.objs.size≠o:=fun e=>absurd (Heap.lt_size ho) (by rw [e];exact Nat.lt_irrefl _)
 have t1:Shared.TypeIs { s with heap:=s.heap.push { cls:=.type "dict",data:=.dict #[] } } (.ref s.heap.objs.size) "dict":=⟨_,hg,rfl⟩
 have t2:Shared.TypeIs { s with heap:=s.heap.push { cls:=.type "dict",data:=.dict #[] } } (.ref o) "dict":=⟨_,ho',hx.1⟩
 refine⟨t1,F.args_dict_init_2 _ _,?_⟩
 unfold Builtin.«dict.__init__»
 refine wpAny_bind ?_
 unfold Builtin.Dict.selfAndRest
 refine wpAny_bind (wpAny_notOrdered_dict t1 ?_)
 show wpAny _ _ (pure (s.heap.objs.size,[Value.ref o])) _ _ _
 refine wpAny_pure ?_
 show wpAny _ _ (Builtin.Dict.updateFrom "dict.__init__" s.heap.objs.size (.ref o) [] .none) _ _ _
 unfold Builtin.Dict.updateFrom
 refine wpAny_bind (wpAny_typeOf t2 ?_)
 rw [if_neg (by decide)]
 refine wpAny_bind ?_
 unfold Builtin.Dict.merge
 refine wpAny_bind ?_
 unfold Builtin.Dict.readDirectly
 refine wpAny_bind (wpAny_isInstance t2 isSubtype_dict_dict ?_)
 simp only [Bool.not_true,Bool.false_eq_true,if_false]
 refine wpAny_bind (wpAny_specialOf t2 F.slot_dict_iter.lookup (wpAny_pure ?_))
 simp only [beq_self_eq_true,if_true]
 refine wpAny_bind (wpAny_pure ?_)
 refine mgT hdo hoS hg rfl ho' hd (fun e he=>?_) hn hsz fun h' o' e1 e2 e3 hs=>?_
 ·obtain⟨z,a,ea⟩:=hk e he
  rw [ea] at z ⊢
  obtain⟨q,e4,e5⟩:=z
  exact⟨⟨q,Heap.get?_push_of_some _ e4,e5⟩,a,rfl⟩
 ·show wpAny _ _ (Builtin.Dict.addKeywords s.heap.objs.size [] >>= _) _ _ _
  exact wpAny_bind (wpAny_pure (wpAny_pure ⟨rfl,h h' o' e1 e2 (e3 ⟨rfl,rfl,rfl⟩) fun b q e=>(hs.2 b (Nat.ne_of_lt (Heap.lt_size e))).trans (Heap.get?_push_of_some _ e)⟩))
end
section
variable {X:Cx}
def zo0(w:World)(k:List Key):Int:=reduceHash (Builtin.Tuple.tupleHashOf (k.map (zxB w)))
theorem zm9:zfC X (.type "dict") (fun xs H Q=>∃ p kvs,xs=[.ref p]/\Rd H p (.dT kvs)/\(kvs.map fun q=>zo0 X.w q.1).Nodup/\∀ l,H l=none->Q (.ref l) (upd H l (.dT kvs))):=by
 intro pins s σ H xs us Q I r h
 obtain⟨p,kvs,rfl,hq,hn,q⟩:=h
 obtain⟨u,rfl,rx⟩:=vals1 r
 cases rx
 obtain⟨z,sy,ys,rel,oo,es,ep,h1,h2,h3,h4,h5,h6⟩:=zkd I.hok hq
 have hs:es.toList.map (·.hash)=kvs.map fun q=>zo0 X.w q.1:=by
  rw [h4,List.map_map]
  clear hn h4 h5 h6 z hq q
  induction rel with
  | nil=>rfl
  | @cons p q ps qs h t ih =>
   rw [List.map_cons,List.map_cons,ih,h.1]
   rfl
 refine cdT sy h1 h2 h3 (fun e he=>?_) (by rw [hs];exact hn) ?_ fun h' o' e1 e2 e3 kp=>?_
 ·rw [h4] at he
  obtain⟨y,hy,rfl⟩:=List.mem_map.mp he
  obtain⟨o,its,n,g1,g2,_⟩:=h5 y hy
  exact⟨⟨o,g1,g2⟩,_,rfl⟩
 ·rw [<- Array.length_toList,h4,List.length_map,<- Paired.length rel];exact z
 ·obtain⟨ep',e4⟩:=e2
  refine⟨.ref s.heap.objs.size,_,I.laid (a:=s.heap.objs.size) (o:=.dT kvs) (t':=s.toks) kp (Nat.le_refl _) ⟨z,beq_eq_false_iff_ne.mpr (Ne.symm (Nat.ne_of_lt I.big)),ys,rel.keeps fun c ws ec=>?_,o',es,ep',e1,e3,e4,h4,h6⟩,rfl,q _ (I.hok.fresh (Nat.le_refl _))⟩
  have hf:=I.hok.fresh (Nat.le_refl s.heap.objs.size)
  exact ec.upd (fun _ z=>zbe z hf) fun _ _ z=>zbe z hf
end
end L2
namespace FL
open PySem L2 PySem.Spec
open PyProof.Rows hiding St
section
variable [Cs]
section
variable {K:W.Frag}{X:Cx}{x:Str}{p pos:Pos}{e:Expr}{f:EF}{H:Hp}
theorem zoR:∀{q:List Key} {ns:List Int},zj4 (q.map kD)=some ns->q=ns.map Sum.inl
 | [],ns,h=>by cases h;rfl
 | .inl i::r,ns,h=>by
  obtain⟨l,e,rfl⟩:=Option.map_eq_some_iff.mp (show(zj4 (r.map kD)).map _=some ns from h)
  rw [zoR e];rfl
 | .inr y::r,ns,h=>nomatch (show(none:Option (List Int))=some ns from h)
theorem zxC(w:World):∀{kvs:List (D×D)} {kk:List (List Key×V)} {hs:List Int},zbB K H kvs kk->hkA kvs=some hs->kk.map (fun q=>zo0 w q.1)=hs
 | [],kk,hs,h,e=>by
  simp only [zbB] at h
  cases e;subst h;rfl
 | (k,d)::r,kk,hs,h,e=>by
  simp only [zbB] at h
  obtain⟨q,v,t,rfl,rfl,_,h2⟩:=h
  obtain⟨a,e1,e2⟩:=Option.bind_eq_some_iff.mp (show(hkD (zme q)).bind _=some hs from e)
  obtain⟨l,e3,rfl⟩:=Option.map_eq_some_iff.mp e2
  obtain⟨ns,e4,rfl⟩:=Option.map_eq_some_iff.mp (show(zj4 (q.map kD)).map hW=some a from e1)
  rw [List.map_cons,zxC w h2 e3,zoR e4]
  have z:zo0 w (ns.map Sum.inl)=hW ns:=by unfold zo0 hW;rw [List.map_map];rfl
  rw [z]
theorem zsz(hm:X.mg x=none)(hv:bootBuiltins x=some (.type "dict")) (ha:PV K X e f) (hg:Gl X x:=by rfl) (hn:x ≠ "__name__":=by decide) (hdb:(x==("__debug__":Str))=false:=by decide)
  (he:starEach [e] X.env=(false,eval e X.env)::starEach [] X.env:=by exact FL.se rfl) (hpl:(backTo pos (starEach [] X.env)).any (·.1)=false:=by exact FL.sp rfl):PVN K X (.Call (.Name x p) [e] [] pos) (e1 zkf f):=.mk fun hK=>by
 subst hK
 refine(zjI zm9 hg hm hv (zcJ (ha rfl) zhL he) hn hdb he hpl).weak fun σ H Q=>?_
 rintro⟨ρ,rel,q⟩
 refine goV rel q fun dx ρ1 v H1 rel1 st1 fx q1=>?_
 obtain⟨d,ed,q2⟩:=q1.zdP
 cases dx with
 | dict kvs =>
  have ed':((R.of (hkA kvs)).bind fun hs=>if hs.Nodup then .ok (.dict kvs) else .bad)=(.ok d:R D):=ed
  cases eh:hkA kvs with
  | none=>rw [eh] at ed';exact nomatch ed'
  | some hs =>
   rw [eh] at ed'
   by_cases nd:hs.Nodup
   case neg=>rw [show(R.of (some hs)).bind (fun hs=>if hs.Nodup then .ok (.dict kvs) else .bad)=(.bad:R D) from if_neg nd] at ed';exact nomatch ed'
   rw [show(R.of (some hs)).bind (fun hs=>if hs.Nodup then .ok (.dict kvs) else .bad)=(.ok (.dict kvs):R D) from if_pos nd] at ed'
   cases ed'
   obtain⟨a,rfl,kk,h1,h2⟩:=fx.tp
   refine⟨a,kk,rfl,h1,by rw [zxC X.w h2 eh];exact nd,fun l hl=>q2.new rel1 (zaB.upd hl) l (st1.none rel1 hl) ⟨kk,zal,?_⟩⟩
   exact zbB.mono (Fzn.of (zaB.upd hl)) _ _ h2
 | _=>exact nomatch (show(R.bad:R D)=.ok d from ed)
end
end
section
variable [Cs]{K:W.Frag}{X:Cx}{pos:Pos}
end
section
def cAt:Expr->Option Int
 | .Constant (.int i) _ _=>some i
 | .UnaryOp .USub (.Constant (.int i) _ _) _=>some (-i)
 | _=>none
def zxe:List Expr->Option (List D)
 | []=>some []
 | e::r=>(cAt e).bind fun i=>(zxe r).map (.int i::·)
def cTu:Expr->Option D
 | .Tuple es _ _=>(zxe es).bind fun l=>if leB l.length lim=true then some (.tuple l) else none
 | e=>(cAt e).map .int
def zxd:List Expr->Option (List D)
 | []=>some []
 | e::r=>(cTu e).bind fun d=>(zxd r).map (d::·)
variable [Cs]{K:W.Frag}{X:Cx}{pos:Pos}
theorem zxb{e:Expr}{i:Int}(h:cAt e=some i):PV K X e (eC (.int i))/\nst e=true:=by
 unfold cAt at h
 split at h
 ·cases h;exact⟨zad,rfl⟩
 ·cases h;exact⟨zuh ztS zad,rfl⟩
 ·cases h
theorem zvE:∀{es:List Expr} {ds:List D},zxe es=some ds->PVA K X es (aCs ds)
 | [],ds,h=>by cases h;exact zbH
 | e::r,ds,h=>by
  obtain⟨i,h1,h⟩:=Option.bind_eq_some_iff.mp h
  obtain⟨l,h2,rfl⟩:=Option.map_eq_some_iff.mp h
  exact zd1 (zxb h1).1 (zvE h2) (se (zxb (K:=K) (X:=X) h1).2)
theorem zxJ{e:Expr}{d:D}(h:cTu e=some d):PV K X e (eC d)/\nst e=true:=by
 unfold cTu at h
 split at h
 ·obtain⟨l,h1,h⟩:=Option.bind_eq_some_iff.mp h
  split at h
  ·rename_i c
   cases h
   refine⟨?_,rfl⟩
   have e:zaP (aCs l)=eC (.tuple l):=by
    funext ρ
    show(R.ok (l,ρ)).bind _=_
    rw [zac,zav c];rfl
   rw [<- e]
   exact zaO (zvE h1)
  ·cases h
 ·obtain⟨i,h1,rfl⟩:=Option.map_eq_some_iff.mp h
  exact zxb h1
theorem zvC:∀{es:List Expr} {ds:List D},zxd es=some ds->PVA K X es (aCs ds)
 | [],ds,h=>by cases h;exact zbH
 | e::r,ds,h=>by
  obtain⟨d,h1,h⟩:=Option.bind_eq_some_iff.mp h
  obtain⟨l,h2,rfl⟩:=Option.map_eq_some_iff.mp h
  exact zd1 (zxJ h1).1 (zvC h2) (se (zxJ (K:=K) (X:=X) h1).2)
theorem ziw{es:List Expr}{ds:List D}(h:zxd es=some ds):PVN K X (.List es pos) (zcR (aCs ds)):=zdb (zvC h)
end
end FL
namespace L2
open PySem PySem.Spec PyProof.Rows
end L2
namespace FL
open PySem L2 PySem.Spec
open PyProof.Rows hiding St
section
end
section
section
variable [Cs]{K:W.Frag}{X:Cx}{a b:Expr}{f h:EF}{pos:Pos}
theorem zuM:OpR X (binaryOp .Add) (fun x y H Q=>∃ l m xs ys,x=.ref l/\y=.ref m/\SqL X.K H l xs/\SqL X.K H m ys/\xs.length+ys.length<=sizeLine/\∀ p,H p=none->Q (.ref p) (upd H p (.lst (xs++ys)))):=by
 intro pins s σ H x y v u Q I rx ry hq
 obtain⟨l,m,xs,ys,rfl,rfl,sx,sy,hz0,q⟩:=hq
 cases rx
 cases ry
 obtain⟨its,r1,⟨o,n,ho,hc,hdn,hd⟩,z1⟩:=I.list sx
 obtain⟨its2,r2,⟨o2,n2,ho2,hc2,hdn2,hd2⟩,z2⟩:=I.list sy
 obtain⟨cls,dd,data,sl⟩:=o
 obtain⟨cls2,dd2,data2,sl2⟩:=o2
 simp only at hc hd hc2 hd2 hdn hdn2
 subst hc hd hc2 hd2 hdn hdn2
 have hz:its.length+its2.length<=sizeLine:=by rw [<- r1.length,<- r2.length];exact hz0
 refine concat_meets (Q:=EP X pins σ Q) ⟨_,ho,rfl⟩ ⟨_,ho2,rfl⟩ PySem.noFill_list_add PySem.seq_list_add PySem.F.slot_list_add PySem.F.entry_list_add (PySem.F.args_list_add_2 _ _)
  (list_addW l m its.toArray its2.toArray n n2 none none sl sl2 (by rw [List.size_toArray,List.size_toArray];exact hz)) ⟨ho,ho2,?_⟩
 have ea:its.toArray++its2.toArray=(its++its2).toArray:=by simp
 rw [ea]
 exact⟨.ref _,_,I.zxA (t':=s.toks) (r1.append r2) (by rw [List.length_append,r1.length,r2.length];exact hz),rfl,q _ I.fresh⟩
end
end
section
def zr7(dom:List Nat):Nat->En->En->Prop
 | _,[],[]=>True
 | k,x0::r0,x::r=>((k∈dom/\∀ p c,x≠.ow p c)\/(x=x0/\∀ p c,x≠.ow p c)\/(k∉dom/\∃(p:Bool) (ns:List Int),x=.ow p (.list (ns.map PyData.int))))/\zr7 dom (k+1) r0 r
 | _,_,_=>False
theorem zr7.get{dom:List Nat}:∀{k:Nat} {ρ0 ρ:En},zr7 dom k ρ0 ρ->∀{i:Nat} {x:Sl},ρ[i]?=some x->(k+i∈dom/\∀ p c,x≠.ow p c)\/(ρ0[i]?=some x/\∀ p c,x≠.ow p c)\/(k+i∉dom/\∃(p:Bool) (ns:List Int),x=.ow p (.list (ns.map PyData.int)))
 | k,[],[],_,i,x,e=>nomatch e
 | k,x0::r0,y::r,h,0,x,e=>by
  cases e
  rcases h.1 with h|⟨z,h⟩|h
  ·exact .inl h
  ·exact .inr (.inl ⟨by rw [z];rfl,h⟩)
  ·exact .inr (.inr h)
 | k,x0::r0,y::r,h,i+1,x,e=>by
  have z:=zr7.get h.2 (i:=i) e
  rw [show k+1+i=k+(i+1) by omega] at z
  exact z
 | k,[],y::r,h,_,_,_=>h.elim
 | k,x0::r0,[],h,_,_,_=>h.elim
open Classical in
noncomputable def znJ(dom:List Nat)(ρ0:En):SF:=fun ρ=>if zr7 dom 0 ρ0 ρ/\∀ k∈dom,k<ρ.length then .ok (.nx,kill dom ρ) else .bad
def LL2(d:D):Prop:=∃ rows:List (List D),rows.length<=1000/\d=.list (rows.map PyData.list)
open Classical in
noncomputable def ztF(i:Nat)(f:EF)(t:SF):SF:=fun ρ=>(f ρ).bind fun y=>if LL2 y.1 then(gN i y.1 y.2).bind t else .bad
def zwk(g:En->SF):SF:=fun ρ=>g ρ ρ
variable [Cs]
section
variable {K:W.Frag}{X:Cx}{es:List Expr}{e e':Expr}{f f':EF}{pos:Pos}
theorem znS(h:PVN K X e f)(h':PVN K X e' f')(he:starEach [e,e'] X.env=(false,eval e X.env)::starEach [e'] X.env:=by exact FL.se rfl)(he':starEach [e'] X.env=(false,eval e' X.env)::starEach [] X.env:=by exact FL.se rfl):PVD K X (.List [e,e'] pos) (zcR (zaa f (zaa f' zah))):=fun hK=>(zrA (zcJ (h.vf hK) (zcJ (h'.vf hK) zhL he') he)).weak fun σ H Q=>by
 rintro⟨ρ,rel,q⟩
 obtain⟨x,ex,q⟩:=q.zdP
 obtain⟨c,q⟩:=q.chk
 obtain⟨y1,e1,ex⟩:=zaj (show(f ρ).bind _=.ok x from ex)
 obtain⟨z,ez,ex⟩:=zaj ex
 obtain⟨y2,e2,ez⟩:=zaj (show(f' y1.2).bind _=.ok z from ez)
 cases ez
 cases ex
 refine⟨ρ,rel,?_⟩
 rw [e1]
 intro H1 rel1 st1 v fv nv
 refine⟨y1.2,rel1,?_⟩
 rw [e2]
 intro H2 rel2 st2 u fu nu
 refine⟨by have:=zb0;have:=ziM c;simp only [List.length_cons,List.length_nil] at *;omega,fun p hp=>?_⟩
 have sm:zaB H2 (upd H2 p (.lst [v,u])):=zaB.upd hp
 have st:=st1.trans st2
 have f2:=st2.fzn rel1
 refine q _ (rel2.same sm) (st.trans (.of sm)) p (st.none rel2 hp) ⟨_,zal,?_⟩ fun ds vs ed ev=>?_
 ·simp only [zaf]
  exact⟨v,[u],rfl,(fv.mono f2).mono (Fzn.of sm),u,[],rfl,fu.mono (Fzn.of sm),rfl⟩
 ·cases ed
  rw [zal] at ev
  cases ev
  intro q hq hl
  simp only [List.zip_cons_cons,List.zip_nil_right,List.mem_cons,List.not_mem_nil,or_false] at hq
  rcases hq with rfl|rfl
  ·exact(nv hl).mono (f2.trans (Fzn.of sm))
  ·obtain⟨a,o,xs,z1,z2,z3⟩:=nu hl
   exact⟨a,o,xs,z1,st1.none rel1 z2,Fzn.of sm _ _ z3 trivial⟩
end
def NZ(X:Cx)(C:SC)(H0:Hp)(p:Addr):Prop:=(∀ u,H0 p=some u->¬ ztK u)/\(∀ o u,X.H₀ p≠some (.frz o u))/\C.H₀ p=none
structure Bk(X:Cx)(K:W.Frag)(C:SC)(dom nw:List Nat)(ρ0:En)(σ0:L2.St)(H0:Hp)(σ:L2.St)(H:Hp):Prop where
 ok0:∀(i:Nat) x v,ρ0[i]?=some x->σ0[i]?=some v->zr5 K H0 x v
 fr:Frm dom σ0 σ
 fz:Fzn H0 H
 nws:∀ i∈nw,∃ a o vs,σ[i]?=some (some (.ref a))/\H a=some (.frz o (.lst vs))/\vs.length<=1000/\∀ v∈vs,∃ p o xs,v=.ref p/\H p=some (.frz o (.lst xs))/\NZ X C H0 p
 cst:zrm H0
def tBl(K:W.Frag)(X:Cx)(C:SC)(dom nw:List Nat)(g:En->SF):TS:=fun Dn σ H=>∃ ρ0 σ0 H0 ρ,zdz K C ρ σ H/\Bk X K C dom nw ρ0 σ0 H0 σ H/\zcs K C H0 (g ρ0 ρ) Dn
def PSB(K:W.Frag)(X:Cx)(dom nw:List Nat)(st:List Stmt)(g:En->SF):Prop:=X.K=K->∀ C,PSs X st (tBl K X C dom nw g)
section
variable {K:W.Frag}{X:Cx}{i j ir:Nat}{dom dm nw:List Nat}{st:Stmt}{rest:List Stmt}{s t:SF}{g:En->SF}{e:Expr}{f:EF}{pos:Pos}
theorem zsx(h:PSB K X dom [] rest g):zjc K X rest (zwk g):=.mk fun hK C=>(h hK C).weak fun Dn σ H=>by
 rintro⟨ρ,rel,gd⟩
 exact⟨ρ,σ,H,ρ,rel,⟨rel.rel.ok,.refl,Fzn.refl H,(fun _ z=>nomatch z),rel.rel.cst⟩,gd⟩
theorem Frm.sub{σ σ':L2.St}(h:Frm dm σ σ')(hd:dm.all (fun i=>decide (i∈dom))=true):Frm dom σ σ':=fun i hi=>h i fun z=>hi (of_decide_eq_true (List.all_eq_true.mp hd i z))
theorem zlU(h1:PSF K X dm st s)(h2:PSB K X dom nw rest g)(hd:dm.all (fun i=>decide (i∈dom))=true:=by decide)(hn:nw.all (fun i=>decide (i∉dm))=true:=by decide):PSB K X dom nw (st::rest) (fun ρ0=>zat s (g ρ0)):=fun hK C=>(ziy (h1 hK C) (h2 hK C)).weak fun Dn σ H=>by
 rintro⟨ρ0,σ0,H0,ρ,rel,bk,gd⟩
 refine⟨ρ,rel,?_⟩
 obtain⟨x,ex,g1⟩:=gd.bnd
 rw [ex]
 obtain⟨fl,ρ1⟩:=x
 cases fl with
 | nx=>exact fun σ' H' r z fm=>⟨ρ0,σ0,H0,ρ1,r,⟨bk.ok0,bk.fr.trans (fm.sub hd),bk.fz.trans z,fun i hi=>by
   obtain⟨a,o,vs,e1,e2,e0,e3⟩:=bk.nws i hi
   refine⟨a,o,vs,by rw [fm i (of_decide_eq_true (List.all_eq_true.mp hn i hi))];exact e1,z _ _ e2 trivial,e0,fun v hv=>?_⟩
   obtain⟨p,o,xs,q1,q2,q3⟩:=e3 v hv
   exact⟨p,o,xs,q1,z _ _ q2 trivial,q3⟩,bk.cst⟩,g1⟩
 | bk=>exact fun σ' H' r z _=>g1 σ' H' r (bk.fz.trans z)
 | ct=>exact fun σ' H' r z _=>g1 σ' H' r (bk.fz.trans z)
 | rt d=>exact g1
 | rf d=>exact g1
theorem zn1(i:Nat)(h0:PSD K X st i f)(h2:PSB K X dom (i::nw) rest g)(hd:i∈dom:=by decide)(hn:i∉nw:=by decide):PSB K X dom nw (st::rest) (fun ρ0=>ztF i f (g ρ0)):=fun hK C=>by
 have R2:PSs X rest (fun Dn σ H=>∃ a ws,H a=some (.lst ws)/\∀ o,tBl K X C dom (i::nw) g Dn σ (upd H a (.frz o (.lst ws)))):=fun pins s σ H Dn I ⟨a,ws,e,q⟩=>by
  obtain⟨o,ho⟩:=(I.hok a _ e).some
  exact h2 hK C pins s σ _ Dn (zvX I e trivial ho) (q o)
 intro pins s σ H Dn I
 rintro⟨ρ0,σ0,H0,ρ,rel,bk,gd⟩
 have x0:∀ p,H p=none->NZ X C H0 p:=fun p h=>⟨(fun u z sy=>by rw [bk.fz p u z sy] at h;cases h),(fun o u z=>by rw [I.base.frzs p o u z] at h;cases h),rel.fresh h⟩
 refine ziy (h0 hK) R2 pins s σ H Dn I ?_
 obtain⟨y,ey,g1⟩:=gd.bnd
 by_cases c:LL2 y.1
 case neg=>rw [if_neg c] at g1;exact g1.elim
 rw [if_pos c] at g1
 obtain⟨ρ1,e1,g2⟩:=g1.bnd
 obtain⟨rfl,n,hl⟩:=zj9 e1
 refine⟨ρ,rel.rel,?_⟩
 rw [ey]
 intro H1 rel1 st1 a ha m dp
 obtain⟨d,ρy⟩:=y
 obtain⟨rows,hrl,rfl⟩:=c
 obtain⟨ws,e2,fa⟩:=m
 have nma:¬ MA ρy σ a:=fun z=>by
  obtain⟨o',e',_⟩:=rel.rel.za5 (st1.ma.mpr z)
  rw [ha] at e';cases e'
 have hl':i<σ.length:=by rw [<- rel1.len];exact hl
 refine⟨a,ws,e2,fun o=>?_⟩
 have fz:Fzn H1 (upd H1 a (.frz o (.lst ws))):=fun b w e3 sy=>by
  rw [zan fun z=>by subst z;rw [e2] at e3;cases e3;exact sy]
  exact e3
 have nw':=dp _ ws rfl e2
 have hln:=fa.len
 have f1:=(st1.fzn rel.rel).trans fz
 refine⟨ρ0,σ0,H0,ρy.set i (.val (.list (rows.map PyData.list))),?_,⟨bk.ok0,bk.fr.trans (.set hd),bk.fz.trans f1,fun k hk=>?_,bk.cst⟩,g2⟩
 ·have r2:zdz K C ρy σ (upd H1 a (.frz o (.lst ws))):=rel.step (rel1.put nma fun u e3=>by rw [e2] at e3;cases e3;exact fun z=>z) ⟨st1.md,fun b w e3 nm=>?_⟩
  ·refine r2.chg (r2.rel.set ?_ fun _ _ _ z=>nomatch z) (zg1 n hl)
   show Fz K _ (.list (rows.map PyData.list)) (.ref a)
   simp only [Fz]
   exact⟨a,ws,rfl,.inl ⟨o,zal⟩,fa.mono fz⟩
  ·rw [zan fun z=>by subst z;rw [ha] at e3;cases e3]
   exact st1.kp b w e3 nm
 ·by_cases ki:k=i
  ·subst ki
   refine⟨a,o,ws,List.getElem?_set_self hl',zal,by rw [hln,List.length_map];exact hrl,fun v hv=>?_⟩
   obtain⟨q,hq,rfl⟩:=List.mem_iff_getElem.mp hv
   have hq2:q<(rows.map PyData.list).length:=by rw [<- hln];exact hq
   obtain⟨p,ob,xs,e3,e4,e5⟩:=nw' ((rows.map PyData.list)[q],ws[q]) (by
    refine List.mem_iff_getElem.mpr ⟨q,by simp only [List.length_zip];omega,?_⟩
    simp) ⟨rows[q]'(by simpa using hq2),by simp⟩
   exact⟨p,ob,xs,e3,fz _ _ e5 trivial,x0 p e4⟩
  ·rcases List.mem_cons.mp hk with z|z
   ·exact absurd z ki
   ·obtain⟨b,o',vs,e1,e2,e0,e3⟩:=bk.nws k z
    refine⟨b,o',vs,by rw [List.getElem?_set_ne (Ne.symm ki)];exact e1,f1 _ _ e2 trivial,e0,fun v hv=>?_⟩
    obtain⟨p,o,xs,q1,q2,q3⟩:=e3 v hv
    exact⟨p,o,xs,q1,f1 _ _ q2 trivial,q3⟩
theorem zqh{sts:List Stmt}{T:TS}(h:PSs X sts T):PSs X sts (fun Dn σ H=>∃ Z:Addr->Prop,(∀ b,Z b->(∃ o xs,H b=some (.frz o (.lst xs)))/\∀ o u,X.H₀ b≠some (.frz o u))/\T Dn σ (znk Z H)):=fun pins s σ H Dn I ⟨Z,hz,q⟩=>h pins s σ _ Dn (zv6 I hz) q
theorem zgD{ρ ρ0:En}{k:Nat}{p:Bool}{c:D}(ok:zr7 dom 0 ρ0 ρ):(kill dom ρ)[k]?=some (.ow p c)↔ρ[k]?=some (.ow p c):=by
 rw [zmc]
 cases e:ρ[k]? with
 | none=>simp
 | some x =>
  simp only [Option.map_some,Option.some.injEq]
  by_cases m:k∈dom
  ·rw [if_pos m]
   constructor
   ·exact fun z=>nomatch z
   ·rintro rfl
    rcases ok.get e with⟨_,z⟩|⟨_,z⟩|⟨z,_⟩
    ·exact absurd rfl (z p c)
    ·exact absurd rfl (z p c)
    ·exact absurd (by simpa using m) z
  ·rw [if_neg m]
theorem zq1{C:SC}{ρ0 ρ:En}{σ0 σ σ':L2.St}{H0 H H4:Hp}(rel:zdz K C ρ σ H)(bk:Bk X K C dom nw ρ0 σ0 H0 σ H)(ok:zr7 dom 0 ρ0 ρ)(fm:Frm dom σ σ')(hl:σ'.length=σ.length)(h4:∀ b u,H b=some u->H4 b=some u\/((∃ o xs,u=.frz o (.lst xs))/\NZ X C H0 b)) :
  zdz K C (kill dom ρ) σ' H4/\Fzn H0 H4:=by
 have f04:Fzn H0 H4:=fun b u e sy=>by
  rcases h4 b u (bk.fz b u e sy) with z|⟨_,z⟩
  ·exact z
  ·exact absurd sy (z.1 u e)
 have h5:∀ b u,H b=some u->(∀ o xs,u≠.frz o (.lst xs))->H4 b=some u:=fun b u e n=>by
  rcases h4 b u e with z|⟨⟨o,xs,z⟩,_⟩
  ·exact z
  ·exact absurd z (n o xs)
 have nd:∀ k p c,ρ[k]?=some (.ow p c)->k∉dom:=fun k p c e z=>by
  rcases ok.get e with⟨_,q⟩|⟨_,q⟩|⟨q,_⟩
  ·exact absurd rfl (q p c)
  ·exact absurd rfl (q p c)
  ·exact absurd (by simpa using z) q
 have atb:∀ k b,At (kill dom ρ) σ' k b->At ρ σ k b:=fun k b ⟨⟨p,c,e1⟩,e2⟩=>by
  have e3:=(zgD ok).mp e1
  rw [fm k (nd k p c e3)] at e2
  exact⟨⟨p,c,e3⟩,e2⟩
 refine⟨⟨⟨?_,fun k x v e1 e2=>?_,fun k l b q1 q2=>rel.rel.sep k l b (atb k b q1) (atb l b q2),bk.cst.mono f04⟩,fun b o e n=>?_,fun k b c e1 e2=>?_,fun k=>?_,fun k c e1=>?_,rel.prm⟩,f04⟩
 ·rw [zqL,rel.rel.len,hl]
 ·rw [zmc] at e1
  cases e3:ρ[k]? with
  | none=>rw [e3] at e1;cases e1
  | some y =>
   rw [e3] at e1
   simp only [Option.map_some,Option.some.injEq] at e1
   by_cases m:k∈dom
   ·rw [if_pos m] at e1;subst e1;trivial
   ·rw [if_neg m] at e1
    subst e1
    rw [fm k m] at e2
    rcases ok.get e3 with⟨z,_⟩|⟨z,no⟩|⟨_,p,ns,rfl⟩
    ·exact absurd (by simpa using z) m
    ·rw [bk.fr k m] at e2
     exact(bk.ok0 k _ v z e2).mono f04 fun b _ ⟨p,c,w⟩=>absurd w (no p c)
    ·cases v with
     | none=>exact(rel.rel.ok k _ _ e3 e2).elim
     | some v =>
      cases v with
      | ref b =>
       obtain⟨us,q1,q2⟩:=rel.rel.ok k _ _ e3 e2
       exact⟨us,h5 b _ q1 (fun _ _ z=>nomatch z),zaf.zwU q2⟩
      | _=>exact(rel.rel.ok k _ _ e3 e2).elim
 ·rcases h4 b o (rel.keep b o e n) with z|⟨_,z⟩
  ·exact z
  ·rw [z.2.2] at e;cases e
 ·have e3:=(zgD ok).mp e1
  rw [fm k (nd k _ _ e3)] at e2
  exact rel.own k b c e3 e2
 ·rw [<- rel.pin k]
  constructor
  ·rintro⟨c,e⟩;exact⟨c,(zgD ok).mp e⟩
  ·rintro⟨c,e⟩;exact⟨c,(zgD ok).mpr e⟩
 ·have e3:=(zgD ok).mp e1
  rw [fm k (nd k _ _ e3)]
  exact rel.fix k c e3
theorem zsF{xr xt xu nm1:Str}{p1 p2 p3 p4 p5 ap1 cp1 ep1:Pos}(i j ir:Nat)(hN:X.N.Nodup)(hiw:i∈nw:=by decide)(hjw:j∈nw:=by decide)(hird:ir∈dom:=by decide)(hn1:nm1="clear":=by rfl)
  (vr:PE X (.Name xr p3) (zin ir):=by exact pv _) (vt:PE X (.Name xt p2) (zin i):=by exact pv _) (vu:PE X (.Name xu p4) (zin j):=by exact pv _)
  (hi:X.N[ir]?=some xr:=by rfl) (hx:Loc X.env.scope xr:=by first|exact Or.inl rfl|exact Or.inr rfl) (hf:X.fn xr=true\/X.env.scope.names.lookup xr=some .local:=by first|exact .inl rfl|exact .inr rfl|assumption)
  (hp:PassesOwn (model X.prog X.w) X.A X.env X.xe:=by exact PassesOwn.never) (hc:X.calm=true:=by rfl) (hs:∀ v,foldedSetIterable (.BinOp (.Name xt p2) .Add (.Name xu p4) p5) X.env v=pure v:=by intro _;rfl)
  (hb1:attributeBase (.Name xr p3) nm1 X.env (eval (.Name xr p3) X.env)=eval (.Name xr p3) X.env:=by rfl) (hl1:(ap1.endLine==cp1.line)=true:=by rfl) (hw1:swapsWith (.Call (.Attribute (.Name xr p3) nm1 ap1) [] [] cp1) none ep1.line X.env=pure false:=by rfl) :
  PSB K X dom nw [.For (.Name xr p1) (.BinOp (.Name xt p2) .Add (.Name xu p4) p5) [.Expr (.Call (.Attribute (.Name xr p3) nm1 ap1) [] [] cp1) ep1] [] pos] (znJ dom):=fun hK C=>by
 subst hK
 subst hn1
 have hF:=zrx (pos:=pos) hp hc (zsR (zuw (pos:=p5) zuM vt vu)) (zod (pos:=p1) hN hi hx hf) (zix (zn3 (pos:=ep1) (zuD PySem.F.plainAttrs_list PySem.F.slot_list_clear PySem.F.type_list_clear zqB vr hb1 hl1) hw1)) hs
 refine(zqh (zix hF)).weak fun Dn σ H=>?_
 rintro⟨ρ0,σ0,H0,ρ,rel,bk,gd⟩
 by_cases ok:zr7 dom 0 ρ0 ρ/\∀ k∈dom,k<ρ.length
 case neg=>rw [show znJ dom ρ0 ρ=.bad from if_neg ok] at gd;exact gd.elim
 rw [show znJ dom ρ0 ρ=.ok (.nx,kill dom ρ) from if_pos ok] at gd
 have okl:=ok.2 ir hird
 replace ok:=ok.1
 obtain⟨a,o,vs,ea,ha,la,na⟩:=bk.nws i hiw
 obtain⟨b,o',us,eb,hb,lb,nb⟩:=bk.nws j hjw
 have nn:∀ v∈vs++us,∃ p o xs,v=.ref p/\H p=some (.frz o (.lst xs))/\NZ X C H0 p:=fun v hv=>(List.mem_append.mp hv).elim (na v) (nb v)
 refine⟨fun q=>.ref q∈vs++us,fun q hq=>?_,?_⟩
 ·obtain⟨p,o,xs,e1,e2,e3⟩:=nn _ hq
  cases e1
  exact⟨⟨o,xs,e2⟩,e3.2.1⟩
 generalize eZ:(fun q=>V.ref q∈vs++us)=Z
 have hZ:∀ b,Z b↔V.ref b∈vs++us:=fun b=>by rw [<- eZ]
 have sq:∀(c:Addr) (o:Obj) (ws:List V),H c=some (.frz o (.lst ws))->SqL X.K (znk Z H) c ws:=fun c o ws e=>by
  by_cases z:Z c
  ·exact SqL.of (zim z e)
  ·exact .inl (.inr ⟨o,by rw [zgp z];exact e⟩)
 have tp:∀ q,V.ref q∈vs++us->∃ xs,znk Z H q=some (.lst xs):=fun q hq=>by
  obtain⟨p,o,xs,e1,e2,e3⟩:=nn _ hq
  cases e1
  exact⟨xs,zim ((hZ q).mpr hq) e2⟩
 have tn:∀ q,V.ref q∉vs++us->znk Z H q=H q:=fun q hq=>zgp fun z=>hq ((hZ q).mp z)
 refine⟨.ref a,ea,.ref b,eb,a,b,vs,us,rfl,rfl,sq a o vs ha,sq b o' us hb,?_,fun l hl=>?_⟩
 ·have l0:=zb0
  have l1:2000<=lim:=by decide
  omega
 have nl:V.ref l∉vs++us:=fun z=>by
  obtain⟨xs,e⟩:=tp l z
  rw [hl] at e;cases e
 generalize eW:vs++us=ws at nl tp tn nn
 generalize znk Z H=H3 at hl tp tn sq
 refine⟨l,rfl,⟨ws,SqL.of zal⟩,fun k m σ' H'=>m=ws.length-k/\k<=ws.length/\Frm dom σ σ'/\σ'.length=σ.length/\H' l=some (.lst ws)/\(∀ q,V.ref q∉ws->q≠l->H' q=H3 q)/\∀ q,V.ref q∈ws->∃ xs,H' q=some (.lst xs),
  ⟨ws.length,by simp,Nat.zero_le _,.refl,rfl,zal,fun q _ n=>zan n,fun q hq=>?_⟩,?_⟩
 ·rw [zan fun z=>by subst z;exact nl hq]
  exact tp q hq
 rintro k mm σ' H' ⟨rfl,hk,fm,hlen,hA,k1,k2⟩
 by_cases c:k<ws.length
 ·refine .inr ⟨⟨ws,ws[k],SqL.of hA,List.getElem?_eq_getElem c⟩,fun σ'' H''=>Frm dom σ σ''/\σ''.length=σ.length/\H'' l=some (.lst ws)/\(∀ q,V.ref q∉ws->q≠l->H'' q=H3 q)/\∀ q,V.ref q∈ws->∃ xs,H'' q=some (.lst xs),fun σ'' H'' n=>⟨ws.length-(k+1),by omega,rfl,c,n⟩,fun x H5 yl=>?_⟩
  obtain⟨rfl,yl⟩:=yl
  have ex:=yl ws (SqL.of hA)
  rw [List.getElem?_eq_getElem c] at ex
  cases ex
  have mem:ws[k]∈ws:=List.getElem_mem c
  obtain⟨p,_,_,ep,_⟩:=nn _ mem
  rw [ep] at mem
  obtain⟨xs,hxs⟩:=k2 p mem
  have irl:ir<σ'.length:=by
   rw [hlen,<- rel.rel.len]
   exact okl
  refine⟨.ref p,by rw [List.getElem?_set_self irl,ep],.inl ⟨rfl,xs,SqL.of hxs⟩,p,xs,rfl,rfl,hxs,fm.trans (.set hird),by simp [hlen],?_,fun q nq ql=>?_,fun q hq=>?_⟩
  ·rw [zan fun z=>by subst z;exact nl mem]
   exact hA
  ·rw [zan fun z=>by subst z;exact nq mem]
   exact k1 q nq ql
  ·by_cases z:q=p
   ·subst z;exact⟨[],zal⟩
   ·rw [zan z];exact k2 q hq
 ·have e:k=ws.length:=by omega
  subst e
  refine .inl ⟨⟨ws,SqL.of hA,Nat.le_refl _⟩,?_⟩
  have key:∀ q u,H q=some u->H' q=some u\/((∃ o xs,u=.frz o (.lst xs))/\NZ X C H0 q):=fun q u e=>by
   by_cases z:V.ref q∈ws
   ·obtain⟨p,o,xs,e1,e2,e3⟩:=nn _ z
    cases e1
    rw [e2] at e
    cases e
    exact .inr ⟨⟨o,xs,rfl⟩,e3⟩
   ·refine .inl ?_
    have nq:q≠l:=fun w=>by
     subst w
     rw [<- tn _ z,hl] at e
     cases e
    rw [k1 q z nq,tn q z]
    exact e
  obtain⟨r,f04⟩:=zq1 rel bk ok fm hlen key
  exact gd σ' H' r f04
end
end
end FL
noncomputable section
namespace K58
open PySem FL
def zh3:SF:=(zaD (zm4 (e1 (zdK "int") (eV 0)) (zvs (e1 (zdK "bool") (eV 0)))))
def zcl:List D->R D:=zbj false 1 1 zh3
def zcv:SF:=(zgq (zdD 3) (tB (e2 neD (eV 3) (eC (.int 0)))) (zgr 2 3 (eV 3) (e2 zgd (eV 2) (eV 3))))
def zdw:SF:=(zat (zgr 2 3 (e1 zpA (eV 0)) (e1 zpA (eV 1)))
  (zat zcv
  (zaD (eV 2))))
def zaC:List D->R D:=zbj false 2 4 zdw
def zfO:SF:=(zaD (zaP (zaa (e1 zdg (eV 0)) (zaa (eV 0) zah))))
def zcE:List D->R D:=zbj false 1 1 zfO
def zco:EF:=(ze0 1 [0,1] (iD (eV 0)) (gN 0) (tB (e2 eqD (e1 zdg (eV 0)) (eV 2))) (eV 0) (e2 zfc (eV 1) (eV 0)))
def zc0:SF:=(zbc zco)
def zbi:List D->R D:=zbj true 2 2 zc0
def zfR:SF:=(zat (zaL (gN 2) (e2 zaV (e2 zaV (e2 zbS (e2 zaV (e2 zgd (eV 0) (e2 zaV (e2 zhI (eC (.int 10)) (eC (.int 18))) (eC (.int 9)))) (e2 zbS (eC (.int 7)) (eV 1))) (eC (.int 739108512309184756019283746561))) (e2 zbS (eC (.int 7919)) (eV 1))) (eC (.int 1))))
  (zat (zaL (gN 2) (e2 zgd (e2 zbS (eV 2) (eV 2)) (e2 zaV (e2 zhI (eC (.int 10)) (eC (.int 60))) (eC (.int 7)))))
  (zaD (e2 zgd (e2 zbS (e2 zaV (eV 2) (eC (.int 40503))) (e2 zaV (eV 2) (eC (.int 57)))) (e2 zaV (e2 zhI (eC (.int 10)) (eC (.int 60))) (eC (.int 7)))))))
def zdV:List D->R D:=zbj false 2 3 zfR
def zks:SF:=(zat (sIf (tB (e2 ltD (eV 1) (e1 zdg (eV 0)))) (zaD (e2 ixD (eV 0) (eV 1))) sNx)
  (zaD (e2 zaV (e2 zbS (eC (.int 3)) (eV 1)) (eC (.int 1)))))
def zfb:List D->R D:=zbj false 2 2 zks
def zfE:SF:=(zgq (zdD 3) (tB (e2 neD (eV 3) (eC (.int 0)))) (zgr 2 3 (eV 3) (e2 zgd (eV 2) (eV 3))))
def zh7:SF:=(zat (zaL (gN 2) (e1 zpA (eV 0)))
  (zat (zaL (gN 3) (eV 1))
  (zat zfE
  (zaD (zaP (zaa (e2 zaG (eV 0) (eV 2)) (zaa (e2 zaG (eV 1) (eV 2)) zah)))))))
def zed:List D->R D:=zbj false 2 4 zh7
def zha:SF:=(zaD (zaP (zaa (e1 zdg (eV 0)) (zaa (eV 0) zah))))
def zhp:List D->R D:=zbj false 1 1 zha
def zg6:SF:=(zat (sIf (FL.tOr (FL.zen (tE (e1 (zdK "tuple") (eV 0)))) (tB (e2 neD (e1 zdg (eV 0)) (eC (.int 2))))) (zaD (eC (.bool false))) sNx)
  (zat (zaL (gT [(gN 1),(gN 2)]) (eV 0))
  (zat (sIf (FL.tOr (FL.zen (tE (zag zcl (zaa (eV 1) zah)))) (FL.tOr (FL.zen (tE (zag zcl (zaa (eV 2) zah)))) (tB (e2 ltD (eV 2) (eC (.int 1)))))) (zaD (eC (.bool false))) sNx)
  (zaD (e2 eqD (zag zaC (zaa (eV 1) (zaa (eV 2) zah))) (eC (.int 1)))))))
def zho:List D->R D:=zbj false 1 3 zg6
def zr2:SF:=(zat (zaL (gN 2) (zag zaC (zaa (e2 ixD (eV 0) (eC (.int 1))) (zaa (e2 ixD (eV 1) (eC (.int 1))) zah))))
  (zat (zgr 3 4 (e2 zaG (e2 ixD (eV 0) (eC (.int 1))) (eV 2)) (e2 zaG (e2 ixD (eV 1) (eC (.int 1))) (eV 2)))
  (zat (zaL (gN 5) (e2 zaV (e2 zbS (e2 ixD (eV 0) (eC (.int 0))) (eV 4)) (e2 zbS (e2 ixD (eV 1) (eC (.int 0))) (eV 3))))
  (zat (zaL (gN 6) (zag zaC (zaa (eV 5) (zaa (eV 2) zah))))
  (zaD (zaP (zaa (e2 zaG (eV 5) (eV 6)) (zaa (e2 zbS (eV 3) (e2 zaG (e2 ixD (eV 1) (eC (.int 1))) (eV 6))) zah))))))))
def zr6:List D->R D:=zbj false 2 7 zr2
def zpt:SF:=(zat (zgr 2 3 (zag zaC (zaa (e2 ixD (eV 0) (eC (.int 0))) (zaa (e2 ixD (eV 1) (eC (.int 1))) zah))) (zag zaC (zaa (e2 ixD (eV 1) (eC (.int 0))) (zaa (e2 ixD (eV 0) (eC (.int 1))) zah))))
  (zaD (zaP (zaa (e2 zbS (e2 zaG (e2 ixD (eV 0) (eC (.int 0))) (eV 2)) (e2 zaG (e2 ixD (eV 1) (eC (.int 0))) (eV 3))) (zaa (e2 zbS (e2 zaG (e2 ixD (eV 0) (eC (.int 1))) (eV 3)) (e2 zaG (e2 ixD (eV 1) (eC (.int 1))) (eV 2))) zah)))))
def zjl:List D->R D:=zbj false 2 4 zpt
def zgs:EF:=(zdm 1 [1] (iE (eV 0)) (gN 0) zc8 (zm4 (zag zcl (zaa (eV 0) zah)) (ze1 leD ltD (eC (.int 0)) (eV 0) (eV 1))))
def zkp:SF:=(zat (sIf (FL.tOr (FL.zen (tE (e1 (zdK "tuple") (eV 0)))) (tB (e2 gtD (e1 zdg (eV 0)) (eC (.int 5))))) (zaD (eC (.bool false))) sNx)
  (zaD (e1 zv1 zgs)))
def zkH:List D->R D:=zbj false 2 2 zkp
def zcc:SF:=(sIf (FL.tOr (FL.zen (tE (zag zcl (zaa (eV 0) zah)))) (FL.zen (tB (ze1 leD leD (eC (.int 1)) (eV 0) (eC (.int 4)))))) znL sNx)
def zbt:List D->R D:=zbj false 1 1 zcc
def zfQ:SF:=(zat (sIf (tB (e2 geD (eV 0) (e2 zhI (eC (.int 10)) (eC (.int 18))))) (zbc (zcR (zaa (e2 zhr (eV 0) (e2 zhI (eC (.int 10)) (eC (.int 18)))) (zaa (eC (.int 0)) (zaa (eV 1) zah))))) sNx)
  (zbc (zcR (zaa (zag zdV (zaa (eV 0) (zaa (eV 1) zah))) (zaa (eC (.int 0)) (zaa (e2 zaV (e2 zgd (eV 0) (e2 zaV (e2 zhI (eC (.int 10)) (eC (.int 18))) (eC (.int 9)))) (eV 1)) zah))))))
def zcF:List D->R D:=zbj true 2 2 zfQ
def zg9:SF:=(zat (sIf (tB (e2 ltD (m2 ixD 0 (eC (.int 0))) (eV 1))) (zat (setM 0 (e2 zaV (m2 ixD 0 (eC (.int 1))) (eC (.int 1))) (eC (.int 1)))
  (setM 0 (e2 zaV (m2 ixD 0 (eC (.int 0))) (e2 zbS (eV 1) (zag zdV (zaa (m2 ixD 0 (eC (.int 2))) (zaa (e2 zaV (e2 zbS (eC (.int 11)) (m2 ixD 0 (eC (.int 1)))) (eC (.int 5))) zah))))) (eC (.int 0)))) sNx)
  (zat (zaL (gN 2) (e2 zgd (m2 ixD 0 (eC (.int 0))) (eV 1)))
  (zat (setM 0 (e2 zaG (m2 ixD 0 (eC (.int 0))) (eV 1)) (eC (.int 0)))
  (zaD (eV 2)))))
def zaq:List D->R (D×List D):=run [true,false] false 3 zg9
def zhb:SF:=(zaD (zag zed (zaa (e2 zaV (e2 zbS (e2 ixD (eV 0) (eC (.int 0))) (e2 ixD (eV 1) (eC (.int 1)))) (e2 zbS (e2 ixD (eV 1) (eC (.int 0))) (e2 ixD (eV 0) (eC (.int 1))))) (zaa (e2 zbS (e2 ixD (eV 0) (eC (.int 1))) (e2 ixD (eV 1) (eC (.int 1)))) zah))))
def zhq:List D->R D:=zbj false 2 2 zhb
def zkr:SF:=(zaD (zag zed (zaa (e2 zbS (e2 ixD (eV 0) (eC (.int 0))) (e2 ixD (eV 1) (eC (.int 0)))) (zaa (e2 zbS (e2 ixD (eV 0) (eC (.int 1))) (e2 ixD (eV 1) (eC (.int 1)))) zah))))
def zdW:List D->R D:=zbj false 2 2 zkr
def zkq:SF:=(zat (sIf (FL.tOr (FL.zen (tE (e1 (zdK "tuple") (eV 0)))) (tB (e2 neD (e1 zdg (eV 0)) (eC (.int 2))))) (zaD (eC (.bool false))) sNx)
  (zaD (zm4 (zag zkH (zaa (e2 ixD (eV 0) (eC (.int 0))) (zaa (eV 1) zah))) (zm4 (zag zho (zaa (e2 ixD (eV 0) (eC (.int 1))) zah)) (e2 neD (e2 ixD (eV 0) (eC (.int 1))) (eC (.tuple [(.int 0),(.int 1)])))))))
def zkI:List D->R D:=zbj false 2 2 zkq
def zh5:SF:=(zat (zaL (gN 2) (zag zr6 (zaa (zf1 0 (eV 1) (eC (.tuple [(.int 0),(.int 1)]))) (zaa (eV 2) zah))))
  (sIf (tB (e2 neD (eV 2) (eC (.tuple [(.int 0),(.int 1)])))) (zfu 0 (eV 1) (eV 2)) (sIf (tB (m2r inD (eV 1) 0)) (zlk 0 (eV 1)) sNx)))
def zbV:List D->R (D×List D):=run [true,false,false] false 3 zh5
def ze5:SF:=(zat (zaL (gN 1) (zao zaq [.m 0,.v (eC (.int 5))]))
  (zat (sIf (tB (e2 ltD (eV 1) (eC (.int 3)))) (zaD (e2 ixD (zcR (aCs [(.tuple [(.int 0),(.int 1)]),(.tuple [(.int 1),(.int 1)]),(.tuple [(.int (-1)),(.int 1)])])) (eV 1))) sNx)
  (zat (sIf (tB (e2 eqD (eV 1) (eC (.int 3)))) (zaD (zaP (zaa (e2 zhr (zao zaq [.m 0,.v (eC (.int 13))]) (eC (.int 6))) (zaa (eC (.int 1)) zah)))) sNx)
  (zaD (zag zed (zaa (e2 zhr (zao zaq [.m 0,.v (e2 zaV (e2 zbS (eC (.int 2)) (e2 zhI (eC (.int 10)) (eC (.int 3)))) (eC (.int 1)))]) (e2 zhI (eC (.int 10)) (eC (.int 3)))) (zaa (e2 zaV (eC (.int 1)) (zao zaq [.m 0,.v (eC (.int 9))])) zah)))))))
def zbO:List D->R (D×List D):=run [true] false 2 ze5
def zh6:SF:=(zat (zfu 0 (eV 1) (zag zhq (zaa (zf1 0 (eV 1) (zaP (zaa (eC (.int 0)) (zaa (eC (.int 1)) zah)))) (zaa (eV 2) zah))))
  (sIf (tB (e2 eqD (e2 ixD (m2 zfc 0 (eV 1)) (eC (.int 0))) (eC (.int 0)))) (zpj 0 (eV 1)) sNx))
def zby:List D->R (D×List D):=run [true,false,false] false 3 zh6
def zfP:SF:=(zat (sIf (FL.zen (tE (zag zkI (zaa (eV 1) (zaa (eV 2) zah))))) (zaD (eC (.bool false))) sNx)
  (zaD (eOr (e2 isD (eV 0) (eC .none)) (e2 zuX (zag zcE (zaa (e2 ixD (eV 0) (eC (.int 0))) zah)) (zag zcE (zaa (e2 ixD (eV 1) (eC (.int 0))) zah))))))
def zfZ:List D->R D:=zbj false 3 3 zfP
def zfH:EF:=(zdm 1 [0] (iE (e1 (zeL zcE) (eV 0))) (gN 0) zc8 (zaP (zaa (eV 0) (zaa (e2 zfc (eV 1) (eV 0)) zah))))
def zh2:SF:=(zbc zfH)
def zc6:List D->R D:=zbj true 1 1 zh2
def zeK:SF:=(sE (zao zbV [.m 0,.v (eV 3),.v (zag zjl (zaa (eV 1) (zaa (e2 zfc (eV 2) (eV 3)) zah)))]))
def zeJ:SF:=(zep (iD (eV 2)) (gN 3) zeK)
def zg7:SF:=zeJ
def zaW:List D->R (D×List D):=run [true,false,false] false 4 zg7
def zaX:EF:=(zdm 1 [1] (iR1 (zaa (e2 zaV (eC (.int 5)) (eC (.int 1))) zah)) (gN 0) zc8 (zag zbi (zaa (eV 1) (zaa (eV 0) zah))))
def zbr:SF:=(sE (zao zbV [.m 3,.v (e2 zaV (eV 4) (eV 6)),.v (zag zjl (zaa (e2 zfc (eV 0) (eV 4)) (zaa (e2 zfc (eV 5) (eV 6)) zah)))]))
def zbo:SF:=(zep (iD (eV 5)) (gN 6) zbr)
def zbq:SF:=zbo
def zb7:SF:=(zep (iE (eSl (eV 2) zmN (zmM (e2 zhr (e2 zaV (eC (.int 5)) (eC (.int 1))) (e1 zdg (eV 4)))))) (gN 5) zbq)
def zbp:SF:=zb7
def zbn:SF:=(zep (iD (eV 0)) (gN 4) zbp)
def zb1:SF:=(zat (zir 2 (zdE 2 zaX))
  (zat (zdE 3 zcq)
  (zat zbn
  (zjx 3))))
def zaJ:List D->R D:=zbj true 2 7 zb1
def zeQ:EF:=(zdm 1 [0] (iE (e1 (zeL zhp) (eV 0))) (gN 0) zc8 (zaP (zaa (eV 0) (zaa (e2 zfc (eV 1) (eV 0)) zah))))
def zg8:SF:=(zbc zeQ)
def zaK:List D->R D:=zbj true 1 1 zg8
def zfG:SF:=(zat (sIf (FL.zen (tE (zag zfZ (zaa (eV 2) (zaa (eV 4) (zaa (eV 1) zah)))))) znL sNx)
  (zaL (gN 2) (eV 4)))
def zfD:SF:=(zep (zvV (zaa (eV 0) zah)) (gT [(gN 3),(gN 4)]) zfG)
def zfI:EF:=(ze0 2 [] (iE (eV 0)) (gT [(gN 0),(gN 1)]) zc8 (eV 0) (eV 1))
def zh4:SF:=(zat (zaL (gN 2) (eC .none))
  (zat zfD
  (zbc zfI)))
def zec:List D->R D:=zbj true 2 5 zh4
def zbY:SF:=(zat (zdE 4 zcq)
  (zat (sE (zao zaW [.m 4,.v (zaP (zaa (eC (.int 1)) (zaa (eV 3) zah))),.v (zag zaJ (zaa (eV 2) (zaa (eV 0) zah)))]))
  (zat (zkP 4 (zaL (gN 2) (eV 4)))
  (sE (zao zaW [.m 1,.v (eC (.tuple [(.int 1),(.int 1)])),.v (eV 2)])))))
def zbW:SF:=(zep (iR2 (zaa (eC (.int 1)) (zaa (e2 zaV (eC (.int 5)) (eC (.int 1))) zah))) (gN 3) zbY)
def zcB:SF:=(zat (zdE 1 (zeZ (zaP zah) (eC (.tuple [(.int 1),(.int 1)]))))
  (zat (zaL (gN 2) (zeZ (zaP zah) (eC (.tuple [(.int 1),(.int 1)]))))
  (zat zbW
  (zjx 1))))
def zdU:List D->R D:=zbj true 1 5 zcB
def zbD:SF:=(zat (zaL (gN 3) (zag zaJ (zaa (eV 3) (zaa (eV 1) zah))))
  (sE (zao zaW [.m 2,.v (zaP (zaa (eIf (tB (e2 eqD (e2 zgd (eV 4) (eC (.int 2))) (eC (.int 1)))) (eC (.int 1)) (e1 zrE (eC (.int 1)))) (zaa (eV 4) zah))),.v (eV 3)])))
def za6:SF:=(zep (iR2 (zaa (eC (.int 1)) (zaa (e2 zaV (eC (.int 5)) (eC (.int 1))) zah))) (gN 4) zbD)
def zch:SF:=(zat (zdE 1 (e1 zkf (eV 0)))
  (zat (sE (zao zbV [.m 1,.v (zaP zah),.v (eC (.tuple [(.int (-1)),(.int 1)]))]))
  (zat (zdE 2 zcq)
  (zat (zaL (gN 3) (zeZ (zaP zah) (eC (.tuple [(.int 1),(.int 1)]))))
  (zat (zkP 1 za6)
  (zjx 2))))))
def zdt:List D->R D:=zbj true 1 5 zch
def zaQ:SF:=(sIf (tB (e2 ltD (e2 zaV (e1 zdg (eV 3)) (e1 zdg (eV 5))) (eC (.int 6)))) (sE (zao zby [.m 2,.v (e2 zaV (eV 3) (eV 5)),.v (zag zdW (zaa (eV 4) (zaa (eV 6) zah)))])) sNx)
def zdB:SF:=(zep (iE (eV 1)) (gT [(gN 5),(gN 6)]) zaQ)
def zcn:SF:=zdB
def zcm:SF:=(zep (iE (eV 0)) (gT [(gN 3),(gN 4)]) zcn)
def zck:SF:=(zat (zdE 2 zcq)
  (zat zcm
  (zkP 2 (zbc (zag zaK (zaa (eV 2) zah))))))
def zbQ:List D->R D:=zbj true 2 7 zck
def zbl:EF:=(zdm 1 [0,1] (iR1 (zaa (e2 zaV (eC (.int 1)) (zao zaq [.m 0,.v (eV 3)])) zah)) (gN 0) zc8 (zao zaq [.m 1,.v (eV 2)]))
def zbk:SF:=(zat (zaL (gN 5) (e1 zjt zbl))
  (zat (zaL (gN 6) (zao zbO [.m 0]))
  (sIf (tB (e2 neD (e2 ixD (eV 6) (eC (.int 0))) (eC (.int 0)))) (zfu 2 (eV 5) (eV 6)) sNx)))
def zbX:SF:=(zep (iR1 (zaa (zao zaq [.m 0,.v (eC (.int 3))]) zah)) (gN 4) zbk)
def zcD:SF:=(zat (zdE 2 zcq)
  (zat (zaL (gN 3) (e2 zaV (eC (.int 1)) (zao zaq [.m 0,.v (eC (.int 3))])))
  (zat zbX
  (zkP 2 (zbc (zag zaK (zaa (eV 2) zah)))))))
def zcG:List D->R (D×List D):=run [true,false] true 7 zcD
def zcN:SF:=(zat (sE (zag zbt (zaa (eV 0) zah)))
  (zbc (zag zec (zaa (eV 1) (zaa (eV 0) zah)))))
def zaz:List D->R D:=zbj true 2 2 zcN
def za7:SF:=(sE (zao zby [.m 2,.v (eV 5),.v (zag zdW (zaa (eV 6) (zaa (eV 4) zah)))]))
def zdA:SF:=(zep (iE (eV 3)) (gT [(gN 5),(gN 6)]) za7)
def zbE:SF:=(zat (zaL (gN 3) (zag zbQ (zaa (eV 3) (zaa (eV 0) zah))))
  zdA)
def zbC:SF:=(zep (iE (eV 1)) (gN 4) zbE)
def zci:SF:=(zat (zdE 2 zcq)
  (zat (zaL (gN 3) (zcR (zaa (zaP (zaa (zaP zah) (zaa (zaP (zaa (eC (.int 1)) (zaa (eC (.int 1)) zah))) zah))) zah)))
  (zat zbC
  (zjx 2))))
def zbN:List D->R D:=zbj true 2 7 zci
def zja:SF:=(zat (zaL (gN 2) (zag zaz (zaa (eV 0) (zaa (eV 1) zah))))
  (zat (sIf (tB (e2 inD (zaP zah) (eV 2))) znL sNx)
  (zbc (zag zc6 (zaa (zag zdU (zaa (eV 2) zah)) zah)))))
def zcQ:List D->R D:=zbj true 2 3 zja
def zgk:SF:=(zat (zaL (gN 2) (zag zaz (zaa (eV 0) (zaa (eV 1) zah))))
  (zat (sIf (tB (e2 neD (e3 ziW (eV 2) (zaP zah) (eC (.tuple [(.int 0),(.int 1)]))) (eC (.tuple [(.int 1),(.int 1)])))) znL sNx)
  (zbc (zag zc6 (zaa (zag zdt (zaa (eV 2) zah)) zah)))))
def zb3:List D->R D:=zbj true 2 3 zgk
def zcC:SF:=(zat (zdE 1 (zag zbN (zaa (eV 0) (zaa (zcR (aCs [(.tuple [(.int 1),(.int 1)]),(.tuple [(.int 1),(.int 2)]),(.tuple [(.int 1),(.int 6)]),(.tuple [(.int 1),(.int 24)]),(.tuple [(.int 1),(.int 120)])])) zah))))
  (zat (sE (zao zby [.m 1,.v (zaP zah),.v (zaP (zaa (eC (.int 1)) (zaa (eC (.int 1)) zah)))]))
  (zkP 1 (zbc (zag zaK (zaa (eV 1) zah))))))
def zb6:List D->R D:=zbj true 1 2 zcC
def za9:EF:=(zdm 2 [] (iE (eV 0)) (gT [(gN 0),(gN 1)]) (tB (e2 neD (eV 0) (zaP zah))) (zaP (zaa (eV 0) (zaa (eV 1) zah))))
def zcj:SF:=(zat (zir 1 (zdE 1 za9))
  (zbc (zag zaK (zaa (zag zbN (zaa (eV 1) (zaa (zcR (aCs [(.tuple [(.int 1),(.int 1)]),(.tuple [(.int (-1)),(.int 2)]),(.tuple [(.int 1),(.int 3)]),(.tuple [(.int (-1)),(.int 4)]),(.tuple [(.int 1),(.int 5)])])) zah))) zah))))
def zbP:List D->R D:=zbj true 1 2 zcj
def zff:SF:=(zwk fun ρ0=>(ztF 9 (zcR (zaa (zag zcQ (zaa (eV 3) (zaa (e2 ixD (eV 7) (eC (.int 0))) zah))) (zaa (zag zb3 (zaa (eV 3) (zaa (e2 ixD (eV 7) (eC (.int 1))) zah))) zah)))
  (zat (sIf (FL.tOr (tB (e2 zwJ (e1 zse (eV 9)) (e1 zse (eV 6)))) (tB (e2 neD (eV 7) (zcR (zaa (eV 4) (zaa (eV 5) zah)))))) (zaD (eC (.bool false))) sNx)
  (ztF 10 (zcR (zaa (zag zb3 (zaa (eV 3) (zaa (e2 ixD (eV 9) (eC (.int 0))) zah))) (zaa (zag zcQ (zaa (eV 3) (zaa (e2 ixD (eV 9) (eC (.int 1))) zah))) zah)))
  (zat (sIf (FL.tOr (tB (e2 neD (eV 10) (zcR (zaa (eV 4) (zaa (eV 5) zah))))) (tB (e2 neD (eV 9) (eV 6)))) (zaD (eC (.bool false))) sNx)
  (znJ [9,10,11] ρ0))))))
def zig:SF:=(zep (iR1 (zaa (eC (.int 2)) zah)) (gN 8) zff)
def zgo:SF:=(zat (zdE 2 (zag zcF (zaa (zag zfb (zaa (eV 0) (zaa (eV 1) zah))) (zaa (eV 1) zah))))
  (zat (zaL (gN 3) (e2 zaV (eC (.int 1)) (zao zaq [.m 2,.v (eC (.int 4))])))
  (zat (zaL (gN 4) (zao zcG [.m 2,.v (eV 3)]))
  (zat (zaL (gN 5) (e2 zaV (zcR (zaa (zaP (zaa (zaP zah) (zaa (zaP (zaa (eC (.int 1)) (zaa (eC (.int 1)) zah))) zah))) zah)) (eV 4)))
  (zat (zaL (gN 6) (zcR (zaa (zag zb6 (zaa (eV 4) zah)) (zaa (zag zbP (zaa (eV 5) zah)) zah))))
  (zat (zaL (gN 7) (zcR (zaa (e1 ziI (eV 4)) (zaa (e1 ziI (eV 5)) zah))))
  zig))))))
def zif:SF:=(zep (iR1 (zaa (e2 zaV (eC (.int 1)) (e1 intD (e2 gtD (e1 zdg (eV 0)) (eC (.int 1))))) zah)) (gN 1) zgo)
def zrh:SF:=(zat zif
  (zaD (eC (.bool true))))
def zpI:List D->R D:=zbj false 1 12 zrh
end K58
namespace K58
open PySem L2 PySem.Spec FL
open PyProof.Rows hiding St
section
def top(i:Nat):Stmt:=PySem.Challenge.pw_swaprest_k58_grown_and_logged_sums.main.body.getD i (.Pass ⟨0,0,0,0⟩)
variable [Cs]
structure Cst(mg:Str->Option Value)(zaY:Tok)(zbT:Tok)(zaI:Addr)(zb2:Addr)(zhA:Addr):Prop where
  zcK:mg "MOST_LETTERS"=some (.int 4 zaY)
  zbu:mg "MOST_LONG"=some (.int 5 zbT)
  zey:mg "MINUS_ONE"=some (.ref zaI)
  v_MINUS_ONE:∃ o,Cs.C zaI=some (.frz o (.tup [.int (-1),.int 1]))
  zd2:mg "NOUGHT"=some (.ref zb2)
  v_NOUGHT:∃ o,Cs.C zb2=some (.frz o (.tup [.int 0,.int 1]))
  zk1:mg "ONE"=some (.ref zhA)
  v_ONE:∃ o,Cs.C zhA=some (.frz o (.tup [.int 1,.int 1]))
section
variable {P:Program}{w:World}{K:W.Frag}{mg:Str->Option Value}{base:Heap}
abbrev zd7:=CT "is_whole" 1 ["one"] 1 false zcl
abbrev zbs:=CT "common_divisor" 1 ["one","other"] 2 false zaC
abbrev zdQ:=CT "word_order" 1 ["word"] 1 false zcE
abbrev zc1:=CT "terms_of_length" 1 ["held","length"] 2 true zbi
abbrev zdR:=CT "_law_mixed" 1 ["_law_cell","_law_k"] 2 false zdV
abbrev zky:=CT "_law_at" 1 ["_law_script","_law_k"] 2 false zfb
abbrev zea:=CT "_law_low" 1 ["_law_top","_law_bottom"] 2 false zed
abbrev zhg:=CT "_law_rank" 1 ["_law_word"] 1 false zhp
abbrev zhf:=CT "is_number" 2 ["one"] 1 false zho
abbrev zr4:=CT "plus" 2 ["one","other"] 2 false zr6
abbrev zlq:=CT "times" 2 ["one","other"] 2 false zjl
abbrev zkw:=CT "is_word" 2 ["word","count"] 2 false zkH
abbrev zdx:=CT "refuse_letters" 2 ["count"] 1 false zbt
abbrev zfV:=CT "_law_purse" 2 ["_law_cell","_law_k"] 2 true zcF
abbrev zdr:=CTM "_law_take" 2 ["_law_purse_here","_law_many"] [true,false] false zaq
abbrev zhh:=CT "_law_plus" 2 ["_law_one","_law_other"] 2 false zhq
abbrev zhi:=CT "_law_by" 2 ["_law_one","_law_other"] 2 false zdW
abbrev zkx:=CT "is_term" 3 ["term","count"] 2 false zkI
abbrev zd8:=CTM "add_term" 3 ["held","word","number"] [true,false,false] false zbV
abbrev ze7:=CTM "_law_number" 3 ["_law_purse_here"] [true] false zbO
abbrev zd9:=CTM "_law_put" 3 ["_law_found","_law_word","_law_number_here"] [true,false,false] false zby
abbrev zfT:=CT "may_follow" 4 ["ahead","term","count"] 3 false zfZ
abbrev zfz:=CT "told_sum" 4 ["held"] 1 true zc6
abbrev zeG:=CTM "add_times" 4 ["held","number","other"] [true,false,false] false zaW
abbrev zcP:=CT "cut_together" 4 ["one","other"] 2 true zaJ
abbrev zcr:=CT "_law_told" 4 ["_law_found"] 1 true zaK
abbrev zh9:=CT "held_sum" 5 ["total","count"] 2 true zec
abbrev zfU:=CT "grown_dict" 5 ["held"] 1 true zdU
abbrev ze6:=CT "logged_dict" 5 ["held"] 1 true zdt
abbrev ze9:=CT "_law_joined" 5 ["_law_one","_law_other"] 2 true zbQ
abbrev zfX:=CTM "_law_drawn" 5 ["_law_purse_here","_law_count"] [true,false] true zcG
abbrev zcO:=CT "held_letters" 6 ["count","total"] 2 true zaz
abbrev zds:=CT "_law_powers" 6 ["_law_total","_law_shares"] 2 true zbN
abbrev zpB:=CT "grown" 7 ["count","total"] 2 true zcQ
abbrev zmz:=CT "logged" 7 ["count","total"] 2 true zb3
abbrev zfW:=CT "_law_grown" 7 ["_law_total"] 1 true zb6
abbrev ze8:=CT "_law_logged" 7 ["_law_total"] 1 true zbP
variable {zaY:Tok}{zbT:Tok}{zaI:Addr}{zb2:Addr}{zhA:Addr}(B:Blt mg)(C:Cst mg zaY zbT zaI zb2 zhA)
include B C
theorem zmU(h:Has K mg "is_whole" (top 10)):zd7 P w K mg base:=fnP ["one"] h fun hr nd=>by
  unfold zh3
  exact(zb5 (zlT (znU zta B.zba B.zqz Bt.int (zab 0)) (zlR (zui (znU zqK B.zba B.zor Bt.bool (zab 0))))))
theorem zf4(h:Has K mg "common_divisor" (top 11)):zbs P w K mg base:=fnP ["one","other","high","low"] h fun hr nd=>by
  unfold zdw zcv
  exact(zae (zjC 2 3 nd (zeu ztx B.zos Bt.abs (zab 0)) (zeu ztx B.zos Bt.abs (zab 1)))
      (zae (zjB (zdD 3) PassesOwn.never (za2 (znl hr) (zab 3) zad) (zam (zjC 2 3 nd (zab 3) (zar zjL (zab 2) (zab 3)))))
      (zb5 (zab 2))))
theorem zjU(h:Has K mg "word_order" (top 19)):zdQ P w K mg base:=fnP ["word"] h fun hr nd=>by
  unfold zfO
  exact(zb5 (zaO (a2 (zeu zg3 B.zfj Bt.len (zab 0)) (zab 0))))
theorem zfn(h:Has K mg "terms_of_length" (top 25)):zc1 P w K mg base:=fnP ["held","length"] h fun hr nd=>by
  unfold zc0 zco
  exact(zam (zbd (dcp ["word"] [0,1] ["word","held","length"] hr (zgb (zab 0)) (fun nd=>(g_n 0 nd)) (zlP (za2 (zuc hr) (zeu zg3 B.zfj Bt.len (zab 0)) (zab 2))) (zab 0) (zaF (zso hr) (zab 1) (zab 0)))))
theorem zjY(h:Has K mg "_law_mixed" (top 37)):zdR P w K mg base:=fnP ["_law_cell","_law_k","_law_number_here"] h fun hr nd=>by
  unfold zfR
  exact(zae (zaM 2 nd (zar zbA (zar zbA (zar zde (zar zbA (zar zjL (zab 0) (zar zbA (zar zjK zad zad) zad)) (zar zde zad (zab 1))) zad) (zar zde zad (zab 1))) zad))
      (zae (zaM 2 nd (zar zjL (zar zde (zab 2) (zab 2)) (zar zbA (zar zjK zad zad) zad)))
      (zb5 (zar zjL (zar zde (zar zbA (zab 2) zad) (zar zbA (zab 2) zad)) (zar zbA (zar zjK zad zad) zad)))))
theorem zoN(h:Has K mg "_law_at" (top 40)):zky P w K mg base:=fnP ["_law_script","_law_k"] h fun hr nd=>by
  unfold zks
  exact(zae (zbG (za2 (ztG hr) (zab 1) (zeu zg3 B.zfj Bt.len (zab 0))) (zb5 (zaF zcu (zab 0) (zab 1))) zaZ)
      (zb5 (zar zbA (zar zde zad (zab 1)) zad)))
theorem zmY(h:Has K mg "_law_low" (top 41)):zea P w K mg base:=fnP ["_law_top","_law_bottom","_law_one","_law_other"] h fun hr nd=>by
  unfold zh7 zfE
  exact(zae (zaM 2 nd (zeu ztx B.zos Bt.abs (zab 0)))
      (zae (zaM 3 nd (zab 1))
      (zae (zjB (zdD 3) PassesOwn.never (za2 (znl hr) (zab 3) zad) (zam (zjC 2 3 nd (zab 3) (zar zjL (zab 2) (zab 3)))))
      (zb5 (zaO (a2 (zar (zdI hr) (zab 0) (zab 2)) (zar (zdI hr) (zab 1) (zab 2))))))))
theorem zla(h:Has K mg "_law_rank" (top 45)):zhg P w K mg base:=fnP ["_law_word"] h fun hr nd=>by
  unfold zha
  exact(zb5 (zaO (a2 (zeu zg3 B.zfj Bt.len (zab 0)) (zab 0))))
theorem zk6(h:Has K mg "is_number" (top 12)) (c_common_divisor:zbs P w K mg base) (c_is_whole:zd7 P w K mg base):zhf P w K mg base:=fnP ["one","top","bottom"] h fun hr nd=>by
  unfold zg6
  exact(zae (zbG (PVW.pvt (zfJ (zda (zdH zjr (znU kit_tuple B.zba B.zfi Bt.tuple (zab 0)))) (zes (za2 (znl hr) (zeu zg3 B.zfj Bt.len (zab 0)) zad)))) (zb5 zjF) zaZ)
      (zae (zsy (zab 0) (zet rfl (zaE (g_n 1 nd) (zaE (g_n 2 nd) zdc))))
      (zae (zbG (PVW.pvt (zfJ (zda (zdH zjr (zbR c_is_whole hr (a1 (zab 1))))) (zfJ (zda (zdH zjr (zbR c_is_whole hr (a1 (zab 2))))) (zes (za2 (ztG hr) (zab 2) zad))))) (zb5 zjF) zaZ)
      (zb5 (znV (zuc hr) (zbR c_common_divisor hr (a2 (zab 1) (zab 2))) zad)))))
theorem zu6(h:Has K mg "plus" (top 13)) (c_common_divisor:zbs P w K mg base):zr4 P w K mg base:=fnP ["one","other","shared","mine","its","top","again"] h fun hr nd=>by
  unfold zr2
  exact(zae (zaM 2 nd (zbR c_common_divisor hr (a2 (zaF zcu (zab 0) zad) (zaF zcu (zab 1) zad))))
      (zae (zjC 3 4 nd (zar (zdI hr) (zaF zcu (zab 0) zad) (zab 2)) (zar (zdI hr) (zaF zcu (zab 1) zad) (zab 2)))
      (zae (zaM 5 nd (zar zbA (zar zde (zaF zcu (zab 0) zad) (zab 4)) (zar zde (zaF zcu (zab 1) zad) (zab 3))))
      (zae (zaM 6 nd (zbR c_common_divisor hr (a2 (zab 5) (zab 2))))
      (zb5 (zaO (a2 (zar (zdI hr) (zab 5) (zab 6)) (zar zde (zab 3) (zar (zdI hr) (zaF zcu (zab 1) zad) (zab 6))))))))))
theorem ztc(h:Has K mg "times" (top 14)) (c_common_divisor:zbs P w K mg base):zlq P w K mg base:=fnP ["one","other","mine","its"] h fun hr nd=>by
  unfold zpt
  exact(zae (zjC 2 3 nd (zbR c_common_divisor hr (a2 (zaF zcu (zab 0) zad) (zaF zcu (zab 1) zad))) (zbR c_common_divisor hr (a2 (zaF zcu (zab 1) zad) (zaF zcu (zab 0) zad))))
      (zb5 (zaO (a2 (zar zde (zar (zdI hr) (zaF zcu (zab 0) zad) (zab 2)) (zar (zdI hr) (zaF zcu (zab 1) zad) (zab 3))) (zar zde (zar (zdI hr) (zaF zcu (zab 0) zad) (zab 3)) (zar (zdI hr) (zaF zcu (zab 1) zad) (zab 2)))))))
theorem zoK(h:Has K mg "is_word" (top 17)) (c_is_whole:zd7 P w K mg base):zkw P w K mg base:=fnP ["word","count"] h fun hr nd=>by
  unfold zkp zgs
  exact(zae (zbG (PVW.pvt (zfJ (zda (zdH zjr (znU kit_tuple B.zba B.zfi Bt.tuple (zab 0)))) (zes (za2 (zxu hr) (zeu zg3 B.zfj Bt.len (zab 0)) (zfh (v:=(.int 5)) rfl C.zbu ⟨_,rfl⟩ (fun _=>zcp _)))))) (zb5 zjF) zaZ)
      (zb5 (zeu (zxc rfl) B.zs5 Bt.all (PVN.pv (cp ["one"] [1] ["one","count"] (zcI (zab 0)) (fun nd=>(g_n 0 nd)) zd0 (zlT (zbR c_is_whole hr (a1 (zab 0))) (zlR (zqb (zwo hr) (ztG hr) zad (zab 0) (zab 1)))))))))
theorem zf3(h:Has K mg "refuse_letters" (top 28)) (c_is_whole:zd7 P w K mg base):zdx P w K mg base:=fnP ["count"] h fun hr nd=>by
  unfold zcc
  exact(zam (zbG (PVW.pvt (zfJ (zda (zdH zjr (zbR c_is_whole hr (a1 (zab 0))))) (zes (zda (znO (zwo hr) (zwo hr) zad (zab 0) (zfh (v:=(.int 4)) rfl C.zcK ⟨_,rfl⟩ (fun _=>zcp _))))))) (zam zeR) zaZ))
theorem zjX(h:Has K mg "_law_purse" (top 38)) (c__law_mixed:zdR P w K mg base):zfV P w K mg base:=fnP ["_law_cell","_law_k"] h fun hr nd=>by
  unfold zfQ
  exact(zae (zbG (za2 (zx9 hr) (zab 0) (zar zjK zad zad)) (zam (zbd (zdb (a3 (zar zqv (zab 0) (zar zjK zad zad)) zad (zab 1))))) zaZ)
      (zam (zbd (zdb (a3 (zbR c__law_mixed hr (a2 (zab 0) (zab 1))) zad (zar zbA (zar zjL (zab 0) (zar zbA (zar zjK zad zad) zad)) (zab 1)))))))
theorem zk9(h:Has K mg "_law_take" (top 39)) (c__law_mixed:zdR P w K mg base):zdr P w K mg base:=fnM [true,false] ["_law_purse_here","_law_many","_law_got"] h fun hr nd=>by
  unfold zg9
  exact(zae (zbG (za2 (ztG hr) (zjE 0 zcu zad) (zab 1)) (zae (ziu 0 (pv 0) (zar zbA (zjE 0 zcu zad) zad) zad)
      (zam (ziu 0 (pv 0) (zar zbA (zjE 0 zcu zad) (zar zde (zab 1) (zbR c__law_mixed hr (a2 (zjE 0 zcu zad) (zar zbA (zar zde zad (zjE 0 zcu zad)) zad))))) zad))) zaZ)
      (zae (zaM 2 nd (zar zjL (zjE 0 zcu zad) (zab 1)))
      (zae (ziu 0 (pv 0) (zar (zdI hr) (zjE 0 zcu zad) (zab 1)) zad)
      (zb5 (zab 2)))))
theorem zlb(h:Has K mg "_law_plus" (top 42)) (c__law_low:zea P w K mg base):zhh P w K mg base:=fnP ["_law_one","_law_other"] h fun hr nd=>by
  unfold zhb
  exact(zb5 (zbR c__law_low hr (a2 (zar zbA (zar zde (zaF zcu (zab 0) zad) (zaF zcu (zab 1) zad)) (zar zde (zaF zcu (zab 1) zad) (zaF zcu (zab 0) zad))) (zar zde (zaF zcu (zab 0) zad) (zaF zcu (zab 1) zad)))))
theorem zoM(h:Has K mg "_law_by" (top 43)) (c__law_low:zea P w K mg base):zhi P w K mg base:=fnP ["_law_one","_law_other"] h fun hr nd=>by
  unfold zkr
  exact(zb5 (zbR c__law_low hr (a2 (zar zde (zaF zcu (zab 0) zad) (zaF zcu (zab 1) zad)) (zar zde (zaF zcu (zab 0) zad) (zaF zcu (zab 1) zad)))))
theorem zoL(h:Has K mg "is_term" (top 18)) (c_is_word:zkw P w K mg base) (c_is_number:zhf P w K mg base):zkx P w K mg base:=fnP ["term","count"] h fun hr nd=>by
  unfold zkq
  exact(zae (zbG (PVW.pvt (zfJ (zda (zdH zjr (znU kit_tuple B.zba B.zfi Bt.tuple (zab 0)))) (zes (za2 (znl hr) (zeu zg3 B.zfj Bt.len (zab 0)) zad)))) (zb5 zjF) zaZ)
      (zb5 (zlT (zbR c_is_word hr (a2 (zaF zcu (zab 0) zad) (zab 1))) (zlT (zbR c_is_number hr (a1 (zaF zcu (zab 0) zad))) (zlR (znV (znl hr) (zaF zcu (zab 0) zad) (zei rfl C.zd2 C.v_NOUGHT (fun _=>by simp [zaf,Fz]))))))))
theorem zmW(h:Has K mg "add_term" (top 23)) (c_plus:zr4 P w K mg base):zd8 P w K mg base:=fnM [true,false,false] ["held","word","number"] h fun hr nd=>by
  unfold zh5
  exact(zae (zaM 2 nd (zbR c_plus hr (a2 (zlS 0 (zcx hr) (pv 0) (zab 1) (zei rfl C.zd2 C.v_NOUGHT (fun _=>by simp [zaf,Fz])) ⟨rfl,rfl,rfl,rfl⟩) (zab 2))))
      (zam (zbG (za2 (znl hr) (zab 2) (zei rfl C.zd2 C.v_NOUGHT (fun _=>by simp [zaf,Fz]))) (zam (ziv 0 (zcx hr) (pv 0) (zab 2) (zab 1))) (zam (zbG (zsq 0 (zub hr) (zab 1)) (zam (zp3 0 (zcx hr) (pv 0) (zab 1))) zaZ)))))
theorem ziQ(h:Has K mg "_law_number" (top 44)) (c__law_take:zdr P w K mg base) (c__law_low:zea P w K mg base):ze7 P w K mg base:=fnM [true] ["_law_purse_here","_law_way"] h fun hr nd=>by
  unfold ze5
  exact(zae (zaM 1 nd (zdd c__law_take hr (zh8 0 (zaN zad zay))))
      (zae (zbG (za2 (ztG hr) (zab 1) zad) (zb5 (zaF zcu (PVN.pv (ziw rfl)) (zab 1))) zaZ)
      (zae (zbG (za2 (zuc hr) (zab 1) zad) (zb5 (zaO (a2 (zar zqv (zdd c__law_take hr (zh8 0 (zaN zad zay))) zad) zad))) zaZ)
      (zb5 (zbR c__law_low hr (a2 (zar zqv (zdd c__law_take hr (zh8 0 (zaN (zar zbA (zar zde zad (zar zjK zad zad)) zad) zay))) (zar zjK zad zad)) (zar zbA zad (zdd c__law_take hr (zh8 0 (zaN zad zay))))))))))
theorem zmX(h:Has K mg "_law_put" (top 47)) (c__law_plus:zhh P w K mg base):zd9 P w K mg base:=fnM [true,false,false] ["_law_found","_law_word","_law_number_here"] h fun hr nd=>by
  unfold zh6
  exact(zae (ziv 0 (zcx hr) (pv 0) (zbR c__law_plus hr (a2 (zlS 0 (zcx hr) (pv 0) (zab 1) (zaO (a2 zad zad)) ⟨rfl,rfl,rfl,rfl⟩) (zab 2))) (zab 1))
      (zam (zbG (za2 (zuc hr) (zaF zcu (zjE 0 (zso hr) (zab 1)) zad) zad) (zam (zp2 0 (zcx hr) (pv 0) (zab 1) ⟨rfl,rfl,rfl,rfl⟩)) zaZ)))
theorem zjV(h:Has K mg "may_follow" (top 20)) (c_is_term:zkx P w K mg base) (c_word_order:zdQ P w K mg base):zfT P w K mg base:=fnP ["ahead","term","count"] h fun hr nd=>by
  unfold zfP
  exact(zae (zbG (zda (zdH zjr (zbR c_is_term hr (a2 (zab 1) (zab 2))))) (zb5 zjF) zaZ)
      (zb5 (zws (znV zwF (zab 0) zru) (zlR (znV (zwE hr.units) (zbR c_word_order hr (a1 (zaF zcu (zab 0) zad))) (zbR c_word_order hr (a1 (zaF zcu (zab 1) zad))))))))
theorem zmT(h:Has K mg "told_sum" (top 22)) (c_word_order:zdQ P w K mg base):zfz P w K mg base:=fnP ["held"] h fun hr nd=>by
  unfold zh2 zfH
  exact(zam (zbd (cp ["word"] [0] ["word","held"] (zcI (PVN.pv (zjD c_word_order hr rfl rfl B.zgc rfl (zab 0)))) (fun nd=>(g_n 0 nd)) zd0 (zaO (a2 (zab 0) (zaF (zso hr) (zab 1) (zab 0)))))))
theorem zk7(h:Has K mg "add_times" (top 24)) (c_add_term:zd8 P w K mg base) (c_times:zlq P w K mg base):zeG P w K mg base:=fnM [true,false,false] ["held","number","other","word"] h fun hr nd=>by
  unfold zg7 zeJ zeK
  exact(zam (zcy (zgb (zab 2)) (g_n 3 nd) (zam (zbZ (zdd c_add_term hr (zh8 0 (zaN (zab 3) (zaN (zbR c_times hr (a2 (zab 1) (zaF (zso hr) (zab 2) (zab 3)))) zay))))))))
theorem zhw(h:Has K mg "cut_together" (top 31)) (c_terms_of_length:zc1 P w K mg base) (c_add_term:zd8 P w K mg base) (c_times:zlq P w K mg base):zcP P w K mg base:=fnP ["one","other","by_length","held","first","terms","second"] h fun hr nd=>by
  unfold zb1 zbn zbp zb7 zbq zbo zbr zaX
  exact(zae (zlQ 2 (cpS 2 ["length"] [1] ["length","other"] nd (zcU rfl B.zdf (a1 (zar zbA (zfh (v:=(.int 5)) rfl C.zbu ⟨_,rfl⟩ (fun _=>zcp _)) zad))) (fun nd=>(g_n 0 nd)) zd0 (PVN.pv (za3 c_terms_of_length hr (a2 (zab 1) (zab 0))))))
      (zae (zeh 3 nd zcT)
      (zae (zcy (zgb (zab 0)) (g_n 4 nd) (zam (zcy (zcI (zqa zwg (zab 2) zp5 (zp4 (zar zqv (zar zbA (zfh (v:=(.int 5)) rfl C.zbu ⟨_,rfl⟩ (fun _=>zcp _)) zad) (zeu zg3 B.zfj Bt.len (zab 4)))))) (g_n 5 nd) (zam (zcy (zgb (zab 5)) (g_n 6 nd) (zam (zbZ (zdd c_add_term hr (zh8 3 (zaN (zar zbA (zab 4) (zab 6)) (zaN (zbR c_times hr (a2 (zaF (zso hr) (zab 0) (zab 4)) (zaF (zso hr) (zab 5) (zab 6)))) zay)))))))))))
      (zam (zga 3 (pv 3))))))
theorem zk8(h:Has K mg "_law_told" (top 46)) (c__law_rank:zhg P w K mg base):zcr P w K mg base:=fnP ["_law_found"] h fun hr nd=>by
  unfold zg8 zeQ
  exact(zam (zbd (cp ["_law_word"] [0] ["_law_word","_law_found"] (zcI (PVN.pv (zjD c__law_rank hr rfl rfl B.zgc rfl (zab 0)))) (fun nd=>(g_n 0 nd)) zd0 (zaO (a2 (zab 0) (zaF (zso hr) (zab 1) (zab 0)))))))
theorem zmV(h:Has K mg "held_sum" (top 21)) (c_may_follow:zfT P w K mg base):zh9 P w K mg base:=fnP ["total","count","ahead","place","term"] h fun hr nd=>by
  unfold zh4 zfI zfD zfG
  exact(zae (zaM 2 nd zru)
      (zae (zcy (zp8 rfl B.zex (a1 (zab 0))) (zet rfl (zaE (g_n 3 nd) (zaE (g_n 4 nd) zdc))) (zae (zbG (zda (zdH zjr (zbR c_may_follow hr (a3 (zab 2) (zab 4) (zab 1))))) (zam zeR) zaZ)
      (zam (zaM 2 nd (zab 4)))))
      (zam (zbd (dcp ["word","number"] [] ["word","number"] hr (zcI (zab 0)) (fun nd=>(zet rfl (zaE (g_n 0 nd) (zaE (g_n 1 nd) zdc)))) zd0 (zab 0) (zab 1))))))
theorem zjW(h:Has K mg "grown_dict" (top 32)) (c_add_times:zeG P w K mg base) (c_cut_together:zcP P w K mg base):zfU P w K mg base:=fnP ["held","total","share","many","more"] h fun hr nd=>by
  unfold zcB zbW zbY
  exact(zae (zeh 1 nd (zgv (zcx hr) (zaO zbH) (zei rfl C.zk1 C.v_ONE (fun _=>by simp [zaf,Fz]))))
      (zae (zaM 2 nd (PVN.pv (zgv (zcx hr) (zaO zbH) (zei rfl C.zk1 C.v_ONE (fun _=>by simp [zaf,Fz])))))
      (zae (zcy (zhH rfl B.zdf (a2 zad (zar zbA (zfh (v:=(.int 5)) rfl C.zbu ⟨_,rfl⟩ (fun _=>zcp _)) zad))) (g_n 3 nd) (zae (zeh 4 nd zcT)
      (zae (zbZ (zdd c_add_times hr (zh8 4 (zaN (zaO (a2 zad (zab 3))) (zaN (PVN.pv (za3 c_cut_together hr (a2 (zab 2) (zab 0)))) zay)))))
      (zae (zgu 4 (zaM 2 nd (zab 4)))
      (zam (zbZ (zdd c_add_times hr (zh8 1 (zaN (zei rfl C.zk1 C.v_ONE (fun _=>by simp [zaf,Fz])) (zaN (zab 2) zay))))))))))
      (zam (zga 1 (pv 1))))))
theorem ziO(h:Has K mg "logged_dict" (top 33)) (c_add_term:zd8 P w K mg base) (c_cut_together:zcP P w K mg base) (c_add_times:zeG P w K mg base):ze6 P w K mg base:=fnP ["held","rest","total","power","many"] h fun hr nd=>by
  unfold zch za6 zbD
  exact(zae (zeh 1 nd (zsz B.zoq Bt.dict (zab 0)))
      (zae (zbZ (zdd c_add_term hr (zh8 1 (zaN (zaO zbH) (zaN (zei rfl C.zey C.v_MINUS_ONE (fun _=>by simp [zaf,Fz])) zay)))))
      (zae (zeh 2 nd zcT)
      (zae (zaM 3 nd (PVN.pv (zgv (zcx hr) (zaO zbH) (zei rfl C.zk1 C.v_ONE (fun _=>by simp [zaf,Fz])))))
      (zae (zgu 1 (zcy (zhH rfl B.zdf (a2 zad (zar zbA (zfh (v:=(.int 5)) rfl C.zbu ⟨_,rfl⟩ (fun _=>zcp _)) zad))) (g_n 4 nd) (zae (zaM 3 nd (PVN.pv (za3 c_cut_together hr (a2 (zab 3) (zab 1)))))
      (zam (zbZ (zdd c_add_times hr (zh8 2 (zaN (zaO (a2 (zwt (za2 (zuc hr) (zar zjL (zab 4) zad) zad) zad (zuh ztS zad)) (zab 4))) (zaN (zab 3) zay)))))))))
      (zam (zga 2 (pv 2))))))))
theorem ziS(h:Has K mg "_law_joined" (top 48)) (c__law_told:zcr P w K mg base) (c__law_put:zd9 P w K mg base) (c__law_by:zhi P w K mg base):ze9 P w K mg base:=fnP ["_law_one","_law_other","_law_found","_law_word","_law_number_here","_law_more","_law_much"] h fun hr nd=>by
  unfold zck zcm zcn zdB zaQ
  exact(zae (zeh 2 nd zcT)
      (zae (zcy (zcI (zab 0)) (zet rfl (zaE (g_n 3 nd) (zaE (g_n 4 nd) zdc))) (zam (zcy (zcI (zab 1)) (zet rfl (zaE (g_n 5 nd) (zaE (g_n 6 nd) zdc))) (zam (zbG (za2 (ztG hr) (zar zbA (zeu zg3 B.zfj Bt.len (zab 3)) (zeu zg3 B.zfj Bt.len (zab 5))) zad) (zam (zbZ (zdd c__law_put hr (zh8 2 (zaN (zar zbA (zab 3) (zab 5)) (zaN (zbR c__law_by hr (a2 (zab 4) (zab 6))) zay)))))) zaZ)))))
      (zam (zgu 2 (zbd (za3 c__law_told hr (a1 (zab 2))))))))
theorem zj0(h:Has K mg "_law_drawn" (top 52)) (c__law_told:zcr P w K mg base) (c__law_take:zdr P w K mg base) (c__law_number:ze7 P w K mg base):zfX P w K mg base:=fnM [true,false] ["_law_purse_here","_law_count","_law_found","_law_most","_law_term","_law_word","_law_number_here"] h fun hr nd=>by
  unfold zcD zbX zbk zbl
  exact(zae (zeh 2 nd zcT)
      (zae (zaM 3 nd (zar zbA zad (zdd c__law_take hr (zh8 0 (zaN zad zay)))))
      (zae (zcy (zcU rfl B.zdf (a1 (zdd c__law_take hr (zh8 0 (zaN zad zay))))) (g_n 4 nd) (zae (zaM 5 nd (zmI ztw B.zfi Bt.tuple (PVN.pv (cp ["_law_place"] [0,1] ["_law_place","_law_purse_here","_law_count"] (zcU rfl B.zdf (a1 (zar zbA zad (zdd c__law_take hr (zh8 0 (zaN (zab 3) zay)))))) (fun nd=>(g_n 0 nd)) zd0 (zdd c__law_take hr (zh8 1 (zaN (zab 2) zay)))))))
      (zae (zaM 6 nd (zdd c__law_number hr (zh8 0 zay)))
      (zam (zbG (za2 (znl hr) (zaF zcu (zab 6) zad) zad) (zam (ziv 2 (zcx hr) (pv 2) (zab 6) (zab 5))) zaZ)))))
      (zam (zgu 2 (zbd (za3 c__law_told hr (a1 (zab 2)))))))))
theorem zhv(h:Has K mg "held_letters" (top 29)) (c_refuse_letters:zdx P w K mg base) (c_held_sum:zh9 P w K mg base):zcO P w K mg base:=fnP ["count","total"] h fun hr nd=>by
  unfold zcN
  exact(zae (zbZ (zbR c_refuse_letters hr (a1 (zab 0))))
      (zam (zbd (za3 c_held_sum hr (a2 (zab 1) (zab 0))))))
theorem ziP(h:Has K mg "_law_powers" (top 49)) (c__law_joined:ze9 P w K mg base) (c__law_put:zd9 P w K mg base) (c__law_by:zhi P w K mg base):zds P w K mg base:=fnP ["_law_total","_law_shares","_law_found","_law_power","_law_share","_law_word","_law_number_here"] h fun hr nd=>by
  unfold zci zbC zbE zdA za7
  exact(zae (zeh 2 nd zcT)
      (zae (zaM 3 nd (PVN.pv (zdb (a1 (zaO (a2 (zaO zbH) (zaO (a2 zad zad))))))))
      (zae (zcy (zcI (zab 1)) (g_n 4 nd) (zae (zaM 3 nd (PVN.pv (za3 c__law_joined hr (a2 (zab 3) (zab 0)))))
      (zam (zcy (zcI (zab 3)) (zet rfl (zaE (g_n 5 nd) (zaE (g_n 6 nd) zdc))) (zam (zbZ (zdd c__law_put hr (zh8 2 (zaN (zab 5) (zaN (zbR c__law_by hr (a2 (zab 6) (zab 4))) zay))))))))))
      (zam (zga 2 (pv 2))))))
theorem ztd(h:Has K mg "grown" (top 34)) (c_held_letters:zcO P w K mg base) (c_told_sum:zfz P w K mg base) (c_grown_dict:zfU P w K mg base):zpB P w K mg base:=fnP ["count","total","held"] h fun hr nd=>by
  unfold zja
  exact(zae (zaM 2 nd (PVN.pv (za3 c_held_letters hr (a2 (zab 0) (zab 1)))))
      (zae (zbG (za2 (zub hr) (zaO zbH) (zab 2)) (zam zeR) zaZ)
      (zam (zbd (za3 c_told_sum hr (a1 (PVN.pv (za3 c_grown_dict hr (a1 (zab 2))))))))))
theorem zqN(h:Has K mg "logged" (top 35)) (c_held_letters:zcO P w K mg base) (c_told_sum:zfz P w K mg base) (c_logged_dict:ze6 P w K mg base):zmz P w K mg base:=fnP ["count","total","held"] h fun hr nd=>by
  unfold zgk
  exact(zae (zaM 2 nd (PVN.pv (za3 c_held_letters hr (a2 (zab 0) (zab 1)))))
      (zae (zbG (za2 (znl hr) (zsA (zcx hr) (zab 2) (zaO zbH) (zei rfl C.zd2 C.v_NOUGHT (fun _=>by simp [zaf,Fz])) ⟨rfl,rfl,rfl,rfl⟩) (zei rfl C.zk1 C.v_ONE (fun _=>by simp [zaf,Fz]))) (zam zeR) zaZ)
      (zam (zbd (za3 c_told_sum hr (a1 (PVN.pv (za3 c_logged_dict hr (a1 (zab 2))))))))))
theorem zjZ(h:Has K mg "_law_grown" (top 50)) (c__law_powers:zds P w K mg base) (c__law_put:zd9 P w K mg base) (c__law_told:zcr P w K mg base):zfW P w K mg base:=fnP ["_law_total","_law_found"] h fun hr nd=>by
  unfold zcC
  exact(zae (zeh 1 nd (za3 c__law_powers hr (a2 (zab 0) (PVN.pv (ziw rfl)))))
      (zae (zbZ (zdd c__law_put hr (zh8 1 (zaN (zaO zbH) (zaN (zaO (a2 zad zad)) zay)))))
      (zam (zgu 1 (zbd (za3 c__law_told hr (a1 (zab 1))))))))
theorem ziR(h:Has K mg "_law_logged" (top 51)) (c__law_told:zcr P w K mg base) (c__law_powers:zds P w K mg base):ze8 P w K mg base:=fnP ["_law_total","_law_some"] h fun hr nd=>by
  unfold zcj za9
  exact(zae (zlQ 1 (cpS 1 ["_law_word","_law_number_here"] [] ["_law_word","_law_number_here"] nd (zcI (zab 0)) (fun nd=>(zet rfl (zaE (g_n 0 nd) (zaE (g_n 1 nd) zdc)))) (zlP (za2 (znl hr) (zab 0) (zaO zbH))) (zaO (a2 (zab 0) (zab 1)))))
      (zam (zbd (za3 c__law_told hr (a1 (PVN.pv (za3 c__law_powers hr (a2 (zab 1) (PVN.pv (ziw rfl))))))))))
set_option maxHeartbeats 0 in
theorem zwR{fa:Addr}{fd:FuncData}(h:Fun K "law" "law" (top 53) fa fd) (c__law_purse:zfV P w K mg base) (c__law_drawn:zfX P w K mg base) (c__law_at:zky P w K mg base) (c__law_take:zdr P w K mg base) (c__law_grown:zfW P w K mg base) (c__law_logged:ze8 P w K mg base) (c_grown:zpB P w K mg base) (c_logged:zmz P w K mg base):zie P w K mg base (CXe P w) 8 fa fd ["_law_script"] (spP K 1 false zpI):=by
  have S:zdT ["_law_script","_law_k","_law_purse_here","_law_count","_law_one","_law_whole","_law_dues","_law_handed","_law_turn","_law_told_here","_law_back","_law_found"] ["_law_script"] (zau (top 53)):=⟨rfl,rfl,rfl,by decide +kernel,rfl,by decide +kernel,by decide +kernel⟩
  refine zie.pure (zo6 (List.replicate 1 false) false h S rfl (by decide) fun cdv A outer s H E hr=>?_)
  have nd:=S.nd
  refine znP ?_
  unfold zrh zif zgo zig zff
  exact(zae (zcy (zcU rfl B.zdf (a1 (zar zbA zad (zmI zxa B.zqz Bt.int (znV (zxu hr) (zeu zg3 B.zfj Bt.len (zab 0)) zad))))) (g_n 1 nd) (zae (zeh 2 nd (za3 c__law_purse hr (a2 (zbR c__law_at hr (a2 (zab 0) (zab 1))) (zab 1))))
      (zae (zaM 3 nd (zar zbA zad (zdd c__law_take hr (zh8 2 (zaN zad zay)))))
      (zae (zaM 4 nd (PVN.pv (zuf c__law_drawn hr (zh8 2 (zaN (zab 3) zay)))))
      (zae (zaM 5 nd (zar zbA (PVN.pv (zdb (a1 (zaO (a2 (zaO zbH) (zaO (a2 zad zad))))))) (zab 4)))
      (zae (zaM 6 nd (PVN.pv (zdb (a2 (PVN.pv (za3 c__law_grown hr (a1 (zab 4)))) (PVN.pv (za3 c__law_logged hr (a1 (zab 5))))))))
      (zae (zaM 7 nd (PVN.pv (zdb (a2 (zmI zr0 B.zl4 Bt.list (zab 4)) (zmI zr0 B.zl4 Bt.list (zab 5))))))
      (zam (zcy (zcU rfl B.zdf (a1 zad)) (g_n 8 nd) (zsx (dom:=[9,10,11]) (zn1 9 (zrw 9 nd (znS (za3 c_grown hr (a2 (zab 3) (zaF zcu (zab 7) zad))) (za3 c_logged hr (a2 (zab 3) (zaF zcu (zab 7) zad)))))
      (zlU (dm:=[]) (zrv (PVW.pvt (zfJ (za2 zwD (zmI (zvD hr) B.zqy Bt.str (zab 9)) (zmI (zvD hr) B.zqy Bt.str (zab 6))) (zes (za2 (znl hr) (zab 7) (PVN.pv (zdb (a2 (zab 4) (zab 5)))))))) (zuo zjF) zn0)
      (zn1 10 (zrw 10 nd (znS (za3 c_logged hr (a2 (zab 3) (zaF zcu (zab 9) zad))) (za3 c_grown hr (a2 (zab 3) (zaF zcu (zab 9) zad)))))
      (zlU (dm:=[]) (zrv (PVW.pvt (zfJ (za2 (znl hr) (zab 10) (PVN.pv (zdb (a2 (zab 4) (zab 5))))) (zes (za2 (znl hr) (zab 9) (zab 6))))) (zuo zjF) zn0)
      (zsF 9 10 11 nd)))))))))))))))
      (zb5 zjF))
end
end
section
theorem all_mk{l:PySem.W.OpenLaw}{w:World}{K:W.Frag}{h:Heap}{mg:Str->Option Value}{fa:Addr}(X:K.In h)(G:h.Ns mainGlobals mg)(hfa:mg "law"=some (.ref fa))
  {zaY:Tok} {zbT:Tok} {zaI:Addr} {zb2:Addr} {zhA:Addr}
  {ou_MINUS_ONE:Option Addr} {nn_MINUS_ONE:Nat} {su_MINUS_ONE:Array (Option Value)} {k0_MINUS_ONE k1_MINUS_ONE:Tok}
  {ou_NOUGHT:Option Addr} {nn_NOUGHT:Nat} {su_NOUGHT:Array (Option Value)} {k0_NOUGHT k1_NOUGHT:Tok}
  {ou_ONE:Option Addr} {nn_ONE:Nat} {su_ONE:Array (Option Value)} {k0_ONE k1_ONE:Tok}
  (zne:Has K mg "is_whole" (top 10))
  (zf7:Has K mg "common_divisor" (top 11))
  (zkz:Has K mg "word_order" (top 19))
  (zfB:Has K mg "terms_of_length" (top 25))
  (zkD:Has K mg "_law_mixed" (top 37))
  (zpF:Has K mg "_law_at" (top 40))
  (zni:Has K mg "_law_low" (top 41))
  (zlw:Has K mg "_law_rank" (top 45))
  (zlr:Has K mg "is_number" (top 12))
  (zvP:Has K mg "plus" (top 13))
  (ztB:Has K mg "times" (top 14))
  (zpC:Has K mg "is_word" (top 17))
  (zf6:Has K mg "refuse_letters" (top 28))
  (zkC:Has K mg "_law_purse" (top 38))
  (zlv:Has K mg "_law_take" (top 39))
  (zlx:Has K mg "_law_plus" (top 42))
  (zpE:Has K mg "_law_by" (top 43))
  (zpD:Has K mg "is_term" (top 18))
  (zng:Has K mg "add_term" (top 23))
  (zjf:Has K mg "_law_number" (top 44))
  (znh:Has K mg "_law_put" (top 47))
  (zkA:Has K mg "may_follow" (top 20))
  (znd:Has K mg "told_sum" (top 22))
  (zls:Has K mg "add_times" (top 24))
  (zhC:Has K mg "cut_together" (top 31))
  (zlu:Has K mg "_law_told" (top 46))
  (znf:Has K mg "held_sum" (top 21))
  (zkB:Has K mg "grown_dict" (top 32))
  (zjd:Has K mg "logged_dict" (top 33))
  (zjh:Has K mg "_law_joined" (top 48))
  (zkF:Has K mg "_law_drawn" (top 52))
  (zhB:Has K mg "held_letters" (top 29))
  (zje:Has K mg "_law_powers" (top 49))
  (ztC:Has K mg "grown" (top 34))
  (zrl:Has K mg "logged" (top 35))
  (zkE:Has K mg "_law_grown" (top 50))
  (zjg:Has K mg "_law_logged" (top 51))
  (zxm:Has K mg "law" (top 53))
  (zcK:PySem.W.nsIn K mainGlobals "MOST_LETTERS"=some (some (.int 4 zaY)))
  (zbu:PySem.W.nsIn K mainGlobals "MOST_LONG"=some (some (.int 5 zbT)))
  (zey:PySem.W.nsIn K mainGlobals "MINUS_ONE"=some (some (.ref zaI)))
  (zk5:K.lookup zaI=some ⟨.type "tuple",ou_MINUS_ONE,.seq #[.int (-1) k0_MINUS_ONE,.int 1 k1_MINUS_ONE] nn_MINUS_ONE,su_MINUS_ONE⟩)
  (zd2:PySem.W.nsIn K mainGlobals "NOUGHT"=some (some (.ref zb2)))
  (zqJ:K.lookup zb2=some ⟨.type "tuple",ou_NOUGHT,.seq #[.int 0 k0_NOUGHT,.int 1 k1_NOUGHT] nn_NOUGHT,su_NOUGHT⟩)
  (zk1:PySem.W.nsIn K mainGlobals "ONE"=some (some (.ref zhA)))
  (zwQ:K.lookup zhA=some ⟨.type "tuple",ou_ONE,.seq #[.int 1 k0_ONE,.int 1 k1_ONE] nn_ONE,su_ONE⟩)
  (zos:PySem.W.nsIn K mainGlobals "abs"=some none)
  (zba:PySem.W.nsIn K mainGlobals "isinstance"=some none)
  (zqz:PySem.W.nsIn K mainGlobals "int"=some none)
  (zor:PySem.W.nsIn K mainGlobals "bool"=some none)
  (zfi:PySem.W.nsIn K mainGlobals "tuple"=some none)
  (zl4:PySem.W.nsIn K mainGlobals "list"=some none)
  (zqy:PySem.W.nsIn K mainGlobals "str"=some none)
  (zfj:PySem.W.nsIn K mainGlobals "len"=some none)
  (zs5:PySem.W.nsIn K mainGlobals "all"=some none)
  (zdf:PySem.W.nsIn K mainGlobals "range"=some none)
  (zuQ:PySem.W.nsIn K mainGlobals "zip"=some none)
  (zex:PySem.W.nsIn K mainGlobals "enumerate"=some none)
  (zuT:PySem.W.nsIn K mainGlobals "max"=some none)
  (zuS:PySem.W.nsIn K mainGlobals "min"=some none)
  (zuR:PySem.W.nsIn K mainGlobals "sum"=some none)
  (zgc:PySem.W.nsIn K mainGlobals "sorted"=some none)
  (zoq:PySem.W.nsIn K mainGlobals "dict"=some none)
  (zuU:PySem.W.nsIn K mainGlobals "any"=some none) :
  ∃(cl:CL) (fd:FuncData),zjo cl K/\(∀(s:Shared) (v:Value),BindsTo s fd ⟨[v],[]⟩ [("_law_script",v)])/\∀ base:Heap,(zfe (cl.map (·.1)) K).In base->base.Ns mainGlobals mg->zie l.prog w (zfe (cl.map (·.1)) K) mg base (CXe l.prog w) 8 fa fd ["_law_script"] (@spP (ztI cl) (zfe (cl.map (·.1)) K) 1 false zpI):=by
 obtain⟨f,fd,hm,Fl⟩:=id zxm
 have e:=hfa.symm.trans hm
 cases e
 obtain⟨oc,od,kV,dc,pm,an,cd,ct,sl,rfl,lk,hcd⟩:=id Fl.ex
 have hC:zjo [(zaI,⟨.type "tuple",ou_MINUS_ONE,.seq #[.int (-1) k0_MINUS_ONE,.int 1 k1_MINUS_ONE] nn_MINUS_ONE,su_MINUS_ONE⟩,[.int (-1),.int 1]),(zb2,⟨.type "tuple",ou_NOUGHT,.seq #[.int 0 k0_NOUGHT,.int 1 k1_NOUGHT] nn_NOUGHT,su_NOUGHT⟩,[.int 0,.int 1]),(zhA,⟨.type "tuple",ou_ONE,.seq #[.int 1 k0_ONE,.int 1 k1_ONE] nn_ONE,su_ONE⟩,[.int 1,.int 1])] K:=(zjo.cons zk5 (.cons ⟨_,rfl⟩ (.cons ⟨_,rfl⟩ (.nil))) (by decide) (zjo.cons zqJ (.cons ⟨_,rfl⟩ (.cons ⟨_,rfl⟩ (.nil))) (by decide) (zjo.cons zwQ (.cons ⟨_,rfl⟩ (.cons ⟨_,rfl⟩ (.nil))) (by decide) zjo.nil)))
 refine⟨_,PySem.W.fnOf "law" "law" (zdn (top 53)) (zbL (top 53)) (zau (top 53)) .none kV dc pm an cd ct,hC,fun s v=>.of_eq rfl,fun base _ _=>?_⟩
 have B:Blt mg:=⟨PySem.W.mg_none_of X G zos,PySem.W.mg_none_of X G zba,PySem.W.mg_none_of X G zqz,PySem.W.mg_none_of X G zor,PySem.W.mg_none_of X G zfi,PySem.W.mg_none_of X G zl4,PySem.W.mg_none_of X G zqy,PySem.W.mg_none_of X G zfj,PySem.W.mg_none_of X G zs5,PySem.W.mg_none_of X G zdf,PySem.W.mg_none_of X G zuQ,PySem.W.mg_none_of X G zex,PySem.W.mg_none_of X G zuT,PySem.W.mg_none_of X G zuS,PySem.W.mg_none_of X G zuR,PySem.W.mg_none_of X G zgc,PySem.W.mg_none_of X G zoq,PySem.W.mg_none_of X G zuU⟩
 letI:Cs:=ztI [(zaI,⟨.type "tuple",ou_MINUS_ONE,.seq #[.int (-1) k0_MINUS_ONE,.int 1 k1_MINUS_ONE] nn_MINUS_ONE,su_MINUS_ONE⟩,[.int (-1),.int 1]),(zb2,⟨.type "tuple",ou_NOUGHT,.seq #[.int 0 k0_NOUGHT,.int 1 k1_NOUGHT] nn_NOUGHT,su_NOUGHT⟩,[.int 0,.int 1]),(zhA,⟨.type "tuple",ou_ONE,.seq #[.int 1 k0_ONE,.int 1 k1_ONE] nn_ONE,su_ONE⟩,[.int 1,.int 1])]
 have C:Cst mg zaY zbT zaI zb2 zhA:=⟨PySem.W.mg_of X G zcK,PySem.W.mg_of X G zbu,PySem.W.mg_of X G zey,zoZ hC (List.Mem.head _),PySem.W.mg_of X G zd2,zoZ hC (List.Mem.tail _ (List.Mem.head _)),PySem.W.mg_of X G zk1,zoZ hC (List.Mem.tail _ (List.Mem.tail _ (List.Mem.head _)))⟩
 have d_is_whole:=zmU (P:=l.prog) (w:=w) (base:=base) B C (zne.cut hC.seqs)
 have d_common_divisor:=zf4 (P:=l.prog) (w:=w) (base:=base) B C (zf7.cut hC.seqs)
 have d_word_order:=zjU (P:=l.prog) (w:=w) (base:=base) B C (zkz.cut hC.seqs)
 have d_terms_of_length:=zfn (P:=l.prog) (w:=w) (base:=base) B C (zfB.cut hC.seqs)
 have d__law_mixed:=zjY (P:=l.prog) (w:=w) (base:=base) B C (zkD.cut hC.seqs)
 have d__law_at:=zoN (P:=l.prog) (w:=w) (base:=base) B C (zpF.cut hC.seqs)
 have d__law_low:=zmY (P:=l.prog) (w:=w) (base:=base) B C (zni.cut hC.seqs)
 have d__law_rank:=zla (P:=l.prog) (w:=w) (base:=base) B C (zlw.cut hC.seqs)
 have d_is_number:=zk6 (P:=l.prog) (w:=w) (base:=base) B C (zlr.cut hC.seqs) d_common_divisor d_is_whole
 have d_plus:=zu6 (P:=l.prog) (w:=w) (base:=base) B C (zvP.cut hC.seqs) d_common_divisor
 have d_times:=ztc (P:=l.prog) (w:=w) (base:=base) B C (ztB.cut hC.seqs) d_common_divisor
 have d_is_word:=zoK (P:=l.prog) (w:=w) (base:=base) B C (zpC.cut hC.seqs) d_is_whole
 have d_refuse_letters:=zf3 (P:=l.prog) (w:=w) (base:=base) B C (zf6.cut hC.seqs) d_is_whole
 have d__law_purse:=zjX (P:=l.prog) (w:=w) (base:=base) B C (zkC.cut hC.seqs) d__law_mixed
 have d__law_take:=zk9 (P:=l.prog) (w:=w) (base:=base) B C (zlv.cut hC.seqs) d__law_mixed
 have d__law_plus:=zlb (P:=l.prog) (w:=w) (base:=base) B C (zlx.cut hC.seqs) d__law_low
 have d__law_by:=zoM (P:=l.prog) (w:=w) (base:=base) B C (zpE.cut hC.seqs) d__law_low
 have d_is_term:=zoL (P:=l.prog) (w:=w) (base:=base) B C (zpD.cut hC.seqs) d_is_word d_is_number
 have d_add_term:=zmW (P:=l.prog) (w:=w) (base:=base) B C (zng.cut hC.seqs) d_plus
 have d__law_number:=ziQ (P:=l.prog) (w:=w) (base:=base) B C (zjf.cut hC.seqs) d__law_take d__law_low
 have d__law_put:=zmX (P:=l.prog) (w:=w) (base:=base) B C (znh.cut hC.seqs) d__law_plus
 have d_may_follow:=zjV (P:=l.prog) (w:=w) (base:=base) B C (zkA.cut hC.seqs) d_is_term d_word_order
 have d_told_sum:=zmT (P:=l.prog) (w:=w) (base:=base) B C (znd.cut hC.seqs) d_word_order
 have d_add_times:=zk7 (P:=l.prog) (w:=w) (base:=base) B C (zls.cut hC.seqs) d_add_term d_times
 have d_cut_together:=zhw (P:=l.prog) (w:=w) (base:=base) B C (zhC.cut hC.seqs) d_terms_of_length d_add_term d_times
 have d__law_told:=zk8 (P:=l.prog) (w:=w) (base:=base) B C (zlu.cut hC.seqs) d__law_rank
 have d_held_sum:=zmV (P:=l.prog) (w:=w) (base:=base) B C (znf.cut hC.seqs) d_may_follow
 have d_grown_dict:=zjW (P:=l.prog) (w:=w) (base:=base) B C (zkB.cut hC.seqs) d_add_times d_cut_together
 have d_logged_dict:=ziO (P:=l.prog) (w:=w) (base:=base) B C (zjd.cut hC.seqs) d_add_term d_cut_together d_add_times
 have d__law_joined:=ziS (P:=l.prog) (w:=w) (base:=base) B C (zjh.cut hC.seqs) d__law_told d__law_put d__law_by
 have d__law_drawn:=zj0 (P:=l.prog) (w:=w) (base:=base) B C (zkF.cut hC.seqs) d__law_told d__law_take d__law_number
 have d_held_letters:=zhv (P:=l.prog) (w:=w) (base:=base) B C (zhB.cut hC.seqs) d_refuse_letters d_held_sum
 have d__law_powers:=ziP (P:=l.prog) (w:=w) (base:=base) B C (zje.cut hC.seqs) d__law_joined d__law_put d__law_by
 have d_grown:=ztd (P:=l.prog) (w:=w) (base:=base) B C (ztC.cut hC.seqs) d_held_letters d_told_sum d_grown_dict
 have d_logged:=zqN (P:=l.prog) (w:=w) (base:=base) B C (zrl.cut hC.seqs) d_held_letters d_told_sum d_logged_dict
 have d__law_grown:=zjZ (P:=l.prog) (w:=w) (base:=base) B C (zkE.cut hC.seqs) d__law_powers d__law_put d__law_told
 have d__law_logged:=ziR (P:=l.prog) (w:=w) (base:=base) B C (zjg.cut hC.seqs) d__law_told d__law_powers
 have d_law:=zwR (P:=l.prog) (w:=w) (base:=base) B C (Fun.cut hC.seqs Fl) d__law_purse d__law_drawn d__law_at d__law_take d__law_grown d__law_logged d_grown d_logged
 exact d_law
theorem walk{l:PySem.W.OpenLaw}{q:Program}{loose:List Str}{XP:(Str->Option Value)->Heap->Prop}{YP:World->Heap->Prop}{d:DefRec}{K:Params->W.Frag}(hlaw:∀ ns:List Int,ns.length<=63->zpI [.list (ns.map PyData.int)]=.ok (.bool true))(hn:l.most=some 63)(hdf:d.params.defaults=[])(hi:importsNone q=true)(htr:l.prog.given.tree=none)
  (hY:∀(w:World) (h:Heap),YP w h->(K w.params).In h)
  (F:∀(w:World) (mg:Str->Option Value) (fa:Addr) (h:Heap),(K w.params).In h->h.Ns mainGlobals mg->mg d.name=some (.ref fa) ->
   ∃(cl:CL) (fd:FuncData),zjo cl (K w.params)/\(∀(s:Shared) (u:Value),BindsTo s fd ⟨[u],[]⟩ [("_law_script",u)])/\∀ base:Heap,(zfe (cl.map (·.1)) (K w.params)).In base->base.Ns mainGlobals mg->zie l.prog w (zfe (cl.map (·.1)) (K w.params)) mg base (CXe l.prog w) 8 fa fd ["_law_script"] (@spP (ztI cl) (zfe (cl.map (·.1)) (K w.params)) 1 false zpI)) :
  PySem.W.WalkO q loose XP YP l.row.toRowW d [] (fun f vs=>PySem.call f vs) :=
 zpT (k:=8) (x:="_law_script") hlaw hn hdf hi htr ⟨rfl,by decide,by decide,rfl⟩ hY F
end
end K58
namespace FL
open PySem
section
theorem zfv{k:Nat}{ix:List Nat}{g:GF}{t:TF}{f:EF}{ρ:En}(P:D->Bool)(h:D->D):∀(items:List D) (acc:List D),acc.length+items.length<=lim ->
  (∀ x∈items,∃ β,g x (blk k ix ρ)=.ok β/\t β=.ok (P x,β)/\(P x=true->f β=.ok (h x,β))/\back ρ ix (β.drop k)=ρ)->zgZ k ix g t f items ρ acc=.ok (acc++(items.filter P).map h,ρ)
 | [],acc,_,_=>by simp [zgZ]
 | x::xs,acc,hl,hx=>by
  obtain⟨β,h1,h2,h3,h4⟩:=hx x (List.mem_cons_self ..)
  have rest:=fun y m=>hx y (List.mem_cons_of_mem x m)
  simp only [List.length_cons] at hl
  unfold zgZ
  rw [h1,zac,h2,zac]
  cases c:P x with
  | true =>
   rw [if_pos rfl,h3 c,zac,zav (zeU (by omega)),h4,zfv P h xs _ (by simp;omega) rest,List.filter_cons_of_pos c]
   simp
  | false =>
   rw [if_neg (by simp),h4,zfv P h xs acc (by omega) rest,List.filter_cons_of_neg (by simp [c])]
theorem zh0{k:Nat}{ix:List Nat}{it:IF}{g:GF}{t:TF}{f:EF}{ρ:En}{items:List D}(P:D->Bool)(h:D->D)(hi:it ρ=.ok (items,ρ))(hl:items.length<=lim)
  (hx:∀ x∈items,∃ β,g x (blk k ix ρ)=.ok β/\t β=.ok (P x,β)/\(P x=true->f β=.ok (h x,β))/\back ρ ix (β.drop k)=ρ):zdm k ix it g t f ρ=.ok (.list ((items.filter P).map h),ρ):=by
 unfold zdm
 rw [hi,zac,zfv P h items [] (by simpa using hl) hx]
 rfl
theorem zgQ{k:Nat}{ix:List Nat}{it:IF}{g:GF}{f:EF}{ρ:En}{items:List D}(h:D->D)(hi:it ρ=.ok (items,ρ))(hl:items.length<=lim)
  (hx:∀ x∈items,∃ β,g x (blk k ix ρ)=.ok β/\f β=.ok (h x,β)/\back ρ ix (β.drop k)=ρ):zdm k ix it g zc8 f ρ=.ok (.list (items.map h),ρ):=by
 rw [zh0 (fun _=>true) h hi hl fun x m=>by
  obtain⟨β,h1,h2,h3⟩:=hx x m
  exact⟨β,h1,rfl,fun _=>h2,h3⟩]
 rw [List.filter_eq_self.mpr (fun _ _=>rfl)]
theorem zhT(ns:List Int):intsOf (ns.map PyData.int)=some ns:=by
 induction ns with
 | nil=>rfl
 | cons n ns ih=>simp [intsOf,ih]
theorem zll(ns:List Bool):boolsOf (ns.map PyData.bool)=some ns:=by
 induction ns with
 | nil=>rfl
 | cons n ns ih=>simp [boolsOf,ih]
theorem zrk(bs:List Bool):zv1 (.list (bs.map PyData.bool))=.ok (.bool (bs.all id)):=by
 show((R.of (boolsOf _)).bind _)=_
 rw [zll];rfl
theorem zvz{α:Type}(xs:List α)(p:Nat):cut xs none (some (p:Int))=xs.take p:=by
 unfold cut sIx
 simp only
 rw [if_neg (by omega),List.drop_zero,Nat.sub_zero]
 by_cases h:p<=xs.length
 ·rw [show min (p:Int).toNat xs.length=p by omega]
 ·rw [show min (p:Int).toNat xs.length=xs.length by omega,List.take_length,List.take_of_length_le (by omega)]
theorem zkQ(lo hi:Int):rng lo hi=((List.range (hi-lo).toNat).map fun(i:Nat)=>lo+(i:Int)).map PyData.int:=by
 unfold rng
 rw [List.map_map];rfl
def Pl(n:Nat)(d:D):Prop:=PyData.canLay0 d=true/\d.depth<=n
theorem Pl.shaped{n:Nat}{d:D}(h:Pl n d)(hn:n<=64:=by decide):SeqAt.shaped d=true:=by
 unfold SeqAt.shaped
 rw [h.1,decide_eq_true (Nat.le_trans h.2 hn)];rfl
theorem zhJ(i:Int):Pl 0 (.int i):=⟨rfl,Nat.le_refl _⟩
theorem zoa{n:Nat}:∀{ds:List D},(∀ d∈ds,Pl n d)->PyData.canLayAll0 ds=true/\PyData.depthAll ds<=n
 | [],_=>⟨rfl,Nat.zero_le _⟩
 | d::ds,h=>by
  obtain⟨a,b⟩:=zoa fun x m=>h x (List.mem_cons_of_mem d m)
  obtain⟨c,e⟩:=h d (List.mem_cons_self ..)
  refine⟨by simp only [PyData.canLayAll0];rw [c,a];rfl,?_⟩
  simp only [PyData.depthAll]
  omega
theorem ziB{n:Nat}{ds:List D}(h:∀ d∈ds,Pl n d):Pl (n+1) (.tuple ds):=by
 obtain⟨a,b⟩:=zoa h
 exact⟨a,by simp only [PyData.depth];omega⟩
theorem zn9{n:Nat}{ds:List D}(h:∀ d∈ds,Pl n d):Pl (n+1) (.list ds):=by
 obtain⟨a,b⟩:=zoa h
 exact⟨a,by simp only [PyData.depth];omega⟩
theorem zhZ{α:Type}[DecidableEq α](f:α->D)(h:∀ a b,PyData.eqv (f a) (f b)=decide (a=b)):∀ xs ys:List α,PyData.eqvAll (xs.map f) (ys.map f)=decide (xs=ys)
 | [],[]=>rfl
 | [],y::ys=>by simp [PyData.eqvAll]
 | x::xs,[]=>by simp [PyData.eqvAll]
 | x::xs,y::ys=>by
  simp only [List.map_cons,PyData.eqvAll]
  rw [h,zhZ f h xs ys]
  by_cases e1:x=y <;> by_cases e2:xs=ys <;> simp [e1,e2]
theorem zli(a b:Int):PyData.eqv (.int a) (.int b)=decide (a=b):=by
 show(a==b)=_
 rw [Bool.beq_eq_decide_eq]
abbrev tp(w:List Int):D:=.tuple (w.map PyData.int)
theorem zsQ(w:List Int):Pl 1 (tp w):=ziB fun d m=>by
 obtain⟨i,_,rfl⟩:=List.mem_map.mp m
 exact zhJ i
theorem zvp(a b:List Int):PyData.eqv (tp a) (tp b)=decide (a=b):=by
 show PyData.eqvAll _ _=_
 exact zhZ _ zli a b
abbrev ltp(ws:List (List Int)):D:=.list (ws.map tp)
theorem zvq{n m:Nat}{a b:D}(ha:Pl n a)(hb:Pl m b)(hn:n<=64:=by decide)(hm:m<=64:=by decide):eqD a b=.ok (.bool (PyData.eqv a b)):=by
 unfold eqD
 rw [ha.shaped hn,hb.shaped hm];rfl
theorem zop{n m:Nat}{a b:D}(ha:Pl n a)(hb:Pl m b)(hn:n<=64:=by decide)(hm:m<=64:=by decide):neD a b=.ok (.bool (!PyData.eqv a b)):=by
 unfold neD
 rw [ha.shaped hn,hb.shaped hm];rfl
theorem zrF(a b:List Int):neD (tp a) (tp b)=.ok (.bool (!decide (a=b))):=by rw [zop (zsQ a) (zsQ b),zvp]
theorem zi1(a b:Int):eqD (.int a) (.int b)=.ok (.bool (decide (a=b))):=by rw [zvq (zhJ a) (zhJ b),zli]
theorem zgy(a b:Int):neD (.int a) (.int b)=.ok (.bool (!decide (a=b))):=by rw [zop (zhJ a) (zhJ b),zli]
theorem zo1(i j:Int):gtD (.int i) (.int j)=.ok (.bool (decide (j<i))):=rfl
theorem ziG(i j:Int):ltD (.int i) (.int j)=.ok (.bool (decide (i<j))):=rfl
theorem zoC(i j:Int):leD (.int i) (.int j)=.ok (.bool (decide (i<=j))):=rfl
theorem zw2(i j:Int):geD (.int i) (.int j)=.ok (.bool (decide (j<=i))):=rfl
theorem zdZ{j:Int}(h:0<=j)(h2:j<=1000000):zdG [.int j]=.ok (rng 0 j):=by
 show chk _ _=_
 refine zav ?_
 unfold zit lim
 simp only [Bool.and_eq_true,leB_iff]
 omega
theorem zgj{m:List (Nat×Sl)}(h:∀ i p d,m.lookup i≠some (.ow p d)):∀(ρ:En) (n:Nat),bkL m n ρ=ρ
 | [],_=>rfl
 | x::r,n=>by
  unfold bkL
  rw [zgj h r (n+1)]
  congr 1
  unfold bk1
  split
  ·rename_i p d q e h1 h2
   exact absurd h2 (h _ _ _)
  ·rfl
theorem zbg{α:Type}{f:α->D}{g:GF}{b:SF}(P:List α->En->Prop):∀(xs:List α) (done:List α) (ρ:En),P done ρ ->
  (∀ pre x post ρ,done++xs=pre++x::post->P pre ρ->∃ ρ' fl,(g (f x) ρ).bind b=.ok (fl,ρ')/\(fl=.nx\/fl=.ct)/\P (pre++[x]) ρ')->∃ ρ',forL g b (xs.map f) ρ=.ok (.nx,ρ')/\P (done++xs) ρ'
 | [],done,ρ,h,_=>⟨ρ,rfl,by simpa using h⟩
 | x::xs,done,ρ,h,hx=>by
  obtain⟨ρ1,fl,e,hf,h1⟩:=hx done x xs ρ rfl h
  obtain⟨ρ2,e2,h2⟩:=zbg P xs (done++[x]) ρ1 h1 fun pre y post ρ e=>hx pre y post ρ (by simpa using e)
  refine⟨ρ2,?_,by simpa using h2⟩
  show((g (f x) ρ).bind fun ρ1=>(b ρ1).bind fun y=>match y.1 with
    | .nx | .ct=>forL g b (xs.map f) y.2
    | .bk=>.ok (.nx,y.2)
    | .rt d=>.ok (.rt d,y.2)
    | .rf d=>.ok (.rf d,y.2))=_
  cases e1:g (f x) ρ with
  | ok ρ3 =>
   rw [e1] at e
   rw [zac] at e ⊢
   rw [e,zac]
   rcases hf with rfl|rfl
   ·exact e2
   ·exact e2
  | bad=>rw [e1] at e;cases e
  | err c fs=>rw [e1] at e;cases e
def Np(x:Sl):Prop:=∀ e,x≠.ow true e
theorem zbm:Np .no:=fun _ z=>nomatch z
theorem zaA(d:D):Np (.val d):=fun _ z=>nomatch z
theorem zwH(d:D):Np (.ow false d):=fun _ z=>nomatch z
theorem zeY{ρ:En}{i:Nat}{d:D}{x:Sl}(h:ρ[i]?=some x)(n:Np x):gN i d ρ=.ok (ρ.set i (.val d)):=by
 unfold gN
 rw [h]
 cases x with
 | no=>rfl
 | val c=>rfl
 | ob c ds=>rfl
 | ow p c=>cases p with
  | true=>exact absurd rfl (n c)
  | false=>rfl
theorem zis{i:Nat}{f:EF}{ρ:En}{y:D×En}{x:Sl}(hf:f ρ=.ok y)(h:y.2[i]?=some x)(n:Np x):zdE i f ρ=.ok (.nx,y.2.set i (.ow false y.1)):=by
 unfold zdE
 rw [hf,zac,h]
 cases x with
 | no=>rfl
 | val c=>rfl
 | ob c ds=>rfl
 | ow p c=>cases p with
  | true=>exact absurd rfl (n c)
  | false=>rfl
theorem zb8{i:Nat}{f:EF}{ρ:En}{y:D×En}{x:Sl}(hf:f ρ=.ok y)(h:y.2[i]?=some x)(n:Np x):zaL (gN i) f ρ=.ok (.nx,y.2.set i (.val y.1)):=by
 unfold zaL
 rw [hf,zac,zeY h n];rfl
theorem zg4{m:List (Nat×Sl)}{i:Nat}{x:Sl}(h:m.lookup i=none):bk1 m i x=x:=by
 unfold bk1
 rw [h]
 cases x <;> rfl
theorem zai{s t:SF}{ρ ρ1:En}(h:s ρ=.ok (.nx,ρ1)):zat s t ρ=t ρ1:=by
 unfold zat
 rw [h];rfl
end
section
def zg5:SF:=(zat (zaL (gN 2) (e2 zaV (e2 zaV (e2 zbS (e2 zaV (e2 zgd (eV 0) (e2 zaV (e2 zhI (eC (.int 10)) (eC (.int 18))) (eC (.int 9)))) (e2 zbS (eC (.int 7)) (eV 1))) (eC (.int 739108512309184756019283746561))) (e2 zbS (eC (.int 7919)) (eV 1))) (eC (.int 1))))
  (zat (zaL (gN 2) (e2 zgd (e2 zbS (eV 2) (eV 2)) (e2 zaV (e2 zhI (eC (.int 10)) (eC (.int 60))) (eC (.int 7)))))
  (zaD (e2 zgd (e2 zbS (e2 zaV (eV 2) (eC (.int 40503))) (e2 zaV (eV 2) (eC (.int 57)))) (e2 zaV (e2 zhI (eC (.int 10)) (eC (.int 60))) (eC (.int 7)))))))
def zjk:List D->R D:=zbj false 2 3 zg5
def zi9:SF:=(zat (sIf (tB (e2 ltD (eV 1) (e1 zdg (eV 0)))) (zaD (e2 ixD (eV 0) (eV 1))) sNx)
  (zaD (e2 zaV (e2 zbS (eC (.int 3)) (eV 1)) (eC (.int 1)))))
def zv3:List D->R D:=zbj false 2 2 zi9
def zeF:SF:=(zat (sIf (tB (e2 geD (eV 0) (e2 zhI (eC (.int 10)) (eC (.int 18))))) (zbc (zcR (zaa (e2 zhr (eV 0) (e2 zhI (eC (.int 10)) (eC (.int 18)))) (zaa (eC (.int 0)) (zaa (eV 1) zah))))) sNx)
  (zbc (zcR (zaa (zag zjk (zaa (eV 0) (zaa (eV 1) zah))) (zaa (eC (.int 0)) (zaa (e2 zaV (e2 zgd (eV 0) (e2 zaV (e2 zhI (eC (.int 10)) (eC (.int 18))) (eC (.int 9)))) (eV 1)) zah))))))
def zjj:List D->R D:=zbj true 2 2 zeF
def zfx:SF:=(zat (sIf (tB (e2 ltD (m2 ixD 0 (eC (.int 0))) (eV 1))) (zat (setM 0 (e2 zaV (m2 ixD 0 (eC (.int 1))) (eC (.int 1))) (eC (.int 1)))
  (setM 0 (e2 zaV (m2 ixD 0 (eC (.int 0))) (e2 zbS (eV 1) (zag zjk (zaa (m2 ixD 0 (eC (.int 2))) (zaa (e2 zaV (e2 zbS (eC (.int 11)) (m2 ixD 0 (eC (.int 1)))) (eC (.int 5))) zah))))) (eC (.int 0)))) sNx)
  (zat (zaL (gN 2) (e2 zgd (m2 ixD 0 (eC (.int 0))) (eV 1)))
  (zat (setM 0 (e2 zaG (m2 ixD 0 (eC (.int 0))) (eV 1)) (eC (.int 0)))
  (zaD (eV 2)))))
def zfY:List D->R (D×List D):=run [true,false] false 3 zfx
structure Bd(i:Int)(n:Nat):Prop where
 h:i.natAbs<2^n
theorem Bd.mono{i:Int}{n m:Nat}(h:Bd i n)(l:n<=m):Bd i m:=⟨Nat.lt_of_lt_of_le h.h (Nat.pow_le_pow_right (by decide) l)⟩
theorem Bd.add{i j:Int}{n m:Nat}(h:Bd i n)(k:Bd j m):Bd (i+j) (max n m+1):=by
 constructor
 have a:=(h.mono (Nat.le_max_left n m)).h
 have b:=(k.mono (Nat.le_max_right n m)).h
 have c:=Int.natAbs_add_le i j
 rw [Nat.pow_succ]
 omega
theorem Bd.mul{i j:Int}{n m:Nat}(h:Bd i n)(k:Bd j m):Bd (i*j) (n+m):=by
 constructor
 rw [Int.natAbs_mul,Nat.pow_add]
 have a:=h.h
 have b:=k.h
 exact Nat.mul_lt_mul'' a b
theorem Bd.mod{i j:Int}{n:Nat}(h:Bd j n)(p:0<j):Bd (i.fmod j) n:=by
 constructor
 have a:=h.h
 have b:=Int.fmod_nonneg_of_pos i p
 have c:=Int.fmod_lt_of_pos i p
 omega
theorem mulOk_of{i j:Int}{n m:Nat}(h:Bd i n)(k:Bd j m)(l:n+m<=100000000):zot i j=true:=by
 unfold zot
 refine zeU ?_
 have lg:∀{i:Int} {n:Nat},Bd i n->i.natAbs.log2<=n:=by
  intro i n h
  by_cases z:i.natAbs=0
  ·rw [z];exact Nat.zero_le _
  ·exact Nat.le_of_lt ((Nat.log2_lt z).mpr h.h)
 have a:=lg h
 have b:=lg k
 omega
theorem za0{i j:Int}{n m:Nat}(h:Bd i n)(k:Bd j m)(l:n+m<=100000000):zbS (.int i) (.int j)=.ok (.int (i*j)):=by
 show chk _ _=_
 exact zav (mulOk_of h k l)
theorem zgA{i j:Int}(p:0<j):zgd (.int i) (.int j)=.ok (.int (i.fmod j)):=by
 show chk _ _=_
 exact zav (by simp;omega)
theorem zqZ{i j:Int}{n:Nat}(p:0<j)(h:Bd j n)(l:n<=8000):zaG (.int i) (.int j)=.ok (.int (i.fdiv j)):=by
 show chk _ _=_
 exact zav (by simp;omega)
def p18:Int:=1000000000000000000
def zsY:Int:=1000000000000000009
def p60:Int:=1000000000000000000000000000000000000000000000000000000000000
def zsX:Int:=1000000000000000000000000000000000000000000000000000000000007
def pm:Int:=739108512309184756019283746561
theorem zwr:zhI (.int 10) (.int 18)=.ok (.int p18):=rfl
theorem zyb:zhI (.int 10) (.int 60)=.ok (.int p60):=rfl
theorem zxL:p18+9=zsY:=rfl
theorem zyF:p60+7=zsX:=rfl
theorem zkU:0<zsY:=by decide
theorem zgx:0<zsX:=by decide
theorem b18:Bd zsY 60:=⟨by decide⟩
theorem b60:Bd zsX 200:=⟨by decide⟩
theorem bm:Bd pm 100:=⟨by decide⟩
theorem zaH{i:Int}(h:i.natAbs<65536):Bd i 16:=⟨h⟩
def mx1(c k:Int):Int:=(c.fmod zsY+7*k)*pm+7919*k+1
def mx2(c k:Int):Int:=(mx1 c k*mx1 c k).fmod zsX
def zrH(c k:Int):Int:=((mx2 c k+40503)*(mx2 c k+57)).fmod zsX
theorem zou(c k:Int):0<=zrH c k:=Int.fmod_nonneg_of_pos _ zgx
theorem zs7(c k:Int):Bd (zrH c k) 200:=b60.mod zgx
theorem zl6(c k:Int){n:Nat}(hk:Bd k n)(hn:n<=1000):zjk [.int c,.int k]=.ok (.int (zrH c k)):=by
 have a1:=zgA (i:=c) zkU
 have a2:Bd (c.fmod zsY) 60:=b18.mod zkU
 have a3:=za0 (i:=7) (zaH (by decide)) hk (by omega)
 have a4:=(zaH (i:=7) (by decide)).mul hk
 have a5:=a2.add a4
 have a6:=za0 a5 bm (by omega)
 have a7:=za0 (i:=7919) (zaH (by decide)) hk (by omega)
 have a8:=((a5.mul bm).add ((zaH (i:=7919) (by decide)).mul hk)).add (zaH (i:=1) (by decide))
 have a9:=za0 a8 a8 (by omega)
 have b1:=zgA (i:=mx1 c k*mx1 c k) zgx
 have b2:Bd (mx2 c k) 200:=b60.mod zgx
 have b3:=za0 (b2.add (zaH (i:=40503) (by decide))) (b2.add (zaH (i:=57) (by decide))) (by decide)
 have b4:=zgA (i:=(mx2 c k+40503)*(mx2 c k+57)) zgx
 have hm:(PyData.int 739108512309184756019283746561)=.int pm:=rfl
 have f1:(c.fmod zsY+7*k)*pm+7919*k+1=mx1 c k:=rfl
 have f2:(mx1 c k*mx1 c k).fmod zsX=mx2 c k:=rfl
 have f3:((mx2 c k+40503)*(mx2 c k+57)).fmod zsX=zrH c k:=rfl
 rw [f1] at a9
 simp only [zjk,zbj,FL.run,List.length_cons,List.length_nil,Nat.reduceAdd,List.replicate,zg5,zat,zaL,FL.e2,eV,slots,Bool.false_eq_true,if_false,Nat.reduceSub,List.cons_append,List.nil_append,zz0,eC,zac,zwr,zaV,zxL,a1,zz1,a3,hm,a6,a7,f1,gN,List.set_cons_succ,List.set_cons_zero,zyb,zyF,zaD,a9,b1,f2,b3,b4,f3,outs,outD,if_true]
def zfa(k:Nat)(d:D):Prop:=∃ n c s,d=.list [.int n,.int c,.int s]/\0<=n/\0<=c/\c<=k
theorem zfa.mono{k l:Nat}{d:D}(h:zfa k d)(hl:k<=l):zfa l d:=by
 obtain⟨n,c,s,e,h1,h2,h3⟩:=h
 exact⟨n,c,s,e,h1,h2,by omega⟩
theorem zqe(c k:Int)(hk:k.natAbs<65536):∃ d,zjj [.int c,.int k]=.ok d/\zfa 0 d:=by
 have a1:=zgA (i:=c) zkU
 have hx1:=zl6 c k (zaH hk) (by decide)
 by_cases h:p18<=c
 ·refine⟨_,?_,c-p18,0,k,rfl,by omega,by decide,by decide⟩
  have hg:geD (.int c) (.int p18)=.ok (.bool true):=by show R.ok (PyData.bool (decide (p18<=c)))=_;rw [decide_eq_true h]
  simp only [zjj,zbj,FL.run,List.length_cons,List.length_nil,Nat.reduceAdd,List.replicate,zeF,zat,sIf,tB,FL.e2,eV,slots,Bool.false_eq_true,if_false,Nat.sub_self,List.cons_append,List.nil_append,zz0,eC,zac,zwr,hg,zbc,zcR,zaa,zhr,zah,sNx,zz1,if_true,zag,zaV,outs,outD]
  rfl
 ·refine⟨_,?_,zrH c k,0,c.fmod zsY+k,rfl,zou c k,by decide,by decide⟩
  have hg:geD (.int c) (.int p18)=.ok (.bool false):=by show R.ok (PyData.bool (decide (p18<=c)))=_;rw [decide_eq_false h]
  simp only [zjj,zbj,FL.run,List.length_cons,List.length_nil,Nat.reduceAdd,List.replicate,zeF,zat,sIf,tB,FL.e2,eV,slots,Bool.false_eq_true,if_false,Nat.sub_self,List.cons_append,List.nil_append,zz0,eC,zac,zwr,hg,zbc,zcR,zaa,zhr,zah,sNx,zz1,zag,zaV,zxL,hx1,a1,outs,outD,if_true]
  rfl
theorem zc7{k:Nat}{d:D}(h:zfa k d)(hk:k<=60000)(m:Int)(hm1:1<=m)(hm2:m.natAbs<65536):∃ g d',zfY [d,.int m]=.ok (.int g,[d',.int m])/\0<=g/\g<m/\zfa (k+1) d':=by
 obtain⟨n,c,s,rfl,h1,h2,h3⟩:=h
 have i0:∀ x y z:D,atI [x,y,z] 0=some x:=fun _ _ _=>rfl
 have i1:∀ x y z:D,atI [x,y,z] 1=some y:=fun _ _ _=>rfl
 have i2:∀ x y z:D,atI [x,y,z] 2=some z:=fun _ _ _=>rfl
 have j0:ixN 3 0=some 0:=rfl
 have j1:ixN 3 1=some 1:=rfl
 have hlt:ltD (.int n) (.int m)=.ok (.bool (decide (n<m))):=rfl
 have hd:∀ i:Int,zaG (.int i) (.int m)=.ok (.int (i.fdiv m)):=fun i=>zqZ (by omega) (zaH hm2) (by decide)
 have hm:∀ i:Int,zgd (.int i) (.int m)=.ok (.int (i.fmod m)):=fun i=>zgA (by omega)
 have gd:∀ i:Int,0<=i->0<=i.fdiv m:=fun i hi=>Int.fdiv_nonneg hi (by omega)
 by_cases hn:n<m
 ·rw [decide_eq_true hn] at hlt
  have hc:(c+1).natAbs<65536:=by omega
  have x1:=za0 (i:=11) (zaH (by decide)) (zaH hc) (by decide)
  have xb:=((zaH (i:=11) (by decide)).mul (zaH hc)).add (zaH (i:=5) (by decide))
  have x2:=zl6 s (11*(c+1)+5) xb (by decide)
  have x3:=za0 (zaH hm2) (zs7 s (11*(c+1)+5)) (by decide)
  have nn:0<=n+m*zrH s (11*(c+1)+5):=Int.add_nonneg h1 (Int.mul_nonneg (by omega) (zou _ _))
  refine⟨(n+m*zrH s (11*(c+1)+5)).fmod m,.list [.int ((n+m*zrH s (11*(c+1)+5)).fdiv m),.int (c+1),.int s],?_,Int.fmod_nonneg_of_pos _ (by omega),Int.fmod_lt_of_pos _ (by omega),_,_,_,rfl,gd _ nn,by omega,by omega⟩
  simp only [zfY,FL.run,List.length_cons,List.length_nil,Nat.reduceAdd,zfx,zat,sIf,tB,FL.e2,m2,zaw,slots,if_true,Bool.false_eq_true,if_false,Nat.reduceSub,List.replicate,List.cons_append,List.nil_append,zz0,eC,ixD,R.of,zac,i0,eV,zz1,hlt,setM,zaV,zfl,za4,zag,zaa,zah,sNx,i1,List.set_cons_zero,j1,List.set_cons_succ,i2,x1,x2,x3,j0,zaL,gN,zaD,hm,hd,outs,outD,List.head?_cons]
 ·rw [decide_eq_false hn] at hlt
  refine⟨n.fmod m,.list [.int (n.fdiv m),.int c,.int s],?_,Int.fmod_nonneg_of_pos _ (by omega),Int.fmod_lt_of_pos _ (by omega),_,_,_,rfl,gd _ h1,by omega,by omega⟩
  simp only [zfY,FL.run,List.length_cons,List.length_nil,Nat.reduceAdd,zfx,zat,sIf,tB,FL.e2,m2,zaw,slots,if_true,Bool.false_eq_true,if_false,Nat.reduceSub,List.replicate,List.cons_append,List.nil_append,zz0,eC,ixD,R.of,zac,i0,eV,zz1,hlt,setM,zaV,zfl,za4,zag,zaa,zah,sNx,i1,List.set_cons_zero,j1,List.set_cons_succ,i2,zaL,gN,zaD,hm,hd,j0,outs,outD,List.head?_cons]
theorem zxg(ns:List Int)(k:Int)(h0:0<=k)(hk:k.natAbs<65536):∃ a,zv3 [.list (ns.map PyData.int),.int k]=.ok (.int a):=by
 have a3:=za0 (i:=3) (zaH (by decide)) (zaH hk) (by decide)
 have hl:ltD (.int k) (.int (ns.length:Int))=.ok (.bool (decide (k<ns.length))):=rfl
 by_cases h:k<ns.length
 ·rw [decide_eq_true h] at hl
  have:∃ a,atI (ns.map PyData.int) k=some (.int a):=by
   unfold atI ixN
   rw [List.length_map,if_pos h0,if_pos h]
   exact⟨ns[k.toNat]'(by omega),by simp [show k.toNat<ns.length by omega]⟩
  obtain⟨a,ea⟩:=this
  refine⟨a,?_⟩
  simp only [zv3,zbj,FL.run,List.length_cons,List.length_nil,Nat.reduceAdd,List.replicate,zi9,zat,sIf,tB,FL.e2,eV,slots,Bool.false_eq_true,if_false,Nat.sub_self,List.cons_append,List.nil_append,zz1,zz0,FL.e1,zdg,zac,List.length_map,hl,zaD,ixD,R.of,sNx,ea,if_true,eC,zaV,outs,outD]
 ·rw [decide_eq_false h] at hl
  refine⟨3*k+1,?_⟩
  simp only [zv3,zbj,FL.run,List.length_cons,List.length_nil,Nat.reduceAdd,List.replicate,zi9,zat,sIf,tB,FL.e2,eV,slots,Bool.false_eq_true,if_false,Nat.sub_self,List.cons_append,List.nil_append,zz1,zz0,FL.e1,zdg,zac,List.length_map,hl,zaD,ixD,sNx,eC,zaV,a3,outs,outD,if_true]
theorem zki{k:Nat}{ix:List Nat}{g:GF}{t:TF}{f:EF}(P:Nat->List D->En->Prop):∀(items:List D) (i:Nat) (acc:List D) (ρ:En),acc.length+items.length<=lim->acc.length=i->P i acc ρ ->
  (∀ x∈items,∀ j acc ρ,j<i+items.length->P j acc ρ->∃ β y β',g x (blk k ix ρ)=.ok β/\t β=.ok (true,β)/\f β=.ok (y,β')/\P (j+1) (acc++[y]) (back ρ ix (β'.drop k))) ->
  ∃ acc' ρ',zgZ k ix g t f items ρ acc=.ok (acc',ρ')/\acc'.length=i+items.length/\P (i+items.length) acc' ρ'
 | [],i,acc,ρ,_,e,h,_=>⟨acc,ρ,rfl,e,h⟩
 | x::xs,i,acc,ρ,hl,e,h,hx=>by
  obtain⟨β,y,β',h1,h2,h3,h4⟩:=hx x (List.mem_cons_self ..) i acc ρ (by simp) h
  have hl':acc.length+(xs.length+1)<=lim:=hl
  obtain⟨acc',ρ',e1',e2',e3'⟩:=zki P xs (i+1) (acc++[y]) _ (by simp;omega) (by simp;omega) h4 fun x m j acc ρ hj=>hx x (List.mem_cons_of_mem _ m) j acc ρ (by rw [List.length_cons];omega)
  refine⟨acc',ρ',?_,by simp;omega,by rw [List.length_cons,show i+(xs.length+1)=i+1+xs.length by omega];exact e3'⟩
  unfold zgZ
  rw [h1,zac,h2,zac,if_pos rfl,h3,zac,zav (zeU (by omega)),e1']
end
section
theorem zpr{i:Nat}{x:Sl}:∀(ρ:En) (n:Nat),i<n->bkL [(i,x)] n ρ=ρ
 | [],_,_=>rfl
 | y::r,n,h=>by
  unfold bkL
  rw [zg4 (by rw [List.lookup_cons,show(n==i)=false from beq_eq_false_iff_ne.mpr (by omega)];rfl),zpr r (n+1) (by omega)]
theorem zlm{d d':D}{p:Bool}:∀(ρ:En) (n i:Nat),ρ[i]?=some (.ow p d)->bkL [(n+i,.ow true d')] n ρ=ρ.set i (.ow p d')
 | [],_,_,h=>by simp at h
 | y::r,n,0,h=>by
  have hy:y=.ow p d:=by simpa using h
  subst hy
  unfold bkL
  rw [Nat.add_zero,zpr r (n+1) (Nat.lt_succ_self n)]
  have:bk1 [(n,Sl.ow true d')] n (.ow p d)=.ow p d':=by
   unfold bk1
   rw [List.lookup_cons,beq_self_eq_true]
  rw [this]
  rfl
 | y::r,n,i+1,h=>by
  unfold bkL
  rw [zg4 (by rw [List.lookup_cons,show(n==n+(i+1))=false from beq_eq_false_iff_ne.mpr (by omega)];rfl),show n+(i+1)=n+1+i by omega,zlm r (n+1) i (by simpa using h)]
  rfl
theorem zfw{F:List D->R (D×List D)}{i:Nat}{f:EF}{ρ:En}{p:Bool}{d v r d' v':D}(hi:ρ[i]?=some (.ow p d))(hf:f ρ=.ok (v,ρ))(hF:F [d,v]=.ok (r,[d',v'])):zao F [.m i,.v f] ρ=.ok (r,ρ.set i (.ow p d')):=by
 have hm:zaw ρ i=.ok d:=by unfold zaw;rw [hi]
 unfold zao
 simp only [zjm,hm,zac,hf,zhz,hF]
 have:=zlm (d:=d) (d':=d') (p:=p) ρ 0 i hi
 rw [Nat.zero_add] at this
 show R.ok (r,bkL [(i,.ow true d')] 0 ρ)=_
 rw [this]
end
section
def zlf:SF:=(zaD (zm4 (e1 (zdK "int") (eV 0)) (zvs (e1 (zdK "bool") (eV 0)))))
def zc4:List D->R D:=zbj false 1 1 zlf
def zbv:SF:=(zgq (zdD 3) (tB (e2 neD (eV 3) (eC (.int 0)))) (zgr 2 3 (eV 3) (e2 zgd (eV 2) (eV 3))))
def zbU:SF:=(zat (zgr 2 3 (e1 zpA (eV 0)) (e1 zpA (eV 1)))
  (zat zbv
  (zaD (eV 2))))
def zak:List D->R D:=zbj false 2 4 zbU
def zdj:SF:=(zaD (zaP (zaa (e1 zdg (eV 0)) (zaa (eV 0) zah))))
def zaS:List D->R D:=zbj false 1 1 zdj
def zlc:SF:=(zat (zaL (gN 2) (zag zak (zaa (e2 ixD (eV 0) (eC (.int 1))) (zaa (e2 ixD (eV 1) (eC (.int 1))) zah))))
  (zat (zgr 3 4 (e2 zaG (e2 ixD (eV 0) (eC (.int 1))) (eV 2)) (e2 zaG (e2 ixD (eV 1) (eC (.int 1))) (eV 2)))
  (zat (zaL (gN 5) (e2 zaV (e2 zbS (e2 ixD (eV 0) (eC (.int 0))) (eV 4)) (e2 zbS (e2 ixD (eV 1) (eC (.int 0))) (eV 3))))
  (zat (zaL (gN 6) (zag zak (zaa (eV 5) (zaa (eV 2) zah))))
  (zaD (zaP (zaa (e2 zaG (eV 5) (eV 6)) (zaa (e2 zbS (eV 3) (e2 zaG (e2 ixD (eV 1) (eC (.int 1))) (eV 6))) zah))))))))
def zpH:List D->R D:=zbj false 2 7 zlc
def ziZ:SF:=(zat (zgr 2 3 (zag zak (zaa (e2 ixD (eV 0) (eC (.int 0))) (zaa (e2 ixD (eV 1) (eC (.int 1))) zah))) (zag zak (zaa (e2 ixD (eV 1) (eC (.int 0))) (zaa (e2 ixD (eV 0) (eC (.int 1))) zah))))
  (zaD (zaP (zaa (e2 zbS (e2 zaG (e2 ixD (eV 0) (eC (.int 0))) (eV 2)) (e2 zaG (e2 ixD (eV 1) (eC (.int 0))) (eV 3))) (zaa (e2 zbS (e2 zaG (e2 ixD (eV 0) (eC (.int 1))) (eV 3)) (e2 zaG (e2 ixD (eV 1) (eC (.int 1))) (eV 2))) zah)))))
def zji:List D->R D:=zbj false 2 4 ziZ
def zeD:SF:=(zat (zaL (gN 2) (zag zpH (zaa (zf1 0 (eV 1) (eC (.tuple [(.int 0),(.int 1)]))) (zaa (eV 2) zah))))
  (sIf (tB (e2 neD (eV 2) (eC (.tuple [(.int 0),(.int 1)])))) (zfu 0 (eV 1) (eV 2)) (sIf (tB (m2r inD (eV 1) 0)) (zlk 0 (eV 1)) sNx)))
def zc5:List D->R (D×List D):=run [true,false,false] false 3 zeD
def zcg:EF:=(zdm 1 [0] (iE (e1 (zeL zaS) (eV 0))) (gN 0) zc8 (zaP (zaa (eV 0) (zaa (e2 zfc (eV 1) (eV 0)) zah))))
def zaU:SF:=(zaD zcg)
def zeb:List D->R D:=zbj false 1 1 zaU
def zcL:SF:=(sE (zao zc5 [.m 0,.v (eV 3),.v (zag zji (zaa (eV 1) (zaa (e2 zfc (eV 2) (eV 3)) zah)))]))
def zel:SF:=(zep (iD (eV 2)) (gN 3) zcL)
def zcA:SF:=zel
def zhm:List D->R (D×List D):=run [true,false,false] false 4 zcA
end
section
def num(r:Rat):D:=.tuple [.int r.num,.int (r.den:Int)]
theorem zqC{h l:Nat}(p:l≠0):zgd (.int h) (.int l)=.ok (.int ((h % l:Nat):Int)):=by
 show chk (decide ((l:Int)≠0)) _=_
 rw [zav (by simpa using p)]
 rw [Int.fmod_eq_emod_of_nonneg _ (by omega)]
 rfl
theorem ziX(x0 x1:Sl):∀(n h l:Nat),l<n->zgn (tB (e2 neD (eV 3) (eC (.int 0)))) (zgr 2 3 (eV 3) (e2 zgd (eV 2) (eV 3))) n [x0,x1,.val (.int h),.val (.int l)]=.ok (.nx,[x0,x1,.val (.int ((Nat.gcd h l:Nat):Int)),.val (.int 0)])
 | 0,h,l,p=>by omega
 | n+1,h,l,p=>by
  unfold zgn
  by_cases c:l=0
  ·subst c
   have e:neD (.int ((0:Nat):Int)) (.int 0)=.ok (.bool false):=by rw [zgy];rfl
   simp only [tB,FL.e2,eV,zz1,zz0,eC,zac,e,zgr,gN,Bool.false_eq_true,if_false,Nat.gcd_zero_right]
   rfl
  ·have e:neD (.int l) (.int 0)=.ok (.bool true):=by
    rw [zgy,decide_eq_false (by omega)];rfl
   simp only [tB,FL.e2,eV,zz1,zz0,eC,zac,e,zgr,gN,zqC c,List.set_cons_succ,List.set_cons_zero,if_true]
   have ih:=ziX x0 x1 n l (h % l) (by have:=Nat.mod_lt h (Nat.pos_of_ne_zero c);omega)
   rw [ih,Nat.gcd_comm l,<- Nat.gcd_rec,Nat.gcd_comm]
theorem zmy(i:Int):zpA (.int i)=.ok (.int (i.natAbs:Int)):=by
 show R.ok (PyData.int (if i<0 then -i else i))=_
 congr 2
 split <;> omega
theorem zj7(a b:Int):zak [.int a,.int b]=.ok (.int (Int.gcd a b:Int)):=by
 have e1:zgr 2 3 (FL.e1 zpA (eV 0)) (FL.e1 zpA (eV 1)) [.val (.int a),.val (.int b),.no,.no]=.ok (.nx,[.val (.int a),.val (.int b),.val (.int (a.natAbs:Int)),.val (.int (b.natAbs:Int))]):=by
  simp only [zgr,FL.e1,eV,zz0,zac,zmy,gN,zz1,List.set_cons_succ,List.set_cons_zero]
 have e2:zbv [.val (.int a),.val (.int b),.val (.int (a.natAbs:Int)),.val (.int (b.natAbs:Int))]=.ok (.nx,[.val (.int a),.val (.int b),.val (.int ((Nat.gcd a.natAbs b.natAbs:Nat):Int)),.val (.int 0)]):=by
  unfold zbv zgq
  have:zdD 3 [.val (.int a),.val (.int b),.val (.int (a.natAbs:Int)),.val (.int (b.natAbs:Int))]=b.natAbs+1:=by
   show((b.natAbs:Int)).natAbs+1=_
   simp
  rw [this]
  exact ziX _ _ _ _ _ (by omega)
 show((zbU [.val (.int a),.val (.int b),.no,.no]).bind _).bind _=_
 unfold zbU
 rw [zai e1,zai e2]
 rfl
theorem zcM{i:Int}{j:Nat}{n:Nat}(hj:j≠0)(hb:j<2^n)(hn:n<=90000000):zaG (.int i) (.int j)=.ok (.int (i / (j:Int))):=by
 show chk (decide ((j:Int)≠0)) _=_
 rw [zav (by simpa using hj),Int.fdiv_eq_ediv_of_nonneg _ (by omega)]
theorem zko{r:Rat}{n:Nat}(h:QR.Bd n r):Bd r.num n/\Bd (r.den:Int) n:=⟨⟨h.1⟩,⟨by simpa using h.2⟩⟩
theorem zfN{i:Int}{n:Nat}{j:Nat}(h:Bd i n):Bd (i / (j:Int)) n:=⟨Nat.lt_of_le_of_lt (Int.natAbs_ediv_le_natAbs i (j:Int)) h.h⟩
theorem zj8{a:Int}{b:Nat}{n:Nat}(hb:b≠0)(h:b<2^n):Int.gcd a (b:Int)≠0/\Int.gcd a (b:Int)<2^n:=by
 have h1:0<Int.gcd a (b:Int):=Int.gcd_pos_of_ne_zero_right a (by omega)
 have h2:Int.gcd a (b:Int)∣b:=by
  have:=Int.gcd_dvd_right a (b:Int)
  exact Int.natCast_dvd_natCast.mp this
 have h3:=Nat.le_of_dvd (Nat.pos_of_ne_zero hb) h2
 omega
theorem zsO{r s:Rat}{n:Nat}(hr:QR.Bd n r)(hs:QR.Bd n s)(hn:n<=40000000):zpH [num r,num s]=.ok (num (r+s)):=by
 have gS:=zj8 (a:=(r.den:Int)) s.den_nz hs.2
 generalize hg:Int.gcd (r.den:Int) (s.den:Int)=g at gS
 have k1:zak [.int (r.den:Int),.int (s.den:Int)]=.ok (.int g):=by rw [zj7,hg]
 have k2:zaG (.int (r.den:Int)) (.int g)=.ok (.int ((r.den:Int) / (g:Int))):=zcM gS.1 gS.2 (by omega)
 have k3:zaG (.int (s.den:Int)) (.int g)=.ok (.int ((s.den:Int) / (g:Int))):=zcM gS.1 gS.2 (by omega)
 have br:=zko hr
 have bs:=zko hs
 have k4:zbS (.int r.num) (.int ((s.den:Int) / (g:Int)))=.ok (.int (r.num*((s.den:Int) / (g:Int)))):=za0 br.1 (zfN bs.2) (by omega)
 have k5:zbS (.int s.num) (.int ((r.den:Int) / (g:Int)))=.ok (.int (s.num*((r.den:Int) / (g:Int)))):=za0 bs.1 (zfN br.2) (by omega)
 generalize ht:r.num*((s.den:Int) / (g:Int))+s.num*((r.den:Int) / (g:Int))=top
 have gT:=zj8 (a:=top) gS.1 gS.2
 generalize he:Int.gcd top (g:Int)=e at gT
 have k6:zak [.int top,.int g]=.ok (.int e):=by rw [zj7,he]
 have k7:zaG (.int top) (.int e)=.ok (.int (top / (e:Int))):=zcM gT.1 gT.2 (by omega)
 have k8:zaG (.int (s.den:Int)) (.int e)=.ok (.int ((s.den:Int) / (e:Int))):=zcM gT.1 gT.2 (by omega)
 have k9:zbS (.int ((r.den:Int) / (g:Int))) (.int ((s.den:Int) / (e:Int)))=.ok (.int (((r.den:Int) / (g:Int))*((s.den:Int) / (e:Int)))):=za0 (zfN br.2) (zfN bs.2) (by omega)
 have x0:∀(a b:Int),ixD (.tuple [.int a,.int b]) (.int 0)=.ok (.int a):=fun a b=>rfl
 have x1:∀(a b:Int),ixD (.tuple [.int a,.int b]) (.int 1)=.ok (.int b):=fun a b=>rfl
 have l2:leB 2 lim=true:=by decide
 have ad:∀(a b:Int),zaV (.int a) (.int b)=.ok (.int (a+b)):=fun _ _=>rfl
 have fin:num (r+s)=.tuple [.int (top / (e:Int)),.int (((r.den:Int) / (g:Int))*((s.den:Int) / (e:Int)))]:=by
  have h1:=Q1.zsP (QR.low r) (QR.low s)
  rw [QR.add] at h1
  unfold Q1.zmJ at h1
  simp only [hg,ht,he] at h1
  unfold num
  rw [<- (Prod.mk.inj h1).1,<- (Prod.mk.inj h1).2]
 have s1:zaL (gN 2) (zag zak (zaa (e2 ixD (eV 0) (eC (.int 1))) (zaa (e2 ixD (eV 1) (eC (.int 1))) zah))) [.val (num r),.val (num s),.no,.no,.no,.no,.no]=.ok (.nx,[.val (num r),.val (num s),.val (.int g),.no,.no,.no,.no]):=by
  unfold num
  simp only [zaL,zag,zaa,FL.e2,eV,zz0,eC,zac,x1,zah,zz1,k1,gN,List.set_cons_succ,List.set_cons_zero]
 have s2:zgr 3 4 (e2 zaG (e2 ixD (eV 0) (eC (.int 1))) (eV 2)) (e2 zaG (e2 ixD (eV 1) (eC (.int 1))) (eV 2)) [.val (num r),.val (num s),.val (.int g),.no,.no,.no,.no]=.ok (.nx,[.val (num r),.val (num s),.val (.int g),.val (.int ((r.den:Int) / (g:Int))),.val (.int ((s.den:Int) / (g:Int))),.no,.no]):=by
  unfold num
  simp only [zgr,FL.e2,eV,zz0,eC,zac,x1,zz1,k2,gN,k3,List.set_cons_succ,List.set_cons_zero]
 have s3:zaL (gN 5) (e2 zaV (e2 zbS (e2 ixD (eV 0) (eC (.int 0))) (eV 4)) (e2 zbS (e2 ixD (eV 1) (eC (.int 0))) (eV 3))) [.val (num r),.val (num s),.val (.int g),.val (.int ((r.den:Int) / (g:Int))),.val (.int ((s.den:Int) / (g:Int))),.no,.no]=.ok (.nx,[.val (num r),.val (num s),.val (.int g),.val (.int ((r.den:Int) / (g:Int))),.val (.int ((s.den:Int) / (g:Int))),.val (.int top),.no]):=by
  unfold num
  simp only [zaL,FL.e2,eV,zz0,eC,zac,x0,zz1,k4,k5,ad,ht,gN,List.set_cons_succ,List.set_cons_zero]
 have s4:zaL (gN 6) (zag zak (zaa (eV 5) (zaa (eV 2) zah))) [.val (num r),.val (num s),.val (.int g),.val (.int ((r.den:Int) / (g:Int))),.val (.int ((s.den:Int) / (g:Int))),.val (.int top),.no]=.ok (.nx,[.val (num r),.val (num s),.val (.int g),.val (.int ((r.den:Int) / (g:Int))),.val (.int ((s.den:Int) / (g:Int))),.val (.int top),.val (.int e)]):=by
  simp only [zaL,zag,zaa,eV,zz1,zz0,zah,zac,k6,gN,List.set_cons_succ,List.set_cons_zero]
 have s5:zaD (zaP (zaa (e2 zaG (eV 5) (eV 6)) (zaa (e2 zbS (eV 3) (e2 zaG (e2 ixD (eV 1) (eC (.int 1))) (eV 6))) zah))) [.val (num r),.val (num s),.val (.int g),.val (.int ((r.den:Int) / (g:Int))),.val (.int ((s.den:Int) / (g:Int))),.val (.int top),.val (.int e)]=.ok (.rt (num (r+s)),[.val (num r),.val (num s),.val (.int g),.val (.int ((r.den:Int) / (g:Int))),.val (.int ((s.den:Int) / (g:Int))),.val (.int top),.val (.int e)]):=by
  rw [fin]
  unfold num
  simp only [zaD,zaP,zaa,FL.e2,eV,zz1,zz0,zac,k7,eC,zah,x1,k8,k9,List.length_cons,List.length_nil,Nat.reduceAdd,zav l2]
 show((zlc [.val (num r),.val (num s),.no,.no,.no,.no,.no]).bind _).bind _=_
 unfold zlc
 rw [zai s1,zai s2,zai s3,zai s4,s5]
 rfl
theorem zlF{r s:Rat}{n:Nat}(hr:QR.Bd n r)(hs:QR.Bd n s)(hn:n<=40000000):zji [num r,num s]=.ok (num (r*s)):=by
 have gS:=zj8 (a:=r.num) s.den_nz hs.2
 generalize hg:Int.gcd r.num (s.den:Int)=g at gS
 have gT:=zj8 (a:=s.num) r.den_nz hr.2
 generalize he:Int.gcd s.num (r.den:Int)=e at gT
 have k1:zak [.int r.num,.int (s.den:Int)]=.ok (.int g):=by rw [zj7,hg]
 have k2:zak [.int s.num,.int (r.den:Int)]=.ok (.int e):=by rw [zj7,he]
 have k3:zaG (.int r.num) (.int g)=.ok (.int (r.num / (g:Int))):=zcM gS.1 gS.2 (by omega)
 have k4:zaG (.int s.num) (.int e)=.ok (.int (s.num / (e:Int))):=zcM gT.1 gT.2 (by omega)
 have k5:zaG (.int (r.den:Int)) (.int e)=.ok (.int ((r.den:Int) / (e:Int))):=zcM gT.1 gT.2 (by omega)
 have k6:zaG (.int (s.den:Int)) (.int g)=.ok (.int ((s.den:Int) / (g:Int))):=zcM gS.1 gS.2 (by omega)
 have br:=zko hr
 have bs:=zko hs
 have k7:zbS (.int (r.num / (g:Int))) (.int (s.num / (e:Int)))=.ok (.int (r.num / (g:Int)*(s.num / (e:Int)))):=za0 (zfN br.1) (zfN bs.1) (by omega)
 have k8:zbS (.int ((r.den:Int) / (e:Int))) (.int ((s.den:Int) / (g:Int)))=.ok (.int ((r.den:Int) / (e:Int)*((s.den:Int) / (g:Int)))):=za0 (zfN br.2) (zfN bs.2) (by omega)
 have x0:∀(a b:Int),ixD (.tuple [.int a,.int b]) (.int 0)=.ok (.int a):=fun a b=>rfl
 have x1:∀(a b:Int),ixD (.tuple [.int a,.int b]) (.int 1)=.ok (.int b):=fun a b=>rfl
 have l2:leB 2 lim=true:=by decide
 have fin:num (r*s)=.tuple [.int (r.num / (g:Int)*(s.num / (e:Int))),.int ((r.den:Int) / (e:Int)*((s.den:Int) / (g:Int)))]:=by
  have h1:=Q1.zil (QR.low r) (QR.low s)
  rw [QR.mul] at h1
  unfold Q1.zlG at h1
  simp only [hg,he] at h1
  unfold num
  rw [<- (Prod.mk.inj h1).1,<- (Prod.mk.inj h1).2]
 have s1:zgr 2 3 (zag zak (zaa (e2 ixD (eV 0) (eC (.int 0))) (zaa (e2 ixD (eV 1) (eC (.int 1))) zah))) (zag zak (zaa (e2 ixD (eV 1) (eC (.int 0))) (zaa (e2 ixD (eV 0) (eC (.int 1))) zah))) [.val (num r),.val (num s),.no,.no]=.ok (.nx,[.val (num r),.val (num s),.val (.int g),.val (.int e)]):=by
  unfold num
  simp only [zgr,zag,zaa,FL.e2,eV,zz0,eC,zac,x0,zah,zz1,x1,k1,gN,k2,List.set_cons_succ,List.set_cons_zero]
 have s5:zaD (zaP (zaa (e2 zbS (e2 zaG (e2 ixD (eV 0) (eC (.int 0))) (eV 2)) (e2 zaG (e2 ixD (eV 1) (eC (.int 0))) (eV 3))) (zaa (e2 zbS (e2 zaG (e2 ixD (eV 0) (eC (.int 1))) (eV 3)) (e2 zaG (e2 ixD (eV 1) (eC (.int 1))) (eV 2))) zah))) [.val (num r),.val (num s),.val (.int g),.val (.int e)]=.ok (.rt (num (r*s)),[.val (num r),.val (num s),.val (.int g),.val (.int e)]):=by
  rw [fin]
  unfold num
  simp only [zaD,zaP,zaa,FL.e2,eV,zz0,eC,zac,x0,zz1,k3,k4,k7,zah,x1,k5,k6,k8,List.length_cons,List.length_nil,Nat.reduceAdd,zav l2]
 show((ziZ [.val (num r),.val (num s),.no,.no]).bind _).bind _=_
 unfold ziZ
 rw [zai s1,s5]
 rfl
end
section
abbrev Sm:=List (List Int×Rat)
def ent(p:List Int×Rat):D×D:=(tp p.1,num p.2)
def dct(s:Sm):D:=.dict (s.map ent)
def kq(w:List Int):KQ:=.inl (w.map .inl)
theorem zjQ:∀ w:List Int,zpK (w.map PyData.int)=some (w.map .inl)
 | []=>rfl
 | x::r=>by simp only [List.map_cons,zpK,kOf,zjQ r,Option.bind_some,Option.map_some]
theorem zeV(w:List Int):keyOf (tp w)=some (kq w):=by
 show(zpK (w.map PyData.int)).map Sum.inl=_
 rw [zjQ];rfl
theorem zrN{v w:List Int}(h:kq v=kq w):v=w:=by
 have:=Sum.inl.inj h
 have:=congrArg (List.map (Sum.elim id fun _=>(0:Int))) this
 simpa [List.map_map,Function.comp_def] using this
theorem zoG(v w:List Int):decide (keyOf (tp v)=some (kq w))=decide (v=w):=by
 rw [zeV]
 by_cases c:v=w
 ·subst c;simp
 ·rw [decide_eq_false c,decide_eq_false fun z=>c (zrN (Option.some.inj z))]
def zaR(s:Sm)(w:List Int):Option Rat:=(s.find? fun p=>decide (p.1=w)).map (·.2)
def zdv(s:Sm)(w:List Int)(q:Rat):Sm:=if(s.any fun p=>decide (p.1=w))=true then s.map fun p=>if p.1=w then(p.1,q) else p else s++[(w,q)]
def zdF(s:Sm)(w:List Int):Sm:=s.filter fun p=>decide (p.1≠w)
def zcH(s:Sm)(w:List Int)(q:Rat):Sm:=if(zaR s w).getD 0+q≠0 then zdv s w ((zaR s w).getD 0+q) else if(zaR s w).isSome=true then zdF s w else s
theorem ziH(w:List Int):∀ s:Sm,look (s.map ent) (kq w)=(zaR s w).map num
 | []=>rfl
 | p::r=>by
  have ih:=ziH w r
  unfold look zaR at ih ⊢
  simp only [List.map_cons,List.find?_cons]
  have e:decide (keyOf (ent p).1=some (kq w))=decide (p.1=w):=zoG p.1 w
  rw [e]
  cases decide (p.1=w) with
  | true=>rfl
  | false=>exact ih
theorem zhQ:∀ s:Sm,keysOk true (s.map ent)=true
 | []=>rfl
 | p::r=>by
  have ih:=zhQ r
  unfold keysOk at ih ⊢
  rw [List.map_cons,List.all_cons,ih,Bool.and_true]
  show(match keyOf (tp p.1) with|some q=>form q==true|none=>false)=true
  rw [zeV];rfl
theorem zfs(s:Sm)(w:List Int):dictAt (dct s) (tp w)=.ok (s.map ent,kq w):=by
 show(R.of (keyOf (tp w))).bind _=_
 rw [zeV]
 exact zav (zhQ s)
theorem zgT(s:Sm)(w:List Int):zdO (dct s) (tp w)=.ok ((zaR s w).map num):=by
 unfold zdO
 rw [zfs,zac,ziH]
theorem ziV(s:Sm)(w:List Int):ziW (dct s) (tp w) (num 0)=.ok (num ((zaR s w).getD 0)):=by
 unfold ziW
 rw [zgT,zac]
 cases zaR s w <;> rfl
theorem zoT(s:Sm)(w:List Int):inD (tp w) (dct s)=.ok (.bool (zaR s w).isSome):=by
 unfold inD
 rw [zgT,zac]
 cases zaR s w <;> rfl
theorem zeE{s:Sm}{w:List Int}{q:Rat}(h:zaR s w=some q):zfc (dct s) (tp w)=.ok (num q):=by
 unfold zfc
 rw [zgT,zac,h];rfl
theorem zpz(w:List Int):∀ s:Sm,((s.map ent).any fun kv=>decide (keyOf kv.1=some (kq w)))=s.any fun p=>decide (p.1=w)
 | []=>rfl
 | p::r=>by
  simp only [List.map_cons,List.any_cons,zpz w r]
  rw [show decide (keyOf (ent p).1=some (kq w))=decide (p.1=w) from zoG p.1 w]
theorem zsC(s:Sm)(w:List Int)(q:Rat):zum (s.map ent) (tp w) (kq w) (num q)=(zdv s w q).map ent:=by
 unfold zum zdv
 rw [zpz]
 split
 ·rw [List.map_map,List.map_map]
  refine List.map_congr_left fun p _=>?_
  show(if keyOf (tp p.1)=some (kq w) then((ent p).1,num q) else ent p)=ent (if p.1=w then(p.1,q) else p)
  by_cases c:p.1=w
  ·rw [if_pos c,if_pos (by rw [zeV,c])];rfl
  ·rw [if_neg c,if_neg (fun z=>c (by rw [zeV] at z;exact zrN (Option.some.inj z)))]
 ·rw [List.map_append];rfl
theorem ze2{s:Sm}{w:List Int}{q:Rat}(h:s.length+1<=lim):zke (dct s) (tp w) (num q)=.ok (dct (zdv s w q)):=by
 unfold zke
 rw [zfs,zac]
 show chk (leB ((s.map ent).length+1) lim) _=_
 rw [zav (by rw [List.length_map];exact zeU h),zsC];rfl
theorem zmn(w:List Int):∀ s:Sm,zgS (s.map ent) (kq w)=(zdF s w).map ent
 | []=>rfl
 | p::r=>by
  have ih:=zmn w r
  unfold zgS zdF at ih ⊢
  rw [List.map_cons,List.filter_cons,List.filter_cons,ih]
  have e:decide (keyOf (ent p).1≠some (kq w))=decide (p.1≠w):=by
   have:=zoG p.1 w
   rw [show(ent p).1=tp p.1 from rfl,decide_not,decide_not,this]
  rw [e]
  split <;> rfl
theorem zmp{s:Sm}{w:List Int}(h:(zaR s w).isSome=true):zm7 (dct s) (tp w)=.ok (dct (zdF s w)):=by
 unfold zm7
 rw [zfs,zac]
 show chk (look (s.map ent) (kq w)).isSome _=_
 rw [ziH,zav (by rw [Option.isSome_map];exact h),zmn];rfl
theorem zom(r s:Rat):neD (num r) (num s)=.ok (.bool (!decide (r=s))):=by
 have e:decide (([r.num,(r.den:Int)]:List Int)=[s.num,(s.den:Int)])=decide (r=s):=by
  by_cases c:r=s
  ·subst c;simp
  ·rw [decide_eq_false c,decide_eq_false]
   intro z
   simp only [List.cons.injEq,and_true,Int.natCast_inj] at z
   exact c (Rat.ext z.1 z.2)
 rw [<- e]
 exact zrF [r.num,(r.den:Int)] [s.num,(s.den:Int)]
theorem zuO:(PyData.tuple [.int 0,.int 1]:D)=num 0:=rfl
theorem zhe{s:Sm}{w:List Int}{q:Rat}(hl:s.length+1<=lim)(h1:QR.Bd 40000 ((zaR s w).getD 0))(h2:QR.Bd 40000 q):zc5 [dct s,tp w,num q]=.ok (.none,[dct (zcH s w q),tp w,num q]):=by
 have kd:zfm (dct s)=.ok ((s.map ent).map (·.1)):=rfl
 have p1:=zsO h1 h2 (by decide)
 generalize hm:(zaR s w).getD 0+q=m at p1
 have s1:zaL (gN 2) (zag zpH (zaa (zf1 0 (eV 1) (eC (.tuple [(.int 0),(.int 1)]))) (zaa (eV 2) zah))) [.ow true (dct s),.val (tp w),.val (num q)]=.ok (.nx,[.ow true (dct s),.val (tp w),.val (num m)]):=by
  rw [zuO]
  simp only [zaL,zag,zaa,zah,zf1,zaw,eV,eC,gN,zac,zz0,zz1,List.set_cons_zero,List.set_cons_succ,kd,ziV,p1]
 have nd:neD (num m) (num 0)=.ok (.bool (!decide (m=0))):=zom m 0
 have fin:∀{s':Sm},(sIf (tB (e2 neD (eV 2) (eC (.tuple [(.int 0),(.int 1)])))) (zfu 0 (eV 1) (eV 2)) (sIf (tB (m2r inD (eV 1) 0)) (zlk 0 (eV 1)) sNx)) [.ow true (dct s),.val (tp w),.val (num m)]=.ok (.nx,[.ow true (dct s'),.val (tp w),.val (num m)])->zc5 [dct s,tp w,num q]=.ok (.none,[dct s',tp w,num q]):=fun{s'} e=>by
  show(zeD [.ow true (dct s),.val (tp w),.val (num q)]).bind _=_
  unfold zeD
  rw [zai s1,e]
  rfl
 unfold zcH
 rw [hm]
 by_cases c:m=0
 ·rw [if_neg (by simpa using c)]
  have nd':neD (num m) (num 0)=.ok (.bool false):=by rw [nd,decide_eq_true c];rfl
  by_cases c2:(zaR s w).isSome=true
  ·rw [if_pos c2]
   refine fin ?_
   rw [zuO]
   simp only [sIf,tB,FL.e2,m2r,zlk,zaw,za4,eV,eC,zac,zz0,zz1,List.set_cons_zero,List.set_cons_succ,nd',zoT,c2,zmp c2,Bool.false_eq_true,if_false,if_true]
  ·rw [if_neg c2]
   have c3:(zaR s w).isSome=false:=by simpa using c2
   refine fin ?_
   rw [zuO]
   simp only [sIf,tB,FL.e2,m2r,sNx,zaw,za4,eV,eC,zac,zz0,zz1,List.set_cons_zero,List.set_cons_succ,nd',zoT,c3,Bool.false_eq_true,if_false,if_true]
 ·rw [if_pos c]
  have nd':neD (num m) (num 0)=.ok (.bool true):=by rw [nd,decide_eq_false c];rfl
  refine fin ?_
  rw [zuO]
  simp only [sIf,tB,FL.e2,zfu,zaw,za4,eV,eC,zac,zz0,zz1,List.set_cons_zero,List.set_cons_succ,nd',ze2 hl,Bool.false_eq_true,if_false,if_true]
def Nk(s:Sm):Prop:=(s.map (·.1)).Nodup
theorem zdY{s:Sm}{w:List Int}{q:Rat}(h:zaR s w=some q):(w,q)∈s:=by
 unfold zaR at h
 rw [Option.map_eq_some_iff] at h
 obtain⟨p,e,rfl⟩:=h
 have h1:=List.mem_of_find?_eq_some e
 have h2:=List.find?_some e
 have:p.1=w:=by simpa using h2
 subst this;exact h1
theorem zc9:∀{s:Sm} {p:List Int×Rat},Nk s->p∈s->zaR s p.1=some p.2
 | [],p,_,h=>by simp at h
 | a::r,p,nk,h=>by
  unfold Nk at nk
  rw [List.map_cons,List.nodup_cons] at nk
  unfold zaR
  rw [List.find?_cons]
  rcases List.mem_cons.mp h with rfl|h
  ·simp
  ·have:a.1≠p.1:=fun z=>nk.1 (by rw [z];exact List.mem_map.mpr ⟨p,h,rfl⟩)
   rw [decide_eq_false this]
   exact zc9 (s:=r) nk.2 h
theorem zjz{s:Sm}{w:List Int}(h:zaR s w=none):∀ p∈s,p.1≠w:=fun p hp z=>by
 unfold zaR at h
 rw [Option.map_eq_none_iff,List.find?_eq_none] at h
 exact h p hp (by simpa using z)
theorem zty(s:Sm)(w:List Int):(s.any fun p=>decide (p.1=w))=(zaR s w).isSome:=by
 unfold zaR
 rw [Option.isSome_map,List.isSome_find?]
theorem zjy{s:Sm}{w:List Int}{q:Rat}(nk:Nk s):Nk (zdv s w q):=by
 unfold zdv
 rw [zty]
 split
 ·unfold Nk
  rw [List.map_map]
  have:(fun p:List Int×Rat=>p.1)∘(fun p=>if p.1=w then(p.1,q) else p)=fun p=>p.1:=by
   funext p
   show(if p.1=w then(p.1,q) else p).1=p.1
   split <;> rfl
  rw [this];exact nk
 ·rename_i c
  have c':zaR s w=none:=by simpa using c
  unfold Nk
  rw [List.map_append,List.nodup_append]
  refine⟨nk,by simp,fun a ha b hb=>?_⟩
  have:b=w:=by simpa using hb
  subst this
  obtain⟨p,hp,rfl⟩:=List.mem_map.mp ha
  exact zjz c' p hp
theorem zmH{s:Sm}{w:List Int}(nk:Nk s):Nk (zdF s w):=List.Nodup.sublist (List.Sublist.map _ List.filter_sublist) nk
theorem zeP{s:Sm}{w:List Int}{q:Rat}(nk:Nk s):Nk (zcH s w q):=by
 unfold zcH
 split
 ·exact zjy nk
 ·split
  ·exact zmH nk
  ·exact nk
theorem zeN{s:Sm}{w:List Int}{q:Rat}{p:List Int×Rat}(h:p∈zdv s w q):p∈s\/p=(w,q):=by
 unfold zdv at h
 split at h
 ·obtain⟨x,hx,rfl⟩:=List.mem_map.mp h
  by_cases c:x.1=w
  ·rw [if_pos c];right;rw [c]
  ·rw [if_neg c];exact .inl hx
 ·rcases List.mem_append.mp h with h|h
  ·exact .inl h
  ·exact .inr (by simpa using h)
theorem zlL(s:Sm)(w:List Int)(q:Rat):(zdv s w q).length<=s.length+1:=by
 unfold zdv
 split
 ·rw [List.length_map];omega
 ·rw [List.length_append];simp
theorem zf9(s:Sm)(w:List Int)(q:Rat):(zcH s w q).length<=s.length+1:=by
 unfold zcH
 split
 ·exact zlL _ _ _
 ·split
  ·exact Nat.le_succ_of_le (List.length_filter_le ..)
  ·omega
theorem zeO{s:Sm}{w:List Int}{q:Rat}{p:List Int×Rat}(h:p∈zcH s w q):p∈s\/p=(w,(zaR s w).getD 0+q):=by
 unfold zcH at h
 split at h
 ·exact zeN h
 ·split at h
  ·exact .inl (List.mem_filter.mp h).1
  ·exact .inl h
structure znn(P:Nat->Rat->Prop)(Q:Rat->Prop)(N:Nat):Prop where
 z:∀ i,P i 0
 up:∀ i r,P i r->P (i+1) r
 add:∀ i r q,P i r->Q q->P (i+1) (r+q)
 bp:∀ i r,i<=N->P i r->QR.Bd 40000 r
 bq:∀ q,Q q->QR.Bd 40000 q
structure Fit(P:Nat->Rat->Prop)(i:Nat)(s:Sm):Prop where
 nk:Nk s
 sz:∀ p∈s,P i p.2
theorem Fit.get{P:Nat->Rat->Prop}{Q:Rat->Prop}{N i:Nat}(g:znn P Q N){s:Sm}(f:Fit P i s)(w:List Int):P i ((zaR s w).getD 0):=by
 cases e:zaR s w with
 | none=>exact g.z i
 | some q=>exact f.sz _ (zdY e)
theorem Fit.add{P:Nat->Rat->Prop}{Q:Rat->Prop}{N i:Nat}(g:znn P Q N){s:Sm}(f:Fit P i s)(w:List Int){q:Rat}(hq:Q q):Fit P (i+1) (zcH s w q):=by
 refine⟨zeP f.nk,fun p hp=>?_⟩
 rcases zeO hp with h|h
 ·exact g.up _ _ (f.sz p h)
 ·subst h;exact g.add _ _ _ (f.get g w) hq
theorem zfS{P:Nat->Rat->Prop}{Q:Rat->Prop}{N i:Nat}(g:znn P Q N){s:Sm}(f:Fit P i s)(hi:i<=N)(hl:s.length+1<=lim)(w:List Int){q:Rat}(hq:Q q) :
  zc5 [dct s,tp w,num q]=.ok (.none,[dct (zcH s w q),tp w,num q]):=zhe hl (g.bp _ _ hi (f.get g w)) (g.bq _ hq)
end
section
theorem zdp{F:List D->R (D×List D)}{i:Nat}{f h:EF}{ρ:En}{p:Bool}{d v u r d' v' u':D}(hi:ρ[i]?=some (.ow p d))(hf:f ρ=.ok (v,ρ))(hh:h ρ=.ok (u,ρ))(hF:F [d,v,u]=.ok (r,[d',v',u'])):zao F [.m i,.v f,.v h] ρ=.ok (r,ρ.set i (.ow p d')):=by
 have hm:zaw ρ i=.ok d:=by unfold zaw;rw [hi]
 unfold zao
 simp only [zjm,hm,zac,hf,hh,zhz,hF]
 have:=zlm (d:=d) (d':=d') (p:=p) ρ 0 i hi
 rw [Nat.zero_add] at this
 show R.ok (r,bkL [(i,.ow true d')] 0 ρ)=_
 rw [this]
def inW(p1:List Int×Rat)(t acc:Sm):Sm:=t.foldl (fun a p=>zcH a (p1.1++p.1) (p1.2*p.2)) acc
theorem zgf(p1:List Int×Rat)(t acc:Sm)(x:List Int×Rat):inW p1 (t++[x]) acc=zcH (inW p1 t acc) (p1.1++x.1) (p1.2*x.2):=by simp [inW]
theorem zdh(t:Sm):zfm (dct t)=.ok (t.map fun p=>tp p.1):=by
 show R.ok ((t.map ent).map (·.1))=_
 rw [List.map_map];rfl
theorem zr3{v w:List Int}(h:v.length+w.length<=lim):zaV (tp v) (tp w)=.ok (tp (v++w)):=by
 show chk (leB ((v.map PyData.int).length+(w.map PyData.int).length) lim) _=_
 rw [zav (zeU (by simpa using h))]
 show R.ok (PyData.tuple (v.map PyData.int++w.map PyData.int))=R.ok (PyData.tuple ((v++w).map PyData.int))
 rw [List.map_append]
def zcS(q:Rat)(t acc:Sm):Sm:=t.foldl (fun a p=>zcH a p.1 (q*p.2)) acc
theorem zeM(q:Rat)(t acc:Sm)(x:List Int×Rat):zcS q (t++[x]) acc=zcH (zcS q t acc) x.1 (q*x.2):=by simp [zcS]
theorem zkv{P:Nat->Rat->Prop}{Q:Rat->Prop}{N i:Nat}(g:znn P Q N){t acc:Sm}{q:Rat}(nt:Nk t)(hQ:∀ p∈t,Q (q*p.2))(b1:QR.Bd 40000 q)(b2:∀ p∈t,QR.Bd 40000 p.2)
  (f:Fit P i acc)(hi:i+t.length<=N)(hl:acc.length+t.length+1<=lim):zhm [dct acc,num q,dct t]=.ok (.none,[dct (zcS q t acc),num q,dct t])/\Fit P (i+t.length) (zcS q t acc)/\(zcS q t acc).length<=acc.length+t.length:=by
 have L:=zbg (f:=fun p:List Int×Rat=>tp p.1) (g:=gN 3) (b:=zcL)
  (fun done ρ=>∃ y,Np y/\ρ=[.ow true (dct (zcS q done acc)),.val (num q),.val (dct t),y]/\Fit P (i+done.length) (zcS q done acc)/\(zcS q done acc).length<=acc.length+done.length)
  t [] [.ow true (dct acc),.val (num q),.val (dct t),.no] ⟨.no,zbm,rfl,f,Nat.le_refl _⟩ (by
   intro pre x post ρ e hP
   obtain⟨y,hy,rfl,fp,hlp⟩:=hP
   rw [List.nil_append] at e
   have mx:x∈t:=by rw [e];simp
   have hlen:pre.length+1<=t.length:=by rw [e];simp
   have gx:gN 3 (tp x.1) [.ow true (dct (zcS q pre acc)),.val (num q),.val (dct t),y]=.ok [.ow true (dct (zcS q pre acc)),.val (num q),.val (dct t),.val (tp x.1)]:=zeY rfl hy
   have a1:(eV 3) [.ow true (dct (zcS q pre acc)),.val (num q),.val (dct t),.val (tp x.1)]=.ok (tp x.1,[.ow true (dct (zcS q pre acc)),.val (num q),.val (dct t),.val (tp x.1)]):=rfl
   have a2:(zag zji (zaa (eV 1) (zaa (e2 zfc (eV 2) (eV 3)) zah))) [.ow true (dct (zcS q pre acc)),.val (num q),.val (dct t),.val (tp x.1)]=.ok (num (q*x.2),[.ow true (dct (zcS q pre acc)),.val (num q),.val (dct t),.val (tp x.1)]):=by
    have d2:=zeE (zc9 nt mx)
    have tm:=zlF b1 (b2 x mx) (by decide)
    simp only [zag,zaa,zah,FL.e2,eV,zac,zz0,zz1,d2,tm]
   have fx:=zfS g fp (by omega) (by omega) x.1 (hQ x mx)
   refine⟨[.ow true (dct (zcS q (pre++[x]) acc)),.val (num q),.val (dct t),.val (tp x.1)],.nx,?_,.inl rfl,.val (tp x.1),zaA _,rfl,?_,?_⟩
   ·rw [gx,zac]
    unfold zcL sE
    rw [zdp (p:=true) (d:=dct (zcS q pre acc)) rfl a1 a2 fx,zeM]
    rfl
   ·rw [zeM,List.length_append,List.length_singleton,<- Nat.add_assoc]
    exact fp.add g _ (hQ x mx)
   ·rw [zeM,List.length_append,List.length_singleton]
    exact Nat.le_trans (zf9 _ _ _) (by omega))
 obtain⟨ρ',e,y,hy,rfl,fp,hlp⟩:=L
 refine⟨?_,fp,hlp⟩
 have hi:(iD (eV 2)) [.ow true (dct acc),.val (num q),.val (dct t),.no]=.ok (t.map fun p=>tp p.1,[.ow true (dct acc),.val (num q),.val (dct t),.no]):=by
  simp only [iD,eV,zac,zz0,zz1,zdh]
 have s2:zcA [.ow true (dct acc),.val (num q),.val (dct t),.no]=.ok (.nx,[.ow true (dct (zcS q t acc)),.val (num q),.val (dct t),y]):=by
  unfold zcA zel zep
  rw [hi,zac]
  exact e
 show(zcA [.ow true (dct acc),.val (num q),.val (dct t),.no]).bind _=_
 rw [s2]
 rfl
def Iv(M:Nat)(r:Rat):Prop:=r.den=1/\r.num.natAbs<=M
theorem Iv.eq{M:Nat}{r:Rat}(h:Iv M r):r=(r.num:Rat):=by
 refine Rat.ext (by simp) ?_
 rw [h.1];simp
end
section
theorem zeq{k n:Nat}{b:SF}{ds:List D}{ρ:En}{d:D}(hl:ds.length=k)(h:b (slots (List.replicate k false) ds++List.replicate (n-ds.length) .no)=.ok (.rt d,ρ)):zbj false k n b ds=.ok d:=by
 unfold zbj FL.run
 rw [if_pos (by rw [List.length_replicate];exact hl),h]
 rfl
theorem zb9{k n:Nat}{b:SF}{ds:List D}{ρ:En}{d:D}(hl:ds.length=k)(h:b (slots (List.replicate k false) ds++List.replicate (n-ds.length) .no)=.ok (.rf d,ρ)):zbj true k n b ds=.ok d:=by
 unfold zbj FL.run
 rw [if_pos (by rw [List.length_replicate];exact hl),h]
 rfl
def kyS(p:List Int×Rat):WK:=((p.1.length:Int),p.1)
def zpN(x:List Int×Rat):Sm->Sm
 | []=>[x]
 | y::r=>if ltW (kyS y) (kyS x)=true then y::zpN x r else x::y::r
def zbz:Sm->Sm
 | []=>[]
 | x::r=>zpN x (zbz r)
def kyD(p:List Int×Rat):WK×D:=(kyS p,tp p.1)
theorem zmf(x:List Int×Rat):∀ l:Sm,zoS (kyD x) (l.map kyD)=(zpN x l).map kyD
 | []=>rfl
 | y::r=>by
  rw [List.map_cons]
  unfold zoS zpN
  show(if ltW (kyS y) (kyS x)=true then _ else _)=_
  split
  ·rw [zmf x r];rfl
  ·rfl
theorem zjw:∀ l:Sm,zfK (l.map kyD)=(zbz l).map kyD
 | []=>rfl
 | x::r=>by
  show zoS (kyD x) (zfK (r.map kyD))=_
  rw [zjw r,zmf]
  rfl
theorem zgL(x:List Int×Rat):∀ l:Sm,(zpN x l).Perm (x::l)
 | []=>.refl _
 | y::r=>by
  unfold zpN
  split
  ·exact((zgL x r).cons y).trans (.swap x y r)
  ·exact .refl _
theorem zax:∀ l:Sm,(zbz l).Perm l
 | []=>.refl _
 | x::r=>(zgL x _).trans ((zax r).cons x)
theorem zl0(w:List Int):zaS [tp w]=.ok (.tuple [.int (w.length:Int),tp w]):=by
 have l2:leB 2 lim=true:=by decide
 have e:zdg (tp w)=.ok (.int (w.length:Int)):=by
  show R.ok (PyData.int ((w.map PyData.int).length:Int))=_
  rw [List.length_map]
 have e3:zdj [.val (tp w)]=.ok (.rt (.tuple [.int (w.length:Int),tp w]),[.val (tp w)]):=by
  unfold zdj
  simp only [zaD,zaP,zaa,zah,FL.e1,eV,zac,zz0,e,List.length_cons,List.length_nil,zav l2]
 exact zeq (k:=1) (n:=1) (ds:=[tp w]) rfl e3
theorem zjR:∀ s:Sm,zgE zaS (s.map fun p=>tp p.1)=.ok (s.map kyS)
 | []=>rfl
 | p::r=>by
  rw [List.map_cons]
  unfold zgE
  rw [zl0,zac]
  have:zpR (.tuple [.int (p.1.length:Int),tp p.1])=some (kyS p):=by
   show(intsOf (p.1.map PyData.int)).map _=_
   rw [zhT];rfl
  rw [this]
  show(zgE zaS (r.map fun p=>tp p.1)).bind _=_
  rw [zjR r];rfl
theorem zsg{s:Sm}(nk:Nk s)(hl:s.length<64):zeL zaS (dct s)=.ok (.list ((zbz s).map fun p=>tp p.1)):=by
 unfold zeL
 rw [zdh,zac,zav (zeU (by rw [List.length_map];exact hl)),zjR,zac]
 have nd:(s.map kyS).Nodup:=by
  have h:∀ l:Sm,Nk l->(l.map kyS).Nodup:=by
   intro l
   induction l with
   | nil=>intro _;exact List.nodup_nil
   | cons p r ih =>
    intro h
    unfold Nk at h
    rw [List.map_cons,List.nodup_cons] at h
    rw [List.map_cons,List.nodup_cons]
    refine⟨fun z=>h.1 ?_,ih h.2⟩
    obtain⟨q,hq,e⟩:=List.mem_map.mp z
    exact List.mem_map.mpr ⟨q,hq,(Prod.mk.inj e).2⟩
  exact h s nk
 rw [zav (decide_eq_true nd)]
 have hz:(s.map kyS).zip (s.map fun p=>tp p.1)=s.map kyD:=by
  rw [List.zip_map'];rfl
 rw [hz,zjw,List.map_map]
 rfl
def tln(p:List Int×Rat):D:=.tuple [tp p.1,num p.2]
def zxF:R D->D
 | .ok d=>d
 | _=>.none
theorem zsb{s:Sm}(nk:Nk s)(hl:s.length<64):zeb [dct s]=.ok (.list ((zbz s).map tln)):=by
 have so:=zsg nk hl
 have hlen:(zbz s).length=s.length:=(zax s).length_eq
 have q:zcg [.val (dct s)]=.ok (.list ((zbz s).map tln),[.val (dct s)]):=by
  unfold zcg
  rw [zgQ (items:=(zbz s).map fun p=>tp p.1) (fun x=>.tuple [x,zxF (zfc (dct s) x)])]
  ·rw [List.map_map]
   congr 2
   congr 1
   refine List.map_congr_left fun p hp=>?_
   have mp:p∈s:=(zax s).mem_iff.mp hp
   show PyData.tuple [tp p.1,zxF (zfc (dct s) (tp p.1))]=_
   rw [zeE (zc9 nk mp)];rfl
  ·simp only [iE,FL.e1,eV,zac,zz0,so,zhR]
  ·rw [List.length_map,hlen];unfold lim;omega
  ·intro x hx
   obtain⟨p,hp,rfl⟩:=List.mem_map.mp hx
   have mp:p∈s:=(zax s).mem_iff.mp hp
   have d1:=zeE (zc9 nk mp)
   have l2:leB 2 lim=true:=by decide
   refine⟨[.val (tp p.1),.val (dct s)],rfl,?_,?_⟩
   ·simp only [zaP,zaa,zah,FL.e2,eV,zac,zz0,zz1,d1,List.length_cons,List.length_nil,zav l2]
    rfl
   ·exact zgj (fun i p d e=>by
     revert e
     simp only [List.drop_succ_cons,List.drop_zero,List.zip_cons_cons,List.zip_nil_left,List.lookup_cons,List.lookup_nil]
     split <;> (intro e;cases e)) _ 0
 show((zaU [.val (dct s)]).bind _).bind _=_
 unfold zaU zaD
 rw [q]
 rfl
end
section
def zcd:EF:=(ze0 1 [0,1] (iD (eV 0)) (gN 0) (tB (e2 eqD (e1 zdg (eV 0)) (eV 2))) (eV 0) (e2 zfc (eV 1) (eV 0)))
def zbK:SF:=(zbc zcd)
def zc2:List D->R D:=zbj true 2 2 zbK
def zdL:SF:=(zgq (zdD 3) (tB (e2 neD (eV 3) (eC (.int 0)))) (zgr 2 3 (eV 3) (e2 zgd (eV 2) (eV 3))))
def zfq:SF:=(zat (zaL (gN 2) (e1 zpA (eV 0)))
  (zat (zaL (gN 3) (eV 1))
  (zat zdL
  (zaD (zaP (zaa (e2 zaG (eV 0) (eV 2)) (zaa (e2 zaG (eV 1) (eV 2)) zah)))))))
def zct:List D->R D:=zbj false 2 4 zfq
def zle:SF:=(zaD (zaP (zaa (e1 zdg (eV 0)) (zaa (eV 0) zah))))
def znj:List D->R D:=zbj false 1 1 zle
def zdN:SF:=(zat (sIf (FL.tOr (FL.zen (tE (e1 (zdK "tuple") (eV 0)))) (tB (e2 neD (e1 zdg (eV 0)) (eC (.int 2))))) (zaD (eC (.bool false))) sNx)
  (zat (zaL (gT [(gN 1),(gN 2)]) (eV 0))
  (zat (sIf (FL.tOr (FL.zen (tE (zag zc4 (zaa (eV 1) zah)))) (FL.tOr (FL.zen (tE (zag zc4 (zaa (eV 2) zah)))) (tB (e2 ltD (eV 2) (eC (.int 1)))))) (zaD (eC (.bool false))) sNx)
  (zaD (e2 eqD (zag zak (zaa (eV 1) (zaa (eV 2) zah))) (eC (.int 1)))))))
def zhl:List D->R D:=zbj false 1 3 zdN
def zdM:EF:=(zdm 1 [1] (iE (eV 0)) (gN 0) zc8 (zm4 (zag zc4 (zaa (eV 0) zah)) (ze1 leD ltD (eC (.int 0)) (eV 0) (eV 1))))
def zhY:SF:=(zat (sIf (FL.tOr (FL.zen (tE (e1 (zdK "tuple") (eV 0)))) (tB (e2 gtD (e1 zdg (eV 0)) (eC (.int 5))))) (zaD (eC (.bool false))) sNx)
  (zaD (e1 zv1 zdM)))
def zhj:List D->R D:=zbj false 2 2 zhY
def zeB:SF:=(zaD (zag zct (zaa (e2 zaV (e2 zbS (e2 ixD (eV 0) (eC (.int 0))) (e2 ixD (eV 1) (eC (.int 1)))) (e2 zbS (e2 ixD (eV 1) (eC (.int 0))) (e2 ixD (eV 0) (eC (.int 1))))) (zaa (e2 zbS (e2 ixD (eV 0) (eC (.int 1))) (e2 ixD (eV 1) (eC (.int 1)))) zah))))
def zc3:List D->R D:=zbj false 2 2 zeB
def zgO:SF:=(zaD (zag zct (zaa (e2 zbS (e2 ixD (eV 0) (eC (.int 0))) (e2 ixD (eV 1) (eC (.int 0)))) (zaa (e2 zbS (e2 ixD (eV 0) (eC (.int 1))) (e2 ixD (eV 1) (eC (.int 1)))) zah))))
def zmA:List D->R D:=zbj false 2 2 zgO
def zfr:SF:=(zat (sIf (FL.tOr (FL.zen (tE (e1 (zdK "tuple") (eV 0)))) (tB (e2 neD (e1 zdg (eV 0)) (eC (.int 2))))) (zaD (eC (.bool false))) sNx)
  (zaD (zm4 (zag zhj (zaa (e2 ixD (eV 0) (eC (.int 0))) (zaa (eV 1) zah))) (zm4 (zag zhl (zaa (e2 ixD (eV 0) (eC (.int 1))) zah)) (e2 neD (e2 ixD (eV 0) (eC (.int 1))) (eC (.tuple [(.int 0),(.int 1)])))))))
def zhk:List D->R D:=zbj false 2 2 zfr
def zbf:SF:=(zat (zaL (gN 1) (zao zfY [.m 0,.v (eC (.int 5))]))
  (zat (sIf (tB (e2 ltD (eV 1) (eC (.int 3)))) (zaD (e2 ixD (zcR (zaa (zaP (zaa (eC (.int 0)) (zaa (eC (.int 1)) zah))) (zaa (zaP (zaa (eC (.int 1)) (zaa (eC (.int 1)) zah))) (zaa (zaP (zaa (e1 zrE (eC (.int 1))) (zaa (eC (.int 1)) zah))) zah)))) (eV 1))) sNx)
  (zat (sIf (tB (e2 eqD (eV 1) (eC (.int 3)))) (zaD (zaP (zaa (e2 zhr (zao zfY [.m 0,.v (eC (.int 13))]) (eC (.int 6))) (zaa (eC (.int 1)) zah)))) sNx)
  (zaD (zag zct (zaa (e2 zhr (zao zfY [.m 0,.v (e2 zaV (e2 zbS (eC (.int 2)) (e2 zhI (eC (.int 10)) (eC (.int 3)))) (eC (.int 1)))]) (e2 zhI (eC (.int 10)) (eC (.int 3)))) (zaa (e2 zaV (eC (.int 1)) (zao zfY [.m 0,.v (eC (.int 9))])) zah)))))))
def zbb:List D->R (D×List D):=run [true] false 2 zbf
def zfp:SF:=(zat (zfu 0 (eV 1) (zag zc3 (zaa (zf1 0 (eV 1) (zaP (zaa (eC (.int 0)) (zaa (eC (.int 1)) zah)))) (zaa (eV 2) zah))))
  (sIf (tB (e2 eqD (e2 ixD (m2 zfc 0 (eV 1)) (eC (.int 0))) (eC (.int 0)))) (zpj 0 (eV 1)) sNx))
def zkG:List D->R (D×List D):=run [true,false,false] false 3 zfp
def zdk:SF:=(zat (sIf (FL.zen (tE (zag zhk (zaa (eV 1) (zaa (eV 2) zah))))) (zaD (eC (.bool false))) sNx)
  (zaD (eOr (e2 isD (eV 0) (eC .none)) (e2 zuX (zag zaS (zaa (e2 ixD (eV 0) (eC (.int 0))) zah)) (zag zaS (zaa (e2 ixD (eV 1) (eC (.int 0))) zah))))))
def zdS:List D->R D:=zbj false 3 3 zdk
def zhW:EF:=(zdm 1 [0] (iE (e1 (zeL zaS) (eV 0))) (gN 0) zc8 (zaP (zaa (eV 0) (zaa (e2 zfc (eV 1) (eV 0)) zah))))
def ziY:SF:=(zbc zhW)
def zpG:List D->R D:=zbj true 1 1 ziY
def ziT:EF:=(zdm 1 [0] (iE (e1 (zeL znj) (eV 0))) (gN 0) zc8 (zaP (zaa (eV 0) (zaa (e2 zfc (eV 1) (eV 0)) zah))))
def zld:SF:=(zbc ziT)
def zic:List D->R D:=zbj true 1 1 zld
def zcf:SF:=(zat (sIf (FL.zen (tE (zag zdS (zaa (eV 2) (zaa (eV 4) (zaa (eV 1) zah)))))) znL sNx)
  (zaL (gN 2) (eV 4)))
def zdi:SF:=(zep (zvV (zaa (eV 0) zah)) (gT [(gN 3),(gN 4)]) zcf)
def zeX:EF:=(ze0 2 [] (iE (eV 0)) (gT [(gN 0),(gN 1)]) zc8 (eV 0) (eV 1))
def zeC:SF:=(zat (zaL (gN 2) (eC .none))
  (zat zdi
  (zbc zeX)))
def zid:List D->R D:=zbj true 2 5 zeC
end
section
theorem zk3(t:Int){b n:Nat}(hb:b≠0)(hl:b<2^n)(hn:n<=90000000):zct [.int t,.int b]=.ok (.tuple [.int (Q1.fr t (b:Int)).1,.int (Q1.fr t (b:Int)).2]):=by
 have gS:=zj8 (a:=t) hb hl
 have s1:zaL (gN 2) (FL.e1 zpA (eV 0)) [.val (.int t),.val (.int b),.no,.no]=.ok (.nx,[.val (.int t),.val (.int b),.val (.int (t.natAbs:Int)),.no]):=by
  simp only [zaL,FL.e1,eV,zz0,zac,zmy,gN,zz1,List.set_cons_succ,List.set_cons_zero]
 have s2:zaL (gN 3) (eV 1) [.val (.int t),.val (.int b),.val (.int (t.natAbs:Int)),.no]=.ok (.nx,[.val (.int t),.val (.int b),.val (.int (t.natAbs:Int)),.val (.int b)]):=rfl
 have s3:zdL [.val (.int t),.val (.int b),.val (.int (t.natAbs:Int)),.val (.int b)]=.ok (.nx,[.val (.int t),.val (.int b),.val (.int ((Int.gcd t (b:Int):Nat):Int)),.val (.int 0)]):=by
  unfold zdL zgq
  have:zdD 3 [.val (.int t),.val (.int b),.val (.int (t.natAbs:Int)),.val (.int b)]=b+1:=by
   show((b:Int)).natAbs+1=_
   simp
  rw [this]
  exact ziX _ _ _ _ _ (by omega)
 have k1:zaG (.int t) (.int ((Int.gcd t (b:Int):Nat):Int))=.ok (.int (t / ((Int.gcd t (b:Int):Nat):Int))):=zcM gS.1 gS.2 hn
 have k2:zaG (.int b) (.int ((Int.gcd t (b:Int):Nat):Int))=.ok (.int ((b:Int) / ((Int.gcd t (b:Int):Nat):Int))):=zcM gS.1 gS.2 hn
 have l2:leB 2 lim=true:=by decide
 show((zfq [.val (.int t),.val (.int b),.no,.no]).bind _).bind _=_
 unfold zfq
 rw [zai s1,zai s2,zai s3]
 simp only [zaD,zaP,zaa,FL.e2,eV,zz0,zac,zz1,k1,zah,k2,List.length_cons,List.length_nil,Nat.reduceAdd,zav l2,List.replicate,outs,outD]
 rw [Q1.zrS (by omega)]
theorem zuZ(t:Int){b n:Nat}(hb:b≠0)(hl:b<2^n)(hn:n<=90000000):zct [.int t,.int b]=.ok (num (Rat.normalize t b hb)):=by
 rw [zk3 t hb hl hn,QR.norm hb]
 rfl
theorem lx0(a b:Int):ixD (.tuple [.int a,.int b]) (.int 0)=.ok (.int a):=rfl
theorem lx1(a b:Int):ixD (.tuple [.int a,.int b]) (.int 1)=.ok (.int b):=rfl
theorem zqD{r s:Rat}{n:Nat}(hr:QR.Bd n r)(hs:QR.Bd n s)(hn:n<=40000000):zc3 [num r,num s]=.ok (num (r+s)):=by
 have br:=zko hr
 have bs:=zko hs
 have k1:zbS (.int r.num) (.int (s.den:Int))=.ok (.int (r.num*(s.den:Int))):=za0 br.1 bs.2 (by omega)
 have k2:zbS (.int s.num) (.int (r.den:Int))=.ok (.int (s.num*(r.den:Int))):=za0 bs.1 br.2 (by omega)
 have k3:zbS (.int (r.den:Int)) (.int (s.den:Int))=.ok (.int ((r.den:Int)*(s.den:Int))):=za0 br.2 bs.2 (by omega)
 have ad:∀(a b:Int),zaV (.int a) (.int b)=.ok (.int (a+b)):=fun _ _=>rfl
 have nz:r.den*s.den≠0:=Nat.mul_ne_zero r.den_nz s.den_nz
 have k4:zct [.int (r.num*(s.den:Int)+s.num*(r.den:Int)),.int ((r.den:Int)*(s.den:Int))]=.ok (num (r+s)):=by
  have:=zk3 (r.num*(s.den:Int)+s.num*(r.den:Int)) nz (QR.zl5 hr.2 hs.2) (by omega)
  rw [Int.natCast_mul] at this
  rw [this,QR.add]
  rfl
 refine zeq (ρ:=[.val (num r),.val (num s)]) rfl ?_
 show zeB [.val (num r),.val (num s)]=.ok (_,[.val (num r),.val (num s)])
 unfold zeB num
 simp only [zaD,zag,zaa,FL.e2,eV,zz0,eC,zac,lx0,zz1,lx1,k1,k2,ad,zah,k3,k4]
 rfl
theorem zrK{r s:Rat}{n:Nat}(hr:QR.Bd n r)(hs:QR.Bd n s)(hn:n<=40000000):zmA [num r,num s]=.ok (num (r*s)):=by
 have br:=zko hr
 have bs:=zko hs
 have k1:zbS (.int r.num) (.int s.num)=.ok (.int (r.num*s.num)):=za0 br.1 bs.1 (by omega)
 have k3:zbS (.int (r.den:Int)) (.int (s.den:Int))=.ok (.int ((r.den:Int)*(s.den:Int))):=za0 br.2 bs.2 (by omega)
 have nz:r.den*s.den≠0:=Nat.mul_ne_zero r.den_nz s.den_nz
 have k4:zct [.int (r.num*s.num),.int ((r.den:Int)*(s.den:Int))]=.ok (num (r*s)):=by
  have:=zk3 (r.num*s.num) nz (QR.zl5 hr.2 hs.2) (by omega)
  rw [Int.natCast_mul] at this
  rw [this,QR.mul]
  rfl
 refine zeq (ρ:=[.val (num r),.val (num s)]) rfl ?_
 show zgO [.val (num r),.val (num s)]=.ok (_,[.val (num r),.val (num s)])
 unfold zgO num
 simp only [zaD,zag,zaa,FL.e2,eV,zz0,eC,zac,lx0,zz1,k1,zah,lx1,k3,k4]
 rfl
theorem zmG{s:Sm}{w:List Int}(h:zaR s w=none):zdF s w=s:=List.filter_eq_self.mpr fun p hp=>by simpa using zjz h p hp
theorem zml(w:List Int)(q:Rat):∀ s:Sm,(s.any fun p=>decide (p.1=w))=true->(s.map fun p=>if p.1=w then(p.1,q) else p).find? (fun p=>decide (p.1=w))=some (w,q)
 | [],h=>by simp at h
 | x::r,h=>by
  rw [List.map_cons]
  by_cases e:x.1=w
  ·rw [if_pos e,List.find?_cons_of_pos (by simpa using e),e]
  ·rw [if_neg e,List.find?_cons_of_neg (by simpa using e)]
   refine zml w q r ?_
   simpa only [List.any_cons,e,decide_false,Bool.false_or] using h
theorem zlM(s:Sm)(w:List Int)(q:Rat):zaR (zdv s w q) w=some q:=by
 unfold zdv
 cases h:s.any fun p=>decide (p.1=w) with
 | true =>
  rw [if_pos rfl]
  unfold zaR
  rw [zml w q s h]
  rfl
 | false =>
  rw [if_neg (by simp)]
  unfold zaR
  rw [List.find?_append]
  have:s.find? (fun p=>decide (p.1=w))=none:=by
   rw [List.find?_eq_none]
   intro x hx
   have:=List.any_eq_false.mp h x hx
   simpa using this
  simp [this]
theorem zi3(w:List Int)(q:Rat):∀ s:Sm,(s.map fun p=>if p.1=w then(p.1,q) else p).filter (fun p=>decide (p.1≠w))=s.filter fun p=>decide (p.1≠w)
 | []=>rfl
 | x::r=>by
  rw [List.map_cons]
  by_cases e:x.1=w
  ·rw [if_pos e,List.filter_cons_of_neg (by simpa using e),List.filter_cons_of_neg (by simpa using e),zi3 w q r]
  ·rw [if_neg e,List.filter_cons_of_pos (by simpa using e),List.filter_cons_of_pos (by simpa using e),zi3 w q r]
theorem znK(s:Sm)(w:List Int)(q:Rat):zdF (zdv s w q) w=zdF s w:=by
 unfold zdv
 split
 ·exact zi3 w q s
 ·unfold zdF
  simp
theorem zpY(s:Sm)(w:List Int)(q:Rat):zcH s w q=if(zaR s w).getD 0+q=0 then zdF (zdv s w ((zaR s w).getD 0+q)) w else zdv s w ((zaR s w).getD 0+q):=by
 unfold zcH
 by_cases e:(zaR s w).getD 0+q=0
 ·rw [if_neg (by simpa using e),if_pos e,znK]
  cases h:zaR s w with
  | none=>rw [zmG h];rfl
  | some x=>rfl
 ·rw [if_pos e,if_neg e]
theorem zqx(r:Rat):eqD (.int r.num) (.int 0)=.ok (.bool (decide (r=0))):=by
 rw [zi1]
 congr 2
 rw [decide_eq_decide]
 exact Rat.num_eq_zero
theorem zk2{s:Sm}{w:List Int}{q:Rat}(hl:s.length+1<=lim)(h1:QR.Bd 40000 ((zaR s w).getD 0))(h2:QR.Bd 40000 q):zkG [dct s,tp w,num q]=.ok (.none,[dct (zcH s w q),tp w,num q]):=by
 have k1:zc3 [num ((zaR s w).getD 0),num q]=.ok (num ((zaR s w).getD 0+q)):=zqD h1 h2 (by decide)
 have t0:(chk (leB 2 lim) (.ok (PyData.tuple [.int 0,.int 1])):R D)=.ok (num 0):=rfl
 have s1:zfu 0 (eV 1) (zag zc3 (zaa (zf1 0 (eV 1) (zaP (zaa (eC (.int 0)) (zaa (eC (.int 1)) zah)))) (zaa (eV 2) zah))) [.ow true (dct s),.val (tp w),.val (num q)]=.ok (.nx,[.ow true (dct (zdv s w ((zaR s w).getD 0+q))),.val (tp w),.val (num q)]):=by
  have g2:zf1 0 (eV 1) (zaP (zaa (eC (.int 0)) (zaa (eC (.int 1)) zah))) [.ow true (dct s),.val (tp w),.val (num q)]=.ok (num ((zaR s w).getD 0),[.ow true (dct s),.val (tp w),.val (num q)]):=by
   have kd:zfm (dct s)=.ok (s.map fun p=>tp p.1):=zdh s
   show((zfm (dct s)).bind fun _=>((chk (leB 2 lim) (.ok (PyData.tuple [.int 0,.int 1])):R D).bind fun d=>.ok (d,_)).bind fun b=>(ziW (dct s) (tp w) b.1).bind fun d=>.ok (d,b.2))=_
   rw [kd,t0]
   show(ziW (dct s) (tp w) (num 0)).bind _=_
   rw [ziV]
   rfl
  generalize zf1 0 (eV 1) (zaP (zaa (eC (.int 0)) (zaa (eC (.int 1)) zah)))=M at g2
  have f1:zag zc3 (zaa M (zaa (eV 2) zah)) [.ow true (dct s),.val (tp w),.val (num q)]=.ok (num ((zaR s w).getD 0+q),[.ow true (dct s),.val (tp w),.val (num q)]):=by
   unfold zag
   rw [show zaa M (zaa (eV 2) zah) [.ow true (dct s),.val (tp w),.val (num q)]=.ok ([num ((zaR s w).getD 0),num q],[.ow true (dct s),.val (tp w),.val (num q)]) by unfold zaa;rw [g2];rfl,zac,k1]
   rfl
  unfold zfu
  rw [f1]
  have dp:=ze2 (w:=w) (q:=(zaR s w).getD 0+q) hl
  simp only [zaw,eV,za4,zac,zz0,zz1,List.set_cons_zero,dp]
 have x1:zfc (dct (zdv s w ((zaR s w).getD 0+q))) (tp w)=.ok (num ((zaR s w).getD 0+q)):=zeE (zlM _ _ _)
 generalize hz:(zaR s w).getD 0+q=z at *
 have s2:sIf (tB (e2 eqD (e2 ixD (m2 zfc 0 (eV 1)) (eC (.int 0))) (eC (.int 0)))) (zpj 0 (eV 1)) sNx [.ow true (dct (zdv s w z)),.val (tp w),.val (num q)]=.ok (.nx,[.ow true (dct (zcH s w q)),.val (tp w),.val (num q)]):=by
  have ct:tB (e2 eqD (e2 ixD (m2 zfc 0 (eV 1)) (eC (.int 0))) (eC (.int 0))) [.ow true (dct (zdv s w z)),.val (tp w),.val (num q)]=.ok (decide (z=0),[.ow true (dct (zdv s w z)),.val (tp w),.val (num q)]):=by
   have e1':e2 eqD (e2 ixD (m2 zfc 0 (eV 1)) (eC (.int 0))) (eC (.int 0)) [.ow true (dct (zdv s w z)),.val (tp w),.val (num q)]=.ok (.bool (decide (z=0)),[.ow true (dct (zdv s w z)),.val (tp w),.val (num q)]):=by
    show((((zfc (dct (zdv s w z)) (tp w)).bind fun d=>.ok (d,_)).bind fun(x:D×En)=>(ixD x.1 (.int 0)).bind fun d=>.ok (d,x.2)).bind fun(x:D×En)=>(eqD x.1 (.int 0)).bind fun d=>.ok (d,x.2))=_
    rw [x1,zac,zac,show ixD (num z) (.int 0)=.ok (.int z.num) from rfl,zac,zac,zqx]
    rfl
   unfold tB
   rw [e1']
   rfl
  unfold sIf
  rw [ct,zac,zpY,hz]
  by_cases e:z=0
  ·rw [if_pos (by simpa using e),if_pos e]
   have pm:zm7 (dct (zdv s w z)) (tp w)=.ok (dct (zdF (zdv s w z) w)):=zmp (by rw [zlM];rfl)
   have kd:zfm (dct (zdv s w z))=.ok ((zdv s w z).map fun p=>tp p.1):=zdh _
   simp only [zpj,zaw,zz0,zfm,eV,zz1,za4,zac,List.set_cons_zero,pm]
   rfl
  ·rw [if_neg (by simpa using e),if_neg e]
   rfl
 show((zfp [.ow true (dct s),.val (tp w),.val (num q)]).bind _)=_
 unfold zfp
 rw [zai s1,s2]
 rfl
end
section
def told(s:Sm):D:=.list ((zbz s).map tln)
theorem zlE{s:Sm}(nk:Nk s)(hl:s.length<64):zpG [dct s]=.ok (told s):=by
 have h:=zsb nk hl
 cases e:zcg [.val (dct s)] with
 | bad =>
  have:zeb [dct s]=.bad:=by
   show((zaU [.val (dct s)]).bind _).bind _=_
   unfold zaU zaD;rw [e];rfl
  rw [h] at this;cases this
 | err c f =>
  have:zeb [dct s]=.err c f:=by
   show((zaU [.val (dct s)]).bind _).bind _=_
   unfold zaU zaD;rw [e];rfl
  rw [h] at this;cases this
 | ok x =>
  obtain⟨d,ρ'⟩:=x
  have:zeb [dct s]=.ok d:=by
   show((zaU [.val (dct s)]).bind _).bind _=_
   unfold zaU zaD;rw [e];rfl
  rw [h] at this
  cases this
  refine zb9 (ρ:=ρ') rfl ?_
  show ziY [.val (dct s)]=_
  unfold ziY zbc
  rw [show zhW [.val (dct s)]=.ok _ from e]
  rfl
theorem ziF{s:Sm}(nk:Nk s)(hl:s.length<64):zic [dct s]=.ok (told s):=zlE nk hl
theorem zft{α:Type}{k:Nat}{ix:List Nat}{g:GF}{t:TF}{kf vf:EF}{ρ:En}{f:α->D}(all:List α)(P:List α->D->Prop)
  (st:∀ done x rest acc,all=done++x::rest->P done acc->∃ acc',P (done++[x]) acc'/\∀ tail,zem k ix g t kf vf (f x::tail) ρ acc=zem k ix g t kf vf tail ρ acc'):∀(xs done:List α) (acc:D),all=done++xs->P done acc ->
  ∃ acc',P all acc'/\zem k ix g t kf vf (xs.map f) ρ acc=.ok (acc',ρ)
 | [],done,acc,ha,h=>⟨acc,by rw [ha];simpa using h,rfl⟩
 | x::r,done,acc,ha,h=>by
  obtain⟨a1,h1,e1'⟩:=st done x r acc ha h
  obtain⟨a2,h2,e2'⟩:=zft all P st r (done++[x]) a1 (by rw [ha];simp) h1
  refine⟨a2,h2,?_⟩
  rw [List.map_cons,e1',e2']
theorem zlK{s:Sm}{w:List Int}{q:Rat}(h:∀ p∈s,p.1≠w):zdv s w q=s++[(w,q)]:=by
 unfold zdv
 rw [if_neg]
 simp only [List.any_eq_true,decide_eq_true_eq,not_exists,not_and]
 exact h
theorem zrD{s t:Sm}(h:Nk (s++t)):∀ p∈s,∀ q∈t,p.1≠q.1:=by
 unfold Nk at h
 rw [List.map_append,List.nodup_append] at h
 intro p hp q hq
 exact h.2.2 _ (List.mem_map_of_mem hp) _ (List.mem_map_of_mem hq)
theorem zqY(l:Nat)(done:Sm)(x:List Int×Rat):(done++[x]).filter (fun p=>decide (p.1.length=l))=if x.1.length=l then done.filter (fun p=>decide (p.1.length=l))++[x] else done.filter fun p=>decide (p.1.length=l):=by
 rw [List.filter_append]
 by_cases e:x.1.length=l
 ·rw [if_pos e,List.filter_cons_of_pos (by simpa using e)];rfl
 ·rw [if_neg e,List.filter_cons_of_neg (by simpa using e)];simp
theorem zpW{s:Sm}(nk:Nk s)(hl:s.length+1<=lim)(l:Nat):zc2 [dct s,.int l]=.ok (dct (s.filter fun p=>decide (p.1.length=l))):=by
 have bk:back [.val (dct s),.val (.int l)] [0,1] [.val (dct s),.val (.int l)]=[.val (dct s),.val (.int l)]:=rfl
 obtain⟨acc',ha,he⟩:=zft (k:=1) (ix:=[0,1]) (g:=gN 0) (t:=tB (e2 eqD (e1 zdg (eV 0)) (eV 2))) (kf:=eV 0) (vf:=e2 zfc (eV 1) (eV 0)) (ρ:=[.val (dct s),.val (.int l)]) (f:=fun p:List Int×Rat=>tp p.1) s
  (fun done acc=>acc=dct (done.filter fun p=>decide (p.1.length=l))) (fun done x rest acc hs hacc=>by
   subst hacc
   have mx:x∈s:=by rw [hs];simp
   have d1:zfc (dct s) (tp x.1)=.ok (num x.2):=zeE (zc9 nk mx)
   have ct:tB (e2 eqD (e1 zdg (eV 0)) (eV 2)) [.val (tp x.1),.val (dct s),.val (.int l)]=.ok (decide (x.1.length=l),[.val (tp x.1),.val (dct s),.val (.int l)]):=by
    have:eqD (.int ((x.1.map PyData.int).length:Int)) (.int l)=.ok (.bool (decide (x.1.length=l))):=by
     rw [zi1,List.length_map]
     congr 2
     rw [decide_eq_decide];omega
    show((eqD (.int ((x.1.map PyData.int).length:Int)) (.int l)).bind fun d=>.ok (d,_)).bind _=_
    rw [this]
    rfl
   refine⟨_,rfl,fun tail=>?_⟩
   rw [zem]
   rw [show gN 0 (tp x.1) (blk 1 [0,1] [.val (dct s),.val (.int l)])=.ok [.val (tp x.1),.val (dct s),.val (.int l)] from rfl,zac,ct,zac,zqY]
   by_cases e:x.1.length=l
   ·rw [if_pos (by simpa using e),if_pos e]
    have dp:zke (dct (done.filter fun p=>decide (p.1.length=l))) (tp x.1) (num x.2)=.ok (dct (done.filter (fun p=>decide (p.1.length=l))++[x])):=by
     rw [ze2 (by have:=List.length_filter_le (fun p:List Int×Rat=>decide (p.1.length=l)) done;rw [hs] at hl;simp at hl;omega),zlK]
     intro p hp
     exact zrD (s:=done) (t:=x::rest) (by rw [<- hs];exact nk) p (List.mem_filter.mp hp).1 x (List.mem_cons_self ..)
    have v1:e2 zfc (eV 1) (eV 0) [.val (tp x.1),.val (dct s),.val (.int l)]=.ok (num x.2,[.val (tp x.1),.val (dct s),.val (.int l)]):=by
     simp only [FL.e2,eV,zac,zz0,zz1,d1]
    simp only [show eV 0 [.val (tp x.1),.val (dct s),.val (.int l)]=.ok (tp x.1,[.val (tp x.1),.val (dct s),.val (.int l)]) from rfl,zac,v1,dp]
    rfl
   ·rw [if_neg (by simpa using e),if_neg e]
    rfl) s [] (.dict []) rfl rfl
 subst ha
 refine zb9 (ρ:=[.val (dct s),.val (.int l)]) rfl ?_
 show zbK [.val (dct s),.val (.int l)]=_
 unfold zbK zbc zcd ze0
 have hi:iD (eV 0) [.val (dct s),.val (.int l)]=.ok (s.map fun p=>tp p.1,[.val (dct s),.val (.int l)]):=by
  simp only [iD,eV,zac,zz0,zdh]
 rw [hi,zac,he]
 rfl
theorem zsn(w:List Int){c:Int}(hw:w.length<=5)(h:∀ x∈w,0<=x/\x<c):zdM [Sl.val (tp w),Sl.val (.int c)]=.ok (.list ((w.map fun _=>true).map PyData.bool),[Sl.val (tp w),Sl.val (.int c)]):=by
 have wh:∀ i:Int,zc4 [.int i]=.ok (.bool true):=fun _=>rfl
 unfold zdM
 rw [zgQ (items:=w.map PyData.int) (fun x=>.bool true)]
 ·rw [List.map_map,List.map_map];rfl
 ·simp only [iE,eV,zz0,zhR,zac]
 ·rw [List.length_map];unfold lim;omega
 ·intro x hx
  obtain⟨i,hi,rfl⟩:=List.mem_map.mp hx
  obtain⟨h0,h4⟩:=h i hi
  refine⟨[.val (.int i),.val (.int c)],?_,?_,?_⟩
  ·simp only [gN,blk,List.replicate,List.map_cons,zz1,zz0,Option.getD_some,List.map_nil,List.cons_append,List.nil_append,List.set_cons_zero]
  ·simp only [zm4,zag,zaa,eV,zz0,zah,zac,wh,ze1,eC,zoC,decide_eq_true h0,zz1,ziG,decide_eq_true h4]
  ·simp only [back,bkL,bk1]
theorem zqO(w:List Int){c:Int}(hw:w.length<=5)(h:∀ x∈w,0<=x/\x<c):zhj [tp w,.int c]=.ok (.bool true):=by
 have k1:zdK "tuple" (tp w)=.ok (.bool true):=rfl
 have k2:decide ((5:Int)<w.length)=false:=decide_eq_false (by omega)
 simp only [zhj,zbj,FL.run,List.length_cons,List.length_nil,Nat.reduceAdd,List.replicate,zhY,zat,sIf,FL.tOr,FL.zen,tE,FL.e1,eV,slots,Bool.false_eq_true,if_false,Nat.sub_self,List.cons_append,List.nil_append,zz0,zac,k1,zkJ,Bool.not_true,tB,FL.e2,zdg,eC,List.length_map,zo1,k2,zaD,sNx,zsn w hw h,zrk,List.all_map,outs,outD,if_true]
 simp
theorem zth(r:Rat):zhl [num r]=.ok (.bool true):=by
 have k1:zdK "tuple" (num r)=.ok (.bool true):=rfl
 have wh:∀ i:Int,zc4 [.int i]=.ok (.bool true):=fun _=>rfl
 have k3:ltD (.int (r.den:Int)) (.int 1)=.ok (.bool false):=by
  rw [ziG];congr 2
  have:=r.den_nz
  exact decide_eq_false (by omega)
 have k4:zak [.int r.num,.int (r.den:Int)]=.ok (.int 1):=by
  rw [zj7];congr 2
  have:=(QR.low r).cop
  omega
 have k5:neD (.int 2) (.int 2)=.ok (.bool false):=by rw [zgy];rfl
 have k6:eqD (.int 1) (.int 1)=.ok (.bool true):=by rw [zi1];rfl
 have k7:gT [gN 1,gN 2] (num r) [.val (num r),.no,.no]=.ok [.val (num r),.val (.int r.num),.val (.int (r.den:Int))]:=rfl
 refine zeq (ρ:=[.val (num r),.val (.int r.num),.val (.int (r.den:Int))]) rfl ?_
 show zdN [.val (num r),.no,.no]=_
 unfold zdN
 have s1:sIf (FL.tOr (FL.zen (tE (FL.e1 (zdK "tuple") (eV 0)))) (tB (FL.e2 neD (FL.e1 zdg (eV 0)) (eC (.int 2))))) (zaD (eC (.bool false))) sNx [.val (num r),.no,.no]=.ok (.nx,[.val (num r),.no,.no]):=by
  have l2:zdg (num r)=.ok (.int 2):=rfl
  simp only [sIf,FL.tOr,FL.zen,tE,tB,FL.e1,FL.e2,eV,eC,sNx,zac,zz0,k1,l2,k5,zkJ,Bool.not_true,Bool.false_eq_true,if_false,if_true]
 have s2:zaL (gT [gN 1,gN 2]) (eV 0) [.val (num r),.no,.no]=.ok (.nx,[.val (num r),.val (.int r.num),.val (.int (r.den:Int))]):=rfl
 rw [zai s1,zai s2]
 simp only [zat,sIf,FL.tOr,FL.zen,tE,zag,zaa,eV,zz1,zz0,zah,zac,wh,zkJ,Bool.not_true,tB,FL.e2,eC,Bool.false_eq_true,k3,if_false,zaD,sNx,k4,k6]
end
section
structure Wok(c:Int)(p:List Int×Rat):Prop where
 ln:p.1.length<=5
 lt:∀ x∈p.1,0<=x/\x<c
 nz:p.2≠0
theorem zqP{c:Int}{p:List Int×Rat}(h:Wok c p):zhk [tln p,.int c]=.ok (.bool true):=by
 have k1:zdK "tuple" (tln p)=.ok (.bool true):=rfl
 have k2:zdg (tln p)=.ok (.int 2):=rfl
 have k3:neD (.int 2) (.int 2)=.ok (.bool false):=by rw [zgy];rfl
 have k4:ixD (tln p) (.int 0)=.ok (tp p.1):=rfl
 have k5:ixD (tln p) (.int 1)=.ok (num p.2):=rfl
 have k6:neD (num p.2) (.tuple [.int 0,.int 1])=.ok (.bool true):=by
  rw [zuO,zom,decide_eq_false h.nz];rfl
 have s1:sIf (FL.tOr (FL.zen (tE (FL.e1 (zdK "tuple") (eV 0)))) (tB (FL.e2 neD (FL.e1 zdg (eV 0)) (eC (.int 2))))) (zaD (eC (.bool false))) sNx [.val (tln p),.val (.int c)]=.ok (.nx,[.val (tln p),.val (.int c)]):=by
  simp only [sIf,FL.tOr,FL.zen,tE,tB,FL.e1,FL.e2,eV,eC,sNx,zac,zz0,k1,k2,k3,zkJ,Bool.not_true,Bool.false_eq_true,if_false,if_true]
 refine zeq (ρ:=[.val (tln p),.val (.int c)]) rfl ?_
 show zfr [.val (tln p),.val (.int c)]=_
 unfold zfr
 rw [zai s1]
 simp only [zaD,zm4,zag,zaa,zah,FL.e2,eV,eC,zac,zz0,zz1,k4,k5,zqO p.1 h.ln h.lt,zth,k6,zkJ,if_true]
theorem zlz(w:List Int)(q:Rat):zpR (.tuple [.int (w.length:Int),tp w])=some (kyS (w,q)):=by
 show(intsOf (w.map PyData.int)).map _=_
 rw [zhT];rfl
inductive zrn(p:List Int×Rat):D->Prop where
 | none:zrn p .none
 | some (p':List Int×Rat):ltW (kyS p') (kyS p)=true->zrn p (tln p')
theorem zk0{c:Int}{p:List Int×Rat}{a:D}(h:Wok c p)(ha:zrn p a):zdS [a,tln p,.int c]=.ok (.bool true):=by
 have s1:sIf (FL.zen (tE (zag zhk (zaa (eV 1) (zaa (eV 2) zah))))) (zaD (eC (.bool false))) sNx [.val a,.val (tln p),.val (.int c)]=.ok (.nx,[.val a,.val (tln p),.val (.int c)]):=by
  simp only [sIf,FL.zen,tE,zag,zaa,zah,eV,eC,sNx,zac,zz0,zz1,zqP h,zkJ,Bool.not_true,Bool.false_eq_true,if_false]
 refine zeq (ρ:=[.val a,.val (tln p),.val (.int c)]) rfl ?_
 show zdk [.val a,.val (tln p),.val (.int c)]=_
 unfold zdk
 rw [zai s1]
 have k4:∀ p,ixD (tln p) (.int 0)=.ok (tp p.1):=fun _=>rfl
 cases ha with
 | none =>
  have i1:isD (.none:D) .none=.ok (.bool true):=rfl
  simp only [zaD,eOr,FL.e2,eV,eC,zac,zz0,i1,zkJ,if_true]
 | some p' hlt =>
  have i1:isD (tln p') .none=.ok (.bool false):=rfl
  have lw:zuX (.tuple [.int (p'.1.length:Int),tp p'.1]) (.tuple [.int (p.1.length:Int),tp p.1])=.ok (.bool true):=by
   unfold zuX
   rw [zlz p'.1 p'.2,zlz p.1 p.2]
   show R.ok (PyData.bool (ltW (kyS p') (kyS p)))=_
   rw [hlt]
  simp only [zaD,eOr,FL.e2,eV,eC,zag,zaa,zah,zac,zz0,zz1,i1,zkJ,Bool.false_eq_true,if_false,k4,zl0,lw]
def cs0:Cs:={ C:=fun _=>none,st:=by simp }
def Asc(s:Sm):Prop:=s.Pairwise fun p q=>ltW (kyS p) (kyS q)=true
theorem zs9{p q:List Int×Rat}(h:kyS p=kyS q):p.1=q.1:=(Prod.mk.inj h).2
theorem zjO{p q:List Int×Rat}(h:p.1≠q.1)(h2:ltW (kyS q) (kyS p)=false):ltW (kyS p) (kyS q)=true:=by
 cases e:ltW (kyS p) (kyS q) with
 | true=>rfl
 | false =>
  rw [@zhN cs0] at e h2
  exact absurd (zs9 (@zox cs0 _ _ e h2)) h
theorem zov{p q r:List Int×Rat}(h:p.1≠r.1)(h1:ltW (kyS p) (kyS q)=true)(h2:ltW (kyS q) (kyS r)=true):ltW (kyS p) (kyS r)=true:=by
 refine zjO h ?_
 rw [@zhN cs0] at h1 h2 ⊢
 exact L2.zow _ _ _ (L2.zhO _ _ h1) (L2.zhO _ _ h2)
theorem zmg(x:List Int×Rat):∀ l:Sm,Asc l->(∀ p∈l,p.1≠x.1)->Asc (zpN x l)
 | [],_,_=>by simp [zpN,Asc]
 | y::r,h,hn=>by
  unfold Asc at h
  rw [List.pairwise_cons] at h
  unfold zpN
  by_cases c:ltW (kyS y) (kyS x)=true
  ·rw [if_pos c]
   unfold Asc
   rw [List.pairwise_cons]
   refine⟨fun z hz=>?_,zmg x r h.2 fun p hp=>hn p (List.mem_cons_of_mem _ hp)⟩
   rcases List.mem_cons.mp ((zgL x r).mem_iff.mp hz) with e|e
   ·subst e;exact c
   ·exact h.1 z e
  ·rw [if_neg c]
   have yx:=zjO (fun e=>hn y (List.mem_cons_self ..) e.symm) (by simpa using c)
   unfold Asc
   rw [List.pairwise_cons,List.pairwise_cons]
   refine⟨fun z hz=>?_,h.1,h.2⟩
   rcases List.mem_cons.mp hz with e|e
   ·subst e;exact yx
   ·exact zov (fun z'=>hn z (List.mem_cons_of_mem _ e) z'.symm) yx (h.1 z e)
theorem zbF:∀{s:Sm},Nk s->Asc (zbz s)
 | [],_=>by simp [zbz,Asc]
 | x::r,h=>by
  unfold Nk at h
  rw [List.map_cons,List.nodup_cons] at h
  show Asc (zpN x (zbz r))
  refine zmg x _ (zbF h.2) fun p hp e=>h.1 ?_
  rw [<- e]
  exact List.mem_map_of_mem ((zax r).mem_iff.mp hp)
theorem zkt:∀{s:Sm},Asc s->Nk s
 | [],_=>List.nodup_nil
 | x::r,h=>by
  unfold Asc at h
  rw [List.pairwise_cons] at h
  unfold Nk
  rw [List.map_cons,List.nodup_cons]
  refine⟨fun z=>?_,zkt h.2⟩
  obtain⟨q,hq,e⟩:=List.mem_map.mp z
  have h1:=h.1 q hq
  have:kyS x=kyS q:=by unfold kyS;rw [e]
  rw [this,@zhN cs0] at h1
  exact absurd (L2.zhO _ _ h1) (by rw [h1];simp)
theorem zj5{c:Int}(L:D):∀(t:Sm) (i:Nat) (a:D) (x3 x4:Sl),Asc t->(∀ p∈t,Wok c p)->(∀ p,t.head?=some p->zrn p a)->(x3=.no\/∃ d,x3=.val d)->(x4=.no\/∃ d,x4=.val d) ->
  ∃ a' x3' x4',forL (gT [gN 3,gN 4]) zcf (zf5 i (t.map tln)) [.val L,.val (.int c),.val a,x3,x4]=.ok (.nx,[.val L,.val (.int c),.val a',x3',x4'])
 | [],i,a,x3,x4,_,_,_,_,_=>⟨a,x3,x4,rfl⟩
 | p::r,i,a,x3,x4,ha,hw,hh,h3,h4=>by
  have hp:=hw p (List.mem_cons_self ..)
  unfold Asc at ha
  rw [List.pairwise_cons] at ha
  obtain⟨a',x3',x4',ih⟩:=zj5 L r (i+1) (tln p) (.val (.int i)) (.val (tln p)) ha.2 (fun q hq=>hw q (List.mem_cons_of_mem _ hq)) (fun q hq=>.some p (ha.1 q (by
   cases r with
   | nil=>cases hq
   | cons y z=>cases hq;exact List.mem_cons_self ..))) (.inr ⟨_,rfl⟩) (.inr ⟨_,rfl⟩)
  refine⟨a',x3',x4',?_⟩
  have g1:gT [gN 3,gN 4] (.tuple [.int i,tln p]) [.val L,.val (.int c),.val a,x3,x4]=.ok [.val L,.val (.int c),.val a,.val (.int i),.val (tln p)]:=by
   rcases h3 with rfl|⟨d3,rfl⟩ <;> rcases h4 with rfl|⟨d4,rfl⟩ <;> rfl
  have b1:zcf [.val L,.val (.int c),.val a,.val (.int i),.val (tln p)]=.ok (.nx,[.val L,.val (.int c),.val (tln p),.val (.int i),.val (tln p)]):=by
   unfold zcf
   have s1:sIf (FL.zen (tE (zag zdS (zaa (eV 2) (zaa (eV 4) (zaa (eV 1) zah)))))) znL sNx [.val L,.val (.int c),.val a,.val (.int i),.val (tln p)]=.ok (.nx,[.val L,.val (.int c),.val a,.val (.int i),.val (tln p)]):=by
    simp only [sIf,FL.zen,tE,zag,zaa,zah,eV,sNx,zac,zz0,zz1,zk0 hp (hh p rfl),zkJ,Bool.not_true,Bool.false_eq_true,if_false]
   rw [zai s1]
   rfl
  show forL _ _ (.tuple [.int i,tln p]::zf5 (i+1) (r.map tln)) _=_
  rw [forL,g1,zac,b1,zac]
  exact ih
theorem zoX{c:Int}{t:Sm}(ha:Asc t)(hw:∀ p∈t,Wok c p)(hl:t.length+1<=lim):zid [.list (t.map tln),.int c]=.ok (dct t):=by
 have nk:=zkt ha
 obtain⟨a',x3',x4',lp⟩:=zj5 (c:=c) (.list (t.map tln)) t 0 .none .no .no ha hw (fun p _=>.none) (.inl rfl) (.inl rfl)
 have s2:zdi [.val (.list (t.map tln)),.val (.int c),.val .none,.no,.no]=.ok (.nx,[.val (.list (t.map tln)),.val (.int c),.val a',x3',x4']):=by
  unfold zdi zep
  rw [show zvV (zaa (eV 0) zah) [.val (.list (t.map tln)),.val (.int c),.val .none,.no,.no]=.ok (zf5 0 (t.map tln),[.val (.list (t.map tln)),.val (.int c),.val .none,.no,.no]) from rfl,zac]
  exact lp
 have bk:∀(ρ cs:En),back ρ [] cs=ρ:=fun ρ cs=>by
  unfold back
  rw [List.zip_nil_left]
  exact zgj (fun i p d z=>by simp at z) ρ 0
 obtain⟨acc',hacc,he⟩:=zft (k:=2) (ix:=[]) (g:=gT [gN 0,gN 1]) (t:=zc8) (kf:=eV 0) (vf:=eV 1) (ρ:=[.val (.list (t.map tln)),.val (.int c),.val a',x3',x4']) (f:=tln) t
  (fun done acc=>acc=dct done) (fun done x rest acc hs hacc=>by
   subst hacc
   refine⟨_,rfl,fun tail=>?_⟩
   have dp:zke (dct done) (tp x.1) (num x.2)=.ok (dct (done++[x])):=by
    rw [ze2 (by rw [hs] at hl;simp at hl;omega),zlK]
    intro p hp
    exact zrD (s:=done) (t:=x::rest) (by rw [<- hs];exact nk) p hp x (List.mem_cons_self ..)
   rw [zem,show gT [gN 0,gN 1] (tln x) (blk 2 [] [.val (.list (t.map tln)),.val (.int c),.val a',x3',x4'])=.ok [.val (tp x.1),.val (num x.2)] from rfl,zac,show zc8 [.val (tp x.1),.val (num x.2)]=.ok (true,[.val (tp x.1),.val (num x.2)]) from rfl,zac,if_pos rfl]
   simp only [show eV 0 [.val (tp x.1),.val (num x.2)]=.ok (tp x.1,[.val (tp x.1),.val (num x.2)]) from rfl,show eV 1 [.val (tp x.1),.val (num x.2)]=.ok (num x.2,[.val (tp x.1),.val (num x.2)]) from rfl,zac,dp,bk]) t [] (.dict []) rfl rfl
 subst hacc
 refine zb9 (ρ:=[.val (.list (t.map tln)),.val (.int c),.val a',x3',x4']) rfl ?_
 show zeC [.val (.list (t.map tln)),.val (.int c),.no,.no,.no]=_
 unfold zeC
 rw [zai (show zaL (gN 2) (eC .none) [.val (.list (t.map tln)),.val (.int c),.no,.no,.no]=.ok (.nx,[.val (.list (t.map tln)),.val (.int c),.val .none,.no,.no]) from rfl),zai s2]
 unfold zbc zeX ze0
 rw [show iE (eV 0) [.val (.list (t.map tln)),.val (.int c),.val a',x3',x4']=.ok (t.map tln,[.val (.list (t.map tln)),.val (.int c),.val a',x3',x4']) from rfl,zac,he]
 rfl
end
section
def ev(f:List Int->Rat)(s:Sm):Rat:=(s.map fun p=>f p.1*p.2).sum
def Eqv(s t:Sm):Prop:=∀ f,ev f s=ev f t
def Nz(s:Sm):Prop:=∀ p∈s,p.2≠0
theorem zcX(f:List Int->Rat):ev f []=0:=rfl
theorem zas(f:List Int->Rat)(p:List Int×Rat)(s:Sm):ev f (p::s)=f p.1*p.2+ev f s:=by simp [ev]
theorem ztn(f:List Int->Rat){s t:Sm}(h:s.Perm t):ev f s=ev f t:=by
 induction h with
 | nil=>rfl
 | cons x _ ih=>rw [zas,zas,ih]
 | swap x y l=>rw [zas,zas,zas,zas];grind
 | trans _ _ a b=>rw [a,b]
theorem zpa(f:List Int->Rat)(w:List Int):∀{s:Sm},Nk s->ev f (zdF s w)=ev f s-f w*(zaR s w).getD 0
 | [],_=>by show ev f []=_;rw [zcX];show(0:Rat)=0-f w*0;grind
 | p::s,nk=>by
  unfold Nk at nk
  rw [List.map_cons,List.nodup_cons] at nk
  have ih:=zpa f w (s:=s) nk.2
  by_cases c:p.1=w
  ·subst c
   have e1:zdF (p::s) p.1=s:=by
    unfold zdF
    rw [List.filter_cons_of_neg (by simp)]
    exact List.filter_eq_self.mpr fun q hq=>by
     simp only [decide_eq_true_eq]
     exact fun z=>nk.1 (by rw [<- z];exact List.mem_map_of_mem hq)
   have e2:zaR (p::s) p.1=some p.2:=by unfold zaR;rw [List.find?_cons_of_pos (by simp)];rfl
   rw [e1,e2,zas]
   show ev f s=f p.1*p.2+ev f s-f p.1*p.2
   grind
  ·have e1:zdF (p::s) w=p::zdF s w:=by unfold zdF;rw [List.filter_cons_of_pos (by simpa using c)]
   have e2:zaR (p::s) w=zaR s w:=by unfold zaR;rw [List.find?_cons_of_neg (by simpa using c)]
   rw [e1,e2,zas,zas,ih]
   grind
theorem zrT(f:List Int->Rat)(w:List Int)(q:Rat):∀{s:Sm},Nk s->ev f (zdv s w q)=ev f s+f w*(q-(zaR s w).getD 0)
 | [],_=>by show ev f [(w,q)]=_;rw [zas,zcX];show f w*q+0=0+f w*(q-0);grind
 | p::s,nk=>by
  unfold Nk at nk
  rw [List.map_cons,List.nodup_cons] at nk
  by_cases c:p.1=w
  ·subst c
   have e1:zdv (p::s) p.1 q=(p.1,q)::s:=by
    unfold zdv
    rw [if_pos (by simp),List.map_cons,if_pos rfl]
    congr 1
    conv=>rhs;rw [<- List.map_id s]
    exact List.map_congr_left fun x hx=>if_neg fun z=>nk.1 (by rw [<- z];exact List.mem_map_of_mem hx)
   have e2:zaR (p::s) p.1=some p.2:=by unfold zaR;rw [List.find?_cons_of_pos (by simp)];rfl
   rw [e1,e2,zas,zas]
   show f p.1*q+ev f s=f p.1*p.2+ev f s+f p.1*(q-p.2)
   grind
  ·have e1:zdv (p::s) w q=p::zdv s w q:=by
    unfold zdv
    by_cases a:(s.any fun p=>decide (p.1=w))=true
    ·rw [if_pos a,if_pos (by simp only [List.any_cons,a,Bool.or_true]),List.map_cons,if_neg c]
    ·rw [if_neg a,if_neg (by simp only [List.any_cons,decide_eq_false c,Bool.false_or];exact a)];rfl
   have e2:zaR (p::s) w=zaR s w:=by unfold zaR;rw [List.find?_cons_of_neg (by simpa using c)]
   rw [e1,e2,zas,zas,zrT f w q (s:=s) nk.2]
   grind
theorem zpb(f:List Int->Rat)(w:List Int)(q:Rat){s:Sm}(nk:Nk s):ev f (zcH s w q)=ev f s+f w*q:=by
 unfold zcH
 by_cases c:(zaR s w).getD 0+q≠0
 ·rw [if_pos c,zrT f w _ nk];grind
 ·rw [if_neg c]
  have c:(zaR s w).getD 0+q=0:=Classical.not_not.mp c
  by_cases d:(zaR s w).isSome=true
  ·rw [if_pos d,zpa f w nk];grind
  ·rw [if_neg d]
   have e:zaR s w=none:=by
    cases h:zaR s w with
    | none=>rfl
    | some _=>rw [h] at d;exact absurd rfl d
   rw [e] at c
   have c:(0:Rat)+q=0:=c
   have:q=0:=by grind
   rw [this];grind
theorem zoj(w:List Int)(q:Rat){s:Sm}(nz:Nz s):Nz (zcH s w q):=by
 intro p hp
 unfold zcH at hp
 by_cases c:(zaR s w).getD 0+q≠0
 ·rw [if_pos c] at hp
  rcases zeN hp with h|h
  ·exact nz p h
  ·subst h;exact c
 ·rw [if_neg c] at hp
  split at hp
  ·exact nz p (List.mem_filter.mp hp).1
  ·exact nz p hp
theorem zrU(f:List Int->Rat)(p:List Int×Rat):∀(t acc:Sm),Nk acc->ev f (inW p t acc)=ev f acc+ev (fun v=>f (p.1++v)) t*p.2/\Nk (inW p t acc)
 | [],acc,nk=>⟨by rw [zcX];show ev f acc=_;grind,nk⟩
 | q::t,acc,nk=>by
  obtain⟨a,b⟩:=zrU f p t (zcH acc (p.1++q.1) (p.2*q.2)) (zeP nk)
  refine⟨?_,b⟩
  show ev f (inW p t (zcH acc (p.1++q.1) (p.2*q.2)))=_
  rw [a,zpb f _ _ nk,zas]
  grind
theorem zrC(p:List Int×Rat):∀(t acc:Sm),Nz acc->Nz (inW p t acc)
 | [],acc,nz=>nz
 | q::t,acc,nz=>zrC p t _ (zoj _ _ nz)
theorem Eqv.symm{s t:Sm}(h:Eqv s t):Eqv t s:=fun f=>(h f).symm
theorem zka(w:List Int):∀{s:Sm},Nk s->ev (fun v=>if v=w then 1 else 0) s=(zaR s w).getD 0
 | [],_=>rfl
 | p::s,nk=>by
  unfold Nk at nk
  rw [List.map_cons,List.nodup_cons] at nk
  have ih:=zka w (s:=s) nk.2
  rw [zas]
  by_cases c:p.1=w
  ·subst c
   have e2:zaR (p::s) p.1=some p.2:=by unfold zaR;rw [List.find?_cons_of_pos (by simp)];rfl
   have e3:zaR s p.1=none:=by
    cases h:zaR s p.1 with
    | none=>rfl
    | some q=>exact absurd (List.mem_map_of_mem (f:=(·.1)) (zdY h)) nk.1
   rw [ih,e2,e3,if_pos rfl]
   show 1*p.2+0=p.2
   grind
  ·have e2:zaR (p::s) w=zaR s w:=by unfold zaR;rw [List.find?_cons_of_neg (by simpa using c)]
   rw [ih,e2,if_neg c]
   grind
theorem Eqv.mem{s t:Sm}(ns:Nk s)(nt:Nk t)(zs:Nz s)(h:Eqv s t){p:List Int×Rat}(hp:p∈s):p∈t:=by
 have e:=h fun v=>if v=p.1 then 1 else 0
 rw [zka _ ns,zka _ nt,zc9 ns hp] at e
 cases g:zaR t p.1 with
 | none =>
  rw [g] at e
  exact absurd e (zs p hp)
 | some q =>
  rw [g] at e
  have e:p.2=q:=e
  have:=zdY g
  rw [<- e] at this
  exact this
theorem ziE:∀{s:Sm},Nk s->s.Nodup
 | [],_=>.nil
 | p::s,nk=>by
  unfold Nk at nk
  rw [List.map_cons,List.nodup_cons] at nk
  exact List.nodup_cons.mpr ⟨fun m=>nk.1 (List.mem_map_of_mem m),ziE (s:=s) nk.2⟩
theorem zpx:∀{s t:Sm},Asc s->Asc t->s.Perm t->s=t
 | [],t,_,_,h=>(List.nil_perm.mp h).symm
 | p::s,[],_,_,h=>absurd h.length_eq (by simp)
 | p::s,q::t,hs,ht,h=>by
  have hs':=List.pairwise_cons.mp hs
  have ht':=List.pairwise_cons.mp ht
  have as:∀ x y:List Int×Rat,ltW (kyS x) (kyS y)=true->ltW (kyS y) (kyS x)=false:=fun x y h=>by
   rw [@zhN cs0] at h ⊢
   exact L2.zhO _ _ h
  have e:p=q:=by
   rcases List.mem_cons.mp (h.mem_iff.mp (List.mem_cons_self ..)) with rfl|m
   ·rfl
   ·rcases List.mem_cons.mp (h.mem_iff.mpr (List.mem_cons_self ..)) with e|m'
    ·exact e.symm
    ·have a:=as _ _ (ht'.1 p m)
     rw [hs'.1 q m'] at a
     cases a
  subst e
  rw [zpx hs'.2 ht'.2 h.cons_inv]
theorem Eqv.told{s t:Sm}(ns:Nk s)(nt:Nk t)(zs:Nz s)(zt:Nz t)(h:Eqv s t):zbz s=zbz t:=by
 have pm:s.Perm t:=(List.perm_ext_iff_of_nodup (ziE ns) (ziE nt)).mpr fun p=>⟨h.mem ns nt zs,h.symm.mem nt ns zt⟩
 exact zpx (zbF ns) (zbF nt) ((zax s).trans (pm.trans (zax t).symm))
theorem zoU(p:List Int×Rat):∀(t acc:Sm) {x:List Int×Rat},x∈inW p t acc->(∃ y∈acc,y.1=x.1)\/∃ q∈t,x.1=p.1++q.1
 | [],acc,x,h=>.inl ⟨x,h,rfl⟩
 | q::t,acc,x,h=>by
  rcases zoU p t _ h with⟨y,hy,e⟩|⟨q',hq,e⟩
  ·rcases zeO hy with m|m
   ·exact .inl ⟨y,m,e⟩
   ·exact .inr ⟨q,List.mem_cons_self ..,by rw [<- e,m]⟩
  ·exact .inr ⟨q',List.mem_cons_of_mem _ hq,e⟩
end
section
abbrev Fn:=List Int->Rat
def F5(f:Fn):Prop:=∀ w,5<w.length->f w=0
theorem F5.shift{f:Fn}(h:F5 f)(u:List Int):F5 fun v=>f (u++v):=fun w hw=>h _ (by rw [List.length_append];omega)
theorem zdl{f g:Fn}:∀{s:Sm},(∀ p∈s,f p.1=g p.1)->ev f s=ev g s
 | [],_=>rfl
 | p::s,h=>by rw [zas,zas,h p (List.mem_cons_self ..),zdl fun q hq=>h q (List.mem_cons_of_mem _ hq)]
theorem zlh{f:Fn}{s:Sm}(h:∀ p∈s,f p.1=0):ev f s=0:=by
 induction s with
 | nil=>rfl
 | cons p s ih=>rw [zas,h p (List.mem_cons_self ..),ih fun q hq=>h q (List.mem_cons_of_mem _ hq)];grind
theorem zo8(f g:Fn):∀ s:Sm,ev (fun u=>f u+g u) s=ev f s+ev g s
 | []=>by rw [zcX,zcX,zcX];grind
 | p::s=>by rw [zas,zas,zas,zo8 f g s];grind
theorem zo9(c:Rat)(f:Fn):∀ s:Sm,ev (fun u=>c*f u) s=c*ev f s
 | []=>by rw [zcX,zcX];grind
 | p::s=>by rw [zas,zas,zo9 c f s];grind
def pw(x:Sm):Nat->Fn->Rat
 | 0,f=>f []
 | k+1,f=>ev (fun u=>pw x k fun v=>f (u++v)) x
theorem zgt(x:Sm):∀(i j:Nat) (f:Fn),pw x i (fun u=>pw x j fun v=>f (u++v))=pw x (i+j) f
 | 0,j,f=>by rw [Nat.zero_add];rfl
 | i+1,j,f=>by
  rw [show i+1+j=(i+j)+1 by omega]
  show ev _ x=ev _ x
  refine zdl fun p _=>?_
  rw [<- zgt x i j fun v=>f (p.1++v)]
  simp only [List.append_assoc]
theorem zfg(x:Sm):∀(k:Nat) (f g:Fn),pw x k (fun u=>f u+g u)=pw x k f+pw x k g
 | 0,f,g=>rfl
 | k+1,f,g=>by
  show ev _ x=ev _ x+ev _ x
  rw [<- zo8]
  exact zdl fun p _=>zfg x k _ _
theorem zer(x:Sm)(c:Rat):∀(k:Nat) (f:Fn),pw x k (fun u=>c*f u)=c*pw x k f
 | 0,f=>rfl
 | k+1,f=>by
  show ev _ x=c*ev _ x
  rw [<- zo9]
  exact zdl fun p _=>zer x c k _
theorem zkS(x:Sm):∀(k:Nat) {f:Fn},(∀ w,f w=0)->pw x k f=0
 | 0,f,h=>h []
 | k+1,f,h=>zlh fun p _=>zkS x k fun w=>h _
theorem zkT{x:Sm}(hx:∀ p∈x,p.1≠[]):∀(k n:Nat) {f:Fn},n<k->(∀ w,n<w.length->f w=0)->pw x k f=0
 | k+1,0,f,_,h=>zlh fun p hp=>zkS x k fun w=>h _ (by
   have:=List.length_pos_iff.mpr (hx p hp)
   rw [List.length_append];omega)
 | k+1,n+1,f,hk,h=>zlh fun p hp=>zkT hx k n (by omega) fun w hw=>h _ (by
   have:=List.length_pos_iff.mpr (hx p hp)
   rw [List.length_append];omega)
abbrev Po:=Nat->Rat
def Lp(x:Sm)(p:Po)(f:Fn):Rat:=p 0*pw x 0 f+(p 1*pw x 1 f+(p 2*pw x 2 f+(p 3*pw x 3 f+(p 4*pw x 4 f+p 5*pw x 5 f))))
theorem ztA(x:Sm)(p:Po){f:Fn}(h:∀ w,f w=0):Lp x p f=0:=by
 unfold Lp
 simp only [zkS x _ h]
 grind
def pmu(p q:Po):Po
 | 0=>p 0*q 0
 | 1=>p 0*q 1+p 1*q 0
 | 2=>p 0*q 2+p 1*q 1+p 2*q 0
 | 3=>p 0*q 3+p 1*q 2+p 2*q 1+p 3*q 0
 | 4=>p 0*q 4+p 1*q 3+p 2*q 2+p 3*q 1+p 4*q 0
 | _=>p 0*q 5+p 1*q 4+p 2*q 3+p 3*q 2+p 4*q 1+p 5*q 0
theorem zwq{x:Sm}(q:Po)(i:Nat)(f:Fn):pw x i (fun u=>Lp x q fun v=>f (u++v))=q 0*pw x i f+(q 1*pw x (i+1) f+(q 2*pw x (i+2) f+(q 3*pw x (i+3) f+(q 4*pw x (i+4) f+q 5*pw x (i+5) f)))):=by
 unfold Lp
 rw [zfg,zfg,zfg,zfg,zfg,zer,zer,zer,zer,zer,zer,zgt,zgt,zgt,zgt,zgt,zgt]
 rfl
theorem zvO{x:Sm}(hx:∀ p∈x,p.1≠[])(p q:Po){f:Fn}(hf:F5 f):Lp x p (fun u=>Lp x q fun v=>f (u++v))=Lp x (pmu p q) f:=by
 have z:∀ k,5<k->pw x k f=0:=fun k hk=>zkT hx k 5 hk hf
 unfold Lp
 have e:=zwq (x:=x) q
 unfold Lp at e
 rw [e,e,e,e,e,e]
 simp only [Nat.reduceAdd,z 6 (by decide),z 7 (by decide),z 8 (by decide),z 9 (by decide),z 10 (by decide),pmu]
 generalize pw x 0 f=m0
 generalize pw x 1 f=m1
 generalize pw x 2 f=m2
 generalize pw x 3 f=m3
 generalize pw x 4 f=m4
 generalize pw x 5 f=m5
 grind
def Is(x:Sm)(p:Po)(s:Sm):Prop:=∀ f,F5 f->ev f s=Lp x p f
def W5(s:Sm):Prop:=∀ p∈s,p.1.length<=5
theorem Is.eqv{x:Sm}{p:Po}{s t:Sm}(hs:Is x p s)(ht:Is x p t)(ws:W5 s)(wt:W5 t):Eqv s t:=fun f=>by
 have c:∀ u:Sm,W5 u->ev f u=ev (fun w=>if w.length<=5 then f w else 0) u:=fun u hu=>zdl fun q hq=>(if_pos (hu q hq)).symm
 have h5:F5 fun w=>if w.length<=5 then f w else 0:=fun w hw=>if_neg (by omega)
 rw [c s ws,c t wt,hs _ h5,ht _ h5]
theorem Is.congr{x:Sm}{p q:Po}{s:Sm}(hs:Is x p s)(h:∀ k,k<=5->p k=q k):Is x q s:=fun f hf=>by
 rw [hs f hf]
 unfold Lp
 rw [h 0 (by decide),h 1 (by decide),h 2 (by decide),h 3 (by decide),h 4 (by decide),h 5 (by decide)]
theorem Is.perm{x:Sm}{p:Po}{s t:Sm}(hs:Is x p s)(h:s.Perm t):Is x p t:=fun f hf=>by rw [<- ztn f h];exact hs f hf
def e0(c:Rat):Po:=fun k=>if k=0 then c else 0
def pp(p:Po)(c:Rat)(q:Po):Po:=fun k=>p k+c*q k
theorem Is.nil(x:Sm):Is x (fun _=>0) []:=fun f _=>by unfold Lp;rw [zcX];grind
theorem Is.one(x:Sm):Is x (e0 1) [([],1)]:=fun f _=>by
 rw [zas,zcX]
 unfold Lp e0
 show f []*1+0=_
 simp only [pw]
 grind
theorem Is.self(x:Sm):Is x (fun k=>if k=1 then 1 else 0) x:=fun f _=>by
 unfold Lp
 have e:pw x 1 f=ev f x:=zdl fun p _=>by show f (p.1++[])=_;rw [List.append_nil]
 rw [e]
 grind
theorem Is.add{x:Sm}{p:Po}{s:Sm}(nk:Nk s)(hs:Is x p s)(c:Rat):Is x (pp p c (e0 1)) (zcH s [] c):=fun f hf=>by
 rw [zpb f [] c nk,hs f hf]
 unfold Lp pp e0
 simp only [pw]
 grind
theorem zo7(f:Fn)(c:Rat):∀(t acc:Sm),Nk acc->ev f (zcS c t acc)=ev f acc+c*ev f t/\Nk (zcS c t acc)
 | [],acc,h=>⟨by show ev f acc=_;rw [zcX];grind,h⟩
 | p::t,acc,h=>by
  obtain⟨a,b⟩:=zo7 f c t (zcH acc p.1 (c*p.2)) (zeP h)
  refine⟨?_,b⟩
  show ev f (zcS c t (zcH acc p.1 (c*p.2)))=_
  rw [a,zpb f _ _ h,zas]
  grind
theorem zrB(c:Rat):∀(t acc:Sm),Nz acc->Nz (zcS c t acc)
 | [],_,h=>h
 | p::t,acc,h=>zrB c t _ (zoj p.1 (c*p.2) h)
theorem zkL(c:Rat):∀(t acc:Sm) {q:List Int×Rat},q∈zcS c t acc->(∃ y∈acc,y.1=q.1)\/∃ y∈t,y.1=q.1
 | [],acc,q,h=>.inl ⟨q,h,rfl⟩
 | p::t,acc,q,h=>by
  rcases zkL c t (zcH acc p.1 (c*p.2)) h with⟨y,h1,h2⟩|⟨y,h1,h2⟩
  ·rcases zeO h1 with h3|h3
   ·exact .inl ⟨y,h3,h2⟩
   ·subst h3;exact .inr ⟨p,List.mem_cons_self ..,h2⟩
  ·exact .inr ⟨y,List.mem_cons_of_mem _ h1,h2⟩
theorem Is.tim{x:Sm}{p q:Po}{s t:Sm}(nk:Nk s)(hs:Is x p s)(ht:Is x q t)(c:Rat):Is x (pp p c q) (zcS c t s):=fun f hf=>by
 rw [(zo7 f c t s nk).1,hs f hf,ht f hf]
 unfold Lp pp
 grind
end
section
def zfd(n:Nat)(t:Sm):Sm:=t.filter fun q=>decide (n+q.1.length<6)
def zcb(s t:Sm):Sm:=s.foldl (fun a p=>inW p (zfd p.1.length t) a) []
theorem zkb{g:Fn}{P:List Int×Rat->Bool}:∀{t:Sm},(∀ p∈t,P p=false->g p.1=0)->ev g (t.filter P)=ev g t
 | [],_=>rfl
 | p::t,h=>by
  have ih:=zkb (t:=t) fun q hq=>h q (List.mem_cons_of_mem _ hq)
  cases e:P p with
  | true=>rw [List.filter_cons_of_pos e,zas,zas,ih]
  | false=>rw [List.filter_cons_of_neg (by simp [e]),zas,ih,h p (List.mem_cons_self ..) e];grind
theorem zi0{f:Fn}(hf:F5 f)(t:Sm):∀(s acc:Sm),Nk acc->ev f (s.foldl (fun a p=>inW p (zfd p.1.length t) a) acc)=ev f acc+ev (fun u=>ev (fun v=>f (u++v)) t) s/\Nk (s.foldl (fun a p=>inW p (zfd p.1.length t) a) acc)
 | [],acc,h=>⟨by rw [List.foldl_nil,zcX];grind,h⟩
 | p::s,acc,h=>by
  obtain⟨a,b⟩:=zrU f p (zfd p.1.length t) acc h
  obtain⟨c,d⟩:=zi0 hf t s _ b
  refine⟨?_,d⟩
  rw [List.foldl_cons,c,a,zas,show ev (fun v=>f (p.1++v)) (zfd p.1.length t)=ev (fun v=>f (p.1++v)) t from zkb fun q hq e=>hf _ (by rw [List.length_append];have:=of_decide_eq_false e;omega)]
  grind
theorem zs4(s t:Sm):Nk (zcb s t):=(zi0 (f:=fun _=>0) (fun _ _=>rfl) t s [] List.nodup_nil).2
theorem zs3(s t:Sm):Nz (zcb s t):=by
 have key:∀(s acc:Sm),Nz acc->Nz (s.foldl (fun a p=>inW p (zfd p.1.length t) a) acc):=by
  intro s
  induction s with
  | nil=>exact fun acc h=>h
  | cons p s ih=>exact fun acc h=>ih _ (zrC p _ _ h)
 exact key s [] fun p hp=>by simp at hp
theorem zms{s t:Sm}{e:List Int×Rat}(h:e∈zcb s t):∃ p∈s,∃ q∈t,e.1=p.1++q.1/\e.1.length<=5:=by
 have key:∀(s' acc:Sm) (e:List Int×Rat),(∀ e∈acc,∃ p∈s,∃ q∈t,e.1=p.1++q.1/\e.1.length<=5)->(∀ p∈s',p∈s)->e∈s'.foldl (fun a p=>inW p (zfd p.1.length t) a) acc->∃ p∈s,∃ q∈t,e.1=p.1++q.1/\e.1.length<=5:=by
  intro s'
  induction s' with
  | nil=>intro acc e ha _ he;exact ha e he
  | cons x r ih =>
   intro acc e ha hs he
   refine ih _ e (fun e' he'=>?_) (fun p hp=>hs p (List.mem_cons_of_mem _ hp)) he
   rcases zoU _ _ _ he' with⟨e'',h1,h2⟩|⟨q,h1,h2⟩
   ·rw [<- h2];exact ha e'' h1
   ·have:=of_decide_eq_true (List.mem_filter.mp h1).2
    exact⟨x,hs x (List.mem_cons_self ..),q,(List.mem_filter.mp h1).1,h2,by rw [h2,List.length_append];omega⟩
 exact key s [] e (fun _ h=>by simp at h) (fun _ h=>h) h
theorem Is.mul{x:Sm}(hx:∀ p∈x,p.1≠[]){p q:Po}{s t:Sm}(hs:Is x p s)(ht:Is x q t):Is x (pmu p q) (zcb s t):=fun f hf=>by
 have e:=(zi0 hf t s [] List.nodup_nil).1
 rw [zcX] at e
 rw [show zcb s t=s.foldl (fun a p=>inW p (zfd p.1.length t) a) [] from rfl,e,show ev (fun u=>ev (fun v=>f (u++v)) t) s=ev (fun u=>Lp x q fun v=>f (u++v)) s from zdl fun r _=>ht _ (hf.shift _),hs _ fun w hw=>ztA x q fun v=>hf _ (by rw [List.length_append];omega),zvO hx p q hf]
 grind
def wk(ks:List (List Int)):Nat->List (List Int)
 | 0=>[[]]
 | k+1=>(wk ks k).flatMap fun u=>ks.map fun v=>u++v
theorem zrq{ks:List (List Int)}{u:List Int}{i:Nat}(hu:u∈wk ks i):∀{j:Nat} {v:List Int},v∈wk ks j->u++v∈wk ks (i+j)
 | 0,v,hv=>by rw [List.mem_singleton.mp hv,List.append_nil];exact hu
 | j+1,v,hv=>by
  obtain⟨a,ha,h⟩:=List.mem_flatMap.mp hv
  obtain⟨b,hb,rfl⟩:=List.mem_map.mp h
  rw [<- List.append_assoc]
  exact List.mem_flatMap.mpr ⟨u++a,zrq hu ha,List.mem_map.mpr ⟨b,hb,rfl⟩⟩
theorem zrp{ks:List (List Int)}(h:∀ g∈ks,g≠[]):∀{k:Nat} {u:List Int},u∈wk ks k->k<=u.length
 | 0,u,_=>Nat.zero_le _
 | k+1,u,hu=>by
  obtain⟨a,ha,h1⟩:=List.mem_flatMap.mp hu
  obtain⟨b,hb,rfl⟩:=List.mem_map.mp h1
  have:=zrp h ha
  have:=List.length_pos_iff.mpr (h b hb)
  rw [List.length_append];omega
theorem zro{ks:List (List Int)}{P:Int->Prop}(h:∀ g∈ks,∀ y∈g,P y):∀{k:Nat} {u:List Int},u∈wk ks k->∀ y∈u,P y
 | 0,u,hu,y,hy=>by rw [List.mem_singleton.mp hu] at hy;cases hy
 | k+1,u,hu,y,hy=>by
  obtain⟨a,ha,h1⟩:=List.mem_flatMap.mp hu
  obtain⟨b,hb,rfl⟩:=List.mem_map.mp h1
  rcases List.mem_append.mp hy with z|z
  ·exact zro h ha y z
  ·exact h b hb y z
theorem zno(ks:List (List Int)):∀ k:Nat,(wk ks k).length=ks.length^k
 | 0=>rfl
 | k+1=>by
  have e:∀ l:List (List Int),(l.flatMap fun u=>ks.map fun v=>u++v).length=l.length*ks.length:=by
   intro l
   induction l with
   | nil=>simp
   | cons a l ih=>rw [List.flatMap_cons,List.length_append,List.length_map,ih,List.length_cons,Nat.add_mul,Nat.one_mul,Nat.add_comm]
  rw [show wk ks (k+1)=(wk ks k).flatMap fun u=>ks.map fun v=>u++v from rfl,e,zno ks k,Nat.pow_succ]
def InU(x:Sm)(w:List Int):Prop:=∃ k,k<=5/\w∈wk (x.map (·.1)) k
theorem InU.app{x:Sm}(hx:∀ p∈x,p.1≠[]){u v:List Int}(hu:InU x u)(hv:InU x v)(hl:(u++v).length<=5):InU x (u++v):=by
 obtain⟨i,_,h1⟩:=hu
 obtain⟨j,_,h2⟩:=hv
 have h:=zrq h1 h2
 have:=zrp (fun g hg=>by obtain⟨p,hp,rfl⟩:=List.mem_map.mp hg;exact hx p hp) h
 exact⟨i+j,by omega,h⟩
theorem count{x s:Sm}(hx:x.length<=2)(nk:Nk s)(hs:∀ p∈s,InU x p.1):s.length<=63:=by
 have h:=List.Nodup.length_le_of_subset (l₂:=wk (x.map (·.1)) 0++wk (x.map (·.1)) 1++wk (x.map (·.1)) 2++wk (x.map (·.1)) 3++wk (x.map (·.1)) 4++wk (x.map (·.1)) 5) nk fun w hw=>by
  obtain⟨p,hp,rfl⟩:=List.mem_map.mp hw
  obtain⟨k,hk,h⟩:=hs p hp
  simp only [List.mem_append]
  match k,hk,h with
  | 0,_,h=>simp [h]
  | 1,_,h=>simp [h]
  | 2,_,h=>simp [h]
  | 3,_,h=>simp [h]
  | 4,_,h=>simp [h]
  | 5,_,h=>simp [h]
 simp only [List.length_append,zno,List.length_map] at h
 have:∀ k,x.length^k<=2^k:=fun k=>Nat.pow_le_pow_left hx k
 have h0:=this 0
 have h1:=this 1
 have h2:=this 2
 have h3:=this 3
 have h4:=this 4
 have h5:=this 5
 simp only [Nat.reducePow] at h0 h1 h2 h3 h4 h5
 omega
def Cm(C M:Nat)(r:Rat):Prop:=∃ z:Int,r*(C:Rat)=(z:Rat)/\z.natAbs<=M
theorem Cm.mono{C M M':Nat}{r:Rat}(h:Cm C M r)(l:M<=M'):Cm C M' r:=let⟨z,a,b⟩:=h;⟨z,a,Nat.le_trans b l⟩
theorem Cm.zero(C M:Nat):Cm C M 0:=⟨0,by grind,by simp⟩
theorem Cm.add{C M M':Nat}{r s:Rat}(h:Cm C M r)(k:Cm C M' s):Cm C (M+M') (r+s):=by
 obtain⟨z,a,b⟩:=h
 obtain⟨y,c,d⟩:=k
 refine⟨z+y,?_,by omega⟩
 rw [Rat.intCast_add,<- a,<- c];grind
theorem Cm.mul{C M C' M':Nat}{r s:Rat}(h:Cm C M r)(k:Cm C' M' s):Cm (C*C') (M*M') (r*s):=by
 obtain⟨z,a,b⟩:=h
 obtain⟨y,c,d⟩:=k
 refine⟨z*y,?_,by rw [Int.natAbs_mul];exact Nat.mul_le_mul b d⟩
 rw [Rat.intCast_mul,<- a,<- c,Rat.natCast_mul];grind
theorem Cm.up{C M:Nat}{r:Rat}(h:Cm C M r)(k:Nat):Cm (C*k) (M*k) r:=by
 obtain⟨z,a,b⟩:=h
 refine⟨z*k,?_,by rw [Int.natAbs_mul];exact Nat.mul_le_mul b (by simp)⟩
 rw [Rat.intCast_mul,<- a,Rat.natCast_mul]
 have:((k:Int):Rat)=(k:Rat):=rfl
 rw [this];grind
theorem Cm.bd{C M a b:Nat}{r:Rat}(h:Cm C M r)(hC:C≠0)(ha:C<2^a)(hb:M<2^b)(a0:0<a)(b0:0<b):QR.Bd (b+a) r:=by
 obtain⟨z,e,l⟩:=h
 have c0:(C:Rat)≠0:=fun q=>hC (Rat.natCast_inj.mp q)
 have er:r=(z:Rat)*(C:Rat)⁻¹:=by rw [<- e,Rat.mul_assoc,Rat.mul_inv_cancel _ c0,Rat.mul_one]
 rw [er]
 refine QR.Bd.mul ⟨?_,?_⟩ ⟨?_,?_⟩
 ·rw [Rat.num_intCast];omega
 ·rw [Rat.den_intCast];exact Nat.one_lt_two_pow (by omega)
 ·rw [Rat.num_inv,Rat.num_natCast,Rat.den_natCast,Int.natAbs_mul]
  have:=Int.natAbs_sign_of_ne_zero (z:=(C:Int)) (by omega)
  rw [this]
  exact Nat.one_lt_two_pow (by omega)
 ·rw [Rat.den_inv,Rat.num_natCast,if_neg (by omega)]
  simpa using ha
end
end FL
namespace K58
open PySem FL
theorem znX:zby=zkG:=rfl
theorem zvF:zdW=zmA:=rfl
theorem zkK:zaK=zic:=rfl
theorem zpV:zc6=zpG:=rfl
theorem held_eq:zec=zid:=rfl
theorem zpX:zbi=zc2:=rfl
theorem add_eq:zbV=zc5:=rfl
theorem zil:zjl=zji:=rfl
theorem zkh(n:Nat)(t:Sm)(x:List Int×Rat):zfd n (t++[x])=if n+x.1.length<6 then zfd n t++[x] else zfd n t:=by
 unfold zfd
 rw [List.filter_append]
 by_cases e:n+x.1.length<6
 ·rw [if_pos e,List.filter_cons_of_pos (by simpa using e)];rfl
 ·rw [if_neg e,List.filter_cons_of_neg (by simpa using e)];simp
theorem ztk{ρ:En}{i j:Nat}{a b:D}{x y:Sl}(hx:ρ[i]?=some x)(hy:ρ[j]?=some y)(hij:i≠j)(nx:Np x)(ny:Np y):gT [gN i,gN j] (.tuple [a,b]) ρ=.ok ((ρ.set i (.val a)).set j (.val b)):=by
 show((gN i a ρ).bind fun ρ1=>(gN j b ρ1).bind fun ρ2=>.ok ρ2)=_
 rw [zeY hx nx,zac,zeY (x:=y) (by rw [List.getElem?_set_ne hij];exact hy) ny]
 rfl
section
variable {P:Nat->Rat->Prop}{Q:Rat->Prop}{N:Nat}
theorem zqG(g:znn P Q N){i:Nat}{S T:D}{p:List Int×Rat}{t acc:Sm}(hp:p.1.length<=5)(ht:∀ q∈t,q.1.length<=5)(hQ:∀ q∈t,Q (p.2*q.2))(bp:QR.Bd 40000 p.2)(bt:∀ q∈t,QR.Bd 40000 q.2)(f:Fit P i acc)(hi:i+t.length<=N)(hl:acc.length+t.length+1<=lim)
  {x5 x6:Sl}(n5:Np x5)(n6:Np x6):∃ y5 y6,Np y5/\Np y6/\forL (gT [gN 5,gN 6]) zaQ (t.map tln) [.val S,.val T,.ow false (dct acc),.val (tp p.1),.val (num p.2),x5,x6]=.ok (.nx,[.val S,.val T,.ow false (dct (inW p (zfd p.1.length t) acc)),.val (tp p.1),.val (num p.2),y5,y6]) /\
   Fit P (i+t.length) (inW p (zfd p.1.length t) acc)/\(inW p (zfd p.1.length t) acc).length<=acc.length+t.length:=by
 have L:=zbg (f:=tln) (g:=gT [gN 5,gN 6]) (b:=zaQ)
  (fun done ρ=>∃ y5 y6,Np y5/\Np y6/\ρ=[.val S,.val T,.ow false (dct (inW p (zfd p.1.length done) acc)),.val (tp p.1),.val (num p.2),y5,y6]/\Fit P (i+done.length) (inW p (zfd p.1.length done) acc)/\(inW p (zfd p.1.length done) acc).length<=acc.length+done.length)
  t [] [.val S,.val T,.ow false (dct acc),.val (tp p.1),.val (num p.2),x5,x6] ⟨x5,x6,n5,n6,rfl,f,Nat.le_refl _⟩ (by
   intro pre x post ρ e hP
   obtain⟨y5,y6,h5,h6,rfl,fp,hlp⟩:=hP
   rw [List.nil_append] at e
   have mx:x∈t:=by rw [e];simp
   have hlen:pre.length+1<=t.length:=by rw [e];simp
   generalize hA:inW p (zfd p.1.length pre) acc=A at fp hlp
   have gx:gT [gN 5,gN 6] (tln x) [.val S,.val T,.ow false (dct A),.val (tp p.1),.val (num p.2),y5,y6]=.ok [.val S,.val T,.ow false (dct A),.val (tp p.1),.val (num p.2),.val (tp x.1),.val (num x.2)]:=ztk rfl rfl (by decide) h5 h6
   have k1:zaV (.int (p.1.length:Int)) (.int (x.1.length:Int))=.ok (.int ((p.1.length:Int)+(x.1.length:Int))):=rfl
   have k2:ltD (.int ((p.1.length:Int)+(x.1.length:Int))) (.int 6)=.ok (.bool (decide (p.1.length+x.1.length<6))):=by
    rw [ziG];congr 2;rw [decide_eq_decide];omega
   have ln:∀ w:List Int,zdg (tp w)=.ok (.int (w.length:Int)):=fun w=>by
    show R.ok (PyData.int ((w.map PyData.int).length:Int))=_
    rw [List.length_map]
   have ct:tB (e2 ltD (e2 zaV (FL.e1 zdg (eV 3)) (FL.e1 zdg (eV 5))) (eC (.int 6))) [.val S,.val T,.ow false (dct A),.val (tp p.1),.val (num p.2),.val (tp x.1),.val (num x.2)]=.ok (decide (p.1.length+x.1.length<6),[.val S,.val T,.ow false (dct A),.val (tp p.1),.val (num p.2),.val (tp x.1),.val (num x.2)]):=by
    simp only [tB,FL.e1,FL.e2,eV,eC,zac,zz0,zz1,ln,k1,k2]
   by_cases c:p.1.length+x.1.length<6
   ·have ein:inW p (zfd p.1.length (pre++[x])) acc=zcH A (p.1++x.1) (p.2*x.2):=by
     rw [zkh,if_pos c,zgf,hA]
    refine⟨[.val S,.val T,.ow false (dct (zcH A (p.1++x.1) (p.2*x.2))),.val (tp p.1),.val (num p.2),.val (tp x.1),.val (num x.2)],.nx,?_,.inl rfl,.val (tp x.1),.val (num x.2),zaA _,zaA _,by rw [ein],?_,?_⟩
    ·rw [gx,zac]
     unfold zaQ sIf
     rw [ct,zac,if_pos (by simpa using c)]
     unfold sE
     rw [zdp (p:=false) (d:=dct A) (v:=tp (p.1++x.1)) (u:=num (p.2*x.2)) (r:=.none) (d':=dct (zcH A (p.1++x.1) (p.2*x.2))) (v':=tp (p.1++x.1)) (u':=num (p.2*x.2)) rfl ?_ ?_ ?_]
     ·rfl
     ·simp only [FL.e2,eV,zac,zz0,zz1]
      rw [zr3 (by have:=ht x mx;unfold lim;omega)];rfl
     ·simp only [zag,zaa,zah,eV,zac,zz0,zz1]
      rw [zvF,zrK bp (bt x mx) (by decide)];rfl
     ·rw [znX]
      exact zk2 (by omega) (g.bp _ _ (by omega) (fp.get g _)) (g.bq _ (hQ x mx))
    ·rw [ein,List.length_append,List.length_singleton]
     exact fp.add g _ (hQ x mx)
    ·rw [ein,List.length_append,List.length_singleton]
     have:=zf9 A (p.1++x.1) (p.2*x.2)
     omega
   ·have ein:inW p (zfd p.1.length (pre++[x])) acc=A:=by
     rw [zkh,if_neg c,hA]
    refine⟨[.val S,.val T,.ow false (dct A),.val (tp p.1),.val (num p.2),.val (tp x.1),.val (num x.2)],.nx,?_,.inl rfl,.val (tp x.1),.val (num x.2),zaA _,zaA _,by rw [ein],?_,?_⟩
    ·rw [gx,zac]
     unfold zaQ sIf
     rw [ct,zac,if_neg (by simpa using c)]
     rfl
    ·rw [ein,List.length_append,List.length_singleton]
     exact⟨fp.nk,fun p' h'=>g.up _ _ (fp.sz p' h')⟩
    ·rw [ein,List.length_append,List.length_singleton]
     omega)
 obtain⟨ρ',e,y5,y6,h5,h6,rfl,fp,hlp⟩:=L
 exact⟨y5,y6,h5,h6,e,fp,hlp⟩
theorem zcZ(s t:Sm)(x:List Int×Rat):zcb (s++[x]) t=inW x (zfd x.1.length t) (zcb s t):=by simp [zcb]
theorem zwN(g:znn P Q N){s t:Sm}(hs:∀ p∈s,p.1.length<=5)(ht:∀ q∈t,q.1.length<=5)(hQ:∀ p∈s,∀ q∈t,Q (p.2*q.2))(bs:∀ p∈s,QR.Bd 40000 p.2)(bt:∀ q∈t,QR.Bd 40000 q.2)(hN:s.length*t.length<=N)(h4k:s.length*t.length<4000)(h64:(zcb s t).length<64) :
  zbQ [.list (s.map tln),.list (t.map tln)]=.ok (told (zcb s t))/\Fit P (s.length*t.length) (zcb s t)/\(zcb s t).length<=s.length*t.length:=by
 have L:=zbg (f:=tln) (g:=gT [gN 3,gN 4]) (b:=zcn)
  (fun done ρ=>∃ y3 y4 y5 y6,Np y3/\Np y4/\Np y5/\Np y6/\ρ=[.val (.list (s.map tln)),.val (.list (t.map tln)),.ow false (dct (zcb done t)),y3,y4,y5,y6]/\Fit P (done.length*t.length) (zcb done t)/\(zcb done t).length<=done.length*t.length)
  s [] [.val (.list (s.map tln)),.val (.list (t.map tln)),.ow false (dct []),.no,.no,.no,.no] ⟨.no,.no,.no,.no,zbm,zbm,zbm,zbm,rfl,⟨List.nodup_nil,fun p hp=>by simp [zcb] at hp⟩,by simp [zcb]⟩ (by
   intro pre x post ρ e hP
   obtain⟨y3,y4,y5,y6,h3,h4,h5,h6,rfl,fp,hlp⟩:=hP
   rw [List.nil_append] at e
   have mx:x∈s:=by rw [e];simp
   have hlen:(pre.length+1)*t.length<=s.length*t.length:=Nat.mul_le_mul_right _ (by rw [e];simp)
   rw [Nat.add_mul,Nat.one_mul] at hlen
   have gx:gT [gN 3,gN 4] (tln x) [.val (.list (s.map tln)),.val (.list (t.map tln)),.ow false (dct (zcb pre t)),y3,y4,y5,y6]=.ok [.val (.list (s.map tln)),.val (.list (t.map tln)),.ow false (dct (zcb pre t)),.val (tp x.1),.val (num x.2),y5,y6]:=ztk rfl rfl (by decide) h3 h4
   obtain⟨z5,z6,m5,m6,ei,fi,li⟩:=zqG g (S:=.list (s.map tln)) (T:=.list (t.map tln)) (hs x mx) ht (hQ x mx) (bs x mx) bt fp (by omega) (by unfold lim;omega) h5 h6
   refine⟨[.val (.list (s.map tln)),.val (.list (t.map tln)),.ow false (dct (zcb (pre++[x]) t)),.val (tp x.1),.val (num x.2),z5,z6],.nx,?_,.inl rfl,_,_,z5,z6,zaA _,zaA _,m5,m6,rfl,?_,?_⟩
   ·rw [gx,zac,zcZ]
    exact ei
   ·rw [zcZ,List.length_append,List.length_singleton,Nat.add_mul,Nat.one_mul]
    exact fi
   ·rw [zcZ,List.length_append,List.length_singleton,Nat.add_mul,Nat.one_mul]
    exact Nat.le_trans li (by omega))
 obtain⟨ρ',e,y3,y4,y5,y6,h3,h4,h5,h6,rfl,fp,hlp⟩:=L
 simp only [List.nil_append] at e fp hlp
 refine⟨?_,fp,hlp⟩
 have s1:zdE 2 zcq [.val (.list (s.map tln)),.val (.list (t.map tln)),.no,.no,.no,.no,.no]=.ok (.nx,[.val (.list (s.map tln)),.val (.list (t.map tln)),.ow false (dct []),.no,.no,.no,.no]):=rfl
 have s2:zcm [.val (.list (s.map tln)),.val (.list (t.map tln)),.ow false (dct []),.no,.no,.no,.no]=.ok (.nx,[.val (.list (s.map tln)),.val (.list (t.map tln)),.ow false (dct (zcb s t)),y3,y4,y5,y6]):=e
 have tl:zaK [dct (zcb s t)]=.ok (told (zcb s t)):=by rw [zkK];exact ziF fp.nk (by omega)
 refine zb9 (ρ:=[.val (.list (s.map tln)),.val (.list (t.map tln)),.val (dct (zcb s t)),y3,y4,y5,y6]) rfl ?_
 show zck [.val (.list (s.map tln)),.val (.list (t.map tln)),.no,.no,.no,.no,.no]=_
 unfold zck
 rw [zai s1,zai s2]
 simp only [zkP,zbc,zag,zaa,zah,eV,zac,zz0,zz1,List.set_cons_zero,List.set_cons_succ,tl]
theorem len_cat:∀(t:Sm) (m:Nat),t.Pairwise (fun p q=>p.1.length<=q.1.length)->(t.filter fun q=>decide (q.1.length<m))++(t.filter fun q=>decide (q.1.length=m))=t.filter fun q=>decide (q.1.length<m+1)
 | [],_,_=>rfl
 | x::r,m,h=>by
  rw [List.pairwise_cons] at h
  have ih:=len_cat r m h.2
  by_cases c1:x.1.length<m
  ·rw [List.filter_cons_of_pos (by simpa using c1),List.filter_cons_of_neg (by simp;omega),List.filter_cons_of_pos (by simp;omega),List.cons_append,ih]
  ·have hr:r.filter (fun q=>decide (q.1.length<m))=[]:=List.filter_eq_nil_iff.mpr fun q hq=>by have:=h.1 q hq;simp;omega
   rw [List.filter_cons_of_neg (by simpa using c1),hr,List.nil_append]
   rw [hr,List.nil_append] at ih
   by_cases c2:x.1.length=m
   ·rw [List.filter_cons_of_pos (by simpa using c2),List.filter_cons_of_pos (by simp;omega),ih]
   ·rw [List.filter_cons_of_neg (by simpa using c2),List.filter_cons_of_neg (by simp;omega),ih]
theorem zti(p:List Int×Rat)(a b acc:Sm):inW p (a++b) acc=inW p b (inW p a acc):=by simp [inW]
theorem zpw:∀{t:Sm},Asc t->t.Pairwise (fun p q=>p.1.length<=q.1.length):=fun{t} h=>h.imp fun{p q} hpq=>by
 unfold ltW kyS at hpq
 simp only at hpq
 split at hpq
 ·rename_i e;have:(p.1.length:Int)=q.1.length:=e;omega
 ·have:=of_decide_eq_true hpq;omega
def fil(t:Sm)(l:Nat):Sm:=t.filter fun q=>decide (q.1.length=l)
theorem zq7(g:znn P Q N){i:Nat}{s t:Sm}{B T:D}{p:List Int×Rat}{acc:Sm}(ns:Nk s)(nt:Nk t)(ms:p∈s)(hp:p.1.length<=5)(ht:∀ q∈t,q.1.length<=5)(hQ:∀ q∈t,Q (p.2*q.2))(bp:QR.Bd 40000 p.2)(bt:∀ q∈t,QR.Bd 40000 q.2)(f:Fit P i acc)(hi:i+t.length<=N)(hl:acc.length+t.length+1<=lim)
  {x6:Sl}(n6:Np x6):∃ y6,Np y6/\zbo [.val (dct s),.val T,.val B,.ow false (dct acc),.val (tp p.1),.val (dct t),x6]=.ok (.nx,[.val (dct s),.val T,.val B,.ow false (dct (inW p t acc)),.val (tp p.1),.val (dct t),y6])/\Fit P (i+t.length) (inW p t acc)/\(inW p t acc).length<=acc.length+t.length:=by
 have L:=zbg (f:=fun p:List Int×Rat=>tp p.1) (g:=gN 6) (b:=zbr)
  (fun done ρ=>∃ y6,Np y6/\ρ=[.val (dct s),.val T,.val B,.ow false (dct (inW p done acc)),.val (tp p.1),.val (dct t),y6]/\Fit P (i+done.length) (inW p done acc)/\(inW p done acc).length<=acc.length+done.length)
  t [] [.val (dct s),.val T,.val B,.ow false (dct acc),.val (tp p.1),.val (dct t),x6] ⟨x6,n6,rfl,f,Nat.le_refl _⟩ (by
   intro pre x post ρ e hP
   obtain⟨y6,h6,rfl,fp,hlp⟩:=hP
   rw [List.nil_append] at e
   have mx:x∈t:=by rw [e];simp
   have hlen:pre.length+1<=t.length:=by rw [e];simp
   have gx:gN 6 (tp x.1) [.val (dct s),.val T,.val B,.ow false (dct (inW p pre acc)),.val (tp p.1),.val (dct t),y6]=.ok [.val (dct s),.val T,.val B,.ow false (dct (inW p pre acc)),.val (tp p.1),.val (dct t),.val (tp x.1)]:=zeY rfl h6
   have fx:=zfS g fp (by omega) (by omega) (p.1++x.1) (hQ x mx)
   rw [<- add_eq] at fx
   refine⟨[.val (dct s),.val T,.val B,.ow false (dct (inW p (pre++[x]) acc)),.val (tp p.1),.val (dct t),.val (tp x.1)],.nx,?_,.inl rfl,.val (tp x.1),zaA _,rfl,?_,?_⟩
   ·rw [gx,zac]
    unfold zbr sE
    rw [zdp (p:=false) (d:=dct (inW p pre acc)) (v:=tp (p.1++x.1)) (u:=num (p.2*x.2)) (r:=.none) (d':=dct (zcH (inW p pre acc) (p.1++x.1) (p.2*x.2))) (v':=tp (p.1++x.1)) (u':=num (p.2*x.2)) rfl ?_ ?_ fx,zgf]
    ·rfl
    ·simp only [FL.e2,eV,zac,zz0,zz1]
     rw [zr3 (by have:=ht x mx;unfold lim;omega)];rfl
    ·have d1:=zeE (zc9 ns ms)
     have d2:=zeE (zc9 nt mx)
     have tm:=zlF bp (bt x mx) (by decide)
     simp only [zil,zag,zaa,zah,FL.e2,eV,zac,zz0,zz1,d1,d2,tm]
   ·rw [zgf,List.length_append,List.length_singleton,<- Nat.add_assoc]
    exact fp.add g _ (hQ x mx)
   ·rw [zgf,List.length_append,List.length_singleton]
    exact Nat.le_trans (zf9 _ _ _) (by omega))
 obtain⟨ρ',e,y6,h6,rfl,fp,hlp⟩:=L
 refine⟨y6,h6,?_,fp,hlp⟩
 unfold zbo zep
 have hi:(iD (eV 5)) [.val (dct s),.val T,.val B,.ow false (dct acc),.val (tp p.1),.val (dct t),x6]=.ok (t.map fun p=>tp p.1,[.val (dct s),.val T,.val B,.ow false (dct acc),.val (tp p.1),.val (dct t),x6]):=by
  simp only [iD,eV,zac,zz0,zz1,zdh]
 rw [hi,zac]
 exact e
def blD(t:Sm)(m:Nat):List D:=(List.range m).map fun l=>dct (fil t l)
theorem zp0{m:Nat}{pre post:List Nat}{x:Nat}(e:List.range m=pre++x::post):x=pre.length/\x<m:=by
 have h1:(List.range m)[pre.length]?=some x:=by rw [e];simp
 have h2:pre.length<m:=by
  have:=congrArg List.length e
  simp at this
  omega
 rw [List.getElem?_range h2] at h1
 cases h1
 exact⟨rfl,h2⟩
theorem zvA(g:znn P Q N){i:Nat}{s t:Sm}{B T:D}{p:List Int×Rat}{acc:Sm}(ns:Nk s)(nt:Nk t)(al:t.Pairwise fun p q=>p.1.length<=q.1.length)(ms:p∈s)(hp:p.1.length<=5)(ht:∀ q∈t,q.1.length<=5)(hQ:∀ q∈t,Q (p.2*q.2))(bp:QR.Bd 40000 p.2)(bt:∀ q∈t,QR.Bd 40000 q.2)(f:Fit P i acc)(hi:i+t.length<=N)(hl:acc.length+t.length+1<=lim)
  {x5 x6:Sl}(n5:Np x5)(n6:Np x6)(m:Nat):∃ y5 y6,Np y5/\Np y6/\forL (gN 5) zbq (blD t m) [.val (dct s),.val T,.val B,.ow false (dct acc),.val (tp p.1),x5,x6]=.ok (.nx,[.val (dct s),.val T,.val B,.ow false (dct (inW p (t.filter fun q=>decide (q.1.length<m)) acc)),.val (tp p.1),y5,y6]) /\
   Fit P (i+(t.filter fun q=>decide (q.1.length<m)).length) (inW p (t.filter fun q=>decide (q.1.length<m)) acc)/\(inW p (t.filter fun q=>decide (q.1.length<m)) acc).length<=acc.length+(t.filter fun q=>decide (q.1.length<m)).length:=by
 have z0:t.filter (fun q=>decide (q.1.length<0))=[]:=List.filter_eq_nil_iff.mpr fun q hq=>by simp
 have L:=zbg (f:=fun l:Nat=>dct (fil t l)) (g:=gN 5) (b:=zbq)
  (fun done ρ=>∃ y5 y6,Np y5/\Np y6/\ρ=[.val (dct s),.val T,.val B,.ow false (dct (inW p (t.filter fun q=>decide (q.1.length<done.length)) acc)),.val (tp p.1),y5,y6]/\Fit P (i+(t.filter fun q=>decide (q.1.length<done.length)).length) (inW p (t.filter fun q=>decide (q.1.length<done.length)) acc)/\(inW p (t.filter fun q=>decide (q.1.length<done.length)) acc).length<=acc.length+(t.filter fun q=>decide (q.1.length<done.length)).length)
  (List.range m) [] [.val (dct s),.val T,.val B,.ow false (dct acc),.val (tp p.1),x5,x6] ⟨x5,x6,n5,n6,by rw [List.length_nil,z0];rfl,by rw [List.length_nil,z0];exact f,by rw [List.length_nil,z0];exact Nat.le_refl _⟩ (by
   intro pre x post ρ e hP
   obtain⟨y5,y6,h5,h6,rfl,fp,hlp⟩:=hP
   rw [List.nil_append] at e
   obtain⟨ex,_⟩:=zp0 e
   have cat:=len_cat t pre.length al
   have cl:=congrArg List.length cat
   rw [List.length_append] at cl
   have hle:=List.length_filter_le (fun q:List Int×Rat=>decide (q.1.length<pre.length+1)) t
   have hf:fil t x=t.filter fun q=>decide (q.1.length=pre.length):=by rw [ex];rfl
   have gx:gN 5 (dct (fil t x)) [.val (dct s),.val T,.val B,.ow false (dct (inW p (t.filter fun q=>decide (q.1.length<pre.length)) acc)),.val (tp p.1),y5,y6]=.ok [.val (dct s),.val T,.val B,.ow false (dct (inW p (t.filter fun q=>decide (q.1.length<pre.length)) acc)),.val (tp p.1),.val (dct (fil t x)),y6]:=zeY rfl h5
   have sub:∀ q∈fil t x,q∈t:=fun q hq=>(List.mem_filter.mp hq).1
   obtain⟨z6,m6,ei,fi,li⟩:=zq7 g (B:=B) (T:=T) (t:=fil t x) ns (List.Nodup.sublist (List.Sublist.map _ List.filter_sublist) nt) ms hp (fun q hq=>ht q (sub q hq)) (fun q hq=>hQ q (sub q hq)) bp (fun q hq=>bt q (sub q hq)) fp (by rw [hf];omega) (by rw [hf];omega) h6
   have key:inW p (t.filter fun q=>decide (q.1.length<(pre++[x]).length)) acc=inW p (fil t x) (inW p (t.filter fun q=>decide (q.1.length<pre.length)) acc):=by
    rw [List.length_append,List.length_singleton,<- cat,zti,hf]
   have kl:(t.filter fun q=>decide (q.1.length<(pre++[x]).length)).length=(t.filter fun q=>decide (q.1.length<pre.length)).length+(fil t x).length:=by
    rw [List.length_append,List.length_singleton,<- cat,List.length_append,hf]
   refine⟨[.val (dct s),.val T,.val B,.ow false (dct (inW p (t.filter fun q=>decide (q.1.length<(pre++[x]).length)) acc)),.val (tp p.1),.val (dct (fil t x)),z6],.nx,?_,.inl rfl,_,z6,zaA _,m6,rfl,?_,?_⟩
   ·rw [gx,zac,key]
    exact ei
   ·rw [key,kl,<- Nat.add_assoc];exact fi
   ·rw [key,kl];omega)
 obtain⟨ρ',e,y5,y6,h5,h6,rfl,fp,hlp⟩:=L
 simp only [List.nil_append,List.length_range] at e fp hlp
 exact⟨y5,y6,h5,h6,e,fp,hlp⟩
theorem zxs:rng 0 6=(List.range 6).map fun(l:Nat)=>PyData.int l:=rfl
theorem zya{s t:Sm}(nt:Nk t)(hl:t.length+1<=lim)(r:En):zaX (.val (dct s)::.val (dct t)::r)=.ok (.list (blD t 6),.val (dct s)::.val (dct t)::r):=by
 unfold zaX
 rw [zgQ (items:=rng 0 6) (fun x=>match x with | .int i=>dct (fil t i.toNat)|_=>.none)]
 ·rw [zxs,List.map_map];rfl
 ·have:zdG [.int (5+1)]=.ok (rng 0 6):=zdZ (by decide) (by decide)
  simp only [iR1,zaa,zah,FL.e2,eC,zaV,zac,this]
 ·decide
 ·intro x hx
  rw [zxs] at hx
  obtain⟨l,hl',rfl⟩:=List.mem_map.mp hx
  refine⟨[.val (.int l),.val (dct t)],rfl,?_,?_⟩
  ·have tk:zbi [dct t,.int l]=.ok (dct (fil t l)):=by rw [zpX];exact zpW nt hl l
   simp only [zag,zaa,zah,eV,zac,zz0,zz1,tk]
   simp
  ·refine zgj (fun i p d e=>?_) _ 0
   revert e
   simp only [List.drop_succ_cons,List.drop_zero,List.zip_cons_cons,List.zip_nil_left,List.lookup_cons,List.lookup_nil]
   split <;> (intro e;cases e)
theorem zw9(g:znn P Q N){s t:Sm}(ns:Nk s)(nt:Nk t)(al:t.Pairwise fun p q=>p.1.length<=q.1.length)(hs:∀ p∈s,p.1.length<=5)(ht:∀ q∈t,q.1.length<=5)(hQ:∀ p∈s,∀ q∈t,Q (p.2*q.2))(bs:∀ p∈s,QR.Bd 40000 p.2)(bt:∀ q∈t,QR.Bd 40000 q.2)(hN:s.length*t.length<=N)(h64:s.length*t.length<4000)(ht64:t.length<64) :
  zaJ [dct s,dct t]=.ok (dct (zcb s t)):=by
 have cutE:∀ p∈s,zfd p.1.length t=t.filter fun q=>decide (q.1.length<6-p.1.length):=fun p hp=>by
  unfold zfd
  refine List.filter_congr fun q hq=>?_
  rw [decide_eq_decide]
  have:=hs p hp
  omega
 have L:=zbg (f:=fun p:List Int×Rat=>tp p.1) (g:=gN 4) (b:=zbp)
  (fun done ρ=>∃ y4 y5 y6,Np y4/\Np y5/\Np y6/\ρ=[.val (dct s),.val (dct t),.val (.list (blD t 6)),.ow false (dct (zcb done t)),y4,y5,y6]/\Fit P (done.length*t.length) (zcb done t)/\(zcb done t).length<=done.length*t.length)
  s [] [.val (dct s),.val (dct t),.val (.list (blD t 6)),.ow false (dct []),.no,.no,.no] ⟨.no,.no,.no,zbm,zbm,zbm,rfl,⟨List.nodup_nil,fun p hp=>by simp [zcb] at hp⟩,by simp [zcb]⟩ (by
   intro pre x post ρ e hP
   obtain⟨y4,y5,y6,h4,h5,h6,rfl,fp,hlp⟩:=hP
   rw [List.nil_append] at e
   have mx:x∈s:=by rw [e];simp
   have hlen:(pre.length+1)*t.length<=s.length*t.length:=Nat.mul_le_mul_right _ (by rw [e];simp)
   rw [Nat.add_mul,Nat.one_mul] at hlen
   have gx:gN 4 (tp x.1) [.val (dct s),.val (dct t),.val (.list (blD t 6)),.ow false (dct (zcb pre t)),y4,y5,y6]=.ok [.val (dct s),.val (dct t),.val (.list (blD t 6)),.ow false (dct (zcb pre t)),.val (tp x.1),y5,y6]:=zeY rfl h4
   obtain⟨z5,z6,m5,m6,ei,fi,li⟩:=zvA g (B:=.list (blD t 6)) (T:=dct t) ns nt al mx (hs x mx) ht (hQ x mx) (bs x mx) bt fp (by omega) (by unfold lim;omega) h5 h6 (6-x.1.length)
   rw [<- cutE x mx] at ei fi li
   have cle:(zfd x.1.length t).length<=t.length:=List.length_filter_le _ _
   have hx5:=hs x mx
   have it:(iE (eSl (eV 2) zmN (zmM (e2 zhr (e2 zaV (eC (.int 5)) (eC (.int 1))) (FL.e1 zdg (eV 4)))))) [.val (dct s),.val (dct t),.val (.list (blD t 6)),.ow false (dct (zcb pre t)),.val (tp x.1),y5,y6]=.ok (blD t (6-x.1.length),[.val (dct s),.val (dct t),.val (.list (blD t 6)),.ow false (dct (zcb pre t)),.val (tp x.1),y5,y6]):=by
    have ln:zdg (tp x.1)=.ok (.int (x.1.length:Int)):=by
     show R.ok (PyData.int ((x.1.map PyData.int).length:Int))=_
     rw [List.length_map]
    have sl:zhF (.list (blD t 6)) none (some ((6:Int)-(x.1.length:Int)))=.ok (.list (blD t (6-x.1.length))):=by
     show R.ok (PyData.list (cut (blD t 6) none (some ((6:Int)-(x.1.length:Int)))))=_
     rw [show((6:Int)-(x.1.length:Int))=((6-x.1.length:Nat):Int) by omega,zvz]
     unfold blD
     rw [<- List.map_take,List.take_range,Nat.min_eq_left (by omega)]
    simp only [iE,eSl,zmN,zmM,FL.e1,FL.e2,eV,eC,zaV,zhr,zac,zz0,zz1,ln,show(5:Int)+1=6 from rfl,sl,zhR]
   refine⟨[.val (dct s),.val (dct t),.val (.list (blD t 6)),.ow false (dct (zcb (pre++[x]) t)),.val (tp x.1),z5,z6],.nx,?_,.inl rfl,_,z5,z6,zaA _,m5,m6,rfl,?_,?_⟩
   ·rw [gx,zac,zcZ]
    unfold zbp zb7 zep
    rw [it,zac]
    exact ei
   ·rw [zcZ,List.length_append,List.length_singleton,Nat.add_mul,Nat.one_mul]
    refine⟨fi.nk,fun p' h'=>?_⟩
    have up:∀(n:Nat) {i:Nat} {r:Rat},P i r->P (i+n) r:=fun n=>by
     induction n with
     | zero=>intro i r h;exact h
     | succ n ih=>intro i r h;exact g.up _ _ (ih h)
    have:=up (t.length-(zfd x.1.length t).length) (fi.sz p' h')
    rwa [show pre.length*t.length+(zfd x.1.length t).length+(t.length-(zfd x.1.length t).length)=pre.length*t.length+t.length by omega] at this
   ·rw [zcZ,List.length_append,List.length_singleton,Nat.add_mul,Nat.one_mul]
    omega)
 obtain⟨ρ',e,y4,y5,y6,h4,h5,h6,rfl,fp,hlp⟩:=L
 simp only [List.nil_append] at e fp hlp
 refine zb9 (ρ:=[.val (dct s),.val (dct t),.val (.list (blD t 6)),.ow false (dct (zcb s t)),y4,y5,y6]) rfl ?_
 show zb1 [.val (dct s),.val (dct t),.no,.no,.no,.no,.no]=_
 unfold zb1
 have s1:zir 2 (zdE 2 zaX) [.val (dct s),.val (dct t),.no,.no,.no,.no,.no]=.ok (.nx,[.val (dct s),.val (dct t),.val (.list (blD t 6)),.no,.no,.no,.no]):=by
  simp only [zir,zdE,zya nt (show t.length+1<=lim by unfold lim;omega),zac]
  rfl
 have s2:zdE 3 zcq [.val (dct s),.val (dct t),.val (.list (blD t 6)),.no,.no,.no,.no]=.ok (.nx,[.val (dct s),.val (dct t),.val (.list (blD t 6)),.ow false (dct []),.no,.no,.no]):=rfl
 have hi:(iD (eV 0)) [.val (dct s),.val (dct t),.val (.list (blD t 6)),.ow false (dct []),.no,.no,.no]=.ok (s.map fun p=>tp p.1,[.val (dct s),.val (dct t),.val (.list (blD t 6)),.ow false (dct []),.no,.no,.no]):=by
  simp only [iD,eV,zac,zz0,zz1,zdh]
 have s3:zbn [.val (dct s),.val (dct t),.val (.list (blD t 6)),.ow false (dct []),.no,.no,.no]=.ok (.nx,[.val (dct s),.val (dct t),.val (.list (blD t 6)),.ow false (dct (zcb s t)),y4,y5,y6]):=by
  unfold zbn zep
  rw [hi,zac]
  exact e
 rw [zai s1,zai s2,zai s3]
 rfl
theorem zqH{c:Int}{t:Sm}(h1:1<=c)(h4:c<=4)(ha:Asc t)(hw:∀ p∈t,Wok c p)(hl:t.length+1<=lim):zaz [.int c,.list (t.map tln)]=.ok (dct t):=by
 have wh:zcl [.int c]=.ok (.bool true):=rfl
 have rf:zbt [.int c]=.ok .none:=by
  simp only [zbt,zcc,FL.run,zbj,slots,outs,outD,List.replicate,List.length_cons,List.length_nil,zaD,zat,sIf,zaL,sE,sNx,zdE,zir,zkP,zbc,zjx,zt4,zgr,zxr,zxq,znL,eC,eV,FL.e1,FL.e2,zm4,eOr,zvs,eIf,ze1,zah,zaa,zaP,zcR,zag,zxH,zmN,zmM,eSl,zaw,zfl,m1,m2,m2r,m2m,mSl,zuW,tE,tB,FL.zwd,FL.tOr,FL.zen,tM,zc8,gN,gT,zqX,zxo,ztQ,setM,za4,zxK,zac,zmv,zmu,zz0,zz1,List.set_cons_zero,List.set_cons_succ,List.nil_append,List.cons_append,List.head?_cons,List.tail_cons,Bool.false_eq_true,if_false,if_true,Nat.sub_self,Nat.reduceSub,Nat.reduceAdd,reduceCtorEq,zaV,zhr,ixD,zhF,zdg,zkJ,ziI,zjt,zao,zjm,zhz,zhd,zhc,bkL,bk1,List.lookup_cons,List.lookup_nil,blk,back,List.zip_cons_cons,List.zip_nil_left,List.zip_nil_right,List.map_cons,List.map_nil,List.drop_succ_cons,List.drop_zero,Option.getD_some,Option.getD_none,zep,iE,zhR,Bool.not_true,Bool.not_false,iD,zfm,zcq,zeZ,zf1,e3,zfu,zlk,zt7,iR1,iR2,zdG,zkR,wh,zoC,decide_eq_true h1,decide_eq_true h4]
 have hs:zec [.list (t.map tln),.int c]=.ok (dct t):=by rw [held_eq];exact zoX ha hw hl
 simp only [zaz,zcN,FL.run,zbj,slots,outs,outD,List.replicate,List.length_cons,List.length_nil,zaD,zat,sIf,zaL,sE,sNx,zdE,zir,zkP,zbc,zjx,zt4,zgr,zxr,zxq,znL,eC,eV,FL.e1,FL.e2,zm4,eOr,zvs,eIf,ze1,zah,zaa,zaP,zcR,zag,zxH,zmN,zmM,eSl,zaw,zfl,m1,m2,m2r,m2m,mSl,zuW,tE,tB,FL.zwd,FL.tOr,FL.zen,tM,zc8,gN,gT,zqX,zxo,ztQ,setM,za4,zxK,zac,zmv,zmu,zz0,zz1,List.set_cons_zero,List.set_cons_succ,List.nil_append,List.cons_append,List.head?_cons,List.tail_cons,Bool.false_eq_true,if_false,if_true,Nat.sub_self,Nat.reduceSub,Nat.reduceAdd,reduceCtorEq,zaV,zhr,ixD,zhF,zdg,zkJ,ziI,zjt,zao,zjm,zhz,zhd,zhc,bkL,bk1,List.lookup_cons,List.lookup_nil,blk,back,List.zip_cons_cons,List.zip_nil_left,List.zip_nil_right,List.map_cons,List.map_nil,List.drop_succ_cons,List.drop_zero,Option.getD_some,Option.getD_none,zep,iE,zhR,Bool.not_true,Bool.not_false,iD,zfm,zcq,zeZ,zf1,e3,zfu,zlk,zt7,iR1,iR2,zdG,zkR,rf,hs]
end
end K58
namespace FL
open PySem
def ztJ:Nat->List (List Int)
 | 0=>[[]]
 | n+1=>[]::(ztJ n).flatMap fun w=>[0::w,1::w,2::w,3::w]
theorem zl7:∀{n:Nat} {w:List Int},w.length<=n->(∀ x∈w,0<=x/\x<4)->w∈ztJ n
 | 0,w,h,_=>List.mem_singleton.mpr (List.length_eq_zero_iff.mp (Nat.le_zero.mp h))
 | n+1,[],_,_=>List.mem_cons_self ..
 | n+1,x::w,h,hx=>by
  have h1:=zl7 (n:=n) (w:=w) (by simp only [List.length_cons] at h;omega) fun y hy=>hx y (List.mem_cons_of_mem _ hy)
  refine List.mem_cons_of_mem _ (List.mem_flatMap.mpr ⟨w,h1,?_⟩)
  have:=hx x (List.mem_cons_self ..)
  have:x=0\/x=1\/x=2\/x=3:=by omega
  rcases this with rfl|rfl|rfl|rfl <;> simp
def bkt(b:Nat):List (List Int):=(ztJ 5).filter fun w=>(hW w).natAbs % 128==b
set_option maxHeartbeats 0 in
theorem zvG:(List.range 128).all (fun b=>decide ((bkt b).map hW).Nodup)=true:=by decide +kernel
theorem zrQ{α β:Type}{f:α->β}:∀{l:List α},(l.map f).Nodup->∀ a∈l,∀ b∈l,f a=f b->a=b
 | [],_,a,ha,_,_,_=>nomatch ha
 | x::r,h,a,ha,b,hb,e=>by
  rw [List.map_cons,List.nodup_cons] at h
  rcases List.mem_cons.mp ha with z|ha'
  ·rcases List.mem_cons.mp hb with w|hb'
   ·rw [z,w]
   ·exact absurd (List.mem_map.mpr ⟨b,hb',by rw [<- e,z]⟩) h.1
  ·rcases List.mem_cons.mp hb with w|hb'
   ·exact absurd (List.mem_map.mpr ⟨a,ha',by rw [e,w]⟩) h.1
   ·exact zrQ h.2 a ha' b hb' e
theorem zvc{u v:List Int}(hu:u∈ztJ 5)(hv:v∈ztJ 5)(e:hW u=hW v):u=v:=by
 have hb:(hW u).natAbs % 128<128:=Nat.mod_lt _ (by decide)
 have nd:=of_decide_eq_true (List.all_eq_true.mp zvG _ (List.mem_range.mpr hb))
 exact zrQ nd u (List.mem_filter.mpr ⟨hu,by simp⟩) v (List.mem_filter.mpr ⟨hv,by rw [e];simp⟩) e
theorem zj3:∀ w:List Int,zj4 (w.map PyData.int)=some w
 | []=>rfl
 | x::w=>by
  show(zj4 (w.map PyData.int)).map _=_
  rw [zj3 w];rfl
theorem zoV:∀ s:Sm,hkA (s.map ent)=some (s.map fun p=>hW p.1)
 | []=>rfl
 | p::s=>by
  show((zj4 (p.1.map PyData.int)).map hW).bind (fun h=>(hkA (s.map ent)).map fun l=>h::l)=_
  rw [zj3,zoV s];rfl
theorem zq5{s:Sm}(nk:Nk s)(h:∀ p∈s,p.1∈ztJ 5):zkf (dct s)=.ok (dct s):=by
 have nd:(s.map fun p=>hW p.1).Nodup:=by
  unfold Nk at nk
  induction s with
  | nil=>exact List.nodup_nil
  | cons p s ih =>
   rw [List.map_cons,List.nodup_cons] at nk ⊢
   refine⟨fun z=>?_,ih nk.2 (fun q hq=>h q (List.mem_cons_of_mem _ hq))⟩
   obtain⟨q,hq,e⟩:=List.mem_map.mp z
   exact nk.1 (List.mem_map.mpr ⟨q,hq,zvc (h q (List.mem_cons_of_mem _ hq)) (h p (List.mem_cons_self ..)) e⟩)
 show((R.of (hkA (s.map ent))).bind fun hs=>if hs.Nodup then R.ok (PyData.dict (s.map ent)) else R.bad)=_
 rw [zoV]
 exact if_pos nd
def K0:Nat:=120^6
def Ok(p:Po):Prop:=∀ k,k<=5->Cm K0 (K0*K0) (p k)
def okB(p:Po):Bool:=(List.range 6).all fun k=>((p k*(K0:Rat)).den==1)&&decide ((p k*(K0:Rat)).num.natAbs<=K0*K0)
theorem zew{p:Po}(h:okB p=true):Ok p:=fun k hk=>by
 have z:=List.all_eq_true.mp h k (List.mem_range.mpr (by omega))
 rw [Bool.and_eq_true] at z
 refine⟨(p k*(K0:Rat)).num,?_,of_decide_eq_true z.2⟩
 have hd:=eq_of_beq z.1
 exact Iv.eq (M:=(p k*(K0:Rat)).num.natAbs) ⟨hd,Nat.le_refl _⟩
theorem zvo{g:Fn}{C M D A:Nat}:∀{s:Sm},(∀ p∈s,Cm C M (g p.1))->(∀ p∈s,Cm D A p.2)->Cm (C*D) (s.length*(M*A)) (ev g s)
 | [],_,_=>Cm.zero _ _
 | p::s,h,k=>by
  rw [zas,List.length_cons,Nat.add_mul,Nat.one_mul,Nat.add_comm]
  exact((h p (List.mem_cons_self ..)).mul (k p (List.mem_cons_self ..))).add (zvo (fun q hq=>h q (List.mem_cons_of_mem _ hq)) fun q hq=>k q (List.mem_cons_of_mem _ hq))
theorem zue{x:Sm}{D A:Nat}(hl:x.length<=2)(hx:∀ p∈x,Cm D A p.2):∀(k:Nat) {f:Fn},(∀ w,f w=0\/f w=1)->Cm (D^k) ((2*A)^k) (pw x k f)
 | 0,f,h=>by
  rcases h [] with e|e
  ·show Cm _ _ (f []);rw [e];exact Cm.zero _ _
  ·show Cm _ _ (f []);rw [e];exact⟨1,by simp,by simp⟩
 | k+1,f,h=>by
  have z:=zvo (g:=fun u=>pw x k fun v=>f (u++v)) (s:=x) (fun p _=>zue hl hx k fun w=>h _) hx
  rw [Nat.pow_succ,Nat.pow_succ]
  refine z.mono (Nat.le_trans (Nat.mul_le_mul_right _ hl) (Nat.le_of_eq ?_))
  rw [Nat.mul_left_comm]
structure Sz(x:Sm)(D:Nat):Prop where
 ln:x.length<=2
 d0:0<D
 d1:D<2^28
 cm:∀ p∈x,Cm D (2^28) p.2
theorem zxk{x:Sm}{D:Nat}(hx:Sz x D){p:Po}(hp:Ok p){f:Fn}(h:∀ w,f w=0\/f w=1):Cm (K0*D^5) (6*(K0*K0*2^145)) (Lp x p f):=by
 have t:∀ k,k<=5->Cm (K0*D^5) (K0*K0*2^145) (p k*pw x k f):=fun k hk=>by
  have z:=((hp k hk).mul (zue hx.ln hx.cm k h)).up (D^(5-k))
  rw [Nat.mul_assoc K0,<- Nat.pow_add,show k+(5-k)=5 by omega,Nat.mul_assoc (K0*K0)] at z
  refine z.mono (Nat.mul_le_mul_left _ ?_)
  have e1:(2*2^28)^k=2^(29*k):=by rw [show 2*2^28=2^29 from rfl,<- Nat.pow_mul]
  have e2:D^(5-k)<=2^(28*(5-k)):=by rw [Nat.pow_mul];exact Nat.pow_le_pow_left (Nat.le_of_lt hx.d1) _
  rw [e1]
  refine Nat.le_trans (Nat.mul_le_mul_left _ e2) ?_
  rw [<- Nat.pow_add]
  exact Nat.pow_le_pow_right (by decide) (by omega)
 unfold Lp
 have z:=(t 0 (by decide)).add ((t 1 (by decide)).add ((t 2 (by decide)).add ((t 3 (by decide)).add ((t 4 (by decide)).add (t 5 (by decide))))))
 exact z.mono (by omega)
structure Gs(x:Sm)(p:Po)(s:Sm):Prop where
 nk:Nk s
 nz:Nz s
 iu:∀ q∈s,InU x q.1
 w5:W5 s
 is:Is x p s
theorem Gs.cm{x:Sm}{D:Nat}(hx:Sz x D){p:Po}(hp:Ok p){s:Sm}(h:Gs x p s):∀ q∈s,Cm (K0*D^5) (6*(K0*K0*2^145)) q.2:=fun q hq=>by
 have e:=zka q.1 h.nk
 rw [zc9 h.nk hq,h.is (fun v=>if v=q.1 then 1 else 0) fun w hw=>if_neg fun z=>by subst z;have:=h.w5 q hq;omega] at e
 have z:=zxk hx hp (f:=fun v=>if v=q.1 then 1 else 0) fun w=>by
  by_cases c:w=q.1
  ·exact .inr (if_pos c)
  ·exact .inl (if_neg c)
 rw [e] at z
 exact z
theorem Gs.ln{x:Sm}{D:Nat}(hx:Sz x D){p:Po}{s:Sm}(h:Gs x p s):s.length<=63:=count hx.ln h.nk h.iu
theorem Gs.eqv{x:Sm}{p:Po}{s t:Sm}(h:Gs x p s)(k:Gs x p t):zbz s=zbz t:=Eqv.told h.nk k.nk h.nz k.nz (h.is.eqv k.is h.w5 k.w5)
theorem Gs.sort{x:Sm}{p:Po}{s:Sm}(h:Gs x p s):Gs x p (zbz s) :=
 ⟨zkt (zbF h.nk),fun q hq=>h.nz q ((zax s).mem_iff.mp hq),fun q hq=>h.iu q ((zax s).mem_iff.mp hq),fun q hq=>h.w5 q ((zax s).mem_iff.mp hq),h.is.perm (zax s).symm⟩
theorem Gs.congr{x:Sm}{p q:Po}{s:Sm}(h:Gs x p s)(e:∀ k,k<=5->p k=q k):Gs x q s:=⟨h.nk,h.nz,h.iu,h.w5,h.is.congr e⟩
theorem Gs.mul{x:Sm}(hx:∀ p∈x,p.1≠[]){p q:Po}{s t:Sm}(h:Gs x p s)(k:Gs x q t):Gs x (pmu p q) (zcb s t) :=
 ⟨zs4 s t,zs3 s t,fun r hr=>by
  obtain⟨a,ha,b,hb,e,l⟩:=zms hr
  rw [e] at l ⊢
  exact(h.iu a ha).app hx (k.iu b hb) l,fun r hr=>by
  obtain⟨a,ha,b,hb,e,l⟩:=zms hr
  exact l,h.is.mul hx k.is⟩
theorem Gs.tim{x:Sm}{p q:Po}{s t:Sm}(h:Gs x p s)(k:Gs x q t)(c:Rat):Gs x (pp p c q) (zcS c t s) :=
 ⟨(zo7 (fun _=>0) c t s h.nk).2,zrB c t s h.nz,fun r hr=>by
  rcases zkL c t s hr with⟨y,hy,e⟩|⟨y,hy,e⟩
  ·rw [<- e];exact h.iu y hy
  ·rw [<- e];exact k.iu y hy,fun r hr=>by
  rcases zkL c t s hr with⟨y,hy,e⟩|⟨y,hy,e⟩
  ·rw [<- e];exact h.w5 y hy
  ·rw [<- e];exact k.w5 y hy,Is.tim h.nk h.is k.is c⟩
theorem InU.nil(x:Sm):InU x []:=⟨0,by decide,List.mem_singleton.mpr rfl⟩
theorem Gs.add{x:Sm}{p:Po}{s:Sm}(h:Gs x p s)(c:Rat):Gs x (pp p c (e0 1)) (zcH s [] c) :=
 ⟨zeP h.nk,zoj [] c h.nz,fun r hr=>by
  rcases zeO hr with z|rfl
  ·exact h.iu r z
  ·exact .nil x,fun r hr=>by
  rcases zeO hr with z|rfl
  ·exact h.w5 r z
  ·exact Nat.zero_le _,Is.add h.nk h.is c⟩
theorem Gs.nil(x:Sm):Gs x (fun _=>0) []:=⟨List.nodup_nil,(fun _ h=>nomatch h),(fun _ h=>nomatch h),(fun _ h=>nomatch h),.nil x⟩
theorem Gs.one(x:Sm):Gs x (e0 1) [([],1)]:=by
 refine⟨by simp [Nk],fun p h=>?_,fun p h=>?_,fun p h=>?_,.one x⟩
 ·rw [List.mem_singleton.mp h];decide
 ·rw [List.mem_singleton.mp h];exact .nil x
 ·rw [List.mem_singleton.mp h];exact Nat.zero_le _
end FL
namespace K58
open PySem FL
section
theorem zny:zaW=zhm:=rfl
structure Xs(c:Int)(x:Sm)(D:Nat):Prop where
 sz:Sz x D
 ne:∀ p∈x,p.1≠[]
 lt:∀ p∈x,∀ y∈p.1,0<=y/\y<c
 c1:1<=c
 c4:c<=4
def C0(D:Nat):Nat:=K0*D^5
def M0:Nat:=6*(K0*K0*2^145)
theorem zwL:M0<2^231:=by decide +kernel
theorem zrf{c:Int}{x:Sm}{D:Nat}(h:Xs c x D):C0 D<2^182:=by
 have z:D^5<=(2^28)^5:=Nat.pow_le_pow_left (Nat.le_of_lt h.sz.d1) 5
 unfold C0
 exact Nat.lt_of_le_of_lt (Nat.mul_le_mul_left _ z) (by decide +kernel)
theorem zre{c:Int}{x:Sm}{D:Nat}(h:Xs c x D):C0 D≠0:=by
 unfold C0
 have:=Nat.pow_pos (n:=5) h.sz.d0
 exact Nat.ne_of_gt (Nat.mul_pos (by decide) this)
theorem zve{C M:Nat}(hC:C≠0)(h1:C<2^400)(h2:M<2^480):znn (fun i r=>Cm C ((i+1)*M) r) (Cm C M) 4000 where
 z:=fun i=>Cm.zero _ _
 up:=fun i r h=>h.mono (Nat.mul_le_mul_right _ (by omega))
 add:=fun i r q h k=>(h.add k).mono (by rw [Nat.add_mul (i+1),Nat.one_mul];exact Nat.le_refl _)
 bp:=fun i r hi h=>(h.bd (a:=400) (b:=493) hC h1 (by
  refine Nat.lt_of_le_of_lt (Nat.mul_le_mul (show i+1<=2^12 by omega) (Nat.le_of_lt h2)) ?_
  rw [<- Nat.pow_add]
  exact Nat.pow_lt_pow_right (by decide) (by decide)) (by decide) (by decide)).mono (by decide)
 bq:=fun q h=>(h.bd (a:=400) (b:=480) hC h1 h2 (by decide) (by decide)).mono (by decide)
section
variable {c:Int}{x s t:Sm}{D:Nat}{p q:Po}
theorem wok(hx:Xs c x D)(h:Gs x p s):∀ r∈s,Wok c r:=fun r hr=>by
 obtain⟨k,_,hk⟩:=h.iu r hr
 exact⟨h.w5 r hr,zro (P:=fun y=>0<=y/\y<c) (fun g hg y hy=>by
  obtain⟨p,hp,rfl⟩:=List.mem_map.mp hg
  exact hx.lt p hp y hy) hk,h.nz r hr⟩
theorem cm(hx:Xs c x D)(hp:Ok p)(h:Gs x p s):∀ r∈s,Cm (C0 D) M0 r.2:=h.cm hx.sz hp
theorem bd(hx:Xs c x D)(hp:Ok p)(h:Gs x p s):∀ r∈s,QR.Bd 413 r.2:=fun r hr=>(cm hx hp h r hr).bd (a:=182) (b:=231) (zre hx) (zrf hx) zwL (by decide) (by decide)
theorem ziz(hx:Xs c x D)(h:Gs x p s)(k:Gs x q t):s.length*t.length<=3969:=Nat.le_trans (Nat.mul_le_mul (h.ln hx.sz) (k.ln hx.sz)) (by decide)
theorem g1(hx:Xs c x D):znn (fun i r=>Cm (C0 D*C0 D) ((i+1)*(M0*M0)) r) (Cm (C0 D*C0 D) (M0*M0)) 4000 :=
 zve (Nat.mul_ne_zero (zre hx) (zre hx)) (Nat.lt_of_lt_of_le (Nat.mul_lt_mul'' (zrf hx) (zrf hx)) (by rw [<- Nat.pow_add];exact Nat.pow_le_pow_right (by decide) (by decide))) (by decide +kernel)
theorem zrX(hx:Xs c x D)(hp:Ok p)(hq:Ok q)(h:Gs x p s)(k:Gs x q t)(al:t.Pairwise fun p q=>p.1.length<=q.1.length):zaJ [dct s,dct t]=.ok (dct (zcb s t)) :=
 zw9 (g1 hx) h.nk k.nk al h.w5 k.w5 (fun a ha b hb=>(cm hx hp h a ha).mul (cm hx hq k b hb)) (fun a ha=>(bd hx hp h a ha).mono (by decide)) (fun a ha=>(bd hx hq k a ha).mono (by decide)) (Nat.le_trans (ziz hx h k) (by decide)) (Nat.lt_of_le_of_lt (ziz hx h k) (by decide)) (Nat.lt_of_le_of_lt (k.ln hx.sz) (by decide))
theorem zoO(hx:Xs c x D)(hp:Ok p)(hq:Ok q)(h:Gs x p s)(k:Gs x q t):zbQ [.list (s.map tln),.list (t.map tln)]=.ok (told (zcb s t)) :=
 (zwN (g1 hx) h.w5 k.w5 (fun a ha b hb=>(cm hx hp h a ha).mul (cm hx hq k b hb)) (fun a ha=>(bd hx hp h a ha).mono (by decide)) (fun a ha=>(bd hx hq k a ha).mono (by decide)) (Nat.le_trans (ziz hx h k) (by decide)) (Nat.lt_of_le_of_lt (ziz hx h k) (by decide)) (Nat.lt_of_le_of_lt ((h.mul hx.ne k).ln hx.sz) (by decide))).1
theorem g2(hx:Xs c x D):znn (fun i r=>Cm (120*C0 D) ((i+1)*(120*M0)) r) (Cm (120*C0 D) (120*M0)) 4000 :=
 zve (Nat.mul_ne_zero (by decide) (zre hx)) (Nat.lt_of_le_of_lt (Nat.mul_le_mul_left _ (Nat.le_of_lt (zrf hx))) (by decide +kernel)) (by decide +kernel)
theorem zxG(hx:Xs c x D)(hp:Ok p)(h:Gs x p s):Fit (fun i r=>Cm (120*C0 D) ((i+1)*(120*M0)) r) 0 s :=
 ⟨h.nk,fun r hr=>by
  have z:=(cm hx hp h r hr).up 120
  rw [Nat.mul_comm,Nat.mul_comm M0] at z
  exact z.mono (by omega)⟩
theorem znz(hx:Xs c x D)(hp:Ok p)(hq:Ok q)(h:Gs x p s)(k:Gs x q t){y:Rat}(hy:Cm 120 120 y):zaW [dct s,num y,dct t]=.ok (.none,[dct (zcS y t s),num y,dct t]):=by
 have l1:=h.ln hx.sz
 have l2:=k.ln hx.sz
 rw [zny]
 exact(zkv (g2 hx) k.nk (fun r hr=>hy.mul (cm hx hq k r hr)) ((hy.bd (a:=7) (b:=7) (by decide) (by decide) (by decide) (by decide) (by decide)).mono (by decide)) (fun a ha=>(bd hx hq k a ha).mono (by decide)) (zxG hx hp h) (by omega) (by unfold lim;omega)).1
theorem znx(hx:Xs c x D)(h:Gs x p s):zc6 [dct s]=.ok (told s):=by
 rw [zpV];exact zlE h.nk (Nat.lt_of_le_of_lt (h.ln hx.sz) (by decide))
theorem zl8(hx:Xs c x D)(h:Gs x p s):zaK [dct s]=.ok (told s):=by
 rw [zkK];exact ziF h.nk (Nat.lt_of_le_of_lt (h.ln hx.sz) (by decide))
theorem zoY(hx:Xs c x D)(h:Gs x p s)(as:Asc s):zaz [.int c,.list (s.map tln)]=.ok (dct s) :=
 zqH hx.c1 hx.c4 as (wok hx h) (by have:=h.ln hx.sz;unfold lim;omega)
theorem zs8(hx:Xs c x D)(hp:Ok p)(h:Gs x p s){y:Rat}(hy:QR.Bd 40000 y):zby [dct s,tp [],num y]=.ok (.none,[dct (zcH s [] y),tp [],num y]):=by
 rw [znX]
 have l1:=h.ln hx.sz
 refine zk2 (by unfold lim;omega) ?_ hy
 cases e:zaR s [] with
 | none=>exact(QR.Bd.zero 0).mono (by decide)
 | some r=>exact(bd hx hp h _ (zdY e)).mono (by decide)
theorem zvL(hx:Xs c x D)(hp:Ok p)(h:Gs x p s){y:Rat}(hy:QR.Bd 40000 y):zbV [dct s,tp [],num y]=.ok (.none,[dct (zcH s [] y),tp [],num y]):=by
 rw [add_eq]
 have l1:=h.ln hx.sz
 refine zhe (by unfold lim;omega) ?_ hy
 cases e:zaR s [] with
 | none=>exact(QR.Bd.zero 0).mono (by decide)
 | some r=>exact(bd hx hp h _ (zdY e)).mono (by decide)
end
theorem zbw{r:Rat}{a:Int}{b:Nat}(h:decide (r.num=a/\r.den=b)=true):num r=.tuple [.int a,.int b]:=by
 have z:=of_decide_eq_true h
 unfold num
 rw [z.1,z.2]
theorem zrZ(k:Nat)(h:k<5)(sg:Bool):Cm 120 120 ((if sg then 1 else -1:Rat)*(1 / ((k:Rat)+1)))/\num ((if sg then 1 else -1:Rat)*(1 / ((k:Rat)+1)))=.tuple [.int (if sg then 1 else -1),.int ((k:Int)+1)]:=by
 match k,h,sg with
 | 0,_,true=>exact⟨⟨120,by decide +kernel,by decide⟩,(zbw (a:=1) (b:=1) (by decide +kernel)).trans rfl⟩
 | 1,_,true=>exact⟨⟨60,by decide +kernel,by decide⟩,(zbw (a:=1) (b:=2) (by decide +kernel)).trans rfl⟩
 | 2,_,true=>exact⟨⟨40,by decide +kernel,by decide⟩,(zbw (a:=1) (b:=3) (by decide +kernel)).trans rfl⟩
 | 3,_,true=>exact⟨⟨30,by decide +kernel,by decide⟩,(zbw (a:=1) (b:=4) (by decide +kernel)).trans rfl⟩
 | 4,_,true=>exact⟨⟨24,by decide +kernel,by decide⟩,(zbw (a:=1) (b:=5) (by decide +kernel)).trans rfl⟩
 | 0,_,false=>exact⟨⟨-120,by decide +kernel,by decide⟩,(zbw (a:=-1) (b:=1) (by decide +kernel)).trans rfl⟩
 | 1,_,false=>exact⟨⟨-60,by decide +kernel,by decide⟩,(zbw (a:=-1) (b:=2) (by decide +kernel)).trans rfl⟩
 | 2,_,false=>exact⟨⟨-40,by decide +kernel,by decide⟩,(zbw (a:=-1) (b:=3) (by decide +kernel)).trans rfl⟩
 | 3,_,false=>exact⟨⟨-30,by decide +kernel,by decide⟩,(zbw (a:=-1) (b:=4) (by decide +kernel)).trans rfl⟩
 | 4,_,false=>exact⟨⟨-24,by decide +kernel,by decide⟩,(zbw (a:=-1) (b:=5) (by decide +kernel)).trans rfl⟩
def shp(h:Po):Nat->Po
 | 0=>e0 1
 | k+1=>pp (fun _=>0) ((if true then 1 else -1:Rat)*(1 / ((k:Rat)+1))) (pmu (shp h k) h)
def gtp(h:Po):Nat->Po
 | 0=>e0 1
 | k+1=>pp (gtp h k) 1 (shp h (k+1))
def hgB(h:Po):Bool:=okB h&&(List.range 6).all fun k=>okB (shp h k)&&okB (gtp h k)&&okB (pmu (shp h k) h)
theorem zn5{pre post:List Int}{y:Int}(e:[1,2,3,4,5]=pre++y::post):pre.length<5/\y=(pre.length:Int)+1:=by
 have h1:([1,2,3,4,5]:List Int)[pre.length]?=some y:=by rw [e];simp
 have h2:pre.length<5:=by
  have:=congrArg List.length e
  simp only [List.length_cons,List.length_nil,List.length_append] at this
  omega
 refine⟨h2,?_⟩
 generalize pre.length=k at h1 h2
 match k,h2 with
 | 0,_=>cases h1;rfl
 | 1,_=>cases h1;rfl
 | 2,_=>cases h1;rfl
 | 3,_=>cases h1;rfl
 | 4,_=>cases h1;rfl
theorem zqT{c:Int}{x s:Sm}{D:Nat}{h:Po}(hx:Xs c x D)(hs:Gs x h s)(al:s.Pairwise fun p q=>p.1.length<=q.1.length)(hg:hgB h=true):∃ u,zdU [dct s]=.ok (dct u)/\Gs x (gtp h 5) u:=by
 rw [hgB,Bool.and_eq_true] at hg
 have oh:Ok h:=zew hg.1
 have ok3:∀ k,k<=5->Ok (shp h k)/\Ok (gtp h k)/\Ok (pmu (shp h k) h):=fun k hk=>by
  have z:=List.all_eq_true.mp hg.2 k (List.mem_range.mpr (by omega))
  rw [Bool.and_eq_true,Bool.and_eq_true] at z
  exact⟨zew z.1.1,zew z.1.2,zew z.2⟩
 have L:=zbg (f:=fun i:Int=>PyData.int i) (g:=gN 3) (b:=zbY)
  (fun done ρ=>∃ u v y3 y4,Np y3/\Np y4/\ρ=[.val (dct s),.ow false (dct u),.val (dct v),y3,y4]/\Gs x (gtp h done.length) u/\Gs x (shp h done.length) v)
  [1,2,3,4,5] [] [.val (dct s),.ow false (dct [([],1)]),.val (dct [([],1)]),.no,.no] ⟨_,_,.no,.no,zbm,zbm,rfl,.one x,.one x⟩ (by
   intro pre y post ρ e hP
   obtain⟨u,v,y3,y4,n3,n4,rfl,gu,gv⟩:=hP
   obtain⟨hk,rfl⟩:=zn5 (by simpa using e)
   generalize hn:pre.length=k at hk gu gv ⊢
   obtain⟨cy,ey⟩:=zrZ k hk true
   have o1:=ok3 k (by omega)
   have o2:=ok3 (k+1) (by omega)
   have ct:=zrX hx o1.1 oh gv hs al
   have gm:=gv.mul hx.ne hs
   have t1:=znz hx (zew (by decide +kernel)) o1.2.2 (Gs.nil x) gm cy
   have gv':Gs x (shp h (k+1)) (zcS ((if true then 1 else -1:Rat)*(1 / ((k:Rat)+1))) (zcb v s) []):=(Gs.nil x).tim gm _
   have t2:=znz hx o1.2.1 o2.1 gu gv' (y:=1) ⟨120,by decide +kernel,by decide⟩
   have gu':Gs x (gtp h (k+1)) (zcS 1 (zcS ((if true then 1 else -1:Rat)*(1 / ((k:Rat)+1))) (zcb v s) []) u):=gu.tim gv' 1
   rw [ey] at t1
   generalize zcS ((if true then 1 else -1:Rat)*(1 / ((k:Rat)+1))) (zcb v s) []=v' at t1 t2 gv' gu'
   generalize zcS 1 v' u=u' at t2 gu'
   have gx:gN 3 (.int ((k:Int)+1)) [.val (dct s),.ow false (dct u),.val (dct v),y3,y4]=.ok [.val (dct s),.ow false (dct u),.val (dct v),.val (.int ((k:Int)+1)),y4]:=zeY rfl n3
   have s1:zdE 4 zcq [.val (dct s),.ow false (dct u),.val (dct v),.val (.int ((k:Int)+1)),y4]=.ok (.nx,[.val (dct s),.ow false (dct u),.val (dct v),.val (.int ((k:Int)+1)),.ow false (dct [])]):=zis (y:=(dct [],[.val (dct s),.ow false (dct u),.val (dct v),.val (.int ((k:Int)+1)),y4])) rfl rfl n4
   have l2:leB 2 lim=true:=by decide
   have s2:sE (zao zaW [.m 4,.v (zaP (zaa (eC (.int 1)) (zaa (eV 3) zah))),.v (zag zaJ (zaa (eV 2) (zaa (eV 0) zah)))]) [.val (dct s),.ow false (dct u),.val (dct v),.val (.int ((k:Int)+1)),.ow false (dct [])]=.ok (.nx,[.val (dct s),.ow false (dct u),.val (dct v),.val (.int ((k:Int)+1)),.ow false (dct v')]):=by
    unfold sE
    rw [zdp (p:=false) (d:=dct []) (v:=.tuple [.int 1,.int ((k:Int)+1)]) (u:=dct (zcb v s)) (r:=.none) (d':=dct v') rfl ?_ ?_ t1]
    ·rfl
    ·simp only [zaP,zaa,zah,eC,eV,zac,zz0,zz1,List.length_cons,List.length_nil,Nat.reduceAdd,zav l2]
    ·simp only [zag,zaa,zah,eV,zac,zz0,zz1,ct]
   have s3:zkP 4 (zaL (gN 2) (eV 4)) [.val (dct s),.ow false (dct u),.val (dct v),.val (.int ((k:Int)+1)),.ow false (dct v')]=.ok (.nx,[.val (dct s),.ow false (dct u),.val (dct v'),.val (.int ((k:Int)+1)),.val (dct v')]):=rfl
   have s4:sE (zao zaW [.m 1,.v (eC (.tuple [(.int 1),(.int 1)])),.v (eV 2)]) [.val (dct s),.ow false (dct u),.val (dct v'),.val (.int ((k:Int)+1)),.val (dct v')]=.ok (.nx,[.val (dct s),.ow false (dct u'),.val (dct v'),.val (.int ((k:Int)+1)),.val (dct v')]):=by
    unfold sE
    rw [zdp (p:=false) (d:=dct u) (v:=num 1) (u:=dct v') (r:=.none) (d':=dct u') rfl rfl rfl t2]
    rfl
   refine⟨[.val (dct s),.ow false (dct u'),.val (dct v'),.val (.int ((k:Int)+1)),.val (dct v')],.nx,?_,.inl rfl,u',v',_,_,zaA _,zaA _,rfl,by rw [List.length_append,hn];exact gu',by rw [List.length_append,hn];exact gv'⟩
   rw [gx,zac]
   unfold zbY
   rw [zai s1,zai s2,zai s3]
   exact s4)
 obtain⟨ρ',e,u,v,y3,y4,n3,n4,rfl,gu,gv⟩:=L
 refine⟨u,?_,gu⟩
 refine zb9 (ρ:=[.val (dct s),.ow false (dct u),.val (dct v),y3,y4]) rfl ?_
 show zcB [.val (dct s),.no,.no,.no,.no]=_
 have s1:zdE 1 (zeZ (zaP zah) (eC (.tuple [(.int 1),(.int 1)]))) [.val (dct s),.no,.no,.no,.no]=.ok (.nx,[.val (dct s),.ow false (dct [([],1)]),.no,.no,.no]):=rfl
 have s2:zaL (gN 2) (zeZ (zaP zah) (eC (.tuple [(.int 1),(.int 1)]))) [.val (dct s),.ow false (dct [([],1)]),.no,.no,.no]=.ok (.nx,[.val (dct s),.ow false (dct [([],1)]),.val (dct [([],1)]),.no,.no]):=rfl
 have s3:zbW [.val (dct s),.ow false (dct [([],1)]),.val (dct [([],1)]),.no,.no]=.ok (.nx,[.val (dct s),.ow false (dct u),.val (dct v),y3,y4]):=by
  unfold zbW zep
  exact e
 unfold zcB
 rw [zai s1,zai s2,zai s3]
 rfl
end
section
def lpp(r:Po):Nat->Po
 | 0=>e0 1
 | k+1=>pmu (lpp r k) r
def ltp(r:Po):Nat->Po
 | 0=>fun _=>0
 | k+1=>pp (ltp r k) ((if decide (k % 2=0) then 1 else -1:Rat)*(1 / ((k:Rat)+1))) (lpp r (k+1))
def hlB(r:Po):Bool:=okB r&&(List.range 6).all fun k=>okB (lpp r k)&&okB (ltp r k)
theorem zsi(k:Nat)(h:k<5){ρ:En}(hk:ρ[4]?=some (.val (.int ((k:Int)+1)))):zaP (zaa (eIf (tB (e2 eqD (e2 zgd (eV 4) (eC (.int 2))) (eC (.int 1)))) (eC (.int 1)) (e1 zrE (eC (.int 1)))) (zaa (eV 4) zah)) ρ=.ok (.tuple [.int (if decide (k % 2=0) then 1 else -1),.int ((k:Int)+1)],ρ):=by
 have l2:leB 2 lim=true:=by decide
 have key:∀(b:Bool) (i:Int),zgd (.int i) (.int 2)=.ok (.int (if b then 1 else 0))->zaP (zaa (eIf (tB (e2 eqD (e2 zgd (eV 4) (eC (.int 2))) (eC (.int 1)))) (eC (.int 1)) (e1 zrE (eC (.int 1)))) (zaa (eV 4) zah)) (ρ.set 4 (.val (.int i)))=.ok (.tuple [.int (if b then 1 else -1),.int i],ρ.set 4 (.val (.int i))):=fun b i hm=>by
  have h4:(ρ.set 4 (.val (.int i)))[4]?=some (.val (.int i)):=List.getElem?_set_self (by obtain⟨z,_⟩:=List.getElem?_eq_some_iff.mp hk;exact z)
  have e1':eqD (.int 1) (.int 1)=.ok (.bool true):=rfl
  have e2':eqD (.int 0) (.int 1)=.ok (.bool false):=rfl
  have e3:zrE (.int 1)=.ok (.int (-1)):=rfl
  cases b with
  | true=>simp only [zaP,zaa,zah,eIf,tB,FL.e1,FL.e2,eC,eV,h4,zac,hm,if_true,e1',List.length_cons,List.length_nil,Nat.reduceAdd,zav l2]
  | false=>simp only [zaP,zaa,zah,eIf,tB,FL.e1,FL.e2,eC,eV,h4,zac,hm,if_false,Bool.false_eq_true,e2',e3,List.length_cons,List.length_nil,Nat.reduceAdd,zav l2]
 have eρ:ρ.set 4 (.val (.int ((k:Int)+1)))=ρ:=by
  obtain⟨z,e⟩:=List.getElem?_eq_some_iff.mp hk
  rw [<- e];exact List.set_getElem_self z
 have z:=key (decide (k % 2=0)) ((k:Int)+1) (by
  match k,h with
  | 0,_=>rfl
  | 1,_=>rfl
  | 2,_=>rfl
  | 3,_=>rfl
  | 4,_=>rfl)
 rw [eρ] at z
 exact z
theorem zoA{c:Int}{x s:Sm}{D:Nat}{h:Po}(hx:Xs c x D)(hs:Gs x h s)(al:s.Pairwise fun p q=>p.1.length<=q.1.length)(h1:zaR s []=some 1)(oh:okB h=true)(hg:hlB (pp h (-1) (e0 1))=true):∃ u,zdt [dct s]=.ok (dct u)/\Gs x (ltp (pp h (-1) (e0 1)) 5) u:=by
 rw [hlB,Bool.and_eq_true] at hg
 have hr:=hs.add (-1)
 have ar:=zvL hx (zew oh) hs (y:=-1) ⟨by decide,by decide⟩
 have alr:(zcH s [] (-1)).Pairwise fun p q=>p.1.length<=q.1.length:=by
  unfold zcH
  rw [h1]
  rw [if_neg (by decide +kernel),if_pos (show(some (1:Rat)).isSome=true from rfl)]
  exact al.filter _
 have dc:zkf (dct s)=.ok (dct s):=zq5 hs.nk fun q hq=>zl7 (wok hx hs q hq).ln fun y hy=>by
  have:=(wok hx hs q hq).lt y hy
  have:=hx.c4
  omega
 generalize pp h (-1) (e0 1)=r at hg hr ⊢
 generalize zcH s [] (-1)=t at hr ar alr
 have or':Ok r:=zew hg.1
 have ok2:∀ k,k<=5->Ok (lpp r k)/\Ok (ltp r k):=fun k hk=>by
  have z:=List.all_eq_true.mp hg.2 k (List.mem_range.mpr (by omega))
  rw [Bool.and_eq_true] at z
  exact⟨zew z.1,zew z.2⟩
 have L:=zbg (f:=fun i:Int=>PyData.int i) (g:=gN 4) (b:=zbD)
  (fun done ρ=>∃ u v y4,Np y4/\ρ=[.val (dct s),.val (dct t),.ow false (dct u),.val (dct v),y4]/\Gs x (ltp r done.length) u/\Gs x (lpp r done.length) v)
  [1,2,3,4,5] [] [.val (dct s),.val (dct t),.ow false (dct []),.val (dct [([],1)]),.no] ⟨_,_,.no,zbm,rfl,.nil x,.one x⟩ (by
   intro pre y post ρ e hP
   obtain⟨u,v,y4,n4,rfl,gu,gv⟩:=hP
   obtain⟨hk,rfl⟩:=zn5 (by simpa using e)
   generalize hn:pre.length=k at hk gu gv ⊢
   obtain⟨cy,ey⟩:=zrZ k hk (decide (k % 2=0))
   have o1:=ok2 k (by omega)
   have o2:=ok2 (k+1) (by omega)
   have ct:=zrX hx o1.1 or' gv hr alr
   have gm:Gs x (lpp r (k+1)) (zcb v t):=gv.mul hx.ne hr
   have t1:=znz hx o1.2 o2.1 gu gm cy
   have gu':Gs x (ltp r (k+1)) (zcS ((if decide (k % 2=0) then 1 else -1:Rat)*(1 / ((k:Rat)+1))) (zcb v t) u):=gu.tim gm _
   rw [ey] at t1
   generalize zcS ((if decide (k % 2=0) then 1 else -1:Rat)*(1 / ((k:Rat)+1))) (zcb v t) u=u' at t1 gu'
   generalize zcb v t=v' at ct gm t1
   have gx:gN 4 (.int ((k:Int)+1)) [.val (dct s),.val (dct t),.ow false (dct u),.val (dct v),y4]=.ok [.val (dct s),.val (dct t),.ow false (dct u),.val (dct v),.val (.int ((k:Int)+1))]:=zeY rfl n4
   have s1:zaL (gN 3) (zag zaJ (zaa (eV 3) (zaa (eV 1) zah))) [.val (dct s),.val (dct t),.ow false (dct u),.val (dct v),.val (.int ((k:Int)+1))]=.ok (.nx,[.val (dct s),.val (dct t),.ow false (dct u),.val (dct v'),.val (.int ((k:Int)+1))]) :=
    zb8 (y:=(dct v',[.val (dct s),.val (dct t),.ow false (dct u),.val (dct v),.val (.int ((k:Int)+1))])) (by simp only [zag,zaa,zah,eV,zac,zz0,zz1,ct]) rfl (zaA _)
   have s2:sE (zao zaW [.m 2,.v (zaP (zaa (eIf (tB (e2 eqD (e2 zgd (eV 4) (eC (.int 2))) (eC (.int 1)))) (eC (.int 1)) (e1 zrE (eC (.int 1)))) (zaa (eV 4) zah))),.v (eV 3)]) [.val (dct s),.val (dct t),.ow false (dct u),.val (dct v'),.val (.int ((k:Int)+1))]=.ok (.nx,[.val (dct s),.val (dct t),.ow false (dct u'),.val (dct v'),.val (.int ((k:Int)+1))]):=by
    unfold sE
    rw [zdp (p:=false) (d:=dct u) (v:=.tuple [.int (if decide (k % 2=0) then 1 else -1),.int ((k:Int)+1)]) (u:=dct v') (r:=.none) (d':=dct u') rfl (zsi k hk rfl) rfl t1]
    rfl
   refine⟨[.val (dct s),.val (dct t),.ow false (dct u'),.val (dct v'),.val (.int ((k:Int)+1))],.nx,?_,.inl rfl,u',v',_,zaA _,rfl,by rw [List.length_append,hn];exact gu',by rw [List.length_append,hn];exact gm⟩
   rw [gx,zac]
   unfold zbD
   rw [zai s1]
   exact s2)
 obtain⟨ρ',e,u,v,y4,n4,rfl,gu,gv⟩:=L
 refine⟨u,?_,gu⟩
 refine zb9 (ρ:=[.val (dct s),.val (dct t),.ow false (dct u),.val (dct v),y4]) rfl ?_
 show zch [.val (dct s),.no,.no,.no,.no]=_
 have s1:zdE 1 (e1 zkf (eV 0)) [.val (dct s),.no,.no,.no,.no]=.ok (.nx,[.val (dct s),.ow false (dct s),.no,.no,.no]):=zis (y:=(dct s,[.val (dct s),.no,.no,.no,.no])) (by simp only [FL.e1,eV,zac,zz0,dc]) rfl zbm
 have s2:sE (zao zbV [.m 1,.v (zaP zah),.v (eC (.tuple [(.int (-1)),(.int 1)]))]) [.val (dct s),.ow false (dct s),.no,.no,.no]=.ok (.nx,[.val (dct s),.ow false (dct t),.no,.no,.no]):=by
  unfold sE
  rw [zdp (p:=false) (d:=dct s) (v:=tp []) (u:=num (-1)) (r:=.none) (d':=dct t) rfl rfl rfl ar]
  rfl
 have s3:zdE 2 zcq [.val (dct s),.ow false (dct t),.no,.no,.no]=.ok (.nx,[.val (dct s),.ow false (dct t),.ow false (dct []),.no,.no]):=rfl
 have s4:zaL (gN 3) (zeZ (zaP zah) (eC (.tuple [(.int 1),(.int 1)]))) [.val (dct s),.ow false (dct t),.ow false (dct []),.no,.no]=.ok (.nx,[.val (dct s),.ow false (dct t),.ow false (dct []),.val (dct [([],1)]),.no]):=rfl
 have s5:zkP 1 za6 [.val (dct s),.ow false (dct t),.ow false (dct []),.val (dct [([],1)]),.no]=.ok (.nx,[.val (dct s),.val (dct t),.ow false (dct u),.val (dct v),y4]):=by
  show za6 [.val (dct s),.val (dct t),.ow false (dct []),.val (dct [([],1)]),.no]=_
  unfold za6 zep
  exact e
 unfold zch
 rw [zai s1,zai s2,zai s3,zai s4,zai s5]
 rfl
def fd(h:Po)(a:Nat->Rat):Nat->Po
 | 0=>fun _=>0
 | k+1=>pp (fd h a k) (a k) (lpp h (k+1))
def hfB(h:Po)(a:Nat->Rat):Bool:=okB h&&(List.range 6).all fun k=>okB (lpp h k)&&okB (fd h a k)
theorem zqE{c:Int}{x t acc:Sm}{D:Nat}{p q:Po}(hx:Xs c x D)(hp:Ok p)(hq:Ok q)(ha:Gs x p acc)(ht:Gs x q t){y:Rat}(hy:Cm 120 120 y){T S W:PyData}{x5 x6:Sl}(n5:Np x5)(n6:Np x6) :
  ∃ y5 y6,Np y5/\Np y6/\forL (gT [gN 5,gN 6]) za7 (t.map tln) [.val T,.val S,.ow false (dct acc),.val W,.val (num y),x5,x6]=.ok (.nx,[.val T,.val S,.ow false (dct (zcS y t acc)),.val W,.val (num y),y5,y6]):=by
 have l1:=ha.ln hx.sz
 have l2:=ht.ln hx.sz
 have g:=g2 hx
 have L:=zbg (f:=tln) (g:=gT [gN 5,gN 6]) (b:=za7)
  (fun done ρ=>∃ y5 y6,Np y5/\Np y6/\ρ=[.val T,.val S,.ow false (dct (zcS y done acc)),.val W,.val (num y),y5,y6]/\Fit (fun i r=>Cm (120*C0 D) ((i+1)*(120*M0)) r) (0+done.length) (zcS y done acc)/\(zcS y done acc).length<=acc.length+done.length)
  t [] [.val T,.val S,.ow false (dct acc),.val W,.val (num y),x5,x6] ⟨x5,x6,n5,n6,rfl,zxG hx hp ha,Nat.le_refl _⟩ (by
   intro pre z post ρ e hP
   obtain⟨y5,y6,h5,h6,rfl,fp,hlp⟩:=hP
   rw [List.nil_append] at e
   have mz:z∈t:=by rw [e];simp
   have hlen:pre.length+1<=t.length:=by rw [e];simp
   generalize hA:zcS y pre acc=A at fp hlp
   have ein:zcS y (pre++[z]) acc=zcH A z.1 (y*z.2):=by rw [zeM,hA]
   have gx:gT [gN 5,gN 6] (tln z) [.val T,.val S,.ow false (dct A),.val W,.val (num y),y5,y6]=.ok [.val T,.val S,.ow false (dct A),.val W,.val (num y),.val (tp z.1),.val (num z.2)]:=ztk rfl rfl (by decide) h5 h6
   have hQ:Cm (120*C0 D) (120*M0) (y*z.2):=hy.mul (cm hx hq ht z mz)
   have yb:QR.Bd 40000 y:=(hy.bd (a:=7) (b:=7) (by decide) (by decide) (by decide) (by decide) (by decide)).mono (by decide)
   have by':zdW [num z.2,num y]=.ok (num (y*z.2)):=by
    rw [zvF,zrK ((bd hx hq ht z mz).mono (by decide):QR.Bd 40000 z.2) yb (by decide),Rat.mul_comm]
   have pt:zby [dct A,tp z.1,num (y*z.2)]=.ok (.none,[dct (zcH A z.1 (y*z.2)),tp z.1,num (y*z.2)]):=by
    rw [znX]
    exact zk2 (by unfold lim;omega) (g.bp _ _ (by omega) (fp.get g _)) (g.bq _ hQ)
   refine⟨[.val T,.val S,.ow false (dct (zcH A z.1 (y*z.2))),.val W,.val (num y),.val (tp z.1),.val (num z.2)],.nx,?_,.inl rfl,_,_,zaA _,zaA _,by rw [ein],?_,?_⟩
   ·rw [gx,zac]
    unfold za7 sE
    rw [zdp (p:=false) (d:=dct A) (v:=tp z.1) (u:=num (y*z.2)) (r:=.none) (d':=dct (zcH A z.1 (y*z.2))) rfl rfl ?_ pt]
    ·rfl
    ·simp only [zag,zaa,zah,eV,zac,zz0,zz1,by']
   ·rw [ein,List.length_append,List.length_singleton]
    exact fp.add g _ hQ
   ·rw [ein,List.length_append,List.length_singleton]
    have:=zf9 A z.1 (y*z.2)
    omega)
 obtain⟨ρ',e,y5,y6,h5,h6,rfl,_⟩:=L
 exact⟨y5,y6,h5,h6,e⟩
theorem zjG{c:Int}{x s:Sm}{D:Nat}{h:Po}{a:Nat->Rat}(hx:Xs c x D)(hs:Gs x h s)(ha:∀ k,k<5->Cm 120 120 (a k))(hg:hfB h a=true):∃ u,zbN [.list (s.map tln),.list ([0,1,2,3,4].map fun k:Nat=>num (a k))]=.ok (dct u)/\Gs x (fd h a 5) u:=by
 rw [hfB,Bool.and_eq_true] at hg
 have oh:Ok h:=zew hg.1
 have ok2:∀ k,k<=5->Ok (lpp h k)/\Ok (fd h a k):=fun k hk=>by
  have z:=List.all_eq_true.mp hg.2 k (List.mem_range.mpr (by omega))
  rw [Bool.and_eq_true] at z
  exact⟨zew z.1,zew z.2⟩
 generalize hS:(PyData.list ([0,1,2,3,4].map fun k:Nat=>num (a k)))=S
 have L:=zbg (f:=fun k:Nat=>num (a k)) (g:=gN 4) (b:=zbE)
  (fun done ρ=>∃ u v y4 y5 y6,Np y4/\Np y5/\Np y6/\ρ=[.val (.list (s.map tln)),.val S,.ow false (dct u),.val (.list (v.map tln)),y4,y5,y6]/\Gs x (fd h a done.length) u/\Gs x (lpp h done.length) v)
  [0,1,2,3,4] [] [.val (.list (s.map tln)),.val S,.ow false (dct []),.val (.list ([([],1)].map tln)),.no,.no,.no] ⟨[],[([],1)],.no,.no,.no,zbm,zbm,zbm,rfl,.nil x,.one x⟩ (by
   intro pre y post ρ e hP
   obtain⟨u,v,y4,y5,y6,n4,n5,n6,rfl,gu,gv⟩:=hP
   obtain⟨hk,rfl⟩:pre.length<5/\y=pre.length:=by
    have z:=zn5 (pre:=pre.map fun k:Nat=>(k:Int)+1) (post:=post.map fun k:Nat=>(k:Int)+1) (y:=(y:Int)+1) (by
     have:=congrArg (List.map fun k:Nat=>(k:Int)+1) (show [0,1,2,3,4]=pre++y::post from by simpa using e)
     rw [List.map_append,List.map_cons] at this
     exact this)
    rw [List.length_map] at z
    exact⟨z.1,by omega⟩
   generalize hn:pre.length=k at hk gu gv ⊢
   have o1:=ok2 k (by omega)
   have o2:=ok2 (k+1) (by omega)
   have jn:=zoO hx o1.1 oh gv hs
   have gm:Gs x (lpp h (k+1)) (zbz (zcb v s)):=(gv.mul hx.ne hs).sort
   have gu':Gs x (fd h a (k+1)) (zcS (a k) (zbz (zcb v s)) u):=gu.tim gm _
   unfold told at jn
   generalize zbz (zcb v s)=v' at jn gm gu'
   obtain⟨z5,z6,m5,m6,ei⟩:=zqE hx o1.2 o2.1 gu gm (ha k hk) (T:=.list (s.map tln)) (S:=S) (W:=.list (v'.map tln)) n5 n6
   generalize zcS (a k) v' u=u' at ei gu'
   have gx:gN 4 (num (a k)) [.val (.list (s.map tln)),.val S,.ow false (dct u),.val (.list (v.map tln)),y4,y5,y6]=.ok [.val (.list (s.map tln)),.val S,.ow false (dct u),.val (.list (v.map tln)),.val (num (a k)),y5,y6]:=zeY rfl n4
   have s1:zaL (gN 3) (zag zbQ (zaa (eV 3) (zaa (eV 0) zah))) [.val (.list (s.map tln)),.val S,.ow false (dct u),.val (.list (v.map tln)),.val (num (a k)),y5,y6]=.ok (.nx,[.val (.list (s.map tln)),.val S,.ow false (dct u),.val (.list (v'.map tln)),.val (num (a k)),y5,y6]) :=
    zb8 (y:=(.list (v'.map tln),[.val (.list (s.map tln)),.val S,.ow false (dct u),.val (.list (v.map tln)),.val (num (a k)),y5,y6])) (by simp only [zag,zaa,zah,eV,zac,zz0,zz1,jn]) rfl (zaA _)
   refine⟨[.val (.list (s.map tln)),.val S,.ow false (dct u'),.val (.list (v'.map tln)),.val (num (a k)),z5,z6],.nx,?_,.inl rfl,u',v',_,_,_,zaA _,m5,m6,rfl,by rw [List.length_append,hn];exact gu',by rw [List.length_append,hn];exact gm⟩
   rw [gx,zac]
   unfold zbE
   rw [zai s1]
   exact ei)
 obtain⟨ρ',e,u,v,y4,y5,y6,n4,n5,n6,rfl,gu,gv⟩:=L
 refine⟨u,?_,gu⟩
 refine zb9 (ρ:=[.val (.list (s.map tln)),.val S,.ow false (dct u),.val (.list (v.map tln)),y4,y5,y6]) rfl ?_
 show zci [.val (.list (s.map tln)),.val S,.no,.no,.no,.no,.no]=_
 have s1:zdE 2 zcq [.val (.list (s.map tln)),.val S,.no,.no,.no,.no,.no]=.ok (.nx,[.val (.list (s.map tln)),.val S,.ow false (dct []),.no,.no,.no,.no]):=rfl
 have s2:zaL (gN 3) (zcR (zaa (zaP (zaa (zaP zah) (zaa (zaP (zaa (eC (.int 1)) (zaa (eC (.int 1)) zah))) zah))) zah)) [.val (.list (s.map tln)),.val S,.ow false (dct []),.no,.no,.no,.no]=.ok (.nx,[.val (.list (s.map tln)),.val S,.ow false (dct []),.val (.list ([([],1)].map tln)),.no,.no,.no]):=rfl
 have s3:zbC [.val (.list (s.map tln)),.val S,.ow false (dct []),.val (.list ([([],1)].map tln)),.no,.no,.no]=.ok (.nx,[.val (.list (s.map tln)),.val S,.ow false (dct u),.val (.list (v.map tln)),y4,y5,y6]):=by
  unfold zbC zep
  have hi:iE (eV 1) [.val (.list (s.map tln)),.val S,.ow false (dct []),.val (.list ([([],1)].map tln)),.no,.no,.no]=.ok ([0,1,2,3,4].map fun k:Nat=>num (a k),[.val (.list (s.map tln)),.val S,.ow false (dct []),.val (.list ([([],1)].map tln)),.no,.no,.no]):=by
   rw [<- hS];rfl
  rw [hi,zac]
  exact e
 unfold zci
 rw [zai s1,zai s2,zai s3]
 rfl
end
end K58
namespace FL
open PySem
theorem zsl(i:Int){n:Nat}(h:i.natAbs<2^n)(hn:0<n):num (i:Rat)=.tuple [.int i,.int 1]/\QR.Bd n (i:Rat):=by
 refine⟨rfl,?_,?_⟩
 ·simpa using h
 ·show 1<2^n
  exact Nat.one_lt_two_pow (by omega)
theorem zok{k:Nat}{d:D}(h:zfa k d)(hk:k<=50000):∃(r:Rat) (d':D),zbb [d]=.ok (num r,[d'])/\QR.Bd 14 r/\zfa (k+3) d':=by
 obtain⟨w,d1,t1,w0,w5,p1⟩:=zc7 h (by omega) 5 (by decide) (by decide)
 have lt3:ltD (.int w) (.int 3)=.ok (.bool (decide (w<3))):=ziG _ _
 have eq3:eqD (.int w) (.int 3)=.ok (.bool (decide (w=3))):=zi1 _ _
 by_cases c1:w<3
 ·have l3:leB 3 lim=true:=by decide
  have l2:leB 2 lim=true:=by decide
  have ng:zrE (.int 1)=.ok (.int (-1)):=rfl
  have c:w=0\/w=1\/w=2:=by omega
  rw [decide_eq_true c1] at lt3
  rcases c with rfl|rfl|rfl
  ·refine⟨0,d1,?_,⟨by decide,by decide⟩,p1.mono (by omega)⟩
   simp only [zbb,FL.run,List.length_cons,List.length_nil,Nat.reduceAdd,zbf,zat,zaL,zao,zjm,zaw,slots,if_true,Nat.reduceSub,List.replicate,List.cons_append,List.nil_append,zz0,eC,zac,zhd,zhz,bkL,bk1,t1,zhc,List.lookup_cons,List.lookup_nil,gN,zz1,List.set_cons_succ,List.set_cons_zero,sIf,tB,FL.e2,eV,zaD,zcR,zaa,zaP,zah,zav l2,FL.e1,ng,zav l3,sNx,zhr,zag,lt3,outs,outD]
   rfl
  ·refine⟨1,d1,?_,⟨by decide,by decide⟩,p1.mono (by omega)⟩
   simp only [zbb,FL.run,List.length_cons,List.length_nil,Nat.reduceAdd,zbf,zat,zaL,zao,zjm,zaw,slots,if_true,Nat.reduceSub,List.replicate,List.cons_append,List.nil_append,zz0,eC,zac,zhd,zhz,bkL,bk1,t1,zhc,List.lookup_cons,List.lookup_nil,gN,zz1,List.set_cons_succ,List.set_cons_zero,sIf,tB,FL.e2,eV,zaD,zcR,zaa,zaP,zah,zav l2,FL.e1,ng,zav l3,sNx,zhr,zag,lt3,outs,outD]
   rfl
  ·refine⟨-1,d1,?_,⟨by decide,by decide⟩,p1.mono (by omega)⟩
   simp only [zbb,FL.run,List.length_cons,List.length_nil,Nat.reduceAdd,zbf,zat,zaL,zao,zjm,zaw,slots,if_true,Nat.reduceSub,List.replicate,List.cons_append,List.nil_append,zz0,eC,zac,zhd,zhz,bkL,bk1,t1,zhc,List.lookup_cons,List.lookup_nil,gN,zz1,List.set_cons_succ,List.set_cons_zero,sIf,tB,FL.e2,eV,zaD,zcR,zaa,zaP,zah,zav l2,FL.e1,ng,zav l3,sNx,zhr,zag,lt3,outs,outD]
   rfl
 ·rw [decide_eq_false c1] at lt3
  by_cases c2:w=3
  ·rw [decide_eq_true c2] at eq3
   obtain⟨v,d2,t2,v0,v1,p2⟩:=zc7 p1 (by omega) 13 (by decide) (by decide)
   obtain⟨rn,rb⟩:=zsl (v-6) (n:=14) (by omega) (by decide)
   refine⟨((v-6:Int):Rat),d2,?_,rb,p2.mono (by omega)⟩
   rw [rn]
   have l2:leB 2 lim=true:=by decide
   have sb:zhr (.int v) (.int 6)=.ok (.int (v-6)):=rfl
   simp only [zbb,FL.run,List.length_cons,List.length_nil,Nat.reduceAdd,zbf,zat,zaL,zao,zjm,zaw,slots,if_true,Nat.reduceSub,List.replicate,List.cons_append,List.nil_append,zz0,eC,zac,zhd,zhz,bkL,bk1,t1,zhc,List.lookup_cons,beq_self_eq_true,gN,zz1,List.set_cons_succ,List.set_cons_zero,sIf,tB,FL.e2,eV,zaD,zcR,zaa,zaP,zah,zav l2,FL.e1,sNx,zhr,zag,lt3,Bool.false_eq_true,if_false,eq3,t2,outs,outD,List.head?_cons]
  ·rw [decide_eq_false c2] at eq3
   obtain⟨v,d2,t2,v0,v1,p2⟩:=zc7 p1 (by omega) 2001 (by decide) (by decide)
   obtain⟨u,d3,t3,u0,u1,p3⟩:=zc7 p2 (by omega) 9 (by decide) (by decide)
   have hb:(1+u).toNat≠0:=by omega
   have hl:=zuZ (v-1000) (b:=(1+u).toNat) (n:=14) hb (by omega) (by decide)
   rw [show(((1+u).toNat:Nat):Int)=1+u by omega] at hl
   refine⟨Rat.normalize (v-1000) (1+u).toNat hb,d3,?_,?_,p3⟩
   ·have pw:zhI (.int 10) (.int 3)=.ok (.int 1000):=rfl
    have ml:zbS (.int 2) (.int 1000)=.ok (.int 2000):=rfl
    have ad:zaV (.int 2000) (.int 1)=.ok (.int 2001):=rfl
    have ad2:zaV (.int 1) (.int u)=.ok (.int (1+u)):=rfl
    have sb:zhr (.int v) (.int 1000)=.ok (.int (v-1000)):=rfl
    simp only [zbb,FL.run,List.length_cons,List.length_nil,Nat.reduceAdd,zbf,zat,zaL,zao,zjm,zaw,slots,if_true,Nat.reduceSub,List.replicate,List.cons_append,List.nil_append,zz0,eC,zac,zhd,zhz,bkL,bk1,t1,zhc,List.lookup_cons,beq_self_eq_true,gN,zz1,List.set_cons_succ,List.set_cons_zero,sIf,tB,FL.e2,eV,zaD,zcR,zaa,zaP,zah,FL.e1,sNx,zhr,zag,pw,ml,ad,lt3,Bool.false_eq_true,if_false,eq3,t2,t3,ad2,hl,outs,outD,List.head?_cons]
   ·have h1:=QR.norm (t:=v-1000) hb
    have h2:=QR.zvl (v-1000) ((1+u).toNat:Int)
    rw [h1] at h2
    exact⟨by have:=h2.1;omega,by have:=h2.2;omega⟩
theorem ztv{F:List D->R (D×List D)}{i:Nat}{ρ:En}{p:Bool}{d r d':D}(hi:ρ[i]?=some (.ow p d))(hF:F [d]=.ok (r,[d'])):zao F [.m i] ρ=.ok (r,ρ.set i (.ow p d')):=by
 have h:=zfw (F:=fun l=>match l with | [a,b]=>(F [a]).bind fun y=>.ok (y.1,y.2++[b])|_=>.bad) (f:=eC .none) (v:=.none) (v':=.none) (r:=r) (d':=d') hi rfl (by show(F [d]).bind _=_;rw [hF];rfl)
 have hm:zaw ρ i=.ok d:=by unfold zaw;rw [hi]
 unfold zao at h ⊢
 simp only [zjm,hm,zac,eC,zhz,hF] at h ⊢
 exact h
end FL
namespace K58
open PySem FL
section
theorem zkM:zaq=zfY:=rfl
theorem zqf:zcF=zjj:=rfl
theorem zxh:zfb=zv3:=rfl
theorem zol:zbO=zbb:=rfl
theorem zm5{k:Nat}{d:D}(hd:zfa k d)(hk:k<=1000){c m:Int}(c1:1<=c)(c4:c<=4)(m0:1<=m)(m5:m<=3)(A y4 y5 y6:Sl) :
  ∃(w:List Int) (d':D),zbl [.ow true d,.val (.int c),A,.val (.int m),y4,y5,y6]=.ok (.list (w.map PyData.int),[.ow true d',.val (.int c),A,.val (.int m),y4,y5,y6])/\1<=w.length/\w.length<=3/\(∀ x∈w,0<=x/\x<c)/\zfa (k+6) d':=by
 obtain⟨n,d0,t0,n0,n1,hp0⟩:=zc7 hd (by omega) m (by omega) (by omega)
 have hr:zdG [.int (1+n)]=.ok (rng 0 (1+n)):=zdZ (by omega) (by omega)
 have hlen:(rng 0 (1+n)).length=(1+n).toNat:=by rw [zkQ];simp
 have CI:=zki (k:=1) (ix:=[0,1]) (g:=gN 0) (t:=zc8) (f:=zao zaq [.m 1,.v (eV 2)])
  (fun i acc ρ=>∃(w:List Int) (d':D),acc=w.map PyData.int/\(∀ x∈w,0<=x/\x<c)/\zfa (k+1+i) d'/\ρ=[.ow true d',.val (.int c),A,.val (.int m),y4,y5,y6])
 obtain⟨acc,ρ',ec,el,hp⟩:=CI (rng 0 (1+n)) 0 [] [.ow true d0,.val (.int c),A,.val (.int m),y4,y5,y6] (by rw [hlen];unfold lim;simp;omega) rfl
  ⟨[],d0,rfl,by simp,hp0,rfl⟩ (by
   intro x hx i acc ρ hi hP
   rw [hlen] at hi
   obtain⟨w,d1,rfl,hw,hp,rfl⟩:=hP
   obtain⟨g,d2,et,g0,g1,hp2⟩:=zc7 hp (by omega) c c1 (by omega)
   rw [<- zkM] at et
   refine⟨[.val x,.ow true d1,.val (.int c)],.int g,[.val x,.ow true d2,.val (.int c)],?_,?_,?_,?_⟩
   ·simp only [gN,blk,List.replicate,List.map_cons,zz0,Option.getD_some,zz1,List.map_nil,List.cons_append,List.nil_append,List.set_cons_zero]
   ·simp only [zc8]
   ·simp only [zao,zjm,zaw,zz1,zz0,eV,zac,zhd,zhz,bkL,bk1,Nat.zero_add,et,zhc,List.lookup_cons,beq_self_eq_true]
   ·refine⟨w++[g],d2,by simp,?_,hp2,?_⟩
    ·intro z hz
     rcases List.mem_append.mp hz with hz|hz
     ·exact hw z hz
     ·have:z=g:=by simpa using hz
      subst this;exact⟨g0,g1⟩
    ·have l2:∀ j,2<=j->([(0,Sl.ow true d2),(1,Sl.val (.int c))]:List (Nat×Sl)).lookup j=none:=fun j hj=>by
      have h0:(j==0)=false:=by simp;omega
      have h1:(j==1)=false:=by simp;omega
      simp only [List.lookup_cons,h0,h1,List.lookup_nil]
     show [bk1 _ 0 _,bk1 _ 1 _,bk1 [(0,Sl.ow true d2),(1,Sl.val (.int c))] 2 A,bk1 [(0,Sl.ow true d2),(1,Sl.val (.int c))] 3 (Sl.val (.int m)),bk1 [(0,Sl.ow true d2),(1,Sl.val (.int c))] 4 y4,bk1 [(0,Sl.ow true d2),(1,Sl.val (.int c))] 5 y5,bk1 [(0,Sl.ow true d2),(1,Sl.val (.int c))] 6 y6]=_
     rw [zg4 (l2 2 (by decide)),zg4 (l2 3 (by decide)),zg4 (l2 4 (by decide)),zg4 (l2 5 (by decide)),zg4 (l2 6 (by decide))]
     rfl)
 obtain⟨w,d',rfl,hw,hp',rfl⟩:=hp
 rw [Nat.zero_add,hlen] at el
 have el':w.length=(1+n).toNat:=by simpa using el
 refine⟨w,d',?_,by omega,by omega,hw,hp'.mono (by rw [hlen];omega)⟩
 unfold zbl zdm
 have hi:(iR1 (zaa (e2 zaV (eC (.int 1)) (zao zaq [.m 0,.v (eV 3)])) zah)) [.ow true d,.val (.int c),A,.val (.int m),y4,y5,y6]=.ok (rng 0 (1+n),[.ow true d0,.val (.int c),A,.val (.int m),y4,y5,y6]):=by
  have cm:(zao zaq [.m 0,.v (eV 3)]) [.ow true d,.val (.int c),A,.val (.int m),y4,y5,y6]=.ok (.int n,[.ow true d0,.val (.int c),A,.val (.int m),y4,y5,y6]):=zfw (p:=true) (d:=d) rfl rfl t0
  have ad:zaV (.int 1) (.int n)=.ok (.int (1+n)):=rfl
  simp only [iR1,zaa,zah,FL.e2,show eC (.int 1) [.ow true d,.val (.int c),A,.val (.int m),y4,y5,y6]=.ok (.int 1,[.ow true d,.val (.int c),A,.val (.int m),y4,y5,y6]) from rfl,zac,cm,ad,hr]
 rw [hi,zac]
 show(zgZ _ _ _ _ _ (rng 0 (1+n)) [.ow true d0,.val (.int c),A,.val (.int m),y4,y5,y6] []).bind _=_
 rw [ec]
 rfl
structure Dn(c:Int)(n:Nat)(s:Sm):Prop where
 nk:Nk s
 wk:∀ p∈s,Wok c p
 ne:∀ p∈s,p.1≠[]
 bd:∀ p∈s,QR.Bd 14 p.2
 ln:s.length<=n
theorem zq2{k:Nat}{d:D}(hd:zfa k d)(hk:k<=100){c:Int}(c1:1<=c)(c4:c<=4) :
  ∃(s:Sm) (d':D),zcG [d,.int c]=.ok (told s,[d',.int c])/\Dn c 2 s/\zfa (k+30) d':=by
 obtain⟨m',dm,tm,m0,m1,hpm⟩:=zc7 hd (by omega) 3 (by decide) (by decide)
 obtain⟨n,d0,t0,n0,n1,hp0⟩:=zc7 hpm (by omega) 3 (by decide) (by decide)
 have hr:zdG [.int n]=.ok (rng 0 n):=zdZ (by omega) (by omega)
 have hlen:(rng 0 n).length=n.toNat:=by rw [zkQ];simp
 generalize hm:1+m'=m
 have L:=zbg (f:=fun x:D=>x) (g:=gN 4) (b:=zbk)
  (fun done ρ=>∃(s:Sm) (d':D) (y4 y5 y6:Sl),Np y4/\Np y5/\Np y6/\ρ=[.ow true d',.val (.int c),.ow false (dct s),.val (.int m),y4,y5,y6]/\Dn c done.length s/\zfa (k+2+9*done.length) d')
  (rng 0 n) [] [.ow true d0,.val (.int c),.ow false (dct []),.val (.int m),.no,.no,.no] ⟨[],d0,.no,.no,.no,zbm,zbm,zbm,rfl,⟨List.nodup_nil,fun _ h=>by simp at h,fun _ h=>by simp at h,fun _ h=>by simp at h,Nat.zero_le _⟩,hp0⟩ (by
   intro pre x post ρ e hP
   obtain⟨s,d1,y4,y5,y6,h4,h5,h6,rfl,dr,pp⟩:=hP
   rw [List.nil_append] at e
   have hpl:pre.length+1<=n.toNat:=by rw [<- hlen,e];simp
   have gx:gN 4 x [.ow true d1,.val (.int c),.ow false (dct s),.val (.int m),y4,y5,y6]=.ok [.ow true d1,.val (.int c),.ow false (dct s),.val (.int m),.val x,y5,y6]:=zeY rfl h4
   obtain⟨w,d2,tw,w1,wl,wx,pw⟩:=zm5 pp (by omega) c1 c4 (m:=m) (by omega) (by omega) (.ow false (dct s)) (.val x) y5 y6
   obtain⟨r,d3,tn,rb,pn⟩:=zok pw (by omega)
   rw [<- zol] at tn
   have s1:zaL (gN 5) (e1 zjt zbl) [.ow true d1,.val (.int c),.ow false (dct s),.val (.int m),.val x,y5,y6]=.ok (.nx,[.ow true d2,.val (.int c),.ow false (dct s),.val (.int m),.val x,.val (tp w),y6]):=zb8 (y:=(tp w,[.ow true d2,.val (.int c),.ow false (dct s),.val (.int m),.val x,y5,y6])) (by
    unfold FL.e1
    rw [tw];rfl) rfl h5
   have cn:zao zbO [.m 0] [.ow true d2,.val (.int c),.ow false (dct s),.val (.int m),.val x,.val (tp w),y6]=.ok (num r,[.ow true d3,.val (.int c),.ow false (dct s),.val (.int m),.val x,.val (tp w),y6]):=ztv (p:=true) (d:=d2) rfl tn
   have s2:zaL (gN 6) (zao zbO [.m 0]) [.ow true d2,.val (.int c),.ow false (dct s),.val (.int m),.val x,.val (tp w),y6]=.ok (.nx,[.ow true d3,.val (.int c),.ow false (dct s),.val (.int m),.val x,.val (tp w),.val (num r)]):=zb8 (y:=(num r,[.ow true d3,.val (.int c),.ow false (dct s),.val (.int m),.val x,.val (tp w),y6])) cn rfl h6
   have tt:tB (e2 neD (e2 ixD (eV 6) (eC (.int 0))) (eC (.int 0))) [.ow true d3,.val (.int c),.ow false (dct s),.val (.int m),.val x,.val (tp w),.val (num r)]=.ok (!decide (r=0),[.ow true d3,.val (.int c),.ow false (dct s),.val (.int m),.val x,.val (tp w),.val (num r)]):=by
    have i0:ixD (num r) (.int 0)=.ok (.int r.num):=rfl
    have n0:neD (.int r.num) (.int 0)=.ok (.bool (!decide (r=0))):=by
     rw [zgy];congr 3;rw [decide_eq_decide];exact Rat.num_eq_zero
    simp only [tB,FL.e2,eV,eC,zac,zz0,zz1,i0,n0]
   by_cases cz:r=0
   ·refine⟨[.ow true d3,.val (.int c),.ow false (dct s),.val (.int m),.val x,.val (tp w),.val (num r)],.nx,?_,.inl rfl,s,d3,_,_,_,zaA _,zaA _,zaA _,rfl,⟨dr.nk,dr.wk,dr.ne,dr.bd,by rw [List.length_append];have:=dr.ln;simp;omega⟩,pn.mono (by simp;omega)⟩
    rw [gx,zac]
    unfold zbk
    rw [zai s1,zai s2]
    unfold sIf
    rw [tt,zac,if_neg (by simpa using cz)]
    rfl
   ·have wk:Wok c (w,r):=⟨by show w.length<=5;omega,wx,cz⟩
    refine⟨[.ow true d3,.val (.int c),.ow false (dct (zdv s w r)),.val (.int m),.val x,.val (tp w),.val (num r)],.nx,?_,.inl rfl,zdv s w r,d3,_,_,_,zaA _,zaA _,zaA _,rfl,⟨zjy dr.nk,fun p hp=>?_,fun p hp=>?_,fun p hp=>?_,?_⟩,pn.mono (by simp;omega)⟩
    ·rw [gx,zac]
     unfold zbk
     rw [zai s1,zai s2]
     unfold sIf
     rw [tt,zac,if_pos (by simpa using cz)]
     have dp:=ze2 (s:=s) (w:=w) (q:=r) (by have:=dr.ln;unfold lim;omega)
     simp only [zfu,eV,zaw,zac,zz0,zz1,dp]
     rfl
    ·rcases zeN hp with h|h
     ·exact dr.wk p h
     ·subst h;exact wk
    ·rcases zeN hp with h|h
     ·exact dr.ne p h
     ·subst h;exact fun z=>by have:w=[]:=z;subst this;simp at w1
    ·rcases zeN hp with h|h
     ·exact dr.bd p h
     ·subst h;exact rb
    ·rw [List.length_append,List.length_singleton]
     have:=zlL s w r
     have:=dr.ln
     omega)
 obtain⟨ρ',e,s,d',y4,y5,y6,h4,h5,h6,rfl,dr,pp⟩:=L
 simp only [List.nil_append,hlen,List.map_id'] at e dr pp
 refine⟨s,d',?_,⟨dr.nk,dr.wk,dr.ne,dr.bd,by have:=dr.ln;omega⟩,pp.mono (by omega)⟩
 rw [<- zkM] at t0 tm
 have s1:zdE 2 zcq [.ow true d,.val (.int c),.no,.no,.no,.no,.no]=.ok (.nx,[.ow true d,.val (.int c),.ow false (dct []),.no,.no,.no,.no]):=rfl
 have s2:zaL (gN 3) (e2 zaV (eC (.int 1)) (zao zaq [.m 0,.v (eC (.int 3))])) [.ow true d,.val (.int c),.ow false (dct []),.no,.no,.no,.no]=.ok (.nx,[.ow true dm,.val (.int c),.ow false (dct []),.val (.int m),.no,.no,.no]):=by
  have cm:zao zaq [.m 0,.v (eC (.int 3))] [.ow true d,.val (.int c),.ow false (dct []),.no,.no,.no,.no]=.ok (.int m',[.ow true dm,.val (.int c),.ow false (dct []),.no,.no,.no,.no]):=zfw (p:=true) (d:=d) rfl rfl tm
  have ad:zaV (.int 1) (.int m')=.ok (.int m):=by rw [<- hm];rfl
  exact zb8 (y:=(.int m,[.ow true dm,.val (.int c),.ow false (dct []),.no,.no,.no,.no])) (by simp only [FL.e2,show eC (.int 1) [.ow true d,.val (.int c),.ow false (dct []),.no,.no,.no,.no]=.ok (.int 1,[.ow true d,.val (.int c),.ow false (dct []),.no,.no,.no,.no]) from rfl,zac,cm,ad]) rfl zbm
 have hi:(iR1 (zaa (zao zaq [.m 0,.v (eC (.int 3))]) zah)) [.ow true dm,.val (.int c),.ow false (dct []),.val (.int m),.no,.no,.no]=.ok (rng 0 n,[.ow true d0,.val (.int c),.ow false (dct []),.val (.int m),.no,.no,.no]):=by
  have cm:(zao zaq [.m 0,.v (eC (.int 3))]) [.ow true dm,.val (.int c),.ow false (dct []),.val (.int m),.no,.no,.no]=.ok (.int n,[.ow true d0,.val (.int c),.ow false (dct []),.val (.int m),.no,.no,.no]):=zfw (p:=true) (d:=dm) rfl rfl t0
  simp only [iR1,zaa,zah,zac,cm,hr]
 have s3:zbX [.ow true dm,.val (.int c),.ow false (dct []),.val (.int m),.no,.no,.no]=.ok (.nx,[.ow true d',.val (.int c),.ow false (dct s),.val (.int m),y4,y5,y6]):=by
  unfold zbX zep
  rw [hi,zac]
  exact e
 have tl:zaK [dct s]=.ok (told s):=by rw [zkK];exact ziF dr.nk (by have:=dr.ln;omega)
 show((zcD [.ow true d,.val (.int c),.no,.no,.no,.no,.no]).bind _)=_
 unfold zcD
 rw [zai s1,zai s2,zai s3]
 have s4:zkP 2 (zbc (zag zaK (zaa (eV 2) zah))) [.ow true d',.val (.int c),.ow false (dct s),.val (.int m),y4,y5,y6]=.ok (.rf (told s),[.ow true d',.val (.int c),.val (dct s),.val (.int m),y4,y5,y6]):=by
  simp only [zkP,zbc,zag,zaa,zah,eV,zac,zz0,zz1,List.set_cons_zero,List.set_cons_succ,tl]
 rw [s4]
 rfl
end
section
def po(l:List Rat):Po:=fun k=>l.getD k 0
def eqB(p q:Po):Bool:=(List.range 6).all fun k=>decide (p k=q k)
theorem zm3{p q:Po}(h:eqB p q=true):∀ k,k<=5->p k=q k:=fun k hk=>of_decide_eq_true (List.all_eq_true.mp h k (List.mem_range.mpr (by omega)))
def P1:Po:=po [0,1]
def PW:Po:=po [1,1]
def PE:Po:=po [1,1,1 / 2,1 / 6,1 / 24,1 / 120]
def PL:Po:=po [0,1,-1 / 2,1 / 3,-1 / 4,1 / 5]
def aE:Nat->Rat:=fun k=>[1,1 / 2,1 / 6,1 / 24,1 / 120].getD k 0
def aL:Nat->Rat:=fun k=>[1,-1 / 2,1 / 3,-1 / 4,1 / 5].getD k 0
theorem g_1:hgB P1=true:=by decide +kernel
theorem zyv:eqB (gtp P1 5) PE=true:=by decide +kernel
theorem g_L:hgB PL=true:=by decide +kernel
theorem zyu:eqB (gtp PL 5) PW=true:=by decide +kernel
theorem o_W:okB PW=true:=by decide +kernel
theorem l_W:hlB (pp PW (-1) (e0 1))=true:=by decide +kernel
theorem zyp:eqB (ltp (pp PW (-1) (e0 1)) 5) PL=true:=by decide +kernel
theorem o_E:okB PE=true:=by decide +kernel
theorem l_E:hlB (pp PE (-1) (e0 1))=true:=by decide +kernel
theorem zyq:eqB (ltp (pp PE (-1) (e0 1)) 5) P1=true:=by decide +kernel
theorem f_E:hfB P1 aE=true:=by decide +kernel
theorem zyA:eqB (pp (fd P1 aE 5) 1 (e0 1)) PE=true:=by decide +kernel
theorem zyj:okB (fd P1 aE 5)=true:=by decide +kernel
theorem f_L:hfB P1 aL=true:=by decide +kernel
theorem zyz:eqB (fd P1 aL 5) PL=true:=by decide +kernel
theorem o_L:okB PL=true:=by decide +kernel
section
variable {c:Int}{x s:Sm}{D:Nat}{p:Po}
theorem zvB(hx:Xs c x D)(h:Gs x p s):(zaR s []).getD 0=p 0:=by
 have e:=zka [] h.nk
 have f5:F5 fun v=>if v=[] then(1:Rat) else 0:=fun w hw=>if_neg fun z=>by subst z;simp at hw
 have z:∀ k,0<k->pw x k (fun v=>if v=[] then(1:Rat) else 0)=0:=fun k hk=>zkT hx.ne k 0 hk fun w hw=>if_neg fun z=>by subst z;simp at hw
 rw [<- e,h.is _ f5]
 unfold Lp
 rw [z 1 (by decide),z 2 (by decide),z 3 (by decide),z 4 (by decide),z 5 (by decide)]
 simp only [pw,if_true]
 grind
theorem zwf(hx:Xs c x D)(h:Gs x p s)(h1:p 0=1):zaR s []=some 1:=by
 have e:=zvB hx h
 rw [h1] at e
 cases q:zaR s [] with
 | none=>rw [q] at e;exact absurd e (by decide +kernel)
 | some r=>rw [q] at e;exact congrArg some e
theorem zwI(hx:Xs c x D)(h:Gs x p s)(h1:p 0=0):zaR s []=none:=by
 have e:=zvB hx h
 rw [h1] at e
 cases q:zaR s [] with
 | none=>rfl
 | some r=>rw [q] at e;exact absurd e (h.nz _ (zdY q))
theorem zhV(hx:Xs c x D)(h:Gs x p s)(as:Asc s)(h0:p 0=0)(hg:hgB p=true):∃ u,zcQ [.int c,.list (s.map tln)]=.ok (told u)/\Gs x (gtp p 5) u:=by
 obtain⟨u,e1',gu⟩:=zqT hx h (zpw as) hg
 refine⟨u,?_,gu⟩
 have k1:=zoY hx h as
 have k2:=znx hx gu
 have hin:inD (.tuple []) (dct s)=.ok (.bool false):=(zoT s []).trans (by rw [zwI hx h h0];rfl)
 generalize PyData.list (s.map tln)=S at k1 ⊢
 refine zb9 (ρ:=[.val (.int c),.val S,.val (dct s)]) rfl ?_
 show zja [.val (.int c),.val S,.no]=_
 have s1:zaL (gN 2) (zag zaz (zaa (eV 0) (zaa (eV 1) zah))) [.val (.int c),.val S,.no]=.ok (.nx,[.val (.int c),.val S,.val (dct s)]) :=
  zb8 (y:=(dct s,[.val (.int c),.val S,.no])) (by simp only [zag,zaa,zah,eV,zac,zz0,zz1,k1]) rfl zbm
 have l0:leB 0 lim=true:=by decide
 have s2:sIf (tB (e2 inD (zaP zah) (eV 2))) znL sNx [.val (.int c),.val S,.val (dct s)]=.ok (.nx,[.val (.int c),.val S,.val (dct s)]):=by
  simp only [sIf,tB,FL.e2,zaP,zah,eV,zac,zz0,zz1,List.length_nil,zav l0,hin,Bool.false_eq_true,if_false,sNx]
 unfold zja
 rw [zai s1,zai s2]
 simp only [zbc,zag,zaa,zah,eV,zac,zz0,zz1,e1',k2]
theorem zgB(hx:Xs c x D)(h:Gs x p s)(as:Asc s)(h1:p 0=1)(ho:okB p=true)(hg:hlB (pp p (-1) (e0 1))=true):∃ u,zb3 [.int c,.list (s.map tln)]=.ok (told u)/\Gs x (ltp (pp p (-1) (e0 1)) 5) u:=by
 have g1':=zwf hx h h1
 obtain⟨u,e1',gu⟩:=zoA hx h (zpw as) g1' ho hg
 refine⟨u,?_,gu⟩
 have k1:=zoY hx h as
 have k2:=znx hx gu
 have hg2:ziW (dct s) (.tuple []) (.tuple [.int 0,.int 1])=.ok (.tuple [.int 1,.int 1]):=(ziV s []).trans (by rw [g1'];rfl)
 have hne:neD (.tuple [.int 1,.int 1]) (.tuple [.int 1,.int 1])=.ok (.bool false):=(zom 1 1).trans (by rw [decide_eq_true rfl];rfl)
 generalize PyData.list (s.map tln)=S at k1 ⊢
 refine zb9 (ρ:=[.val (.int c),.val S,.val (dct s)]) rfl ?_
 show zgk [.val (.int c),.val S,.no]=_
 have s1:zaL (gN 2) (zag zaz (zaa (eV 0) (zaa (eV 1) zah))) [.val (.int c),.val S,.no]=.ok (.nx,[.val (.int c),.val S,.val (dct s)]) :=
  zb8 (y:=(dct s,[.val (.int c),.val S,.no])) (by simp only [zag,zaa,zah,eV,zac,zz0,zz1,k1]) rfl zbm
 have l0:leB 0 lim=true:=by decide
 have s2:sIf (tB (e2 neD (e3 ziW (eV 2) (zaP zah) (eC (.tuple [(.int 0),(.int 1)]))) (eC (.tuple [(.int 1),(.int 1)])))) znL sNx [.val (.int c),.val S,.val (dct s)]=.ok (.nx,[.val (.int c),.val S,.val (dct s)]):=by
  simp only [sIf,tB,FL.e2,FL.e3,zaP,zah,eC,eV,zac,zz0,zz1,List.length_nil,zav l0,hg2,hne,Bool.false_eq_true,if_false,sNx]
 unfold zgk
 rw [zai s1,zai s2]
 simp only [zbc,zag,zaa,zah,eV,zac,zz0,zz1,e1',k2]
theorem zwP:([.tuple [.int 1,.int 1],.tuple [.int 1,.int 2],.tuple [.int 1,.int 6],.tuple [.int 1,.int 24],.tuple [.int 1,.int 120]]:List PyData)=[0,1,2,3,4].map fun k:Nat=>num (aE k):=by
 simp only [List.map_cons,List.map_nil]
 rw [zbw (r:=aE 0) (a:=1) (b:=1) (by decide +kernel),zbw (r:=aE 1) (a:=1) (b:=2) (by decide +kernel),zbw (r:=aE 2) (a:=1) (b:=6) (by decide +kernel),zbw (r:=aE 3) (a:=1) (b:=24) (by decide +kernel),zbw (r:=aE 4) (a:=1) (b:=120) (by decide +kernel)]
 rfl
theorem zwO:([.tuple [.int 1,.int 1],.tuple [.int (-1),.int 2],.tuple [.int 1,.int 3],.tuple [.int (-1),.int 4],.tuple [.int 1,.int 5]]:List PyData)=[0,1,2,3,4].map fun k:Nat=>num (aL k):=by
 simp only [List.map_cons,List.map_nil]
 rw [zbw (r:=aL 0) (a:=1) (b:=1) (by decide +kernel),zbw (r:=aL 1) (a:=-1) (b:=2) (by decide +kernel),zbw (r:=aL 2) (a:=1) (b:=3) (by decide +kernel),zbw (r:=aL 3) (a:=-1) (b:=4) (by decide +kernel),zbw (r:=aL 4) (a:=1) (b:=5) (by decide +kernel)]
 rfl
theorem zyE(k:Nat)(h:k<5):Cm 120 120 (aE k):=by
 match k,h with
 | 0,_=>exact⟨120,by decide +kernel,by decide⟩
 | 1,_=>exact⟨60,by decide +kernel,by decide⟩
 | 2,_=>exact⟨20,by decide +kernel,by decide⟩
 | 3,_=>exact⟨5,by decide +kernel,by decide⟩
 | 4,_=>exact⟨1,by decide +kernel,by decide⟩
theorem zyD(k:Nat)(h:k<5):Cm 120 120 (aL k):=by
 match k,h with
 | 0,_=>exact⟨120,by decide +kernel,by decide⟩
 | 1,_=>exact⟨-60,by decide +kernel,by decide⟩
 | 2,_=>exact⟨40,by decide +kernel,by decide⟩
 | 3,_=>exact⟨-30,by decide +kernel,by decide⟩
 | 4,_=>exact⟨24,by decide +kernel,by decide⟩
theorem zoD(hx:Xs c x D)(h:Gs x P1 x):∃ u,zb6 [.list (x.map tln)]=.ok (told u)/\Gs x PE u:=by
 obtain⟨u,e1',gu⟩:=zjG hx h zyE f_E
 have pt:=zs8 hx (zew zyj) gu (y:=1) ⟨by decide,by decide⟩
 have gv:=(gu.add 1).congr (zm3 zyA)
 rw [<- zwP] at e1'
 generalize zcH u [] 1=v at pt gv
 refine⟨v,?_,gv⟩
 have k2:=zl8 hx gv
 generalize PyData.list (x.map tln)=S at e1' ⊢
 refine zb9 (ρ:=[.val S,.val (dct v)]) rfl ?_
 show zcC [.val S,.no]=_
 have s1:zdE 1 (zag zbN (zaa (eV 0) (zaa (zcR (aCs [(.tuple [(.int 1),(.int 1)]),(.tuple [(.int 1),(.int 2)]),(.tuple [(.int 1),(.int 6)]),(.tuple [(.int 1),(.int 24)]),(.tuple [(.int 1),(.int 120)])])) zah))) [.val S,.no]=.ok (.nx,[.val S,.ow false (dct u)]) :=
  zis (y:=(dct u,[.val S,.no])) (by
   have el:zcR (aCs [(.tuple [(.int 1),(.int 1)]),(.tuple [(.int 1),(.int 2)]),(.tuple [(.int 1),(.int 6)]),(.tuple [(.int 1),(.int 24)]),(.tuple [(.int 1),(.int 120)])]) [.val S,.no]=.ok (.list [(.tuple [(.int 1),(.int 1)]),(.tuple [(.int 1),(.int 2)]),(.tuple [(.int 1),(.int 6)]),(.tuple [(.int 1),(.int 24)]),(.tuple [(.int 1),(.int 120)])],[.val S,.no]):=rfl
   simp only [zag,zaa,zah,eV,zac,zz0,zz1,el,e1']) rfl zbm
 have s2:sE (zao zby [.m 1,.v (zaP zah),.v (zaP (zaa (eC (.int 1)) (zaa (eC (.int 1)) zah)))]) [.val S,.ow false (dct u)]=.ok (.nx,[.val S,.ow false (dct v)]):=by
  unfold sE
  rw [zdp (p:=false) (d:=dct u) (v:=tp []) (u:=num 1) (r:=.none) (d':=dct v) rfl rfl rfl pt]
  rfl
 unfold zcC
 rw [zai s1,zai s2]
 simp only [zkP,zbc,zag,zaa,zah,eV,zac,zz0,zz1,List.set_cons_zero,List.set_cons_succ,k2]
def zqM:PyData->Bool
 | .tuple [.tuple (_::_),_]=>true
 | _=>false
theorem zjS(q:List Int×Rat):zqM (tln q)=!decide (q.1=[]):=by
 obtain⟨w,r⟩:=q
 cases w <;> rfl
theorem zmR(hx:Xs c x D)(h:Gs x P1 x):∃ u,zbP [.list ((([],1)::x).map tln)]=.ok (told u)/\Gs x PL u:=by
 obtain⟨u,e1',gu⟩:=zjG hx h zyD f_L
 replace gu:=gu.congr (zm3 zyz)
 rw [<- zwO] at e1'
 refine⟨u,?_,gu⟩
 have k2:=zl8 hx gu
 have ln:=h.ln hx.sz
 have hq:za9 [.val (.list ((([],1)::x).map tln)),.no]=.ok (.list (x.map tln),[.val (.list ((([],1)::x).map tln)),.no]):=by
  unfold za9
  rw [zh0 (items:=(([],1)::x).map tln) zqM id rfl (by rw [List.length_map,List.length_cons];unfold lim;omega)]
  ·have fe:((([],1)::x).map tln).filter zqM=x.map tln:=by
    rw [List.map_cons,List.filter_cons_of_neg (by decide)]
    refine List.filter_eq_self.mpr fun d hd=>?_
    obtain⟨q,hq,rfl⟩:=List.mem_map.mp hd
    rw [zjS,decide_eq_false (hx.ne q hq)];rfl
   rw [fe,List.map_id]
  ·intro d hd
   obtain⟨q,hq,rfl⟩:=List.mem_map.mp hd
   refine⟨[.val (tp q.1),.val (num q.2)],rfl,?_,fun _=>rfl,rfl⟩
   have n0:neD (tp q.1) (.tuple [])=.ok (.bool (zqM (tln q))):=(zrF q.1 []).trans (by rw [zjS])
   have l0:leB 0 lim=true:=by decide
   simp only [tB,FL.e2,zaP,zah,eV,zac,zz0,zz1,List.length_nil,zav l0,n0]
 generalize PyData.list ((([],1)::x).map tln)=W at hq ⊢
 generalize PyData.list (x.map tln)=S at hq e1'
 refine zb9 (ρ:=[.val W,.val S]) rfl ?_
 show zcj [.val W,.no]=_
 have s1:zir 1 (zdE 1 za9) [.val W,.no]=.ok (.nx,[.val W,.val S]):=by
  simp only [zir,zdE,hq,zac]
  rfl
 unfold zcj
 rw [zai s1]
 have el:zcR (aCs [(.tuple [(.int 1),(.int 1)]),(.tuple [(.int (-1)),(.int 2)]),(.tuple [(.int 1),(.int 3)]),(.tuple [(.int (-1)),(.int 4)]),(.tuple [(.int 1),(.int 5)])]) [.val W,.val S]=.ok (.list [(.tuple [(.int 1),(.int 1)]),(.tuple [(.int (-1)),(.int 2)]),(.tuple [(.int 1),(.int 3)]),(.tuple [(.int (-1)),(.int 4)]),(.tuple [(.int 1),(.int 5)])],[.val W,.val S]):=rfl
 simp only [zbc,zag,zaa,zah,eV,zac,zz0,zz1,el,e1',k2]
end
end
section
theorem zs6(r:Rat):r*(r.den:Rat)=(r.num:Rat):=by
 have e:(r.num:Rat) / ((r.den:Int):Rat)=r:=by rw [<- Rat.divInt_eq_div];exact Rat.num_divInt_den r
 have h:((r.den:Int):Rat)=(r.den:Rat):=rfl
 have n:(r.den:Rat)≠0:=fun q=>r.den_nz (Rat.natCast_inj.mp q)
 rw [h] at e
 generalize (r.den:Rat)=d at *
 generalize (r.num:Rat)=m at *
 subst e
 exact Rat.div_mul_cancel n
theorem zpl{r:Rat}(h:QR.Bd 14 r):Cm r.den (2^14) r:=⟨r.num,zs6 r,Nat.le_of_lt h.1⟩
theorem zwe{x:Sm}(hl:x.length<=2)(hb:∀ p∈x,QR.Bd 14 p.2):∃ D,Sz x D:=by
 match x,hl with
 | [],_=>exact⟨1,by simp,by decide,by decide,fun p hp=>by cases hp⟩
 | [p],_ =>
  have h:=hb p (List.mem_cons_self ..)
  refine⟨p.2.den,by simp,p.2.den_pos,Nat.lt_trans h.2 (by decide),fun q hq=>?_⟩
  rw [List.mem_singleton.mp hq]
  exact(zpl h).mono (by decide)
 | [p,q],_ =>
  have h:=hb p (List.mem_cons_self ..)
  have k:=hb q (List.mem_cons_of_mem _ (List.mem_cons_self ..))
  have e:(2^28:Nat)=2^14*2^14:=by decide
  refine⟨p.2.den*q.2.den,by simp,Nat.mul_pos p.2.den_pos q.2.den_pos,by rw [e];exact Nat.mul_lt_mul'' h.2 k.2,fun r hr=>?_⟩
  rcases List.mem_cons.mp hr with z|z
  ·rw [z]
   exact((zpl h).up q.2.den).mono (by rw [e];exact Nat.mul_le_mul_left _ (Nat.le_of_lt k.2))
  ·rw [List.mem_singleton.mp z,Nat.mul_comm]
   exact((zpl k).up p.2.den).mono (by rw [e];exact Nat.mul_le_mul_left _ (Nat.le_of_lt h.2))
theorem znF{s:Sm}(h:Asc s):zbz s=s:=zpx (zbF (zkt h)) h (zax s)
structure Lw(c:Int)(x:Sm)(D:Nat):Prop where
 xs:Xs c x D
 g1:Gs x P1 x
 as:Asc x
 gw:Gs x PW (([],1)::x)
 aw:Asc (([],1)::x)
theorem zwM{c:Int}{s:Sm}(c1:1<=c)(c4:c<=4)(h:Dn c 2 s):∃ D,Lw c (zbz s) D:=by
 have pm:=fun p=>(zax s).mem_iff (a:=p)
 have nk:Nk (zbz s):=zkt (zbF h.nk)
 have ne:∀ p∈zbz s,p.1≠[]:=fun p hp=>h.ne p ((pm p).mp hp)
 have wk':∀ p∈zbz s,Wok c p:=fun p hp=>h.wk p ((pm p).mp hp)
 have as:=zbF h.nk
 obtain⟨D,sz⟩:=zwe (x:=zbz s) (by rw [(zax s).length_eq];exact h.ln) fun p hp=>h.bd p ((pm p).mp hp)
 generalize zbz s=x at nk ne wk' sz as
 have iu:∀ p∈x,InU x p.1:=fun p hp=>⟨1,by decide,List.mem_flatMap.mpr ⟨[],List.mem_singleton.mpr rfl,List.mem_map.mpr ⟨p.1,List.mem_map.mpr ⟨p,hp,rfl⟩,rfl⟩⟩⟩
 have is1:Is x P1 x:=(Is.self x).congr fun k hk=>by
  match k,hk with
  | 0,_=>rfl
  | 1,_=>rfl
  | 2,_=>rfl
  | 3,_=>rfl
  | 4,_=>rfl
  | 5,_=>rfl
 refine⟨D,⟨sz,ne,fun p hp=>(wk' p hp).lt,c1,c4⟩,⟨nk,fun p hp=>(wk' p hp).nz,iu,fun p hp=>(wk' p hp).ln,is1⟩,as,⟨?_,fun p hp=>?_,fun p hp=>?_,fun p hp=>?_,fun f hf=>?_⟩,?_⟩
 ·show(([]:List Int)::x.map (·.1)).Nodup
  rw [List.nodup_cons]
  refine⟨fun z=>?_,nk⟩
  obtain⟨p,hp,e⟩:=List.mem_map.mp z
  exact ne p hp e
 ·rcases List.mem_cons.mp hp with z|z
  ·rw [z];decide +kernel
  ·exact(wk' p z).nz
 ·rcases List.mem_cons.mp hp with z|z
  ·rw [z];exact .nil x
  ·exact iu p z
 ·rcases List.mem_cons.mp hp with z|z
  ·rw [z];exact Nat.zero_le _
  ·exact(wk' p z).ln
 ·rw [zas,is1 f hf]
  unfold Lp
  show f []*1+(P1 0*f []+_)=PW 0*f []+_
  have a0:P1 0=0:=rfl
  have a1:P1 1=1:=rfl
  have b0:PW 0=1:=rfl
  have b1:PW 1=1:=rfl
  have a2:∀ k,2<=k->P1 k=0/\PW k=0:=fun k hk=>by
   match k,hk with
   | k+2,_=>exact⟨rfl,rfl⟩
  rw [a0,a1,b0,b1,(a2 2 (by decide)).1,(a2 3 (by decide)).1,(a2 4 (by decide)).1,(a2 5 (by decide)).1,(a2 2 (by decide)).2,(a2 3 (by decide)).2,(a2 4 (by decide)).2,(a2 5 (by decide)).2]
  grind
 ·refine List.pairwise_cons.mpr ⟨fun p hp=>?_,as⟩
  have:=List.length_pos_iff.mpr (ne p hp)
  show ltW (((0:Nat):Int),[]) ((p.1.length:Int),p.1)=true
  unfold ltW
  simp only
  rw [if_neg (by omega)]
  exact decide_eq_true (by omega)
theorem ziK{i:Int}{k B:Nat}(h:i.natAbs.log2<k)(hk:0<k)(hB:k+1<=B):PyData.leavesShort B (.int i)=true:=by
 have hs:(PyData.shown (.int i)).length<=B:=by
  simp only [PyData.shown]
  have:=int_text_length_le hk h
  rw [ofString_length]
  omega
 unfold PyData.leavesShort
 exact decide_eq_true hs
theorem ziL{α:Type}{B:Nat}(f:α->D):∀(l:List α),(∀ a∈l,PyData.leavesShort B (f a)=true)->PyData.leavesShortAll B (l.map f)=true
 | [],_=>by simp [PyData.leavesShortAll]
 | x::r,h=>by
  simp only [List.map_cons,PyData.leavesShortAll,Bool.and_eq_true]
  exact⟨h x (List.mem_cons_self ..),ziL f r fun a m=>h a (List.mem_cons_of_mem _ m)⟩
theorem ziq{α:Type}(f:α->D):∀(l:List α),(∀ a∈l,PyData.showable (f a)=true)->PyData.showableAll (l.map f)=true
 | [],_=>by simp [PyData.showableAll]
 | x::r,h=>by
  simp only [List.map_cons,PyData.showableAll,Bool.and_eq_true]
  exact⟨h x (List.mem_cons_self ..),ziq f r fun a m=>h a (List.mem_cons_of_mem _ m)⟩
theorem zi7{α:Type}(f:α->D)(n:Nat):∀(l:List α),(∀ a∈l,PyData.bulk (f a)<=n)->PyData.bulkAll (l.map f)<=(n+1)*l.length
 | [],_=>by simp [PyData.bulkAll]
 | x::r,h=>by
  have h1:=h x (List.mem_cons_self ..)
  have h2:=zi7 f n r fun a m=>h a (List.mem_cons_of_mem _ m)
  simp only [List.map_cons,PyData.bulkAll,List.length_cons,Nat.mul_add,Nat.mul_one]
  omega
theorem zps{n m:Nat}(h:n<2^m)(hm:0<m):n.log2<m:=by
 by_cases e:n=0
 ·subst e;simpa using hm
 ·exact(Nat.log2_lt e).mpr h
theorem zn8(z:Sm):Pl 3 (.list (z.map tln)):=zn9 fun d hd=>by
 obtain⟨p,_,rfl⟩:=List.mem_map.mp hd
 refine ziB fun d' hd'=>?_
 simp only [List.mem_cons,List.not_mem_nil,or_false] at hd'
 rcases hd' with rfl|rfl
 ·exact zsQ p.1
 ·exact ziB fun d'' h''=>by
   simp only [List.mem_cons,List.not_mem_nil,or_false] at h''
   rcases h'' with rfl|rfl <;> exact zhJ _
theorem zn7(y z:Sm):Pl 4 (.list [.list (y.map tln),.list (z.map tln)]):=zn9 fun d hd=>by
 simp only [List.mem_cons,List.not_mem_nil,or_false] at hd
 rcases hd with rfl|rfl
 ·exact zn8 y
 ·exact zn8 z
structure Tx(p:List Int×Rat):Prop where
 ln:p.1.length<=5
 lt:∀ x∈p.1,x.natAbs.log2<413
 n1:p.2.num.natAbs.log2<413
 n2:p.2.den.log2<413
theorem zrr{z:Sm}(h:∀ p∈z,Tx p)(hl:z.length<=63):PyData.showable (.list (z.map tln))=true/\PyData.leavesShort 414 (.list (z.map tln))=true/\PyData.bulk (.list (z.map tln))<=631:=by
 refine⟨?_,?_,?_⟩
 ·simp only [PyData.showable]
  refine ziq tln z fun p hp=>?_
  have:=h p hp
  simp only [tln,tp,num,PyData.showable,PyData.showableAll,Bool.and_true,Bool.and_eq_true,decide_eq_true_eq]
  refine⟨ziq PyData.int p.1 fun x hx=>?_,?_,?_⟩
  ·simp only [PyData.showable,decide_eq_true_eq];have:=this.lt x hx;omega
  ·have:=this.n1;omega
  ·have:=this.n2;simp only [Int.natAbs_natCast];omega
 ·simp only [PyData.leavesShort]
  refine ziL tln z fun p hp=>?_
  have:=h p hp
  simp only [tln,tp,num,PyData.leavesShort,PyData.leavesShortAll,Bool.and_true,Bool.and_eq_true]
  refine⟨ziL PyData.int p.1 fun x hx=>ziK (k:=413) (this.lt x hx) (by decide) (by decide),?_,?_⟩
  ·have:=ziK (k:=413) (B:=414) this.n1 (by decide) (by decide);simpa only [PyData.leavesShort] using this
  ·have:=ziK (i:=(p.2.den:Int)) (k:=413) (B:=414) (by simpa using this.n2) (by decide) (by decide);simpa only [PyData.leavesShort] using this
 ·simp only [PyData.bulk]
  have:=zi7 tln 9 z fun p hp=>by
   have:=(h p hp).ln
   have b2:=zi7 PyData.int 0 p.1 fun x _=>by simp [PyData.bulk]
   simp only [tln,tp,num,PyData.bulk,PyData.bulkAll]
   omega
  omega
theorem zt2{y z:Sm}(hy:∀ p∈y,Tx p)(hz:∀ p∈z,Tx p)(ly:y.length<=63)(lz:z.length<=63):∃ t,zse (.list [.list (y.map tln),.list (z.map tln)])=.ok (.str t):=by
 obtain⟨a1,a2,a3⟩:=zrr hy ly
 obtain⟨b1,b2,b3⟩:=zrr hz lz
 have pl:=zn7 y z
 have lf:PyData.leavesShort 414 (.list [.list (y.map tln),.list (z.map tln)])=true:=by
  rw [PyData.leavesShort,PyData.leavesShortAll,PyData.leavesShortAll,PyData.leavesShortAll,a2,b2];rfl
 have ln:=PyData.shown_le_bulk 414 (by decide) _ lf
 have bk:PyData.bulk (.list [.list (y.map tln),.list (z.map tln)])<=1270:=by
  rw [PyData.bulk,PyData.bulkAll,PyData.bulkAll,PyData.bulkAll]
  omega
 have sh:PyData.showable (.list [.list (y.map tln),.list (z.map tln)])=true:=by
  rw [PyData.showable,PyData.showableAll,PyData.showableAll,PyData.showableAll,a1,b1];rfl
 refine⟨PyData.shown (.list [.list (y.map tln),.list (z.map tln)]),?_⟩
 show chk _ _=_
 rw [zav]
 simp only [Bool.and_eq_true]
 exact⟨pl.1,sh,zeU (Nat.le_trans pl.2 (by decide)),zeU (by unfold lim;omega)⟩
theorem zvd{c:Int}{x s:Sm}{D:Nat}{p:Po}(hx:Xs c x D)(h:Gs x p s)(hp:Ok p):∀ q∈s,Tx q:=fun q hq=>by
 have w:=wok hx h q hq
 have b:=bd hx hp h q hq
 have:=hx.c4
 exact⟨w.ln,fun y hy=>zps (m:=413) (Nat.lt_of_lt_of_le (show y.natAbs<2^3 by have:=w.lt y hy;omega) (Nat.pow_le_pow_right (by decide) (by decide))) (by decide),zps b.1 (by decide),zps b.2 (by decide)⟩
theorem ne_self{n:Nat}{a:PyData}(h:Pl n a)(hn:n<=64:=by decide):neD a a=.ok (.bool false):=by
 rw [zop h h hn hn,SeqAt.eqv_refl a h.1];rfl
theorem znI{i:Nat}{f:EF}{t:SF}{ρ:En}{d:PyData}{x:Sl}(hf:f ρ=.ok (d,ρ))(hd:LL2 d)(hi:ρ[i]?=some x)(hx:Np x):ztF i f t ρ=t (ρ.set i (.val d)):=by
 unfold ztF
 rw [hf,zac,if_pos hd,zeY hi hx]
 rfl
theorem zrj{c:Int}{x:Sm}{D:Nat}(h:Lw c x D):∃ g l:Sm,
  zb6 [.list (x.map tln)]=.ok (.list (g.map tln))/\zbP [.list ((([],1)::x).map tln)]=.ok (.list (l.map tln)) /\
  zcQ [.int c,.list (x.map tln)]=.ok (.list (g.map tln))/\zb3 [.int c,.list ((([],1)::x).map tln)]=.ok (.list (l.map tln)) /\
  zb3 [.int c,.list (g.map tln)]=.ok (.list (x.map tln))/\zcQ [.int c,.list (l.map tln)]=.ok (.list ((([],1)::x).map tln)) /\
  ∃ t,zse (.list [.list (g.map tln),.list (l.map tln)])=.ok (.str t):=by
 obtain⟨u,eu,gu⟩:=zoD h.xs h.g1
 obtain⟨v,ev',gv⟩:=zmR h.xs h.g1
 obtain⟨u2,eu2,gu2⟩:=zhV h.xs h.g1 h.as rfl g_1
 obtain⟨v2,ev2,gv2⟩:=zgB h.xs h.gw h.aw rfl o_W l_W
 replace gu2:=gu2.congr (zm3 zyv)
 replace gv2:=gv2.congr (zm3 zyp)
 have e1:=gu2.eqv gu
 have e2:=gv2.eqv gv
 have ag:=zbF gu.nk
 have al:=zbF gv.nk
 have gg:=gu.sort
 have gl:=gv.sort
 unfold told at eu ev' eu2 ev2
 rw [e1] at eu2
 rw [e2] at ev2
 generalize zbz u=g at *
 generalize zbz v=l at *
 obtain⟨u3,eu3,gu3⟩:=zgB h.xs gg ag rfl o_E l_E
 obtain⟨v3,ev3,gv3⟩:=zhV h.xs gl al rfl g_L
 have e3:=((gu3.congr (zm3 zyq)).eqv h.g1).trans (znF h.as)
 have e4:=((gv3.congr (zm3 zyu)).eqv h.gw).trans (znF h.aw)
 unfold told at eu3 ev3
 rw [e3] at eu3
 rw [e4] at ev3
 exact⟨g,l,eu,ev',eu2,ev2,eu3,ev3,zt2 (zvd h.xs gg (zew o_E)) (zvd h.xs gl (zew o_L)) (gg.ln h.xs.sz) (gl.ln h.xs.sz)⟩
theorem znt{c:Int}{x g l:Sm}{S:PyData}{k:Int}{ns:List Int}{i:Int}{t:Str}
  (a1:zcQ [.int c,.list (x.map tln)]=.ok (.list (g.map tln)))(a2:zb3 [.int c,.list ((([],1)::x).map tln)]=.ok (.list (l.map tln)))
  (a3:zb3 [.int c,.list (g.map tln)]=.ok (.list (x.map tln)))(a4:zcQ [.int c,.list (l.map tln)]=.ok (.list ((([],1)::x).map tln)))
  (ht:zse (.list [.list (g.map tln),.list (l.map tln)])=.ok (.str t)) :
  zff [.val S,.val (.int k),.ow false (.list (ns.map PyData.int)),.val (.int c),.val (.list (x.map tln)),.val (.list ((([],1)::x).map tln)),.val (.list [.list (g.map tln),.list (l.map tln)]),.val (.list [.list (x.map tln),.list ((([],1)::x).map tln)]),.val (.int i),.no,.no,.no]=.ok (.nx,[.val S,.val (.int k),.ow false (.list (ns.map PyData.int)),.val (.int c),.val (.list (x.map tln)),.val (.list ((([],1)::x).map tln)),.val (.list [.list (g.map tln),.list (l.map tln)]),.val (.list [.list (x.map tln),.list ((([],1)::x).map tln)]),.val (.int i),.no,.no,.no]):=by
 have ll1:LL2 (.list [.list (g.map tln),.list (l.map tln)]):=⟨[g.map tln,l.map tln],by simp,rfl⟩
 have ll2:LL2 (.list [.list (x.map tln),.list ((([],1)::x).map tln)]):=⟨[x.map tln,(([],1)::x).map tln],by simp,rfl⟩
 have n1:neD (.list [.list (x.map tln),.list ((([],1)::x).map tln)]) (.list [.list (x.map tln),.list ((([],1)::x).map tln)])=.ok (.bool false):=ne_self (zn7 _ _)
 have n2:neD (.list [.list (g.map tln),.list (l.map tln)]) (.list [.list (g.map tln),.list (l.map tln)])=.ok (.bool false):=ne_self (zn7 _ _)
 have nS:zwJ (.str t) (.str t)=.ok (.bool false):=by
  show R.ok (PyData.bool (t != t))=_
  simp
 have l2:leB 2 lim=true:=by decide
 have ix0:∀ X Y:PyData,ixD (.list [X,Y]) (.int 0)=.ok X:=fun _ _=>rfl
 have ix1:∀ X Y:PyData,ixD (.list [X,Y]) (.int 1)=.ok Y:=fun _ _=>rfl
 generalize PyData.list (g.map tln)=G at *
 generalize PyData.list (l.map tln)=L at *
 generalize PyData.list ((([],1)::x).map tln)=W at *
 generalize PyData.list (x.map tln)=A at *
 unfold zff zwk
 show ztF 9 _ _ _=_
 rw [znI (d:=.list [G,L]) (x:=.no) ?_ ll1 rfl zbm]
 ·show zat _ _ [.val S,.val (.int k),.ow false (.list (ns.map PyData.int)),.val (.int c),.val A,.val W,.val (.list [G,L]),.val (.list [A,W]),.val (.int i),.val (.list [G,L]),.no,.no]=_
  rw [zai (ρ1:=[.val S,.val (.int k),.ow false (.list (ns.map PyData.int)),.val (.int c),.val A,.val W,.val (.list [G,L]),.val (.list [A,W]),.val (.int i),.val (.list [G,L]),.no,.no]) ?_]
  ·rw [znI (d:=.list [A,W]) (x:=.no) ?_ ll2 rfl zbm]
   ·show zat _ _ [.val S,.val (.int k),.ow false (.list (ns.map PyData.int)),.val (.int c),.val A,.val W,.val (.list [G,L]),.val (.list [A,W]),.val (.int i),.val (.list [G,L]),.val (.list [A,W]),.no]=_
    rw [zai (ρ1:=[.val S,.val (.int k),.ow false (.list (ns.map PyData.int)),.val (.int c),.val A,.val W,.val (.list [G,L]),.val (.list [A,W]),.val (.int i),.val (.list [G,L]),.val (.list [A,W]),.no]) ?_]
    ·unfold znJ
     rw [if_pos]
     ·rfl
     ·have nv:∀(d:PyData) (p:Bool) (c:PyData),Sl.val d≠.ow p c:=fun _ _ _ z=>nomatch z
      have nn:∀(p:Bool) (c:PyData),Sl.no≠.ow p c:=fun _ _ z=>nomatch z
      refine⟨⟨.inr (.inl ⟨rfl,nv _⟩),.inr (.inl ⟨rfl,nv _⟩),.inr (.inr ⟨by decide,_,ns,rfl⟩),.inr (.inl ⟨rfl,nv _⟩),.inr (.inl ⟨rfl,nv _⟩),.inr (.inl ⟨rfl,nv _⟩),.inr (.inl ⟨rfl,nv _⟩),.inr (.inl ⟨rfl,nv _⟩),.inr (.inl ⟨rfl,nv _⟩),.inl ⟨by decide,nv _⟩,.inl ⟨by decide,nv _⟩,.inl ⟨by decide,nn⟩,trivial⟩,?_⟩
      intro k hk
      simp only [List.mem_cons,List.not_mem_nil,or_false] at hk
      simp only [List.length_cons,List.length_nil]
      omega
    ·simp only [sIf,FL.tOr,tB,FL.e1,FL.e2,zcR,zaa,zah,eV,zac,zz0,zz1,List.length_cons,List.length_nil,Nat.reduceAdd,zav l2,n1,n2,Bool.false_eq_true,if_false,sNx]
   ·simp only [zcR,zag,FL.e2,zaa,zah,eV,eC,zac,zz0,zz1,ix0,ix1,a3,a4,List.length_cons,List.length_nil,Nat.reduceAdd,zav l2]
  ·simp only [sIf,FL.tOr,tB,FL.e1,FL.e2,zcR,zaa,zah,eV,zac,zz0,zz1,List.length_cons,List.length_nil,Nat.reduceAdd,zav l2,ht,nS,n1,Bool.false_eq_true,if_false,sNx]
 ·simp only [zcR,zag,FL.e2,zaa,zah,eV,eC,zac,zz0,zz1,ix0,ix1,a1,a2,List.length_cons,List.length_nil,Nat.reduceAdd,zav l2]
theorem zpU{c:Int}{x g l:Sm}{S:PyData}{k:Int}{ns:List Int}{t:Str}
  (a1:zcQ [.int c,.list (x.map tln)]=.ok (.list (g.map tln)))(a2:zb3 [.int c,.list ((([],1)::x).map tln)]=.ok (.list (l.map tln)))
  (a3:zb3 [.int c,.list (g.map tln)]=.ok (.list (x.map tln)))(a4:zcQ [.int c,.list (l.map tln)]=.ok (.list ((([],1)::x).map tln)))
  (ht:zse (.list [.list (g.map tln),.list (l.map tln)])=.ok (.str t)){x8:Sl}(n8:Np x8) :
  zig [.val S,.val (.int k),.ow false (.list (ns.map PyData.int)),.val (.int c),.val (.list (x.map tln)),.val (.list ((([],1)::x).map tln)),.val (.list [.list (g.map tln),.list (l.map tln)]),.val (.list [.list (x.map tln),.list ((([],1)::x).map tln)]),x8,.no,.no,.no]=.ok (.nx,[.val S,.val (.int k),.ow false (.list (ns.map PyData.int)),.val (.int c),.val (.list (x.map tln)),.val (.list ((([],1)::x).map tln)),.val (.list [.list (g.map tln),.list (l.map tln)]),.val (.list [.list (x.map tln),.list ((([],1)::x).map tln)]),.val (.int 1),.no,.no,.no]):=by
 have t0:=znt (S:=S) (k:=k) (ns:=ns) (i:=0) a1 a2 a3 a4 ht
 have t1:=znt (S:=S) (k:=k) (ns:=ns) (i:=1) a1 a2 a3 a4 ht
 generalize PyData.list (g.map tln)=G at *
 generalize PyData.list (l.map tln)=L at *
 generalize PyData.list ((([],1)::x).map tln)=W at *
 generalize PyData.list (x.map tln)=A at *
 have g0:gN 8 (.int 0) [.val S,.val (.int k),.ow false (.list (ns.map PyData.int)),.val (.int c),.val A,.val W,.val (.list [G,L]),.val (.list [A,W]),x8,.no,.no,.no]=.ok [.val S,.val (.int k),.ow false (.list (ns.map PyData.int)),.val (.int c),.val A,.val W,.val (.list [G,L]),.val (.list [A,W]),.val (.int 0),.no,.no,.no]:=zeY rfl n8
 have g1:gN 8 (.int 1) [.val S,.val (.int k),.ow false (.list (ns.map PyData.int)),.val (.int c),.val A,.val W,.val (.list [G,L]),.val (.list [A,W]),.val (.int 0),.no,.no,.no]=.ok [.val S,.val (.int k),.ow false (.list (ns.map PyData.int)),.val (.int c),.val A,.val W,.val (.list [G,L]),.val (.list [A,W]),.val (.int 1),.no,.no,.no]:=rfl
 unfold zig zep
 have hi:∀ ρ:En,iR1 (zaa (eC (.int 2)) zah) ρ=.ok ([.int 0,.int 1],ρ):=fun _=>rfl
 rw [hi,zac]
 show((gN 8 (.int 0) _).bind fun ρ1=>(zff ρ1).bind _)=_
 rw [g0,zac,t0,zac]
 show((gN 8 (.int 1) _).bind fun ρ1=>(zff ρ1).bind _)=_
 rw [g1,zac,t1]
 rfl
theorem ztt(ns:List Int)(k:Int)(k0:0<=k)(k3:k<=1){x2 x3 x4 x5 x6 x7 x8:Sl}(n2:Np x2)(n3:Np x3)(n4:Np x4)(n5:Np x5)(n6:Np x6)(n7:Np x7)(n8:Np x8) :
  ∃ y2 y3 y4 y5 y6 y7 y8,Np y2/\Np y3/\Np y4/\Np y5/\Np y6/\Np y7/\Np y8/\zgo [.val (.list (ns.map PyData.int)),.val (.int k),x2,x3,x4,x5,x6,x7,x8,.no,.no,.no]=.ok (.nx,[.val (.list (ns.map PyData.int)),.val (.int k),y2,y3,y4,y5,y6,y7,y8,.no,.no,.no]):=by
 obtain⟨a,ea⟩:=zxg ns k k0 (by omega)
 obtain⟨d,ed,pd⟩:=zqe a k (by omega)
 obtain⟨n,d1,t1,n0,n1,p1⟩:=zc7 pd (by decide) 4 (by decide) (by decide)
 obtain⟨s,d2,es,dn,p2⟩:=zq2 p1 (by decide) (c:=1+n) (by omega) (by omega)
 obtain⟨D,lw⟩:=zwM (by omega) (by omega) dn
 unfold told at es
 generalize zbz s=x at es lw
 obtain⟨g,l,b1,b2,a1,a2,a3,a4,t,ht⟩:=zrj lw
 obtain⟨m1,m2,m3,rfl,_⟩:=p2
 have lx:=lw.g1.ln lw.xs.sz
 have ad:zaV (.list [.tuple [.tuple [],.tuple [.int 1,.int 1]]]) (.list (x.map tln))=.ok (.list ((([],1)::x).map tln)):=by
  show chk _ _=_
  rw [zav (zeU (by simp only [List.length_cons,List.length_nil,List.length_map];unfold lim;omega))]
  rfl
 have tn:=fun{x8:Sl} (h:Np x8)=>zpU (S:=.list (ns.map PyData.int)) (k:=k) (ns:=[m1,m2,m3]) a1 a2 a3 a4 ht h
 generalize PyData.list (ns.map PyData.int)=S at ea tn ⊢
 rw [<- zxh] at ea
 rw [<- zqf] at ed
 rw [<- zkM] at t1
 have l1:ziI (.list (x.map tln))=.ok (.list (x.map tln)):=rfl
 have l3:ziI (.list ((([],1)::x).map tln))=.ok (.list ((([],1)::x).map tln)):=rfl
 have l2:leB 2 lim=true:=by decide
 generalize PyData.list (g.map tln)=G at *
 generalize PyData.list (l.map tln)=L at *
 generalize PyData.list ((([],1)::x).map tln)=W at *
 generalize PyData.list (x.map tln)=A at *
 have tn':=tn n8
 refine⟨.ow false (.list [.int m1,.int m2,.int m3]),.val (.int (1+n)),.val A,.val W,.val (.list [G,L]),.val (.list [A,W]),.val (.int 1),zwH _,zaA _,zaA _,zaA _,zaA _,zaA _,zaA _,?_⟩
 have s1:zdE 2 (zag zcF (zaa (zag zfb (zaa (eV 0) (zaa (eV 1) zah))) (zaa (eV 1) zah))) [.val S,.val (.int k),x2,x3,x4,x5,x6,x7,x8,.no,.no,.no]=.ok (.nx,[.val S,.val (.int k),.ow false d,x3,x4,x5,x6,x7,x8,.no,.no,.no]) :=
  zis (y:=(d,[.val S,.val (.int k),x2,x3,x4,x5,x6,x7,x8,.no,.no,.no])) (by simp only [zag,zaa,zah,eV,zac,zz0,zz1,ea,ed]) rfl n2
 have s2:zaL (gN 3) (e2 zaV (eC (.int 1)) (zao zaq [.m 2,.v (eC (.int 4))])) [.val S,.val (.int k),.ow false d,x3,x4,x5,x6,x7,x8,.no,.no,.no]=.ok (.nx,[.val S,.val (.int k),.ow false d1,.val (.int (1+n)),x4,x5,x6,x7,x8,.no,.no,.no]):=by
  have cm:zao zaq [.m 2,.v (eC (.int 4))] [.val S,.val (.int k),.ow false d,x3,x4,x5,x6,x7,x8,.no,.no,.no]=.ok (.int n,[.val S,.val (.int k),.ow false d1,x3,x4,x5,x6,x7,x8,.no,.no,.no]):=zfw (p:=false) (d:=d) rfl rfl t1
  have ad:zaV (.int 1) (.int n)=.ok (.int (1+n)):=rfl
  exact zb8 (y:=(.int (1+n),[.val S,.val (.int k),.ow false d1,x3,x4,x5,x6,x7,x8,.no,.no,.no])) (by simp only [FL.e2,show eC (.int 1) [.val S,.val (.int k),.ow false d,x3,x4,x5,x6,x7,x8,.no,.no,.no]=.ok (.int 1,[.val S,.val (.int k),.ow false d,x3,x4,x5,x6,x7,x8,.no,.no,.no]) from rfl,zac,cm,ad]) rfl n3
 have s3:zaL (gN 4) (zao zcG [.m 2,.v (eV 3)]) [.val S,.val (.int k),.ow false d1,.val (.int (1+n)),x4,x5,x6,x7,x8,.no,.no,.no]=.ok (.nx,[.val S,.val (.int k),.ow false (.list [.int m1,.int m2,.int m3]),.val (.int (1+n)),.val A,x5,x6,x7,x8,.no,.no,.no]) :=
  zb8 (y:=(A,[.val S,.val (.int k),.ow false (.list [.int m1,.int m2,.int m3]),.val (.int (1+n)),x4,x5,x6,x7,x8,.no,.no,.no])) (zfw (p:=false) (d:=d1) rfl rfl es) rfl n4
 have s4:zaL (gN 5) (e2 zaV (zcR (zaa (zaP (zaa (zaP zah) (zaa (zaP (zaa (eC (.int 1)) (zaa (eC (.int 1)) zah))) zah))) zah)) (eV 4)) [.val S,.val (.int k),.ow false (.list [.int m1,.int m2,.int m3]),.val (.int (1+n)),.val A,x5,x6,x7,x8,.no,.no,.no]=.ok (.nx,[.val S,.val (.int k),.ow false (.list [.int m1,.int m2,.int m3]),.val (.int (1+n)),.val A,.val W,x6,x7,x8,.no,.no,.no]):=by
  have el:∀ ρ:En,zcR (zaa (zaP (zaa (zaP zah) (zaa (zaP (zaa (eC (.int 1)) (zaa (eC (.int 1)) zah))) zah))) zah) ρ=.ok (.list [.tuple [.tuple [],.tuple [.int 1,.int 1]]],ρ):=fun _=>rfl
  exact zb8 (y:=(W,[.val S,.val (.int k),.ow false (.list [.int m1,.int m2,.int m3]),.val (.int (1+n)),.val A,x5,x6,x7,x8,.no,.no,.no])) (by simp only [FL.e2,el,eV,zac,zz0,zz1,ad]) rfl n5
 have s5:zaL (gN 6) (zcR (zaa (zag zb6 (zaa (eV 4) zah)) (zaa (zag zbP (zaa (eV 5) zah)) zah))) [.val S,.val (.int k),.ow false (.list [.int m1,.int m2,.int m3]),.val (.int (1+n)),.val A,.val W,x6,x7,x8,.no,.no,.no]=.ok (.nx,[.val S,.val (.int k),.ow false (.list [.int m1,.int m2,.int m3]),.val (.int (1+n)),.val A,.val W,.val (.list [G,L]),x7,x8,.no,.no,.no]) :=
  zb8 (y:=(.list [G,L],[.val S,.val (.int k),.ow false (.list [.int m1,.int m2,.int m3]),.val (.int (1+n)),.val A,.val W,x6,x7,x8,.no,.no,.no])) (by simp only [zcR,zag,zaa,zah,eV,zac,zz0,zz1,b1,b2,List.length_cons,List.length_nil,Nat.reduceAdd,zav l2]) rfl n6
 have s6:zaL (gN 7) (zcR (zaa (FL.e1 ziI (eV 4)) (zaa (FL.e1 ziI (eV 5)) zah))) [.val S,.val (.int k),.ow false (.list [.int m1,.int m2,.int m3]),.val (.int (1+n)),.val A,.val W,.val (.list [G,L]),x7,x8,.no,.no,.no]=.ok (.nx,[.val S,.val (.int k),.ow false (.list [.int m1,.int m2,.int m3]),.val (.int (1+n)),.val A,.val W,.val (.list [G,L]),.val (.list [A,W]),x8,.no,.no,.no]) :=
  zb8 (y:=(.list [A,W],[.val S,.val (.int k),.ow false (.list [.int m1,.int m2,.int m3]),.val (.int (1+n)),.val A,.val W,.val (.list [G,L]),x7,x8,.no,.no,.no])) (by simp only [zcR,FL.e1,zaa,zah,eV,zac,zz0,zz1,l1,l3,List.length_cons,List.length_nil,Nat.reduceAdd,zav l2]) rfl n7
 unfold zgo
 rw [zai s1,zai s2,zai s3,zai s4,zai s5,zai s6]
 exact tn'
theorem zqI(ns:List Int)(hl:ns.length<=63):zpI [.list (ns.map PyData.int)]=.ok (.bool true):=by
 obtain⟨m,m0,m3,em⟩:∃ m:Int,0<=m/\m<=2/\e2 zaV (eC (.int 1)) (e1 intD (e2 gtD (e1 zdg (eV 0)) (eC (.int 1)))) [.val (.list (ns.map PyData.int)),.no,.no,.no,.no,.no,.no,.no,.no,.no,.no,.no]=.ok (.int m,[.val (.list (ns.map PyData.int)),.no,.no,.no,.no,.no,.no,.no,.no,.no,.no,.no]):=by
  have ln:zdg (.list (ns.map PyData.int))=.ok (.int (ns.length:Int)):=by
   show R.ok (PyData.int ((ns.map PyData.int).length:Int))=_
   rw [List.length_map]
  refine⟨1+(if decide ((ns.length:Int) > 1) then 1 else 0),by split <;> omega,by split <;> omega,?_⟩
  simp only [FL.e2,FL.e1,eV,eC,zac,zz0,ln,zo1]
  cases decide ((ns.length:Int) > 1) <;> rfl
 have L:=zbg (f:=fun i:Int=>PyData.int i) (g:=gN 1) (b:=zgo)
  (fun done ρ=>∃ y1 y2 y3 y4 y5 y6 y7 y8,Np y1/\Np y2/\Np y3/\Np y4/\Np y5/\Np y6/\Np y7/\Np y8/\ρ=[.val (.list (ns.map PyData.int)),y1,y2,y3,y4,y5,y6,y7,y8,.no,.no,.no])
  ((List.range m.toNat).map fun(i:Nat)=>(0:Int)+(i:Int)) [] [.val (.list (ns.map PyData.int)),.no,.no,.no,.no,.no,.no,.no,.no,.no,.no,.no] ⟨.no,.no,.no,.no,.no,.no,.no,.no,zbm,zbm,zbm,zbm,zbm,zbm,zbm,zbm,rfl⟩ (by
   intro pre i post ρ e hP
   obtain⟨y1,y2,y3,y4,y5,y6,y7,y8,h1,h2,h3,h4,h5,h6,h7,h8,rfl⟩:=hP
   rw [List.nil_append] at e
   have mi:i∈(List.range m.toNat).map fun(i:Nat)=>(0:Int)+(i:Int):=by rw [e];simp
   obtain⟨j,hj,rfl⟩:=List.mem_map.mp mi
   have:=List.mem_range.mp hj
   have gx:gN 1 (.int ((0:Int)+(j:Int))) [.val (.list (ns.map PyData.int)),y1,y2,y3,y4,y5,y6,y7,y8,.no,.no,.no]=.ok [.val (.list (ns.map PyData.int)),.val (.int ((0:Int)+(j:Int))),y2,y3,y4,y5,y6,y7,y8,.no,.no,.no]:=zeY rfl h1
   obtain⟨z2,z3,z4,z5,z6,z7,z8,m2,m3',m4,m5,m6,m7,m8,et⟩:=ztt ns ((0:Int)+(j:Int)) (by omega) (by omega) h2 h3 h4 h5 h6 h7 h8
   exact⟨_,.nx,by rw [gx,zac];exact et,.inl rfl,_,z2,z3,z4,z5,z6,z7,z8,zaA _,m2,m3',m4,m5,m6,m7,m8,rfl⟩)
 obtain⟨ρ',e,_⟩:=L
 have hr:zdG [.int m]=.ok (rng 0 m):=zdZ m0 (by omega)
 have s1:zif [.val (.list (ns.map PyData.int)),.no,.no,.no,.no,.no,.no,.no,.no,.no,.no,.no]=.ok (.nx,ρ'):=by
  unfold zif zep
  have hi:iR1 (zaa (e2 zaV (eC (.int 1)) (e1 intD (e2 gtD (e1 zdg (eV 0)) (eC (.int 1))))) zah) [.val (.list (ns.map PyData.int)),.no,.no,.no,.no,.no,.no,.no,.no,.no,.no,.no]=.ok (rng 0 m,[.val (.list (ns.map PyData.int)),.no,.no,.no,.no,.no,.no,.no,.no,.no,.no,.no]):=by
   unfold iR1
   rw [zaa,em]
   simp only [zah,zac,hr]
  rw [hi,zac,zkQ,Int.sub_zero]
  exact e
 refine zeq (ρ:=ρ') rfl ?_
 show zrh [.val (.list (ns.map PyData.int)),.no,.no,.no,.no,.no,.no,.no,.no,.no,.no,.no]=_
 unfold zrh
 rw [zai s1]
 rfl
end
end K58
open PySem PySem.W PyProof.Rows
theorem PySem.W.Fast.tw8136560186385112832 : True := trivial
theorem PySem.W.Fast.tw13739628968089326212 : True := trivial
theorem PySem.W.Fast.tw3148280012347639403 : True := trivial
theorem PySem.W.Fast.tw2655465858053461649 : True := trivial
theorem PySem.W.Fast.tw848367519323078453 : True := trivial
theorem PySem.W.Fast.tw12423480362083694966 : True := trivial
theorem PySem.W.Fast.tw16812385003624353015 : True := trivial
theorem PySem.W.Fast.tw12162510826163691063 : True := trivial
theorem PySem.W.Fast.tw491492686909013596 : True := trivial
theorem PySem.W.Fast.tw5380986488254849277 : True := trivial
theorem PySem.W.Fast.tw9886993184842810622 : True := trivial
theorem PySem.W.Fast.tw4827338508520704895 : True := trivial
set_option maxRecDepth 100000 in
set_option maxHeartbeats 0 in
theorem PySem.Challenge.cw_swaprest_k58_grown_and_logged_sums_holds : PySem.Challenge.rw_swaprest_k58_grown_and_logged_sums.Holds := by
 w_on; o_law; k_head; (case hw => w_witness2)
 k_fill
 refine K58.walk (l:=PySem.Challenge.rw_swaprest_k58_grown_and_logged_sums) K58.zqI rfl rfl (by decide +kernel) rfl (fun w h Y => PySem.W.kIn_of Y) ?F
 case F =>
  intro w mg fa h KX G hmg
  refine' K58.all_mk KX G hmg ?oo0 ?oo1 ?oo2 ?oo3 ?oo4 ?oo5 ?oo6 ?oo7 ?oo8 ?oo9 ?oo10 ?oo11 ?oo12 ?oo13 ?oo14 ?oo15 ?oo16 ?oo17 ?oo18 ?oo19 ?oo20 ?oo21 ?oo22 ?oo23 ?oo24 ?oo25 ?oo26 ?oo27 ?oo28 ?oo29 ?oo30 ?oo31 ?oo32 ?oo33 ?oo34 ?oo35 ?oo36 ?oo37 ?oo38 ?oo39 ?oo40 ?oo41 ?oo42 ?oo43 ?oo44 ?oo45 ?oo46 ?oo47 ?oo48 ?oo49 ?oo50 ?oo51 ?oo52 ?oo53 ?oo54 ?oo55 ?oo56 ?oo57 ?oo58 ?oo59 ?oo60 ?oo61 ?oo62 ?oo63
  (case oo0 | oo1 | oo2 | oo3 | oo4 | oo5 | oo6 | oo7 | oo8 | oo9 | oo10 | oo11 | oo12 | oo13 | oo14 | oo15 | oo16 | oo17 | oo18 | oo19 | oo20 | oo21 | oo22 | oo23 | oo24 | oo25 | oo26 | oo27 | oo28 | oo29 | oo30 | oo31 | oo32 | oo33 | oo34 | oo35 | oo36 | oo37 => refine' FL.zvb KX G ?Zq ?Zl ?Zc ?Zk; (case Zq => k_is); (case Zl => k_is); (case Zc => k_is); (case Zk => k_is))
  (case oo38 | oo39 | oo40 | oo41 | oo42 | oo43 | oo44 | oo45 | oo46 | oo47 | oo48 | oo49 | oo50 | oo51 | oo52 | oo53 | oo54 | oo55 | oo56 | oo57 | oo58 | oo59 | oo60 | oo61 | oo62 | oo63 => k_is)
