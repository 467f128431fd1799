import PyProof.Rows.All
import Wide.All
import OpenK.AllK
import Wide.FinOn
import Lean
import PyProof.EqAt
import PyProof.EqKinds
import PyProof.TupleCall
import PyProof.EqLayable
import PyProof.StationsW
import PyProof.NsDelKeeps
import PyProof.ExcArgsOwn
import PyProof.ExcAttrAll.ValueError
import PyProof.ZipIter
import PyProof.EnumFor
import PyProof.EnumStmt
import PyProof.EnumMake
import PyProof.ConsumeWalk
import PyProof.Cells
import PyProof.CompUse
import PyProof.DictIter
import PyProof.DictWalks
import PyProof.CollectWalk
import PyProof.WalksS
import PyProof.P3Statements
import PyProof.DictRoadsH
import KE.KSortTup
import PyProof.P3In
import KE.KRevSl
import PyProof.ReprReads
import KE.KMinKey
import PyProof.ReprRoads
import PyProof.Conv_int_bool
import PyProof.AutoListH
import PyProof.StrCalls
import PyProof.StrCalls2
import PyProof.MeetsStr
import PyProof.StrBlock
import PyProof.FString
import PyProof.StrBlockI
import KE.KIntText
import PyProof.StrWalks
import PyProof.TupleIter
import PyProof.AttrMissHeap
import PySem.Challenge.RW_swaprest_k08_a_table_made
set_option Elab.async false
set_option linter.all false
set_option maxRecDepth 100000
set_option maxHeartbeats 4000000
namespace L2
open PySem PySem.Spec PyProof.Rows
section
abbrev Key:=Sum Int Str
def zkW:Key->Value->Bool
 | .inl k,v=>Value.isInt k v
 | .inr x,v=>Value.isStrOf x v
def zv0(w:World):Key->Int
 | .inl k=>hashInt k
 | .inr x=>hashStr w x
theorem zaW:∀{k:Key} {v:Value},zkW k v=true->(∃ i t,k=Sum.inl i/\v=Value.int i t)\/(∃ x t,k=Sum.inr x/\v=Value.str x t)
 | .inl i,v,h=>by
  obtain⟨t,e⟩:=Value.isInt_shape (k:=i) (v:=v) h
  exact .inl ⟨i,t,rfl,e⟩
 | .inr x,v,h=>by
  obtain⟨t,e⟩:=Value.isStrOf_shape (x:=x) (v:=v) h
  exact .inr ⟨x,t,rfl,e⟩
theorem zmx(i:Int)(t:Tok):zkW (.inl i) (.int i t)=true:=by simp [zkW,Value.isInt]
theorem zmw(x:Str)(t:Tok):zkW (.inr x) (.str x t)=true:=by simp [zkW,Value.isStrOf]
theorem zsS(a b:Int):decide ((Sum.inl a:Key)=Sum.inl b)=(a==b):=by
 by_cases e:a=b
 ·subst e;simp
 ·have h:¬ (Sum.inl a:Key)=Sum.inl b:=fun q=>e (Sum.inl.inj q)
  rw [decide_eq_false h]
  exact(beq_eq_false_iff_ne.mpr e).symm
theorem zsP(a b:Str):decide ((Sum.inr a:Key)=Sum.inr b)=decide (a=b):=by
 by_cases e:a=b
 ·subst e;simp
 ·have h:¬ (Sum.inr a:Key)=Sum.inr b:=fun q=>e (Sum.inr.inj q)
  rw [decide_eq_false h,decide_eq_false e]
theorem zsR(a:Int)(b:Str):decide ((Sum.inl a:Key)=Sum.inr b)=false:=decide_eq_false (fun q=>nomatch q)
theorem zsQ(a:Str)(b:Int):decide ((Sum.inr a:Key)=Sum.inl b)=false:=decide_eq_false (fun q=>nomatch q)
def zbJ(prog:Program)(w:World):PySem.KeyKind prog w Key where
 is:=zkW
 hash:=zv0 w
 inj:=fun v a b ha hb=>by
  rcases zaW ha with⟨i,t,rfl,rfl⟩|⟨x,t,rfl,rfl⟩
  ·rcases zaW hb with⟨j,u,rfl,e⟩|⟨y,u,rfl,e⟩
   ·injection e with e1 _;rw [e1]
   ·exact nomatch e
  ·rcases zaW hb with⟨j,u,rfl,e⟩|⟨y,u,rfl,e⟩
   ·exact nomatch e
   ·injection e with e1 _;rw [e1]
 byValue:=fun k v h=>by
  rcases zaW h with⟨i,t,rfl,rfl⟩|⟨x,t,rfl,rfl⟩ <;> rfl
 pyHash:=fun hv h=>by
  rcases zaW hv with⟨i,t,rfl,rfl⟩|⟨x,t,rfl,rfl⟩
  ·exact wpAny_pyHash_int h
  ·exact wpAny_pyHash_str h
 eqBool:=fun hu hv h=>by
  rcases zaW hu with⟨i,t,rfl,rfl⟩|⟨x,t,rfl,rfl⟩
  ·rcases zaW hv with⟨j,u,rfl,rfl⟩|⟨y,u,rfl,rfl⟩
   ·rw [zsS] at h;exact wpAny_eqBool_int h
   ·rw [zsR] at h;exact SeqAt.EqAt.int_str i t y u _ _ _ _ h
  ·rcases zaW hv with⟨j,u,rfl,rfl⟩|⟨y,u,rfl,rfl⟩
   ·rw [zsQ] at h;exact SeqAt.EqAt.str_int x t j u _ _ _ _ h
   ·rw [zsP] at h;exact wpAny_eqBool_str h
 «strs»:=fun k x t v h=>by
  rcases zaW h with⟨i,u,rfl,e⟩|⟨y,u,rfl,e⟩
  ·exact nomatch e
  ·injection e with e1 _
   subst e1
   cases v <;> rfl
theorem zi8(prog:Program)(w:World)(i:Int)(t:Tok):(zbJ prog w).is (.inl i) (.int i t)=true:=zmx i t
theorem zi7(prog:Program)(w:World)(x:Str)(t:Tok):(zbJ prog w).is (.inr x) (.str x t)=true:=zmw x t
end
section
inductive V where
 | non|bl(b:Bool)|int(i:Int)|str(x:Str)|byt(b:Array UInt8)|flt(b:UInt64)|ref(a:Addr)|ty(n:String)
 deriving DecidableEq
def RelV:V->Value->Prop
 | .non,u=>u=Value.none
 | .bl b,u=>u=Value.bool b
 | .int i,u=>∃ t,u=Value.int i t
 | .str x,u=>∃ t,u=Value.str x t
 | .byt b,u=>∃ t,u=Value.bytes b t
 | .flt b,u=>∃ t,u=Value.float b t
 | .ref a,u=>u=Value.ref a
 | .ty n,u=>u=Value.type n
abbrev Vals:List V->List Value->Prop:=Paired RelV
theorem Vals.length{xs:List V}{us:List Value}(r:Vals xs us):xs.length=us.length:=Paired.length r
theorem Vals.get:∀{xs:List V} {us:List Value} {i:Nat} {x:V},Vals xs us->xs[i]?=some x->∃ u,us[i]?=some u/\RelV x u
 | _,_,_,_,.nil,e=>by simp at e
 | _,_,0,_,.cons r _,e=>by simp at e;subst e;exact⟨_,rfl,r⟩
 | _,_,i+1,x,.cons _ t,e=>by
  obtain⟨u,h1,h2⟩:=Vals.get (i:=i) (x:=x) t (by simpa using e)
  exact⟨u,by simpa using h1,h2⟩
theorem Vals.set{x:V}{u:Value}(r:RelV x u):∀{xs:List V} {us:List Value} (i:Nat),Vals xs us->Vals (xs.set i x) (us.set i u)
 | _,_,_,.nil=>.nil
 | _,_,0,.cons _ t=>.cons r t
 | _,_,i+1,.cons q t=>.cons q (Vals.set r i t)
theorem Vals.append:∀{xs ys:List V} {us ws:List Value},Vals xs us->Vals ys ws->Vals (xs++ys) (us++ws)
 | _,_,_,_,.nil,s=>s
 | _,_,_,_,.cons r t,s=>.cons r (Vals.append t s)
theorem Vals.take:∀{xs:List V} {us:List Value} (n:Nat),Vals xs us->Vals (xs.take n) (us.take n)
 | _,_,0,_=>.nil
 | _,_,_+1,.nil=>.nil
 | _,_,n+1,.cons r t=>.cons r (Vals.take n t)
theorem Vals.drop:∀{xs:List V} {us:List Value} (n:Nat),Vals xs us->Vals (xs.drop n) (us.drop n)
 | _,_,0,r=>r
 | _,_,_+1,.nil=>.nil
 | _,_,n+1,.cons _ t=>Vals.drop n t
def ziP:Option V->Option Value->Prop
 | some v,some u=>RelV v u
 | none,none=>True
 | _,_=>False
def KV{κ:Type}:List (κ×V)->List (κ×Value)->Prop:=Paired fun(p:κ×V) (q:κ×Value)=>p.1=q.1/\RelV p.2 q.2
def kV:Key->V
 | .inl i=>.int i
 | .inr x=>.str x
inductive HO where
 /-- a list -/
 | lst(xs:List V)
 /-- a tuple(never changes) -/
 | tup(xs:List V)
 /-- a dict whose keys are ints and texts;one whose keys are tuples of ints and texts(the empty one is both) -/
 | dK(kvs:List (Key×V))|dT(kvs:List (List Key×V))
 /-- a set of ints: its members,its size -/
 | set (S:Int->Bool) (n:Nat)
 /-- an instance of the class at C,its dict at dx,its attributes -/
 | ins (C dx:Addr) (fs:List (Str×V))
 /-- the dict of the instance at x -/
 | own (x:Addr)
 /-- the dict of an exception -/
 | xd (fs:List (Str×V))
 /-- a bound method,f of x -/
 | met (f x:Addr)
 /-- a range object lo,lo+1,.. below hi -/
 | rng (lo hi:Int)
 /-- a thing that is known to the object (the script;a dict while a loop walks it): read,never written while it is so -/
 | frz (o:Obj) (u:HO)
 /-- a code object's table -/
 | tbl (ps:Array Value)
 /-- any other thing,by what is true of its one object (a def of one's own: SetO a S n:=HO.ext fun h=>..) -/
 | ext (φ:Heap->Prop)
abbrev Hp:=Addr->Option HO
def upd(H:Hp)(a:Addr)(o:HO):Hp:=fun b=>if b=a then some o else H b
theorem zal{H:Hp}{a:Addr}{o:HO}:upd H a o a=some o:=by unfold upd;rw [if_pos rfl]
theorem zao{H:Hp}{a b:Addr}{o:HO}(h:b≠a):upd H a o b=H b:=by unfold upd;rw [if_neg h]
theorem zpK{H:Hp}{a:Addr}{o u:HO}:upd (upd H a o) a u=upd H a u:=by
 funext b;unfold upd;split <;> rfl
theorem zsH{H:Hp}{a b:Addr}{o u:HO}(h:H a=some o)(h':H b=some u)(d:o≠u):a≠b:=by
 intro e;subst e;rw [h] at h';exact d (Option.some.inj h')
theorem za8{H:Hp}{a b:Addr}{o:HO}(h:H a=some o)(h':H b=none):a≠b:=by
 intro e;subst e;rw [h] at h';cases h'
def TAt(H:Hp)(b:Addr)(xs:List V):Prop:=H b=some (.tup xs)\/∃ o,H b=some (.frz o (.tup xs))
theorem TAt.upd{H:Hp}{a b:Addr}{u:HO}{xs:List V}(q:TAt H b xs)(n1:∀ ys,H b=some (.tup ys)->b≠a)(n2:∀ o ys,H b=some (.frz o (.tup ys))->b≠a):TAt (upd H a u) b xs:=by
 rcases q with q|⟨o,q⟩
 ·left;rw [zao (n1 _ q)];exact q
 ·right;exact⟨o,by rw [zao (n2 _ _ q)];exact q⟩
section
variable (P:Program)(w:World)
def zbR(H:Hp)(h:Heap)(a:Addr):HO->Prop
 | .lst xs=>xs.length<=sizeLine/\∃(its:List Value) (n:Nat),Vals xs its/\h.get? a=some { cls:=.type "list",data:=.seq its.toArray n }
 | .tup xs=>xs.length<=sizeLine/\∃ its:List Value,Vals xs its/\IsTup h a its.toArray
 | .dK kvs=>kvs.length<=sizeLine/\(a==sysModules)=false/\∃ vs,KV kvs vs/\h.DictOf (zbJ P w) a vs
 | .dT kvs=>kvs.length<=sizeLine/\(a==sysModules)=false/\∃ xs:List (List Key×Addr×Value),
   Paired (fun(p:List Key×V) (q:List Key×Addr×Value)=>p.1=q.1/\TAt H q.2.1 (p.1.map kV)/\RelV p.2 q.2.2) kvs xs /\
   ∃ o es ep,h.get? a=some o/\o.ExactDict/\o.data=.dict es ep/\es.toList=xs.map (entryOfKey (tupleKind (zbJ P w)))/\(xs.map (·.1)).Nodup
 | .set S n=>h.SetOf (intKind P w) a S n
 | .ins C dx fs=>H dx=some (.own a)/\fs.length<=1000/\dx≠a/\h.get? a=some (PySem.W.instObj C dx) /\
   ∃ mA,h.Ns1 dx mA/\(∀ f,ziP (fs.lookup f) (mA f))/\PySem.Within mA (fs.map (·.1))
 | .own _=>∃ o,h.get? a=some o
 | .xd fs=>∃ mA,h.Ns1 a mA/\∀ f,ziP (fs.lookup f) (mA f)
 | .rng lo hi=>∃ t u v,h.get? a=some { cls:=.type "range",data:=.fields #[.int lo t,.int hi u,.int 1 v] }
 | .frz o u=>h.get? a=some o/\zbR H h a u
 | .tbl ps=>h.get? a=some { cls:=.none,data:=.fields ps }
 | .met f x=>h.get? a=some (PySem.W.methodObj (.ref f) (.ref x))
 | .ext φ=>φ h/\(∃ o,h.get? a=some o)/\∀ h1 h2:Heap,φ h1->(∀ o,h1.get? a=some o->h2.get? a=some o)->φ h2
def HOk(H:Hp)(h:Heap):Prop:=∀ a o,H a=some o->zbR P w H h a o
end
section
variable {P:Program}{w:World}{H H':Hp}{h h':Heap}{a:Addr}{o:HO}
theorem zbR.lt(x:zbR P w H h a o):a<h.objs.size:=by
 cases o with
 | lst xs=>obtain⟨_,_,_,_,e⟩:=x;exact Heap.lt_size e
 | tup xs=>obtain⟨_,_,_,p⟩:=x;exact p.lt
 | dK kvs=>obtain⟨_,_,_,_,o,_,_,e,_⟩:=x;exact Heap.lt_size e
 | dT kvs=>obtain⟨_,_,_,_,o,_,_,e,_⟩:=x;exact Heap.lt_size e
 | set S n=>obtain⟨o,_,_,_,e,_⟩:=x;exact Heap.lt_size e
 | ins C dx fs=>obtain⟨_,_,_,e,_⟩:=x;exact Heap.lt_size e
 | own y=>obtain⟨_,e⟩:=x;exact Heap.lt_size e
 | xd fs=>obtain⟨_,⟨_,_,_,e,_⟩,_⟩:=x;exact Heap.lt_size e
 | rng lo hi=>obtain⟨_,_,_,e⟩:=x;exact Heap.lt_size e
 | frz ob u=>obtain⟨e,_⟩:=x;exact Heap.lt_size e
 | tbl ps=>exact Heap.lt_size (show h.get? a=some _ from x)
 | met f y=>exact Heap.lt_size (show h.get? a=some _ from x)
 | ext φ=>obtain⟨_,⟨_,e⟩,_⟩:=x;exact Heap.lt_size e
theorem Paired.zuo{α β:Type}{F G:α->β->Prop}:∀{l₁:List α} {l₂:List β},Paired F l₁ l₂->(∀ a b,F a b->G a b)->Paired G l₁ l₂
 | _,_,.nil,_=>.nil
 | _,_,.cons r t,f=>.cons (f _ _ r) (Paired.zuo t f)
theorem zbR.stay(x:zbR P w H h a o)(k:∀ b u,(b=a\/H b=some (.own a))->h.get? b=some u->h'.get? b=some u)
  (ho:∀ b,H b=some (.own a)->H' b=some (.own a))(ht:∀ b xs,TAt H b xs->TAt H' b xs):zbR P w H' h' a o:=by
 induction o with
 | lst xs=>obtain⟨z,its,n,r,e⟩:=x;exact⟨z,its,n,r,k _ _ (.inl rfl) e⟩
 | tup xs=>obtain⟨z,its,r,ob,e,c⟩:=x;exact⟨z,its,r,ob,k _ _ (.inl rfl) e,c⟩
 | dK kvs=>obtain⟨z,y,vs,r,ob,es,ep,e,c⟩:=x;exact⟨z,y,vs,r,ob,es,ep,k _ _ (.inl rfl) e,c⟩
 | dT kvs =>
  obtain⟨z,y,xs,r,ob,es,ep,e,c⟩:=x
  exact⟨z,y,xs,Paired.zuo r fun p q z=>⟨z.1,ht _ _ z.2.1,z.2.2⟩,ob,es,ep,k _ _ (.inl rfl) e,c⟩
 | set S n=>obtain⟨ob,es,ep,t,e,c⟩:=x;exact⟨ob,es,ep,t,k _ _ (.inl rfl) e,c⟩
 | ins C dx fs =>
  obtain⟨d,z,ne,e,mA,⟨od,es,ep,e2,c⟩,r⟩:=x
  exact⟨ho _ d,z,ne,k _ _ (.inl rfl) e,mA,⟨od,es,ep,k _ _ (.inr d) e2,c⟩,r⟩
 | own y=>obtain⟨ob,e⟩:=x;exact⟨ob,k _ _ (.inl rfl) e⟩
 | xd fs=>obtain⟨mA,⟨od,es,ep,e,c⟩,r⟩:=x;exact⟨mA,⟨od,es,ep,k _ _ (.inl rfl) e,c⟩,r⟩
 | rng lo hi=>obtain⟨t,u,v,e⟩:=x;exact⟨t,u,v,k _ _ (.inl rfl) e⟩
 | frz ob u ih=>obtain⟨e,q⟩:=x;exact⟨k _ _ (.inl rfl) e,ih q⟩
 | tbl ps =>
  have e:h.get? a=some { cls:=.none,data:=.fields ps }:=x
  show h'.get? a=some { cls:=.none,data:=.fields ps }
  exact k a _ (.inl rfl) e
 | met f y =>
  have e:h.get? a=some (PySem.W.methodObj (.ref f) (.ref y)):=x
  show h'.get? a=some (PySem.W.methodObj (.ref f) (.ref y))
  exact k a _ (.inl rfl) e
 | ext φ=>obtain⟨p,⟨o,e⟩,st⟩:=x;exact⟨st _ _ p fun o q=>k _ _ (.inl rfl) q,⟨o,k _ _ (.inl rfl) e⟩,st⟩
theorem HOk.lt(x:HOk P w H h)(e:H a=some o):a<h.objs.size:=(x a o e).lt
theorem HOk.fresh(x:HOk P w H h)(e:h.objs.size<=a):H a=none:=by
 cases q:H a with
 | none=>rfl
 | some u=>exact absurd (Nat.lt_of_lt_of_le (x.lt q) e) (Nat.lt_irrefl _)
theorem HOk.kept(x:HOk P w H h)(k:∀ b u,h.get? b=some u->h'.get? b=some u):HOk P w H h':=fun a o e =>
 (x a o e).stay (fun b u _ q=>k b u q) (fun _ q=>q) fun _ _ q=>q
theorem HOk.laid(x:HOk P w H h)(k:∀ b u,h.get? b=some u->h'.get? b=some u)(hp:h.objs.size<=a)(new:zbR P w (upd H a o) h' a o):HOk P w (upd H a o) h':=fun b u e=>by
 have hn:=x.fresh hp
 by_cases hb:b=a
 ·subst hb;rw [zal] at e;cases e;exact new
 ·rw [zao hb] at e
  exact(x b u e).stay (fun c v _ q=>k c v q) (fun c q=>by rw [zao (za8 q hn)];exact q) fun c xs q=>q.upd (fun _ r=>za8 r hn) fun _ _ r=>za8 r hn
end
def Rd(H:Hp)(a:Addr)(u:HO):Prop:=H a=some u\/∃ o,H a=some (.frz o u)
theorem Rd.ok{P:Program}{w:World}{H:Hp}{h:Heap}{a:Addr}{u:HO}(r:Rd H a u)(x:HOk P w H h):zbR P w H h a u:=by
 rcases r with r|⟨o,r⟩
 ·exact x a u r
 ·obtain⟨_,q⟩:=x a _ r
  exact q
def Mut:Option HO->Prop
 | some (.lst _)=>True
 | some (.dK _)=>True
 | some (.dT _)=>True
 | some (.set _ _)=>True
 | some (.ins _ _ _)=>True
 | some (.ext _)=>True
 | _=>False
section
variable {P:Program}{w:World}{H:Hp}{h h':Heap}{x e:Addr}{o':HO}
theorem HOk.write(ok:HOk P w H h)(mu:Mut (H x))(he:e=x\/H e=some (.own x))(k:∀ b u,b≠e->h.get? b=some u->h'.get? b=some u)(heo:∃ u,h'.get? e=some u)
  (new:zbR P w (upd H x o') h' x o'):HOk P w (upd H x o') h':=fun b u q=>by
 have nown:∀ c y,H c=some (.own y)->c≠x:=fun c y r z=>by subst z;rw [r] at mu;exact mu
 have ntup:∀ c xs,H c=some (.tup xs)->c≠x:=fun c xs r z=>by subst z;rw [r] at mu;exact mu
 by_cases hb:b=x
 ·subst hb;rw [zal] at q;cases q;exact new
 ·rw [zao hb] at q
  by_cases hbe:b=e
  ·have q':H b=some (.own x):=by
    rcases he with z|z
    ·exact absurd (hbe.trans z) hb
    ·rw [hbe];exact z
   rw [q] at q';cases q'
   obtain⟨v,hv⟩:=heo
   exact⟨v,by rw [hbe];exact hv⟩
  ·refine(ok b u q).stay (fun c v hc r=>k c v ?_ r) (fun c r=>by rw [zao (nown c b r)];exact r) fun c xs r=>r.upd (fun ys z=>ntup c ys z) fun o ys z e=>by subst e;rw [z] at mu;exact mu
   rcases hc with rfl|hc
   ·exact hbe
   ·rintro rfl
    rcases he with z|z
    ·exact nown c b hc z
    ·rw [hc] at z;cases z;exact hb rfl
end
structure Un(fs ex:List Addr)(H H':Hp)(h h':Heap):Prop where
 keep:∀ b o,h.get? b=some o->H b=none->b∉fs->b∉ex->h'.get? b=some o
 slot:∀ b o,h.get? b=some o->H b=none->b∈fs->b∉ex->∃ sl,h'.get? b=some { o with slots:=sl }
 free:∀ b o,h.get? b=some o->H b=none->b∉ex->H' b=none
 there:∀ b o,h.get? b=some o->b∉ex->∃ o',h'.get? b=some o'
 tups:∀ b xs,H b=some (.tup xs)->H' b=some (.tup xs)
 frzs:∀ b o u,H b=some (.frz o u)->H' b=some (.frz o u)
 tbls:∀ b ps,H b=some (.tbl ps)->∃ more,H' b=some (.tbl (ps++more))
section
variable {fs fs' ex ex':List Addr}{H H1 H2:Hp}{h h1 h2 h':Heap}{a x e:Addr}{o:HO}
theorem Un.any(u:Un fs ex H H1 h h1){b:Addr}{ob:Obj}(q:h.get? b=some ob)(n:H b=none)(hx:b∉ex):∃ sl,h1.get? b=some { ob with slots:=sl }:=by
 by_cases hb:b∈fs
 ·exact u.slot b ob q n hb hx
 ·exact⟨ob.slots,u.keep b ob q n hb hx⟩
theorem Un.kept(k:∀ b u,h.get? b=some u->h'.get? b=some u):Un fs ex H H h h' :=
 ⟨fun b ob q _ _ _=>k b ob q,fun b ob q _ _ _=>⟨ob.slots,k b ob q⟩,fun _ _ _ n _=>n,fun b ob q _=>⟨ob,k b ob q⟩,fun _ _ q=>q,fun _ _ _ q=>q,fun _ ps q=>⟨#[],by rw [q];simp⟩⟩
theorem Un.refl:Un fs ex H H h h:=Un.kept fun _ _ q=>q
theorem Un.laid(k:∀ b u,h.get? b=some u->h'.get? b=some u)(hp:h.objs.size<=a)(hn:H a=none):Un fs ex H (upd H a o) h h' where
 keep:=fun b u q _ _ _=>k b u q
 slot:=fun b u q _ _ _=>⟨u.slots,k b u q⟩
 free:=fun b u q n _=>by rw [zao (Nat.ne_of_lt (Nat.lt_of_lt_of_le (Heap.lt_size q) hp))];exact n
 there:=fun b u q _=>⟨u,k b u q⟩
 tups:=fun b xs q=>by rw [zao (za8 q hn)];exact q
 frzs:=fun b u xs q=>by rw [zao (za8 q hn)];exact q
 tbls:=fun b ps q=>⟨#[],by rw [zao (za8 q hn),q];simp⟩
theorem Un.write(mu:Mut (H x))(he:e=x\/H e=some (.own x))(k:∀ b u,b≠e->h.get? b=some u->h'.get? b=some u)(heo:∃ u,h'.get? e=some u):Un fs ex H (upd H x o) h h':=by
 have hx:∀ b,H b=none->b≠x:=fun b n z=>by subst z;rw [n] at mu;exact mu
 have hb:∀ b,H b=none->b≠e:=fun b n z=>by
  subst z
  rcases he with r|r
  ·exact hx b n r
  ·rw [n] at r;cases r
 have hm:∀ b u,H b=some u->¬ Mut (some u)->b≠x:=fun b u q nm z=>by subst z;rw [q] at mu;exact nm mu
 refine⟨fun b u q n _ _=>k b u (hb b n) q,fun b u q n _ _=>⟨u.slots,k b u (hb b n) q⟩,fun b u q n _=>by rw [zao (hx b n)];exact n,fun b u q _=>?_,
  fun b xs q=>by rw [zao (hm b _ q fun z=>z)];exact q,fun b u xs q=>by rw [zao (hm b _ q fun z=>z)];exact q,fun b ps q=>⟨#[],by rw [zao (hm b _ q fun z=>z),q];simp⟩⟩
 by_cases hbe:b=e
 ·subst hbe;exact heo
 ·exact⟨u,k b u hbe q⟩
end
def trk(h:Heap)(H:Hp):List Addr:=(List.range h.objs.size).filter fun a=>(H a).isSome
def zos(h:Heap)(H:Hp):Heap:=PySem.W.hideAll h (trk h H)
theorem zmE(h:Heap)(H:Hp):(zos h H).objs.size=h.objs.size:=PySem.W.hideAll_size _ _
theorem zor{h:Heap}{H:Hp}{b:Addr}{o:Obj}(e:h.get? b=some o)(n:H b=none):(zos h H).get? b=some o :=
 PySem.W.hideAll_get _ e fun hm=>by
  have q:(H b).isSome=true:=(List.mem_filter.mp hm).2
  rw [n] at q;simp at q
theorem zqL{h:Heap}{H:Hp}{b:Addr}{o:Obj}(e:(zos h H).get? b=some o):h.get? b=some o/\H b=none:=by
 have e':h.get? b=some o:=PySem.W.of_hideAll (trk h H) e
 refine⟨e',?_⟩
 cases q:H b with
 | none=>rfl
 | some x =>
  have hm:b∈trk h H:=List.mem_filter.mpr ⟨List.mem_range.mpr (Heap.lt_size e'),by simp [q]⟩
  have z:(zos h H).get? b=none:=PySem.W.hideAll_none (trk h H) hm
  rw [z] at e;cases e
def zrq(g h:Heap)(L:Addr):List (Addr×Obj):=(List.range h.objs.size).filterMap fun a=>if a=L\/(g.get? a).isSome=true then none else(h.get? a).map fun o=>(a,o)
def rest(g h:Heap)(L d:Addr):List (Addr×Obj):=(zrq g h L).filter fun p=>decide (p.1≠d)
end
section
structure Mod(K:PySem.W.Frag)(mg:Str->Option Value)(base:Heap):Prop where
 kin:K.In base
 glob:base.Ns mainGlobals mg
 blt:∃ mb,base.Ns builtinsNs mb/\∀ x:Str,x ≠ "__name__"->mb x=bootBuiltins x
 nolimit:base.NoLimit
 seer:base.NoSeer
def zwd(l:List Env):Prop:=∃ env r,l=env::r/\env.scope.isGenerator=false/\env.scope.isCoroutine=false/\env.builtins=builtinsNs/\env.globals=mainGlobals
structure Cx where
 prog:Program
 w:World
 K:PySem.W.Frag
 mg:Str->Option Value
 base:Heap
 A:Around
 N:List Str
 s₀:Shared
 H₀:Hp
 env:Env
 outer:List Env
 stack:List Env
 ex:List Addr
 fn:Str->Bool
 calm:Bool
 pn:List (Addr×Obj)
 xe:Value->Shared->Prop
def frs(l:List Env):List Addr:=l.filterMap (·.frame)
abbrev Cx.fs(X:Cx):List Addr:=frs X.outer
def Vis(sc:Scope)(x:Str):Prop:=sc.names.lookup x=some .local\/sc.names.lookup x=some .cell\/sc.names.lookup x=some .free
def Loc(sc:Scope)(x:Str):Prop:=sc.names.lookup x=some .local\/sc.names.lookup x=some .cell
def Look(env:Env)(h:Heap)(m:Str->Option Value)(x:Str)(u:Value):Prop :=
 (env.kindOf x=some .local/\m x=some u)\/((env.kindOf x=some .cell\/env.kindOf x=some .free)/\∃ c,env.cells.lookup x=some c/\h.IsCell c (some u))
structure Cx.Ok(X:Cx):Prop where
 mod:Mod X.K X.mg X.base
 kind:X.env.scope.kind=.function
 glob:X.env.globals=mainGlobals
 blt:X.env.builtins=builtinsNs
 above:X.s₀.heap.objs.size<=X.env.locals
 inj:∀ x y c,X.env.cells.lookup x=some c->X.env.cells.lookup y=some c->x=y
 has:∀ x,(X.env.kindOf x=some .cell\/X.env.kindOf x=some .free)->∃ c,X.env.cells.lookup x=some c
 cab:∀ x c,X.fn x=true->X.env.cells.lookup x=some c->X.s₀.heap.objs.size<=c
 hd:X.calm=true->X.A.handled=none
 frames:X.A.frames=some X.stack
 stk:X.stack=X.outer\/(X.stack=X.env::X.outer/\X.env.frame=some X.env.locals)
 exf:∀ b∈X.ex,b≠X.env.locals/\∀ x c,X.env.cells.lookup x=some c->c≠b
 bs:∀ b o,X.base.get? b=some o->X.s₀.heap.get? b=some o/\X.H₀ b=none
 bsz:X.base.objs.size<=X.s₀.heap.objs.size
 noex:∀ b o,X.base.get? b=some o->b∉X.ex
 exfs:∀ b∈X.ex,b∉X.fs
 zkl:X.s₀.heap.FunFrames X.base X.outer
 frf:∀ b∈X.fs,X.H₀ b=none
 tree:X.prog.given.tree=none
 sk:zwd X.stack
structure Inv(X:Cx)(pins:List (Addr×Obj))(σ:List (Option V))(H:Hp)(s:Shared):Prop where
 ok:X.Ok
 os:s.os=X.s₀.os
 bare:AllBare s.gens
 base:Un X.fs X.ex X.H₀ H X.s₀.heap s.heap
 loc:∃ m,s.heap.Ns X.env.locals m/\∀(i:Nat) (x:Str) (v:V),X.N[i]?=some x->σ[i]?=some (some v)->Vis X.env.scope x->∃ u,RelV v u/\Look X.env s.heap m x u
 cell:∀ x c,X.env.cells.lookup x=some c->∃ v,s.heap.IsCell c v
 free:H X.env.locals=none
 freeC:∀ x c,X.env.cells.lookup x=some c->H c=none
 pin:∀ p∈X.pn++pins,s.heap.get? p.1=some p.2/\H p.1=none/\p.1≠X.env.locals/\p.1∉X.fs/\∀ v,p.2.data≠.cell v
 hok:HOk X.prog X.w H s.heap
 len:σ.length=X.N.length
section
variable {X:Cx}{pins:List (Addr×Obj)}{σ:List (Option V)}{H H':Hp}{s:Shared}{h':Heap}
theorem Cx.Ok.zvX(ok:X.Ok){b:Addr}{o:Obj}(e:X.base.get? b=some o):b∉X.fs:=fun hb=>by
 have:=(ok.zkl.mem hb).1
 rw [e] at this;cases this
theorem Inv.bs(I:Inv X pins σ H s):∀ b o,X.base.get? b=some o->s.heap.get? b=some o/\H b=none:=fun b o e =>
 ⟨I.base.keep b o (I.ok.bs b o e).1 (I.ok.bs b o e).2 (I.ok.zvX e) (I.ok.noex b o e),I.base.free b o (I.ok.bs b o e).1 (I.ok.bs b o e).2 (I.ok.noex b o e)⟩
theorem Inv.bk(I:Inv X pins σ H s):∀ b o,X.base.get? b=some o->s.heap.get? b=some o:=fun b o e=>(I.bs b o e).1
theorem Inv.mod(I:Inv X pins σ H s):Mod X.K X.mg X.base:=I.ok.mod
theorem Inv.kIn(I:Inv X pins σ H s):X.K.In s.heap:=I.ok.mod.kin.keeps I.bk
theorem Inv.nolimit(I:Inv X pins σ H s):s.heap.NoLimit:=I.ok.mod.nolimit.keeps I.bk
theorem Inv.lt(I:Inv X pins σ H s):X.env.locals<s.heap.objs.size:=let⟨_,hn,_⟩:=I.loc;hn.lt
theorem Inv.sz(I:Inv X pins σ H s):X.s₀.heap.objs.size<=s.heap.objs.size:=Nat.le_trans I.ok.above (Nat.le_of_lt I.lt)
theorem Inv.zvW(I:Inv X pins σ H s){a:Addr}(h:s.heap.objs.size<=a):a∉X.fs:=fun hb=>by
 obtain⟨_,o,ho,_⟩:=I.ok.zkl.mem hb
 exact absurd (Nat.lt_of_lt_of_le (Heap.lt_size ho) (Nat.le_trans I.sz h)) (Nat.lt_irrefl _)
theorem Inv.cne(I:Inv X pins σ H s):∀ x c,X.env.cells.lookup x=some c->c≠X.env.locals:=fun x c e z=>by
 obtain⟨v,o,ho,hd⟩:=I.cell x c e
 obtain⟨m,⟨o',es,ep,ho',hd',_⟩,_⟩:=I.loc
 rw [z,ho'] at ho;cases ho;rw [hd'] at hd;cases hd
theorem Inv.zkl(I:Inv X pins σ H s):s.heap.FunFrames X.base X.outer:=by
 have all:∀(l:List Env),(∀ b∈frs l,b∈X.fs)->X.s₀.heap.FunFrames X.base l->s.heap.FunFrames X.base l:=by
  intro l
  induction l with
  | nil=>intro _ _;trivial
  | cons env r ih =>
   intro hs hl
   obtain⟨hk,⟨L,o,hf,hn,ho,hd⟩,hr⟩:=hl
   have hL:L∈X.fs:=hs L (by unfold frs;rw [List.filterMap_cons,hf];exact List.mem_cons_self)
   obtain⟨sl,e⟩:=I.base.slot L o ho (I.ok.frf L hL) hL fun z=>I.ok.exfs L z hL
   exact⟨hk,⟨L,_,hf,hn,e,hd⟩,ih (fun b hb=>hs b (by unfold frs;rw [List.filterMap_cons,hf];exact List.mem_cons_of_mem _ hb)) hr⟩
 exact all X.outer (fun _ hb=>hb) I.ok.zkl
theorem Inv.stack(I:Inv X pins σ H s):s.heap.FunFrames X.base X.stack:=by
 rcases I.ok.stk with e|⟨e,hf⟩
 ·rw [e];exact I.zkl
 ·rw [e]
  obtain⟨m,hn,_⟩:=I.loc
  refine .cons (by rw [I.ok.kind];decide) hf hn ?_ I.zkl
  exact Heap.get?_none_of_le (Nat.le_trans I.ok.bsz I.ok.above)
theorem Inv.zlq(I:Inv X pins σ H s):∀ b∈frs X.stack,b∈X.env.locals::X.fs:=fun b hb=>by
 rcases I.ok.stk with e|⟨e,hf⟩
 ·rw [e] at hb;exact List.mem_cons_of_mem _ hb
 ·rw [e] at hb
  unfold frs at hb
  rw [List.filterMap_cons,hf] at hb
  exact hb
theorem Inv.zlr(I:Inv X pins σ H s):∀ b∈frs X.stack,H b=none:=fun b hb=>by
 rcases List.mem_cons.mp (I.zlq b hb) with e|hb
 ·rw [e];exact I.free
 ·obtain⟨_,o,ho,_⟩:=I.ok.zkl.mem hb
  exact I.base.free b o ho (I.ok.frf b hb) fun z=>I.ok.exfs b z hb
theorem Inv.step{g':Array GenState}{t':Nat}{d':Drawn}{ch:List Addr}(I:Inv X pins σ H s)
  (hch:∀ b∈ch,(b∈X.ex\/X.s₀.heap.objs.size<=b)/\b≠X.env.locals/\(∀ x c,X.env.cells.lookup x=some c->c≠b)/\∀ p∈X.pn++pins,p.1≠b)
  (keep:∀ b o,b≠X.env.locals->b∉X.fs->b∉ch->s.heap.get? b=some o->H b=none->h'.get? b=some o)
  (slot:∀ b o,b≠X.env.locals->b∈X.fs->b∉ch->s.heap.get? b=some o->H b=none->∃ sl,h'.get? b=some { o with slots:=sl })(free:∀ b o,b∉ch->s.heap.get? b=some o->H b=none->H' b=none)
  (there:∀ b o,b∉ch->s.heap.get? b=some o->∃ o',h'.get? b=some o')
  (tups:∀ b xs,H b=some (.tup xs)->H' b=some (.tup xs))(frzs:∀ b o u,H b=some (.frz o u)->H' b=some (.frz o u))(tbls:∀ b ps,H b=some (.tbl ps)->∃ more,H' b=some (.tbl (ps++more)))
  (ns:∀ m,s.heap.Ns X.env.locals m->h'.Ns X.env.locals m)(hok:HOk X.prog X.w H' h')(hg:AllBare g') :
  Inv X pins σ H' { s with heap:=h',gens:=g',drawn:=d',toks:=t' }:=by
 have neL:∀ b o,X.s₀.heap.get? b=some o->b≠X.env.locals:=fun b o e=>Nat.ne_of_lt (Nat.lt_of_lt_of_le (Heap.lt_size e) I.ok.above)
 have neC:∀ b o,X.s₀.heap.get? b=some o->b∉X.ex->b∉ch:=fun b o e hx hb=>by
  rcases (hch b hb).1 with z|z
  ·exact hx z
  ·exact absurd (Nat.lt_of_lt_of_le (Heap.lt_size e) z) (Nat.lt_irrefl _)
 have cellK:∀ x c,X.env.cells.lookup x=some c->∀ v,s.heap.IsCell c v->h'.IsCell c v:=fun x c e v ⟨o,ho,hd⟩=>by
  have nch:c∉ch:=fun z=>(hch c z).2.2.1 x c e rfl
  by_cases hc:c∈X.fs
  ·obtain⟨sl,q⟩:=slot c o (I.cne x c e) hc nch ho (I.freeC x c e)
   exact⟨_,q,hd⟩
  ·exact⟨o,keep c o (I.cne x c e) hc nch ho (I.freeC x c e),hd⟩
 refine⟨I.ok,I.os,hg,⟨fun b o e n hb hx=>?_,fun b o e n hb hx=>?_,fun b o e n hx=>?_,fun b o e hx=>?_,fun b xs e=>tups b xs (I.base.tups b xs e),fun b o xs e=>frzs b o xs (I.base.frzs b o xs e),fun b ps e=>?_⟩,?_,fun x c e=>?_,?_,fun x c e=>?_,fun p hp=>?_,hok,I.len⟩
 ·exact keep b o (neL b o e) hb (neC b o e hx) (I.base.keep b o e n hb hx) (I.base.free b o e n hx)
 ·obtain⟨sl,e1⟩:=I.base.slot b o e n hb hx
  obtain⟨sl',e2⟩:=slot b _ (neL b o e) hb (neC b o e hx) e1 (I.base.free b o e n hx)
  exact⟨sl',e2⟩
 ·obtain⟨o',e1⟩:=I.base.there b o e hx
  exact free b o' (neC b o e hx) e1 (I.base.free b o e n hx)
 ·obtain⟨o',e1⟩:=I.base.there b o e hx
  exact there b o' (neC b o e hx) e1
 ·obtain⟨m1,e1⟩:=I.base.tbls b ps e
  obtain⟨m2,e2⟩:=tbls b _ e1
  exact⟨m1++m2,by rw [e2,Array.append_assoc]⟩
 ·obtain⟨m,hn,hl⟩:=I.loc
  refine⟨m,ns m hn,fun i x v e1 e2 e3=>?_⟩
  obtain⟨u,r,l⟩:=hl i x v e1 e2 e3
  refine⟨u,r,?_⟩
  rcases l with l|⟨k,c,e,z⟩
  ·exact .inl l
  ·exact .inr ⟨k,c,e,cellK x c e _ z⟩
 ·obtain⟨v,z⟩:=I.cell x c e
  exact⟨v,cellK x c e v z⟩
 ·obtain⟨m,⟨o,_,_,ho,_⟩,_⟩:=I.loc
  exact free _ o (fun z=>(hch _ z).2.1 rfl) ho I.free
 ·obtain⟨v,o,ho,hd⟩:=I.cell x c e
  exact free c o (fun z=>(hch c z).2.2.1 x c e rfl) ho (I.freeC x c e)
 ·obtain⟨e,n,ne,nf,d⟩:=I.pin p hp
  have nch:p.1∉ch:=fun z=>(hch p.1 z).2.2.2 p hp rfl
  exact⟨keep p.1 p.2 ne nf nch e n,free p.1 p.2 nch e n,ne,nf,d⟩
theorem Inv.un{t':Nat}(I:Inv X pins σ H s)(u:Un X.fs [] H H' s.heap h')(hok:HOk X.prog X.w H' h'):Inv X pins σ H' { s with heap:=h',toks:=t' }:=by
 obtain⟨m,⟨o,es,ep,ho,r⟩,_⟩:=id I.loc
 obtain⟨sl,hL⟩:=u.any ho I.free (by simp)
 exact I.step (g':=s.gens) (d':=s.drawn) (ch:=[]) (fun _ z=>nomatch z) (fun b o _ hb _ e n=>u.keep b o e n hb (by simp)) (fun b o _ hb _ e n=>u.slot b o e n hb (by simp)) (fun b o _ e n=>u.free b o e n (by simp)) (fun b o _ e=>u.there b o e (by simp)) u.tups u.frzs u.tbls (fun m' hm=>by
  obtain⟨o',es',ep',ho',r'⟩:=hm
  rw [ho] at ho';cases ho'
  exact⟨_,es',ep',hL,r'⟩) hok I.bare
theorem Inv.call{g':Array GenState}{t':Nat}{d':Drawn}{ch:List Addr}(I:Inv X pins σ H s)(u:Un (frs X.stack) ch H H' s.heap h')(hok:HOk X.prog X.w H' h')(hg:AllBare g')
  (hch:∀ b∈ch,(b∈X.ex\/X.s₀.heap.objs.size<=b)/\b≠X.env.locals/\(∀ x c,X.env.cells.lookup x=some c->c≠b)/\∀ p∈X.pn++pins,p.1≠b) :
  Inv X pins σ H' { s with heap:=h',gens:=g',drawn:=d',toks:=t' }:=by
 obtain⟨m,⟨o,es,ep,ho,r⟩,_⟩:=id I.loc
 obtain⟨sl,hL⟩:=u.any ho I.free fun z=>(hch _ z).2.1 rfl
 exact I.step (ch:=ch) hch (fun b o hL hb hc e n=>u.keep b o e n (fun z=>(List.mem_cons.mp (I.zlq b z)).elim hL hb) hc) (fun b o _ _ hc e n=>u.any e n hc) (fun b o hc e n=>u.free b o e n hc) (fun b o hc e=>u.there b o e hc) u.tups u.frzs u.tbls (fun m' hm=>by
  obtain⟨o',es',ep',ho',r'⟩:=hm
  rw [ho] at ho';cases ho'
  exact⟨_,es',ep',hL,r'⟩) hok hg
theorem Inv.turned{t':Nat}{it:Addr}(I:Inv X pins σ H s)(k:∀ b o,b≠it->s.heap.get? b=some o->h'.get? b=some o)(hn:H it=none)(hL:it≠X.env.locals)
  (h1:it∈X.ex\/X.s₀.heap.objs.size<=it)(h2:∀ x c,X.env.cells.lookup x=some c->c≠it)(h3:∀ p∈X.pn++pins,p.1≠it):Inv X pins σ H { s with heap:=h',toks:=t' }:=by
 have nit:∀ b u,H b=some u->b≠it:=fun b u e z=>by rw [z,hn] at e;cases e
 refine I.step (g':=s.gens) (d':=s.drawn) (ch:=[it]) (fun b hb=>?_) (fun b o _ _ hc e _=>k b o (fun z=>hc (by simp [z])) e) (fun b o _ _ hc e _=>⟨o.slots,k b o (fun z=>hc (by simp [z])) e⟩) (fun _ _ _ _ n=>n)
  (fun b o hc e=>⟨o,k b o (fun z=>hc (by simp [z])) e⟩) (fun _ _ e=>e) (fun _ _ _ e=>e) (fun b ps e=>⟨#[],by rw [e];simp⟩) (fun m hm=>?_) (fun b u e=>?_) I.bare
 ·have e:b=it:=by simpa using hb
  subst e
  exact⟨h1,hL,h2,h3⟩
 ·obtain⟨o,es,ep,ho,r⟩:=hm
  exact⟨o,es,ep,k _ o (Ne.symm hL) ho,r⟩
 ·refine(I.hok b u e).stay (fun c v hc q=>k c v ?_ q) (fun _ q=>q) fun _ _ q=>q
  rcases hc with z|z
  ·rw [z];exact nit b u e
  ·exact nit c _ z
theorem Inv.tok(I:Inv X pins σ H s)(t:Nat):Inv X pins σ H { s with toks:=t }:=I.un (h':=s.heap) (t':=t) Un.refl I.hok
theorem Inv.kept{t':Nat}(I:Inv X pins σ H s)(k:∀ b u,s.heap.get? b=some u->h'.get? b=some u):Inv X pins σ H { s with heap:=h',toks:=t' }:=I.un (Un.kept k) (I.hok.kept k)
theorem Inv.laid{a:Addr}{o:HO}{t':Nat}(I:Inv X pins σ H s)(k:∀ b u,s.heap.get? b=some u->h'.get? b=some u)(hp:s.heap.objs.size<=a)(new:zbR X.prog X.w (upd H a o) h' a o) :
  Inv X pins σ (upd H a o) { s with heap:=h',toks:=t' }:=I.un (Un.laid k hp (I.hok.fresh hp)) (I.hok.laid k hp new)
theorem Inv.write{x e:Addr}{o:HO}{t':Nat}(I:Inv X pins σ H s)(mu:Mut (H x))(he:e=x\/H e=some (.own x))(k:∀ b u,b≠e->s.heap.get? b=some u->h'.get? b=some u)(heo:∃ u,h'.get? e=some u)
  (new:zbR X.prog X.w (upd H x o) h' x o):Inv X pins σ (upd H x o) { s with heap:=h',toks:=t' }:=I.un (Un.write mu he k heo) (I.hok.write mu he k heo new)
theorem Inv.weak{σ':List (Option V)}(I:Inv X pins σ H s)(hl:σ'.length=σ.length)(w:∀(i:Nat) v,σ'[i]?=some (some v)->σ[i]?=some (some v)):Inv X pins σ' H s :=
 ⟨I.ok,I.os,I.bare,I.base,let⟨m,hn,hl'⟩:=I.loc;⟨m,hn,fun i x v e1 e2 e3=>hl' i x v e1 (w i v e2) e3⟩,I.cell,I.free,I.freeC,I.pin,I.hok,hl.trans I.len⟩
theorem Inv.zlV{pins':List (Addr×Obj)}(I:Inv X pins σ H s)(h:∀ p∈pins',s.heap.get? p.1=some p.2/\H p.1=none/\p.1≠X.env.locals/\p.1∉X.fs/\∀ v,p.2.data≠.cell v):Inv X pins' σ H s :=
 ⟨I.ok,I.os,I.bare,I.base,I.loc,I.cell,I.free,I.freeC,fun p hp=>(List.mem_append.mp hp).elim (fun z=>I.pin p (List.mem_append_left _ z)) (h p),I.hok,I.len⟩
theorem zj6{N:List Str}(hN:N.Nodup){i j:Nat}{x:Str}(a:N[i]?=some x)(b:N[j]?=some x):i=j:=by
 obtain⟨h1,e1⟩:=List.getElem?_eq_some_iff.mp a
 obtain⟨h2,e2⟩:=List.getElem?_eq_some_iff.mp b
 exact(List.getElem_inj hN).mp (e1.trans e2.symm)
theorem zhX{M:Model}{A:Around}{E:Value->Shared->Prop}{i:Nat}{x:Str}{v:V}{u:Value}{Q:Unit->Shared->Prop}(I:Inv X pins σ H s)(hN:X.N.Nodup)(hi:X.N[i]?=some x)(hx:Loc X.env.scope x)(r:RelV v u)
  (h:∀ s',Inv X pins (σ.set i (some v)) H s'->(∃ a,Heap.SameBut a s.heap s'.heap/\(a=X.env.locals\/X.env.cells.lookup x=some a))->Q () s')(hf:X.fn x=true\/X.env.scope.names.lookup x=some .local:=by first|exact .inl rfl|exact .inr rfl|assumption):wpAny M A (storeName X.env x u) Q E s:=by
 obtain⟨m,hn,hl⟩:=id I.loc
 have hcls:(X.env.scope.kind==.class||(X.env.scope.kind==.module&&X.env.locals != X.env.globals))=false:=by rw [I.ok.kind];rfl
 have hiσ:i<σ.length:=by rw [I.len];exact(List.getElem?_eq_some_iff.mp hi).1
 have cne:=I.cne
 have tracked:∀{a:Addr} {h':Heap},(∃ o,s.heap.get? a=some o/\H a=none)->Heap.SameBut a s.heap h'->HOk X.prog X.w H h':=fun{a h'} ha hs b ob e=>by
  obtain⟨_,_,hfree⟩:=ha
  refine(I.hok b ob e).stay (fun c w' hc q=>(hs.2 c ?_).trans q) (fun _ q=>q) fun _ _ q=>q
  rintro rfl
  rcases hc with rfl|hc
  ·rw [hfree] at e;cases e
  ·rw [hfree] at hc;cases hc
 rcases hx with hk|hk
 ·refine wpAny_storeName_local hk hn (fun h' hn' hs=>?_) hcls
  obtain⟨oL,_,_,hoL,_⟩:=id hn
  refine h _ ⟨I.ok,I.os,I.bare,⟨fun b o e n hb hx=>?_,fun b o e n hb hx=>?_,I.base.free,fun b o e hx=>?_,I.base.tups,I.base.frzs,I.base.tbls⟩,⟨_,hn',fun j y v' e1 e2 e3=>?_⟩,fun y c e=>?_,I.free,I.freeC,fun p hp=>?_,tracked ⟨oL,hoL,I.free⟩ hs,by simpa using I.len⟩ ⟨_,hs,.inl rfl⟩
  ·exact(hs.2 b (Nat.ne_of_lt (Nat.lt_of_lt_of_le (Heap.lt_size e) I.ok.above))).trans (I.base.keep b o e n hb hx)
  ·obtain⟨sl,e1⟩:=I.base.slot b o e n hb hx
   exact⟨sl,(hs.2 b (Nat.ne_of_lt (Nat.lt_of_lt_of_le (Heap.lt_size e) I.ok.above))).trans e1⟩
  ·obtain⟨o',e1⟩:=I.base.there b o e hx
   exact⟨o',(hs.2 b (Nat.ne_of_lt (Nat.lt_of_lt_of_le (Heap.lt_size e) I.ok.above))).trans e1⟩
  ·by_cases hj:j=i
   ·subst hj
    rw [hi] at e1;cases e1
    rw [List.getElem?_set_self hiσ] at e2
    cases e2
    exact⟨u,r,.inl ⟨hk,by simp⟩⟩
   ·rw [List.getElem?_set_ne (Ne.symm hj)] at e2
    obtain⟨u',r',q⟩:=hl j y v' e1 e2 e3
    refine⟨u',r',?_⟩
    rcases q with⟨k,e⟩|⟨k,c,e,z⟩
    ·refine .inl ⟨k,?_⟩
     have:y≠x:=fun e=>hj (zj6 hN e1 (e▸hi))
     simp [this,e]
    ·exact .inr ⟨k,c,e,z.sameBut hs (cne y c e)⟩
  ·obtain⟨w',z⟩:=I.cell y c e
   exact⟨w',z.sameBut hs (cne y c e)⟩
  ·obtain⟨e,n,ne,nf,d⟩:=I.pin p hp
   exact⟨(hs.2 p.1 ne).trans e,n,ne,nf,d⟩
 ·have hfn:X.fn x=true:=by
   rcases hf with z|z
   ·exact z
   ·rw [z] at hk;cases hk
  obtain⟨c,hc⟩:=I.ok.has x (.inl hk)
  obtain⟨w',z⟩:=I.cell x c hc
  refine wpAny_storeName_cell I.ok.kind hk hc z (fun h' hc' hs=>?_)
  obtain⟨oc,hoc,hocd⟩:=id z
  refine h { s with heap:=h' } ⟨I.ok,I.os,I.bare,⟨fun b o e n hb hx=>?_,fun b o e n hb hx=>?_,I.base.free,fun b o e hx=>?_,I.base.tups,I.base.frzs,I.base.tbls⟩,⟨m,hn.sameBut hs (Ne.symm (cne x c hc)),fun j y v' e1 e2 e3=>?_⟩,fun y c' e=>?_,I.free,I.freeC,fun p hp=>?_,tracked ⟨oc,hoc,I.freeC x c hc⟩ hs,by simpa using I.len⟩ ⟨c,hs,.inr hc⟩
  ·exact(hs.2 b (Nat.ne_of_lt (Nat.lt_of_lt_of_le (Heap.lt_size e) (I.ok.cab x c hfn hc)))).trans (I.base.keep b o e n hb hx)
  ·obtain⟨sl,e1⟩:=I.base.slot b o e n hb hx
   exact⟨sl,(hs.2 b (Nat.ne_of_lt (Nat.lt_of_lt_of_le (Heap.lt_size e) (I.ok.cab x c hfn hc)))).trans e1⟩
  ·obtain⟨o',e1⟩:=I.base.there b o e hx
   exact⟨o',(hs.2 b (Nat.ne_of_lt (Nat.lt_of_lt_of_le (Heap.lt_size e) (I.ok.cab x c hfn hc)))).trans e1⟩
  ·by_cases hj:j=i
   ·subst hj
    rw [hi] at e1;cases e1
    rw [List.getElem?_set_self hiσ] at e2
    cases e2
    exact⟨u,r,.inr ⟨.inl hk,c,hc,hc'⟩⟩
   ·rw [List.getElem?_set_ne (Ne.symm hj)] at e2
    obtain⟨u',r',q⟩:=hl j y v' e1 e2 e3
    refine⟨u',r',?_⟩
    rcases q with q|⟨k,c',e,z'⟩
    ·exact .inl q
    ·refine .inr ⟨k,c',e,z'.sameBut hs ?_⟩
     rintro rfl
     exact hj (zj6 hN e1 (I.ok.inj _ _ _ e hc▸hi))
  ·by_cases hcc:c'=c
   ·subst hcc;exact⟨_,hc'⟩
   ·obtain⟨w2,z2⟩:=I.cell y c' e
    exact⟨w2,z2.sameBut hs hcc⟩
  ·obtain⟨e,n,ne,nf,d⟩:=I.pin p hp
   refine⟨(hs.2 p.1 ?_).trans e,n,ne,nf,d⟩
   intro q
   rw [q,hoc] at e
   have q':oc=p.2:=Option.some.inj e
   exact d w' (by rw [<- q'];exact hocd)
theorem zfb{M:Model}{A:Around}{E:Value->Shared->Prop}{i:Nat}{x:Str}{v:V}{u:Value}{Q:Unit->Shared->Prop}(I:Inv X pins σ H s)(hN:X.N.Nodup)(hi:X.N[i]?=some x)(hx:Loc X.env.scope x)(r:RelV v u)
  (h:∀ s',Inv X pins (σ.set i (some v)) H s'->Q () s')(hf:X.fn x=true\/X.env.scope.names.lookup x=some .local:=by first|exact .inl rfl|exact .inr rfl|assumption):wpAny M A (storeName X.env x u) Q E s :=
 zhX I hN hi hx r (fun s' I' _=>h s' I') hf
theorem Inv.call'{s':Shared}{ch:List Addr}(I:Inv X pins σ H s)(ho:s'.os=s.os)(u:Un (frs X.stack) ch H H' s.heap s'.heap)(hok:HOk X.prog X.w H' s'.heap)(hg:AllBare s'.gens)
  (hch:∀ b∈ch,(b∈X.ex\/X.s₀.heap.objs.size<=b)/\b≠X.env.locals/\(∀ x c,X.env.cells.lookup x=some c->c≠b)/\∀ p∈X.pn++pins,p.1≠b):Inv X pins σ H' s':=by
 obtain⟨h',g',d',t',o'⟩:=s'
 have e:o'=s.os:=ho
 subst e
 exact I.call (g':=g') (t':=t') (d':=d') u hok hg hch
end
abbrev XK:=Value->Option Addr->Hp->Prop
abbrev St:=List (Option V)
abbrev VK:=V->Hp->Prop
abbrev TE:=St->Hp->VK->Prop
abbrev TT:=St->Hp->(Bool->Hp->Prop)->Prop
abbrev TA:=St->Hp->(List V->Hp->Prop)->Prop
structure Ends where
 nx:St->Hp->Prop
 rt:VK
 bk:St->Hp->Prop:=fun _ _=>False
 ct:St->Hp->Prop:=fun _ _=>False
abbrev TS:=Ends->St->Hp->Prop
def EP(X:Cx)(pins:List (Addr×Obj))(σ:St)(Q:VK)(u:Value)(s':Shared):Prop:=∃ v H',Inv X pins σ H' s'/\RelV v u/\Q v H'
def TP(X:Cx)(pins:List (Addr×Obj))(σ:St)(Q:Bool->Hp->Prop)(b:Bool)(s':Shared):Prop:=∃ H',Inv X pins σ H' s'/\Q b H'
def AP(X:Cx)(pins:List (Addr×Obj))(σ:St)(Q:List V->Hp->Prop)(us:List Value)(s':Shared):Prop:=∃ vs H',Inv X pins σ H' s'/\Vals vs us/\Q vs H'
def SP(X:Cx)(pins:List (Addr×Obj))(D:Ends)(f:Flow)(s':Shared):Prop :=
 match f with
 | .next=>∃ σ' H',Inv X pins σ' H' s'/\D.nx σ' H'
 | .brk=>∃ σ' H',Inv X pins σ' H' s'/\D.bk σ' H'
 | .cont=>∃ σ' H',Inv X pins σ' H' s'/\D.ct σ' H'
 | .ret u=>∃ v σ' H',Inv X pins σ' H' s'/\RelV v u/\D.rt v H'
def PE(X:Cx)(e:Expr)(t:TE):Prop :=
 ∀(pins:List (Addr×Obj)) (s:Shared) (σ:St) (H:Hp) (Q:VK),Inv X pins σ H s->t σ H Q->wpAny (model X.prog X.w) X.A (eval e X.env) (EP X pins σ Q) X.xe s
def PT(X:Cx)(e:Expr)(t:TT):Prop :=
 ∀(pins:List (Addr×Obj)) (s:Shared) (σ:St) (H:Hp) (Q:Bool->Hp->Prop),Inv X pins σ H s->t σ H Q->wpAny (model X.prog X.w) X.A (isTrue e X.env (eval e X.env)) (TP X pins σ Q) X.xe s
def PW(X:Cx)(e:Expr)(t:TT):Prop :=
 ∀(whole:Sem Value) (pins:List (Addr×Obj)) (s:Shared) (σ:St) (H:Hp) (Q:Bool->Hp->Prop),Inv X pins σ H s->t σ H Q->wpAny (model X.prog X.w) X.A (isTrue e X.env whole) (TP X pins σ Q) X.xe s
theorem PW.pt{X:Cx}{e:Expr}{t:TT}(h:PW X e t):PT X e t:=h _
def PA(X:Cx)(es:List Expr)(t:TA):Prop :=
 ∀(pos:Pos) (pins:List (Addr×Obj)) (s:Shared) (σ:St) (H:Hp) (Q:List V->Hp->Prop),Inv X pins σ H s->t σ H Q->wpAny (model X.prog X.w) X.A (spliced (backTo pos (starEach es X.env))) (AP X pins σ Q) X.xe s
def PS(X:Cx)(st:Stmt)(t:TS):Prop :=
 ∀(pins:List (Addr×Obj)) (s:Shared) (σ:St) (H:Hp) (D:Ends),Inv X pins σ H s->t D σ H->wpAny (model X.prog X.w) X.A (exec st X.env) (SP X pins D) X.xe s
def PSs(X:Cx)(st:List Stmt)(t:TS):Prop :=
 ∀(pins:List (Addr×Obj)) (s:Shared) (σ:St) (H:Hp) (D:Ends),Inv X pins σ H s->t D σ H->wpAny (model X.prog X.w) X.A (execs st X.env) (SP X pins D) X.xe s
theorem thn{α:Type}{t:Sem α}{Q Q':α->Shared->Prop}{M:Model}{A:Around}{E:Value->Shared->Prop}{s:Shared}(h:wpAny M A t Q E s)(hQ:∀ a s,Q a s->Q' a s):wpAny M A t Q' E s:=wpAny_mono h hQ fun _ _ x=>x
end
section
section
variable {X:Cx}
def zdX(i:Nat):TE:=fun σ H Q=>∃ v,σ[i]?=some (some v)/\Q v H
def tC(v:V):TE:=fun _ H Q=>Q v H
theorem zo6{i:Nat}{x:Str}{pos:Pos}(hN:X.N[i]?=some x)(hv:Vis X.env.scope x)(hd:(x==("__debug__":Str))=false:=by decide) (hcd:(x==("__classdict__":Str))=false:=by decide):PE X (.Name x pos) (zdX i):=by
 intro pins s σ H Q I h
 obtain⟨v,e,h⟩:=h
 obtain⟨m,hn,hl⟩:=I.loc
 obtain⟨u,r,l⟩:=hl i x v hN e hv
 have fin:EP X pins σ Q u s:=⟨v,H,I,r,h⟩
 rcases l with⟨hk,hm⟩|⟨hk,c,hc,hcell⟩
 ·exact wpAny_Name (wpAny_loadName_local I.ok.kind hk hn hm fin) hd
 ·rcases hk with hk|hk
  ·exact wpAny_Name (wpAny_loadName_cell I.ok.kind hk hc hcell fin) hd
  ·exact wpAny_Name (wpAny_loadName_free I.ok.kind hk hc hcell fin hcd) hd
theorem zsq{i j pos}:PE X (.Constant (.int i) j pos) (tC (.int i)):=fun _ _ _ H _ I h=>wpAny_Constant_int ⟨.int i,H,I.tok _,⟨_,rfl⟩,h⟩
theorem zud{b j pos}:PE X (.Constant (.bool b) j pos) (tC (.bl b)):=fun _ _ _ H _ I h=>Constant_bool ⟨.bl b,H,I,rfl,h⟩
def Gl(X:Cx)(x:Str):Prop:=X.env.kindOf x=some .globalImplicit
theorem zje{E:Value->Shared->Prop}{pins:List (Addr×Obj)}{s:Shared}{σ:St}{H:Hp}{x:Str}{u:Value}{pos:Pos}{Q:Value->Shared->Prop}(I:Inv X pins σ H s)(hg:Gl X x)(hm:X.mg x=some u)(h:Q u s)
  (hd:(x==("__debug__":Str))=false:=by decide):wpAny (model X.prog X.w) X.A (eval (.Name x pos) X.env) Q E s :=
 Calls.Name_function_global I.ok.kind hg (Calls.loadGlobal_global (by rw [I.ok.glob];exact I.mod.glob.keeps I.bk) hm h) hd
theorem zfL{E:Value->Shared->Prop}{pins:List (Addr×Obj)}{s:Shared}{σ:St}{H:Hp}{x:Str}{u:Value}{pos:Pos}{Q:Value->Shared->Prop}(I:Inv X pins σ H s)(hg:Gl X x)(hm:X.mg x=none)(hv:bootBuiltins x=some u)(h:Q u s)
  (hn:x ≠ "__name__":=by decide) (hd:(x==("__debug__":Str))=false:=by decide):wpAny (model X.prog X.w) X.A (eval (.Name x pos) X.env) Q E s:=by
 obtain⟨mb,h1,h2⟩:=I.mod.blt
 exact Calls.Name_function_global I.ok.kind hg (Calls.loadGlobal_builtin (by rw [I.ok.glob];exact I.mod.glob.keeps I.bk) hm (by rw [I.ok.blt];exact h1.keeps I.bk) ((h2 x hn).trans hv) h) hd
theorem zl0{x:Str}{v:V}{u:Value}{pos:Pos}(hg:Gl X x)(hm:X.mg x=some u)(r:RelV v u)(hd:(x==("__debug__":Str))=false:=by decide):PE X (.Name x pos) (tC v) :=
 fun _ _ _ H _ I h=>zje I hg hm ⟨v,H,I,r,h⟩ hd
theorem zqE{x:Str}{v:V}{u:Value}{pos:Pos}(hg:Gl X x)(hm:X.mg x=none)(hv:bootBuiltins x=some u)(r:RelV v u)(hn:x ≠ "__name__":=by decide) (hd:(x==("__debug__":Str))=false:=by decide):PE X (.Name x pos) (tC v) :=
 fun _ _ _ H _ I h=>zfL I hg hm hv ⟨v,H,I,r,h⟩ hn hd
variable {a b:Expr}{ta tb:TE}{pos:Pos}
def tB(t:TE):TT:=fun σ H Q=>t σ H fun x H1=>∃ c,x=.bl c/\Q c H1
variable {tA tB':TT}{rest:List Expr}
def zni(t u:TT):TT:=fun σ H Q=>t σ H fun c H1=>if c=true then u σ H1 Q else Q false H1
def tOr(t u:TT):TT:=fun σ H Q=>t σ H fun c H1=>if c=true then Q true H1 else u σ H1 Q
def zch(t:TT):TT:=fun σ H Q=>t σ H fun c H1=>Q (!c) H1
theorem zrZ(ha:PT X a tA):PW X (.BoolOp .Or [a] pos) tA:=by
 intro wh pins s σ H Q I h
 refine isTrue_or (thn (ha pins s σ H Q I h) fun c s1 e=>?_)
 cases c with
 | false=>exact isTrue_or_nil e
 | true=>exact e
theorem zt1(ha:PT X a tA)(hb:PW X (.BoolOp .Or (b::rest) pos) tB'):PW X (.BoolOp .Or (a::b::rest) pos) (tOr tA tB'):=by
 intro wh pins s σ H Q I h
 refine isTrue_or (thn (ha pins s σ H _ I h) fun c s1 ⟨H1,I1,q1⟩=>?_)
 cases c with
 | true=>exact⟨H1,I1,q1⟩
 | false=>exact hb wh pins s1 σ H1 Q I1 q1
theorem zsb(ha:PT X a tA):PT X (.UnaryOp .Not a pos) (zch tA):=by
 intro pins s σ H Q I h
 exact isTrue_not (ha pins s σ H (fun c H1=>Q (!c) H1) I h)
def ztS(ta tb:TE):TE:=fun σ H Q=>ta σ H fun x H1=>∃ c,x=.bl c/\if c=true then tb σ H1 Q else Q (.bl false) H1
def ztM(ta:TE):TE:=fun σ H Q=>ta σ H fun x H1=>∃ c,x=.bl c/\Q (.bl (!c)) H1
theorem zsn{op}{t:TE}(h:PE X a t):PE X (.BoolOp op [a] pos) t:=fun pins s σ H Q I hw=>BoolOp_one (h pins s σ H Q I hw)
theorem zst(ha:PE X a ta)(hb:PE X (.BoolOp .And (b::rest) pos) tb):PE X (.BoolOp .And (a::b::rest) pos) (ztS ta tb):=by
 intro pins s σ H Q I h
 refine BoolOp_and (thn (ha pins s σ H _ I h) fun v s1 ⟨x,H1,I1,r1,q1⟩=>?_)
 obtain⟨c,rfl,q1⟩:=q1
 cases r1
 refine wpAny_truthy_bool ?_
 cases c with
 | true=>exact hb pins s1 σ H1 Q I1 q1
 | false=>exact⟨.bl false,H1,I1,rfl,q1⟩
theorem zso(ha:PE X a ta):PE X (.UnaryOp .Not a pos) (ztM ta):=by
 intro pins s σ H Q I h
 refine UnaryOp_ (thn (ha pins s σ H _ I h) fun v s1 ⟨x,H1,I1,r1,q1⟩=>?_)
 obtain⟨c,rfl,q1⟩:=q1
 cases r1
 exact not_of (wpAny_truthy_bool ⟨.bl (!c),H1,I1,rfl,q1⟩)
def tIf(t:TT)(ta tb:TE):TE:=fun σ H Q=>t σ H fun c H1=>if c=true then ta σ H1 Q else tb σ H1 Q
theorem znX{c:Expr}(hc:PT X c tA)(ha:PE X a ta)(hb:PE X b tb):PE X (.IfExp c a b pos) (tIf tA ta tb):=by
 intro pins s σ H Q I h
 refine wpAny_IfExp (thn (hc pins s σ H _ I h) fun d s1 ⟨H1,I1,q1⟩=>?_)
 cases d with
 | true=>exact ha pins s1 σ H1 Q I1 q1
 | false=>exact hb pins s1 σ H1 Q I1 q1
end
end
section
def SqL(K:PySem.W.Frag)(H:Hp)(a:Addr)(xs:List V):Prop :=
 Rd H a (.lst xs) \/
  ∃(o:Obj) (its:Array Value) (n:Nat),K.lookup a=some o/\o.cls=.type "list"/\o.dict=none/\o.data=.seq its n/\its.size<=sizeLine/\Vals xs its.toList
def SqT(K:PySem.W.Frag)(H:Hp)(a:Addr)(xs:List V):Prop :=
 Rd H a (.tup xs) \/
  ∃(o:Obj) (its:Array Value) (n:Nat),K.lookup a=some o/\o.cls=.type "tuple"/\o.data=.seq its n/\its.size<=sizeLine/\Vals xs its.toList
def zwb:Value->Option V
 | .none=>some .non
 | .bool b=>some (.bl b)
 | .int i _=>some (.int i)
 | .str x _=>some (.str x)
 | .bytes b _=>some (.byt b)
 | .float b _=>some (.flt b)
 | .ref a=>some (.ref a)
 | .type n=>some (.ty n)
 | _=>none
theorem RelV.abs{x:V}{u:Value}(r:RelV x u):zwb u=some x:=by
 cases x with
 | non=>cases r;rfl
 | bl _=>cases r;rfl
 | int _=>obtain⟨t,rfl⟩:=r;rfl
 | str _=>obtain⟨t,rfl⟩:=r;rfl
 | byt _=>obtain⟨t,rfl⟩:=r;rfl
 | flt _=>obtain⟨t,rfl⟩:=r;rfl
 | ref _=>cases r;rfl
 | ty _=>cases r;rfl
theorem RelV.inj{x y:V}{u:Value}(r:RelV x u)(q:RelV y u):x=y:=Option.some.inj (r.abs.symm.trans q.abs)
theorem Vals.inj:∀{xs ys:List V} {us:List Value},Vals xs us->Vals ys us->xs=ys
 | _,_,_,.nil,.nil=>rfl
 | _,_,_,.cons r t,.cons r' t'=>by rw [r.inj r',Vals.inj t t']
section
variable {X:Cx}{pins:List (Addr×Obj)}{σ:St}{H:Hp}{s:Shared}{a:Addr}{xs ys:List V}
theorem SqL.of{K:PySem.W.Frag}(h:H a=some (.lst xs)):SqL K H a xs:=.inl (.inl h)
theorem Inv.list(I:Inv X pins σ H s)(h:SqL X.K H a xs):∃ its:List Value,Vals xs its/\PlainL s.heap a its.toArray/\xs.length<=sizeLine:=by
 rcases h with h|⟨o,its,n,hk,hc,hd,hs,hz,r⟩
 ·obtain⟨z,its,n,r,e⟩:=h.ok I.hok
  exact⟨its,r,⟨_,n,e,rfl,rfl,rfl⟩,z⟩
 ·refine⟨its.toList,r,⟨o,n,I.kIn a o hk,hc,hd,by simpa using hs⟩,?_⟩
  have e:=r.length
  simp only [Array.length_toList] at e
  omega
theorem Inv.tuple(I:Inv X pins σ H s)(h:SqT X.K H a xs):∃ its:List Value,Vals xs its/\IsTup s.heap a its.toArray/\xs.length<=sizeLine:=by
 rcases h with h|⟨o,its,n,hk,hc,hs,hz,r⟩
 ·obtain⟨z,its,r,p⟩:=h.ok I.hok
  exact⟨its,r,p,z⟩
 ·refine⟨its.toList,r,⟨o,I.kIn a o hk,hc,n,by simpa using hs⟩,?_⟩
  have e:=r.length
  simp only [Array.length_toList] at e
  omega
theorem Inv.zec(I:Inv X pins σ H s)(h:SqL X.K H a xs)(h':SqL X.K H a ys):xs=ys:=by
 obtain⟨its,r,⟨o,n,e,_,_,d⟩,_⟩:=I.list h
 obtain⟨its',r',⟨o',n',e',_,_,d'⟩,_⟩:=I.list h'
 rw [e] at e';cases e'
 rw [d] at d'
 injection d' with d1 _
 have:its=its':=by simpa using congrArg Array.toList d1
 subst this
 exact r.inj r'
theorem Inv.zhV(I:Inv X pins σ H s)(h:SqT X.K H a xs)(h':SqT X.K H a ys):xs=ys:=by
 obtain⟨its,r,⟨o,e,_,n,d⟩,_⟩:=I.tuple h
 obtain⟨its',r',⟨o',e',_,n',d'⟩,_⟩:=I.tuple h'
 rw [e] at e';cases e'
 rw [d] at d'
 injection d' with d1 _
 have:its=its':=by simpa using congrArg Array.toList d1
 subst this
 exact r.inj r'
end
abbrev Cx.wish(X:Cx)(E:Value->Shared->Prop):Cx:={ X with xe:=E }
abbrev Cx.nox(X:Cx):Cx:=X.wish fun _ _=>False
theorem Cx.Ok.wish{X:Cx}(ok:X.Ok)(E:Value->Shared->Prop):(X.wish E).Ok :=
 ⟨ok.mod,ok.kind,ok.glob,ok.blt,ok.above,ok.inj,ok.has,ok.cab,ok.hd,ok.frames,ok.stk,ok.exf,ok.bs,ok.bsz,ok.noex,ok.exfs,ok.zkl,ok.frf,ok.tree,ok.sk⟩
theorem Cx.Ok.zeQ{X:Cx}{E:Value->Shared->Prop}(ok:(X.wish E).Ok):X.Ok :=
 ⟨ok.mod,ok.kind,ok.glob,ok.blt,ok.above,ok.inj,ok.has,ok.cab,ok.hd,ok.frames,ok.stk,ok.exf,ok.bs,ok.bsz,ok.noex,ok.exfs,ok.zkl,ok.frf,ok.tree,ok.sk⟩
section
variable {X:Cx}{pins:List (Addr×Obj)}{σ:St}{H:Hp}{s:Shared}{E:Value->Shared->Prop}
theorem Inv.wish(I:Inv X pins σ H s)(E:Value->Shared->Prop):Inv (X.wish E) pins σ H s:=⟨I.ok.wish E,I.os,I.bare,I.base,I.loc,I.cell,I.free,I.freeC,I.pin,I.hok,I.len⟩
theorem Inv.zeQ(I:Inv (X.wish E) pins σ H s):Inv X pins σ H s:=⟨I.ok.zeQ,I.os,I.bare,I.base,I.loc,I.cell,I.free,I.freeC,I.pin,I.hok,I.len⟩
theorem SP.zeQ{D:Ends}{f:Flow}{s':Shared}(h:SP (X.wish E) pins D f s'):SP X pins D f s':=by
 cases f with
 | next=>obtain⟨σ',H',I,q⟩:=h;exact⟨σ',H',I.zeQ,q⟩
 | brk=>obtain⟨σ',H',I,q⟩:=h;exact⟨σ',H',I.zeQ,q⟩
 | cont=>obtain⟨σ',H',I,q⟩:=h;exact⟨σ',H',I.zeQ,q⟩
 | ret u=>obtain⟨v,σ',H',I,r,q⟩:=h;exact⟨v,σ',H',I.zeQ,r,q⟩
theorem PSs.nox{st:List Stmt}{t:TS}(h:PSs X.nox st t):PSs X st t:=fun pins s σ H D I hw =>
 wpAny_mono (h pins s σ H D (I.wish _) hw) (fun _ _ q=>q.zeQ) fun _ _ z=>False.elim z
end
section
variable {X:Cx}{st:Stmt}{rest:List Stmt}{t u:TS}{e:Expr}{te:TE}{pos:Pos}
def ztN:TS:=fun D σ H=>D.nx σ H
def zvs(t u:TS):TS:=fun D σ H=>t { D with nx:=u D } σ H
theorem ziY:PSs X [] ztN:=fun _ _ σ H _ I h=>wpAny_execs_nil ⟨σ,H,I,h⟩
theorem zcN(h1:PS X st t)(h2:PSs X rest u):PSs X (st::rest) (zvs t u):=by
 intro pins s σ H D I h
 refine wpAny_execs_cons (thn (h1 pins s σ H { D with nx:=u D } I h) fun f s1 q=>?_)
 cases f with
 | next =>
  obtain⟨σ',H',I',q⟩:=q
  exact h2 pins s1 σ' H' D I' q
 | ret v=>exact q
 | brk=>exact q
 | cont=>exact q
theorem zg9(h1:PS X st t):PSs X [st] t:=by
 intro pins s σ H D I h
 refine wpAny_execs_cons (thn (h1 pins s σ H D I h) fun f s1 q=>?_)
 cases f with
 | next=>exact wpAny_execs_nil q
 | ret v=>exact q
 | brk=>exact q
 | cont=>exact q
theorem Inv.quiet{pins:List (Addr×Obj)}{σ:St}{H:Hp}{s:Shared}(I:Inv X pins σ H s):interactive X.env=false:=by simp [interactive,I.ok.kind]
def ztQ(te:TE):TS:=fun D σ H=>te σ H fun _ H1=>D.nx σ H1
theorem zha(he:PE X e te)(hs:swapsWith e none pos.line X.env=pure false:=by rfl):PS X (.Expr e pos) (ztQ te):=by
 intro pins s σ H D I h
 exact wpAny_Expr_any (thn (he pins s σ H _ I h) fun v s1 ⟨x,H1,I1,r1,q1⟩=>⟨σ,H1,I1,q1⟩) I.quiet hs
def zvt(te:TE):TS:=fun D σ H=>te σ H D.rt
theorem zj0(he:PE X e te):PS X (.Return (some e) pos) (zvt te):=by
 intro pins s σ H D I h
 exact wpAny_Return_some (thn (he pins s σ H _ I h) fun v s1 ⟨x,H1,I1,r1,q1⟩=>⟨x,σ,H1,I1,r1,q1⟩)
def zvx(c:TT)(t u:TS):TS:=fun D σ H=>c σ H fun b H1=>if b=true then t D σ H1 else u D σ H1
theorem zse{c:Expr}{a b:List Stmt}{tc:TT}(hc:PT X c tc)(ha:PSs X a t)(hb:PSs X b u):PS X (.If c a b pos) (zvx tc t u):=by
 intro pins s σ H D I h
 refine wpAny_If (thn (hc pins s σ H _ I h) fun d s1 ⟨H1,I1,q1⟩=>?_)
 cases d with
 | true=>exact ha pins s1 σ H1 D I1 q1
 | false=>exact hb pins s1 σ H1 D I1 q1
def zrO:TS:=fun _ _ _=>False
theorem zj1:PS X st zrO:=fun _ _ _ _ _ _ h=>h.elim
end
abbrev TG:=V->St->Hp->(St->Hp->Prop)->Prop
abbrev TGs:=List V->St->Hp->(St->Hp->Prop)->Prop
def PG(X:Cx)(target:Expr)(t:TG):Prop :=
 ∀(pins:List (Addr×Obj)) (s:Shared) (σ:St) (H:Hp) (v:V) (u:Value) (Q:St->Hp->Prop),Inv X pins σ H s->RelV v u->t v σ H Q ->
  wpAny (model X.prog X.w) X.A (assign target X.env u) (fun _ s'=>∃ σ' H',Inv X pins σ' H' s'/\Q σ' H') X.xe s
def PGs(X:Cx)(ts:List Expr)(t:TGs):Prop :=
 ∀(pins:List (Addr×Obj)) (s:Shared) (σ:St) (H:Hp) (vs:List V) (us:List Value) (Q:St->Hp->Prop),Inv X pins σ H s->Vals vs us->t vs σ H Q ->
  wpAny (model X.prog X.w) X.A (assignInOrder ((assignEach ts X.env).map (·.2)) us) (fun _ s'=>∃ σ' H',Inv X pins σ' H' s'/\Q σ' H') X.xe s
abbrev zu0:=V->V->V->Hp->(Hp->Prop)->Prop
def zvm(X:Cx)(t:zu0):Prop :=
 ∀(pins:List (Addr×Obj)) (s:Shared) (σ:St) (H:Hp) (o i v:V) (ov iv u:Value) (Q:Hp->Prop),Inv X pins σ H s->RelV o ov->RelV i iv->RelV v u->t o i v H Q ->
  wpAny (model X.prog X.w) X.A (setItem ov iv u) (fun _ s'=>∃ H',Inv X pins σ H' s'/\Q H') X.xe s
section
variable {X:Cx}{pos:Pos}
def zk3(i:Nat):TG:=fun v σ H Q=>Q (σ.set i (some v)) H
theorem zhc{i:Nat}{x:Str}(hN:X.N.Nodup)(hi:X.N[i]?=some x)(hx:Loc X.env.scope x)(hf:X.fn x=true\/X.env.scope.names.lookup x=some .local:=by first|exact .inl rfl|exact .inr rfl|assumption):PG X (.Name x pos) (zk3 i):=by
 intro pins s σ H v u Q I r h
 exact wpAny_assign_Name (zfb I hN hi hx r (fun s' I'=>⟨_,H,I',h⟩) hf)
def zv6:TGs:=fun vs σ H Q=>vs=[]/\Q σ H
def zuI(t:TG)(u:TGs):TGs:=fun vs σ H Q=>∃ v r,vs=v::r/\t v σ H fun σ' H'=>u r σ' H' Q
theorem zi0:PGs X [] zv6:=by
 intro pins s σ H vs us Q I r h
 obtain⟨e,h⟩:=h
 subst e
 cases r
 exact assignInOrder_nil ⟨σ,H,I,h⟩
theorem zdq{e:Expr}{es:List Expr}{t:TG}{u:TGs}(h1:PG X e t)(h2:PGs X es u)
  (hs:(assignEach (e::es) X.env).map (·.2)=assign e X.env::(assignEach es X.env).map (·.2):=by rfl):PGs X (e::es) (zuI t u):=by
 intro pins s σ H vs us Q I r h
 obtain⟨v,vr,e1,h⟩:=h
 subst e1
 cases r with
 | cons r rr =>
  rw [hs]
  refine assignInOrder_cons (thn (h1 pins s σ H _ _ _ I r h) fun _ s1 ⟨σ1,H1,I1,q1⟩=>?_)
  exact h2 pins s1 σ1 H1 _ _ Q I1 rr q1
def zv5(K:PySem.W.Frag)(n:Nat)(t:TGs):TG:=fun v σ H Q=>∃ a xs,v=.ref a/\SqT K H a xs/\xs.length=n/\t xs σ H Q
theorem zlY{es:List Expr}{k:Nat}{t:TGs}{n:Nat}(hc:X.calm=true)(h:PGs X es t)
  (hn:(assignEach es X.env).length=n:=by rfl)(hst:(assignEach es X.env).findIdx? (·.1)=none:=by rfl):PG X (.Tuple es k pos) (zv5 X.K n t):=by
 intro pins s σ H v u Q I r hw
 obtain⟨a,xs,e1,hq,hl,hw⟩:=hw
 subst e1
 cases r
 obtain⟨its,rv,ht,hz⟩:=I.tuple hq
 refine assign_Tuple_tuple (I.ok.hd hc) ht (by simp [hn,<- hl,rv.length]) hst fun h' hx=>?_
 have I1:Inv X pins σ H { s with heap:=h' }:=I.kept (t':=s.toks) fun b o e=>hx b o (Nat.ne_of_lt (Heap.lt_size e)) e
 exact h pins _ σ H xs _ Q I1 (by simpa using rv) hw
def zvi(to ti:TE)(t:zu0):TG:=fun v σ H Q=>to σ H fun o H1=>ti σ H1 fun i H2=>t o i v H2 fun H3=>Q σ H3
theorem zlZ{o i:Expr}{to ti:TE}{t:zu0}(ho:PE X o to)(hi:PE X i ti)(hs:zvm X t)
  (ha:∀ v,assign (.Subscript o i pos) X.env v=(do
   let ov <- holding [v] (eval o X.env)
   let iv <- holding [v,ov] (eval i X.env)
   standAt pos
   holding [v,ov,iv] (setItem ov iv v)
   release [v,ov,iv] []):=by intro _;rfl):PG X (.Subscript o i pos) (zvi to ti t):=by
 intro pins s σ H v u Q I r h
 rw [ha]
 refine wpAny_bind (wpAny_holding (thn (ho pins s σ H _ I h) fun ov s1 ⟨x,H1,I1,r1,q1⟩=>?_))
 refine wpAny_bind (wpAny_holding (thn (hi pins s1 σ H1 _ I1 q1) fun iv s2 ⟨y,H2,I2,r2,q2⟩=>?_))
 refine wpAny_bind (wpAny_standAt (wpAny_bind (wpAny_holding (thn (hs pins s2 σ H2 x y v ov iv u _ I2 r1 r2 r q2) fun _ s3 ⟨H3,I3,q3⟩=>?_))))
 exact wpAny_release ⟨σ,H3,I3,q3⟩
def zrx(te:TE)(g:TG):TS:=fun D σ H=>te σ H fun x H1=>g x σ H1 D.nx
theorem zlL{tg e:Expr}{te:TE}{g:TG}(he:PE X e te)(hg:PG X tg g)(hs:swapsWithSole [tg] e pos.line X.env=pure false:=by rfl)(hw:swappedStores [tg] e X.env=pure none:=by rfl)
  (h1:(assignEach [tg] X.env).map (·.2)=[assign tg X.env]:=by rfl):PS X (.Assign [tg] e pos) (zrx te g):=by
 intro pins s σ H D I h
 refine wpAny_Assign_stores (thn (he pins s σ H _ I h) fun v s1 ⟨x,H1,I1,r1,q1⟩=>?_) hs hw
 rw [h1]
 exact thn (hg pins s1 σ H1 x v _ I1 r1 q1) fun _ s2 q=>q
theorem zjZ{i:Nat}{x:Str}{e:Expr}{te:TE}{pos':Pos}(hN:X.N.Nodup)(hi:X.N[i]?=some x)(hx:Loc X.env.scope x)(he:PE X e te)(hs:swapsWith e (some (.Name x pos')) pos.line X.env=pure false:=by rfl)(hf:X.fn x=true\/X.env.scope.names.lookup x=some .local:=by first|exact .inl rfl|exact .inr rfl|assumption) :
  PS X (.Assign [.Name x pos'] e pos) (zrx te (zk3 i)):=by
 intro pins s σ H D I h
 refine wpAny_Assign_Name (thn (he pins s σ H _ I h) fun v s1 ⟨y,H1,I1,r1,q1⟩=>?_) hs
 exact zfb I1 hN hi hx r1 (fun s2 I2=>⟨_,H1,I2,q1⟩) hf
def zvu(i j:Nat)(ta:TA):TS:=fun D σ H=>ta σ H fun vs H1=>∃ v w,vs=[v,w]/\D.nx ((σ.set i (some v)).set j (some w)) H1
theorem zsd{i j:Nat}{x y:Str}{a b:Expr}{ta:TA}{px py pt:Pos}{kt k2 pt2}(hc:X.calm=true)(hN:X.N.Nodup)(hi:X.N[i]?=some x)(hj:X.N[j]?=some y)(hij:i≠j)
  (hx:X.env.scope.names.lookup x=some .local)(hy:X.env.scope.names.lookup y=some .local)(ha:PA X [a,b] ta)
  (hw:swappedStores [.Tuple [.Name x px,.Name y py] kt pt] (.Tuple [a,b] k2 pt2) X.env=pure (some [x,y]))
  (hs:swapsWithSole [.Tuple [.Name x px,.Name y py] kt pt] (.Tuple [a,b] k2 pt2) pos.line X.env=pure false:=by rfl) :
  PS X (.Assign [.Tuple [.Name x px,.Name y py] kt pt] (.Tuple [a,b] k2 pt2) pos) (zvu i j ta):=by
 intro pins s σ H D I h
 rw [exec_Assign_arm]
 refine wpAny_bind (wpAny_standAt ?_)
 rw [hs]
 refine wpAny_bind (wpAny_pure ?_)
 rw [if_neg (by decide)]
 refine wpAny_bind (Tuple_ (thn (ha _ pins s σ H _ I h) fun us s1 ⟨vs,H1,I1,r1,q1⟩=>?_))
 obtain⟨v,w,e1,q1⟩:=q1
 subst e1
 obtain⟨u1,u2,rfl,rv,rw'⟩:∃ u1 u2,us=[u1,u2]/\RelV v u1/\RelV w u2:=by
  cases r1 with
  | cons p q =>
   cases q with
   | cons p' q' =>
    cases q'
    exact⟨_,_,rfl,p,p'⟩
 refine wpAny_newObj_type ?_ (by show 2<=sizeLine;decide)
 have I2:Inv X pins σ H1 { s1 with heap:=s1.heap.push { cls:=.type "tuple",data:=.seq [u1,u2].toArray } }:=I1.kept (t':=s1.toks) fun b o e=>Heap.get?_push_of_some _ e
 rw [hw]
 refine wpAny_bind (wpAny_pure ?_)
 show wpAny (model X.prog X.w) X.A (do rule "assign.swapped-stores";let items <- unpackItems (.ref s1.heap.objs.size) 2 none;assignInOrder [fun v=>bindName X.env y v,fun v=>bindName X.env x v] items.reverse;pure Flow.next) _ _ _
 refine wpAny_bind (wpAny_rule (wpAny_bind (unpackItems_tuple (items:=#[u1,u2]) (I.ok.hd hc) (IsTup.new s1.heap _) fun h' hx'=>?_)))
 have I3:=I2.kept (h':=h') (t':=s1.toks) fun b o e=>hx' b o (Nat.ne_of_lt (Heap.lt_size e)) e
 show wpAny _ _ (assignInOrder [fun v=>bindName X.env y v,fun v=>bindName X.env x v] [u2,u1] >>= fun _=>pure Flow.next) _ _ _
 refine wpAny_bind (assignInOrder_cons (wpAny_bindName (zfb I3 hN hj (.inl hy) rw' (fun s2 I4=>?_) (.inr hy))))
 refine assignInOrder_cons (wpAny_bindName (zfb I4 hN hi (.inl hx) rv (fun s3 I5=>assignInOrder_nil (wpAny_pure ?_)) (.inr hx)))
 rw [List.set_comm _ _ (Ne.symm hij)] at I5
 exact⟨_,H1,I5,q1⟩
end
section
variable {X:Cx}{pos:Pos}
def zrM(c:TT)(tb:TS):TS:=fun D σ H=>∃ W:Nat->St->Hp->Prop,(∃ m,W m σ H)/\∀ m σ H,W m σ H ->
 c σ H fun b H1=>if b=true then ∃ N:St->Hp->Prop,(∀ σ' H',N σ' H'->∃ m',m'<m/\W m' σ' H')/\tb { D with nx:=N,ct:=N,bk:=D.nx } σ H1 else D.nx σ H1
theorem znU{c:Expr}{body:List Stmt}{tc:TT}{tb:TS}(hp:PassesOwn (model X.prog X.w) X.A X.env X.xe)(hc:PT X c tc)(hb:PSs X body tb):PS X (.While c body [] pos) (zrM tc tb):=by
 intro pins s σ H D I h
 obtain⟨W,⟨m0,w0⟩,turn⟩:=h
 refine wpAny_While (codeAny_whileLoop (fun n s'=>∃ σ' H',Inv X pins σ' H' s'/\W n σ' H') ?_ m0 ⟨σ,H,I,w0⟩)
 rintro n s1 ⟨σ1,H1,I1,w1⟩
 refine wpAny_passesOwn hp (thn (hc pins s1 σ1 H1 _ I1 (turn n σ1 H1 w1)) fun b s2 ⟨H2,I2,q2⟩=>?_)
 cases b with
 | true =>
  obtain⟨N,hN,q2⟩:=q2
  rw [if_pos rfl]
  refine wpAny_passesOwn hp (thn (hb pins s2 σ1 H2 _ I2 q2) fun f s3 q3=>?_)
  cases f with
  | next =>
   obtain⟨σ3,H3,I3,n3⟩:=q3
   obtain⟨m',hm,w3⟩:=hN σ3 H3 n3
   exact⟨m',hm,σ3,H3,I3,w3⟩
  | cont =>
   obtain⟨σ3,H3,I3,n3⟩:=q3
   obtain⟨m',hm,w3⟩:=hN σ3 H3 n3
   exact⟨m',hm,σ3,H3,I3,w3⟩
  | brk=>exact q3
  | ret v=>exact q3
 | false =>
  rw [if_neg Bool.false_ne_true]
  exact wpAny_execs_nil ⟨σ1,H2,I2,q2⟩
end
structure It where
 go:Nat->Hp->Prop
 yld:Nat->Hp->V->Hp->Prop
 stop:Nat->Hp->Prop
def zhQ(X:Cx)(pins:List (Addr×Obj))(H:Hp)(b:Addr):Prop :=
 H b=none/\b≠X.env.locals/\b∉X.fs/\(b∈X.ex\/X.s₀.heap.objs.size<=b)/\(∀ x c,X.env.cells.lookup x=some c->c≠b)/\∀ p∈X.pn++pins,p.1≠b
theorem Inv.znj{X:Cx}{pins:List (Addr×Obj)}{σ:St}{H H':Hp}{s:Shared}{b:Addr}(I:Inv X pins σ H s)(hb:s.heap.objs.size<=b)(hn:H' b=none):zhQ X pins H' b:=by
 refine⟨hn,Nat.ne_of_gt (Nat.lt_of_lt_of_le I.lt hb),I.zvW hb,.inr (Nat.le_trans I.sz hb),fun x c e z=>?_,fun p hp z=>?_⟩
 ·obtain⟨v,q⟩:=I.cell x c e
  exact absurd (Nat.lt_of_lt_of_le q.lt (by rw [z];exact hb)) (Nat.lt_irrefl _)
 ·exact absurd (Nat.lt_of_lt_of_le (Heap.lt_size (I.pin p hp).1) (by rw [z];exact hb)) (Nat.lt_irrefl _)
structure Turn(P:Program)(w:World)(K:PySem.W.Frag)(tg:Expr)(J:It)(fp:List Addr)(it:Addr)(tn:Nat->Heap->Prop):Prop where
 mem:it∈fp
 obj:∀ i h,tn i h->∀ b∈fp,∃ o,h.get? b=some o/\∀ v,o.data≠.cell v
 keep:∀ i h h',tn i h->(∀ b∈fp,∀ o,h.get? b=some o->h'.get? b=some o)->tn i h'
 item:∀(X:Cx),X.prog=P->X.w=w->X.K=K->X.calm=true->∀(i:Nat) (pins:List (Addr×Obj)) (s:Shared) (σ:St) (H:Hp) (E:Value->Shared->Prop),Inv X pins σ H s->(∀ b∈fp,zhQ X pins H b)->tn i s.heap->J.go i H ->
  wpAny (model P w) X.A (pyNext (.ref it)) (fun r s1=>∃ u,r=some u /\
   wpAny (model P w) X.A (letOwnedTupleGo tg (.ref it) u) (fun _ s2=>∃ x H',Inv X pins σ H' s2/\RelV x u/\J.yld i H x H'/\tn (i+1) s2.heap/\∀ b∈fp,H' b=none) E s1) E s
 done:∀(X:Cx),X.prog=P->X.w=w->X.K=K->X.calm=true->∀(i:Nat) (pins:List (Addr×Obj)) (s:Shared) (σ:St) (H:Hp) (E:Value->Shared->Prop),Inv X pins σ H s->(∀ b∈fp,zhQ X pins H b)->tn i s.heap->J.stop i H ->
  wpAny (model P w) X.A (pyNext (.ref it)) (fun r s1=>r=none/\Inv X pins σ H s1) E s
 self:∀(A:Around) (i:Nat) (s:Shared) (Q:Value->Shared->Prop) (E:Value->Shared->Prop),tn i s.heap->Q (.ref it) s->wpAny (model P w) A (pyIter (.ref it)) Q E s
abbrev TI:=St->Hp->(It->Hp->Prop)->Prop
def PIE(X:Cx)(pins:List (Addr×Obj))(σ:St)(tg:Expr)(R:It->Hp->Prop)(itv:Value)(s2:Shared):Prop :=
 ∃(it:Addr) (fp:List Addr) (tn:Nat->Heap->Prop) (J:It) (H':Hp),itv=.ref it/\Inv X pins σ H' s2/\Turn X.prog X.w X.K tg J fp it tn/\tn 0 s2.heap/\(∀ b∈fp,zhQ X pins H' b)/\R J H'
def PI(X:Cx)(tg iter:Expr)(wi:TI):Prop :=
 ∀(pins:List (Addr×Obj)) (s:Shared) (σ:St) (H:Hp) (R:It->Hp->Prop),Inv X pins σ H s->wi σ H R ->
  wpAny (model X.prog X.w) X.A (eval iter X.env) (fun v s1=>wpAny (model X.prog X.w) X.A (pyIter v) (PIE X pins σ tg R) X.xe s1) X.xe s
theorem zq3{M:Model}{A:Around}{E:Value->Shared->Prop}{s:Shared}{tg:Expr}{it:Addr}{u:Value}{o:Obj}{n:String}{vs:Array Value}{Q:Unit->Shared->Prop}(ho:s.heap.get? it=some o)(hc:o.cls=.type n)(hd:o.data=.fields vs)
    (hn:["enumerate","zip","dict_itemiterator","dict_reverseitemiterator","odict_iterator","itertools.zip_longest","itertools.pairwise"].contains n=false) (hQ:Q () s):wpAny M A (letOwnedTupleGo tg (.ref it) u) Q E s:=by
  unfold letOwnedTupleGo
  cases tg <;> first
    | exact wpAny_pure hQ
    | (cases u <;> first
        | exact wpAny_pure hQ
        | (refine wpAny_bind (wpAny_load ho ?_)
           rw [hc,hd]
           show wpAny M A (if(["enumerate","zip","dict_itemiterator","dict_reverseitemiterator","odict_iterator","itertools.zip_longest","itertools.pairwise"].contains n&&vs[0]?==some (rawInt _))=true then _ else _) Q E s
           rw [if_neg (by intro h;rw [hn,Bool.false_and] at h;cases h)]
           exact wpAny_pure hQ))
def Itl(K:PySem.W.Frag)(a:Addr):It :=
 ⟨fun i H=>∃ xs x,SqL K H a xs/\xs[i]?=some x,fun i H x H'=>H'=H/\∀ xs,SqL K H a xs->xs[i]?=some x,fun i H=>∃ xs,SqL K H a xs/\xs.length<=i⟩
def Itt(K:PySem.W.Frag)(a:Addr):It :=
 ⟨fun i H=>∃ xs x,SqT K H a xs/\xs[i]?=some x,fun i H x H'=>H'=H/\∀ xs,SqT K H a xs->xs[i]?=some x,fun i H=>∃ xs,SqT K H a xs/\xs.length<=i⟩
def Itr(lo:Int)(n:Nat):It:=⟨fun i _=>i<n,fun i H x H'=>H'=H/\x=.int (lo+i),fun i _=>n<=i⟩
theorem zhU{P:Program}{w:World}{K:PySem.W.Frag}{tg:Expr}(a it:Addr):Turn P w K tg (Itl K a) [it] it (fun i h=>h.IsListIter it a i) where
 mem:=by simp
 obj:=fun i h st b hb=>by
  have e:b=it:=by simpa using hb
  subst e
  obtain⟨o,e,c,d⟩:=st
  exact⟨o,e,fun v z=>by rw [d] at z;cases z⟩
 keep:=fun i h h' st k=>st.at fun o e=>k it (by simp) o e
 item:=by
  intro X hP hw hK hc i pins s σ H E I hf st hg
  subst hP hw hK
  obtain⟨xs,x,hq,hx⟩:=hg
  obtain⟨its,rv,p,hz⟩:=I.list hq
  obtain⟨u,hu,ru⟩:=rv.get hx
  obtain⟨f0,f1,f2,f3,f4,f5⟩:=hf it (by simp)
  refine wpAny_pyNext_list_item st p.isList (x:=u) (by simpa using hu) fun h' st' sb=>?_
  have I1:Inv X pins σ H { s with heap:=h' }:=I.turned (t':=s.toks) (fun b o hb e=>(sb.2 b hb).trans e) f0 f1 f3 f4 f5
  obtain⟨o,e,c,d⟩:=id st'
  exact⟨u,rfl,zq3 (s:={ s with heap:=h' }) e c d (by decide) ⟨x,H,I1,ru,⟨rfl,fun ys hy=>by rw [I.zec hy hq];exact hx⟩,st',fun b hb=>(hf b hb).1⟩⟩
 done:=by
  intro X hP hw hK hc i pins s σ H E I hf st hg
  subst hP hw hK
  obtain⟨xs,hq,hx⟩:=hg
  obtain⟨its,rv,p,hz⟩:=I.list hq
  obtain⟨f0,f1,f2,f3,f4,f5⟩:=hf it (by simp)
  have hl:=rv.length
  exact wpAny_pyNext_list_end (I.ok.hd hc) st p.isList (by simp;omega) fun h' eb=>⟨rfl,I.turned (t':=s.toks) (fun b o hb e=>eb b o hb e) f0 f1 f3 f4 f5⟩
 self:=fun _ _ _ _ _ st h=>wpAny_pyIter_listiter st h
theorem zkB{P:Program}{w:World}{K:PySem.W.Frag}{tg:Expr}(a it:Addr):Turn P w K tg (Itt K a) [it] it (fun i h=>h.IsTupleIter it a i) where
 mem:=by simp
 obj:=fun i h st b hb=>by
  have e:b=it:=by simpa using hb
  subst e
  obtain⟨o,e,c,d⟩:=st
  exact⟨o,e,fun v z=>by rw [d] at z;cases z⟩
 keep:=fun i h h' st k=>st.at fun o e=>k it (by simp) o e
 item:=by
  intro X hP hw hK hc i pins s σ H E I hf st hg
  subst hP hw hK
  obtain⟨xs,x,hq,hx⟩:=hg
  obtain⟨its,rv,p,hz⟩:=I.tuple hq
  obtain⟨u,hu,ru⟩:=rv.get hx
  obtain⟨f0,f1,f2,f3,f4,f5⟩:=hf it (by simp)
  refine wpAny_pyNext_tuple_item st (show s.heap.IsTuple a its.toArray from p) (x:=u) (by simpa using hu) fun h' st' sb=>?_
  have I1:Inv X pins σ H { s with heap:=h' }:=I.turned (t':=s.toks) (fun b o hb e=>(sb.2 b hb).trans e) f0 f1 f3 f4 f5
  obtain⟨o,e,c,d⟩:=id st'
  exact⟨u,rfl,zq3 (s:={ s with heap:=h' }) e c d (by decide) ⟨x,H,I1,ru,⟨rfl,fun ys hy=>by rw [I.zhV hy hq];exact hx⟩,st',fun b hb=>(hf b hb).1⟩⟩
 done:=by
  intro X hP hw hK hc i pins s σ H E I hf st hg
  subst hP hw hK
  obtain⟨xs,hq,hx⟩:=hg
  obtain⟨its,rv,p,hz⟩:=I.tuple hq
  obtain⟨f0,f1,f2,f3,f4,f5⟩:=hf it (by simp)
  have hl:=rv.length
  exact wpAny_pyNext_tuple_end (I.ok.hd hc) st (show s.heap.IsTuple a its.toArray from p) (by simp;omega) fun h' eb=>⟨rfl,I.turned (t':=s.toks) (fun b o hb e=>eb b o hb e) f0 f1 f3 f4 f5⟩
 self:=fun _ _ _ _ _ st h=>wpAny_pyIter_tupleiter st h
theorem zkC{P:Program}{w:World}{K:PySem.W.Frag}{tg:Expr}(it:Addr)(lo:Int)(n:Nat):Turn P w K tg (Itr lo n) [it] it (fun i h=>IsRangeIter h it (lo+(i:Nat)*1) ((n:Int)-(i:Nat)) 1) where
 mem:=by simp
 obj:=fun i h st b hb=>by
  have e:b=it:=by simpa using hb
  subst e
  exact⟨_,st,fun v z=>by
   have z':Data.fields _=Data.cell v:=z
   cases z'⟩
 keep:=fun i h h' st k=>k it (by simp) _ st
 item:=by
  intro X hP hw hK hc i pins s σ H E I hf st hg
  subst hP hw hK
  obtain⟨f0,f1,f2,f3,f4,f5⟩:=hf it (by simp)
  have W:=Walks.range (prog:=X.prog) (w:=X.w) (I.ok.hd hc) it lo 1 n
  refine W.item i s _ _ hg st fun v h' tk hv st' kk=>?_
  obtain⟨t,rfl⟩:=hv
  have I1:Inv X pins σ H { s with heap:=h',toks:=tk }:=I.turned (fun b o hb e=>kk b o (by simpa using hb) e) f0 f1 f3 f4 f5
  refine⟨_,rfl,zq3 (s:={ s with heap:=h',toks:=tk }) (n:="range_iterator") st' rfl rfl (by decide) ⟨.int (lo+i),H,I1,⟨t,?_⟩,⟨rfl,rfl⟩,st',fun b hb=>(hf b hb).1⟩⟩
  rw [Int.mul_one]
 done:=by
  intro X hP hw hK hc i pins s σ H E I hf st hg
  subst hP hw hK
  obtain⟨f0,f1,f2,f3,f4,f5⟩:=hf it (by simp)
  exact wpAny_pyNext_range_end (I.ok.hd hc) st (by have:n<=i:=hg;omega) fun h' eb=>⟨rfl,I.turned (t':=s.toks) (fun b o hb e=>eb b o hb e) f0 f1 f3 f4 f5⟩
 self:=fun _ _ _ _ _ st h=>wpAny_pyIter_rangeiter st h
end
section
section
variable {X:Cx}{tg:Expr}
def zuD(K:PySem.W.Frag)(tl:TE):TI:=fun σ H R=>tl σ H fun x H1=>∃ a,x=.ref a/\(∃ xs,SqL K H1 a xs)/\R (Itl K a) H1
theorem zqw{l:Expr}{tl:TE}(hl:PE X l tl):PI X tg l (zuD X.K tl):=by
 intro pins s σ H R I h
 refine thn (hl pins s σ H _ I h) fun v s1 ⟨x,H1,I1,r1,q1⟩=>?_
 obtain⟨a,e,⟨xs,hq⟩,q⟩:=q1
 subst e
 cases r1
 obtain⟨its,rv,p,hz⟩:=I1.list hq
 refine wpAny_pyIter_list p.isList ?_
 refine⟨s1.heap.objs.size,[s1.heap.objs.size],_,_,H1,rfl,I1.kept (t':=s1.toks) fun b o e=>Heap.get?_push_of_some _ e,zhU a _,⟨_,Heap.get?_push_size _ rfl,rfl,rfl⟩,fun b hb=>?_,q⟩
 have e:b=s1.heap.objs.size:=by simpa using hb
 subst e
 exact I1.znj (Nat.le_refl _) (I1.hok.fresh (Nat.le_refl _))
theorem zjS{pins:List (Addr×Obj)}{σ:St}{H:Hp}{s:Shared}{R:It->Hp->Prop}{E:Value->Shared->Prop}{lo hi:Int}{t u v:Tok}{tk:Nat}(I:Inv X pins σ H s)(h1:-(2^62)<=lo)(h2:lo<2^62)(h3:-(2^62)<=hi)(h4:hi<2^62)
  (q:R (Itr lo (hi-lo).toNat) H):wpAny (model X.prog X.w) X.A (pyIter (.ref s.heap.objs.size)) (PIE X pins σ tg R) E { s with heap:=s.heap.push { cls:=.type "range",data:=.fields #[.int lo t,.int hi u,.int 1 v] },toks:=tk }:=by
 refine wpAny_pyIter_range (IsRange.new ..) (small_one h1 h2 h3 h4) ?_
 have I1:Inv X pins σ H { s with heap:=s.heap.push { cls:=.type "range",data:=.fields #[.int lo t,.int hi u,.int 1 v] },toks:=tk }:=I.kept fun b o e=>Heap.get?_push_of_some _ e
 refine⟨(s.heap.push { cls:=.type "range",data:=.fields #[.int lo t,.int hi u,.int 1 v] }).objs.size,[(s.heap.push { cls:=.type "range",data:=.fields #[.int lo t,.int hi u,.int 1 v] }).objs.size],_,_,H,rfl,
  I1.kept (t':=tk) fun b o e=>Heap.get?_push_of_some _ e,zkC _ lo (hi-lo).toNat,?_,fun b hb=>?_,q⟩
 ·have e1:lo+((0:Nat):Int)*1=lo:=by simp
  have e2:(((hi-lo).toNat:Nat):Int)-((0:Nat):Int)=Builtin.Range.rangeSize lo hi 1:=by rw [rangeSize_one];split <;> omega
  show IsRangeIter _ _ (lo+((0:Nat):Int)*1) ((((hi-lo).toNat:Nat):Int)-((0:Nat):Int)) 1
  rw [e1,e2]
  exact Heap.get?_push_size _ rfl
 ·have e:b=(s.heap.push { cls:=.type "range",data:=.fields #[.int lo t,.int hi u,.int 1 v] }).objs.size:=by simpa using hb
  subst e
  exact I1.znj (Nat.le_refl _) (I1.hok.fresh (Nat.le_refl _))
def zuC(ta:TA):TI:=fun σ H R=>ta σ H fun vs H1=>∃ j:Int,vs=[.int j]/\-(2^62)<=j/\j<2^62/\R (Itr 0 j.toNat) H1
def zuB(ta:TA):TI:=fun σ H R=>ta σ H fun vs H1=>∃ i j:Int,vs=[.int i,.int j]/\(-(2^62)<=i/\i<2^62/\-(2^62)<=j/\j<2^62)/\R (Itr i (j-i).toNat) H1
theorem zlX{a:Expr}{ta:TA}{p pos:Pos}(hg:Gl X "range") (hm:X.mg "range"=none) (ha:PA X [a] ta) (hs:starEach [a] X.env=[(false,eval a X.env)]:=by rfl):PI X tg (.Call (.Name "range" p) [a] [] pos) (zuC ta):=by
 intro pins s σ H R I h
 refine Call_ (zfL I hg hm boot_range (PyProof.Rows.callWith_type1 (thn (ha pos pins s σ H _ I h) fun us s1 ⟨vs,H1,I1,r1,q1⟩=>?_) hs rfl))
 obtain⟨j,e,q1,q2,q⟩:=q1
 subst e
 cases r1 with
 | cons r rr =>
  cases rr
  obtain⟨t,rfl⟩:=r
  exact call_range_1 (zjS I1 (by omega) (by omega) q1 q2 (by simpa using q))
theorem zlW{a b:Expr}{ta:TA}{p pos:Pos}(hg:Gl X "range") (hm:X.mg "range"=none) (ha:PA X [a,b] ta) (hs:starEach [a,b] X.env=[(false,eval a X.env),(false,eval b X.env)]:=by rfl) (hs2:starEach [b] X.env=[(false,eval b X.env)]:=by rfl) :
  PI X tg (.Call (.Name "range" p) [a,b] [] pos) (zuB ta):=by
 intro pins s σ H R I h
 refine Call_ (zfL I hg hm boot_range (PyProof.Rows.callWith_type1 (thn (ha pos pins s σ H _ I h) fun us s1 ⟨vs,H1,I1,r1,q1⟩=>?_) (by rw [hs,hs2]) (by rw [hs2];rfl)))
 obtain⟨i,j,e,⟨q1,q2,q3,q4⟩,q⟩:=q1
 subst e
 cases r1 with
 | cons r rr =>
  cases rr with
  | cons r' rr =>
   cases rr
   obtain⟨t,rfl⟩:=r
   obtain⟨t',rfl⟩:=r'
   exact call_range_2 (zjS I1 q1 q2 q3 q4 q)
def zvy(wi:TI)(g:TG)(tb:TS):TS:=fun D σ H=>wi σ H fun J H1=>∃ W:Nat->Nat->St->Hp->Prop,(∃ m,W 0 m σ H1)/\∀ i m σ H,W i m σ H ->
 (J.stop i H/\D.nx σ H)\/(J.go i H/\∃ N:St->Hp->Prop,(∀ σ' H',N σ' H'->∃ m',m'<m/\W (i+1) m' σ' H')/\∀ x H',J.yld i H x H'->g x σ H' fun σ2 H2=>tb { D with nx:=N,ct:=N,bk:=D.nx } σ2 H2)
def zgv(fp:List Addr)(h:Heap):List (Addr×Obj):=fp.filterMap fun b=>(h.get? b).map fun o=>(b,o)
theorem zcm{fp:List Addr}{h:Heap}{b:Addr}{o:Obj}(hb:b∈fp)(e:h.get? b=some o):(b,o)∈zgv fp h:=List.mem_filterMap.mpr ⟨b,hb,by rw [e];rfl⟩
theorem zl4{fp:List Addr}{h:Heap}{p:Addr×Obj}(hp:p∈zgv fp h):p.1∈fp/\h.get? p.1=some p.2:=by
 obtain⟨b,hb,e⟩:=List.mem_filterMap.mp hp
 cases q:h.get? b with
 | none=>rw [q] at e;cases e
 | some o =>
  rw [q] at e
  have e':(b,o)=p:=Option.some.inj e
  subst e'
  exact⟨hb,q⟩
theorem Inv.pinned{pins:List (Addr×Obj)}{σ:St}{H:Hp}{s:Shared}{fp:List Addr}(I:Inv X pins σ H s)(hf:∀ b∈fp,zhQ X pins H b)(ho:∀ b∈fp,∃ o,s.heap.get? b=some o/\∀ v,o.data≠.cell v):Inv X (pins++zgv fp s.heap) σ H s :=
 I.zlV fun p hp=>(List.mem_append.mp hp).elim (fun z=>I.pin p (List.mem_append_right _ z)) fun z=>by
  obtain⟨hb,e⟩:=zl4 z
  obtain⟨f0,f1,f2,_⟩:=hf p.1 hb
  obtain⟨o,e',d⟩:=ho p.1 hb
  rw [e] at e';cases e'
  exact⟨e,f0,f1,f2,d⟩
theorem Inv.zdW{pins pl:List (Addr×Obj)}{σ:St}{H:Hp}{s:Shared}(I:Inv X (pins++pl) σ H s):Inv X pins σ H s:=I.zlV fun p hp=>I.pin p (List.mem_append_right _ (List.mem_append_left _ hp))
theorem zo3{iter:Expr}{body:List Stmt}{wi:TI}{g:TG}{tb:TS}{pos:Pos}(hp:PassesOwn (model X.prog X.w) X.A X.env X.xe)(hc:X.calm=true)(hi:PI X tg iter wi)(hg:PG X tg g)(hb:PSs X body tb)
  (hs:∀ x,foldedSetIterable iter X.env x=pure x:=by intro _;rfl):PS X (.For tg iter body [] pos) (zvy wi g tb):=by
 intro pins s σ H D I h
 refine wpAny_For (thn (hi pins s σ H _ I h) fun v s1 h1=>thn h1 fun itv s2 h2=>?_) hs
 obtain⟨it,fp,tn,J,H2,e,I2,T,st2,f2,W,⟨m0,w0⟩,turn⟩:=h2
 subst e
 have stat:∀{H':Hp},(∀ b∈fp,H' b=none)->∀ b∈fp,zhQ X pins H' b:=fun hn b hb=>⟨hn b hb,(f2 b hb).2⟩
 refine codeAny_forLoop_any (fun n s'=>∃ i σ' H',Inv X pins σ' H' s'/\tn i s'.heap/\(∀ b∈fp,H' b=none)/\W i n σ' H') ?_ m0 ⟨0,σ,H2,I2,st2,fun b hb=>(f2 b hb).1,w0⟩
 rintro n s3 ⟨i,σ3,H3,I3,st3,fr3,w3⟩
 rcases turn i n σ3 H3 w3 with⟨stop,qn⟩|⟨go,N,hN,step⟩
 ·refine wpAny_passesOwn hp (thn (T.done X rfl rfl rfl hc i pins s3 σ3 H3 X.xe I3 (stat fr3) st3 stop) fun r s4 ⟨hr,I4⟩=>?_)
  subst hr
  exact wpAny_execs_nil ⟨σ3,H3,I4,qn⟩
 ·refine wpAny_passesOwn hp (thn (T.item X rfl rfl rfl hc i pins s3 σ3 H3 X.xe I3 (stat fr3) st3 go) fun r s4 ⟨u,hr,h4⟩=>?_)
  subst hr
  refine wpAny_passesOwn hp (thn h4 fun _ s5 ⟨x,H5,I5,r5,y5,st5,fr5⟩=>?_)
  have I5':=I5.pinned (stat fr5) (T.obj _ _ st5)
  refine wpAny_passesOwn hp (thn (hg _ s5 σ3 H5 x u _ I5' r5 (step x H5 y5)) fun _ s6 ⟨σ6,H6,I6,q6⟩=>?_)
  refine wpAny_passesOwn hp (thn (hb _ s6 σ6 H6 _ I6 q6) fun f s7 q7=>?_)
  have again:∀{σ7:St} {H7:Hp},Inv X (pins++zgv fp s5.heap) σ7 H7 s7->N σ7 H7->∃ m,m<n/\∃ i σ' H',Inv X pins σ' H' s7/\tn i s7.heap/\(∀ b∈fp,H' b=none)/\W i m σ' H':=fun{σ7 H7} I7 n7=>by
   obtain⟨m',hm,w7⟩:=hN σ7 H7 n7
   refine⟨m',hm,i+1,σ7,H7,I7.zdW,T.keep _ _ _ st5 fun b hb o e=>(I7.pin (b,o) (List.mem_append_right _ (List.mem_append_right _ (zcm hb e)))).1,fun b hb=>?_,w7⟩
   obtain⟨o,e,d⟩:=T.obj _ _ st5 b hb
   exact(I7.pin (b,o) (List.mem_append_right _ (List.mem_append_right _ (zcm hb e)))).2.1
  cases f with
  | next=>obtain⟨σ7,H7,I7,n7⟩:=q7;exact again I7 n7
  | cont=>obtain⟨σ7,H7,I7,n7⟩:=q7;exact again I7 n7
  | brk=>obtain⟨σ7,H7,I7,q7⟩:=q7;exact⟨σ7,H7,I7.zdW,q7⟩
  | ret v=>obtain⟨x7,σ7,H7,I7,r7,q7⟩:=q7;exact⟨x7,σ7,H7,I7.zdW,r7,q7⟩
end
end
section
abbrev R2:=V->V->Hp->VK->Prop
def OpR(X:Cx)(f:Value->Value->Sem Value)(r:R2):Prop :=
 ∀(pins:List (Addr×Obj)) (s:Shared) (σ:St) (H:Hp) (x y:V) (v u:Value) (Q:VK),Inv X pins σ H s->RelV x v->RelV y u->r x y H Q ->
  wpAny (model X.prog X.w) X.A (f v u) (EP X pins σ Q) X.xe s
def UnR(X:Cx)(f:Value->Sem Value)(r:V->Hp->VK->Prop):Prop :=
 ∀(pins:List (Addr×Obj)) (s:Shared) (σ:St) (H:Hp) (x:V) (v:Value) (Q:VK),Inv X pins σ H s->RelV x v->r x H Q ->
  wpAny (model X.prog X.w) X.A (f v) (EP X pins σ Q) X.xe s
def zc3(X:Cx)(f:Value)(r:List V->Hp->VK->Prop):Prop :=
 ∀(pins:List (Addr×Obj)) (s:Shared) (σ:St) (H:Hp) (xs:List V) (us:List Value) (Q:VK),Inv X pins σ H s->Vals xs us->r xs H Q ->
  wpAny (model X.prog X.w) X.A (call f us) (EP X pins σ Q) X.xe s
def zuZ(X:Cx)(r:V->Hp->(Bool->Hp->Prop)->Prop):Prop :=
 ∀(pins:List (Addr×Obj)) (s:Shared) (σ:St) (H:Hp) (x:V) (v:Value) (Q:Bool->Hp->Prop),Inv X pins σ H s->RelV x v->r x H Q ->
  wpAny (model X.prog X.w) X.A (truthy v) (TP X pins σ Q) X.xe s
def tOp(r:R2)(ta tb:TE):TE:=fun σ H Q=>ta σ H fun x H1=>tb σ H1 fun y H2=>r x y H2 Q
def tUn(r:V->Hp->VK->Prop)(ta:TE):TE:=fun σ H Q=>ta σ H fun x H1=>r x H1 Q
def rI(C:Int->Int->Prop)(g:Int->Int->V):R2:=fun x y H Q=>∃ i j,x=.int i/\y=.int j/\C i j/\Q (g i j) H
def rI0(g:Int->Int->V):R2:=fun x y H Q=>∃ i j,x=.int i/\y=.int j/\Q (g i j) H
def rU(g:Int->V):V->Hp->VK->Prop:=fun x H Q=>∃ i,x=.int i/\Q (g i) H
section
variable {X:Cx}{a b c:Expr}{ta tb tc:TE}{pos:Pos}
theorem zuX(ha:PE X a ta)(hb:PE X b tb){pins:List (Addr×Obj)}{s:Shared}{σ:St}{H:Hp}{R:V->V->Hp->Prop}(I:Inv X pins σ H s)
  (h:ta σ H fun x H1=>tb σ H1 fun y H2=>R x y H2){Q:Value->Shared->Prop}{f:Value->Value->Sem Value}
  (hf:∀ v u s2 x y H2,Inv X pins σ H2 s2->RelV x v->RelV y u->R x y H2->wpAny (model X.prog X.w) X.A (f v u) Q X.xe s2) :
  wpAny (model X.prog X.w) X.A (eval a X.env) (fun v s₁=>wpAny (model X.prog X.w) X.A (eval b X.env) (fun u s₂=>wpAny (model X.prog X.w) X.A (f v u) Q X.xe s₂) X.xe s₁) X.xe s:=by
 refine thn (ha pins s σ H _ I h) fun v s1 ⟨x,H1,I1,r1,q1⟩=>?_
 refine thn (hb pins s1 σ H1 _ I1 q1) fun u s2 ⟨y,H2,I2,r2,q2⟩=>?_
 exact hf v u s2 x y H2 I2 r1 r2 q2
theorem zqz{op:Operator}{r:R2}(ho:OpR X (binaryOp op) r)(ha:PE X a ta)(hb:PE X b tb):PE X (.BinOp a op b pos) (tOp r ta tb):=by
 intro pins s σ H Q I h
 exact wpAny_BinOp (zuX ha hb I h fun v u s2 x y H2 I2 rx ry q=>ho pins s2 σ H2 x y v u Q I2 rx ry q)
theorem zua{op:UnaryOp}{r:V->Hp->VK->Prop}(ho:UnR X (unaryOp op) r)(ha:PE X a ta):PE X (.UnaryOp op a pos) (tUn r ta):=by
 intro pins s σ H Q I h
 exact UnaryOp_ (thn (ha pins s σ H _ I h) fun v s1 ⟨x,H1,I1,r1,q1⟩=>ho pins s1 σ H1 x v Q I1 r1 q1)
theorem opI{f:Value->Value->Sem Value}{C:Int->Int->Prop}{g:Int->Int->Int}
  (rule:∀(i j:Int) (t u:Tok) (s:Shared) (Q:Value->Shared->Prop) (E:Value->Shared->Prop),C i j->Q (.int (g i j) s.toks) { s with toks:=s.toks+1 }->wpAny (model X.prog X.w) X.A (f (.int i t) (.int j u)) Q E s) :
  OpR X f (rI C fun i j=>.int (g i j)):=by
 intro pins s σ H x y v u Q I rx ry h
 obtain⟨i,j,rfl,rfl,hc,q⟩:=h
 obtain⟨t,rfl⟩:=rx
 obtain⟨t',rfl⟩:=ry
 exact rule i j t t' s _ _ hc ⟨.int (g i j),H,I.tok _,⟨_,rfl⟩,q⟩
theorem zvc{f:Value->Value->Sem Value}{g:Int->Int->Int}
  (rule:∀(i j:Int) (t u:Tok) (s:Shared) (Q:Value->Shared->Prop) (E:Value->Shared->Prop),Q (.int (g i j) s.toks) { s with toks:=s.toks+1 }->wpAny (model X.prog X.w) X.A (f (.int i t) (.int j u)) Q E s) :
  OpR X f (rI0 fun i j=>.int (g i j)):=by
 intro pins s σ H x y v u Q I rx ry h
 obtain⟨i,j,rfl,rfl,q⟩:=h
 obtain⟨t,rfl⟩:=rx
 obtain⟨t',rfl⟩:=ry
 exact rule i j t t' s _ _ ⟨.int (g i j),H,I.tok _,⟨_,rfl⟩,q⟩
theorem ztx{f:Value->Value->Sem Value}{g:Int->Int->Bool}
  (rule:∀(i j:Int) (t u:Tok) (s:Shared) (Q:Value->Shared->Prop) (E:Value->Shared->Prop),Q (.bool (g i j)) s->wpAny (model X.prog X.w) X.A (f (.int i t) (.int j u)) Q E s) :
  OpR X f (rI0 fun i j=>.bl (g i j)):=by
 intro pins s σ H x y v u Q I rx ry h
 obtain⟨i,j,rfl,rfl,q⟩:=h
 obtain⟨t,rfl⟩:=rx
 obtain⟨t',rfl⟩:=ry
 exact rule i j t t' s _ _ ⟨.bl (g i j),H,I,rfl,q⟩
def zvp(i j:Int):Prop:=0<=j/\j<=1000000/\i.natAbs<2^64
theorem zsD:OpR X (binaryOp .Add) (rI0 fun i j=>.int (i+j)):=zvc fun _ _ _ _ _ _ _ q=>add_int q
theorem zsw:OpR X (binaryOp .Sub) (rI0 fun i j=>.int (i-j)):=zvc fun _ _ _ _ _ _ _ q=>sub_int q
theorem zqJ:OpR X (binaryOp .Mod) (rI (fun _ j=>j≠0) fun i j=>.int (i.fmod j)):=opI fun _ _ _ _ _ _ _ hc q=>mod_int' hc q
theorem zsy:OpR X (binaryOp .Pow) (rI zvp fun i j=>.int (i^j.toNat)):=opI fun _ _ _ _ _ _ _ hc q=>pow_int_small hc.1 hc.2.1 hc.2.2 q
theorem unI{f:Value->Sem Value}{g:Int->Int}
  (rule:∀(i:Int) (t:Tok) (s:Shared) (Q:Value->Shared->Prop) (E:Value->Shared->Prop),Q (.int (g i) s.toks) { s with toks:=s.toks+1 }->wpAny (model X.prog X.w) X.A (f (.int i t)) Q E s) :
  UnR X f (rU fun i=>.int (g i)):=by
 intro pins s σ H x v Q I rx h
 obtain⟨i,rfl,q⟩:=h
 obtain⟨t,rfl⟩:=rx
 exact rule i t s _ _ ⟨.int (g i),H,I.tok _,⟨_,rfl⟩,q⟩
theorem zrH:UnR X (unaryOp .USub) (rU fun i=>.int (-i)):=unI fun _ _ _ _ _ q=>neg_int q
end
section
variable {X:Cx}{a b c:Expr}{ta tb tc:TE}{pos:Pos}
theorem zuf:OpR X (compareOp .Lt) (rI0 fun i j=>.bl (decide (i<j))):=ztx fun _ _ _ _ _ _ _ q=>lt_int q
theorem zug:OpR X (compareOp .LtE) (rI0 fun i j=>.bl (decide (i<=j))):=ztx fun _ _ _ _ _ _ _ q=>le_int q
theorem zuh:OpR X (compareOp .Gt) (rI0 fun i j=>.bl (decide (j<i))):=ztx fun _ _ _ _ _ _ _ q=>gt_int q
theorem zui:OpR X (compareOp .GtE) (rI0 fun i j=>.bl (decide (j<=i))):=ztx fun _ _ _ _ _ _ _ q=>ge_int q
theorem zl9(b:Expr){op:CmpOp}(h:op≠.In:=by decide)(h2:op≠.NotIn:=by decide):behindInMarks op b=false:=by
 have e1:(op==CmpOp.In)=false:=by cases op <;> first|rfl|exact absurd rfl h
 have e2:(op==CmpOp.NotIn)=false:=by cases op <;> first|rfl|exact absurd rfl h2
 cases b <;> simp [behindInMarks,e1,e2]
theorem zqC{op:CmpOp}{r:R2}(ho:OpR X (compareOp op) r)(ha:PE X a ta)(hb:PE X b tb)(hm:behindInMarks op b=false):PE X (.Compare a [op] [b] pos) (tOp r ta tb):=by
 intro pins s σ H Q I h
 exact wpAny_Compare1 (zuX ha hb I h fun v u s2 x y H2 I2 rx ry q=>ho pins s2 σ H2 x y v u Q I2 rx ry q) hm
def zrN(t:TE):TT:=fun σ H Q=>t σ H fun x H'=>∃ k,x=.bl k/\Q k H'
theorem zlJ{op:CmpOp}{r:R2}(ho:OpR X (compareOp op) r)(ha:PE X a ta)(hb:PE X b tb)(hm:behindInMarks op b=false):PT X (.Compare a [op] [b] pos) (zrN (tOp r ta tb)):=by
 intro pins s σ H Q I h
 refine wpAny_isTrue_Compare1 (thn (ha pins s σ H _ I h) fun v s1 ⟨x,H1,I1,r1,q1⟩=>thn (hb pins s1 σ H1 _ I1 q1) fun u s2 ⟨y,H2,I2,r2,q2⟩ =>
  thn (ho pins s2 σ H2 x y v u _ I2 r1 r2 q2) fun c s3 ⟨z,H3,I3,r3,k,e,q3⟩=>?_) hm
 subst e
 cases r3
 exact wpAny_truthy_bool ⟨H3,I3,q3⟩
def zlo(r r':R2)(ta tb tc:TE):TE:=fun σ H Q=>ta σ H fun x H1=>tb σ H1 fun y H2=>r x y H2 fun z H3=>∃ k,z=.bl k /\
 (if k=true then tc σ H3 fun w' H4=>r' y w' H4 Q else Q (.bl false) H3)
theorem zn2{op op':CmpOp}{r r':R2}(ho:OpR X (compareOp op) r)(ho':OpR X (compareOp op') r')(ha:PE X a ta)(hb:PE X b tb)(hc:PE X c tc)
  (hm:lastMarks [op,op'] [b,c]=false:=by with_unfolding_all rfl):PE X (.Compare a [op,op'] [b,c] pos) (zlo r r' ta tb tc):=by
 intro pins s σ H Q I h
 refine Compare_chain (thn (ha pins s σ H _ I h) fun v s1 ⟨x,H1,I1,r1,q1⟩=>chain_link (thn (hb pins s1 σ H1 _ I1 q1) fun u s2 ⟨y,H2,I2,r2,q2⟩ =>
  thn (ho pins s2 σ H2 x y v u _ I2 r1 r2 q2) fun d s3 ⟨z,H3,I3,r3,k,e,q3⟩=>?_)) hm
 subst e
 cases r3
 refine wpAny_truthy_bool ?_
 cases k with
 | false=>exact ite_ff ⟨.bl false,H3,I3,rfl,q3⟩
 | true=>exact ite_tt (chain_last (thn (hc pins s3 σ H3 _ I3 q3) fun w' s4 ⟨z',H4,I4,r4,q4⟩=>ho' pins s4 σ H4 y z' u w' Q I4 r2 r4 q4))
theorem znR{op op':CmpOp}{r r':R2}(ho:OpR X (compareOp op) r)(ho':OpR X (compareOp op') r')(ha:PE X a ta)(hb:PE X b tb)(hc:PE X c tc)
  (hm:lastMarks [op,op'] [b,c]=false:=by with_unfolding_all rfl):PT X (.Compare a [op,op'] [b,c] pos) (zrN (zlo r r' ta tb tc)):=by
 intro pins s σ H Q I h
 refine isTrue_chain (thn (ha pins s σ H _ I h) fun v s1 ⟨x,H1,I1,r1,q1⟩=>test_link (thn (hb pins s1 σ H1 _ I1 q1) fun u s2 ⟨y,H2,I2,r2,q2⟩ =>
  thn (ho pins s2 σ H2 x y v u _ I2 r1 r2 q2) fun d s3 ⟨z,H3,I3,r3,k,e,q3⟩=>?_)) hm
 subst e
 cases r3
 refine wpAny_truthy_bool ?_
 cases k with
 | false =>
  obtain⟨k',e',q'⟩:=q3
  cases e'
  exact ite_ff ⟨H3,I3,q'⟩
 | true =>
  refine ite_tt (test_last (thn (hc pins s3 σ H3 _ I3 q3) fun w' s4 ⟨z',H4,I4,r4,q4⟩=>thn (ho' pins s4 σ H4 y z' u w' _ I4 r2 r4 q4) fun d' s5 ⟨z2,H5,I5,r5,k2,e2,q5⟩=>?_))
  subst e2
  cases r5
  exact wpAny_truthy_bool ⟨H5,I5,q5⟩
def zwc(K:PySem.W.Frag)(x:V)(H:Hp)(k:Bool):Prop :=
 match x with
 | .non=>k=false
 | .bl b=>k=b
 | .int i=>k=(i != 0)
 | .str y=>y.length<=sizeLine/\k=((y.length:Int) != 0)
 | .byt y=>y.size<=sizeLine/\k=((y.size:Int) != 0)
 | .ref p=>(∃ xs,SqL K H p xs/\k=!xs.isEmpty)\/(∃ xs,SqT K H p xs/\k=!xs.isEmpty)\/∃ kvs,H p=some (.dK kvs)/\k=!kvs.isEmpty
 | _=>False
theorem zkZ{κ:Type}{kvs:List (κ×V)}{vs:List (κ×Value)}(r:KV kvs vs):(!vs.isEmpty)=!kvs.isEmpty:=by
 cases r <;> rfl
theorem zgB{xs:List V}{its:List Value}(r:Vals xs its):(!its.toArray.isEmpty)=!xs.isEmpty:=by
 cases r <;> simp
theorem zid:(sizeLine:Nat)<2^63:=by rw [sizeLine_eq];decide
theorem zrI:zuZ X (fun x H Q=>∃ k,zwc X.K x H k/\Q k H):=by
 intro pins s σ H x v Q I rx h
 obtain⟨k,e,q⟩:=h
 have hl:=zid
 have hs:sizeLine=16777216:=sizeLine_eq
 cases x with
 | non =>
  cases rx
  have e':k=false:=e
  subst e'
  exact truthy_none ⟨H,I,q⟩
 | bl b =>
  cases rx
  have e':k=b:=e
  subst e'
  exact wpAny_truthy_bool ⟨H,I,q⟩
 | int i =>
  obtain⟨t,rfl⟩:=rx
  have e':k=(i != 0):=e
  subst e'
  exact PySem.P.truthy_int ⟨H,I,q⟩
 | str y =>
  obtain⟨t,rfl⟩:=rx
  obtain⟨hy,e'⟩:y.length<=sizeLine/\k=((y.length:Int) != 0):=e
  subst e'
  exact PySem.P.truthy_str (by omega) ⟨H,I.tok _,q⟩
 | byt y =>
  obtain⟨t,rfl⟩:=rx
  obtain⟨hy,e'⟩:y.size<=sizeLine/\k=((y.size:Int) != 0):=e
  subst e'
  exact PySem.W.truthy_bytes (by omega) ⟨H,I.tok _,q⟩
 | ref p =>
  cases rx
  have e':(∃ xs,SqL X.K H p xs/\k=!xs.isEmpty)\/(∃ xs,SqT X.K H p xs/\k=!xs.isEmpty)\/∃ kvs,H p=some (.dK kvs)/\k=!kvs.isEmpty:=e
  rcases e' with⟨xs,hx,e'⟩|⟨xs,hx,e'⟩|⟨kvs,hx,e'⟩
  ·subst e'
   obtain⟨its,r,pl,hz⟩:=I.list hx
   have hlen:=r.length
   exact wpAny_truthy_list pl.isList (by simp only [List.size_toArray];omega) ⟨H,I.tok _,by rw [zgB r];exact q⟩
  ·subst e'
   obtain⟨its,r,pl,hz⟩:=I.tuple hx
   have hlen:=r.length
   exact truthy_tuple pl (by simp only [List.size_toArray];omega) ⟨H,I.tok _,by rw [zgB r];exact q⟩
  ·subst e'
   obtain⟨hz,hS,vs,r,m⟩:kvs.length<=sizeLine/\(p==sysModules)=false/\∃ vs,KV kvs vs/\s.heap.DictOf (zbJ X.prog X.w) p vs:=I.hok p _ hx
   have hlen:kvs.length=vs.length:=Paired.length r
   exact wpAny_truthy_dict hS m (by omega) ⟨H,I.tok _,by rw [zkZ r];exact q⟩
 | _=>exact(show False from e).elim
theorem vals1{x:V}{us:List Value}(r:Vals [x] us):∃ u,us=[u]/\RelV x u:=by
 cases r with
 | cons r1 r2=>cases r2;exact⟨_,rfl,r1⟩
theorem vals2{x y:V}{us:List Value}(r:Vals [x,y] us):∃ u w',us=[u,w']/\RelV x u/\RelV y w':=by
 cases r with
 | cons r1 r2 =>
  cases r2 with
  | cons r3 r4=>cases r4;exact⟨_,_,rfl,r1,r3⟩
theorem zoK:zc3 X (.builtin "abs") (fun xs H Q=>∃ i,xs=[.int i]/\Q (.int (if i<0 then -i else i)) H):=by
 intro pins s σ H xs us Q I r h
 obtain⟨i,rfl,q⟩:=h
 obtain⟨u,rfl,t,rfl⟩:=vals1 r
 exact call_abs_int fun u tk=>⟨.int (if i<0 then -i else i),H,I.tok _,⟨_,rfl⟩,q⟩
theorem zmW(hc:X.calm=true):zc3 X (.builtin "max") (fun xs H Q=>∃ i j,xs=[.int i,.int j]/\Q (.int (if j > i then j else i)) H):=by
 intro pins s σ H xs us Q I r h
 obtain⟨i,j,rfl,q⟩:=h
 obtain⟨u,w',rfl,⟨t,rfl⟩,⟨t',rfl⟩⟩:=vals2 r
 refine max_two_ints (I.ok.hd hc) fun h' tk k=>⟨_,H,I.kept k,?_,q⟩
 by_cases hj:j > i
 ·rw [if_pos hj,if_pos hj];exact⟨_,rfl⟩
 ·rw [if_neg hj,if_neg hj];exact⟨_,rfl⟩
theorem zmV(hc:X.calm=true):zc3 X (.builtin "min") (fun xs H Q=>∃ i j,xs=[.int i,.int j]/\Q (.int (if j<i then j else i)) H):=by
 intro pins s σ H xs us Q I r h
 obtain⟨i,j,rfl,q⟩:=h
 obtain⟨u,w',rfl,⟨t,rfl⟩,⟨t',rfl⟩⟩:=vals2 r
 refine min_two_ints (I.ok.hd hc) fun h' tk k=>⟨_,H,I.kept k,?_,q⟩
 by_cases hj:j<i
 ·rw [if_pos hj,if_pos hj];exact⟨_,rfl⟩
 ·rw [if_neg hj,if_neg hj];exact⟨_,rfl⟩
end
end
section
structure zrr(h:Heap)(x dx C:Addr)(mA:Str->Option Value):Prop where
 obj:h.get? x=some (PySem.W.instObj C dx)
 ns:h.Ns1 dx mA
 ne:dx≠x
theorem zmo{h:Heap}{dx:Addr}{mA:Str->Option Value}(n:h.Ns1 dx mA):∃ od,h.get? dx=some od/\∀ name,PySem.W.lookIn name od=some (mA name):=by
 obtain⟨o,es,ep,ho,hd,hk,_,hm⟩:=n
 refine⟨o,ho,fun name=>?_⟩
 have e:=hm name
 unfold nsFind findBy at e
 rw [<- Array.find?_toList] at e
 unfold PySem.W.lookIn
 rw [hd]
 dsimp only
 split
 ·rename_i y q
  rw [q] at e
  exact congrArg some e
 ·rename_i q
  rw [q] at e
  have a:es.toList.any (·.refKey)=false:=by
   rw [List.any_eq_false]
   intro y hy
   obtain⟨z,t,hkey⟩:=hk y (Array.mem_toList_iff.mp hy)
   simp [DictEntry.refKey,hkey]
  have a':¬ es.toList.any (·.refKey)=true:=by rw [a];exact Bool.false_ne_true
  rw [if_neg a']
  exact congrArg some e
theorem zrr.look{h:Heap}{x dx C:Addr}{mA:Str->Option Value}(I:zrr h x dx C mA):∃ od,PySem.W.InstAt h x (PySem.W.instObj C dx) C (some od)/\∀ name,PySem.W.lookIn name od=some (mA name) :=
 let⟨od,ho,hl⟩:=zmo I.ns
 ⟨od,⟨I.obj,rfl,rfl,ho⟩,hl⟩
section
variable {prog:Program}{w:World}{A:Around}{E:Value->Shared->Prop}{s:Shared}{K:PySem.W.Frag}{x dx C f:Addr}{mA:Str->Option Value}{name:Str}{v:Value}
theorem get_map{expr:Bool}{Q:Value->Shared->Prop}(X:K.In s.heap)(I:zrr s.heap x dx C mA)(hg:PySem.W.plainGet K C name=true)(hh:PySem.W.hasDictIn K C=true)
  (ha:PySem.W.findIn K (.ref C) name=some none)(hv:mA name=some v)(hv':PySem.W.handedIn v=true)(h:Q v { s with toks:=s.toks+1 }) :
  wpAny (model prog w) A (getAttr (.ref x) name expr) Q E s:=by
 obtain⟨od,J,hl⟩:=I.look
 exact PySem.W.get_value X J (PySem.W.plainGet_of hg).1 (PySem.W.findObj_own hh ha rfl (by rw [hl,hv])) hv' h
theorem zot{pl:Sem Bool}{Q:Value×List Value->Shared->Prop}(X:K.In s.heap)(I:zrr s.heap x dx C mA)(hg:PySem.W.plainGet K C name=true)
  (hf:PySem.W.findIn K (.ref C) name=some (some (.ref f)))(ht:PySem.W.isFn K (.ref f)=true)(hv:mA name=none)(h:Q (.ref f,[.ref x]) s) :
  wpAny (model prog w) A (getMethod (.ref x) name pl) Q E s:=by
 obtain⟨od,J,hl⟩:=I.look
 exact PySem.W.method_fn X J (PySem.W.plainGet_of hg).1 (PySem.W.plainGet_of hg).2 hf (beq_iff_eq.mp ht) (by show(PySem.W.lookIn name od).map (·.isSome)=some false;rw [hl,hv];rfl) h
theorem zpU{ns:List Str}{Q:Unit->Shared->Prop}(X:K.In s.heap)(I:zrr s.heap x dx C mA)
  (hs:PySem.W.findIn K (.ref C) "__setattr__"=some (some (.builtin "object.__setattr__"))) (hp:PySem.W.plainOver K C=true) (ht:PySem.W.takerIn K C name=some none) (hh:PySem.W.hasDictIn K C=true)
  (hw:PySem.Within mA ns) (hsz:ns.length<=sizeLine)
  (h:∀ h',zrr h' x dx C (fun y=>if y=name then some v else mA y)->Heap.SameBut dx s.heap h'->Q () { s with heap:=h',toks:=s.toks+2 }) :
  wpAny (model prog w) A (setAttr (.ref x) name v) Q E s:=by
 obtain⟨od,J,hl⟩:=I.look
 refine PySem.W.set_plain X J hs (PySem.W.osa_open (s:={ s with toks:=s.toks+1 }) (r:=none) X J hp ht fun b=>?_)
 obtain⟨cd,hc,hd'⟩:=PySem.W.any_some hh
 have hx:s.heap.get? x=some ⟨.ref C,some dx,.plain,#[]⟩:=I.obj
 refine wpAny_bind (wpAny_pure (wpAny_bind (wpAny_bind (wpAny_loadPart hx (wpAny_bind (PySem.W.Looks.here (s:={ s with toks:=s.toks+1 }) (PySem.W.looks_clsIn X hc) ?_))))))
 rw [hd']
 refine wpAny_pure (a:=some dx) (wpAny_bind (wpAny_pure (wpAny_bind ?_)))
 refine wpAny_nsSet1 (s:={ s with toks:=s.toks+1 }) I.ns fun h' hn2 hs2=>?_
 obtain⟨oD,esD,epD,hoD,hdD,hcD⟩:=hn2.count (PySem.Within.cons name v hw)
 refine wpAny_bind (wpAny_lookBehind hoD (by rw [hdD];exact pastItsLine_dict (Nat.le_trans hcD (by rw [List.length_cons];omega))) ?_)
 exact wpAny_pure (h _ ⟨(hs2.2 _ (Ne.symm I.ne)).trans I.obj,hn2,I.ne⟩ hs2)
theorem zoe{R:Result->Shared->Prop}{vs:List Value}{kw:List (Str×Value)}(X:K.In s.heap)(hm:PySem.W.makesIn K C=true)
  (hi:PySem.W.findIn K (.ref C) "__init__"=some (some (.ref f))) (hf:PySem.W.typeIn K (.ref f)=some (.type "function"))
  (h:codeAny (model prog w) (A.under (.builtin "type.__call__" ⟨.ref C::vs,kw⟩)) (.call (.ref f) ⟨.ref (s.heap.objs.size+1)::vs,kw⟩) (PySem.W.InitBack (s.heap.objs.size+1) R)
   { s with heap:=(s.heap.push PySem.W.emptyDict).push (PySem.W.instObj C s.heap.objs.size) }) :
  codeAny (model prog w) A (.call (.ref C) ⟨vs,kw⟩) R s:=by
 obtain⟨hh,g,d,t,os⟩:=s
 exact PySem.W.make_core (PySem.W.makes_of X hm) (PySem.W.looks_findIn X hi) (fun self=>PySem.W.bind_fn X self hf) (.inl rfl) h
end
def zhN(f:Str)(v:V):List (Str×V)->List (Str×V)
 | []=>[(f,v)]
 | (g,x)::r=>if g=f then(g,v)::r else(g,x)::zhN f v r
theorem zfI(f g:Str)(v:V):∀ fs:List (Str×V),(zhN f v fs).lookup g=if g=f then some v else fs.lookup g
 | []=>by
  show List.lookup g [(f,v)]=_
  by_cases h:g=f
  ·have hb:(g==f)=true:=beq_iff_eq.mpr h
   simp only [List.lookup,hb,if_pos h]
  ·have hb:(g==f)=false:=beq_eq_false_iff_ne.mpr h
   simp only [List.lookup,hb,if_neg h]
 | (k,x)::r=>by
  have ih:=zfI f g v r
  rw [show zhN f v ((k,x)::r)=(if k=f then(k,v)::r else(k,x)::zhN f v r) from rfl]
  by_cases hk:k=f
  ·rw [if_pos hk]
   by_cases h:g=k
   ·have hb:(g==k)=true:=beq_iff_eq.mpr h
    simp only [List.lookup,hb,if_pos (h.trans hk)]
   ·have hb:(g==k)=false:=beq_eq_false_iff_ne.mpr h
    simp only [List.lookup,hb,if_neg (fun e:g=f=>h (e.trans hk.symm))]
  ·rw [if_neg hk]
   by_cases h:g=k
   ·have hb:(g==k)=true:=beq_iff_eq.mpr h
    simp only [List.lookup,hb,if_neg (fun e:g=f=>hk (h.symm.trans e))]
   ·have hb:(g==k)=false:=beq_eq_false_iff_ne.mpr h
    simp only [List.lookup,hb]
    exact ih
theorem zfN(f:Str)(v:V):∀ fs:List (Str×V),f∈(zhN f v fs).map (·.1)/\∀ g,g∈fs.map (·.1)->g∈(zhN f v fs).map (·.1)
 | []=>⟨by simp [zhN],fun g h=>by simp at h⟩
 | (k,x)::r=>by
  obtain⟨i1,i2⟩:=zfN f v r
  rw [show zhN f v ((k,x)::r)=(if k=f then(k,v)::r else(k,x)::zhN f v r) from rfl]
  by_cases hk:k=f
  ·rw [if_pos hk]
   subst hk
   exact⟨by simp,fun g h=>by simpa using h⟩
  ·rw [if_neg hk]
   refine⟨?_,fun g h=>?_⟩
   ·rw [List.map_cons]
    exact List.mem_cons_of_mem _ i1
   ·rw [List.map_cons] at h ⊢
    rcases List.mem_cons.mp h with e|e
    ·exact List.mem_cons.mpr (.inl e)
    ·exact List.mem_cons_of_mem _ (i2 g e)
theorem zfK(f:Str)(v:V):∀ fs:List (Str×V),(zhN f v fs).length<=fs.length+1
 | []=>by simp [zhN]
 | (k,x)::r=>by
  have ih:=zfK f v r
  rw [show zhN f v ((k,x)::r)=(if k=f then(k,v)::r else(k,x)::zhN f v r) from rfl]
  by_cases hk:k=f
  ·rw [if_pos hk,List.length_cons,List.length_cons];omega
  ·rw [if_neg hk,List.length_cons,List.length_cons];omega
theorem ziP.some_of{v:V}{o:Option Value}(r:ziP (some v) o):∃ u,o=some u/\RelV v u:=by
 cases o with
 | none=>exact(show False from r).elim
 | some u=>exact⟨u,rfl,r⟩
theorem ziP.none_of{o:Option Value}(r:ziP none o):o=none:=by
 cases o with
 | none=>rfl
 | some u=>exact(show False from r).elim
theorem zmF{v:V}{u:Value}(r:RelV v u):PySem.W.handedIn u=true:=by
 cases v with
 | non=>cases (show u=Value.none from r);rfl
 | bl b=>cases (show u=Value.bool b from r);rfl
 | int i=>obtain⟨t,e⟩:=(show ∃ t,u=Value.int i t from r);cases e;rfl
 | str x=>obtain⟨t,e⟩:=(show ∃ t,u=Value.str x t from r);cases e;rfl
 | byt b=>obtain⟨t,e⟩:=(show ∃ t,u=Value.bytes b t from r);cases e;rfl
 | flt b=>obtain⟨t,e⟩:=(show ∃ t,u=Value.float b t from r);cases e;rfl
 | ref a=>cases (show u=Value.ref a from r);rfl
 | ty n=>cases (show u=Value.type n from r);rfl
section
variable {P:Program}{w:World}{H H':Hp}{h h':Heap}{a C dx:Addr}{fs fs':List (Str×V)}
theorem zji(hok:HOk P w H h)(e:H a=some (.ins C dx fs)):∃ mA,zrr h a dx C mA/\(∀ f,ziP (fs.lookup f) (mA f))/\PySem.Within mA (fs.map (·.1))/\fs.length<=1000/\H dx=some (.own a):=by
 obtain⟨d,z,ne,ob,mA,n,r,q⟩:=(show zbR P w H h a (.ins C dx fs) from hok a _ e)
 exact⟨mA,⟨ob,n,ne⟩,r,q,z,d⟩
end
structure Cls(K:PySem.W.Frag)(C:Addr):Prop where
 pg:PySem.W.plainGet K C Str.empty=true
 hd:PySem.W.hasDictIn K C=true
 po:PySem.W.plainOver K C=true
 sa:PySem.W.findIn K (.ref C) "__setattr__"=some (some (.builtin "object.__setattr__"))
theorem Cls.get{K:PySem.W.Frag}{C:Addr}(c:Cls K C)(f:Str):PySem.W.plainGet K C f=true:=c.pg
def zcL(K:PySem.W.Frag)(C:Addr)(f:Str):Prop:=PySem.W.findIn K (.ref C) f=some none
theorem zcL.taker{K:PySem.W.Frag}{C:Addr}{f:Str}(n:zcL K C f):PySem.W.takerIn K C f=some none:=by
 unfold PySem.W.takerIn
 rw [show PySem.W.findIn K (.ref C) f=some none from n]
 rfl
structure Meth(K:PySem.W.Frag)(C:Addr)(m:Str)(f:Addr):Prop where
 at_:PySem.W.findIn K (.ref C) m=some (some (.ref f))
 fn:PySem.W.isFn K (.ref f)=true
 kp:PySem.W.keepIn K (.ref f)=true
section
variable {X:Cx}{pins:List (Addr×Obj)}{σ:St}{H:Hp}{s:Shared}{a C dx:Addr}{fs:List (Str×V)}{f:Str}{v:V}{A:Around}{E:Value->Shared->Prop}
theorem zk2{b:Bool}{Q:Value->Shared->Prop}(I:Inv X pins σ H s)(e:H a=some (.ins C dx fs))(c:Cls X.K C)(n:zcL X.K C f)(l:fs.lookup f=some v)
  (h:∀ u s',Inv X pins σ H s'->RelV v u->Q u s'):wpAny (model X.prog X.w) A (getAttr (.ref a) f b) Q E s:=by
 obtain⟨mA,O,r,_,_,_⟩:=zji I.hok e
 obtain⟨u,hu,ru⟩:=ziP.some_of (v:=v) (o:=mA f) (by rw [<- l];exact r f)
 exact get_map I.kIn O (c.get f) c.hd n hu (zmF ru) (h u _ (I.tok _) ru)
theorem zk1{m:Str}{g:Addr}{pl:Sem Bool}{Q:Value×List Value->Shared->Prop}(I:Inv X pins σ H s)(e:H a=some (.ins C dx fs))(c:Cls X.K C)(k:Meth X.K C m g)(l:fs.lookup m=none)
  (h:Q (.ref g,[.ref a]) s):wpAny (model X.prog X.w) A (getMethod (.ref a) m pl) Q E s:=by
 obtain⟨mA,O,r,_,_,_⟩:=zji I.hok e
 have hn:mA m=none:=ziP.none_of (by rw [<- l];exact r m)
 exact zot I.kIn O (c.get m) k.at_ k.fn hn h
theorem zkE{y:V}{u:Value}{Q:Unit->Shared->Prop}(I:Inv X pins σ H s)(e:H a=some (.ins C dx fs))(c:Cls X.K C)(n:zcL X.K C f)(hl:fs.length<1000)(ry:RelV y u)
  (h:∀ s',Inv X pins σ (upd H a (.ins C dx (zhN f y fs))) s'->Q () s'):wpAny (model X.prog X.w) A (setAttr (.ref a) f u) Q E s:=by
 obtain⟨mA,O,r,wi,_,ho⟩:=zji I.hok e
 have hz:(fs.map (·.1)).length<=sizeLine:=by rw [List.length_map,sizeLine_eq];omega
 refine zpU I.kIn O c.sa c.po n.taker c.hd wi hz fun h' O' sb=>h _ ?_
 have hd:∃ o,h'.get? dx=some o:=let⟨o,_,_,e',_⟩:=O'.ns;⟨o,e'⟩
 refine I.write (x:=a) (e:=dx) (by rw [e];exact True.intro) (.inr ho) (fun b q hb z=>(sb.2 b hb).trans z) hd ?_
 refine⟨by rw [zao O.ne];exact ho,?_,O.ne,O'.obj,_,O'.ns,fun g=>?_,fun g hg=>?_⟩
 ·have:=zfK f y fs;omega
 ·show ziP ((zhN f y fs).lookup g) (if g=f then some u else mA g)
  rw [zfI]
  by_cases q:g=f
  ·rw [if_pos q,if_pos q];exact ry
  ·rw [if_neg q,if_neg q];exact r g
 ·by_cases q:g=f
  ·rw [q];exact(zfN f y fs).1
  ·refine(zfN f y fs).2 g (wi g fun z=>hg ?_)
   show(if g=f then some u else mA g)=none
   rw [if_neg q];exact z
theorem Inv.made(I:Inv X pins σ H s):Inv X pins σ (upd (upd H s.heap.objs.size (.own (s.heap.objs.size+1))) (s.heap.objs.size+1) (.ins C s.heap.objs.size []))
  { s with heap:=(s.heap.push PySem.W.emptyDict).push (PySem.W.instObj C s.heap.objs.size) }:=by
 have e1:(s.heap.push PySem.W.emptyDict).get? s.heap.objs.size=some PySem.W.emptyDict:=Heap.get?_push_size s.heap rfl
 have e2:((s.heap.push PySem.W.emptyDict).push (PySem.W.instObj C s.heap.objs.size)).get? (s.heap.objs.size+1)=some (PySem.W.instObj C s.heap.objs.size):=by
  have:=Heap.get?_push_size (s.heap.push PySem.W.emptyDict) (o:=PySem.W.instObj C s.heap.objs.size) rfl
  rwa [Heap.size_push] at this
 have e3:(s.heap.push PySem.W.emptyDict).Ns s.heap.objs.size (fun _=>none):=⟨PySem.W.emptyDict,#[],_,e1,rfl,(fun e he=>absurd he (by simp)),fun _=>rfl⟩
 have I1:=I.laid (a:=s.heap.objs.size) (o:=.own (s.heap.objs.size+1)) (h':=s.heap.push PySem.W.emptyDict) (t':=s.toks) (fun b u q=>Heap.get?_push_of_some _ q) (Nat.le_refl _) ⟨_,e1⟩
 refine I1.laid (a:=s.heap.objs.size+1) (o:=.ins C s.heap.objs.size []) (t':=s.toks) (fun b u q=>Heap.get?_push_of_some _ q) (Nat.le_of_eq (Heap.size_push _ _)) ?_
 have ne:s.heap.objs.size≠s.heap.objs.size+1:=Nat.ne_of_lt (Nat.lt_succ_self _)
 refine⟨by rw [zao ne,zal],Nat.zero_le _,ne,e2,fun _=>none,(Heap.Ns1.of_empty e3).at fun o q=>Heap.get?_push_of_some _ q,fun _=>True.intro,fun y hy=>absurd rfl hy⟩
theorem zrp{prog:Program}{w:World}{env:Env}{e:Expr}{f:Str}{pos:Pos}{s:Shared}{Q:Value->Shared->Prop}(hb:attributeBase e f env (eval e env)=eval e env)
  (h:wpAny (model prog w) A (eval e env) (fun o s₁=>wpAny (model prog w) A (getAttr o f true) Q E s₁) E s):wpAny (model prog w) A (eval (.Attribute e f pos) env) Q E s :=
 Attribute_any_ h (by rw [arm_eval_Attribute,hb])
end
def zvz(K:PySem.W.Frag)(ta:TE)(f:Str):TE:=fun σ H Q=>ta σ H fun x H1=>∃ a C dx fs v,x=.ref a/\H1 a=some (.ins C dx fs)/\Cls K C/\zcL K C f/\fs.lookup f=some v/\Q v H1
def zvD(K:PySem.W.Frag)(ta tv:TE)(f:Str):TS:=fun D σ H=>tv σ H fun y H1=>ta σ H1 fun x H2=>∃ a C dx fs,x=.ref a/\H2 a=some (.ins C dx fs)/\Cls K C/\zcL K C f/\fs.length<1000 /\
 D.nx σ (upd H2 a (.ins C dx (zhN f y fs)))
section
variable {X:Cx}{o e value:Expr}{f:Str}{pos pos' tpos:Pos}{ta tv:TE}
theorem zss(he:PE X e ta)(hb:attributeBase e f X.env (eval e X.env)=eval e X.env):PE X (.Attribute e f pos) (zvz X.K ta f):=by
 intro pins s σ H Q I h
 refine zrp hb (thn (he pins s σ H _ I h) fun u s1 ⟨x,H1,I1,rx,a,C,dx,fs,v,ex,ea,c,n,l,q⟩=>?_)
 subst ex
 obtain rfl:u=Value.ref a:=rx
 exact zk2 I1 ea c n l fun u' s2 I2 ru=>⟨v,H1,I2,ru,q⟩
theorem zsf(ha:PE X o ta)(hv:PE X value tv)(hs:swapsWith value (some (.Attribute o f pos')) pos.line X.env=pure false):PS X (.Assign [.Attribute o f pos'] value pos) (zvD X.K ta tv f):=by
 intro pins s σ H D I h
 refine plainObj_wpAny_Assign_Attribute (thn (hv pins s σ H _ I h) fun u s1 ⟨y,H1,I1,ry,q⟩=>thn (ha pins s1 σ H1 _ I1 q) fun ov s2 ⟨x,H2,I2,rx,a,C,dx,fs,ex,ea,c,n,l,q2⟩=>?_) hs
 subst ex
 obtain rfl:ov=Value.ref a:=rx
 exact zkE I2 ea c n l ry fun s3 I3=>⟨σ,_,I3,q2⟩
end
end
section
structure zbU(k:Nat)(A:Around):Prop where
 hd:A.handled=none
 dp:A.depth+3*k+110<recursionLimit
 un:A.units+16*k+200<cLine
 gd:A.guards=some []
theorem zbU.mono{j k:Nat}{A:Around}(r:zbU k A)(h:j<=k):zbU j A:=⟨r.hd,by have:=r.dp;omega,by have:=r.un;omega,r.gd⟩
theorem zbU.deeper{k:Nat}{A:Around}(r:zbU (k+1) A)(env:Env):zbU k (A.deeper env) :=
 ⟨r.hd,by have:=r.dp;show A.depth+1+3*k+110<_;omega,by have:=r.un;show A.units+3+16*k+200<_;omega,r.gd⟩
theorem zkS{A:Around}{C:Addr}{us:List Value}{kw:List (Str×Value)}:(A.under (.builtin "type.__call__" ⟨.ref C::us,kw⟩)).depth=A.depth+1:=by
 first|rfl|simp [Around.under,Code.weight,Code.isCreation,Code.isGuard,Code.isCaller,Code.frames,Code.isFrame,guardIds]
theorem zkR{A:Around}{C:Addr}{us:List Value}{kw:List (Str×Value)}:(A.under (.builtin "type.__call__" ⟨.ref C::us,kw⟩)).units=A.units+1:=by
 first|rfl|simp [Around.under,Code.cUnits,Code.frames,Code.isFrame]
theorem zjb{A:Around}{C:Addr}{us:List Value}{kw:List (Str×Value)}:(A.under (.builtin "type.__call__" ⟨.ref C::us,kw⟩)).guards=A.guards:=by
 first|rfl|simp [Around.under,Code.guards,Code.isGuard,guardIds,pushGuards]
theorem zbU.make{k:Nat}{A:Around}(r:zbU (k+1) A)(C:Addr)(us:List Value)(kw:List (Str×Value)):zbU k (A.under (.builtin "type.__call__" ⟨.ref C::us,kw⟩)) :=
 ⟨r.hd,by have:=r.dp;rw [zkS];omega,by have:=r.un;rw [zkR];omega,by rw [zjb];exact r.gd⟩
theorem zbU.depth{k:Nat}{A:Around}(r:zbU k A):A.depth<recursionLimit:=by have:=r.dp;omega
theorem zbU.units{k:Nat}{A:Around}(r:zbU k A):A.units+64<cLine:=by have:=r.un;omega
def zvv:TA:=fun _ H Q=>Q [] H
def ztR(ta:TE)(tr:TA):TA:=fun σ H Q=>ta σ H fun x H1=>tr σ H1 fun xs H2=>Q (x::xs) H2
section
variable {X:Cx}{e:Expr}{es:List Expr}{te:TE}{t:TA}{pos:Pos}
theorem zdB:PA X [] zvv:=fun _ _ _ _ H Q I h=>Calls.spliced_nil ⟨[],H,I,.nil,h⟩
theorem zbc(ha:PE X e te)(hr:PA X es t)(hs:starEach (e::es) X.env=(false,eval e X.env)::starEach es X.env:=by rfl):PA X (e::es) (ztR te t):=by
 intro pos pins s σ H Q I h
 rw [hs]
 show wpAny _ _ (spliced ((false,eval e X.env)::backTo pos (starEach es X.env))) _ _ s
 refine Calls.spliced_cons (thn (ha pins s σ H _ I h) fun u s1 ⟨x,H1,I1,r1,q1⟩=>?_)
 exact thn (hr pos pins s1 σ H1 _ I1 q1) fun us s2 ⟨xs,H2,I2,r2,q2⟩=>⟨x::xs,H2,I2,.cons r1 r2,q2⟩
def zvr(t:TA):TE:=fun σ H Q=>t σ H fun xs H1=>xs.length<=sizeLine/\∀ p,H1 p=none->Q (.ref p) (upd H1 p (.tup xs))
def zvw(t:TA):TE:=fun σ H Q=>t σ H fun xs H1=>xs.length<=sizeLine/\∀ p,H1 p=none->Q (.ref p) (upd H1 p (.lst xs))
theorem zo7{x1}(h:PA X es t):PE X (.Tuple es x1 pos) (zvr t):=by
 intro pins s σ H Q I hq
 refine wpAny_Tuple_spliced (thn (h pos pins s σ H _ I hq) fun us s1 ⟨xs,H1,I1,r,z,q⟩=>⟨by rw [<- r.length];exact z,?_⟩)
 have hf:H1 s1.heap.objs.size=none:=I1.hok.fresh (Nat.le_refl _)
 refine⟨.ref s1.heap.objs.size,upd H1 s1.heap.objs.size (.tup xs),I1.laid (t':=s1.toks) (fun b u e=>Heap.get?_push_of_some _ e) (Nat.le_refl _) ?_,rfl,q _ hf⟩
 exact⟨z,us,r,⟨_,Heap.get?_push_size _ rfl,rfl,_,rfl⟩⟩
theorem zo8(h:PA X es t):PE X (.List es pos) (zvw t):=by
 intro pins s σ H Q I hq
 refine wpAny_List_spliced (thn (h pos pins s σ H _ I hq) fun us s1 ⟨xs,H1,I1,r,z,q⟩=>⟨by rw [<- r.length];exact z,?_⟩)
 have hf:H1 s1.heap.objs.size=none:=I1.hok.fresh (Nat.le_refl _)
 refine⟨.ref s1.heap.objs.size,upd H1 s1.heap.objs.size (.lst xs),I1.laid (t':=s1.toks) (fun b u e=>Heap.get?_push_of_some _ e) (Nat.le_refl _) ?_,rfl,q _ hf⟩
 exact⟨z,us,0,r,Heap.get?_push_size _ rfl⟩
end
abbrev Sp:=List V->Hp->VK->XK->Prop
abbrev CXT:=List Env->Hp->Shared->XK->Value->Shared->Prop
structure zrw(P:Program)(w:World)(K:PySem.W.Frag)(mg:Str->Option Value)(base:Heap)(A:Around)(outer:List Env)(s:Shared)(H:Hp):Prop where
 frames:A.frames=some outer
 mod:Mod K mg base
 bs:∀ b o,base.get? b=some o->s.heap.get? b=some o/\H b=none
 bsz:base.objs.size<=s.heap.objs.size
 zkl:s.heap.FunFrames base outer
 frf:∀ b∈frs outer,H b=none
 hok:HOk P w H s.heap
 bare:AllBare s.gens
 tree:P.given.tree=none
theorem Inv.pyl{X:Cx}{pins:List (Addr×Obj)}{σ:List (Option V)}{H:Hp}{s:Shared}(I:Inv X pins σ H s)(hd:X.A.depth+100<recursionLimit):PySem.PylongRoom (model X.prog X.w) X.A s:=by
 obtain⟨env,r,e,h1,h2,h3,h4⟩:=I.ok.sk
 exact PySem.PylongRoom.of I.nolimit hd (PySem.SeerAt.of (I.ok.mod.seer.keeps I.bk) I.ok.tree (I.ok.frames.trans (congrArg some e)) h1 h2 h3 h4)
def CE(outer:List Env)(P:Program)(w:World)(H:Hp)(s:Shared)(Q:VK)(u:Value)(s':Shared):Prop :=
 ∃ v H',s'.os=s.os/\AllBare s'.gens/\Un (frs outer) [] H H' s.heap s'.heap/\HOk P w H' s'.heap/\RelV v u/\Q v H'
def CR(CX:CXT)(outer:List Env)(P:Program)(w:World)(H:Hp)(s:Shared)(Q:VK)(E:XK)(r:Result)(s':Shared):Prop :=
 match r with
 | .ok (.ret u)=>CE outer P w H s Q u s'
 | .ok _=>False
 | .error e=>CX outer H s E e s'
structure zes(P:Program)(w:World)(K:PySem.W.Frag)(mg:Str->Option Value)(base:Heap)(CX:CXT)(k:Nat)(f:Addr)(fd:FuncData)(ps:List Str)(sp:Sp):Prop where
 len:∀ vs H Q E,sp vs H Q E->vs.length=ps.length
 run:∀(A:Around) (outer:List Env) (s:Shared) (H:Hp) (args:Args) (us:List Value) (vs:List V) (Q:VK) (E:XK),zbU k A->zrw P w K mg base A outer s H->BindsTo s fd args (ps.zip us)->Vals vs us->sp vs H Q E ->
  codeAny (model P w) A (.call (.ref f) args) (CR CX outer P w H s Q E) s
theorem zes.imp{P:Program}{w:World}{K:PySem.W.Frag}{mg:Str->Option Value}{base:Heap}{CX:CXT}{k:Nat}{f:Addr}{fd:FuncData}{ps:List Str}{sp sp':Sp}(F:zes P w K mg base CX k f fd ps sp)
  (h:∀ vs H Q E,sp' vs H Q E->sp vs H Q E):zes P w K mg base CX k f fd ps sp' :=
 ⟨fun vs H Q E q=>F.len vs H Q E (h _ _ _ _ q),fun A outer s H args us vs Q E hr he hb hv hs=>F.run A outer s H args us vs Q E hr he hb hv (h _ _ _ _ hs)⟩
theorem zrw.make{P:Program}{w:World}{K:PySem.W.Frag}{mg:Str->Option Value}{base:Heap}{A:Around}{outer:List Env}{s:Shared}{H:Hp}(e:zrw P w K mg base A outer s H)(C:Addr)(us:List Value)(kw:List (Str×Value)) :
  zrw P w K mg base (A.under (.builtin "type.__call__" ⟨.ref C::us,kw⟩)) outer s H:=⟨by first|exact e.frames|(simpa [Around.under,Code.envs,Code.isFrame,pushEnvs] using e.frames),e.mod,e.bs,e.bsz,e.zkl,e.frf,e.hok,e.bare,e.tree⟩
section
variable {X:Cx}{pins:List (Addr×Obj)}{σ:St}{H:Hp}{s s':Shared}
theorem Inv.env0(I:Inv X pins σ H s):zrw X.prog X.w X.K X.mg X.base X.A X.stack s H :=
 ⟨I.ok.frames,I.ok.mod,I.bs,Nat.le_trans I.ok.bsz I.sz,I.stack,I.zlr,I.hok,I.bare,I.ok.tree⟩
theorem Inv.after{Q:VK}{u:Value}(I:Inv X pins σ H s)(h:CE X.stack X.prog X.w H s Q u s'):EP X pins σ Q u s':=by
 obtain⟨v,H',os,bare,un,hok,r,q⟩:=h
 obtain⟨hh,g,d,t,os'⟩:=s'
 obtain rfl:os'=s.os:=os
 exact⟨v,H',I.call (h':=hh) (g':=g) (d':=d) (t':=t) (ch:=[]) un hok bare (fun b z=>absurd z (by simp)),r,q⟩
end
def zpQ(sp:Sp)(dvs:List V)(E:XK)(t:TA):TE:=fun σ H Q=>t σ H fun vs H1=>sp (vs++dvs) H1 Q E
def ztO(C:Addr)(m:Str)(sp:Sp)(dvs:List V)(E:XK)(ta:TE)(t:TA):TE:=fun σ H Q=>ta σ H fun x H1=>∃ a dx fs,x=.ref a/\H1 a=some (.ins C dx fs)/\fs.lookup m=none /\
 t σ H1 fun vs H2=>sp (x::(vs++dvs)) H2 Q E
def ztP(C:Addr)(sp:Sp)(dvs:List V)(E:XK)(t:TA):TE:=fun σ H Q=>t σ H fun vs H1=>∀ x dx,H1 x=none->H1 dx=none->dx≠x ->
 sp (.ref x::(vs++dvs)) (upd (upd H1 dx (.own x)) x (.ins C dx [])) (fun v H2=>v=.non/\Q (.ref x) H2) E
def Binds(K:PySem.W.Frag)(fd:FuncData)(ps:List Str)(ds:List Value):Prop :=
 ∀(s:Shared) (us:List Value),K.In s.heap->(us++ds).length=ps.length->BindsTo s fd ⟨us,[]⟩ (ps.zip (us++ds))
theorem Binds.all{K:PySem.W.Frag}{fd:FuncData}{ps:List Str}(h:∀ us:List Value,us.length=ps.length->bindArgs fd ⟨us,[]⟩=pure (ps.zip us)):Binds K fd ps []:=fun s us _ hl=>by
 rw [List.append_nil] at hl ⊢
 exact .of_eq (h us hl)
def Passes(CX:CXT)(X:Cx)(E:XK):Prop:=∀(pins:List (Addr×Obj)) (σ:St) (H:Hp) (s:Shared) (e:Value) (s':Shared),Inv X pins σ H s->CX X.stack H s E e s'->X.xe e s'
section
variable {X:Cx}{CX:CXT}{k:Nat}{f C:Addr}{fd:FuncData}{ps:List Str}{sp:Sp}{dvs:List V}{ds:List Value}{E:XK}{x m:Str}{p pos apos:Pos}{e o:Expr}{es:List Expr}{ta:TE}{t:TA}
theorem zoZ{pins:List (Addr×Obj)}{σ:St}{H:Hp}{s:Shared}{Q:VK}{us:List Value}{vs:List V}(F:zes X.prog X.w X.K X.mg X.base CX k f fd ps sp)(hr:zbU k X.A)(hb:Binds X.K fd ps ds)(hd:Vals dvs ds)(hx:Passes CX X E)
  (I:Inv X pins σ H s)(r:Vals vs us)(h:sp (vs++dvs) H Q E):wpAny (model X.prog X.w) X.A (call (.ref f) us) (EP X pins σ Q) X.xe s:=by
 have r2:Vals (vs++dvs) (us++ds):=r.append hd
 have hl:(us++ds).length=ps.length:=by rw [<- r2.length];exact F.len _ _ _ _ h
 refine wpAny_call (codeAny_mono (F.run X.A X.stack s H ⟨us,[]⟩ (us++ds) (vs++dvs) Q E hr I.env0 (hb s us I.kIn hl) r2 h) fun r s' hq=>?_)
 cases r with
 | error e=>exact hx pins σ H s e s' I hq
 | ok fl =>
  cases fl with
  | ret u=>exact I.after hq
  | next=>exact False.elim hq
  | brk=>exact False.elim hq
  | cont=>exact False.elim hq
theorem zqD(F:zes X.prog X.w X.K X.mg X.base CX k f fd ps sp)(hr:zbU k X.A)(hg:Gl X x)(hm:X.mg x=some (.ref f))(hk:PySem.W.keepIn X.K (.ref f)=true)(hb:Binds X.K fd ps ds)(hd:Vals dvs ds)(hx:Passes CX X E)
  (ha:PA X (e::es) t)(hdb:(x==("__debug__":Str))=false:=by decide) (he:starEach (e::es) X.env=(false,eval e X.env)::starEach es X.env:=by rfl) (hpl:(backTo pos (starEach es X.env)).any (·.1)=false:=by rfl) :
  PE X (.Call (.Name x p) (e::es) [] pos) (zpQ sp dvs E t):=by
 intro pins s σ H Q I h
 refine wpAny_Call_Name_kw (zje I hg hm ?_ hdb)
 refine PySem.W.callWith_K (h₀:=X.base) I.ok.mod.kin hk (thn (ha pos pins s σ H _ I h) fun us s1 ⟨vs,H1,I1,r,q⟩=>⟨I1.kIn,?_⟩) he hpl
 exact zoZ F hr hb hd hx I1 r q
theorem zqA{pl:Sem Bool}(he:PE X o ta)(c:Cls X.K C)(hm:Meth X.K C m f)(F:zes X.prog X.w X.K X.mg X.base CX k f fd ps sp)(hr:zbU k X.A)(hb:Binds X.K fd ps ds)(hd:Vals dvs ds)(hx:Passes CX X E)(ha:PA X (e::es) t)
  (hst:starEach (e::es) X.env=(false,eval e X.env)::starEach es X.env:=by rfl)(hpl:(backTo pos (starEach es X.env)).any (·.1)=false:=by rfl)
  (ht:eval (.Call (.Attribute o m apos) (e::es) [] pos) X.env=(do
   let ov <- eval o X.env
   standAt apos.atName
   let(f,first) <- holding [ov] (getMethod ov m pl)
   callWith pos f first (backTo pos (starEach (e::es) X.env)) (backToKw pos (keywordEach [] X.env))):=by rfl) :
  PE X (.Call (.Attribute o m apos) (e::es) [] pos) (ztO C m sp dvs E ta t):=by
 intro pins s σ H Q I h
 refine PySem.W.methodCall_KW (pl:=pl) (thn (he pins s σ H _ I h) fun u s1 ⟨x,H1,I1,rx,a,dx,fs,ex,ea,l,q⟩=>?_) ht
 subst ex
 obtain rfl:u=Value.ref a:=rx
 refine zk1 I1 ea c hm l ?_
 refine PySem.W.callWith_K (first:=[.ref a]) (h₀:=X.base) I.ok.mod.kin hm.kp (thn (ha pos pins s1 σ H1 _ I1 q) fun us s2 ⟨vs,H2,I2,r,q2⟩=>⟨I2.kIn,?_⟩) hst hpl
 exact zoZ (us:=.ref a::us) (vs:=.ref a::vs) F hr hb hd hx I2 (.cons rfl r) q2
structure Mk(K:PySem.W.Frag)(C f:Addr):Prop where
 makes:PySem.W.makesIn K C=true
 init:PySem.W.findIn K (.ref C) "__init__"=some (some (.ref f))
 fn:PySem.W.isFn K (.ref f)=true
 kp:PySem.W.keepIn K (.ref C)=true
theorem znA{pins:List (Addr×Obj)}{σ:St}{H:Hp}{s:Shared}{Q:VK}{us:List Value}{vs:List V}(M:Mk X.K C f)(F:zes X.prog X.w X.K X.mg X.base CX k f fd ps sp)(hr:zbU (k+1) X.A)(hb:Binds X.K fd ps ds)(hd:Vals dvs ds)
  (hx:Passes CX X E)(I:Inv X pins σ H s)(r:Vals vs us)
  (h:∀ x dx,H x=none->H dx=none->dx≠x->sp (.ref x::(vs++dvs)) (upd (upd H dx (.own x)) x (.ins C dx [])) (fun v H2=>v=.non/\Q (.ref x) H2) E) :
  wpAny (model X.prog X.w) X.A (call (.ref C) us) (EP X pins σ Q) X.xe s:=by
 have hq:=h (s.heap.objs.size+1) s.heap.objs.size (I.hok.fresh (Nat.le_succ _)) (I.hok.fresh (Nat.le_refl _)) (Nat.ne_of_lt (Nat.lt_succ_self _))
 have I2:=Inv.made (C:=C) I
 have r2:Vals (V.ref (s.heap.objs.size+1)::(vs++dvs)) (Value.ref (s.heap.objs.size+1)::(us++ds)):=.cons rfl (r.append hd)
 have hl:(Value.ref (s.heap.objs.size+1)::us++ds).length=ps.length:=by
  have e:=r2.length
  rw [F.len _ _ _ _ hq] at e
  exact e.symm
 refine wpAny_call (zoe (f:=f) I.kIn M.makes M.init (beq_iff_eq.mp M.fn) (codeAny_mono (F.run _ X.stack _ _ ⟨Value.ref (s.heap.objs.size+1)::us,[]⟩ (Value.ref (s.heap.objs.size+1)::(us++ds)) _ _ E (hr.make C us [])
  (I2.env0.make C us []) (hb _ (Value.ref (s.heap.objs.size+1)::us) I2.kIn hl) r2 hq) fun r s' hq'=>?_))
 cases r with
 | error e=>exact hx pins σ _ _ e s' I2 hq'
 | ok fl =>
  cases fl with
  | ret u =>
   obtain⟨v,H',I3,rv,ev,q3⟩:=I2.after hq'
   subst ev
   exact⟨rv,⟨V.ref (s.heap.objs.size+1),H',I3,rfl,q3⟩⟩
  | next=>exact False.elim hq'
  | brk=>exact False.elim hq'
  | cont=>exact False.elim hq'
theorem zqB(M:Mk X.K C f)(F:zes X.prog X.w X.K X.mg X.base CX k f fd ps sp)(hr:zbU (k+1) X.A)(hg:Gl X x)(hm:X.mg x=some (.ref C))(hb:Binds X.K fd ps ds)(hd:Vals dvs ds)(hx:Passes CX X E)
  (ha:PA X (e::es) t)(hdb:(x==("__debug__":Str))=false:=by decide) (he:starEach (e::es) X.env=(false,eval e X.env)::starEach es X.env:=by rfl) (hpl:(backTo pos (starEach es X.env)).any (·.1)=false:=by rfl) :
  PE X (.Call (.Name x p) (e::es) [] pos) (ztP C sp dvs E t):=by
 intro pins s σ H Q I h
 refine wpAny_Call_Name_kw (zje I hg hm ?_ hdb)
 refine PySem.W.callWith_K (h₀:=X.base) I.ok.mod.kin M.kp (thn (ha pos pins s σ H _ I h) fun us s1 ⟨vs,H1,I1,r,q⟩=>⟨I1.kIn,?_⟩) he hpl
 exact znA M F hr hb hd hx I1 r q
end
structure zbZ(N P:List Str)(sc:Scope):Prop where
 kind:sc.kind=.function
 co:sc.isCoroutine=false
 gen:sc.isGenerator=false
 nd:N.Nodup
 pre:N.take P.length=P
 par:∀ x∈P,sc.names.lookup x=some .local\/sc.names.lookup x=some .cell
 nofree:∀ y∈sc.names,y.2≠.free
theorem ziA{kindOf:Str->Option NameKind}{x:Str}:∀{binds:List (Str×Value)} {m:Str->Option Value},(∀ v,(x,v)∉binds)->bindL kindOf binds m x=m x
 | [],_,_=>rfl
 | (n,v)::r,m,h=>by
  unfold bindL
  rw [ziA fun w hw=>h w (List.mem_cons_of_mem _ hw)]
  split
  ·have:x≠n:=by rintro rfl;exact h v List.mem_cons_self
   simp [this]
  ·rfl
theorem ziC{kindOf:Str->Option NameKind}{x:Str}:∀{binds:List (Str×Value)} {m:Str->Option Value},(∀ v,(x,v)∉binds)->bindC kindOf binds m x=m x
 | [],_,_=>rfl
 | (n,v)::r,m,h=>by
  unfold bindC
  rw [ziC fun w hw=>h w (List.mem_cons_of_mem _ hw)]
  split
  ·rfl
  ·have:x≠n:=by rintro rfl;exact h v List.mem_cons_self
   simp [this]
theorem ziB{kindOf:Str->Option NameKind}{x:Str}{v:Value}:∀{P:List Str} {vs:List Value} {i:Nat} {m:Str->Option Value},P.Nodup->P[i]?=some x->vs[i]?=some v->kindOf x=some .local ->
  bindL kindOf (P.zip vs) m x=some v
 | [],_,_,_,_,h,_,_=>by simp at h
 | _::_,[],_,_,_,_,h,_=>by simp at h
 | p::P,w::vs,0,m,nd,h1,h2,hk=>by
  simp at h1 h2;subst h1;subst h2
  show bindL kindOf ((p,w)::P.zip vs) m p=_
  unfold bindL
  rw [ziA fun v hv=>(List.nodup_cons.mp nd).1 (List.of_mem_zip hv).1,if_pos hk]
  simp
 | p::P,w::vs,i+1,m,nd,h1,h2,hk=>by
  show bindL kindOf ((p,w)::P.zip vs) m x=_
  unfold bindL
  exact ziB (i:=i) (List.nodup_cons.mp nd).2 (by simpa using h1) (by simpa using h2) hk
theorem ziD{kindOf:Str->Option NameKind}{x:Str}{v:Value}:∀{P:List Str} {vs:List Value} {i:Nat} {m:Str->Option Value},P.Nodup->P[i]?=some x->vs[i]?=some v->kindOf x≠some .local ->
  bindC kindOf (P.zip vs) m x=some v
 | [],_,_,_,_,h,_,_=>by simp at h
 | _::_,[],_,_,_,_,h,_=>by simp at h
 | p::P,w::vs,0,m,nd,h1,h2,hk=>by
  simp at h1 h2;subst h1;subst h2
  show bindC kindOf ((p,w)::P.zip vs) m p=_
  unfold bindC
  rw [ziC fun v hv=>(List.nodup_cons.mp nd).1 (List.of_mem_zip hv).1,if_neg hk]
  simp
 | p::P,w::vs,i+1,m,nd,h1,h2,hk=>by
  show bindC kindOf ((p,w)::P.zip vs) m x=_
  unfold bindC
  exact ziD (i:=i) (List.nodup_cons.mp nd).2 (by simpa using h1) (by simpa using h2) hk
def start(N:List Str)(vs:List V):St:=vs.map some++List.replicate (N.length-vs.length) none
def zjt(CX:CXT)(P:Program)(w:World)(K:PySem.W.Frag)(mg:Str->Option Value)(base:Heap)(N:List Str)(qual:Str)(scope:Scope)(f:Addr)(cd:Value)(A:Around)(outer:List Env)(s:Shared)(H:Hp)(E:XK):Cx where
 prog:=P
 w:=w
 K:=K
 mg:=mg
 base:=base
 A:=A.deeper (envOfC qual scope s.heap.objs.size f cd)
 N:=N
 s₀:=s
 H₀:=H
 env:=envOfC qual scope s.heap.objs.size f cd
 outer:=outer
 stack:=envOfC qual scope s.heap.objs.size f cd::outer
 ex:=[]
 calm:=true
 fn:=fun _=>true
 pn:=[]
 xe:=fun e s'=>wpAny (model P w) (A.deeper (envOfC qual scope s.heap.objs.size f cd)) (leaving (envOfC qual scope s.heap.objs.size f cd) e) (fun _ s''=>CX outer H s E e s'') (fun e' s''=>CX outer H s E e' s'') s'
theorem zko{sc:Scope}{n:Nat}{x:Str}(h:sc.names.lookup x=some .cell):∃ c,(cellsFrom n sc.names []).lookup x=some c:=by
 have q:=PySem.W.cellsFrom_some sc.names n [] (.inl h)
 exact Option.isSome_iff_exists.mp q
theorem zmD{CX:CXT}{P:Program}{w:World}{K:PySem.W.Frag}{mg:Str->Option Value}{base:Heap}{N ps:List Str}{qual:Str}{scope:Scope}{f:Addr}{cd:Value}{A:Around}{outer:List Env}{s s1:Shared}{H:Hp}{E:XK}{us:List Value}{vs:List V}
  (S:zbZ N ps scope)(hd:A.handled=none)(e0:zrw P w K mg base A outer s H)(hl:vs.length=ps.length)(r:Vals vs us)
  (x:InCallC s s.heap.objs.size (bindL (envOfC qual scope s.heap.objs.size f cd).kindOf (ps.zip us) fun _=>none) (cellsFrom (s.heap.objs.size+1) scope.names []) (bindC (envOfC qual scope s.heap.objs.size f cd).kindOf (ps.zip us) fun _=>none) s1) :
  Inv (zjt CX P w K mg base N qual scope f cd A outer s H E) [] (start N vs) H s1:=by
 have hpl:ps.length<=N.length:=by have:=congrArg List.length S.pre;rw [List.length_take] at this;omega
 obtain⟨h1,tk,rfl,hk⟩:=x.done
 have noA:∀ b:Addr,b∉(zjt CX P w K mg base N qual scope f cd A outer s H E).ex:=fun b z=>absurd (show b∈([]:List Addr) from z) (by simp)
 refine⟨⟨e0.mod,S.kind,rfl,rfl,Nat.le_refl _,fun y z c h1 h2=>?_,fun y hy=>?_,fun y c _ h=>?_,fun _=>hd,Around.frames_deeper e0.frames,.inr ⟨rfl,rfl⟩,fun b z=>absurd z (noA b),e0.bs,e0.bsz,fun b _ _=>noA b,fun b z=>absurd z (noA b),e0.zkl,e0.frf,e0.tree,⟨_,_,rfl,S.gen,S.co,rfl,rfl⟩⟩,
  rfl,e0.bare,Un.kept hk,⟨_,x.toInCall.ns,fun i y v h1 h2 h3=>?_⟩,fun y c h=>⟨_,x.cell y c h⟩,e0.hok.fresh (Nat.le_refl _),fun y c h=>?_,fun p hp=>absurd (show p∈([]:List (Addr×Obj)) from hp) (by simp),e0.hok.kept hk,?_⟩
 ·exact name_of_addr x.apart (PySem.mem_of_lookup h1) (PySem.mem_of_lookup h2)
 ·have hy:scope.names.lookup y=some .cell\/scope.names.lookup y=some .free:=hy
  rcases hy with hy|hy
  ·exact zko hy
  ·exact absurd rfl (S.nofree _ (PySem.mem_of_lookup hy))
 ·exact Nat.le_of_lt (x.above y c (PySem.mem_of_lookup h))
 ·have hi:i<vs.length:=by
   unfold start at h2
   by_cases hi:i<vs.length
   ·exact hi
   ·rw [List.getElem?_append_right (by simpa using hi)] at h2
    rw [List.getElem?_replicate] at h2
    split at h2 <;> cases h2
  have ha:vs[i]?=some v:=by
   unfold start at h2
   rw [List.getElem?_append_left (by simpa using hi),List.getElem?_map] at h2
   cases e:vs[i]? with
   | none=>rw [e] at h2;cases h2
   | some a=>rw [e] at h2;cases h2;rfl
  obtain⟨u,hu,rv⟩:=r.get ha
  have hp:ps[i]?=some y:=by
   rw [<- S.pre,List.getElem?_take_of_lt (by omega)];exact h1
  have ndP:ps.Nodup:=by rw [<- S.pre];exact S.nd.sublist (List.take_sublist _ _)
  refine⟨u,rv,?_⟩
  rcases S.par y (List.mem_of_getElem? hp) with k|k
  ·exact .inl ⟨k,ziB ndP hp hu k⟩
  ·obtain⟨c,e⟩:=zko (n:=s.heap.objs.size+1) k
   refine .inr ⟨.inl k,c,e,?_⟩
   have q:=x.cell y c e
   rw [ziD ndP hp hu (by show scope.names.lookup y≠_;rw [k];decide)] at q
   exact q
 ·exact e0.hok.fresh (Nat.le_of_lt (x.above y c (PySem.mem_of_lookup h)))
 ·unfold start
  show _=N.length
  rw [List.length_append,List.length_map,List.length_replicate]
  omega
theorem zuL{CX:CXT}{P:Program}{w:World}{K:PySem.W.Frag}{mg:Str->Option Value}{base:Heap}{k:Nat}{f:Addr}{name qual:Str}{params:Arguments}{body:List Stmt}{scope:Scope}{dV kV doc pm cdv ct oc:Value}{an od:Option Addr}
  {osl:Array (Option Value)}{N ps:List Str}{sp:Sp}(lk:K.lookup f=some ⟨oc,od,.func (PySem.W.fnOf name qual params body scope dV kV doc pm an cdv ct),osl⟩)(hcd:PySem.W.codeIn K cdv qual=true)(S:zbZ N ps scope)
  (len:∀ vs H Q E,sp vs H Q E->vs.length=ps.length)
  (hbody:∀(A:Around) (outer:List Env) (s:Shared) (H:Hp) (vs:List V) (Q:VK) (E:XK),zbU k (A.deeper (envOfC qual scope s.heap.objs.size f cdv))->sp vs H Q E ->
   ∃ t,PSs (zjt CX P w K mg base N qual scope f cdv A outer s H E) body t/\t { nx:=fun _ H'=>Q .non H',rt:=Q } (start N vs) H) :
  zes P w K mg base CX (k+1) f (PySem.W.fnOf name qual params body scope dV kV doc pm an cdv ct) ps sp:=by
 refine⟨len,fun A outer s H args us vs Q E hr e0 hb r hsp=>?_⟩
 have hl:=len _ _ _ _ hsp
 have KX:K.In s.heap:=e0.mod.kin.keeps fun b o e=>(e0.bs b o e).1
 have lim:s.heap.NoLimit:=e0.mod.nolimit.keeps fun b o e=>(e0.bs b o e).1
 have hkind:∀ y∈ps.zip us,scope.names.lookup y.1=some .local\/(scope.names.lookup y.1=some .cell/\((cellsFrom (s.heap.objs.size+1) scope.names []).lookup y.1).isSome=true):=fun⟨n,v⟩ hy=>by
  rcases S.par n (List.of_mem_zip hy).1 with q|q
  ·exact .inl q
  ·exact .inr ⟨q,PySem.W.cellsFrom_some _ _ _ (.inl q)⟩
 refine codeAny_call_function hr.depth (KX _ _ lk) rfl S.co S.gen rfl (PySem.W.codeRec_of KX hcd) (hb _ _ _ _ ?_)
 refine wpAny_newFunctionEnv_cells S.kind hkind fun env he s1 x=>?_
 subst he
 refine⟨lim.keeps x.toInCall.keep,codeAny_func ?_⟩
 obtain⟨t,ht,hq⟩:=hbody A outer s H vs Q E (hr.deeper _) hsp
 have I:Inv (zjt CX P w K mg base N qual scope f cdv A outer s H E) [] (start N vs) H s1:=zmD S hr.hd e0 hl r x
 refine wpAny_mono (ht [] s1 (start N vs) H _ I hq) (fun fl s' hs=>?_) fun e s' hs=>hs
 have fin:∀{σ':St} {H':Hp} {v:V} {u:Value},Inv (zjt CX P w K mg base N qual scope f cdv A outer s H E) [] σ' H' s'->RelV v u->Q v H'->CE outer P w H s Q u s' :=
  fun{σ' H' v u} J rv q=>⟨v,H',J.os,J.bare,J.base,J.hok,rv,q⟩
 cases fl with
 | ret u =>
  obtain⟨v,σ',H',J,rv,q⟩:=hs
  exact fin J rv q
 | next =>
  obtain⟨σ',H',J,q⟩:=hs
  exact fin (v:=V.non) (u:=Value.none) J rfl q
 | brk =>
  obtain⟨_,_,_,q⟩:=hs
  exact False.elim q
 | cont =>
  obtain⟨_,_,_,q⟩:=hs
  exact False.elim q
end
section
section
variable {X:Cx}{x:Str}{p pos:Pos}{e:Expr}{es:List Expr}{t:TA}{id T:String}{r:List V->Hp->VK->Prop}
def tCB(r:List V->Hp->VK->Prop)(t:TA):TE:=fun σ H Q=>t σ H fun vs H1=>r vs H1 Q
theorem zj3(hc:zc3 X (.builtin id) r)(hg:Gl X x)(hm:X.mg x=none)(hv:bootBuiltins x=some (.builtin id))(ha:PA X (e::es) t)(hn:x ≠ "__name__":=by decide) (hdb:(x==("__debug__":Str))=false:=by decide)
  (he:starEach (e::es) X.env=(false,eval e X.env)::starEach es X.env:=by rfl) (hpl:(backTo pos (starEach es X.env)).any (·.1)=false:=by rfl):PE X (.Call (.Name x p) (e::es) [] pos) (tCB r t):=by
 intro pins s σ H Q I h
 refine wpAny_Call_Name_kw (zfL I hg hm hv ?_ hn hdb)
 exact PyProof.Rows.callWith_builtin1 (thn (ha pos pins s σ H _ I h) fun us s1 ⟨vs,H1,I1,r1,q1⟩=>hc pins s1 σ H1 vs us Q I1 r1 q1) he hpl
theorem zfD(hc:zc3 X (.type T) r)(hg:Gl X x)(hm:X.mg x=none)(hv:bootBuiltins x=some (.type T))(ha:PA X (e::es) t)(hn:x ≠ "__name__":=by decide) (hdb:(x==("__debug__":Str))=false:=by decide)
  (he:starEach (e::es) X.env=(false,eval e X.env)::starEach es X.env:=by rfl) (hpl:(backTo pos (starEach es X.env)).any (·.1)=false:=by rfl):PE X (.Call (.Name x p) (e::es) [] pos) (tCB r t):=by
 intro pins s σ H Q I h
 refine wpAny_Call_Name_kw (zfL I hg hm hv ?_ hn hdb)
 exact PyProof.Rows.callWith_type1 (thn (ha pos pins s σ H _ I h) fun us s1 ⟨vs,H1,I1,r1,q1⟩=>hc pins s1 σ H1 vs us Q I1 r1 q1) he hpl
end
end
end L2
namespace HT
open PySem PyProof.Rows
def lexLt:List Int->List Int->Bool
 | [],[]=>false
 | [],_::_=>true
 | _::_,[]=>false
 | x::xs,y::ys=>if x=y then lexLt xs ys else decide (x<y)
theorem zkU(x y:Int)(xs ys:List Int):lexLt (x::xs) (y::ys)=if x=y then lexLt xs ys else decide (x<y):=rfl
theorem zhl:lexLt [] []=false:=rfl
theorem zgh(y:Int)(ys:List Int):lexLt [] (y::ys)=true:=rfl
theorem zgi(x:Int)(xs:List Int):lexLt (x::xs) []=false:=rfl
theorem zoy(A:Around)(s:Shared)(a:Int)(t:Tok)(c:Int)(u:Tok):∃ e,SeqAt.EqAt A s (.int a t) (.int c u) e/\(e=true↔a=c) :=
 ⟨(a==c),SeqAt.EqAt.int_int a t c u,by simp⟩
theorem znB(A:Around)(s:Shared)(a:Int)(t:Tok)(c:Int)(u:Tok)(prog:Program)(w:World)(E:Value->Shared->Prop)(Q:Value->Shared->Prop)(h:Q (.bool (decide (a<c))) s) :
  wpAny (model prog w) A (richCompare .Lt (.int a t) (.int c u)) Q E s :=
 (PyProof.Rows.lt_int h:wpAny (model prog w) A (compareOp .Lt (.int a t) (.int c u)) Q E s)
section
open PySem.SeqAt
open PySem.AutoSeq1 (wpAny_loadPart')
open PySem.MeetsSeq PySem.MeetsSeq2 PySem.MeetsSeq3
theorem zgU(l b:Addr)(items items2:Array Value)(n n2:Nat)(dd dd2:Option Addr)(sl sl2:Array (Option Value))(ns ms:List Int)(hi:IntsAre items.toList ns)(hj:IntsAre items2.toList ms) :
  Meets (Builtin.«tuple.__lt__» ⟨[.ref l,.ref b],[]⟩)
   (fun _ R s=>s.heap.get? l=some { cls:=.type "tuple",dict:=dd,data:=.seq items n,slots:=sl }/\s.heap.get? b=some { cls:=.type "tuple",dict:=dd2,data:=.seq items2 n2,slots:=sl2 } /\
    R (.ok (.ret (.bool (lexLt ns ms)))) s) :=
 .of_wp fun prog w A R s h=>by
  obtain⟨hp,g,d,tk,os⟩:=s;obtain⟨hl,hb,h⟩:=h
  have f2:=AutoSeq1.sub_tuple_tuple
  have z1:items.size=ns.length:=by rw [<- hi.length];simp
  have z2:items2.size=ms.length:=by rw [<- hj.length];simp
  wp_walk using wpAny_loadPart' hl,wpAny_loadPart' hb,wpAny_forIn_list _ (fun rest b s'=>b.1=none/\s'=⟨hp,g,d,tk,os⟩/\∃(vs ws:List Value) (ns' ms':List Int),rest=vs.zip ws /\
   IntsAre vs ns'/\IntsAre ws ms'/\ns'.length+items2.size=ms'.length+items.size/\R (.ok (.ret (.bool (lexLt ns' ms')))) ⟨hp,g,d,tk,os⟩) _
  case turn =>
   rintro⟨y,x⟩ rest b s' ⟨hb',rfl,vs,ws,ns',ms',hz,hvi,hwi,hlen,hR⟩
   cases hvi with
   | nil=>rw [List.zip_nil_left] at hz;cases hz
   | cons a t hvi' =>
    cases hwi with
    | nil=>rw [List.zip_nil_right] at hz;cases hz
    | cons c u hwi' =>
     rw [List.zip_cons_cons] at hz
     injection hz with hyx hrest
     injection hyx with hy hx
     subst hy hx
     rw [zkU] at hR
     simp only [List.length_cons] at hlen
     obtain⟨e,he,hiff⟩:=zoy A.in1 ⟨hp,g,d,tk,os⟩ a t c u
     refine wpAny_bind (he prog w _ _ ?_)
     cases e with
     | true =>
      rw [if_pos (hiff.mp rfl)] at hR
      wp_walk
      exact⟨rfl,rfl,_,_,_,_,hrest,hvi',hwi',by omega,hR⟩
     | false =>
      rw [if_neg (fun q=>absurd (hiff.mpr q) Bool.false_ne_true)] at hR
      have hri:=znB A.in1 ⟨hp,g,d,tk,os⟩ a t c u prog w
      wp_walk using hri
      exact⟨_,rfl,by simpa using hR⟩
  case fin =>
   rintro⟨b1,b2⟩ s' ⟨hb',rfl,vs,ws,ns',ms',hz,hvi,hwi,hlen,hR⟩
   simp only at hb'
   subst hb'
   have hv:lexLt ns' ms'=decide (items.size<items2.size):=by
    cases hvi with
    | nil =>
     cases hwi with
     | nil =>
      simp only [List.length_nil] at hlen
      rw [zhl]
      exact(decide_eq_false (by omega)).symm
     | cons c u hw =>
      simp only [List.length_nil,List.length_cons] at hlen
      rw [zgh]
      exact(decide_eq_true (by omega)).symm
    | cons a t hv =>
     cases hwi with
     | nil =>
      simp only [List.length_nil,List.length_cons] at hlen
      rw [zgi]
      exact(decide_eq_false (by omega)).symm
     | cons c u hw =>
      rw [List.zip_cons_cons] at hz
      cases hz
   rw [hv] at hR
   wp_walk
   exact⟨_,rfl,by simpa [Builtin.Tuple.tupleCompareSizes] using hR⟩
  case h =>
   exact⟨rfl,rfl,items.toList,items2.toList,ns,ms,rfl,hi,hj,by omega,h⟩
end
section
variable {prog:Program}{w:World}{A:Around}{E:Value->Shared->Prop}{s:Shared}
theorem zkT{l b:Addr}{items items2:Array Value}{ns ms:List Int}{Q:Value->Shared->Prop}(hl:IsTup s.heap l items)(hb:IsTup s.heap b items2)(hi:IntsAre items.toList ns)(hj:IntsAre items2.toList ms)
  (hu:A.units<cLine)(h:Q (.bool (lexLt ns ms)) s):wpAny (model prog w) A (compareOp .Lt (.ref l) (.ref b)) Q E s:=by
 obtain⟨⟨cls,dd,data,sl⟩,ho,hc,n,hd⟩:=id hl
 obtain⟨⟨cls2,dd2,data2,sl2⟩,ho2,hc2,n2,hd2⟩:=id hb
 simp only at hc hd hc2 hd2
 subst hc hd hc2 hd2
 exact richCompare_meets_room (op:=.Lt) ⟨_,ho,rfl⟩ ⟨_,ho2,rfl⟩ PySem.F.slot_tuple_lt PySem.F.entry_tuple_lt (PySem.F.args_tuple_lt_2 _ _) (zgU l b items items2 n n2 dd dd2 sl sl2 ns ms hi hj)
  ⟨ho,ho2,show Value.bool (lexLt ns ms)≠Value.notImplemented/\Q (.bool (lexLt ns ms)) s from⟨(fun x=>nomatch x),h⟩⟩ hu
theorem zrl{t b:Addr}{vs ws:List Value}{Q:Value->Shared->Prop}(ht:IsTup s.heap t vs.toArray)(hb:IsTup s.heap b ws.toArray)(hv:vs≠[])
  (h1:ws=[]->Q (.ref t) s)(h2:ws≠[]->Q (.ref s.heap.objs.size) { s with heap:=s.heap.push { cls:=.type "tuple",data:=.seq (vs++ws).toArray } })
  (hsz:vs.length+ws.length<=sizeLine):wpAny (model prog w) A (binaryOp .Add (.ref t) (.ref b)) Q E s:=by
 obtain⟨⟨cls,dd,data,sl⟩,ho,hc,n,hd⟩:=id ht
 obtain⟨⟨cls2,dd2,data2,sl2⟩,ho2,hc2,n2,hd2⟩:=id hb
 simp only at hc hd hc2 hd2
 subst hc hd hc2 hd2
 have e:vs.toArray++ws.toArray=(vs++ws).toArray:=by simp
 by_cases hw:ws=[]
 ·exact concat_meets ⟨_,ho,rfl⟩ ⟨_,ho2,rfl⟩ noFill_tuple_add seq_tuple_add PySem.F.slot_tuple_add PySem.F.entry_tuple_add (PySem.F.args_tuple_add_2 _ _)
   (tuple_addW1 t b vs.toArray ws.toArray n n2 dd dd2 sl sl2 (by simpa using hv) (by simp [hw])) ⟨ho,ho2,h1 hw⟩
 ·refine concat_meets ⟨_,ho,rfl⟩ ⟨_,ho2,rfl⟩ noFill_tuple_add seq_tuple_add PySem.F.slot_tuple_add PySem.F.entry_tuple_add (PySem.F.args_tuple_add_2 _ _)
   (tuple_addW2 t b vs.toArray ws.toArray n n2 dd dd2 sl sl2 (by simpa using hv) (by simpa using hw) (by rw [List.size_toArray,List.size_toArray];exact hsz)) ⟨ho,ho2,?_⟩
  rw [e]
  exact h2 hw
def sIx(n d:Nat):Option Int->Nat
 | none=>d
 | some v=>if v<0 then(v+(n:Int)).toNat else min v.toNat n
theorem zrV(n d:Nat)(hd:d<=n)(o:Option Int):sIx n d o<=n:=by
 cases o with
 | none=>exact hd
 | some v =>
  show(if v<0 then(v+(n:Int)).toNat else min v.toNat n)<=n
  by_cases hv:v<0
  ·rw [if_pos hv];omega
  ·rw [if_neg hv];exact Nat.min_le_right _ _
theorem zmS(v:Int)(n d:Nat):(if v<0 then max (v+(n:Int)) 0 else min v (n:Int))=((sIx n d (some v):Nat):Int):=by
 show(if v<0 then max (v+(n:Int)) 0 else min v (n:Int))=(((if v<0 then(v+(n:Int)).toNat else min v.toNat n):Nat):Int)
 by_cases hv:v<0
 ·simp only [if_pos hv];omega
 ·simp only [if_neg hv];omega
theorem zk9(lo hi:Option Int)(n:Nat):Builtin.Slice.sliceAdjust lo hi 1 (n:Int)=(((sIx n 0 lo:Nat):Int),((sIx n n hi:Nat):Int)):=by
 have h1:¬ ((1:Int)<0):=by omega
 unfold Builtin.Slice.sliceAdjust
 simp only [h1,if_false]
 refine Prod.ext ?_ ?_
 ·cases lo with
  | none=>rfl
  | some v=>exact zmS v n 0
 ·cases hi with
  | none=>rfl
  | some v=>exact zmS v n n
theorem zkM(i j:Nat):Builtin.Slice.slicePlaces (i:Int) (j:Int) 1=j-i:=by
 unfold Builtin.Slice.slicePlaces
 have h1:(1:Int) > 0:=by omega
 simp only [h1,if_true,Int.ediv_one]
 split <;> omega
theorem zgr{v:Value}{o:Option Int}{Q:Option Int->Shared->Prop}(p:IsPart v o)(h:Q o s):wpAny (model prog w) A (Builtin.Slice.slicePartIndex v) Q E s:=by
 cases p with
 | none=>exact slicePart_none h
 | int i t=>exact slicePart_int h
theorem zcW{sl:Addr}{vl vu:Value}{lo hi:Option Int}{n:Nat}{Q:Int×Int×Nat->Shared->Prop}(hs:s.heap.IsSliceOf sl vl vu .none)(pl:IsPart vl lo)(pu:IsPart vu hi)
  (h:Q (((sIx n 0 lo:Nat):Int),1,sIx n n hi-sIx n 0 lo) s):wpAny (model prog w) A (Builtin.Slice.sliceApplied (.ref sl) (pure (n:Int))) Q E s:=by
 obtain⟨os,hos,hcs,hds⟩:=id hs
 unfold Builtin.Slice.sliceApplied Builtin.Slice.sliceFields
 refine wpAny_bind (wpAny_bind (wpAny_field hos hds (x:=vl) rfl (wpAny_bind (wpAny_field hos hds (x:=vu) rfl (wpAny_bind (wpAny_field hos hds (x:=.none) rfl (wpAny_pure ?_)))))))
 refine wpAny_bind (slicePart_none ?_)
 show wpAny _ _ (if((1:Int)==0)=true then _ else _) _ _ s
 rw [if_neg (by decide)]
 refine wpAny_bind (zgr pl (wpAny_bind (zgr pu (wpAny_bind (wpAny_pure ?_)))))
 show wpAny _ _ (match Builtin.Slice.sliceAdjust lo hi 1 (n:Int) with|(lo,hi)=>pure (lo,(1:Int),Builtin.Slice.slicePlaces lo hi 1)) _ _ s
 rw [zk9 lo hi n]
 show wpAny _ _ (pure (((sIx n 0 lo:Nat):Int),(1:Int),Builtin.Slice.slicePlaces ((sIx n 0 lo:Nat):Int) ((sIx n n hi:Nat):Int) 1)) _ _ s
 rw [zkM]
 exact wpAny_pure h
theorem znV(xs:Array Value)(i k:Nat):((List.range k).filterMap fun(m:Nat)=>xs[((i:Int)+(m:Int)*1).toNat]?).toArray=((xs.toList.drop i).take k).toArray:=by
 have e:(fun(m:Nat)=>xs[((i:Int)+(m:Int)*1).toNat]?)=fun m=>xs[i+m]?:=by
  funext m
  have:((i:Int)+(m:Int)*1).toNat=i+m:=by omega
  rw [this]
 rw [e]
 have:=pick_run xs i k
 rw [List.filterMap_map] at this
 have e2:((fun x=>xs[x]?)∘fun x=>i+x)=fun m=>xs[i+m]?:=rfl
 rw [e2] at this
 rw [this]
theorem zeC{t sl:Addr}{items:Array Value}{vl vu:Value}{lo hi:Option Int}{Q:Value->Shared->Prop}(ht:IsTup s.heap t items)(hs:s.heap.IsSliceOf sl vl vu .none)(pl:IsPart vl lo)(pu:IsPart vu hi)
  (hw:¬ (sIx items.size 0 lo=0/\sIx items.size items.size hi=items.size))
  (h:Q (.ref s.heap.objs.size) { s with heap:=s.heap.push { cls:=.type "tuple",data:=.seq ((items.toList.drop (sIx items.size 0 lo)).take (sIx items.size items.size hi-sIx items.size 0 lo)).toArray } })
  (hsz:items.size<=sizeLine):wpAny (model prog w) A (getItem (.ref t) (.ref sl)) Q E s:=by
 have htake:sizeOk (.seq ((items.toList.drop (sIx items.size 0 lo)).take (sIx items.size items.size hi-sIx items.size 0 lo)).toArray):=by
  show((items.toList.drop (sIx items.size 0 lo)).take (sIx items.size items.size hi-sIx items.size 0 lo)).toArray.size<=sizeLine
  rw [List.size_toArray,List.length_take,List.length_drop,Array.length_toList]
  omega
 have hj:sIx items.size items.size hi<=items.size:=zrV _ _ (Nat.le_refl _) hi
 obtain⟨os,hos,hcs,hds⟩:=id hs
 have hTs:s.TypeIs (.ref sl) "slice":=⟨os,hos,hcs⟩
 unfold getItem
 try with_reducible refine wpAny_holding ?_
 first|refine wpAny_bind (wpAny_pure ?_)|skip
 refine wpAny_bind (wpAny_sequenceKey ht.typeIs (by decide) ?_)
 refine wpAny_bind (wpAny_callSpecial?_slot (name:=Str.ofString "__getitem__") ht.typeIs PyProof.Rows.slot_tuple_getitem
  (wpAny_call_entry PyProof.Rows.slot_tuple_getitem ht.typeIs entry_tuple_getitem ?_ (args_tuple_getitem _ _)))
 show wpAny _ _ (Builtin.Tuple.tupleItemsOf (.ref t) >>= _) _ _ s
 refine wpAny_bind (tupleItemsOf_ ht ?_)
 refine wpAny_bind (wpAny_typeOf hTs ?_)
 rw [if_pos (by decide)]
 refine wpAny_bind (zcW hs pl pu ?_)
 have hno:¬ ((((sIx items.size 0 lo:Nat):Int)==0&&(1:Int)==1&&(sIx items.size items.size hi-sIx items.size 0 lo)==items.size)=true):=by
  intro q
  rw [Bool.and_eq_true,Bool.and_eq_true] at q
  have q1:((sIx items.size 0 lo:Nat):Int)=0:=eq_of_beq q.1.1
  have q2:sIx items.size items.size hi-sIx items.size 0 lo=items.size:=eq_of_beq q.2
  exact hw ⟨by omega,by omega⟩
 show wpAny _ _ (if(((sIx items.size 0 lo:Nat):Int)==0&&(1:Int)==1&&(sIx items.size items.size hi-sIx items.size 0 lo)==items.size)=true then _ else _) _ _ s
 rw [if_neg hno,znV]
 first
  | exact wpAny_bind (m:=Builtin.Tuple.tupleExact _) (wpAny_newObj_type (wpAny_pure ⟨_,rfl,wpAny_pure h⟩) htake)
  | exact wpAny_bind (m:=Builtin.Tuple.tupleExact _) (wpAny_newObj_type (wpAny_bind (wpAny_pure (wpAny_pure ⟨_,rfl,wpAny_pure h⟩))) htake)
  | exact wpAny_bind (wpAny_bind (m:=Builtin.Tuple.tupleExact _) (wpAny_newObj_type (wpAny_pure (wpAny_pure ⟨_,rfl,wpAny_pure h⟩)) htake))
  | exact wpAny_bind (wpAny_bind (m:=Builtin.Tuple.tupleExact _) (wpAny_newObj_type (wpAny_pure ⟨_,rfl,wpAny_pure h⟩) htake))
end
end HT
namespace L2
open PySem PySem.Spec PyProof.Rows
section
abbrev TO:=St->Hp->(Option Int->Hp->Prop)->Prop
def PO(X:Cx)(e:Option Expr)(t:TO):Prop :=
 ∀(pins:List (Addr×Obj)) (s:Shared) (σ:St) (H:Hp) (Q:Option Int->Hp->Prop),Inv X pins σ H s->t σ H Q ->
  wpAny (model X.prog X.w) X.A (evalPart e X.env) (fun u s'=>∃ o H',Inv X pins σ H' s'/\IsPart u o/\Q o H') X.xe s
def zpP:TO:=fun _ H Q=>Q none H
def ztL(t:TE):TO:=fun σ H Q=>t σ H fun x H1=>∃ i,x=.int i/\Q (some i) H1
theorem intsAre_of{ns:List Int}:∀{us:List Value},Vals (ns.map V.int) us->IntsAre us ns:=by
 induction ns with
 | nil=>intro us r;rw [List.map_nil] at r;cases r;exact .nil
 | cons n ns ih =>
  intro us r
  rw [List.map_cons] at r
  cases r with
  | cons r1 r2 =>
   obtain⟨t,e⟩:=r1
   subst e
   exact .cons n t (ih r2)
section
variable {X:Cx}{e:Expr}{te:TE}{lo hi:Option Expr}{tl th:TO}{pos p2:Pos}
theorem zqp:PO X none zpP:=by
 intro pins s σ H Q I h
 rw [evalPart_none]
 exact wpAny_pure ⟨none,H,I,.none,h⟩
theorem zqo(h:PE X e te):PO X (some e) (ztL te):=by
 intro pins s σ H Q I hw
 rw [evalPart_some]
 refine thn (h pins s σ H _ I hw) fun u s1 ⟨x,H1,I1,r1,q1⟩=>?_
 obtain⟨i,rfl,q⟩:=q1
 obtain⟨t,rfl⟩:=r1
 exact⟨some i,H1,I1,.int i t,q⟩
def SlR(X:Cx)(r:V->Option Int->Option Int->Hp->VK->Prop):Prop :=
 ∀(pins:List (Addr×Obj)) (s:Shared) (σ:St) (H:Hp) (x:V) (v vl vu:Value) (lo hi:Option Int) (sl:Addr) (Q:VK),Inv X pins σ H s->RelV x v->s.heap.IsSliceOf sl vl vu .none->IsPart vl lo->IsPart vu hi->r x lo hi H Q ->
  ∃ T id,typeLookup (.type T) "__getitem__"=pure (some (.builtin id))/\s.TypeIs v T/\wpAny (model X.prog X.w) X.A (getItem v (.ref sl)) (EP X pins σ Q) X.xe s
def tSl(r:V->Option Int->Option Int->Hp->VK->Prop)(te:TE)(tl th:TO):TE:=fun σ H Q=>te σ H fun x H1=>tl σ H1 fun l H2=>th σ H2 fun u H3=>r x l u H3 Q
theorem zj2{r:V->Option Int->Option Int->Hp->VK->Prop}(hr:SlR X r)(he:PE X e te)(hl:PO X lo tl)(hu:PO X hi th):PE X (.Subscript e (.Slice lo hi none p2) pos) (tSl r te tl th):=by
 intro pins s σ H Q I h
 refine Subscript_ (thn (he pins s σ H _ I h) fun v s1 ⟨x,H1,I1,r1,q1⟩=>?_)
 refine wpAny_Slice (thn (hl pins s1 σ H1 _ I1 q1) fun vl s2 ⟨l,H2,I2,pl,q2⟩=>thn (hu pins s2 σ H2 _ I2 q2) fun vu s3 ⟨u,H3,I3,pu,q3⟩=>?_)
 rw [evalPart_none]
 refine wpAny_pure ?_
 have I4:Inv X pins σ H3 { s3 with heap:=s3.heap.push { cls:=.type "slice",data:=.fields #[vl,vu,.none] } }:=I3.kept (t':=s3.toks) fun b ob q=>Heap.get?_push_of_some _ q
 obtain⟨T,id,hT,ht,hg⟩:=hr pins { s3 with heap:=s3.heap.push { cls:=.type "slice",data:=.fields #[vl,vu,.none] } } σ H3 x v vl vu l u s3.heap.objs.size Q I4 r1 (Heap.IsSliceOf.new ..) pl pu q3
 show wpAny (model X.prog X.w) X.A (subscriptTail e (.Slice lo hi none p2) v (.ref s3.heap.objs.size)) (EP X pins σ Q) X.xe { s3 with heap:=s3.heap.push { cls:=.type "slice",data:=.fields #[vl,vu,.none] } }
 exact tail_any (ops:=[.ref s3.heap.objs.size,v]) ht hT hg (by with_unfolding_all rfl)
def zoE(xs:List V)(lo hi:Option Int):List V:=(xs.drop (HT.sIx xs.length 0 lo)).take (HT.sIx xs.length xs.length hi-HT.sIx xs.length 0 lo)
theorem zf0(xs:List V)(lo hi:Option Int):(zoE xs lo hi).length<=xs.length:=by
 unfold zoE
 rw [List.length_take,List.length_drop]
 omega
def zvG(K:PySem.W.Frag):V->Option Int->Option Int->Hp->VK->Prop:=fun x lo hi H Q=>∃ a xs,x=.ref a/\SqT K H a xs /\
 ¬ (HT.sIx xs.length 0 lo=0/\HT.sIx xs.length xs.length hi=xs.length)/\∀ p,H p=none->Q (.ref p) (upd H p (.tup (zoE xs lo hi)))
theorem zrS:SlR X (zvG X.K):=by
 intro pins s σ H x v vl vu lo hi sl Q I rx hs pl pu h
 obtain⟨a,xs,rfl,hx,hw,q⟩:=h
 cases rx
 obtain⟨its,r,ht,hz⟩:=I.tuple hx
 have hlen:its.toArray.size=xs.length:=by rw [List.size_toArray];exact r.length.symm
 refine⟨"tuple",_,PyProof.Rows.slot_tuple_getitem.lookup,ht.typeIs,?_⟩
 refine HT.zeC ht hs pl pu (by rw [hlen];exact hw) ?_ (by rw [hlen];exact hz)
 rw [hlen]
 refine⟨.ref s.heap.objs.size,_,I.laid (t':=s.toks) (o:=.tup (zoE xs lo hi)) (fun b ob q=>Heap.get?_push_of_some _ q) (Nat.le_refl _) ?_,rfl,q _ (I.hok.fresh (Nat.le_refl _))⟩
 exact⟨Nat.le_trans (zf0 xs lo hi) hz,_,(r.drop (HT.sIx xs.length 0 lo)).take (HT.sIx xs.length xs.length hi-HT.sIx xs.length 0 lo),IsTup.new _ _⟩
def ztX(K:PySem.W.Frag):R2:=fun x y H Q=>∃ a b xs ys,x=.ref a/\y=.ref b/\SqT K H a xs/\SqT K H b ys/\xs≠[]/\xs.length+ys.length<=sizeLine /\
 (ys=[]->Q (.ref a) H)/\(ys≠[]->∀ p,H p=none->Q (.ref p) (upd H p (.tup (xs++ys))))
theorem Vals.zi6{xs:List V}{us:List Value}(r:Vals xs us):us=[]↔xs=[]:=by
 cases r with
 | nil=>simp
 | cons _ _=>simp
theorem zqK:OpR X (binaryOp .Add) (ztX X.K):=by
 intro pins s σ H x y v u Q I rx ry h
 obtain⟨a,b,xs,ys,rfl,rfl,ha,hb,hx,hz,q1,q2⟩:=h
 cases rx
 cases ry
 obtain⟨its,r1,p1,_⟩:=I.tuple ha
 obtain⟨its2,r2,p2,_⟩:=I.tuple hb
 refine HT.zrl p1 p2 (fun z=>hx (r1.zi6.mp z)) (fun z=>⟨.ref a,H,I,rfl,q1 (r2.zi6.mp z)⟩) (fun z=>?_) (by rw [<- r1.length,<- r2.length];exact hz)
 refine⟨.ref s.heap.objs.size,_,I.laid (t':=s.toks) (o:=.tup (xs++ys)) (fun b ob q=>Heap.get?_push_of_some _ q) (Nat.le_refl _) ?_,rfl,q2 (fun w=>z (r2.zi6.mpr w)) _ (I.hok.fresh (Nat.le_refl _))⟩
 exact⟨by rw [List.length_append];exact hz,_,r1.append r2,IsTup.new _ _⟩
end
end
section
def ixN(n:Nat)(i:Int):Option Nat:=if 0<=i then(if i<n then some i.toNat else none) else if -(n:Int)<=i then some (i+n).toNat else none
def atI{α:Type}(xs:List α)(i:Int):Option α:=(ixN xs.length i).bind fun j=>xs[j]?
theorem zmA{n:Nat}{i:Int}{j:Nat}(h:ixN n i=some j):seqIndex? i n=some j/\j<n/\-(n:Int)<=i/\i<n:=by
 unfold ixN at h
 by_cases h0:0<=i
 ·rw [if_pos h0] at h
  by_cases h1:i<n
  ·rw [if_pos h1] at h
   have e:i.toNat=j:=Option.some.inj h
   exact⟨by rw [seqIndex_of h0 h1,e],by omega,by omega,h1⟩
  ·rw [if_neg h1] at h;cases h
 ·rw [if_neg h0] at h
  by_cases h1:-(n:Int)<=i
  ·rw [if_pos h1] at h
   have e:(i+n).toNat=j:=Option.some.inj h
   exact⟨by rw [seqIndex_neg (by omega) h1,e],by omega,h1,by omega⟩
  ·rw [if_neg h1] at h;cases h
theorem zm5{α:Type}{xs:List α}{i:Int}{v:α}(h:atI xs i=some v):∃ j,seqIndex? i xs.length=some j/\xs[j]?=some v/\j<xs.length/\-(xs.length:Int)<=i/\i<xs.length:=by
 unfold atI at h
 cases e:ixN xs.length i with
 | none=>rw [e] at h;cases h
 | some j =>
  rw [e] at h
  obtain⟨h1,h2,h3,h4⟩:=zmA e
  exact⟨j,h1,h,h2,h3,h4⟩
def zhH(b:Expr):Prop:=∀ o i,subscripted b false o i=operate [o,i] (getItem o i)
def IxR(X:Cx)(r:R2):Prop :=
 ∀(value slice:Expr) (pins:List (Addr×Obj)) (s:Shared) (σ:St) (H:Hp) (x y:V) (v u:Value) (Q:VK),Inv X pins σ H s->RelV x v->RelV y u->r x y H Q ->
  subscripted slice false v u=operate [v,u] (getItem v u)->wpAny (model X.prog X.w) X.A (subscriptTail value slice v u) (EP X pins σ Q) X.xe s
def MtR(X:Cx)(id:String)(r:V->List V->Hp->VK->Prop):Prop :=
 ∀(pins:List (Addr×Obj)) (s:Shared) (σ:St) (H:Hp) (x:V) (xs:List V) (v:Value) (us:List Value) (Q:VK),Inv X pins σ H s->RelV x v->Vals xs us->r x xs H Q ->
  wpAny (model X.prog X.w) X.A (call (.builtin id) (v::us)) (EP X pins σ Q) X.xe s
section
variable {X:Cx}{a b:Expr}{ta tb:TE}{pos:Pos}
theorem zsp{r:R2}(hr:IxR X r)(ha:PE X a ta)(hb:PE X b tb)(hs:zhH b):PE X (.Subscript a b pos) (tOp r ta tb):=by
 intro pins s σ H Q I h
 exact Subscript_ (zuX ha hb I h fun v u s2 x y H2 I2 rx ry q=>hr a b pins s2 σ H2 x y v u Q I2 rx ry q (hs _ _))
def zvL(K:PySem.W.Frag):R2:=fun x y H Q=>∃ p xs i v,x=.ref p/\y=.int i/\SqL K H p xs/\atI xs i=some v/\Q v H
def zvK(K:PySem.W.Frag):R2:=fun x y H Q=>∃ p xs i v,x=.ref p/\y=.int i/\SqT K H p xs/\atI xs i=some v/\Q v H
theorem zqY:IxR X (zvL X.K):=by
 intro value slice pins s σ H x y v u Q I rx ry h hs
 obtain⟨p,xs,i,z,rfl,rfl,hq,he,q⟩:=h
 cases rx
 obtain⟨t,rfl⟩:=ry
 obtain⟨its,r,pl,hz⟩:=I.list hq
 obtain⟨j,h1,h2,h3,h4,h5⟩:=zm5 he
 obtain⟨w,ew,rw'⟩:=r.get h2
 have hl:=r.length
 have hn:=zid
 have fin:EP X pins σ Q w s:=⟨z,H,I,rw',q⟩
 by_cases h0:0<=i
 ·have hj:i.toNat=j:=by
   rw [seqIndex_of h0 h5] at h1
   exact Option.some.inj h1
  exact item_listR pl.isList h0 (by omega) (by rw [hj];simpa using ew) fin hs
 ·have hj:(i+(its.toArray.size:Int)).toNat=j:=by
   rw [seqIndex_neg (by omega) h4] at h1
   rw [List.size_toArray,<- hl]
   exact Option.some.inj h1
  exact subscriptTail_builtinR (x:=w) pl.isList.typeIs slot_list_getitem.lookup
   (wpAny_getItem_list_neg (Q:=fun r s'=>r=w/\EP X pins σ Q r s') pl.isList (by omega) (by rw [List.size_toArray] <;> omega) (by omega) (by rw [hj];simpa using ew) ⟨rfl,fin⟩) hs
theorem zsW:IxR X (zvK X.K):=by
 intro value slice pins s σ H x y v u Q I rx ry h hs
 obtain⟨p,xs,i,z,rfl,rfl,hq,he,q⟩:=h
 cases rx
 obtain⟨t,rfl⟩:=ry
 obtain⟨its,r,pl,hz⟩:=I.tuple hq
 obtain⟨j,h1,h2,h3,h4,h5⟩:=zm5 he
 obtain⟨w,ew,rw'⟩:=r.get h2
 have hl:=r.length
 have hn:=zid
 have fin:EP X pins σ Q w s:=⟨z,H,I,rw',q⟩
 exact subscriptTail_builtinR (x:=w) pl.typeIs slot_tuple_getitem.lookup
  (getItem_tuple (j:=j) (Q:=fun r s'=>r=w/\EP X pins σ Q r s') pl (by omega) (by omega) (by rw [List.size_toArray,<- hl];exact h1) (by simpa using ew) ⟨rfl,fin⟩) hs
theorem zkQ(its:List Value)(n j:Nat)(u:Value):Obj.mapSeq (·.setIfInBounds j u) { cls:=.type "list",data:=.seq its.toArray n }={ cls:=.type "list",data:=.seq (its.set j u).toArray n }:=by
 simp [Obj.mapSeq]
theorem Inv.lst{pins:List (Addr×Obj)}{σ:St}{H:Hp}{s:Shared}{p:Addr}{xs:List V}(I:Inv X pins σ H s)(h:H p=some (.lst xs)) :
  ∃(its:List Value) (n:Nat),Vals xs its/\s.heap.get? p=some { cls:=.type "list",data:=.seq its.toArray n }/\xs.length<=sizeLine:=by
 obtain⟨z,its,n,r,e⟩:=I.hok p _ h
 exact⟨its,n,r,e,z⟩
theorem Inv.zsM{pins:List (Addr×Obj)}{σ:St}{H:Hp}{s:Shared}{p:Addr}{xs ys:List V}{its its':List Value}{n n':Nat}{f:Obj->Obj}(I:Inv X pins σ H s)(h:H p=some (.lst xs))
  (ho:s.heap.get? p=some { cls:=.type "list",data:=.seq its.toArray n }) (hf:f { cls:=.type "list",data:=.seq its.toArray n }={ cls:=.type "list",data:=.seq its'.toArray n' }) (r:Vals ys its') (hz:ys.length<=sizeLine) (t:Nat) :
  Inv X pins σ (upd H p (.lst ys)) { s with heap:=s.heap.update p f,toks:=t }:=by
 have e:(s.heap.update p f).get? p=some { cls:=.type "list",data:=.seq its'.toArray n' }:=by
  rw [Heap.get?_update_self f ho (by rw [hf] <;> rfl),hf]
 refine I.write (x:=p) (e:=p) (by rw [h];trivial) (.inl rfl) (fun b u hb q=>(Heap.get?_update_other _ _ (Ne.symm hb)).trans q) ⟨_,e⟩ ?_
 exact⟨hz,its',n',r,e⟩
def zrX:V->V->V->Hp->(Hp->Prop)->Prop:=fun o i v H Q=>∃ p xs k j,o=.ref p/\i=.int k/\H p=some (.lst xs)/\ixN xs.length k=some j/\Q (upd H p (.lst (xs.set j v)))
theorem set_list:zvm X zrX:=by
 intro pins s σ H o i v ov iv u Q I ro ri rv h
 obtain⟨p,xs,k,j,rfl,rfl,hp,hj,q⟩:=h
 cases ro
 obtain⟨t,rfl⟩:=ri
 obtain⟨its,n,r,ho,hz⟩:=I.lst hp
 obtain⟨h1,h2,h3,h4⟩:=zmA hj
 have hl:=r.length
 have hn:=zid
 have I':Inv X pins σ (upd H p (.lst (xs.set j v))) { s with heap:=s.heap.update p (Obj.mapSeq (·.setIfInBounds j u)) } :=
  I.zsM hp ho (zkQ its n j u) (r.set rv j) (by rw [List.length_set];exact hz) s.toks
 by_cases h0:0<=k
 ·have hk:k.toNat=j:=by
   rw [seqIndex_of h0 h4] at h1
   exact Option.some.inj h1
  exact PySem.W.ki_setAt ho h0 (by omega) (by rw [List.size_toArray,<- hl];exact h4) (by rw [hk];exact⟨_,I',q⟩)
 ·have hk:(k+(its.toArray.size:Int)).toNat=j:=by
   rw [seqIndex_neg (by omega) h3] at h1
   rw [List.size_toArray,<- hl]
   exact Option.some.inj h1
  exact PySem.W.ki_setBack ho (by omega) (by rw [List.size_toArray,<- hl];exact h3) (by omega) (by rw [hk];exact⟨_,I',q⟩)
theorem zhY(lo hi:Option Int)(n:Nat):(sliceBounds lo hi none n).1=((HT.sIx n 0 lo:Nat):Int)/\(sliceBounds lo hi none n).2.1=((HT.sIx n n hi:Nat):Int)/\(sliceBounds lo hi none n).2.2=1:=by
 refine⟨?_,?_,rfl⟩
 ·cases lo with
  | none=>simp [sliceBounds,HT.sIx]
  | some i =>
   simp only [sliceBounds,HT.sIx,Option.getD_none,show(1:Int) > 0 by decide,if_true]
   by_cases h:i<0
   ·simp only [h,if_true] <;> omega
   ·simp only [h,if_false] <;> omega
 ·cases hi with
  | none=>simp [sliceBounds,HT.sIx]
  | some i =>
   simp only [sliceBounds,HT.sIx,Option.getD_none,show(1:Int) > 0 by decide,if_true]
   by_cases h:i<0
   ·simp only [h,if_true] <;> omega
   ·simp only [h,if_false] <;> omega
theorem zgZ(its:List Value)(lo hi:Option Int):slicePick its.toArray lo hi none=((its.drop (HT.sIx its.length 0 lo)).take (HT.sIx its.length its.length hi-HT.sIx its.length 0 lo)).toArray:=by
 obtain⟨h1,h2,h3⟩:=zhY lo hi its.toArray.size
 unfold slicePick
 rw [h1,h2,h3]
 simp only [sliceRange_one,pick_run,List.size_toArray] <;> rfl
def zvH(K:PySem.W.Frag):V->Option Int->Option Int->Hp->VK->Prop:=fun x lo hi H Q=>∃ a xs,x=.ref a/\SqL K H a xs/\∀ p,H p=none->Q (.ref p) (upd H p (.lst (zoE xs lo hi)))
theorem zpT:SlR X (zvH X.K):=by
 intro pins s σ H x v vl vu lo hi sl Q I rx hs pl pu h
 obtain⟨a,xs,rfl,hx,q⟩:=h
 cases rx
 obtain⟨its,r,ht,hz⟩:=I.list hx
 have hlen:=r.length
 refine⟨"list",_,slot_list_getitem.lookup,ht.isList.typeIs,?_⟩
 refine wpAny_getItem_list_slice ht.isList hs pl pu .none (by simp) ?_ (by rw [List.size_toArray] <;> omega)
 rw [zgZ,<- hlen]
 refine⟨.ref s.heap.objs.size,_,I.laid (t':=s.toks) (o:=.lst (zoE xs lo hi)) (fun b ob q=>Heap.get?_push_of_some _ q) (Nat.le_refl _) ?_,rfl,q _ (I.hok.fresh (Nat.le_refl _))⟩
 exact⟨Nat.le_trans (zf0 xs lo hi) hz,_,0,(r.drop (HT.sIx xs.length 0 lo)).take (HT.sIx xs.length xs.length hi-HT.sIx xs.length 0 lo),Heap.get?_push_size _ rfl⟩
theorem zeT:zc3 X (.builtin "len") (fun xs H Q=>∃ p ys,xs=[.ref p]/\(SqL X.K H p ys\/SqT X.K H p ys)/\Q (.int ys.length) H):=by
 intro pins s σ H xs us Q I r h
 obtain⟨p,ys,rfl,hq,q⟩:=h
 obtain⟨u,rfl,rx⟩:=vals1 r
 cases rx
 have hn:=zid
 rcases hq with hq|hq
 ·obtain⟨its,r',pl,hz⟩:=I.list hq
  have hlen:=r'.length
  exact Calls.call_len_list pl.isList (by simp only [List.size_toArray] <;> omega) ⟨.int ys.length,H,I.tok _,⟨s.toks+1,by rw [List.size_toArray,hlen]⟩,q⟩
 ·obtain⟨its,r',pl,hz⟩:=I.tuple hq
  have hlen:=r'.length
  exact len_tuple pl (by simp only [List.size_toArray] <;> omega) ⟨.int ys.length,H,I.tok _,⟨s.toks+1,by rw [List.size_toArray,hlen]⟩,q⟩
theorem zdj:zc3 X (.type "list") (fun xs H Q=>∃ p ys,xs=[.ref p]/\(SqL X.K H p ys\/SqT X.K H p ys)/\∀ l,H l=none->Q (.ref l) (upd H l (.lst ys))):=by
 intro pins s σ H xs us Q I r h
 obtain⟨p,ys,rfl,hq,q⟩:=h
 obtain⟨u,rfl,rx⟩:=vals1 r
 cases rx
 have fin:∀(its:List Value),Vals ys its->ys.length<=sizeLine->∀(h':Heap) (c':Nat),(∀ b o',s.heap.get? b=some o'->h'.get? b=some o') ->
   h'.get? s.heap.objs.size=some { cls:=.type "list",dict:=none,data:=.seq its.toArray c',slots:=#[] }->EP X pins σ Q (.ref s.heap.objs.size) { s with heap:=h' }:=fun its r' hz h' c' kp e =>
  ⟨.ref s.heap.objs.size,_,I.laid (t':=s.toks) kp (Nat.le_refl _) (show zbR X.prog X.w _ h' _ (.lst ys) from⟨hz,its,c',r',e⟩),rfl,q _ (I.hok.fresh (Nat.le_refl _))⟩
 rcases hq with hq|hq
 ·obtain⟨its,r',pl,hz⟩:=I.list hq
  have hlen:=r'.length
  obtain⟨o,ho,hc,n,hd⟩:=pl.isList
  exact call_list_seq p (.inl rfl) ho hc hd (fun h' c' kp e=>fin its r' hz h' c' kp e) (by simp only [List.size_toArray] <;> omega)
 ·obtain⟨its,r',pl,hz⟩:=I.tuple hq
  have hlen:=r'.length
  obtain⟨o,ho,hc,n,hd⟩:=pl
  exact call_list_seq p (.inr rfl) ho hc hd (fun h' c' kp e=>fin its r' hz h' c' kp e) (by simp only [List.size_toArray] <;> omega)
theorem zej:zc3 X (.type "tuple") (fun xs H Q=>∃ p ys,xs=[.ref p]/\((SqL X.K H p ys/\∀ l,H l=none->Q (.ref l) (upd H l (.tup ys)))\/(SqT X.K H p ys/\Q (.ref p) H))):=by
 intro pins s σ H xs us Q I r h
 obtain⟨p,ys,rfl,h⟩:=h
 obtain⟨u,rfl,rx⟩:=vals1 r
 cases rx
 rcases h with⟨hq,q⟩|⟨hq,q⟩
 ·obtain⟨its,r',pl,hz⟩:=I.list hq
  have hlen:=r'.length
  refine call_tuple_list pl.isList (fun h' kp=>?_) (by simp only [List.size_toArray] <;> omega)
  have I1:Inv X pins σ H { s with heap:=h' }:=I.kept (t':=s.toks) kp
  have I2:Inv X pins σ (upd H h'.objs.size (.tup ys)) { s with heap:=h'.push { cls:=.type "tuple",data:=.seq its.toArray } } :=
   I1.laid (t':=s.toks) (fun b o e=>Heap.get?_push_of_some _ e) (Nat.le_refl _) (show zbR X.prog X.w _ _ _ (.tup ys) from⟨hz,its,r',IsTup.new _ _⟩)
  exact⟨.ref h'.objs.size,_,I2,rfl,q _ (I1.hok.fresh (Nat.le_refl _))⟩
 ·obtain⟨its,r',pl,hz⟩:=I.tuple hq
  exact call_tuple_same pl ⟨.ref p,H,I,rfl,q⟩
def tyV(K:PySem.W.Frag)(T:String)(x:V)(H:Hp):Prop:=match x with
 | .str _=>T="str"
 | .int _=>T="int"
 | .ref p=>(T="list"/\∃ xs,SqL K H p xs)\/(T="tuple"/\∃ o,K.lookup p=some o/\o.cls=.type "tuple"/\o.dict=none) \/
   (T="dict"/\((∃ kvs,H p=some (.dK kvs))\/∃ kvs,H p=some (.dT kvs)))\/(T="set"/\∃ S n,H p=some (.set S n))
 | _=>False
theorem zoW{pins:List (Addr×Obj)}{σ:St}{H:Hp}{s:Shared}{T:String}{x:V}{v:Value}(I:Inv X pins σ H s)(r:RelV x v)(ty:tyV X.K T x H) :
  s.TypeIs v T/\∀ a,v=.ref a->∃ ob,s.heap.get? a=some ob/\ob.dict=none:=by
 cases x with
 | str z =>
  obtain⟨t,rfl⟩:=r
  cases (show T="str" from ty)
  exact⟨typeIs_str s z t,fun _ e=>nomatch e⟩
 | int i =>
  obtain⟨t,rfl⟩:=r
  cases (show T="int" from ty)
  exact⟨typeIs_int s i t,fun _ e=>nomatch e⟩
 | ref p =>
  cases r
  rcases ty with⟨rfl,xs,hq⟩|⟨rfl,o,hk,hc,hd⟩|⟨rfl,hk⟩|⟨rfl,S,n,hk⟩
  ·obtain⟨its,_,pl,_⟩:=I.list hq
   refine⟨pl.isList.typeIs,fun a e=>?_⟩
   cases e
   obtain⟨o,n,e,c,hd,_⟩:=pl
   exact⟨o,e,hd⟩
  ·refine⟨⟨o,I.kIn p o hk,hc⟩,fun a e=>?_⟩
   cases e
   exact⟨o,I.kIn _ o hk,hd⟩
  ·have z:∃ o,s.heap.get? p=some o/\o.ExactDict:=by
    rcases hk with⟨kvs,hk⟩|⟨kvs,hk⟩
    ·obtain⟨_,_,_,_,o,_,_,e,ex,_⟩:=I.hok p _ hk
     exact⟨o,e,ex⟩
    ·obtain⟨_,_,_,_,o,_,_,e,ex,_⟩:=I.hok p _ hk
     exact⟨o,e,ex⟩
   obtain⟨o,e,ex⟩:=z
   refine⟨⟨o,e,ex.1⟩,fun a e2=>?_⟩
   cases e2
   exact⟨o,e,ex.2.1⟩
  ·obtain⟨o,_,_,_,e,ex,_⟩:=I.hok p _ hk
   refine⟨⟨o,e,ex.1⟩,fun a e2=>?_⟩
   cases e2
   exact⟨o,e,ex.2.1⟩
 | _=>exact False.elim ty
def zvA(K:PySem.W.Frag)(T:String)(r:V->List V->Hp->VK->Prop)(to:TE):TE:=fun σ H Q=>to σ H fun x H1=>tyV K T x H1/\r x [] H1 Q
def tBM(K:PySem.W.Frag)(T:String)(r:V->List V->Hp->VK->Prop)(to:TE)(t:TA):TE:=fun σ H Q=>to σ H fun x H1=>tyV K T x H1/\t σ H1 fun xs H2=>r x xs H2 Q
variable {o e:Expr}{es:List Expr}{to:TE}{t:TA}{name:Str}{apos cpos:Pos}{T id:String}{r:V->List V->Hp->VK->Prop}
theorem zo9(pa:PlainAttrs T)(slot:Slot T name id)(hty:typeOf (.builtin id)=pure (.type "method_descriptor")) (hm:MtR X id r) (ho:PE X o to)
  (hbase:attributeBase o name X.env (eval o X.env)=eval o X.env:=by rfl) (hline:(apos.endLine==cpos.line)=true:=by rfl):PE X (.Call (.Attribute o name apos) [] [] cpos) (zvA X.K T r to):=by
 intro pins s σ H Q I h
 refine wpAny_Call_method0_late hbase hline (thn (ho pins s σ H _ I h) fun v s1 ⟨x,H1,I1,r1,ty,q1⟩=>?_)
 obtain⟨h1,h2⟩:=zoW I1 r1 ty
 exact⟨T,id,pa,slot,hty,h1,h2,Calls.callWith_builtin rfl (PySem.evalArgs_none (hm pins s1 σ H1 x [] v [] Q I1 r1 .nil q1))⟩
theorem zuc(pa:PlainAttrs T)(slot:Slot T name id)(hty:typeOf (.builtin id)=pure (.type "method_descriptor")) (hm:MtR X id r) (ho:PE X o to) (ha:PA X (e::es) t)
  (hbase:attributeBase o name X.env (eval o X.env)=eval o X.env:=by rfl)
  (hfew:((backTo cpos (starEach (e::es) X.env)).all (fun x=>!x.1)&&(backToKw cpos (keywordEach [] X.env)).all (fun x=>x.1.isSome)
   && decide ((e::es).length+([]:List Keyword).length+(if([]:List Keyword).isEmpty then 0 else 1)<30))=true:=by rfl)
  (hline:(apos.endLine==cpos.line)=true:=by rfl) (hs:starEach (e::es) X.env=(false,eval e X.env)::starEach es X.env:=by rfl) (hplain:(backTo cpos (starEach es X.env)).any (·.1)=false:=by rfl) :
  PE X (.Call (.Attribute o name apos) (e::es) [] cpos) (tBM X.K T r to t):=by
 intro pins s σ H Q I h
 refine wpAny_Call_method_late hbase hfew hline rfl (thn (ho pins s σ H _ I h) fun v s1 ⟨x,H1,I1,r1,ty,q1⟩=>?_)
 obtain⟨h1,h2⟩:=zoW I1 r1 ty
 refine⟨T,id,pa,slot,hty,h1,h2,?_⟩
 have hA:=ha cpos pins s1 σ H1 _ I1 q1
 rw [hs] at hA ⊢
 refine Calls.callWith_builtin (by show(false||(backTo cpos (starEach es X.env)).any (·.1))=false;rw [hplain] <;> rfl) (Calls.evalArgs_plain ?_)
 exact thn hA fun us s2 ⟨vs,H2,I2,r2,q2⟩=>hm pins s2 σ H2 x vs v us Q I2 r1 r2 q2
end
end
section
def MtM(X:Cx)(id:String)(r:V->List V->Hp->VK->Prop):Prop :=
 ∀(pins:List (Addr×Obj)) (s:Shared) (σ:St) (H:Hp) (x:V) (xs:List V) (v:Value) (us:List Value) (Q:VK),Inv X pins σ H s->RelV x v->Vals xs us->r x xs H Q ->
  wpAny (model X.prog X.w) X.A (call (.builtin id) (v::us)) (EP X pins σ Q) X.xe s
theorem Vals.one:∀{x:V} {us:List Value},Vals [x] us->∃ u,us=[u]/\RelV x u
 | _,_,.cons r .nil=>⟨_,rfl,r⟩
theorem Vals.zero:∀{us:List Value},Vals [] us->us=[]
 | _,.nil=>rfl
theorem Vals.rep{xs:List V}{us:List Value}(h:Vals xs us):∀ k:Nat,Vals (List.replicate k xs).flatten (List.replicate k us).flatten
 | 0=>.nil
 | k+1=>by
  rw [List.replicate_succ,List.replicate_succ,List.flatten_cons,List.flatten_cons]
  exact Vals.append h (Vals.rep h k)
theorem foldl_rep(its:List Value):∀(k:Nat) (acc:List Value),
  List.foldl (fun x1 x2=>x1++x2) acc.toArray (List.replicate k its.toArray)=(acc++(List.replicate k its).flatten).toArray
 | 0,acc=>by simp
 | k+1,acc=>by
  have e:acc.toArray++its.toArray=(acc++its).toArray:=by simp
  have e2:(acc++its)++(List.replicate k its).flatten=acc++(List.replicate (k+1) its).flatten:=by
   rw [List.replicate_succ,List.flatten_cons,List.append_assoc]
  rw [<- e2,<- foldl_rep its k (acc++its),<- e,List.replicate_succ,List.foldl_cons]
section
variable {X:Cx}{pins:List (Addr×Obj)}{σ:St}{H:Hp}{s:Shared}{l b:Addr}{xs ys zs:List V}
theorem Inv.zve{its its':List Value}{n:Nat}{f:Array Value->Array Value}{t':Nat}(I:Inv X pins σ H s)(hH:H l=some (.lst xs))
  (e:s.heap.get? l=some { cls:=.type "list",data:=.seq its.toArray n }) (hf:f its.toArray=its'.toArray) (hv:Vals ys its') (hz:ys.length<=sizeLine) :
  Inv X pins σ (upd H l (.lst ys)) { s with heap:=s.heap.update l (Obj.mapSeq f),toks:=t' }:=by
 have q:=PySem.IsL.update e f
 rw [hf] at q
 refine I.write (x:=l) (e:=l) (by rw [hH];exact trivial) (.inl rfl) (fun b' u hb hu=>(Heap.get?_update_other s.heap (Obj.mapSeq f) (Ne.symm hb)).trans hu) ⟨_,q⟩ ?_
 exact⟨hz,its',_,hv,q⟩
theorem Inv.zus{its:List Value}{t':Nat}(I:Inv X pins σ H s)(hv:Vals ys its)(hz:ys.length<=sizeLine) :
  Inv X pins σ (upd H s.heap.objs.size (.lst ys)) { s with heap:=s.heap.push { cls:=.type "list",data:=.seq its.toArray },toks:=t' } :=
 I.laid (fun _ _ q=>Heap.get?_push_of_some _ q) (Nat.le_refl _) ⟨hz,its,0,hv,Heap.get?_push_size _ rfl⟩
theorem Inv.fresh(I:Inv X pins σ H s):H s.heap.objs.size=none:=I.hok.fresh (Nat.le_refl _)
theorem Inv.zup(I:Inv X pins σ H s)(hH:H l=some (.lst xs)):xs.length<=sizeLine/\∃(its:List Value) (n:Nat),Vals xs its/\xs.length=its.length/\s.heap.get? l=some { cls:=.type "list",data:=.seq its.toArray n }:=by
 obtain⟨z,its,n,r,e⟩:=I.hok l _ hH
 exact⟨z,its,n,r,r.length,e⟩
theorem zn9{n:Nat}(h:n<=sizeLine):Builtin.List.listTooLong n=false:=by
 unfold Builtin.List.listTooLong
 exact decide_eq_false (by omega)
end
section
variable {X:Cx}
def zpZ:V->List V->Hp->VK->Prop:=fun x vs H Q=>∃ l xs y,x=.ref l/\vs=[y]/\H l=some (.lst xs)/\xs.length<sizeLine/\Q .non (upd H l (.lst (xs++[y])))
theorem zfG:MtM X "list.append" zpZ:=by
 intro pins s σ H x vs v us Q I rx rv h
 obtain⟨l,xs,y,rfl,rfl,hH,hz,q⟩:=h
 cases rx
 obtain⟨u,rfl,ru⟩:=rv.one
 obtain⟨z,its,n,r,hl,e⟩:=I.zup hH
 refine call_meets F.slot_list_append ⟨_,e,rfl⟩ F.entry_list_append (F.args_list_append_2 _ _) (PySem.list_append l its.toArray n u (by rw [List.size_toArray];omega)) ⟨e,?_⟩
 refine⟨.non,_,I.zve (its':=its++[u]) hH e (by simp) (r.append (.cons ru .nil)) ?_,rfl,q⟩
 rw [List.length_append,List.length_singleton]
 omega
def zrY:V->List V->Hp->VK->Prop:=fun x vs H Q=>∃ l xs,x=.ref l/\vs=[]/\H l=some (.lst xs)/\Q .non (upd H l (.lst []))
theorem zj9:MtM X "list.clear" zrY:=by
 intro pins s σ H x vs v us Q I rx rv h
 obtain⟨l,xs,rfl,rfl,hH,q⟩:=h
 cases rx
 have hus:=rv.zero
 subst hus
 obtain⟨z,its,n,r,hl,e⟩:=I.zup hH
 refine call_meets F.slot_list_clear ⟨_,e,rfl⟩ F.entry_list_clear (F.args_list_clear_1 _) (AutoSeq1.list_clear_list_0 l its.toArray n (by rw [List.size_toArray];omega)) ⟨e,?_⟩
 exact⟨.non,_,I.zve (its':=[]) (ys:=[]) hH e rfl .nil (Nat.zero_le _),rfl,q⟩
def zvI:R2:=fun x y H Q=>∃ l k xs,x=.ref l/\y=.int k/\H l=some (.lst xs)/\-(2^63)<=k/\k<2^63/\xs.length*k.toNat<=sizeLine /\
 ∀ p,H p=none->Q (.ref p) (upd H p (.lst (List.replicate k.toNat xs).flatten))
theorem len_rep{α:Type}(xs:List α)(k:Nat):(List.replicate k xs).flatten.length=k*xs.length:=by
 induction k with
 | zero=>simp
 | succ k ih=>rw [List.replicate_succ,List.flatten_cons,List.length_append,ih,Nat.succ_mul,Nat.add_comm]
theorem zsx:OpR X (binaryOp .Mult) zvI:=by
 intro pins s σ H x y v u Q I rx ry h
 obtain⟨l,k,xs,rfl,rfl,hH,h1,h2,hz,q⟩:=h
 cases rx
 obtain⟨t,rfl⟩:=ry
 obtain⟨z,its,n,r,hl,e⟩:=I.zup hH
 have hlen:its.toArray.size*k.toNat<=sizeLine:=by rw [List.size_toArray,<- hl];exact hz
 have hcap:¬ its.toArray.size*k.toNat > (2^63-1) / 8:=by
  have:(sizeLine:Nat)<=(2^63-1) / 8:=by decide
  omega
 have hfit:¬ (!Builtin.List.listFitsIndex k)=true:=by
  rw [fitsIndex_both h1 h2]
  exact Bool.false_ne_true
 have hlong:¬ Builtin.List.listTooLong (its.toArray.size*k.toNat)=true:=by
  rw [zn9 hlen]
  exact Bool.false_ne_true
 have hnew:List.foldl (fun x1 x2=>x1++x2) #[] (List.replicate (if its.toArray.isEmpty=true then 0 else k.toNat) its.toArray)=(List.replicate k.toNat its).flatten.toArray:=by
  have f0:∀ m:Nat,List.foldl (fun x1 x2=>x1++x2) #[] (List.replicate m its.toArray)=(List.replicate m its).flatten.toArray:=fun m=>by
   have:=foldl_rep its m []
   rw [List.nil_append] at this
   exact this
  rw [f0]
  cases its with
  | nil=>simp
  | cons a r'=>rw [if_neg (by simp)]
 refine wpAny_binaryOp_repeat_ref (T:="list") (U:="int") (by decide) ⟨_,e,rfl⟩ (fun s'=>typeIs_int s' k t) noFill_list_mul F.fills_int_mul F.slot_int_rmul repeat_list F.slot_int_index.lookup
  (call_meets F.slot_int_rmul (typeIs_int s k t) F.entry_int_rmul (F.args_int_rmul_2 _ _) (int___rmul___int_list k t l its.toArray n)
   ⟨e,rfl,⟨_,e,rfl⟩,call_meets F.slot_list_mul ⟨_,e,rfl⟩ F.entry_list_mul (F.args_list_mul_2 _ _) (AutoListH.list___mul___list_int_3 l its.toArray n k t hfit hcap hlong) ⟨e,?_⟩⟩)
 rw [hnew]
 exact⟨.ref _,_,I.zus (t':=s.toks) (r.rep k.toNat) (by rw [len_rep,Nat.mul_comm];exact hz),rfl,q _ I.fresh⟩
end
end
end L2
namespace Att
open PySem PySem.W PySem.Calls PyProof.Rows
theorem zfR{P:Params}{h:Heap}:∀(ns:List Int) (vs:List Value),WellAll P h vs (ns.map WData.int)->IntsAre vs ns:=by
 intro ns
 induction ns with
 | nil =>
  intro vs w
  rw [List.map_nil] at w
  cases w
  exact .nil
 | cons n ns ih =>
  intro vs w
  rw [List.map_cons] at w
  cases w with
  | cons a b =>
   cases a
   exact .cons _ _ (ih _ b)
theorem zlw{l:OpenLaw}{n:Nat}(hn:l.most=some n){P:Params}{h:Heap}{args:List WData}{vals:List Value}
  (hpre:l.row.toRowW.claim.pre args=true)(hwl:WellAll P h vals args) :
  ∃ a vs ns,vals=[Value.ref a]/\args=[WData.list (ns.map WData.int)]/\h.get? a=some { cls:=.type "list",data:=.seq vs.toArray }/\IntsAre vs ns/\ns.length<=n:=by
 have hsh:WShape.hasAll [] args [.list .int]=true:=(pre_splitW hpre).1
 have hc:l.pre.holds [] { args:=args }=true:=(pre_splitW hpre).2
 obtain⟨d,r,rfl,h1,h2⟩:=hasAllW_cons hsh
 obtain rfl:=hasAllW_nil h2
 obtain⟨xs,rfl,h3⟩:=hasW_list h1
 obtain⟨ns,rfl⟩:=items_int h3
 have hlen:ns.length<=n:=by
  unfold OpenLaw.pre at hc
  have h4:(WTm.not (.lt (.lit (.int n)) (.len (.arg 0)))).holds [] { args:=[.list (ns.map .int)] }=true:=by
   have h4:=(holds_andW hc).1
   rw [hn] at h4
   exact h4
  have h5:=condW_of h4 (w_not (w_lt w_lit (w_len_list (w_arg rfl))))
  rw [List.length_map] at h5
  refine Nat.le_of_not_lt fun q=>?_
  have q':(n:Int)<((ns.length:Nat):Int):=by omega
  first
   | (rw [decide_eq_true q'] at h5;exact absurd h5 (by decide))
   | (simp at h5;omega)
 cases hwl with
 | cons w1 w2 =>
  cases w2
  cases w1 with
  | list ho hall=>exact⟨_,_,ns,rfl,rfl,ho,zfR ns _ hall,hlen⟩
theorem zlQ(l:OpenLaw)(args:List WData):l.row.toRowW.claim.post args (.bool true) args=true :=
 postW_of (r:=l.row.toRowW) (X:=(true==true))
  (show WShape.has [] (.bool true) .bool=true by first|rfl|decide|simp [WShape.has,WShape.arms,WShape.armsAll])
  (show(WTm.eq .res (.lit (.bool true))).value [] { args:=args,res:=some (.bool true),after:=args }=some (.bool (true==true)) from w_eq_bool (w_res rfl) w_lit) rfl
theorem zjy{l:OpenLaw}{n:Nat}{q:Program}{loose:List Str}{XP:(Str->Option Value)->Heap->Prop}{YP:World->Heap->Prop}{d:DefRec}
  (hn:l.most=some n)(hdf:d.params.defaults=[])
  (call:∀(w:World) (s₀ s₁:Shared) (mg mb:Str->Option Value) (fa:Addr) (o:Obj) (pm cd doc:Value) (a:Addr) (vs:List Value) (ns:List Int),
   Ground q loose [] XP w s₀ mg mb s₁.heap->YP w s₁.heap ->
   s₁.heap.get? fa=some o->o.data=.func (docDef d.name d.params d.body d.scope pm cd doc)->s₁.heap.CodeRec cd d.name->mg d.name=some (.ref fa) ->
   s₁.heap.get? a=some { cls:=.type "list",data:=.seq vs.toArray }->IntsAre vs ns->ns.length<=n->s₁.gens=#[] ->
   codeAny (model l.prog w) callerA (.call (.ref fa) ⟨[.ref a],[]⟩) (fun r s'=>r=.ok (.ret (.bool true))/\OldK s₁.heap s'.heap/\s'.os=s₁.os/\AllBare s'.gens) s₁) :
  WalkO q loose XP YP l.row.toRowW d [] (fun f vs=>PySem.call f vs):=by
 intro w s₀ s₁ mg mb G Y fa o pm cd doc dV kV ho hd hcd hD hmg hg args vals as hpre hlay hrd hwl hlo
 obtain rfl:dV=.none:=Dflts.none hD hdf
 obtain rfl:kV=.none:=Dflts.noKw hD
 obtain⟨a,vs,ns,rfl,rfl,hobj,hints,hlen⟩:=zlw hn hpre hwl
 refine enter_call (codeAny_mono (call w s₀ s₁ mg mb fa o pm cd doc a vs ns G Y ho (fd_plain hd) hcd hmg hobj hints hlen hg) fun r s' hq=>?_)
 obtain⟨rfl,h2,h3,h4⟩:=hq
 exact⟨.inl ⟨.bool true,.bool true,[],rfl,fun _=>rfl,.bool true,zlQ l _,fun _=>⟨List.Pairwise.nil,fun _ hm=>(nomatch hm)⟩⟩,h2,h3,h4⟩
end Att
namespace L2
open PySem PySem.Spec PyProof.Rows
section
theorem zhS:∀{vs:List Value} {ns:List Int},IntsAre vs ns->Vals (ns.map V.int) vs
 | _,_,.nil=>.nil
 | _,_,.cons n t h=>.cons ⟨t,rfl⟩ (zhS h)
end
section
abbrev KOf{K:PySem.W.Frag}{h:Heap}(_:K.In h):PySem.W.Frag:=K
end
section
def zbM(s:Stmt):Arguments:=match s with
 | .FunctionDef _ a _ _ _ _ _ _ _ _=>a
 | _=>{ posonlyargs:=[],args:=[],vararg:=none,kwonlyargs:=[],kw_defaults:=[],kwarg:=none,defaults:=[] }
def zaB(s:Stmt):List Stmt:=match s with
 | .FunctionDef _ _ b _ _ _ _ _ _ _=>b
 | _=>[]
def zak(s:Stmt):Scope:=match s with
 | .FunctionDef _ _ _ _ _ _ sc _ _ _=>sc
 | _=>{ kind:=.function,names:=[],isGenerator:=false,isCoroutine:=false }
abbrev E0:XK:=fun _ _ _=>False
structure Fun(K:PySem.W.Frag)(x qual:Str)(st:Stmt)(f:Addr)(fd:FuncData):Prop where
 ex:∃(oc:Value) (od:Option Addr) (kV doc pm:Value) (an:Option Addr) (cdv ct:Value) (osl:Array (Option Value)),
  fd=PySem.W.fnOf x qual (zbM st) (zaB st) (zak st) .none kV doc pm an cdv ct/\K.lookup f=some ⟨oc,od,.func fd,osl⟩/\PySem.W.codeIn K cdv qual=true
 kp:PySem.W.keepIn K (.ref f)=true
section
variable {P:Program}{w:World}{K:PySem.W.Frag}{mg:Str->Option Value}{base:Heap}
theorem Fun.binds{x qual:Str}{st:Stmt}{f:Addr}{fd:FuncData}{ps:List Str}(F:Fun K x qual st f fd)
  (h:∀(kV doc pm:Value) (an:Option Addr) (cdv ct:Value) (us:List Value),us.length=ps.length->bindArgs (PySem.W.fnOf x qual (zbM st) (zaB st) (zak st) .none kV doc pm an cdv ct) ⟨us,[]⟩=pure (ps.zip us)):Binds K fd ps []:=by
 obtain⟨oc,od,kV,doc,pm,an,cdv,ct,osl,rfl,lk,hcd⟩:=F.ex
 exact .all (h kV doc pm an cdv ct)
theorem zmJ{x qual:Str}{st:Stmt}{f:Addr}{oc:Value}{od an:Option Addr}{osl:Array (Option Value)}{kV doc pm cdv ct:Value}(l:K.lookup f=some ⟨oc,od,.func (PySem.W.fnOf x qual (zbM st) (zaB st) (zak st) .none kV doc pm an cdv ct),osl⟩)
  (c:PySem.W.codeIn K cdv qual=true)(k:PySem.W.keepIn K (.ref f)=true):Fun K x qual st f (PySem.W.fnOf x qual (zbM st) (zaB st) (zak st) .none kV doc pm an cdv ct):=⟨⟨oc,od,kV,doc,pm,an,cdv,ct,osl,rfl,l,c⟩,k⟩
end
theorem zlu{n:Nat}(h:n<=1000):n<sizeLine:=Nat.lt_of_le_of_lt h (by decide)
section
variable {X:Cx}
theorem pv(i:Nat){x:Str}{pos:Pos}(hN:X.N[i]?=some x:=by rfl)(hv:Vis X.env.scope x:=by first|exact Or.inl rfl|exact Or.inr (Or.inl rfl)|exact Or.inr (Or.inr rfl))(hd:(x==("__debug__":Str))=false:=by decide)
  (hcd:(x==("__classdict__":Str))=false:=by decide):PE X (.Name x pos) (zdX i):=zo6 hN hv hd hcd
end
theorem zop{A B:Prop}(h:B):if false=true then A else B:=by
 rw [if_neg Bool.false_ne_true]
 exact h
theorem zoo{A B:Prop}(h:A):if true=true then A else B:=by
 rw [if_pos rfl]
 exact h
def zaM(H H':Hp):Prop:=∀ b o,H b=some o->H' b=some o
theorem zaM.refl(H:Hp):zaM H H:=fun _ _ h=>h
theorem zaM.trans{H H1 H2:Hp}(a:zaM H H1)(b:zaM H1 H2):zaM H H2:=fun c o h=>b c o (a c o h)
end
section
theorem bits_le{k:Int}{a:Nat}(h:k.natAbs<2^a):Builtin.Int.intBits k<=a:=by
 unfold Builtin.Int.intBits
 split
 ·exact Nat.zero_le _
 ·rename_i h0
  have hp:k.natAbs≠0:=by
   intro z
   apply h0
   have:k=0:=by omega
   subst this
   rfl
  have:=(Nat.log2_lt hp).mpr h
  omega
theorem mulOk_of{i j:Int}{a b:Nat}(hi:i.natAbs<2^a)(hj:j.natAbs<2^b)(h:a+b<=134217728):IntMulOk i j:=by
 have h1:=bits_le hi
 have h2:=bits_le hj
 have h3:Builtin.Int.intTooBig ((Builtin.Int.intBits i:Int)+(Builtin.Int.intBits j:Int))=false:=by
  unfold Builtin.Int.intTooBig
  rw [bitsLine_eq]
  simp
  omega
 unfold IntMulOk
 rw [h3]
 simp
section
variable {X:Cx}
theorem zqI:OpR X (binaryOp .Mult) (rI IntMulOk fun i j=>.int (i*j)):=opI fun _ _ _ _ _ _ _ hc q=>mul_int q hc
end
mutual
/-- the value v is the thing d in the abstract heap -/
def Is(K:PySem.W.Frag)(H:Hp):PyData->V->Prop
 | .none,v=>v=.non
 | .bool b,v=>v=.bl b
 | .int i,v=>v=.int i
 | .str x,v=>v=.str x
 | .list xs,v=>∃ a vs,v=.ref a/\SqL K H a vs/\zeK K H xs vs
 | .tuple xs,v=>∃ a vs,v=.ref a/\SqT K H a vs/\zeK K H xs vs
 | .dict _,_=>False
def zeK(K:PySem.W.Frag)(H:Hp):List PyData->List V->Prop
 | [],vs=>vs=[]
 | d::ds,vs=>∃ v r,vs=v::r/\Is K H d v/\zeK K H ds r
end
section
variable {X:Cx}{pins:List (Addr×Obj)}{σ:St}{H:Hp}{s:Shared}
mutual
theorem Is.reads(I:Inv X pins σ H s):∀(d:PyData) (v:V) (u:Value),Is X.K H d v->RelV v u->∃ as,Reads s.heap u d as
 | .none,v,u,h,r=>by
  simp only [Is] at h;subst h
  cases (show u=Value.none from r)
  exact⟨_,.none⟩
 | .bool b,v,u,h,r=>by
  simp only [Is] at h;subst h
  cases (show u=Value.bool b from r)
  exact⟨_,.bool b⟩
 | .int i,v,u,h,r=>by
  simp only [Is] at h;subst h
  obtain⟨t,rfl⟩:=(show ∃ t,u=Value.int i t from r)
  exact⟨_,.int i t⟩
 | .str x,v,u,h,r=>by
  simp only [Is] at h;subst h
  obtain⟨t,rfl⟩:=(show ∃ t,u=Value.str x t from r)
  exact⟨_,.str x t⟩
 | .list xs,v,u,h,r=>by
  simp only [Is] at h
  obtain⟨a,vs,rfl,h1,h2⟩:=h
  cases (show u=Value.ref a from r)
  obtain⟨its,rv,⟨o,n,ho,hc,_,hd⟩,_⟩:=I.list h1
  obtain⟨as,ra⟩:=zeK.reads I xs vs its h2 rv
  exact⟨_,.list ho hc hd (by simpa using ra)⟩
 | .tuple xs,v,u,h,r=>by
  simp only [Is] at h
  obtain⟨a,vs,rfl,h1,h2⟩:=h
  cases (show u=Value.ref a from r)
  obtain⟨its,rv,⟨o,ho,hc,n,hd⟩,_⟩:=I.tuple h1
  obtain⟨as,ra⟩:=zeK.reads I xs vs its h2 rv
  exact⟨_,.tuple ho hc hd (by simpa using ra)⟩
 | .dict _,v,u,h,r=>by simp only [Is] at h
theorem zeK.reads(I:Inv X pins σ H s):∀(ds:List PyData) (vs:List V) (us:List Value),zeK X.K H ds vs->Vals vs us->∃ as,ReadsAll s.heap us ds as
 | [],vs,us,h,r=>by
  simp only [zeK] at h;subst h
  cases r
  exact⟨_,.nil⟩
 | d::ds,vs,us,h,r=>by
  simp only [zeK] at h
  obtain⟨v,rr,rfl,h1,h2⟩:=h
  cases r with
  | cons r1 r2 =>
   obtain⟨as,q1⟩:=Is.reads I d v _ h1 r1
   obtain⟨bs,q2⟩:=zeK.reads I ds rr _ h2 r2
   exact⟨_,.cons q1 q2⟩
end
end
section
variable {X:Cx}
def zvN(K:PySem.W.Frag):R2:=fun x y H Q=>∃ d e,Is K H d x/\Is K H e y/\SeqAt.shaped d=true/\SeqAt.shaped e=true/\Q (.bl (PyData.eqv d e)) H
def zvJ(K:PySem.W.Frag):R2:=fun x y H Q=>∃ d e,Is K H d x/\Is K H e y/\SeqAt.shaped d=true/\SeqAt.shaped e=true/\Q (.bl (!PyData.eqv d e)) H
theorem zsB(hu:X.A.units+64<cLine):OpR X (compareOp .Eq) (zvN X.K):=by
 intro pins s σ H x y v u Q I rx ry h
 obtain⟨d,e,h1,h2,c1,c2,q⟩:=h
 obtain⟨as,ra⟩:=Is.reads I d x v h1 rx
 obtain⟨bs,rb⟩:=Is.reads I e y u h2 ry
 exact SeqAt.compareEq_shaped ra rb c1 c2 hu ⟨.bl _,H,I,rfl,q⟩
theorem zsz(hu:X.A.units+64<cLine):OpR X (compareOp .NotEq) (zvJ X.K):=by
 intro pins s σ H x y v u Q I rx ry h
 obtain⟨d,e,h1,h2,c1,c2,q⟩:=h
 obtain⟨as,ra⟩:=Is.reads I d x v h1 rx
 obtain⟨bs,rb⟩:=Is.reads I e y u h2 ry
 exact SeqAt.compareNe_shaped ra rb c1 c2 hu ⟨.bl _,H,I,rfl,q⟩
end
end
section
inductive Ty(K:PySem.W.Frag)(H:Hp):V->Value->Prop where
 | non:Ty K H .non (.type "NoneType")
 | bl (x:Bool):Ty K H (.bl x) (.type "bool")
 | int (i:Int):Ty K H (.int i) (.type "int")
 | str (x:Str):Ty K H (.str x) (.type "str")
 | lst {a:Addr} {xs:List V} (e:SqL K H a xs):Ty K H (.ref a) (.type "list")
 | tup {a:Addr} {xs:List V} (e:SqT K H a xs):Ty K H (.ref a) (.type "tuple")
def ztD:V->Value
 | .ty n=>.type n
 | .ref a=>.ref a
 | _=>.none
theorem zrj{y:V}{u:Value}(r:RelV y u)(h:ztD y≠.none):u=ztD y:=by
 cases y with
 | ty n=>exact r
 | ref a=>exact r
 | _=>exact absurd rfl h
section
variable {X:Cx}
theorem zsX{pins:List (Addr×Obj)}{σ:St}{H:Hp}{s:Shared}{A:Around}{E:Value->Shared->Prop}{Q:Value->Shared->Prop}{c:Value}{b:Bool}{x:V}{u t:Value}(I:Inv X pins σ H s)(rx:RelV x u)(ty:Ty X.K H x t)(e:PySem.W.kitOne X.K t c=some b)(h:∀ tk,Q (.bool b) { s with toks:=tk }) :
  wpAny (model X.prog X.w) A (call (.builtin "isinstance") [u,c]) Q E s:=by
 cases ty with
 | non=>cases (show u=Value.none from rx);exact PySem.W.kia_one PySem.W.kitx_none I.kIn True.intro e (fun z=>nomatch z) h
 | bl y=>cases (show u=Value.bool y from rx);exact PySem.W.kia_one PySem.W.kitx_bool I.kIn True.intro e (fun z=>nomatch z) h
 | int i=>obtain⟨t,q⟩:=(show ∃ t,u=Value.int i t from rx);cases q;exact PySem.W.kia_one PySem.W.kitx_int I.kIn True.intro e (fun z=>nomatch z) h
 | str y=>obtain⟨t,q⟩:=(show ∃ t,u=Value.str y t from rx);cases q;exact PySem.W.kia_one PySem.W.kitx_str I.kIn True.intro e (fun z=>nomatch z) h
 | @lst a xs ea =>
  cases (show u=Value.ref a from rx)
  obtain⟨its,_,⟨o,n,ho,hc,_⟩,_⟩:=I.list ea
  exact PySem.W.kia_one PySem.W.kitx_list I.kIn ⟨o,ho,hc⟩ e (fun z=>nomatch z) h
 | @tup a xs ea =>
  cases (show u=Value.ref a from rx)
  obtain⟨its,_,⟨o,ho,hc,_⟩,_⟩:=I.tuple ea
  exact PySem.W.kia_one PySem.W.kitx_tuple I.kIn ⟨o,ho,hc⟩ e (fun z=>nomatch z) h
def zvM(K:PySem.W.Frag):List V->Hp->VK->Prop:=fun xs H Q=>∃ x y t b,xs=[x,y]/\ztD y≠.none/\Ty K H x t/\PySem.W.kitOne K t (ztD y)=some b/\Q (.bl b) H
theorem zoI:zc3 X (.builtin "isinstance") (zvM X.K):=by
 intro pins s σ H xs us Q I r h
 obtain⟨x,y,t,b,rfl,hy,ty,e,q⟩:=h
 obtain⟨u,v,rfl,ru,rv⟩:=vals2 r
 cases zrj rv hy
 exact zsX I ru ty e fun tk=>⟨.bl b,H,I.tok tk,rfl,q⟩
theorem zub{x:Str}{n:String}{pos:Pos}(hg:Gl X x)(hm:X.mg x=none)(hv:bootBuiltins x=some (.type n))(hn:x ≠ "__name__":=by decide) (hd:(x==("__debug__":Str))=false:=by decide):PE X (.Name x pos) (tC (.ty n)):=zqE hg hm hv rfl hn hd
end
end
section
def zgm(cells:List (Str×Addr)):List (Str×NameKind)->List (Str×Addr)->List (Str×Addr)
 | [],acc=>acc
 | (n,k)::r,acc=>if k=.free then(match cells.lookup n with|some a=>zgm cells r ((n,a)::acc)|none=>zgm cells r acc) else zgm cells r acc
theorem zfi{cells:List (Str×Addr)}:∀{names:List (Str×NameKind)} {acc:List (Str×Addr)},(∀ p∈acc,cells.lookup p.1=some p.2)->∀ p∈zgm cells names acc,cells.lookup p.1=some p.2
 | [],acc,h,p,hp=>h p hp
 | (n,k)::r,acc,h,p,hp=>by
  unfold zgm at hp
  split at hp
  ·split at hp
   ·rename_i a e
    exact zfi (names:=r) (acc:=(n,a)::acc) (fun q hq=>by
     rcases List.mem_cons.mp hq with rfl|hq
     ·exact e
     ·exact h q hq) p hp
   ·exact zfi h p hp
  ·exact zfi h p hp
theorem zfj{cells:List (Str×Addr)}:∀{names:List (Str×NameKind)} {acc:List (Str×Addr)},∀ p∈acc,p∈zgm cells names acc
 | [],acc,p,hp=>hp
 | (n,k)::r,acc,p,hp=>by
  unfold zgm
  split
  ·split
   ·exact zfj p (List.mem_cons_of_mem _ hp)
   ·exact zfj p hp
  ·exact zfj p hp
theorem zei{cells:List (Str×Addr)}{x:Str}{a:Addr}(e:cells.lookup x=some a):∀{names:List (Str×NameKind)} {acc:List (Str×Addr)},(x,NameKind.free)∈names->(x,a)∈zgm cells names acc
 | (n,k)::r,acc,h=>by
  unfold zgm
  rcases List.mem_cons.mp h with h|h
  ·cases h
   rw [if_pos rfl,e]
   exact zfj _ (List.mem_cons_self ..)
  ·split
   ·split
    ·exact zei e h
    ·exact zei e h
   ·exact zei e h
theorem zbK{α:Type}{x:Str}{a:α}:∀{l:List (Str×α)},(x,a)∈l->∃ b,l.lookup x=some b
 | (y,b)::r,h=>by
  by_cases e:(x==y)=true
  ·exact⟨b,by simp [List.lookup_cons,e]⟩
  ·rcases List.mem_cons.mp h with h|h
   ·cases h
    exact absurd (beq_self_eq_true _) e
   ·obtain⟨c,hc⟩:=zbK h
    refine⟨c,?_⟩
    have e':(x==y)=false:=by simpa using e
    simp only [List.lookup_cons,e']
    exact hc
theorem zeh{scope:Scope}{env:Env}(h:∀ y∈scope.names,y.2=.free->∃ a,env.cells.lookup y.1=some a):closureFor scope env=pure (zgm env.cells scope.names []):=by
 have key:∀(names:List (Str×NameKind)) (acc:List (Str×Addr)),(∀ y∈names,y.2=.free->∃ a,env.cells.lookup y.1=some a) ->
   (forIn names acc (fun x r=>match x with
    | (name,kind)=>if(kind==NameKind.free)=true then do let a <- cellOf env name;pure (ForInStep.yield ((name,a)::r)) else pure (ForInStep.yield r)):Sem (List (Str×Addr)))=pure (zgm env.cells names acc):=by
  intro names
  induction names with
  | nil=>intro acc _;rfl
  | cons p r ih =>
   intro acc hh
   obtain⟨n,k⟩:=p
   rw [List.forIn_cons]
   by_cases hk:k=.free
   ·subst hk
    obtain⟨a,ea⟩:=hh (n,.free) (List.mem_cons_self ..) rfl
    have e1:cellOf env n=pure a:=by unfold cellOf;rw [ea]
    simp only [beq_self_eq_true,if_true,e1,pure_bind,zgm,ea]
    exact ih _ fun y hy=>hh y (List.mem_cons_of_mem _ hy)
   ·have hk':(k==NameKind.free)=false:=by simpa using hk
    simp only [hk',Bool.false_eq_true,if_false,pure_bind,zgm,hk]
    exact ih _ fun y hy=>hh y (List.mem_cons_of_mem _ hy)
 unfold closureFor
 exact(bind_pure _).trans (key scope.names [] h)
theorem za2{scope:Scope}{env:Env}{x:Str}{k:NameKind}:∀{names:List (Str×NameKind)},
  (names.map fun(n,k)=>if(k==NameKind.free&&env.scope.kind==.function&&env.kindOf n==some .cell) then(n,NameKind.cell) else(n,k)).lookup x=some k ->
  ∃ k0,names.lookup x=some k0/\(x,k0)∈names/\(k0=k\/(k0=.free/\k=.cell))
 | [],h=>by simp at h
 | (n,k0)::r,h=>by
  by_cases e:(x==n)=true
  ·have en:x=n:=by simpa using e
   subst en
   refine⟨k0,by simp [List.lookup_cons],List.mem_cons_self ..,?_⟩
   rw [List.map_cons] at h
   by_cases hc:(k0==NameKind.free&&env.scope.kind==.function&&env.kindOf x==some .cell)=true
   ·simp only [hc,if_true,List.lookup_cons,beq_self_eq_true] at h
    simp only [Bool.and_eq_true,beq_iff_eq] at hc
    exact .inr ⟨hc.1.1,(Option.some.inj h).symm⟩
   ·simp only [hc,Bool.false_eq_true,if_false,List.lookup_cons,beq_self_eq_true] at h
    exact .inl (Option.some.inj h)
  ·have e':(x==n)=false:=by simpa using e
   rw [List.map_cons] at h
   have h':(r.map fun(n,k)=>if(k==NameKind.free&&env.scope.kind==.function&&env.kindOf n==some .cell) then(n,NameKind.cell) else(n,k)).lookup x=some k:=by
    by_cases hc:(k0==NameKind.free&&env.scope.kind==.function&&env.kindOf n==some .cell)=true
    ·simp only [hc,if_true,List.lookup_cons,e'] at h
     exact h
    ·simp only [hc,Bool.false_eq_true,if_false,List.lookup_cons,e'] at h
     exact h
   obtain⟨k1,h1,h2,h3⟩:=za2 (scope:=scope) h'
   exact⟨k1,by simp only [List.lookup_cons,e'];exact h1,List.mem_cons_of_mem _ h2,h3⟩
def zfk(X:Cx)(ix:List Nat):List Str:=ix.map fun i=>X.N.getD i ""
def zeq(k:Nat)(ix:List Nat)(σ:St):St:=List.replicate k none++ix.map fun i=>(σ[i]?).getD none
end
section
section
variable {prog:Program}{w:World}{A:Around}{R:Result->Shared->Prop}{s:Shared}
theorem zf2{elt target iter:Expr}{ifs:List Expr}{scope:Scope}{pos:Pos}{it acc:Value}{env:Env}(I:Nat->Shared->Prop)
  (turn:∀ n s,I n s->wpAny (model prog w) A (pyNext it) (fun r s₁=>match r with
   | none=>R (.ok .next) s₁
   | some v=>wpAny (model prog w) A (letOwnedTupleGo target it v) (fun _ s₀=>wpAny (model prog w) A (assign target env v) (fun _ s₂ =>
     wpAny (model prog w) A (forIn ifs true fun c r=>if r=true then do let ok <- isTrue c env (eval c env);pure (ForInStep.yield ok) else pure (ForInStep.yield r)) (fun ok s₃ =>
      if ok=true then wpAny (model prog w) A (eval elt env) (fun x s₄ =>
       wpAny (model prog w) A (call (.builtin "list.append") [acc,x]) (fun _ s₅=>∃ m,m<n/\I m s₅) (notedBy (model prog w) A env fun e s'=>R (.error e) s') s₄) (notedBy (model prog w) A env fun e s'=>R (.error e) s') s₃
      else ∃ m,m<n/\I m s₃) (notedBy (model prog w) A env fun e s'=>R (.error e) s') s₂) (notedBy (model prog w) A env fun e s'=>R (.error e) s') s₀) (notedBy (model prog w) A env fun e s'=>R (.error e) s') s₁) (notedBy (model prog w) A env fun e s'=>R (.error e) s') s)
  (n:Nat) (h:I n s) :
  codeAny (model prog w) A (.compLoop (.ListComp elt [⟨target,iter,ifs,0⟩] scope pos) 0 it acc env) R s:=by
 refine codeAny_loop rfl I (fun n s hI=>?_) n h
 show wpAny _ A ((compTurn (.ListComp elt [⟨target,iter,ifs,0⟩] scope pos) 0 it acc env).onRaise (fun x=>do noteFrame x env;theTreesLotGoes x)) _ _ s
 refine wpAny_noted ?_
 rw [compTurn_list]
 refine wpAny_bind (wpAny_standAt (wpAny_bind (wpAny_mono (turn n s hI) (fun r s₁ h₁=>?_) fun _ _ h'=>h')))
 cases r with
 | none=>exact wpAny_pure h₁
 | some v =>
  refine wpAny_bind (wpAny_mono h₁ (fun _ s₀ h₀=>?_) fun _ _ h'=>h')
  refine wpAny_bind (wpAny_mono h₀ (fun _ s₂ h₂=>wpAny_bind (wpAny_mono h₂ (fun ok s₃ h₃=>?_) fun _ _ h'=>h')) fun _ _ h'=>h')
  cases ok with
  | false=>exact wpAny_pure ⟨rfl,h₃⟩
  | true =>
   exact wpAny_bind (wpAny_bind (wpAny_mono h₃ (fun x s₄ h₄=>wpAny_bind (wpAny_mono h₄ (fun _ s₅ h₅=>wpAny_pure (wpAny_pure ⟨rfl,h₅⟩)) fun _ _ h'=>h')) fun _ _ h'=>h'))
end
def PTs(X:Cx)(ifs:List Expr)(t:TT):Prop :=
 ∀(pins:List (Addr×Obj)) (s:Shared) (σ:St) (H:Hp) (Q:Bool->Hp->Prop),Inv X pins σ H s->t σ H Q ->
  wpAny (model X.prog X.w) X.A (forIn ifs true fun c r=>if r=true then do let ok <- isTrue c X.env (eval c X.env);pure (ForInStep.yield ok) else pure (ForInStep.yield r)) (TP X pins σ Q) X.xe s
def zvB:TT:=fun _ H Q=>Q true H
theorem zqh{X:Cx}:PTs X [] zvB:=fun _ _ _ H _ I h=>wpAny_tests_nil ⟨H,I,h⟩
theorem zqg{X:Cx}{c:Expr}{t:TT}(hc:PT X c t):PTs X [c] t:=fun pins s σ H Q I h=>wpAny_tests_one (hc pins s σ H Q I h)
def zne(k:Nat)(g:TG):Prop:=∀ x σ H Q,g x σ H Q->g x σ H fun σ2 H2=>(σ2.length=σ.length/\∀ i:Nat,k<=i->σ2[i]?=σ[i]?)/\Q σ2 H2
def ziU(k:Nat)(ix:List Nat)(wi:TI)(g:TG)(tc:TT)(te:TE):TE:=fun σ H Q=>wi σ H fun J H1=>∀ l,H1 l=none ->
 ∃ W:Nat->Nat->List V->Hp->Prop,(∃ m,W 0 m [] (upd H1 l (.lst [])))/\∀ i m ys H2,W i m ys H2->H2 l=some (.lst ys) /\
  ((J.stop i H2/\Q (.ref l) H2)\/(J.go i H2/\∀ x H3,J.yld i H2 x H3->g x (zeq k ix σ) H3 fun σ2 H4=>tc σ2 H4 fun b H5 =>
   if b=true then te σ2 H5 fun v H6=>H6 l=some (.lst ys)/\ys.length<sizeLine/\∃ m',m'<m/\W (i+1) m' (ys++[v]) (upd H6 l (.lst (ys++[v]))) else ∃ m',m'<m/\W (i+1) m' ys H5))
end
section
def Fl(h:Heap)(e:Addr)(cls:Value)(dd:Option Addr)(T:Addr)(fl:Value):Prop :=
 ∃ oe vs oT ts,h.get? e=some oe/\oe.cls=cls/\oe.dict=dd/\oe.data=.fields vs/\vs[1]?=some (.ref T)/\T≠e/\h.get? T=some oT/\oT.data=.fields ts/\ts[3]?=some fl
end
section
theorem zbR.some{P:Program}{w:World}{H:Hp}{h:Heap}{a:Addr}{o:HO}(x:zbR P w H h a o):∃ ob,h.get? a=some ob:=by
 cases o with
 | lst xs=>obtain⟨_,_,_,_,e⟩:=x;exact⟨_,e⟩
 | tup xs=>obtain⟨_,_,_,ob,e,_⟩:=x;exact⟨_,e⟩
 | dK kvs=>obtain⟨_,_,_,_,ob,_,_,e,_⟩:=x;exact⟨_,e⟩
 | dT kvs=>obtain⟨_,_,_,_,ob,_,_,e,_⟩:=x;exact⟨_,e⟩
 | set S n=>obtain⟨ob,_,_,_,e,_⟩:=x;exact⟨_,e⟩
 | ins C dx fs=>obtain⟨_,_,_,e,_⟩:=x;exact⟨_,e⟩
 | own y=>exact x
 | xd fs=>obtain⟨_,⟨od,_,_,e,_⟩,_⟩:=x;exact⟨_,e⟩
 | met f y=>exact⟨_,x⟩
 | rng lo hi=>obtain⟨_,_,_,e⟩:=x;exact⟨_,e⟩
 | frz ob u=>exact⟨_,x.1⟩
 | tbl ps=>exact⟨_,x⟩
 | ext φ=>exact x.2.1
def CXe(P:Program)(w:World):CXT:=fun outer H s E ev s'=>∃(e:Addr) (cls:Value) (dd:Option Addr) (T:Addr) (H':Hp),ev=.ref e/\s'.os=s.os/\AllBare s'.gens/\Un (frs outer) [] H H' s.heap s'.heap/\HOk P w H' s'.heap /\
 Fl s'.heap e cls dd T .none/\H' e=none/\H' T=none/\s.heap.get? e=none/\s.heap.get? T=none/\E cls dd H'
theorem zey{P:Program}{w:World}{X:Cx}:Passes (CXe P w) X E0:=fun _ _ _ _ _ _ _ ⟨_,_,_,_,_,_,_,_,_,_,_,_,_,_,_,q⟩=>q.elim
section
variable {P:Program}{w:World}{K:PySem.W.Frag}{mg:Str->Option Value}{base:Heap}{N:List Str}{qual:Str}{scope:Scope}{f:Addr}{cd:Value}{A:Around}{outer:List Env}{s:Shared}{H:Hp}{E:XK}
theorem Fun.okE{x:Str}{st:Stmt}{fd:FuncData}{ps:List Str}{k:Nat}{sp:Sp}(F:Fun K x qual st f fd)(S:zbZ N ps (zak st))(len:∀ vs H Q E,sp vs H Q E->vs.length=ps.length)
  (hbody:∀(cdv:Value) (A:Around) (outer:List Env) (s:Shared) (H:Hp) (vs:List V) (Q:VK) (E:XK),zbU k (A.deeper (envOfC qual (zak st) s.heap.objs.size f cdv))->sp vs H Q E ->
   ∃ t,PSs (zjt (CXe P w) P w K mg base N qual (zak st) f cdv A outer s H E) (zaB st) t/\t { nx:=fun _ H'=>Q .non H',rt:=Q } (start N vs) H):zes P w K mg base (CXe P w) (k+1) f fd ps sp:=by
 obtain⟨oc,od,kV,doc,pm,an,cdv,ct,osl,rfl,lk,hcd⟩:=F.ex
 exact zuL lk hcd S len fun A outer s H vs Q E hr hsp=>hbody cdv A outer s H vs Q E hr hsp
end
end
section
def Nw(X:Cx)(pins:List (Addr×Obj))(b:Addr):Prop :=
 X.s₀.heap.get? b=none/\b≠X.env.locals/\b∉X.fs/\(∀ x c,X.env.cells.lookup x=some c->c≠b)/\∀ p∈X.pn++pins,p.1≠b
def XP(X:Cx)(pins:List (Addr×Obj))(σ:St)(E:XK)(ev:Value)(s':Shared):Prop :=
 ∃(e:Addr) (cls:Value) (dd:Option Addr) (T:Addr) (H':Hp),ev=.ref e/\Inv X pins σ H' s'/\Fl s'.heap e cls dd T .none/\H' e=none/\H' T=none/\Nw X pins e/\Nw X pins T/\E cls dd H'
abbrev TSX:=Ends->(St->XK)->St->Hp->Prop
end
section
end
section
end
section
def Has(K:PySem.W.Frag)(mg:Str->Option Value)(x:Str)(st:Stmt):Prop:=∃(f:Addr) (fd:FuncData),mg x=some (.ref f)/\Fun K x x st f fd
def Callee(P:Program)(w:World)(K:PySem.W.Frag)(mg:Str->Option Value)(base:Heap)(x:Str)(k:Nat)(ps:List Str)(sp:Sp):Prop :=
 ∃(f:Addr) (fd:FuncData),mg x=some (.ref f)/\PySem.W.keepIn K (.ref f)=true/\Binds K fd ps []/\zes P w K mg base (CXe P w) k f fd ps sp
section
variable {X:Cx}{k j:Nat}{ps:List Str}{sp:Sp}{E:XK}{x:Str}{p pos:Pos}{e:Expr}{es:List Expr}{t:TA}
theorem zd8(c:Callee X.prog X.w X.K X.mg X.base x k ps sp)(hr:zbU j X.A)(hg:Gl X x)(hx:Passes (CXe X.prog X.w) X E)(ha:PA X (e::es) t)(hj:k<=j:=by decide)(hdb:(x==("__debug__":Str))=false:=by decide)
  (he:starEach (e::es) X.env=(false,eval e X.env)::starEach es X.env:=by rfl) (hpl:(backTo pos (starEach es X.env)).any (·.1)=false:=by rfl):PE X (.Call (.Name x p) (e::es) [] pos) (zpQ sp [] E t):=by
 obtain⟨f,fd,hm,hk,hb,F⟩:=c
 exact zqD F (hr.mono hj) hg hm hk hb .nil hx ha hdb he hpl
end
end
section
end
section
end
section
theorem zaM.upd{H:Hp}{l:Addr}{o:HO}(h:H l=none):zaM H (upd H l o):=fun b u e=>by rw [zao (za8 e h)];exact e
end
section
end
section
end
section
section
variable {X:Cx}{pins:List (Addr×Obj)}{σ:List (Option V)}{H H':Hp}{s:Shared}{h':Heap}
theorem Inv.zew{t':Nat}{fp:List Addr}(I:Inv X pins σ H s)(k:∀ b o,b∉fp->s.heap.get? b=some o->h'.get? b=some o)(hf:∀ b∈fp,zhQ X pins H b):Inv X pins σ H { s with heap:=h',toks:=t' }:=by
 have nit:∀ b u,H b=some u->b∉fp:=fun b u e z=>by
  have:=(hf b z).1
  rw [e] at this
  cases this
 have hL:X.env.locals∉fp:=fun z=>(hf _ z).2.1 rfl
 refine I.step (g':=s.gens) (d':=s.drawn) (ch:=fp) (fun b hb=>?_) (fun b o _ _ hc e _=>k b o hc e) (fun b o _ _ hc e _=>⟨o.slots,k b o hc e⟩) (fun _ _ _ _ n=>n)
  (fun b o hc e=>⟨o,k b o hc e⟩) (fun _ _ e=>e) (fun _ _ _ e=>e) (fun b ps e=>⟨#[],by rw [e];simp⟩) (fun m hm=>?_) (fun b u e=>?_) I.bare
 ·obtain⟨_,h1,_,h3,h4,h5⟩:=hf b hb
  exact⟨h3,h1,h4,h5⟩
 ·obtain⟨o,es,ep,ho,r⟩:=hm
  exact⟨o,es,ep,k _ o hL ho,r⟩
 ·refine(I.hok b u e).stay (fun c v hc q=>k c v ?_ q) (fun _ q=>q) fun _ _ q=>q
  rcases hc with z|z
  ·rw [z];exact nit b u e
  ·exact nit c _ z
theorem Inv.ziT{t':Nat}{fp:List Addr}{xs:List V}{us:List Value}{n:Nat}(I:Inv X pins σ H s)(k:∀ b o,b∉fp->s.heap.get? b=some o->h'.get? b=some o)(hf:∀ b∈fp,zhQ X pins H b)(hfp:∀ b∈fp,b<s.heap.objs.size)
  (ht:h'.get? s.heap.objs.size=some { cls:=.type "tuple",data:=.seq us.toArray n }) (r:Vals xs us) (hz:xs.length<=sizeLine) :
  Inv X pins σ (upd H s.heap.objs.size (.tup xs)) { s with heap:=h',toks:=t' }:=by
 have I1:Inv X pins σ (upd H s.heap.objs.size (.tup xs)) { s with heap:=s.heap.push { cls:=.type "tuple",data:=.seq us.toArray n },toks:=s.toks } :=
  I.laid (t':=s.toks) (fun b u e=>Heap.get?_push_of_some _ e) (Nat.le_refl _) ⟨hz,us,r,⟨_,Heap.get?_push_size _ rfl,rfl,_,rfl⟩⟩
 refine Inv.zew (s:={ s with heap:=s.heap.push { cls:=.type "tuple",data:=.seq us.toArray n },toks:=s.toks }) (t':=t') (fp:=fp) I1 (fun b o hb e=>?_) fun b hb=>⟨by rw [zao (Nat.ne_of_lt (hfp b hb))];exact(hf b hb).1,(hf b hb).2⟩
 by_cases hbs:b=s.heap.objs.size
 ·subst hbs
  have e':(s.heap.push { cls:=.type "tuple",data:=.seq us.toArray n }).get? s.heap.objs.size=some o:=e
  rw [Heap.get?_push_size _ rfl] at e'
  cases e'
  exact ht
 ·refine k b o hb ?_
  have e':(s.heap.push { cls:=.type "tuple",data:=.seq us.toArray n }).get? b=some o:=e
  have lt:b<(s.heap.push { cls:=.type "tuple",data:=.seq us.toArray n }).objs.size:=Heap.lt_size e'
  rw [Heap.size_push] at lt
  have lt':b<s.heap.objs.size:=Nat.lt_of_le_of_ne (Nat.le_of_lt_succ lt) hbs
  unfold Heap.get? at e' ⊢
  unfold Heap.push at e'
  simp only at e'
  rw [Array.getElem?_push_lt lt'] at e'
  rw [Array.getElem?_eq_getElem lt']
  exact e'
end
def Itz(K:PySem.W.Frag)(a b:Addr):It :=
 ⟨fun i H=>∃ xs ys x y,SqL K H a xs/\SqL K H b ys/\xs[i]?=some x/\ys[i]?=some y,
  fun i H x H'=>∃ t u v,x=.ref t/\H t=none/\H'=upd H t (.tup [u,v])/\(∀ xs,SqL K H a xs->xs[i]?=some u)/\∀ ys,SqL K H b ys->ys[i]?=some v,
  fun i H=>∃ xs ys,SqL K H a xs/\SqL K H b ys/\(xs.length<=i\/ys.length<=i)⟩
def tnZ(z TI TO i1 i2 a b:Addr)(i:Nat)(h:Heap):Prop:=IsZip h z TI TO .none/\IsPair h TI (.ref i1) (.ref i2)/\(∃ u v,IsPair h TO u v)/\h.IsListIter i1 a i/\h.IsListIter i2 b i
theorem znr{P:Program}{w:World}{K:PySem.W.Frag}{es:List Expr}{k:Nat}{pos:Pos}(z TI TO i1 i2 a b:Addr)(D:ZipApart z TI TO i1 i2 a b):Turn P w K (.Tuple es k pos) (Itz K a b) [z,TI,TO,i1,i2] z (tnZ z TI TO i1 i2 a b) where
 mem:=by simp
 obj:=fun i h st c hc=>by
  obtain⟨h1,h2,⟨u,v,h3⟩,⟨o4,h4,_,d4⟩,⟨o5,h5,_,d5⟩⟩:=st
  simp only [List.mem_cons,List.not_mem_nil,or_false] at hc
  rcases hc with rfl|rfl|rfl|rfl|rfl
  ·exact⟨_,h1,fun v z=>by cases z⟩
  ·exact⟨_,h2,fun v z=>by cases z⟩
  ·exact⟨_,h3,fun v z=>by cases z⟩
  ·exact⟨_,h4,fun v z=>by rw [d4] at z;cases z⟩
  ·exact⟨_,h5,fun v z=>by rw [d5] at z;cases z⟩
 keep:=fun i h h' st k=>by
  obtain⟨h1,h2,⟨u,v,h3⟩,h4,h5⟩:=st
  exact⟨k _ (by simp) _ h1,k _ (by simp) _ h2,⟨u,v,k _ (by simp) _ h3⟩,h4.at fun o e=>k _ (by simp) o e,h5.at fun o e=>k _ (by simp) o e⟩
 item:=by
  intro X hP hw hK hc i pins s σ H E I hf st hg
  subst hP hw hK
  obtain⟨xs,ys,x,y,hqx,hqy,hx,hy⟩:=hg
  obtain⟨itx,rvx,px,_⟩:=I.list hqx
  obtain⟨ity,rvy,py,_⟩:=I.list hqy
  obtain⟨ux,hux,rux⟩:=rvx.get hx
  obtain⟨uy,huy,ruy⟩:=rvy.get hy
  obtain⟨h1,h2,⟨u,v,h3⟩,h4,h5⟩:=id st
  have lts:∀ c∈[z,TI,TO,i1,i2],c<s.heap.objs.size:=fun c hc=>by
   obtain⟨o4,e4,_⟩:=id h4
   obtain⟨o5,e5,_⟩:=id h5
   simp only [List.mem_cons,List.not_mem_nil,or_false] at hc
   rcases hc with rfl|rfl|rfl|rfl|rfl
   ·exact Heap.lt_size h1
   ·exact Heap.lt_size h2
   ·exact Heap.lt_size h3
   ·exact Heap.lt_size e4
   ·exact Heap.lt_size e5
  refine wpAny_pyNext_zip_item D h1 h2 h3 h4 h5 px.isList py.isList (by simpa using hux) (by simpa using huy) fun h' a1 a2 a3 a4 a5 a6 hk=>?_
  refine⟨_,rfl,wpAny_letOwnedTupleGo_zip a1 fun h'' b1 sb=>?_⟩
  have zlt:=lts z (by simp)
  have k2:∀ c o,c∉[z,TI,TO,i1,i2]->s.heap.get? c=some o->h''.get? c=some o:=fun c o hc e=>by
   simp only [List.mem_cons,List.not_mem_nil,or_false,not_or] at hc
   exact sb.extBut c o hc.1 (hk c o hc.1 hc.2.2.1 hc.2.2.2.1 hc.2.2.2.2 e)
  have ht:h''.get? s.heap.objs.size=some { cls:=.type "tuple",data:=.seq #[ux,uy] }:=sb.extBut _ _ (Nat.ne_of_gt zlt) a5
  refine⟨.ref s.heap.objs.size,_,Inv.ziT (s:=s) (h':=h'') (t':=s.toks) (fp:=[z,TI,TO,i1,i2]) I (xs:=[x,y]) (us:=[ux,uy]) k2 hf lts ht (.cons rux (.cons ruy .nil)) (by rw [sizeLine_eq];show 2<=16777216;decide),rfl,
   ⟨_,x,y,rfl,I.hok.fresh (Nat.le_refl _),rfl,fun zs hz=>by rw [I.zec hz hqx];exact hx,fun zs hz=>by rw [I.zec hz hqy];exact hy⟩,?_,fun c hc=>?_⟩
  ·exact⟨b1,sb.extBut _ _ D.TIz (hk _ _ D.TIz D.TITO D.TIi1 D.TIi2 h2),⟨_,_,sb.extBut _ _ D.TOz a2⟩,a3.extBut sb.extBut D.i1z,a4.extBut sb.extBut D.i2z⟩
  ·rw [zao (Nat.ne_of_lt (lts c hc))]
   exact(hf c hc).1
 done:=by
  intro X hP hw hK hc i pins s σ H E I hf st hg
  subst hP hw hK
  obtain⟨xs,ys,hqx,hqy,hend⟩:=hg
  obtain⟨itx,rvx,px,_⟩:=I.list hqx
  obtain⟨ity,rvy,py,_⟩:=I.list hqy
  obtain⟨h1,h2,⟨u,v,h3⟩,h4,h5⟩:=id st
  have lx:=rvx.length
  have ly:=rvy.length
  refine wpAny_pyNext_zip_end (I.ok.hd hc) D h1 h2 h3 h4 h5 px.isList py.isList ?_ fun h' hk=>⟨rfl,I.zew (t':=s.toks) (fun c o hc e=>?_) hf⟩
  ·rcases hend with h|h
   ·exact .inl (by simp;omega)
   ·exact .inr (by simp;omega)
  ·simp only [List.mem_cons,List.not_mem_nil,or_false,not_or] at hc
   exact hk c o hc.1 hc.2.2.1 hc.2.2.2.1 hc.2.2.2.2 e
 self:=fun _ _ _ _ _ st h=>wpAny_pyIter_zip st.1 h
def Ite(K:PySem.W.Frag)(a:Addr):It :=
 ⟨fun i H=>∃ xs x,SqL K H a xs/\xs[i]?=some x,fun i H x H'=>∃ t v,x=.ref t/\H t=none/\H'=upd H t (.tup [.int i,v])/\∀ xs,SqL K H a xs->xs[i]?=some v,fun i H=>∃ xs,SqL K H a xs/\xs.length<=i⟩
theorem zlm{P:Program}{w:World}{K:PySem.W.Frag}{es:List Expr}{k:Nat}{pos:Pos}(e it a:Addr)(hne:e≠it):Turn P w K (.Tuple es k pos) (Ite K a) [e,it] e (fun i h=>(∃ old,IsEnum h e it i old)/\h.IsListIter it a i) where
 mem:=by simp
 obj:=fun i h st c hc=>by
  obtain⟨⟨old,h1⟩,⟨o4,h4,_,d4⟩⟩:=st
  simp only [List.mem_cons,List.not_mem_nil,or_false] at hc
  rcases hc with rfl|rfl
  ·exact⟨_,h1,fun v z=>by cases z⟩
  ·exact⟨_,h4,fun v z=>by rw [d4] at z;cases z⟩
 keep:=fun i h h' st k=>by
  obtain⟨⟨old,h1⟩,h4⟩:=st
  exact⟨⟨old,k _ (by simp) _ h1⟩,h4.at fun o e=>k _ (by simp) o e⟩
 item:=by
  intro X hP hw hK hc i pins s σ H E I hf st hg
  subst hP hw hK
  obtain⟨xs,x,hqx,hx⟩:=hg
  obtain⟨itx,rvx,px,_⟩:=I.list hqx
  obtain⟨ux,hux,rux⟩:=rvx.get hx
  obtain⟨⟨old,h1⟩,h4⟩:=id st
  have lts:∀ c∈[e,it],c<s.heap.objs.size:=fun c hc=>by
   obtain⟨o4,e4,_⟩:=id h4
   simp only [List.mem_cons,List.not_mem_nil,or_false] at hc
   rcases hc with rfl|rfl
   ·exact Heap.lt_size h1
   ·exact Heap.lt_size e4
  refine wpAny_pyNext_enum_item h1 h4 px.isList (by simpa using hux) hne fun h' a1 a3 a5 a6 hk=>?_
  refine⟨_,rfl,wpAny_letOwnedTupleGo_enum a1 fun h'' b1 sb=>?_⟩
  have zlt:=lts e (by simp)
  have k2:∀ c o,c∉[e,it]->s.heap.get? c=some o->h''.get? c=some o:=fun c o hc g=>by
   simp only [List.mem_cons,List.not_mem_nil,or_false,not_or] at hc
   exact sb.extBut c o hc.1 (hk c o hc.1 hc.2 g)
  have ht:h''.get? s.heap.objs.size=some { cls:=.type "tuple",data:=.seq #[.int i s.toks,ux] }:=sb.extBut _ _ (Nat.ne_of_gt zlt) a5
  refine⟨.ref s.heap.objs.size,_,Inv.ziT (s:=s) (h':=h'') (t':=s.toks+1) (fp:=[e,it]) I (xs:=[.int i,x]) (us:=[.int i s.toks,ux]) k2 hf lts ht (.cons ⟨_,rfl⟩ (.cons rux .nil)) (by rw [sizeLine_eq];show 2<=16777216;decide),rfl,
   ⟨_,x,rfl,I.hok.fresh (Nat.le_refl _),rfl,fun zs hz=>by rw [I.zec hz hqx];exact hx⟩,?_,fun c hc=>?_⟩
  ·exact⟨⟨_,b1⟩,a3.extBut sb.extBut (Ne.symm hne)⟩
  ·rw [zao (Nat.ne_of_lt (lts c hc))]
   exact(hf c hc).1
 done:=by
  intro X hP hw hK hc i pins s σ H E I hf st hg
  subst hP hw hK
  obtain⟨xs,hqx,hend⟩:=hg
  obtain⟨itx,rvx,px,_⟩:=I.list hqx
  obtain⟨⟨old,h1⟩,h4⟩:=id st
  have lx:=rvx.length
  refine wpAny_pyNext_enum_end (I.ok.hd hc) h1 h4 px.isList (by simp;omega) fun h' hk=>⟨rfl,I.zew (t':=s.toks) (fun c o hc g=>?_) hf⟩
  simp only [List.mem_cons,List.not_mem_nil,or_false,not_or] at hc
  exact hk c o hc.2 g
 self:=fun _ _ _ _ _ st h=>by
  obtain⟨⟨old,h1⟩,_⟩:=st
  exact wpAny_pyIter_enum h1 h
section
variable {X:Cx}
def zuE(K:PySem.W.Frag)(ta:TA):TI:=fun σ H R=>ta σ H fun vs H1=>∃ a,vs=[.ref a]/\(∃ xs,SqL K H1 a xs)/\R (Ite K a) H1
theorem zqx{es:List Expr}{k:Nat}{p0:Pos}{a:Expr}{ta:TA}{p pos:Pos}(hg:Gl X "enumerate") (hm:X.mg "enumerate"=none) (ha:PA X [a] ta) (hs:starEach [a] X.env=[(false,eval a X.env)]:=by rfl) :
  PI X (.Tuple es k p0) (.Call (.Name "enumerate" p) [a] [] pos) (zuE X.K ta):=by
 intro pins s σ H R I h
 refine Call_ (zfL I hg hm (by decide +kernel:bootBuiltins "enumerate"=some (.type "enumerate")) (PyProof.Rows.callWith_type1 (thn (ha pos pins s σ H _ I h) fun us s1 ⟨vs,H1,I1,r1,q1⟩=>?_) hs rfl))
 obtain⟨l1,e,⟨xs,hx⟩,q⟩:=q1
 subst e
 cases r1 with
 | cons r rr =>
  cases rr
  cases r
  obtain⟨itx,rvx,px,_⟩:=I1.list hx
  refine call_enumerate_list px.isList fun h' g1 g4 g6 hk=>?_
  refine wpAny_pyIter_enum g1 ⟨_,[s1.heap.objs.size+1,s1.heap.objs.size],_,_,H1,rfl,I1.kept (t':=s1.toks) hk,zlm _ _ l1 (Nat.succ_ne_self _),⟨⟨_,g1⟩,g4⟩,fun c hc=>?_,q⟩
  have hc':s1.heap.objs.size<=c:=by
   simp only [List.mem_cons,List.not_mem_nil,or_false] at hc
   rcases hc with rfl|rfl <;> first|exact Nat.le_add_right _ _|exact Nat.le_refl _
  exact I1.znj hc' (I1.hok.fresh hc')
theorem zoL{bs:List Bool}:∀{us:List Value},Vals (bs.map V.bl) us->us=bs.map Value.bool:=by
 induction bs with
 | nil=>intro us h;cases h;rfl
 | cons b r ih =>
  intro us h
  cases h with
  | cons h1 h2 =>
   have:=ih h2
   cases h1
   rw [this]
   rfl
theorem zoJ(hc:X.calm=true):zc3 X (.builtin "all") (fun xs H Q=>∃(a:Addr) (bs:List Bool),xs=[.ref a]/\SqL X.K H a (bs.map V.bl)/\Q (.bl (bs.all id)) H):=by
 intro pins s σ H xs us Q I r h
 obtain⟨a,bs,rfl,hq,q⟩:=h
 obtain⟨u,rfl,rx⟩:=vals1 r
 cases rx
 obtain⟨its,rv,p,hz⟩:=I.list hq
 have e:=zoL rv
 subst e
 have hne:a≠s.heap.objs.size:=by
  obtain⟨o,eo,_⟩:=p.isList
  exact Nat.ne_of_lt (Heap.lt_size eo)
 have W:=Walks.list (prog:=X.prog) (w:=X.w) (A:=X.A.in1) (show X.A.in1.handled=none from I.ok.hd hc) s.heap.objs.size a hne (bs.map Value.bool).toArray
 refine call_all_walk (wpAny_pyIter_list p.isList ⟨_,_,_,_,_,_,fun i=>bs.getD i true,rfl,W,⟨⟨_,Heap.get?_push_size _ rfl,rfl,rfl⟩,p.isList.push _⟩,?_,fun h' tk hk=>⟨.bl (bs.all id),H,?_,?_,q⟩⟩)
 ·intro i v s' Q' E' hP hQ
  have hP':(bs.map Value.bool)[i]?=some v:=by simpa using hP
  rw [List.getElem?_map] at hP'
  cases e:bs[i]? with
  | none=>rw [e] at hP';cases hP'
  | some b =>
   rw [e] at hP'
   cases hP'
   have:bs.getD i true=b:=by simp [List.getD,e]
   have hQ2:Q' (bs.getD i true) s':=hQ
   rw [this] at hQ2
   exact wpAny_pure hQ2
 ·refine Inv.zew (s:={ s with heap:=s.heap.push { cls:=.type "list_iterator",data:=.fields #[.ref a,.int 0 0] },toks:=s.toks }) (t':=tk) (fp:=[s.heap.objs.size]) (I.kept (t':=s.toks) fun b o e=>Heap.get?_push_of_some _ e) (fun b o hb e=>hk b o hb e) fun b hb=>?_
  have e:b=s.heap.objs.size:=by simpa using hb
  subst e
  exact I.znj (Nat.le_refl _) (I.hok.fresh (Nat.le_refl _))
 ·show Value.bool _=Value.bool _
  congr 1
  simp only [List.size_toArray,List.length_map]
  rw [Bool.eq_iff_iff,List.all_eq_true,List.all_eq_true]
  constructor
  ·intro h b hb
   obtain⟨i,hi,e⟩:=List.getElem_of_mem hb
   have:=h i (List.mem_range.mpr hi)
   simpa [List.getD,hi,e] using this
  ·intro h i hi
   have hi':=List.mem_range.mp hi
   have:=h bs[i] (List.getElem_mem hi')
   simpa [List.getD,hi'] using this
end
end
section
theorem zf3:∀(names:List (Str×NameKind)) (n:Nat) (acc:List (Str×Addr)),cellsFrom n names acc=cellsFrom n names []++acc
 | [],n,acc=>rfl
 | (x,k)::r,n,acc=>by
  unfold cellsFrom
  split
  ·rw [zf3 r (n+1) ((x,n)::acc),zf3 r (n+1) [(x,n)]]
   simp
  ·exact zf3 r n acc
theorem zhz:∀(names:List (Str×NameKind)) (n:Nat) (p:Str×Addr),p∈cellsFrom n names []->(p.1,NameKind.cell)∈names
 | [],n,p,h=>nomatch h
 | (x,k)::r,n,p,h=>by
  unfold cellsFrom at h
  split at h
  ·rename_i hk
   rw [zf3] at h
   rcases List.mem_append.mp h with h|h
   ·exact List.mem_cons_of_mem _ (zhz r _ p h)
   ·have e:p=(x,n):=by simpa using h
    have hk':k=.cell:=by simpa using hk
    subst e hk'
    exact List.mem_cons_self ..
  ·exact List.mem_cons_of_mem _ (zhz r _ p h)
theorem zmT{x:Str}:∀(names:List (Str×NameKind)) (n:Nat),(x,NameKind.cell)∈names->∃ c,(x,c)∈cellsFrom n names []
 | (y,k)::r,n,h=>by
  unfold cellsFrom
  rcases List.mem_cons.mp h with e|h
  ·cases e
   rw [if_pos (by rfl),zf3]
   exact⟨n,List.mem_append_right _ (List.mem_singleton.mpr rfl)⟩
  ·split
   ·obtain⟨c,hc⟩:=zmT r (n+1) h
    exact⟨c,by rw [zf3];exact List.mem_append_left _ hc⟩
   ·exact zmT r n h
theorem zgy{α:Type}{x:Str}{c:α}:∀{l m:List (Str×α)},(l++m).lookup x=some c->l.lookup x=some c\/(l.lookup x=none/\m.lookup x=some c)
 | [],m,h=>.inr ⟨rfl,h⟩
 | (y,b)::r,m,h=>by
  rw [List.cons_append,List.lookup_cons] at h
  rw [List.lookup_cons]
  split at h
  ·exact .inl h
  ·exact zgy h
theorem zdD{α:Type}{x:Str}{c:α}:∀{l m:List (Str×α)},m.lookup x=some c->∃ d,(l++m).lookup x=some d
 | [],m,h=>⟨c,h⟩
 | (y,b)::r,m,h=>by
  rw [List.cons_append,List.lookup_cons]
  split
  ·exact⟨_,rfl⟩
  ·exact zdD h
theorem zdd{α:Type}{x:Str}:∀{l m:List (Str×α)},l.lookup x=none->(l++m).lookup x=m.lookup x
 | [],m,h=>rfl
 | (y,b)::r,m,h=>by
  rw [List.lookup_cons] at h
  rw [List.cons_append,List.lookup_cons]
  split at h
  ·cases h
  ·exact zdd h
theorem zdC{α:Type}{x:Str}:∀{l:List (Str×α)},(∀ p∈l,p.1≠x)->l.lookup x=none
 | [],_=>rfl
 | (y,b)::r,h=>by
  rw [List.lookup_cons]
  have:(x==y)=false:=by
   have:=h (y,b) (List.mem_cons_self ..)
   simpa using fun e=>this e.symm
  rw [this]
  exact zdC fun p hp=>h p (List.mem_cons_of_mem _ hp)
def zi2(C:Addr)(scope:Scope):List (Str×Addr):=cellsFrom (C+1) scope.names []
def zat(X:Cx)(M:List Str)(scope:Scope)(C:Addr)(s₃:Shared)(H₃:Hp)(fp:List Addr):Cx :=
 { X with N:=M,s₀:=s₃,H₀:=H₃,env:=compEnvC scope (zi2 C scope++zgm X.env.cells scope.names []) C X.env,outer:=X.stack,stack:=X.stack,ex:=fp,fn:=fun x=>scope.names.contains (x,NameKind.cell),pn:=[],xe:=fun _ _=>False }
structure zeO(X:Cx)(scope:Scope)(cap:List Str):Prop where
 kind:scope.kind=.function
 cell:∀ y∈scope.names,y.2=.free->X.env.kindOf y.1=some .cell
 loc:∀ y∈scope.names,y.2=.local->scope.names.lookup y.1=some .local
 cap:∀ x∈cap,scope.names.lookup x≠some .local/\(x,NameKind.cell)∉scope.names
 dis:∀ y∈scope.names,y.2=.free->(y.1,NameKind.cell)∉scope.names
theorem zh9{C:Addr}{m:Str->Option Value}:∀(names:List (Str×NameKind)) {h:Heap},h.Ns C m->(pushCells h names).Ns C m:=fun names h hn=>by
 obtain⟨o,es,ep,ho,r⟩:=hn
 exact⟨o,es,ep,pushCells_keeps names h C o ho,r⟩
section
variable {X:Cx}{pins:List (Addr×Obj)}{σ:St}{H:Hp}{s:Shared}
theorem zio{scope:Scope}{L:List Str}{ix:List Nat}{h':Heap}{fp:List Addr}{t':Nat}(S:zeO X scope (zfk X ix))(I:Inv X pins σ H s)(hf:∀ b∈fp,zhQ X pins H b)(hfp:∀ b∈fp,b<s.heap.objs.size)
  (hix:∀ i∈ix,i<X.N.length)(hn:h'.Ns s.heap.objs.size fun _=>none)(hk:∀ b u,s.heap.get? b=some u->h'.get? b=some u)(hcs:CellsOk h' (s.heap.objs.size+1) (zi2 s.heap.objs.size scope)) :
  Inv (zat X (L++zfk X ix) scope s.heap.objs.size s H fp) [] (zeq L.length ix σ) H { s with heap:=h',toks:=t' }:=by
 have cl:∀ x c,(zgm X.env.cells scope.names []).lookup x=some c->X.env.cells.lookup x=some c:=fun x c e =>
  zfi (acc:=[]) (fun p hp=>nomatch hp) (x,c) (PySem.mem_of_lookup e)
 have old:∀ x c,X.env.cells.lookup x=some c->c<s.heap.objs.size:=fun x c e=>by
  obtain⟨v,q⟩:=I.cell x c e
  exact q.lt
 have own:∀ x c,(zi2 s.heap.objs.size scope).lookup x=some c->h'.IsCell c none/\s.heap.objs.size+1<=c/\(x,NameKind.cell)∈scope.names:=fun x c e=>by
  have m:=PySem.mem_of_lookup e
  exact⟨(hcs.empty x c m).1,(hcs.empty x c m).2,zhz _ _ _ m⟩
 have al:∀ x c,(zi2 s.heap.objs.size scope++zgm X.env.cells scope.names []).lookup x=some c->(zi2 s.heap.objs.size scope).lookup x=some c\/((zi2 s.heap.objs.size scope).lookup x=none/\X.env.cells.lookup x=some c):=fun x c e=>by
  rcases zgy e with h|⟨h1,h2⟩
  ·exact .inl h
  ·exact .inr ⟨h1,cl x c h2⟩
 have ownHas:∀ x,(x,NameKind.cell)∈scope.names->∃ c,(zi2 s.heap.objs.size scope).lookup x=some c:=fun x hx=>by
  obtain⟨c,hc⟩:=zmT scope.names (s.heap.objs.size+1) hx
  exact zbK hc
 refine⟨⟨I.ok.mod,S.kind,I.ok.glob,I.ok.blt,Nat.le_refl _,fun x y c e1 e2=>?_,fun x hx=>?_,fun x c e1 e2=>?_,I.ok.hd,I.ok.frames,.inl rfl,fun b hb=>⟨Nat.ne_of_lt (hfp b hb),fun x c e=>?_⟩,
  fun b o e=>I.bs b o e,Nat.le_trans I.ok.bsz I.sz,fun b o e hb=>?_,fun b hb hz=>?_,I.stack,I.zlr,I.ok.tree,I.ok.sk⟩,
  rfl,I.bare,Un.kept hk,⟨_,hn,fun i x v h1 h2 h3=>?_⟩,fun x c e=>?_,I.hok.fresh (Nat.le_refl _),fun x c e=>?_,fun p hp=>absurd (show p∈([]:List (Addr×Obj)) from hp) (by simp),I.hok.kept hk,?_⟩
 ·rcases al x c e1 with a1|⟨_,a1⟩ <;> rcases al y c e2 with a2|⟨_,a2⟩
  ·exact name_of_addr hcs.apart (PySem.mem_of_lookup a1) (PySem.mem_of_lookup a2)
  ·exact absurd (old y c a2) (Nat.not_lt.mpr (Nat.le_of_succ_le (own x c a1).2.1))
  ·exact absurd (old x c a1) (Nat.not_lt.mpr (Nat.le_of_succ_le (own y c a2).2.1))
  ·exact I.ok.inj x y c a1 a2
 ·have hx':(relabel scope X.env).names.lookup x=some .cell\/(relabel scope X.env).names.lookup x=some .free:=hx
  have fr:(x,NameKind.cell)∈scope.names\/(x,NameKind.free)∈scope.names:=by
   rcases hx' with q|q
   ·obtain⟨k0,_,h2,h3⟩:=za2 (scope:=scope) q
    rcases h3 with rfl|⟨rfl,_⟩
    ·exact .inl h2
    ·exact .inr h2
   ·obtain⟨k0,_,h2,h3⟩:=za2 (scope:=scope) q
    rcases h3 with rfl|⟨_,z⟩
    ·exact .inr h2
    ·cases z
  rcases fr with fr|fr
  ·obtain⟨c,hc⟩:=ownHas x fr
   show ∃ c,(zi2 s.heap.objs.size scope++zgm X.env.cells scope.names []).lookup x=some c
   exact zbK (List.mem_append_left _ (PySem.mem_of_lookup hc))
  ·obtain⟨c,hc⟩:=I.ok.has x (.inl (S.cell _ fr rfl))
   obtain⟨d,hd⟩:=zbK (zei (names:=scope.names) (acc:=[]) hc fr)
   exact zdD hd
 ·have hx:(x,NameKind.cell)∈scope.names:=by
   have e1':scope.names.contains (x,NameKind.cell)=true:=e1
   simpa using e1'
  rcases al x c e2 with a1|⟨a1,_⟩
  ·exact Nat.le_of_succ_le (own x c a1).2.1
  ·obtain⟨d,hd⟩:=ownHas x hx
   rw [a1] at hd
   cases hd
 ·rcases al x c e with a1|⟨_,a1⟩
  ·exact Nat.ne_of_gt (Nat.lt_of_lt_of_le (hfp b hb) (Nat.le_of_succ_le (own x c a1).2.1))
  ·exact(hf b hb).2.2.2.2.1 x c a1
 ·rcases (hf b hb).2.2.2.1 with z|z
  ·exact I.ok.noex b o e z
  ·exact absurd (Heap.lt_size (I.ok.bs b o e).1) (Nat.not_lt.mpr z)
 ·rcases List.mem_cons.mp (I.zlq b hz) with z|z
  ·exact(hf b hb).2.1 z
  ·exact(hf b hb).2.2.1 z
 ·-- a name that is drawn in
  have hi:L.length<=i:=by
   by_cases hi:i<L.length
   ·unfold zeq at h2
    rw [List.getElem?_append_left (by simpa using hi),List.getElem?_replicate,if_pos hi] at h2
    cases h2
   ·omega
  unfold zeq at h2
  rw [List.getElem?_append_right (by simpa using hi),List.length_replicate,List.getElem?_map] at h2
  have h1':(L++zfk X ix)[i]?=some x:=h1
  rw [List.getElem?_append_right hi] at h1'
  unfold zfk at h1'
  rw [List.getElem?_map] at h1'
  cases ej:ix[i-L.length]? with
  | none=>rw [ej] at h1';cases h1'
  | some j =>
   rw [ej] at h1' h2
   have hj:j<X.N.length:=hix j (List.mem_of_getElem? ej)
   have e1:X.N[j]?=some x:=by
    have:X.N.getD j ""=x:=Option.some.inj h1'
    rw [<- this]
    simp [List.getD,hj]
   have e2:σ[j]?=some (some v):=by
    have z:(σ[j]?).getD none=some v:=Option.some.inj h2
    cases q:σ[j]? with
    | none=>rw [q] at z;cases z
    | some o=>rw [q] at z;exact congrArg some z
   have hx:x∈zfk X ix:=by
    unfold zfk
    refine List.mem_map.mpr ⟨j,List.mem_of_getElem? ej,?_⟩
    exact Option.some.inj h1'
   have h3':(relabel scope X.env).names.lookup x=some .local\/(relabel scope X.env).names.lookup x=some .cell\/(relabel scope X.env).names.lookup x=some .free:=h3
   have fr:(x,NameKind.free)∈scope.names:=by
    rcases h3' with q|q|q
    ·obtain⟨k0,g1,g2,g3⟩:=za2 (scope:=scope) q
     rcases g3 with rfl|⟨_,z⟩
     ·exact absurd g1 (S.cap x hx).1
     ·cases z
    ·obtain⟨k0,_,g2,g3⟩:=za2 (scope:=scope) q
     rcases g3 with rfl|⟨rfl,_⟩
     ·exact absurd g2 (S.cap x hx).2
     ·exact g2
    ·obtain⟨k0,_,g2,g3⟩:=za2 (scope:=scope) q
     rcases g3 with rfl|⟨_,z⟩
     ·exact g2
     ·cases z
   have hc:X.env.kindOf x=some .cell:=S.cell _ fr rfl
   obtain⟨m,_,hl⟩:=I.loc
   obtain⟨u,ru,lk⟩:=hl j x v e1 e2 (.inr (.inl hc))
   refine⟨u,ru,?_⟩
   rcases lk with⟨z,_⟩|⟨_,c,ec,ic⟩
   ·rw [hc] at z;cases z
   ·have k3:(relabel scope X.env).names.lookup x=some .cell\/(relabel scope X.env).names.lookup x=some .free:=by
     rcases h3' with q|q|q
     ·obtain⟨k0,g1,g2,g3⟩:=za2 (scope:=scope) q
      rcases g3 with rfl|⟨_,z⟩
      ·exact absurd g1 (S.cap x hx).1
      ·cases z
     ·exact .inl q
     ·exact .inr q
    obtain⟨c',ec'⟩:=zbK (zei (names:=scope.names) (acc:=[]) ec fr)
    have e3:=cl x c' ec'
    rw [ec] at e3
    cases e3
    obtain⟨oc,g1,g2⟩:=ic
    have no:(zi2 s.heap.objs.size scope).lookup x=none:=zdC fun p hp z=>(S.cap x hx).2 (by rw [<- z];exact zhz _ _ _ hp)
    exact .inr ⟨k3,c,(zdd no).trans ec',oc,hk _ _ g1,g2⟩
 ·rcases al x c e with a1|⟨_,a1⟩
  ·exact⟨none,(own x c a1).1⟩
  ·obtain⟨v,oc,g1,g2⟩:=I.cell x c a1
   exact⟨v,oc,hk _ _ g1,g2⟩
 ·rcases al x c e with a1|⟨_,a1⟩
  ·exact I.hok.fresh (Nat.le_of_succ_le (own x c a1).2.1)
  ·exact I.freeC x c a1
 ·show(zeq L.length ix σ).length=(L++zfk X ix).length
  unfold zeq zfk
  simp
end
theorem zmb{M:Model}{A:Around}{E:Value->Shared->Prop}{s:Shared}{scope:Scope}{globals:Addr}{cl:List (Str×Addr)}{qual:Str}{outer:Env}{Q:Env->Shared->Prop}
  (hQ:∀ h',h'.Ns s.heap.objs.size (fun _=>none)->(∀ b u,s.heap.get? b=some u->h'.get? b=some u)->CellsOk h' (s.heap.objs.size+1) (zi2 s.heap.objs.size scope) ->
   Q { scope:=scope,locals:=s.heap.objs.size,globals:=globals,cells:=zi2 s.heap.objs.size scope++cl,qual:=qual,func:=none,code:=outer.code,frame:=outer.frame,builtins:=outer.builtins } { s with heap:=h' }) :
  wpAny M A (newFunctionEnv scope globals cl [] qual none .none (some outer)) Q E s:=by
 simp only [newFunctionEnv,Option.isSome_some,if_true]
 refine wpAny_bind (wpAny_alloc ?_)
 refine wpAny_bind (wpAny_layCells _ (fun name kind cells=>by cases hkc:kind==NameKind.cell <;> simp [hkc]) _ _ _ _ ?_)
 have ok:=cellsFrom_ok scope.names (s.heap.push { cls:=.type "dict",data:=.dict #[] }) (s.heap.objs.size+1) [] ⟨fun _ _ hm=>(nomatch hm),List.Pairwise.nil⟩ (by rw [Heap.size_push];exact Nat.le_refl _)
 rw [Heap.size_push] at ok
 rw [show({ s with heap:=s.heap.push { cls:=.type "dict",data:=.dict #[] } }:Shared).heap.objs.size=s.heap.objs.size+1 from Heap.size_push ..,zf3]
 refine wpAny_bind ?_
 rw [List.forIn_nil]
 refine wpAny_pure (wpAny_pure ?_)
 exact hQ _ (zh9 _ (Heap.Ns.new ..)) (fun b u e=>pushCells_keeps _ _ _ _ (Heap.get?_push_of_some _ e)) ok
section
variable {X:Cx}
theorem zn1{elt tg iter:Expr}{ifs:List Expr}{scope:Scope}{pos:Pos}{L:List Str}{ix:List Nat}{wi:TI}{g:TG}{tc:TT}{te:TE}(hc:X.calm=true)(S:zeO X scope (zfk X ix))(hix:∀ i∈ix,i<X.N.length)(hi:PI X tg iter wi)
  (hg:∀ C s₃ H₃ fp,PG (zat X (L++zfk X ix) scope C s₃ H₃ fp) tg g)(hgo:zne L.length g)
  (ht:∀ C s₃ H₃ fp,PTs (zat X (L++zfk X ix) scope C s₃ H₃ fp) ifs tc)(he:∀ C s₃ H₃ fp,PE (zat X (L++zfk X ix) scope C s₃ H₃ fp) elt te)
  (hs:∀ x,foldedSetIterable iter X.env x=pure x:=by intro _;rfl) :
  PE X (.ListComp elt [⟨tg,iter,ifs,0⟩] scope pos) (ziU L.length ix wi g tc te):=by
 intro pins s σ H Q I h
 rw [eval_ListComp]
 refine wpAny_comprehension_free (use:=none) rfl hs (zeh fun y hy e=>I.ok.has y.1 (.inl (S.cell y hy e))) S.kind S.loc (thn (hi pins s σ H _ I h) fun xv s1 h1=>thn h1 fun itv s2 h2=>?_)
 obtain⟨it,fp,tn,J,H2,rfl,I2,T,st2,f2,q⟩:=h2
 have nD:H2 s2.heap.objs.size=none:=I2.hok.fresh (Nat.le_refl _)
 obtain⟨W,⟨m0,w0⟩,turn⟩:=q _ nD
 generalize hD:s2.heap.objs.size=D at nD w0 turn
 have fD:∀ b∈fp,b<D:=fun b hb=>by
  obtain⟨o,e,_⟩:=T.obj _ _ st2 b hb
  rw [<- hD]
  exact Heap.lt_size e
 have I3:Inv X pins σ (upd H2 D (.lst [])) { s2 with heap:=s2.heap.push { cls:=.type "list",data:=.seq ([]:List Value).toArray },toks:=s2.toks }:=by
  rw [<- hD]
  exact I2.laid (t':=s2.toks) (fun b u e=>Heap.get?_push_of_some _ e) (Nat.le_refl _) ⟨by simp,[],0,.nil,Heap.get?_push_size _ rfl⟩
 refine wpAny_newObj_type (zmb (fun h₁ hns₁ hsb₁ hcs₁=>?_)) (by show 0<=sizeLine;exact Nat.zero_le _)
 rw [hD]
 have st3:tn 0 (s2.heap.push { cls:=.type "list",data:=.seq ([]:List Value).toArray }):=T.keep _ _ _ st2 fun b hb o e=>Heap.get?_push_of_some _ e
 generalize hp3:s2.heap.push { cls:=.type "list",data:=.seq ([]:List Value).toArray }=h3 at I3 st3 hns₁ hsb₁ hcs₁
 dsimp only at hns₁ hsb₁ hcs₁ ⊢
 have sz3:h3.objs.size=D+1:=by rw [<- hp3,Heap.size_push,hD]
 have old:∀ b u,h3.get? b=some u->h₁.get? b=some u:=fun b u e=>hsb₁ b u e
 have f3:∀ b∈fp,zhQ X pins (upd H2 D (.lst [])) b:=fun b hb=>⟨by rw [zao (Nat.ne_of_lt (fD b hb))];exact(f2 b hb).1,(f2 b hb).2⟩
 have I4:=zio (L:=L) (ix:=ix) (t':=s2.toks) S I3 f3 (fun b hb=>by show b<h3.objs.size;rw [sz3];exact Nat.lt_succ_of_lt (fD b hb)) hix (h':=h₁) hns₁ old hcs₁
 have st4:tn 0 h₁:=T.keep _ _ _ st3 fun b hb o e=>old b o e
 generalize hC:(zat X (L++zfk X ix) scope h3.objs.size { s2 with heap:=h3,toks:=s2.toks } (upd H2 D (.lst [])) fp)=Y at I4
 have eEnv:Y.env=compEnvC scope (zi2 h3.objs.size scope++zgm X.env.cells scope.names []) h3.objs.size X.env:=by rw [<- hC];rfl
 have hcY:Y.calm=true:=by rw [<- hC];exact hc
 have xeY:Y.xe=fun _ _=>False:=by rw [<- hC];rfl
 have eP:Y.prog=X.prog:=by rw [<- hC];rfl
 have eW:Y.w=X.w:=by rw [<- hC];rfl
 have eK:Y.K=X.K:=by rw [<- hC];rfl
 have eA:Y.A=X.A:=by rw [<- hC];rfl
 have gY:PG Y tg g:=by rw [<- hC];exact hg _ _ _ _
 have tY:PTs Y ifs tc:=by rw [<- hC];exact ht _ _ _ _
 have pY:PE Y elt te:=by rw [<- hC];exact he _ _ _ _
 have stat:∀{H':Hp},(∀ b∈fp,H' b=none)->∀ b∈fp,zhQ Y [] H' b:=fun{H'} hn b hb=>by
  have z1:b∈Y.ex:=by rw [<- hC];exact hb
  have zp:Y.pn=[]:=by rw [<- hC];rfl
  refine⟨hn b hb,(I4.ok.exf b z1).1,I4.ok.exfs b z1,.inl z1,(I4.ok.exf b z1).2,fun p hp=>?_⟩
  rw [zp] at hp
  exact absurd hp (by simp)
 have fin:∀{H':Hp} {s':Shared},Inv Y [] (zeq L.length ix σ) H' s'->Q (.ref D) H'->compPost (model X.prog X.w) X.A X.xe none (EP X pins σ Q) (.ref D) h3.objs.size (.ok .next) s':=by
  intro H' s' J' qe
  obtain⟨m,hm,_⟩:=J'.loc
  rw [eEnv] at hm
  refine⟨m,hm,fun h' sb=>⟨.ref D,H',?_,rfl,qe⟩⟩
  have hfr:H' h3.objs.size=none:=by
   have:=J'.free
   rw [eEnv] at this
   exact this
  have neC:∀ b u,H' b=some u->b≠h3.objs.size:=fun b u e z=>by rw [z,hfr] at e;cases e
  have base:Un (frs X.stack) fp (upd H2 D (.lst [])) H' h3 s'.heap:=by
   have:=J'.base
   rw [<- hC] at this
   exact this
  have to':∀ b o,b≠h3.objs.size->s'.heap.get? b=some o->h'.get? b=some o:=fun b o hb e=>sb.extBut b o hb e
  have lt3:∀ b o,h3.get? b=some o->b≠h3.objs.size:=fun b o e=>Nat.ne_of_lt (Heap.lt_size e)
  have un:Un (frs X.stack) fp (upd H2 D (.lst [])) H' h3 h' :=
   ⟨fun b o e n hb hx=>to' b o (lt3 b o e) (base.keep b o e n hb hx),
    fun b o e n hb hx=>by
    obtain⟨sl,z⟩:=base.slot b o e n hb hx
    exact⟨sl,to' _ _ (lt3 b o e) z⟩,
    base.free,
    fun b o e hx=>by
    obtain⟨o',z⟩:=base.there b o e hx
    exact⟨o',to' _ _ (lt3 b o e) z⟩,
    base.tups,base.frzs,base.tbls⟩
  have hok:HOk X.prog X.w H' h':=fun b u e=>by
   have z:=J'.hok b u e
   rw [eP,eW] at z
   refine z.stay (fun c v hcv qv=>to' c v ?_ qv) (fun _ qq=>qq) fun _ _ qq=>qq
   rcases hcv with zz|zz
   ·rw [zz];exact neC b u e
   ·exact neC c _ zz
  refine I3.call' (s':={ s' with heap:=h' }) (ch:=fp) ?_ un hok J'.bare fun b hb=>?_
  ·have:=J'.os
   rw [<- hC] at this
   exact this
  ·obtain⟨_,g1,g2,g3,g4,g5⟩:=f2 b hb
   exact⟨g3,g1,g4,g5⟩
 have key:∀ s5:Shared,s5={ s2 with heap:=h₁,toks:=s2.toks } ->
   codeAny (model X.prog X.w) X.A (.compLoop (.ListComp elt [⟨tg,iter,ifs,0⟩] scope pos) 0 (.ref it) (.ref D) (compEnvC scope (zi2 h3.objs.size scope++zgm X.env.cells scope.names []) h3.objs.size X.env))
    (compPost (model X.prog X.w) X.A X.xe none (EP X pins σ Q) (.ref D) h3.objs.size) s5:=by
  rintro s5 rfl
  rw [<- eEnv,<- eP,<- eW,<- eA]
  refine zf2 (fun n s'=>∃ i ys H',Inv Y [] (zeq L.length ix σ) H' s'/\tn i s'.heap/\(∀ b∈fp,H' b=none)/\W i n ys H') ?_ m0 ⟨0,[],_,?_,st4,fun b hb=>(f3 b hb).1,w0⟩
  ·rintro n s6 ⟨i,ys,H6,I6,st6,fr6,w6⟩
   obtain⟨hl6,alt⟩:=turn i n ys H6 w6
   rcases alt with⟨stop,qe⟩|⟨go,step⟩
   ·have Td:=T.done Y eP eW eK hcY i [] s6 _ H6 (fun _ _=>False) I6 (stat fr6) st6 stop
    rw [<- eP,<- eW] at Td
    refine wpAny_mono Td (fun r s7 hr7=>?_) fun _ _ f=>f.elim
    obtain⟨hr,I7⟩:=hr7
    subst hr
    rw [eP,eW,eA]
    exact fin I7 qe
   ·have Ti:=T.item Y eP eW eK hcY i [] s6 _ H6 (fun _ _=>False) I6 (stat fr6) st6 go
    rw [<- eP,<- eW] at Ti
    refine wpAny_mono Ti (fun r s7 hr7=>?_) fun _ _ f=>f.elim
    obtain⟨u,hr,h7⟩:=hr7
    subst hr
    refine wpAny_mono h7 (fun _ s8 hr8=>?_) fun _ _ f=>f.elim
    obtain⟨x,H8,I8,r8,y8,st8,fr8⟩:=hr8
    have I8':=I8.pinned (stat fr8) (T.obj _ _ st8)
    have stp:=hgo _ _ _ _ (step x H8 y8)
    refine wpAny_mono (gY _ s8 _ H8 x u _ I8' r8 stp) (fun _ s9 ⟨σ9,H9,I9,⟨k1,k2⟩,q9⟩=>?_) fun _ _ f=>by rw [xeY] at f;exact f.elim
    have weak:∀{Hz:Hp} {sz:Shared},Inv Y ([]++zgv fp s8.heap) σ9 Hz sz->Inv Y [] (zeq L.length ix σ) Hz sz/\tn (i+1) sz.heap/\∀ b∈fp,Hz b=none:=fun{Hz sz} Iz=>by
     refine⟨Iz.zdW.weak k1.symm fun j v e=>?_,T.keep _ _ _ st8 fun b hb o e=>(Iz.pin (b,o) (List.mem_append_right _ (List.mem_append_right _ (zcm hb e)))).1,fun b hb=>?_⟩
     ·by_cases hj:L.length<=j
      ·rw [k2 j hj];exact e
      ·unfold zeq at e
       rw [List.getElem?_append_left (by simpa using Nat.lt_of_not_le hj),List.getElem?_replicate,if_pos (Nat.lt_of_not_le hj)] at e
       cases e
     ·obtain⟨o,e,d⟩:=T.obj _ _ st8 b hb
      exact(Iz.pin (b,o) (List.mem_append_right _ (List.mem_append_right _ (zcm hb e)))).2.1
    refine wpAny_mono (tY _ s9 σ9 H9 _ I9 q9) (fun ok s10 ⟨H10,I10,q10⟩=>?_) fun _ _ f=>by rw [xeY] at f;exact f.elim
    cases ok with
    | false =>
     have q10':∃ m',m'<n/\W (i+1) m' ys H10:=q10
     obtain⟨m',hm',w10⟩:=q10'
     obtain⟨z1,z2,z3⟩:=weak I10
     exact⟨m',hm',i+1,ys,H10,z1,z2,z3,w10⟩
    | true =>
     refine wpAny_mono (pY _ s10 σ9 H10 _ I10 q10) (fun xv s11 ⟨v,H11,I11,r11,hl11,hz11,m',hm',w11⟩=>?_) fun _ _ f=>by rw [xeY] at f;exact f.elim
     refine wpAny_mono (zfG (X:=Y) _ s11 σ9 H11 (.ref D) [v] (.ref D) [xv] (fun _ Hq=>Hq=upd H11 D (.lst (ys++[v]))) I11 rfl (.cons r11 .nil) ⟨D,ys,v,rfl,rfl,hl11,hz11,rfl⟩) (fun _ s12 ⟨_,H12,I12,_,e12⟩=>?_) fun _ _ f=>by rw [xeY] at f;exact f.elim
     subst e12
     obtain⟨z1,z2,z3⟩:=weak I12
     exact⟨m',hm',i+1,ys++[v],_,z1,z2,z3,w11⟩
  ·exact I4
 exact codeAny_compStart_list (key _ rfl) (T.self _ 0 _ _ _ st4 (key _ rfl))
end
end
section
def zcR(sc scope:Scope)(N:List Str)(ix:List Nat):Bool :=
 (scope.names.all fun y=>(y.2 != .free||sc.names.lookup y.1==some .cell)&&(y.2 != .local||scope.names.lookup y.1==some .local)&&(y.2 != .free||!(scope.names.contains (y.1,NameKind.cell)))) &&
 ((ix.map fun i=>N.getD i "").all fun x=>scope.names.lookup x != some .local&&!(scope.names.contains (x,NameKind.cell)))&&ix.all (fun i=>decide (i<N.length))
section
variable {X:Cx}
theorem zn0{elt tg iter:Expr}{ifs:List Expr}{scope:Scope}{pos:Pos}{wi:TI}{g:TG}{tc:TT}{te:TE}(L:List Str)(ix:List Nat)(M:List Str)(hc:X.calm=true)(hk:scope.kind=.function)
  (hd:zcR X.env.scope scope X.N ix=true)(hM:M=L++ix.map fun i=>X.N.getD i "") (hi:PI X tg iter wi)
  (hg:∀ C s₃ H₃ fp,PG (zat X M scope C s₃ H₃ fp) tg g) (hgo:zne L.length g)
  (ht:∀ C s₃ H₃ fp,PTs (zat X M scope C s₃ H₃ fp) ifs tc) (he:∀ C s₃ H₃ fp,PE (zat X M scope C s₃ H₃ fp) elt te)
  (hs:∀ x,foldedSetIterable iter X.env x=pure x:=by intro _;rfl) :
  PE X (.ListComp elt [⟨tg,iter,ifs,0⟩] scope pos) (ziU L.length ix wi g tc te):=by
 unfold zcR at hd
 simp only [Bool.and_eq_true,List.all_eq_true,bne_iff_ne,ne_eq,Bool.or_eq_true,beq_iff_eq,decide_eq_true_eq,Bool.not_eq_true',List.contains_eq_mem,decide_eq_false_iff_not] at hd
 obtain⟨⟨d1,d2⟩,d3⟩:=hd
 have eM:M=L++zfk X ix:=by rw [hM];unfold zfk;rfl
 subst eM
 refine zn1 (L:=L) (ix:=ix) hc ⟨hk,fun y hy e=>?_,fun y hy e=>?_,fun x hx=>?_,fun y hy e=>?_⟩ d3 hi hg hgo ht he hs
 ·rcases (d1 y hy).1.1 with z|z
  ·exact absurd e z
  ·exact z
 ·rcases (d1 y hy).1.2 with z|z
  ·exact absurd e z
  ·exact z
 ·unfold zfk at hx
  exact d2 x hx
 ·rcases (d1 y hy).2 with z|z
  ·exact absurd e z
  ·exact z
end
end
section
end
section
section
variable {X:Cx}
theorem zqm{elt tg iter:Expr}{ifs:List Expr}{scope:Scope}{pos:Pos}{L:List Str}{ix:List Nat}{wi:TI}{g:TG}{tc:TT}{te:TE}{i0:Nat}{x0:Str}{pos' spos:Pos}(hN:X.N.Nodup)(hii:X.N[i0]?=some x0)(hx0:Loc X.env.scope x0)(hf0:X.fn x0=true\/X.env.scope.names.lookup x0=some .local)
  (hsw:swapsWith (.ListComp elt [⟨tg,iter,ifs,0⟩] scope pos) (some (.Name x0 pos')) spos.line X.env=pure true)(hc:X.calm=true)(S:zeO X scope (zfk X ix))(hix:∀ i∈ix,i<X.N.length)(hi:PI X tg iter wi)
  (hg:∀ C s₃ H₃ fp,PG (zat X (L++zfk X ix) scope C s₃ H₃ fp) tg g)(hgo:zne L.length g)
  (ht:∀ C s₃ H₃ fp,PTs (zat X (L++zfk X ix) scope C s₃ H₃ fp) ifs tc)(he:∀ C s₃ H₃ fp,PE (zat X (L++zfk X ix) scope C s₃ H₃ fp) elt te)
  (hs:∀ x,foldedSetIterable iter X.env x=pure x:=by intro _;rfl) :
  PS X (.Assign [.Name x0 pos'] (.ListComp elt [⟨tg,iter,ifs,0⟩] scope pos) spos) (zrx (ziU L.length ix wi g tc te) (zk3 i0)):=by
 intro pins s σ H Dn I h
 have h:ziU L.length ix wi g tc te σ H (fun v H1=>Dn.nx (σ.set i0 (some v)) H1):=h
 generalize hQ:(fun v H1=>Dn.nx (σ.set i0 (some v)) H1:VK)=Q at h
 rw [exec_Assign_Name_used _ _ _ _ hsw]
 refine wpAny_bind (wpAny_standAt (wpAny_bind ?_))
 show wpAny _ _ (do let _ <- comprehension (.ListComp elt [⟨tg,iter,ifs,0⟩] scope pos) scope X.env _ (newList []) false (eval iter X.env) (some (assign (.Name x0 pos') X.env))) _ _ s
 refine wpAny_bind (wpAny_mono (wpAny_comprehension_free (use:=some (assign (.Name x0 pos') X.env)) (Q:=fun _ s'=>SP X pins Dn .next s') rfl hs (zeh fun y hy e=>I.ok.has y.1 (.inl (S.cell y hy e))) S.kind S.loc (thn (hi pins s σ H _ I h) fun xv s1 h1=>thn h1 fun itv s2 h2=>?_)) (fun _ s' hq=>wpAny_pure (wpAny_pure hq)) fun _ _ e=>e)
 obtain⟨it,fp,tn,J,H2,rfl,I2,T,st2,f2,q⟩:=h2
 have nD:H2 s2.heap.objs.size=none:=I2.hok.fresh (Nat.le_refl _)
 obtain⟨W,⟨m0,w0⟩,turn⟩:=q _ nD
 generalize hD:s2.heap.objs.size=D at nD w0 turn
 have fD:∀ b∈fp,b<D:=fun b hb=>by
  obtain⟨o,e,_⟩:=T.obj _ _ st2 b hb
  rw [<- hD]
  exact Heap.lt_size e
 have I3:Inv X pins σ (upd H2 D (.lst [])) { s2 with heap:=s2.heap.push { cls:=.type "list",data:=.seq ([]:List Value).toArray },toks:=s2.toks }:=by
  rw [<- hD]
  exact I2.laid (t':=s2.toks) (fun b u e=>Heap.get?_push_of_some _ e) (Nat.le_refl _) ⟨by simp,[],0,.nil,Heap.get?_push_size _ rfl⟩
 refine wpAny_newObj_type (zmb (fun h₁ hns₁ hsb₁ hcs₁=>?_)) (by show 0<=sizeLine;exact Nat.zero_le _)
 rw [hD]
 have st3:tn 0 (s2.heap.push { cls:=.type "list",data:=.seq ([]:List Value).toArray }):=T.keep _ _ _ st2 fun b hb o e=>Heap.get?_push_of_some _ e
 generalize hp3:s2.heap.push { cls:=.type "list",data:=.seq ([]:List Value).toArray }=h3 at I3 st3 hns₁ hsb₁ hcs₁
 dsimp only at hns₁ hsb₁ hcs₁ ⊢
 have sz3:h3.objs.size=D+1:=by rw [<- hp3,Heap.size_push,hD]
 have old:∀ b u,h3.get? b=some u->h₁.get? b=some u:=fun b u e=>hsb₁ b u e
 have f3:∀ b∈fp,zhQ X pins (upd H2 D (.lst [])) b:=fun b hb=>⟨by rw [zao (Nat.ne_of_lt (fD b hb))];exact(f2 b hb).1,(f2 b hb).2⟩
 have I4:=zio (L:=L) (ix:=ix) (t':=s2.toks) S I3 f3 (fun b hb=>by show b<h3.objs.size;rw [sz3];exact Nat.lt_succ_of_lt (fD b hb)) hix (h':=h₁) hns₁ old hcs₁
 have st4:tn 0 h₁:=T.keep _ _ _ st3 fun b hb o e=>old b o e
 generalize hC:(zat X (L++zfk X ix) scope h3.objs.size { s2 with heap:=h3,toks:=s2.toks } (upd H2 D (.lst [])) fp)=Y at I4
 have eEnv:Y.env=compEnvC scope (zi2 h3.objs.size scope++zgm X.env.cells scope.names []) h3.objs.size X.env:=by rw [<- hC];rfl
 have hcY:Y.calm=true:=by rw [<- hC];exact hc
 have xeY:Y.xe=fun _ _=>False:=by rw [<- hC];rfl
 have eP:Y.prog=X.prog:=by rw [<- hC];rfl
 have eW:Y.w=X.w:=by rw [<- hC];rfl
 have eK:Y.K=X.K:=by rw [<- hC];rfl
 have eA:Y.A=X.A:=by rw [<- hC];rfl
 have gY:PG Y tg g:=by rw [<- hC];exact hg _ _ _ _
 have tY:PTs Y ifs tc:=by rw [<- hC];exact ht _ _ _ _
 have pY:PE Y elt te:=by rw [<- hC];exact he _ _ _ _
 have stat:∀{H':Hp},(∀ b∈fp,H' b=none)->∀ b∈fp,zhQ Y [] H' b:=fun{H'} hn b hb=>by
  have z1:b∈Y.ex:=by rw [<- hC];exact hb
  have zp:Y.pn=[]:=by rw [<- hC];rfl
  refine⟨hn b hb,(I4.ok.exf b z1).1,I4.ok.exfs b z1,.inl z1,(I4.ok.exf b z1).2,fun p hp=>?_⟩
  rw [zp] at hp
  exact absurd hp (by simp)
 have fin:∀{H':Hp} {s':Shared},Inv Y [] (zeq L.length ix σ) H' s'->Q (.ref D) H'->compPost (model X.prog X.w) X.A X.xe (some (assign (.Name x0 pos') X.env)) (fun _ s'=>SP X pins Dn .next s') (.ref D) h3.objs.size (.ok .next) s':=by
  intro H' s' J' qe
  obtain⟨m,hm,_⟩:=J'.loc
  rw [eEnv] at hm
  have hfr:H' h3.objs.size=none:=by
   have:=J'.free
   rw [eEnv] at this
   exact this
  have mk:∀ h',Heap.SameBut h3.objs.size s'.heap h'->Inv X pins σ H' { s' with heap:=h' }:=by
   intro h' sb
   have hfr:H' h3.objs.size=none:=by
    have:=J'.free
    rw [eEnv] at this
    exact this
   have neC:∀ b u,H' b=some u->b≠h3.objs.size:=fun b u e z=>by rw [z,hfr] at e;cases e
   have base:Un (frs X.stack) fp (upd H2 D (.lst [])) H' h3 s'.heap:=by
    have:=J'.base
    rw [<- hC] at this
    exact this
   have to':∀ b o,b≠h3.objs.size->s'.heap.get? b=some o->h'.get? b=some o:=fun b o hb e=>sb.extBut b o hb e
   have lt3:∀ b o,h3.get? b=some o->b≠h3.objs.size:=fun b o e=>Nat.ne_of_lt (Heap.lt_size e)
   have un:Un (frs X.stack) fp (upd H2 D (.lst [])) H' h3 h' :=
    ⟨fun b o e n hb hx=>to' b o (lt3 b o e) (base.keep b o e n hb hx),
     fun b o e n hb hx=>by
     obtain⟨sl,z⟩:=base.slot b o e n hb hx
     exact⟨sl,to' _ _ (lt3 b o e) z⟩,
     base.free,
     fun b o e hx=>by
     obtain⟨o',z⟩:=base.there b o e hx
     exact⟨o',to' _ _ (lt3 b o e) z⟩,
     base.tups,base.frzs,base.tbls⟩
   have hok:HOk X.prog X.w H' h':=fun b u e=>by
    have z:=J'.hok b u e
    rw [eP,eW] at z
    refine z.stay (fun c v hcv qv=>to' c v ?_ qv) (fun _ qq=>qq) fun _ _ qq=>qq
    rcases hcv with zz|zz
    ·rw [zz];exact neC b u e
    ·exact neC c _ zz
   refine I3.call' (s':={ s' with heap:=h' }) (ch:=fp) ?_ un hok J'.bare fun b hb=>?_
   ·have:=J'.os
    rw [<- hC] at this
    exact this
   ·obtain⟨_,g1,g2,g3,g4,g5⟩:=f2 b hb
    exact⟨g3,g1,g4,g5⟩
  have I5:Inv X pins σ H' s':=mk s'.heap (Heap.SameBut.refl ..)
  show wpAny _ _ (assign (.Name x0 pos') X.env (.ref D)) _ _ s'
  refine wpAny_assign_Name (zhX (v:=.ref D) I5 hN hii hx0 rfl (fun s'' I6 hh=>?_) hf0)
  obtain⟨a6,sb6,ha6⟩:=hh
  have neC:a6≠h3.objs.size:=by
   rcases ha6 with z|z
   ·rw [z];exact Nat.ne_of_lt I3.lt
   ·obtain⟨v6,q6⟩:=I3.cell x0 a6 z
    exact Nat.ne_of_lt q6.lt
  refine⟨m,hm.sameBut sb6 (Ne.symm neC),fun h'' sb2=>⟨_,H',?_,by rw [<- hQ] at qe;exact qe⟩⟩
  refine Inv.zew (t':=s''.toks) (fp:=[h3.objs.size]) I6 (fun b o hb e=>sb2.extBut b o (by simpa using hb) e) fun b hb=>?_
  have e:b=h3.objs.size:=by simpa using hb
  subst e
  exact I3.znj (Nat.le_refl _) hfr
 have key:∀ s5:Shared,s5={ s2 with heap:=h₁,toks:=s2.toks } ->
   codeAny (model X.prog X.w) X.A (.compLoop (.ListComp elt [⟨tg,iter,ifs,0⟩] scope pos) 0 (.ref it) (.ref D) (compEnvC scope (zi2 h3.objs.size scope++zgm X.env.cells scope.names []) h3.objs.size X.env))
    (compPost (model X.prog X.w) X.A X.xe (some (assign (.Name x0 pos') X.env)) (fun _ s'=>SP X pins Dn .next s') (.ref D) h3.objs.size) s5:=by
  rintro s5 rfl
  rw [<- eEnv,<- eP,<- eW,<- eA]
  refine zf2 (fun n s'=>∃ i ys H',Inv Y [] (zeq L.length ix σ) H' s'/\tn i s'.heap/\(∀ b∈fp,H' b=none)/\W i n ys H') ?_ m0 ⟨0,[],_,?_,st4,fun b hb=>(f3 b hb).1,w0⟩
  ·rintro n s6 ⟨i,ys,H6,I6,st6,fr6,w6⟩
   obtain⟨hl6,alt⟩:=turn i n ys H6 w6
   rcases alt with⟨stop,qe⟩|⟨go,step⟩
   ·have Td:=T.done Y eP eW eK hcY i [] s6 _ H6 (fun _ _=>False) I6 (stat fr6) st6 stop
    rw [<- eP,<- eW] at Td
    refine wpAny_mono Td (fun r s7 hr7=>?_) fun _ _ f=>f.elim
    obtain⟨hr,I7⟩:=hr7
    subst hr
    rw [eP,eW,eA]
    exact fin I7 qe
   ·have Ti:=T.item Y eP eW eK hcY i [] s6 _ H6 (fun _ _=>False) I6 (stat fr6) st6 go
    rw [<- eP,<- eW] at Ti
    refine wpAny_mono Ti (fun r s7 hr7=>?_) fun _ _ f=>f.elim
    obtain⟨u,hr,h7⟩:=hr7
    subst hr
    refine wpAny_mono h7 (fun _ s8 hr8=>?_) fun _ _ f=>f.elim
    obtain⟨x,H8,I8,r8,y8,st8,fr8⟩:=hr8
    have I8':=I8.pinned (stat fr8) (T.obj _ _ st8)
    have stp:=hgo _ _ _ _ (step x H8 y8)
    refine wpAny_mono (gY _ s8 _ H8 x u _ I8' r8 stp) (fun _ s9 ⟨σ9,H9,I9,⟨k1,k2⟩,q9⟩=>?_) fun _ _ f=>by rw [xeY] at f;exact f.elim
    have weak:∀{Hz:Hp} {sz:Shared},Inv Y ([]++zgv fp s8.heap) σ9 Hz sz->Inv Y [] (zeq L.length ix σ) Hz sz/\tn (i+1) sz.heap/\∀ b∈fp,Hz b=none:=fun{Hz sz} Iz=>by
     refine⟨Iz.zdW.weak k1.symm fun j v e=>?_,T.keep _ _ _ st8 fun b hb o e=>(Iz.pin (b,o) (List.mem_append_right _ (List.mem_append_right _ (zcm hb e)))).1,fun b hb=>?_⟩
     ·by_cases hj:L.length<=j
      ·rw [k2 j hj];exact e
      ·unfold zeq at e
       rw [List.getElem?_append_left (by simpa using Nat.lt_of_not_le hj),List.getElem?_replicate,if_pos (Nat.lt_of_not_le hj)] at e
       cases e
     ·obtain⟨o,e,d⟩:=T.obj _ _ st8 b hb
      exact(Iz.pin (b,o) (List.mem_append_right _ (List.mem_append_right _ (zcm hb e)))).2.1
    refine wpAny_mono (tY _ s9 σ9 H9 _ I9 q9) (fun ok s10 ⟨H10,I10,q10⟩=>?_) fun _ _ f=>by rw [xeY] at f;exact f.elim
    cases ok with
    | false =>
     have q10':∃ m',m'<n/\W (i+1) m' ys H10:=q10
     obtain⟨m',hm',w10⟩:=q10'
     obtain⟨z1,z2,z3⟩:=weak I10
     exact⟨m',hm',i+1,ys,H10,z1,z2,z3,w10⟩
    | true =>
     refine wpAny_mono (pY _ s10 σ9 H10 _ I10 q10) (fun xv s11 ⟨v,H11,I11,r11,hl11,hz11,m',hm',w11⟩=>?_) fun _ _ f=>by rw [xeY] at f;exact f.elim
     refine wpAny_mono (zfG (X:=Y) _ s11 σ9 H11 (.ref D) [v] (.ref D) [xv] (fun _ Hq=>Hq=upd H11 D (.lst (ys++[v]))) I11 rfl (.cons r11 .nil) ⟨D,ys,v,rfl,rfl,hl11,hz11,rfl⟩) (fun _ s12 ⟨_,H12,I12,_,e12⟩=>?_) fun _ _ f=>by rw [xeY] at f;exact f.elim
     subst e12
     obtain⟨z1,z2,z3⟩:=weak I12
     exact⟨m',hm',i+1,ys++[v],_,z1,z2,z3,w11⟩
  ·exact I4
 exact codeAny_compStart_list (key _ rfl) (T.self _ 0 _ _ _ st4 (key _ rfl))
theorem zlK{elt tg iter:Expr}{ifs:List Expr}{scope:Scope}{pos:Pos}{wi:TI}{g:TG}{tc:TT}{te:TE}{x0:Str}{pos' spos:Pos}(i0:Nat)(L:List Str)(ix:List Nat)(M:List Str)(hN:X.N.Nodup)(hii:X.N[i0]?=some x0)(hx0:X.env.scope.names.lookup x0=some .local)
  (hsw:swapsWith (.ListComp elt [⟨tg,iter,ifs,0⟩] scope pos) (some (.Name x0 pos')) spos.line X.env=pure true)(hc:X.calm=true)(hk:scope.kind=.function)
  (hd:zcR X.env.scope scope X.N ix=true)(hM:M=L++ix.map fun i=>X.N.getD i "") (hi:PI X tg iter wi)
  (hg:∀ C s₃ H₃ fp,PG (zat X M scope C s₃ H₃ fp) tg g) (hgo:zne L.length g)
  (ht:∀ C s₃ H₃ fp,PTs (zat X M scope C s₃ H₃ fp) ifs tc) (he:∀ C s₃ H₃ fp,PE (zat X M scope C s₃ H₃ fp) elt te)
  (hs:∀ x,foldedSetIterable iter X.env x=pure x:=by intro _;rfl) :
  PS X (.Assign [.Name x0 pos'] (.ListComp elt [⟨tg,iter,ifs,0⟩] scope pos) spos) (zrx (ziU L.length ix wi g tc te) (zk3 i0)):=by
 unfold zcR at hd
 simp only [Bool.and_eq_true,List.all_eq_true,bne_iff_ne,ne_eq,Bool.or_eq_true,beq_iff_eq,decide_eq_true_eq,Bool.not_eq_true',List.contains_eq_mem,decide_eq_false_iff_not] at hd
 obtain⟨⟨d1,d2⟩,d3⟩:=hd
 have eM:M=L++zfk X ix:=by rw [hM];unfold zfk;rfl
 subst eM
 refine zqm (L:=L) (ix:=ix) hN hii (.inl hx0) (.inr hx0) hsw hc ⟨hk,fun y hy e=>?_,fun y hy e=>?_,fun x hx=>?_,fun y hy e=>?_⟩ d3 hi hg hgo ht he hs
 ·rcases (d1 y hy).1.1 with z|z
  ·exact absurd e z
  ·exact z
 ·rcases (d1 y hy).1.2 with z|z
  ·exact absurd e z
  ·exact z
 ·unfold zfk at hx
  exact d2 x hx
 ·rcases (d1 y hy).2 with z|z
  ·exact absurd e z
  ·exact z
end
end
section
end
section
section
variable {κ:Type}[DecidableEq κ]
def zll(kvs:List (κ×V))(k:κ):Option V:=(kvs.find? fun kv=>decide (kv.1=k)).map (·.2)
def putK(kvs:List (κ×V))(k:κ)(v:V):List (κ×V) :=
 if(kvs.any fun kv=>decide (kv.1=k))=true then kvs.map (fun kv=>if kv.1=k then(kv.1,v) else kv) else kvs++[(k,v)]
theorem zgN{p:κ×V}{r:List (κ×V)}{k:κ}(e:p.1=k):zll (p::r) k=some p.2:=by simp [zll,List.find?_cons,e]
theorem zgO{p:κ×V}{r:List (κ×V)}{k:κ}(e:¬ p.1=k):zll (p::r) k=zll r k:=by simp [zll,List.find?_cons,e]
theorem zjL(k:κ):∀ kvs:List (κ×V),(kvs.any fun kv=>decide (kv.1=k))=(zll kvs k).isSome
 | []=>rfl
 | p::r=>by
  rw [List.any_cons]
  by_cases e:p.1=k
  ·simp only [zgN e,decide_eq_true e,Bool.true_or,Option.isSome_some]
  ·rw [zgO e,decide_eq_false e,Bool.false_or];exact zjL k r
theorem zfJ(kvs:List (κ×V))(k:κ)(v:V):(putK kvs k v).length<=kvs.length+1:=by
 unfold putK
 split
 ·rw [List.length_map];omega
 ·rw [List.length_append,List.length_cons,List.length_nil];omega
theorem ziP.zin{o:Option V}{u:Option Value}(r:ziP o u):o.isSome=u.isSome:=by
 cases o with
 | none=>cases u with
  | none=>rfl
  | some _=>exact(show False from r).elim
 | some _=>cases u with
  | none=>exact(show False from r).elim
  | some _=>rfl
theorem ziP.getD{o:Option V}{u:Option Value}{d:V}{d':Value}(r:ziP o u)(rd:RelV d d'):RelV (o.getD d) (u.getD d'):=by
 cases o with
 | none=>cases u with
  | none=>exact rd
  | some _=>exact(show False from r).elim
 | some _=>cases u with
  | none=>exact(show False from r).elim
  | some _=>exact r
end
theorem zuu{P:Program}{w:World}{k:Key}{u:Value}(r:RelV (kV k) u):(zbJ P w).is k u=true:=by
 cases k with
 | inl i=>obtain⟨t,e⟩:=(show ∃ t,u=Value.int i t from r);subst e;exact zi8 P w i t
 | inr x=>obtain⟨t,e⟩:=(show ∃ t,u=Value.str x t from r);subst e;exact zi7 P w x t
theorem zim{P:Program}{w:World}:∀{ks:List Key} {us:List Value},Vals (ks.map kV) us->ItemsAre (zbJ P w) ks us
 | [],_,r=>by rw [List.map_nil] at r;cases r;exact .nil
 | k::ks,_,r=>by
  rw [List.map_cons] at r
  cases r with
  | cons h t=>exact .cons (zuu h) (zim t)
abbrev KT(H:Hp):List (List Key×V)->List (List Key×Addr×Value)->Prop:=Paired fun p q=>p.1=q.1/\TAt H q.2.1 (p.1.map kV)/\RelV p.2 q.2.2
theorem KT.val{H:Hp}{kvs:List (List Key×V)}{xs:List (List Key×Addr×Value)}(r:KT H kvs xs)(k:List Key):ziP (zll kvs k) ((atKey xs k).map (·.2)):=by
 induction r with
 | nil=>exact True.intro
 | @cons p q ps qs h t ih =>
  obtain⟨h1,_,h2⟩:=h
  by_cases e:p.1=k
  ·have e':q.1=k:=h1.symm.trans e
   have b:atKey (q::qs) k=some q.2:=by simp [atKey,List.find?_cons,e']
   rw [zgN e,b];exact h2
  ·have e':¬ q.1=k:=fun z=>e (h1.trans z)
   have b:atKey (q::qs) k=atKey qs k:=by simp [atKey,List.find?_cons,e']
   rw [zgO e,b];exact ih
theorem KT.repl{H:Hp}{kvs:List (List Key×V)}{xs:List (List Key×Addr×Value)}(r:KT H kvs xs)(k:List Key){y:V}{u:Value}(ry:RelV y u) :
  KT H (kvs.map fun kv=>if kv.1=k then(kv.1,y) else kv) (xs.map (putAt k u)):=by
 induction r with
 | nil=>exact .nil
 | @cons p q ps qs h t ih =>
  rw [List.map_cons,List.map_cons]
  refine .cons ?_ ih
  obtain⟨h1,h2,h3⟩:=h
  unfold putAt
  by_cases e:p.1=k
  ·rw [if_pos e,if_pos (h1.symm.trans e)];exact⟨h1,h2,ry⟩
  ·rw [if_neg e,if_neg (fun z=>e (h1.trans z))];exact⟨h1,h2,h3⟩
theorem KT.put{H:Hp}{kvs:List (List Key×V)}{xs:List (List Key×Addr×Value)}(r:KT H kvs xs)(k:List Key){b:Addr}{y:V}{u:Value}(hb:TAt H b (k.map kV))(ry:RelV y u) :
  KT H (putK kvs k y) (storedH xs k b u):=by
 have e:(kvs.any fun kv=>decide (kv.1=k))=(atKey xs k).isSome:=by
  rw [zjL,(r.val k).zin,Option.isSome_map]
 unfold putK storedH
 rw [e]
 by_cases q:(atKey xs k).isSome=true
 ·rw [if_pos q,if_pos q];exact r.repl k ry
 ·rw [if_neg q,if_neg q];exact Paired.snoc r ⟨rfl,hb,ry⟩
theorem KT.keeps{H H':Hp}{kvs:List (List Key×V)}{xs:List (List Key×Addr×Value)}(r:KT H kvs xs)(ht:∀ b ys,TAt H b ys->TAt H' b ys):KT H' kvs xs :=
 Paired.zuo r fun _ _ z=>⟨z.1,ht _ _ z.2.1,z.2.2⟩
section
variable {P:Program}{w:World}{H:Hp}{h:Heap}{a:Addr}
theorem ztV{u:HO}(ok:HOk P w H h)(e:Rd H a u):zbR P w H h a u:=e.ok ok
theorem zgz{ks:List Key}(ok:HOk P w H h)(e:TAt H a (ks.map kV)):(tupleKind (zbJ P w)).is h ks a:=by
 obtain⟨_,its,r,o,h1,h2,n,h3⟩:=(show zbR P w H h a (.tup (ks.map kV)) from Rd.ok e ok)
 exact⟨o,its.toArray,n,h1,h2,h3,by simpa using zim r⟩
theorem zjr{kvs:List (List Key×V)}(ok:HOk P w H h)(e:Rd H a (.dT kvs)):kvs.length<=sizeLine/\(a==sysModules)=false /\
  ∃ xs,KT H kvs xs/\h.DictOfH (tupleKind (zbJ P w)) a xs:=by
 obtain⟨z,y,xs,r,o,es,ep,h1,h2,h3,h4,h5⟩:=(show zbR P w H h a (.dT kvs) from ztV ok e)
 refine⟨z,y,xs,r,o,es,ep,h1,h2,h3,h4,fun x hx=>?_,h5⟩
 have all:∀{l:List (List Key×V)} {m:List (List Key×Addr×Value)},KT H l m->∀ x∈m,(tupleKind (zbJ P w)).is h x.1 x.2.1:=by
  intro l m q
  induction q with
  | nil=>intro x hx;exact nomatch hx
  | @cons p q ps qs hq t ih =>
   intro x hx
   rcases List.mem_cons.mp hx with e|hx
   ·subst e
    exact zgz ok (by rw [<- hq.1];exact hq.2.1)
   ·exact ih x hx
 exact all r x hx
theorem zuN{kvs:List (List Key×V)}(ok:HOk P w H h)(e:H a=some (.dT kvs)):kvs.length<=sizeLine/\(a==sysModules)=false /\
  ∃ xs,KT H kvs xs/\h.DictOfH (tupleKind (zbJ P w)) a xs:=zjr ok (.inl e)
end
def ztu(H:Hp)(a:Addr)(y:V)(r:Option V):Prop :=
 ∃ kvs k b,Rd H a (.dT kvs)/\y=.ref b/\TAt H b (k.map kV)/\r=zll kvs k
def zvo(H:Hp)(a:Addr)(y v:V)(H':Hp):Prop :=
 ∃ kvs k b,H a=some (.dT kvs)/\y=.ref b/\TAt H b (k.map kV)/\kvs.length<sizeLine/\H'=upd H a (.dT (putK kvs k v))
section
variable {X:Cx}{pins:List (Addr×Obj)}{σ:St}{H:Hp}{s:Shared}{a:Addr}{y v:V}{u r:Value}{o:Option V}{A:Around}{E:Value->Shared->Prop}
theorem Inv.big(I:Inv X pins σ H s):sysModules<s.heap.objs.size:=by
 have h:mainGlobals<s.heap.objs.size:=(I.mod.glob.keeps I.bk).lt
 exact Nat.lt_trans (by decide) h
theorem zmQ{Q:Value->Shared->Prop}(hu:A.units+1<cLine)(I:Inv X pins σ H s)(g:ztu H a y (some v))(ry:RelV y u)(h:∀ w' s',Inv X pins σ H s'->RelV v w'->Q w' s') :
  wpAny (model X.prog X.w) A (getItem (.ref a) u) Q E s:=by
 obtain⟨kvs,k,b,e,ey,eb,l⟩:=g
 subst ey
 cases (show u=Value.ref b from ry)
 obtain⟨z,hd,xs,rel,dd⟩:=zjr I.hok e
 obtain⟨w',hw,rw'⟩:=ziP.some_of (v:=v) (o:=(atKey xs k).map (·.2)) (by rw [l];exact rel.val k)
 obtain⟨p,hp,hp2⟩:=Option.map_eq_some_iff.mp hw
 refine wpAny_getItem_heap (tupleKind_room_in1 hu) (zgz I.hok eb) dd hp ?_
 rw [hp2]
 exact h w' _ (I.tok _) rw'
theorem zv7{Q:Value->Shared->Prop}(hu:A.units+1<cLine)(I:Inv X pins σ H s)(g:ztu H a y o)(ry:RelV y u)(h:∀ s',Inv X pins σ H s'->Q (.bool o.isSome) s') :
  wpAny (model X.prog X.w) A (compareOp .In u (.ref a)) Q E s:=by
 obtain⟨kvs,k,b,e,ey,eb,l⟩:=g
 subst ey
 cases (show u=Value.ref b from ry)
 obtain⟨z,hd,xs,rel,dd⟩:=zjr I.hok e
 refine wpAny_in_heap (tupleKind_room_in1 hu) (zgz I.hok eb) hd dd ?_
 have q:=(rel.val k).zin
 rw [Option.isSome_map] at q
 rw [<- q,<- l]
 exact h _ (I.tok _)
theorem zri{h':Heap}{t':Nat}{ob:HO}(I:Inv X pins σ H s)(mu:Mut (H a))(hs:Heap.SameBut a s.heap h')(he:∃ q,h'.get? a=some q)(new:zbR X.prog X.w (upd H a ob) h' a ob) :
  Inv X pins σ (upd H a ob) { s with heap:=h',toks:=t' } :=
 I.write (x:=a) (e:=a) mu (.inl rfl) (fun b q hb z=>(hs.2 b hb).trans z) he new
theorem zmP{H':Hp}{Q:Unit->Shared->Prop}(hu:A.units+1<cLine)(I:Inv X pins σ H s)(g:zvo H a y v H')(ry:RelV y u)(rv:RelV v r)(h:∀ s',Inv X pins σ H' s'->Q () s') :
  wpAny (model X.prog X.w) A (setItem (.ref a) u r) Q E s:=by
 obtain⟨kvs,k,b,e,ey,eb,l,eH⟩:=g
 subst ey eH
 cases (show u=Value.ref b from ry)
 obtain⟨z,hd,xs,rel,dd⟩:=zuN I.hok e
 have hz:xs.length<=sizeLine:=by rw [<- Paired.length rel];exact z
 have hl:(putK kvs k v).length<=sizeLine:=by have:=zfJ kvs k v;omega
 refine wpAny_setItem_heap (hsz:=hz) (tupleKind_room_in1 hu) (zgz I.hok eb) dd fun h' dd' hs=>h _ ?_
 obtain⟨q,es,ep,hq,h2,h3,h4,_,h5⟩:=dd'
 refine zri I (by rw [e];exact True.intro) hs ⟨q,hq⟩ ⟨hl,hd,_,(rel.put k eb rv).keeps fun c ys ec=>?_,q,es,ep,hq,h2,h3,h4,h5⟩
 exact ec.upd (fun _ z=>zsH z e (fun z=>nomatch z)) fun _ _ z=>zsH z e (fun z=>nomatch z)
end
theorem zjs{X:Cx}{pins:List (Addr×Obj)}{σ:St}{H:Hp}{s:Shared}{a:Addr}{y:V}{o:Option V}(I:Inv X pins σ H s)(g:ztu H a y o):s.TypeIs (.ref a) "dict":=by
 obtain⟨kvs,k,b,e,_,_,_⟩:=g
 obtain⟨_,_,xs,_,dd⟩:=zjr I.hok e
 exact dd.typeIs
theorem zoA{P:Program}{w:World}{H:Hp}(h:Heap)(hb:sysModules<h.objs.size):zbR P w H (h.push { cls:=.type "dict",data:=.dict #[] }) h.objs.size (.dT []) :=
 ⟨Nat.zero_le _,beq_eq_false_iff_ne.mpr (Ne.symm (Nat.ne_of_lt hb)),[],.nil,_,#[],0,Heap.get?_push_size _ rfl,⟨rfl,rfl,rfl⟩,rfl,rfl,List.nodup_nil⟩
def zrQ:TE:=fun _ H Q=>∀ p,H p=none->Q (.ref p) (upd H p (.dT []))
section
variable {X:Cx}{pos:Pos}
theorem znZ:PE X (.Dict [] [] pos) zrQ:=fun pins s σ H Q I h =>
 wpAny_Dict_empty ⟨.ref s.heap.objs.size,_,I.laid (a:=s.heap.objs.size) (o:=.dT []) (t':=s.toks) (fun _ _ q=>Heap.get?_push_of_some _ q) (Nat.le_refl _) (zoA s.heap I.big),rfl,h _ (I.hok.fresh (Nat.le_refl _))⟩
end
structure M2(X:Cx)(o:Expr)(m:Str)(apos:Pos)(e f:Expr)(cpos:Pos):Prop where
 base:attributeBase o m X.env (eval o X.env)=eval o X.env
 few:((backTo cpos (starEach [e,f] X.env)).all (fun x=>!x.1)&&(backToKw cpos (keywordEach [] X.env)).all (fun x=>x.1.isSome)
  && decide (([e,f]:List Expr).length+([]:List Keyword).length+(if([]:List Keyword).isEmpty then 0 else 1)<30))=true
 line:(apos.endLine==cpos.line)=true
 trees:backTo cpos (starEach [e,f] X.env)=[(false,eval e X.env),(false,eval f X.env)]
def IsD(H:Hp)(a:Addr):Prop:=∃ kvs,Rd H a (.dT kvs)
theorem zsY{X:Cx}{pins:List (Addr×Obj)}{σ:St}{H:Hp}{s:Shared}{a:Addr}(I:Inv X pins σ H s)(d:IsD H a) :
  s.TypeIs (.ref a) "dict"/\(∀ b,Value.ref a=.ref b->∃ ob,s.heap.get? b=some ob/\ob.dict=none)/\(a==sysModules)=false:=by
 obtain⟨kvs,e⟩:=d
 obtain⟨_,hd,xs,_,dd⟩:=zjr I.hok e
 refine⟨dd.typeIs,fun b q=>?_,hd⟩
 cases q
 obtain⟨ob,_,_,h1,h2,_⟩:=dd
 exact⟨ob,h1,h2.2.1⟩
section
variable {X:Cx}{pins:List (Addr×Obj)}{σ:St}{H:Hp}{s:Shared}{a:Addr}{y d:V}{u r:Value}{o:Option V}{A:Around}{E:Value->Shared->Prop}
theorem zte{Q:Value->Shared->Prop}(hu:A.units+1<cLine)(I:Inv X pins σ H s)(g:ztu H a y o)(ry:RelV y u)(rd:RelV d r)(h:∀ w' s',Inv X pins σ H s'->RelV (o.getD d) w'->Q w' s') :
  wpAny (model X.prog X.w) A (call (.builtin "dict.get") [.ref a,u,r]) Q E s:=by
 obtain⟨kvs,k,b,e,ey,eb,l⟩:=g
 subst ey
 cases (show u=Value.ref b from ry)
 obtain⟨z,hd,xs,rel,dd⟩:=zjr I.hok e
 refine call_meetsIn PySem.F.slot_dict_get dd.typeIs PySem.F.entry_dict_get (PySem.F.args_dict_get_3 _ _ _) (meetsH_dict_get_default (tupleKind (zbJ X.prog X.w)) a b hd r) ⟨tupleKind_room_in1 hu,k,xs,zgz I.hok eb,dd,h _ _ (I.tok _) ?_⟩
 rw [l]
 exact(rel.val k).getD rd
end
end
section
end
section
end
section
end
section
end
section
end
section
theorem zlk:∀{xs:List V} {us:List Value},xs.length=us.length->(∀(j:Nat) x u,xs[j]?=some x->us[j]?=some u->RelV x u)->Vals xs us
 | [],[],_,_=>.nil
 | x::xs,u::us,l,h=>.cons (h 0 x u rfl rfl) (zlk (by simpa using l) fun j y v e1 e2=>h (j+1) y v (by simpa using e1) (by simpa using e2))
end
end L2
namespace Q1
section
def fr(t b:Int):Int×Int:=if b<0 then(t / -(Int.gcd t b:Int),b / -(Int.gcd t b:Int)) else(t / (Int.gcd t b:Int),b / (Int.gcd t b:Int))
structure Low(p q:Int):Prop where
 pos:0<q
 cop:Int.gcd p q=1
theorem zfU{t b:Int}(h:b≠0):0<(Int.gcd t b:Int):=by
 have:0<Int.gcd t b:=Int.gcd_pos_of_ne_zero_right _ h
 omega
theorem zuQ{t b:Int}:((Int.gcd t b:Nat):Int)∣t:=Int.gcd_dvd_left ..
theorem zrf{t b:Int}:((Int.gcd t b:Nat):Int)∣b:=Int.gcd_dvd_right ..
theorem zf1{t b:Int}(h:b≠0):Int.gcd (t / (Int.gcd t b:Int)) (b / (Int.gcd t b:Int))=1:=by
 have hp:0<Int.gcd t b:=Int.gcd_pos_of_ne_zero_right _ h
 exact Int.gcd_ediv_gcd_ediv_gcd hp
theorem zs5{t b:Int}(h:b≠0):Low (fr t b).1 (fr t b).2:=by
 have hg:=zfU (t:=t) h
 have c:=zf1 (t:=t) h
 unfold fr
 split
 ·rename_i hb
  refine⟨?_,?_⟩
  ·show 0<b / -(Int.gcd t b:Int)
   rw [Int.ediv_neg]
   have:=Int.ediv_mul_cancel (zrf (t:=t) (b:=b))
   have h1:b / (Int.gcd t b:Int)<0:=by
    rcases Int.lt_trichotomy (b / (Int.gcd t b:Int)) 0 with z|z|z
    ·exact z
    ·rw [z] at this;omega
    ·have:=Int.mul_pos z hg;omega
   omega
  ·show Int.gcd (t / -(Int.gcd t b:Int)) (b / -(Int.gcd t b:Int))=1
   rw [Int.ediv_neg,Int.ediv_neg,Int.gcd_neg,Int.neg_gcd]
   exact c
 ·rename_i hb
  refine⟨?_,c⟩
  show 0<b / (Int.gcd t b:Int)
  have:=Int.ediv_mul_cancel (zrf (t:=t) (b:=b))
  rcases Int.lt_trichotomy (b / (Int.gcd t b:Int)) 0 with z|z|z
  ·have:=Int.mul_neg_of_neg_of_pos z hg;omega
  ·rw [z] at this;omega
  ·exact z
theorem zuK{t b:Int}(h:b≠0):(fr t b).1*b=t*(fr t b).2:=by
 have e1:=Int.ediv_mul_cancel (zuQ (t:=t) (b:=b))
 have e2:=Int.ediv_mul_cancel (zrf (t:=t) (b:=b))
 have key:t / (Int.gcd t b:Int)*b=t*(b / (Int.gcd t b:Int)):=by
  calc t / (Int.gcd t b:Int)*b=t / (Int.gcd t b:Int)*(b / (Int.gcd t b:Int)*(Int.gcd t b:Int)):=by rw [e2]
   _=t / (Int.gcd t b:Int)*(Int.gcd t b:Int)*(b / (Int.gcd t b:Int)):=by rw [Int.mul_assoc,Int.mul_comm (b / _)]
   _=t*(b / (Int.gcd t b:Int)):=by rw [e1]
 unfold fr
 split
 ·show t / -(Int.gcd t b:Int)*b=t*(b / -(Int.gcd t b:Int))
  rw [Int.ediv_neg,Int.ediv_neg,Int.neg_mul,Int.mul_neg,key]
 ·exact key
theorem zfY{q p r:Int}(h:q∣p*r)(c:Int.gcd p q=1):q∣r:=by
 have h1:q.natAbs∣p.natAbs*r.natAbs:=by
  rw [<- Int.natAbs_mul]
  exact Int.natAbs_dvd_natAbs.mpr h
 have c':Nat.Coprime q.natAbs p.natAbs:=by
  show Nat.gcd q.natAbs p.natAbs=1
  rw [Nat.gcd_comm]
  exact c
 exact Int.natAbs_dvd_natAbs.mp (Nat.Coprime.dvd_of_dvd_mul_left c' h1)
theorem zof{p q p' q':Int}(a:Low p q)(b:Low p' q')(h:p*q'=p'*q):p=p'/\q=q':=by
 have d1:q∣q':=by
  have:q∣p*q':=⟨p',by rw [h,Int.mul_comm]⟩
  exact zfY this a.cop
 have d2:q'∣q:=by
  have:q'∣p'*q:=⟨p,by rw [<- h,Int.mul_comm]⟩
  exact zfY this b.cop
 have e:q=q':=Int.dvd_antisymm (Int.le_of_lt a.pos) (Int.le_of_lt b.pos) d1 d2
 refine⟨?_,e⟩
 subst e
 exact Int.eq_of_mul_eq_mul_right (Int.ne_of_gt a.pos) h
theorem zs4{t b p q:Int}(hb:b≠0)(l:Low p q)(h:p*b=t*q):fr t b=(p,q):=by
 have e:=zuK (t:=t) hb
 have l':=zs5 (t:=t) hb
 have:(fr t b).1*q=p*(fr t b).2:=by
  have h2:(fr t b).1*q*b=p*(fr t b).2*b:=by
   calc (fr t b).1*q*b=(fr t b).1*b*q:=by rw [Int.mul_assoc,Int.mul_comm q,Int.mul_assoc]
    _=t*(fr t b).2*q:=by rw [e]
    _=t*q*(fr t b).2:=by rw [Int.mul_assoc,Int.mul_comm (fr t b).2,Int.mul_assoc]
    _=p*b*(fr t b).2:=by rw [h]
    _=p*(fr t b).2*b:=by rw [Int.mul_assoc,Int.mul_comm b,Int.mul_assoc]
  exact Int.eq_of_mul_eq_mul_right hb h2
 obtain⟨a1,a2⟩:=zof l' l this
 exact Prod.ext a1 a2
theorem zpr{t b:Int}(h:0<b):fr t b=(t / (Int.gcd t b:Int),b / (Int.gcd t b:Int)):=by
 unfold fr
 rw [if_neg (by omega)]
end
section
theorem Low.ne{p q:Int}(l:Low p q):q≠0:=Int.ne_of_gt l.pos
theorem gcd_one{a b:Int}(h:∀ d:Int,d∣a->d∣b->d∣1):Int.gcd a b=1:=by
 have:=h (Int.gcd a b:Int) (Int.gcd_dvd_left ..) (Int.gcd_dvd_right ..)
 have h2:(Int.gcd a b)∣1:=by
  have:=Int.natAbs_dvd_natAbs.mpr this
  simpa using this
 exact Nat.dvd_one.mp h2
theorem dvd_one{a b d:Int}(h:Int.gcd a b=1)(h1:d∣a)(h2:d∣b):d∣1:=by
 have:=Int.dvd_coe_gcd h1 h2
 rw [h] at this
 exact this
theorem zfV{a b:Int}(h:Int.gcd a b=1):Int.gcd b a=1:=by rw [Int.gcd_comm];exact h
theorem gcd_mul{a b c:Int}(h1:Int.gcd a b=1)(h2:Int.gcd a c=1):Int.gcd a (b*c)=1:=by
 refine gcd_one fun d da db=>?_
 have c1:Int.gcd b d=1:=gcd_one fun e e1 e2=>dvd_one h1 (Int.dvd_trans e2 da) e1
 exact dvd_one h2 da (zfY db c1)
theorem zkg{a b a' b':Int}(h:Int.gcd a b=1)(h1:a'∣a)(h2:b'∣b):Int.gcd a' b'=1 :=
 gcd_one fun d da db=>dvd_one h (Int.dvd_trans da h1) (Int.dvd_trans db h2)
theorem zfh{a b:Int}(h:b∣a):a / b∣a:=by
 obtain⟨c,rfl⟩:=h
 by_cases z:b=0
 ·subst z;simp
 ·rw [Int.mul_ediv_cancel_left _ z];exact⟨b,Int.mul_comm _ _⟩
theorem zcJ{a b:Int}(h:0<a*b)(hb:0<b):0<a:=by
 rcases Int.lt_trichotomy a 0 with z|z|z
 ·have:=Int.mul_neg_of_neg_of_pos z hb;omega
 ·subst z;simp at h
 ·exact z
def zkL(p q r s:Int):Int×Int :=
 let g:=(Int.gcd q s:Int)
 let top:=p*(s / g)+r*(q / g)
 let e:=(Int.gcd top g:Int)
 (top / e,q / g*(s / e))
def zjO(p q r s:Int):Int×Int :=
 (p / (Int.gcd p s:Int)*(r / (Int.gcd r q:Int)),q / (Int.gcd r q:Int)*(s / (Int.gcd p s:Int)))
theorem zlR{p q r s g m t e top T G:Int}(l1:Low p q)(l2:Low r s)(g0:0<g)(e0:0<e)(hq:q=m*g)(hs:s=t*g)(hmt:Int.gcd m t=1)
  (ht:top=p*t+r*m)(hT:top=T*e)(hG:g=G*e)(hTG:Int.gcd T G=1):Low T (m*(t*G))/\T*(q*s)=(p*s+r*q)*(m*(t*G)):=by
 have hm:0<m:=zcJ (by rw [<- hq];exact l1.pos) g0
 have htt:0<t:=zcJ (by rw [<- hs];exact l2.pos) g0
 have hGG:0<G:=zcJ (by rw [<- hG];exact g0) e0
 refine⟨⟨Int.mul_pos hm (Int.mul_pos htt hGG),?_⟩,?_⟩
 ·have dT:T∣top:=⟨e,hT⟩
  have c1:Int.gcd T m=1:=by
   refine gcd_one fun d da db=>?_
   have h1:d∣p*t:=by
    have h2:d∣p*t+r*m:=by rw [<- ht];exact Int.dvd_trans da dT
    exact(Int.dvd_add_left (Int.dvd_mul_of_dvd_right db)).mp h2
   have h3:Int.gcd p d=1:=zkg l1.cop (Int.dvd_refl _) (by rw [hq];exact Int.dvd_trans db (Int.dvd_mul_right ..))
   exact dvd_one hmt db (zfY h1 h3)
  have c2:Int.gcd T t=1:=by
   refine gcd_one fun d da db=>?_
   have h1:d∣r*m:=by
    have h2:d∣p*t+r*m:=by rw [<- ht];exact Int.dvd_trans da dT
    exact(Int.dvd_add_right (Int.dvd_mul_of_dvd_right db)).mp h2
   have h3:Int.gcd r d=1:=zkg l2.cop (Int.dvd_refl _) (by rw [hs];exact Int.dvd_trans db (Int.dvd_mul_right ..))
   exact dvd_one hmt (zfY h1 h3) db
  exact gcd_mul c1 (gcd_mul c2 hTG)
 ·have k1:p*s+r*q=top*g:=by
   rw [hq,hs,ht,Int.add_mul,Int.mul_assoc,Int.mul_assoc]
  rw [k1,hT,hq,hs]
  rw [show m*g*(t*g)=m*(t*G)*(e*g) by rw [show t*g=t*(G*e) by rw [hG]];ac_rfl]
  ac_rfl
theorem zqr{p q r s:Int}(l1:Low p q)(l2:Low r s):zkL p q r s=fr (p*s+r*q) (q*s):=by
 have g0:0<(Int.gcd q s:Int):=zfU l2.ne
 have d1:(Int.gcd q s:Int)∣q:=Int.gcd_dvd_left ..
 have d2:(Int.gcd q s:Int)∣s:=Int.gcd_dvd_right ..
 have e0:0<(Int.gcd (p*(s / (Int.gcd q s:Int))+r*(q / (Int.gcd q s:Int))) (Int.gcd q s:Int):Int):=zfU (Int.ne_of_gt g0)
 have d3:=Int.gcd_dvd_left (a:=p*(s / (Int.gcd q s:Int))+r*(q / (Int.gcd q s:Int))) (b:=(Int.gcd q s:Int))
 have d4:=Int.gcd_dvd_right (a:=p*(s / (Int.gcd q s:Int))+r*(q / (Int.gcd q s:Int))) (b:=(Int.gcd q s:Int))
 have core:=zlR l1 l2 g0 e0 (Int.ediv_mul_cancel d1).symm (Int.ediv_mul_cancel d2).symm (zf1 l2.ne) rfl (Int.ediv_mul_cancel d3).symm (Int.ediv_mul_cancel d4).symm (zf1 (Int.ne_of_gt g0))
 have e:zkL p q r s=(_,_):=rfl
 have hs:s / (Int.gcd (p*(s / (Int.gcd q s:Int))+r*(q / (Int.gcd q s:Int))) (Int.gcd q s:Int):Int)=s / (Int.gcd q s:Int)*((Int.gcd q s:Int) / (Int.gcd (p*(s / (Int.gcd q s:Int))+r*(q / (Int.gcd q s:Int))) (Int.gcd q s:Int):Int)):=by
  refine Int.ediv_eq_of_eq_mul_left (Int.ne_of_gt e0) ?_
  rw [Int.mul_assoc,Int.ediv_mul_cancel d4,Int.ediv_mul_cancel d2]
 symm
 refine zs4 (Int.ne_of_gt (Int.mul_pos l1.pos l2.pos)) (p:=(zkL p q r s).1) (q:=(zkL p q r s).2) ?_ ?_
 ·have:(zkL p q r s).2=_:=rfl
  rw [this]
  show Low _ (q / (Int.gcd q s:Int)*(s / _))
  rw [hs]
  exact core.1
 ·show _*(q*s)=_*(q / (Int.gcd q s:Int)*(s / _))
  rw [hs]
  exact core.2
theorem znv{p q r s:Int}(l1:Low p q)(l2:Low r s):zjO p q r s=fr (p*r) (q*s):=by
 have m0:0<(Int.gcd p s:Int):=zfU l2.ne
 have i0:0<(Int.gcd r q:Int):=zfU l1.ne
 have a1:(Int.gcd p s:Int)∣p:=Int.gcd_dvd_left ..
 have a2:(Int.gcd p s:Int)∣s:=Int.gcd_dvd_right ..
 have b1:(Int.gcd r q:Int)∣r:=Int.gcd_dvd_left ..
 have b2:(Int.gcd r q:Int)∣q:=Int.gcd_dvd_right ..
 symm
 refine zs4 (Int.ne_of_gt (Int.mul_pos l1.pos l2.pos)) (p:=(zjO p q r s).1) (q:=(zjO p q r s).2) ⟨?_,?_⟩ ?_
 ·refine Int.mul_pos ?_ ?_
  ·exact zcJ (by rw [Int.ediv_mul_cancel b2];exact l1.pos) i0
  ·exact zcJ (by rw [Int.ediv_mul_cancel a2];exact l2.pos) m0
 ·show Int.gcd (p / _*(r / _)) (q / _*(s / _))=1
  have x1:Int.gcd (p / (Int.gcd p s:Int)) (q / (Int.gcd r q:Int))=1:=zkg l1.cop (zfh a1) (zfh b2)
  have x2:Int.gcd (p / (Int.gcd p s:Int)) (s / (Int.gcd p s:Int))=1:=zf1 l2.ne
  have x3:Int.gcd (r / (Int.gcd r q:Int)) (q / (Int.gcd r q:Int))=1:=zf1 l1.ne
  have x4:Int.gcd (r / (Int.gcd r q:Int)) (s / (Int.gcd p s:Int))=1:=zkg l2.cop (zfh b1) (zfh a2)
  exact zfV (gcd_mul (zfV (gcd_mul x1 x2)) (zfV (gcd_mul x3 x4)))
 ·show p / (Int.gcd p s:Int)*(r / (Int.gcd r q:Int))*(q*s)=p*r*(q / (Int.gcd r q:Int)*(s / (Int.gcd p s:Int)))
  have y1:=Int.ediv_mul_cancel a1
  have y2:=Int.ediv_mul_cancel a2
  have y3:=Int.ediv_mul_cancel b1
  have y4:=Int.ediv_mul_cancel b2
  generalize (Int.gcd p s:Int)=m at *
  generalize (Int.gcd r q:Int)=i at *
  generalize p / m=P at *
  generalize s / m=S at *
  generalize r / i=R at *
  generalize q / i=Q at *
  rw [<- y1,<- y2,<- y3,<- y4]
  ac_rfl
end
end Q1
namespace QR
open Q1
theorem low(r:Rat):Low r.num r.den:=⟨by have:=r.den_nz;omega,by
 have:=r.reduced
 unfold Nat.Coprime at this
 show Nat.gcd r.num.natAbs (r.den:Int).natAbs=1
 simpa using this⟩
theorem zv4(t:Int)(d:Nat):(Int.gcd t (d:Int))=Nat.gcd t.natAbs d:=by
 show Nat.gcd t.natAbs (d:Int).natAbs=_
 simp
theorem norm{t:Int}{d:Nat}(h:d≠0):fr t (d:Int)=((Rat.normalize t d h).num,((Rat.normalize t d h).den:Int)):=by
 rw [zpr (by omega),Rat.normalize_eq,zv4]
 simp
theorem add(r s:Rat):fr (r.num*s.den+s.num*r.den) ((r.den:Int)*s.den)=((r+s).num,((r+s).den:Int)):=by
 rw [Rat.add_def,<- norm]
 congr 1
theorem mul(r s:Rat):fr (r.num*s.num) ((r.den:Int)*s.den)=((r*s).num,((r*s).den:Int)):=by
 rw [Rat.mul_def,<- norm]
 congr 1
def Bd(n:Nat)(r:Rat):Prop:=r.num.natAbs<2^n/\r.den<2^n
theorem Bd.mono{n m:Nat}{r:Rat}(h:Bd n r)(k:n<=m):Bd m r:=⟨Nat.lt_of_lt_of_le h.1 (Nat.pow_le_pow_right (by decide) k),Nat.lt_of_lt_of_le h.2 (Nat.pow_le_pow_right (by decide) k)⟩
theorem zrb(t b:Int):(fr t b).1.natAbs<=t.natAbs/\(fr t b).2.natAbs<=b.natAbs:=by
 unfold fr
 split
 ·exact⟨Int.natAbs_ediv_le_natAbs _ _,Int.natAbs_ediv_le_natAbs _ _⟩
 ·exact⟨Int.natAbs_ediv_le_natAbs _ _,Int.natAbs_ediv_le_natAbs _ _⟩
theorem zic{a b n m:Nat}(h1:a<2^n)(h2:b<2^m):a*b<2^(n+m):=by
 rw [Nat.pow_add]
 exact Nat.mul_lt_mul'' h1 h2
theorem Bd.add{n m:Nat}{r s:Rat}(h:Bd n r)(k:Bd m s):Bd (n+m+1) (r+s):=by
 have e:=QR.add r s
 have l:=zrb (r.num*s.den+s.num*r.den) ((r.den:Int)*s.den)
 rw [e] at l
 simp only at l
 have a1:r.num.natAbs*s.den<2^(n+m):=zic h.1 k.2
 have a2:s.num.natAbs*r.den<2^(n+m):=by rw [Nat.mul_comm,Nat.mul_comm];rw [Nat.add_comm];exact zic k.1 h.2
 have a3:r.den*s.den<2^(n+m):=zic h.2 k.2
 have p2:2^(n+m+1)=2^(n+m)+2^(n+m):=by rw [Nat.pow_succ];omega
 refine⟨?_,?_⟩
 ·refine Nat.lt_of_le_of_lt l.1 (Nat.lt_of_le_of_lt (Int.natAbs_add_le _ _) ?_)
  rw [Int.natAbs_mul,Int.natAbs_mul,Int.natAbs_natCast,Int.natAbs_natCast,p2]
  omega
 ·have:=l.2
  rw [Int.natAbs_mul,Int.natAbs_natCast,Int.natAbs_natCast,Int.natAbs_natCast] at this
  rw [p2]
  omega
theorem Bd.mul{n m:Nat}{r s:Rat}(h:Bd n r)(k:Bd m s):Bd (n+m) (r*s):=by
 have e:=QR.mul r s
 have l:=zrb (r.num*s.num) ((r.den:Int)*s.den)
 rw [e] at l
 simp only at l
 refine⟨?_,?_⟩
 ·refine Nat.lt_of_le_of_lt l.1 ?_
  rw [Int.natAbs_mul]
  exact zic h.1 k.1
 ·have:=l.2
  rw [Int.natAbs_mul,Int.natAbs_natCast,Int.natAbs_natCast,Int.natAbs_natCast] at this
  exact Nat.lt_of_le_of_lt this (zic h.2 k.2)
theorem Bd.zero(n:Nat):Bd (n+1) 0:=by
 refine⟨?_,?_⟩
 ·show(0:Nat)<2^(n+1)
  exact Nat.pos_of_ne_zero (by simp)
 ·show(1:Nat)<2^(n+1)
  exact Nat.one_lt_two_pow (by omega)
def part(xs ys:List Rat):Nat->Rat
 | 0=>0
 | i+1=>part xs ys i+xs.getD i 0*ys.getD i 0
end QR
namespace KC
open PySem L2 PySem.Spec PyProof.Rows
section
namespace Bt
theorem isinstance:bootBuiltins "isinstance"=some (.builtin "isinstance"):=by decide +kernel
end Bt
def isInt:PyData->Bool
 | .int _ | .bool _=>true|_=>false
def zdN(T c:String):Option Bool:=if(Value.type T==Value.type c)=true then some true else if PySem.W.kitMeta c=true then(fastBuiltinMro T).map (·.contains (.type c)) else none
section
variable {K:PySem.W.Frag}{H H':Hp}
def Num(K:PySem.W.Frag)(H:Hp)(v:V)(r:Rat):Prop:=∃ a,v=.ref a/\SqT K H a [.int r.num,.int (r.den:Int)]
def zpF(K:PySem.W.Frag)(H:Hp):List V->List Rat->Prop
 | [],[]=>True
 | v::vs,r::rs=>Num K H v r/\zpF K H vs rs
 | _,_=>False
def Row(K:PySem.W.Frag)(H:Hp)(a:Addr)(rs:List Rat):Prop:=∃ vs,H a=some (.lst vs)/\zpF K H vs rs
end
end
section
end
section
end
end KC
namespace FL
theorem zz0 {α:Type} {a:α} {l:List α}:(a::l)[0]?=some a:=rfl
theorem zz1 {α:Type} {a:α} {l:List α} {i:Nat}:(a::l)[i + 1]?=l[i]?:=rfl
open PySem
abbrev D:=PyData
inductive R(α:Type) where
 | bad
 | err(c:String)(fs:List D)
 | ok(a:α)
def R.bind{α β:Type}(r:R α)(k:α->R β):R β:=match r with
 | .bad=>.bad
 | .err c f=>.err c f
 | .ok a=>k a
theorem zac{α β:Type}(a:α)(k:α->R β):(R.ok a).bind k=k a:=rfl
theorem zck{α β:Type}(k:α->R β):(R.bad:R α).bind k=.bad:=rfl
theorem zcj{α β:Type}(c:String)(f:List D)(k:α->R β):(R.err c f:R α).bind k=.err c f:=rfl
def chk{α:Type}(c:Bool)(r:R α):R α:=if c=true then r else .bad
theorem zaN{α:Type}{c:Bool}{r:R α}(h:c=true):chk c r=r:=if_pos h
inductive Sl where
 | no
 | val(d:D)
 | ow(p:Bool)(d:D)
 /-- a thing of an own class,which stays: its class,its fields -/
 | ob (c:String) (ds:List D)
abbrev En:=List Sl
inductive Fl where
 | nx|bk|ct
 | rt(d:D)
 | rf(d:D)
abbrev EF:=En->R (D×En)
abbrev TF:=En->R (Bool×En)
abbrev AF:=En->R (List D×En)
abbrev SF:=En->R (Fl×En)
abbrev GF:=D->En->R En
def tyOf:D->String
 | .none=>"NoneType" | .bool _=>"bool" | .int _=>"int" | .str _=>"str" | .list _=>"list" | .tuple _=>"tuple" | .dict _=>"dict"
def isI(T:String)(d:D):Bool:=match d with
 | .bool _=>T == "bool" || T == "int"
 | d=>tyOf d==T
def lim:Nat:=1000000
def intsOf:List D->Option (List Int)
 | []=>some []
 | .int i::r=>(intsOf r).map (i::·)
 | _::_=>none
def boolsOf:List D->Option (List Bool)
 | []=>some []
 | .bool i::r=>(boolsOf r).map (i::·)
 | _::_=>none
def R.of{α:Type}:Option α->R α
 | none=>.bad
 | some a=>.ok a
def leB(a b:Nat):Bool:=Nat.ble a b
theorem leB_iff{a b:Nat}:leB a b=true↔a<=b:=Iff.of_eq Nat.ble_eq
theorem zcg{a b:Nat}(h:a<=b):leB a b=true:=leB_iff.mpr h
theorem zeA{a b:Nat}(h:leB a b=true):a<=b:=leB_iff.mp h
def zmh(i j:Int):Bool:=leB (i.natAbs.log2+j.natAbs.log2+2) 134217728
def zaG:D->D->R D
 | .int i,.int j=>.ok (.int (i+j))
 | .list a,.list b=>chk (leB (a.length+b.length) lim) (.ok (.list (a++b)))
 | .tuple a,.tuple b=>chk (leB (a.length+b.length) lim) (.ok (.tuple (a++b)))
 | _,_=>.bad
def zdY:D->D->R D
 | .int i,.int j=>.ok (.int (i-j))
 | _,_=>.bad
def zca:D->D->R D
 | .int i,.int j=>chk (zmh i j) (.ok (.int (i*j)))
 | .tuple a,.int k=>chk (!a.isEmpty&&leB 2 k.toNat&&leB k.toNat 1000000&&leB (a.length*k.toNat) lim) (.ok (.tuple (List.replicate k.toNat a).flatten))
 | _,_=>.bad
def zaL:D->D->R D
 | .int i,.int j=>chk (decide (j≠0)) (.ok (.int (i.fdiv j)))
 | _,_=>.bad
def zhh:D->D->R D
 | .int i,.int j=>chk (decide (j≠0)) (.ok (.int (i.fmod j)))
 | _,_=>.bad
def zdy:D->D->R D
 | .int i,.int j=>chk (decide (0<=j)&&leB j.toNat 1000000&&leB i.natAbs 18446744073709551615) (.ok (.int (i^j.toNat)))
 | _,_=>.bad
def zhf:D->R D
 | .int i=>.ok (.int (-i))
 | _=>.bad
def eqD(a b:D):R D:=chk (SeqAt.shaped a&&SeqAt.shaped b) (.ok (.bool (PyData.eqv a b)))
def neD(a b:D):R D:=chk (SeqAt.shaped a&&SeqAt.shaped b) (.ok (.bool (!PyData.eqv a b)))
def lexLt:List Int->List Int->Bool
 | [],[]=>false
 | [],_::_=>true
 | _::_,[]=>false
 | x::xs,y::ys=>if x=y then lexLt xs ys else decide (x<y)
def zvj(p:Int->Int->Bool)(q:List Int->List Int->Bool):D->D->R D
 | .int i,.int j=>.ok (.bool (p i j))
 | .tuple a,.tuple b=>(R.of (intsOf a)).bind fun x=>(R.of (intsOf b)).bind fun y=>.ok (.bool (q x y))
 | _,_=>.bad
def ltD:D->D->R D:=zvj (fun i j=>decide (i<j)) lexLt
def ztC(p:Int->Int->Bool):D->D->R D
 | .int i,.int j=>.ok (.bool (p i j))
 | _,_=>.bad
def leD:D->D->R D:=ztC fun i j=>decide (i<=j)
def gtD:D->D->R D:=ztC fun i j=>decide (j<i)
def geD:D->D->R D:=ztC fun i j=>decide (j<=i)
def ixN(n:Nat)(i:Int):Option Nat:=if 0<=i then(if i<n then some i.toNat else none) else if -(n:Int)<=i then some (i+n).toNat else none
def atI{α:Type}(xs:List α)(i:Int):Option α:=(ixN xs.length i).bind fun j=>xs[j]?
def ixD:D->D->R D
 | .list a,.int i=>R.of (atI a i)
 | .tuple a,.int i=>R.of (atI a i)
 | _,_=>.bad
def sIx(n d:Nat):Option Int->Nat
 | none=>d
 | some v=>if v<0 then(v+(n:Int)).toNat else min v.toNat n
def cut{α:Type}(xs:List α)(lo hi:Option Int):List α:=(xs.drop (sIx xs.length 0 lo)).take (sIx xs.length xs.length hi-sIx xs.length 0 lo)
def zcf(d:D)(lo hi:Option Int):R D:=match d with
 | .list a=>.ok (.list (cut a lo hi))
 | .tuple a=>.ok (.tuple (cut a lo hi))
 | _=>.bad
def zgc:D->R Bool
 | .none=>.ok false
 | .bool b=>.ok b
 | .int i=>.ok (i != 0)
 | .list a=>.ok (!a.isEmpty)
 | .tuple a=>.ok (!a.isEmpty)
 | _=>.bad
def zez:D->R D
 | .list a=>.ok (.int a.length)
 | .tuple a=>.ok (.int a.length)
 | _=>.bad
def zm8:D->R D
 | .int i=>.ok (.int (if i<0 then -i else i))
 | _=>.bad
def zmk:D->D->R D
 | .int i,.int j=>.ok (.int (if j > i then j else i))
 | _,_=>.bad
def zmj:D->D->R D
 | .int i,.int j=>.ok (.int (if j<i then j else i))
 | _,_=>.bad
def zto:D->R D
 | .list a=>(R.of (boolsOf a)).bind fun x=>.ok (.bool (x.all id))
 | _=>.bad
def zdM:D->R D
 | .list a=>.ok (.list a)
 | .tuple a=>.ok (.list a)
 | _=>.bad
def zbh:D->R D
 | .list a=>.ok (.tuple a)
 | .tuple a=>.ok (.tuple a)
 | _=>.bad
def zu6(d:D):Bool:=match d with
 | .dict _=>false
 | _=>true
def zbT(T:String)(d:D):R D:=chk (zu6 d) (.ok (.bool (isI T d)))
def one(g:D->R D):List D->R D
 | [d]=>g d
 | _=>.bad
def two(g:D->D->R D):List D->R D
 | [d,e]=>g d e
 | _=>.bad
def zcX:D->R (List D)
 | .list a=>.ok a
 | .tuple a=>.ok a
 | _=>.bad
def rng(lo hi:Int):List D:=(List.range (hi-lo).toNat).map fun(i:Nat)=>.int (lo+(i:Int))
def zge(i:Int):Bool:=leB i.natAbs 1000000000
def zco:List D->R (List D)
 | [.int j]=>chk (zge j&&leB j.toNat lim) (.ok (rng 0 j))
 | _=>.bad
def zcn:List D->R (List D)
 | [.int i,.int j]=>chk (zge i&&zge j&&leB (j-i).toNat lim) (.ok (rng i j))
 | _=>.bad
def eC(d:D):EF:=fun ρ=>.ok (d,ρ)
def eV(i:Nat):EF:=fun ρ=>match ρ[i]? with
 | some (.val d)=>.ok (d,ρ)
 | _=>.bad
def e1(g:D->R D)(f:EF):EF:=fun ρ=>(f ρ).bind fun x=>(g x.1).bind fun d=>.ok (d,x.2)
def e2(g:D->D->R D)(f h:EF):EF:=fun ρ=>(f ρ).bind fun x=>(h x.2).bind fun y=>(g x.1 y.1).bind fun d=>.ok (d,y.2)
def zhu(f h:EF):EF:=fun ρ=>(f ρ).bind fun x=>match x.1 with
 | .bool true=>h x.2
 | .bool false=>.ok (.bool false,x.2)
 | _=>.bad
def eOr(f h:EF):EF:=fun ρ=>(f ρ).bind fun x=>match x.1 with
 | .bool true=>.ok (.bool true,x.2)
 | .bool false=>h x.2
 | _=>.bad
def zle(f:EF):EF:=fun ρ=>(f ρ).bind fun x=>match x.1 with
 | .bool b=>.ok (.bool (!b),x.2)
 | _=>.bad
def eIf(t:TF)(f h:EF):EF:=fun ρ=>(t ρ).bind fun c=>if c.1=true then f c.2 else h c.2
def zcu(g h:D->D->R D)(f1 f2 f3:EF):EF:=fun ρ=>(f1 ρ).bind fun x=>(f2 x.2).bind fun y=>(g x.1 y.1).bind fun c=>match c with
 | .bool true=>(f3 y.2).bind fun z=>(h y.1 z.1).bind fun d=>.ok (d,z.2)
 | .bool false=>.ok (.bool false,y.2)
 | _=>.bad
def zam:AF:=fun ρ=>.ok ([],ρ)
def zab(f:EF)(a:AF):AF:=fun ρ=>(f ρ).bind fun x=>(a x.2).bind fun y=>.ok (x.1::y.1,y.2)
def za5(a:AF):EF:=fun ρ=>(a ρ).bind fun x=>chk (leB x.1.length lim) (.ok (.tuple x.1,x.2))
def zcQ(a:AF):EF:=fun ρ=>(a ρ).bind fun x=>chk (leB x.1.length lim) (.ok (.list x.1,x.2))
def zaj(G:List D->R D)(a:AF):EF:=fun ρ=>(a ρ).bind fun x=>(G x.1).bind fun d=>.ok (d,x.2)
abbrev OF:=En->R (Option Int×En)
def zcr:OF:=fun ρ=>.ok (none,ρ)
def zcq(f:EF):OF:=fun ρ=>(f ρ).bind fun x=>match x.1 with
 | .int i=>.ok (some i,x.2)
 | _=>.bad
def eSl(f:EF)(lo hi:OF):EF:=fun ρ=>(f ρ).bind fun x=>(lo x.2).bind fun l=>(hi l.2).bind fun u=>(zcf x.1 l.1 u.1).bind fun d=>.ok (d,u.2)
def zax(ρ:En)(i:Nat):R D:=match ρ[i]? with
 | some (.ow _ d)=>.ok d
 | _=>.bad
def zbE(ρ:En)(i:Nat):R (List D):=match ρ[i]? with
 | some (.ow _ (.list a))=>.ok a
 | _=>.bad
def m1(g:D->R D)(i:Nat):EF:=fun ρ=>(zax ρ i).bind fun c=>(g c).bind fun d=>.ok (d,ρ)
def m2(g:D->D->R D)(i:Nat)(h:EF):EF:=fun ρ=>(zax ρ i).bind fun _=>(h ρ).bind fun y=>(zax y.2 i).bind fun c=>(g c y.1).bind fun d=>.ok (d,y.2)
def m2r(g:D->D->R D)(f:EF)(i:Nat):EF:=fun ρ=>(f ρ).bind fun x=>(zax x.2 i).bind fun c=>(g x.1 c).bind fun d=>.ok (d,x.2)
def m2m(g:D->D->R D)(i j:Nat):EF:=fun ρ=>(zax ρ i).bind fun c=>(zax ρ j).bind fun e=>(g c e).bind fun d=>.ok (d,ρ)
def mSl(i:Nat)(lo hi:OF):EF:=fun ρ=>(zax ρ i).bind fun _=>(lo ρ).bind fun l=>(hi l.2).bind fun u=>(zax u.2 i).bind fun c=>(zcf c l.1 u.1).bind fun d=>.ok (d,u.2)
def zhi(g:D->D->R D)(i:Nat)(h:EF):EF:=fun ρ=>(zax ρ i).bind fun _=>(h ρ).bind fun y=>(zax y.2 i).bind fun c=>(g (.list [c]) y.1).bind fun d=>.ok (d,y.2)
inductive Ar where
 | v(f:EF)
 | m(i:Nat)
 | t(f:EF)
inductive Itm where
 | vd(d:D)
 | mi(i:Nat)
 | td(d:D)
def zhO:List Ar->En->R (List Itm×En)
 | [],ρ=>.ok ([],ρ)
 | .v f::r,ρ=>(f ρ).bind fun x=>(zhO r x.2).bind fun y=>.ok (.vd x.1::y.1,y.2)
 | .m i::r,ρ=>(zax ρ i).bind fun _=>(zhO r ρ).bind fun y=>.ok (.mi i::y.1,y.2)
 | .t f::r,ρ=>(f ρ).bind fun x=>(zhO r x.2).bind fun y=>.ok (.td x.1::y.1,y.2)
def zgn(ρ:En):List Itm->R (List D)
 | []=>.ok []
 | .vd d::r=>(zgn ρ r).bind fun ds=>.ok (d::ds)
 | .mi i::r=>(zax ρ i).bind fun d=>(zgn ρ r).bind fun ds=>.ok (d::ds)
 | .td d::r=>(zgn ρ r).bind fun ds=>.ok (d::ds)
def zay(ρ:En)(i:Nat)(d:D):En:=match ρ[i]? with
 | some (.ow p _)=>ρ.set i (.ow p d)
 | _=>ρ
def zfn:List Itm->List D->List (Nat×Sl)
 | .mi i::r,d::ds=>(i,.ow true d)::zfn r ds
 | .vd _::r,_::ds=>zfn r ds
 | .td _::r,_::ds=>zfn r ds
 | _,_=>[]
def bk1(m:List (Nat×Sl))(i:Nat)(x:Sl):Sl:=match x,m.lookup i with
 | .ow p _,some (.ow _ d)=>.ow p d
 | x,_=>x
def bkL(m:List (Nat×Sl)):Nat->En->En
 | _,[]=>[]
 | n,x::r=>bk1 m n x::bkL m (n+1) r
def ze8(ρ:En)(a:List Itm)(os:List D):En:=bkL (zfn a os) 0 ρ
def zaq(F:List D->R (D×List D))(a:List Ar):EF:=fun ρ=>(zhO a ρ).bind fun x=>(zgn x.2 x.1).bind fun ds=>(F ds).bind fun y=>.ok (y.1,ze8 x.2 x.1 y.2)
def tE(f:EF):TF:=fun ρ=>(f ρ).bind fun x=>(zgc x.1).bind fun b=>.ok (b,x.2)
def tB(f:EF):TF:=fun ρ=>(f ρ).bind fun x=>match x.1 with
 | .bool b=>.ok (b,x.2)
 | _=>.bad
def zni(t u:TF):TF:=fun ρ=>(t ρ).bind fun c=>if c.1=true then u c.2 else .ok (false,c.2)
def tOr(t u:TF):TF:=fun ρ=>(t ρ).bind fun c=>if c.1=true then .ok (true,c.2) else u c.2
def zch(t:TF):TF:=fun ρ=>(t ρ).bind fun c=>.ok (!c.1,c.2)
def tM(i:Nat):TF:=fun ρ=>(zax ρ i).bind fun c=>(zgc c).bind fun b=>.ok (b,ρ)
def zbG:TF:=fun ρ=>.ok (true,ρ)
abbrev IF:=En->R (List D×En)
def iE(f:EF):IF:=fun ρ=>(f ρ).bind fun x=>(zcX x.1).bind fun l=>.ok (l,x.2)
def iR1(a:AF):IF:=fun ρ=>(a ρ).bind fun x=>(zco x.1).bind fun l=>.ok (l,x.2)
def iR2(a:AF):IF:=fun ρ=>(a ρ).bind fun x=>(zcn x.1).bind fun l=>.ok (l,x.2)
def zfX:Nat->List D->List D
 | _,[]=>[]
 | n,d::r=>.tuple [.int n,d]::zfX (n+1) r
def zhM:List D->List D->List D
 | a::r,b::s=>.tuple [a,b]::zhM r s
 | _,_=>[]
def gN(i:Nat):GF:=fun d ρ=>match ρ[i]? with
 | some (.ow true _)=>.bad
 | some _=>.ok (ρ.set i (.val d))
 | none=>.bad
def ziO:List GF->List D->En->R En
 | [],[],ρ=>.ok ρ
 | g::r,d::ds,ρ=>(g d ρ).bind fun ρ1=>ziO r ds ρ1
 | _,_,_=>.bad
def gT(gs:List GF):GF:=fun d ρ=>match d with
 | .tuple ds=>ziO gs ds ρ
 | _=>.bad
def blk(k:Nat)(ix:List Nat)(ρ:En):En:=List.replicate k .no++ix.map fun i=>(ρ[i]?).getD .no
def back(ρ:En)(ix:List Nat)(cs:En):En:=bkL (ix.zip cs) 0 ρ
def zcx(k:Nat)(ix:List Nat)(g:GF)(t:TF)(f:EF):List D->En->List D->R (List D×En)
 | [],ρ,acc=>.ok (acc,ρ)
 | x::xs,ρ,acc=>(g x (blk k ix ρ)).bind fun β=>(t β).bind fun c =>
   if c.1=true then(f c.2).bind fun y=>chk (leB (acc.length+1) lim) (zcx k ix g t f xs (back ρ ix (y.2.drop k)) (acc++[y.1]))
   else zcx k ix g t f xs (back ρ ix (c.2.drop k)) acc
def zbd(k:Nat)(ix:List Nat)(it:IF)(g:GF)(t:TF)(f:EF):EF:=fun ρ=>(it ρ).bind fun x=>(zcx k ix g t f x.1 x.2 []).bind fun y=>.ok (.list y.1,y.2)
def sNx:SF:=fun ρ=>.ok (.nx,ρ)
def zav(s t:SF):SF:=fun ρ=>(s ρ).bind fun x=>match x.1 with
 | .nx=>t x.2
 | _=>.ok x
def sE(f:EF):SF:=fun ρ=>(f ρ).bind fun x=>.ok (.nx,x.2)
def zaZ(g:GF)(f:EF):SF:=fun ρ=>(f ρ).bind fun x=>(g x.1 x.2).bind fun ρ1=>.ok (.nx,ρ1)
def zcH(i:Nat)(f:EF):SF:=fun ρ=>(f ρ).bind fun x=>match x.2[i]? with
 | some (.ow true _)=>.bad
 | some _=>.ok (.nx,x.2.set i (.ow false x.1))
 | none=>.bad
def zci(i:Nat)(s:SF):SF:=fun ρ=>(s ρ).bind fun x=>match x.1 with
 | .nx=>(match x.2[i]? with
  | some (.ow false d)=>.ok (.nx,x.2.set i (.val d))
  | _=>.bad)
 | _=>.ok x
def zdU(i j:Nat)(f h:EF):SF:=fun ρ=>(f ρ).bind fun x=>(h x.2).bind fun y=>(gN i x.1 y.2).bind fun ρ1=>(gN j y.1 ρ1).bind fun ρ2=>.ok (.nx,ρ2)
def zk4(f n:EF):EF:=fun ρ=>(f ρ).bind fun x=>(n x.2).bind fun y=>match y.1 with
 | .int k=>chk (decide (0<=k)&&leB k.toNat 1000000) (.ok (.list (List.replicate k.toNat x.1),y.2))
 | _=>.bad
def zg1(i:Nat)(s:SF):SF:=fun ρ=>match ρ[i]? with
 | some (.ow false d)=>s (ρ.set i (.val d))
 | _=>.bad
def zaH(f:EF):SF:=fun ρ=>(f ρ).bind fun x=>.ok (.rt x.1,x.2)
def zdx(f:EF):SF:=fun ρ=>(f ρ).bind fun x=>.ok (.rf x.1,x.2)
def ze1(i:Nat):SF:=fun ρ=>match ρ[i]? with
 | some (.ow false d)=>.ok (.rf d,ρ)
 | _=>.bad
def zg0:SF:=fun ρ=>.ok (.rt .none,ρ)
def sIf(t:TF)(a b:SF):SF:=fun ρ=>(t ρ).bind fun c=>if c.1=true then a c.2 else b c.2
def zgs:SF:=fun _=>.bad
def znz:SF:=fun ρ=>.ok (.bk,ρ)
def zny:SF:=fun ρ=>.ok (.ct,ρ)
def forL(g:GF)(b:SF):List D->En->R (Fl×En)
 | [],ρ=>.ok (.nx,ρ)
 | x::xs,ρ=>(g x ρ).bind fun ρ1=>(b ρ1).bind fun y=>match y.1 with
  | .nx | .ct=>forL g b xs y.2
  | .bk=>.ok (.nx,y.2)
  | .rt d=>.ok (.rt d,y.2)
  | .rf d=>.ok (.rf d,y.2)
def zdJ(it:IF)(g:GF)(b:SF):SF:=fun ρ=>(it ρ).bind fun x=>forL g b x.1 x.2
def zfq(t:TF)(b:SF):Nat->En->R (Fl×En)
 | 0,_=>.bad
 | n+1,ρ=>(t ρ).bind fun c=>if c.1=true then(b c.2).bind fun y=>match y.1 with
   | .nx | .ct=>zfq t b n y.2
   | .bk=>.ok (.nx,y.2)
   | .rt d=>.ok (.rt d,y.2)
   | .rf d=>.ok (.rf d,y.2)
  else .ok (.nx,c.2)
def zft(fuel:En->Nat)(t:TF)(b:SF):SF:=fun ρ=>zfq t b (fuel ρ) ρ
def zhT(i:Nat)(u:List D->D->R (List D))(f:EF):SF:=fun ρ=>(zbE ρ i).bind fun _=>(f ρ).bind fun x=>(zbE x.2 i).bind fun c=>(u c x.1).bind fun c'=>.ok (.nx,zay x.2 i (.list c'))
def ziF(a:List D)(d:D):R (List D):=chk (leB (a.length+1) lim) (.ok (a++[d]))
def zgP(i:Nat)(u:List D->R (List D)):SF:=fun ρ=>(zbE ρ i).bind fun c=>(u c).bind fun c'=>.ok (.nx,zay ρ i (.list c'))
def setM(i:Nat)(f k:EF):SF:=fun ρ=>(f ρ).bind fun x=>(zbE x.2 i).bind fun _=>(k x.2).bind fun y=>(zbE y.2 i).bind fun c=>match y.1 with
 | .int j=>(R.of (ixN c.length j)).bind fun n=>.ok (.nx,zay y.2 i (.list (c.set n x.1)))
 | _=>.bad
def slots:List Bool->List D->En
 | m::ms,d::ds=>(if m=true then .ow true d else .val d)::slots ms ds
 | _,_=>[]
def outD(m:Bool)(d:D)(x:Option Sl):D:=match m,x with
 | true,some (.ow _ d')=>d'
 | _,_=>d
def outs:List Bool->List D->En->List D
 | m::ms,d::ds,ρ=>outD m d ρ.head?::outs ms ds ρ.tail
 | _,_,_=>[]
def run(ms:List Bool)(fr:Bool)(n:Nat)(b:SF)(ds:List D):R (D×List D) :=
 if ds.length=ms.length then(b (slots ms ds++List.replicate (n-ds.length) .no)).bind fun x=>match x.1,fr with
  | .rt d,false=>.ok (d,outs ms ds x.2)
  | .rf d,true=>.ok (d,outs ms ds x.2)
  | .nx,false=>.ok (.none,outs ms ds x.2)
  | _,_=>.bad
 else .bad
def zcb(fr:Bool)(k n:Nat)(b:SF)(ds:List D):R D:=(run (List.replicate k false) fr n b ds).bind fun x=>.ok x.1
end FL
namespace FL
open PySem L2 PySem.Spec
open PyProof.Rows hiding St
section
class Cs where
 C:Hp
 st:∀ a u,C a=some u->∃ o xs,u=.frz o (.tup xs)
 /-- the own classes: where each stands,its fields' names -/
 O:String->Option (Addr×List Str):=fun _=>none
def FzL(K:PySem.W.Frag)(H:Hp)(a:Addr)(xs:List V):Prop:=(∃ o,H a=some (.frz o (.lst xs))) \/
 ∃(o:Obj) (its:Array Value) (n:Nat),K.lookup a=some o/\o.cls=.type "list"/\o.dict=none/\o.data=.seq its n/\its.size<=sizeLine/\Vals xs its.toList
def kD:Key->PyData
 | .inl i=>.int i
 | .inr x=>.str x
def zkV(k:List Key):PyData:=.tuple (k.map kD)
mutual
def Fz(K:PySem.W.Frag)(H:Hp):PyData->V->Prop
 | .none,v=>v=.non
 | .bool b,v=>v=.bl b
 | .int i,v=>v=.int i
 | .str x,v=>v=.str x
 | .list xs,v=>∃ a vs,v=.ref a/\FzL K H a vs/\zae K H xs vs
 | .tuple xs,v=>∃ a vs,v=.ref a/\TAt H a vs/\zae K H xs vs
 | .dict kvs,v=>∃ a o,v=.ref a/\∃ kk,H a=some (.frz o (.dT kk))/\zb9 K H kvs kk
def zae(K:PySem.W.Frag)(H:Hp):List PyData->List V->Prop
 | [],vs=>vs=[]
 | d::ds,vs=>∃ v r,vs=v::r/\Fz K H d v/\zae K H ds r
def zb9(K:PySem.W.Frag)(H:Hp):List (PyData×PyData)->List (List Key×V)->Prop
 | [],kk=>kk=[]
 | (k,d)::r,kk=>∃ q v t,kk=(q,v)::t/\k=zkV q/\Fz K H d v/\zb9 K H r t
end
def ztE:HO->Prop
 | .tup _=>True
 | .frz _ _=>True
 | .ins _ _ _=>True
 | _=>False
def Fzn(H H':Hp):Prop:=∀ a o,H a=some o->ztE o->H' a=some o
theorem Fzn.refl(H:Hp):Fzn H H:=fun _ _ h _=>h
theorem Fzn.trans{H H1 H2:Hp}(a:Fzn H H1)(b:Fzn H1 H2):Fzn H H2:=fun c o h s=>b c o (a c o h s) s
theorem Fzn.of{H H':Hp}(s:zaM H H'):Fzn H H':=fun a o h _=>s a o h
section
variable {K:PySem.W.Frag}{H H':Hp}
theorem Fzn.zlv{a:Addr}{xs:List V}(e:Fzn H H')(h:TAt H a xs):TAt H' a xs:=by
 rcases h with h|⟨o,h⟩
 ·exact .inl (e _ _ h trivial)
 ·exact .inr ⟨o,e _ _ h trivial⟩
theorem Fzn.ziN{a:Addr}{xs:List V}(e:Fzn H H')(h:FzL K H a xs):FzL K H' a xs:=by
 rcases h with⟨o,h⟩|h
 ·exact .inl ⟨o,e _ _ h trivial⟩
 ·exact .inr h
theorem FzL.sq{a:Addr}{xs:List V}(h:FzL K H a xs):SqL K H a xs:=by
 rcases h with⟨o,h⟩|h
 ·exact .inl (.inr ⟨o,h⟩)
 ·exact .inr h
mutual
theorem Fz.mono(e:Fzn H H'):∀(d:PyData) (v:V),Fz K H d v->Fz K H' d v
 | .none,v,h=>by simp only [Fz] at h ⊢;exact h
 | .bool b,v,h=>by simp only [Fz] at h ⊢;exact h
 | .int i,v,h=>by simp only [Fz] at h ⊢;exact h
 | .str x,v,h=>by simp only [Fz] at h ⊢;exact h
 | .list xs,v,h=>by
  simp only [Fz] at h ⊢
  obtain⟨a,vs,e1,h1,h2⟩:=h
  exact⟨a,vs,e1,e.ziN h1,zae.mono e xs vs h2⟩
 | .tuple xs,v,h=>by
  simp only [Fz] at h ⊢
  obtain⟨a,vs,e1,h1,h2⟩:=h
  exact⟨a,vs,e1,e.zlv h1,zae.mono e xs vs h2⟩
 | .dict kvs,v,h=>by
  simp only [Fz] at h ⊢
  obtain⟨a,o,e1,h⟩:=h
  obtain⟨kk,h1,h2⟩:=h
  exact⟨a,o,e1,⟨kk,e _ _ h1 trivial,zb9.mono e kvs kk h2⟩⟩
theorem zae.mono(e:Fzn H H'):∀(ds:List PyData) (vs:List V),zae K H ds vs->zae K H' ds vs
 | [],vs,h=>by simp only [zae] at h ⊢;exact h
 | d::ds,vs,h=>by
  simp only [zae] at h ⊢
  obtain⟨v,r,e1,h1,h2⟩:=h
  exact⟨v,r,e1,Fz.mono e d v h1,zae.mono e ds r h2⟩
theorem zb9.mono(e:Fzn H H'):∀(kvs:List (PyData×PyData)) (kk:List (List Key×V)),zb9 K H kvs kk->zb9 K H' kvs kk
 | [],kk,h=>by simp only [zb9] at h ⊢;exact h
 | (k,d)::r,kk,h=>by
  simp only [zb9] at h ⊢
  obtain⟨q,v,t,e1,e2,h1,h2⟩:=h
  exact⟨q,v,t,e1,e2,Fz.mono e d v h1,zb9.mono e r t h2⟩
end
theorem zae.len:∀{ds:List PyData} {vs:List V},zae K H ds vs->vs.length=ds.length
 | [],vs,h=>by simp only [zae] at h;subst h;rfl
 | d::ds,vs,h=>by
  simp only [zae] at h
  obtain⟨v,r,rfl,_,h2⟩:=h
  simp [zae.len h2]
theorem zae.get:∀{ds:List PyData} {vs:List V} {i:Nat} {d:PyData},zae K H ds vs->ds[i]?=some d->∃ v,vs[i]?=some v/\Fz K H d v
 | [],vs,i,d,h,e=>by simp at e
 | d0::ds,vs,i,d,h,e=>by
  simp only [zae] at h
  obtain⟨v,r,rfl,h1,h2⟩:=h
  cases i with
  | zero=>simp at e;subst e;exact⟨v,by simp,h1⟩
  | succ i =>
   obtain⟨w,e1,f⟩:=zae.get h2 (by simpa using e)
   exact⟨w,by simpa using e1,f⟩
theorem zae.app:∀{ds es:List PyData} {vs ws:List V},zae K H ds vs->zae K H es ws->zae K H (ds++es) (vs++ws)
 | [],es,vs,ws,h,g=>by simp only [zae] at h;subst h;exact g
 | d::ds,es,vs,ws,h,g=>by
  simp only [zae] at h
  obtain⟨v,r,rfl,h1,h2⟩:=h
  simp only [List.cons_append,zae]
  exact⟨v,r++ws,rfl,h1,zae.app h2 g⟩
theorem zae.take:∀{ds:List PyData} {vs:List V} (n:Nat),zae K H ds vs->zae K H (ds.take n) (vs.take n)
 | ds,vs,0,h=>by simp [zae]
 | [],vs,n+1,h=>by simp only [zae] at h;subst h;simp [zae]
 | d::ds,vs,n+1,h=>by
  simp only [zae] at h
  obtain⟨v,r,rfl,h1,h2⟩:=h
  simp only [List.take_succ_cons,zae]
  exact⟨v,_,rfl,h1,zae.take n h2⟩
theorem zae.drop:∀{ds:List PyData} {vs:List V} (n:Nat),zae K H ds vs->zae K H (ds.drop n) (vs.drop n)
 | ds,vs,0,h=>by simpa using h
 | [],vs,n+1,h=>by simp only [zae] at h;subst h;simp [zae]
 | d::ds,vs,n+1,h=>by
  simp only [zae] at h
  obtain⟨v,r,rfl,h1,h2⟩:=h
  simpa using zae.drop n h2
theorem zae.set:∀{ds:List PyData} {vs:List V} {d:PyData} {v:V} (n:Nat),zae K H ds vs->Fz K H d v->zae K H (ds.set n d) (vs.set n v)
 | [],vs,d,v,n,h,f=>by simp only [zae] at h;subst h;simp [zae]
 | d0::ds,vs,d,v,n,h,f=>by
  simp only [zae] at h
  obtain⟨v0,r,rfl,h1,h2⟩:=h
  cases n with
  | zero=>simp only [List.set_cons_zero,zae];exact⟨v,r,rfl,f,h2⟩
  | succ n=>simp only [List.set_cons_succ,zae];exact⟨v0,_,rfl,h1,zae.set n h2 f⟩
theorem zae.rep{ds:List PyData}{vs:List V}(h:zae K H ds vs):∀ k:Nat,zae K H (List.replicate k ds).flatten (List.replicate k vs).flatten
 | 0=>by simp [zae]
 | k+1=>by simp only [List.replicate_succ,List.flatten_cons];exact zae.app h (zae.rep h k)
theorem zae.ints:∀{ds:List PyData} {vs:List V} {ns:List Int},zae K H ds vs->intsOf ds=some ns->vs=ns.map V.int/\ds=ns.map PyData.int
 | [],vs,ns,h,e=>by simp only [zae] at h;simp only [intsOf,Option.some.injEq] at e;subst h;subst e;exact⟨rfl,rfl⟩
 | d::ds,vs,ns,h,e=>by
  simp only [zae] at h
  obtain⟨v,r,rfl,h1,h2⟩:=h
  cases d with
  | int i =>
   simp only [intsOf,Option.map_eq_some_iff] at e
   obtain⟨ms,e1,rfl⟩:=e
   obtain⟨a,b⟩:=zae.ints h2 e1
   simp only [Fz] at h1
   subst h1;subst a;subst b
   exact⟨rfl,rfl⟩
  | _=>simp [intsOf] at e
theorem zae.bools:∀{ds:List PyData} {vs:List V} {ns:List Bool},zae K H ds vs->boolsOf ds=some ns->vs=ns.map V.bl/\ds=ns.map PyData.bool
 | [],vs,ns,h,e=>by simp only [zae] at h;simp only [boolsOf,Option.some.injEq] at e;subst h;subst e;exact⟨rfl,rfl⟩
 | d::ds,vs,ns,h,e=>by
  simp only [zae] at h
  obtain⟨v,r,rfl,h1,h2⟩:=h
  cases d with
  | bool i =>
   simp only [boolsOf,Option.map_eq_some_iff] at e
   obtain⟨ms,e1,rfl⟩:=e
   obtain⟨a,b⟩:=zae.bools h2 e1
   simp only [Fz] at h1
   subst h1;subst a;subst b
   exact⟨rfl,rfl⟩
  | _=>simp [boolsOf] at e
theorem zae.ofInts:∀(ns:List Int),zae K H (ns.map PyData.int) (ns.map V.int)
 | []=>by simp [zae]
 | i::r=>by simp only [List.map_cons,zae];exact⟨_,_,rfl,by simp [Fz],zae.ofInts r⟩
end
def zby(K:PySem.W.Frag)(H:Hp)(a:Addr):PyData->Prop
 | .list ds=>∃ vs,H a=some (.lst vs)/\zae K H ds vs
 | .dict kvs=>∃ kk,H a=some (.dT kk)/\zb9 K H kvs kk
 | _=>False
def Tp(K:PySem.W.Frag)(H:Hp):PyData->V->Prop
 | .list ds,v=>∃ a vs,v=.ref a/\SqL K H a vs/\zae K H ds vs
 | .dict kvs,v=>∃ a,v=.ref a/\∃ kk,Rd H a (.dT kk)/\zb9 K H kvs kk
 | d,v=>Fz K H d v
section
variable {K:PySem.W.Frag}{H H':Hp}
theorem Fz.tp{d:PyData}{v:V}(h:Fz K H d v):Tp K H d v:=by
 cases d with
 | list ds =>
  simp only [Fz] at h
  obtain⟨a,vs,e,h1,h2⟩:=h
  exact⟨a,vs,e,h1.sq,h2⟩
 | dict kvs =>
  simp only [Fz] at h
  obtain⟨a,o,e,h⟩:=h
  obtain⟨kk,h1,h2⟩:=h
  exact⟨a,e,⟨kk,.inr ⟨o,h1⟩,h2⟩⟩
 | _=>exact h
theorem zby.tp{d:PyData}{a:Addr}(h:zby K H a d):Tp K H d (.ref a):=by
 cases d with
 | list ds =>
  obtain⟨vs,h1,h2⟩:=h
  exact⟨a,vs,rfl,SqL.of h1,h2⟩
 | dict kvs =>
  obtain⟨kk,h1,h2⟩:=h
  exact⟨a,rfl,⟨kk,.inl h1,h2⟩⟩
 | _=>exact h.elim
def Own:HO->Prop
 | .lst _=>True
 | .dT _=>True
 | .dK _=>True
 | _=>False
theorem zby.own{d:PyData}{a:Addr}(h:zby K H a d):∃ o,H a=some o/\Own o:=by
 cases d with
 | list ds=>obtain⟨vs,h1,_⟩:=h;exact⟨_,h1,trivial⟩
 | dict kvs =>
  obtain⟨kk,h1,h2⟩:=h
  exact⟨_,h1,trivial⟩
 | _=>exact h.elim
theorem Own.zcs{o:HO}(h:Own o):¬ ztE o:=by cases o <;> first|exact fun z=>z|exact h.elim
theorem zby.mono{d:PyData}{a:Addr}(e:Fzn H H')(k:H' a=H a)(h:zby K H a d):zby K H' a d:=by
 cases d with
 | list ds=>obtain⟨vs,h1,h2⟩:=h;exact⟨vs,by rw [k];exact h1,h2.mono e⟩
 | dict kvs =>
  obtain⟨kk,h1,h2⟩:=h
  exact⟨kk,by rw [k];exact h1,h2.mono e⟩
 | _=>exact h.elim
end
def zpE[Cs](K:PySem.W.Frag)(H:Hp)(a:Addr)(c:String)(ds:List D):Prop:=∃ C ns dx vs,Cs.O c=some (C,ns)/\H a=some (.ins C dx (ns.zip vs))/\vs.length=ns.length/\zae K H ds vs
def zjB[Cs](K:PySem.W.Frag)(H:Hp):Sl->Option V->Prop
 | .no,_=>True
 | .val d,some v=>Fz K H d v
 | .ow _ d,some (.ref a)=>zby K H a d
 | .ob c ds,some (.ref a)=>zpE K H a c ds
 | _,_=>False
def At(ρ:En)(σ:St)(i:Nat)(a:Addr):Prop:=(∃ p d,ρ[i]?=some (.ow p d))/\σ[i]?=some (some (.ref a))
def znh[Cs](H:Hp):Prop:=∀ a u,Cs.C a=some u->H a=some u
theorem znh.mono[Cs]{H H':Hp}(h:znh H)(e:Fzn H H'):znh H':=fun a u q=>e a u (h a u q) (by
 obtain⟨o,xs,rfl⟩:=Cs.st a u q
 trivial)
structure Rel[Cs](K:PySem.W.Frag)(ρ:En)(σ:St)(H:Hp):Prop where
 len:ρ.length=σ.length
 ok:∀(i:Nat) x v,ρ[i]?=some x->σ[i]?=some v->zjB K H x v
 sep:∀ i j a,At ρ σ i a->At ρ σ j a->i=j
 cst:znh H
variable [Cs]
def MA(ρ:En)(σ:St)(a:Addr):Prop:=∃ i,At ρ σ i a
structure Stp(ρ ρ':En)(σ:St)(H H':Hp):Prop where
 md:∀(i:Nat) p,(∃ d,ρ[i]?=some (.ow p d))↔∃ d,ρ'[i]?=some (.ow p d)
 kp:∀ a o,H a=some o->¬ MA ρ σ a->H' a=some o
section
variable {K:PySem.W.Frag}{ρ ρ' ρ'':En}{σ:St}{H H' H'':Hp}
theorem Rel.ztl(r:Rel K ρ σ H){i:Nat}{a:Addr}(h:At ρ σ i a):∃ p d,ρ[i]?=some (.ow p d)/\zby K H a d:=by
 obtain⟨⟨p,d,e⟩,e2⟩:=h
 exact⟨p,d,e,r.ok i _ _ e e2⟩
theorem Rel.zaO(r:Rel K ρ σ H){a:Addr}(h:MA ρ σ a):∃ o,H a=some o/\Own o:=by
 obtain⟨i,h⟩:=h
 obtain⟨p,d,_,m⟩:=r.ztl h
 exact m.own
theorem Stp.refl:Stp ρ ρ σ H H:=⟨fun _ _=>Iff.rfl,fun _ _ h _=>h⟩
theorem Stp.ma(s:Stp ρ ρ' σ H H'){a:Addr}:MA ρ σ a↔MA ρ' σ a:=by
 constructor
 ·rintro⟨i,⟨p,h⟩,e⟩;exact⟨i,⟨p,(s.md i p).mp h⟩,e⟩
 ·rintro⟨i,⟨p,h⟩,e⟩;exact⟨i,⟨p,(s.md i p).mpr h⟩,e⟩
theorem Stp.trans(a:Stp ρ ρ' σ H H')(b:Stp ρ' ρ'' σ H' H''):Stp ρ ρ'' σ H H'' :=
 ⟨fun i p=>(a.md i p).trans (b.md i p),fun c o h n=>b.kp c o (a.kp c o h n) fun z=>n (a.ma.mpr z)⟩
theorem Stp.of(s:zaM H H'):Stp ρ ρ σ H H':=⟨fun _ _=>Iff.rfl,fun a o h _=>s a o h⟩
theorem Stp.fzn(s:Stp ρ ρ' σ H H')(r:Rel K ρ σ H):Fzn H H':=fun a o h st=>s.kp a o h fun m=>by
 obtain⟨o',e,w⟩:=r.zaO m
 rw [h] at e
 cases e
 exact w.zcs st
theorem zpE.mono{a:Addr}{c:String}{ds:List D}(f:Fzn H H')(h:zpE K H a c ds):zpE K H' a c ds:=by
 obtain⟨C,ns,dx,vs,h1,h2,h3,h4⟩:=h
 exact⟨C,ns,dx,vs,h1,f _ _ h2 trivial,h3,h4.mono f⟩
theorem zjB.mono{x:Sl}{v:Option V}(f:Fzn H H')(k:∀ a,v=some (.ref a)->(∃ p d,x=.ow p d)->H' a=H a)(h:zjB K H x v):zjB K H' x v:=by
 cases x with
 | no=>trivial
 | val d=>cases v with
  | none=>exact h.elim
  | some v=>exact Fz.mono f d v h
 | ow p d=>cases v with
  | none=>exact h.elim
  | some v=>cases v with
   | ref a=>exact zby.mono f (k a rfl ⟨p,d,rfl⟩) h
   | _=>exact h.elim
 | ob c ds=>cases v with
  | none=>exact h.elim
  | some v=>cases v with
   | ref a=>exact zpE.mono f h
   | _=>exact h.elim
theorem Rel.same(r:Rel K ρ σ H)(s:zaM H H'):Rel K ρ σ H':=by
 refine⟨r.len,fun i x v e1 e2=>(r.ok i x v e1 e2).mono (Fzn.of s) fun a e3 ⟨p,d,e4⟩=>?_,r.sep,r.cst.mono (Fzn.of s)⟩
 subst e3;subst e4
 obtain⟨o,e,_⟩:=r.zaO ⟨i,⟨p,d,e1⟩,e2⟩
 rw [e,s a o e]
theorem Rel.put{a:Addr}{o:HO}(r:Rel K ρ σ H)(n:¬ MA ρ σ a)(ns:∀ u,H a=some u->¬ ztE u):Rel K ρ σ (upd H a o):=by
 have f:Fzn H (upd H a o):=fun b u e st=>by
  rw [zao fun z=>by subst z;exact ns u e st]
  exact e
 refine⟨r.len,fun i x v e1 e2=>(r.ok i x v e1 e2).mono f fun b e3 ⟨p,d,e4⟩=>?_,r.sep,r.cst.mono f⟩
 subst e3;subst e4
 exact zao fun z=>n ⟨i,⟨p,d,e1⟩,z▸e2⟩
end
def nst:Expr->Bool
 | .Starred _ _=>false
 | _=>true
theorem se{a:Expr}{es:List Expr}{env:Env}(h:nst a=true):starEach (a::es) env=(false,eval a env)::starEach es env:=by
 cases a <;> first|rfl|cases h
theorem sp{pos:Pos}{es:List Expr}{env:Env}(h:es.all nst=true):(backTo pos (starEach es env)).any (·.1)=false:=by
 induction es with
 | nil=>rfl
 | cons a es ih =>
  rw [List.all_cons,Bool.and_eq_true] at h
  rw [se h.1]
  exact ih h.2
end
section
variable [Cs]
section
variable {X:Cx}{pins:List (Addr×Obj)}{σ:L2.St}{H:Hp}{s:Shared}
theorem ztB{a:Addr}{u:HO}{o:Obj}(I:Inv X pins σ H s)(hd:H a=some u)(ow:Own u)(ho:s.heap.get? a=some o):Inv X pins σ (upd H a (.frz o u)) s:=by
 have ne:∀ b w,H b=some w->¬ Own w->b≠a:=fun b w e n z=>by
  subst z
  rw [e] at hd
  cases hd
  exact n ow
 refine Inv.step (s:=s) (h':=s.heap) (H':=upd H a (.frz o u)) (g':=s.gens) (t':=s.toks) (d':=s.drawn) (ch:=[]) I (fun _ z=>nomatch z) (fun b o _ _ _ e _=>e) (fun b o _ _ _ e _=>⟨o.slots,e⟩) (fun b _ _ _ n=>?_) (fun b o _ e=>⟨o,e⟩)
  (fun b xs e=>?_) (fun b o u e=>?_) (fun b ps e=>⟨#[],?_⟩) (fun m hm=>hm) (fun b w e=>?_) I.bare
 ·rw [zao fun z=>by subst z;rw [n] at hd;cases hd];exact n
 ·rw [zao (ne b _ e fun z=>z)];exact e
 ·rw [zao (ne b _ e fun z=>z)];exact e
 ·rw [zao (ne b _ e fun z=>z),e];simp
 ·have st:∀(b:Addr) (w:HO),zbR X.prog X.w H s.heap b w->zbR X.prog X.w (upd H a (.frz o u)) s.heap b w:=fun b w k =>
   k.stay (fun _ _ _ q=>q) (fun b' q=>by rw [zao (ne b' _ q fun z=>z)];exact q) (fun b' xs q=>q.upd (fun _ r=>ne b' _ r fun z=>z) fun _ _ r=>ne b' _ r fun z=>z)
  by_cases c:b=a
  ·subst c
   rw [zal] at e
   cases e
   exact⟨ho,st b u (I.hok b u hd)⟩
  ·rw [zao c] at e
   exact st b w (I.hok b w e)
theorem zs9{Q:VK}{w:Value}(h:EP X pins σ (fun v H1=>∃ a u,v=.ref a/\H1 a=some u/\Own u/\∀ o,Q v (upd H1 a (.frz o u))) w s):EP X pins σ Q w s:=by
 obtain⟨v,H1,I,r,a,u,e,e1,ow,q⟩:=h
 obtain⟨o,ho⟩:=(I.hok a u e1).some
 exact⟨v,_,ztB I e1 ow ho,r,q o⟩
def tFz(t:TE):TE:=fun σ H Q=>t σ H fun v H1=>∃ a u,v=.ref a/\H1 a=some u/\Own u/\∀ o,Q v (upd H1 a (.frz o u))
theorem zsr{e:Expr}{t:TE}(h:PE X e t):PE X e (tFz t):=fun pins s σ H Q I q=>thn (h pins s σ H _ I q) fun _ _ z=>zs9 z
end
def Good{β:Type}(K:PySem.W.Frag)(ρ:En)(σ:L2.St)(H:Hp)(r:R (β×En))(P:β->En->Hp->Prop):Prop:=match r with
 | .ok x=>∀ H',Rel K x.2 σ H'->Stp ρ x.2 σ H H'->P x.1 x.2 H'
 | _=>False
def tV(K:PySem.W.Frag)(f:EF):TE:=fun σ H Q=>∃ ρ,Rel K ρ σ H/\Good K ρ σ H (f ρ) fun d _ H'=>∀ v,Fz K H' d v->Q v H'
def tT(K:PySem.W.Frag)(f:TF):TT:=fun σ H Q=>∃ ρ,Rel K ρ σ H/\Good K ρ σ H (f ρ) fun b _ H'=>Q b H'
def tA(K:PySem.W.Frag)(f:AF):TA:=fun σ H Q=>∃ ρ,Rel K ρ σ H/\Good K ρ σ H (f ρ) fun ds _ H'=>∀ vs,zae K H' ds vs->Q vs H'
def tO(K:PySem.W.Frag)(f:OF):TO:=fun σ H Q=>∃ ρ,Rel K ρ σ H/\Good K ρ σ H (f ρ) fun o _ H'=>Q o H'
def tN(K:PySem.W.Frag)(f:EF):TE:=fun σ H Q=>∃ ρ,Rel K ρ σ H/\Good K ρ σ H (f ρ) fun d ρ' H'=>∀ a,H a=none->zby K H' a d->Q (.ref a) H'
structure PV(K:PySem.W.Frag)(X:Cx)(e:Expr)(f:EF):Prop where
 run:X.K=K->PE X e (tV K f)
instance {K:PySem.W.Frag} {X:Cx} {e:Expr} {f:EF}:CoeFun (PV K X e f) fun _=>X.K=K->PE X e (tV K f):=⟨PV.run⟩
structure PVT(K:PySem.W.Frag)(X:Cx)(e:Expr)(f:TF):Prop where
 run:X.K=K->PT X e (tT K f)
instance {K:PySem.W.Frag} {X:Cx} {e:Expr} {f:TF}:CoeFun (PVT K X e f) fun _=>X.K=K->PT X e (tT K f):=⟨PVT.run⟩
structure PVW(K:PySem.W.Frag)(X:Cx)(e:Expr)(f:TF):Prop where
 run:X.K=K->PW X e (tT K f)
instance {K:PySem.W.Frag} {X:Cx} {e:Expr} {f:TF}:CoeFun (PVW K X e f) fun _=>X.K=K->PW X e (tT K f):=⟨PVW.run⟩
structure PVA(K:PySem.W.Frag)(X:Cx)(es:List Expr)(f:AF):Prop where
 run:X.K=K->PA X es (tA K f)
instance {K:PySem.W.Frag} {X:Cx} {es:List Expr} {f:AF}:CoeFun (PVA K X es f) fun _=>X.K=K->PA X es (tA K f):=⟨PVA.run⟩
structure PVO(K:PySem.W.Frag)(X:Cx)(e:Option Expr)(f:OF):Prop where
 run:X.K=K->PO X e (tO K f)
instance {K:PySem.W.Frag} {X:Cx} {e:Option Expr} {f:OF}:CoeFun (PVO K X e f) fun _=>X.K=K->PO X e (tO K f):=⟨PVO.run⟩
structure PVN(K:PySem.W.Frag)(X:Cx)(e:Expr)(f:EF):Prop where
 run:X.K=K->PE X e (tN K f)
instance {K:PySem.W.Frag} {X:Cx} {e:Expr} {f:EF}:CoeFun (PVN K X e f) fun _=>X.K=K->PE X e (tN K f):=⟨PVN.run⟩
theorem _root_.L2.PE.weak{X:Cx}{e:Expr}{t t':TE}(h:PE X e t)(w:∀ σ H Q,t' σ H Q->t σ H Q):PE X e t':=fun pins s σ H Q I q=>h pins s σ H Q I (w σ H Q q)
theorem _root_.L2.PT.weak{X:Cx}{e:Expr}{t t':TT}(h:PT X e t)(w:∀ σ H Q,t' σ H Q->t σ H Q):PT X e t':=fun pins s σ H Q I q=>h pins s σ H Q I (w σ H Q q)
theorem _root_.L2.PW.weak{X:Cx}{e:Expr}{t t':TT}(h:PW X e t)(w:∀ σ H Q,t' σ H Q->t σ H Q):PW X e t':=fun wh pins s σ H Q I q=>h wh pins s σ H Q I (w σ H Q q)
theorem _root_.L2.PA.weak{X:Cx}{e:List Expr}{t t':TA}(h:PA X e t)(w:∀ σ H Q,t' σ H Q->t σ H Q):PA X e t':=fun pos pins s σ H Q I q=>h pos pins s σ H Q I (w σ H Q q)
theorem _root_.L2.PO.weak{X:Cx}{e:Option Expr}{t t':TO}(h:PO X e t)(w:∀ σ H Q,t' σ H Q->t σ H Q):PO X e t':=fun pins s σ H Q I q=>h pins s σ H Q I (w σ H Q q)
section
variable {K:PySem.W.Frag}{ρ ρ1:En}{σ:L2.St}{H H1:Hp}{β γ:Type}
theorem Good.step{r:R (β×En)}{P:β->En->Hp->Prop}(st:Stp ρ ρ1 σ H H1)(g:Good K ρ σ H r P):Good K ρ1 σ H1 r P:=by
 cases r with
 | ok x=>exact fun H' rel s=>g H' rel (st.trans s)
 | _=>exact g
theorem Good.bnd{r:R (β×En)}{k:β×En->R (γ×En)}{P:γ->En->Hp->Prop}(g:Good K ρ σ H (r.bind k) P):∃ x,r=.ok x/\Good K ρ σ H (k x) P:=by
 cases r with
 | ok x=>exact⟨x,rfl,g⟩
 | _=>exact g.elim
theorem Good.zc0{r:R β}{k:β->R (γ×En)}{P:γ->En->Hp->Prop}(g:Good K ρ σ H (r.bind k) P):∃ x,r=.ok x/\Good K ρ σ H (k x) P:=by
 cases r with
 | ok x=>exact⟨x,rfl,g⟩
 | _=>exact g.elim
theorem Good.chk{c:Bool}{r:R (γ×En)}{P:γ->En->Hp->Prop}(g:Good K ρ σ H (chk c r) P):c=true/\Good K ρ σ H r P:=by
 cases c with
 | true=>exact⟨rfl,g⟩
 | false=>exact g.elim
theorem Good.now{x:β}{P:β->En->Hp->Prop}(g:Good K ρ σ H (.ok (x,ρ)) P)(rel:Rel K ρ σ H):P x ρ H:=g H rel .refl
theorem Good.new{x:β}{P:β->En->Hp->Prop}(g:Good K ρ σ H (.ok (x,ρ)) P)(rel:Rel K ρ σ H)(s:zaM H H1):P x ρ H1:=g H1 (rel.same s) (.of s)
theorem goV{f:EF}{k:D×En->R (β×En)}{S:VK}{P:β->En->Hp->Prop}(rel:Rel K ρ σ H)(g:Good K ρ σ H ((f ρ).bind k) P)
  (h:∀ d ρ1 v H1,Rel K ρ1 σ H1->Stp ρ ρ1 σ H H1->Fz K H1 d v->Good K ρ1 σ H1 (k (d,ρ1)) P->S v H1):tV K f σ H S:=by
 obtain⟨x,e,g1⟩:=g.bnd
 refine⟨ρ,rel,?_⟩
 rw [e]
 exact fun H' r s v fz=>h x.1 x.2 v H' r s fz (g1.step s)
theorem goT{f:TF}{k:Bool×En->R (β×En)}{S:Bool->Hp->Prop}{P:β->En->Hp->Prop}(rel:Rel K ρ σ H)(g:Good K ρ σ H ((f ρ).bind k) P)
  (h:∀ b ρ1 H1,Rel K ρ1 σ H1->Stp ρ ρ1 σ H H1->Good K ρ1 σ H1 (k (b,ρ1)) P->S b H1):tT K f σ H S:=by
 obtain⟨x,e,g1⟩:=g.bnd
 refine⟨ρ,rel,?_⟩
 rw [e]
 exact fun H' r s=>h x.1 x.2 H' r s (g1.step s)
theorem goA{f:AF}{k:List D×En->R (β×En)}{S:List V->Hp->Prop}{P:β->En->Hp->Prop}(rel:Rel K ρ σ H)(g:Good K ρ σ H ((f ρ).bind k) P)
  (h:∀ ds ρ1 vs H1,Rel K ρ1 σ H1->Stp ρ ρ1 σ H H1->zae K H1 ds vs->Good K ρ1 σ H1 (k (ds,ρ1)) P->S vs H1):tA K f σ H S:=by
 obtain⟨x,e,g1⟩:=g.bnd
 refine⟨ρ,rel,?_⟩
 rw [e]
 exact fun H' r s vs fz=>h x.1 x.2 vs H' r s fz (g1.step s)
theorem goO{f:OF}{k:Option Int×En->R (β×En)}{S:Option Int->Hp->Prop}{P:β->En->Hp->Prop}(rel:Rel K ρ σ H)(g:Good K ρ σ H ((f ρ).bind k) P)
  (h:∀ b ρ1 H1,Rel K ρ1 σ H1->Stp ρ ρ1 σ H H1->Good K ρ1 σ H1 (k (b,ρ1)) P->S b H1):tO K f σ H S:=by
 obtain⟨x,e,g1⟩:=g.bnd
 refine⟨ρ,rel,?_⟩
 rw [e]
 exact fun H' r s=>h x.1 x.2 H' r s (g1.step s)
end
def rD(K:PySem.W.Frag)(g:D->D->R D):R2:=fun x y H Q=>∃ dx dy d,Tp K H dx x/\Tp K H dy y/\g dx dy=.ok d/\∀ v H',zaM H H'->Fz K H' d v->Q v H'
def rD1(K:PySem.W.Frag)(g:D->R D):V->Hp->VK->Prop:=fun x H Q=>∃ dx d,Tp K H dx x/\g dx=.ok d/\∀ v H',zaM H H'->Fz K H' d v->Q v H'
def rDs(K:PySem.W.Frag)(G:List D->R D):List V->Hp->VK->Prop:=fun xs H Q=>∃ ds d,zae K H ds xs/\G ds=.ok d/\∀ v H',zaM H H'->Fz K H' d v->Q v H'
def rD0(K:PySem.W.Frag)(g:D->R D):List V->Hp->VK->Prop:=fun xs H Q=>∃ x dx d,xs=[x]/\Tp K H dx x/\g dx=.ok d/\∀ v H',zaM H H'->Fz K H' d v->Q v H'
section
variable {K:PySem.W.Frag}{X:Cx}{a b c:Expr}{f h k:EF}{pos:Pos}
theorem zaa{x:Str}(i:Nat)(hN:X.N[i]?=some x:=by rfl)(hv:Vis X.env.scope x:=by first|exact Or.inl rfl|exact Or.inr (Or.inl rfl)|exact Or.inr (Or.inr rfl))(hd:(x==("__debug__":Str))=false:=by decide)
  (hcd:(x==("__classdict__":Str))=false:=by decide):PV K X (.Name x pos) (eV i):=.mk fun _=>(zo6 hN hv hd hcd).weak fun σ H Q=>by
 rintro⟨ρ,rel,g⟩
 unfold eV at g
 cases e:ρ[i]? with
 | none=>rw [e] at g;exact g.elim
 | some x =>
  rw [e] at g
  cases x with
  | val d =>
   have hl:i<σ.length:=by rw [<- rel.len];exact(List.getElem?_eq_some_iff.mp e).1
   have o:=rel.ok i _ _ e (List.getElem?_eq_getElem hl)
   cases es:σ[i] with
   | none=>rw [es] at o;exact o.elim
   | some v =>
    rw [es] at o
    exact⟨v,by rw [List.getElem?_eq_getElem hl,es],g.now rel v o⟩
  | _=>exact g.elim
theorem zt9{e:Expr}{v:V}{d:D}(h:PE X e (tC v))(hv:∀ H,Fz K H d v):PV K X e (eC d):=.mk fun _=>h.weak fun σ H Q=>by
 rintro⟨ρ,rel,g⟩
 exact g.now rel v (hv H)
theorem zad{i:Int}{j}:PV K X (.Constant (.int i) j pos) (eC (.int i)):=zt9 zsq fun _=>by simp [Fz]
theorem ze2{i:Bool}{j}:PV K X (.Constant (.bool i) j pos) (eC (.bool i)):=zt9 zud fun _=>by simp [Fz]
theorem zqa{x:Str}{v:V}{u:Value}{d:D}(hg:Gl X x)(hm:X.mg x=some u)(r:RelV v u)(hv:∀ H,Fz K H d v)(hd:(x==("__debug__":Str))=false:=by decide):PV K X (.Name x pos) (eC d):=zt9 (zl0 hg hm r hd) hv
theorem ztA{g:D->D->R D}{r:R2}(ho:∀ x y H Q,rD K g x y H Q->r x y H Q)(σ:L2.St)(H:Hp)(Q:VK)(q:tV K (e2 g f h) σ H Q):tOp r (tV K f) (tV K h) σ H Q:=by
 obtain⟨ρ,rel,q⟩:=q
 refine goV rel q fun dx ρ1 x H1 rel1 st1 fx q1=>goV rel1 q1 fun dy ρ2 y H2 rel2 st2 fy q2=>?_
 obtain⟨d,ed,q3⟩:=q2.zc0
 exact ho _ _ _ _ ⟨dx,dy,d,(fx.mono (st2.fzn rel1)).tp,fy.tp,ed,fun v H' s fz=>q3.new rel2 s v fz⟩
theorem zar{op:Operator}{g:D->D->R D}(ho:OpR X (binaryOp op) (rD X.K g))(ha:PV K X a f)(hb:PV K X b h):PV K X (.BinOp a op b pos) (e2 g f h):=.mk fun hK=>by
 subst hK
 exact(zqz ho (ha rfl) (hb rfl)).weak fun σ H Q q=>ztA (fun _ _ _ _ z=>z) σ H Q q
theorem zbt{g:D->D->R D}(ho:IxR X (rD X.K g))(ha:PV K X a f)(hb:PV K X b h)(hs:zhH b:=by exact fun _ _=>rfl):PV K X (.Subscript a b pos) (e2 g f h):=.mk fun hK=>by
 subst hK
 exact(zsp ho (ha rfl) (hb rfl) hs).weak fun σ H Q q=>ztA (fun _ _ _ _ z=>z) σ H Q q
theorem zr9{op:CmpOp}{g:D->D->R D}(ho:OpR X (compareOp op) (rD X.K g))(ha:PV K X a f)(hb:PV K X b h)(hm:behindInMarks op b=false):PV K X (.Compare a [op] [b] pos) (e2 g f h):=.mk fun hK=>by
 subst hK
 exact(zqC ho (ha rfl) (hb rfl) hm).weak fun σ H Q q=>ztA (fun _ _ _ _ z=>z) σ H Q q
theorem zkI{op:UnaryOp}{g:D->R D}(ho:UnR X (unaryOp op) (rD1 X.K g))(ha:PV K X a f):PV K X (.UnaryOp op a pos) (e1 g f):=.mk fun hK=>by
 subst hK
 exact(zua ho (ha rfl)).weak fun σ H Q=>by
  rintro⟨ρ,rel,q⟩
  refine goV rel q fun dx ρ1 x H1 rel1 st1 fx q1=>?_
  obtain⟨d,ed,q3⟩:=q1.zc0
  exact⟨dx,d,fx.tp,ed,fun v H' s fz=>q3.new rel1 s v fz⟩
theorem zmH{g g':D->D->R D}(σ:L2.St)(H:Hp)(Q:VK)(q:tV K (zcu g g' f h k) σ H Q):zlo (rD K g) (rD K g') (tV K f) (tV K h) (tV K k) σ H Q:=by
 obtain⟨ρ,rel,q⟩:=q
 refine goV rel q fun dx ρ1 x H1 rel1 st1 fx q1=>goV rel1 q1 fun dy ρ2 y H2 rel2 st2 fy q2=>?_
 obtain⟨d,ed,q3⟩:=q2.zc0
 refine⟨dx,dy,d,(fx.mono (st2.fzn rel1)).tp,fy.tp,ed,fun v H' s fz=>?_⟩
 cases d with
 | bool bb =>
  simp only [Fz] at fz
  subst fz
  have rel3:=rel2.same s
  have q4:=q3.step (.of s)
  cases bb with
  | true =>
   refine⟨true,rfl,zoo ?_⟩
   refine goV rel3 q4 fun dz ρ3 z H3 rel4 st4 fzz q5=>?_
   obtain⟨d2,ed2,q6⟩:=q5.zc0
   exact⟨dy,dz,d2,((fy.mono (Fzn.of s)).mono (st4.fzn rel3)).tp,fzz.tp,ed2,fun v H' s fz=>q6.new rel4 s v fz⟩
  | false=>exact⟨false,rfl,zop (q4.now rel3 _ (by simp [Fz]))⟩
 | _=>exact q3.elim
theorem znN{op op':CmpOp}{g g':D->D->R D}(ho:OpR X (compareOp op) (rD X.K g))(ho':OpR X (compareOp op') (rD X.K g'))(ha:PV K X a f)(hb:PV K X b h)(hc:PV K X c k)
  (hm:lastMarks [op,op'] [b,c]=false:=by with_unfolding_all rfl):PV K X (.Compare a [op,op'] [b,c] pos) (zcu g g' f h k):=.mk fun hK=>by
 subst hK
 exact(zn2 ho ho' (ha rfl) (hb rfl) (hc rfl) hm).weak fun σ H Q q=>zmH σ H Q q
theorem zh4{op}(ha:PV K X a f):PV K X (.BoolOp op [a] pos) f:=.mk fun hK=>zsn (ha hK)
theorem zgu{rest:List Expr}(ha:PV K X a f)(hb:PV K X (.BoolOp .And (b::rest) pos) h):PV K X (.BoolOp .And (a::b::rest) pos) (zhu f h):=.mk fun hK=>(zst (ha hK) (hb hK)).weak fun σ H Q=>by
 rintro⟨ρ,rel,q⟩
 refine goV rel q fun dx ρ1 x H1 rel1 st1 fx q1=>?_
 cases dx with
 | bool bb =>
  simp only [Fz] at fx
  subst fx
  cases bb with
  | true=>exact⟨true,rfl,zoo ⟨ρ1,rel1,q1⟩⟩
  | false=>exact⟨false,rfl,zop (q1.now rel1 _ (by simp [Fz]))⟩
 | _=>exact q1.elim
theorem zr4(ha:PV K X a f):PV K X (.UnaryOp .Not a pos) (zle f):=.mk fun hK=>(zso (ha hK)).weak fun σ H Q=>by
 rintro⟨ρ,rel,q⟩
 refine goV rel q fun dx ρ1 x H1 rel1 st1 fx q1=>?_
 cases dx with
 | bool bb =>
  simp only [Fz] at fx
  subst fx
  exact⟨bb,rfl,q1.now rel1 _ (by simp [Fz])⟩
 | _=>exact q1.elim
theorem zt7{t:TF}(hc:PVT K X c t)(ha:PV K X a f)(hb:PV K X b h):PV K X (.IfExp c a b pos) (eIf t f h):=.mk fun hK=>(znX (hc hK) (ha hK) (hb hK)).weak fun σ H Q=>by
 rintro⟨ρ,rel,q⟩
 refine goT rel q fun cb ρ1 H1 rel1 st1 q1=>?_
 cases cb with
 | true=>exact zoo ⟨ρ1,rel1,q1⟩
 | false=>exact zop ⟨ρ1,rel1,q1⟩
variable {es:List Expr}{fa:AF}
theorem zda:PVA K X [] zam:=.mk fun _=>zdB.weak fun σ H Q=>by
 rintro⟨ρ,rel,q⟩
 exact q.now rel [] (by simp [zae])
theorem zd2(ha:PV K X a f)(hr:PVA K X es fa)(hs:starEach (a::es) X.env=(false,eval a X.env)::starEach es X.env:=by exact FL.se rfl):PVA K X (a::es) (zab f fa):=.mk fun hK=>(zbc (ha hK) (hr hK) hs).weak fun σ H Q=>by
 rintro⟨ρ,rel,q⟩
 refine goV rel q fun dx ρ1 x H1 rel1 st1 fx q1=>goA rel1 q1 fun ds ρ2 vs H2 rel2 st2 fs q2=>?_
 exact q2.now rel2 _ (by simp only [zae];exact⟨x,vs,rfl,fx.mono (st2.fzn rel1),fs⟩)
theorem zbo:lim<=sizeLine:=by rw [sizeLine_eq];decide
theorem za3{x1}(h:PVA K X es fa):PV K X (.Tuple es x1 pos) (za5 fa):=.mk fun hK=>(zo7 (h hK)).weak fun σ H Q=>by
 rintro⟨ρ,rel,q⟩
 refine goA rel q fun ds ρ1 vs H1 rel1 st1 fs q1=>?_
 obtain⟨c,q2⟩:=q1.chk
 refine⟨by rw [fs.len];exact Nat.le_trans (zeA c) zbo,fun p hp=>?_⟩
 have s:zaM H1 (upd H1 p (.tup vs)):=zaM.upd hp
 refine q2.new rel1 s _ ?_
 simp only [Fz]
 exact⟨p,vs,rfl,.inl zal,fs.mono (Fzn.of s)⟩
theorem zcp(h:PVA K X es fa):PVN K X (.List es pos) (zcQ fa):=.mk fun hK=>(zo8 (h hK)).weak fun σ H Q=>by
 rintro⟨ρ,rel,q⟩
 refine goA rel q fun ds ρ1 vs H1 rel1 st1 fs q1=>?_
 obtain⟨c,q2⟩:=q1.chk
 refine⟨by rw [fs.len];exact Nat.le_trans (zeA c) zbo,fun p hp=>?_⟩
 have s:zaM H1 (upd H1 p (.lst vs)):=zaM.upd hp
 refine q2.new rel1 s p ?_ ?_
 ·cases e:H p with
  | none=>rfl
  | some o =>
   by_cases m:MA ρ σ p
   ·obtain⟨o',e',_⟩:=rel1.zaO (st1.ma.mp m)
    rw [hp] at e';cases e'
   ·rw [st1.kp p o e m] at hp;cases hp
 ·exact⟨vs,zal,fs.mono (Fzn.of s)⟩
theorem PVN.pv{e:Expr}{f:EF}(h:PVN K X e f):PV K X e f:=.mk fun hK=>(zsr (h hK)).weak fun σ H Q=>by
 rintro⟨ρ,rel,q⟩
 refine⟨ρ,rel,?_⟩
 cases e:f ρ with
 | ok x =>
  rw [e] at q
  intro H' rel' st a ha m
  obtain⟨u,e1,ow⟩:=m.own
  refine⟨a,u,rfl,e1,ow,fun o=>?_⟩
  have nma:¬ MA ρ σ a:=fun z=>by
   obtain⟨o',e',_⟩:=rel.zaO z
   rw [ha] at e';cases e'
  have nma':¬ MA x.2 σ a:=fun z=>nma (st.ma.mpr z)
  have fz:Fzn H' (upd H' a (.frz o u)):=fun b w e2 sy=>by
   rw [zao fun z=>by subst z;rw [e1] at e2;cases e2;exact ow.zcs sy]
   exact e2
  refine q _ (rel'.put nma' fun u' e2=>by rw [e1] at e2;cases e2;exact ow.zcs) ⟨st.md,fun b w e2 n=>?_⟩ _ ?_
  ·rw [zao fun z=>by subst z;rw [ha] at e2;cases e2]
   exact st.kp b w e2 n
  ·obtain⟨d,ρ'⟩:=x
   cases d with
   | list ds =>
    obtain⟨vs,h1,h2⟩:=m
    rw [e1] at h1
    cases h1
    simp only [Fz]
    exact⟨a,vs,rfl,.inl ⟨o,zal⟩,h2.mono fz⟩
   | dict kvs =>
    simp only [Fz]
    obtain⟨kk,h1,h2⟩:=m
    rw [e1] at h1
    cases h1
    exact⟨a,o,rfl,⟨kk,zal,h2.mono fz⟩⟩
   | _=>exact m.elim
 | _=>rw [e] at q;exact q.elim
theorem goC{G:List D->R D}{r:List V->Hp->VK->Prop}(hr:∀ xs H Q,rDs K G xs H Q->r xs H Q)(σ:L2.St)(H:Hp)(Q:VK)(q:tV K (zaj G fa) σ H Q):tCB r (tA K fa) σ H Q:=by
 obtain⟨ρ,rel,q⟩:=q
 refine goA rel q fun ds ρ1 vs H1 rel1 st1 fs q1=>?_
 obtain⟨d,ed,q2⟩:=q1.zc0
 exact hr _ _ _ ⟨ds,d,fs,ed,fun v H' s fz=>q2.new rel1 s v fz⟩
theorem zd3{x:Str}{id:String}{G:List D->R D}{p:Pos}{e:Expr}(hc:zc3 X (.builtin id) (rDs X.K G))(hg:Gl X x)(hm:X.mg x=none)(hv:bootBuiltins x=some (.builtin id))(ha:PVA K X (e::es) fa)(hn:x ≠ "__name__":=by decide) (hdb:(x==("__debug__":Str))=false:=by decide)
  (he:starEach (e::es) X.env=(false,eval e X.env)::starEach es X.env:=by exact FL.se rfl) (hpl:(backTo pos (starEach es X.env)).any (·.1)=false:=by exact FL.sp rfl):PV K X (.Call (.Name x p) (e::es) [] pos) (zaj G fa):=.mk fun hK=>by
 subst hK
 exact(zj3 hc hg hm hv (ha rfl) hn hdb he hpl).weak fun σ H Q q=>goC (fun _ _ _ z=>z) σ H Q q
theorem zlG{x:Str}{T:String}{G:List D->R D}{p:Pos}{e:Expr}(hc:zc3 X (.type T) (rDs X.K G))(hg:Gl X x)(hm:X.mg x=none)(hv:bootBuiltins x=some (.type T))(ha:PVA K X (e::es) fa)(hn:x ≠ "__name__":=by decide) (hdb:(x==("__debug__":Str))=false:=by decide)
  (he:starEach (e::es) X.env=(false,eval e X.env)::starEach es X.env:=by exact FL.se rfl) (hpl:(backTo pos (starEach es X.env)).any (·.1)=false:=by exact FL.sp rfl):PV K X (.Call (.Name x p) (e::es) [] pos) (zaj G fa):=.mk fun hK=>by
 subst hK
 exact(zfD hc hg hm hv (ha rfl) hn hdb he hpl).weak fun σ H Q q=>goC (fun _ _ _ z=>z) σ H Q q
variable {lo hi:Option Expr}{fl fh:OF}
theorem zff:PVO K X none zcr:=.mk fun _=>zqp.weak fun σ H Q=>by
 rintro⟨ρ,rel,q⟩
 exact q.now rel
theorem zfe(h:PV K X a f):PVO K X (some a) (zcq f):=.mk fun hK=>(zqo (h hK)).weak fun σ H Q=>by
 rintro⟨ρ,rel,q⟩
 refine goV rel q fun dx ρ1 x H1 rel1 st1 fx q1=>?_
 cases dx with
 | int i =>
  simp only [Fz] at fx
  exact⟨i,fx,q1.now rel1⟩
 | _=>exact q1.elim
def ztW(K:PySem.W.Frag):V->Option Int->Option Int->Hp->VK->Prop:=fun x lo hi H Q=>∃ dx d,Tp K H dx x/\zcf dx lo hi=.ok d/\∀ v H',zaM H H'->Fz K H' d v->Q v H'
theorem zg6{p2:Pos}(hr:SlR X (ztW X.K))(he:PV K X a f)(hl:PVO K X lo fl)(hu:PVO K X hi fh):PV K X (.Subscript a (.Slice lo hi none p2) pos) (eSl f fl fh):=.mk fun hK=>by
 subst hK
 exact(zj2 hr (he rfl) (hl rfl) (hu rfl)).weak fun σ H Q=>by
  rintro⟨ρ,rel,q⟩
  refine goV rel q fun dx ρ1 x H1 rel1 st1 fx q1=>goO rel1 q1 fun l ρ2 H2 rel2 st2 q2=>goO rel2 q2 fun u ρ3 H3 rel3 st3 q3=>?_
  obtain⟨d,ed,q4⟩:=q3.zc0
  exact⟨dx,d,((fx.mono (st2.fzn rel1)).mono (st3.fzn rel2)).tp,ed,fun v H' s fz=>q4.new rel3 s v fz⟩
variable {t u:TF}
theorem zbr(hv:zuZ X (fun x H Q=>∃ d k,Tp X.K H d x/\zgc d=.ok k/\Q k H))(h:PV K X a f)(he:∀ whole,isTrue a X.env whole=(do let v <- whole;standAt a.pos;holding [v] (truthy v)):=by intro _;rfl):PVT K X a (tE f):=.mk fun hK=>by
 subst hK
 intro pins s σ H Q I q
 rw [he]
 obtain⟨ρ,rel,q⟩:=q
 refine wpAny_bind (thn (h rfl pins s σ H (fun x H'=>∃ d k,Tp X.K H' d x/\zgc d=.ok k/\Q k H') I ?_) fun v s1 ⟨x,H1,I1,r1,q1⟩=>wpAny_bind (wpAny_standAt (wpAny_holding (hv pins s1 σ H1 x v Q I1 r1 q1))))
 refine goV rel q fun dx ρ1 x H1 rel1 st1 fx q1=>?_
 obtain⟨d,ed,q2⟩:=q1.zc0
 exact⟨dx,d,fx.tp,ed,q2.now rel1⟩
theorem goB{te:TE}(hw:∀ σ H Q,tV K f σ H Q->te σ H Q)(σ:L2.St)(H:Hp)(Q:Bool->Hp->Prop)(q:tT K (tB f) σ H Q):te σ H fun x H'=>∃ k,x=.bl k/\Q k H':=by
 obtain⟨ρ,rel,q⟩:=q
 refine hw σ H _ (goV rel q fun dx ρ1 x H1 rel1 st1 fx q1=>?_)
 cases dx with
 | bool bb =>
  simp only [Fz] at fx
  exact⟨bb,fx,q1.now rel1⟩
 | _=>exact q1.elim
theorem zp2{op:CmpOp}{g:D->D->R D}(ho:OpR X (compareOp op) (rD X.K g))(ha:PV K X a f)(hb:PV K X b h)(hm:behindInMarks op b=false):PVT K X (.Compare a [op] [b] pos) (tB (e2 g f h)):=.mk fun hK=>by
 subst hK
 exact(zlJ ho (ha rfl) (hb rfl) hm).weak fun σ H Q q=>goB (fun σ H Q z=>ztA (fun _ _ _ _ z=>z) σ H Q z) σ H Q q
theorem zcM(ha:PVT K X a t):PVW K X (.BoolOp .Or [a] pos) t:=.mk fun hK=>zrZ (ha hK)
theorem zc9{rest:List Expr}(ha:PVT K X a t)(hb:PVW K X (.BoolOp .Or (b::rest) pos) u):PVW K X (.BoolOp .Or (a::b::rest) pos) (FL.tOr t u):=.mk fun hK=>(zt1 (ha hK) (hb hK)).weak fun σ H Q=>by
 rintro⟨ρ,rel,q⟩
 refine goT rel q fun cb ρ1 H1 rel1 st1 q1=>?_
 cases cb with
 | true=>exact zoo (q1.now rel1)
 | false=>exact zop ⟨ρ1,rel1,q1⟩
theorem PVW.pvt(h:PVW K X a t):PVT K X a t:=.mk fun hK=>(h hK).pt
theorem zbs(ha:PVT K X a t):PVT K X (.UnaryOp .Not a pos) (FL.zch t):=.mk fun hK=>(zsb (ha hK)).weak fun σ H Q=>by
 rintro⟨ρ,rel,q⟩
 exact goT rel q fun cb ρ1 H1 rel1 st1 q1=>q1.now rel1
theorem zlB{op op':CmpOp}{g g':D->D->R D}(ho:OpR X (compareOp op) (rD X.K g))(ho':OpR X (compareOp op') (rD X.K g'))(ha:PV K X a f)(hb:PV K X b h)(hc:PV K X c k)
  (hm:lastMarks [op,op'] [b,c]=false:=by with_unfolding_all rfl):PVT K X (.Compare a [op,op'] [b,c] pos) (tB (zcu g g' f h k)):=.mk fun hK=>by
 subst hK
 exact(znR ho ho' (ha rfl) (hb rfl) (hc rfl) hm).weak fun σ H Q q=>goB (fun σ H Q z=>zmH σ H Q z) σ H Q q
end
end
section
variable [Cs]
end
section
variable [Cs]
section
variable {K:PySem.W.Frag}{H:Hp}
mutual
theorem Fz.is:∀(d:PyData) (v:V),PyData.canLay0 d=true->Fz K H d v->Is K H d v
 | .none,v,_,h=>by simp only [Fz] at h;simp only [Is];exact h
 | .bool b,v,_,h=>by simp only [Fz] at h;simp only [Is];exact h
 | .int i,v,_,h=>by simp only [Fz] at h;simp only [Is];exact h
 | .str x,v,_,h=>by simp only [Fz] at h;simp only [Is];exact h
 | .list xs,v,c,h=>by
  simp only [Fz] at h;simp only [Is]
  obtain⟨a,vs,e1,h1,h2⟩:=h
  exact⟨a,vs,e1,h1.sq,zae.is xs vs c h2⟩
 | .tuple xs,v,c,h=>by
  simp only [Fz] at h;simp only [Is]
  obtain⟨a,vs,e1,h1,h2⟩:=h
  exact⟨a,vs,e1,.inl h1,zae.is xs vs c h2⟩
 | .dict kvs,v,c,h=>by simp [PyData.canLay0] at c
theorem zae.is:∀(ds:List PyData) (vs:List V),PyData.canLayAll0 ds=true->zae K H ds vs->zeK K H ds vs
 | [],vs,_,h=>by simp only [zae] at h;simp only [zeK];exact h
 | d::ds,vs,c,h=>by
  simp only [PyData.canLayAll0,Bool.and_eq_true] at c
  simp only [zae] at h;simp only [zeK]
  obtain⟨v,r,e1,h1,h2⟩:=h
  exact⟨v,r,e1,Fz.is d v c.1 h1,zae.is ds r c.2 h2⟩
end
theorem Tp.is{d:PyData}{v:V}(c:PyData.canLay0 d=true)(h:Tp K H d v):Is K H d v:=by
 cases d with
 | list ds =>
  obtain⟨a,vs,e,h1,h2⟩:=h
  simp only [Is]
  exact⟨a,vs,e,h1,zae.is ds vs c h2⟩
 | dict kvs=>simp [PyData.canLay0] at c
 | none=>exact Fz.is _ _ c h
 | bool b=>exact Fz.is _ _ c h
 | int b=>exact Fz.is _ _ c h
 | str b=>exact Fz.is _ _ c h
 | tuple b=>exact Fz.is _ _ c h
theorem Tp.int{i:Int}{v:V}(h:Tp K H (.int i) v):v=.int i:=by simpa [Tp,Fz] using h
theorem Tp.bool{i:Bool}{v:V}(h:Tp K H (.bool i) v):v=.bl i:=by simpa [Tp,Fz] using h
theorem Tp.none{v:V}(h:Tp K H .none v):v=.non:=by simpa [Tp,Fz] using h
theorem Tp.zvq{ds:List PyData}{v:V}(h:Tp K H (.tuple ds) v):∃ a vs,v=.ref a/\TAt H a vs/\zae K H ds vs:=by simpa [Tp,Fz] using h
theorem Tp.tup{ds:List PyData}{v:V}(h:Tp K H (.tuple ds) v):∃ a vs,v=.ref a/\SqT K H a vs/\zae K H ds vs :=
 let⟨a,vs,x,y,z⟩:=Tp.zvq h
 ⟨a,vs,x,.inl y,z⟩
theorem Tp.lst{ds:List PyData}{v:V}(h:Tp K H (.list ds) v):∃ a vs,v=.ref a/\SqL K H a vs/\zae K H ds vs:=h
theorem zcY(i:Int):Fz K H (.int i) (.int i):=by simp [Fz]
theorem zjo(i:Bool):Fz K H (.bool i) (.bl i):=by simp [Fz]
theorem zkj{a:Addr}{vs:List V}{ds:List PyData}(h:TAt H a vs)(f:zae K H ds vs):Fz K H (.tuple ds) (.ref a):=by simp only [Fz];exact⟨a,vs,rfl,h,f⟩
theorem zae.atI{ds:List PyData}{vs:List V}{i:Int}{d:PyData}(h:zae K H ds vs)(e:FL.atI ds i=some d):∃ v,L2.atI vs i=some v/\Fz K H d v:=by
 unfold FL.atI at e
 cases en:FL.ixN ds.length i with
 | none=>rw [en] at e;cases e
 | some j =>
  rw [en] at e
  obtain⟨v,e1,f⟩:=h.get (show ds[j]?=some d from e)
  refine⟨v,?_,f⟩
  unfold L2.atI
  rw [h.len,show L2.ixN ds.length i=some j from en]
  exact e1
theorem zae.cut{ds:List PyData}{vs:List V}(h:zae K H ds vs)(lo hi:Option Int):zae K H (FL.cut ds lo hi) (zoE vs lo hi):=by
 unfold FL.cut zoE
 rw [h.len]
 exact(h.drop _).take _
end
theorem zaX{α:Type}{c:Bool}{r:R α}{d:α}(h:chk c r=.ok d):c=true/\r=.ok d:=by
 cases c with
 | true=>exact⟨rfl,h⟩
 | false=>exact nomatch (show(R.bad:R α)=.ok d from h)
section
variable {X:Cx}
theorem ziu{pins:List (Addr×Obj)}{σ:L2.St}{s:Shared}{H:Hp}{Q:VK}{w:Value}{ds:List D}{vs:List V}(f:zae X.K H ds vs)(q:∀ v H',zaM H H'->Fz X.K H' (.list ds) v->Q v H')
  (h:EP X pins σ (fun v H1=>∃ p,v=.ref p/\H p=none/\H1=upd H p (.lst vs)) w s):EP X pins σ Q w s:=by
 obtain⟨v,H1,I,r,p,rfl,hp,rfl⟩:=h
 refine zs9 ⟨.ref p,_,I,r,p,.lst vs,rfl,zal,trivial,fun o=>?_⟩
 rw [zpK]
 refine q _ _ (zaM.upd hp) ?_
 simp only [Fz]
 exact⟨p,vs,rfl,.inl ⟨o,zal⟩,f.mono (Fzn.of (zaM.upd hp))⟩
theorem zbv:OpR X (binaryOp .Add) (rD X.K zaG):=by
 intro pins s σ H x y v u Q I rx ry h
 obtain⟨dx,dy,d,tx,ty,e,q⟩:=h
 cases dx with
 | int i =>
  cases dy with
  | int j=>cases e;exact zsD pins s σ H x y v u Q I rx ry ⟨i,j,tx.int,ty.int,q _ H (zaM.refl _) (zcY _)⟩
  | _=>exact nomatch (show(R.bad:R D)=.ok d from e)
 | list a =>
  cases dy with
  | list b =>
   obtain⟨c,e⟩:=zaX (show chk (leB (a.length+b.length) lim) (.ok (.list (a++b)))=.ok d from e)
   ·cases e
    obtain⟨l,xs,rfl,sx,fx⟩:=tx.lst
    obtain⟨m,ys,rfl,sy,fy⟩:=ty.lst
    cases rx
    cases ry
    obtain⟨its,r1,⟨o,n,ho,hc,hdn,hd⟩,z1⟩:=I.list sx
    obtain⟨its2,r2,⟨o2,n2,ho2,hc2,hdn2,hd2⟩,z2⟩:=I.list sy
    obtain⟨cls,dd,data,sl⟩:=o
    obtain⟨cls2,dd2,data2,sl2⟩:=o2
    simp only at hc hd hc2 hd2 hdn hdn2
    subst hc hd hc2 hd2 hdn hdn2
    have hz:its.length+its2.length<=sizeLine:=by
     have:=zeA c
     have l0:=zbo
     rw [<- r1.length,<- r2.length,fx.len,fy.len]
     omega
    refine thn (concat_meets (Q:=EP X pins σ fun v H1=>∃ p,v=.ref p/\H p=none/\H1=upd H p (.lst (xs++ys))) ⟨_,ho,rfl⟩ ⟨_,ho2,rfl⟩ PySem.noFill_list_add PySem.seq_list_add PySem.F.slot_list_add PySem.F.entry_list_add (PySem.F.args_list_add_2 _ _)
     (list_addW l m its.toArray its2.toArray n n2 none none sl sl2 (by rw [List.size_toArray,List.size_toArray];exact hz)) ⟨ho,ho2,?_⟩) fun _ _ z=>ziu (fx.app fy) q z
    have ea:its.toArray++its2.toArray=(its++its2).toArray:=by simp
    rw [ea]
    exact⟨.ref _,_,I.zus (t':=s.toks) (r1.append r2) (by rw [List.length_append,r1.length,r2.length];exact hz),rfl,_,rfl,I.fresh,rfl⟩
  | _=>exact nomatch (show(R.bad:R D)=.ok d from e)
 | tuple a =>
  cases dy with
  | tuple b =>
   obtain⟨c,e⟩:=zaX (show chk (leB (a.length+b.length) lim) (.ok (.tuple (a++b)))=.ok d from e)
   ·cases e
    obtain⟨l,xs,rfl,sx,fx⟩:=tx.tup
    obtain⟨m,ys,rfl,sy,fy⟩:=ty.tup
    have hz:xs.length+ys.length<=sizeLine:=by
     have:=zeA c
     have l0:=zbo
     rw [fx.len,fy.len]
     omega
    by_cases x0:xs=[]
    ·subst x0
     have a0:a=[]:=by have:=fx.len;cases a with|nil=>rfl|cons _ _=>simp at this
     subst a0
     cases rx
     cases ry
     obtain⟨its,r1,p1,z1⟩:=I.tuple sx
     obtain⟨its2,r2,p2,z2⟩:=I.tuple sy
     cases r1
     obtain⟨⟨cls,dd,data,sl⟩,ho,hc,n,hd⟩:=id p1
     obtain⟨⟨cls2,dd2,data2,sl2⟩,ho2,hc2,n2,hd2⟩:=id p2
     simp only at hc hd hc2 hd2
     subst hc hd hc2 hd2
     exact concat_meets ⟨_,ho,rfl⟩ ⟨_,ho2,rfl⟩ noFill_tuple_add seq_tuple_add PySem.F.slot_tuple_add PySem.F.entry_tuple_add (PySem.F.args_tuple_add_2 _ _)
      (tuple_addW0 l m #[] its2.toArray n n2 dd dd2 sl sl2 rfl) ⟨ho,ho2,⟨.ref m,H,I.tok _,rfl,q _ H (zaM.refl _) ty⟩⟩
    ·exact zqK pins s σ H _ _ v u Q I rx ry ⟨l,m,xs,ys,rfl,rfl,sx,sy,x0,hz,fun y0=>by
      subst y0
      have b0:b=[]:=by have:=fy.len;cases b with|nil=>rfl|cons _ _=>simp at this
      subst b0
      rw [List.append_nil] at q
      exact q _ H (zaM.refl _) tx,fun _ p hp=>q _ _ (zaM.upd hp) (zkj (.inl zal) ((fx.app fy).mono (Fzn.of (zaM.upd hp))))⟩
  | _=>exact nomatch (show(R.bad:R D)=.ok d from e)
 | _=>exact nomatch (show(R.bad:R D)=.ok d from e)
theorem zn7{f:Value->Value->Sem Value}{C:Int->Int->Prop}{g:Int->Int->Int}{c:Int->Int->Bool}{G:D->D->R D}(ho:OpR X f (rI C fun i j=>.int (g i j)))(hC:∀ i j,c i j=true->C i j)
  (hG:∀ dx dy d,G dx dy=.ok d->∃ i j,dx=.int i/\dy=.int j/\c i j=true/\d=.int (g i j)):OpR X f (rD X.K G):=by
 intro pins s σ H x y v u Q I rx ry h
 obtain⟨dx,dy,d,tx,ty,e,q⟩:=h
 obtain⟨i,j,rfl,rfl,cc,rfl⟩:=hG _ _ _ e
 exact ho pins s σ H x y v u Q I rx ry ⟨i,j,tx.int,ty.int,hC i j cc,q _ H (zaM.refl _) (zcY _)⟩
theorem zou{c:Int->Int->Bool}{g:Int->Int->Int}{G:D->D->R D}(h:∀ i j,G (.int i) (.int j)=chk (c i j) (.ok (.int (g i j))))(h0:∀ dx dy,(¬ ∃ i j,dx=.int i/\dy=.int j)->G dx dy=.bad) :
  ∀ dx dy d,G dx dy=.ok d->∃ i j,dx=.int i/\dy=.int j/\c i j=true/\d=.int (g i j):=by
 intro dx dy d e
 by_cases k:∃ i j,dx=.int i/\dy=.int j
 ·obtain⟨i,j,rfl,rfl⟩:=k
  rw [h] at e
  obtain⟨cc,e⟩:=zaX e
  cases e
  exact⟨i,j,rfl,rfl,cc,rfl⟩
 ·rw [h0 _ _ k] at e;cases e
theorem zgw{dx dy:D}{G:D->D->R D}(hb:∀ dx dy,(∀ i,dx≠.int i)->G dx dy=.bad)(hb2:∀ i dy,(∀ j,dy≠.int j)->G (.int i) dy=.bad)(h:¬ ∃ i j,dx=.int i/\dy=.int j):G dx dy=.bad:=by
 cases dx with
 | int i=>exact hb2 i dy fun j e=>h ⟨i,j,rfl,e⟩
 | _=>exact hb _ _ fun i e=>nomatch e
theorem zi3:OpR X (binaryOp .Sub) (rD X.K zdY):=zn7 (C:=fun _ _=>True) (c:=fun _ _=>true) (g:=fun i j=>i-j)
 (fun pins s σ H x y v u Q I rx ry ⟨i,j,e1,e2,_,q⟩=>zsw pins s σ H x y v u Q I rx ry ⟨i,j,e1,e2,q⟩) (fun _ _ _=>trivial)
 (zou (fun _ _=>rfl) fun dx dy h=>zgw (fun dx dy h=>by cases dx <;> first|rfl|exact absurd rfl (h _)) (fun i dy h=>by cases dy <;> first|rfl|exact absurd rfl (h _)) h)
theorem zoc{i j:Int}(h:zmh i j=true):IntMulOk i j:=by
 have:=zeA h
 have b:∀ k:Int,k.natAbs<2^(k.natAbs.log2+1):=fun k=>Nat.lt_log2_self
 exact mulOk_of (a:=i.natAbs.log2+1) (b:=j.natAbs.log2+1) (b i) (b j) (by omega)
theorem zn5{k:Nat}(hr:zbU k X.A):OpR X (binaryOp .FloorDiv) (rI (fun _ j=>j≠0) fun i j=>.int (i.fdiv j)):=by
 intro pins s σ H x y v u Q I rx ry h
 obtain⟨i,j,rfl,rfl,hc,q⟩:=h
 obtain⟨t,rfl⟩:=rx
 obtain⟨t',rfl⟩:=ry
 exact floordiv_int hc ⟨.int (i.fdiv j),H,I.tok _,⟨_,rfl⟩,q⟩ (.inr (I.pyl (by have:=hr.dp;omega)))
theorem zdc{k:Nat}(hr:zbU k X.A):OpR X (binaryOp .FloorDiv) (rD X.K zaL):=zn7 (C:=fun _ j=>j≠0) (c:=fun i j=>decide (j≠0)) (g:=fun i j=>i.fdiv j) (zn5 hr) (fun i j h=>by simpa using h)
 (zou (fun _ _=>rfl) fun dx dy h=>zgw (fun dx dy h=>by cases dx <;> first|rfl|exact absurd rfl (h _)) (fun i dy h=>by cases dy <;> first|rfl|exact absurd rfl (h _)) h)
theorem zi4:OpR X (binaryOp .Mod) (rD X.K zhh):=zn7 (C:=fun _ j=>j≠0) (c:=fun i j=>decide (j≠0)) (g:=fun i j=>i.fmod j) zqJ (fun i j h=>by simpa using h)
 (zou (fun _ _=>rfl) fun dx dy h=>zgw (fun dx dy h=>by cases dx <;> first|rfl|exact absurd rfl (h _)) (fun i dy h=>by cases dy <;> first|rfl|exact absurd rfl (h _)) h)
theorem ze3:OpR X (binaryOp .Pow) (rD X.K zdy):=zn7 (C:=zvp) (c:=fun i j=>decide (0<=j)&&leB j.toNat 1000000&&leB i.natAbs 18446744073709551615) (g:=fun i j=>i^j.toNat) zsy (fun i j h=>by simp only [Bool.and_eq_true,decide_eq_true_eq,leB_iff] at h;exact⟨h.1.1,by omega,by omega⟩)
 (zou (fun _ _=>rfl) fun dx dy h=>zgw (fun dx dy h=>by cases dx <;> first|rfl|exact absurd rfl (h _)) (fun i dy h=>by cases dy <;> first|rfl|exact absurd rfl (h _)) h)
theorem zkA:UnR X (unaryOp .USub) (rD1 X.K zhf):=by
 intro pins s σ H x v Q I rx h
 obtain⟨dx,d,tx,e,q⟩:=h
 cases dx with
 | int i=>cases e;exact zrH pins s σ H x v Q I rx ⟨i,tx.int,q _ H (zaM.refl _) (zcY _)⟩
 | _=>exact nomatch (show(R.bad:R D)=.ok d from e)
theorem zvV(hu:X.A.units+64<cLine):OpR X (compareOp .Eq) (rD X.K eqD):=by
 intro pins s σ H x y v u Q I rx ry h
 obtain⟨dx,dy,d,tx,ty,e,q⟩:=h
 obtain⟨c,e⟩:=zaX e
 ·cases e
  simp only [Bool.and_eq_true] at c
  exact zsB hu pins s σ H x y v u Q I rx ry ⟨dx,dy,tx.is (SeqAt.canLay_of_shaped c.1),ty.is (SeqAt.canLay_of_shaped c.2),c.1,c.2,q _ H (zaM.refl _) (zjo _)⟩
theorem zvQ(hu:X.A.units+64<cLine):OpR X (compareOp .NotEq) (rD X.K neD):=by
 intro pins s σ H x y v u Q I rx ry h
 obtain⟨dx,dy,d,tx,ty,e,q⟩:=h
 obtain⟨c,e⟩:=zaX e
 ·cases e
  simp only [Bool.and_eq_true] at c
  exact zsz hu pins s σ H x y v u Q I rx ry ⟨dx,dy,tx.is (SeqAt.canLay_of_shaped c.1),ty.is (SeqAt.canLay_of_shaped c.2),c.1,c.2,q _ H (zaM.refl _) (zjo _)⟩
theorem zhm:∀ a b,FL.lexLt a b=HT.lexLt a b
 | [],[]=>rfl
 | [],_::_=>rfl
 | _::_,[]=>rfl
 | x::xs,y::ys=>by unfold FL.lexLt HT.lexLt;rw [zhm xs ys]
theorem zuj{op:CmpOp}{p:Int->Int->Bool}{q:List Int->List Int->Bool}(hi:OpR X (compareOp op) (rI0 fun i j=>.bl (p i j)))
  (ht:∀{s:Shared} {l b:Addr} {items items2:Array Value} {ns ms:List Int} {Q:Value->Shared->Prop},IsTup s.heap l items->IsTup s.heap b items2->IntsAre items.toList ns->IntsAre items2.toList ms ->
   Q (.bool (q ns ms)) s->wpAny (model X.prog X.w) X.A (compareOp op (.ref l) (.ref b)) Q X.xe s):OpR X (compareOp op) (rD X.K (zvj p q)):=by
 intro pins s σ H x y v u Q I rx ry h
 obtain⟨dx,dy,d,tx,ty,e,k⟩:=h
 cases dx with
 | int i =>
  cases dy with
  | int j=>cases e;exact hi pins s σ H x y v u Q I rx ry ⟨i,j,tx.int,ty.int,k _ H (zaM.refl _) (zjo _)⟩
  | _=>exact nomatch (show(R.bad:R D)=.ok d from e)
 | tuple a =>
  cases dy with
  | tuple b =>
   replace e:((R.of (intsOf a)).bind fun x=>(R.of (intsOf b)).bind fun y=>R.ok (PyData.bool (q x y)))=.ok d:=e
   cases ea:intsOf a with
   | none=>rw [ea] at e;cases e
   | some ns =>
    cases eb:intsOf b with
    | none=>rw [ea,eb] at e;cases e
    | some ms =>
     rw [ea,eb] at e
     cases e
     obtain⟨l,xs,rfl,sx,fx⟩:=tx.tup
     obtain⟨m,ys,rfl,sy,fy⟩:=ty.tup
     cases rx
     cases ry
     obtain⟨rfl,_⟩:=fx.ints ea
     obtain⟨rfl,_⟩:=fy.ints eb
     obtain⟨its,r1,p1,_⟩:=I.tuple sx
     obtain⟨its2,r2,p2,_⟩:=I.tuple sy
     exact ht p1 p2 (intsAre_of r1) (intsAre_of r2) ⟨.bl (q ns ms),H,I,rfl,k _ H (zaM.refl _) (zjo _)⟩
  | _=>exact nomatch (show(R.bad:R D)=.ok d from e)
 | _=>exact nomatch (show(R.bad:R D)=.ok d from e)
theorem zvR(hu:X.A.units+64<cLine):OpR X (compareOp .Lt) (rD X.K ltD):=zuj zuf fun p1 p2 i1 i2 h=>HT.zkT p1 p2 i1 i2 (by omega) (by rw [<- zhm];exact h)
theorem zl5{op:CmpOp}{p:Int->Int->Bool}(hi:OpR X (compareOp op) (rI0 fun i j=>.bl (p i j))):OpR X (compareOp op) (rD X.K (ztC p)):=by
 intro pins s σ H x y v u Q I rx ry h
 obtain⟨dx,dy,d,tx,ty,e,k⟩:=h
 cases dx with
 | int i =>
  cases dy with
  | int j=>cases e;exact hi pins s σ H x y v u Q I rx ry ⟨i,j,tx.int,ty.int,k _ H (zaM.refl _) (zjo _)⟩
  | _=>exact nomatch (show(R.bad:R D)=.ok d from e)
 | _=>exact nomatch (show(R.bad:R D)=.ok d from e)
theorem zvS(hu:X.A.units+64<cLine):OpR X (compareOp .LtE) (rD X.K leD):=zl5 zug
theorem zvT(hu:X.A.units+64<cLine):OpR X (compareOp .Gt) (rD X.K gtD):=zl5 zuh
theorem zvU(hu:X.A.units+64<cLine):OpR X (compareOp .GtE) (rD X.K geD):=zl5 zui
theorem zcV:IxR X (rD X.K ixD):=by
 intro value slice pins s σ H x y v u Q I rx ry h hs
 obtain⟨dx,dy,d,tx,ty,e,q⟩:=h
 cases dx with
 | list a =>
  cases dy with
  | int i =>
   replace e:R.of (FL.atI a i)=.ok d:=e
   cases ea:FL.atI a i with
   | none=>rw [ea] at e;cases e
   | some d' =>
    rw [ea] at e
    cases e
    obtain⟨l,xs,rfl,sx,fx⟩:=tx.lst
    obtain⟨w,ew,fw⟩:=fx.atI ea
    exact zqY value slice pins s σ H _ y v u Q I rx ry ⟨l,xs,i,w,rfl,ty.int,sx,ew,q _ H (zaM.refl _) fw⟩ hs
  | _=>exact nomatch (show(R.bad:R D)=.ok d from e)
 | tuple a =>
  cases dy with
  | int i =>
   replace e:R.of (FL.atI a i)=.ok d:=e
   cases ea:FL.atI a i with
   | none=>rw [ea] at e;cases e
   | some d' =>
    rw [ea] at e
    cases e
    obtain⟨l,xs,rfl,sx,fx⟩:=tx.tup
    obtain⟨w,ew,fw⟩:=fx.atI ea
    exact zsW value slice pins s σ H _ y v u Q I rx ry ⟨l,xs,i,w,rfl,ty.int,sx,ew,q _ H (zaM.refl _) fw⟩ hs
  | _=>exact nomatch (show(R.bad:R D)=.ok d from e)
 | _=>exact nomatch (show(R.bad:R D)=.ok d from e)
theorem zdG:zuZ X (fun x H Q=>∃ d k,Tp X.K H d x/\zgc d=.ok k/\Q k H):=by
 intro pins s σ H x v Q I rx h
 obtain⟨d,k,tx,e,q⟩:=h
 refine zrI pins s σ H x v Q I rx ⟨k,?_,q⟩
 cases d with
 | none=>have:=tx.none;subst this;cases e;rfl
 | bool b=>have:=tx.bool;subst this;cases e;rfl
 | int b=>have:=tx.int;subst this;cases e;rfl
 | list b =>
  obtain⟨a,vs,rfl,sx,fx⟩:=tx.lst
  cases e
  refine .inl ⟨vs,sx,?_⟩
  have:=fx.len
  cases b <;> cases vs <;> simp_all
 | tuple b =>
  obtain⟨a,vs,rfl,sx,fx⟩:=tx.tup
  cases e
  refine .inr (.inl ⟨vs,sx,?_⟩)
  have:=fx.len
  cases b <;> cases vs <;> simp_all
 | _=>exact nomatch (show(R.bad:R Bool)=.ok k from e)
end
end
section
variable [Cs]
theorem ze4:fillsNumberSlot (.type "tuple") "mul"=pure false :=
 PySem.fillsNumberSlot_seq (id:="tuple.__mul__") (r:=some (.builtin "tuple.__rmul__")) PySem.F.slot_tuple_mul.lookup (by decide +kernel) PySem.F.slot_tuple_rmul.lookup (by decide +kernel)
theorem zh1:seqRepeat? (.type "tuple")=pure (some (.builtin "tuple.__mul__")):=by
 unfold seqRepeat?
 rw [PySem.seqSlot_of (T:="tuple") (name:="__mul__") (id:="tuple.__mul__") PySem.F.slot_tuple_mul.lookup (by decide +kernel),PySem.seqSlot_of (T:="tuple") (name:="__rmul__") (id:="tuple.__rmul__") PySem.F.slot_tuple_rmul.lookup (by decide +kernel)]
 rfl
section
open PySem.SeqAt
open PySem.AutoSeq1 (wpAny_loadPart')
open PySem.MeetsSeq PySem.MeetsSeq2 PySem.MeetsSeq3
theorem zgk(a:Int)(t:Tok)(l:Addr)(items:Array Value)(n:Nat)(dd:Option Addr)(sl:Array (Option Value)) :
  Meets (Builtin.«int.__rmul__» ⟨[.int a t,.ref l],[]⟩) (fun _ R s=>s.heap.get? l=some { cls:=.type "tuple",dict:=dd,data:=.seq items n,slots:=sl }/\R (.ok (.ret Value.notImplemented)) s) :=
 .of_wp fun prog w A R s h=>by obtain⟨hp,g,d,tk,os⟩:=s;obtain⟨hl,h⟩:=h;wp_walk;exact⟨_,rfl,h⟩
theorem zkD(l:Addr)(items:Array Value)(n:Nat)(dd:Option Addr)(sl:Array (Option Value))(k:Int)(t:Tok)(h0:items.isEmpty=false)(h1:2<=k)(h2:k<2^62)(h3:items.size*k.toNat<=sizeLine) :
  Meets (Builtin.«tuple.__mul__» ⟨[.ref l,.int k t],[]⟩) (fun _ R s=>s.heap.get? l=some { cls:=.type "tuple",dict:=dd,data:=.seq items n,slots:=sl } /\
   R (.ok (.ret (.ref s.heap.objs.size))) { s with heap:=s.heap.push { cls:=.type "tuple",data:=.seq ((List.replicate k.toNat items).foldl (·++·) #[]) } }) :=
 .of_wp fun prog w A R s h=>by
  obtain⟨hp,g,d,tk,os⟩:=s;obtain⟨hl,h⟩:=h
  have f1:=AutoSeq1.idx_int
  have i0:(items.size:Int)*k<=(sizeLine:Int):=by
   have e:((items.size*k.toNat:Nat):Int)=(items.size:Int)*k:=by rw [Int.natCast_mul,Int.toNat_of_nonneg (by omega)]
   rw [<- e]
   exact Int.ofNat_le.mpr h3
  have hA:¬ (decide (k < -2^63)||decide (k ≥ 2^63))=true:=by
   simp only [Bool.or_eq_true,decide_eq_true_eq,not_or]
   constructor <;> omega
  have hB:¬ (items.isEmpty||k==1)=true:=by
   rw [h0]
   simp only [Bool.false_or,beq_iff_eq]
   omega
  have hC:¬ (decide (k<=0)||items.isEmpty)=true:=by
   rw [h0]
   simp only [Bool.or_false,decide_eq_true_eq]
   omega
  have sz:(sizeLine:Int)<=16777216:=by rw [sizeLine_eq];decide
  have hD:¬ (items.size:Int)*k > (2^63-1) / 8:=by omega
  have hE:¬ Builtin.Tuple.tupleTooMany ((items.size:Int)*k)=true:=by
   unfold Builtin.Tuple.tupleTooMany
   simp only [decide_eq_true_eq]
   omega
  have hs:sizeOk (.seq (List.foldl (fun x1 x2=>x1++x2) #[] (List.replicate k.toNat items))):=by
   obtain⟨its⟩:=items
   have:=foldl_rep its k.toNat []
   rw [List.nil_append] at this
   rw [this]
   show(List.replicate k.toNat its).flatten.toArray.size<=sizeLine
   rw [List.size_toArray,len_rep,Nat.mul_comm]
   exact h3
  wp_walk
  rw [if_neg hA]
  wp_walk using wpAny_loadPart' hl
  rw [if_neg hB]
  wp_walk
  rw [if_neg hC]
  wp_walk
  rw [if_neg hD]
  wp_walk
  rw [if_neg (show ¬ (List.foldl (fun x1 x2=>x1++x2) #[] (List.replicate k.toNat items)).size > sizeLine from Nat.not_lt.mpr hs)]
  wp_walk
  exact⟨_,rfl,h⟩
end
section
variable {prog:Program}{w:World}{A:Around}{E:Value->Shared->Prop}{s:Shared}
theorem ziV{t sl:Addr}{items:Array Value}{vl vu:Value}{lo hi:Option Int}{Q:Value->Shared->Prop}(ht:IsTup s.heap t items)(hs:s.heap.IsSliceOf sl vl vu .none)(pl:IsPart vl lo)(pu:IsPart vu hi)
  (hw:HT.sIx items.size 0 lo=0/\HT.sIx items.size items.size hi=items.size)(h:Q (.ref t) s):wpAny (model prog w) A (getItem (.ref t) (.ref sl)) Q E s:=by
 obtain⟨os,hos,hcs,hds⟩:=id hs
 have hTs:s.TypeIs (.ref sl) "slice":=⟨os,hos,hcs⟩
 unfold getItem
 try with_reducible refine wpAny_holding ?_
 first|refine wpAny_bind (wpAny_pure ?_)|skip
 refine wpAny_bind (wpAny_sequenceKey ht.typeIs (by decide) ?_)
 refine wpAny_bind (wpAny_callSpecial?_slot (name:=Str.ofString "__getitem__") ht.typeIs PyProof.Rows.slot_tuple_getitem
  (wpAny_call_entry PyProof.Rows.slot_tuple_getitem ht.typeIs entry_tuple_getitem ?_ (args_tuple_getitem _ _)))
 show wpAny _ _ (Builtin.Tuple.tupleItemsOf (.ref t) >>= _) _ _ s
 refine wpAny_bind (tupleItemsOf_ ht ?_)
 refine wpAny_bind (wpAny_typeOf hTs ?_)
 rw [if_pos (by decide)]
 refine wpAny_bind (HT.zcW hs pl pu ?_)
 show wpAny _ _ (if(((HT.sIx items.size 0 lo:Nat):Int)==0&&(1:Int)==1&&(HT.sIx items.size items.size hi-HT.sIx items.size 0 lo)==items.size)=true then _ else _) _ _ s
 rw [hw.1,hw.2,if_pos (by simp)]
 refine wpAny_bind (m:=Builtin.Tuple.tupleIsExact _) ?_
 unfold Builtin.Tuple.tupleIsExact
 refine wpAny_bind (wpAny_typeOf ht.typeIs (wpAny_pure ?_))
 rw [if_pos (by decide)]
 exact wpAny_bind (wpAny_rule (wpAny_bind (wpAny_pure (wpAny_pure ⟨_,rfl,wpAny_pure h⟩))))
end
section
variable {X:Cx}
theorem zdb:OpR X (binaryOp .Mult) (rD X.K zca):=by
 intro pins s σ H x y v u Q I rx ry h
 obtain⟨dx,dy,d,tx,ty,e,q⟩:=h
 cases dx with
 | int i =>
  cases dy with
  | int j =>
   obtain⟨c,e⟩:=zaX (show chk (zmh i j) (.ok (.int (i*j)))=.ok d from e)
   cases e
   exact zqI pins s σ H x y v u Q I rx ry ⟨i,j,tx.int,ty.int,zoc c,q _ H (zaM.refl _) (zcY _)⟩
  | _=>exact nomatch (show(R.bad:R D)=.ok d from e)
 | tuple a =>
  cases dy with
  | int k =>
   obtain⟨c,e⟩:=zaX (show chk (!a.isEmpty&&leB 2 k.toNat&&leB k.toNat 1000000&&leB (a.length*k.toNat) lim) (.ok (.tuple (List.replicate k.toNat a).flatten))=.ok d from e)
   cases e
   simp only [Bool.and_eq_true,leB_iff] at c
   obtain⟨⟨⟨c0,c1⟩,c2⟩,c3⟩:=c
   obtain⟨l,xs,rfl,sx,fx⟩:=tx.tup
   have:=ty.int
   subst this
   cases rx
   obtain⟨t,rfl⟩:=ry
   obtain⟨its,r1,p1,z1⟩:=I.tuple sx
   obtain⟨⟨cls,dd,data,sl⟩,ho,hc,n,hd⟩:=id p1
   simp only at hc hd
   subst hc hd
   have hl:its.length=a.length:=by rw [<- r1.length,fx.len]
   have hz:its.length*k.toNat<=sizeLine:=by rw [hl];exact Nat.le_trans c3 zbo
   have he:its.toArray.isEmpty=false:=by
    cases its with
    | nil=>simp only [List.length_nil] at hl;cases a with|nil=>simp at c0|cons _ _=>simp at hl
    | cons _ _=>rfl
   refine wpAny_binaryOp_repeat_ref (T:="tuple") (U:="int") (by decide) ⟨_,ho,rfl⟩ (fun s'=>typeIs_int s' k t) ze4 PySem.F.fills_int_mul PySem.F.slot_int_rmul zh1 PySem.F.slot_int_index.lookup
    (call_meets PySem.F.slot_int_rmul (typeIs_int s k t) PySem.F.entry_int_rmul (PySem.F.args_int_rmul_2 _ _) (zgk k t l its.toArray n dd sl)
     ⟨ho,rfl,⟨_,ho,rfl⟩,call_meets PySem.F.slot_tuple_mul ⟨_,ho,rfl⟩ PySem.F.entry_tuple_mul (PySem.F.args_tuple_mul_2 _ _) (zkD l its.toArray n dd sl k t he (by omega) (by omega) (by rw [List.size_toArray];exact hz)) ⟨ho,?_⟩⟩)
   have en:=foldl_rep its k.toNat []
   rw [List.nil_append] at en
   rw [en]
   have hp:H s.heap.objs.size=none:=I.hok.fresh (Nat.le_refl _)
   refine⟨.ref s.heap.objs.size,_,I.laid (t':=s.toks) (o:=.tup (List.replicate k.toNat xs).flatten) (fun b ob q=>Heap.get?_push_of_some _ q) (Nat.le_refl _) ⟨by rw [len_rep,Nat.mul_comm,r1.length];exact hz,_,r1.rep k.toNat,IsTup.new _ _⟩,rfl,
    q _ _ (zaM.upd hp) (zkj (.inl zal) ((fx.rep k.toNat).mono (Fzn.of (zaM.upd hp))))⟩
  | _=>exact nomatch (show(R.bad:R D)=.ok d from e)
 | _=>exact nomatch (show(R.bad:R D)=.ok d from e)
theorem zmR{α:Type}{ds:List α}{lo hi:Option Int}(h1:FL.sIx ds.length 0 lo=0)(h2:FL.sIx ds.length ds.length hi=ds.length):FL.cut ds lo hi=ds:=by
 unfold FL.cut
 rw [h1,h2]
 simp
theorem znx:SlR X (ztW X.K):=by
 intro pins s σ H x v vl vu lo hi sl Q I rx hs pl pu h
 obtain⟨dx,d,tx,e,q⟩:=h
 cases dx with
 | list a =>
  cases e
  obtain⟨l,xs,rfl,sx,fx⟩:=tx.lst
  obtain⟨T,id,h1,h2,h3⟩:=zpT pins s σ H _ v vl vu lo hi sl (fun v H1=>∃ p,v=.ref p/\H p=none/\H1=upd H p (.lst (zoE xs lo hi))) I rx hs pl pu ⟨l,xs,rfl,sx,fun p hp=>⟨p,rfl,hp,rfl⟩⟩
  exact⟨T,id,h1,h2,thn h3 fun _ _ z=>ziu (fx.cut lo hi) q z⟩
 | tuple a =>
  cases e
  obtain⟨l,xs,rfl,sx,fx⟩:=tx.tup
  by_cases w:HT.sIx xs.length 0 lo=0/\HT.sIx xs.length xs.length hi=xs.length
  ·cases rx
   obtain⟨its,r,ht,hz⟩:=I.tuple sx
   have hlen:its.toArray.size=xs.length:=by rw [List.size_toArray];exact r.length.symm
   refine⟨"tuple",_,PyProof.Rows.slot_tuple_getitem.lookup,ht.typeIs,ziV ht hs pl pu (by rw [hlen];exact w) ⟨.ref l,H,I,rfl,q _ H (zaM.refl _) ?_⟩⟩
   rw [fx.len] at w
   rw [zmR w.1 w.2]
   exact tx
  ·exact zrS pins s σ H _ v vl vu lo hi sl Q I rx hs pl pu ⟨l,xs,rfl,sx,w,fun p hp=>q _ _ (zaM.upd hp) (zkj (.inl zal) ((fx.cut lo hi).mono (Fzn.of (zaM.upd hp))))⟩
 | _=>exact nomatch (show(R.bad:R D)=.ok d from e)
end
end
section
variable [Cs]
theorem zjN{G:D->D->R D}{g:Int->Int->D}(hg:∀ i j,G (.int i) (.int j)=.ok (g i j))(h0:∀ dx dy,(¬ ∃ i j,dx=.int i/\dy=.int j)->G dx dy=.bad){ds:List D}{d:D}(e:two G ds=.ok d):∃ i j,ds=[.int i,.int j]/\d=g i j:=by
 cases ds with
 | nil=>exact nomatch (show(R.bad:R D)=.ok d from e)
 | cons x r =>
  cases r with
  | nil=>exact nomatch (show(R.bad:R D)=.ok d from e)
  | cons y r =>
   cases r with
   | nil =>
    replace e:G x y=.ok d:=e
    by_cases k:∃ i j,x=.int i/\y=.int j
    ·obtain⟨i,j,rfl,rfl⟩:=k
     rw [hg] at e
     cases e
     exact⟨i,j,rfl,rfl⟩
    ·rw [h0 _ _ k] at e;cases e
   | cons _ _=>exact nomatch (show(R.bad:R D)=.ok d from e)
theorem znq{ds:List D}{d:D}(e:two zmk ds=.ok d):∃ i j,ds=[.int i,.int j]/\d=.int (if j > i then j else i) :=
 zjN (fun _ _=>rfl) (fun dx dy h=>zgw (fun dx dy h=>by cases dx <;> first|rfl|exact absurd rfl (h _)) (fun i dy h=>by cases dy <;> first|rfl|exact absurd rfl (h _)) h) e
theorem znp{ds:List D}{d:D}(e:two zmj ds=.ok d):∃ i j,ds=[.int i,.int j]/\d=.int (if j<i then j else i) :=
 zjN (fun _ _=>rfl) (fun dx dy h=>zgw (fun dx dy h=>by cases dx <;> first|rfl|exact absurd rfl (h _)) (fun i dy h=>by cases dy <;> first|rfl|exact absurd rfl (h _)) h) e
section
variable {X:Cx}
def CallD(X:Cx)(f:Value)(g:D->R D):Prop:=zc3 X f (rD0 X.K g)
theorem CallD.ds{f:Value}{g:D->R D}(h:CallD X f g):zc3 X f (rDs X.K (one g)):=fun pins s σ H xs us Q I r ⟨ds,d,fz,e,q⟩=>by
 cases ds with
 | nil=>exact nomatch (show(R.bad:R D)=.ok d from e)
 | cons d0 r0 =>
  cases r0 with
  | nil =>
   simp only [zae] at fz
   obtain⟨v,r',rfl,fv,e2⟩:=fz
   subst e2
   exact h pins s σ H _ us Q I r ⟨v,d0,d,rfl,fv.tp,e,q⟩
  | cons _ _=>exact nomatch (show(R.bad:R D)=.ok d from e)
theorem zk8:CallD X (.builtin "len") zez:=by
 intro pins s σ H xs us Q I r h
 obtain⟨x,dx,d,rfl,tx,e,q⟩:=h
 cases dx with
 | list a=>obtain⟨p,vs,rfl,sx,fx⟩:=tx.lst;cases e;exact zeT pins s σ H _ us Q I r ⟨p,vs,rfl,.inl sx,by rw [fx.len];exact q _ H (zaM.refl _) (zcY _)⟩
 | tuple a=>obtain⟨p,vs,rfl,sx,fx⟩:=tx.tup;cases e;exact zeT pins s σ H _ us Q I r ⟨p,vs,rfl,.inr sx,by rw [fx.len];exact q _ H (zaM.refl _) (zcY _)⟩
 | _=>exact nomatch (show(R.bad:R D)=.ok d from e)
theorem zrn:CallD X (.builtin "abs") zm8:=by
 intro pins s σ H xs us Q I r h
 obtain⟨x,dx,d,rfl,tx,e,q⟩:=h
 cases dx with
 | int i=>have:=tx.int;subst this;cases e;exact zoK pins s σ H _ us Q I r ⟨i,rfl,q _ H (zaM.refl _) (zcY _)⟩
 | _=>exact nomatch (show(R.bad:R D)=.ok d from e)
theorem ztk(hc:X.calm=true):CallD X (.builtin "all") zto:=by
 intro pins s σ H xs us Q I r h
 obtain⟨x,dx,d,rfl,tx,e,q⟩:=h
 cases dx with
 | list a =>
  obtain⟨p,vs,rfl,sx,fx⟩:=tx.lst
  replace e:((R.of (boolsOf a)).bind fun x=>R.ok (PyData.bool (x.all id)))=.ok d:=e
  cases ea:boolsOf a with
  | none=>rw [ea] at e;cases e
  | some ns =>
   rw [ea] at e
   cases e
   obtain⟨rfl,_⟩:=fx.bools ea
   exact zoJ hc pins s σ H _ us Q I r ⟨p,ns,rfl,sx,q _ H (zaM.refl _) (zjo _)⟩
 | _=>exact nomatch (show(R.bad:R D)=.ok d from e)
theorem zti:CallD X (.type "list") zdM:=by
 intro pins s σ H xs us Q I r h
 obtain⟨x,dx,d,rfl,tx,e,q⟩:=h
 cases dx with
 | list a =>
  obtain⟨p,vs,rfl,sx,fx⟩:=tx.lst
  cases e
  exact thn (zdj pins s σ H _ us (fun v H1=>∃ p,v=.ref p/\H p=none/\H1=upd H p (.lst vs)) I r ⟨p,vs,rfl,.inl sx,fun l hl=>⟨l,rfl,hl,rfl⟩⟩) fun _ _ z=>ziu fx q z
 | tuple a =>
  obtain⟨p,vs,rfl,sx,fx⟩:=tx.tup
  cases e
  exact thn (zdj pins s σ H _ us (fun v H1=>∃ p,v=.ref p/\H p=none/\H1=upd H p (.lst vs)) I r ⟨p,vs,rfl,.inr sx,fun l hl=>⟨l,rfl,hl,rfl⟩⟩) fun _ _ z=>ziu fx q z
 | _=>exact nomatch (show(R.bad:R D)=.ok d from e)
theorem zhC:CallD X (.type "tuple") zbh:=by
 intro pins s σ H xs us Q I r h
 obtain⟨x,dx,d,rfl,tx,e,q⟩:=h
 cases dx with
 | list a =>
  obtain⟨p,vs,rfl,sx,fx⟩:=tx.lst
  cases e
  exact zej pins s σ H _ us Q I r ⟨p,vs,rfl,.inl ⟨sx,fun l hl=>q _ _ (zaM.upd hl) (zkj (.inl zal) (fx.mono (Fzn.of (zaM.upd hl))))⟩⟩
 | tuple a =>
  obtain⟨p,vs,rfl,sx,fx⟩:=tx.tup
  cases e
  exact zej pins s σ H _ us Q I r ⟨p,vs,rfl,.inr ⟨sx,q _ H (zaM.refl _) tx⟩⟩
 | _=>exact nomatch (show(R.bad:R D)=.ok d from e)
theorem zth(hc:X.calm=true):zc3 X (.builtin "max") (rDs X.K (two zmk)):=by
 intro pins s σ H xs us Q I r h
 obtain⟨ds,d,fz,e,q⟩:=h
 obtain⟨i,j,rfl,e2⟩:=znq e
 ·simp only [zae,Fz] at fz
  obtain⟨_,_,rfl,rfl,_,_,rfl,rfl,rfl⟩:=fz
  cases e2
  exact zmW hc pins s σ H _ us Q I r ⟨i,j,rfl,q _ H (zaM.refl _) (zcY _)⟩
theorem ztg(hc:X.calm=true):zc3 X (.builtin "min") (rDs X.K (two zmj)):=by
 intro pins s σ H xs us Q I r h
 obtain⟨ds,d,fz,e,q⟩:=h
 obtain⟨i,j,rfl,e2⟩:=znp e
 ·simp only [zae,Fz] at fz
  obtain⟨_,_,rfl,rfl,_,_,rfl,rfl,rfl⟩:=fz
  cases e2
  exact zmV hc pins s σ H _ us Q I r ⟨i,j,rfl,q _ H (zaM.refl _) (zcY _)⟩
end
theorem Tp.ty{K:PySem.W.Frag}{H:Hp}{d:D}{x:V}(c:zu6 d=true)(h:Tp K H d x):Ty K H x (.type (tyOf d)):=by
 cases d with
 | none=>have:=h.none;subst this;exact .non
 | bool b=>have:=h.bool;subst this;exact .bl b
 | int b=>have:=h.int;subst this;exact .int b
 | str b =>
  have:x=.str b:=by simpa [Tp,Fz] using h
  subst this;exact .str b
 | list b=>obtain⟨_,_,rfl,s,_⟩:=h.lst;exact .lst s
 | tuple b=>obtain⟨_,_,rfl,s,_⟩:=h.tup;exact .tup s
 | dict b=>cases c
def zjC(T:String):Prop:=∀(K:PySem.W.Frag) (d:D),PySem.W.kitOne K (.type (tyOf d)) (.type T)=some (isI T d)
theorem zkb{T:String}(h0:KC.zdN "NoneType" T=some (isI T .none)) (h1:∀ b,KC.zdN "bool" T=some (isI T (.bool b))) (h2:∀ b,KC.zdN "int" T=some (isI T (.int b))) (h3:∀ b,KC.zdN "str" T=some (isI T (.str b))) (h4:∀ b,KC.zdN "list" T=some (isI T (.list b)))
  (h5:∀ b,KC.zdN "tuple" T=some (isI T (.tuple b))) (h6:∀ b,KC.zdN "dict" T=some (isI T (.dict b))):zjC T:=fun K d=>by
 cases d with
 | none=>exact h0
 | bool b=>exact h1 b
 | int b=>exact h2 b
 | str b=>exact h3 b
 | list b=>exact h4 b
 | tuple b=>exact h5 b
 | dict b=>exact h6 b
theorem zmu:zjC "int":=zkb (by decide +kernel) (fun _=>(by decide +kernel:KC.zdN "bool" "int"=some (isI "int" (.bool true)))) (fun _=>(by decide +kernel:KC.zdN "int" "int"=some (isI "int" (.int 0)))) (fun _=>(by decide +kernel:KC.zdN "str" "int"=some (isI "int" (.str "")))) (fun _=>(by decide +kernel:KC.zdN "list" "int"=some (isI "int" (.list [])))) (fun _=>(by decide +kernel:KC.zdN "tuple" "int"=some (isI "int" (.tuple [])))) (fun _=>(by decide +kernel:KC.zdN "dict" "int"=some (isI "int" (.dict []))))
theorem zkc:zjC "bool":=zkb (by decide +kernel) (fun _=>(by decide +kernel:KC.zdN "bool" "bool"=some (isI "bool" (.bool true)))) (fun _=>(by decide +kernel:KC.zdN "int" "bool"=some (isI "bool" (.int 0)))) (fun _=>(by decide +kernel:KC.zdN "str" "bool"=some (isI "bool" (.str "")))) (fun _=>(by decide +kernel:KC.zdN "list" "bool"=some (isI "bool" (.list [])))) (fun _=>(by decide +kernel:KC.zdN "tuple" "bool"=some (isI "bool" (.tuple [])))) (fun _=>(by decide +kernel:KC.zdN "dict" "bool"=some (isI "bool" (.dict []))))
theorem kit_tuple:zjC "tuple":=zkb (by decide +kernel) (fun _=>(by decide +kernel:KC.zdN "bool" "tuple"=some (isI "tuple" (.bool true)))) (fun _=>(by decide +kernel:KC.zdN "int" "tuple"=some (isI "tuple" (.int 0)))) (fun _=>(by decide +kernel:KC.zdN "str" "tuple"=some (isI "tuple" (.str "")))) (fun _=>(by decide +kernel:KC.zdN "list" "tuple"=some (isI "tuple" (.list [])))) (fun _=>(by decide +kernel:KC.zdN "tuple" "tuple"=some (isI "tuple" (.tuple [])))) (fun _=>(by decide +kernel:KC.zdN "dict" "tuple"=some (isI "tuple" (.dict []))))
theorem zoj:zjC "list":=zkb (by decide +kernel) (fun _=>(by decide +kernel:KC.zdN "bool" "list"=some (isI "list" (.bool true)))) (fun _=>(by decide +kernel:KC.zdN "int" "list"=some (isI "list" (.int 0)))) (fun _=>(by decide +kernel:KC.zdN "str" "list"=some (isI "list" (.str "")))) (fun _=>(by decide +kernel:KC.zdN "list" "list"=some (isI "list" (.list [])))) (fun _=>(by decide +kernel:KC.zdN "tuple" "list"=some (isI "list" (.tuple [])))) (fun _=>(by decide +kernel:KC.zdN "dict" "list"=some (isI "list" (.dict []))))
section
variable {K:PySem.W.Frag}{X:Cx}{a:Expr}{f:EF}{pos:Pos}
theorem zr8{T:String}{tn:Str}{p p2:Pos}(kt:zjC T)(hg:Gl X "isinstance") (hm:X.mg "isinstance"=none) (hg2:Gl X tn) (hm2:X.mg tn=none) (hv2:bootBuiltins tn=some (.type T)) (ha:PV K X a f) (hn:tn ≠ "__name__":=by decide) (hd:(tn==("__debug__":Str))=false:=by decide)
  (hs1:starEach [a,.Name tn p2] X.env=(false,eval a X.env)::starEach [.Name tn p2] X.env:=by exact FL.se rfl) (hs2:starEach [.Name tn p2] X.env=(false,eval (.Name tn p2) X.env)::starEach [] X.env:=by exact FL.se rfl) (hpl:(backTo pos (starEach [.Name tn p2] X.env)).any (·.1)=false:=by exact FL.sp rfl) :
  PV K X (.Call (.Name "isinstance" p) [a,.Name tn p2] [] pos) (e1 (zbT T) f):=.mk fun hK=>by
 subst hK
 refine(zj3 (x:="isinstance") (id:="isinstance") zoI hg hm KC.Bt.isinstance (zbc (ha rfl) (zbc (zub hg2 hm2 hv2 hn hd) zdB hs2) hs1) (by decide) (by decide) hs1 hpl).weak fun σ H Q=>?_
 rintro⟨ρ,rel,q⟩
 refine goV rel q fun dx ρ1 x H1 rel1 st1 fx q1=>?_
 obtain⟨d,ed,q3⟩:=q1.zc0
 obtain⟨c,ed⟩:=zaX ed
 cases ed
 exact⟨x,.ty T,_,_,rfl,(fun z=>nomatch z),fx.tp.ty c,kt X.K dx,q3.now rel1 _ (zjo _)⟩
theorem zg7{g:D->R D}{f:EF}{e:Expr}(h:PV K X e (zaj (one g) (zab f zam))):PV K X e (e1 g f):=.mk fun hK=>(h hK).weak fun σ H Q=>by
 rintro⟨ρ,rel,q⟩
 refine⟨ρ,rel,?_⟩
 have:zaj (one g) (zab f zam) ρ=e1 g f ρ:=by
  unfold zaj zab zam e1
  cases f ρ with
  | ok x=>rfl
  | _=>rfl
 rw [this]
 exact q
end
end
section
variable [Cs]
section
variable {K:PySem.W.Frag}{ρ ρ1:En}{σ:L2.St}{H H1:Hp}{i:Nat}{d:D}
theorem zfF(h:zax ρ i=.ok d):∃ p,ρ[i]?=some (.ow p d):=by
 unfold zax at h
 cases e:ρ[i]? with
 | none=>rw [e] at h;cases h
 | some x =>
  rw [e] at h
  cases x with
  | ow p c=>cases h;exact⟨p,rfl⟩
  | _=>cases h
theorem Rel.zmg(r:Rel K ρ σ H)(h:zax ρ i=.ok d):∃ a,At ρ σ i a/\zby K H a d:=by
 obtain⟨p,e⟩:=zfF h
 have hl:i<σ.length:=by rw [<- r.len];exact(List.getElem?_eq_some_iff.mp e).1
 have o:=r.ok i _ _ e (List.getElem?_eq_getElem hl)
 cases es:σ[i] with
 | none=>rw [es] at o;exact o.elim
 | some v =>
  rw [es] at o
  cases v with
  | ref a=>exact⟨a,⟨⟨p,d,e⟩,by rw [List.getElem?_eq_getElem hl,es]⟩,o⟩
  | _=>exact o.elim
theorem Rel.again{a:Addr}(r:Rel K ρ1 σ H1)(h:zax ρ1 i=.ok d)(at0:At ρ σ i a):zby K H1 a d:=by
 obtain⟨b,ab,m⟩:=r.zmg h
 have:=at0.2.symm.trans ab.2
 cases this
 exact m
theorem Rel.zu9{a:Addr}{o:HO}(r:Rel K ρ σ H)(at0:At ρ σ i a)(m:zby K (upd H a o) a d):Rel K (zay ρ i d) σ (upd H a o):=by
 obtain⟨⟨p,c,e⟩,es⟩:=at0
 have hp:zay ρ i d=ρ.set i (.ow p d):=by unfold zay;rw [e]
 obtain⟨u,hu,ow⟩:=r.zaO ⟨i,⟨p,c,e⟩,es⟩
 have f:Fzn H (upd H a o):=fun b w eb st=>by
  rw [zao fun z=>by subst z;rw [hu] at eb;cases eb;exact ow.zcs st]
  exact eb
 have hl:i<ρ.length:=(List.getElem?_eq_some_iff.mp e).1
 rw [hp]
 refine⟨by rw [List.length_set];exact r.len,fun j x v e1 e2=>?_,fun j k b h1 h2=>?_,r.cst.mono f⟩
 ·by_cases c:i=j
  ·subst c
   rw [List.getElem?_set_self hl] at e1
   cases e1
   rw [es] at e2
   cases e2
   exact m
  ·rw [List.getElem?_set_ne c] at e1
   refine(r.ok j x v e1 e2).mono f fun b e3 ⟨q,dd,e4⟩=>?_
   subst e3;subst e4
   refine zao fun z=>?_
   subst z
   exact c (r.sep i j b ⟨⟨p,_,e⟩,es⟩ ⟨⟨q,dd,e1⟩,e2⟩)
 ·have w:∀ j b,At (ρ.set i (.ow p d)) σ j b->At ρ σ j b:=fun j b ⟨⟨q,dd,e1⟩,e2⟩=>by
   by_cases c:i=j
   ·subst c;exact⟨⟨p,_,e⟩,e2⟩
   ·rw [List.getElem?_set_ne c] at e1;exact⟨⟨q,dd,e1⟩,e2⟩
  exact r.sep j k b (w _ _ h1) (w _ _ h2)
theorem zgY{a:Addr}{o:HO}(at0:At ρ σ i a):Stp ρ (zay ρ i d) σ H (upd H a o):=by
 obtain⟨⟨p,c,e⟩,es⟩:=at0
 have hp:zay ρ i d=ρ.set i (.ow p d):=by unfold zay;rw [e]
 have hl:i<ρ.length:=(List.getElem?_eq_some_iff.mp e).1
 rw [hp]
 refine⟨fun j q=>?_,fun b w eb n=>?_⟩
 ·by_cases c:i=j
  ·subst c
   rw [List.getElem?_set_self hl,e]
   constructor
   ·rintro⟨_,z⟩;cases z;exact⟨_,rfl⟩
   ·rintro⟨_,z⟩;cases z;exact⟨_,rfl⟩
  ·rw [List.getElem?_set_ne c]
 ·rw [zao fun z=>by subst z;exact n ⟨i,⟨p,c,e⟩,es⟩]
  exact eb
end
section
variable {K:PySem.W.Frag}{X:Cx}{a b c:Expr}{f h k:EF}{pos:Pos}
theorem zv2{g:D->D->R D}{i:Nat}{r:R2}(hr:∀ x y H Q,rD K g x y H Q->r x y H Q)(σ:L2.St)(H:Hp)(Q:VK)(q:tV K (m2 g i h) σ H Q):tOp r (zdX i) (tV K h) σ H Q:=by
 obtain⟨ρ,rel,q⟩:=q
 obtain⟨d,ed,q1⟩:=q.zc0
 obtain⟨ad,at0,m⟩:=rel.zmg ed
 refine⟨.ref ad,at0.2,goV rel q1 fun dy ρ1 y H1 rel1 st1 fy q2=>?_⟩
 obtain⟨d2,ed2,q3⟩:=q2.zc0
 obtain⟨x,ex,q4⟩:=q3.zc0
 exact hr _ _ _ _ ⟨d2,dy,x,(rel1.again ed2 at0).tp,fy.tp,ex,fun v H' s fz=>q4.new rel1 s v fz⟩
theorem zr7{g:D->D->R D}{y:Str}{py:Pos}(i:Nat)(ho:IxR X (rD X.K g))(ha:PE X (.Name y py) (zdX i))(hb:PV K X b h)(hs:zhH b:=by exact fun _ _=>rfl):PV K X (.Subscript (.Name y py) b pos) (m2 g i h):=.mk fun hK=>by
 subst hK
 exact(zsp ho ha (hb rfl) hs).weak fun σ H Q q=>zv2 (fun _ _ _ _ z=>z) σ H Q q
theorem zuH{g:D->D->R D}{i:Nat}{r:R2}(hr:∀ x y H Q,rD K g x y H Q->r x y H Q)(σ:L2.St)(H:Hp)(Q:VK)(q:tV K (m2r g f i) σ H Q):tOp r (tV K f) (zdX i) σ H Q:=by
 obtain⟨ρ,rel,q⟩:=q
 refine goV rel q fun dx ρ1 x H1 rel1 st1 fx q2=>?_
 obtain⟨d2,ed2,q3⟩:=q2.zc0
 obtain⟨x,ex,q4⟩:=q3.zc0
 obtain⟨ad,at0,m⟩:=rel1.zmg ed2
 exact⟨.ref ad,at0.2,hr _ _ _ _ ⟨dx,d2,x,fx.tp,m.tp,ex,fun v H' s fz=>q4.new rel1 s v fz⟩⟩
theorem zp0{op:CmpOp}{g:D->D->R D}{y:Str}{py:Pos}(i:Nat)(ho:OpR X (compareOp op) (rD X.K g))(ha:PV K X a f)(hb:PE X (.Name y py) (zdX i))(hm:behindInMarks op (.Name y py)=false):PVT K X (.Compare a [op] [.Name y py] pos) (tB (m2r g f i)):=.mk fun hK=>by
 subst hK
 exact(zlJ ho (ha rfl) hb hm).weak fun σ H Q q=>goB (fun σ H Q z=>zuH (fun _ _ _ _ z=>z) σ H Q z) σ H Q q
theorem zr6{lo hi:Option Expr}{fl fh:OF}{y:Str}{py p2:Pos}(i:Nat)(hr:SlR X (ztW X.K))(ha:PE X (.Name y py) (zdX i))(hl:PVO K X lo fl)(hu:PVO K X hi fh):PV K X (.Subscript (.Name y py) (.Slice lo hi none p2) pos) (mSl i fl fh):=.mk fun hK=>by
 subst hK
 exact(zj2 hr ha (hl rfl) (hu rfl)).weak fun σ H Q=>by
  rintro⟨ρ,rel,q⟩
  obtain⟨d,ed,q1⟩:=q.zc0
  obtain⟨ad,at0,m⟩:=rel.zmg ed
  refine⟨.ref ad,at0.2,goO rel q1 fun l ρ2 H2 rel2 st2 q2=>goO rel2 q2 fun u ρ3 H3 rel3 st3 q3=>?_⟩
  obtain⟨d2,ed2,q4⟩:=q3.zc0
  obtain⟨x,ex,q5⟩:=q4.zc0
  exact⟨d2,x,(rel3.again ed2 at0).tp,ex,fun v H' s fz=>q5.new rel3 s v fz⟩
end
end
section
variable [Cs]
structure SC where
 H₀:Hp
 σ₀:L2.St
 ρ₀:En
structure zcI(K:PySem.W.Frag)(C:SC)(ρ:En)(σ:L2.St)(H:Hp):Prop where
 rel:Rel K ρ σ H
 keep:∀ a o,C.H₀ a=some o->¬ MA C.ρ₀ C.σ₀ a->H a=some o
 own:∀(i:Nat) a d,ρ[i]?=some (.ow false d)->σ[i]?=some (some (.ref a))->C.H₀ a=none
 pin:∀(i:Nat),(∃ d,ρ[i]?=some (.ow true d))↔∃ d,C.ρ₀[i]?=some (.ow true d)
 fix:∀(i:Nat) d,ρ[i]?=some (.ow true d)->σ[i]?=C.σ₀[i]?
 prm:∀(i:Nat) p d,C.ρ₀[i]?=some (.ow p d)->p=true
section
variable {K:PySem.W.Frag}{C:SC}{ρ ρ1:En}{σ σ1:L2.St}{H H1:Hp}
theorem zcI.zvd(r:zcI K C ρ σ H){a:Addr}{o:HO}(e:C.H₀ a=some o)(n:¬ MA C.ρ₀ C.σ₀ a):¬ MA ρ σ a:=by
 rintro⟨i,⟨p,d,e1⟩,e2⟩
 cases p with
 | false=>rw [r.own i a d e1 e2] at e;cases e
 | true =>
  obtain⟨d0,e0⟩:=(r.pin i).mp ⟨d,e1⟩
  exact n ⟨i,⟨true,d0,e0⟩,by rw [<- r.fix i d e1];exact e2⟩
theorem zcI.step(r:zcI K C ρ σ H)(rel:Rel K ρ1 σ H1)(st:Stp ρ ρ1 σ H H1):zcI K C ρ1 σ H1 where
 rel:=rel
 keep:=fun a o e n=>st.kp a o (r.keep a o e n) (r.zvd e n)
 own:=fun i a d e1 e2=>by
  obtain⟨d',e'⟩:=(st.md i false).mpr ⟨d,e1⟩
  exact r.own i a d' e' e2
 pin:=fun i=>(st.md i true).symm.trans (r.pin i)
 fix:=fun i d e=>by
  obtain⟨d',e'⟩:=(st.md i true).mpr ⟨d,e⟩
  exact r.fix i d' e'
 prm:=r.prm
def Chg(dom:List Nat)(ρ ρ1:En)(σ σ1:L2.St):Prop:=σ1.length=σ.length/\∀(i:Nat),(ρ1[i]?=ρ[i]?/\σ1[i]?=σ[i]?)\/(i∈dom/\(∃ d,ρ1[i]?=some (.val d))/\∀ e,ρ[i]?≠some (.ow true e))
theorem Chg.refl{dom:List Nat}:Chg dom ρ ρ σ σ:=⟨rfl,fun _=>.inl ⟨rfl,rfl⟩⟩
theorem Chg.trans{d1 d2:List Nat}{ρ2:En}{σ2:L2.St}(a:Chg d1 ρ ρ1 σ σ1)(b:Chg d2 ρ1 ρ2 σ1 σ2):Chg (d1++d2) ρ ρ2 σ σ2:=⟨b.1.trans a.1,fun i=>by
 rcases b.2 i with⟨b1,b2⟩|⟨bm,b1,b2⟩
 ·rcases a.2 i with⟨a1,a2⟩|⟨am,a1,a2⟩
  ·exact .inl ⟨b1.trans a1,b2.trans a2⟩
  ·exact .inr ⟨List.mem_append_left _ am,by rw [b1];exact a1,a2⟩
 ·rcases a.2 i with⟨a1,a2⟩|⟨am,a1,a2⟩
  ·exact .inr ⟨List.mem_append_right _ bm,b1,fun e z=>b2 e (by rw [a1];exact z)⟩
  ·exact .inr ⟨List.mem_append_left _ am,b1,a2⟩⟩
theorem zcI.chg{dom:List Nat}(r:zcI K C ρ σ H)(rel:Rel K ρ1 σ1 H)(c:Chg dom ρ ρ1 σ σ1):zcI K C ρ1 σ1 H where
 rel:=rel
 keep:=r.keep
 own:=fun i a d e1 e2=>by
  rcases c.2 i with⟨c1,c2⟩|⟨_,⟨d',c1⟩,c2⟩
  ·exact r.own i a d (by rw [<- c1];exact e1) (by rw [<- c2];exact e2)
  ·rw [c1] at e1;cases e1
 pin:=fun i=>by
  rcases c.2 i with⟨c1,c2⟩|⟨_,⟨d',c1⟩,c2⟩
  ·rw [c1];exact r.pin i
  ·rw [c1,<- r.pin i]
   constructor
   ·rintro⟨_,z⟩;cases z
   ·rintro⟨d,z⟩;exact absurd z (c2 d)
 fix:=fun i d e=>by
  rcases c.2 i with⟨c1,c2⟩|⟨_,⟨d',c1⟩,c2⟩
  ·rw [c2];exact r.fix i d (by rw [<- c1];exact e)
  ·rw [c1] at e;cases e
 prm:=r.prm
theorem zcI.fresh(r:zcI K C ρ σ H){a:Addr}(ha:H a=none):C.H₀ a=none:=by
 cases e0:C.H₀ a with
 | none=>rfl
 | some o =>
  by_cases k:MA C.ρ₀ C.σ₀ a
  ·obtain⟨i,⟨p,d0,e1⟩,e2⟩:=k
   have:=r.prm i p d0 e1
   subst this
   obtain⟨d2,e3⟩:=(r.pin i).mpr ⟨d0,e1⟩
   obtain⟨o',e',_⟩:=r.rel.zaO ⟨i,⟨true,d2,e3⟩,by rw [r.fix i d2 e3];exact e2⟩
   rw [ha] at e';cases e'
  ·rw [r.keep a o e0 k] at ha;cases ha
def zbz(K:PySem.W.Frag)(C:SC)(H:Hp)(r:R (Fl×En))(Dn:Ends):Prop:=match r with
 | .ok x=>match x.1 with
  | .nx=>∀ σ' H',zcI K C x.2 σ' H'->Fzn H H'->Dn.nx σ' H'
  | .bk=>∀ σ' H',zcI K C x.2 σ' H'->Fzn H H'->Dn.bk σ' H'
  | .ct=>∀ σ' H',zcI K C x.2 σ' H'->Fzn H H'->Dn.ct σ' H'
  | .rt d=>∀ v σ' H',zcI K C x.2 σ' H'->Fz K H' d v->Dn.rt v H'
  | .rf d=>∀ a σ' H',zcI K C x.2 σ' H'->C.H₀ a=none->zby K H' a d->Dn.rt (.ref a) H'
 | _=>False
theorem zbz.step{r:R (Fl×En)}{Dn:Ends}(f:Fzn H H1)(g:zbz K C H r Dn):zbz K C H1 r Dn:=by
 cases r with
 | ok x =>
  obtain⟨fl,ρ⟩:=x
  cases fl with
  | nx=>exact fun σ' H' r z=>g σ' H' r (f.trans z)
  | bk=>exact fun σ' H' r z=>g σ' H' r (f.trans z)
  | ct=>exact fun σ' H' r z=>g σ' H' r (f.trans z)
  | rt d=>exact g
  | rf d=>exact g
 | _=>exact g
theorem zbz.bnd{β:Type}{r:R β}{k:β->R (Fl×En)}{Dn:Ends}(g:zbz K C H (r.bind k) Dn):∃ x,r=.ok x/\zbz K C H (k x) Dn:=by
 cases r with
 | ok x=>exact⟨x,rfl,g⟩
 | _=>exact g.elim
def tS(K:PySem.W.Frag)(C:SC)(f:SF):TS:=fun Dn σ H=>∃ ρ,zcI K C ρ σ H/\zbz K C H (f ρ) Dn
theorem zjj{f:EF}{k:D×En->R (Fl×En)}{S:VK}{Dn:Ends}(rel:zcI K C ρ σ H)(g:zbz K C H ((f ρ).bind k) Dn)
  (h:∀ d ρ1 v H1,zcI K C ρ1 σ H1->Stp ρ ρ1 σ H H1->Fz K H1 d v->zbz K C H1 (k (d,ρ1)) Dn->S v H1):tV K f σ H S:=by
 obtain⟨x,e,g1⟩:=g.bnd
 refine⟨ρ,rel.rel,?_⟩
 rw [e]
 exact fun H' r s v fz=>h x.1 x.2 v H' (rel.step r s) s fz (g1.step (s.fzn rel.rel))
theorem zuG{f:TF}{k:Bool×En->R (Fl×En)}{S:Bool->Hp->Prop}{Dn:Ends}(rel:zcI K C ρ σ H)(g:zbz K C H ((f ρ).bind k) Dn)
  (h:∀ b ρ1 H1,zcI K C ρ1 σ H1->Fzn H H1->zbz K C H1 (k (b,ρ1)) Dn->S b H1):tT K f σ H S:=by
 obtain⟨x,e,g1⟩:=g.bnd
 refine⟨ρ,rel.rel,?_⟩
 rw [e]
 exact fun H' r s=>h x.1 x.2 H' (rel.step r s) (s.fzn rel.rel) (g1.step (s.fzn rel.rel))
theorem zvh{f:EF}{k:D×En->R (Fl×En)}{S:VK}{Dn:Ends}(rel:zcI K C ρ σ H)(g:zbz K C H ((f ρ).bind k) Dn)
  (h:∀ d ρ1 a H1,zcI K C ρ1 σ H1->Fzn H H1->H a=none->¬ MA ρ1 σ a->zby K H1 a d->zbz K C H1 (k (d,ρ1)) Dn->S (.ref a) H1):tN K f σ H S:=by
 obtain⟨x,e,g1⟩:=g.bnd
 refine⟨ρ,rel.rel,?_⟩
 rw [e]
 refine fun H' r s a ha m=>h x.1 x.2 a H' (rel.step r s) (s.fzn rel.rel) ha (fun z=>?_) m (g1.step (s.fzn rel.rel))
 obtain⟨o',e',_⟩:=rel.rel.zaO (s.ma.mpr z)
 rw [ha] at e';cases e'
end
structure PSV(K:PySem.W.Frag)(X:Cx)(st:Stmt)(f:SF):Prop where
 run:X.K=K->∀ C,PS X st (tS K C f)
instance {K:PySem.W.Frag} {X:Cx} {st:Stmt} {f:SF}:CoeFun (PSV K X st f) fun _=>X.K=K->∀ C,PS X st (tS K C f):=⟨PSV.run⟩
structure zga(K:PySem.W.Frag)(X:Cx)(st:List Stmt)(f:SF):Prop where
 run:X.K=K->∀ C,PSs X st (tS K C f)
instance {K:PySem.W.Frag} {X:Cx} {st:List Stmt} {f:SF}:CoeFun (zga K X st f) fun _=>X.K=K->∀ C,PSs X st (tS K C f):=⟨zga.run⟩
theorem _root_.L2.PS.weak{X:Cx}{e:Stmt}{t t':TS}(h:PS X e t)(w:∀ Dn σ H,t' Dn σ H->t Dn σ H):PS X e t':=fun pins s σ H Dn I q=>h pins s σ H Dn I (w Dn σ H q)
theorem _root_.L2.PSs.weak{X:Cx}{e:List Stmt}{t t':TS}(h:PSs X e t)(w:∀ Dn σ H,t' Dn σ H->t Dn σ H):PSs X e t':=fun pins s σ H Dn I q=>h pins s σ H Dn I (w Dn σ H q)
def tG(K:PySem.W.Frag)(dom:List Nat)(g:GF):TG:=fun v σ H Q=>∃ ρ d ρ1,Rel K ρ σ H/\Fz K H d v/\g d ρ=.ok ρ1/\∀ σ1,Rel K ρ1 σ1 H->Chg dom ρ ρ1 σ σ1->Q σ1 H
def tGs(K:PySem.W.Frag)(dom:List Nat)(gs:List GF):TGs:=fun vs σ H Q=>∃ ρ ds ρ1,Rel K ρ σ H/\zae K H ds vs/\ziO gs ds ρ=.ok ρ1/\∀ σ1,Rel K ρ1 σ1 H->Chg dom ρ ρ1 σ σ1->Q σ1 H
structure PVG(K:PySem.W.Frag)(X:Cx)(dom:List Nat)(e:Expr)(g:GF):Prop where
 run:X.K=K->PG X e (tG K dom g)
instance {K:PySem.W.Frag} {X:Cx} {dom:List Nat} {e:Expr} {g:GF}:CoeFun (PVG K X dom e g) fun _=>X.K=K->PG X e (tG K dom g):=⟨PVG.run⟩
structure zrB(K:PySem.W.Frag)(X:Cx)(dom:List Nat)(e:List Expr)(g:List GF):Prop where
 run:X.K=K->PGs X e (tGs K dom g)
instance {K:PySem.W.Frag} {X:Cx} {dom:List Nat} {e:List Expr} {g:List GF}:CoeFun (zrB K X dom e g) fun _=>X.K=K->PGs X e (tGs K dom g):=⟨zrB.run⟩
theorem _root_.L2.PG.weak{X:Cx}{e:Expr}{t t':TG}(h:PG X e t)(w:∀ v σ H Q,t' v σ H Q->t v σ H Q):PG X e t':=fun pins s σ H v u Q I r q=>h pins s σ H v u Q I r (w v σ H Q q)
theorem _root_.L2.PGs.weak{X:Cx}{e:List Expr}{t t':TGs}(h:PGs X e t)(w:∀ v σ H Q,t' v σ H Q->t v σ H Q):PGs X e t':=fun pins s σ H v u Q I r q=>h pins s σ H v u Q I r (w v σ H Q q)
theorem Rel.set{K:PySem.W.Frag}{ρ:En}{σ:L2.St}{H:Hp}{i:Nat}{x:Sl}{v:Option V}(r:Rel K ρ σ H)(o:zjB K H x v)(s:∀ a p d,x=.ow p d->v=some (.ref a)->¬ MA ρ σ a):Rel K (ρ.set i x) (σ.set i v) H:=by
 refine⟨by rw [List.length_set,List.length_set];exact r.len,fun j y w e1 e2=>?_,fun j k b h1 h2=>?_,r.cst⟩
 ·by_cases c:i=j
  ·subst c
   by_cases hl:i<ρ.length
   ·rw [List.getElem?_set_self hl] at e1
    rw [List.getElem?_set_self (by rw [<- r.len];exact hl)] at e2
    cases e1;cases e2
    exact o
   ·rw [List.getElem?_eq_none (by rw [List.length_set];omega)] at e1;cases e1
  ·rw [List.getElem?_set_ne c] at e1 e2
   exact r.ok j y w e1 e2
 ·have w:∀ j b,At (ρ.set i x) (σ.set i v) j b->(j=i/\(∃ p d,x=.ow p d)/\v=some (.ref b))\/(j≠i/\At ρ σ j b):=fun j b ⟨⟨q,dd,e1⟩,e2⟩=>by
   by_cases c:i=j
   ·subst c
    have hl:i<ρ.length:=by
     have:=(List.getElem?_eq_some_iff.mp e1).1
     rwa [List.length_set] at this
    rw [List.getElem?_set_self hl] at e1
    rw [List.getElem?_set_self (by rw [<- r.len];exact hl)] at e2
    cases e1;cases e2
    exact .inl ⟨rfl,⟨q,dd,rfl⟩,rfl⟩
   ·rw [List.getElem?_set_ne c] at e1 e2
    exact .inr ⟨fun z=>c z.symm,⟨q,dd,e1⟩,e2⟩
  rcases w j b h1 with⟨rfl,⟨p,d,e⟩,e'⟩|⟨n1,a1⟩
  ·rcases w k b h2 with⟨rfl,_,_⟩|⟨n2,a2⟩
   ·rfl
   ·exact absurd ⟨k,a2⟩ (s b p d e e')
  ·rcases w k b h2 with⟨rfl,⟨p,d,e⟩,e'⟩|⟨n2,a2⟩
   ·exact absurd ⟨j,a1⟩ (s b p d e e')
   ·exact r.sep j k b a1 a2
section
variable {K:PySem.W.Frag}{X:Cx}{pos:Pos}
theorem zgE{i:Nat}{d:D}{ρ ρ1:En}(h:gN i d ρ=.ok ρ1):ρ1=ρ.set i (.val d)/\(∀ e,ρ[i]?≠some (.ow true e))/\i<ρ.length:=by
 unfold gN at h
 cases e:ρ[i]? with
 | none=>rw [e] at h;cases h
 | some x =>
  rw [e] at h
  have hl:i<ρ.length:=(List.getElem?_eq_some_iff.mp e).1
  cases x with
  | no=>cases h;exact⟨rfl,(fun _ z=>nomatch z),hl⟩
  | val c=>cases h;exact⟨rfl,(fun _ z=>nomatch z),hl⟩
  | ob c ds=>cases h;exact⟨rfl,(fun _ z=>nomatch z),hl⟩
  | ow p c =>
   cases p with
   | true=>cases h
   | false=>cases h;exact⟨rfl,(fun _ z=>nomatch z),hl⟩
theorem zeH{ρ:En}{σ:L2.St}{i:Nat}{d:D}{v:Option V}(n:∀ e,ρ[i]?≠some (.ow true e))(hl:i<ρ.length):Chg [i] ρ (ρ.set i (.val d)) σ (σ.set i v):=⟨List.length_set,fun j=>by
 by_cases c:i=j
 ·subst c
  exact .inr ⟨List.mem_singleton.mpr rfl,⟨d,List.getElem?_set_self hl⟩,n⟩
 ·exact .inl ⟨List.getElem?_set_ne c,List.getElem?_set_ne c⟩⟩
theorem znL{i:Nat}{x:Str}(hN:X.N.Nodup)(hi:X.N[i]?=some x)(hx:Loc X.env.scope x)(hf:X.fn x=true\/X.env.scope.names.lookup x=some .local:=by first|exact .inl rfl|exact .inr rfl|assumption):PVG K X [i] (.Name x pos) (gN i):=.mk fun _=>(zhc hN hi hx hf).weak fun v σ H Q=>by
 rintro⟨ρ,d,ρ1,rel,fz,e,q⟩
 obtain⟨rfl,n,hl⟩:=zgE e
 exact q _ (rel.set fz fun _ _ _ z=>nomatch z) (zeH n hl)
theorem zbn:zrB K X [] [] []:=.mk fun _=>zi0.weak fun vs σ H Q=>by
 rintro⟨ρ,ds,ρ1,rel,fz,e,q⟩
 cases ds with
 | nil =>
  cases e
  simp only [zae] at fz
  exact⟨fz,q _ rel .refl⟩
 | cons _ _=>cases e
theorem zai{α β:Type}{r:R α}{k:α->R β}{b:β}(h:r.bind k=.ok b):∃ a,r=.ok a/\k a=.ok b:=by
 cases r with
 | ok a=>exact⟨a,rfl,h⟩
 | _=>cases h
theorem zap{e:Expr}{es:List Expr}{g:GF}{gs:List GF}{d1 d2:List Nat}(h1:PVG K X d1 e g)(h2:zrB K X d2 es gs)
  (hs:(assignEach (e::es) X.env).map (·.2)=assign e X.env::(assignEach es X.env).map (·.2):=by rfl):zrB K X (d1++d2) (e::es) (g::gs):=.mk fun hK=>(zdq (h1 hK) (h2 hK) hs).weak fun vs σ H Q=>by
 rintro⟨ρ,ds,ρ1,rel,fz,e,q⟩
 cases ds with
 | nil=>cases e
 | cons d ds =>
  simp only [zae] at fz
  obtain⟨v,r,rfl,f1,f2⟩:=fz
  obtain⟨ρ2,e2,e3⟩:=zai (show(g d ρ).bind (fun ρ1=>ziO gs ds ρ1)=.ok ρ1 from e)
  exact⟨v,r,rfl,ρ,d,ρ2,rel,f1,e2,fun σ1 rel1 c1=>⟨ρ2,ds,ρ1,rel1,f2,e3,fun σ2 rel2 c2=>q σ2 rel2 (c1.trans c2)⟩⟩
theorem zki:∀{gs:List GF} {ds:List D} {ρ ρ1:En},ziO gs ds ρ=.ok ρ1->ds.length=gs.length
 | [],[],_,_,_=>rfl
 | [],_::_,_,_,e=>by cases e
 | _::_,[],_,_,e=>by cases e
 | g::gs,d::ds,ρ,ρ1,e=>by
  obtain⟨ρ2,e2,e3⟩:=zai (show(g d ρ).bind (fun ρ1=>ziO gs ds ρ1)=.ok ρ1 from e)
  simp [zki e3]
theorem zcc{es:List Expr}{k:Nat}{gs:List GF}{dom:List Nat}(hc:X.calm=true)(h:zrB K X dom es gs)
  (hn:(assignEach es X.env).length=gs.length:=by rfl)(hst:(assignEach es X.env).findIdx? (·.1)=none:=by rfl):PVG K X dom (.Tuple es k pos) (gT gs):=.mk fun hK=>by
 subst hK
 refine(zlY hc (h rfl) hn hst).weak fun v σ H Q=>?_
 rintro⟨ρ,d,ρ1,rel,fz,e,q⟩
 cases d with
 | tuple ds =>
  simp only [Fz] at fz
  obtain⟨a,vs,rfl,s,f⟩:=fz
  replace e:ziO gs ds ρ=.ok ρ1:=e
  exact⟨a,vs,rfl,.inl s,by rw [f.len,zki e],ρ,ds,ρ1,rel,f,e,q⟩
 | _=>cases e
variable {st:Stmt}{rest:List Stmt}{s t:SF}{e:Expr}{f:EF}
theorem zaA:zga K X [] sNx:=.mk fun _ C=>ziY.weak fun Dn σ H=>by
 rintro⟨ρ,rel,g⟩
 exact g σ H rel (Fzn.refl H)
theorem zag(h1:PSV K X st s)(h2:zga K X rest t):zga K X (st::rest) (zav s t):=.mk fun hK C=>(zcN (h1 hK C) (h2 hK C)).weak fun Dn σ H=>by
 rintro⟨ρ,rel,g⟩
 refine⟨ρ,rel,?_⟩
 obtain⟨x,ex,g1⟩:=g.bnd
 rw [ex]
 obtain⟨fl,ρ1⟩:=x
 cases fl with
 | nx=>exact fun σ' H' r z=>⟨ρ1,r,g1.step z⟩
 | bk=>exact g1
 | ct=>exact g1
 | rt d=>exact g1
 | rf d=>exact g1
theorem zau(h1:PSV K X st s):zga K X [st] s:=.mk fun hK C=>zg9 (h1 hK C)
theorem zd1:PSV K X st zgs:=.mk fun _ C=>zj1.weak fun Dn σ H=>by
 rintro⟨ρ,rel,g⟩
 exact g.elim
theorem znE(he:PV K X e f)(hs:swapsWith e none pos.line X.env=pure false:=by rfl):PSV K X (.Expr e pos) (sE f):=.mk fun hK C=>(zha (he hK) hs).weak fun Dn σ H=>by
 rintro⟨ρ,rel,g⟩
 exact zjj rel g fun d ρ1 v H1 rel1 st1 fz g1=>g1 σ H1 rel1 (Fzn.refl H1)
theorem zp5(he:PV K X e f):PSV K X (.Return (some e) pos) (zaH f):=.mk fun hK C=>(zj0 (he hK)).weak fun Dn σ H=>by
 rintro⟨ρ,rel,g⟩
 exact zjj rel g fun d ρ1 v H1 rel1 st1 fz g1=>g1 v σ H1 rel1 fz
theorem zjT(he:PVN K X e f):PSV K X (.Return (some e) pos) (zdx f):=.mk fun hK C=>(zj0 (he hK)).weak fun Dn σ H=>by
 rintro⟨ρ,rel,g⟩
 exact zvh rel g fun d ρ1 a H1 rel1 fz ha n m g1=>g1 a σ H1 rel1 (rel.fresh ha) m
theorem znC{y:Str}{py:Pos}(i:Nat)(ha:PE X (.Name y py) (zdX i)):PSV K X (.Return (some (.Name y py)) pos) (ze1 i):=.mk fun hK C=>(zj0 ha).weak fun Dn σ H=>by
 rintro⟨ρ,rel,g⟩
 unfold ze1 at g
 cases e:ρ[i]? with
 | none=>rw [e] at g;exact g.elim
 | some x =>
  rw [e] at g
  cases x with
  | ow p d =>
   cases p with
   | false =>
    obtain⟨a,at0,m⟩:=rel.rel.zmg (d:=d) (show zax ρ i=.ok d by unfold zax;rw [e])
    exact⟨.ref a,at0.2,g a σ H rel (rel.own i a d e at0.2) m⟩
   | true=>exact g.elim
  | _=>exact g.elim
theorem za0{c:Expr}{a b:List Stmt}{tc:TF}(hc:PVT K X c tc)(ha:zga K X a s)(hb:zga K X b t):PSV K X (.If c a b pos) (sIf tc s t):=.mk fun hK C=>(zse (hc hK) (ha hK C) (hb hK C)).weak fun Dn σ H=>by
 rintro⟨ρ,rel,g⟩
 refine zuG rel g fun cb ρ1 H1 rel1 fz g1=>?_
 cases cb with
 | true=>exact zoo ⟨ρ1,rel1,g1⟩
 | false=>exact zop ⟨ρ1,rel1,g1⟩
theorem ziX{tg:Expr}{g:GF}{dom:List Nat}(he:PV K X e f)(hg:PVG K X dom tg g)(hs:swapsWithSole [tg] e pos.line X.env=pure false:=by rfl)(hw:swappedStores [tg] e X.env=pure none:=by rfl)
  (h1:(assignEach [tg] X.env).map (·.2)=[assign tg X.env]:=by rfl):PSV K X (.Assign [tg] e pos) (zaZ g f):=.mk fun hK C=>(zlL (he hK) (hg hK) hs hw h1).weak fun Dn σ H=>by
 rintro⟨ρ,rel,q⟩
 refine zjj rel q fun d ρ1 v H1 rel1 st1 fz q1=>?_
 obtain⟨ρ2,e2,q2⟩:=q1.bnd
 exact⟨ρ1,d,ρ2,rel1.rel,fz,e2,fun σ1 rel2 c=>q2 σ1 H1 (rel1.chg rel2 c) (Fzn.refl H1)⟩
theorem zp4{i:Nat}{x:Str}{pos':Pos}(hN:X.N.Nodup)(hi:X.N[i]?=some x)(hx:Loc X.env.scope x)(he:PV K X e f)(hs:swapsWith e (some (.Name x pos')) pos.line X.env=pure false:=by rfl)(hf:X.fn x=true\/X.env.scope.names.lookup x=some .local:=by first|exact .inl rfl|exact .inr rfl|assumption) :
  PSV K X (.Assign [.Name x pos'] e pos) (zaZ (gN i) f):=.mk fun hK C=>(zjZ hN hi hx (he hK) hs hf).weak fun Dn σ H=>by
 rintro⟨ρ,rel,q⟩
 refine zjj rel q fun d ρ1 v H1 rel1 st1 fz q1=>?_
 obtain⟨ρ2,e2,q2⟩:=q1.bnd
 obtain⟨rfl,n,hl⟩:=zgE e2
 exact q2 _ H1 (rel1.chg (rel1.rel.set fz fun _ _ _ z=>nomatch z) (zeH n hl)) (Fzn.refl H1)
theorem zs2{i:Nat}{C:SC}(Dn:Ends)(σ:L2.St)(H:Hp)(q0:tS K C (zcH i f) Dn σ H):zrx (tN K f) (zk3 i) Dn σ H:=by
 revert q0
 rintro⟨ρ,rel,q⟩
 refine zvh rel q fun d ρ1 a H1 rel1 fz ha n m q1=>?_
 have hf:=rel.fresh ha
 replace q1:zbz K C H1 (match ρ1[i]? with|some (.ow true _)=>.bad|some _=>.ok (.nx,ρ1.set i (.ow false d))|none=>.bad) Dn:=q1
 have fin:(∀ e,ρ1[i]?≠some (.ow true e))->i<ρ1.length->zcI K C (ρ1.set i (.ow false d)) (σ.set i (some (.ref a))) H1:=fun np hl=>by
  have hls:i<σ.length:=by rw [<- rel1.rel.len];exact hl
  refine⟨rel1.rel.set (show zjB K H1 (.ow false d) (some (.ref a)) from m) fun b p c e1 e2=>by cases e2;exact n,rel1.keep,fun j b c e1 e2=>?_,fun j=>?_,fun j c e1=>?_,rel1.prm⟩
  ·by_cases k:i=j
   ·subst k
    rw [List.getElem?_set_self hls] at e2
    cases e2
    exact hf
   ·rw [List.getElem?_set_ne k] at e1 e2
    exact rel1.own j b c e1 e2
  ·by_cases k:i=j
   ·subst k
    rw [List.getElem?_set_self hl,<- rel1.pin i]
    constructor
    ·rintro⟨_,z⟩;cases z
    ·rintro⟨c,z⟩;exact absurd z (np c)
   ·rw [List.getElem?_set_ne k];exact rel1.pin j
  ·by_cases k:i=j
   ·subst k
    rw [List.getElem?_set_self hl] at e1;cases e1
   ·rw [List.getElem?_set_ne k] at e1 ⊢
    exact rel1.fix j c e1
 cases e1:ρ1[i]? with
 | none=>rw [e1] at q1;exact q1.elim
 | some y =>
  have hl:i<ρ1.length:=(List.getElem?_eq_some_iff.mp e1).1
  rw [e1] at q1
  cases y with
  | no=>exact q1 _ H1 (fin (fun e z=>by rw [e1] at z;cases z) hl) (Fzn.refl H1)
  | val c=>exact q1 _ H1 (fin (fun e z=>by rw [e1] at z;cases z) hl) (Fzn.refl H1)
  | ob c ds=>exact q1 _ H1 (fin (fun e z=>by rw [e1] at z;cases z) hl) (Fzn.refl H1)
  | ow p c =>
   cases p with
   | true=>exact q1.elim
   | false=>exact q1 _ H1 (fin (fun e z=>by rw [e1] at z;cases z) hl) (Fzn.refl H1)
theorem zp7{i:Nat}{x:Str}{pos':Pos}(hN:X.N.Nodup)(hi:X.N[i]?=some x)(hx:Loc X.env.scope x)(he:PVN K X e f)(hs:swapsWith e (some (.Name x pos')) pos.line X.env=pure false:=by rfl)(hf:X.fn x=true\/X.env.scope.names.lookup x=some .local:=by first|exact .inl rfl|exact .inr rfl|assumption) :
  PSV K X (.Assign [.Name x pos'] e pos) (zcH i f):=.mk fun hK C=>(zjZ hN hi hx (he hK) hs hf).weak fun Dn σ H q=>zs2 Dn σ H q
theorem zg5(i:Nat)(h:PSV K X st s):PSV K X st (zg1 i s):=.mk fun hK C=>by
 have h1:PS X st (fun Dn σ H=>∃ a u,H a=some u/\Own u/\∀ o,tS K C s Dn σ (upd H a (.frz o u))):=fun pins sh σ H Dn I ⟨a,u,e,ow,q⟩=>by
  obtain⟨o,ho⟩:=(I.hok a u e).some
  exact h hK C pins sh σ _ Dn (ztB I e ow ho) (q o)
 refine h1.weak fun Dn σ H=>?_
 rintro⟨ρ,rel,g⟩
 unfold zg1 at g
 cases e:ρ[i]? with
 | none=>rw [e] at g;exact g.elim
 | some x =>
  rw [e] at g
  cases x with
  | ow p d =>
   cases p with
   | true=>exact g.elim
   | false =>
    obtain⟨a,at0,m⟩:=rel.rel.zmg (d:=d) (show zax ρ i=.ok d by unfold zax;rw [e])
    obtain⟨u,e1,ow⟩:=m.own
    refine⟨a,u,e1,ow,fun o=>⟨ρ.set i (.val d),?_,g.step ?_⟩⟩
    ·have hl:i<ρ.length:=(List.getElem?_eq_some_iff.mp e).1
     have hfr:=rel.own i a d e at0.2
     have fz:Fzn H (upd H a (.frz o u)):=fun b w e2 sy=>by
      rw [zao fun z=>by subst z;rw [e1] at e2;cases e2;exact ow.zcs sy]
      exact e2
     have fd:Fz K (upd H a (.frz o u)) d (.ref a):=by
      cases d with
      | list ds =>
       obtain⟨vs,h1,h2⟩:=m
       rw [e1] at h1
       cases h1
       simp only [Fz]
       exact⟨a,vs,rfl,.inl ⟨o,zal⟩,h2.mono fz⟩
      | dict kvs =>
       simp only [Fz]
       obtain⟨kk,h1,h2⟩:=m
       rw [e1] at h1
       cases h1
       exact⟨a,o,rfl,⟨kk,zal,h2.mono fz⟩⟩
      | _=>exact m.elim
     have atw:∀ j b,At (ρ.set i (.val d)) σ j b->j≠i/\At ρ σ j b:=fun j b ⟨⟨q,dd,e1⟩,e2⟩=>by
      by_cases c:i=j
      ·subst c
       rw [List.getElem?_set_self hl] at e1;cases e1
      ·rw [List.getElem?_set_ne c] at e1
       exact⟨fun z=>c z.symm,⟨q,dd,e1⟩,e2⟩
     refine⟨⟨by rw [List.length_set];exact rel.rel.len,fun j y w e2 e3=>?_,fun j k b h1 h2=>rel.rel.sep j k b (atw j b h1).2 (atw k b h2).2,rel.rel.cst.mono fz⟩,fun b w e2 n=>?_,fun j b c e2 e3=>?_,fun j=>?_,fun j c e2=>?_,rel.prm⟩
     ·by_cases c:i=j
      ·subst c
       rw [List.getElem?_set_self hl] at e2
       cases e2
       rw [at0.2] at e3
       cases e3
       exact fd
      ·rw [List.getElem?_set_ne c] at e2
       refine(rel.rel.ok j y w e2 e3).mono fz fun b e4 ⟨p,dd,e5⟩=>?_
       subst e4;subst e5
       refine zao fun z=>?_
       subst z
       exact c (rel.rel.sep i j b at0 ⟨⟨p,dd,e2⟩,e3⟩)
     ·rw [zao fun z=>by subst z;rw [hfr] at e2;cases e2]
      exact rel.keep b w e2 n
     ·by_cases c:i=j
      ·subst c
       rw [List.getElem?_set_self hl] at e2;cases e2
      ·rw [List.getElem?_set_ne c] at e2
       exact rel.own j b _ e2 e3
     ·by_cases c:i=j
      ·subst c
       rw [List.getElem?_set_self hl,<- rel.pin i,e]
       constructor
       ·rintro⟨_,z⟩;cases z
       ·rintro⟨_,z⟩;cases z
      ·rw [List.getElem?_set_ne c];exact rel.pin j
     ·by_cases k:i=j
      ·subst k
       rw [List.getElem?_set_self hl] at e2;cases e2
      ·rw [List.getElem?_set_ne k] at e2
       exact rel.fix j c e2
    ·exact fun b w e2 sy=>by
      rw [zao fun z=>by subst z;rw [e1] at e2;cases e2;exact ow.zcs sy]
      exact e2
  | _=>exact g.elim
theorem zmm{ρ:En}{i:Nat}{c:List D}(h:zbE ρ i=.ok c):∃ p,ρ[i]?=some (.ow p (.list c)):=by
 unfold zbE at h
 cases e:ρ[i]? with
 | none=>rw [e] at h;cases h
 | some x =>
  rw [e] at h
  cases x with
  | ow p d =>
   cases d with
   | list a=>cases h;exact⟨p,rfl⟩
   | _=>cases h
  | _=>cases h
theorem Rel.ztz{ρ:En}{σ:L2.St}{H:Hp}{i:Nat}{c:List D}(r:Rel K ρ σ H)(h:zbE ρ i=.ok c):∃ a vs,At ρ σ i a/\H a=some (.lst vs)/\zae K H c vs:=by
 obtain⟨p,e⟩:=zmm h
 obtain⟨a,at0,m⟩:=r.zmg (d:=.list c) (show zax ρ i=.ok (.list c) by unfold zax;rw [e])
 obtain⟨vs,h1,h2⟩:=m
 exact⟨a,vs,at0,h1,h2⟩
theorem Rel.zuq{ρ ρ1:En}{σ:L2.St}{H1:Hp}{i:Nat}{c:List D}{a:Addr}(r:Rel K ρ1 σ H1)(h:zbE ρ1 i=.ok c)(at0:At ρ σ i a):∃ vs,At ρ1 σ i a/\H1 a=some (.lst vs)/\zae K H1 c vs:=by
 obtain⟨b,vs,ab,h1,h2⟩:=r.ztz h
 have:=at0.2.symm.trans ab.2
 cases this
 exact⟨vs,ab,h1,h2⟩
theorem zq4{C:SC}{ρ:En}{σ:L2.St}{H:Hp}{i:Nat}{a:Addr}{o:HO}{d:D}{Dn:Ends}(rel:zcI K C ρ σ H)(at0:At ρ σ i a)(m:zby K (upd H a o) a d)(g:zbz K C H (.ok (.nx,zay ρ i d)) Dn):Dn.nx σ (upd H a o):=by
 have st:Stp ρ (zay ρ i d) σ H (upd H a o):=zgY at0
 exact g σ _ (rel.step (rel.rel.zu9 at0 m) st) (st.fzn rel.rel)
theorem zmI{C:SC}{ρ:En}{σ:L2.St}{H:Hp}{i:Nat}{a:Addr}{o:HO}(rel:zcI K C ρ σ H)(at0:At ρ σ i a):Fzn H (upd H a o):=(zgY (d:=.none) at0).fzn rel.rel
theorem zgt{y name:Str}{py apos cpos:Pos}(i:Nat)(hnm:name="append") (ha:PE X (.Name y py) (zdX i)) (he:PV K X e f)
  (hbase:attributeBase (.Name y py) name X.env (eval (.Name y py) X.env)=eval (.Name y py) X.env:=by rfl)
  (hfew:((backTo cpos (starEach [e] X.env)).all (fun x=>!x.1)&&(backToKw cpos (keywordEach [] X.env)).all (fun x=>x.1.isSome)&&decide ([e].length+([]:List Keyword).length+(if([]:List Keyword).isEmpty then 0 else 1)<30))=true:=by rfl)
  (hline:(apos.endLine==cpos.line)=true:=by rfl) (hst:starEach [e] X.env=(false,eval e X.env)::starEach [] X.env:=by exact FL.se rfl) (hplain:(backTo cpos (starEach [] X.env)).any (·.1)=false:=by exact FL.sp rfl)
  (hs:swapsWith (.Call (.Attribute (.Name y py) name apos) [e] [] cpos) none pos.line X.env=pure false:=by rfl):PSV K X (.Expr (.Call (.Attribute (.Name y py) name apos) [e] [] cpos) pos) (zhT i ziF f):=.mk fun hK C=>by
 subst hK
 subst hnm
 refine(zha (zuc PySem.F.plainAttrs_list PySem.F.slot_list_append PySem.F.type_list_append zfG ha (zbc (he rfl) zdB hst) hbase hfew hline hst hplain) hs).weak fun Dn σ H=>?_
 rintro⟨ρ,rel,g⟩
 obtain⟨d,ed,g1⟩:=g.bnd
 obtain⟨a,vs0,at0,h0,_⟩:=rel.rel.ztz ed
 refine⟨.ref a,at0.2,.inl ⟨rfl,vs0,SqL.of h0⟩,zjj rel g1 fun dx ρ1 v H1 rel1 st1 fz g2=>?_⟩
 obtain⟨c,ec,g3⟩:=g2.bnd
 obtain⟨c',ec',g4⟩:=g3.bnd
 obtain⟨vs,at1,h1,h2⟩:=rel1.rel.zuq ec at0
 obtain⟨cc,ec'⟩:=zaX ec'
 cases ec'
 have hz:vs.length<sizeLine:=by
  have:=zeA cc
  have l0:=zbo
  rw [h2.len];omega
 refine⟨a,vs,v,rfl,rfl,h1,hz,zq4 (d:=.list (c++[dx])) rel1 at1 ⟨_,zal,(h2.app ?_).mono (zmI rel1 at1)⟩ g4⟩
 simp only [zae]
 exact⟨v,[],rfl,fz,rfl⟩
theorem zfd{y:Str}{py ps':Pos}{ke:Expr}{k:EF}(i:Nat)(ha:PE X (.Name y py) (zdX i))(he:PV K X e f)(hk:PV K X ke k)
  (has:∀ v,assign (.Subscript (.Name y py) ke ps') X.env v=(do
   let ov <- holding [v] (eval (.Name y py) X.env)
   let iv <- holding [v,ov] (eval ke X.env)
   standAt ps'
   holding [v,ov,iv] (setItem ov iv v)
   release [v,ov,iv] []):=by intro _;rfl)
  (hs:swapsWithSole [.Subscript (.Name y py) ke ps'] e pos.line X.env=pure false:=by rfl)(hw:swappedStores [.Subscript (.Name y py) ke ps'] e X.env=pure none:=by rfl)
  (h1:(assignEach [.Subscript (.Name y py) ke ps'] X.env).map (·.2)=[assign (.Subscript (.Name y py) ke ps') X.env]:=by rfl):PSV K X (.Assign [.Subscript (.Name y py) ke ps'] e pos) (setM i f k):=.mk fun hK C=>by
 subst hK
 refine(zlL (he rfl) (zlZ ha (hk rfl) set_list has) hs hw h1).weak fun Dn σ H=>?_
 rintro⟨ρ,rel,g⟩
 refine zjj rel g fun dx ρ1 v H1 rel1 st1 fz g1=>?_
 obtain⟨d,ed,g2⟩:=g1.bnd
 obtain⟨a,vs0,at0,h0,_⟩:=rel1.rel.ztz ed
 refine⟨.ref a,at0.2,zjj rel1 g2 fun dk ρ2 kv H2 rel2 st2 fk g3=>?_⟩
 obtain⟨c,ec,g4⟩:=g3.bnd
 obtain⟨vs,at1,h1,h2⟩:=rel2.rel.zuq ec at0
 cases dk with
 | int j =>
  obtain⟨n,en,g5⟩:=(show zbz X.K C H2 ((R.of (FL.ixN c.length j)).bind fun n=>.ok (.nx,zay ρ2 i (.list (c.set n dx)))) Dn from g4).bnd
  simp only [Fz] at fk
  subst fk
  refine⟨a,vs,j,n,rfl,rfl,h1,?_,zq4 (d:=.list (c.set n dx)) rel2 at1 ⟨_,zal,(h2.set n (fz.mono (st2.fzn rel1.rel))).mono (zmI rel2 at1)⟩ g5⟩
  rw [h2.len]
  cases e2:FL.ixN c.length j with
  | none=>rw [e2] at en;cases en
  | some m=>rw [e2] at en;cases en;exact e2
 | _=>exact g4.elim
end
end
section
variable [Cs]
def Walk(K:PySem.W.Frag)(J:It)(items:List D)(H:Hp):Prop :=
 (∀ i d H',Fzn H H'->items[i]?=some d->J.go i H'/\∀ x H'',J.yld i H' x H''->zaM H' H''/\Fz K H'' d x)/\∀ i H',Fzn H H'->items.length<=i->J.stop i H'
def tI(K:PySem.W.Frag)(it:IF):TI:=fun σ H R=>∃ ρ,Rel K ρ σ H/\Good K ρ σ H (it ρ) fun items _ H'=>∀ J,Walk K J items H'->R J H'
structure PVI(K:PySem.W.Frag)(X:Cx)(tg e:Expr)(it:IF):Prop where
 run:X.K=K->PI X tg e (tI K it)
instance {K:PySem.W.Frag} {X:Cx} {tg e:Expr} {it:IF}:CoeFun (PVI K X tg e it) fun _=>X.K=K->PI X tg e (tI K it):=⟨PVI.run⟩
theorem _root_.L2.PI.weak{X:Cx}{tg e:Expr}{t t':TI}(h:PI X tg e t)(w:∀ σ H R,t' σ H R->t σ H R):PI X tg e t':=fun pins s σ H R I q=>h pins s σ H R I (w σ H R q)
section
variable {K:PySem.W.Frag}{X:Cx}{tg e:Expr}{f:EF}{pos:Pos}
theorem zsl{l:Expr}{tl:TE}(hl:PE X l tl):PI X tg l (fun σ H R=>tl σ H fun x H1=>∃ a,x=.ref a/\(((∃ xs,SqL X.K H1 a xs)/\R (Itl X.K a) H1)\/((∃ xs,SqT X.K H1 a xs)/\R (Itt X.K a) H1))):=by
 intro pins s σ H R I h
 refine thn (hl pins s σ H _ I h) fun v s1 ⟨x,H1,I1,r1,q1⟩=>?_
 obtain⟨a,e,q1⟩:=q1
 subst e
 cases r1
 rcases q1 with⟨⟨xs,hq⟩,q⟩|⟨⟨xs,hq⟩,q⟩
 ·obtain⟨its,rv,p,hz⟩:=I1.list hq
  refine wpAny_pyIter_list p.isList ?_
  refine⟨s1.heap.objs.size,[s1.heap.objs.size],_,_,H1,rfl,I1.kept (t':=s1.toks) fun b o e=>Heap.get?_push_of_some _ e,zhU a _,⟨_,Heap.get?_push_size _ rfl,rfl,rfl⟩,fun b hb=>?_,q⟩
  have e:b=s1.heap.objs.size:=by simpa using hb
  subst e
  exact I1.znj (Nat.le_refl _) (I1.hok.fresh (Nat.le_refl _))
 ·obtain⟨its,rv,p,hz⟩:=I1.tuple hq
  refine wpAny_pyIter_tuple (show s1.heap.IsTuple a its.toArray from p) ?_
  refine⟨s1.heap.objs.size,[s1.heap.objs.size],_,_,H1,rfl,I1.kept (t':=s1.toks) fun b o e=>Heap.get?_push_of_some _ e,zkB a _,⟨_,Heap.get?_push_size _ rfl,rfl,rfl⟩,fun b hb=>?_,q⟩
  have e:b=s1.heap.objs.size:=by simpa using hb
  subst e
  exact I1.znj (Nat.le_refl _) (I1.hok.fresh (Nat.le_refl _))
theorem zli{H:Hp}{a:Addr}{vs:List V}{items:List D}(h:FzL K H a vs)(f:zae K H items vs):Walk K (Itl K a) items H:=by
 refine⟨fun i d H' fz e=>?_,fun i H' fz e=>⟨vs,(fz.ziN h).sq,by rw [f.len];exact e⟩⟩
 obtain⟨v,ev,_⟩:=f.get e
 refine⟨⟨vs,v,(fz.ziN h).sq,ev⟩,fun x H'' y=>?_⟩
 obtain⟨rfl,y⟩:=y
 have ex:=y vs (fz.ziN h).sq
 obtain⟨v',ev',fv⟩:=(f.mono fz).get e
 rw [ex] at ev'
 cases ev'
 exact⟨zaM.refl _,fv⟩
theorem znn{H:Hp}{a:Addr}{vs:List V}{items:List D}(h:TAt H a vs)(f:zae K H items vs):Walk K (Itt K a) items H:=by
 refine⟨fun i d H' fz e=>?_,fun i H' fz e=>⟨vs,.inl (fz.zlv h),by rw [f.len];exact e⟩⟩
 obtain⟨v,ev,_⟩:=f.get e
 refine⟨⟨vs,v,.inl (fz.zlv h),ev⟩,fun x H'' y=>?_⟩
 obtain⟨rfl,y⟩:=y
 have ex:=y vs (.inl (fz.zlv h))
 obtain⟨v',ev',fv⟩:=(f.mono fz).get e
 rw [ex] at ev'
 cases ev'
 exact⟨zaM.refl _,fv⟩
theorem zbI(he:PV K X e f):PVI K X tg e (iE f):=.mk fun hK=>by
 subst hK
 refine(zsl (he rfl)).weak fun σ H R=>?_
 rintro⟨ρ,rel,q⟩
 refine goV rel q fun dx ρ1 x H1 rel1 st1 fx q1=>?_
 obtain⟨items,ei,q2⟩:=q1.zc0
 cases dx with
 | list a =>
  cases ei
  simp only [Fz] at fx
  obtain⟨l,vs,rfl,sx,f⟩:=fx
  exact⟨l,rfl,.inl ⟨⟨vs,sx.sq⟩,q2.now rel1 _ (zli sx f)⟩⟩
 | tuple a =>
  cases ei
  simp only [Fz] at fx
  obtain⟨l,vs,rfl,sx,f⟩:=fx
  exact⟨l,rfl,.inr ⟨⟨vs,.inl sx⟩,q2.now rel1 _ (znn sx f)⟩⟩
 | _=>cases ei
theorem p62:(2:Int)^62=4611686018427387904:=by decide
theorem zpY{lo hi:Int}{i:Nat}{d:D}(h:(rng lo hi)[i]?=some d):i<(hi-lo).toNat/\d=.int (lo+i):=by
 unfold rng at h
 rw [List.getElem?_map] at h
 by_cases c:i<(hi-lo).toNat
 ·rw [List.getElem?_range c] at h
  cases h
  exact⟨c,rfl⟩
 ·rw [List.getElem?_eq_none (by rw [List.length_range];omega)] at h;cases h
theorem zjJ{H:Hp}(lo hi:Int):Walk K (Itr lo (hi-lo).toNat) (rng lo hi) H:=by
 refine⟨fun i d H' fz e=>?_,fun i H' fz e=>?_⟩
 ·obtain⟨c,rfl⟩:=zpY e
  refine⟨c,fun x H'' y=>?_⟩
  obtain⟨rfl,rfl⟩:=y
  exact⟨zaM.refl _,zcY _⟩
 ·show(hi-lo).toNat<=i
  simpa [rng] using e
theorem za7{a:Expr}{fa:AF}{p:Pos}(hg:Gl X "range") (hm:X.mg "range"=none) (ha:PVA K X [a] fa) (hs:starEach [a] X.env=[(false,eval a X.env)]:=by exact FL.se rfl):PVI K X tg (.Call (.Name "range" p) [a] [] pos) (iR1 fa):=.mk fun hK=>(zlX hg hm (ha hK) hs).weak fun σ H R=>by
 rintro⟨ρ,rel,q⟩
 refine goA rel q fun ds ρ1 vs H1 rel1 st1 fs q1=>?_
 obtain⟨items,ei,q2⟩:=q1.zc0
 cases ds with
 | nil=>cases ei
 | cons d r =>
  cases r with
  | cons _ _=>cases d <;> cases ei
  | nil =>
   cases d with
   | int j =>
    obtain⟨c,ei⟩:=zaX (show chk (zge j&&leB j.toNat lim) (.ok (rng 0 j))=.ok items from ei)
    cases ei
    simp only [zae,Fz] at fs
    obtain⟨_,_,rfl,rfl,rfl⟩:=fs
    simp only [zge,Bool.and_eq_true,leB_iff] at c
    have:=zjJ (K:=K) (H:=H1) 0 j
    rw [Int.sub_zero] at this
    have e62:=p62
    exact⟨j,rfl,by omega,by omega,q2.now rel1 _ this⟩
   | _=>cases ei
theorem zkH{a b:Expr}{fa:AF}{p:Pos}(hg:Gl X "range") (hm:X.mg "range"=none) (ha:PVA K X [a,b] fa) (hs:starEach [a,b] X.env=[(false,eval a X.env),(false,eval b X.env)]:=by rfl) (hs2:starEach [b] X.env=[(false,eval b X.env)]:=by exact FL.se rfl) :
  PVI K X tg (.Call (.Name "range" p) [a,b] [] pos) (iR2 fa):=.mk fun hK=>(zlW hg hm (ha hK) hs hs2).weak fun σ H R=>by
 rintro⟨ρ,rel,q⟩
 refine goA rel q fun ds ρ1 vs H1 rel1 st1 fs q1=>?_
 obtain⟨items,ei,q2⟩:=q1.zc0
 have key:∃ i j,ds=[.int i,.int j]:=by
  cases ds with
  | nil=>cases ei
  | cons d r =>
   cases d with
   | int i =>
    cases r with
    | nil=>cases ei
    | cons d2 r =>
     cases d2 with
     | int j =>
      cases r with
      | nil=>exact⟨i,j,rfl⟩
      | cons _ _=>cases ei
     | _=>cases ei
   | _=>cases ei
 obtain⟨i,j,rfl⟩:=key
 obtain⟨c,ei⟩:=zaX (show chk (zge i&&zge j&&leB (j-i).toNat lim) (.ok (rng i j))=.ok items from ei)
 cases ei
 simp only [zae,Fz] at fs
 obtain⟨_,_,rfl,rfl,_,_,rfl,rfl,rfl⟩:=fs
 simp only [zge,Bool.and_eq_true,leB_iff] at c
 have e62:=p62
 exact⟨i,j,rfl,⟨by omega,by omega,by omega,by omega⟩,q2.now rel1 _ (zjJ i j)⟩
variable {it:IF}{g:GF}{b t:SF}{body:List Stmt}
theorem zp8{dom:List Nat}(hp:PassesOwn (model X.prog X.w) X.A X.env X.xe)(hc:X.calm=true)(hi:PVI K X tg e it)(hg:PVG K X dom tg g)(hb:zga K X body b)(hs:∀ x,foldedSetIterable e X.env x=pure x:=by intro _;rfl):PSV K X (.For tg e body [] pos) (zdJ it g b):=.mk fun hK C =>
 (zo3 hp hc (hi hK) (hg hK) (hb hK C) hs).weak fun Dn σ0 H0=>by
 rintro⟨ρ0,rel0,q⟩
 obtain⟨x,ex,q⟩:=q.bnd
 refine⟨ρ0,rel0.rel,?_⟩
 rw [ex]
 intro Hs r st J wk
 have rel1:=rel0.step r st
 have q1:=q.step (st.fzn rel0.rel)
 obtain⟨items,ρs⟩:=x
 refine⟨fun i m σ H=>m=items.length-i/\i<=items.length/\∃ ρ,zcI K C ρ σ H/\Fzn Hs H/\zbz K C H (forL g b (items.drop i) ρ) Dn,⟨items.length,by simp,Nat.zero_le _,ρs,rel1,Fzn.refl _,q1⟩,?_⟩
 rintro i m σ H ⟨rfl,hi,ρ,rel,fz,gd⟩
 by_cases c:i<items.length
 ·have ed:=List.drop_eq_getElem_cons c
  rw [ed] at gd
  obtain⟨hgo,hy⟩:=wk.1 i items[i] H fz (List.getElem?_eq_getElem c)
  refine .inr ⟨hgo,fun σ' H'=>∃ ρ,zcI K C ρ σ' H'/\Fzn Hs H'/\zbz K C H' (forL g b (items.drop (i+1)) ρ) Dn,fun σ' H' n=>⟨items.length-(i+1),by omega,rfl,c,n⟩,fun x H3 y=>?_⟩
  obtain⟨sm,fx⟩:=hy x H3 y
  have rel3:zcI K C ρ σ H3:=rel.step (rel.rel.same sm) (.of sm)
  obtain⟨ρ1,e1,gd1⟩:=gd.bnd
  refine⟨ρ,items[i],ρ1,rel3.rel,fx,e1,fun σ1 rel4 chg=>⟨ρ1,rel3.chg rel4 chg,?_⟩⟩
  obtain⟨y,ey,gd2⟩:=gd1.bnd
  rw [ey]
  have gd3:=gd2.step (Fzn.of sm)
  have fz3:=fz.trans (Fzn.of sm)
  obtain⟨fl,ρ2⟩:=y
  cases fl with
  | nx=>exact fun σ' H' r z=>⟨ρ2,r,fz3.trans z,gd3.step z⟩
  | ct=>exact fun σ' H' r z=>⟨ρ2,r,fz3.trans z,gd3.step z⟩
  | bk=>exact gd3
  | rt d=>exact gd3
  | rf d=>exact gd3
 ·have e:i=items.length:=by omega
  subst e
  rw [List.drop_length] at gd
  exact .inl ⟨wk.2 _ H fz (Nat.le_refl _),gd σ H rel (Fzn.refl _)⟩
theorem zh2{c:Expr}{tc:TF}(fuel:En->Nat)(hp:PassesOwn (model X.prog X.w) X.A X.env X.xe)(hc:PVT K X c tc)(hb:zga K X body b):PSV K X (.While c body [] pos) (zft fuel tc b):=.mk fun hK C =>
 (znU hp (hc hK) (hb hK C)).weak fun Dn σ0 H0=>by
 rintro⟨ρ0,rel0,q⟩
 refine⟨fun m σ H=>∃ ρ,zcI K C ρ σ H/\zbz K C H (zfq tc b m ρ) Dn,⟨fuel ρ0,ρ0,rel0,q⟩,?_⟩
 rintro m σ H ⟨ρ,rel,gd⟩
 cases m with
 | zero=>exact gd.elim
 | succ n =>
  refine zuG rel gd fun cb ρ1 H1 rel1 fz g1=>?_
  cases cb with
  | false=>exact zop (g1 σ H1 rel1 (Fzn.refl _))
  | true =>
   refine zoo ⟨fun σ' H'=>∃ ρ,zcI K C ρ σ' H'/\zbz K C H' (zfq tc b n ρ) Dn,fun σ' H' z=>⟨n,Nat.lt_succ_self _,z⟩,ρ1,rel1,?_⟩
   obtain⟨y,ey,gd2⟩:=(show zbz K C H1 ((b ρ1).bind fun y=>match y.1 with
   | .nx | .ct=>zfq tc b n y.2
   | .bk=>.ok (.nx,y.2)
   | .rt d=>.ok (.rt d,y.2)
   | .rf d=>.ok (.rf d,y.2)) Dn from g1).bnd
   rw [ey]
   obtain⟨fl,ρ2⟩:=y
   cases fl with
   | nx=>exact fun σ' H' r z=>⟨ρ2,r,gd2.step z⟩
   | ct=>exact fun σ' H' r z=>⟨ρ2,r,gd2.step z⟩
   | bk=>exact gd2
   | rt d=>exact gd2
   | rf d=>exact gd2
end
end
section
variable [Cs]
section
variable {K:PySem.W.Frag}{ρ:En}{σ:L2.St}{H H':Hp}{k:Nat}{ix:List Nat}
theorem zmZ{j:Nat}(h:j<k):(blk k ix ρ)[j]?=some .no:=by
 unfold blk
 rw [List.getElem?_append_left (by simpa using h),List.getElem?_replicate,if_pos h]
theorem zkq(j:Nat):(blk k ix ρ)[k+j]?=(ix[j]?).map fun i=>(ρ[i]?).getD .no:=by
 unfold blk
 rw [List.getElem?_append_right (by simp),List.length_replicate,Nat.add_sub_cancel_left,List.getElem?_map]
theorem zmU(j:Nat):(zeq k ix σ)[k+j]?=(ix[j]?).map fun i=>(σ[i]?).getD none:=by
 unfold zeq
 rw [List.getElem?_append_right (by simp),List.length_replicate,Nat.add_sub_cancel_left,List.getElem?_map]
theorem zgH{j:Nat}{a:Addr}(h:At (blk k ix ρ) (zeq k ix σ) j a):∃ j' i,j=k+j'/\ix[j']?=some i/\At ρ σ i a:=by
 obtain⟨⟨p,d,e1⟩,e2⟩:=h
 by_cases c:j<k
 ·rw [zmZ c] at e1;cases e1
 ·obtain⟨j',rfl⟩:∃ j',j=k+j':=⟨j-k,by omega⟩
  rw [zkq] at e1
  rw [zmU] at e2
  cases ei:ix[j']? with
  | none=>rw [ei] at e1;cases e1
  | some i =>
   rw [ei] at e1 e2
   refine⟨j',i,rfl,ei,⟨p,d,?_⟩,?_⟩
   ·simp only [Option.map_some,Option.some.injEq] at e1
    cases er:ρ[i]? with
    | none=>rw [er] at e1;cases e1
    | some x=>rw [er] at e1;simpa using e1
   ·simp only [Option.map_some,Option.some.injEq] at e2
    cases es:σ[i]? with
    | none=>rw [es] at e2;cases e2
    | some x=>rw [es] at e2;simpa using e2
theorem zma{l:List Nat}(h:l.Nodup){i j x:Nat}(a:l[i]?=some x)(b:l[j]?=some x):i=j:=by
 obtain⟨h1,e1⟩:=List.getElem?_eq_some_iff.mp a
 obtain⟨h2,e2⟩:=List.getElem?_eq_some_iff.mp b
 exact(List.getElem_inj h).mp (e1.trans e2.symm)
theorem zmY(nd:ix.Nodup)(r:Rel K ρ σ H):Rel K (blk k ix ρ) (zeq k ix σ) H:=by
 refine⟨by simp [blk,zeq],fun j x v e1 e2=>?_,fun i j a h1 h2=>?_,r.cst⟩
 ·by_cases c:j<k
  ·rw [zmZ c] at e1;cases e1;trivial
  ·obtain⟨j',rfl⟩:∃ j',j=k+j':=⟨j-k,by omega⟩
   rw [zkq] at e1
   rw [zmU] at e2
   cases ei:ix[j']? with
   | none=>rw [ei] at e1;cases e1
   | some i =>
    rw [ei] at e1 e2
    simp only [Option.map_some,Option.some.injEq] at e1 e2
    cases er:ρ[i]? with
    | none=>rw [er] at e1;cases e1;trivial
    | some y =>
     have hl:i<σ.length:=by rw [<- r.len];exact(List.getElem?_eq_some_iff.mp er).1
     rw [er] at e1
     rw [List.getElem?_eq_getElem hl] at e2
     cases e1;cases e2
     exact r.ok i _ _ er (List.getElem?_eq_getElem hl)
 ·obtain⟨i',x,rfl,e1,a1⟩:=zgH h1
  obtain⟨j',y,rfl,e2,a2⟩:=zgH h2
  have:=r.sep x y a a1 a2
  subst this
  rw [zma nd e1 e2]
theorem zjx{m:List (Nat×Sl)}:∀(ρ:En) (n i:Nat),(bkL m n ρ)[i]?=(ρ[i]?).map (bk1 m (n+i))
 | [],n,i=>by simp [bkL]
 | x::r,n,0=>by simp [bkL]
 | x::r,n,i+1=>by
  simp only [bkL,zz1]
  rw [zjx r (n+1) i,show n+1+i=n+(i+1) by omega]
theorem zks{cs:En}(i:Nat):(back ρ ix cs)[i]?=(ρ[i]?).map (bk1 (ix.zip cs) i):=by
 unfold back
 rw [zjx,Nat.zero_add]
theorem zjw{m:List (Nat×Sl)}:∀(ρ:En) (n:Nat),(bkL m n ρ).length=ρ.length
 | [],n=>rfl
 | x::r,n=>by simp [bkL,zjw r]
theorem zgp:∀{ix:List Nat} {cs:En} {i:Nat} {c:Sl},(ix.zip cs).lookup i=some c->∃ j:Nat,ix[j]?=some i/\cs[j]?=some c
 | [],cs,i,c,h=>by simp at h
 | x::r,[],i,c,h=>by simp at h
 | x::r,y::s,i,c,h=>by
  rw [List.zip_cons_cons,List.lookup_cons] at h
  by_cases e:i=x
  ·subst e
   simp only [beq_self_eq_true] at h
   cases h
   exact⟨0,rfl,rfl⟩
  ·rw [beq_false_of_ne e] at h
   obtain⟨j,h1,h2⟩:=zgp h
   exact⟨j+1,by simpa using h1,by simpa using h2⟩
theorem zdV:∀{ix:List Nat} {cs:En} {i j:Nat} {c:Sl},ix.Nodup->ix[j]?=some i->cs[j]?=some c->(ix.zip cs).lookup i=some c
 | [],cs,i,j,c,_,h1,_=>by simp at h1
 | x::r,[],i,j,c,_,_,h2=>by simp at h2
 | x::r,y::s,i,j,c,nd,h1,h2=>by
  rw [List.zip_cons_cons,List.lookup_cons]
  cases j with
  | zero =>
   simp at h1 h2
   subst h1;subst h2
   simp
  | succ j =>
   simp at h1 h2
   have:i≠x:=fun z=>by
    subst z
    exact(List.nodup_cons.mp nd).1 (List.mem_of_getElem? h1)
   rw [beq_false_of_ne this]
   exact zdV (List.nodup_cons.mp nd).2 h1 h2
theorem zhD{β:En}{σβ:L2.St}(nd:ix.Nodup)(r:Rel K ρ σ H)(hs:∀ j,σβ[k+j]?=(zeq k ix σ)[k+j]?)(rb:Rel K β σβ H')
  (md:∀ j p,(∃ d,β[k+j]?=some (.ow p d))↔∃ d,(blk k ix ρ)[k+j]?=some (.ow p d))(kp:∀ a o,H a=some o->¬ MA (blk k ix ρ) (zeq k ix σ) a->H' a=some o) :
  Rel K (back ρ ix (β.drop k)) σ H'/\Stp ρ (back ρ ix (β.drop k)) σ H H':=by
 have hm:∀ a,MA (blk k ix ρ) (zeq k ix σ) a->MA ρ σ a:=fun a ⟨j,h⟩=>by
  obtain⟨_,i,_,_,h⟩:=zgH h
  exact⟨i,h⟩
 have fz:Fzn H H':=fun a o h st=>kp a o h fun m=>by
  obtain⟨o',e,w⟩:=r.zaO (hm a m)
  rw [h] at e
  cases e
  exact w.zcs st
 have mdB:∀(i:Nat) p,(∃ d,ρ[i]?=some (.ow p d))↔∃ d,(back ρ ix (β.drop k))[i]?=some (.ow p d):=fun i p=>by
  rw [zks]
  constructor
  ·rintro⟨d,e⟩
   rw [e]
   simp only [Option.map_some,bk1]
   split
   ·rename_i p' d1 q' d2 h1 h2;cases h1;exact⟨_,rfl⟩
   ·exact⟨_,rfl⟩
  ·rintro⟨d,e⟩
   cases er:ρ[i]? with
   | none=>rw [er] at e;cases e
   | some x =>
    rw [er] at e
    simp only [Option.map_some,Option.some.injEq,bk1] at e
    split at e
    ·cases e;exact⟨_,rfl⟩
    ·subst e;exact⟨_,rfl⟩
 have atB:∀ i a,At (back ρ ix (β.drop k)) σ i a->At ρ σ i a:=fun i a ⟨⟨p,d,e1⟩,e2⟩=>⟨⟨p,(mdB i p).mpr ⟨d,e1⟩⟩,e2⟩
 refine⟨⟨by rw [show(back ρ ix (β.drop k)).length=ρ.length from zjw _ _];exact r.len,fun i x v e1 e2=>?_,fun i j a h1 h2=>r.sep i j a (atB i a h1) (atB j a h2),r.cst.mono fz⟩,⟨mdB,fun a o h n=>kp a o h fun m=>n (hm a m)⟩⟩
 rw [zks] at e1
 cases er:ρ[i]? with
 | none=>rw [er] at e1;cases e1
 | some y =>
  rw [er] at e1
  simp only [Option.map_some,Option.some.injEq] at e1
  have o:=r.ok i y v er e2
  cases y with
  | no=>simp only [bk1] at e1;subst e1;trivial
  | val d =>
   simp only [bk1] at e1
   subst e1
   exact o.mono fz fun a _ ⟨p,d',z⟩=>nomatch z
  | ob c ds =>
   simp only [bk1] at e1
   subst e1
   exact o.mono fz fun a _ ⟨p,d',z⟩=>nomatch z
  | ow p d =>
   cases v with
   | none=>exact o.elim
   | some v =>
    cases v with
    | ref a =>
     have ai:At ρ σ i a:=⟨⟨p,d,er⟩,e2⟩
     cases el:(ix.zip (β.drop k)).lookup i with
     | none =>
      simp only [bk1,el] at e1
      subst e1
      refine o.mono fz fun b e3 _=>?_
      cases e3
      obtain⟨u,hu,_⟩:=r.zaO ⟨i,ai⟩
      rw [hu]
      refine kp a u hu fun⟨j,h⟩=>?_
      obtain⟨j',i',rfl,ej,h'⟩:=zgH h
      have:=r.sep i i' a ai h'
      subst this
      have hb:β[k+j']?≠none:=fun z=>by
       have:∃ d,β[k+j']?=some (.ow p d):=(md j' p).mpr ⟨d,by rw [zkq,ej];simp [er]⟩
       obtain⟨_,w⟩:=this
       rw [z] at w;cases w
      cases hbe:β[k+j']? with
      | none=>exact hb hbe
      | some c =>
       have:(β.drop k)[j']?=some c:=by rw [List.getElem?_drop];exact hbe
       rw [zdV nd ej this] at el
       cases el
     | some c =>
      obtain⟨j,hj,hc⟩:=zgp el
      rw [List.getElem?_drop] at hc
      have bm:(blk k ix ρ)[k+j]?=some (.ow p d):=by rw [zkq,hj];simp [er]
      obtain⟨d',hd'⟩:=(md j p).mpr ⟨d,bm⟩
      rw [hc] at hd'
      cases hd'
      simp only [bk1,el] at e1
      subst e1
      have es:σβ[k+j]?=some (some (.ref a)):=by rw [hs j,zmU,hj];simp [e2]
      exact rb.ok (k+j) _ _ hc es
    | _=>exact o.elim
end
theorem zhr{K:PySem.W.Frag}{k:Nat}{dom:List Nat}{g:GF}(hd:dom.all (fun i=>decide (i<k))=true):zne k (tG K dom g):=fun x σ H Q=>by
 rintro⟨ρ,d,ρ1,rel,fz,e,q⟩
 refine⟨ρ,d,ρ1,rel,fz,e,fun σ1 rel1 c=>⟨⟨c.1,fun i hi=>?_⟩,q σ1 rel1 c⟩⟩
 rcases c.2 i with⟨_,c2⟩|⟨m,_⟩
 ·exact c2
 ·have:=of_decide_eq_true (List.all_eq_true.mp hd i m)
  omega
structure zoR(K:PySem.W.Frag)(X:Cx)(ifs:List Expr)(t:TF):Prop where
 run:X.K=K->PTs X ifs (tT K t)
instance {K:PySem.W.Frag} {X:Cx} {ifs:List Expr} {t:TF}:CoeFun (zoR K X ifs t) fun _=>X.K=K->PTs X ifs (tT K t):=⟨zoR.run⟩
theorem _root_.L2.PTs.weak{X:Cx}{e:List Expr}{t t':TT}(h:PTs X e t)(w:∀ σ H Q,t' σ H Q->t σ H Q):PTs X e t':=fun pins s σ H Q I q=>h pins s σ H Q I (w σ H Q q)
theorem za6{K:PySem.W.Frag}{X:Cx}:zoR K X [] zbG:=.mk fun _=>zqh.weak fun σ H Q=>by
 rintro⟨ρ,rel,q⟩
 exact q.now rel
theorem zfc{K:PySem.W.Frag}{X:Cx}{c:Expr}{t:TF}(h:PVT K X c t):zoR K X [c] t:=.mk fun hK=>zqg (h hK)
section
variable {K:PySem.W.Frag}{X:Cx}{elt tg iter:Expr}{ifs:List Expr}{scope:Scope}{pos:Pos}{it:IF}{g:GF}{t:TF}{f:EF}{dom:List Nat}
theorem zpq{k:Nat}{ix:List Nat}(nd:ix.Nodup)(hgo:dom.all (fun i=>decide (i<k))=true)(σ:L2.St)(H:Hp)(Q:VK)(q:tN K (zbd k ix it g t f) σ H Q):ziU k ix (tI K it) (tG K dom g) (tT K t) (tV K f) σ H Q:=by
 revert q
 rintro⟨ρ0,rel0,q⟩
 obtain⟨x,ex,q⟩:=q.bnd
 refine⟨ρ0,rel0,?_⟩
 rw [ex]
 intro H1 rel1 st1 J wk l hl
 obtain⟨items,ρs⟩:=x
 have hl0:H l=none:=by
  cases e:H l with
  | none=>rfl
  | some o =>
   by_cases m:MA ρ0 σ l
   ·obtain⟨o',e',_⟩:=rel1.zaO (st1.ma.mp m)
    rw [hl] at e';cases e'
   ·rw [st1.kp l o e m] at hl;cases hl
 have sl:zaM H1 (upd H1 l (.lst [])):=zaM.upd hl
 refine⟨fun i m ys H2=>m=items.length-i/\i<=items.length/\H2 l=some (.lst ys)/\∃ ρ acc,Rel K ρ σ H2/\¬ MA ρ σ l/\zae K H2 acc ys/\Fzn H1 H2/\Stp ρ0 ρ σ H H2 /\
  Good K ρ0 σ H ((zcx k ix g t f (items.drop i) ρ acc).bind fun(y:List D×En)=>.ok ((PyData.list y.1:D),y.2)) fun d ρ' H'=>∀ a,H a=none->zby K H' a d->Q (.ref a) H',
  ⟨items.length,by simp,Nat.zero_le _,zal,ρs,[],rel1.same sl,fun z=>?_,by simp [zae],Fzn.of sl,st1.trans (.of sl),q⟩,?_⟩
 ·obtain⟨o',e',_⟩:=rel1.zaO z
  rw [hl] at e';cases e'
 rintro i m ys H2 ⟨rfl,hi,hly,ρ,acc,rel,nma,fa,fz,st0,gd⟩
 refine⟨hly,?_⟩
 by_cases c:i<items.length
 ·have ed:=List.drop_eq_getElem_cons c
  rw [ed] at gd
  obtain⟨hgo',hy⟩:=wk.1 i items[i] H2 fz (List.getElem?_eq_getElem c)
  refine .inr ⟨hgo',fun x H3 y=>?_⟩
  obtain⟨sm,fx⟩:=hy x H3 y
  have rel3:Rel K ρ σ H3:=rel.same sm
  obtain⟨w,ew,gd⟩:=gd.zc0
  obtain⟨β1,e1,ew⟩:=zai (show(g items[i] (blk k ix ρ)).bind _=.ok w from ew)
  obtain⟨c1,ec,ew⟩:=zai ew
  refine⟨blk k ix ρ,items[i],β1,zmY nd rel3,fx,e1,fun σ1 relβ chg=>⟨β1,relβ,?_⟩⟩
  rw [ec]
  intro H5 rel5 st5
  have hσ:∀ j,σ1[k+j]?=(zeq k ix σ)[k+j]?:=fun j=>by
   rcases chg.2 (k+j) with⟨_,c2⟩|⟨m,_⟩
   ·exact c2
   ·have:=of_decide_eq_true (List.all_eq_true.mp hgo _ m)
    omega
  have hβ:∀ j,β1[k+j]?=(blk k ix ρ)[k+j]?:=fun j=>by
   rcases chg.2 (k+j) with⟨c2,_⟩|⟨m,_⟩
   ·exact c2
   ·have:=of_decide_eq_true (List.all_eq_true.mp hgo _ m)
    omega
  have hMA:∀ a,MA β1 σ1 a->MA (blk k ix ρ) (zeq k ix σ) a:=fun a ⟨j,⟨p,d,z1⟩,z2⟩=>by
   rcases chg.2 j with⟨c1,c2⟩|⟨_,⟨d',c1⟩,_⟩
   ·exact⟨j,⟨p,d,by rw [<- c1];exact z1⟩,by rw [<- c2];exact z2⟩
   ·rw [c1] at z1;cases z1
  have hMB:∀ a,MA (blk k ix ρ) (zeq k ix σ) a->MA ρ σ a:=fun a ⟨j,h⟩=>by
   obtain⟨_,i,_,_,h⟩:=zgH h
   exact⟨i,h⟩
  have h3l:H3 l=some (.lst ys):=sm l _ hly
  have n1:¬ MA β1 σ1 l:=fun z=>nma (hMB l (hMA l z))
  have h5l:H5 l=some (.lst ys):=st5.kp l _ h3l n1
  obtain⟨cb,β2⟩:=c1
  cases cb with
  | true =>
   refine zoo ⟨β2,rel5,?_⟩
   obtain⟨y,ey,ew⟩:=zai (show(f β2).bind _=.ok w from ew)
   rw [ey]
   intro H6 rel6 st6 v fv
   obtain⟨cc,ew⟩:=zaX ew
   have n2:¬ MA β2 σ1 l:=fun z=>n1 (st5.ma.mpr z)
   have h6l:H6 l=some (.lst ys):=st6.kp l _ h5l n2
   have st:Stp β1 y.2 σ1 H3 H6:=st5.trans st6
   obtain⟨rb,sb⟩:=zhD (k:=k) nd rel3 hσ rel6 (fun j p=>by rw [<- hβ j];exact(st.md (k+j) p).symm) (fun a o h n=>st.kp a o h fun z=>n (hMA a z))
   have nmb:¬ MA (back ρ ix (y.2.drop k)) σ l:=fun z=>nma (sb.ma.mpr z)
   have fz6:Fzn H2 H6:=(Fzn.of sm).trans (sb.fzn rel3)
   have fz7:Fzn H6 (upd H6 l (.lst (ys++[v]))):=fun b u e s=>by
    rw [zao fun z=>by subst z;rw [h6l] at e;cases e;exact s]
    exact e
   refine⟨h6l,?_,items.length-(i+1),by omega,rfl,c,zal,back ρ ix (y.2.drop k),acc++[y.1],rb.put nmb (fun u e=>by rw [h6l] at e;cases e;exact fun z=>z),nmb,?_,(fz.trans fz6).trans fz7,⟨((st0.trans (.of sm)).trans sb).md,fun a o h n=>?_⟩,?_⟩
   ·have:=zeA cc
    have l0:=zbo
    rw [fa.len];omega
   ·refine((fa.mono fz6).mono fz7).app ?_
    simp only [zae]
    exact⟨v,[],rfl,fv.mono fz7,rfl⟩
   ·rw [zao fun z=>by subst z;rw [hl0] at h;cases h]
    exact((st0.trans (.of sm)).trans sb).kp a o h n
   ·rw [ew]
    exact gd
  | false =>
   obtain⟨rb,sb⟩:=zhD (k:=k) nd rel3 hσ rel5 (fun j p=>by rw [<- hβ j];exact(st5.md (k+j) p).symm) (fun a o h n=>st5.kp a o h fun z=>n (hMA a z))
   have nmb:¬ MA (back ρ ix (β2.drop k)) σ l:=fun z=>nma (sb.ma.mpr z)
   have fz6:Fzn H2 H5:=(Fzn.of sm).trans (sb.fzn rel3)
   refine zop ⟨items.length-(i+1),by omega,rfl,c,h5l,back ρ ix (β2.drop k),acc,rb,nmb,fa.mono fz6,fz.trans fz6,(st0.trans (.of sm)).trans sb,?_⟩
   rw [show zcx k ix g t f (items.drop (i+1)) (back ρ ix (β2.drop k)) acc=.ok w from ew]
   exact gd
 ·have e:i=items.length:=by omega
  subst e
  rw [List.drop_length] at gd
  exact .inl ⟨wk.2 _ H2 fz (Nat.le_refl _),gd H2 rel st0 l hl0 ⟨ys,hly,fa⟩⟩
theorem znI(L:List Str)(ix:List Nat)(M:List Str)(hc:X.calm=true)(hk:scope.kind=.function)(hd:zcR X.env.scope scope X.N ix=true)(hM:M=L++ix.map fun i=>X.N.getD i "") (nd:ix.Nodup) (hi:PVI K X tg iter it)
  (hg:∀ C s₃ H₃ fp,PVG K (zat X M scope C s₃ H₃ fp) dom tg g) (hgo:dom.all (fun i=>decide (i<L.length))=true)
  (ht:∀ C s₃ H₃ fp,zoR K (zat X M scope C s₃ H₃ fp) ifs t) (he:∀ C s₃ H₃ fp,PV K (zat X M scope C s₃ H₃ fp) elt f)
  (hs:∀ x,foldedSetIterable iter X.env x=pure x:=by intro _;rfl) :
  PVN K X (.ListComp elt [⟨tg,iter,ifs,0⟩] scope pos) (zbd L.length ix it g t f):=.mk fun hK=>by
 refine(zn0 L ix M hc hk hd hM (hi hK) (fun C s₃ H₃ fp=>hg C s₃ H₃ fp hK) (zhr hgo) (fun C s₃ H₃ fp=>ht C s₃ H₃ fp hK) (fun C s₃ H₃ fp=>he C s₃ H₃ fp hK) hs).weak fun σ H Q q=>zpq nd hgo σ H Q q
end
end
section
variable [Cs]
def spF(K:PySem.W.Frag)(ms:List Bool)(fr:Bool)(F:List D->R (D×List D)):Sp:=fun vs H Q _=>∃ ds,vs.length=ms.length/\ds.length=ms.length/\Rel K (slots ms ds) (vs.map some) H /\
 ∃ d os,F ds=.ok (d,os)/\∀ v H',Rel K (slots ms os) (vs.map some) H'->(∀ a o,H a=some o->¬ MA (slots ms ds) (vs.map some) a->H' a=some o) ->
  (if fr=true then ∃ a,v=.ref a/\H a=none/\zby K H' a d else Fz K H' d v)->Q v H'
def spP(K:PySem.W.Frag)(n:Nat)(fr:Bool)(G:List D->R D):Sp:=fun vs H Q _=>∃ ds,vs.length=n/\znh H/\zae K H ds vs/\∃ d,G ds=.ok d/\∀ v H',zaM H H'->(if fr=true then ∃ a,v=.ref a/\H a=none/\zby K H' a d else Fz K H' d v)->Q v H'
theorem zb8:∀{ms:List Bool} {ds:List D} {i:Nat},ds.length=ms.length->(slots ms ds)[i]?=(ms[i]?).bind fun m=>(ds[i]?).map fun d=>if m=true then Sl.ow true d else Sl.val d
 | [],[],i,_=>by simp [slots]
 | [],_::_,i,h=>by simp at h
 | _::_,[],i,h=>by simp at h
 | m::ms,d::ds,0,_=>by simp [slots]
 | m::ms,d::ds,i+1,h=>by
  simp only [slots,zz1]
  exact zb8 (by simpa using h)
theorem zc4:∀{ms:List Bool} {ds:List D},ds.length=ms.length->(slots ms ds).length=ms.length
 | [],[],_=>rfl
 | [],_::_,h=>by simp at h
 | _::_,[],h=>by simp at h
 | m::ms,d::ds,h=>by simp only [slots,List.length_cons];rw [zc4 (by simpa using h)]
theorem zd9:∀{ms:List Bool} {ds:List D} {ρ:En},ds.length=ms.length->(outs ms ds ρ).length=ms.length
 | [],[],_,_=>rfl
 | [],_::_,_,h=>by simp at h
 | _::_,[],_,h=>by simp at h
 | m::ms,d::ds,ρ,h=>by simp only [outs,List.length_cons];rw [zd9 (by simpa using h)]
theorem zj4:∀{ms:List Bool} {ds:List D} {ρ:En} {i:Nat} {m:Bool} {d:D},ms[i]?=some m->ds[i]?=some d->(outs ms ds ρ)[i]?=some (outD m d ρ[i]?)
 | m0::ms,d0::ds,ρ,0,m,d,h1,h2=>by
  simp at h1 h2
  subst h1;subst h2
  simp [outs,List.head?_eq_getElem?]
 | m0::ms,d0::ds,ρ,i+1,m,d,h1,h2=>by
  simp at h1 h2
  simp only [outs,zz1]
  rw [zj4 h1 h2,List.getElem?_tail]
 | [],_,_,_,_,_,h,_=>by simp at h
 | _::_,[],_,_,_,_,_,h=>by simp at h
section
variable {K:PySem.W.Frag}{ρ:En}{σ:L2.St}{H:Hp}
theorem Rel.pad(r:Rel K ρ σ H)(n:Nat):Rel K (ρ++List.replicate n .no) (σ++List.replicate n none) H:=by
 have w:∀ i a,At (ρ++List.replicate n .no) (σ++List.replicate n none) i a->At ρ σ i a:=fun i a ⟨⟨p,d,e1⟩,e2⟩=>by
  by_cases c:i<ρ.length
  ·rw [List.getElem?_append_left c] at e1
   rw [List.getElem?_append_left (by rw [<- r.len];exact c)] at e2
   exact⟨⟨p,d,e1⟩,e2⟩
  ·rw [List.getElem?_append_right (by omega),List.getElem?_replicate] at e1
   split at e1 <;> cases e1
 refine⟨by simp [r.len],fun i x v e1 e2=>?_,fun i j a h1 h2=>r.sep i j a (w i a h1) (w j a h2),r.cst⟩
 by_cases c:i<ρ.length
 ·rw [List.getElem?_append_left c] at e1
  rw [List.getElem?_append_left (by rw [<- r.len];exact c)] at e2
  exact r.ok i x v e1 e2
 ·rw [List.getElem?_append_right (by omega),List.getElem?_replicate] at e1
  split at e1
  ·cases e1;trivial
  ·cases e1
theorem zsL{n:Nat}{a:Addr}(hl:ρ.length=σ.length):MA (ρ++List.replicate n .no) (σ++List.replicate n none) a↔MA ρ σ a:=by
 constructor
 ·rintro⟨i,⟨p,d,e1⟩,e2⟩
  by_cases c:i<ρ.length
  ·rw [List.getElem?_append_left c] at e1
   rw [List.getElem?_append_left (by rw [<- hl];exact c)] at e2
   exact⟨i,⟨p,d,e1⟩,e2⟩
  ·rw [List.getElem?_append_right (by omega),List.getElem?_replicate] at e1
   split at e1 <;> cases e1
 ·rintro⟨i,⟨p,d,e1⟩,e2⟩
  have c:=(List.getElem?_eq_some_iff.mp e1).1
  exact⟨i,⟨p,d,by rw [List.getElem?_append_left c];exact e1⟩,by rw [List.getElem?_append_left (by rw [<- hl];exact c)];exact e2⟩
end
theorem zdn{ms:List Bool}{ds:List D}{i:Nat}{p:Bool}{d:D}(hl:ds.length=ms.length)(e:(slots ms ds)[i]?=some (.ow p d)):p=true/\ms[i]?=some true/\ds[i]?=some d:=by
 rw [zb8 hl] at e
 cases em:ms[i]? with
 | none=>rw [em] at e;cases e
 | some m =>
  cases ed:ds[i]? with
  | none=>rw [em,ed] at e;cases e
  | some d' =>
   rw [em,ed] at e
   cases m with
   | true=>simp at e;exact⟨e.1,rfl,by rw [e.2]⟩
   | false=>simp at e
section
variable {P:Program}{w:World}{K:PySem.W.Frag}{mg:Str->Option Value}{base:Heap}
theorem zmL{x:Str}{st:Stmt}{f:Addr}{fd:FuncData}{N ps:List Str}{k:Nat}{b:SF}(ms:List Bool)(fr:Bool)(h:Fun K x x st f fd)(S:zbZ N ps (zak st))(hps:ps.length=ms.length)(hpN:ps.length<=N.length)
  (hb:∀(cdv:Value) (A:Around) (outer:List Env) (s:Shared) (H:Hp) (E:XK),zbU k (A.deeper (envOfC x (zak st) s.heap.objs.size f cdv))->zga K (zjt (CXe P w) P w K mg base N x (zak st) f cdv A outer s H E) (zaB st) b) :
  zes P w K mg base (CXe P w) (k+1) f fd ps (spF K ms fr (run ms fr N.length b)):=by
 refine h.okE S (fun vs H Q E ⟨ds,e,_⟩=>by rw [e,hps]) fun cdv A outer s H vs Q E hr hq=>?_
 obtain⟨ds,hv,hd,rel,d,os,hF,q⟩:=hq
 have hst:L2.start N vs=vs.map some++List.replicate (N.length-ds.length) none:=by unfold L2.start;rw [hv,hd]
 refine⟨tS K ⟨H,L2.start N vs,slots ms ds++List.replicate (N.length-ds.length) .no⟩ b,hb cdv A outer s H E hr rfl _,slots ms ds++List.replicate (N.length-ds.length) .no,?_,?_⟩
 ·have tru:∀(i:Nat) p d,(slots ms ds++List.replicate (N.length-ds.length) .no)[i]?=some (.ow p d)->p=true:=fun i p d e=>by
   by_cases c:i<(slots ms ds).length
   ·rw [List.getElem?_append_left c] at e
    exact(zdn hd e).1
   ·rw [List.getElem?_append_right (by omega),List.getElem?_replicate] at e
    split at e <;> cases e
  refine⟨?_,fun a o e _=>e,fun i a d e _=>absurd (tru i false d e) Bool.false_ne_true,fun i=>Iff.rfl,fun i d e=>rfl,tru⟩
  rw [hst]
  exact rel.pad _
 ·unfold run at hF
  rw [if_pos hd] at hF
  obtain⟨y,ey,hF⟩:=zai hF
  rw [ey]
  have fin:∀(ρ':En) (σ':L2.St) (H':Hp),zcI K ⟨H,L2.start N vs,slots ms ds++List.replicate (N.length-ds.length) .no⟩ ρ' σ' H' ->
    Rel K (slots ms (outs ms ds ρ')) (vs.map some) H'/\(∀ a o,H a=some o->¬ MA (slots ms ds) (vs.map some) a->H' a=some o):=fun ρ' σ' H' r=>by
   have hl0:(slots ms ds).length=(vs.map some).length:=by rw [zc4 hd,List.length_map,hv]
   have kp:∀ a o,H a=some o->¬ MA (slots ms ds) (vs.map some) a->H' a=some o:=fun a o e n=>r.keep a o e fun z=>n (by
    have z':MA (slots ms ds++List.replicate (N.length-ds.length) .no) (L2.start N vs) a:=z
    rw [hst] at z'
    exact(zsL hl0).mp z')
   have fz:Fzn H H':=fun a o e sy=>kp a o e fun m=>by
    obtain⟨o',e',ow⟩:=rel.zaO m
    rw [e] at e'
    cases e'
    exact ow.zcs sy
   refine⟨?_,kp⟩
   have pinned:∀(i:Nat) d0,ms[i]?=some true->ds[i]?=some d0->∃ d',ρ'[i]?=some (.ow true d')/\σ'[i]?=(vs.map some)[i]?:=fun i d0 em ed=>by
    have hi:i<(slots ms ds).length:=by rw [zc4 hd];exact(List.getElem?_eq_some_iff.mp em).1
    have e0:(slots ms ds++List.replicate (N.length-ds.length) .no)[i]?=some (.ow true d0):=by
     rw [List.getElem?_append_left hi,zb8 hd,em,ed];rfl
    obtain⟨d',e'⟩:=(r.pin i).mpr ⟨d0,e0⟩
    refine⟨d',e',?_⟩
    rw [r.fix i d' e']
    show(L2.start N vs)[i]?=_
    rw [hst,List.getElem?_append_left (by rw [<- hl0];exact hi)]
   have ho:(outs ms ds ρ').length=ms.length:=zd9 hd
   refine⟨by rw [zc4 ho,List.length_map,hv],fun i x v e1 e2=>?_,fun i j a h1 h2=>?_,rel.cst.mono fz⟩
   ·rw [zb8 ho] at e1
    cases em:ms[i]? with
    | none=>rw [em] at e1;cases e1
    | some m =>
     have hi:i<ds.length:=by rw [hd];exact(List.getElem?_eq_some_iff.mp em).1
     have ed:=List.getElem?_eq_getElem hi
     rw [em,zj4 em ed] at e1
     cases m with
     | true =>
      obtain⟨d',e3,e4⟩:=pinned i _ em ed
      rw [e3] at e1
      cases e1
      rw [<- e4] at e2
      exact r.rel.ok i _ _ e3 e2
     | false =>
      cases e1
      have e5:(slots ms ds)[i]?=some (.val ds[i]):=by rw [zb8 hd,em,ed];rfl
      exact(rel.ok i _ _ e5 e2).mono fz fun a _ ⟨p,d',z⟩=>nomatch z
   ·have w:∀ i a,At (slots ms (outs ms ds ρ')) (vs.map some) i a->At (slots ms ds) (vs.map some) i a:=fun i a ⟨⟨p,d0,e1⟩,e2⟩=>by
     obtain⟨rfl,em,_⟩:=zdn ho e1
     have hi:i<ds.length:=by rw [hd];exact(List.getElem?_eq_some_iff.mp em).1
     have ed:=List.getElem?_eq_getElem hi
     exact⟨⟨true,ds[i],by rw [zb8 hd,em,ed];rfl⟩,e2⟩
    exact rel.sep i j a (w i a h1) (w j a h2)
  obtain⟨fl,ρ'⟩:=y
  cases fr with
  | false =>
   cases fl with
   | rt dr =>
    cases hF
    exact fun v σ' H' r fz=>q v H' (fin ρ' σ' H' r).1 (fin ρ' σ' H' r).2 fz
   | nx =>
    cases hF
    exact fun σ' H' r fz=>q .non H' (fin ρ' σ' H' r).1 (fin ρ' σ' H' r).2 (by show Fz K H' .none .non;simp [Fz])
   | _=>cases hF
  | true =>
   cases fl with
   | rf dr =>
    cases hF
    exact fun a σ' H' r ha m=>q (.ref a) H' (fin ρ' σ' H' r).1 (fin ρ' σ' H' r).2 ⟨a,rfl,ha,m⟩
   | _=>cases hF
theorem zs6{x:Str}{st:Stmt}{N ps:List Str}{k:Nat}{b:SF}(ms:List Bool)(fr:Bool)(h:Has K mg x st)(S:zbZ N ps (zak st))(hps:ps.length=ms.length)(hpN:ps.length<=N.length)
  (hbi:∀(kV doc pm:Value) (an:Option Addr) (cdv ct:Value) (us:List Value),us.length=ps.length->bindArgs (PySem.W.fnOf x x (zbM st) (zaB st) (zak st) .none kV doc pm an cdv ct) ⟨us,[]⟩=pure (ps.zip us))
  (hb:∀(f:Addr) (cdv:Value) (A:Around) (outer:List Env) (s:Shared) (H:Hp) (E:XK),zbU k (A.deeper (envOfC x (zak st) s.heap.objs.size f cdv))->zga K (zjt (CXe P w) P w K mg base N x (zak st) f cdv A outer s H E) (zaB st) b) :
  Callee P w K mg base x (k+1) ps (spF K ms fr (run ms fr N.length b)):=by
 obtain⟨f,fd,hm,F⟩:=h
 exact⟨f,fd,hm,F.kp,F.binds hbi,zmL ms fr F S hps hpN (hb f)⟩
end
end
section
variable [Cs]
theorem zdH:∀{n:Nat} {ds:List D},ds.length=n->slots (List.replicate n false) ds=ds.map Sl.val
 | 0,[],_=>rfl
 | n+1,d::ds,h=>by
  simp only [List.replicate_succ,slots,List.map_cons]
  rw [zdH (by simpa using h)]
  rfl
 | 0,_::_,h=>by simp at h
 | n+1,[],h=>by simp at h
theorem zjR{K:PySem.W.Frag}{H:Hp}:∀{ds:List D} {vs:List V},znh H->zae K H ds vs->Rel K (ds.map Sl.val) (vs.map some) H:=fun{ds vs} cst f=>by
 refine⟨by simp [f.len],fun i x v e1 e2=>?_,fun i j a ⟨⟨p,d,e⟩,_⟩=>?_,cst⟩
 ·rw [List.getElem?_map] at e1 e2
  cases ed:ds[i]? with
  | none=>rw [ed] at e1;cases e1
  | some d =>
   obtain⟨u,eu,fu⟩:=f.get ed
   rw [ed] at e1
   rw [eu] at e2
   cases e1;cases e2
   exact fu
 ·rw [List.getElem?_map] at e
  cases ed:ds[i]? with
  | none=>rw [ed] at e;cases e
  | some d=>rw [ed] at e;cases e
theorem zkP{ds:List D}{σ:L2.St}{a:Addr}:¬ MA (ds.map Sl.val) σ a:=by
 rintro⟨i,⟨p,d,e⟩,_⟩
 rw [List.getElem?_map] at e
 cases ed:ds[i]? with
 | none=>rw [ed] at e;cases e
 | some d=>rw [ed] at e;cases e
section
variable {P:Program}{w:World}{K:PySem.W.Frag}{mg:Str->Option Value}{base:Heap}{x:Str}{k:Nat}{ps:List Str}
theorem zes.pure{f:Addr}{fd:FuncData}{n m:Nat}{fr:Bool}{b:SF}(F:zes P w K mg base (CXe P w) k f fd ps (spF K (List.replicate n false) fr (run (List.replicate n false) fr m b))):zes P w K mg base (CXe P w) k f fd ps (spP K n fr (zcb fr n m b)):=by
 refine F.imp fun vs H Q E=>?_
 rintro⟨ds,hv,cst,f,d,e,q⟩
 have hd:ds.length=n:=by rw [<- f.len,hv]
 obtain⟨y,ey,e⟩:=zai e
 cases e
 refine⟨ds,by simpa using hv,by simpa using hd,by rw [zdH hd];exact zjR cst f,y.1,y.2,by rw [ey],fun v H' r kp fin=>q v H' (fun a o e=>kp a o e (by rw [zdH hd];exact zkP)) fin⟩
theorem Callee.pure{n m:Nat}{fr:Bool}{b:SF}(c:Callee P w K mg base x k ps (spF K (List.replicate n false) fr (run (List.replicate n false) fr m b))):Callee P w K mg base x k ps (spP K n fr (zcb fr n m b)):=by
 obtain⟨f,fd,h1,h2,h3,F⟩:=c
 exact⟨f,fd,h1,h2,h3,zes.pure F⟩
end
def zoU(fa:AF)(n:Nat):Prop:=∀ ρ y,fa ρ=.ok y->y.1.length=n
theorem zfo:zoU zam 0:=fun ρ y h=>by cases h;rfl
theorem zel{f:EF}{a:AF}{n:Nat}(h:zoU a n):zoU (zab f a) (n+1):=fun ρ y e=>by
 obtain⟨x,_,e⟩:=zai (show(f ρ).bind _=.ok y from e)
 obtain⟨z,e2,e⟩:=zai e
 cases e
 simp [h _ _ e2]
section
variable {K:PySem.W.Frag}{X:Cx}{k j n:Nat}{ps:List Str}{E:XK}{x:Str}{p pos:Pos}{e:Expr}{es:List Expr}{G:List D->R D}{fa:AF}
theorem zqd(c:Callee X.prog X.w X.K X.mg X.base x k ps (spP X.K n false G))(hr:zbU j X.A)(hg:Gl X x)(hx:Passes (CXe X.prog X.w) X E)(ha:PVA K X (e::es) fa)(hl:zoU fa n)(hj:k<=j:=by decide)(hdb:(x==("__debug__":Str))=false:=by decide)
  (he:starEach (e::es) X.env=(false,eval e X.env)::starEach es X.env:=by exact FL.se rfl) (hpl:(backTo pos (starEach es X.env)).any (·.1)=false:=by exact FL.sp rfl):PV K X (.Call (.Name x p) (e::es) [] pos) (zaj G fa):=.mk fun hK=>by
 subst hK
 refine(zd8 c hr hg hx (ha rfl) hj hdb he hpl).weak fun σ H Q=>?_
 rintro⟨ρ,rel,q⟩
 obtain⟨y,ey,q0⟩:=q.bnd
 have hy:=hl ρ y ey
 refine⟨ρ,rel,?_⟩
 rw [ey]
 intro H1 rel1 st1 vs fs
 obtain⟨d,ed,q2⟩:=(q0.step st1).zc0
 rw [List.append_nil]
 exact⟨y.1,by rw [fs.len,hy],rel1.cst,fs,d,ed,fun v H' s fin=>q2.new rel1 s v fin⟩
theorem znJ(c:Callee X.prog X.w X.K X.mg X.base x k ps (spP X.K n true G))(hr:zbU j X.A)(hg:Gl X x)(hx:Passes (CXe X.prog X.w) X E)(ha:PVA K X (e::es) fa)(hl:zoU fa n)(hj:k<=j:=by decide)(hdb:(x==("__debug__":Str))=false:=by decide)
  (he:starEach (e::es) X.env=(false,eval e X.env)::starEach es X.env:=by exact FL.se rfl) (hpl:(backTo pos (starEach es X.env)).any (·.1)=false:=by exact FL.sp rfl):PVN K X (.Call (.Name x p) (e::es) [] pos) (zaj G fa):=.mk fun hK=>by
 subst hK
 refine(zd8 c hr hg hx (ha rfl) hj hdb he hpl).weak fun σ H Q=>?_
 rintro⟨ρ,rel,q⟩
 obtain⟨y,ey,q0⟩:=q.bnd
 have hy:=hl ρ y ey
 refine⟨ρ,rel,?_⟩
 rw [ey]
 intro H1 rel1 st1 vs fs
 obtain⟨d,ed,q2⟩:=(q0.step st1).zc0
 rw [List.append_nil]
 refine⟨y.1,by rw [fs.len,hy],rel1.cst,fs,d,ed,fun v H' s fin=>?_⟩
 obtain⟨a,rfl,ha,m⟩:=fin
 refine q2.new rel1 s a ?_ m
 cases e0:H a with
 | none=>rfl
 | some o =>
  by_cases mm:MA ρ σ a
  ·obtain⟨o',e',_⟩:=rel1.zaO (st1.ma.mp mm)
   rw [ha] at e';cases e'
  ·rw [st1.kp a o e0 mm] at ha;cases ha
def zhP(K:PySem.W.Frag)(σ:L2.St)(H₀ H:Hp):List Itm->List V->Prop
 | [],vs=>vs=[]
 | .vd d::r,vs=>∃ v t,vs=v::t/\Fz K H d v/\zhP K σ H₀ H r t
 | .mi i::r,vs=>∃ v t,vs=v::t/\σ[i]?=some (some v)/\zhP K σ H₀ H r t
 | .td d::r,vs=>∃ a t,vs=.ref a::t/\zby K H a d/\H₀ a=none/\zhP K σ H₀ H r t
theorem Stp.old{ρ ρ1:En}{σ:L2.St}{H H1:Hp}(st:Stp ρ ρ1 σ H H1)(rel1:Rel K ρ1 σ H1){a:Addr}(ha:H1 a=none):H a=none:=by
 cases e0:H a with
 | none=>rfl
 | some o =>
  by_cases mm:MA ρ σ a
  ·obtain⟨o',e',_⟩:=rel1.zaO (st.ma.mp mm)
   rw [ha] at e';cases e'
  ·rw [st.kp a o e0 mm] at ha;cases ha
theorem zhP.back{σ:L2.St}{H H1 H2:Hp}(h:∀ a,H1 a=none->H a=none):∀{l:List Itm} {vs:List V},zhP K σ H1 H2 l vs->zhP K σ H H2 l vs
 | [],vs,z=>z
 | .vd d::r,vs,z=>by
  obtain⟨v,t,e,f,z⟩:=z
  exact⟨v,t,e,f,zhP.back h z⟩
 | .mi i::r,vs,z=>by
  obtain⟨v,t,e,f,z⟩:=z
  exact⟨v,t,e,f,zhP.back h z⟩
 | .td d::r,vs,z=>by
  obtain⟨v,t,e,f,g,z⟩:=z
  exact⟨v,t,e,f,h _ g,zhP.back h z⟩
def tAr(K:PySem.W.Frag)(a:List Ar):TA:=fun σ H Q=>∃ ρ,Rel K ρ σ H/\Good K ρ σ H (zhO a ρ) fun l _ H'=>∀ vs,zhP K σ H H' l vs->Q vs H'
structure znb(K:PySem.W.Frag)(X:Cx)(es:List Expr)(a:List Ar):Prop where
 run:X.K=K->PA X es (tAr K a)
instance {K:PySem.W.Frag} {X:Cx} {es:List Expr} {a:List Ar}:CoeFun (znb K X es a) fun _=>X.K=K->PA X es (tAr K a):=⟨znb.run⟩
theorem zaV:znb K X [] []:=.mk fun _=>zdB.weak fun σ H Q=>by
 rintro⟨ρ,rel,q⟩
 exact q.now rel [] rfl
theorem zcz{f:EF}{a:List Ar}(he:PV K X e f)(hr:znb K X es a)(hs:starEach (e::es) X.env=(false,eval e X.env)::starEach es X.env:=by exact FL.se rfl):znb K X (e::es) (.v f::a):=.mk fun hK=>(zbc (he hK) (hr hK) hs).weak fun σ H Q=>by
 rintro⟨ρ,rel,q⟩
 refine goV rel q fun dx ρ1 x H1 rel1 st1 fx q1=>?_
 obtain⟨y,ey,q2⟩:=q1.bnd
 refine⟨ρ1,rel1,?_⟩
 rw [ey]
 exact fun H2 rel2 st2 vs it=>(q2.step st2).now rel2 _ ⟨x,vs,rfl,fx.mono (st2.fzn rel1),it.back fun a ha=>st1.old rel1 ha⟩
theorem zr3{a:List Ar}{y:Str}{py:Pos}(i:Nat)(ha:PE X (.Name y py) (zdX i))(hr:znb K X es a)(hs:starEach (.Name y py::es) X.env=(false,eval (.Name y py) X.env)::starEach es X.env:=by exact FL.se rfl):znb K X (.Name y py::es) (.m i::a):=.mk fun hK=>(zbc ha (hr hK) hs).weak fun σ H Q=>by
 rintro⟨ρ,rel,q⟩
 obtain⟨d,ed,q1⟩:=(show Good K ρ σ H ((zax ρ i).bind fun _=>(zhO a ρ).bind fun y=>.ok (.mi i::y.1,y.2)) _ from q).zc0
 obtain⟨ad,at0,_⟩:=rel.zmg ed
 obtain⟨y,ey,q2⟩:=q1.bnd
 refine⟨.ref ad,at0.2,ρ,rel,?_⟩
 rw [ey]
 exact fun H2 rel2 st2 vs it=>(q2.step st2).now rel2 _ ⟨.ref ad,vs,rfl,at0.2,it⟩
def arM:List Ar->List Bool
 | []=>[]
 | .v _::r=>false::arM r
 | .m _::r=>true::arM r
 | .t _::r=>true::arM r
def arI:List Ar->List Nat
 | []=>[]
 | .v _::r=>arI r
 | .m i::r=>i::arI r
 | .t _::r=>arI r
def arT:List Ar->Nat
 | []=>0
 | .v _::r=>arT r
 | .m _::r=>arT r
 | .t _::r=>arT r+1
def isR:Itm->Bool
 | .vd _=>false
 | _=>true
def zrK:Itm->Option Nat
 | .mi i=>some i
 | _=>none
def isT:Itm->Bool
 | .td _=>true
 | _=>false
theorem zdv:∀{a:List Ar} {ρ:En} {y:List Itm×En},zhO a ρ=.ok y->y.1.map isR=arM a/\y.1.filterMap zrK=arI a/\y.1.countP isT=arT a
 | [],ρ,y,h=>by cases h;exact⟨rfl,rfl,rfl⟩
 | .v f::r,ρ,y,h=>by
  obtain⟨x,_,h⟩:=zai (show(f ρ).bind _=.ok y from h)
  obtain⟨z,e,h⟩:=zai h
  cases h
  obtain⟨h1,h2,h3⟩:=zdv e
  simp only [List.map_cons,List.filterMap_cons]
  exact⟨by rw [h1];rfl,h2,by rw [List.countP_cons_of_neg (by simp [isT])];exact h3⟩
 | .m i::r,ρ,y,h=>by
  obtain⟨_,_,h⟩:=zai (show(zax ρ i).bind _=.ok y from h)
  obtain⟨z,e,h⟩:=zai h
  cases h
  obtain⟨h1,h2,h3⟩:=zdv e
  simp only [List.map_cons,List.filterMap_cons]
  exact⟨by rw [h1];rfl,by rw [h2];rfl,by rw [List.countP_cons_of_neg (by simp [isT])];exact h3⟩
 | .t f::r,ρ,y,h=>by
  obtain⟨x,_,h⟩:=zai (show(f ρ).bind _=.ok y from h)
  obtain⟨z,e,h⟩:=zai h
  cases h
  obtain⟨h1,h2,h3⟩:=zdv e
  simp only [List.map_cons,List.filterMap_cons]
  exact⟨by rw [h1];rfl,h2,by rw [List.countP_cons_of_pos (by simp [isT]),h3];rfl⟩
theorem zdu{ρ:En}:∀{l:List Itm} {ds:List D},zgn ρ l=.ok ds->ds.length=l.length/\∀(j:Nat) z,l[j]?=some z->∃ d,ds[j]?=some d/\(match z with | .vd d'=>d=d' | .mi i=>zax ρ i=.ok d | .td d'=>d=d')
 | [],ds,h=>by cases h;exact⟨rfl,fun j z e=>by simp at e⟩
 | .vd d::r,ds,h=>by
  obtain⟨ds',e,h⟩:=zai (show(zgn ρ r).bind _=.ok ds from h)
  cases h
  obtain⟨h1,h2⟩:=zdu e
  refine⟨by simp [h1],fun j z ez=>?_⟩
  cases j with
  | zero=>simp at ez;subst ez;exact⟨d,rfl,rfl⟩
  | succ j=>obtain⟨d',h3,h4⟩:=h2 j z (by simpa using ez);exact⟨d',by simpa using h3,h4⟩
 | .td d::r,ds,h=>by
  obtain⟨ds',e,h⟩:=zai (show(zgn ρ r).bind _=.ok ds from h)
  cases h
  obtain⟨h1,h2⟩:=zdu e
  refine⟨by simp [h1],fun j z ez=>?_⟩
  cases j with
  | zero=>simp at ez;subst ez;exact⟨d,rfl,rfl⟩
  | succ j=>obtain⟨d',h3,h4⟩:=h2 j z (by simpa using ez);exact⟨d',by simpa using h3,h4⟩
 | .mi i::r,ds,h=>by
  obtain⟨d,e0,h⟩:=zai (show(zax ρ i).bind _=.ok ds from h)
  obtain⟨ds',e,h⟩:=zai h
  cases h
  obtain⟨h1,h2⟩:=zdu e
  refine⟨by simp [h1],fun j z ez=>?_⟩
  cases j with
  | zero=>simp at ez;subst ez;exact⟨d,rfl,e0⟩
  | succ j=>obtain⟨d',h3,h4⟩:=h2 j z (by simpa using ez);exact⟨d',by simpa using h3,h4⟩
theorem zhP.get{σ:L2.St}{H₀ H:Hp}:∀{l:List Itm} {vs:List V},zhP K σ H₀ H l vs->vs.length=l.length/\∀(j:Nat) z,l[j]?=some z->∃ v,vs[j]?=some v/\(match z with | .vd d=>Fz K H d v | .mi i=>σ[i]?=some (some v) | .td d=>∃ a,v=.ref a/\zby K H a d/\H₀ a=none)
 | [],vs,h=>by cases (show vs=[] from h);exact⟨rfl,fun j z e=>by simp at e⟩
 | .vd d::r,vs,h=>by
  obtain⟨v,t,rfl,f,h⟩:=h
  obtain⟨h1,h2⟩:=zhP.get h
  refine⟨by simp [h1],fun j z ez=>?_⟩
  cases j with
  | zero=>simp at ez;subst ez;exact⟨v,rfl,f⟩
  | succ j=>obtain⟨d',h3,h4⟩:=h2 j z (by simpa using ez);exact⟨d',by simpa using h3,h4⟩
 | .mi i::r,vs,h=>by
  obtain⟨v,t,rfl,f,h⟩:=h
  obtain⟨h1,h2⟩:=zhP.get h
  refine⟨by simp [h1],fun j z ez=>?_⟩
  cases j with
  | zero=>simp at ez;subst ez;exact⟨v,rfl,f⟩
  | succ j=>obtain⟨d',h3,h4⟩:=h2 j z (by simpa using ez);exact⟨d',by simpa using h3,h4⟩
 | .td d::r,vs,h=>by
  obtain⟨v,t,rfl,f,g,h⟩:=h
  obtain⟨h1,h2⟩:=zhP.get h
  refine⟨by simp [h1],fun j z ez=>?_⟩
  cases j with
  | zero=>simp at ez;subst ez;exact⟨_,rfl,v,rfl,f,g⟩
  | succ j=>obtain⟨d',h3,h4⟩:=h2 j z (by simpa using ez);exact⟨d',by simpa using h3,h4⟩
end
end
section
variable [Cs]
section
variable {K:PySem.W.Frag}{ρ:En}{σ:L2.St}{H H':Hp}
theorem zsv{m:List (Nat×Sl)}(r:Rel K ρ σ H)(hA:∀ i c,m.lookup i=some c->∀ a,At ρ σ i a->∃ q d,c=.ow q d/\zby K H' a d)(hB:∀ i a,At ρ σ i a->m.lookup i=none->H' a=H a)(fz:Fzn H H') :
  Rel K (bkL m 0 ρ) σ H'/\∀(i:Nat) p,(∃ d,ρ[i]?=some (.ow p d))↔∃ d,(bkL m 0 ρ)[i]?=some (.ow p d):=by
 have gt:∀ i:Nat,(bkL m 0 ρ)[i]?=(ρ[i]?).map (bk1 m i):=fun i=>by rw [zjx,Nat.zero_add]
 have mdB:∀(i:Nat) p,(∃ d,ρ[i]?=some (.ow p d))↔∃ d,(bkL m 0 ρ)[i]?=some (.ow p d):=fun i p=>by
  rw [gt]
  constructor
  ·rintro⟨d,e⟩
   rw [e]
   simp only [Option.map_some,bk1]
   split
   ·rename_i p' d1 q' d2 h1 h2;cases h1;exact⟨_,rfl⟩
   ·exact⟨_,rfl⟩
  ·rintro⟨d,e⟩
   cases er:ρ[i]? with
   | none=>rw [er] at e;cases e
   | some x =>
    rw [er] at e
    simp only [Option.map_some,Option.some.injEq,bk1] at e
    split at e
    ·cases e;exact⟨_,rfl⟩
    ·subst e;exact⟨_,rfl⟩
 have atB:∀ i a,At (bkL m 0 ρ) σ i a->At ρ σ i a:=fun i a ⟨⟨p,d,e1⟩,e2⟩=>⟨⟨p,(mdB i p).mpr ⟨d,e1⟩⟩,e2⟩
 refine⟨⟨by rw [zjw];exact r.len,fun i x v e1 e2=>?_,fun i j a h1 h2=>r.sep i j a (atB i a h1) (atB j a h2),r.cst.mono fz⟩,mdB⟩
 rw [gt] at e1
 cases er:ρ[i]? with
 | none=>rw [er] at e1;cases e1
 | some y =>
  rw [er] at e1
  simp only [Option.map_some,Option.some.injEq] at e1
  have o:=r.ok i y v er e2
  cases y with
  | no=>simp only [bk1] at e1;subst e1;trivial
  | val d =>
   simp only [bk1] at e1
   subst e1
   exact o.mono fz fun a _ ⟨p,d',z⟩=>nomatch z
  | ob c ds =>
   simp only [bk1] at e1
   subst e1
   exact o.mono fz fun a _ ⟨p,d',z⟩=>nomatch z
  | ow p d =>
   cases v with
   | none=>exact o.elim
   | some v =>
    cases v with
    | ref a =>
     have ai:At ρ σ i a:=⟨⟨p,d,er⟩,e2⟩
     cases el:m.lookup i with
     | none =>
      simp only [bk1,el] at e1
      subst e1
      exact o.mono fz fun b e3 _=>by cases e3;exact hB i a ai el
     | some c =>
      obtain⟨q,d',rfl,mm⟩:=hA i c el a ai
      simp only [bk1,el] at e1
      subst e1
      exact mm
    | _=>exact o.elim
end
theorem zpb:∀{l:List Itm} {j j' i:Nat},(l.filterMap zrK).Nodup->l[j]?=some (.mi i)->l[j']?=some (.mi i)->j=j'
 | [],j,j',i,_,h,_=>by simp at h
 | z::r,j,j',i,nd,h1,h2=>by
  have rest:(r.filterMap zrK).Nodup:=by
   rw [List.filterMap_cons] at nd
   cases z with
   | mi k=>exact(List.nodup_cons.mp nd).2
   | _=>exact nd
  have mem:∀{j:Nat},r[j]?=some (.mi i)->i∈r.filterMap zrK:=fun h=>List.mem_filterMap.mpr ⟨.mi i,List.mem_of_getElem? h,rfl⟩
  have hd:z=.mi i->∀{j:Nat},r[j]?≠some (.mi i):=fun e j h=>by
   subst e
   rw [List.filterMap_cons] at nd
   exact(List.nodup_cons.mp nd).1 (mem h)
  cases j with
  | zero =>
   cases j' with
   | zero=>rfl
   | succ j'=>exact absurd (by simpa using h2) (hd (by simpa using h1) (j:=j'))
  | succ j =>
   cases j' with
   | zero=>exact absurd (by simpa using h1) (hd (by simpa using h2) (j:=j))
   | succ j' =>
    have:=zpb (l:=r) rest (by simpa using h1) (by simpa using h2)
    rw [this]
theorem zoY:∀{l:List Itm} {j j':Nat} {d d':D},l.countP isT<=1->l[j]?=some (.td d)->l[j']?=some (.td d')->j=j'
 | [],j,j',d,d',_,h,_=>by simp at h
 | z::r,j,j',d,d',c,h1,h2=>by
  have rest:r.countP isT<=1:=by
   rw [List.countP_cons] at c;omega
  have none:isT z=true->∀{j:Nat} {d:D},r[j]?≠some (.td d):=fun e j d h=>by
   rw [List.countP_cons,if_pos e] at c
   have:0<r.countP isT:=List.countP_pos_iff.mpr ⟨_,List.mem_of_getElem? h,rfl⟩
   omega
  cases j with
  | zero =>
   cases j' with
   | zero=>rfl
   | succ j' =>
    have e:z=.td d:=by simpa using h1
    subst e
    exact absurd (by simpa using h2) (none rfl (j:=j'))
  | succ j =>
   cases j' with
   | zero =>
    have e:z=.td d':=by simpa using h2
    subst e
    exact absurd (by simpa using h1) (none rfl (j:=j))
   | succ j' =>
    have:=zoY (l:=r) rest (by simpa using h1) (by simpa using h2)
    rw [this]
theorem zcT:∀{l:List Itm} {os:List D} {i:Nat} {c:Sl},(zfn l os).lookup i=some c->∃(j:Nat) (d:D),l[j]?=some (.mi i)/\os[j]?=some d/\c=.ow true d
 | [],os,i,c,h=>by simp [zfn] at h
 | z::r,[],i,c,h=>by cases z <;> simp [zfn] at h
 | .vd d::r,o::os,i,c,h=>by
  obtain⟨j,d',h1,h2,h3⟩:=zcT (l:=r) (os:=os) (by simpa [zfn] using h)
  exact⟨j+1,d',by simpa using h1,by simpa using h2,h3⟩
 | .td d::r,o::os,i,c,h=>by
  obtain⟨j,d',h1,h2,h3⟩:=zcT (l:=r) (os:=os) (by simpa [zfn] using h)
  exact⟨j+1,d',by simpa using h1,by simpa using h2,h3⟩
 | .mi k::r,o::os,i,c,h=>by
  simp only [zfn] at h
  rw [List.lookup_cons] at h
  by_cases e:i=k
  ·subst e
   simp only [beq_self_eq_true] at h
   cases h
   exact⟨0,o,rfl,rfl,rfl⟩
  ·rw [beq_false_of_ne e] at h
   obtain⟨j,d',h1,h2,h3⟩:=zcT (l:=r) (os:=os) h
   exact⟨j+1,d',by simpa using h1,by simpa using h2,h3⟩
theorem zfm:∀{l:List Itm} {os:List D} {i j:Nat} {d:D},l[j]?=some (.mi i)->os[j]?=some d->∃ c,(zfn l os).lookup i=some c
 | [],os,i,j,d,h,_=>by simp at h
 | z::r,[],i,j,d,_,h=>by simp at h
 | .vd _::r,o::os,i,j,d,h1,h2=>by
  cases j with
  | zero=>simp at h1
  | succ j =>
   simp only [zfn]
   exact zfm (l:=r) (by simpa using h1) (by simpa using h2)
 | .td _::r,o::os,i,j,d,h1,h2=>by
  cases j with
  | zero=>simp at h1
  | succ j =>
   simp only [zfn]
   exact zfm (l:=r) (by simpa using h1) (by simpa using h2)
 | .mi k::r,o::os,i,j,d,h1,h2=>by
  simp only [zfn]
  rw [List.lookup_cons]
  by_cases e:i=k
  ·subst e
   simp
  ·rw [beq_false_of_ne e]
   cases j with
   | zero=>simp at h1;exact absurd h1.symm e
   | succ j=>exact zfm (l:=r) (by simpa using h1) (by simpa using h2)
section
variable {K:PySem.W.Frag}{ρ0 ρ:En}{σ:L2.St}{H0 H H':Hp}{l:List Itm}{ds os:List D}{vs:List V}{ms:List Bool}
theorem zeJ(rel:Rel K ρ σ H)(it:zhP K σ H0 H l vs)(hi:zgn ρ l=.ok ds)(hm:l.map isR=ms){j:Nat}{a:Addr}(hd:ds.length=ms.length)(h:At (slots ms ds) (vs.map some) j a):(∃ i,l[j]?=some (.mi i)/\At ρ σ i a)\/∃ d,l[j]?=some (.td d)/\H0 a=none:=by
 obtain⟨v1,v2⟩:=it.get
 obtain⟨d1,d2⟩:=zdu hi
 obtain⟨⟨p,d,e1⟩,e2⟩:=h
 obtain⟨rfl,em,ed⟩:=zdn hd e1
 rw [<- hm,List.getElem?_map] at em
 cases el:l[j]? with
 | none=>rw [el] at em;cases em
 | some z =>
  rw [el] at em
  obtain⟨v,ev,es⟩:=v2 j _ el
  obtain⟨d',ed',em'⟩:=d2 j _ el
  rw [List.getElem?_map,ev] at e2
  cases e2
  cases z with
  | vd _=>cases em
  | mi i =>
   obtain⟨q,eq⟩:=zfF em'
   exact .inl ⟨i,rfl,⟨q,d',eq⟩,es⟩
  | td d0 =>
   obtain⟨b,eb,_,hb⟩:=es
   cases eb
   exact .inr ⟨d0,rfl,hb⟩
theorem zoQ(r0:Rel K ρ0 σ H0)(st:Stp ρ0 ρ σ H0 H)(rel:Rel K ρ σ H)(it:zhP K σ H0 H l vs)(hi:zgn ρ l=.ok ds)(hm:l.map isR=ms)(nd:(l.filterMap zrK).Nodup)(ct:l.countP isT<=1):ds.length=ms.length/\vs.length=ms.length/\Rel K (slots ms ds) (vs.map some) H:=by
 obtain⟨v1,v2⟩:=it.get
 obtain⟨d1,d2⟩:=zdu hi
 have hl:ms.length=l.length:=by rw [<- hm,List.length_map]
 have hd:ds.length=ms.length:=by rw [d1,hl]
 have hv:vs.length=ms.length:=by rw [v1,hl]
 have apart:∀{i:Nat} {a:Addr},At ρ σ i a->H0 a=none->False:=fun h1 h2=>by
  obtain⟨o',e',_⟩:=r0.zaO (st.ma.mpr ⟨_,h1⟩)
  rw [h2] at e';cases e'
 refine⟨hd,hv,⟨by rw [zc4 hd,List.length_map,hv],fun j x v e1 e2=>?_,fun j j' a h1 h2=>?_,rel.cst⟩⟩
 ·rw [zb8 hd] at e1
  cases em:ms[j]? with
  | none=>rw [em] at e1;cases e1
  | some m =>
   cases ed:ds[j]? with
   | none=>rw [em,ed] at e1;cases e1
   | some d =>
    rw [em,ed] at e1
    rw [<- hm,List.getElem?_map] at em
    cases el:l[j]? with
    | none=>rw [el] at em;cases em
    | some z =>
     rw [el] at em
     obtain⟨u,eu,es⟩:=v2 j z el
     obtain⟨d',ed',em'⟩:=d2 j z el
     rw [ed] at ed'
     cases ed'
     rw [List.getElem?_map,eu] at e2
     cases e2
     cases z with
     | vd dz =>
      cases em
      cases e1
      cases em'
      exact es
     | mi i =>
      cases em
      cases e1
      obtain⟨q,eq⟩:=zfF em'
      have o:=rel.ok i _ _ eq es
      show zjB K H (.ow true d) (some u)
      cases u with
      | ref a=>exact o
      | _=>exact o.elim
     | td dz =>
      cases em
      cases e1
      cases em'
      obtain⟨b,rfl,mb,_⟩:=es
      exact mb
 ·rcases zeJ rel it hi hm hd h1 with⟨i,e1,a1⟩|⟨d,e1,a1⟩
  ·rcases zeJ rel it hi hm hd h2 with⟨i',e2,a2⟩|⟨d,e2,a2⟩
   ·have:=rel.sep i i' a a1 a2
    subst this
    exact zpb nd e1 e2
   ·exact(apart a1 a2).elim
  ·rcases zeJ rel it hi hm hd h2 with⟨i',e2,a2⟩|⟨d,e2,a2⟩
   ·exact(apart a2 a1).elim
   ·exact zoY ct e1 e2
theorem zm7(r0:Rel K ρ0 σ H0)(st:Stp ρ0 ρ σ H0 H)(rel:Rel K ρ σ H)(it:zhP K σ H0 H l vs)(hi:zgn ρ l=.ok ds)(hm:l.map isR=ms)(hd:ds.length=ms.length)(ho:os.length=ms.length)(ra:Rel K (slots ms os) (vs.map some) H')(hC:∀ a o,H a=some o->¬ MA (slots ms ds) (vs.map some) a->H' a=some o) :
  Rel K (ze8 ρ l os) σ H'/\Stp ρ0 (ze8 ρ l os) σ H0 H':=by
 obtain⟨v1,v2⟩:=it.get
 obtain⟨d1,d2⟩:=zdu hi
 have hl:ms.length=l.length:=by rw [<- hm,List.length_map]
 have apart:∀{i:Nat} {a:Addr},At ρ σ i a->H0 a=none->False:=fun h1 h2=>by
  obtain⟨o',e',_⟩:=r0.zaO (st.ma.mpr ⟨_,h1⟩)
  rw [h2] at e';cases e'
 have kp0:∀ a o,H0 a=some o->¬ MA ρ0 σ a->H' a=some o:=fun a o e n=>hC a o (st.kp a o e n) fun⟨j,h⟩=>by
  rcases zeJ rel it hi hm hd h with⟨i,_,a1⟩|⟨d,_,a1⟩
  ·exact n (st.ma.mpr ⟨i,a1⟩)
  ·rw [e] at a1;cases a1
 have fz:Fzn H H':=fun a o e sy=>hC a o e fun⟨j,h⟩=>by
  obtain⟨⟨p,d,e1⟩,e2⟩:=id h
  obtain⟨rfl,em,ed⟩:=zdn hd e1
  rcases zeJ rel it hi hm hd h with⟨i,_,a1⟩|⟨d,el,a1⟩
  ·obtain⟨o',e',ow⟩:=rel.zaO ⟨i,a1⟩
   rw [e] at e'
   cases e'
   exact ow.zcs sy
  ·obtain⟨v,ev,b,eb,mb,_⟩:=v2 j _ el
   rw [List.getElem?_map,ev] at e2
   cases e2
   cases eb
   obtain⟨o',e',ow⟩:=mb.own
   rw [e] at e'
   cases e'
   exact ow.zcs sy
 have key:=zsv (H:=H) (H':=H') (m:=zfn l os) rel (fun i c e a at0=>by
  obtain⟨j,d,e1,e2,rfl⟩:=zcT e
  obtain⟨v,ev,es⟩:=v2 j _ e1
  replace es:σ[i]?=some (some v):=es
  rw [at0.2] at es
  cases es
  refine⟨true,d,rfl,?_⟩
  have em:ms[j]?=some true:=by rw [<- hm,List.getElem?_map,e1];rfl
  exact ra.ok j (.ow true d) (some (.ref a)) (by rw [zb8 ho,em,e2];rfl) (by rw [List.getElem?_map,ev];rfl)) (fun i a at0 e=>by
  obtain⟨u,hu,_⟩:=rel.zaO ⟨i,at0⟩
  rw [hu]
  refine hC a u hu fun⟨j,h⟩=>?_
  rcases zeJ rel it hi hm hd h with⟨i',el,a1⟩|⟨d,_,a1⟩
  ·have:=rel.sep i i' a at0 a1
   subst this
   have hj:j<os.length:=by rw [ho,hl];exact(List.getElem?_eq_some_iff.mp el).1
   obtain⟨c,ec⟩:=zfm el (List.getElem?_eq_getElem hj)
   rw [ec] at e
   cases e
  ·exact apart at0 a1) fz
 exact⟨key.1,⟨fun i p=>(st.md i p).trans (key.2 i p),kp0⟩⟩
end
section
variable {K:PySem.W.Frag}{X:Cx}{k j:Nat}{ps:List Str}{E:XK}{x:Str}{p pos:Pos}{e:Expr}{es:List Expr}{F:List D->R (D×List D)}{a:List Ar}
def ztG(F:List D->R (D×List D))(n:Nat):Prop:=∀ ds y,F ds=.ok y->y.2.length=n
theorem zn6{ms:List Bool}{fr:Bool}{m:Nat}{b:SF}:ztG (run ms fr m b) ms.length:=fun ds y h=>by
 unfold run at h
 split at h
 ·rename_i hd
  obtain⟨z,_,h⟩:=zai h
  obtain⟨fl,ρ⟩:=z
  cases fr with
  | false =>
   cases fl with
   | rt d=>cases h;exact zd9 hd
   | nx=>cases h;exact zd9 hd
   | _=>cases h
  | true =>
   cases fl with
   | rf d=>cases h;exact zd9 hd
   | _=>cases h
 ·cases h
theorem zv3{fr:Bool}(ho:ztG F (arM a).length)(nd:(arI a).Nodup)(ct:arT a<=1)(σ:L2.St)(H:Hp)(Q:VK)(ρ:En)(rel:Rel K ρ σ H)
  (q:Good K ρ σ H (zaq F a ρ) fun d ρ' H'=>∀ v,(if fr=true then ∃ a,v=.ref a/\H a=none/\zby K H' a d else Fz K H' d v)->Q v H'):zpQ (spF K (arM a) fr F) [] E (tAr K a) σ H Q:=by
 obtain⟨y,ey,q0⟩:=q.bnd
 obtain⟨h1,h2,h3⟩:=zdv ey
 refine⟨ρ,rel,?_⟩
 rw [ey]
 intro H1 rel1 st1 vs it
 obtain⟨ds,ed,q1⟩:=q0.zc0
 obtain⟨z,ez,q2⟩:=q1.zc0
 obtain⟨hd,hv,ra⟩:=zoQ rel st1 rel1 it ed h1 (by rw [h2];exact nd) (by rw [h3];exact ct)
 rw [List.append_nil]
 refine⟨ds,hv,hd,ra,z.1,z.2,ez,fun v H' rb kp fin=>?_⟩
 obtain⟨r2,s2⟩:=zm7 rel st1 rel1 it ed h1 hd (ho ds z ez) rb kp
 refine q2 H' r2 s2 v ?_
 cases fr with
 | false=>exact fin
 | true =>
  obtain⟨ad,rfl,ha,m⟩:=fin
  exact⟨ad,rfl,st1.old rel1 ha,m⟩
theorem znP(c:Callee X.prog X.w X.K X.mg X.base x k ps (spF X.K (arM a) false F))(ho:ztG F (arM a).length)(nd:(arI a).Nodup)(ct:arT a<=1)(hr:zbU j X.A)(hg:Gl X x)(hx:Passes (CXe X.prog X.w) X E)(ha:znb K X (e::es) a)(hj:k<=j:=by decide)(hdb:(x==("__debug__":Str))=false:=by decide)
  (he:starEach (e::es) X.env=(false,eval e X.env)::starEach es X.env:=by exact FL.se rfl) (hpl:(backTo pos (starEach es X.env)).any (·.1)=false:=by exact FL.sp rfl):PV K X (.Call (.Name x p) (e::es) [] pos) (zaq F a):=.mk fun hK=>by
 subst hK
 refine(zd8 c hr hg hx (ha rfl) hj hdb he hpl).weak fun σ H Q=>?_
 rintro⟨ρ,rel,q⟩
 exact zv3 (fr:=false) ho nd ct σ H Q ρ rel q
end
end
section
variable [Cs]
section
variable {K:PySem.W.Frag}{X:Cx}{st:Stmt}{s:SF}{e:Expr}{f h:EF}{pos:Pos}
theorem zra{C:SC}{ρ:En}{σ:L2.St}{H:Hp}{i:Nat}{d:D}(rel:zcI K C ρ σ H)(e:ρ[i]?=some (.ow false d)):∃ a u,H a=some u/\Own u/\∀ o,zcI K C (ρ.set i (.val d)) σ (upd H a (.frz o u))/\Fzn H (upd H a (.frz o u)):=by
 obtain⟨a,at0,m⟩:=rel.rel.zmg (d:=d) (show zax ρ i=.ok d by unfold zax;rw [e])
 obtain⟨u,e1,ow⟩:=m.own
 refine⟨a,u,e1,ow,fun o=>?_⟩
 have hl:i<ρ.length:=(List.getElem?_eq_some_iff.mp e).1
 have hfr:=rel.own i a d e at0.2
 have fz:Fzn H (upd H a (.frz o u)):=fun b w e2 sy=>by
  rw [zao fun z=>by subst z;rw [e1] at e2;cases e2;exact ow.zcs sy]
  exact e2
 refine⟨?_,fz⟩
 have fd:Fz K (upd H a (.frz o u)) d (.ref a):=by
  cases d with
  | list ds =>
   obtain⟨vs,h1,h2⟩:=m
   rw [e1] at h1
   cases h1
   simp only [Fz]
   exact⟨a,vs,rfl,.inl ⟨o,zal⟩,h2.mono fz⟩
  | dict kvs =>
   simp only [Fz]
   obtain⟨kk,h1,h2⟩:=m
   rw [e1] at h1
   cases h1
   exact⟨a,o,rfl,⟨kk,zal,h2.mono fz⟩⟩
  | _=>exact m.elim
 have atw:∀ j b,At (ρ.set i (.val d)) σ j b->j≠i/\At ρ σ j b:=fun j b ⟨⟨q,dd,e1⟩,e2⟩=>by
  by_cases c:i=j
  ·subst c
   rw [List.getElem?_set_self hl] at e1;cases e1
  ·rw [List.getElem?_set_ne c] at e1
   exact⟨fun z=>c z.symm,⟨q,dd,e1⟩,e2⟩
 refine⟨⟨by rw [List.length_set];exact rel.rel.len,fun j y w e2 e3=>?_,fun j k b h1 h2=>rel.rel.sep j k b (atw j b h1).2 (atw k b h2).2,rel.rel.cst.mono fz⟩,fun b w e2 n=>?_,fun j b c e2 e3=>?_,fun j=>?_,fun j c e2=>?_,rel.prm⟩
 ·by_cases c:i=j
  ·subst c
   rw [List.getElem?_set_self hl] at e2
   cases e2
   rw [at0.2] at e3
   cases e3
   exact fd
  ·rw [List.getElem?_set_ne c] at e2
   refine(rel.rel.ok j y w e2 e3).mono fz fun b e4 ⟨p,dd,e5⟩=>?_
   subst e4;subst e5
   refine zao fun z=>?_
   subst z
   exact c (rel.rel.sep i j b at0 ⟨⟨p,dd,e2⟩,e3⟩)
 ·rw [zao fun z=>by subst z;rw [hfr] at e2;cases e2]
  exact rel.keep b w e2 n
 ·by_cases c:i=j
  ·subst c
   rw [List.getElem?_set_self hl] at e2;cases e2
  ·rw [List.getElem?_set_ne c] at e2
   exact rel.own j b _ e2 e3
 ·by_cases c:i=j
  ·subst c
   rw [List.getElem?_set_self hl,<- rel.pin i,e]
   constructor
   ·rintro⟨_,z⟩;cases z
   ·rintro⟨_,z⟩;cases z
  ·rw [List.getElem?_set_ne c];exact rel.pin j
 ·by_cases k:i=j
  ·subst k
   rw [List.getElem?_set_self hl] at e2;cases e2
  ·rw [List.getElem?_set_ne k] at e2
   exact rel.fix j c e2
theorem zd0(i:Nat)(hh:PSV K X st s):PSV K X st (zci i s):=.mk fun hK C=>by
 have h1:PS X st (fun Dn σ H=>tS K C s { Dn with nx:=fun σ H=>∃ a u,H a=some u/\Own u/\∀ o,Dn.nx σ (upd H a (.frz o u)) } σ H):=fun pins sh σ H Dn I q=>by
  refine thn (hh hK C pins sh σ H _ I q) fun fl s1 z=>?_
  cases fl with
  | next =>
   obtain⟨σ',H',I',a,u,e,ow,q⟩:=z
   obtain⟨o,ho⟩:=(I'.hok a u e).some
   exact⟨σ',_,ztB I' e ow ho,q o⟩
  | brk=>exact z
  | cont=>exact z
  | ret v=>exact z
 refine h1.weak fun Dn σ H=>?_
 rintro⟨ρ,rel,g⟩
 refine⟨ρ,rel,?_⟩
 obtain⟨x,ex,g1⟩:=g.bnd
 rw [ex]
 obtain⟨fl,ρ1⟩:=x
 cases fl with
 | nx =>
  replace g1:zbz K C H (match ρ1[i]? with|some (.ow false d)=>.ok (.nx,ρ1.set i (.val d))|_=>.bad) Dn:=g1
  cases e:ρ1[i]? with
  | none=>rw [e] at g1;exact g1.elim
  | some y =>
   rw [e] at g1
   cases y with
   | ow p d =>
    cases p with
    | true=>exact g1.elim
    | false =>
     intro σ' H' r z
     obtain⟨a,u,e1,ow,k⟩:=zra r e
     exact⟨a,u,e1,ow,fun o=>g1 σ' _ (k o).1 (z.trans (k o).2)⟩
   | _=>exact g1.elim
 | bk=>exact g1
 | ct=>exact g1
 | rt d=>exact g1
 | rf d=>exact g1
theorem zp6{i j:Nat}{x y:Str}{a b:Expr}{px py pt:Pos}{kt k2 pt2}(hc:X.calm=true)(hN:X.N.Nodup)(hi:X.N[i]?=some x)(hj:X.N[j]?=some y)(hij:i≠j)
  (hx:X.env.scope.names.lookup x=some .local)(hy:X.env.scope.names.lookup y=some .local)(ha:PV K X a f)(hb:PV K X b h)
  (hw:swappedStores [.Tuple [.Name x px,.Name y py] kt pt] (.Tuple [a,b] k2 pt2) X.env=pure (some [x,y]))
  (hs:swapsWithSole [.Tuple [.Name x px,.Name y py] kt pt] (.Tuple [a,b] k2 pt2) pos.line X.env=pure false:=by rfl)(hs1:starEach [a,b] X.env=(false,eval a X.env)::starEach [b] X.env:=by exact FL.se rfl)(hs2:starEach [b] X.env=(false,eval b X.env)::starEach [] X.env:=by exact FL.se rfl) :
  PSV K X (.Assign [.Tuple [.Name x px,.Name y py] kt pt] (.Tuple [a,b] k2 pt2) pos) (zdU i j f h):=.mk fun hK C=>(zsd hc hN hi hj hij hx hy (zbc (ha hK) (zbc (hb hK) zdB hs2) hs1) hw hs).weak fun Dn σ H=>by
 rintro⟨ρ,rel,g⟩
 refine zjj rel g fun d ρ1 v H1 rel1 st1 fz g1=>zjj rel1 g1 fun d2 ρ2 v2 H2 rel2 st2 fz2 g2=>?_
 obtain⟨ρ3,e3,g3⟩:=g2.bnd
 obtain⟨ρ4,e4,g4⟩:=g3.bnd
 obtain⟨rfl,n1,l1⟩:=zgE e3
 obtain⟨rfl,n2,l2⟩:=zgE e4
 have f1:=fz.mono (st2.fzn rel1.rel)
 have r3:=rel2.chg (rel2.rel.set (i:=i) (x:=.val d) (v:=some v) f1 fun _ _ _ z=>nomatch z) (zeH n1 l1)
 have r4:=r3.chg (r3.rel.set (i:=j) (x:=.val d2) (v:=some v2) fz2 fun _ _ _ z=>nomatch z) (zeH n2 l2)
 exact⟨v,v2,rfl,g4 _ H2 r4 (Fzn.refl _)⟩
theorem zp9{a b:Expr}{pl:Pos}(ha:PV K X a f)(hb:PV K X b h)(hs:starEach [a] X.env=(false,eval a X.env)::starEach [] X.env:=by exact FL.se rfl):PVN K X (.BinOp (.List [a] pl) .Mult b pos) (zk4 f h):=.mk fun hK=>(zqz zsx (zo8 (zbc (ha hK) zdB hs)) (hb hK)).weak fun σ H Q=>by
 rintro⟨ρ,rel,q⟩
 refine goV rel q fun dx ρ1 x H1 rel1 st1 fx q1=>⟨by show 1<=sizeLine;rw [sizeLine_eq];decide,fun l hl=>?_⟩
 have s0:zaM H1 (upd H1 l (.lst [x])):=zaM.upd hl
 have nma:¬ MA ρ1 σ l:=fun z=>by
  obtain⟨o',e',_⟩:=rel1.zaO z
  rw [hl] at e';cases e'
 refine goV (rel1.same s0) (q1.step (.of s0)) fun dy ρ2 y H2 rel2 st2 fy q2=>?_
 have hl2:H2 l=some (.lst [x]):=st2.kp l _ zal nma
 cases dy with
 | int k =>
  obtain⟨c,q3⟩:=Good.chk (c:=decide (0<=k)&&leB k.toNat 1000000) q2
  simp only [Fz] at fy
  subst fy
  simp only [Bool.and_eq_true,decide_eq_true_eq,leB_iff] at c
  have el:∀{α:Type} (z:α) (n:Nat),(List.replicate n [z]).flatten=List.replicate n z:=fun z n=>by
   induction n with
   | zero=>rfl
   | succ n ih=>rw [List.replicate_succ,List.flatten_cons,ih];rfl
  refine⟨l,k,[x],rfl,rfl,hl2,by omega,by omega,?_,fun p hp=>?_⟩
  ·rw [sizeLine_eq,List.length_singleton];omega
  ·rw [el]
   have s2:zaM H2 (upd H2 p (.lst (List.replicate k.toNat x))):=zaM.upd hp
   have fx2:Fz K (upd H2 p (.lst (List.replicate k.toNat x))) dx x:=((fx.mono (Fzn.of s0)).mono (st2.fzn (rel1.same s0))).mono (Fzn.of s2)
   refine q3.new rel2 s2 p ?_ ⟨_,zal,?_⟩
   ·cases e0:H p with
    | none=>rfl
    | some o =>
     by_cases mm:MA ρ σ p
     ·obtain⟨o',e',_⟩:=rel2.zaO (st2.ma.mp (st1.ma.mp mm))
      rw [hp] at e';cases e'
     ·have e1:=s0 p o (st1.kp p o e0 mm)
      rw [st2.kp p o e1 fun z=>mm (st1.ma.mpr z)] at hp;cases hp
   ·have:∀ n:Nat,zae K (upd H2 p (.lst (List.replicate k.toNat x))) (List.replicate n dx) (List.replicate n x):=fun n=>by
     induction n with
     | zero=>simp [zae]
     | succ n ih=>rw [List.replicate_succ,List.replicate_succ];simp only [zae];exact⟨x,_,rfl,fx2,ih⟩
    exact this _
 | _=>exact q2.elim
theorem znD{elt tg iter:Expr}{ifs:List Expr}{scope:Scope}{it:IF}{g:GF}{t:TF}{dom:List Nat}{x0:Str}{pos' spos:Pos}(i0:Nat)(L:List Str)(ix:List Nat)(M:List Str)(hN:X.N.Nodup)(hii:X.N[i0]?=some x0)(hx0:X.env.scope.names.lookup x0=some .local)
  (hsw:swapsWith (.ListComp elt [⟨tg,iter,ifs,0⟩] scope pos) (some (.Name x0 pos')) spos.line X.env=pure true)(hc:X.calm=true)(hk:scope.kind=.function)
  (hd:zcR X.env.scope scope X.N ix=true)(hM:M=L++ix.map fun i=>X.N.getD i "") (nd:ix.Nodup) (hi:PVI K X tg iter it)
  (hg:∀ C s₃ H₃ fp,PVG K (zat X M scope C s₃ H₃ fp) dom tg g) (hgo:dom.all (fun i=>decide (i<L.length))=true)
  (ht:∀ C s₃ H₃ fp,zoR K (zat X M scope C s₃ H₃ fp) ifs t) (he:∀ C s₃ H₃ fp,PV K (zat X M scope C s₃ H₃ fp) elt f)
  (hs:∀ x,foldedSetIterable iter X.env x=pure x:=by intro _;rfl) :
  PSV K X (.Assign [.Name x0 pos'] (.ListComp elt [⟨tg,iter,ifs,0⟩] scope pos) spos) (zcH i0 (zbd L.length ix it g t f)):=.mk fun hK C =>
 (zlK i0 L ix M hN hii hx0 hsw hc hk hd hM (hi hK) (fun C s₃ H₃ fp=>hg C s₃ H₃ fp hK) (zhr hgo) (fun C s₃ H₃ fp=>ht C s₃ H₃ fp hK) (fun C s₃ H₃ fp=>he C s₃ H₃ fp hK) hs).weak fun Dn σ H q=>zpq nd hgo σ H _ (zs2 Dn σ H q)
end
end
section
variable [Cs]
structure Blt(mg:Str->Option Value):Prop where
 zmf:mg "abs"=none
 zaw:mg "isinstance"=none
 zmd:mg "int"=none
 zj8:mg "bool"=none
 zct:mg "tuple"=none
 zia:mg "list"=none
 zsJ:mg "str"=none
 zib:mg "len"=none
 zob:mg "all"=none
 zcd:mg "range"=none
 zqN:mg "zip"=none
 zcO:mg "enumerate"=none
 zqP:mg "max"=none
 zqO:mg "min"=none
 zsI:mg "sum"=none
 zfg:mg "sorted"=none
 zme:mg "dict"=none
 zsK:mg "any"=none
namespace Bt
theorem abs:bootBuiltins "abs"=some (.builtin "abs"):=by decide +kernel
theorem len:bootBuiltins "len"=some (.builtin "len"):=by decide +kernel
theorem all:bootBuiltins "all"=some (.builtin "all"):=by decide +kernel
theorem max:bootBuiltins "max"=some (.builtin "max"):=by decide +kernel
theorem min:bootBuiltins "min"=some (.builtin "min"):=by decide +kernel
theorem sorted:bootBuiltins "sorted"=some (.builtin "sorted"):=by decide +kernel
theorem dict:bootBuiltins "dict"=some (.type "dict"):=by decide +kernel
theorem int:bootBuiltins "int"=some (.type "int"):=by decide +kernel
theorem bool:bootBuiltins "bool"=some (.type "bool"):=by decide +kernel
theorem tuple:bootBuiltins "tuple"=some (.type "tuple"):=by decide +kernel
theorem list:bootBuiltins "list"=some (.type "list"):=by decide +kernel
end Bt
theorem zg4{K:PySem.W.Frag}{X:Cx}{st:List Stmt}{f:SF}(h:zga K X.nox st f):zga K X st f:=.mk fun hK C=>PSs.nox (h hK C)
theorem zsO{K:PySem.W.Frag}{G:List D->R D}{H:Hp}{a:Addr}{ns:List Int}(h:G [.list (ns.map PyData.int)]=.ok (.bool true))(hO:∀ b xs,H b≠some (.lst xs))(hC:znh H)(hS:SqL K H a (ns.map V.int)):spP K 1 false G [.ref a] H (fun v _=>v=.bl true) fun _ _ _=>False:=by
 refine⟨[.list (ns.map PyData.int)],rfl,hC,?_,.bool true,h,fun v H' _ fz=>by simpa [Fz] using fz⟩
 simp only [zae,Fz]
 refine⟨.ref a,[],rfl,⟨a,ns.map V.int,rfl,?_,zae.ofInts ns⟩,rfl⟩
 rcases hS with(hS|⟨o,hS⟩)|hS
 ·exact absurd hS (hO a _)
 ·exact .inl ⟨o,hS⟩
 ·exact .inr hS
end
end FL
namespace FL
open PySem
end FL
namespace L2
open PySem PySem.Spec PyProof.Rows
section
end
section
end
end L2
namespace FL
open PySem L2 PySem.Spec
open PyProof.Rows hiding St
variable [Cs]
end FL
namespace FL
open PySem
abbrev K1:=Int ⊕ Str
abbrev KQ:=List K1 ⊕ K1
def kOf:D->Option K1
 | .int i=>some (.inl i)
 | .str x=>some (.inr x)
 | _=>none
def zld:List D->Option (List K1)
 | []=>some []
 | d::r=>(kOf d).bind fun k=>(zld r).map fun ks=>k::ks
def keyOf:D->Option KQ
 | .tuple xs=>(zld xs).map .inl
 | _=>none
def form:KQ->Bool
 | .inl _=>true
 | .inr _=>false
def keysOk(f:Bool)(kvs:List (D×D)):Bool:=kvs.all fun kv=>match keyOf kv.1 with
 | some q=>form q==f
 | none=>false
def look(kvs:List (D×D))(q:KQ):Option D:=(kvs.find? fun kv=>decide (keyOf kv.1=some q)).map (·.2)
def zqf(kvs:List (D×D))(k:D)(q:KQ)(v:D):List (D×D) :=
 if(kvs.any fun kv=>decide (keyOf kv.1=some q))=true then kvs.map fun kv=>if keyOf kv.1=some q then(kv.1,v) else kv else kvs++[(k,v)]
def zuO(kvs:List (D×D))(q:KQ):List (D×D):=kvs.filter fun kv=>decide (keyOf kv.1≠some q)
def dictAt(d k:D):R (List (D×D)×KQ):=match d with
 | .dict kvs=>(R.of (keyOf k)).bind fun q=>chk (keysOk (form q) kvs) (.ok (kvs,q))
 | _=>.bad
def zdE(d k:D):R (Option D):=(dictAt d k).bind fun x=>.ok (look x.1 x.2)
def zjk(d k x:D):R D:=(zdE d k).bind fun o=>.ok (o.getD x)
def inD(k d:D):R D:=(zdE d k).bind fun o=>.ok (.bool o.isSome)
def zmO(d k:D):R D:=(zdE d k).bind fun o=>R.of o
def zk5(d k v:D):R D:=(dictAt d k).bind fun x=>chk (leB (x.1.length+1) lim) (.ok (.dict (zqf x.1 k x.2 v)))
def zuS(d k:D):R D:=(dictAt d k).bind fun x=>chk (look x.1 x.2).isSome (.ok (.dict (zuO x.1 x.2)))
def zfO:D->R (List D)
 | .dict kvs=>.ok (kvs.map (·.1))
 | _=>.bad
def zhj(i:Nat)(k x:EF):EF:=fun ρ=>(zax ρ i).bind fun c0=>(zfO c0).bind fun _=>(k ρ).bind fun a=>(x a.2).bind fun b=>(zax b.2 i).bind fun c=>(zjk c a.1 b.1).bind fun d=>.ok (d,b.2)
def e3(g:D->D->D->R D)(d k x:EF):EF:=fun ρ=>(d ρ).bind fun c=>(k c.2).bind fun a=>(x a.2).bind fun b=>(g c.1 a.1 b.1).bind fun r=>.ok (r,b.2)
def zeF(i:Nat)(k f:EF):SF:=fun ρ=>(f ρ).bind fun v=>(zax v.2 i).bind fun _=>(k v.2).bind fun a=>(zax a.2 i).bind fun c=>(zk5 c a.1 v.1).bind fun d=>.ok (.nx,zay a.2 i d)
def zhy(i:Nat)(k:EF):SF:=fun ρ=>(zax ρ i).bind fun _=>(k ρ).bind fun a=>(zax a.2 i).bind fun c=>(zuS c a.1).bind fun d=>.ok (.nx,zay a.2 i d)
def iD(f:EF):IF:=fun ρ=>(f ρ).bind fun x=>(zfO x.1).bind fun l=>.ok (l,x.2)
def zeg(k v:EF):EF:=fun ρ=>(k ρ).bind fun x=>(v x.2).bind fun y=>(zk5 (.dict []) x.1 y.1).bind fun d=>.ok (d,y.2)
def zcZ:EF:=fun ρ=>.ok (.dict [],ρ)
end FL
namespace PySem
open Spec
end PySem
namespace L2
open PySem PySem.Spec PyProof.Rows
end L2
namespace PySem
open Spec
section
variable {prog:Program}{w:World}{A:Around}{E:Value->Shared->Prop}{s:Shared}
structure DEs(h:Heap)(d:Addr)(es:Array DictEntry)(ep:Nat):Prop where
 ex:∃ o,h.get? d=some o/\o.ExactDict/\o.data=.dict es ep
theorem DEs.typ{d:Addr}{es:Array DictEntry}{ep:Nat}(x:DEs s.heap d es ep):s.TypeIs (.ref d) "dict":=by
 obtain⟨o,ho,hc,_⟩:=x.ex
 exact⟨o,ho,hc.1⟩
theorem zuw{d:Addr}{es:Array DictEntry}{ep:Nat}{Q:Value->Shared->Prop}(hd:(d==sysModules)=false)(x:DEs s.heap d es ep)
  (hQ:Q (.ref s.heap.objs.size) { s with heap:=s.heap.push { cls:=.type "dict_keyiterator",data:=.fields #[.ref d,.int 0 0,.int es.size 0,.int ep 0] } }):wpAny (model prog w) A (pyIter (.ref d)) Q E s:=by
 obtain⟨o,ho,hc,hdat⟩:=x.ex
 have hT:=x.typ
 refine wpAny_pyIter_slot hT F.slot_dict_iter (wpAny_call_entry F.slot_dict_iter hT F.entry_dict_iter ?_ (F.args_dict_iter_1 _))
 unfold Builtin.«dict.__iter__» Builtin.Dict.dictSlotNone
 refine wpAny_bind (wpAny_bind (wpAny_notOrdered_dict hT ?_))
 show wpAny _ _ (pure (Value.ref d)) _ _ s
 refine wpAny_pure ?_
 show wpAny _ _ (Builtin.Dict.showsAll d >>= _) _ _ s
 unfold Builtin.Dict.showsAll
 rw [if_neg (by rw [hd];exact Bool.false_ne_true)]
 refine wpAny_bind (wpAny_pure (wpAny_bind (wpAny_dictEntries ho hdat (wpAny_bind (wpAny_dictEpoch ho hdat ?_)))))
 refine wpAny_bind (wpAny_newObj_type (wpAny_pure ⟨_,rfl,"dict_keyiterator",_,⟨_,Heap.get?_push_size _ rfl,rfl⟩,F.slot_dict_keyiterator_next.lookup,?_⟩))
 simpa [rawInt] using hQ
theorem zul{it d:Addr}{i ep:Nat}{es:Array DictEntry}{Q:Option Value->Shared->Prop}(hit:s.heap.IsKeyIter it d i es.size ep)(x:DEs s.heap d es ep)(hi:i<es.size)
  (hQ:∀ h',h'.IsKeyIter it d (i+1) es.size ep->Heap.SameBut it s.heap h'->Q (some es[i].key) { s with heap:=h' }):wpAny (model prog w) A (pyNext (.ref it)) Q E s:=by
 obtain⟨o,ho,hc,hd⟩:=id hit
 obtain⟨od,hod,hcd,hdd⟩:=x.ex
 unfold pyNext
 refine wpAny_bind (wpAny_attempt (wpAny_callSpecial?_slot (name:=Str.ofString "__next__") hit.typeIs F.slot_dict_keyiterator_next (wpAny_call_entry F.slot_dict_keyiterator_next hit.typeIs F.entry_dict_keyiterator_next ?_ (F.args_dict_keyiterator_next_1 _))))
 refine wpAny_bind (wpAny_pure (wpAny_bind (wpAny_bind ?_)))
 first|refine wpAny_bind (wpAny_typeNameOfWhole_keyiter hit.typeIs (wpAny_pure ?_))|refine wpAny_bind (wpAny_typeNameOf_keyiter hit.typeIs (wpAny_pure ?_))
 refine wpAny_bind (wpAny_fieldsOf ho hd ?_)
 have hown:Builtin.Dict_items.ownsTuple "dict_keyiterator"=false:=by decide
 simp only [hown,Bool.false_eq_true,if_false]
 show wpAny _ _ (if(Value.ref d==Value.none)=true then _ else _) _ _ s
 rw [if_neg (show ¬ ((Value.ref d==Value.none)=true) from Bool.false_ne_true)]
 refine wpAny_bind (wpAny_pure (wpAny_bind (wpAny_dictEntries hod hdd ?_)))
 rw [if_neg (by simp)]
 refine wpAny_bind (wpAny_pure (wpAny_bind (wpAny_dictEpoch hod hdd ?_)))
 rw [if_neg (by simp)]
 refine wpAny_pure ?_
 simp only [show ¬ ((i:Int)<0) from by omega,if_false,Int.toNat_natCast,Array.getElem?_eq_getElem hi]
 refine wpAny_bind ?_
 first|refine wpAny_bind (wpAny_typeNameOfWhole_keyiter hit.typeIs (wpAny_pure ?_))|refine wpAny_bind (wpAny_typeNameOf_keyiter hit.typeIs (wpAny_pure ?_))
 refine wpAny_bind (wpAny_isOneOf_keyiter hit.typeIs ?_)
 show wpAny _ _ (setField (.ref it) 1 (rawInt ((i:Int)+1)) >>= _) _ _ s
 refine wpAny_bind (wpAny_setField ho hd (by simp) ?_)
 have hit':(s.heap.update it (Obj.mapFields (·.setIfInBounds 1 (rawInt ((i:Int)+1))))).IsKeyIter it d (i+1) es.size ep :=
  ⟨_,Heap.get?_update_self _ ho (Obj.isFreed_of_fields (Obj.data_mapFields hd _)),(Obj.cls_mapFields ..).trans hc,by rw [Obj.data_mapFields hd];simp [rawInt]⟩
 refine wpAny_bind (wpAny_holding (wpAny_bind (wpAny_isOneOf_keyiter (s:={ s with heap:=s.heap.update it (Obj.mapFields (·.setIfInBounds 1 (rawInt ((i:Int)+1)))) }) hit'.typeIs ?_)))
 show wpAny _ _ (pure es[i].key) _ _ _
 exact wpAny_pure (wpAny_pure ⟨_,rfl,wpAny_pure (hQ _ hit' (Heap.SameBut.update ..))⟩)
theorem zuM{it d:Addr}{i ep:Nat}{es:Array DictEntry}{Q:Option Value->Shared->Prop}(hh:A.handled=none)(hit:s.heap.IsKeyIter it d i es.size ep)(x:DEs s.heap d es ep)(hge:es.size<=i)
  (hQ:∀ h',Heap.ExtBut it s.heap h'->Q none { s with heap:=h' }):wpAny (model prog w) A (pyNext (.ref it)) Q E s:=by
 obtain⟨o,ho,hc,hd⟩:=id hit
 obtain⟨od,hod,hcd,hdd⟩:=x.ex
 unfold pyNext
 refine wpAny_bind (wpAny_attempt (wpAny_callSpecial?_slot (name:=Str.ofString "__next__") hit.typeIs F.slot_dict_keyiterator_next (wpAny_call_entry F.slot_dict_keyiterator_next hit.typeIs F.entry_dict_keyiterator_next ?_ (F.args_dict_keyiterator_next_1 _))))
 refine wpAny_bind (wpAny_pure (wpAny_bind (wpAny_bind ?_)))
 first|refine wpAny_bind (wpAny_typeNameOfWhole_keyiter hit.typeIs (wpAny_pure ?_))|refine wpAny_bind (wpAny_typeNameOf_keyiter hit.typeIs (wpAny_pure ?_))
 refine wpAny_bind (wpAny_fieldsOf ho hd ?_)
 have hown:Builtin.Dict_items.ownsTuple "dict_keyiterator"=false:=by decide
 simp only [hown,Bool.false_eq_true,if_false]
 show wpAny _ _ (if(Value.ref d==Value.none)=true then _ else _) _ _ s
 rw [if_neg (show ¬ ((Value.ref d==Value.none)=true) from Bool.false_ne_true)]
 refine wpAny_bind (wpAny_pure (wpAny_bind (wpAny_dictEntries hod hdd ?_)))
 rw [if_neg (by simp)]
 refine wpAny_bind (wpAny_pure (wpAny_bind (wpAny_dictEpoch hod hdd ?_)))
 rw [if_neg (by simp)]
 refine wpAny_pure ?_
 simp only [show ¬ ((i:Int)<0) from by omega,if_false,Int.toNat_natCast,Array.getElem?_eq_none hge]
 refine wpAny_bind ?_
 first|refine wpAny_bind (wpAny_typeNameOfWhole_keyiter hit.typeIs (wpAny_pure ?_))|refine wpAny_bind (wpAny_typeNameOf_keyiter hit.typeIs (wpAny_pure ?_))
 show wpAny _ _ (setField (.ref it) 0 .none >>= _) _ _ s
 refine wpAny_bind (wpAny_setField ho hd (by simp) ?_)
 show wpAny _ _ (newExc (.type "StopIteration") [] >>= _) _ _ _
 refine wpAny_bind ?_
 simp only [newExc,newTuple]
 refine wpAny_bind (wpAny_newObj_type ?_ (by size_fits))
 refine wpAny_bind (m:=firstArgMember _ _) (wpAny_of_eq (a:=Value.none) (by first|rfl|(simp only [firstArgMember];rfl)) ?_)
 refine wpAny_newObj_type ?_ (by size_fits)
 simp only [raiseNew]
 refine wpAny_bind (wpAny_handled ?_)
 rw [show A.in1.handled=none from hh]
 refine wpAny_bind (wpAny_pure (wpAny_throw ?_))
 refine wpAny_bind (wpAny_isInstance (T:="StopIteration") (b:=true) ⟨_,Heap.get?_push_size _ rfl,rfl⟩ isSubtype_stop ?_)
 exact wpAny_pure (hQ _ (((Heap.SameBut.update ..).extBut.push _).push _))
end
end PySem
namespace L2
open PySem PySem.Spec PyProof.Rows
section
end
section
def DG(H:Hp)(a:Addr)(y:V)(r:Option V):Prop :=
 ztu H a y r
section
variable {X:Cx}{pins:List (Addr×Obj)}{σ:St}{H:Hp}{s:Shared}{a:Addr}{y v d:V}{u r:Value}{o:Option V}{A:Around}{E:Value->Shared->Prop}
theorem zuR{Q:Value->Shared->Prop}(hu:A.units+1<cLine)(I:Inv X pins σ H s)(g:DG H a y o)(ry:RelV y u)(h:∀ s',Inv X pins σ H s'->Q (.bool o.isSome) s') :
  wpAny (model X.prog X.w) A (compareOp .In u (.ref a)) Q E s:=by
 exact zv7 hu I g ry h
theorem zrh{Q:Value->Shared->Prop}(hu:A.units+1<cLine)(I:Inv X pins σ H s)(g:DG H a y o)(ry:RelV y u)(rd:RelV d r)(h:∀ w' s',Inv X pins σ H s'->RelV (o.getD d) w'->Q w' s') :
  wpAny (model X.prog X.w) A (call (.builtin "dict.get") [.ref a,u,r]) Q E s:=by
 exact zte hu I g ry rd h
def DP(H:Hp)(a:Addr)(y v:V)(H':Hp):Prop :=
 zvo H a y v H'
theorem ztc{H':Hp}{Q:Unit->Shared->Prop}(hu:A.units+1<cLine)(I:Inv X pins σ H s)(g:DP H a y v H')(ry:RelV y u)(rv:RelV v r)(h:∀ s',Inv X pins σ H' s'->Q () s') :
  wpAny (model X.prog X.w) A (setItem (.ref a) u r) Q E s:=by
 exact zmP hu I g ry rv h
end
section
variable {X:Cx}{o i e f value:Expr}{apos cpos pos pos':Pos}{td ty tx tv:TE}
def zrP(td ty tx:TE):TE:=fun σ H Q=>td σ H fun x H1=>∃ a,x=.ref a/\IsD H1 a/\ty σ H1 fun y H2=>tx σ H2 fun z H3=>∃ o,DG H3 a y o/\Q (o.getD z) H3
def ztT(td ty tv:TE):TS:=fun D σ H=>tv σ H fun v H1=>td σ H1 fun x H2=>ty σ H2 fun y H3=>∃ a H4,x=.ref a/\DP H3 a y v H4/\D.nx σ H4
theorem znY(hu:X.A.units+1<cLine)(ho:PE X o td)(he:PE X e ty)(hf:PE X f tx)(m:M2 X o "get" apos e f cpos):PE X (.Call (.Attribute o "get" apos) [e,f] [] cpos) (zrP td ty tx):=by
 intro pins s σ H Q I h
 refine wpAny_Call_method m.base m.few m.line PySem.F.plainAttrs_dict PySem.F.slot_dict_get PySem.F.type_dict_get (thn (ho pins s σ H _ I h) fun u s1 ⟨x,H1,I1,rx,a,ex,d,q1⟩=>?_)
 subst ex
 obtain rfl:u=Value.ref a:=rx
 obtain⟨t1,t2,_⟩:=zsY I1 d
 refine⟨t1,t2,?_⟩
 rw [m.trees]
 exact Calls.callWith_builtin rfl (Calls.evalArgs_plain (Calls.spliced_cons (thn (he pins s1 σ H1 _ I1 q1) fun iv s2 ⟨y,H2,I2,ry,q2⟩ =>
  Calls.spliced_cons (thn (hf pins s2 σ H2 _ I2 q2) fun fv s3 ⟨z,H3,I3,rz,ov,g,q3⟩=>Calls.spliced_nil (zrh hu I3 g ry rz fun w' s4 I4 rw'=>⟨_,H3,I4,rw',q3⟩)))))
theorem zqn(hu:X.A.units+1<cLine)(ho:PE X o td)(hi:PE X i ty)(hv:PE X value tv)(hs:swapsWith value (some (.Subscript o i pos')) pos.line X.env=pure false) :
  PS X (.Assign [.Subscript o i pos'] value pos) (ztT td ty tv):=by
 intro pins s σ H D I h
 refine wpAny_Assign_Subscript (thn (hv pins s σ H _ I h) fun r s1 ⟨v,H1,I1,rv,q1⟩=>thn (ho pins s1 σ H1 _ I1 q1) fun u s2 ⟨x,H2,I2,rx,q2⟩=>thn (hi pins s2 σ H2 _ I2 q2) fun iv s3 ⟨y,H3,I3,ry,a,H4,ex,g,q3⟩=>?_) hs
 subst ex
 obtain rfl:u=Value.ref a:=rx
 exact ztc hu I3 g ry rv fun s4 I4=>⟨σ,H4,I4,q3⟩
end
end
end L2
namespace FL
open PySem L2 PySem.Spec
open PyProof.Rows hiding St
section
variable [Cs]
theorem zj5{α:Type}{o:Option α}{a:α}(h:R.of o=.ok a):o=some a:=by
 cases o with
 | none=>cases h
 | some b=>cases h;rfl
theorem zsV(k:Key):kOf (kD k)=some k:=by cases k <;> rfl
theorem zmt:∀ ks:List Key,zld (ks.map kD)=some ks
 | []=>rfl
 | k::r=>by simp only [List.map_cons,zld,zsV,Option.bind_some,zmt r,Option.map_some]
theorem zfP(q:List Key):keyOf (zkV q)=some (.inl q):=by simp only [zkV,keyOf,zmt,Option.map_some]
theorem zqX{d:D}{k:Key}(h:kOf d=some k):d=kD k:=by
 cases d with
 | int i=>cases h;rfl
 | str i=>cases h;rfl
 | _=>cases h
theorem zho:∀{ds:List D} {ks:List Key},zld ds=some ks->ds=ks.map kD
 | [],ks,h=>by simp only [zld,Option.some.injEq] at h;subst h;rfl
 | d::r,ks,h=>by
  simp only [zld,Option.bind_eq_some_iff,Option.map_eq_some_iff] at h
  obtain⟨k,e,ks',e',rfl⟩:=h
  rw [zqX e,zho e'];rfl
section
variable {K:PySem.W.Frag}{H H':Hp}
theorem zuJ{k:Key}:Fz K H (kD k) (kV k):=by cases k <;> simp [kD,kV,Fz]
theorem zuv{k:Key}{v:V}(h:Fz K H (kD k) v):v=kV k:=by cases k <;> simpa [kD,kV,Fz] using h
theorem zkk:∀ ks:List Key,zae K H (ks.map kD) (ks.map kV)
 | []=>by simp [zae]
 | k::r=>by simp only [List.map_cons,zae];exact⟨_,_,rfl,zuJ,zkk r⟩
theorem zmz:∀{ks:List Key} {vs:List V},zae K H (ks.map kD) vs->vs=ks.map kV
 | [],vs,h=>by simpa [zae] using h
 | k::r,vs,h=>by
  simp only [List.map_cons,zae] at h
  obtain⟨v,t,rfl,h1,h2⟩:=h
  rw [zuv h1,zmz h2];rfl
theorem zq9{ks:List Key}{b:Addr}(h:TAt H b (ks.map kV)):Fz K H (zkV ks) (.ref b):=by
 simp only [zkV,Fz]
 exact⟨b,_,rfl,h,zkk ks⟩
theorem zoX{k:D}{v:V}{q:KQ}(f:Tp K H k v)(e:keyOf k=some q):∃ ks b,q=.inl ks/\k=zkV ks/\v=.ref b/\TAt H b (ks.map kV):=by
 cases k with
 | tuple xs =>
  simp only [keyOf,Option.map_eq_some_iff] at e
  obtain⟨ks,e1,rfl⟩:=e
  have:=zho e1
  subst this
  obtain⟨b,vs,rfl,tb,fa⟩:=(show ∃ a vs,v=.ref a/\TAt H a vs/\zae K H (ks.map kD) vs by simpa [Tp,Fz] using f)
  rw [zmz fa] at tb
  exact⟨ks,b,rfl,rfl,rfl,tb⟩
 | _=>cases e
theorem zpf:∀{kvs:List (D×D)} {kk:List (List Key×V)},zb9 K H kvs kk->∀ q:List Key,(look kvs (.inl q)=none/\zll kk q=none)\/∃ d v,look kvs (.inl q)=some d/\zll kk q=some v/\Fz K H d v
 | [],kk,h,q=>by simp only [zb9] at h;subst h;exact .inl ⟨rfl,rfl⟩
 | (k,d)::r,kk,h,q=>by
  simp only [zb9] at h
  obtain⟨q',v,t,rfl,rfl,f,h2⟩:=h
  by_cases c:q'=q
  ·subst c
   exact .inr ⟨d,v,by simp [look,List.find?_cons,zfP],zgN rfl,f⟩
  ·have e1:look ((zkV q',d)::r) (.inl q)=look r (.inl q):=by simp [look,List.find?_cons,zfP,c]
   rw [e1,zgO (p:=(q',v)) c]
   exact zpf h2 q
theorem zeE{d k:D}{x:List (D×D)×KQ}(h:dictAt d k=.ok x):d=.dict x.1/\keyOf k=some x.2/\keysOk (form x.2) x.1=true:=by
 cases d with
 | dict kvs =>
  obtain⟨q,e1,h⟩:=zai (show(R.of (keyOf k)).bind _=.ok x from h)
  obtain⟨c,h⟩:=zaX h
  cases h
  exact⟨rfl,zj5 e1,c⟩
 | _=>cases h
theorem zrg{d k:D}{x y:V}{o:Option D}(t:Tp K H d x)(f:Tp K H k y)(e:zdE d k=.ok o) :
  ∃ a r,x=.ref a/\IsD H a/\DG H a y r/\((o=none/\r=none)\/∃ d v,o=some d/\r=some v/\Fz K H d v):=by
 obtain⟨⟨kvs,q⟩,e1,e⟩:=zai (show(dictAt d k).bind _=.ok o from e)
 cases e
 obtain⟨rfl,ek,c⟩:=zeE e1
 obtain⟨a,ea,kk,rd,h⟩:=(show ∃ a,x=.ref a/\∃ kk,Rd H a (.dT kk)/\zb9 K H kvs kk from t)
 subst ea
 obtain⟨ks,b,rfl,rfl,rfl,tb⟩:=zoX f ek
 refine⟨a,zll kk ks,rfl,⟨kk,rd⟩,⟨kk,ks,b,rd,rfl,tb,rfl⟩,?_⟩
 rcases zpf h ks with⟨z1,z2⟩|⟨d,v,z1,z2,z3⟩
 ·exact .inl ⟨z1,z2⟩
 ·exact .inr ⟨d,v,z1,z2,z3⟩
theorem ztn:∀{kvs:List (D×D)} {kk:List (List Key×V)},zb9 K H kvs kk->∀ q:List Key,(kvs.any fun kv=>decide (keyOf kv.1=some (.inl q)))=kk.any fun kv=>decide (kv.1=q)
 | [],kk,h,q=>by simp only [zb9] at h;subst h;rfl
 | (k,d)::r,kk,h,q=>by
  simp only [zb9] at h
  obtain⟨q',v,t,rfl,rfl,f,h2⟩:=h
  simp only [List.any_cons,ztn h2 q,zfP,Option.some.injEq,Sum.inl.injEq]
theorem zrW{d:D}{v:V}(f:Fz K H d v):∀{kvs:List (D×D)} {kk:List (List Key×V)},zb9 K H kvs kk->∀ q:List Key,zb9 K H (kvs.map fun kv=>if keyOf kv.1=some (.inl q) then(kv.1,d) else kv) (kk.map fun kv=>if kv.1=q then(kv.1,v) else kv)
 | [],kk,h,q=>by simp only [zb9] at h;subst h;simp [zb9]
 | (k,d0)::r,kk,h,q=>by
  simp only [zb9] at h
  obtain⟨q',v0,t,rfl,rfl,f0,h2⟩:=h
  have ih:=zrW f h2 q
  by_cases c:q'=q
  ·subst c
   simp only [List.map_cons,zfP,if_true,zb9]
   exact⟨q',v,_,rfl,rfl,f,ih⟩
  ·simp only [List.map_cons,zfP,Option.some.injEq,Sum.inl.injEq,if_neg c,zb9]
   exact⟨q',v0,_,rfl,rfl,f0,ih⟩
theorem ztm{d:D}{v:V}(f:Fz K H d v)(q:List Key):∀{kvs:List (D×D)} {kk:List (List Key×V)},zb9 K H kvs kk->zb9 K H (kvs++[(zkV q,d)]) (kk++[(q,v)])
 | [],kk,h=>by simp only [zb9] at h;subst h;simp only [List.nil_append,zb9];exact⟨q,v,[],rfl,rfl,f,rfl⟩
 | (k,d0)::r,kk,h=>by
  simp only [zb9] at h
  obtain⟨q',v0,t,rfl,rfl,f0,h2⟩:=h
  simp only [List.cons_append,zb9]
  exact⟨q',v0,_,rfl,rfl,f0,ztm f q h2⟩
theorem zsa{d:D}{v:V}{kvs:List (D×D)}{kk:List (List Key×V)}(h:zb9 K H kvs kk)(f:Fz K H d v)(q:List Key):zb9 K H (zqf kvs (zkV q) (.inl q) d) (putK kk q v):=by
 unfold zqf putK
 rw [ztn h q]
 split
 ·exact zrW f h q
 ·exact ztm f q h
theorem zb9.len:∀{kvs:List (D×D)} {kk:List (List Key×V)},zb9 K H kvs kk->kk.length=kvs.length
 | [],kk,h=>by simp only [zb9] at h;subst h;rfl
 | (k,d0)::r,kk,h=>by
  simp only [zb9] at h
  obtain⟨q',v0,t,rfl,rfl,f0,h2⟩:=h
  simp [h2.len]
theorem zq8{a:Addr}{u o:HO}(e:H a=some u)(ow:Own u):Fzn H (upd H a o):=fun b w eb st=>by
 rw [zao fun z=>by subst z;rw [e] at eb;cases eb;exact ow.zcs st]
 exact eb
theorem zuP{c k dv d':D}{a:Addr}{y v:V}(m:zby K H a c)(f:Fz K H k y)(g:Fz K H dv v)(e:zk5 c k dv=.ok d'):∃ o,DP H a y v (upd H a o)/\zby K (upd H a o) a d':=by
 obtain⟨⟨kvs,q⟩,e1,e⟩:=zai (show(dictAt c k).bind _=.ok d' from e)
 obtain⟨l,e⟩:=zaX e
 cases e
 obtain⟨rfl,ek,c⟩:=zeE e1
 have hl:kvs.length+1<=sizeLine:=Nat.le_trans (zeA l) zbo
 obtain⟨kk,rd,h⟩:=(show ∃ kk,H a=some (.dT kk)/\zb9 K H kvs kk from m)
 have fz:∀ o,Fzn H (upd H a o):=fun o=>zq8 rd trivial
 obtain⟨ks,b,rfl,rfl,rfl,tb⟩:=zoX f.tp ek
 exact⟨.dT (putK kk ks v),⟨kk,ks,b,rd,rfl,tb,by rw [h.len];omega,rfl⟩,⟨_,zal,(zsa h g ks).mono (fz _)⟩⟩
end
end
section
variable [Cs]
section
variable {X:Cx}
theorem zsA(hu:X.A.units+1<cLine):OpR X (compareOp .In) (rD X.K inD):=by
 intro pins s σ H x y v u Q I rx ry h
 obtain⟨dx,dy,d,tx,ty,e,q⟩:=h
 obtain⟨o,e1,e⟩:=zai (show(zdE dy dx).bind _=.ok d from e)
 cases e
 obtain⟨a,r,rfl,_,g,rel⟩:=zrg ty tx e1
 cases ry
 have hb:o.isSome=r.isSome:=by
  rcases rel with⟨rfl,rfl⟩|⟨_,_,rfl,rfl,_⟩ <;> rfl
 exact zuR hu I g rx fun s3 I3=>⟨.bl r.isSome,H,I3,rfl,q _ H (zaM.refl _) (by rw [hb];simp [Fz])⟩
theorem zqZ(hu:X.A.units+1<cLine):IxR X (rD X.K zmO):=by
 intro value slice pins s σ H x y v u Q I rx ry h hs
 obtain⟨dx,dy,d,tx,ty,e,q⟩:=h
 obtain⟨o,e1,e⟩:=zai (show(zdE dx dy).bind _=.ok d from e)
 have eo:=zj5 e
 subst eo
 obtain⟨a,r,rfl,_,g,rel⟩:=zrg tx ty e1
 cases rx
 rcases rel with⟨z,_⟩|⟨d',w,z,rfl,fz⟩
 ·cases z
 cases z
 have hT:=zjs I g
 have h2:wpAny (model X.prog X.w) X.A (getItem (.ref a) u) (EP X pins σ Q) X.xe s:=zmQ hu I g ry fun w' s3 I3 rw'=>⟨w,H,I3,rw',q w H (zaM.refl _) fz⟩
 unfold subscriptTail
 refine wpAny_bind ?_
 rw [getitemInPython_of_ne hT.not_modules]
 refine wpAny_bind (wpAny_specialOf hT PySem.F.slot_dict_getitem.lookup ?_)
 have fin:wpAny (model X.prog X.w) X.A (subscripted slice false (.ref a) u) (fun r s₃=>wpAny (model X.prog X.w) X.A (letTemporaryGo value (.ref a) r >>= fun _=>pure r) (EP X pins σ Q) X.xe s₃) X.xe s:=by
  rw [hs]
  exact wpAny_operating (wpAny_mono h2 (fun r s₃ h₃=>wpAny_bind (wpAny_letTemporaryGo (wpAny_pure h₃))) fun _ _ x=>x)
 first
  | exact wpAny_pure (wpAny_bind fin)
  | exact wpAny_bind (wpAny_pure (wpAny_bind fin))
  | exact wpAny_bind fin
end
section
variable {K:PySem.W.Frag}{X:Cx}{o e e':Expr}{fd fk fx f:EF}{apos cpos pos:Pos}
theorem zqb(hu:X.A.units+1<cLine)(ho:PV K X o fd)(he:PV K X e fk)(hf:PV K X e' fx)(m:M2 X o "get" apos e e' cpos):PV K X (.Call (.Attribute o "get" apos) [e,e'] [] cpos) (e3 zjk fd fk fx):=.mk fun hK=>by
 subst hK
 refine(znY hu (ho rfl) (he rfl) (hf rfl) m).weak fun σ H Q=>?_
 rintro⟨ρ,rel,q⟩
 refine goV rel q fun dx ρ1 x H1 rel1 st1 fz1 q1=>?_
 obtain⟨ya,ea,q2⟩:=id q1.bnd
 obtain⟨yb,eb,q3⟩:=q2.bnd
 obtain⟨dr,er,_⟩:=q3.zc0
 obtain⟨o0,e0,_⟩:=zai (show(zdE dx ya.1).bind _=.ok dr from er)
 obtain⟨z0,e00,_⟩:=zai (show(dictAt dx ya.1).bind _=.ok o0 from e0)
 obtain⟨rfl,_,_⟩:=zeE e00
 have isd:∃ a,x=.ref a/\IsD H1 a:=by
  obtain⟨a,rfl,kk,rd,_⟩:=fz1.tp
  exact⟨a,rfl,kk,rd⟩
 obtain⟨a,rfl,isd⟩:=isd
 refine⟨a,rfl,isd,goV rel1 q1 fun dk ρ2 y H2 rel2 st2 fz2 q2=>goV rel2 q2 fun dz ρ3 z H3 rel3 st3 fz3 q3=>?_⟩
 obtain⟨dr,er,q4⟩:=q3.zc0
 obtain⟨o1,e1,er⟩:=zai (show(zdE _ dk).bind _=.ok dr from er)
 cases er
 obtain⟨a',r,ea',_,g,rl⟩:=zrg ((fz1.mono (st2.fzn rel1)).mono (st3.fzn rel2)).tp (fz2.mono (st3.fzn rel2)).tp e1
 cases ea'
 refine⟨r,g,q4.now rel3 _ ?_⟩
 rcases rl with⟨rfl,rfl⟩|⟨d,v,rfl,rfl,fv⟩
 ·exact fz3
 ·exact fv
theorem znF{y:Str}{py ps':Pos}{ke:Expr}{k:EF}(i:Nat)(hu:X.A.units+1<cLine)(ha:PE X (.Name y py) (zdX i))(he:PV K X e f)(hk:PV K X ke k)
  (hs:swapsWith e (some (.Subscript (.Name y py) ke ps')) pos.line X.env=pure false:=by rfl):PSV K X (.Assign [.Subscript (.Name y py) ke ps'] e pos) (zeF i k f):=.mk fun hK C=>by
 subst hK
 refine(zqn hu ha (hk rfl) (he rfl) hs).weak fun Dn σ H=>?_
 rintro⟨ρ,rel,g⟩
 refine zjj rel g fun dv ρ1 v H1 rel1 st1 fv g1=>?_
 obtain⟨d,ed,g2⟩:=g1.bnd
 obtain⟨a,at0,m0⟩:=rel1.rel.zmg ed
 refine⟨.ref a,at0.2,zjj rel1 g2 fun dk ρ2 kv H2 rel2 st2 fk g3=>?_⟩
 obtain⟨c,ec,g4⟩:=g3.bnd
 obtain⟨d',ed',g5⟩:=g4.bnd
 obtain⟨o,dp,mm⟩:=zuP (rel2.rel.again ec at0) fk (fv.mono (st2.fzn rel1.rel)) ed'
 obtain⟨a2,at2,_⟩:=rel2.rel.zmg ec
 have:=at0.2.symm.trans at2.2
 cases this
 exact⟨a,_,rfl,dp,zq4 rel2 at2 mm g5⟩
theorem zlD:PVN K X (.Dict [] [] pos) zcZ:=.mk fun hK=>znZ.weak fun σ H Q=>by
 rintro⟨ρ,rel,q⟩ p hp
 exact q.new rel (zaM.upd hp) p hp ⟨[],zal,by simp [zb9]⟩
end
end
end FL
namespace FL
open PySem
def zc5(i:Nat)(ρ:En):Nat:=match ρ[i]? with
 | some (.val (.int n))=>n.natAbs+1
 | _=>0
abbrev WK:=Int×List Int
def ltW(p q:WK):Bool:=if p.1=q.1 then lexLt p.2 q.2 else decide (p.1<q.1)
def zpo(x:WK×D):List (WK×D)->List (WK×D)
 | []=>[x]
 | y::r=>if ltW y.1 x.1=true then y::zpo x r else x::y::r
def zeS:List (WK×D)->List (WK×D)
 | []=>[]
 | x::r=>zpo x (zeS r)
theorem zfT(x:WK×D):∀ l,(zpo x l).Perm (x::l)
 | []=>.refl _
 | y::r=>by
  unfold zpo
  split
  ·exact((zfT x r).cons y).trans (.swap x y r)
  ·exact .refl _
theorem zdO:∀ l:List (WK×D),(zeS l).Perm l
 | []=>.refl _
 | x::r=>(zfT x _).trans ((zdO r).cons x)
def zg3:D->R D
 | .list a=>.ok (.list a.reverse)
 | _=>.bad
end FL
namespace L2
open PySem PySem.Spec PyProof.Rows PySem.W
abbrev gp(p:Array Nat)(i:Nat):Nat:=p.getD i 0
theorem zmG{p q:Array Nat}{i j:Nat}(h:p[i]?=q[j]?):gp p i=gp q j:=by
 simp only [gp,Array.getD_eq_getD_getElem?,h]
section
variable {lt:Nat->Nat->Bool}{n:Nat}{cmp:Nat->Nat->(Bool->Shared->Prop)->Shared->Prop}{P:Shared->Prop}
structure Ord(lt:Nat->Nat->Bool):Prop where
 tr:∀ i j k,lt j i=false->lt k j=false->lt k i=false
 as:∀ i j,lt i j=true->lt j i=false
def Asks(lt:Nat->Nat->Bool)(n:Nat)(P:Shared->Prop)(cmp:Nat->Nat->(Bool->Shared->Prop)->Shared->Prop):Prop :=
 ∀ i j (C:Bool->Shared->Prop) s,i<n->j<n->P s->(∀ s',P s'->C (lt i j) s')->cmp i j C s
theorem Ord.refl(o:Ord lt)(i:Nat):lt i i=false:=by
 cases h:lt i i with
 | false=>rfl
 | true=>exact h.symm.trans (o.as i i h)
def Up(lt:Nat->Nat->Bool)(p:Array Nat)(m:Nat):Prop:=∀ i j,i<=j->j<m->lt (gp p j) (gp p i)=false
def Dn(lt:Nat->Nat->Bool)(p:Array Nat)(m:Nat):Prop:=∀ i j,i<=j->j<m->lt (gp p i) (gp p j)=false
def Eb(lt:Nat->Nat->Bool)(p:Array Nat)(a b:Nat):Prop:=∀ i j,a<=i->i<b->a<=j->j<b->lt (gp p i) (gp p j)=false
structure Arr(n:Nat)(p:Array Nat):Prop where
 sz:p.size=n
 pm:p.Perm (List.toArray (List.range n))
theorem Arr.lim{p:Array Nat}(h:Arr n p)(hn:0<n)(i:Nat):gp p i<n:=by
 by_cases c:i<p.size
 ·have e:gp p i=p[i]:=by simp [gp,Array.getD,c]
  rw [e]
  have m:p[i]∈p.toList:=Array.getElem_mem_toList c
  have m2:=(Array.perm_iff_toList_perm.mp h.pm).mem_iff.mp m
  simpa using m2
 ·have e:gp p i=0:=by simp [gp,Array.getD,c]
  rw [e];exact hn
theorem Up.next(o:Ord lt){p:Array Nat}{m:Nat}(h:Up lt p m)(hm:1<=m)(e:lt (gp p m) (gp p (m-1))=false):Up lt p (m+1):=fun i j hij hj=>by
 by_cases c:j<m
 ·exact h i j hij c
 ·have:j=m:=by omega
  subst this
  by_cases c2:i=j
  ·subst c2;exact o.refl _
  ·exact o.tr _ _ _ (h i (j-1) (by omega) (by omega)) e
theorem Dn.next(o:Ord lt){p:Array Nat}{m:Nat}(h:Dn lt p m)(hm:1<=m)(e:lt (gp p (m-1)) (gp p m)=false):Dn lt p (m+1):=fun i j hij hj=>by
 by_cases c:j<m
 ·exact h i j hij c
 ·have:j=m:=by omega
  subst this
  by_cases c2:i=j
  ·subst c2;exact o.refl _
  ·exact o.tr _ _ _ e (h i (j-1) (by omega) (by omega))
theorem zgD{p:Array Nat}{a b:Nat}(hb:b<=p.size)(k:Nat):gp (kas_rev p a b) k=if a<=k/\k<b then gp p (a+b-1-k) else gp p k:=by
 have e:=getElem?_mirror_all (xs:=p) (i:=a) hb k
 unfold kas_rev
 split
 ·rename_i c;rw [if_pos c] at e;exact zmG e
 ·rename_i c;rw [if_neg c] at e;exact zmG e
theorem Arr.rev{p:Array Nat}(h:Arr n p)(a b:Nat):Arr n (kas_rev p a b):=⟨by unfold kas_rev;rw [mirror_size];exact h.sz,(mirror_perm _ _ _ _).trans h.pm⟩
theorem Dn.rev(o:Ord lt){p:Array Nat}{a b m:Nat}(hb:b<=p.size)(h:Dn lt p m)(e:Eb lt p a b)(hbm:b<=m):Dn lt (kas_rev p a b) m:=fun i j hij hj=>by
 rw [zgD hb,zgD hb]
 split
 ·rename_i c1
  split
  ·rename_i c2;exact e _ _ (by omega) (by omega) (by omega) (by omega)
  ·rename_i c2;exact h _ _ (by omega) (by omega)
 ·rename_i c1
  split
  ·rename_i c2;exact h _ _ (by omega) (by omega)
  ·exact h _ _ hij hj
theorem zm6(o:Ord lt)(hc:Asks lt n P cmp)(hn:0<n){p:Array Nat}(ar:Arr n p):∀(f m:Nat) {Q:Nat->Shared->Prop} {s:Shared},1<=m->Up lt p m->P s ->
  (∀ m' s',P s'->m<=m'->m'<=m+f->Up lt p m'->(m'=m+f\/lt (gp p m') (gp p (m'-1))=true)->Q m' s')->(kas_asc p f m).kasWp cmp Q s
 | 0,m,Q,s,h1,hu,hp,h=>h m s hp (Nat.le_refl _) (Nat.le_refl _) hu (.inl rfl)
 | f+1,m,Q,s,h1,hu,hp,h=>by
  refine hc _ _ _ s (ar.lim hn _) (ar.lim hn _) hp fun s' hp'=>?_
  cases e:lt (p.getD m 0) (p.getD (m-1) 0) with
  | true=>exact h m s' hp' (Nat.le_refl _) (by omega) hu (.inr e)
  | false =>
   refine zm6 o hc hn ar f (m+1) (by omega) (hu.next o h1 e) hp' fun m' s'' hp'' a b c d=>h m' s'' hp'' (by omega) (by omega) c ?_
   rcases d with d|d
   ·exact .inl (by omega)
   ·exact .inr d
theorem zhx(o:Ord lt)(hc:Asks lt n P cmp)(hn:0<n):∀(f:Nat) (p:Array Nat) (m q:Nat) {Q:Array Nat×Nat×Nat->Shared->Prop} {s:Shared},Arr n p->q+1<=m->m+f<=n->Dn lt p m->Eb lt p (m-(q+1)) m->P s ->
  (∀ p' m' q' s',P s'->Arr n p'->m<=m'->m'<=n->q'+1<=m'->Dn lt p' m'->Eb lt p' (m'-(q'+1)) m'->Q (p',m',q') s')->(kas_desc f p m q).kasWp cmp Q s
 | 0,p,m,q,Q,s,ar,h1,h2,hd,he,hp,h=>h p m q s hp ar (Nat.le_refl _) (by omega) h1 hd he
 | f+1,p,m,q,Q,s,ar,h1,h2,hd,he,hp,h=>by
  refine hc _ _ _ s (ar.lim hn _) (ar.lim hn _) hp fun s' hp'=>?_
  cases e:lt (p.getD m 0) (p.getD (m-1) 0) with
  | true =>
   have hd2:Dn lt p (m+1):=hd.next o (by omega) (o.as _ _ e)
   show(if q > 0 then kas_desc f (kas_rev p (m-(q+1)) m) (m+1) 0 else kas_desc f p (m+1) 0).kasWp cmp Q s'
   split
   ·refine zhx o hc hn f _ (m+1) 0 (ar.rev _ _) (by omega) (by omega) (hd2.rev o (by rw [ar.sz];omega) he (by omega)) (fun i j a b c d=>?_) hp' fun p' m' q' s'' a b c=>h p' m' q' s'' a b (by omega)
    have e1:i=m:=by omega
    have e2:j=m:=by omega
    subst e1;subst e2;exact o.refl _
   ·refine zhx o hc hn f _ (m+1) 0 ar (by omega) (by omega) hd2 (fun i j a b c d=>?_) hp' fun p' m' q' s'' a b c=>h p' m' q' s'' a b (by omega)
    have e1:i=m:=by omega
    have e2:j=m:=by omega
    subst e1;subst e2;exact o.refl _
  | false =>
   refine hc _ _ _ s' (ar.lim hn _) (ar.lim hn _) hp' fun s'' hp''=>?_
   cases e2:lt (p.getD (m-1) 0) (p.getD m 0) with
   | true=>exact h p m q s'' hp'' ar (Nat.le_refl _) (by omega) h1 hd he
   | false =>
    refine zhx o hc hn f p (m+1) (q+1) ar (by omega) (by omega) (hd.next o (by omega) e2) (fun i j a b c d=>?_) hp'' fun p' m' q' s3 a b c=>h p' m' q' s3 a b (by omega)
    have eq1:∀ x,m-(q+1)<=x->x<m->lt (gp p m) (gp p x)=false/\lt (gp p x) (gp p m)=false:=fun x x1 x2 =>
     ⟨o.tr _ _ _ (he (m-1) x (by omega) (by omega) x1 x2) e,o.tr _ _ _ e2 (he x (m-1) x1 x2 (by omega) (by omega))⟩
    by_cases c1:i=m
    ·by_cases c2:j=m
     ·subst c1;subst c2;exact o.refl _
     ·subst c1;exact(eq1 j (by omega) (by omega)).1
    ·by_cases c2:j=m
     ·subst c2;exact(eq1 i (by omega) (by omega)).2
     ·exact he i j (by omega) (by omega) (by omega) (by omega)
theorem zjP(o:Ord lt)(hc:Asks lt n P cmp)(hn:0<n){p:Array Nat}(ar:Arr n p){m:Nat}{Q:Nat×Array Nat->Shared->Prop}{s:Shared}(h1:1<=m)(hm:m<=n)(hd:Dn lt p m)(hp:P s)
  (h:∀ m' p' s',P s'->Arr n p'->1<=m'->m'<=n->Up lt p' m'->Q (m',p') s'):(kas_tail3 m n p).kasWp cmp Q s:=by
 unfold kas_tail3
 rw [KasT.kasWp_bind]
 refine zm6 o hc hn (ar.rev 0 m) (n-m) m h1 (fun i j hij hj=>?_) hp fun m' s' hp' a b c _=>h m' _ s' hp' (ar.rev 0 m) (by omega) (by omega) c
 rw [zgD (by rw [ar.sz];exact hm),zgD (by rw [ar.sz];exact hm),if_pos (by omega),if_pos (by omega)]
 exact hd _ _ (by omega) (by omega)
theorem zfZ(o:Ord lt)(hc:Asks lt n P cmp)(hn:0<n){p:Array Nat}(ar:Arr n p){m:Nat}{Q:Nat×Array Nat->Shared->Prop}{s:Shared}(hm:m+1<=n)(hd:Dn lt p (m+1))(hp:P s)
  (h:∀ m' p' s',P s'->Arr n p'->1<=m'->m'<=n->Up lt p' m'->Q (m',p') s'):(kas_descPart m n p).kasWp cmp Q s:=by
 unfold kas_descPart
 rw [KasT.kasWp_bind]
 refine zhx o hc hn _ p (m+1) 0 ar (by omega) (by omega) hd (fun i j a b c d=>?_) hp fun p' m' q' s' hp' ar' a b c hd' he'=>?_
 ·have e1:i=m:=by omega
  have e2:j=m:=by omega
  subst e1;subst e2;exact o.refl _
 ·show(if q' > 0 then kas_tail3 m' n (kas_rev p' (m'-(q'+1)) m') else kas_tail3 m' n p').kasWp cmp Q s'
  split
  ·exact zjP o hc hn (ar'.rev _ _) (by omega) b (hd'.rev o (by rw [ar'.sz];exact b) he' (Nat.le_refl _)) hp' h
  ·exact zjP o hc hn ar' (by omega) b hd' hp' h
theorem zoF(o:Ord lt)(hc:Asks lt n P cmp)(hn:0<n){p:Array Nat}(ar:Arr n p){Q:Nat×Array Nat->Shared->Prop}{s:Shared}(hp:P s)
  (h:∀ m' p' s',P s'->Arr n p'->1<=m'->m'<=n->Up lt p' m'->Q (m',p') s'):(kas_count n p).kasWp cmp Q s:=by
 unfold kas_count
 rw [KasT.kasWp_bind]
 refine zm6 o hc hn ar (n-1) 1 (Nat.le_refl _) (fun i j a b=>?_) hp fun m s' hp' a b hu hl=>?_
 ·have e1:i=0:=by omega
  have e2:j=0:=by omega
  subst e1;subst e2;exact o.refl _
 by_cases c:m=n
 ·subst c
  rw [if_pos (by simp)]
  exact h m p s' hp' ar a (Nat.le_refl _) hu
 ·rw [if_neg (by simpa using c)]
  have hl2:lt (gp p m) (gp p (m-1))=true:=by
   rcases hl with hl|hl
   ·omega
   ·exact hl
  by_cases c1:m > 1
  ·rw [if_pos c1]
   refine hc _ _ _ s' (ar.lim hn _) (ar.lim hn _) hp' fun s'' hp''=>?_
   cases e:lt (p.getD 0 0) (p.getD (m-1) 0) with
   | true=>exact h m p s'' hp'' ar a (by omega) hu
   | false =>
    have hs:m<=p.size:=by rw [ar.sz];omega
    have all:∀ i j,i<m->j<m->lt (gp p i) (gp p j)=false:=fun i j hi hj =>
     o.tr _ _ _ (hu j (m-1) (by omega) (by omega)) (o.tr _ _ _ e (hu 0 i (Nat.zero_le _) hi))
    refine zfZ o hc hn (ar.rev 0 m) (by omega) (fun i j hij hj=>?_) hp'' h
    rw [zgD hs,zgD hs]
    by_cases cj:j<m
    ·rw [if_pos (by omega),if_pos (by omega)]
     exact all _ _ (by omega) (by omega)
    ·have ej:j=m:=by omega
     subst ej
     rw [if_neg (by omega:¬ (0<=j/\j<j))]
     split
     ·exact o.tr _ _ _ (o.as _ _ hl2) (all _ _ (by omega) (by omega))
     ·have ei:i=j:=by omega
      subst ei;exact o.refl _
  ·rw [if_neg c1]
   have e1:m=1:=by omega
   subst e1
   refine zfZ o hc hn ar (by omega) ?_ hp' h
   refine Dn.next o (fun i j hij hj=>?_) (Nat.le_refl _) (o.as _ _ hl2)
   have e1:i=0:=by omega
   have e2:j=0:=by omega
   subst e1;subst e2;exact o.refl _
theorem zhb(o:Ord lt)(hc:Asks lt n P cmp)(hn:0<n){p:Array Nat}(ar:Arr n p){k:Nat}(hu:Up lt p k):∀(f l r:Nat) {Q:Nat->Shared->Prop} {s:Shared},l<=r->r<=k->r-l<=f ->
  (∀ i,i<l->lt (gp p k) (gp p i)=false)->(∀ i,r<=i->i<k->lt (gp p i) (gp p k)=false)->P s ->
  (∀ l' s',P s'->l'<=k->(∀ i,i<l'->lt (gp p k) (gp p i)=false)->(∀ i,l'<=i->i<k->lt (gp p i) (gp p k)=false)->Q l' s')->(kas_place p k f l r).kasWp cmp Q s
 | 0,l,r,Q,s,h1,h2,h3,a,b,hp,h=>h l s hp (by omega) a (by
   have:l=r:=by omega
   subst this;exact b)
 | f+1,l,r,Q,s,h1,h2,h3,a,b,hp,h=>by
  unfold kas_place
  by_cases c:l ≥ r
  ·rw [if_pos c]
   have:l=r:=by omega
   subst this
   exact h l s hp h2 a b
  ·rw [if_neg c]
   refine hc _ _ _ s (ar.lim hn _) (ar.lim hn _) hp fun s' hp'=>?_
   cases e:lt (p.getD k 0) (p.getD ((l+r) / 2) 0) with
   | true =>
    refine zhb o hc hn ar hu f l ((l+r) / 2) (by omega) (by omega) (by omega) a (fun i i1 i2=>?_) hp' h
    exact o.tr _ _ _ (o.as _ _ e) (hu _ _ i1 i2)
   | false =>
    refine zhb o hc hn ar hu f ((l+r) / 2+1) r (by omega) h2 (by omega) (fun i i1=>?_) b hp' h
    exact o.tr _ _ _ (hu i ((l+r) / 2) (by omega) (by omega)) e
theorem zpy(o:Ord lt)(hc:Asks lt n P cmp)(hn:0<n):∀(f:Nat) (p:Array Nat) (k:Nat) {Q:Array Nat->Shared->Prop} {s:Shared},Arr n p->k+f=n->Up lt p k->P s ->
  (∀ p' s',P s'->Arr n p'->Up lt p' n->Q p' s')->(kas_bin f p k).kasWp cmp Q s
 | 0,p,k,Q,s,ar,h1,hu,hp,h=>h p s hp ar (by
  have:k=n:=by omega
  subst this;exact hu)
 | f+1,p,k,Q,s,ar,h1,hu,hp,h=>by
  unfold kas_bin
  rw [KasT.kasWp_bind]
  refine zhb o hc hn ar hu k 0 k (Nat.zero_le _) (Nat.le_refl _) (by omega) (fun i hi=>by omega) (fun i a b=>by omega) hp fun l s' hp' hl ha hb=>?_
  have hk:k<p.size:=by rw [ar.sz];omega
  have gb:∀ i,gp (bubble p k (k-l)) i=if i=l then gp p k else if l<i/\i<=k then gp p (i-1) else gp p i:=fun i=>by
   have e:=getElem?_bubble hk (k-l) (by omega) i
   rw [show k-(k-l)=l by omega] at e
   by_cases c1:i=l
   ·rw [if_pos c1] at e ⊢;exact zmG e
   ·rw [if_neg c1] at e ⊢
    by_cases c2:l<i/\i<=k
    ·rw [if_pos c2] at e ⊢;exact zmG e
    ·rw [if_neg c2] at e ⊢;exact zmG e
  refine zpy o hc hn f _ (k+1) ⟨by rw [bubble_size];exact ar.sz,(bubble_perm _ _ _).trans ar.pm⟩ (by omega) (fun i j hij hj=>?_) hp' h
  rw [gb i,gb j]
  by_cases c1:i=l
  ·rw [if_pos c1]
   by_cases c2:j=l
   ·rw [if_pos c2];exact o.refl _
   ·rw [if_neg c2,if_pos (by omega)]
    exact hb _ (by omega) (by omega)
  ·rw [if_neg c1]
   by_cases c2:j=l
   ·rw [if_pos c2,if_neg (by omega)]
    exact ha _ (by omega)
   ·rw [if_neg c2]
    by_cases c3:l<i/\i<=k
    ·rw [if_pos c3,if_pos (by omega)]
     exact hu _ _ (by omega) (by omega)
    ·rw [if_neg c3]
     split
     ·exact hu _ _ (by omega) (by omega)
     ·exact hu _ _ (by omega) (by omega)
theorem zpS(o:Ord lt)(hc:Asks lt n P cmp)(hn:0<n){Q:Array Nat->Shared->Prop}{s:Shared}(hp:P s)(h:∀ p s',P s'->Arr n p->Up lt p n->Q p s'):(kas_sort n).kasWp cmp Q s:=by
 unfold kas_sort
 rw [KasT.kasWp_bind]
 refine zoF o hc hn ⟨by simp,Array.Perm.refl _⟩ hp fun m p s' hp' ar h1 h2 hu=>?_
 show(if m<n then kas_bin (n-max m 1) p (max m 1) else KasT.ret p).kasWp cmp Q s'
 split
 ·have e:max m 1=m:=by omega
  rw [e]
  exact zpy o hc hn _ p m ar (by omega) hu hp' h
 ·have:m=n:=by omega
  subst this
  exact h p s' hp' ar hu
end
end L2
namespace PySem
open Spec PyProof.Rows
section
variable {prog:Program}{w:World}{A:Around}{E:Value->Shared->Prop}{s:Shared}
theorem DEs.at{h h':Heap}{d:Addr}{es:Array DictEntry}{ep:Nat}(x:DEs h d es ep)(k:∀ o,h.get? d=some o->h'.get? d=some o):DEs h' d es ep:=by
 obtain⟨o,e,r⟩:=x.ex
 exact⟨o,k o e,r⟩
theorem zrF(hh:A.handled=none)(I d:Addr)(hne:d≠I)(es:Array DictEntry)(ep:Nat) :
  Walks prog w A I [I,d] [I] es.size (fun i v=>∃ h:i<es.size,v=es[i].key) (fun i h=>h.IsKeyIter I d i es.size ep/\DEs h d es ep) where
 sub:=fun b hb=>by simp at hb;simp [hb]
 frame:=fun _ _ _ st hk=>⟨st.1.at fun o e=>hk I (by simp) o e,st.2.at fun o e=>hk d (by simp) o e⟩
 item:=fun i s Q E hi st hQ=>by
  refine zul st.1 st.2 hi fun h' hit' hs'=>?_
  exact hQ _ h' s.toks ⟨hi,rfl⟩ ⟨hit',st.2.at fun o e=>hs'.extBut d o hne e⟩ fun b o hb e=>hs'.extBut b o (fun h=>hb (by simp [h])) e
 done:=fun s Q E st hQ=>zuM hh st.1 st.2 (Nat.le_refl _) fun h' he'=>hQ h' s.toks fun b o hb e=>he' b o (fun h=>hb (by simp [h])) e
 self:=fun _ _ _ _ st hQ=>wpAny_pyIter_keyiter st.1 hQ
theorem zoG{d:Addr}{es:Array DictEntry}{ep:Nat}{Q:List Value->Shared->Prop}(hh:A.handled=none)(sy:(d==sysModules)=false)(hm:DEs s.heap d es ep)(hn:es.size<=10000)
  (hQ:∀ s' (acc:Array Value),(∀ b o,s.heap.get? b=some o->s'.heap.get? b=some o)->s'.gens=s.gens->s'.drawn=s.drawn->s'.os=s.os->s.heap.objs.size<=s'.heap.objs.size->ItemsOf (fun i v=>∃ h:i<es.size,v=es[i].key) acc es.size->Q acc.toList s') :
  wpAny (model prog w) A (collect (.ref d)) Q E s:=by
 obtain⟨od,hod,hxd,hdd⟩:=hm.ex
 have dl:=Heap.lt_size hod
 unfold collect
 refine wpAny_bind (wpAny_runValue (codeAny_builtin F.entry_proto_collect ?_))
 rw [Around.under_plainId F.plain_proto_collect _]
 show wpAny _ A.in1 (newList [] >>= fun l=>again (.builtin "list.__iadd__" ⟨[l,.ref d],[]⟩)) _ _ s
 refine wpAny_bind (wpAny_newObj_type ?_)
 refine wpAny_pure ⟨plainId_quiet F.plain_list_iadd _,codeAny_builtin F.entry_list_iadd ?_⟩
 rw [Around.under_plainId F.plain_list_iadd _]
 have hm1:DEs (s.heap.push { cls:=.type "list",data:=.seq ([]:List Value).toArray }) d es ep:=hm.at fun o e=>Heap.get?_push_of_some _ e
 have hSd:s.heap.objs.size≠d:=Nat.ne_of_gt dl
 have h1:Builtin.List.listSameRef (.ref s.heap.objs.size) (.ref d)=false:=by simp [Builtin.List.listSameRef,hSd]
 show wpAny _ A.in1 (Builtin.List.listExtendWith (.ref s.heap.objs.size) (.ref d) (.ref s.heap.objs.size)) _ _ _
 unfold Builtin.List.listExtendWith
 refine wpAny_bind (wpAny_typeOf (s:={ s with heap:=s.heap.push { cls:=.type "list",data:=.seq ([]:List Value).toArray } }) hm1.typ ?_)
 rw [if_neg (by rw [h1];decide)]
 refine wpAny_bind (zuw (s:={ s with heap:=s.heap.push { cls:=.type "list",data:=.seq ([]:List Value).toArray } }) sy hm1 ?_)
 refine wpAny_bind (wpAny_holding ?_)
 have I2:s.heap.objs.size+1=(s.heap.push { cls:=.type "list",data:=.seq ([]:List Value).toArray }).objs.size:=(Heap.size_push ..).symm
 have hm2:DEs ((s.heap.push { cls:=.type "list",data:=.seq ([]:List Value).toArray }).push { cls:=.type "dict_keyiterator",data:=.fields #[.ref d,.int 0 0,.int es.size 0,.int ep 0] }) d es ep:=hm1.at fun o e=>Heap.get?_push_of_some _ e
 have ty2:=DEs.typ (s:={ s with heap:=(s.heap.push { cls:=.type "list",data:=.seq ([]:List Value).toArray }).push { cls:=.type "dict_keyiterator",data:=.fields #[.ref d,.int 0 0,.int es.size 0,.int ep 0] } }) hm2
 unfold Builtin.List.listLengthHint
 refine wpAny_bind (wpAny_specialOf ty2 F.slot_dict_len.lookup ?_)
 generalize hid:("dict.__len__":String)=id0
 wp_delta
 rw [show splitId id0=some ("dict","__len__") from by subst hid;decide +kernel]
 subst hid
 refine wpAny_bind (wpAny_isInstance (b:=true) ty2 (by rw [isSubtype_type];kernel_rfl) ?_)
 rw [if_neg (by decide)]
 dsimp only
 rw [if_pos (by decide +kernel)]
 refine wpAny_bind (wpAny_typeOf ty2 ?_)
 refine wpAny_pure ?_
 rw [if_pos (by decide +kernel)]
 refine wpAny_bind (wpAny_rule ?_)
 unfold Builtin.List.listTouch
 have hS0:((s.heap.push { cls:=.type "list",data:=.seq ([]:List Value).toArray }).push { cls:=.type "dict_keyiterator",data:=.fields #[.ref d,.int 0 0,.int es.size 0,.int ep 0] }).get? s.heap.objs.size=some (seqObj "list" #[] 0):=Heap.get?_push_of_some _ (Heap.get?_push_size _ rfl)
 refine wpAny_bind (wpAny_bind (listUpdate_at hS0 rfl ?_ (Nat.zero_le _) (by show 1<=sizeLine+1;omega)))
 have hS1:=get?_update_seq hS0 (·.push .none)
 refine listUpdate_at hS1 rfl ?_ (by show 1<=sizeLine;rw [sizeLine_eq];decide) (by show 0<=sizeLine+1;omega)
 have hS2:=get?_update_seq hS1 (·.pop)
 have up:∀ b o,b≠s.heap.objs.size->((s.heap.push { cls:=.type "list",data:=.seq ([]:List Value).toArray }).push { cls:=.type "dict_keyiterator",data:=.fields #[.ref d,.int 0 0,.int es.size 0,.int ep 0] }).get? b=some o ->
   ((((s.heap.push { cls:=.type "list",data:=.seq ([]:List Value).toArray }).push { cls:=.type "dict_keyiterator",data:=.fields #[.ref d,.int 0 0,.int es.size 0,.int ep 0] }).update s.heap.objs.size (Obj.mapSeq fun x=>x.push Value.none)).update s.heap.objs.size (Obj.mapSeq fun x=>x.pop)).get? b=some o:=fun b o hb e =>
  (((Heap.SameBut.update ..).2 b hb).trans ((Heap.SameBut.update ..).2 b hb)).trans e
 have hI:((s.heap.push { cls:=.type "list",data:=.seq ([]:List Value).toArray }).push { cls:=.type "dict_keyiterator",data:=.fields #[.ref d,.int 0 0,.int es.size 0,.int ep 0] }).get? (s.heap.push { cls:=.type "list",data:=.seq ([]:List Value).toArray }).objs.size=some { cls:=.type "dict_keyiterator",data:=.fields #[.ref d,.int 0 0,.int es.size 0,.int ep 0] }:=Heap.get?_push_size _ rfl
 have neI:(s.heap.push { cls:=.type "list",data:=.seq ([]:List Value).toArray }).objs.size≠s.heap.objs.size:=by rw [<- I2];omega
 have old:∀ b o,s.heap.get? b=some o->((s.heap.push { cls:=.type "list",data:=.seq ([]:List Value).toArray }).push { cls:=.type "dict_keyiterator",data:=.fields #[.ref d,.int 0 0,.int es.size 0,.int ep 0] }).get? b=some o:=fun b o e=>Heap.get?_push_of_some _ (Heap.get?_push_of_some _ e)
 generalize ((((s.heap.push { cls:=.type "list",data:=.seq ([]:List Value).toArray }).push { cls:=.type "dict_keyiterator",data:=.fields #[.ref d,.int 0 0,.int es.size 0,.int ep 0] }).update s.heap.objs.size (Obj.mapSeq fun x=>x.push Value.none)).update s.heap.objs.size (Obj.mapSeq fun x=>x.pop))=h5 at hS2 up ⊢
 have st:h5.IsKeyIter (s.heap.push { cls:=.type "list",data:=.seq ([]:List Value).toArray }).objs.size d 0 es.size ep:=⟨_,up _ _ neI hI,rfl,rfl⟩
 have da:DEs h5 d es ep:=hm2.at fun o e=>up d o (Ne.symm hSd) e
 generalize hIa:(s.heap.push { cls:=.type "list",data:=.seq ([]:List Value).toArray }).objs.size=Ia at st neI hI ⊢
 have ia:Ia=s.heap.objs.size+1:=by rw [<- hIa];exact I2.symm
 have ne:d≠Ia:=by rw [ia];exact Nat.ne_of_lt (Nat.lt_succ_of_lt dl)
 have nS:s.heap.objs.size∉[Ia,d]:=fun h=>by
  rcases List.mem_cons.mp h with c|c
  ·exact neI c.symm
  ·exact hSd (List.mem_singleton.mp c)
 have W:=(zrF (prog:=prog) (w:=w) (A:=A.in1) hh Ia d ne es ep).toS
 refine wpAny_pure ⟨plainId_quiet F.plain_extend_loop _,codeAny_extend_loopS W (by rw [sizeLine_eq];omega) s.heap.objs.size nS _ es.size 0 _ _ _ rfl (Nat.zero_le _) ⟨st,da⟩ hS2 (ItemsOf.nil _) fun s' acc' c' mv hS' hacc=>?_⟩
 show wpAny _ A (load s.heap.objs.size >>= _) _ _ s'
 refine wpAny_bind (wpAny_load hS' ?_)
 refine wpAny_pure (hQ s' acc' (fun b o e=>?_) mv.gens mv.drawn mv.os (Nat.le_of_lt (Heap.lt_size hS')) hacc)
 have lt:=Heap.lt_size e
 have b1:b≠s.heap.objs.size:=Nat.ne_of_lt lt
 have b2:b≠Ia:=by rw [ia];exact Nat.ne_of_lt (Nat.lt_succ_of_lt lt)
 refine mv.heap b o (fun h=>?_) (up b o b1 (old b o e))
 rcases List.mem_cons.mp h with c|c
 ·exact b1 c
 ·exact b2 (List.mem_singleton.mp c)
end
end PySem
namespace L2
open PySem PySem.Spec PyProof.Rows PySem.W
section
def Cx.in1(X:Cx):Cx:={ X with A:=X.A.in1 }
section
variable {X:Cx}{pins:List (Addr×Obj)}{σ:L2.St}{H:Hp}{s:Shared}
theorem Cx.Ok.in1(o:X.Ok):X.in1.Ok:=⟨o.mod,o.kind,o.glob,o.blt,o.above,o.inj,o.has,o.cab,o.hd,o.frames,o.stk,o.exf,o.bs,o.bsz,o.noex,o.exfs,o.zkl,o.frf,o.tree,o.sk⟩
theorem Cx.Ok.zrz(o:X.in1.Ok):X.Ok:=⟨o.mod,o.kind,o.glob,o.blt,o.above,o.inj,o.has,o.cab,o.hd,o.frames,o.stk,o.exf,o.bs,o.bsz,o.noex,o.exfs,o.zkl,o.frf,o.tree,o.sk⟩
theorem Inv.in1(I:Inv X pins σ H s):Inv X.in1 pins σ H s:=⟨I.ok.in1,I.os,I.bare,I.base,I.loc,I.cell,I.free,I.freeC,I.pin,I.hok,I.len⟩
theorem Inv.zrz(I:Inv X.in1 pins σ H s):Inv X pins σ H s:=⟨I.ok.zrz,I.os,I.bare,I.base,I.loc,I.cell,I.free,I.freeC,I.pin,I.hok,I.len⟩
end
end
section
theorem zpg:∀ a b c:List Int,HT.lexLt b a=false->HT.lexLt c b=false->HT.lexLt c a=false
 | [],_,[],_,_=>rfl
 | [],[],_::_,_,_=>rfl
 | [],_::_,_::_,_,_=>rfl
 | _::_,[],_,h,_=>by cases h
 | _::_,_::_,[],_,h=>by cases h
 | x::xs,y::ys,z::zs,h1,h2=>by
  simp only [HT.lexLt] at h1 h2 ⊢
  by_cases c1:y=x
  ·subst c1
   rw [if_pos rfl] at h1
   by_cases c2:z=y
   ·subst c2;rw [if_pos rfl] at h2 ⊢;exact zpg xs ys zs h1 h2
   ·rw [if_neg c2] at h2 ⊢;exact h2
  ·rw [if_neg c1] at h1
   have h1':=of_decide_eq_false h1
   by_cases c2:z=y
   ·subst c2;rw [if_neg c1];exact h1
   ·rw [if_neg c2] at h2
    have h2':=of_decide_eq_false h2
    rw [if_neg (by omega)]
    exact decide_eq_false (by omega)
theorem zph:∀ a b:List Int,HT.lexLt a b=true->HT.lexLt b a=false
 | [],[],h=>by cases h
 | [],_::_,_=>rfl
 | _::_,[],h=>by cases h
 | x::xs,y::ys,h=>by
  simp only [HT.lexLt] at h ⊢
  by_cases c:x=y
  ·subst c;rw [if_pos rfl] at h ⊢;exact zph xs ys h
  ·rw [if_neg c] at h
   have h':=of_decide_eq_true h
   rw [if_neg (by omega)]
   exact decide_eq_false (by omega)
abbrev WK:=Int×List Int
def ltK(p q:WK):Bool:=if p.1=q.1 then HT.lexLt p.2 q.2 else decide (p.1<q.1)
theorem zpd(a b c:WK)(h1:ltK b a=false)(h2:ltK c b=false):ltK c a=false:=by
 unfold ltK at h1 h2 ⊢
 by_cases c1:b.1=a.1
 ·rw [if_pos c1] at h1
  by_cases c2:c.1=b.1
  ·rw [if_pos c2] at h2;rw [if_pos (c2.trans c1)];exact zpg _ _ _ h1 h2
  ·rw [if_neg c2] at h2;rw [if_neg (by rw [<- c1];exact c2),<- c1];exact h2
 ·rw [if_neg c1] at h1
  have h1':=of_decide_eq_false h1
  by_cases c2:c.1=b.1
  ·rw [c2,if_neg c1];exact h1
  ·rw [if_neg c2] at h2
   have h2':=of_decide_eq_false h2
   rw [if_neg (by omega)]
   exact decide_eq_false (by omega)
theorem zpe(a b:WK)(h:ltK a b=true):ltK b a=false:=by
 unfold ltK at h ⊢
 by_cases c:a.1=b.1
 ·rw [if_pos c] at h;rw [if_pos c.symm];exact zph _ _ h
 ·rw [if_neg c] at h
  have h':=of_decide_eq_true h
  rw [if_neg (by omega)]
  exact decide_eq_false (by omega)
def ltP(kd:List WK)(i j:Nat):Bool:=ltK (kd.getD i (0,[])) (kd.getD j (0,[]))
theorem zvb(kd:List WK):Ord (ltP kd):=⟨fun _ _ _ h1 h2=>zpd _ _ _ h1 h2,fun _ _ h=>zpe _ _ h⟩
end
section
end
section
end
section
def rl(lt:Nat->Nat->Bool)(x y:Nat):Prop:=lt y x=false
end
section
end
section
end
section
end
section
end
section
end
section
end
section
end
section
section
variable {X:Cx}{pins:List (Addr×Obj)}{σ:L2.St}{H:Hp}{s:Shared}{h':Heap}
theorem Inv.adopt{a:Addr}{o:HO}{t':Nat}(I:Inv X pins σ H s)(k:∀ b u,b≠a->s.heap.get? b=some u->h'.get? b=some u)(hf:zhQ X pins H a)(new:zbR X.prog X.w (upd H a o) h' a o) :
  Inv X pins σ (upd H a o) { s with heap:=h',toks:=t' }:=by
 obtain⟨hn,hL,hfs,h1,h2,h3⟩:=hf
 have ne:∀ b u,H b=some u->b≠a:=fun b u e z=>by rw [z,hn] at e;cases e
 refine I.step (g':=s.gens) (d':=s.drawn) (ch:=[a]) (fun b hb=>?_) (fun b o _ _ hc e _=>k b o (fun z=>hc (by simp [z])) e) (fun b o _ _ hc e _=>⟨o.slots,k b o (fun z=>hc (by simp [z])) e⟩) (fun b o hc _ n=>?_)
  (fun b o hc e=>⟨o,k b o (fun z=>hc (by simp [z])) e⟩) (fun b xs e=>?_) (fun b o u e=>?_) (fun b ps e=>⟨#[],?_⟩) (fun m hm=>?_) (fun b u e=>?_) I.bare
 ·have e:b=a:=by simpa using hb
  subst e
  exact⟨h1,hL,h2,h3⟩
 ·rw [zao fun z=>hc (by simp [z])];exact n
 ·rw [zao (ne b _ e)];exact e
 ·rw [zao (ne b _ e)];exact e
 ·rw [zao (ne b _ e),e];simp
 ·obtain⟨o,es,ep,ho,r⟩:=hm
  exact⟨o,es,ep,k _ o (Ne.symm hL) ho,r⟩
 ·by_cases c:b=a
  ·subst c
   rw [zal] at e
   cases e
   exact new
  ·rw [zao c] at e
   refine(I.hok b u e).stay (fun d v hc q=>k d v ?_ q) (fun b' q=>by rw [zao (ne b' _ q)];exact q) fun b' xs q=>q.upd (fun _ r=>ne b' _ r) fun _ _ r=>ne b' _ r
   rcases hc with z|z
   ·rw [z];exact ne b u e
   ·exact ne d _ z
variable {f kS a:Addr}{oa:Obj}{H0:Hp}{E:Value->Shared->Prop}{Q:Shared->Prop}
theorem zjK:∀{xs:List V} {us:List Value} (p:List Nat),Vals xs us->(∀ i∈p,i<us.length)->Vals (p.map fun i=>xs.getD i .non) (p.map fun i=>us.getD i Value.none)
 | xs,us,[],_,_=>.nil
 | xs,us,i::p,r,h=>by
  refine .cons ?_ (zjK p r fun j hj=>h j (List.mem_cons_of_mem _ hj))
  have hi:=h i (List.mem_cons_self ..)
  have hl:=r.length
  obtain⟨w,ew,rw'⟩:=r.get (i:=i) (x:=xs[i]) (List.getElem?_eq_getElem (by omega))
  have e1:xs.getD i .non=xs[i]:=by simp [List.getD_eq_getElem?_getD,List.getElem?_eq_getElem (show i<xs.length by omega)]
  have e2:us.getD i Value.none=w:=by rw [List.getD_eq_getElem?_getD,ew];rfl
  show RelV (xs.getD i .non) (us.getD i Value.none)
  rw [e1,e2]
  exact rw'
theorem zpA(n:Nat):Arr n (List.toArray (List.range n)):=⟨by simp,Array.Perm.refl _⟩
end
end
section
def KTs(H:Hp):List (List Key×V)->List V->Prop
 | [],xs=>xs=[]
 | kv::r,xs=>∃ b t,xs=.ref b::t/\TAt H b (kv.1.map kV)/\KTs H r t
def zng(H:Hp)(d:Addr)(xs:List V):Prop:=∃ kvs,Rd H d (.dT kvs)/\KTs H kvs xs
section
variable {X:Cx}{pins:List (Addr×Obj)}{σ:L2.St}{H:Hp}{s:Shared}{d f:Addr}
theorem zpi:∀{kvs:List (List Key×V)} {ys:List (List Key×Addr×Value)},KT H kvs ys->KTs H kvs (ys.map fun y=>V.ref y.2.1)
 | [],_,.nil=>rfl
 | kv::r,_,.cons h t=>⟨_,_,rfl,h.2.1,zpi t⟩
theorem zoH{A:Around}{E:Value->Shared->Prop}{Q:List Value->Shared->Prop}(hh:A.handled=none)(I:Inv X pins σ H s)(rd:IsD H d)(hn:∀ xs,zng H d xs->xs.length<2000)
  (hQ:∀ xs us s',zng H d xs->Vals xs us->Inv X pins σ H s'->Q us s'):wpAny (model X.prog X.w) A (collect (.ref d)) Q E s:=by
 have fin:∀(s':Shared),(∀ b o,s.heap.get? b=some o->s'.heap.get? b=some o)->s'.gens=s.gens->s'.drawn=s.drawn->s'.os=s.os->Inv X pins σ H s':=fun s' k g dr os=>by
  obtain⟨h,g',dr',tk,os'⟩:=s'
  simp only at g dr os
  subst g;subst dr;subst os
  exact I.kept (t':=tk) k
 obtain⟨kvs,rd⟩:=rd
 obtain⟨z,sy,ys,kt,o,es,ep,e',r1,r2,r3,r4⟩:=zjr I.hok rd
 have ks:=zpi kt
 have lk:=hn _ ⟨kvs,rd,ks⟩
 have ly:kvs.length=ys.length:=Paired.length kt
 have hsz:es.size=ys.length:=size_of_entries r3
 rw [List.length_map] at lk
 refine zoG hh sy ⟨o,e',r1,r2⟩ (by omega) fun s' acc hk hg hd ho hs hacc=>hQ _ _ s' ⟨kvs,rd,ks⟩ ?_ (fin s' hk hg hd ho)
 have la:acc.toList.length=es.size:=by rw [Array.length_toList];exact hacc.1
 refine zlk (by rw [List.length_map];omega) fun j x v ex ev=>?_
 rw [Array.getElem?_toList] at ev
 obtain⟨hj,rfl⟩:=hacc.2 j v ev
 have lj:j<ys.length:=by omega
 rw [List.getElem?_map,List.getElem?_eq_getElem lj] at ex
 cases ex
 have:=entry_at r3 j
 rw [List.getElem?_eq_getElem lj,Array.getElem?_eq_getElem hj] at this
 simp only [Option.map_some,Option.some.injEq] at this
 rw [this]
 rfl
end
end
end L2
namespace FL
open PySem L2 PySem.Spec
open PyProof.Rows hiding St
variable [Cs]
theorem zpc(p q:WK):ltW p q=L2.ltK p q:=by
 unfold ltW L2.ltK
 rw [zhm]
theorem zmp:∀ a b:List Int,HT.lexLt a b=false->HT.lexLt b a=false->a=b
 | [],[],_,_=>rfl
 | [],_::_,h,_=>by cases h
 | _::_,[],_,h=>by cases h
 | x::xs,y::ys,h1,h2=>by
  simp only [HT.lexLt] at h1 h2
  by_cases c:x=y
  ·subst c
   rw [if_pos rfl] at h1 h2
   rw [zmp xs ys h1 h2]
  ·rw [if_neg c] at h1
   rw [if_neg (Ne.symm c)] at h2
   have a1:=of_decide_eq_false h1
   have a2:=of_decide_eq_false h2
   omega
theorem zml(p q:WK)(h1:L2.ltK p q=false)(h2:L2.ltK q p=false):p=q:=by
 unfold L2.ltK at h1 h2
 by_cases c:p.1=q.1
 ·rw [if_pos c] at h1
  rw [if_pos c.symm] at h2
  exact Prod.ext c (zmp _ _ h1 h2)
 ·rw [if_neg c] at h1
  rw [if_neg (Ne.symm c)] at h2
  have a1:=of_decide_eq_false h1
  have a2:=of_decide_eq_false h2
  omega
def LeP(x y:WK×D):Prop:=L2.ltK y.1 x.1=false
theorem zoq{x z:WK×D}{l:List (WK×D)}(h:z∈zpo x l):z=x\/z∈l:=by
 have:=(zfT x l).mem_iff.mp h
 simpa using this
theorem zfS(x:WK×D):∀ l:List (WK×D),l.Pairwise LeP->(zpo x l).Pairwise LeP
 | [],_=>by simp [zpo]
 | y::r,h=>by
  unfold zpo
  rw [List.pairwise_cons] at h
  split
  ·rename_i c
   rw [zpc] at c
   rw [List.pairwise_cons]
   refine⟨fun z hz=>?_,zfS x r h.2⟩
   rcases zoq hz with rfl|hz
   ·exact zpe _ _ c
   ·exact h.1 z hz
  ·rename_i c
   rw [zpc] at c
   have c':L2.ltK y.1 x.1=false:=by simpa using c
   rw [List.pairwise_cons]
   refine⟨fun z hz=>?_,List.pairwise_cons.mpr h⟩
   rcases List.mem_cons.mp hz with rfl|hz
   ·exact c'
   ·exact zpd _ _ _ c' (h.1 z hz)
theorem zcP:∀ l:List (WK×D),(zeS l).Pairwise LeP
 | []=>.nil
 | x::r=>zfS x _ (zcP r)
theorem zh7{α:Type}{le:α->α->Prop}:∀{l1 l2:List α},l1.Perm l2->l1.Pairwise le->l2.Pairwise le->(∀ a∈l1,∀ b∈l1,le a b->le b a->a=b)->l1=l2
 | [],l2,h,_,_,_=>(List.nil_perm.mp h).symm
 | a::r1,[],h,_,_,_=>by have:=h.length_eq;simp at this
 | a::r1,b::r2,h,p1,p2,an=>by
  rw [List.pairwise_cons] at p1 p2
  have e:a=b:=by
   have ha:a∈b::r2:=h.mem_iff.mp (List.mem_cons_self ..)
   have hb:b∈a::r1:=h.mem_iff.mpr (List.mem_cons_self ..)
   rcases List.mem_cons.mp ha with e|ha'
   ·exact e
   rcases List.mem_cons.mp hb with e|hb'
   ·exact e.symm
   exact an a (List.mem_cons_self ..) b (List.mem_cons_of_mem _ hb') (p1.1 b hb') (p2.1 a ha')
  subst e
  rw [zh7 ((List.perm_cons a).mp h) p1.2 p2.2 fun x hx y hy=>an x (List.mem_cons_of_mem _ hx) y (List.mem_cons_of_mem _ hy)]
theorem zfp:∀{ws:List WK} {ks:List D} {x y:WK×D},ws.Nodup->x∈ws.zip ks->y∈ws.zip ks->x.1=y.1->x=y
 | [],ks,x,y,_,h,_,_=>by simp at h
 | _::_,[],x,y,_,h,_,_=>by simp at h
 | w::ws,k::ks,x,y,nd,h1,h2,e=>by
  rw [List.nodup_cons] at nd
  rw [List.zip_cons_cons] at h1 h2
  rcases List.mem_cons.mp h1 with rfl|h1
  ·rcases List.mem_cons.mp h2 with rfl|h2
   ·rfl
   ·exact absurd (by rw [show w=y.1 from e];exact(List.of_mem_zip h2).1) nd.1
  ·rcases List.mem_cons.mp h2 with rfl|h2
   ·exact absurd (by rw [show w=x.1 from e.symm];exact(List.of_mem_zip h1).1) nd.1
   ·exact zfp nd.2 h1 h2 e
theorem zlz(ws:List WK)(ks:List D)(h:ws.length=ks.length):(List.range ks.length).map (fun i=>(ws.getD i (0,[]),ks.getD i PyData.none))=ws.zip ks:=by
 apply List.ext_getElem
 ·simp [h]
 ·intro i h1 h2
  have hi:i<ks.length:=by simpa using h1
  have hi':i<ws.length:=by omega
  simp [List.getD_eq_getElem?_getD,List.getElem?_eq_getElem hi,List.getElem?_eq_getElem hi']
theorem zls{ws:List WK}{ks:List D}{p:Array Nat}(hl:ws.length=ks.length)(nd:ws.Nodup)(ar:Arr ks.length p)(up:Up (ltP ws) p ks.length):p.toList.map (fun i=>ks.getD i PyData.none)=(zeS (ws.zip ks)).map (·.2):=by
 have hp:(p.toList.map fun i=>(ws.getD i (0,[]),ks.getD i PyData.none)).Perm (ws.zip ks):=by
  have:=(Array.perm_iff_toList_perm.mp ar.pm).map fun i=>(ws.getD i (0,[]),ks.getD i PyData.none)
  rw [List.toList_toArray,zlz ws ks hl] at this
  exact this
 have e:(p.toList.map fun i=>(ws.getD i (0,[]),ks.getD i PyData.none))=zeS (ws.zip ks):=by
  refine zh7 (hp.trans (zdO _).symm) ?_ (zcP _) fun x hx y hy h1 h2=>?_
  ·rw [List.pairwise_iff_getElem]
   intro i j hi hj hij
   have hi':i<p.size:=by simpa using hi
   have hj':j<p.size:=by simpa using hj
   have:=up i j (Nat.le_of_lt hij) (by rw [<- ar.sz];exact hj')
   rw [show gp p i=p[i] by simp [gp,Array.getD,hi'],show gp p j=p[j] by simp [gp,Array.getD,hj']] at this
   simpa [LeP,ltP] using this
  ·exact zfp nd (hp.mem_iff.mp hx) (hp.mem_iff.mp hy) (zml _ _ h2 h1)
 rw [<- e,List.map_map]
 rfl
section
variable {K:PySem.W.Frag}{X:Cx}{H:Hp}
theorem zpj:∀{kvs:List (D×D)} {kk:List (List Key×V)} {xs:List V},zb9 K H kvs kk->KTs H kk xs->zae K H (kvs.map (·.1)) xs
 | [],kk,xs,h,t=>by
  simp only [zb9] at h
  subst h
  have:xs=[]:=t
  subst this
  simp [zae]
 | (k,d)::r,kk,xs,h,t=>by
  simp only [zb9] at h
  obtain⟨q,v,t',rfl,rfl,f,h2⟩:=h
  obtain⟨b,u,rfl,tb,t2⟩:=t
  simp only [List.map_cons,zae]
  exact⟨_,_,rfl,zq9 tb,zpj h2 t2⟩
theorem zhv{kvs:List (D×D)}{d:Addr}{xs:List V}(h:Fz K H (.dict kvs) (.ref d))(t:zng H d xs):zae K H (kvs.map (·.1)) xs:=by
 simp only [Fz] at h
 obtain⟨a,o,e,h⟩:=h
 cases e
 obtain⟨kk,h1,h2⟩:=h
 obtain⟨kk',rd,t⟩:=t
 have:kk'=kk:=by
  rcases rd with z|⟨o',z⟩
  ·rw [h1] at z;cases z
  ·rw [h1] at z;cases z;rfl
 subst this
 exact zpj h2 t
theorem zs3{kvs:List (D×D)}{d:Addr}(h:Fz K H (.dict kvs) (.ref d)):IsD H d:=by
 simp only [Fz] at h
 obtain⟨a,o,e,h⟩:=h
 cases e
 obtain⟨kk,h1,h2⟩:=h
 exact⟨kk,.inr ⟨o,h1⟩⟩
theorem zae.pick{ds:List D}{xs:List V}(h:zae K H ds xs):∀(p:List Nat),(∀ i∈p,i<ds.length)->zae K H (p.map fun i=>ds.getD i PyData.none) (p.map fun i=>xs.getD i .non)
 | [],_=>by simp [zae]
 | i::p,hp=>by
  simp only [List.map_cons,zae]
  have hi:=hp i (List.mem_cons_self ..)
  obtain⟨v,ev,fv⟩:=h.get (List.getElem?_eq_getElem hi)
  refine⟨_,_,rfl,?_,zae.pick h p fun j hj=>hp j (List.mem_cons_of_mem _ hj)⟩
  rw [List.getD_eq_getElem?_getD,List.getD_eq_getElem?_getD,ev,List.getElem?_eq_getElem hi]
  exact fv
end
end FL
namespace L2
open PySem PySem.Spec PyProof.Rows PySem.W
end L2
namespace FL
open PySem L2 PySem.Spec
open PyProof.Rows hiding St
section
variable [Cs]
end
section
def zcw(cs:List Addr)(K:PySem.W.Frag):PySem.W.Frag:=K.filter fun p=>!cs.contains p.1
theorem zdt(cs:List Addr):∀(K:PySem.W.Frag) (b:Addr),(zcw cs K).lookup b=if cs.contains b=true then none else K.lookup b
 | [],b=>by simp [zcw]
 | (c,o)::K,b=>by
  have ih:=zdt cs K b
  unfold zcw at ih ⊢
  rw [List.filter_cons]
  by_cases hc:cs.contains c=true
  ·rw [if_neg (by simp only [hc];decide),ih]
   by_cases hb:cs.contains b=true
   ·rw [if_pos hb,if_pos hb]
   ·have ne:b≠c:=fun z=>by rw [z] at hb;exact hb hc
    rw [if_neg hb,if_neg hb]
    simp [List.lookup_cons,show(b==c)=false from by simpa using ne]
  ·have hc':cs.contains c=false:=by simpa using hc
   rw [if_pos (by simp only [hc'];decide)]
   by_cases e:b=c
   ·subst e
    rw [if_neg hc]
    simp [List.lookup_cons]
   ·have e':(b==c)=false:=by simpa using e
    rw [List.lookup_cons,List.lookup_cons,e']
    exact ih
theorem zpx{cs:List Addr}{K:PySem.W.Frag}{h:Heap}(x:K.In h):(zcw cs K).In h:=fun a o e=>by
 rw [zdt] at e
 split at e
 ·cases e
 ·exact x a o e
def zf9(cs:List Addr)(K:PySem.W.Frag):Prop:=∀ c∈cs,∃ o its n,K.lookup c=some o/\o.data=Data.seq its n
theorem zbN{cs:List Addr}{K:PySem.W.Frag}(s:zf9 cs K){b:Addr}{o:Obj}(e:K.lookup b=some o)(n:∀ its m,o.data≠.seq its m):(zcw cs K).lookup b=some o:=by
 rw [zdt,if_neg,e]
 intro c
 obtain⟨o',its,m,e',d⟩:=s b (by simpa using c)
 rw [e] at e'
 cases e'
 exact n _ _ d
theorem zk6{cs:List Addr}{K:PySem.W.Frag}(s:zf9 cs K){cd:Value}{q:Str}(h:PySem.W.codeIn K cd q=true):PySem.W.codeIn (zcw cs K) cd q=true:=by
 cases cd with
 | ref c =>
  unfold PySem.W.codeIn at h ⊢
  cases e:K.lookup c with
  | none=>simp only [e] at h;cases h
  | some o =>
   obtain⟨oc,od,data,sl⟩:=o
   cases data with
   | fields vs =>
    simp only [e] at h
    simp only [zbN s e fun _ _ z=>nomatch z]
    exact h
   | _=>simp only [e] at h;cases h
 | _=>cases h
theorem Fun.cut{cs:List Addr}{K:PySem.W.Frag}(s:zf9 cs K){x q:Str}{st:Stmt}{f:Addr}{fd:FuncData}(F:Fun K x q st f fd):Fun (zcw cs K) x q st f fd:=by
 obtain⟨⟨oc,od,kV,doc,pm,an,cdv,ct,osl,e,l,c⟩,kp⟩:=F
 have l':=zbN s l fun _ _ z=>nomatch z
 refine⟨⟨oc,od,kV,doc,pm,an,cdv,ct,osl,e,l',zk6 s c⟩,?_⟩
 unfold PySem.W.keepIn
 simp only [l']
theorem Has.cut{cs:List Addr}{K:PySem.W.Frag}{mg:Str->Option Value}(s:zf9 cs K){x:Str}{st:Stmt}(h:Has K mg x st):Has (zcw cs K) mg x st:=by
 obtain⟨f,fd,hm,F⟩:=h
 exact⟨f,fd,hm,Fun.cut s F⟩
abbrev CL:=List (Addr×Obj×List V)
def ziq(cl:CL):Hp:=fun b=>(cl.lookup b).map fun p=>.frz p.1 (.tup p.2)
theorem zuF(cl:CL)(a:Addr)(u:HO)(h:ziq cl a=some u):∃ o xs,u=.frz o (.tup xs):=by
 unfold ziq at h
 rw [Option.map_eq_some_iff] at h
 obtain⟨p,_,rfl⟩:=h
 exact⟨_,_,rfl⟩
@[reducible] def zrA(cl:CL)(ob:String->Option (Addr×List Str):=fun _=>none):Cs:={ C:=ziq cl,st:=zuF cl,O:=ob }
def ziQ(cl:CL)(K:PySem.W.Frag):Prop:=∀ p∈cl,K.lookup p.1=some p.2.1/\p.2.1.cls=.type "tuple"/\p.2.2.length<=sizeLine/\∃(its:Array Value) (n:Nat),p.2.1.data=.seq its n/\Vals p.2.2 its.toList
theorem ziQ.nil{K:PySem.W.Frag}:ziQ [] K:=fun p hp=>by simp at hp
theorem ziQ.cons{K:PySem.W.Frag}{a:Addr}{od:Option Addr}{its:Array Value}{n:Nat}{sl:Array (Option Value)}{xs:List V}{cl:CL}(e:K.lookup a=some ⟨.type "tuple",od,.seq its n,sl⟩) (hv:Vals xs its.toList) (hl:xs.length<=1000) (r:ziQ cl K):ziQ ((a,⟨.type "tuple",od,.seq its n,sl⟩,xs)::cl) K:=fun p hp=>by
 rcases List.mem_cons.mp hp with rfl|hp
 ·exact⟨e,rfl,Nat.le_of_lt (zlu hl),its,n,rfl,hv⟩
 ·exact r p hp
theorem ziQ.seqs{cl:CL}{K:PySem.W.Frag}(h:ziQ cl K):zf9 (cl.map (·.1)) K:=fun c hc=>by
 obtain⟨p,hp,rfl⟩:=List.mem_map.mp hc
 obtain⟨e,_,_,its,n,d,_⟩:=h p hp
 exact⟨_,its,n,e,d⟩
theorem mem_of_lookup{α:Type}:∀{l:List (Addr×α)} {a:Addr} {x:α},l.lookup a=some x->(a,x)∈l
 | [],a,x,h=>by simp at h
 | (b,y)::r,a,x,h=>by
  rw [List.lookup_cons] at h
  cases e:a==b with
  | true =>
   rw [e] at h
   cases h
   have:=eq_of_beq e
   subst this
   exact List.mem_cons_self ..
  | false =>
   rw [e] at h
   exact List.mem_cons_of_mem _ (mem_of_lookup h)
theorem zgC{cl:CL}{K:PySem.W.Frag}(h:ziQ cl K){b:Addr}{u:HO}(e:ziq cl b=some u):(zcw (cl.map (·.1)) K).lookup b=none/\∃(o:Obj) (xs:List V) (its:Array Value) (n:Nat),u=.frz o (.tup xs)/\K.lookup b=some o/\o.cls=.type "tuple"/\o.data=.seq its n/\xs.length<=sizeLine/\Vals xs its.toList:=by
 unfold ziq at e
 rw [Option.map_eq_some_iff] at e
 obtain⟨⟨o,xs⟩,el,rfl⟩:=e
 have m:=mem_of_lookup el
 obtain⟨h1,h2,h3,its,n,h4,h5⟩:=h _ m
 refine⟨?_,o,xs,its,n,rfl,h1,h2,h4,h3,h5⟩
 rw [zdt,if_pos]
 have:b∈cl.map (·.1):=List.mem_map.mpr ⟨_,m,rfl⟩
 simpa using this
theorem zms{P:Program}{w:World}{K:PySem.W.Frag}{mg mb:Str->Option Value}{CX:CXT}{k:Nat}{fa a:Addr}{fd:FuncData}{x:Str}{sp:Sp}{s₁:Shared}{vs:List Value}{ns:List Int}{cl:CL}
  (KX:K.In s₁.heap)(hC:ziQ cl K)(hns:s₁.heap.Ns mainGlobals mg)(hb:s₁.heap.Ns builtinsNs mb)(hbb:∀ x:Str,x ≠ "__name__"->mb x=bootBuiltins x) (hlim:s₁.heap.NoLimit) (hse:s₁.heap.NoSeer) (htr:P.given.tree=none) (hg:s₁.gens=#[])
  (ha:s₁.heap.get? a=some { cls:=.type "list",data:=.seq vs.toArray }) (hi:IntsAre vs ns) (hl:ns.length<=sizeLine) (hr:zbU k callerA)
  (F:∀ base:Heap,(zcw (cl.map (·.1)) K).In base->base.Ns mainGlobals mg->zes P w (zcw (cl.map (·.1)) K) mg base CX k fa fd [x] sp) (hbind:∀(s:Shared) (u:Value),BindsTo s fd ⟨[u],[]⟩ [(x,u)])
  (hsp:∀ H:Hp,(∀ b xs,H b≠some (.lst xs))->(∀ b u,ziq cl b=some u->H b=some u)->SqL (zcw (cl.map (·.1)) K) H a (ns.map V.int)->sp [.ref a] H (fun v _=>v=.bl true) fun _ _ _=>False)
  (hCX:∀ H e s',CX [] H s₁ (fun _ _ _=>False) e s'->False) :
  codeAny (model P w) callerA (.call (.ref fa) ⟨[.ref a],[]⟩) (fun r s'=>r=.ok (.ret (.bool true))/\OldK s₁.heap s'.heap/\s'.os=s₁.os/\AllBare s'.gens) s₁:=by
 have rv:=zhS hi
 have lenV:=hi.length
 have core:∀ H:Hp,(∀ b u,H b=some u->∃ o v,u=.frz o v/\o.cls≠.type "module"/\∀ es ep,o.data≠.dict es ep)->(∀ b xs,H b≠some (.lst xs))->(∀ b u,ziq cl b=some u->H b=some u)->SqL (zcw (cl.map (·.1)) K) H a (ns.map V.int)->HOk P w H s₁.heap->(∀ b,H b≠none->(zcw (cl.map (·.1)) K).lookup b=none) ->
   codeAny (model P w) callerA (.call (.ref fa) ⟨[.ref a],[]⟩) (fun r s'=>r=.ok (.ret (.bool true))/\OldK s₁.heap s'.heap/\s'.os=s₁.os/\AllBare s'.gens) s₁:=by
  intro H hO hL hcc hS hok hK
  have base_of:∀{b:Addr} {o:Obj},s₁.heap.get? b=some o->H b=none->(zos s₁.heap H).get? b=some o:=fun e n=>zor e n
  have noA:∀{b:Addr} {o:Obj} {es:Array DictEntry} {ep:Nat},s₁.heap.get? b=some o->o.data=.dict es ep->H b=none:=fun{b o es ep} e d=>by
   cases q:H b with
   | none=>rfl
   | some u =>
    obtain⟨o',v,rfl,_,nd⟩:=hO b u q
    obtain⟨e',_⟩:=hok b _ q
    rw [e] at e'
    cases e'
    exact absurd d (nd es ep)
  have noM:∀{b:Addr} {o:Obj},s₁.heap.get? b=some o->o.cls=.type "module"->H b=none:=fun{b o} e d=>by
   cases q:H b with
   | none=>rfl
   | some u =>
    obtain⟨o',v,rfl,nd,_⟩:=hO b u q
    obtain⟨e',_⟩:=hok b _ q
    rw [e] at e'
    cases e'
    exact absurd d nd
  have nsK:∀{b:Addr} {m:Str->Option Value},s₁.heap.Ns b m->(zos s₁.heap H).Ns b m:=fun{b m} ⟨o,es,ep,e,d,r⟩=>⟨o,es,ep,base_of e (noA e d),d,r⟩
  have hKb:(zcw (cl.map (·.1)) K).In (zos s₁.heap H):=fun b o e=>base_of (zpx KX b o e) (by
   cases q:H b with
   | none=>rfl
   | some u=>rw [hK b (by rw [q];simp)] at e;cases e)
  have hM:Mod (zcw (cl.map (·.1)) K) mg (zos s₁.heap H):=⟨hKb,nsK hns,⟨mb,nsK hb,hbb⟩,let⟨mc,h1,h2⟩:=hlim;⟨mc,nsK h1,h2⟩,(let⟨mc,h1,h2⟩:=hse.statics;⟨mc,nsK h1,h2⟩),(let⟨mc,h1,h2⟩:=hse.mods;⟨mc,nsK h1,h2⟩),(let⟨mc,h1,h2⟩:=hse.imp;⟨mc,nsK h1,h2⟩),(let⟨mg,bm,ob,h1,h2,h3,h4,h5⟩:=hse.main;⟨mg,bm,ob,nsK h1,h2,base_of h3 (noM h3 h4),h4,h5⟩)⟩
  have e0:zrw P w (zcw (cl.map (·.1)) K) mg (zos s₁.heap H) callerA [] s₁ H:=⟨rfl,hM,fun b o e=>zqL e,Nat.le_of_eq (zmE _ _),trivial,fun b hb=>absurd (show b∈([]:List Addr) from hb) (by simp),hok,.of_eq hg,htr⟩
  refine codeAny_mono ((F _ hKb (nsK hns)).run callerA [] s₁ H ⟨[.ref a],[]⟩ [.ref a] [.ref a] _ _ hr e0 (hbind s₁ (.ref a)) (.cons rfl .nil) (hsp H hL hcc hS)) fun r s' h=>?_
  cases r with
  | error e=>exact(hCX H e s' h).elim
  | ok fl =>
   cases fl with
   | next=>exact False.elim h
   | brk=>exact False.elim h
   | cont=>exact False.elim h
   | ret u =>
    obtain⟨v,H',os,bare,un,hok',r',q⟩:=h
    have q':v=.bl true:=q
    subst q'
    obtain rfl:u=Value.bool true:=r'
    refine⟨rfl,OldK.of_keep fun b o e=>?_,os,bare⟩
    cases q:H b with
    | none=>exact un.keep b o e q (by intro z;exact absurd (show b∈([]:List Addr) from z) (by simp)) (by simp)
    | some u =>
     obtain⟨ob,v,rfl,_,_⟩:=hO b u q
     have z2:=un.frzs b ob _ q
     obtain⟨e1,_⟩:=hok b _ q
     obtain⟨e2,_⟩:=hok' b _ z2
     rw [e] at e1;cases e1
     exact e2
 have cok:∀{H:Hp} {b:Addr} {u:HO},ziq cl b=some u->zbR P w H s₁.heap b u:=fun{H b u} e=>by
  obtain⟨_,o,xs,its,n,rfl,h1,h2,h3,h4,h5⟩:=zgC hC e
  have hg:=KX b o h1
  exact⟨hg,h4,its.toList,h5,o,hg,h2,n,by simpa using h3⟩
 have cfr:∀{b:Addr} {u:HO},ziq cl b=some u->∃ o v,u=.frz o v/\o.cls≠.type "module"/\∀ es ep,o.data≠.dict es ep:=fun{b u} e=>by
  obtain⟨_,o,xs,its,n,rfl,h1,h2,h3,h4,h5⟩:=zgC hC e
  exact⟨o,_,rfl,by rw [h2];simp,fun es ep z=>by rw [h3] at z;cases z⟩
 have clst:∀{b:Addr} {xs:List V},ziq cl b≠some (.lst xs):=fun{b xs} e=>by
  obtain⟨_,o,xs,its,n,z,_⟩:=zgC hC e
  cases z
 cases hk:(zcw (cl.map (·.1)) K).lookup a with
 | some o =>
  have e:=zpx KX a o hk
  rw [ha] at e
  cases e
  exact core (ziq cl) (fun b u e=>cfr e) (fun b xs e=>clst e) (fun _ _ e=>e) (.inr ⟨_,vs.toArray,_,hk,rfl,rfl,rfl,by rw [List.size_toArray,lenV];exact hl,by simpa using rv⟩) (fun b u z=>cok z) fun b hb=>by
   cases q:ziq cl b with
   | none=>exact absurd q hb
   | some u=>exact(zgC hC q).1
 | none =>
  have na:∀ u,ziq cl a≠some u:=fun u z=>by
   obtain⟨_,o,xs,its,n,rfl,h1,h2,h3,h4,h5⟩:=zgC hC z
   have:=KX a o h1
   rw [ha] at this
   cases this
   simp at h2
  refine core (fun b=>if b=a then some (.frz { cls:=.type "list",data:=.seq vs.toArray } (.lst (ns.map V.int))) else ziq cl b) (fun b u e=>?_) (fun b xs e=>?_) (fun b u e=>?_) (.inl (.inr ⟨{ cls:=.type "list",data:=.seq vs.toArray },if_pos rfl⟩)) (fun b u z=>?_) fun b hb=>?_
  ·split at e
   ·cases e;exact⟨_,_,rfl,by simp,fun es ep z=>nomatch z⟩
   ·exact cfr e
  ·split at e
   ·cases e
   ·exact clst e
  ·have:b≠a:=fun z=>by subst z;exact na u e
   simp only [if_neg this];exact e
  ·simp only at z
   split at z
   ·rename_i c
    cases z
    subst c
    exact⟨ha,by rw [List.length_map];exact hl,vs,_,rv,ha⟩
   ·exact cok z
  ·by_cases c:b=a
   ·subst c;exact hk
   ·simp only [if_neg c] at hb
    cases q:ziq cl b with
    | none=>exact absurd q hb
    | some u=>exact(zgC hC q).1
theorem zno{l:PySem.W.OpenLaw}{k:Nat}{q:Program}{loose:List Str}{XP:(Str->Option Value)->Heap->Prop}{YP:World->Heap->Prop}{d:DefRec}{K:Params->PySem.W.Frag}{x:Str}{G:List D->R D}
  (hlaw:∀ ns:List Int,ns.length<=63->G [.list (ns.map PyData.int)]=.ok (.bool true))(hn:l.most=some 63)(hdf:d.params.defaults=[])(hi:importsNone q=true)(htr:l.prog.given.tree=none)(hr:zbU k callerA)
  (hY:∀(w:World) (h:Heap),YP w h->(K w.params).In h)
  (F:∀(w:World) (mg:Str->Option Value) (fa:Addr) (h:Heap),(K w.params).In h->h.Ns mainGlobals mg->mg d.name=some (.ref fa) ->
   ∃(cl:CL) (ob:String->Option (Addr×List Str)) (fd:FuncData),ziQ cl (K w.params)/\(∀(s:Shared) (u:Value),BindsTo s fd ⟨[u],[]⟩ [(x,u)]) /\
    ∀ base:Heap,(zcw (cl.map (·.1)) (K w.params)).In base->base.Ns mainGlobals mg->zes l.prog w (zcw (cl.map (·.1)) (K w.params)) mg base (CXe l.prog w) k fa fd [x] (@spP (zrA cl ob) (zcw (cl.map (·.1)) (K w.params)) 1 false G)) :
  PySem.W.WalkO q loose XP YP l.row.toRowW d [] (fun f vs=>PySem.call f vs):=by
 refine Att.zjy hn hdf fun w s₀ s₁ mg mb fa o pm cd doc a vs ns GG Y ho hd hcd hmg hobj hints hlen hg=>?_
 have KX:=hY w _ Y
 obtain⟨cl,ob,fd,hC,hb,hF⟩:=F w mg fa _ KX GG.T.g hmg
 refine zms KX hC GG.T.g GG.T.b GG.T.builtins GG.T.nolimit (GG.T.seer hi) htr hg hobj hints (Nat.le_trans hlen (by decide)) hr hF hb (fun H hO hcc hS=>@zsO (zrA cl ob) _ G H a ns (hlaw ns hlen) hO hcc hS) fun H e s' ⟨_,_,_,_,_,_,_,_,_,_,_,_,_,_,_,z⟩=>z
variable [Cs]
theorem zjV{K:PySem.W.Frag}{X:Cx}{x:Str}{a:Addr}{pos:Pos}{ds:List D}{vs:List V}(hg:Gl X x)(hm:X.mg x=some (.ref a))(hc:∃ o,Cs.C a=some (.frz o (.tup vs)))(hf:∀ H,zae K H ds vs)(hd:(x==("__debug__":Str))=false:=by decide) :
  PV K X (.Name x pos) (eC (.tuple ds)):=.mk fun _=>(zl0 hg hm (v:=.ref a) rfl hd).weak fun σ H Q=>by
 rintro⟨ρ,rel,g⟩
 obtain⟨o,hc⟩:=hc
 refine g.now rel (.ref a) ?_
 simp only [Fz]
 exact⟨a,vs,rfl,.inr ⟨o,rel.cst _ _ hc⟩,hf H⟩
end
section
theorem zjM{k:Nat}{A:Around}(hr:zbU k A):A.units+1<cLine:=by have:=hr.un;omega
theorem zlx{x y:V}{u:Value}(h1:L2.RelV x u)(h2:L2.RelV y u):x=y:=by
 cases x <;> cases y <;> simp only [L2.RelV] at h1 h2 <;> first
  | (subst h1;cases h2;rfl;done)
  | (subst h1;obtain⟨t',h2⟩:=h2;cases h2;done)
  | (obtain⟨t,rfl⟩:=h1;obtain⟨t',h2⟩:=h2;cases h2;rfl;done)
  | (obtain⟨t,rfl⟩:=h1;obtain⟨t',h2⟩:=h2;cases h2;done)
  | (subst h1;cases h2;done)
  | (obtain⟨t,rfl⟩:=h1;cases h2;done)
theorem zhR:∀{xs ys:List V} {us:List Value},Vals xs us->Vals ys us->xs=ys
 | _,_,_,.nil,.nil=>rfl
 | _,_,_,.cons r1 t1,.cons r2 t2=>by rw [zlx r1 r2,zhR t1 t2]
theorem lookup_mem{α:Type}:∀{l:List (Addr×α)} {a:Addr} {x:α},(a,x)∈l->∃ y,l.lookup a=some y
 | [],a,x,h=>by simp at h
 | (b,y)::r,a,x,h=>by
  rw [List.lookup_cons]
  cases e:a==b with
  | true=>exact⟨y,rfl⟩
  | false =>
   rcases List.mem_cons.mp h with z|z
   ·cases z;simp at e
   ·exact lookup_mem z
theorem zs0{cl:CL}{ob:String->Option (Addr×List Str)}{K:PySem.W.Frag}(h:ziQ cl K){a:Addr}{o:Obj}{xs:List V}(m:(a,o,xs)∈cl):∃ o',(zrA cl ob).C a=some (.frz o' (.tup xs)):=by
 obtain⟨⟨o2,ys⟩,el⟩:=lookup_mem m
 obtain⟨h1,_,_,its,n,h2,h3⟩:=h _ m
 obtain⟨g1,_,_,its',n',g2,g3⟩:=h _ (mem_of_lookup el)
 simp only at h1 h2 h3 g1 g2 g3
 rw [h1] at g1
 cases g1
 rw [h2] at g2
 cases g2
 refine⟨o,?_⟩
 show ziq cl a=_
 unfold ziq
 rw [el,zhR h3 g3]
 rfl
theorem zs1{K:PySem.W.Frag}{h:Heap}{mg:Str->Option Value}{x:Str}{st:Stmt}{f:Addr}{oc:Value}{od an:Option Addr}{osl:Array (Option Value)}{kV doc pm cdv ct:Value}(X:K.In h)(G:h.Ns mainGlobals mg)(q:PySem.W.nsIn K mainGlobals x=some (some (.ref f)))
  (l:K.lookup f=some ⟨oc,od,.func (PySem.W.fnOf x x (zbM st) (zaB st) (zak st) .none kV doc pm an cdv ct),osl⟩)(c:PySem.W.codeIn K cdv x=true)(k:PySem.W.keepIn K (.ref f)=true):Has K mg x st:=⟨f,_,PySem.W.mg_of X G q,zmJ (st:=st) l c k⟩
theorem _root_.L2.Has.cut{cs:List Addr}{K:PySem.W.Frag}{mg:Str->Option Value}{x:Str}{st:Stmt}(h:Has K mg x st)(s:zf9 cs K):Has (zcw cs K) mg x st:=FL.Has.cut s h
end
end FL
namespace FL
open PySem
def enD:List D->R (List D)
 | [.list l]=>.ok (zfX 0 l)
 | _=>.bad
def zsZ(a:AF):IF:=fun ρ=>(a ρ).bind fun x=>(enD x.1).bind fun l=>.ok (l,x.2)
end FL
namespace L2
open PySem PySem.Spec PyProof.Rows
end L2
namespace FL
open PySem L2 PySem.Spec
open PyProof.Rows hiding St
theorem zmM:∀(i:Nat) (l:List D),(zfX i l).length=l.length
 | _,[]=>rfl
 | i,d::r=>by rw [zfX,List.length_cons,List.length_cons,zmM]
theorem zmN:∀{i:Nat} {l:List D} {j:Nat} {x:D},(zfX i l)[j]?=some x->∃ d,l[j]?=some d/\x=.tuple [.int ((i+j:Nat):Int),d]
 | _,[],_,_,h=>by simp [zfX] at h
 | i,d::r,0,x,h=>by
  simp only [zfX,zz0,Option.some.injEq] at h
  exact⟨d,rfl,h.symm⟩
 | i,d::r,j+1,x,h=>by
  simp only [zfX,zz1] at h
  obtain⟨d',h1,h2⟩:=zmN h
  refine⟨d',by simpa using h1,?_⟩
  rw [h2,Nat.add_assoc,Nat.add_comm 1 j]
theorem ziS:∀{l m:List D} {j:Nat} {x:D},(zhM l m)[j]?=some x->∃ a b,l[j]?=some a/\m[j]?=some b/\x=.tuple [a,b]
 | [],_,_,_,h=>by simp [zhM] at h
 | _::_,[],_,_,h=>by simp [zhM] at h
 | a::r,b::s,0,x,h=>by
  simp only [zhM,zz0,Option.some.injEq] at h
  exact⟨a,b,rfl,rfl,h.symm⟩
 | a::r,b::s,j+1,x,h=>by
  simp only [zhM,zz1] at h
  obtain⟨a',b',h1,h2,h3⟩:=ziS h
  exact⟨a',b',by simpa using h1,by simpa using h2,h3⟩
theorem ziR:∀(l m:List D),(zhM l m).length=min l.length m.length
 | [],_=>by simp [zhM]
 | _::_,[]=>by simp [zhM]
 | a::r,b::s=>by simp only [zhM,List.length_cons,ziR r s];omega
section
variable [Cs]{K:PySem.W.Frag}{X:Cx}{e e':Expr}{fa:AF}{pos:Pos}{es:List Expr}{k:Nat}{p0 p:Pos}
theorem zjn{H:Hp}{t:Addr}{a b:D}{u v:V}(h0:H t=none)(fa:Fz K H a u)(fb:Fz K H b v):Fz K (upd H t (.tup [u,v])) (.tuple [a,b]) (.ref t):=by
 have m:Fzn H (upd H t (.tup [u,v])):=Fzn.of (zaM.upd h0)
 simp only [Fz,zae]
 exact⟨t,[u,v],rfl,.inl zal,u,[v],rfl,fa.mono m,v,[],rfl,fb.mono m,rfl⟩
theorem zlj{H:Hp}{a:Addr}{vs:List V}{items:List D}(h:FzL K H a vs)(f:zae K H items vs):Walk K (Ite K a) (zfX 0 items) H:=by
 refine⟨fun i d H' fz e=>?_,fun i H' fz e=>⟨vs,(fz.ziN h).sq,by rw [f.len,<- zmM 0];exact e⟩⟩
 obtain⟨d',e',rfl⟩:=zmN e
 obtain⟨v,ev,fv⟩:=(f.mono fz).get e'
 refine⟨⟨vs,v,(fz.ziN h).sq,ev⟩,fun x H'' y=>?_⟩
 obtain⟨t,v',rfl,ht,rfl,hv⟩:=y
 have ex:=hv vs (fz.ziN h).sq
 rw [ev] at ex
 cases ex
 refine⟨zaM.upd ht,?_⟩
 rw [Nat.zero_add]
 exact zjn ht (zcY _) fv
theorem znm{H:Hp}{a b:Addr}{vs ws:List V}{l m:List D}(h:FzL K H a vs)(f:zae K H l vs)(h':FzL K H b ws)(f':zae K H m ws):Walk K (Itz K a b) (zhM l m) H:=by
 refine⟨fun i d H' fz e=>?_,fun i H' fz e=>⟨vs,ws,(fz.ziN h).sq,(fz.ziN h').sq,?_⟩⟩
 ·obtain⟨x,y,e1,e2,rfl⟩:=ziS e
  obtain⟨u,eu,fu⟩:=(f.mono fz).get e1
  obtain⟨v,ev,fv⟩:=(f'.mono fz).get e2
  refine⟨⟨vs,ws,u,v,(fz.ziN h).sq,(fz.ziN h').sq,eu,ev⟩,fun x H'' y=>?_⟩
  obtain⟨t,u',v',rfl,ht,rfl,hu,hv⟩:=y
  have ex:=hu vs (fz.ziN h).sq
  rw [eu] at ex
  cases ex
  have ex:=hv ws (fz.ziN h').sq
  rw [ev] at ex
  cases ex
  exact⟨zaM.upd ht,zjn ht fu fv⟩
 ·rw [ziR] at e
  rw [f.len,f'.len]
  omega
theorem zjU(hg:Gl X "enumerate") (hm:X.mg "enumerate"=none) (ha:PVA K X [e] fa) (hs:starEach [e] X.env=[(false,eval e X.env)]:=by exact FL.se rfl):PVI K X (.Tuple es k p0) (.Call (.Name "enumerate" p) [e] [] pos) (zsZ fa):=.mk fun hK=>by
 subst hK
 refine(zqx hg hm (ha rfl) hs).weak fun σ H R=>?_
 rintro⟨ρ,rel,q⟩
 refine goA rel q fun ds ρ1 vs H1 rel1 st1 fs q1=>?_
 obtain⟨items,ei,q2⟩:=q1.zc0
 cases ds with
 | nil=>cases ei
 | cons d r =>
  cases r with
  | cons _ _=>cases d <;> cases ei
  | nil =>
   cases d with
   | list a =>
    cases ei
    simp only [zae,Fz] at fs
    obtain⟨_,_,rfl,⟨l,vs,rfl,sx,f⟩,rfl⟩:=fs
    exact⟨l,rfl,⟨vs,sx.sq⟩,q2.now rel1 _ (zlj sx f)⟩
   | _=>cases ei
end
end FL
namespace L2
open PySem PySem.Spec PyProof.Rows
end L2
namespace FL
open PySem L2 PySem.Spec
open PyProof.Rows hiding St
end FL
namespace PySem
open Spec
end PySem
namespace FL
open PySem L2 PySem.Spec
open PyProof.Rows hiding St
section
end
section
end
end FL
namespace L2
open PySem PySem.Spec PyProof.Rows
open PySem.SeqAt
open PySem.AutoSeq1 (wpAny_loadPart')
open PySem.MeetsSeq PySem.MeetsSeq2 PySem.MeetsSeq3
end L2
namespace FL
open PySem L2 PySem.Spec
open PyProof.Rows hiding St
end FL
namespace FL
open PySem
def intD:D->R D
 | .bool b=>.ok (.int (if b then 1 else 0))
 | .int i=>.ok (.int i)
 | _=>.bad
end FL
namespace L2
open PySem PySem.Spec PyProof.Rows PySem.W
end L2
namespace FL
open PySem L2 PySem.Spec
open PyProof.Rows hiding St
section
variable [Cs]
section
variable {K:PySem.W.Frag}{X:Cx}{b:Expr}{h:EF}{pos:Pos}
theorem zuT:CallD X (.type "int") intD:=by
 intro pins s σ H xs us Q I r h
 obtain⟨x,dx,d,rfl,tx,e,q⟩:=h
 obtain⟨u,rfl,ru⟩:=vals1 r
 cases dx with
 | bool c =>
  have tx:Fz X.K H (.bool c) x:=tx
  simp only [Fz] at tx
  subst tx
  cases e
  cases ru
  exact PySem.call_int_bool ⟨.int _,H,I.tok _,⟨_,rfl⟩,q _ H (zaM.refl _) (by simp [Fz])⟩
 | int i =>
  have tx:Fz X.K H (.int i) x:=tx
  simp only [Fz] at tx
  subst tx
  cases e
  obtain⟨t,rfl⟩:=ru
  exact PySem.call_int_int ⟨.int i,H,I,⟨t,rfl⟩,q _ H (zaM.refl _) (by simp [Fz])⟩
 | _=>exact nomatch (show(R.bad:R D)=.ok d from e)
end
end
section
variable [Cs]
section
variable {P:Program}{w:World}{K:PySem.W.Frag}{mg:Str->Option Value}{base:Heap}{x:Str}{st:Stmt}{ps:List Str}{k:Nat}{b:SF}{fr:Bool}
theorem fnM(ms:List Bool)(N:List Str)(h:Has K mg x st)
  (hb:∀{f:Addr} {cdv:Value} {A:Around} {outer:List Env} {s:Shared} {H:Hp} {E:XK},zbU k (A.deeper (envOfC x (zak st) s.heap.objs.size f cdv))->N.Nodup->zga K (zjt (CXe P w) P w K mg base N x (zak st) f cdv A outer s H E).nox (zaB st) b)
  (S:zbZ N ps (zak st):=by exact⟨rfl,rfl,rfl,by decide +kernel,rfl,by decide +kernel,by decide +kernel⟩)(hps:ps.length=ms.length:=by rfl)(hpN:ps.length<=N.length:=by decide)
  (hbi:∀(kV doc pm:Value) (an:Option Addr) (cdv ct:Value) (us:List Value),us.length=ps.length->bindArgs (PySem.W.fnOf x x (zbM st) (zaB st) (zak st) .none kV doc pm an cdv ct) ⟨us,[]⟩=pure (ps.zip us):=by
   first
    | exact fun _ _ _ _ _ _ us hl=>match us,hl with | [_],_=>rfl
    | exact fun _ _ _ _ _ _ us hl=>match us,hl with | [_,_],_=>rfl
    | exact fun _ _ _ _ _ _ us hl=>match us,hl with | [_,_,_],_=>rfl
    | exact fun _ _ _ _ _ _ us hl=>match us,hl with | [_,_,_,_],_=>rfl
    | exact fun _ _ _ _ _ _ us hl=>match us,hl with | [_,_,_,_,_],_=>rfl):Callee P w K mg base x (k+1) ps (spF K ms fr (FL.run ms fr N.length b)) :=
 zs6 ms fr h S hps hpN hbi fun f cdv A outer s H E hr=>zg4 (hb hr S.nd)
theorem fnP(N:List Str)(h:Has K mg x st)
  (hb:∀{f:Addr} {cdv:Value} {A:Around} {outer:List Env} {s:Shared} {H:Hp} {E:XK},zbU k (A.deeper (envOfC x (zak st) s.heap.objs.size f cdv))->N.Nodup->zga K (zjt (CXe P w) P w K mg base N x (zak st) f cdv A outer s H E).nox (zaB st) b)
  (S:zbZ N ps (zak st):=by exact⟨rfl,rfl,rfl,by decide +kernel,rfl,by decide +kernel,by decide +kernel⟩)(hpN:ps.length<=N.length:=by decide)
  (hbi:∀(kV doc pm:Value) (an:Option Addr) (cdv ct:Value) (us:List Value),us.length=ps.length->bindArgs (PySem.W.fnOf x x (zbM st) (zaB st) (zak st) .none kV doc pm an cdv ct) ⟨us,[]⟩=pure (ps.zip us):=by
   first
    | exact fun _ _ _ _ _ _ us hl=>match us,hl with | [_],_=>rfl
    | exact fun _ _ _ _ _ _ us hl=>match us,hl with | [_,_],_=>rfl
    | exact fun _ _ _ _ _ _ us hl=>match us,hl with | [_,_,_],_=>rfl
    | exact fun _ _ _ _ _ _ us hl=>match us,hl with | [_,_,_,_],_=>rfl
    | exact fun _ _ _ _ _ _ us hl=>match us,hl with | [_,_,_,_,_],_=>rfl):Callee P w K mg base x (k+1) ps (spP K ps.length fr (zcb fr ps.length N.length b)) :=
 Callee.pure (fnM (List.replicate ps.length false) N h hb S (by simp) hpN hbi)
end
section
variable {K:PySem.W.Frag}{X:Cx}{a b c e:Expr}{es:List Expr}{f h g1 g2:EF}{fa:AF}{pos p:Pos}{j k:Nat}
theorem a1(ha:PV K X a f)(hs:starEach [a] X.env=(false,eval a X.env)::starEach [] X.env:=by exact FL.se rfl):PVA K X [a] (zab f zam):=zd2 ha zda hs
theorem a2(ha:PV K X a f)(hb:PV K X b h)(hs:starEach [a,b] X.env=(false,eval a X.env)::starEach [b] X.env:=by exact FL.se rfl)(hs2:starEach [b] X.env=(false,eval b X.env)::starEach [] X.env:=by exact FL.se rfl):PVA K X [a,b] (zab f (zab h zam)):=zd2 ha (a1 hb hs2) hs
theorem a3(ha:PV K X a f)(hb:PV K X b h)(hc:PV K X c g1)(hs:starEach [a,b,c] X.env=(false,eval a X.env)::starEach [b,c] X.env:=by exact FL.se rfl)(hs2:starEach [b,c] X.env=(false,eval b X.env)::starEach [c] X.env:=by exact FL.se rfl)(hs3:starEach [c] X.env=(false,eval c X.env)::starEach [] X.env:=by exact FL.se rfl):PVA K X [a,b,c] (zab f (zab h (zab g1 zam))):=zd2 ha (a2 hb hc hs2 hs3) hs
variable {ps:List Str}{x y:Str}{G:List D->R D}{n:Nat}{py:Pos}
theorem zbu(cc:Callee X.prog X.w X.K X.mg X.base x k ps (spP X.K n false G))(hr:zbU j X.A)(ha:PVA K X (e::es) fa)(hl:zoU fa n:=by repeat (first|exact zfo|refine zel ?_))(hg:Gl X x:=by rfl)(hj:k<=j:=by decide)(hdb:(x==("__debug__":Str))=false:=by decide)
  (he:starEach (e::es) X.env=(false,eval e X.env)::starEach es X.env:=by exact FL.se rfl) (hpl:(backTo pos (starEach es X.env)).any (·.1)=false:=by exact FL.sp rfl):PV K X (.Call (.Name x p) (e::es) [] pos) (zaj G fa):=zqd cc hr hg zey ha hl hj hdb he hpl
theorem zo1(cc:Callee X.prog X.w X.K X.mg X.base x k ps (spP X.K n true G))(hr:zbU j X.A)(ha:PVA K X (e::es) fa)(hl:zoU fa n:=by repeat (first|exact zfo|refine zel ?_))(hg:Gl X x:=by rfl)(hj:k<=j:=by decide)(hdb:(x==("__debug__":Str))=false:=by decide)
  (he:starEach (e::es) X.env=(false,eval e X.env)::starEach es X.env:=by exact FL.se rfl) (hpl:(backTo pos (starEach es X.env)).any (·.1)=false:=by exact FL.sp rfl):PVN K X (.Call (.Name x p) (e::es) [] pos) (zaj G fa):=znJ cc hr hg zey ha hl hj hdb he hpl
variable {F:List D->R (D×List D)}{ar:List Ar}
theorem zdK(cc:Callee X.prog X.w X.K X.mg X.base x k ps (spF X.K (arM ar) false F))(hr:zbU j X.A)(ha:znb K X (e::es) ar)(ho:ztG F (arM ar).length:=by exact zn6)(nd:(arI ar).Nodup:=by decide)(ct:arT ar<=1:=by decide)(hg:Gl X x:=by rfl)(hj:k<=j:=by decide)(hdb:(x==("__debug__":Str))=false:=by decide)
  (he:starEach (e::es) X.env=(false,eval e X.env)::starEach es X.env:=by exact FL.se rfl) (hpl:(backTo pos (starEach es X.env)).any (·.1)=false:=by exact FL.sp rfl):PV K X (.Call (.Name x p) (e::es) [] pos) (zaq F ar):=znP cc ho nd ct hr hg zey ha hj hdb he hpl
theorem zjz(i:Nat)(h:znb K X es ar)(ha:PE X (.Name y py) (zdX i):=by exact pv _)(hs:starEach (.Name y py::es) X.env=(false,eval (.Name y py) X.env)::starEach es X.env:=by exact FL.se rfl):znb K X (.Name y py::es) (.m i::ar):=zr3 i ha h hs
theorem zfB{id:String}{g:D->R D}(hc:CallD X (.builtin id) g)(hm:X.mg x=none)(hv:bootBuiltins x=some (.builtin id))(ha:PV K X e f)(hg:Gl X x:=by rfl)(hn:x ≠ "__name__":=by decide) (hdb:(x==("__debug__":Str))=false:=by decide)
  (he:starEach [e] X.env=(false,eval e X.env)::starEach [] X.env:=by exact FL.se rfl) (hpl:(backTo pos (starEach [] X.env)).any (·.1)=false:=by exact FL.sp rfl):PV K X (.Call (.Name x p) [e] [] pos) (e1 g f):=zg7 (zd3 (CallD.ds hc) hg hm hv (a1 ha he) hn hdb he hpl)
theorem zkJ{T:String}{g:D->R D}(hc:CallD X (.type T) g)(hm:X.mg x=none)(hv:bootBuiltins x=some (.type T))(ha:PV K X e f)(hg:Gl X x:=by rfl)(hn:x ≠ "__name__":=by decide) (hdb:(x==("__debug__":Str))=false:=by decide)
  (he:starEach [e] X.env=(false,eval e X.env)::starEach [] X.env:=by exact FL.se rfl) (hpl:(backTo pos (starEach [] X.env)).any (·.1)=false:=by exact FL.sp rfl):PV K X (.Call (.Name x p) [e] [] pos) (e1 g f):=zg7 (zlG (CallD.ds hc) hg hm hv (a1 ha he) hn hdb he hpl)
theorem zgf{T:String}{tn:Str}{p2:Pos}(kt:zjC T)(hm:X.mg "isinstance"=none) (hm2:X.mg tn=none) (hv2:bootBuiltins tn=some (.type T)) (ha:PV K X a f) (hg:Gl X "isinstance":=by rfl) (hg2:Gl X tn:=by rfl) (hn:tn ≠ "__name__":=by decide) (hd:(tn==("__debug__":Str))=false:=by decide)
  (hs1:starEach [a,.Name tn p2] X.env=(false,eval a X.env)::starEach [.Name tn p2] X.env:=by exact FL.se rfl) (hs2:starEach [.Name tn p2] X.env=(false,eval (.Name tn p2) X.env)::starEach [] X.env:=by exact FL.se rfl) (hpl:(backTo pos (starEach [.Name tn p2] X.env)).any (·.1)=false:=by exact FL.sp rfl) :
  PV K X (.Call (.Name "isinstance" p) [a,.Name tn p2] [] pos) (e1 (zbT T) f):=zr8 kt hg hm hg2 hm2 hv2 ha hn hd hs1 hs2 hpl
theorem zlA(hr:zbU j X.A):OpR X (compareOp .Eq) (rD X.K eqD):=zvV hr.units
theorem zkG(hr:zbU j X.A):OpR X (compareOp .NotEq) (rD X.K neD):=zvQ hr.units
theorem zo0(hr:zbU j X.A):OpR X (compareOp .Lt) (rD X.K ltD):=zvR hr.units
theorem ztY(hr:zbU j X.A):OpR X (compareOp .LtE) (rD X.K leD):=zvS hr.units
theorem zt0(hr:zbU j X.A):OpR X (compareOp .Gt) (rD X.K gtD):=zvT hr.units
theorem zvO(hr:zbU j X.A):OpR X (compareOp .GtE) (rD X.K geD):=zvU hr.units
theorem ztZ(hr:zbU j X.A):OpR X (compareOp .In) (rD X.K inD):=zsA (zjM hr)
theorem zu7(hr:zbU j X.A):IxR X (rD X.K zmO):=zqZ (zjM hr)
variable {op:CmpOp}{g:D->D->R D}{z:Str}{pz:Pos}
theorem zlF(ho:OpR X (compareOp op) (rD X.K g))(ha:PV K X a f)(hb:PV K X b h)(hm:behindInMarks op b=false:=by first|exact zl9 _|rfl):PV K X (.Compare a [op] [b] pos) (e2 g f h):=zr9 ho ha hb hm
theorem zaI(ho:OpR X (compareOp op) (rD X.K g))(ha:PV K X a f)(hb:PV K X b h)(hm:behindInMarks op b=false:=by first|exact zl9 _|rfl):PVT K X (.Compare a [op] [b] pos) (tB (e2 g f h)):=zp2 ho ha hb hm
theorem zp1(i:Nat)(ho:OpR X (compareOp op) (rD X.K g))(hb:PV K X a f)(ha:PE X (.Name y py) (zdX i):=by exact pv _)(hm:behindInMarks op (.Name y py)=false:=by first|exact zl9 _|rfl):PVT K X (.Compare a [op] [.Name y py] pos) (tB (m2r g f i)):=zp0 i ho hb ha hm
theorem zg8(i:Nat)(ho:IxR X (rD X.K g))(hb:PV K X b h)(ha:PE X (.Name y py) (zdX i):=by exact pv _)(hs:zhH b:=by exact fun _ _=>rfl):PV K X (.Subscript (.Name y py) b pos) (m2 g i h):=zr7 i ho ha hb hs
theorem zbk(he:PV K X e f):zga K X [.Return (some e) pos] (zaH f):=zau (zp5 he)
theorem zbH(i:Nat)(hN:X.N.Nodup)(he:PV K X e f)(hi:X.N[i]?=some x:=by rfl)(hx:Loc X.env.scope x:=by first|exact Or.inl rfl|exact Or.inr rfl)(hs:swapsWith e (some (.Name x py)) pos.line X.env=pure false:=by rfl)(hf:X.fn x=true\/X.env.scope.names.lookup x=some .local:=by first|exact .inl rfl|exact .inr rfl|assumption):PSV K X (.Assign [.Name x py] e pos) (zaZ (gN i) f):=zp4 hN hi hx he hs hf
theorem zfz(i:Nat)(hN:X.N.Nodup)(he:PVN K X e f)(hi:X.N[i]?=some x:=by rfl)(hx:Loc X.env.scope x:=by first|exact Or.inl rfl|exact Or.inr rfl)(hs:swapsWith e (some (.Name x py)) pos.line X.env=pure false:=by rfl)(hf:X.fn x=true\/X.env.scope.names.lookup x=some .local:=by first|exact .inl rfl|exact .inr rfl|assumption):PSV K X (.Assign [.Name x py] e pos) (zcH i f):=zp7 hN hi hx he hs hf
theorem g_n(i:Nat)(hN:X.N.Nodup)(hi:X.N[i]?=some x:=by rfl)(hx:Loc X.env.scope x:=by first|exact Or.inl rfl|exact Or.inr rfl)(hf:X.fn x=true\/X.env.scope.names.lookup x=some .local:=by first|exact .inl rfl|exact .inr rfl|assumption):PVG K X [i] (.Name x pos) (gN i):=znL hN hi hx hf
theorem zh3(i j:Nat){kt k2:Nat}{px pt pt2:Pos}(nd:X.N.Nodup)(ha:PV K X a f)(hb:PV K X b h)(hc:X.calm=true:=by rfl)(hi:X.N[i]?=some x:=by rfl)(hj:X.N[j]?=some y:=by rfl)(ij:i≠j:=by decide)(l1:X.env.scope.names.lookup x=some .local:=by rfl)(l2:X.env.scope.names.lookup y=some .local:=by rfl)
  (sw:swappedStores [.Tuple [.Name x px,.Name y py] kt pt] (.Tuple [a,b] k2 pt2) X.env=pure (some [x,y]):=by rfl)(s1:swapsWithSole [.Tuple [.Name x px,.Name y py] kt pt] (.Tuple [a,b] k2 pt2) pos.line X.env=pure false:=by rfl)(s2:starEach [a,b] X.env=(false,eval a X.env)::starEach [b] X.env:=by exact FL.se rfl)(s3:starEach [b] X.env=(false,eval b X.env)::starEach [] X.env:=by exact FL.se rfl) :
  PSV K X (.Assign [.Tuple [.Name x px,.Name y py] kt pt] (.Tuple [a,b] k2 pt2) pos) (zdU i j f h):=zp6 hc nd hi hj ij l1 l2 ha hb sw s1 s2 s3
variable {it:IF}{gg:GF}{bb:SF}{body:List Stmt}{dom:List Nat}{tg:Expr}
theorem zdA(hi:PVI K X tg e it)(hg:PVG K X dom tg gg)(hb:zga K X body bb)(hp:PassesOwn (model X.prog X.w) X.A X.env X.xe:=by exact PassesOwn.never)(hc:X.calm=true:=by rfl)(hs:∀ v,foldedSetIterable e X.env v=pure v:=by intro _;rfl):PSV K X (.For tg e body [] pos) (zdJ it gg bb):=zp8 hp hc hi hg hb hs
variable {elt iter ke ve:Expr}{ifs:List Expr}{scope:Scope}{t:TF}{kf vf:EF}
theorem cp(L:List Str)(ix:List Nat)(M:List Str)(hi:PVI K X tg iter it)(hg:∀{C:Addr} {s₃:Shared} {H₃:Hp} {fp:List Addr},M.Nodup->PVG K (zat X M scope C s₃ H₃ fp) dom tg gg)(ht:∀{C:Addr} {s₃:Shared} {H₃:Hp} {fp:List Addr},zoR K (zat X M scope C s₃ H₃ fp) ifs t)(he:∀{C:Addr} {s₃:Shared} {H₃:Hp} {fp:List Addr},PV K (zat X M scope C s₃ H₃ fp) elt f)
  (hc:X.calm=true:=by rfl)(hk:scope.kind=.function:=by rfl)(ho:zcR X.env.scope scope X.N ix=true:=by kernel_rfl)(hM:M=L++ix.map (fun i=>X.N.getD i ""):=by rfl) (nd:ix.Nodup:=by decide) (hMn:M.Nodup:=by decide +kernel) (hd:(dom.all fun i=>decide (i<L.length))=true:=by decide) (hs:∀ v,foldedSetIterable iter X.env v=pure v:=by intro _;rfl) :
  PVN K X (.ListComp elt [⟨tg,iter,ifs,0⟩] scope pos) (zbd L.length ix it gg t f):=znI L ix M hc hk ho hM nd hi (fun _ _ _ _=>hg hMn) hd (fun _ _ _ _=>ht) (fun _ _ _ _=>he) hs
theorem cpS(i0:Nat)(L:List Str)(ix:List Nat)(M:List Str)(hN:X.N.Nodup)(hi:PVI K X tg iter it)(hg:∀{C:Addr} {s₃:Shared} {H₃:Hp} {fp:List Addr},M.Nodup->PVG K (zat X M scope C s₃ H₃ fp) dom tg gg)(ht:∀{C:Addr} {s₃:Shared} {H₃:Hp} {fp:List Addr},zoR K (zat X M scope C s₃ H₃ fp) ifs t)(he:∀{C:Addr} {s₃:Shared} {H₃:Hp} {fp:List Addr},PV K (zat X M scope C s₃ H₃ fp) elt f)
  (h0:X.N[i0]?=some x:=by rfl)(hl:X.env.scope.names.lookup x=some .local:=by rfl)(hsw:swapsWith (.ListComp elt [⟨tg,iter,ifs,0⟩] scope pos) (some (.Name x py)) p.line X.env=pure true:=by rfl)(hc:X.calm=true:=by rfl)(hk:scope.kind=.function:=by rfl)(ho:zcR X.env.scope scope X.N ix=true:=by kernel_rfl)(hM:M=L++ix.map (fun i=>X.N.getD i ""):=by rfl) (nd:ix.Nodup:=by decide) (hMn:M.Nodup:=by decide +kernel) (hd:(dom.all fun i=>decide (i<L.length))=true:=by decide) (hs:∀ v,foldedSetIterable iter X.env v=pure v:=by intro _;rfl) :
  PSV K X (.Assign [.Name x py] (.ListComp elt [⟨tg,iter,ifs,0⟩] scope pos) p) (zcH i0 (zbd L.length ix it gg t f)):=znD i0 L ix M hN h0 hl hsw hc hk ho hM nd hi (fun _ _ _ _=>hg hMn) hd (fun _ _ _ _=>ht) (fun _ _ _ _=>he) hs
end
abbrev CT(x:Str)(k:Nat)(ps:List Str)(n:Nat)(fr:Bool)(G:List D->R D)(P:Program)(w:World)(K:PySem.W.Frag)(mg:Str->Option Value)(base:Heap):Prop:=Callee P w K mg base x k ps (spP K n fr G)
abbrev CTM(x:Str)(k:Nat)(ps:List Str)(ms:List Bool)(fr:Bool)(F:List D->R (D×List D))(P:Program)(w:World)(K:PySem.W.Frag)(mg:Str->Option Value)(base:Heap):Prop:=Callee P w K mg base x k ps (spF K ms fr F)
end
end FL
namespace FL
open PySem
def aCs(ds:List D):AF:=fun ρ=>.ok (ds,ρ)
end FL
namespace L2
open PySem PySem.Spec
variable {X:Cx}
end L2
namespace FL
open PySem L2 PySem.Spec
open PyProof.Rows hiding St
section
variable [Cs]
end
section
variable [Cs]
def New(H H':Hp)(v:V):Prop:=∃ p o xs,v=.ref p/\H p=none/\H' p=some (.frz o (.lst xs))
def tVF(K:PySem.W.Frag)(f:EF):TE:=fun σ H Q=>∃ ρ,Rel K ρ σ H/\Good K ρ σ H (f ρ) fun d _ H'=>∀ v,Fz K H' d v->((∃ es,d=.list es)->New H H' v)->Q v H'
theorem Stp.none{K:PySem.W.Frag}{ρ ρ':En}{σ:L2.St}{H H':Hp}{a:Addr}(s:Stp ρ ρ' σ H H')(r:Rel K ρ' σ H')(h:H' a=none):H a=none:=by
 cases e:H a with
 | none=>rfl
 | some o =>
  by_cases m:MA ρ σ a
  ·obtain⟨o',e',_⟩:=r.zaO (s.ma.mp m)
   rw [h] at e';cases e'
  ·rw [s.kp a o e m] at h;cases h
def PVF(K:PySem.W.Frag)(X:Cx)(e:Expr)(f:EF):Prop:=X.K=K->PE X e (tVF K f)
section
variable {K:PySem.W.Frag}{X:Cx}
theorem PVN.vf{e:Expr}{f:EF}(h:PVN K X e f):PVF K X e f:=fun hK=>(zsr (h hK)).weak fun σ H Q=>by
 rintro⟨ρ,rel,q⟩
 refine⟨ρ,rel,?_⟩
 cases e:f ρ with
 | ok x =>
  rw [e] at q
  intro H' rel' st a ha m
  obtain⟨u,e1,ow⟩:=m.own
  refine⟨a,u,rfl,e1,ow,fun o=>?_⟩
  have nma:¬ MA ρ σ a:=fun z=>by
   obtain⟨o',e',_⟩:=rel.zaO z
   rw [ha] at e';cases e'
  have nma':¬ MA x.2 σ a:=fun z=>nma (st.ma.mpr z)
  have fz:Fzn H' (upd H' a (.frz o u)):=fun b w e2 sy=>by
   rw [zao fun z=>by subst z;rw [e1] at e2;cases e2;exact ow.zcs sy]
   exact e2
  refine q _ (rel'.put nma' fun u' e2=>by rw [e1] at e2;cases e2;exact ow.zcs) ⟨st.md,fun b w e2 n=>?_⟩ _ ?_ fun⟨es,ez⟩=>?_
  ·rw [zao fun z=>by subst z;rw [ha] at e2;cases e2]
   exact st.kp b w e2 n
  ·obtain⟨d,ρ'⟩:=x
   cases d with
   | list ds =>
    obtain⟨vs,h1,h2⟩:=m
    rw [e1] at h1
    cases h1
    simp only [Fz]
    exact⟨a,vs,rfl,.inl ⟨o,zal⟩,h2.mono fz⟩
   | dict kvs =>
    simp only [Fz]
    obtain⟨kk,h1,h2⟩:=m
    rw [e1] at h1
    cases h1
    exact⟨a,o,rfl,⟨kk,zal,h2.mono fz⟩⟩
   | _=>exact m.elim
  ·rw [ez] at m
   obtain⟨vs,h1,h2⟩:=m
   rw [e1] at h1
   cases h1
   exact⟨a,o,vs,rfl,ha,zal⟩
 | _=>rw [e] at q;exact q.elim
end
end
section
variable [Cs]
def Frm(dom:List Nat)(σ σ':L2.St):Prop:=∀ i,i∉dom->σ'[i]?=σ[i]?
theorem Frm.refl{dom:List Nat}{σ:L2.St}:Frm dom σ σ:=fun _ _=>rfl
theorem Frm.trans{dom:List Nat}{σ σ1 σ2:L2.St}(a:Frm dom σ σ1)(b:Frm dom σ1 σ2):Frm dom σ σ2:=fun i h=>(b i h).trans (a i h)
theorem Frm.set{dom:List Nat}{σ:L2.St}{i:Nat}{v:Option V}(h:i∈dom):Frm dom σ (σ.set i v):=fun j hj=>List.getElem?_set_ne fun z=>hj (by subst z;exact h)
def EFr(dom:List Nat)(σ:L2.St)(Dn:Ends):Ends:={ nx:=fun σ' H'=>Frm dom σ σ'->Dn.nx σ' H',rt:=Dn.rt,bk:=fun σ' H'=>Frm dom σ σ'->Dn.bk σ' H',ct:=fun σ' H'=>Frm dom σ σ'->Dn.ct σ' H' }
def tSf(K:PySem.W.Frag)(C:SC)(dom:List Nat)(f:SF):TS:=fun Dn σ H=>tS K C f (EFr dom σ Dn) σ H
def PSF(K:PySem.W.Frag)(X:Cx)(dom:List Nat)(st:Stmt)(f:SF):Prop:=X.K=K->∀ C,PS X st (tSf K C dom f)
def ztq(K:PySem.W.Frag)(X:Cx)(dom:List Nat)(st:List Stmt)(f:SF):Prop:=X.K=K->∀ C,PSs X st (tSf K C dom f)
section
variable {K:PySem.W.Frag}{X:Cx}{dom:List Nat}{st:Stmt}{rest:List Stmt}{s t:SF}{e:Expr}{f:EF}{pos:Pos}
theorem zfC:ztq K X dom [] sNx:=fun _ C=>ziY.weak fun Dn σ H=>by
 rintro⟨ρ,rel,g⟩
 exact g σ H rel (Fzn.refl H) .refl
theorem zqj(h1:PSF K X dom st s):ztq K X dom [st] s:=fun hK C=>zg9 (h1 hK C)
theorem znT(he:PV K X e f):ztq K X dom [.Return (some e) pos] (zaH f):=fun hK C=>zg9 ((zj0 (he hK)).weak fun Dn σ H=>by
 rintro⟨ρ,rel,g⟩
 exact zjj rel g fun d ρ1 v H1 rel1 st1 fz g1=>g1 v σ H1 rel1 fz)
theorem zh5{c:Expr}{a b:List Stmt}{tc:TF}(hc:PVT K X c tc)(ha:ztq K X dom a s)(hb:ztq K X dom b t):PSF K X dom (.If c a b pos) (sIf tc s t):=fun hK C=>(zse (hc hK) (ha hK C) (hb hK C)).weak fun Dn σ H=>by
 rintro⟨ρ,rel,g⟩
 refine zuG rel g fun cb ρ1 H1 rel1 fz g1=>?_
 cases cb with
 | true=>exact zoo ⟨ρ1,rel1,g1⟩
 | false=>exact zop ⟨ρ1,rel1,g1⟩
theorem zsc{x:Str}{py:Pos}(i:Nat)(hN:X.N.Nodup)(he:PV K X e f)(hd:i∈dom:=by decide)(hi:X.N[i]?=some x:=by rfl)(hx:Loc X.env.scope x:=by first|exact Or.inl rfl|exact Or.inr rfl)(hs:swapsWith e (some (.Name x py)) pos.line X.env=pure false:=by rfl)(hf:X.fn x=true\/X.env.scope.names.lookup x=some .local:=by first|exact .inl rfl|exact .inr rfl|assumption) :
  PSF K X dom (.Assign [.Name x py] e pos) (zaZ (gN i) f):=fun hK C=>(zjZ hN hi hx (he hK) hs hf).weak fun Dn σ H=>by
 rintro⟨ρ,rel,q⟩
 refine zjj rel q fun d ρ1 v H1 rel1 st1 fz q1=>?_
 obtain⟨ρ2,e2,q2⟩:=q1.bnd
 obtain⟨rfl,n,hl⟩:=zgE e2
 exact q2 _ H1 (rel1.chg (rel1.rel.set fz fun _ _ _ z=>nomatch z) (zeH n hl)) (Fzn.refl H1) (.set hd)
end
open Classical in
noncomputable def zlc(Z:Addr->Prop)(H:Hp):Hp:=fun b=>if Z b then(match H b with|some (.frz _ u)=>some u|z=>z) else H b
section
variable {X:Cx}{pins:List (Addr×Obj)}{σ:L2.St}{H:Hp}{s:Shared}{Z:Addr->Prop}
theorem zgX{b:Addr}(h:¬ Z b):zlc Z H b=H b:=if_neg h
theorem zgW{b:Addr}{o:Obj}{u:HO}(h:Z b)(e:H b=some (.frz o u)):zlc Z H b=some u:=by
 unfold zlc
 rw [if_pos h,e]
theorem ztK(I:Inv X pins σ H s)(hz:∀ b,Z b->(∃ o xs,H b=some (.frz o (.lst xs)))/\∀ o u,X.H₀ b≠some (.frz o u)):Inv X pins σ (zlc Z H) s:=by
 have nz:∀ b,(∀ o xs,H b≠some (.frz o (.lst xs)))->zlc Z H b=H b:=fun b h=>zgX fun z=>by
  obtain⟨⟨o,xs,e⟩,_⟩:=hz b z
  exact h o xs e
 have nn:∀ b,H b=none->zlc Z H b=none:=fun b h=>by rw [nz b fun o xs z=>by rw [h] at z;cases z];exact h
 have st:∀(a:Addr) (w:HO),zbR X.prog X.w H s.heap a w->zbR X.prog X.w (zlc Z H) s.heap a w:=fun a w k =>
  k.stay (fun _ _ _ q=>q) (fun b q=>by rw [nz b fun o xs z=>by rw [q] at z;cases z];exact q) (fun b xs q=>by
   rcases q with q|⟨o,q⟩
   ·exact .inl (by rw [nz b fun o xs z=>by rw [q] at z;cases z];exact q)
   ·exact .inr ⟨o,by rw [nz b fun o xs z=>by rw [q] at z;cases z];exact q⟩)
 refine⟨I.ok,I.os,I.bare,⟨I.base.keep,I.base.slot,fun b o e n hx=>nn b (I.base.free b o e n hx),I.base.there,fun b xs e=>?_,fun b o u e=>?_,fun b ps e=>?_⟩,I.loc,I.cell,nn _ I.free,fun x c e=>nn c (I.freeC x c e),fun p hp=>?_,fun a o e=>?_,I.len⟩
 ·have:=I.base.tups b xs e
  rw [nz b fun o xs z=>by rw [this] at z;cases z]
  exact this
 ·have:=I.base.frzs b o u e
  rw [zgX fun z=>(hz b z).2 o u e]
  exact this
 ·obtain⟨m,q⟩:=I.base.tbls b ps e
  exact⟨m,by rw [nz b fun o xs z=>by rw [q] at z;cases z];exact q⟩
 ·obtain⟨e,n,r⟩:=I.pin p hp
  exact⟨e,nn _ n,r⟩
 ·by_cases z:Z a
  ·obtain⟨⟨ob,xs,q⟩,_⟩:=hz a z
   rw [zgW z q] at e
   cases e
   exact st a _ (I.hok a _ q).2
  ·rw [zgX z] at e
   exact st a _ (I.hok a o e)
end
end
section
def zdi(i:Nat)(c:String)(j:Nat):EF:=fun ρ=>match ρ[i]? with
 | some (.ob c' ds)=>if c'=c then(R.of ds[j]?).bind fun d=>.ok (d,ρ) else .bad
 | _=>.bad
def slO:Option String->D->Sl
 | none,d=>.val d
 | some c,.tuple fs=>.ob c fs
 | some _,_=>.no
def zry(ks:List (Option String))(fr:Bool)(n:Nat)(b:SF)(ds:List D):R D :=
 if ds.length=ks.length then(b (List.zipWith slO ks ds++List.replicate (n-ds.length) .no)).bind fun x=>match x.1,fr with
  | .rt d,false=>.ok d
  | .rf d,true=>.ok d
  | .nx,false=>.ok .none
  | _,_=>.bad
 else .bad
def aOb(i:Nat)(c:String)(fa:AF):AF:=fun ρ=>match ρ[i]? with
 | some (.ob c' ds)=>if c'=c then(fa ρ).bind fun x=>.ok (.tuple ds::x.1,x.2) else .bad
 | _=>.bad
section
variable [Cs]{K:PySem.W.Frag}{X:Cx}{H H':Hp}
def FzO(K:PySem.W.Frag)(H:Hp):List (Option String)->List D->List V->Prop
 | [],[],vs=>vs=[]
 | k::ks,d::ds,vs=>∃ v r,vs=v::r/\zjB K H (slO k d) (some v)/\FzO K H ks ds r
 | _,_,_=>False
theorem zrT(k:Option String)(d:D)(p:Bool)(e:D):slO k d≠.ow p e:=by
 unfold slO
 split <;> exact fun z=>nomatch z
theorem FzO.len:∀{ks:List (Option String)} {ds:List D} {vs:List V},FzO K H ks ds vs->vs.length=ks.length/\ds.length=ks.length
 | [],[],vs,h=>by cases h;exact⟨rfl,rfl⟩
 | k::ks,d::ds,vs,h=>by
  obtain⟨v,r,rfl,s,t⟩:=h
  have:=FzO.len t
  simp [this.1,this.2]
 | [],_::_,_,h=>h.elim
 | _::_,[],_,h=>h.elim
theorem FzO.get:∀{ks:List (Option String)} {ds:List D} {vs:List V} {i:Nat} {x:Sl} {v:Option V},FzO K H ks ds vs->(List.zipWith slO ks ds)[i]?=some x->(vs.map some)[i]?=some v->zjB K H x v
 | [],[],vs,i,x,v,h,e,_=>by simp at e
 | k::ks,d::ds,vs,0,x,v,h,e1,e2=>by
  obtain⟨u,r,rfl,s,t⟩:=h
  simp at e1 e2
  subst e1;subst e2
  exact s
 | k::ks,d::ds,vs,i+1,x,v,h,e1,e2=>by
  obtain⟨u,r,rfl,s,t⟩:=h
  simp only [List.zipWith_cons_cons,zz1,List.map_cons] at e1 e2
  exact FzO.get t e1 e2
 | [],_::_,_,_,_,_,h,_,_=>h.elim
 | _::_,[],_,_,_,_,h,_,_=>h.elim
theorem zjI{ks:List (Option String)}{ds:List D}{i:Nat}{p:Bool}{d:D}:(List.zipWith slO ks ds)[i]?≠some (.ow p d):=fun e=>by
 rw [List.getElem?_zipWith] at e
 split at e
 ·exact zrT _ _ _ _ (Option.some.inj e)
 ·cases e
theorem zgx:∀{ns:List Str} {vs:List V} {j:Nat} {f:Str} {v:V},ns.Nodup->ns[j]?=some f->vs[j]?=some v->(ns.zip vs).lookup f=some v
 | n::ns,u::vs,0,f,v,_,h1,h2=>by
  simp at h1 h2
  subst h1;subst h2
  simp [List.lookup_cons]
 | n::ns,u::vs,j+1,f,v,hn,h1,h2=>by
  simp only [zz1] at h1 h2
  rw [List.nodup_cons] at hn
  have ne:(f==n)=false:=by
   simp only [beq_eq_false_iff_ne]
   exact fun z=>hn.1 (z▸List.mem_of_getElem? h1)
  rw [List.zip_cons_cons,List.lookup_cons,ne]
  exact zgx hn.2 h1 h2
 | [],_,_,_,_,_,h,_=>by simp at h
 | _::_,[],_,_,_,_,_,h=>by simp at h
theorem ztU{ks:List (Option String)}{ds:List D}{vs:List V}(cst:znh H)(f:FzO K H ks ds vs):Rel K (List.zipWith slO ks ds) (vs.map some) H :=
 ⟨by rw [List.length_zipWith,List.length_map,f.len.1,f.len.2,Nat.min_self],fun i x v e1 e2=>f.get e1 e2,fun i j a ⟨⟨p,d,e⟩,_⟩=>absurd e zjI,cst⟩
def spO(K:PySem.W.Frag)(ks:List (Option String))(fr:Bool)(G:List D->R D):Sp:=fun vs H Q _=>∃ ds,znh H/\FzO K H ks ds vs/\∃ d,G ds=.ok d/\∀ v H',zaM H H'->(if fr=true then ∃ a,v=.ref a/\H a=none/\zby K H' a d else Fz K H' d v)->Q v H'
theorem zqc{x f:Str}{px pos:Pos}{i j:Nat}{c:String}{C:Addr}{ns:List Str}(ho:Cs.O c=some (C,ns))(hj:ns[j]?=some f)(hn:ns.Nodup)(hc:Cls K C)(na:zcL K C f)(hv:PE X (.Name x px) (zdX i))(hb:attributeBase (.Name x px) f X.env (eval (.Name x px) X.env)=eval (.Name x px) X.env:=by rfl) :
  PV K X (.Attribute (.Name x px) f pos) (zdi i c j):=.mk fun hK=>by
 subst hK
 refine(zss hv hb).weak fun σ H Q=>?_
 rintro⟨ρ,rel,g⟩
 unfold zdi at g
 cases e:ρ[i]? with
 | none=>rw [e] at g;exact g.elim
 | some y =>
  rw [e] at g
  cases y with
  | ob c' ds =>
   dsimp only at g
   split at g
   ·rename_i hcc
    subst hcc
    obtain⟨d,ed,g⟩:=g.zc0
    have hl:i<σ.length:=by rw [<- rel.len];exact(List.getElem?_eq_some_iff.mp e).1
    have o:=rel.ok i _ _ e (List.getElem?_eq_getElem hl)
    cases es:σ[i] with
    | none=>rw [es] at o;exact o.elim
    | some v =>
     rw [es] at o
     cases v with
     | ref a =>
      obtain⟨C',ns',dx,vs,h1,h2,h3,h4⟩:=o
      rw [ho] at h1
      cases h1
      have ed':ds[j]?=some d:=by
       cases q:ds[j]? with
       | none=>rw [q] at ed;cases ed
       | some z=>rw [q] at ed;cases ed;rfl
      obtain⟨v,ev,fv⟩:=h4.get ed'
      refine⟨.ref a,by rw [List.getElem?_eq_getElem hl,es],a,C,dx,ns.zip vs,v,rfl,h2,hc,na,?_,g.now rel v fv⟩
      exact zgx hn hj ev
     | _=>exact o.elim
   ·exact g.elim
  | _=>exact g.elim
def tAO(K:PySem.W.Frag)(ks:List (Option String))(f:AF):TA:=fun σ H Q=>∃ ρ,Rel K ρ σ H/\Good K ρ σ H (f ρ) fun ds _ H'=>∀ vs,FzO K H' ks ds vs->Q vs H'
def PAO(K:PySem.W.Frag)(X:Cx)(ks:List (Option String))(es:List Expr)(f:AF):Prop:=X.K=K->PA X es (tAO K ks f)
theorem zl1:PAO K X [] [] zam:=fun _=>zdB.weak fun σ H Q=>by
 rintro⟨ρ,rel,q⟩
 exact q.now rel [] rfl
theorem zhd{a:Expr}{es:List Expr}{f:EF}{fa:AF}{ks:List (Option String)}(ha:PV K X a f)(hr:PAO K X ks es fa)(hs:starEach (a::es) X.env=(false,eval a X.env)::starEach es X.env:=by exact FL.se rfl):PAO K X (none::ks) (a::es) (zab f fa):=fun hK=>(zbc (ha hK) (hr hK) hs).weak fun σ H Q=>by
 rintro⟨ρ,rel,q⟩
 refine goV rel q fun dx ρ1 x H1 rel1 st1 fx q1=>?_
 obtain⟨y,ey,q2⟩:=q1.bnd
 refine⟨ρ1,rel1,?_⟩
 rw [ey]
 intro H2 rel2 st2 vs fs
 exact(q2.step st2).now rel2 _ ⟨x,vs,rfl,fx.mono (st2.fzn rel1),fs⟩
theorem zsu{x:Str}{px:Pos}{es:List Expr}{fa:AF}{ks:List (Option String)}{i:Nat}{c:String}(hv:PE X (.Name x px) (zdX i))(hr:PAO K X ks es fa)(hs:starEach (.Name x px::es) X.env=(false,eval (.Name x px) X.env)::starEach es X.env:=by exact FL.se rfl):PAO K X (some c::ks) (.Name x px::es) (aOb i c fa):=fun hK=>(zbc hv (hr hK) hs).weak fun σ H Q=>by
 rintro⟨ρ,rel,g⟩
 unfold aOb at g
 cases e:ρ[i]? with
 | none=>rw [e] at g;exact g.elim
 | some y =>
  rw [e] at g
  cases y with
  | ob c' ds =>
   dsimp only at g
   split at g
   ·rename_i hcc
    subst hcc
    have hl:i<σ.length:=by rw [<- rel.len];exact(List.getElem?_eq_some_iff.mp e).1
    have o:=rel.ok i _ _ e (List.getElem?_eq_getElem hl)
    cases es:σ[i] with
    | none=>rw [es] at o;exact o.elim
    | some v =>
     rw [es] at o
     refine⟨v,by rw [List.getElem?_eq_getElem hl,es],?_⟩
     obtain⟨y,ey,q2⟩:=g.bnd
     refine⟨ρ,rel,?_⟩
     rw [ey]
     intro H2 rel2 st2 vs fs
     refine(q2.step st2).now rel2 _ ⟨v,vs,rfl,?_,fs⟩
     exact zjB.mono (x:=.ob c' ds) (st2.fzn rel) (fun a _ ⟨p,d',z⟩=>nomatch z) o
   ·exact g.elim
  | _=>exact g.elim
theorem znO{k j:Nat}{ps:List Str}{E:XK}{x:Str}{p pos:Pos}{e:Expr}{es:List Expr}{G:List D->R D}{fa:AF}{ks:List (Option String)}(c:Callee X.prog X.w X.K X.mg X.base x k ps (spO X.K ks false G))(hr:zbU j X.A)(hg:Gl X x)(hx:Passes (CXe X.prog X.w) X E)(ha:PAO K X ks (e::es) fa)(hj:k<=j:=by decide)(hdb:(x==("__debug__":Str))=false:=by decide)
  (he:starEach (e::es) X.env=(false,eval e X.env)::starEach es X.env:=by exact FL.se rfl) (hpl:(backTo pos (starEach es X.env)).any (·.1)=false:=by exact FL.sp rfl):PV K X (.Call (.Name x p) (e::es) [] pos) (zaj G fa):=.mk fun hK=>by
 subst hK
 refine(zd8 c hr hg hx (ha rfl) hj hdb he hpl).weak fun σ H Q=>?_
 rintro⟨ρ,rel,q⟩
 obtain⟨y,ey,q0⟩:=q.bnd
 refine⟨ρ,rel,?_⟩
 rw [ey]
 intro H1 rel1 st1 vs fs
 obtain⟨d,ed,q2⟩:=(q0.step st1).zc0
 rw [List.append_nil]
 exact⟨y.1,rel1.cst,fs,d,ed,fun v H' s fin=>q2.new rel1 s v fin⟩
end
section
variable [Cs]{P:Program}{w:World}{K:PySem.W.Frag}{mg:Str->Option Value}{base:Heap}
theorem zmK{x q:Str}{st:Stmt}{f:Addr}{fd:FuncData}{N ps:List Str}{k:Nat}{b:SF}(ks:List (Option String))(fr:Bool)(h:Fun K x q st f fd)(S:zbZ N ps (zak st))(hps:ps.length=ks.length)(hpN:ps.length<=N.length)
  (hb:∀(cdv:Value) (A:Around) (outer:List Env) (s:Shared) (H:Hp) (E:XK),zbU k (A.deeper (envOfC q (zak st) s.heap.objs.size f cdv))->zga K (zjt (CXe P w) P w K mg base N q (zak st) f cdv A outer s H E) (zaB st) b) :
  zes P w K mg base (CXe P w) (k+1) f fd ps (spO K ks fr (zry ks fr N.length b)):=by
 refine h.okE S (fun vs H Q E ⟨ds,_,e,_⟩=>by rw [e.len.1,hps]) fun cdv A outer s H vs Q E hr hq=>?_
 obtain⟨ds,cst,fa,d,hF,q⟩:=hq
 obtain⟨hv,hd⟩:=fa.len
 have hst:L2.start N vs=vs.map some++List.replicate (N.length-ds.length) none:=by unfold L2.start;rw [hv,hd]
 have no:∀(i:Nat) p d,(List.zipWith slO ks ds++List.replicate (N.length-ds.length) .no)[i]?≠some (.ow p d):=fun i p d e=>by
  by_cases c:i<(List.zipWith slO ks ds).length
  ·rw [List.getElem?_append_left c] at e
   exact zjI e
  ·rw [List.getElem?_append_right (by omega),List.getElem?_replicate] at e
   split at e <;> cases e
 refine⟨tS K ⟨H,L2.start N vs,List.zipWith slO ks ds++List.replicate (N.length-ds.length) .no⟩ b,hb cdv A outer s H E hr rfl _,List.zipWith slO ks ds++List.replicate (N.length-ds.length) .no,?_,?_⟩
 ·refine⟨?_,fun a o e _=>e,fun i a d e _=>absurd e (no i false d),fun i=>Iff.rfl,fun i d e=>rfl,fun i p d e=>absurd e (no i p d)⟩
  rw [hst]
  exact(ztU cst fa).pad _
 ·unfold zry at hF
  rw [if_pos hd] at hF
  obtain⟨z,ez,ey⟩:=zai hF
  rw [ez]
  obtain⟨fl,ρ'⟩:=z
  have kp:∀(ρ':En) (σ':L2.St) (H':Hp),zcI K ⟨H,L2.start N vs,List.zipWith slO ks ds++List.replicate (N.length-ds.length) .no⟩ ρ' σ' H'->zaM H H':=fun ρ' σ' H' r b o e=>r.keep b o e fun⟨i,⟨p,d,z⟩,_⟩=>no i p d z
  cases fr with
  | false =>
   cases fl with
   | rt dr=>cases ey;exact fun v σ' H' r fz=>q v H' (kp _ _ _ r) fz
   | nx=>cases ey;exact fun σ' H' r fz=>q .non H' (kp _ _ _ r) (by show Fz K H' .none .non;simp [Fz])
   | _=>cases ey
  | true =>
   cases fl with
   | rf dr=>cases ey;exact fun a σ' H' r ha m=>q (.ref a) H' (kp _ _ _ r) ⟨a,rfl,ha,m⟩
   | _=>cases ey
end
end
section
def eMk(G:List D->R D)(a:AF):EF:=fun ρ=>(a ρ).bind fun x=>(G x.1).bind fun d=>match d with
 | .tuple fs=>.ok (.tuple fs,x.2)
 | _=>.bad
def sOb(i:Nat)(c:String)(f:EF):SF:=fun ρ=>(f ρ).bind fun x=>match x.1 with
 | .tuple fs=>match x.2[i]? with
  | some (.ow true _)=>.bad
  | some _=>.ok (.nx,x.2.set i (.ob c fs))
  | none=>.bad
 | _=>.bad
section
variable [Cs]{K:PySem.W.Frag}{X:Cx}{H H':Hp}
theorem zeb:∀{ns:List Str} {vs:List V} {m:Str},m∉ns->(ns.zip vs).lookup m=none
 | [],_,m,_=>rfl
 | _::_,[],m,_=>rfl
 | n::ns,v::vs,m,h=>by
  have ne:(m==n)=false:=by
   simp only [beq_eq_false_iff_ne]
   exact fun z=>h (by rw [z];exact List.mem_cons_self ..)
  rw [List.zip_cons_cons,List.lookup_cons,ne]
  exact zeb fun z=>h (List.mem_cons_of_mem _ z)
theorem zv1{σ:L2.St}{i:Nat}{c:String}{fa:AF}{β:Type}{k:List D×En->R (β×En)}{P:β->En->Hp->Prop}{ρ:En}(rel:Rel K ρ σ H)(g:Good K ρ σ H ((aOb i c fa ρ).bind k) P) :
  ∃ a ds y,ρ[i]?=some (.ob c ds)/\σ[i]?=some (some (.ref a))/\zpE K H a c ds/\fa ρ=.ok y/\Good K ρ σ H (k (.tuple ds::y.1,y.2)) P:=by
 obtain⟨x,ex,g⟩:=g.bnd
 unfold aOb at ex
 cases e:ρ[i]? with
 | none=>rw [e] at ex;cases ex
 | some y =>
  rw [e] at ex
  cases y with
  | ob c' ds =>
   dsimp only at ex
   split at ex
   ·rename_i hcc
    subst hcc
    have hl:i<σ.length:=by rw [<- rel.len];exact(List.getElem?_eq_some_iff.mp e).1
    have o:=rel.ok i _ _ e (List.getElem?_eq_getElem hl)
    cases es:σ[i] with
    | none=>rw [es] at o;exact o.elim
    | some v =>
     rw [es] at o
     cases v with
     | ref a =>
      obtain⟨y,ey,ex⟩:=zai ex
      cases ex
      exact⟨a,ds,y,rfl,by rw [List.getElem?_eq_getElem hl,es],o,ey,g⟩
     | _=>exact o.elim
   ·cases ex
  | _=>cases ex
section
variable {k j:Nat}{ps:List Str}{E:XK}{x m:Str}{px pos apos:Pos}{e:Expr}{es:List Expr}{G:List D->R D}{fa:AF}{ks:List (Option String)}{i:Nat}{c:String}{C f:Addr}{fd:FuncData}{ns:List Str}
theorem znM{pl:Sem Bool}(ho:Cs.O c=some (C,ns))(hm:m∉ns)(hv:PE X (.Name x px) (zdX i))(hc:Cls X.K C)(me:Meth X.K C m f)(F:zes X.prog X.w X.K X.mg X.base (CXe X.prog X.w) k f fd ps (spO X.K (some c::ks) false G))(hr:zbU k X.A)(hb:Binds X.K fd ps [])(hx:Passes (CXe X.prog X.w) X E)(ha:PAO K X ks (e::es) fa)
  (hst:starEach (e::es) X.env=(false,eval e X.env)::starEach es X.env:=by exact FL.se rfl)(hpl:(backTo pos (starEach es X.env)).any (·.1)=false:=by exact FL.sp rfl)
  (ht:eval (.Call (.Attribute (.Name x px) m apos) (e::es) [] pos) X.env=(do
   let ov <- eval (.Name x px) X.env
   standAt apos.atName
   let(f,first) <- holding [ov] (getMethod ov m pl)
   callWith pos f first (backTo pos (starEach (e::es) X.env)) (backToKw pos (keywordEach [] X.env))):=by rfl) :
  PV K X (.Call (.Attribute (.Name x px) m apos) (e::es) [] pos) (zaj G (aOb i c fa)):=.mk fun hK=>by
 subst hK
 refine(zqA hv hc me F hr hb .nil hx (ha rfl) hst hpl ht).weak fun σ H Q=>?_
 rintro⟨ρ,rel,q⟩
 obtain⟨a,ds,y,e1,e2,o,ey,q0⟩:=zv1 rel q
 obtain⟨C',ns',dx,vs',h1,h2,h3,h4⟩:=id o
 rw [ho] at h1
 cases h1
 refine⟨.ref a,e2,a,dx,ns.zip vs',rfl,h2,zeb hm,ρ,rel,?_⟩
 rw [ey]
 intro H1 rel1 st1 vs fs
 obtain⟨d,ed,q2⟩:=(q0.step st1).zc0
 rw [List.append_nil]
 exact⟨.tuple ds::y.1,rel1.cst,⟨.ref a,vs,rfl,o.mono (st1.fzn rel),fs⟩,d,ed,fun v H' s fin=>q2.new rel1 s v fin⟩
def spI(K:PySem.W.Frag)(c:String)(C:Addr)(n:Nat)(G:List D->R D):Sp:=fun vs H Q _=>∃ a dx us ds fs,vs=.ref a::us/\us.length=n/\H a=some (.ins C dx [])/\znh H/\zae K H ds us/\G ds=.ok (.tuple fs) /\
 ∀ H',(∀ b o,b≠a->H b=some o->H' b=some o)->zpE K H' a c fs->Q .non H'
def tOb(K:PySem.W.Frag)(c:String)(f:EF):TE:=fun σ H Q=>∃ ρ,Rel K ρ σ H/\Good K ρ σ H (f ρ) fun d _ H'=>∀ a fs,d=.tuple fs->zpE K H' a c fs->Q (.ref a) H'
def PVB(K:PySem.W.Frag)(X:Cx)(c:String)(e:Expr)(f:EF):Prop:=X.K=K->PE X e (tOb K c f)
theorem znG{n:Nat}{p:Pos}(M:Mk X.K C f)(F:zes X.prog X.w X.K X.mg X.base (CXe X.prog X.w) k f fd ps (spI X.K c C n G))(hr:zbU (k+1) X.A)(hg:Gl X x)(hm:X.mg x=some (.ref C))(hb:Binds X.K fd ps [])(hx:Passes (CXe X.prog X.w) X E)(ha:PVA K X (e::es) fa)(hl:zoU fa n:=by repeat (first|exact zfo|refine zel ?_))
  (hdb:(x==("__debug__":Str))=false:=by decide) (he:starEach (e::es) X.env=(false,eval e X.env)::starEach es X.env:=by exact FL.se rfl) (hpl:(backTo pos (starEach es X.env)).any (·.1)=false:=by exact FL.sp rfl) :
  PVB K X c (.Call (.Name x p) (e::es) [] pos) (eMk G fa):=fun hK=>by
 subst hK
 refine(zqB M F hr hg hm hb .nil hx (ha rfl) hdb he hpl).weak fun σ H Q=>?_
 rintro⟨ρ,rel,q⟩
 obtain⟨y,ey,q0⟩:=q.bnd
 have hy:=hl ρ y ey
 refine⟨ρ,rel,?_⟩
 rw [ey]
 intro H1 rel1 st1 vs fs a dx na ndx ne
 obtain⟨d,ed,q2⟩:=(q0.step st1).zc0
 cases d with
 | tuple fds =>
  have s1:zaM H1 (upd (upd H1 dx (.own a)) a (.ins C dx [])):=(zaM.upd ndx).trans (zaM.upd (by rw [zao (Ne.symm ne)];exact na))
  rw [List.append_nil]
  refine⟨a,dx,vs,y.1,fds,rfl,by rw [fs.len,hy],zal,rel1.cst.mono (Fzn.of s1),fs.mono (Fzn.of s1),ed,fun H' kp ob=>⟨rfl,?_⟩⟩
  have s2:zaM H1 H':=fun b o eb=>kp b o (fun z=>by subst z;rw [na] at eb;cases eb) (s1 b o eb)
  exact q2.new rel1 s2 a fds rfl ob
 | _=>exact q2.elim
end
end
end
section
def Tf:HO->Prop
 | .tup _=>True
 | .frz _ _=>True
 | _=>False
def Fzw(H H':Hp):Prop:=∀ a o,H a=some o->Tf o->H' a=some o
section
variable {K:PySem.W.Frag}{H H':Hp}
mutual
theorem Fz.mow(e:Fzw H H'):∀(d:PyData) (v:V),Fz K H d v->Fz K H' d v
 | .none,v,h=>by simp only [Fz] at h ⊢;exact h
 | .bool b,v,h=>by simp only [Fz] at h ⊢;exact h
 | .int i,v,h=>by simp only [Fz] at h ⊢;exact h
 | .str x,v,h=>by simp only [Fz] at h ⊢;exact h
 | .list xs,v,h=>by
  simp only [Fz] at h ⊢
  obtain⟨a,vs,e1,h1,h2⟩:=h
  refine⟨a,vs,e1,?_,zae.mow e xs vs h2⟩
  rcases h1 with⟨o,h1⟩|h1
  ·exact .inl ⟨o,e _ _ h1 trivial⟩
  ·exact .inr h1
 | .tuple xs,v,h=>by
  simp only [Fz] at h ⊢
  obtain⟨a,vs,e1,h1,h2⟩:=h
  refine⟨a,vs,e1,?_,zae.mow e xs vs h2⟩
  rcases h1 with h1|⟨o,h1⟩
  ·exact .inl (e _ _ h1 trivial)
  ·exact .inr ⟨o,e _ _ h1 trivial⟩
 | .dict kvs,v,h=>by
  simp only [Fz] at h ⊢
  obtain⟨a,o,e1,h⟩:=h
  obtain⟨kk,h1,h2⟩:=h
  exact⟨a,o,e1,⟨kk,e _ _ h1 trivial,zb9.mow e kvs kk h2⟩⟩
theorem zae.mow(e:Fzw H H'):∀(ds:List PyData) (vs:List V),zae K H ds vs->zae K H' ds vs
 | [],vs,h=>by simp only [zae] at h ⊢;exact h
 | d::ds,vs,h=>by
  simp only [zae] at h ⊢
  obtain⟨v,r,e1,h1,h2⟩:=h
  exact⟨v,r,e1,Fz.mow e d v h1,zae.mow e ds r h2⟩
theorem zb9.mow(e:Fzw H H'):∀(kvs:List (PyData×PyData)) (kk:List (List Key×V)),zb9 K H kvs kk->zb9 K H' kvs kk
 | [],kk,h=>by simp only [zb9] at h ⊢;exact h
 | (k,d)::r,kk,h=>by
  simp only [zb9] at h ⊢
  obtain⟨q,v,t,e1,e2,h1,h2⟩:=h
  exact⟨q,v,t,e1,e2,Fz.mow e d v h1,zb9.mow e r t h2⟩
end
end
section
variable [Cs]{K:PySem.W.Frag}{X:Cx}{H H':Hp}{ρ ρ':En}{σ:L2.St}
theorem zq7{a Ca dx:Addr}{fs fs':List (Str×V)}(h:H a=some (.ins Ca dx fs)):Fzw H (upd H a (.ins Ca dx fs')):=fun b o e t=>by
 rw [zao fun z=>by subst z;rw [h] at e;cases e;exact t]
 exact e
def Part(Ca:Addr)(n:Nat):Prop:=∀ c ns,Cs.O c=some (Ca,ns)->n<ns.length
theorem Rel.ins{a Ca dx:Addr}{fs fs':List (Str×V)}(r:Rel K ρ σ H)(h:H a=some (.ins Ca dx fs))(np:Part Ca fs.length):Rel K ρ σ (upd H a (.ins Ca dx fs')):=by
 have fw:Fzw H (upd H a (.ins Ca dx fs')):=zq7 h
 refine⟨r.len,fun i x v e1 e2=>?_,r.sep,fun b u e=>?_⟩
 ·have o:=r.ok i x v e1 e2
  cases x with
  | no=>trivial
  | val d=>cases v with
   | none=>exact o.elim
   | some v=>exact Fz.mow fw d v o
  | ow p d=>cases v with
   | none=>exact o.elim
   | some v=>cases v with
    | ref b =>
     have ne:b≠a:=fun z=>by
      obtain⟨u,hu,ow⟩:=zby.own o
      subst z
      rw [h] at hu
      cases hu
      exact ow
     cases d with
     | list ds=>obtain⟨vs,h1,h2⟩:=o;exact⟨vs,by rw [zao ne];exact h1,zae.mow fw _ _ h2⟩
     | dict kvs =>
      obtain⟨kk,h1,h2⟩:=o
      exact⟨kk,by rw [zao ne];exact h1,zb9.mow fw _ _ h2⟩
     | _=>exact o.elim
    | _=>exact o.elim
  | ob c ds=>cases v with
   | none=>exact o.elim
   | some v=>cases v with
    | ref b =>
     obtain⟨C',ns,dx',vs,h1,h2,h3,h4⟩:=o
     have ne:b≠a:=fun z=>by
      subst z
      rw [h] at h2
      cases h2
      have:=np c ns h1
      rw [List.length_zip,h3,Nat.min_self] at this
      exact Nat.lt_irrefl _ this
     exact⟨C',ns,dx',vs,h1,by rw [zao ne];exact h2,h3,zae.mow fw _ _ h4⟩
    | _=>exact o.elim
 ·obtain⟨o,xs,rfl⟩:=Cs.st b u e
  exact fw b _ (r.cst b _ e) trivial
def tFs(K:PySem.W.Frag)(Ca:Addr)(i:Nat)(ns:List Str)(fa:AF):TS:=fun Dn σ H=>∃ ρ a dx fs ds ρ',Rel K ρ σ H/\σ[i]?=some (some (.ref a))/\H a=some (.ins Ca dx fs)/\(∀ n∈ns,fs.lookup n=none)/\ns.Nodup/\fs.length+ns.length<1000/\(∀ c ns',Cs.O c=some (Ca,ns')->ns'.length=fs.length+ns.length)/\fa ρ=.ok (ds,ρ') /\
 ∀ σ' H' vs,zae K H' ds vs->H' a=some (.ins Ca dx (fs++ns.zip vs))->(∀ b o,b≠a->H b=some o->¬ MA ρ σ b->H' b=some o)->Dn.nx σ' H'
theorem zjX{f:Str}{v:V}:∀{fs:List (Str×V)},fs.lookup f=none->zhN f v fs=fs++[(f,v)]
 | [],_=>rfl
 | (g,x)::r,h=>by
  rw [List.lookup_cons] at h
  have ne:(f==g)=false:=by
   cases q:f==g with
   | false=>rfl
   | true=>rw [q] at h;cases h
  rw [ne] at h
  unfold zhN
  rw [if_neg fun z=>by subst z;simp at ne,zjX h]
  rfl
theorem zqy{Ca:Addr}{i:Nat}:PSs X [] (tFs K Ca i [] zam):=ziY.weak fun Dn σ H=>by
 rintro⟨ρ,a,dx,fs,ds,ρ',rel,hs,ha,_,_,_,_,ef,q⟩
 cases ef
 exact q σ H [] (by simp [zae]) (by simpa using ha) fun b o _ e _=>e
theorem znW{Ca:Addr}{i:Nat}{n self:Str}{ns:List Str}{f:EF}{fa:AF}{e:Expr}{rest:List Stmt}{px pa pos:Pos}(hK:X.K=K)(hc:Cls K Ca)(na:zcL K Ca n)(hv:PE X (.Name self px) (zdX i))(he:PV K X e f)(hr:PSs X rest (tFs K Ca i ns fa))(hs:swapsWith e (some (.Attribute (.Name self px) n pa)) pos.line X.env=pure false:=by rfl) :
  PSs X (.Assign [.Attribute (.Name self px) n pa] e pos::rest) (tFs K Ca i (n::ns) (zab f fa)):=by
 subst hK
 refine(zcN (zsf hv (he rfl) hs) hr).weak fun Dn σ H=>?_
 rintro⟨ρ,a,dx,fs,ds,ρ',rel,hsg,ha,hn,nd,hlen,hO,ef,q⟩
 obtain⟨x,ex,ef⟩:=zai (show(f ρ).bind _=_ from ef)
 obtain⟨y,ey,ef⟩:=zai ef
 cases ef
 obtain⟨d,ρ1⟩:=x
 refine⟨ρ,rel,?_⟩
 rw [ex]
 intro H1 rel1 st1 v fz
 have nma:∀ b o,H b=some o->ztE o->¬ MA ρ σ b:=fun b o e s m=>by
  obtain⟨u,hu,ow⟩:=rel.zaO m
  rw [e] at hu
  cases hu
  exact ow.zcs s
 have ha1:H1 a=some (.ins Ca dx fs):=st1.kp a _ ha (nma a _ ha trivial)
 have ln:fs.lookup n=none:=hn n (List.mem_cons_self ..)
 have hp:=zjX (v:=v) ln
 rw [List.nodup_cons] at nd
 rw [List.length_cons] at hlen
 refine⟨.ref a,hsg,a,Ca,dx,fs,rfl,ha1,hc,na,by omega,?_⟩
 rw [hp]
 have part:Part Ca fs.length:=fun c ns' e=>by
  have:=hO c ns' e
  rw [List.length_cons] at this
  omega
 refine⟨ρ1,a,dx,fs++[(n,v)],y.1,y.2,rel1.ins ha1 part,hsg,zal,fun m hm=>?_,nd.2,by rw [List.length_append];simp;omega,fun c ns' e=>?_,ey,fun σ' H' vs fv ea kp=>?_⟩
 ·have ne:(m==n)=false:=by
   simp only [beq_eq_false_iff_ne]
   exact fun z=>nd.1 (z▸hm)
  rw [List.lookup_append,hn m (List.mem_cons_of_mem _ hm)]
  simp [List.lookup_cons,ne]
 ·rw [hO c ns' e,List.length_append];simp;omega
 ·have k1:∀ b o,b≠a->H1 b=some o->¬ MA ρ1 σ b->H' b=some o:=fun b o ne e n=>kp b o ne (by rw [zao ne];exact e) n
  have fw:Fzw H1 H':=fun b o e t=>k1 b o (fun z=>by subst z;rw [ha1] at e;cases e;exact t) e fun m=>by
   obtain⟨u,hu,ow⟩:=rel1.zaO m
   rw [e] at hu
   cases hu
   cases o <;> first|exact ow|exact t
  refine q σ' H' (v::vs) (by simp only [zae];exact⟨v,vs,rfl,Fz.mow fw d v fz,fv⟩) ?_ fun b o ne e nm=>k1 b o ne (st1.kp b o e nm) fun m=>nm (st1.ma.mpr m)
  rw [ea,List.zip_cons_cons,List.append_assoc]
  rfl
def sIn(s:SF)(g:AF):AF:=fun ρ=>(s ρ).bind fun x=>match x.1 with
 | .nx=>g x.2
 | _=>.bad
def tIn(K:PySem.W.Frag)(C:SC)(Ca:Addr)(ns:List Str)(g:AF):TS:=fun Dn σ H=>∃ ρ a dx ds ρ',zcI K C ρ σ H/\σ[0]?=some (some (.ref a))/\C.H₀ a=some (.ins Ca dx [])/\¬ MA C.ρ₀ C.σ₀ a/\ns.Nodup/\ns.length<1000/\(∀ c ns',Cs.O c=some (Ca,ns')->ns'.length=ns.length)/\g ρ=.ok (ds,ρ') /\
 ∀ σ' H' vs,zae K H' ds vs->H' a=some (.ins Ca dx (ns.zip vs))->(∀ b o,b≠a->C.H₀ b=some o->¬ MA C.ρ₀ C.σ₀ b->H' b=some o)->Dn.nx σ' H'
theorem zqi{C:SC}{Ca:Addr}{ns:List Str}{fa:AF}{sts:List Stmt}(h:PSs X sts (tFs K Ca 0 ns fa)):PSs X sts (tIn K C Ca ns fa):=h.weak fun Dn σ H=>by
 rintro⟨ρ,a,dx,ds,ρ',rel,hs,ha,nm,nd,hl,hO,eg,q⟩
 refine⟨ρ,a,dx,[],ds,ρ',rel.rel,hs,rel.keep a _ ha nm,fun n _=>rfl,nd,by simpa using hl,fun c ns' e=>by simpa using hO c ns' e,eg,fun σ' H' vs fv ea kp=>q σ' H' vs fv (by simpa using ea) fun b o ne e n=>?_⟩
 exact kp b o ne (rel.keep b o e n) (rel.zvd e n)
theorem zjY{C:SC}{Ca:Addr}{ns:List Str}{dom:List Nat}{s:SF}{g:AF}{st:Stmt}{rest:List Stmt}(hK:X.K=K)(h1:PSF K X dom st s)(h2:PSs X rest (tIn K C Ca ns g))(hd:0∉dom:=by decide):PSs X (st::rest) (tIn K C Ca ns (sIn s g)):=(zcN (h1 hK C) h2).weak fun Dn σ H=>by
 rintro⟨ρ,a,dx,ds,ρ',rel,hs,ha,nm,nd,hl,hO,eg,q⟩
 obtain⟨x,ex,eg⟩:=zai (show(s ρ).bind _=_ from eg)
 obtain⟨fl,ρ1⟩:=x
 cases fl with
 | nx =>
  refine⟨ρ,rel,?_⟩
  rw [ex]
  intro σ' H' r fz fm
  exact⟨ρ1,a,dx,ds,ρ',r,(fm 0 hd).trans hs,ha,nm,nd,hl,hO,eg,q⟩
 | _=>cases eg
end
def ztw(n N m:Nat)(g:AF)(ds:List D):R D :=
 if ds.length=n then(g (.no::(ds.map Sl.val++List.replicate (N-n-1) .no))).bind fun y=>chk (y.1.length==m) (.ok (.tuple y.1)) else .bad
section
variable [Cs]{P:Program}{w:World}{K:PySem.W.Frag}{mg:Str->Option Value}{base:Heap}
theorem zrc{x q:Str}{st:Stmt}{f Ca:Addr}{fd:FuncData}{N ps:List Str}{k n:Nat}{g:AF}{c:String}{ns:List Str}(ho:Cs.O c=some (Ca,ns))(huq:∀ c' ns',Cs.O c'=some (Ca,ns')->ns'.length=ns.length)(nd:ns.Nodup)(hns:ns.length<1000)(h:Fun K x q st f fd)(S:zbZ N ps (zak st))(hps:ps.length=n+1)(hpN:ps.length<=N.length)
  (hb:∀(C:SC) (cdv:Value) (A:Around) (outer:List Env) (s:Shared) (H:Hp) (E:XK),zbU k (A.deeper (envOfC q (zak st) s.heap.objs.size f cdv))->PSs (zjt (CXe P w) P w K mg base N q (zak st) f cdv A outer s H E) (zaB st) (tIn K C Ca ns g)) :
  zes P w K mg base (CXe P w) (k+1) f fd ps (spI K c Ca n (ztw n N.length ns.length g)):=by
 refine h.okE S (fun vs H Q E ⟨a,dx,us,ds,fs,e,hl,_⟩=>by rw [e,List.length_cons,hl,hps]) fun cdv A outer s H vs Q E hr hq=>?_
 obtain⟨a,dx,us,ds,fs,rfl,hl,ha,cst,fa,hF,q⟩:=hq
 have hd:ds.length=n:=by rw [<- fa.len,hl]
 unfold ztw at hF
 rw [if_pos hd] at hF
 obtain⟨y,ey,hF⟩:=zai hF
 have hy:y.1.length=ns.length/\y.1=fs:=by
  unfold chk at hF
  split at hF
  ·rename_i hh
   cases hF
   exact⟨beq_iff_eq.mp hh,rfl⟩
  ·cases hF
 obtain⟨hyl,rfl⟩:=hy
 obtain⟨ds',ρ'⟩:=y
 have hst:L2.start N (.ref a::us)=some (.ref a)::(us.map some++List.replicate (N.length-n-1) none):=by
  unfold L2.start
  rw [List.length_cons,hl,List.map_cons,List.cons_append,show N.length-(n+1)=N.length-n-1 by omega]
 have no:∀(i:Nat) p d,(Sl.no::(ds.map Sl.val++List.replicate (N.length-n-1) .no))[i]?≠some (.ow p d):=fun i p d e=>by
  rcases List.mem_cons.mp (List.mem_of_getElem? e) with m|m
  ·cases m
  ·rcases List.mem_append.mp m with m|m
   ·obtain⟨_,_,z⟩:=List.mem_map.mp m;cases z
   ·have:=List.eq_of_mem_replicate m;cases this
 have nma:∀ σ b,¬ MA (Sl.no::(ds.map Sl.val++List.replicate (N.length-n-1) .no)) σ b:=fun σ b ⟨i,⟨p,d,z⟩,_⟩=>no i p d z
 have r0:=(zjR cst fa).pad (N.length-n-1)
 refine⟨tIn K ⟨H,L2.start N (.ref a::us),Sl.no::(ds.map Sl.val++List.replicate (N.length-n-1) .no)⟩ Ca ns g,hb _ cdv A outer s H E hr,Sl.no::(ds.map Sl.val++List.replicate (N.length-n-1) .no),a,dx,ds',ρ',?_,by rw [hst];rfl,ha,nma _ a,nd,hns,huq,ey,fun σ' H' vs fv e kp=>?_⟩
 ·refine⟨?_,fun a o e _=>e,fun i a d e _=>absurd e (no i false d),fun i=>Iff.rfl,fun i d e=>rfl,fun i p d e=>absurd e (no i p d)⟩
  rw [hst]
  refine⟨by simpa using r0.len,fun i x v e1 e2=>?_,fun i j b ⟨⟨p,d,z⟩,_⟩=>absurd z (no i p d),cst⟩
  cases i with
  | zero=>simp at e1;subst e1;trivial
  | succ i=>exact r0.ok i x v (by simpa using e1) (by simpa using e2)
 ·refine q H' (fun b o ne e=>kp b o ne e (nma _ b)) ⟨Ca,ns,dx,vs,ho,e,?_,fv⟩
  rw [fv.len]
  exact hyl
end
end
end FL
namespace L2
open PySem PySem.Spec
open PySem.Builtin.Str (strSub)
variable {X:Cx}
end L2
namespace FL
open PySem L2 PySem.Spec
open PyProof.Rows hiding St
section
variable [Cs]
end
section
variable [Cs]
end
end FL
namespace L2
open PySem PySem.Spec
variable {X:Cx}{e:Expr}{te:TE}{pos:Pos}
end L2
namespace FL
open PySem L2 PySem.Spec
open PyProof.Rows hiding St
variable [Cs]
end FL
namespace L2
open PySem PySem.Spec
variable {X:Cx}
end L2
namespace FL
open PySem L2 PySem.Spec
open PyProof.Rows hiding St
section
variable [Cs]
end
section
variable [Cs]
end
end FL
namespace L2
open PySem PySem.Spec PyProof.Rows
end L2
namespace FL
open PySem L2 PySem.Spec
open PyProof.Rows hiding St
end FL
namespace L2
open PySem PySem.Spec PyProof.Rows PySem.W
end L2
namespace FL
open PySem L2 PySem.Spec
open PyProof.Rows hiding St
end FL
namespace L2
open PySem PySem.Spec PyProof.Rows PySem.W
section
def ziH(H:Hp)(k:WK)(v:V):Prop:=∃ b j ws,v=.ref b/\k.2=[j]/\TAt H b (.int k.1::.int j::ws)
def Prs(H:Hp):List WK->List V->Prop
 | [],vs=>vs=[]
 | k::ks,vs=>∃ v t,vs=v::t/\ziH H k v/\Prs H ks t
theorem Prs.len{H:Hp}:∀{ks:List WK} {vs:List V},Prs H ks vs->vs.length=ks.length
 | [],vs,h=>by have:vs=[]:=h;subst this;rfl
 | k::ks,vs,h=>by obtain⟨v,t,rfl,_,h2⟩:=h;simp [Prs.len h2]
theorem Prs.get{H:Hp}:∀{ks:List WK} {vs:List V} {i:Nat} {v:V},Prs H ks vs->vs[i]?=some v->ziH H (ks.getD i (0,[])) v
 | [],vs,i,v,h,e=>by have:vs=[]:=h;subst this;simp at e
 | k::ks,vs,i,v,h,e=>by
  obtain⟨u,t,rfl,h1,h2⟩:=h
  cases i with
  | zero=>simp at e;subst e;exact h1
  | succ i=>simpa using Prs.get h2 (i:=i) (by simpa using e)
section
variable {prog:Program}{w:World}{A:Around}{E:Value->Shared->Prop}{s:Shared}{b fin:Bool}{Q:Bool->Shared->Prop}
theorem zjq(p:Value)(h:Q true s):wpAny (model prog w) A (eqBool p p) Q E s:=by
 unfold eqBool
 refine wpAny_holding ?_
 rw [if_pos (beq_self_eq_true p)]
 exact wpAny_bind (wpAny_rule (wpAny_pure h))
theorem zke(h:Q fin s):∀(l:List Value) (i:Nat),KatLex prog w A b fin Q (l.zip l) i s
 | [],_=>kat_nil h
 | p::r,i=>kat_cons (zjq p (kat_yes (zke h r (i+1))))
end
section
variable {X:Cx}{pins:List (Addr×Obj)}{σ:L2.St}{H:Hp}{s:Shared}
theorem zhe(I:Inv X pins σ H s){k:WK}{v:V}{u:Value}(h:ziH H k v)(r:RelV v u) :
  ∃ b o n0 j,∃(tk tj:Tok) (rest:List Value),v=.ref b/\u=.ref b/\s.heap.get? b=some o/\o.cls=.type "tuple"/\o.data=.seq (.int k.1 tk::.int j tj::rest).toArray n0/\k.2=[j]:=by
 obtain⟨b,j,ws,rfl,hj,h1⟩:=h
 cases r
 obtain⟨its,rv,⟨o,ho,hc,n,hd⟩,_⟩:=I.tuple (.inl h1)
 cases rv with
 | cons r1 rv =>
  cases rv with
  | cons r2 rv =>
   obtain⟨tk,rfl⟩:=r1
   obtain⟨tj,rfl⟩:=r2
   exact⟨b,o,n,j,tk,tj,_,rfl,rfl,ho,hc,hd,hj⟩
theorem zqF(I:Inv X pins σ H s){k k':WK}{v v':V}{u u':Value}{C:Bool->Shared->Prop}{E:Value->Shared->Prop}(h:ziH H k v)(h':ziH H k' v')(r:RelV v u)(r':RelV v' u')(hu:k=k'->v=v')
  (q:C (ltK k k') s):wpAny (model X.prog X.w) X.A (keyLt' (tuples' true) u u') C E s:=by
 obtain⟨b,o,n0,j,tk,tj,rest,hv,rfl,ho,hc,hd,hj⟩:=zhe I h r
 obtain⟨b',o',n0',j',tk',tj',rest',hv',rfl,ho',hc',hd',hj'⟩:=zhe I h' r'
 refine kat_lt ho hd ho' hd' ?_
 unfold ltK at q
 by_cases e1:k.1=k'.1
 ·rw [if_pos e1,hj,hj'] at q
  by_cases e2:j=j'
  ·have ek:k=k':=by
    obtain⟨x,y⟩:=k
    obtain⟨x',y'⟩:=k'
    simp only at e1 hj hj'
    rw [e1,hj,hj',e2]
   have ev:=hu ek
   rw [hv,hv'] at ev
   cases ev
   rw [ho] at ho'
   cases ho'
   rw [hd] at hd'
   have el:(Value.int k.1 tk::.int j tj::rest)=(.int k'.1 tk'::.int j' tj'::rest'):=by
    injection hd' with h1 h2
    simpa using h1
   rw [<- el]
   rw [show HT.lexLt [j] [j']=false by rw [e2];simp [HT.lexLt]] at q
   refine zke ?_ _ _
   simpa using q
  ·rw [show HT.lexLt [j] [j']=decide (j<j') by simp [HT.lexLt,e2]] at q
   refine kat_cons (wpAny_eqBool_int ?_)
   rw [show(k.1==k'.1)=true from by simpa using e1]
   refine kat_yes (kat_cons (wpAny_eqBool_int ?_))
   rw [show(j==j')=false from by simpa using e2]
   exact kat_no (kat_one _ _ (lt_int q))
 ·rw [if_neg e1] at q
  refine kat_cons (wpAny_eqBool_int ?_)
  rw [show(k.1==k'.1)=false from by simpa using e1]
  exact kat_no (oneLt_int q)
end
end
section
theorem zun{α:Type}{l:List α}(h:l.Nodup){i j:Nat}(hi:i<l.length)(hj:j<l.length)(e:l[i]=l[j]):i=j:=by
 rcases Nat.lt_trichotomy i j with c|c|c
 ·exact absurd e (List.pairwise_iff_getElem.mp h i j hi hj c)
 ·exact c
 ·exact absurd e.symm (List.pairwise_iff_getElem.mp h j i hj hi c)
section
variable {X:Cx}{pins:List (Addr×Obj)}{σ:L2.St}{H:Hp}{s:Shared}{a d:Addr}{E:Value->Shared->Prop}
theorem zgq{us:List Value}{xs:List V}{kd:List WK}{n0:Nat}{P:PySem.Fin->Shared->Prop}(I:Inv X pins σ H s)(ho:s.heap.get? a=some (seqObj "list" us.toArray n0)) (hf:zhQ X pins H a) (rv:Vals xs us) (hl:us.length<64) (pk:Prs H kd xs) (nd:kd.Nodup)
  (hQ:∀(p:Array Nat) (s':Shared),Arr us.length p->Up (ltP kd) p us.length->Inv X pins σ (upd H a (.lst (p.toList.map fun i=>xs.getD i .non))) s'->P (.done (.ret .none)) s') :
  wpAny (model X.prog X.w) X.A (Builtin.«list.sort» ⟨[.ref a],[]⟩) P E s:=by
 have hxl:=rv.length
 have hkl:=pk.len
 have s1:=Heap.SameBut.update s.heap a (Obj.mapSeq fun _=>(#[]:Array Value))
 obtain⟨e1,ho1⟩:∃ e1,(s.heap.update a (Obj.mapSeq fun _=>(#[]:Array Value))).get? a=some (seqObj "list" #[] e1):=⟨_,get?_update_seq ho fun _=>#[]⟩
 rw [list_sort_plain]
 refine wpAny_bind (listItems_at ho rfl ?_)
 refine wpAny_bind (listUpdate_at ho rfl ?_ (by rw [List.size_toArray,sizeLine_eq];omega) (Nat.zero_le _))
 refine wpAny_bind (seqEpoch_at ho1 rfl ?_)
 refine wpAny_bind (wpAny_newTuple ?_ (by show us.length<=_;rw [sizeLine_eq];omega))
 refine wpAny_bind (wpAny_newList ?_ (Nat.zero_le _))
 refine wpAny_holding ?_
 have I1:Inv X pins σ H { s with heap:=s.heap.update a (Obj.mapSeq fun _=>(#[]:Array Value)) }:=I.turned (t':=s.toks) (fun b o hb e=>(s1.2 b hb).trans e) hf.1 hf.2.1 hf.2.2.2.1 hf.2.2.2.2.1 hf.2.2.2.2.2
 have k2:∀ b u,(s.heap.update a (Obj.mapSeq fun _=>(#[]:Array Value))).get? b=some u->(((s.heap.update a (Obj.mapSeq fun _=>(#[]:Array Value))).push (seqObj "tuple" us.toArray 0)).push (seqObj "list" #[] 0)).get? b=some u:=fun b u e=>Heap.get?_push_of_some _ (Heap.get?_push_of_some _ e)
 have I2:Inv X pins σ H { s with heap:=((s.heap.update a (Obj.mapSeq fun _=>(#[]:Array Value))).push (seqObj "tuple" us.toArray 0)).push (seqObj "list" #[] 0) }:=I1.kept (t':=s.toks) k2
 have ho2:=k2 a _ ho1
 generalize (((s.heap.update a (Obj.mapSeq fun _=>(#[]:Array Value))).push (seqObj "tuple" us.toArray 0)).push (seqObj "list" #[] 0))=h2' at I2 ho2 ⊢
 have fin:∀ p:Array Nat,Arr us.length p->Up (ltP kd) p us.length->P (.done (.ret .none)) { s with heap:=h2'.update a (Obj.mapSeq fun _=>List.toArray (p.toList.map fun i=>us.getD i Value.none)) }:=fun p ar up=>by
  have t2:=Heap.SameBut.update h2' a (Obj.mapSeq fun _=>List.toArray (p.toList.map fun i=>us.getD i Value.none))
  obtain⟨c2,hc2⟩:∃ c2,(h2'.update a (Obj.mapSeq fun _=>List.toArray (p.toList.map fun i=>us.getD i Value.none))).get? a=some (seqObj "list" (List.toArray (p.toList.map fun i=>us.getD i Value.none)) c2):=⟨_,get?_update_seq ho2 fun _=>List.toArray (p.toList.map fun i=>us.getD i Value.none)⟩
  have hps:p.size=us.length:=ar.sz
  refine hQ p _ ar up (I2.adopt (t':=s.toks) (fun b u hb e=>(t2.2 b hb).trans e) hf ?_)
  have mem:∀ i∈p.toList,i<us.length:=fun i hi=>by
   have:=(Array.perm_iff_toList_perm.mp ar.pm).mem_iff.mp hi
   simpa using this
  exact⟨by rw [List.length_map,Array.length_toList,hps,sizeLine_eq];omega,p.toList.map fun i=>us.getD i Value.none,c2,zjK p.toList rv mem,hc2⟩
 have osz:∀ p:Array Nat,Arr us.length p->(List.toArray (p.toList.map fun i=>us.getD i Value.none)).size=us.length:=fun p ar=>by rw [List.size_toArray,List.length_map,Array.length_toList,ar.sz]
 dsimp only
 by_cases h2:us.toArray.size<2
 ·rw [if_pos h2,if_pos h2]
  rw [List.size_toArray] at h2
  refine wpAny_bind (wpAny_pure ?_)
  rw [StateT.run_pure]
  refine wpAny_bind (wpAny_pure ?_)
  dsimp only
  have up:Up (ltP kd) (List.toArray (List.range us.length)) us.length:=fun i j hij hj=>by
   have:i=j:=by omega
   subst this
   exact(zvb kd).refl _
  have har:(arrOf (SortSt.mk' general' (us.toArray.zip us.toArray) #[] 7 none)).map (·.2)=List.toArray ((List.toArray (List.range us.length)).toList.map fun i=>us.getD i Value.none):=by
   show((us.toArray.zip us.toArray).map (·.2))=_
   apply Array.toList_inj.mp
   rw [Array.toList_map,ksk_zip]
   simp only [List.toList_toArray]
   rw [List.map_snd_zip (by omega)]
   apply List.ext_getElem (by simp)
   intro i h3 h4
   simp [List.getD_eq_getElem?_getD,List.getElem?_eq_getElem h3]
  rw [har]
  refine wpAny_bind (seqEpoch_at ho2 rfl ?_)
  refine wpAny_bind (listUpdate_at ho2 rfl ?_ (Nat.zero_le _) (Nat.le_trans (Nat.le_of_eq (osz _ (zpA _))) (by rw [sizeLine_eq];omega)))
  simp only [bne_self_eq_false,Bool.false_eq_true,if_false]
  exact wpAny_pure (fin _ (zpA _) up)
 ·rw [if_neg h2,if_neg h2]
  rw [List.size_toArray] at h2
  have tups:∀{ks:List WK} {kv:List V} {ds:List Value},Prs H ks kv->Vals kv ds->∃ fs:List Value,KatTups h2' ds fs/\fs.length=ds.length/\∀ v∈fs,∃ i t,v=Value.int i t:=by
   intro ks
   induction ks with
   | nil=>intro kv ds h r;have:kv=[]:=h;subst this;cases r;exact⟨[],.nil,rfl,fun v hv=>by simp at hv⟩
   | cons k r0 ih =>
    intro kv ds h r
    obtain⟨v,t,rfl,h1,h2⟩:=h
    cases r with
    | cons r1 r2 =>
     obtain⟨fs,t1,t2,t3⟩:=ih h2 r2
     obtain⟨b,o,n0,j,tk,tj,rest,_,rfl,g1,g2,g3,_⟩:=zhe I2 h1 r1
     refine⟨.int k.1 tk::fs,.cons g1 g2 g3 rfl t1,by simp [t2],fun v hv=>?_⟩
     rcases List.mem_cons.mp hv with rfl|hv
     ·exact⟨_,_,rfl⟩
     ·exact t3 v hv
  obtain⟨fs,kt,lfs,hfs⟩:=tups pk rv
  refine wpAny_bind (kat_kind (T:=.type "int") kt (by omega) (fun v hv=>by obtain⟨i,t,rfl⟩:=hfs v hv;exact Looks.of_pure rfl) (by decide) ?_)
  rw [show((Value.type "int" != Value.type "tuple"):Bool)=true from by decide]
  refine wpAny_bind (wpAny_mono (kat_run (E:=E) (vs:=us) (ks:=us) (κ:=tuples' true) (Q:=fun st' s2=>s2={ s with heap:=h2' }/\∃ p:Array Nat,Arr us.length p/\Up (ltP kd) p us.length/\arrOf st'=p.map (kas_item (us.toArray.zip us.toArray))/\failedOf st'=none) rfl (by omega) hl
   (G:=fun p s2=>s2={ s with heap:=h2' }/\Arr us.length p/\Up (ltP kd) p us.length) (fun p st' s2 a1 a2 a3 a4=>⟨a4.1,p,a4.2.1,a4.2.2,a2,a3⟩) ?_) ?_ fun _ _ z=>z)
  ·refine zpS (P:=fun s2=>s2={ s with heap:=h2' }) (zvb kd) (fun i j C s2 hi hj es hC=>?_) (by omega) rfl fun p s2 es ar up=>⟨es,ar,up⟩
   subst es
   have hget:∀ i,i<us.length->∃ v u,xs[i]?=some v/\RelV v u/\us.getD i Value.none=u:=fun i hi=>by
    have hi':i<xs.length:=by omega
    obtain⟨u,eu,ru⟩:=rv.get (List.getElem?_eq_getElem hi')
    exact⟨_,u,List.getElem?_eq_getElem hi',ru,by rw [List.getD_eq_getElem?_getD,eu];rfl⟩
   obtain⟨v,u,g1,g2,g3⟩:=hget i hi
   obtain⟨v',u',g1',g2',g3'⟩:=hget j hj
   show wpAny _ _ (keyLt' (tuples' true) (us.getD i Value.none) (us.getD j Value.none)) _ _ _
   rw [g3,g3']
   refine zqF I2 (pk.get g1) (pk.get g1') g2 g2' (fun ek=>?_) (hC _ rfl)
   have hi':i<kd.length:=by omega
   have hj':j<kd.length:=by omega
   rw [List.getD_eq_getElem?_getD,List.getD_eq_getElem?_getD,List.getElem?_eq_getElem hi',List.getElem?_eq_getElem hj'] at ek
   have:i=j:=zun nd hi' hj' ek
   subst this
   rw [g1] at g1'
   exact Option.some.inj g1'
  ·rintro⟨⟨⟩,st'⟩ s2 ⟨es,p,ar,up,har,hfl⟩
   have es':s2={ s with heap:=h2' }:=es
   subst es'
   dsimp only
   rw [kat_snds rfl har]
   refine wpAny_bind (seqEpoch_at ho2 rfl ?_)
   refine wpAny_bind (listUpdate_at ho2 rfl ?_ (Nat.zero_le _) (Nat.le_trans (Nat.le_of_eq (osz p ar)) (by rw [sizeLine_eq];omega)))
   rw [hfl]
   simp only [bne_self_eq_false,Bool.false_eq_true,if_false]
   exact wpAny_pure (fin p ar up)
end
end
section
section
variable {X:Cx}{pins:List (Addr×Obj)}{σ:L2.St}{H:Hp}{s:Shared}{d:Addr}
theorem zhA{Q:VK}{E:Value->Shared->Prop}{xs:List V}{kd:List WK}(I:Inv X pins σ H s)(sq:SqL X.K H d xs)(hn:xs.length<64)(pk:Prs H kd xs)(nd:kd.Nodup)
  (hq:∀(p:Array Nat) (a:Addr),Arr xs.length p->Up (ltP kd) p xs.length->H a=none->Q (.ref a) (upd H a (.lst (p.toList.map fun i=>xs.getD i .non)))) :
  wpAny (model X.prog X.w) X.A (call (.builtin "sorted") [.ref d]) (EP X pins σ Q) E s:=by
 obtain⟨us,rv,p,hz⟩:=I.list sq
 have hxl:=rv.length
 refine Calls.call_function_entry kind_sorted plain_sorted entry_sorted (args_sorted1 _) ?_
 unfold Builtin.«sorted»
 refine wpAny_bind (m:=checkCount "sorted" 1 1 _) (wpAny_pure ?_)
 refine wpAny_bind (collect_list p.isList ?_ (by rw [<- rv.length];exact hz))
 have keep:∀ b o,s.heap.get? b=some o->((s.heap.push (seqObj "list" #[] 0)).update s.heap.objs.size (Obj.mapSeq (·++us.toArray))).get? b=some o:=fun b o e =>
  ((Heap.SameBut.update ..).2 b (Nat.ne_of_lt (Heap.lt_size e))).trans (Heap.get?_push_of_some _ e)
 generalize (s.heap.push (seqObj "list" #[] 0)).update s.heap.objs.size (Obj.mapSeq (·++us.toArray))=h1 at keep ⊢
 have I1:Inv X pins σ H { s with heap:=h1 }:=I.kept (t':=s.toks) keep
 refine wpAny_bind (wpAny_newList ?_ (by rw [sizeLine_eq];omega))
 have hoL:(h1.push (seqObj "list" us.toArray 0)).get? h1.objs.size=some (seqObj "list" us.toArray 0):=Heap.get?_push_size _ rfl
 have I2:Inv X pins σ H { s with heap:=h1.push (seqObj "list" us.toArray 0) }:=I1.kept (s:={ s with heap:=h1 }) (t':=s.toks) fun b u e=>Heap.get?_push_of_some _ e
 have fa:zhQ X pins H h1.objs.size:=I1.znj (Nat.le_refl _) (I1.hok.fresh (Nat.le_refl _))
 refine wpAny_bind (wpAny_holding (wpAny_call_entry slot_list_sort ⟨_,hoL,rfl⟩ entry_list_sort ?body (args_list_sort _)))
 case body =>
  show wpAny (model X.prog X.w) X.in1.in1.A (Builtin.«list.sort» ⟨[.ref h1.objs.size],[]⟩) _ _ _
  refine zgq (X:=X.in1.in1) I2.in1.in1 hoL fa rv (by omega) pk nd fun p s' ar up I3=>⟨_,rfl,?_⟩
  exact wpAny_pure ⟨_,rfl,.ref h1.objs.size,_,I3.zrz.zrz,rfl,hq p _ (by rw [hxl];exact ar) (by rw [hxl];exact up) fa.1⟩
theorem zhB{Q:VK}{E:Value->Shared->Prop}(hc:X.calm=true)(I:Inv X pins σ H s)(rd:IsD H d)(hn:∀ xs,zng H d xs->xs.length<64)
  (h:∀ xs,zng H d xs->∃ kd,Prs H kd xs/\kd.Nodup/\∀(p:Array Nat) (a:Addr),Arr xs.length p->Up (ltP kd) p xs.length->H a=none->Q (.ref a) (upd H a (.lst (p.toList.map fun i=>xs.getD i .non)))) :
  wpAny (model X.prog X.w) X.A (call (.builtin "sorted") [.ref d]) (EP X pins σ Q) E s:=by
 refine Calls.call_function_entry kind_sorted plain_sorted entry_sorted (args_sorted1 _) ?_
 unfold Builtin.«sorted»
 refine wpAny_bind (m:=checkCount "sorted" 1 1 _) (wpAny_pure ?_)
 refine wpAny_bind (zoH (show X.A.in1.handled=none from I.ok.hd hc) I rd (fun xs h=>Nat.lt_trans (hn xs h) (by decide)) fun xs us s1 dk rv I1=>?_)
 have hx:=hn xs dk
 have hxl:=rv.length
 obtain⟨kd,pk,nd,hq⟩:=h xs dk
 refine wpAny_bind (wpAny_newList ?_ (by rw [sizeLine_eq];omega))
 have hoL:(s1.heap.push (seqObj "list" us.toArray 0)).get? s1.heap.objs.size=some (seqObj "list" us.toArray 0):=Heap.get?_push_size _ rfl
 have I2:Inv X pins σ H { s1 with heap:=s1.heap.push (seqObj "list" us.toArray 0) }:=I1.kept (t':=s1.toks) fun b u e=>Heap.get?_push_of_some _ e
 have fa:zhQ X pins H s1.heap.objs.size:=I1.znj (Nat.le_refl _) (I1.hok.fresh (Nat.le_refl _))
 refine wpAny_bind (wpAny_holding (wpAny_call_entry slot_list_sort ⟨_,hoL,rfl⟩ entry_list_sort ?body (args_list_sort _)))
 case body =>
  show wpAny (model X.prog X.w) X.in1.in1.A (Builtin.«list.sort» ⟨[.ref s1.heap.objs.size],[]⟩) _ _ _
  refine zgq (X:=X.in1.in1) I2.in1.in1 hoL fa rv (by omega) pk nd fun p s' ar up I3=>⟨_,rfl,?_⟩
  exact wpAny_pure ⟨_,rfl,.ref s1.heap.objs.size,_,I3.zrz.zrz,rfl,hq p _ (by rw [hxl];exact ar) (by rw [hxl];exact up) fa.1⟩
end
end
end L2
namespace FL
open PySem L2 PySem.Spec
open PyProof.Rows hiding St
section
def zqu:D->Option WK
 | .tuple (.int i::.int j::_)=>some (i,[j])
 | _=>none
def zgg:List D->Option (List WK)
 | []=>some []
 | d::r=>(zqu d).bind fun k=>(zgg r).map (k::·)
def zmB:D->R (List D)
 | .list l=>.ok l
 | .dict kvs=>.ok (kvs.map (·.1))
 | _=>.bad
def zeR(d:D):R D:=(zmB d).bind fun ks=>chk (leB (ks.length+1) 64) ((R.of (zgg ks)).bind fun ws=>chk (decide ws.Nodup) (.ok (.list ((zeS (ws.zip ks)).map (·.2)))))
section
variable [Cs]{K:PySem.W.Frag}{X:Cx}{H:Hp}
theorem zlU:∀{ks:List D} {ws:List WK},zgg ks=some ws->ws.length=ks.length
 | [],ws,h=>by cases h;rfl
 | d::r,ws,h=>by
  unfold zgg at h
  cases e:zqu d with
  | none=>rw [e] at h;cases h
  | some k =>
   rw [e] at h
   cases e2:zgg r with
   | none=>rw [e2] at h;cases h
   | some t=>rw [e2] at h;cases h;simp [zlU e2]
theorem zlN:∀{ks:List D} {ws:List WK} {xs:List V},zgg ks=some ws->zae K H ks xs->Prs H ws xs
 | [],ws,xs,h,f=>by cases h;simp only [zae] at f;exact f
 | d::r,ws,xs,h,f=>by
  unfold zgg at h
  cases e:zqu d with
  | none=>rw [e] at h;cases h
  | some k =>
   rw [e] at h
   cases e2:zgg r with
   | none=>rw [e2] at h;cases h
   | some t =>
    rw [e2] at h
    cases h
    simp only [zae] at f
    obtain⟨v,xr,rfl,fv,fr⟩:=f
    refine⟨v,xr,rfl,?_,zlN e2 fr⟩
    unfold zqu at e
    split at e
    ·cases e
     simp only [Fz,zae] at fv
     obtain⟨b,vs,rfl,tb,v1,r1,rfl,rfl,v2,r2,rfl,rfl,_⟩:=fv
     exact⟨b,_,r2,rfl,rfl,tb⟩
    ·cases e
theorem zmX(hc:X.calm=true):zc3 X (.builtin "sorted") (rDs X.K (one zeR)):=by
 intro pins s σ H xs us Q I r h
 obtain⟨ds,d,fa,e,q⟩:=h
 match ds,fa,e with
 | [x],fa,e =>
  simp only [zae] at fa
  obtain⟨v,_,rfl,fv,rfl⟩:=fa
  obtain⟨u,rfl,ru⟩:=vals1 r
  obtain⟨ks,ek,e⟩:=zai (show(zmB x).bind _=.ok d from e)
  obtain⟨cl,e⟩:=zaX e
  obtain⟨ws,ew,e⟩:=zai e
  obtain⟨cn,e⟩:=zaX e
  cases e
  have ew':=zj5 ew
  have hlen:=zeA cl
  have nd:ws.Nodup:=of_decide_eq_true cn
  have wl:=zlU ew'
  have fin:∀(ys:List V),zae X.K H ks ys->∀(p:Array Nat) (a:Addr),Arr ys.length p->Up (ltP ws) p ys.length->H a=none->∃ b vs,V.ref a=.ref b/\H b=none/\upd H a (.lst (p.toList.map fun i=>ys.getD i .non))=upd H b (.lst vs)/\zae X.K H ((zeS (ws.zip ks)).map (·.2)) vs:=fun ys fy p a ar up ha=>by
   have yl:=fy.len
   refine⟨a,_,rfl,ha,rfl,?_⟩
   rw [<- zls wl nd (by rw [<- yl];exact ar) (by rw [<- yl];exact up)]
   refine fy.pick p.toList fun i hi=>?_
   have:=(Array.perm_iff_toList_perm.mp ar.pm).mem_iff.mp hi
   rw [<- yl]
   simpa using this
  have go:wpAny (model X.prog X.w) X.A (call (.builtin "sorted") [u]) (EP X pins σ fun v H1=>∃ b vs,v=.ref b/\H b=none/\H1=upd H b (.lst vs)/\zae X.K H ((zeS (ws.zip ks)).map (·.2)) vs) X.xe s:=by
   cases x with
   | list l =>
    cases ek
    simp only [Fz] at fv
    obtain⟨a,ys,rfl,sx,fy⟩:=fv
    cases ru
    exact zhA I sx.sq (by rw [fy.len];omega) (zlN ew' fy) nd (fin ys fy)
   | dict kvs =>
    cases ek
    have fv':=fv
    simp only [Fz] at fv'
    obtain⟨a,o,rfl,_⟩:=fv'
    cases ru
    exact zhB hc I (zs3 fv) (fun ys dk=>by rw [(zhv fv dk).len];exact hlen) fun ys dk=>⟨ws,zlN ew' (zhv fv dk),nd,fin ys (zhv fv dk)⟩
   | _=>cases ek
  refine thn go fun w s' z=>?_
  obtain⟨v,H1,I1,rv,b,vs,rfl,hb,rfl,fz⟩:=z
  exact ziu fz q ⟨_,_,I1,rv,b,rfl,hb,rfl⟩
 | [],_,e=>exact nomatch (show(R.bad:R D)=.ok d from e)
 | _::_::_,_,e=>exact nomatch (show(R.bad:R D)=.ok d from e)
end
end
section
def ztv(i:Nat)(f k l:EF):SF:=fun ρ=>(f ρ).bind fun x=>match x.1 with
 | .tuple [a,b]=>(setM i (eC a) k x.2).bind fun y=>setM i (eC b) l y.2
 | _=>.bad
section
variable [Cs]{K:PySem.W.Frag}{X:Cx}
theorem zpp{C:SC}{ρ:En}{σ:L2.St}{H:Hp}{i:Nat}{d:D}{v:V}{k:EF}{t:Fl×En->R (Fl×En)}{Dn:Ends}{S:L2.St->Hp->Prop}(rel:zcI K C ρ σ H)(fz:Fz K H d v)(g:zbz K C H ((setM i (eC d) k ρ).bind t) Dn)
  (h:∀ ρ' H',zcI K C ρ' σ H'->Fzn H H'->zbz K C H' (t (.nx,ρ')) Dn->S σ H'):zvi (zdX i) (tV K k) zrX v σ H S:=by
 have g0:zbz K C H ((zbE ρ i).bind fun _=>((k ρ).bind fun y=>(zbE y.2 i).bind fun c=>(match y.1 with
  | .int j=>(R.of (FL.ixN c.length j)).bind fun n=>.ok (.nx,zay y.2 i (.list (c.set n d)))
  | _=>.bad)).bind t) Dn:=by
  have e:(setM i (eC d) k ρ).bind t=(zbE ρ i).bind fun _=>((k ρ).bind fun y=>(zbE y.2 i).bind fun c=>(match y.1 with
   | .int j=>(R.of (FL.ixN c.length j)).bind fun n=>.ok (.nx,zay y.2 i (.list (c.set n d)))
   | _=>.bad)).bind t:=by
   show((zbE ρ i).bind _).bind t=_
   cases zbE ρ i <;> rfl
  rw [<- e];exact g
 obtain⟨d0,ed,g2⟩:=g0.bnd
 obtain⟨a,vs0,at0,h0,_⟩:=rel.rel.ztz ed
 have g2':zbz K C H ((k ρ).bind fun y=>((zbE y.2 i).bind fun c=>(match y.1 with
  | .int j=>(R.of (FL.ixN c.length j)).bind fun n=>.ok (.nx,zay y.2 i (.list (c.set n d)))
  | _=>.bad)).bind t) Dn:=by
  cases ek:k ρ with
  | ok y=>rw [ek] at g2;exact g2
  | bad=>rw [ek] at g2;exact g2
  | err c f=>rw [ek] at g2;exact g2
 refine⟨.ref a,at0.2,zjj rel g2' fun dk ρ2 kv H2 rel2 st2 fk g3=>?_⟩
 obtain⟨z,ez,g4⟩:=g3.bnd
 obtain⟨c,ec,ez⟩:=zai ez
 obtain⟨vs,at1,h1,h2⟩:=rel2.rel.zuq ec at0
 cases dk with
 | int j =>
  obtain⟨n,en,ez⟩:=zai (show(R.of (FL.ixN c.length j)).bind _=.ok z from ez)
  cases ez
  simp only [Fz] at fk
  subst fk
  have st:Stp ρ2 (zay ρ2 i (.list (c.set n d))) σ H2 (upd H2 a (.lst (vs.set n v))):=zgY at1
  have m:zby K (upd H2 a (.lst (vs.set n v))) a (.list (c.set n d)):=⟨_,zal,(h2.set n (fz.mono (st2.fzn rel.rel))).mono (zmI rel2 at1)⟩
  refine⟨a,vs,j,n,rfl,rfl,h1,?_,h _ _ (rel2.step (rel2.rel.zu9 at1 m) st) ((st2.fzn rel.rel).trans (st.fzn rel2.rel)) (g4.step (st.fzn rel2.rel))⟩
  rw [h2.len]
  cases e2:FL.ixN c.length j with
  | none=>rw [e2] at en;cases en
  | some m=>rw [e2] at en;cases en;exact e2
 | _=>cases ez
theorem zp3{y:Str}{py py' p1 p2 pt pos:Pos}{k1 l1 e:Expr}{kt:Nat}{f k l:EF}(i:Nat)(hc:X.calm=true)(ha:PE X (.Name y py) (zdX i))(ha':PE X (.Name y py') (zdX i))(he:PV K X e f)(hk:PV K X k1 k)(hl:PV K X l1 l)
  (has:∀ v,assign (.Subscript (.Name y py) k1 p1) X.env v=(do
   let ov <- holding [v] (eval (.Name y py) X.env)
   let iv <- holding [v,ov] (eval k1 X.env)
   standAt p1
   holding [v,ov,iv] (setItem ov iv v)
   release [v,ov,iv] []):=by intro _;rfl)
  (has':∀ v,assign (.Subscript (.Name y py') l1 p2) X.env v=(do
   let ov <- holding [v] (eval (.Name y py') X.env)
   let iv <- holding [v,ov] (eval l1 X.env)
   standAt p2
   holding [v,ov,iv] (setItem ov iv v)
   release [v,ov,iv] []):=by intro _;rfl)
  (q1:(assignEach [.Subscript (.Name y py') l1 p2] X.env).map (·.2)=assign (.Subscript (.Name y py') l1 p2) X.env::(assignEach [] X.env).map (·.2):=by rfl)
  (q2:(assignEach [.Subscript (.Name y py) k1 p1,.Subscript (.Name y py') l1 p2] X.env).map (·.2)=assign (.Subscript (.Name y py) k1 p1) X.env::(assignEach [.Subscript (.Name y py') l1 p2] X.env).map (·.2):=by rfl)
  (hn:(assignEach [.Subscript (.Name y py) k1 p1,.Subscript (.Name y py') l1 p2] X.env).length=2:=by rfl)(hst:(assignEach [.Subscript (.Name y py) k1 p1,.Subscript (.Name y py') l1 p2] X.env).findIdx? (·.1)=none:=by rfl)
  (hs:swapsWithSole [.Tuple [.Subscript (.Name y py) k1 p1,.Subscript (.Name y py') l1 p2] kt pt] e pos.line X.env=pure false:=by rfl)(hw:swappedStores [.Tuple [.Subscript (.Name y py) k1 p1,.Subscript (.Name y py') l1 p2] kt pt] e X.env=pure none:=by rfl)
  (h1:(assignEach [.Tuple [.Subscript (.Name y py) k1 p1,.Subscript (.Name y py') l1 p2] kt pt] X.env).map (·.2)=[assign (.Tuple [.Subscript (.Name y py) k1 p1,.Subscript (.Name y py') l1 p2] kt pt) X.env]:=by rfl) :
  PSV K X (.Assign [.Tuple [.Subscript (.Name y py) k1 p1,.Subscript (.Name y py') l1 p2] kt pt] e pos) (ztv i f k l):=.mk fun hK C=>by
 subst hK
 refine(zlL (he rfl) (zlY hc (zdq (zlZ ha (hk rfl) set_list has) (zdq (zlZ ha' (hl rfl) set_list has') zi0 q1) q2) hn hst) hs hw h1).weak fun Dn σ H=>?_
 rintro⟨ρ,rel,g⟩
 refine zjj rel g fun d ρ1 v H1 rel1 st1 fz g1=>?_
 cases d with
 | tuple ds =>
  rcases ds with _|⟨a,_|⟨b,_|⟨c,r⟩⟩⟩
  ·exact g1.elim
  ·exact g1.elim
  ·replace g1:zbz X.K C H1 ((setM i (eC a) k ρ1).bind fun y=>setM i (eC b) l y.2) Dn:=g1
   simp only [Fz,zae] at fz
   obtain⟨t,vs,rfl,tt,va,_,rfl,fa,vb,_,rfl,fb,rfl⟩:=fz
   refine⟨t,[va,vb],rfl,.inl tt,rfl,va,[vb],rfl,?_⟩
   refine zpp rel1 fa g1 fun ρ2 H2 rel2 z2 g2=>⟨vb,[],rfl,?_⟩
   have eb:(setM i (eC b) l ρ2).bind (fun y=>.ok y)=setM i (eC b) l ρ2:=by
    generalize setM i (eC b) l ρ2=z
    cases z <;> rfl
   have g2':zbz X.K C H2 ((setM i (eC b) l ρ2).bind fun y=>.ok y) Dn:=by
    rw [eb]
    exact g2
   exact zpp rel2 (fb.mono z2) g2' fun ρ3 H3 rel3 z3 g3=>⟨rfl,g3 σ H3 rel3 (Fzn.refl H3)⟩
  ·exact g1.elim
 | _=>exact g1.elim
end
end
end FL
namespace FL
open PySem L2 PySem.Spec PySem.W
section
section
variable {cs:List Addr}{K:PySem.W.Frag}
theorem zn8(s:zf9 cs K){ns:Addr}{name:Str}{r:Option Value}(e:nsIn K ns name=some r):nsIn (zcw cs K) ns name=some r:=by
 unfold nsIn at e ⊢
 split at e
 ·rename_i c d es n sl ho
  rw [zbN s ho fun _ _ z=>nomatch z]
  exact e
 ·cases e
theorem zl3(s:zf9 cs K){name:Str}{c:Value}{r:Option Value}(e:ownIn K name c=some r):ownIn (zcw cs K) name c=some r:=by
 cases c with
 | ref a =>
  unfold ownIn at e ⊢
  simp only at e ⊢
  split at e
  ·rename_i x y cd sl ho
   rw [zbN s ho fun _ _ z=>nomatch z]
   exact zn8 s e
  ·cases e
 | _=>exact e
theorem zf7(s:zf9 cs K){name:Str}:∀{l:List Value} {r:Option Value},alongIn K name l=some r->alongIn (zcw cs K) name l=some r
 | [],r,e=>e
 | c::l,r,e=>by
  unfold alongIn at e ⊢
  cases h:ownIn K name c with
  | none=>rw [h] at e;cases e
  | some o =>
   rw [h] at e
   rw [zl3 s h]
   cases o with
   | some v=>exact e
   | none=>exact zf7 s e
theorem zbY(s:zf9 cs K){t:Value}{name:Str}{r:Option Value}(e:findIn K t name=some r):findIn (zcw cs K) t name=some r:=by
 cases t with
 | ref a =>
  unfold findIn at e ⊢
  simp only at e ⊢
  split at e
  ·rename_i x y cd sl ho
   rw [zbN s ho fun _ _ z=>nomatch z]
   exact zf7 s e
  ·cases e
 | _=>exact e
theorem zh6(s:zf9 cs K){C:Addr}{n:Str}(e:plainGet K C n=true):plainGet (zcw cs K) C n=true:=by
 unfold plainGet at e ⊢
 rw [Bool.and_eq_true] at e ⊢
 exact⟨by rw [zbY s (eq_of_beq e.1)];decide,by rw [zbY s (eq_of_beq e.2)];rfl⟩
theorem ziz(s:zf9 cs K){C:Addr}{p:ClassData->Bool}(e:(clsIn K C).any p=true):(clsIn (zcw cs K) C).any p=true:=by
 unfold clsIn at e ⊢
 split at e
 ·rename_i x y cd sl ho
  rw [zbN s ho fun _ _ z=>nomatch z]
  exact e
 ·cases e
theorem Cls.cut(s:zf9 cs K){C:Addr}(h:Cls K C):Cls (zcw cs K) C:=⟨zh6 s h.pg,ziz s h.hd,ziz s h.po,zbY s h.sa⟩
theorem zcL.cut(s:zf9 cs K){C:Addr}{f:Str}(h:zcL K C f):zcL (zcw cs K) C f:=zbY s h
end
end
section
section
variable {cs:List Addr}{K:PySem.W.Frag}
theorem zeu(s:zf9 cs K){a:Addr}{o:Obj}(l:K.lookup a=some o)(n:∀ its m,o.data≠.seq its m){t:Value}(e:typeIn K (.ref a)=some t):typeIn (zcw cs K) (.ref a)=some t:=by
 unfold typeIn at e ⊢
 simp only at e ⊢
 rw [zbN s l n]
 rw [l] at e
 exact e
theorem zdZ(s:zf9 cs K){a:Addr}{o:Obj}(l:K.lookup a=some o)(n:∀ its m,o.data≠.seq its m){name:Str}{r:Option Value}(e:specialIn K (.ref a) name=some r):specialIn (zcw cs K) (.ref a) name=some r:=by
 obtain⟨t,e1,e2⟩:=Option.bind_eq_some_iff.mp e
 exact Option.bind_eq_some_iff.mpr ⟨t,zeu s l n e1,zbY s e2⟩
theorem zlp(s:zf9 cs K){t b:Value}{r:Bool}(e:subIn K t b=some r):subIn (zcw cs K) t b=some r:=by
 cases t with
 | ref D =>
  unfold subIn mroIn at e ⊢
  simp only at e ⊢
  obtain⟨cd,e1,e2⟩:=Option.bind_eq_some_iff.mp e
  refine Option.bind_eq_some_iff.mpr ⟨cd,?_,e2⟩
  unfold clsIn at e1 ⊢
  split at e1
  ·rename_i x y cd' sl ho
   rw [zbN s ho fun _ _ z=>nomatch z]
   exact e1
  ·cases e1
 | _=>exact e
theorem zk0(s:zf9 cs K){a:Addr}{o:Obj}(l:K.lookup a=some o)(n:∀ its m,o.data≠.seq its m){b:Value}{r:Bool}(e:instIn K (.ref a) b=some r):instIn (zcw cs K) (.ref a) b=some r:=by
 obtain⟨t,e1,e2⟩:=Option.bind_eq_some_iff.mp e
 exact Option.bind_eq_some_iff.mpr ⟨t,zeu s l n e1,zlp s e2⟩
theorem zkf(s:zf9 cs K){f:Addr}{o:Obj}(l:K.lookup f=some o)(n:∀ its m,o.data≠.seq its m)(e:isFn K (.ref f)=true):isFn (zcw cs K) (.ref f)=true:=by
 unfold isFn at e ⊢
 rw [zeu s l n (eq_of_beq e)]
 decide
theorem zgA(s:zf9 cs K){f:Addr}(e:keepIn K (.ref f)=true):keepIn (zcw cs K) (.ref f)=true:=by
 unfold keepIn at e ⊢
 simp only at e ⊢
 split at e
 ·rename_i ho
  rw [zbN s ho fun _ _ z=>nomatch z]
 ·rename_i ho
  rw [zbN s ho fun _ _ z=>nomatch z]
  simp only
  rw [zdZ s ho (fun _ _ z=>nomatch z) (eq_of_beq e)]
  decide
 ·cases e
theorem Meth.cut(s:zf9 cs K){C f:Addr}{m:Str}{oc:Value}{od:Option Addr}{fd:FuncData}{sl:Array (Option Value)}(l:K.lookup f=some ⟨oc,od,.func fd,sl⟩)(h:Meth K C m f):Meth (zcw cs K) C m f :=
 ⟨zbY s h.at_,zkf s l (fun _ _ z=>nomatch z) h.fn,zgA s h.kp⟩
theorem zja(s:zf9 cs K){C:Addr}(e:makesIn K C=true):makesIn (zcw cs K) C=true:=by
 unfold makesIn at e ⊢
 split at e
 ·rename_i x y cd sl ho
  rw [zbN s ho fun _ _ z=>nomatch z]
  simp only [Bool.and_eq_true] at e ⊢
  obtain⟨⟨e1,e2⟩,e3⟩:=e
  refine⟨⟨e1,?_⟩,?_⟩
  ·rw [zdZ s ho (fun _ _ z=>nomatch z) (eq_of_beq e2)];decide
  ·rw [zk0 s ho (fun _ _ z=>nomatch z) (eq_of_beq e3)];decide
 ·cases e
theorem Mk.cut(s:zf9 cs K){C f:Addr}{oc:Value}{od:Option Addr}{fd:FuncData}{sl:Array (Option Value)}(l:K.lookup f=some ⟨oc,od,.func fd,sl⟩)(h:Mk K C f):Mk (zcw cs K) C f :=
 ⟨zja s h.makes,zbY s h.init,zkf s l (fun _ _ z=>nomatch z) h.fn,zgA s h.kp⟩
end
end
end FL
namespace FL
open PySem L2 PySem.Spec
open PyProof.Rows hiding St
section
def zu4(ρ0 ρ1:En)(d:D)(it j:Nat)(dead dom:List Nat):Prop :=
 (∀(i:Nat) x,ρ1[i]?=some x->i=it\/i=j\/i∈dead\/x=.no\/(∃ c,x=.val c/\ρ0[i]?=some (.val c)/\i∉dom)\/∃(p:Bool) (ns:List Int),x=.ow p (.list (ns.map PyData.int))) /\
 (∀(i:Nat) p c,i=it\/i=j\/i∈dead->ρ1[i]?≠some (.ow p c))/\j<ρ1.length/\(∀ i∈dead,i<ρ1.length) /\
 ∃ rows:List (List (List Int)),d=.list (rows.map fun r=>.list (r.map fun q=>.tuple (q.map PyData.int)))
def kill(ks:List Nat)(ρ:En):En:=ρ.mapIdx fun i x=>if i∈ks then .no else x
def zuM(ρ:En)(d:D)(it j:Nat)(dead:List Nat):En:=(kill (it::dead) ρ).set j (.val d)
open Classical in
noncomputable def zwf(f:EF)(it j:Nat)(dead dom:List Nat)(t:SF)(ρ0:En):SF:=fun ρ=>(f ρ).bind fun y=>if zu4 ρ0 y.2 y.1 it j dead dom then t (zuM y.2 y.1 it j dead) else .bad
def LL(d:D):Prop:=∃ rows:List (List D),d=.list (rows.map PyData.list)
open Classical in
noncomputable def zvC(it:Nat)(f:EF)(g:En->SF):SF:=fun ρ=>(f ρ).bind fun y=>if LL y.1 then(gN it y.1 y.2).bind fun ρ1=>g ρ ρ1 else .bad
variable [Cs]
section
variable {K:PySem.W.Frag}{X:Cx}{it j:Nat}{dom dead:List Nat}{st:Stmt}{rest:List Stmt}{s t:SF}{g:En->SF}{e:Expr}{f:EF}{pos:Pos}
theorem zkd{ks:List Nat}{ρ:En}{i:Nat}:(kill ks ρ)[i]?=(ρ[i]?).map fun x=>if i∈ks then .no else x:=by unfold kill;rw [List.getElem?_mapIdx]
theorem zok{ks:List Nat}{ρ:En}:(kill ks ρ).length=ρ.length:=by unfold kill;simp
theorem zae.chg{H H':Hp}:∀{ds:List D} {vs:List V},(∀ q∈ds.zip vs,Fz K H q.1 q.2->Fz K H' q.1 q.2)->zae K H ds vs->zae K H' ds vs
 | [],vs,_,h=>by simp only [zae] at h ⊢;exact h
 | d::ds,vs,k,h=>by
  simp only [zae] at h ⊢
  obtain⟨v,r,rfl,h1,h2⟩:=h
  exact⟨v,r,rfl,k (d,v) (by simp) h1,zae.chg (fun q hq=>k q (by simp only [List.zip_cons_cons,List.mem_cons];exact .inr hq)) h2⟩
theorem zae.zuy{H H':Hp}{ns:List Int}{vs:List V}(h:zae K H (ns.map PyData.int) vs):zae K H' (ns.map PyData.int) vs:=h.chg fun q hq z=>by
 obtain⟨i,_,e⟩:=List.mem_map.mp (List.of_mem_zip (a:=q.1) (b:=q.2) hq).1
 rw [<- e] at z ⊢
 simp only [Fz] at z ⊢
 exact z
end
end
section
variable [Cs]
section
variable {K:PySem.W.Frag}{X:Cx}{x:Str}{p pos:Pos}{e:Expr}{f:EF}
theorem zr1(hm:X.mg x=none)(hv:bootBuiltins x=some (.type "list")) (ha:PV K X e f) (hg:Gl X x:=by rfl) (hn:x ≠ "__name__":=by decide) (hdb:(x==("__debug__":Str))=false:=by decide)
  (he:starEach [e] X.env=(false,eval e X.env)::starEach [] X.env:=by exact FL.se rfl) (hpl:(backTo pos (starEach [] X.env)).any (·.1)=false:=by exact FL.sp rfl):PVN K X (.Call (.Name x p) [e] [] pos) (e1 zdM f):=.mk fun hK=>by
 subst hK
 refine(zfD zdj hg hm hv (zbc (ha rfl) zdB he) hn hdb he hpl).weak fun σ H Q=>?_
 rintro⟨ρ,rel,q⟩
 refine goV rel q fun dx ρ1 v H1 rel1 st1 fx q1=>?_
 obtain⟨d,ed,q2⟩:=q1.zc0
 have key:∃ a ys l,v=.ref a/\(SqL X.K H1 a ys\/SqT X.K H1 a ys)/\zae X.K H1 l ys/\d=.list l:=by
  cases dx with
  | list l =>
   obtain⟨a,ys,e1,e2,e3⟩:=fx.tp.lst
   cases ed
   exact⟨a,ys,l,e1,.inl e2,e3,rfl⟩
  | tuple l =>
   obtain⟨a,ys,e1,e2,e3⟩:=fx.tp.tup
   cases ed
   exact⟨a,ys,l,e1,.inr e2,e3,rfl⟩
  | _=>exact nomatch (show(R.bad:R D)=.ok d from ed)
 obtain⟨a,ys,l,rfl,hs,fa,rfl⟩:=key
 exact⟨a,ys,rfl,hs,fun b hb=>q2.new rel1 (zaM.upd hb) b (st1.none rel1 hb) ⟨ys,zal,fa.mono (Fzn.of (zaM.upd hb))⟩⟩
end
end
section
structure Ob[Cs](K:PySem.W.Frag)(c:String)(C:Addr)(ns:List Str):Prop where
 o:Cs.O c=some (C,ns)
 c:Cls K C
 na:∀ f∈ns,zcL K C f
 nd:ns.Nodup
def Maker[Cs](P:Program)(w:World)(K:PySem.W.Frag)(mg:Str->Option Value)(base:Heap)(x:Str)(c:String)(k:Nat)(ps:List Str)(n:Nat)(G:List D->R D):Prop :=
 ∃(C f:Addr) (fd:FuncData),mg x=some (.ref C)/\Mk K C f/\Binds K fd ps []/\zes P w K mg base (CXe P w) k f fd ps (spI K c C n G)
section
variable [Cs]{K:PySem.W.Frag}{X:Cx}{x f:Str}{px pos p pos':Pos}{c:String}{C:Addr}{ns:List Str}{k j n:Nat}{ps:List Str}{e:Expr}{es:List Expr}{G:List D->R D}{fa:AF}{ks:List (Option String)}
theorem zfA(i j:Nat)(B:Ob K c C ns)(hj:ns[j]?=some f:=by rfl)(hv:PE X (.Name x px) (zdX i):=by exact pv _)(hb:attributeBase (.Name x px) f X.env (eval (.Name x px) X.env)=eval (.Name x px) X.env:=by rfl):PV K X (.Attribute (.Name x px) f pos) (zdi i c j) :=
 zqc B.o hj B.nd B.c (B.na f (List.mem_of_getElem? hj)) hv hb
theorem zue(i:Nat)(hr:PAO K X ks es fa)(hv:PE X (.Name x px) (zdX i):=by exact pv _)(hs:starEach (.Name x px::es) X.env=(false,eval (.Name x px) X.env)::starEach es X.env:=by exact FL.se rfl):PAO K X (some c::ks) (.Name x px::es) (aOb i c fa):=zsu hv hr hs
theorem zt8(cc:Callee X.prog X.w X.K X.mg X.base x k ps (spO X.K ks false G))(hr:zbU j X.A)(ha:PAO K X ks (e::es) fa)(hg:Gl X x:=by rfl)(hj:k<=j:=by decide)(hdb:(x==("__debug__":Str))=false:=by decide)
  (he:starEach (e::es) X.env=(false,eval e X.env)::starEach es X.env:=by exact FL.se rfl) (hpl:(backTo pos (starEach es X.env)).any (·.1)=false:=by exact FL.sp rfl):PV K X (.Call (.Name x p) (e::es) [] pos) (zaj G fa):=znO cc hr hg zey ha hj hdb he hpl
theorem zr0(m:Maker X.prog X.w X.K X.mg X.base x c k ps n G)(hr:zbU j X.A)(ha:PVA K X (e::es) fa)(hl:zoU fa n:=by repeat (first|exact zfo|refine zel ?_))(hg:Gl X x:=by rfl)(hj:k+1<=j:=by decide)(hdb:(x==("__debug__":Str))=false:=by decide)
  (he:starEach (e::es) X.env=(false,eval e X.env)::starEach es X.env:=by exact FL.se rfl) (hpl:(backTo pos (starEach es X.env)).any (·.1)=false:=by exact FL.sp rfl):PVB K X c (.Call (.Name x p) (e::es) [] pos) (eMk G fa):=by
 obtain⟨C,f,fd,hm,M,hb,F⟩:=m
 exact znG M F (hr.mono hj) hg hm hb zey ha hl hdb he hpl
theorem zql{dom:List Nat}{st:Stmt}:PSF K X dom st zgs:=fun _ C=>zj1.weak fun Dn σ H=>by
 rintro⟨ρ,rel,g⟩
 exact g.elim
theorem zsm{i:Nat}{self:Str}{pa:Pos}{n':Str}{nr:List Str}{f:EF}{rest:List Stmt}(B:Ob K c C ns)(hK:X.K=K)(hn:n'∈ns)(he:PV K X e f)(hr:PSs X rest (tFs K C i nr fa))(hv:PE X (.Name self px) (zdX i):=by exact pv _)(hs:swapsWith e (some (.Attribute (.Name self px) n' pa)) pos.line X.env=pure false:=by rfl) :
  PSs X (.Assign [.Attribute (.Name self px) n' pa] e pos::rest) (tFs K C i (n'::nr) (zab f fa)):=znW hK B.c (B.na n' hn) hv he hr hs
end
abbrev CTO[Cs](x:Str)(k:Nat)(ps:List Str)(ks:List (Option String))(fr:Bool)(G:List D->R D)(P:Program)(w:World)(K:PySem.W.Frag)(mg:Str->Option Value)(base:Heap):Prop:=Callee P w K mg base x k ps (spO K ks fr G)
abbrev CTI[Cs](x:Str)(c:String)(k:Nat)(ps:List Str)(n:Nat)(G:List D->R D)(P:Program)(w:World)(K:PySem.W.Frag)(mg:Str->Option Value)(base:Heap):Prop:=Maker P w K mg base x c k ps n G
section
variable [Cs]{P:Program}{w:World}{K:PySem.W.Frag}{mg:Str->Option Value}{base:Heap}{x q:Str}{st:Stmt}{ps:List Str}{k n:Nat}{b:SF}{c:String}{C f:Addr}{ns:List Str}{fd:FuncData}{g:AF}
theorem fnO(ks:List (Option String))(fr:Bool)(N:List Str)(h:Has K mg x st)
  (hb:∀{f:Addr} {cdv:Value} {A:Around} {outer:List Env} {s:Shared} {H:Hp} {E:XK},zbU k (A.deeper (envOfC x (zak st) s.heap.objs.size f cdv))->N.Nodup->zga K (zjt (CXe P w) P w K mg base N x (zak st) f cdv A outer s H E).nox (zaB st) b)
  (S:zbZ N ps (zak st):=by exact⟨rfl,rfl,rfl,by decide +kernel,rfl,by decide +kernel,by decide +kernel⟩)(hps:ps.length=ks.length:=by rfl)(hpN:ps.length<=N.length:=by decide)
  (hbi:∀(kV doc pm:Value) (an:Option Addr) (cdv ct:Value) (us:List Value),us.length=ps.length->bindArgs (PySem.W.fnOf x x (zbM st) (zaB st) (zak st) .none kV doc pm an cdv ct) ⟨us,[]⟩=pure (ps.zip us):=by
   first
    | exact fun _ _ _ _ _ _ us hl=>match us,hl with | [_],_=>rfl
    | exact fun _ _ _ _ _ _ us hl=>match us,hl with | [_,_],_=>rfl
    | exact fun _ _ _ _ _ _ us hl=>match us,hl with | [_,_,_],_=>rfl
    | exact fun _ _ _ _ _ _ us hl=>match us,hl with | [_,_,_,_],_=>rfl
    | exact fun _ _ _ _ _ _ us hl=>match us,hl with | [_,_,_,_,_],_=>rfl):Callee P w K mg base x (k+1) ps (spO K ks fr (zry ks fr N.length b)):=by
 obtain⟨f,fd,hm,F⟩:=h
 exact⟨f,fd,hm,F.kp,F.binds hbi,zmK ks fr F S hps hpN fun cdv A outer s H E hr=>zg4 (hb hr S.nd)⟩
theorem fnI(N:List Str)(B:Ob K c C ns)(huq:∀ c' ns',Cs.O c'=some (C,ns')->ns'.length=ns.length)(hm:mg x=some (.ref C))(M:Mk K C f)(F:Fun K "__init__" q st f fd)
  (hb:∀{cdv:Value} {A:Around} {outer:List Env} {s:Shared} {H:Hp} {E:XK} (Cc:SC),zbU k (A.deeper (envOfC q (zak st) s.heap.objs.size f cdv))->N.Nodup->PSs (zjt (CXe P w) P w K mg base N q (zak st) f cdv A outer s H E).nox (zaB st) (tIn K Cc C ns g))
  (S:zbZ N ps (zak st):=by exact⟨rfl,rfl,rfl,by decide +kernel,rfl,by decide +kernel,by decide +kernel⟩) (hps:ps.length=n+1:=by rfl) (hpN:ps.length<=N.length:=by decide) (hns:ns.length<1000:=by decide)
  (hbi:∀(kV doc pm:Value) (an:Option Addr) (cdv ct:Value) (us:List Value),us.length=ps.length->bindArgs (PySem.W.fnOf "__init__" q (zbM st) (zaB st) (zak st) .none kV doc pm an cdv ct) ⟨us,[]⟩=pure (ps.zip us):=by
   first
    | exact fun _ _ _ _ _ _ us hl=>match us,hl with | [_],_=>rfl
    | exact fun _ _ _ _ _ _ us hl=>match us,hl with | [_,_],_=>rfl
    | exact fun _ _ _ _ _ _ us hl=>match us,hl with | [_,_,_],_=>rfl
    | exact fun _ _ _ _ _ _ us hl=>match us,hl with | [_,_,_,_],_=>rfl
    | exact fun _ _ _ _ _ _ us hl=>match us,hl with | [_,_,_,_,_],_=>rfl):Maker P w K mg base x c (k+1) ps n (ztw n N.length ns.length g) :=
 ⟨C,f,fd,hm,M,F.binds hbi,zrc B.o huq B.nd hns F S hps hpN fun Cc cdv A outer s H E hr=>PSs.nox (hb Cc hr S.nd)⟩
end
end
section
variable [Cs]{K:PySem.W.Frag}{X:Cx}{pos:Pos}
end
section
def cAt:Expr->Option Int
 | .Constant (.int i) _ _=>some i
 | .UnaryOp .USub (.Constant (.int i) _ _) _=>some (-i)
 | _=>none
def zuW:List Expr->Option (List D)
 | []=>some []
 | e::r=>(cAt e).bind fun i=>(zuW r).map (.int i::·)
def cTu:Expr->Option D
 | .Tuple es _ _=>(zuW es).bind fun l=>if leB l.length lim=true then some (.tuple l) else none
 | e=>(cAt e).map .int
def zuV:List Expr->Option (List D)
 | []=>some []
 | e::r=>(cTu e).bind fun d=>(zuV r).map (d::·)
variable [Cs]{K:PySem.W.Frag}{X:Cx}{pos:Pos}
theorem zuU{e:Expr}{i:Int}(h:cAt e=some i):PV K X e (eC (.int i))/\nst e=true:=by
 unfold cAt at h
 split at h
 ·cases h;exact⟨zad,rfl⟩
 ·cases h;exact⟨zkI zkA zad,rfl⟩
 ·cases h
theorem ztj:∀{es:List Expr} {ds:List D},zuW es=some ds->PVA K X es (aCs ds)
 | [],ds,h=>by cases h;exact zda
 | e::r,ds,h=>by
  obtain⟨i,h1,h⟩:=Option.bind_eq_some_iff.mp h
  obtain⟨l,h2,rfl⟩:=Option.map_eq_some_iff.mp h
  exact zd2 (zuU h1).1 (ztj h2) (se (zuU (K:=K) (X:=X) h1).2)
theorem zvk{e:Expr}{d:D}(h:cTu e=some d):PV K X e (eC d)/\nst e=true:=by
 unfold cTu at h
 split at h
 ·obtain⟨l,h1,h⟩:=Option.bind_eq_some_iff.mp h
  split at h
  ·rename_i c
   cases h
   refine⟨?_,rfl⟩
   have e:za5 (aCs l)=eC (.tuple l):=by
    funext ρ
    show(R.ok (l,ρ)).bind _=_
    rw [zac,zaN c];rfl
   rw [<- e]
   exact za3 (ztj h1)
  ·cases h
 ·obtain⟨i,h1,rfl⟩:=Option.map_eq_some_iff.mp h
  exact zuU h1
theorem ztf:∀{es:List Expr} {ds:List D},zuV es=some ds->PVA K X es (aCs ds)
 | [],ds,h=>by cases h;exact zda
 | e::r,ds,h=>by
  obtain⟨d,h1,h⟩:=Option.bind_eq_some_iff.mp h
  obtain⟨l,h2,rfl⟩:=Option.map_eq_some_iff.mp h
  exact zd2 (zvk h1).1 (ztf h2) (se (zvk (K:=K) (X:=X) h1).2)
theorem znH{es:List Expr}{ds:List D}(h:zuV es=some ds):PVN K X (.List es pos) (zcQ (aCs ds)):=zcp (ztf h)
end
end FL
namespace L2
open PySem PySem.Spec PyProof.Rows
section
variable {prog:Program}{w:World}{A:Around}{E:Value->Shared->Prop}{s:Shared}
theorem zqM{it t:Addr}{i:Nat}{ys:Array Value}{y:Value}{Q:Value->Shared->Prop}(hi:s.heap.IsTupleIter it t i)(ht:s.heap.IsTuple t ys)(hy:ys[i]?=some y)
  (q:∀ h',h'.IsTupleIter it t (i+1)->Heap.SameBut it s.heap h'->Q y { s with heap:=h' }):wpAny (model prog w) A (Builtin.SmallTypes.nextOf (.ref it)) Q E s:=by
 obtain⟨oi,e1,c1,d1⟩:=id hi
 obtain⟨ot,e2,_,m,d2⟩:=ht
 unfold Builtin.SmallTypes.nextOf
 refine wpAny_bind (wpAny_callSpecial?_slot (name:=Str.ofString "__next__") hi.typeIs F.slot_tuple_iterator_next (wpAny_call_entry F.slot_tuple_iterator_next hi.typeIs F.entry_tuple_iterator_next ?_ (F.args_tuple_iterator_next_1 _)))
 show wpAny _ _ (field (.ref it) 0 >>= _) _ _ s
 refine wpAny_bind (wpAny_field e1 d1 (x:=.ref t) rfl ?_)
 rw [if_neg (show ¬ ((Value.ref t==Value.none)=true) from Bool.false_ne_true)]
 refine wpAny_bind (wpAny_field e1 d1 (x:=.int i 0) rfl ?_)
 refine wpAny_bind (wpAny_seqItems e2 d2 ?_)
 simp only [Int.toNat_natCast,hy]
 refine wpAny_bind (wpAny_setField e1 d1 (by simp) (wpAny_pure ⟨y,rfl,wpAny_pure (q _ ⟨_,Heap.get?_update_self _ e1 (Obj.isFreed_of_fields (Obj.data_mapFields d1 _)),(Obj.cls_mapFields ..).trans c1,?_⟩ (Heap.SameBut.update ..))⟩))
 rw [Obj.data_mapFields d1]
 simp [rawInt]
theorem zrd{it t:Addr}{i:Nat}{ys:Array Value}{Q:Value->Shared->Prop}(hh:A.handled=none)(hi:s.heap.IsTupleIter it t i)(ht:s.heap.IsTuple t ys)(hy:ys[i]?=none)
  (q:∀ h' e,Heap.ExtBut it s.heap h'->(∃ o,h'.get? e=some o/\o.cls=.type "StopIteration")->E (.ref e) { s with heap:=h' }):wpAny (model prog w) A (Builtin.SmallTypes.nextOf (.ref it)) Q E s:=by
 obtain⟨oi,e1,c1,d1⟩:=id hi
 obtain⟨ot,e2,_,m,d2⟩:=ht
 unfold Builtin.SmallTypes.nextOf
 refine wpAny_bind (wpAny_callSpecial?_slot (name:=Str.ofString "__next__") hi.typeIs F.slot_tuple_iterator_next (wpAny_call_entry F.slot_tuple_iterator_next hi.typeIs F.entry_tuple_iterator_next ?_ (F.args_tuple_iterator_next_1 _)))
 show wpAny _ _ (field (.ref it) 0 >>= _) _ _ s
 refine wpAny_bind (wpAny_field e1 d1 (x:=.ref t) rfl ?_)
 rw [if_neg (show ¬ ((Value.ref t==Value.none)=true) from Bool.false_ne_true)]
 refine wpAny_bind (wpAny_field e1 d1 (x:=.int i 0) rfl ?_)
 refine wpAny_bind (wpAny_seqItems e2 d2 ?_)
 simp only [Int.toNat_natCast,hy]
 refine wpAny_bind (wpAny_rule (wpAny_bind (wpAny_setField e1 d1 (by simp) ?_)))
 refine wpAny_bind ?_;simp only [newExc,newTuple]
 refine wpAny_bind ?_;refine wpAny_newObj_type ?_ (by size_fits)
 refine wpAny_bind (m:=firstArgMember _ _) ?_;refine wpAny_of_eq (a:=Value.none) (by first|rfl|(simp only [firstArgMember];rfl)) ?_
 refine wpAny_newObj_type ?_ (by size_fits);simp only [raiseNew]
 refine wpAny_bind (wpAny_handled ?_);rw [show A.in1.handled=none from hh]
 exact wpAny_bind (wpAny_pure (wpAny_throw (q _ _ (((Heap.SameBut.update ..).extBut.push _).push _) ⟨_,Heap.get?_push_size _ rfl,rfl⟩)))
abbrev ZA:=ZipApart
theorem zpG{z TI TO i1 i2 l t:Addr}{k:Nat}{xs ys:Array Value}{x y a b:Value}{Q:Value->Shared->Prop}(D:ZA z TI TO i1 i2 l t)(zz:IsZip s.heap z TI TO .none)(pi:IsPair s.heap TI (.ref i1) (.ref i2))(po:IsPair s.heap TO a b)
  (t1:s.heap.IsListIter i1 l k)(t2:s.heap.IsTupleIter i2 t k)(u1:s.heap.IsList l xs)(u2:s.heap.IsTuple t ys)(ex:xs[k]?=some x)(ey:ys[k]?=some y)
  (q:∀ h',IsZip h' z TI TO (rawInt s.heap.objs.size)->IsPair h' TO x y->h'.IsListIter i1 l (k+1)->h'.IsTupleIter i2 t (k+1)->IsPair h' s.heap.objs.size x y ->
   (∀ c o,c≠z->c≠TO->c≠i1->c≠i2->s.heap.get? c=some o->h'.get? c=some o)->Q (.ref s.heap.objs.size) { s with heap:=h' }) :
  wpAny (model prog w) A (Builtin.«zip.__next__» ⟨[.ref z],[]⟩) (fun f s'=>∃ v,f=.done (.ret v)/\Q v s') E s:=by
 show wpAny _ _ (field (.ref z) 2 >>= _) _ _ _
 refine wpAny_bind (wpAny_field zz rfl (x:=.bool false) rfl ?_)
 refine wpAny_bind (wpAny_field zz rfl (x:=.ref TI) rfl ?_)
 refine wpAny_bind (wpAny_seqItems pi rfl ?_)
 refine wpAny_bind ?_;unfold Builtin.SmallTypes.ownedTupleIsFree
 refine wpAny_bind (wpAny_field zz rfl (x:=.none) rfl (wpAny_pure ?_));simp only [if_true]
 refine wpAny_bind (wpAny_rule ?_);refine wpAny_bind (wpAny_field zz rfl (x:=.ref TO) rfl ?_)
 refine wpAny_bind (wpAny_setField_rec zz (by simp) fun g1 z1 b1=>?_)
 replace z1:IsZip g1 z TI TO .ellipsis:=z1
 refine wpAny_bind ?_;simp only [List.zipIdx_cons,List.zipIdx_nil,List.forIn_cons,List.forIn_nil]
 refine wpAny_bind (wpAny_bind (wpAny_onRaise ?_));show wpAny _ _ (Builtin.SmallTypes.nextOf (.ref i1) >>= _) _ _ _
 refine wpAny_bind (wpAny_nextOf_list_item (t1.extBut b1.extBut D.i1z) (u1.extBut b1.extBut D.l1z) ex fun g2 r2 b2=>wpAny_pure ?_)
 have o2:IsPair g2 TO a b:=b2.extBut _ _ D.TOi1 (b1.extBut _ _ D.TOz po)
 refine wpAny_bind (wpAny_seqItems o2 rfl ?_)
 refine wpAny_bind (wpAny_updateSeq_pair o2 fun g3 o3 b3=>?_)
 replace o3:IsPair g3 TO x b:=o3
 refine wpAny_bind (wpAny_letGo (wpAny_pure ?_));refine wpAny_bind (wpAny_bind (wpAny_onRaise ?_))
 show wpAny _ _ (Builtin.SmallTypes.nextOf (.ref i2) >>= _) _ _ _
 refine wpAny_bind (zqM (((t2.extBut b1.extBut D.i2z).extBut b2.extBut D.i12.symm).extBut b3.extBut D.TOi2.symm) (((u2.extBut b1.extBut D.l2z).extBut b2.extBut D.l2i1).extBut b3.extBut D.l2TO) ey fun g4 r4 b4=>wpAny_pure ?_)
 have o4:IsPair g4 TO x b:=b4.extBut _ _ D.TOi2 o3
 refine wpAny_bind (wpAny_seqItems o4 rfl ?_)
 refine wpAny_bind (wpAny_updateSeq_pair o4 fun g5 o5 b5=>?_)
 replace o5:IsPair g5 TO x y:=o5
 refine wpAny_bind (wpAny_letGo (wpAny_pure (wpAny_pure ?_)));refine wpAny_bind (wpAny_seqItems o5 rfl ?_);refine wpAny_bind (wpAny_newTuple ?_)
 have sz:g5.objs.size=s.heap.objs.size:=by rw [b5.1,b4.1,b3.1,b2.1,b1.1]
 have z5:IsZip g5 z TI TO .ellipsis:=b5.extBut _ _ D.TOz.symm (b4.extBut _ _ D.i2z.symm (b3.extBut _ _ D.TOz.symm (b2.extBut _ _ D.i1z.symm z1)))
 have k5:∀ c o,c≠z->c≠TO->c≠i1->c≠i2->s.heap.get? c=some o->g5.get? c=some o:=fun c o c1 c2 c3 c4 e=>b5.extBut _ _ c2 (b4.extBut _ _ c4 (b3.extBut _ _ c2 (b2.extBut _ _ c3 (b1.extBut _ _ c1 e))))
 have r15:g5.IsListIter i1 l (k+1):=((r2.extBut b3.extBut D.TOi1.symm).extBut b4.extBut D.i12).extBut b5.extBut D.TOi1.symm
 have r25:g5.IsTupleIter i2 t (k+1):=r4.extBut b5.extBut D.TOi2.symm
 have zl:z<g5.objs.size:=Heap.lt_size z5
 refine wpAny_bind ?_;unfold Builtin.SmallTypes.ownedTupleHandOut
 have z6:IsZip (g5.push { cls:=.type "tuple",data:=.seq #[x,y] }) z TI TO .ellipsis:=Heap.get?_push_of_some _ z5
 refine wpAny_bind (wpAny_setField_rec z6 (by simp) fun g7 z7 b7=>?_)
 replace z7:IsZip g7 z TI TO (rawInt g5.objs.size):=z7
 refine wpAny_setField_rec z7 (by simp) fun g8 z8 b8=>?_
 replace z8:IsZip g8 z TI TO (rawInt g5.objs.size):=z8
 have up:∀ c o,c≠z->g5.get? c=some o->g8.get? c=some o:=fun c o c1 e=>b8.extBut _ _ c1 (b7.extBut _ _ c1 (Heap.get?_push_of_some _ e))
 have p8:IsPair g8 g5.objs.size x y:=b8.extBut _ _ (Nat.ne_of_gt zl) (b7.extBut _ _ (Nat.ne_of_gt zl) (Heap.get?_push_size _ rfl))
 rw [sz] at z8 p8
 refine wpAny_pure ⟨_,rfl,?_⟩
 show Q (.ref g5.objs.size) _;rw [sz]
 refine q g8 z8 (up _ _ D.TOz o5) ?_ ?_ p8 fun c o c1 c2 c3 c4 e=>up c o c1 (k5 c o c1 c2 c3 c4 e)
 ·exact r15.at fun o e=>up _ o D.i1z e
 ·obtain⟨o,e,r⟩:=r25
  exact⟨o,up _ o D.i2z e,r⟩
theorem zrD{z TI TO i1 i2 l t:Addr}{k:Nat}{xs ys:Array Value}{a b:Value}{Q:Fin->Shared->Prop}(hh:A.handled=none)(D:ZA z TI TO i1 i2 l t)(zz:IsZip s.heap z TI TO .none)(pi:IsPair s.heap TI (.ref i1) (.ref i2))(po:IsPair s.heap TO a b)
  (t1:s.heap.IsListIter i1 l k)(t2:s.heap.IsTupleIter i2 t k)(u1:s.heap.IsList l xs)(u2:s.heap.IsTuple t ys)(en:xs[k]?=none\/ys[k]?=none)
  (q:∀ h' e,(∀ c o,c≠z->c≠TO->c≠i1->c≠i2->s.heap.get? c=some o->h'.get? c=some o)->(∃ o,h'.get? e=some o/\o.cls=.type "StopIteration")->E (.ref e) { s with heap:=h' }) :
  wpAny (model prog w) A (Builtin.«zip.__next__» ⟨[.ref z],[]⟩) Q E s:=by
 show wpAny _ _ (field (.ref z) 2 >>= _) _ _ _
 refine wpAny_bind (wpAny_field zz rfl (x:=.bool false) rfl ?_)
 refine wpAny_bind (wpAny_field zz rfl (x:=.ref TI) rfl ?_)
 refine wpAny_bind (wpAny_seqItems pi rfl ?_)
 refine wpAny_bind ?_;unfold Builtin.SmallTypes.ownedTupleIsFree
 refine wpAny_bind (wpAny_field zz rfl (x:=.none) rfl (wpAny_pure ?_));simp only [if_true]
 refine wpAny_bind (wpAny_rule ?_);refine wpAny_bind (wpAny_field zz rfl (x:=.ref TO) rfl ?_)
 refine wpAny_bind (wpAny_setField_rec zz (by simp) fun g1 z1 b1=>?_)
 replace z1:IsZip g1 z TI TO .ellipsis:=z1
 refine wpAny_bind ?_;simp only [List.zipIdx_cons,List.zipIdx_nil,List.forIn_cons,List.forIn_nil]
 refine wpAny_bind (wpAny_bind (wpAny_onRaise ?_));show wpAny _ _ (Builtin.SmallTypes.nextOf (.ref i1) >>= _) _ _ _
 cases ex:xs[k]? with
 | none =>
  refine wpAny_bind (wpAny_nextOf_list_end hh (t1.extBut b1.extBut D.i1z) (u1.extBut b1.extBut D.l1z) ex fun g2 e b2 he=>?_)
  obtain⟨oe,e1,e2⟩:=he
  have z2:IsZip g2 z TI TO .ellipsis:=b2 _ _ D.i1z.symm z1
  have ne:e≠z:=fun x=>by subst x;rw [z2] at e1;cases e1;simp at e2
  exact wpAny_setField_rec z2 (by simp) fun g3 _ b3=>q g3 e (fun c o c1 _ c3 _ x=>b3.extBut _ _ c1 (b2 _ _ c3 (b1.extBut _ _ c1 x))) ⟨oe,b3.extBut _ _ ne e1,e2⟩
 | some x =>
  have ey:ys[k]?=none:=en.resolve_left fun z=>by rw [ex] at z;cases z
  refine wpAny_bind (wpAny_nextOf_list_item (t1.extBut b1.extBut D.i1z) (u1.extBut b1.extBut D.l1z) ex fun g2 r2 b2=>wpAny_pure ?_)
  have o2:IsPair g2 TO a b:=b2.extBut _ _ D.TOi1 (b1.extBut _ _ D.TOz po)
  refine wpAny_bind (wpAny_seqItems o2 rfl ?_)
  refine wpAny_bind (wpAny_updateSeq_pair o2 fun g3 o3 b3=>?_)
  refine wpAny_bind (wpAny_letGo (wpAny_pure ?_));refine wpAny_bind (wpAny_bind (wpAny_onRaise ?_))
  show wpAny _ _ (Builtin.SmallTypes.nextOf (.ref i2) >>= _) _ _ _
  refine wpAny_bind (zrd hh (((t2.extBut b1.extBut D.i2z).extBut b2.extBut D.i12.symm).extBut b3.extBut D.TOi2.symm) (((u2.extBut b1.extBut D.l2z).extBut b2.extBut D.l2i1).extBut b3.extBut D.l2TO) ey fun g4 e b4 he=>?_)
  obtain⟨oe,e1,e2⟩:=he
  have z4:IsZip g4 z TI TO .ellipsis:=b4 _ _ D.i2z.symm (b3.extBut _ _ D.TOz.symm (b2.extBut _ _ D.i1z.symm z1))
  have ne:e≠z:=fun x=>by subst x;rw [z4] at e1;cases e1;simp at e2
  exact wpAny_setField_rec z4 (by simp) fun g5 _ b5=>q g5 e (fun c o c1 c2 c3 c4 x=>b5.extBut _ _ c1 (b4 _ _ c4 (b3.extBut _ _ c2 (b2.extBut _ _ c3 (b1.extBut _ _ c1 x))))) ⟨oe,b5.extBut _ _ ne e1,e2⟩
theorem znk{z TI TO i1 i2 l t:Addr}{k:Nat}{xs ys:Array Value}{x y a b:Value}{Q:Option Value->Shared->Prop}(D:ZA z TI TO i1 i2 l t)(zz:IsZip s.heap z TI TO .none)(pi:IsPair s.heap TI (.ref i1) (.ref i2))(po:IsPair s.heap TO a b)
  (t1:s.heap.IsListIter i1 l k)(t2:s.heap.IsTupleIter i2 t k)(u1:s.heap.IsList l xs)(u2:s.heap.IsTuple t ys)(ex:xs[k]?=some x)(ey:ys[k]?=some y)
  (q:∀ h',IsZip h' z TI TO (rawInt s.heap.objs.size)->IsPair h' TO x y->h'.IsListIter i1 l (k+1)->h'.IsTupleIter i2 t (k+1)->IsPair h' s.heap.objs.size x y ->
   (∀ c o,c≠z->c≠TO->c≠i1->c≠i2->s.heap.get? c=some o->h'.get? c=some o)->Q (some (.ref s.heap.objs.size)) { s with heap:=h' }):wpAny (model prog w) A (pyNext (.ref z)) Q E s:=by
 have ty:s.TypeIs (.ref z) "zip":=⟨_,zz,rfl⟩
 unfold pyNext
 exact wpAny_bind (wpAny_attempt (wpAny_callSpecial?_slot (name:=Str.ofString "__next__") ty F.slot_zip_next (wpAny_call_entry F.slot_zip_next ty F.entry_zip_next (zpG D zz pi po t1 t2 u1 u2 ex ey fun h' a1 a2 a3 a4 a5 a6=>wpAny_pure (q h' a1 a2 a3 a4 a5 a6)) (F.args_zip_next_1 _))))
theorem znl{z TI TO i1 i2 l t:Addr}{k:Nat}{xs ys:Array Value}{a b:Value}{Q:Option Value->Shared->Prop}(hh:A.handled=none)(D:ZA z TI TO i1 i2 l t)(zz:IsZip s.heap z TI TO .none)(pi:IsPair s.heap TI (.ref i1) (.ref i2))(po:IsPair s.heap TO a b)
  (t1:s.heap.IsListIter i1 l k)(t2:s.heap.IsTupleIter i2 t k)(u1:s.heap.IsList l xs)(u2:s.heap.IsTuple t ys)(en:xs[k]?=none\/ys[k]?=none)
  (q:∀ h',(∀ c o,c≠z->c≠TO->c≠i1->c≠i2->s.heap.get? c=some o->h'.get? c=some o)->Q none { s with heap:=h' }):wpAny (model prog w) A (pyNext (.ref z)) Q E s:=by
 have ty:s.TypeIs (.ref z) "zip":=⟨_,zz,rfl⟩
 unfold pyNext
 refine wpAny_bind (wpAny_attempt (wpAny_callSpecial?_slot (name:=Str.ofString "__next__") ty F.slot_zip_next (wpAny_call_entry F.slot_zip_next ty F.entry_zip_next (zrD hh D zz pi po t1 t2 u1 u2 en fun h' e k1 ⟨o,ho,hc⟩=>?_) (F.args_zip_next_1 _))))
 exact wpAny_bind (wpAny_isInstance (T:="StopIteration") (b:=true) ⟨o,ho,hc⟩ isSubtype_stop (wpAny_pure (q _ k1)))
end
abbrev zt2(h:Heap)(l t:Addr):Heap:=(zipH1 h l).push { cls:=.type "tuple_iterator",data:=.fields #[.ref t,.int 0 0] }
abbrev zt3(h:Heap)(l t:Addr):Heap:=(zt2 h l t).push { cls:=.type "tuple",data:=.seq #[.ref h.objs.size,.ref (zipH1 h l).objs.size] }
abbrev zt4(h:Heap)(l t:Addr):Heap:=(zt3 h l t).push { cls:=.type "tuple",data:=.seq #[.none,.none] }
abbrev zt5(h:Heap)(l t:Addr):Heap:=(zt4 h l t).push { cls:=.type "zip",data:=.fields #[.none,.bool false,.bool false,.ref (zt2 h l t).objs.size,.ref (zt3 h l t).objs.size] }
theorem zrC(l t:Addr)(xs ys:Array Value):Meets (Builtin.«zip.__new__» ⟨[.type "zip",.ref l,.ref t],[]⟩) (fun _ R s=>s.heap.IsList l xs/\s.heap.IsTuple t ys/\R (.ok (.ret (.ref (zt4 s.heap l t).objs.size))) { s with heap:=zt5 s.heap l t }) :=
 .of_wp fun prog w A R s h=>by
  obtain⟨hp,g,d,tk,os⟩:=s;obtain⟨a1,a2,h⟩:=h
  have hsub:=sub_zip
  have b1:Heap.IsList (Shared.heap ⟨hp,g,d,tk,os⟩) l xs:=a1
  have b2:Heap.IsTuple (Shared.heap ⟨hp.push { cls:=.type "list_iterator",data:=.fields #[.ref l,.int 0 0] },g,d,tk,os⟩) t ys:=Heap.IsTuple.push a2 _
  wp_walk using wpAny_pyIter_list b1,wpAny_pyIter_tuple b2
  exact⟨_,rfl,h⟩
section
variable {prog:Program}{w:World}{A:Around}{E:Value->Shared->Prop}{s:Shared}
theorem zpH{l t:Addr}{xs ys:Array Value}{Q:Value->Shared->Prop}(u1:s.heap.IsList l xs)(u2:s.heap.IsTuple t ys)
  (q:∀ h',IsZip h' (s.heap.objs.size+4) (s.heap.objs.size+2) (s.heap.objs.size+3) .none->IsPair h' (s.heap.objs.size+2) (.ref s.heap.objs.size) (.ref (s.heap.objs.size+1)) ->
   IsPair h' (s.heap.objs.size+3) .none .none->h'.IsListIter s.heap.objs.size l 0->h'.IsTupleIter (s.heap.objs.size+1) t 0 ->
   (∀ c o,s.heap.get? c=some o->h'.get? c=some o)->Q (.ref (s.heap.objs.size+4)) { s with heap:=h' }):wpAny (model prog w) A (call (.type "zip") [.ref l,.ref t]) Q E s:=by
 refine callType_new F.called_zip (by decide) (F.typeCall_zip_2 _ _) (F.newCall_zip_2 _ _) (fun obj=>F.args_object_init_3 obj _ _) F.entry_zip_new (zrC l t xs ys) ⟨u1,u2,?_⟩
 have n1:(zipH1 s.heap l).objs.size=s.heap.objs.size+1:=Heap.size_push ..
 have n2:(zt2 s.heap l t).objs.size=s.heap.objs.size+2:=by rw [Heap.size_push,n1]
 have n3:(zt3 s.heap l t).objs.size=s.heap.objs.size+3:=by rw [Heap.size_push,n2]
 have n4:(zt4 s.heap l t).objs.size=s.heap.objs.size+4:=by rw [Heap.size_push,n3]
 have up:∀{h:Heap} {c:Addr} {o u:Obj},h.get? c=some o->(h.push u).get? c=some o:=fun e=>Heap.get?_push_of_some _ e
 have g5:(zt5 s.heap l t).get? (zt4 s.heap l t).objs.size=some _:=Heap.get?_push_size _ rfl
 have g4:(zt5 s.heap l t).get? (zt3 s.heap l t).objs.size=some _:=up (Heap.get?_push_size _ rfl)
 have g3:(zt5 s.heap l t).get? (zt2 s.heap l t).objs.size=some _:=up (up (Heap.get?_push_size _ rfl))
 have g2:(zt5 s.heap l t).get? (zipH1 s.heap l).objs.size=some _:=up (up (up (Heap.get?_push_size _ rfl)))
 have g1:(zt5 s.heap l t).get? s.heap.objs.size=some _:=up (up (up (up (Heap.get?_push_size _ rfl))))
 show _/\_
 rw [n2,n3,n4] at g5
 rw [n1,n2] at g3
 rw [n3] at g4
 rw [n1] at g2
 rw [n4]
 exact⟨⟨_,g5,rfl⟩,q _ g5 g3 g4 ⟨_,g1,rfl,rfl⟩ ⟨_,g2,rfl,rfl⟩ fun c o x=>up (up (up (up (up x))))⟩
end
def zu1(K:PySem.W.Frag)(a b:Addr):It :=
 ⟨fun i H=>∃ xs ys x y,SqL K H a xs/\SqT K H b ys/\xs[i]?=some x/\ys[i]?=some y,
  fun i H x H'=>∃ t u v,x=.ref t/\H t=none/\H'=upd H t (.tup [u,v])/\(∀ xs,SqL K H a xs->xs[i]?=some u)/\∀ ys,SqT K H b ys->ys[i]?=some v,
  fun i H=>∃ xs ys,SqL K H a xs/\SqT K H b ys/\(xs.length<=i\/ys.length<=i)⟩
def tnT(z TI TO i1 i2 a b:Addr)(i:Nat)(h:Heap):Prop:=IsZip h z TI TO .none/\IsPair h TI (.ref i1) (.ref i2)/\(∃ u v,IsPair h TO u v)/\h.IsListIter i1 a i/\h.IsTupleIter i2 b i
theorem zpL{P:Program}{w:World}{K:PySem.W.Frag}{es:List Expr}{k:Nat}{pos:Pos}(z TI TO i1 i2 a b:Addr)(D:ZA z TI TO i1 i2 a b):Turn P w K (.Tuple es k pos) (zu1 K a b) [z,TI,TO,i1,i2] z (tnT z TI TO i1 i2 a b) where
 mem:=by simp
 obj:=fun i h st c hc=>by
  obtain⟨h1,h2,⟨u,v,h3⟩,⟨o4,h4,_,d4⟩,⟨o5,h5,_,d5⟩⟩:=st
  simp only [List.mem_cons,List.not_mem_nil,or_false] at hc
  rcases hc with rfl|rfl|rfl|rfl|rfl
  ·exact⟨_,h1,fun v z=>by cases z⟩
  ·exact⟨_,h2,fun v z=>by cases z⟩
  ·exact⟨_,h3,fun v z=>by cases z⟩
  ·exact⟨_,h4,fun v z=>by rw [d4] at z;cases z⟩
  ·exact⟨_,h5,fun v z=>by rw [d5] at z;cases z⟩
 keep:=fun i h h' st k=>by
  obtain⟨h1,h2,⟨u,v,h3⟩,h4,o,h5,r⟩:=st
  exact⟨k _ (by simp) _ h1,k _ (by simp) _ h2,⟨u,v,k _ (by simp) _ h3⟩,h4.at fun o e=>k _ (by simp) o e,o,k _ (by simp) o h5,r⟩
 item:=by
  intro X hP hw hK hc i pins s σ H E I hf st hg
  subst hP hw hK
  obtain⟨xs,ys,x,y,hqx,hqy,hx,hy⟩:=hg
  obtain⟨itx,rvx,px,_⟩:=I.list hqx
  obtain⟨ity,rvy,py,_⟩:=I.tuple hqy
  obtain⟨ux,hux,rux⟩:=rvx.get hx
  obtain⟨uy,huy,ruy⟩:=rvy.get hy
  obtain⟨h1,h2,⟨u,v,h3⟩,h4,h5⟩:=id st
  have lts:∀ c∈[z,TI,TO,i1,i2],c<s.heap.objs.size:=fun c hc=>by
   obtain⟨o4,e4,_⟩:=id h4
   obtain⟨o5,e5,_⟩:=id h5
   simp only [List.mem_cons,List.not_mem_nil,or_false] at hc
   rcases hc with rfl|rfl|rfl|rfl|rfl
   ·exact Heap.lt_size h1
   ·exact Heap.lt_size h2
   ·exact Heap.lt_size h3
   ·exact Heap.lt_size e4
   ·exact Heap.lt_size e5
  refine znk D h1 h2 h3 h4 h5 px.isList py (by simpa using hux) (by simpa using huy) fun h' a1 a2 a3 a4 a5 hk=>?_
  refine⟨_,rfl,wpAny_letOwnedTupleGo_zip a1 fun h'' b1 sb=>?_⟩
  have zlt:=lts z (by simp)
  have k2:∀ c o,c∉[z,TI,TO,i1,i2]->s.heap.get? c=some o->h''.get? c=some o:=fun c o hc e=>by
   simp only [List.mem_cons,List.not_mem_nil,or_false,not_or] at hc
   exact sb.extBut c o hc.1 (hk c o hc.1 hc.2.2.1 hc.2.2.2.1 hc.2.2.2.2 e)
  have ht:h''.get? s.heap.objs.size=some { cls:=.type "tuple",data:=.seq #[ux,uy] }:=sb.extBut _ _ (Nat.ne_of_gt zlt) a5
  refine⟨.ref s.heap.objs.size,_,Inv.ziT (s:=s) (h':=h'') (t':=s.toks) (fp:=[z,TI,TO,i1,i2]) I (xs:=[x,y]) (us:=[ux,uy]) k2 hf lts ht (.cons rux (.cons ruy .nil)) (by rw [sizeLine_eq];show 2<=16777216;decide),rfl,
   ⟨_,x,y,rfl,I.hok.fresh (Nat.le_refl _),rfl,fun zs hz=>by rw [I.zec hz hqx];exact hx,fun zs hz=>by rw [I.zhV hz hqy];exact hy⟩,?_,fun c hc=>?_⟩
  ·obtain⟨o,e,r⟩:=a4
   exact⟨b1,sb.extBut _ _ D.TIz (hk _ _ D.TIz D.TITO D.TIi1 D.TIi2 h2),⟨_,_,sb.extBut _ _ D.TOz a2⟩,a3.extBut sb.extBut D.i1z,o,sb.extBut _ _ D.i2z e,r⟩
  ·rw [zao (Nat.ne_of_lt (lts c hc))]
   exact(hf c hc).1
 done:=by
  intro X hP hw hK hc i pins s σ H E I hf st hg
  subst hP hw hK
  obtain⟨xs,ys,hqx,hqy,hend⟩:=hg
  obtain⟨itx,rvx,px,_⟩:=I.list hqx
  obtain⟨ity,rvy,py,_⟩:=I.tuple hqy
  obtain⟨h1,h2,⟨u,v,h3⟩,h4,h5⟩:=id st
  have lx:=rvx.length
  have ly:=rvy.length
  refine znl (I.ok.hd hc) D h1 h2 h3 h4 h5 px.isList py ?_ fun h' hk=>⟨rfl,I.zew (t':=s.toks) (fun c o hc e=>?_) hf⟩
  ·rcases hend with h|h
   ·exact .inl (by simp;omega)
   ·exact .inr (by simp;omega)
  ·simp only [List.mem_cons,List.not_mem_nil,or_false,not_or] at hc
   exact hk c o hc.1 hc.2.2.1 hc.2.2.2.1 hc.2.2.2.2 e
 self:=fun _ _ _ _ _ st h=>wpAny_pyIter_zip st.1 h
section
variable {X:Cx}
def zuA(K:PySem.W.Frag)(ta:TA):TI:=fun σ H R=>ta σ H fun vs H1=>∃ a b,vs=[.ref a,.ref b]/\(∃ xs,SqL K H1 a xs)/\(((∃ ys,SqL K H1 b ys)/\R (Itz K a b) H1)\/((∃ ys,SqT K H1 b ys)/\R (zu1 K a b) H1))
theorem zqv{es:List Expr}{k:Nat}{p0:Pos}{a b:Expr}{ta:TA}{p pos:Pos}(hg:Gl X "zip") (hm:X.mg "zip"=none) (ha:PA X [a,b] ta) (hs:starEach [a,b] X.env=[(false,eval a X.env),(false,eval b X.env)]:=by rfl) (hs2:starEach [b] X.env=[(false,eval b X.env)]:=by rfl) :
  PI X (.Tuple es k p0) (.Call (.Name "zip" p) [a,b] [] pos) (zuA X.K ta):=by
 intro pins s σ H R I h
 refine Call_ (zfL I hg hm (by decide +kernel:bootBuiltins "zip"=some (.type "zip")) (PyProof.Rows.callWith_type1 (thn (ha pos pins s σ H _ I h) fun us s1 ⟨vs,H1,I1,r1,q1⟩=>?_) (by rw [hs,hs2]) (by rw [hs2];rfl)))
 obtain⟨l1,l2,e,⟨xs,hx⟩,q⟩:=q1
 subst e
 cases r1 with
 | cons r rr =>
  cases rr with
  | cons r' rr =>
   cases rr
   cases r
   cases r'
   obtain⟨itx,rvx,px,_⟩:=I1.list hx
   have hl1:Nat.lt l1 s1.heap.objs.size:=by obtain⟨o,e,_⟩:=px.isList;exact Heap.lt_size e
   have q1:∀ n:Nat,l1≠s1.heap.objs.size+n:=fun n=>Nat.ne_of_lt (Nat.lt_of_lt_of_le hl1 (Nat.le_add_right _ _))
   have fin:∀ c∈[s1.heap.objs.size+4,s1.heap.objs.size+2,s1.heap.objs.size+3,s1.heap.objs.size,s1.heap.objs.size+1],zhQ X pins H1 c:=fun c hc=>by
    have hc':s1.heap.objs.size<=c:=by
     simp only [List.mem_cons,List.not_mem_nil,or_false] at hc
     rcases hc with rfl|rfl|rfl|rfl|rfl <;> first|exact Nat.le_add_right _ _|exact Nat.le_refl _
    exact I1.znj hc' (I1.hok.fresh hc')
   have apt:∀ l2,Nat.lt l2 s1.heap.objs.size->ZA (s1.heap.objs.size+4) (s1.heap.objs.size+2) (s1.heap.objs.size+3) s1.heap.objs.size (s1.heap.objs.size+1) l1 l2:=fun l2 hl2=>by
    have q2:∀ n:Nat,l2≠s1.heap.objs.size+n:=fun n=>Nat.ne_of_lt (Nat.lt_of_lt_of_le hl2 (Nat.le_add_right _ _))
    constructor <;> first|exact q1 _|exact q2 _|exact q1 0|exact q2 0|exact Nat.ne_of_lt (by omega)|exact Nat.ne_of_gt (by omega)
   rcases q with⟨⟨ys,hy⟩,q⟩|⟨⟨ys,hy⟩,q⟩
   ·obtain⟨ity,rvy,py,_⟩:=I1.list hy
    have hl2:Nat.lt l2 s1.heap.objs.size:=by obtain⟨o,e,_⟩:=py.isList;exact Heap.lt_size e
    refine call_zip_2 px.isList py.isList fun h' g1 g2 g3 g4 g5 g6 hk=>?_
    exact wpAny_pyIter_zip g1 ⟨_,[s1.heap.objs.size+4,s1.heap.objs.size+2,s1.heap.objs.size+3,s1.heap.objs.size,s1.heap.objs.size+1],_,_,H1,rfl,I1.kept (t':=s1.toks) hk,znr _ _ _ _ _ l1 l2 (apt l2 hl2),⟨g1,g2,⟨_,_,g3⟩,g4,g5⟩,fin,q⟩
   ·obtain⟨ity,rvy,py,_⟩:=I1.tuple hy
    have hl2:Nat.lt l2 s1.heap.objs.size:=by obtain⟨o,e,_⟩:=py;exact Heap.lt_size e
    refine zpH px.isList py fun h' g1 g2 g3 g4 g5 hk=>?_
    exact wpAny_pyIter_zip g1 ⟨_,[s1.heap.objs.size+4,s1.heap.objs.size+2,s1.heap.objs.size+3,s1.heap.objs.size,s1.heap.objs.size+1],_,_,H1,rfl,I1.kept (t':=s1.toks) hk,zpL _ _ _ _ _ l1 l2 (apt l2 hl2),⟨g1,g2,⟨_,_,g3⟩,g4,g5⟩,fin,q⟩
end
end L2
namespace FL
open PySem L2 PySem.Spec
open PyProof.Rows hiding St
section
def ztH:List D->R (List D)
 | [.list l,.list m]=>.ok (zhM l m)
 | [.list l,.tuple m]=>.ok (zhM l m)
 | _=>.bad
def zvg(fa:AF):IF:=fun ρ=>(fa ρ).bind fun x=>(ztH x.1).bind fun l=>.ok (l,x.2)
section
variable [Cs]{K:PySem.W.Frag}{X:Cx}{e e':Expr}{fa:AF}{pos:Pos}{es:List Expr}{k:Nat}{p0 p:Pos}
theorem zpJ{H:Hp}{a b:Addr}{vs ws:List V}{l m:List D}(h:FzL K H a vs)(f:zae K H l vs)(h':TAt H b ws)(f':zae K H m ws):Walk K (zu1 K a b) (zhM l m) H:=by
 refine⟨fun i d H' fz e=>?_,fun i H' fz e=>⟨vs,ws,(fz.ziN h).sq,.inl (fz.zlv h'),?_⟩⟩
 ·obtain⟨x,y,e1,e2,rfl⟩:=ziS e
  obtain⟨u,eu,fu⟩:=(f.mono fz).get e1
  obtain⟨v,ev,fv⟩:=(f'.mono fz).get e2
  refine⟨⟨vs,ws,u,v,(fz.ziN h).sq,.inl (fz.zlv h'),eu,ev⟩,fun x H'' y=>?_⟩
  obtain⟨t,u',v',rfl,ht,rfl,hu,hv⟩:=y
  have ex:=hu vs (fz.ziN h).sq
  rw [eu] at ex
  cases ex
  have ex:=hv ws (.inl (fz.zlv h'))
  rw [ev] at ex
  cases ex
  exact⟨zaM.upd ht,zjn ht fu fv⟩
 ·rw [ziR] at e
  rw [f.len,f'.len]
  omega
theorem znK(hg:Gl X "zip") (hm:X.mg "zip"=none) (ha:PVA K X [e,e'] fa) (hs:starEach [e,e'] X.env=[(false,eval e X.env),(false,eval e' X.env)]:=by rfl) (hs2:starEach [e'] X.env=[(false,eval e' X.env)]:=by exact FL.se rfl):PVI K X (.Tuple es k p0) (.Call (.Name "zip" p) [e,e'] [] pos) (zvg fa):=.mk fun hK=>by
 subst hK
 refine(zqv hg hm (ha rfl) hs hs2).weak fun σ H R=>?_
 rintro⟨ρ,rel,q⟩
 refine goA rel q fun ds ρ1 vs H1 rel1 st1 fs q1=>?_
 obtain⟨items,ei,q2⟩:=q1.zc0
 match ds,ei,fs with
 | [.list a,.list b],ei,fs =>
  cases ei
  simp only [zae,Fz] at fs
  obtain⟨_,_,rfl,⟨l,vs,rfl,sx,f⟩,_,_,rfl,⟨l',vs',rfl,sx',f'⟩,rfl⟩:=fs
  exact⟨l,l',rfl,⟨vs,sx.sq⟩,.inl ⟨⟨vs',sx'.sq⟩,q2.now rel1 _ (znm sx f sx' f')⟩⟩
 | [.list a,.tuple b],ei,fs =>
  cases ei
  simp only [zae,Fz] at fs
  obtain⟨_,_,rfl,⟨l,vs,rfl,sx,f⟩,_,_,rfl,⟨l',vs',rfl,sx',f'⟩,rfl⟩:=fs
  exact⟨l,l',rfl,⟨vs,sx.sq⟩,.inr ⟨⟨vs',.inl sx'⟩,q2.now rel1 _ (zpJ sx f sx' f')⟩⟩
end
end
section
def zpC:D->D->R D
 | .list a,.list b=>chk (leB (a.length+b.length) lim) (.ok (.list (a++b)))
 | _,_=>.bad
section
variable [Cs]{K:PySem.W.Frag}{X:Cx}{a b:Expr}{f h:EF}{pos:Pos}
theorem zsC:OpR X (binaryOp .Add) (fun x y H Q=>∃ l m xs ys,x=.ref l/\y=.ref m/\SqL X.K H l xs/\SqL X.K H m ys/\xs.length+ys.length<=sizeLine/\∀ p,H p=none->Q (.ref p) (upd H p (.lst (xs++ys)))):=by
 intro pins s σ H x y v u Q I rx ry hq
 obtain⟨l,m,xs,ys,rfl,rfl,sx,sy,hz0,q⟩:=hq
 cases rx
 cases ry
 obtain⟨its,r1,⟨o,n,ho,hc,hdn,hd⟩,z1⟩:=I.list sx
 obtain⟨its2,r2,⟨o2,n2,ho2,hc2,hdn2,hd2⟩,z2⟩:=I.list sy
 obtain⟨cls,dd,data,sl⟩:=o
 obtain⟨cls2,dd2,data2,sl2⟩:=o2
 simp only at hc hd hc2 hd2 hdn hdn2
 subst hc hd hc2 hd2 hdn hdn2
 have hz:its.length+its2.length<=sizeLine:=by rw [<- r1.length,<- r2.length];exact hz0
 refine concat_meets (Q:=EP X pins σ Q) ⟨_,ho,rfl⟩ ⟨_,ho2,rfl⟩ PySem.noFill_list_add PySem.seq_list_add PySem.F.slot_list_add PySem.F.entry_list_add (PySem.F.args_list_add_2 _ _)
  (list_addW l m its.toArray its2.toArray n n2 none none sl sl2 (by rw [List.size_toArray,List.size_toArray];exact hz)) ⟨ho,ho2,?_⟩
 have ea:its.toArray++its2.toArray=(its++its2).toArray:=by simp
 rw [ea]
 exact⟨.ref _,_,I.zus (t':=s.toks) (r1.append r2) (by rw [List.length_append,r1.length,r2.length];exact hz),rfl,q _ I.fresh⟩
theorem zlE(ha:PV K X a f)(hb:PV K X b h):PVN K X (.BinOp a .Add b pos) (e2 zpC f h):=.mk fun hK=>by
 subst hK
 refine(zqz zsC (ha rfl) (hb rfl)).weak fun σ H Q=>?_
 rintro⟨ρ,rel,q⟩
 refine goV rel q fun dx ρ1 x H1 rel1 st1 fx q1=>?_
 refine goV rel1 q1 fun dy ρ2 y H2 rel2 st2 fy q2=>?_
 obtain⟨d,ed,q3⟩:=q2.zc0
 have fx2:=fx.mono (st2.fzn rel1)
 cases dx with
 | list la =>
  cases dy with
  | list lb =>
   obtain⟨c,ed⟩:=zaX (show chk (leB (la.length+lb.length) lim) (.ok (.list (la++lb)))=.ok d from ed)
   cases ed
   obtain⟨l,xs,rfl,sx,fa⟩:=fx2.tp.lst
   obtain⟨m,ys,rfl,sy,fb⟩:=fy.tp.lst
   refine⟨l,m,xs,ys,rfl,rfl,sx,sy,?_,fun p hp=>?_⟩
   ·have:=zeA c
    have l0:=zbo
    rw [fa.len,fb.len]
    omega
   ·exact q3.new rel2 (zaM.upd hp) p ((st1.trans st2).old rel2 hp) ⟨_,zal,(fa.app fb).mono (Fzn.of (zaM.upd hp))⟩
  | _=>exact nomatch (show(R.bad:R D)=.ok d from ed)
 | _=>exact nomatch (show(R.bad:R D)=.ok d from ed)
end
end
end FL
namespace FL
open PySem
end FL
namespace L2
open PySem PySem.Spec PyProof.Rows
end L2
namespace FL
open PySem L2 PySem.Spec
open PyProof.Rows hiding St
variable [Cs]
end FL
namespace L2
open PySem PySem.Spec PyProof.Rows
section
variable {prog:Program}{w:World}{A:Around}{E:Value->Shared->Prop}{s:Shared}
theorem ziv:entryFor table "dict.update.loop"=some Builtin.«dict.update.loop»:=entryFor_of_fast (by kernel_rfl)
theorem zd4:plainId "dict.update.loop"=true:=by decide +kernel
theorem zmv:typeLookup (.type "list") "keys"=pure none:=am_miss_of_fast (by decide +kernel)
theorem zsG{a:Addr}{o:Obj}{xs:Array Value}{k:Nat}{Q:Option Value->Shared->Prop}(hx:s.heap.get? a=some o)(hc:o.cls=.type "list") (hdat:o.data=.seq xs k) (hd:o.dict=none) (hA:A.handled=none)
  (h:∀ h' tk,(∀ b q,s.heap.get? b=some q->h'.get? b=some q)->Q none { s with heap:=h',toks:=tk }):wpAny (model prog w) A (getAttr? (.ref a) "keys") Q E s:=by
 obtain⟨c,dct,dat,sl⟩:=o
 simp only at hc hdat hd
 subst hc hdat hd
 obtain⟨hp,g,d,tk,os⟩:=s
 have hT:∀ tk',(⟨hp,g,d,tk',os⟩:Shared).TypeIs (.ref a) "list":=fun _=>⟨_,hx,rfl⟩
 have f1:=sub_AttributeError
 have f3:=F.slot_list_getattribute.lookup
 have f4:=F.slot_list_getattribute.bind (.ref a)
 have f5:=am_list_getattr_none
 unfold getAttr? getAttrBy? getAttrBy
 repeat (any_goals (first|assumption|exact hT _|((with_reducible show wpAny _ _ (call (Value.builtin "list.__getattribute__") _ _) _ _ _);refine call_meets F.slot_list_getattribute (hT _) am_entry_list_getattribute (F.args_list_getattribute_2 _ _) (meets_getattribute_miss_list a xs k sl "keys" _ zmv (by decide +kernel) (by size_fits)) ⟨hx,hA,fun h' tk' e hx'=>?_⟩)|wp_step))
 obtain⟨t',u',he⟩:=hx'.there
 show wpAny _ _ (getattributeRaised _ _ _ _ _ _ _) _ _ _
 unfold getattributeRaised
 repeat (any_goals (first|assumption|wp_step))
 exact h _ _ hx'.keeps
def Ent(knd:KeyKind prog w Key)(h:Heap)(d:Addr)(xs:List (List Key×Addr×Value)):Prop:=∃ o es ep,h.get? d=some o/\o.ExactDict/\o.data=.dict es ep/\es.toList=xs.map (entryOfKey (tupleKind knd))/\(xs.map (·.1)).Nodup
theorem zpm{knd:KeyKind prog w Key}{h h':Heap}{k:List Key}{a:Addr}(x:(tupleKind knd).is h k a)(kp:∀ b q,h.get? b=some q->h'.get? b=some q):(tupleKind knd).is h' k a:=by
 obtain⟨o,its,n,h1,h2⟩:=x
 exact⟨o,its,n,kp _ _ h1,h2⟩
def putAll(xs:List (List Key×Addr×Value))(ps:List (List Key×Addr×Value)):List (List Key×Addr×Value):=ps.foldl (fun xs p=>storedH xs p.1 p.2.1 p.2.2) xs
theorem zjd{xs:List (List Key×Addr×Value)}{k:List Key}{a:Addr}{v:Value}:(storedH xs k a v).length<=xs.length+1:=by
 unfold storedH
 split
 ·rw [List.length_map];omega
 ·rw [List.length_append];exact Nat.le_refl _
theorem mem_storedH{xs:List (List Key×Addr×Value)}{k:List Key}{a:Addr}{v:Value}{P:List Key->Addr->Prop}(hx:∀ x∈xs,P x.1 x.2.1)(hk:P k a):∀ x∈storedH xs k a v,P x.1 x.2.1:=fun x h=>by
 unfold storedH at h
 split at h
 ·obtain⟨y,hy,rfl⟩:=List.mem_map.mp h
  unfold putAt
  split
  ·exact hx y hy
  ·exact hx y hy
 ·rcases List.mem_append.mp h with h|h
  ·exact hx x h
  ·obtain rfl:=List.mem_singleton.mp h
   exact hk
theorem zta{knd:KeyKind prog w Key}{d it l:Addr}{its:Array Value}{h0:Heap}{ps:List (List Key×Addr×Value)}{R:Result->Shared->Prop}(hu:A.units+1<cLine)(hA:A.handled=none)(hd0:h0.get? d=none)(hi0:h0.get? it=none)(hdi:d≠it)
  (hl:h0.IsList l its)(hsz:its.size=ps.length)(hs:ps.length<sizeLine)(hp:∀(i:Nat) (p:List Key×Addr×Value),ps[i]?=some p->∃ t,its[i]?=some (.ref t)/\h0.IsTuple t #[.ref p.2.1,p.2.2]/\(tupleKind knd).is h0 p.1 p.2.1) :
  ∀(k i:Nat) (s:Shared) (xs:List (List Key×Addr×Value)) (tk:Tok),ps.length-i=k->i<=ps.length->s.heap.IsListIter it l i->Ent knd s.heap d xs->xs.length<=i->(∀ x∈xs,(tupleKind knd).is h0 x.1 x.2.1)->(∀ b q,h0.get? b=some q->s.heap.get? b=some q) ->
   (∀ h' tk',Ent knd h' d (putAll xs (ps.drop i))->(∀ b q,h0.get? b=some q->h'.get? b=some q)->R (.ok (.ret .none)) { s with heap:=h',toks:=tk' }) ->
   codeAny (model prog w) A (.builtin "dict.update.loop" ⟨[.ref d,.ref it,.int i tk,.none],[]⟩) R s:=by
 have ni:∀ b q,h0.get? b=some q->b≠it:=fun b q e z=>by rw [z,hi0] at e;cases e
 have nd:∀ b q,h0.get? b=some q->b≠d:=fun b q e z=>by rw [z,hd0] at e;cases e
 intro k
 induction k with
 | zero =>
  intro i s xs tk hk hi hit ent hx hxs kp hR
  have e:i=ps.length:=by omega
  subst e
  refine codeAny_builtin ziv ?_
  rw [Around.under_plainId zd4 _]
  unfold Builtin.«dict.update.loop»
  have hl':s.heap.IsList l its:=by obtain⟨o,h1,h2⟩:=hl;exact⟨o,kp _ _ h1,h2⟩
  refine wpAny_bind (wpAny_pyNext_list_end hA hit hl' (by simp [hsz]) fun h' ex=>?_)
  refine wpAny_bind (wpAny_pure (wpAny_pure ?_))
  refine hR h' s.toks ?_ fun b q e=>ex b q (ni b q e) (kp b q e)
  rw [List.drop_length]
  obtain⟨o,es,ep,g1,g2⟩:=ent
  exact⟨o,es,ep,ex _ _ hdi g1,g2⟩
 | succ k ih =>
  intro i s xs tk hk hi hit ent hx hxs kp hR
  have hlt:i<ps.length:=by omega
  refine codeAny_builtin ziv ?_
  rw [Around.under_plainId zd4 _]
  unfold Builtin.«dict.update.loop»
  have hl':s.heap.IsList l its:=by obtain⟨o,h1,h2⟩:=hl;exact⟨o,kp _ _ h1,h2⟩
  obtain⟨t,ht,tt,hkey⟩:=hp i _ (List.getElem?_eq_getElem hlt)
  refine wpAny_bind (wpAny_pyNext_list_item hit hl' ht fun h' hit' hs'=>?_)
  have kp':∀ b q,h0.get? b=some q->h'.get? b=some q:=fun b q e=>(hs'.2 b (ni b q e)).trans (kp b q e)
  obtain⟨ot,g1,g2,n,g3⟩:=tt
  have g1':=kp' _ _ g1
  have tT:Shared.TypeIs { s with heap:=h' } (.ref t) "tuple":=⟨ot,g1',g2⟩
  refine wpAny_bind (wpAny_holding (wpAny_bind (wpAny_tryCatch ?_)))
  unfold Builtin.Dict.pairItems
  refine wpAny_bind (wpAny_typeOf tT ?_)
  rw [if_pos (by decide)]
  refine wpAny_bind (wpAny_seqItems g1' g3 (wpAny_pure ?_))
  show wpAny _ _ (holding _ (dictSet d (.ref ps[i].2.1) ps[i].2.2)) _ _ _
  obtain⟨o,es,ep,e1,e2,e3,e4,e5⟩:=ent
  refine wpAny_holding (wpAny_dictSet_heap (knd:=tupleKind knd) (hsz:=by omega) (show A.units+1<cLine from hu) (zpm hkey kp') (xs:=xs) ⟨o,es,ep,(hs'.2 d hdi).trans e1,e2,e3,e4,fun x hx=>zpm (hxs x hx) kp',e5⟩ fun h2 dd2 sb=>?_)
  obtain⟨o2,es2,ep2,k1,k2,k3,k4,k5,k6⟩:=dd2
  have kp2:∀ b q,h0.get? b=some q->h2.get? b=some q:=fun b q e=>(sb.2 b (nd b q e)).trans (kp' b q e)
  refine wpAny_pure ⟨plainId_quiet zd4 _,?_⟩
  refine ih (i+1) _ (storedH xs ps[i].1 ps[i].2.1 ps[i].2.2) 0 (by omega) hlt ?_ ⟨o2,es2,ep2,k1,k2,k3,k4,k6⟩ (Nat.le_trans zjd (by omega)) (mem_storedH hxs hkey) kp2 fun h3 tk3 en kp3=>?_
  ·obtain⟨oi,q1,q2⟩:=hit'
   exact⟨oi,(sb.2 it (Ne.symm hdi)).trans q1,q2⟩
  ·rw [List.drop_eq_getElem_cons hlt] at hR
   exact hR h3 tk3 en kp3
theorem cdL{knd:KeyKind prog w Key}{l:Addr}{ol:Obj}{its:Array Value}{nl:Nat}{ps:List (List Key×Addr×Value)}{Q:Value->Shared->Prop}(hu:A.units+3<cLine)(hA:A.handled=none)(ho:s.heap.get? l=some ol)(hc:ol.cls=.type "list") (hdt:ol.data=.seq its nl) (hdd:ol.dict=none) (hsz:its.size=ps.length) (hs:ps.length<sizeLine)
  (hp:∀(i:Nat) (p:List Key×Addr×Value),ps[i]?=some p->∃ t,its[i]?=some (.ref t)/\s.heap.IsTuple t #[.ref p.2.1,p.2.2]/\(tupleKind knd).is s.heap p.1 p.2.1)
  (h:∀ h' tk,Ent knd h' s.heap.objs.size (putAll [] ps)->(∀ b q,s.heap.get? b=some q->h'.get? b=some q)->Q (.ref s.heap.objs.size) { s with heap:=h',toks:=tk }) :
  wpAny (model prog w) A (call (.type "dict") [.ref l]) Q E s:=by
 refine callType_codes (Q₁:=fun obj s₁=>obj=.ref s.heap.objs.size/\s₁={ s with heap:=s.heap.push { cls:=.type "dict",data:=.dict #[] } }) F.kt_called_dict (F.kt_typeCall_dict_1 _) F.entry_dict_init (kt_code_dict_new _ ⟨rfl,rfl⟩) ?_
 rintro obj s₁ ⟨rfl,rfl⟩
 have hg:=Heap.get?_push_size s.heap (o:={ cls:=.type "dict",data:=.dict #[] }) rfl
 have ho':(s.heap.push { cls:=.type "dict",data:=.dict #[] }).get? l=some ol:=Heap.get?_push_of_some _ ho
 have t1:Shared.TypeIs { s with heap:=s.heap.push { cls:=.type "dict",data:=.dict #[] } } (.ref s.heap.objs.size) "dict":=⟨_,hg,rfl⟩
 have t2:Shared.TypeIs { s with heap:=s.heap.push { cls:=.type "dict",data:=.dict #[] } } (.ref l) "list":=⟨_,ho',hc⟩
 refine⟨t1,F.args_dict_init_2 _ _,?_⟩
 unfold Builtin.«dict.__init__»
 refine wpAny_bind ?_
 unfold Builtin.Dict.selfAndRest
 refine wpAny_bind (wpAny_notOrdered_dict t1 ?_)
 show wpAny _ _ (pure (s.heap.objs.size,[Value.ref l])) _ _ _
 refine wpAny_pure ?_
 show wpAny _ _ (Builtin.Dict.updateFrom "dict.__init__" s.heap.objs.size (.ref l) [] .none) _ _ _
 unfold Builtin.Dict.updateFrom
 refine wpAny_bind (wpAny_typeOf t2 ?_)
 rw [if_pos (by decide)]
 refine wpAny_bind (zsG ho' hc hdt hdd hA fun h1 tk1 kp1=>?_)
 rw [if_pos (show(none:Option Value).isNone=true from rfl)]
 refine wpAny_bind (wpAny_rule ?_)
 have hl1:Heap.IsList h1 l its:=⟨ol,kp1 _ _ ho',hc,nl,hdt⟩
 refine wpAny_bind (wpAny_pyIter_list hl1 (wpAny_pure ⟨plainId_quiet zd4 _,?_⟩))
 have lt1:s.heap.objs.size<h1.objs.size:=Heap.lt_size (kp1 _ _ hg)
 have hi0:s.heap.get? h1.objs.size=none:=Heap.get?_none_of_le (Nat.le_of_lt lt1)
 refine zta (A:=A.in1) (knd:=knd) (its:=its) (h0:=s.heap) (ps:=ps) (show A.units+1+1<cLine by omega) hA (Heap.get?_none_of_le (Nat.le_refl _)) hi0 (Nat.ne_of_lt lt1) ⟨ol,ho,hc,nl,hdt⟩ hsz hs hp (ps.length-0) 0 _ [] 0 rfl (Nat.zero_le _) ?_ ?_ (Nat.le_refl _) (fun x hx=>nomatch hx) ?_ fun h' tk' en kp=>?_
 ·exact⟨_,Heap.get?_push_size _ rfl,rfl,rfl⟩
 ·exact⟨{ cls:=.type "dict",data:=.dict #[] },#[],0,Heap.get?_push_of_some _ (kp1 _ _ hg),⟨rfl,rfl,rfl⟩,rfl,rfl,List.nodup_nil⟩
 ·intro b q e
  exact Heap.get?_push_of_some _ (kp1 _ _ (Heap.get?_push_of_some _ e))
 ·exact⟨rfl,h h' tk' en kp⟩
end
def zlI(kvs:List (List Key×V))(ps:List (List Key×V)):List (List Key×V):=ps.foldl (fun xs p=>putK xs p.1 p.2) kvs
def ztp(H:Hp):List (List Key×V)->List V->Prop
 | [],xs=>xs=[]
 | p::ps,xs=>∃ t b r,xs=.ref t::r/\TAt H t [.ref b,p.2]/\TAt H b (p.1.map kV)/\ztp H ps r
theorem zlP{H:Hp}:∀{ps:List (List Key×V)} {xs:List V},ztp H ps xs->xs.length=ps.length
 | [],xs,h=>by cases h;rfl
 | p::ps,xs,h=>by
  obtain⟨t,b,r,rfl,_,_,hr⟩:=h
  simp [zlP hr]
theorem zie:∀(ps kvs:List (List Key×V)),(zlI kvs ps).length<=kvs.length+ps.length
 | [],kvs=>Nat.le_refl _
 | p::ps,kvs=>by
  have h:=zie ps (putK kvs p.1 p.2)
  have h1:=zfJ kvs p.1 p.2
  rw [List.length_cons]
  exact Nat.le_trans h (by omega)
section
variable {X:Cx}{pins:List (Addr×Obj)}{σ:St}{H:Hp}{s:Shared}
theorem zlM(ok:HOk X.prog X.w H s.heap):∀{ps:List (List Key×V)} {xs:List V} {its:List Value},ztp H ps xs->Vals xs its ->
  ∃ qs:List (List Key×Addr×Value),its.length=qs.length/\(∀(i:Nat) (p:List Key×Addr×Value),qs[i]?=some p->∃ t,its[i]?=some (.ref t)/\s.heap.IsTuple t #[.ref p.2.1,p.2.2]/\(tupleKind (zbJ X.prog X.w)).is s.heap p.1 p.2.1) /\
   ∀ kvs zs,KT H kvs zs->KT H (zlI kvs ps) (putAll zs qs)
 | [],xs,its,h,v=>by
  cases h;cases v
  exact⟨[],rfl,(fun i p e=>by simp at e),fun _ _ k=>k⟩
 | (k,y)::ps,xs,its,h,v=>by
  obtain⟨t,b,r,rfl,ht,hb,hr⟩:=h
  obtain⟨u,us,e1,e2,e3⟩:∃ u us,its=u::us/\RelV (.ref t) u/\Vals r us:=by
   cases v with
   | cons a b=>exact⟨_,_,rfl,a,b⟩
  cases (show u=Value.ref t from e2)
  subst e1
  obtain⟨qs,h1,h2,h3⟩:=zlM ok hr e3
  obtain⟨_,tv,rt,o,g1,g2,n,g3⟩:=(show zbR X.prog X.w H s.heap t (.tup [.ref b,y]) from Rd.ok ht ok)
  obtain⟨v1,v2,rfl,w1,w2⟩:=vals2 rt
  cases (show v1=Value.ref b from w1)
  refine⟨(k,b,v2)::qs,by simp [h1],fun i p e=>?_,fun kvs zs kt=>h3 _ _ (kt.put k hb w2)⟩
  cases i with
  | zero =>
   cases e
   exact⟨t,rfl,⟨o,g1,g2,n,g3⟩,zgz ok hb⟩
  | succ i=>exact h2 i p e
theorem zk7(hu:X.A.units+3<cLine)(hc:X.calm=true):zc3 X (.type "dict") (fun xs H Q=>∃ p ys ps,xs=[.ref p]/\SqL X.K H p ys/\ztp H ps ys/\ps.length<sizeLine/\∀ l,H l=none->Q (.ref l) (upd H l (.dT (zlI [] ps)))):=by
 intro pins s σ H xs us Q I r h
 obtain⟨p,ys,ps,rfl,sq,pr,hl,q⟩:=h
 obtain⟨u,rfl,rx⟩:=vals1 r
 cases rx
 obtain⟨its,vs,⟨ol,n,e1,e2,e3,e4⟩,hsz⟩:=I.list sq
 obtain⟨qs,h1,h2,h3⟩:=zlM I.hok pr vs
 refine cdL (knd:=zbJ X.prog X.w) (ps:=qs) hu (I.ok.hd hc) e1 e2 e4 e3 (by simpa using h1) ?_ (fun i p e=>by simpa using h2 i p e) fun h' tk en kp=>?_
 ·rw [<- h1,<- vs.length]
  have:=zlP pr
  omega
 ·obtain⟨o,es,ep,g1,g2,g3,g4,g5⟩:=en
  have hn:=I.hok.fresh (Nat.le_refl s.heap.objs.size)
  have kt:=h3 [] [] .nil
  refine⟨.ref s.heap.objs.size,_,I.laid (a:=s.heap.objs.size) (o:=.dT (zlI [] ps)) (t':=tk) kp (Nat.le_refl _) ⟨?_,beq_eq_false_iff_ne.mpr (Ne.symm (Nat.ne_of_lt I.big)),_,kt.keeps fun c ws ec=>?_,o,es,ep,g1,g2,g3,g4,g5⟩,rfl,q _ hn⟩
  ·exact Nat.le_trans (zie ps []) (by rw [List.length_nil,Nat.zero_add];exact Nat.le_of_lt hl)
  ·exact ec.upd (fun _ z=>za8 z hn) fun _ _ z=>za8 z hn
end
end L2
namespace FL
open PySem L2 PySem.Spec
open PyProof.Rows hiding St
section
def zkK:List D->Option (List (List K1×D))
 | []=>some []
 | .tuple [.tuple kx,v]::r=>(zld kx).bind fun ks=>(zkK r).map fun l=>(ks,v)::l
 | _::_=>none
def zlH(kvs:List (D×D))(ps:List (List K1×D)):List (D×D):=ps.foldl (fun kvs p=>zqf kvs (zkV p.1) (.inl p.1) p.2) kvs
def ziw:D->R D
 | .list l=>chk (leB (l.length+1) lim) ((R.of (zkK l)).bind fun ps=>.ok (.dict (zlH [] ps)))
 | _=>.bad
variable [Cs]
section
variable {K:PySem.W.Frag}{X:Cx}{x:Str}{p pos:Pos}{e:Expr}{f:EF}{H:Hp}
theorem zo4:∀{l:List D} {ps:List (List K1×D)} {vs:List V},zkK l=some ps->zae K H l vs->∃ qs:List (List Key×V),ztp H qs vs/\qs.length=l.length/\∀ H',Fzn H H'->∀ kvs kk,zb9 K H' kvs kk->zb9 K H' (zlH kvs ps) (zlI kk qs)
 | [],ps,vs,h,f=>by
  cases h
  simp only [zae] at f
  exact⟨[],f,rfl,fun _ _ _ _ z=>z⟩
 | d::r,ps,vs,h,f=>by
  unfold zkK at h
  split at h
  ·cases ‹d::r=[]›
  ·rename_i kx v r' eq
   cases eq
   obtain⟨ks,e1,h⟩:=Option.bind_eq_some_iff.mp h
   obtain⟨l,e2,rfl⟩:=Option.map_eq_some_iff.mp h
   have:=zho e1
   subst this
   simp only [zae,Fz] at f
   obtain⟨_,us,rfl,⟨t,_,rfl,tt,_,_,rfl,⟨b,bs,rfl,tb,fb⟩,v2,_,rfl,fv,rfl⟩,fr⟩:=f
   rw [zmz fb] at tb
   obtain⟨qs,h1,h2,h3⟩:=zo4 e2 fr
   exact⟨(ks,v2)::qs,⟨t,b,us,rfl,tt,tb,h1⟩,by simp [h2],fun H' fz kvs kk z=>h3 H' fz _ _ (zsa z (fv.mono fz) ks)⟩
  ·cases h
theorem zr2{k:Nat}(hr:zbU k X.A)(hm:X.mg x=none)(hv:bootBuiltins x=some (.type "dict")) (ha:PV K X e f) (hc:X.calm=true:=by rfl) (hg:Gl X x:=by rfl) (hn:x ≠ "__name__":=by decide) (hdb:(x==("__debug__":Str))=false:=by decide)
  (he:starEach [e] X.env=(false,eval e X.env)::starEach [] X.env:=by exact FL.se rfl) (hpl:(backTo pos (starEach [] X.env)).any (·.1)=false:=by exact FL.sp rfl):PVN K X (.Call (.Name x p) [e] [] pos) (e1 ziw f):=.mk fun hK=>by
 subst hK
 refine(zfD (zk7 (by have:=hr.units;omega) hc) hg hm hv (zbc (ha rfl) zdB he) hn hdb he hpl).weak fun σ H Q=>?_
 rintro⟨ρ,rel,q⟩
 refine goV rel q fun dx ρ1 v H1 rel1 st1 fx q1=>?_
 obtain⟨d,ed,q2⟩:=q1.zc0
 cases dx with
 | list l =>
  obtain⟨cl,ed⟩:=zaX (show chk _ _=.ok d from ed)
  obtain⟨ps,ep,ed⟩:=zai ed
  cases ed
  obtain⟨a,ys,rfl,sx,fy⟩:=fx.tp.lst
  obtain⟨qs,h1,h2,h3⟩:=zo4 (zj5 ep) fy
  have l0:=zbo
  have:=zeA cl
  refine⟨a,ys,qs,rfl,sx,h1,by omega,fun l hl=>q2.new rel1 (zaM.upd hl) l (st1.none rel1 hl) ⟨_,zal,?_⟩⟩
  exact h3 _ (Fzn.of (zaM.upd hl)) [] [] (by simp [zb9])
 | _=>exact nomatch (show(R.bad:R D)=.ok d from ed)
end
end
section
def zrt[Cs](P:Program)(w:World)(K:PySem.W.Frag)(mg:Str->Option Value)(base:Heap)(c:String)(m:Str)(k:Nat)(ps:List Str)(ks:List (Option String))(G:List D->R D):Prop :=
 ∃(C f:Addr) (ns:List Str) (fd:FuncData),Cs.O c=some (C,ns)/\m∉ns/\Cls K C/\Meth K C m f/\Binds K fd ps []/\zes P w K mg base (CXe P w) k f fd ps (spO K (some c::ks) false G)
abbrev CTm[Cs](c:String)(m:Str)(k:Nat)(ps:List Str)(ks:List (Option String))(G:List D->R D)(P:Program)(w:World)(K:PySem.W.Frag)(mg:Str->Option Value)(base:Heap):Prop:=zrt P w K mg base c m k ps ks G
section
variable [Cs]{K:PySem.W.Frag}{X:Cx}{x m:Str}{px pos apos:Pos}{c:String}{k j:Nat}{ps:List Str}{e:Expr}{es:List Expr}{G:List D->R D}{fa:AF}{ks:List (Option String)}
theorem zr5{pl:Sem Bool}(i:Nat)(M:zrt X.prog X.w X.K X.mg X.base c m k ps ks G)(hr:zbU j X.A)(ha:PAO K X ks (e::es) fa)(hv:PE X (.Name x px) (zdX i):=by exact pv _)(hj:k<=j:=by decide)
  (hst:starEach (e::es) X.env=(false,eval e X.env)::starEach es X.env:=by exact FL.se rfl)(hpl:(backTo pos (starEach es X.env)).any (·.1)=false:=by exact FL.sp rfl)
  (ht:eval (.Call (.Attribute (.Name x px) m apos) (e::es) [] pos) X.env=(do
   let ov <- eval (.Name x px) X.env
   standAt apos.atName
   let(f,first) <- holding [ov] (getMethod ov m pl)
   callWith pos f first (backTo pos (starEach (e::es) X.env)) (backToKw pos (keywordEach [] X.env))):=by rfl) :
  PV K X (.Call (.Attribute (.Name x px) m apos) (e::es) [] pos) (zaj G (aOb i c fa)):=by
 obtain⟨C,f,ns,fd,h1,h2,h3,h4,h5,h6⟩:=M
 exact znM h1 h2 hv h3 h4 h6 (hr.mono hj) h5 zey ha hst hpl ht
end
section
variable [Cs]{P:Program}{w:World}{K:PySem.W.Frag}{mg:Str->Option Value}{base:Heap}{x q:Str}{st:Stmt}{ps:List Str}{k n:Nat}{b:SF}{c:String}{C f:Addr}{ns:List Str}{fd:FuncData}
theorem fnT(ks:List (Option String))(N:List Str)(B:Ob K c C ns)(M:Meth K C x f)(F:Fun K x q st f fd)
  (hb:∀{f:Addr} {cdv:Value} {A:Around} {outer:List Env} {s:Shared} {H:Hp} {E:XK},zbU k (A.deeper (envOfC q (zak st) s.heap.objs.size f cdv))->N.Nodup->zga K (zjt (CXe P w) P w K mg base N q (zak st) f cdv A outer s H E).nox (zaB st) b)
  (hx:x∉ns:=by decide)(S:zbZ N ps (zak st):=by exact⟨rfl,rfl,rfl,by decide +kernel,rfl,by decide +kernel,by decide +kernel⟩)(hps:ps.length=ks.length+1:=by rfl)(hpN:ps.length<=N.length:=by decide)
  (hbi:∀(kV doc pm:Value) (an:Option Addr) (cdv ct:Value) (us:List Value),us.length=ps.length->bindArgs (PySem.W.fnOf x q (zbM st) (zaB st) (zak st) .none kV doc pm an cdv ct) ⟨us,[]⟩=pure (ps.zip us):=by
   first
    | exact fun _ _ _ _ _ _ us hl=>match us,hl with | [_],_=>rfl
    | exact fun _ _ _ _ _ _ us hl=>match us,hl with | [_,_],_=>rfl
    | exact fun _ _ _ _ _ _ us hl=>match us,hl with | [_,_,_],_=>rfl):zrt P w K mg base c x (k+1) ps ks (zry (some c::ks) false N.length b) :=
 ⟨C,f,ns,fd,B.o,hx,B.c,M,F.binds hbi,zmK (some c::ks) false F S (by rw [hps];rfl) hpN fun cdv A outer s H E hr=>zg4 (hb hr S.nd)⟩
end
end
section
def zvn(dom:List Nat):Nat->En->En->Prop
 | _,[],[]=>True
 | k,x0::r0,x::r=>((k∈dom/\∀ p c,x≠.ow p c)\/(x=x0/\∀ p c,x≠.ow p c)\/(k∉dom/\∃(p:Bool) (ns:List Int),x=.ow p (.list (ns.map PyData.int))))/\zvn dom (k+1) r0 r
 | _,_,_=>False
open Classical in
noncomputable def zvE(dom:List Nat)(ρ0:En):SF:=fun ρ=>if zvn dom 0 ρ0 ρ/\∀ k∈dom,k<ρ.length then .ok (.nx,kill dom ρ) else .bad
def LL2(d:D):Prop:=∃ rows:List (List D),rows.length<=1000/\d=.list (rows.map PyData.list)
open Classical in
noncomputable def zwe(i:Nat)(f:EF)(t:SF):SF:=fun ρ=>(f ρ).bind fun y=>if LL2 y.1 then(gN i y.1 y.2).bind t else .bad
variable [Cs]
section
variable {K:PySem.W.Frag}{X:Cx}{i j ir:Nat}{dom dm nw:List Nat}{st:Stmt}{rest:List Stmt}{s t:SF}{g:En->SF}{e:Expr}{f:EF}{pos:Pos}
theorem znS{sts:List Stmt}{T:TS}(h:PSs X sts T):PSs X sts (fun Dn σ H=>∃ Z:Addr->Prop,(∀ b,Z b->(∃ o xs,H b=some (.frz o (.lst xs)))/\∀ o u,X.H₀ b≠some (.frz o u))/\T Dn σ (zlc Z H)):=fun pins s σ H Dn I ⟨Z,hz,q⟩=>h pins s σ _ Dn (ztK I hz) q
end
end
section
mutual
def flat:D->Bool
 | .list _=>false
 | .dict _=>false
 | .tuple xs=>zgl xs
 | _=>true
def zgl:List D->Bool
 | []=>true
 | d::r=>flat d&&zgl r
end
def zow:Sl->Bool
 | .val d=>flat d
 | .ob _ ds=>zgl ds
 | _=>false
def zi5:Sl->Bool
 | .ow _ _=>false
 | _=>true
def zq1:Sl->Bool
 | .ow _ (.list l)=>(intsOf l).isSome
 | _=>false
def E3(dead dom:List Nat):Nat->En->En->Prop
 | _,[],[]=>True
 | k,x0::r0,x::r=>((k∈dead/\zi5 x=true)\/(k∉dead/\(x=.no\/(x=x0/\k∉dom/\zi5 x=true)\/zow x=true\/zq1 x=true)))/\E3 dead dom (k+1) r0 r
 | _,_,_=>False
theorem E3.get{dead dom:List Nat}:∀{k:Nat} {ρ0 ρ:En},E3 dead dom k ρ0 ρ->∀{i:Nat} {x:Sl},ρ[i]?=some x->(k+i∈dead/\zi5 x=true)\/(k+i∉dead/\(x=.no\/(ρ0[i]?=some x/\k+i∉dom/\zi5 x=true)\/zow x=true\/zq1 x=true))
 | k,[],[],_,i,x,e=>nomatch e
 | k,x0::r0,y::r,h,0,x,e=>by
  cases e
  rcases h.1 with h|⟨n,h|⟨z,h⟩|h⟩
  ·exact .inl h
  ·exact .inr ⟨n,.inl h⟩
  ·exact .inr ⟨n,.inr (.inl ⟨by rw [z];rfl,h⟩)⟩
  ·exact .inr ⟨n,.inr (.inr h)⟩
 | k,x0::r0,y::r,h,i+1,x,e=>by
  have z:=E3.get h.2 (i:=i) e
  rw [show k+1+i=k+(i+1) by omega] at z
  exact z
 | k,[],y::r,h,_,_,_=>h.elim
 | k,x0::r0,[],h,_,_,_=>h.elim
open Classical in
noncomputable def zh0(dead dom:List Nat)(t:SF)(ρ0:En):SF:=fun ρ=>if E3 dead dom 0 ρ0 ρ/\∀ k∈dead,k<ρ.length then t (kill dead ρ) else .bad
def zjQ(it:Nat)(f:EF)(g:En->SF):SF:=fun ρ=>(f ρ).bind fun y=>(gN it y.1 y.2).bind fun ρ1=>g ρ ρ1
def N3(H H':Hp)(v:V):Prop:=∃ t v1 v2 p o xs,v=.ref t/\TAt H' t [v1,v2,.ref p]/\H p=none/\H' p=some (.frz o (.lst xs))
theorem N3.mono{H H1 H2:Hp}{v:V}(h:N3 H H1 v)(f:Fzn H1 H2):N3 H H2 v:=by
 obtain⟨t,v1,v2,p,o,xs,e1,e2,e3,e4⟩:=h
 exact⟨t,v1,v2,p,o,xs,e1,f.zlv e2,e3,f _ _ e4 trivial⟩
variable [Cs]
def tV3(K:PySem.W.Frag)(f:EF):TE:=fun σ H Q=>∃ ρ,Rel K ρ σ H/\Good K ρ σ H (f ρ) fun d _ H'=>∀ v,Fz K H' d v->N3 H H' v->Q v H'
def tN3(K:PySem.W.Frag)(f:EF):TE:=fun σ H Q=>∃ ρ,Rel K ρ σ H/\Good K ρ σ H (f ρ) fun d _ H'=>∀ a vs,H a=none->H' a=some (.lst vs)->zby K H' a d->(∀ v∈vs,N3 H H' v)->Q (.ref a) H'
def PV3(K:PySem.W.Frag)(X:Cx)(e:Expr)(f:EF):Prop:=X.K=K->PE X e (tV3 K f)
def PS3(K:PySem.W.Frag)(X:Cx)(st:Stmt)(i:Nat)(f:EF):Prop:=X.K=K->PS X st (zrx (tN3 K f) (zk3 i))
section
variable {K:PySem.W.Frag}{X:Cx}
theorem zqe{a b c:Expr}{f g h:EF}{x1}{pos:Pos}(ha:PV K X a f)(hb:PV K X b g)(hc:PVN K X c h)(hl:∀ ρ y,h ρ=.ok y->∃ es,y.1=.list es)
  (h1:starEach [a,b,c] X.env=(false,eval a X.env)::starEach [b,c] X.env:=by exact FL.se rfl)(h2:starEach [b,c] X.env=(false,eval b X.env)::starEach [c] X.env:=by exact FL.se rfl)(h3:starEach [c] X.env=(false,eval c X.env)::starEach [] X.env:=by exact FL.se rfl) :
  PV3 K X (.Tuple [a,b,c] x1 pos) (za5 (zab f (zab g (zab h zam)))):=fun hK=>(zo7 (zbc (ha hK) (zbc (hb hK) (zbc (hc.vf hK) zdB h3) h2) h1)).weak fun σ H Q=>by
 rintro⟨ρ,rel,q⟩
 obtain⟨x,ex,q⟩:=q.zc0
 obtain⟨c,q⟩:=q.chk
 obtain⟨y1,e1,ex⟩:=zai (show(f ρ).bind _=.ok x from ex)
 obtain⟨z,ez,ex⟩:=zai ex
 obtain⟨y2,e2,ez⟩:=zai (show(g y1.2).bind _=.ok z from ez)
 obtain⟨z',ez',ez⟩:=zai ez
 obtain⟨y3,e3,ez'⟩:=zai (show(h y2.2).bind _=.ok z' from ez')
 cases ez'
 cases ez
 cases ex
 refine⟨ρ,rel,?_⟩
 rw [e1]
 intro H1 rel1 st1 v fv
 refine⟨y1.2,rel1,?_⟩
 rw [e2]
 intro H2 rel2 st2 u fu
 refine⟨y2.2,rel2,?_⟩
 rw [e3]
 intro H3 rel3 st3 w fw nw
 refine⟨by have:=zbo;have:=zeA c;simp only [List.length_cons,List.length_nil] at *;omega,fun p hp=>?_⟩
 have sm:zaM H3 (upd H3 p (.tup [v,u,w])):=zaM.upd hp
 have st:=(st1.trans st2).trans st3
 have f2:=st2.fzn rel1
 have f3:=st3.fzn rel2
 refine q _ (rel3.same sm) (st.trans (.of sm)) _ ?_ ?_
 ·simp only [Fz,zae]
  exact⟨p,[v,u,w],rfl,.inl zal,v,[u,w],rfl,((fv.mono f2).mono f3).mono (Fzn.of sm),u,[w],rfl,(fu.mono f3).mono (Fzn.of sm),w,[],rfl,fw.mono (Fzn.of sm),rfl⟩
 ·obtain⟨a,o,xs,z1,z2,z3⟩:=nw (hl _ _ e3)
  subst z1
  exact⟨p,v,u,a,o,xs,rfl,.inl zal,(st1.trans st2).none rel2 z2,Fzn.of sm _ _ z3 trivial⟩
theorem zvZ{f:EF}:∀ ρ y,e1 zdM f ρ=.ok y->∃ es,y.1=.list es:=fun ρ y e=>by
 obtain⟨z,_,e⟩:=zai (show(f ρ).bind _=.ok y from e)
 obtain⟨d,e1,e⟩:=zai e
 cases e
 obtain⟨d0,ρ0⟩:=z
 cases d0 with
 | list l=>cases e1;exact⟨l,rfl⟩
 | tuple l=>cases e1;exact⟨l,rfl⟩
 | _=>cases e1
section
variable {elt tg iter:Expr}{ifs:List Expr}{scope:Scope}{pos p:Pos}{it:IF}{g:GF}{t:TF}{f:EF}{dom:List Nat}{x:Str}{py:Pos}
theorem zq5{k:Nat}{ix:List Nat}(nd:ix.Nodup)(hgo:dom.all (fun i=>decide (i<k))=true)(σ:L2.St)(H:Hp)(Q:VK)(q:tN3 K (zbd k ix it g t f) σ H Q):ziU k ix (tI K it) (tG K dom g) (tT K t) (tV3 K f) σ H Q:=by
 revert q
 rintro⟨ρ0,rel0,q⟩
 obtain⟨x,ex,q⟩:=q.bnd
 refine⟨ρ0,rel0,?_⟩
 rw [ex]
 intro H1 rel1 st1 J wk l hl
 obtain⟨items,ρs⟩:=x
 have hl0:H l=none:=by
  cases e:H l with
  | none=>rfl
  | some o =>
   by_cases m:MA ρ0 σ l
   ·obtain⟨o',e',_⟩:=rel1.zaO (st1.ma.mp m)
    rw [hl] at e';cases e'
   ·rw [st1.kp l o e m] at hl;cases hl
 have sl:zaM H1 (upd H1 l (.lst [])):=zaM.upd hl
 refine⟨fun i m ys H2=>m=items.length-i/\i<=items.length/\H2 l=some (.lst ys)/\∃ ρ acc,Rel K ρ σ H2/\¬ MA ρ σ l/\zae K H2 acc ys/\(∀ v∈ys,N3 H H2 v)/\Fzn H1 H2/\Stp ρ0 ρ σ H H2 /\
  Good K ρ0 σ H ((zcx k ix g t f (items.drop i) ρ acc).bind fun(y:List D×En)=>.ok ((PyData.list y.1:D),y.2)) fun d ρ' H'=>∀ a vs,H a=none->H' a=some (.lst vs)->zby K H' a d->(∀ v∈vs,N3 H H' v)->Q (.ref a) H',
  ⟨items.length,by simp,Nat.zero_le _,zal,ρs,[],rel1.same sl,fun z=>?_,by simp [zae],(fun v hv=>nomatch hv),Fzn.of sl,st1.trans (.of sl),q⟩,?_⟩
 ·obtain⟨o',e',_⟩:=rel1.zaO z
  rw [hl] at e';cases e'
 rintro i m ys H2 ⟨rfl,hi,hly,ρ,acc,rel,nma,fa,nw,fz,st0,gd⟩
 refine⟨hly,?_⟩
 by_cases c:i<items.length
 ·have ed:=List.drop_eq_getElem_cons c
  rw [ed] at gd
  obtain⟨hgo',hy⟩:=wk.1 i items[i] H2 fz (List.getElem?_eq_getElem c)
  refine .inr ⟨hgo',fun x H3 y=>?_⟩
  obtain⟨sm,fx⟩:=hy x H3 y
  have rel3:Rel K ρ σ H3:=rel.same sm
  obtain⟨w,ew,gd⟩:=gd.zc0
  obtain⟨β1,e1,ew⟩:=zai (show(g items[i] (blk k ix ρ)).bind _=.ok w from ew)
  obtain⟨c1,ec,ew⟩:=zai ew
  refine⟨blk k ix ρ,items[i],β1,zmY nd rel3,fx,e1,fun σ1 relβ chg=>⟨β1,relβ,?_⟩⟩
  rw [ec]
  intro H5 rel5 st5
  have hσ:∀ j,σ1[k+j]?=(zeq k ix σ)[k+j]?:=fun j=>by
   rcases chg.2 (k+j) with⟨_,c2⟩|⟨m,_⟩
   ·exact c2
   ·have:=of_decide_eq_true (List.all_eq_true.mp hgo _ m)
    omega
  have hβ:∀ j,β1[k+j]?=(blk k ix ρ)[k+j]?:=fun j=>by
   rcases chg.2 (k+j) with⟨c2,_⟩|⟨m,_⟩
   ·exact c2
   ·have:=of_decide_eq_true (List.all_eq_true.mp hgo _ m)
    omega
  have hMA:∀ a,MA β1 σ1 a->MA (blk k ix ρ) (zeq k ix σ) a:=fun a ⟨j,⟨p,d,z1⟩,z2⟩=>by
   rcases chg.2 j with⟨c1,c2⟩|⟨_,⟨d',c1⟩,_⟩
   ·exact⟨j,⟨p,d,by rw [<- c1];exact z1⟩,by rw [<- c2];exact z2⟩
   ·rw [c1] at z1;cases z1
  have hMB:∀ a,MA (blk k ix ρ) (zeq k ix σ) a->MA ρ σ a:=fun a ⟨j,h⟩=>by
   obtain⟨_,i,_,_,h⟩:=zgH h
   exact⟨i,h⟩
  have h3l:H3 l=some (.lst ys):=sm l _ hly
  have n1:¬ MA β1 σ1 l:=fun z=>nma (hMB l (hMA l z))
  have h5l:H5 l=some (.lst ys):=st5.kp l _ h3l n1
  obtain⟨cb,β2⟩:=c1
  cases cb with
  | true =>
   refine zoo ⟨β2,rel5,?_⟩
   obtain⟨y,ey,ew⟩:=zai (show(f β2).bind _=.ok w from ew)
   rw [ey]
   intro H6 rel6 st6 v fv nv
   obtain⟨cc,ew⟩:=zaX ew
   have n2:¬ MA β2 σ1 l:=fun z=>n1 (st5.ma.mpr z)
   have h6l:H6 l=some (.lst ys):=st6.kp l _ h5l n2
   have st:Stp β1 y.2 σ1 H3 H6:=st5.trans st6
   obtain⟨rb,sb⟩:=zhD (k:=k) nd rel3 hσ rel6 (fun j p=>by rw [<- hβ j];exact(st.md (k+j) p).symm) (fun a o h n=>st.kp a o h fun z=>n (hMA a z))
   have nmb:¬ MA (back ρ ix (y.2.drop k)) σ l:=fun z=>nma (sb.ma.mpr z)
   have fz6:Fzn H2 H6:=(Fzn.of sm).trans (sb.fzn rel3)
   have fz7:Fzn H6 (upd H6 l (.lst (ys++[v]))):=fun b u e s=>by
    rw [zao fun z=>by subst z;rw [h6l] at e;cases e;exact s]
    exact e
   refine⟨h6l,?_,items.length-(i+1),by omega,rfl,c,zal,back ρ ix (y.2.drop k),acc++[y.1],rb.put nmb (fun u e=>by rw [h6l] at e;cases e;exact fun z=>z),nmb,?_,?_,(fz.trans fz6).trans fz7,⟨((st0.trans (.of sm)).trans sb).md,fun a o h n=>?_⟩,?_⟩
   ·have:=zeA cc
    have l0:=zbo
    rw [fa.len];omega
   ·refine((fa.mono fz6).mono fz7).app ?_
    simp only [zae]
    exact⟨v,[],rfl,fv.mono fz7,rfl⟩
   ·intro u hu
    rcases List.mem_append.mp hu with m|m
    ·exact((nw u m).mono fz6).mono fz7
    ·obtain rfl:=List.mem_singleton.mp m
     obtain⟨t,v1,v2,p,ob,xs,e1,et,e2,e3⟩:=nv
     have e4:=st5.none rel5 e2
     have e5:H2 p=none:=by
      cases e:H2 p with
      | none=>rfl
      | some u=>rw [sm p u e] at e4;cases e4
     exact⟨t,v1,v2,p,ob,xs,e1,fz7.zlv et,st0.none rel e5,fz7 _ _ e3 trivial⟩
   ·rw [zao fun z=>by subst z;rw [hl0] at h;cases h]
    exact((st0.trans (.of sm)).trans sb).kp a o h n
   ·rw [ew]
    exact gd
  | false =>
   obtain⟨rb,sb⟩:=zhD (k:=k) nd rel3 hσ rel5 (fun j p=>by rw [<- hβ j];exact(st5.md (k+j) p).symm) (fun a o h n=>st5.kp a o h fun z=>n (hMA a z))
   have nmb:¬ MA (back ρ ix (β2.drop k)) σ l:=fun z=>nma (sb.ma.mpr z)
   have fz6:Fzn H2 H5:=(Fzn.of sm).trans (sb.fzn rel3)
   refine zop ⟨items.length-(i+1),by omega,rfl,c,h5l,back ρ ix (β2.drop k),acc,rb,nmb,fa.mono fz6,(fun u hu=>(nw u hu).mono fz6),fz.trans fz6,(st0.trans (.of sm)).trans sb,?_⟩
   rw [show zcx k ix g t f (items.drop (i+1)) (back ρ ix (β2.drop k)) acc=.ok w from ew]
   exact gd
 ·have e:i=items.length:=by omega
  subst e
  rw [List.drop_length] at gd
  exact .inl ⟨wk.2 _ H2 fz (Nat.le_refl _),gd H2 rel st0 l ys hl0 hly ⟨ys,hly,fa⟩ nw⟩
theorem zv8(i0:Nat)(L:List Str)(ix:List Nat)(M:List Str)(hN:X.N.Nodup)(hi:PVI K X tg iter it)(hg:∀{C:Addr} {s₃:Shared} {H₃:Hp} {fp:List Addr},M.Nodup->PVG K (zat X M scope C s₃ H₃ fp) dom tg g)(ht:∀{C:Addr} {s₃:Shared} {H₃:Hp} {fp:List Addr},zoR K (zat X M scope C s₃ H₃ fp) ifs t)(he:∀{C:Addr} {s₃:Shared} {H₃:Hp} {fp:List Addr},PV3 K (zat X M scope C s₃ H₃ fp) elt f)
  (h0:X.N[i0]?=some x:=by rfl)(hl:X.env.scope.names.lookup x=some .local:=by rfl)(hsw:swapsWith (.ListComp elt [⟨tg,iter,ifs,0⟩] scope pos) (some (.Name x py)) p.line X.env=pure true:=by rfl)(hc:X.calm=true:=by rfl)(hk:scope.kind=.function:=by rfl)(ho:zcR X.env.scope scope X.N ix=true:=by kernel_rfl)(hM:M=L++ix.map (fun i=>X.N.getD i ""):=by rfl) (nd:ix.Nodup:=by decide) (hMn:M.Nodup:=by decide +kernel) (hd:(dom.all fun i=>decide (i<L.length))=true:=by decide) (hs:∀ v,foldedSetIterable iter X.env v=pure v:=by intro _;rfl) :
  PS3 K X (.Assign [.Name x py] (.ListComp elt [⟨tg,iter,ifs,0⟩] scope pos) p) i0 (zbd L.length ix it g t f):=fun hK =>
 (zlK i0 L ix M hN h0 hl hsw hc hk ho hM (hi hK) (fun C s₃ H₃ fp=>hg hMn hK) (zhr hd) (fun C s₃ H₃ fp=>ht hK) (fun C s₃ H₃ fp=>he hK) hs).weak fun Dn σ H q=>zq5 nd hd σ H _ q
end
end
section
variable {K:PySem.W.Frag}{H H':Hp}
mutual
theorem Fz.flt(k:∀ b u,H b=some u->(∀ o xs,u≠.frz o (.lst xs))->H' b=some u):∀(d:D) (v:V),flat d=true->Fz K H d v->Fz K H' d v
 | .none,v,_,h=>by simp only [Fz] at h ⊢;exact h
 | .bool b,v,_,h=>by simp only [Fz] at h ⊢;exact h
 | .int i,v,_,h=>by simp only [Fz] at h ⊢;exact h
 | .str x,v,_,h=>by simp only [Fz] at h ⊢;exact h
 | .list xs,v,f,h=>by simp only [flat,Bool.false_eq_true] at f
 | .dict xs,v,f,h=>by simp only [flat,Bool.false_eq_true] at f
 | .tuple xs,v,f,h=>by
  simp only [flat] at f
  simp only [Fz] at h ⊢
  obtain⟨a,vs,e1,h1,h2⟩:=h
  refine⟨a,vs,e1,?_,zae.flt k xs vs f h2⟩
  rcases h1 with h1|⟨o,h1⟩
  ·exact .inl (k _ _ h1 fun _ _ z=>nomatch z)
  ·exact .inr ⟨o,k _ _ h1 fun _ _ z=>nomatch z⟩
theorem zae.flt(k:∀ b u,H b=some u->(∀ o xs,u≠.frz o (.lst xs))->H' b=some u):∀(ds:List D) (vs:List V),zgl ds=true->zae K H ds vs->zae K H' ds vs
 | [],vs,_,h=>by simp only [zae] at h ⊢;exact h
 | d::ds,vs,f,h=>by
  simp only [zgl,Bool.and_eq_true] at f
  simp only [zae] at h ⊢
  obtain⟨v,r,e1,h1,h2⟩:=h
  exact⟨v,r,e1,Fz.flt k d v f.1 h1,zae.flt k ds r f.2 h2⟩
end
theorem zjB.flt(k:∀ b u,H b=some u->(∀ o xs,u≠.frz o (.lst xs))->H' b=some u){x:Sl}{v:Option V}(f:zow x=true)(h:zjB K H x v):zjB K H' x v:=by
 cases x with
 | val d=>cases v with
  | none=>exact h.elim
  | some v=>exact Fz.flt k d v f h
 | ob c ds=>cases v with
  | none=>exact h.elim
  | some v=>cases v with
   | ref a =>
    obtain⟨C,ns,dx,vs,h1,h2,h3,h4⟩:=h
    exact⟨C,ns,dx,vs,h1,k _ _ h2 (fun _ _ z=>nomatch z),h3,zae.flt k ds vs f h4⟩
   | _=>exact h.elim
 | _=>cases f
end
structure Ld3(X:Cx)(K:PySem.W.Frag)(C:SC)(it:Nat)(dom:List Nat)(ρ0:En)(σ0:L2.St)(H0:Hp)(a:Addr)(vs:List V)(σ:L2.St)(H:Hp):Prop where
 ok0:∀(i:Nat) x v,i≠it->ρ0[i]?=some x->σ0[i]?=some v->zjB K H0 x v
 fr:Frm dom σ0 σ
 tl:σ0[it]?=some (some (.ref a))
 fz:Fzn H0 H
 top:∃ o,H a=some (.frz o (.lst vs))
 a0:H0 a=none
 inn:∀ v∈vs,∃ t v1 v2 p o xs,v=.ref t/\TAt H t [v1,v2,.ref p]/\H0 p=none/\H p=some (.frz o (.lst xs))/\p≠a
 x0:∀ p,H0 p=none->∀ o u,X.H₀ p≠some (.frz o u)
 c0:∀ p,H0 p=none->C.H₀ p=none
 cst:znh H0
theorem Ld3.step{X:Cx}{K:PySem.W.Frag}{C:SC}{it:Nat}{dom:List Nat}{ρ0:En}{σ0:L2.St}{H0:Hp}{a:Addr}{vs:List V}{σ σ1:L2.St}{H H1:Hp}(l:Ld3 X K C it dom ρ0 σ0 H0 a vs σ H)(fm:Frm dom σ σ1)(f:Fzn H H1):Ld3 X K C it dom ρ0 σ0 H0 a vs σ1 H1 :=
 ⟨l.ok0,l.fr.trans fm,l.tl,l.fz.trans f,(by obtain⟨o,e⟩:=l.top;exact⟨o,f _ _ e trivial⟩),l.a0,fun v hv=>by
  obtain⟨t,v1,v2,p,o,xs,e1,e2,e3,e4,e5⟩:=l.inn v hv
  exact⟨t,v1,v2,p,o,xs,e1,f.zlv e2,e3,f _ _ e4 trivial,e5⟩,l.x0,l.c0,l.cst⟩
def tL3(K:PySem.W.Frag)(X:Cx)(C:SC)(it:Nat)(dom:List Nat)(g:En->SF):TS:=fun Dn σ H=>∃ ρ0 σ0 H0 a vs ρ,zcI K C ρ σ H/\Ld3 X K C it dom ρ0 σ0 H0 a vs σ H/\zbz K C H0 (g ρ0 ρ) Dn
def ztF(K:PySem.W.Frag)(X:Cx)(it:Nat)(dom:List Nat)(st:List Stmt)(g:En->SF):Prop:=X.K=K->∀ C,PSs X st (tL3 K X C it dom g)
theorem TAt.fn{H:Hp}{t:Addr}{xs ys:List V}(a:TAt H t xs)(b:TAt H t ys):xs=ys:=by
 rcases a with a|⟨o,a⟩ <;> rcases b with b|⟨o',b⟩ <;> rw [a] at b <;> cases b <;> rfl
section
variable {K:PySem.W.Frag}{X:Cx}{it j:Nat}{dom dm dead:List Nat}{st:Stmt}{rest:List Stmt}{s t:SF}{g:En->SF}{e:Expr}{f:EF}{pos:Pos}
theorem zd7(h1:PSF K X dom st s)(h2:ztF K X it dom rest g):ztF K X it dom (st::rest) (fun ρ0=>zav s (g ρ0)):=fun hK C=>(zcN (h1 hK C) (h2 hK C)).weak fun Dn σ H=>by
 rintro⟨ρ0,σ0,H0,a,vs,ρ,rel,ld,gd⟩
 refine⟨ρ,rel,?_⟩
 obtain⟨x,ex,g1⟩:=gd.bnd
 rw [ex]
 obtain⟨fl,ρ1⟩:=x
 cases fl with
 | nx=>exact fun σ' H' r z fm=>⟨ρ0,σ0,H0,a,vs,ρ1,r,ld.step fm z,g1⟩
 | bk=>exact fun σ' H' r z _=>g1 σ' H' r (ld.fz.trans z)
 | ct=>exact fun σ' H' r z _=>g1 σ' H' r (ld.fz.trans z)
 | rt d=>exact g1
 | rf d=>exact g1
theorem zlC(it:Nat)(h0:PS3 K X st it f)(h2:ztF K X it dom rest g):zga K X (st::rest) (zjQ it f g):=.mk fun hK C=>by
 have R2:PSs X rest (fun Dn σ H=>∃ a ws,H a=some (.lst ws)/\∀ o,tL3 K X C it dom g Dn σ (upd H a (.frz o (.lst ws)))):=fun pins s σ H Dn I ⟨a,ws,e,q⟩=>by
  obtain⟨o,ho⟩:=(I.hok a _ e).some
  exact h2 hK C pins s σ _ Dn (ztB I e trivial ho) (q o)
 intro pins s σ H Dn I
 rintro⟨ρ,rel,gd⟩
 have x0:∀ p,H p=none->∀ o u,X.H₀ p≠some (.frz o u):=fun p h o u z=>by
  rw [I.base.frzs p o u z] at h;cases h
 refine zcN (h0 hK) R2 pins s σ H Dn I ?_
 obtain⟨y,ey,g1⟩:=gd.bnd
 obtain⟨ρ1,e1,g2⟩:=g1.bnd
 obtain⟨rfl,n,hl⟩:=zgE e1
 refine⟨ρ,rel.rel,?_⟩
 rw [ey]
 intro H1 rel1 st1 a ws ha e2 m nw
 obtain⟨d,ρy⟩:=y
 cases d with
 | list ds =>
  obtain⟨ws',e2',fa⟩:=m
  rw [e2] at e2'
  cases e2'
  have nma:¬ MA ρy σ a:=fun z=>by
   obtain⟨o',e',_⟩:=rel.rel.zaO (st1.ma.mpr z)
   rw [ha] at e';cases e'
  have hl':it<σ.length:=by rw [<- rel1.len];exact hl
  refine⟨a,ws,e2,fun o=>?_⟩
  have fz:Fzn H1 (upd H1 a (.frz o (.lst ws))):=fun b w e3 sy=>by
   rw [zao fun z=>by subst z;rw [e2] at e3;cases e3;exact sy]
   exact e3
  refine⟨ρ,σ.set it (some (.ref a)),H,a,ws,ρy.set it (.val (.list ds)),?_,⟨fun i x v hi e3 e4=>?_,.refl,List.getElem?_set_self hl',(st1.fzn rel.rel).trans fz,⟨o,zal⟩,ha,fun v hv=>?_,x0,fun p h=>rel.fresh h,rel.rel.cst⟩,g2⟩
  ·have r2:zcI K C ρy σ (upd H1 a (.frz o (.lst ws))):=rel.step (rel1.put nma fun u e3=>by rw [e2] at e3;cases e3;exact fun z=>z) ⟨st1.md,fun b w e3 nm=>?_⟩
   ·refine r2.chg (r2.rel.set ?_ fun _ _ _ z=>nomatch z) (zeH n hl)
    show Fz K _ (.list ds) (.ref a)
    simp only [Fz]
    exact⟨a,ws,rfl,.inl ⟨o,zal⟩,fa.mono fz⟩
   ·rw [zao fun z=>by subst z;rw [ha] at e3;cases e3]
    exact st1.kp b w e3 nm
  ·rw [List.getElem?_set_ne (Ne.symm hi)] at e4
   exact rel.rel.ok i x v e3 e4
  ·obtain⟨t,v1,v2,p,ob,xs,e3,e4,e5,e6⟩:=nw v hv
   exact⟨t,v1,v2,p,ob,xs,e3,fz.zlv e4,e5,fz _ _ e6 trivial,fun z=>by subst z;rw [e2] at e6;cases e6⟩
 | dict kvs =>
  obtain⟨kk,h1,_⟩:=m
  rw [e2] at h1;cases h1
 | _=>exact m.elim
theorem zn4{ρ ρ0:En}{k:Nat}{p:Bool}{c:D}(ok:E3 dead dom 0 ρ0 ρ)(e:ρ[k]?=some (.ow p c)):k∉dead:=fun z=>by
 rcases ok.get e with⟨_,q⟩|⟨q,_⟩
 ·cases q
 ·exact q (by simpa using z)
theorem zed{ρ ρ0:En}{k:Nat}{p:Bool}{c:D}(ok:E3 dead dom 0 ρ0 ρ):(kill dead ρ)[k]?=some (.ow p c)↔ρ[k]?=some (.ow p c):=by
 rw [zkd]
 cases e:ρ[k]? with
 | none=>simp
 | some x =>
  simp only [Option.map_some,Option.some.injEq]
  by_cases m:k∈dead
  ·rw [if_pos m]
   constructor
   ·exact fun z=>nomatch z
   ·rintro rfl
    exact absurd m (zn4 ok e)
  ·rw [if_neg m]
theorem zoz{C:SC}{ρ0 ρ:En}{σ0 σ σ':L2.St}{H0 H H4:Hp}{a:Addr}{vs:List V}(rel:zcI K C ρ σ H)(ld:Ld3 X K C it dom ρ0 σ0 H0 a vs σ H)(ok:E3 dead dom 0 ρ0 ρ)(hit:it∈dead)(fm:Frm dead σ σ')(hl:σ'.length=σ.length)(h4:∀ b u,H b=some u->H4 b=some u\/((∃ o xs,u=.frz o (.lst xs))/\H0 b=none)) :
  zcI K C (kill dead ρ) σ' H4/\Fzn H0 H4:=by
 have f04:Fzn H0 H4:=fun b u e sy=>by
  rcases h4 b u (ld.fz b u e sy) with z|⟨_,z⟩
  ·exact z
  ·rw [z] at e;cases e
 have h5:∀ b u,H b=some u->(∀ o xs,u≠.frz o (.lst xs))->H4 b=some u:=fun b u e n=>by
  rcases h4 b u e with z|⟨⟨o,xs,z⟩,_⟩
  ·exact z
  ·exact absurd z (n o xs)
 have atb:∀ k b,At (kill dead ρ) σ' k b->At ρ σ k b:=fun k b ⟨⟨p,c,e1⟩,e2⟩=>by
  have e3:=(zed ok).mp e1
  rw [fm k (zn4 ok e3)] at e2
  exact⟨⟨p,c,e3⟩,e2⟩
 refine⟨⟨⟨?_,fun k x v e1 e2=>?_,fun k l b q1 q2=>rel.rel.sep k l b (atb k b q1) (atb l b q2),ld.cst.mono f04⟩,fun b o e n=>?_,fun k b c e1 e2=>?_,fun k=>?_,fun k c e1=>?_,rel.prm⟩,f04⟩
 ·rw [zok,rel.rel.len,hl]
 ·rw [zkd] at e1
  cases e3:ρ[k]? with
  | none=>rw [e3] at e1;cases e1
  | some y =>
   rw [e3] at e1
   simp only [Option.map_some,Option.some.injEq] at e1
   by_cases m:k∈dead
   ·rw [if_pos m] at e1;subst e1;trivial
   ·rw [if_neg m] at e1
    subst e1
    rw [fm k m] at e2
    have e4:=rel.rel.ok k _ _ e3 e2
    rcases ok.get e3 with⟨z,_⟩|⟨_,z|⟨z,nd,no⟩|z|z⟩
    ·exact absurd (by simpa using z) m
    ·subst z;trivial
    ·rw [ld.fr k (by simpa using nd)] at e2
     exact(ld.ok0 k _ v (fun q=>m (q▸hit)) z e2).mono f04 fun b _ ⟨p,c,w⟩=>by rw [w] at no;cases no
    ·exact e4.flt h5 z
    ·cases y with
     | ow p d =>
      cases d with
      | list l =>
       cases v with
       | none=>exact e4.elim
       | some v =>
        cases v with
        | ref b =>
         obtain⟨us,q1,q2⟩:=e4
         refine⟨us,h5 b _ q1 (fun _ _ z=>nomatch z),?_⟩
         obtain⟨ns,en⟩:=Option.isSome_iff_exists.mp (show(intsOf l).isSome=true from z)
         obtain⟨_,rfl⟩:=q2.ints en
         exact zae.zuy q2
        | _=>exact e4.elim
      | _=>cases z
     | _=>cases z
 ·rcases h4 b o (rel.keep b o e n) with z|⟨_,z⟩
  ·exact z
  ·rw [ld.c0 b z] at e;cases e
 ·have e3:=(zed ok).mp e1
  rw [fm k (zn4 ok e3)] at e2
  exact rel.own k b c e3 e2
 ·rw [<- rel.pin k]
  constructor
  ·rintro⟨c,e⟩;exact⟨c,(zed ok).mp e⟩
  ·rintro⟨c,e⟩;exact⟨c,(zed ok).mpr e⟩
 ·have e3:=(zed ok).mp e1
  rw [fm k (zn4 ok e3)]
  exact rel.fix k c e3
theorem zqt{x1 x2 xr xt nm1 nm2:Str}{kt:Nat}{pt p1 p2 p3 p4 p5 p6 ap1 cp1 ep1 ap2 cp2 ep2:Pos}{tail:List Stmt}(it i1 i2 ir:Nat)(dead:List Nat)(hN:X.N.Nodup)(ht:zga K X tail t)
  (hn1:nm1="clear":=by rfl) (hn2:nm2="clear":=by rfl) (hd0:it∈dead:=by decide) (hd1:i1∈dead:=by decide) (hd2:i2∈dead:=by decide) (hd3:ir∈dead:=by decide) (hitd:it∉dom:=by decide) (hne:it∉[i1,i2,ir]:=by decide) (h13:i1≠ir:=by decide) (h23:i2≠ir:=by decide)
  (vr:PE X (.Name xr p5) (zdX ir):=by exact pv _) (vt:PE X (.Name xt p4) (zdX it):=by exact pv _) (vt2:PE X (.Name xt p6) (zdX it):=by exact pv _)
  (g1:X.N[i1]?=some x1:=by rfl) (l1:Loc X.env.scope x1:=by first|exact Or.inl rfl|exact Or.inr rfl) (f1:X.fn x1=true\/X.env.scope.names.lookup x1=some .local:=by first|exact .inl rfl|exact .inr rfl|assumption)
  (g2:X.N[i2]?=some x2:=by rfl) (l2:Loc X.env.scope x2:=by first|exact Or.inl rfl|exact Or.inr rfl) (f2:X.fn x2=true\/X.env.scope.names.lookup x2=some .local:=by first|exact .inl rfl|exact .inr rfl|assumption)
  (g3:X.N[ir]?=some xr:=by rfl) (l3:Loc X.env.scope xr:=by first|exact Or.inl rfl|exact Or.inr rfl) (f3:X.fn xr=true\/X.env.scope.names.lookup xr=some .local:=by first|exact .inl rfl|exact .inr rfl|assumption)
  (q1:(assignEach [.Name x1 p1,.Name x2 p2,.Name xr p3] X.env).map (·.2)=assign (.Name x1 p1) X.env::(assignEach [.Name x2 p2,.Name xr p3] X.env).map (·.2):=by rfl) (q2:(assignEach [.Name x2 p2,.Name xr p3] X.env).map (·.2)=assign (.Name x2 p2) X.env::(assignEach [.Name xr p3] X.env).map (·.2):=by rfl) (q3:(assignEach [.Name xr p3] X.env).map (·.2)=assign (.Name xr p3) X.env::(assignEach [] X.env).map (·.2):=by rfl)
  (hn:(assignEach [.Name x1 p1,.Name x2 p2,.Name xr p3] X.env).length=3:=by rfl) (hst:(assignEach [.Name x1 p1,.Name x2 p2,.Name xr p3] X.env).findIdx? (·.1)=none:=by rfl)
  (hp:PassesOwn (model X.prog X.w) X.A X.env X.xe:=by exact PassesOwn.never) (hc:X.calm=true:=by rfl) (hs:∀ v,foldedSetIterable (.Name xt p4) X.env v=pure v:=by intro _;rfl)
  (hb1:attributeBase (.Name xr p5) nm1 X.env (eval (.Name xr p5) X.env)=eval (.Name xr p5) X.env:=by rfl) (hl1:(ap1.endLine==cp1.line)=true:=by rfl) (hw1:swapsWith (.Call (.Attribute (.Name xr p5) nm1 ap1) [] [] cp1) none ep1.line X.env=pure false:=by rfl)
  (hb2:attributeBase (.Name xt p6) nm2 X.env (eval (.Name xt p6) X.env)=eval (.Name xt p6) X.env:=by rfl) (hl2:(ap2.endLine==cp2.line)=true:=by rfl) (hw2:swapsWith (.Call (.Attribute (.Name xt p6) nm2 ap2) [] [] cp2) none ep2.line X.env=pure false:=by rfl) :
  ztF K X it dom (.For (.Tuple [.Name x1 p1,.Name x2 p2,.Name xr p3] kt pt) (.Name xt p4) [.Expr (.Call (.Attribute (.Name xr p5) nm1 ap1) [] [] cp1) ep1] [] pos::.Expr (.Call (.Attribute (.Name xt p6) nm2 ap2) [] [] cp2) ep2::tail) (fun ρ0=>zh0 dead dom t ρ0):=fun hK C=>by
 subst hK
 subst hn1
 subst hn2
 have hF:=zo3 (pos:=pos) hp hc (zqw vt) (zlY (k:=kt) (pos:=pt) hc (zdq (zhc (pos:=p1) hN g1 l1 f1) (zdq (zhc (pos:=p2) hN g2 l2 f2) (zdq (zhc (pos:=p3) hN g3 l3 f3) zi0 q3) q2) q1) hn hst) (zg9 (zha (pos:=ep1) (zo9 PySem.F.plainAttrs_list PySem.F.slot_list_clear PySem.F.type_list_clear zj9 vr hb1 hl1) hw1)) hs
 have hC:=zha (pos:=ep2) (zo9 PySem.F.plainAttrs_list PySem.F.slot_list_clear PySem.F.type_list_clear zj9 vt2 hb2 hl2) hw2
 refine(znS (zcN hF (zcN hC (ht rfl C)))).weak fun Dn σ H=>?_
 rintro⟨ρ0,σ0,H0,a,vs,ρ,rel,ld,gd⟩
 replace gd:zbz X.K C H0 (zh0 dead dom t ρ0 ρ) Dn:=gd
 by_cases ok:E3 dead dom 0 ρ0 ρ/\∀ k∈dead,k<ρ.length
 case neg=>rw [show zh0 dead dom t ρ0 ρ=.bad from if_neg ok] at gd;exact gd.elim
 rw [show zh0 dead dom t ρ0 ρ=t (kill dead ρ) from if_pos ok] at gd
 obtain⟨oa,ea⟩:=ld.top
 generalize eP:(fun b=>∃ v∈vs,∃ t v1 v2,v=V.ref t/\TAt H t [v1,v2,.ref b])=P
 have hP:∀ b,P b->(∃ o xs,H b=some (.frz o (.lst xs)))/\H0 b=none/\b≠a:=fun b h=>by
  rw [<- eP] at h
  obtain⟨v,hv,t,v1,v2,rfl,tt⟩:=h
  obtain⟨t',w1,w2,p,o,xs,e1,e2,e3,e4,e5⟩:=ld.inn _ hv
  cases e1
  have:=TAt.fn tt e2
  cases this
  exact⟨⟨o,xs,e4⟩,e3,e5⟩
 refine⟨fun b=>b=a\/P b,fun b hb=>?_,?_⟩
 ·rcases hb with rfl|hb
  ·exact⟨⟨oa,vs,ea⟩,ld.x0 _ ld.a0⟩
  ·exact⟨(hP b hb).1,ld.x0 _ (hP b hb).2.1⟩
 generalize eZ:(fun b=>b=a\/P b)=Z
 have hZ:∀ b,Z b↔(b=a\/P b):=fun b=>by rw [<- eZ]
 have ta:zlc Z H a=some (.lst vs):=zgW ((hZ a).mpr (.inl rfl)) ea
 have tp:∀ b,P b->∃ xs,zlc Z H b=some (.lst xs):=fun b hb=>by
  obtain⟨⟨o,xs,e⟩,_⟩:=hP b hb
  exact⟨xs,zgW ((hZ b).mpr (.inr hb)) e⟩
 have tn:∀ b,b≠a->¬ P b->zlc Z H b=H b:=fun b k1 k2=>zgX fun z=>((hZ b).mp z).elim k1 k2
 have nt:∀(q:Addr) (xs:List V),TAt H q xs->q≠a/\¬ P q:=fun q xs h=>by
  constructor
  ·rintro rfl
   rcases h with h|⟨o,h⟩ <;> rw [ea] at h <;> cases h
  ·intro z
   obtain⟨⟨o,ys,e⟩,_⟩:=hP q z
   rcases h with h|⟨o,h⟩ <;> rw [e] at h <;> cases h
 generalize zlc Z H=H3 at ta tp tn
 have tla:σ[it]?=some (some (.ref a)):=by rw [ld.fr it hitd];exact ld.tl
 have hlen:ρ.length=σ.length:=rel.rel.len
 refine⟨.ref a,tla,a,rfl,⟨vs,SqL.of ta⟩,fun k m σ' H'=>m=vs.length-k/\k<=vs.length/\Frm [i1,i2,ir] σ σ'/\σ'.length=σ.length/\(∀ b,¬ P b->H' b=H3 b)/\∀ b,P b->∃ xs,H' b=some (.lst xs),
  ⟨vs.length,by simp,Nat.zero_le _,.refl,rfl,fun _ _=>rfl,tp⟩,?_⟩
 rintro k mm σ' H' ⟨rfl,hk,fm,hl,k1,k2⟩
 have na:¬ P a:=fun z=>(hP a z).2.2 rfl
 have hA:H' a=some (.lst vs):=by rw [k1 a na];exact ta
 by_cases c:k<vs.length
 ·refine .inr ⟨⟨vs,vs[k],SqL.of hA,List.getElem?_eq_getElem c⟩,fun σ'' H''=>Frm [i1,i2,ir] σ σ''/\σ''.length=σ.length/\(∀ b,¬ P b->H'' b=H3 b)/\∀ b,P b->∃ xs,H'' b=some (.lst xs),fun σ'' H'' n=>⟨vs.length-(k+1),by omega,rfl,c,n⟩,fun x H5 yl=>?_⟩
  obtain⟨rfl,yl⟩:=yl
  have ex:=yl vs (SqL.of hA)
  rw [List.getElem?_eq_getElem c] at ex
  cases ex
  have mem:vs[k]∈vs:=List.getElem_mem c
  obtain⟨t0,v1,v2,p,o,xs0,ep,tt,_⟩:=ld.inn _ mem
  have pp:P p:=by rw [<- eP];exact⟨_,mem,t0,v1,v2,ep,tt⟩
  obtain⟨xs,hxs⟩:=k2 p pp
  have tt':TAt H5 t0 [v1,v2,.ref p]:=by
   obtain⟨n1,n2⟩:=nt _ _ tt
   have z:H5 t0=H t0:=by rw [k1 t0 n2,tn t0 n1 n2]
   rcases tt with h|⟨o,h⟩
   ·exact .inl (z.trans h)
   ·exact .inr ⟨o,z.trans h⟩
  have irl:ir<σ'.length:=by rw [hl,<- hlen];exact ok.2 ir hd3
  refine⟨t0,_,ep,.inl tt',rfl,v1,_,rfl,v2,_,rfl,.ref p,_,rfl,rfl,.ref p,?_,.inl ⟨rfl,xs,SqL.of hxs⟩,p,xs,rfl,rfl,hxs,?_,?_,fun b nb=>?_,fun b hb=>?_⟩
  ·rw [List.getElem?_set_self (by simpa using irl)]
  ·exact((fm.trans (.set (by simp))).trans (.set (by simp))).trans (.set (by simp))
  ·simp [hl]
  ·rw [zao fun z=>by subst z;exact nb pp]
   exact k1 b nb
  ·by_cases z:b=p
   ·subst z;exact⟨[],zal⟩
   ·rw [zao z];exact k2 b hb
 ·have e:k=vs.length:=by omega
  subst e
  have tl':σ'[it]?=some (some (.ref a)):=by rw [fm it hne];exact tla
  refine .inl ⟨⟨vs,SqL.of hA,Nat.le_refl _⟩,.ref a,tl',.inl ⟨rfl,vs,SqL.of hA⟩,a,vs,rfl,rfl,hA,?_⟩
  obtain⟨r,f04⟩:=zoz (H4:=upd H' a (.lst [])) (σ':=σ') rel ld ok.1 hd0 (fun i hi=>fm i (fun z=>hi (by
   simp only [List.mem_cons,List.not_mem_nil,or_false] at z
   rcases z with rfl|rfl|rfl
   ·exact hd1
   ·exact hd2
   ·exact hd3))) hl (fun b u e=>by
   by_cases ba:b=a
   ·subst ba
    rw [ea] at e
    cases e
    exact .inr ⟨⟨_,_,rfl⟩,ld.a0⟩
   ·by_cases pb:P b
    ·obtain⟨⟨o,xs,e1⟩,e2,_⟩:=hP b pb
     rw [e1] at e
     cases e
     exact .inr ⟨⟨_,_,rfl⟩,e2⟩
    ·exact .inl (by rw [zao ba,k1 b pb,tn b ba pb];exact e))
  exact⟨_,r,gd.step f04⟩
end
section
variable {K:PySem.W.Frag}{X:Cx}
theorem zqk{c:String}{x:Str}{e:Expr}{f:EF}{pos pos':Pos}{dom:List Nat}(i:Nat)(hN:X.N.Nodup)(he:PVB K X c e f)(hd:i∈dom:=by decide)(hi:X.N[i]?=some x:=by rfl)(hx:Loc X.env.scope x:=by first|exact Or.inl rfl|exact Or.inr rfl)(hs:swapsWith e (some (.Name x pos')) pos.line X.env=pure false:=by rfl)(hf:X.fn x=true\/X.env.scope.names.lookup x=some .local:=by first|exact .inl rfl|exact .inr rfl|assumption) :
  PSF K X dom (.Assign [.Name x pos'] e pos) (sOb i c f):=fun hK C=>(zjZ hN hi hx (he hK) hs hf).weak fun Dn σ H=>by
 rintro⟨ρ,rel,q⟩
 obtain⟨y,ey,q0⟩:=q.bnd
 refine⟨ρ,rel.rel,?_⟩
 rw [ey]
 intro H1 r1 st1 a fs efs ob
 have rel1:=rel.step r1 st1
 obtain⟨d,ρ1⟩:=y
 cases efs
 have q1:=q0.step (st1.fzn rel.rel)
 replace q1:zbz K C H1 (match ρ1[i]? with|some (.ow true _)=>.bad|some _=>.ok (.nx,ρ1.set i (.ob c fs))|none=>.bad) (EFr dom σ Dn):=q1
 have fin:(∀ e,ρ1[i]?≠some (.ow true e))->i<ρ1.length->zcI K C (ρ1.set i (.ob c fs)) (σ.set i (some (.ref a))) H1:=fun np hl=>by
  have hls:i<σ.length:=by rw [<- rel1.rel.len];exact hl
  refine⟨rel1.rel.set (show zjB K H1 (.ob c fs) (some (.ref a)) from ob) fun _ _ _ z=>(nomatch z),rel1.keep,fun j b c' e1 e2=>?_,fun j=>?_,fun j c' e1=>?_,rel1.prm⟩
  ·by_cases k:i=j
   ·subst k
    rw [List.getElem?_set_self hl] at e1
    cases e1
   ·rw [List.getElem?_set_ne k] at e1 e2
    exact rel1.own j b c' e1 e2
  ·by_cases k:i=j
   ·subst k
    rw [List.getElem?_set_self hl,<- rel1.pin i]
    constructor
    ·rintro⟨_,z⟩;cases z
    ·rintro⟨c',z⟩;exact absurd z (np c')
   ·rw [List.getElem?_set_ne k];exact rel1.pin j
  ·by_cases k:i=j
   ·subst k
    rw [List.getElem?_set_self hl] at e1;cases e1
   ·rw [List.getElem?_set_ne k] at e1 ⊢
    exact rel1.fix j c' e1
 cases e1:ρ1[i]? with
 | none=>rw [e1] at q1;exact q1.elim
 | some y =>
  have hl:i<ρ1.length:=(List.getElem?_eq_some_iff.mp e1).1
  rw [e1] at q1
  cases y with
  | no=>exact q1 _ H1 (fin (fun e z=>by rw [e1] at z;cases z) hl) (Fzn.refl H1) (.set hd)
  | val c=>exact q1 _ H1 (fin (fun e z=>by rw [e1] at z;cases z) hl) (Fzn.refl H1) (.set hd)
  | ob c ds=>exact q1 _ H1 (fin (fun e z=>by rw [e1] at z;cases z) hl) (Fzn.refl H1) (.set hd)
  | ow p c =>
   cases p with
   | true=>exact q1.elim
   | false=>exact q1 _ H1 (fin (fun e z=>by rw [e1] at z;cases z) hl) (Fzn.refl H1) (.set hd)
end
end
end FL
noncomputable section
namespace K08
open PySem FL
def zgI:SF:=(zaH (zhu (e1 (zbT "int") (eV 0)) (zle (e1 (zbT "bool") (eV 0)))))
def zbB:List D->R D:=zcb false 1 1 zgI
def zcy:SF:=(zft (zc5 3) (tB (e2 neD (eV 3) (eC (.int 0)))) (zdU 2 3 (eV 3) (e2 zhh (eV 2) (eV 3))))
def zc1:SF:=(zav (zdU 2 3 (e1 zm8 (eV 0)) (e1 zm8 (eV 1)))
  (zav zcy
  (zaH (eV 2))))
def zaJ:List D->R D:=zcb false 2 4 zc1
def zbW:EF:=(zbd 1 [] (iE (eV 0)) (gN 0) zbG (e2 eqD (eV 0) (eC (.tuple [(.int 0),(.int 1)]))))
def zbP:SF:=(zaH (e1 zto zbW))
def za4:List D->R D:=zcb false 1 1 zbP
def zeW:SF:=(zav (zaZ (gN 2) (e2 zaG (e2 zaG (e2 zca (e2 zaG (e2 zhh (eV 0) (e2 zaG (e2 zdy (eC (.int 10)) (eC (.int 18))) (eC (.int 9)))) (e2 zca (eC (.int 7)) (eV 1))) (eC (.int 739108512309184756019283746561))) (e2 zca (eC (.int 7919)) (eV 1))) (eC (.int 1))))
  (zav (zaZ (gN 2) (e2 zhh (e2 zca (eV 2) (eV 2)) (e2 zaG (e2 zdy (eC (.int 10)) (eC (.int 60))) (eC (.int 7)))))
  (zaH (e2 zhh (e2 zca (e2 zaG (eV 2) (eC (.int 40503))) (e2 zaG (eV 2) (eC (.int 57)))) (e2 zaG (e2 zdy (eC (.int 10)) (eC (.int 60))) (eC (.int 7)))))))
def zdm:List D->R D:=zcb false 2 3 zeW
def ziE:SF:=(zav (sIf (tB (e2 ltD (eV 1) (e1 zez (eV 0)))) (zaH (e2 ixD (eV 0) (eV 1))) sNx)
  (zaH (e2 zaG (e2 zca (eC (.int 3)) (eV 1)) (eC (.int 1)))))
def zep:List D->R D:=zcb false 2 2 ziE
def zeP:SF:=(zft (zc5 3) (tB (e2 neD (eV 3) (eC (.int 0)))) (zdU 2 3 (eV 3) (e2 zhh (eV 2) (eV 3))))
def zgJ:SF:=(zav (zaZ (gN 2) (e1 zm8 (eV 0)))
  (zav (zaZ (gN 3) (eV 1))
  (zav zeP
  (zaH (za5 (zab (e2 zaL (eV 0) (eV 2)) (zab (e2 zaL (eV 1) (eV 2)) zam)))))))
def zbC:List D->R D:=zcb false 2 4 zgJ
def zf5:SF:=(zav (sIf (FL.tOr (FL.zch (tE (e1 (zbT "tuple") (eV 0)))) (tB (e2 neD (e1 zez (eV 0)) (eC (.int 2))))) (zaH (eC (.bool false))) sNx)
  (zav (zaZ (gT [(gN 1),(gN 2)]) (eV 0))
  (zav (sIf (FL.tOr (FL.zch (tE (zaj zbB (zab (eV 1) zam)))) (FL.tOr (FL.zch (tE (zaj zbB (zab (eV 2) zam)))) (tB (e2 ltD (eV 2) (eC (.int 1)))))) (zaH (eC (.bool false))) sNx)
  (zaH (e2 eqD (zaj zaJ (zab (eV 1) (zab (eV 2) zam))) (eC (.int 1)))))))
def zdT:List D->R D:=zcb false 1 3 zf5
def zpz:SF:=(zav (zaZ (gN 2) (zaj zaJ (zab (e2 ixD (eV 0) (eC (.int 1))) (zab (e2 ixD (eV 1) (eC (.int 1))) zam))))
  (zav (zdU 3 4 (e2 zaL (e2 ixD (eV 0) (eC (.int 1))) (eV 2)) (e2 zaL (e2 ixD (eV 1) (eC (.int 1))) (eV 2)))
  (zav (zaZ (gN 5) (e2 zaG (e2 zca (e2 ixD (eV 0) (eC (.int 0))) (eV 4)) (e2 zca (e2 ixD (eV 1) (eC (.int 0))) (eV 3))))
  (zav (zaZ (gN 6) (zaj zaJ (zab (eV 5) (zab (eV 2) zam))))
  (zaH (za5 (zab (e2 zaL (eV 5) (eV 6)) (zab (e2 zca (eV 3) (e2 zaL (e2 ixD (eV 1) (eC (.int 1))) (eV 6))) zam))))))))
def zky:List D->R D:=zcb false 2 7 zpz
def zm4:SF:=(zav (zdU 2 3 (zaj zaJ (zab (e2 ixD (eV 0) (eC (.int 0))) (zab (e2 ixD (eV 1) (eC (.int 1))) zam))) (zaj zaJ (zab (e2 ixD (eV 1) (eC (.int 0))) (zab (e2 ixD (eV 0) (eC (.int 1))) zam))))
  (zaH (za5 (zab (e2 zca (e2 zaL (e2 ixD (eV 0) (eC (.int 0))) (eV 2)) (e2 zaL (e2 ixD (eV 1) (eC (.int 0))) (eV 3))) (zab (e2 zca (e2 zaL (e2 ixD (eV 0) (eC (.int 1))) (eV 3)) (e2 zaL (e2 ixD (eV 1) (eC (.int 1))) (eV 2))) zam)))))
def zdS:List D->R D:=zcb false 2 4 zm4
def zhF:SF:=(zaH (zhu (zaj zbB (zab (eV 0) zam)) (zcu leD ltD (eC (.int 0)) (eV 0) (eV 1))))
def zeo:List D->R D:=zcb false 2 2 zhF
def zeV:SF:=(zav (sIf (tB (e2 geD (eV 0) (e2 zdy (eC (.int 10)) (eC (.int 18))))) (zdx (zcQ (zab (e2 zdY (eV 0) (e2 zdy (eC (.int 10)) (eC (.int 18)))) (zab (eC (.int 0)) (zab (eV 1) zam))))) sNx)
  (zdx (zcQ (zab (zaj zdm (zab (eV 0) (zab (eV 1) zam))) (zab (eC (.int 0)) (zab (e2 zaG (e2 zhh (eV 0) (e2 zaG (e2 zdy (eC (.int 10)) (eC (.int 18))) (eC (.int 9)))) (eV 1)) zam))))))
def zcD:List D->R D:=zcb true 2 2 zeV
def zf6:SF:=(zav (sIf (tB (e2 ltD (m2 ixD 0 (eC (.int 0))) (eV 1))) (zav (setM 0 (e2 zaG (m2 ixD 0 (eC (.int 1))) (eC (.int 1))) (eC (.int 1)))
  (setM 0 (e2 zaG (m2 ixD 0 (eC (.int 0))) (e2 zca (eV 1) (zaj zdm (zab (m2 ixD 0 (eC (.int 2))) (zab (e2 zaG (e2 zca (eC (.int 11)) (m2 ixD 0 (eC (.int 1)))) (eC (.int 5))) zam))))) (eC (.int 0)))) sNx)
  (zav (zaZ (gN 2) (e2 zhh (m2 ixD 0 (eC (.int 0))) (eV 1)))
  (zav (setM 0 (e2 zaL (m2 ixD 0 (eC (.int 0))) (eV 1)) (eC (.int 0)))
  (zaH (eV 2)))))
def zaf:List D->R (D×List D):=run [true,false] false 3 zf6
def zkt:SF:=(zaH (zaj zky (zab (eV 0) (zab (za5 (zab (e1 zhf (e2 ixD (eV 1) (eC (.int 0)))) (zab (e2 ixD (eV 1) (eC (.int 1))) zam))) zam))))
def zkz:List D->R D:=zcb false 2 2 zkt
def zdp:EF:=(zbd 1 [] (iE (eV 0)) (gN 0) zbG (zaj zdT (zab (eV 0) zam)))
def zfl:SF:=(zaH (zhu (e1 (zbT "list") (eV 0)) (e1 zto zdp)))
def zhL:List D->R D:=zcb false 1 1 zfl
def zb4:EF:=(zbd 2 [1] (zvg (zab (eV 0) (zab (eV 2) zam))) (gT [(gN 0),(gN 1)]) zbG (eIf (tB (e2 eqD (eV 1) (eC (.tuple [(.int 0),(.int 1)])))) (eV 0) (zaj zky (zab (eV 0) (zab (zaj zdS (zab (eV 2) (zab (eV 1) zam))) zam)))))
def zbA:SF:=(zav (sIf (tB (e2 eqD (eV 1) (eC (.tuple [(.int 0),(.int 1)])))) (zaH (e1 zdM (eV 0))) sNx)
  (zaH zb4))
def zcC:List D->R D:=zcb false 3 3 zbA
def zce:SF:=(zav (sIf (FL.tOr (FL.zch (tE (e1 (zbT "tuple") (eV 0)))) (tB (e2 neD (e1 zez (eV 0)) (eC (.int 3))))) (zaH (eC (.bool false))) sNx)
  (zav (zaZ (gT [(gN 2),(gN 3),(gN 4)]) (eV 0))
  (zaH (zhu (zaj zeo (zab (eV 2) (zab (eV 1) zam))) (zhu (zaj zeo (zab (eV 3) (zab (eV 1) zam))) (e2 ltD (eV 2) (eV 3)))))))
def zaY:List D->R D:=zcb false 2 5 zce
def zcl:SF:=(zav (zaZ (gN 1) (zaq zaf [.m 0,.v (eC (.int 8))]))
  (zav (sIf (tB (e2 ltD (eV 1) (eC (.int 3)))) (zaH (e2 ixD (zcQ (aCs [(.tuple [(.int 0),(.int 1)]),(.tuple [(.int 1),(.int 1)]),(.tuple [(.int (-1)),(.int 1)])])) (eV 1))) sNx)
  (zav (sIf (tB (e2 ltD (eV 1) (eC (.int 5)))) (zaH (zaj zbC (zab (e2 zdY (zaq zaf [.m 0,.v (eC (.int 19))]) (eC (.int 9))) (zab (e2 zaG (eC (.int 1)) (e2 zca (zaq zaf [.m 0,.v (eC (.int 5))]) (e2 zdY (eV 1) (eC (.int 3))))) zam)))) sNx)
  (zav (sIf (tB (e2 ltD (eV 1) (eC (.int 7)))) (zaH (zaj zbC (zab (e2 zdY (zaq zaf [.m 0,.v (e2 zaG (e2 zca (eC (.int 2)) (e2 zdy (eC (.int 10)) (eC (.int 6)))) (eC (.int 1)))]) (e2 zdy (eC (.int 10)) (eC (.int 6)))) (zab (e2 zaG (eC (.int 1)) (e2 zca (zaq zaf [.m 0,.v (e2 zdy (eC (.int 10)) (eC (.int 3)))]) (e2 zdY (eV 1) (eC (.int 5))))) zam)))) sNx)
  (zaH (zaj zbC (zab (e2 zdY (zaq zaf [.m 0,.v (e2 zaG (e2 zca (eC (.int 2)) (e2 zdy (eC (.int 10)) (eC (.int 19)))) (eC (.int 1)))]) (e2 zdy (eC (.int 10)) (eC (.int 19)))) (zab (e2 zaG (eC (.int 1)) (zaq zaf [.m 0,.v (e2 zdy (eC (.int 10)) (eC (.int 19)))])) zam))))))))
def zba:List D->R (D×List D):=run [true] false 2 zcl
def zbj:EF:=(zbd 1 [3] (iR2 (zab (e2 zaG (eV 3) (eC (.int 1))) (zab (eV 1) zam))) (gN 0) zbG (za5 (zab (eV 1) (zab (eV 0) zam))))
def zbg:SF:=(zaZ (gN 2) (e2 zaG (eV 2) zbj))
def zbe:SF:=(zdJ (iR1 (zab (eV 1) zam)) (gN 3) zbg)
def zbi:EF:=(zbd 1 [0,4] (iE (eV 2)) (gN 0) (FL.tOr (tB (e2 eqD (eV 2) (eC (.int 3)))) (tB (e2 eqD (zaq zaf [.m 1,.v (eC (.int 2))]) (eC (.int 0))))) (eV 0))
def zbf:SF:=(sIf (tB (e2 gtD (e1 zez (eV 2)) (eC (.int 1)))) (zav (zaZ (gN 6) (zaq zaf [.m 0,.v (e1 zez (eV 2))]))
  (zav (zcH 2 (e2 zpC (eSl (eV 2) (zcq (eV 6)) zcr) (eSl (eV 2) zcr (zcq (eV 6)))))
  (zci 2 (ztv 2 (za5 (zab (m2 ixD 2 (e1 zhf (eC (.int 1)))) (zab (m2 ixD 2 (eC (.int 0))) zam))) (eC (.int 0)) (e1 zhf (eC (.int 1))))))) sNx)
def zb1:SF:=(zdJ (iR1 (zab (eC (.int 3)) zam)) (gN 5) zbf)
def zcA:SF:=(zav (zcH 2 (zcQ zam))
  (zav (zg1 2 zbe)
  (zav (zaZ (gN 4) (zaq zaf [.m 0,.v (eC (.int 4))]))
  (zav (sIf (tB (e2 gtD (eV 4) (eC (.int 0)))) (zci 2 (zcH 2 zbi)) sNx)
  (zav zb1
  (zaH (eV 2)))))))
def zcE:List D->R (D×List D):=run [true,false] false 7 zcA
def zcS:SF:=(zaH (zhu (zaj zhL (zab (eV 0) zam)) (e2 eqD (e1 zez (eV 0)) (eV 1))))
def zb0:List D->R D:=zcb false 2 2 zcS
def zaC:SF:=(sIf (FL.zch (tE (zaj zb0 (zab (eV 3) (zab (eV 1) zam))))) zgs sNx)
def zbF:SF:=(zdJ (zsZ (zab (eV 0) zam)) (gT [(gN 2),(gN 3)]) zaC)
def zek:SF:=zbF
def zbS:List D->R D:=zcb false 2 4 zek
def zbm:SF:=(zav (sIf (FL.zch (tE (zaj zaY (zab (eV 4) (zab (eV 0) zam))))) zgs sNx)
  (zav (zaZ (gT [(gN 5),(gN 6),(gN 7)]) (eV 4))
  (zav (sIf (tB (m2r inD (za5 (zab (eV 5) (zab (eV 6) zam))) 2)) zgs sNx)
  (zav (sIf (FL.zch (tE (zaj zb0 (zab (eV 7) (zab (e2 zaG (eV 0) (eC (.int 1))) zam))))) zgs sNx)
  (zeF 2 (za5 (zab (eV 5) (zab (eV 6) zam))) (e1 zbh (eV 7)))))))
def zbl:SF:=(zdJ (zsZ (zab (eV 1) zam)) (gT [(gN 3),(gN 4)]) zbm)
def zb6:SF:=(zav (zcH 2 zcZ)
  (zav zbl
  (ze1 2)))
def zb7:List D->R D:=zcb true 2 8 zb6
def zc8:EF:=(zbd 2 [3] (iE (e1 zeR (eV 3))) (gT [(gN 0),(gN 1)]) (FL.zch (tE (zaj za4 (zab (e2 zmO (eV 2) (za5 (zab (eV 0) (zab (eV 1) zam)))) zam)))) (za5 (zab (eV 0) (zab (eV 1) (zab (e2 zmO (eV 2) (za5 (zab (eV 0) (zab (eV 1) zam)))) zam)))))
def zhG:AF:=(sIn (sIf (FL.tOr (FL.zch (tE (zaj zbB (zab (eV 1) zam)))) (FL.zch (tB (zcu leD leD (eC (.int 1)) (eV 1) (eC (.int 6)))))) zgs sNx)
  (sIn (zaZ (gN 3) (zaj zb7 (zab (eV 1) (zab (eV 2) zam))))
  (zab (eV 1) (zab (e1 zbh zc8) zam))))
def zeN:List D->R D:=ztw 2 4 2 zhG
def zb3:SF:=(zav (zaZ (gN 7) (zaj zkz (zab (zaj zdS (zab (e2 ixD (eV 1) (eV 4)) (zab (e2 ixD (eV 2) (eV 5)) zam))) (zab (zaj zdS (zab (e2 ixD (eV 1) (eV 5)) (zab (e2 ixD (eV 2) (eV 4)) zam))) zam))))
  (zaZ (gN 3) (zaj zcC (zab (eV 3) (zab (eV 7) (zab (eV 6) zam))))))
def zb2:SF:=(zdJ (iE (zdi 0 "Table" 1)) (gT [(gN 4),(gN 5),(gN 6)]) zb3)
def zcB:SF:=(zav (sE (zaj zbS (zab (zcQ (zab (eV 1) (zab (eV 2) zam))) (zab (e2 zaG (zdi 0 "Table" 0) (eC (.int 1))) zam))))
  (zav (zaZ (gN 3) (zk4 (eC (.tuple [(.int 0),(.int 1)])) (e2 zaG (zdi 0 "Table" 0) (eC (.int 1)))))
  (zav zb2
  (zaH (eV 3)))))
def zcF:List D->R D:=zry [some "Table",none,none] false 8 zcB
def zaF:EF:=(zbd 3 [] (iE (eV 2)) (gT [(gN 0),(gN 1),(gN 2)]) zbG (za5 (zab (za5 (zab (eV 0) (zab (eV 1) zam))) (zab (eV 2) zam))))
def zaU:EF:=(zbd 1 [0] (iR1 (zab (e2 zaG (eV 1) (eC (.int 1))) zam)) (gN 0) zbG (za5 (zab (e1 intD (e2 eqD (eV 0) (eV 1))) (zab (eC (.int 1)) zam))))
def zaE:EF:=(zbd 1 [1] (iE (zcQ (zab (eV 4) (zab (eV 5) zam)))) (gN 0) zbG zaU)
def zaT:EF:=(zbd 1 [] (iR1 (zab (e2 zaG (eV 1) (eC (.int 1))) zam)) (gN 0) zbG (za5 (zab (eC (.int 0)) (zab (eC (.int 1)) zam))))
def zaD:EF:=(zbd 1 [] (iE (eV 7)) (gN 0) zbG (za5 (zab (e2 zdY (eC (.int 0)) (e2 ixD (eV 0) (eC (.int 0)))) (zab (e2 ixD (eV 0) (eC (.int 1))) zam))))
def zbq:EF:=(zbd 1 [] (iR1 (zab (e2 zaG (eV 1) (eC (.int 1))) zam)) (gN 0) zbG (za5 (zab (eC (.int 0)) (zab (eC (.int 1)) zam))))
def zaS:SF:=(zav (zci 6 (zcH 6 zaE))
  (zav (zaZ (gN 7) (e3 zjk (eV 3) (za5 (zab (zaj (two zmj) (zab (eV 4) (zab (eV 5) zam))) (zab (zaj (two zmk) (zab (eV 4) (zab (eV 5) zam))) zam))) zaT))
  (zav (sIf (tB (e2 gtD (eV 4) (eV 5))) (zci 7 (zcH 7 zaD)) sNx)
  (zav (sIf (tB (e2 eqD (eV 4) (eV 5))) (zci 7 (zcH 7 zbq)) sNx)
  (sIf (tB (e2 neD (zaj zcF (aOb 0 "Table" (zab (e2 ixD (eV 6) (eC (.int 0))) (zab (e2 ixD (eV 6) (eC (.int 1))) zam)))) (eV 7))) (zaH (eC (.bool false))) sNx)))))
def zaQ:SF:=(zdJ (iR1 (zab (eV 1) zam)) (gN 5) zaS)
def zaR:SF:=zaQ
def zaP:SF:=(zdJ (iR1 (zab (eV 1) zam)) (gN 4) zaR)
def za9:SF:=(zav (zaZ (gN 3) (e1 ziw zaF))
  (zav zaP
  (zaH (eC (.bool true)))))
def zbb:List D->R D:=zry [some "Table",none,none] false 8 za9
def ziW:EF:=(zbd 1 [2] (iR1 (zab (e2 zaG (eV 3) (eC (.int 1))) zam)) (gN 0) zbG (zaq zba [.m 1]))
def zfy:EF:=(zbd 1 [] (iR1 (zab (eV 3) zam)) (gN 0) zbG (za5 (zab (eC (.int 0)) (zab (eC (.int 1)) zam))))
def zgT:SF:=(zav (zcH 7 ziW)
  (zav (sIf (tB (e2 eqD (zaq zaf [.m 2,.v (eC (.int 4))]) (eC (.int 0)))) (zcH 7 (e2 zpC zfy (mSl 7 (zcq (e1 zhf (eC (.int 1)))) zcr))) sNx)
  (zav (sIf (tB (e2 eqD (zaq zaf [.m 2,.v (eC (.int 4))]) (eC (.int 0)))) (setM 7 (za5 (zab (eC (.int 0)) (zab (eC (.int 1)) zam))) (e1 zhf (eC (.int 1)))) sNx)
  (zg1 7 (zhT 4 ziF (za5 (zab (eV 5) (zab (eV 6) (zab (eV 7) zam)))))))))
def zgM:SF:=(zdJ (iE (zaq zcE [.m 2,.v (eV 3)])) (gT [(gN 5),(gN 6)]) zgT)
def zfx:EF:=(zbd 1 [] (iE (eV 7)) (gN 0) (tB (e2 neD (e2 ixD (eV 0) (eC (.int 0))) (eC (.int 0)))) (eV 0))
def zfs:SF:=(sIf (tB (e2 neD zfx (zcQ zam))) (zhT 8 ziF (za5 (zab (eV 5) (zab (eV 6) (zab (e1 zbh (eV 7)) zam))))) sNx)
def zfr:SF:=(zdJ (iE (eV 4)) (gT [(gN 5),(gN 6),(gN 7)]) zfs)
def zfw:EF:=(zbd 3 [] (iE (eV 4)) (gT [(gN 0),(gN 1),(gN 2)]) zbG (za5 (zab (eV 0) (zab (eV 1) (zab (e1 zdM (eV 2)) zam)))))
def zex:EF:=(zbd 1 [] (iE (zdi 10 "Table" 1)) (gN 0) (FL.tOr (FL.zch (tE (e1 (zbT "tuple") (eV 0)))) (FL.zch (tE (e1 (zbT "tuple") (e2 ixD (eV 0) (eC (.int 2))))))) (eV 0))
def zet:SF:=(zav (sIf (FL.tOr (tB (e2 neD (zdi 10 "Table" 1) (eV 8))) (tB (e2 neD (zdi 10 "Table" 0) (eV 3)))) (zaH (eC (.bool false))) sNx)
  (sIf (FL.zch (tE (zaj zbb (aOb 10 "Table" (zab (eV 3) (zab (eV 4) zam)))))) (zaH (eC (.bool false))) sNx))
def zgS:SF:=(zav (zcH 2 (zaj zcD (zab (eV 1) (zab (eC (.int 8)) zam))))
  (zav (zaZ (gN 3) (e2 zaG (eC (.int 1)) (zaq zaf [.m 2,.v (eC (.int 6))])))
  (zav (zcH 4 (zcQ zam))
  (zav zgM
  (zav (zcH 8 (zcQ zam))
  (zav (zg1 4 zfr)
  (zav (zg1 8 (zaZ (gN 8) (e1 zbh (e1 zeR (eV 8)))))
  (zjQ 9 zfw fun ρ0=>(zav (sOb 10 "Table" (eMk zeN (zab (eV 3) (zab (eV 9) zam))))
  (zav (sIf (FL.tOr (tB (e2 neD (zdi 10 "Table" 0) (eV 3))) (FL.tOr (tE (e1 (zbT "bool") (zdi 10 "Table" 0))) (FL.zch (tE (e1 (zbT "int") (zdi 10 "Table" 0)))))) (zaH (eC (.bool false))) sNx)
  (zav (sIf (FL.tOr (FL.zch (tE (e1 (zbT "tuple") (zdi 10 "Table" 1)))) (tB (e2 neD (zdi 10 "Table" 1) (eV 8)))) (zaH (eC (.bool false))) sNx)
  (zav (sIf (tB (e2 neD zex (zcQ zam))) (zaH (eC (.bool false))) sNx)
  (zav (sIf (tB (e2 neD (eV 9) (eV 4))) (zaH (eC (.bool false))) sNx)
  (zh0 [5,6,7,9] [10] zet ρ0))))))))))))))
def zgL:SF:=(zdJ (iE (e2 zaG (eSl (eV 0) zcr (zcq (eC (.int 3)))) (zcQ (zab (zaj zep (zab (eV 0) (zab (eC (.int 2)) zam))) zam)))) (gN 1) zgS)
def zoP:SF:=(zav zgL
  (zaH (eC (.bool true))))
def znf:List D->R D:=zcb false 1 11 zoP
end K08
namespace K08
open PySem L2 PySem.Spec FL
open PyProof.Rows hiding St
section
def top(i:Nat):Stmt:=PySem.Challenge.pw_swaprest_k08_a_table_made.main.body.getD i (.Pass ⟨0,0,0,0⟩)
def inC(i j:Nat):Stmt:=match top i with
  | .ClassDef _ _ _ b _ _ _ _ _ _ _=>b.getD j (.Pass ⟨0,0,0,0⟩)
  | s=>s
variable [Cs]
structure Cst(mg:Str->Option Value)(zbV:Tok)(zbQ:Addr):Prop where
  zdL:mg "MOST_WAYS"=some (.int 6 zbV)
  zdr:mg "NOUGHT"=some (.ref zbQ)
  v_NOUGHT:∃ o,Cs.C zbQ=some (.frz o (.tup [.int 0,.int 1]))
section
variable {P:Program}{w:World}{K:PySem.W.Frag}{mg:Str->Option Value}{base:Heap}
abbrev zdw:=CT "is_whole" 1 ["one"] 1 false zbB
abbrev zbp:=CT "common_divisor" 1 ["one","other"] 2 false zaJ
abbrev zdk:=CT "is_of_noughts" 1 ["row"] 1 false za4
abbrev zdl:=CT "_law_mixed" 1 ["_law_cell","_law_k"] 2 false zdm
abbrev ziG:=CT "_law_at" 1 ["_law_script","_law_k"] 2 false zep
abbrev zgK:=CT "_law_low" 1 ["_law_top","_law_bottom"] 2 false zbC
abbrev zf8:=CT "is_number" 2 ["one"] 1 false zdT
abbrev zm9:=CT "plus" 2 ["one","other"] 2 false zky
abbrev zjA:=CT "times" 2 ["one","other"] 2 false zdS
abbrev zkw:=CT "is_way" 2 ["one","count"] 2 false zeo
abbrev zeY:=CT "_law_purse" 2 ["_law_cell","_law_k"] 2 true zcD
abbrev zcU:=CTM "_law_take" 2 ["_law_purse_here","_law_many"] [true,false] false zaf
abbrev zpD:=CT "less" 3 ["one","other"] 2 false zkz
abbrev zkx:=CT "is_row" 3 ["row"] 1 false zhL
abbrev zeX:=CT "with_times" 3 ["row","weight","other"] 3 false zcC
abbrev zc2:=CT "names_two_ways" 3 ["leaving","count"] 2 false zaY
abbrev zen:=CTM "_law_number" 3 ["_law_purse_here"] [true] false zba
abbrev zeZ:=CTM "_law_pairs" 3 ["_law_purse_here","_law_count"] [true,false] false zcE
abbrev zdR:=CT "is_row_of" 4 ["row","width"] 2 false zb0
abbrev zem:=CT "refuse_rows" 5 ["rows","width"] 2 false zbS
abbrev zdF:=CT "rows_by_pair" 5 ["count","leavings"] 2 true zb7
abbrev zna[Cs]:=CTI "Table" "Table" 6 ["self","count","leavings"] 2 zeN
abbrev ze0:=CTm "Table" "left" 6 ["self","one","other"] [none,none] zcF
abbrev zcK:=CTO "_law_left_right" 7 ["_law_table","_law_count","_law_leavings"] [some "Table",none,none] false zbb
variable {zbV:Tok}{zbQ:Addr}(B:Blt mg)(C:Cst mg zbV zbQ)
include B C
variable {C_Table:Addr}(OB_Table:Ob K "Table" C_Table ["count","leavings"])
include OB_Table
theorem zkX(h:Has K mg "is_whole" (top 8)):zdw P w K mg base:=fnP ["one"] h fun hr nd=>by
  unfold zgI
  exact(zbk (zgu (zgf zmu B.zaw B.zmd Bt.int (zaa 0)) (zh4 (zr4 (zgf zkc B.zaw B.zj8 Bt.bool (zaa 0))))))
theorem ze6(h:Has K mg "common_divisor" (top 9)):zbp P w K mg base:=fnP ["one","other","high","low"] h fun hr nd=>by
  unfold zc1 zcy
  exact(zag (zh3 2 3 nd (zfB zrn B.zmf Bt.abs (zaa 0)) (zfB zrn B.zmf Bt.abs (zaa 1)))
      (zag (zh2 (zc5 3) PassesOwn.never (zaI (zkG hr) (zaa 3) zad) (zau (zh3 2 3 nd (zaa 3) (zar zi4 (zaa 2) (zaa 3)))))
      (zbk (zaa 2))))
theorem zfQ(h:Has K mg "is_of_noughts" (top 18)):zdk P w K mg base:=fnP ["row"] h fun hr nd=>by
  unfold zbP zbW
  exact(zbk (zfB (ztk rfl) B.zob Bt.all (PVN.pv (cp ["one"] [] ["one"] (zbI (zaa 0)) (fun nd=>(g_n 0 nd)) za6 (zlF (zlA hr) (zaa 0) (zjV rfl C.zdr C.v_NOUGHT (fun _=>by simp [zae,Fz])))))))
theorem zik(h:Has K mg "_law_mixed" (top 27)):zdl P w K mg base:=fnP ["_law_cell","_law_k","_law_number_here"] h fun hr nd=>by
  unfold zeW
  exact(zag (zbH 2 nd (zar zbv (zar zbv (zar zdb (zar zbv (zar zi4 (zaa 0) (zar zbv (zar ze3 zad zad) zad)) (zar zdb zad (zaa 1))) zad) (zar zdb zad (zaa 1))) zad))
      (zag (zbH 2 nd (zar zi4 (zar zdb (zaa 2) (zaa 2)) (zar zbv (zar ze3 zad zad) zad)))
      (zbk (zar zi4 (zar zdb (zar zbv (zaa 2) zad) (zar zbv (zaa 2) zad)) (zar zbv (zar ze3 zad zad) zad)))))
theorem zmy(h:Has K mg "_law_at" (top 30)):ziG P w K mg base:=fnP ["_law_script","_law_k"] h fun hr nd=>by
  unfold ziE
  exact(zag (za0 (zaI (zo0 hr) (zaa 1) (zfB zk8 B.zib Bt.len (zaa 0))) (zbk (zbt zcV (zaa 0) (zaa 1))) zaA)
      (zbk (zar zbv (zar zdb zad (zaa 1)) zad)))
theorem zkY(h:Has K mg "_law_low" (top 31)):zgK P w K mg base:=fnP ["_law_top","_law_bottom","_law_one","_law_other"] h fun hr nd=>by
  unfold zgJ zeP
  exact(zag (zbH 2 nd (zfB zrn B.zmf Bt.abs (zaa 0)))
      (zag (zbH 3 nd (zaa 1))
      (zag (zh2 (zc5 3) PassesOwn.never (zaI (zkG hr) (zaa 3) zad) (zau (zh3 2 3 nd (zaa 3) (zar zi4 (zaa 2) (zaa 3)))))
      (zbk (za3 (a2 (zar (zdc hr) (zaa 0) (zaa 2)) (zar (zdc hr) (zaa 1) (zaa 2))))))))
theorem zjg(h:Has K mg "is_number" (top 10)) (c_common_divisor:zbp P w K mg base) (c_is_whole:zdw P w K mg base):zf8 P w K mg base:=fnP ["one","top","bottom"] h fun hr nd=>by
  unfold zf5
  exact(zag (za0 (PVW.pvt (zc9 (zbs (zbr zdG (zgf kit_tuple B.zaw B.zct Bt.tuple (zaa 0)))) (zcM (zaI (zkG hr) (zfB zk8 B.zib Bt.len (zaa 0)) zad)))) (zbk ze2) zaA)
      (zag (ziX (zaa 0) (zcc rfl (zap (g_n 1 nd) (zap (g_n 2 nd) zbn))))
      (zag (za0 (PVW.pvt (zc9 (zbs (zbr zdG (zbu c_is_whole hr (a1 (zaa 1))))) (zc9 (zbs (zbr zdG (zbu c_is_whole hr (a1 (zaa 2))))) (zcM (zaI (zo0 hr) (zaa 2) zad))))) (zbk ze2) zaA)
      (zbk (zlF (zlA hr) (zbu c_common_divisor hr (a2 (zaa 1) (zaa 2))) zad)))))
theorem zsT(h:Has K mg "plus" (top 11)) (c_common_divisor:zbp P w K mg base):zm9 P w K mg base:=fnP ["one","other","shared","mine","its","top","again"] h fun hr nd=>by
  unfold zpz
  exact(zag (zbH 2 nd (zbu c_common_divisor hr (a2 (zbt zcV (zaa 0) zad) (zbt zcV (zaa 1) zad))))
      (zag (zh3 3 4 nd (zar (zdc hr) (zbt zcV (zaa 0) zad) (zaa 2)) (zar (zdc hr) (zbt zcV (zaa 1) zad) (zaa 2)))
      (zag (zbH 5 nd (zar zbv (zar zdb (zbt zcV (zaa 0) zad) (zaa 4)) (zar zdb (zbt zcV (zaa 1) zad) (zaa 3))))
      (zag (zbH 6 nd (zbu c_common_divisor hr (a2 (zaa 5) (zaa 2))))
      (zbk (za3 (a2 (zar (zdc hr) (zaa 5) (zaa 6)) (zar zdb (zaa 3) (zar (zdc hr) (zbt zcV (zaa 1) zad) (zaa 6))))))))))
theorem zqV(h:Has K mg "times" (top 13)) (c_common_divisor:zbp P w K mg base):zjA P w K mg base:=fnP ["one","other","mine","its"] h fun hr nd=>by
  unfold zm4
  exact(zag (zh3 2 3 nd (zbu c_common_divisor hr (a2 (zbt zcV (zaa 0) zad) (zbt zcV (zaa 1) zad))) (zbu c_common_divisor hr (a2 (zbt zcV (zaa 1) zad) (zbt zcV (zaa 0) zad))))
      (zbk (za3 (a2 (zar zdb (zar (zdc hr) (zbt zcV (zaa 0) zad) (zaa 2)) (zar (zdc hr) (zbt zcV (zaa 1) zad) (zaa 3))) (zar zdb (zar (zdc hr) (zbt zcV (zaa 0) zad) (zaa 3)) (zar (zdc hr) (zbt zcV (zaa 1) zad) (zaa 2)))))))
theorem zom(h:Has K mg "is_way" (top 22)) (c_is_whole:zdw P w K mg base):zkw P w K mg base:=fnP ["one","count"] h fun hr nd=>by
  unfold zhF
  exact(zbk (zgu (zbu c_is_whole hr (a1 (zaa 0))) (zh4 (znN (ztY hr) (zo0 hr) zad (zaa 0) (zaa 1)))))
theorem zii(h:Has K mg "_law_purse" (top 28)) (c__law_mixed:zdl P w K mg base):zeY P w K mg base:=fnP ["_law_cell","_law_k"] h fun hr nd=>by
  unfold zeV
  exact(zag (za0 (zaI (zvO hr) (zaa 0) (zar ze3 zad zad)) (zau (zjT (zcp (a3 (zar zi3 (zaa 0) (zar ze3 zad zad)) zad (zaa 1))))) zaA)
      (zau (zjT (zcp (a3 (zbu c__law_mixed hr (a2 (zaa 0) (zaa 1))) zad (zar zbv (zar zi4 (zaa 0) (zar zbv (zar ze3 zad zad) zad)) (zaa 1)))))))
theorem zjh(h:Has K mg "_law_take" (top 29)) (c__law_mixed:zdl P w K mg base):zcU P w K mg base:=fnM [true,false] ["_law_purse_here","_law_many","_law_got"] h fun hr nd=>by
  unfold zf6
  exact(zag (za0 (zaI (zo0 hr) (zg8 0 zcV zad) (zaa 1)) (zag (zfd 0 (pv 0) (zar zbv (zg8 0 zcV zad) zad) zad)
      (zau (zfd 0 (pv 0) (zar zbv (zg8 0 zcV zad) (zar zdb (zaa 1) (zbu c__law_mixed hr (a2 (zg8 0 zcV zad) (zar zbv (zar zdb zad (zg8 0 zcV zad)) zad))))) zad))) zaA)
      (zag (zbH 2 nd (zar zi4 (zg8 0 zcV zad) (zaa 1)))
      (zag (zfd 0 (pv 0) (zar (zdc hr) (zg8 0 zcV zad) (zaa 1)) zad)
      (zbk (zaa 2)))))
theorem zsU(h:Has K mg "less" (top 12)) (c_plus:zm9 P w K mg base):zpD P w K mg base:=fnP ["one","other"] h fun hr nd=>by
  unfold zkt
  exact(zbk (zbu c_plus hr (a2 (zaa 0) (za3 (a2 (zkI zkA (zbt zcV (zaa 1) zad)) (zbt zcV (zaa 1) zad))))))
theorem zon(h:Has K mg "is_row" (top 15)) (c_is_number:zf8 P w K mg base):zkx P w K mg base:=fnP ["row"] h fun hr nd=>by
  unfold zfl zdp
  exact(zbk (zgu (zgf zoj B.zaw B.zia Bt.list (zaa 0)) (zh4 (zfB (ztk rfl) B.zob Bt.all (PVN.pv (cp ["one"] [] ["one"] (zbI (zaa 0)) (fun nd=>(g_n 0 nd)) za6 (zbu c_is_number hr (a1 (zaa 0)))))))))
theorem zih(h:Has K mg "with_times" (top 19)) (c_plus:zm9 P w K mg base) (c_times:zjA P w K mg base):zeX P w K mg base:=fnP ["row","weight","other"] h fun hr nd=>by
  unfold zbA zb4
  exact(zag (za0 (zaI (zlA hr) (zaa 1) (zjV rfl C.zdr C.v_NOUGHT (fun _=>by simp [zae,Fz]))) (zbk (zkJ zti B.zia Bt.list (zaa 0))) zaA)
      (zbk (PVN.pv (cp ["mine","its"] [1] ["mine","its","weight"] (znK rfl B.zqN (a2 (zaa 0) (zaa 2))) (fun nd=>(zcc rfl (zap (g_n 0 nd) (zap (g_n 1 nd) zbn)))) za6 (zt7 (zaI (zlA hr) (zaa 1) (zjV rfl C.zdr C.v_NOUGHT (fun _=>by simp [zae,Fz]))) (zaa 0) (zbu c_plus hr (a2 (zaa 0) (zbu c_times hr (a2 (zaa 2) (zaa 1))))))))))
theorem ze5(h:Has K mg "names_two_ways" (top 23)) (c_is_way:zkw P w K mg base):zc2 P w K mg base:=fnP ["leaving","count","i","j","row"] h fun hr nd=>by
  unfold zce
  exact(zag (za0 (PVW.pvt (zc9 (zbs (zbr zdG (zgf kit_tuple B.zaw B.zct Bt.tuple (zaa 0)))) (zcM (zaI (zkG hr) (zfB zk8 B.zib Bt.len (zaa 0)) zad)))) (zbk ze2) zaA)
      (zag (ziX (zaa 0) (zcc rfl (zap (g_n 2 nd) (zap (g_n 3 nd) (zap (g_n 4 nd) zbn)))))
      (zbk (zgu (zbu c_is_way hr (a2 (zaa 2) (zaa 1))) (zgu (zbu c_is_way hr (a2 (zaa 3) (zaa 1))) (zh4 (zlF (zo0 hr) (zaa 2) (zaa 3))))))))
theorem zhq(h:Has K mg "_law_number" (top 35)) (c__law_take:zcU P w K mg base) (c__law_low:zgK P w K mg base):zen P w K mg base:=fnM [true] ["_law_purse_here","_law_way"] h fun hr nd=>by
  unfold zcl
  exact(zag (zbH 1 nd (zdK c__law_take hr (zjz 0 (zcz zad zaV))))
      (zag (za0 (zaI (zo0 hr) (zaa 1) zad) (zbk (zbt zcV (PVN.pv (znH rfl)) (zaa 1))) zaA)
      (zag (za0 (zaI (zo0 hr) (zaa 1) zad) (zbk (zbu c__law_low hr (a2 (zar zi3 (zdK c__law_take hr (zjz 0 (zcz zad zaV))) zad) (zar zbv zad (zar zdb (zdK c__law_take hr (zjz 0 (zcz zad zaV))) (zar zi3 (zaa 1) zad)))))) zaA)
      (zag (za0 (zaI (zo0 hr) (zaa 1) zad) (zbk (zbu c__law_low hr (a2 (zar zi3 (zdK c__law_take hr (zjz 0 (zcz (zar zbv (zar zdb zad (zar ze3 zad zad)) zad) zaV))) (zar ze3 zad zad)) (zar zbv zad (zar zdb (zdK c__law_take hr (zjz 0 (zcz (zar ze3 zad zad) zaV))) (zar zi3 (zaa 1) zad)))))) zaA)
      (zbk (zbu c__law_low hr (a2 (zar zi3 (zdK c__law_take hr (zjz 0 (zcz (zar zbv (zar zdb zad (zar ze3 zad zad)) zad) zaV))) (zar ze3 zad zad)) (zar zbv zad (zdK c__law_take hr (zjz 0 (zcz (zar ze3 zad zad) zaV)))))))))))
theorem zij(h:Has K mg "_law_pairs" (top 36)) (c__law_take:zcU P w K mg base):zeZ P w K mg base:=fnM [true,false] ["_law_purse_here","_law_count","_law_pairs_here","_law_i","_law_way","_law_turn","_law_at_here"] h fun hr nd=>by
  unfold zcA zb1 zbf zbi zbe zbg zbj
  exact(zag (zfz 2 nd (zcp zda))
      (zag (zg5 2 (zdA (za7 rfl B.zcd (a1 (zaa 1))) (g_n 3 nd) (zau (zbH 2 nd (zar zbv (zaa 2) (PVN.pv (cp ["_law_j"] [3] ["_law_j","_law_i"] (zkH rfl B.zcd (a2 (zar zbv (zaa 3) zad) (zaa 1))) (fun nd=>(g_n 0 nd)) za6 (za3 (a2 (zaa 1) (zaa 0))))))))))
      (zag (zbH 4 nd (zdK c__law_take hr (zjz 0 (zcz zad zaV))))
      (zag (za0 (zaI (zt0 hr) (zaa 4) zad) (zau (zd0 2 (cpS 2 ["_law_pair"] [0,4] ["_law_pair","_law_purse_here","_law_way"] nd (zbI (zaa 2)) (fun nd=>(g_n 0 nd)) (zfc (PVW.pvt (zc9 (zaI (zlA hr) (zaa 2) zad) (zcM (zaI (zlA hr) (zdK c__law_take hr (zjz 1 (zcz zad zaV))) zad))))) (zaa 0)))) zaA)
      (zag (zdA (za7 rfl B.zcd (a1 zad)) (g_n 5 nd) (zau (za0 (zaI (zt0 hr) (zfB zk8 B.zib Bt.len (zaa 2)) zad) (zag (zbH 6 nd (zdK c__law_take hr (zjz 0 (zcz (zfB zk8 B.zib Bt.len (zaa 2)) zaV))))
      (zag (zfz 2 nd (zlE (zg6 znx (zaa 2) (zfe (zaa 6)) zff) (zg6 znx (zaa 2) zff (zfe (zaa 6)))))
      (zau (zd0 2 (zp3 2 rfl (pv 2) (pv 2) (za3 (a2 (zg8 2 zcV (zkI zkA zad)) (zg8 2 zcV zad))) zad (zkI zkA zad)))))) zaA)))
      (zbk (zaa 2)))))))
theorem zjf(h:Has K mg "is_row_of" (top 16)) (c_is_row:zkx P w K mg base):zdR P w K mg base:=fnP ["row","width"] h fun hr nd=>by
  unfold zcS
  exact(zbk (zgu (zbu c_is_row hr (a1 (zaa 0))) (zh4 (zlF (zlA hr) (zfB zk8 B.zib Bt.len (zaa 0)) (zaa 1)))))
theorem zhp(h:Has K mg "refuse_rows" (top 17)) (c_is_row_of:zdR P w K mg base):zem P w K mg base:=fnP ["rows","width","place","row"] h fun hr nd=>by
  unfold zek zbF zaC
  exact(zau (zdA (zjU rfl B.zcO (a1 (zaa 0))) (zcc rfl (zap (g_n 2 nd) (zap (g_n 3 nd) zbn))) (zau (za0 (zbs (zbr zdG (zbu c_is_row_of hr (a2 (zaa 3) (zaa 1))))) (zau zd1) zaA))))
theorem zgj(h:Has K mg "rows_by_pair" (top 24)) (c_names_two_ways:zc2 P w K mg base) (c_is_row_of:zdR P w K mg base):zdF P w K mg base:=fnP ["count","leavings","held","place","leaving","i","j","row"] h fun hr nd=>by
  unfold zb6 zbl zbm
  exact(zag (zfz 2 nd zlD)
      (zag (zdA (zjU rfl B.zcO (a1 (zaa 1))) (zcc rfl (zap (g_n 3 nd) (zap (g_n 4 nd) zbn))) (zag (za0 (zbs (zbr zdG (zbu c_names_two_ways hr (a2 (zaa 4) (zaa 0))))) (zau zd1) zaA)
      (zag (ziX (zaa 4) (zcc rfl (zap (g_n 5 nd) (zap (g_n 6 nd) (zap (g_n 7 nd) zbn)))))
      (zag (za0 (zp1 2 (ztZ hr) (za3 (a2 (zaa 5) (zaa 6)))) (zau zd1) zaA)
      (zag (za0 (zbs (zbr zdG (zbu c_is_row_of hr (a2 (zaa 7) (zar zbv (zaa 0) zad))))) (zau zd1) zaA)
      (zau (znF 2 (zjM hr) (pv 2) (zkJ zhC B.zct Bt.tuple (zaa 7)) (za3 (a2 (zaa 5) (zaa 6))))))))))
      (zau (znC 2 (pv 2)))))
theorem zqW{f_Table:Addr}{fd_Table:FuncData}(huq:∀ c' ns',Cs.O c'=some (C_Table,ns')->ns'.length=2)(hm:mg "Table"=some (.ref C_Table)) (M:Mk K C_Table f_Table) (F:Fun K "__init__" "Table.__init__" (inC 25 0) f_Table fd_Table) (c_rows_by_pair:zdF P w K mg base) (c_is_whole:zdw P w K mg base) (c_is_of_noughts:zdk P w K mg base):zna P w K mg base:=fnI ["self","count","leavings","held"] OB_Table huq hm M F fun Cc hr nd=>by
  unfold zhG zc8
  exact(zjY (dom:=[]) rfl (zh5 (PVW.pvt (zc9 (zbs (zbr zdG (zbu c_is_whole hr (a1 (zaa 1))))) (zcM (zbs (zlB (ztY hr) (ztY hr) zad (zaa 1) (zqa (v:=(.int 6)) rfl C.zdL ⟨_,rfl⟩ (fun _=>zcY _))))))) (zqj zql) zfC)
      (zjY (dom:=[3]) rfl (zsc 3 nd (PVN.pv (zo1 c_rows_by_pair hr (a2 (zaa 1) (zaa 2)))))
      (zqi (zsm OB_Table rfl (by decide) (zaa 1) (zsm OB_Table rfl (by decide) (zkJ zhC B.zct Bt.tuple (PVN.pv (cp ["i","j"] [3] ["i","j","held"] (zbI (zg7 (zd3 (zmX rfl) rfl B.zfg Bt.sorted (a1 (zaa 3))))) (fun nd=>(zcc rfl (zap (g_n 0 nd) (zap (g_n 1 nd) zbn)))) (zfc (zbs (zbr zdG (zbu c_is_of_noughts hr (a1 (zbt (zu7 hr) (zaa 2) (za3 (a2 (zaa 0) (zaa 1))))))))) (za3 (a3 (zaa 0) (zaa 1) (zbt (zu7 hr) (zaa 2) (za3 (a2 (zaa 0) (zaa 1))))))))) zqy)))))
theorem zil{f_Table_left:Addr}{fd_Table_left:FuncData}(M:Meth K C_Table "left" f_Table_left) (F:Fun K "left" "Table.left" (inC 25 1) f_Table_left fd_Table_left) (c_refuse_rows:zem P w K mg base) (c_less:zpD P w K mg base) (c_with_times:zeX P w K mg base) (c_times:zjA P w K mg base):ze0 P w K mg base:=fnT [none,none] ["self","one","other","total","i","j","row","weight"] OB_Table M F fun hr nd=>by
  unfold zcB zb2 zb3
  exact(zag (znE (zbu c_refuse_rows hr (a2 (PVN.pv (zcp (a2 (zaa 1) (zaa 2)))) (zar zbv (zfA 0 0 OB_Table) zad))))
      (zag (zbH 3 nd (PVN.pv (zp9 (zjV rfl C.zdr C.v_NOUGHT (fun _=>by simp [zae,Fz])) (zar zbv (zfA 0 0 OB_Table) zad))))
      (zag (zdA (zbI (zfA 0 1 OB_Table)) (zcc rfl (zap (g_n 4 nd) (zap (g_n 5 nd) (zap (g_n 6 nd) zbn)))) (zag (zbH 7 nd (zbu c_less hr (a2 (zbu c_times hr (a2 (zbt zcV (zaa 1) (zaa 4)) (zbt zcV (zaa 2) (zaa 5)))) (zbu c_times hr (a2 (zbt zcV (zaa 1) (zaa 5)) (zbt zcV (zaa 2) (zaa 4)))))))
      (zau (zbH 3 nd (zbu c_with_times hr (a3 (zaa 3) (zaa 7) (zaa 6)))))))
      (zbk (zaa 3)))))
theorem zeB(h:Has K mg "_law_left_right" (top 37)) (c_Table_left:ze0 P w K mg base):zcK P w K mg base:=fnO [some "Table",none,none] false ["_law_table","_law_count","_law_leavings","_law_known","_law_i","_law_j","_law_units","_law_due"] h fun hr nd=>by
  unfold za9 zaP zaR zaQ zaS zbq zaD zaT zaE zaU zaF
  exact(zag (zbH 3 nd (PVN.pv (zr2 hr B.zme Bt.dict (PVN.pv (cp ["_law_i","_law_j","_law_row"] [] ["_law_i","_law_j","_law_row"] (zbI (zaa 2)) (fun nd=>(zcc rfl (zap (g_n 0 nd) (zap (g_n 1 nd) (zap (g_n 2 nd) zbn))))) za6 (za3 (a2 (za3 (a2 (zaa 0) (zaa 1))) (zaa 2))))))))
      (zag (zdA (za7 rfl B.zcd (a1 (zaa 1))) (g_n 4 nd) (zau (zdA (za7 rfl B.zcd (a1 (zaa 1))) (g_n 5 nd) (zag (zd0 6 (cpS 6 ["_law_way"] [1] ["_law_way","_law_count"] nd (zbI (PVN.pv (zcp (a2 (zaa 4) (zaa 5))))) (fun nd=>(g_n 0 nd)) za6 (PVN.pv (cp ["_law_place"] [0] ["_law_place","_law_way"] (za7 rfl B.zcd (a1 (zar zbv (zaa 1) zad))) (fun nd=>(g_n 0 nd)) za6 (za3 (a2 (zkJ zuT B.zmd Bt.int (zlF (zlA hr) (zaa 0) (zaa 1))) zad))))))
      (zag (zbH 7 nd (zqb (zjM hr) (zaa 3) (za3 (a2 (zd3 (ztg rfl) rfl B.zqO Bt.min (a2 (zaa 4) (zaa 5))) (zd3 (zth rfl) rfl B.zqP Bt.max (a2 (zaa 4) (zaa 5))))) (PVN.pv (cp ["_law_place"] [] ["_law_place"] (za7 rfl B.zcd (a1 (zar zbv (zaa 1) zad))) (fun nd=>(g_n 0 nd)) za6 (za3 (a2 zad zad)))) ⟨rfl,rfl,rfl,rfl⟩))
      (zag (za0 (zaI (zt0 hr) (zaa 4) (zaa 5)) (zau (zd0 7 (cpS 7 ["_law_number_here"] [] ["_law_number_here"] nd (zbI (zaa 7)) (fun nd=>(g_n 0 nd)) za6 (za3 (a2 (zar zi3 zad (zbt zcV (zaa 0) zad)) (zbt zcV (zaa 0) zad)))))) zaA)
      (zag (za0 (zaI (zlA hr) (zaa 4) (zaa 5)) (zau (zd0 7 (cpS 7 ["_law_place"] [] ["_law_place"] nd (za7 rfl B.zcd (a1 (zar zbv (zaa 1) zad))) (fun nd=>(g_n 0 nd)) za6 (za3 (a2 zad zad))))) zaA)
      (zau (za0 (zaI (zkG hr) (zr5 0 c_Table_left hr (zhd (zbt zcV (zaa 6) zad) (zhd (zbt zcV (zaa 6) zad) zl1))) (zaa 7)) (zbk ze2) zaA)))))))))
      (zbk ze2)))
set_option maxHeartbeats 0 in
theorem zut{fa:Addr}{fd:FuncData}(h:Fun K "law" "law" (top 38) fa fd) (c__law_purse:zeY P w K mg base) (c__law_pairs:zeZ P w K mg base) (c_Table:zna P w K mg base) (c__law_at:ziG P w K mg base) (c__law_take:zcU P w K mg base) (c__law_left_right:zcK P w K mg base) (c__law_number:zen P w K mg base):zes P w K mg base (CXe P w) 8 fa fd ["_law_script"] (spP K 1 false znf):=by
  have S:zbZ ["_law_script","_law_cell","_law_purse_here","_law_count","_law_leavings","_law_i","_law_j","_law_row","_law_due","_law_handed","_law_table"] ["_law_script"] (zak (top 38)):=⟨rfl,rfl,rfl,by decide +kernel,rfl,by decide +kernel,by decide +kernel⟩
  refine zes.pure (zmL (List.replicate 1 false) false h S rfl (by decide) fun cdv A outer s H E hr=>?_)
  have nd:=S.nd
  refine zg4 ?_
  unfold zoP zgL zgS zet zex zfw zfr zfs zfx zgM zgT zfy ziW
  exact(zag (zdA (zbI (zar zbv (zg6 znx (zaa 0) zff (zfe zad)) (PVN.pv (zcp (a1 (zbu c__law_at hr (a2 (zaa 0) zad))))))) (g_n 1 nd) (zag (zfz 2 nd (zo1 c__law_purse hr (a2 (zaa 1) zad)))
      (zag (zbH 3 nd (zar zbv zad (zdK c__law_take hr (zjz 2 (zcz zad zaV)))))
      (zag (zfz 4 nd (zcp zda))
      (zag (zdA (zbI (zdK c__law_pairs hr (zjz 2 (zcz (zaa 3) zaV)))) (zcc rfl (zap (g_n 5 nd) (zap (g_n 6 nd) zbn))) (zag (cpS 7 ["_law_place"] [2] ["_law_place","_law_purse_here"] nd (za7 rfl B.zcd (a1 (zar zbv (zaa 3) zad))) (fun nd=>(g_n 0 nd)) za6 (zdK c__law_number hr (zjz 1 zaV)))
      (zag (za0 (zaI (zlA hr) (zdK c__law_take hr (zjz 2 (zcz zad zaV))) zad) (zau (zfz 7 nd (zlE (PVN.pv (cp ["_law_place"] [] ["_law_place"] (za7 rfl B.zcd (a1 (zaa 3))) (fun nd=>(g_n 0 nd)) za6 (za3 (a2 zad zad)))) (zr6 7 znx (pv 7) (zfe (zkI zkA zad)) zff)))) zaA)
      (zag (za0 (zaI (zlA hr) (zdK c__law_take hr (zjz 2 (zcz zad zaV))) zad) (zau (zfd 7 (pv 7) (za3 (a2 zad zad)) (zkI zkA zad))) zaA)
      (zau (zg5 7 (zgt 4 rfl (pv 4) (za3 (a3 (zaa 5) (zaa 6) (zaa 7))))))))))
      (zag (zfz 8 nd (zcp zda))
      (zag (zg5 4 (zdA (zbI (zaa 4)) (zcc rfl (zap (g_n 5 nd) (zap (g_n 6 nd) (zap (g_n 7 nd) zbn)))) (zau (za0 (zaI (zkG hr) (PVN.pv (cp ["_law_one"] [] ["_law_one"] (zbI (zaa 7)) (fun nd=>(g_n 0 nd)) (zfc (zaI (zkG hr) (zbt zcV (zaa 0) zad) zad)) (zaa 0))) (PVN.pv (zcp zda))) (zau (zgt 8 rfl (pv 8) (za3 (a3 (zaa 5) (zaa 6) (zkJ zhC B.zct Bt.tuple (zaa 7)))))) zaA))))
      (zag (zg5 8 (zbH 8 nd (zkJ zhC B.zct Bt.tuple (zg7 (zd3 (zmX rfl) rfl B.zfg Bt.sorted (a1 (zaa 8)))))))
      (zlC (dom:=[10]) 9 (zv8 9 ["_law_i","_law_j","_law_row"] [] ["_law_i","_law_j","_law_row"] nd (zbI (zaa 4)) (fun nd=>(zcc rfl (zap (g_n 0 nd) (zap (g_n 1 nd) (zap (g_n 2 nd) zbn))))) za6 (zqe (zaa 0) (zaa 1) (zr1 B.zia Bt.list (zaa 2)) zvZ)) (zd7 (zqk 10 nd (zr0 c_Table hr (a2 (zaa 3) (zaa 9))))
      (zd7 (zh5 (PVW.pvt (zc9 (zaI (zkG hr) (zfA 10 0 OB_Table) (zaa 3)) (zc9 (zbr zdG (zgf zkc B.zaw B.zj8 Bt.bool (zfA 10 0 OB_Table))) (zcM (zbs (zbr zdG (zgf zmu B.zaw B.zmd Bt.int (zfA 10 0 OB_Table)))))))) (znT ze2) zfC)
      (zd7 (zh5 (PVW.pvt (zc9 (zbs (zbr zdG (zgf kit_tuple B.zaw B.zct Bt.tuple (zfA 10 1 OB_Table)))) (zcM (zaI (zkG hr) (zfA 10 1 OB_Table) (zaa 8))))) (znT ze2) zfC)
      (zd7 (zh5 (zaI (zkG hr) (PVN.pv (cp ["_law_one"] [] ["_law_one"] (zbI (zfA 10 1 OB_Table)) (fun nd=>(g_n 0 nd)) (zfc (PVW.pvt (zc9 (zbs (zbr zdG (zgf kit_tuple B.zaw B.zct Bt.tuple (zaa 0)))) (zcM (zbs (zbr zdG (zgf kit_tuple B.zaw B.zct Bt.tuple (zbt zcV (zaa 0) zad)))))))) (zaa 0))) (PVN.pv (zcp zda))) (znT ze2) zfC)
      (zd7 (zh5 (zaI (zkG hr) (zaa 9) (zaa 4)) (znT ze2) zfC)
      (zqt 9 5 6 7 [5,6,7,9] nd (zag (za0 (PVW.pvt (zc9 (zaI (zkG hr) (zfA 10 1 OB_Table) (zaa 8)) (zcM (zaI (zkG hr) (zfA 10 0 OB_Table) (zaa 3))))) (zbk ze2) zaA)
      (zau (za0 (zbs (zbr zdG (zt8 c__law_left_right hr (zue 10 (zhd (zaa 3) (zhd (zaa 4) zl1)))))) (zbk ze2) zaA))))))))))))))))))
      (zbk ze2))
end
end
section
theorem all_mk{l:PySem.W.OpenLaw}{w:World}{K:PySem.W.Frag}{h:Heap}{mg:Str->Option Value}{fa:Addr}(X:K.In h)(G:h.Ns mainGlobals mg)(hfa:mg "law"=some (.ref fa))
  {zbV:Tok} {zbQ:Addr}
  {ou_NOUGHT:Option Addr} {nn_NOUGHT:Nat} {su_NOUGHT:Array (Option Value)} {k0_NOUGHT k1_NOUGHT:Tok}
  {f_Table_left:Addr} {oc_Table_left:Value} {od_Table_left an_Table_left:Option Addr} {kV_Table_left dc_Table_left pm_Table_left cd_Table_left ct_Table_left:Value} {sl_Table_left:Array (Option Value)}
  {C_Table f_Table:Addr} {oc_Table:Value} {od_Table an_Table:Option Addr} {kV_Table dc_Table pm_Table cd_Table ct_Table:Value} {sl_Table:Array (Option Value)}
  (zla:Has K mg "is_whole" (top 8))
  (zfa:Has K mg "common_divisor" (top 9))
  (zgb:Has K mg "is_of_noughts" (top 18))
  (ziL:Has K mg "_law_mixed" (top 27))
  (znc:Has K mg "_law_at" (top 30))
  (zlb:Has K mg "_law_low" (top 31))
  (zjE:Has K mg "is_number" (top 10))
  (ztr:Has K mg "plus" (top 11))
  (zru:Has K mg "times" (top 13))
  (zoS:Has K mg "is_way" (top 22))
  (ziJ:Has K mg "_law_purse" (top 28))
  (zjF:Has K mg "_law_take" (top 29))
  (zts:Has K mg "less" (top 12))
  (zoT:Has K mg "is_row" (top 15))
  (ziI:Has K mg "with_times" (top 19))
  (ze9:Has K mg "names_two_ways" (top 23))
  (zhJ:Has K mg "_law_number" (top 35))
  (ziK:Has K mg "_law_pairs" (top 36))
  (zjD:Has K mg "is_row_of" (top 16))
  (zhI:Has K mg "refuse_rows" (top 17))
  (zgo:Has K mg "rows_by_pair" (top 24))
  (zeL:Has K mg "_law_left_right" (top 37))
  (zu2:Has K mg "law" (top 38))
  (zdL:PySem.W.nsIn K mainGlobals "MOST_WAYS"=some (some (.int 6 zbV)))
  (zdr:PySem.W.nsIn K mainGlobals "NOUGHT"=some (some (.ref zbQ)))
  (zoi:K.lookup zbQ=some ⟨.type "tuple",ou_NOUGHT,.seq #[.int 0 k0_NOUGHT,.int 1 k1_NOUGHT] nn_NOUGHT,su_NOUGHT⟩)
  (zmf:PySem.W.nsIn K mainGlobals "abs"=some none)
  (zaw:PySem.W.nsIn K mainGlobals "isinstance"=some none)
  (zmd:PySem.W.nsIn K mainGlobals "int"=some none)
  (zj8:PySem.W.nsIn K mainGlobals "bool"=some none)
  (zct:PySem.W.nsIn K mainGlobals "tuple"=some none)
  (zia:PySem.W.nsIn K mainGlobals "list"=some none)
  (zsJ:PySem.W.nsIn K mainGlobals "str"=some none)
  (zib:PySem.W.nsIn K mainGlobals "len"=some none)
  (zob:PySem.W.nsIn K mainGlobals "all"=some none)
  (zcd:PySem.W.nsIn K mainGlobals "range"=some none)
  (zqN:PySem.W.nsIn K mainGlobals "zip"=some none)
  (zcO:PySem.W.nsIn K mainGlobals "enumerate"=some none)
  (zqP:PySem.W.nsIn K mainGlobals "max"=some none)
  (zqO:PySem.W.nsIn K mainGlobals "min"=some none)
  (zsI:PySem.W.nsIn K mainGlobals "sum"=some none)
  (zfg:PySem.W.nsIn K mainGlobals "sorted"=some none)
  (zme:PySem.W.nsIn K mainGlobals "dict"=some none)
  (zsK:PySem.W.nsIn K mainGlobals "any"=some none)
  (k1_Table:PySem.W.nsIn K mainGlobals "Table"=some (some (.ref C_Table)))
  (k2_Table:PySem.W.plainGet K C_Table Str.empty=true)
  (k3_Table:PySem.W.hasDictIn K C_Table=true)
  (k4_Table:PySem.W.plainOver K C_Table=true)
  (k5_Table:PySem.W.findIn K (.ref C_Table) "__setattr__"=some (some (.builtin "object.__setattr__")))
  (kf_Table_count:PySem.W.findIn K (.ref C_Table) "count"=some none)
  (kf_Table_leavings:PySem.W.findIn K (.ref C_Table) "leavings"=some none)
  (k6_Table:PySem.W.makesIn K C_Table=true)
  (k7_Table:PySem.W.findIn K (.ref C_Table) "__init__"=some (some (.ref f_Table)))
  (k8_Table:PySem.W.isFn K (.ref f_Table)=true)
  (k9_Table:PySem.W.keepIn K (.ref C_Table)=true)
  (k10_Table:K.lookup f_Table=some ⟨oc_Table,od_Table,.func (PySem.W.fnOf "__init__" "Table.__init__" (zbM (inC 25 0)) (zaB (inC 25 0)) (zak (inC 25 0)) .none kV_Table dc_Table pm_Table an_Table cd_Table ct_Table),sl_Table⟩)
  (k11_Table:PySem.W.codeIn K cd_Table "Table.__init__"=true)
  (k12_Table:PySem.W.keepIn K (.ref f_Table)=true)
  (m1_Table_left:PySem.W.findIn K (.ref C_Table) "left"=some (some (.ref f_Table_left)))
  (m2_Table_left:PySem.W.isFn K (.ref f_Table_left)=true)
  (m3_Table_left:PySem.W.keepIn K (.ref f_Table_left)=true)
  (m4_Table_left:K.lookup f_Table_left=some ⟨oc_Table_left,od_Table_left,.func (PySem.W.fnOf "left" "Table.left" (zbM (inC 25 1)) (zaB (inC 25 1)) (zak (inC 25 1)) .none kV_Table_left dc_Table_left pm_Table_left an_Table_left cd_Table_left ct_Table_left),sl_Table_left⟩)
  (m5_Table_left:PySem.W.codeIn K cd_Table_left "Table.left"=true) :
  ∃(cl:CL) (ob:String->Option (Addr×List Str)) (fd:FuncData),ziQ cl K/\(∀(s:Shared) (v:Value),BindsTo s fd ⟨[v],[]⟩ [("_law_script",v)])/\∀ base:Heap,(zcw (cl.map (·.1)) K).In base->base.Ns mainGlobals mg->zes l.prog w (zcw (cl.map (·.1)) K) mg base (CXe l.prog w) 8 fa fd ["_law_script"] (@spP (zrA cl ob) (zcw (cl.map (·.1)) K) 1 false znf):=by
 obtain⟨f,fd,hm,Fl⟩:=id zu2
 have e:=hfa.symm.trans hm
 cases e
 obtain⟨oc,od,kV,dc,pm,an,cd,ct,sl,rfl,lk,hcd⟩:=id Fl.ex
 have hC:ziQ [(zbQ,⟨.type "tuple",ou_NOUGHT,.seq #[.int 0 k0_NOUGHT,.int 1 k1_NOUGHT] nn_NOUGHT,su_NOUGHT⟩,[.int 0,.int 1])] K:=(ziQ.cons zoi (.cons ⟨_,rfl⟩ (.cons ⟨_,rfl⟩ (.nil))) (by decide) ziQ.nil)
 refine⟨_,(fun c=>if c="Table" then some (C_Table,["count","leavings"]) else none),PySem.W.fnOf "law" "law" (zbM (top 38)) (zaB (top 38)) (zak (top 38)) .none kV dc pm an cd ct,hC,fun s v=>.of_eq rfl,fun base _ _=>?_⟩
 have B:Blt mg:=⟨PySem.W.mg_none_of X G zmf,PySem.W.mg_none_of X G zaw,PySem.W.mg_none_of X G zmd,PySem.W.mg_none_of X G zj8,PySem.W.mg_none_of X G zct,PySem.W.mg_none_of X G zia,PySem.W.mg_none_of X G zsJ,PySem.W.mg_none_of X G zib,PySem.W.mg_none_of X G zob,PySem.W.mg_none_of X G zcd,PySem.W.mg_none_of X G zqN,PySem.W.mg_none_of X G zcO,PySem.W.mg_none_of X G zqP,PySem.W.mg_none_of X G zqO,PySem.W.mg_none_of X G zsI,PySem.W.mg_none_of X G zfg,PySem.W.mg_none_of X G zme,PySem.W.mg_none_of X G zsK⟩
 letI:Cs:=zrA [(zbQ,⟨.type "tuple",ou_NOUGHT,.seq #[.int 0 k0_NOUGHT,.int 1 k1_NOUGHT] nn_NOUGHT,su_NOUGHT⟩,[.int 0,.int 1])] (fun c=>if c="Table" then some (C_Table,["count","leavings"]) else none)
 have OB_Table:Ob (zcw (([zbQ]:List Addr)) K) "Table" C_Table ["count","leavings"]:=⟨if_pos rfl,Cls.cut hC.seqs ⟨k2_Table,k3_Table,k4_Table,k5_Table⟩,fun f hf=>zcL.cut hC.seqs (by
  simp only [List.mem_cons,List.not_mem_nil,or_false] at hf
  rcases hf with rfl|rfl
  ·exact kf_Table_count
  ·exact kf_Table_leavings
  ),by decide +kernel⟩
 have C:Cst mg zbV zbQ:=⟨PySem.W.mg_of X G zdL,PySem.W.mg_of X G zdr,zs0 hC (List.Mem.head _)⟩
 have d_is_whole:=zkX (P:=l.prog) (w:=w) (base:=base) B C OB_Table (zla.cut hC.seqs)
 have d_common_divisor:=ze6 (P:=l.prog) (w:=w) (base:=base) B C OB_Table (zfa.cut hC.seqs)
 have d_is_of_noughts:=zfQ (P:=l.prog) (w:=w) (base:=base) B C OB_Table (zgb.cut hC.seqs)
 have d__law_mixed:=zik (P:=l.prog) (w:=w) (base:=base) B C OB_Table (ziL.cut hC.seqs)
 have d__law_at:=zmy (P:=l.prog) (w:=w) (base:=base) B C OB_Table (znc.cut hC.seqs)
 have d__law_low:=zkY (P:=l.prog) (w:=w) (base:=base) B C OB_Table (zlb.cut hC.seqs)
 have d_is_number:=zjg (P:=l.prog) (w:=w) (base:=base) B C OB_Table (zjE.cut hC.seqs) d_common_divisor d_is_whole
 have d_plus:=zsT (P:=l.prog) (w:=w) (base:=base) B C OB_Table (ztr.cut hC.seqs) d_common_divisor
 have d_times:=zqV (P:=l.prog) (w:=w) (base:=base) B C OB_Table (zru.cut hC.seqs) d_common_divisor
 have d_is_way:=zom (P:=l.prog) (w:=w) (base:=base) B C OB_Table (zoS.cut hC.seqs) d_is_whole
 have d__law_purse:=zii (P:=l.prog) (w:=w) (base:=base) B C OB_Table (ziJ.cut hC.seqs) d__law_mixed
 have d__law_take:=zjh (P:=l.prog) (w:=w) (base:=base) B C OB_Table (zjF.cut hC.seqs) d__law_mixed
 have d_less:=zsU (P:=l.prog) (w:=w) (base:=base) B C OB_Table (zts.cut hC.seqs) d_plus
 have d_is_row:=zon (P:=l.prog) (w:=w) (base:=base) B C OB_Table (zoT.cut hC.seqs) d_is_number
 have d_with_times:=zih (P:=l.prog) (w:=w) (base:=base) B C OB_Table (ziI.cut hC.seqs) d_plus d_times
 have d_names_two_ways:=ze5 (P:=l.prog) (w:=w) (base:=base) B C OB_Table (ze9.cut hC.seqs) d_is_way
 have d__law_number:=zhq (P:=l.prog) (w:=w) (base:=base) B C OB_Table (zhJ.cut hC.seqs) d__law_take d__law_low
 have d__law_pairs:=zij (P:=l.prog) (w:=w) (base:=base) B C OB_Table (ziK.cut hC.seqs) d__law_take
 have d_is_row_of:=zjf (P:=l.prog) (w:=w) (base:=base) B C OB_Table (zjD.cut hC.seqs) d_is_row
 have d_refuse_rows:=zhp (P:=l.prog) (w:=w) (base:=base) B C OB_Table (zhI.cut hC.seqs) d_is_row_of
 have d_rows_by_pair:=zgj (P:=l.prog) (w:=w) (base:=base) B C OB_Table (zgo.cut hC.seqs) d_names_two_ways d_is_row_of
 have d_Table:=zqW (P:=l.prog) (w:=w) (base:=base) B C OB_Table (fun c ns e=>by
  have e:((fun c=>if c="Table" then some (C_Table,["count","leavings"]) else none):String->Option (Addr×List Str)) c=some (C_Table,ns):=e
  simp only at e
  split at e <;> cases e
  rfl) (PySem.W.mg_of X G k1_Table) (Mk.cut hC.seqs k10_Table ⟨k6_Table,k7_Table,k8_Table,k9_Table⟩) (Fun.cut hC.seqs (zmJ k10_Table k11_Table k12_Table)) d_rows_by_pair d_is_whole d_is_of_noughts
 have d_Table_left:=zil (P:=l.prog) (w:=w) (base:=base) B C OB_Table (Meth.cut hC.seqs m4_Table_left ⟨m1_Table_left,m2_Table_left,m3_Table_left⟩) (Fun.cut hC.seqs (zmJ m4_Table_left m5_Table_left m3_Table_left)) d_refuse_rows d_less d_with_times d_times
 have d__law_left_right:=zeB (P:=l.prog) (w:=w) (base:=base) B C OB_Table (zeL.cut hC.seqs) d_Table_left
 have d_law:=zut (P:=l.prog) (w:=w) (base:=base) B C OB_Table (Fun.cut hC.seqs Fl) d__law_purse d__law_pairs d_Table d__law_at d__law_take d__law_left_right d__law_number
 exact d_law
theorem walk{l:PySem.W.OpenLaw}{q:Program}{loose:List Str}{XP:(Str->Option Value)->Heap->Prop}{YP:World->Heap->Prop}{d:DefRec}{K:Params->PySem.W.Frag}(hlaw:∀ ns:List Int,ns.length<=63->znf [.list (ns.map PyData.int)]=.ok (.bool true))(hn:l.most=some 63)(hdf:d.params.defaults=[])(hi:importsNone q=true)(htr:l.prog.given.tree=none)
  (hY:∀(w:World) (h:Heap),YP w h->(K w.params).In h)
  (F:∀(w:World) (mg:Str->Option Value) (fa:Addr) (h:Heap),(K w.params).In h->h.Ns mainGlobals mg->mg d.name=some (.ref fa) ->
   ∃(cl:CL) (ob:String->Option (Addr×List Str)) (fd:FuncData),ziQ cl (K w.params)/\(∀(s:Shared) (u:Value),BindsTo s fd ⟨[u],[]⟩ [("_law_script",u)])/\∀ base:Heap,(zcw (cl.map (·.1)) (K w.params)).In base->base.Ns mainGlobals mg->zes l.prog w (zcw (cl.map (·.1)) (K w.params)) mg base (CXe l.prog w) 8 fa fd ["_law_script"] (@spP (zrA cl ob) (zcw (cl.map (·.1)) (K w.params)) 1 false znf)) :
  PySem.W.WalkO q loose XP YP l.row.toRowW d [] (fun f vs=>PySem.call f vs) :=
 zno (k:=8) (x:="_law_script") hlaw hn hdf hi htr ⟨rfl,by decide,by decide,rfl⟩ hY F
end
end K08
namespace FL
open PySem
section
theorem zeG{k:Nat}{ix:List Nat}{g:GF}{t:TF}{f:EF}{ρ:En}(P:D->Bool)(h:D->D):∀(items:List D) (acc:List D),acc.length+items.length<=lim ->
  (∀ x∈items,∃ β,g x (blk k ix ρ)=.ok β/\t β=.ok (P x,β)/\(P x=true->f β=.ok (h x,β))/\back ρ ix (β.drop k)=ρ)->zcx k ix g t f items ρ acc=.ok (acc++(items.filter P).map h,ρ)
 | [],acc,_,_=>by simp [zcx]
 | x::xs,acc,hl,hx=>by
  obtain⟨β,h1,h2,h3,h4⟩:=hx x (List.mem_cons_self ..)
  have rest:=fun y m=>hx y (List.mem_cons_of_mem x m)
  simp only [List.length_cons] at hl
  unfold zcx
  rw [h1,zac,h2,zac]
  cases c:P x with
  | true =>
   rw [if_pos rfl,h3 c,zac,zaN (zcg (by omega)),h4,zeG P h xs _ (by simp;omega) rest,List.filter_cons_of_pos c]
   simp
  | false =>
   rw [if_neg (by simp),h4,zeG P h xs acc (by omega) rest,List.filter_cons_of_neg (by simp [c])]
theorem zgG{k:Nat}{ix:List Nat}{it:IF}{g:GF}{t:TF}{f:EF}{ρ:En}{items:List D}(P:D->Bool)(h:D->D)(hi:it ρ=.ok (items,ρ))(hl:items.length<=lim)
  (hx:∀ x∈items,∃ β,g x (blk k ix ρ)=.ok β/\t β=.ok (P x,β)/\(P x=true->f β=.ok (h x,β))/\back ρ ix (β.drop k)=ρ):zbd k ix it g t f ρ=.ok (.list ((items.filter P).map h),ρ):=by
 unfold zbd
 rw [hi,zac,zeG P h items [] (by simpa using hl) hx]
 rfl
theorem zju(ns:List Bool):boolsOf (ns.map PyData.bool)=some ns:=by
 induction ns with
 | nil=>rfl
 | cons n ns ih=>simp [boolsOf,ih]
theorem zku(bs:List Bool):zto (.list (bs.map PyData.bool))=.ok (.bool (bs.all id)):=by
 show((R.of (boolsOf _)).bind _)=_
 rw [zju];rfl
theorem zoD{α:Type}(xs:List α)(p:Nat)(h:p<=xs.length):cut xs (some (p:Int)) none=xs.drop p:=by
 unfold cut sIx
 simp only
 rw [if_neg (by omega)]
 rw [show min (p:Int).toNat xs.length=p by omega]
 rw [List.take_of_length_le (by simp)]
theorem zpw{α:Type}(xs:List α)(p:Nat):cut xs none (some (p:Int))=xs.take p:=by
 unfold cut sIx
 simp only
 rw [if_neg (by omega),List.drop_zero,Nat.sub_zero]
 by_cases h:p<=xs.length
 ·rw [show min (p:Int).toNat xs.length=p by omega]
 ·rw [show min (p:Int).toNat xs.length=xs.length by omega,List.take_length,List.take_of_length_le (by omega)]
theorem zi9{α β:Type}(g:α->β)(xs:List α)(lo hi:Option Int):cut (xs.map g) lo hi=(cut xs lo hi).map g:=by
 unfold cut
 simp [List.map_take,List.map_drop]
theorem zg2(lo hi:Int):rng lo hi=((List.range (hi-lo).toNat).map fun(i:Nat)=>lo+(i:Int)).map PyData.int:=by
 unfold rng
 rw [List.map_map];rfl
def Pl(n:Nat)(d:D):Prop:=PyData.canLay0 d=true/\d.depth<=n
theorem Pl.shaped{n:Nat}{d:D}(h:Pl n d)(hn:n<=64:=by decide):SeqAt.shaped d=true:=by
 unfold SeqAt.shaped
 rw [h.1,decide_eq_true (Nat.le_trans h.2 hn)];rfl
theorem zd6(i:Int):Pl 0 (.int i):=⟨rfl,Nat.le_refl _⟩
theorem Pl.up{n m:Nat}{d:D}(h:Pl n d)(hn:n<=m):Pl m d:=⟨h.1,Nat.le_trans h.2 hn⟩
theorem zlS{n:Nat}:∀{ds:List D},(∀ d∈ds,Pl n d)->PyData.canLayAll0 ds=true/\PyData.depthAll ds<=n
 | [],_=>⟨rfl,Nat.zero_le _⟩
 | d::ds,h=>by
  obtain⟨a,b⟩:=zlS fun x m=>h x (List.mem_cons_of_mem d m)
  obtain⟨c,e⟩:=h d (List.mem_cons_self ..)
  refine⟨by simp only [PyData.canLayAll0];rw [c,a];rfl,?_⟩
  simp only [PyData.depthAll]
  omega
theorem zd5{n:Nat}{ds:List D}(h:∀ d∈ds,Pl n d):Pl (n+1) (.tuple ds):=by
 obtain⟨a,b⟩:=zlS h
 exact⟨a,by simp only [PyData.depth];omega⟩
theorem ziZ{n:Nat}{ds:List D}(h:∀ d∈ds,Pl n d):Pl (n+1) (.list ds):=by
 obtain⟨a,b⟩:=zlS h
 exact⟨a,by simp only [PyData.depth];omega⟩
theorem zgF{α:Type}[DecidableEq α](f:α->D)(h:∀ a b,PyData.eqv (f a) (f b)=decide (a=b)):∀ xs ys:List α,PyData.eqvAll (xs.map f) (ys.map f)=decide (xs=ys)
 | [],[]=>rfl
 | [],y::ys=>by simp [PyData.eqvAll]
 | x::xs,[]=>by simp [PyData.eqvAll]
 | x::xs,y::ys=>by
  simp only [List.map_cons,PyData.eqvAll]
  rw [h,zgF f h xs ys]
  by_cases e1:x=y <;> by_cases e2:xs=ys <;> simp [e1,e2]
theorem zjp(a b:Int):PyData.eqv (.int a) (.int b)=decide (a=b):=by
 show(a==b)=_
 rw [Bool.beq_eq_decide_eq]
abbrev tp(w:List Int):D:=.tuple (w.map PyData.int)
theorem zsg(w:List Int):Pl 1 (tp w):=zd5 fun d m=>by
 obtain⟨i,_,rfl⟩:=List.mem_map.mp m
 exact zd6 i
theorem zs7(a b:List Int):PyData.eqv (tp a) (tp b)=decide (a=b):=by
 show PyData.eqvAll _ _=_
 exact zgF _ zjp a b
abbrev ltp(ws:List (List Int)):D:=.list (ws.map tp)
theorem zpt{n m:Nat}{a b:D}(ha:Pl n a)(hb:Pl m b)(hn:n<=64:=by decide)(hm:m<=64:=by decide):eqD a b=.ok (.bool (PyData.eqv a b)):=by
 unfold eqD
 rw [ha.shaped hn,hb.shaped hm];rfl
theorem zmc{n m:Nat}{a b:D}(ha:Pl n a)(hb:Pl m b)(hn:n<=64:=by decide)(hm:m<=64:=by decide):neD a b=.ok (.bool (!PyData.eqv a b)):=by
 unfold neD
 rw [ha.shaped hn,hb.shaped hm];rfl
theorem zs8(a b:List Int):eqD (tp a) (tp b)=.ok (.bool (decide (a=b))):=by rw [zpt (zsg a) (zsg b),zs7]
theorem zdP(a b:Int):eqD (.int a) (.int b)=.ok (.bool (decide (a=b))):=by rw [zpt (zd6 a) (zd6 b),zjp]
theorem zhg(a b:Int):neD (.int a) (.int b)=.ok (.bool (!decide (a=b))):=by rw [zmc (zd6 a) (zd6 b),zjp]
theorem zq2(i j:Int):gtD (.int i) (.int j)=.ok (.bool (decide (j<i))):=rfl
theorem zjc(i j:Int):ltD (.int i) (.int j)=.ok (.bool (decide (i<j))):=rfl
theorem zmr(i j:Int):leD (.int i) (.int j)=.ok (.bool (decide (i<=j))):=rfl
theorem zpX(lo hi:Int):(rng lo hi).length=(hi-lo).toNat:=by simp [rng]
theorem zdo{j:Int}(h:0<=j)(h2:j<=1000000):zco [.int j]=.ok (rng 0 j):=by
 show chk _ _=_
 refine zaN ?_
 unfold zge lim
 simp only [Bool.and_eq_true,leB_iff]
 omega
theorem zkF{i j:Int}(h0:0<=i)(h1:i<=1000000)(h:0<=j)(h2:j<=1000000):zcn [.int i,.int j]=.ok (rng i j):=by
 show chk _ _=_
 refine zaN ?_
 unfold zge lim
 simp only [Bool.and_eq_true,leB_iff]
 omega
theorem zkr{m:List (Nat×Sl)}(h:∀ i p d,m.lookup i≠some (.ow p d)):∀(ρ:En) (n:Nat),bkL m n ρ=ρ
 | [],_=>rfl
 | x::r,n=>by
  unfold bkL
  rw [zkr h r (n+1)]
  congr 1
  unfold bk1
  split
  ·rename_i p d q e h1 h2
   exact absurd h2 (h _ _ _)
  ·rfl
theorem zb5{α:Type}{f:α->D}{g:GF}{b:SF}(P:List α->En->Prop):∀(xs:List α) (done:List α) (ρ:En),P done ρ ->
  (∀ pre x post ρ,done++xs=pre++x::post->P pre ρ->∃ ρ' fl,(g (f x) ρ).bind b=.ok (fl,ρ')/\(fl=.nx\/fl=.ct)/\P (pre++[x]) ρ')->∃ ρ',forL g b (xs.map f) ρ=.ok (.nx,ρ')/\P (done++xs) ρ'
 | [],done,ρ,h,_=>⟨ρ,rfl,by simpa using h⟩
 | x::xs,done,ρ,h,hx=>by
  obtain⟨ρ1,fl,e,hf,h1⟩:=hx done x xs ρ rfl h
  obtain⟨ρ2,e2,h2⟩:=zb5 P xs (done++[x]) ρ1 h1 fun pre y post ρ e=>hx pre y post ρ (by simpa using e)
  refine⟨ρ2,?_,by simpa using h2⟩
  show((g (f x) ρ).bind fun ρ1=>(b ρ1).bind fun y=>match y.1 with
    | .nx | .ct=>forL g b (xs.map f) y.2
    | .bk=>.ok (.nx,y.2)
    | .rt d=>.ok (.rt d,y.2)
    | .rf d=>.ok (.rf d,y.2))=_
  cases e1:g (f x) ρ with
  | ok ρ3 =>
   rw [e1] at e
   rw [zac] at e ⊢
   rw [e,zac]
   rcases hf with rfl|rfl
   ·exact e2
   ·exact e2
  | bad=>rw [e1] at e;cases e
  | err c fs=>rw [e1] at e;cases e
def Np(x:Sl):Prop:=∀ e,x≠.ow true e
theorem zbD:Np .no:=fun _ z=>nomatch z
theorem zaK(d:D):Np (.val d):=fun _ z=>nomatch z
theorem zuk(c:String)(ds:List D):Np (.ob c ds):=fun _ z=>nomatch z
theorem zsF(d:D):Np (.ow false d):=fun _ z=>nomatch z
theorem ze7{ρ:En}{i:Nat}{d:D}{x:Sl}(h:ρ[i]?=some x)(n:Np x):gN i d ρ=.ok (ρ.set i (.val d)):=by
 unfold gN
 rw [h]
 cases x with
 | no=>rfl
 | val c=>rfl
 | ob c ds=>rfl
 | ow p c=>cases p with
  | true=>exact absurd rfl (n c)
  | false=>rfl
theorem zc6{i:Nat}{f:EF}{ρ:En}{y:D×En}{x:Sl}(hf:f ρ=.ok y)(h:y.2[i]?=some x)(n:Np x):zcH i f ρ=.ok (.nx,y.2.set i (.ow false y.1)):=by
 unfold zcH
 rw [hf,zac,h]
 cases x with
 | no=>rfl
 | val c=>rfl
 | ob c ds=>rfl
 | ow p c=>cases p with
  | true=>exact absurd rfl (n c)
  | false=>rfl
theorem zfu{i:Nat}{f:EF}{ρ:En}{y:D×En}{x:Sl}(hf:f ρ=.ok y)(h:y.2[i]?=some x)(n:Np x):zaZ (gN i) f ρ=.ok (.nx,y.2.set i (.val y.1)):=by
 unfold zaZ
 rw [hf,zac,ze7 h n];rfl
theorem zm2{m:List (Nat×Sl)}{i:Nat}{x:Sl}(h:m.lookup i=none):bk1 m i x=x:=by
 unfold bk1
 rw [h]
 cases x <;> rfl
theorem zah{s t:SF}{ρ ρ1:En}(h:s ρ=.ok (.nx,ρ1)):zav s t ρ=t ρ1:=by
 unfold zav
 rw [h];rfl
end
section
def zf4:SF:=(zav (zaZ (gN 2) (e2 zaG (e2 zaG (e2 zca (e2 zaG (e2 zhh (eV 0) (e2 zaG (e2 zdy (eC (.int 10)) (eC (.int 18))) (eC (.int 9)))) (e2 zca (eC (.int 7)) (eV 1))) (eC (.int 739108512309184756019283746561))) (e2 zca (eC (.int 7919)) (eV 1))) (eC (.int 1))))
  (zav (zaZ (gN 2) (e2 zhh (e2 zca (eV 2) (eV 2)) (e2 zaG (e2 zdy (eC (.int 10)) (eC (.int 60))) (eC (.int 7)))))
  (zaH (e2 zhh (e2 zca (e2 zaG (eV 2) (eC (.int 40503))) (e2 zaG (eV 2) (eC (.int 57)))) (e2 zaG (e2 zdy (eC (.int 10)) (eC (.int 60))) (eC (.int 7)))))))
def zhK:List D->R D:=zcb false 2 3 zf4
def zhE:SF:=(zav (sIf (tB (e2 ltD (eV 1) (e1 zez (eV 0)))) (zaH (e2 ixD (eV 0) (eV 1))) sNx)
  (zaH (e2 zaG (e2 zca (eC (.int 3)) (eV 1)) (eC (.int 1)))))
def zu3:List D->R D:=zcb false 2 2 zhE
def zdQ:SF:=(zav (sIf (tB (e2 geD (eV 0) (e2 zdy (eC (.int 10)) (eC (.int 18))))) (zdx (zcQ (zab (e2 zdY (eV 0) (e2 zdy (eC (.int 10)) (eC (.int 18)))) (zab (eC (.int 0)) (zab (eV 1) zam))))) sNx)
  (zdx (zcQ (zab (zaj zhK (zab (eV 0) (zab (eV 1) zam))) (zab (eC (.int 0)) (zab (e2 zaG (e2 zhh (eV 0) (e2 zaG (e2 zdy (eC (.int 10)) (eC (.int 18))) (eC (.int 9)))) (eV 1)) zam))))))
def zjG:List D->R D:=zcb true 2 2 zdQ
def zeI:SF:=(zav (sIf (tB (e2 ltD (m2 ixD 0 (eC (.int 0))) (eV 1))) (zav (setM 0 (e2 zaG (m2 ixD 0 (eC (.int 1))) (eC (.int 1))) (eC (.int 1)))
  (setM 0 (e2 zaG (m2 ixD 0 (eC (.int 0))) (e2 zca (eV 1) (zaj zhK (zab (m2 ixD 0 (eC (.int 2))) (zab (e2 zaG (e2 zca (eC (.int 11)) (m2 ixD 0 (eC (.int 1)))) (eC (.int 5))) zam))))) (eC (.int 0)))) sNx)
  (zav (zaZ (gN 2) (e2 zhh (m2 ixD 0 (eC (.int 0))) (eV 1)))
  (zav (setM 0 (e2 zaL (m2 ixD 0 (eC (.int 0))) (eV 1)) (eC (.int 0)))
  (zaH (eV 2)))))
def znd:List D->R (D×List D):=run [true,false] false 3 zeI
structure Bd(i:Int)(n:Nat):Prop where
 h:i.natAbs<2^n
theorem Bd.mono{i:Int}{n m:Nat}(h:Bd i n)(l:n<=m):Bd i m:=⟨Nat.lt_of_lt_of_le h.h (Nat.pow_le_pow_right (by decide) l)⟩
theorem Bd.add{i j:Int}{n m:Nat}(h:Bd i n)(k:Bd j m):Bd (i+j) (max n m+1):=by
 constructor
 have a:=(h.mono (Nat.le_max_left n m)).h
 have b:=(k.mono (Nat.le_max_right n m)).h
 have c:=Int.natAbs_add_le i j
 rw [Nat.pow_succ]
 omega
theorem Bd.mul{i j:Int}{n m:Nat}(h:Bd i n)(k:Bd j m):Bd (i*j) (n+m):=by
 constructor
 rw [Int.natAbs_mul,Nat.pow_add]
 have a:=h.h
 have b:=k.h
 exact Nat.mul_lt_mul'' a b
theorem Bd.mod{i j:Int}{n:Nat}(h:Bd j n)(p:0<j):Bd (i.fmod j) n:=by
 constructor
 have a:=h.h
 have b:=Int.fmod_nonneg_of_pos i p
 have c:=Int.fmod_lt_of_pos i p
 omega
theorem mulOk_of{i j:Int}{n m:Nat}(h:Bd i n)(k:Bd j m)(l:n+m<=100000000):zmh i j=true:=by
 unfold zmh
 refine zcg ?_
 have lg:∀{i:Int} {n:Nat},Bd i n->i.natAbs.log2<=n:=by
  intro i n h
  by_cases z:i.natAbs=0
  ·rw [z];exact Nat.zero_le _
  ·exact Nat.le_of_lt ((Nat.log2_lt z).mpr h.h)
 have a:=lg h
 have b:=lg k
 omega
theorem zbw{i j:Int}{n m:Nat}(h:Bd i n)(k:Bd j m)(l:n+m<=100000000):zca (.int i) (.int j)=.ok (.int (i*j)):=by
 show chk _ _=_
 exact zaN (mulOk_of h k l)
theorem zfH{i j:Int}(p:0<j):zhh (.int i) (.int j)=.ok (.int (i.fmod j)):=by
 show chk _ _=_
 exact zaN (by simp;omega)
theorem zox{i j:Int}{n:Nat}(p:0<j)(h:Bd j n)(l:n<=8000):zaL (.int i) (.int j)=.ok (.int (i.fdiv j)):=by
 show chk _ _=_
 exact zaN (by simp;omega)
def p18:Int:=1000000000000000000
def zqH:Int:=1000000000000000009
def p60:Int:=1000000000000000000000000000000000000000000000000000000000000
def zqG:Int:=1000000000000000000000000000000000000000000000000000000000007
def pm:Int:=739108512309184756019283746561
theorem zt6:zdy (.int 10) (.int 18)=.ok (.int p18):=rfl
theorem zvP:zdy (.int 10) (.int 60)=.ok (.int p60):=rfl
theorem zvl:p18+9=zqH:=rfl
theorem zv9:p60+7=zqG:=rfl
theorem zi1:0<zqH:=by decide
theorem zfE:0<zqG:=by decide
theorem b18:Bd zqH 60:=⟨by decide⟩
theorem b60:Bd zqG 200:=⟨by decide⟩
theorem bm:Bd pm 100:=⟨by decide⟩
theorem zas{i:Int}(h:i.natAbs<65536):Bd i 16:=⟨h⟩
def mx1(c k:Int):Int:=(c.fmod zqH+7*k)*pm+7919*k+1
def mx2(c k:Int):Int:=(mx1 c k*mx1 c k).fmod zqG
def zpa(c k:Int):Int:=((mx2 c k+40503)*(mx2 c k+57)).fmod zqG
theorem zmi(c k:Int):0<=zpa c k:=Int.fmod_nonneg_of_pos _ zfE
theorem zqQ(c k:Int):Bd (zpa c k) 200:=b60.mod zfE
theorem zka(c k:Int){n:Nat}(hk:Bd k n)(hn:n<=1000):zhK [.int c,.int k]=.ok (.int (zpa c k)):=by
 have a1:=zfH (i:=c) zi1
 have a2:Bd (c.fmod zqH) 60:=b18.mod zi1
 have a3:=zbw (i:=7) (zas (by decide)) hk (by omega)
 have a4:=(zas (i:=7) (by decide)).mul hk
 have a5:=a2.add a4
 have a6:=zbw a5 bm (by omega)
 have a7:=zbw (i:=7919) (zas (by decide)) hk (by omega)
 have a8:=((a5.mul bm).add ((zas (i:=7919) (by decide)).mul hk)).add (zas (i:=1) (by decide))
 have a9:=zbw a8 a8 (by omega)
 have b1:=zfH (i:=mx1 c k*mx1 c k) zfE
 have b2:Bd (mx2 c k) 200:=b60.mod zfE
 have b3:=zbw (b2.add (zas (i:=40503) (by decide))) (b2.add (zas (i:=57) (by decide))) (by decide)
 have b4:=zfH (i:=(mx2 c k+40503)*(mx2 c k+57)) zfE
 have hm:(PyData.int 739108512309184756019283746561)=.int pm:=rfl
 have f1:(c.fmod zqH+7*k)*pm+7919*k+1=mx1 c k:=rfl
 have f2:(mx1 c k*mx1 c k).fmod zqG=mx2 c k:=rfl
 have f3:((mx2 c k+40503)*(mx2 c k+57)).fmod zqG=zpa c k:=rfl
 rw [f1] at a9
 simp only [zhK,zcb,FL.run,List.length_cons,List.length_nil,Nat.reduceAdd,List.replicate,zf4,zav,zaZ,FL.e2,eV,slots,Bool.false_eq_true,if_false,Nat.reduceSub,List.cons_append,List.nil_append,zz0,eC,zac,zt6,zaG,zvl,a1,zz1,a3,hm,a6,a7,f1,gN,List.set_cons_succ,List.set_cons_zero,zvP,zv9,zaH,a9,b1,f2,b3,b4,f3,outs,outD,if_true]
def za1(k:Nat)(d:D):Prop:=∃ n c s,d=.list [.int n,.int c,.int s]/\0<=n/\0<=c/\c<=k
theorem za1.mono{k l:Nat}{d:D}(h:za1 k d)(hl:k<=l):za1 l d:=by
 obtain⟨n,c,s,e,h1,h2,h3⟩:=h
 exact⟨n,c,s,e,h1,h2,by omega⟩
theorem znQ(c k:Int)(hk:k.natAbs<65536):∃ d,zjG [.int c,.int k]=.ok d/\za1 0 d:=by
 have a1:=zfH (i:=c) zi1
 have hx1:=zka c k (zas hk) (by decide)
 by_cases h:p18<=c
 ·refine⟨_,?_,c-p18,0,k,rfl,by omega,by decide,by decide⟩
  have hg:geD (.int c) (.int p18)=.ok (.bool true):=by show R.ok (PyData.bool (decide (p18<=c)))=_;rw [decide_eq_true h]
  simp only [zjG,zcb,FL.run,List.length_cons,List.length_nil,Nat.reduceAdd,List.replicate,zdQ,zav,sIf,tB,FL.e2,eV,slots,Bool.false_eq_true,if_false,Nat.sub_self,List.cons_append,List.nil_append,zz0,eC,zac,zt6,hg,zdx,zcQ,zab,zdY,zam,sNx,zz1,if_true,zaj,zaG,outs,outD]
  rfl
 ·refine⟨_,?_,zpa c k,0,c.fmod zqH+k,rfl,zmi c k,by decide,by decide⟩
  have hg:geD (.int c) (.int p18)=.ok (.bool false):=by show R.ok (PyData.bool (decide (p18<=c)))=_;rw [decide_eq_false h]
  simp only [zjG,zcb,FL.run,List.length_cons,List.length_nil,Nat.reduceAdd,List.replicate,zdQ,zav,sIf,tB,FL.e2,eV,slots,Bool.false_eq_true,if_false,Nat.sub_self,List.cons_append,List.nil_append,zz0,eC,zac,zt6,hg,zdx,zcQ,zab,zdY,zam,sNx,zz1,zaj,zaG,zvl,hx1,a1,outs,outD,if_true]
  rfl
theorem zuY(ns:List Int)(k:Int)(h0:0<=k)(hk:k.natAbs<65536):∃ a,zu3 [.list (ns.map PyData.int),.int k]=.ok (.int a):=by
 have a3:=zbw (i:=3) (zas (by decide)) (zas hk) (by decide)
 have hl:ltD (.int k) (.int (ns.length:Int))=.ok (.bool (decide (k<ns.length))):=rfl
 by_cases h:k<ns.length
 ·rw [decide_eq_true h] at hl
  have:∃ a,atI (ns.map PyData.int) k=some (.int a):=by
   unfold atI ixN
   rw [List.length_map,if_pos h0,if_pos h]
   exact⟨ns[k.toNat]'(by omega),by simp [show k.toNat<ns.length by omega]⟩
  obtain⟨a,ea⟩:=this
  refine⟨a,?_⟩
  simp only [zu3,zcb,FL.run,List.length_cons,List.length_nil,Nat.reduceAdd,List.replicate,zhE,zav,sIf,tB,FL.e2,eV,slots,Bool.false_eq_true,if_false,Nat.sub_self,List.cons_append,List.nil_append,zz1,zz0,FL.e1,zez,zac,List.length_map,hl,zaH,ixD,R.of,sNx,ea,if_true,eC,zaG,outs,outD]
 ·rw [decide_eq_false h] at hl
  refine⟨3*k+1,?_⟩
  simp only [zu3,zcb,FL.run,List.length_cons,List.length_nil,Nat.reduceAdd,List.replicate,zhE,zav,sIf,tB,FL.e2,eV,slots,Bool.false_eq_true,if_false,Nat.sub_self,List.cons_append,List.nil_append,zz1,zz0,FL.e1,zez,zac,List.length_map,hl,zaH,ixD,sNx,eC,zaG,a3,outs,outD,if_true]
theorem ziy{k:Nat}{ix:List Nat}{g:GF}{t:TF}{f:EF}(P:Nat->List D->En->Prop):∀(items:List D) (i:Nat) (acc:List D) (ρ:En),acc.length+items.length<=lim->acc.length=i->P i acc ρ ->
  (∀ x∈items,∀ j acc ρ,j<i+items.length->P j acc ρ->∃ β y β',g x (blk k ix ρ)=.ok β/\t β=.ok (true,β)/\f β=.ok (y,β')/\P (j+1) (acc++[y]) (back ρ ix (β'.drop k))) ->
  ∃ acc' ρ',zcx k ix g t f items ρ acc=.ok (acc',ρ')/\acc'.length=i+items.length/\P (i+items.length) acc' ρ'
 | [],i,acc,ρ,_,e,h,_=>⟨acc,ρ,rfl,e,h⟩
 | x::xs,i,acc,ρ,hl,e,h,hx=>by
  obtain⟨β,y,β',h1,h2,h3,h4⟩:=hx x (List.mem_cons_self ..) i acc ρ (by simp) h
  have hl':acc.length+(xs.length+1)<=lim:=hl
  obtain⟨acc',ρ',e1',e2',e3'⟩:=ziy P xs (i+1) (acc++[y]) _ (by simp;omega) (by simp;omega) h4 fun x m j acc ρ hj=>hx x (List.mem_cons_of_mem _ m) j acc ρ (by rw [List.length_cons];omega)
  refine⟨acc',ρ',?_,by simp;omega,by rw [List.length_cons,show i+(xs.length+1)=i+1+xs.length by omega];exact e3'⟩
  unfold zcx
  rw [h1,zac,h2,zac,if_pos rfl,h3,zac,zaN (zcg (by omega)),e1']
end
section
theorem zjv{i:Nat}{x:Sl}:∀(ρ:En) (n:Nat),i<n->bkL [(i,x)] n ρ=ρ
 | [],_,_=>rfl
 | y::r,n,h=>by
  unfold bkL
  rw [zm2 (by rw [List.lookup_cons,show(n==i)=false from beq_eq_false_iff_ne.mpr (by omega)];rfl),zjv r (n+1) (by omega)]
theorem zm1{d d':D}{p:Bool}:∀(ρ:En) (n i:Nat),ρ[i]?=some (.ow p d)->bkL [(n+i,.ow true d')] n ρ=ρ.set i (.ow p d')
 | [],_,_,h=>by simp at h
 | y::r,n,0,h=>by
  have hy:y=.ow p d:=by simpa using h
  subst hy
  unfold bkL
  rw [Nat.add_zero,zjv r (n+1) (Nat.lt_succ_self n)]
  have:bk1 [(n,Sl.ow true d')] n (.ow p d)=.ow p d':=by
   unfold bk1
   rw [List.lookup_cons,beq_self_eq_true]
  rw [this]
  rfl
 | y::r,n,i+1,h=>by
  unfold bkL
  rw [zm2 (by rw [List.lookup_cons,show(n==n+(i+1))=false from beq_eq_false_iff_ne.mpr (by omega)];rfl),show n+(i+1)=n+1+i by omega,zm1 r (n+1) i (by simpa using h)]
  rfl
theorem zcv{F:List D->R (D×List D)}{i:Nat}{f:EF}{ρ:En}{p:Bool}{d v r d' v':D}(hi:ρ[i]?=some (.ow p d))(hf:f ρ=.ok (v,ρ))(hF:F [d,v]=.ok (r,[d',v'])):zaq F [.m i,.v f] ρ=.ok (r,ρ.set i (.ow p d')):=by
 have hm:zax ρ i=.ok d:=by unfold zax;rw [hi]
 unfold zaq
 simp only [zhO,hm,zac,hf,zgn,hF]
 have:=zm1 (d:=d) (d':=d') (p:=p) ρ 0 i hi
 rw [Nat.zero_add] at this
 show R.ok (r,bkL [(i,.ow true d')] 0 ρ)=_
 rw [this]
theorem set_same{ρ:En}{i:Nat}{x:Sl}(h:ρ[i]?=some x):ρ.set i x=ρ:=by
 apply List.ext_getElem?
 intro j
 by_cases e:i=j
 ·subst e
  rw [List.getElem?_set_self (List.getElem?_eq_some_iff.mp h).1,h]
 ·rw [List.getElem?_set_ne e]
end
section
def zjm:SF:=(zaH (zhu (e1 (zbT "int") (eV 0)) (zle (e1 (zbT "bool") (eV 0)))))
def zeM:List D->R D:=zcb false 1 1 zjm
def zbx:SF:=(zft (zc5 3) (tB (e2 neD (eV 3) (eC (.int 0)))) (zdU 2 3 (eV 3) (e2 zhh (eV 2) (eV 3))))
def zbX:SF:=(zav (zdU 2 3 (e1 zm8 (eV 0)) (e1 zm8 (eV 1)))
  (zav zbx
  (zaH (eV 2))))
def zan:List D->R D:=zcb false 2 4 zbX
def zjl:SF:=(zav (zaZ (gN 2) (zaj zan (zab (e2 ixD (eV 0) (eC (.int 1))) (zab (e2 ixD (eV 1) (eC (.int 1))) zam))))
  (zav (zdU 3 4 (e2 zaL (e2 ixD (eV 0) (eC (.int 1))) (eV 2)) (e2 zaL (e2 ixD (eV 1) (eC (.int 1))) (eV 2)))
  (zav (zaZ (gN 5) (e2 zaG (e2 zca (e2 ixD (eV 0) (eC (.int 0))) (eV 4)) (e2 zca (e2 ixD (eV 1) (eC (.int 0))) (eV 3))))
  (zav (zaZ (gN 6) (zaj zan (zab (eV 5) (zab (eV 2) zam))))
  (zaH (za5 (zab (e2 zaL (eV 5) (eV 6)) (zab (e2 zca (eV 3) (e2 zaL (e2 ixD (eV 1) (eC (.int 1))) (eV 6))) zam))))))))
def ztt:List D->R D:=zcb false 2 7 zjl
def zht:SF:=(zav (zdU 2 3 (zaj zan (zab (e2 ixD (eV 0) (eC (.int 0))) (zab (e2 ixD (eV 1) (eC (.int 1))) zam))) (zaj zan (zab (e2 ixD (eV 1) (eC (.int 0))) (zab (e2 ixD (eV 0) (eC (.int 1))) zam))))
  (zaH (za5 (zab (e2 zca (e2 zaL (e2 ixD (eV 0) (eC (.int 0))) (eV 2)) (e2 zaL (e2 ixD (eV 1) (eC (.int 0))) (eV 3))) (zab (e2 zca (e2 zaL (e2 ixD (eV 0) (eC (.int 1))) (eV 3)) (e2 zaL (e2 ixD (eV 1) (eC (.int 1))) (eV 2))) zam)))))
def zrv:List D->R D:=zcb false 2 4 zht
end
section
def num(r:Rat):D:=.tuple [.int r.num,.int (r.den:Int)]
theorem zod{h l:Nat}(p:l≠0):zhh (.int h) (.int l)=.ok (.int ((h % l:Nat):Int)):=by
 show chk (decide ((l:Int)≠0)) _=_
 rw [zaN (by simpa using p)]
 rw [Int.fmod_eq_emod_of_nonneg _ (by omega)]
 rfl
theorem zhs(x0 x1:Sl):∀(n h l:Nat),l<n->zfq (tB (e2 neD (eV 3) (eC (.int 0)))) (zdU 2 3 (eV 3) (e2 zhh (eV 2) (eV 3))) n [x0,x1,.val (.int h),.val (.int l)]=.ok (.nx,[x0,x1,.val (.int ((Nat.gcd h l:Nat):Int)),.val (.int 0)])
 | 0,h,l,p=>by omega
 | n+1,h,l,p=>by
  unfold zfq
  by_cases c:l=0
  ·subst c
   have e:neD (.int ((0:Nat):Int)) (.int 0)=.ok (.bool false):=by rw [zhg];rfl
   simp only [tB,FL.e2,eV,zz1,zz0,eC,zac,e,zdU,gN,Bool.false_eq_true,if_false,Nat.gcd_zero_right]
   rfl
  ·have e:neD (.int l) (.int 0)=.ok (.bool true):=by
    rw [zhg,decide_eq_false (by omega)];rfl
   simp only [tB,FL.e2,eV,zz1,zz0,eC,zac,e,zdU,gN,zod c,List.set_cons_succ,List.set_cons_zero,if_true]
   have ih:=zhs x0 x1 n l (h % l) (by have:=Nat.mod_lt h (Nat.pos_of_ne_zero c);omega)
   rw [ih,Nat.gcd_comm l,<- Nat.gcd_rec,Nat.gcd_comm]
theorem zkv(i:Int):zm8 (.int i)=.ok (.int (i.natAbs:Int)):=by
 show R.ok (PyData.int (if i<0 then -i else i))=_
 congr 2
 split <;> omega
theorem zir(a b:Int):zan [.int a,.int b]=.ok (.int (Int.gcd a b:Int)):=by
 have e1:zdU 2 3 (FL.e1 zm8 (eV 0)) (FL.e1 zm8 (eV 1)) [.val (.int a),.val (.int b),.no,.no]=.ok (.nx,[.val (.int a),.val (.int b),.val (.int (a.natAbs:Int)),.val (.int (b.natAbs:Int))]):=by
  simp only [zdU,FL.e1,eV,zz0,zac,zkv,gN,zz1,List.set_cons_succ,List.set_cons_zero]
 have e2:zbx [.val (.int a),.val (.int b),.val (.int (a.natAbs:Int)),.val (.int (b.natAbs:Int))]=.ok (.nx,[.val (.int a),.val (.int b),.val (.int ((Nat.gcd a.natAbs b.natAbs:Nat):Int)),.val (.int 0)]):=by
  unfold zbx zft
  have:zc5 3 [.val (.int a),.val (.int b),.val (.int (a.natAbs:Int)),.val (.int (b.natAbs:Int))]=b.natAbs+1:=by
   show((b.natAbs:Int)).natAbs+1=_
   simp
  rw [this]
  exact zhs _ _ _ _ _ (by omega)
 show((zbX [.val (.int a),.val (.int b),.no,.no]).bind _).bind _=_
 unfold zbX
 rw [zah e1,zah e2]
 rfl
theorem zcG{i:Int}{j:Nat}{n:Nat}(hj:j≠0)(hb:j<2^n)(hn:n<=90000000):zaL (.int i) (.int j)=.ok (.int (i / (j:Int))):=by
 show chk (decide ((j:Int)≠0)) _=_
 rw [zaN (by simpa using hj),Int.fdiv_eq_ediv_of_nonneg _ (by omega)]
theorem zoO{r:Rat}{n:Nat}(h:QR.Bd n r):Bd r.num n/\Bd (r.den:Int) n:=⟨⟨h.1⟩,⟨by simpa using h.2⟩⟩
theorem zeU{i:Int}{n:Nat}{j:Nat}(h:Bd i n):Bd (i / (j:Int)) n:=⟨Nat.lt_of_le_of_lt (Int.natAbs_ediv_le_natAbs i (j:Int)) h.h⟩
theorem zis{a:Int}{b:Nat}{n:Nat}(hb:b≠0)(h:b<2^n):Int.gcd a (b:Int)≠0/\Int.gcd a (b:Int)<2^n:=by
 have h1:0<Int.gcd a (b:Int):=Int.gcd_pos_of_ne_zero_right a (by omega)
 have h2:Int.gcd a (b:Int)∣b:=by
  have:=Int.gcd_dvd_right a (b:Int)
  exact Int.natCast_dvd_natCast.mp this
 have h3:=Nat.le_of_dvd (Nat.pos_of_ne_zero hb) h2
 omega
theorem zqq{r s:Rat}{n:Nat}(hr:QR.Bd n r)(hs:QR.Bd n s)(hn:n<=40000000):ztt [num r,num s]=.ok (num (r+s)):=by
 have gS:=zis (a:=(r.den:Int)) s.den_nz hs.2
 generalize hg:Int.gcd (r.den:Int) (s.den:Int)=g at gS
 have k1:zan [.int (r.den:Int),.int (s.den:Int)]=.ok (.int g):=by rw [zir,hg]
 have k2:zaL (.int (r.den:Int)) (.int g)=.ok (.int ((r.den:Int) / (g:Int))):=zcG gS.1 gS.2 (by omega)
 have k3:zaL (.int (s.den:Int)) (.int g)=.ok (.int ((s.den:Int) / (g:Int))):=zcG gS.1 gS.2 (by omega)
 have br:=zoO hr
 have bs:=zoO hs
 have k4:zca (.int r.num) (.int ((s.den:Int) / (g:Int)))=.ok (.int (r.num*((s.den:Int) / (g:Int)))):=zbw br.1 (zeU bs.2) (by omega)
 have k5:zca (.int s.num) (.int ((r.den:Int) / (g:Int)))=.ok (.int (s.num*((r.den:Int) / (g:Int)))):=zbw bs.1 (zeU br.2) (by omega)
 generalize ht:r.num*((s.den:Int) / (g:Int))+s.num*((r.den:Int) / (g:Int))=top
 have gT:=zis (a:=top) gS.1 gS.2
 generalize he:Int.gcd top (g:Int)=e at gT
 have k6:zan [.int top,.int g]=.ok (.int e):=by rw [zir,he]
 have k7:zaL (.int top) (.int e)=.ok (.int (top / (e:Int))):=zcG gT.1 gT.2 (by omega)
 have k8:zaL (.int (s.den:Int)) (.int e)=.ok (.int ((s.den:Int) / (e:Int))):=zcG gT.1 gT.2 (by omega)
 have k9:zca (.int ((r.den:Int) / (g:Int))) (.int ((s.den:Int) / (e:Int)))=.ok (.int (((r.den:Int) / (g:Int))*((s.den:Int) / (e:Int)))):=zbw (zeU br.2) (zeU bs.2) (by omega)
 have x0:∀(a b:Int),ixD (.tuple [.int a,.int b]) (.int 0)=.ok (.int a):=fun a b=>rfl
 have x1:∀(a b:Int),ixD (.tuple [.int a,.int b]) (.int 1)=.ok (.int b):=fun a b=>rfl
 have l2:leB 2 lim=true:=by decide
 have ad:∀(a b:Int),zaG (.int a) (.int b)=.ok (.int (a+b)):=fun _ _=>rfl
 have fin:num (r+s)=.tuple [.int (top / (e:Int)),.int (((r.den:Int) / (g:Int))*((s.den:Int) / (e:Int)))]:=by
  have h1:=Q1.zqr (QR.low r) (QR.low s)
  rw [QR.add] at h1
  unfold Q1.zkL at h1
  simp only [hg,ht,he] at h1
  unfold num
  rw [<- (Prod.mk.inj h1).1,<- (Prod.mk.inj h1).2]
 have s1:zaZ (gN 2) (zaj zan (zab (e2 ixD (eV 0) (eC (.int 1))) (zab (e2 ixD (eV 1) (eC (.int 1))) zam))) [.val (num r),.val (num s),.no,.no,.no,.no,.no]=.ok (.nx,[.val (num r),.val (num s),.val (.int g),.no,.no,.no,.no]):=by
  unfold num
  simp only [zaZ,zaj,zab,FL.e2,eV,zz0,eC,zac,x1,zam,zz1,k1,gN,List.set_cons_succ,List.set_cons_zero]
 have s2:zdU 3 4 (e2 zaL (e2 ixD (eV 0) (eC (.int 1))) (eV 2)) (e2 zaL (e2 ixD (eV 1) (eC (.int 1))) (eV 2)) [.val (num r),.val (num s),.val (.int g),.no,.no,.no,.no]=.ok (.nx,[.val (num r),.val (num s),.val (.int g),.val (.int ((r.den:Int) / (g:Int))),.val (.int ((s.den:Int) / (g:Int))),.no,.no]):=by
  unfold num
  simp only [zdU,FL.e2,eV,zz0,eC,zac,x1,zz1,k2,gN,k3,List.set_cons_succ,List.set_cons_zero]
 have s3:zaZ (gN 5) (e2 zaG (e2 zca (e2 ixD (eV 0) (eC (.int 0))) (eV 4)) (e2 zca (e2 ixD (eV 1) (eC (.int 0))) (eV 3))) [.val (num r),.val (num s),.val (.int g),.val (.int ((r.den:Int) / (g:Int))),.val (.int ((s.den:Int) / (g:Int))),.no,.no]=.ok (.nx,[.val (num r),.val (num s),.val (.int g),.val (.int ((r.den:Int) / (g:Int))),.val (.int ((s.den:Int) / (g:Int))),.val (.int top),.no]):=by
  unfold num
  simp only [zaZ,FL.e2,eV,zz0,eC,zac,x0,zz1,k4,k5,ad,ht,gN,List.set_cons_succ,List.set_cons_zero]
 have s4:zaZ (gN 6) (zaj zan (zab (eV 5) (zab (eV 2) zam))) [.val (num r),.val (num s),.val (.int g),.val (.int ((r.den:Int) / (g:Int))),.val (.int ((s.den:Int) / (g:Int))),.val (.int top),.no]=.ok (.nx,[.val (num r),.val (num s),.val (.int g),.val (.int ((r.den:Int) / (g:Int))),.val (.int ((s.den:Int) / (g:Int))),.val (.int top),.val (.int e)]):=by
  simp only [zaZ,zaj,zab,eV,zz1,zz0,zam,zac,k6,gN,List.set_cons_succ,List.set_cons_zero]
 have s5:zaH (za5 (zab (e2 zaL (eV 5) (eV 6)) (zab (e2 zca (eV 3) (e2 zaL (e2 ixD (eV 1) (eC (.int 1))) (eV 6))) zam))) [.val (num r),.val (num s),.val (.int g),.val (.int ((r.den:Int) / (g:Int))),.val (.int ((s.den:Int) / (g:Int))),.val (.int top),.val (.int e)]=.ok (.rt (num (r+s)),[.val (num r),.val (num s),.val (.int g),.val (.int ((r.den:Int) / (g:Int))),.val (.int ((s.den:Int) / (g:Int))),.val (.int top),.val (.int e)]):=by
  rw [fin]
  unfold num
  simp only [zaH,za5,zab,FL.e2,eV,zz1,zz0,zac,k7,eC,zam,x1,k8,k9,List.length_cons,List.length_nil,Nat.reduceAdd,zaN l2]
 show((zjl [.val (num r),.val (num s),.no,.no,.no,.no,.no]).bind _).bind _=_
 unfold zjl
 rw [zah s1,zah s2,zah s3,zah s4,s5]
 rfl
theorem znu{r s:Rat}{n:Nat}(hr:QR.Bd n r)(hs:QR.Bd n s)(hn:n<=40000000):zrv [num r,num s]=.ok (num (r*s)):=by
 have gS:=zis (a:=r.num) s.den_nz hs.2
 generalize hg:Int.gcd r.num (s.den:Int)=g at gS
 have gT:=zis (a:=s.num) r.den_nz hr.2
 generalize he:Int.gcd s.num (r.den:Int)=e at gT
 have k1:zan [.int r.num,.int (s.den:Int)]=.ok (.int g):=by rw [zir,hg]
 have k2:zan [.int s.num,.int (r.den:Int)]=.ok (.int e):=by rw [zir,he]
 have k3:zaL (.int r.num) (.int g)=.ok (.int (r.num / (g:Int))):=zcG gS.1 gS.2 (by omega)
 have k4:zaL (.int s.num) (.int e)=.ok (.int (s.num / (e:Int))):=zcG gT.1 gT.2 (by omega)
 have k5:zaL (.int (r.den:Int)) (.int e)=.ok (.int ((r.den:Int) / (e:Int))):=zcG gT.1 gT.2 (by omega)
 have k6:zaL (.int (s.den:Int)) (.int g)=.ok (.int ((s.den:Int) / (g:Int))):=zcG gS.1 gS.2 (by omega)
 have br:=zoO hr
 have bs:=zoO hs
 have k7:zca (.int (r.num / (g:Int))) (.int (s.num / (e:Int)))=.ok (.int (r.num / (g:Int)*(s.num / (e:Int)))):=zbw (zeU br.1) (zeU bs.1) (by omega)
 have k8:zca (.int ((r.den:Int) / (e:Int))) (.int ((s.den:Int) / (g:Int)))=.ok (.int ((r.den:Int) / (e:Int)*((s.den:Int) / (g:Int)))):=zbw (zeU br.2) (zeU bs.2) (by omega)
 have x0:∀(a b:Int),ixD (.tuple [.int a,.int b]) (.int 0)=.ok (.int a):=fun a b=>rfl
 have x1:∀(a b:Int),ixD (.tuple [.int a,.int b]) (.int 1)=.ok (.int b):=fun a b=>rfl
 have l2:leB 2 lim=true:=by decide
 have fin:num (r*s)=.tuple [.int (r.num / (g:Int)*(s.num / (e:Int))),.int ((r.den:Int) / (e:Int)*((s.den:Int) / (g:Int)))]:=by
  have h1:=Q1.znv (QR.low r) (QR.low s)
  rw [QR.mul] at h1
  unfold Q1.zjO at h1
  simp only [hg,he] at h1
  unfold num
  rw [<- (Prod.mk.inj h1).1,<- (Prod.mk.inj h1).2]
 have s1:zdU 2 3 (zaj zan (zab (e2 ixD (eV 0) (eC (.int 0))) (zab (e2 ixD (eV 1) (eC (.int 1))) zam))) (zaj zan (zab (e2 ixD (eV 1) (eC (.int 0))) (zab (e2 ixD (eV 0) (eC (.int 1))) zam))) [.val (num r),.val (num s),.no,.no]=.ok (.nx,[.val (num r),.val (num s),.val (.int g),.val (.int e)]):=by
  unfold num
  simp only [zdU,zaj,zab,FL.e2,eV,zz0,eC,zac,x0,zam,zz1,x1,k1,gN,k2,List.set_cons_succ,List.set_cons_zero]
 have s5:zaH (za5 (zab (e2 zca (e2 zaL (e2 ixD (eV 0) (eC (.int 0))) (eV 2)) (e2 zaL (e2 ixD (eV 1) (eC (.int 0))) (eV 3))) (zab (e2 zca (e2 zaL (e2 ixD (eV 0) (eC (.int 1))) (eV 3)) (e2 zaL (e2 ixD (eV 1) (eC (.int 1))) (eV 2))) zam))) [.val (num r),.val (num s),.val (.int g),.val (.int e)]=.ok (.rt (num (r*s)),[.val (num r),.val (num s),.val (.int g),.val (.int e)]):=by
  rw [fin]
  unfold num
  simp only [zaH,za5,zab,FL.e2,eV,zz0,eC,zac,x0,zz1,k3,k4,k7,zam,x1,k5,k6,k8,List.length_cons,List.length_nil,Nat.reduceAdd,zaN l2]
 show((zht [.val (num r),.val (num s),.no,.no]).bind _).bind _=_
 unfold zht
 rw [zah s1,s5]
 rfl
end
section
abbrev Sm:=List (List Int×Rat)
def ent(p:List Int×Rat):D×D:=(tp p.1,num p.2)
def dct(s:Sm):D:=.dict (s.map ent)
def kq(w:List Int):KQ:=.inl (w.map .inl)
theorem zfM:∀ w:List Int,zld (w.map PyData.int)=some (w.map .inl)
 | []=>rfl
 | x::r=>by simp only [List.map_cons,zld,kOf,zfM r,Option.bind_some,Option.map_some]
theorem zee(w:List Int):keyOf (tp w)=some (kq w):=by
 show(zld (w.map PyData.int)).map Sum.inl=_
 rw [zfM];rfl
theorem zpk{v w:List Int}(h:kq v=kq w):v=w:=by
 have:=Sum.inl.inj h
 have:=congrArg (List.map (Sum.elim id fun _=>(0:Int))) this
 simpa [List.map_map,Function.comp_def] using this
theorem zpl(v w:List Int):decide (keyOf (tp v)=some (kq w))=decide (v=w):=by
 rw [zee]
 by_cases c:v=w
 ·subst c;simp
 ·rw [decide_eq_false c,decide_eq_false fun z=>c (zpk (Option.some.inj z))]
theorem zty:(PyData.tuple [.int 0,.int 1]:D)=num 0:=rfl
end
section
end
section
theorem zc7{k n:Nat}{b:SF}{ds:List D}{ρ:En}{d:D}(hl:ds.length=k)(h:b (slots (List.replicate k false) ds++List.replicate (n-ds.length) .no)=.ok (.rt d,ρ)):zcb false k n b ds=.ok d:=by
 unfold zcb FL.run
 rw [if_pos (by rw [List.length_replicate];exact hl),h]
 rfl
theorem zpV{k n:Nat}{b:SF}{ds:List D}{ρ:En}{d:D}(hl:ds.length=k)(h:b (slots (List.replicate k false) ds++List.replicate (n-ds.length) .no)=.ok (.rf d,ρ)):zcb true k n b ds=.ok d:=by
 unfold zcb FL.run
 rw [if_pos (by rw [List.length_replicate];exact hl),h]
 rfl
theorem zpW{k n:Nat}{b:SF}{ds:List D}{ρ:En}(hl:ds.length=k)(h:b (slots (List.replicate k false) ds++List.replicate (n-ds.length) .no)=.ok (.nx,ρ)):zcb false k n b ds=.ok .none:=by
 unfold zcb FL.run
 rw [if_pos (by rw [List.length_replicate];exact hl),h]
 rfl
def kyS(p:List Int×Rat):WK:=((p.1.length:Int),p.1)
def zvf(x:List Int×Rat):Sm->Sm
 | []=>[x]
 | y::r=>if ltW (kyS y) (kyS x)=true then y::zvf x r else x::y::r
def zrU:Sm->Sm
 | []=>[]
 | x::r=>zvf x (zrU r)
def tln(p:List Int×Rat):D:=.tuple [tp p.1,num p.2]
end
section
def zdf:SF:=(zft (zc5 3) (tB (e2 neD (eV 3) (eC (.int 0)))) (zdU 2 3 (eV 3) (e2 zhh (eV 2) (eV 3))))
def zeD:SF:=(zav (zaZ (gN 2) (e1 zm8 (eV 0)))
  (zav (zaZ (gN 3) (eV 1))
  (zav zdf
  (zaH (za5 (zab (e2 zaL (eV 0) (eV 2)) (zab (e2 zaL (eV 1) (eV 2)) zam)))))))
def ziM:List D->R D:=zcb false 2 4 zeD
def zdg:SF:=(zav (sIf (FL.tOr (FL.zch (tE (e1 (zbT "tuple") (eV 0)))) (tB (e2 neD (e1 zez (eV 0)) (eC (.int 2))))) (zaH (eC (.bool false))) sNx)
  (zav (zaZ (gT [(gN 1),(gN 2)]) (eV 0))
  (zav (sIf (FL.tOr (FL.zch (tE (zaj zeM (zab (eV 1) zam)))) (FL.tOr (FL.zch (tE (zaj zeM (zab (eV 2) zam)))) (tB (e2 ltD (eV 2) (eC (.int 1)))))) (zaH (eC (.bool false))) sNx)
  (zaH (e2 eqD (zaj zan (zab (eV 1) (zab (eV 2) zam))) (eC (.int 1)))))))
def zjH:List D->R D:=zcb false 1 3 zdg
end
section
theorem zqS(t:Int){b n:Nat}(hb:b≠0)(hl:b<2^n)(hn:n<=90000000):ziM [.int t,.int b]=.ok (.tuple [.int (Q1.fr t (b:Int)).1,.int (Q1.fr t (b:Int)).2]):=by
 have gS:=zis (a:=t) hb hl
 have s1:zaZ (gN 2) (FL.e1 zm8 (eV 0)) [.val (.int t),.val (.int b),.no,.no]=.ok (.nx,[.val (.int t),.val (.int b),.val (.int (t.natAbs:Int)),.no]):=by
  simp only [zaZ,FL.e1,eV,zz0,zac,zkv,gN,zz1,List.set_cons_succ,List.set_cons_zero]
 have s2:zaZ (gN 3) (eV 1) [.val (.int t),.val (.int b),.val (.int (t.natAbs:Int)),.no]=.ok (.nx,[.val (.int t),.val (.int b),.val (.int (t.natAbs:Int)),.val (.int b)]):=rfl
 have s3:zdf [.val (.int t),.val (.int b),.val (.int (t.natAbs:Int)),.val (.int b)]=.ok (.nx,[.val (.int t),.val (.int b),.val (.int ((Int.gcd t (b:Int):Nat):Int)),.val (.int 0)]):=by
  unfold zdf zft
  have:zc5 3 [.val (.int t),.val (.int b),.val (.int (t.natAbs:Int)),.val (.int b)]=b+1:=by
   show((b:Int)).natAbs+1=_
   simp
  rw [this]
  exact zhs _ _ _ _ _ (by omega)
 have k1:zaL (.int t) (.int ((Int.gcd t (b:Int):Nat):Int))=.ok (.int (t / ((Int.gcd t (b:Int):Nat):Int))):=zcG gS.1 gS.2 hn
 have k2:zaL (.int b) (.int ((Int.gcd t (b:Int):Nat):Int))=.ok (.int ((b:Int) / ((Int.gcd t (b:Int):Nat):Int))):=zcG gS.1 gS.2 hn
 have l2:leB 2 lim=true:=by decide
 show((zeD [.val (.int t),.val (.int b),.no,.no]).bind _).bind _=_
 unfold zeD
 rw [zah s1,zah s2,zah s3]
 simp only [zaH,za5,zab,FL.e2,eV,zz0,zac,zz1,k1,zam,k2,List.length_cons,List.length_nil,Nat.reduceAdd,zaN l2,List.replicate,outs,outD]
 rw [Q1.zpr (by omega)]
theorem zsN(t:Int){b n:Nat}(hb:b≠0)(hl:b<2^n)(hn:n<=90000000):ziM [.int t,.int b]=.ok (num (Rat.normalize t b hb)):=by
 rw [zqS t hb hl hn,QR.norm hb]
 rfl
end
section
def told(s:Sm):D:=.list ((zrU s).map tln)
theorem zq0(r:Rat):zjH [num r]=.ok (.bool true):=by
 have k1:zbT "tuple" (num r)=.ok (.bool true):=rfl
 have wh:∀ i:Int,zeM [.int i]=.ok (.bool true):=fun _=>rfl
 have k3:ltD (.int (r.den:Int)) (.int 1)=.ok (.bool false):=by
  rw [zjc];congr 2
  have:=r.den_nz
  exact decide_eq_false (by omega)
 have k4:zan [.int r.num,.int (r.den:Int)]=.ok (.int 1):=by
  rw [zir];congr 2
  have:=(QR.low r).cop
  omega
 have k5:neD (.int 2) (.int 2)=.ok (.bool false):=by rw [zhg];rfl
 have k6:eqD (.int 1) (.int 1)=.ok (.bool true):=by rw [zdP];rfl
 have k7:gT [gN 1,gN 2] (num r) [.val (num r),.no,.no]=.ok [.val (num r),.val (.int r.num),.val (.int (r.den:Int))]:=rfl
 refine zc7 (ρ:=[.val (num r),.val (.int r.num),.val (.int (r.den:Int))]) rfl ?_
 show zdg [.val (num r),.no,.no]=_
 unfold zdg
 have s1:sIf (FL.tOr (FL.zch (tE (FL.e1 (zbT "tuple") (eV 0)))) (tB (FL.e2 neD (FL.e1 zez (eV 0)) (eC (.int 2))))) (zaH (eC (.bool false))) sNx [.val (num r),.no,.no]=.ok (.nx,[.val (num r),.no,.no]):=by
  have l2:zez (num r)=.ok (.int 2):=rfl
  simp only [sIf,FL.tOr,FL.zch,tE,tB,FL.e1,FL.e2,eV,eC,sNx,zac,zz0,k1,l2,k5,zgc,Bool.not_true,Bool.false_eq_true,if_false,if_true]
 have s2:zaZ (gT [gN 1,gN 2]) (eV 0) [.val (num r),.no,.no]=.ok (.nx,[.val (num r),.val (.int r.num),.val (.int (r.den:Int))]):=rfl
 rw [zah s1,zah s2]
 simp only [zav,sIf,FL.tOr,FL.zch,tE,zaj,zab,eV,zz1,zz0,zam,zac,wh,zgc,Bool.not_true,tB,FL.e2,eC,Bool.false_eq_true,k3,if_false,zaH,sNx,k4,k6]
end
section
def cs0:Cs:={ C:=fun _=>none,st:=by simp }
end
section
theorem zrm{F:List D->R (D×List D)}{i:Nat}{ρ:En}{p:Bool}{d r d':D}(hi:ρ[i]?=some (.ow p d))(hF:F [d]=.ok (r,[d'])):zaq F [.m i] ρ=.ok (r,ρ.set i (.ow p d')):=by
 have h:=zcv (F:=fun l=>match l with | [a,b]=>(F [a]).bind fun y=>.ok (y.1,y.2++[b])|_=>.bad) (f:=eC .none) (v:=.none) (v':=.none) (r:=r) (d':=d') hi rfl (by show(F [d]).bind _=_;rw [hF];rfl)
 have hm:zax ρ i=.ok d:=by unfold zax;rw [hi]
 unfold zaq at h ⊢
 simp only [zhO,hm,zac,eC,zgn,hF] at h ⊢
 exact h
end
section
def ev(f:List Int->Rat)(s:Sm):Rat:=(s.map fun p=>f p.1*p.2).sum
end
section
end
end FL
namespace L2
open PySem PySem.Spec PyProof.Rows
end L2
namespace FL
open PySem L2 PySem.Spec
open PyProof.Rows hiding St
end FL
namespace L2
open PySem PySem.Spec PyProof.Rows
end L2
namespace FL
open PySem PySem.Spec PyProof.Rows L2
end FL
namespace FL
open PySem L2 PySem.Spec
open PyProof.Rows hiding St
section
end
section
end
end FL
namespace FV
open PySem FL
section
end
section
section
variable {β:Type}
def gd(f:β->D)(s:List (List Int×β)):D:=.dict (s.map fun p=>(tp p.1,f p.2))
def zdz(s:List (List Int×β))(w:List Int):Option β:=(s.find? fun p=>decide (p.1=w)).map (·.2)
def zov(s:List (List Int×β))(w:List Int)(q:β):List (List Int×β):=if(s.any fun p=>decide (p.1=w))=true then s.map fun p=>if p.1=w then(p.1,q) else p else s++[(w,q)]
theorem zmn(f:β->D)(w:List Int):∀ s:List (List Int×β),look (s.map fun p=>(tp p.1,f p.2)) (kq w)=(zdz s w).map f
 | []=>rfl
 | p::r=>by
  have ih:=zmn f w r
  unfold look zdz at ih ⊢
  simp only [List.map_cons,List.find?_cons]
  rw [zpl p.1 w]
  cases decide (p.1=w) with
  | true=>rfl
  | false=>exact ih
theorem zig(f:β->D):∀ s:List (List Int×β),keysOk true (s.map fun p=>(tp p.1,f p.2))=true
 | []=>rfl
 | p::r=>by
  have ih:=zig f r
  unfold keysOk at ih ⊢
  rw [List.map_cons,List.all_cons,ih,Bool.and_true]
  show(match keyOf (tp p.1) with|some q=>form q==true|none=>false)=true
  rw [zee];rfl
theorem zix(f:β->D)(s:List (List Int×β))(w:List Int):dictAt (gd f s) (tp w)=.ok (s.map (fun p=>(tp p.1,f p.2)),kq w):=by
 show(R.of (keyOf (tp w))).bind _=_
 rw [zee]
 exact zaN (zig f s)
theorem zhw(f:β->D)(s:List (List Int×β))(w:List Int):zdE (gd f s) (tp w)=.ok ((zdz s w).map f):=by
 unfold zdE
 rw [zix,zac,zmn]
theorem zuz(f:β->D)(s:List (List Int×β))(w:List Int):inD (tp w) (gd f s)=.ok (.bool (zdz s w).isSome):=by
 unfold inD
 rw [zhw,zac]
 cases zdz s w <;> rfl
theorem zq6(f:β->D)(s:List (List Int×β))(w:List Int)(x:β):zjk (gd f s) (tp w) (f x)=.ok (f ((zdz s w).getD x)):=by
 unfold zjk
 rw [zhw,zac]
 cases zdz s w <;> rfl
theorem ztd{f:β->D}{s:List (List Int×β)}{w:List Int}{q:β}(h:zdz s w=some q):zmO (gd f s) (tp w)=.ok (f q):=by
 unfold zmO
 rw [zhw,zac,h];rfl
theorem zpB(f:β->D)(w:List Int):∀ s:List (List Int×β),((s.map fun p=>(tp p.1,f p.2)).any fun kv=>decide (keyOf kv.1=some (kq w)))=s.any fun p=>decide (p.1=w)
 | []=>rfl
 | p::r=>by
  simp only [List.map_cons,List.any_cons,zpB f w r]
  rw [zpl p.1 w]
theorem zo2(f:β->D)(s:List (List Int×β))(w:List Int)(q:β):zqf (s.map fun p=>(tp p.1,f p.2)) (tp w) (kq w) (f q)=(zov s w q).map fun p=>(tp p.1,f p.2):=by
 unfold zqf zov
 rw [zpB]
 split
 ·rw [List.map_map,List.map_map]
  refine List.map_congr_left fun p _=>?_
  show(if keyOf (tp p.1)=some (kq w) then(tp p.1,f q) else(tp p.1,f p.2))=(fun p:List Int×β=>(tp p.1,f p.2)) (if p.1=w then(p.1,q) else p)
  by_cases c:p.1=w
  ·rw [if_pos c,if_pos (by rw [zee,c])]
  ·rw [if_neg c,if_neg (fun z=>c (by rw [zee] at z;exact zpk (Option.some.inj z)))]
 ·rw [List.map_append];rfl
theorem zre{f:β->D}{s:List (List Int×β)}{w:List Int}{q:β}(h:s.length+1<=lim):zk5 (gd f s) (tp w) (f q)=.ok (gd f (zov s w q)):=by
 unfold zk5
 rw [zix,zac]
 show chk (leB ((s.map fun p=>(tp p.1,f p.2)).length+1) lim) _=_
 rw [zaN (by rw [List.length_map];exact zcg h),zo2];rfl
theorem zef{s:List (List Int×β)}{w:List Int}(h:∀ p∈s,p.1≠w):zdz s w=none:=by
 unfold zdz
 rw [List.find?_eq_none.mpr fun p hp=>by simpa using h p hp];rfl
theorem zds{s:List (List Int×β)}{w:List Int}{q:β}(h:zdz s w=some q):(w,q)∈s:=by
 unfold zdz at h
 obtain⟨p,e,rfl⟩:=Option.map_eq_some_iff.mp h
 have m:=List.mem_of_find?_eq_some e
 have:=List.find?_some e
 simp only [decide_eq_true_eq] at this
 rw [<- this];exact m
def Gk(s:List (List Int×β)):Prop:=(s.map (·.1)).Nodup
theorem zdh:∀{s:List (List Int×β)} {p:List Int×β},Gk s->p∈s->zdz s p.1=some p.2
 | x::r,p,nk,h=>by
  unfold Gk at nk
  rw [List.map_cons,List.nodup_cons] at nk
  unfold zdz
  rw [List.find?_cons]
  rcases List.mem_cons.mp h with rfl|h
  ·simp
  ·have:x.1≠p.1:=fun z=>nk.1 (by rw [z];exact List.mem_map_of_mem h)
   rw [decide_eq_false this]
   exact zdh (s:=r) nk.2 h
theorem zfW(p:List Int×β)(r:List (List Int×β))(v:List Int):zdz (p::r) v=if p.1=v then some p.2 else zdz r v:=by
 unfold zdz
 rw [List.find?_cons]
 by_cases c:p.1=v
 ·rw [if_pos c,decide_eq_true c];rfl
 ·rw [if_neg c,decide_eq_false c]
theorem zit(w:List Int)(q:β)(v:List Int):∀ s:List (List Int×β),(∀ p∈s,p.1≠w)->zdz (s++[(w,q)]) v=if v=w then some q else zdz s v
 | [],_=>by
  rw [List.nil_append,zfW]
  by_cases c:v=w
  ·rw [if_pos c,if_pos c.symm]
  ·rw [if_neg c,if_neg fun z=>c z.symm]
 | p::r,h=>by
  have hp:=h p (List.mem_cons_self ..)
  rw [List.cons_append,zfW,zfW,zit w q v r fun x m=>h x (List.mem_cons_of_mem _ m)]
  by_cases c:v=w
  ·subst c
   rw [if_neg hp,if_pos rfl,if_pos rfl]
  ·rw [if_neg c,if_neg c]
theorem zkh{s:List (List Int×β)}{w:List Int}{q:β}(h:∀ p∈s,p.1≠w):zov s w q=s++[(w,q)]:=by
 unfold zov
 rw [if_neg]
 intro z
 obtain⟨p,hp,hw⟩:=List.any_eq_true.mp z
 exact h p hp (by simpa using hw)
end
theorem zbL{α:Type}{f0:α->D}{k:Nat}{ix:List Nat}{it:IF}{g:GF}{f:EF}{ρ:En}{xs:List α}(h:α->D)(hi:it ρ=.ok (xs.map f0,ρ))(hl:xs.length<=lim)
  (hx:∀ x∈xs,∃ β,g (f0 x) (blk k ix ρ)=.ok β/\f β=.ok (h x,β)/\back ρ ix (β.drop k)=ρ):zbd k ix it g zbG f ρ=.ok (.list (xs.map h),ρ):=by
 have key:∀(xs:List α) (acc:List D),acc.length+xs.length<=lim->(∀ x∈xs,∃ β,g (f0 x) (blk k ix ρ)=.ok β/\f β=.ok (h x,β)/\back ρ ix (β.drop k)=ρ)->zcx k ix g zbG f (xs.map f0) ρ acc=.ok (acc++xs.map h,ρ):=by
  intro xs
  induction xs with
  | nil=>intro acc _ _;simp [zcx]
  | cons x xs ih =>
   intro acc hl hx
   obtain⟨β,h1,h2,h3⟩:=hx x (List.mem_cons_self ..)
   simp only [List.length_cons] at hl
   rw [List.map_cons]
   unfold zcx
   rw [h1,zac,show zbG β=.ok (true,β) from rfl,zac,if_pos rfl,h2,zac,zaN (zcg (by omega)),h3,ih _ (by simp;omega) fun y m=>hx y (List.mem_cons_of_mem x m)]
   simp
 unfold zbd
 rw [hi,zac,key xs [] (by simpa using hl) hx]
 rfl
def zrs:En->Prop
 | []=>True
 | .ow _ _::_=>False
 | _::r=>zrs r
theorem zrs.look:∀{ix:List Nat} {cs:En},zrs cs->∀ i p d,(ix.zip cs).lookup i≠some (.ow p d)
 | [],_,_,i,p,d,z=>by simp at z
 | _::_,[],_,i,p,d,z=>by simp at z
 | j::ix,c::cs,h,i,p,d,z=>by
  have hr:zrs cs:=by cases c <;> first|exact h|exact h.elim
  rw [List.zip_cons_cons,List.lookup_cons] at z
  split at z
  ·cases z;exact h
  ·exact zrs.look hr i p d z
theorem zbO{ρ:En}{ix:List Nat}{cs:En}(h:zrs cs):back ρ ix cs=ρ:=zkr (zrs.look h) _ _
def rL(xs:List Rat):D:=.list (xs.map num)
def rT(xs:List Rat):D:=.tuple (xs.map num)
theorem zl8(r s:Rat):eqD (num r) (num s)=.ok (.bool (decide (r=s))):=by
 have e:decide (([r.num,(r.den:Int)]:List Int)=[s.num,(s.den:Int)])=decide (r=s):=by
  by_cases c:r=s
  ·subst c;simp
  ·rw [decide_eq_false c,decide_eq_false]
   intro z
   simp only [List.cons.injEq,and_true,Int.natCast_inj] at z
   exact c (Rat.ext z.1 z.2)
 rw [<- e]
 exact zs8 [r.num,(r.den:Int)] [s.num,(s.den:Int)]
theorem all_true{α:Type}(xs:List α):zto (.list (xs.map fun _=>PyData.bool true))=.ok (.bool true):=by
 have:=zku (xs.map fun _=>true)
 rw [List.map_map] at this
 rw [show xs.map (fun _=>PyData.bool true)=xs.map (PyData.bool∘fun _=>true) from rfl,this]
 simp
end
end FV
namespace FL
open PySem
theorem zpO{k b:Nat}{d:D}(h:za1 k d)(hk:k<=60000)(m:Int)(hm1:1<=m)(hm2:Bd m b)(hb:b<=1000):∃ g d',znd [d,.int m]=.ok (.int g,[d',.int m])/\0<=g/\g<m/\za1 (k+1) d':=by
 obtain⟨n,c,s,rfl,h1,h2,h3⟩:=h
 have i0:∀ x y z:D,atI [x,y,z] 0=some x:=fun _ _ _=>rfl
 have i1:∀ x y z:D,atI [x,y,z] 1=some y:=fun _ _ _=>rfl
 have i2:∀ x y z:D,atI [x,y,z] 2=some z:=fun _ _ _=>rfl
 have j0:ixN 3 0=some 0:=rfl
 have j1:ixN 3 1=some 1:=rfl
 have hlt:ltD (.int n) (.int m)=.ok (.bool (decide (n<m))):=rfl
 have hd:∀ i:Int,zaL (.int i) (.int m)=.ok (.int (i.fdiv m)):=fun i=>zox (by omega) hm2 (by omega)
 have hm:∀ i:Int,zhh (.int i) (.int m)=.ok (.int (i.fmod m)):=fun i=>zfH (by omega)
 have gd:∀ i:Int,0<=i->0<=i.fdiv m:=fun i hi=>Int.fdiv_nonneg hi (by omega)
 by_cases hn:n<m
 ·rw [decide_eq_true hn] at hlt
  have hc:(c+1).natAbs<65536:=by omega
  have x1:=zbw (i:=11) (zas (by decide)) (zas hc) (by decide)
  have xb:=((zas (i:=11) (by decide)).mul (zas hc)).add (zas (i:=5) (by decide))
  have x2:=zka s (11*(c+1)+5) xb (by decide)
  have x3:=zbw hm2 (zqQ s (11*(c+1)+5)) (by omega)
  have nn:0<=n+m*zpa s (11*(c+1)+5):=Int.add_nonneg h1 (Int.mul_nonneg (by omega) (zmi _ _))
  refine⟨(n+m*zpa s (11*(c+1)+5)).fmod m,.list [.int ((n+m*zpa s (11*(c+1)+5)).fdiv m),.int (c+1),.int s],?_,Int.fmod_nonneg_of_pos _ (by omega),Int.fmod_lt_of_pos _ (by omega),_,_,_,rfl,gd _ nn,by omega,by omega⟩
  simp only [znd,zeI,FL.run,zcb,slots,outs,outD,List.replicate,List.length_cons,List.length_nil,zaH,zav,sIf,zaZ,sE,sNx,zcH,zci,zg1,zdx,ze1,zg0,zdU,znz,zny,zgs,eC,eV,FL.e1,FL.e2,zhu,eOr,zle,eIf,zcu,zam,zab,za5,zcQ,zaj,zk4,zcr,zcq,eSl,zax,zbE,m1,m2,m2r,m2m,mSl,zhi,tE,tB,FL.zni,FL.tOr,FL.zch,tM,zbG,gN,gT,ziO,zhT,zgP,setM,zay,ziF,zac,zck,zcj,zz0,zz1,List.set_cons_zero,List.set_cons_succ,List.nil_append,List.cons_append,List.head?_cons,List.tail_cons,Bool.false_eq_true,if_false,if_true,Nat.sub_self,Nat.reduceSub,Nat.reduceAdd,reduceCtorEq,zaG,zdY,ixD,zcf,zez,zgc,zdM,zbh,zaq,zhO,zgn,ze8,zfn,bkL,bk1,List.lookup_cons,List.lookup_nil,blk,back,List.zip_cons_cons,List.zip_nil_left,List.zip_nil_right,List.map_cons,List.map_nil,List.drop_succ_cons,List.drop_zero,Option.getD_some,Option.getD_none,zdJ,iE,zcX,Bool.not_true,Bool.not_false,iD,zfO,zcZ,zeg,zhj,e3,zeF,zhy,zg3,iR1,iR2,zco,zcn,R.of,i0,i1,i2,j0,j1,hlt,x1,x2,x3,hd,hm]
 ·rw [decide_eq_false hn] at hlt
  refine⟨n.fmod m,.list [.int (n.fdiv m),.int c,.int s],?_,Int.fmod_nonneg_of_pos _ (by omega),Int.fmod_lt_of_pos _ (by omega),_,_,_,rfl,gd _ h1,by omega,by omega⟩
  simp only [znd,zeI,FL.run,zcb,slots,outs,outD,List.replicate,List.length_cons,List.length_nil,zaH,zav,sIf,zaZ,sE,sNx,zcH,zci,zg1,zdx,ze1,zg0,zdU,znz,zny,zgs,eC,eV,FL.e1,FL.e2,zhu,eOr,zle,eIf,zcu,zam,zab,za5,zcQ,zaj,zk4,zcr,zcq,eSl,zax,zbE,m1,m2,m2r,m2m,mSl,zhi,tE,tB,FL.zni,FL.tOr,FL.zch,tM,zbG,gN,gT,ziO,zhT,zgP,setM,zay,ziF,zac,zck,zcj,zz0,zz1,List.set_cons_zero,List.set_cons_succ,List.nil_append,List.cons_append,List.head?_cons,List.tail_cons,Bool.false_eq_true,if_false,if_true,Nat.sub_self,Nat.reduceSub,Nat.reduceAdd,reduceCtorEq,zaG,zdY,ixD,zcf,zez,zgc,zdM,zbh,zaq,zhO,zgn,ze8,zfn,bkL,bk1,List.lookup_cons,List.lookup_nil,blk,back,List.zip_cons_cons,List.zip_nil_left,List.zip_nil_right,List.map_cons,List.map_nil,List.drop_succ_cons,List.drop_zero,Option.getD_some,Option.getD_none,zdJ,iE,zcX,Bool.not_true,Bool.not_false,iD,zfO,zcZ,zeg,zhj,e3,zeF,zhy,zg3,iR1,iR2,zco,zcn,R.of,i0,i1,i2,j0,j1,hlt,hd,hm]
end FL
namespace K08
open PySem FL FV
section
theorem zsE(r:Rat):zdT [num r]=.ok (.bool true):=zq0 r
theorem zsh{r s:Rat}{n:Nat}(hr:QR.Bd n r)(hs:QR.Bd n s)(hn:n<=40000000):zky [num r,num s]=.ok (num (r+s)):=zqq hr hs hn
theorem zpN{r s:Rat}{n:Nat}(hr:QR.Bd n r)(hs:QR.Bd n s)(hn:n<=40000000):zdS [num r,num s]=.ok (num (r*s)):=znu hr hs hn
theorem zgV{k b:Nat}{d:D}(h:za1 k d)(hk:k<=60000)(m:Int)(hm1:1<=m)(hm2:Bd m b)(hb:b<=1000):∃ g d',zaf [d,.int m]=.ok (.int g,[d',.int m])/\0<=g/\g<m/\za1 (k+1) d':=zpO h hk m hm1 hm2 hb
theorem zur(t:Int){b n:Nat}(hb:b≠0)(hl:b<2^n)(hn:n<=90000000):zbC [.int t,.int b]=.ok (num (Rat.normalize t b hb)):=zsN t hb hl hn
theorem zmC(xs:List Rat)(hl:xs.length<=1000):zhL [rL xs]=.ok (.bool true):=by
 have q:zdp [.val (rL xs)]=.ok (.list (xs.map fun _=>PyData.bool true),[.val (rL xs)]):=by
  unfold zdp
  exact zbL (f0:=num) (xs:=xs) (fun _=>PyData.bool true) rfl (by show _<=1000000;omega) fun r mr=>⟨[.val (num r)],rfl,by simp only [zaj,zab,eV,zz0,zam,zac,zsE],zbO trivial⟩
 refine zc7 (ρ:=[.val (rL xs)]) rfl ?_
 show zfl [.val (rL xs)]=_
 unfold zfl
 have k1:zbT "list" (rL xs)=.ok (.bool true):=rfl
 simp only [zaH,zhu,FL.e1,eV,zz0,zac,k1,q,all_true]
theorem zde{xs:List Rat}{n:Int}(hl:(xs.length:Int)=n)(hn:xs.length<=1000):zb0 [rL xs,.int n]=.ok (.bool true):=by
 refine zc7 (ρ:=[.val (rL xs),.val (.int n)]) rfl ?_
 show zcS [.val (rL xs),.val (.int n)]=_
 unfold zcS
 have k1:zez (rL xs)=.ok (.int n):=by
  show R.ok (PyData.int ((xs.map num).length:Int))=_
  rw [List.length_map,hl]
 simp only [zaH,zhu,zaj,zab,zam,FL.e1,FL.e2,eV,zz1,zz0,zac,zmC xs (by omega),k1,zdP,decide_true]
theorem zkO(xs:List Rat)(hl:xs.length<=1000):za4 [rT xs]=.ok (.bool (xs.all fun x=>decide (x=0))):=by
 refine zc7 (ρ:=[.val (rT xs)]) rfl ?_
 show zbP [.val (rT xs)]=_
 unfold zbP zbW
 have q:=zbL (f0:=num) (k:=1) (ix:=[]) (it:=iE (eV 0)) (g:=gN 0) (f:=e2 eqD (eV 0) (eC (.tuple [.int 0,.int 1]))) (ρ:=[.val (rT xs)]) (xs:=xs) (fun x=>PyData.bool (decide (x=0))) rfl (by show _<=1000000;omega) fun x mx=>⟨[.val (num x)],rfl,by
  have h:=zl8 x 0
  rw [<- zty] at h
  simp only [FL.e2,eV,eC,zz0,zac,h],zbO trivial⟩
 simp only [zaH,FL.e1,q,zac]
 have:=zku (xs.map fun x=>decide (x=0))
 rw [List.map_map] at this
 rw [show xs.map (fun x=>PyData.bool (decide (x=0)))=xs.map (PyData.bool∘fun x=>decide (x=0)) from rfl,this,zac]
 rw [List.all_map];rfl
abbrev Tb:=List (List Int×List Rat)
structure TbK(c:Int)(t:Tb):Prop where
 nk:Gk t
 ky:∀ e∈t,∃ i j:Int,e.1=[i,j]/\0<=i/\i<j/\j<c
 rw:∀ e∈t,(e.2.length:Int)=c+1
theorem TbK.perm{c:Int}{t t':Tb}(h:TbK c t)(p:t'.Perm t):TbK c t' :=
 ⟨(p.map _).nodup_iff.mpr h.nk,fun e m=>h.ky e (p.subset m),fun e m=>h.rw e (p.subset m)⟩
theorem zh8{α β:Type}(g:α->β):∀{l:List β} {t:List α},l.Perm (t.map g)->∃ t':List α,t'.Perm t/\l=t'.map g
 | [],t,h=>by
  have:=h.symm.eq_nil
  rw [List.map_eq_nil_iff] at this
  subst this
  exact⟨[],.refl _,rfl⟩
 | x::l,t,h=>by
  obtain⟨e,he,rfl⟩:=List.mem_map.mp (h.subset (List.mem_cons_self ..))
  obtain⟨pre,post,rfl⟩:=List.append_of_mem he
  have h2:(g e::l).Perm (g e::(pre++post).map g):=h.trans (by
   rw [List.map_append,List.map_cons,List.map_append]
   exact List.perm_middle)
  obtain⟨t',hp,rfl⟩:=zh8 g h2.cons_inv
  exact⟨e::t',(hp.cons e).trans List.perm_middle.symm,rfl⟩
def kyT(e:List Int×List Rat):WK:=(e.1.getD 0 0,[e.1.getD 1 0])
structure St(t t':Tb):Prop where
 pm:t'.Perm t
 so:t'.Pairwise fun a b=>L2.ltK (kyT b) (kyT a)=false
theorem zlT{h:List Int×List Rat->D}:∀{t:Tb},(∀ e∈t,zqu (h e)=some (kyT e))->zgg (t.map h)=some (t.map kyT)
 | [],_=>rfl
 | e::t,k=>by
  rw [List.map_cons,List.map_cons]
  show((zqu (h e)).bind fun k=>(zgg (t.map h)).map (k::·))=_
  rw [k e (List.mem_cons_self ..),zlT fun x m=>k x (List.mem_cons_of_mem _ m)];rfl
theorem zrR{h:List Int×List Rat->D}{t:Tb}{d:D}(hi:zmB d=.ok (t.map h))(hk:∀ e∈t,zqu (h e)=some (kyT e))(nd:(t.map kyT).Nodup)(hl:t.length<=60):∃ t':Tb,St t t'/\zeR d=.ok (.list (t'.map h)):=by
 let g:List Int×List Rat->WK×D:=fun e=>(kyT e,h e)
 obtain⟨t',hp,e⟩:=zh8 g (zdO (t.map g))
 refine⟨t',⟨hp,?_⟩,?_⟩
 ·have:=@zcP cs0 (t.map g)
  rw [e,List.pairwise_map] at this
  exact this
 ·unfold zeR
  rw [hi,zac,zaN (by rw [List.length_map];exact zcg (by omega)),zlT hk]
  show chk (decide (t.map kyT).Nodup) _=_
  rw [zaN (decide_eq_true nd),List.zip_map',e,List.map_map];rfl
theorem TbK.nd{c:Int}{t:Tb}(h:TbK c t):(t.map kyT).Nodup:=by
 have:(t.map (·.1)).Nodup:=h.nk
 refine List.pairwise_map.mpr ((List.pairwise_map.mp this).imp_of_mem fun{a b} ha hb ne z=>ne ?_)
 obtain⟨i,j,ea,_⟩:=h.ky a ha
 obtain⟨i',j',eb,_⟩:=h.ky b hb
 unfold kyT at z
 rw [ea,eb] at z ⊢
 have z1:i=i':=(Prod.mk.inj z).1
 have z2:j=j':=(List.cons.inj (Prod.mk.inj z).2).1
 rw [z1,z2]
theorem St.uniq{c:Int}{t t1 t2:Tb}(h:TbK c t)(a:St t t1)(b:St t t2):t1=t2:=by
 refine List.Perm.eq_of_pairwise (fun x y hx hy l1 l2=>?_) a.so b.so (a.pm.trans b.pm.symm)
 have mx:=a.pm.subset hx
 have my:=b.pm.subset hy
 have ek:kyT x=kyT y:=@zml cs0 _ _ l2 l1
 obtain⟨i,j,ea,_⟩:=h.ky x mx
 obtain⟨i',j',eb,_⟩:=h.ky y my
 have e1:x.1=y.1:=by
  unfold kyT at ek
  rw [ea,eb] at ek ⊢
  have z1:i=i':=(Prod.mk.inj ek).1
  have z2:j=j':=(List.cons.inj (Prod.mk.inj ek).2).1
  rw [z1,z2]
 have gx:=zdh h.nk mx
 have gy:=zdh h.nk my
 rw [e1] at gx
 rw [gx] at gy
 exact Prod.ext e1 (Option.some.inj gy)
def lvL(e:List Int×List Rat):D:=.tuple [.int (e.1.getD 0 0),.int (e.1.getD 1 0),rL e.2]
def lvT(e:List Int×List Rat):D:=.tuple [.int (e.1.getD 0 0),.int (e.1.getD 1 0),rT e.2]
def zaz(t:Tb):Tb:=t.filter fun e=>!(e.2.all fun x=>decide (x=0))
theorem St.kept{t t':Tb}(h:St t t'):St (zaz t) (zaz t'):=⟨h.pm.filter _,h.so.filter _⟩
theorem zkn{α:Type}(f:α->D):∀(xs:List α) (i:Nat),zfX i (xs.map f)=(xs.zipIdx i).map fun q=>.tuple [.int q.2,f q.1]
 | [],_=>rfl
 | x::xs,i=>by simp only [List.map_cons,zfX,List.zipIdx_cons,zkn f xs (i+1)]
theorem gT2{ρ:En}{i j:Nat}{a b:D}{x y:Sl}(hx:ρ[i]?=some x)(nx:Np x)(hy:(ρ.set i (.val a))[j]?=some y)(ny:Np y):gT [gN i,gN j] (.tuple [a,b]) ρ=.ok ((ρ.set i (.val a)).set j (.val b)):=by
 show(gN i a ρ).bind _=_
 rw [ze7 hx nx,zac]
 show(gN j b _).bind _=_
 rw [ze7 hy ny];rfl
theorem gT3{ρ:En}{i j k:Nat}{a b c:D}{x y z:Sl}(hx:ρ[i]?=some x)(nx:Np x)(hy:(ρ.set i (.val a))[j]?=some y)(ny:Np y)(hz:((ρ.set i (.val a)).set j (.val b))[k]?=some z)(nz:Np z):gT [gN i,gN j,gN k] (.tuple [a,b,c]) ρ=.ok (((ρ.set i (.val a)).set j (.val b)).set k (.val c)):=by
 show(gN i a ρ).bind _=_
 rw [ze7 hx nx,zac]
 show(gN j b _).bind _=_
 rw [ze7 hy ny,zac]
 show(gN k c _).bind _=_
 rw [ze7 hz nz];rfl
theorem zoV{i c:Int}(h0:0<=i)(h1:i<c):zeo [.int i,.int c]=.ok (.bool true):=by
 have wh:zbB [.int i]=.ok (.bool true):=rfl
 simp only [zeo,zhF,FL.run,zcb,slots,outs,outD,List.replicate,List.length_cons,List.length_nil,zaH,zav,sIf,zaZ,sE,sNx,zcH,zci,zg1,zdx,ze1,zg0,zdU,znz,zny,zgs,eC,eV,FL.e1,FL.e2,zhu,eOr,zle,eIf,zcu,zam,zab,za5,zcQ,zaj,zk4,zcr,zcq,eSl,zax,zbE,m1,m2,m2r,m2m,mSl,zhi,tE,tB,FL.zni,FL.tOr,FL.zch,tM,zbG,gN,gT,ziO,zhT,zgP,setM,zay,ziF,zac,zck,zcj,zz0,zz1,List.set_cons_zero,List.set_cons_succ,List.nil_append,List.cons_append,List.head?_cons,List.tail_cons,Bool.false_eq_true,if_false,if_true,Nat.sub_self,Nat.reduceSub,Nat.reduceAdd,reduceCtorEq,zaG,zdY,ixD,zcf,zez,zgc,zdM,zbh,zaq,zhO,zgn,ze8,zfn,bkL,bk1,List.lookup_cons,List.lookup_nil,blk,back,List.zip_cons_cons,List.zip_nil_left,List.zip_nil_right,List.map_cons,List.map_nil,List.drop_succ_cons,List.drop_zero,Option.getD_some,Option.getD_none,zdJ,iE,zcX,Bool.not_true,Bool.not_false,iD,zfO,zcZ,zeg,zhj,e3,zeF,zhy,zg3,iR1,iR2,zco,zcn,wh,zmr,zjc,decide_eq_true h0,decide_eq_true h1]
theorem zoa{c:Int}{e:List Int×List Rat}{i j:Int}(he:e.1=[i,j])(h0:0<=i)(h1:i<j)(h2:j<c):zaY [lvL e,.int c]=.ok (.bool true):=by
 have hl:lvL e=.tuple [.int i,.int j,rL e.2]:=by unfold lvL;rw [he];rfl
 rw [hl]
 have t1:zbT "tuple" (.tuple [.int i,.int j,rL e.2])=.ok (.bool true):=rfl
 have t3:neD (.int ((0+1+1+1:Nat):Int)) (.int 3)=.ok (.bool false):=rfl
 have w1:=zoV (i:=i) (c:=c) h0 (by omega)
 have w2:=zoV (i:=j) (c:=c) (by omega) h2
 simp only [zaY,zce,FL.run,zcb,slots,outs,outD,List.replicate,List.length_cons,List.length_nil,zaH,zav,sIf,zaZ,sE,sNx,zcH,zci,zg1,zdx,ze1,zg0,zdU,znz,zny,zgs,eC,eV,FL.e1,FL.e2,zhu,eOr,zle,eIf,zcu,zam,zab,za5,zcQ,zaj,zk4,zcr,zcq,eSl,zax,zbE,m1,m2,m2r,m2m,mSl,zhi,tE,tB,FL.zni,FL.tOr,FL.zch,tM,zbG,gN,gT,ziO,zhT,zgP,setM,zay,ziF,zac,zck,zcj,zz0,zz1,List.set_cons_zero,List.set_cons_succ,List.nil_append,List.cons_append,List.head?_cons,List.tail_cons,Bool.false_eq_true,if_false,if_true,Nat.sub_self,Nat.reduceSub,Nat.reduceAdd,reduceCtorEq,zaG,zdY,ixD,zcf,zez,zgc,zdM,zbh,zaq,zhO,zgn,ze8,zfn,bkL,bk1,List.lookup_cons,List.lookup_nil,blk,back,List.zip_cons_cons,List.zip_nil_left,List.zip_nil_right,List.map_cons,List.map_nil,List.drop_succ_cons,List.drop_zero,Option.getD_some,Option.getD_none,zdJ,iE,zcX,Bool.not_true,Bool.not_false,iD,zfO,zcZ,zeg,zhj,e3,zeF,zhy,zg3,iR1,iR2,zco,zcn,t1,t3,w1,w2,zjc,decide_eq_true h1]
theorem zhW(xs:List Rat):zbh (rL xs)=.ok (rT xs):=rfl
theorem zn3{c:Int}{t:Tb}(h:TbK c t)(c0:0<=c)(c6:c<=6)(hl:t.length<=60):zb7 [.int c,.list (t.map lvL)]=.ok (gd rT t):=by
 generalize hLL:PyData.list (t.map lvL)=LL
 have L:=zb5 (f:=fun q:(List Int×List Rat)×Nat=>.tuple [.int q.2,lvL q.1]) (g:=gT [gN 3,gN 4]) (b:=zbm)
  (fun done ρ=>∃(y3 y4 y5 y6 y7:Sl),Np y3/\Np y4/\Np y5/\Np y6/\Np y7/\ρ=[.val (.int c),.val LL,.ow false (gd rT (done.map (·.1))),y3,y4,y5,y6,y7])
  (t.zipIdx 0) [] [.val (.int c),.val LL,.ow false (gd rT []),.no,.no,.no,.no,.no] ⟨_,_,_,_,_,zbD,zbD,zbD,zbD,zbD,rfl⟩ (by
   rintro pre ⟨e,n⟩ post ρ he ⟨y3,y4,y5,y6,y7,n3,n4,n5,n6,n7,rfl⟩
   rw [List.nil_append] at he
   have ht:t=pre.map (·.1)++e::post.map (·.1):=by
    have:=congrArg (List.map (·.1)) he
    simpa using this
   generalize hpm:pre.map (·.1)=pm at ht ⊢
   have em:e∈t:=by rw [ht];simp
   obtain⟨i,j,eij,i0,ij,jc⟩:=h.ky e em
   have rl:=h.rw e em
   have fr:zdz pm [i,j]=none:=zef fun p hp z=>by
    have nk:=h.nk
    unfold Gk at nk
    rw [ht,List.map_append,List.nodup_append] at nk
    exact nk.2.2 p.1 (List.mem_map_of_mem hp) e.1 (List.mem_map_of_mem (List.mem_cons_self ..)) (by rw [z,eij])
   have hlv:lvL e=.tuple [.int i,.int j,rL e.2]:=by unfold lvL;rw [eij];rfl
   have nm:=zoa (c:=c) eij i0 ij jc
   have ro:=zde (xs:=e.2) (n:=c+1) rl (by omega)
   have g1:gT [gN 3,gN 4] (.tuple [.int n,lvL e]) [.val (.int c),.val LL,.ow false (gd rT pm),y3,y4,y5,y6,y7]=.ok [.val (.int c),.val LL,.ow false (gd rT pm),.val (.int n),.val (lvL e),y5,y6,y7]:=gT2 rfl n3 rfl n4
   have g2:gT [gN 5,gN 6,gN 7] (.tuple [.int i,.int j,rL e.2]) [.val (.int c),.val LL,.ow false (gd rT pm),.val (.int n),.val (lvL e),y5,y6,y7]=.ok [.val (.int c),.val LL,.ow false (gd rT pm),.val (.int n),.val (lvL e),.val (.int i),.val (.int j),.val (rL e.2)]:=gT3 rfl n5 rfl n6 rfl n7
   have b1:sIf (FL.zch (tE (zaj zaY (zab (eV 4) (zab (eV 0) zam))))) zgs sNx [.val (.int c),.val LL,.ow false (gd rT pm),.val (.int n),.val (lvL e),y5,y6,y7]=.ok (.nx,[.val (.int c),.val LL,.ow false (gd rT pm),.val (.int n),.val (lvL e),y5,y6,y7]):=by
    simp only [FL.run,zcb,slots,outs,outD,List.replicate,List.length_cons,List.length_nil,zaH,zav,sIf,zaZ,sE,sNx,zcH,zci,zg1,zdx,ze1,zg0,zdU,znz,zny,zgs,eC,eV,FL.e1,FL.e2,zhu,eOr,zle,eIf,zcu,zam,zab,za5,zcQ,zaj,zk4,zcr,zcq,eSl,zax,zbE,m1,m2,m2r,m2m,mSl,zhi,tE,tB,FL.zni,FL.tOr,FL.zch,tM,zbG,gN,gT,ziO,zhT,zgP,setM,zay,ziF,zac,zck,zcj,zz0,zz1,List.set_cons_zero,List.set_cons_succ,List.nil_append,List.cons_append,List.head?_cons,List.tail_cons,Bool.false_eq_true,if_false,if_true,Nat.sub_self,Nat.reduceSub,Nat.reduceAdd,reduceCtorEq,zaG,zdY,ixD,zcf,zez,zgc,zdM,zbh,zaq,zhO,zgn,ze8,zfn,bkL,bk1,List.lookup_cons,List.lookup_nil,blk,back,List.zip_cons_cons,List.zip_nil_left,List.zip_nil_right,List.map_cons,List.map_nil,List.drop_succ_cons,List.drop_zero,Option.getD_some,Option.getD_none,zdJ,iE,zcX,Bool.not_true,Bool.not_false,iD,zfO,zcZ,zeg,zhj,e3,zeF,zhy,zg3,iR1,iR2,zco,zcn,nm]
   have b2:zaZ (gT [gN 5,gN 6,gN 7]) (eV 4) [.val (.int c),.val LL,.ow false (gd rT pm),.val (.int n),.val (lvL e),y5,y6,y7]=.ok (.nx,[.val (.int c),.val LL,.ow false (gd rT pm),.val (.int n),.val (lvL e),.val (.int i),.val (.int j),.val (rL e.2)]):=by
    unfold zaZ
    show(gT [gN 5,gN 6,gN 7] (lvL e) _).bind _=_
    rw [show gT [gN 5,gN 6,gN 7] (lvL e)=gT [gN 5,gN 6,gN 7] (.tuple [.int i,.int j,rL e.2]) by rw [hlv],g2]
    rfl
   have ii:inD (.tuple [.int i,.int j]) (gd rT pm)=.ok (.bool false):=by
    have:=zuz rT pm [i,j]
    rw [fr] at this
    exact this
   have l2:leB 2 lim=true:=by decide
   have b3:sIf (tB (m2r inD (za5 (zab (eV 5) (zab (eV 6) zam))) 2)) zgs sNx [.val (.int c),.val LL,.ow false (gd rT pm),.val (.int n),.val (lvL e),.val (.int i),.val (.int j),.val (rL e.2)]=.ok (.nx,[.val (.int c),.val LL,.ow false (gd rT pm),.val (.int n),.val (lvL e),.val (.int i),.val (.int j),.val (rL e.2)]):=by
    simp only [FL.run,zcb,slots,outs,outD,List.replicate,List.length_cons,List.length_nil,zaH,zav,sIf,zaZ,sE,sNx,zcH,zci,zg1,zdx,ze1,zg0,zdU,znz,zny,zgs,eC,eV,FL.e1,FL.e2,zhu,eOr,zle,eIf,zcu,zam,zab,za5,zcQ,zaj,zk4,zcr,zcq,eSl,zax,zbE,m1,m2,m2r,m2m,mSl,zhi,tE,tB,FL.zni,FL.tOr,FL.zch,tM,zbG,gN,gT,ziO,zhT,zgP,setM,zay,ziF,zac,zck,zcj,zz0,zz1,List.set_cons_zero,List.set_cons_succ,List.nil_append,List.cons_append,List.head?_cons,List.tail_cons,Bool.false_eq_true,if_false,if_true,Nat.sub_self,Nat.reduceSub,Nat.reduceAdd,reduceCtorEq,zaG,zdY,ixD,zcf,zez,zgc,zdM,zbh,zaq,zhO,zgn,ze8,zfn,bkL,bk1,List.lookup_cons,List.lookup_nil,blk,back,List.zip_cons_cons,List.zip_nil_left,List.zip_nil_right,List.map_cons,List.map_nil,List.drop_succ_cons,List.drop_zero,Option.getD_some,Option.getD_none,zdJ,iE,zcX,Bool.not_true,Bool.not_false,iD,zfO,zcZ,zeg,zhj,e3,zeF,zhy,zg3,iR1,iR2,zco,zcn,chk,l2,ii]
   have b4:sIf (FL.zch (tE (zaj zb0 (zab (eV 7) (zab (e2 zaG (eV 0) (eC (.int 1))) zam))))) zgs sNx [.val (.int c),.val LL,.ow false (gd rT pm),.val (.int n),.val (lvL e),.val (.int i),.val (.int j),.val (rL e.2)]=.ok (.nx,[.val (.int c),.val LL,.ow false (gd rT pm),.val (.int n),.val (lvL e),.val (.int i),.val (.int j),.val (rL e.2)]):=by
    simp only [FL.run,zcb,slots,outs,outD,List.replicate,List.length_cons,List.length_nil,zaH,zav,sIf,zaZ,sE,sNx,zcH,zci,zg1,zdx,ze1,zg0,zdU,znz,zny,zgs,eC,eV,FL.e1,FL.e2,zhu,eOr,zle,eIf,zcu,zam,zab,za5,zcQ,zaj,zk4,zcr,zcq,eSl,zax,zbE,m1,m2,m2r,m2m,mSl,zhi,tE,tB,FL.zni,FL.tOr,FL.zch,tM,zbG,gN,gT,ziO,zhT,zgP,setM,zay,ziF,zac,zck,zcj,zz0,zz1,List.set_cons_zero,List.set_cons_succ,List.nil_append,List.cons_append,List.head?_cons,List.tail_cons,Bool.false_eq_true,if_false,if_true,Nat.sub_self,Nat.reduceSub,Nat.reduceAdd,reduceCtorEq,zaG,zdY,ixD,zcf,zez,zgc,zdM,zbh,zaq,zhO,zgn,ze8,zfn,bkL,bk1,List.lookup_cons,List.lookup_nil,blk,back,List.zip_cons_cons,List.zip_nil_left,List.zip_nil_right,List.map_cons,List.map_nil,List.drop_succ_cons,List.drop_zero,Option.getD_some,Option.getD_none,zdJ,iE,zcX,Bool.not_true,Bool.not_false,iD,zfO,zcZ,zeg,zhj,e3,zeF,zhy,zg3,iR1,iR2,zco,zcn,ro]
   have dp:zk5 (gd rT pm) (.tuple [.int i,.int j]) (rT e.2)=.ok (gd rT (zov pm [i,j] e.2)):=zre (w:=[i,j]) (Nat.le_trans (show _<=200 by
    have:=congrArg List.length ht
    rw [List.length_append] at this
    omega) (by decide))
   have b5:zeF 2 (za5 (zab (eV 5) (zab (eV 6) zam))) (e1 zbh (eV 7)) [.val (.int c),.val LL,.ow false (gd rT pm),.val (.int n),.val (lvL e),.val (.int i),.val (.int j),.val (rL e.2)]=.ok (.nx,[.val (.int c),.val LL,.ow false (gd rT (pm++[e])),.val (.int n),.val (lvL e),.val (.int i),.val (.int j),.val (rL e.2)]):=by
    have pn:zov pm [i,j] e.2=pm++[e]:=by
     rw [zkh fun p hp z=>?_,<- eij]
     have:=zdh (s:=t) h.nk (p:=p) (by rw [ht];exact List.mem_append_left _ hp)
     have nk:=h.nk
     unfold Gk at nk
     rw [ht,List.map_append,List.nodup_append] at nk
     exact nk.2.2 p.1 (List.mem_map_of_mem hp) e.1 (List.mem_map_of_mem (List.mem_cons_self ..)) (by rw [z,eij])
    rw [pn] at dp
    have tr:=zhW e.2
    generalize rL e.2=R7 at tr ⊢
    simp only [zeF,FL.e1,zax,za5,zab,zam,eV,zz1,zz0,zac,chk,l2,if_true,List.length_cons,List.length_nil,Nat.reduceAdd,tr,dp,zay,List.set_cons_succ,List.set_cons_zero]
   refine⟨[.val (.int c),.val LL,.ow false (gd rT (pm++[e])),.val (.int n),.val (lvL e),.val (.int i),.val (.int j),.val (rL e.2)],.nx,?_,.inl rfl,_,_,_,_,_,zaK _,zaK _,zaK _,zaK _,zaK _,by rw [List.map_append,hpm];rfl⟩
   rw [g1,zac]
   unfold zbm
   rw [zah b1,zah b2,zah b3,zah b4,b5])
 obtain⟨ρ',e,y3,y4,y5,y6,y7,_,_,_,_,_,rfl⟩:=L
 refine zpV (ρ:=[.val (.int c),.val LL,.ow false (gd rT t),y3,y4,y5,y6,y7]) rfl ?_
 show zb6 [.val (.int c),.val LL,.no,.no,.no,.no,.no,.no]=_
 have s1:zcH 2 zcZ [.val (.int c),.val LL,.no,.no,.no,.no,.no,.no]=.ok (.nx,[.val (.int c),.val LL,.ow false (gd rT []),.no,.no,.no,.no,.no]):=rfl
 have s2:zbl [.val (.int c),.val LL,.ow false (gd rT []),.no,.no,.no,.no,.no]=.ok (.nx,[.val (.int c),.val LL,.ow false (gd rT t),y3,y4,y5,y6,y7]):=by
  unfold zbl zdJ
  have hi:zsZ (zab (eV 1) zam) [.val (.int c),.val LL,.ow false (gd rT []),.no,.no,.no,.no,.no]=.ok ((t.zipIdx 0).map fun q=>.tuple [.int q.2,lvL q.1],[.val (.int c),.val LL,.ow false (gd rT []),.no,.no,.no,.no,.no]):=by
   rw [<- zkn,<- hLL];rfl
  rw [hi,zac,e]
  simp
 unfold zb6
 rw [zah s1,zah s2]
 rfl
theorem znw{c:Int}{t:Tb}(h:TbK c t)(c1:1<=c)(c6:c<=6)(hl:t.length<=60):∃ t':Tb,St t t'/\zeN [.int c,.list (t.map lvL)]=.ok (.tuple [.int c,.tuple ((zaz t').map lvT)]):=by
 obtain⟨t',ht',hs⟩:=zrR (t:=t) (d:=gd rT t) (h:=fun e=>tp e.1) (by show R.ok ((t.map fun p=>(tp p.1,rT p.2)).map (·.1))=_;rw [List.map_map];rfl) (fun e m=>by obtain⟨i,j,eq,_⟩:=h.ky e m;unfold kyT;rw [eq];rfl) h.nd hl
 refine⟨t',ht',?_⟩
 have hp:=ht'.pm
 have h':=h.perm hp
 have pr:=zn3 h (by omega) c6 hl
 generalize PyData.list (t.map lvL)=LL at pr ⊢
 have q:zc8 [.no,.val (.int c),.val LL,.val (gd rT t)]=.ok (.list ((zaz t').map lvT),[.no,.val (.int c),.val LL,.val (gd rT t)]):=by
  unfold zc8 zbd
  have it:iE (e1 zeR (eV 3)) [.no,.val (.int c),.val LL,.val (gd rT t)]=.ok (t'.map fun e=>tp e.1,[.no,.val (.int c),.val LL,.val (gd rT t)]):=by
   simp only [iE,FL.e1,eV,zz1,zz0,zac,hs,zcX]
  rw [it,zac]
  have key:∀(u:Tb) (acc:List D),(∀ e∈u,e∈t')->acc.length+u.length<=60->zcx 2 [3] (gT [gN 0,gN 1]) (FL.zch (tE (zaj za4 (zab (e2 zmO (eV 2) (za5 (zab (eV 0) (zab (eV 1) zam)))) zam)))) (za5 (zab (eV 0) (zab (eV 1) (zab (e2 zmO (eV 2) (za5 (zab (eV 0) (zab (eV 1) zam)))) zam)))) (u.map fun e=>tp e.1) [.no,.val (.int c),.val LL,.val (gd rT t)] acc=.ok (acc++(zaz u).map lvT,[.no,.val (.int c),.val LL,.val (gd rT t)]):=by
   intro u
   induction u with
   | nil=>intro acc _ _;simp [zcx,zaz]
   | cons e u ih =>
    intro acc hu hac
    have em:=hu e (List.mem_cons_self ..)
    obtain⟨i,j,eij,i0,ij,jc⟩:=h'.ky e em
    have rl:=h'.rw e em
    rw [List.length_cons] at hac
    have dx:zmO (gd rT t) (.tuple [.int i,.int j])=.ok (rT e.2):=by
     have:=zdh h.nk (hp.subset em)
     rw [eij] at this
     exact ztd (f:=rT) this
    have no:=zkO e.2 (by omega)
    have l2:leB 2 lim=true:=by decide
    have l3:leB 3 lim=true:=by decide
    have hg:gT [gN 0,gN 1] (tp e.1) (blk 2 [3] [.no,.val (.int c),.val LL,.val (gd rT t)])=.ok [.val (.int i),.val (.int j),.val (gd rT t)]:=by rw [eij];rfl
    have ht:(FL.zch (tE (zaj za4 (zab (e2 zmO (eV 2) (za5 (zab (eV 0) (zab (eV 1) zam)))) zam)))) [.val (.int i),.val (.int j),.val (gd rT t)]=.ok (!(e.2.all fun x=>decide (x=0)),[.val (.int i),.val (.int j),.val (gd rT t)]):=by
     simp only [FL.zch,tE,zaj,zab,zam,FL.e2,za5,eV,zz1,zz0,zac,chk,l2,if_true,List.length_cons,List.length_nil,Nat.reduceAdd,dx,no,zgc]
    have hf:(za5 (zab (eV 0) (zab (eV 1) (zab (e2 zmO (eV 2) (za5 (zab (eV 0) (zab (eV 1) zam)))) zam)))) [.val (.int i),.val (.int j),.val (gd rT t)]=.ok (lvT e,[.val (.int i),.val (.int j),.val (gd rT t)]):=by
     have:lvT e=.tuple [.int i,.int j,rT e.2]:=by unfold lvT;rw [eij];rfl
     rw [this]
     simp only [zab,zam,FL.e2,za5,eV,zz1,zz0,zac,chk,l2,l3,if_true,List.length_cons,List.length_nil,Nat.reduceAdd,dx]
    have hb:back [.no,.val (.int c),.val LL,.val (gd rT t)] [3] (([.val (.int i),.val (.int j),.val (gd rT t)]:En).drop 2)=[.no,.val (.int c),.val LL,.val (gd rT t)]:=zbO trivial
    rw [List.map_cons]
    unfold zcx
    rw [hg,zac,ht,zac]
    have hu':∀ e∈u,e∈t':=fun x m=>hu x (List.mem_cons_of_mem _ m)
    cases cz:(e.2.all fun x=>decide (x=0)) with
    | true =>
     rw [if_neg (by simp),hb,ih acc hu' (by omega)]
     unfold zaz
     rw [List.filter_cons_of_neg (by simp [cz])]
    | false =>
     rw [if_pos (by simp),hf,zac,zaN (zcg (Nat.le_trans (show _<=200 by omega) (by decide))),hb,ih _ hu' (by simp;omega)]
     unfold zaz
     rw [List.filter_cons_of_pos (by simp [cz])]
     simp
  rw [key t' [] (fun _ m=>m) (by simpa using (by rw [hp.length_eq];exact hl))]
  rfl
 have wh:zbB [.int c]=.ok (.bool true):=rfl
 have b1:sIf (FL.tOr (FL.zch (tE (zaj zbB (zab (eV 1) zam)))) (FL.zch (tB (zcu leD leD (eC (.int 1)) (eV 1) (eC (.int 6)))))) zgs sNx [.no,.val (.int c),.val LL,.no]=.ok (.nx,[.no,.val (.int c),.val LL,.no]):=by
  simp only [FL.run,zcb,slots,outs,outD,List.replicate,List.length_cons,List.length_nil,zaH,zav,sIf,zaZ,sE,sNx,zcH,zci,zg1,zdx,ze1,zg0,zdU,znz,zny,zgs,eC,eV,FL.e1,FL.e2,zhu,eOr,zle,eIf,zcu,zam,zab,za5,zcQ,zaj,zk4,zcr,zcq,eSl,zax,zbE,m1,m2,m2r,m2m,mSl,zhi,tE,tB,FL.zni,FL.tOr,FL.zch,tM,zbG,gN,gT,ziO,zhT,zgP,setM,zay,ziF,zac,zck,zcj,zz0,zz1,List.set_cons_zero,List.set_cons_succ,List.nil_append,List.cons_append,List.head?_cons,List.tail_cons,Bool.false_eq_true,if_false,if_true,Nat.sub_self,Nat.reduceSub,Nat.reduceAdd,reduceCtorEq,zaG,zdY,ixD,zcf,zez,zgc,zdM,zbh,zaq,zhO,zgn,ze8,zfn,bkL,bk1,List.lookup_cons,List.lookup_nil,blk,back,List.zip_cons_cons,List.zip_nil_left,List.zip_nil_right,List.map_cons,List.map_nil,List.drop_succ_cons,List.drop_zero,Option.getD_some,Option.getD_none,zdJ,iE,zcX,Bool.not_true,Bool.not_false,iD,zfO,zcZ,zeg,zhj,e3,zeF,zhy,zg3,iR1,iR2,zco,zcn,wh,zmr,decide_eq_true c1,decide_eq_true c6]
 have b2:zaZ (gN 3) (zaj zb7 (zab (eV 1) (zab (eV 2) zam))) [.no,.val (.int c),.val LL,.no]=.ok (.nx,[.no,.val (.int c),.val LL,.val (gd rT t)]):=by
  simp only [FL.run,zcb,slots,outs,outD,List.replicate,List.length_cons,List.length_nil,zaH,zav,sIf,zaZ,sE,sNx,zcH,zci,zg1,zdx,ze1,zg0,zdU,znz,zny,zgs,eC,eV,FL.e1,FL.e2,zhu,eOr,zle,eIf,zcu,zam,zab,za5,zcQ,zaj,zk4,zcr,zcq,eSl,zax,zbE,m1,m2,m2r,m2m,mSl,zhi,tE,tB,FL.zni,FL.tOr,FL.zch,tM,zbG,gN,gT,ziO,zhT,zgP,setM,zay,ziF,zac,zck,zcj,zz0,zz1,List.set_cons_zero,List.set_cons_succ,List.nil_append,List.cons_append,List.head?_cons,List.tail_cons,Bool.false_eq_true,if_false,if_true,Nat.sub_self,Nat.reduceSub,Nat.reduceAdd,reduceCtorEq,zaG,zdY,ixD,zcf,zez,zgc,zdM,zbh,zaq,zhO,zgn,ze8,zfn,bkL,bk1,List.lookup_cons,List.lookup_nil,blk,back,List.zip_cons_cons,List.zip_nil_left,List.zip_nil_right,List.map_cons,List.map_nil,List.drop_succ_cons,List.drop_zero,Option.getD_some,Option.getD_none,zdJ,iE,zcX,Bool.not_true,Bool.not_false,iD,zfO,zcZ,zeg,zhj,e3,zeF,zhy,zg3,iR1,iR2,zco,zcn,pr]
 show(zhG [.no,.val (.int c),.val LL,.no]).bind _=_
 unfold zhG sIn
 rw [b1,zac]
 show((zaZ _ _ _).bind _).bind _=_
 rw [b2,zac]
 have tq:e1 zbh zc8 [.no,.val (.int c),.val LL,.val (gd rT t)]=.ok (.tuple ((zaz t').map lvT),[.no,.val (.int c),.val LL,.val (gd rT t)]):=by
  unfold FL.e1
  rw [q];rfl
 simp only [zab,zam,eV,zz1,zz0,zac,tq]
 rfl
end
section
theorem ixL{l:List D}{i:Int}{d:D}(h0:0<=i)(h:l[i.toNat]?=some d):ixD (.list l) (.int i)=.ok d:=by
 have hl:i.toNat<l.length:=(List.getElem?_eq_some_iff.mp h).1
 show R.of (atI l i)=_
 unfold atI ixN
 rw [if_pos h0,if_pos (by omega)]
 show R.of (l[i.toNat]?)=_
 rw [h];rfl
def unit(n:Nat)(k:Int):List Rat:=(List.range n).map fun p:Nat=>if(p:Int)=k then 1 else 0
theorem zgQ(n:Nat)(k:Int):(unit n k).length=n:=by unfold unit;simp
theorem zgR{n:Nat}{k i:Int}(h0:0<=i)(h:i<n):ixD (rL (unit n k)) (.int i)=.ok (num (if i=k then 1 else 0)):=by
 refine ixL h0 ?_
 unfold unit
 rw [List.map_map,List.getElem?_map,List.getElem?_range (by omega)]
 show some (num (if((i.toNat:Nat):Int)=k then 1 else 0))=_
 rw [Int.toNat_of_nonneg h0]
theorem zlf(p:Prop)[Decidable p]:QR.Bd 2 (if p then 1 else 0:Rat):=by
 split
 ·exact⟨by decide,by decide⟩
 ·exact QR.Bd.zero 1
theorem zl7(s:Rat):num (-s)=.tuple [.int (-s.num),.int (s.den:Int)]:=by
 unfold num
 rw [Rat.neg_num,Rat.neg_den]
theorem zm3{n:Nat}{s:Rat}(h:QR.Bd n s):QR.Bd n (-s):=⟨by rw [Rat.neg_num,Int.natAbs_neg];exact h.1,by rw [Rat.neg_den];exact h.2⟩
theorem zqT{r s:Rat}{n:Nat}(hr:QR.Bd n r)(hs:QR.Bd n s)(hn:n<=40000000):zkz [num r,num s]=.ok (num (r-s)):=by
 have h:=zsh hr (zm3 hs) hn
 rw [<- Rat.sub_eq_add_neg,zl7] at h
 refine zc7 (ρ:=[.val (num r),.val (num s)]) rfl ?_
 show zkt [.val (num r),.val (num s)]=_
 have x0:ixD (num s) (.int 0)=.ok (.int s.num):=rfl
 have x1:ixD (num s) (.int 1)=.ok (.int (s.den:Int)):=rfl
 have l2:leB 2 lim=true:=by decide
 unfold zkt
 simp only [zaH,zaj,zab,zam,za5,FL.e1,FL.e2,eV,eC,zhf,zz1,zz0,zac,x0,x1,chk,l2,if_true,List.length_cons,List.length_nil,Nat.reduceAdd,h]
theorem zu5:∀(xs ys:List Rat),zhM (xs.map num) (ys.map num)=(xs.zip ys).map fun q=>.tuple [num q.1,num q.2]
 | [],_=>by simp [zhM]
 | _::_,[]=>by simp [zhM]
 | x::xs,y::ys=>by simp only [List.map_cons,zhM,List.zip_cons_cons,zu5 xs ys]
theorem ztI{xs ys:List Rat}{w:Rat}{n:Nat}(hl:xs.length<=1000)(hx:∀ x∈xs,QR.Bd n x)(hy:∀ y∈ys,QR.Bd n y)(hw:QR.Bd n w)(hn:n<=10000)(he:xs.length=ys.length):zcC [rL xs,num w,rT ys]=.ok (rL ((xs.zip ys).map fun q=>q.1+w*q.2)):=by
 have e0:=zl8 w 0
 rw [<- zty] at e0
 by_cases c:w=0
 ·subst c
  rw [decide_eq_true rfl] at e0
  have hz:(xs.zip ys).map (fun q=>q.1+0*q.2)=xs:=by
   have:(fun q:Rat×Rat=>q.1+0*q.2)=Prod.fst:=by funext q;rw [Rat.zero_mul,Rat.add_zero]
   rw [this]
   exact List.map_fst_zip (by omega)
  rw [hz]
  refine zc7 (ρ:=[.val (rL xs),.val (num 0),.val (rT ys)]) rfl ?_
  show zbA [.val (rL xs),.val (num 0),.val (rT ys)]=_
  have li:zdM (rL xs)=.ok (rL xs):=rfl
  unfold zbA
  simp only [zav,sIf,tB,FL.e1,FL.e2,eV,eC,zz1,zz0,zac,e0,if_true,zaH,li]
 ·rw [decide_eq_false c] at e0
  refine zc7 (ρ:=[.val (rL xs),.val (num w),.val (rT ys)]) rfl ?_
  show zbA [.val (rL xs),.val (num w),.val (rT ys)]=_
  have q:zb4 [.val (rL xs),.val (num w),.val (rT ys)]=.ok (rL ((xs.zip ys).map fun q=>q.1+w*q.2),[.val (rL xs),.val (num w),.val (rT ys)]):=by
   unfold zb4 rL
   rw [List.map_map]
   refine zbL (f0:=fun q:Rat×Rat=>.tuple [num q.1,num q.2]) (xs:=xs.zip ys) (fun q=>num (q.1+w*q.2)) ?_ (by rw [List.length_zip];show _<=1000000;omega) fun q mq=>?_
   ·rw [<- zu5];rfl
   ·have m1:=List.of_mem_zip (a:=q.1) (b:=q.2) mq
    refine⟨[.val (num q.1),.val (num q.2),.val (num w)],rfl,?_,zbO trivial⟩
    have e1':=zl8 q.2 0
    rw [<- zty] at e1'
    have t1:=zpN hw (hy _ m1.2) (by omega)
    have p1:=zsh ((hx _ m1.1).mono (show n<=n+n by omega)) (hw.mul (hy _ m1.2)) (by omega)
    by_cases cq:q.2=0
    ·rw [decide_eq_true cq] at e1'
     have:q.1+w*q.2=q.1:=by rw [cq,Rat.mul_zero,Rat.add_zero]
     rw [this]
     simp only [eIf,tB,FL.e2,eV,eC,zz1,zz0,zac,e1',if_true]
    ·rw [decide_eq_false cq] at e1'
     simp only [eIf,tB,FL.e2,eV,eC,zaj,zab,zam,zz1,zz0,zac,e1',if_false,Bool.false_eq_true,t1,p1]
  unfold zbA
  simp only [zav,sIf,tB,FL.e2,eV,eC,zz1,zz0,zac,e0,if_false,Bool.false_eq_true,sNx,zaH,q]
theorem zly{a b:List Rat}{n:Int}(ha:(a.length:Int)=n)(hb:(b.length:Int)=n)(hn:n<=1000):zbS [.list [rL a,rL b],.int n]=.ok .none:=by
 have ra:=zde (xs:=a) (n:=n) ha (by omega)
 have rb:=zde (xs:=b) (n:=n) hb (by omega)
 refine zpW (ρ:=[.val (.list [rL a,rL b]),.val (.int n),.val (.int 1),.val (rL b)]) rfl ?_
 show zbF [.val (.list [rL a,rL b]),.val (.int n),.no,.no]=_
 have h:∀(x:List Rat) (k:Int) (y2 y3:Sl),Np y2->Np y3->zb0 [rL x,.int n]=.ok (.bool true)->(gT [gN 2,gN 3] (.tuple [.int k,rL x]) [.val (.list [rL a,rL b]),.val (.int n),y2,y3]).bind zaC=.ok (.nx,[.val (.list [rL a,rL b]),.val (.int n),.val (.int k),.val (rL x)]):=fun x k y2 y3 n2 n3 hx=>by
  rw [gT2 rfl n2 rfl n3,zac]
  unfold zaC
  simp only [List.set_cons_succ,List.set_cons_zero,sIf,FL.zch,tE,zaj,zab,zam,eV,zz1,zz0,zac,hx,zgc,Bool.not_true,Bool.false_eq_true,if_false,sNx]
 unfold zbF zdJ
 rw [show zsZ (zab (eV 0) zam) [.val (.list [rL a,rL b]),.val (.int n),.no,.no]=.ok ([.tuple [.int 0,rL a],.tuple [.int 1,rL b]],[.val (.list [rL a,rL b]),.val (.int n),.no,.no]) from rfl,zac]
 have L:=fun ρ1 ρ2 ρ3 (h1:(gT [gN 2,gN 3] (.tuple [.int 0,rL a]) ρ1).bind zaC=.ok (.nx,ρ2)) (h2:(gT [gN 2,gN 3] (.tuple [.int 1,rL b]) ρ2).bind zaC=.ok (.nx,ρ3))=>(show forL (gT [gN 2,gN 3]) zaC [.tuple [.int 0,rL a],.tuple [.int 1,rL b]] ρ1=.ok (.nx,ρ3) by
  obtain⟨z1,e1,h1⟩:=@zai cs0 _ _ _ _ _ h1
  obtain⟨z2,e2,h2⟩:=@zai cs0 _ _ _ _ _ h2
  simp only [forL,e1,zac,h1,e2,h2])
 exact L _ _ _ (h a 0 .no .no zbD zbD ra) (h b 1 _ _ (zaK _) (zaK _) rb)
def zer(n:Nat):List Rat:=List.replicate n 0
def tot(n:Nat)(k l:Int)(t:Tb):List Rat:=if k=l then zer n else match zdz t [min k l,max k l] with
 | none=>zer n
 | some row=>if k<l then row else row.map fun x=>-x
theorem zln{c k l:Int}{t:Tb}(h:TbK c t){n:Nat}(hn:(n:Int)=c+1):(tot n k l t).length=n:=by
 unfold tot
 split
 ·unfold zer;simp
 ·split
  ·unfold zer;simp
  ·rename_i row e
   have:=h.rw _ (zds e)
   have:(row.length:Int)=c+1:=this
   split
   ·omega
   ·rw [List.length_map];omega
theorem zrJ{c k l:Int}{t:Tb}{b n:Nat}(hb:∀ e∈t,∀ x∈e.2,QR.Bd (b+1) x):∀ x∈tot n k l t,QR.Bd (b+1) x:=fun x hx=>by
 unfold tot at hx
 split at hx
 ·rw [List.eq_of_mem_replicate hx];exact QR.Bd.zero b
 ·split at hx
  ·rw [List.eq_of_mem_replicate hx];exact QR.Bd.zero b
  ·rename_i row e
   split at hx
   ·exact hb _ (zds e) x hx
   ·obtain⟨y,hy,rfl⟩:=List.mem_map.mp hx
    exact zm3 (hb _ (zds e) y hy)
theorem zlg(w:Rat):∀(n:Nat) (ys:List Rat),ys.length=n->((zer n).zip ys).map (fun q=>q.1+w*q.2)=ys.map fun y=>w*y
 | 0,[],_=>rfl
 | n+1,y::ys,h=>by
  have ih:=zlg w n ys (by simpa using h)
  unfold zer at ih ⊢
  rw [List.replicate_succ,List.zip_cons_cons,List.map_cons,List.map_cons,ih,Rat.zero_add]
 | 0,_::_,h=>by simp at h
 | _+1,[],h=>by simp at h
def wg(k l i j:Int):Rat:=(if i=k then 1 else 0)*(if j=l then 1 else 0)-(if j=k then 1 else 0)*(if i=l then 1 else 0)
theorem ztJ(k l i j:Int):QR.Bd 10 (wg k l i j):=by
 have h:=((zlf (i=k)).mul (zlf (j=l))).add (zm3 ((zlf (j=k)).mul (zlf (i=l))))
 unfold wg
 rw [Rat.sub_eq_add_neg]
 exact h.mono (by decide)
theorem zns{c k l i j:Int}{t:Tb}{e:List Int×List Rat}{n:Nat}(h:TbK c (t++[e]))(hn:(n:Int)=c+1)(he:e.1=[i,j])(hij:i<j) :
  ((tot n k l t).zip e.2).map (fun q=>q.1+wg k l i j*q.2)=tot n k l (t++[e]):=by
 have ht:TbK c t:=⟨by have:=h.nk;unfold Gk at this ⊢;rw [List.map_append,List.nodup_append] at this;exact this.1,fun x m=>h.ky x (List.mem_append_left _ m),fun x m=>h.rw x (List.mem_append_left _ m)⟩
 have hl:=zln (k:=k) (l:=l) ht hn
 have rl:e.2.length=n:=by have:=h.rw e (by simp);omega
 have fr:∀ p∈t,p.1≠e.1:=fun p hp z=>by
  have:=h.nk
  unfold Gk at this
  rw [List.map_append,List.nodup_append] at this
  exact this.2.2 p.1 (List.mem_map_of_mem hp) e.1 (by simp) z
 have gs:∀ v,zdz (t++[e]) v=if v=[i,j] then some e.2 else zdz t v:=fun v=>by
  have:=zit e.1 e.2 v t fr
  rw [he] at this
  rw [<- he] at this ⊢
  exact this
 have same:wg k l i j=0->((tot n k l t).zip e.2).map (fun q=>q.1+wg k l i j*q.2)=tot n k l t:=fun z=>by
  rw [z]
  have:(fun q:Rat×Rat=>q.1+0*q.2)=Prod.fst:=by funext q;rw [Rat.zero_mul,Rat.add_zero]
  rw [this]
  exact List.map_fst_zip (by omega)
 by_cases kl:k=l
 ·subst kl
  rw [same (by unfold wg;rw [Rat.mul_comm,Rat.sub_self])]
  unfold tot
  rw [if_pos rfl,if_pos rfl]
 by_cases c1:[min k l,max k l]=[i,j]
 ·have g0:zdz t [min k l,max k l]=none:=zef fun p hp z=>fr p hp (by rw [z,c1,he])
  have t0:tot n k l t=zer n:=by unfold tot;rw [if_neg kl,g0]
  have t1:tot n k l (t++[e])=if k<l then e.2 else e.2.map fun x=>-x:=by unfold tot;rw [if_neg kl,gs,if_pos c1]
  have hi:min k l=i:=(List.cons.inj c1).1
  have hj:max k l=j:=(List.cons.inj (List.cons.inj c1).2).1
  rw [t0,t1,zlg _ _ _ rl]
  by_cases lt:k<l
  ·have e1':i=k:=by omega
   have e2':j=l:=by omega
   have w1:wg k l i j=1:=by
    unfold wg
    rw [if_pos e1',if_pos e2',if_neg (by omega),if_neg (by omega)];decide +kernel
   rw [if_pos lt,w1]
   have:(fun y:Rat=>1*y)=id:=by funext y;exact Rat.one_mul y
   rw [this,List.map_id]
  ·have e1':i=l:=by omega
   have e2':j=k:=by omega
   have w1:wg k l i j=-1:=by
    unfold wg
    rw [if_neg (by omega),if_neg (by omega),if_pos e2',if_pos e1'];decide +kernel
   rw [if_neg lt,w1]
   refine List.map_congr_left fun y _=>?_
   rw [Rat.neg_mul,Rat.one_mul]
 ·have w0:wg k l i j=0:=by
   unfold wg
   by_cases a1:i=k
   ·by_cases a2:j=l
    ·exact absurd (by rw [Int.min_eq_left (by omega),Int.max_eq_right (by omega),a1,a2]) c1
    ·rw [if_neg a2,if_neg (show ¬ i=l by omega),Rat.mul_zero,Rat.mul_zero];decide +kernel
   ·rw [if_neg a1,Rat.zero_mul]
    by_cases a2:j=k
    ·by_cases a3:i=l
     ·exact absurd (by rw [Int.min_eq_right (by omega),Int.max_eq_left (by omega),a2,a3]) c1
     ·rw [if_neg a3,Rat.mul_zero];decide +kernel
    ·rw [if_neg a2,Rat.zero_mul];decide +kernel
  rw [same w0]
  unfold tot
  rw [if_neg kl,if_neg kl,gs,if_neg c1]
end
section
theorem zdI{i:Nat}{f:EF}{ρ:En}{d:D}{x:Sl}(hf:f ρ=.ok (d,ρ))(h:ρ[i]?=some x)(n:Np x):zaZ (gN i) f ρ=.ok (.nx,ρ.set i (.val d)):=zfu (y:=(d,ρ)) hf h n
theorem zoM{g:R En}{u:SF}{ρ1:En}{r:R (Fl×En)}(h:g=.ok ρ1)(k:u ρ1=r):g.bind u=r:=by rw [h];exact k
abbrev LE(c:Int)(T A B:D)(y3 y4 y5 y6 y7:Sl):En:=[.ob "Table" [.int c,T],.val A,.val B,y3,y4,y5,y6,y7]
theorem zqU{c k l:Int}{t:Tb}{n:Nat}(h:TbK c t)(hb:∀ e∈t,∀ x∈e.2,QR.Bd 70 x)(hn:(n:Int)=c+1)(c0:0<=c)(c6:c<=6) :
  zcF [.tuple [.int c,.tuple (t.map lvT)],rL (unit n k),rL (unit n l)]=.ok (rL (tot n k l t)):=by
 generalize hA:rL (unit n k)=A
 generalize hB:rL (unit n l)=B
 generalize hT:PyData.tuple (t.map lvT)=T
 have ad:zaG (.int c) (.int 1)=.ok (.int (c+1)):=rfl
 have rf:zbS [.list [A,B],.int (c+1)]=.ok .none:=by
  rw [<- hA,<- hB]
  exact zly (by rw [zgQ];omega) (by rw [zgQ];omega) (by omega)
 have l2:leB 2 lim=true:=by decide
 have s1:sE (zaj zbS (zab (zcQ (zab (eV 1) (zab (eV 2) zam))) (zab (e2 zaG (zdi 0 "Table" 0) (eC (.int 1))) zam))) (LE c T A B .no .no .no .no .no)=.ok (.nx,LE c T A B .no .no .no .no .no):=by
  have f0:zdi 0 "Table" 0 (LE c T A B .no .no .no .no .no)=.ok (.int c,LE c T A B .no .no .no .no .no):=rfl
  simp only [LE] at f0 ⊢
  simp only [sE,zaj,zab,zam,zcQ,FL.e2,eV,eC,zz1,zz0,zac,chk,l2,if_true,List.length_cons,List.length_nil,Nat.reduceAdd,f0,ad,rf]
 have s2:zaZ (gN 3) (zk4 (eC (.tuple [.int 0,.int 1])) (e2 zaG (zdi 0 "Table" 0) (eC (.int 1)))) (LE c T A B .no .no .no .no .no)=.ok (.nx,LE c T A B (.val (rL (zer n))) .no .no .no .no):=by
  have hz:(PyData.list (List.replicate (c+1).toNat (.tuple [.int 0,.int 1])):D)=rL (zer n):=by
   unfold rL zer
   rw [List.map_replicate,<- zty,show(c+1).toNat=n by omega]
  have e:zk4 (eC (.tuple [.int 0,.int 1])) (e2 zaG (zdi 0 "Table" 0) (eC (.int 1))) (LE c T A B .no .no .no .no .no)=.ok (rL (zer n),LE c T A B .no .no .no .no .no):=by
   show chk (decide (0<=c+1)&&leB (c+1).toNat 1000000) (R.ok (PyData.list (List.replicate (c+1).toNat (.tuple [.int 0,.int 1])),LE c T A B .no .no .no .no .no))=_
   rw [zaN (by rw [decide_eq_true (by omega),zcg (by omega)];rfl),hz]
  exact zdI e rfl zbD
 have L:=zb5 (f:=lvT) (g:=gT [gN 4,gN 5,gN 6]) (b:=zb3)
  (fun done ρ=>∃ y4 y5 y6 y7:Sl,Np y4/\Np y5/\Np y6/\Np y7/\ρ=LE c T A B (.val (rL (tot n k l done))) y4 y5 y6 y7)
  t [] (LE c T A B (.val (rL (zer n))) .no .no .no .no) ⟨_,_,_,_,zbD,zbD,zbD,zbD,by
   have:tot n k l []=zer n:=by unfold tot;split <;> rfl
   rw [this]⟩ (by
   rintro pre e post ρ he ⟨y4,y5,y6,y7,n4,n5,n6,n7,rfl⟩
   rw [List.nil_append] at he
   have em:e∈t:=by rw [he];simp
   have hp:TbK c (pre++[e]):=by
    have sub:(pre++[e]).Sublist t:=by rw [he];exact List.Sublist.append_left (by simp) pre
    exact⟨(sub.map fun e:List Int×List Rat=>e.1).nodup h.nk,fun x m=>h.ky x (sub.subset m),fun x m=>h.rw x (sub.subset m)⟩
   obtain⟨i,j,eij,i0,ij,jc⟩:=h.ky e em
   have lv:lvT e=.tuple [.int i,.int j,rT e.2]:=by unfold lvT;rw [eij];rfl
   have g1:gT [gN 4,gN 5,gN 6] (lvT e) (LE c T A B (.val (rL (tot n k l pre))) y4 y5 y6 y7)=.ok (LE c T A B (.val (rL (tot n k l pre))) (.val (.int i)) (.val (.int j)) (.val (rT e.2)) y7):=by
    rw [lv]
    exact gT3 rfl n4 rfl n5 rfl n6
   have x1:=zgR (n:=n) (k:=k) i0 (by omega)
   have x2:=zgR (n:=n) (k:=l) (i:=j) (by omega) (by omega)
   have x3:=zgR (n:=n) (k:=k) (i:=j) (by omega) (by omega)
   have x4:=zgR (n:=n) (k:=l) i0 (by omega)
   rw [hA] at x1 x3
   rw [hB] at x2 x4
   have t1:=zpN (zlf (i=k)) (zlf (j=l)) (by decide)
   have t2:=zpN (zlf (j=k)) (zlf (i=l)) (by decide)
   have ls:=zqT ((zlf (i=k)).mul (zlf (j=l))) ((zlf (j=k)).mul (zlf (i=l))) (by decide)
   have b1:zaZ (gN 7) (zaj zkz (zab (zaj zdS (zab (e2 ixD (eV 1) (eV 4)) (zab (e2 ixD (eV 2) (eV 5)) zam))) (zab (zaj zdS (zab (e2 ixD (eV 1) (eV 5)) (zab (e2 ixD (eV 2) (eV 4)) zam))) zam))) (LE c T A B (.val (rL (tot n k l pre))) (.val (.int i)) (.val (.int j)) (.val (rT e.2)) y7)=.ok (.nx,LE c T A B (.val (rL (tot n k l pre))) (.val (.int i)) (.val (.int j)) (.val (rT e.2)) (.val (num (wg k l i j)))):=by
    refine zdI (x:=y7) ?_ rfl n7
    unfold wg
    simp only [LE,zaj,zab,zam,FL.e2,eV,zz1,zz0,zac,x1,x2,x3,x4,t1,t2,ls]
   have hl:(tot n k l pre).length=n:=zln ⟨by have:=hp.nk;unfold Gk at this ⊢;rw [List.map_append,List.nodup_append] at this;exact this.1,fun x m=>hp.ky x (List.mem_append_left _ m),fun x m=>hp.rw x (List.mem_append_left _ m)⟩ hn
   have rl:=h.rw e em
   have w:=ztI (xs:=tot n k l pre) (ys:=e.2) (w:=wg k l i j) (n:=70) (by omega) (zrJ (c:=c) (b:=69) fun x m=>hb x (by rw [he];simp [m])) (hb e em) ((ztJ k l i j).mono (by decide)) (by decide) (by omega)
   rw [zns hp hn eij ij] at w
   have b2:zaZ (gN 3) (zaj zcC (zab (eV 3) (zab (eV 7) (zab (eV 6) zam)))) (LE c T A B (.val (rL (tot n k l pre))) (.val (.int i)) (.val (.int j)) (.val (rT e.2)) (.val (num (wg k l i j))))=.ok (.nx,LE c T A B (.val (rL (tot n k l (pre++[e])))) (.val (.int i)) (.val (.int j)) (.val (rT e.2)) (.val (num (wg k l i j)))):=by
    refine zdI (x:=.val (rL (tot n k l pre))) ?_ rfl (zaK _)
    simp only [LE,zaj,zab,zam,eV,zz1,zz0,zac,w]
   have b3:=zoM (u:=zb3) g1 ((zah b1).trans b2)
   exact⟨_,.nx,b3,.inl rfl,_,_,_,_,zaK _,zaK _,zaK _,zaK _,rfl⟩)
 obtain⟨ρ',e,y4,y5,y6,y7,_,_,_,_,rfl⟩:=L
 rw [List.nil_append] at e
 have s3:zb2 (LE c T A B (.val (rL (zer n))) .no .no .no .no)=.ok (.nx,LE c T A B (.val (rL (tot n k l t))) y4 y5 y6 y7):=by
  unfold zb2 zdJ
  rw [show iE (zdi 0 "Table" 1) (LE c T A B (.val (rL (zer n))) .no .no .no .no)=.ok (t.map lvT,LE c T A B (.val (rL (zer n))) .no .no .no .no) by rw [<- hT];rfl,zac]
  exact e
 show((zcB (LE c T A B .no .no .no .no .no)).bind _)=_
 unfold zcB
 rw [zah s1,zah s2,zah s3]
 rfl
def zpu(n:Nat)(k l:Int)(t:Tb):List Rat:=if k=l then zer n else if k > l then((zdz t [min k l,max k l]).getD (zer n)).map fun x=>-x else(zdz t [min k l,max k l]).getD (zer n)
theorem zpI:∀{row:List Rat} {n:Nat},row.length=n->(row.all fun x=>decide (x=0))=true->row=zer n:=fun{row n} hl h=>by
 unfold zer
 rw [List.eq_replicate_iff]
 exact⟨hl,fun x m=>by simpa using List.all_eq_true.mp h x m⟩
theorem zlh(n:Nat):(zer n).map (fun x=>-x)=zer n:=by
 unfold zer
 rw [List.map_replicate];rfl
theorem zol{c:Int}{t t':Tb}(h:TbK c t)(p:t'.Perm t)(v:List Int):zdz (zaz t') v=(zdz t v).bind fun row=>if(row.all fun x=>decide (x=0))=true then none else some row:=by
 have h':=h.perm p
 cases e:zdz t v with
 | none =>
  refine zef fun q m z=>?_
  have m1:q∈t:=p.subset (List.mem_filter.mp m).1
  have:=zdh h.nk m1
  rw [z,e] at this;cases this
 | some row =>
  have m:=zds e
  show _=if _ then _ else _
  split
  ·rename_i cz
   refine zef fun q mq z=>?_
   obtain⟨m1,m2⟩:=List.mem_filter.mp mq
   have:=zdh h.nk (p.subset m1)
   rw [z,e] at this
   cases this
   rw [cz] at m2;cases m2
  ·rename_i cz
   have m2:(v,row)∈zaz t':=List.mem_filter.mpr ⟨p.symm.subset m,by simpa using cz⟩
   have nk:Gk (zaz t'):=(List.filter_sublist.map fun e:List Int×List Rat=>e.1).nodup h'.nk
   exact zdh nk m2
theorem znt{c k l:Int}{t t':Tb}{n:Nat}(h:TbK c t)(p:t'.Perm t)(hn:(n:Int)=c+1):tot n k l (zaz t')=zpu n k l t:=by
 unfold tot zpu
 by_cases kl:k=l
 ·rw [if_pos kl,if_pos kl]
 rw [if_neg kl,if_neg kl,zol h p]
 cases e:zdz t [min k l,max k l] with
 | none =>
  show zer n=_
  rw [Option.getD_none,zlh,ite_self]
 | some row =>
  have rl:row.length=n:=by have:(row.length:Int)=c+1:=h.rw _ (zds e);omega
  rw [Option.getD_some]
  by_cases cz:(row.all fun x=>decide (x=0))=true
  ·rw [show(some row).bind (fun row=>if(row.all fun x=>decide (x=0))=true then none else some row)=(none:Option (List Rat)) from if_pos cz,zpI rl cz]
   show zer n=_
   rw [zlh,ite_self]
  ·rw [show(some row).bind (fun row=>if(row.all fun x=>decide (x=0))=true then none else some row)=some row from if_neg cz]
   show(if k<l then row else _)=_
   by_cases lt:k<l
   ·rw [if_pos lt,if_neg (by omega)]
   ·rw [if_neg lt,if_pos (by omega)]
theorem zjW:∀(t s:Tb),zlH (s.map fun p=>(tp p.1,rL p.2)) (t.map fun e=>(e.1.map Sum.inl,rL e.2))=(t.foldl (fun s e=>zov s e.1 e.2) s).map fun p=>(tp p.1,rL p.2)
 | [],s=>rfl
 | e::t,s=>by
  rw [List.map_cons,List.foldl_cons,<- zjW t,<- zo2]
  have:zkV (e.1.map Sum.inl)=tp e.1:=by unfold zkV;rw [List.map_map];rfl
  show zlH (zqf _ (zkV (e.1.map Sum.inl)) _ _) _=_
  rw [this];rfl
theorem zkm:∀(t s:Tb),Gk (s++t)->t.foldl (fun s e=>zov s e.1 e.2) s=s++t
 | [],s,_=>by simp
 | e::t,s,h=>by
  have fr:∀ p∈s,p.1≠e.1:=fun p hp z=>by
   unfold Gk at h
   rw [List.map_append,List.nodup_append] at h
   exact h.2.2 p.1 (List.mem_map_of_mem hp) e.1 (by simp) z
  rw [List.foldl_cons,zkh fr,zkm t _ (by simpa using h)]
  simp
theorem zlO:∀ t:Tb,zkK (t.map fun e=>.tuple [tp e.1,rL e.2])=some (t.map fun e=>(e.1.map Sum.inl,rL e.2))
 | []=>rfl
 | e::t=>by
  rw [List.map_cons,List.map_cons]
  show((zld (e.1.map PyData.int)).bind fun ks=>(zkK (t.map fun e=>.tuple [tp e.1,rL e.2])).map fun l=>(ks,rL e.2)::l)=_
  rw [zfM,zlO t];rfl
theorem zoC{t:Tb}(h:Gk t)(hl:t.length<=100):ziw (.list (t.map fun e=>.tuple [tp e.1,rL e.2]))=.ok (gd rL t):=by
 show chk (leB ((t.map _).length+1) lim) _=_
 rw [zaN (by rw [List.length_map];exact zcg (Nat.le_trans (show _<=200 by omega) (by decide))),zlO]
 show R.ok (PyData.dict (zlH [] _))=_
 have:=zjW t []
 rw [zkm t [] h] at this
 rw [show([]:List (D×D))=([]:Tb).map fun p=>(tp p.1,rL p.2) from rfl,this];rfl
end
section
theorem sTO{i:Nat}{f:EF}{ρ:En}{d:D}{x:Sl}(hf:f ρ=.ok (d,ρ))(h:ρ[i]?=some x)(n:Np x):zci i (zcH i f) ρ=.ok (.nx,ρ.set i (.val d)):=by
 have hl:i<ρ.length:=(List.getElem?_eq_some_iff.mp h).1
 unfold zci
 rw [zc6 (y:=(d,ρ)) hf h n,zac]
 dsimp only
 rw [List.getElem?_set_self hl]
 dsimp only
 rw [List.set_set]
abbrev RE(c:Int)(T L M:D)(y4 y5 y6 y7:Sl):En:=[.ob "Table" [.int c,T],.val (.int c),.val L,.val M,y4,y5,y6,y7]
theorem zpn{c:Int}{n:Nat}{ρ:En}(hn:(n:Int)=c+1)(c6:c<=6)(h:ρ[1]?=some (.val (.int c))):iR1 (zab (e2 zaG (eV 1) (eC (.int 1))) zam) ρ=.ok ((List.range n).map (fun i:Nat=>PyData.int i),ρ):=by
 have ad:zaG (.int c) (.int 1)=.ok (.int (c+1)):=rfl
 have ev:eV 1 ρ=.ok (.int c,ρ):=by unfold eV;rw [h]
 have r:=zdo (j:=c+1) (by omega) (by omega)
 simp only [iR1,zab,zam,FL.e2,ev,eC,zac,ad,r]
 rw [zg2,List.map_map,show(c+1-0).toNat=n by omega]
 simp
theorem zrG{c:Int}{n:Nat}(hn:(n:Int)=c+1)(c6:c<=6)(k:Int):zaU [.val (.int k),.val (.int c)]=.ok (rL (unit n k),[.val (.int k),.val (.int c)]):=by
 unfold zaU rL unit
 rw [List.map_map]
 refine zbL (f0:=fun i:Nat=>.int i) (xs:=List.range n) _ (zpn hn c6 rfl) (by rw [List.length_range];show _<=1000000;omega) fun p mp=>⟨[.val (.int p),.val (.int k)],rfl,?_,zbO trivial⟩
 have l2:leB 2 lim=true:=by decide
 have i1:∀ b:Bool,intD (.bool b)=.ok (.int (if b=true then 1 else 0)):=fun b=>by cases b <;> rfl
 have e:(PyData.tuple [.int (if decide ((p:Int)=k)=true then 1 else 0),.int 1]:D)=num (if(p:Int)=k then 1 else 0):=by
  by_cases z:(p:Int)=k
  ·rw [if_pos (by simpa using z),if_pos z];rfl
  ·rw [if_neg (by simpa using z),if_neg z];rfl
 simp only [za5,zab,zam,FL.e1,FL.e2,eV,eC,zz1,zz0,zac,zdP,i1,chk,l2,if_true,List.length_cons,List.length_nil,Nat.reduceAdd,e,Function.comp_apply]
theorem zrE{c:Int}{n:Nat}{ρ:En}(hn:(n:Int)=c+1)(c6:c<=6)(h:ρ[1]?=some (.val (.int c))):zbd 1 [] (iR1 (zab (e2 zaG (eV 1) (eC (.int 1))) zam)) (gN 0) zbG (za5 (zab (eC (.int 0)) (zab (eC (.int 1)) zam))) ρ=.ok (rL (zer n),ρ):=by
 have e:rL (zer n)=.list ((List.range n).map fun _=>num 0):=by
  unfold rL zer
  rw [List.map_replicate]
  simp [List.map_const']
 rw [e]
 exact zbL (f0:=fun i:Nat=>.int i) (xs:=List.range n) (fun _=>num 0) (zpn hn c6 h) (by rw [List.length_range];show _<=1000000;omega) fun p mp=>⟨[.val (.int p)],rfl,rfl,zbO trivial⟩
theorem zum{xs:List Rat}{ρ:En}(hl:xs.length<=1000)(h:ρ[7]?=some (.val (rL xs))):zaD ρ=.ok (rL (xs.map fun x=>-x),ρ):=by
 have ev:iE (eV 7) ρ=.ok (xs.map num,ρ):=by unfold iE eV;rw [h];rfl
 unfold zaD rL
 rw [List.map_map]
 refine zbL (f0:=num) (xs:=xs) _ ev (by show _<=1000000;omega) fun x mx=>⟨[.val (num x)],rfl,?_,zbO trivial⟩
 have x0:ixD (num x) (.int 0)=.ok (.int x.num):=rfl
 have x1:ixD (num x) (.int 1)=.ok (.int (x.den:Int)):=rfl
 have sb:zdY (.int 0) (.int x.num)=.ok (.int (-x.num)):=by show R.ok (PyData.int (0-x.num))=_;rw [Int.zero_sub]
 have l2:leB 2 lim=true:=by decide
 simp only [za5,zab,zam,FL.e2,eV,eC,zz0,zac,x0,x1,sb,chk,l2,if_true,List.length_cons,List.length_nil,Nat.reduceAdd,Function.comp_apply,zl7]
theorem zo5(r:Rat):Pl 1 (num r):=zd5 fun d h=>by
 simp only [List.mem_cons,List.not_mem_nil,or_false] at h
 rcases h with rfl|rfl <;> exact zd6 _
theorem zqs(xs:List Rat):Pl 2 (rL xs):=ziZ fun d h=>by
 obtain⟨r,_,rfl⟩:=List.mem_map.mp h
 exact zo5 r
theorem zj7{n:Nat}{a:D}(h:Pl n a)(hn:n<=64:=by decide):neD a a=.ok (.bool false):=by
 rw [zmc h h hn hn,SeqAt.eqv_refl a h.1];rfl
theorem zqR{c k l:Int}{t t':Tb}{n:Nat}{L:D}(h:TbK c t)(p:t'.Perm t)(hb:∀ e∈t,∀ x∈e.2,QR.Bd 70 x)(hn:(n:Int)=c+1)(c0:0<=c)(c6:c<=6)(y6 y7:Sl)(n6:Np y6)(n7:Np y7) :
  ∃ z6 z7,Np z6/\Np z7/\zaS (RE c (.tuple ((zaz t').map lvT)) L (gd rL t) (.val (.int k)) (.val (.int l)) y6 y7)=.ok (.nx,RE c (.tuple ((zaz t').map lvT)) L (gd rL t) (.val (.int k)) (.val (.int l)) z6 z7):=by
 have ht':=h.perm p
 have hk:TbK c (zaz t'):=⟨(List.filter_sublist.map fun e:List Int×List Rat=>e.1).nodup ht'.nk,fun x m=>ht'.ky x (List.mem_filter.mp m).1,fun x m=>ht'.rw x (List.mem_filter.mp m).1⟩
 have lf:=zqU (k:=k) (l:=l) hk (fun e m=>hb e (p.subset (List.mem_filter.mp m).1)) hn c0 c6
 rw [znt h p hn] at lf
 generalize PyData.tuple ((zaz t').map lvT)=T at lf ⊢
 have lu:∀ m:Int,(unit n m).length=n:=fun m=>zgQ n m
 generalize hU:PyData.list [rL (unit n k),rL (unit n l)]=U
 have q2:zaE (RE c T L (gd rL t) (.val (.int k)) (.val (.int l)) y6 y7)=.ok (U,RE c T L (gd rL t) (.val (.int k)) (.val (.int l)) y6 y7):=by
  rw [<- hU]
  unfold zaE
  exact zbL (f0:=fun m:Int=>.int m) (xs:=[k,l]) (fun m=>rL (unit n m)) rfl (show 2<=1000000 by decide) fun m mm=>⟨[.val (.int m),.val (.int c)],rfl,zrG hn c6 m,zbO trivial⟩
 have s1:=sTO (i:=6) (x:=y6) q2 rfl n6
 replace s1:zci 6 (zcH 6 zaE) (RE c T L (gd rL t) (.val (.int k)) (.val (.int l)) y6 y7)=.ok (.nx,RE c T L (gd rL t) (.val (.int k)) (.val (.int l)) (.val U) y7):=s1
 have l2:leB 2 lim=true:=by decide
 have mn:zmj (.int k) (.int l)=.ok (.int (min k l)):=by
  show R.ok (PyData.int (if l<k then l else k))=_
  rw [show(if l<k then l else k)=min k l by split <;> omega]
 have mx:zmk (.int k) (.int l)=.ok (.int (max k l)):=by
  show R.ok (PyData.int (if l > k then l else k))=_
  rw [show(if l > k then l else k)=max k l by split <;> omega]
 have g2:zjk (gd rL t) (.tuple [.int (min k l),.int (max k l)]) (rL (zer n))=.ok (rL ((zdz t [min k l,max k l]).getD (zer n))):=zq6 rL t [min k l,max k l] (zer n)
 generalize hD:(zdz t [min k l,max k l]).getD (zer n)=D1 at g2
 have dl:D1.length=n:=by
  rw [<- hD]
  cases e:zdz t [min k l,max k l] with
  | none=>rw [Option.getD_none];unfold zer;simp
  | some row =>
   have:(row.length:Int)=c+1:=h.rw _ (zds e)
   rw [Option.getD_some];omega
 have q3:zaT (RE c T L (gd rL t) (.val (.int k)) (.val (.int l)) (.val U) y7)=.ok (rL (zer n),RE c T L (gd rL t) (.val (.int k)) (.val (.int l)) (.val U) y7):=zrE hn c6 rfl
 have s2:zaZ (gN 7) (e3 zjk (eV 3) (za5 (zab (zaj (two zmj) (zab (eV 4) (zab (eV 5) zam))) (zab (zaj (two zmk) (zab (eV 4) (zab (eV 5) zam))) zam))) zaT) (RE c T L (gd rL t) (.val (.int k)) (.val (.int l)) (.val U) y7)=.ok (.nx,RE c T L (gd rL t) (.val (.int k)) (.val (.int l)) (.val U) (.val (rL D1))):=by
  refine zdI (x:=y7) ?_ rfl n7
  simp only [RE] at q3 ⊢
  simp only [e3,za5,zaj,two,zab,zam,eV,zz1,zz0,zac,mn,mx,chk,l2,if_true,List.length_cons,List.length_nil,Nat.reduceAdd,q3,g2]
 have s3:sIf (tB (e2 gtD (eV 4) (eV 5))) (zci 7 (zcH 7 zaD)) sNx (RE c T L (gd rL t) (.val (.int k)) (.val (.int l)) (.val U) (.val (rL D1)))=.ok (.nx,RE c T L (gd rL t) (.val (.int k)) (.val (.int l)) (.val U) (.val (rL (if k > l then D1.map fun x=>-x else D1)))):=by
  have tt:tB (e2 gtD (eV 4) (eV 5)) (RE c T L (gd rL t) (.val (.int k)) (.val (.int l)) (.val U) (.val (rL D1)))=.ok (decide (l<k),RE c T L (gd rL t) (.val (.int k)) (.val (.int l)) (.val U) (.val (rL D1))):=rfl
  unfold sIf
  rw [tt,zac]
  by_cases z:l<k
  ·rw [decide_eq_true z,if_pos rfl,if_pos (show k > l from z)]
   exact sTO (x:=.val (rL D1)) (zum (by omega) rfl) rfl (zaK _)
  ·rw [decide_eq_false z,if_neg (by simp),if_neg (show ¬ k > l from z)];rfl
 generalize hD2:(if k > l then D1.map fun x=>-x else D1)=D2 at s3
 have s4:sIf (tB (e2 eqD (eV 4) (eV 5))) (zci 7 (zcH 7 zbq)) sNx (RE c T L (gd rL t) (.val (.int k)) (.val (.int l)) (.val U) (.val (rL D2)))=.ok (.nx,RE c T L (gd rL t) (.val (.int k)) (.val (.int l)) (.val U) (.val (rL (zpu n k l t)))):=by
  have tt:tB (e2 eqD (eV 4) (eV 5)) (RE c T L (gd rL t) (.val (.int k)) (.val (.int l)) (.val U) (.val (rL D2)))=.ok (decide (k=l),RE c T L (gd rL t) (.val (.int k)) (.val (.int l)) (.val U) (.val (rL D2))):=by
   simp only [RE,tB,FL.e2,eV,zz1,zz0,zac,zdP]
  unfold sIf
  rw [tt,zac]
  unfold zpu
  by_cases z:k=l
  ·rw [decide_eq_true z,if_pos rfl,if_pos z]
   exact sTO (x:=.val (rL D2)) (zrE hn c6 rfl) rfl (zaK _)
  ·rw [decide_eq_false z,if_neg (by simp),if_neg z,hD,hD2];rfl
 have u0:ixD U (.int 0)=.ok (rL (unit n k)):=by rw [<- hU];rfl
 have u1:ixD U (.int 1)=.ok (rL (unit n l)):=by rw [<- hU];rfl
 have ne:=zj7 (zqs (zpu n k l t))
 have s5:sIf (tB (e2 neD (zaj zcF (aOb 0 "Table" (zab (e2 ixD (eV 6) (eC (.int 0))) (zab (e2 ixD (eV 6) (eC (.int 1))) zam)))) (eV 7))) (zaH (eC (.bool false))) sNx (RE c T L (gd rL t) (.val (.int k)) (.val (.int l)) (.val U) (.val (rL (zpu n k l t))))=.ok (.nx,RE c T L (gd rL t) (.val (.int k)) (.val (.int l)) (.val U) (.val (rL (zpu n k l t)))):=by
  simp only [RE,sIf,tB,FL.e2,zaj,aOb,zab,zam,eV,eC,zz1,zz0,zac,if_true,u0,u1,lf,ne,Bool.false_eq_true,if_false,sNx]
 exact⟨.val U,.val (rL (zpu n k l t)),zaK _,zaK _,(zah s1).trans ((zah s2).trans ((zah s3).trans ((zah s4).trans s5)))⟩
theorem zux{c:Int}{ρ:En}(c0:0<=c)(c6:c<=6)(h:ρ[1]?=some (.val (.int c))):iR1 (zab (eV 1) zam) ρ=.ok ((List.range c.toNat).map (fun i:Nat=>PyData.int i),ρ):=by
 have ev:eV 1 ρ=.ok (.int c,ρ):=by unfold eV;rw [h]
 have r:=zdo (j:=c) (by omega) (by omega)
 simp only [iR1,zab,zam,ev,zac,r]
 rw [zg2,List.map_map,show(c-0).toNat=c.toNat by omega]
 simp
theorem zhn{c:Int}{t t':Tb}(h:TbK c t)(p:t'.Perm t)(hb:∀ e∈t,∀ x∈e.2,QR.Bd 70 x)(hl:t.length<=60)(c0:0<=c)(c6:c<=6) :
  zbb [.tuple [.int c,.tuple ((zaz t').map lvT)],.int c,.list (t.map lvL)]=.ok (.bool true):=by
 generalize hT:PyData.tuple ((zaz t').map lvT)=T
 generalize hL:PyData.list (t.map lvL)=L
 have q0:zaF [.ob "Table" [.int c,T],.val (.int c),.val L,.no,.no,.no,.no,.no]=.ok (.list (t.map fun e=>.tuple [tp e.1,rL e.2]),[.ob "Table" [.int c,T],.val (.int c),.val L,.no,.no,.no,.no,.no]):=by
  unfold zaF
  refine zbL (f0:=lvL) (xs:=t) (fun e=>.tuple [tp e.1,rL e.2]) (by rw [<- hL];rfl) (by show _<=1000000;omega) fun e me=>?_
  obtain⟨i,j,eij,_⟩:=h.ky e me
  have lv:lvL e=.tuple [.int i,.int j,rL e.2]:=by unfold lvL;rw [eij];rfl
  rw [lv,eij]
  exact⟨[.val (.int i),.val (.int j),.val (rL e.2)],rfl,rfl,zbO trivial⟩
 have s1:zaZ (gN 3) (e1 ziw zaF) [.ob "Table" [.int c,T],.val (.int c),.val L,.no,.no,.no,.no,.no]=.ok (.nx,RE c T L (gd rL t) .no .no .no .no):=by
  refine zdI (x:=.no) ?_ rfl zbD
  unfold FL.e1
  rw [q0,zac]
  show(ziw (.list (t.map fun e=>.tuple [tp e.1,rL e.2]))).bind _=_
  rw [zoC h.nk (by omega)];rfl
 have inner:∀(k:Nat) (y5 y6 y7:Sl),Np y5->Np y6->Np y7->∃ z5 z6 z7,Np z5/\Np z6/\Np z7/\zaQ (RE c T L (gd rL t) (.val (.int k)) y5 y6 y7)=.ok (.nx,RE c T L (gd rL t) (.val (.int k)) z5 z6 z7):=fun k y5 y6 y7 n5 n6 n7=>by
  obtain⟨ρ',e,z5,z6,z7,m5,m6,m7,rfl⟩:=zb5 (f:=fun l:Nat=>PyData.int l) (g:=gN 5) (b:=zaS)
   (fun _ ρ=>∃ z5 z6 z7,Np z5/\Np z6/\Np z7/\ρ=RE c T L (gd rL t) (.val (.int k)) z5 z6 z7) (List.range c.toNat) [] (RE c T L (gd rL t) (.val (.int k)) y5 y6 y7) ⟨_,_,_,n5,n6,n7,rfl⟩ (by
    rintro pre l post ρ _ ⟨z5,z6,z7,m5,m6,m7,rfl⟩
    obtain⟨x6,x7,k6,k7,e⟩:=zqR (k:=(k:Int)) (l:=(l:Int)) (n:=(c+1).toNat) (L:=L) h p hb (by omega) c0 c6 z6 z7 m6 m7
    rw [hT] at e
    have g1:gN 5 (.int l) (RE c T L (gd rL t) (.val (.int k)) z5 z6 z7)=.ok (RE c T L (gd rL t) (.val (.int k)) (.val (.int l)) z6 z7):=ze7 rfl m5
    exact⟨_,.nx,zoM g1 e,.inl rfl,_,_,_,zaK _,k6,k7,rfl⟩)
  refine⟨z5,z6,z7,m5,m6,m7,?_⟩
  unfold zaQ zdJ
  rw [zux c0 c6 rfl,zac]
  exact e
 obtain⟨ρ',e,z4,z5,z6,z7,m4,m5,m6,m7,rfl⟩:=zb5 (f:=fun l:Nat=>PyData.int l) (g:=gN 4) (b:=zaR)
  (fun _ ρ=>∃ z4 z5 z6 z7,Np z4/\Np z5/\Np z6/\Np z7/\ρ=RE c T L (gd rL t) z4 z5 z6 z7) (List.range c.toNat) [] (RE c T L (gd rL t) .no .no .no .no) ⟨_,_,_,_,zbD,zbD,zbD,zbD,rfl⟩ (by
   rintro pre k post ρ _ ⟨z4,z5,z6,z7,m4,m5,m6,m7,rfl⟩
   obtain⟨x5,x6,x7,k5,k6,k7,e⟩:=inner k z5 z6 z7 m5 m6 m7
   have g1:gN 4 (.int k) (RE c T L (gd rL t) z4 z5 z6 z7)=.ok (RE c T L (gd rL t) (.val (.int k)) z5 z6 z7):=ze7 rfl m4
   exact⟨_,.nx,zoM (u:=zaR) g1 e,.inl rfl,_,_,_,_,zaK _,k5,k6,k7,rfl⟩)
 have s2:zaP (RE c T L (gd rL t) .no .no .no .no)=.ok (.nx,RE c T L (gd rL t) z4 z5 z6 z7):=by
  unfold zaP zdJ
  rw [zux c0 c6 rfl,zac]
  exact e
 show((za9 [.ob "Table" [.int c,T],.val (.int c),.val L,.no,.no,.no,.no,.no]).bind _)=_
 unfold za9
 rw [zah s1,zah s2]
 rfl
end
section
theorem zfv{s t:SF}{ρ ρ1:En}{d:D}(h:s ρ=.ok (.rt d,ρ1)):zav s t ρ=.ok (.rt d,ρ1):=by
 unfold zav
 rw [h];rfl
theorem zgd{t:TF}{a b:SF}{ρ ρ1:En}(h:t ρ=.ok (true,ρ1)):sIf t a b ρ=a ρ1:=by
 unfold sIf
 rw [h];rfl
theorem zhZ{t:TF}{a b:SF}{ρ ρ1:En}(h:t ρ=.ok (false,ρ1)):sIf t a b ρ=b ρ1:=by
 unfold sIf
 rw [h];rfl
abbrev NE(d:D)(w:Int):En:=[.ow true d,.val (.int w)]
theorem zhk{k:Nat}{d:D}{w m1 o1:Int}{E1 E2 E5:EF}(hp:za1 k d)(hk:k<=50000)(h1:∀ d,E1 (NE d w)=.ok (.int m1,NE d w))(h2:∀ d,E2 (NE d w)=.ok (.int o1,NE d w))(h5:∀ d,za1 (k+1) d->∃ b d',E5 (NE d w)=.ok (.int b,NE d' w)/\1<=b/\b.natAbs<2^70/\za1 (k+2) d')
  (m0:1<=m1)(hm:Bd m1 70)(o0:0<=o1)(om:o1<=m1):∃ r d',zaj zbC (zab (e2 zdY (zaq zaf [.m 0,.v E1]) E2) (zab E5 zam)) (NE d w)=.ok (num r,NE d' w)/\QR.Bd 70 r/\za1 (k+2) d':=by
 obtain⟨g,d1,t1,g0,g1,p1⟩:=zgV hp (by omega) m1 m0 hm (by decide)
 have c1:zaq zaf [.m 0,.v E1] (NE d w)=.ok (.int g,NE d1 w):=zcv (p:=true) (d:=d) rfl (h1 d) t1
 obtain⟨b,d2,e5,b1,b2,p2⟩:=h5 d1 p1
 have hb:b.toNat≠0:=by omega
 have bn:b.natAbs=b.toNat:=by omega
 rw [bn] at b2
 have hl:=zur (g-o1) (b:=b.toNat) (n:=70) hb b2 (by decide)
 rw [Int.toNat_of_nonneg (show 0<=b by omega)] at hl
 refine⟨Rat.normalize (g-o1) b.toNat hb,d2,?_,?_,p2⟩
 ·have sb:zdY (.int g) (.int o1)=.ok (.int (g-o1)):=rfl
  simp only [zaj,zab,zam,FL.e2,c1,h2,e5,zac,sb,hl]
 ·have h1:=QR.norm (t:=g-o1) hb
  have h2:=QR.zrb (g-o1) (b.toNat:Int)
  rw [h1] at h2
  have mm:=hm.h
  have ab:(g-o1).natAbs<=m1.natAbs:=by omega
  have bb:((b.toNat:Nat):Int).natAbs=b.toNat:=by omega
  exact⟨Nat.lt_of_le_of_lt h2.1 (Nat.lt_of_le_of_lt ab mm),Nat.lt_of_le_of_lt (by have:=h2.2;omega) b2⟩
def p19:Int:=10000000000000000000
def zva:Int:=20000000000000000001
theorem zu8:zdy (.int 10) (.int 19)=.ok (.int p19):=rfl
theorem zvY:zca (.int 2) (.int p19)=.ok (.int (2*p19)):=zbw (n:=16) (m:=70) (zas (by decide)) ⟨by decide⟩ (by decide)
theorem zwa:zaG (.int (2*p19)) (.int 1)=.ok (.int zva):=rfl
theorem zkp{k:Nat}{w m2 f:Int}{E3 E4:EF}(hk:k<=50000)(h3:∀ d,E3 (NE d w)=.ok (.int m2,NE d w))(h4:∀ d,E4 (NE d w)=.ok (.int f,NE d w))(m0:1<=m2)(m1:m2<=60000)(f0:0<=f)(f1:f<=1)(d:D)(hp:za1 (k+1) d) :
  ∃ b d',e2 zaG (eC (.int 1)) (e2 zca (zaq zaf [.m 0,.v E3]) E4) (NE d w)=.ok (.int b,NE d' w)/\1<=b/\b.natAbs<2^70/\za1 (k+2) d':=by
 obtain⟨g,d1,t1,g0,g1,p1⟩:=zgV hp (by omega) m2 m0 (zas (by omega)) (by decide)
 have c1:zaq zaf [.m 0,.v E3] (NE d w)=.ok (.int g,NE d1 w):=zcv (p:=true) (d:=d) rfl (h3 d) t1
 have ml:zca (.int g) (.int f)=.ok (.int (g*f)):=zbw (zas (by omega)) (zas (by omega)) (by decide)
 have ad:zaG (.int 1) (.int (g*f))=.ok (.int (1+g*f)):=rfl
 have gf:0<=g*f/\g*f<=g:=by
  have c:f=0\/f=1:=by omega
  rcases c with rfl|rfl
  ·rw [Int.mul_zero];omega
  ·rw [Int.mul_one];omega
 refine⟨1+g*f,d1,?_,by omega,?_,p1⟩
 ·simp only [FL.e2,eC,c1,h4,zac,ml,ad]
 ·exact Nat.lt_of_lt_of_le (show _<65536 by omega) (by decide)
theorem zl6{k:Nat}{d:D}(h:za1 k d)(hk:k<=50000-10):∃(r:Rat) (d':D),zba [d]=.ok (num r,[d'])/\QR.Bd 70 r/\za1 (k+3) d':=by
 obtain⟨w,d1,t1,w0,w8,p1⟩:=zgV h (by omega) 8 (by decide) (zas (by decide)) (by decide)
 have s1:zaZ (gN 1) (zaq zaf [.m 0,.v (eC (.int 8))]) [.ow true d,.no]=.ok (.nx,NE d1 w):=zfu (y:=(.int w,[.ow true d1,.no])) (zcv (p:=true) (d:=d) rfl rfl t1) rfl zbD
 have fin:∀{r:Rat} {d':D},zcl [.ow true d,.no]=.ok (.rt (num r),NE d' w)->zba [d]=.ok (num r,[d']):=fun{r d'} e=>by
  show((zcl [.ow true d,.no]).bind _)=_
  rw [e];rfl
 have tt:∀(m:Int) (d:D),tB (e2 ltD (eV 1) (eC (.int m))) (NE d w)=.ok (decide (w<m),NE d w):=fun _ _=>rfl
 by_cases c1:w<3
 ·have c:w=0\/w=1\/w=2:=by omega
  have t3:=tt 3 d1
  rw [decide_eq_true c1] at t3
  rcases c with rfl|rfl|rfl
  ·exact⟨0,d1,fin ((zah s1).trans (zfv (zgd t3))),⟨by decide,by decide⟩,p1.mono (by omega)⟩
  ·exact⟨1,d1,fin ((zah s1).trans (zfv (zgd t3))),⟨by decide,by decide⟩,p1.mono (by omega)⟩
  ·exact⟨-1,d1,fin ((zah s1).trans (zfv (zgd t3))),⟨by decide,by decide⟩,p1.mono (by omega)⟩
 have n3:sIf (tB (e2 ltD (eV 1) (eC (.int 3)))) (zaH (e2 ixD (zcQ (aCs [.tuple [.int 0,.int 1],.tuple [.int 1,.int 1],.tuple [.int (-1),.int 1]])) (eV 1))) sNx (NE d1 w)=.ok (.nx,NE d1 w):=zhZ (by have:=tt 3 d1;rw [decide_eq_false c1] at this;exact this)
 by_cases c2:w<5
 ·have t5:=tt 5 d1
  rw [decide_eq_true c2] at t5
  obtain⟨r,d',e,rb,p2⟩:=zhk (E1:=eC (.int 19)) (E2:=eC (.int 9)) (E5:=e2 zaG (eC (.int 1)) (e2 zca (zaq zaf [.m 0,.v (eC (.int 5))]) (e2 zdY (eV 1) (eC (.int 3))))) (w:=w) p1 (by omega) (fun _=>rfl) (fun _=>rfl) (zkp (f:=w-3) (by omega) (fun _=>rfl) (fun _=>rfl) (by decide) (by decide) (by omega) (by omega)) (by decide) ((zas (by decide)).mono (by decide)) (by decide) (by decide)
  refine⟨r,d',fin ((zah s1).trans ((zah n3).trans (zfv ((zgd t5).trans ?_)))),rb,p2⟩
  unfold zaH
  rw [e];rfl
 have n5:=zhZ (a:=zaH (zaj zbC (zab (e2 zdY (zaq zaf [.m 0,.v (eC (.int 19))]) (eC (.int 9))) (zab (e2 zaG (eC (.int 1)) (e2 zca (zaq zaf [.m 0,.v (eC (.int 5))]) (e2 zdY (eV 1) (eC (.int 3))))) zam)))) (b:=sNx) (by have:=tt 5 d1;rw [decide_eq_false c2] at this;exact this)
 have b6:∀ d,e2 zaG (e2 zca (eC (.int 2)) (e2 zdy (eC (.int 10)) (eC (.int 6)))) (eC (.int 1)) (NE d w)=.ok (.int 2000001,NE d w):=fun _=>rfl
 have b6':∀ d,e2 zdy (eC (.int 10)) (eC (.int 6)) (NE d w)=.ok (.int 1000000,NE d w):=fun _=>rfl
 have b3:∀ d,e2 zdy (eC (.int 10)) (eC (.int 3)) (NE d w)=.ok (.int 1000,NE d w):=fun _=>rfl
 by_cases c3:w<7
 ·have t7:=tt 7 d1
  rw [decide_eq_true c3] at t7
  obtain⟨r,d',e,rb,p2⟩:=zhk (E5:=e2 zaG (eC (.int 1)) (e2 zca (zaq zaf [.m 0,.v (e2 zdy (eC (.int 10)) (eC (.int 3)))]) (e2 zdY (eV 1) (eC (.int 5))))) (w:=w) p1 (by omega) b6 b6' (zkp (f:=w-5) (by omega) b3 (fun _=>rfl) (by decide) (by decide) (by omega) (by omega)) (by decide) ⟨by decide⟩ (by decide) (by decide)
  refine⟨r,d',fin ((zah s1).trans ((zah n3).trans ((zah n5).trans (zfv ((zgd t7).trans ?_))))),rb,p2⟩
  unfold zaH
  rw [e];rfl
 have n7:=zhZ (a:=zaH (zaj zbC (zab (e2 zdY (zaq zaf [.m 0,.v (e2 zaG (e2 zca (eC (.int 2)) (e2 zdy (eC (.int 10)) (eC (.int 6)))) (eC (.int 1)))]) (e2 zdy (eC (.int 10)) (eC (.int 6)))) (zab (e2 zaG (eC (.int 1)) (e2 zca (zaq zaf [.m 0,.v (e2 zdy (eC (.int 10)) (eC (.int 3)))]) (e2 zdY (eV 1) (eC (.int 5))))) zam)))) (b:=sNx) (by have:=tt 7 d1;rw [decide_eq_false c3] at this;exact this)
 have q1:∀ d,e2 zaG (e2 zca (eC (.int 2)) (e2 zdy (eC (.int 10)) (eC (.int 19)))) (eC (.int 1)) (NE d w)=.ok (.int zva,NE d w):=fun d=>by
  simp only [FL.e2,eC,zac,zu8,zvY,zwa]
 have q2:∀ d,e2 zdy (eC (.int 10)) (eC (.int 19)) (NE d w)=.ok (.int p19,NE d w):=fun d=>by
  simp only [FL.e2,eC,zac,zu8]
 obtain⟨r,d',e,rb,p2⟩:=zhk (E5:=e2 zaG (eC (.int 1)) (zaq zaf [.m 0,.v (e2 zdy (eC (.int 10)) (eC (.int 19)))])) (w:=w) p1 (by omega) q1 q2 (fun d hp=>by
  obtain⟨g,d1,t1,g0,g1,p1⟩:=zgV hp (by omega) p19 (by decide) (show Bd p19 64 from⟨by decide⟩) (by decide)
  have c1:zaq zaf [.m 0,.v (e2 zdy (eC (.int 10)) (eC (.int 19)))] (NE d w)=.ok (.int g,NE d1 w):=zcv (p:=true) (d:=d) rfl (q2 d) t1
  have ad:zaG (.int 1) (.int g)=.ok (.int (1+g)):=rfl
  refine⟨1+g,d1,by simp only [FL.e2,eC,c1,zac,ad],by omega,?_,p1⟩
  have:(1+g).natAbs<=p19.natAbs:=by omega
  exact Nat.lt_of_le_of_lt this (by decide)) (by decide) ⟨by decide⟩ (by decide) (by decide)
 refine⟨r,d',fin ((zah s1).trans ((zah n3).trans ((zah n5).trans ((zah n7).trans ?_)))),rb,p2⟩
 unfold zaH
 rw [e];rfl
end
section
structure Prs(c:Int)(ps:List (List Int)):Prop where
 nd:ps.Nodup
 ky:∀ w∈ps,∃ i j:Int,w=[i,j]/\0<=i/\i<j/\j<c
theorem Prs.perm{c:Int}{ps qs:List (List Int)}(h:Prs c ps)(p:qs.Perm ps):Prs c qs:=⟨p.nodup_iff.mpr h.nd,fun w m=>h.ky w (p.subset m)⟩
theorem Prs.sub{c:Int}{ps qs:List (List Int)}(h:Prs c ps)(p:qs.Sublist ps):Prs c qs:=⟨p.nodup h.nd,fun w m=>h.ky w (p.subset m)⟩
abbrev PE(d:D)(c:Int)(x y3 y4 y5 y6:Sl):En:=[.ow true d,.val (.int c),x,y3,y4,y5,y6]
theorem zl2{d:D}{c:Int}(c0:0<=c)(c6:c<=6):∃ ps y3,Np y3/\Prs c ps/\ps.length<=36/\zg1 2 zbe (PE d c (.ow false (.list [])) .no .no .no .no)=.ok (.nx,PE d c (.val (ltp ps)) y3 .no .no .no):=by
 obtain⟨ρ',e,ps,y3,n3,hp,hc,hl,rfl⟩:=zb5 (f:=fun i:Nat=>PyData.int i) (g:=gN 3) (b:=zbg)
  (fun done ρ=>∃ ps y3,Np y3/\Prs c ps/\(∀ w∈ps,∀ i j:Int,w=[i,j]->i<(done.length:Int))/\ps.length<=6*done.length/\ρ=PE d c (.val (ltp ps)) y3 .no .no .no)
  (List.range c.toNat) [] (PE d c (.val (ltp [])) .no .no .no .no) ⟨[],.no,zbD,⟨List.nodup_nil,fun _ z=>nomatch z⟩,(fun _ z=>nomatch z),Nat.le_refl _,rfl⟩ (by
   rintro pre i post ρ he ⟨ps,y3,n3,hp,hc,hl,rfl⟩
   rw [List.nil_append] at he
   have hi:i=pre.length:=by
    have:=congrArg (fun l=>l[pre.length]?) he
    simp only [List.getElem?_append_right (Nat.le_refl _),Nat.sub_self,zz0] at this
    have hlt:pre.length<c.toNat:=by
     have:=congrArg List.length he
     simp only [List.length_range,List.length_append,List.length_cons] at this
     omega
    rw [List.getElem?_range hlt] at this
    cases this;rfl
   have ic:(i:Int)<c:=by
    have:i∈List.range c.toNat:=by rw [he];simp
    rw [List.mem_range] at this
    omega
   have g1:gN 3 (.int i) (PE d c (.val (ltp ps)) y3 .no .no .no)=.ok (PE d c (.val (ltp ps)) (.val (.int i)) .no .no .no):=ze7 rfl n3
   generalize hqs:(List.range (c-(i+1)).toNat).map (fun j:Nat=>[(i:Int),(i:Int)+1+(j:Int)])=qs
   have ql:qs.length<=6:=by rw [<- hqs,List.length_map,List.length_range];omega
   have q:zbj (PE d c (.val (ltp ps)) (.val (.int i)) .no .no .no)=.ok (ltp qs,PE d c (.val (ltp ps)) (.val (.int i)) .no .no .no):=by
    have ad:zaG (.int i) (.int 1)=.ok (.int ((i:Int)+1)):=rfl
    have r:=zkF (i:=(i:Int)+1) (j:=c) (by omega) (by omega) (by omega) (by omega)
    have it:iR2 (zab (e2 zaG (eV 3) (eC (.int 1))) (zab (eV 1) zam)) (PE d c (.val (ltp ps)) (.val (.int i)) .no .no .no)=.ok ((List.range (c-(i+1)).toNat).map (fun j:Nat=>PyData.int ((i:Int)+1+(j:Int))),PE d c (.val (ltp ps)) (.val (.int i)) .no .no .no):=by
     simp only [PE,iR2,zab,zam,FL.e2,eV,eC,zz1,zz0,zac,ad,r]
     rw [zg2,List.map_map];rfl
    rw [<- hqs]
    unfold zbj ltp
    rw [List.map_map]
    exact zbL (f0:=fun j:Nat=>PyData.int ((i:Int)+1+(j:Int))) (xs:=List.range (c-(i+1)).toNat) _ it (by rw [List.length_range];show _<=1000000;omega) fun j mj=>⟨[.val (.int ((i:Int)+1+(j:Int))),.val (.int i)],rfl,rfl,zbO trivial⟩
   have plen:pre.length<=6:=by
    have:=congrArg List.length he
    simp only [List.length_range,List.length_append,List.length_cons] at this
    omega
   have ad:zaG (ltp ps) (ltp qs)=.ok (ltp (ps++qs)):=by
    show chk (leB ((ps.map tp).length+(qs.map tp).length) lim) (R.ok (PyData.list (ps.map tp++qs.map tp)))=_
    rw [zaN (by rw [List.length_map,List.length_map];exact zcg (Nat.le_trans (show _<=200 by omega) (by decide))),<- List.map_append]
   have b1:zbg (PE d c (.val (ltp ps)) (.val (.int i)) .no .no .no)=.ok (.nx,PE d c (.val (ltp (ps++qs))) (.val (.int i)) .no .no .no):=by
    unfold zbg
    refine zdI (x:=.val (ltp ps)) ?_ rfl (zaK _)
    unfold FL.e2
    show(zbj (PE d c (.val (ltp ps)) (.val (.int i)) .no .no .no)).bind _=_
    rw [q,zac]
    show(zaG (ltp ps) (ltp qs)).bind _=_
    rw [ad];rfl
   have qk:∀ w∈qs,∃ j:Int,w=[(i:Int),j]/\(i:Int)<j/\j<c:=fun w m=>by
    rw [<- hqs] at m
    obtain⟨j,mj,rfl⟩:=List.mem_map.mp m
    rw [List.mem_range] at mj
    exact⟨_,rfl,by omega,by omega⟩
   refine⟨_,.nx,zoM g1 b1,.inl rfl,ps++qs,_,zaK _,⟨?_,fun w m=>?_⟩,fun w m a b e=>?_,by rw [List.length_append,List.length_append,List.length_singleton];omega,rfl⟩
   ·rw [List.nodup_append]
    refine⟨hp.nd,?_,fun a ha b hb z=>?_⟩
    ·rw [<- hqs]
     refine List.pairwise_map.mpr (List.nodup_range.imp fun{a b} ne z=>ne ?_)
     have:=(List.cons.inj (List.cons.inj z).2).1
     omega
    ·subst z
     obtain⟨j,rfl,_⟩:=qk a hb
     have:=hc _ ha _ _ rfl
     omega
   ·rcases List.mem_append.mp m with m|m
    ·exact hp.ky w m
    ·obtain⟨j,rfl,h1,h2⟩:=qk w m
     exact⟨_,j,rfl,by omega,h1,h2⟩
   ·rw [List.length_append,List.length_singleton]
    rcases List.mem_append.mp m with m|m
    ·have:=hc w m a b e;omega
    ·obtain⟨j,rfl,h1,h2⟩:=qk w m
     have:=(List.cons.inj e).1
     omega)
 rw [List.nil_append,List.length_range] at hl
 refine⟨ps,y3,n3,hp,by omega,?_⟩
 show zbe (PE d c (.val (ltp [])) .no .no .no .no)=_
 unfold zbe zdJ
 rw [zux c0 c6 rfl,zac]
 exact e
theorem pick{c w:Int}{x y3:Sl}:∀(us:List (List Int)) (acc:List D) (k:Nat) (d:D),za1 k d->k+us.length<=50000->acc.length+us.length<=100 ->
  ∃ vs d',zcx 1 [0,4] (gN 0) (FL.tOr (tB (e2 eqD (eV 2) (eC (.int 3)))) (tB (e2 eqD (zaq zaf [.m 1,.v (eC (.int 2))]) (eC (.int 0))))) (eV 0) (us.map tp) (PE d c x y3 (.val (.int w)) .no .no) acc=.ok (acc++vs.map tp,PE d' c x y3 (.val (.int w)) .no .no)/\List.Sublist vs us/\za1 (k+us.length) d'
 | [],acc,k,d,hp,_,_=>⟨[],d,by simp [zcx],.refl _,hp⟩
 | u::us,acc,k,d,hp,hk,ha=>by
  rw [List.length_cons] at hk ha
  have g1:gN 0 (tp u) (blk 1 [0,4] (PE d c x y3 (.val (.int w)) .no .no))=.ok [.val (tp u),.ow true d,.val (.int w)]:=rfl
  have key:∃(b:Bool) (d1:D),(FL.tOr (tB (e2 eqD (eV 2) (eC (.int 3)))) (tB (e2 eqD (zaq zaf [.m 1,.v (eC (.int 2))]) (eC (.int 0))))) [.val (tp u),.ow true d,.val (.int w)]=.ok (b,[.val (tp u),.ow true d1,.val (.int w)])/\za1 (k+1) d1:=by
   have t1:tB (e2 eqD (eV 2) (eC (.int 3))) [.val (tp u),.ow true d,.val (.int w)]=.ok (decide (w=3),[.val (tp u),.ow true d,.val (.int w)]):=by
    simp only [tB,FL.e2,eV,eC,zz1,zz0,zac,zdP]
   by_cases z:w=3
   ·refine⟨true,d,?_,hp.mono (by omega)⟩
    unfold FL.tOr
    rw [t1,zac,decide_eq_true z];rfl
   ·obtain⟨g,d1,tk,g0,g1,p1⟩:=zgV hp (by omega) 2 (by decide) (zas (by decide)) (by decide)
    have cm:zaq zaf [.m 1,.v (eC (.int 2))] [.val (tp u),.ow true d,.val (.int w)]=.ok (.int g,[.val (tp u),.ow true d1,.val (.int w)]):=zcv (i:=1) (p:=true) (d:=d) rfl rfl tk
    refine⟨decide (g=0),d1,?_,p1⟩
    unfold FL.tOr
    rw [t1,zac,decide_eq_false z,if_neg (by simp)]
    simp only [tB,FL.e2,cm,eC,zac,zdP]
  obtain⟨b,d1,tb,p1⟩:=key
  have bk:back (PE d c x y3 (.val (.int w)) .no .no) [0,4] (([.val (tp u),.ow true d1,.val (.int w)]:En).drop 1)=PE d1 c x y3 (.val (.int w)) .no .no:=by
   cases x <;> cases y3 <;> rfl
  rw [List.map_cons]
  unfold zcx
  rw [g1,zac,tb,zac]
  cases b with
  | true =>
   obtain⟨vs,d',e,sb,p2⟩:=pick (c:=c) (w:=w) (x:=x) (y3:=y3) us (acc++[tp u]) (k+1) d1 p1 (by omega) (by simp;omega)
   refine⟨u::vs,d',?_,sb.cons₂ u,by rw [List.length_cons,show k+(us.length+1)=k+1+us.length by omega];exact p2⟩
   rw [if_pos rfl]
   show(chk (leB (acc.length+1) lim) (zcx 1 [0,4] _ _ _ _ (back (PE d c x y3 (.val (.int w)) .no .no) [0,4] (([.val (tp u),.ow true d1,.val (.int w)]:En).drop 1)) _))=_
   rw [zaN (zcg (Nat.le_trans (show _<=200 by omega) (by decide))),bk,e]
   simp
  | false =>
   obtain⟨vs,d',e,sb,p2⟩:=pick (c:=c) (w:=w) (x:=x) (y3:=y3) us acc (k+1) d1 p1 (by omega) (by omega)
   refine⟨vs,d',?_,sb.cons u,by rw [List.length_cons,show k+(us.length+1)=k+1+us.length by omega];exact p2⟩
   rw [if_neg (by simp),bk,e]
theorem ends{α:Type}{l:List α}(h:1<l.length):∃ a m b,l=a::(m++[b]):=by
 cases l with
 | nil=>simp at h
 | cons a r =>
  have hr:r≠[]:=fun z=>by subst z;simp at h
  exact⟨a,r.dropLast,r.getLast hr,by rw [List.dropLast_concat_getLast hr]⟩
theorem zpR{d:D}{c:Int}{y3 y4 y5 y6:Sl}{a b:List Int}{m:List (List Int)} :
  zci 2 (ztv 2 (za5 (zab (m2 ixD 2 (e1 zhf (eC (.int 1)))) (zab (m2 ixD 2 (eC (.int 0))) zam))) (eC (.int 0)) (e1 zhf (eC (.int 1)))) (PE d c (.ow false (ltp (a::(m++[b])))) y3 y4 y5 y6)=.ok (.nx,PE d c (.val (ltp (b::(m++[a])))) y3 y4 y5 y6):=by
 have nn:∀ l:List D,l.length=m.length+2->ixN l.length (-1)=some (m.length+1):=fun l hl=>by
  unfold ixN
  rw [if_neg (by omega),if_pos (by omega),hl]
  congr 1
  omega
 have n0:∀ l:List D,l.length=m.length+2->ixN l.length 0=some 0:=fun l hl=>by
  unfold ixN
  rw [if_pos (by omega),if_pos (by omega)];rfl
 have e1':ltp (a::(m++[b]))=.list (tp a::(m.map tp++[tp b])):=by unfold ltp;simp
 have e2':ltp (b::(m++[a]))=.list (tp b::(m.map tp++[tp a])):=by unfold ltp;simp
 rw [e1',e2']
 generalize hM:m.map tp=M
 have ml:M.length=m.length:=by rw [<- hM];simp
 have x1:ixD (.list (tp a::(M++[tp b]))) (.int (-1))=.ok (tp b):=by
  show R.of (atI _ _)=_
  unfold atI
  rw [nn _ (by simp [ml])]
  show R.of ((tp a::(M++[tp b]))[m.length+1]?)=_
  rw [zz1,List.getElem?_append_right (by omega),ml,Nat.sub_self];rfl
 have x0:ixD (.list (tp a::(M++[tp b]))) (.int 0)=.ok (tp a):=by
  show R.of (atI _ _)=_
  unfold atI
  rw [n0 _ (by simp [ml])];rfl
 have ng:zhf (.int 1)=.ok (.int (-1)):=rfl
 have l2:leB 2 lim=true:=by decide
 have st:(tp b::(M++[tp b])).set (m.length+1) (tp a)=tp b::(M++[tp a]):=by
  rw [List.set_cons_succ,List.set_append_right _ _ (by omega),ml,Nat.sub_self];rfl
 have f:za5 (zab (m2 ixD 2 (e1 zhf (eC (.int 1)))) (zab (m2 ixD 2 (eC (.int 0))) zam)) (PE d c (.ow false (.list (tp a::(M++[tp b])))) y3 y4 y5 y6)=.ok (.tuple [tp b,tp a],PE d c (.ow false (.list (tp a::(M++[tp b])))) y3 y4 y5 y6):=by
  simp only [PE,za5,zab,zam,m2,zax,FL.e1,eC,zz1,zz0,zac,ng,x1,x0,chk,l2,if_true,List.length_cons,List.length_nil,Nat.reduceAdd]
 have m1:setM 2 (eC (tp b)) (eC (.int 0)) (PE d c (.ow false (.list (tp a::(M++[tp b])))) y3 y4 y5 y6)=.ok (.nx,PE d c (.ow false (.list (tp b::(M++[tp b])))) y3 y4 y5 y6):=by
  have:=n0 (tp a::(M++[tp b])) (by simp [ml])
  generalize hZ:tp a::(M++[tp b])=Z at this
  simp only [PE,setM,eC,zbE,zz1,zz0,zac,this,R.of,zay,List.set_cons_succ,List.set_cons_zero]
  rw [<- hZ];rfl
 have m2':setM 2 (eC (tp a)) (e1 zhf (eC (.int 1))) (PE d c (.ow false (.list (tp b::(M++[tp b])))) y3 y4 y5 y6)=.ok (.nx,PE d c (.ow false (.list (tp b::(M++[tp a])))) y3 y4 y5 y6):=by
  have:=nn (tp b::(M++[tp b])) (by simp [ml])
  generalize hZ:tp b::(M++[tp b])=Z at this st
  simp only [PE,setM,eC,FL.e1,ng,zbE,zz1,zz0,zac,this,R.of,zay,List.set_cons_succ,List.set_cons_zero,st]
 unfold zci ztv
 rw [f,zac]
 dsimp only
 rw [m1,zac,m2',zac];rfl
theorem zpM{k:Nat}{d:D}{c:Int}{ps:List (List Int)}{y3 y4 y5 y6:Sl}(hp:za1 k d)(hk:k<=50000)(h:Prs c ps)(hl:ps.length<=100)(n6:Np y6) :
  ∃ qs d' z6,Np z6/\Prs c qs/\qs.length=ps.length/\za1 (k+1) d'/\zbf (PE d c (.val (ltp ps)) y3 y4 y5 y6)=.ok (.nx,PE d' c (.val (ltp qs)) y3 y4 y5 z6):=by
 have ln:zez (ltp ps)=.ok (.int (ps.length:Int)):=by
  show R.ok (PyData.int ((ps.map tp).length:Int))=_
  rw [List.length_map]
 have tt:tB (e2 gtD (e1 zez (eV 2)) (eC (.int 1))) (PE d c (.val (ltp ps)) y3 y4 y5 y6)=.ok (decide (1<(ps.length:Int)),PE d c (.val (ltp ps)) y3 y4 y5 y6):=by
  generalize ltp ps=Z at ln
  simp only [PE,tB,FL.e1,FL.e2,eV,eC,zz1,zz0,zac,ln,zq2]
 unfold zbf
 by_cases z:1<(ps.length:Int)
 ·rw [decide_eq_true z] at tt
  rw [zgd tt]
  obtain⟨g,d1,tk,g0,g1,p1⟩:=zgV hp (by omega) (ps.length:Int) (by omega) (zas (by omega)) (by decide)
  have cm:zaq zaf [.m 0,.v (e1 zez (eV 2))] (PE d c (.val (ltp ps)) y3 y4 y5 y6)=.ok (.int g,PE d1 c (.val (ltp ps)) y3 y4 y5 y6):=zcv (p:=true) (d:=d) rfl (by
   generalize ltp ps=Z at ln
   simp only [PE,FL.e1,eV,zz1,zz0,zac,ln]) tk
  have s1:zaZ (gN 6) (zaq zaf [.m 0,.v (e1 zez (eV 2))]) (PE d c (.val (ltp ps)) y3 y4 y5 y6)=.ok (.nx,PE d1 c (.val (ltp ps)) y3 y4 y5 (.val (.int g))):=zfu (y:=(.int g,PE d1 c (.val (ltp ps)) y3 y4 y5 y6)) cm rfl n6
  have hg:((g.toNat:Nat):Int)=g:=Int.toNat_of_nonneg g0
  have c1:zcf (ltp ps) (some g) none=.ok (ltp (ps.drop g.toNat)):=by
   show R.ok (PyData.list (cut (ps.map tp) (some g) none))=_
   rw [zi9,<- hg,zoD _ _ (by omega)];rfl
  have c2:zcf (ltp ps) none (some g)=.ok (ltp (ps.take g.toNat)):=by
   show R.ok (PyData.list (cut (ps.map tp) none (some g)))=_
   rw [zi9,<- hg,zpw];rfl
  generalize hrs:ps.drop g.toNat++ps.take g.toNat=rs
  have pm:rs.Perm ps:=by
   rw [<- hrs]
   exact List.perm_append_comm.trans (by rw [List.take_append_drop])
  have rl:=pm.length_eq
  have ad:zpC (ltp (ps.drop g.toNat)) (ltp (ps.take g.toNat))=.ok (ltp rs):=by
   show chk (leB (((ps.drop g.toNat).map tp).length+((ps.take g.toNat).map tp).length) lim) (R.ok (PyData.list ((ps.drop g.toNat).map tp++(ps.take g.toNat).map tp)))=_
   rw [<- List.map_append,hrs,zaN]
   rw [List.length_map,List.length_map,<- List.length_append,hrs]
   exact zcg (Nat.le_trans (show _<=200 by omega) (by decide))
  have s2:zcH 2 (e2 zpC (eSl (eV 2) (zcq (eV 6)) zcr) (eSl (eV 2) zcr (zcq (eV 6)))) (PE d1 c (.val (ltp ps)) y3 y4 y5 (.val (.int g)))=.ok (.nx,PE d1 c (.ow false (ltp rs)) y3 y4 y5 (.val (.int g))):=by
   refine zc6 (y:=(ltp rs,PE d1 c (.val (ltp ps)) y3 y4 y5 (.val (.int g)))) (x:=.val (ltp ps)) ?_ rfl (zaK _)
   generalize ltp ps=Z at c1 c2
   simp only [PE,FL.e2,eSl,eV,zcq,zcr,zz1,zz0,zac,c1,c2,ad]
  obtain⟨a,m,b,er⟩:=ends (l:=rs) (by omega)
  have s3:=zpR (d:=d1) (c:=c) (y3:=y3) (y4:=y4) (y5:=y5) (y6:=.val (.int g)) (a:=a) (b:=b) (m:=m)
  rw [<- er] at s3
  have pm2:(b::(m++[a])).Perm rs:=by
   rw [er]
   have h1:(b::(m++[a])).Perm (b::a::m):=(List.perm_append_singleton a m).cons b
   have h2:(a::(m++[b])).Perm (a::b::m):=(List.perm_append_singleton b m).cons a
   exact h1.trans ((List.Perm.swap a b m).trans h2.symm)
  exact⟨b::(m++[a]),d1,.val (.int g),zaK _,h.perm (pm2.trans pm),by rw [pm2.length_eq,rl],p1,(zah s1).trans ((zah s2).trans s3)⟩
 ·rw [decide_eq_false z] at tt
  rw [zhZ tt]
  exact⟨ps,d,y6,n6,h,rfl,hp.mono (by omega),rfl⟩
theorem zif{k:Nat}{d:D}{c:Int}(hp:za1 k d)(hk:k<=40000)(c0:0<=c)(c6:c<=6):∃ ps d',zcE [d,.int c]=.ok (ltp ps,[d',.int c])/\Prs c ps/\ps.length<=36/\za1 (k+40) d':=by
 obtain⟨ps,y3,n3,h1,l1,s2⟩:=zl2 (d:=d) c0 c6
 have s1:zcH 2 (zcQ zam) (PE d c .no .no .no .no .no)=.ok (.nx,PE d c (.ow false (.list [])) .no .no .no .no):=rfl
 obtain⟨w,d1,tk,w0,w4,p1⟩:=zgV hp (by omega) 4 (by decide) (zas (by decide)) (by decide)
 have s3:zaZ (gN 4) (zaq zaf [.m 0,.v (eC (.int 4))]) (PE d c (.val (ltp ps)) y3 .no .no .no)=.ok (.nx,PE d1 c (.val (ltp ps)) y3 (.val (.int w)) .no .no):=zfu (y:=(.int w,PE d1 c (.val (ltp ps)) y3 .no .no .no)) (zcv (p:=true) (d:=d) rfl rfl tk) rfl zbD
 have h4:∃ qs d2,Prs c qs/\qs.length<=36/\za1 (k+37) d2/\sIf (tB (e2 gtD (eV 4) (eC (.int 0)))) (zci 2 (zcH 2 zbi)) sNx (PE d1 c (.val (ltp ps)) y3 (.val (.int w)) .no .no)=.ok (.nx,PE d2 c (.val (ltp qs)) y3 (.val (.int w)) .no .no):=by
  have tt:tB (e2 gtD (eV 4) (eC (.int 0))) (PE d1 c (.val (ltp ps)) y3 (.val (.int w)) .no .no)=.ok (decide (0<w),PE d1 c (.val (ltp ps)) y3 (.val (.int w)) .no .no):=rfl
  by_cases z:0<w
  ·rw [decide_eq_true z] at tt
   obtain⟨vs,d2,e,sb,p2⟩:=pick (c:=c) (w:=w) (x:=.val (ltp ps)) (y3:=y3) ps [] (k+1) d1 p1 (by omega) (by simp;omega)
   have q:zbi (PE d1 c (.val (ltp ps)) y3 (.val (.int w)) .no .no)=.ok (ltp vs,PE d2 c (.val (ltp ps)) y3 (.val (.int w)) .no .no):=by
    unfold zbi zbd
    rw [show iE (eV 2) (PE d1 c (.val (ltp ps)) y3 (.val (.int w)) .no .no)=.ok (ps.map tp,PE d1 c (.val (ltp ps)) y3 (.val (.int w)) .no .no) from rfl,zac,e];rfl
   have sl:=sb.length_le
   refine⟨vs,d2,h1.sub sb,by omega,p2.mono (by omega),?_⟩
   rw [zgd tt]
   unfold zci
   rw [zc6 (x:=.val (ltp ps)) q rfl (zaK _),zac];rfl
  ·rw [decide_eq_false z] at tt
   exact⟨ps,d1,h1,l1,p1.mono (by omega),by rw [zhZ tt];rfl⟩
 obtain⟨qs,d2,h2,l2,p2,s4⟩:=h4
 obtain⟨ρ',e,rs,d3,y5,y6,n5,n6,h3,l3,p3,rfl⟩:=zb5 (f:=fun i:Nat=>PyData.int i) (g:=gN 5) (b:=zbf)
  (fun done ρ=>∃ rs d3 y5 y6,Np y5/\Np y6/\Prs c rs/\rs.length<=36/\za1 (k+37+done.length) d3/\ρ=PE d3 c (.val (ltp rs)) y3 (.val (.int w)) y5 y6)
  (List.range 3) [] (PE d2 c (.val (ltp qs)) y3 (.val (.int w)) .no .no) ⟨qs,d2,.no,.no,zbD,zbD,h2,l2,p2,rfl⟩ (by
   rintro pre i post ρ he ⟨rs,d3,y5,y6,n5,n6,h3,l3,p3,rfl⟩
   have el:pre.length<=3:=by
    have:=congrArg List.length he
    simp only [List.nil_append,List.length_range,List.length_append,List.length_cons] at this
    omega
   have g1:gN 5 (.int i) (PE d3 c (.val (ltp rs)) y3 (.val (.int w)) y5 y6)=.ok (PE d3 c (.val (ltp rs)) y3 (.val (.int w)) (.val (.int i)) y6):=ze7 rfl n5
   obtain⟨us,d4,z6,m6,h4,l4,p4,e4⟩:=zpM (y3:=y3) (y4:=.val (.int w)) (y5:=.val (.int i)) (y6:=y6) p3 (by omega) h3 (by omega) n6
   exact⟨_,.nx,zoM g1 e4,.inl rfl,us,d4,_,_,zaK _,m6,h4,by omega,by rw [List.length_append,List.length_singleton];exact p4,rfl⟩)
 rw [List.nil_append,List.length_range] at p3
 have s5:zb1 (PE d2 c (.val (ltp qs)) y3 (.val (.int w)) .no .no)=.ok (.nx,PE d3 c (.val (ltp rs)) y3 (.val (.int w)) y5 y6):=by
  unfold zb1 zdJ
  exact e
 refine⟨rs,d3,?_,h3,l3,p3⟩
 show((zcA (PE d c .no .no .no .no .no)).bind _)=_
 unfold zcA
 rw [zah s1,zah s2,zah s3,zah s4,zah s5]
 rfl
end
section
theorem zm0{d d':D}{p p':Bool}:∀(ρ:En) (n i:Nat),ρ[i]?=some (.ow p d)->bkL [(n+i,.ow p' d')] n ρ=ρ.set i (.ow p d')
 | [],n,i,h=>by simp at h
 | x::r,n,0,h=>by
  simp only [zz0,Option.some.injEq] at h
  subst h
  unfold bkL
  rw [List.set_cons_zero]
  congr 1
  ·simp [bk1,List.lookup_cons]
  ·refine zjv r (n+1) (by omega)
 | x::r,n,i+1,h=>by
  unfold bkL
  rw [List.set_cons_succ,show n+(i+1)=(n+1)+i by omega,zm0 r (n+1) i (by simpa using h)]
  congr 1
  refine zm2 ?_
  rw [List.lookup_cons]
  have:(n==n+1+i)=false:=by simp;omega
  rw [this]
  rfl
theorem zoB{ρ:En}{ip:Nat}{p:Bool}{d:D}{k:Nat}{it:IF}{items:List D}(hi:ρ[ip]?=some (.ow p d))(hp:za1 k d)(hit:it ρ=.ok (items,ρ))(hl:items.length<=100)(hk:k+3*items.length<=40000) :
  ∃(xs:List Rat) (d':D),zbd 1 [ip] it (gN 0) zbG (zaq zba [.m 1]) ρ=.ok (rL xs,ρ.set ip (.ow p d'))/\xs.length=items.length/\(∀ r∈xs,QR.Bd 70 r)/\za1 (k+3*items.length) d':=by
 obtain⟨acc,ρ',ec,el,xs,d',rfl,hx,hp',rfl⟩:=ziy (k:=1) (ix:=[ip]) (g:=gN 0) (t:=zbG) (f:=zaq zba [.m 1])
  (fun i acc ρ'=>∃(xs:List Rat) (d':D),acc=xs.map num/\(∀ r∈xs,QR.Bd 70 r)/\za1 (k+3*i) d'/\ρ'=ρ.set ip (.ow p d')) items 0 [] ρ (by show 0+_<=1000000;omega) rfl ⟨[],d,rfl,by simp,hp,(set_same hi).symm⟩ (by
   rintro x hx i acc ρ' hi' ⟨xs,d1,rfl,hxs,hp1,rfl⟩
   obtain⟨r,d2,en,rb,hp2⟩:=zl6 hp1 (by omega)
   have g1:(ρ.set ip (.ow p d1))[ip]?=some (.ow p d1):=by
    rw [List.getElem?_set_self]
    exact(List.getElem?_eq_some_iff.mp hi).1
   have eb:blk 1 [ip] (ρ.set ip (.ow p d1))=[.no,.ow p d1]:=by
    unfold blk
    rw [List.map_cons,List.map_nil,g1]
    rfl
   refine⟨[.val x,.ow p d1],num r,[.val x,.ow p d2],by rw [eb];rfl,rfl,zrm (i:=1) rfl en,xs++[r],d2,by simp,fun z hz=>?_,by rw [show k+3*(i+1)=k+3*i+3 by omega];exact hp2,?_⟩
   ·rcases List.mem_append.mp hz with hz|hz
    ·exact hxs z hz
    ·rw [List.mem_singleton.mp hz];exact rb
   ·show bkL [(ip,.ow p d2)] 0 (ρ.set ip (.ow p d1))=_
    have:=zm0 (d':=d2) (p':=p) (ρ.set ip (.ow p d1)) 0 ip g1
    rw [Nat.zero_add] at this
    rw [this,List.set_set])
 refine⟨xs,d',?_,by simpa using el,hx,by simpa using hp'⟩
 unfold zbd
 rw [hit,zac,ec]
 rfl
structure Row(n:Nat)(xs:List Rat):Prop where
 l:xs.length=n
 b:∀ x∈xs,QR.Bd 70 x
abbrev WE(S:D)(a:Int)(d:D)(c:Int)(y4 y5 y6 y7 y8 y9 y10:Sl):En:=[.val S,.val (.int a),.ow false d,.val (.int c),y4,y5,y6,y7,y8,y9,y10]
section
variable {S:D}{a c:Int}{y4 y5 y6 y7 y8 y9 y10:Sl}{n k:Nat}{d:D}
theorem it3{ρ:En}(hn:(n:Int)=c+1)(c6:c<=6)(h:ρ[3]?=some (.val (.int c))):iR1 (zab (e2 zaG (eV 3) (eC (.int 1))) zam) ρ=.ok (rng 0 (c+1),ρ):=by
 have ad:zaG (.int c) (.int 1)=.ok (.int (c+1)):=rfl
 have ev:eV 3 ρ=.ok (.int c,ρ):=by unfold eV;rw [h]
 have r:=zdo (j:=c+1) (by omega) (by omega)
 simp only [iR1,zab,zam,FL.e2,ev,eC,zac,ad,r]
theorem zrL(hp:za1 k d)(hk:k<=50000):∃(b:Bool) (d':D),tB (e2 eqD (zaq zaf [.m 2,.v (eC (.int 4))]) (eC (.int 0))) (WE S a d c y4 y5 y6 y7 y8 y9 y10)=.ok (b,WE S a d' c y4 y5 y6 y7 y8 y9 y10)/\za1 (k+1) d':=by
 obtain⟨g,d1,tk,g0,g1,p1⟩:=zgV hp (by omega) 4 (by decide) (zas (by decide)) (by decide)
 have cm:zaq zaf [.m 2,.v (eC (.int 4))] (WE S a d c y4 y5 y6 y7 y8 y9 y10)=.ok (.int g,WE S a d1 c y4 y5 y6 y7 y8 y9 y10):=zcv (i:=2) (p:=false) (d:=d) rfl rfl tk
 refine⟨decide (g=0),d1,?_,p1⟩
 simp only [tB,FL.e2,cm,eC,zac,zdP]
theorem zvF{xs:List Rat}(h:Row n xs)(hn:(n:Int)=c+1)(c0:0<=c)(c6:c<=6):∃ zs,Row n zs/\zcH 7 (e2 zpC zfy (mSl 7 (zcq (e1 zhf (eC (.int 1)))) zcr)) (WE S a d c y4 y5 y6 (.ow false (rL xs)) y8 y9 y10)=.ok (.nx,WE S a d c y4 y5 y6 (.ow false (rL zs)) y8 y9 y10):=by
 have hl:=h.l
 have q:zfy (WE S a d c y4 y5 y6 (.ow false (rL xs)) y8 y9 y10)=.ok (rL (zer c.toNat),WE S a d c y4 y5 y6 (.ow false (rL xs)) y8 y9 y10):=by
  have it:iR1 (zab (eV 3) zam) (WE S a d c y4 y5 y6 (.ow false (rL xs)) y8 y9 y10)=.ok ((List.range c.toNat).map (fun i:Nat=>PyData.int i),WE S a d c y4 y5 y6 (.ow false (rL xs)) y8 y9 y10):=by
   have r:=zdo (j:=c) (by omega) (by omega)
   simp only [WE,iR1,zab,zam,eV,zz1,zz0,zac,r]
   rw [zg2,List.map_map,show(c-0).toNat=c.toNat by omega]
   simp
  have e:rL (zer c.toNat)=.list ((List.range c.toNat).map fun _=>num 0):=by
   unfold rL zer
   rw [List.map_replicate]
   simp [List.map_const']
  rw [e]
  exact zbL (f0:=fun i:Nat=>.int i) (xs:=List.range c.toNat) (fun _=>num 0) it (by rw [List.length_range];show _<=1000000;omega) fun p mp=>⟨[.val (.int p)],rfl,rfl,zbO trivial⟩
 have sl:zcf (rL xs) (some (-1)) none=.ok (rL (xs.drop c.toNat)):=by
  show R.ok (PyData.list (cut (xs.map num) (some (-1)) none))=_
  rw [zi9]
  have:cut xs (some (-1)) none=xs.drop c.toNat:=by
   unfold cut sIx
   simp only
   rw [if_pos (by omega),show(-1+(xs.length:Int)).toNat=c.toNat by omega,List.take_of_length_le (by simp)]
  rw [this];rfl
 have ad:zpC (rL (zer c.toNat)) (rL (xs.drop c.toNat))=.ok (rL (zer c.toNat++xs.drop c.toNat)):=by
  show chk (leB (((zer c.toNat).map num).length+((xs.drop c.toNat).map num).length) lim) (R.ok (PyData.list ((zer c.toNat).map num++(xs.drop c.toNat).map num)))=_
  rw [<- List.map_append,zaN]
  ·rfl
  ·rw [List.length_map,List.length_map,List.length_drop]
   unfold zer
   rw [List.length_replicate]
   exact zcg (Nat.le_trans (show _<=200 by omega) (by decide))
 refine⟨zer c.toNat++xs.drop c.toNat,⟨?_,fun x m=>?_⟩,?_⟩
 ·rw [List.length_append,List.length_drop]
  unfold zer
  rw [List.length_replicate]
  omega
 ·rcases List.mem_append.mp m with m|m
  ·rw [List.eq_of_mem_replicate m];exact QR.Bd.zero 69
  ·exact h.b x (List.mem_of_mem_drop m)
 ·refine zc6 (y:=(rL (zer c.toNat++xs.drop c.toNat),WE S a d c y4 y5 y6 (.ow false (rL xs)) y8 y9 y10)) (x:=.ow false (rL xs)) ?_ rfl (zsF _)
  have ng:zhf (.int 1)=.ok (.int (-1)):=rfl
  have ms:mSl 7 (zcq (e1 zhf (eC (.int 1)))) zcr (WE S a d c y4 y5 y6 (.ow false (rL xs)) y8 y9 y10)=.ok (rL (xs.drop c.toNat),WE S a d c y4 y5 y6 (.ow false (rL xs)) y8 y9 y10):=by
   generalize rL xs=Z at sl
   simp only [WE,mSl,zax,zcq,zcr,FL.e1,eC,zz1,zz0,zac,ng,sl]
  simp only [FL.e2,q,zac,ms,ad]
theorem row2{xs:List Rat}(h:Row n xs)(hn:(n:Int)=c+1)(c0:0<=c):∃ zs,Row n zs/\setM 7 (za5 (zab (eC (.int 0)) (zab (eC (.int 1)) zam))) (e1 zhf (eC (.int 1))) (WE S a d c y4 y5 y6 (.ow false (rL xs)) y8 y9 y10)=.ok (.nx,WE S a d c y4 y5 y6 (.ow false (rL zs)) y8 y9 y10):=by
 have hl:=h.l
 refine⟨xs.set c.toNat 0,⟨by rw [List.length_set];exact hl,fun x m=>?_⟩,?_⟩
 ·rcases List.mem_or_eq_of_mem_set m with m|rfl
  ·exact h.b x m
  ·exact QR.Bd.zero 69
 ·have et:za5 (zab (eC (.int 0)) (zab (eC (.int 1)) zam)) (WE S a d c y4 y5 y6 (.ow false (rL xs)) y8 y9 y10)=.ok (num 0,WE S a d c y4 y5 y6 (.ow false (rL xs)) y8 y9 y10):=rfl
  have ng:zhf (.int 1)=.ok (.int (-1)):=rfl
  have ix:ixN (xs.map num).length (-1)=some c.toNat:=by
   unfold ixN
   rw [List.length_map,if_neg (by omega),if_pos (by omega)]
   congr 1
   omega
  have st:PyData.list ((xs.map num).set c.toNat (num 0))=rL (xs.set c.toNat 0):=by
   unfold rL
   rw [List.map_set]
  rw [<- st]
  unfold rL at et ⊢
  generalize xs.map num=Z at ix et ⊢
  simp only [WE] at et ⊢
  simp only [setM,et,zbE,FL.e1,eC,zz1,zz0,zac,ng,ix,R.of,zay,List.set_cons_succ,List.set_cons_zero]
theorem zog{t:Tb}{i j:Int}(hp:za1 k d)(hk:k<=40000-100)(hn:(n:Int)=c+1)(c0:0<=c)(c6:c<=6)(hl:t.length<=100)(n7:Np y7) :
  ∃ xs d',Row n xs/\za1 (k+30) d'/\zgT (WE S a d c (.ow false (.list (t.map lvL))) (.val (.int i)) (.val (.int j)) y7 y8 y9 y10)=.ok (.nx,WE S a d' c (.ow false (.list ((t++[([i,j],xs)]).map lvL))) (.val (.int i)) (.val (.int j)) (.val (rL xs)) y8 y9 y10):=by
 have hlen:(rng 0 (c+1)).length=n:=by rw [zpX];omega
 obtain⟨xs,d1,eq,xl,xb,p1⟩:=zoB (ρ:=WE S a d c (.ow false (.list (t.map lvL))) (.val (.int i)) (.val (.int j)) y7 y8 y9 y10) (ip:=2) (p:=false) (it:=iR1 (zab (e2 zaG (eV 3) (eC (.int 1))) zam)) rfl hp (it3 hn c6 rfl) (by rw [hlen];omega) (by rw [hlen];omega)
 rw [hlen] at xl p1
 have s1:zcH 7 ziW (WE S a d c (.ow false (.list (t.map lvL))) (.val (.int i)) (.val (.int j)) y7 y8 y9 y10)=.ok (.nx,WE S a d1 c (.ow false (.list (t.map lvL))) (.val (.int i)) (.val (.int j)) (.ow false (rL xs)) y8 y9 y10):=zc6 (y:=(rL xs,WE S a d1 c (.ow false (.list (t.map lvL))) (.val (.int i)) (.val (.int j)) y7 y8 y9 y10)) (x:=y7) eq rfl n7
 obtain⟨b2,d2,t2,p2⟩:=zrL (S:=S) (a:=a) (c:=c) (y4:=.ow false (.list (t.map lvL))) (y5:=.val (.int i)) (y6:=.val (.int j)) (y7:=.ow false (rL xs)) (y8:=y8) (y9:=y9) (y10:=y10) p1 (by omega)
 have h2:∃ zs,Row n zs/\sIf (tB (e2 eqD (zaq zaf [.m 2,.v (eC (.int 4))]) (eC (.int 0)))) (zcH 7 (e2 zpC zfy (mSl 7 (zcq (e1 zhf (eC (.int 1)))) zcr))) sNx (WE S a d1 c (.ow false (.list (t.map lvL))) (.val (.int i)) (.val (.int j)) (.ow false (rL xs)) y8 y9 y10)=.ok (.nx,WE S a d2 c (.ow false (.list (t.map lvL))) (.val (.int i)) (.val (.int j)) (.ow false (rL zs)) y8 y9 y10):=by
  cases b2 with
  | true =>
   rw [zgd t2]
   exact zvF ⟨xl,xb⟩ hn c0 c6
  | false =>
   rw [zhZ t2]
   exact⟨xs,⟨xl,xb⟩,rfl⟩
 obtain⟨zs,rz,s2⟩:=h2
 obtain⟨b3,d3,t3,p3⟩:=zrL (S:=S) (a:=a) (c:=c) (y4:=.ow false (.list (t.map lvL))) (y5:=.val (.int i)) (y6:=.val (.int j)) (y7:=.ow false (rL zs)) (y8:=y8) (y9:=y9) (y10:=y10) p2 (by omega)
 have h3:∃ vs,Row n vs/\sIf (tB (e2 eqD (zaq zaf [.m 2,.v (eC (.int 4))]) (eC (.int 0)))) (setM 7 (za5 (zab (eC (.int 0)) (zab (eC (.int 1)) zam))) (e1 zhf (eC (.int 1)))) sNx (WE S a d2 c (.ow false (.list (t.map lvL))) (.val (.int i)) (.val (.int j)) (.ow false (rL zs)) y8 y9 y10)=.ok (.nx,WE S a d3 c (.ow false (.list (t.map lvL))) (.val (.int i)) (.val (.int j)) (.ow false (rL vs)) y8 y9 y10):=by
  cases b3 with
  | true =>
   rw [zgd t3]
   exact row2 rz hn c0
  | false =>
   rw [zhZ t3]
   exact⟨zs,rz,rfl⟩
 obtain⟨vs,rv,s3⟩:=h3
 have s4:zg1 7 (zhT 4 ziF (za5 (zab (eV 5) (zab (eV 6) (zab (eV 7) zam))))) (WE S a d3 c (.ow false (.list (t.map lvL))) (.val (.int i)) (.val (.int j)) (.ow false (rL vs)) y8 y9 y10)=.ok (.nx,WE S a d3 c (.ow false (.list ((t++[([i,j],vs)]).map lvL))) (.val (.int i)) (.val (.int j)) (.val (rL vs)) y8 y9 y10):=by
  have ap:ziF (t.map lvL) (.tuple [.int i,.int j,rL vs])=.ok ((t++[([i,j],vs)]).map lvL):=by
   show chk (leB ((t.map lvL).length+1) lim) _=_
   rw [zaN (by rw [List.length_map];exact zcg (Nat.le_trans (show _<=200 by omega) (by decide))),List.map_append];rfl
  have l3:leB 3 lim=true:=by decide
  show zhT 4 ziF _ (WE S a d3 c (.ow false (.list (t.map lvL))) (.val (.int i)) (.val (.int j)) (.val (rL vs)) y8 y9 y10)=_
  generalize t.map lvL=Z at ap
  simp only [WE,zhT,zbE,za5,zab,zam,eV,zz1,zz0,zac,chk,l3,if_true,List.length_cons,List.length_nil,Nat.reduceAdd,ap,zay,List.set_cons_succ,List.set_cons_zero]
 exact⟨vs,d3,rv,p3.mono (by omega),(zah s1).trans ((zah s2).trans ((zah s3).trans s4))⟩
end
end
section
def Nv(x:Sl):Prop:=zi5 x=true
theorem Nv.np{x:Sl}(h:Nv x):Np x:=fun e z=>by subst z;cases h
theorem zea(d:D):Nv (.val d):=rfl
theorem zkN:Nv .no:=rfl
def Bds(t:Tb):Prop:=∀ e∈t,∀ x∈e.2,QR.Bd 70 x
section
variable {S:D}{a c:Int}{y4 y5 y6 y7 y8 y9 y10:Sl}{n k:Nat}{d:D}
theorem zmq(hp:za1 k d)(hk:k<=1000)(hn:(n:Int)=c+1)(c0:0<=c)(c6:c<=6)(n5:Nv y5)(n6:Nv y6)(n7:Nv y7) :
  ∃ t d' z5 z6 z7,Nv z5/\Nv z6/\Nv z7/\TbK c t/\Bds t/\t.length<=36/\(∃ k',za1 k' d')/\zgM (WE S a d c (.ow false (.list [])) y5 y6 y7 y8 y9 y10)=.ok (.nx,WE S a d' c (.ow false (.list (t.map lvL))) z5 z6 z7 y8 y9 y10):=by
 obtain⟨ps,d1,e1,h1,l1,p1⟩:=zif hp (by omega) c0 c6
 have cm:zaq zcE [.m 2,.v (eV 3)] (WE S a d c (.ow false (.list [])) y5 y6 y7 y8 y9 y10)=.ok (ltp ps,WE S a d1 c (.ow false (.list [])) y5 y6 y7 y8 y9 y10):=zcv (i:=2) (p:=false) (d:=d) rfl rfl e1
 obtain⟨ρ',e,t,d',z5,z6,z7,m5,m6,m7,hk',hr,pd,rfl⟩:=zb5 (f:=tp) (g:=gT [gN 5,gN 6]) (b:=zgT)
  (fun done ρ=>∃ t d' z5 z6 z7,Nv z5/\Nv z6/\Nv z7/\t.map (·.1)=done/\(∀ e∈t,Row n e.2)/\za1 (k+40+30*done.length) d'/\ρ=WE S a d' c (.ow false (.list (t.map lvL))) z5 z6 z7 y8 y9 y10)
  ps [] (WE S a d1 c (.ow false (.list [])) y5 y6 y7 y8 y9 y10) ⟨[],d1,y5,y6,y7,n5,n6,n7,rfl,(fun _ z=>nomatch z),p1,rfl⟩ (by
   rintro pre w post ρ he ⟨t,d2,z5,z6,z7,m5,m6,m7,hk',hr,pd,rfl⟩
   rw [List.nil_append] at he
   obtain⟨i,j,rfl,_⟩:=h1.ky w (by rw [he];simp)
   have el:pre.length+1+post.length=ps.length:=by rw [he];simp;omega
   have tl:t.length=pre.length:=by rw [<- hk',List.length_map]
   have g1:gT [gN 5,gN 6] (tp [i,j]) (WE S a d2 c (.ow false (.list (t.map lvL))) z5 z6 z7 y8 y9 y10)=.ok (WE S a d2 c (.ow false (.list (t.map lvL))) (.val (.int i)) (.val (.int j)) z7 y8 y9 y10):=gT2 rfl m5.np rfl m6.np
   obtain⟨xs,d3,rx,p3,e3⟩:=zog (S:=S) (a:=a) (y8:=y8) (y9:=y9) (y10:=y10) (t:=t) (i:=i) (j:=j) pd (by omega) hn c0 c6 (by omega) m7.np
   exact⟨_,.nx,zoM g1 e3,.inl rfl,t++[([i,j],xs)],d3,_,_,_,zea _,zea _,zea _,by rw [List.map_append,hk'];rfl,fun e m=>by
    rcases List.mem_append.mp m with m|m
    ·exact hr e m
    ·rw [List.mem_singleton.mp m];exact rx,p3.mono (by rw [List.length_append,List.length_singleton];omega),rfl⟩)
 rw [List.nil_append] at hk' pd
 refine⟨t,d',z5,z6,z7,m5,m6,m7,⟨by unfold Gk;rw [hk'];exact h1.nd,fun e m=>h1.ky e.1 (by rw [<- hk'];exact List.mem_map_of_mem m),fun e m=>by have:=(hr e m).l;omega⟩,fun e m=>(hr e m).b,by rw [<- List.length_map (as:=t) (·.1),hk'];exact l1,⟨_,pd⟩,?_⟩
 unfold zgM zdJ iE
 rw [cm,zac]
 exact e
theorem zro{xs:List Rat}{ρ:En}(hl:xs.length<=1000)(h:ρ[7]?=some (.val (rL xs))):zfx ρ=.ok (rL (xs.filter fun x=>!decide (x=0)),ρ):=by
 have ev:iE (eV 7) ρ=.ok (xs.map num,ρ):=by unfold iE eV;rw [h];rfl
 unfold zfx
 rw [zgG (fun y=>match y with | .tuple [.int p,_]=>!decide (p=0)|_=>false) id ev (by rw [List.length_map];show _<=1000000;omega) fun y my=>?_]
 ·rw [List.map_id,List.filter_map]
  have:((fun y:D=>match y with | .tuple [.int p,_]=>!decide (p=0)|_=>false)∘num)=fun x:Rat=>!decide (x=0):=by
   funext x
   show(!decide (x.num=0))=_
   by_cases z:x=0
   ·subst z;rfl
   ·rw [decide_eq_false z,decide_eq_false fun q=>z (Rat.num_eq_zero.mp q)]
  rw [this];rfl
 ·obtain⟨x,_,rfl⟩:=List.mem_map.mp my
  refine⟨[.val (num x)],rfl,?_,fun _=>rfl,zbO trivial⟩
  have x0:ixD (num x) (.int 0)=.ok (.int x.num):=rfl
  simp only [tB,FL.e2,eV,eC,zz0,zac,x0,zhg]
  rfl
theorem ne_nil(xs:List Rat):neD (rL xs) (.list [])=.ok (.bool (!xs.isEmpty)):=by
 rw [show(PyData.list []:D)=rL [] from rfl,zmc (zqs xs) (zqs [])]
 cases xs <;> rfl
theorem all_filter(xs:List Rat):(!(xs.filter fun x=>!decide (x=0)).isEmpty)=!(xs.all fun x=>decide (x=0)):=by
 induction xs with
 | nil=>rfl
 | cons x xs ih =>
  rw [List.all_cons]
  by_cases z:x=0
  ·rw [List.filter_cons_of_neg (by simp [z]),ih,decide_eq_true z,Bool.true_and]
  ·rw [List.filter_cons_of_pos (by simp [z]),decide_eq_false z];rfl
theorem ztb{t:Tb}(h:TbK c t)(c6:c<=6)(hl:t.length<=60)(n5:Nv y5)(n6:Nv y6)(n7:Nv y7) :
  ∃ z5 z6 z7,Nv z5/\Nv z6/\Nv z7/\zg1 4 zfr (WE S a d c (.ow false (.list (t.map lvL))) y5 y6 y7 (.ow false (.list [])) y9 y10)=.ok (.nx,WE S a d c (.val (.list (t.map lvL))) z5 z6 z7 (.ow false (.list ((zaz t).map lvT))) y9 y10):=by
 generalize hL:PyData.list (t.map lvL)=L
 obtain⟨ρ',e,z5,z6,z7,m5,m6,m7,rfl⟩:=zb5 (f:=lvL) (g:=gT [gN 5,gN 6,gN 7]) (b:=zfs)
  (fun done ρ=>∃ z5 z6 z7,Nv z5/\Nv z6/\Nv z7/\ρ=WE S a d c (.val L) z5 z6 z7 (.ow false (.list ((zaz done).map lvT))) y9 y10)
  t [] (WE S a d c (.val L) y5 y6 y7 (.ow false (.list [])) y9 y10) ⟨y5,y6,y7,n5,n6,n7,rfl⟩ (by
   rintro pre e post ρ he ⟨z5,z6,z7,m5,m6,m7,rfl⟩
   rw [List.nil_append] at he
   have em:e∈t:=by rw [he];simp
   have pl:(zaz pre).length<=60:=by
    have h1:(zaz pre).length<=pre.length:=List.length_filter_le ..
    have h2:pre.length<=t.length:=by rw [he];simp
    omega
   obtain⟨i,j,eij,_⟩:=h.ky e em
   have rl:=h.rw e em
   have lv:lvL e=.tuple [.int i,.int j,rL e.2]:=by unfold lvL;rw [eij];rfl
   have lt:lvT e=.tuple [.int i,.int j,rT e.2]:=by unfold lvT;rw [eij];rfl
   have g1:gT [gN 5,gN 6,gN 7] (lvL e) (WE S a d c (.val L) z5 z6 z7 (.ow false (.list ((zaz pre).map lvT))) y9 y10)=.ok (WE S a d c (.val L) (.val (.int i)) (.val (.int j)) (.val (rL e.2)) (.ow false (.list ((zaz pre).map lvT))) y9 y10):=by
    rw [lv]
    exact gT3 rfl m5.np rfl m6.np rfl m7.np
   have q:=zro (ρ:=WE S a d c (.val L) (.val (.int i)) (.val (.int j)) (.val (rL e.2)) (.ow false (.list ((zaz pre).map lvT))) y9 y10) (xs:=e.2) (by omega) rfl
   have ne:=ne_nil (e.2.filter fun x=>!decide (x=0))
   rw [all_filter] at ne
   have tt:tB (e2 neD zfx (zcQ zam)) (WE S a d c (.val L) (.val (.int i)) (.val (.int j)) (.val (rL e.2)) (.ow false (.list ((zaz pre).map lvT))) y9 y10)=.ok (!(e.2.all fun x=>decide (x=0)),WE S a d c (.val L) (.val (.int i)) (.val (.int j)) (.val (rL e.2)) (.ow false (.list ((zaz pre).map lvT))) y9 y10):=by
    have el:∀ ρ:En,zcQ zam ρ=.ok (.list [],ρ):=fun _=>rfl
    simp only [tB,FL.e2,q,el,zac,ne]
   have hk:zaz (pre++[e])=if(e.2.all fun x=>decide (x=0))=true then zaz pre else zaz pre++[e]:=by
    unfold zaz
    rw [List.filter_append]
    by_cases z:(e.2.all fun x=>decide (x=0))=true
    ·rw [if_pos z,List.filter_cons_of_neg (by simp [z])];simp
    ·rw [if_neg z,List.filter_cons_of_pos (by simpa using z)];rfl
   by_cases z:(e.2.all fun x=>decide (x=0))=true
   ·rw [z] at tt
    rw [if_pos z] at hk
    exact⟨_,.nx,zoM (u:=zfs) g1 (zhZ tt),.inl rfl,_,_,_,zea _,zea _,zea _,by rw [hk]⟩
   ·have z':(e.2.all fun x=>decide (x=0))=false:=by simpa using z
    rw [z'] at tt
    rw [if_neg z] at hk
    have ap:ziF ((zaz pre).map lvT) (.tuple [.int i,.int j,rT e.2])=.ok ((zaz pre++[e]).map lvT):=by
     show chk (leB (((zaz pre).map lvT).length+1) lim) _=_
     rw [zaN (by rw [List.length_map];exact zcg (Nat.le_trans (show _<=200 by omega) (by decide))),List.map_append,<- lt];rfl
    have l3:leB 3 lim=true:=by decide
    have tr:=zhW e.2
    have b1:zhT 8 ziF (za5 (zab (eV 5) (zab (eV 6) (zab (e1 zbh (eV 7)) zam)))) (WE S a d c (.val L) (.val (.int i)) (.val (.int j)) (.val (rL e.2)) (.ow false (.list ((zaz pre).map lvT))) y9 y10)=.ok (.nx,WE S a d c (.val L) (.val (.int i)) (.val (.int j)) (.val (rL e.2)) (.ow false (.list ((zaz (pre++[e])).map lvT))) y9 y10):=by
     rw [hk]
     generalize (zaz pre).map lvT=Z at ap
     generalize rL e.2=R7 at tr ⊢
     simp only [WE,zhT,zbE,za5,zab,zam,eV,FL.e1,zz1,zz0,zac,chk,l3,if_true,List.length_cons,List.length_nil,Nat.reduceAdd,tr,ap,zay,List.set_cons_succ,List.set_cons_zero]
    exact⟨_,.nx,zoM (u:=zfs) g1 ((zgd tt).trans b1),.inl rfl,_,_,_,zea _,zea _,zea _,rfl⟩)
 rw [List.nil_append] at e
 refine⟨z5,z6,z7,m5,m6,m7,?_⟩
 show zfr (WE S a d c (.val L) y5 y6 y7 (.ow false (.list [])) y9 y10)=_
 unfold zfr zdJ
 rw [show iE (eV 4) (WE S a d c (.val L) y5 y6 y7 (.ow false (.list [])) y9 y10)=.ok (t.map lvL,WE S a d c (.val L) y5 y6 y7 (.ow false (.list [])) y9 y10) by rw [<- hL];rfl,zac]
 exact e
end
theorem zps:∀ u:Tb,zgl (u.map lvT)=true
 | []=>rfl
 | e::u=>by
  have hx:∀ xs:List Rat,zgl (xs.map num)=true:=fun xs=>by
   induction xs with
   | nil=>rfl
   | cons x xs ih=>rw [List.map_cons];show(true&&zgl (xs.map num))=true;rw [ih];rfl
  rw [List.map_cons]
  show(flat (lvT e)&&zgl (u.map lvT))=true
  rw [zps u]
  show((true&&(true&&(zgl (e.2.map num)&&true)))&&true)=true
  rw [hx];rfl
theorem zsk(rw':Bool)(e:List Int×List Rat):Pl 3 (if rw'=true then lvL e else lvT e):=by
 have hn:∀ d∈e.2.map num,Pl 1 d:=fun d m=>by
  obtain⟨r,_,rfl⟩:=List.mem_map.mp m
  exact zo5 r
 have h:∀ r:D,Pl 2 r->Pl 3 (.tuple [.int (e.1.getD 0 0),.int (e.1.getD 1 0),r]):=fun r hr=>zd5 fun d m=>by
  simp only [List.mem_cons,List.not_mem_nil,or_false] at m
  rcases m with rfl|rfl|rfl
  ·exact(zd6 _).up (by decide)
  ·exact(zd6 _).up (by decide)
  ·exact hr
 cases rw' with
 | true=>exact h _ (ziZ hn)
 | false=>exact h _ (zd5 hn)
theorem zsj(t:Tb):Pl 4 (.list (t.map lvL)):=ziZ fun d m=>by
 obtain⟨e,_,rfl⟩:=List.mem_map.mp m
 exact zsk true e
theorem zsi(t:Tb):Pl 4 (.tuple (t.map lvT)):=zd5 fun d m=>by
 obtain⟨e,_,rfl⟩:=List.mem_map.mp m
 exact zsk false e
end
section
abbrev XE(S:D)(a:Int)(d:D)(c:Int)(L:D)(y5 y6 y7:Sl)(U:D)(y9:Sl)(T:D):En:=WE S a d c (.val L) y5 y6 y7 (.val U) y9 (.ob "Table" [.int c,T])
theorem zoN{S:D}{a c:Int}{d:D}{k:Nat}{t:Tb}{u:Tb}{y5 y6 y7 y9 y10:Sl}(hp:za1 k d)(h:TbK c t)(hb:Bds t)(hu:St (zaz t) u)(hl:t.length<=60)(c1:1<=c)(c6:c<=6)(n5:Nv y5)(n6:Nv y6)(n7:Nv y7)(n9:Np y9)(n10:Np y10) :
  (zjQ 9 zfw fun ρ0=>(zav (sOb 10 "Table" (eMk zeN (zab (eV 3) (zab (eV 9) zam))))
  (zav (sIf (FL.tOr (tB (e2 neD (zdi 10 "Table" 0) (eV 3))) (FL.tOr (tE (e1 (zbT "bool") (zdi 10 "Table" 0))) (FL.zch (tE (e1 (zbT "int") (zdi 10 "Table" 0)))))) (zaH (eC (.bool false))) sNx)
  (zav (sIf (FL.tOr (FL.zch (tE (e1 (zbT "tuple") (zdi 10 "Table" 1)))) (tB (e2 neD (zdi 10 "Table" 1) (eV 8)))) (zaH (eC (.bool false))) sNx)
  (zav (sIf (tB (e2 neD zex (zcQ zam))) (zaH (eC (.bool false))) sNx)
  (zav (sIf (tB (e2 neD (eV 9) (eV 4))) (zaH (eC (.bool false))) sNx)
  (zh0 [5,6,7,9] [10] zet ρ0)))))) ) (WE S a d c (.val (.list (t.map lvL))) y5 y6 y7 (.val (.tuple (u.map lvT))) y9 y10)=.ok (.nx,XE S a d c (.list (t.map lvL)) .no .no .no (.tuple (u.map lvT)) .no (.tuple (u.map lvT))):=by
 obtain⟨t',st,tb⟩:=znw h c1 c6 hl
 have hkt:TbK c (zaz t):=⟨(List.filter_sublist.map fun e:List Int×List Rat=>e.1).nodup h.nk,fun x m=>h.ky x (List.mem_filter.mp m).1,fun x m=>h.rw x (List.mem_filter.mp m).1⟩
 have hk:zaz t'=u:=St.uniq hkt st.kept hu
 have lr:=zhn h st.pm hb hl (by omega) c6
 rw [hk] at tb lr
 have q3:zfw (WE S a d c (.val (.list (t.map lvL))) y5 y6 y7 (.val (.tuple (u.map lvT))) y9 y10)=.ok (.list (t.map lvL),WE S a d c (.val (.list (t.map lvL))) y5 y6 y7 (.val (.tuple (u.map lvT))) y9 y10):=by
  unfold zfw
  exact zbL (f0:=lvL) (xs:=t) lvL rfl (by show _<=1000000;omega) fun e me=>⟨[.val (.int (e.1.getD 0 0)),.val (.int (e.1.getD 1 0)),.val (rL e.2)],rfl,rfl,zbO trivial⟩
 have neL:=zj7 (zsj t)
 have neT:=zj7 (zsi u)
 have fT:flat (PyData.tuple (u.map lvT))=true:=zps u
 have q4:∀ y9,zex (XE S a d c (.list (t.map lvL)) y5 y6 y7 (.tuple (u.map lvT)) y9 (.tuple (u.map lvT)))=.ok (.list [],XE S a d c (.list (t.map lvL)) y5 y6 y7 (.tuple (u.map lvT)) y9 (.tuple (u.map lvT))):=fun y9=>by
  unfold zex
  rw [zgG (items:=u.map lvT) (fun _=>false) id rfl (by
   have h1:=hu.pm.length_eq
   have h2:(zaz t).length<=t.length:=List.length_filter_le ..
   rw [List.length_map]
   show _<=1000000
   omega) fun x mx=>?_]
  ·rw [List.filter_eq_nil_iff.mpr (by simp)];rfl
  ·obtain⟨e,_,rfl⟩:=List.mem_map.mp mx
   exact⟨[.val (lvT e)],rfl,rfl,(fun z=>nomatch z),zbO trivial⟩
 have it:zbT "tuple" (.tuple (u.map lvT))=.ok (.bool true):=rfl
 generalize PyData.list (t.map lvL)=L at tb lr q3 neL q4 ⊢
 generalize PyData.tuple (u.map lvT)=U at tb lr q3 neT fT q4 it ⊢
 have nec:neD (.int c) (.int c)=.ok (.bool false):=zj7 (zd6 c)
 have ib:zbT "bool" (.int c)=.ok (.bool false):=rfl
 have ii:zbT "int" (.int c)=.ok (.bool true):=rfl
 have g9:gN 9 L (WE S a d c (.val L) y5 y6 y7 (.val U) y9 y10)=.ok (WE S a d c (.val L) y5 y6 y7 (.val U) (.val L) y10):=ze7 rfl n9
 have s1:sOb 10 "Table" (eMk zeN (zab (eV 3) (zab (eV 9) zam))) (WE S a d c (.val L) y5 y6 y7 (.val U) (.val L) y10)=.ok (.nx,XE S a d c L y5 y6 y7 U (.val L) U):=by
  have e:eMk zeN (zab (eV 3) (zab (eV 9) zam)) (WE S a d c (.val L) y5 y6 y7 (.val U) (.val L) y10)=.ok (.tuple [.int c,U],WE S a d c (.val L) y5 y6 y7 (.val U) (.val L) y10):=by
   simp only [WE,eMk,zab,zam,eV,zz1,zz0,zac,tb]
  unfold sOb
  rw [e,zac]
  cases y10 with
  | ow p q=>cases p with
   | true=>exact absurd rfl (n10 q)
   | false=>rfl
  | _=>rfl
 have f0:zdi 10 "Table" 0 (XE S a d c L y5 y6 y7 U (.val L) U)=.ok (.int c,XE S a d c L y5 y6 y7 U (.val L) U):=rfl
 have f1:zdi 10 "Table" 1 (XE S a d c L y5 y6 y7 U (.val L) U)=.ok (U,XE S a d c L y5 y6 y7 U (.val L) U):=rfl
 have v3:eV 3 (XE S a d c L y5 y6 y7 U (.val L) U)=.ok (.int c,XE S a d c L y5 y6 y7 U (.val L) U):=rfl
 have v8:eV 8 (XE S a d c L y5 y6 y7 U (.val L) U)=.ok (U,XE S a d c L y5 y6 y7 U (.val L) U):=rfl
 have v9:eV 9 (XE S a d c L y5 y6 y7 U (.val L) U)=.ok (L,XE S a d c L y5 y6 y7 U (.val L) U):=rfl
 have v4:eV 4 (XE S a d c L y5 y6 y7 U (.val L) U)=.ok (L,XE S a d c L y5 y6 y7 U (.val L) U):=rfl
 have s2:sIf (FL.tOr (tB (e2 neD (zdi 10 "Table" 0) (eV 3))) (FL.tOr (tE (e1 (zbT "bool") (zdi 10 "Table" 0))) (FL.zch (tE (e1 (zbT "int") (zdi 10 "Table" 0)))))) (zaH (eC (.bool false))) sNx (XE S a d c L y5 y6 y7 U (.val L) U)=.ok (.nx,XE S a d c L y5 y6 y7 U (.val L) U):=by
  simp only [sIf,FL.tOr,FL.zch,tB,tE,FL.e1,FL.e2,f0,v3,zac,nec,ib,ii,zgc,Bool.not_true,Bool.false_eq_true,if_false,sNx]
 have s3:sIf (FL.tOr (FL.zch (tE (e1 (zbT "tuple") (zdi 10 "Table" 1)))) (tB (e2 neD (zdi 10 "Table" 1) (eV 8)))) (zaH (eC (.bool false))) sNx (XE S a d c L y5 y6 y7 U (.val L) U)=.ok (.nx,XE S a d c L y5 y6 y7 U (.val L) U):=by
  simp only [sIf,FL.tOr,FL.zch,tB,tE,FL.e1,FL.e2,f1,v8,zac,neT,it,zgc,Bool.not_true,Bool.false_eq_true,if_false,sNx]
 have el:∀ ρ:En,zcQ zam ρ=.ok (.list [],ρ):=fun _=>rfl
 have nn:=ne_nil []
 have s4:sIf (tB (e2 neD zex (zcQ zam))) (zaH (eC (.bool false))) sNx (XE S a d c L y5 y6 y7 U (.val L) U)=.ok (.nx,XE S a d c L y5 y6 y7 U (.val L) U):=by
  have nn':neD (.list []) (.list [])=.ok (.bool false):=nn
  simp only [sIf,tB,FL.e2,q4,el,zac,nn',Bool.false_eq_true,if_false,sNx]
 have s5:sIf (tB (e2 neD (eV 9) (eV 4))) (zaH (eC (.bool false))) sNx (XE S a d c L y5 y6 y7 U (.val L) U)=.ok (.nx,XE S a d c L y5 y6 y7 U (.val L) U):=by
  simp only [sIf,tB,FL.e2,v9,v4,zac,neL,Bool.false_eq_true,if_false,sNx]
 have w0:zdi 10 "Table" 0 (XE S a d c L .no .no .no U .no U)=.ok (.int c,XE S a d c L .no .no .no U .no U):=rfl
 have w1:zdi 10 "Table" 1 (XE S a d c L .no .no .no U .no U)=.ok (U,XE S a d c L .no .no .no U .no U):=rfl
 have w3:eV 3 (XE S a d c L .no .no .no U .no U)=.ok (.int c,XE S a d c L .no .no .no U .no U):=rfl
 have w8:eV 8 (XE S a d c L .no .no .no U .no U)=.ok (U,XE S a d c L .no .no .no U .no U):=rfl
 have r1:sIf (FL.tOr (tB (e2 neD (zdi 10 "Table" 1) (eV 8))) (tB (e2 neD (zdi 10 "Table" 0) (eV 3)))) (zaH (eC (.bool false))) sNx (XE S a d c L .no .no .no U .no U)=.ok (.nx,XE S a d c L .no .no .no U .no U):=by
  simp only [sIf,FL.tOr,tB,FL.e2,w0,w1,w3,w8,zac,neT,nec,Bool.false_eq_true,if_false,sNx]
 have ao:aOb 10 "Table" (zab (eV 3) (zab (eV 4) zam)) (XE S a d c L .no .no .no U .no U)=.ok ([.tuple [.int c,U],.int c,L],XE S a d c L .no .no .no U .no U):=rfl
 have r2:sIf (FL.zch (tE (zaj zbb (aOb 10 "Table" (zab (eV 3) (zab (eV 4) zam)))))) (zaH (eC (.bool false))) sNx (XE S a d c L .no .no .no U .no U)=.ok (.nx,XE S a d c L .no .no .no U .no U):=by
  simp only [sIf,FL.zch,tE,zaj,ao,zac,lr,zgc,Bool.not_true,Bool.false_eq_true,if_false,sNx]
 have s6:zh0 [5,6,7,9] [10] zet (WE S a d c (.val L) y5 y6 y7 (.val U) y9 y10) (XE S a d c L y5 y6 y7 U (.val L) U)=.ok (.nx,XE S a d c L .no .no .no U .no U):=by
  obtain⟨x,y,z,rfl,_⟩:=hp
  have ok:E3 [5,6,7,9] [10] 0 (WE S a (.list [.int x,.int y,.int z]) c (.val L) y5 y6 y7 (.val U) y9 y10) (XE S a (.list [.int x,.int y,.int z]) c L y5 y6 y7 U (.val L) U):=by
   have sm:∀(k:Nat) (v:D),k∉[5,6,7,9]->k∉[10]->((k∈[5,6,7,9]/\zi5 (.val v)=true)\/(k∉[5,6,7,9]/\((.val v:Sl)=.no\/((.val v:Sl)=.val v/\k∉[10]/\zi5 (.val v)=true)\/zow (.val v)=true\/zq1 (.val v)=true))):=fun k v h1 h2=>.inr ⟨h1,.inr (.inl ⟨rfl,h2,rfl⟩)⟩
   refine⟨sm 0 S (by decide) (by decide),sm 1 (.int a) (by decide) (by decide),.inr ⟨by decide,.inr (.inr (.inr rfl))⟩,sm 3 (.int c) (by decide) (by decide),sm 4 L (by decide) (by decide),.inl ⟨by decide,n5⟩,.inl ⟨by decide,n6⟩,.inl ⟨by decide,n7⟩,sm 8 U (by decide) (by decide),.inl ⟨by decide,rfl⟩,.inr ⟨by decide,.inr (.inr (.inl ?_))⟩,trivial⟩
   show(true&&(flat U&&true))=true
   rw [fT];rfl
  unfold zh0
  rw [if_pos ⟨ok,show ∀ k∈[5,6,7,9],k<11 by decide⟩]
  show zet (XE S a (.list [.int x,.int y,.int z]) c L .no .no .no U .no U)=_
  unfold zet
  rw [zah r1]
  exact r2
 unfold zjQ
 rw [q3,zac,g9,zac]
 exact(zah s1).trans ((zah s2).trans ((zah s3).trans ((zah s4).trans ((zah s5).trans s6))))
theorem zrk{S:D}{a:Int}{y2 y3 y4 y5 y6 y7 y8 y9 y10:Sl}(n2:Np y2)(n3:Np y3)(n4:Np y4)(n5:Nv y5)(n6:Nv y6)(n7:Nv y7)(n8:Np y8)(n9:Np y9)(n10:Np y10) :
  ∃ d c L U,zgS [.val S,.val (.int a),y2,y3,y4,y5,y6,y7,y8,y9,y10]=.ok (.nx,XE S a d c L .no .no .no U .no U):=by
 obtain⟨d,ep,p0⟩:=znQ a 8 (by decide)
 replace ep:zcD [.int a,.int 8]=.ok d:=ep
 obtain⟨g,d1,tk,g0,g1,p1⟩:=zgV p0 (by decide) 6 (by decide) (zas (by decide)) (by decide)
 have s1:zcH 2 (zaj zcD (zab (eV 1) (zab (eC (.int 8)) zam))) [.val S,.val (.int a),y2,y3,y4,y5,y6,y7,y8,y9,y10]=.ok (.nx,[.val S,.val (.int a),.ow false d,y3,y4,y5,y6,y7,y8,y9,y10]):=zc6 (y:=(d,[.val S,.val (.int a),y2,y3,y4,y5,y6,y7,y8,y9,y10])) (by simp only [zaj,zab,zam,eV,eC,zz1,zz0,zac,ep]) rfl n2
 have cm:zaq zaf [.m 2,.v (eC (.int 6))] [.val S,.val (.int a),.ow false d,y3,y4,y5,y6,y7,y8,y9,y10]=.ok (.int g,[.val S,.val (.int a),.ow false d1,y3,y4,y5,y6,y7,y8,y9,y10]):=zcv (i:=2) (p:=false) (d:=d) rfl rfl tk
 have ad:zaG (.int 1) (.int g)=.ok (.int (1+g)):=rfl
 have s2:zaZ (gN 3) (e2 zaG (eC (.int 1)) (zaq zaf [.m 2,.v (eC (.int 6))])) [.val S,.val (.int a),.ow false d,y3,y4,y5,y6,y7,y8,y9,y10]=.ok (.nx,WE S a d1 (1+g) y4 y5 y6 y7 y8 y9 y10):=zfu (y:=(.int (1+g),[.val S,.val (.int a),.ow false d1,y3,y4,y5,y6,y7,y8,y9,y10])) (by simp only [FL.e2,eC,cm,zac,ad]) rfl n3
 have s3:zcH 4 (zcQ zam) (WE S a d1 (1+g) y4 y5 y6 y7 y8 y9 y10)=.ok (.nx,WE S a d1 (1+g) (.ow false (.list [])) y5 y6 y7 y8 y9 y10):=zc6 (y:=(.list [],WE S a d1 (1+g) y4 y5 y6 y7 y8 y9 y10)) rfl rfl n4
 obtain⟨t,d2,z5,z6,z7,m5,m6,m7,ht,hb,hl,⟨k2,p2⟩,s4⟩:=zmq (S:=S) (a:=a) (c:=1+g) (n:=(1+g+1).toNat) (y8:=y8) (y9:=y9) (y10:=y10) p1 (by decide) (by omega) (by omega) (by omega) n5 n6 n7
 have s5:zcH 8 (zcQ zam) (WE S a d2 (1+g) (.ow false (.list (t.map lvL))) z5 z6 z7 y8 y9 y10)=.ok (.nx,WE S a d2 (1+g) (.ow false (.list (t.map lvL))) z5 z6 z7 (.ow false (.list [])) y9 y10):=zc6 (y:=(.list [],WE S a d2 (1+g) (.ow false (.list (t.map lvL))) z5 z6 z7 y8 y9 y10)) rfl rfl n8
 obtain⟨x5,x6,x7,l5,l6,l7,s6⟩:=ztb (S:=S) (a:=a) (d:=d2) (y9:=y9) (y10:=y10) ht (by omega) (by omega) m5 m6 m7
 have hkt:TbK (1+g) (zaz t):=⟨(List.filter_sublist.map fun e:List Int×List Rat=>e.1).nodup ht.nk,fun x m=>ht.ky x (List.mem_filter.mp m).1,fun x m=>ht.rw x (List.mem_filter.mp m).1⟩
 have kl:(zaz t).length<=t.length:=List.length_filter_le ..
 obtain⟨u,hu,es⟩:=zrR (t:=zaz t) (d:=.list ((zaz t).map lvT)) (h:=lvT) rfl (fun e m=>by obtain⟨i,j,eq,_⟩:=hkt.ky e m;unfold kyT lvT;rw [eq];rfl) hkt.nd (by omega)
 have s7:zg1 8 (zaZ (gN 8) (e1 zbh (e1 zeR (eV 8)))) (WE S a d2 (1+g) (.val (.list (t.map lvL))) x5 x6 x7 (.ow false (.list ((zaz t).map lvT))) y9 y10)=.ok (.nx,WE S a d2 (1+g) (.val (.list (t.map lvL))) x5 x6 x7 (.val (.tuple (u.map lvT))) y9 y10):=by
  show zaZ (gN 8) (e1 zbh (e1 zeR (eV 8))) (WE S a d2 (1+g) (.val (.list (t.map lvL))) x5 x6 x7 (.val (.list ((zaz t).map lvT))) y9 y10)=_
  refine zdI (x:=.val (.list ((zaz t).map lvT))) ?_ rfl (zaK _)
  have tl:zbh (.list (u.map lvT))=.ok (.tuple (u.map lvT)):=rfl
  generalize PyData.list ((zaz t).map lvT)=Z at es
  simp only [WE,FL.e1,eV,zz1,zz0,zac,es,tl]
 have s8:=zoN (S:=S) (a:=a) p2 ht hb hu (by omega) (by omega) (by omega) l5 l6 l7 n9 n10
 exact⟨d2,1+g,_,_,(zah s1).trans ((zah s2).trans ((zah s3).trans ((zah s4).trans ((zah s5).trans ((zah s6).trans ((zah s7).trans s8))))))⟩
theorem zoh(ns:List Int)(hl:ns.length<=63):znf [.list (ns.map PyData.int)]=.ok (.bool true):=by
 obtain⟨x,ex⟩:=zuY ns 2 (by decide) (by decide)
 replace ex:zep [.list (ns.map PyData.int),.int 2]=.ok (.int x):=ex
 generalize hS:PyData.list (ns.map PyData.int)=S at ex
 obtain⟨ρ',e,_⟩:=zb5 (f:=PyData.int) (g:=gN 1) (b:=zgS)
  (fun _ ρ=>∃ y1 y2 y3 y4 y5 y6 y7 y8 y9 y10,Np y1/\Np y2/\Np y3/\Np y4/\Nv y5/\Nv y6/\Nv y7/\Np y8/\Np y9/\Np y10/\ρ=[.val S,y1,y2,y3,y4,y5,y6,y7,y8,y9,y10])
  (ns.take 3++[x]) [] [.val S,.no,.no,.no,.no,.no,.no,.no,.no,.no,.no] ⟨_,_,_,_,_,_,_,_,_,_,zbD,zbD,zbD,zbD,zkN,zkN,zkN,zbD,zbD,zbD,rfl⟩ (by
   rintro pre a post ρ _ ⟨y1,y2,y3,y4,y5,y6,y7,y8,y9,y10,n1,n2,n3,n4,n5,n6,n7,n8,n9,n10,rfl⟩
   have g1:gN 1 (.int a) [.val S,y1,y2,y3,y4,y5,y6,y7,y8,y9,y10]=.ok [.val S,.val (.int a),y2,y3,y4,y5,y6,y7,y8,y9,y10]:=ze7 rfl n1
   obtain⟨d,c,L,U,e⟩:=zrk (S:=S) (a:=a) n2 n3 n4 n5 n6 n7 n8 n9 n10
   exact⟨_,.nx,zoM g1 e,.inl rfl,_,_,_,_,_,_,_,_,_,_,zaK _,zsF _,zaK _,zaK _,zkN,zkN,zkN,zaK _,zbD,zuk _ _,rfl⟩)
 have sl:zcf S none (some 3)=.ok (.list ((ns.take 3).map PyData.int)):=by
  rw [<- hS]
  show R.ok (PyData.list (cut (ns.map PyData.int) none (some ((3:Nat):Int))))=_
  rw [zpw,List.map_take]
 have ad:zaG (.list ((ns.take 3).map PyData.int)) (.list [.int x])=.ok (.list ((ns.take 3++[x]).map PyData.int)):=by
  show chk (leB (((ns.take 3).map PyData.int).length+1) lim) _=_
  rw [zaN (by rw [List.length_map,List.length_take];exact zcg (Nat.le_trans (show _<=4 by omega) (by decide))),List.map_append];rfl
 have l1:leB 1 lim=true:=by decide
 have s1:zgL [.val S,.no,.no,.no,.no,.no,.no,.no,.no,.no,.no]=.ok (.nx,ρ'):=by
  have it:iE (e2 zaG (eSl (eV 0) zcr (zcq (eC (.int 3)))) (zcQ (zab (zaj zep (zab (eV 0) (zab (eC (.int 2)) zam))) zam))) [.val S,.no,.no,.no,.no,.no,.no,.no,.no,.no,.no]=.ok ((ns.take 3++[x]).map PyData.int,[.val S,.no,.no,.no,.no,.no,.no,.no,.no,.no,.no]):=by
   simp only [iE,FL.e2,eSl,eV,eC,zcr,zcq,zcQ,zab,zam,zaj,zz0,zac,sl,ex,chk,l1,if_true,List.length_cons,List.length_nil,Nat.reduceAdd,ad,zcX]
  unfold zgL zdJ
  rw [it,zac]
  exact e
 refine zc7 (ρ:=ρ') rfl ?_
 show zoP [.val S,.no,.no,.no,.no,.no,.no,.no,.no,.no,.no]=_
 unfold zoP
 rw [zah s1]
 rfl
end
end K08
open PySem PySem.W PyProof.Rows
theorem PySem.W.Fast.tw5658608056103446656 : True := trivial
theorem PySem.W.Fast.tw2915090851316499297 : True := trivial
theorem PySem.W.Fast.tw14693505042591739426 : True := trivial
theorem PySem.W.Fast.tw15451384452410862761 : True := trivial
theorem PySem.W.Fast.tw845629162989854538 : True := trivial
theorem PySem.W.Fast.tw4490896531566662066 : True := trivial
theorem PySem.W.Fast.tw7665586857306285747 : True := trivial
theorem PySem.W.Fast.tw14894498399842680821 : True := trivial
theorem PySem.W.Fast.tw443600831628174678 : True := trivial
theorem PySem.W.Fast.tw1076007981507402682 : True := trivial
theorem PySem.W.Fast.tw16031379659389271645 : True := trivial
set_option maxRecDepth 100000 in
set_option maxHeartbeats 0 in
theorem PySem.Challenge.cw_swaprest_k08_a_table_made_holds : PySem.Challenge.rw_swaprest_k08_a_table_made.Holds := by
 w_on; o_law; k_head; (case hw => w_witness2)
 k_fill
 refine K08.walk (l:=PySem.Challenge.rw_swaprest_k08_a_table_made) K08.zoh rfl rfl (by decide +kernel) rfl (fun w h Y => PySem.W.kIn_of Y) ?F
 case F =>
  intro w mg fa h KX G hmg
  refine' K08.all_mk KX G hmg ?oo0 ?oo1 ?oo2 ?oo3 ?oo4 ?oo5 ?oo6 ?oo7 ?oo8 ?oo9 ?oo10 ?oo11 ?oo12 ?oo13 ?oo14 ?oo15 ?oo16 ?oo17 ?oo18 ?oo19 ?oo20 ?oo21 ?oo22 ?oo23 ?oo24 ?oo25 ?oo26 ?oo27 ?oo28 ?oo29 ?oo30 ?oo31 ?oo32 ?oo33 ?oo34 ?oo35 ?oo36 ?oo37 ?oo38 ?oo39 ?oo40 ?oo41 ?oo42 ?oo43 ?oo44 ?oo45 ?oo46 ?oo47 ?oo48 ?oo49 ?oo50 ?oo51 ?oo52 ?oo53 ?oo54 ?oo55 ?oo56 ?oo57 ?oo58 ?oo59 ?oo60 ?oo61 ?oo62
  (case oo0 | oo1 | oo2 | oo3 | oo4 | oo5 | oo6 | oo7 | oo8 | oo9 | oo10 | oo11 | oo12 | oo13 | oo14 | oo15 | oo16 | oo17 | oo18 | oo19 | oo20 | oo21 | oo22 => refine' FL.zs1 KX G ?Zq ?Zl ?Zc ?Zk; (case Zq => k_is); (case Zl => k_is); (case Zc => k_is); (case Zk => k_is))
  (case oo23 | oo24 | oo25 | oo26 | oo27 | oo28 | oo29 | oo30 | oo31 | oo32 | oo33 | oo34 | oo35 | oo36 | oo37 | oo38 | oo39 | oo40 | oo41 | oo42 | oo43 | oo44 | oo45 | oo46 | oo47 | oo48 | oo49 | oo50 | oo51 | oo52 | oo53 | oo54 | oo55 | oo56 | oo57 | oo58 | oo59 | oo60 | oo61 | oo62 => k_is)
