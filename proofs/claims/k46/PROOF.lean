import PyProof.Rows.All
import Wide.All
import OpenK.AllK
import Wide.FinOn
import Lean
import PyProof.EqAt
import PyProof.EqKinds
import PyProof.TupleCall
import PyProof.EqLayable
import PyProof.StationsW
import PyProof.NsDelKeeps
import PyProof.ExcArgsOwn
import PyProof.ExcAttrAll.ValueError
import PyProof.ZipIter
import PyProof.EnumFor
import PyProof.EnumStmt
import PyProof.EnumMake
import PyProof.ConsumeWalk
import PyProof.Cells
import PyProof.CompUse
import PyProof.DictIter
import PyProof.DictWalks
import PyProof.CollectWalk
import PyProof.WalksS
import PyProof.P3Statements
import PyProof.DictRoadsH
import KE.KSortTup
import PyProof.P3In
import KE.KRevSl
import PyProof.ReprReads
import KE.KMinKey
import PyProof.ReprRoads
import PyProof.Conv_int_bool
import PyProof.AutoListH
import PySem.Challenge.RW_swaprest_k46_letters_joined
set_option Elab.async false
set_option linter.all false
set_option maxRecDepth 100000
set_option maxHeartbeats 4000000
set_option bootstrap.genMatcherCode false
noncomputable section
namespace L2
open PySem PySem.Spec PyProof.Rows
section
abbrev Key:=Sum Int Str
noncomputable def zks:Key->Value->Bool
 | .inl k,v=>Value.isInt k v
 | .inr x,v=>Value.isStrOf x v
noncomputable def zxL(w:World):Key->Int
 | .inl k=>hashInt k
 | .inr x=>hashStr w x
theorem zaM:∀{k:Key} {v:Value},zks k v=true->(∃ i t,k=Sum.inl i/\v=Value.int i t)\/(∃ x t,k=Sum.inr x/\v=Value.str x t)
 | .inl i,v,h=>by
  obtain⟨t,e⟩:=Value.isInt_shape (k:=i) (v:=v) h
  exact .inl ⟨i,t,rfl,e⟩
 | .inr x,v,h=>by
  obtain⟨t,e⟩:=Value.isStrOf_shape (x:=x) (v:=v) h
  exact .inr ⟨x,t,rfl,e⟩
theorem znN(i:Int)(t:Tok):zks (.inl i) (.int i t)=true:=by simp [zks,Value.isInt]
theorem znM(x:Str)(t:Tok):zks (.inr x) (.str x t)=true:=by simp [zks,Value.isStrOf]
theorem zux(a b:Int):decide ((Sum.inl a:Key)=Sum.inl b)=(a==b):=by
 by_cases e:a=b
 ·subst e;simp
 ·have h:¬ (Sum.inl a:Key)=Sum.inl b:=fun q=>e (Sum.inl.inj q)
  rw [decide_eq_false h]
  exact(beq_eq_false_iff_ne.mpr e).symm
theorem zut(a b:Str):decide ((Sum.inr a:Key)=Sum.inr b)=decide (a=b):=by
 by_cases e:a=b
 ·subst e;simp
 ·have h:¬ (Sum.inr a:Key)=Sum.inr b:=fun q=>e (Sum.inr.inj q)
  rw [decide_eq_false h,decide_eq_false e]
theorem zuw(a:Int)(b:Str):decide ((Sum.inl a:Key)=Sum.inr b)=false:=decide_eq_false (fun q=>nomatch q)
theorem zuu(a:Str)(b:Int):decide ((Sum.inr a:Key)=Sum.inl b)=false:=decide_eq_false (fun q=>nomatch q)
noncomputable def zaE(prog:Program)(w:World):PySem.KeyKind prog w Key where
 is:=zks
 hash:=zxL w
 inj:=fun v a b ha hb=>by
  rcases zaM ha with⟨i,t,rfl,rfl⟩|⟨x,t,rfl,rfl⟩
  ·rcases zaM hb with⟨j,u,rfl,e⟩|⟨y,u,rfl,e⟩
   ·injection e with e1 _;rw [e1]
   ·exact nomatch e
  ·rcases zaM hb with⟨j,u,rfl,e⟩|⟨y,u,rfl,e⟩
   ·exact nomatch e
   ·injection e with e1 _;rw [e1]
 byValue:=fun k v h=>by
  rcases zaM h with⟨i,t,rfl,rfl⟩|⟨x,t,rfl,rfl⟩ <;> rfl
 pyHash:=fun hv h=>by
  rcases zaM hv with⟨i,t,rfl,rfl⟩|⟨x,t,rfl,rfl⟩
  ·exact wpAny_pyHash_int h
  ·exact wpAny_pyHash_str h
 eqBool:=fun hu hv h=>by
  rcases zaM hu with⟨i,t,rfl,rfl⟩|⟨x,t,rfl,rfl⟩
  ·rcases zaM hv with⟨j,u,rfl,rfl⟩|⟨y,u,rfl,rfl⟩
   ·rw [zux] at h;exact wpAny_eqBool_int h
   ·rw [zuw] at h;exact SeqAt.EqAt.int_str i t y u _ _ _ _ h
  ·rcases zaM hv with⟨j,u,rfl,rfl⟩|⟨y,u,rfl,rfl⟩
   ·rw [zuu] at h;exact SeqAt.EqAt.str_int x t j u _ _ _ _ h
   ·rw [zut] at h;exact wpAny_eqBool_str h
 «strs»:=fun k x t v h=>by
  rcases zaM h with⟨i,u,rfl,e⟩|⟨y,u,rfl,e⟩
  ·exact nomatch e
  ·injection e with e1 _
   subst e1
   cases v <;> rfl
theorem zko(prog:Program)(w:World)(i:Int)(t:Tok):(zaE prog w).is (.inl i) (.int i t)=true:=znN i t
theorem zkn(prog:Program)(w:World)(x:Str)(t:Tok):(zaE prog w).is (.inr x) (.str x t)=true:=znM x t
end
section
inductive V where
 | non|bl(b:Bool)|int(i:Int)|str(x:Str)|byt(b:Array UInt8)|flt(b:UInt64)|ref(a:Addr)|ty(n:String)
 deriving DecidableEq
noncomputable def RelV:V->Value->Prop
 | .non,u=>u=Value.none
 | .bl b,u=>u=Value.bool b
 | .int i,u=>∃ t,u=Value.int i t
 | .str x,u=>∃ t,u=Value.str x t
 | .byt b,u=>∃ t,u=Value.bytes b t
 | .flt b,u=>∃ t,u=Value.float b t
 | .ref a,u=>u=Value.ref a
 | .ty n,u=>u=Value.type n
abbrev Vals:List V->List Value->Prop:=Paired RelV
theorem Vals.length{xs:List V}{us:List Value}(r:Vals xs us):xs.length=us.length:=Paired.length r
theorem Vals.get:∀{xs:List V} {us:List Value} {i:Nat} {x:V},Vals xs us->xs[i]?=some x->∃ u,us[i]?=some u/\RelV x u
 | _,_,_,_,.nil,e=>by simp at e
 | _,_,0,_,.cons r _,e=>by simp at e;subst e;exact⟨_,rfl,r⟩
 | _,_,i+1,x,.cons _ t,e=>by
  obtain⟨u,h1,h2⟩:=Vals.get (i:=i) (x:=x) t (by simpa using e)
  exact⟨u,by simpa using h1,h2⟩
theorem Vals.set{x:V}{u:Value}(r:RelV x u):∀{xs:List V} {us:List Value} (i:Nat),Vals xs us->Vals (xs.set i x) (us.set i u)
 | _,_,_,.nil=>.nil
 | _,_,0,.cons _ t=>.cons r t
 | _,_,i+1,.cons q t=>.cons q (Vals.set r i t)
theorem Vals.append:∀{xs ys:List V} {us ws:List Value},Vals xs us->Vals ys ws->Vals (xs++ys) (us++ws)
 | _,_,_,_,.nil,s=>s
 | _,_,_,_,.cons r t,s=>.cons r (Vals.append t s)
theorem Vals.take:∀{xs:List V} {us:List Value} (n:Nat),Vals xs us->Vals (xs.take n) (us.take n)
 | _,_,0,_=>.nil
 | _,_,_+1,.nil=>.nil
 | _,_,n+1,.cons r t=>.cons r (Vals.take n t)
theorem Vals.drop:∀{xs:List V} {us:List Value} (n:Nat),Vals xs us->Vals (xs.drop n) (us.drop n)
 | _,_,0,r=>r
 | _,_,_+1,.nil=>.nil
 | _,_,n+1,.cons _ t=>Vals.drop n t
noncomputable def zkS:Option V->Option Value->Prop
 | some v,some u=>RelV v u
 | none,none=>True
 | _,_=>False
noncomputable def KV{κ:Type}:List (κ×V)->List (κ×Value)->Prop:=Paired fun(p:κ×V) (q:κ×Value)=>p.1=q.1/\RelV p.2 q.2
noncomputable def kV:Key->V
 | .inl i=>.int i
 | .inr x=>.str x
inductive HO where
 /-- a list -/
 | lst(xs:List V)
 /-- a tuple(never changes) -/
 | tup(xs:List V)
 /-- a dict whose keys are ints and texts;one whose keys are tuples of ints and texts(the empty one is both) -/
 | dK(kvs:List (Key×V))|dT(kvs:List (List Key×V))
 /-- a set of ints: its members,its size -/
 | set (S:Int->Bool) (n:Nat)
 /-- an instance of the class at C,its dict at dx,its attributes -/
 | ins (C dx:Addr) (fs:List (Str×V))
 /-- the dict of the instance at x -/
 | own (x:Addr)
 /-- the dict of an exception -/
 | xd (fs:List (Str×V))
 /-- a bound method,f of x -/
 | met (f x:Addr)
 /-- a range object lo,lo+1,.. below hi -/
 | rng (lo hi:Int)
 /-- a thing that is known to the object (the script;a dict while a loop walks it): read,never written while it is so -/
 | frz (o:Obj) (u:HO)
 /-- a code object's table -/
 | tbl (ps:Array Value)
 /-- any other thing,by what is true of its one object (a def of one's own: SetO a S n:=HO.ext fun h=>..) -/
 | ext (φ:Heap->Prop)
abbrev Hp:=Addr->Option HO
noncomputable def upd(H:Hp)(a:Addr)(o:HO):Hp:=fun b=>if b=a then some o else H b
theorem zan{H:Hp}{a:Addr}{o:HO}:upd H a o a=some o:=by unfold upd;rw [if_pos rfl]
theorem zas{H:Hp}{a b:Addr}{o:HO}(h:b≠a):upd H a o b=H b:=by unfold upd;rw [if_neg h]
theorem zfV{H:Hp}{a:Addr}{o u:HO}:upd (upd H a o) a u=upd H a u:=by
 funext b;unfold upd;split <;> rfl
theorem zfv{H:Hp}{a b:Addr}{o u:HO}(h:H a=some o)(h':H b=some u)(d:o≠u):a≠b:=by
 intro e;subst e;rw [h] at h';exact d (Option.some.inj h')
theorem zby{H:Hp}{a b:Addr}{o:HO}(h:H a=some o)(h':H b=none):a≠b:=by
 intro e;subst e;rw [h] at h';cases h'
def TAt(H:Hp)(b:Addr)(xs:List V):Prop:=H b=some (.tup xs)\/∃ o,H b=some (.frz o (.tup xs))
theorem TAt.upd{H:Hp}{a b:Addr}{u:HO}{xs:List V}(q:TAt H b xs)(n1:∀ ys,H b=some (.tup ys)->b≠a)(n2:∀ o ys,H b=some (.frz o (.tup ys))->b≠a):TAt (upd H a u) b xs:=by
 rcases q with q|⟨o,q⟩
 ·left;rw [zas (n1 _ q)];exact q
 ·right;exact⟨o,by rw [zas (n2 _ _ q)];exact q⟩
section
variable (P:Program)(w:World)
noncomputable def zbc(H:Hp)(h:Heap)(a:Addr):HO->Prop
 | .lst xs=>xs.length<=sizeLine/\∃(its:List Value) (n:Nat),Vals xs its/\h.get? a=some { cls:=.type "list",data:=.seq its.toArray n }
 | .tup xs=>xs.length<=sizeLine/\∃ its:List Value,Vals xs its/\IsTup h a its.toArray
 | .dK kvs=>kvs.length<=sizeLine/\(a==sysModules)=false/\∃ vs,KV kvs vs/\h.DictOf (zaE P w) a vs
 | .dT kvs=>kvs.length<=sizeLine/\(a==sysModules)=false/\∃ xs:List (List Key×Addr×Value),
   Paired (fun(p:List Key×V) (q:List Key×Addr×Value)=>p.1=q.1/\TAt H q.2.1 (p.1.map kV)/\RelV p.2 q.2.2) kvs xs /\
   ∃ o es ep,h.get? a=some o/\o.ExactDict/\o.data=.dict es ep/\es.toList=xs.map (entryOfKey (tupleKind (zaE P w)))/\(xs.map (·.1)).Nodup
 | .set S n=>h.SetOf (intKind P w) a S n
 | .ins C dx fs=>H dx=some (.own a)/\fs.length<=1000/\dx≠a/\h.get? a=some (PySem.W.instObj C dx) /\
   ∃ mA,h.Ns1 dx mA/\(∀ f,zkS (fs.lookup f) (mA f))/\PySem.Within mA (fs.map (·.1))
 | .own _=>∃ o,h.get? a=some o
 | .xd fs=>∃ mA,h.Ns1 a mA/\∀ f,zkS (fs.lookup f) (mA f)
 | .rng lo hi=>∃ t u v,h.get? a=some { cls:=.type "range",data:=.fields #[.int lo t,.int hi u,.int 1 v] }
 | .frz o u=>h.get? a=some o/\zbc H h a u
 | .tbl ps=>h.get? a=some { cls:=.none,data:=.fields ps }
 | .met f x=>h.get? a=some (PySem.W.methodObj (.ref f) (.ref x))
 | .ext φ=>φ h/\(∃ o,h.get? a=some o)/\∀ h1 h2:Heap,φ h1->(∀ o,h1.get? a=some o->h2.get? a=some o)->φ h2
def HOk(H:Hp)(h:Heap):Prop:=∀ a o,H a=some o->zbc P w H h a o
end
section
variable {P:Program}{w:World}{H H':Hp}{h h':Heap}{a:Addr}{o:HO}
theorem zbc.lt(x:zbc P w H h a o):a<h.objs.size:=by
 cases o with
 | lst xs=>obtain⟨_,_,_,_,e⟩:=x;exact Heap.lt_size e
 | tup xs=>obtain⟨_,_,_,p⟩:=x;exact p.lt
 | dK kvs=>obtain⟨_,_,_,_,o,_,_,e,_⟩:=x;exact Heap.lt_size e
 | dT kvs=>obtain⟨_,_,_,_,o,_,_,e,_⟩:=x;exact Heap.lt_size e
 | set S n=>obtain⟨o,_,_,_,e,_⟩:=x;exact Heap.lt_size e
 | ins C dx fs=>obtain⟨_,_,_,e,_⟩:=x;exact Heap.lt_size e
 | own y=>obtain⟨_,e⟩:=x;exact Heap.lt_size e
 | xd fs=>obtain⟨_,⟨_,_,_,e,_⟩,_⟩:=x;exact Heap.lt_size e
 | rng lo hi=>obtain⟨_,_,_,e⟩:=x;exact Heap.lt_size e
 | frz ob u=>obtain⟨e,_⟩:=x;exact Heap.lt_size e
 | tbl ps=>exact Heap.lt_size (show h.get? a=some _ from x)
 | met f y=>exact Heap.lt_size (show h.get? a=some _ from x)
 | ext φ=>obtain⟨_,⟨_,e⟩,_⟩:=x;exact Heap.lt_size e
theorem Paired.zwh{α β:Type}{F G:α->β->Prop}:∀{l₁:List α} {l₂:List β},Paired F l₁ l₂->(∀ a b,F a b->G a b)->Paired G l₁ l₂
 | _,_,.nil,_=>.nil
 | _,_,.cons r t,f=>.cons (f _ _ r) (Paired.zwh t f)
theorem zbc.stay(x:zbc P w H h a o)(k:∀ b u,(b=a\/H b=some (.own a))->h.get? b=some u->h'.get? b=some u)
  (ho:∀ b,H b=some (.own a)->H' b=some (.own a))(ht:∀ b xs,TAt H b xs->TAt H' b xs):zbc P w H' h' a o:=by
 induction o with
 | lst xs=>obtain⟨z,its,n,r,e⟩:=x;exact⟨z,its,n,r,k _ _ (.inl rfl) e⟩
 | tup xs=>obtain⟨z,its,r,ob,e,c⟩:=x;exact⟨z,its,r,ob,k _ _ (.inl rfl) e,c⟩
 | dK kvs=>obtain⟨z,y,vs,r,ob,es,ep,e,c⟩:=x;exact⟨z,y,vs,r,ob,es,ep,k _ _ (.inl rfl) e,c⟩
 | dT kvs =>
  obtain⟨z,y,xs,r,ob,es,ep,e,c⟩:=x
  exact⟨z,y,xs,Paired.zwh r fun p q z=>⟨z.1,ht _ _ z.2.1,z.2.2⟩,ob,es,ep,k _ _ (.inl rfl) e,c⟩
 | set S n=>obtain⟨ob,es,ep,t,e,c⟩:=x;exact⟨ob,es,ep,t,k _ _ (.inl rfl) e,c⟩
 | ins C dx fs =>
  obtain⟨d,z,ne,e,mA,⟨od,es,ep,e2,c⟩,r⟩:=x
  exact⟨ho _ d,z,ne,k _ _ (.inl rfl) e,mA,⟨od,es,ep,k _ _ (.inr d) e2,c⟩,r⟩
 | own y=>obtain⟨ob,e⟩:=x;exact⟨ob,k _ _ (.inl rfl) e⟩
 | xd fs=>obtain⟨mA,⟨od,es,ep,e,c⟩,r⟩:=x;exact⟨mA,⟨od,es,ep,k _ _ (.inl rfl) e,c⟩,r⟩
 | rng lo hi=>obtain⟨t,u,v,e⟩:=x;exact⟨t,u,v,k _ _ (.inl rfl) e⟩
 | frz ob u ih=>obtain⟨e,q⟩:=x;exact⟨k _ _ (.inl rfl) e,ih q⟩
 | tbl ps =>
  have e:h.get? a=some { cls:=.none,data:=.fields ps }:=x
  show h'.get? a=some { cls:=.none,data:=.fields ps }
  exact k a _ (.inl rfl) e
 | met f y =>
  have e:h.get? a=some (PySem.W.methodObj (.ref f) (.ref y)):=x
  show h'.get? a=some (PySem.W.methodObj (.ref f) (.ref y))
  exact k a _ (.inl rfl) e
 | ext φ=>obtain⟨p,⟨o,e⟩,st⟩:=x;exact⟨st _ _ p fun o q=>k _ _ (.inl rfl) q,⟨o,k _ _ (.inl rfl) e⟩,st⟩
theorem HOk.lt(x:HOk P w H h)(e:H a=some o):a<h.objs.size:=(x a o e).lt
theorem HOk.fresh(x:HOk P w H h)(e:h.objs.size<=a):H a=none:=by
 cases q:H a with
 | none=>rfl
 | some u=>exact absurd (Nat.lt_of_lt_of_le (x.lt q) e) (Nat.lt_irrefl _)
theorem HOk.kept(x:HOk P w H h)(k:∀ b u,h.get? b=some u->h'.get? b=some u):HOk P w H h':=fun a o e =>
 (x a o e).stay (fun b u _ q=>k b u q) (fun _ q=>q) fun _ _ q=>q
theorem HOk.laid(x:HOk P w H h)(k:∀ b u,h.get? b=some u->h'.get? b=some u)(hp:h.objs.size<=a)(new:zbc P w (upd H a o) h' a o):HOk P w (upd H a o) h':=fun b u e=>by
 have hn:=x.fresh hp
 by_cases hb:b=a
 ·subst hb;rw [zan] at e;cases e;exact new
 ·rw [zas hb] at e
  exact(x b u e).stay (fun c v _ q=>k c v q) (fun c q=>by rw [zas (zby q hn)];exact q) fun c xs q=>q.upd (fun _ r=>zby r hn) fun _ _ r=>zby r hn
end
def Rd(H:Hp)(a:Addr)(u:HO):Prop:=H a=some u\/∃ o,H a=some (.frz o u)
theorem Rd.ok{P:Program}{w:World}{H:Hp}{h:Heap}{a:Addr}{u:HO}(r:Rd H a u)(x:HOk P w H h):zbc P w H h a u:=by
 rcases r with r|⟨o,r⟩
 ·exact x a u r
 ·obtain⟨_,q⟩:=x a _ r
  exact q
noncomputable def Mut:Option HO->Prop
 | some (.lst _)=>True
 | some (.dK _)=>True
 | some (.dT _)=>True
 | some (.set _ _)=>True
 | some (.ins _ _ _)=>True
 | some (.ext _)=>True
 | _=>False
section
variable {P:Program}{w:World}{H:Hp}{h h':Heap}{x e:Addr}{o':HO}
theorem HOk.write(ok:HOk P w H h)(mu:Mut (H x))(he:e=x\/H e=some (.own x))(k:∀ b u,b≠e->h.get? b=some u->h'.get? b=some u)(heo:∃ u,h'.get? e=some u)
  (new:zbc P w (upd H x o') h' x o'):HOk P w (upd H x o') h':=fun b u q=>by
 have nown:∀ c y,H c=some (.own y)->c≠x:=fun c y r z=>by subst z;rw [r] at mu;exact mu
 have ntup:∀ c xs,H c=some (.tup xs)->c≠x:=fun c xs r z=>by subst z;rw [r] at mu;exact mu
 by_cases hb:b=x
 ·subst hb;rw [zan] at q;cases q;exact new
 ·rw [zas hb] at q
  by_cases hbe:b=e
  ·have q':H b=some (.own x):=by
    rcases he with z|z
    ·exact absurd (hbe.trans z) hb
    ·rw [hbe];exact z
   rw [q] at q';cases q'
   obtain⟨v,hv⟩:=heo
   exact⟨v,by rw [hbe];exact hv⟩
  ·refine(ok b u q).stay (fun c v hc r=>k c v ?_ r) (fun c r=>by rw [zas (nown c b r)];exact r) fun c xs r=>r.upd (fun ys z=>ntup c ys z) fun o ys z e=>by subst e;rw [z] at mu;exact mu
   rcases hc with rfl|hc
   ·exact hbe
   ·rintro rfl
    rcases he with z|z
    ·exact nown c b hc z
    ·rw [hc] at z;cases z;exact hb rfl
end
structure Un(fs ex:List Addr)(H H':Hp)(h h':Heap):Prop where
 keep:∀ b o,h.get? b=some o->H b=none->b∉fs->b∉ex->h'.get? b=some o
 slot:∀ b o,h.get? b=some o->H b=none->b∈fs->b∉ex->∃ sl,h'.get? b=some { o with slots:=sl }
 free:∀ b o,h.get? b=some o->H b=none->b∉ex->H' b=none
 there:∀ b o,h.get? b=some o->b∉ex->∃ o',h'.get? b=some o'
 tups:∀ b xs,H b=some (.tup xs)->H' b=some (.tup xs)
 frzs:∀ b o u,H b=some (.frz o u)->H' b=some (.frz o u)
 tbls:∀ b ps,H b=some (.tbl ps)->∃ more,H' b=some (.tbl (ps++more))
section
variable {fs fs' ex ex':List Addr}{H H1 H2:Hp}{h h1 h2 h':Heap}{a x e:Addr}{o:HO}
theorem Un.any(u:Un fs ex H H1 h h1){b:Addr}{ob:Obj}(q:h.get? b=some ob)(n:H b=none)(hx:b∉ex):∃ sl,h1.get? b=some { ob with slots:=sl }:=by
 by_cases hb:b∈fs
 ·exact u.slot b ob q n hb hx
 ·exact⟨ob.slots,u.keep b ob q n hb hx⟩
theorem Un.kept(k:∀ b u,h.get? b=some u->h'.get? b=some u):Un fs ex H H h h' :=
 ⟨fun b ob q _ _ _=>k b ob q,fun b ob q _ _ _=>⟨ob.slots,k b ob q⟩,fun _ _ _ n _=>n,fun b ob q _=>⟨ob,k b ob q⟩,fun _ _ q=>q,fun _ _ _ q=>q,fun _ ps q=>⟨#[],by rw [q];simp⟩⟩
theorem Un.refl:Un fs ex H H h h:=Un.kept fun _ _ q=>q
theorem Un.laid(k:∀ b u,h.get? b=some u->h'.get? b=some u)(hp:h.objs.size<=a)(hn:H a=none):Un fs ex H (upd H a o) h h' where
 keep:=fun b u q _ _ _=>k b u q
 slot:=fun b u q _ _ _=>⟨u.slots,k b u q⟩
 free:=fun b u q n _=>by rw [zas (Nat.ne_of_lt (Nat.lt_of_lt_of_le (Heap.lt_size q) hp))];exact n
 there:=fun b u q _=>⟨u,k b u q⟩
 tups:=fun b xs q=>by rw [zas (zby q hn)];exact q
 frzs:=fun b u xs q=>by rw [zas (zby q hn)];exact q
 tbls:=fun b ps q=>⟨#[],by rw [zas (zby q hn),q];simp⟩
theorem Un.write(mu:Mut (H x))(he:e=x\/H e=some (.own x))(k:∀ b u,b≠e->h.get? b=some u->h'.get? b=some u)(heo:∃ u,h'.get? e=some u):Un fs ex H (upd H x o) h h':=by
 have hx:∀ b,H b=none->b≠x:=fun b n z=>by subst z;rw [n] at mu;exact mu
 have hb:∀ b,H b=none->b≠e:=fun b n z=>by
  subst z
  rcases he with r|r
  ·exact hx b n r
  ·rw [n] at r;cases r
 have hm:∀ b u,H b=some u->¬ Mut (some u)->b≠x:=fun b u q nm z=>by subst z;rw [q] at mu;exact nm mu
 refine⟨fun b u q n _ _=>k b u (hb b n) q,fun b u q n _ _=>⟨u.slots,k b u (hb b n) q⟩,fun b u q n _=>by rw [zas (hx b n)];exact n,fun b u q _=>?_,
  fun b xs q=>by rw [zas (hm b _ q fun z=>z)];exact q,fun b u xs q=>by rw [zas (hm b _ q fun z=>z)];exact q,fun b ps q=>⟨#[],by rw [zas (hm b _ q fun z=>z),q];simp⟩⟩
 by_cases hbe:b=e
 ·subst hbe;exact heo
 ·exact⟨u,k b u hbe q⟩
end
noncomputable def trk(h:Heap)(H:Hp):List Addr:=(List.range h.objs.size).filter fun a=>(H a).isSome
noncomputable def zp3(h:Heap)(H:Hp):Heap:=PySem.W.hideAll h (trk h H)
theorem znZ(h:Heap)(H:Hp):(zp3 h H).objs.size=h.objs.size:=PySem.W.hideAll_size _ _
theorem zp2{h:Heap}{H:Hp}{b:Addr}{o:Obj}(e:h.get? b=some o)(n:H b=none):(zp3 h H).get? b=some o :=
 PySem.W.hideAll_get _ e fun hm=>by
  have q:(H b).isSome=true:=(List.mem_filter.mp hm).2
  rw [n] at q;simp at q
theorem zsa{h:Heap}{H:Hp}{b:Addr}{o:Obj}(e:(zp3 h H).get? b=some o):h.get? b=some o/\H b=none:=by
 have e':h.get? b=some o:=PySem.W.of_hideAll (trk h H) e
 refine⟨e',?_⟩
 cases q:H b with
 | none=>rfl
 | some x =>
  have hm:b∈trk h H:=List.mem_filter.mpr ⟨List.mem_range.mpr (Heap.lt_size e'),by simp [q]⟩
  have z:(zp3 h H).get? b=none:=PySem.W.hideAll_none (trk h H) hm
  rw [z] at e;cases e
noncomputable def zsP(g h:Heap)(L:Addr):List (Addr×Obj):=(List.range h.objs.size).filterMap fun a=>if a=L\/(g.get? a).isSome=true then none else(h.get? a).map fun o=>(a,o)
noncomputable def rest(g h:Heap)(L d:Addr):List (Addr×Obj):=(zsP g h L).filter fun p=>decide (p.1≠d)
end
section
structure Mod(K:W.Frag)(mg:Str->Option Value)(base:Heap):Prop where
 kin:K.In base
 glob:base.Ns mainGlobals mg
 blt:∃ mb,base.Ns builtinsNs mb/\∀ x:Str,x ≠ "__name__"->mb x=bootBuiltins x
 nolimit:base.NoLimit
 seer:base.NoSeer
def zxX(l:List Env):Prop:=∃ env r,l=env::r/\env.scope.isGenerator=false/\env.scope.isCoroutine=false/\env.builtins=builtinsNs/\env.globals=mainGlobals
structure Cx where
 prog:Program
 w:World
 K:W.Frag
 mg:Str->Option Value
 base:Heap
 A:Around
 N:List Str
 s₀:Shared
 H₀:Hp
 env:Env
 outer:List Env
 stack:List Env
 ex:List Addr
 fn:Str->Bool
 calm:Bool
 pn:List (Addr×Obj)
 xe:Value->Shared->Prop
noncomputable def frs(l:List Env):List Addr:=l.filterMap (·.frame)
abbrev Cx.fs(X:Cx):List Addr:=frs X.outer
def Vis(sc:Scope)(x:Str):Prop:=sc.names.lookup x=some .local\/sc.names.lookup x=some .cell\/sc.names.lookup x=some .free
def Loc(sc:Scope)(x:Str):Prop:=sc.names.lookup x=some .local\/sc.names.lookup x=some .cell
def Look(env:Env)(h:Heap)(m:Str->Option Value)(x:Str)(u:Value):Prop :=
 (env.kindOf x=some .local/\m x=some u)\/((env.kindOf x=some .cell\/env.kindOf x=some .free)/\∃ c,env.cells.lookup x=some c/\h.IsCell c (some u))
structure Cx.Ok(X:Cx):Prop where
 mod:Mod X.K X.mg X.base
 kind:X.env.scope.kind=.function
 glob:X.env.globals=mainGlobals
 blt:X.env.builtins=builtinsNs
 above:X.s₀.heap.objs.size<=X.env.locals
 inj:∀ x y c,X.env.cells.lookup x=some c->X.env.cells.lookup y=some c->x=y
 has:∀ x,(X.env.kindOf x=some .cell\/X.env.kindOf x=some .free)->∃ c,X.env.cells.lookup x=some c
 cab:∀ x c,X.fn x=true->X.env.cells.lookup x=some c->X.s₀.heap.objs.size<=c
 hd:X.calm=true->X.A.handled=none
 frames:X.A.frames=some X.stack
 stk:X.stack=X.outer\/(X.stack=X.env::X.outer/\X.env.frame=some X.env.locals)
 exf:∀ b∈X.ex,b≠X.env.locals/\∀ x c,X.env.cells.lookup x=some c->c≠b
 bs:∀ b o,X.base.get? b=some o->X.s₀.heap.get? b=some o/\X.H₀ b=none
 bsz:X.base.objs.size<=X.s₀.heap.objs.size
 noex:∀ b o,X.base.get? b=some o->b∉X.ex
 exfs:∀ b∈X.ex,b∉X.fs
 zmk:X.s₀.heap.FunFrames X.base X.outer
 frf:∀ b∈X.fs,X.H₀ b=none
 tree:X.prog.given.tree=none
 sk:zxX X.stack
structure Inv(X:Cx)(pins:List (Addr×Obj))(σ:List (Option V))(H:Hp)(s:Shared):Prop where
 ok:X.Ok
 os:s.os=X.s₀.os
 bare:AllBare s.gens
 base:Un X.fs X.ex X.H₀ H X.s₀.heap s.heap
 loc:∃ m,s.heap.Ns X.env.locals m/\∀(i:Nat) (x:Str) (v:V),X.N[i]?=some x->σ[i]?=some (some v)->Vis X.env.scope x->∃ u,RelV v u/\Look X.env s.heap m x u
 cell:∀ x c,X.env.cells.lookup x=some c->∃ v,s.heap.IsCell c v
 free:H X.env.locals=none
 freeC:∀ x c,X.env.cells.lookup x=some c->H c=none
 pin:∀ p∈X.pn++pins,s.heap.get? p.1=some p.2/\H p.1=none/\p.1≠X.env.locals/\p.1∉X.fs/\∀ v,p.2.data≠.cell v
 hok:HOk X.prog X.w H s.heap
 len:σ.length=X.N.length
section
variable {X:Cx}{pins:List (Addr×Obj)}{σ:List (Option V)}{H H':Hp}{s:Shared}{h':Heap}
theorem Cx.Ok.zxG(ok:X.Ok){b:Addr}{o:Obj}(e:X.base.get? b=some o):b∉X.fs:=fun hb=>by
 have:=(ok.zmk.mem hb).1
 rw [e] at this;cases this
theorem Inv.bs(I:Inv X pins σ H s):∀ b o,X.base.get? b=some o->s.heap.get? b=some o/\H b=none:=fun b o e =>
 ⟨I.base.keep b o (I.ok.bs b o e).1 (I.ok.bs b o e).2 (I.ok.zxG e) (I.ok.noex b o e),I.base.free b o (I.ok.bs b o e).1 (I.ok.bs b o e).2 (I.ok.noex b o e)⟩
theorem Inv.bk(I:Inv X pins σ H s):∀ b o,X.base.get? b=some o->s.heap.get? b=some o:=fun b o e=>(I.bs b o e).1
theorem Inv.mod(I:Inv X pins σ H s):Mod X.K X.mg X.base:=I.ok.mod
theorem Inv.kIn(I:Inv X pins σ H s):X.K.In s.heap:=I.ok.mod.kin.keeps I.bk
theorem Inv.nolimit(I:Inv X pins σ H s):s.heap.NoLimit:=I.ok.mod.nolimit.keeps I.bk
theorem Inv.lt(I:Inv X pins σ H s):X.env.locals<s.heap.objs.size:=let⟨_,hn,_⟩:=I.loc;hn.lt
theorem Inv.sz(I:Inv X pins σ H s):X.s₀.heap.objs.size<=s.heap.objs.size:=Nat.le_trans I.ok.above (Nat.le_of_lt I.lt)
theorem Inv.zxF(I:Inv X pins σ H s){a:Addr}(h:s.heap.objs.size<=a):a∉X.fs:=fun hb=>by
 obtain⟨_,o,ho,_⟩:=I.ok.zmk.mem hb
 exact absurd (Nat.lt_of_lt_of_le (Heap.lt_size ho) (Nat.le_trans I.sz h)) (Nat.lt_irrefl _)
theorem Inv.cne(I:Inv X pins σ H s):∀ x c,X.env.cells.lookup x=some c->c≠X.env.locals:=fun x c e z=>by
 obtain⟨v,o,ho,hd⟩:=I.cell x c e
 obtain⟨m,⟨o',es,ep,ho',hd',_⟩,_⟩:=I.loc
 rw [z,ho'] at ho;cases ho;rw [hd'] at hd;cases hd
theorem Inv.zmk(I:Inv X pins σ H s):s.heap.FunFrames X.base X.outer:=by
 have all:∀(l:List Env),(∀ b∈frs l,b∈X.fs)->X.s₀.heap.FunFrames X.base l->s.heap.FunFrames X.base l:=by
  intro l
  induction l with
  | nil=>intro _ _;trivial
  | cons env r ih =>
   intro hs hl
   obtain⟨hk,⟨L,o,hf,hn,ho,hd⟩,hr⟩:=hl
   have hL:L∈X.fs:=hs L (by unfold frs;rw [List.filterMap_cons,hf];exact List.mem_cons_self)
   obtain⟨sl,e⟩:=I.base.slot L o ho (I.ok.frf L hL) hL fun z=>I.ok.exfs L z hL
   exact⟨hk,⟨L,_,hf,hn,e,hd⟩,ih (fun b hb=>hs b (by unfold frs;rw [List.filterMap_cons,hf];exact List.mem_cons_of_mem _ hb)) hr⟩
 exact all X.outer (fun _ hb=>hb) I.ok.zmk
theorem Inv.stack(I:Inv X pins σ H s):s.heap.FunFrames X.base X.stack:=by
 rcases I.ok.stk with e|⟨e,hf⟩
 ·rw [e];exact I.zmk
 ·rw [e]
  obtain⟨m,hn,_⟩:=I.loc
  refine .cons (by rw [I.ok.kind];decide) hf hn ?_ I.zmk
  exact Heap.get?_none_of_le (Nat.le_trans I.ok.bsz I.ok.above)
theorem Inv.zmJ(I:Inv X pins σ H s):∀ b∈frs X.stack,b∈X.env.locals::X.fs:=fun b hb=>by
 rcases I.ok.stk with e|⟨e,hf⟩
 ·rw [e] at hb;exact List.mem_cons_of_mem _ hb
 ·rw [e] at hb
  unfold frs at hb
  rw [List.filterMap_cons,hf] at hb
  exact hb
theorem Inv.zmK(I:Inv X pins σ H s):∀ b∈frs X.stack,H b=none:=fun b hb=>by
 rcases List.mem_cons.mp (I.zmJ b hb) with e|hb
 ·rw [e];exact I.free
 ·obtain⟨_,o,ho,_⟩:=I.ok.zmk.mem hb
  exact I.base.free b o ho (I.ok.frf b hb) fun z=>I.ok.exfs b z hb
theorem Inv.step{g':Array GenState}{t':Nat}{d':Drawn}{ch:List Addr}(I:Inv X pins σ H s)
  (hch:∀ b∈ch,(b∈X.ex\/X.s₀.heap.objs.size<=b)/\b≠X.env.locals/\(∀ x c,X.env.cells.lookup x=some c->c≠b)/\∀ p∈X.pn++pins,p.1≠b)
  (keep:∀ b o,b≠X.env.locals->b∉X.fs->b∉ch->s.heap.get? b=some o->H b=none->h'.get? b=some o)
  (slot:∀ b o,b≠X.env.locals->b∈X.fs->b∉ch->s.heap.get? b=some o->H b=none->∃ sl,h'.get? b=some { o with slots:=sl })(free:∀ b o,b∉ch->s.heap.get? b=some o->H b=none->H' b=none)
  (there:∀ b o,b∉ch->s.heap.get? b=some o->∃ o',h'.get? b=some o')
  (tups:∀ b xs,H b=some (.tup xs)->H' b=some (.tup xs))(frzs:∀ b o u,H b=some (.frz o u)->H' b=some (.frz o u))(tbls:∀ b ps,H b=some (.tbl ps)->∃ more,H' b=some (.tbl (ps++more)))
  (ns:∀ m,s.heap.Ns X.env.locals m->h'.Ns X.env.locals m)(hok:HOk X.prog X.w H' h')(hg:AllBare g') :
  Inv X pins σ H' { s with heap:=h',gens:=g',drawn:=d',toks:=t' }:=by
 have neL:∀ b o,X.s₀.heap.get? b=some o->b≠X.env.locals:=fun b o e=>Nat.ne_of_lt (Nat.lt_of_lt_of_le (Heap.lt_size e) I.ok.above)
 have neC:∀ b o,X.s₀.heap.get? b=some o->b∉X.ex->b∉ch:=fun b o e hx hb=>by
  rcases (hch b hb).1 with z|z
  ·exact hx z
  ·exact absurd (Nat.lt_of_lt_of_le (Heap.lt_size e) z) (Nat.lt_irrefl _)
 have cellK:∀ x c,X.env.cells.lookup x=some c->∀ v,s.heap.IsCell c v->h'.IsCell c v:=fun x c e v ⟨o,ho,hd⟩=>by
  have nch:c∉ch:=fun z=>(hch c z).2.2.1 x c e rfl
  by_cases hc:c∈X.fs
  ·obtain⟨sl,q⟩:=slot c o (I.cne x c e) hc nch ho (I.freeC x c e)
   exact⟨_,q,hd⟩
  ·exact⟨o,keep c o (I.cne x c e) hc nch ho (I.freeC x c e),hd⟩
 refine⟨I.ok,I.os,hg,⟨fun b o e n hb hx=>?_,fun b o e n hb hx=>?_,fun b o e n hx=>?_,fun b o e hx=>?_,fun b xs e=>tups b xs (I.base.tups b xs e),fun b o xs e=>frzs b o xs (I.base.frzs b o xs e),fun b ps e=>?_⟩,?_,fun x c e=>?_,?_,fun x c e=>?_,fun p hp=>?_,hok,I.len⟩
 ·exact keep b o (neL b o e) hb (neC b o e hx) (I.base.keep b o e n hb hx) (I.base.free b o e n hx)
 ·obtain⟨sl,e1⟩:=I.base.slot b o e n hb hx
  obtain⟨sl',e2⟩:=slot b _ (neL b o e) hb (neC b o e hx) e1 (I.base.free b o e n hx)
  exact⟨sl',e2⟩
 ·obtain⟨o',e1⟩:=I.base.there b o e hx
  exact free b o' (neC b o e hx) e1 (I.base.free b o e n hx)
 ·obtain⟨o',e1⟩:=I.base.there b o e hx
  exact there b o' (neC b o e hx) e1
 ·obtain⟨m1,e1⟩:=I.base.tbls b ps e
  obtain⟨m2,e2⟩:=tbls b _ e1
  exact⟨m1++m2,by rw [e2,Array.append_assoc]⟩
 ·obtain⟨m,hn,hl⟩:=I.loc
  refine⟨m,ns m hn,fun i x v e1 e2 e3=>?_⟩
  obtain⟨u,r,l⟩:=hl i x v e1 e2 e3
  refine⟨u,r,?_⟩
  rcases l with l|⟨k,c,e,z⟩
  ·exact .inl l
  ·exact .inr ⟨k,c,e,cellK x c e _ z⟩
 ·obtain⟨v,z⟩:=I.cell x c e
  exact⟨v,cellK x c e v z⟩
 ·obtain⟨m,⟨o,_,_,ho,_⟩,_⟩:=I.loc
  exact free _ o (fun z=>(hch _ z).2.1 rfl) ho I.free
 ·obtain⟨v,o,ho,hd⟩:=I.cell x c e
  exact free c o (fun z=>(hch c z).2.2.1 x c e rfl) ho (I.freeC x c e)
 ·obtain⟨e,n,ne,nf,d⟩:=I.pin p hp
  have nch:p.1∉ch:=fun z=>(hch p.1 z).2.2.2 p hp rfl
  exact⟨keep p.1 p.2 ne nf nch e n,free p.1 p.2 nch e n,ne,nf,d⟩
theorem Inv.un{t':Nat}(I:Inv X pins σ H s)(u:Un X.fs [] H H' s.heap h')(hok:HOk X.prog X.w H' h'):Inv X pins σ H' { s with heap:=h',toks:=t' }:=by
 obtain⟨m,⟨o,es,ep,ho,r⟩,_⟩:=id I.loc
 obtain⟨sl,hL⟩:=u.any ho I.free (by simp)
 exact I.step (g':=s.gens) (d':=s.drawn) (ch:=[]) (fun _ z=>nomatch z) (fun b o _ hb _ e n=>u.keep b o e n hb (by simp)) (fun b o _ hb _ e n=>u.slot b o e n hb (by simp)) (fun b o _ e n=>u.free b o e n (by simp)) (fun b o _ e=>u.there b o e (by simp)) u.tups u.frzs u.tbls (fun m' hm=>by
  obtain⟨o',es',ep',ho',r'⟩:=hm
  rw [ho] at ho';cases ho'
  exact⟨_,es',ep',hL,r'⟩) hok I.bare
theorem Inv.call{g':Array GenState}{t':Nat}{d':Drawn}{ch:List Addr}(I:Inv X pins σ H s)(u:Un (frs X.stack) ch H H' s.heap h')(hok:HOk X.prog X.w H' h')(hg:AllBare g')
  (hch:∀ b∈ch,(b∈X.ex\/X.s₀.heap.objs.size<=b)/\b≠X.env.locals/\(∀ x c,X.env.cells.lookup x=some c->c≠b)/\∀ p∈X.pn++pins,p.1≠b) :
  Inv X pins σ H' { s with heap:=h',gens:=g',drawn:=d',toks:=t' }:=by
 obtain⟨m,⟨o,es,ep,ho,r⟩,_⟩:=id I.loc
 obtain⟨sl,hL⟩:=u.any ho I.free fun z=>(hch _ z).2.1 rfl
 exact I.step (ch:=ch) hch (fun b o hL hb hc e n=>u.keep b o e n (fun z=>(List.mem_cons.mp (I.zmJ b z)).elim hL hb) hc) (fun b o _ _ hc e n=>u.any e n hc) (fun b o hc e n=>u.free b o e n hc) (fun b o hc e=>u.there b o e hc) u.tups u.frzs u.tbls (fun m' hm=>by
  obtain⟨o',es',ep',ho',r'⟩:=hm
  rw [ho] at ho';cases ho'
  exact⟨_,es',ep',hL,r'⟩) hok hg
theorem Inv.turned{t':Nat}{it:Addr}(I:Inv X pins σ H s)(k:∀ b o,b≠it->s.heap.get? b=some o->h'.get? b=some o)(hn:H it=none)(hL:it≠X.env.locals)
  (h1:it∈X.ex\/X.s₀.heap.objs.size<=it)(h2:∀ x c,X.env.cells.lookup x=some c->c≠it)(h3:∀ p∈X.pn++pins,p.1≠it):Inv X pins σ H { s with heap:=h',toks:=t' }:=by
 have nit:∀ b u,H b=some u->b≠it:=fun b u e z=>by rw [z,hn] at e;cases e
 refine I.step (g':=s.gens) (d':=s.drawn) (ch:=[it]) (fun b hb=>?_) (fun b o _ _ hc e _=>k b o (fun z=>hc (by simp [z])) e) (fun b o _ _ hc e _=>⟨o.slots,k b o (fun z=>hc (by simp [z])) e⟩) (fun _ _ _ _ n=>n)
  (fun b o hc e=>⟨o,k b o (fun z=>hc (by simp [z])) e⟩) (fun _ _ e=>e) (fun _ _ _ e=>e) (fun b ps e=>⟨#[],by rw [e];simp⟩) (fun m hm=>?_) (fun b u e=>?_) I.bare
 ·have e:b=it:=by simpa using hb
  subst e
  exact⟨h1,hL,h2,h3⟩
 ·obtain⟨o,es,ep,ho,r⟩:=hm
  exact⟨o,es,ep,k _ o (Ne.symm hL) ho,r⟩
 ·refine(I.hok b u e).stay (fun c v hc q=>k c v ?_ q) (fun _ q=>q) fun _ _ q=>q
  rcases hc with z|z
  ·rw [z];exact nit b u e
  ·exact nit c _ z
theorem Inv.tok(I:Inv X pins σ H s)(t:Nat):Inv X pins σ H { s with toks:=t }:=I.un (h':=s.heap) (t':=t) Un.refl I.hok
theorem Inv.kept{t':Nat}(I:Inv X pins σ H s)(k:∀ b u,s.heap.get? b=some u->h'.get? b=some u):Inv X pins σ H { s with heap:=h',toks:=t' }:=I.un (Un.kept k) (I.hok.kept k)
theorem Inv.laid{a:Addr}{o:HO}{t':Nat}(I:Inv X pins σ H s)(k:∀ b u,s.heap.get? b=some u->h'.get? b=some u)(hp:s.heap.objs.size<=a)(new:zbc X.prog X.w (upd H a o) h' a o) :
  Inv X pins σ (upd H a o) { s with heap:=h',toks:=t' }:=I.un (Un.laid k hp (I.hok.fresh hp)) (I.hok.laid k hp new)
theorem Inv.write{x e:Addr}{o:HO}{t':Nat}(I:Inv X pins σ H s)(mu:Mut (H x))(he:e=x\/H e=some (.own x))(k:∀ b u,b≠e->s.heap.get? b=some u->h'.get? b=some u)(heo:∃ u,h'.get? e=some u)
  (new:zbc X.prog X.w (upd H x o) h' x o):Inv X pins σ (upd H x o) { s with heap:=h',toks:=t' }:=I.un (Un.write mu he k heo) (I.hok.write mu he k heo new)
theorem Inv.weak{σ':List (Option V)}(I:Inv X pins σ H s)(hl:σ'.length=σ.length)(w:∀(i:Nat) v,σ'[i]?=some (some v)->σ[i]?=some (some v)):Inv X pins σ' H s :=
 ⟨I.ok,I.os,I.bare,I.base,let⟨m,hn,hl'⟩:=I.loc;⟨m,hn,fun i x v e1 e2 e3=>hl' i x v e1 (w i v e2) e3⟩,I.cell,I.free,I.freeC,I.pin,I.hok,hl.trans I.len⟩
theorem Inv.zh8{pins':List (Addr×Obj)}(I:Inv X pins σ H s)(h:∀ p∈pins',s.heap.get? p.1=some p.2/\H p.1=none/\p.1≠X.env.locals/\p.1∉X.fs/\∀ v,p.2.data≠.cell v):Inv X pins' σ H s :=
 ⟨I.ok,I.os,I.bare,I.base,I.loc,I.cell,I.free,I.freeC,fun p hp=>(List.mem_append.mp hp).elim (fun z=>I.pin p (List.mem_append_left _ z)) (h p),I.hok,I.len⟩
theorem zll{N:List Str}(hN:N.Nodup){i j:Nat}{x:Str}(a:N[i]?=some x)(b:N[j]?=some x):i=j:=by
 obtain⟨h1,e1⟩:=List.getElem?_eq_some_iff.mp a
 obtain⟨h2,e2⟩:=List.getElem?_eq_some_iff.mp b
 exact(List.getElem_inj hN).mp (e1.trans e2.symm)
theorem zmI{M:Model}{A:Around}{E:Value->Shared->Prop}{i:Nat}{x:Str}{v:V}{u:Value}{Q:Unit->Shared->Prop}(I:Inv X pins σ H s)(hN:X.N.Nodup)(hi:X.N[i]?=some x)(hx:Loc X.env.scope x)(r:RelV v u)
  (h:∀ s',Inv X pins (σ.set i (some v)) H s'->(∃ a,Heap.SameBut a s.heap s'.heap/\(a=X.env.locals\/X.env.cells.lookup x=some a))->Q () s')(hf:X.fn x=true\/X.env.scope.names.lookup x=some .local:=by first|exact .inl rfl|exact .inr rfl|assumption):wpAny M A (storeName X.env x u) Q E s:=by
 obtain⟨m,hn,hl⟩:=id I.loc
 have hcls:(X.env.scope.kind==.class||(X.env.scope.kind==.module&&X.env.locals != X.env.globals))=false:=by rw [I.ok.kind];rfl
 have hiσ:i<σ.length:=by rw [I.len];exact(List.getElem?_eq_some_iff.mp hi).1
 have cne:=I.cne
 have tracked:∀{a:Addr} {h':Heap},(∃ o,s.heap.get? a=some o/\H a=none)->Heap.SameBut a s.heap h'->HOk X.prog X.w H h':=fun{a h'} ha hs b ob e=>by
  obtain⟨_,_,hfree⟩:=ha
  refine(I.hok b ob e).stay (fun c w' hc q=>(hs.2 c ?_).trans q) (fun _ q=>q) fun _ _ q=>q
  rintro rfl
  rcases hc with rfl|hc
  ·rw [hfree] at e;cases e
  ·rw [hfree] at hc;cases hc
 rcases hx with hk|hk
 ·refine wpAny_storeName_local hk hn (fun h' hn' hs=>?_) hcls
  obtain⟨oL,_,_,hoL,_⟩:=id hn
  refine h _ ⟨I.ok,I.os,I.bare,⟨fun b o e n hb hx=>?_,fun b o e n hb hx=>?_,I.base.free,fun b o e hx=>?_,I.base.tups,I.base.frzs,I.base.tbls⟩,⟨_,hn',fun j y v' e1 e2 e3=>?_⟩,fun y c e=>?_,I.free,I.freeC,fun p hp=>?_,tracked ⟨oL,hoL,I.free⟩ hs,by simpa using I.len⟩ ⟨_,hs,.inl rfl⟩
  ·exact(hs.2 b (Nat.ne_of_lt (Nat.lt_of_lt_of_le (Heap.lt_size e) I.ok.above))).trans (I.base.keep b o e n hb hx)
  ·obtain⟨sl,e1⟩:=I.base.slot b o e n hb hx
   exact⟨sl,(hs.2 b (Nat.ne_of_lt (Nat.lt_of_lt_of_le (Heap.lt_size e) I.ok.above))).trans e1⟩
  ·obtain⟨o',e1⟩:=I.base.there b o e hx
   exact⟨o',(hs.2 b (Nat.ne_of_lt (Nat.lt_of_lt_of_le (Heap.lt_size e) I.ok.above))).trans e1⟩
  ·by_cases hj:j=i
   ·subst hj
    rw [hi] at e1;cases e1
    rw [List.getElem?_set_self hiσ] at e2
    cases e2
    exact⟨u,r,.inl ⟨hk,by simp⟩⟩
   ·rw [List.getElem?_set_ne (Ne.symm hj)] at e2
    obtain⟨u',r',q⟩:=hl j y v' e1 e2 e3
    refine⟨u',r',?_⟩
    rcases q with⟨k,e⟩|⟨k,c,e,z⟩
    ·refine .inl ⟨k,?_⟩
     have:y≠x:=fun e=>hj (zll hN e1 (e▸hi))
     simp [this,e]
    ·exact .inr ⟨k,c,e,z.sameBut hs (cne y c e)⟩
  ·obtain⟨w',z⟩:=I.cell y c e
   exact⟨w',z.sameBut hs (cne y c e)⟩
  ·obtain⟨e,n,ne,nf,d⟩:=I.pin p hp
   exact⟨(hs.2 p.1 ne).trans e,n,ne,nf,d⟩
 ·have hfn:X.fn x=true:=by
   rcases hf with z|z
   ·exact z
   ·rw [z] at hk;cases hk
  obtain⟨c,hc⟩:=I.ok.has x (.inl hk)
  obtain⟨w',z⟩:=I.cell x c hc
  refine wpAny_storeName_cell I.ok.kind hk hc z (fun h' hc' hs=>?_)
  obtain⟨oc,hoc,hocd⟩:=id z
  refine h { s with heap:=h' } ⟨I.ok,I.os,I.bare,⟨fun b o e n hb hx=>?_,fun b o e n hb hx=>?_,I.base.free,fun b o e hx=>?_,I.base.tups,I.base.frzs,I.base.tbls⟩,⟨m,hn.sameBut hs (Ne.symm (cne x c hc)),fun j y v' e1 e2 e3=>?_⟩,fun y c' e=>?_,I.free,I.freeC,fun p hp=>?_,tracked ⟨oc,hoc,I.freeC x c hc⟩ hs,by simpa using I.len⟩ ⟨c,hs,.inr hc⟩
  ·exact(hs.2 b (Nat.ne_of_lt (Nat.lt_of_lt_of_le (Heap.lt_size e) (I.ok.cab x c hfn hc)))).trans (I.base.keep b o e n hb hx)
  ·obtain⟨sl,e1⟩:=I.base.slot b o e n hb hx
   exact⟨sl,(hs.2 b (Nat.ne_of_lt (Nat.lt_of_lt_of_le (Heap.lt_size e) (I.ok.cab x c hfn hc)))).trans e1⟩
  ·obtain⟨o',e1⟩:=I.base.there b o e hx
   exact⟨o',(hs.2 b (Nat.ne_of_lt (Nat.lt_of_lt_of_le (Heap.lt_size e) (I.ok.cab x c hfn hc)))).trans e1⟩
  ·by_cases hj:j=i
   ·subst hj
    rw [hi] at e1;cases e1
    rw [List.getElem?_set_self hiσ] at e2
    cases e2
    exact⟨u,r,.inr ⟨.inl hk,c,hc,hc'⟩⟩
   ·rw [List.getElem?_set_ne (Ne.symm hj)] at e2
    obtain⟨u',r',q⟩:=hl j y v' e1 e2 e3
    refine⟨u',r',?_⟩
    rcases q with q|⟨k,c',e,z'⟩
    ·exact .inl q
    ·refine .inr ⟨k,c',e,z'.sameBut hs ?_⟩
     rintro rfl
     exact hj (zll hN e1 (I.ok.inj _ _ _ e hc▸hi))
  ·by_cases hcc:c'=c
   ·subst hcc;exact⟨_,hc'⟩
   ·obtain⟨w2,z2⟩:=I.cell y c' e
    exact⟨w2,z2.sameBut hs hcc⟩
  ·obtain⟨e,n,ne,nf,d⟩:=I.pin p hp
   refine⟨(hs.2 p.1 ?_).trans e,n,ne,nf,d⟩
   intro q
   rw [q,hoc] at e
   have q':oc=p.2:=Option.some.inj e
   exact d w' (by rw [<- q'];exact hocd)
theorem zfG{M:Model}{A:Around}{E:Value->Shared->Prop}{i:Nat}{x:Str}{v:V}{u:Value}{Q:Unit->Shared->Prop}(I:Inv X pins σ H s)(hN:X.N.Nodup)(hi:X.N[i]?=some x)(hx:Loc X.env.scope x)(r:RelV v u)
  (h:∀ s',Inv X pins (σ.set i (some v)) H s'->Q () s')(hf:X.fn x=true\/X.env.scope.names.lookup x=some .local:=by first|exact .inl rfl|exact .inr rfl|assumption):wpAny M A (storeName X.env x u) Q E s :=
 zmI I hN hi hx r (fun s' I' _=>h s' I') hf
theorem Inv.call'{s':Shared}{ch:List Addr}(I:Inv X pins σ H s)(ho:s'.os=s.os)(u:Un (frs X.stack) ch H H' s.heap s'.heap)(hok:HOk X.prog X.w H' s'.heap)(hg:AllBare s'.gens)
  (hch:∀ b∈ch,(b∈X.ex\/X.s₀.heap.objs.size<=b)/\b≠X.env.locals/\(∀ x c,X.env.cells.lookup x=some c->c≠b)/\∀ p∈X.pn++pins,p.1≠b):Inv X pins σ H' s':=by
 obtain⟨h',g',d',t',o'⟩:=s'
 have e:o'=s.os:=ho
 subst e
 exact I.call (g':=g') (t':=t') (d':=d') u hok hg hch
end
abbrev XK:=Value->Option Addr->Hp->Prop
abbrev St:=List (Option V)
abbrev VK:=V->Hp->Prop
abbrev TE:=St->Hp->VK->Prop
abbrev TT:=St->Hp->(Bool->Hp->Prop)->Prop
abbrev TA:=St->Hp->(List V->Hp->Prop)->Prop
structure Ends where
 nx:St->Hp->Prop
 rt:VK
 bk:St->Hp->Prop:=fun _ _=>False
 ct:St->Hp->Prop:=fun _ _=>False
abbrev TS:=Ends->St->Hp->Prop
def EP(X:Cx)(pins:List (Addr×Obj))(σ:St)(Q:VK)(u:Value)(s':Shared):Prop:=∃ v H',Inv X pins σ H' s'/\RelV v u/\Q v H'
def TP(X:Cx)(pins:List (Addr×Obj))(σ:St)(Q:Bool->Hp->Prop)(b:Bool)(s':Shared):Prop:=∃ H',Inv X pins σ H' s'/\Q b H'
def AP(X:Cx)(pins:List (Addr×Obj))(σ:St)(Q:List V->Hp->Prop)(us:List Value)(s':Shared):Prop:=∃ vs H',Inv X pins σ H' s'/\Vals vs us/\Q vs H'
def SP(X:Cx)(pins:List (Addr×Obj))(D:Ends)(f:Flow)(s':Shared):Prop :=
 match f with
 | .next=>∃ σ' H',Inv X pins σ' H' s'/\D.nx σ' H'
 | .brk=>∃ σ' H',Inv X pins σ' H' s'/\D.bk σ' H'
 | .cont=>∃ σ' H',Inv X pins σ' H' s'/\D.ct σ' H'
 | .ret u=>∃ v σ' H',Inv X pins σ' H' s'/\RelV v u/\D.rt v H'
def PE(X:Cx)(e:Expr)(t:TE):Prop :=
 ∀(pins:List (Addr×Obj)) (s:Shared) (σ:St) (H:Hp) (Q:VK),Inv X pins σ H s->t σ H Q->wpAny (model X.prog X.w) X.A (eval e X.env) (EP X pins σ Q) X.xe s
def PT(X:Cx)(e:Expr)(t:TT):Prop :=
 ∀(pins:List (Addr×Obj)) (s:Shared) (σ:St) (H:Hp) (Q:Bool->Hp->Prop),Inv X pins σ H s->t σ H Q->wpAny (model X.prog X.w) X.A (isTrue e X.env (eval e X.env)) (TP X pins σ Q) X.xe s
def PW(X:Cx)(e:Expr)(t:TT):Prop :=
 ∀(whole:Sem Value) (pins:List (Addr×Obj)) (s:Shared) (σ:St) (H:Hp) (Q:Bool->Hp->Prop),Inv X pins σ H s->t σ H Q->wpAny (model X.prog X.w) X.A (isTrue e X.env whole) (TP X pins σ Q) X.xe s
theorem PW.pt{X:Cx}{e:Expr}{t:TT}(h:PW X e t):PT X e t:=h _
def PA(X:Cx)(es:List Expr)(t:TA):Prop :=
 ∀(pos:Pos) (pins:List (Addr×Obj)) (s:Shared) (σ:St) (H:Hp) (Q:List V->Hp->Prop),Inv X pins σ H s->t σ H Q->wpAny (model X.prog X.w) X.A (spliced (backTo pos (starEach es X.env))) (AP X pins σ Q) X.xe s
def PS(X:Cx)(st:Stmt)(t:TS):Prop :=
 ∀(pins:List (Addr×Obj)) (s:Shared) (σ:St) (H:Hp) (D:Ends),Inv X pins σ H s->t D σ H->wpAny (model X.prog X.w) X.A (exec st X.env) (SP X pins D) X.xe s
def PSs(X:Cx)(st:List Stmt)(t:TS):Prop :=
 ∀(pins:List (Addr×Obj)) (s:Shared) (σ:St) (H:Hp) (D:Ends),Inv X pins σ H s->t D σ H->wpAny (model X.prog X.w) X.A (execs st X.env) (SP X pins D) X.xe s
theorem thn{α:Type}{t:Sem α}{Q Q':α->Shared->Prop}{M:Model}{A:Around}{E:Value->Shared->Prop}{s:Shared}(h:wpAny M A t Q E s)(hQ:∀ a s,Q a s->Q' a s):wpAny M A t Q' E s:=wpAny_mono h hQ fun _ _ x=>x
end
section
section
variable {X:Cx}
noncomputable def zgS(i:Nat):TE:=fun σ H Q=>∃ v,σ[i]?=some (some v)/\Q v H
noncomputable def tC(v:V):TE:=fun _ H Q=>Q v H
theorem zqv{i:Nat}{x:Str}{pos:Pos}(hN:X.N[i]?=some x)(hv:Vis X.env.scope x)(hd:(x==("__debug__":Str))=false:=by decide) (hcd:(x==("__classdict__":Str))=false:=by decide):PE X (.Name x pos) (zgS i):=by
 intro pins s σ H Q I h
 obtain⟨v,e,h⟩:=h
 obtain⟨m,hn,hl⟩:=I.loc
 obtain⟨u,r,l⟩:=hl i x v hN e hv
 have fin:EP X pins σ Q u s:=⟨v,H,I,r,h⟩
 rcases l with⟨hk,hm⟩|⟨hk,c,hc,hcell⟩
 ·exact wpAny_Name (wpAny_loadName_local I.ok.kind hk hn hm fin) hd
 ·rcases hk with hk|hk
  ·exact wpAny_Name (wpAny_loadName_cell I.ok.kind hk hc hcell fin) hd
  ·exact wpAny_Name (wpAny_loadName_free I.ok.kind hk hc hcell fin hcd) hd
theorem ztV{i j pos}:PE X (.Constant (.int i) j pos) (tC (.int i)):=fun _ _ _ H _ I h=>wpAny_Constant_int ⟨.int i,H,I.tok _,⟨_,rfl⟩,h⟩
theorem zv7{b j pos}:PE X (.Constant (.bool b) j pos) (tC (.bl b)):=fun _ _ _ H _ I h=>Constant_bool ⟨.bl b,H,I,rfl,h⟩
theorem ztS{j pos}:PE X (.Constant .none j pos) (tC .non):=fun _ _ _ H _ I h=>Constant_none ⟨.non,H,I,rfl,h⟩
def Gl(X:Cx)(x:Str):Prop:=X.env.kindOf x=some .globalImplicit
theorem zkr{E:Value->Shared->Prop}{pins:List (Addr×Obj)}{s:Shared}{σ:St}{H:Hp}{x:Str}{u:Value}{pos:Pos}{Q:Value->Shared->Prop}(I:Inv X pins σ H s)(hg:Gl X x)(hm:X.mg x=some u)(h:Q u s)
  (hd:(x==("__debug__":Str))=false:=by decide):wpAny (model X.prog X.w) X.A (eval (.Name x pos) X.env) Q E s :=
 Calls.Name_function_global I.ok.kind hg (Calls.loadGlobal_global (by rw [I.ok.glob];exact I.mod.glob.keeps I.bk) hm h) hd
theorem zgb{E:Value->Shared->Prop}{pins:List (Addr×Obj)}{s:Shared}{σ:St}{H:Hp}{x:Str}{u:Value}{pos:Pos}{Q:Value->Shared->Prop}(I:Inv X pins σ H s)(hg:Gl X x)(hm:X.mg x=none)(hv:bootBuiltins x=some u)(h:Q u s)
  (hn:x ≠ "__name__":=by decide) (hd:(x==("__debug__":Str))=false:=by decide):wpAny (model X.prog X.w) X.A (eval (.Name x pos) X.env) Q E s:=by
 obtain⟨mb,h1,h2⟩:=I.mod.blt
 exact Calls.Name_function_global I.ok.kind hg (Calls.loadGlobal_builtin (by rw [I.ok.glob];exact I.mod.glob.keeps I.bk) hm (by rw [I.ok.blt];exact h1.keeps I.bk) ((h2 x hn).trans hv) h) hd
theorem zng{x:Str}{v:V}{u:Value}{pos:Pos}(hg:Gl X x)(hm:X.mg x=some u)(r:RelV v u)(hd:(x==("__debug__":Str))=false:=by decide):PE X (.Name x pos) (tC v) :=
 fun _ _ _ H _ I h=>zkr I hg hm ⟨v,H,I,r,h⟩ hd
theorem zr4{x:Str}{v:V}{u:Value}{pos:Pos}(hg:Gl X x)(hm:X.mg x=none)(hv:bootBuiltins x=some u)(r:RelV v u)(hn:x ≠ "__name__":=by decide) (hd:(x==("__debug__":Str))=false:=by decide):PE X (.Name x pos) (tC v) :=
 fun _ _ _ H _ I h=>zgb I hg hm hv ⟨v,H,I,r,h⟩ hn hd
variable {a b:Expr}{ta tb:TE}{pos:Pos}
def PC(X:Cx)(op:CmpOp)(a b:Expr)(t:TE):Prop :=
 ∀(pins:List (Addr×Obj)) (s:Shared) (σ:St) (H:Hp) (Q:VK),Inv X pins σ H s->t σ H Q ->
  wpAny (model X.prog X.w) X.A (eval a X.env) (fun v s₁=>wpAny (model X.prog X.w) X.A (eval b X.env) (fun u s₂=>wpAny (model X.prog X.w) X.A (compareOp op v u) (EP X pins σ Q) X.xe s₂) X.xe s₁) X.xe s
noncomputable def tB(t:TE):TT:=fun σ H Q=>t σ H fun x H1=>∃ c,x=.bl c/\Q c H1
variable {tA tB':TT}{rest:List Expr}
noncomputable def zmy(t u:TT):TT:=fun σ H Q=>t σ H fun c H1=>if c=true then u σ H1 Q else Q false H1
noncomputable def tOr(t u:TT):TT:=fun σ H Q=>t σ H fun c H1=>if c=true then Q true H1 else u σ H1 Q
noncomputable def zbL(t:TT):TT:=fun σ H Q=>t σ H fun c H1=>Q (!c) H1
theorem zrv(ha:PT X a tA):PW X (.BoolOp .And [a] pos) tA:=by
 intro wh pins s σ H Q I h
 refine isTrue_and (thn (ha pins s σ H Q I h) fun c s1 e=>?_)
 cases c with
 | true=>exact isTrue_and_nil e
 | false=>exact e
theorem zty(ha:PT X a tA):PW X (.BoolOp .Or [a] pos) tA:=by
 intro wh pins s σ H Q I h
 refine isTrue_or (thn (ha pins s σ H Q I h) fun c s1 e=>?_)
 cases c with
 | false=>exact isTrue_or_nil e
 | true=>exact e
theorem ztz(ha:PT X a tA)(hb:PW X (.BoolOp .And (b::rest) pos) tB'):PW X (.BoolOp .And (a::b::rest) pos) (zmy tA tB'):=by
 intro wh pins s σ H Q I h
 refine isTrue_and (thn (ha pins s σ H _ I h) fun c s1 ⟨H1,I1,q1⟩=>?_)
 cases c with
 | true=>exact hb wh pins s1 σ H1 Q I1 q1
 | false=>exact⟨H1,I1,q1⟩
theorem zvU(ha:PT X a tA)(hb:PW X (.BoolOp .Or (b::rest) pos) tB'):PW X (.BoolOp .Or (a::b::rest) pos) (tOr tA tB'):=by
 intro wh pins s σ H Q I h
 refine isTrue_or (thn (ha pins s σ H _ I h) fun c s1 ⟨H1,I1,q1⟩=>?_)
 cases c with
 | true=>exact⟨H1,I1,q1⟩
 | false=>exact hb wh pins s1 σ H1 Q I1 q1
theorem ztH(ha:PT X a tA):PT X (.UnaryOp .Not a pos) (zbL tA):=by
 intro pins s σ H Q I h
 exact isTrue_not (ha pins s σ H (fun c H1=>Q (!c) H1) I h)
noncomputable def zvA(ta tb:TE):TE:=fun σ H Q=>ta σ H fun x H1=>∃ c,x=.bl c/\if c=true then tb σ H1 Q else Q (.bl false) H1
noncomputable def zxi(ta tb:TE):TE:=fun σ H Q=>ta σ H fun x H1=>∃ c,x=.bl c/\if c=true then Q (.bl true) H1 else tb σ H1 Q
noncomputable def zvv(ta:TE):TE:=fun σ H Q=>ta σ H fun x H1=>∃ c,x=.bl c/\Q (.bl (!c)) H1
theorem ztQ{op}{t:TE}(h:PE X a t):PE X (.BoolOp op [a] pos) t:=fun pins s σ H Q I hw=>BoolOp_one (h pins s σ H Q I hw)
theorem ztW(ha:PE X a ta)(hb:PE X (.BoolOp .And (b::rest) pos) tb):PE X (.BoolOp .And (a::b::rest) pos) (zvA ta tb):=by
 intro pins s σ H Q I h
 refine BoolOp_and (thn (ha pins s σ H _ I h) fun v s1 ⟨x,H1,I1,r1,q1⟩=>?_)
 obtain⟨c,rfl,q1⟩:=q1
 cases r1
 refine wpAny_truthy_bool ?_
 cases c with
 | true=>exact hb pins s1 σ H1 Q I1 q1
 | false=>exact⟨.bl false,H1,I1,rfl,q1⟩
theorem zv3(ha:PE X a ta)(hb:PE X (.BoolOp .Or (b::rest) pos) tb):PE X (.BoolOp .Or (a::b::rest) pos) (zxi ta tb):=by
 intro pins s σ H Q I h
 refine BoolOp_or (thn (ha pins s σ H _ I h) fun v s1 ⟨x,H1,I1,r1,q1⟩=>?_)
 obtain⟨c,rfl,q1⟩:=q1
 cases r1
 refine wpAny_truthy_bool ?_
 cases c with
 | false=>exact hb pins s1 σ H1 Q I1 q1
 | true=>exact⟨.bl true,H1,I1,rfl,q1⟩
theorem ztR(ha:PE X a ta):PE X (.UnaryOp .Not a pos) (zvv ta):=by
 intro pins s σ H Q I h
 refine UnaryOp_ (thn (ha pins s σ H _ I h) fun v s1 ⟨x,H1,I1,r1,q1⟩=>?_)
 obtain⟨c,rfl,q1⟩:=q1
 cases r1
 exact not_of (wpAny_truthy_bool ⟨.bl (!c),H1,I1,rfl,q1⟩)
end
end
section
def SqL(K:W.Frag)(H:Hp)(a:Addr)(xs:List V):Prop :=
 Rd H a (.lst xs) \/
  ∃(o:Obj) (its:Array Value) (n:Nat),K.lookup a=some o/\o.cls=.type "list"/\o.dict=none/\o.data=.seq its n/\its.size<=sizeLine/\Vals xs its.toList
def SqT(K:W.Frag)(H:Hp)(a:Addr)(xs:List V):Prop :=
 Rd H a (.tup xs) \/
  ∃(o:Obj) (its:Array Value) (n:Nat),K.lookup a=some o/\o.cls=.type "tuple"/\o.data=.seq its n/\its.size<=sizeLine/\Vals xs its.toList
noncomputable def zxV:Value->Option V
 | .none=>some .non
 | .bool b=>some (.bl b)
 | .int i _=>some (.int i)
 | .str x _=>some (.str x)
 | .bytes b _=>some (.byt b)
 | .float b _=>some (.flt b)
 | .ref a=>some (.ref a)
 | .type n=>some (.ty n)
 | _=>none
theorem RelV.abs{x:V}{u:Value}(r:RelV x u):zxV u=some x:=by
 cases x with
 | non=>cases r;rfl
 | bl _=>cases r;rfl
 | int _=>obtain⟨t,rfl⟩:=r;rfl
 | str _=>obtain⟨t,rfl⟩:=r;rfl
 | byt _=>obtain⟨t,rfl⟩:=r;rfl
 | flt _=>obtain⟨t,rfl⟩:=r;rfl
 | ref _=>cases r;rfl
 | ty _=>cases r;rfl
theorem RelV.inj{x y:V}{u:Value}(r:RelV x u)(q:RelV y u):x=y:=Option.some.inj (r.abs.symm.trans q.abs)
theorem Vals.inj:∀{xs ys:List V} {us:List Value},Vals xs us->Vals ys us->xs=ys
 | _,_,_,.nil,.nil=>rfl
 | _,_,_,.cons r t,.cons r' t'=>by rw [r.inj r',Vals.inj t t']
section
variable {X:Cx}{pins:List (Addr×Obj)}{σ:St}{H:Hp}{s:Shared}{a:Addr}{xs ys:List V}
theorem SqL.of{K:W.Frag}(h:H a=some (.lst xs)):SqL K H a xs:=.inl (.inl h)
theorem Inv.list(I:Inv X pins σ H s)(h:SqL X.K H a xs):∃ its:List Value,Vals xs its/\PlainL s.heap a its.toArray/\xs.length<=sizeLine:=by
 rcases h with h|⟨o,its,n,hk,hc,hd,hs,hz,r⟩
 ·obtain⟨z,its,n,r,e⟩:=h.ok I.hok
  exact⟨its,r,⟨_,n,e,rfl,rfl,rfl⟩,z⟩
 ·refine⟨its.toList,r,⟨o,n,I.kIn a o hk,hc,hd,by simpa using hs⟩,?_⟩
  have e:=r.length
  simp only [Array.length_toList] at e
  omega
theorem Inv.tuple(I:Inv X pins σ H s)(h:SqT X.K H a xs):∃ its:List Value,Vals xs its/\IsTup s.heap a its.toArray/\xs.length<=sizeLine:=by
 rcases h with h|⟨o,its,n,hk,hc,hs,hz,r⟩
 ·obtain⟨z,its,r,p⟩:=h.ok I.hok
  exact⟨its,r,p,z⟩
 ·refine⟨its.toList,r,⟨o,I.kIn a o hk,hc,n,by simpa using hs⟩,?_⟩
  have e:=r.length
  simp only [Array.length_toList] at e
  omega
theorem Inv.zlq(I:Inv X pins σ H s)(h:SqL X.K H a xs)(h':SqL X.K H a ys):xs=ys:=by
 obtain⟨its,r,⟨o,n,e,_,_,d⟩,_⟩:=I.list h
 obtain⟨its',r',⟨o',n',e',_,_,d'⟩,_⟩:=I.list h'
 rw [e] at e';cases e'
 rw [d] at d'
 injection d' with d1 _
 have:its=its':=by simpa using congrArg Array.toList d1
 subst this
 exact r.inj r'
theorem Inv.zmG(I:Inv X pins σ H s)(h:SqT X.K H a xs)(h':SqT X.K H a ys):xs=ys:=by
 obtain⟨its,r,⟨o,e,_,n,d⟩,_⟩:=I.tuple h
 obtain⟨its',r',⟨o',e',_,n',d'⟩,_⟩:=I.tuple h'
 rw [e] at e';cases e'
 rw [d] at d'
 injection d' with d1 _
 have:its=its':=by simpa using congrArg Array.toList d1
 subst this
 exact r.inj r'
end
abbrev Cx.wish(X:Cx)(E:Value->Shared->Prop):Cx:={ X with xe:=E }
abbrev Cx.nox(X:Cx):Cx:=X.wish fun _ _=>False
theorem Cx.Ok.wish{X:Cx}(ok:X.Ok)(E:Value->Shared->Prop):(X.wish E).Ok :=
 ⟨ok.mod,ok.kind,ok.glob,ok.blt,ok.above,ok.inj,ok.has,ok.cab,ok.hd,ok.frames,ok.stk,ok.exf,ok.bs,ok.bsz,ok.noex,ok.exfs,ok.zmk,ok.frf,ok.tree,ok.sk⟩
theorem Cx.Ok.ze4{X:Cx}{E:Value->Shared->Prop}(ok:(X.wish E).Ok):X.Ok :=
 ⟨ok.mod,ok.kind,ok.glob,ok.blt,ok.above,ok.inj,ok.has,ok.cab,ok.hd,ok.frames,ok.stk,ok.exf,ok.bs,ok.bsz,ok.noex,ok.exfs,ok.zmk,ok.frf,ok.tree,ok.sk⟩
section
variable {X:Cx}{pins:List (Addr×Obj)}{σ:St}{H:Hp}{s:Shared}{E:Value->Shared->Prop}
theorem Inv.wish(I:Inv X pins σ H s)(E:Value->Shared->Prop):Inv (X.wish E) pins σ H s:=⟨I.ok.wish E,I.os,I.bare,I.base,I.loc,I.cell,I.free,I.freeC,I.pin,I.hok,I.len⟩
theorem Inv.ze4(I:Inv (X.wish E) pins σ H s):Inv X pins σ H s:=⟨I.ok.ze4,I.os,I.bare,I.base,I.loc,I.cell,I.free,I.freeC,I.pin,I.hok,I.len⟩
theorem SP.ze4{D:Ends}{f:Flow}{s':Shared}(h:SP (X.wish E) pins D f s'):SP X pins D f s':=by
 cases f with
 | next=>obtain⟨σ',H',I,q⟩:=h;exact⟨σ',H',I.ze4,q⟩
 | brk=>obtain⟨σ',H',I,q⟩:=h;exact⟨σ',H',I.ze4,q⟩
 | cont=>obtain⟨σ',H',I,q⟩:=h;exact⟨σ',H',I.ze4,q⟩
 | ret u=>obtain⟨v,σ',H',I,r,q⟩:=h;exact⟨v,σ',H',I.ze4,r,q⟩
theorem PSs.nox{st:List Stmt}{t:TS}(h:PSs X.nox st t):PSs X st t:=fun pins s σ H D I hw =>
 wpAny_mono (h pins s σ H D (I.wish _) hw) (fun _ _ q=>q.ze4) fun _ _ z=>False.elim z
end
section
variable {X:Cx}{st:Stmt}{rest:List Stmt}{t u:TS}{e:Expr}{te:TE}{pos:Pos}
noncomputable def zvw:TS:=fun D σ H=>D.nx σ H
noncomputable def zxf(t u:TS):TS:=fun D σ H=>t { D with nx:=u D } σ H
theorem zrP:PSs X [] zvw:=fun _ _ σ H _ I h=>wpAny_execs_nil ⟨σ,H,I,h⟩
theorem zpx(h1:PS X st t)(h2:PSs X rest u):PSs X (st::rest) (zxf t u):=by
 intro pins s σ H D I h
 refine wpAny_execs_cons (thn (h1 pins s σ H { D with nx:=u D } I h) fun f s1 q=>?_)
 cases f with
 | next =>
  obtain⟨σ',H',I',q⟩:=q
  exact h2 pins s1 σ' H' D I' q
 | ret v=>exact q
 | brk=>exact q
 | cont=>exact q
theorem zrO(h1:PS X st t):PSs X [st] t:=by
 intro pins s σ H D I h
 refine wpAny_execs_cons (thn (h1 pins s σ H D I h) fun f s1 q=>?_)
 cases f with
 | next=>exact wpAny_execs_nil q
 | ret v=>exact q
 | brk=>exact q
 | cont=>exact q
theorem Inv.quiet{pins:List (Addr×Obj)}{σ:St}{H:Hp}{s:Shared}(I:Inv X pins σ H s):interactive X.env=false:=by simp [interactive,I.ok.kind]
noncomputable def zvx(te:TE):TS:=fun D σ H=>te σ H fun _ H1=>D.nx σ H1
theorem zm9(he:PE X e te)(hs:swapsWith e none pos.line X.env=pure false:=by rfl):PS X (.Expr e pos) (zvx te):=by
 intro pins s σ H D I h
 exact wpAny_Expr_any (thn (he pins s σ H _ I h) fun v s1 ⟨x,H1,I1,r1,q1⟩=>⟨σ,H1,I1,q1⟩) I.quiet hs
noncomputable def zxg(te:TE):TS:=fun D σ H=>te σ H D.rt
theorem zm8(he:PE X e te):PS X (.Return (some e) pos) (zxg te):=by
 intro pins s σ H D I h
 exact wpAny_Return_some (thn (he pins s σ H _ I h) fun v s1 ⟨x,H1,I1,r1,q1⟩=>⟨x,σ,H1,I1,r1,q1⟩)
noncomputable def zxl(c:TT)(t u:TS):TS:=fun D σ H=>c σ H fun b H1=>if b=true then t D σ H1 else u D σ H1
theorem zv1{c:Expr}{a b:List Stmt}{tc:TT}(hc:PT X c tc)(ha:PSs X a t)(hb:PSs X b u):PS X (.If c a b pos) (zxl tc t u):=by
 intro pins s σ H D I h
 refine wpAny_If (thn (hc pins s σ H _ I h) fun d s1 ⟨H1,I1,q1⟩=>?_)
 cases d with
 | true=>exact ha pins s1 σ H1 D I1 q1
 | false=>exact hb pins s1 σ H1 D I1 q1
noncomputable def zs9:TS:=fun _ _ _=>False
theorem zpz:PS X st zs9:=fun _ _ _ _ _ _ h=>h.elim
end
abbrev TG:=V->St->Hp->(St->Hp->Prop)->Prop
abbrev TGs:=List V->St->Hp->(St->Hp->Prop)->Prop
def PG(X:Cx)(target:Expr)(t:TG):Prop :=
 ∀(pins:List (Addr×Obj)) (s:Shared) (σ:St) (H:Hp) (v:V) (u:Value) (Q:St->Hp->Prop),Inv X pins σ H s->RelV v u->t v σ H Q ->
  wpAny (model X.prog X.w) X.A (assign target X.env u) (fun _ s'=>∃ σ' H',Inv X pins σ' H' s'/\Q σ' H') X.xe s
def PGs(X:Cx)(ts:List Expr)(t:TGs):Prop :=
 ∀(pins:List (Addr×Obj)) (s:Shared) (σ:St) (H:Hp) (vs:List V) (us:List Value) (Q:St->Hp->Prop),Inv X pins σ H s->Vals vs us->t vs σ H Q ->
  wpAny (model X.prog X.w) X.A (assignInOrder ((assignEach ts X.env).map (·.2)) us) (fun _ s'=>∃ σ' H',Inv X pins σ' H' s'/\Q σ' H') X.xe s
abbrev zwK:=V->V->V->Hp->(Hp->Prop)->Prop
def zxb(X:Cx)(t:zwK):Prop :=
 ∀(pins:List (Addr×Obj)) (s:Shared) (σ:St) (H:Hp) (o i v:V) (ov iv u:Value) (Q:Hp->Prop),Inv X pins σ H s->RelV o ov->RelV i iv->RelV v u->t o i v H Q ->
  wpAny (model X.prog X.w) X.A (setItem ov iv u) (fun _ s'=>∃ H',Inv X pins σ H' s'/\Q H') X.xe s
section
variable {X:Cx}{pos:Pos}
noncomputable def zsy(i:Nat):TG:=fun v σ H Q=>Q (σ.set i (some v)) H
theorem zr1{i:Nat}{x:Str}(hN:X.N.Nodup)(hi:X.N[i]?=some x)(hx:Loc X.env.scope x)(hf:X.fn x=true\/X.env.scope.names.lookup x=some .local:=by first|exact .inl rfl|exact .inr rfl|assumption):PG X (.Name x pos) (zsy i):=by
 intro pins s σ H v u Q I r h
 exact wpAny_assign_Name (zfG I hN hi hx r (fun s' I'=>⟨_,H,I',h⟩) hf)
noncomputable def zxQ:TGs:=fun vs σ H Q=>vs=[]/\Q σ H
noncomputable def zws(t:TG)(u:TGs):TGs:=fun vs σ H Q=>∃ v r,vs=v::r/\t v σ H fun σ' H'=>u r σ' H' Q
theorem zr0:PGs X [] zxQ:=by
 intro pins s σ H vs us Q I r h
 obtain⟨e,h⟩:=h
 subst e
 cases r
 exact assignInOrder_nil ⟨σ,H,I,h⟩
theorem zpC{e:Expr}{es:List Expr}{t:TG}{u:TGs}(h1:PG X e t)(h2:PGs X es u)
  (hs:(assignEach (e::es) X.env).map (·.2)=assign e X.env::(assignEach es X.env).map (·.2):=by rfl):PGs X (e::es) (zws t u):=by
 intro pins s σ H vs us Q I r h
 obtain⟨v,vr,e1,h⟩:=h
 subst e1
 cases r with
 | cons r rr =>
  rw [hs]
  refine assignInOrder_cons (thn (h1 pins s σ H _ _ _ I r h) fun _ s1 ⟨σ1,H1,I1,q1⟩=>?_)
  exact h2 pins s1 σ1 H1 _ _ Q I1 rr q1
noncomputable def zxO(K:W.Frag)(n:Nat)(t:TGs):TG:=fun v σ H Q=>∃ a xs,v=.ref a/\SqT K H a xs/\xs.length=n/\t xs σ H Q
theorem ztL{es:List Expr}{k:Nat}{t:TGs}{n:Nat}(hc:X.calm=true)(h:PGs X es t)
  (hn:(assignEach es X.env).length=n:=by rfl)(hst:(assignEach es X.env).findIdx? (·.1)=none:=by rfl):PG X (.Tuple es k pos) (zxO X.K n t):=by
 intro pins s σ H v u Q I r hw
 obtain⟨a,xs,e1,hq,hl,hw⟩:=hw
 subst e1
 cases r
 obtain⟨its,rv,ht,hz⟩:=I.tuple hq
 refine assign_Tuple_tuple (I.ok.hd hc) ht (by simp [hn,<- hl,rv.length]) hst fun h' hx=>?_
 have I1:Inv X pins σ H { s with heap:=h' }:=I.kept (t':=s.toks) fun b o e=>hx b o (Nat.ne_of_lt (Heap.lt_size e)) e
 exact h pins _ σ H xs _ Q I1 (by simpa using rv) hw
noncomputable def zxP(to ti:TE)(t:zwK):TG:=fun v σ H Q=>to σ H fun o H1=>ti σ H1 fun i H2=>t o i v H2 fun H3=>Q σ H3
theorem ztM{o i:Expr}{to ti:TE}{t:zwK}(ho:PE X o to)(hi:PE X i ti)(hs:zxb X t)
  (ha:∀ v,assign (.Subscript o i pos) X.env v=(do
   let ov <- holding [v] (eval o X.env)
   let iv <- holding [v,ov] (eval i X.env)
   standAt pos
   holding [v,ov,iv] (setItem ov iv v)
   release [v,ov,iv] []):=by intro _;rfl):PG X (.Subscript o i pos) (zxP to ti t):=by
 intro pins s σ H v u Q I r h
 rw [ha]
 refine wpAny_bind (wpAny_holding (thn (ho pins s σ H _ I h) fun ov s1 ⟨x,H1,I1,r1,q1⟩=>?_))
 refine wpAny_bind (wpAny_holding (thn (hi pins s1 σ H1 _ I1 q1) fun iv s2 ⟨y,H2,I2,r2,q2⟩=>?_))
 refine wpAny_bind (wpAny_standAt (wpAny_bind (wpAny_holding (thn (hs pins s2 σ H2 x y v ov iv u _ I2 r1 r2 r q2) fun _ s3 ⟨H3,I3,q3⟩=>?_))))
 exact wpAny_release ⟨σ,H3,I3,q3⟩
noncomputable def zvz(te:TE)(g:TG):TS:=fun D σ H=>te σ H fun x H1=>g x σ H1 D.nx
theorem zqt{tg e:Expr}{te:TE}{g:TG}(he:PE X e te)(hg:PG X tg g)(hs:swapsWithSole [tg] e pos.line X.env=pure false:=by rfl)(hw:swappedStores [tg] e X.env=pure none:=by rfl)
  (h1:(assignEach [tg] X.env).map (·.2)=[assign tg X.env]:=by rfl):PS X (.Assign [tg] e pos) (zvz te g):=by
 intro pins s σ H D I h
 refine wpAny_Assign_stores (thn (he pins s σ H _ I h) fun v s1 ⟨x,H1,I1,r1,q1⟩=>?_) hs hw
 rw [h1]
 exact thn (hg pins s1 σ H1 x v _ I1 r1 q1) fun _ s2 q=>q
theorem zqr{i:Nat}{x:Str}{e:Expr}{te:TE}{pos':Pos}(hN:X.N.Nodup)(hi:X.N[i]?=some x)(hx:Loc X.env.scope x)(he:PE X e te)(hs:swapsWith e (some (.Name x pos')) pos.line X.env=pure false:=by rfl)(hf:X.fn x=true\/X.env.scope.names.lookup x=some .local:=by first|exact .inl rfl|exact .inr rfl|assumption) :
  PS X (.Assign [.Name x pos'] e pos) (zvz te (zsy i)):=by
 intro pins s σ H D I h
 refine wpAny_Assign_Name (thn (he pins s σ H _ I h) fun v s1 ⟨y,H1,I1,r1,q1⟩=>?_) hs
 exact zfG I1 hN hi hx r1 (fun s2 I2=>⟨_,H1,I2,q1⟩) hf
noncomputable def zxh(i j:Nat)(ta:TA):TS:=fun D σ H=>ta σ H fun vs H1=>∃ v w,vs=[v,w]/\D.nx ((σ.set i (some v)).set j (some w)) H1
theorem ztI{i j:Nat}{x y:Str}{a b:Expr}{ta:TA}{px py pt:Pos}{kt k2 pt2}(hc:X.calm=true)(hN:X.N.Nodup)(hi:X.N[i]?=some x)(hj:X.N[j]?=some y)(hij:i≠j)
  (hx:X.env.scope.names.lookup x=some .local)(hy:X.env.scope.names.lookup y=some .local)(ha:PA X [a,b] ta)
  (hw:swappedStores [.Tuple [.Name x px,.Name y py] kt pt] (.Tuple [a,b] k2 pt2) X.env=pure (some [x,y]))
  (hs:swapsWithSole [.Tuple [.Name x px,.Name y py] kt pt] (.Tuple [a,b] k2 pt2) pos.line X.env=pure false:=by rfl) :
  PS X (.Assign [.Tuple [.Name x px,.Name y py] kt pt] (.Tuple [a,b] k2 pt2) pos) (zxh i j ta):=by
 intro pins s σ H D I h
 rw [exec_Assign_arm]
 refine wpAny_bind (wpAny_standAt ?_)
 rw [hs]
 refine wpAny_bind (wpAny_pure ?_)
 rw [if_neg (by decide)]
 refine wpAny_bind (Tuple_ (thn (ha _ pins s σ H _ I h) fun us s1 ⟨vs,H1,I1,r1,q1⟩=>?_))
 obtain⟨v,w,e1,q1⟩:=q1
 subst e1
 obtain⟨u1,u2,rfl,rv,rw'⟩:∃ u1 u2,us=[u1,u2]/\RelV v u1/\RelV w u2:=by
  cases r1 with
  | cons p q =>
   cases q with
   | cons p' q' =>
    cases q'
    exact⟨_,_,rfl,p,p'⟩
 refine wpAny_newObj_type ?_ (by show 2<=sizeLine;decide)
 have I2:Inv X pins σ H1 { s1 with heap:=s1.heap.push { cls:=.type "tuple",data:=.seq [u1,u2].toArray } }:=I1.kept (t':=s1.toks) fun b o e=>Heap.get?_push_of_some _ e
 rw [hw]
 refine wpAny_bind (wpAny_pure ?_)
 show wpAny (model X.prog X.w) X.A (do rule "assign.swapped-stores";let items <- unpackItems (.ref s1.heap.objs.size) 2 none;assignInOrder [fun v=>bindName X.env y v,fun v=>bindName X.env x v] items.reverse;pure Flow.next) _ _ _
 refine wpAny_bind (wpAny_rule (wpAny_bind (unpackItems_tuple (items:=#[u1,u2]) (I.ok.hd hc) (IsTup.new s1.heap _) fun h' hx'=>?_)))
 have I3:=I2.kept (h':=h') (t':=s1.toks) fun b o e=>hx' b o (Nat.ne_of_lt (Heap.lt_size e)) e
 show wpAny _ _ (assignInOrder [fun v=>bindName X.env y v,fun v=>bindName X.env x v] [u2,u1] >>= fun _=>pure Flow.next) _ _ _
 refine wpAny_bind (assignInOrder_cons (wpAny_bindName (zfG I3 hN hj (.inl hy) rw' (fun s2 I4=>?_) (.inr hy))))
 refine assignInOrder_cons (wpAny_bindName (zfG I4 hN hi (.inl hx) rv (fun s3 I5=>assignInOrder_nil (wpAny_pure ?_)) (.inr hx)))
 rw [List.set_comm _ _ (Ne.symm hij)] at I5
 exact⟨_,H1,I5,q1⟩
end
section
variable {X:Cx}{pos:Pos}
noncomputable def zs7(c:TT)(tb:TS):TS:=fun D σ H=>∃ W:Nat->St->Hp->Prop,(∃ m,W m σ H)/\∀ m σ H,W m σ H ->
 c σ H fun b H1=>if b=true then ∃ N:St->Hp->Prop,(∀ σ' H',N σ' H'->∃ m',m'<m/\W m' σ' H')/\tb { D with nx:=N,ct:=N,bk:=D.nx } σ H1 else D.nx σ H1
theorem zpy{c:Expr}{body:List Stmt}{tc:TT}{tb:TS}(hp:PassesOwn (model X.prog X.w) X.A X.env X.xe)(hc:PT X c tc)(hb:PSs X body tb):PS X (.While c body [] pos) (zs7 tc tb):=by
 intro pins s σ H D I h
 obtain⟨W,⟨m0,w0⟩,turn⟩:=h
 refine wpAny_While (codeAny_whileLoop (fun n s'=>∃ σ' H',Inv X pins σ' H' s'/\W n σ' H') ?_ m0 ⟨σ,H,I,w0⟩)
 rintro n s1 ⟨σ1,H1,I1,w1⟩
 refine wpAny_passesOwn hp (thn (hc pins s1 σ1 H1 _ I1 (turn n σ1 H1 w1)) fun b s2 ⟨H2,I2,q2⟩=>?_)
 cases b with
 | true =>
  obtain⟨N,hN,q2⟩:=q2
  rw [if_pos rfl]
  refine wpAny_passesOwn hp (thn (hb pins s2 σ1 H2 _ I2 q2) fun f s3 q3=>?_)
  cases f with
  | next =>
   obtain⟨σ3,H3,I3,n3⟩:=q3
   obtain⟨m',hm,w3⟩:=hN σ3 H3 n3
   exact⟨m',hm,σ3,H3,I3,w3⟩
  | cont =>
   obtain⟨σ3,H3,I3,n3⟩:=q3
   obtain⟨m',hm,w3⟩:=hN σ3 H3 n3
   exact⟨m',hm,σ3,H3,I3,w3⟩
  | brk=>exact q3
  | ret v=>exact q3
 | false =>
  rw [if_neg Bool.false_ne_true]
  exact wpAny_execs_nil ⟨σ1,H2,I2,q2⟩
end
structure It where
 go:Nat->Hp->Prop
 yld:Nat->Hp->V->Hp->Prop
 stop:Nat->Hp->Prop
def zg7(X:Cx)(pins:List (Addr×Obj))(H:Hp)(b:Addr):Prop :=
 H b=none/\b≠X.env.locals/\b∉X.fs/\(b∈X.ex\/X.s₀.heap.objs.size<=b)/\(∀ x c,X.env.cells.lookup x=some c->c≠b)/\∀ p∈X.pn++pins,p.1≠b
theorem Inv.zoX{X:Cx}{pins:List (Addr×Obj)}{σ:St}{H H':Hp}{s:Shared}{b:Addr}(I:Inv X pins σ H s)(hb:s.heap.objs.size<=b)(hn:H' b=none):zg7 X pins H' b:=by
 refine⟨hn,Nat.ne_of_gt (Nat.lt_of_lt_of_le I.lt hb),I.zxF hb,.inr (Nat.le_trans I.sz hb),fun x c e z=>?_,fun p hp z=>?_⟩
 ·obtain⟨v,q⟩:=I.cell x c e
  exact absurd (Nat.lt_of_lt_of_le q.lt (by rw [z];exact hb)) (Nat.lt_irrefl _)
 ·exact absurd (Nat.lt_of_lt_of_le (Heap.lt_size (I.pin p hp).1) (by rw [z];exact hb)) (Nat.lt_irrefl _)
structure Turn(P:Program)(w:World)(K:W.Frag)(tg:Expr)(J:It)(fp:List Addr)(it:Addr)(tn:Nat->Heap->Prop):Prop where
 mem:it∈fp
 obj:∀ i h,tn i h->∀ b∈fp,∃ o,h.get? b=some o/\∀ v,o.data≠.cell v
 keep:∀ i h h',tn i h->(∀ b∈fp,∀ o,h.get? b=some o->h'.get? b=some o)->tn i h'
 item:∀(X:Cx),X.prog=P->X.w=w->X.K=K->X.calm=true->∀(i:Nat) (pins:List (Addr×Obj)) (s:Shared) (σ:St) (H:Hp) (E:Value->Shared->Prop),Inv X pins σ H s->(∀ b∈fp,zg7 X pins H b)->tn i s.heap->J.go i H ->
  wpAny (model P w) X.A (pyNext (.ref it)) (fun r s1=>∃ u,r=some u /\
   wpAny (model P w) X.A (letOwnedTupleGo tg (.ref it) u) (fun _ s2=>∃ x H',Inv X pins σ H' s2/\RelV x u/\J.yld i H x H'/\tn (i+1) s2.heap/\∀ b∈fp,H' b=none) E s1) E s
 done:∀(X:Cx),X.prog=P->X.w=w->X.K=K->X.calm=true->∀(i:Nat) (pins:List (Addr×Obj)) (s:Shared) (σ:St) (H:Hp) (E:Value->Shared->Prop),Inv X pins σ H s->(∀ b∈fp,zg7 X pins H b)->tn i s.heap->J.stop i H ->
  wpAny (model P w) X.A (pyNext (.ref it)) (fun r s1=>r=none/\Inv X pins σ H s1) E s
 self:∀(A:Around) (i:Nat) (s:Shared) (Q:Value->Shared->Prop) (E:Value->Shared->Prop),tn i s.heap->Q (.ref it) s->wpAny (model P w) A (pyIter (.ref it)) Q E s
abbrev TI:=St->Hp->(It->Hp->Prop)->Prop
def PIE(X:Cx)(pins:List (Addr×Obj))(σ:St)(tg:Expr)(R:It->Hp->Prop)(itv:Value)(s2:Shared):Prop :=
 ∃(it:Addr) (fp:List Addr) (tn:Nat->Heap->Prop) (J:It) (H':Hp),itv=.ref it/\Inv X pins σ H' s2/\Turn X.prog X.w X.K tg J fp it tn/\tn 0 s2.heap/\(∀ b∈fp,zg7 X pins H' b)/\R J H'
def PI(X:Cx)(tg iter:Expr)(wi:TI):Prop :=
 ∀(pins:List (Addr×Obj)) (s:Shared) (σ:St) (H:Hp) (R:It->Hp->Prop),Inv X pins σ H s->wi σ H R ->
  wpAny (model X.prog X.w) X.A (eval iter X.env) (fun v s1=>wpAny (model X.prog X.w) X.A (pyIter v) (PIE X pins σ tg R) X.xe s1) X.xe s
theorem zn6{M:Model}{A:Around}{E:Value->Shared->Prop}{s:Shared}{tg:Expr}{it:Addr}{u:Value}{o:Obj}{n:String}{vs:Array Value}{Q:Unit->Shared->Prop}(ho:s.heap.get? it=some o)(hc:o.cls=.type n)(hd:o.data=.fields vs)
    (hn:["enumerate","zip","dict_itemiterator","dict_reverseitemiterator","odict_iterator","itertools.zip_longest","itertools.pairwise"].contains n=false) (hQ:Q () s):wpAny M A (letOwnedTupleGo tg (.ref it) u) Q E s:=by
  unfold letOwnedTupleGo
  cases tg <;> first
    | exact wpAny_pure hQ
    | (cases u <;> first
        | exact wpAny_pure hQ
        | (refine wpAny_bind (wpAny_load ho ?_)
           rw [hc,hd]
           show wpAny M A (if(["enumerate","zip","dict_itemiterator","dict_reverseitemiterator","odict_iterator","itertools.zip_longest","itertools.pairwise"].contains n&&vs[0]?==some (rawInt _))=true then _ else _) Q E s
           rw [if_neg (by intro h;rw [hn,Bool.false_and] at h;cases h)]
           exact wpAny_pure hQ))
noncomputable def Itl(K:W.Frag)(a:Addr):It :=
 ⟨fun i H=>∃ xs x,SqL K H a xs/\xs[i]?=some x,fun i H x H'=>H'=H/\∀ xs,SqL K H a xs->xs[i]?=some x,fun i H=>∃ xs,SqL K H a xs/\xs.length<=i⟩
noncomputable def Itt(K:W.Frag)(a:Addr):It :=
 ⟨fun i H=>∃ xs x,SqT K H a xs/\xs[i]?=some x,fun i H x H'=>H'=H/\∀ xs,SqT K H a xs->xs[i]?=some x,fun i H=>∃ xs,SqT K H a xs/\xs.length<=i⟩
noncomputable def Itr(lo:Int)(n:Nat):It:=⟨fun i _=>i<n,fun i H x H'=>H'=H/\x=.int (lo+i),fun i _=>n<=i⟩
theorem ziU{P:Program}{w:World}{K:W.Frag}{tg:Expr}(a it:Addr):Turn P w K tg (Itl K a) [it] it (fun i h=>h.IsListIter it a i) where
 mem:=by simp
 obj:=fun i h st b hb=>by
  have e:b=it:=by simpa using hb
  subst e
  obtain⟨o,e,c,d⟩:=st
  exact⟨o,e,fun v z=>by rw [d] at z;cases z⟩
 keep:=fun i h h' st k=>st.at fun o e=>k it (by simp) o e
 item:=by
  intro X hP hw hK hc i pins s σ H E I hf st hg
  subst hP hw hK
  obtain⟨xs,x,hq,hx⟩:=hg
  obtain⟨its,rv,p,hz⟩:=I.list hq
  obtain⟨u,hu,ru⟩:=rv.get hx
  obtain⟨f0,f1,f2,f3,f4,f5⟩:=hf it (by simp)
  refine wpAny_pyNext_list_item st p.isList (x:=u) (by simpa using hu) fun h' st' sb=>?_
  have I1:Inv X pins σ H { s with heap:=h' }:=I.turned (t':=s.toks) (fun b o hb e=>(sb.2 b hb).trans e) f0 f1 f3 f4 f5
  obtain⟨o,e,c,d⟩:=id st'
  exact⟨u,rfl,zn6 (s:={ s with heap:=h' }) e c d (by decide) ⟨x,H,I1,ru,⟨rfl,fun ys hy=>by rw [I.zlq hy hq];exact hx⟩,st',fun b hb=>(hf b hb).1⟩⟩
 done:=by
  intro X hP hw hK hc i pins s σ H E I hf st hg
  subst hP hw hK
  obtain⟨xs,hq,hx⟩:=hg
  obtain⟨its,rv,p,hz⟩:=I.list hq
  obtain⟨f0,f1,f2,f3,f4,f5⟩:=hf it (by simp)
  have hl:=rv.length
  exact wpAny_pyNext_list_end (I.ok.hd hc) st p.isList (by simp;omega) fun h' eb=>⟨rfl,I.turned (t':=s.toks) (fun b o hb e=>eb b o hb e) f0 f1 f3 f4 f5⟩
 self:=fun _ _ _ _ _ st h=>wpAny_pyIter_listiter st h
theorem zlU{P:Program}{w:World}{K:W.Frag}{tg:Expr}(a it:Addr):Turn P w K tg (Itt K a) [it] it (fun i h=>h.IsTupleIter it a i) where
 mem:=by simp
 obj:=fun i h st b hb=>by
  have e:b=it:=by simpa using hb
  subst e
  obtain⟨o,e,c,d⟩:=st
  exact⟨o,e,fun v z=>by rw [d] at z;cases z⟩
 keep:=fun i h h' st k=>st.at fun o e=>k it (by simp) o e
 item:=by
  intro X hP hw hK hc i pins s σ H E I hf st hg
  subst hP hw hK
  obtain⟨xs,x,hq,hx⟩:=hg
  obtain⟨its,rv,p,hz⟩:=I.tuple hq
  obtain⟨u,hu,ru⟩:=rv.get hx
  obtain⟨f0,f1,f2,f3,f4,f5⟩:=hf it (by simp)
  refine wpAny_pyNext_tuple_item st (show s.heap.IsTuple a its.toArray from p) (x:=u) (by simpa using hu) fun h' st' sb=>?_
  have I1:Inv X pins σ H { s with heap:=h' }:=I.turned (t':=s.toks) (fun b o hb e=>(sb.2 b hb).trans e) f0 f1 f3 f4 f5
  obtain⟨o,e,c,d⟩:=id st'
  exact⟨u,rfl,zn6 (s:={ s with heap:=h' }) e c d (by decide) ⟨x,H,I1,ru,⟨rfl,fun ys hy=>by rw [I.zmG hy hq];exact hx⟩,st',fun b hb=>(hf b hb).1⟩⟩
 done:=by
  intro X hP hw hK hc i pins s σ H E I hf st hg
  subst hP hw hK
  obtain⟨xs,hq,hx⟩:=hg
  obtain⟨its,rv,p,hz⟩:=I.tuple hq
  obtain⟨f0,f1,f2,f3,f4,f5⟩:=hf it (by simp)
  have hl:=rv.length
  exact wpAny_pyNext_tuple_end (I.ok.hd hc) st (show s.heap.IsTuple a its.toArray from p) (by simp;omega) fun h' eb=>⟨rfl,I.turned (t':=s.toks) (fun b o hb e=>eb b o hb e) f0 f1 f3 f4 f5⟩
 self:=fun _ _ _ _ _ st h=>wpAny_pyIter_tupleiter st h
theorem zlV{P:Program}{w:World}{K:W.Frag}{tg:Expr}(it:Addr)(lo:Int)(n:Nat):Turn P w K tg (Itr lo n) [it] it (fun i h=>IsRangeIter h it (lo+(i:Nat)*1) ((n:Int)-(i:Nat)) 1) where
 mem:=by simp
 obj:=fun i h st b hb=>by
  have e:b=it:=by simpa using hb
  subst e
  exact⟨_,st,fun v z=>by
   have z':Data.fields _=Data.cell v:=z
   cases z'⟩
 keep:=fun i h h' st k=>k it (by simp) _ st
 item:=by
  intro X hP hw hK hc i pins s σ H E I hf st hg
  subst hP hw hK
  obtain⟨f0,f1,f2,f3,f4,f5⟩:=hf it (by simp)
  have W:=Walks.range (prog:=X.prog) (w:=X.w) (I.ok.hd hc) it lo 1 n
  refine W.item i s _ _ hg st fun v h' tk hv st' kk=>?_
  obtain⟨t,rfl⟩:=hv
  have I1:Inv X pins σ H { s with heap:=h',toks:=tk }:=I.turned (fun b o hb e=>kk b o (by simpa using hb) e) f0 f1 f3 f4 f5
  refine⟨_,rfl,zn6 (s:={ s with heap:=h',toks:=tk }) (n:="range_iterator") st' rfl rfl (by decide) ⟨.int (lo+i),H,I1,⟨t,?_⟩,⟨rfl,rfl⟩,st',fun b hb=>(hf b hb).1⟩⟩
  rw [Int.mul_one]
 done:=by
  intro X hP hw hK hc i pins s σ H E I hf st hg
  subst hP hw hK
  obtain⟨f0,f1,f2,f3,f4,f5⟩:=hf it (by simp)
  exact wpAny_pyNext_range_end (I.ok.hd hc) st (by have:n<=i:=hg;omega) fun h' eb=>⟨rfl,I.turned (t':=s.toks) (fun b o hb e=>eb b o hb e) f0 f1 f3 f4 f5⟩
 self:=fun _ _ _ _ _ st h=>wpAny_pyIter_rangeiter st h
end
section
section
variable {X:Cx}{tg:Expr}
noncomputable def zwm(K:W.Frag)(tl:TE):TI:=fun σ H R=>tl σ H fun x H1=>∃ a,x=.ref a/\(∃ xs,SqL K H1 a xs)/\R (Itl K a) H1
theorem zrY{l:Expr}{tl:TE}(hl:PE X l tl):PI X tg l (zwm X.K tl):=by
 intro pins s σ H R I h
 refine thn (hl pins s σ H _ I h) fun v s1 ⟨x,H1,I1,r1,q1⟩=>?_
 obtain⟨a,e,⟨xs,hq⟩,q⟩:=q1
 subst e
 cases r1
 obtain⟨its,rv,p,hz⟩:=I1.list hq
 refine wpAny_pyIter_list p.isList ?_
 refine⟨s1.heap.objs.size,[s1.heap.objs.size],_,_,H1,rfl,I1.kept (t':=s1.toks) fun b o e=>Heap.get?_push_of_some _ e,ziU a _,⟨_,Heap.get?_push_size _ rfl,rfl,rfl⟩,fun b hb=>?_,q⟩
 have e:b=s1.heap.objs.size:=by simpa using hb
 subst e
 exact I1.zoX (Nat.le_refl _) (I1.hok.fresh (Nat.le_refl _))
theorem zpd{pins:List (Addr×Obj)}{σ:St}{H:Hp}{s:Shared}{R:It->Hp->Prop}{E:Value->Shared->Prop}{lo hi:Int}{t u v:Tok}{tk:Nat}(I:Inv X pins σ H s)(h1:-(2^62)<=lo)(h2:lo<2^62)(h3:-(2^62)<=hi)(h4:hi<2^62)
  (q:R (Itr lo (hi-lo).toNat) H):wpAny (model X.prog X.w) X.A (pyIter (.ref s.heap.objs.size)) (PIE X pins σ tg R) E { s with heap:=s.heap.push { cls:=.type "range",data:=.fields #[.int lo t,.int hi u,.int 1 v] },toks:=tk }:=by
 refine wpAny_pyIter_range (IsRange.new ..) (small_one h1 h2 h3 h4) ?_
 have I1:Inv X pins σ H { s with heap:=s.heap.push { cls:=.type "range",data:=.fields #[.int lo t,.int hi u,.int 1 v] },toks:=tk }:=I.kept fun b o e=>Heap.get?_push_of_some _ e
 refine⟨(s.heap.push { cls:=.type "range",data:=.fields #[.int lo t,.int hi u,.int 1 v] }).objs.size,[(s.heap.push { cls:=.type "range",data:=.fields #[.int lo t,.int hi u,.int 1 v] }).objs.size],_,_,H,rfl,
  I1.kept (t':=tk) fun b o e=>Heap.get?_push_of_some _ e,zlV _ lo (hi-lo).toNat,?_,fun b hb=>?_,q⟩
 ·have e1:lo+((0:Nat):Int)*1=lo:=by simp
  have e2:(((hi-lo).toNat:Nat):Int)-((0:Nat):Int)=Builtin.Range.rangeSize lo hi 1:=by rw [rangeSize_one];split <;> omega
  show IsRangeIter _ _ (lo+((0:Nat):Int)*1) ((((hi-lo).toNat:Nat):Int)-((0:Nat):Int)) 1
  rw [e1,e2]
  exact Heap.get?_push_size _ rfl
 ·have e:b=(s.heap.push { cls:=.type "range",data:=.fields #[.int lo t,.int hi u,.int 1 v] }).objs.size:=by simpa using hb
  subst e
  exact I1.zoX (Nat.le_refl _) (I1.hok.fresh (Nat.le_refl _))
noncomputable def zwl(ta:TA):TI:=fun σ H R=>ta σ H fun vs H1=>∃ j:Int,vs=[.int j]/\-(2^62)<=j/\j<2^62/\R (Itr 0 j.toNat) H1
theorem znf{a:Expr}{ta:TA}{p pos:Pos}(hg:Gl X "range") (hm:X.mg "range"=none) (ha:PA X [a] ta) (hs:starEach [a] X.env=[(false,eval a X.env)]:=by rfl):PI X tg (.Call (.Name "range" p) [a] [] pos) (zwl ta):=by
 intro pins s σ H R I h
 refine Call_ (zgb I hg hm boot_range (PyProof.Rows.callWith_type1 (thn (ha pos pins s σ H _ I h) fun us s1 ⟨vs,H1,I1,r1,q1⟩=>?_) hs rfl))
 obtain⟨j,e,q1,q2,q⟩:=q1
 subst e
 cases r1 with
 | cons r rr =>
  cases rr
  obtain⟨t,rfl⟩:=r
  exact call_range_1 (zpd I1 (by omega) (by omega) q1 q2 (by simpa using q))
noncomputable def zxm(wi:TI)(g:TG)(tb:TS):TS:=fun D σ H=>wi σ H fun J H1=>∃ W:Nat->Nat->St->Hp->Prop,(∃ m,W 0 m σ H1)/\∀ i m σ H,W i m σ H ->
 (J.stop i H/\D.nx σ H)\/(J.go i H/\∃ N:St->Hp->Prop,(∀ σ' H',N σ' H'->∃ m',m'<m/\W (i+1) m' σ' H')/\∀ x H',J.yld i H x H'->g x σ H' fun σ2 H2=>tb { D with nx:=N,ct:=N,bk:=D.nx } σ2 H2)
noncomputable def zhk(fp:List Addr)(h:Heap):List (Addr×Obj):=fp.filterMap fun b=>(h.get? b).map fun o=>(b,o)
theorem zbW{fp:List Addr}{h:Heap}{b:Addr}{o:Obj}(hb:b∈fp)(e:h.get? b=some o):(b,o)∈zhk fp h:=List.mem_filterMap.mpr ⟨b,hb,by rw [e];rfl⟩
theorem znk{fp:List Addr}{h:Heap}{p:Addr×Obj}(hp:p∈zhk fp h):p.1∈fp/\h.get? p.1=some p.2:=by
 obtain⟨b,hb,e⟩:=List.mem_filterMap.mp hp
 cases q:h.get? b with
 | none=>rw [q] at e;cases e
 | some o =>
  rw [q] at e
  have e':(b,o)=p:=Option.some.inj e
  subst e'
  exact⟨hb,q⟩
theorem Inv.pinned{pins:List (Addr×Obj)}{σ:St}{H:Hp}{s:Shared}{fp:List Addr}(I:Inv X pins σ H s)(hf:∀ b∈fp,zg7 X pins H b)(ho:∀ b∈fp,∃ o,s.heap.get? b=some o/\∀ v,o.data≠.cell v):Inv X (pins++zhk fp s.heap) σ H s :=
 I.zh8 fun p hp=>(List.mem_append.mp hp).elim (fun z=>I.pin p (List.mem_append_right _ z)) fun z=>by
  obtain⟨hb,e⟩:=znk z
  obtain⟨f0,f1,f2,_⟩:=hf p.1 hb
  obtain⟨o,e',d⟩:=ho p.1 hb
  rw [e] at e';cases e'
  exact⟨e,f0,f1,f2,d⟩
theorem Inv.zcn{pins pl:List (Addr×Obj)}{σ:St}{H:Hp}{s:Shared}(I:Inv X (pins++pl) σ H s):Inv X pins σ H s:=I.zh8 fun p hp=>I.pin p (List.mem_append_right _ (List.mem_append_left _ hp))
theorem zqs{iter:Expr}{body:List Stmt}{wi:TI}{g:TG}{tb:TS}{pos:Pos}(hp:PassesOwn (model X.prog X.w) X.A X.env X.xe)(hc:X.calm=true)(hi:PI X tg iter wi)(hg:PG X tg g)(hb:PSs X body tb)
  (hs:∀ x,foldedSetIterable iter X.env x=pure x:=by intro _;rfl):PS X (.For tg iter body [] pos) (zxm wi g tb):=by
 intro pins s σ H D I h
 refine wpAny_For (thn (hi pins s σ H _ I h) fun v s1 h1=>thn h1 fun itv s2 h2=>?_) hs
 obtain⟨it,fp,tn,J,H2,e,I2,T,st2,f2,W,⟨m0,w0⟩,turn⟩:=h2
 subst e
 have stat:∀{H':Hp},(∀ b∈fp,H' b=none)->∀ b∈fp,zg7 X pins H' b:=fun hn b hb=>⟨hn b hb,(f2 b hb).2⟩
 refine codeAny_forLoop_any (fun n s'=>∃ i σ' H',Inv X pins σ' H' s'/\tn i s'.heap/\(∀ b∈fp,H' b=none)/\W i n σ' H') ?_ m0 ⟨0,σ,H2,I2,st2,fun b hb=>(f2 b hb).1,w0⟩
 rintro n s3 ⟨i,σ3,H3,I3,st3,fr3,w3⟩
 rcases turn i n σ3 H3 w3 with⟨stop,qn⟩|⟨go,N,hN,step⟩
 ·refine wpAny_passesOwn hp (thn (T.done X rfl rfl rfl hc i pins s3 σ3 H3 X.xe I3 (stat fr3) st3 stop) fun r s4 ⟨hr,I4⟩=>?_)
  subst hr
  exact wpAny_execs_nil ⟨σ3,H3,I4,qn⟩
 ·refine wpAny_passesOwn hp (thn (T.item X rfl rfl rfl hc i pins s3 σ3 H3 X.xe I3 (stat fr3) st3 go) fun r s4 ⟨u,hr,h4⟩=>?_)
  subst hr
  refine wpAny_passesOwn hp (thn h4 fun _ s5 ⟨x,H5,I5,r5,y5,st5,fr5⟩=>?_)
  have I5':=I5.pinned (stat fr5) (T.obj _ _ st5)
  refine wpAny_passesOwn hp (thn (hg _ s5 σ3 H5 x u _ I5' r5 (step x H5 y5)) fun _ s6 ⟨σ6,H6,I6,q6⟩=>?_)
  refine wpAny_passesOwn hp (thn (hb _ s6 σ6 H6 _ I6 q6) fun f s7 q7=>?_)
  have again:∀{σ7:St} {H7:Hp},Inv X (pins++zhk fp s5.heap) σ7 H7 s7->N σ7 H7->∃ m,m<n/\∃ i σ' H',Inv X pins σ' H' s7/\tn i s7.heap/\(∀ b∈fp,H' b=none)/\W i m σ' H':=fun{σ7 H7} I7 n7=>by
   obtain⟨m',hm,w7⟩:=hN σ7 H7 n7
   refine⟨m',hm,i+1,σ7,H7,I7.zcn,T.keep _ _ _ st5 fun b hb o e=>(I7.pin (b,o) (List.mem_append_right _ (List.mem_append_right _ (zbW hb e)))).1,fun b hb=>?_,w7⟩
   obtain⟨o,e,d⟩:=T.obj _ _ st5 b hb
   exact(I7.pin (b,o) (List.mem_append_right _ (List.mem_append_right _ (zbW hb e)))).2.1
  cases f with
  | next=>obtain⟨σ7,H7,I7,n7⟩:=q7;exact again I7 n7
  | cont=>obtain⟨σ7,H7,I7,n7⟩:=q7;exact again I7 n7
  | brk=>obtain⟨σ7,H7,I7,q7⟩:=q7;exact⟨σ7,H7,I7.zcn,q7⟩
  | ret v=>obtain⟨x7,σ7,H7,I7,r7,q7⟩:=q7;exact⟨x7,σ7,H7,I7.zcn,r7,q7⟩
end
end
section
abbrev R2:=V->V->Hp->VK->Prop
def OpR(X:Cx)(f:Value->Value->Sem Value)(r:R2):Prop :=
 ∀(pins:List (Addr×Obj)) (s:Shared) (σ:St) (H:Hp) (x y:V) (v u:Value) (Q:VK),Inv X pins σ H s->RelV x v->RelV y u->r x y H Q ->
  wpAny (model X.prog X.w) X.A (f v u) (EP X pins σ Q) X.xe s
def UnR(X:Cx)(f:Value->Sem Value)(r:V->Hp->VK->Prop):Prop :=
 ∀(pins:List (Addr×Obj)) (s:Shared) (σ:St) (H:Hp) (x:V) (v:Value) (Q:VK),Inv X pins σ H s->RelV x v->r x H Q ->
  wpAny (model X.prog X.w) X.A (f v) (EP X pins σ Q) X.xe s
def zfD(X:Cx)(f:Value)(r:List V->Hp->VK->Prop):Prop :=
 ∀(pins:List (Addr×Obj)) (s:Shared) (σ:St) (H:Hp) (xs:List V) (us:List Value) (Q:VK),Inv X pins σ H s->Vals xs us->r xs H Q ->
  wpAny (model X.prog X.w) X.A (call f us) (EP X pins σ Q) X.xe s
def zwJ(X:Cx)(r:V->Hp->(Bool->Hp->Prop)->Prop):Prop :=
 ∀(pins:List (Addr×Obj)) (s:Shared) (σ:St) (H:Hp) (x:V) (v:Value) (Q:Bool->Hp->Prop),Inv X pins σ H s->RelV x v->r x H Q ->
  wpAny (model X.prog X.w) X.A (truthy v) (TP X pins σ Q) X.xe s
noncomputable def tOp(r:R2)(ta tb:TE):TE:=fun σ H Q=>ta σ H fun x H1=>tb σ H1 fun y H2=>r x y H2 Q
noncomputable def tUn(r:V->Hp->VK->Prop)(ta:TE):TE:=fun σ H Q=>ta σ H fun x H1=>r x H1 Q
noncomputable def rI(C:Int->Int->Prop)(g:Int->Int->V):R2:=fun x y H Q=>∃ i j,x=.int i/\y=.int j/\C i j/\Q (g i j) H
noncomputable def rI0(g:Int->Int->V):R2:=fun x y H Q=>∃ i j,x=.int i/\y=.int j/\Q (g i j) H
noncomputable def rU(g:Int->V):V->Hp->VK->Prop:=fun x H Q=>∃ i,x=.int i/\Q (g i) H
section
variable {X:Cx}{a b c:Expr}{ta tb tc:TE}{pos:Pos}
theorem zwG(ha:PE X a ta)(hb:PE X b tb){pins:List (Addr×Obj)}{s:Shared}{σ:St}{H:Hp}{R:V->V->Hp->Prop}(I:Inv X pins σ H s)
  (h:ta σ H fun x H1=>tb σ H1 fun y H2=>R x y H2){Q:Value->Shared->Prop}{f:Value->Value->Sem Value}
  (hf:∀ v u s2 x y H2,Inv X pins σ H2 s2->RelV x v->RelV y u->R x y H2->wpAny (model X.prog X.w) X.A (f v u) Q X.xe s2) :
  wpAny (model X.prog X.w) X.A (eval a X.env) (fun v s₁=>wpAny (model X.prog X.w) X.A (eval b X.env) (fun u s₂=>wpAny (model X.prog X.w) X.A (f v u) Q X.xe s₂) X.xe s₁) X.xe s:=by
 refine thn (ha pins s σ H _ I h) fun v s1 ⟨x,H1,I1,r1,q1⟩=>?_
 refine thn (hb pins s1 σ H1 _ I1 q1) fun u s2 ⟨y,H2,I2,r2,q2⟩=>?_
 exact hf v u s2 x y H2 I2 r1 r2 q2
theorem zv4{op:Operator}{r:R2}(ho:OpR X (binaryOp op) r)(ha:PE X a ta)(hb:PE X b tb):PE X (.BinOp a op b pos) (tOp r ta tb):=by
 intro pins s σ H Q I h
 exact wpAny_BinOp (zwG ha hb I h fun v u s2 x y H2 I2 rx ry q=>ho pins s2 σ H2 x y v u Q I2 rx ry q)
theorem zv2{op:UnaryOp}{r:V->Hp->VK->Prop}(ho:UnR X (unaryOp op) r)(ha:PE X a ta):PE X (.UnaryOp op a pos) (tUn r ta):=by
 intro pins s σ H Q I h
 exact UnaryOp_ (thn (ha pins s σ H _ I h) fun v s1 ⟨x,H1,I1,r1,q1⟩=>ho pins s1 σ H1 x v Q I1 r1 q1)
theorem opI{f:Value->Value->Sem Value}{C:Int->Int->Prop}{g:Int->Int->Int}
  (rule:∀(i j:Int) (t u:Tok) (s:Shared) (Q:Value->Shared->Prop) (E:Value->Shared->Prop),C i j->Q (.int (g i j) s.toks) { s with toks:=s.toks+1 }->wpAny (model X.prog X.w) X.A (f (.int i t) (.int j u)) Q E s) :
  OpR X f (rI C fun i j=>.int (g i j)):=by
 intro pins s σ H x y v u Q I rx ry h
 obtain⟨i,j,rfl,rfl,hc,q⟩:=h
 obtain⟨t,rfl⟩:=rx
 obtain⟨t',rfl⟩:=ry
 exact rule i j t t' s _ _ hc ⟨.int (g i j),H,I.tok _,⟨_,rfl⟩,q⟩
theorem zwV{f:Value->Value->Sem Value}{g:Int->Int->Int}
  (rule:∀(i j:Int) (t u:Tok) (s:Shared) (Q:Value->Shared->Prop) (E:Value->Shared->Prop),Q (.int (g i j) s.toks) { s with toks:=s.toks+1 }->wpAny (model X.prog X.w) X.A (f (.int i t) (.int j u)) Q E s) :
  OpR X f (rI0 fun i j=>.int (g i j)):=by
 intro pins s σ H x y v u Q I rx ry h
 obtain⟨i,j,rfl,rfl,q⟩:=h
 obtain⟨t,rfl⟩:=rx
 obtain⟨t',rfl⟩:=ry
 exact rule i j t t' s _ _ ⟨.int (g i j),H,I.tok _,⟨_,rfl⟩,q⟩
theorem zvh{f:Value->Value->Sem Value}{g:Int->Int->Bool}
  (rule:∀(i j:Int) (t u:Tok) (s:Shared) (Q:Value->Shared->Prop) (E:Value->Shared->Prop),Q (.bool (g i j)) s->wpAny (model X.prog X.w) X.A (f (.int i t) (.int j u)) Q E s) :
  OpR X f (rI0 fun i j=>.bl (g i j)):=by
 intro pins s σ H x y v u Q I rx ry h
 obtain⟨i,j,rfl,rfl,q⟩:=h
 obtain⟨t,rfl⟩:=rx
 obtain⟨t',rfl⟩:=ry
 exact rule i j t t' s _ _ ⟨.bl (g i j),H,I,rfl,q⟩
def zxc(i j:Int):Prop:=0<=j/\j<=1000000/\i.natAbs<2^64
theorem zt4:OpR X (binaryOp .Add) (rI0 fun i j=>.int (i+j)):=zwV fun _ _ _ _ _ _ _ q=>add_int q
theorem ztY:OpR X (binaryOp .Sub) (rI0 fun i j=>.int (i-j)):=zwV fun _ _ _ _ _ _ _ q=>sub_int q
theorem zr8:OpR X (binaryOp .Mod) (rI (fun _ j=>j≠0) fun i j=>.int (i.fmod j)):=opI fun _ _ _ _ _ _ _ hc q=>mod_int' hc q
theorem ztZ:OpR X (binaryOp .Pow) (rI zxc fun i j=>.int (i^j.toNat)):=opI fun _ _ _ _ _ _ _ hc q=>pow_int_small hc.1 hc.2.1 hc.2.2 q
theorem unI{f:Value->Sem Value}{g:Int->Int}
  (rule:∀(i:Int) (t:Tok) (s:Shared) (Q:Value->Shared->Prop) (E:Value->Shared->Prop),Q (.int (g i) s.toks) { s with toks:=s.toks+1 }->wpAny (model X.prog X.w) X.A (f (.int i t)) Q E s) :
  UnR X f (rU fun i=>.int (g i)):=by
 intro pins s σ H x v Q I rx h
 obtain⟨i,rfl,q⟩:=h
 obtain⟨t,rfl⟩:=rx
 exact rule i t s _ _ ⟨.int (g i),H,I.tok _,⟨_,rfl⟩,q⟩
theorem zs3:UnR X (unaryOp .USub) (rU fun i=>.int (-i)):=unI fun _ _ _ _ _ q=>neg_int q
end
section
variable {X:Cx}{a b c:Expr}{ta tb tc:TE}{pos:Pos}
theorem zuO{pins:List (Addr×Obj)}{σ:St}{H:Hp}{s:Shared}{Q:VK}{k k':Bool}(I:Inv X pins σ H s)(q:Q (.bl k) H)(e:k=k'):EP X pins σ Q (.bool k') s:=by
 subst e
 exact⟨.bl k,H,I,rfl,q⟩
theorem zv8:OpR X (compareOp .Lt) (rI0 fun i j=>.bl (decide (i<j))):=zvh fun _ _ _ _ _ _ _ q=>lt_int q
theorem zv9:OpR X (compareOp .LtE) (rI0 fun i j=>.bl (decide (i<=j))):=zvh fun _ _ _ _ _ _ _ q=>le_int q
theorem zwa:OpR X (compareOp .Gt) (rI0 fun i j=>.bl (decide (j<i))):=zvh fun _ _ _ _ _ _ _ q=>gt_int q
theorem zwb:OpR X (compareOp .GtE) (rI0 fun i j=>.bl (decide (j<=i))):=zvh fun _ _ _ _ _ _ _ q=>ge_int q
theorem zt1:OpR X (compareOp .Is) (fun x y H Q=>y=.non/\Q (.bl (decide (x=.non))) H):=by
 intro pins s σ H x y v u Q I rx ry h
 obtain⟨rfl,q⟩:=h
 cases ry
 refine is_none_gen (zuO I q ?_)
 cases x <;> first
  | (cases rx;rfl)
  | (obtain⟨t,rfl⟩:=rx;rfl)
theorem zlk(b:Expr){op:CmpOp}(h:op≠.In:=by decide)(h2:op≠.NotIn:=by decide):behindInMarks op b=false:=by
 have e1:(op==CmpOp.In)=false:=by cases op <;> first|rfl|exact absurd rfl h
 have e2:(op==CmpOp.NotIn)=false:=by cases op <;> first|rfl|exact absurd rfl h2
 cases b <;> simp [behindInMarks,e1,e2]
theorem zr2{op:CmpOp}{r:R2}(ho:OpR X (compareOp op) r)(ha:PE X a ta)(hb:PE X b tb)(hm:behindInMarks op b=false):PE X (.Compare a [op] [b] pos) (tOp r ta tb):=by
 intro pins s σ H Q I h
 exact wpAny_Compare1 (zwG ha hb I h fun v u s2 x y H2 I2 rx ry q=>ho pins s2 σ H2 x y v u Q I2 rx ry q) hm
noncomputable def zs8(t:TE):TT:=fun σ H Q=>t σ H fun x H'=>∃ k,x=.bl k/\Q k H'
theorem zki{op:CmpOp}{r:R2}(ho:OpR X (compareOp op) r)(ha:PE X a ta)(hb:PE X b tb)(hm:behindInMarks op b=false):PT X (.Compare a [op] [b] pos) (zs8 (tOp r ta tb)):=by
 intro pins s σ H Q I h
 refine wpAny_isTrue_Compare1 (thn (ha pins s σ H _ I h) fun v s1 ⟨x,H1,I1,r1,q1⟩=>thn (hb pins s1 σ H1 _ I1 q1) fun u s2 ⟨y,H2,I2,r2,q2⟩ =>
  thn (ho pins s2 σ H2 x y v u _ I2 r1 r2 q2) fun c s3 ⟨z,H3,I3,r3,k,e,q3⟩=>?_) hm
 subst e
 cases r3
 exact wpAny_truthy_bool ⟨H3,I3,q3⟩
noncomputable def zmH(r r':R2)(ta tb tc:TE):TE:=fun σ H Q=>ta σ H fun x H1=>tb σ H1 fun y H2=>r x y H2 fun z H3=>∃ k,z=.bl k /\
 (if k=true then tc σ H3 fun w' H4=>r' y w' H4 Q else Q (.bl false) H3)
theorem zpI{op op':CmpOp}{r r':R2}(ho:OpR X (compareOp op) r)(ho':OpR X (compareOp op') r')(ha:PE X a ta)(hb:PE X b tb)(hc:PE X c tc)
  (hm:lastMarks [op,op'] [b,c]=false:=by with_unfolding_all rfl):PE X (.Compare a [op,op'] [b,c] pos) (zmH r r' ta tb tc):=by
 intro pins s σ H Q I h
 refine Compare_chain (thn (ha pins s σ H _ I h) fun v s1 ⟨x,H1,I1,r1,q1⟩=>chain_link (thn (hb pins s1 σ H1 _ I1 q1) fun u s2 ⟨y,H2,I2,r2,q2⟩ =>
  thn (ho pins s2 σ H2 x y v u _ I2 r1 r2 q2) fun d s3 ⟨z,H3,I3,r3,k,e,q3⟩=>?_)) hm
 subst e
 cases r3
 refine wpAny_truthy_bool ?_
 cases k with
 | false=>exact ite_ff ⟨.bl false,H3,I3,rfl,q3⟩
 | true=>exact ite_tt (chain_last (thn (hc pins s3 σ H3 _ I3 q3) fun w' s4 ⟨z',H4,I4,r4,q4⟩=>ho' pins s4 σ H4 y z' u w' Q I4 r2 r4 q4))
theorem zpw{op op':CmpOp}{r r':R2}(ho:OpR X (compareOp op) r)(ho':OpR X (compareOp op') r')(ha:PE X a ta)(hb:PE X b tb)(hc:PE X c tc)
  (hm:lastMarks [op,op'] [b,c]=false:=by with_unfolding_all rfl):PT X (.Compare a [op,op'] [b,c] pos) (zs8 (zmH r r' ta tb tc)):=by
 intro pins s σ H Q I h
 refine isTrue_chain (thn (ha pins s σ H _ I h) fun v s1 ⟨x,H1,I1,r1,q1⟩=>test_link (thn (hb pins s1 σ H1 _ I1 q1) fun u s2 ⟨y,H2,I2,r2,q2⟩ =>
  thn (ho pins s2 σ H2 x y v u _ I2 r1 r2 q2) fun d s3 ⟨z,H3,I3,r3,k,e,q3⟩=>?_)) hm
 subst e
 cases r3
 refine wpAny_truthy_bool ?_
 cases k with
 | false =>
  obtain⟨k',e',q'⟩:=q3
  cases e'
  exact ite_ff ⟨H3,I3,q'⟩
 | true =>
  refine ite_tt (test_last (thn (hc pins s3 σ H3 _ I3 q3) fun w' s4 ⟨z',H4,I4,r4,q4⟩=>thn (ho' pins s4 σ H4 y z' u w' _ I4 r2 r4 q4) fun d' s5 ⟨z2,H5,I5,r5,k2,e2,q5⟩=>?_))
  subst e2
  cases r5
  exact wpAny_truthy_bool ⟨H5,I5,q5⟩
def zxW(K:W.Frag)(x:V)(H:Hp)(k:Bool):Prop :=
 match x with
 | .non=>k=false
 | .bl b=>k=b
 | .int i=>k=(i != 0)
 | .str y=>y.length<=sizeLine/\k=((y.length:Int) != 0)
 | .byt y=>y.size<=sizeLine/\k=((y.size:Int) != 0)
 | .ref p=>(∃ xs,SqL K H p xs/\k=!xs.isEmpty)\/(∃ xs,SqT K H p xs/\k=!xs.isEmpty)\/∃ kvs,H p=some (.dK kvs)/\k=!kvs.isEmpty
 | _=>False
theorem zmi{κ:Type}{kvs:List (κ×V)}{vs:List (κ×Value)}(r:KV kvs vs):(!vs.isEmpty)=!kvs.isEmpty:=by
 cases r <;> rfl
theorem zhs{xs:List V}{its:List Value}(r:Vals xs its):(!its.toArray.isEmpty)=!xs.isEmpty:=by
 cases r <;> simp
theorem zjd:(sizeLine:Nat)<2^63:=by rw [sizeLine_eq];decide
theorem zs5:zwJ X (fun x H Q=>∃ k,zxW X.K x H k/\Q k H):=by
 intro pins s σ H x v Q I rx h
 obtain⟨k,e,q⟩:=h
 have hl:=zjd
 have hs:sizeLine=16777216:=sizeLine_eq
 cases x with
 | non =>
  cases rx
  have e':k=false:=e
  subst e'
  exact truthy_none ⟨H,I,q⟩
 | bl b =>
  cases rx
  have e':k=b:=e
  subst e'
  exact wpAny_truthy_bool ⟨H,I,q⟩
 | int i =>
  obtain⟨t,rfl⟩:=rx
  have e':k=(i != 0):=e
  subst e'
  exact PySem.P.truthy_int ⟨H,I,q⟩
 | str y =>
  obtain⟨t,rfl⟩:=rx
  obtain⟨hy,e'⟩:y.length<=sizeLine/\k=((y.length:Int) != 0):=e
  subst e'
  exact PySem.P.truthy_str (by omega) ⟨H,I.tok _,q⟩
 | byt y =>
  obtain⟨t,rfl⟩:=rx
  obtain⟨hy,e'⟩:y.size<=sizeLine/\k=((y.size:Int) != 0):=e
  subst e'
  exact PySem.W.truthy_bytes (by omega) ⟨H,I.tok _,q⟩
 | ref p =>
  cases rx
  have e':(∃ xs,SqL X.K H p xs/\k=!xs.isEmpty)\/(∃ xs,SqT X.K H p xs/\k=!xs.isEmpty)\/∃ kvs,H p=some (.dK kvs)/\k=!kvs.isEmpty:=e
  rcases e' with⟨xs,hx,e'⟩|⟨xs,hx,e'⟩|⟨kvs,hx,e'⟩
  ·subst e'
   obtain⟨its,r,pl,hz⟩:=I.list hx
   have hlen:=r.length
   exact wpAny_truthy_list pl.isList (by simp only [List.size_toArray];omega) ⟨H,I.tok _,by rw [zhs r];exact q⟩
  ·subst e'
   obtain⟨its,r,pl,hz⟩:=I.tuple hx
   have hlen:=r.length
   exact truthy_tuple pl (by simp only [List.size_toArray];omega) ⟨H,I.tok _,by rw [zhs r];exact q⟩
  ·subst e'
   obtain⟨hz,hS,vs,r,m⟩:kvs.length<=sizeLine/\(p==sysModules)=false/\∃ vs,KV kvs vs/\s.heap.DictOf (zaE X.prog X.w) p vs:=I.hok p _ hx
   have hlen:kvs.length=vs.length:=Paired.length r
   exact wpAny_truthy_dict hS m (by omega) ⟨H,I.tok _,by rw [zmi r];exact q⟩
 | _=>exact(show False from e).elim
theorem vals1{x:V}{us:List Value}(r:Vals [x] us):∃ u,us=[u]/\RelV x u:=by
 cases r with
 | cons r1 r2=>cases r2;exact⟨_,rfl,r1⟩
theorem vals2{x y:V}{us:List Value}(r:Vals [x,y] us):∃ u w',us=[u,w']/\RelV x u/\RelV y w':=by
 cases r with
 | cons r1 r2 =>
  cases r2 with
  | cons r3 r4=>cases r4;exact⟨_,_,rfl,r1,r3⟩
theorem zqg:zfD X (.builtin "abs") (fun xs H Q=>∃ i,xs=[.int i]/\Q (.int (if i<0 then -i else i)) H):=by
 intro pins s σ H xs us Q I r h
 obtain⟨i,rfl,q⟩:=h
 obtain⟨u,rfl,t,rfl⟩:=vals1 r
 exact call_abs_int fun u tk=>⟨.int (if i<0 then -i else i),H,I.tok _,⟨_,rfl⟩,q⟩
end
end
section
theorem zkS.some_of{v:V}{o:Option Value}(r:zkS (some v) o):∃ u,o=some u/\RelV v u:=by
 cases o with
 | none=>exact(show False from r).elim
 | some u=>exact⟨u,rfl,r⟩
end
section
structure zbT(k:Nat)(A:Around):Prop where
 hd:A.handled=none
 dp:A.depth+3*k+110<recursionLimit
 un:A.units+16*k+200<cLine
 gd:A.guards=some []
theorem zbT.mono{j k:Nat}{A:Around}(r:zbT k A)(h:j<=k):zbT j A:=⟨r.hd,by have:=r.dp;omega,by have:=r.un;omega,r.gd⟩
theorem zbT.deeper{k:Nat}{A:Around}(r:zbT (k+1) A)(env:Env):zbT k (A.deeper env) :=
 ⟨r.hd,by have:=r.dp;show A.depth+1+3*k+110<_;omega,by have:=r.un;show A.units+3+16*k+200<_;omega,r.gd⟩
theorem zbT.in1{k:Nat}{A:Around}(r:zbT (k+1) A):zbT k A.in1 :=
 ⟨r.hd,by have:=r.dp;show A.depth+3*k+110<_;omega,by have:=r.un;show A.units+1+16*k+200<_;omega,r.gd⟩
theorem zbT.depth{k:Nat}{A:Around}(r:zbT k A):A.depth<recursionLimit:=by have:=r.dp;omega
theorem zbT.units{k:Nat}{A:Around}(r:zbT k A):A.units+64<cLine:=by have:=r.un;omega
noncomputable def zxj:TA:=fun _ H Q=>Q [] H
noncomputable def zvy(ta:TE)(tr:TA):TA:=fun σ H Q=>ta σ H fun x H1=>tr σ H1 fun xs H2=>Q (x::xs) H2
section
variable {X:Cx}{e:Expr}{es:List Expr}{te:TE}{t:TA}{pos:Pos}
theorem zhl:PA X [] zxj:=fun _ _ _ _ H Q I h=>Calls.spliced_nil ⟨[],H,I,.nil,h⟩
theorem zcc(ha:PE X e te)(hr:PA X es t)(hs:starEach (e::es) X.env=(false,eval e X.env)::starEach es X.env:=by rfl):PA X (e::es) (zvy te t):=by
 intro pos pins s σ H Q I h
 rw [hs]
 show wpAny _ _ (spliced ((false,eval e X.env)::backTo pos (starEach es X.env))) _ _ s
 refine Calls.spliced_cons (thn (ha pins s σ H _ I h) fun u s1 ⟨x,H1,I1,r1,q1⟩=>?_)
 exact thn (hr pos pins s1 σ H1 _ I1 q1) fun us s2 ⟨xs,H2,I2,r2,q2⟩=>⟨x::xs,H2,I2,.cons r1 r2,q2⟩
noncomputable def zxe(t:TA):TE:=fun σ H Q=>t σ H fun xs H1=>xs.length<=sizeLine/\∀ p,H1 p=none->Q (.ref p) (upd H1 p (.tup xs))
noncomputable def zxk(t:TA):TE:=fun σ H Q=>t σ H fun xs H1=>xs.length<=sizeLine/\∀ p,H1 p=none->Q (.ref p) (upd H1 p (.lst xs))
theorem ztP{x1}(h:PA X es t):PE X (.Tuple es x1 pos) (zxe t):=by
 intro pins s σ H Q I hq
 refine wpAny_Tuple_spliced (thn (h pos pins s σ H _ I hq) fun us s1 ⟨xs,H1,I1,r,z,q⟩=>⟨by rw [<- r.length];exact z,?_⟩)
 have hf:H1 s1.heap.objs.size=none:=I1.hok.fresh (Nat.le_refl _)
 refine⟨.ref s1.heap.objs.size,upd H1 s1.heap.objs.size (.tup xs),I1.laid (t':=s1.toks) (fun b u e=>Heap.get?_push_of_some _ e) (Nat.le_refl _) ?_,rfl,q _ hf⟩
 exact⟨z,us,r,⟨_,Heap.get?_push_size _ rfl,rfl,_,rfl⟩⟩
theorem ztT(h:PA X es t):PE X (.List es pos) (zxk t):=by
 intro pins s σ H Q I hq
 refine wpAny_List_spliced (thn (h pos pins s σ H _ I hq) fun us s1 ⟨xs,H1,I1,r,z,q⟩=>⟨by rw [<- r.length];exact z,?_⟩)
 have hf:H1 s1.heap.objs.size=none:=I1.hok.fresh (Nat.le_refl _)
 refine⟨.ref s1.heap.objs.size,upd H1 s1.heap.objs.size (.lst xs),I1.laid (t':=s1.toks) (fun b u e=>Heap.get?_push_of_some _ e) (Nat.le_refl _) ?_,rfl,q _ hf⟩
 exact⟨z,us,0,r,Heap.get?_push_size _ rfl⟩
end
abbrev Sp:=List V->Hp->VK->XK->Prop
abbrev CXT:=List Env->Hp->Shared->XK->Value->Shared->Prop
structure zvr(P:Program)(w:World)(K:W.Frag)(mg:Str->Option Value)(base:Heap)(A:Around)(outer:List Env)(s:Shared)(H:Hp):Prop where
 frames:A.frames=some outer
 mod:Mod K mg base
 bs:∀ b o,base.get? b=some o->s.heap.get? b=some o/\H b=none
 bsz:base.objs.size<=s.heap.objs.size
 zmk:s.heap.FunFrames base outer
 frf:∀ b∈frs outer,H b=none
 hok:HOk P w H s.heap
 bare:AllBare s.gens
 tree:P.given.tree=none
theorem Inv.pyl{X:Cx}{pins:List (Addr×Obj)}{σ:List (Option V)}{H:Hp}{s:Shared}(I:Inv X pins σ H s)(hd:X.A.depth+100<recursionLimit):PySem.PylongRoom (model X.prog X.w) X.A s:=by
 obtain⟨env,r,e,h1,h2,h3,h4⟩:=I.ok.sk
 exact PySem.PylongRoom.of I.nolimit hd (PySem.SeerAt.of (I.ok.mod.seer.keeps I.bk) I.ok.tree (I.ok.frames.trans (congrArg some e)) h1 h2 h3 h4)
def CE(outer:List Env)(P:Program)(w:World)(H:Hp)(s:Shared)(Q:VK)(u:Value)(s':Shared):Prop :=
 ∃ v H',s'.os=s.os/\AllBare s'.gens/\Un (frs outer) [] H H' s.heap s'.heap/\HOk P w H' s'.heap/\RelV v u/\Q v H'
def CR(CX:CXT)(outer:List Env)(P:Program)(w:World)(H:Hp)(s:Shared)(Q:VK)(E:XK)(r:Result)(s':Shared):Prop :=
 match r with
 | .ok (.ret u)=>CE outer P w H s Q u s'
 | .ok _=>False
 | .error e=>CX outer H s E e s'
structure zhV(P:Program)(w:World)(K:W.Frag)(mg:Str->Option Value)(base:Heap)(CX:CXT)(k:Nat)(f:Addr)(fd:FuncData)(ps:List Str)(sp:Sp):Prop where
 len:∀ vs H Q E,sp vs H Q E->vs.length=ps.length
 run:∀(A:Around) (outer:List Env) (s:Shared) (H:Hp) (args:Args) (us:List Value) (vs:List V) (Q:VK) (E:XK),zbT k A->zvr P w K mg base A outer s H->BindsTo s fd args (ps.zip us)->Vals vs us->sp vs H Q E ->
  codeAny (model P w) A (.call (.ref f) args) (CR CX outer P w H s Q E) s
theorem zhV.imp{P:Program}{w:World}{K:W.Frag}{mg:Str->Option Value}{base:Heap}{CX:CXT}{k:Nat}{f:Addr}{fd:FuncData}{ps:List Str}{sp sp':Sp}(F:zhV P w K mg base CX k f fd ps sp)
  (h:∀ vs H Q E,sp' vs H Q E->sp vs H Q E):zhV P w K mg base CX k f fd ps sp' :=
 ⟨fun vs H Q E q=>F.len vs H Q E (h _ _ _ _ q),fun A outer s H args us vs Q E hr he hb hv hs=>F.run A outer s H args us vs Q E hr he hb hv (h _ _ _ _ hs)⟩
section
variable {X:Cx}{pins:List (Addr×Obj)}{σ:St}{H:Hp}{s s':Shared}
theorem Inv.env0(I:Inv X pins σ H s):zvr X.prog X.w X.K X.mg X.base X.A X.stack s H :=
 ⟨I.ok.frames,I.ok.mod,I.bs,Nat.le_trans I.ok.bsz I.sz,I.stack,I.zmK,I.hok,I.bare,I.ok.tree⟩
theorem Inv.after{Q:VK}{u:Value}(I:Inv X pins σ H s)(h:CE X.stack X.prog X.w H s Q u s'):EP X pins σ Q u s':=by
 obtain⟨v,H',os,bare,un,hok,r,q⟩:=h
 obtain⟨hh,g,d,t,os'⟩:=s'
 obtain rfl:os'=s.os:=os
 exact⟨v,H',I.call (h':=hh) (g':=g) (d':=d) (t':=t) (ch:=[]) un hok bare (fun b z=>absurd z (by simp)),r,q⟩
end
noncomputable def zrh(sp:Sp)(dvs:List V)(E:XK)(t:TA):TE:=fun σ H Q=>t σ H fun vs H1=>sp (vs++dvs) H1 Q E
def Binds(K:W.Frag)(fd:FuncData)(ps:List Str)(ds:List Value):Prop :=
 ∀(s:Shared) (us:List Value),K.In s.heap->(us++ds).length=ps.length->BindsTo s fd ⟨us,[]⟩ (ps.zip (us++ds))
theorem Binds.all{K:W.Frag}{fd:FuncData}{ps:List Str}(h:∀ us:List Value,us.length=ps.length->bindArgs fd ⟨us,[]⟩=pure (ps.zip us)):Binds K fd ps []:=fun s us _ hl=>by
 rw [List.append_nil] at hl ⊢
 exact .of_eq (h us hl)
def Passes(CX:CXT)(X:Cx)(E:XK):Prop:=∀(pins:List (Addr×Obj)) (σ:St) (H:Hp) (s:Shared) (e:Value) (s':Shared),Inv X pins σ H s->CX X.stack H s E e s'->X.xe e s'
section
variable {X:Cx}{CX:CXT}{k:Nat}{f C:Addr}{fd:FuncData}{ps:List Str}{sp:Sp}{dvs:List V}{ds:List Value}{E:XK}{x m:Str}{p pos apos:Pos}{e o:Expr}{es:List Expr}{ta:TE}{t:TA}
theorem zti{pins:List (Addr×Obj)}{σ:St}{H:Hp}{s:Shared}{Q:VK}{us:List Value}{vs:List V}(F:zhV X.prog X.w X.K X.mg X.base CX k f fd ps sp)(hr:zbT k X.A)(hb:Binds X.K fd ps ds)(hd:Vals dvs ds)(hx:Passes CX X E)
  (I:Inv X pins σ H s)(r:Vals vs us)(h:sp (vs++dvs) H Q E):wpAny (model X.prog X.w) X.A (call (.ref f) us) (EP X pins σ Q) X.xe s:=by
 have r2:Vals (vs++dvs) (us++ds):=r.append hd
 have hl:(us++ds).length=ps.length:=by rw [<- r2.length];exact F.len _ _ _ _ h
 refine wpAny_call (codeAny_mono (F.run X.A X.stack s H ⟨us,[]⟩ (us++ds) (vs++dvs) Q E hr I.env0 (hb s us I.kIn hl) r2 h) fun r s' hq=>?_)
 cases r with
 | error e=>exact hx pins σ H s e s' I hq
 | ok fl =>
  cases fl with
  | ret u=>exact I.after hq
  | next=>exact False.elim hq
  | brk=>exact False.elim hq
  | cont=>exact False.elim hq
theorem zr3(F:zhV X.prog X.w X.K X.mg X.base CX k f fd ps sp)(hr:zbT k X.A)(hg:Gl X x)(hm:X.mg x=some (.ref f))(hk:PySem.W.keepIn X.K (.ref f)=true)(hb:Binds X.K fd ps ds)(hd:Vals dvs ds)(hx:Passes CX X E)
  (ha:PA X (e::es) t)(hdb:(x==("__debug__":Str))=false:=by decide) (he:starEach (e::es) X.env=(false,eval e X.env)::starEach es X.env:=by rfl) (hpl:(backTo pos (starEach es X.env)).any (·.1)=false:=by rfl) :
  PE X (.Call (.Name x p) (e::es) [] pos) (zrh sp dvs E t):=by
 intro pins s σ H Q I h
 refine wpAny_Call_Name_kw (zkr I hg hm ?_ hdb)
 refine PySem.W.callWith_K (h₀:=X.base) I.ok.mod.kin hk (thn (ha pos pins s σ H _ I h) fun us s1 ⟨vs,H1,I1,r,q⟩=>⟨I1.kIn,?_⟩) he hpl
 exact zti F hr hb hd hx I1 r q
end
structure zdj(N P:List Str)(sc:Scope):Prop where
 kind:sc.kind=.function
 co:sc.isCoroutine=false
 gen:sc.isGenerator=false
 nd:N.Nodup
 pre:N.take P.length=P
 par:∀ x∈P,sc.names.lookup x=some .local\/sc.names.lookup x=some .cell
 nofree:∀ y∈sc.names,y.2≠.free
theorem zjG{kindOf:Str->Option NameKind}{x:Str}:∀{binds:List (Str×Value)} {m:Str->Option Value},(∀ v,(x,v)∉binds)->bindL kindOf binds m x=m x
 | [],_,_=>rfl
 | (n,v)::r,m,h=>by
  unfold bindL
  rw [zjG fun w hw=>h w (List.mem_cons_of_mem _ hw)]
  split
  ·have:x≠n:=by rintro rfl;exact h v List.mem_cons_self
   simp [this]
  ·rfl
theorem zjI{kindOf:Str->Option NameKind}{x:Str}:∀{binds:List (Str×Value)} {m:Str->Option Value},(∀ v,(x,v)∉binds)->bindC kindOf binds m x=m x
 | [],_,_=>rfl
 | (n,v)::r,m,h=>by
  unfold bindC
  rw [zjI fun w hw=>h w (List.mem_cons_of_mem _ hw)]
  split
  ·rfl
  ·have:x≠n:=by rintro rfl;exact h v List.mem_cons_self
   simp [this]
theorem zjH{kindOf:Str->Option NameKind}{x:Str}{v:Value}:∀{P:List Str} {vs:List Value} {i:Nat} {m:Str->Option Value},P.Nodup->P[i]?=some x->vs[i]?=some v->kindOf x=some .local ->
  bindL kindOf (P.zip vs) m x=some v
 | [],_,_,_,_,h,_,_=>by simp at h
 | _::_,[],_,_,_,_,h,_=>by simp at h
 | p::P,w::vs,0,m,nd,h1,h2,hk=>by
  simp at h1 h2;subst h1;subst h2
  show bindL kindOf ((p,w)::P.zip vs) m p=_
  unfold bindL
  rw [zjG fun v hv=>(List.nodup_cons.mp nd).1 (List.of_mem_zip hv).1,if_pos hk]
  simp
 | p::P,w::vs,i+1,m,nd,h1,h2,hk=>by
  show bindL kindOf ((p,w)::P.zip vs) m x=_
  unfold bindL
  exact zjH (i:=i) (List.nodup_cons.mp nd).2 (by simpa using h1) (by simpa using h2) hk
theorem zjJ{kindOf:Str->Option NameKind}{x:Str}{v:Value}:∀{P:List Str} {vs:List Value} {i:Nat} {m:Str->Option Value},P.Nodup->P[i]?=some x->vs[i]?=some v->kindOf x≠some .local ->
  bindC kindOf (P.zip vs) m x=some v
 | [],_,_,_,_,h,_,_=>by simp at h
 | _::_,[],_,_,_,_,h,_=>by simp at h
 | p::P,w::vs,0,m,nd,h1,h2,hk=>by
  simp at h1 h2;subst h1;subst h2
  show bindC kindOf ((p,w)::P.zip vs) m p=_
  unfold bindC
  rw [zjI fun v hv=>(List.nodup_cons.mp nd).1 (List.of_mem_zip hv).1,if_neg hk]
  simp
 | p::P,w::vs,i+1,m,nd,h1,h2,hk=>by
  show bindC kindOf ((p,w)::P.zip vs) m x=_
  unfold bindC
  exact zjJ (i:=i) (List.nodup_cons.mp nd).2 (by simpa using h1) (by simpa using h2) hk
noncomputable def start(N:List Str)(vs:List V):St:=vs.map some++List.replicate (N.length-vs.length) none
noncomputable def zoZ(CX:CXT)(P:Program)(w:World)(K:W.Frag)(mg:Str->Option Value)(base:Heap)(N:List Str)(qual:Str)(scope:Scope)(f:Addr)(cd:Value)(A:Around)(outer:List Env)(s:Shared)(H:Hp)(E:XK):Cx where
 prog:=P
 w:=w
 K:=K
 mg:=mg
 base:=base
 A:=A.deeper (envOfC qual scope s.heap.objs.size f cd)
 N:=N
 s₀:=s
 H₀:=H
 env:=envOfC qual scope s.heap.objs.size f cd
 outer:=outer
 stack:=envOfC qual scope s.heap.objs.size f cd::outer
 ex:=[]
 calm:=true
 fn:=fun _=>true
 pn:=[]
 xe:=fun e s'=>wpAny (model P w) (A.deeper (envOfC qual scope s.heap.objs.size f cd)) (leaving (envOfC qual scope s.heap.objs.size f cd) e) (fun _ s''=>CX outer H s E e s'') (fun e' s''=>CX outer H s E e' s'') s'
theorem zlM{sc:Scope}{n:Nat}{x:Str}(h:sc.names.lookup x=some .cell):∃ c,(cellsFrom n sc.names []).lookup x=some c:=by
 have q:=PySem.W.cellsFrom_some sc.names n [] (.inl h)
 exact Option.isSome_iff_exists.mp q
theorem znW{CX:CXT}{P:Program}{w:World}{K:W.Frag}{mg:Str->Option Value}{base:Heap}{N ps:List Str}{qual:Str}{scope:Scope}{f:Addr}{cd:Value}{A:Around}{outer:List Env}{s s1:Shared}{H:Hp}{E:XK}{us:List Value}{vs:List V}
  (S:zdj N ps scope)(hd:A.handled=none)(e0:zvr P w K mg base A outer s H)(hl:vs.length=ps.length)(r:Vals vs us)
  (x:InCallC s s.heap.objs.size (bindL (envOfC qual scope s.heap.objs.size f cd).kindOf (ps.zip us) fun _=>none) (cellsFrom (s.heap.objs.size+1) scope.names []) (bindC (envOfC qual scope s.heap.objs.size f cd).kindOf (ps.zip us) fun _=>none) s1) :
  Inv (zoZ CX P w K mg base N qual scope f cd A outer s H E) [] (start N vs) H s1:=by
 have hpl:ps.length<=N.length:=by have:=congrArg List.length S.pre;rw [List.length_take] at this;omega
 obtain⟨h1,tk,rfl,hk⟩:=x.done
 have noA:∀ b:Addr,b∉(zoZ CX P w K mg base N qual scope f cd A outer s H E).ex:=fun b z=>absurd (show b∈([]:List Addr) from z) (by simp)
 refine⟨⟨e0.mod,S.kind,rfl,rfl,Nat.le_refl _,fun y z c h1 h2=>?_,fun y hy=>?_,fun y c _ h=>?_,fun _=>hd,Around.frames_deeper e0.frames,.inr ⟨rfl,rfl⟩,fun b z=>absurd z (noA b),e0.bs,e0.bsz,fun b _ _=>noA b,fun b z=>absurd z (noA b),e0.zmk,e0.frf,e0.tree,⟨_,_,rfl,S.gen,S.co,rfl,rfl⟩⟩,
  rfl,e0.bare,Un.kept hk,⟨_,x.toInCall.ns,fun i y v h1 h2 h3=>?_⟩,fun y c h=>⟨_,x.cell y c h⟩,e0.hok.fresh (Nat.le_refl _),fun y c h=>?_,fun p hp=>absurd (show p∈([]:List (Addr×Obj)) from hp) (by simp),e0.hok.kept hk,?_⟩
 ·exact name_of_addr x.apart (PySem.mem_of_lookup h1) (PySem.mem_of_lookup h2)
 ·have hy:scope.names.lookup y=some .cell\/scope.names.lookup y=some .free:=hy
  rcases hy with hy|hy
  ·exact zlM hy
  ·exact absurd rfl (S.nofree _ (PySem.mem_of_lookup hy))
 ·exact Nat.le_of_lt (x.above y c (PySem.mem_of_lookup h))
 ·have hi:i<vs.length:=by
   unfold start at h2
   by_cases hi:i<vs.length
   ·exact hi
   ·rw [List.getElem?_append_right (by simpa using hi)] at h2
    rw [List.getElem?_replicate] at h2
    split at h2 <;> cases h2
  have ha:vs[i]?=some v:=by
   unfold start at h2
   rw [List.getElem?_append_left (by simpa using hi),List.getElem?_map] at h2
   cases e:vs[i]? with
   | none=>rw [e] at h2;cases h2
   | some a=>rw [e] at h2;cases h2;rfl
  obtain⟨u,hu,rv⟩:=r.get ha
  have hp:ps[i]?=some y:=by
   rw [<- S.pre,List.getElem?_take_of_lt (by omega)];exact h1
  have ndP:ps.Nodup:=by rw [<- S.pre];exact S.nd.sublist (List.take_sublist _ _)
  refine⟨u,rv,?_⟩
  rcases S.par y (List.mem_of_getElem? hp) with k|k
  ·exact .inl ⟨k,zjH ndP hp hu k⟩
  ·obtain⟨c,e⟩:=zlM (n:=s.heap.objs.size+1) k
   refine .inr ⟨.inl k,c,e,?_⟩
   have q:=x.cell y c e
   rw [zjJ ndP hp hu (by show scope.names.lookup y≠_;rw [k];decide)] at q
   exact q
 ·exact e0.hok.fresh (Nat.le_of_lt (x.above y c (PySem.mem_of_lookup h)))
 ·unfold start
  show _=N.length
  rw [List.length_append,List.length_map,List.length_replicate]
  omega
theorem zwu{CX:CXT}{P:Program}{w:World}{K:W.Frag}{mg:Str->Option Value}{base:Heap}{k:Nat}{f:Addr}{name qual:Str}{params:Arguments}{body:List Stmt}{scope:Scope}{dV kV doc pm cdv ct oc:Value}{an od:Option Addr}
  {osl:Array (Option Value)}{N ps:List Str}{sp:Sp}(lk:K.lookup f=some ⟨oc,od,.func (PySem.W.fnOf name qual params body scope dV kV doc pm an cdv ct),osl⟩)(hcd:PySem.W.codeIn K cdv qual=true)(S:zdj N ps scope)
  (len:∀ vs H Q E,sp vs H Q E->vs.length=ps.length)
  (hbody:∀(A:Around) (outer:List Env) (s:Shared) (H:Hp) (vs:List V) (Q:VK) (E:XK),zbT k (A.deeper (envOfC qual scope s.heap.objs.size f cdv))->sp vs H Q E ->
   ∃ t,PSs (zoZ CX P w K mg base N qual scope f cdv A outer s H E) body t/\t { nx:=fun _ H'=>Q .non H',rt:=Q } (start N vs) H) :
  zhV P w K mg base CX (k+1) f (PySem.W.fnOf name qual params body scope dV kV doc pm an cdv ct) ps sp:=by
 refine⟨len,fun A outer s H args us vs Q E hr e0 hb r hsp=>?_⟩
 have hl:=len _ _ _ _ hsp
 have KX:K.In s.heap:=e0.mod.kin.keeps fun b o e=>(e0.bs b o e).1
 have lim:s.heap.NoLimit:=e0.mod.nolimit.keeps fun b o e=>(e0.bs b o e).1
 have hkind:∀ y∈ps.zip us,scope.names.lookup y.1=some .local\/(scope.names.lookup y.1=some .cell/\((cellsFrom (s.heap.objs.size+1) scope.names []).lookup y.1).isSome=true):=fun⟨n,v⟩ hy=>by
  rcases S.par n (List.of_mem_zip hy).1 with q|q
  ·exact .inl q
  ·exact .inr ⟨q,PySem.W.cellsFrom_some _ _ _ (.inl q)⟩
 refine codeAny_call_function hr.depth (KX _ _ lk) rfl S.co S.gen rfl (PySem.W.codeRec_of KX hcd) (hb _ _ _ _ ?_)
 refine wpAny_newFunctionEnv_cells S.kind hkind fun env he s1 x=>?_
 subst he
 refine⟨lim.keeps x.toInCall.keep,codeAny_func ?_⟩
 obtain⟨t,ht,hq⟩:=hbody A outer s H vs Q E (hr.deeper _) hsp
 have I:Inv (zoZ CX P w K mg base N qual scope f cdv A outer s H E) [] (start N vs) H s1:=znW S hr.hd e0 hl r x
 refine wpAny_mono (ht [] s1 (start N vs) H _ I hq) (fun fl s' hs=>?_) fun e s' hs=>hs
 have fin:∀{σ':St} {H':Hp} {v:V} {u:Value},Inv (zoZ CX P w K mg base N qual scope f cdv A outer s H E) [] σ' H' s'->RelV v u->Q v H'->CE outer P w H s Q u s' :=
  fun{σ' H' v u} J rv q=>⟨v,H',J.os,J.bare,J.base,J.hok,rv,q⟩
 cases fl with
 | ret u =>
  obtain⟨v,σ',H',J,rv,q⟩:=hs
  exact fin J rv q
 | next =>
  obtain⟨σ',H',J,q⟩:=hs
  exact fin (v:=V.non) (u:=Value.none) J rfl q
 | brk =>
  obtain⟨_,_,_,q⟩:=hs
  exact False.elim q
 | cont =>
  obtain⟨_,_,_,q⟩:=hs
  exact False.elim q
end
section
section
variable {X:Cx}{x:Str}{p pos:Pos}{e:Expr}{es:List Expr}{t:TA}{id T:String}{r:List V->Hp->VK->Prop}
noncomputable def tCB(r:List V->Hp->VK->Prop)(t:TA):TE:=fun σ H Q=>t σ H fun vs H1=>r vs H1 Q
theorem zh9(hc:zfD X (.builtin id) r)(hg:Gl X x)(hm:X.mg x=none)(hv:bootBuiltins x=some (.builtin id))(ha:PA X (e::es) t)(hn:x ≠ "__name__":=by decide) (hdb:(x==("__debug__":Str))=false:=by decide)
  (he:starEach (e::es) X.env=(false,eval e X.env)::starEach es X.env:=by rfl) (hpl:(backTo pos (starEach es X.env)).any (·.1)=false:=by rfl):PE X (.Call (.Name x p) (e::es) [] pos) (tCB r t):=by
 intro pins s σ H Q I h
 refine wpAny_Call_Name_kw (zgb I hg hm hv ?_ hn hdb)
 exact PyProof.Rows.callWith_builtin1 (thn (ha pos pins s σ H _ I h) fun us s1 ⟨vs,H1,I1,r1,q1⟩=>hc pins s1 σ H1 vs us Q I1 r1 q1) he hpl
theorem zni(hc:zfD X (.type T) r)(hg:Gl X x)(hm:X.mg x=none)(hv:bootBuiltins x=some (.type T))(ha:PA X (e::es) t)(hn:x ≠ "__name__":=by decide) (hdb:(x==("__debug__":Str))=false:=by decide)
  (he:starEach (e::es) X.env=(false,eval e X.env)::starEach es X.env:=by rfl) (hpl:(backTo pos (starEach es X.env)).any (·.1)=false:=by rfl):PE X (.Call (.Name x p) (e::es) [] pos) (tCB r t):=by
 intro pins s σ H Q I h
 refine wpAny_Call_Name_kw (zgb I hg hm hv ?_ hn hdb)
 exact PyProof.Rows.callWith_type1 (thn (ha pos pins s σ H _ I h) fun us s1 ⟨vs,H1,I1,r1,q1⟩=>hc pins s1 σ H1 vs us Q I1 r1 q1) he hpl
end
end
end L2
namespace HT
open PySem PyProof.Rows
noncomputable def lexLt:List Int->List Int->Bool
 | [],[]=>false
 | [],_::_=>true
 | _::_,[]=>false
 | x::xs,y::ys=>if x=y then lexLt xs ys else decide (x<y)
theorem zl9(x y:Int)(xs ys:List Int):lexLt (x::xs) (y::ys)=if x=y then lexLt xs ys else decide (x<y):=rfl
theorem zih:lexLt [] []=false:=rfl
theorem zgW(y:Int)(ys:List Int):lexLt [] (y::ys)=true:=rfl
theorem zgX(x:Int)(xs:List Int):lexLt (x::xs) []=false:=rfl
theorem zp7(A:Around)(s:Shared)(a:Int)(t:Tok)(c:Int)(u:Tok):∃ e,SeqAt.EqAt A s (.int a t) (.int c u) e/\(e=true↔a=c) :=
 ⟨(a==c),SeqAt.EqAt.int_int a t c u,by simp⟩
theorem zld(A:Around)(s:Shared)(a:Int)(t:Tok)(c:Int)(u:Tok)(prog:Program)(w:World)(E:Value->Shared->Prop)(Q:Value->Shared->Prop)(h:Q (.bool (decide (a<c))) s) :
  wpAny (model prog w) A (richCompare .Lt (.int a t) (.int c u)) Q E s :=
 (PyProof.Rows.lt_int h:wpAny (model prog w) A (compareOp .Lt (.int a t) (.int c u)) Q E s)
section
open PySem.SeqAt
open PySem.AutoSeq1 (wpAny_loadPart')
open PySem.MeetsSeq PySem.MeetsSeq2 PySem.MeetsSeq3
theorem zhZ(l b:Addr)(items items2:Array Value)(n n2:Nat)(dd dd2:Option Addr)(sl sl2:Array (Option Value))(ns ms:List Int)(hi:IntsAre items.toList ns)(hj:IntsAre items2.toList ms) :
  Meets (Builtin.«tuple.__lt__» ⟨[.ref l,.ref b],[]⟩)
   (fun _ R s=>s.heap.get? l=some { cls:=.type "tuple",dict:=dd,data:=.seq items n,slots:=sl }/\s.heap.get? b=some { cls:=.type "tuple",dict:=dd2,data:=.seq items2 n2,slots:=sl2 } /\
    R (.ok (.ret (.bool (lexLt ns ms)))) s) :=
 .of_wp fun prog w A R s h=>by
  obtain⟨hp,g,d,tk,os⟩:=s;obtain⟨hl,hb,h⟩:=h
  have f2:=AutoSeq1.sub_tuple_tuple
  have z1:items.size=ns.length:=by rw [<- hi.length];simp
  have z2:items2.size=ms.length:=by rw [<- hj.length];simp
  wp_walk using wpAny_loadPart' hl,wpAny_loadPart' hb,wpAny_forIn_list _ (fun rest b s'=>b.1=none/\s'=⟨hp,g,d,tk,os⟩/\∃(vs ws:List Value) (ns' ms':List Int),rest=vs.zip ws /\
   IntsAre vs ns'/\IntsAre ws ms'/\ns'.length+items2.size=ms'.length+items.size/\R (.ok (.ret (.bool (lexLt ns' ms')))) ⟨hp,g,d,tk,os⟩) _
  case turn =>
   rintro⟨y,x⟩ rest b s' ⟨hb',rfl,vs,ws,ns',ms',hz,hvi,hwi,hlen,hR⟩
   cases hvi with
   | nil=>rw [List.zip_nil_left] at hz;cases hz
   | cons a t hvi' =>
    cases hwi with
    | nil=>rw [List.zip_nil_right] at hz;cases hz
    | cons c u hwi' =>
     rw [List.zip_cons_cons] at hz
     injection hz with hyx hrest
     injection hyx with hy hx
     subst hy hx
     rw [zl9] at hR
     simp only [List.length_cons] at hlen
     obtain⟨e,he,hiff⟩:=zp7 A.in1 ⟨hp,g,d,tk,os⟩ a t c u
     refine wpAny_bind (he prog w _ _ ?_)
     cases e with
     | true =>
      rw [if_pos (hiff.mp rfl)] at hR
      wp_walk
      exact⟨rfl,rfl,_,_,_,_,hrest,hvi',hwi',by omega,hR⟩
     | false =>
      rw [if_neg (fun q=>absurd (hiff.mpr q) Bool.false_ne_true)] at hR
      have hri:=zld A.in1 ⟨hp,g,d,tk,os⟩ a t c u prog w
      wp_walk using hri
      exact⟨_,rfl,by simpa using hR⟩
  case fin =>
   rintro⟨b1,b2⟩ s' ⟨hb',rfl,vs,ws,ns',ms',hz,hvi,hwi,hlen,hR⟩
   simp only at hb'
   subst hb'
   have hv:lexLt ns' ms'=decide (items.size<items2.size):=by
    cases hvi with
    | nil =>
     cases hwi with
     | nil =>
      simp only [List.length_nil] at hlen
      rw [zih]
      exact(decide_eq_false (by omega)).symm
     | cons c u hw =>
      simp only [List.length_nil,List.length_cons] at hlen
      rw [zgW]
      exact(decide_eq_true (by omega)).symm
    | cons a t hv =>
     cases hwi with
     | nil =>
      simp only [List.length_nil,List.length_cons] at hlen
      rw [zgX]
      exact(decide_eq_false (by omega)).symm
     | cons c u hw =>
      rw [List.zip_cons_cons] at hz
      cases hz
   rw [hv] at hR
   wp_walk
   exact⟨_,rfl,by simpa [Builtin.Tuple.tupleCompareSizes] using hR⟩
  case h =>
   exact⟨rfl,rfl,items.toList,items2.toList,ns,ms,rfl,hi,hj,by omega,h⟩
end
section
variable {prog:Program}{w:World}{A:Around}{E:Value->Shared->Prop}{s:Shared}
theorem zeL{l b:Addr}{items items2:Array Value}{ns ms:List Int}{Q:Value->Shared->Prop}(hl:IsTup s.heap l items)(hb:IsTup s.heap b items2)(hi:IntsAre items.toList ns)(hj:IntsAre items2.toList ms)
  (hu:A.units<cLine)(h:Q (.bool (lexLt ns ms)) s):wpAny (model prog w) A (compareOp .Lt (.ref l) (.ref b)) Q E s:=by
 obtain⟨⟨cls,dd,data,sl⟩,ho,hc,n,hd⟩:=id hl
 obtain⟨⟨cls2,dd2,data2,sl2⟩,ho2,hc2,n2,hd2⟩:=id hb
 simp only at hc hd hc2 hd2
 subst hc hd hc2 hd2
 exact richCompare_meets_room (op:=.Lt) ⟨_,ho,rfl⟩ ⟨_,ho2,rfl⟩ PySem.F.slot_tuple_lt PySem.F.entry_tuple_lt (PySem.F.args_tuple_lt_2 _ _) (zhZ l b items items2 n n2 dd dd2 sl sl2 ns ms hi hj)
  ⟨ho,ho2,show Value.bool (lexLt ns ms)≠Value.notImplemented/\Q (.bool (lexLt ns ms)) s from⟨(fun x=>nomatch x),h⟩⟩ hu
theorem zsK{t b:Addr}{vs ws:List Value}{Q:Value->Shared->Prop}(ht:IsTup s.heap t vs.toArray)(hb:IsTup s.heap b ws.toArray)(hv:vs≠[])
  (h1:ws=[]->Q (.ref t) s)(h2:ws≠[]->Q (.ref s.heap.objs.size) { s with heap:=s.heap.push { cls:=.type "tuple",data:=.seq (vs++ws).toArray } })
  (hsz:vs.length+ws.length<=sizeLine):wpAny (model prog w) A (binaryOp .Add (.ref t) (.ref b)) Q E s:=by
 obtain⟨⟨cls,dd,data,sl⟩,ho,hc,n,hd⟩:=id ht
 obtain⟨⟨cls2,dd2,data2,sl2⟩,ho2,hc2,n2,hd2⟩:=id hb
 simp only at hc hd hc2 hd2
 subst hc hd hc2 hd2
 have e:vs.toArray++ws.toArray=(vs++ws).toArray:=by simp
 by_cases hw:ws=[]
 ·exact concat_meets ⟨_,ho,rfl⟩ ⟨_,ho2,rfl⟩ noFill_tuple_add seq_tuple_add PySem.F.slot_tuple_add PySem.F.entry_tuple_add (PySem.F.args_tuple_add_2 _ _)
   (tuple_addW1 t b vs.toArray ws.toArray n n2 dd dd2 sl sl2 (by simpa using hv) (by simp [hw])) ⟨ho,ho2,h1 hw⟩
 ·refine concat_meets ⟨_,ho,rfl⟩ ⟨_,ho2,rfl⟩ noFill_tuple_add seq_tuple_add PySem.F.slot_tuple_add PySem.F.entry_tuple_add (PySem.F.args_tuple_add_2 _ _)
   (tuple_addW2 t b vs.toArray ws.toArray n n2 dd dd2 sl sl2 (by simpa using hv) (by simpa using hw) (by rw [List.size_toArray,List.size_toArray];exact hsz)) ⟨ho,ho2,?_⟩
  rw [e]
  exact h2 hw
noncomputable def sIx(n d:Nat):Option Int->Nat
 | none=>d
 | some v=>if v<0 then(v+(n:Int)).toNat else min v.toNat n
theorem zte(n d:Nat)(hd:d<=n)(o:Option Int):sIx n d o<=n:=by
 cases o with
 | none=>exact hd
 | some v =>
  show(if v<0 then(v+(n:Int)).toNat else min v.toNat n)<=n
  by_cases hv:v<0
  ·rw [if_pos hv];omega
  ·rw [if_neg hv];exact Nat.min_le_right _ _
theorem zop(v:Int)(n d:Nat):(if v<0 then max (v+(n:Int)) 0 else min v (n:Int))=((sIx n d (some v):Nat):Int):=by
 show(if v<0 then max (v+(n:Int)) 0 else min v (n:Int))=(((if v<0 then(v+(n:Int)).toNat else min v.toNat n):Nat):Int)
 by_cases hv:v<0
 ·simp only [if_pos hv];omega
 ·simp only [if_neg hv];omega
theorem zmo(lo hi:Option Int)(n:Nat):Builtin.Slice.sliceAdjust lo hi 1 (n:Int)=(((sIx n 0 lo:Nat):Int),((sIx n n hi:Nat):Int)):=by
 have h1:¬ ((1:Int)<0):=by omega
 unfold Builtin.Slice.sliceAdjust
 simp only [h1,if_false]
 refine Prod.ext ?_ ?_
 ·cases lo with
  | none=>rfl
  | some v=>exact zop v n 0
 ·cases hi with
  | none=>rfl
  | some v=>exact zop v n n
theorem zl5(i j:Nat):Builtin.Slice.slicePlaces (i:Int) (j:Int) 1=j-i:=by
 unfold Builtin.Slice.slicePlaces
 have h1:(1:Int) > 0:=by omega
 simp only [h1,if_true,Int.ediv_one]
 split <;> omega
theorem zha{v:Value}{o:Option Int}{Q:Option Int->Shared->Prop}(p:IsPart v o)(h:Q o s):wpAny (model prog w) A (Builtin.Slice.slicePartIndex v) Q E s:=by
 cases p with
 | none=>exact slicePart_none h
 | int i t=>exact slicePart_int h
theorem zcP{sl:Addr}{vl vu:Value}{lo hi:Option Int}{n:Nat}{Q:Int×Int×Nat->Shared->Prop}(hs:s.heap.IsSliceOf sl vl vu .none)(pl:IsPart vl lo)(pu:IsPart vu hi)
  (h:Q (((sIx n 0 lo:Nat):Int),1,sIx n n hi-sIx n 0 lo) s):wpAny (model prog w) A (Builtin.Slice.sliceApplied (.ref sl) (pure (n:Int))) Q E s:=by
 obtain⟨os,hos,hcs,hds⟩:=id hs
 unfold Builtin.Slice.sliceApplied Builtin.Slice.sliceFields
 refine wpAny_bind (wpAny_bind (wpAny_field hos hds (x:=vl) rfl (wpAny_bind (wpAny_field hos hds (x:=vu) rfl (wpAny_bind (wpAny_field hos hds (x:=.none) rfl (wpAny_pure ?_)))))))
 refine wpAny_bind (slicePart_none ?_)
 show wpAny _ _ (if((1:Int)==0)=true then _ else _) _ _ s
 rw [if_neg (by decide)]
 refine wpAny_bind (zha pl (wpAny_bind (zha pu (wpAny_bind (wpAny_pure ?_)))))
 show wpAny _ _ (match Builtin.Slice.sliceAdjust lo hi 1 (n:Int) with|(lo,hi)=>pure (lo,(1:Int),Builtin.Slice.slicePlaces lo hi 1)) _ _ s
 rw [zmo lo hi n]
 show wpAny _ _ (pure (((sIx n 0 lo:Nat):Int),(1:Int),Builtin.Slice.slicePlaces ((sIx n 0 lo:Nat):Int) ((sIx n n hi:Nat):Int) 1)) _ _ s
 rw [zl5]
 exact wpAny_pure h
theorem zpB(xs:Array Value)(i k:Nat):((List.range k).filterMap fun(m:Nat)=>xs[((i:Int)+(m:Int)*1).toNat]?).toArray=((xs.toList.drop i).take k).toArray:=by
 have e:(fun(m:Nat)=>xs[((i:Int)+(m:Int)*1).toNat]?)=fun m=>xs[i+m]?:=by
  funext m
  have:((i:Int)+(m:Int)*1).toNat=i+m:=by omega
  rw [this]
 rw [e]
 have:=pick_run xs i k
 rw [List.filterMap_map] at this
 have e2:((fun x=>xs[x]?)∘fun x=>i+x)=fun m=>xs[i+m]?:=rfl
 rw [e2] at this
 rw [this]
theorem zeN{t sl:Addr}{items:Array Value}{vl vu:Value}{lo hi:Option Int}{Q:Value->Shared->Prop}(ht:IsTup s.heap t items)(hs:s.heap.IsSliceOf sl vl vu .none)(pl:IsPart vl lo)(pu:IsPart vu hi)
  (hw:¬ (sIx items.size 0 lo=0/\sIx items.size items.size hi=items.size))
  (h:Q (.ref s.heap.objs.size) { s with heap:=s.heap.push { cls:=.type "tuple",data:=.seq ((items.toList.drop (sIx items.size 0 lo)).take (sIx items.size items.size hi-sIx items.size 0 lo)).toArray } })
  (hsz:items.size<=sizeLine):wpAny (model prog w) A (getItem (.ref t) (.ref sl)) Q E s:=by
 have htake:sizeOk (.seq ((items.toList.drop (sIx items.size 0 lo)).take (sIx items.size items.size hi-sIx items.size 0 lo)).toArray):=by
  show((items.toList.drop (sIx items.size 0 lo)).take (sIx items.size items.size hi-sIx items.size 0 lo)).toArray.size<=sizeLine
  rw [List.size_toArray,List.length_take,List.length_drop,Array.length_toList]
  omega
 have hj:sIx items.size items.size hi<=items.size:=zte _ _ (Nat.le_refl _) hi
 obtain⟨os,hos,hcs,hds⟩:=id hs
 have hTs:s.TypeIs (.ref sl) "slice":=⟨os,hos,hcs⟩
 unfold getItem
 try with_reducible refine wpAny_holding ?_
 first|refine wpAny_bind (wpAny_pure ?_)|skip
 refine wpAny_bind (wpAny_sequenceKey ht.typeIs (by decide) ?_)
 refine wpAny_bind (wpAny_callSpecial?_slot (name:=Str.ofString "__getitem__") ht.typeIs PyProof.Rows.slot_tuple_getitem
  (wpAny_call_entry PyProof.Rows.slot_tuple_getitem ht.typeIs entry_tuple_getitem ?_ (args_tuple_getitem _ _)))
 show wpAny _ _ (Builtin.Tuple.tupleItemsOf (.ref t) >>= _) _ _ s
 refine wpAny_bind (tupleItemsOf_ ht ?_)
 refine wpAny_bind (wpAny_typeOf hTs ?_)
 rw [if_pos (by decide)]
 refine wpAny_bind (zcP hs pl pu ?_)
 have hno:¬ ((((sIx items.size 0 lo:Nat):Int)==0&&(1:Int)==1&&(sIx items.size items.size hi-sIx items.size 0 lo)==items.size)=true):=by
  intro q
  rw [Bool.and_eq_true,Bool.and_eq_true] at q
  have q1:((sIx items.size 0 lo:Nat):Int)=0:=eq_of_beq q.1.1
  have q2:sIx items.size items.size hi-sIx items.size 0 lo=items.size:=eq_of_beq q.2
  exact hw ⟨by omega,by omega⟩
 show wpAny _ _ (if(((sIx items.size 0 lo:Nat):Int)==0&&(1:Int)==1&&(sIx items.size items.size hi-sIx items.size 0 lo)==items.size)=true then _ else _) _ _ s
 rw [if_neg hno,zpB]
 first
  | exact wpAny_bind (m:=Builtin.Tuple.tupleExact _) (wpAny_newObj_type (wpAny_pure ⟨_,rfl,wpAny_pure h⟩) htake)
  | exact wpAny_bind (m:=Builtin.Tuple.tupleExact _) (wpAny_newObj_type (wpAny_bind (wpAny_pure (wpAny_pure ⟨_,rfl,wpAny_pure h⟩))) htake)
  | exact wpAny_bind (wpAny_bind (m:=Builtin.Tuple.tupleExact _) (wpAny_newObj_type (wpAny_pure (wpAny_pure ⟨_,rfl,wpAny_pure h⟩)) htake))
  | exact wpAny_bind (wpAny_bind (m:=Builtin.Tuple.tupleExact _) (wpAny_newObj_type (wpAny_pure ⟨_,rfl,wpAny_pure h⟩) htake))
end
end HT
namespace L2
open PySem PySem.Spec PyProof.Rows
section
abbrev TO:=St->Hp->(Option Int->Hp->Prop)->Prop
def PO(X:Cx)(e:Option Expr)(t:TO):Prop :=
 ∀(pins:List (Addr×Obj)) (s:Shared) (σ:St) (H:Hp) (Q:Option Int->Hp->Prop),Inv X pins σ H s->t σ H Q ->
  wpAny (model X.prog X.w) X.A (evalPart e X.env) (fun u s'=>∃ o H',Inv X pins σ H' s'/\IsPart u o/\Q o H') X.xe s
noncomputable def zrf:TO:=fun _ H Q=>Q none H
noncomputable def zvu(t:TE):TO:=fun σ H Q=>t σ H fun x H1=>∃ i,x=.int i/\Q (some i) H1
theorem intsAre_of{ns:List Int}:∀{us:List Value},Vals (ns.map V.int) us->IntsAre us ns:=by
 induction ns with
 | nil=>intro us r;rw [List.map_nil] at r;cases r;exact .nil
 | cons n ns ih =>
  intro us r
  rw [List.map_cons] at r
  cases r with
  | cons r1 r2 =>
   obtain⟨t,e⟩:=r1
   subst e
   exact .cons n t (ih r2)
section
variable {X:Cx}{e:Expr}{te:TE}{lo hi:Option Expr}{tl th:TO}{pos p2:Pos}
theorem zrU:PO X none zrf:=by
 intro pins s σ H Q I h
 rw [evalPart_none]
 exact wpAny_pure ⟨none,H,I,.none,h⟩
theorem zrT(h:PE X e te):PO X (some e) (zvu te):=by
 intro pins s σ H Q I hw
 rw [evalPart_some]
 refine thn (h pins s σ H _ I hw) fun u s1 ⟨x,H1,I1,r1,q1⟩=>?_
 obtain⟨i,rfl,q⟩:=q1
 obtain⟨t,rfl⟩:=r1
 exact⟨some i,H1,I1,.int i t,q⟩
def SlR(X:Cx)(r:V->Option Int->Option Int->Hp->VK->Prop):Prop :=
 ∀(pins:List (Addr×Obj)) (s:Shared) (σ:St) (H:Hp) (x:V) (v vl vu:Value) (lo hi:Option Int) (sl:Addr) (Q:VK),Inv X pins σ H s->RelV x v->s.heap.IsSliceOf sl vl vu .none->IsPart vl lo->IsPart vu hi->r x lo hi H Q ->
  ∃ T id,typeLookup (.type T) "__getitem__"=pure (some (.builtin id))/\s.TypeIs v T/\wpAny (model X.prog X.w) X.A (getItem v (.ref sl)) (EP X pins σ Q) X.xe s
noncomputable def tSl(r:V->Option Int->Option Int->Hp->VK->Prop)(te:TE)(tl th:TO):TE:=fun σ H Q=>te σ H fun x H1=>tl σ H1 fun l H2=>th σ H2 fun u H3=>r x l u H3 Q
theorem zpD{r:V->Option Int->Option Int->Hp->VK->Prop}(hr:SlR X r)(he:PE X e te)(hl:PO X lo tl)(hu:PO X hi th):PE X (.Subscript e (.Slice lo hi none p2) pos) (tSl r te tl th):=by
 intro pins s σ H Q I h
 refine Subscript_ (thn (he pins s σ H _ I h) fun v s1 ⟨x,H1,I1,r1,q1⟩=>?_)
 refine wpAny_Slice (thn (hl pins s1 σ H1 _ I1 q1) fun vl s2 ⟨l,H2,I2,pl,q2⟩=>thn (hu pins s2 σ H2 _ I2 q2) fun vu s3 ⟨u,H3,I3,pu,q3⟩=>?_)
 rw [evalPart_none]
 refine wpAny_pure ?_
 have I4:Inv X pins σ H3 { s3 with heap:=s3.heap.push { cls:=.type "slice",data:=.fields #[vl,vu,.none] } }:=I3.kept (t':=s3.toks) fun b ob q=>Heap.get?_push_of_some _ q
 obtain⟨T,id,hT,ht,hg⟩:=hr pins { s3 with heap:=s3.heap.push { cls:=.type "slice",data:=.fields #[vl,vu,.none] } } σ H3 x v vl vu l u s3.heap.objs.size Q I4 r1 (Heap.IsSliceOf.new ..) pl pu q3
 show wpAny (model X.prog X.w) X.A (subscriptTail e (.Slice lo hi none p2) v (.ref s3.heap.objs.size)) (EP X pins σ Q) X.xe { s3 with heap:=s3.heap.push { cls:=.type "slice",data:=.fields #[vl,vu,.none] } }
 exact tail_any (ops:=[.ref s3.heap.objs.size,v]) ht hT hg (by with_unfolding_all rfl)
noncomputable def zqc(xs:List V)(lo hi:Option Int):List V:=(xs.drop (HT.sIx xs.length 0 lo)).take (HT.sIx xs.length xs.length hi-HT.sIx xs.length 0 lo)
theorem zgt(xs:List V)(lo hi:Option Int):(zqc xs lo hi).length<=xs.length:=by
 unfold zqc
 rw [List.length_take,List.length_drop]
 omega
noncomputable def zxo(K:W.Frag):V->Option Int->Option Int->Hp->VK->Prop:=fun x lo hi H Q=>∃ a xs,x=.ref a/\SqT K H a xs /\
 ¬ (HT.sIx xs.length 0 lo=0/\HT.sIx xs.length xs.length hi=xs.length)/\∀ p,H p=none->Q (.ref p) (upd H p (.tup (zqc xs lo hi)))
theorem ztd:SlR X (zxo X.K):=by
 intro pins s σ H x v vl vu lo hi sl Q I rx hs pl pu h
 obtain⟨a,xs,rfl,hx,hw,q⟩:=h
 cases rx
 obtain⟨its,r,ht,hz⟩:=I.tuple hx
 have hlen:its.toArray.size=xs.length:=by rw [List.size_toArray];exact r.length.symm
 refine⟨"tuple",_,PyProof.Rows.slot_tuple_getitem.lookup,ht.typeIs,?_⟩
 refine HT.zeN ht hs pl pu (by rw [hlen];exact hw) ?_ (by rw [hlen];exact hz)
 rw [hlen]
 refine⟨.ref s.heap.objs.size,_,I.laid (t':=s.toks) (o:=.tup (zqc xs lo hi)) (fun b ob q=>Heap.get?_push_of_some _ q) (Nat.le_refl _) ?_,rfl,q _ (I.hok.fresh (Nat.le_refl _))⟩
 exact⟨Nat.le_trans (zgt xs lo hi) hz,_,(r.drop (HT.sIx xs.length 0 lo)).take (HT.sIx xs.length xs.length hi-HT.sIx xs.length 0 lo),IsTup.new _ _⟩
noncomputable def zvG(K:W.Frag):R2:=fun x y H Q=>∃ a b xs ys,x=.ref a/\y=.ref b/\SqT K H a xs/\SqT K H b ys/\xs≠[]/\xs.length+ys.length<=sizeLine /\
 (ys=[]->Q (.ref a) H)/\(ys≠[]->∀ p,H p=none->Q (.ref p) (upd H p (.tup (xs++ys))))
theorem Vals.zkm{xs:List V}{us:List Value}(r:Vals xs us):us=[]↔xs=[]:=by
 cases r with
 | nil=>simp
 | cons _ _=>simp
theorem zr9:OpR X (binaryOp .Add) (zvG X.K):=by
 intro pins s σ H x y v u Q I rx ry h
 obtain⟨a,b,xs,ys,rfl,rfl,ha,hb,hx,hz,q1,q2⟩:=h
 cases rx
 cases ry
 obtain⟨its,r1,p1,_⟩:=I.tuple ha
 obtain⟨its2,r2,p2,_⟩:=I.tuple hb
 refine HT.zsK p1 p2 (fun z=>hx (r1.zkm.mp z)) (fun z=>⟨.ref a,H,I,rfl,q1 (r2.zkm.mp z)⟩) (fun z=>?_) (by rw [<- r1.length,<- r2.length];exact hz)
 refine⟨.ref s.heap.objs.size,_,I.laid (t':=s.toks) (o:=.tup (xs++ys)) (fun b ob q=>Heap.get?_push_of_some _ q) (Nat.le_refl _) ?_,rfl,q2 (fun w=>z (r2.zkm.mpr w)) _ (I.hok.fresh (Nat.le_refl _))⟩
 exact⟨by rw [List.length_append];exact hz,_,r1.append r2,IsTup.new _ _⟩
end
end
section
noncomputable def ixN(n:Nat)(i:Int):Option Nat:=if 0<=i then(if i<n then some i.toNat else none) else if -(n:Int)<=i then some (i+n).toNat else none
noncomputable def atI{α:Type}(xs:List α)(i:Int):Option α:=(ixN xs.length i).bind fun j=>xs[j]?
theorem znU{n:Nat}{i:Int}{j:Nat}(h:ixN n i=some j):seqIndex? i n=some j/\j<n/\-(n:Int)<=i/\i<n:=by
 unfold ixN at h
 by_cases h0:0<=i
 ·rw [if_pos h0] at h
  by_cases h1:i<n
  ·rw [if_pos h1] at h
   have e:i.toNat=j:=Option.some.inj h
   exact⟨by rw [seqIndex_of h0 h1,e],by omega,by omega,h1⟩
  ·rw [if_neg h1] at h;cases h
 ·rw [if_neg h0] at h
  by_cases h1:-(n:Int)<=i
  ·rw [if_pos h1] at h
   have e:(i+n).toNat=j:=Option.some.inj h
   exact⟨by rw [seqIndex_neg (by omega) h1,e],by omega,h1,by omega⟩
  ·rw [if_neg h1] at h;cases h
theorem zoz{α:Type}{xs:List α}{i:Int}{v:α}(h:atI xs i=some v):∃ j,seqIndex? i xs.length=some j/\xs[j]?=some v/\j<xs.length/\-(xs.length:Int)<=i/\i<xs.length:=by
 unfold atI at h
 cases e:ixN xs.length i with
 | none=>rw [e] at h;cases h
 | some j =>
  rw [e] at h
  obtain⟨h1,h2,h3,h4⟩:=znU e
  exact⟨j,h1,h,h2,h3,h4⟩
def ziI(b:Expr):Prop:=∀ o i,subscripted b false o i=operate [o,i] (getItem o i)
def IxR(X:Cx)(r:R2):Prop :=
 ∀(value slice:Expr) (pins:List (Addr×Obj)) (s:Shared) (σ:St) (H:Hp) (x y:V) (v u:Value) (Q:VK),Inv X pins σ H s->RelV x v->RelV y u->r x y H Q ->
  subscripted slice false v u=operate [v,u] (getItem v u)->wpAny (model X.prog X.w) X.A (subscriptTail value slice v u) (EP X pins σ Q) X.xe s
def MtR(X:Cx)(id:String)(r:V->List V->Hp->VK->Prop):Prop :=
 ∀(pins:List (Addr×Obj)) (s:Shared) (σ:St) (H:Hp) (x:V) (xs:List V) (v:Value) (us:List Value) (Q:VK),Inv X pins σ H s->RelV x v->Vals xs us->r x xs H Q ->
  wpAny (model X.prog X.w) X.A (call (.builtin id) (v::us)) (EP X pins σ Q) X.xe s
section
variable {X:Cx}{a b:Expr}{ta tb:TE}{pos:Pos}
theorem ztU{r:R2}(hr:IxR X r)(ha:PE X a ta)(hb:PE X b tb)(hs:ziI b):PE X (.Subscript a b pos) (tOp r ta tb):=by
 intro pins s σ H Q I h
 exact Subscript_ (zwG ha hb I h fun v u s2 x y H2 I2 rx ry q=>hr a b pins s2 σ H2 x y v u Q I2 rx ry q (hs _ _))
noncomputable def zxs(K:W.Frag):R2:=fun x y H Q=>∃ p xs i v,x=.ref p/\y=.int i/\SqL K H p xs/\atI xs i=some v/\Q v H
noncomputable def zxr(K:W.Frag):R2:=fun x y H Q=>∃ p xs i v,x=.ref p/\y=.int i/\SqT K H p xs/\atI xs i=some v/\Q v H
theorem zsu:IxR X (zxs X.K):=by
 intro value slice pins s σ H x y v u Q I rx ry h hs
 obtain⟨p,xs,i,z,rfl,rfl,hq,he,q⟩:=h
 cases rx
 obtain⟨t,rfl⟩:=ry
 obtain⟨its,r,pl,hz⟩:=I.list hq
 obtain⟨j,h1,h2,h3,h4,h5⟩:=zoz he
 obtain⟨w,ew,rw'⟩:=r.get h2
 have hl:=r.length
 have hn:=zjd
 have fin:EP X pins σ Q w s:=⟨z,H,I,rw',q⟩
 by_cases h0:0<=i
 ·have hj:i.toNat=j:=by
   rw [seqIndex_of h0 h5] at h1
   exact Option.some.inj h1
  exact item_listR pl.isList h0 (by omega) (by rw [hj];simpa using ew) fin hs
 ·have hj:(i+(its.toArray.size:Int)).toNat=j:=by
   rw [seqIndex_neg (by omega) h4] at h1
   rw [List.size_toArray,<- hl]
   exact Option.some.inj h1
  exact subscriptTail_builtinR (x:=w) pl.isList.typeIs slot_list_getitem.lookup
   (wpAny_getItem_list_neg (Q:=fun r s'=>r=w/\EP X pins σ Q r s') pl.isList (by omega) (by rw [List.size_toArray] <;> omega) (by omega) (by rw [hj];simpa using ew) ⟨rfl,fin⟩) hs
theorem zuB:IxR X (zxr X.K):=by
 intro value slice pins s σ H x y v u Q I rx ry h hs
 obtain⟨p,xs,i,z,rfl,rfl,hq,he,q⟩:=h
 cases rx
 obtain⟨t,rfl⟩:=ry
 obtain⟨its,r,pl,hz⟩:=I.tuple hq
 obtain⟨j,h1,h2,h3,h4,h5⟩:=zoz he
 obtain⟨w,ew,rw'⟩:=r.get h2
 have hl:=r.length
 have hn:=zjd
 have fin:EP X pins σ Q w s:=⟨z,H,I,rw',q⟩
 exact subscriptTail_builtinR (x:=w) pl.typeIs slot_tuple_getitem.lookup
  (getItem_tuple (j:=j) (Q:=fun r s'=>r=w/\EP X pins σ Q r s') pl (by omega) (by omega) (by rw [List.size_toArray,<- hl];exact h1) (by simpa using ew) ⟨rfl,fin⟩) hs
theorem zl8(its:List Value)(n j:Nat)(u:Value):Obj.mapSeq (·.setIfInBounds j u) { cls:=.type "list",data:=.seq its.toArray n }={ cls:=.type "list",data:=.seq (its.set j u).toArray n }:=by
 simp [Obj.mapSeq]
theorem Inv.lst{pins:List (Addr×Obj)}{σ:St}{H:Hp}{s:Shared}{p:Addr}{xs:List V}(I:Inv X pins σ H s)(h:H p=some (.lst xs)) :
  ∃(its:List Value) (n:Nat),Vals xs its/\s.heap.get? p=some { cls:=.type "list",data:=.seq its.toArray n }/\xs.length<=sizeLine:=by
 obtain⟨z,its,n,r,e⟩:=I.hok p _ h
 exact⟨its,n,r,e,z⟩
theorem Inv.zuo{pins:List (Addr×Obj)}{σ:St}{H:Hp}{s:Shared}{p:Addr}{xs ys:List V}{its its':List Value}{n n':Nat}{f:Obj->Obj}(I:Inv X pins σ H s)(h:H p=some (.lst xs))
  (ho:s.heap.get? p=some { cls:=.type "list",data:=.seq its.toArray n }) (hf:f { cls:=.type "list",data:=.seq its.toArray n }={ cls:=.type "list",data:=.seq its'.toArray n' }) (r:Vals ys its') (hz:ys.length<=sizeLine) (t:Nat) :
  Inv X pins σ (upd H p (.lst ys)) { s with heap:=s.heap.update p f,toks:=t }:=by
 have e:(s.heap.update p f).get? p=some { cls:=.type "list",data:=.seq its'.toArray n' }:=by
  rw [Heap.get?_update_self f ho (by rw [hf] <;> rfl),hf]
 refine I.write (x:=p) (e:=p) (by rw [h];trivial) (.inl rfl) (fun b u hb q=>(Heap.get?_update_other _ _ (Ne.symm hb)).trans q) ⟨_,e⟩ ?_
 exact⟨hz,its',n',r,e⟩
noncomputable def zvF:V->V->V->Hp->(Hp->Prop)->Prop:=fun o i v H Q=>∃ p xs k j,o=.ref p/\i=.int k/\H p=some (.lst xs)/\ixN xs.length k=some j/\Q (upd H p (.lst (xs.set j v)))
theorem set_list:zxb X zvF:=by
 intro pins s σ H o i v ov iv u Q I ro ri rv h
 obtain⟨p,xs,k,j,rfl,rfl,hp,hj,q⟩:=h
 cases ro
 obtain⟨t,rfl⟩:=ri
 obtain⟨its,n,r,ho,hz⟩:=I.lst hp
 obtain⟨h1,h2,h3,h4⟩:=znU hj
 have hl:=r.length
 have hn:=zjd
 have I':Inv X pins σ (upd H p (.lst (xs.set j v))) { s with heap:=s.heap.update p (Obj.mapSeq (·.setIfInBounds j u)) } :=
  I.zuo hp ho (zl8 its n j u) (r.set rv j) (by rw [List.length_set];exact hz) s.toks
 by_cases h0:0<=k
 ·have hk:k.toNat=j:=by
   rw [seqIndex_of h0 h4] at h1
   exact Option.some.inj h1
  exact PySem.W.ki_setAt ho h0 (by omega) (by rw [List.size_toArray,<- hl];exact h4) (by rw [hk];exact⟨_,I',q⟩)
 ·have hk:(k+(its.toArray.size:Int)).toNat=j:=by
   rw [seqIndex_neg (by omega) h3] at h1
   rw [List.size_toArray,<- hl]
   exact Option.some.inj h1
  exact PySem.W.ki_setBack ho (by omega) (by rw [List.size_toArray,<- hl];exact h3) (by omega) (by rw [hk];exact⟨_,I',q⟩)
theorem ziV(lo hi:Option Int)(n:Nat):(sliceBounds lo hi none n).1=((HT.sIx n 0 lo:Nat):Int)/\(sliceBounds lo hi none n).2.1=((HT.sIx n n hi:Nat):Int)/\(sliceBounds lo hi none n).2.2=1:=by
 refine⟨?_,?_,rfl⟩
 ·cases lo with
  | none=>simp [sliceBounds,HT.sIx]
  | some i =>
   simp only [sliceBounds,HT.sIx,Option.getD_none,show(1:Int) > 0 by decide,if_true]
   by_cases h:i<0
   ·simp only [h,if_true] <;> omega
   ·simp only [h,if_false] <;> omega
 ·cases hi with
  | none=>simp [sliceBounds,HT.sIx]
  | some i =>
   simp only [sliceBounds,HT.sIx,Option.getD_none,show(1:Int) > 0 by decide,if_true]
   by_cases h:i<0
   ·simp only [h,if_true] <;> omega
   ·simp only [h,if_false] <;> omega
theorem zh0(its:List Value)(lo hi:Option Int):slicePick its.toArray lo hi none=((its.drop (HT.sIx its.length 0 lo)).take (HT.sIx its.length its.length hi-HT.sIx its.length 0 lo)).toArray:=by
 obtain⟨h1,h2,h3⟩:=ziV lo hi its.toArray.size
 unfold slicePick
 rw [h1,h2,h3]
 simp only [sliceRange_one,pick_run,List.size_toArray] <;> rfl
noncomputable def zxp(K:W.Frag):V->Option Int->Option Int->Hp->VK->Prop:=fun x lo hi H Q=>∃ a xs,x=.ref a/\SqL K H a xs/\∀ p,H p=none->Q (.ref p) (upd H p (.lst (zqc xs lo hi)))
theorem zrj:SlR X (zxp X.K):=by
 intro pins s σ H x v vl vu lo hi sl Q I rx hs pl pu h
 obtain⟨a,xs,rfl,hx,q⟩:=h
 cases rx
 obtain⟨its,r,ht,hz⟩:=I.list hx
 have hlen:=r.length
 refine⟨"list",_,slot_list_getitem.lookup,ht.isList.typeIs,?_⟩
 refine wpAny_getItem_list_slice ht.isList hs pl pu .none (by simp) ?_ (by rw [List.size_toArray] <;> omega)
 rw [zh0,<- hlen]
 refine⟨.ref s.heap.objs.size,_,I.laid (t':=s.toks) (o:=.lst (zqc xs lo hi)) (fun b ob q=>Heap.get?_push_of_some _ q) (Nat.le_refl _) ?_,rfl,q _ (I.hok.fresh (Nat.le_refl _))⟩
 exact⟨Nat.le_trans (zgt xs lo hi) hz,_,0,(r.drop (HT.sIx xs.length 0 lo)).take (HT.sIx xs.length xs.length hi-HT.sIx xs.length 0 lo),Heap.get?_push_size _ rfl⟩
theorem zff:zfD X (.builtin "len") (fun xs H Q=>∃ p ys,xs=[.ref p]/\(SqL X.K H p ys\/SqT X.K H p ys)/\Q (.int ys.length) H):=by
 intro pins s σ H xs us Q I r h
 obtain⟨p,ys,rfl,hq,q⟩:=h
 obtain⟨u,rfl,rx⟩:=vals1 r
 cases rx
 have hn:=zjd
 rcases hq with hq|hq
 ·obtain⟨its,r',pl,hz⟩:=I.list hq
  have hlen:=r'.length
  exact Calls.call_len_list pl.isList (by simp only [List.size_toArray] <;> omega) ⟨.int ys.length,H,I.tok _,⟨s.toks+1,by rw [List.size_toArray,hlen]⟩,q⟩
 ·obtain⟨its,r',pl,hz⟩:=I.tuple hq
  have hlen:=r'.length
  exact len_tuple pl (by simp only [List.size_toArray] <;> omega) ⟨.int ys.length,H,I.tok _,⟨s.toks+1,by rw [List.size_toArray,hlen]⟩,q⟩
theorem zfe:zfD X (.type "list") (fun xs H Q=>∃ p ys,xs=[.ref p]/\(SqL X.K H p ys\/SqT X.K H p ys)/\∀ l,H l=none->Q (.ref l) (upd H l (.lst ys))):=by
 intro pins s σ H xs us Q I r h
 obtain⟨p,ys,rfl,hq,q⟩:=h
 obtain⟨u,rfl,rx⟩:=vals1 r
 cases rx
 have fin:∀(its:List Value),Vals ys its->ys.length<=sizeLine->∀(h':Heap) (c':Nat),(∀ b o',s.heap.get? b=some o'->h'.get? b=some o') ->
   h'.get? s.heap.objs.size=some { cls:=.type "list",dict:=none,data:=.seq its.toArray c',slots:=#[] }->EP X pins σ Q (.ref s.heap.objs.size) { s with heap:=h' }:=fun its r' hz h' c' kp e =>
  ⟨.ref s.heap.objs.size,_,I.laid (t':=s.toks) kp (Nat.le_refl _) (show zbc X.prog X.w _ h' _ (.lst ys) from⟨hz,its,c',r',e⟩),rfl,q _ (I.hok.fresh (Nat.le_refl _))⟩
 rcases hq with hq|hq
 ·obtain⟨its,r',pl,hz⟩:=I.list hq
  have hlen:=r'.length
  obtain⟨o,ho,hc,n,hd⟩:=pl.isList
  exact call_list_seq p (.inl rfl) ho hc hd (fun h' c' kp e=>fin its r' hz h' c' kp e) (by simp only [List.size_toArray] <;> omega)
 ·obtain⟨its,r',pl,hz⟩:=I.tuple hq
  have hlen:=r'.length
  obtain⟨o,ho,hc,n,hd⟩:=pl
  exact call_list_seq p (.inr rfl) ho hc hd (fun h' c' kp e=>fin its r' hz h' c' kp e) (by simp only [List.size_toArray] <;> omega)
theorem zeq:zfD X (.type "tuple") (fun xs H Q=>∃ p ys,xs=[.ref p]/\((SqL X.K H p ys/\∀ l,H l=none->Q (.ref l) (upd H l (.tup ys)))\/(SqT X.K H p ys/\Q (.ref p) H))):=by
 intro pins s σ H xs us Q I r h
 obtain⟨p,ys,rfl,h⟩:=h
 obtain⟨u,rfl,rx⟩:=vals1 r
 cases rx
 rcases h with⟨hq,q⟩|⟨hq,q⟩
 ·obtain⟨its,r',pl,hz⟩:=I.list hq
  have hlen:=r'.length
  refine call_tuple_list pl.isList (fun h' kp=>?_) (by simp only [List.size_toArray] <;> omega)
  have I1:Inv X pins σ H { s with heap:=h' }:=I.kept (t':=s.toks) kp
  have I2:Inv X pins σ (upd H h'.objs.size (.tup ys)) { s with heap:=h'.push { cls:=.type "tuple",data:=.seq its.toArray } } :=
   I1.laid (t':=s.toks) (fun b o e=>Heap.get?_push_of_some _ e) (Nat.le_refl _) (show zbc X.prog X.w _ _ _ (.tup ys) from⟨hz,its,r',IsTup.new _ _⟩)
  exact⟨.ref h'.objs.size,_,I2,rfl,q _ (I1.hok.fresh (Nat.le_refl _))⟩
 ·obtain⟨its,r',pl,hz⟩:=I.tuple hq
  exact call_tuple_same pl ⟨.ref p,H,I,rfl,q⟩
def tyV(K:W.Frag)(T:String)(x:V)(H:Hp):Prop:=match x with
 | .str _=>T="str"
 | .int _=>T="int"
 | .ref p=>(T="list"/\∃ xs,SqL K H p xs)\/(T="tuple"/\∃ o,K.lookup p=some o/\o.cls=.type "tuple"/\o.dict=none) \/
   (T="dict"/\((∃ kvs,H p=some (.dK kvs))\/∃ kvs,H p=some (.dT kvs)))\/(T="set"/\∃ S n,H p=some (.set S n))
 | _=>False
theorem zs4{pins:List (Addr×Obj)}{σ:St}{H:Hp}{s:Shared}{T:String}{x:V}{v:Value}(I:Inv X pins σ H s)(r:RelV x v)(ty:tyV X.K T x H) :
  s.TypeIs v T/\∀ a,v=.ref a->∃ ob,s.heap.get? a=some ob/\ob.dict=none:=by
 cases x with
 | str z =>
  obtain⟨t,rfl⟩:=r
  cases (show T="str" from ty)
  exact⟨typeIs_str s z t,fun _ e=>nomatch e⟩
 | int i =>
  obtain⟨t,rfl⟩:=r
  cases (show T="int" from ty)
  exact⟨typeIs_int s i t,fun _ e=>nomatch e⟩
 | ref p =>
  cases r
  rcases ty with⟨rfl,xs,hq⟩|⟨rfl,o,hk,hc,hd⟩|⟨rfl,hk⟩|⟨rfl,S,n,hk⟩
  ·obtain⟨its,_,pl,_⟩:=I.list hq
   refine⟨pl.isList.typeIs,fun a e=>?_⟩
   cases e
   obtain⟨o,n,e,c,hd,_⟩:=pl
   exact⟨o,e,hd⟩
  ·refine⟨⟨o,I.kIn p o hk,hc⟩,fun a e=>?_⟩
   cases e
   exact⟨o,I.kIn _ o hk,hd⟩
  ·have z:∃ o,s.heap.get? p=some o/\o.ExactDict:=by
    rcases hk with⟨kvs,hk⟩|⟨kvs,hk⟩
    ·obtain⟨_,_,_,_,o,_,_,e,ex,_⟩:=I.hok p _ hk
     exact⟨o,e,ex⟩
    ·obtain⟨_,_,_,_,o,_,_,e,ex,_⟩:=I.hok p _ hk
     exact⟨o,e,ex⟩
   obtain⟨o,e,ex⟩:=z
   refine⟨⟨o,e,ex.1⟩,fun a e2=>?_⟩
   cases e2
   exact⟨o,e,ex.2.1⟩
  ·obtain⟨o,_,_,_,e,ex,_⟩:=I.hok p _ hk
   refine⟨⟨o,e,ex.1⟩,fun a e2=>?_⟩
   cases e2
   exact⟨o,e,ex.2.1⟩
 | _=>exact False.elim ty
noncomputable def tBM(K:W.Frag)(T:String)(r:V->List V->Hp->VK->Prop)(to:TE)(t:TA):TE:=fun σ H Q=>to σ H fun x H1=>tyV K T x H1/\t σ H1 fun xs H2=>r x xs H2 Q
variable {o e:Expr}{es:List Expr}{to:TE}{t:TA}{name:Str}{apos cpos:Pos}{T id:String}{r:V->List V->Hp->VK->Prop}
theorem zv6(pa:PlainAttrs T)(slot:Slot T name id)(hty:typeOf (.builtin id)=pure (.type "method_descriptor")) (hm:MtR X id r) (ho:PE X o to) (ha:PA X (e::es) t)
  (hbase:attributeBase o name X.env (eval o X.env)=eval o X.env:=by rfl)
  (hfew:((backTo cpos (starEach (e::es) X.env)).all (fun x=>!x.1)&&(backToKw cpos (keywordEach [] X.env)).all (fun x=>x.1.isSome)
   && decide ((e::es).length+([]:List Keyword).length+(if([]:List Keyword).isEmpty then 0 else 1)<30))=true:=by rfl)
  (hline:(apos.endLine==cpos.line)=true:=by rfl) (hs:starEach (e::es) X.env=(false,eval e X.env)::starEach es X.env:=by rfl) (hplain:(backTo cpos (starEach es X.env)).any (·.1)=false:=by rfl) :
  PE X (.Call (.Attribute o name apos) (e::es) [] cpos) (tBM X.K T r to t):=by
 intro pins s σ H Q I h
 refine wpAny_Call_method_late hbase hfew hline rfl (thn (ho pins s σ H _ I h) fun v s1 ⟨x,H1,I1,r1,ty,q1⟩=>?_)
 obtain⟨h1,h2⟩:=zs4 I1 r1 ty
 refine⟨T,id,pa,slot,hty,h1,h2,?_⟩
 have hA:=ha cpos pins s1 σ H1 _ I1 q1
 rw [hs] at hA ⊢
 refine Calls.callWith_builtin (by show(false||(backTo cpos (starEach es X.env)).any (·.1))=false;rw [hplain] <;> rfl) (Calls.evalArgs_plain ?_)
 exact thn hA fun us s2 ⟨vs,H2,I2,r2,q2⟩=>hm pins s2 σ H2 x vs v us Q I2 r1 r2 q2
end
end
section
def MtM(X:Cx)(id:String)(r:V->List V->Hp->VK->Prop):Prop :=
 ∀(pins:List (Addr×Obj)) (s:Shared) (σ:St) (H:Hp) (x:V) (xs:List V) (v:Value) (us:List Value) (Q:VK),Inv X pins σ H s->RelV x v->Vals xs us->r x xs H Q ->
  wpAny (model X.prog X.w) X.A (call (.builtin id) (v::us)) (EP X pins σ Q) X.xe s
theorem Vals.one:∀{x:V} {us:List Value},Vals [x] us->∃ u,us=[u]/\RelV x u
 | _,_,.cons r .nil=>⟨_,rfl,r⟩
theorem Vals.dropLast{xs:List V}{us:List Value}(h:Vals xs us):Vals xs.dropLast us.dropLast:=by
 induction h with
 | nil=>exact .nil
 | cons r t ih =>
  cases t with
  | nil=>exact .nil
  | cons q t'=>exact .cons r ih
theorem Vals.rep{xs:List V}{us:List Value}(h:Vals xs us):∀ k:Nat,Vals (List.replicate k xs).flatten (List.replicate k us).flatten
 | 0=>.nil
 | k+1=>by
  rw [List.replicate_succ,List.replicate_succ,List.flatten_cons,List.flatten_cons]
  exact Vals.append h (Vals.rep h k)
theorem zsV{α:Type}(l:List α):l.eraseIdx (l.length-1)=l.dropLast:=by
 induction l with
 | nil=>rfl
 | cons a r ih =>
  cases r with
  | nil=>rfl
  | cons b r =>
   have e:(a::b::r).length-1=((b::r).length-1)+1:=by
    have h1:(a::b::r).length=r.length+2:=rfl
    have h2:(b::r).length=r.length+1:=rfl
    omega
   rw [e,List.eraseIdx_cons_succ,ih]
   all_goals rfl
theorem foldl_rep(its:List Value):∀(k:Nat) (acc:List Value),
  List.foldl (fun x1 x2=>x1++x2) acc.toArray (List.replicate k its.toArray)=(acc++(List.replicate k its).flatten).toArray
 | 0,acc=>by simp
 | k+1,acc=>by
  have e:acc.toArray++its.toArray=(acc++its).toArray:=by simp
  have e2:(acc++its)++(List.replicate k its).flatten=acc++(List.replicate (k+1) its).flatten:=by
   rw [List.replicate_succ,List.flatten_cons,List.append_assoc]
  rw [<- e2,<- foldl_rep its k (acc++its),<- e,List.replicate_succ,List.foldl_cons]
section
variable {X:Cx}{pins:List (Addr×Obj)}{σ:St}{H:Hp}{s:Shared}{l b:Addr}{xs ys zs:List V}
theorem Inv.zxJ{its its':List Value}{n:Nat}{f:Array Value->Array Value}{t':Nat}(I:Inv X pins σ H s)(hH:H l=some (.lst xs))
  (e:s.heap.get? l=some { cls:=.type "list",data:=.seq its.toArray n }) (hf:f its.toArray=its'.toArray) (hv:Vals ys its') (hz:ys.length<=sizeLine) :
  Inv X pins σ (upd H l (.lst ys)) { s with heap:=s.heap.update l (Obj.mapSeq f),toks:=t' }:=by
 have q:=PySem.IsL.update e f
 rw [hf] at q
 refine I.write (x:=l) (e:=l) (by rw [hH];exact trivial) (.inl rfl) (fun b' u hb hu=>(Heap.get?_update_other s.heap (Obj.mapSeq f) (Ne.symm hb)).trans hu) ⟨_,q⟩ ?_
 exact⟨hz,its',_,hv,q⟩
theorem Inv.zxK{its:List Value}{t':Nat}(I:Inv X pins σ H s)(hv:Vals ys its)(hz:ys.length<=sizeLine) :
  Inv X pins σ (upd H s.heap.objs.size (.lst ys)) { s with heap:=s.heap.push { cls:=.type "list",data:=.seq its.toArray },toks:=t' } :=
 I.laid (fun _ _ q=>Heap.get?_push_of_some _ q) (Nat.le_refl _) ⟨hz,its,0,hv,Heap.get?_push_size _ rfl⟩
theorem Inv.fresh(I:Inv X pins σ H s):H s.heap.objs.size=none:=I.hok.fresh (Nat.le_refl _)
theorem Inv.zxI(I:Inv X pins σ H s)(hH:H l=some (.lst xs)):xs.length<=sizeLine/\∃(its:List Value) (n:Nat),Vals xs its/\xs.length=its.length/\s.heap.get? l=some { cls:=.type "list",data:=.seq its.toArray n }:=by
 obtain⟨z,its,n,r,e⟩:=I.hok l _ hH
 exact⟨z,its,n,r,r.length,e⟩
end
section
variable {X:Cx}
noncomputable def zrq:V->List V->Hp->VK->Prop:=fun x vs H Q=>∃ l xs y,x=.ref l/\vs=[y]/\H l=some (.lst xs)/\xs.length<sizeLine/\Q .non (upd H l (.lst (xs++[y])))
theorem zja:MtM X "list.append" zrq:=by
 intro pins s σ H x vs v us Q I rx rv h
 obtain⟨l,xs,y,rfl,rfl,hH,hz,q⟩:=h
 cases rx
 obtain⟨u,rfl,ru⟩:=rv.one
 obtain⟨z,its,n,r,hl,e⟩:=I.zxI hH
 refine call_meets F.slot_list_append ⟨_,e,rfl⟩ F.entry_list_append (F.args_list_append_2 _ _) (PySem.list_append l its.toArray n u (by rw [List.size_toArray];omega)) ⟨e,?_⟩
 refine⟨.non,_,I.zxJ (its':=its++[u]) hH e (by simp) (r.append (.cons ru .nil)) ?_,rfl,q⟩
 rw [List.length_append,List.length_singleton]
 omega
theorem len_rep{α:Type}(xs:List α)(k:Nat):(List.replicate k xs).flatten.length=k*xs.length:=by
 induction k with
 | zero=>simp
 | succ k ih=>rw [List.replicate_succ,List.flatten_cons,List.length_append,ih,Nat.succ_mul,Nat.add_comm]
end
end
end L2
namespace Att
open PySem PySem.W PySem.Calls PyProof.Rows
theorem zgg{P:Params}{h:Heap}:∀(ns:List Int) (vs:List Value),WellAll P h vs (ns.map WData.int)->IntsAre vs ns:=by
 intro ns
 induction ns with
 | nil =>
  intro vs w
  rw [List.map_nil] at w
  cases w
  exact .nil
 | cons n ns ih =>
  intro vs w
  rw [List.map_cons] at w
  cases w with
  | cons a b =>
   cases a
   exact .cons _ _ (ih _ b)
theorem zmO{l:OpenLaw}{n:Nat}(hn:l.most=some n){P:Params}{h:Heap}{args:List WData}{vals:List Value}
  (hpre:l.row.toRowW.claim.pre args=true)(hwl:WellAll P h vals args) :
  ∃ a vs ns,vals=[Value.ref a]/\args=[WData.list (ns.map WData.int)]/\h.get? a=some { cls:=.type "list",data:=.seq vs.toArray }/\IntsAre vs ns/\ns.length<=n:=by
 have hsh:WShape.hasAll [] args [.list .int]=true:=(pre_splitW hpre).1
 have hc:l.pre.holds [] { args:=args }=true:=(pre_splitW hpre).2
 obtain⟨d,r,rfl,h1,h2⟩:=hasAllW_cons hsh
 obtain rfl:=hasAllW_nil h2
 obtain⟨xs,rfl,h3⟩:=hasW_list h1
 obtain⟨ns,rfl⟩:=items_int h3
 have hlen:ns.length<=n:=by
  unfold OpenLaw.pre at hc
  have h4:(WTm.not (.lt (.lit (.int n)) (.len (.arg 0)))).holds [] { args:=[.list (ns.map .int)] }=true:=by
   have h4:=(holds_andW hc).1
   rw [hn] at h4
   exact h4
  have h5:=condW_of h4 (w_not (w_lt w_lit (w_len_list (w_arg rfl))))
  rw [List.length_map] at h5
  refine Nat.le_of_not_lt fun q=>?_
  have q':(n:Int)<((ns.length:Nat):Int):=by omega
  first
   | (rw [decide_eq_true q'] at h5;exact absurd h5 (by decide))
   | (simp at h5;omega)
 cases hwl with
 | cons w1 w2 =>
  cases w2
  cases w1 with
  | list ho hall=>exact⟨_,_,ns,rfl,rfl,ho,zgg ns _ hall,hlen⟩
theorem znb(l:OpenLaw)(args:List WData):l.row.toRowW.claim.post args (.bool true) args=true :=
 postW_of (r:=l.row.toRowW) (X:=(true==true))
  (show WShape.has [] (.bool true) .bool=true by first|rfl|decide|simp [WShape.has,WShape.arms,WShape.armsAll])
  (show(WTm.eq .res (.lit (.bool true))).value [] { args:=args,res:=some (.bool true),after:=args }=some (.bool (true==true)) from w_eq_bool (w_res rfl) w_lit) rfl
theorem zkP{l:OpenLaw}{n:Nat}{q:Program}{loose:List Str}{XP:(Str->Option Value)->Heap->Prop}{YP:World->Heap->Prop}{d:DefRec}
  (hn:l.most=some n)(hdf:d.params.defaults=[])
  (call:∀(w:World) (s₀ s₁:Shared) (mg mb:Str->Option Value) (fa:Addr) (o:Obj) (pm cd doc:Value) (a:Addr) (vs:List Value) (ns:List Int),
   Ground q loose [] XP w s₀ mg mb s₁.heap->YP w s₁.heap ->
   s₁.heap.get? fa=some o->o.data=.func (docDef d.name d.params d.body d.scope pm cd doc)->s₁.heap.CodeRec cd d.name->mg d.name=some (.ref fa) ->
   s₁.heap.get? a=some { cls:=.type "list",data:=.seq vs.toArray }->IntsAre vs ns->ns.length<=n->s₁.gens=#[] ->
   codeAny (model l.prog w) callerA (.call (.ref fa) ⟨[.ref a],[]⟩) (fun r s'=>r=.ok (.ret (.bool true))/\OldK s₁.heap s'.heap/\s'.os=s₁.os/\AllBare s'.gens) s₁) :
  WalkO q loose XP YP l.row.toRowW d [] (fun f vs=>PySem.call f vs):=by
 intro w s₀ s₁ mg mb G Y fa o pm cd doc dV kV ho hd hcd hD hmg hg args vals as hpre hlay hrd hwl hlo
 obtain rfl:dV=.none:=Dflts.none hD hdf
 obtain rfl:kV=.none:=Dflts.noKw hD
 obtain⟨a,vs,ns,rfl,rfl,hobj,hints,hlen⟩:=zmO hn hpre hwl
 refine enter_call (codeAny_mono (call w s₀ s₁ mg mb fa o pm cd doc a vs ns G Y ho (fd_plain hd) hcd hmg hobj hints hlen hg) fun r s' hq=>?_)
 obtain⟨rfl,h2,h3,h4⟩:=hq
 exact⟨.inl ⟨.bool true,.bool true,[],rfl,fun _=>rfl,.bool true,znb l _,fun _=>⟨List.Pairwise.nil,fun _ hm=>(nomatch hm)⟩⟩,h2,h3,h4⟩
end Att
namespace L2
open PySem PySem.Spec PyProof.Rows
section
theorem ziT:∀{vs:List Value} {ns:List Int},IntsAre vs ns->Vals (ns.map V.int) vs
 | _,_,.nil=>.nil
 | _,_,.cons n t h=>.cons ⟨t,rfl⟩ (ziT h)
end
section
abbrev KOf{K:W.Frag}{h:Heap}(_:K.In h):W.Frag:=K
end
section
noncomputable def zcI(s:Stmt):Arguments:=match s with
 | .FunctionDef _ a _ _ _ _ _ _ _ _=>a
 | _=>{ posonlyargs:=[],args:=[],vararg:=none,kwonlyargs:=[],kw_defaults:=[],kwarg:=none,defaults:=[] }
noncomputable def zbq(s:Stmt):List Stmt:=match s with
 | .FunctionDef _ _ b _ _ _ _ _ _ _=>b
 | _=>[]
noncomputable def zat(s:Stmt):Scope:=match s with
 | .FunctionDef _ _ _ _ _ _ sc _ _ _=>sc
 | _=>{ kind:=.function,names:=[],isGenerator:=false,isCoroutine:=false }
abbrev E0:XK:=fun _ _ _=>False
structure Fun(K:W.Frag)(x qual:Str)(st:Stmt)(f:Addr)(fd:FuncData):Prop where
 ex:∃(oc:Value) (od:Option Addr) (kV doc pm:Value) (an:Option Addr) (cdv ct:Value) (osl:Array (Option Value)),
  fd=PySem.W.fnOf x qual (zcI st) (zbq st) (zat st) .none kV doc pm an cdv ct/\K.lookup f=some ⟨oc,od,.func fd,osl⟩/\PySem.W.codeIn K cdv qual=true
 kp:PySem.W.keepIn K (.ref f)=true
section
variable {P:Program}{w:World}{K:W.Frag}{mg:Str->Option Value}{base:Heap}
theorem Fun.binds{x qual:Str}{st:Stmt}{f:Addr}{fd:FuncData}{ps:List Str}(F:Fun K x qual st f fd)
  (h:∀(kV doc pm:Value) (an:Option Addr) (cdv ct:Value) (us:List Value),us.length=ps.length->bindArgs (PySem.W.fnOf x qual (zcI st) (zbq st) (zat st) .none kV doc pm an cdv ct) ⟨us,[]⟩=pure (ps.zip us)):Binds K fd ps []:=by
 obtain⟨oc,od,kV,doc,pm,an,cdv,ct,osl,rfl,lk,hcd⟩:=F.ex
 exact .all (h kV doc pm an cdv ct)
theorem zuJ{x qual:Str}{st:Stmt}{f:Addr}{oc:Value}{od an:Option Addr}{osl:Array (Option Value)}{kV doc pm cdv ct:Value}(l:K.lookup f=some ⟨oc,od,.func (PySem.W.fnOf x qual (zcI st) (zbq st) (zat st) .none kV doc pm an cdv ct),osl⟩)
  (c:PySem.W.codeIn K cdv qual=true)(k:PySem.W.keepIn K (.ref f)=true):Fun K x qual st f (PySem.W.fnOf x qual (zcI st) (zbq st) (zat st) .none kV doc pm an cdv ct):=⟨⟨oc,od,kV,doc,pm,an,cdv,ct,osl,rfl,l,c⟩,k⟩
end
theorem zmN{n:Nat}(h:n<=1000):n<sizeLine:=Nat.lt_of_le_of_lt h (by decide)
section
variable {X:Cx}
theorem pv(i:Nat){x:Str}{pos:Pos}(hN:X.N[i]?=some x:=by rfl)(hv:Vis X.env.scope x:=by first|exact Or.inl rfl|exact Or.inr (Or.inl rfl)|exact Or.inr (Or.inr rfl))(hd:(x==("__debug__":Str))=false:=by decide)
  (hcd:(x==("__classdict__":Str))=false:=by decide):PE X (.Name x pos) (zgS i):=zqv hN hv hd hcd
end
theorem zpY{A B:Prop}(h:B):if false=true then A else B:=by
 rw [if_neg Bool.false_ne_true]
 exact h
theorem zpX{A B:Prop}(h:A):if true=true then A else B:=by
 rw [if_pos rfl]
 exact h
def zaP(H H':Hp):Prop:=∀ b o,H b=some o->H' b=some o
theorem zaP.refl(H:Hp):zaP H H:=fun _ _ h=>h
end
section
theorem bits_le{k:Int}{a:Nat}(h:k.natAbs<2^a):Builtin.Int.intBits k<=a:=by
 unfold Builtin.Int.intBits
 split
 ·exact Nat.zero_le _
 ·rename_i h0
  have hp:k.natAbs≠0:=by
   intro z
   apply h0
   have:k=0:=by omega
   subst this
   rfl
  have:=(Nat.log2_lt hp).mpr h
  omega
theorem mulOk_of{i j:Int}{a b:Nat}(hi:i.natAbs<2^a)(hj:j.natAbs<2^b)(h:a+b<=134217728):IntMulOk i j:=by
 have h1:=bits_le hi
 have h2:=bits_le hj
 have h3:Builtin.Int.intTooBig ((Builtin.Int.intBits i:Int)+(Builtin.Int.intBits j:Int))=false:=by
  unfold Builtin.Int.intTooBig
  rw [bitsLine_eq]
  simp
  omega
 unfold IntMulOk
 rw [h3]
 simp
section
variable {X:Cx}
theorem zr7:OpR X (binaryOp .Mult) (rI IntMulOk fun i j=>.int (i*j)):=opI fun _ _ _ _ _ _ _ hc q=>mul_int q hc
end
mutual
/-- the value v is the thing d in the abstract heap -/
def Is(K:W.Frag)(H:Hp):PyData->V->Prop
 | .none,v=>v=.non
 | .bool b,v=>v=.bl b
 | .int i,v=>v=.int i
 | .str x,v=>v=.str x
 | .list xs,v=>∃ a vs,v=.ref a/\SqL K H a vs/\zeY K H xs vs
 | .tuple xs,v=>∃ a vs,v=.ref a/\SqT K H a vs/\zeY K H xs vs
 | .dict _,_=>False
def zeY(K:W.Frag)(H:Hp):List PyData->List V->Prop
 | [],vs=>vs=[]
 | d::ds,vs=>∃ v r,vs=v::r/\Is K H d v/\zeY K H ds r
end
section
variable {X:Cx}{pins:List (Addr×Obj)}{σ:St}{H:Hp}{s:Shared}
mutual
theorem Is.reads(I:Inv X pins σ H s):∀(d:PyData) (v:V) (u:Value),Is X.K H d v->RelV v u->∃ as,Reads s.heap u d as
 | .none,v,u,h,r=>by
  simp only [Is] at h;subst h
  cases (show u=Value.none from r)
  exact⟨_,.none⟩
 | .bool b,v,u,h,r=>by
  simp only [Is] at h;subst h
  cases (show u=Value.bool b from r)
  exact⟨_,.bool b⟩
 | .int i,v,u,h,r=>by
  simp only [Is] at h;subst h
  obtain⟨t,rfl⟩:=(show ∃ t,u=Value.int i t from r)
  exact⟨_,.int i t⟩
 | .str x,v,u,h,r=>by
  simp only [Is] at h;subst h
  obtain⟨t,rfl⟩:=(show ∃ t,u=Value.str x t from r)
  exact⟨_,.str x t⟩
 | .list xs,v,u,h,r=>by
  simp only [Is] at h
  obtain⟨a,vs,rfl,h1,h2⟩:=h
  cases (show u=Value.ref a from r)
  obtain⟨its,rv,⟨o,n,ho,hc,_,hd⟩,_⟩:=I.list h1
  obtain⟨as,ra⟩:=zeY.reads I xs vs its h2 rv
  exact⟨_,.list ho hc hd (by simpa using ra)⟩
 | .tuple xs,v,u,h,r=>by
  simp only [Is] at h
  obtain⟨a,vs,rfl,h1,h2⟩:=h
  cases (show u=Value.ref a from r)
  obtain⟨its,rv,⟨o,ho,hc,n,hd⟩,_⟩:=I.tuple h1
  obtain⟨as,ra⟩:=zeY.reads I xs vs its h2 rv
  exact⟨_,.tuple ho hc hd (by simpa using ra)⟩
 | .dict _,v,u,h,r=>by simp only [Is] at h
theorem zeY.reads(I:Inv X pins σ H s):∀(ds:List PyData) (vs:List V) (us:List Value),zeY X.K H ds vs->Vals vs us->∃ as,ReadsAll s.heap us ds as
 | [],vs,us,h,r=>by
  simp only [zeY] at h;subst h
  cases r
  exact⟨_,.nil⟩
 | d::ds,vs,us,h,r=>by
  simp only [zeY] at h
  obtain⟨v,rr,rfl,h1,h2⟩:=h
  cases r with
  | cons r1 r2 =>
   obtain⟨as,q1⟩:=Is.reads I d v _ h1 r1
   obtain⟨bs,q2⟩:=zeY.reads I ds rr _ h2 r2
   exact⟨_,.cons q1 q2⟩
end
end
section
variable {X:Cx}
noncomputable def zxu(K:W.Frag):R2:=fun x y H Q=>∃ d e,Is K H d x/\Is K H e y/\SeqAt.shaped d=true/\SeqAt.shaped e=true/\Q (.bl (PyData.eqv d e)) H
noncomputable def zxq(K:W.Frag):R2:=fun x y H Q=>∃ d e,Is K H d x/\Is K H e y/\SeqAt.shaped d=true/\SeqAt.shaped e=true/\Q (.bl (!PyData.eqv d e)) H
theorem zt3(hu:X.A.units+64<cLine):OpR X (compareOp .Eq) (zxu X.K):=by
 intro pins s σ H x y v u Q I rx ry h
 obtain⟨d,e,h1,h2,c1,c2,q⟩:=h
 obtain⟨as,ra⟩:=Is.reads I d x v h1 rx
 obtain⟨bs,rb⟩:=Is.reads I e y u h2 ry
 exact SeqAt.compareEq_shaped ra rb c1 c2 hu ⟨.bl _,H,I,rfl,q⟩
theorem zt0(hu:X.A.units+64<cLine):OpR X (compareOp .NotEq) (zxq X.K):=by
 intro pins s σ H x y v u Q I rx ry h
 obtain⟨d,e,h1,h2,c1,c2,q⟩:=h
 obtain⟨as,ra⟩:=Is.reads I d x v h1 rx
 obtain⟨bs,rb⟩:=Is.reads I e y u h2 ry
 exact SeqAt.compareNe_shaped ra rb c1 c2 hu ⟨.bl _,H,I,rfl,q⟩
end
end
section
inductive Ty(K:W.Frag)(H:Hp):V->Value->Prop where
 | non:Ty K H .non (.type "NoneType")
 | bl (x:Bool):Ty K H (.bl x) (.type "bool")
 | int (i:Int):Ty K H (.int i) (.type "int")
 | str (x:Str):Ty K H (.str x) (.type "str")
 | lst {a:Addr} {xs:List V} (e:SqL K H a xs):Ty K H (.ref a) (.type "list")
 | tup {a:Addr} {xs:List V} (e:SqT K H a xs):Ty K H (.ref a) (.type "tuple")
noncomputable def zvo:V->Value
 | .ty n=>.type n
 | .ref a=>.ref a
 | _=>.none
theorem zsI{y:V}{u:Value}(r:RelV y u)(h:zvo y≠.none):u=zvo y:=by
 cases y with
 | ty n=>exact r
 | ref a=>exact r
 | _=>exact absurd rfl h
section
variable {X:Cx}
theorem zuD{pins:List (Addr×Obj)}{σ:St}{H:Hp}{s:Shared}{A:Around}{E:Value->Shared->Prop}{Q:Value->Shared->Prop}{c:Value}{b:Bool}{x:V}{u t:Value}(I:Inv X pins σ H s)(rx:RelV x u)(ty:Ty X.K H x t)(e:PySem.W.kitOne X.K t c=some b)(h:∀ tk,Q (.bool b) { s with toks:=tk }) :
  wpAny (model X.prog X.w) A (call (.builtin "isinstance") [u,c]) Q E s:=by
 cases ty with
 | non=>cases (show u=Value.none from rx);exact PySem.W.kia_one PySem.W.kitx_none I.kIn True.intro e (fun z=>nomatch z) h
 | bl y=>cases (show u=Value.bool y from rx);exact PySem.W.kia_one PySem.W.kitx_bool I.kIn True.intro e (fun z=>nomatch z) h
 | int i=>obtain⟨t,q⟩:=(show ∃ t,u=Value.int i t from rx);cases q;exact PySem.W.kia_one PySem.W.kitx_int I.kIn True.intro e (fun z=>nomatch z) h
 | str y=>obtain⟨t,q⟩:=(show ∃ t,u=Value.str y t from rx);cases q;exact PySem.W.kia_one PySem.W.kitx_str I.kIn True.intro e (fun z=>nomatch z) h
 | @lst a xs ea =>
  cases (show u=Value.ref a from rx)
  obtain⟨its,_,⟨o,n,ho,hc,_⟩,_⟩:=I.list ea
  exact PySem.W.kia_one PySem.W.kitx_list I.kIn ⟨o,ho,hc⟩ e (fun z=>nomatch z) h
 | @tup a xs ea =>
  cases (show u=Value.ref a from rx)
  obtain⟨its,_,⟨o,ho,hc,_⟩,_⟩:=I.tuple ea
  exact PySem.W.kia_one PySem.W.kitx_tuple I.kIn ⟨o,ho,hc⟩ e (fun z=>nomatch z) h
noncomputable def zxt(K:W.Frag):List V->Hp->VK->Prop:=fun xs H Q=>∃ x y t b,xs=[x,y]/\zvo y≠.none/\Ty K H x t/\PySem.W.kitOne K t (zvo y)=some b/\Q (.bl b) H
theorem zlN:zfD X (.builtin "isinstance") (zxt X.K):=by
 intro pins s σ H xs us Q I r h
 obtain⟨x,y,t,b,rfl,hy,ty,e,q⟩:=h
 obtain⟨u,v,rfl,ru,rv⟩:=vals2 r
 cases zsI rv hy
 exact zuD I ru ty e fun tk=>⟨.bl b,H,I.tok tk,rfl,q⟩
theorem ztO{x:Str}{n:String}{pos:Pos}(hg:Gl X x)(hm:X.mg x=none)(hv:bootBuiltins x=some (.type n))(hn:x ≠ "__name__":=by decide) (hd:(x==("__debug__":Str))=false:=by decide):PE X (.Name x pos) (tC (.ty n)):=zr4 hg hm hv rfl hn hd
end
end
section
noncomputable def zg4(cells:List (Str×Addr)):List (Str×NameKind)->List (Str×Addr)->List (Str×Addr)
 | [],acc=>acc
 | (n,k)::r,acc=>if k=.free then(match cells.lookup n with|some a=>zg4 cells r ((n,a)::acc)|none=>zg4 cells r acc) else zg4 cells r acc
theorem zfO{cells:List (Str×Addr)}:∀{names:List (Str×NameKind)} {acc:List (Str×Addr)},(∀ p∈acc,cells.lookup p.1=some p.2)->∀ p∈zg4 cells names acc,cells.lookup p.1=some p.2
 | [],acc,h,p,hp=>h p hp
 | (n,k)::r,acc,h,p,hp=>by
  unfold zg4 at hp
  split at hp
  ·split at hp
   ·rename_i a e
    exact zfO (names:=r) (acc:=(n,a)::acc) (fun q hq=>by
     rcases List.mem_cons.mp hq with rfl|hq
     ·exact e
     ·exact h q hq) p hp
   ·exact zfO h p hp
  ·exact zfO h p hp
theorem zfP{cells:List (Str×Addr)}:∀{names:List (Str×NameKind)} {acc:List (Str×Addr)},∀ p∈acc,p∈zg4 cells names acc
 | [],acc,p,hp=>hp
 | (n,k)::r,acc,p,hp=>by
  unfold zg4
  split
  ·split
   ·exact zfP p (List.mem_cons_of_mem _ hp)
   ·exact zfP p hp
  ·exact zfP p hp
theorem zeo{cells:List (Str×Addr)}{x:Str}{a:Addr}(e:cells.lookup x=some a):∀{names:List (Str×NameKind)} {acc:List (Str×Addr)},(x,NameKind.free)∈names->(x,a)∈zg4 cells names acc
 | (n,k)::r,acc,h=>by
  unfold zg4
  rcases List.mem_cons.mp h with h|h
  ·cases h
   rw [if_pos rfl,e]
   exact zfP _ (List.mem_cons_self ..)
  ·split
   ·split
    ·exact zeo e h
    ·exact zeo e h
   ·exact zeo e h
theorem zbp{α:Type}{x:Str}{a:α}:∀{l:List (Str×α)},(x,a)∈l->∃ b,l.lookup x=some b
 | (y,b)::r,h=>by
  by_cases e:(x==y)=true
  ·exact⟨b,by simp [List.lookup_cons,e]⟩
  ·rcases List.mem_cons.mp h with h|h
   ·cases h
    exact absurd (beq_self_eq_true _) e
   ·obtain⟨c,hc⟩:=zbp h
    refine⟨c,?_⟩
    have e':(x==y)=false:=by simpa using e
    simp only [List.lookup_cons,e']
    exact hc
theorem zen{scope:Scope}{env:Env}(h:∀ y∈scope.names,y.2=.free->∃ a,env.cells.lookup y.1=some a):closureFor scope env=pure (zg4 env.cells scope.names []):=by
 have key:∀(names:List (Str×NameKind)) (acc:List (Str×Addr)),(∀ y∈names,y.2=.free->∃ a,env.cells.lookup y.1=some a) ->
   (forIn names acc (fun x r=>match x with
    | (name,kind)=>if(kind==NameKind.free)=true then do let a <- cellOf env name;pure (ForInStep.yield ((name,a)::r)) else pure (ForInStep.yield r)):Sem (List (Str×Addr)))=pure (zg4 env.cells names acc):=by
  intro names
  induction names with
  | nil=>intro acc _;rfl
  | cons p r ih =>
   intro acc hh
   obtain⟨n,k⟩:=p
   rw [List.forIn_cons]
   by_cases hk:k=.free
   ·subst hk
    obtain⟨a,ea⟩:=hh (n,.free) (List.mem_cons_self ..) rfl
    have e1:cellOf env n=pure a:=by unfold cellOf;rw [ea]
    simp only [beq_self_eq_true,if_true,e1,pure_bind,zg4,ea]
    exact ih _ fun y hy=>hh y (List.mem_cons_of_mem _ hy)
   ·have hk':(k==NameKind.free)=false:=by simpa using hk
    simp only [hk',Bool.false_eq_true,if_false,pure_bind,zg4,hk]
    exact ih _ fun y hy=>hh y (List.mem_cons_of_mem _ hy)
 unfold closureFor
 exact(bind_pure _).trans (key scope.names [] h)
theorem za1{scope:Scope}{env:Env}{x:Str}{k:NameKind}:∀{names:List (Str×NameKind)},
  (names.map fun(n,k)=>if(k==NameKind.free&&env.scope.kind==.function&&env.kindOf n==some .cell) then(n,NameKind.cell) else(n,k)).lookup x=some k ->
  ∃ k0,names.lookup x=some k0/\(x,k0)∈names/\(k0=k\/(k0=.free/\k=.cell))
 | [],h=>by simp at h
 | (n,k0)::r,h=>by
  by_cases e:(x==n)=true
  ·have en:x=n:=by simpa using e
   subst en
   refine⟨k0,by simp [List.lookup_cons],List.mem_cons_self ..,?_⟩
   rw [List.map_cons] at h
   by_cases hc:(k0==NameKind.free&&env.scope.kind==.function&&env.kindOf x==some .cell)=true
   ·simp only [hc,if_true,List.lookup_cons,beq_self_eq_true] at h
    simp only [Bool.and_eq_true,beq_iff_eq] at hc
    exact .inr ⟨hc.1.1,(Option.some.inj h).symm⟩
   ·simp only [hc,Bool.false_eq_true,if_false,List.lookup_cons,beq_self_eq_true] at h
    exact .inl (Option.some.inj h)
  ·have e':(x==n)=false:=by simpa using e
   rw [List.map_cons] at h
   have h':(r.map fun(n,k)=>if(k==NameKind.free&&env.scope.kind==.function&&env.kindOf n==some .cell) then(n,NameKind.cell) else(n,k)).lookup x=some k:=by
    by_cases hc:(k0==NameKind.free&&env.scope.kind==.function&&env.kindOf n==some .cell)=true
    ·simp only [hc,if_true,List.lookup_cons,e'] at h
     exact h
    ·simp only [hc,Bool.false_eq_true,if_false,List.lookup_cons,e'] at h
     exact h
   obtain⟨k1,h1,h2,h3⟩:=za1 (scope:=scope) h'
   exact⟨k1,by simp only [List.lookup_cons,e'];exact h1,List.mem_cons_of_mem _ h2,h3⟩
noncomputable def zfz(X:Cx)(ix:List Nat):List Str:=ix.map fun i=>X.N.getD i ""
noncomputable def zep(k:Nat)(ix:List Nat)(σ:St):St:=List.replicate k none++ix.map fun i=>(σ[i]?).getD none
end
section
section
variable {prog:Program}{w:World}{A:Around}{R:Result->Shared->Prop}{s:Shared}
theorem zkL{elt target iter:Expr}{ifs:List Expr}{scope:Scope}{pos:Pos}{it acc:Value}{env:Env}(I:Nat->Shared->Prop)
  (turn:∀ n s,I n s->wpAny (model prog w) A (pyNext it) (fun r s₁=>match r with
   | none=>R (.ok .next) s₁
   | some v=>wpAny (model prog w) A (letOwnedTupleGo target it v) (fun _ s₀=>wpAny (model prog w) A (assign target env v) (fun _ s₂ =>
     wpAny (model prog w) A (forIn ifs true fun c r=>if r=true then do let ok <- isTrue c env (eval c env);pure (ForInStep.yield ok) else pure (ForInStep.yield r)) (fun ok s₃ =>
      if ok=true then wpAny (model prog w) A (eval elt env) (fun x s₄ =>
       wpAny (model prog w) A (call (.builtin "list.append") [acc,x]) (fun _ s₅=>∃ m,m<n/\I m s₅) (notedBy (model prog w) A env fun e s'=>R (.error e) s') s₄) (notedBy (model prog w) A env fun e s'=>R (.error e) s') s₃
      else ∃ m,m<n/\I m s₃) (notedBy (model prog w) A env fun e s'=>R (.error e) s') s₂) (notedBy (model prog w) A env fun e s'=>R (.error e) s') s₀) (notedBy (model prog w) A env fun e s'=>R (.error e) s') s₁) (notedBy (model prog w) A env fun e s'=>R (.error e) s') s)
  (n:Nat) (h:I n s) :
  codeAny (model prog w) A (.compLoop (.ListComp elt [⟨target,iter,ifs,0⟩] scope pos) 0 it acc env) R s:=by
 refine codeAny_loop rfl I (fun n s hI=>?_) n h
 show wpAny _ A ((compTurn (.ListComp elt [⟨target,iter,ifs,0⟩] scope pos) 0 it acc env).onRaise (fun x=>do noteFrame x env;theTreesLotGoes x)) _ _ s
 refine wpAny_noted ?_
 rw [compTurn_list]
 refine wpAny_bind (wpAny_standAt (wpAny_bind (wpAny_mono (turn n s hI) (fun r s₁ h₁=>?_) fun _ _ h'=>h')))
 cases r with
 | none=>exact wpAny_pure h₁
 | some v =>
  refine wpAny_bind (wpAny_mono h₁ (fun _ s₀ h₀=>?_) fun _ _ h'=>h')
  refine wpAny_bind (wpAny_mono h₀ (fun _ s₂ h₂=>wpAny_bind (wpAny_mono h₂ (fun ok s₃ h₃=>?_) fun _ _ h'=>h')) fun _ _ h'=>h')
  cases ok with
  | false=>exact wpAny_pure ⟨rfl,h₃⟩
  | true =>
   exact wpAny_bind (wpAny_bind (wpAny_mono h₃ (fun x s₄ h₄=>wpAny_bind (wpAny_mono h₄ (fun _ s₅ h₅=>wpAny_pure (wpAny_pure ⟨rfl,h₅⟩)) fun _ _ h'=>h')) fun _ _ h'=>h'))
end
def PTs(X:Cx)(ifs:List Expr)(t:TT):Prop :=
 ∀(pins:List (Addr×Obj)) (s:Shared) (σ:St) (H:Hp) (Q:Bool->Hp->Prop),Inv X pins σ H s->t σ H Q ->
  wpAny (model X.prog X.w) X.A (forIn ifs true fun c r=>if r=true then do let ok <- isTrue c X.env (eval c X.env);pure (ForInStep.yield ok) else pure (ForInStep.yield r)) (TP X pins σ Q) X.xe s
noncomputable def zxn:TT:=fun _ H Q=>Q true H
theorem zrM{X:Cx}:PTs X [] zxn:=fun _ _ _ H _ I h=>wpAny_tests_nil ⟨H,I,h⟩
def zoO(k:Nat)(g:TG):Prop:=∀ x σ H Q,g x σ H Q->g x σ H fun σ2 H2=>(σ2.length=σ.length/\∀ i:Nat,k<=i->σ2[i]?=σ[i]?)/\Q σ2 H2
noncomputable def zrg(k:Nat)(ix:List Nat)(wi:TI)(g:TG)(tc:TT)(te:TE):TE:=fun σ H Q=>wi σ H fun J H1=>∀ l,H1 l=none ->
 ∃ W:Nat->Nat->List V->Hp->Prop,(∃ m,W 0 m [] (upd H1 l (.lst [])))/\∀ i m ys H2,W i m ys H2->H2 l=some (.lst ys) /\
  ((J.stop i H2/\Q (.ref l) H2)\/(J.go i H2/\∀ x H3,J.yld i H2 x H3->g x (zep k ix σ) H3 fun σ2 H4=>tc σ2 H4 fun b H5 =>
   if b=true then te σ2 H5 fun v H6=>H6 l=some (.lst ys)/\ys.length<sizeLine/\∃ m',m'<m/\W (i+1) m' (ys++[v]) (upd H6 l (.lst (ys++[v]))) else ∃ m',m'<m/\W (i+1) m' ys H5))
end
section
def Fl(h:Heap)(e:Addr)(cls:Value)(dd:Option Addr)(T:Addr)(fl:Value):Prop :=
 ∃ oe vs oT ts,h.get? e=some oe/\oe.cls=cls/\oe.dict=dd/\oe.data=.fields vs/\vs[1]?=some (.ref T)/\T≠e/\h.get? T=some oT/\oT.data=.fields ts/\ts[3]?=some fl
end
section
theorem zbc.some{P:Program}{w:World}{H:Hp}{h:Heap}{a:Addr}{o:HO}(x:zbc P w H h a o):∃ ob,h.get? a=some ob:=by
 cases o with
 | lst xs=>obtain⟨_,_,_,_,e⟩:=x;exact⟨_,e⟩
 | tup xs=>obtain⟨_,_,_,ob,e,_⟩:=x;exact⟨_,e⟩
 | dK kvs=>obtain⟨_,_,_,_,ob,_,_,e,_⟩:=x;exact⟨_,e⟩
 | dT kvs=>obtain⟨_,_,_,_,ob,_,_,e,_⟩:=x;exact⟨_,e⟩
 | set S n=>obtain⟨ob,_,_,_,e,_⟩:=x;exact⟨_,e⟩
 | ins C dx fs=>obtain⟨_,_,_,e,_⟩:=x;exact⟨_,e⟩
 | own y=>exact x
 | xd fs=>obtain⟨_,⟨od,_,_,e,_⟩,_⟩:=x;exact⟨_,e⟩
 | met f y=>exact⟨_,x⟩
 | rng lo hi=>obtain⟨_,_,_,e⟩:=x;exact⟨_,e⟩
 | frz ob u=>exact⟨_,x.1⟩
 | tbl ps=>exact⟨_,x⟩
 | ext φ=>exact x.2.1
noncomputable def CXe(P:Program)(w:World):CXT:=fun outer H s E ev s'=>∃(e:Addr) (cls:Value) (dd:Option Addr) (T:Addr) (H':Hp),ev=.ref e/\s'.os=s.os/\AllBare s'.gens/\Un (frs outer) [] H H' s.heap s'.heap/\HOk P w H' s'.heap /\
 Fl s'.heap e cls dd T .none/\H' e=none/\H' T=none/\s.heap.get? e=none/\s.heap.get? T=none/\E cls dd H'
theorem zia{P:Program}{w:World}{X:Cx}:Passes (CXe P w) X E0:=fun _ _ _ _ _ _ _ ⟨_,_,_,_,_,_,_,_,_,_,_,_,_,_,_,q⟩=>q.elim
section
variable {P:Program}{w:World}{K:W.Frag}{mg:Str->Option Value}{base:Heap}{N:List Str}{qual:Str}{scope:Scope}{f:Addr}{cd:Value}{A:Around}{outer:List Env}{s:Shared}{H:Hp}{E:XK}
theorem Fun.okE{x:Str}{st:Stmt}{fd:FuncData}{ps:List Str}{k:Nat}{sp:Sp}(F:Fun K x qual st f fd)(S:zdj N ps (zat st))(len:∀ vs H Q E,sp vs H Q E->vs.length=ps.length)
  (hbody:∀(cdv:Value) (A:Around) (outer:List Env) (s:Shared) (H:Hp) (vs:List V) (Q:VK) (E:XK),zbT k (A.deeper (envOfC qual (zat st) s.heap.objs.size f cdv))->sp vs H Q E ->
   ∃ t,PSs (zoZ (CXe P w) P w K mg base N qual (zat st) f cdv A outer s H E) (zbq st) t/\t { nx:=fun _ H'=>Q .non H',rt:=Q } (start N vs) H):zhV P w K mg base (CXe P w) (k+1) f fd ps sp:=by
 obtain⟨oc,od,kV,doc,pm,an,cdv,ct,osl,rfl,lk,hcd⟩:=F.ex
 exact zwu lk hcd S len fun A outer s H vs Q E hr hsp=>hbody cdv A outer s H vs Q E hr hsp
end
end
section
def Nw(X:Cx)(pins:List (Addr×Obj))(b:Addr):Prop :=
 X.s₀.heap.get? b=none/\b≠X.env.locals/\b∉X.fs/\(∀ x c,X.env.cells.lookup x=some c->c≠b)/\∀ p∈X.pn++pins,p.1≠b
def XP(X:Cx)(pins:List (Addr×Obj))(σ:St)(E:XK)(ev:Value)(s':Shared):Prop :=
 ∃(e:Addr) (cls:Value) (dd:Option Addr) (T:Addr) (H':Hp),ev=.ref e/\Inv X pins σ H' s'/\Fl s'.heap e cls dd T .none/\H' e=none/\H' T=none/\Nw X pins e/\Nw X pins T/\E cls dd H'
abbrev TSX:=Ends->(St->XK)->St->Hp->Prop
end
section
end
section
end
section
def Has(K:W.Frag)(mg:Str->Option Value)(x:Str)(st:Stmt):Prop:=∃(f:Addr) (fd:FuncData),mg x=some (.ref f)/\Fun K x x st f fd
def Callee(P:Program)(w:World)(K:W.Frag)(mg:Str->Option Value)(base:Heap)(x:Str)(k:Nat)(ps:List Str)(sp:Sp):Prop :=
 ∃(f:Addr) (fd:FuncData),mg x=some (.ref f)/\PySem.W.keepIn K (.ref f)=true/\Binds K fd ps []/\zhV P w K mg base (CXe P w) k f fd ps sp
section
variable {X:Cx}{k j:Nat}{ps:List Str}{sp:Sp}{E:XK}{x:Str}{p pos:Pos}{e:Expr}{es:List Expr}{t:TA}
theorem zd7(c:Callee X.prog X.w X.K X.mg X.base x k ps sp)(hr:zbT j X.A)(hg:Gl X x)(hx:Passes (CXe X.prog X.w) X E)(ha:PA X (e::es) t)(hj:k<=j:=by decide)(hdb:(x==("__debug__":Str))=false:=by decide)
  (he:starEach (e::es) X.env=(false,eval e X.env)::starEach es X.env:=by rfl) (hpl:(backTo pos (starEach es X.env)).any (·.1)=false:=by rfl):PE X (.Call (.Name x p) (e::es) [] pos) (zrh sp [] E t):=by
 obtain⟨f,fd,hm,hk,hb,F⟩:=c
 exact zr3 F (hr.mono hj) hg hm hk hb .nil hx ha hdb he hpl
end
end
section
section
variable {prog:Program}{w:World}{A:Around}{E:Value->Shared->Prop}
theorem zww{it l:Addr}{items:Array Value}(hne:l≠it):∀(n i:Nat) (s:Shared) (Q:List Value->Shared->Prop),s.heap.IsListIter it l i->s.heap.IsList l items->i+n<=items.size ->
  (∀ h',h'.IsListIter it l (i+n)->Heap.SameBut it s.heap h'->Q ((items.toList.drop i).take n) { s with heap:=h' })->wpAny (model prog w) A (draw (.ref it) n) Q E s:=by
 intro n
 induction n with
 | zero =>
  intro i s Q h1 _ _ q
  refine wpAny_pure ?_
  have:=q s.heap h1 (Heap.SameBut.refl ..)
  simpa using this
 | succ n ih =>
  intro i s Q h1 h2 hle q
  have hi:i<items.size:=by omega
  show wpAny _ _ (pyNext (.ref it) >>= _) Q E s
  refine wpAny_bind (wpAny_pyNext_list_item h1 h2 (x:=items[i]) (by simp [hi]) fun h' g1 g2=>?_)
  have g3:h'.IsList l items:=by
   obtain⟨o,e,r⟩:=h2
   exact⟨o,g2.extBut l o hne e,r⟩
  refine wpAny_bind (wpAny_holding (ih (i+1) _ _ g1 g3 (by omega) fun h'' k1 k2=>wpAny_pure ?_))
  have z:=q h'' (by rw [show i+(n+1)=i+1+n by omega];exact k1) (g2.trans k2)
  rw [List.drop_eq_getElem_cons (by simpa using hi),List.take_succ_cons] at z
  simpa using z
theorem zra{s:Shared}{l:Addr}{items:Array Value}{Q:List Value->Shared->Prop}(hh:A.handled=none)(hl:s.heap.IsList l items)
  (q:∀ h',Heap.ExtBut s.heap.objs.size s.heap h'->Q items.toList { s with heap:=h' }):wpAny (model prog w) A (unpackItems (.ref l) items.size none) Q E s:=by
 have ne:l≠s.heap.objs.size:=by
  obtain⟨o,e,_⟩:=hl
  exact Nat.ne_of_lt (Heap.lt_size e)
 unfold unpackItems notIterableAtAll
 refine wpAny_bind (wpAny_bind (wpAny_specialOf hl.typeIs slot_list_iter.lookup (wpAny_pure ?_)))
 rw [if_neg (by simp)]
 refine wpAny_bind (wpAny_holding (wpAny_pyIter_list hl ?_))
 have hl':(s.heap.push { cls:=.type "list_iterator",data:=.fields #[.ref l,.int 0 0] }).IsList l items:=by
  obtain⟨o,e,r⟩:=hl
  exact⟨o,Heap.get?_push_of_some _ e,r⟩
 refine wpAny_bind (wpAny_holding (zww ne items.size 0 _ _ ⟨_,Heap.get?_push_size _ rfl,rfl,rfl⟩ hl' (by omega) fun h1 g1 g2=>?_))
 rw [List.drop_zero,List.take_of_length_le (by simp),if_neg (by simp)]
 have hl1:h1.IsList l items:=by
  obtain⟨o,e,r⟩:=hl'
  exact⟨o,g2.extBut l o ne e,r⟩
 refine wpAny_bind (wpAny_holding (wpAny_pyNext_list_end hh g1 hl1 (by simp) fun h2 k=>?_))
 rw [if_neg (by simp)]
 refine wpAny_pure (q h2 fun b o hb e=>?_)
 exact k b o hb (g2.extBut b o hb (Heap.get?_push_of_some _ e))
end
section
variable {X:Cx}{pos:Pos}
noncomputable def zxR(K:W.Frag)(n:Nat)(t:TGs):TG:=fun v σ H Q=>∃ a xs,v=.ref a/\SqL K H a xs/\xs.length=n/\t xs σ H Q
theorem ztN{es:List Expr}{k:Nat}{t:TGs}{n:Nat}(hc:X.calm=true)(h:PGs X es t)
  (hn:(assignEach es X.env).length=n:=by rfl)(hst:(assignEach es X.env).findIdx? (·.1)=none:=by rfl):PG X (.Tuple es k pos) (zxR X.K n t):=by
 intro pins s σ H v u Q I r hw
 obtain⟨a,xs,rfl,hq,hl,hw⟩:=hw
 cases r
 obtain⟨its,rv,ht,hz⟩:=I.list hq
 rw [assign_Tuple]
 refine wpAny_bind (wpAny_standAt ?_)
 unfold unpack
 have en:(assignEach es X.env).length=its.toArray.size:=by simp [hn,<- hl,rv.length]
 rw [en,hst]
 refine wpAny_bind (wpAny_holding (zra (I.ok.hd hc) ht.isList fun h' hx=>?_))
 have I1:Inv X pins σ H { s with heap:=h' }:=I.kept (t':=s.toks) fun b o e=>hx b o (Nat.ne_of_lt (Heap.lt_size e)) e
 exact h pins _ σ H xs _ Q I1 (by simpa using rv) hw
end
end
section
end
section
theorem zaP.upd{H:Hp}{l:Addr}{o:HO}(h:H l=none):zaP H (upd H l o):=fun b u e=>by rw [zas (zby e h)];exact e
end
section
end
section
end
section
section
variable {X:Cx}{pins:List (Addr×Obj)}{σ:List (Option V)}{H H':Hp}{s:Shared}{h':Heap}
theorem Inv.zj9{t':Nat}{fp:List Addr}(I:Inv X pins σ H s)(k:∀ b o,b∉fp->s.heap.get? b=some o->h'.get? b=some o)(hf:∀ b∈fp,zg7 X pins H b):Inv X pins σ H { s with heap:=h',toks:=t' }:=by
 have nit:∀ b u,H b=some u->b∉fp:=fun b u e z=>by
  have:=(hf b z).1
  rw [e] at this
  cases this
 have hL:X.env.locals∉fp:=fun z=>(hf _ z).2.1 rfl
 refine I.step (g':=s.gens) (d':=s.drawn) (ch:=fp) (fun b hb=>?_) (fun b o _ _ hc e _=>k b o hc e) (fun b o _ _ hc e _=>⟨o.slots,k b o hc e⟩) (fun _ _ _ _ n=>n)
  (fun b o hc e=>⟨o,k b o hc e⟩) (fun _ _ e=>e) (fun _ _ _ e=>e) (fun b ps e=>⟨#[],by rw [e];simp⟩) (fun m hm=>?_) (fun b u e=>?_) I.bare
 ·obtain⟨_,h1,_,h3,h4,h5⟩:=hf b hb
  exact⟨h3,h1,h4,h5⟩
 ·obtain⟨o,es,ep,ho,r⟩:=hm
  exact⟨o,es,ep,k _ o hL ho,r⟩
 ·refine(I.hok b u e).stay (fun c v hc q=>k c v ?_ q) (fun _ q=>q) fun _ _ q=>q
  rcases hc with z|z
  ·rw [z];exact nit b u e
  ·exact nit c _ z
theorem Inv.zrb{t':Nat}{fp:List Addr}{xs:List V}{us:List Value}{n:Nat}(I:Inv X pins σ H s)(k:∀ b o,b∉fp->s.heap.get? b=some o->h'.get? b=some o)(hf:∀ b∈fp,zg7 X pins H b)(hfp:∀ b∈fp,b<s.heap.objs.size)
  (ht:h'.get? s.heap.objs.size=some { cls:=.type "tuple",data:=.seq us.toArray n }) (r:Vals xs us) (hz:xs.length<=sizeLine) :
  Inv X pins σ (upd H s.heap.objs.size (.tup xs)) { s with heap:=h',toks:=t' }:=by
 have I1:Inv X pins σ (upd H s.heap.objs.size (.tup xs)) { s with heap:=s.heap.push { cls:=.type "tuple",data:=.seq us.toArray n },toks:=s.toks } :=
  I.laid (t':=s.toks) (fun b u e=>Heap.get?_push_of_some _ e) (Nat.le_refl _) ⟨hz,us,r,⟨_,Heap.get?_push_size _ rfl,rfl,_,rfl⟩⟩
 refine Inv.zj9 (s:={ s with heap:=s.heap.push { cls:=.type "tuple",data:=.seq us.toArray n },toks:=s.toks }) (t':=t') (fp:=fp) I1 (fun b o hb e=>?_) fun b hb=>⟨by rw [zas (Nat.ne_of_lt (hfp b hb))];exact(hf b hb).1,(hf b hb).2⟩
 by_cases hbs:b=s.heap.objs.size
 ·subst hbs
  have e':(s.heap.push { cls:=.type "tuple",data:=.seq us.toArray n }).get? s.heap.objs.size=some o:=e
  rw [Heap.get?_push_size _ rfl] at e'
  cases e'
  exact ht
 ·refine k b o hb ?_
  have e':(s.heap.push { cls:=.type "tuple",data:=.seq us.toArray n }).get? b=some o:=e
  have lt:b<(s.heap.push { cls:=.type "tuple",data:=.seq us.toArray n }).objs.size:=Heap.lt_size e'
  rw [Heap.size_push] at lt
  have lt':b<s.heap.objs.size:=Nat.lt_of_le_of_ne (Nat.le_of_lt_succ lt) hbs
  unfold Heap.get? at e' ⊢
  unfold Heap.push at e'
  simp only at e'
  rw [Array.getElem?_push_lt lt'] at e'
  rw [Array.getElem?_eq_getElem lt']
  exact e'
end
noncomputable def Ite(K:W.Frag)(a:Addr):It :=
 ⟨fun i H=>∃ xs x,SqL K H a xs/\xs[i]?=some x,fun i H x H'=>∃ t v,x=.ref t/\H t=none/\H'=upd H t (.tup [.int i,v])/\∀ xs,SqL K H a xs->xs[i]?=some v,fun i H=>∃ xs,SqL K H a xs/\xs.length<=i⟩
theorem zmE{P:Program}{w:World}{K:W.Frag}{es:List Expr}{k:Nat}{pos:Pos}(e it a:Addr)(hne:e≠it):Turn P w K (.Tuple es k pos) (Ite K a) [e,it] e (fun i h=>(∃ old,IsEnum h e it i old)/\h.IsListIter it a i) where
 mem:=by simp
 obj:=fun i h st c hc=>by
  obtain⟨⟨old,h1⟩,⟨o4,h4,_,d4⟩⟩:=st
  simp only [List.mem_cons,List.not_mem_nil,or_false] at hc
  rcases hc with rfl|rfl
  ·exact⟨_,h1,fun v z=>by cases z⟩
  ·exact⟨_,h4,fun v z=>by rw [d4] at z;cases z⟩
 keep:=fun i h h' st k=>by
  obtain⟨⟨old,h1⟩,h4⟩:=st
  exact⟨⟨old,k _ (by simp) _ h1⟩,h4.at fun o e=>k _ (by simp) o e⟩
 item:=by
  intro X hP hw hK hc i pins s σ H E I hf st hg
  subst hP hw hK
  obtain⟨xs,x,hqx,hx⟩:=hg
  obtain⟨itx,rvx,px,_⟩:=I.list hqx
  obtain⟨ux,hux,rux⟩:=rvx.get hx
  obtain⟨⟨old,h1⟩,h4⟩:=id st
  have lts:∀ c∈[e,it],c<s.heap.objs.size:=fun c hc=>by
   obtain⟨o4,e4,_⟩:=id h4
   simp only [List.mem_cons,List.not_mem_nil,or_false] at hc
   rcases hc with rfl|rfl
   ·exact Heap.lt_size h1
   ·exact Heap.lt_size e4
  refine wpAny_pyNext_enum_item h1 h4 px.isList (by simpa using hux) hne fun h' a1 a3 a5 a6 hk=>?_
  refine⟨_,rfl,wpAny_letOwnedTupleGo_enum a1 fun h'' b1 sb=>?_⟩
  have zlt:=lts e (by simp)
  have k2:∀ c o,c∉[e,it]->s.heap.get? c=some o->h''.get? c=some o:=fun c o hc g=>by
   simp only [List.mem_cons,List.not_mem_nil,or_false,not_or] at hc
   exact sb.extBut c o hc.1 (hk c o hc.1 hc.2 g)
  have ht:h''.get? s.heap.objs.size=some { cls:=.type "tuple",data:=.seq #[.int i s.toks,ux] }:=sb.extBut _ _ (Nat.ne_of_gt zlt) a5
  refine⟨.ref s.heap.objs.size,_,Inv.zrb (s:=s) (h':=h'') (t':=s.toks+1) (fp:=[e,it]) I (xs:=[.int i,x]) (us:=[.int i s.toks,ux]) k2 hf lts ht (.cons ⟨_,rfl⟩ (.cons rux .nil)) (by rw [sizeLine_eq];show 2<=16777216;decide),rfl,
   ⟨_,x,rfl,I.hok.fresh (Nat.le_refl _),rfl,fun zs hz=>by rw [I.zlq hz hqx];exact hx⟩,?_,fun c hc=>?_⟩
  ·exact⟨⟨_,b1⟩,a3.extBut sb.extBut (Ne.symm hne)⟩
  ·rw [zas (Nat.ne_of_lt (lts c hc))]
   exact(hf c hc).1
 done:=by
  intro X hP hw hK hc i pins s σ H E I hf st hg
  subst hP hw hK
  obtain⟨xs,hqx,hend⟩:=hg
  obtain⟨itx,rvx,px,_⟩:=I.list hqx
  obtain⟨⟨old,h1⟩,h4⟩:=id st
  have lx:=rvx.length
  refine wpAny_pyNext_enum_end (I.ok.hd hc) h1 h4 px.isList (by simp;omega) fun h' hk=>⟨rfl,I.zj9 (t':=s.toks) (fun c o hc g=>?_) hf⟩
  simp only [List.mem_cons,List.not_mem_nil,or_false,not_or] at hc
  exact hk c o hc.2 g
 self:=fun _ _ _ _ _ st h=>by
  obtain⟨⟨old,h1⟩,_⟩:=st
  exact wpAny_pyIter_enum h1 h
section
variable {X:Cx}
noncomputable def zwn(K:W.Frag)(ta:TA):TI:=fun σ H R=>ta σ H fun vs H1=>∃ a,vs=[.ref a]/\(∃ xs,SqL K H1 a xs)/\R (Ite K a) H1
theorem zrZ{es:List Expr}{k:Nat}{p0:Pos}{a:Expr}{ta:TA}{p pos:Pos}(hg:Gl X "enumerate") (hm:X.mg "enumerate"=none) (ha:PA X [a] ta) (hs:starEach [a] X.env=[(false,eval a X.env)]:=by rfl) :
  PI X (.Tuple es k p0) (.Call (.Name "enumerate" p) [a] [] pos) (zwn X.K ta):=by
 intro pins s σ H R I h
 refine Call_ (zgb I hg hm (by decide +kernel:bootBuiltins "enumerate"=some (.type "enumerate")) (PyProof.Rows.callWith_type1 (thn (ha pos pins s σ H _ I h) fun us s1 ⟨vs,H1,I1,r1,q1⟩=>?_) hs rfl))
 obtain⟨l1,e,⟨xs,hx⟩,q⟩:=q1
 subst e
 cases r1 with
 | cons r rr =>
  cases rr
  cases r
  obtain⟨itx,rvx,px,_⟩:=I1.list hx
  refine call_enumerate_list px.isList fun h' g1 g4 g6 hk=>?_
  refine wpAny_pyIter_enum g1 ⟨_,[s1.heap.objs.size+1,s1.heap.objs.size],_,_,H1,rfl,I1.kept (t':=s1.toks) hk,zmE _ _ l1 (Nat.succ_ne_self _),⟨⟨_,g1⟩,g4⟩,fun c hc=>?_,q⟩
  have hc':s1.heap.objs.size<=c:=by
   simp only [List.mem_cons,List.not_mem_nil,or_false] at hc
   rcases hc with rfl|rfl <;> first|exact Nat.le_add_right _ _|exact Nat.le_refl _
  exact I1.zoX hc' (I1.hok.fresh hc')
theorem zqh{bs:List Bool}:∀{us:List Value},Vals (bs.map V.bl) us->us=bs.map Value.bool:=by
 induction bs with
 | nil=>intro us h;cases h;rfl
 | cons b r ih =>
  intro us h
  cases h with
  | cons h1 h2 =>
   have:=ih h2
   cases h1
   rw [this]
   rfl
theorem zqf(hc:X.calm=true):zfD X (.builtin "all") (fun xs H Q=>∃(a:Addr) (bs:List Bool),xs=[.ref a]/\SqL X.K H a (bs.map V.bl)/\Q (.bl (bs.all id)) H):=by
 intro pins s σ H xs us Q I r h
 obtain⟨a,bs,rfl,hq,q⟩:=h
 obtain⟨u,rfl,rx⟩:=vals1 r
 cases rx
 obtain⟨its,rv,p,hz⟩:=I.list hq
 have e:=zqh rv
 subst e
 have hne:a≠s.heap.objs.size:=by
  obtain⟨o,eo,_⟩:=p.isList
  exact Nat.ne_of_lt (Heap.lt_size eo)
 have W:=Walks.list (prog:=X.prog) (w:=X.w) (A:=X.A.in1) (show X.A.in1.handled=none from I.ok.hd hc) s.heap.objs.size a hne (bs.map Value.bool).toArray
 refine call_all_walk (wpAny_pyIter_list p.isList ⟨_,_,_,_,_,_,fun i=>bs.getD i true,rfl,W,⟨⟨_,Heap.get?_push_size _ rfl,rfl,rfl⟩,p.isList.push _⟩,?_,fun h' tk hk=>⟨.bl (bs.all id),H,?_,?_,q⟩⟩)
 ·intro i v s' Q' E' hP hQ
  have hP':(bs.map Value.bool)[i]?=some v:=by simpa using hP
  rw [List.getElem?_map] at hP'
  cases e:bs[i]? with
  | none=>rw [e] at hP';cases hP'
  | some b =>
   rw [e] at hP'
   cases hP'
   have:bs.getD i true=b:=by simp [List.getD,e]
   have hQ2:Q' (bs.getD i true) s':=hQ
   rw [this] at hQ2
   exact wpAny_pure hQ2
 ·refine Inv.zj9 (s:={ s with heap:=s.heap.push { cls:=.type "list_iterator",data:=.fields #[.ref a,.int 0 0] },toks:=s.toks }) (t':=tk) (fp:=[s.heap.objs.size]) (I.kept (t':=s.toks) fun b o e=>Heap.get?_push_of_some _ e) (fun b o hb e=>hk b o hb e) fun b hb=>?_
  have e:b=s.heap.objs.size:=by simpa using hb
  subst e
  exact I.zoX (Nat.le_refl _) (I.hok.fresh (Nat.le_refl _))
 ·show Value.bool _=Value.bool _
  congr 1
  simp only [List.size_toArray,List.length_map]
  rw [Bool.eq_iff_iff,List.all_eq_true,List.all_eq_true]
  constructor
  ·intro h b hb
   obtain⟨i,hi,e⟩:=List.getElem_of_mem hb
   have:=h i (List.mem_range.mpr hi)
   simpa [List.getD,hi,e] using this
  ·intro h i hi
   have hi':=List.mem_range.mp hi
   have:=h bs[i] (List.getElem_mem hi')
   simpa [List.getD,hi'] using this
end
end
section
theorem zgv:∀(names:List (Str×NameKind)) (n:Nat) (acc:List (Str×Addr)),cellsFrom n names acc=cellsFrom n names []++acc
 | [],n,acc=>rfl
 | (x,k)::r,n,acc=>by
  unfold cellsFrom
  split
  ·rw [zgv r (n+1) ((x,n)::acc),zgv r (n+1) [(x,n)]]
   simp
  ·exact zgv r n acc
theorem ziA:∀(names:List (Str×NameKind)) (n:Nat) (p:Str×Addr),p∈cellsFrom n names []->(p.1,NameKind.cell)∈names
 | [],n,p,h=>nomatch h
 | (x,k)::r,n,p,h=>by
  unfold cellsFrom at h
  split at h
  ·rename_i hk
   rw [zgv] at h
   rcases List.mem_append.mp h with h|h
   ·exact List.mem_cons_of_mem _ (ziA r _ p h)
   ·have e:p=(x,n):=by simpa using h
    have hk':k=.cell:=by simpa using hk
    subst e hk'
    exact List.mem_cons_self ..
  ·exact List.mem_cons_of_mem _ (ziA r _ p h)
theorem zoq{x:Str}:∀(names:List (Str×NameKind)) (n:Nat),(x,NameKind.cell)∈names->∃ c,(x,c)∈cellsFrom n names []
 | (y,k)::r,n,h=>by
  unfold cellsFrom
  rcases List.mem_cons.mp h with e|h
  ·cases e
   rw [if_pos (by rfl),zgv]
   exact⟨n,List.mem_append_right _ (List.mem_singleton.mpr rfl)⟩
  ·split
   ·obtain⟨c,hc⟩:=zoq r (n+1) h
    exact⟨c,by rw [zgv];exact List.mem_append_left _ hc⟩
   ·exact zoq r n h
theorem zhp{α:Type}{x:Str}{c:α}:∀{l m:List (Str×α)},(l++m).lookup x=some c->l.lookup x=some c\/(l.lookup x=none/\m.lookup x=some c)
 | [],m,h=>.inr ⟨rfl,h⟩
 | (y,b)::r,m,h=>by
  rw [List.cons_append,List.lookup_cons] at h
  rw [List.lookup_cons]
  split at h
  ·exact .inl h
  ·exact zhp h
theorem zdE{α:Type}{x:Str}{c:α}:∀{l m:List (Str×α)},m.lookup x=some c->∃ d,(l++m).lookup x=some d
 | [],m,h=>⟨c,h⟩
 | (y,b)::r,m,h=>by
  rw [List.cons_append,List.lookup_cons]
  split
  ·exact⟨_,rfl⟩
  ·exact zdE h
theorem zc6{α:Type}{x:Str}:∀{l m:List (Str×α)},l.lookup x=none->(l++m).lookup x=m.lookup x
 | [],m,h=>rfl
 | (y,b)::r,m,h=>by
  rw [List.lookup_cons] at h
  rw [List.cons_append,List.lookup_cons]
  split at h
  ·cases h
  ·exact zc6 h
theorem zdD{α:Type}{x:Str}:∀{l:List (Str×α)},(∀ p∈l,p.1≠x)->l.lookup x=none
 | [],_=>rfl
 | (y,b)::r,h=>by
  rw [List.lookup_cons]
  have:(x==y)=false:=by
   have:=h (y,b) (List.mem_cons_self ..)
   simpa using fun e=>this e.symm
  rw [this]
  exact zdD fun p hp=>h p (List.mem_cons_of_mem _ hp)
noncomputable def zkk(C:Addr)(scope:Scope):List (Str×Addr):=cellsFrom (C+1) scope.names []
noncomputable def zau(X:Cx)(M:List Str)(scope:Scope)(C:Addr)(s₃:Shared)(H₃:Hp)(fp:List Addr):Cx :=
 { X with N:=M,s₀:=s₃,H₀:=H₃,env:=compEnvC scope (zkk C scope++zg4 X.env.cells scope.names []) C X.env,outer:=X.stack,stack:=X.stack,ex:=fp,fn:=fun x=>scope.names.contains (x,NameKind.cell),pn:=[],xe:=fun _ _=>False }
structure ze0(X:Cx)(scope:Scope)(cap:List Str):Prop where
 kind:scope.kind=.function
 cell:∀ y∈scope.names,y.2=.free->X.env.kindOf y.1=some .cell
 loc:∀ y∈scope.names,y.2=.local->scope.names.lookup y.1=some .local
 cap:∀ x∈cap,scope.names.lookup x≠some .local/\(x,NameKind.cell)∉scope.names
 dis:∀ y∈scope.names,y.2=.free->(y.1,NameKind.cell)∉scope.names
theorem zi9{C:Addr}{m:Str->Option Value}:∀(names:List (Str×NameKind)) {h:Heap},h.Ns C m->(pushCells h names).Ns C m:=fun names h hn=>by
 obtain⟨o,es,ep,ho,r⟩:=hn
 exact⟨o,es,ep,pushCells_keeps names h C o ho,r⟩
section
variable {X:Cx}{pins:List (Addr×Obj)}{σ:St}{H:Hp}{s:Shared}
theorem zjp{scope:Scope}{L:List Str}{ix:List Nat}{h':Heap}{fp:List Addr}{t':Nat}(S:ze0 X scope (zfz X ix))(I:Inv X pins σ H s)(hf:∀ b∈fp,zg7 X pins H b)(hfp:∀ b∈fp,b<s.heap.objs.size)
  (hix:∀ i∈ix,i<X.N.length)(hn:h'.Ns s.heap.objs.size fun _=>none)(hk:∀ b u,s.heap.get? b=some u->h'.get? b=some u)(hcs:CellsOk h' (s.heap.objs.size+1) (zkk s.heap.objs.size scope)) :
  Inv (zau X (L++zfz X ix) scope s.heap.objs.size s H fp) [] (zep L.length ix σ) H { s with heap:=h',toks:=t' }:=by
 have cl:∀ x c,(zg4 X.env.cells scope.names []).lookup x=some c->X.env.cells.lookup x=some c:=fun x c e =>
  zfO (acc:=[]) (fun p hp=>nomatch hp) (x,c) (PySem.mem_of_lookup e)
 have old:∀ x c,X.env.cells.lookup x=some c->c<s.heap.objs.size:=fun x c e=>by
  obtain⟨v,q⟩:=I.cell x c e
  exact q.lt
 have own:∀ x c,(zkk s.heap.objs.size scope).lookup x=some c->h'.IsCell c none/\s.heap.objs.size+1<=c/\(x,NameKind.cell)∈scope.names:=fun x c e=>by
  have m:=PySem.mem_of_lookup e
  exact⟨(hcs.empty x c m).1,(hcs.empty x c m).2,ziA _ _ _ m⟩
 have al:∀ x c,(zkk s.heap.objs.size scope++zg4 X.env.cells scope.names []).lookup x=some c->(zkk s.heap.objs.size scope).lookup x=some c\/((zkk s.heap.objs.size scope).lookup x=none/\X.env.cells.lookup x=some c):=fun x c e=>by
  rcases zhp e with h|⟨h1,h2⟩
  ·exact .inl h
  ·exact .inr ⟨h1,cl x c h2⟩
 have ownHas:∀ x,(x,NameKind.cell)∈scope.names->∃ c,(zkk s.heap.objs.size scope).lookup x=some c:=fun x hx=>by
  obtain⟨c,hc⟩:=zoq scope.names (s.heap.objs.size+1) hx
  exact zbp hc
 refine⟨⟨I.ok.mod,S.kind,I.ok.glob,I.ok.blt,Nat.le_refl _,fun x y c e1 e2=>?_,fun x hx=>?_,fun x c e1 e2=>?_,I.ok.hd,I.ok.frames,.inl rfl,fun b hb=>⟨Nat.ne_of_lt (hfp b hb),fun x c e=>?_⟩,
  fun b o e=>I.bs b o e,Nat.le_trans I.ok.bsz I.sz,fun b o e hb=>?_,fun b hb hz=>?_,I.stack,I.zmK,I.ok.tree,I.ok.sk⟩,
  rfl,I.bare,Un.kept hk,⟨_,hn,fun i x v h1 h2 h3=>?_⟩,fun x c e=>?_,I.hok.fresh (Nat.le_refl _),fun x c e=>?_,fun p hp=>absurd (show p∈([]:List (Addr×Obj)) from hp) (by simp),I.hok.kept hk,?_⟩
 ·rcases al x c e1 with a1|⟨_,a1⟩ <;> rcases al y c e2 with a2|⟨_,a2⟩
  ·exact name_of_addr hcs.apart (PySem.mem_of_lookup a1) (PySem.mem_of_lookup a2)
  ·exact absurd (old y c a2) (Nat.not_lt.mpr (Nat.le_of_succ_le (own x c a1).2.1))
  ·exact absurd (old x c a1) (Nat.not_lt.mpr (Nat.le_of_succ_le (own y c a2).2.1))
  ·exact I.ok.inj x y c a1 a2
 ·have hx':(relabel scope X.env).names.lookup x=some .cell\/(relabel scope X.env).names.lookup x=some .free:=hx
  have fr:(x,NameKind.cell)∈scope.names\/(x,NameKind.free)∈scope.names:=by
   rcases hx' with q|q
   ·obtain⟨k0,_,h2,h3⟩:=za1 (scope:=scope) q
    rcases h3 with rfl|⟨rfl,_⟩
    ·exact .inl h2
    ·exact .inr h2
   ·obtain⟨k0,_,h2,h3⟩:=za1 (scope:=scope) q
    rcases h3 with rfl|⟨_,z⟩
    ·exact .inr h2
    ·cases z
  rcases fr with fr|fr
  ·obtain⟨c,hc⟩:=ownHas x fr
   show ∃ c,(zkk s.heap.objs.size scope++zg4 X.env.cells scope.names []).lookup x=some c
   exact zbp (List.mem_append_left _ (PySem.mem_of_lookup hc))
  ·obtain⟨c,hc⟩:=I.ok.has x (.inl (S.cell _ fr rfl))
   obtain⟨d,hd⟩:=zbp (zeo (names:=scope.names) (acc:=[]) hc fr)
   exact zdE hd
 ·have hx:(x,NameKind.cell)∈scope.names:=by
   have e1':scope.names.contains (x,NameKind.cell)=true:=e1
   simpa using e1'
  rcases al x c e2 with a1|⟨a1,_⟩
  ·exact Nat.le_of_succ_le (own x c a1).2.1
  ·obtain⟨d,hd⟩:=ownHas x hx
   rw [a1] at hd
   cases hd
 ·rcases al x c e with a1|⟨_,a1⟩
  ·exact Nat.ne_of_gt (Nat.lt_of_lt_of_le (hfp b hb) (Nat.le_of_succ_le (own x c a1).2.1))
  ·exact(hf b hb).2.2.2.2.1 x c a1
 ·rcases (hf b hb).2.2.2.1 with z|z
  ·exact I.ok.noex b o e z
  ·exact absurd (Heap.lt_size (I.ok.bs b o e).1) (Nat.not_lt.mpr z)
 ·rcases List.mem_cons.mp (I.zmJ b hz) with z|z
  ·exact(hf b hb).2.1 z
  ·exact(hf b hb).2.2.1 z
 ·-- a name that is drawn in
  have hi:L.length<=i:=by
   by_cases hi:i<L.length
   ·unfold zep at h2
    rw [List.getElem?_append_left (by simpa using hi),List.getElem?_replicate,if_pos hi] at h2
    cases h2
   ·omega
  unfold zep at h2
  rw [List.getElem?_append_right (by simpa using hi),List.length_replicate,List.getElem?_map] at h2
  have h1':(L++zfz X ix)[i]?=some x:=h1
  rw [List.getElem?_append_right hi] at h1'
  unfold zfz at h1'
  rw [List.getElem?_map] at h1'
  cases ej:ix[i-L.length]? with
  | none=>rw [ej] at h1';cases h1'
  | some j =>
   rw [ej] at h1' h2
   have hj:j<X.N.length:=hix j (List.mem_of_getElem? ej)
   have e1:X.N[j]?=some x:=by
    have:X.N.getD j ""=x:=Option.some.inj h1'
    rw [<- this]
    simp [List.getD,hj]
   have e2:σ[j]?=some (some v):=by
    have z:(σ[j]?).getD none=some v:=Option.some.inj h2
    cases q:σ[j]? with
    | none=>rw [q] at z;cases z
    | some o=>rw [q] at z;exact congrArg some z
   have hx:x∈zfz X ix:=by
    unfold zfz
    refine List.mem_map.mpr ⟨j,List.mem_of_getElem? ej,?_⟩
    exact Option.some.inj h1'
   have h3':(relabel scope X.env).names.lookup x=some .local\/(relabel scope X.env).names.lookup x=some .cell\/(relabel scope X.env).names.lookup x=some .free:=h3
   have fr:(x,NameKind.free)∈scope.names:=by
    rcases h3' with q|q|q
    ·obtain⟨k0,g1,g2,g3⟩:=za1 (scope:=scope) q
     rcases g3 with rfl|⟨_,z⟩
     ·exact absurd g1 (S.cap x hx).1
     ·cases z
    ·obtain⟨k0,_,g2,g3⟩:=za1 (scope:=scope) q
     rcases g3 with rfl|⟨rfl,_⟩
     ·exact absurd g2 (S.cap x hx).2
     ·exact g2
    ·obtain⟨k0,_,g2,g3⟩:=za1 (scope:=scope) q
     rcases g3 with rfl|⟨_,z⟩
     ·exact g2
     ·cases z
   have hc:X.env.kindOf x=some .cell:=S.cell _ fr rfl
   obtain⟨m,_,hl⟩:=I.loc
   obtain⟨u,ru,lk⟩:=hl j x v e1 e2 (.inr (.inl hc))
   refine⟨u,ru,?_⟩
   rcases lk with⟨z,_⟩|⟨_,c,ec,ic⟩
   ·rw [hc] at z;cases z
   ·have k3:(relabel scope X.env).names.lookup x=some .cell\/(relabel scope X.env).names.lookup x=some .free:=by
     rcases h3' with q|q|q
     ·obtain⟨k0,g1,g2,g3⟩:=za1 (scope:=scope) q
      rcases g3 with rfl|⟨_,z⟩
      ·exact absurd g1 (S.cap x hx).1
      ·cases z
     ·exact .inl q
     ·exact .inr q
    obtain⟨c',ec'⟩:=zbp (zeo (names:=scope.names) (acc:=[]) ec fr)
    have e3:=cl x c' ec'
    rw [ec] at e3
    cases e3
    obtain⟨oc,g1,g2⟩:=ic
    have no:(zkk s.heap.objs.size scope).lookup x=none:=zdD fun p hp z=>(S.cap x hx).2 (by rw [<- z];exact ziA _ _ _ hp)
    exact .inr ⟨k3,c,(zc6 no).trans ec',oc,hk _ _ g1,g2⟩
 ·rcases al x c e with a1|⟨_,a1⟩
  ·exact⟨none,(own x c a1).1⟩
  ·obtain⟨v,oc,g1,g2⟩:=I.cell x c a1
   exact⟨v,oc,hk _ _ g1,g2⟩
 ·rcases al x c e with a1|⟨_,a1⟩
  ·exact I.hok.fresh (Nat.le_of_succ_le (own x c a1).2.1)
  ·exact I.freeC x c a1
 ·show(zep L.length ix σ).length=(L++zfz X ix).length
  unfold zep zfz
  simp
end
theorem znq{M:Model}{A:Around}{E:Value->Shared->Prop}{s:Shared}{scope:Scope}{globals:Addr}{cl:List (Str×Addr)}{qual:Str}{outer:Env}{Q:Env->Shared->Prop}
  (hQ:∀ h',h'.Ns s.heap.objs.size (fun _=>none)->(∀ b u,s.heap.get? b=some u->h'.get? b=some u)->CellsOk h' (s.heap.objs.size+1) (zkk s.heap.objs.size scope) ->
   Q { scope:=scope,locals:=s.heap.objs.size,globals:=globals,cells:=zkk s.heap.objs.size scope++cl,qual:=qual,func:=none,code:=outer.code,frame:=outer.frame,builtins:=outer.builtins } { s with heap:=h' }) :
  wpAny M A (newFunctionEnv scope globals cl [] qual none .none (some outer)) Q E s:=by
 simp only [newFunctionEnv,Option.isSome_some,if_true]
 refine wpAny_bind (wpAny_alloc ?_)
 refine wpAny_bind (wpAny_layCells _ (fun name kind cells=>by cases hkc:kind==NameKind.cell <;> simp [hkc]) _ _ _ _ ?_)
 have ok:=cellsFrom_ok scope.names (s.heap.push { cls:=.type "dict",data:=.dict #[] }) (s.heap.objs.size+1) [] ⟨fun _ _ hm=>(nomatch hm),List.Pairwise.nil⟩ (by rw [Heap.size_push];exact Nat.le_refl _)
 rw [Heap.size_push] at ok
 rw [show({ s with heap:=s.heap.push { cls:=.type "dict",data:=.dict #[] } }:Shared).heap.objs.size=s.heap.objs.size+1 from Heap.size_push ..,zgv]
 refine wpAny_bind ?_
 rw [List.forIn_nil]
 refine wpAny_pure (wpAny_pure ?_)
 exact hQ _ (zi9 _ (Heap.Ns.new ..)) (fun b u e=>pushCells_keeps _ _ _ _ (Heap.get?_push_of_some _ e)) ok
section
variable {X:Cx}
theorem zpH{elt tg iter:Expr}{ifs:List Expr}{scope:Scope}{pos:Pos}{L:List Str}{ix:List Nat}{wi:TI}{g:TG}{tc:TT}{te:TE}(hc:X.calm=true)(S:ze0 X scope (zfz X ix))(hix:∀ i∈ix,i<X.N.length)(hi:PI X tg iter wi)
  (hg:∀ C s₃ H₃ fp,PG (zau X (L++zfz X ix) scope C s₃ H₃ fp) tg g)(hgo:zoO L.length g)
  (ht:∀ C s₃ H₃ fp,PTs (zau X (L++zfz X ix) scope C s₃ H₃ fp) ifs tc)(he:∀ C s₃ H₃ fp,PE (zau X (L++zfz X ix) scope C s₃ H₃ fp) elt te)
  (hs:∀ x,foldedSetIterable iter X.env x=pure x:=by intro _;rfl) :
  PE X (.ListComp elt [⟨tg,iter,ifs,0⟩] scope pos) (zrg L.length ix wi g tc te):=by
 intro pins s σ H Q I h
 rw [eval_ListComp]
 refine wpAny_comprehension_free (use:=none) rfl hs (zen fun y hy e=>I.ok.has y.1 (.inl (S.cell y hy e))) S.kind S.loc (thn (hi pins s σ H _ I h) fun xv s1 h1=>thn h1 fun itv s2 h2=>?_)
 obtain⟨it,fp,tn,J,H2,rfl,I2,T,st2,f2,q⟩:=h2
 have nD:H2 s2.heap.objs.size=none:=I2.hok.fresh (Nat.le_refl _)
 obtain⟨W,⟨m0,w0⟩,turn⟩:=q _ nD
 generalize hD:s2.heap.objs.size=D at nD w0 turn
 have fD:∀ b∈fp,b<D:=fun b hb=>by
  obtain⟨o,e,_⟩:=T.obj _ _ st2 b hb
  rw [<- hD]
  exact Heap.lt_size e
 have I3:Inv X pins σ (upd H2 D (.lst [])) { s2 with heap:=s2.heap.push { cls:=.type "list",data:=.seq ([]:List Value).toArray },toks:=s2.toks }:=by
  rw [<- hD]
  exact I2.laid (t':=s2.toks) (fun b u e=>Heap.get?_push_of_some _ e) (Nat.le_refl _) ⟨by simp,[],0,.nil,Heap.get?_push_size _ rfl⟩
 refine wpAny_newObj_type (znq (fun h₁ hns₁ hsb₁ hcs₁=>?_)) (by show 0<=sizeLine;exact Nat.zero_le _)
 rw [hD]
 have st3:tn 0 (s2.heap.push { cls:=.type "list",data:=.seq ([]:List Value).toArray }):=T.keep _ _ _ st2 fun b hb o e=>Heap.get?_push_of_some _ e
 generalize hp3:s2.heap.push { cls:=.type "list",data:=.seq ([]:List Value).toArray }=h3 at I3 st3 hns₁ hsb₁ hcs₁
 dsimp only at hns₁ hsb₁ hcs₁ ⊢
 have sz3:h3.objs.size=D+1:=by rw [<- hp3,Heap.size_push,hD]
 have old:∀ b u,h3.get? b=some u->h₁.get? b=some u:=fun b u e=>hsb₁ b u e
 have f3:∀ b∈fp,zg7 X pins (upd H2 D (.lst [])) b:=fun b hb=>⟨by rw [zas (Nat.ne_of_lt (fD b hb))];exact(f2 b hb).1,(f2 b hb).2⟩
 have I4:=zjp (L:=L) (ix:=ix) (t':=s2.toks) S I3 f3 (fun b hb=>by show b<h3.objs.size;rw [sz3];exact Nat.lt_succ_of_lt (fD b hb)) hix (h':=h₁) hns₁ old hcs₁
 have st4:tn 0 h₁:=T.keep _ _ _ st3 fun b hb o e=>old b o e
 generalize hC:(zau X (L++zfz X ix) scope h3.objs.size { s2 with heap:=h3,toks:=s2.toks } (upd H2 D (.lst [])) fp)=Y at I4
 have eEnv:Y.env=compEnvC scope (zkk h3.objs.size scope++zg4 X.env.cells scope.names []) h3.objs.size X.env:=by rw [<- hC];rfl
 have hcY:Y.calm=true:=by rw [<- hC];exact hc
 have xeY:Y.xe=fun _ _=>False:=by rw [<- hC];rfl
 have eP:Y.prog=X.prog:=by rw [<- hC];rfl
 have eW:Y.w=X.w:=by rw [<- hC];rfl
 have eK:Y.K=X.K:=by rw [<- hC];rfl
 have eA:Y.A=X.A:=by rw [<- hC];rfl
 have gY:PG Y tg g:=by rw [<- hC];exact hg _ _ _ _
 have tY:PTs Y ifs tc:=by rw [<- hC];exact ht _ _ _ _
 have pY:PE Y elt te:=by rw [<- hC];exact he _ _ _ _
 have stat:∀{H':Hp},(∀ b∈fp,H' b=none)->∀ b∈fp,zg7 Y [] H' b:=fun{H'} hn b hb=>by
  have z1:b∈Y.ex:=by rw [<- hC];exact hb
  have zp:Y.pn=[]:=by rw [<- hC];rfl
  refine⟨hn b hb,(I4.ok.exf b z1).1,I4.ok.exfs b z1,.inl z1,(I4.ok.exf b z1).2,fun p hp=>?_⟩
  rw [zp] at hp
  exact absurd hp (by simp)
 have fin:∀{H':Hp} {s':Shared},Inv Y [] (zep L.length ix σ) H' s'->Q (.ref D) H'->compPost (model X.prog X.w) X.A X.xe none (EP X pins σ Q) (.ref D) h3.objs.size (.ok .next) s':=by
  intro H' s' J' qe
  obtain⟨m,hm,_⟩:=J'.loc
  rw [eEnv] at hm
  refine⟨m,hm,fun h' sb=>⟨.ref D,H',?_,rfl,qe⟩⟩
  have hfr:H' h3.objs.size=none:=by
   have:=J'.free
   rw [eEnv] at this
   exact this
  have neC:∀ b u,H' b=some u->b≠h3.objs.size:=fun b u e z=>by rw [z,hfr] at e;cases e
  have base:Un (frs X.stack) fp (upd H2 D (.lst [])) H' h3 s'.heap:=by
   have:=J'.base
   rw [<- hC] at this
   exact this
  have to':∀ b o,b≠h3.objs.size->s'.heap.get? b=some o->h'.get? b=some o:=fun b o hb e=>sb.extBut b o hb e
  have lt3:∀ b o,h3.get? b=some o->b≠h3.objs.size:=fun b o e=>Nat.ne_of_lt (Heap.lt_size e)
  have un:Un (frs X.stack) fp (upd H2 D (.lst [])) H' h3 h' :=
   ⟨fun b o e n hb hx=>to' b o (lt3 b o e) (base.keep b o e n hb hx),
    fun b o e n hb hx=>by
    obtain⟨sl,z⟩:=base.slot b o e n hb hx
    exact⟨sl,to' _ _ (lt3 b o e) z⟩,
    base.free,
    fun b o e hx=>by
    obtain⟨o',z⟩:=base.there b o e hx
    exact⟨o',to' _ _ (lt3 b o e) z⟩,
    base.tups,base.frzs,base.tbls⟩
  have hok:HOk X.prog X.w H' h':=fun b u e=>by
   have z:=J'.hok b u e
   rw [eP,eW] at z
   refine z.stay (fun c v hcv qv=>to' c v ?_ qv) (fun _ qq=>qq) fun _ _ qq=>qq
   rcases hcv with zz|zz
   ·rw [zz];exact neC b u e
   ·exact neC c _ zz
  refine I3.call' (s':={ s' with heap:=h' }) (ch:=fp) ?_ un hok J'.bare fun b hb=>?_
  ·have:=J'.os
   rw [<- hC] at this
   exact this
  ·obtain⟨_,g1,g2,g3,g4,g5⟩:=f2 b hb
   exact⟨g3,g1,g4,g5⟩
 have key:∀ s5:Shared,s5={ s2 with heap:=h₁,toks:=s2.toks } ->
   codeAny (model X.prog X.w) X.A (.compLoop (.ListComp elt [⟨tg,iter,ifs,0⟩] scope pos) 0 (.ref it) (.ref D) (compEnvC scope (zkk h3.objs.size scope++zg4 X.env.cells scope.names []) h3.objs.size X.env))
    (compPost (model X.prog X.w) X.A X.xe none (EP X pins σ Q) (.ref D) h3.objs.size) s5:=by
  rintro s5 rfl
  rw [<- eEnv,<- eP,<- eW,<- eA]
  refine zkL (fun n s'=>∃ i ys H',Inv Y [] (zep L.length ix σ) H' s'/\tn i s'.heap/\(∀ b∈fp,H' b=none)/\W i n ys H') ?_ m0 ⟨0,[],_,?_,st4,fun b hb=>(f3 b hb).1,w0⟩
  ·rintro n s6 ⟨i,ys,H6,I6,st6,fr6,w6⟩
   obtain⟨hl6,alt⟩:=turn i n ys H6 w6
   rcases alt with⟨stop,qe⟩|⟨go,step⟩
   ·have Td:=T.done Y eP eW eK hcY i [] s6 _ H6 (fun _ _=>False) I6 (stat fr6) st6 stop
    rw [<- eP,<- eW] at Td
    refine wpAny_mono Td (fun r s7 hr7=>?_) fun _ _ f=>f.elim
    obtain⟨hr,I7⟩:=hr7
    subst hr
    rw [eP,eW,eA]
    exact fin I7 qe
   ·have Ti:=T.item Y eP eW eK hcY i [] s6 _ H6 (fun _ _=>False) I6 (stat fr6) st6 go
    rw [<- eP,<- eW] at Ti
    refine wpAny_mono Ti (fun r s7 hr7=>?_) fun _ _ f=>f.elim
    obtain⟨u,hr,h7⟩:=hr7
    subst hr
    refine wpAny_mono h7 (fun _ s8 hr8=>?_) fun _ _ f=>f.elim
    obtain⟨x,H8,I8,r8,y8,st8,fr8⟩:=hr8
    have I8':=I8.pinned (stat fr8) (T.obj _ _ st8)
    have stp:=hgo _ _ _ _ (step x H8 y8)
    refine wpAny_mono (gY _ s8 _ H8 x u _ I8' r8 stp) (fun _ s9 ⟨σ9,H9,I9,⟨k1,k2⟩,q9⟩=>?_) fun _ _ f=>by rw [xeY] at f;exact f.elim
    have weak:∀{Hz:Hp} {sz:Shared},Inv Y ([]++zhk fp s8.heap) σ9 Hz sz->Inv Y [] (zep L.length ix σ) Hz sz/\tn (i+1) sz.heap/\∀ b∈fp,Hz b=none:=fun{Hz sz} Iz=>by
     refine⟨Iz.zcn.weak k1.symm fun j v e=>?_,T.keep _ _ _ st8 fun b hb o e=>(Iz.pin (b,o) (List.mem_append_right _ (List.mem_append_right _ (zbW hb e)))).1,fun b hb=>?_⟩
     ·by_cases hj:L.length<=j
      ·rw [k2 j hj];exact e
      ·unfold zep at e
       rw [List.getElem?_append_left (by simpa using Nat.lt_of_not_le hj),List.getElem?_replicate,if_pos (Nat.lt_of_not_le hj)] at e
       cases e
     ·obtain⟨o,e,d⟩:=T.obj _ _ st8 b hb
      exact(Iz.pin (b,o) (List.mem_append_right _ (List.mem_append_right _ (zbW hb e)))).2.1
    refine wpAny_mono (tY _ s9 σ9 H9 _ I9 q9) (fun ok s10 ⟨H10,I10,q10⟩=>?_) fun _ _ f=>by rw [xeY] at f;exact f.elim
    cases ok with
    | false =>
     have q10':∃ m',m'<n/\W (i+1) m' ys H10:=q10
     obtain⟨m',hm',w10⟩:=q10'
     obtain⟨z1,z2,z3⟩:=weak I10
     exact⟨m',hm',i+1,ys,H10,z1,z2,z3,w10⟩
    | true =>
     refine wpAny_mono (pY _ s10 σ9 H10 _ I10 q10) (fun xv s11 ⟨v,H11,I11,r11,hl11,hz11,m',hm',w11⟩=>?_) fun _ _ f=>by rw [xeY] at f;exact f.elim
     refine wpAny_mono (zja (X:=Y) _ s11 σ9 H11 (.ref D) [v] (.ref D) [xv] (fun _ Hq=>Hq=upd H11 D (.lst (ys++[v]))) I11 rfl (.cons r11 .nil) ⟨D,ys,v,rfl,rfl,hl11,hz11,rfl⟩) (fun _ s12 ⟨_,H12,I12,_,e12⟩=>?_) fun _ _ f=>by rw [xeY] at f;exact f.elim
     subst e12
     obtain⟨z1,z2,z3⟩:=weak I12
     exact⟨m',hm',i+1,ys++[v],_,z1,z2,z3,w11⟩
  ·exact I4
 exact codeAny_compStart_list (key _ rfl) (T.self _ 0 _ _ _ st4 (key _ rfl))
end
end
section
noncomputable def zde(sc scope:Scope)(N:List Str)(ix:List Nat):Bool :=
 (scope.names.all fun y=>(y.2 != .free||sc.names.lookup y.1==some .cell)&&(y.2 != .local||scope.names.lookup y.1==some .local)&&(y.2 != .free||!(scope.names.contains (y.1,NameKind.cell)))) &&
 ((ix.map fun i=>N.getD i "").all fun x=>scope.names.lookup x != some .local&&!(scope.names.contains (x,NameKind.cell)))&&ix.all (fun i=>decide (i<N.length))
section
variable {X:Cx}
theorem zpG{elt tg iter:Expr}{ifs:List Expr}{scope:Scope}{pos:Pos}{wi:TI}{g:TG}{tc:TT}{te:TE}(L:List Str)(ix:List Nat)(M:List Str)(hc:X.calm=true)(hk:scope.kind=.function)
  (hd:zde X.env.scope scope X.N ix=true)(hM:M=L++ix.map fun i=>X.N.getD i "") (hi:PI X tg iter wi)
  (hg:∀ C s₃ H₃ fp,PG (zau X M scope C s₃ H₃ fp) tg g) (hgo:zoO L.length g)
  (ht:∀ C s₃ H₃ fp,PTs (zau X M scope C s₃ H₃ fp) ifs tc) (he:∀ C s₃ H₃ fp,PE (zau X M scope C s₃ H₃ fp) elt te)
  (hs:∀ x,foldedSetIterable iter X.env x=pure x:=by intro _;rfl) :
  PE X (.ListComp elt [⟨tg,iter,ifs,0⟩] scope pos) (zrg L.length ix wi g tc te):=by
 unfold zde at hd
 simp only [Bool.and_eq_true,List.all_eq_true,bne_iff_ne,ne_eq,Bool.or_eq_true,beq_iff_eq,decide_eq_true_eq,Bool.not_eq_true',List.contains_eq_mem,decide_eq_false_iff_not] at hd
 obtain⟨⟨d1,d2⟩,d3⟩:=hd
 have eM:M=L++zfz X ix:=by rw [hM];unfold zfz;rfl
 subst eM
 refine zpH (L:=L) (ix:=ix) hc ⟨hk,fun y hy e=>?_,fun y hy e=>?_,fun x hx=>?_,fun y hy e=>?_⟩ d3 hi hg hgo ht he hs
 ·rcases (d1 y hy).1.1 with z|z
  ·exact absurd e z
  ·exact z
 ·rcases (d1 y hy).1.2 with z|z
  ·exact absurd e z
  ·exact z
 ·unfold zfz at hx
  exact d2 x hx
 ·rcases (d1 y hy).2 with z|z
  ·exact absurd e z
  ·exact z
end
end
section
end
section
end
section
noncomputable def Itd(d:Addr)(o:Obj)(kvs:List (Key×V)):It :=
 ⟨fun i H=>H d=some (.frz o (.dK kvs))/\i<kvs.length,fun i H x H'=>H'=H/\∃ k v,kvs[i]?=some (k,v)/\x=kV k,fun i H=>H d=some (.frz o (.dK kvs))/\kvs.length<=i⟩
theorem zlc{k:Key}{u:Value}(h:zks k u=true):RelV (kV k) u:=by
 rcases zaM h with⟨i,t,rfl,rfl⟩|⟨x,t,rfl,rfl⟩
 ·exact⟨t,rfl⟩
 ·exact⟨t,rfl⟩
theorem KV.len{kvs:List (Key×V)}{vs:List (Key×Value)}(h:KV kvs vs):kvs.length=vs.length:=Paired.length h
theorem zdm{α β:Type}{R:α->β->Prop}:∀{xs:List α} {ys:List β} {i:Nat} {x:α},Paired R xs ys->xs[i]?=some x->∃ y,ys[i]?=some y/\R x y
 | _::_,_::_,0,_,.cons r _,e=>by
  simp only [List.getElem?_cons_zero,Option.some.injEq] at e
  subst e
  exact⟨_,rfl,r⟩
 | _::_,_::_,i+1,_,.cons _ t,e=>by
  simp only [List.getElem?_cons_succ] at e ⊢
  exact zdm t e
 | [],_,_,_,_,e=>by simp at e
theorem zob{P:Program}{w:World}{H:Hp}{h:Heap}{d:Addr}{o:Obj}{kvs:List (Key×V)}{es:Array DictEntry}{ep:Nat}(ok:zbc P w H h d (.frz o (.dK kvs)))(hd:o.data=.dict es ep) :
  ∃ vs,KV kvs vs/\h.DictAt (zaE P w) d vs ep/\(d==sysModules)=false:=by
 obtain⟨e,_,sy,vs,kv,o',es',ep',e',r1,r2,r3⟩:=ok
 rw [e] at e'
 cases e'
 rw [hd] at r2
 cases r2
 exact⟨vs,kv,⟨o,es,e,r1,hd,r3⟩,sy⟩
theorem zmF{P:Program}{w:World}{K:W.Frag}{tg:Expr}{o:Obj}{es:Array DictEntry}{ep:Nat}{kvs:List (Key×V)}(d it:Addr)(hdat:o.data=.dict es ep) :
  Turn P w K tg (Itd d o kvs) [it] it (fun i h=>h.IsKeyIter it d i kvs.length ep) where
 mem:=by simp
 obj:=fun i h st b hb=>by
  have e:b=it:=by simpa using hb
  subst e
  obtain⟨o,e,c,d⟩:=st
  exact⟨o,e,fun v z=>by rw [d] at z;cases z⟩
 keep:=fun i h h' st k=>st.at fun o e=>k it (by simp) o e
 item:=by
  intro X hP hw hK hc i pins s σ H E I hf st hg
  subst hP hw hK
  obtain⟨hd,hi⟩:=hg
  obtain⟨vs,kv,da,_⟩:=zob (I.hok d _ hd) hdat
  obtain⟨⟨k',v'⟩,ev,rk,rv⟩:=zdm kv (List.getElem?_eq_getElem hi)
  obtain⟨f0,f1,f2,f3,f4,f5⟩:=hf it (by simp)
  have st':s.heap.IsKeyIter it d i vs.length ep:=by rw [<- kv.len];exact st
  refine wpAny_pyNext_dict_item st' da ev fun key h' hk st2 sb=>?_
  have I1:Inv X pins σ H { s with heap:=h' }:=I.turned (t':=s.toks) (fun b o hb e=>(sb.2 b hb).trans e) f0 f1 f3 f4 f5
  rw [<- kv.len] at st2
  obtain⟨o,e,c,dd⟩:=id st2
  exact⟨key,rfl,zn6 (s:={ s with heap:=h' }) e c dd (by decide) ⟨kV k',H,I1,zlc hk,⟨rfl,kvs[i].1,kvs[i].2,List.getElem?_eq_getElem hi,congrArg kV rk.symm⟩,st2,fun b hb=>(hf b hb).1⟩⟩
 done:=by
  intro X hP hw hK hc i pins s σ H E I hf st hg
  subst hP hw hK
  obtain⟨hd,hi⟩:=hg
  obtain⟨vs,kv,da,_⟩:=zob (I.hok d _ hd) hdat
  obtain⟨f0,f1,f2,f3,f4,f5⟩:=hf it (by simp)
  have st':s.heap.IsKeyIter it d i vs.length ep:=by rw [<- kv.len];exact st
  exact wpAny_pyNext_dict_end (I.ok.hd hc) st' da (List.getElem?_eq_none (by rw [<- kv.len];exact hi)) fun h' eb=>⟨rfl,I.turned (t':=s.toks) (fun b o hb e=>eb b o hb e) f0 f1 f3 f4 f5⟩
 self:=fun _ _ _ _ _ st h=>wpAny_pyIter_keyiter st h
end
section
section
variable {κ:Type}[DecidableEq κ]
noncomputable def zgQ(kvs:List (κ×V))(k:κ):Option V:=(kvs.find? fun kv=>decide (kv.1=k)).map (·.2)
noncomputable def putK(kvs:List (κ×V))(k:κ)(v:V):List (κ×V) :=
 if(kvs.any fun kv=>decide (kv.1=k))=true then kvs.map (fun kv=>if kv.1=k then(kv.1,v) else kv) else kvs++[(k,v)]
noncomputable def zbt(kvs:List (κ×V))(k:κ):List (κ×V):=kvs.filter fun kv=>decide (kv.1≠k)
theorem zdY{p:κ×V}{r:List (κ×V)}{k:κ}(e:p.1=k):zgQ (p::r) k=some p.2:=by simp [zgQ,List.find?_cons,e]
theorem zdZ{p:κ×V}{r:List (κ×V)}{k:κ}(e:¬ p.1=k):zgQ (p::r) k=zgQ r k:=by simp [zgQ,List.find?_cons,e]
theorem zk2(k:κ):∀ kvs:List (κ×V),(kvs.any fun kv=>decide (kv.1=k))=(zgQ kvs k).isSome
 | []=>rfl
 | p::r=>by
  rw [List.any_cons]
  by_cases e:p.1=k
  ·simp only [zdY e,decide_eq_true e,Bool.true_or,Option.isSome_some]
  ·rw [zdZ e,decide_eq_false e,Bool.false_or];exact zk2 k r
theorem zcA(kvs:List (κ×V))(k:κ)(v:V):(putK kvs k v).length<=kvs.length+1:=by
 unfold putK
 split
 ·rw [List.length_map];omega
 ·rw [List.length_append,List.length_cons,List.length_nil];omega
theorem zkS.zeg{o:Option V}{u:Option Value}(r:zkS o u):o.isSome=u.isSome:=by
 cases o with
 | none=>cases u with
  | none=>rfl
  | some _=>exact(show False from r).elim
 | some _=>cases u with
  | none=>exact(show False from r).elim
  | some _=>rfl
theorem zkS.getD{o:Option V}{u:Option Value}{d:V}{d':Value}(r:zkS o u)(rd:RelV d d'):RelV (o.getD d) (u.getD d'):=by
 cases o with
 | none=>cases u with
  | none=>exact rd
  | some _=>exact(show False from r).elim
 | some _=>cases u with
  | none=>exact(show False from r).elim
  | some _=>exact r
theorem KV.val{kvs:List (κ×V)}{vs:List (κ×Value)}(r:KV kvs vs)(k:κ):zkS (zgQ kvs k) (valueAt vs k):=by
 unfold KV at r
 induction r with
 | nil=>exact True.intro
 | @cons p q ps qs h t ih =>
  obtain⟨h1,h2⟩:=h
  by_cases e:p.1=k
  ·have e':q.1=k:=h1.symm.trans e
   have b:valueAt (q::qs) k=some q.2:=by simp [valueAt,List.find?_cons,e']
   rw [zdY e,b];exact h2
  ·have e':¬ q.1=k:=fun z=>e (h1.trans z)
   have b:valueAt (q::qs) k=valueAt qs k:=by simp [valueAt,List.find?_cons,e']
   rw [zdZ e,b];exact ih
theorem KV.any{kvs:List (κ×V)}{vs:List (κ×Value)}(r:KV kvs vs)(k:κ):(kvs.any fun kv=>decide (kv.1=k))=vs.any fun kv=>decide (kv.1=k):=by
 unfold KV at r
 induction r with
 | nil=>rfl
 | cons h t ih=>rw [List.any_cons,List.any_cons,ih,h.1]
theorem KV.repl{kvs:List (κ×V)}{vs:List (κ×Value)}(r:KV kvs vs)(k:κ){y:V}{u:Value}(ry:RelV y u) :
  KV (kvs.map fun kv=>if kv.1=k then(kv.1,y) else kv) (vs.map fun kv=>if kv.1=k then(kv.1,u) else kv):=by
 unfold KV at r ⊢
 induction r with
 | nil=>exact .nil
 | @cons p q ps qs h t ih =>
  rw [List.map_cons,List.map_cons]
  refine .cons ?_ ih
  obtain⟨h1,h2⟩:=h
  by_cases e:p.1=k
  ·rw [if_pos e,if_pos (h1.symm.trans e)];exact⟨h1,ry⟩
  ·rw [if_neg e,if_neg (fun z=>e (h1.trans z))];exact⟨h1,h2⟩
theorem KV.put{kvs:List (κ×V)}{vs:List (κ×Value)}(r:KV kvs vs)(k:κ){y:V}{u:Value}(ry:RelV y u):KV (putK kvs k y) (stored vs k u):=by
 unfold putK stored
 rw [r.any k]
 by_cases e:(vs.any fun kv=>decide (kv.1=k))=true
 ·rw [if_pos e,if_pos e];exact r.repl k ry
 ·rw [if_neg e,if_neg e];exact Paired.snoc r ⟨rfl,ry⟩
theorem KV.drop{kvs:List (κ×V)}{vs:List (κ×Value)}(r:KV kvs vs)(k:κ):KV (zbt kvs k) (without vs k):=by
 unfold KV at r ⊢
 unfold zbt without
 induction r with
 | nil=>exact .nil
 | @cons p q ps qs h t ih =>
  obtain⟨h1,h2⟩:=h
  rw [List.filter_cons,List.filter_cons]
  by_cases e:p.1=k
  ·have a:¬ decide (p.1≠k)=true:=by simp [e]
   have b:¬ decide (q.1≠k)=true:=by simp [h1.symm.trans e]
   rw [if_neg a,if_neg b];exact ih
  ·have e':¬ q.1=k:=fun z=>e (h1.trans z)
   have a:decide (p.1≠k)=true:=by simp [e]
   have b:decide (q.1≠k)=true:=by simp [e']
   rw [if_pos a,if_pos b];exact .cons ⟨h1,h2⟩ ih
theorem KV.length{kvs:List (κ×V)}{vs:List (κ×Value)}(r:KV kvs vs):kvs.length=vs.length:=Paired.length r
theorem zfM(kvs:List (κ×V))(k:κ):(zbt kvs k).length<=kvs.length:=List.length_filter_le _ _
end
theorem zg0{P:Program}{w:World}{k:Key}{u:Value}(r:RelV (kV k) u):(zaE P w).is k u=true:=by
 cases k with
 | inl i=>obtain⟨t,e⟩:=(show ∃ t,u=Value.int i t from r);subst e;exact zko P w i t
 | inr x=>obtain⟨t,e⟩:=(show ∃ t,u=Value.str x t from r);subst e;exact zkn P w x t
theorem zjo{P:Program}{w:World}:∀{ks:List Key} {us:List Value},Vals (ks.map kV) us->ItemsAre (zaE P w) ks us
 | [],_,r=>by rw [List.map_nil] at r;cases r;exact .nil
 | k::ks,_,r=>by
  rw [List.map_cons] at r
  cases r with
  | cons h t=>exact .cons (zg0 h) (zjo t)
abbrev KT(H:Hp):List (List Key×V)->List (List Key×Addr×Value)->Prop:=Paired fun p q=>p.1=q.1/\TAt H q.2.1 (p.1.map kV)/\RelV p.2 q.2.2
theorem KT.val{H:Hp}{kvs:List (List Key×V)}{xs:List (List Key×Addr×Value)}(r:KT H kvs xs)(k:List Key):zkS (zgQ kvs k) ((atKey xs k).map (·.2)):=by
 induction r with
 | nil=>exact True.intro
 | @cons p q ps qs h t ih =>
  obtain⟨h1,_,h2⟩:=h
  by_cases e:p.1=k
  ·have e':q.1=k:=h1.symm.trans e
   have b:atKey (q::qs) k=some q.2:=by simp [atKey,List.find?_cons,e']
   rw [zdY e,b];exact h2
  ·have e':¬ q.1=k:=fun z=>e (h1.trans z)
   have b:atKey (q::qs) k=atKey qs k:=by simp [atKey,List.find?_cons,e']
   rw [zdZ e,b];exact ih
theorem KT.repl{H:Hp}{kvs:List (List Key×V)}{xs:List (List Key×Addr×Value)}(r:KT H kvs xs)(k:List Key){y:V}{u:Value}(ry:RelV y u) :
  KT H (kvs.map fun kv=>if kv.1=k then(kv.1,y) else kv) (xs.map (putAt k u)):=by
 induction r with
 | nil=>exact .nil
 | @cons p q ps qs h t ih =>
  rw [List.map_cons,List.map_cons]
  refine .cons ?_ ih
  obtain⟨h1,h2,h3⟩:=h
  unfold putAt
  by_cases e:p.1=k
  ·rw [if_pos e,if_pos (h1.symm.trans e)];exact⟨h1,h2,ry⟩
  ·rw [if_neg e,if_neg (fun z=>e (h1.trans z))];exact⟨h1,h2,h3⟩
theorem KT.put{H:Hp}{kvs:List (List Key×V)}{xs:List (List Key×Addr×Value)}(r:KT H kvs xs)(k:List Key){b:Addr}{y:V}{u:Value}(hb:TAt H b (k.map kV))(ry:RelV y u) :
  KT H (putK kvs k y) (storedH xs k b u):=by
 have e:(kvs.any fun kv=>decide (kv.1=k))=(atKey xs k).isSome:=by
  rw [zk2,(r.val k).zeg,Option.isSome_map]
 unfold putK storedH
 rw [e]
 by_cases q:(atKey xs k).isSome=true
 ·rw [if_pos q,if_pos q];exact r.repl k ry
 ·rw [if_neg q,if_neg q];exact Paired.snoc r ⟨rfl,hb,ry⟩
theorem KT.keeps{H H':Hp}{kvs:List (List Key×V)}{xs:List (List Key×Addr×Value)}(r:KT H kvs xs)(ht:∀ b ys,TAt H b ys->TAt H' b ys):KT H' kvs xs :=
 Paired.zwh r fun _ _ z=>⟨z.1,ht _ _ z.2.1,z.2.2⟩
section
variable {P:Program}{w:World}{H:Hp}{h:Heap}{a:Addr}
theorem ztl{u:HO}(ok:HOk P w H h)(e:Rd H a u):zbc P w H h a u:=e.ok ok
theorem zjz{kvs:List (Key×V)}(ok:HOk P w H h)(e:Rd H a (.dK kvs)):kvs.length<=sizeLine/\(a==sysModules)=false/\∃ vs,KV kvs vs/\h.DictOf (zaE P w) a vs :=
 show zbc P w H h a (.dK kvs) from ztl ok e
theorem zoj{kvs:List (Key×V)}(ok:HOk P w H h)(e:H a=some (.dK kvs)):kvs.length<=sizeLine/\(a==sysModules)=false/\∃ vs,KV kvs vs/\h.DictOf (zaE P w) a vs:=zjz ok (.inl e)
theorem zb7{ks:List Key}(ok:HOk P w H h)(e:TAt H a (ks.map kV)):(tupleKind (zaE P w)).is h ks a:=by
 obtain⟨_,its,r,o,h1,h2,n,h3⟩:=(show zbc P w H h a (.tup (ks.map kV)) from Rd.ok e ok)
 exact⟨o,its.toArray,n,h1,h2,h3,by simpa using zjo r⟩
theorem zjw{kvs:List (List Key×V)}(ok:HOk P w H h)(e:Rd H a (.dT kvs)):kvs.length<=sizeLine/\(a==sysModules)=false /\
  ∃ xs,KT H kvs xs/\h.DictOfH (tupleKind (zaE P w)) a xs:=by
 obtain⟨z,y,xs,r,o,es,ep,h1,h2,h3,h4,h5⟩:=(show zbc P w H h a (.dT kvs) from ztl ok e)
 refine⟨z,y,xs,r,o,es,ep,h1,h2,h3,h4,fun x hx=>?_,h5⟩
 have all:∀{l:List (List Key×V)} {m:List (List Key×Addr×Value)},KT H l m->∀ x∈m,(tupleKind (zaE P w)).is h x.1 x.2.1:=by
  intro l m q
  induction q with
  | nil=>intro x hx;exact nomatch hx
  | @cons p q ps qs hq t ih =>
   intro x hx
   rcases List.mem_cons.mp hx with e|hx
   ·subst e
    exact zb7 ok (by rw [<- hq.1];exact hq.2.1)
   ·exact ih x hx
 exact all r x hx
theorem zp8{kvs:List (List Key×V)}(ok:HOk P w H h)(e:H a=some (.dT kvs)):kvs.length<=sizeLine/\(a==sysModules)=false /\
  ∃ xs,KT H kvs xs/\h.DictOfH (tupleKind (zaE P w)) a xs:=zjw ok (.inl e)
end
def zvd(H:Hp)(a:Addr)(y:V)(r:Option V):Prop :=
 (∃ kvs k,Rd H a (.dK kvs)/\y=kV k/\r=zgQ kvs k)\/∃ kvs k b,Rd H a (.dT kvs)/\y=.ref b/\TAt H b (k.map kV)/\r=zgQ kvs k
def zoR(H:Hp)(a:Addr)(y v:V)(H':Hp):Prop :=
 (∃ kvs k,H a=some (.dK kvs)/\y=kV k/\kvs.length<sizeLine/\H'=upd H a (.dK (putK kvs k v))) \/
 ∃ kvs k b,H a=some (.dT kvs)/\y=.ref b/\TAt H b (k.map kV)/\kvs.length<sizeLine/\H'=upd H a (.dT (putK kvs k v))
theorem zoR.k{H:Hp}{a:Addr}{kvs:List (Key×V)}{k:Key}{v:V}(e:H a=some (.dK kvs))(hl:kvs.length<sizeLine):zoR H a (kV k) v (upd H a (.dK (putK kvs k v))):=.inl ⟨kvs,k,e,rfl,hl,rfl⟩
theorem zoR.t{H:Hp}{a b:Addr}{kvs:List (List Key×V)}{k:List Key}{v:V}(e:H a=some (.dT kvs))(eb:TAt H b (k.map kV))(hl:kvs.length<sizeLine) :
  zoR H a (.ref b) v (upd H a (.dT (putK kvs k v))):=.inr ⟨kvs,k,b,e,rfl,eb,hl,rfl⟩
section
variable {X:Cx}{pins:List (Addr×Obj)}{σ:St}{H:Hp}{s:Shared}{a:Addr}{y v:V}{u r:Value}{o:Option V}{A:Around}{E:Value->Shared->Prop}
theorem Inv.big(I:Inv X pins σ H s):sysModules<s.heap.objs.size:=by
 have h:mainGlobals<s.heap.objs.size:=(I.mod.glob.keeps I.bk).lt
 exact Nat.lt_trans (by decide) h
theorem zok{Q:Value->Shared->Prop}(hu:A.units+1<cLine)(I:Inv X pins σ H s)(g:zvd H a y (some v))(ry:RelV y u)(h:∀ w' s',Inv X pins σ H s'->RelV v w'->Q w' s') :
  wpAny (model X.prog X.w) A (getItem (.ref a) u) Q E s:=by
 rcases g with⟨kvs,k,e,ey,l⟩|⟨kvs,k,b,e,ey,eb,l⟩
 ·subst ey
  obtain⟨z,hd,vs,rel,dd⟩:=zjz I.hok e
  obtain⟨w',hw,rw'⟩:=zkS.some_of (v:=v) (o:=valueAt vs k) (by rw [l];exact rel.val k)
  exact wpAny_getItem_of (zg0 ry) dd.mapOf hw (h w' _ (I.tok _) rw')
 ·subst ey
  cases (show u=Value.ref b from ry)
  obtain⟨z,hd,xs,rel,dd⟩:=zjw I.hok e
  obtain⟨w',hw,rw'⟩:=zkS.some_of (v:=v) (o:=(atKey xs k).map (·.2)) (by rw [l];exact rel.val k)
  obtain⟨p,hp,hp2⟩:=Option.map_eq_some_iff.mp hw
  refine wpAny_getItem_heap (tupleKind_room_in1 hu) (zb7 I.hok eb) dd hp ?_
  rw [hp2]
  exact h w' _ (I.tok _) rw'
theorem zxT{Q:Value->Shared->Prop}(hu:A.units+1<cLine)(I:Inv X pins σ H s)(g:zvd H a y o)(ry:RelV y u)(h:∀ s',Inv X pins σ H s'->Q (.bool o.isSome) s') :
  wpAny (model X.prog X.w) A (compareOp .In u (.ref a)) Q E s:=by
 rcases g with⟨kvs,k,e,ey,l⟩|⟨kvs,k,b,e,ey,eb,l⟩
 ·subst ey
  obtain⟨z,hd,vs,rel,dd⟩:=zjz I.hok e
  refine wpAny_in_of (zg0 ry) hd dd.mapOf ?_
  rw [<- (rel.val k).zeg,<- l]
  exact h _ (I.tok _)
 ·subst ey
  cases (show u=Value.ref b from ry)
  obtain⟨z,hd,xs,rel,dd⟩:=zjw I.hok e
  refine wpAny_in_heap (tupleKind_room_in1 hu) (zb7 I.hok eb) hd dd ?_
  have q:=(rel.val k).zeg
  rw [Option.isSome_map] at q
  rw [<- q,<- l]
  exact h _ (I.tok _)
theorem zcf{h':Heap}{t':Nat}{ob:HO}(I:Inv X pins σ H s)(mu:Mut (H a))(hs:Heap.SameBut a s.heap h')(he:∃ q,h'.get? a=some q)(new:zbc X.prog X.w (upd H a ob) h' a ob) :
  Inv X pins σ (upd H a ob) { s with heap:=h',toks:=t' } :=
 I.write (x:=a) (e:=a) mu (.inl rfl) (fun b q hb z=>(hs.2 b hb).trans z) he new
theorem zlJ{P:Program}{w:World}{H':Hp}{h':Heap}{kvs:List (Key×V)}{vs:List (Key×Value)}(z:kvs.length<=sizeLine)(hd:(a==sysModules)=false)(rel:KV kvs vs)(dd:h'.DictOf (zaE P w) a vs) :
  zbc P w H' h' a (.dK kvs):=⟨z,hd,vs,rel,dd⟩
theorem zgs{H':Hp}{Q:Unit->Shared->Prop}(hu:A.units+1<cLine)(I:Inv X pins σ H s)(g:zoR H a y v H')(ry:RelV y u)(rv:RelV v r)(h:∀ s',Inv X pins σ H' s'->Q () s') :
  wpAny (model X.prog X.w) A (setItem (.ref a) u r) Q E s:=by
 rcases g with⟨kvs,k,e,ey,l,eH⟩|⟨kvs,k,b,e,ey,eb,l,eH⟩
 ·subst ey eH
  obtain⟨z,hd,vs,rel,dd⟩:=zoj I.hok e
  have hz:vs.length<=sizeLine:=by rw [<- rel.length];exact z
  have hl:(putK kvs k v).length<=sizeLine:=by have:=zcA kvs k v;omega
  refine wpAny_setItem_pairs (hsz:=hz) (zg0 ry) dd fun h' dd' hs=>h _ ?_
  have he:∃ q,h'.get? a=some q:=let⟨q,_,_,hq,_⟩:=dd';⟨q,hq⟩
  exact zcf I (by rw [e];exact True.intro) hs he (zlJ hl hd (rel.put k rv) dd')
 ·subst ey eH
  cases (show u=Value.ref b from ry)
  obtain⟨z,hd,xs,rel,dd⟩:=zp8 I.hok e
  have hz:xs.length<=sizeLine:=by rw [<- Paired.length rel];exact z
  have hl:(putK kvs k v).length<=sizeLine:=by have:=zcA kvs k v;omega
  refine wpAny_setItem_heap (hsz:=hz) (tupleKind_room_in1 hu) (zb7 I.hok eb) dd fun h' dd' hs=>h _ ?_
  obtain⟨q,es,ep,hq,h2,h3,h4,_,h5⟩:=dd'
  refine zcf I (by rw [e];exact True.intro) hs ⟨q,hq⟩ ⟨hl,hd,_,(rel.put k eb rv).keeps fun c ys ec=>?_,q,es,ep,hq,h2,h3,h4,h5⟩
  exact ec.upd (fun _ z=>zfv z e (fun z=>nomatch z)) fun _ _ z=>zfv z e (fun z=>nomatch z)
end
section
variable {X:Cx}{pins:List (Addr×Obj)}{σ:St}{H:Hp}{s:Shared}{a:Addr}{kvs:List (Key×V)}{k:Key}{u:Value}{A:Around}{E:Value->Shared->Prop}
theorem zom{Q:Unit->Shared->Prop}(I:Inv X pins σ H s)(e:H a=some (.dK kvs))(ry:RelV (kV k) u)(l:(zgQ kvs k).isSome=true)(h:∀ s',Inv X pins σ (upd H a (.dK (zbt kvs k))) s'->Q () s') :
  wpAny (model X.prog X.w) A (delItem (.ref a) u) Q E s:=by
 obtain⟨z,hd,vs,rel,dd⟩:=zoj I.hok e
 refine wpAny_delItem_slot dd.typeIs (by decide) PySem.F.slot_dict_delitem
  (call_meetsIn PySem.F.slot_dict_delitem dd.typeIs PySem.F.entry_dict_delitem (PySem.F.args_dict_delitem_2 _ _) (meets_dict_delitem_pairs (zaE X.prog X.w) a (zg0 ry)) ⟨vs,dd,by rw [<- rel.length];exact z,by rw [<- (rel.val k).zeg];exact l,fun h' dd' hs=>h _ ?_⟩)
 have he:∃ q,h'.get? a=some q:=let⟨q,_,_,hq,_⟩:=dd';⟨q,hq⟩
 exact zcf I (by rw [e];exact True.intro) hs he (zlJ (Nat.le_trans (zfM kvs k) z) hd (rel.drop k) dd')
theorem zwA{v:V}{more:List Value}{Q:Value->Shared->Prop}(I:Inv X pins σ H s)(e:H a=some (.dK kvs))(ry:RelV (kV k) u)(l:zgQ kvs k=some v)(hm:more=[]\/∃ x,more=[x])
  (h:∀ w' s',Inv X pins σ (upd H a (.dK (zbt kvs k))) s'->RelV v w'->Q w' s'):wpAny (model X.prog X.w) A (call (.builtin "dict.pop") (.ref a::u::more)) Q E s:=by
 obtain⟨z,hd,vs,rel,dd⟩:=zoj I.hok e
 obtain⟨w',hw,rw'⟩:=zkS.some_of (v:=v) (o:=valueAt vs k) (by rw [<- l];exact rel.val k)
 have hp:(keyPart u).isSome=true:=by
  cases k with
  | inl i=>obtain⟨t,q⟩:=(show ∃ t,u=Value.int i t from ry);subst q;rfl
  | inr x=>obtain⟨t,q⟩:=(show ∃ t,u=Value.str x t from ry);subst q;rfl
 have ha:argsOk "dict.pop" ⟨.ref a::u::more,[]⟩:=by
  rcases hm with q|⟨x,q⟩
  ·subst q;exact PySem.F.args_dict_pop_2 _ _
  ·subst q;exact PySem.F.args_dict_pop_3 _ _ _
 refine call_meetsIn PySem.F.slot_dict_pop dd.typeIs PySem.F.entry_dict_pop ha (meets_dict_pop_there (zaE X.prog X.w) a (zg0 ry) more hm hp)
  ⟨vs,w',dd,by rw [<- rel.length];exact z,hw,fun h' dd' hs=>h w' _ ?_ rw'⟩
 have he:∃ q,h'.get? a=some q:=let⟨q,_,_,hq,_⟩:=dd';⟨q,hq⟩
 exact zcf I (by rw [e];exact True.intro) hs he (zlJ (Nat.le_trans (zfM kvs k) z) hd (rel.drop k) dd')
end
theorem zkK{X:Cx}{pins:List (Addr×Obj)}{σ:St}{H:Hp}{s:Shared}{a:Addr}{y:V}{o:Option V}(I:Inv X pins σ H s)(g:zvd H a y o):s.TypeIs (.ref a) "dict":=by
 rcases g with⟨kvs,k,e,_,_⟩|⟨kvs,k,b,e,_,_,_⟩
 ·obtain⟨_,_,vs,_,dd⟩:=zjz I.hok e
  exact dd.typeIs
 ·obtain⟨_,_,xs,_,dd⟩:=zjw I.hok e
  exact dd.typeIs
theorem zqa{P:Program}{w:World}{H:Hp}(h:Heap)(hb:sysModules<h.objs.size):zbc P w H (h.push { cls:=.type "dict",data:=.dict #[] }) h.objs.size (.dK []) :=
 ⟨Nat.zero_le _,beq_eq_false_iff_ne.mpr (Ne.symm (Nat.ne_of_lt hb)),[],.nil,Heap.DictOf.new h⟩
theorem zp9{P:Program}{w:World}{H:Hp}(h:Heap)(hb:sysModules<h.objs.size):zbc P w H (h.push { cls:=.type "dict",data:=.dict #[] }) h.objs.size (.dT []) :=
 ⟨Nat.zero_le _,beq_eq_false_iff_ne.mpr (Ne.symm (Nat.ne_of_lt hb)),[],.nil,_,#[],0,Heap.get?_push_size _ rfl,⟨rfl,rfl,rfl⟩,rfl,rfl,List.nodup_nil⟩
noncomputable def ztb:TE:=fun _ H Q=>∀ p,H p=none->Q (.ref p) (upd H p (.dT []))
section
variable {X:Cx}{pos:Pos}
theorem zpF:PE X (.Dict [] [] pos) ztb:=fun pins s σ H Q I h =>
 wpAny_Dict_empty ⟨.ref s.heap.objs.size,_,I.laid (a:=s.heap.objs.size) (o:=.dT []) (t':=s.toks) (fun _ _ q=>Heap.get?_push_of_some _ q) (Nat.le_refl _) (zp9 s.heap I.big),rfl,h _ (I.hok.fresh (Nat.le_refl _))⟩
end
structure M1(X:Cx)(o:Expr)(m:Str)(apos:Pos)(e:Expr)(cpos:Pos):Prop where
 base:attributeBase o m X.env (eval o X.env)=eval o X.env
 few:((backTo cpos (starEach [e] X.env)).all (fun x=>!x.1)&&(backToKw cpos (keywordEach [] X.env)).all (fun x=>x.1.isSome)
  && decide (([e]:List Expr).length+([]:List Keyword).length+(if([]:List Keyword).isEmpty then 0 else 1)<30))=true
 line:(apos.endLine==cpos.line)=true
 trees:backTo cpos (starEach [e] X.env)=[(false,eval e X.env)]
structure M2(X:Cx)(o:Expr)(m:Str)(apos:Pos)(e f:Expr)(cpos:Pos):Prop where
 base:attributeBase o m X.env (eval o X.env)=eval o X.env
 few:((backTo cpos (starEach [e,f] X.env)).all (fun x=>!x.1)&&(backToKw cpos (keywordEach [] X.env)).all (fun x=>x.1.isSome)
  && decide (([e,f]:List Expr).length+([]:List Keyword).length+(if([]:List Keyword).isEmpty then 0 else 1)<30))=true
 line:(apos.endLine==cpos.line)=true
 trees:backTo cpos (starEach [e,f] X.env)=[(false,eval e X.env),(false,eval f X.env)]
def IsD(H:Hp)(a:Addr):Prop:=(∃ kvs,Rd H a (.dK kvs))\/∃ kvs,Rd H a (.dT kvs)
theorem zqJ{X:Cx}{pins:List (Addr×Obj)}{σ:St}{H:Hp}{s:Shared}{a:Addr}(I:Inv X pins σ H s)(d:IsD H a) :
  s.TypeIs (.ref a) "dict"/\(∀ b,Value.ref a=.ref b->∃ ob,s.heap.get? b=some ob/\ob.dict=none)/\(a==sysModules)=false:=by
 rcases d with⟨kvs,e⟩|⟨kvs,e⟩
 ·obtain⟨_,hd,vs,_,dd⟩:=zjz I.hok e
  refine⟨dd.typeIs,fun b q=>?_,hd⟩
  cases q
  obtain⟨ob,_,_,h1,h2,_⟩:=dd
  exact⟨ob,h1,h2.2.1⟩
 ·obtain⟨_,hd,xs,_,dd⟩:=zjw I.hok e
  refine⟨dd.typeIs,fun b q=>?_,hd⟩
  cases q
  obtain⟨ob,_,_,h1,h2,_⟩:=dd
  exact⟨ob,h1,h2.2.1⟩
section
variable {X:Cx}{pins:List (Addr×Obj)}{σ:St}{H:Hp}{s:Shared}{a:Addr}{y d:V}{u r:Value}{o:Option V}{A:Around}{E:Value->Shared->Prop}
theorem zuZ{Q:Value->Shared->Prop}(hu:A.units+1<cLine)(I:Inv X pins σ H s)(g:zvd H a y o)(ry:RelV y u)(rd:RelV d r)(h:∀ w' s',Inv X pins σ H s'->RelV (o.getD d) w'->Q w' s') :
  wpAny (model X.prog X.w) A (call (.builtin "dict.get") [.ref a,u,r]) Q E s:=by
 rcases g with⟨kvs,k,e,ey,l⟩|⟨kvs,k,b,e,ey,eb,l⟩
 ·subst ey
  obtain⟨z,hd,vs,rel,dd⟩:=zjz I.hok e
  refine call_meetsIn PySem.F.slot_dict_get dd.typeIs PySem.F.entry_dict_get (PySem.F.args_dict_get_3 _ _ _) (meets_dict_get_default (zaE X.prog X.w) a (zg0 ry) hd r) ⟨_,dd.mapOf,h _ _ (I.tok _) ?_⟩
  rw [l]
  exact(rel.val k).getD rd
 ·subst ey
  cases (show u=Value.ref b from ry)
  obtain⟨z,hd,xs,rel,dd⟩:=zjw I.hok e
  refine call_meetsIn PySem.F.slot_dict_get dd.typeIs PySem.F.entry_dict_get (PySem.F.args_dict_get_3 _ _ _) (meetsH_dict_get_default (tupleKind (zaE X.prog X.w)) a b hd r) ⟨tupleKind_room_in1 hu,k,xs,zb7 I.hok eb,dd,h _ _ (I.tok _) ?_⟩
  rw [l]
  exact(rel.val k).getD rd
end
end
section
section
variable {κ:Type}[DecidableEq κ]
theorem zjx{p:κ×V}{r:List (κ×V)}{k:κ}(e:p.1=k):zbt (p::r) k=zbt r k:=by
 unfold zbt
 rw [List.filter_cons,if_neg (by simp [e])]
theorem zjy{p:κ×V}{r:List (κ×V)}{k:κ}(e:¬ p.1=k):zbt (p::r) k=p::zbt r k:=by
 unfold zbt
 rw [List.filter_cons,if_pos (by simp [e])]
end
end
section
section
variable {prog:Program}{w:World}{A:Around}{R:Result->Shared->Prop}{s:Shared}
theorem zjA{kx vx target iter:Expr}{ifs:List Expr}{scope:Scope}{pos:Pos}{it:Value}{D:Addr}{env:Env}(I:Nat->Shared->Prop)
  (turn:∀ n s,I n s->wpAny (model prog w) A (pyNext it) (fun r s₁=>match r with
   | none=>R (.ok .next) s₁
   | some v=>wpAny (model prog w) A (letOwnedTupleGo target it v) (fun _ s₀=>wpAny (model prog w) A (assign target env v) (fun _ s₂ =>
     wpAny (model prog w) A (forIn ifs true fun c r=>if r=true then do let ok <- isTrue c env (eval c env);pure (ForInStep.yield ok) else pure (ForInStep.yield r)) (fun ok s₃ =>
      if ok=true then wpAny (model prog w) A (eval kx env) (fun kv s₄=>wpAny (model prog w) A (eval vx env) (fun vv s₅ =>
       wpAny (model prog w) A (dictSet D kv vv) (fun _ s₆=>∃ m,m<n/\I m s₆) (notedBy (model prog w) A env fun e s'=>R (.error e) s') s₅) (notedBy (model prog w) A env fun e s'=>R (.error e) s') s₄) (notedBy (model prog w) A env fun e s'=>R (.error e) s') s₃
      else ∃ m,m<n/\I m s₃) (notedBy (model prog w) A env fun e s'=>R (.error e) s') s₂) (notedBy (model prog w) A env fun e s'=>R (.error e) s') s₀) (notedBy (model prog w) A env fun e s'=>R (.error e) s') s₁) (notedBy (model prog w) A env fun e s'=>R (.error e) s') s)
  (n:Nat)(h:I n s):codeAny (model prog w) A (.compLoop (.DictComp kx vx [⟨target,iter,ifs,0⟩] scope pos) 0 it (.ref D) env) R s:=by
 refine codeAny_loop rfl I (fun n s hI=>?_) n h
 show wpAny _ A ((compTurn (.DictComp kx vx [⟨target,iter,ifs,0⟩] scope pos) 0 it (.ref D) env).onRaise (fun x=>do noteFrame x env;theTreesLotGoes x)) _ _ s
 refine wpAny_noted ?_
 rw [compTurn_dict]
 refine wpAny_bind (wpAny_standAt (wpAny_bind (wpAny_mono (turn n s hI) (fun r s₁ h₁=>?_) fun _ _ h'=>h')))
 cases r with
 | none=>exact wpAny_pure h₁
 | some v =>
  refine wpAny_bind (wpAny_mono h₁ (fun _ s₀ h₀=>?_) fun _ _ h'=>h')
  refine wpAny_bind (wpAny_mono h₀ (fun _ s₂ h₂=>wpAny_bind (wpAny_mono h₂ (fun ok s₃ h₃=>?_) fun _ _ h'=>h')) fun _ _ h'=>h')
  cases ok with
  | false=>exact wpAny_pure ⟨rfl,h₃⟩
  | true =>
   exact wpAny_bind (wpAny_bind (wpAny_mono h₃ (fun kv s₄ h₄=>wpAny_bind (wpAny_holding (wpAny_mono h₄ (fun vv s₅ h₅=>wpAny_bind (wpAny_standAt (wpAny_holding (wpAny_mono h₅ (fun _ s₆ h₆=>wpAny_pure ⟨rfl,h₆⟩) fun _ _ h'=>h')))) fun _ _ h'=>h'))) fun _ _ h'=>h'))
end
section
variable {X:Cx}{pins:List (Addr×Obj)}{σ:St}{H:Hp}{s:Shared}{a:Addr}{kvs:List (Key×V)}{k:Key}{v:V}{u r:Value}{A:Around}{E:Value->Shared->Prop}
theorem zwz{Q:Unit->Shared->Prop}(I:Inv X pins σ H s)(e:H a=some (.dK kvs))(l:kvs.length<sizeLine)(ry:RelV (kV k) u)(rv:RelV v r)(h:∀ s',Inv X pins σ (upd H a (.dK (putK kvs k v))) s'->Q () s') :
  wpAny (model X.prog X.w) A (dictSet a u r) Q E s:=by
 obtain⟨z,hd,vs,rel,dd⟩:=zoj I.hok e
 have hz:vs.length<=sizeLine:=by rw [<- rel.length];exact z
 have hl:(putK kvs k v).length<=sizeLine:=by have:=zcA kvs k v;omega
 refine wpAny_dictSet_pairs (hsz:=hz) (zg0 ry) dd fun h' dd' hs=>h _ ?_
 have he:∃ q,h'.get? a=some q:=let⟨q,_,_,hq,_⟩:=dd';⟨q,hq⟩
 exact zcf I (by rw [e];exact True.intro) hs he (zlJ hl hd (rel.put k rv) dd')
end
end
section
end
section
end
section
section
variable {prog:Program}{w:World}{A:Around}{E:Value->Shared->Prop}{s:Shared}{K:Type}[DecidableEq K]{knd:PySem.KeyKind prog w K}
theorem zjC{d:Addr}{kvs:List (K×Value)}{ep:Nat}{Q:List Value->Shared->Prop}(hh:A.handled=none)(sy:(d==sysModules)=false)(hm:s.heap.DictAt knd d kvs ep)(hn:kvs.length<=10000)
  (hQ:∀ s' (acc:Array Value),(∀ b o,s.heap.get? b=some o->s'.heap.get? b=some o)->s'.gens=s.gens->s'.drawn=s.drawn->s'.os=s.os->s.heap.objs.size<=s'.heap.objs.size->ItemsOf (fun i v=>∃ k x,kvs[i]?=some (k,x)/\knd.is k v=true) acc kvs.length->Q acc.toList s') :
  wpAny (model prog w) A (collect (.ref d)) Q E s:=by
 unfold collect
 refine wpAny_bind (wpAny_runValue (codeAny_builtin F.entry_proto_collect ?_))
 rw [Around.under_plainId F.plain_proto_collect _]
 show wpAny _ A.in1 (newList [] >>= fun l=>again (.builtin "list.__iadd__" ⟨[l,.ref d],[]⟩)) _ _ s
 refine wpAny_bind (wpAny_newObj_type ?_)
 refine wpAny_pure ⟨plainId_quiet F.plain_list_iadd _,codeAny_builtin F.entry_list_iadd ?_⟩
 rw [Around.under_plainId F.plain_list_iadd _]
 have dl:=hm.lt_size
 have hm1:=hm.push { cls:=.type "list",data:=.seq ([]:List Value).toArray }
 have hSd:s.heap.objs.size≠d:=Nat.ne_of_gt dl
 have h1:Builtin.List.listSameRef (.ref s.heap.objs.size) (.ref d)=false:=by simp [Builtin.List.listSameRef,hSd]
 show wpAny _ A.in1 (Builtin.List.listExtendWith (.ref s.heap.objs.size) (.ref d) (.ref s.heap.objs.size)) _ _ _
 unfold Builtin.List.listExtendWith
 refine wpAny_bind (wpAny_typeOf (s:={ s with heap:=s.heap.push { cls:=.type "list",data:=.seq ([]:List Value).toArray } }) hm1.dictOf.typeIs ?_)
 rw [if_neg (by rw [h1];decide)]
 refine wpAny_bind (wpAny_pyIter_dict (s:={ s with heap:=s.heap.push { cls:=.type "list",data:=.seq ([]:List Value).toArray } }) sy hm1 ?_)
 refine wpAny_bind (wpAny_holding ?_)
 have I2:s.heap.objs.size+1=(s.heap.push { cls:=.type "list",data:=.seq ([]:List Value).toArray }).objs.size:=(Heap.size_push ..).symm
 have hm2:=hm1.push { cls:=.type "dict_keyiterator",data:=.fields #[.ref d,.int 0 0,.int kvs.length 0,.int ep 0] }
 unfold Builtin.List.listLengthHint
 refine wpAny_bind (wpAny_specialOf hm2.dictOf.typeIs F.slot_dict_len.lookup ?_)
 generalize hid:("dict.__len__":String)=id0
 wp_delta
 rw [show splitId id0=some ("dict","__len__") from by subst hid;decide +kernel]
 subst hid
 refine wpAny_bind (wpAny_isInstance (b:=true) hm2.dictOf.typeIs (by rw [isSubtype_type];kernel_rfl) ?_)
 rw [if_neg (by decide)]
 dsimp only
 rw [if_pos (by decide +kernel)]
 refine wpAny_bind (wpAny_typeOf hm2.dictOf.typeIs ?_)
 refine wpAny_pure ?_
 rw [if_pos (by decide +kernel)]
 refine wpAny_bind (wpAny_rule ?_)
 unfold Builtin.List.listTouch
 have hS0:((s.heap.push { cls:=.type "list",data:=.seq ([]:List Value).toArray }).push { cls:=.type "dict_keyiterator",data:=.fields #[.ref d,.int 0 0,.int kvs.length 0,.int ep 0] }).get? s.heap.objs.size=some (seqObj "list" #[] 0):=Heap.get?_push_of_some _ (Heap.get?_push_size _ rfl)
 refine wpAny_bind (wpAny_bind (listUpdate_at hS0 rfl ?_ (Nat.zero_le _) (by show 1<=sizeLine+1;omega)))
 have hS1:=get?_update_seq hS0 (·.push .none)
 refine listUpdate_at hS1 rfl ?_ (by show 1<=sizeLine;rw [sizeLine_eq];decide) (by show 0<=sizeLine+1;omega)
 have hS2:=get?_update_seq hS1 (·.pop)
 have up:∀ b o,b≠s.heap.objs.size->((s.heap.push { cls:=.type "list",data:=.seq ([]:List Value).toArray }).push { cls:=.type "dict_keyiterator",data:=.fields #[.ref d,.int 0 0,.int kvs.length 0,.int ep 0] }).get? b=some o ->
   ((((s.heap.push { cls:=.type "list",data:=.seq ([]:List Value).toArray }).push { cls:=.type "dict_keyiterator",data:=.fields #[.ref d,.int 0 0,.int kvs.length 0,.int ep 0] }).update s.heap.objs.size (Obj.mapSeq fun x=>x.push Value.none)).update s.heap.objs.size (Obj.mapSeq fun x=>x.pop)).get? b=some o:=fun b o hb e =>
  (((Heap.SameBut.update ..).2 b hb).trans ((Heap.SameBut.update ..).2 b hb)).trans e
 have hI:((s.heap.push { cls:=.type "list",data:=.seq ([]:List Value).toArray }).push { cls:=.type "dict_keyiterator",data:=.fields #[.ref d,.int 0 0,.int kvs.length 0,.int ep 0] }).get? (s.heap.push { cls:=.type "list",data:=.seq ([]:List Value).toArray }).objs.size=some { cls:=.type "dict_keyiterator",data:=.fields #[.ref d,.int 0 0,.int kvs.length 0,.int ep 0] }:=Heap.get?_push_size _ rfl
 have neI:(s.heap.push { cls:=.type "list",data:=.seq ([]:List Value).toArray }).objs.size≠s.heap.objs.size:=by rw [<- I2];omega
 have old:∀ b o,s.heap.get? b=some o->((s.heap.push { cls:=.type "list",data:=.seq ([]:List Value).toArray }).push { cls:=.type "dict_keyiterator",data:=.fields #[.ref d,.int 0 0,.int kvs.length 0,.int ep 0] }).get? b=some o:=fun b o e=>Heap.get?_push_of_some _ (Heap.get?_push_of_some _ e)
 generalize ((((s.heap.push { cls:=.type "list",data:=.seq ([]:List Value).toArray }).push { cls:=.type "dict_keyiterator",data:=.fields #[.ref d,.int 0 0,.int kvs.length 0,.int ep 0] }).update s.heap.objs.size (Obj.mapSeq fun x=>x.push Value.none)).update s.heap.objs.size (Obj.mapSeq fun x=>x.pop))=h5 at hS2 up ⊢
 have st:h5.IsKeyIter (s.heap.push { cls:=.type "list",data:=.seq ([]:List Value).toArray }).objs.size d 0 kvs.length ep:=⟨_,up _ _ neI hI,rfl,rfl⟩
 have da:h5.DictAt knd d kvs ep:=hm2.at' fun o e=>up d o (Ne.symm hSd) e
 generalize hIa:(s.heap.push { cls:=.type "list",data:=.seq ([]:List Value).toArray }).objs.size=Ia at st neI hI ⊢
 have ia:Ia=s.heap.objs.size+1:=by rw [<- hIa];exact I2.symm
 have ne:d≠Ia:=by rw [ia];exact Nat.ne_of_lt (Nat.lt_succ_of_lt dl)
 have nS:s.heap.objs.size∉[Ia,d]:=fun h=>by
  rcases List.mem_cons.mp h with c|c
  ·exact neI c.symm
  ·exact hSd (List.mem_singleton.mp c)
 have W:=(Walks.dictKeys (knd:=knd) (A:=A.in1) hh Ia d ne kvs ep).toS
 refine wpAny_pure ⟨plainId_quiet F.plain_extend_loop _,codeAny_extend_loopS W (by rw [sizeLine_eq];omega) s.heap.objs.size nS _ kvs.length 0 _ _ _ rfl (Nat.zero_le _) ⟨st,da⟩ hS2 (ItemsOf.nil _) fun s' acc' c' mv hS' hacc=>?_⟩
 show wpAny _ A (load s.heap.objs.size >>= _) _ _ s'
 refine wpAny_bind (wpAny_load hS' ?_)
 refine wpAny_pure (hQ s' acc' (fun b o e=>?_) mv.gens mv.drawn mv.os (Nat.le_of_lt (Heap.lt_size hS')) hacc)
 have lt:=Heap.lt_size e
 have b1:b≠s.heap.objs.size:=Nat.ne_of_lt lt
 have b2:b≠Ia:=by rw [ia];exact Nat.ne_of_lt (Nat.lt_succ_of_lt lt)
 refine mv.heap b o (fun h=>?_) (up b o b1 (old b o e))
 rcases List.mem_cons.mp h with c|c
 ·exact b1 c
 ·exact b2 (List.mem_singleton.mp c)
end
end
section
theorem zj8:∀{xs:List V} {us:List Value},xs.length=us.length->(∀(j:Nat) x u,xs[j]?=some x->us[j]?=some u->RelV x u)->Vals xs us
 | [],[],_,_=>.nil
 | x::xs,u::us,l,h=>.cons (h 0 x u rfl rfl) (zj8 (by simpa using l) fun j y v e1 e2=>h (j+1) y v (by simpa using e1) (by simpa using e2))
end
end L2
namespace Q1
section
noncomputable def fr(t b:Int):Int×Int:=if b<0 then(t / -(Int.gcd t b:Int),b / -(Int.gcd t b:Int)) else(t / (Int.gcd t b:Int),b / (Int.gcd t b:Int))
structure Low(p q:Int):Prop where
 pos:0<q
 cop:Int.gcd p q=1
theorem zgk{t b:Int}(h:b≠0):0<(Int.gcd t b:Int):=by
 have:0<Int.gcd t b:=Int.gcd_pos_of_ne_zero_right _ h
 omega
theorem zwx{t b:Int}:((Int.gcd t b:Nat):Int)∣t:=Int.gcd_dvd_left ..
theorem zsF{t b:Int}:((Int.gcd t b:Nat):Int)∣b:=Int.gcd_dvd_right ..
theorem zgu{t b:Int}(h:b≠0):Int.gcd (t / (Int.gcd t b:Int)) (b / (Int.gcd t b:Int))=1:=by
 have hp:0<Int.gcd t b:=Int.gcd_pos_of_ne_zero_right _ h
 exact Int.gcd_ediv_gcd_ediv_gcd hp
theorem zuL{t b:Int}(h:b≠0):Low (fr t b).1 (fr t b).2:=by
 have hg:=zgk (t:=t) h
 have c:=zgu (t:=t) h
 unfold fr
 split
 ·rename_i hb
  refine⟨?_,?_⟩
  ·show 0<b / -(Int.gcd t b:Int)
   rw [Int.ediv_neg]
   have:=Int.ediv_mul_cancel (zsF (t:=t) (b:=b))
   have h1:b / (Int.gcd t b:Int)<0:=by
    rcases Int.lt_trichotomy (b / (Int.gcd t b:Int)) 0 with z|z|z
    ·exact z
    ·rw [z] at this;omega
    ·have:=Int.mul_pos z hg;omega
   omega
  ·show Int.gcd (t / -(Int.gcd t b:Int)) (b / -(Int.gcd t b:Int))=1
   rw [Int.ediv_neg,Int.ediv_neg,Int.gcd_neg,Int.neg_gcd]
   exact c
 ·rename_i hb
  refine⟨?_,c⟩
  show 0<b / (Int.gcd t b:Int)
  have:=Int.ediv_mul_cancel (zsF (t:=t) (b:=b))
  rcases Int.lt_trichotomy (b / (Int.gcd t b:Int)) 0 with z|z|z
  ·have:=Int.mul_neg_of_neg_of_pos z hg;omega
  ·rw [z] at this;omega
  ·exact z
theorem zwt{t b:Int}(h:b≠0):(fr t b).1*b=t*(fr t b).2:=by
 have e1:=Int.ediv_mul_cancel (zwx (t:=t) (b:=b))
 have e2:=Int.ediv_mul_cancel (zsF (t:=t) (b:=b))
 have key:t / (Int.gcd t b:Int)*b=t*(b / (Int.gcd t b:Int)):=by
  calc t / (Int.gcd t b:Int)*b=t / (Int.gcd t b:Int)*(b / (Int.gcd t b:Int)*(Int.gcd t b:Int)):=by rw [e2]
   _=t / (Int.gcd t b:Int)*(Int.gcd t b:Int)*(b / (Int.gcd t b:Int)):=by rw [Int.mul_assoc,Int.mul_comm (b / _)]
   _=t*(b / (Int.gcd t b:Int)):=by rw [e1]
 unfold fr
 split
 ·show t / -(Int.gcd t b:Int)*b=t*(b / -(Int.gcd t b:Int))
  rw [Int.ediv_neg,Int.ediv_neg,Int.neg_mul,Int.mul_neg,key]
 ·exact key
theorem zgp{q p r:Int}(h:q∣p*r)(c:Int.gcd p q=1):q∣r:=by
 have h1:q.natAbs∣p.natAbs*r.natAbs:=by
  rw [<- Int.natAbs_mul]
  exact Int.natAbs_dvd_natAbs.mpr h
 have c':Nat.Coprime q.natAbs p.natAbs:=by
  show Nat.gcd q.natAbs p.natAbs=1
  rw [Nat.gcd_comm]
  exact c
 exact Int.natAbs_dvd_natAbs.mp (Nat.Coprime.dvd_of_dvd_mul_left c' h1)
theorem zpQ{p q p' q':Int}(a:Low p q)(b:Low p' q')(h:p*q'=p'*q):p=p'/\q=q':=by
 have d1:q∣q':=by
  have:q∣p*q':=⟨p',by rw [h,Int.mul_comm]⟩
  exact zgp this a.cop
 have d2:q'∣q:=by
  have:q'∣p'*q:=⟨p,by rw [<- h,Int.mul_comm]⟩
  exact zgp this b.cop
 have e:q=q':=Int.dvd_antisymm (Int.le_of_lt a.pos) (Int.le_of_lt b.pos) d1 d2
 refine⟨?_,e⟩
 subst e
 exact Int.eq_of_mul_eq_mul_right (Int.ne_of_gt a.pos) h
theorem zuK{t b p q:Int}(hb:b≠0)(l:Low p q)(h:p*b=t*q):fr t b=(p,q):=by
 have e:=zwt (t:=t) hb
 have l':=zuL (t:=t) hb
 have:(fr t b).1*q=p*(fr t b).2:=by
  have h2:(fr t b).1*q*b=p*(fr t b).2*b:=by
   calc (fr t b).1*q*b=(fr t b).1*b*q:=by rw [Int.mul_assoc,Int.mul_comm q,Int.mul_assoc]
    _=t*(fr t b).2*q:=by rw [e]
    _=t*q*(fr t b).2:=by rw [Int.mul_assoc,Int.mul_comm (fr t b).2,Int.mul_assoc]
    _=p*b*(fr t b).2:=by rw [h]
    _=p*(fr t b).2*b:=by rw [Int.mul_assoc,Int.mul_comm b,Int.mul_assoc]
  exact Int.eq_of_mul_eq_mul_right hb h2
 obtain⟨a1,a2⟩:=zpQ l' l this
 exact Prod.ext a1 a2
theorem zqO{t b:Int}(h:0<b):fr t b=(t / (Int.gcd t b:Int),b / (Int.gcd t b:Int)):=by
 unfold fr
 rw [if_neg (by omega)]
end
section
theorem Low.ne{p q:Int}(l:Low p q):q≠0:=Int.ne_of_gt l.pos
theorem gcd_one{a b:Int}(h:∀ d:Int,d∣a->d∣b->d∣1):Int.gcd a b=1:=by
 have:=h (Int.gcd a b:Int) (Int.gcd_dvd_left ..) (Int.gcd_dvd_right ..)
 have h2:(Int.gcd a b)∣1:=by
  have:=Int.natAbs_dvd_natAbs.mpr this
  simpa using this
 exact Nat.dvd_one.mp h2
theorem dvd_one{a b d:Int}(h:Int.gcd a b=1)(h1:d∣a)(h2:d∣b):d∣1:=by
 have:=Int.dvd_coe_gcd h1 h2
 rw [h] at this
 exact this
theorem zgl{a b:Int}(h:Int.gcd a b=1):Int.gcd b a=1:=by rw [Int.gcd_comm];exact h
theorem gcd_mul{a b c:Int}(h1:Int.gcd a b=1)(h2:Int.gcd a c=1):Int.gcd a (b*c)=1:=by
 refine gcd_one fun d da db=>?_
 have c1:Int.gcd b d=1:=gcd_one fun e e1 e2=>dvd_one h1 (Int.dvd_trans e2 da) e1
 exact dvd_one h2 da (zgp db c1)
theorem zlB{a b a' b':Int}(h:Int.gcd a b=1)(h1:a'∣a)(h2:b'∣b):Int.gcd a' b'=1 :=
 gcd_one fun d da db=>dvd_one h (Int.dvd_trans da h1) (Int.dvd_trans db h2)
theorem zfL{a b:Int}(h:b∣a):a / b∣a:=by
 obtain⟨c,rfl⟩:=h
 by_cases z:b=0
 ·subst z;simp
 ·rw [Int.mul_ediv_cancel_left _ z];exact⟨b,Int.mul_comm _ _⟩
theorem zch{a b:Int}(h:0<a*b)(hb:0<b):0<a:=by
 rcases Int.lt_trichotomy a 0 with z|z|z
 ·have:=Int.mul_neg_of_neg_of_pos z hb;omega
 ·subst z;simp at h
 ·exact z
noncomputable def zl4(p q r s:Int):Int×Int :=
 let g:=(Int.gcd q s:Int)
 let top:=p*(s / g)+r*(q / g)
 let e:=(Int.gcd top g:Int)
 (top / e,q / g*(s / e))
noncomputable def zk6(p q r s:Int):Int×Int :=
 (p / (Int.gcd p s:Int)*(r / (Int.gcd r q:Int)),q / (Int.gcd r q:Int)*(s / (Int.gcd p s:Int)))
theorem znc{p q r s g m t e top T G:Int}(l1:Low p q)(l2:Low r s)(g0:0<g)(e0:0<e)(hq:q=m*g)(hs:s=t*g)(hmt:Int.gcd m t=1)
  (ht:top=p*t+r*m)(hT:top=T*e)(hG:g=G*e)(hTG:Int.gcd T G=1):Low T (m*(t*G))/\T*(q*s)=(p*s+r*q)*(m*(t*G)):=by
 have hm:0<m:=zch (by rw [<- hq];exact l1.pos) g0
 have htt:0<t:=zch (by rw [<- hs];exact l2.pos) g0
 have hGG:0<G:=zch (by rw [<- hG];exact g0) e0
 refine⟨⟨Int.mul_pos hm (Int.mul_pos htt hGG),?_⟩,?_⟩
 ·have dT:T∣top:=⟨e,hT⟩
  have c1:Int.gcd T m=1:=by
   refine gcd_one fun d da db=>?_
   have h1:d∣p*t:=by
    have h2:d∣p*t+r*m:=by rw [<- ht];exact Int.dvd_trans da dT
    exact(Int.dvd_add_left (Int.dvd_mul_of_dvd_right db)).mp h2
   have h3:Int.gcd p d=1:=zlB l1.cop (Int.dvd_refl _) (by rw [hq];exact Int.dvd_trans db (Int.dvd_mul_right ..))
   exact dvd_one hmt db (zgp h1 h3)
  have c2:Int.gcd T t=1:=by
   refine gcd_one fun d da db=>?_
   have h1:d∣r*m:=by
    have h2:d∣p*t+r*m:=by rw [<- ht];exact Int.dvd_trans da dT
    exact(Int.dvd_add_right (Int.dvd_mul_of_dvd_right db)).mp h2
   have h3:Int.gcd r d=1:=zlB l2.cop (Int.dvd_refl _) (by rw [hs];exact Int.dvd_trans db (Int.dvd_mul_right ..))
   exact dvd_one hmt (zgp h1 h3) db
  exact gcd_mul c1 (gcd_mul c2 hTG)
 ·have k1:p*s+r*q=top*g:=by
   rw [hq,hs,ht,Int.add_mul,Int.mul_assoc,Int.mul_assoc]
  rw [k1,hT,hq,hs]
  rw [show m*g*(t*g)=m*(t*G)*(e*g) by rw [show t*g=t*(G*e) by rw [hG]];ac_rfl]
  ac_rfl
theorem zrW{p q r s:Int}(l1:Low p q)(l2:Low r s):zl4 p q r s=fr (p*s+r*q) (q*s):=by
 have g0:0<(Int.gcd q s:Int):=zgk l2.ne
 have d1:(Int.gcd q s:Int)∣q:=Int.gcd_dvd_left ..
 have d2:(Int.gcd q s:Int)∣s:=Int.gcd_dvd_right ..
 have e0:0<(Int.gcd (p*(s / (Int.gcd q s:Int))+r*(q / (Int.gcd q s:Int))) (Int.gcd q s:Int):Int):=zgk (Int.ne_of_gt g0)
 have d3:=Int.gcd_dvd_left (a:=p*(s / (Int.gcd q s:Int))+r*(q / (Int.gcd q s:Int))) (b:=(Int.gcd q s:Int))
 have d4:=Int.gcd_dvd_right (a:=p*(s / (Int.gcd q s:Int))+r*(q / (Int.gcd q s:Int))) (b:=(Int.gcd q s:Int))
 have core:=znc l1 l2 g0 e0 (Int.ediv_mul_cancel d1).symm (Int.ediv_mul_cancel d2).symm (zgu l2.ne) rfl (Int.ediv_mul_cancel d3).symm (Int.ediv_mul_cancel d4).symm (zgu (Int.ne_of_gt g0))
 have e:zl4 p q r s=(_,_):=rfl
 have hs:s / (Int.gcd (p*(s / (Int.gcd q s:Int))+r*(q / (Int.gcd q s:Int))) (Int.gcd q s:Int):Int)=s / (Int.gcd q s:Int)*((Int.gcd q s:Int) / (Int.gcd (p*(s / (Int.gcd q s:Int))+r*(q / (Int.gcd q s:Int))) (Int.gcd q s:Int):Int)):=by
  refine Int.ediv_eq_of_eq_mul_left (Int.ne_of_gt e0) ?_
  rw [Int.mul_assoc,Int.ediv_mul_cancel d4,Int.ediv_mul_cancel d2]
 symm
 refine zuK (Int.ne_of_gt (Int.mul_pos l1.pos l2.pos)) (p:=(zl4 p q r s).1) (q:=(zl4 p q r s).2) ?_ ?_
 ·have:(zl4 p q r s).2=_:=rfl
  rw [this]
  show Low _ (q / (Int.gcd q s:Int)*(s / _))
  rw [hs]
  exact core.1
 ·show _*(q*s)=_*(q / (Int.gcd q s:Int)*(s / _))
  rw [hs]
  exact core.2
theorem zo7{p q r s:Int}(l1:Low p q)(l2:Low r s):zk6 p q r s=fr (p*r) (q*s):=by
 have m0:0<(Int.gcd p s:Int):=zgk l2.ne
 have i0:0<(Int.gcd r q:Int):=zgk l1.ne
 have a1:(Int.gcd p s:Int)∣p:=Int.gcd_dvd_left ..
 have a2:(Int.gcd p s:Int)∣s:=Int.gcd_dvd_right ..
 have b1:(Int.gcd r q:Int)∣r:=Int.gcd_dvd_left ..
 have b2:(Int.gcd r q:Int)∣q:=Int.gcd_dvd_right ..
 symm
 refine zuK (Int.ne_of_gt (Int.mul_pos l1.pos l2.pos)) (p:=(zk6 p q r s).1) (q:=(zk6 p q r s).2) ⟨?_,?_⟩ ?_
 ·refine Int.mul_pos ?_ ?_
  ·exact zch (by rw [Int.ediv_mul_cancel b2];exact l1.pos) i0
  ·exact zch (by rw [Int.ediv_mul_cancel a2];exact l2.pos) m0
 ·show Int.gcd (p / _*(r / _)) (q / _*(s / _))=1
  have x1:Int.gcd (p / (Int.gcd p s:Int)) (q / (Int.gcd r q:Int))=1:=zlB l1.cop (zfL a1) (zfL b2)
  have x2:Int.gcd (p / (Int.gcd p s:Int)) (s / (Int.gcd p s:Int))=1:=zgu l2.ne
  have x3:Int.gcd (r / (Int.gcd r q:Int)) (q / (Int.gcd r q:Int))=1:=zgu l1.ne
  have x4:Int.gcd (r / (Int.gcd r q:Int)) (s / (Int.gcd p s:Int))=1:=zlB l2.cop (zfL b1) (zfL a2)
  exact zgl (gcd_mul (zgl (gcd_mul x1 x2)) (zgl (gcd_mul x3 x4)))
 ·show p / (Int.gcd p s:Int)*(r / (Int.gcd r q:Int))*(q*s)=p*r*(q / (Int.gcd r q:Int)*(s / (Int.gcd p s:Int)))
  have y1:=Int.ediv_mul_cancel a1
  have y2:=Int.ediv_mul_cancel a2
  have y3:=Int.ediv_mul_cancel b1
  have y4:=Int.ediv_mul_cancel b2
  generalize (Int.gcd p s:Int)=m at *
  generalize (Int.gcd r q:Int)=i at *
  generalize p / m=P at *
  generalize s / m=S at *
  generalize r / i=R at *
  generalize q / i=Q at *
  rw [<- y1,<- y2,<- y3,<- y4]
  ac_rfl
end
end Q1
namespace QR
open Q1
theorem low(r:Rat):Low r.num r.den:=⟨by have:=r.den_nz;omega,by
 have:=r.reduced
 unfold Nat.Coprime at this
 show Nat.gcd r.num.natAbs (r.den:Int).natAbs=1
 simpa using this⟩
theorem zxN(t:Int)(d:Nat):(Int.gcd t (d:Int))=Nat.gcd t.natAbs d:=by
 show Nat.gcd t.natAbs (d:Int).natAbs=_
 simp
theorem norm{t:Int}{d:Nat}(h:d≠0):fr t (d:Int)=((Rat.normalize t d h).num,((Rat.normalize t d h).den:Int)):=by
 rw [zqO (by omega),Rat.normalize_eq,zxN]
 simp
theorem add(r s:Rat):fr (r.num*s.den+s.num*r.den) ((r.den:Int)*s.den)=((r+s).num,((r+s).den:Int)):=by
 rw [Rat.add_def,<- norm]
 congr 1
theorem mul(r s:Rat):fr (r.num*s.num) ((r.den:Int)*s.den)=((r*s).num,((r*s).den:Int)):=by
 rw [Rat.mul_def,<- norm]
 congr 1
def Bd(n:Nat)(r:Rat):Prop:=r.num.natAbs<2^n/\r.den<2^n
theorem Bd.mono{n m:Nat}{r:Rat}(h:Bd n r)(k:n<=m):Bd m r:=⟨Nat.lt_of_lt_of_le h.1 (Nat.pow_le_pow_right (by decide) k),Nat.lt_of_lt_of_le h.2 (Nat.pow_le_pow_right (by decide) k)⟩
theorem zsB(t b:Int):(fr t b).1.natAbs<=t.natAbs/\(fr t b).2.natAbs<=b.natAbs:=by
 unfold fr
 split
 ·exact⟨Int.natAbs_ediv_le_natAbs _ _,Int.natAbs_ediv_le_natAbs _ _⟩
 ·exact⟨Int.natAbs_ediv_le_natAbs _ _,Int.natAbs_ediv_le_natAbs _ _⟩
theorem zf8{a b n m:Nat}(h1:a<2^n)(h2:b<2^m):a*b<2^(n+m):=by
 rw [Nat.pow_add]
 exact Nat.mul_lt_mul'' h1 h2
theorem Bd.add{n m:Nat}{r s:Rat}(h:Bd n r)(k:Bd m s):Bd (n+m+1) (r+s):=by
 have e:=QR.add r s
 have l:=zsB (r.num*s.den+s.num*r.den) ((r.den:Int)*s.den)
 rw [e] at l
 simp only at l
 have a1:r.num.natAbs*s.den<2^(n+m):=zf8 h.1 k.2
 have a2:s.num.natAbs*r.den<2^(n+m):=by rw [Nat.mul_comm,Nat.mul_comm];rw [Nat.add_comm];exact zf8 k.1 h.2
 have a3:r.den*s.den<2^(n+m):=zf8 h.2 k.2
 have p2:2^(n+m+1)=2^(n+m)+2^(n+m):=by rw [Nat.pow_succ];omega
 refine⟨?_,?_⟩
 ·refine Nat.lt_of_le_of_lt l.1 (Nat.lt_of_le_of_lt (Int.natAbs_add_le _ _) ?_)
  rw [Int.natAbs_mul,Int.natAbs_mul,Int.natAbs_natCast,Int.natAbs_natCast,p2]
  omega
 ·have:=l.2
  rw [Int.natAbs_mul,Int.natAbs_natCast,Int.natAbs_natCast,Int.natAbs_natCast] at this
  rw [p2]
  omega
theorem Bd.mul{n m:Nat}{r s:Rat}(h:Bd n r)(k:Bd m s):Bd (n+m) (r*s):=by
 have e:=QR.mul r s
 have l:=zsB (r.num*s.num) ((r.den:Int)*s.den)
 rw [e] at l
 simp only at l
 refine⟨?_,?_⟩
 ·refine Nat.lt_of_le_of_lt l.1 ?_
  rw [Int.natAbs_mul]
  exact zf8 h.1 k.1
 ·have:=l.2
  rw [Int.natAbs_mul,Int.natAbs_natCast,Int.natAbs_natCast,Int.natAbs_natCast] at this
  exact Nat.lt_of_le_of_lt this (zf8 h.2 k.2)
theorem Bd.zero(n:Nat):Bd (n+1) 0:=by
 refine⟨?_,?_⟩
 ·show(0:Nat)<2^(n+1)
  exact Nat.pos_of_ne_zero (by simp)
 ·show(1:Nat)<2^(n+1)
  exact Nat.one_lt_two_pow (by omega)
noncomputable def part(xs ys:List Rat):Nat->Rat
 | 0=>0
 | i+1=>part xs ys i+xs.getD i 0*ys.getD i 0
end QR
namespace KC
open PySem L2 PySem.Spec PyProof.Rows
section
namespace Bt
theorem isinstance:bootBuiltins "isinstance"=some (.builtin "isinstance"):=by decide +kernel
end Bt
noncomputable def isInt:PyData->Bool
 | .int _ | .bool _=>true|_=>false
noncomputable def zdN(T c:String):Option Bool:=if(Value.type T==Value.type c)=true then some true else if PySem.W.kitMeta c=true then(fastBuiltinMro T).map (·.contains (.type c)) else none
end
section
end
section
end
end KC
namespace FL
theorem zz0 {α:Type} {a:α} {l:List α}:(a::l)[0]?=some a:=rfl
theorem zz1 {α:Type} {a:α} {l:List α} {i:Nat}:(a::l)[i + 1]?=l[i]?:=rfl
open PySem
abbrev D:=PyData
inductive R(α:Type) where
 | bad
 | err(c:String)(fs:List D)
 | ok(a:α)
noncomputable def R.bind{α β:Type}(r:R α)(k:α->R β):R β:=match r with
 | .bad=>.bad
 | .err c f=>.err c f
 | .ok a=>k a
theorem zac{α β:Type}(a:α)(k:α->R β):(R.ok a).bind k=k a:=rfl
theorem zes{α β:Type}(k:α->R β):(R.bad:R α).bind k=.bad:=rfl
theorem zer{α β:Type}(c:String)(f:List D)(k:α->R β):(R.err c f:R α).bind k=.err c f:=rfl
noncomputable def chk{α:Type}(c:Bool)(r:R α):R α:=if c=true then r else .bad
theorem zaz{α:Type}{c:Bool}{r:R α}(h:c=true):chk c r=r:=if_pos h
inductive Sl where
 | no
 | val(d:D)
 | ow(p:Bool)(d:D)
 /-- a thing of an own class,which stays: its class,its fields -/
 | ob (c:String) (ds:List D)
abbrev En:=List Sl
inductive Fl where
 | nx|bk|ct
 | rt(d:D)
 | rf(d:D)
abbrev EF:=En->R (D×En)
abbrev TF:=En->R (Bool×En)
abbrev AF:=En->R (List D×En)
abbrev SF:=En->R (Fl×En)
abbrev GF:=D->En->R En
noncomputable def tyOf:D->String
 | .none=>"NoneType" | .bool _=>"bool" | .int _=>"int" | .str _=>"str" | .list _=>"list" | .tuple _=>"tuple" | .dict _=>"dict"
noncomputable def isI(T:String)(d:D):Bool:=match d with
 | .bool _=>T == "bool" || T == "int"
 | d=>tyOf d==T
noncomputable def lim:Nat:=1000000
noncomputable def intsOf:List D->Option (List Int)
 | []=>some []
 | .int i::r=>(intsOf r).map (i::·)
 | _::_=>none
noncomputable def boolsOf:List D->Option (List Bool)
 | []=>some []
 | .bool i::r=>(boolsOf r).map (i::·)
 | _::_=>none
noncomputable def R.of{α:Type}:Option α->R α
 | none=>.bad
 | some a=>.ok a
noncomputable def leB(a b:Nat):Bool:=Nat.ble a b
theorem leB_iff{a b:Nat}:leB a b=true↔a<=b:=Iff.of_eq Nat.ble_eq
theorem zec{a b:Nat}(h:a<=b):leB a b=true:=leB_iff.mpr h
theorem zii{a b:Nat}(h:leB a b=true):a<=b:=leB_iff.mp h
noncomputable def znu(i j:Int):Bool:=leB (i.natAbs.log2+j.natAbs.log2+2) 134217728
noncomputable def za0:D->D->R D
 | .int i,.int j=>.ok (.int (i+j))
 | .list a,.list b=>chk (leB (a.length+b.length) lim) (.ok (.list (a++b)))
 | .tuple a,.tuple b=>chk (leB (a.length+b.length) lim) (.ok (.tuple (a++b)))
 | _,_=>.bad
noncomputable def zgT:D->D->R D
 | .int i,.int j=>.ok (.int (i-j))
 | _,_=>.bad
noncomputable def zbw:D->D->R D
 | .int i,.int j=>chk (znu i j) (.ok (.int (i*j)))
 | .tuple a,.int k=>chk (!a.isEmpty&&leB 2 k.toNat&&leB k.toNat 1000000&&leB (a.length*k.toNat) lim) (.ok (.tuple (List.replicate k.toNat a).flatten))
 | _,_=>.bad
noncomputable def zaJ:D->D->R D
 | .int i,.int j=>chk (decide (j≠0)) (.ok (.int (i.fdiv j)))
 | _,_=>.bad
noncomputable def zif:D->D->R D
 | .int i,.int j=>chk (decide (j≠0)) (.ok (.int (i.fmod j)))
 | _,_=>.bad
noncomputable def zhi:D->D->R D
 | .int i,.int j=>chk (decide (0<=j)&&leB j.toNat 1000000&&leB i.natAbs 18446744073709551615) (.ok (.int (i^j.toNat)))
 | _,_=>.bad
noncomputable def zwg:D->R D
 | .int i=>.ok (.int (-i))
 | _=>.bad
noncomputable def eqD(a b:D):R D:=chk (SeqAt.shaped a&&SeqAt.shaped b) (.ok (.bool (PyData.eqv a b)))
noncomputable def neD(a b:D):R D:=chk (SeqAt.shaped a&&SeqAt.shaped b) (.ok (.bool (!PyData.eqv a b)))
noncomputable def lexLt:List Int->List Int->Bool
 | [],[]=>false
 | [],_::_=>true
 | _::_,[]=>false
 | x::xs,y::ys=>if x=y then lexLt xs ys else decide (x<y)
noncomputable def zw7(p:Int->Int->Bool)(q:List Int->List Int->Bool):D->D->R D
 | .int i,.int j=>.ok (.bool (p i j))
 | .tuple a,.tuple b=>(R.of (intsOf a)).bind fun x=>(R.of (intsOf b)).bind fun y=>.ok (.bool (q x y))
 | _,_=>.bad
noncomputable def ltD:D->D->R D:=zw7 (fun i j=>decide (i<j)) lexLt
noncomputable def zvn(p:Int->Int->Bool):D->D->R D
 | .int i,.int j=>.ok (.bool (p i j))
 | _,_=>.bad
noncomputable def leD:D->D->R D:=zvn fun i j=>decide (i<=j)
noncomputable def gtD:D->D->R D:=zvn fun i j=>decide (j<i)
noncomputable def geD:D->D->R D:=zvn fun i j=>decide (j<=i)
noncomputable def zxM:D->R D
 | .none=>.ok (.bool true)
 | _=>.ok (.bool false)
noncomputable def isD(a b:D):R D:=match b with
 | .none=>zxM a
 | _=>.bad
noncomputable def ixN(n:Nat)(i:Int):Option Nat:=if 0<=i then(if i<n then some i.toNat else none) else if -(n:Int)<=i then some (i+n).toNat else none
noncomputable def atI{α:Type}(xs:List α)(i:Int):Option α:=(ixN xs.length i).bind fun j=>xs[j]?
noncomputable def ixD:D->D->R D
 | .list a,.int i=>R.of (atI a i)
 | .tuple a,.int i=>R.of (atI a i)
 | _,_=>.bad
noncomputable def sIx(n d:Nat):Option Int->Nat
 | none=>d
 | some v=>if v<0 then(v+(n:Int)).toNat else min v.toNat n
noncomputable def cut{α:Type}(xs:List α)(lo hi:Option Int):List α:=(xs.drop (sIx xs.length 0 lo)).take (sIx xs.length xs.length hi-sIx xs.length 0 lo)
noncomputable def zd1(d:D)(lo hi:Option Int):R D:=match d with
 | .list a=>.ok (.list (cut a lo hi))
 | .tuple a=>.ok (.tuple (cut a lo hi))
 | _=>.bad
noncomputable def zfE:D->R Bool
 | .none=>.ok false
 | .bool b=>.ok b
 | .int i=>.ok (i != 0)
 | .list a=>.ok (!a.isEmpty)
 | .tuple a=>.ok (!a.isEmpty)
 | _=>.bad
noncomputable def zdW:D->R D
 | .list a=>.ok (.int a.length)
 | .tuple a=>.ok (.int a.length)
 | _=>.bad
noncomputable def zoF:D->R D
 | .int i=>.ok (.int (if i<0 then -i else i))
 | _=>.bad
noncomputable def zuk:List Int->Option Int
 | []=>none
 | x::xs=>some (xs.foldl (fun m y=>if y > m then y else m) x)
noncomputable def zvp:D->R D
 | .list a=>(R.of (boolsOf a)).bind fun x=>.ok (.bool (x.all id))
 | _=>.bad
noncomputable def zcz:D->R D
 | .list a=>.ok (.list a)
 | .tuple a=>.ok (.list a)
 | _=>.bad
noncomputable def ze7:D->R D
 | .list a=>.ok (.tuple a)
 | .tuple a=>.ok (.tuple a)
 | _=>.bad
noncomputable def zwN(d:D):Bool:=match d with
 | .dict _=>false
 | _=>true
noncomputable def zbP(T:String)(d:D):R D:=chk (zwN d) (.ok (.bool (isI T d)))
noncomputable def one(g:D->R D):List D->R D
 | [d]=>g d
 | _=>.bad
noncomputable def two(g:D->D->R D):List D->R D
 | [d,e]=>g d e
 | _=>.bad
noncomputable def zee:D->R (List D)
 | .list a=>.ok a
 | .tuple a=>.ok a
 | _=>.bad
noncomputable def rng(lo hi:Int):List D:=(List.range (hi-lo).toNat).map fun(i:Nat)=>.int (lo+(i:Int))
noncomputable def zl0(i:Int):Bool:=leB i.natAbs 1000000000
noncomputable def zcr:List D->R (List D)
 | [.int j]=>chk (zl0 j&&leB j.toNat lim) (.ok (rng 0 j))
 | _=>.bad
noncomputable def zeI:List D->R (List D)
 | [.int i,.int j]=>chk (zl0 i&&zl0 j&&leB (j-i).toNat lim) (.ok (rng i j))
 | _=>.bad
noncomputable def eC(d:D):EF:=fun ρ=>.ok (d,ρ)
noncomputable def eV(i:Nat):EF:=fun ρ=>match ρ[i]? with
 | some (.val d)=>.ok (d,ρ)
 | _=>.bad
noncomputable def e1(g:D->R D)(f:EF):EF:=fun ρ=>(f ρ).bind fun x=>(g x.1).bind fun d=>.ok (d,x.2)
noncomputable def e2(g:D->D->R D)(f h:EF):EF:=fun ρ=>(f ρ).bind fun x=>(h x.2).bind fun y=>(g x.1 y.1).bind fun d=>.ok (d,y.2)
noncomputable def zhz(f h:EF):EF:=fun ρ=>(f ρ).bind fun x=>match x.1 with
 | .bool true=>h x.2
 | .bool false=>.ok (.bool false,x.2)
 | _=>.bad
noncomputable def eOr(f h:EF):EF:=fun ρ=>(f ρ).bind fun x=>match x.1 with
 | .bool true=>.ok (.bool true,x.2)
 | .bool false=>h x.2
 | _=>.bad
noncomputable def zqU(f:EF):EF:=fun ρ=>(f ρ).bind fun x=>match x.1 with
 | .bool b=>.ok (.bool (!b),x.2)
 | _=>.bad
noncomputable def eIf(t:TF)(f h:EF):EF:=fun ρ=>(t ρ).bind fun c=>if c.1=true then f c.2 else h c.2
noncomputable def zcS(g h:D->D->R D)(f1 f2 f3:EF):EF:=fun ρ=>(f1 ρ).bind fun x=>(f2 x.2).bind fun y=>(g x.1 y.1).bind fun c=>match c with
 | .bool true=>(f3 y.2).bind fun z=>(h y.1 z.1).bind fun d=>.ok (d,z.2)
 | .bool false=>.ok (.bool false,y.2)
 | _=>.bad
noncomputable def zah:AF:=fun ρ=>.ok ([],ρ)
noncomputable def zaa(f:EF)(a:AF):AF:=fun ρ=>(f ρ).bind fun x=>(a x.2).bind fun y=>.ok (x.1::y.1,y.2)
noncomputable def zbm(a:AF):EF:=fun ρ=>(a ρ).bind fun x=>chk (leB x.1.length lim) (.ok (.tuple x.1,x.2))
noncomputable def zcF(a:AF):EF:=fun ρ=>(a ρ).bind fun x=>chk (leB x.1.length lim) (.ok (.list x.1,x.2))
noncomputable def zae(G:List D->R D)(a:AF):EF:=fun ρ=>(a ρ).bind fun x=>(G x.1).bind fun d=>.ok (d,x.2)
abbrev OF:=En->R (Option Int×En)
noncomputable def zic:OF:=fun ρ=>.ok (none,ρ)
noncomputable def zib(f:EF):OF:=fun ρ=>(f ρ).bind fun x=>match x.1 with
 | .int i=>.ok (some i,x.2)
 | _=>.bad
noncomputable def eSl(f:EF)(lo hi:OF):EF:=fun ρ=>(f ρ).bind fun x=>(lo x.2).bind fun l=>(hi l.2).bind fun u=>(zd1 x.1 l.1 u.1).bind fun d=>.ok (d,u.2)
noncomputable def zaw(ρ:En)(i:Nat):R D:=match ρ[i]? with
 | some (.ow _ d)=>.ok d
 | _=>.bad
noncomputable def zcy(ρ:En)(i:Nat):R (List D):=match ρ[i]? with
 | some (.ow _ (.list a))=>.ok a
 | _=>.bad
noncomputable def m1(g:D->R D)(i:Nat):EF:=fun ρ=>(zaw ρ i).bind fun c=>(g c).bind fun d=>.ok (d,ρ)
noncomputable def m2(g:D->D->R D)(i:Nat)(h:EF):EF:=fun ρ=>(zaw ρ i).bind fun _=>(h ρ).bind fun y=>(zaw y.2 i).bind fun c=>(g c y.1).bind fun d=>.ok (d,y.2)
noncomputable def m2r(g:D->D->R D)(f:EF)(i:Nat):EF:=fun ρ=>(f ρ).bind fun x=>(zaw x.2 i).bind fun c=>(g x.1 c).bind fun d=>.ok (d,x.2)
noncomputable def m2m(g:D->D->R D)(i j:Nat):EF:=fun ρ=>(zaw ρ i).bind fun c=>(zaw ρ j).bind fun e=>(g c e).bind fun d=>.ok (d,ρ)
noncomputable def mSl(i:Nat)(lo hi:OF):EF:=fun ρ=>(zaw ρ i).bind fun _=>(lo ρ).bind fun l=>(hi l.2).bind fun u=>(zaw u.2 i).bind fun c=>(zd1 c l.1 u.1).bind fun d=>.ok (d,u.2)
noncomputable def zny(g:D->D->R D)(i:Nat)(h:EF):EF:=fun ρ=>(zaw ρ i).bind fun _=>(h ρ).bind fun y=>(zaw y.2 i).bind fun c=>(g (.list [c]) y.1).bind fun d=>.ok (d,y.2)
inductive Ar where
 | v(f:EF)
 | m(i:Nat)
 | t(f:EF)
inductive Itm where
 | vd(d:D)
 | mi(i:Nat)
 | td(d:D)
noncomputable def zgR:List Ar->En->R (List Itm×En)
 | [],ρ=>.ok ([],ρ)
 | .v f::r,ρ=>(f ρ).bind fun x=>(zgR r x.2).bind fun y=>.ok (.vd x.1::y.1,y.2)
 | .m i::r,ρ=>(zaw ρ i).bind fun _=>(zgR r ρ).bind fun y=>.ok (.mi i::y.1,y.2)
 | .t f::r,ρ=>(f ρ).bind fun x=>(zgR r x.2).bind fun y=>.ok (.td x.1::y.1,y.2)
noncomputable def zfA(ρ:En):List Itm->R (List D)
 | []=>.ok []
 | .vd d::r=>(zfA ρ r).bind fun ds=>.ok (d::ds)
 | .mi i::r=>(zaw ρ i).bind fun d=>(zfA ρ r).bind fun ds=>.ok (d::ds)
 | .td d::r=>(zfA ρ r).bind fun ds=>.ok (d::ds)
noncomputable def zaN(ρ:En)(i:Nat)(d:D):En:=match ρ[i]? with
 | some (.ow p _)=>ρ.set i (.ow p d)
 | _=>ρ
noncomputable def zfl:List Itm->List D->List (Nat×Sl)
 | .mi i::r,d::ds=>(i,.ow true d)::zfl r ds
 | .vd _::r,_::ds=>zfl r ds
 | .td _::r,_::ds=>zfl r ds
 | _,_=>[]
noncomputable def bk1(m:List (Nat×Sl))(i:Nat)(x:Sl):Sl:=match x,m.lookup i with
 | .ow p _,some (.ow _ d)=>.ow p d
 | x,_=>x
noncomputable def bkL(m:List (Nat×Sl)):Nat->En->En
 | _,[]=>[]
 | n,x::r=>bk1 m n x::bkL m (n+1) r
noncomputable def zew(ρ:En)(a:List Itm)(os:List D):En:=bkL (zfl a os) 0 ρ
noncomputable def zak(F:List D->R (D×List D))(a:List Ar):EF:=fun ρ=>(zgR a ρ).bind fun x=>(zfA x.2 x.1).bind fun ds=>(F ds).bind fun y=>.ok (y.1,zew x.2 x.1 y.2)
noncomputable def tE(f:EF):TF:=fun ρ=>(f ρ).bind fun x=>(zfE x.1).bind fun b=>.ok (b,x.2)
noncomputable def tB(f:EF):TF:=fun ρ=>(f ρ).bind fun x=>match x.1 with
 | .bool b=>.ok (b,x.2)
 | _=>.bad
noncomputable def zmy(t u:TF):TF:=fun ρ=>(t ρ).bind fun c=>if c.1=true then u c.2 else .ok (false,c.2)
noncomputable def tOr(t u:TF):TF:=fun ρ=>(t ρ).bind fun c=>if c.1=true then .ok (true,c.2) else u c.2
noncomputable def zbL(t:TF):TF:=fun ρ=>(t ρ).bind fun c=>.ok (!c.1,c.2)
noncomputable def tM(i:Nat):TF:=fun ρ=>(zaw ρ i).bind fun c=>(zfE c).bind fun b=>.ok (b,ρ)
noncomputable def zbE:TF:=fun ρ=>.ok (true,ρ)
abbrev IF:=En->R (List D×En)
noncomputable def iE(f:EF):IF:=fun ρ=>(f ρ).bind fun x=>(zee x.1).bind fun l=>.ok (l,x.2)
noncomputable def iR1(a:AF):IF:=fun ρ=>(a ρ).bind fun x=>(zcr x.1).bind fun l=>.ok (l,x.2)
noncomputable def iR2(a:AF):IF:=fun ρ=>(a ρ).bind fun x=>(zeI x.1).bind fun l=>.ok (l,x.2)
noncomputable def zfy:Nat->List D->List D
 | _,[]=>[]
 | n,d::r=>.tuple [.int n,d]::zfy (n+1) r
noncomputable def gN(i:Nat):GF:=fun d ρ=>match ρ[i]? with
 | some (.ow true _)=>.bad
 | some _=>.ok (ρ.set i (.val d))
 | none=>.bad
noncomputable def zkE:List GF->List D->En->R En
 | [],[],ρ=>.ok ρ
 | g::r,d::ds,ρ=>(g d ρ).bind fun ρ1=>zkE r ds ρ1
 | _,_,_=>.bad
noncomputable def gT(gs:List GF):GF:=fun d ρ=>match d with
 | .tuple ds=>zkE gs ds ρ
 | _=>.bad
noncomputable def gL(gs:List GF):GF:=fun d ρ=>match d with
 | .list ds=>zkE gs ds ρ
 | _=>.bad
noncomputable def blk(k:Nat)(ix:List Nat)(ρ:En):En:=List.replicate k .no++ix.map fun i=>(ρ[i]?).getD .no
noncomputable def back(ρ:En)(ix:List Nat)(cs:En):En:=bkL (ix.zip cs) 0 ρ
noncomputable def zdS(k:Nat)(ix:List Nat)(g:GF)(t:TF)(f:EF):List D->En->List D->R (List D×En)
 | [],ρ,acc=>.ok (acc,ρ)
 | x::xs,ρ,acc=>(g x (blk k ix ρ)).bind fun β=>(t β).bind fun c =>
   if c.1=true then(f c.2).bind fun y=>chk (leB (acc.length+1) lim) (zdS k ix g t f xs (back ρ ix (y.2.drop k)) (acc++[y.1]))
   else zdS k ix g t f xs (back ρ ix (c.2.drop k)) acc
noncomputable def zcG(k:Nat)(ix:List Nat)(it:IF)(g:GF)(t:TF)(f:EF):EF:=fun ρ=>(it ρ).bind fun x=>(zdS k ix g t f x.1 x.2 []).bind fun y=>.ok (.list y.1,y.2)
noncomputable def sNx:SF:=fun ρ=>.ok (.nx,ρ)
noncomputable def zax(s t:SF):SF:=fun ρ=>(s ρ).bind fun x=>match x.1 with
 | .nx=>t x.2
 | _=>.ok x
noncomputable def sE(f:EF):SF:=fun ρ=>(f ρ).bind fun x=>.ok (.nx,x.2)
noncomputable def zaQ(g:GF)(f:EF):SF:=fun ρ=>(f ρ).bind fun x=>(g x.1 x.2).bind fun ρ1=>.ok (.nx,ρ1)
noncomputable def zgU(i:Nat)(f:EF):SF:=fun ρ=>(f ρ).bind fun x=>match x.2[i]? with
 | some (.ow true _)=>.bad
 | some _=>.ok (.nx,x.2.set i (.ow false x.1))
 | none=>.bad
noncomputable def zmP(i:Nat)(s:SF):SF:=fun ρ=>(s ρ).bind fun x=>match x.1 with
 | .nx=>(match x.2[i]? with
  | some (.ow false d)=>.ok (.nx,x.2.set i (.val d))
  | _=>.bad)
 | _=>.ok x
noncomputable def zeG(i j:Nat)(f h:EF):SF:=fun ρ=>(f ρ).bind fun x=>(h x.2).bind fun y=>(gN i x.1 y.2).bind fun ρ1=>(gN j y.1 ρ1).bind fun ρ2=>.ok (.nx,ρ2)
noncomputable def zuU(f n:EF):EF:=fun ρ=>(f ρ).bind fun x=>(n x.2).bind fun y=>match y.1 with
 | .int k=>chk (decide (0<=k)&&leB k.toNat 1000000) (.ok (.list (List.replicate k.toNat x.1),y.2))
 | _=>.bad
noncomputable def ztf(i:Nat)(s:SF):SF:=fun ρ=>match ρ[i]? with
 | some (.ow false d)=>s (ρ.set i (.val d))
 | _=>.bad
noncomputable def zay(f:EF):SF:=fun ρ=>(f ρ).bind fun x=>.ok (.rt x.1,x.2)
noncomputable def zb4(f:EF):SF:=fun ρ=>(f ρ).bind fun x=>.ok (.rf x.1,x.2)
noncomputable def zfr(i:Nat):SF:=fun ρ=>match ρ[i]? with
 | some (.ow false d)=>.ok (.rf d,ρ)
 | _=>.bad
noncomputable def zmQ:SF:=fun ρ=>.ok (.rt .none,ρ)
noncomputable def sIf(t:TF)(a b:SF):SF:=fun ρ=>(t ρ).bind fun c=>if c.1=true then a c.2 else b c.2
noncomputable def zmT:SF:=fun _=>.bad
noncomputable def zth:SF:=fun ρ=>.ok (.bk,ρ)
noncomputable def ztg:SF:=fun ρ=>.ok (.ct,ρ)
noncomputable def forL(g:GF)(b:SF):List D->En->R (Fl×En)
 | [],ρ=>.ok (.nx,ρ)
 | x::xs,ρ=>(g x ρ).bind fun ρ1=>(b ρ1).bind fun y=>match y.1 with
  | .nx | .ct=>forL g b xs y.2
  | .bk=>.ok (.nx,y.2)
  | .rt d=>.ok (.rt d,y.2)
  | .rf d=>.ok (.rf d,y.2)
noncomputable def zfY(it:IF)(g:GF)(b:SF):SF:=fun ρ=>(it ρ).bind fun x=>forL g b x.1 x.2
noncomputable def zfU(t:TF)(b:SF):Nat->En->R (Fl×En)
 | 0,_=>.bad
 | n+1,ρ=>(t ρ).bind fun c=>if c.1=true then(b c.2).bind fun y=>match y.1 with
   | .nx | .ct=>zfU t b n y.2
   | .bk=>.ok (.nx,y.2)
   | .rt d=>.ok (.rt d,y.2)
   | .rf d=>.ok (.rf d,y.2)
  else .ok (.nx,c.2)
noncomputable def zfW(fuel:En->Nat)(t:TF)(b:SF):SF:=fun ρ=>zfU t b (fuel ρ) ρ
noncomputable def zoT(i:Nat)(u:List D->D->R (List D))(f:EF):SF:=fun ρ=>(zcy ρ i).bind fun _=>(f ρ).bind fun x=>(zcy x.2 i).bind fun c=>(u c x.1).bind fun c'=>.ok (.nx,zaN x.2 i (.list c'))
noncomputable def zoD(a:List D)(d:D):R (List D):=chk (leB (a.length+1) lim) (.ok (a++[d]))
noncomputable def zmD(i:Nat)(u:List D->R (List D)):SF:=fun ρ=>(zcy ρ i).bind fun c=>(u c).bind fun c'=>.ok (.nx,zaN ρ i (.list c'))
noncomputable def setM(i:Nat)(f k:EF):SF:=fun ρ=>(f ρ).bind fun x=>(zcy x.2 i).bind fun _=>(k x.2).bind fun y=>(zcy y.2 i).bind fun c=>match y.1 with
 | .int j=>(R.of (ixN c.length j)).bind fun n=>.ok (.nx,zaN y.2 i (.list (c.set n x.1)))
 | _=>.bad
noncomputable def slots:List Bool->List D->En
 | m::ms,d::ds=>(if m=true then .ow true d else .val d)::slots ms ds
 | _,_=>[]
noncomputable def outD(m:Bool)(d:D)(x:Option Sl):D:=match m,x with
 | true,some (.ow _ d')=>d'
 | _,_=>d
noncomputable def outs:List Bool->List D->En->List D
 | m::ms,d::ds,ρ=>outD m d ρ.head?::outs ms ds ρ.tail
 | _,_,_=>[]
noncomputable def run(ms:List Bool)(fr:Bool)(n:Nat)(b:SF)(ds:List D):R (D×List D) :=
 if ds.length=ms.length then(b (slots ms ds++List.replicate (n-ds.length) .no)).bind fun x=>match x.1,fr with
  | .rt d,false=>.ok (d,outs ms ds x.2)
  | .rf d,true=>.ok (d,outs ms ds x.2)
  | .nx,false=>.ok (.none,outs ms ds x.2)
  | _,_=>.bad
 else .bad
noncomputable def za7(fr:Bool)(k n:Nat)(b:SF)(ds:List D):R D:=(run (List.replicate k false) fr n b ds).bind fun x=>.ok x.1
end FL
namespace FL
open PySem L2 PySem.Spec
open PyProof.Rows hiding St
section
class Cs where
 C:Hp
 st:∀ a u,C a=some u->∃ o xs,u=.frz o (.tup xs)
 /-- the own classes: where each stands,its fields' names -/
 O:String->Option (Addr×List Str):=fun _=>none
def FzL(K:W.Frag)(H:Hp)(a:Addr)(xs:List V):Prop:=(∃ o,H a=some (.frz o (.lst xs))) \/
 ∃(o:Obj) (its:Array Value) (n:Nat),K.lookup a=some o/\o.cls=.type "list"/\o.dict=none/\o.data=.seq its n/\its.size<=sizeLine/\Vals xs its.toList
noncomputable def kD:Key->PyData
 | .inl i=>.int i
 | .inr x=>.str x
noncomputable def zma(k:List Key):PyData:=.tuple (k.map kD)
mutual
def Fz(K:W.Frag)(H:Hp):PyData->V->Prop
 | .none,v=>v=.non
 | .bool b,v=>v=.bl b
 | .int i,v=>v=.int i
 | .str x,v=>v=.str x
 | .list xs,v=>∃ a vs,v=.ref a/\FzL K H a vs/\zag K H xs vs
 | .tuple xs,v=>∃ a vs,v=.ref a/\TAt H a vs/\zag K H xs vs
 | .dict kvs,v=>∃ a o,v=.ref a/\((∃ kk,H a=some (.frz o (.dT kk))/\zbr K H kvs kk)\/∃ kk,H a=some (.frz o (.dK kk))/\zbs K H kvs kk)
def zag(K:W.Frag)(H:Hp):List PyData->List V->Prop
 | [],vs=>vs=[]
 | d::ds,vs=>∃ v r,vs=v::r/\Fz K H d v/\zag K H ds r
def zbr(K:W.Frag)(H:Hp):List (PyData×PyData)->List (List Key×V)->Prop
 | [],kk=>kk=[]
 | (k,d)::r,kk=>∃ q v t,kk=(q,v)::t/\k=zma q/\Fz K H d v/\zbr K H r t
def zbs(K:W.Frag)(H:Hp):List (PyData×PyData)->List (Key×V)->Prop
 | [],kk=>kk=[]
 | (k,d)::r,kk=>∃ q v t,kk=(q,v)::t/\k=kD q/\Fz K H d v/\zbs K H r t
end
noncomputable def zva:HO->Prop
 | .tup _=>True
 | .frz _ _=>True
 | .ins _ _ _=>True
 | _=>False
def Fzn(H H':Hp):Prop:=∀ a o,H a=some o->zva o->H' a=some o
theorem Fzn.refl(H:Hp):Fzn H H:=fun _ _ h _=>h
theorem Fzn.trans{H H1 H2:Hp}(a:Fzn H H1)(b:Fzn H1 H2):Fzn H H2:=fun c o h s=>b c o (a c o h s) s
theorem Fzn.of{H H':Hp}(s:zaP H H'):Fzn H H':=fun a o h _=>s a o h
section
variable {K:W.Frag}{H H':Hp}
theorem Fzn.zve{a:Addr}{xs:List V}(e:Fzn H H')(h:TAt H a xs):TAt H' a xs:=by
 rcases h with h|⟨o,h⟩
 ·exact .inl (e _ _ h trivial)
 ·exact .inr ⟨o,e _ _ h trivial⟩
theorem Fzn.zrk{a:Addr}{xs:List V}(e:Fzn H H')(h:FzL K H a xs):FzL K H' a xs:=by
 rcases h with⟨o,h⟩|h
 ·exact .inl ⟨o,e _ _ h trivial⟩
 ·exact .inr h
theorem FzL.sq{a:Addr}{xs:List V}(h:FzL K H a xs):SqL K H a xs:=by
 rcases h with⟨o,h⟩|h
 ·exact .inl (.inr ⟨o,h⟩)
 ·exact .inr h
mutual
theorem Fz.mono(e:Fzn H H'):∀(d:PyData) (v:V),Fz K H d v->Fz K H' d v
 | .none,v,h=>by simp only [Fz] at h ⊢;exact h
 | .bool b,v,h=>by simp only [Fz] at h ⊢;exact h
 | .int i,v,h=>by simp only [Fz] at h ⊢;exact h
 | .str x,v,h=>by simp only [Fz] at h ⊢;exact h
 | .list xs,v,h=>by
  simp only [Fz] at h ⊢
  obtain⟨a,vs,e1,h1,h2⟩:=h
  exact⟨a,vs,e1,e.zrk h1,zag.mono e xs vs h2⟩
 | .tuple xs,v,h=>by
  simp only [Fz] at h ⊢
  obtain⟨a,vs,e1,h1,h2⟩:=h
  exact⟨a,vs,e1,e.zve h1,zag.mono e xs vs h2⟩
 | .dict kvs,v,h=>by
  simp only [Fz] at h ⊢
  obtain⟨a,o,e1,h⟩:=h
  rcases h with⟨kk,h1,h2⟩|⟨kk,h1,h2⟩
  ·exact⟨a,o,e1,.inl ⟨kk,e _ _ h1 trivial,zbr.mono e kvs kk h2⟩⟩
  ·exact⟨a,o,e1,.inr ⟨kk,e _ _ h1 trivial,zbs.mono e kvs kk h2⟩⟩
theorem zag.mono(e:Fzn H H'):∀(ds:List PyData) (vs:List V),zag K H ds vs->zag K H' ds vs
 | [],vs,h=>by simp only [zag] at h ⊢;exact h
 | d::ds,vs,h=>by
  simp only [zag] at h ⊢
  obtain⟨v,r,e1,h1,h2⟩:=h
  exact⟨v,r,e1,Fz.mono e d v h1,zag.mono e ds r h2⟩
theorem zbr.mono(e:Fzn H H'):∀(kvs:List (PyData×PyData)) (kk:List (List Key×V)),zbr K H kvs kk->zbr K H' kvs kk
 | [],kk,h=>by simp only [zbr] at h ⊢;exact h
 | (k,d)::r,kk,h=>by
  simp only [zbr] at h ⊢
  obtain⟨q,v,t,e1,e2,h1,h2⟩:=h
  exact⟨q,v,t,e1,e2,Fz.mono e d v h1,zbr.mono e r t h2⟩
theorem zbs.mono(e:Fzn H H'):∀(kvs:List (PyData×PyData)) (kk:List (Key×V)),zbs K H kvs kk->zbs K H' kvs kk
 | [],kk,h=>by simp only [zbs] at h ⊢;exact h
 | (k,d)::r,kk,h=>by
  simp only [zbs] at h ⊢
  obtain⟨q,v,t,e1,e2,h1,h2⟩:=h
  exact⟨q,v,t,e1,e2,Fz.mono e d v h1,zbs.mono e r t h2⟩
end
theorem zag.len:∀{ds:List PyData} {vs:List V},zag K H ds vs->vs.length=ds.length
 | [],vs,h=>by simp only [zag] at h;subst h;rfl
 | d::ds,vs,h=>by
  simp only [zag] at h
  obtain⟨v,r,rfl,_,h2⟩:=h
  simp [zag.len h2]
theorem zag.get:∀{ds:List PyData} {vs:List V} {i:Nat} {d:PyData},zag K H ds vs->ds[i]?=some d->∃ v,vs[i]?=some v/\Fz K H d v
 | [],vs,i,d,h,e=>by simp at e
 | d0::ds,vs,i,d,h,e=>by
  simp only [zag] at h
  obtain⟨v,r,rfl,h1,h2⟩:=h
  cases i with
  | zero=>simp at e;subst e;exact⟨v,by simp,h1⟩
  | succ i =>
   obtain⟨w,e1,f⟩:=zag.get h2 (by simpa using e)
   exact⟨w,by simpa using e1,f⟩
theorem zag.app:∀{ds es:List PyData} {vs ws:List V},zag K H ds vs->zag K H es ws->zag K H (ds++es) (vs++ws)
 | [],es,vs,ws,h,g=>by simp only [zag] at h;subst h;exact g
 | d::ds,es,vs,ws,h,g=>by
  simp only [zag] at h
  obtain⟨v,r,rfl,h1,h2⟩:=h
  simp only [List.cons_append,zag]
  exact⟨v,r++ws,rfl,h1,zag.app h2 g⟩
theorem zag.take:∀{ds:List PyData} {vs:List V} (n:Nat),zag K H ds vs->zag K H (ds.take n) (vs.take n)
 | ds,vs,0,h=>by simp [zag]
 | [],vs,n+1,h=>by simp only [zag] at h;subst h;simp [zag]
 | d::ds,vs,n+1,h=>by
  simp only [zag] at h
  obtain⟨v,r,rfl,h1,h2⟩:=h
  simp only [List.take_succ_cons,zag]
  exact⟨v,_,rfl,h1,zag.take n h2⟩
theorem zag.drop:∀{ds:List PyData} {vs:List V} (n:Nat),zag K H ds vs->zag K H (ds.drop n) (vs.drop n)
 | ds,vs,0,h=>by simpa using h
 | [],vs,n+1,h=>by simp only [zag] at h;subst h;simp [zag]
 | d::ds,vs,n+1,h=>by
  simp only [zag] at h
  obtain⟨v,r,rfl,h1,h2⟩:=h
  simpa using zag.drop n h2
theorem zag.set:∀{ds:List PyData} {vs:List V} {d:PyData} {v:V} (n:Nat),zag K H ds vs->Fz K H d v->zag K H (ds.set n d) (vs.set n v)
 | [],vs,d,v,n,h,f=>by simp only [zag] at h;subst h;simp [zag]
 | d0::ds,vs,d,v,n,h,f=>by
  simp only [zag] at h
  obtain⟨v0,r,rfl,h1,h2⟩:=h
  cases n with
  | zero=>simp only [List.set_cons_zero,zag];exact⟨v,r,rfl,f,h2⟩
  | succ n=>simp only [List.set_cons_succ,zag];exact⟨v0,_,rfl,h1,zag.set n h2 f⟩
theorem zag.rep{ds:List PyData}{vs:List V}(h:zag K H ds vs):∀ k:Nat,zag K H (List.replicate k ds).flatten (List.replicate k vs).flatten
 | 0=>by simp [zag]
 | k+1=>by simp only [List.replicate_succ,List.flatten_cons];exact zag.app h (zag.rep h k)
theorem zag.ints:∀{ds:List PyData} {vs:List V} {ns:List Int},zag K H ds vs->intsOf ds=some ns->vs=ns.map V.int/\ds=ns.map PyData.int
 | [],vs,ns,h,e=>by simp only [zag] at h;simp only [intsOf,Option.some.injEq] at e;subst h;subst e;exact⟨rfl,rfl⟩
 | d::ds,vs,ns,h,e=>by
  simp only [zag] at h
  obtain⟨v,r,rfl,h1,h2⟩:=h
  cases d with
  | int i =>
   simp only [intsOf,Option.map_eq_some_iff] at e
   obtain⟨ms,e1,rfl⟩:=e
   obtain⟨a,b⟩:=zag.ints h2 e1
   simp only [Fz] at h1
   subst h1;subst a;subst b
   exact⟨rfl,rfl⟩
  | _=>simp [intsOf] at e
theorem zag.bools:∀{ds:List PyData} {vs:List V} {ns:List Bool},zag K H ds vs->boolsOf ds=some ns->vs=ns.map V.bl/\ds=ns.map PyData.bool
 | [],vs,ns,h,e=>by simp only [zag] at h;simp only [boolsOf,Option.some.injEq] at e;subst h;subst e;exact⟨rfl,rfl⟩
 | d::ds,vs,ns,h,e=>by
  simp only [zag] at h
  obtain⟨v,r,rfl,h1,h2⟩:=h
  cases d with
  | bool i =>
   simp only [boolsOf,Option.map_eq_some_iff] at e
   obtain⟨ms,e1,rfl⟩:=e
   obtain⟨a,b⟩:=zag.bools h2 e1
   simp only [Fz] at h1
   subst h1;subst a;subst b
   exact⟨rfl,rfl⟩
  | _=>simp [boolsOf] at e
theorem zag.ofInts:∀(ns:List Int),zag K H (ns.map PyData.int) (ns.map V.int)
 | []=>by simp [zag]
 | i::r=>by simp only [List.map_cons,zag];exact⟨_,_,rfl,by simp [Fz],zag.ofInts r⟩
end
noncomputable def zba(K:W.Frag)(H:Hp)(a:Addr):PyData->Prop
 | .list ds=>∃ vs,H a=some (.lst vs)/\zag K H ds vs
 | .dict kvs=>(∃ kk,H a=some (.dT kk)/\zbr K H kvs kk)\/∃ kk,H a=some (.dK kk)/\zbs K H kvs kk
 | _=>False
noncomputable def Tp(K:W.Frag)(H:Hp):PyData->V->Prop
 | .list ds,v=>∃ a vs,v=.ref a/\SqL K H a vs/\zag K H ds vs
 | .dict kvs,v=>∃ a,v=.ref a/\((∃ kk,Rd H a (.dT kk)/\zbr K H kvs kk)\/∃ kk,Rd H a (.dK kk)/\zbs K H kvs kk)
 | d,v=>Fz K H d v
section
variable {K:W.Frag}{H H':Hp}
theorem Fz.tp{d:PyData}{v:V}(h:Fz K H d v):Tp K H d v:=by
 cases d with
 | list ds =>
  simp only [Fz] at h
  obtain⟨a,vs,e,h1,h2⟩:=h
  exact⟨a,vs,e,h1.sq,h2⟩
 | dict kvs =>
  simp only [Fz] at h
  obtain⟨a,o,e,h⟩:=h
  rcases h with⟨kk,h1,h2⟩|⟨kk,h1,h2⟩
  ·exact⟨a,e,.inl ⟨kk,.inr ⟨o,h1⟩,h2⟩⟩
  ·exact⟨a,e,.inr ⟨kk,.inr ⟨o,h1⟩,h2⟩⟩
 | _=>exact h
theorem zba.tp{d:PyData}{a:Addr}(h:zba K H a d):Tp K H d (.ref a):=by
 cases d with
 | list ds =>
  obtain⟨vs,h1,h2⟩:=h
  exact⟨a,vs,rfl,SqL.of h1,h2⟩
 | dict kvs =>
  rcases h with⟨kk,h1,h2⟩|⟨kk,h1,h2⟩
  ·exact⟨a,rfl,.inl ⟨kk,.inl h1,h2⟩⟩
  ·exact⟨a,rfl,.inr ⟨kk,.inl h1,h2⟩⟩
 | _=>exact h.elim
def Own:HO->Prop
 | .lst _=>True
 | .dT _=>True
 | .dK _=>True
 | _=>False
theorem zba.own{d:PyData}{a:Addr}(h:zba K H a d):∃ o,H a=some o/\Own o:=by
 cases d with
 | list ds=>obtain⟨vs,h1,_⟩:=h;exact⟨_,h1,trivial⟩
 | dict kvs =>
  rcases h with⟨kk,h1,h2⟩|⟨kk,h1,h2⟩
  ·exact⟨_,h1,trivial⟩
  ·exact⟨_,h1,trivial⟩
 | _=>exact h.elim
theorem Own.zd9{o:HO}(h:Own o):¬ zva o:=by cases o <;> first|exact fun z=>z|exact h.elim
theorem zba.mono{d:PyData}{a:Addr}(e:Fzn H H')(k:H' a=H a)(h:zba K H a d):zba K H' a d:=by
 cases d with
 | list ds=>obtain⟨vs,h1,h2⟩:=h;exact⟨vs,by rw [k];exact h1,h2.mono e⟩
 | dict kvs =>
  rcases h with⟨kk,h1,h2⟩|⟨kk,h1,h2⟩
  ·exact .inl ⟨kk,by rw [k];exact h1,h2.mono e⟩
  ·exact .inr ⟨kk,by rw [k];exact h1,h2.mono e⟩
 | _=>exact h.elim
end
def zvb[Cs](K:W.Frag)(H:Hp)(a:Addr)(c:String)(ds:List D):Prop:=∃ C ns dx vs,Cs.O c=some (C,ns)/\H a=some (.ins C dx (ns.zip vs))/\vs.length=ns.length/\zag K H ds vs
def zsQ[Cs](K:W.Frag)(H:Hp):Sl->Option V->Prop
 | .no,_=>True
 | .val d,some v=>Fz K H d v
 | .ow _ d,some (.ref a)=>zba K H a d
 | .ob c ds,some (.ref a)=>zvb K H a c ds
 | _,_=>False
def At(ρ:En)(σ:St)(i:Nat)(a:Addr):Prop:=(∃ p d,ρ[i]?=some (.ow p d))/\σ[i]?=some (some (.ref a))
def zq5[Cs](H:Hp):Prop:=∀ a u,Cs.C a=some u->H a=some u
theorem zq5.mono[Cs]{H H':Hp}(h:zq5 H)(e:Fzn H H'):zq5 H':=fun a u q=>e a u (h a u q) (by
 obtain⟨o,xs,rfl⟩:=Cs.st a u q
 trivial)
structure Rel[Cs](K:W.Frag)(ρ:En)(σ:St)(H:Hp):Prop where
 len:ρ.length=σ.length
 ok:∀(i:Nat) x v,ρ[i]?=some x->σ[i]?=some v->zsQ K H x v
 sep:∀ i j a,At ρ σ i a->At ρ σ j a->i=j
 cst:zq5 H
variable [Cs]
def MA(ρ:En)(σ:St)(a:Addr):Prop:=∃ i,At ρ σ i a
structure Stp(ρ ρ':En)(σ:St)(H H':Hp):Prop where
 md:∀(i:Nat) p,(∃ d,ρ[i]?=some (.ow p d))↔∃ d,ρ'[i]?=some (.ow p d)
 kp:∀ a o,H a=some o->¬ MA ρ σ a->H' a=some o
section
variable {K:W.Frag}{ρ ρ' ρ'':En}{σ:St}{H H' H'':Hp}
theorem Rel.zu3(r:Rel K ρ σ H){i:Nat}{a:Addr}(h:At ρ σ i a):∃ p d,ρ[i]?=some (.ow p d)/\zba K H a d:=by
 obtain⟨⟨p,d,e⟩,e2⟩:=h
 exact⟨p,d,e,r.ok i _ _ e e2⟩
theorem Rel.zbi(r:Rel K ρ σ H){a:Addr}(h:MA ρ σ a):∃ o,H a=some o/\Own o:=by
 obtain⟨i,h⟩:=h
 obtain⟨p,d,_,m⟩:=r.zu3 h
 exact m.own
theorem Stp.refl:Stp ρ ρ σ H H:=⟨fun _ _=>Iff.rfl,fun _ _ h _=>h⟩
theorem Stp.ma(s:Stp ρ ρ' σ H H'){a:Addr}:MA ρ σ a↔MA ρ' σ a:=by
 constructor
 ·rintro⟨i,⟨p,h⟩,e⟩;exact⟨i,⟨p,(s.md i p).mp h⟩,e⟩
 ·rintro⟨i,⟨p,h⟩,e⟩;exact⟨i,⟨p,(s.md i p).mpr h⟩,e⟩
theorem Stp.trans(a:Stp ρ ρ' σ H H')(b:Stp ρ' ρ'' σ H' H''):Stp ρ ρ'' σ H H'' :=
 ⟨fun i p=>(a.md i p).trans (b.md i p),fun c o h n=>b.kp c o (a.kp c o h n) fun z=>n (a.ma.mpr z)⟩
theorem Stp.of(s:zaP H H'):Stp ρ ρ σ H H':=⟨fun _ _=>Iff.rfl,fun a o h _=>s a o h⟩
theorem Stp.fzn(s:Stp ρ ρ' σ H H')(r:Rel K ρ σ H):Fzn H H':=fun a o h st=>s.kp a o h fun m=>by
 obtain⟨o',e,w⟩:=r.zbi m
 rw [h] at e
 cases e
 exact w.zd9 st
theorem zvb.mono{a:Addr}{c:String}{ds:List D}(f:Fzn H H')(h:zvb K H a c ds):zvb K H' a c ds:=by
 obtain⟨C,ns,dx,vs,h1,h2,h3,h4⟩:=h
 exact⟨C,ns,dx,vs,h1,f _ _ h2 trivial,h3,h4.mono f⟩
theorem zsQ.mono{x:Sl}{v:Option V}(f:Fzn H H')(k:∀ a,v=some (.ref a)->(∃ p d,x=.ow p d)->H' a=H a)(h:zsQ K H x v):zsQ K H' x v:=by
 cases x with
 | no=>trivial
 | val d=>cases v with
  | none=>exact h.elim
  | some v=>exact Fz.mono f d v h
 | ow p d=>cases v with
  | none=>exact h.elim
  | some v=>cases v with
   | ref a=>exact zba.mono f (k a rfl ⟨p,d,rfl⟩) h
   | _=>exact h.elim
 | ob c ds=>cases v with
  | none=>exact h.elim
  | some v=>cases v with
   | ref a=>exact zvb.mono f h
   | _=>exact h.elim
theorem Rel.same(r:Rel K ρ σ H)(s:zaP H H'):Rel K ρ σ H':=by
 refine⟨r.len,fun i x v e1 e2=>(r.ok i x v e1 e2).mono (Fzn.of s) fun a e3 ⟨p,d,e4⟩=>?_,r.sep,r.cst.mono (Fzn.of s)⟩
 subst e3;subst e4
 obtain⟨o,e,_⟩:=r.zbi ⟨i,⟨p,d,e1⟩,e2⟩
 rw [e,s a o e]
theorem Rel.put{a:Addr}{o:HO}(r:Rel K ρ σ H)(n:¬ MA ρ σ a)(ns:∀ u,H a=some u->¬ zva u):Rel K ρ σ (upd H a o):=by
 have f:Fzn H (upd H a o):=fun b u e st=>by
  rw [zas fun z=>by subst z;exact ns u e st]
  exact e
 refine⟨r.len,fun i x v e1 e2=>(r.ok i x v e1 e2).mono f fun b e3 ⟨p,d,e4⟩=>?_,r.sep,r.cst.mono f⟩
 subst e3;subst e4
 exact zas fun z=>n ⟨i,⟨p,d,e1⟩,z▸e2⟩
end
def nst:Expr->Bool
 | .Starred _ _=>false
 | _=>true
theorem se{a:Expr}{es:List Expr}{env:Env}(h:nst a=true):starEach (a::es) env=(false,eval a env)::starEach es env:=by
 cases a <;> first|rfl|cases h
theorem sp{pos:Pos}{es:List Expr}{env:Env}(h:es.all nst=true):(backTo pos (starEach es env)).any (·.1)=false:=by
 induction es with
 | nil=>rfl
 | cons a es ih =>
  rw [List.all_cons,Bool.and_eq_true] at h
  rw [se h.1]
  exact ih h.2
end
section
variable [Cs]
section
variable {X:Cx}{pins:List (Addr×Obj)}{σ:L2.St}{H:Hp}{s:Shared}
theorem zxS{a:Addr}{u:HO}{o:Obj}(I:Inv X pins σ H s)(hd:H a=some u)(ow:Own u)(ho:s.heap.get? a=some o):Inv X pins σ (upd H a (.frz o u)) s:=by
 have ne:∀ b w,H b=some w->¬ Own w->b≠a:=fun b w e n z=>by
  subst z
  rw [e] at hd
  cases hd
  exact n ow
 refine Inv.step (s:=s) (h':=s.heap) (H':=upd H a (.frz o u)) (g':=s.gens) (t':=s.toks) (d':=s.drawn) (ch:=[]) I (fun _ z=>nomatch z) (fun b o _ _ _ e _=>e) (fun b o _ _ _ e _=>⟨o.slots,e⟩) (fun b _ _ _ n=>?_) (fun b o _ e=>⟨o,e⟩)
  (fun b xs e=>?_) (fun b o u e=>?_) (fun b ps e=>⟨#[],?_⟩) (fun m hm=>hm) (fun b w e=>?_) I.bare
 ·rw [zas fun z=>by subst z;rw [n] at hd;cases hd];exact n
 ·rw [zas (ne b _ e fun z=>z)];exact e
 ·rw [zas (ne b _ e fun z=>z)];exact e
 ·rw [zas (ne b _ e fun z=>z),e];simp
 ·have st:∀(b:Addr) (w:HO),zbc X.prog X.w H s.heap b w->zbc X.prog X.w (upd H a (.frz o u)) s.heap b w:=fun b w k =>
   k.stay (fun _ _ _ q=>q) (fun b' q=>by rw [zas (ne b' _ q fun z=>z)];exact q) (fun b' xs q=>q.upd (fun _ r=>ne b' _ r fun z=>z) fun _ _ r=>ne b' _ r fun z=>z)
  by_cases c:b=a
  ·subst c
   rw [zan] at e
   cases e
   exact⟨ho,st b u (I.hok b u hd)⟩
  ·rw [zas c] at e
   exact st b w (I.hok b w e)
theorem zuT{Q:VK}{w:Value}(h:EP X pins σ (fun v H1=>∃ a u,v=.ref a/\H1 a=some u/\Own u/\∀ o,Q v (upd H1 a (.frz o u))) w s):EP X pins σ Q w s:=by
 obtain⟨v,H1,I,r,a,u,e,e1,ow,q⟩:=h
 obtain⟨o,ho⟩:=(I.hok a u e1).some
 exact⟨v,_,zxS I e1 ow ho,r,q o⟩
def tFz(t:TE):TE:=fun σ H Q=>t σ H fun v H1=>∃ a u,v=.ref a/\H1 a=some u/\Own u/\∀ o,Q v (upd H1 a (.frz o u))
theorem zv5{e:Expr}{t:TE}(h:PE X e t):PE X e (tFz t):=fun pins s σ H Q I q=>thn (h pins s σ H _ I q) fun _ _ z=>zuT z
end
def Good{β:Type}(K:W.Frag)(ρ:En)(σ:L2.St)(H:Hp)(r:R (β×En))(P:β->En->Hp->Prop):Prop:=match r with
 | .ok x=>∀ H',Rel K x.2 σ H'->Stp ρ x.2 σ H H'->P x.1 x.2 H'
 | _=>False
def tV(K:W.Frag)(f:EF):TE:=fun σ H Q=>∃ ρ,Rel K ρ σ H/\Good K ρ σ H (f ρ) fun d _ H'=>∀ v,Fz K H' d v->Q v H'
def tT(K:W.Frag)(f:TF):TT:=fun σ H Q=>∃ ρ,Rel K ρ σ H/\Good K ρ σ H (f ρ) fun b _ H'=>Q b H'
def tA(K:W.Frag)(f:AF):TA:=fun σ H Q=>∃ ρ,Rel K ρ σ H/\Good K ρ σ H (f ρ) fun ds _ H'=>∀ vs,zag K H' ds vs->Q vs H'
def tO(K:W.Frag)(f:OF):TO:=fun σ H Q=>∃ ρ,Rel K ρ σ H/\Good K ρ σ H (f ρ) fun o _ H'=>Q o H'
def tN(K:W.Frag)(f:EF):TE:=fun σ H Q=>∃ ρ,Rel K ρ σ H/\Good K ρ σ H (f ρ) fun d ρ' H'=>∀ a,H a=none->zba K H' a d->Q (.ref a) H'
structure PV(K:W.Frag)(X:Cx)(e:Expr)(f:EF):Prop where
 run:X.K=K->PE X e (tV K f)
instance {K:W.Frag} {X:Cx} {e:Expr} {f:EF}:CoeFun (PV K X e f) fun _=>X.K=K->PE X e (tV K f):=⟨PV.run⟩
structure PVT(K:W.Frag)(X:Cx)(e:Expr)(f:TF):Prop where
 run:X.K=K->PT X e (tT K f)
instance {K:W.Frag} {X:Cx} {e:Expr} {f:TF}:CoeFun (PVT K X e f) fun _=>X.K=K->PT X e (tT K f):=⟨PVT.run⟩
structure PVW(K:W.Frag)(X:Cx)(e:Expr)(f:TF):Prop where
 run:X.K=K->PW X e (tT K f)
instance {K:W.Frag} {X:Cx} {e:Expr} {f:TF}:CoeFun (PVW K X e f) fun _=>X.K=K->PW X e (tT K f):=⟨PVW.run⟩
structure PVA(K:W.Frag)(X:Cx)(es:List Expr)(f:AF):Prop where
 run:X.K=K->PA X es (tA K f)
instance {K:W.Frag} {X:Cx} {es:List Expr} {f:AF}:CoeFun (PVA K X es f) fun _=>X.K=K->PA X es (tA K f):=⟨PVA.run⟩
structure PVO(K:W.Frag)(X:Cx)(e:Option Expr)(f:OF):Prop where
 run:X.K=K->PO X e (tO K f)
instance {K:W.Frag} {X:Cx} {e:Option Expr} {f:OF}:CoeFun (PVO K X e f) fun _=>X.K=K->PO X e (tO K f):=⟨PVO.run⟩
structure PVN(K:W.Frag)(X:Cx)(e:Expr)(f:EF):Prop where
 run:X.K=K->PE X e (tN K f)
instance {K:W.Frag} {X:Cx} {e:Expr} {f:EF}:CoeFun (PVN K X e f) fun _=>X.K=K->PE X e (tN K f):=⟨PVN.run⟩
theorem _root_.L2.PE.weak{X:Cx}{e:Expr}{t t':TE}(h:PE X e t)(w:∀ σ H Q,t' σ H Q->t σ H Q):PE X e t':=fun pins s σ H Q I q=>h pins s σ H Q I (w σ H Q q)
theorem _root_.L2.PT.weak{X:Cx}{e:Expr}{t t':TT}(h:PT X e t)(w:∀ σ H Q,t' σ H Q->t σ H Q):PT X e t':=fun pins s σ H Q I q=>h pins s σ H Q I (w σ H Q q)
theorem _root_.L2.PW.weak{X:Cx}{e:Expr}{t t':TT}(h:PW X e t)(w:∀ σ H Q,t' σ H Q->t σ H Q):PW X e t':=fun wh pins s σ H Q I q=>h wh pins s σ H Q I (w σ H Q q)
theorem _root_.L2.PA.weak{X:Cx}{e:List Expr}{t t':TA}(h:PA X e t)(w:∀ σ H Q,t' σ H Q->t σ H Q):PA X e t':=fun pos pins s σ H Q I q=>h pos pins s σ H Q I (w σ H Q q)
theorem _root_.L2.PO.weak{X:Cx}{e:Option Expr}{t t':TO}(h:PO X e t)(w:∀ σ H Q,t' σ H Q->t σ H Q):PO X e t':=fun pins s σ H Q I q=>h pins s σ H Q I (w σ H Q q)
section
variable {K:W.Frag}{ρ ρ1:En}{σ:L2.St}{H H1:Hp}{β γ:Type}
theorem Good.step{r:R (β×En)}{P:β->En->Hp->Prop}(st:Stp ρ ρ1 σ H H1)(g:Good K ρ σ H r P):Good K ρ1 σ H1 r P:=by
 cases r with
 | ok x=>exact fun H' rel s=>g H' rel (st.trans s)
 | _=>exact g
theorem Good.bnd{r:R (β×En)}{k:β×En->R (γ×En)}{P:γ->En->Hp->Prop}(g:Good K ρ σ H (r.bind k) P):∃ x,r=.ok x/\Good K ρ σ H (k x) P:=by
 cases r with
 | ok x=>exact⟨x,rfl,g⟩
 | _=>exact g.elim
theorem Good.zdF{r:R β}{k:β->R (γ×En)}{P:γ->En->Hp->Prop}(g:Good K ρ σ H (r.bind k) P):∃ x,r=.ok x/\Good K ρ σ H (k x) P:=by
 cases r with
 | ok x=>exact⟨x,rfl,g⟩
 | _=>exact g.elim
theorem Good.chk{c:Bool}{r:R (γ×En)}{P:γ->En->Hp->Prop}(g:Good K ρ σ H (chk c r) P):c=true/\Good K ρ σ H r P:=by
 cases c with
 | true=>exact⟨rfl,g⟩
 | false=>exact g.elim
theorem Good.now{x:β}{P:β->En->Hp->Prop}(g:Good K ρ σ H (.ok (x,ρ)) P)(rel:Rel K ρ σ H):P x ρ H:=g H rel .refl
theorem Good.new{x:β}{P:β->En->Hp->Prop}(g:Good K ρ σ H (.ok (x,ρ)) P)(rel:Rel K ρ σ H)(s:zaP H H1):P x ρ H1:=g H1 (rel.same s) (.of s)
theorem goV{f:EF}{k:D×En->R (β×En)}{S:VK}{P:β->En->Hp->Prop}(rel:Rel K ρ σ H)(g:Good K ρ σ H ((f ρ).bind k) P)
  (h:∀ d ρ1 v H1,Rel K ρ1 σ H1->Stp ρ ρ1 σ H H1->Fz K H1 d v->Good K ρ1 σ H1 (k (d,ρ1)) P->S v H1):tV K f σ H S:=by
 obtain⟨x,e,g1⟩:=g.bnd
 refine⟨ρ,rel,?_⟩
 rw [e]
 exact fun H' r s v fz=>h x.1 x.2 v H' r s fz (g1.step s)
theorem goT{f:TF}{k:Bool×En->R (β×En)}{S:Bool->Hp->Prop}{P:β->En->Hp->Prop}(rel:Rel K ρ σ H)(g:Good K ρ σ H ((f ρ).bind k) P)
  (h:∀ b ρ1 H1,Rel K ρ1 σ H1->Stp ρ ρ1 σ H H1->Good K ρ1 σ H1 (k (b,ρ1)) P->S b H1):tT K f σ H S:=by
 obtain⟨x,e,g1⟩:=g.bnd
 refine⟨ρ,rel,?_⟩
 rw [e]
 exact fun H' r s=>h x.1 x.2 H' r s (g1.step s)
theorem goA{f:AF}{k:List D×En->R (β×En)}{S:List V->Hp->Prop}{P:β->En->Hp->Prop}(rel:Rel K ρ σ H)(g:Good K ρ σ H ((f ρ).bind k) P)
  (h:∀ ds ρ1 vs H1,Rel K ρ1 σ H1->Stp ρ ρ1 σ H H1->zag K H1 ds vs->Good K ρ1 σ H1 (k (ds,ρ1)) P->S vs H1):tA K f σ H S:=by
 obtain⟨x,e,g1⟩:=g.bnd
 refine⟨ρ,rel,?_⟩
 rw [e]
 exact fun H' r s vs fz=>h x.1 x.2 vs H' r s fz (g1.step s)
theorem goO{f:OF}{k:Option Int×En->R (β×En)}{S:Option Int->Hp->Prop}{P:β->En->Hp->Prop}(rel:Rel K ρ σ H)(g:Good K ρ σ H ((f ρ).bind k) P)
  (h:∀ b ρ1 H1,Rel K ρ1 σ H1->Stp ρ ρ1 σ H H1->Good K ρ1 σ H1 (k (b,ρ1)) P->S b H1):tO K f σ H S:=by
 obtain⟨x,e,g1⟩:=g.bnd
 refine⟨ρ,rel,?_⟩
 rw [e]
 exact fun H' r s=>h x.1 x.2 H' r s (g1.step s)
end
def rD(K:W.Frag)(g:D->D->R D):R2:=fun x y H Q=>∃ dx dy d,Tp K H dx x/\Tp K H dy y/\g dx dy=.ok d/\∀ v H',zaP H H'->Fz K H' d v->Q v H'
def rD1(K:W.Frag)(g:D->R D):V->Hp->VK->Prop:=fun x H Q=>∃ dx d,Tp K H dx x/\g dx=.ok d/\∀ v H',zaP H H'->Fz K H' d v->Q v H'
def rDs(K:W.Frag)(G:List D->R D):List V->Hp->VK->Prop:=fun xs H Q=>∃ ds d,zag K H ds xs/\G ds=.ok d/\∀ v H',zaP H H'->Fz K H' d v->Q v H'
def rD0(K:W.Frag)(g:D->R D):List V->Hp->VK->Prop:=fun xs H Q=>∃ x dx d,xs=[x]/\Tp K H dx x/\g dx=.ok d/\∀ v H',zaP H H'->Fz K H' d v->Q v H'
section
variable {K:W.Frag}{X:Cx}{a b c:Expr}{f h k:EF}{pos:Pos}
theorem zab{x:Str}(i:Nat)(hN:X.N[i]?=some x:=by rfl)(hv:Vis X.env.scope x:=by first|exact Or.inl rfl|exact Or.inr (Or.inl rfl)|exact Or.inr (Or.inr rfl))(hd:(x==("__debug__":Str))=false:=by decide)
  (hcd:(x==("__classdict__":Str))=false:=by decide):PV K X (.Name x pos) (eV i):=.mk fun _=>(zqv hN hv hd hcd).weak fun σ H Q=>by
 rintro⟨ρ,rel,g⟩
 unfold eV at g
 cases e:ρ[i]? with
 | none=>rw [e] at g;exact g.elim
 | some x =>
  rw [e] at g
  cases x with
  | val d =>
   have hl:i<σ.length:=by rw [<- rel.len];exact(List.getElem?_eq_some_iff.mp e).1
   have o:=rel.ok i _ _ e (List.getElem?_eq_getElem hl)
   cases es:σ[i] with
   | none=>rw [es] at o;exact o.elim
   | some v =>
    rw [es] at o
    exact⟨v,by rw [List.getElem?_eq_getElem hl,es],g.now rel v o⟩
  | _=>exact g.elim
theorem zvf{e:Expr}{v:V}{d:D}(h:PE X e (tC v))(hv:∀ H,Fz K H d v):PV K X e (eC d):=.mk fun _=>h.weak fun σ H Q=>by
 rintro⟨ρ,rel,g⟩
 exact g.now rel v (hv H)
theorem zad{i:Int}{j}:PV K X (.Constant (.int i) j pos) (eC (.int i)):=zvf ztV fun _=>by simp [Fz]
theorem zdA{i:Bool}{j}:PV K X (.Constant (.bool i) j pos) (eC (.bool i)):=zvf zv7 fun _=>by simp [Fz]
theorem zqo{j}:PV K X (.Constant .none j pos) (eC .none):=zvf ztS fun _=>by simp [Fz]
theorem zkh{x:Str}{v:V}{u:Value}{d:D}(hg:Gl X x)(hm:X.mg x=some u)(r:RelV v u)(hv:∀ H,Fz K H d v)(hd:(x==("__debug__":Str))=false:=by decide):PV K X (.Name x pos) (eC d):=zvf (zng hg hm r hd) hv
theorem zvk{g:D->D->R D}{r:R2}(ho:∀ x y H Q,rD K g x y H Q->r x y H Q)(σ:L2.St)(H:Hp)(Q:VK)(q:tV K (e2 g f h) σ H Q):tOp r (tV K f) (tV K h) σ H Q:=by
 obtain⟨ρ,rel,q⟩:=q
 refine goV rel q fun dx ρ1 x H1 rel1 st1 fx q1=>goV rel1 q1 fun dy ρ2 y H2 rel2 st2 fy q2=>?_
 obtain⟨d,ed,q3⟩:=q2.zdF
 exact ho _ _ _ _ ⟨dx,dy,d,(fx.mono (st2.fzn rel1)).tp,fy.tp,ed,fun v H' s fz=>q3.new rel2 s v fz⟩
theorem zao{op:Operator}{g:D->D->R D}(ho:OpR X (binaryOp op) (rD X.K g))(ha:PV K X a f)(hb:PV K X b h):PV K X (.BinOp a op b pos) (e2 g f h):=.mk fun hK=>by
 subst hK
 exact(zv4 ho (ha rfl) (hb rfl)).weak fun σ H Q q=>zvk (fun _ _ _ _ z=>z) σ H Q q
theorem zaD{g:D->D->R D}(ho:IxR X (rD X.K g))(ha:PV K X a f)(hb:PV K X b h)(hs:ziI b:=by exact fun _ _=>rfl):PV K X (.Subscript a b pos) (e2 g f h):=.mk fun hK=>by
 subst hK
 exact(ztU ho (ha rfl) (hb rfl) hs).weak fun σ H Q q=>zvk (fun _ _ _ _ z=>z) σ H Q q
theorem ztF{op:CmpOp}{g:D->D->R D}(ho:OpR X (compareOp op) (rD X.K g))(ha:PV K X a f)(hb:PV K X b h)(hm:behindInMarks op b=false):PV K X (.Compare a [op] [b] pos) (e2 g f h):=.mk fun hK=>by
 subst hK
 exact(zr2 ho (ha rfl) (hb rfl) hm).weak fun σ H Q q=>zvk (fun _ _ _ _ z=>z) σ H Q q
theorem zvX{op:UnaryOp}{g:D->R D}(ho:UnR X (unaryOp op) (rD1 X.K g))(ha:PV K X a f):PV K X (.UnaryOp op a pos) (e1 g f):=.mk fun hK=>by
 subst hK
 exact(zv2 ho (ha rfl)).weak fun σ H Q=>by
  rintro⟨ρ,rel,q⟩
  refine goV rel q fun dx ρ1 x H1 rel1 st1 fx q1=>?_
  obtain⟨d,ed,q3⟩:=q1.zdF
  exact⟨dx,d,fx.tp,ed,fun v H' s fz=>q3.new rel1 s v fz⟩
theorem zn8{g g':D->D->R D}(σ:L2.St)(H:Hp)(Q:VK)(q:tV K (zcS g g' f h k) σ H Q):zmH (rD K g) (rD K g') (tV K f) (tV K h) (tV K k) σ H Q:=by
 obtain⟨ρ,rel,q⟩:=q
 refine goV rel q fun dx ρ1 x H1 rel1 st1 fx q1=>goV rel1 q1 fun dy ρ2 y H2 rel2 st2 fy q2=>?_
 obtain⟨d,ed,q3⟩:=q2.zdF
 refine⟨dx,dy,d,(fx.mono (st2.fzn rel1)).tp,fy.tp,ed,fun v H' s fz=>?_⟩
 cases d with
 | bool bb =>
  simp only [Fz] at fz
  subst fz
  have rel3:=rel2.same s
  have q4:=q3.step (.of s)
  cases bb with
  | true =>
   refine⟨true,rfl,zpX ?_⟩
   refine goV rel3 q4 fun dz ρ3 z H3 rel4 st4 fzz q5=>?_
   obtain⟨d2,ed2,q6⟩:=q5.zdF
   exact⟨dy,dz,d2,((fy.mono (Fzn.of s)).mono (st4.fzn rel3)).tp,fzz.tp,ed2,fun v H' s fz=>q6.new rel4 s v fz⟩
  | false=>exact⟨false,rfl,zpY (q4.now rel3 _ (by simp [Fz]))⟩
 | _=>exact q3.elim
theorem zpq{op op':CmpOp}{g g':D->D->R D}(ho:OpR X (compareOp op) (rD X.K g))(ho':OpR X (compareOp op') (rD X.K g'))(ha:PV K X a f)(hb:PV K X b h)(hc:PV K X c k)
  (hm:lastMarks [op,op'] [b,c]=false:=by with_unfolding_all rfl):PV K X (.Compare a [op,op'] [b,c] pos) (zcS g g' f h k):=.mk fun hK=>by
 subst hK
 exact(zpI ho ho' (ha rfl) (hb rfl) (hc rfl) hm).weak fun σ H Q q=>zn8 σ H Q q
theorem zhg{op}(ha:PV K X a f):PV K X (.BoolOp op [a] pos) f:=.mk fun hK=>ztQ (ha hK)
theorem zhh{rest:List Expr}(ha:PV K X a f)(hb:PV K X (.BoolOp .And (b::rest) pos) h):PV K X (.BoolOp .And (a::b::rest) pos) (zhz f h):=.mk fun hK=>(ztW (ha hK) (hb hK)).weak fun σ H Q=>by
 rintro⟨ρ,rel,q⟩
 refine goV rel q fun dx ρ1 x H1 rel1 st1 fx q1=>?_
 cases dx with
 | bool bb =>
  simp only [Fz] at fx
  subst fx
  cases bb with
  | true=>exact⟨true,rfl,zpX ⟨ρ1,rel1,q1⟩⟩
  | false=>exact⟨false,rfl,zpY (q1.now rel1 _ (by simp [Fz]))⟩
 | _=>exact q1.elim
theorem zvY{rest:List Expr}(ha:PV K X a f)(hb:PV K X (.BoolOp .Or (b::rest) pos) h):PV K X (.BoolOp .Or (a::b::rest) pos) (eOr f h):=.mk fun hK=>(zv3 (ha hK) (hb hK)).weak fun σ H Q=>by
 rintro⟨ρ,rel,q⟩
 refine goV rel q fun dx ρ1 x H1 rel1 st1 fx q1=>?_
 cases dx with
 | bool bb =>
  simp only [Fz] at fx
  subst fx
  cases bb with
  | true=>exact⟨true,rfl,zpX (q1.now rel1 _ (by simp [Fz]))⟩
  | false=>exact⟨false,rfl,zpY ⟨ρ1,rel1,q1⟩⟩
 | _=>exact q1.elim
theorem ztC(ha:PV K X a f):PV K X (.UnaryOp .Not a pos) (zqU f):=.mk fun hK=>(ztR (ha hK)).weak fun σ H Q=>by
 rintro⟨ρ,rel,q⟩
 refine goV rel q fun dx ρ1 x H1 rel1 st1 fx q1=>?_
 cases dx with
 | bool bb =>
  simp only [Fz] at fx
  subst fx
  exact⟨bb,rfl,q1.now rel1 _ (by simp [Fz])⟩
 | _=>exact q1.elim
variable {es:List Expr}{fa:AF}
theorem zbZ:PVA K X [] zah:=.mk fun _=>zhl.weak fun σ H Q=>by
 rintro⟨ρ,rel,q⟩
 exact q.now rel [] (by simp [zag])
theorem zbO(ha:PV K X a f)(hr:PVA K X es fa)(hs:starEach (a::es) X.env=(false,eval a X.env)::starEach es X.env:=by exact FL.se rfl):PVA K X (a::es) (zaa f fa):=.mk fun hK=>(zcc (ha hK) (hr hK) hs).weak fun σ H Q=>by
 rintro⟨ρ,rel,q⟩
 refine goV rel q fun dx ρ1 x H1 rel1 st1 fx q1=>goA rel1 q1 fun ds ρ2 vs H2 rel2 st2 fs q2=>?_
 exact q2.now rel2 _ (by simp only [zag];exact⟨x,vs,rfl,fx.mono (st2.fzn rel1),fs⟩)
theorem zb6:lim<=sizeLine:=by rw [sizeLine_eq];decide
theorem zbM{x1}(h:PVA K X es fa):PV K X (.Tuple es x1 pos) (zbm fa):=.mk fun hK=>(ztP (h hK)).weak fun σ H Q=>by
 rintro⟨ρ,rel,q⟩
 refine goA rel q fun ds ρ1 vs H1 rel1 st1 fs q1=>?_
 obtain⟨c,q2⟩:=q1.chk
 refine⟨by rw [fs.len];exact Nat.le_trans (zii c) zb6,fun p hp=>?_⟩
 have s:zaP H1 (upd H1 p (.tup vs)):=zaP.upd hp
 refine q2.new rel1 s _ ?_
 simp only [Fz]
 exact⟨p,vs,rfl,.inl zan,fs.mono (Fzn.of s)⟩
theorem zbY(h:PVA K X es fa):PVN K X (.List es pos) (zcF fa):=.mk fun hK=>(ztT (h hK)).weak fun σ H Q=>by
 rintro⟨ρ,rel,q⟩
 refine goA rel q fun ds ρ1 vs H1 rel1 st1 fs q1=>?_
 obtain⟨c,q2⟩:=q1.chk
 refine⟨by rw [fs.len];exact Nat.le_trans (zii c) zb6,fun p hp=>?_⟩
 have s:zaP H1 (upd H1 p (.lst vs)):=zaP.upd hp
 refine q2.new rel1 s p ?_ ?_
 ·cases e:H p with
  | none=>rfl
  | some o =>
   by_cases m:MA ρ σ p
   ·obtain⟨o',e',_⟩:=rel1.zbi (st1.ma.mp m)
    rw [hp] at e';cases e'
   ·rw [st1.kp p o e m] at hp;cases hp
 ·exact⟨vs,zan,fs.mono (Fzn.of s)⟩
theorem PVN.pv{e:Expr}{f:EF}(h:PVN K X e f):PV K X e f:=.mk fun hK=>(zv5 (h hK)).weak fun σ H Q=>by
 rintro⟨ρ,rel,q⟩
 refine⟨ρ,rel,?_⟩
 cases e:f ρ with
 | ok x =>
  rw [e] at q
  intro H' rel' st a ha m
  obtain⟨u,e1,ow⟩:=m.own
  refine⟨a,u,rfl,e1,ow,fun o=>?_⟩
  have nma:¬ MA ρ σ a:=fun z=>by
   obtain⟨o',e',_⟩:=rel.zbi z
   rw [ha] at e';cases e'
  have nma':¬ MA x.2 σ a:=fun z=>nma (st.ma.mpr z)
  have fz:Fzn H' (upd H' a (.frz o u)):=fun b w e2 sy=>by
   rw [zas fun z=>by subst z;rw [e1] at e2;cases e2;exact ow.zd9 sy]
   exact e2
  refine q _ (rel'.put nma' fun u' e2=>by rw [e1] at e2;cases e2;exact ow.zd9) ⟨st.md,fun b w e2 n=>?_⟩ _ ?_
  ·rw [zas fun z=>by subst z;rw [ha] at e2;cases e2]
   exact st.kp b w e2 n
  ·obtain⟨d,ρ'⟩:=x
   cases d with
   | list ds =>
    obtain⟨vs,h1,h2⟩:=m
    rw [e1] at h1
    cases h1
    simp only [Fz]
    exact⟨a,vs,rfl,.inl ⟨o,zan⟩,h2.mono fz⟩
   | dict kvs =>
    simp only [Fz]
    rcases m with⟨kk,h1,h2⟩|⟨kk,h1,h2⟩
    ·rw [e1] at h1
     cases h1
     exact⟨a,o,rfl,.inl ⟨kk,zan,h2.mono fz⟩⟩
    ·rw [e1] at h1
     cases h1
     exact⟨a,o,rfl,.inr ⟨kk,zan,h2.mono fz⟩⟩
   | _=>exact m.elim
 | _=>rw [e] at q;exact q.elim
theorem goC{G:List D->R D}{r:List V->Hp->VK->Prop}(hr:∀ xs H Q,rDs K G xs H Q->r xs H Q)(σ:L2.St)(H:Hp)(Q:VK)(q:tV K (zae G fa) σ H Q):tCB r (tA K fa) σ H Q:=by
 obtain⟨ρ,rel,q⟩:=q
 refine goA rel q fun ds ρ1 vs H1 rel1 st1 fs q1=>?_
 obtain⟨d,ed,q2⟩:=q1.zdF
 exact hr _ _ _ ⟨ds,d,fs,ed,fun v H' s fz=>q2.new rel1 s v fz⟩
theorem zps{x:Str}{id:String}{G:List D->R D}{p:Pos}{e:Expr}(hc:zfD X (.builtin id) (rDs X.K G))(hg:Gl X x)(hm:X.mg x=none)(hv:bootBuiltins x=some (.builtin id))(ha:PVA K X (e::es) fa)(hn:x ≠ "__name__":=by decide) (hdb:(x==("__debug__":Str))=false:=by decide)
  (he:starEach (e::es) X.env=(false,eval e X.env)::starEach es X.env:=by exact FL.se rfl) (hpl:(backTo pos (starEach es X.env)).any (·.1)=false:=by exact FL.sp rfl):PV K X (.Call (.Name x p) (e::es) [] pos) (zae G fa):=.mk fun hK=>by
 subst hK
 exact(zh9 hc hg hm hv (ha rfl) hn hdb he hpl).weak fun σ H Q q=>goC (fun _ _ _ z=>z) σ H Q q
theorem zm6{x:Str}{T:String}{G:List D->R D}{p:Pos}{e:Expr}(hc:zfD X (.type T) (rDs X.K G))(hg:Gl X x)(hm:X.mg x=none)(hv:bootBuiltins x=some (.type T))(ha:PVA K X (e::es) fa)(hn:x ≠ "__name__":=by decide) (hdb:(x==("__debug__":Str))=false:=by decide)
  (he:starEach (e::es) X.env=(false,eval e X.env)::starEach es X.env:=by exact FL.se rfl) (hpl:(backTo pos (starEach es X.env)).any (·.1)=false:=by exact FL.sp rfl):PV K X (.Call (.Name x p) (e::es) [] pos) (zae G fa):=.mk fun hK=>by
 subst hK
 exact(zni hc hg hm hv (ha rfl) hn hdb he hpl).weak fun σ H Q q=>goC (fun _ _ _ z=>z) σ H Q q
variable {lo hi:Option Expr}{fl fh:OF}
theorem zpk:PVO K X none zic:=.mk fun _=>zrU.weak fun σ H Q=>by
 rintro⟨ρ,rel,q⟩
 exact q.now rel
theorem zpj(h:PV K X a f):PVO K X (some a) (zib f):=.mk fun hK=>(zrT (h hK)).weak fun σ H Q=>by
 rintro⟨ρ,rel,q⟩
 refine goV rel q fun dx ρ1 x H1 rel1 st1 fx q1=>?_
 cases dx with
 | int i =>
  simp only [Fz] at fx
  exact⟨i,fx,q1.now rel1⟩
 | _=>exact q1.elim
def zwO(K:W.Frag):V->Option Int->Option Int->Hp->VK->Prop:=fun x lo hi H Q=>∃ dx d,Tp K H dx x/\zd1 dx lo hi=.ok d/\∀ v H',zaP H H'->Fz K H' d v->Q v H'
theorem zpp{p2:Pos}(hr:SlR X (zwO X.K))(he:PV K X a f)(hl:PVO K X lo fl)(hu:PVO K X hi fh):PV K X (.Subscript a (.Slice lo hi none p2) pos) (eSl f fl fh):=.mk fun hK=>by
 subst hK
 exact(zpD hr (he rfl) (hl rfl) (hu rfl)).weak fun σ H Q=>by
  rintro⟨ρ,rel,q⟩
  refine goV rel q fun dx ρ1 x H1 rel1 st1 fx q1=>goO rel1 q1 fun l ρ2 H2 rel2 st2 q2=>goO rel2 q2 fun u ρ3 H3 rel3 st3 q3=>?_
  obtain⟨d,ed,q4⟩:=q3.zdF
  exact⟨dx,d,((fx.mono (st2.fzn rel1)).mono (st3.fzn rel2)).tp,ed,fun v H' s fz=>q4.new rel3 s v fz⟩
variable {t u:TF}
theorem zbg(hv:zwJ X (fun x H Q=>∃ d k,Tp X.K H d x/\zfE d=.ok k/\Q k H))(h:PV K X a f)(he:∀ whole,isTrue a X.env whole=(do let v <- whole;standAt a.pos;holding [v] (truthy v)):=by intro _;rfl):PVT K X a (tE f):=.mk fun hK=>by
 subst hK
 intro pins s σ H Q I q
 rw [he]
 obtain⟨ρ,rel,q⟩:=q
 refine wpAny_bind (thn (h rfl pins s σ H (fun x H'=>∃ d k,Tp X.K H' d x/\zfE d=.ok k/\Q k H') I ?_) fun v s1 ⟨x,H1,I1,r1,q1⟩=>wpAny_bind (wpAny_standAt (wpAny_holding (hv pins s1 σ H1 x v Q I1 r1 q1))))
 refine goV rel q fun dx ρ1 x H1 rel1 st1 fx q1=>?_
 obtain⟨d,ed,q2⟩:=q1.zdF
 exact⟨dx,d,fx.tp,ed,q2.now rel1⟩
theorem goB{te:TE}(hw:∀ σ H Q,tV K f σ H Q->te σ H Q)(σ:L2.St)(H:Hp)(Q:Bool->Hp->Prop)(q:tT K (tB f) σ H Q):te σ H fun x H'=>∃ k,x=.bl k/\Q k H':=by
 obtain⟨ρ,rel,q⟩:=q
 refine hw σ H _ (goV rel q fun dx ρ1 x H1 rel1 st1 fx q1=>?_)
 cases dx with
 | bool bb =>
  simp only [Fz] at fx
  exact⟨bb,fx,q1.now rel1⟩
 | _=>exact q1.elim
theorem zrA{op:CmpOp}{g:D->D->R D}(ho:OpR X (compareOp op) (rD X.K g))(ha:PV K X a f)(hb:PV K X b h)(hm:behindInMarks op b=false):PVT K X (.Compare a [op] [b] pos) (tB (e2 g f h)):=.mk fun hK=>by
 subst hK
 exact(zki ho (ha rfl) (hb rfl) hm).weak fun σ H Q q=>goB (fun σ H Q z=>zvk (fun _ _ _ _ z=>z) σ H Q z) σ H Q q
theorem zpf(ha:PVT K X a t):PVW K X (.BoolOp .And [a] pos) t:=.mk fun hK=>zrv (ha hK)
theorem zcs(ha:PVT K X a t):PVW K X (.BoolOp .Or [a] pos) t:=.mk fun hK=>zty (ha hK)
theorem zrw{rest:List Expr}(ha:PVT K X a t)(hb:PVW K X (.BoolOp .And (b::rest) pos) u):PVW K X (.BoolOp .And (a::b::rest) pos) (FL.zmy t u):=.mk fun hK=>(ztz (ha hK) (hb hK)).weak fun σ H Q=>by
 rintro⟨ρ,rel,q⟩
 refine goT rel q fun cb ρ1 H1 rel1 st1 q1=>?_
 cases cb with
 | true=>exact zpX ⟨ρ1,rel1,q1⟩
 | false=>exact zpY (q1.now rel1)
theorem zcR{rest:List Expr}(ha:PVT K X a t)(hb:PVW K X (.BoolOp .Or (b::rest) pos) u):PVW K X (.BoolOp .Or (a::b::rest) pos) (FL.tOr t u):=.mk fun hK=>(zvU (ha hK) (hb hK)).weak fun σ H Q=>by
 rintro⟨ρ,rel,q⟩
 refine goT rel q fun cb ρ1 H1 rel1 st1 q1=>?_
 cases cb with
 | true=>exact zpX (q1.now rel1)
 | false=>exact zpY ⟨ρ1,rel1,q1⟩
theorem PVW.pvt(h:PVW K X a t):PVT K X a t:=.mk fun hK=>(h hK).pt
theorem za9(ha:PVT K X a t):PVT K X (.UnaryOp .Not a pos) (FL.zbL t):=.mk fun hK=>(ztH (ha hK)).weak fun σ H Q=>by
 rintro⟨ρ,rel,q⟩
 exact goT rel q fun cb ρ1 H1 rel1 st1 q1=>q1.now rel1
theorem zmZ{op op':CmpOp}{g g':D->D->R D}(ho:OpR X (compareOp op) (rD X.K g))(ho':OpR X (compareOp op') (rD X.K g'))(ha:PV K X a f)(hb:PV K X b h)(hc:PV K X c k)
  (hm:lastMarks [op,op'] [b,c]=false:=by with_unfolding_all rfl):PVT K X (.Compare a [op,op'] [b,c] pos) (tB (zcS g g' f h k)):=.mk fun hK=>by
 subst hK
 exact(zpw ho ho' (ha rfl) (hb rfl) (hc rfl) hm).weak fun σ H Q q=>goB (fun σ H Q z=>zn8 σ H Q z) σ H Q q
end
end
section
variable [Cs]
theorem ztm(A:Around)(s:Shared)(a:Int)(t:Tok)(c:Int)(u:Tok)(prog:Program)(w:World)(E:Value->Shared->Prop)(Q:Value->Shared->Prop)(h:Q (.bool (decide (a<=c))) s) :
  wpAny (model prog w) A (richCompare .LtE (.int a t) (.int c u)) Q E s :=
 (PyProof.Rows.le_int h:wpAny (model prog w) A (compareOp .LtE (.int a t) (.int c u)) Q E s)
end
section
variable [Cs]
section
variable {K:W.Frag}{H:Hp}
mutual
theorem Fz.is:∀(d:PyData) (v:V),PyData.canLay0 d=true->Fz K H d v->Is K H d v
 | .none,v,_,h=>by simp only [Fz] at h;simp only [Is];exact h
 | .bool b,v,_,h=>by simp only [Fz] at h;simp only [Is];exact h
 | .int i,v,_,h=>by simp only [Fz] at h;simp only [Is];exact h
 | .str x,v,_,h=>by simp only [Fz] at h;simp only [Is];exact h
 | .list xs,v,c,h=>by
  simp only [Fz] at h;simp only [Is]
  obtain⟨a,vs,e1,h1,h2⟩:=h
  exact⟨a,vs,e1,h1.sq,zag.is xs vs c h2⟩
 | .tuple xs,v,c,h=>by
  simp only [Fz] at h;simp only [Is]
  obtain⟨a,vs,e1,h1,h2⟩:=h
  exact⟨a,vs,e1,.inl h1,zag.is xs vs c h2⟩
 | .dict kvs,v,c,h=>by simp [PyData.canLay0] at c
theorem zag.is:∀(ds:List PyData) (vs:List V),PyData.canLayAll0 ds=true->zag K H ds vs->zeY K H ds vs
 | [],vs,_,h=>by simp only [zag] at h;simp only [zeY];exact h
 | d::ds,vs,c,h=>by
  simp only [PyData.canLayAll0,Bool.and_eq_true] at c
  simp only [zag] at h;simp only [zeY]
  obtain⟨v,r,e1,h1,h2⟩:=h
  exact⟨v,r,e1,Fz.is d v c.1 h1,zag.is ds r c.2 h2⟩
end
theorem Tp.is{d:PyData}{v:V}(c:PyData.canLay0 d=true)(h:Tp K H d v):Is K H d v:=by
 cases d with
 | list ds =>
  obtain⟨a,vs,e,h1,h2⟩:=h
  simp only [Is]
  exact⟨a,vs,e,h1,zag.is ds vs c h2⟩
 | dict kvs=>simp [PyData.canLay0] at c
 | none=>exact Fz.is _ _ c h
 | bool b=>exact Fz.is _ _ c h
 | int b=>exact Fz.is _ _ c h
 | str b=>exact Fz.is _ _ c h
 | tuple b=>exact Fz.is _ _ c h
theorem Tp.int{i:Int}{v:V}(h:Tp K H (.int i) v):v=.int i:=by simpa [Tp,Fz] using h
theorem Tp.bool{i:Bool}{v:V}(h:Tp K H (.bool i) v):v=.bl i:=by simpa [Tp,Fz] using h
theorem Tp.none{v:V}(h:Tp K H .none v):v=.non:=by simpa [Tp,Fz] using h
theorem Tp.zxd{ds:List PyData}{v:V}(h:Tp K H (.tuple ds) v):∃ a vs,v=.ref a/\TAt H a vs/\zag K H ds vs:=by simpa [Tp,Fz] using h
theorem Tp.tup{ds:List PyData}{v:V}(h:Tp K H (.tuple ds) v):∃ a vs,v=.ref a/\SqT K H a vs/\zag K H ds vs :=
 let⟨a,vs,x,y,z⟩:=Tp.zxd h
 ⟨a,vs,x,.inl y,z⟩
theorem Tp.lst{ds:List PyData}{v:V}(h:Tp K H (.list ds) v):∃ a vs,v=.ref a/\SqL K H a vs/\zag K H ds vs:=h
theorem zci(i:Int):Fz K H (.int i) (.int i):=by simp [Fz]
theorem zg2(i:Bool):Fz K H (.bool i) (.bl i):=by simp [Fz]
theorem zlD{a:Addr}{vs:List V}{ds:List PyData}(h:TAt H a vs)(f:zag K H ds vs):Fz K H (.tuple ds) (.ref a):=by simp only [Fz];exact⟨a,vs,rfl,h,f⟩
theorem zag.atI{ds:List PyData}{vs:List V}{i:Int}{d:PyData}(h:zag K H ds vs)(e:FL.atI ds i=some d):∃ v,L2.atI vs i=some v/\Fz K H d v:=by
 unfold FL.atI at e
 cases en:FL.ixN ds.length i with
 | none=>rw [en] at e;cases e
 | some j =>
  rw [en] at e
  obtain⟨v,e1,f⟩:=h.get (show ds[j]?=some d from e)
  refine⟨v,?_,f⟩
  unfold L2.atI
  rw [h.len,show L2.ixN ds.length i=some j from en]
  exact e1
theorem zag.cut{ds:List PyData}{vs:List V}(h:zag K H ds vs)(lo hi:Option Int):zag K H (FL.cut ds lo hi) (zqc vs lo hi):=by
 unfold FL.cut zqc
 rw [h.len]
 exact(h.drop _).take _
end
theorem za3{α:Type}{c:Bool}{r:R α}{d:α}(h:chk c r=.ok d):c=true/\r=.ok d:=by
 cases c with
 | true=>exact⟨rfl,h⟩
 | false=>exact nomatch (show(R.bad:R α)=.ok d from h)
section
variable {X:Cx}
theorem zlH{pins:List (Addr×Obj)}{σ:L2.St}{s:Shared}{H:Hp}{Q:VK}{w:Value}{ds:List D}{vs:List V}(f:zag X.K H ds vs)(q:∀ v H',zaP H H'->Fz X.K H' (.list ds) v->Q v H')
  (h:EP X pins σ (fun v H1=>∃ p,v=.ref p/\H p=none/\H1=upd H p (.lst vs)) w s):EP X pins σ Q w s:=by
 obtain⟨v,H1,I,r,p,rfl,hp,rfl⟩:=h
 refine zuT ⟨.ref p,_,I,r,p,.lst vs,rfl,zan,trivial,fun o=>?_⟩
 rw [zfV]
 refine q _ _ (zaP.upd hp) ?_
 simp only [Fz]
 exact⟨p,vs,rfl,.inl ⟨o,zan⟩,f.mono (Fzn.of (zaP.upd hp))⟩
theorem zbI:OpR X (binaryOp .Add) (rD X.K za0):=by
 intro pins s σ H x y v u Q I rx ry h
 obtain⟨dx,dy,d,tx,ty,e,q⟩:=h
 cases dx with
 | int i =>
  cases dy with
  | int j=>cases e;exact zt4 pins s σ H x y v u Q I rx ry ⟨i,j,tx.int,ty.int,q _ H (zaP.refl _) (zci _)⟩
  | _=>exact nomatch (show(R.bad:R D)=.ok d from e)
 | list a =>
  cases dy with
  | list b =>
   obtain⟨c,e⟩:=za3 (show chk (leB (a.length+b.length) lim) (.ok (.list (a++b)))=.ok d from e)
   ·cases e
    obtain⟨l,xs,rfl,sx,fx⟩:=tx.lst
    obtain⟨m,ys,rfl,sy,fy⟩:=ty.lst
    cases rx
    cases ry
    obtain⟨its,r1,⟨o,n,ho,hc,hdn,hd⟩,z1⟩:=I.list sx
    obtain⟨its2,r2,⟨o2,n2,ho2,hc2,hdn2,hd2⟩,z2⟩:=I.list sy
    obtain⟨cls,dd,data,sl⟩:=o
    obtain⟨cls2,dd2,data2,sl2⟩:=o2
    simp only at hc hd hc2 hd2 hdn hdn2
    subst hc hd hc2 hd2 hdn hdn2
    have hz:its.length+its2.length<=sizeLine:=by
     have:=zii c
     have l0:=zb6
     rw [<- r1.length,<- r2.length,fx.len,fy.len]
     omega
    refine thn (concat_meets (Q:=EP X pins σ fun v H1=>∃ p,v=.ref p/\H p=none/\H1=upd H p (.lst (xs++ys))) ⟨_,ho,rfl⟩ ⟨_,ho2,rfl⟩ PySem.noFill_list_add PySem.seq_list_add PySem.F.slot_list_add PySem.F.entry_list_add (PySem.F.args_list_add_2 _ _)
     (list_addW l m its.toArray its2.toArray n n2 none none sl sl2 (by rw [List.size_toArray,List.size_toArray];exact hz)) ⟨ho,ho2,?_⟩) fun _ _ z=>zlH (fx.app fy) q z
    have ea:its.toArray++its2.toArray=(its++its2).toArray:=by simp
    rw [ea]
    exact⟨.ref _,_,I.zxK (t':=s.toks) (r1.append r2) (by rw [List.length_append,r1.length,r2.length];exact hz),rfl,_,rfl,I.fresh,rfl⟩
  | _=>exact nomatch (show(R.bad:R D)=.ok d from e)
 | tuple a =>
  cases dy with
  | tuple b =>
   obtain⟨c,e⟩:=za3 (show chk (leB (a.length+b.length) lim) (.ok (.tuple (a++b)))=.ok d from e)
   ·cases e
    obtain⟨l,xs,rfl,sx,fx⟩:=tx.tup
    obtain⟨m,ys,rfl,sy,fy⟩:=ty.tup
    have hz:xs.length+ys.length<=sizeLine:=by
     have:=zii c
     have l0:=zb6
     rw [fx.len,fy.len]
     omega
    by_cases x0:xs=[]
    ·subst x0
     have a0:a=[]:=by have:=fx.len;cases a with|nil=>rfl|cons _ _=>simp at this
     subst a0
     cases rx
     cases ry
     obtain⟨its,r1,p1,z1⟩:=I.tuple sx
     obtain⟨its2,r2,p2,z2⟩:=I.tuple sy
     cases r1
     obtain⟨⟨cls,dd,data,sl⟩,ho,hc,n,hd⟩:=id p1
     obtain⟨⟨cls2,dd2,data2,sl2⟩,ho2,hc2,n2,hd2⟩:=id p2
     simp only at hc hd hc2 hd2
     subst hc hd hc2 hd2
     exact concat_meets ⟨_,ho,rfl⟩ ⟨_,ho2,rfl⟩ noFill_tuple_add seq_tuple_add PySem.F.slot_tuple_add PySem.F.entry_tuple_add (PySem.F.args_tuple_add_2 _ _)
      (tuple_addW0 l m #[] its2.toArray n n2 dd dd2 sl sl2 rfl) ⟨ho,ho2,⟨.ref m,H,I.tok _,rfl,q _ H (zaP.refl _) ty⟩⟩
    ·exact zr9 pins s σ H _ _ v u Q I rx ry ⟨l,m,xs,ys,rfl,rfl,sx,sy,x0,hz,fun y0=>by
      subst y0
      have b0:b=[]:=by have:=fy.len;cases b with|nil=>rfl|cons _ _=>simp at this
      subst b0
      rw [List.append_nil] at q
      exact q _ H (zaP.refl _) tx,fun _ p hp=>q _ _ (zaP.upd hp) (zlD (.inl zan) ((fx.app fy).mono (Fzn.of (zaP.upd hp))))⟩
  | _=>exact nomatch (show(R.bad:R D)=.ok d from e)
 | _=>exact nomatch (show(R.bad:R D)=.ok d from e)
theorem zpK{f:Value->Value->Sem Value}{C:Int->Int->Prop}{g:Int->Int->Int}{c:Int->Int->Bool}{G:D->D->R D}(ho:OpR X f (rI C fun i j=>.int (g i j)))(hC:∀ i j,c i j=true->C i j)
  (hG:∀ dx dy d,G dx dy=.ok d->∃ i j,dx=.int i/\dy=.int j/\c i j=true/\d=.int (g i j)):OpR X f (rD X.K G):=by
 intro pins s σ H x y v u Q I rx ry h
 obtain⟨dx,dy,d,tx,ty,e,q⟩:=h
 obtain⟨i,j,rfl,rfl,cc,rfl⟩:=hG _ _ _ e
 exact ho pins s σ H x y v u Q I rx ry ⟨i,j,tx.int,ty.int,hC i j cc,q _ H (zaP.refl _) (zci _)⟩
theorem zp4{c:Int->Int->Bool}{g:Int->Int->Int}{G:D->D->R D}(h:∀ i j,G (.int i) (.int j)=chk (c i j) (.ok (.int (g i j))))(h0:∀ dx dy,(¬ ∃ i j,dx=.int i/\dy=.int j)->G dx dy=.bad) :
  ∀ dx dy d,G dx dy=.ok d->∃ i j,dx=.int i/\dy=.int j/\c i j=true/\d=.int (g i j):=by
 intro dx dy d e
 by_cases k:∃ i j,dx=.int i/\dy=.int j
 ·obtain⟨i,j,rfl,rfl⟩:=k
  rw [h] at e
  obtain⟨cc,e⟩:=za3 e
  cases e
  exact⟨i,j,rfl,rfl,cc,rfl⟩
 ·rw [h0 _ _ k] at e;cases e
theorem zlm{dx dy:D}{G:D->D->R D}(hb:∀ dx dy,(∀ i,dx≠.int i)->G dx dy=.bad)(hb2:∀ i dy,(∀ j,dy≠.int j)->G (.int i) dy=.bad)(h:¬ ∃ i j,dx=.int i/\dy=.int j):G dx dy=.bad:=by
 cases dx with
 | int i=>exact hb2 i dy fun j e=>h ⟨i,j,rfl,e⟩
 | _=>exact hb _ _ fun i e=>nomatch e
theorem zsb:OpR X (binaryOp .Sub) (rD X.K zgT):=zpK (C:=fun _ _=>True) (c:=fun _ _=>true) (g:=fun i j=>i-j)
 (fun pins s σ H x y v u Q I rx ry ⟨i,j,e1,e2,_,q⟩=>ztY pins s σ H x y v u Q I rx ry ⟨i,j,e1,e2,q⟩) (fun _ _ _=>trivial)
 (zp4 (fun _ _=>rfl) fun dx dy h=>zlm (fun dx dy h=>by cases dx <;> first|rfl|exact absurd rfl (h _)) (fun i dy h=>by cases dy <;> first|rfl|exact absurd rfl (h _)) h)
theorem zpM{i j:Int}(h:znu i j=true):IntMulOk i j:=by
 have:=zii h
 have b:∀ k:Int,k.natAbs<2^(k.natAbs.log2+1):=fun k=>Nat.lt_log2_self
 exact mulOk_of (a:=i.natAbs.log2+1) (b:=j.natAbs.log2+1) (b i) (b j) (by omega)
theorem zpJ{k:Nat}(hr:zbT k X.A):OpR X (binaryOp .FloorDiv) (rI (fun _ j=>j≠0) fun i j=>.int (i.fdiv j)):=by
 intro pins s σ H x y v u Q I rx ry h
 obtain⟨i,j,rfl,rfl,hc,q⟩:=h
 obtain⟨t,rfl⟩:=rx
 obtain⟨t',rfl⟩:=ry
 exact floordiv_int hc ⟨.int (i.fdiv j),H,I.tok _,⟨_,rfl⟩,q⟩ (.inr (I.pyl (by have:=hr.dp;omega)))
theorem zc3{k:Nat}(hr:zbT k X.A):OpR X (binaryOp .FloorDiv) (rD X.K zaJ):=zpK (C:=fun _ j=>j≠0) (c:=fun i j=>decide (j≠0)) (g:=fun i j=>i.fdiv j) (zpJ hr) (fun i j h=>by simpa using h)
 (zp4 (fun _ _=>rfl) fun dx dy h=>zlm (fun dx dy h=>by cases dx <;> first|rfl|exact absurd rfl (h _)) (fun i dy h=>by cases dy <;> first|rfl|exact absurd rfl (h _)) h)
theorem zkl:OpR X (binaryOp .Mod) (rD X.K zif):=zpK (C:=fun _ j=>j≠0) (c:=fun i j=>decide (j≠0)) (g:=fun i j=>i.fmod j) zr8 (fun i j h=>by simpa using h)
 (zp4 (fun _ _=>rfl) fun dx dy h=>zlm (fun dx dy h=>by cases dx <;> first|rfl|exact absurd rfl (h _)) (fun i dy h=>by cases dy <;> first|rfl|exact absurd rfl (h _)) h)
theorem zi8:OpR X (binaryOp .Pow) (rD X.K zhi):=zpK (C:=zxc) (c:=fun i j=>decide (0<=j)&&leB j.toNat 1000000&&leB i.natAbs 18446744073709551615) (g:=fun i j=>i^j.toNat) ztZ (fun i j h=>by simp only [Bool.and_eq_true,decide_eq_true_eq,leB_iff] at h;exact⟨h.1.1,by omega,by omega⟩)
 (zp4 (fun _ _=>rfl) fun dx dy h=>zlm (fun dx dy h=>by cases dx <;> first|rfl|exact absurd rfl (h _)) (fun i dy h=>by cases dy <;> first|rfl|exact absurd rfl (h _)) h)
theorem zvt:UnR X (unaryOp .USub) (rD1 X.K zwg):=by
 intro pins s σ H x v Q I rx h
 obtain⟨dx,d,tx,e,q⟩:=h
 cases dx with
 | int i=>cases e;exact zs3 pins s σ H x v Q I rx ⟨i,tx.int,q _ H (zaP.refl _) (zci _)⟩
 | _=>exact nomatch (show(R.bad:R D)=.ok d from e)
theorem zxE(hu:X.A.units+64<cLine):OpR X (compareOp .Eq) (rD X.K eqD):=by
 intro pins s σ H x y v u Q I rx ry h
 obtain⟨dx,dy,d,tx,ty,e,q⟩:=h
 obtain⟨c,e⟩:=za3 e
 ·cases e
  simp only [Bool.and_eq_true] at c
  exact zt3 hu pins s σ H x y v u Q I rx ry ⟨dx,dy,tx.is (SeqAt.canLay_of_shaped c.1),ty.is (SeqAt.canLay_of_shaped c.2),c.1,c.2,q _ H (zaP.refl _) (zg2 _)⟩
theorem zxz(hu:X.A.units+64<cLine):OpR X (compareOp .NotEq) (rD X.K neD):=by
 intro pins s σ H x y v u Q I rx ry h
 obtain⟨dx,dy,d,tx,ty,e,q⟩:=h
 obtain⟨c,e⟩:=za3 e
 ·cases e
  simp only [Bool.and_eq_true] at c
  exact zt0 hu pins s σ H x y v u Q I rx ry ⟨dx,dy,tx.is (SeqAt.canLay_of_shaped c.1),ty.is (SeqAt.canLay_of_shaped c.2),c.1,c.2,q _ H (zaP.refl _) (zg2 _)⟩
theorem zfK:∀ a b,FL.lexLt a b=HT.lexLt a b
 | [],[]=>rfl
 | [],_::_=>rfl
 | _::_,[]=>rfl
 | x::xs,y::ys=>by unfold FL.lexLt HT.lexLt;rw [zfK xs ys]
theorem zwe{op:CmpOp}{p:Int->Int->Bool}{q:List Int->List Int->Bool}(hi:OpR X (compareOp op) (rI0 fun i j=>.bl (p i j)))
  (ht:∀{s:Shared} {l b:Addr} {items items2:Array Value} {ns ms:List Int} {Q:Value->Shared->Prop},IsTup s.heap l items->IsTup s.heap b items2->IntsAre items.toList ns->IntsAre items2.toList ms ->
   Q (.bool (q ns ms)) s->wpAny (model X.prog X.w) X.A (compareOp op (.ref l) (.ref b)) Q X.xe s):OpR X (compareOp op) (rD X.K (zw7 p q)):=by
 intro pins s σ H x y v u Q I rx ry h
 obtain⟨dx,dy,d,tx,ty,e,k⟩:=h
 cases dx with
 | int i =>
  cases dy with
  | int j=>cases e;exact hi pins s σ H x y v u Q I rx ry ⟨i,j,tx.int,ty.int,k _ H (zaP.refl _) (zg2 _)⟩
  | _=>exact nomatch (show(R.bad:R D)=.ok d from e)
 | tuple a =>
  cases dy with
  | tuple b =>
   replace e:((R.of (intsOf a)).bind fun x=>(R.of (intsOf b)).bind fun y=>R.ok (PyData.bool (q x y)))=.ok d:=e
   cases ea:intsOf a with
   | none=>rw [ea] at e;cases e
   | some ns =>
    cases eb:intsOf b with
    | none=>rw [ea,eb] at e;cases e
    | some ms =>
     rw [ea,eb] at e
     cases e
     obtain⟨l,xs,rfl,sx,fx⟩:=tx.tup
     obtain⟨m,ys,rfl,sy,fy⟩:=ty.tup
     cases rx
     cases ry
     obtain⟨rfl,_⟩:=fx.ints ea
     obtain⟨rfl,_⟩:=fy.ints eb
     obtain⟨its,r1,p1,_⟩:=I.tuple sx
     obtain⟨its2,r2,p2,_⟩:=I.tuple sy
     exact ht p1 p2 (intsAre_of r1) (intsAre_of r2) ⟨.bl (q ns ms),H,I,rfl,k _ H (zaP.refl _) (zg2 _)⟩
  | _=>exact nomatch (show(R.bad:R D)=.ok d from e)
 | _=>exact nomatch (show(R.bad:R D)=.ok d from e)
theorem zxA(hu:X.A.units+64<cLine):OpR X (compareOp .Lt) (rD X.K ltD):=zwe zv8 fun p1 p2 i1 i2 h=>HT.zeL p1 p2 i1 i2 (by omega) (by rw [<- zfK];exact h)
theorem znm{op:CmpOp}{p:Int->Int->Bool}(hi:OpR X (compareOp op) (rI0 fun i j=>.bl (p i j))):OpR X (compareOp op) (rD X.K (zvn p)):=by
 intro pins s σ H x y v u Q I rx ry h
 obtain⟨dx,dy,d,tx,ty,e,k⟩:=h
 cases dx with
 | int i =>
  cases dy with
  | int j=>cases e;exact hi pins s σ H x y v u Q I rx ry ⟨i,j,tx.int,ty.int,k _ H (zaP.refl _) (zg2 _)⟩
  | _=>exact nomatch (show(R.bad:R D)=.ok d from e)
 | _=>exact nomatch (show(R.bad:R D)=.ok d from e)
theorem zxB(hu:X.A.units+64<cLine):OpR X (compareOp .LtE) (rD X.K leD):=znm zv9
theorem zxC(hu:X.A.units+64<cLine):OpR X (compareOp .Gt) (rD X.K gtD):=znm zwa
theorem zxD(hu:X.A.units+64<cLine):OpR X (compareOp .GtE) (rD X.K geD):=znm zwb
theorem zwd:OpR X (compareOp .Is) (rD X.K isD):=by
 intro pins s σ H x y v u Q I rx ry h
 obtain⟨dx,dy,d,tx,ty,e,q⟩:=h
 cases dy with
 | none =>
  refine zt1 pins s σ H x y v u Q I rx ry ⟨ty.none,?_⟩
  have:d=.bool (decide (x=.non)):=by
   cases dx with
   | none=>have:=tx.none;subst this;cases e;rfl
   | bool b=>have:=tx.bool;subst this;cases e;rfl
   | int b=>have:=tx.int;subst this;cases e;rfl
   | str b =>
    have:x=.str b:=by simpa [Tp,Fz] using tx
    subst this;cases e;rfl
   | list b=>obtain⟨_,_,rfl,_⟩:=tx.lst;cases e;rfl
   | tuple b=>obtain⟨_,_,rfl,_⟩:=tx.tup;cases e;rfl
   | dict b=>obtain⟨_,rfl,_⟩:=tx;cases e;rfl
  subst this
  exact q _ H (zaP.refl _) (zg2 _)
 | _=>exact nomatch (show(R.bad:R D)=.ok d from e)
theorem zbK:IxR X (rD X.K ixD):=by
 intro value slice pins s σ H x y v u Q I rx ry h hs
 obtain⟨dx,dy,d,tx,ty,e,q⟩:=h
 cases dx with
 | list a =>
  cases dy with
  | int i =>
   replace e:R.of (FL.atI a i)=.ok d:=e
   cases ea:FL.atI a i with
   | none=>rw [ea] at e;cases e
   | some d' =>
    rw [ea] at e
    cases e
    obtain⟨l,xs,rfl,sx,fx⟩:=tx.lst
    obtain⟨w,ew,fw⟩:=fx.atI ea
    exact zsu value slice pins s σ H _ y v u Q I rx ry ⟨l,xs,i,w,rfl,ty.int,sx,ew,q _ H (zaP.refl _) fw⟩ hs
  | _=>exact nomatch (show(R.bad:R D)=.ok d from e)
 | tuple a =>
  cases dy with
  | int i =>
   replace e:R.of (FL.atI a i)=.ok d:=e
   cases ea:FL.atI a i with
   | none=>rw [ea] at e;cases e
   | some d' =>
    rw [ea] at e
    cases e
    obtain⟨l,xs,rfl,sx,fx⟩:=tx.tup
    obtain⟨w,ew,fw⟩:=fx.atI ea
    exact zuB value slice pins s σ H _ y v u Q I rx ry ⟨l,xs,i,w,rfl,ty.int,sx,ew,q _ H (zaP.refl _) fw⟩ hs
  | _=>exact nomatch (show(R.bad:R D)=.ok d from e)
 | _=>exact nomatch (show(R.bad:R D)=.ok d from e)
theorem zdJ:zwJ X (fun x H Q=>∃ d k,Tp X.K H d x/\zfE d=.ok k/\Q k H):=by
 intro pins s σ H x v Q I rx h
 obtain⟨d,k,tx,e,q⟩:=h
 refine zs5 pins s σ H x v Q I rx ⟨k,?_,q⟩
 cases d with
 | none=>have:=tx.none;subst this;cases e;rfl
 | bool b=>have:=tx.bool;subst this;cases e;rfl
 | int b=>have:=tx.int;subst this;cases e;rfl
 | list b =>
  obtain⟨a,vs,rfl,sx,fx⟩:=tx.lst
  cases e
  refine .inl ⟨vs,sx,?_⟩
  have:=fx.len
  cases b <;> cases vs <;> simp_all
 | tuple b =>
  obtain⟨a,vs,rfl,sx,fx⟩:=tx.tup
  cases e
  refine .inr (.inl ⟨vs,sx,?_⟩)
  have:=fx.len
  cases b <;> cases vs <;> simp_all
 | _=>exact nomatch (show(R.bad:R Bool)=.ok k from e)
end
end
section
variable [Cs]
theorem zfu:fillsNumberSlot (.type "tuple") "mul"=pure false :=
 PySem.fillsNumberSlot_seq (id:="tuple.__mul__") (r:=some (.builtin "tuple.__rmul__")) PySem.F.slot_tuple_mul.lookup (by decide +kernel) PySem.F.slot_tuple_rmul.lookup (by decide +kernel)
theorem zi0:seqRepeat? (.type "tuple")=pure (some (.builtin "tuple.__mul__")):=by
 unfold seqRepeat?
 rw [PySem.seqSlot_of (T:="tuple") (name:="__mul__") (id:="tuple.__mul__") PySem.F.slot_tuple_mul.lookup (by decide +kernel),PySem.seqSlot_of (T:="tuple") (name:="__rmul__") (id:="tuple.__rmul__") PySem.F.slot_tuple_rmul.lookup (by decide +kernel)]
 rfl
section
open PySem.SeqAt
open PySem.AutoSeq1 (wpAny_loadPart')
open PySem.MeetsSeq PySem.MeetsSeq2 PySem.MeetsSeq3
theorem zg1(a:Int)(t:Tok)(l:Addr)(items:Array Value)(n:Nat)(dd:Option Addr)(sl:Array (Option Value)) :
  Meets (Builtin.«int.__rmul__» ⟨[.int a t,.ref l],[]⟩) (fun _ R s=>s.heap.get? l=some { cls:=.type "tuple",dict:=dd,data:=.seq items n,slots:=sl }/\R (.ok (.ret Value.notImplemented)) s) :=
 .of_wp fun prog w A R s h=>by obtain⟨hp,g,d,tk,os⟩:=s;obtain⟨hl,h⟩:=h;wp_walk;exact⟨_,rfl,h⟩
theorem zlX(l:Addr)(items:Array Value)(n:Nat)(dd:Option Addr)(sl:Array (Option Value))(k:Int)(t:Tok)(h0:items.isEmpty=false)(h1:2<=k)(h2:k<2^62)(h3:items.size*k.toNat<=sizeLine) :
  Meets (Builtin.«tuple.__mul__» ⟨[.ref l,.int k t],[]⟩) (fun _ R s=>s.heap.get? l=some { cls:=.type "tuple",dict:=dd,data:=.seq items n,slots:=sl } /\
   R (.ok (.ret (.ref s.heap.objs.size))) { s with heap:=s.heap.push { cls:=.type "tuple",data:=.seq ((List.replicate k.toNat items).foldl (·++·) #[]) } }) :=
 .of_wp fun prog w A R s h=>by
  obtain⟨hp,g,d,tk,os⟩:=s;obtain⟨hl,h⟩:=h
  have f1:=AutoSeq1.idx_int
  have i0:(items.size:Int)*k<=(sizeLine:Int):=by
   have e:((items.size*k.toNat:Nat):Int)=(items.size:Int)*k:=by rw [Int.natCast_mul,Int.toNat_of_nonneg (by omega)]
   rw [<- e]
   exact Int.ofNat_le.mpr h3
  have hA:¬ (decide (k < -2^63)||decide (k ≥ 2^63))=true:=by
   simp only [Bool.or_eq_true,decide_eq_true_eq,not_or]
   constructor <;> omega
  have hB:¬ (items.isEmpty||k==1)=true:=by
   rw [h0]
   simp only [Bool.false_or,beq_iff_eq]
   omega
  have hC:¬ (decide (k<=0)||items.isEmpty)=true:=by
   rw [h0]
   simp only [Bool.or_false,decide_eq_true_eq]
   omega
  have sz:(sizeLine:Int)<=16777216:=by rw [sizeLine_eq];decide
  have hD:¬ (items.size:Int)*k > (2^63-1) / 8:=by omega
  have hE:¬ Builtin.Tuple.tupleTooMany ((items.size:Int)*k)=true:=by
   unfold Builtin.Tuple.tupleTooMany
   simp only [decide_eq_true_eq]
   omega
  have hs:sizeOk (.seq (List.foldl (fun x1 x2=>x1++x2) #[] (List.replicate k.toNat items))):=by
   obtain⟨its⟩:=items
   have:=foldl_rep its k.toNat []
   rw [List.nil_append] at this
   rw [this]
   show(List.replicate k.toNat its).flatten.toArray.size<=sizeLine
   rw [List.size_toArray,len_rep,Nat.mul_comm]
   exact h3
  wp_walk
  rw [if_neg hA]
  wp_walk using wpAny_loadPart' hl
  rw [if_neg hB]
  wp_walk
  rw [if_neg hC]
  wp_walk
  rw [if_neg hD]
  wp_walk
  rw [if_neg (show ¬ (List.foldl (fun x1 x2=>x1++x2) #[] (List.replicate k.toNat items)).size > sizeLine from Nat.not_lt.mpr hs)]
  wp_walk
  exact⟨_,rfl,h⟩
end
section
variable {prog:Program}{w:World}{A:Around}{E:Value->Shared->Prop}{s:Shared}
theorem zkc{t sl:Addr}{items:Array Value}{vl vu:Value}{lo hi:Option Int}{Q:Value->Shared->Prop}(ht:IsTup s.heap t items)(hs:s.heap.IsSliceOf sl vl vu .none)(pl:IsPart vl lo)(pu:IsPart vu hi)
  (hw:HT.sIx items.size 0 lo=0/\HT.sIx items.size items.size hi=items.size)(h:Q (.ref t) s):wpAny (model prog w) A (getItem (.ref t) (.ref sl)) Q E s:=by
 obtain⟨os,hos,hcs,hds⟩:=id hs
 have hTs:s.TypeIs (.ref sl) "slice":=⟨os,hos,hcs⟩
 unfold getItem
 try with_reducible refine wpAny_holding ?_
 first|refine wpAny_bind (wpAny_pure ?_)|skip
 refine wpAny_bind (wpAny_sequenceKey ht.typeIs (by decide) ?_)
 refine wpAny_bind (wpAny_callSpecial?_slot (name:=Str.ofString "__getitem__") ht.typeIs PyProof.Rows.slot_tuple_getitem
  (wpAny_call_entry PyProof.Rows.slot_tuple_getitem ht.typeIs entry_tuple_getitem ?_ (args_tuple_getitem _ _)))
 show wpAny _ _ (Builtin.Tuple.tupleItemsOf (.ref t) >>= _) _ _ s
 refine wpAny_bind (tupleItemsOf_ ht ?_)
 refine wpAny_bind (wpAny_typeOf hTs ?_)
 rw [if_pos (by decide)]
 refine wpAny_bind (HT.zcP hs pl pu ?_)
 show wpAny _ _ (if(((HT.sIx items.size 0 lo:Nat):Int)==0&&(1:Int)==1&&(HT.sIx items.size items.size hi-HT.sIx items.size 0 lo)==items.size)=true then _ else _) _ _ s
 rw [hw.1,hw.2,if_pos (by simp)]
 refine wpAny_bind (m:=Builtin.Tuple.tupleIsExact _) ?_
 unfold Builtin.Tuple.tupleIsExact
 refine wpAny_bind (wpAny_typeOf ht.typeIs (wpAny_pure ?_))
 rw [if_pos (by decide)]
 exact wpAny_bind (wpAny_rule (wpAny_bind (wpAny_pure (wpAny_pure ⟨_,rfl,wpAny_pure h⟩))))
end
section
variable {X:Cx}
theorem zcv:OpR X (binaryOp .Mult) (rD X.K zbw):=by
 intro pins s σ H x y v u Q I rx ry h
 obtain⟨dx,dy,d,tx,ty,e,q⟩:=h
 cases dx with
 | int i =>
  cases dy with
  | int j =>
   obtain⟨c,e⟩:=za3 (show chk (znu i j) (.ok (.int (i*j)))=.ok d from e)
   cases e
   exact zr7 pins s σ H x y v u Q I rx ry ⟨i,j,tx.int,ty.int,zpM c,q _ H (zaP.refl _) (zci _)⟩
  | _=>exact nomatch (show(R.bad:R D)=.ok d from e)
 | tuple a =>
  cases dy with
  | int k =>
   obtain⟨c,e⟩:=za3 (show chk (!a.isEmpty&&leB 2 k.toNat&&leB k.toNat 1000000&&leB (a.length*k.toNat) lim) (.ok (.tuple (List.replicate k.toNat a).flatten))=.ok d from e)
   cases e
   simp only [Bool.and_eq_true,leB_iff] at c
   obtain⟨⟨⟨c0,c1⟩,c2⟩,c3⟩:=c
   obtain⟨l,xs,rfl,sx,fx⟩:=tx.tup
   have:=ty.int
   subst this
   cases rx
   obtain⟨t,rfl⟩:=ry
   obtain⟨its,r1,p1,z1⟩:=I.tuple sx
   obtain⟨⟨cls,dd,data,sl⟩,ho,hc,n,hd⟩:=id p1
   simp only at hc hd
   subst hc hd
   have hl:its.length=a.length:=by rw [<- r1.length,fx.len]
   have hz:its.length*k.toNat<=sizeLine:=by rw [hl];exact Nat.le_trans c3 zb6
   have he:its.toArray.isEmpty=false:=by
    cases its with
    | nil=>simp only [List.length_nil] at hl;cases a with|nil=>simp at c0|cons _ _=>simp at hl
    | cons _ _=>rfl
   refine wpAny_binaryOp_repeat_ref (T:="tuple") (U:="int") (by decide) ⟨_,ho,rfl⟩ (fun s'=>typeIs_int s' k t) zfu PySem.F.fills_int_mul PySem.F.slot_int_rmul zi0 PySem.F.slot_int_index.lookup
    (call_meets PySem.F.slot_int_rmul (typeIs_int s k t) PySem.F.entry_int_rmul (PySem.F.args_int_rmul_2 _ _) (zg1 k t l its.toArray n dd sl)
     ⟨ho,rfl,⟨_,ho,rfl⟩,call_meets PySem.F.slot_tuple_mul ⟨_,ho,rfl⟩ PySem.F.entry_tuple_mul (PySem.F.args_tuple_mul_2 _ _) (zlX l its.toArray n dd sl k t he (by omega) (by omega) (by rw [List.size_toArray];exact hz)) ⟨ho,?_⟩⟩)
   have en:=foldl_rep its k.toNat []
   rw [List.nil_append] at en
   rw [en]
   have hp:H s.heap.objs.size=none:=I.hok.fresh (Nat.le_refl _)
   refine⟨.ref s.heap.objs.size,_,I.laid (t':=s.toks) (o:=.tup (List.replicate k.toNat xs).flatten) (fun b ob q=>Heap.get?_push_of_some _ q) (Nat.le_refl _) ⟨by rw [len_rep,Nat.mul_comm,r1.length];exact hz,_,r1.rep k.toNat,IsTup.new _ _⟩,rfl,
    q _ _ (zaP.upd hp) (zlD (.inl zan) ((fx.rep k.toNat).mono (Fzn.of (zaP.upd hp))))⟩
  | _=>exact nomatch (show(R.bad:R D)=.ok d from e)
 | _=>exact nomatch (show(R.bad:R D)=.ok d from e)
theorem zoo{α:Type}{ds:List α}{lo hi:Option Int}(h1:FL.sIx ds.length 0 lo=0)(h2:FL.sIx ds.length ds.length hi=ds.length):FL.cut ds lo hi=ds:=by
 unfold FL.cut
 rw [h1,h2]
 simp
theorem zvB:SlR X (zwO X.K):=by
 intro pins s σ H x v vl vu lo hi sl Q I rx hs pl pu h
 obtain⟨dx,d,tx,e,q⟩:=h
 cases dx with
 | list a =>
  cases e
  obtain⟨l,xs,rfl,sx,fx⟩:=tx.lst
  obtain⟨T,id,h1,h2,h3⟩:=zrj pins s σ H _ v vl vu lo hi sl (fun v H1=>∃ p,v=.ref p/\H p=none/\H1=upd H p (.lst (zqc xs lo hi))) I rx hs pl pu ⟨l,xs,rfl,sx,fun p hp=>⟨p,rfl,hp,rfl⟩⟩
  exact⟨T,id,h1,h2,thn h3 fun _ _ z=>zlH (fx.cut lo hi) q z⟩
 | tuple a =>
  cases e
  obtain⟨l,xs,rfl,sx,fx⟩:=tx.tup
  by_cases w:HT.sIx xs.length 0 lo=0/\HT.sIx xs.length xs.length hi=xs.length
  ·cases rx
   obtain⟨its,r,ht,hz⟩:=I.tuple sx
   have hlen:its.toArray.size=xs.length:=by rw [List.size_toArray];exact r.length.symm
   refine⟨"tuple",_,PyProof.Rows.slot_tuple_getitem.lookup,ht.typeIs,zkc ht hs pl pu (by rw [hlen];exact w) ⟨.ref l,H,I,rfl,q _ H (zaP.refl _) ?_⟩⟩
   rw [fx.len] at w
   rw [zoo w.1 w.2]
   exact tx
  ·exact ztd pins s σ H _ v vl vu lo hi sl Q I rx hs pl pu ⟨l,xs,rfl,sx,w,fun p hp=>q _ _ (zaP.upd hp) (zlD (.inl zan) ((fx.cut lo hi).mono (Fzn.of (zaP.upd hp))))⟩
 | _=>exact nomatch (show(R.bad:R D)=.ok d from e)
end
end
section
variable [Cs]
theorem zsm{ns:List Int}{M:Int}(h1:M∈ns)(h2:∀ a∈ns,a<=M):zuk ns=some M:=by
 have key:∀(xs:List Int) (x:Int),(M=x\/M∈xs)->x<=M->(∀ a∈xs,a<=M)->xs.foldl (fun m y=>if y > m then y else m) x=M:=by
  intro xs
  induction xs with
  | nil=>intro x h _ _;rcases h with h|h;exact h.symm;cases h
  | cons y ys ih =>
   intro x h hx ha
   simp only [List.foldl_cons]
   have hy:=ha y (List.mem_cons_self ..)
   refine ih _ ?_ ?_ fun a m=>ha a (List.mem_cons_of_mem _ m)
   ·split
    ·rcases h with h|h
     ·omega
     ·rcases List.mem_cons.mp h with h|h
      ·exact .inl h
      ·exact .inr h
    ·rcases h with h|h
     ·exact .inl h
     ·rcases List.mem_cons.mp h with h|h
      ·left;omega
      ·exact .inr h
   ·split <;> omega
 cases ns with
 | nil=>cases h1
 | cons x xs =>
  show some _=some M
  rw [key xs x (List.mem_cons.mp h1) (h2 x (List.mem_cons_self ..)) fun a m=>h2 a (List.mem_cons_of_mem _ m)]
section
variable {X:Cx}
def CallD(X:Cx)(f:Value)(g:D->R D):Prop:=zfD X f (rD0 X.K g)
theorem CallD.ds{f:Value}{g:D->R D}(h:CallD X f g):zfD X f (rDs X.K (one g)):=fun pins s σ H xs us Q I r ⟨ds,d,fz,e,q⟩=>by
 cases ds with
 | nil=>exact nomatch (show(R.bad:R D)=.ok d from e)
 | cons d0 r0 =>
  cases r0 with
  | nil =>
   simp only [zag] at fz
   obtain⟨v,r',rfl,fv,e2⟩:=fz
   subst e2
   exact h pins s σ H _ us Q I r ⟨v,d0,d,rfl,fv.tp,e,q⟩
  | cons _ _=>exact nomatch (show(R.bad:R D)=.ok d from e)
theorem zjE:CallD X (.builtin "len") zdW:=by
 intro pins s σ H xs us Q I r h
 obtain⟨x,dx,d,rfl,tx,e,q⟩:=h
 cases dx with
 | list a=>obtain⟨p,vs,rfl,sx,fx⟩:=tx.lst;cases e;exact zff pins s σ H _ us Q I r ⟨p,vs,rfl,.inl sx,by rw [fx.len];exact q _ H (zaP.refl _) (zci _)⟩
 | tuple a=>obtain⟨p,vs,rfl,sx,fx⟩:=tx.tup;cases e;exact zff pins s σ H _ us Q I r ⟨p,vs,rfl,.inr sx,by rw [fx.len];exact q _ H (zaP.refl _) (zci _)⟩
 | _=>exact nomatch (show(R.bad:R D)=.ok d from e)
theorem zsN:CallD X (.builtin "abs") zoF:=by
 intro pins s σ H xs us Q I r h
 obtain⟨x,dx,d,rfl,tx,e,q⟩:=h
 cases dx with
 | int i=>have:=tx.int;subst this;cases e;exact zqg pins s σ H _ us Q I r ⟨i,rfl,q _ H (zaP.refl _) (zci _)⟩
 | _=>exact nomatch (show(R.bad:R D)=.ok d from e)
theorem zwD(hc:X.calm=true):CallD X (.builtin "all") zvp:=by
 intro pins s σ H xs us Q I r h
 obtain⟨x,dx,d,rfl,tx,e,q⟩:=h
 cases dx with
 | list a =>
  obtain⟨p,vs,rfl,sx,fx⟩:=tx.lst
  replace e:((R.of (boolsOf a)).bind fun x=>R.ok (PyData.bool (x.all id)))=.ok d:=e
  cases ea:boolsOf a with
  | none=>rw [ea] at e;cases e
  | some ns =>
   rw [ea] at e
   cases e
   obtain⟨rfl,_⟩:=fx.bools ea
   exact zqf hc pins s σ H _ us Q I r ⟨p,ns,rfl,sx,q _ H (zaP.refl _) (zg2 _)⟩
 | _=>exact nomatch (show(R.bad:R D)=.ok d from e)
theorem zhC:CallD X (.type "list") zcz:=by
 intro pins s σ H xs us Q I r h
 obtain⟨x,dx,d,rfl,tx,e,q⟩:=h
 cases dx with
 | list a =>
  obtain⟨p,vs,rfl,sx,fx⟩:=tx.lst
  cases e
  exact thn (zfe pins s σ H _ us (fun v H1=>∃ p,v=.ref p/\H p=none/\H1=upd H p (.lst vs)) I r ⟨p,vs,rfl,.inl sx,fun l hl=>⟨l,rfl,hl,rfl⟩⟩) fun _ _ z=>zlH fx q z
 | tuple a =>
  obtain⟨p,vs,rfl,sx,fx⟩:=tx.tup
  cases e
  exact thn (zfe pins s σ H _ us (fun v H1=>∃ p,v=.ref p/\H p=none/\H1=upd H p (.lst vs)) I r ⟨p,vs,rfl,.inr sx,fun l hl=>⟨l,rfl,hl,rfl⟩⟩) fun _ _ z=>zlH fx q z
 | _=>exact nomatch (show(R.bad:R D)=.ok d from e)
theorem zsM:CallD X (.type "tuple") ze7:=by
 intro pins s σ H xs us Q I r h
 obtain⟨x,dx,d,rfl,tx,e,q⟩:=h
 cases dx with
 | list a =>
  obtain⟨p,vs,rfl,sx,fx⟩:=tx.lst
  cases e
  exact zeq pins s σ H _ us Q I r ⟨p,vs,rfl,.inl ⟨sx,fun l hl=>q _ _ (zaP.upd hl) (zlD (.inl zan) (fx.mono (Fzn.of (zaP.upd hl))))⟩⟩
 | tuple a =>
  obtain⟨p,vs,rfl,sx,fx⟩:=tx.tup
  cases e
  exact zeq pins s σ H _ us Q I r ⟨p,vs,rfl,.inr ⟨sx,q _ H (zaP.refl _) tx⟩⟩
 | _=>exact nomatch (show(R.bad:R D)=.ok d from e)
end
theorem Tp.ty{K:W.Frag}{H:Hp}{d:D}{x:V}(c:zwN d=true)(h:Tp K H d x):Ty K H x (.type (tyOf d)):=by
 cases d with
 | none=>have:=h.none;subst this;exact .non
 | bool b=>have:=h.bool;subst this;exact .bl b
 | int b=>have:=h.int;subst this;exact .int b
 | str b =>
  have:x=.str b:=by simpa [Tp,Fz] using h
  subst this;exact .str b
 | list b=>obtain⟨_,_,rfl,s,_⟩:=h.lst;exact .lst s
 | tuple b=>obtain⟨_,_,rfl,s,_⟩:=h.tup;exact .tup s
 | dict b=>cases c
def zjV(T:String):Prop:=∀(K:W.Frag) (d:D),PySem.W.kitOne K (.type (tyOf d)) (.type T)=some (isI T d)
theorem zlv{T:String}(h0:KC.zdN "NoneType" T=some (isI T .none)) (h1:∀ b,KC.zdN "bool" T=some (isI T (.bool b))) (h2:∀ b,KC.zdN "int" T=some (isI T (.int b))) (h3:∀ b,KC.zdN "str" T=some (isI T (.str b))) (h4:∀ b,KC.zdN "list" T=some (isI T (.list b)))
  (h5:∀ b,KC.zdN "tuple" T=some (isI T (.tuple b))) (h6:∀ b,KC.zdN "dict" T=some (isI T (.dict b))):zjV T:=fun K d=>by
 cases d with
 | none=>exact h0
 | bool b=>exact h1 b
 | int b=>exact h2 b
 | str b=>exact h3 b
 | list b=>exact h4 b
 | tuple b=>exact h5 b
 | dict b=>exact h6 b
theorem zsq:zjV "int":=zlv (by decide +kernel) (fun _=>(by decide +kernel:KC.zdN "bool" "int"=some (isI "int" (.bool true)))) (fun _=>(by decide +kernel:KC.zdN "int" "int"=some (isI "int" (.int 0)))) (fun _=>(by decide +kernel:KC.zdN "str" "int"=some (isI "int" (.str "")))) (fun _=>(by decide +kernel:KC.zdN "list" "int"=some (isI "int" (.list [])))) (fun _=>(by decide +kernel:KC.zdN "tuple" "int"=some (isI "int" (.tuple [])))) (fun _=>(by decide +kernel:KC.zdN "dict" "int"=some (isI "int" (.dict []))))
theorem zpU:zjV "bool":=zlv (by decide +kernel) (fun _=>(by decide +kernel:KC.zdN "bool" "bool"=some (isI "bool" (.bool true)))) (fun _=>(by decide +kernel:KC.zdN "int" "bool"=some (isI "bool" (.int 0)))) (fun _=>(by decide +kernel:KC.zdN "str" "bool"=some (isI "bool" (.str "")))) (fun _=>(by decide +kernel:KC.zdN "list" "bool"=some (isI "bool" (.list [])))) (fun _=>(by decide +kernel:KC.zdN "tuple" "bool"=some (isI "bool" (.tuple [])))) (fun _=>(by decide +kernel:KC.zdN "dict" "bool"=some (isI "bool" (.dict []))))
theorem kit_tuple:zjV "tuple":=zlv (by decide +kernel) (fun _=>(by decide +kernel:KC.zdN "bool" "tuple"=some (isI "tuple" (.bool true)))) (fun _=>(by decide +kernel:KC.zdN "int" "tuple"=some (isI "tuple" (.int 0)))) (fun _=>(by decide +kernel:KC.zdN "str" "tuple"=some (isI "tuple" (.str "")))) (fun _=>(by decide +kernel:KC.zdN "list" "tuple"=some (isI "tuple" (.list [])))) (fun _=>(by decide +kernel:KC.zdN "tuple" "tuple"=some (isI "tuple" (.tuple [])))) (fun _=>(by decide +kernel:KC.zdN "dict" "tuple"=some (isI "tuple" (.dict []))))
theorem zpT:zjV "list":=zlv (by decide +kernel) (fun _=>(by decide +kernel:KC.zdN "bool" "list"=some (isI "list" (.bool true)))) (fun _=>(by decide +kernel:KC.zdN "int" "list"=some (isI "list" (.int 0)))) (fun _=>(by decide +kernel:KC.zdN "str" "list"=some (isI "list" (.str "")))) (fun _=>(by decide +kernel:KC.zdN "list" "list"=some (isI "list" (.list [])))) (fun _=>(by decide +kernel:KC.zdN "tuple" "list"=some (isI "list" (.tuple [])))) (fun _=>(by decide +kernel:KC.zdN "dict" "list"=some (isI "list" (.dict []))))
section
variable {K:W.Frag}{X:Cx}{a:Expr}{f:EF}{pos:Pos}
theorem ztE{T:String}{tn:Str}{p p2:Pos}(kt:zjV T)(hg:Gl X "isinstance") (hm:X.mg "isinstance"=none) (hg2:Gl X tn) (hm2:X.mg tn=none) (hv2:bootBuiltins tn=some (.type T)) (ha:PV K X a f) (hn:tn ≠ "__name__":=by decide) (hd:(tn==("__debug__":Str))=false:=by decide)
  (hs1:starEach [a,.Name tn p2] X.env=(false,eval a X.env)::starEach [.Name tn p2] X.env:=by exact FL.se rfl) (hs2:starEach [.Name tn p2] X.env=(false,eval (.Name tn p2) X.env)::starEach [] X.env:=by exact FL.se rfl) (hpl:(backTo pos (starEach [.Name tn p2] X.env)).any (·.1)=false:=by exact FL.sp rfl) :
  PV K X (.Call (.Name "isinstance" p) [a,.Name tn p2] [] pos) (e1 (zbP T) f):=.mk fun hK=>by
 subst hK
 refine(zh9 (x:="isinstance") (id:="isinstance") zlN hg hm KC.Bt.isinstance (zcc (ha rfl) (zcc (ztO hg2 hm2 hv2 hn hd) zhl hs2) hs1) (by decide) (by decide) hs1 hpl).weak fun σ H Q=>?_
 rintro⟨ρ,rel,q⟩
 refine goV rel q fun dx ρ1 x H1 rel1 st1 fx q1=>?_
 obtain⟨d,ed,q3⟩:=q1.zdF
 obtain⟨c,ed⟩:=za3 ed
 cases ed
 exact⟨x,.ty T,_,_,rfl,(fun z=>nomatch z),fx.tp.ty c,kt X.K dx,q3.now rel1 _ (zg2 _)⟩
theorem zm4{g:D->R D}{f:EF}{e:Expr}(h:PV K X e (zae (one g) (zaa f zah))):PV K X e (e1 g f):=.mk fun hK=>(h hK).weak fun σ H Q=>by
 rintro⟨ρ,rel,q⟩
 refine⟨ρ,rel,?_⟩
 have:zae (one g) (zaa f zah) ρ=e1 g f ρ:=by
  unfold zae zaa zah e1
  cases f ρ with
  | ok x=>rfl
  | _=>rfl
 rw [this]
 exact q
end
end
section
variable [Cs]
section
variable {K:W.Frag}{ρ ρ1:En}{σ:L2.St}{H H1:Hp}{i:Nat}{d:D}
theorem zf7(h:zaw ρ i=.ok d):∃ p,ρ[i]?=some (.ow p d):=by
 unfold zaw at h
 cases e:ρ[i]? with
 | none=>rw [e] at h;cases h
 | some x =>
  rw [e] at h
  cases x with
  | ow p c=>cases h;exact⟨p,rfl⟩
  | _=>cases h
theorem Rel.zln(r:Rel K ρ σ H)(h:zaw ρ i=.ok d):∃ a,At ρ σ i a/\zba K H a d:=by
 obtain⟨p,e⟩:=zf7 h
 have hl:i<σ.length:=by rw [<- r.len];exact(List.getElem?_eq_some_iff.mp e).1
 have o:=r.ok i _ _ e (List.getElem?_eq_getElem hl)
 cases es:σ[i] with
 | none=>rw [es] at o;exact o.elim
 | some v =>
  rw [es] at o
  cases v with
  | ref a=>exact⟨a,⟨⟨p,d,e⟩,by rw [List.getElem?_eq_getElem hl,es]⟩,o⟩
  | _=>exact o.elim
theorem Rel.again{a:Addr}(r:Rel K ρ1 σ H1)(h:zaw ρ1 i=.ok d)(at0:At ρ σ i a):zba K H1 a d:=by
 obtain⟨b,ab,m⟩:=r.zln h
 have:=at0.2.symm.trans ab.2
 cases this
 exact m
theorem Rel.zxx{a:Addr}{o:HO}(r:Rel K ρ σ H)(at0:At ρ σ i a)(m:zba K (upd H a o) a d):Rel K (zaN ρ i d) σ (upd H a o):=by
 obtain⟨⟨p,c,e⟩,es⟩:=at0
 have hp:zaN ρ i d=ρ.set i (.ow p d):=by unfold zaN;rw [e]
 obtain⟨u,hu,ow⟩:=r.zbi ⟨i,⟨p,c,e⟩,es⟩
 have f:Fzn H (upd H a o):=fun b w eb st=>by
  rw [zas fun z=>by subst z;rw [hu] at eb;cases eb;exact ow.zd9 st]
  exact eb
 have hl:i<ρ.length:=(List.getElem?_eq_some_iff.mp e).1
 rw [hp]
 refine⟨by rw [List.length_set];exact r.len,fun j x v e1 e2=>?_,fun j k b h1 h2=>?_,r.cst.mono f⟩
 ·by_cases c:i=j
  ·subst c
   rw [List.getElem?_set_self hl] at e1
   cases e1
   rw [es] at e2
   cases e2
   exact m
  ·rw [List.getElem?_set_ne c] at e1
   refine(r.ok j x v e1 e2).mono f fun b e3 ⟨q,dd,e4⟩=>?_
   subst e3;subst e4
   refine zas fun z=>?_
   subst z
   exact c (r.sep i j b ⟨⟨p,_,e⟩,es⟩ ⟨⟨q,dd,e1⟩,e2⟩)
 ·have w:∀ j b,At (ρ.set i (.ow p d)) σ j b->At ρ σ j b:=fun j b ⟨⟨q,dd,e1⟩,e2⟩=>by
   by_cases c:i=j
   ·subst c;exact⟨⟨p,_,e⟩,e2⟩
   ·rw [List.getElem?_set_ne c] at e1;exact⟨⟨q,dd,e1⟩,e2⟩
  exact r.sep j k b (w _ _ h1) (w _ _ h2)
theorem zk8{a:Addr}{o:HO}(at0:At ρ σ i a):Stp ρ (zaN ρ i d) σ H (upd H a o):=by
 obtain⟨⟨p,c,e⟩,es⟩:=at0
 have hp:zaN ρ i d=ρ.set i (.ow p d):=by unfold zaN;rw [e]
 have hl:i<ρ.length:=(List.getElem?_eq_some_iff.mp e).1
 rw [hp]
 refine⟨fun j q=>?_,fun b w eb n=>?_⟩
 ·by_cases c:i=j
  ·subst c
   rw [List.getElem?_set_self hl,e]
   constructor
   ·rintro⟨_,z⟩;cases z;exact⟨_,rfl⟩
   ·rintro⟨_,z⟩;cases z;exact⟨_,rfl⟩
  ·rw [List.getElem?_set_ne c]
 ·rw [zas fun z=>by subst z;exact n ⟨i,⟨p,c,e⟩,es⟩]
  exact eb
end
section
variable {K:W.Frag}{X:Cx}{a b c:Expr}{f h k:EF}{pos:Pos}
theorem zw4{g:D->D->R D}{i:Nat}{r:R2}(hr:∀ x y H Q,rD K g x y H Q->r x y H Q)(σ:L2.St)(H:Hp)(Q:VK)(q:tV K (m2 g i h) σ H Q):tOp r (zgS i) (tV K h) σ H Q:=by
 obtain⟨ρ,rel,q⟩:=q
 obtain⟨d,ed,q1⟩:=q.zdF
 obtain⟨ad,at0,m⟩:=rel.zln ed
 refine⟨.ref ad,at0.2,goV rel q1 fun dy ρ1 y H1 rel1 st1 fy q2=>?_⟩
 obtain⟨d2,ed2,q3⟩:=q2.zdF
 obtain⟨x,ex,q4⟩:=q3.zdF
 exact hr _ _ _ _ ⟨d2,dy,x,(rel1.again ed2 at0).tp,fy.tp,ex,fun v H' s fz=>q4.new rel1 s v fz⟩
theorem zry{op:CmpOp}{g:D->D->R D}{y:Str}{py:Pos}(i:Nat)(ho:OpR X (compareOp op) (rD X.K g))(ha:PE X (.Name y py) (zgS i))(hb:PV K X b h)(hm:behindInMarks op b=false):PVT K X (.Compare (.Name y py) [op] [b] pos) (tB (m2 g i h)):=.mk fun hK=>by
 subst hK
 exact(zki ho ha (hb rfl) hm).weak fun σ H Q q=>goB (fun σ H Q z=>zw4 (fun _ _ _ _ z=>z) σ H Q z) σ H Q q
theorem ztD{g:D->D->R D}{y:Str}{py:Pos}(i:Nat)(ho:IxR X (rD X.K g))(ha:PE X (.Name y py) (zgS i))(hb:PV K X b h)(hs:ziI b:=by exact fun _ _=>rfl):PV K X (.Subscript (.Name y py) b pos) (m2 g i h):=.mk fun hK=>by
 subst hK
 exact(ztU ho ha (hb rfl) hs).weak fun σ H Q q=>zw4 (fun _ _ _ _ z=>z) σ H Q q
theorem zwq{g:D->D->R D}{i:Nat}{r:R2}(hr:∀ x y H Q,rD K g x y H Q->r x y H Q)(σ:L2.St)(H:Hp)(Q:VK)(q:tV K (m2r g f i) σ H Q):tOp r (tV K f) (zgS i) σ H Q:=by
 obtain⟨ρ,rel,q⟩:=q
 refine goV rel q fun dx ρ1 x H1 rel1 st1 fx q2=>?_
 obtain⟨d2,ed2,q3⟩:=q2.zdF
 obtain⟨x,ex,q4⟩:=q3.zdF
 obtain⟨ad,at0,m⟩:=rel1.zln ed2
 exact⟨.ref ad,at0.2,hr _ _ _ _ ⟨dx,d2,x,fx.tp,m.tp,ex,fun v H' s fz=>q4.new rel1 s v fz⟩⟩
theorem zrx{op:CmpOp}{g:D->D->R D}{y:Str}{py:Pos}(i:Nat)(ho:OpR X (compareOp op) (rD X.K g))(ha:PV K X a f)(hb:PE X (.Name y py) (zgS i))(hm:behindInMarks op (.Name y py)=false):PVT K X (.Compare a [op] [.Name y py] pos) (tB (m2r g f i)):=.mk fun hK=>by
 subst hK
 exact(zki ho (ha rfl) hb hm).weak fun σ H Q q=>goB (fun σ H Q z=>zwq (fun _ _ _ _ z=>z) σ H Q z) σ H Q q
theorem zrJ{T:String}{tn y:Str}{p p2 py:Pos}(i:Nat)(kt:zjV T)(hg:Gl X "isinstance") (hm:X.mg "isinstance"=none) (hg2:Gl X tn) (hm2:X.mg tn=none) (hv2:bootBuiltins tn=some (.type T)) (ha:PE X (.Name y py) (zgS i)) (hn:tn ≠ "__name__":=by decide) (hd:(tn==("__debug__":Str))=false:=by decide)
  (hs1:starEach [.Name y py,.Name tn p2] X.env=(false,eval (.Name y py) X.env)::starEach [.Name tn p2] X.env:=by exact FL.se rfl) (hs2:starEach [.Name tn p2] X.env=(false,eval (.Name tn p2) X.env)::starEach [] X.env:=by exact FL.se rfl) (hpl:(backTo pos (starEach [.Name tn p2] X.env)).any (·.1)=false:=by exact FL.sp rfl) :
  PV K X (.Call (.Name "isinstance" p) [.Name y py,.Name tn p2] [] pos) (m1 (zbP T) i):=.mk fun hK=>by
 subst hK
 refine(zh9 (x:="isinstance") (id:="isinstance") zlN hg hm KC.Bt.isinstance (zcc ha (zcc (ztO hg2 hm2 hv2 hn hd) zhl hs2) hs1) (by decide) (by decide) hs1 hpl).weak fun σ H Q=>?_
 rintro⟨ρ,rel,q⟩
 obtain⟨d,ed,q1⟩:=q.zdF
 obtain⟨x,ex,q2⟩:=q1.zdF
 obtain⟨ad,at0,m⟩:=rel.zln ed
 obtain⟨c,ex⟩:=za3 ex
 cases ex
 exact⟨.ref ad,at0.2,.ref ad,.ty T,_,_,rfl,(fun z=>nomatch z),m.tp.ty c,kt X.K d,q2.now rel _ (zg2 _)⟩
end
end
section
variable [Cs]
structure SC where
 H₀:Hp
 σ₀:L2.St
 ρ₀:En
structure zdt(K:W.Frag)(C:SC)(ρ:En)(σ:L2.St)(H:Hp):Prop where
 rel:Rel K ρ σ H
 keep:∀ a o,C.H₀ a=some o->¬ MA C.ρ₀ C.σ₀ a->H a=some o
 own:∀(i:Nat) a d,ρ[i]?=some (.ow false d)->σ[i]?=some (some (.ref a))->C.H₀ a=none
 pin:∀(i:Nat),(∃ d,ρ[i]?=some (.ow true d))↔∃ d,C.ρ₀[i]?=some (.ow true d)
 fix:∀(i:Nat) d,ρ[i]?=some (.ow true d)->σ[i]?=C.σ₀[i]?
 prm:∀(i:Nat) p d,C.ρ₀[i]?=some (.ow p d)->p=true
section
variable {K:W.Frag}{C:SC}{ρ ρ1:En}{σ σ1:L2.St}{H H1:Hp}
theorem zdt.zxH(r:zdt K C ρ σ H){a:Addr}{o:HO}(e:C.H₀ a=some o)(n:¬ MA C.ρ₀ C.σ₀ a):¬ MA ρ σ a:=by
 rintro⟨i,⟨p,d,e1⟩,e2⟩
 cases p with
 | false=>rw [r.own i a d e1 e2] at e;cases e
 | true =>
  obtain⟨d0,e0⟩:=(r.pin i).mp ⟨d,e1⟩
  exact n ⟨i,⟨true,d0,e0⟩,by rw [<- r.fix i d e1];exact e2⟩
theorem zdt.step(r:zdt K C ρ σ H)(rel:Rel K ρ1 σ H1)(st:Stp ρ ρ1 σ H H1):zdt K C ρ1 σ H1 where
 rel:=rel
 keep:=fun a o e n=>st.kp a o (r.keep a o e n) (r.zxH e n)
 own:=fun i a d e1 e2=>by
  obtain⟨d',e'⟩:=(st.md i false).mpr ⟨d,e1⟩
  exact r.own i a d' e' e2
 pin:=fun i=>(st.md i true).symm.trans (r.pin i)
 fix:=fun i d e=>by
  obtain⟨d',e'⟩:=(st.md i true).mpr ⟨d,e⟩
  exact r.fix i d' e'
 prm:=r.prm
def Chg(dom:List Nat)(ρ ρ1:En)(σ σ1:L2.St):Prop:=σ1.length=σ.length/\∀(i:Nat),(ρ1[i]?=ρ[i]?/\σ1[i]?=σ[i]?)\/(i∈dom/\(∃ d,ρ1[i]?=some (.val d))/\∀ e,ρ[i]?≠some (.ow true e))
theorem Chg.refl{dom:List Nat}:Chg dom ρ ρ σ σ:=⟨rfl,fun _=>.inl ⟨rfl,rfl⟩⟩
theorem Chg.trans{d1 d2:List Nat}{ρ2:En}{σ2:L2.St}(a:Chg d1 ρ ρ1 σ σ1)(b:Chg d2 ρ1 ρ2 σ1 σ2):Chg (d1++d2) ρ ρ2 σ σ2:=⟨b.1.trans a.1,fun i=>by
 rcases b.2 i with⟨b1,b2⟩|⟨bm,b1,b2⟩
 ·rcases a.2 i with⟨a1,a2⟩|⟨am,a1,a2⟩
  ·exact .inl ⟨b1.trans a1,b2.trans a2⟩
  ·exact .inr ⟨List.mem_append_left _ am,by rw [b1];exact a1,a2⟩
 ·rcases a.2 i with⟨a1,a2⟩|⟨am,a1,a2⟩
  ·exact .inr ⟨List.mem_append_right _ bm,b1,fun e z=>b2 e (by rw [a1];exact z)⟩
  ·exact .inr ⟨List.mem_append_left _ am,b1,a2⟩⟩
theorem zdt.chg{dom:List Nat}(r:zdt K C ρ σ H)(rel:Rel K ρ1 σ1 H)(c:Chg dom ρ ρ1 σ σ1):zdt K C ρ1 σ1 H where
 rel:=rel
 keep:=r.keep
 own:=fun i a d e1 e2=>by
  rcases c.2 i with⟨c1,c2⟩|⟨_,⟨d',c1⟩,c2⟩
  ·exact r.own i a d (by rw [<- c1];exact e1) (by rw [<- c2];exact e2)
  ·rw [c1] at e1;cases e1
 pin:=fun i=>by
  rcases c.2 i with⟨c1,c2⟩|⟨_,⟨d',c1⟩,c2⟩
  ·rw [c1];exact r.pin i
  ·rw [c1,<- r.pin i]
   constructor
   ·rintro⟨_,z⟩;cases z
   ·rintro⟨d,z⟩;exact absurd z (c2 d)
 fix:=fun i d e=>by
  rcases c.2 i with⟨c1,c2⟩|⟨_,⟨d',c1⟩,c2⟩
  ·rw [c2];exact r.fix i d (by rw [<- c1];exact e)
  ·rw [c1] at e;cases e
 prm:=r.prm
theorem zdt.fresh(r:zdt K C ρ σ H){a:Addr}(ha:H a=none):C.H₀ a=none:=by
 cases e0:C.H₀ a with
 | none=>rfl
 | some o =>
  by_cases k:MA C.ρ₀ C.σ₀ a
  ·obtain⟨i,⟨p,d0,e1⟩,e2⟩:=k
   have:=r.prm i p d0 e1
   subst this
   obtain⟨d2,e3⟩:=(r.pin i).mpr ⟨d0,e1⟩
   obtain⟨o',e',_⟩:=r.rel.zbi ⟨i,⟨true,d2,e3⟩,by rw [r.fix i d2 e3];exact e2⟩
   rw [ha] at e';cases e'
  ·rw [r.keep a o e0 k] at ha;cases ha
def zbU(K:W.Frag)(C:SC)(H:Hp)(r:R (Fl×En))(Dn:Ends):Prop:=match r with
 | .ok x=>match x.1 with
  | .nx=>∀ σ' H',zdt K C x.2 σ' H'->Fzn H H'->Dn.nx σ' H'
  | .bk=>∀ σ' H',zdt K C x.2 σ' H'->Fzn H H'->Dn.bk σ' H'
  | .ct=>∀ σ' H',zdt K C x.2 σ' H'->Fzn H H'->Dn.ct σ' H'
  | .rt d=>∀ v σ' H',zdt K C x.2 σ' H'->Fz K H' d v->Dn.rt v H'
  | .rf d=>∀ a σ' H',zdt K C x.2 σ' H'->C.H₀ a=none->zba K H' a d->Dn.rt (.ref a) H'
 | _=>False
theorem zbU.step{r:R (Fl×En)}{Dn:Ends}(f:Fzn H H1)(g:zbU K C H r Dn):zbU K C H1 r Dn:=by
 cases r with
 | ok x =>
  obtain⟨fl,ρ⟩:=x
  cases fl with
  | nx=>exact fun σ' H' r z=>g σ' H' r (f.trans z)
  | bk=>exact fun σ' H' r z=>g σ' H' r (f.trans z)
  | ct=>exact fun σ' H' r z=>g σ' H' r (f.trans z)
  | rt d=>exact g
  | rf d=>exact g
 | _=>exact g
theorem zbU.bnd{β:Type}{r:R β}{k:β->R (Fl×En)}{Dn:Ends}(g:zbU K C H (r.bind k) Dn):∃ x,r=.ok x/\zbU K C H (k x) Dn:=by
 cases r with
 | ok x=>exact⟨x,rfl,g⟩
 | _=>exact g.elim
def tS(K:W.Frag)(C:SC)(f:SF):TS:=fun Dn σ H=>∃ ρ,zdt K C ρ σ H/\zbU K C H (f ρ) Dn
theorem zmj{f:EF}{k:D×En->R (Fl×En)}{S:VK}{Dn:Ends}(rel:zdt K C ρ σ H)(g:zbU K C H ((f ρ).bind k) Dn)
  (h:∀ d ρ1 v H1,zdt K C ρ1 σ H1->Stp ρ ρ1 σ H H1->Fz K H1 d v->zbU K C H1 (k (d,ρ1)) Dn->S v H1):tV K f σ H S:=by
 obtain⟨x,e,g1⟩:=g.bnd
 refine⟨ρ,rel.rel,?_⟩
 rw [e]
 exact fun H' r s v fz=>h x.1 x.2 v H' (rel.step r s) s fz (g1.step (s.fzn rel.rel))
theorem zw2{f:TF}{k:Bool×En->R (Fl×En)}{S:Bool->Hp->Prop}{Dn:Ends}(rel:zdt K C ρ σ H)(g:zbU K C H ((f ρ).bind k) Dn)
  (h:∀ b ρ1 H1,zdt K C ρ1 σ H1->Fzn H H1->zbU K C H1 (k (b,ρ1)) Dn->S b H1):tT K f σ H S:=by
 obtain⟨x,e,g1⟩:=g.bnd
 refine⟨ρ,rel.rel,?_⟩
 rw [e]
 exact fun H' r s=>h x.1 x.2 H' (rel.step r s) (s.fzn rel.rel) (g1.step (s.fzn rel.rel))
theorem zw3{f:EF}{k:D×En->R (Fl×En)}{S:VK}{Dn:Ends}(rel:zdt K C ρ σ H)(g:zbU K C H ((f ρ).bind k) Dn)
  (h:∀ d ρ1 a H1,zdt K C ρ1 σ H1->Fzn H H1->H a=none->¬ MA ρ1 σ a->zba K H1 a d->zbU K C H1 (k (d,ρ1)) Dn->S (.ref a) H1):tN K f σ H S:=by
 obtain⟨x,e,g1⟩:=g.bnd
 refine⟨ρ,rel.rel,?_⟩
 rw [e]
 refine fun H' r s a ha m=>h x.1 x.2 a H' (rel.step r s) (s.fzn rel.rel) ha (fun z=>?_) m (g1.step (s.fzn rel.rel))
 obtain⟨o',e',_⟩:=rel.rel.zbi (s.ma.mpr z)
 rw [ha] at e';cases e'
end
structure PSV(K:W.Frag)(X:Cx)(st:Stmt)(f:SF):Prop where
 run:X.K=K->∀ C,PS X st (tS K C f)
instance {K:W.Frag} {X:Cx} {st:Stmt} {f:SF}:CoeFun (PSV K X st f) fun _=>X.K=K->∀ C,PS X st (tS K C f):=⟨PSV.run⟩
structure ziJ(K:W.Frag)(X:Cx)(st:List Stmt)(f:SF):Prop where
 run:X.K=K->∀ C,PSs X st (tS K C f)
instance {K:W.Frag} {X:Cx} {st:List Stmt} {f:SF}:CoeFun (ziJ K X st f) fun _=>X.K=K->∀ C,PSs X st (tS K C f):=⟨ziJ.run⟩
theorem _root_.L2.PS.weak{X:Cx}{e:Stmt}{t t':TS}(h:PS X e t)(w:∀ Dn σ H,t' Dn σ H->t Dn σ H):PS X e t':=fun pins s σ H Dn I q=>h pins s σ H Dn I (w Dn σ H q)
theorem _root_.L2.PSs.weak{X:Cx}{e:List Stmt}{t t':TS}(h:PSs X e t)(w:∀ Dn σ H,t' Dn σ H->t Dn σ H):PSs X e t':=fun pins s σ H Dn I q=>h pins s σ H Dn I (w Dn σ H q)
def tG(K:W.Frag)(dom:List Nat)(g:GF):TG:=fun v σ H Q=>∃ ρ d ρ1,Rel K ρ σ H/\Fz K H d v/\g d ρ=.ok ρ1/\∀ σ1,Rel K ρ1 σ1 H->Chg dom ρ ρ1 σ σ1->Q σ1 H
def tGs(K:W.Frag)(dom:List Nat)(gs:List GF):TGs:=fun vs σ H Q=>∃ ρ ds ρ1,Rel K ρ σ H/\zag K H ds vs/\zkE gs ds ρ=.ok ρ1/\∀ σ1,Rel K ρ1 σ1 H->Chg dom ρ ρ1 σ σ1->Q σ1 H
structure PVG(K:W.Frag)(X:Cx)(dom:List Nat)(e:Expr)(g:GF):Prop where
 run:X.K=K->PG X e (tG K dom g)
instance {K:W.Frag} {X:Cx} {dom:List Nat} {e:Expr} {g:GF}:CoeFun (PVG K X dom e g) fun _=>X.K=K->PG X e (tG K dom g):=⟨PVG.run⟩
structure zsS(K:W.Frag)(X:Cx)(dom:List Nat)(e:List Expr)(g:List GF):Prop where
 run:X.K=K->PGs X e (tGs K dom g)
instance {K:W.Frag} {X:Cx} {dom:List Nat} {e:List Expr} {g:List GF}:CoeFun (zsS K X dom e g) fun _=>X.K=K->PGs X e (tGs K dom g):=⟨zsS.run⟩
theorem _root_.L2.PG.weak{X:Cx}{e:Expr}{t t':TG}(h:PG X e t)(w:∀ v σ H Q,t' v σ H Q->t v σ H Q):PG X e t':=fun pins s σ H v u Q I r q=>h pins s σ H v u Q I r (w v σ H Q q)
theorem _root_.L2.PGs.weak{X:Cx}{e:List Expr}{t t':TGs}(h:PGs X e t)(w:∀ v σ H Q,t' v σ H Q->t v σ H Q):PGs X e t':=fun pins s σ H v u Q I r q=>h pins s σ H v u Q I r (w v σ H Q q)
theorem Rel.set{K:W.Frag}{ρ:En}{σ:L2.St}{H:Hp}{i:Nat}{x:Sl}{v:Option V}(r:Rel K ρ σ H)(o:zsQ K H x v)(s:∀ a p d,x=.ow p d->v=some (.ref a)->¬ MA ρ σ a):Rel K (ρ.set i x) (σ.set i v) H:=by
 refine⟨by rw [List.length_set,List.length_set];exact r.len,fun j y w e1 e2=>?_,fun j k b h1 h2=>?_,r.cst⟩
 ·by_cases c:i=j
  ·subst c
   by_cases hl:i<ρ.length
   ·rw [List.getElem?_set_self hl] at e1
    rw [List.getElem?_set_self (by rw [<- r.len];exact hl)] at e2
    cases e1;cases e2
    exact o
   ·rw [List.getElem?_eq_none (by rw [List.length_set];omega)] at e1;cases e1
  ·rw [List.getElem?_set_ne c] at e1 e2
   exact r.ok j y w e1 e2
 ·have w:∀ j b,At (ρ.set i x) (σ.set i v) j b->(j=i/\(∃ p d,x=.ow p d)/\v=some (.ref b))\/(j≠i/\At ρ σ j b):=fun j b ⟨⟨q,dd,e1⟩,e2⟩=>by
   by_cases c:i=j
   ·subst c
    have hl:i<ρ.length:=by
     have:=(List.getElem?_eq_some_iff.mp e1).1
     rwa [List.length_set] at this
    rw [List.getElem?_set_self hl] at e1
    rw [List.getElem?_set_self (by rw [<- r.len];exact hl)] at e2
    cases e1;cases e2
    exact .inl ⟨rfl,⟨q,dd,rfl⟩,rfl⟩
   ·rw [List.getElem?_set_ne c] at e1 e2
    exact .inr ⟨fun z=>c z.symm,⟨q,dd,e1⟩,e2⟩
  rcases w j b h1 with⟨rfl,⟨p,d,e⟩,e'⟩|⟨n1,a1⟩
  ·rcases w k b h2 with⟨rfl,_,_⟩|⟨n2,a2⟩
   ·rfl
   ·exact absurd ⟨k,a2⟩ (s b p d e e')
  ·rcases w k b h2 with⟨rfl,⟨p,d,e⟩,e'⟩|⟨n2,a2⟩
   ·exact absurd ⟨j,a1⟩ (s b p d e e')
   ·exact r.sep j k b a1 a2
section
variable {K:W.Frag}{X:Cx}{pos:Pos}
theorem zlC{i:Nat}{d:D}{ρ ρ1:En}(h:gN i d ρ=.ok ρ1):ρ1=ρ.set i (.val d)/\(∀ e,ρ[i]?≠some (.ow true e))/\i<ρ.length:=by
 unfold gN at h
 cases e:ρ[i]? with
 | none=>rw [e] at h;cases h
 | some x =>
  rw [e] at h
  have hl:i<ρ.length:=(List.getElem?_eq_some_iff.mp e).1
  cases x with
  | no=>cases h;exact⟨rfl,(fun _ z=>nomatch z),hl⟩
  | val c=>cases h;exact⟨rfl,(fun _ z=>nomatch z),hl⟩
  | ob c ds=>cases h;exact⟨rfl,(fun _ z=>nomatch z),hl⟩
  | ow p c =>
   cases p with
   | true=>cases h
   | false=>cases h;exact⟨rfl,(fun _ z=>nomatch z),hl⟩
theorem ziz{ρ:En}{σ:L2.St}{i:Nat}{d:D}{v:Option V}(n:∀ e,ρ[i]?≠some (.ow true e))(hl:i<ρ.length):Chg [i] ρ (ρ.set i (.val d)) σ (σ.set i v):=⟨List.length_set,fun j=>by
 by_cases c:i=j
 ·subst c
  exact .inr ⟨List.mem_singleton.mpr rfl,⟨d,List.getElem?_set_self hl⟩,n⟩
 ·exact .inl ⟨List.getElem?_set_ne c,List.getElem?_set_ne c⟩⟩
theorem zpo{i:Nat}{x:Str}(hN:X.N.Nodup)(hi:X.N[i]?=some x)(hx:Loc X.env.scope x)(hf:X.fn x=true\/X.env.scope.names.lookup x=some .local:=by first|exact .inl rfl|exact .inr rfl|assumption):PVG K X [i] (.Name x pos) (gN i):=.mk fun _=>(zr1 hN hi hx hf).weak fun v σ H Q=>by
 rintro⟨ρ,d,ρ1,rel,fz,e,q⟩
 obtain⟨rfl,n,hl⟩:=zlC e
 exact q _ (rel.set fz fun _ _ _ z=>nomatch z) (ziz n hl)
theorem zfI:zsS K X [] [] []:=.mk fun _=>zr0.weak fun vs σ H Q=>by
 rintro⟨ρ,ds,ρ1,rel,fz,e,q⟩
 cases ds with
 | nil =>
  cases e
  simp only [zag] at fz
  exact⟨fz,q _ rel .refl⟩
 | cons _ _=>cases e
theorem zaj{α β:Type}{r:R α}{k:α->R β}{b:β}(h:r.bind k=.ok b):∃ a,r=.ok a/\k a=.ok b:=by
 cases r with
 | ok a=>exact⟨a,rfl,h⟩
 | _=>cases h
theorem zbo{e:Expr}{es:List Expr}{g:GF}{gs:List GF}{d1 d2:List Nat}(h1:PVG K X d1 e g)(h2:zsS K X d2 es gs)
  (hs:(assignEach (e::es) X.env).map (·.2)=assign e X.env::(assignEach es X.env).map (·.2):=by rfl):zsS K X (d1++d2) (e::es) (g::gs):=.mk fun hK=>(zpC (h1 hK) (h2 hK) hs).weak fun vs σ H Q=>by
 rintro⟨ρ,ds,ρ1,rel,fz,e,q⟩
 cases ds with
 | nil=>cases e
 | cons d ds =>
  simp only [zag] at fz
  obtain⟨v,r,rfl,f1,f2⟩:=fz
  obtain⟨ρ2,e2,e3⟩:=zaj (show(g d ρ).bind (fun ρ1=>zkE gs ds ρ1)=.ok ρ1 from e)
  exact⟨v,r,rfl,ρ,d,ρ2,rel,f1,e2,fun σ1 rel1 c1=>⟨ρ2,ds,ρ1,rel1,f2,e3,fun σ2 rel2 c2=>q σ2 rel2 (c1.trans c2)⟩⟩
theorem ziv:∀{gs:List GF} {ds:List D} {ρ ρ1:En},zkE gs ds ρ=.ok ρ1->ds.length=gs.length
 | [],[],_,_,_=>rfl
 | [],_::_,_,_,e=>by cases e
 | _::_,[],_,_,e=>by cases e
 | g::gs,d::ds,ρ,ρ1,e=>by
  obtain⟨ρ2,e2,e3⟩:=zaj (show(g d ρ).bind (fun ρ1=>zkE gs ds ρ1)=.ok ρ1 from e)
  simp [ziv e3]
theorem zke{es:List Expr}{k:Nat}{gs:List GF}{dom:List Nat}(hc:X.calm=true)(h:zsS K X dom es gs)
  (hn:(assignEach es X.env).length=gs.length:=by rfl)(hst:(assignEach es X.env).findIdx? (·.1)=none:=by rfl):PVG K X dom (.Tuple es k pos) (gT gs):=.mk fun hK=>by
 subst hK
 refine(ztL hc (h rfl) hn hst).weak fun v σ H Q=>?_
 rintro⟨ρ,d,ρ1,rel,fz,e,q⟩
 cases d with
 | tuple ds =>
  simp only [Fz] at fz
  obtain⟨a,vs,rfl,s,f⟩:=fz
  replace e:zkE gs ds ρ=.ok ρ1:=e
  exact⟨a,vs,rfl,.inl s,by rw [f.len,ziv e],ρ,ds,ρ1,rel,f,e,q⟩
 | _=>cases e
variable {st:Stmt}{rest:List Stmt}{s t:SF}{e:Expr}{f:EF}
theorem zaB:ziJ K X [] sNx:=.mk fun _ C=>zrP.weak fun Dn σ H=>by
 rintro⟨ρ,rel,g⟩
 exact g σ H rel (Fzn.refl H)
theorem zaf(h1:PSV K X st s)(h2:ziJ K X rest t):ziJ K X (st::rest) (zax s t):=.mk fun hK C=>(zpx (h1 hK C) (h2 hK C)).weak fun Dn σ H=>by
 rintro⟨ρ,rel,g⟩
 refine⟨ρ,rel,?_⟩
 obtain⟨x,ex,g1⟩:=g.bnd
 rw [ex]
 obtain⟨fl,ρ1⟩:=x
 cases fl with
 | nx=>exact fun σ' H' r z=>⟨ρ1,r,g1.step z⟩
 | bk=>exact g1
 | ct=>exact g1
 | rt d=>exact g1
 | rf d=>exact g1
theorem zap(h1:PSV K X st s):ziJ K X [st] s:=.mk fun hK C=>zrO (h1 hK C)
theorem zf1:PSV K X st zmT:=.mk fun _ C=>zpz.weak fun Dn σ H=>by
 rintro⟨ρ,rel,g⟩
 exact g.elim
theorem zfH(he:PV K X e f)(hs:swapsWith e none pos.line X.env=pure false:=by rfl):PSV K X (.Expr e pos) (sE f):=.mk fun hK C=>(zm9 (he hK) hs).weak fun Dn σ H=>by
 rintro⟨ρ,rel,g⟩
 exact zmj rel g fun d ρ1 v H1 rel1 st1 fz g1=>g1 σ H1 rel1 (Fzn.refl H1)
theorem zrD(he:PV K X e f):PSV K X (.Return (some e) pos) (zay f):=.mk fun hK C=>(zm8 (he hK)).weak fun Dn σ H=>by
 rintro⟨ρ,rel,g⟩
 exact zmj rel g fun d ρ1 v H1 rel1 st1 fz g1=>g1 v σ H1 rel1 fz
theorem zcu(he:PVN K X e f):PSV K X (.Return (some e) pos) (zb4 f):=.mk fun hK C=>(zm8 (he hK)).weak fun Dn σ H=>by
 rintro⟨ρ,rel,g⟩
 exact zw3 rel g fun d ρ1 a H1 rel1 fz ha n m g1=>g1 a σ H1 rel1 (rel.fresh ha) m
theorem zh4{y:Str}{py:Pos}(i:Nat)(ha:PE X (.Name y py) (zgS i)):PSV K X (.Return (some (.Name y py)) pos) (zfr i):=.mk fun hK C=>(zm8 ha).weak fun Dn σ H=>by
 rintro⟨ρ,rel,g⟩
 unfold zfr at g
 cases e:ρ[i]? with
 | none=>rw [e] at g;exact g.elim
 | some x =>
  rw [e] at g
  cases x with
  | ow p d =>
   cases p with
   | false =>
    obtain⟨a,at0,m⟩:=rel.rel.zln (d:=d) (show zaw ρ i=.ok d by unfold zaw;rw [e])
    exact⟨.ref a,at0.2,g a σ H rel (rel.own i a d e at0.2) m⟩
   | true=>exact g.elim
  | _=>exact g.elim
theorem zaS{c:Expr}{a b:List Stmt}{tc:TF}(hc:PVT K X c tc)(ha:ziJ K X a s)(hb:ziJ K X b t):PSV K X (.If c a b pos) (sIf tc s t):=.mk fun hK C=>(zv1 (hc hK) (ha hK C) (hb hK C)).weak fun Dn σ H=>by
 rintro⟨ρ,rel,g⟩
 refine zw2 rel g fun cb ρ1 H1 rel1 fz g1=>?_
 cases cb with
 | true=>exact zpX ⟨ρ1,rel1,g1⟩
 | false=>exact zpY ⟨ρ1,rel1,g1⟩
theorem zm1{tg:Expr}{g:GF}{dom:List Nat}(he:PV K X e f)(hg:PVG K X dom tg g)(hs:swapsWithSole [tg] e pos.line X.env=pure false:=by rfl)(hw:swappedStores [tg] e X.env=pure none:=by rfl)
  (h1:(assignEach [tg] X.env).map (·.2)=[assign tg X.env]:=by rfl):PSV K X (.Assign [tg] e pos) (zaQ g f):=.mk fun hK C=>(zqt (he hK) (hg hK) hs hw h1).weak fun Dn σ H=>by
 rintro⟨ρ,rel,q⟩
 refine zmj rel q fun d ρ1 v H1 rel1 st1 fz q1=>?_
 obtain⟨ρ2,e2,q2⟩:=q1.bnd
 exact⟨ρ1,d,ρ2,rel1.rel,fz,e2,fun σ1 rel2 c=>q2 σ1 H1 (rel1.chg rel2 c) (Fzn.refl H1)⟩
theorem zrC{i:Nat}{x:Str}{pos':Pos}(hN:X.N.Nodup)(hi:X.N[i]?=some x)(hx:Loc X.env.scope x)(he:PV K X e f)(hs:swapsWith e (some (.Name x pos')) pos.line X.env=pure false:=by rfl)(hf:X.fn x=true\/X.env.scope.names.lookup x=some .local:=by first|exact .inl rfl|exact .inr rfl|assumption) :
  PSV K X (.Assign [.Name x pos'] e pos) (zaQ (gN i) f):=.mk fun hK C=>(zqr hN hi hx (he hK) hs hf).weak fun Dn σ H=>by
 rintro⟨ρ,rel,q⟩
 refine zmj rel q fun d ρ1 v H1 rel1 st1 fz q1=>?_
 obtain⟨ρ2,e2,q2⟩:=q1.bnd
 obtain⟨rfl,n,hl⟩:=zlC e2
 exact q2 _ H1 (rel1.chg (rel1.rel.set fz fun _ _ _ z=>nomatch z) (ziz n hl)) (Fzn.refl H1)
theorem zwp{i:Nat}{C:SC}(Dn:Ends)(σ:L2.St)(H:Hp)(q0:tS K C (zgU i f) Dn σ H):zvz (tN K f) (zsy i) Dn σ H:=by
 revert q0
 rintro⟨ρ,rel,q⟩
 refine zw3 rel q fun d ρ1 a H1 rel1 fz ha n m q1=>?_
 have hf:=rel.fresh ha
 replace q1:zbU K C H1 (match ρ1[i]? with|some (.ow true _)=>.bad|some _=>.ok (.nx,ρ1.set i (.ow false d))|none=>.bad) Dn:=q1
 have fin:(∀ e,ρ1[i]?≠some (.ow true e))->i<ρ1.length->zdt K C (ρ1.set i (.ow false d)) (σ.set i (some (.ref a))) H1:=fun np hl=>by
  have hls:i<σ.length:=by rw [<- rel1.rel.len];exact hl
  refine⟨rel1.rel.set (show zsQ K H1 (.ow false d) (some (.ref a)) from m) fun b p c e1 e2=>by cases e2;exact n,rel1.keep,fun j b c e1 e2=>?_,fun j=>?_,fun j c e1=>?_,rel1.prm⟩
  ·by_cases k:i=j
   ·subst k
    rw [List.getElem?_set_self hls] at e2
    cases e2
    exact hf
   ·rw [List.getElem?_set_ne k] at e1 e2
    exact rel1.own j b c e1 e2
  ·by_cases k:i=j
   ·subst k
    rw [List.getElem?_set_self hl,<- rel1.pin i]
    constructor
    ·rintro⟨_,z⟩;cases z
    ·rintro⟨c,z⟩;exact absurd z (np c)
   ·rw [List.getElem?_set_ne k];exact rel1.pin j
  ·by_cases k:i=j
   ·subst k
    rw [List.getElem?_set_self hl] at e1;cases e1
   ·rw [List.getElem?_set_ne k] at e1 ⊢
    exact rel1.fix j c e1
 cases e1:ρ1[i]? with
 | none=>rw [e1] at q1;exact q1.elim
 | some y =>
  have hl:i<ρ1.length:=(List.getElem?_eq_some_iff.mp e1).1
  rw [e1] at q1
  cases y with
  | no=>exact q1 _ H1 (fin (fun e z=>by rw [e1] at z;cases z) hl) (Fzn.refl H1)
  | val c=>exact q1 _ H1 (fin (fun e z=>by rw [e1] at z;cases z) hl) (Fzn.refl H1)
  | ob c ds=>exact q1 _ H1 (fin (fun e z=>by rw [e1] at z;cases z) hl) (Fzn.refl H1)
  | ow p c =>
   cases p with
   | true=>exact q1.elim
   | false=>exact q1 _ H1 (fin (fun e z=>by rw [e1] at z;cases z) hl) (Fzn.refl H1)
theorem zrF{i:Nat}{x:Str}{pos':Pos}(hN:X.N.Nodup)(hi:X.N[i]?=some x)(hx:Loc X.env.scope x)(he:PVN K X e f)(hs:swapsWith e (some (.Name x pos')) pos.line X.env=pure false:=by rfl)(hf:X.fn x=true\/X.env.scope.names.lookup x=some .local:=by first|exact .inl rfl|exact .inr rfl|assumption) :
  PSV K X (.Assign [.Name x pos'] e pos) (zgU i f):=.mk fun hK C=>(zqr hN hi hx (he hK) hs hf).weak fun Dn σ H q=>zwp Dn σ H q
theorem znC{ρ:En}{i:Nat}{c:List D}(h:zcy ρ i=.ok c):∃ p,ρ[i]?=some (.ow p (.list c)):=by
 unfold zcy at h
 cases e:ρ[i]? with
 | none=>rw [e] at h;cases h
 | some x =>
  rw [e] at h
  cases x with
  | ow p d =>
   cases d with
   | list a=>cases h;exact⟨p,rfl⟩
   | _=>cases h
  | _=>cases h
theorem Rel.zvi{ρ:En}{σ:L2.St}{H:Hp}{i:Nat}{c:List D}(r:Rel K ρ σ H)(h:zcy ρ i=.ok c):∃ a vs,At ρ σ i a/\H a=some (.lst vs)/\zag K H c vs:=by
 obtain⟨p,e⟩:=znC h
 obtain⟨a,at0,m⟩:=r.zln (d:=.list c) (show zaw ρ i=.ok (.list c) by unfold zaw;rw [e])
 obtain⟨vs,h1,h2⟩:=m
 exact⟨a,vs,at0,h1,h2⟩
theorem Rel.zw1{ρ ρ1:En}{σ:L2.St}{H1:Hp}{i:Nat}{c:List D}{a:Addr}(r:Rel K ρ1 σ H1)(h:zcy ρ1 i=.ok c)(at0:At ρ σ i a):∃ vs,At ρ1 σ i a/\H1 a=some (.lst vs)/\zag K H1 c vs:=by
 obtain⟨b,vs,ab,h1,h2⟩:=r.zvi h
 have:=at0.2.symm.trans ab.2
 cases this
 exact⟨vs,ab,h1,h2⟩
theorem zn7{C:SC}{ρ:En}{σ:L2.St}{H:Hp}{i:Nat}{a:Addr}{o:HO}{d:D}{Dn:Ends}(rel:zdt K C ρ σ H)(at0:At ρ σ i a)(m:zba K (upd H a o) a d)(g:zbU K C H (.ok (.nx,zaN ρ i d)) Dn):Dn.nx σ (upd H a o):=by
 have st:Stp ρ (zaN ρ i d) σ H (upd H a o):=zk8 at0
 exact g σ _ (rel.step (rel.rel.zxx at0 m) st) (st.fzn rel.rel)
theorem zqN{C:SC}{ρ:En}{σ:L2.St}{H:Hp}{i:Nat}{a:Addr}{o:HO}(rel:zdt K C ρ σ H)(at0:At ρ σ i a):Fzn H (upd H a o):=(zk8 (d:=.none) at0).fzn rel.rel
theorem zl3{y name:Str}{py apos cpos:Pos}(i:Nat)(hnm:name="append") (ha:PE X (.Name y py) (zgS i)) (he:PV K X e f)
  (hbase:attributeBase (.Name y py) name X.env (eval (.Name y py) X.env)=eval (.Name y py) X.env:=by rfl)
  (hfew:((backTo cpos (starEach [e] X.env)).all (fun x=>!x.1)&&(backToKw cpos (keywordEach [] X.env)).all (fun x=>x.1.isSome)&&decide ([e].length+([]:List Keyword).length+(if([]:List Keyword).isEmpty then 0 else 1)<30))=true:=by rfl)
  (hline:(apos.endLine==cpos.line)=true:=by rfl) (hst:starEach [e] X.env=(false,eval e X.env)::starEach [] X.env:=by exact FL.se rfl) (hplain:(backTo cpos (starEach [] X.env)).any (·.1)=false:=by exact FL.sp rfl)
  (hs:swapsWith (.Call (.Attribute (.Name y py) name apos) [e] [] cpos) none pos.line X.env=pure false:=by rfl):PSV K X (.Expr (.Call (.Attribute (.Name y py) name apos) [e] [] cpos) pos) (zoT i zoD f):=.mk fun hK C=>by
 subst hK
 subst hnm
 refine(zm9 (zv6 PySem.F.plainAttrs_list PySem.F.slot_list_append PySem.F.type_list_append zja ha (zcc (he rfl) zhl hst) hbase hfew hline hst hplain) hs).weak fun Dn σ H=>?_
 rintro⟨ρ,rel,g⟩
 obtain⟨d,ed,g1⟩:=g.bnd
 obtain⟨a,vs0,at0,h0,_⟩:=rel.rel.zvi ed
 refine⟨.ref a,at0.2,.inl ⟨rfl,vs0,SqL.of h0⟩,zmj rel g1 fun dx ρ1 v H1 rel1 st1 fz g2=>?_⟩
 obtain⟨c,ec,g3⟩:=g2.bnd
 obtain⟨c',ec',g4⟩:=g3.bnd
 obtain⟨vs,at1,h1,h2⟩:=rel1.rel.zw1 ec at0
 obtain⟨cc,ec'⟩:=za3 ec'
 cases ec'
 have hz:vs.length<sizeLine:=by
  have:=zii cc
  have l0:=zb6
  rw [h2.len];omega
 refine⟨a,vs,v,rfl,rfl,h1,hz,zn7 (d:=.list (c++[dx])) rel1 at1 ⟨_,zan,(h2.app ?_).mono (zqN rel1 at1)⟩ g4⟩
 simp only [zag]
 exact⟨v,[],rfl,fz,rfl⟩
theorem zh3{y:Str}{py ps':Pos}{ke:Expr}{k:EF}(i:Nat)(ha:PE X (.Name y py) (zgS i))(he:PV K X e f)(hk:PV K X ke k)
  (has:∀ v,assign (.Subscript (.Name y py) ke ps') X.env v=(do
   let ov <- holding [v] (eval (.Name y py) X.env)
   let iv <- holding [v,ov] (eval ke X.env)
   standAt ps'
   holding [v,ov,iv] (setItem ov iv v)
   release [v,ov,iv] []):=by intro _;rfl)
  (hs:swapsWithSole [.Subscript (.Name y py) ke ps'] e pos.line X.env=pure false:=by rfl)(hw:swappedStores [.Subscript (.Name y py) ke ps'] e X.env=pure none:=by rfl)
  (h1:(assignEach [.Subscript (.Name y py) ke ps'] X.env).map (·.2)=[assign (.Subscript (.Name y py) ke ps') X.env]:=by rfl):PSV K X (.Assign [.Subscript (.Name y py) ke ps'] e pos) (setM i f k):=.mk fun hK C=>by
 subst hK
 refine(zqt (he rfl) (ztM ha (hk rfl) set_list has) hs hw h1).weak fun Dn σ H=>?_
 rintro⟨ρ,rel,g⟩
 refine zmj rel g fun dx ρ1 v H1 rel1 st1 fz g1=>?_
 obtain⟨d,ed,g2⟩:=g1.bnd
 obtain⟨a,vs0,at0,h0,_⟩:=rel1.rel.zvi ed
 refine⟨.ref a,at0.2,zmj rel1 g2 fun dk ρ2 kv H2 rel2 st2 fk g3=>?_⟩
 obtain⟨c,ec,g4⟩:=g3.bnd
 obtain⟨vs,at1,h1,h2⟩:=rel2.rel.zw1 ec at0
 cases dk with
 | int j =>
  obtain⟨n,en,g5⟩:=(show zbU X.K C H2 ((R.of (FL.ixN c.length j)).bind fun n=>.ok (.nx,zaN ρ2 i (.list (c.set n dx)))) Dn from g4).bnd
  simp only [Fz] at fk
  subst fk
  refine⟨a,vs,j,n,rfl,rfl,h1,?_,zn7 (d:=.list (c.set n dx)) rel2 at1 ⟨_,zan,(h2.set n (fz.mono (st2.fzn rel1.rel))).mono (zqN rel2 at1)⟩ g5⟩
  rw [h2.len]
  cases e2:FL.ixN c.length j with
  | none=>rw [e2] at en;cases en
  | some m=>rw [e2] at en;cases en;exact e2
 | _=>exact g4.elim
end
end
section
variable [Cs]
def Walk(K:W.Frag)(J:It)(items:List D)(H:Hp):Prop :=
 (∀ i d H',Fzn H H'->items[i]?=some d->J.go i H'/\∀ x H'',J.yld i H' x H''->zaP H' H''/\Fz K H'' d x)/\∀ i H',Fzn H H'->items.length<=i->J.stop i H'
def tI(K:W.Frag)(it:IF):TI:=fun σ H R=>∃ ρ,Rel K ρ σ H/\Good K ρ σ H (it ρ) fun items _ H'=>∀ J,Walk K J items H'->R J H'
structure PVI(K:W.Frag)(X:Cx)(tg e:Expr)(it:IF):Prop where
 run:X.K=K->PI X tg e (tI K it)
instance {K:W.Frag} {X:Cx} {tg e:Expr} {it:IF}:CoeFun (PVI K X tg e it) fun _=>X.K=K->PI X tg e (tI K it):=⟨PVI.run⟩
theorem _root_.L2.PI.weak{X:Cx}{tg e:Expr}{t t':TI}(h:PI X tg e t)(w:∀ σ H R,t' σ H R->t σ H R):PI X tg e t':=fun pins s σ H R I q=>h pins s σ H R I (w σ H R q)
section
variable {K:W.Frag}{X:Cx}{tg e:Expr}{f:EF}{pos:Pos}
theorem ztJ{l:Expr}{tl:TE}(hl:PE X l tl):PI X tg l (fun σ H R=>tl σ H fun x H1=>∃ a,x=.ref a/\(((∃ xs,SqL X.K H1 a xs)/\R (Itl X.K a) H1)\/((∃ xs,SqT X.K H1 a xs)/\R (Itt X.K a) H1))):=by
 intro pins s σ H R I h
 refine thn (hl pins s σ H _ I h) fun v s1 ⟨x,H1,I1,r1,q1⟩=>?_
 obtain⟨a,e,q1⟩:=q1
 subst e
 cases r1
 rcases q1 with⟨⟨xs,hq⟩,q⟩|⟨⟨xs,hq⟩,q⟩
 ·obtain⟨its,rv,p,hz⟩:=I1.list hq
  refine wpAny_pyIter_list p.isList ?_
  refine⟨s1.heap.objs.size,[s1.heap.objs.size],_,_,H1,rfl,I1.kept (t':=s1.toks) fun b o e=>Heap.get?_push_of_some _ e,ziU a _,⟨_,Heap.get?_push_size _ rfl,rfl,rfl⟩,fun b hb=>?_,q⟩
  have e:b=s1.heap.objs.size:=by simpa using hb
  subst e
  exact I1.zoX (Nat.le_refl _) (I1.hok.fresh (Nat.le_refl _))
 ·obtain⟨its,rv,p,hz⟩:=I1.tuple hq
  refine wpAny_pyIter_tuple (show s1.heap.IsTuple a its.toArray from p) ?_
  refine⟨s1.heap.objs.size,[s1.heap.objs.size],_,_,H1,rfl,I1.kept (t':=s1.toks) fun b o e=>Heap.get?_push_of_some _ e,zlU a _,⟨_,Heap.get?_push_size _ rfl,rfl,rfl⟩,fun b hb=>?_,q⟩
  have e:b=s1.heap.objs.size:=by simpa using hb
  subst e
  exact I1.zoX (Nat.le_refl _) (I1.hok.fresh (Nat.le_refl _))
theorem zmB{H:Hp}{a:Addr}{vs:List V}{items:List D}(h:FzL K H a vs)(f:zag K H items vs):Walk K (Itl K a) items H:=by
 refine⟨fun i d H' fz e=>?_,fun i H' fz e=>⟨vs,(fz.zrk h).sq,by rw [f.len];exact e⟩⟩
 obtain⟨v,ev,_⟩:=f.get e
 refine⟨⟨vs,v,(fz.zrk h).sq,ev⟩,fun x H'' y=>?_⟩
 obtain⟨rfl,y⟩:=y
 have ex:=y vs (fz.zrk h).sq
 obtain⟨v',ev',fv⟩:=(f.mono fz).get e
 rw [ex] at ev'
 cases ev'
 exact⟨zaP.refl _,fv⟩
theorem zo2{H:Hp}{a:Addr}{vs:List V}{items:List D}(h:TAt H a vs)(f:zag K H items vs):Walk K (Itt K a) items H:=by
 refine⟨fun i d H' fz e=>?_,fun i H' fz e=>⟨vs,.inl (fz.zve h),by rw [f.len];exact e⟩⟩
 obtain⟨v,ev,_⟩:=f.get e
 refine⟨⟨vs,v,.inl (fz.zve h),ev⟩,fun x H'' y=>?_⟩
 obtain⟨rfl,y⟩:=y
 have ex:=y vs (.inl (fz.zve h))
 obtain⟨v',ev',fv⟩:=(f.mono fz).get e
 rw [ex] at ev'
 cases ev'
 exact⟨zaP.refl _,fv⟩
theorem zeJ(he:PV K X e f):PVI K X tg e (iE f):=.mk fun hK=>by
 subst hK
 refine(ztJ (he rfl)).weak fun σ H R=>?_
 rintro⟨ρ,rel,q⟩
 refine goV rel q fun dx ρ1 x H1 rel1 st1 fx q1=>?_
 obtain⟨items,ei,q2⟩:=q1.zdF
 cases dx with
 | list a =>
  cases ei
  simp only [Fz] at fx
  obtain⟨l,vs,rfl,sx,f⟩:=fx
  exact⟨l,rfl,.inl ⟨⟨vs,sx.sq⟩,q2.now rel1 _ (zmB sx f)⟩⟩
 | tuple a =>
  cases ei
  simp only [Fz] at fx
  obtain⟨l,vs,rfl,sx,f⟩:=fx
  exact⟨l,rfl,.inr ⟨⟨vs,.inl sx⟩,q2.now rel1 _ (zo2 sx f)⟩⟩
 | _=>cases ei
theorem p62:(2:Int)^62=4611686018427387904:=by decide
theorem zro{lo hi:Int}{i:Nat}{d:D}(h:(rng lo hi)[i]?=some d):i<(hi-lo).toNat/\d=.int (lo+i):=by
 unfold rng at h
 rw [List.getElem?_map] at h
 by_cases c:i<(hi-lo).toNat
 ·rw [List.getElem?_range c] at h
  cases h
  exact⟨c,rfl⟩
 ·rw [List.getElem?_eq_none (by rw [List.length_range];omega)] at h;cases h
theorem zo3{H:Hp}(lo hi:Int):Walk K (Itr lo (hi-lo).toNat) (rng lo hi) H:=by
 refine⟨fun i d H' fz e=>?_,fun i H' fz e=>?_⟩
 ·obtain⟨c,rfl⟩:=zro e
  refine⟨c,fun x H'' y=>?_⟩
  obtain⟨rfl,rfl⟩:=y
  exact⟨zaP.refl _,zci _⟩
 ·show(hi-lo).toNat<=i
  simpa [rng] using e
theorem zhf{a:Expr}{fa:AF}{p:Pos}(hg:Gl X "range") (hm:X.mg "range"=none) (ha:PVA K X [a] fa) (hs:starEach [a] X.env=[(false,eval a X.env)]:=by exact FL.se rfl):PVI K X tg (.Call (.Name "range" p) [a] [] pos) (iR1 fa):=.mk fun hK=>(znf hg hm (ha hK) hs).weak fun σ H R=>by
 rintro⟨ρ,rel,q⟩
 refine goA rel q fun ds ρ1 vs H1 rel1 st1 fs q1=>?_
 obtain⟨items,ei,q2⟩:=q1.zdF
 cases ds with
 | nil=>cases ei
 | cons d r =>
  cases r with
  | cons _ _=>cases d <;> cases ei
  | nil =>
   cases d with
   | int j =>
    obtain⟨c,ei⟩:=za3 (show chk (zl0 j&&leB j.toNat lim) (.ok (rng 0 j))=.ok items from ei)
    cases ei
    simp only [zag,Fz] at fs
    obtain⟨_,_,rfl,rfl,rfl⟩:=fs
    simp only [zl0,Bool.and_eq_true,leB_iff] at c
    have:=zo3 (K:=K) (H:=H1) 0 j
    rw [Int.sub_zero] at this
    have e62:=p62
    exact⟨j,rfl,by omega,by omega,q2.now rel1 _ this⟩
   | _=>cases ei
variable {it:IF}{g:GF}{b t:SF}{body:List Stmt}
theorem zrG{dom:List Nat}(hp:PassesOwn (model X.prog X.w) X.A X.env X.xe)(hc:X.calm=true)(hi:PVI K X tg e it)(hg:PVG K X dom tg g)(hb:ziJ K X body b)(hs:∀ x,foldedSetIterable e X.env x=pure x:=by intro _;rfl):PSV K X (.For tg e body [] pos) (zfY it g b):=.mk fun hK C =>
 (zqs hp hc (hi hK) (hg hK) (hb hK C) hs).weak fun Dn σ0 H0=>by
 rintro⟨ρ0,rel0,q⟩
 obtain⟨x,ex,q⟩:=q.bnd
 refine⟨ρ0,rel0.rel,?_⟩
 rw [ex]
 intro Hs r st J wk
 have rel1:=rel0.step r st
 have q1:=q.step (st.fzn rel0.rel)
 obtain⟨items,ρs⟩:=x
 refine⟨fun i m σ H=>m=items.length-i/\i<=items.length/\∃ ρ,zdt K C ρ σ H/\Fzn Hs H/\zbU K C H (forL g b (items.drop i) ρ) Dn,⟨items.length,by simp,Nat.zero_le _,ρs,rel1,Fzn.refl _,q1⟩,?_⟩
 rintro i m σ H ⟨rfl,hi,ρ,rel,fz,gd⟩
 by_cases c:i<items.length
 ·have ed:=List.drop_eq_getElem_cons c
  rw [ed] at gd
  obtain⟨hgo,hy⟩:=wk.1 i items[i] H fz (List.getElem?_eq_getElem c)
  refine .inr ⟨hgo,fun σ' H'=>∃ ρ,zdt K C ρ σ' H'/\Fzn Hs H'/\zbU K C H' (forL g b (items.drop (i+1)) ρ) Dn,fun σ' H' n=>⟨items.length-(i+1),by omega,rfl,c,n⟩,fun x H3 y=>?_⟩
  obtain⟨sm,fx⟩:=hy x H3 y
  have rel3:zdt K C ρ σ H3:=rel.step (rel.rel.same sm) (.of sm)
  obtain⟨ρ1,e1,gd1⟩:=gd.bnd
  refine⟨ρ,items[i],ρ1,rel3.rel,fx,e1,fun σ1 rel4 chg=>⟨ρ1,rel3.chg rel4 chg,?_⟩⟩
  obtain⟨y,ey,gd2⟩:=gd1.bnd
  rw [ey]
  have gd3:=gd2.step (Fzn.of sm)
  have fz3:=fz.trans (Fzn.of sm)
  obtain⟨fl,ρ2⟩:=y
  cases fl with
  | nx=>exact fun σ' H' r z=>⟨ρ2,r,fz3.trans z,gd3.step z⟩
  | ct=>exact fun σ' H' r z=>⟨ρ2,r,fz3.trans z,gd3.step z⟩
  | bk=>exact gd3
  | rt d=>exact gd3
  | rf d=>exact gd3
 ·have e:i=items.length:=by omega
  subst e
  rw [List.drop_length] at gd
  exact .inl ⟨wk.2 _ H fz (Nat.le_refl _),gd σ H rel (Fzn.refl _)⟩
theorem zi2{c:Expr}{tc:TF}(fuel:En->Nat)(hp:PassesOwn (model X.prog X.w) X.A X.env X.xe)(hc:PVT K X c tc)(hb:ziJ K X body b):PSV K X (.While c body [] pos) (zfW fuel tc b):=.mk fun hK C =>
 (zpy hp (hc hK) (hb hK C)).weak fun Dn σ0 H0=>by
 rintro⟨ρ0,rel0,q⟩
 refine⟨fun m σ H=>∃ ρ,zdt K C ρ σ H/\zbU K C H (zfU tc b m ρ) Dn,⟨fuel ρ0,ρ0,rel0,q⟩,?_⟩
 rintro m σ H ⟨ρ,rel,gd⟩
 cases m with
 | zero=>exact gd.elim
 | succ n =>
  refine zw2 rel gd fun cb ρ1 H1 rel1 fz g1=>?_
  cases cb with
  | false=>exact zpY (g1 σ H1 rel1 (Fzn.refl _))
  | true =>
   refine zpX ⟨fun σ' H'=>∃ ρ,zdt K C ρ σ' H'/\zbU K C H' (zfU tc b n ρ) Dn,fun σ' H' z=>⟨n,Nat.lt_succ_self _,z⟩,ρ1,rel1,?_⟩
   obtain⟨y,ey,gd2⟩:=(show zbU K C H1 ((b ρ1).bind fun y=>match y.1 with
   | .nx | .ct=>zfU tc b n y.2
   | .bk=>.ok (.nx,y.2)
   | .rt d=>.ok (.rt d,y.2)
   | .rf d=>.ok (.rf d,y.2)) Dn from g1).bnd
   rw [ey]
   obtain⟨fl,ρ2⟩:=y
   cases fl with
   | nx=>exact fun σ' H' r z=>⟨ρ2,r,gd2.step z⟩
   | ct=>exact fun σ' H' r z=>⟨ρ2,r,gd2.step z⟩
   | bk=>exact gd2
   | rt d=>exact gd2
   | rf d=>exact gd2
end
end
section
variable [Cs]
section
variable {K:W.Frag}{ρ:En}{σ:L2.St}{H H':Hp}{k:Nat}{ix:List Nat}
theorem zow{j:Nat}(h:j<k):(blk k ix ρ)[j]?=some .no:=by
 unfold blk
 rw [List.getElem?_append_left (by simpa using h),List.getElem?_replicate,if_pos h]
theorem zlO(j:Nat):(blk k ix ρ)[k+j]?=(ix[j]?).map fun i=>(ρ[i]?).getD .no:=by
 unfold blk
 rw [List.getElem?_append_right (by simp),List.length_replicate,Nat.add_sub_cancel_left,List.getElem?_map]
theorem zor(j:Nat):(zep k ix σ)[k+j]?=(ix[j]?).map fun i=>(σ[i]?).getD none:=by
 unfold zep
 rw [List.getElem?_append_right (by simp),List.length_replicate,Nat.add_sub_cancel_left,List.getElem?_map]
theorem zhD{j:Nat}{a:Addr}(h:At (blk k ix ρ) (zep k ix σ) j a):∃ j' i,j=k+j'/\ix[j']?=some i/\At ρ σ i a:=by
 obtain⟨⟨p,d,e1⟩,e2⟩:=h
 by_cases c:j<k
 ·rw [zow c] at e1;cases e1
 ·obtain⟨j',rfl⟩:∃ j',j=k+j':=⟨j-k,by omega⟩
  rw [zlO] at e1
  rw [zor] at e2
  cases ei:ix[j']? with
  | none=>rw [ei] at e1;cases e1
  | some i =>
   rw [ei] at e1 e2
   refine⟨j',i,rfl,ei,⟨p,d,?_⟩,?_⟩
   ·simp only [Option.map_some,Option.some.injEq] at e1
    cases er:ρ[i]? with
    | none=>rw [er] at e1;cases e1
    | some x=>rw [er] at e1;simpa using e1
   ·simp only [Option.map_some,Option.some.injEq] at e2
    cases es:σ[i]? with
    | none=>rw [es] at e2;cases e2
    | some x=>rw [es] at e2;simpa using e2
theorem znp{l:List Nat}(h:l.Nodup){i j x:Nat}(a:l[i]?=some x)(b:l[j]?=some x):i=j:=by
 obtain⟨h1,e1⟩:=List.getElem?_eq_some_iff.mp a
 obtain⟨h2,e2⟩:=List.getElem?_eq_some_iff.mp b
 exact(List.getElem_inj h).mp (e1.trans e2.symm)
theorem zov(nd:ix.Nodup)(r:Rel K ρ σ H):Rel K (blk k ix ρ) (zep k ix σ) H:=by
 refine⟨by simp [blk,zep],fun j x v e1 e2=>?_,fun i j a h1 h2=>?_,r.cst⟩
 ·by_cases c:j<k
  ·rw [zow c] at e1;cases e1;trivial
  ·obtain⟨j',rfl⟩:∃ j',j=k+j':=⟨j-k,by omega⟩
   rw [zlO] at e1
   rw [zor] at e2
   cases ei:ix[j']? with
   | none=>rw [ei] at e1;cases e1
   | some i =>
    rw [ei] at e1 e2
    simp only [Option.map_some,Option.some.injEq] at e1 e2
    cases er:ρ[i]? with
    | none=>rw [er] at e1;cases e1;trivial
    | some y =>
     have hl:i<σ.length:=by rw [<- r.len];exact(List.getElem?_eq_some_iff.mp er).1
     rw [er] at e1
     rw [List.getElem?_eq_getElem hl] at e2
     cases e1;cases e2
     exact r.ok i _ _ er (List.getElem?_eq_getElem hl)
 ·obtain⟨i',x,rfl,e1,a1⟩:=zhD h1
  obtain⟨j',y,rfl,e2,a2⟩:=zhD h2
  have:=r.sep x y a a1 a2
  subst this
  rw [znp nd e1 e2]
theorem zkO{m:List (Nat×Sl)}:∀(ρ:En) (n i:Nat),(bkL m n ρ)[i]?=(ρ[i]?).map (bk1 m (n+i))
 | [],n,i=>by simp [bkL]
 | x::r,n,0=>by simp [bkL]
 | x::r,n,i+1=>by
  simp only [bkL,zz1]
  rw [zkO r (n+1) i,show n+1+i=n+(i+1) by omega]
theorem zlQ{cs:En}(i:Nat):(back ρ ix cs)[i]?=(ρ[i]?).map (bk1 (ix.zip cs) i):=by
 unfold back
 rw [zkO,Nat.zero_add]
theorem zkN{m:List (Nat×Sl)}:∀(ρ:En) (n:Nat),(bkL m n ρ).length=ρ.length
 | [],n=>rfl
 | x::r,n=>by simp [bkL,zkN r]
theorem zg8:∀{ix:List Nat} {cs:En} {i:Nat} {c:Sl},(ix.zip cs).lookup i=some c->∃ j:Nat,ix[j]?=some i/\cs[j]?=some c
 | [],cs,i,c,h=>by simp at h
 | x::r,[],i,c,h=>by simp at h
 | x::r,y::s,i,c,h=>by
  rw [List.zip_cons_cons,List.lookup_cons] at h
  by_cases e:i=x
  ·subst e
   simp only [beq_self_eq_true] at h
   cases h
   exact⟨0,rfl,rfl⟩
  ·rw [beq_false_of_ne e] at h
   obtain⟨j,h1,h2⟩:=zg8 h
   exact⟨j+1,by simpa using h1,by simpa using h2⟩
theorem zdX:∀{ix:List Nat} {cs:En} {i j:Nat} {c:Sl},ix.Nodup->ix[j]?=some i->cs[j]?=some c->(ix.zip cs).lookup i=some c
 | [],cs,i,j,c,_,h1,_=>by simp at h1
 | x::r,[],i,j,c,_,_,h2=>by simp at h2
 | x::r,y::s,i,j,c,nd,h1,h2=>by
  rw [List.zip_cons_cons,List.lookup_cons]
  cases j with
  | zero =>
   simp at h1 h2
   subst h1;subst h2
   simp
  | succ j =>
   simp at h1 h2
   have:i≠x:=fun z=>by
    subst z
    exact(List.nodup_cons.mp nd).1 (List.mem_of_getElem? h1)
   rw [beq_false_of_ne this]
   exact zdX (List.nodup_cons.mp nd).2 h1 h2
theorem ziF{β:En}{σβ:L2.St}(nd:ix.Nodup)(r:Rel K ρ σ H)(hs:∀ j,σβ[k+j]?=(zep k ix σ)[k+j]?)(rb:Rel K β σβ H')
  (md:∀ j p,(∃ d,β[k+j]?=some (.ow p d))↔∃ d,(blk k ix ρ)[k+j]?=some (.ow p d))(kp:∀ a o,H a=some o->¬ MA (blk k ix ρ) (zep k ix σ) a->H' a=some o) :
  Rel K (back ρ ix (β.drop k)) σ H'/\Stp ρ (back ρ ix (β.drop k)) σ H H':=by
 have hm:∀ a,MA (blk k ix ρ) (zep k ix σ) a->MA ρ σ a:=fun a ⟨j,h⟩=>by
  obtain⟨_,i,_,_,h⟩:=zhD h
  exact⟨i,h⟩
 have fz:Fzn H H':=fun a o h st=>kp a o h fun m=>by
  obtain⟨o',e,w⟩:=r.zbi (hm a m)
  rw [h] at e
  cases e
  exact w.zd9 st
 have mdB:∀(i:Nat) p,(∃ d,ρ[i]?=some (.ow p d))↔∃ d,(back ρ ix (β.drop k))[i]?=some (.ow p d):=fun i p=>by
  rw [zlQ]
  constructor
  ·rintro⟨d,e⟩
   rw [e]
   simp only [Option.map_some,bk1]
   split
   ·rename_i p' d1 q' d2 h1 h2;cases h1;exact⟨_,rfl⟩
   ·exact⟨_,rfl⟩
  ·rintro⟨d,e⟩
   cases er:ρ[i]? with
   | none=>rw [er] at e;cases e
   | some x =>
    rw [er] at e
    simp only [Option.map_some,Option.some.injEq,bk1] at e
    split at e
    ·cases e;exact⟨_,rfl⟩
    ·subst e;exact⟨_,rfl⟩
 have atB:∀ i a,At (back ρ ix (β.drop k)) σ i a->At ρ σ i a:=fun i a ⟨⟨p,d,e1⟩,e2⟩=>⟨⟨p,(mdB i p).mpr ⟨d,e1⟩⟩,e2⟩
 refine⟨⟨by rw [show(back ρ ix (β.drop k)).length=ρ.length from zkN _ _];exact r.len,fun i x v e1 e2=>?_,fun i j a h1 h2=>r.sep i j a (atB i a h1) (atB j a h2),r.cst.mono fz⟩,⟨mdB,fun a o h n=>kp a o h fun m=>n (hm a m)⟩⟩
 rw [zlQ] at e1
 cases er:ρ[i]? with
 | none=>rw [er] at e1;cases e1
 | some y =>
  rw [er] at e1
  simp only [Option.map_some,Option.some.injEq] at e1
  have o:=r.ok i y v er e2
  cases y with
  | no=>simp only [bk1] at e1;subst e1;trivial
  | val d =>
   simp only [bk1] at e1
   subst e1
   exact o.mono fz fun a _ ⟨p,d',z⟩=>nomatch z
  | ob c ds =>
   simp only [bk1] at e1
   subst e1
   exact o.mono fz fun a _ ⟨p,d',z⟩=>nomatch z
  | ow p d =>
   cases v with
   | none=>exact o.elim
   | some v =>
    cases v with
    | ref a =>
     have ai:At ρ σ i a:=⟨⟨p,d,er⟩,e2⟩
     cases el:(ix.zip (β.drop k)).lookup i with
     | none =>
      simp only [bk1,el] at e1
      subst e1
      refine o.mono fz fun b e3 _=>?_
      cases e3
      obtain⟨u,hu,_⟩:=r.zbi ⟨i,ai⟩
      rw [hu]
      refine kp a u hu fun⟨j,h⟩=>?_
      obtain⟨j',i',rfl,ej,h'⟩:=zhD h
      have:=r.sep i i' a ai h'
      subst this
      have hb:β[k+j']?≠none:=fun z=>by
       have:∃ d,β[k+j']?=some (.ow p d):=(md j' p).mpr ⟨d,by rw [zlO,ej];simp [er]⟩
       obtain⟨_,w⟩:=this
       rw [z] at w;cases w
      cases hbe:β[k+j']? with
      | none=>exact hb hbe
      | some c =>
       have:(β.drop k)[j']?=some c:=by rw [List.getElem?_drop];exact hbe
       rw [zdX nd ej this] at el
       cases el
     | some c =>
      obtain⟨j,hj,hc⟩:=zg8 el
      rw [List.getElem?_drop] at hc
      have bm:(blk k ix ρ)[k+j]?=some (.ow p d):=by rw [zlO,hj];simp [er]
      obtain⟨d',hd'⟩:=(md j p).mpr ⟨d,bm⟩
      rw [hc] at hd'
      cases hd'
      simp only [bk1,el] at e1
      subst e1
      have es:σβ[k+j]?=some (some (.ref a)):=by rw [hs j,zor,hj];simp [e2]
      exact rb.ok (k+j) _ _ hc es
    | _=>exact o.elim
end
theorem zlz{K:W.Frag}{k:Nat}{dom:List Nat}{g:GF}(hd:dom.all (fun i=>decide (i<k))=true):zoO k (tG K dom g):=fun x σ H Q=>by
 rintro⟨ρ,d,ρ1,rel,fz,e,q⟩
 refine⟨ρ,d,ρ1,rel,fz,e,fun σ1 rel1 c=>⟨⟨c.1,fun i hi=>?_⟩,q σ1 rel1 c⟩⟩
 rcases c.2 i with⟨_,c2⟩|⟨m,_⟩
 ·exact c2
 ·have:=of_decide_eq_true (List.all_eq_true.mp hd i m)
  omega
structure zsR(K:W.Frag)(X:Cx)(ifs:List Expr)(t:TF):Prop where
 run:X.K=K->PTs X ifs (tT K t)
instance {K:W.Frag} {X:Cx} {ifs:List Expr} {t:TF}:CoeFun (zsR K X ifs t) fun _=>X.K=K->PTs X ifs (tT K t):=⟨zsR.run⟩
theorem _root_.L2.PTs.weak{X:Cx}{e:List Expr}{t t':TT}(h:PTs X e t)(w:∀ σ H Q,t' σ H Q->t σ H Q):PTs X e t':=fun pins s σ H Q I q=>h pins s σ H Q I (w σ H Q q)
theorem zct{K:W.Frag}{X:Cx}:zsR K X [] zbE:=.mk fun _=>zrM.weak fun σ H Q=>by
 rintro⟨ρ,rel,q⟩
 exact q.now rel
section
variable {K:W.Frag}{X:Cx}{elt tg iter:Expr}{ifs:List Expr}{scope:Scope}{pos:Pos}{it:IF}{g:GF}{t:TF}{f:EF}{dom:List Nat}
theorem zuG{k:Nat}{ix:List Nat}(nd:ix.Nodup)(hgo:dom.all (fun i=>decide (i<k))=true)(σ:L2.St)(H:Hp)(Q:VK)(q:tN K (zcG k ix it g t f) σ H Q):zrg k ix (tI K it) (tG K dom g) (tT K t) (tV K f) σ H Q:=by
 revert q
 rintro⟨ρ0,rel0,q⟩
 obtain⟨x,ex,q⟩:=q.bnd
 refine⟨ρ0,rel0,?_⟩
 rw [ex]
 intro H1 rel1 st1 J wk l hl
 obtain⟨items,ρs⟩:=x
 have hl0:H l=none:=by
  cases e:H l with
  | none=>rfl
  | some o =>
   by_cases m:MA ρ0 σ l
   ·obtain⟨o',e',_⟩:=rel1.zbi (st1.ma.mp m)
    rw [hl] at e';cases e'
   ·rw [st1.kp l o e m] at hl;cases hl
 have sl:zaP H1 (upd H1 l (.lst [])):=zaP.upd hl
 refine⟨fun i m ys H2=>m=items.length-i/\i<=items.length/\H2 l=some (.lst ys)/\∃ ρ acc,Rel K ρ σ H2/\¬ MA ρ σ l/\zag K H2 acc ys/\Fzn H1 H2/\Stp ρ0 ρ σ H H2 /\
  Good K ρ0 σ H ((zdS k ix g t f (items.drop i) ρ acc).bind fun(y:List D×En)=>.ok ((PyData.list y.1:D),y.2)) fun d ρ' H'=>∀ a,H a=none->zba K H' a d->Q (.ref a) H',
  ⟨items.length,by simp,Nat.zero_le _,zan,ρs,[],rel1.same sl,fun z=>?_,by simp [zag],Fzn.of sl,st1.trans (.of sl),q⟩,?_⟩
 ·obtain⟨o',e',_⟩:=rel1.zbi z
  rw [hl] at e';cases e'
 rintro i m ys H2 ⟨rfl,hi,hly,ρ,acc,rel,nma,fa,fz,st0,gd⟩
 refine⟨hly,?_⟩
 by_cases c:i<items.length
 ·have ed:=List.drop_eq_getElem_cons c
  rw [ed] at gd
  obtain⟨hgo',hy⟩:=wk.1 i items[i] H2 fz (List.getElem?_eq_getElem c)
  refine .inr ⟨hgo',fun x H3 y=>?_⟩
  obtain⟨sm,fx⟩:=hy x H3 y
  have rel3:Rel K ρ σ H3:=rel.same sm
  obtain⟨w,ew,gd⟩:=gd.zdF
  obtain⟨β1,e1,ew⟩:=zaj (show(g items[i] (blk k ix ρ)).bind _=.ok w from ew)
  obtain⟨c1,ec,ew⟩:=zaj ew
  refine⟨blk k ix ρ,items[i],β1,zov nd rel3,fx,e1,fun σ1 relβ chg=>⟨β1,relβ,?_⟩⟩
  rw [ec]
  intro H5 rel5 st5
  have hσ:∀ j,σ1[k+j]?=(zep k ix σ)[k+j]?:=fun j=>by
   rcases chg.2 (k+j) with⟨_,c2⟩|⟨m,_⟩
   ·exact c2
   ·have:=of_decide_eq_true (List.all_eq_true.mp hgo _ m)
    omega
  have hβ:∀ j,β1[k+j]?=(blk k ix ρ)[k+j]?:=fun j=>by
   rcases chg.2 (k+j) with⟨c2,_⟩|⟨m,_⟩
   ·exact c2
   ·have:=of_decide_eq_true (List.all_eq_true.mp hgo _ m)
    omega
  have hMA:∀ a,MA β1 σ1 a->MA (blk k ix ρ) (zep k ix σ) a:=fun a ⟨j,⟨p,d,z1⟩,z2⟩=>by
   rcases chg.2 j with⟨c1,c2⟩|⟨_,⟨d',c1⟩,_⟩
   ·exact⟨j,⟨p,d,by rw [<- c1];exact z1⟩,by rw [<- c2];exact z2⟩
   ·rw [c1] at z1;cases z1
  have hMB:∀ a,MA (blk k ix ρ) (zep k ix σ) a->MA ρ σ a:=fun a ⟨j,h⟩=>by
   obtain⟨_,i,_,_,h⟩:=zhD h
   exact⟨i,h⟩
  have h3l:H3 l=some (.lst ys):=sm l _ hly
  have n1:¬ MA β1 σ1 l:=fun z=>nma (hMB l (hMA l z))
  have h5l:H5 l=some (.lst ys):=st5.kp l _ h3l n1
  obtain⟨cb,β2⟩:=c1
  cases cb with
  | true =>
   refine zpX ⟨β2,rel5,?_⟩
   obtain⟨y,ey,ew⟩:=zaj (show(f β2).bind _=.ok w from ew)
   rw [ey]
   intro H6 rel6 st6 v fv
   obtain⟨cc,ew⟩:=za3 ew
   have n2:¬ MA β2 σ1 l:=fun z=>n1 (st5.ma.mpr z)
   have h6l:H6 l=some (.lst ys):=st6.kp l _ h5l n2
   have st:Stp β1 y.2 σ1 H3 H6:=st5.trans st6
   obtain⟨rb,sb⟩:=ziF (k:=k) nd rel3 hσ rel6 (fun j p=>by rw [<- hβ j];exact(st.md (k+j) p).symm) (fun a o h n=>st.kp a o h fun z=>n (hMA a z))
   have nmb:¬ MA (back ρ ix (y.2.drop k)) σ l:=fun z=>nma (sb.ma.mpr z)
   have fz6:Fzn H2 H6:=(Fzn.of sm).trans (sb.fzn rel3)
   have fz7:Fzn H6 (upd H6 l (.lst (ys++[v]))):=fun b u e s=>by
    rw [zas fun z=>by subst z;rw [h6l] at e;cases e;exact s]
    exact e
   refine⟨h6l,?_,items.length-(i+1),by omega,rfl,c,zan,back ρ ix (y.2.drop k),acc++[y.1],rb.put nmb (fun u e=>by rw [h6l] at e;cases e;exact fun z=>z),nmb,?_,(fz.trans fz6).trans fz7,⟨((st0.trans (.of sm)).trans sb).md,fun a o h n=>?_⟩,?_⟩
   ·have:=zii cc
    have l0:=zb6
    rw [fa.len];omega
   ·refine((fa.mono fz6).mono fz7).app ?_
    simp only [zag]
    exact⟨v,[],rfl,fv.mono fz7,rfl⟩
   ·rw [zas fun z=>by subst z;rw [hl0] at h;cases h]
    exact((st0.trans (.of sm)).trans sb).kp a o h n
   ·rw [ew]
    exact gd
  | false =>
   obtain⟨rb,sb⟩:=ziF (k:=k) nd rel3 hσ rel5 (fun j p=>by rw [<- hβ j];exact(st5.md (k+j) p).symm) (fun a o h n=>st5.kp a o h fun z=>n (hMA a z))
   have nmb:¬ MA (back ρ ix (β2.drop k)) σ l:=fun z=>nma (sb.ma.mpr z)
   have fz6:Fzn H2 H5:=(Fzn.of sm).trans (sb.fzn rel3)
   refine zpY ⟨items.length-(i+1),by omega,rfl,c,h5l,back ρ ix (β2.drop k),acc,rb,nmb,fa.mono fz6,fz.trans fz6,(st0.trans (.of sm)).trans sb,?_⟩
   rw [show zdS k ix g t f (items.drop (i+1)) (back ρ ix (β2.drop k)) acc=.ok w from ew]
   exact gd
 ·have e:i=items.length:=by omega
  subst e
  rw [List.drop_length] at gd
  exact .inl ⟨wk.2 _ H2 fz (Nat.le_refl _),gd H2 rel st0 l hl0 ⟨ys,hly,fa⟩⟩
theorem zpl(L:List Str)(ix:List Nat)(M:List Str)(hc:X.calm=true)(hk:scope.kind=.function)(hd:zde X.env.scope scope X.N ix=true)(hM:M=L++ix.map fun i=>X.N.getD i "") (nd:ix.Nodup) (hi:PVI K X tg iter it)
  (hg:∀ C s₃ H₃ fp,PVG K (zau X M scope C s₃ H₃ fp) dom tg g) (hgo:dom.all (fun i=>decide (i<L.length))=true)
  (ht:∀ C s₃ H₃ fp,zsR K (zau X M scope C s₃ H₃ fp) ifs t) (he:∀ C s₃ H₃ fp,PV K (zau X M scope C s₃ H₃ fp) elt f)
  (hs:∀ x,foldedSetIterable iter X.env x=pure x:=by intro _;rfl) :
  PVN K X (.ListComp elt [⟨tg,iter,ifs,0⟩] scope pos) (zcG L.length ix it g t f):=.mk fun hK=>by
 refine(zpG L ix M hc hk hd hM (hi hK) (fun C s₃ H₃ fp=>hg C s₃ H₃ fp hK) (zlz hgo) (fun C s₃ H₃ fp=>ht C s₃ H₃ fp hK) (fun C s₃ H₃ fp=>he C s₃ H₃ fp hK) hs).weak fun σ H Q q=>zuG nd hgo σ H Q q
end
end
section
variable [Cs]
def spF(K:W.Frag)(ms:List Bool)(fr:Bool)(F:List D->R (D×List D)):Sp:=fun vs H Q _=>∃ ds,vs.length=ms.length/\ds.length=ms.length/\Rel K (slots ms ds) (vs.map some) H /\
 ∃ d os,F ds=.ok (d,os)/\∀ v H',Rel K (slots ms os) (vs.map some) H'->(∀ a o,H a=some o->¬ MA (slots ms ds) (vs.map some) a->H' a=some o) ->
  (if fr=true then ∃ a,v=.ref a/\H a=none/\zba K H' a d else Fz K H' d v)->Q v H'
def spP(K:W.Frag)(n:Nat)(fr:Bool)(G:List D->R D):Sp:=fun vs H Q _=>∃ ds,vs.length=n/\zq5 H/\zag K H ds vs/\∃ d,G ds=.ok d/\∀ v H',zaP H H'->(if fr=true then ∃ a,v=.ref a/\H a=none/\zba K H' a d else Fz K H' d v)->Q v H'
theorem zbF:∀{ms:List Bool} {ds:List D} {i:Nat},ds.length=ms.length->(slots ms ds)[i]?=(ms[i]?).bind fun m=>(ds[i]?).map fun d=>if m=true then Sl.ow true d else Sl.val d
 | [],[],i,_=>by simp [slots]
 | [],_::_,i,h=>by simp at h
 | _::_,[],i,h=>by simp at h
 | m::ms,d::ds,0,_=>by simp [slots]
 | m::ms,d::ds,i+1,h=>by
  simp only [slots,zz1]
  exact zbF (by simpa using h)
theorem zc0:∀{ms:List Bool} {ds:List D},ds.length=ms.length->(slots ms ds).length=ms.length
 | [],[],_=>rfl
 | [],_::_,h=>by simp at h
 | _::_,[],h=>by simp at h
 | m::ms,d::ds,h=>by simp only [slots,List.length_cons];rw [zc0 (by simpa using h)]
theorem zd8:∀{ms:List Bool} {ds:List D} {ρ:En},ds.length=ms.length->(outs ms ds ρ).length=ms.length
 | [],[],_,_=>rfl
 | [],_::_,_,h=>by simp at h
 | _::_,[],_,h=>by simp at h
 | m::ms,d::ds,ρ,h=>by simp only [outs,List.length_cons];rw [zd8 (by simpa using h)]
theorem zlh:∀{ms:List Bool} {ds:List D} {ρ:En} {i:Nat} {m:Bool} {d:D},ms[i]?=some m->ds[i]?=some d->(outs ms ds ρ)[i]?=some (outD m d ρ[i]?)
 | m0::ms,d0::ds,ρ,0,m,d,h1,h2=>by
  simp at h1 h2
  subst h1;subst h2
  simp [outs,List.head?_eq_getElem?]
 | m0::ms,d0::ds,ρ,i+1,m,d,h1,h2=>by
  simp at h1 h2
  simp only [outs,zz1]
  rw [zlh h1 h2,List.getElem?_tail]
 | [],_,_,_,_,_,h,_=>by simp at h
 | _::_,[],_,_,_,_,_,h=>by simp at h
section
variable {K:W.Frag}{ρ:En}{σ:L2.St}{H:Hp}
theorem Rel.pad(r:Rel K ρ σ H)(n:Nat):Rel K (ρ++List.replicate n .no) (σ++List.replicate n none) H:=by
 have w:∀ i a,At (ρ++List.replicate n .no) (σ++List.replicate n none) i a->At ρ σ i a:=fun i a ⟨⟨p,d,e1⟩,e2⟩=>by
  by_cases c:i<ρ.length
  ·rw [List.getElem?_append_left c] at e1
   rw [List.getElem?_append_left (by rw [<- r.len];exact c)] at e2
   exact⟨⟨p,d,e1⟩,e2⟩
  ·rw [List.getElem?_append_right (by omega),List.getElem?_replicate] at e1
   split at e1 <;> cases e1
 refine⟨by simp [r.len],fun i x v e1 e2=>?_,fun i j a h1 h2=>r.sep i j a (w i a h1) (w j a h2),r.cst⟩
 by_cases c:i<ρ.length
 ·rw [List.getElem?_append_left c] at e1
  rw [List.getElem?_append_left (by rw [<- r.len];exact c)] at e2
  exact r.ok i x v e1 e2
 ·rw [List.getElem?_append_right (by omega),List.getElem?_replicate] at e1
  split at e1
  ·cases e1;trivial
  ·cases e1
theorem zum{n:Nat}{a:Addr}(hl:ρ.length=σ.length):MA (ρ++List.replicate n .no) (σ++List.replicate n none) a↔MA ρ σ a:=by
 constructor
 ·rintro⟨i,⟨p,d,e1⟩,e2⟩
  by_cases c:i<ρ.length
  ·rw [List.getElem?_append_left c] at e1
   rw [List.getElem?_append_left (by rw [<- hl];exact c)] at e2
   exact⟨i,⟨p,d,e1⟩,e2⟩
  ·rw [List.getElem?_append_right (by omega),List.getElem?_replicate] at e1
   split at e1 <;> cases e1
 ·rintro⟨i,⟨p,d,e1⟩,e2⟩
  have c:=(List.getElem?_eq_some_iff.mp e1).1
  exact⟨i,⟨p,d,by rw [List.getElem?_append_left c];exact e1⟩,by rw [List.getElem?_append_left (by rw [<- hl];exact c)];exact e2⟩
end
theorem zdl{ms:List Bool}{ds:List D}{i:Nat}{p:Bool}{d:D}(hl:ds.length=ms.length)(e:(slots ms ds)[i]?=some (.ow p d)):p=true/\ms[i]?=some true/\ds[i]?=some d:=by
 rw [zbF hl] at e
 cases em:ms[i]? with
 | none=>rw [em] at e;cases e
 | some m =>
  cases ed:ds[i]? with
  | none=>rw [em,ed] at e;cases e
  | some d' =>
   rw [em,ed] at e
   cases m with
   | true=>simp at e;exact⟨e.1,rfl,by rw [e.2]⟩
   | false=>simp at e
section
variable {P:Program}{w:World}{K:W.Frag}{mg:Str->Option Value}{base:Heap}
theorem zoc{x:Str}{st:Stmt}{f:Addr}{fd:FuncData}{N ps:List Str}{k:Nat}{b:SF}(ms:List Bool)(fr:Bool)(h:Fun K x x st f fd)(S:zdj N ps (zat st))(hps:ps.length=ms.length)(hpN:ps.length<=N.length)
  (hb:∀(cdv:Value) (A:Around) (outer:List Env) (s:Shared) (H:Hp) (E:XK),zbT k (A.deeper (envOfC x (zat st) s.heap.objs.size f cdv))->ziJ K (zoZ (CXe P w) P w K mg base N x (zat st) f cdv A outer s H E) (zbq st) b) :
  zhV P w K mg base (CXe P w) (k+1) f fd ps (spF K ms fr (run ms fr N.length b)):=by
 refine h.okE S (fun vs H Q E ⟨ds,e,_⟩=>by rw [e,hps]) fun cdv A outer s H vs Q E hr hq=>?_
 obtain⟨ds,hv,hd,rel,d,os,hF,q⟩:=hq
 have hst:L2.start N vs=vs.map some++List.replicate (N.length-ds.length) none:=by unfold L2.start;rw [hv,hd]
 refine⟨tS K ⟨H,L2.start N vs,slots ms ds++List.replicate (N.length-ds.length) .no⟩ b,hb cdv A outer s H E hr rfl _,slots ms ds++List.replicate (N.length-ds.length) .no,?_,?_⟩
 ·have tru:∀(i:Nat) p d,(slots ms ds++List.replicate (N.length-ds.length) .no)[i]?=some (.ow p d)->p=true:=fun i p d e=>by
   by_cases c:i<(slots ms ds).length
   ·rw [List.getElem?_append_left c] at e
    exact(zdl hd e).1
   ·rw [List.getElem?_append_right (by omega),List.getElem?_replicate] at e
    split at e <;> cases e
  refine⟨?_,fun a o e _=>e,fun i a d e _=>absurd (tru i false d e) Bool.false_ne_true,fun i=>Iff.rfl,fun i d e=>rfl,tru⟩
  rw [hst]
  exact rel.pad _
 ·unfold run at hF
  rw [if_pos hd] at hF
  obtain⟨y,ey,hF⟩:=zaj hF
  rw [ey]
  have fin:∀(ρ':En) (σ':L2.St) (H':Hp),zdt K ⟨H,L2.start N vs,slots ms ds++List.replicate (N.length-ds.length) .no⟩ ρ' σ' H' ->
    Rel K (slots ms (outs ms ds ρ')) (vs.map some) H'/\(∀ a o,H a=some o->¬ MA (slots ms ds) (vs.map some) a->H' a=some o):=fun ρ' σ' H' r=>by
   have hl0:(slots ms ds).length=(vs.map some).length:=by rw [zc0 hd,List.length_map,hv]
   have kp:∀ a o,H a=some o->¬ MA (slots ms ds) (vs.map some) a->H' a=some o:=fun a o e n=>r.keep a o e fun z=>n (by
    have z':MA (slots ms ds++List.replicate (N.length-ds.length) .no) (L2.start N vs) a:=z
    rw [hst] at z'
    exact(zum hl0).mp z')
   have fz:Fzn H H':=fun a o e sy=>kp a o e fun m=>by
    obtain⟨o',e',ow⟩:=rel.zbi m
    rw [e] at e'
    cases e'
    exact ow.zd9 sy
   refine⟨?_,kp⟩
   have pinned:∀(i:Nat) d0,ms[i]?=some true->ds[i]?=some d0->∃ d',ρ'[i]?=some (.ow true d')/\σ'[i]?=(vs.map some)[i]?:=fun i d0 em ed=>by
    have hi:i<(slots ms ds).length:=by rw [zc0 hd];exact(List.getElem?_eq_some_iff.mp em).1
    have e0:(slots ms ds++List.replicate (N.length-ds.length) .no)[i]?=some (.ow true d0):=by
     rw [List.getElem?_append_left hi,zbF hd,em,ed];rfl
    obtain⟨d',e'⟩:=(r.pin i).mpr ⟨d0,e0⟩
    refine⟨d',e',?_⟩
    rw [r.fix i d' e']
    show(L2.start N vs)[i]?=_
    rw [hst,List.getElem?_append_left (by rw [<- hl0];exact hi)]
   have ho:(outs ms ds ρ').length=ms.length:=zd8 hd
   refine⟨by rw [zc0 ho,List.length_map,hv],fun i x v e1 e2=>?_,fun i j a h1 h2=>?_,rel.cst.mono fz⟩
   ·rw [zbF ho] at e1
    cases em:ms[i]? with
    | none=>rw [em] at e1;cases e1
    | some m =>
     have hi:i<ds.length:=by rw [hd];exact(List.getElem?_eq_some_iff.mp em).1
     have ed:=List.getElem?_eq_getElem hi
     rw [em,zlh em ed] at e1
     cases m with
     | true =>
      obtain⟨d',e3,e4⟩:=pinned i _ em ed
      rw [e3] at e1
      cases e1
      rw [<- e4] at e2
      exact r.rel.ok i _ _ e3 e2
     | false =>
      cases e1
      have e5:(slots ms ds)[i]?=some (.val ds[i]):=by rw [zbF hd,em,ed];rfl
      exact(rel.ok i _ _ e5 e2).mono fz fun a _ ⟨p,d',z⟩=>nomatch z
   ·have w:∀ i a,At (slots ms (outs ms ds ρ')) (vs.map some) i a->At (slots ms ds) (vs.map some) i a:=fun i a ⟨⟨p,d0,e1⟩,e2⟩=>by
     obtain⟨rfl,em,_⟩:=zdl ho e1
     have hi:i<ds.length:=by rw [hd];exact(List.getElem?_eq_some_iff.mp em).1
     have ed:=List.getElem?_eq_getElem hi
     exact⟨⟨true,ds[i],by rw [zbF hd,em,ed];rfl⟩,e2⟩
    exact rel.sep i j a (w i a h1) (w j a h2)
  obtain⟨fl,ρ'⟩:=y
  cases fr with
  | false =>
   cases fl with
   | rt dr =>
    cases hF
    exact fun v σ' H' r fz=>q v H' (fin ρ' σ' H' r).1 (fin ρ' σ' H' r).2 fz
   | nx =>
    cases hF
    exact fun σ' H' r fz=>q .non H' (fin ρ' σ' H' r).1 (fin ρ' σ' H' r).2 (by show Fz K H' .none .non;simp [Fz])
   | _=>cases hF
  | true =>
   cases fl with
   | rf dr =>
    cases hF
    exact fun a σ' H' r ha m=>q (.ref a) H' (fin ρ' σ' H' r).1 (fin ρ' σ' H' r).2 ⟨a,rfl,ha,m⟩
   | _=>cases hF
theorem zuM{x:Str}{st:Stmt}{N ps:List Str}{k:Nat}{b:SF}(ms:List Bool)(fr:Bool)(h:Has K mg x st)(S:zdj N ps (zat st))(hps:ps.length=ms.length)(hpN:ps.length<=N.length)
  (hbi:∀(kV doc pm:Value) (an:Option Addr) (cdv ct:Value) (us:List Value),us.length=ps.length->bindArgs (PySem.W.fnOf x x (zcI st) (zbq st) (zat st) .none kV doc pm an cdv ct) ⟨us,[]⟩=pure (ps.zip us))
  (hb:∀(f:Addr) (cdv:Value) (A:Around) (outer:List Env) (s:Shared) (H:Hp) (E:XK),zbT k (A.deeper (envOfC x (zat st) s.heap.objs.size f cdv))->ziJ K (zoZ (CXe P w) P w K mg base N x (zat st) f cdv A outer s H E) (zbq st) b) :
  Callee P w K mg base x (k+1) ps (spF K ms fr (run ms fr N.length b)):=by
 obtain⟨f,fd,hm,F⟩:=h
 exact⟨f,fd,hm,F.kp,F.binds hbi,zoc ms fr F S hps hpN (hb f)⟩
end
end
section
variable [Cs]
theorem zdK:∀{n:Nat} {ds:List D},ds.length=n->slots (List.replicate n false) ds=ds.map Sl.val
 | 0,[],_=>rfl
 | n+1,d::ds,h=>by
  simp only [List.replicate_succ,slots,List.map_cons]
  rw [zdK (by simpa using h)]
  rfl
 | 0,_::_,h=>by simp at h
 | n+1,[],h=>by simp at h
theorem zpc{K:W.Frag}{H:Hp}:∀{ds:List D} {vs:List V},zq5 H->zag K H ds vs->Rel K (ds.map Sl.val) (vs.map some) H:=fun{ds vs} cst f=>by
 refine⟨by simp [f.len],fun i x v e1 e2=>?_,fun i j a ⟨⟨p,d,e⟩,_⟩=>?_,cst⟩
 ·rw [List.getElem?_map] at e1 e2
  cases ed:ds[i]? with
  | none=>rw [ed] at e1;cases e1
  | some d =>
   obtain⟨u,eu,fu⟩:=f.get ed
   rw [ed] at e1
   rw [eu] at e2
   cases e1;cases e2
   exact fu
 ·rw [List.getElem?_map] at e
  cases ed:ds[i]? with
  | none=>rw [ed] at e;cases e
  | some d=>rw [ed] at e;cases e
theorem zl7{ds:List D}{σ:L2.St}{a:Addr}:¬ MA (ds.map Sl.val) σ a:=by
 rintro⟨i,⟨p,d,e⟩,_⟩
 rw [List.getElem?_map] at e
 cases ed:ds[i]? with
 | none=>rw [ed] at e;cases e
 | some d=>rw [ed] at e;cases e
section
variable {P:Program}{w:World}{K:W.Frag}{mg:Str->Option Value}{base:Heap}{x:Str}{k:Nat}{ps:List Str}
theorem zhV.pure{f:Addr}{fd:FuncData}{n m:Nat}{fr:Bool}{b:SF}(F:zhV P w K mg base (CXe P w) k f fd ps (spF K (List.replicate n false) fr (run (List.replicate n false) fr m b))):zhV P w K mg base (CXe P w) k f fd ps (spP K n fr (za7 fr n m b)):=by
 refine F.imp fun vs H Q E=>?_
 rintro⟨ds,hv,cst,f,d,e,q⟩
 have hd:ds.length=n:=by rw [<- f.len,hv]
 obtain⟨y,ey,e⟩:=zaj e
 cases e
 refine⟨ds,by simpa using hv,by simpa using hd,by rw [zdK hd];exact zpc cst f,y.1,y.2,by rw [ey],fun v H' r kp fin=>q v H' (fun a o e=>kp a o e (by rw [zdK hd];exact zl7)) fin⟩
theorem Callee.pure{n m:Nat}{fr:Bool}{b:SF}(c:Callee P w K mg base x k ps (spF K (List.replicate n false) fr (run (List.replicate n false) fr m b))):Callee P w K mg base x k ps (spP K n fr (za7 fr n m b)):=by
 obtain⟨f,fd,h1,h2,h3,F⟩:=c
 exact⟨f,fd,h1,h2,h3,zhV.pure F⟩
end
def zsU(fa:AF)(n:Nat):Prop:=∀ ρ y,fa ρ=.ok y->y.1.length=n
theorem zlR:zsU zah 0:=fun ρ y h=>by cases h;rfl
theorem zjP{f:EF}{a:AF}{n:Nat}(h:zsU a n):zsU (zaa f a) (n+1):=fun ρ y e=>by
 obtain⟨x,_,e⟩:=zaj (show(f ρ).bind _=.ok y from e)
 obtain⟨z,e2,e⟩:=zaj e
 cases e
 simp [h _ _ e2]
section
variable {K:W.Frag}{X:Cx}{k j n:Nat}{ps:List Str}{E:XK}{x:Str}{p pos:Pos}{e:Expr}{es:List Expr}{G:List D->R D}{fa:AF}
theorem zrK(c:Callee X.prog X.w X.K X.mg X.base x k ps (spP X.K n false G))(hr:zbT j X.A)(hg:Gl X x)(hx:Passes (CXe X.prog X.w) X E)(ha:PVA K X (e::es) fa)(hl:zsU fa n)(hj:k<=j:=by decide)(hdb:(x==("__debug__":Str))=false:=by decide)
  (he:starEach (e::es) X.env=(false,eval e X.env)::starEach es X.env:=by exact FL.se rfl) (hpl:(backTo pos (starEach es X.env)).any (·.1)=false:=by exact FL.sp rfl):PV K X (.Call (.Name x p) (e::es) [] pos) (zae G fa):=.mk fun hK=>by
 subst hK
 refine(zd7 c hr hg hx (ha rfl) hj hdb he hpl).weak fun σ H Q=>?_
 rintro⟨ρ,rel,q⟩
 obtain⟨y,ey,q0⟩:=q.bnd
 have hy:=hl ρ y ey
 refine⟨ρ,rel,?_⟩
 rw [ey]
 intro H1 rel1 st1 vs fs
 obtain⟨d,ed,q2⟩:=(q0.step st1).zdF
 rw [List.append_nil]
 exact⟨y.1,by rw [fs.len,hy],rel1.cst,fs,d,ed,fun v H' s fin=>q2.new rel1 s v fin⟩
theorem zpm(c:Callee X.prog X.w X.K X.mg X.base x k ps (spP X.K n true G))(hr:zbT j X.A)(hg:Gl X x)(hx:Passes (CXe X.prog X.w) X E)(ha:PVA K X (e::es) fa)(hl:zsU fa n)(hj:k<=j:=by decide)(hdb:(x==("__debug__":Str))=false:=by decide)
  (he:starEach (e::es) X.env=(false,eval e X.env)::starEach es X.env:=by exact FL.se rfl) (hpl:(backTo pos (starEach es X.env)).any (·.1)=false:=by exact FL.sp rfl):PVN K X (.Call (.Name x p) (e::es) [] pos) (zae G fa):=.mk fun hK=>by
 subst hK
 refine(zd7 c hr hg hx (ha rfl) hj hdb he hpl).weak fun σ H Q=>?_
 rintro⟨ρ,rel,q⟩
 obtain⟨y,ey,q0⟩:=q.bnd
 have hy:=hl ρ y ey
 refine⟨ρ,rel,?_⟩
 rw [ey]
 intro H1 rel1 st1 vs fs
 obtain⟨d,ed,q2⟩:=(q0.step st1).zdF
 rw [List.append_nil]
 refine⟨y.1,by rw [fs.len,hy],rel1.cst,fs,d,ed,fun v H' s fin=>?_⟩
 obtain⟨a,rfl,ha,m⟩:=fin
 refine q2.new rel1 s a ?_ m
 cases e0:H a with
 | none=>rfl
 | some o =>
  by_cases mm:MA ρ σ a
  ·obtain⟨o',e',_⟩:=rel1.zbi (st1.ma.mp mm)
   rw [ha] at e';cases e'
  ·rw [st1.kp a o e0 mm] at ha;cases ha
def ziR(K:W.Frag)(σ:L2.St)(H₀ H:Hp):List Itm->List V->Prop
 | [],vs=>vs=[]
 | .vd d::r,vs=>∃ v t,vs=v::t/\Fz K H d v/\ziR K σ H₀ H r t
 | .mi i::r,vs=>∃ v t,vs=v::t/\σ[i]?=some (some v)/\ziR K σ H₀ H r t
 | .td d::r,vs=>∃ a t,vs=.ref a::t/\zba K H a d/\H₀ a=none/\ziR K σ H₀ H r t
theorem Stp.old{ρ ρ1:En}{σ:L2.St}{H H1:Hp}(st:Stp ρ ρ1 σ H H1)(rel1:Rel K ρ1 σ H1){a:Addr}(ha:H1 a=none):H a=none:=by
 cases e0:H a with
 | none=>rfl
 | some o =>
  by_cases mm:MA ρ σ a
  ·obtain⟨o',e',_⟩:=rel1.zbi (st.ma.mp mm)
   rw [ha] at e';cases e'
  ·rw [st.kp a o e0 mm] at ha;cases ha
theorem ziR.back{σ:L2.St}{H H1 H2:Hp}(h:∀ a,H1 a=none->H a=none):∀{l:List Itm} {vs:List V},ziR K σ H1 H2 l vs->ziR K σ H H2 l vs
 | [],vs,z=>z
 | .vd d::r,vs,z=>by
  obtain⟨v,t,e,f,z⟩:=z
  exact⟨v,t,e,f,ziR.back h z⟩
 | .mi i::r,vs,z=>by
  obtain⟨v,t,e,f,z⟩:=z
  exact⟨v,t,e,f,ziR.back h z⟩
 | .td d::r,vs,z=>by
  obtain⟨v,t,e,f,g,z⟩:=z
  exact⟨v,t,e,f,h _ g,ziR.back h z⟩
def tAr(K:W.Frag)(a:List Ar):TA:=fun σ H Q=>∃ ρ,Rel K ρ σ H/\Good K ρ σ H (zgR a ρ) fun l _ H'=>∀ vs,ziR K σ H H' l vs->Q vs H'
structure zmp(K:W.Frag)(X:Cx)(es:List Expr)(a:List Ar):Prop where
 run:X.K=K->PA X es (tAr K a)
instance {K:W.Frag} {X:Cx} {es:List Expr} {a:List Ar}:CoeFun (zmp K X es a) fun _=>X.K=K->PA X es (tAr K a):=⟨zmp.run⟩
theorem zaU:zmp K X [] []:=.mk fun _=>zhl.weak fun σ H Q=>by
 rintro⟨ρ,rel,q⟩
 exact q.now rel [] rfl
theorem zbu{f:EF}{a:List Ar}(he:PV K X e f)(hr:zmp K X es a)(hs:starEach (e::es) X.env=(false,eval e X.env)::starEach es X.env:=by exact FL.se rfl):zmp K X (e::es) (.v f::a):=.mk fun hK=>(zcc (he hK) (hr hK) hs).weak fun σ H Q=>by
 rintro⟨ρ,rel,q⟩
 refine goV rel q fun dx ρ1 x H1 rel1 st1 fx q1=>?_
 obtain⟨y,ey,q2⟩:=q1.bnd
 refine⟨ρ1,rel1,?_⟩
 rw [ey]
 exact fun H2 rel2 st2 vs it=>(q2.step st2).now rel2 _ ⟨x,vs,rfl,fx.mono (st2.fzn rel1),it.back fun a ha=>st1.old rel1 ha⟩
theorem ztB{a:List Ar}{y:Str}{py:Pos}(i:Nat)(ha:PE X (.Name y py) (zgS i))(hr:zmp K X es a)(hs:starEach (.Name y py::es) X.env=(false,eval (.Name y py) X.env)::starEach es X.env:=by exact FL.se rfl):zmp K X (.Name y py::es) (.m i::a):=.mk fun hK=>(zcc ha (hr hK) hs).weak fun σ H Q=>by
 rintro⟨ρ,rel,q⟩
 obtain⟨d,ed,q1⟩:=(show Good K ρ σ H ((zaw ρ i).bind fun _=>(zgR a ρ).bind fun y=>.ok (.mi i::y.1,y.2)) _ from q).zdF
 obtain⟨ad,at0,_⟩:=rel.zln ed
 obtain⟨y,ey,q2⟩:=q1.bnd
 refine⟨.ref ad,at0.2,ρ,rel,?_⟩
 rw [ey]
 exact fun H2 rel2 st2 vs it=>(q2.step st2).now rel2 _ ⟨.ref ad,vs,rfl,at0.2,it⟩
def arM:List Ar->List Bool
 | []=>[]
 | .v _::r=>false::arM r
 | .m _::r=>true::arM r
 | .t _::r=>true::arM r
def arI:List Ar->List Nat
 | []=>[]
 | .v _::r=>arI r
 | .m i::r=>i::arI r
 | .t _::r=>arI r
def arT:List Ar->Nat
 | []=>0
 | .v _::r=>arT r
 | .m _::r=>arT r
 | .t _::r=>arT r+1
def isR:Itm->Bool
 | .vd _=>false
 | _=>true
def zs6:Itm->Option Nat
 | .mi i=>some i
 | _=>none
def isT:Itm->Bool
 | .td _=>true
 | _=>false
theorem zdq:∀{a:List Ar} {ρ:En} {y:List Itm×En},zgR a ρ=.ok y->y.1.map isR=arM a/\y.1.filterMap zs6=arI a/\y.1.countP isT=arT a
 | [],ρ,y,h=>by cases h;exact⟨rfl,rfl,rfl⟩
 | .v f::r,ρ,y,h=>by
  obtain⟨x,_,h⟩:=zaj (show(f ρ).bind _=.ok y from h)
  obtain⟨z,e,h⟩:=zaj h
  cases h
  obtain⟨h1,h2,h3⟩:=zdq e
  simp only [List.map_cons,List.filterMap_cons]
  exact⟨by rw [h1];rfl,h2,by rw [List.countP_cons_of_neg (by simp [isT])];exact h3⟩
 | .m i::r,ρ,y,h=>by
  obtain⟨_,_,h⟩:=zaj (show(zaw ρ i).bind _=.ok y from h)
  obtain⟨z,e,h⟩:=zaj h
  cases h
  obtain⟨h1,h2,h3⟩:=zdq e
  simp only [List.map_cons,List.filterMap_cons]
  exact⟨by rw [h1];rfl,by rw [h2];rfl,by rw [List.countP_cons_of_neg (by simp [isT])];exact h3⟩
 | .t f::r,ρ,y,h=>by
  obtain⟨x,_,h⟩:=zaj (show(f ρ).bind _=.ok y from h)
  obtain⟨z,e,h⟩:=zaj h
  cases h
  obtain⟨h1,h2,h3⟩:=zdq e
  simp only [List.map_cons,List.filterMap_cons]
  exact⟨by rw [h1];rfl,h2,by rw [List.countP_cons_of_pos (by simp [isT]),h3];rfl⟩
theorem zdp{ρ:En}:∀{l:List Itm} {ds:List D},zfA ρ l=.ok ds->ds.length=l.length/\∀(j:Nat) z,l[j]?=some z->∃ d,ds[j]?=some d/\(match z with | .vd d'=>d=d' | .mi i=>zaw ρ i=.ok d | .td d'=>d=d')
 | [],ds,h=>by cases h;exact⟨rfl,fun j z e=>by simp at e⟩
 | .vd d::r,ds,h=>by
  obtain⟨ds',e,h⟩:=zaj (show(zfA ρ r).bind _=.ok ds from h)
  cases h
  obtain⟨h1,h2⟩:=zdp e
  refine⟨by simp [h1],fun j z ez=>?_⟩
  cases j with
  | zero=>simp at ez;subst ez;exact⟨d,rfl,rfl⟩
  | succ j=>obtain⟨d',h3,h4⟩:=h2 j z (by simpa using ez);exact⟨d',by simpa using h3,h4⟩
 | .td d::r,ds,h=>by
  obtain⟨ds',e,h⟩:=zaj (show(zfA ρ r).bind _=.ok ds from h)
  cases h
  obtain⟨h1,h2⟩:=zdp e
  refine⟨by simp [h1],fun j z ez=>?_⟩
  cases j with
  | zero=>simp at ez;subst ez;exact⟨d,rfl,rfl⟩
  | succ j=>obtain⟨d',h3,h4⟩:=h2 j z (by simpa using ez);exact⟨d',by simpa using h3,h4⟩
 | .mi i::r,ds,h=>by
  obtain⟨d,e0,h⟩:=zaj (show(zaw ρ i).bind _=.ok ds from h)
  obtain⟨ds',e,h⟩:=zaj h
  cases h
  obtain⟨h1,h2⟩:=zdp e
  refine⟨by simp [h1],fun j z ez=>?_⟩
  cases j with
  | zero=>simp at ez;subst ez;exact⟨d,rfl,e0⟩
  | succ j=>obtain⟨d',h3,h4⟩:=h2 j z (by simpa using ez);exact⟨d',by simpa using h3,h4⟩
theorem ziR.get{σ:L2.St}{H₀ H:Hp}:∀{l:List Itm} {vs:List V},ziR K σ H₀ H l vs->vs.length=l.length/\∀(j:Nat) z,l[j]?=some z->∃ v,vs[j]?=some v/\(match z with | .vd d=>Fz K H d v | .mi i=>σ[i]?=some (some v) | .td d=>∃ a,v=.ref a/\zba K H a d/\H₀ a=none)
 | [],vs,h=>by cases (show vs=[] from h);exact⟨rfl,fun j z e=>by simp at e⟩
 | .vd d::r,vs,h=>by
  obtain⟨v,t,rfl,f,h⟩:=h
  obtain⟨h1,h2⟩:=ziR.get h
  refine⟨by simp [h1],fun j z ez=>?_⟩
  cases j with
  | zero=>simp at ez;subst ez;exact⟨v,rfl,f⟩
  | succ j=>obtain⟨d',h3,h4⟩:=h2 j z (by simpa using ez);exact⟨d',by simpa using h3,h4⟩
 | .mi i::r,vs,h=>by
  obtain⟨v,t,rfl,f,h⟩:=h
  obtain⟨h1,h2⟩:=ziR.get h
  refine⟨by simp [h1],fun j z ez=>?_⟩
  cases j with
  | zero=>simp at ez;subst ez;exact⟨v,rfl,f⟩
  | succ j=>obtain⟨d',h3,h4⟩:=h2 j z (by simpa using ez);exact⟨d',by simpa using h3,h4⟩
 | .td d::r,vs,h=>by
  obtain⟨v,t,rfl,f,g,h⟩:=h
  obtain⟨h1,h2⟩:=ziR.get h
  refine⟨by simp [h1],fun j z ez=>?_⟩
  cases j with
  | zero=>simp at ez;subst ez;exact⟨_,rfl,v,rfl,f,g⟩
  | succ j=>obtain⟨d',h3,h4⟩:=h2 j z (by simpa using ez);exact⟨d',by simpa using h3,h4⟩
end
end
section
variable [Cs]
section
variable {K:W.Frag}{ρ:En}{σ:L2.St}{H H':Hp}
theorem ztX{m:List (Nat×Sl)}(r:Rel K ρ σ H)(hA:∀ i c,m.lookup i=some c->∀ a,At ρ σ i a->∃ q d,c=.ow q d/\zba K H' a d)(hB:∀ i a,At ρ σ i a->m.lookup i=none->H' a=H a)(fz:Fzn H H') :
  Rel K (bkL m 0 ρ) σ H'/\∀(i:Nat) p,(∃ d,ρ[i]?=some (.ow p d))↔∃ d,(bkL m 0 ρ)[i]?=some (.ow p d):=by
 have gt:∀ i:Nat,(bkL m 0 ρ)[i]?=(ρ[i]?).map (bk1 m i):=fun i=>by rw [zkO,Nat.zero_add]
 have mdB:∀(i:Nat) p,(∃ d,ρ[i]?=some (.ow p d))↔∃ d,(bkL m 0 ρ)[i]?=some (.ow p d):=fun i p=>by
  rw [gt]
  constructor
  ·rintro⟨d,e⟩
   rw [e]
   simp only [Option.map_some,bk1]
   split
   ·rename_i p' d1 q' d2 h1 h2;cases h1;exact⟨_,rfl⟩
   ·exact⟨_,rfl⟩
  ·rintro⟨d,e⟩
   cases er:ρ[i]? with
   | none=>rw [er] at e;cases e
   | some x =>
    rw [er] at e
    simp only [Option.map_some,Option.some.injEq,bk1] at e
    split at e
    ·cases e;exact⟨_,rfl⟩
    ·subst e;exact⟨_,rfl⟩
 have atB:∀ i a,At (bkL m 0 ρ) σ i a->At ρ σ i a:=fun i a ⟨⟨p,d,e1⟩,e2⟩=>⟨⟨p,(mdB i p).mpr ⟨d,e1⟩⟩,e2⟩
 refine⟨⟨by rw [zkN];exact r.len,fun i x v e1 e2=>?_,fun i j a h1 h2=>r.sep i j a (atB i a h1) (atB j a h2),r.cst.mono fz⟩,mdB⟩
 rw [gt] at e1
 cases er:ρ[i]? with
 | none=>rw [er] at e1;cases e1
 | some y =>
  rw [er] at e1
  simp only [Option.map_some,Option.some.injEq] at e1
  have o:=r.ok i y v er e2
  cases y with
  | no=>simp only [bk1] at e1;subst e1;trivial
  | val d =>
   simp only [bk1] at e1
   subst e1
   exact o.mono fz fun a _ ⟨p,d',z⟩=>nomatch z
  | ob c ds =>
   simp only [bk1] at e1
   subst e1
   exact o.mono fz fun a _ ⟨p,d',z⟩=>nomatch z
  | ow p d =>
   cases v with
   | none=>exact o.elim
   | some v =>
    cases v with
    | ref a =>
     have ai:At ρ σ i a:=⟨⟨p,d,er⟩,e2⟩
     cases el:m.lookup i with
     | none =>
      simp only [bk1,el] at e1
      subst e1
      exact o.mono fz fun b e3 _=>by cases e3;exact hB i a ai el
     | some c =>
      obtain⟨q,d',rfl,mm⟩:=hA i c el a ai
      simp only [bk1,el] at e1
      subst e1
      exact mm
    | _=>exact o.elim
end
theorem zqC:∀{l:List Itm} {j j' i:Nat},(l.filterMap zs6).Nodup->l[j]?=some (.mi i)->l[j']?=some (.mi i)->j=j'
 | [],j,j',i,_,h,_=>by simp at h
 | z::r,j,j',i,nd,h1,h2=>by
  have rest:(r.filterMap zs6).Nodup:=by
   rw [List.filterMap_cons] at nd
   cases z with
   | mi k=>exact(List.nodup_cons.mp nd).2
   | _=>exact nd
  have mem:∀{j:Nat},r[j]?=some (.mi i)->i∈r.filterMap zs6:=fun h=>List.mem_filterMap.mpr ⟨.mi i,List.mem_of_getElem? h,rfl⟩
  have hd:z=.mi i->∀{j:Nat},r[j]?≠some (.mi i):=fun e j h=>by
   subst e
   rw [List.filterMap_cons] at nd
   exact(List.nodup_cons.mp nd).1 (mem h)
  cases j with
  | zero =>
   cases j' with
   | zero=>rfl
   | succ j'=>exact absurd (by simpa using h2) (hd (by simpa using h1) (j:=j'))
  | succ j =>
   cases j' with
   | zero=>exact absurd (by simpa using h1) (hd (by simpa using h2) (j:=j))
   | succ j' =>
    have:=zqC (l:=r) rest (by simpa using h1) (by simpa using h2)
    rw [this]
theorem zqn:∀{l:List Itm} {j j':Nat} {d d':D},l.countP isT<=1->l[j]?=some (.td d)->l[j']?=some (.td d')->j=j'
 | [],j,j',d,d',_,h,_=>by simp at h
 | z::r,j,j',d,d',c,h1,h2=>by
  have rest:r.countP isT<=1:=by
   rw [List.countP_cons] at c;omega
  have none:isT z=true->∀{j:Nat} {d:D},r[j]?≠some (.td d):=fun e j d h=>by
   rw [List.countP_cons,if_pos e] at c
   have:0<r.countP isT:=List.countP_pos_iff.mpr ⟨_,List.mem_of_getElem? h,rfl⟩
   omega
  cases j with
  | zero =>
   cases j' with
   | zero=>rfl
   | succ j' =>
    have e:z=.td d:=by simpa using h1
    subst e
    exact absurd (by simpa using h2) (none rfl (j:=j'))
  | succ j =>
   cases j' with
   | zero =>
    have e:z=.td d':=by simpa using h2
    subst e
    exact absurd (by simpa using h1) (none rfl (j:=j))
   | succ j' =>
    have:=zqn (l:=r) rest (by simpa using h1) (by simpa using h2)
    rw [this]
theorem zcK:∀{l:List Itm} {os:List D} {i:Nat} {c:Sl},(zfl l os).lookup i=some c->∃(j:Nat) (d:D),l[j]?=some (.mi i)/\os[j]?=some d/\c=.ow true d
 | [],os,i,c,h=>by simp [zfl] at h
 | z::r,[],i,c,h=>by cases z <;> simp [zfl] at h
 | .vd d::r,o::os,i,c,h=>by
  obtain⟨j,d',h1,h2,h3⟩:=zcK (l:=r) (os:=os) (by simpa [zfl] using h)
  exact⟨j+1,d',by simpa using h1,by simpa using h2,h3⟩
 | .td d::r,o::os,i,c,h=>by
  obtain⟨j,d',h1,h2,h3⟩:=zcK (l:=r) (os:=os) (by simpa [zfl] using h)
  exact⟨j+1,d',by simpa using h1,by simpa using h2,h3⟩
 | .mi k::r,o::os,i,c,h=>by
  simp only [zfl] at h
  rw [List.lookup_cons] at h
  by_cases e:i=k
  ·subst e
   simp only [beq_self_eq_true] at h
   cases h
   exact⟨0,o,rfl,rfl,rfl⟩
  ·rw [beq_false_of_ne e] at h
   obtain⟨j,d',h1,h2,h3⟩:=zcK (l:=r) (os:=os) h
   exact⟨j+1,d',by simpa using h1,by simpa using h2,h3⟩
theorem zfQ:∀{l:List Itm} {os:List D} {i j:Nat} {d:D},l[j]?=some (.mi i)->os[j]?=some d->∃ c,(zfl l os).lookup i=some c
 | [],os,i,j,d,h,_=>by simp at h
 | z::r,[],i,j,d,_,h=>by simp at h
 | .vd _::r,o::os,i,j,d,h1,h2=>by
  cases j with
  | zero=>simp at h1
  | succ j =>
   simp only [zfl]
   exact zfQ (l:=r) (by simpa using h1) (by simpa using h2)
 | .td _::r,o::os,i,j,d,h1,h2=>by
  cases j with
  | zero=>simp at h1
  | succ j =>
   simp only [zfl]
   exact zfQ (l:=r) (by simpa using h1) (by simpa using h2)
 | .mi k::r,o::os,i,j,d,h1,h2=>by
  simp only [zfl]
  rw [List.lookup_cons]
  by_cases e:i=k
  ·subst e
   simp
  ·rw [beq_false_of_ne e]
   cases j with
   | zero=>simp at h1;exact absurd h1.symm e
   | succ j=>exact zfQ (l:=r) (by simpa using h1) (by simpa using h2)
section
variable {K:W.Frag}{ρ0 ρ:En}{σ:L2.St}{H0 H H':Hp}{l:List Itm}{ds os:List D}{vs:List V}{ms:List Bool}
theorem zeX(rel:Rel K ρ σ H)(it:ziR K σ H0 H l vs)(hi:zfA ρ l=.ok ds)(hm:l.map isR=ms){j:Nat}{a:Addr}(hd:ds.length=ms.length)(h:At (slots ms ds) (vs.map some) j a):(∃ i,l[j]?=some (.mi i)/\At ρ σ i a)\/∃ d,l[j]?=some (.td d)/\H0 a=none:=by
 obtain⟨v1,v2⟩:=it.get
 obtain⟨d1,d2⟩:=zdp hi
 obtain⟨⟨p,d,e1⟩,e2⟩:=h
 obtain⟨rfl,em,ed⟩:=zdl hd e1
 rw [<- hm,List.getElem?_map] at em
 cases el:l[j]? with
 | none=>rw [el] at em;cases em
 | some z =>
  rw [el] at em
  obtain⟨v,ev,es⟩:=v2 j _ el
  obtain⟨d',ed',em'⟩:=d2 j _ el
  rw [List.getElem?_map,ev] at e2
  cases e2
  cases z with
  | vd _=>cases em
  | mi i =>
   obtain⟨q,eq⟩:=zf7 em'
   exact .inl ⟨i,rfl,⟨q,d',eq⟩,es⟩
  | td d0 =>
   obtain⟨b,eb,_,hb⟩:=es
   cases eb
   exact .inr ⟨d0,rfl,hb⟩
theorem zqj(r0:Rel K ρ0 σ H0)(st:Stp ρ0 ρ σ H0 H)(rel:Rel K ρ σ H)(it:ziR K σ H0 H l vs)(hi:zfA ρ l=.ok ds)(hm:l.map isR=ms)(nd:(l.filterMap zs6).Nodup)(ct:l.countP isT<=1):ds.length=ms.length/\vs.length=ms.length/\Rel K (slots ms ds) (vs.map some) H:=by
 obtain⟨v1,v2⟩:=it.get
 obtain⟨d1,d2⟩:=zdp hi
 have hl:ms.length=l.length:=by rw [<- hm,List.length_map]
 have hd:ds.length=ms.length:=by rw [d1,hl]
 have hv:vs.length=ms.length:=by rw [v1,hl]
 have apart:∀{i:Nat} {a:Addr},At ρ σ i a->H0 a=none->False:=fun h1 h2=>by
  obtain⟨o',e',_⟩:=r0.zbi (st.ma.mpr ⟨_,h1⟩)
  rw [h2] at e';cases e'
 refine⟨hd,hv,⟨by rw [zc0 hd,List.length_map,hv],fun j x v e1 e2=>?_,fun j j' a h1 h2=>?_,rel.cst⟩⟩
 ·rw [zbF hd] at e1
  cases em:ms[j]? with
  | none=>rw [em] at e1;cases e1
  | some m =>
   cases ed:ds[j]? with
   | none=>rw [em,ed] at e1;cases e1
   | some d =>
    rw [em,ed] at e1
    rw [<- hm,List.getElem?_map] at em
    cases el:l[j]? with
    | none=>rw [el] at em;cases em
    | some z =>
     rw [el] at em
     obtain⟨u,eu,es⟩:=v2 j z el
     obtain⟨d',ed',em'⟩:=d2 j z el
     rw [ed] at ed'
     cases ed'
     rw [List.getElem?_map,eu] at e2
     cases e2
     cases z with
     | vd dz =>
      cases em
      cases e1
      cases em'
      exact es
     | mi i =>
      cases em
      cases e1
      obtain⟨q,eq⟩:=zf7 em'
      have o:=rel.ok i _ _ eq es
      show zsQ K H (.ow true d) (some u)
      cases u with
      | ref a=>exact o
      | _=>exact o.elim
     | td dz =>
      cases em
      cases e1
      cases em'
      obtain⟨b,rfl,mb,_⟩:=es
      exact mb
 ·rcases zeX rel it hi hm hd h1 with⟨i,e1,a1⟩|⟨d,e1,a1⟩
  ·rcases zeX rel it hi hm hd h2 with⟨i',e2,a2⟩|⟨d,e2,a2⟩
   ·have:=rel.sep i i' a a1 a2
    subst this
    exact zqC nd e1 e2
   ·exact(apart a1 a2).elim
  ·rcases zeX rel it hi hm hd h2 with⟨i',e2,a2⟩|⟨d,e2,a2⟩
   ·exact(apart a2 a1).elim
   ·exact zqn ct e1 e2
theorem zoC(r0:Rel K ρ0 σ H0)(st:Stp ρ0 ρ σ H0 H)(rel:Rel K ρ σ H)(it:ziR K σ H0 H l vs)(hi:zfA ρ l=.ok ds)(hm:l.map isR=ms)(hd:ds.length=ms.length)(ho:os.length=ms.length)(ra:Rel K (slots ms os) (vs.map some) H')(hC:∀ a o,H a=some o->¬ MA (slots ms ds) (vs.map some) a->H' a=some o) :
  Rel K (zew ρ l os) σ H'/\Stp ρ0 (zew ρ l os) σ H0 H':=by
 obtain⟨v1,v2⟩:=it.get
 obtain⟨d1,d2⟩:=zdp hi
 have hl:ms.length=l.length:=by rw [<- hm,List.length_map]
 have apart:∀{i:Nat} {a:Addr},At ρ σ i a->H0 a=none->False:=fun h1 h2=>by
  obtain⟨o',e',_⟩:=r0.zbi (st.ma.mpr ⟨_,h1⟩)
  rw [h2] at e';cases e'
 have kp0:∀ a o,H0 a=some o->¬ MA ρ0 σ a->H' a=some o:=fun a o e n=>hC a o (st.kp a o e n) fun⟨j,h⟩=>by
  rcases zeX rel it hi hm hd h with⟨i,_,a1⟩|⟨d,_,a1⟩
  ·exact n (st.ma.mpr ⟨i,a1⟩)
  ·rw [e] at a1;cases a1
 have fz:Fzn H H':=fun a o e sy=>hC a o e fun⟨j,h⟩=>by
  obtain⟨⟨p,d,e1⟩,e2⟩:=id h
  obtain⟨rfl,em,ed⟩:=zdl hd e1
  rcases zeX rel it hi hm hd h with⟨i,_,a1⟩|⟨d,el,a1⟩
  ·obtain⟨o',e',ow⟩:=rel.zbi ⟨i,a1⟩
   rw [e] at e'
   cases e'
   exact ow.zd9 sy
  ·obtain⟨v,ev,b,eb,mb,_⟩:=v2 j _ el
   rw [List.getElem?_map,ev] at e2
   cases e2
   cases eb
   obtain⟨o',e',ow⟩:=mb.own
   rw [e] at e'
   cases e'
   exact ow.zd9 sy
 have key:=ztX (H:=H) (H':=H') (m:=zfl l os) rel (fun i c e a at0=>by
  obtain⟨j,d,e1,e2,rfl⟩:=zcK e
  obtain⟨v,ev,es⟩:=v2 j _ e1
  replace es:σ[i]?=some (some v):=es
  rw [at0.2] at es
  cases es
  refine⟨true,d,rfl,?_⟩
  have em:ms[j]?=some true:=by rw [<- hm,List.getElem?_map,e1];rfl
  exact ra.ok j (.ow true d) (some (.ref a)) (by rw [zbF ho,em,e2];rfl) (by rw [List.getElem?_map,ev];rfl)) (fun i a at0 e=>by
  obtain⟨u,hu,_⟩:=rel.zbi ⟨i,at0⟩
  rw [hu]
  refine hC a u hu fun⟨j,h⟩=>?_
  rcases zeX rel it hi hm hd h with⟨i',el,a1⟩|⟨d,_,a1⟩
  ·have:=rel.sep i i' a at0 a1
   subst this
   have hj:j<os.length:=by rw [ho,hl];exact(List.getElem?_eq_some_iff.mp el).1
   obtain⟨c,ec⟩:=zfQ el (List.getElem?_eq_getElem hj)
   rw [ec] at e
   cases e
  ·exact apart at0 a1) fz
 exact⟨key.1,⟨fun i p=>(st.md i p).trans (key.2 i p),kp0⟩⟩
end
section
variable {K:W.Frag}{X:Cx}{k j:Nat}{ps:List Str}{E:XK}{x:Str}{p pos:Pos}{e:Expr}{es:List Expr}{F:List D->R (D×List D)}{a:List Ar}
def zsY(F:List D->R (D×List D))(n:Nat):Prop:=∀ ds y,F ds=.ok y->y.2.length=n
theorem zlj{ms:List Bool}{fr:Bool}{m:Nat}{b:SF}:zsY (run ms fr m b) ms.length:=fun ds y h=>by
 unfold run at h
 split at h
 ·rename_i hd
  obtain⟨z,_,h⟩:=zaj h
  obtain⟨fl,ρ⟩:=z
  cases fr with
  | false =>
   cases fl with
   | rt d=>cases h;exact zd8 hd
   | nx=>cases h;exact zd8 hd
   | _=>cases h
  | true =>
   cases fl with
   | rf d=>cases h;exact zd8 hd
   | _=>cases h
 ·cases h
theorem zw5{fr:Bool}(ho:zsY F (arM a).length)(nd:(arI a).Nodup)(ct:arT a<=1)(σ:L2.St)(H:Hp)(Q:VK)(ρ:En)(rel:Rel K ρ σ H)
  (q:Good K ρ σ H (zak F a ρ) fun d ρ' H'=>∀ v,(if fr=true then ∃ a,v=.ref a/\H a=none/\zba K H' a d else Fz K H' d v)->Q v H'):zrh (spF K (arM a) fr F) [] E (tAr K a) σ H Q:=by
 obtain⟨y,ey,q0⟩:=q.bnd
 obtain⟨h1,h2,h3⟩:=zdq ey
 refine⟨ρ,rel,?_⟩
 rw [ey]
 intro H1 rel1 st1 vs it
 obtain⟨ds,ed,q1⟩:=q0.zdF
 obtain⟨z,ez,q2⟩:=q1.zdF
 obtain⟨hd,hv,ra⟩:=zqj rel st1 rel1 it ed h1 (by rw [h2];exact nd) (by rw [h3];exact ct)
 rw [List.append_nil]
 refine⟨ds,hv,hd,ra,z.1,z.2,ez,fun v H' rb kp fin=>?_⟩
 obtain⟨r2,s2⟩:=zoC rel st1 rel1 it ed h1 hd (ho ds z ez) rb kp
 refine q2 H' r2 s2 v ?_
 cases fr with
 | false=>exact fin
 | true =>
  obtain⟨ad,rfl,ha,m⟩:=fin
  exact⟨ad,rfl,st1.old rel1 ha,m⟩
theorem zpr(c:Callee X.prog X.w X.K X.mg X.base x k ps (spF X.K (arM a) false F))(ho:zsY F (arM a).length)(nd:(arI a).Nodup)(ct:arT a<=1)(hr:zbT j X.A)(hg:Gl X x)(hx:Passes (CXe X.prog X.w) X E)(ha:zmp K X (e::es) a)(hj:k<=j:=by decide)(hdb:(x==("__debug__":Str))=false:=by decide)
  (he:starEach (e::es) X.env=(false,eval e X.env)::starEach es X.env:=by exact FL.se rfl) (hpl:(backTo pos (starEach es X.env)).any (·.1)=false:=by exact FL.sp rfl):PV K X (.Call (.Name x p) (e::es) [] pos) (zak F a):=.mk fun hK=>by
 subst hK
 refine(zd7 c hr hg hx (ha rfl) hj hdb he hpl).weak fun σ H Q=>?_
 rintro⟨ρ,rel,q⟩
 exact zw5 (fr:=false) ho nd ct σ H Q ρ rel q
theorem zm3(c:Callee X.prog X.w X.K X.mg X.base x k ps (spF X.K (arM a) true F))(ho:zsY F (arM a).length)(nd:(arI a).Nodup)(ct:arT a<=1)(hr:zbT j X.A)(hg:Gl X x)(hx:Passes (CXe X.prog X.w) X E)(ha:zmp K X (e::es) a)(hj:k<=j:=by decide)(hdb:(x==("__debug__":Str))=false:=by decide)
  (he:starEach (e::es) X.env=(false,eval e X.env)::starEach es X.env:=by exact FL.se rfl) (hpl:(backTo pos (starEach es X.env)).any (·.1)=false:=by exact FL.sp rfl):PVN K X (.Call (.Name x p) (e::es) [] pos) (zak F a):=.mk fun hK=>by
 subst hK
 refine(zd7 c hr hg hx (ha rfl) hj hdb he hpl).weak fun σ H Q=>?_
 rintro⟨ρ,rel,q⟩
 refine zw5 (fr:=true) ho nd ct σ H Q ρ rel ?_
 cases e0:zak F a ρ with
 | ok y =>
  rw [e0] at q
  exact fun H' r s v ⟨ad,hv,ha,m⟩=>by subst hv;exact q H' r s ad ha m
 | _=>rw [e0] at q;exact q.elim
end
end
section
variable [Cs]
section
variable {K:W.Frag}{X:Cx}{st:Stmt}{s:SF}{e:Expr}{f h:EF}{pos:Pos}
theorem zrE{i j:Nat}{x y:Str}{a b:Expr}{px py pt:Pos}{kt k2 pt2}(hc:X.calm=true)(hN:X.N.Nodup)(hi:X.N[i]?=some x)(hj:X.N[j]?=some y)(hij:i≠j)
  (hx:X.env.scope.names.lookup x=some .local)(hy:X.env.scope.names.lookup y=some .local)(ha:PV K X a f)(hb:PV K X b h)
  (hw:swappedStores [.Tuple [.Name x px,.Name y py] kt pt] (.Tuple [a,b] k2 pt2) X.env=pure (some [x,y]))
  (hs:swapsWithSole [.Tuple [.Name x px,.Name y py] kt pt] (.Tuple [a,b] k2 pt2) pos.line X.env=pure false:=by rfl)(hs1:starEach [a,b] X.env=(false,eval a X.env)::starEach [b] X.env:=by exact FL.se rfl)(hs2:starEach [b] X.env=(false,eval b X.env)::starEach [] X.env:=by exact FL.se rfl) :
  PSV K X (.Assign [.Tuple [.Name x px,.Name y py] kt pt] (.Tuple [a,b] k2 pt2) pos) (zeG i j f h):=.mk fun hK C=>(ztI hc hN hi hj hij hx hy (zcc (ha hK) (zcc (hb hK) zhl hs2) hs1) hw hs).weak fun Dn σ H=>by
 rintro⟨ρ,rel,g⟩
 refine zmj rel g fun d ρ1 v H1 rel1 st1 fz g1=>zmj rel1 g1 fun d2 ρ2 v2 H2 rel2 st2 fz2 g2=>?_
 obtain⟨ρ3,e3,g3⟩:=g2.bnd
 obtain⟨ρ4,e4,g4⟩:=g3.bnd
 obtain⟨rfl,n1,l1⟩:=zlC e3
 obtain⟨rfl,n2,l2⟩:=zlC e4
 have f1:=fz.mono (st2.fzn rel1.rel)
 have r3:=rel2.chg (rel2.rel.set (i:=i) (x:=.val d) (v:=some v) f1 fun _ _ _ z=>nomatch z) (ziz n1 l1)
 have r4:=r3.chg (r3.rel.set (i:=j) (x:=.val d2) (v:=some v2) fz2 fun _ _ _ z=>nomatch z) (ziz n2 l2)
 exact⟨v,v2,rfl,g4 _ H2 r4 (Fzn.refl _)⟩
end
end
section
variable [Cs]
structure Blt(mg:Str->Option Value):Prop where
 znt:mg "abs"=none
 zaF:mg "isinstance"=none
 zsd:mg "int"=none
 zns:mg "bool"=none
 zc4:mg "tuple"=none
 zea:mg "list"=none
 zuc:mg "str"=none
 zgV:mg "len"=none
 zse:mg "all"=none
 zie:mg "range"=none
 zua:mg "zip"=none
 zdL:mg "enumerate"=none
 zsc:mg "max"=none
 zud:mg "min"=none
 zub:mg "sum"=none
 zfJ:mg "sorted"=none
 zqy:mg "dict"=none
 zue:mg "any"=none
namespace Bt
theorem abs:bootBuiltins "abs"=some (.builtin "abs"):=by decide +kernel
theorem len:bootBuiltins "len"=some (.builtin "len"):=by decide +kernel
theorem all:bootBuiltins "all"=some (.builtin "all"):=by decide +kernel
theorem int:bootBuiltins "int"=some (.type "int"):=by decide +kernel
theorem bool:bootBuiltins "bool"=some (.type "bool"):=by decide +kernel
theorem tuple:bootBuiltins "tuple"=some (.type "tuple"):=by decide +kernel
theorem list:bootBuiltins "list"=some (.type "list"):=by decide +kernel
end Bt
theorem zm0{K:W.Frag}{X:Cx}{st:List Stmt}{f:SF}(h:ziJ K X.nox st f):ziJ K X st f:=.mk fun hK C=>PSs.nox (h hK C)
theorem zus{K:W.Frag}{G:List D->R D}{H:Hp}{a:Addr}{ns:List Int}(h:G [.list (ns.map PyData.int)]=.ok (.bool true))(hO:∀ b xs,H b≠some (.lst xs))(hC:zq5 H)(hS:SqL K H a (ns.map V.int)):spP K 1 false G [.ref a] H (fun v _=>v=.bl true) fun _ _ _=>False:=by
 refine⟨[.list (ns.map PyData.int)],rfl,hC,?_,.bool true,h,fun v H' _ fz=>by simpa [Fz] using fz⟩
 simp only [zag,Fz]
 refine⟨.ref a,[],rfl,⟨a,ns.map V.int,rfl,?_,zag.ofInts ns⟩,rfl⟩
 rcases hS with(hS|⟨o,hS⟩)|hS
 ·exact absurd hS (hO a _)
 ·exact .inl ⟨o,hS⟩
 ·exact .inr hS
end
end FL
namespace FL
open PySem
end FL
namespace L2
open PySem PySem.Spec PyProof.Rows
section
end
section
end
end L2
namespace FL
open PySem L2 PySem.Spec
open PyProof.Rows hiding St
variable [Cs]
end FL
namespace FL
open PySem
abbrev K1:=Int ⊕ Str
abbrev KQ:=List K1 ⊕ K1
def kOf:D->Option K1
 | .int i=>some (.inl i)
 | .str x=>some (.inr x)
 | _=>none
def zoV:List D->Option (List K1)
 | []=>some []
 | d::r=>(kOf d).bind fun k=>(zoV r).map fun ks=>k::ks
def keyOf:D->Option KQ
 | .tuple xs=>(zoV xs).map .inl
 | .int i=>some (.inr (.inl i))
 | .str x=>some (.inr (.inr x))
 | _=>none
def form:KQ->Bool
 | .inl _=>true
 | .inr _=>false
def keysOk(f:Bool)(kvs:List (D×D)):Bool:=kvs.all fun kv=>match keyOf kv.1 with
 | some q=>form q==f
 | none=>false
def look(kvs:List (D×D))(q:KQ):Option D:=(kvs.find? fun kv=>decide (keyOf kv.1=some q)).map (·.2)
def zpt(kvs:List (D×D))(k:D)(q:KQ)(v:D):List (D×D) :=
 if(kvs.any fun kv=>decide (keyOf kv.1=some q))=true then kvs.map fun kv=>if keyOf kv.1=some q then(kv.1,v) else kv else kvs++[(k,v)]
def zcH(kvs:List (D×D))(q:KQ):List (D×D):=kvs.filter fun kv=>decide (keyOf kv.1≠some q)
def dictAt(d k:D):R (List (D×D)×KQ):=match d with
 | .dict kvs=>(R.of (keyOf k)).bind fun q=>chk (keysOk (form q) kvs) (.ok (kvs,q))
 | _=>.bad
def zel(d k:D):R (Option D):=(dictAt d k).bind fun x=>.ok (look x.1 x.2)
def zn9(d k x:D):R D:=(zel d k).bind fun o=>.ok (o.getD x)
def inD(k d:D):R D:=(zel d k).bind fun o=>.ok (.bool o.isSome)
def zfd(d k:D):R D:=(zel d k).bind fun o=>R.of o
def zkJ(d k v:D):R D:=(dictAt d k).bind fun x=>chk (leB (x.1.length+1) lim) (.ok (.dict (zpt x.1 k x.2 v)))
def zmm(d k:D):R D:=(dictAt d k).bind fun x=>chk (look x.1 x.2).isSome (.ok (.dict (zcH x.1 x.2)))
def zdB:D->R (List D)
 | .dict kvs=>.ok (kvs.map (·.1))
 | _=>.bad
def zdM(i:Nat)(k x:EF):EF:=fun ρ=>(zaw ρ i).bind fun c0=>(zdB c0).bind fun _=>(k ρ).bind fun a=>(x a.2).bind fun b=>(zaw b.2 i).bind fun c=>(zn9 c a.1 b.1).bind fun d=>.ok (d,b.2)
def e3(g:D->D->D->R D)(d k x:EF):EF:=fun ρ=>(d ρ).bind fun c=>(k c.2).bind fun a=>(x a.2).bind fun b=>(g c.1 a.1 b.1).bind fun r=>.ok (r,b.2)
def zdd(i:Nat)(k f:EF):SF:=fun ρ=>(f ρ).bind fun v=>(zaw v.2 i).bind fun _=>(k v.2).bind fun a=>(zaw a.2 i).bind fun c=>(zkJ c a.1 v.1).bind fun d=>.ok (.nx,zaN a.2 i d)
def zg3(i:Nat)(k:EF):SF:=fun ρ=>(zaw ρ i).bind fun _=>(k ρ).bind fun a=>(zaw a.2 i).bind fun c=>(zmm c a.1).bind fun d=>.ok (.nx,zaN a.2 i d)
def iD(f:EF):IF:=fun ρ=>(f ρ).bind fun x=>(zdB x.1).bind fun l=>.ok (l,x.2)
def zjv(k v:EF):EF:=fun ρ=>(k ρ).bind fun x=>(v x.2).bind fun y=>(zkJ (.dict []) x.1 y.1).bind fun d=>.ok (d,y.2)
def zcj:EF:=fun ρ=>.ok (.dict [],ρ)
end FL
namespace PySem
open Spec
section
variable {prog:Program}{w:World}{A:Around}{E:Value->Shared->Prop}{s:Shared}{K:Type}[DecidableEq K]{knd:HeapKind prog w K}
def zcV(xs:List (K×Addr×Value))(k:K):List (K×Addr×Value):=xs.filter fun x=>decide (x.1≠k)
theorem zgn{k:K}{p:Addr×Value}:∀{xs:List (K×Addr×Value)} {j:Nat},(xs.map (·.1)).Nodup->xs[j]?=some (k,p)->xs.eraseIdx j=zcV xs k
 | [],j,_,h=>by simp at h
 | x::xs,0,hn,h=>by
  have hx:x=(k,p):=by simpa using h
  subst hx
  rw [List.map_cons,List.nodup_cons] at hn
  have hf:zcV ((k,p)::xs) k=zcV xs k:=by simp [zcV]
  rw [hf]
  show xs=_
  unfold zcV
  rw [List.filter_eq_self.mpr]
  intro y hy
  refine decide_eq_true fun e=>hn.1 ?_
  show k∈_
  rw [<- e]
  exact List.mem_map_of_mem hy
 | x::xs,j+1,hn,h=>by
  rw [List.map_cons,List.nodup_cons] at hn
  have h':xs[j]?=some (k,p):=by simpa using h
  have hne:x.1≠k:=fun e=>hn.1 (by rw [e];exact List.mem_map.mpr ⟨(k,p),List.mem_of_getElem? h',rfl⟩)
  have hf:zcV (x::xs) k=x::zcV xs k:=by simp [zcV,hne]
  rw [List.eraseIdx_cons_succ,zgn hn.2 h',hf]
theorem zju{α β:Type}(f:α->β):∀(l:List α) (j:Nat),(l.map f).eraseIdx j=(l.eraseIdx j).map f
 | [],_=>rfl
 | _::_,0=>rfl
 | x::l,j+1=>by rw [List.map_cons,List.eraseIdx_cons_succ,List.eraseIdx_cons_succ,List.map_cons,zju f l j]
theorem zk7{d a:Addr}{xs:List (K×Addr×Value)}{k:K}{Q:Option DictEntry->Shared->Prop}(hu:knd.room A)(hkey:knd.is s.heap k a)(hm:s.heap.DictOfH knd d xs)(there:∃ p,(k,p)∈xs)
  (hQ:∀ e h',h'.DictOfH knd d (zcV xs k)->Heap.SameBut d s.heap h'->Q (some e) { s with heap:=h',toks:=s.toks+knd.draws k })(hsz:xs.length<=sizeLine) :
  wpAny (model prog w) A (Builtin.Dict.takeOut d (.ref a)) Q E s:=by
 obtain⟨o,es,ep,ho,hc,hd,he,his,hn⟩:=hm
 unfold Builtin.Dict.takeOut
 try with_reducible refine wpAny_holding ?_
 refine wpAny_bind (knd.pyHash hu hkey ?_)
 refine wpAny_bind (wpAny_dictFind_heap (s:={ s with toks:=s.toks+knd.draws k }) hu hkey ho hd he his hn ?_ ?_)
 ·intro hno
  obtain⟨p,hp⟩:=there
  obtain⟨j,hj⟩:=List.getElem?_of_mem hp
  exact absurd hj (hno j p)
 ·intro j p hj
  refine wpAny_bind (wpAny_dictEntries (s:={ s with toks:=s.toks+knd.draws k }) ho hd ?_)
  rw [entry_at he j,hj]
  refine wpAny_bind (wpAny_updateDictKeys (hz:=by have e:=size_of_entries he;omega) (s:={ s with toks:=s.toks+knd.draws k }) ho hd (wpAny_pure (hQ _ _ ⟨_,_,ep+1,Heap.get?_update_self _ ho (Obj.isFreed_of_dict (Obj.data_mapDictKeys hd _)),
   hc.mapDictKeys _,Obj.data_mapDictKeys hd _,?_,?_,?_⟩ (Heap.SameBut.update ..))))
  ·rw [<- zgn hn hj]
   have:(es.eraseIdxIfInBounds j).toList=es.toList.eraseIdx j:=by
    obtain⟨l⟩:=es
    simp
   rw [this,he,zju]
  ·intro x hx
   exact knd.keeps (his x (List.mem_filter.mp hx).1) ho hd (Heap.SameBut.update ..)
  ·exact List.Nodup.sublist (List.Sublist.map _ List.filter_sublist) hn
theorem zqb{d a:Addr}{xs:List (K×Addr×Value)}{k:K}{Q:Unit->Shared->Prop}(hu:knd.room A.in1)(hkey:knd.is s.heap k a)(hm:s.heap.DictOfH knd d xs)(there:∃ p,(k,p)∈xs)
  (hQ:∀ h',h'.DictOfH knd d (zcV xs k)->Heap.SameBut d s.heap h'->Q () { s with heap:=h',toks:=s.toks+knd.draws k })(hsz:xs.length<=sizeLine) :
  wpAny (model prog w) A (delItem (.ref d) (.ref a)) Q E s:=by
 refine wpAny_delItem_slot hm.typeIs (by decide) PySem.F.slot_dict_delitem (wpAny_call_entry PySem.F.slot_dict_delitem hm.typeIs PySem.F.entry_dict_delitem ?_ (PySem.F.args_dict_delitem_2 _ _))
 unfold Builtin.«dict.__delitem__»
 refine wpAny_bind ?_
 unfold Builtin.Dict.dictSlotArgs
 refine wpAny_bind (wpAny_notOrdered_dict hm.typeIs ?_)
 show wpAny _ _ (pure (Value.ref d,Value.ref a)) _ _ s
 refine wpAny_pure ?_
 show wpAny _ _ (Builtin.Dict.takeOut d (.ref a) >>= _) _ _ s
 refine wpAny_bind (zk7 hu hkey hm there (fun e h' hm' hs'=>?_) hsz)
 exact wpAny_bind (wpAny_letGo (wpAny_pure ⟨.none,rfl,hQ h' hm' hs'⟩))
end
end PySem
namespace L2
open PySem PySem.Spec PyProof.Rows
theorem KT.drop{H:Hp}{kvs:List (List Key×V)}{xs:List (List Key×Addr×Value)}(r:KT H kvs xs)(k:List Key):KT H (zbt kvs k) (zcV xs k):=by
 induction r with
 | nil=>exact .nil
 | @cons p q ps qs hq t ih =>
  by_cases e:p.1=k
  ·have e2:q.1=k:=by rw [<- hq.1];exact e
   have d1:zbt (p::ps) k=zbt ps k:=by simp [zbt,e]
   have d2:zcV (q::qs) k=zcV qs k:=by simp [zcV,e2]
   rw [d1,d2];exact ih
  ·have e2:¬ q.1=k:=by rw [<- hq.1];exact e
   have d1:zbt (p::ps) k=p::zbt ps k:=by simp [zbt,e]
   have d2:zcV (q::qs) k=q::zcV qs k:=by simp [zcV,e2]
   rw [d1,d2];exact .cons hq ih
section
variable {X:Cx}{pins:List (Addr×Obj)}{σ:St}{H:Hp}{s:Shared}{a b:Addr}{kvs:List (List Key×V)}{k:List Key}{A:Around}{E:Value->Shared->Prop}
theorem zu0{Q:Unit->Shared->Prop}(hu:A.units+1<cLine)(I:Inv X pins σ H s)(e:H a=some (.dT kvs))(eb:TAt H b (k.map kV))(l:(zgQ kvs k).isSome=true)(h:∀ s',Inv X pins σ (upd H a (.dT (zbt kvs k))) s'->Q () s') :
  wpAny (model X.prog X.w) A (delItem (.ref a) (.ref b)) Q E s:=by
 obtain⟨z,hd,xs,rel,dd⟩:=zp8 I.hok e
 have hz:xs.length<=sizeLine:=by rw [<- Paired.length rel];exact z
 have there:∃ p,(k,p)∈xs:=by
  have hv:=rel.val k
  obtain⟨v,ev⟩:=Option.isSome_iff_exists.mp l
  rw [ev] at hv
  obtain⟨w',hw,_⟩:=zkS.some_of (v:=v) (o:=(atKey xs k).map (·.2)) hv
  obtain⟨p,hp,_⟩:=Option.map_eq_some_iff.mp hw
  unfold atKey at hp
  obtain⟨x,hx,ex⟩:=Option.map_eq_some_iff.mp hp
  have h0:=List.find?_some hx
  have h1:x.1=k:=of_decide_eq_true h0
  exact⟨x.2,by rw [<- h1];exact List.mem_of_find?_eq_some hx⟩
 refine zqb (tupleKind_room_in1 hu) (zb7 I.hok eb) dd there (fun h' dd' hs=>h _ ?_) hz
 obtain⟨q,es,ep,hq,h2,h3,h4,_,h5⟩:=dd'
 refine zcf I (by rw [e];exact True.intro) hs ⟨q,hq⟩ ⟨Nat.le_trans (zfM kvs k) z,hd,_,(rel.drop k).keeps fun c ys ec=>?_,q,es,ep,hq,h2,h3,h4,h5⟩
 exact ec.upd (fun _ z=>zfv z e (fun z=>nomatch z)) fun _ _ z=>zfv z e (fun z=>nomatch z)
end
section
variable {X:Cx}{o i:Expr}{td ty:TE}{pos tpos:Pos}
variable {pins:List (Addr×Obj)}{σ:St}{H:Hp}{s:Shared}{a:Addr}
theorem Inv.kt(I:Inv X pins σ H s)(e:H a=some (.dK [])):Inv X pins σ (upd H a (.dT [])) s:=by
 obtain⟨z,hd,vs,rel,dd⟩:=zoj I.hok e
 have ev:vs=[]:=by cases rel;rfl
 subst ev
 obtain⟨q,es,ep,hq,h2,h3,h4,h5,h6⟩:=dd
 have:=zcf (t':=s.toks) I (by rw [e];exact True.intro) (Heap.SameBut.refl a s.heap) ⟨q,hq⟩ (ob:=.dT []) ⟨Nat.zero_le _,hd,[],.nil,q,es,ep,hq,h2,h3,?_,?_⟩
 ·exact this
 ·exact List.eq_nil_of_length_eq_zero (by have:=h5.length;simpa using this)
 ·exact List.nodup_nil
end
end L2
namespace PySem
open Spec
section
variable {prog:Program}{w:World}{A:Around}{E:Value->Shared->Prop}{s:Shared}
structure DEs(h:Heap)(d:Addr)(es:Array DictEntry)(ep:Nat):Prop where
 ex:∃ o,h.get? d=some o/\o.ExactDict/\o.data=.dict es ep
theorem DEs.typ{d:Addr}{es:Array DictEntry}{ep:Nat}(x:DEs s.heap d es ep):s.TypeIs (.ref d) "dict":=by
 obtain⟨o,ho,hc,_⟩:=x.ex
 exact⟨o,ho,hc.1⟩
theorem zuC{d:Addr}{es:Array DictEntry}{ep:Nat}{Q:Value->Shared->Prop}(hd:(d==sysModules)=false)(x:DEs s.heap d es ep)
  (hQ:Q (.ref s.heap.objs.size) { s with heap:=s.heap.push { cls:=.type "dict_keyiterator",data:=.fields #[.ref d,.int 0 0,.int es.size 0,.int ep 0] } }):wpAny (model prog w) A (pyIter (.ref d)) Q E s:=by
 obtain⟨o,ho,hc,hdat⟩:=x.ex
 have hT:=x.typ
 refine wpAny_pyIter_slot hT F.slot_dict_iter (wpAny_call_entry F.slot_dict_iter hT F.entry_dict_iter ?_ (F.args_dict_iter_1 _))
 unfold Builtin.«dict.__iter__» Builtin.Dict.dictSlotNone
 refine wpAny_bind (wpAny_bind (wpAny_notOrdered_dict hT ?_))
 show wpAny _ _ (pure (Value.ref d)) _ _ s
 refine wpAny_pure ?_
 show wpAny _ _ (Builtin.Dict.showsAll d >>= _) _ _ s
 unfold Builtin.Dict.showsAll
 rw [if_neg (by rw [hd];exact Bool.false_ne_true)]
 refine wpAny_bind (wpAny_pure (wpAny_bind (wpAny_dictEntries ho hdat (wpAny_bind (wpAny_dictEpoch ho hdat ?_)))))
 refine wpAny_bind (wpAny_newObj_type (wpAny_pure ⟨_,rfl,"dict_keyiterator",_,⟨_,Heap.get?_push_size _ rfl,rfl⟩,F.slot_dict_keyiterator_next.lookup,?_⟩))
 simpa [rawInt] using hQ
theorem zt8{it d:Addr}{i ep:Nat}{es:Array DictEntry}{Q:Option Value->Shared->Prop}(hit:s.heap.IsKeyIter it d i es.size ep)(x:DEs s.heap d es ep)(hi:i<es.size)
  (hQ:∀ h',h'.IsKeyIter it d (i+1) es.size ep->Heap.SameBut it s.heap h'->Q (some es[i].key) { s with heap:=h' }):wpAny (model prog w) A (pyNext (.ref it)) Q E s:=by
 obtain⟨o,ho,hc,hd⟩:=id hit
 obtain⟨od,hod,hcd,hdd⟩:=x.ex
 unfold pyNext
 refine wpAny_bind (wpAny_attempt (wpAny_callSpecial?_slot (name:=Str.ofString "__next__") hit.typeIs F.slot_dict_keyiterator_next (wpAny_call_entry F.slot_dict_keyiterator_next hit.typeIs F.entry_dict_keyiterator_next ?_ (F.args_dict_keyiterator_next_1 _))))
 refine wpAny_bind (wpAny_pure (wpAny_bind (wpAny_bind ?_)))
 first|refine wpAny_bind (wpAny_typeNameOfWhole_keyiter hit.typeIs (wpAny_pure ?_))|refine wpAny_bind (wpAny_typeNameOf_keyiter hit.typeIs (wpAny_pure ?_))
 refine wpAny_bind (wpAny_fieldsOf ho hd ?_)
 have hown:Builtin.Dict_items.ownsTuple "dict_keyiterator"=false:=by decide
 simp only [hown,Bool.false_eq_true,if_false]
 show wpAny _ _ (if(Value.ref d==Value.none)=true then _ else _) _ _ s
 rw [if_neg (show ¬ ((Value.ref d==Value.none)=true) from Bool.false_ne_true)]
 refine wpAny_bind (wpAny_pure (wpAny_bind (wpAny_dictEntries hod hdd ?_)))
 rw [if_neg (by simp)]
 refine wpAny_bind (wpAny_pure (wpAny_bind (wpAny_dictEpoch hod hdd ?_)))
 rw [if_neg (by simp)]
 refine wpAny_pure ?_
 simp only [show ¬ ((i:Int)<0) from by omega,if_false,Int.toNat_natCast,Array.getElem?_eq_getElem hi]
 refine wpAny_bind ?_
 first|refine wpAny_bind (wpAny_typeNameOfWhole_keyiter hit.typeIs (wpAny_pure ?_))|refine wpAny_bind (wpAny_typeNameOf_keyiter hit.typeIs (wpAny_pure ?_))
 refine wpAny_bind (wpAny_isOneOf_keyiter hit.typeIs ?_)
 show wpAny _ _ (setField (.ref it) 1 (rawInt ((i:Int)+1)) >>= _) _ _ s
 refine wpAny_bind (wpAny_setField ho hd (by simp) ?_)
 have hit':(s.heap.update it (Obj.mapFields (·.setIfInBounds 1 (rawInt ((i:Int)+1))))).IsKeyIter it d (i+1) es.size ep :=
  ⟨_,Heap.get?_update_self _ ho (Obj.isFreed_of_fields (Obj.data_mapFields hd _)),(Obj.cls_mapFields ..).trans hc,by rw [Obj.data_mapFields hd];simp [rawInt]⟩
 refine wpAny_bind (wpAny_holding (wpAny_bind (wpAny_isOneOf_keyiter (s:={ s with heap:=s.heap.update it (Obj.mapFields (·.setIfInBounds 1 (rawInt ((i:Int)+1)))) }) hit'.typeIs ?_)))
 show wpAny _ _ (pure es[i].key) _ _ _
 exact wpAny_pure (wpAny_pure ⟨_,rfl,wpAny_pure (hQ _ hit' (Heap.SameBut.update ..))⟩)
theorem zw6{it d:Addr}{i ep:Nat}{es:Array DictEntry}{Q:Option Value->Shared->Prop}(hh:A.handled=none)(hit:s.heap.IsKeyIter it d i es.size ep)(x:DEs s.heap d es ep)(hge:es.size<=i)
  (hQ:∀ h',Heap.ExtBut it s.heap h'->Q none { s with heap:=h' }):wpAny (model prog w) A (pyNext (.ref it)) Q E s:=by
 obtain⟨o,ho,hc,hd⟩:=id hit
 obtain⟨od,hod,hcd,hdd⟩:=x.ex
 unfold pyNext
 refine wpAny_bind (wpAny_attempt (wpAny_callSpecial?_slot (name:=Str.ofString "__next__") hit.typeIs F.slot_dict_keyiterator_next (wpAny_call_entry F.slot_dict_keyiterator_next hit.typeIs F.entry_dict_keyiterator_next ?_ (F.args_dict_keyiterator_next_1 _))))
 refine wpAny_bind (wpAny_pure (wpAny_bind (wpAny_bind ?_)))
 first|refine wpAny_bind (wpAny_typeNameOfWhole_keyiter hit.typeIs (wpAny_pure ?_))|refine wpAny_bind (wpAny_typeNameOf_keyiter hit.typeIs (wpAny_pure ?_))
 refine wpAny_bind (wpAny_fieldsOf ho hd ?_)
 have hown:Builtin.Dict_items.ownsTuple "dict_keyiterator"=false:=by decide
 simp only [hown,Bool.false_eq_true,if_false]
 show wpAny _ _ (if(Value.ref d==Value.none)=true then _ else _) _ _ s
 rw [if_neg (show ¬ ((Value.ref d==Value.none)=true) from Bool.false_ne_true)]
 refine wpAny_bind (wpAny_pure (wpAny_bind (wpAny_dictEntries hod hdd ?_)))
 rw [if_neg (by simp)]
 refine wpAny_bind (wpAny_pure (wpAny_bind (wpAny_dictEpoch hod hdd ?_)))
 rw [if_neg (by simp)]
 refine wpAny_pure ?_
 simp only [show ¬ ((i:Int)<0) from by omega,if_false,Int.toNat_natCast,Array.getElem?_eq_none hge]
 refine wpAny_bind ?_
 first|refine wpAny_bind (wpAny_typeNameOfWhole_keyiter hit.typeIs (wpAny_pure ?_))|refine wpAny_bind (wpAny_typeNameOf_keyiter hit.typeIs (wpAny_pure ?_))
 show wpAny _ _ (setField (.ref it) 0 .none >>= _) _ _ s
 refine wpAny_bind (wpAny_setField ho hd (by simp) ?_)
 show wpAny _ _ (newExc (.type "StopIteration") [] >>= _) _ _ _
 refine wpAny_bind ?_
 simp only [newExc,newTuple]
 refine wpAny_bind (wpAny_newObj_type ?_ (by size_fits))
 refine wpAny_bind (m:=firstArgMember _ _) (wpAny_of_eq (a:=Value.none) (by first|rfl|(simp only [firstArgMember];rfl)) ?_)
 refine wpAny_newObj_type ?_ (by size_fits)
 simp only [raiseNew]
 refine wpAny_bind (wpAny_handled ?_)
 rw [show A.in1.handled=none from hh]
 refine wpAny_bind (wpAny_pure (wpAny_throw ?_))
 refine wpAny_bind (wpAny_isInstance (T:="StopIteration") (b:=true) ⟨_,Heap.get?_push_size _ rfl,rfl⟩ isSubtype_stop ?_)
 exact wpAny_pure (hQ _ (((Heap.SameBut.update ..).extBut.push _).push _))
end
end PySem
namespace L2
open PySem PySem.Spec PyProof.Rows
section
def zwL(d:Addr)(o:Obj)(kvs:List (List Key×V)):It :=
 ⟨fun i H=>H d=some (.frz o (.dT kvs))/\i<kvs.length,fun i H x H'=>H'=H/\∃ k v b,kvs[i]?=some (k,v)/\x=.ref b/\TAt H b (k.map kV),fun i H=>H d=some (.frz o (.dT kvs))/\kvs.length<=i⟩
theorem zkF{P:Program}{w:World}{H:Hp}{h:Heap}{d:Addr}{o:Obj}{kvs:List (List Key×V)}{es:Array DictEntry}{ep:Nat}(ok:zbc P w H h d (.frz o (.dT kvs)))(hd:o.data=.dict es ep) :
  ∃ xs,KT H kvs xs/\DEs h d es ep/\es.toList=xs.map (entryOfKey (tupleKind (zaE P w)))/\(d==sysModules)=false:=by
 obtain⟨e,_,sy,xs,kt,o',es',ep',e',r1,r2,r3,r4⟩:=ok
 rw [e] at e'
 cases e'
 rw [hd] at r2
 cases r2
 exact⟨xs,kt,⟨o,e,r1,hd⟩,r3,sy⟩
theorem zlW{P:Program}{w:World}{K:W.Frag}{tg:Expr}{o:Obj}{es:Array DictEntry}{ep:Nat}{kvs:List (List Key×V)}(d it:Addr)(hdat:o.data=.dict es ep) :
  Turn P w K tg (zwL d o kvs) [it] it (fun i h=>h.IsKeyIter it d i es.size ep) where
 mem:=by simp
 obj:=fun i h st b hb=>by
  have e:b=it:=by simpa using hb
  subst e
  obtain⟨o,e,c,d⟩:=st
  exact⟨o,e,fun v z=>by rw [d] at z;cases z⟩
 keep:=fun i h h' st k=>st.at fun o e=>k it (by simp) o e
 item:=by
  intro X hP hw hK hc i pins s σ H E I hf st hg
  subst hP hw hK
  obtain⟨hd,hi⟩:=hg
  obtain⟨xs,kt,da,he,_⟩:=zkF (I.hok d _ hd) hdat
  have hl:kvs.length=xs.length:=Paired.length kt
  have hsz:es.size=xs.length:=size_of_entries he
  obtain⟨⟨k',b,v'⟩,ev,rk,rb,rv⟩:=zdm kt (List.getElem?_eq_getElem hi)
  obtain⟨f0,f1,f2,f3,f4,f5⟩:=hf it (by simp)
  have hi':i<es.size:=by omega
  have hk:es[i].key=.ref b:=by
   have:=entry_at he i
   rw [ev,Array.getElem?_eq_getElem hi'] at this
   simp only [Option.map_some,Option.some.injEq] at this
   rw [this]
   rfl
  refine zt8 st da hi' fun h' st2 sb=>?_
  have I1:Inv X pins σ H { s with heap:=h' }:=I.turned (t':=s.toks) (fun b o hb e=>(sb.2 b hb).trans e) f0 f1 f3 f4 f5
  obtain⟨o,e,c,dd⟩:=id st2
  rw [hk]
  exact⟨.ref b,rfl,zn6 (s:={ s with heap:=h' }) e c dd (by decide) ⟨.ref b,H,I1,rfl,⟨rfl,kvs[i].1,kvs[i].2,b,List.getElem?_eq_getElem hi,rfl,rb⟩,st2,fun b hb=>(hf b hb).1⟩⟩
 done:=by
  intro X hP hw hK hc i pins s σ H E I hf st hg
  subst hP hw hK
  obtain⟨hd,hi⟩:=hg
  obtain⟨xs,kt,da,he,_⟩:=zkF (I.hok d _ hd) hdat
  have hl:kvs.length=xs.length:=Paired.length kt
  have hsz:es.size=xs.length:=size_of_entries he
  obtain⟨f0,f1,f2,f3,f4,f5⟩:=hf it (by simp)
  exact zw6 (I.ok.hd hc) st da (by omega) fun h' eb=>⟨rfl,I.turned (t':=s.toks) (fun b o hb e=>eb b o hb e) f0 f1 f3 f4 f5⟩
 self:=fun _ _ _ _ _ st h=>wpAny_pyIter_keyiter st h
end
section
theorem zqT{P:Program}{w:World}{H:Hp}{h:Heap}{a:Addr}(ok:HOk P w H h)(e:Rd H a (.dK [])):(a==sysModules)=false/\h.DictOfH (tupleKind (zaE P w)) a []:=by
 obtain⟨z,hd,vs,rel,dd⟩:=zjz ok e
 have ev:vs=[]:=by cases rel;rfl
 subst ev
 obtain⟨q,es,ep,hq,h2,h3,h4,h5,h6⟩:=dd
 exact⟨hd,q,es,ep,hq,h2,h3,List.eq_nil_of_length_eq_zero (by have:=h5.length;simpa using this),(fun x hx=>nomatch hx),List.nodup_nil⟩
theorem zoi{P:Program}{w:World}{H:Hp}{h:Heap}{a:Addr}(ok:HOk P w H h)(e:Rd H a (.dT [])):(a==sysModules)=false/\h.DictOf (zaE P w) a []:=by
 obtain⟨z,hd,xs,rel,dd⟩:=zjw ok e
 have ev:xs=[]:=by cases rel;rfl
 subst ev
 obtain⟨q,es,ep,hq,h2,h3,h4,h5,h6⟩:=dd
 have he:es=#[]:=by
  apply Array.ext'
  rw [h4];rfl
 subst he
 exact⟨hd,q,#[],ep,hq,h2,h3,fun e he=>by simp at he,.nil,List.nodup_nil⟩
def DG(H:Hp)(a:Addr)(y:V)(r:Option V):Prop :=
 zvd H a y r\/(r=none/\Rd H a (.dK [])/\∃(b:Addr) (k:List Key),y=.ref b/\TAt H b (k.map kV))\/(r=none/\Rd H a (.dT [])/\∃ k:Key,y=kV k)
section
variable {X:Cx}{pins:List (Addr×Obj)}{σ:St}{H:Hp}{s:Shared}{a:Addr}{y v d:V}{u r:Value}{o:Option V}{A:Around}{E:Value->Shared->Prop}
theorem zwy{Q:Value->Shared->Prop}(hu:A.units+1<cLine)(I:Inv X pins σ H s)(g:DG H a y o)(ry:RelV y u)(h:∀ s',Inv X pins σ H s'->Q (.bool o.isSome) s') :
  wpAny (model X.prog X.w) A (compareOp .In u (.ref a)) Q E s:=by
 rcases g with g|⟨rfl,e,b,k,rfl,eb⟩|⟨rfl,e,k,rfl⟩
 ·exact zxT hu I g ry h
 ·cases (show u=Value.ref b from ry)
  obtain⟨hd,dd⟩:=zqT I.hok e
  exact wpAny_in_heap (tupleKind_room_in1 hu) (zb7 I.hok eb) hd dd (h _ (I.tok _))
 ·obtain⟨hd,dd⟩:=zoi I.hok e
  exact wpAny_in_of (zg0 ry) hd dd.mapOf (h _ (I.tok _))
theorem zsH{Q:Value->Shared->Prop}(hu:A.units+1<cLine)(I:Inv X pins σ H s)(g:DG H a y o)(ry:RelV y u)(rd:RelV d r)(h:∀ w' s',Inv X pins σ H s'->RelV (o.getD d) w'->Q w' s') :
  wpAny (model X.prog X.w) A (call (.builtin "dict.get") [.ref a,u,r]) Q E s:=by
 rcases g with g|⟨rfl,e,b,k,rfl,eb⟩|⟨rfl,e,k,rfl⟩
 ·exact zuZ hu I g ry rd h
 ·cases (show u=Value.ref b from ry)
  obtain⟨hd,dd⟩:=zqT I.hok e
  exact call_meetsIn PySem.F.slot_dict_get dd.typeIs PySem.F.entry_dict_get (PySem.F.args_dict_get_3 _ _ _) (meetsH_dict_get_default (tupleKind (zaE X.prog X.w)) a b hd r) ⟨tupleKind_room_in1 hu,k,[],zb7 I.hok eb,dd,h _ _ (I.tok _) rd⟩
 ·obtain⟨hd,dd⟩:=zoi I.hok e
  exact call_meetsIn PySem.F.slot_dict_get dd.typeIs PySem.F.entry_dict_get (PySem.F.args_dict_get_3 _ _ _) (meets_dict_get_default (zaE X.prog X.w) a (zg0 ry) hd r) ⟨_,dd.mapOf,h _ _ (I.tok _) rd⟩
def DP(H:Hp)(a:Addr)(y v:V)(H':Hp):Prop :=
 zoR H a y v H'\/(∃(k:List Key) (b:Addr),H a=some (.dK [])/\y=.ref b/\TAt H b (k.map kV)/\H'=upd H a (.dT [(k,v)]))\/∃ k:Key,H a=some (.dT [])/\y=kV k/\H'=upd H a (.dK [(k,v)])
theorem Inv.tk(I:Inv X pins σ H s)(e:H a=some (.dT [])):Inv X pins σ (upd H a (.dK [])) s:=by
 obtain⟨hd,dd⟩:=zoi I.hok (.inl e)
 obtain⟨q,es,ep,hq,rest⟩:=id dd
 exact zcf (t':=s.toks) I (by rw [e];exact True.intro) (Heap.SameBut.refl a s.heap) ⟨q,hq⟩ (ob:=.dK []) ⟨Nat.zero_le _,hd,[],.nil,dd⟩
theorem zuV{H':Hp}{Q:Unit->Shared->Prop}(hu:A.units+1<cLine)(I:Inv X pins σ H s)(g:DP H a y v H')(ry:RelV y u)(rv:RelV v r)(h:∀ s',Inv X pins σ H' s'->Q () s') :
  wpAny (model X.prog X.w) A (setItem (.ref a) u r) Q E s:=by
 rcases g with g|⟨k,b,e,rfl,eb,rfl⟩|⟨k,e,rfl,rfl⟩
 ·exact zgs hu I g ry rv h
 ·have eb':TAt (upd H a (.dT [])) b (k.map kV):=eb.upd (fun _ z=>zfv z e (fun z=>nomatch z)) fun _ _ z=>zfv z e (fun z=>nomatch z)
  have g:=zoR.t (H:=upd H a (.dT [])) (a:=a) (v:=v) zan eb' (by decide)
  rw [zfV] at g
  exact zgs hu (I.kt e) g ry rv h
 ·have g:=zoR.k (H:=upd H a (.dK [])) (a:=a) (k:=k) (v:=v) zan (by decide)
  rw [zfV] at g
  exact zgs hu (I.tk e) g ry rv h
end
section
variable {X:Cx}{o i e f value:Expr}{apos cpos pos pos':Pos}{td ty tx tv:TE}
def zta(td ty tx:TE):TE:=fun σ H Q=>td σ H fun x H1=>∃ a,x=.ref a/\IsD H1 a/\ty σ H1 fun y H2=>tx σ H2 fun z H3=>∃ o,DG H3 a y o/\Q (o.getD z) H3
def zvC(td ty tv:TE):TS:=fun D σ H=>tv σ H fun v H1=>td σ H1 fun x H2=>ty σ H2 fun y H3=>∃ a H4,x=.ref a/\DP H3 a y v H4/\D.nx σ H4
theorem zpE(hu:X.A.units+1<cLine)(ho:PE X o td)(he:PE X e ty)(hf:PE X f tx)(m:M2 X o "get" apos e f cpos):PE X (.Call (.Attribute o "get" apos) [e,f] [] cpos) (zta td ty tx):=by
 intro pins s σ H Q I h
 refine wpAny_Call_method m.base m.few m.line PySem.F.plainAttrs_dict PySem.F.slot_dict_get PySem.F.type_dict_get (thn (ho pins s σ H _ I h) fun u s1 ⟨x,H1,I1,rx,a,ex,d,q1⟩=>?_)
 subst ex
 obtain rfl:u=Value.ref a:=rx
 obtain⟨t1,t2,_⟩:=zqJ I1 d
 refine⟨t1,t2,?_⟩
 rw [m.trees]
 exact Calls.callWith_builtin rfl (Calls.evalArgs_plain (Calls.spliced_cons (thn (he pins s1 σ H1 _ I1 q1) fun iv s2 ⟨y,H2,I2,ry,q2⟩ =>
  Calls.spliced_cons (thn (hf pins s2 σ H2 _ I2 q2) fun fv s3 ⟨z,H3,I3,rz,ov,g,q3⟩=>Calls.spliced_nil (zsH hu I3 g ry rz fun w' s4 I4 rw'=>⟨_,H3,I4,rw',q3⟩)))))
theorem zrQ(hu:X.A.units+1<cLine)(ho:PE X o td)(hi:PE X i ty)(hv:PE X value tv)(hs:swapsWith value (some (.Subscript o i pos')) pos.line X.env=pure false) :
  PS X (.Assign [.Subscript o i pos'] value pos) (zvC td ty tv):=by
 intro pins s σ H D I h
 refine wpAny_Assign_Subscript (thn (hv pins s σ H _ I h) fun r s1 ⟨v,H1,I1,rv,q1⟩=>thn (ho pins s1 σ H1 _ I1 q1) fun u s2 ⟨x,H2,I2,rx,q2⟩=>thn (hi pins s2 σ H2 _ I2 q2) fun iv s3 ⟨y,H3,I3,ry,a,H4,ex,g,q3⟩=>?_) hs
 subst ex
 obtain rfl:u=Value.ref a:=rx
 exact zuV hu I3 g ry rv fun s4 I4=>⟨σ,H4,I4,q3⟩
end
end
end L2
namespace FL
open PySem L2 PySem.Spec
open PyProof.Rows hiding St
section
variable [Cs]
theorem znl{α:Type}{o:Option α}{a:α}(h:R.of o=.ok a):o=some a:=by
 cases o with
 | none=>cases h
 | some b=>cases h;rfl
theorem zuz(k:Key):kOf (kD k)=some k:=by cases k <;> rfl
theorem znI:∀ ks:List Key,zoV (ks.map kD)=some ks
 | []=>rfl
 | k::r=>by simp only [List.map_cons,zoV,zuz,Option.bind_some,znI r,Option.map_some]
theorem zc7(q:List Key):keyOf (zma q)=some (.inl q):=by simp only [zma,keyOf,znI,Option.map_some]
theorem zc8(q:Key):keyOf (kD q)=some (.inr q):=by cases q <;> rfl
theorem zst{d:D}{k:Key}(h:kOf d=some k):d=kD k:=by
 cases d with
 | int i=>cases h;rfl
 | str i=>cases h;rfl
 | _=>cases h
theorem zlu:∀{ds:List D} {ks:List Key},zoV ds=some ks->ds=ks.map kD
 | [],ks,h=>by simp only [zoV,Option.some.injEq] at h;subst h;rfl
 | d::r,ks,h=>by
  simp only [zoV,Option.bind_eq_some_iff,Option.map_eq_some_iff] at h
  obtain⟨k,e,ks',e',rfl⟩:=h
  rw [zst e,zlu e'];rfl
section
variable {K:W.Frag}{H H':Hp}
theorem zsA{k:Key}:Fz K H (kD k) (kV k):=by cases k <;> simp [kD,kV,Fz]
theorem zwk{k:Key}{v:V}(h:Fz K H (kD k) v):v=kV k:=by cases k <;> simpa [kD,kV,Fz] using h
theorem zlE:∀ ks:List Key,zag K H (ks.map kD) (ks.map kV)
 | []=>by simp [zag]
 | k::r=>by simp only [List.map_cons,zag];exact⟨_,_,rfl,zsA,zlE r⟩
theorem zqI:∀{ks:List Key} {vs:List V},zag K H (ks.map kD) vs->vs=ks.map kV
 | [],vs,h=>by simpa [zag] using h
 | k::r,vs,h=>by
  simp only [List.map_cons,zag] at h
  obtain⟨v,t,rfl,h1,h2⟩:=h
  rw [zwk h1,zqI h2];rfl
theorem zoa{ks:List Key}{b:Addr}(h:TAt H b (ks.map kV)):Fz K H (zma ks) (.ref b):=by
 simp only [zma,Fz]
 exact⟨b,_,rfl,h,zlE ks⟩
theorem zg9{k:D}{v:V}{q:KQ}(f:Tp K H k v)(e:keyOf k=some q):(∃ ks b,q=.inl ks/\k=zma ks/\v=.ref b/\TAt H b (ks.map kV))\/∃ k1,q=.inr k1/\k=kD k1/\v=kV k1:=by
 cases k with
 | tuple xs =>
  simp only [keyOf,Option.map_eq_some_iff] at e
  obtain⟨ks,e1,rfl⟩:=e
  have:=zlu e1
  subst this
  obtain⟨b,vs,rfl,tb,fa⟩:=(show ∃ a vs,v=.ref a/\TAt H a vs/\zag K H (ks.map kD) vs by simpa [Tp,Fz] using f)
  rw [zqI fa] at tb
  exact .inl ⟨ks,b,rfl,rfl,rfl,tb⟩
 | int i=>cases e;exact .inr ⟨.inl i,rfl,rfl,by simpa [Tp,Fz,kV] using f⟩
 | str i=>cases e;exact .inr ⟨.inr i,rfl,rfl,by simpa [Tp,Fz,kV] using f⟩
 | _=>cases e
theorem znD:∀{kvs:List (D×D)} {kk:List (List Key×V)},zbr K H kvs kk->∀ q:List Key,(look kvs (.inl q)=none/\zgQ kk q=none)\/∃ d v,look kvs (.inl q)=some d/\zgQ kk q=some v/\Fz K H d v
 | [],kk,h,q=>by simp only [zbr] at h;subst h;exact .inl ⟨rfl,rfl⟩
 | (k,d)::r,kk,h,q=>by
  simp only [zbr] at h
  obtain⟨q',v,t,rfl,rfl,f,h2⟩:=h
  by_cases c:q'=q
  ·subst c
   exact .inr ⟨d,v,by simp [look,List.find?_cons,zc7],zdY rfl,f⟩
  ·have e1:look ((zma q',d)::r) (.inl q)=look r (.inl q):=by simp [look,List.find?_cons,zc7,c]
   rw [e1,zdZ (p:=(q',v)) c]
   exact znD h2 q
theorem znE:∀{kvs:List (D×D)} {kk:List (Key×V)},zbs K H kvs kk->∀ q:Key,(look kvs (.inr q)=none/\zgQ kk q=none)\/∃ d v,look kvs (.inr q)=some d/\zgQ kk q=some v/\Fz K H d v
 | [],kk,h,q=>by simp only [zbs] at h;subst h;exact .inl ⟨rfl,rfl⟩
 | (k,d)::r,kk,h,q=>by
  simp only [zbs] at h
  obtain⟨q',v,t,rfl,rfl,f,h2⟩:=h
  by_cases c:q'=q
  ·subst c
   exact .inr ⟨d,v,by simp [look,List.find?_cons,zc8],zdY rfl,f⟩
  ·have e1:look ((kD q',d)::r) (.inr q)=look r (.inr q):=by simp [look,List.find?_cons,zc8,c]
   rw [e1,zdZ (p:=(q',v)) c]
   exact znE h2 q
theorem znK{kvs:List (D×D)}{kk:List (List Key×V)}(h:zbr K H kvs kk)(c:keysOk false kvs=true):kvs=[]/\kk=[]:=by
 cases kvs with
 | nil=>simp only [zbr] at h;exact⟨rfl,h⟩
 | cons p r =>
  obtain⟨k,d⟩:=p
  simp only [zbr] at h
  obtain⟨q',v,t,rfl,rfl,f,h2⟩:=h
  simp [keysOk,zc7,form] at c
theorem znL{kvs:List (D×D)}{kk:List (Key×V)}(h:zbs K H kvs kk)(c:keysOk true kvs=true):kvs=[]/\kk=[]:=by
 cases kvs with
 | nil=>simp only [zbs] at h;exact⟨rfl,h⟩
 | cons p r =>
  obtain⟨k,d⟩:=p
  simp only [zbs] at h
  obtain⟨q',v,t,rfl,rfl,f,h2⟩:=h
  simp [keysOk,zc8,form] at c
theorem zeT{d k:D}{x:List (D×D)×KQ}(h:dictAt d k=.ok x):d=.dict x.1/\keyOf k=some x.2/\keysOk (form x.2) x.1=true:=by
 cases d with
 | dict kvs =>
  obtain⟨q,e1,h⟩:=zaj (show(R.of (keyOf k)).bind _=.ok x from h)
  obtain⟨c,h⟩:=za3 h
  cases h
  exact⟨rfl,znl e1,c⟩
 | _=>cases h
theorem zsG{d k:D}{x y:V}{o:Option D}(t:Tp K H d x)(f:Tp K H k y)(e:zel d k=.ok o) :
  ∃ a r,x=.ref a/\IsD H a/\DG H a y r/\((o=none/\r=none)\/∃ d v,o=some d/\r=some v/\Fz K H d v):=by
 obtain⟨⟨kvs,q⟩,e1,e⟩:=zaj (show(dictAt d k).bind _=.ok o from e)
 cases e
 obtain⟨rfl,ek,c⟩:=zeT e1
 obtain⟨a,ea,tt⟩:=(show ∃ a,x=.ref a/\((∃ kk,Rd H a (.dT kk)/\zbr K H kvs kk)\/∃ kk,Rd H a (.dK kk)/\zbs K H kvs kk) from t)
 subst ea
 rcases tt with⟨kk,rd,h⟩|⟨kk,rd,h⟩
 ·refine⟨a,?_⟩
  rcases zg9 f ek with⟨ks,b,rfl,rfl,rfl,tb⟩|⟨k1,rfl,rfl,rfl⟩
  ·refine⟨zgQ kk ks,rfl,.inr ⟨kk,rd⟩,.inl (.inr ⟨kk,ks,b,rd,rfl,tb,rfl⟩),?_⟩
   rcases znD h ks with⟨z1,z2⟩|⟨d,v,z1,z2,z3⟩
   ·exact .inl ⟨z1,z2⟩
   ·exact .inr ⟨d,v,z1,z2,z3⟩
  ·obtain⟨rfl,rfl⟩:=znK h c
   exact⟨none,rfl,.inr ⟨[],rd⟩,.inr (.inr ⟨rfl,rd,k1,rfl⟩),.inl ⟨rfl,rfl⟩⟩
 ·refine⟨a,?_⟩
  rcases zg9 f ek with⟨ks,b,rfl,rfl,rfl,tb⟩|⟨k1,rfl,rfl,rfl⟩
  ·obtain⟨rfl,rfl⟩:=znL h c
   exact⟨none,rfl,.inl ⟨[],rd⟩,.inr (.inl ⟨rfl,rd,b,ks,rfl,tb⟩),.inl ⟨rfl,rfl⟩⟩
  ·refine⟨zgQ kk k1,rfl,.inl ⟨kk,rd⟩,.inl (.inl ⟨kk,k1,rd,rfl,rfl⟩),?_⟩
   rcases znE h k1 with⟨z1,z2⟩|⟨d,v,z1,z2,z3⟩
   ·exact .inl ⟨z1,z2⟩
   ·exact .inr ⟨d,v,z1,z2,z3⟩
theorem zu7:∀{kvs:List (D×D)} {kk:List (List Key×V)},zbr K H kvs kk->∀ q:List Key,(kvs.any fun kv=>decide (keyOf kv.1=some (.inl q)))=kk.any fun kv=>decide (kv.1=q)
 | [],kk,h,q=>by simp only [zbr] at h;subst h;rfl
 | (k,d)::r,kk,h,q=>by
  simp only [zbr] at h
  obtain⟨q',v,t,rfl,rfl,f,h2⟩:=h
  simp only [List.any_cons,zu7 h2 q,zc7,Option.some.injEq,Sum.inl.injEq]
theorem zu8:∀{kvs:List (D×D)} {kk:List (Key×V)},zbs K H kvs kk->∀ q:Key,(kvs.any fun kv=>decide (keyOf kv.1=some (.inr q)))=kk.any fun kv=>decide (kv.1=q)
 | [],kk,h,q=>by simp only [zbs] at h;subst h;rfl
 | (k,d)::r,kk,h,q=>by
  simp only [zbs] at h
  obtain⟨q',v,t,rfl,rfl,f,h2⟩:=h
  simp only [List.any_cons,zu8 h2 q,zc8,Option.some.injEq,Sum.inr.injEq]
theorem ztj{d:D}{v:V}(f:Fz K H d v):∀{kvs:List (D×D)} {kk:List (List Key×V)},zbr K H kvs kk->∀ q:List Key,zbr K H (kvs.map fun kv=>if keyOf kv.1=some (.inl q) then(kv.1,d) else kv) (kk.map fun kv=>if kv.1=q then(kv.1,v) else kv)
 | [],kk,h,q=>by simp only [zbr] at h;subst h;simp [zbr]
 | (k,d0)::r,kk,h,q=>by
  simp only [zbr] at h
  obtain⟨q',v0,t,rfl,rfl,f0,h2⟩:=h
  have ih:=ztj f h2 q
  by_cases c:q'=q
  ·subst c
   simp only [List.map_cons,zc7,if_true,zbr]
   exact⟨q',v,_,rfl,rfl,f,ih⟩
  ·simp only [List.map_cons,zc7,Option.some.injEq,Sum.inl.injEq,if_neg c,zbr]
   exact⟨q',v0,_,rfl,rfl,f0,ih⟩
theorem ztk{d:D}{v:V}(f:Fz K H d v):∀{kvs:List (D×D)} {kk:List (Key×V)},zbs K H kvs kk->∀ q:Key,zbs K H (kvs.map fun kv=>if keyOf kv.1=some (.inr q) then(kv.1,d) else kv) (kk.map fun kv=>if kv.1=q then(kv.1,v) else kv)
 | [],kk,h,q=>by simp only [zbs] at h;subst h;simp [zbs]
 | (k,d0)::r,kk,h,q=>by
  simp only [zbs] at h
  obtain⟨q',v0,t,rfl,rfl,f0,h2⟩:=h
  have ih:=ztk f h2 q
  by_cases c:q'=q
  ·subst c
   simp only [List.map_cons,zc8,if_true,zbs]
   exact⟨q',v,_,rfl,rfl,f,ih⟩
  ·simp only [List.map_cons,zc8,Option.some.injEq,Sum.inr.injEq,if_neg c,zbs]
   exact⟨q',v0,_,rfl,rfl,f0,ih⟩
theorem zu5{d:D}{v:V}(f:Fz K H d v)(q:List Key):∀{kvs:List (D×D)} {kk:List (List Key×V)},zbr K H kvs kk->zbr K H (kvs++[(zma q,d)]) (kk++[(q,v)])
 | [],kk,h=>by simp only [zbr] at h;subst h;simp only [List.nil_append,zbr];exact⟨q,v,[],rfl,rfl,f,rfl⟩
 | (k,d0)::r,kk,h=>by
  simp only [zbr] at h
  obtain⟨q',v0,t,rfl,rfl,f0,h2⟩:=h
  simp only [List.cons_append,zbr]
  exact⟨q',v0,_,rfl,rfl,f0,zu5 f q h2⟩
theorem zu6{d:D}{v:V}(f:Fz K H d v)(q:Key):∀{kvs:List (D×D)} {kk:List (Key×V)},zbs K H kvs kk->zbs K H (kvs++[(kD q,d)]) (kk++[(q,v)])
 | [],kk,h=>by simp only [zbs] at h;subst h;simp only [List.nil_append,zbs];exact⟨q,v,[],rfl,rfl,f,rfl⟩
 | (k,d0)::r,kk,h=>by
  simp only [zbs] at h
  obtain⟨q',v0,t,rfl,rfl,f0,h2⟩:=h
  simp only [List.cons_append,zbs]
  exact⟨q',v0,_,rfl,rfl,f0,zu6 f q h2⟩
theorem zvZ{d:D}{v:V}{kvs:List (D×D)}{kk:List (List Key×V)}(h:zbr K H kvs kk)(f:Fz K H d v)(q:List Key):zbr K H (zpt kvs (zma q) (.inl q) d) (putK kk q v):=by
 unfold zpt putK
 rw [zu7 h q]
 split
 ·exact ztj f h q
 ·exact zu5 f q h
theorem zv0{d:D}{v:V}{kvs:List (D×D)}{kk:List (Key×V)}(h:zbs K H kvs kk)(f:Fz K H d v)(q:Key):zbs K H (zpt kvs (kD q) (.inr q) d) (putK kk q v):=by
 unfold zpt putK
 rw [zu8 h q]
 split
 ·exact ztk f h q
 ·exact zu6 f q h
theorem zqV:∀{kvs:List (D×D)} {kk:List (List Key×V)},zbr K H kvs kk->∀ q:List Key,zbr K H (zcH kvs (.inl q)) (zbt kk q)
 | [],kk,h,q=>by simp only [zbr] at h;subst h;simp [zcH,zbt,zbr]
 | (k,d0)::r,kk,h,q=>by
  simp only [zbr] at h
  obtain⟨q',v0,t,rfl,rfl,f0,h2⟩:=h
  have ih:=zqV h2 q
  by_cases c:q'=q
  ·subst c
   have e1:zcH ((zma q',d0)::r) (.inl q')=zcH r (.inl q'):=by simp [zcH,zc7]
   rw [e1,zjx (p:=(q',v0)) rfl]
   exact ih
  ·have e1:zcH ((zma q',d0)::r) (.inl q)=(zma q',d0)::zcH r (.inl q):=by simp [zcH,zc7,c]
   rw [e1,zjy (p:=(q',v0)) c]
   simp only [zbr]
   exact⟨q',v0,_,rfl,rfl,f0,ih⟩
theorem zqW:∀{kvs:List (D×D)} {kk:List (Key×V)},zbs K H kvs kk->∀ q:Key,zbs K H (zcH kvs (.inr q)) (zbt kk q)
 | [],kk,h,q=>by simp only [zbs] at h;subst h;simp [zcH,zbt,zbs]
 | (k,d0)::r,kk,h,q=>by
  simp only [zbs] at h
  obtain⟨q',v0,t,rfl,rfl,f0,h2⟩:=h
  have ih:=zqW h2 q
  by_cases c:q'=q
  ·subst c
   have e1:zcH ((kD q',d0)::r) (.inr q')=zcH r (.inr q'):=by simp [zcH,zc8]
   rw [e1,zjx (p:=(q',v0)) rfl]
   exact ih
  ·have e1:zcH ((kD q',d0)::r) (.inr q)=(kD q',d0)::zcH r (.inr q):=by simp [zcH,zc8,c]
   rw [e1,zjy (p:=(q',v0)) c]
   simp only [zbs]
   exact⟨q',v0,_,rfl,rfl,f0,ih⟩
theorem zbr.len:∀{kvs:List (D×D)} {kk:List (List Key×V)},zbr K H kvs kk->kk.length=kvs.length
 | [],kk,h=>by simp only [zbr] at h;subst h;rfl
 | (k,d0)::r,kk,h=>by
  simp only [zbr] at h
  obtain⟨q',v0,t,rfl,rfl,f0,h2⟩:=h
  simp [h2.len]
theorem zbs.len:∀{kvs:List (D×D)} {kk:List (Key×V)},zbs K H kvs kk->kk.length=kvs.length
 | [],kk,h=>by simp only [zbs] at h;subst h;rfl
 | (k,d0)::r,kk,h=>by
  simp only [zbs] at h
  obtain⟨q',v0,t,rfl,rfl,f0,h2⟩:=h
  simp [h2.len]
theorem ziw{a:Addr}{u o:HO}(e:H a=some u)(ow:Own u):Fzn H (upd H a o):=fun b w eb st=>by
 rw [zas fun z=>by subst z;rw [e] at eb;cases eb;exact ow.zd9 st]
 exact eb
theorem zuW{c k dv d':D}{a:Addr}{y v:V}(m:zba K H a c)(f:Fz K H k y)(g:Fz K H dv v)(e:zkJ c k dv=.ok d'):∃ o,DP H a y v (upd H a o)/\zba K (upd H a o) a d':=by
 obtain⟨⟨kvs,q⟩,e1,e⟩:=zaj (show(dictAt c k).bind _=.ok d' from e)
 obtain⟨l,e⟩:=za3 e
 cases e
 obtain⟨rfl,ek,c⟩:=zeT e1
 have hl:kvs.length+1<=sizeLine:=Nat.le_trans (zii l) zb6
 rcases (show(∃ kk,H a=some (.dT kk)/\zbr K H kvs kk)\/∃ kk,H a=some (.dK kk)/\zbs K H kvs kk from m) with⟨kk,rd,h⟩|⟨kk,rd,h⟩
 ·have fz:∀ o,Fzn H (upd H a o):=fun o=>ziw rd trivial
  rcases zg9 f.tp ek with⟨ks,b,rfl,rfl,rfl,tb⟩|⟨k1,rfl,rfl,rfl⟩
  ·exact⟨.dT (putK kk ks v),.inl (.inr ⟨kk,ks,b,rd,rfl,tb,by rw [h.len];omega,rfl⟩),.inl ⟨_,zan,(zvZ h g ks).mono (fz _)⟩⟩
  ·obtain⟨rfl,rfl⟩:=znK h c
   exact⟨.dK [(k1,v)],.inr (.inr ⟨k1,rd,rfl,rfl⟩),.inr ⟨_,zan,by
    simp only [zpt,List.any_nil,Bool.false_eq_true,if_false,List.nil_append,zbs]
    exact⟨k1,v,[],rfl,rfl,g.mono (fz _),rfl⟩⟩⟩
 ·have fz:∀ o,Fzn H (upd H a o):=fun o=>ziw rd trivial
  rcases zg9 f.tp ek with⟨ks,b,rfl,rfl,rfl,tb⟩|⟨k1,rfl,rfl,rfl⟩
  ·obtain⟨rfl,rfl⟩:=znL h c
   exact⟨.dT [(ks,v)],.inr (.inl ⟨ks,b,rd,rfl,tb,rfl⟩),.inl ⟨_,zan,by
    simp only [zpt,List.any_nil,Bool.false_eq_true,if_false,List.nil_append,zbr]
    exact⟨ks,v,[],rfl,rfl,g.mono (fz _),rfl⟩⟩⟩
  ·exact⟨.dK (putK kk k1 v),.inl (.inl ⟨kk,k1,rd,rfl,by rw [h.len];omega,rfl⟩),.inr ⟨_,zan,(zv0 h g k1).mono (fz _)⟩⟩
def DDl(H:Hp)(a:Addr)(y:V)(o:HO):Prop:=(∃ kvs k,H a=some (.dK kvs)/\y=kV k/\(zgQ kvs k).isSome=true/\o=.dK (zbt kvs k)) \/
 ∃ kvs k b,H a=some (.dT kvs)/\y=.ref b/\TAt H b (k.map kV)/\(zgQ kvs k).isSome=true/\o=.dT (zbt kvs k)
theorem zuX{c k d':D}{a:Addr}{y:V}(m:zba K H a c)(f:Fz K H k y)(e:zmm c k=.ok d'):∃ o,DDl H a y o/\zba K (upd H a o) a d':=by
 obtain⟨⟨kvs,q⟩,e1,e⟩:=zaj (show(dictAt c k).bind _=.ok d' from e)
 obtain⟨l,e⟩:=za3 e
 cases e
 obtain⟨rfl,ek,c⟩:=zeT e1
 rcases (show(∃ kk,H a=some (.dT kk)/\zbr K H kvs kk)\/∃ kk,H a=some (.dK kk)/\zbs K H kvs kk from m) with⟨kk,rd,h⟩|⟨kk,rd,h⟩
 ·have fz:∀ o,Fzn H (upd H a o):=fun o=>ziw rd trivial
  rcases zg9 f.tp ek with⟨ks,b,rfl,rfl,rfl,tb⟩|⟨k1,rfl,rfl,rfl⟩
  ·refine⟨.dT (zbt kk ks),.inr ⟨kk,ks,b,rd,rfl,tb,?_,rfl⟩,.inl ⟨_,zan,(zqV h ks).mono (fz _)⟩⟩
   rcases znD h ks with⟨z1,z2⟩|⟨d,v,z1,z2,z3⟩
   ·rw [show look kvs (.inl ks)=none from z1] at l;cases l
   ·rw [z2];rfl
  ·obtain⟨rfl,rfl⟩:=znK h c
   cases l
 ·have fz:∀ o,Fzn H (upd H a o):=fun o=>ziw rd trivial
  rcases zg9 f.tp ek with⟨ks,b,rfl,rfl,rfl,tb⟩|⟨k1,rfl,rfl,rfl⟩
  ·obtain⟨rfl,rfl⟩:=znL h c
   cases l
  ·refine⟨.dK (zbt kk k1),.inl ⟨kk,k1,rd,rfl,?_,rfl⟩,.inr ⟨_,zan,(zqW h k1).mono (fz _)⟩⟩
   rcases znE h k1 with⟨z1,z2⟩|⟨d,v,z1,z2,z3⟩
   ·rw [show look kvs (.inr k1)=none from z1] at l;cases l
   ·rw [z2];rfl
end
end
section
variable [Cs]
section
variable {X:Cx}
theorem zt2(hu:X.A.units+1<cLine):OpR X (compareOp .In) (rD X.K inD):=by
 intro pins s σ H x y v u Q I rx ry h
 obtain⟨dx,dy,d,tx,ty,e,q⟩:=h
 obtain⟨o,e1,e⟩:=zaj (show(zel dy dx).bind _=.ok d from e)
 cases e
 obtain⟨a,r,rfl,_,g,rel⟩:=zsG ty tx e1
 cases ry
 have hb:o.isSome=r.isSome:=by
  rcases rel with⟨rfl,rfl⟩|⟨_,_,rfl,rfl,_⟩ <;> rfl
 exact zwy hu I g rx fun s3 I3=>⟨.bl r.isSome,H,I3,rfl,q _ H (zaP.refl _) (by rw [hb];simp [Fz])⟩
theorem zsv(hu:X.A.units+1<cLine):IxR X (rD X.K zfd):=by
 intro value slice pins s σ H x y v u Q I rx ry h hs
 obtain⟨dx,dy,d,tx,ty,e,q⟩:=h
 obtain⟨o,e1,e⟩:=zaj (show(zel dx dy).bind _=.ok d from e)
 have eo:=znl e
 subst eo
 obtain⟨a,r,rfl,_,g,rel⟩:=zsG tx ty e1
 cases rx
 rcases rel with⟨z,_⟩|⟨d',w,z,rfl,fz⟩
 ·cases z
 cases z
 rcases g with g|⟨z,_⟩|⟨z,_⟩
 ·have hT:=zkK I g
  have h2:wpAny (model X.prog X.w) X.A (getItem (.ref a) u) (EP X pins σ Q) X.xe s:=zok hu I g ry fun w' s3 I3 rw'=>⟨w,H,I3,rw',q w H (zaP.refl _) fz⟩
  unfold subscriptTail
  refine wpAny_bind ?_
  rw [getitemInPython_of_ne hT.not_modules]
  refine wpAny_bind (wpAny_specialOf hT PySem.F.slot_dict_getitem.lookup ?_)
  have fin:wpAny (model X.prog X.w) X.A (subscripted slice false (.ref a) u) (fun r s₃=>wpAny (model X.prog X.w) X.A (letTemporaryGo value (.ref a) r >>= fun _=>pure r) (EP X pins σ Q) X.xe s₃) X.xe s:=by
   rw [hs]
   exact wpAny_operating (wpAny_mono h2 (fun r s₃ h₃=>wpAny_bind (wpAny_letTemporaryGo (wpAny_pure h₃))) fun _ _ x=>x)
  first
   | exact wpAny_pure (wpAny_bind fin)
   | exact wpAny_bind (wpAny_pure (wpAny_bind fin))
   | exact wpAny_bind fin
 ·cases z
 ·cases z
end
section
variable {K:W.Frag}{X:Cx}{o e e':Expr}{fd fk fx f:EF}{apos cpos pos:Pos}
theorem zhm{H:Hp}{a:Addr}{d:D}{kvs:List (D×D)}(m:zba K H a (.dict kvs)):IsD H a:=by
 rcases (show(∃ kk,H a=some (.dT kk)/\_)\/∃ kk,H a=some (.dK kk)/\_ from m) with⟨kk,rd,_⟩|⟨kk,rd,_⟩
 ·exact .inr ⟨kk,.inl rd⟩
 ·exact .inl ⟨kk,.inl rd⟩
theorem zlf{y:Str}{py:Pos}(i:Nat)(hu:X.A.units+1<cLine)(ha:PE X (.Name y py) (zgS i))(he:PV K X e fk)(hf:PV K X e' fx)(m:M2 X (.Name y py) "get" apos e e' cpos):PV K X (.Call (.Attribute (.Name y py) "get" apos) [e,e'] [] cpos) (zdM i fk fx):=.mk fun hK=>by
 subst hK
 refine(zpE hu ha (he rfl) (hf rfl) m).weak fun σ H Q=>?_
 rintro⟨ρ,rel,q⟩
 obtain⟨d0,ed0,q0⟩:=q.zdF
 obtain⟨ks0,ek0,q1⟩:=q0.zdF
 cases d0 with
 | dict kvs0 =>
  obtain⟨a,at0,m0⟩:=rel.zln ed0
  refine⟨.ref a,at0.2,a,rfl,zhm (d:=.none) m0,goV rel q1 fun dk ρ2 y H2 rel2 st2 fz2 q2=>goV rel2 q2 fun dz ρ3 z H3 rel3 st3 fz3 q3=>?_⟩
  obtain⟨c,ec,q4⟩:=q3.zdF
  obtain⟨dr,er,q5⟩:=q4.zdF
  obtain⟨o1,e1,er⟩:=zaj (show(zel c dk).bind _=.ok dr from er)
  cases er
  obtain⟨a',r,ea',_,g,rl⟩:=zsG (rel3.again ec at0).tp (fz2.mono (st3.fzn rel2)).tp e1
  cases ea'
  refine⟨r,g,q5.now rel3 _ ?_⟩
  rcases rl with⟨rfl,rfl⟩|⟨d,v,rfl,rfl,fv⟩
  ·exact fz3
  ·exact fv
 | _=>cases ek0
theorem zh5{y:Str}{py ps':Pos}{ke:Expr}{k:EF}(i:Nat)(hu:X.A.units+1<cLine)(ha:PE X (.Name y py) (zgS i))(he:PV K X e f)(hk:PV K X ke k)
  (hs:swapsWith e (some (.Subscript (.Name y py) ke ps')) pos.line X.env=pure false:=by rfl):PSV K X (.Assign [.Subscript (.Name y py) ke ps'] e pos) (zdd i k f):=.mk fun hK C=>by
 subst hK
 refine(zrQ hu ha (hk rfl) (he rfl) hs).weak fun Dn σ H=>?_
 rintro⟨ρ,rel,g⟩
 refine zmj rel g fun dv ρ1 v H1 rel1 st1 fv g1=>?_
 obtain⟨d,ed,g2⟩:=g1.bnd
 obtain⟨a,at0,m0⟩:=rel1.rel.zln ed
 refine⟨.ref a,at0.2,zmj rel1 g2 fun dk ρ2 kv H2 rel2 st2 fk g3=>?_⟩
 obtain⟨c,ec,g4⟩:=g3.bnd
 obtain⟨d',ed',g5⟩:=g4.bnd
 obtain⟨o,dp,mm⟩:=zuW (rel2.rel.again ec at0) fk (fv.mono (st2.fzn rel1.rel)) ed'
 obtain⟨a2,at2,_⟩:=rel2.rel.zln ec
 have:=at0.2.symm.trans at2.2
 cases this
 exact⟨a,_,rfl,dp,zn7 rel2 at2 mm g5⟩
def zvE(td ty:TE):TS:=fun D σ H=>td σ H fun x H1=>ty σ H1 fun y H2=>∃ a o,x=.ref a/\DDl H2 a y o/\D.nx σ (upd H2 a o)
theorem zrS{i o:Expr}{td ty:TE}{tpos:Pos}(hu:X.A.units+1<cLine)(ho:PE X o td)(hi:PE X i ty):PS X (.Delete [.Subscript o i tpos] pos) (zvE td ty):=by
 intro pins s σ H D I h
 refine wpAny_Delete (wpAny_deleteEach_cons (wpAny_delete_Subscript (thn (ho pins s σ H _ I h) fun u s1 ⟨x,H1,I1,rx,q1⟩=>thn (hi pins s1 σ H1 _ I1 q1) fun iv s2 ⟨y,H2,I2,ry,a,o,ex,dd,q2⟩=>?_)))
 subst ex
 obtain rfl:u=Value.ref a:=rx
 rcases dd with⟨kvs,k,e,rfl,l,rfl⟩|⟨kvs,k,b,e,rfl,eb,l,rfl⟩
 ·exact zom I2 e ry l fun s3 I3=>wpAny_deleteEach_nil ⟨σ,_,I3,q2⟩
 ·obtain rfl:iv=Value.ref b:=ry
  exact zu0 hu I2 e eb l fun s3 I3=>wpAny_deleteEach_nil ⟨σ,_,I3,q2⟩
theorem zpi{y:Str}{py tpos:Pos}{ke:Expr}{k:EF}(i:Nat)(hu:X.A.units+1<cLine)(ha:PE X (.Name y py) (zgS i))(hk:PV K X ke k):PSV K X (.Delete [.Subscript (.Name y py) ke tpos] pos) (zg3 i k):=.mk fun hK C=>by
 subst hK
 refine(zrS hu ha (hk rfl)).weak fun Dn σ H=>?_
 rintro⟨ρ,rel,g⟩
 obtain⟨d,ed,g2⟩:=g.bnd
 obtain⟨a,at0,m0⟩:=rel.rel.zln ed
 refine⟨.ref a,at0.2,zmj rel g2 fun dk ρ2 kv H2 rel2 st2 fk g3=>?_⟩
 obtain⟨c,ec,g4⟩:=g3.bnd
 obtain⟨d',ed',g5⟩:=g4.bnd
 obtain⟨o,dd,mm⟩:=zuX (rel2.rel.again ec at0) fk ed'
 obtain⟨a2,at2,_⟩:=rel2.rel.zln ec
 have:=at0.2.symm.trans at2.2
 cases this
 exact⟨a,o,rfl,dd,zn7 rel2 at2 mm g5⟩
theorem zf3:PVN K X (.Dict [] [] pos) zcj:=.mk fun hK=>zpF.weak fun σ H Q=>by
 rintro⟨ρ,rel,q⟩ p hp
 exact q.new rel (zaP.upd hp) p hp (.inl ⟨[],zan,by simp [zbr]⟩)
theorem ztK{tg l:Expr}{tl:TE}(hl:PE X l tl):PI X tg l (fun σ H R=>tl σ H fun x H1=>∃ d o,x=.ref d/\((∃ kvs,H1 d=some (.frz o (.dT kvs))/\R (zwL d o kvs) H1)\/∃ kvs,H1 d=some (.frz o (.dK kvs))/\R (Itd d o kvs) H1)):=by
 intro pins s σ H R I h
 refine thn (hl pins s σ H _ I h) fun v s1 ⟨x,H1,I1,r1,q1⟩=>?_
 obtain⟨d,o,e,q1⟩:=q1
 subst e
 cases r1
 rcases q1 with⟨kvs,e,q⟩|⟨kvs,e,q⟩
 ·obtain⟨e0,_,_,_,_,o',es,ep,e',_,dd,_⟩:=id (show zbc X.prog X.w H1 s1.heap d (.frz o (.dT kvs)) from I1.hok d _ e)
  rw [e0] at e'
  cases e'
  obtain⟨xs,kt,da,he,sy⟩:=zkF (I1.hok d _ e) dd
  refine zuC sy da ?_
  refine⟨s1.heap.objs.size,[s1.heap.objs.size],_,_,H1,rfl,I1.kept (t':=s1.toks) fun b o e=>Heap.get?_push_of_some _ e,zlW d _ dd,⟨_,Heap.get?_push_size _ rfl,rfl,rfl⟩,fun b hb=>?_,q⟩
  have e:b=s1.heap.objs.size:=by simpa using hb
  subst e
  exact I1.zoX (Nat.le_refl _) (I1.hok.fresh (Nat.le_refl _))
 ·obtain⟨e0,_,_,vs0,_,o',es,ep,e',_,dd,_⟩:=id (show zbc X.prog X.w H1 s1.heap d (.frz o (.dK kvs)) from I1.hok d _ e)
  rw [e0] at e'
  cases e'
  obtain⟨vs,kv,da,sy⟩:=zob (I1.hok d _ e) dd
  refine wpAny_pyIter_dict sy da ?_
  refine⟨s1.heap.objs.size,[s1.heap.objs.size],_,_,H1,rfl,I1.kept (t':=s1.toks) fun b o e=>Heap.get?_push_of_some _ e,zmF d _ dd,⟨_,Heap.get?_push_size _ rfl,rfl,by rw [kv.len];rfl⟩,fun b hb=>?_,q⟩
  have e:b=s1.heap.objs.size:=by simpa using hb
  subst e
  exact I1.zoX (Nat.le_refl _) (I1.hok.fresh (Nat.le_refl _))
theorem zbr.at{H:Hp}:∀{kvs:List (D×D)} {kk:List (List Key×V)} {i:Nat} {d:D},zbr K H kvs kk->(kvs.map (·.1))[i]?=some d->∃ q v,kk[i]?=some (q,v)/\d=zma q
 | [],kk,i,d,h,e=>by simp at e
 | (k,d0)::r,kk,i,d,h,e=>by
  simp only [zbr] at h
  obtain⟨q',v0,t,rfl,rfl,f0,h2⟩:=h
  cases i with
  | zero=>simp at e;exact⟨q',v0,rfl,e.symm⟩
  | succ i =>
   obtain⟨q,v,z1,z2⟩:=zbr.at h2 (i:=i) (by simpa using e)
   exact⟨q,v,by simpa using z1,z2⟩
theorem zbs.at{H:Hp}:∀{kvs:List (D×D)} {kk:List (Key×V)} {i:Nat} {d:D},zbs K H kvs kk->(kvs.map (·.1))[i]?=some d->∃ q v,kk[i]?=some (q,v)/\d=kD q
 | [],kk,i,d,h,e=>by simp at e
 | (k,d0)::r,kk,i,d,h,e=>by
  simp only [zbs] at h
  obtain⟨q',v0,t,rfl,rfl,f0,h2⟩:=h
  cases i with
  | zero=>simp at e;exact⟨q',v0,rfl,e.symm⟩
  | succ i =>
   obtain⟨q,v,z1,z2⟩:=zbs.at h2 (i:=i) (by simpa using e)
   exact⟨q,v,by simpa using z1,z2⟩
theorem zq8{H:Hp}{a:Addr}{o:Obj}{kvs:List (D×D)}{kk:List (List Key×V)}(h:H a=some (.frz o (.dT kk)))(f:zbr K H kvs kk):Walk K (zwL a o kk) (kvs.map (·.1)) H:=by
 refine⟨fun i d H' fz e=>?_,fun i H' fz e=>⟨fz _ _ h trivial,by rw [f.len];simpa using e⟩⟩
 obtain⟨q,v,e1,rfl⟩:=f.at e
 refine⟨⟨fz _ _ h trivial,(List.getElem?_eq_some_iff.mp e1).1⟩,fun x H'' y=>?_⟩
 obtain⟨rfl,k,v',b,e2,rfl,tb⟩:=y
 rw [e1] at e2
 cases e2
 exact⟨zaP.refl _,zoa tb⟩
theorem zq9{H:Hp}{a:Addr}{o:Obj}{kvs:List (D×D)}{kk:List (Key×V)}(h:H a=some (.frz o (.dK kk)))(f:zbs K H kvs kk):Walk K (Itd a o kk) (kvs.map (·.1)) H:=by
 refine⟨fun i d H' fz e=>?_,fun i H' fz e=>⟨fz _ _ h trivial,by rw [f.len];simpa using e⟩⟩
 obtain⟨q,v,e1,rfl⟩:=f.at e
 refine⟨⟨fz _ _ h trivial,(List.getElem?_eq_some_iff.mp e1).1⟩,fun x H'' y=>?_⟩
 obtain⟨rfl,k,v',e2,rfl⟩:=y
 rw [e1] at e2
 cases e2
 exact⟨zaP.refl _,zsA⟩
theorem zd5{tg:Expr}(he:PV K X e f):PVI K X tg e (iD f):=.mk fun hK=>by
 subst hK
 refine(ztK (he rfl)).weak fun σ H R=>?_
 rintro⟨ρ,rel,q⟩
 refine goV rel q fun dx ρ1 x H1 rel1 st1 fx q1=>?_
 obtain⟨items,ei,q2⟩:=q1.zdF
 cases dx with
 | dict kvs =>
  cases ei
  simp only [Fz] at fx
  obtain⟨a,o,rfl,h⟩:=fx
  rcases h with⟨kk,h1,h2⟩|⟨kk,h1,h2⟩
  ·exact⟨a,o,rfl,.inl ⟨kk,h1,q2.now rel1 _ (zq8 h1 h2)⟩⟩
  ·exact⟨a,o,rfl,.inr ⟨kk,h1,q2.now rel1 _ (zq9 h1 h2)⟩⟩
 | _=>cases ei
end
end
end FL
namespace FL
open PySem
def zc1(i:Nat)(ρ:En):Nat:=match ρ[i]? with
 | some (.val (.int n))=>n.natAbs+1
 | _=>0
abbrev WK:=Int×List Int
def zo1:D->Option WK
 | .tuple [.int n,.tuple xs]=>(intsOf xs).map fun w=>(n,w)
 | _=>none
def zgc(G:List D->R D):List D->R (List WK)
 | []=>.ok []
 | d::r=>(G [d]).bind fun k=>(R.of (zo1 k)).bind fun w=>(zgc G r).bind fun ws=>.ok (w::ws)
def ltW(p q:WK):Bool:=if p.1=q.1 then lexLt p.2 q.2 else decide (p.1<q.1)
def znX(x:WK×D):List (WK×D)->List (WK×D)
 | []=>[x]
 | y::r=>if ltW y.1 x.1=true then y::znX x r else x::y::r
def zfc:List (WK×D)->List (WK×D)
 | []=>[]
 | x::r=>znX x (zfc r)
def zd0(G:List D->R D)(d:D):R D:=(zdB d).bind fun ks=>chk (leB (ks.length+1) 2000) ((zgc G ks).bind fun ws=>chk (decide ws.Nodup) (.ok (.list ((zfc (ws.zip ks)).map (·.2)))))
theorem zgi(x:WK×D):∀ l,(znX x l).Perm (x::l)
 | []=>.refl _
 | y::r=>by
  unfold znX
  split
  ·exact((zgi x r).cons y).trans (.swap x y r)
  ·exact .refl _
theorem zge:∀ l:List (WK×D),(zfc l).Perm l
 | []=>.refl _
 | x::r=>(zgi x _).trans ((zge r).cons x)
def zmW:D->R D
 | .list a=>.ok (.list a.reverse)
 | _=>.bad
end FL
namespace L2
open PySem PySem.Spec PyProof.Rows PySem.W
abbrev gp(p:Array Nat)(i:Nat):Nat:=p.getD i 0
theorem zkz{p q:Array Nat}{i j:Nat}(h:p[i]?=q[j]?):gp p i=gp q j:=by
 simp only [gp,Array.getD_eq_getD_getElem?,h]
section
variable {lt:Nat->Nat->Bool}{n:Nat}{cmp:Nat->Nat->(Bool->Shared->Prop)->Shared->Prop}{P:Shared->Prop}
structure Ord(lt:Nat->Nat->Bool):Prop where
 tr:∀ i j k,lt j i=false->lt k j=false->lt k i=false
 as:∀ i j,lt i j=true->lt j i=false
def Asks(lt:Nat->Nat->Bool)(n:Nat)(P:Shared->Prop)(cmp:Nat->Nat->(Bool->Shared->Prop)->Shared->Prop):Prop :=
 ∀ i j (C:Bool->Shared->Prop) s,i<n->j<n->P s->(∀ s',P s'->C (lt i j) s')->cmp i j C s
theorem Ord.refl(o:Ord lt)(i:Nat):lt i i=false:=by
 cases h:lt i i with
 | false=>rfl
 | true=>exact h.symm.trans (o.as i i h)
def Up(lt:Nat->Nat->Bool)(p:Array Nat)(m:Nat):Prop:=∀ i j,i<=j->j<m->lt (gp p j) (gp p i)=false
def Dn(lt:Nat->Nat->Bool)(p:Array Nat)(m:Nat):Prop:=∀ i j,i<=j->j<m->lt (gp p i) (gp p j)=false
structure Arr(n:Nat)(p:Array Nat):Prop where
 sz:p.size=n
 pm:p.Perm (List.toArray (List.range n))
theorem Arr.lim{p:Array Nat}(h:Arr n p)(hn:0<n)(i:Nat):gp p i<n:=by
 by_cases c:i<p.size
 ·have e:gp p i=p[i]:=by simp [gp,Array.getD,c]
  rw [e]
  have m:p[i]∈p.toList:=Array.getElem_mem_toList c
  have m2:=(Array.perm_iff_toList_perm.mp h.pm).mem_iff.mp m
  simpa using m2
 ·have e:gp p i=0:=by simp [gp,Array.getD,c]
  rw [e];exact hn
theorem zqM{p:Array Nat}{a b:Nat}(hb:b<=p.size)(k:Nat):gp (kas_rev p a b) k=if a<=k/\k<b then gp p (a+b-1-k) else gp p k:=by
 have e:=getElem?_mirror_all (xs:=p) (i:=a) hb k
 unfold kas_rev
 split
 ·rename_i c;rw [if_pos c] at e;exact zkz e
 ·rename_i c;rw [if_neg c] at e;exact zkz e
theorem Arr.rev{p:Array Nat}(h:Arr n p)(a b:Nat):Arr n (kas_rev p a b):=⟨by unfold kas_rev;rw [mirror_size];exact h.sz,(mirror_perm _ _ _ _).trans h.pm⟩
end
end L2
namespace PySem
open Spec PyProof.Rows
section
variable {prog:Program}{w:World}{A:Around}{E:Value->Shared->Prop}{s:Shared}
theorem DEs.at{h h':Heap}{d:Addr}{es:Array DictEntry}{ep:Nat}(x:DEs h d es ep)(k:∀ o,h.get? d=some o->h'.get? d=some o):DEs h' d es ep:=by
 obtain⟨o,e,r⟩:=x.ex
 exact⟨o,k o e,r⟩
theorem zs1(hh:A.handled=none)(I d:Addr)(hne:d≠I)(es:Array DictEntry)(ep:Nat) :
  Walks prog w A I [I,d] [I] es.size (fun i v=>∃ h:i<es.size,v=es[i].key) (fun i h=>h.IsKeyIter I d i es.size ep/\DEs h d es ep) where
 sub:=fun b hb=>by simp at hb;simp [hb]
 frame:=fun _ _ _ st hk=>⟨st.1.at fun o e=>hk I (by simp) o e,st.2.at fun o e=>hk d (by simp) o e⟩
 item:=fun i s Q E hi st hQ=>by
  refine zt8 st.1 st.2 hi fun h' hit' hs'=>?_
  exact hQ _ h' s.toks ⟨hi,rfl⟩ ⟨hit',st.2.at fun o e=>hs'.extBut d o hne e⟩ fun b o hb e=>hs'.extBut b o (fun h=>hb (by simp [h])) e
 done:=fun s Q E st hQ=>zw6 hh st.1 st.2 (Nat.le_refl _) fun h' he'=>hQ h' s.toks fun b o hb e=>he' b o (fun h=>hb (by simp [h])) e
 self:=fun _ _ _ _ st hQ=>wpAny_pyIter_keyiter st.1 hQ
theorem zqd{d:Addr}{es:Array DictEntry}{ep:Nat}{Q:List Value->Shared->Prop}(hh:A.handled=none)(sy:(d==sysModules)=false)(hm:DEs s.heap d es ep)(hn:es.size<=10000)
  (hQ:∀ s' (acc:Array Value),(∀ b o,s.heap.get? b=some o->s'.heap.get? b=some o)->s'.gens=s.gens->s'.drawn=s.drawn->s'.os=s.os->s.heap.objs.size<=s'.heap.objs.size->ItemsOf (fun i v=>∃ h:i<es.size,v=es[i].key) acc es.size->Q acc.toList s') :
  wpAny (model prog w) A (collect (.ref d)) Q E s:=by
 obtain⟨od,hod,hxd,hdd⟩:=hm.ex
 have dl:=Heap.lt_size hod
 unfold collect
 refine wpAny_bind (wpAny_runValue (codeAny_builtin F.entry_proto_collect ?_))
 rw [Around.under_plainId F.plain_proto_collect _]
 show wpAny _ A.in1 (newList [] >>= fun l=>again (.builtin "list.__iadd__" ⟨[l,.ref d],[]⟩)) _ _ s
 refine wpAny_bind (wpAny_newObj_type ?_)
 refine wpAny_pure ⟨plainId_quiet F.plain_list_iadd _,codeAny_builtin F.entry_list_iadd ?_⟩
 rw [Around.under_plainId F.plain_list_iadd _]
 have hm1:DEs (s.heap.push { cls:=.type "list",data:=.seq ([]:List Value).toArray }) d es ep:=hm.at fun o e=>Heap.get?_push_of_some _ e
 have hSd:s.heap.objs.size≠d:=Nat.ne_of_gt dl
 have h1:Builtin.List.listSameRef (.ref s.heap.objs.size) (.ref d)=false:=by simp [Builtin.List.listSameRef,hSd]
 show wpAny _ A.in1 (Builtin.List.listExtendWith (.ref s.heap.objs.size) (.ref d) (.ref s.heap.objs.size)) _ _ _
 unfold Builtin.List.listExtendWith
 refine wpAny_bind (wpAny_typeOf (s:={ s with heap:=s.heap.push { cls:=.type "list",data:=.seq ([]:List Value).toArray } }) hm1.typ ?_)
 rw [if_neg (by rw [h1];decide)]
 refine wpAny_bind (zuC (s:={ s with heap:=s.heap.push { cls:=.type "list",data:=.seq ([]:List Value).toArray } }) sy hm1 ?_)
 refine wpAny_bind (wpAny_holding ?_)
 have I2:s.heap.objs.size+1=(s.heap.push { cls:=.type "list",data:=.seq ([]:List Value).toArray }).objs.size:=(Heap.size_push ..).symm
 have hm2:DEs ((s.heap.push { cls:=.type "list",data:=.seq ([]:List Value).toArray }).push { cls:=.type "dict_keyiterator",data:=.fields #[.ref d,.int 0 0,.int es.size 0,.int ep 0] }) d es ep:=hm1.at fun o e=>Heap.get?_push_of_some _ e
 have ty2:=DEs.typ (s:={ s with heap:=(s.heap.push { cls:=.type "list",data:=.seq ([]:List Value).toArray }).push { cls:=.type "dict_keyiterator",data:=.fields #[.ref d,.int 0 0,.int es.size 0,.int ep 0] } }) hm2
 unfold Builtin.List.listLengthHint
 refine wpAny_bind (wpAny_specialOf ty2 F.slot_dict_len.lookup ?_)
 generalize hid:("dict.__len__":String)=id0
 wp_delta
 rw [show splitId id0=some ("dict","__len__") from by subst hid;decide +kernel]
 subst hid
 refine wpAny_bind (wpAny_isInstance (b:=true) ty2 (by rw [isSubtype_type];kernel_rfl) ?_)
 rw [if_neg (by decide)]
 dsimp only
 rw [if_pos (by decide +kernel)]
 refine wpAny_bind (wpAny_typeOf ty2 ?_)
 refine wpAny_pure ?_
 rw [if_pos (by decide +kernel)]
 refine wpAny_bind (wpAny_rule ?_)
 unfold Builtin.List.listTouch
 have hS0:((s.heap.push { cls:=.type "list",data:=.seq ([]:List Value).toArray }).push { cls:=.type "dict_keyiterator",data:=.fields #[.ref d,.int 0 0,.int es.size 0,.int ep 0] }).get? s.heap.objs.size=some (seqObj "list" #[] 0):=Heap.get?_push_of_some _ (Heap.get?_push_size _ rfl)
 refine wpAny_bind (wpAny_bind (listUpdate_at hS0 rfl ?_ (Nat.zero_le _) (by show 1<=sizeLine+1;omega)))
 have hS1:=get?_update_seq hS0 (·.push .none)
 refine listUpdate_at hS1 rfl ?_ (by show 1<=sizeLine;rw [sizeLine_eq];decide) (by show 0<=sizeLine+1;omega)
 have hS2:=get?_update_seq hS1 (·.pop)
 have up:∀ b o,b≠s.heap.objs.size->((s.heap.push { cls:=.type "list",data:=.seq ([]:List Value).toArray }).push { cls:=.type "dict_keyiterator",data:=.fields #[.ref d,.int 0 0,.int es.size 0,.int ep 0] }).get? b=some o ->
   ((((s.heap.push { cls:=.type "list",data:=.seq ([]:List Value).toArray }).push { cls:=.type "dict_keyiterator",data:=.fields #[.ref d,.int 0 0,.int es.size 0,.int ep 0] }).update s.heap.objs.size (Obj.mapSeq fun x=>x.push Value.none)).update s.heap.objs.size (Obj.mapSeq fun x=>x.pop)).get? b=some o:=fun b o hb e =>
  (((Heap.SameBut.update ..).2 b hb).trans ((Heap.SameBut.update ..).2 b hb)).trans e
 have hI:((s.heap.push { cls:=.type "list",data:=.seq ([]:List Value).toArray }).push { cls:=.type "dict_keyiterator",data:=.fields #[.ref d,.int 0 0,.int es.size 0,.int ep 0] }).get? (s.heap.push { cls:=.type "list",data:=.seq ([]:List Value).toArray }).objs.size=some { cls:=.type "dict_keyiterator",data:=.fields #[.ref d,.int 0 0,.int es.size 0,.int ep 0] }:=Heap.get?_push_size _ rfl
 have neI:(s.heap.push { cls:=.type "list",data:=.seq ([]:List Value).toArray }).objs.size≠s.heap.objs.size:=by rw [<- I2];omega
 have old:∀ b o,s.heap.get? b=some o->((s.heap.push { cls:=.type "list",data:=.seq ([]:List Value).toArray }).push { cls:=.type "dict_keyiterator",data:=.fields #[.ref d,.int 0 0,.int es.size 0,.int ep 0] }).get? b=some o:=fun b o e=>Heap.get?_push_of_some _ (Heap.get?_push_of_some _ e)
 generalize ((((s.heap.push { cls:=.type "list",data:=.seq ([]:List Value).toArray }).push { cls:=.type "dict_keyiterator",data:=.fields #[.ref d,.int 0 0,.int es.size 0,.int ep 0] }).update s.heap.objs.size (Obj.mapSeq fun x=>x.push Value.none)).update s.heap.objs.size (Obj.mapSeq fun x=>x.pop))=h5 at hS2 up ⊢
 have st:h5.IsKeyIter (s.heap.push { cls:=.type "list",data:=.seq ([]:List Value).toArray }).objs.size d 0 es.size ep:=⟨_,up _ _ neI hI,rfl,rfl⟩
 have da:DEs h5 d es ep:=hm2.at fun o e=>up d o (Ne.symm hSd) e
 generalize hIa:(s.heap.push { cls:=.type "list",data:=.seq ([]:List Value).toArray }).objs.size=Ia at st neI hI ⊢
 have ia:Ia=s.heap.objs.size+1:=by rw [<- hIa];exact I2.symm
 have ne:d≠Ia:=by rw [ia];exact Nat.ne_of_lt (Nat.lt_succ_of_lt dl)
 have nS:s.heap.objs.size∉[Ia,d]:=fun h=>by
  rcases List.mem_cons.mp h with c|c
  ·exact neI c.symm
  ·exact hSd (List.mem_singleton.mp c)
 have W:=(zs1 (prog:=prog) (w:=w) (A:=A.in1) hh Ia d ne es ep).toS
 refine wpAny_pure ⟨plainId_quiet F.plain_extend_loop _,codeAny_extend_loopS W (by rw [sizeLine_eq];omega) s.heap.objs.size nS _ es.size 0 _ _ _ rfl (Nat.zero_le _) ⟨st,da⟩ hS2 (ItemsOf.nil _) fun s' acc' c' mv hS' hacc=>?_⟩
 show wpAny _ A (load s.heap.objs.size >>= _) _ _ s'
 refine wpAny_bind (wpAny_load hS' ?_)
 refine wpAny_pure (hQ s' acc' (fun b o e=>?_) mv.gens mv.drawn mv.os (Nat.le_of_lt (Heap.lt_size hS')) hacc)
 have lt:=Heap.lt_size e
 have b1:b≠s.heap.objs.size:=Nat.ne_of_lt lt
 have b2:b≠Ia:=by rw [ia];exact Nat.ne_of_lt (Nat.lt_succ_of_lt lt)
 refine mv.heap b o (fun h=>?_) (up b o b1 (old b o e))
 rcases List.mem_cons.mp h with c|c
 ·exact b1 c
 ·exact b2 (List.mem_singleton.mp c)
end
end PySem
namespace L2
open PySem PySem.Spec PyProof.Rows PySem.W
section
def Cx.in1(X:Cx):Cx:={ X with A:=X.A.in1 }
section
variable {X:Cx}{pins:List (Addr×Obj)}{σ:L2.St}{H:Hp}{s:Shared}
theorem Cx.Ok.in1(o:X.Ok):X.in1.Ok:=⟨o.mod,o.kind,o.glob,o.blt,o.above,o.inj,o.has,o.cab,o.hd,o.frames,o.stk,o.exf,o.bs,o.bsz,o.noex,o.exfs,o.zmk,o.frf,o.tree,o.sk⟩
theorem Cx.Ok.zvg(o:X.in1.Ok):X.Ok:=⟨o.mod,o.kind,o.glob,o.blt,o.above,o.inj,o.has,o.cab,o.hd,o.frames,o.stk,o.exf,o.bs,o.bsz,o.noex,o.exfs,o.zmk,o.frf,o.tree,o.sk⟩
theorem Inv.in1(I:Inv X pins σ H s):Inv X.in1 pins σ H s:=⟨I.ok.in1,I.os,I.bare,I.base,I.loc,I.cell,I.free,I.freeC,I.pin,I.hok,I.len⟩
theorem Inv.zvg(I:Inv X.in1 pins σ H s):Inv X pins σ H s:=⟨I.ok.zvg,I.os,I.bare,I.base,I.loc,I.cell,I.free,I.freeC,I.pin,I.hok,I.len⟩
end
end
section
theorem zqD:∀ a b c:List Int,HT.lexLt b a=false->HT.lexLt c b=false->HT.lexLt c a=false
 | [],_,[],_,_=>rfl
 | [],[],_::_,_,_=>rfl
 | [],_::_,_::_,_,_=>rfl
 | _::_,[],_,h,_=>by cases h
 | _::_,_::_,[],_,h=>by cases h
 | x::xs,y::ys,z::zs,h1,h2=>by
  simp only [HT.lexLt] at h1 h2 ⊢
  by_cases c1:y=x
  ·subst c1
   rw [if_pos rfl] at h1
   by_cases c2:z=y
   ·subst c2;rw [if_pos rfl] at h2 ⊢;exact zqD xs ys zs h1 h2
   ·rw [if_neg c2] at h2 ⊢;exact h2
  ·rw [if_neg c1] at h1
   have h1':=of_decide_eq_false h1
   by_cases c2:z=y
   ·subst c2;rw [if_neg c1];exact h1
   ·rw [if_neg c2] at h2
    have h2':=of_decide_eq_false h2
    rw [if_neg (by omega)]
    exact decide_eq_false (by omega)
theorem zlr:∀ a b:List Int,HT.lexLt a b=true->HT.lexLt b a=false
 | [],[],h=>by cases h
 | [],_::_,_=>rfl
 | _::_,[],h=>by cases h
 | x::xs,y::ys,h=>by
  simp only [HT.lexLt] at h ⊢
  by_cases c:x=y
  ·subst c;rw [if_pos rfl] at h ⊢;exact zlr xs ys h
  ·rw [if_neg c] at h
   have h':=of_decide_eq_true h
   rw [if_neg (by omega)]
   exact decide_eq_false (by omega)
abbrev WK:=Int×List Int
def ltK(p q:WK):Bool:=if p.1=q.1 then HT.lexLt p.2 q.2 else decide (p.1<q.1)
theorem znA(a b c:WK)(h1:ltK b a=false)(h2:ltK c b=false):ltK c a=false:=by
 unfold ltK at h1 h2 ⊢
 by_cases c1:b.1=a.1
 ·rw [if_pos c1] at h1
  by_cases c2:c.1=b.1
  ·rw [if_pos c2] at h2;rw [if_pos (c2.trans c1)];exact zqD _ _ _ h1 h2
  ·rw [if_neg c2] at h2;rw [if_neg (by rw [<- c1];exact c2),<- c1];exact h2
 ·rw [if_neg c1] at h1
  have h1':=of_decide_eq_false h1
  by_cases c2:c.1=b.1
  ·rw [c2,if_neg c1];exact h1
  ·rw [if_neg c2] at h2
   have h2':=of_decide_eq_false h2
   rw [if_neg (by omega)]
   exact decide_eq_false (by omega)
theorem zho(a b:WK)(h:ltK a b=true):ltK b a=false:=by
 unfold ltK at h ⊢
 by_cases c:a.1=b.1
 ·rw [if_pos c] at h;rw [if_pos c.symm];exact zlr _ _ h
 ·rw [if_neg c] at h
  have h':=of_decide_eq_true h
  rw [if_neg (by omega)]
  exact decide_eq_false (by omega)
def ltP(kd:List WK)(i j:Nat):Bool:=ltK (kd.getD i (0,[])) (kd.getD j (0,[]))
theorem zwU(kd:List WK):Ord (ltP kd):=⟨fun _ _ _ h1 h2=>znA _ _ _ h1 h2,fun _ _ h=>zho _ _ h⟩
def zdV(H:Hp)(k:WK)(v:V):Prop:=∃ b c,v=.ref b/\TAt H b [.int k.1,.ref c]/\TAt H c (k.2.map V.int)
def zhR(H:Hp):List WK->List V->Prop
 | [],vs=>vs=[]
 | k::r,vs=>∃ v t,vs=v::t/\zdV H k v/\zhR H r t
theorem TAt.same{H H':Hp}{b:Addr}{xs:List V}(s:zaP H H')(h:TAt H b xs):TAt H' b xs:=by
 rcases h with h|⟨o,h⟩
 ·exact .inl (s _ _ h)
 ·exact .inr ⟨o,s _ _ h⟩
theorem zdV.same{H H':Hp}{k:WK}{v:V}(s:zaP H H')(h:zdV H k v):zdV H' k v:=by
 obtain⟨b,c,e,h1,h2⟩:=h
 exact⟨b,c,e,h1.same s,h2.same s⟩
theorem zhR.same{H H':Hp}(s:zaP H H'):∀{ks:List WK} {vs:List V},zhR H ks vs->zhR H' ks vs
 | [],vs,h=>h
 | k::r,vs,h=>by
  obtain⟨v,t,e,h1,h2⟩:=h
  exact⟨v,t,e,h1.same s,zhR.same s h2⟩
theorem zhR.snoc{H:Hp}{k:WK}{v:V}(h:zdV H k v):∀{ks:List WK} {vs:List V},zhR H ks vs->zhR H (ks++[k]) (vs++[v])
 | [],vs,e=>by
  have:vs=[]:=e
  subst this
  exact⟨v,[],rfl,h,rfl⟩
 | k0::r,vs,e=>by
  obtain⟨v0,t,rfl,h1,h2⟩:=e
  exact⟨v0,t++[v],rfl,h1,zhR.snoc h h2⟩
theorem zhR.len{H:Hp}:∀{ks:List WK} {vs:List V},zhR H ks vs->vs.length=ks.length
 | [],vs,e=>by
  have:vs=[]:=e
  subst this;rfl
 | k0::r,vs,e=>by
  obtain⟨v0,t,rfl,h1,h2⟩:=e
  simp [zhR.len h2]
theorem zhR.get{H:Hp}:∀{ks:List WK} {vs:List V} {i:Nat} {v:V},zhR H ks vs->vs[i]?=some v->zdV H (ks.getD i (0,[])) v
 | [],vs,i,v,e,h=>by
  have:vs=[]:=e
  subst this;simp at h
 | k0::r,vs,i,v,e,h=>by
  obtain⟨v0,t,rfl,h1,h2⟩:=e
  cases i with
  | zero=>simp at h;subst h;exact h1
  | succ i=>simpa using zhR.get h2 (i:=i) (by simpa using h)
section
variable {X:Cx}{pins:List (Addr×Obj)}{σ:L2.St}{H:Hp}{s:Shared}
theorem zgd(I:Inv X pins σ H s){k:WK}{v:V}{u:Value}(h:zdV H k v)(r:RelV v u) :
  ∃ b o n0 c,∃ tk:Tok,u=.ref b/\s.heap.get? b=some o/\o.cls=.type "tuple"/\o.data=.seq #[.int k.1 tk,.ref c] n0/\TAt H c (k.2.map V.int):=by
 obtain⟨b,c,rfl,h1,h2⟩:=h
 cases r
 obtain⟨its,rv,⟨o,ho,hc,n,hd⟩,_⟩:=I.tuple (.inl h1)
 cases rv with
 | cons r1 rv =>
  cases rv with
  | cons r2 rv =>
   cases rv
   obtain⟨tk,rfl⟩:=r1
   cases r2
   exact⟨b,o,n,c,tk,rfl,ho,hc,hd,h2⟩
theorem zij(I:Inv X pins σ H s){c:Addr}{w:List Int}(h:TAt H c (w.map V.int)):∃ its:Array Value,IsTup s.heap c its/\IntsAre its.toList w:=by
 obtain⟨its,rv,p,_⟩:=I.tuple (.inl h)
 exact⟨its.toArray,p,by simpa using intsAre_of rv⟩
theorem map_inl(w:List Int):(w.map (Sum.inl (β:=Str))).map kV=w.map V.int:=by simp [kV]
theorem zuv(hu:X.A.units+1<cLine)(I:Inv X pins σ H s){k k':WK}{v v':V}{u u':Value}{C:Bool->Shared->Prop}{E:Value->Shared->Prop}(h:zdV H k v)(h':zdV H k' v')(r:RelV v u)(r':RelV v' u')
  (q:C (ltK k k') s):wpAny (model X.prog X.w) X.A (keyLt' (tuples' true) u u') C E s:=by
 obtain⟨b,o,n0,c,tk,rfl,ho,hc,hd,hw⟩:=zgd I h r
 obtain⟨b',o',n0',c',tk',rfl,ho',hc',hd',hw'⟩:=zgd I h' r'
 refine kat_lt ho hd ho' hd' ?_
 refine kat_cons (wpAny_eqBool_int ?_)
 unfold ltK at q
 by_cases e1:k.1=k'.1
 ·rw [if_pos e1] at q
  rw [show(k.1==k'.1)=true from by simpa using e1]
  refine kat_yes (kat_cons ?_)
  have i1:=zb7 (ks:=k.2.map (Sum.inl (β:=Str))) I.hok (by rw [map_inl];exact hw)
  have i2:=zb7 (ks:=k'.2.map (Sum.inl (β:=Str))) I.hok (by rw [map_inl];exact hw')
  refine wpAny_eqBool_tuple (by omega) i1 i2 ?_
  by_cases e2:k.2=k'.2
  ·rw [show decide (k.2.map (Sum.inl (β:=Str))=k'.2.map Sum.inl)=true from by rw [e2];simp]
   refine kat_yes (kat_nil ?_)
   rw [e2] at q
   have z:HT.lexLt k'.2 k'.2=false:=by
    cases hz:HT.lexLt k'.2 k'.2 with
    | false=>rfl
    | true=>exact hz.symm.trans (zlr _ _ hz)
   rw [z] at q
   simpa using q
  ·rw [show decide (k.2.map (Sum.inl (β:=Str))=k'.2.map Sum.inl)=false from decide_eq_false fun z=>e2 (by
    have:=congrArg (List.map (Sum.elim id fun _=>(0:Int))) z
    simpa [List.map_map,Function.comp_def] using this)]
   refine kat_no ?_
   obtain⟨its,p1,j1⟩:=zij I hw
   obtain⟨its',p2,j2⟩:=zij I hw'
   exact kat_one _ _ (HT.zeL p1 p2 j1 j2 (by omega) q)
 ·rw [if_neg e1] at q
  rw [show(k.1==k'.1)=false from by simpa using e1]
  exact kat_no (oneLt_int q)
end
end
section
def zoU{σ β:Type}(Q I:β->σ->Shared->Prop):ForInStep β->σ->Shared->Prop
 | .done c=>Q c
 | .yield c=>I c
section
variable {M:Model}{A:Around}{E:Value->Shared->Prop}{σ:Type}{α β:Type}
theorem znS{m:StateT σ Sem α}{Q Q':α->σ->Shared->Prop}{st:σ}{s:Shared}(h:kasC M A E m Q st s)(hq:∀ a st' s',Q a st' s'->Q' a st' s'):kasC M A E m Q' st s:=wpAny_mono h (fun r _ h'=>hq _ _ _ h') fun _ _ e=>e
theorem znT{f:Nat->β->StateT σ Sem (ForInStep β)}{Q:β->σ->Shared->Prop}(I:Nat->β->σ->Shared->Prop)(t:Nat)
  (hs:∀ i x c st s,i<t->I i c st s->kasC M A E (f x c) (zoU Q (I (i+1))) st s)
  (he:∀ c st s,I t c st s->Q c st s):∀(l:List Nat) (i:Nat) (c:β) (st:σ) (s:Shared),i+l.length=t->I i c st s->kasC M A E (forIn l c f) Q st s
 | [],i,c,st,s,hl,h=>by
  have e:i=t:=by simpa using hl
  subst e
  exact kasC_nil (he c st s h)
 | x::l,i,c,st,s,hl,h=>by
  rw [List.length_cons] at hl
  refine kasC_cons (znS (hs i x c st s (by omega) h) fun r st' s' h'=>?_)
  cases r with
  | done c'=>exact h'
  | yield c'=>exact znT I t hs he l (i+1) c' st' s' (by omega) h'
theorem zb0{a b:Nat}{f:Nat->β->StateT σ Sem (ForInStep β)}{Q:β->σ->Shared->Prop}{c:β}{st:σ}{s:Shared}(I:Nat->β->σ->Shared->Prop)
  (hs:∀ i x c st s,i<b-a->I i c st s->kasC M A E (f x c) (zoU Q (I (i+1))) st s)
  (he:∀ c st s,I (b-a) c st s->Q c st s)(h:I 0 c st s):kasC M A E (forIn [a:b] c f) Q st s :=
 kasC_range (znT I (b-a) hs he _ 0 c st s (by rw [List.length_range'];omega) h)
end
def gal:Bool->Keyed->Array Keyed->Nat->Nat->Nat->StateT SortSt Sem (Option Nat):=sortPriv% PySem.Builtin.gallop
def bey(left:Bool)(key:Keyed)(arr:Array Keyed)(base i:Nat):StateT SortSt Sem (Option Bool):=do
 let x <- elem' arr (base+i)
 if left then lt' x key else return(<- lt' key x).map (!·)
def bis(qb:Nat->StateT SortSt Sem (Option Bool))(n a b:Nat):StateT SortSt Sem (Option Nat):=do
 let mut lo:=a
 let mut hi:=b
 for _ in [0:n] do
  if lo ≥ hi then break
  let m:=lo+(hi-lo) / 2
  let some more <- qb m|return none
  if more then lo:=m+1 else hi:=m
 return some hi
theorem zuH(left:Bool)(key:Keyed)(arr:Array Keyed)(base n hint:Nat):gal left key arr base n hint=(do
 let mut lst:=0
 let mut ofs:=1
 let some rgt <- bey left key arr base hint|return none
 if rgt then
  let mx:=n-hint
  for _ in [0:n] do
   if ofs ≥ mx then break
   let some more <- bey left key arr base (hint+ofs)|return none
   if !more then break
   lst:=ofs
   ofs:=2*ofs+1
  bis (bey left key arr base) n (hint+lst+1) (hint+min ofs mx)
 else
  let mx:=hint+1
  for _ in [0:n] do
   if ofs ≥ mx then break
   let some fnd <- bey left key arr base (hint-ofs)|return none
   if fnd then break
   lst:=ofs
   ofs:=2*ofs+1
  bis (bey left key arr base) n (hint+1-min ofs mx) (hint-lst)):=rfl
section
variable {lt:Nat->Nat->Bool}{n:Nat}{P:Shared->Prop}{prog:Program}{w:World}{A:Around}{E:Value->Shared->Prop}{κ:SortKind}{it:Array Keyed}{p:Array Nat}{st:SortSt}{s:Shared}
theorem zb1{M:Model}{i:Nat}{Q:Keyed->SortSt->Shared->Prop}(hi:i<p.size)(h:Q (kas_item it (gp p i)) st s):kasC M A E (elem' (p.map (kas_item it)) i) Q st s:=by
 have e:(p.map (kas_item it))[i]?=some (kas_item it (gp p i)):=by
  have e:gp p i=p[i]:=by simp [gp,Array.getD,hi]
  rw [e]
  simp [hi]
 rw [elem'_eq,e]
 exact kasC_pure h
theorem zmz(hc:Asks lt n P (kas_cmp prog w A κ it)){i j:Nat}{Q:Option Bool->SortSt->Shared->Prop}(hk:kindOf st=κ)(hi:i<n)(hj:j<n)(hp:P s)(h:∀ s',P s'->Q (some (lt i j)) st s') :
  kasC (model prog w) A E (lt' (kas_item it i) (kas_item it j)) Q st s:=by
 rw [lt'_eq]
 refine kasC_bind (kasC_get ?_)
 rw [hk]
 refine kasC_bind (kasC_lift (wpAny_attempt (wpAny_mono (hc i j (fun c s'=>c=lt i j/\P s') s hi hj hp fun s' hp'=>⟨rfl,hp'⟩) (fun c s' hc=>?_) fun _ _ hF=>hF.elim)))
 obtain⟨rfl,hp'⟩:=hc
 exact kasC_pure (h s' hp')
def byd(lt:Nat->Nat->Bool)(left:Bool)(key x:Nat):Bool:=if left=true then lt x key else !lt key x
theorem zvT(hc:Asks lt n P (kas_cmp prog w A κ it)){left:Bool}{key base i:Nat}{Q:Option Bool->SortSt->Shared->Prop}(hk:kindOf st=κ)(hl:∀ i,gp p i<n)(hy:key<n)(hi:base+i<p.size)(hp:P s)(h:∀ s',P s'->Q (some (byd lt left key (gp p (base+i)))) st s') :
  kasC (model prog w) A E (bey left (kas_item it key) (p.map (kas_item it)) base i) Q st s:=by
 unfold bey
 refine kasC_bind (zb1 hi ?_)
 cases left with
 | true=>exact zmz hc hk (hl _) hy hp h
 | false=>exact kasC_bind (zmz hc hk hy (hl _) hp fun s' hp'=>kasC_pure (h s' hp'))
theorem zhE{qb:Nat->StateT SortSt Sem (Option Bool)}{m:Nat}{B:Nat->Bool}{Q:Option Nat->SortSt->Shared->Prop}
  (hq:∀{i:Nat} {Q:Option Bool->SortSt->Shared->Prop} {s:Shared},i<m->P s->(∀ s',P s'->Q (some (B i)) st s')->kasC (model prog w) A E (qb i) Q st s)
  (mono:∀ i j,i<=j->j<m->B j=true->B i=true){lo hi:Nat}(h1:lo<=hi)(h2:hi<=m)(b1:∀ i,i<lo->B i=true)(b2:∀ i,hi<=i->i<m->B i=false)(hp:P s)
  (h:∀ k s',P s'->k<=m->(∀ i,i<k->B i=true)->(∀ i,k<=i->i<m->B i=false)->Q (some k) st s') :
  kasC (model prog w) A E (bis qb m lo hi) Q st s:=by
 unfold bis
 refine kasC_bind (zb0 (fun i c st' s'=>st'=st/\P s'/\∃ lo hi,c=(none,lo,hi)/\lo<=hi/\hi<=m/\hi-lo<=m-i/\(∀ i,i<lo->B i=true)/\∀ i,hi<=i->i<m->B i=false) ?_ ?_ ⟨rfl,hp,lo,hi,rfl,h1,h2,by omega,b1,b2⟩)
 ·rintro i x c st' s' hi' ⟨rfl,hp',lo,hi,rfl,h1,h2,h3,b1,b2⟩
  dsimp only
  by_cases c:lo ≥ hi
  ·rw [if_pos c]
   refine kasC_pure ?_
   have:lo=hi:=by omega
   subst this
   exact kasC_pure (h lo s' hp' h2 b1 b2)
  ·rw [if_neg c]
   refine kasC_bind (hq (by omega) hp' fun s2 hp2=>?_)
   dsimp only
   cases e:B (lo+(hi-lo) / 2) with
   | true =>
    rw [if_pos rfl]
    refine kasC_pure ⟨rfl,hp2,_,_,rfl,by omega,h2,by omega,fun j hj=>mono j _ (by omega) (by omega) e,b2⟩
   | false =>
    rw [if_neg (by decide)]
    refine kasC_pure ⟨rfl,hp2,_,_,rfl,by omega,by omega,by omega,b1,fun j hj hj2=>?_⟩
    cases e2:B j with
    | false=>rfl
    | true=>rw [mono _ j hj hj2 e2] at e;cases e
 ·rintro c st' s' ⟨rfl,hp',lo,hi,rfl,h1,h2,h3,b1,b2⟩
  have:lo=hi:=by omega
  subst this
  exact kasC_pure (h lo s' hp' h2 b1 b2)
theorem zl2(hc:Asks lt n P (kas_cmp prog w A κ it)){left:Bool}{key base m hint:Nat}{Q:Option Nat->SortSt->Shared->Prop}(hk:kindOf st=κ)(hl:∀ i,gp p i<n)(hy:key<n)(hm:base+m<=p.size)(hh:hint<m)
  (mono:∀ i j,i<=j->j<m->byd lt left key (gp p (base+j))=true->byd lt left key (gp p (base+i))=true)(hp:P s)
  (h:∀ k s',P s'->k<=m->(∀ i,i<k->byd lt left key (gp p (base+i))=true)->(∀ i,k<=i->i<m->byd lt left key (gp p (base+i))=false)->Q (some k) st s') :
  kasC (model prog w) A E (gal left (kas_item it key) (p.map (kas_item it)) base m hint) Q st s:=by
 rw [zuH]
 have hq:∀{i:Nat} {Q:Option Bool->SortSt->Shared->Prop} {s:Shared},i<m->P s->(∀ s',P s'->Q (some (byd lt left key (gp p (base+i)))) st s')->kasC (model prog w) A E (bey left (kas_item it key) (p.map (kas_item it)) base i) Q st s:=fun hi hp h=>zvT hc hk hl hy (by omega) hp h
 obtain⟨B,hB⟩:∃ B:Nat->Bool,∀ i,byd lt left key (gp p (base+i))=B i:=⟨_,fun _=>rfl⟩
 simp only [hB] at mono h hq
 refine kasC_bind (hq hh hp fun s1 hp1=>?_)
 dsimp only
 have anti:∀ i j,i<=j->j<m->B i=false->B j=false:=fun i j h1 h2 e=>by
  cases e2:B j with
  | false=>rfl
  | true=>rw [mono i j h1 h2 e2] at e;cases e
 cases e:B hint with
 | true =>
  rw [if_pos rfl]
  refine kasC_bind (zb0 (fun i c st' s'=>st'=st/\P s'/\∃ a b,c=(none,a,b)/\a<b/\hint+a<m/\i<b/\B (hint+a)=true) ?_ ?_ ⟨rfl,hp1,0,1,rfl,by omega,by omega,by omega,e⟩)
  ·rintro i x c st' s' hi' ⟨rfl,hp',a,b,rfl,h1,h2,h3,b1⟩
   dsimp only
   by_cases c:b ≥ m-hint
   ·rw [if_pos c]
    refine kasC_pure ?_
    dsimp only [zoU]
    exact zhE (m:=m) (lo:=hint+a+1) (hi:=hint+min b (m-hint)) hq mono (by omega) (by omega) (fun j hj=>mono j _ (by omega) h2 b1) (fun j hj hj2=>by omega) hp' h
   ·rw [if_neg c]
    refine kasC_bind (hq (by omega) hp' fun s2 hp2=>?_)
    dsimp only
    cases e2:B (hint+b) with
    | true=>exact kasC_pure ⟨rfl,hp2,_,_,rfl,by omega,by omega,by omega,e2⟩
    | false =>
     refine kasC_pure ?_
     dsimp only [zoU]
     exact zhE (m:=m) (lo:=hint+a+1) (hi:=hint+min b (m-hint)) hq mono (by omega) (by omega) (fun j hj=>mono j _ (by omega) h2 b1) (fun j hj hj2=>anti _ j (by omega) hj2 e2) hp2 h
  ·rintro c st' s' ⟨rfl,hp',a,b,rfl,h1,h2,h3,b1⟩
   dsimp only
   exact zhE (m:=m) (lo:=hint+a+1) (hi:=hint+min b (m-hint)) hq mono (by omega) (by omega) (fun j hj=>mono j _ (by omega) h2 b1) (fun j hj hj2=>by omega) hp' h
 | false =>
  rw [if_neg (by decide)]
  refine kasC_bind (zb0 (fun i c st' s'=>st'=st/\P s'/\∃ a b,c=(none,a,b)/\a<b/\a<=hint/\i<b/\B (hint-a)=false) ?_ ?_ ⟨rfl,hp1,0,1,rfl,by omega,by omega,by omega,e⟩)
  ·rintro i x c st' s' hi' ⟨rfl,hp',a,b,rfl,h1,h2,h3,b1⟩
   dsimp only
   by_cases c:b ≥ hint+1
   ·rw [if_pos c]
    refine kasC_pure ?_
    dsimp only [zoU]
    exact zhE (m:=m) (lo:=hint+1-min b (hint+1)) (hi:=hint-a) hq mono (by omega) (by omega) (fun j hj=>by omega) (fun j hj hj2=>anti _ j (by omega) hj2 b1) hp' h
   ·rw [if_neg c]
    refine kasC_bind (hq (by omega) hp' fun s2 hp2=>?_)
    dsimp only
    cases e2:B (hint-b) with
    | true =>
     refine kasC_pure ?_
     dsimp only [zoU]
     exact zhE (m:=m) (lo:=hint+1-min b (hint+1)) (hi:=hint-a) hq mono (by omega) (by omega) (fun j hj=>mono j _ (by omega) (by omega) e2) (fun j hj hj2=>anti _ j (by omega) hj2 b1) hp2 h
    | false=>exact kasC_pure ⟨rfl,hp2,_,_,rfl,by omega,by omega,by omega,e2⟩
  ·rintro c st' s' ⟨rfl,hp',a,b,rfl,h1,h2,h3,b1⟩
   dsimp only
   exact zhE (m:=m) (lo:=hint+1-min b (hint+1)) (hi:=hint-a) hq mono (by omega) (by omega) (fun j hj=>by omega) (fun j hj hj2=>anti _ j (by omega) hj2 b1) hp' h
end
end
section
structure MI(r:Nat->Nat->Prop)(la lb o:List Nat)(ia ib:Nat):Prop where
 pm:o.Perm (la.take ia++lb.take ib)
 so:o.Pairwise r
 xa:∀ x∈o,∀ y∈la.drop ia,r x y
 xb:∀ x∈o,∀ y∈lb.drop ib,r x y
 ha:ia<=la.length
 hb:ib<=lb.length
section
variable {r:Nat->Nat->Prop}{la lb o:List Nat}{ia ib:Nat}
theorem MI.symm(h:MI r la lb o ia ib):MI r lb la o ib ia:=⟨h.pm.trans List.perm_append_comm,h.so,h.xb,h.xa,h.hb,h.ha⟩
theorem MI.nil:MI r la lb [] 0 0:=⟨by simp,.nil,fun x hx=>by simp at hx,fun x hx=>by simp at hx,Nat.zero_le _,Nat.zero_le _⟩
theorem MI.a(h:MI r la lb o ia ib)(sa:la.Pairwise r)(k:Nat)(hk:ia+k<=la.length)(hx:∀ x∈(la.drop ia).take k,∀ y∈lb.drop ib,r x y):MI r la lb (o++(la.drop ia).take k) (ia+k) ib:=by
 have e:la.drop ia=(la.drop ia).take k++la.drop (ia+k):=by rw [<- List.drop_drop,List.take_append_drop]
 have sd:(la.drop ia).Pairwise r:=sa.sublist (List.drop_sublist _ _)
 rw [e] at sd
 have sd:=List.pairwise_append.mp sd
 refine⟨?_,List.pairwise_append.mpr ⟨h.so,sd.1,fun x hx y hy=>h.xa x hx y (List.mem_of_mem_take hy)⟩,fun x hx y hy=>?_,fun x hx' y hy=>?_,hk,h.hb⟩
 ·rw [List.take_add,List.append_assoc]
  refine(h.pm.append_right _).trans ?_
  rw [List.append_assoc]
  exact List.perm_append_comm.append_left _
 ·rcases List.mem_append.mp hx with m|m
  ·exact h.xa x m y (by rw [e];exact List.mem_append_right _ hy)
  ·exact sd.2.2 x m y hy
 ·rcases List.mem_append.mp hx' with m|m
  ·exact h.xb x m y hy
  ·exact hx x m y hy
theorem MI.b(h:MI r la lb o ia ib)(sb:lb.Pairwise r)(k:Nat)(hk:ib+k<=lb.length)(hx:∀ x∈(lb.drop ib).take k,∀ y∈la.drop ia,r x y):MI r la lb (o++(lb.drop ib).take k) ia (ib+k):=(h.symm.a sb k hk hx).symm
theorem MI.fin(h:MI r la lb o ia ib)(sa:la.Pairwise r)(sb:lb.Pairwise r)(hx:∀ x∈la.drop ia,∀ y∈lb.drop ib,r x y):(o++la.drop ia++lb.drop ib).Perm (la++lb)/\(o++la.drop ia++lb.drop ib).Pairwise r:=by
 have ha:=h.ha
 have hb:=h.hb
 have h1:=h.a sa (la.length-ia) (by omega) fun x m=>hx x (List.mem_of_mem_take m)
 rw [List.take_of_length_le (by simp),show ia+(la.length-ia)=la.length by omega] at h1
 have h2:=h1.b sb (lb.length-ib) (by omega) fun x m y hy=>by simp at hy
 rw [List.take_of_length_le (by simp),show ib+(lb.length-ib)=lb.length by omega] at h2
 exact⟨by simpa using h2.pm,h2.so⟩
theorem MI.fin'(h:MI r la lb o ia ib)(sa:la.Pairwise r)(sb:lb.Pairwise r)(hx:∀ x∈lb.drop ib,∀ y∈la.drop ia,r x y):(o++lb.drop ib++la.drop ia).Perm (la++lb)/\(o++lb.drop ib++la.drop ia).Pairwise r:=by
 obtain⟨a,b⟩:=h.symm.fin sb sa hx
 exact⟨a.trans List.perm_append_comm,b⟩
end
def mlo:Array Keyed->Array Keyed->StateT SortSt Sem (Array Keyed):=sortPriv% PySem.Builtin.mergeLo
def mhi:Array Keyed->Array Keyed->StateT SortSt Sem (Array Keyed):=sortPriv% PySem.Builtin.mergeHi
abbrev zaH(st:SortSt)(g:Nat):SortSt:=SortSt.mk' (kindOf st) (arrOf st) (pendingOf st) g (failedOf st)
def zqp(g:Nat):StateT SortSt Sem Unit:=modify fun s=>zaH s g
abbrev T6:=Option (Array Keyed)×Array Keyed×Nat×Nat×Nat×Nat
abbrev T7:=Option (Array Keyed)×Array Keyed×Nat×Nat×Nat×Nat×Nat
def ziQ(a b out:Array Keyed)(ia ib:Nat):Array Keyed:=out++a.extract ia a.size++b.extract ib b.size
def zoY(a b out:Array Keyed)(ia ib:Nat):Array Keyed:=out++b.extract ib b.size++a.extract ia a.size
def lo1(a b:Array Keyed)(mg:Nat)(c:T6):StateT SortSt Sem (ForInStep T6):=do
 let x <- elem' b c.2.2.2.1
 let y <- elem' a c.2.2.1
 let q <- lt' x y
 match q with
 | some won =>
  if won=true then do
   let z <- elem' b c.2.2.2.1
   if(c.2.2.2.1+1==b.size)=true then pure (.done (some (ziQ a b (c.2.1.push z) c.2.2.1 (c.2.2.2.1+1)),c.2.1.push z,c.2.2.1,c.2.2.2.1+1,0,c.2.2.2.2.2+1))
   else if c.2.2.2.2.2+1 ≥ mg then pure (.done (none,c.2.1.push z,c.2.2.1,c.2.2.2.1+1,0,c.2.2.2.2.2+1))
   else pure (.yield (none,c.2.1.push z,c.2.2.1,c.2.2.2.1+1,0,c.2.2.2.2.2+1))
  else do
   let z <- elem' a c.2.2.1
   if(c.2.2.1+1+1==a.size)=true then pure (.done (some (zoY a b (c.2.1.push z) (c.2.2.1+1) c.2.2.2.1),c.2.1.push z,c.2.2.1+1,c.2.2.2.1,c.2.2.2.2.1+1,0))
   else if c.2.2.2.2.1+1 ≥ mg then pure (.done (none,c.2.1.push z,c.2.2.1+1,c.2.2.2.1,c.2.2.2.2.1+1,0))
   else pure (.yield (none,c.2.1.push z,c.2.2.1+1,c.2.2.2.1,c.2.2.2.2.1+1,0))
 | _=>pure (.done (some (ziQ a b c.2.1 c.2.2.1 c.2.2.2.1),c.2.1,c.2.2.1,c.2.2.2.1,c.2.2.2.2.1,c.2.2.2.2.2))
def lo4(a b out:Array Keyed)(ia ib mg ca cb:Nat):StateT SortSt Sem (ForInStep T7):=do
 let x <- elem' a ia
 if(ia+1+1==a.size)=true then pure (.done (some (zoY a b (out.push x) (ia+1) ib),out.push x,ia+1,ib,mg,ca,cb))
 else if(decide (ca<7)&&decide (cb<7))=true then pure (.done (none,out.push x,ia+1,ib,mg,ca,cb))
 else pure (.yield (none,out.push x,ia+1,ib,mg,ca,cb))
def lo3(a b out:Array Keyed)(ia ib mg ca cb:Nat):StateT SortSt Sem (ForInStep T7):=do
 let x <- elem' b ib
 if(ib+1==b.size)=true then pure (.done (some (ziQ a b (out.push x) ia (ib+1)),out.push x,ia,ib+1,mg,ca,cb))
 else do
  let y <- elem' a ia
  let q <- gal true y b (ib+1) (b.size-(ib+1)) 0
  match q with
  | some k =>
   if k > 0 then
    if(ib+1+k==b.size)=true then pure (.done (some (ziQ a b (out.push x++b.extract (ib+1) (ib+1+k)) ia (ib+1+k)),out.push x++b.extract (ib+1) (ib+1+k),ia,ib+1+k,mg,ca,k))
    else lo4 a b (out.push x++b.extract (ib+1) (ib+1+k)) ia (ib+1+k) mg ca k
   else lo4 a b (out.push x) ia (ib+1) mg ca k
  | _=>pure (.done (some (ziQ a b (out.push x) ia (ib+1)),out.push x,ia,ib+1,mg,ca,cb))
def lo2(a b out:Array Keyed)(ia ib mg ca cb:Nat):StateT SortSt Sem (ForInStep T7):=do
 zqp mg
 let x <- elem' b ib
 let q <- gal false x a ia (a.size-ia) 0
 match q with
 | some k =>
  if k > 0 then
   if(ia+k+1==a.size)=true then pure (.done (some (zoY a b (out++a.extract ia (ia+k)) (ia+k) ib),out++a.extract ia (ia+k),ia+k,ib,mg,k,cb))
   else if(ia+k==a.size)=true then pure (.done (some (ziQ a b (out++a.extract ia (ia+k)) (ia+k) ib),out++a.extract ia (ia+k),ia+k,ib,mg,k,cb))
   else lo3 a b (out++a.extract ia (ia+k)) (ia+k) ib mg k cb
  else lo3 a b out ia ib mg k cb
 | _=>pure (.done (some (ziQ a b out ia ib),out,ia,ib,mg,ca,cb))
theorem zsh(a b:Array Keyed):mlo a b=(do
 rule "list.sort.merge-lo"
 let mut out:Array Keyed:=#[<- elem' b 0]
 let mut ia:=0
 let mut ib:=1
 if ib==b.size then return ziQ a b out ia ib
 if ia+1==a.size then return zoY a b out ia ib
 let mut mg:=gallopOf (<- get)
 for _ in [0:a.size+b.size] do
  let mut ca:=0
  let mut cb:=0
  for _ in [0:a.size+b.size] do
   let some won <- lt' (<- elem' b ib) (<- elem' a ia)|return ziQ a b out ia ib
   if won then
    out:=out.push (<- elem' b ib);ib:=ib+1;cb:=cb+1;ca:=0
    if ib==b.size then return ziQ a b out ia ib
    if cb ≥ mg then break
   else
    out:=out.push (<- elem' a ia);ia:=ia+1;ca:=ca+1;cb:=0
    if ia+1==a.size then return zoY a b out ia ib
    if ca ≥ mg then break
  rule "list.sort.gallop"
  mg:=mg+1
  for _ in [0:a.size+b.size] do
   if mg > 1 then mg:=mg-1
   zqp mg
   let some k <- gal false (<- elem' b ib) a ia (a.size-ia) 0|return ziQ a b out ia ib
   ca:=k
   if k > 0 then
    out:=out++a.extract ia (ia+k);ia:=ia+k
    if ia+1==a.size then return zoY a b out ia ib
    if ia==a.size then return ziQ a b out ia ib
   out:=out.push (<- elem' b ib);ib:=ib+1
   if ib==b.size then return ziQ a b out ia ib
   let some k <- gal true (<- elem' a ia) b ib (b.size-ib) 0|return ziQ a b out ia ib
   cb:=k
   if k > 0 then
    out:=out++b.extract ib (ib+k);ib:=ib+k
    if ib==b.size then return ziQ a b out ia ib
   out:=out.push (<- elem' a ia);ia:=ia+1
   if ia+1==a.size then return zoY a b out ia ib
   if ca<7&&cb<7 then break
  mg:=mg+1
  zqp mg
 unsupported "internal:list.sort.merge-bound"):=rfl
abbrev T5:=Option (Array Keyed)×Array Keyed×Nat×Nat×Nat
def lo7(r:T5):StateT SortSt Sem (Array Keyed):=match r.1 with
 | some x=>pure x
 | none=>unsupported "internal:list.sort.merge-bound"
def lo6(e:T7):StateT SortSt Sem (ForInStep T5):=match e.1 with
 | some x=>pure (.done (some x,e.2.1,e.2.2.1,e.2.2.2.1,e.2.2.2.2.1))
 | none=>do
  zqp (e.2.2.2.2.1+1)
  pure (.yield (none,e.2.1,e.2.2.1,e.2.2.2.1,e.2.2.2.2.1+1))
def lo5(t:Nat)(F:Array Keyed->Nat->Nat->Nat->Nat->Nat->StateT SortSt Sem (ForInStep T7))(mg:Nat)(d:T6):StateT SortSt Sem (ForInStep T5):=match d.1 with
 | some x=>pure (.done (some x,d.2.1,d.2.2.1,d.2.2.2.1,mg))
 | none=>do
  rule "list.sort.gallop"
  let e <- forIn [0:t] ((none,d.2.1,d.2.2.1,d.2.2.2.1,mg+1,d.2.2.2.2.1,d.2.2.2.2.2):T7) fun _ e=>if e.2.2.2.2.1 > 1 then F e.2.1 e.2.2.1 e.2.2.2.1 (e.2.2.2.2.1-1) e.2.2.2.2.2.1 e.2.2.2.2.2.2 else F e.2.1 e.2.2.1 e.2.2.2.1 e.2.2.2.2.1 e.2.2.2.2.2.1 e.2.2.2.2.2.2
  lo6 e
theorem zug(a b:Array Keyed):mlo a b=(do
 rule "list.sort.merge-lo"
 let z <- elem' b 0
 if(1==b.size)=true then pure (ziQ a b #[z] 0 1)
 else if(0+1==a.size)=true then pure (zoY a b #[z] 0 1)
 else do
  let g <- get
  let r <- forIn [0:a.size+b.size] ((none,#[z],0,1,gallopOf g):T5) fun _ c=>do
   let d <- forIn [0:a.size+b.size] ((none,c.2.1,c.2.2.1,c.2.2.2.1,0,0):T6) fun _ d=>lo1 a b c.2.2.2.2 d
   lo5 (a.size+b.size) (lo2 a b) c.2.2.2.2 d
  lo7 r):=by
 rw [zsh]
 dsimp only
 apply congrArg;funext _
 apply congrArg;funext z
 apply congrArg
 apply congrArg
 apply congrArg;funext g
 refine congr ?_ ?_
 ·apply congrArg
  apply congrArg;funext _ c
  refine congr ?_ ?_
  ·rfl
  ·funext d
   unfold lo5
   cases d.1
   ·dsimp only
    apply congrArg;funext _
    refine congr ?_ ?_
    ·rfl
    ·funext e
     unfold lo6
     cases e.1 <;> rfl
   ·rfl
 ·funext r
  unfold lo7
  cases r.1 <;> rfl
end
section
def rl(lt:Nat->Nat->Bool)(x y:Nat):Prop:=lt y x=false
theorem zn4{p:Array Nat}{i:Nat}(h:i<p.size):p.toList[i]?=some (gp p i):=by
 simp [gp,Array.getD,h]
theorem zjb{p:Array Nat}{a k x:Nat}(h:x∈(p.toList.drop a).take k):∃ i,a<=i/\i<a+k/\i<p.size/\gp p i=x:=by
 obtain⟨j,hj,e⟩:=List.mem_iff_getElem.mp h
 have hj':=hj
 simp only [List.length_take,List.length_drop,Array.length_toList] at hj'
 refine⟨a+j,by omega,by omega,by omega,?_⟩
 have e2:=zn4 (p:=p) (i:=a+j) (by omega)
 rw [<- e]
 simp [gp,Array.getD,show a+j<p.size by omega]
theorem zc5{p:Array Nat}{a x:Nat}(h:x∈p.toList.drop a):∃ i,a<=i/\i<p.size/\gp p i=x:=by
 have h':x∈(p.toList.drop a).take p.size:=by rw [List.take_of_length_le (by simp)];exact h
 obtain⟨i,h1,_,h3,h4⟩:=zjb h'
 exact⟨i,h1,h3,h4⟩
theorem zvV{r:Nat->Nat->Prop}{p:Array Nat}(h:p.toList.Pairwise r){i j:Nat}(hij:i<j)(hj:j<p.size):r (gp p i) (gp p j):=by
 have:=List.pairwise_iff_getElem.mp h i j (by simpa using Nat.lt_trans hij hj) (by simpa using hj) hij
 simpa [gp,Array.getD,hj,Nat.lt_trans hij hj] using this
structure MC(lt:Nat->Nat->Bool)(n:Nat)(pa pb:Array Nat):Prop where
 o:Ord lt
 sa:pa.toList.Pairwise (rl lt)
 sb:pb.toList.Pairwise (rl lt)
 na:∀ i,gp pa i<n
 nb:∀ i,gp pb i<n
 last:∀ i,i<pb.size->rl lt (gp pb i) (gp pa (pa.size-1))
 first:∀ i,i<pa.size->rl lt (gp pb 0) (gp pa i)
 za:0<pa.size
 zb:0<pb.size
theorem zl1{lt:Nat->Nat->Bool}(o:Ord lt){p:Array Nat}(h:p.toList.Pairwise (rl lt)){i j:Nat}(hij:i<=j)(hj:j<p.size):rl lt (gp p i) (gp p j):=by
 by_cases c:i=j
 ·subst c;exact o.refl _
 ·exact zvV h (by omega) hj
section
variable {lt:Nat->Nat->Bool}{n:Nat}{P:Shared->Prop}{prog:Program}{w:World}{A:Around}{E:Value->Shared->Prop}{κ:SortKind}{it:Array Keyed}{pa pb o:Array Nat}{st:SortSt}{s:Shared}{ia ib:Nat}
theorem zqX(p:Array Nat)(i:Nat):(p.toList.drop i).take (p.size-i)=p.toList.drop i:=List.take_of_length_le (by simp)
def FinA(lt:Nat->Nat->Bool)(it:Array Keyed)(pa pb:Array Nat)(x:Array Keyed):Prop:=∃ q:Array Nat,x=q.map (kas_item it)/\q.toList.Perm (pa.toList++pb.toList)/\q.toList.Pairwise (rl lt)
def OkR(lt:Nat->Nat->Bool)(it:Array Keyed)(pa pb:Array Nat)(res:Option (Array Keyed))(out:Array Keyed)(ia ib m:Nat):Prop :=
 (∃ x,res=some x/\FinA lt it pa pb x)\/(res=none/\∃ o:Array Nat,out=o.map (kas_item it)/\m<o.size/\MI (rl lt) pa.toList pb.toList o.toList ia ib/\ia+1<pa.size/\ib<pb.size)
theorem zod(h:MC lt n pa pb)(mi:MI (rl lt) pa.toList pb.toList o.toList ia ib)(hx:pb.size<=ib\/pa.size<=ia):FinA lt it pa pb (ziQ (pa.map (kas_item it)) (pb.map (kas_item it)) (o.map (kas_item it)) ia ib):=by
 refine⟨o++pa.extract ia pa.size++pb.extract ib pb.size,by unfold ziQ;simp,?_⟩
 have:=mi.fin h.sa h.sb fun x hx' y hy=>by
  obtain⟨i,a1,a2,_⟩:=zc5 hx'
  obtain⟨j,b1,b2,_⟩:=zc5 hy
  omega
 simpa [List.extract,zqX] using this
theorem zp5(h:MC lt n pa pb)(mi:MI (rl lt) pa.toList pb.toList o.toList ia ib)(hx:ia+1=pa.size):FinA lt it pa pb (zoY (pa.map (kas_item it)) (pb.map (kas_item it)) (o.map (kas_item it)) ia ib):=by
 refine⟨o++pb.extract ib pb.size++pa.extract ia pa.size,by unfold zoY;simp,?_⟩
 have:=mi.fin' h.sa h.sb fun x hx' y hy=>by
  obtain⟨i,a1,a2,rfl⟩:=zc5 hx'
  obtain⟨j,b1,b2,rfl⟩:=zc5 hy
  rw [show j=pa.size-1 by omega]
  exact h.last i a2
 simpa [List.extract,zqX] using this
theorem zwY(h:MC lt n pa pb)(mi:MI (rl lt) pa.toList pb.toList o.toList ia ib)(k:Nat)(hk:ia+k<=pa.size)(hx:∀ i,ia<=i->i<ia+k->ib<pb.size->rl lt (gp pa i) (gp pb ib)):MI (rl lt) pa.toList pb.toList (o++pa.extract ia (ia+k)).toList (ia+k) ib:=by
 have:=mi.a h.sa k (by simpa using hk) fun x hx' y hy=>by
  obtain⟨i,a1,a2,_,rfl⟩:=zjb hx'
  obtain⟨j,b1,b2,rfl⟩:=zc5 hy
  exact h.o.tr _ _ _ (hx i a1 a2 (by omega)) (zl1 h.o h.sb b1 b2)
 simpa [List.extract,show ia+k-ia=k by omega] using this
theorem zwX(h:MC lt n pa pb)(mi:MI (rl lt) pa.toList pb.toList o.toList ia ib)(k:Nat)(hk:ib+k<=pb.size)(hx:∀ i,ib<=i->i<ib+k->ia<pa.size->rl lt (gp pb i) (gp pa ia)):MI (rl lt) pa.toList pb.toList (o++pb.extract ib (ib+k)).toList ia (ib+k):=by
 have:=mi.b h.sb k (by simpa using hk) fun x hx' y hy=>by
  obtain⟨i,a1,a2,_,rfl⟩:=zjb hx'
  obtain⟨j,b1,b2,rfl⟩:=zc5 hy
  exact h.o.tr _ _ _ (hx i a1 a2 (by omega)) (zl1 h.o h.sa b1 b2)
 simpa [List.extract,show ib+k-ib=k by omega] using this
theorem zwv{p:Array Nat}{i:Nat}(h:i<p.size):p.extract i (i+1)=#[gp p i]:=by
 apply Array.ext'
 simp [List.extract,gp,Array.getD,h,List.drop_eq_getElem_cons]
theorem zuh(h:MC lt n pa pb)(mi:MI (rl lt) pa.toList pb.toList o.toList ia ib)(hk:ia<pa.size)(hx:ib<pb.size->rl lt (gp pa ia) (gp pb ib)):MI (rl lt) pa.toList pb.toList (o.push (gp pa ia)).toList (ia+1) ib:=by
 have:=zwY h mi 1 hk fun i h1 h2 h3=>by rw [show i=ia by omega];exact hx h3
 rwa [zwv hk,Array.append_singleton] at this
theorem zsj(h:MC lt n pa pb)(mi:MI (rl lt) pa.toList pb.toList o.toList ia ib)(hk:ib<pb.size)(hx:ia<pa.size->rl lt (gp pb ib) (gp pa ia)):MI (rl lt) pa.toList pb.toList (o.push (gp pb ib)).toList ia (ib+1):=by
 have:=zwX h mi 1 hk fun i h1 h2 h3=>by rw [show i=ib by omega];exact hx h3
 rwa [zwv hk,Array.append_singleton] at this
theorem zvN(hc:Asks lt n P (kas_cmp prog w A κ it))(h:MC lt n pa pb)(hk:kindOf st=κ){mg ca cb:Nat}{R:ForInStep T6->SortSt->Shared->Prop}(hp:P s)(mi:MI (rl lt) pa.toList pb.toList o.toList ia ib)(h1:ia+1<pa.size)(h2:ib<pb.size)
  (hd:∀ res out ia ib ca cb s',P s'->OkR lt it pa pb res out ia ib o.size->R (.done (res,out,ia,ib,ca,cb)) st s')
  (hy:∀ out ia ib ca cb s',P s'->OkR lt it pa pb none out ia ib o.size->R (.yield (none,out,ia,ib,ca,cb)) st s') :
  kasC (model prog w) A E (lo1 (pa.map (kas_item it)) (pb.map (kas_item it)) mg (none,o.map (kas_item it),ia,ib,ca,cb)) R st s:=by
 unfold lo1
 dsimp only
 refine kasC_bind (zb1 h2 (kasC_bind (zb1 (by omega) (kasC_bind (zmz hc hk (h.nb _) (h.na _) hp fun s1 hp1=>?_)))))
 dsimp only
 rw [Array.size_map,Array.size_map]
 cases e:lt (gp pb ib) (gp pa ia) with
 | true =>
  rw [if_pos rfl]
  refine kasC_bind (zb1 h2 ?_)
  rw [<- Array.map_push]
  have mi':=zsj h mi h2 fun _=>h.o.as _ _ e
  by_cases c:ib+1=pb.size
  ·rw [if_pos (by simpa using c)]
   exact kasC_pure (hd _ _ _ _ _ _ _ hp1 (.inl ⟨_,rfl,zod h mi' (.inl (by omega))⟩))
  ·rw [if_neg (by simpa using c)]
   by_cases cc:cb+1 ≥ mg
   ·rw [if_pos cc]
    exact kasC_pure (hd _ _ _ _ _ _ _ hp1 (.inr ⟨rfl,o.push (gp pb ib),rfl,by simp,mi',h1,by omega⟩))
   ·rw [if_neg cc]
    exact kasC_pure (hy _ _ _ _ _ _ hp1 (.inr ⟨rfl,o.push (gp pb ib),rfl,by simp,mi',h1,by omega⟩))
 | false =>
  rw [if_neg (by decide)]
  refine kasC_bind (zb1 (by omega) ?_)
  rw [<- Array.map_push]
  have mi':=zuh h mi (by omega) fun _=>e
  by_cases c:ia+1+1=pa.size
  ·rw [if_pos (by simpa using c)]
   exact kasC_pure (hd _ _ _ _ _ _ _ hp1 (.inl ⟨_,rfl,zp5 h mi' c⟩))
  ·rw [if_neg (by simpa using c)]
   by_cases cc:ca+1 ≥ mg
   ·rw [if_pos cc]
    exact kasC_pure (hd _ _ _ _ _ _ _ hp1 (.inr ⟨rfl,o.push (gp pa ia),rfl,by simp,mi',by omega,h2⟩))
   ·rw [if_neg cc]
    exact kasC_pure (hy _ _ _ _ _ _ hp1 (.inr ⟨rfl,o.push (gp pa ia),rfl,by simp,mi',by omega,h2⟩))
theorem zts(h:MC lt n pa pb){mg ca cb m:Nat}{R:ForInStep T7->SortSt->Shared->Prop}(hp:P s)(mi:MI (rl lt) pa.toList pb.toList o.toList ia ib)(h1:ia+1<pa.size)(h2:ib<pb.size)(hm:m<=o.size)(hx:rl lt (gp pa ia) (gp pb ib))
  (hd:∀ res out ia ib mg ca cb s',P s'->OkR lt it pa pb res out ia ib m->R (.done (res,out,ia,ib,mg,ca,cb)) st s')
  (hy:∀ out ia ib mg ca cb s',P s'->OkR lt it pa pb none out ia ib m->R (.yield (none,out,ia,ib,mg,ca,cb)) st s') :
  kasC (model prog w) A E (lo4 (pa.map (kas_item it)) (pb.map (kas_item it)) (o.map (kas_item it)) ia ib mg ca cb) R st s:=by
 unfold lo4
 refine kasC_bind (zb1 (by omega) ?_)
 rw [Array.size_map,<- Array.map_push]
 have mi':=zuh h mi (by omega) fun _=>hx
 by_cases c:ia+1+1=pa.size
 ·rw [if_pos (by simpa using c)]
  exact kasC_pure (hd _ _ _ _ _ _ _ _ hp (.inl ⟨_,rfl,zp5 h mi' c⟩))
 ·rw [if_neg (by simpa using c)]
  have ok:OkR lt it pa pb none ((o.push (gp pa ia)).map (kas_item it)) (ia+1) ib m:=.inr ⟨rfl,o.push (gp pa ia),rfl,by simp;omega,mi',by omega,h2⟩
  by_cases cc:(decide (ca<7)&&decide (cb<7))=true
  ·rw [if_pos cc]
   exact kasC_pure (hd _ _ _ _ _ _ _ _ hp ok)
  ·rw [if_neg cc]
   exact kasC_pure (hy _ _ _ _ _ _ _ hp ok)
theorem zgx{left:Bool}{key x:Nat}(h:byd lt left key x=true):(left=true->lt x key=true)/\(left=false->lt key x=false):=by
 unfold byd at h
 cases left with
 | true=>exact⟨fun _=>h,fun z=>nomatch z⟩
 | false=>exact⟨fun z=>(nomatch z),fun _=>by simpa using h⟩
theorem ziC{left:Bool}{key x:Nat}(h:byd lt left key x=false):(left=true->lt x key=false)/\(left=false->lt key x=true):=by
 unfold byd at h
 cases left with
 | true=>exact⟨fun _=>h,fun z=>nomatch z⟩
 | false=>exact⟨fun z=>(nomatch z),fun _=>by simpa using h⟩
theorem ziB{p:Array Nat}(o:Ord lt)(sp:p.toList.Pairwise (rl lt)){left:Bool}{key b i j:Nat}(hij:i<=j)(hj:b+j<p.size)(h:byd lt left key (gp p (b+j))=true):byd lt left key (gp p (b+i))=true:=by
 have q:=zl1 o sp (show b+i<=b+j by omega) hj
 have:=zgx h
 unfold byd
 cases left with
 | true =>
  rw [if_pos rfl]
  have z:=this.1 rfl
  cases e:lt (gp p (b+i)) key with
  | true=>rfl
  | false=>rw [o.tr _ _ _ e q] at z;cases z
 | false =>
  rw [if_neg (by decide),o.tr _ _ _ q (this.2 rfl)]
  rfl
theorem ztt(hc:Asks lt n P (kas_cmp prog w A κ it))(h:MC lt n pa pb)(hk:kindOf st=κ){mg ca cb m:Nat}{R:ForInStep T7->SortSt->Shared->Prop}(hp:P s)(mi:MI (rl lt) pa.toList pb.toList o.toList ia ib)(h1:ia+1<pa.size)(h2:ib<pb.size)(hm:m<=o.size)(hx:rl lt (gp pb ib) (gp pa ia))
  (hd:∀ res out ia ib mg ca cb s',P s'->OkR lt it pa pb res out ia ib m->R (.done (res,out,ia,ib,mg,ca,cb)) st s')
  (hy:∀ out ia ib mg ca cb s',P s'->OkR lt it pa pb none out ia ib m->R (.yield (none,out,ia,ib,mg,ca,cb)) st s') :
  kasC (model prog w) A E (lo3 (pa.map (kas_item it)) (pb.map (kas_item it)) (o.map (kas_item it)) ia ib mg ca cb) R st s:=by
 unfold lo3
 refine kasC_bind (zb1 h2 ?_)
 rw [Array.size_map,<- Array.map_push]
 have mi':=zsj h mi h2 fun _=>hx
 by_cases c:ib+1=pb.size
 ·rw [if_pos (by simpa using c)]
  exact kasC_pure (hd _ _ _ _ _ _ _ _ hp (.inl ⟨_,rfl,zod h mi' (.inl (by omega))⟩))
 ·rw [if_neg (by simpa using c)]
  refine kasC_bind (zb1 (by omega) (kasC_bind (zl2 hc hk h.nb (h.na _) (by omega) (by omega) (fun i j a1 a2=>ziB h.o h.sb a1 (by omega)) hp fun k s1 hp1 hk1 b1 b2=>?_)))
  dsimp only
  by_cases c0:k > 0
  ·rw [if_pos c0,<- Array.map_extract,<- Array.map_append]
   have mi2:=zwX h mi' k (by omega) fun i i1 i2 _=>by
    have:=(zgx (b1 (i-(ib+1)) (by omega))).1 rfl
    rw [show ib+1+(i-(ib+1))=i by omega] at this
    exact h.o.as _ _ this
   by_cases c1:ib+1+k=pb.size
   ·rw [if_pos (by simpa using c1)]
    exact kasC_pure (hd _ _ _ _ _ _ _ _ hp1 (.inl ⟨_,rfl,zod h mi2 (.inl (by omega))⟩))
   ·rw [if_neg (by simpa using c1)]
    exact zts h hp1 mi2 h1 (by omega) (by simp;omega) ((ziC (b2 k (Nat.le_refl _) (by omega))).1 rfl) hd hy
  ·rw [if_neg c0]
   have e0:k=0:=by omega
   subst e0
   exact zts h hp1 mi' h1 (by omega) (by simp;omega) ((ziC (b2 0 (Nat.le_refl _) (by omega))).1 rfl) hd hy
theorem zvM(hc:Asks lt n P (kas_cmp prog w A κ it))(h:MC lt n pa pb)(hk:kindOf st=κ){mg ca cb m:Nat}{R:ForInStep T7->SortSt->Shared->Prop}(hp:P s)(mi:MI (rl lt) pa.toList pb.toList o.toList ia ib)(h1:ia+1<pa.size)(h2:ib<pb.size)(hm:m<=o.size)
  (hd:∀ res out ia ib mg' ca cb s',P s'->OkR lt it pa pb res out ia ib m->R (.done (res,out,ia,ib,mg',ca,cb)) (zaH st mg) s')
  (hy:∀ out ia ib mg' ca cb s',P s'->OkR lt it pa pb none out ia ib m->R (.yield (none,out,ia,ib,mg',ca,cb)) (zaH st mg) s') :
  kasC (model prog w) A E (lo2 (pa.map (kas_item it)) (pb.map (kas_item it)) (o.map (kas_item it)) ia ib mg ca cb) R st s:=by
 unfold lo2
 refine kasC_bind (kasC_modify ?_)
 refine kasC_bind (zb1 h2 ?_)
 rw [Array.size_map]
 refine kasC_bind (zl2 hc hk h.na (h.nb _) (by omega) (by omega) (fun i j a1 a2=>ziB h.o h.sa a1 (by omega)) hp fun k s1 hp1 hk1 b1 b2=>?_)
 dsimp only
 by_cases c0:k > 0
 ·rw [if_pos c0,<- Array.map_extract,<- Array.map_append]
  have mi2:=zwY h mi k (by omega) fun i i1 i2 _=>by
   have:=(zgx (b1 (i-ia) (by omega))).2 rfl
   rw [show ia+(i-ia)=i by omega] at this
   exact this
  by_cases c1:ia+k+1=pa.size
  ·rw [if_pos (by simpa using c1)]
   exact kasC_pure (hd _ _ _ _ _ _ _ _ hp1 (.inl ⟨_,rfl,zp5 h mi2 c1⟩))
  ·rw [if_neg (by simpa using c1)]
   by_cases c2:ia+k=pa.size
   ·rw [if_pos (by simpa using c2)]
    exact kasC_pure (hd _ _ _ _ _ _ _ _ hp1 (.inl ⟨_,rfl,zod h mi2 (.inr (by omega))⟩))
   ·rw [if_neg (by simpa using c2)]
    exact ztt (st:=zaH st mg) (m:=m) hc h hk hp1 mi2 (by omega) h2 (by simp;omega) (h.o.as _ _ ((ziC (b2 k (Nat.le_refl _) (by omega))).2 rfl)) hd hy
 ·rw [if_neg c0]
  have e0:k=0:=by omega
  subst e0
  exact ztt (st:=zaH st mg) (m:=m) hc h hk hp1 mi h1 h2 hm (h.o.as _ _ ((ziC (b2 0 (Nat.le_refl _) (by omega))).2 rfl)) hd hy
def LoI(lt:Nat->Nat->Bool)(it:Array Keyed)(pa pb:Array Nat)(P:Shared->Prop)(st:SortSt)(i:Nat)(c:T5)(st':SortSt)(s':Shared):Prop :=
 P s'/\(∃ g,st'=zaH st g)/\∃(o:Array Nat) (ia ib mg:Nat),c=(none,o.map (kas_item it),ia,ib,mg)/\i<o.size/\MI (rl lt) pa.toList pb.toList o.toList ia ib/\ia+1<pa.size/\ib<pb.size
theorem ztq{Q:Array Keyed->SortSt->Shared->Prop}(hQ:∀ x g s',P s'->FinA lt it pa pb x->Q x (zaH st g) s'){i:Nat}{e:T7}{st':SortSt}(hp:P s)(hg:∃ g,st'=zaH st g)(ok:OkR lt it pa pb e.1 e.2.1 e.2.2.1 e.2.2.2.1 (i+1)) :
  kasC (model prog w) A E (lo6 e) (zoU (fun c=>kasC (model prog w) A E (lo7 c) Q) (LoI lt it pa pb P st (i+1))) st' s:=by
 obtain⟨res,out,ia,ib,mg,ca,cb⟩:=e
 obtain⟨g,rfl⟩:=hg
 rcases ok with⟨x,rfl,fa⟩|⟨rfl,o,rfl,hio,mi,h1,h2⟩
 ·exact kasC_pure (kasC_pure (hQ _ _ _ hp fa))
 ·exact kasC_bind (kasC_modify (kasC_pure ⟨hp,⟨_,rfl⟩,o,ia,ib,_,rfl,hio,mi,h1,h2⟩))
theorem ztr(hc:Asks lt n P (kas_cmp prog w A κ it))(h:MC lt n pa pb)(hk:kindOf st=κ){Q:Array Keyed->SortSt->Shared->Prop}(hQ:∀ x g s',P s'->FinA lt it pa pb x->Q x (zaH st g) s'){i t mg:Nat}{d:T6}{st':SortSt}(hp:P s)(hg:∃ g,st'=zaH st g)(ok:OkR lt it pa pb d.1 d.2.1 d.2.2.1 d.2.2.2.1 (i+1)) :
  kasC (model prog w) A E (lo5 t (lo2 (pa.map (kas_item it)) (pb.map (kas_item it))) mg d) (zoU (fun c=>kasC (model prog w) A E (lo7 c) Q) (LoI lt it pa pb P st (i+1))) st' s:=by
 obtain⟨res,out,ia,ib,ca,cb⟩:=d
 rcases ok with⟨x,rfl,fa⟩|⟨rfl,o,rfl,hio,mi,h1,h2⟩
 ·obtain⟨g,rfl⟩:=hg
  exact kasC_pure (kasC_pure (hQ _ _ _ hp fa))
 ·refine kasC_bind (kasC_lift (wpAny_rule ?_))
  refine kasC_bind (zb0 (fun _ c st' s'=>P s'/\(∃ g,st'=zaH st g)/\∃(o:Array Nat) (ia ib mg ca cb:Nat),c=(none,o.map (kas_item it),ia,ib,mg,ca,cb)/\i+1<o.size/\MI (rl lt) pa.toList pb.toList o.toList ia ib/\ia+1<pa.size/\ib<pb.size) ?_ ?_
   ⟨hp,hg,o,ia,ib,_,_,_,rfl,hio,mi,h1,h2⟩)
  ·rintro j x c st' s' hj ⟨hp',⟨g,rfl⟩,o,ia,ib,mg,ca,cb,rfl,hio,mi,h1,h2⟩
   dsimp only
   have e:∃ mg',(if mg > 1 then lo2 (pa.map (kas_item it)) (pb.map (kas_item it)) (o.map (kas_item it)) ia ib (mg-1) ca cb else lo2 (pa.map (kas_item it)) (pb.map (kas_item it)) (o.map (kas_item it)) ia ib mg ca cb)=lo2 (pa.map (kas_item it)) (pb.map (kas_item it)) (o.map (kas_item it)) ia ib mg' ca cb:=by
    split <;> exact⟨_,rfl⟩
   obtain⟨mg',e⟩:=e
   rw [e]
   refine zvM (st:=zaH st g) (m:=i+1) hc h hk hp' mi h1 h2 (by omega) (fun res out ia ib mg ca cb s' hp' ok=>ztq (e:=(res,out,ia,ib,mg,ca,cb)) hQ hp' ⟨_,rfl⟩ ok) fun out ia ib mg ca cb s' hp' ok=>?_
   rcases ok with⟨_,z,_⟩|⟨_,o,rfl,a1,a2,a3,a4⟩
   ·cases z
   ·exact⟨hp',⟨_,rfl⟩,o,ia,ib,_,_,_,rfl,a1,a2,a3,a4⟩
  ·rintro c st' s' ⟨hp',hg,o,ia,ib,mg,ca,cb,rfl,hio,mi,h1,h2⟩
   exact ztq (e:=(none,o.map (kas_item it),ia,ib,mg,ca,cb)) hQ hp' hg (.inr ⟨rfl,o,rfl,hio,mi,h1,h2⟩)
theorem zvK(hc:Asks lt n P (kas_cmp prog w A κ it))(h:MC lt n pa pb)(hk:kindOf st=κ){Q:Array Keyed->SortSt->Shared->Prop}(hp:P s)(hQ:∀ x g s',P s'->FinA lt it pa pb x->Q x (zaH st g) s') :
  kasC (model prog w) A E (mlo (pa.map (kas_item it)) (pb.map (kas_item it))) Q st s:=by
 rw [zug]
 have za:=h.za
 have zb:=h.zb
 have hQ0:∀ x s',P s'->FinA lt it pa pb x->Q x st s':=fun x s' hp' f=>hQ x (gallopOf st) s' hp' f
 refine kasC_bind (kasC_lift (wpAny_rule ?_))
 refine kasC_bind (zb1 h.zb ?_)
 rw [Array.size_map,Array.size_map]
 have mi0:MI (rl lt) pa.toList pb.toList (#[].push (gp pb 0)).toList 0 1:=zsj (o:=#[]) h .nil h.zb fun q=>h.first 0 q
 have eo:#[kas_item it (gp pb 0)]=Array.map (kas_item it) (#[].push (gp pb 0)):=by simp
 rw [eo]
 by_cases c:1=pb.size
 ·rw [if_pos (by simpa using c)]
  exact kasC_pure (hQ0 _ _ hp (zod h mi0 (.inl (by omega))))
 rw [if_neg (by simpa using c)]
 by_cases c:0+1=pa.size
 ·rw [if_pos (by simpa using c)]
  exact kasC_pure (hQ0 _ _ hp (zp5 h mi0 c))
 rw [if_neg (by simpa using c)]
 refine kasC_bind (kasC_get ?_)
 refine kasC_bind (zb0 (LoI lt it pa pb P st) ?_ ?_ ⟨hp,⟨gallopOf st,rfl⟩,#[].push (gp pb 0),0,1,gallopOf st,rfl,by simp,mi0,by omega,by omega⟩)
 ·rintro i x c st' s' hi ⟨hp',⟨g,rfl⟩,o,ia,ib,mg,rfl,hio,mi,h1,h2⟩
  refine kasC_bind (zb0 (fun j c st' s'=>P s'/\(∃ g,st'=zaH st g)/\∃(o:Array Nat) (ia ib ca cb:Nat),c=(none,o.map (kas_item it),ia,ib,ca,cb)/\(i<o.size/\(0<j->i+1<o.size))/\MI (rl lt) pa.toList pb.toList o.toList ia ib/\ia+1<pa.size/\ib<pb.size) ?_ ?_
   ⟨hp',⟨g,rfl⟩,o,ia,ib,0,0,rfl,⟨hio,fun z=>absurd z (Nat.lt_irrefl _)⟩,mi,h1,h2⟩)
  ·rintro j x c st' s' hj ⟨hp',⟨g,rfl⟩,o,ia,ib,ca,cb,rfl,hio,mi,h1,h2⟩
   refine zvN (st:=zaH st g) hc h hk hp' mi h1 h2 (fun res out ia ib ca cb s' hp' ok=>?_) fun out ia ib ca cb s' hp' ok=>?_
   ·refine ztr (i:=i) (d:=(res,out,ia,ib,ca,cb)) hc h hk hQ hp' ⟨_,rfl⟩ ?_
    rcases ok with ok|⟨e,o',e2,a1,a2⟩
    ·exact .inl ok
    ·exact .inr ⟨e,o',e2,by omega,a2⟩
   ·rcases ok with⟨_,z,_⟩|⟨_,o',rfl,a1,a2,a3,a4⟩
    ·cases z
    ·exact⟨hp',⟨_,rfl⟩,o',ia,ib,_,_,rfl,⟨by omega,fun _=>by omega⟩,a2,a3,a4⟩
  ·rintro c st' s' ⟨hp',hg,o,ia,ib,ca,cb,rfl,hio,mi,h1,h2⟩
   exact ztr (i:=i) (d:=(none,o.map (kas_item it),ia,ib,ca,cb)) hc h hk hQ hp' hg (.inr ⟨rfl,o,rfl,hio.2 (by omega),mi,h1,h2⟩)
 ·rintro c st' s' ⟨hp',⟨g,rfl⟩,o,ia,ib,mg,rfl,hio,mi,h1,h2⟩
  exfalso
  have:=mi.pm.length_eq
  simp at this
  omega
end
end
section
abbrev U5:=Option (Array Keyed)×Nat×Nat×Array Keyed×Nat
abbrev U6:=Option (Array Keyed)×Nat×Nat×Array Keyed×Nat×Nat
abbrev U7:=Option (Array Keyed)×Nat×Nat×Array Keyed×Nat×Nat×Nat
def enA(a b out:Array Keyed)(na nb:Nat):Array Keyed:=a.extract 0 na++b.extract 0 nb++out.reverse
def enB(a b out:Array Keyed)(na nb:Nat):Array Keyed:=b.extract 0 nb++a.extract 0 na++out.reverse
theorem zsk(a b:Array Keyed):mhi a b=(do
 rule "list.sort.merge-hi"
 let mut na:=a.size-1
 let mut nb:=b.size
 let mut out:Array Keyed:=#[<- elem' a na]
 if na==0 then return enA a b out na nb
 if nb==1 then return enB a b out na nb
 let mut mg:=gallopOf (<- get)
 for _ in [0:a.size+b.size] do
  let mut ca:=0
  let mut cb:=0
  for _ in [0:a.size+b.size] do
   let some won <- lt' (<- elem' b (nb-1)) (<- elem' a (na-1))|return enA a b out na nb
   if won then
    na:=na-1;out:=out.push (<- elem' a na);ca:=ca+1;cb:=0
    if na==0 then return enA a b out na nb
    if ca ≥ mg then break
   else
    nb:=nb-1;out:=out.push (<- elem' b nb);cb:=cb+1;ca:=0
    if nb==1 then return enB a b out na nb
    if cb ≥ mg then break
  rule "list.sort.gallop"
  mg:=mg+1
  for _ in [0:a.size+b.size] do
   if mg > 1 then mg:=mg-1
   zqp mg
   let some j <- gal false (<- elem' b (nb-1)) a 0 na (na-1)|return enA a b out na nb
   let k:=na-j
   ca:=k
   if k > 0 then
    out:=out++(a.extract j na).reverse;na:=j
    if na==0 then return enA a b out na nb
   nb:=nb-1;out:=out.push (<- elem' b nb)
   if nb==1 then return enB a b out na nb
   let some j <- gal true (<- elem' a (na-1)) b 0 nb (nb-1)|return enA a b out na nb
   let k:=nb-j
   cb:=k
   if k > 0 then
    out:=out++(b.extract j nb).reverse;nb:=j
    if nb==1 then return enB a b out na nb
    if nb==0 then return enA a b out na nb
   na:=na-1;out:=out.push (<- elem' a na)
   if na==0 then return enA a b out na nb
   if ca<7&&cb<7 then break
  mg:=mg+1
  zqp mg
 unsupported "internal:list.sort.merge-bound"):=rfl
def hi1(a b:Array Keyed)(mg:Nat)(c:U6):StateT SortSt Sem (ForInStep U6):=do
 let x <- elem' b (c.2.2.1-1)
 let y <- elem' a (c.2.1-1)
 let q <- lt' x y
 match q with
 | some won =>
  if won=true then do
   let z <- elem' a (c.2.1-1)
   if(c.2.1-1==0)=true then pure (.done (some (enA a b (c.2.2.2.1.push z) (c.2.1-1) c.2.2.1),c.2.1-1,c.2.2.1,c.2.2.2.1.push z,c.2.2.2.2.1+1,0))
   else if c.2.2.2.2.1+1 ≥ mg then pure (.done (none,c.2.1-1,c.2.2.1,c.2.2.2.1.push z,c.2.2.2.2.1+1,0))
   else pure (.yield (none,c.2.1-1,c.2.2.1,c.2.2.2.1.push z,c.2.2.2.2.1+1,0))
  else do
   let z <- elem' b (c.2.2.1-1)
   if(c.2.2.1-1==1)=true then pure (.done (some (enB a b (c.2.2.2.1.push z) c.2.1 (c.2.2.1-1)),c.2.1,c.2.2.1-1,c.2.2.2.1.push z,0,c.2.2.2.2.2+1))
   else if c.2.2.2.2.2+1 ≥ mg then pure (.done (none,c.2.1,c.2.2.1-1,c.2.2.2.1.push z,0,c.2.2.2.2.2+1))
   else pure (.yield (none,c.2.1,c.2.2.1-1,c.2.2.2.1.push z,0,c.2.2.2.2.2+1))
 | _=>pure (.done (some (enA a b c.2.2.2.1 c.2.1 c.2.2.1),c.2.1,c.2.2.1,c.2.2.2.1,c.2.2.2.2.1,c.2.2.2.2.2))
def hi4(a b out:Array Keyed)(na nb mg ca cb:Nat):StateT SortSt Sem (ForInStep U7):=do
 let x <- elem' a (na-1)
 if(na-1==0)=true then pure (.done (some (enA a b (out.push x) (na-1) nb),na-1,nb,out.push x,mg,ca,cb))
 else if(decide (ca<7)&&decide (cb<7))=true then pure (.done (none,na-1,nb,out.push x,mg,ca,cb))
 else pure (.yield (none,na-1,nb,out.push x,mg,ca,cb))
def hi3(a b out:Array Keyed)(na nb mg ca cb:Nat):StateT SortSt Sem (ForInStep U7):=do
 let x <- elem' b (nb-1)
 if(nb-1==1)=true then pure (.done (some (enB a b (out.push x) na (nb-1)),na,nb-1,out.push x,mg,ca,cb))
 else do
  let y <- elem' a (na-1)
  let q <- gal true y b 0 (nb-1) (nb-1-1)
  match q with
  | some j =>
   if nb-1-j > 0 then
    if(j==1)=true then pure (.done (some (enB a b (out.push x++(b.extract j (nb-1)).reverse) na j),na,j,out.push x++(b.extract j (nb-1)).reverse,mg,ca,nb-1-j))
    else if(j==0)=true then pure (.done (some (enA a b (out.push x++(b.extract j (nb-1)).reverse) na j),na,j,out.push x++(b.extract j (nb-1)).reverse,mg,ca,nb-1-j))
    else hi4 a b (out.push x++(b.extract j (nb-1)).reverse) na j mg ca (nb-1-j)
   else hi4 a b (out.push x) na (nb-1) mg ca (nb-1-j)
  | _=>pure (.done (some (enA a b (out.push x) na (nb-1)),na,nb-1,out.push x,mg,ca,cb))
def hi2(a b out:Array Keyed)(na nb mg ca cb:Nat):StateT SortSt Sem (ForInStep U7):=do
 zqp mg
 let x <- elem' b (nb-1)
 let q <- gal false x a 0 na (na-1)
 match q with
 | some j =>
  if na-j > 0 then
   if(j==0)=true then pure (.done (some (enA a b (out++(a.extract j na).reverse) j nb),j,nb,out++(a.extract j na).reverse,mg,na-j,cb))
   else hi3 a b (out++(a.extract j na).reverse) j nb mg (na-j) cb
  else hi3 a b out na nb mg (na-j) cb
 | _=>pure (.done (some (enA a b out na nb),na,nb,out,mg,ca,cb))
def hi7(r:U5):StateT SortSt Sem (Array Keyed):=match r.1 with
 | some x=>pure x
 | none=>unsupported "internal:list.sort.merge-bound"
def hi6(e:U7):StateT SortSt Sem (ForInStep U5):=match e.1 with
 | some x=>pure (.done (some x,e.2.1,e.2.2.1,e.2.2.2.1,e.2.2.2.2.1))
 | none=>do
  zqp (e.2.2.2.2.1+1)
  pure (.yield (none,e.2.1,e.2.2.1,e.2.2.2.1,e.2.2.2.2.1+1))
def hi5(a b:Array Keyed)(mg:Nat)(d:U6):StateT SortSt Sem (ForInStep U5):=match d.1 with
 | some x=>pure (.done (some x,d.2.1,d.2.2.1,d.2.2.2.1,mg))
 | none=>do
  rule "list.sort.gallop"
  let e <- forIn [0:a.size+b.size] ((none,d.2.1,d.2.2.1,d.2.2.2.1,mg+1,d.2.2.2.2.1,d.2.2.2.2.2):U7) fun _ e=>if e.2.2.2.2.1 > 1 then hi2 a b e.2.2.2.1 e.2.1 e.2.2.1 (e.2.2.2.2.1-1) e.2.2.2.2.2.1 e.2.2.2.2.2.2 else hi2 a b e.2.2.2.1 e.2.1 e.2.2.1 e.2.2.2.2.1 e.2.2.2.2.2.1 e.2.2.2.2.2.2
  hi6 e
theorem zui(a b:Array Keyed):mhi a b=(do
 rule "list.sort.merge-hi"
 let z <- elem' a (a.size-1)
 if(a.size-1==0)=true then pure (enA a b #[z] (a.size-1) b.size)
 else if(b.size==1)=true then pure (enB a b #[z] (a.size-1) b.size)
 else do
  let g <- get
  let r <- forIn [0:a.size+b.size] ((none,a.size-1,b.size,#[z],gallopOf g):U5) fun _ c=>do
   let d <- forIn [0:a.size+b.size] ((none,c.2.1,c.2.2.1,c.2.2.2.1,0,0):U6) fun _ d=>hi1 a b c.2.2.2.2 d
   hi5 a b c.2.2.2.2 d
  hi7 r):=by
 rw [zsk]
 dsimp only
 apply congrArg;funext _
 apply congrArg;funext z
 apply congrArg
 apply congrArg
 apply congrArg;funext g
 refine congr ?_ ?_
 ·apply congrArg
  apply congrArg;funext _ c
  refine congr ?_ ?_
  ·rfl
  ·funext d
   unfold hi5
   cases d.1
   ·dsimp only
    apply congrArg;funext _
    refine congr ?_ ?_
    ·rfl
    ·funext e
     unfold hi6
     cases e.1 <;> rfl
   ·rfl
 ·funext r
  unfold hi7
  cases r.1 <;> rfl
end
section
def rh(lt:Nat->Nat->Bool)(x y:Nat):Prop:=rl lt y x
structure MH(lt:Nat->Nat->Bool)(pa pb o:Array Nat)(na nb:Nat):Prop where
 mi:MI (rh lt) pa.toList.reverse pb.toList.reverse o.toList (pa.size-na) (pb.size-nb)
 ha:na<=pa.size
 hb:nb<=pb.size
theorem zhA{p:Array Nat}{a:Nat}(h:a<=p.size):p.toList.reverse.drop (p.size-a)=(p.toList.take a).reverse:=by
 rw [List.drop_reverse,Array.length_toList,show p.size-(p.size-a)=a by omega]
theorem zk5{p:Array Nat}{a b:Nat}(h:a<=p.size)(hb:b<=a):(p.toList.reverse.drop (p.size-a)).take (a-b)=((p.extract b a).reverse).toList:=by
 rw [zhA h,List.take_reverse]
 simp [List.extract,List.drop_take,Nat.min_eq_left h]
 rw [show a-(a-b)=b by omega]
theorem zeK{p:Array Nat}{a x:Nat}(h:a<=p.size)(m:x∈p.toList.reverse.drop (p.size-a)):∃ i,i<a/\i<p.size/\gp p i=x:=by
 rw [zhA h,List.mem_reverse] at m
 obtain⟨i,_,a2,a3,a4⟩:=zjb (p:=p) (a:=0) (k:=a) (by simpa using m)
 exact⟨i,by omega,a3,a4⟩
theorem znw{p:Array Nat}{a b x:Nat}(h:a<=p.size)(m:x∈((p.extract b a).reverse).toList):∃ i,b<=i/\i<a/\i<p.size/\gp p i=x:=by
 have m':x∈(p.toList.drop b).take (a-b):=by simpa [List.extract] using m
 obtain⟨i,a1,a2,a3,a4⟩:=zjb m'
 exact⟨i,a1,by omega,a3,a4⟩
section
variable {lt:Nat->Nat->Bool}{n:Nat}{P:Shared->Prop}{prog:Program}{w:World}{A:Around}{E:Value->Shared->Prop}{κ:SortKind}{it:Array Keyed}{pa pb o:Array Nat}{st:SortSt}{s:Shared}{na nb:Nat}
theorem zhd{p:Array Nat}(h:p.toList.Pairwise (rl lt)):p.toList.reverse.Pairwise (rh lt):=List.pairwise_reverse.mpr h
def OkH(lt:Nat->Nat->Bool)(it:Array Keyed)(pa pb:Array Nat)(res:Option (Array Keyed))(out:Array Keyed)(na nb m:Nat):Prop :=
 (∃ x,res=some x/\FinA lt it pa pb x)\/(res=none/\∃ o:Array Nat,out=o.map (kas_item it)/\m<o.size/\MH lt pa pb o na nb/\0<na/\1<nb)
theorem zuN(h:MC lt n pa pb)(mh:MH lt pa pb o na nb)(hx:nb=0\/na=0):FinA lt it pa pb (enA (pa.map (kas_item it)) (pb.map (kas_item it)) (o.map (kas_item it)) na nb):=by
 refine⟨pa.extract 0 na++pb.extract 0 nb++o.reverse,by unfold enA;simp,?_⟩
 have:=mh.mi.fin' (zhd h.sa) (zhd h.sb) fun x hx' y hy=>by
  obtain⟨i,a1,_⟩:=zeK mh.hb hx'
  obtain⟨j,b1,_⟩:=zeK mh.ha hy
  omega
 rw [zhA mh.ha,zhA mh.hb] at this
 have e:(pa.extract 0 na++pb.extract 0 nb++o.reverse).toList=(o.toList++(pb.toList.take nb).reverse++(pa.toList.take na).reverse).reverse:=by simp [List.extract]
 rw [e]
 refine⟨(List.reverse_perm _).trans (this.1.trans ((List.reverse_perm _).append (List.reverse_perm _))),List.pairwise_reverse.mpr this.2⟩
theorem zvm(h:MC lt n pa pb)(mh:MH lt pa pb o na nb)(hx:nb=1):FinA lt it pa pb (enB (pa.map (kas_item it)) (pb.map (kas_item it)) (o.map (kas_item it)) na nb):=by
 refine⟨pb.extract 0 nb++pa.extract 0 na++o.reverse,by unfold enB;simp,?_⟩
 have:=mh.mi.fin (zhd h.sa) (zhd h.sb) fun x hx' y hy=>by
  obtain⟨i,a1,a2,rfl⟩:=zeK mh.ha hx'
  obtain⟨j,b1,b2,rfl⟩:=zeK mh.hb hy
  have:j=0:=by omega
  subst this
  exact h.first i a2
 rw [zhA mh.ha,zhA mh.hb] at this
 have e:(pb.extract 0 nb++pa.extract 0 na++o.reverse).toList=(o.toList++(pa.toList.take na).reverse++(pb.toList.take nb).reverse).reverse:=by simp [List.extract]
 rw [e]
 refine⟨(List.reverse_perm _).trans (this.1.trans ((List.reverse_perm _).append (List.reverse_perm _))),List.pairwise_reverse.mpr this.2⟩
theorem zw0(h:MC lt n pa pb)(mh:MH lt pa pb o na nb)(j:Nat)(hj:j<=na)(hx:∀ i,j<=i->i<na->0<nb->rl lt (gp pb (nb-1)) (gp pa i)):MH lt pa pb (o++(pa.extract j na).reverse) j nb:=by
 have ha:=mh.ha
 have hb:=mh.hb
 have:=mh.mi.a (zhd h.sa) (na-j) (by simp;omega) fun x hx' y hy=>by
  rw [zk5 mh.ha hj] at hx'
  obtain⟨i,a1,a2,a3,rfl⟩:=znw mh.ha hx'
  obtain⟨k,b1,b2,rfl⟩:=zeK mh.hb hy
  exact h.o.tr _ _ _ (zl1 h.o h.sb (show k<=nb-1 by omega) (by omega)) (hx i a1 a2 (by omega))
 rw [zk5 mh.ha hj,show pa.size-na+(na-j)=pa.size-j by omega] at this
 exact⟨by rw [Array.toList_append];exact this,by omega,hb⟩
theorem zwZ(h:MC lt n pa pb)(mh:MH lt pa pb o na nb)(j:Nat)(hj:j<=nb)(hx:∀ i,j<=i->i<nb->0<na->rl lt (gp pa (na-1)) (gp pb i)):MH lt pa pb (o++(pb.extract j nb).reverse) na j:=by
 have ha:=mh.ha
 have hb:=mh.hb
 have:=mh.mi.b (zhd h.sb) (nb-j) (by simp;omega) fun x hx' y hy=>by
  rw [zk5 mh.hb hj] at hx'
  obtain⟨i,a1,a2,a3,rfl⟩:=znw mh.hb hx'
  obtain⟨k,b1,b2,rfl⟩:=zeK mh.ha hy
  exact h.o.tr _ _ _ (zl1 h.o h.sa (show k<=na-1 by omega) (by omega)) (hx i a1 a2 (by omega))
 rw [zk5 mh.hb hj,show pb.size-nb+(nb-j)=pb.size-j by omega] at this
 exact⟨by rw [Array.toList_append];exact this,ha,by omega⟩
theorem zuP{p:Array Nat}{i:Nat}(h0:0<i)(h:i<=p.size):(p.extract (i-1) i).reverse=#[gp p (i-1)]:=by
 have:=zwv (p:=p) (i:=i-1) (by omega)
 rw [show i-1+1=i by omega] at this
 rw [this]
 rfl
theorem zsl(h:MC lt n pa pb)(mh:MH lt pa pb o na nb)(h0:0<na)(hx:0<nb->rl lt (gp pb (nb-1)) (gp pa (na-1))):MH lt pa pb (o.push (gp pa (na-1))) (na-1) nb:=by
 have:=zw0 h mh (na-1) (by omega) fun i h1 h2 h3=>by rw [show i=na-1 by omega];exact hx h3
 rwa [zuP h0 mh.ha,Array.append_singleton] at this
theorem zuj(h:MC lt n pa pb)(mh:MH lt pa pb o na nb)(h0:0<nb)(hx:0<na->rl lt (gp pa (na-1)) (gp pb (nb-1))):MH lt pa pb (o.push (gp pb (nb-1))) na (nb-1):=by
 have:=zwZ h mh (nb-1) (by omega) fun i h1 h2 h3=>by rw [show i=nb-1 by omega];exact hx h3
 rwa [zuP h0 mh.hb,Array.append_singleton] at this
theorem zvR(hc:Asks lt n P (kas_cmp prog w A κ it))(h:MC lt n pa pb)(hk:kindOf st=κ){mg ca cb:Nat}{R:ForInStep U6->SortSt->Shared->Prop}(hp:P s)(mi:MH lt pa pb o na nb)(h1:0<na)(h2:1<nb)
  (hd:∀ res out na nb ca cb s',P s'->OkH lt it pa pb res out na nb o.size->R (.done (res,na,nb,out,ca,cb)) st s')
  (hy:∀ out na nb ca cb s',P s'->OkH lt it pa pb none out na nb o.size->R (.yield (none,na,nb,out,ca,cb)) st s') :
  kasC (model prog w) A E (hi1 (pa.map (kas_item it)) (pb.map (kas_item it)) mg (none,na,nb,o.map (kas_item it),ca,cb)) R st s:=by
 have ha:=mi.ha
 have hb:=mi.hb
 unfold hi1
 dsimp only
 refine kasC_bind (zb1 (by omega) (kasC_bind (zb1 (by omega) (kasC_bind (zmz hc hk (h.nb _) (h.na _) hp fun s1 hp1=>?_)))))
 dsimp only
 cases e:lt (gp pb (nb-1)) (gp pa (na-1)) with
 | true =>
  rw [if_pos rfl]
  refine kasC_bind (zb1 (by omega) ?_)
  rw [<- Array.map_push]
  have mi':=zsl h mi h1 fun _=>h.o.as _ _ e
  by_cases c:na-1=0
  ·rw [if_pos (by simpa using c)]
   exact kasC_pure (hd _ _ _ _ _ _ _ hp1 (.inl ⟨_,rfl,zuN h mi' (.inr c)⟩))
  ·rw [if_neg (by simpa using c)]
   have ok:OkH lt it pa pb none ((o.push (gp pa (na-1))).map (kas_item it)) (na-1) nb o.size:=.inr ⟨rfl,o.push (gp pa (na-1)),rfl,by simp,mi',by omega,h2⟩
   by_cases cc:ca+1 ≥ mg
   ·rw [if_pos cc]
    exact kasC_pure (hd _ _ _ _ _ _ _ hp1 ok)
   ·rw [if_neg cc]
    exact kasC_pure (hy _ _ _ _ _ _ hp1 ok)
 | false =>
  rw [if_neg (by decide)]
  refine kasC_bind (zb1 (by omega) ?_)
  rw [<- Array.map_push]
  have mi':=zuj h mi (by omega) fun _=>e
  by_cases c:nb-1=1
  ·rw [if_pos (by simpa using c)]
   exact kasC_pure (hd _ _ _ _ _ _ _ hp1 (.inl ⟨_,rfl,zvm h mi' c⟩))
  ·rw [if_neg (by simpa using c)]
   have ok:OkH lt it pa pb none ((o.push (gp pb (nb-1))).map (kas_item it)) na (nb-1) o.size:=.inr ⟨rfl,o.push (gp pb (nb-1)),rfl,by simp,mi',h1,by omega⟩
   by_cases cc:cb+1 ≥ mg
   ·rw [if_pos cc]
    exact kasC_pure (hd _ _ _ _ _ _ _ hp1 ok)
   ·rw [if_neg cc]
    exact kasC_pure (hy _ _ _ _ _ _ hp1 ok)
theorem ztw(h:MC lt n pa pb){mg ca cb m:Nat}{R:ForInStep U7->SortSt->Shared->Prop}(hp:P s)(mi:MH lt pa pb o na nb)(h1:0<na)(h2:1<nb)(hm:m<=o.size)(hx:rl lt (gp pb (nb-1)) (gp pa (na-1)))
  (hd:∀ res out na nb mg ca cb s',P s'->OkH lt it pa pb res out na nb m->R (.done (res,na,nb,out,mg,ca,cb)) st s')
  (hy:∀ out na nb mg ca cb s',P s'->OkH lt it pa pb none out na nb m->R (.yield (none,na,nb,out,mg,ca,cb)) st s') :
  kasC (model prog w) A E (hi4 (pa.map (kas_item it)) (pb.map (kas_item it)) (o.map (kas_item it)) na nb mg ca cb) R st s:=by
 have ha:=mi.ha
 unfold hi4
 refine kasC_bind (zb1 (by omega) ?_)
 rw [<- Array.map_push]
 have mi':=zsl h mi h1 fun _=>hx
 by_cases c:na-1=0
 ·rw [if_pos (by simpa using c)]
  exact kasC_pure (hd _ _ _ _ _ _ _ _ hp (.inl ⟨_,rfl,zuN h mi' (.inr c)⟩))
 ·rw [if_neg (by simpa using c)]
  have ok:OkH lt it pa pb none ((o.push (gp pa (na-1))).map (kas_item it)) (na-1) nb m:=.inr ⟨rfl,o.push (gp pa (na-1)),rfl,by simp;omega,mi',by omega,h2⟩
  by_cases cc:(decide (ca<7)&&decide (cb<7))=true
  ·rw [if_pos cc]
   exact kasC_pure (hd _ _ _ _ _ _ _ _ hp ok)
  ·rw [if_neg cc]
   exact kasC_pure (hy _ _ _ _ _ _ _ hp ok)
theorem zjF{p:Array Nat}(o:Ord lt)(sp:p.toList.Pairwise (rl lt)){left:Bool}{key i j:Nat}(hij:i<=j)(hj:j<p.size)(h:byd lt left key (gp p (0+j))=true):byd lt left key (gp p (0+i))=true:=ziB o sp hij (by omega) h
theorem ztx(hc:Asks lt n P (kas_cmp prog w A κ it))(h:MC lt n pa pb)(hk:kindOf st=κ){mg ca cb m:Nat}{R:ForInStep U7->SortSt->Shared->Prop}(hp:P s)(mi:MH lt pa pb o na nb)(h1:0<na)(h2:1<nb)(hm:m<=o.size)(hx:rl lt (gp pa (na-1)) (gp pb (nb-1)))
  (hd:∀ res out na nb mg ca cb s',P s'->OkH lt it pa pb res out na nb m->R (.done (res,na,nb,out,mg,ca,cb)) st s')
  (hy:∀ out na nb mg ca cb s',P s'->OkH lt it pa pb none out na nb m->R (.yield (none,na,nb,out,mg,ca,cb)) st s') :
  kasC (model prog w) A E (hi3 (pa.map (kas_item it)) (pb.map (kas_item it)) (o.map (kas_item it)) na nb mg ca cb) R st s:=by
 have ha:=mi.ha
 have hb:=mi.hb
 unfold hi3
 refine kasC_bind (zb1 (by omega) ?_)
 rw [<- Array.map_push]
 have mi':=zuj h mi (by omega) fun _=>hx
 by_cases c:nb-1=1
 ·rw [if_pos (by simpa using c)]
  exact kasC_pure (hd _ _ _ _ _ _ _ _ hp (.inl ⟨_,rfl,zvm h mi' c⟩))
 ·rw [if_neg (by simpa using c)]
  refine kasC_bind (zb1 (by omega) (kasC_bind (zl2 hc hk h.nb (h.na _) (by omega) (by omega) (fun i j a1 a2=>zjF h.o h.sb a1 (by omega)) hp fun k s1 hp1 hk1 b1 b2=>?_)))
  dsimp only
  by_cases c0:nb-1-k > 0
  ·rw [if_pos c0,<- Array.map_extract,<- Array.map_reverse,<- Array.map_append]
   have mi2:=zwZ h mi' k (by omega) fun i i1 i2 _=>by
    have:=(ziC (b2 i i1 i2)).1 rfl
    rw [Nat.zero_add] at this
    exact this
   by_cases c1:k=1
   ·rw [if_pos (by simpa using c1)]
    exact kasC_pure (hd _ _ _ _ _ _ _ _ hp1 (.inl ⟨_,rfl,zvm h mi2 c1⟩))
   ·rw [if_neg (by simpa using c1)]
    by_cases c2:k=0
    ·rw [if_pos (by simpa using c2)]
     exact kasC_pure (hd _ _ _ _ _ _ _ _ hp1 (.inl ⟨_,rfl,zuN h mi2 (.inl c2)⟩))
    ·rw [if_neg (by simpa using c2)]
     have:=(zgx (b1 (k-1) (by omega))).1 rfl
     rw [Nat.zero_add] at this
     exact ztw h hp1 mi2 h1 (by omega) (by simp;omega) (h.o.as _ _ this) hd hy
  ·rw [if_neg c0]
   have e0:k=nb-1:=by omega
   subst e0
   have:=(zgx (b1 (nb-1-1) (by omega))).1 rfl
   rw [Nat.zero_add] at this
   exact ztw h hp1 mi' h1 (by omega) (by simp;omega) (h.o.as _ _ this) hd hy
theorem zvQ(hc:Asks lt n P (kas_cmp prog w A κ it))(h:MC lt n pa pb)(hk:kindOf st=κ){mg ca cb m:Nat}{R:ForInStep U7->SortSt->Shared->Prop}(hp:P s)(mi:MH lt pa pb o na nb)(h1:0<na)(h2:1<nb)(hm:m<=o.size)
  (hd:∀ res out na nb mg' ca cb s',P s'->OkH lt it pa pb res out na nb m->R (.done (res,na,nb,out,mg',ca,cb)) (zaH st mg) s')
  (hy:∀ out na nb mg' ca cb s',P s'->OkH lt it pa pb none out na nb m->R (.yield (none,na,nb,out,mg',ca,cb)) (zaH st mg) s') :
  kasC (model prog w) A E (hi2 (pa.map (kas_item it)) (pb.map (kas_item it)) (o.map (kas_item it)) na nb mg ca cb) R st s:=by
 have ha:=mi.ha
 have hb:=mi.hb
 unfold hi2
 refine kasC_bind (kasC_modify ?_)
 refine kasC_bind (zb1 (by omega) ?_)
 refine kasC_bind (zl2 hc hk h.na (h.nb _) (by omega) (by omega) (fun i j a1 a2=>zjF h.o h.sa a1 (by omega)) hp fun k s1 hp1 hk1 b1 b2=>?_)
 dsimp only
 by_cases c0:na-k > 0
 ·rw [if_pos c0,<- Array.map_extract,<- Array.map_reverse,<- Array.map_append]
  have mi2:=zw0 h mi k (by omega) fun i i1 i2 _=>by
   have:=(ziC (b2 i i1 i2)).2 rfl
   rw [Nat.zero_add] at this
   exact h.o.as _ _ this
  by_cases c2:k=0
  ·rw [if_pos (by simpa using c2)]
   exact kasC_pure (hd _ _ _ _ _ _ _ _ hp1 (.inl ⟨_,rfl,zuN h mi2 (.inr c2)⟩))
  ·rw [if_neg (by simpa using c2)]
   have:=(zgx (b1 (k-1) (by omega))).2 rfl
   rw [Nat.zero_add] at this
   exact ztx (st:=zaH st mg) (m:=m) hc h hk hp1 mi2 (by omega) h2 (by simp;omega) this hd hy
 ·rw [if_neg c0]
  have e0:k=na:=by omega
  subst e0
  have:=(zgx (b1 (k-1) (by omega))).2 rfl
  rw [Nat.zero_add] at this
  exact ztx (st:=zaH st mg) (m:=m) hc h hk hp1 mi h1 h2 hm this hd hy
def HiI(lt:Nat->Nat->Bool)(it:Array Keyed)(pa pb:Array Nat)(P:Shared->Prop)(st:SortSt)(i:Nat)(c:U5)(st':SortSt)(s':Shared):Prop :=
 P s'/\(∃ g,st'=zaH st g)/\∃(o:Array Nat) (na nb mg:Nat),c=(none,na,nb,o.map (kas_item it),mg)/\i<o.size/\MH lt pa pb o na nb/\0<na/\1<nb
theorem ztu{Q:Array Keyed->SortSt->Shared->Prop}(hQ:∀ x g s',P s'->FinA lt it pa pb x->Q x (zaH st g) s'){i:Nat}{e:U7}{st':SortSt}(hp:P s)(hg:∃ g,st'=zaH st g)(ok:OkH lt it pa pb e.1 e.2.2.2.1 e.2.1 e.2.2.1 (i+1)) :
  kasC (model prog w) A E (hi6 e) (zoU (fun c=>kasC (model prog w) A E (hi7 c) Q) (HiI lt it pa pb P st (i+1))) st' s:=by
 obtain⟨res,na,nb,out,mg,ca,cb⟩:=e
 obtain⟨g,rfl⟩:=hg
 rcases ok with⟨x,rfl,fa⟩|⟨rfl,o,rfl,hio,mi,h1,h2⟩
 ·exact kasC_pure (kasC_pure (hQ _ _ _ hp fa))
 ·exact kasC_bind (kasC_modify (kasC_pure ⟨hp,⟨_,rfl⟩,o,na,nb,_,rfl,hio,mi,h1,h2⟩))
theorem ztv(hc:Asks lt n P (kas_cmp prog w A κ it))(h:MC lt n pa pb)(hk:kindOf st=κ){Q:Array Keyed->SortSt->Shared->Prop}(hQ:∀ x g s',P s'->FinA lt it pa pb x->Q x (zaH st g) s'){i mg:Nat}{d:U6}{st':SortSt}(hp:P s)(hg:∃ g,st'=zaH st g)(ok:OkH lt it pa pb d.1 d.2.2.2.1 d.2.1 d.2.2.1 (i+1)) :
  kasC (model prog w) A E (hi5 (pa.map (kas_item it)) (pb.map (kas_item it)) mg d) (zoU (fun c=>kasC (model prog w) A E (hi7 c) Q) (HiI lt it pa pb P st (i+1))) st' s:=by
 obtain⟨res,na,nb,out,ca,cb⟩:=d
 rcases ok with⟨x,rfl,fa⟩|⟨rfl,o,rfl,hio,mi,h1,h2⟩
 ·obtain⟨g,rfl⟩:=hg
  exact kasC_pure (kasC_pure (hQ _ _ _ hp fa))
 ·refine kasC_bind (kasC_lift (wpAny_rule ?_))
  refine kasC_bind (zb0 (fun _ c st' s'=>P s'/\(∃ g,st'=zaH st g)/\∃(o:Array Nat) (na nb mg ca cb:Nat),c=(none,na,nb,o.map (kas_item it),mg,ca,cb)/\i+1<o.size/\MH lt pa pb o na nb/\0<na/\1<nb) ?_ ?_
   ⟨hp,hg,o,na,nb,_,_,_,rfl,hio,mi,h1,h2⟩)
  ·rintro j x c st' s' hj ⟨hp',⟨g,rfl⟩,o,na,nb,mg,ca,cb,rfl,hio,mi,h1,h2⟩
   dsimp only
   have e:∃ mg',(if mg > 1 then hi2 (pa.map (kas_item it)) (pb.map (kas_item it)) (o.map (kas_item it)) na nb (mg-1) ca cb else hi2 (pa.map (kas_item it)) (pb.map (kas_item it)) (o.map (kas_item it)) na nb mg ca cb)=hi2 (pa.map (kas_item it)) (pb.map (kas_item it)) (o.map (kas_item it)) na nb mg' ca cb:=by
    split <;> exact⟨_,rfl⟩
   obtain⟨mg',e⟩:=e
   rw [e]
   refine zvQ (st:=zaH st g) (m:=i+1) hc h hk hp' mi h1 h2 (by omega) (fun res out na nb mg ca cb s' hp' ok=>ztu (e:=(res,na,nb,out,mg,ca,cb)) hQ hp' ⟨_,rfl⟩ ok) fun out na nb mg ca cb s' hp' ok=>?_
   rcases ok with⟨_,z,_⟩|⟨_,o,rfl,a1,a2,a3,a4⟩
   ·cases z
   ·exact⟨hp',⟨_,rfl⟩,o,na,nb,_,_,_,rfl,a1,a2,a3,a4⟩
  ·rintro c st' s' ⟨hp',hg,o,na,nb,mg,ca,cb,rfl,hio,mi,h1,h2⟩
   exact ztu (e:=(none,na,nb,o.map (kas_item it),mg,ca,cb)) hQ hp' hg (.inr ⟨rfl,o,rfl,hio,mi,h1,h2⟩)
theorem zvL(hc:Asks lt n P (kas_cmp prog w A κ it))(h:MC lt n pa pb)(hk:kindOf st=κ){Q:Array Keyed->SortSt->Shared->Prop}(hp:P s)(hQ:∀ x g s',P s'->FinA lt it pa pb x->Q x (zaH st g) s') :
  kasC (model prog w) A E (mhi (pa.map (kas_item it)) (pb.map (kas_item it))) Q st s:=by
 rw [zui]
 have za:=h.za
 have zb:=h.zb
 have hQ0:∀ x s',P s'->FinA lt it pa pb x->Q x st s':=fun x s' hp' f=>hQ x (gallopOf st) s' hp' f
 refine kasC_bind (kasC_lift (wpAny_rule ?_))
 rw [Array.size_map,Array.size_map]
 refine kasC_bind (zb1 (by omega) ?_)
 have mi0:MH lt pa pb (#[].push (gp pa (pa.size-1))) (pa.size-1) pb.size:=zsl (o:=#[]) h ⟨by simpa using MI.nil,Nat.le_refl _,Nat.le_refl _⟩ za fun q=>h.last _ (by omega)
 have eo:#[kas_item it (gp pa (pa.size-1))]=Array.map (kas_item it) (#[].push (gp pa (pa.size-1))):=by simp
 rw [eo]
 by_cases c:pa.size-1=0
 ·rw [if_pos (by simpa using c)]
  exact kasC_pure (hQ0 _ _ hp (zuN h mi0 (.inr c)))
 rw [if_neg (by simpa using c)]
 by_cases c:pb.size=1
 ·rw [if_pos (by simpa using c)]
  exact kasC_pure (hQ0 _ _ hp (zvm h mi0 c))
 rw [if_neg (by simpa using c)]
 refine kasC_bind (kasC_get ?_)
 refine kasC_bind (zb0 (HiI lt it pa pb P st) ?_ ?_ ⟨hp,⟨gallopOf st,rfl⟩,#[].push (gp pa (pa.size-1)),pa.size-1,pb.size,gallopOf st,rfl,by simp,mi0,by omega,by omega⟩)
 ·rintro i x c st' s' hi ⟨hp',⟨g,rfl⟩,o,na,nb,mg,rfl,hio,mi,h1,h2⟩
  refine kasC_bind (zb0 (fun j c st' s'=>P s'/\(∃ g,st'=zaH st g)/\∃(o:Array Nat) (na nb ca cb:Nat),c=(none,na,nb,o.map (kas_item it),ca,cb)/\(i<o.size/\(0<j->i+1<o.size))/\MH lt pa pb o na nb/\0<na/\1<nb) ?_ ?_
   ⟨hp',⟨g,rfl⟩,o,na,nb,0,0,rfl,⟨hio,fun z=>absurd z (Nat.lt_irrefl _)⟩,mi,h1,h2⟩)
  ·rintro j x c st' s' hj ⟨hp',⟨g,rfl⟩,o,na,nb,ca,cb,rfl,hio,mi,h1,h2⟩
   refine zvR (st:=zaH st g) hc h hk hp' mi h1 h2 (fun res out na nb ca cb s' hp' ok=>?_) fun out na nb ca cb s' hp' ok=>?_
   ·refine ztv (i:=i) (d:=(res,na,nb,out,ca,cb)) hc h hk hQ hp' ⟨_,rfl⟩ ?_
    rcases ok with ok|⟨e,o',e2,a1,a2⟩
    ·exact .inl ok
    ·exact .inr ⟨e,o',e2,by omega,a2⟩
   ·rcases ok with⟨_,z,_⟩|⟨_,o',rfl,a1,a2,a3,a4⟩
    ·cases z
    ·exact⟨hp',⟨_,rfl⟩,o',na,nb,_,_,rfl,⟨by omega,fun _=>by omega⟩,a2,a3,a4⟩
  ·rintro c st' s' ⟨hp',hg,o,na,nb,ca,cb,rfl,hio,mi,h1,h2⟩
   exact ztv (i:=i) (d:=(none,na,nb,o.map (kas_item it),ca,cb)) hc h hk hQ hp' hg (.inr ⟨rfl,o,rfl,hio.2 (by omega),mi,h1,h2⟩)
 ·rintro c st' s' ⟨hp',⟨g,rfl⟩,o,na,nb,mg,rfl,hio,mi,h1,h2⟩
  exfalso
  have:=mi.mi.pm.length_eq
  have ha:=mi.ha
  have hb:=mi.hb
  simp at this
  omega
end
end
section
def SS(κ:SortKind)(it:Array Keyed)(p:Array Nat)(pd:Array (Nat×Nat×Nat))(g:Nat):SortSt:=SortSt.mk' κ (p.map (kas_item it)) pd g none
abbrev A2:=Option (Option Nat)×Nat
abbrev A3:=Option (Option Nat)×Nat×Nat
def cA(lo a nrem:Nat):StateT SortSt Sem A2:=forIn [a:nrem] ((none,a):A2) fun _ r=>do
 let x <- ltAt' (lo+r.2) (lo+r.2-1)
 match x with
 | some sm=>if sm=true then pure (.done (none,r.2)) else pure (.yield (none,r.2+1))
 | _=>pure (.done (some none,r.2))
def cT(lo n nrem:Nat):StateT SortSt Sem (Option Nat):=do
 reverseSlice' lo (lo+n)
 let r <- cA lo n nrem
 match r.1 with
 | some r=>pure r
 | none=>pure (some r.2)
def cB(lo n nrem:Nat):StateT SortSt Sem A3:=forIn [n:nrem] ((none,n,0):A3) fun _ r=>do
 let x <- ltAt' (lo+r.2.1) (lo+r.2.1-1)
 match x with
 | some sm =>
  if sm=true then
   if r.2.2 > 0 then do
    reverseSlice' (lo+r.2.1-(r.2.2+1)) (lo+r.2.1)
    pure (.yield (none,r.2.1+1,0))
   else pure (.yield (none,r.2.1+1,0))
  else do
   let y <- ltAt' (lo+r.2.1-1) (lo+r.2.1)
   match y with
   | some lg=>if lg=true then pure (.done (none,r.2.1,r.2.2)) else pure (.yield (none,r.2.1+1,r.2.2+1))
   | _=>pure (.done (some none,r.2.1,r.2.2))
 | _=>pure (.done (some none,r.2.1,r.2.2))
def cD(lo n nrem:Nat):StateT SortSt Sem (Option Nat):=do
 rule "list.sort.descending-run"
 let r <- cB lo (n+1) nrem
 match r.1 with
 | some r=>pure r
 | none=>if r.2.2 > 0 then reverseSlice' (lo+r.2.1-(r.2.2+1)) (lo+r.2.1) >>= fun _=>cT lo r.2.1 nrem else cT lo r.2.1 nrem
theorem zwB(lo nrem:Nat):countRun' lo nrem=(do
  let r <- cA lo 1 nrem
  match r.1 with
  | some r=>pure r
  | none =>
   if(r.2==nrem)=true then pure (some r.2)
   else if r.2 > 1 then do
    let x <- ltAt' lo (lo+r.2-1)
    match x with
    | some rose=>if rose=true then pure (some r.2) else do
      reverseSlice' lo (lo+r.2)
      cD lo r.2 nrem
    | _=>pure none
   else cD lo r.2 nrem):=by
 rw [countRun'_eq]
 dsimp only
 refine congr rfl ?_
 funext r
 obtain⟨r1,r2⟩:=r
 cases r1 with
 | some r=>rfl
 | none =>
  dsimp only
  apply congrArg
  refine congr (congrArg _ ?_) ?_
  ·apply congrArg;funext x
   cases x with
   | none=>rfl
   | some b =>
    dsimp only
    apply congrArg
    apply congrArg;funext _
    unfold cD
    apply congrArg;funext _
    refine congr rfl ?_
    funext r
    obtain⟨r1,r2,r3⟩:=r
    cases r1 with
    | some r=>rfl
    | none =>
     dsimp only
     refine congr (congrArg _ ?_) ?_
     ·apply congrArg;funext _
      unfold cT cA
      apply congrArg;funext _
      refine congr rfl ?_
      funext r
      cases r.1 <;> rfl
     ·unfold cT cA
      apply congrArg;funext _
      refine congr rfl ?_
      funext r
      cases r.1 <;> rfl
  ·unfold cD
   apply congrArg;funext _
   refine congr rfl ?_
   funext r
   obtain⟨r1,r2,r3⟩:=r
   cases r1 with
   | some r=>rfl
   | none =>
    dsimp only
    refine congr (congrArg _ ?_) ?_
    ·apply congrArg;funext _
     unfold cT cA
     apply congrArg;funext _
     refine congr rfl ?_
     funext r
     cases r.1 <;> rfl
    ·unfold cT cA
     apply congrArg;funext _
     refine congr rfl ?_
     funext r
     cases r.1 <;> rfl
end
section
def ff(p:Array Nat)(lo k:Nat):Nat:=gp p (lo+k)
def UpF(lt:Nat->Nat->Bool)(f:Nat->Nat)(m:Nat):Prop:=∀ i j,i<=j->j<m->lt (f j) (f i)=false
def DnF(lt:Nat->Nat->Bool)(f:Nat->Nat)(m:Nat):Prop:=∀ i j,i<=j->j<m->lt (f i) (f j)=false
def EbF(lt:Nat->Nat->Bool)(f:Nat->Nat)(a b:Nat):Prop:=∀ i j,a<=i->i<b->a<=j->j<b->lt (f i) (f j)=false
def Fm(p0 p:Array Nat)(lo hi:Nat):Prop:=∀ i,i<lo\/hi<=i->gp p i=gp p0 i
section
variable {lt:Nat->Nat->Bool}{n:Nat}{P:Shared->Prop}{prog:Program}{w:World}{A:Around}{E:Value->Shared->Prop}{κ:SortKind}{it:Array Keyed}{p p0:Array Nat}{s:Shared}{pd:Array (Nat×Nat×Nat)}{g lo nrem:Nat}{f:Nat->Nat}
theorem UpF.next(o:Ord lt){m:Nat}(h:UpF lt f m)(hm:1<=m)(e:lt (f m) (f (m-1))=false):UpF lt f (m+1):=fun i j hij hj=>by
 by_cases c:j<m
 ·exact h i j hij c
 ·have:j=m:=by omega
  subst this
  by_cases c2:i=j
  ·subst c2;exact o.refl _
  ·exact o.tr _ _ _ (h i (j-1) (by omega) (by omega)) e
theorem DnF.next(o:Ord lt){m:Nat}(h:DnF lt f m)(hm:1<=m)(e:lt (f (m-1)) (f m)=false):DnF lt f (m+1):=fun i j hij hj=>by
 by_cases c:j<m
 ·exact h i j hij c
 ·have:j=m:=by omega
  subst this
  by_cases c2:i=j
  ·subst c2;exact o.refl _
  ·exact o.tr _ _ _ e (h i (j-1) (by omega) (by omega))
theorem zlG{a b:Nat}(hb:lo+b<=p.size)(k:Nat):ff (kas_rev p (lo+a) (lo+b)) lo k=if a<=k/\k<b then ff p lo (a+b-1-k) else ff p lo k:=by
 unfold ff
 rw [zqM hb]
 by_cases c:a<=k/\k<b
 ·rw [if_pos c,if_pos (by omega),show lo+a+(lo+b)-1-(lo+k)=lo+(a+b-1-k) by omega]
 ·rw [if_neg c,if_neg (by omega)]
theorem DnF.rev(o:Ord lt){a b m:Nat}(hb:lo+b<=p.size)(h:DnF lt (ff p lo) m)(e:EbF lt (ff p lo) a b)(hbm:b<=m):DnF lt (ff (kas_rev p (lo+a) (lo+b)) lo) m:=fun i j hij hj=>by
 rw [zlG hb,zlG hb]
 by_cases c1:a<=i/\i<b
 ·rw [if_pos c1]
  by_cases c2:a<=j/\j<b
  ·rw [if_pos c2];exact e _ _ (by omega) (by omega) (by omega) (by omega)
  ·rw [if_neg c2];exact h _ _ (by omega) (by omega)
 ·rw [if_neg c1]
  by_cases c2:a<=j/\j<b
  ·rw [if_pos c2];exact h _ _ (by omega) (by omega)
  ·rw [if_neg c2];exact h _ _ hij hj
theorem Fm.rev{a b hi:Nat}(h:Fm p0 p lo hi)(ha:lo<=a)(hb:b<=hi)(hs:b<=p.size):Fm p0 (kas_rev p a b) lo hi:=fun i hi'=>by
 rw [zqM hs,if_neg (by omega)]
 exact h i hi'
theorem znj(o:Ord lt)(m:Nat):EbF lt f m (m+1):=fun i j a b c d=>by
 have e1:i=m:=by omega
 have e2:j=m:=by omega
 subst e1;subst e2;exact o.refl _
theorem zi1(hc:Asks lt n P (kas_cmp prog w A κ it))(ar:Arr n p){i j:Nat}{Q:Option Bool->SortSt->Shared->Prop}(hi:i<n)(hj:j<n)(hp:P s)(h:∀ s',P s'->Q (some (lt (gp p i) (gp p j))) (SS κ it p pd g) s') :
  kasC (model prog w) A E (ltAt' i j) Q (SS κ it p pd g) s:=by
 rw [ltAt'_eq]
 refine kasC_bind (kasC_get (kasC_bind (zb1 (by rw [ar.sz];exact hi) (kasC_bind (zb1 (by rw [ar.sz];exact hj) (zmz hc rfl (ar.lim (by omega) _) (ar.lim (by omega) _) hp h))))))
theorem zpe{M:Model}{i j:Nat}{Q:Unit->SortSt->Shared->Prop}(h:Q () (SS κ it (kas_rev p i j) pd g) s):kasC M A E (reverseSlice' i j) Q (SS κ it p pd g) s:=by
 rw [reverseSlice'_eq]
 refine kasC_modify ?_
 have e1:mirror (p.map (kas_item it)) i j ((j-i) / 2)=(mirror p i j ((j-i) / 2)).map (kas_item it):=kas_swaps_map (kas_item it) (fun k=>i+k) (fun k=>j-1-k) _ p
 have e:setArr (SS κ it p pd g) (mirror (arrOf (SS κ it p pd g)) i j ((j-i) / 2))=SS κ it (kas_rev p i j) pd g:=by
  show SortSt.mk' κ (mirror (p.map (kas_item it)) i j ((j-i) / 2)) pd g none=_
  rw [e1];rfl
 rw [e]
 exact h
theorem zwP{M:Model}{k l:Nat}{Q:Unit->SortSt->Shared->Prop}(h:Q () (SS κ it (bubble p k (k-l)) pd g) s):kasC M A E (moveDown' k l) Q (SS κ it p pd g) s:=by
 rw [moveDown'_eq]
 refine kasC_modify ?_
 have e1:bubble (p.map (kas_item it)) k (k-l)=(bubble p k (k-l)).map (kas_item it):=kas_swaps_map (kas_item it) (fun i=>k-i) (fun i=>k-i-1) _ p
 have e:setArr (SS κ it p pd g) (bubble (arrOf (SS κ it p pd g)) k (k-l))=SS κ it (bubble p k (k-l)) pd g:=by
  show SortSt.mk' κ (bubble (p.map (kas_item it)) k (k-l)) pd g none=_
  rw [e1];rfl
 rw [e]
 exact h
theorem zwT(o:Ord lt)(hc:Asks lt n P (kas_cmp prog w A κ it))(ar:Arr n p){a:Nat}{Q:A2->SortSt->Shared->Prop}(h1:1<=a)(ha:a<=nrem)(hz:lo+nrem<=n)(hu:UpF lt (ff p lo) a)(hp:P s)
  (h:∀ m s',P s'->a<=m->m<=nrem->UpF lt (ff p lo) m->(m=nrem\/lt (ff p lo m) (ff p lo (m-1))=true)->Q (none,m) (SS κ it p pd g) s'):kasC (model prog w) A E (cA lo a nrem) Q (SS κ it p pd g) s:=by
 unfold cA
 refine zb0 (fun i c st' s'=>c=(none,a+i)/\st'=SS κ it p pd g/\P s'/\a+i<=nrem/\UpF lt (ff p lo) (a+i)) ?_ ?_ ⟨rfl,rfl,hp,ha,hu⟩
 ·rintro i x c st' s' hi ⟨rfl,rfl,hp',h2,hu'⟩
  dsimp only
  refine kasC_bind (zi1 hc ar (by omega) (by omega) hp' fun s1 hp1=>?_)
  dsimp only
  rw [show lo+(a+i)-1=lo+(a+i-1) by omega]
  cases e:lt (gp p (lo+(a+i))) (gp p (lo+(a+i-1))) with
  | true =>
   rw [if_pos rfl]
   exact kasC_pure (h _ _ hp1 (by omega) (by omega) hu' (.inr e))
  | false =>
   rw [if_neg (by decide)]
   exact kasC_pure ⟨rfl,rfl,hp1,by omega,hu'.next o (by omega) e⟩
 ·rintro c st' s' ⟨rfl,rfl,hp',h2,hu'⟩
  exact h _ _ hp' (by omega) h2 hu' (.inl (by omega))
theorem zwR(o:Ord lt)(hc:Asks lt n P (kas_cmp prog w A κ it))(ar:Arr n p)(fm:Fm p0 p lo (lo+nrem)){m:Nat}{Q:Option Nat->SortSt->Shared->Prop}(h1:1<=m)(hm:m<=nrem)(hz:lo+nrem<=n)(hd:DnF lt (ff p lo) m)(hp:P s)
  (h:∀ m' p' s',P s'->Arr n p'->Fm p0 p' lo (lo+nrem)->1<=m'->m'<=nrem->UpF lt (ff p' lo) m'->Q (some m') (SS κ it p' pd g) s'):kasC (model prog w) A E (cT lo m nrem) Q (SS κ it p pd g) s:=by
 unfold cT
 refine kasC_bind (zpe ?_)
 have hs:lo+m<=p.size:=by rw [ar.sz];omega
 have ar':=ar.rev lo (lo+m)
 have fm':=fm.rev (Nat.le_refl _) (show lo+m<=lo+nrem by omega) hs
 refine kasC_bind (zwT o hc ar' h1 hm hz (fun i j hij hj=>?_) hp fun m' s' hp' a b c _=>kasC_pure (h m' _ s' hp' ar' fm' (by omega) b c))
 have e:=zlG (p:=p) (lo:=lo) (a:=0) (b:=m) hs
 rw [Nat.add_zero] at e
 rw [e i,e j,if_pos (by omega),if_pos (by omega)]
 exact hd _ _ (by omega) (by omega)
theorem zwS(o:Ord lt)(hc:Asks lt n P (kas_cmp prog w A κ it))(ar:Arr n p)(fm:Fm p0 p lo (lo+nrem)){m:Nat}{Q:Option Nat->SortSt->Shared->Prop}(h1:1<=m)(hm:m+1<=nrem)(hz:lo+nrem<=n)(hd:DnF lt (ff p lo) (m+1))(hp:P s)
  (h:∀ m' p' s',P s'->Arr n p'->Fm p0 p' lo (lo+nrem)->1<=m'->m'<=nrem->UpF lt (ff p' lo) m'->Q (some m') (SS κ it p' pd g) s'):kasC (model prog w) A E (cD lo m nrem) Q (SS κ it p pd g) s:=by
 unfold cD
 refine kasC_bind (kasC_lift (wpAny_rule ?_))
 have fin:∀(p:Array Nat) (m q:Nat) (s:Shared),Arr n p->Fm p0 p lo (lo+nrem)->P s->q+1<=m->m<=nrem->DnF lt (ff p lo) m->EbF lt (ff p lo) (m-(q+1)) m->kasC (model prog w) A E (if q > 0 then reverseSlice' (lo+m-(q+1)) (lo+m) >>= fun _=>cT lo m nrem else cT lo m nrem) Q (SS κ it p pd g) s:=fun p m q s ar fm hp h1 h2 hd he=>by
  have hs:lo+m<=p.size:=by rw [ar.sz];omega
  by_cases c:q > 0
  ·rw [if_pos c]
   refine kasC_bind (zpe ?_)
   rw [show lo+m-(q+1)=lo+(m-(q+1)) by omega]
   exact zwR o hc (ar.rev _ _) (fm.rev (by omega) (by omega) hs) (by omega) h2 hz (hd.rev o hs he (Nat.le_refl _)) hp h
  ·rw [if_neg c]
   exact zwR o hc ar fm (by omega) h2 hz hd hp h
 unfold cB
 refine kasC_bind (zb0 (fun i c st' s'=>P s'/\∃ p q,c=(none,m+1+i,q)/\st'=SS κ it p pd g/\Arr n p/\Fm p0 p lo (lo+nrem)/\q+1<=m+1+i/\m+1+i<=nrem/\DnF lt (ff p lo) (m+1+i)/\EbF lt (ff p lo) (m+1+i-(q+1)) (m+1+i)) ?_ ?_ ⟨hp,p,0,rfl,rfl,ar,fm,by omega,hm,hd,znj o m⟩)
 ·rintro i x c st' s' hi ⟨hp',p,q,rfl,rfl,ar,fm,h2,h3,hd,he⟩
  dsimp only
  generalize hM:m+1+i=M at h2 h3 hd he ⊢
  have hs:lo+M<=p.size:=by rw [ar.sz];omega
  refine kasC_bind (zi1 hc ar (by omega) (by omega) hp' fun s1 hp1=>?_)
  dsimp only
  rw [show lo+M-1=lo+(M-1) by omega]
  cases e:lt (gp p (lo+M)) (gp p (lo+(M-1))) with
  | true =>
   rw [if_pos rfl]
   have hd2:DnF lt (ff p lo) (M+1):=hd.next o (by omega) (o.as _ _ e)
   by_cases c:q > 0
   ·rw [if_pos c]
    refine kasC_bind (zpe ?_)
    rw [show lo+M-(q+1)=lo+(M-(q+1)) by omega]
    refine kasC_pure ⟨hp1,_,0,by rw [<- hM];rfl,rfl,ar.rev _ _,fm.rev (by omega) (by omega) hs,by omega,by omega,?_,?_⟩
    ·rw [show m+1+(i+1)=M+1 by omega]
     exact hd2.rev o hs he (by omega)
    ·rw [show m+1+(i+1)=M+1 by omega]
     exact znj o M
   ·rw [if_neg c]
    refine kasC_pure ⟨hp1,p,0,by rw [<- hM];rfl,rfl,ar,fm,by omega,by omega,?_,?_⟩
    ·rw [show m+1+(i+1)=M+1 by omega]
     exact hd2
    ·rw [show m+1+(i+1)=M+1 by omega]
     exact znj o M
  | false =>
   rw [if_neg (by decide)]
   refine kasC_bind (zi1 hc ar (by omega) (by omega) hp1 fun s2 hp2=>?_)
   dsimp only
   cases e2:lt (gp p (lo+(M-1))) (gp p (lo+M)) with
   | true =>
    rw [if_pos rfl]
    exact kasC_pure (fin p M q _ ar fm hp2 h2 h3 hd he)
   | false =>
    rw [if_neg (by decide)]
    have eq1:∀ x,M-(q+1)<=x->x<M->lt (ff p lo M) (ff p lo x)=false/\lt (ff p lo x) (ff p lo M)=false:=fun x x1 x2 =>
     ⟨o.tr _ _ _ (he (M-1) x (by omega) (by omega) x1 x2) e,o.tr _ _ _ e2 (he x (M-1) x1 x2 (by omega) (by omega))⟩
    refine kasC_pure ⟨hp2,p,q+1,by rw [<- hM];rfl,rfl,ar,fm,by omega,by omega,?_,?_⟩
    ·rw [show m+1+(i+1)=M+1 by omega]
     exact hd.next o (by omega) e2
    ·rw [show m+1+(i+1)=M+1 by omega,show M+1-(q+1+1)=M-(q+1) by omega]
     intro i j a b c d
     by_cases c1:i=M
     ·by_cases c2:j=M
      ·subst c1;subst c2;exact o.refl _
      ·subst c1;exact(eq1 j (by omega) (by omega)).1
     ·by_cases c2:j=M
      ·subst c2;exact(eq1 i (by omega) (by omega)).2
      ·exact he i j (by omega) (by omega) (by omega) (by omega)
 ·rintro c st' s' ⟨hp',p,q,rfl,rfl,ar,fm,h2,h3,hd,he⟩
  exact fin p _ q _ ar fm hp' h2 h3 hd he
theorem zru(o:Ord lt)(hc:Asks lt n P (kas_cmp prog w A κ it))(ar:Arr n p){Q:Option Nat->SortSt->Shared->Prop}(h1:1<=nrem)(hz:lo+nrem<=n)(hp:P s)
  (h:∀ m' p' s',P s'->Arr n p'->Fm p p' lo (lo+nrem)->1<=m'->m'<=nrem->UpF lt (ff p' lo) m'->Q (some m') (SS κ it p' pd g) s'):kasC (model prog w) A E (countRun' lo nrem) Q (SS κ it p pd g) s:=by
 rw [zwB]
 have fm:Fm p p lo (lo+nrem):=fun _ _=>rfl
 refine kasC_bind (zwT o hc ar (Nat.le_refl _) h1 hz (fun i j a b=>?_) hp fun m s' hp' a b hu hl=>?_)
 ·have e1:i=0:=by omega
  have e2:j=0:=by omega
  subst e1;subst e2;exact o.refl _
 dsimp only
 by_cases c:m=nrem
 ·subst c
  rw [if_pos (by simp)]
  exact kasC_pure (h m p s' hp' ar fm a (Nat.le_refl _) hu)
 ·rw [if_neg (by simpa using c)]
  have hl2:lt (ff p lo m) (ff p lo (m-1))=true:=by
   rcases hl with hl|hl
   ·exact absurd hl c
   ·exact hl
  have hs:lo+m<=p.size:=by rw [ar.sz];omega
  by_cases c1:m > 1
  ·rw [if_pos c1]
   refine kasC_bind (zi1 hc ar (by omega) (by omega) hp' fun s'' hp''=>?_)
   dsimp only
   rw [show lo+m-1=lo+(m-1) by omega]
   cases e:lt (gp p lo) (gp p (lo+(m-1))) with
   | true =>
    rw [if_pos rfl]
    exact kasC_pure (h m p s'' hp'' ar fm a b hu)
   | false =>
    rw [if_neg (by decide)]
    have all:∀ i j,i<m->j<m->lt (ff p lo i) (ff p lo j)=false:=fun i j hi hj =>
     o.tr _ _ _ (hu j (m-1) (by omega) (by omega)) (o.tr _ _ _ (show lt (ff p lo 0) (ff p lo (m-1))=false from e) (hu 0 i (Nat.zero_le _) hi))
    refine kasC_bind (zpe (zwS o hc (ar.rev _ _) (fm.rev (Nat.le_refl _) (by omega) hs) a (by omega) hz (fun i j hij hj=>?_) hp'' h))
    have er:=zlG (p:=p) (lo:=lo) (a:=0) (b:=m) hs
    rw [Nat.add_zero] at er
    rw [er i,er j]
    by_cases cj:j<m
    ·rw [if_pos (by omega),if_pos (by omega)]
     exact all _ _ (by omega) (by omega)
    ·have ej:j=m:=by omega
     subst ej
     rw [if_neg (by omega:¬ (0<=j/\j<j))]
     by_cases ci:0<=i/\i<j
     ·rw [if_pos ci]
      exact o.tr _ _ _ (o.as _ _ hl2) (all _ _ (by omega) (by omega))
     ·rw [if_neg ci]
      have ei:i=j:=by omega
      subst ei;exact o.refl _
  ·rw [if_neg c1]
   have e1:m=1:=by omega
   subst e1
   refine zwS o hc ar fm (Nat.le_refl _) (by omega) hz ?_ hp' h
   refine DnF.next o (fun i j hij hj=>?_) (Nat.le_refl _) (o.as _ _ hl2)
   have e1:i=0:=by omega
   have e2:j=0:=by omega
   subst e1;subst e2;exact o.refl _
theorem zvS(o:Ord lt)(hc:Asks lt n P (kas_cmp prog w A κ it))(ar:Arr n p){m ok:Nat}{Q:Bool->SortSt->Shared->Prop}(h1:1<=ok)(hok:ok<=m)(hz:lo+m<=n)(hu:UpF lt (ff p lo) ok)(hp:P s)
  (h:∀ p' s',P s'->Arr n p'->Fm p p' lo (lo+m)->UpF lt (ff p' lo) m->Q true (SS κ it p' pd g) s'):kasC (model prog w) A E (binarySort' lo m ok) Q (SS κ it p pd g) s:=by
 rw [binarySort'_eq,show max ok 1=ok by omega]
 refine kasC_bind (kasC_range ?_)
 have go:∀(l:List Nat) (k:Nat) (p':Array Nat) (s:Shared),l=List.range' k (m-k)->k<=m->1<=k->P s->Arr n p'->Fm p p' lo (lo+m)->UpF lt (ff p' lo) k->∀{R:Option Bool×Unit->SortSt->Shared->Prop} {body:Nat->Option Bool×Unit->StateT SortSt Sem (ForInStep (Option Bool×Unit))},
   (∀ p' s',P s'->Arr n p'->Fm p p' lo (lo+m)->UpF lt (ff p' lo) m->R (none,()) (SS κ it p' pd g) s') ->
   (∀(k:Nat) (p':Array Nat) (s:Shared) (R':ForInStep (Option Bool×Unit)->SortSt->Shared->Prop),k<m->1<=k->P s->Arr n p'->UpF lt (ff p' lo) k ->
    (∀ l s',P s'->l<=k->(∀ i,i<l->lt (ff p' lo k) (ff p' lo i)=false)->(∀ i,l<=i->i<k->lt (ff p' lo i) (ff p' lo k)=false)->R' (.yield (none,())) (SS κ it (bubble p' (lo+k) (lo+k-(lo+l))) pd g) s')->kasC (model prog w) A E (body k (none,())) R' (SS κ it p' pd g) s) ->
   kasC (model prog w) A E (forIn l (none,()) body) R (SS κ it p' pd g) s:=by
  intro l
  induction l with
  | nil =>
   intro k p' s hl hk hk1 hp ar fm hu R body hR hb
   have:=congrArg List.length hl
   rw [List.length_range'] at this
   have:k=m:=by simp at this;omega
   subst this
   exact kasC_nil (hR p' s hp ar fm hu)
  | cons x l ih =>
   intro k p' s hl hk hk1 hp ar fm hu R body hR hb
   have hlt:k<m:=by
    have:=congrArg List.length hl
    rw [List.length_range'] at this
    simp at this
    omega
   rw [show m-k=m-(k+1)+1 by omega,List.range'_succ] at hl
   obtain⟨rfl,hl⟩:=List.cons.inj hl
   refine kasC_cons (hb x p' s _ hlt hk1 hp ar hu fun l' s' hp' hl' ha hb'=>?_)
   have hk':lo+x<p'.size:=by rw [ar.sz];omega
   have gb:∀ i,gp (bubble p' (lo+x) (lo+x-(lo+l'))) i=if i=lo+l' then gp p' (lo+x) else if lo+l'<i/\i<=lo+x then gp p' (i-1) else gp p' i:=fun i=>by
    have e:=getElem?_bubble hk' (lo+x-(lo+l')) (by omega) i
    rw [show lo+x-(lo+x-(lo+l'))=lo+l' by omega] at e
    by_cases c1:i=lo+l'
    ·rw [if_pos c1] at e ⊢;exact zkz e
    ·rw [if_neg c1] at e ⊢
     by_cases c2:lo+l'<i/\i<=lo+x
     ·rw [if_pos c2] at e ⊢;exact zkz e
     ·rw [if_neg c2] at e ⊢;exact zkz e
   refine ih (x+1) _ s' hl (by omega) (by omega) hp' ⟨by rw [bubble_size];exact ar.sz,(bubble_perm _ _ _).trans ar.pm⟩ (fun i hi=>?_) (fun i j hij hj=>?_) hR hb
   ·rw [gb i,if_neg (by omega),if_neg (by omega)]
    exact fm i hi
   ·have gf:∀ i,ff (bubble p' (lo+x) (lo+x-(lo+l'))) lo i=if i=l' then ff p' lo x else if l'<i/\i<=x then ff p' lo (i-1) else ff p' lo i:=fun i=>by
     unfold ff
     rw [gb (lo+i)]
     by_cases c1:i=l'
     ·rw [if_pos c1,if_pos (by omega)]
     ·rw [if_neg c1,if_neg (by omega)]
      by_cases c2:l'<i/\i<=x
      ·rw [if_pos c2,if_pos (by omega),show lo+i-1=lo+(i-1) by omega]
      ·rw [if_neg c2,if_neg (by omega)]
    rw [gf i,gf j]
    by_cases c1:i=l'
    ·rw [if_pos c1]
     by_cases c2:j=l'
     ·rw [if_pos c2];exact o.refl _
     ·rw [if_neg c2,if_pos (⟨by omega,by omega⟩:l'<j/\j<=x)]
      exact hb' (j-1) (by omega) (by omega)
    ·rw [if_neg c1]
     by_cases c2:j=l'
     ·rw [if_pos c2,if_neg (by omega:¬ (l'<i/\i<=x))]
      exact ha i (by omega)
     ·rw [if_neg c2]
      by_cases c3:l'<i/\i<=x
      ·rw [if_pos c3,if_pos (⟨by omega,by omega⟩:l'<j/\j<=x)]
       exact hu (i-1) (j-1) (by omega) (by omega)
      ·rw [if_neg c3]
       by_cases c4:l'<j/\j<=x
       ·rw [if_pos c4]
        exact hu i (j-1) (by omega) (by omega)
       ·rw [if_neg c4]
        exact hu i j (by omega) (by omega)
 refine go _ ok p s rfl hok h1 hp ar (fun _ _=>rfl) hu (fun p' s' hp' ar' fm' hu'=>kasC_pure (h p' s' hp' ar' fm' hu')) fun k p' s R' hk hk1 hp ar hu hR=>?_
 refine kasC_bind (zb0 (fun i c st' s'=>P s'/\st'=SS κ it p' pd g/\∃ l r,c=(none,l,r)/\l<=r/\r<=k/\r-l<=k-i/\(∀ i,i<l->lt (ff p' lo k) (ff p' lo i)=false)/\∀ i,r<=i->i<k->lt (ff p' lo i) (ff p' lo k)=false) ?_ ?_ ⟨hp,rfl,0,k,rfl,Nat.zero_le _,Nat.le_refl _,by omega,fun i hi=>by omega,fun i a b=>by omega⟩)
 ·rintro i x c st' s' hi ⟨hp',rfl,l,r,rfl,h2,h3,h4,ha,hb⟩
  dsimp only
  by_cases c:l ≥ r
  ·rw [if_pos c]
   have:l=r:=by omega
   subst this
   exact kasC_pure (kasC_bind (zwP (kasC_pure (hR l s' hp' h3 ha hb))))
  ·rw [if_neg c]
   refine kasC_bind (zi1 hc ar (by omega) (by omega) hp' fun s2 hp2=>?_)
   dsimp only
   cases e:lt (gp p' (lo+k)) (gp p' (lo+(l+r) / 2)) with
   | true =>
    rw [if_pos rfl]
    exact kasC_pure ⟨hp2,rfl,_,_,rfl,by omega,by omega,by omega,ha,fun i i1 i2=>o.tr _ _ _ (o.as _ _ e) (hu _ _ i1 i2)⟩
   | false =>
    rw [if_neg (by decide)]
    exact kasC_pure ⟨hp2,rfl,_,_,rfl,by omega,by omega,by omega,fun i i1=>o.tr _ _ _ (hu i ((l+r) / 2) (by omega) (by omega)) e,hb⟩
 ·rintro c st' s' ⟨hp',rfl,l,r,rfl,h2,h3,h4,ha,hb⟩
  have:l=r:=by omega
  subst this
  exact kasC_bind (zwP (kasC_pure (hR l s' hp' h3 ha hb)))
end
end
section
def wrL{α:Type}(p:Array α)(off:Nat)(l:List α)(k:Nat):Array α:=(l.zipIdx k).foldl (fun a x=>a.setIfInBounds (off+x.2) x.1) p
theorem zkZ{α:Type}(off:Nat):∀(l:List α) (p:Array α) (k:Nat),(wrL p off l k).size=p.size
 | [],_,_=>rfl
 | x::l,p,k=>by
  have:=zkZ off l (p.setIfInBounds (off+k) x) (k+1)
  simpa [wrL] using this
theorem zfT{α:Type}(off:Nat):∀(l:List α) (p:Array α) (k:Nat),off+k+l.length<=p.size->∀ i:Nat,(wrL p off l k)[i]?=if off+k<=i/\i<off+k+l.length then l[i-(off+k)]? else p[i]?
 | [],p,k,_,i=>by
  rw [if_neg (by simp)]
  rfl
 | x::l,p,k,h,i=>by
  have ih:=zfT off l (p.setIfInBounds (off+k) x) (k+1) (by simp at h ⊢;omega) i
  have e:wrL p off (x::l) k=wrL (p.setIfInBounds (off+k) x) off l (k+1):=by simp [wrL]
  rw [e,ih]
  simp only [List.length_cons] at h ⊢
  by_cases c:off+k=i
  ·rw [if_neg (by omega),if_pos (by omega),<- c]
   rw [Array.getElem?_setIfInBounds_self_of_lt (by omega)]
   simp
  ·by_cases c2:off+(k+1)<=i/\i<off+(k+1)+l.length
   ·rw [if_pos c2,if_pos (by omega),show i-(off+k)=i-(off+(k+1))+1 by omega,List.getElem?_cons_succ]
   ·rw [if_neg c2,if_neg (by omega),Array.getElem?_setIfInBounds_ne c]
theorem zsZ{α β:Type}(f:α->β)(p:Array α)(off:Nat)(l:List α)(h:off+l.length<=p.size):wrL (p.map f) off (l.map f) 0=(wrL p off l 0).map f:=by
 apply Array.ext_getElem?
 intro i
 rw [Array.getElem?_map,zfT off _ _ _ (by simpa using h),zfT off _ _ _ (by simpa using h),List.length_map]
 by_cases c:off+0<=i/\i<off+0+l.length
 ·rw [if_pos c,if_pos c,List.getElem?_map]
 ·rw [if_neg c,if_neg c,Array.getElem?_map]
theorem zq6{α:Type}(p:Array α)(off:Nat)(l:List α)(h:off+l.length<=p.size):(wrL p off l 0).toList=p.toList.take off++l++p.toList.drop (off+l.length):=by
 apply List.ext_getElem?
 intro i
 rw [Array.getElem?_toList,zfT off _ _ _ (by simpa using h),Nat.add_zero]
 have ho:min off p.size=off:=Nat.min_eq_left (by omega)
 by_cases c1:i<off
 ·rw [if_neg (by omega),List.append_assoc,List.getElem?_append_left (by simp;omega),List.getElem?_take_of_lt c1,Array.getElem?_toList]
 ·by_cases c2:i<off+l.length
  ·rw [if_pos (by omega),List.append_assoc,List.getElem?_append_right (by simp;omega),List.getElem?_append_left (by simp;omega)]
   simp [ho]
  ·rw [if_neg (by omega),List.getElem?_append_right (by simp;omega),List.getElem?_drop]
   simp [ho]
   rw [show off+l.length+(i-(off+l.length))=i by omega]
theorem zvs{p q:Array Nat}{off:Nat}(h:off+q.size<=p.size)(i:Nat):gp (wrL p off q.toList 0) i=if off<=i/\i<off+q.size then gp q (i-off) else gp p i:=by
 have e:=zfT off q.toList p 0 (by simpa using h) i
 simp only [Nat.add_zero,Array.length_toList,Array.getElem?_toList] at e
 by_cases c:off<=i/\i<off+q.size
 ·rw [if_pos c] at e ⊢;exact zkz e
 ·rw [if_neg c] at e ⊢;exact zkz e
theorem zul(i:Nat):mergeAt' i=(do
 let s <- get
 let(some (sa,na,pw),some (sb,nb,_)):=((pendingOf s)[i]?,(pendingOf s)[i+1]?)|unsupported "internal:list.sort.pending"
 set (setPending s (((pendingOf s).setIfInBounds i (sa,na+nb,pw)).eraseIdxIfInBounds (i+1)))
 let some k <- gal false (<- elem' (arrOf s) sb) (arrOf s) sa na 0|return false
 if na-k==0 then return true
 let some m <- gal true (<- elem' (arrOf s) (sa+k+(na-k)-1)) (arrOf s) sb nb (nb-1)|return false
 if m==0 then return true
 let x:=(arrOf s).extract (sa+k) sb
 let y:=(arrOf s).extract sb (sb+m)
 let z <- if na-k<=m then mlo x y else mhi x y
 modify fun s=>setArr s (wrL (arrOf s) (sa+k) z.toList 0)
 return(failedOf (<- get)).isNone):=rfl
def Cov(lt:Nat->Nat->Bool)(p:Array Nat):List (Nat×Nat×Nat)->Nat->Nat->Prop
 | [],a,b=>a=b
 | (s,l,_)::r,a,b=>s=a/\0<l/\UpF lt (ff p s) l/\Cov lt p r (a+l) b
section
variable {lt:Nat->Nat->Bool}{n:Nat}{P:Shared->Prop}{prog:Program}{w:World}{A:Around}{E:Value->Shared->Prop}{κ:SortKind}{it:Array Keyed}{p p':Array Nat}{s:Shared}{pd:Array (Nat×Nat×Nat)}{g lo:Nat}
theorem Cov.le:∀{l:List (Nat×Nat×Nat)} {a b:Nat},Cov lt p l a b->a<=b/\l.length<=b-a
 | [],a,b,h=>by cases h;simp
 | (s,m,q)::r,a,b,h=>by
  obtain⟨rfl,h1,_,h3⟩:=h
  have:=Cov.le h3
  simp only [List.length_cons]
  omega
theorem Cov.same:∀{l:List (Nat×Nat×Nat)} {a b:Nat},(∀ i,a<=i->i<b->gp p' i=gp p i)->Cov lt p l a b->Cov lt p' l a b
 | [],a,b,_,h=>h
 | (s,m,q)::r,a,b,e,h=>by
  obtain⟨rfl,h1,h2,h3⟩:=h
  have hl:=(Cov.le h3).1
  refine⟨rfl,h1,fun i j hij hj=>?_,Cov.same (fun i a1 a2=>e i (by omega) a2) h3⟩
  unfold ff
  rw [e _ (by omega) (by omega),e _ (by omega) (by omega)]
  exact h2 i j hij hj
theorem Cov.app:∀{l r:List (Nat×Nat×Nat)} {a c:Nat},Cov lt p (l++r) a c↔∃ b,Cov lt p l a b/\Cov lt p r b c
 | [],r,a,c=>⟨fun h=>⟨a,rfl,h⟩,fun⟨b,h1,h2⟩=>by cases h1;exact h2⟩
 | (s,m,q)::l,r,a,c=>by
  constructor
  ·rintro⟨rfl,h1,h2,h3⟩
   obtain⟨b,h4,h5⟩:=Cov.app.mp h3
   exact⟨b,⟨rfl,h1,h2,h4⟩,h5⟩
  ·rintro⟨b,⟨rfl,h1,h2,h4⟩,h5⟩
   exact⟨rfl,h1,h2,Cov.app.mpr ⟨b,h4,h5⟩⟩
theorem zs2(o:Ord lt){lo m:Nat}(h:UpF lt (ff p lo) m):(p.extract lo (lo+m)).toList.Pairwise (rl lt):=by
 rw [List.pairwise_iff_getElem]
 intro i j hi hj hij
 simp only [Array.length_toList,Array.size_extract] at hi hj
 have e:∀ k (hk:k<(p.extract lo (lo+m)).toList.length),(p.extract lo (lo+m)).toList[k]=ff p lo k:=fun k hk=>by
  simp only [Array.length_toList,Array.size_extract] at hk
  simp [ff,gp,Array.getD,show lo+k<p.size by omega]
 rw [e,e]
 exact h i j (by omega) (by omega)
theorem zn5{lo hi i:Nat}(h:lo+i<hi)(h2:hi<=p.size):gp (p.extract lo hi) i=gp p (lo+i):=by
 simp [gp,Array.getD,show i<min hi p.size-lo by omega,show lo+i<p.size by omega]
theorem zq0(o:Ord lt){a m l:Nat}(h1:UpF lt (ff p a) m)(h2:UpF lt (ff p (a+m)) l)(hx:0<m->0<l->rl lt (gp p (a+(m-1))) (gp p (a+m))):UpF lt (ff p a) (m+l):=fun i j hij hj=>by
 by_cases c1:j<m
 ·exact h1 i j hij c1
 ·by_cases c2:i<m
  ·have a1:=h1 i (m-1) (by omega) (by omega)
   have a2:=h2 0 (j-m) (by omega) (by omega)
   unfold ff at a1 a2 ⊢
   rw [show a+m+(j-m)=a+j by omega,Nat.add_zero] at a2
   exact o.tr _ _ _ (o.tr _ _ _ a1 (hx (by omega) (by omega))) a2
  ·have a2:=h2 (i-m) (j-m) (by omega) (by omega)
   unfold ff at a2 ⊢
   rw [show a+m+(j-m)=a+j by omega,show a+m+(i-m)=a+i by omega] at a2
   exact a2
theorem zuA{M:Model}{σ:Type}{x st:σ}{Q:PUnit->σ->Shared->Prop}(h:Q ⟨⟩ x s):kasC M A E (set x:StateT σ Sem PUnit) Q st s:=by
 unfold kasC;rw [StateT.run_set];exact wpAny_pure h
theorem ztp(o:Ord lt)(hc:Asks lt n P (kas_cmp prog w A κ it))(ar:Arr n p){i:Nat}{Q:Bool->SortSt->Shared->Prop}(hi:i+1<pd.size)(cov:Cov lt p pd.toList 0 lo)(hlo:lo<=n)(hp:P s)
  (h:∀ p' pd' g' s',P s'->Arr n p'->(∀ j,lo<=j->gp p' j=gp p j)->Cov lt p' pd'.toList 0 lo->pd'.size+1=pd.size->Q true (SS κ it p' pd' g') s'):kasC (model prog w) A E (mergeAt' i) Q (SS κ it p pd g) s:=by
 have el:pd.toList=pd.toList.take i++pd[i]::pd[i+1]::pd.toList.drop (i+1+1):=by
  have e1:pd.toList.drop i=pd[i]::pd.toList.drop (i+1):=by rw [List.drop_eq_getElem_cons (by simp;omega)];rfl
  have e2:pd.toList.drop (i+1)=pd[i+1]::pd.toList.drop (i+1+1):=by rw [List.drop_eq_getElem_cons (by simp;omega)];rfl
  rw [<- e2,<- e1,List.take_append_drop]
 have e0:pd[i]?=some pd[i]:=by simp
 have e1:pd[i+1]?=some pd[i+1]:=by simp
 generalize pd[i]=x0 at el e0
 generalize pd[i+1]=x1 at el e1
 obtain⟨sa,na,pw⟩:=x0
 obtain⟨sb,nb,pw2⟩:=x1
 have cov0:=cov
 rw [el] at cov0
 obtain⟨b,c1,rfl,na0,ua,rfl,nb0,ub,c3⟩:=Cov.app.mp cov0
 have hl:=(Cov.le c3).1
 have hn:0<n:=by omega
 have hsz:=ar.sz
 have epd:((pd.setIfInBounds i (sa,na+nb,pw)).eraseIdxIfInBounds (i+1)).toList=pd.toList.take i++(sa,na+nb,pw)::pd.toList.drop (i+1+1):=by
  rw [Array.eraseIdxIfInBounds,dif_pos (by simpa using hi),Array.toList_eraseIdx,Array.toList_setIfInBounds]
  have hil:(pd.toList.take i).length=i:=by simp;omega
  conv=>lhs;rw [el]
  rw [List.set_append_right _ _ (by omega),List.eraseIdx_append_of_length_le (by omega),hil]
  simp
 have hps:((pd.setIfInBounds i (sa,na+nb,pw)).eraseIdxIfInBounds (i+1)).size+1=pd.size:=by
  rw [Array.eraseIdxIfInBounds,dif_pos (by simpa using hi)]
  simp
  omega
 have fin:∀ p' g' s',P s'->Arr n p'->Fm p p' sa (sa+na+nb)->UpF lt (ff p' sa) (na+nb)->Q true (SS κ it p' ((pd.setIfInBounds i (sa,na+nb,pw)).eraseIdxIfInBounds (i+1)) g') s':=fun p' g' s' hp' ar' fm u=>by
  refine h p' _ g' s' hp' ar' (fun j hj=>fm j (.inr (by omega))) ?_ hps
  rw [epd]
  refine Cov.app.mpr ⟨sa,c1.same fun j _ hj=>fm j (.inl hj),rfl,by omega,u,?_⟩
  rw [<- Nat.add_assoc]
  exact c3.same fun j hj _=>fm j (.inr hj)
 have rf:Fm p p sa (sa+na+nb):=fun _ _=>rfl
 rw [zul]
 refine kasC_bind (kasC_get ?_)
 have t1:pendingOf (SS κ it p pd g)=pd:=rfl
 have t2:arrOf (SS κ it p pd g)=p.map (kas_item it):=rfl
 simp only [t1,t2,e0,e1]
 refine kasC_bind (zuA ?_)
 generalize (pd.setIfInBounds i (sa,na+nb,pw)).eraseIdxIfInBounds (i+1)=pd' at fin epd hps ⊢
 refine kasC_bind (zb1 (by omega) ?_)
 have monoA:∀(key:Nat) (left:Bool) (a m:Nat),a+m<=n->UpF lt (ff p a) m->∀ i j,i<=j->j<m->byd lt left key (gp p (a+j))=true->byd lt left key (gp p (a+i))=true:=fun key left a m ham u i j hij hj hb=>by
  have q:=u i j hij hj
  have:=zgx hb
  unfold byd
  unfold ff at q
  cases left with
  | true =>
   rw [if_pos rfl]
   have z:=this.1 rfl
   cases e:lt (gp p (a+i)) key with
   | true=>rfl
   | false=>rw [o.tr _ _ _ e q] at z;cases z
  | false =>
   rw [if_neg (by decide),o.tr _ _ _ q (this.2 rfl)]
   rfl
 refine kasC_bind (zl2 (st:=setPending (SS κ it p pd g) _) hc rfl (ar.lim hn) (ar.lim hn _) (by omega) na0 (monoA _ _ _ _ (by omega) ua) hp fun k s1 hp1 hk b1 b2=>?_)
 dsimp only
 by_cases c0:na-k=0
 ·rw [if_pos (by simpa using c0)]
  refine kasC_pure (fin p g s1 hp1 ar rf (zq0 o ua ub fun _ _=>?_))
  exact(zgx (b1 (na-1) (by omega))).2 rfl
 rw [if_neg (by simpa using c0)]
 refine kasC_bind (zb1 (by omega) ?_)
 rw [show sa+k+(na-k)-1=sa+(na-1) by omega]
 refine kasC_bind (zl2 (st:=setPending (SS κ it p pd g) _) hc rfl (ar.lim hn) (ar.lim hn _) (by omega) (by omega) (monoA _ _ _ _ (by omega) ub) hp1 fun m s2 hp2 hm d1 d2=>?_)
 dsimp only
 by_cases c1':m=0
 ·rw [if_pos (by simpa using c1')]
  refine kasC_pure (fin p g s2 hp2 ar rf (zq0 o ua ub fun _ _=>?_))
  have:=(ziC (d2 0 (by omega) nb0)).1 rfl
  exact this
 rw [if_neg (by simpa using c1')]
 rw [<- Array.map_extract,<- Array.map_extract]
 have upA:UpF lt (ff p (sa+k)) (na-k):=fun i j hij hj=>by
  have:=ua (k+i) (k+j) (by omega) (by omega)
  unfold ff at this ⊢
  rw [Nat.add_assoc,Nat.add_assoc]
  exact this
 have upB:UpF lt (ff p (sa+na)) m:=fun i j hij hj=>ub i j hij (by omega)
 have gA:∀ i,i<na-k->gp (p.extract (sa+k) (sa+na)) i=gp p (sa+k+i):=fun i hi=>zn5 (by omega) (by omega)
 have gB:∀ i,i<m->gp (p.extract (sa+na) (sa+na+m)) i=gp p (sa+na+i):=fun i hi=>zn5 (by omega) (by omega)
 have szA:(p.extract (sa+k) (sa+na)).size=na-k:=by simp;omega
 have szB:(p.extract (sa+na) (sa+na+m)).size=m:=by simp;omega
 have lim:∀(a b i:Nat),gp (p.extract a b) i<n:=fun a b i=>by
  by_cases c:a+i<b/\b<=p.size
  ·rw [zn5 c.1 c.2];exact ar.lim hn _
  ·by_cases c2:i<(p.extract a b).size
   ·have e:gp (p.extract a b) i=gp p (a+i):=by
     simp only [Array.size_extract] at c2
     simp [gp,Array.getD,c2,show a+i<p.size by omega]
    rw [e];exact ar.lim hn _
   ·have e:gp (p.extract a b) i=0:=by simp only [gp,Array.getD];rw [dif_neg c2]
    rw [e];exact hn
 have mc:MC lt n (p.extract (sa+k) (sa+na)) (p.extract (sa+na) (sa+na+m)):=by
  refine⟨o,?_,zs2 o upB,lim _ _,lim _ _,fun i hi=>?_,fun i hi=>?_,by omega,by omega⟩
  ·have:=zs2 o upA
   rwa [show sa+k+(na-k)=sa+na by omega] at this
  ·rw [szA,gB i (by omega),gA _ (by omega),show sa+k+(na-k-1)=sa+(na-1) by omega]
   exact o.as _ _ ((zgx (d1 i (by omega))).1 rfl)
  ·rw [gB 0 (by omega),gA i (by omega),Nat.add_zero]
   have:=(ziC (b2 (k+i) (by omega) (by omega))).2 rfl
   rw [<- Nat.add_assoc] at this
   exact o.as _ _ this
 have fin2:∀(x:Array Keyed) (g':Nat) (s':Shared),P s'->FinA lt it (p.extract (sa+k) (sa+na)) (p.extract (sa+na) (sa+na+m)) x->kasC (model prog w) A E (do
   modify fun s=>setArr s (wrL (arrOf s) (sa+k) x.toList 0)
   return(failedOf (<- get)).isNone) Q (zaH (SS κ it p pd' g) g') s':=by
  rintro x g' s' hp' ⟨q,rfl,qp,qs⟩
  have hq:q.size=na-k+m:=by
   have:=qp.length_eq
   rw [List.length_append,Array.length_toList,Array.length_toList,Array.length_toList,szA,szB] at this
   exact this
  refine kasC_bind (kasC_modify (kasC_bind (kasC_get (kasC_pure ?_))))
  have ew:wrL (p.map (kas_item it)) (sa+k) (q.map (kas_item it)).toList 0=(wrL p (sa+k) q.toList 0).map (kas_item it):=by
   rw [Array.toList_map]
   exact zsZ _ _ _ _ (by rw [Array.length_toList];omega)
  show Q true (SortSt.mk' κ (wrL (p.map (kas_item it)) (sa+k) (q.map (kas_item it)).toList 0) pd' g' none) s'
  rw [ew]
  have gw:=zvs (p:=p) (q:=q) (off:=sa+k) (by omega)
  have mem:∀ t,t<q.size->∃ j,(sa+k<=j/\j<sa+na+m)/\gp q t=gp p j:=fun t ht=>by
   have m0:gp q t∈q.toList:=List.mem_of_getElem? (zn4 ht)
   rcases List.mem_append.mp (qp.mem_iff.mp m0) with m1|m1
   ·obtain⟨j,_,j2,j3⟩:=zc5 (p:=p.extract (sa+k) (sa+na)) (a:=0) (by rw [List.drop_zero];exact m1)
    rw [szA] at j2
    exact⟨sa+k+j,by omega,by rw [<- j3,gA j j2]⟩
   ·obtain⟨j,_,j2,j3⟩:=zc5 (p:=p.extract (sa+na) (sa+na+m)) (a:=0) (by rw [List.drop_zero];exact m1)
    rw [szB] at j2
    exact⟨sa+na+j,by omega,by rw [<- j3,gB j j2]⟩
  refine fin _ g' s' hp' ⟨by rw [zkZ];exact ar.sz,?_⟩ (fun j hj=>?_) fun i j hij hj=>?_
  ·refine Array.Perm.trans ?_ ar.pm
   rw [Array.perm_iff_toList_perm,zq6 _ _ _ (by rw [Array.length_toList];omega),Array.length_toList,hq]
   have e3:p.toList=p.toList.take (sa+k)++((p.extract (sa+k) (sa+na)).toList++(p.extract (sa+na) (sa+na+m)).toList)++p.toList.drop (sa+k+(na-k+m)):=by
    have f1:(p.extract (sa+k) (sa+na)).toList=(p.toList.drop (sa+k)).take (na-k):=by simp [List.extract,show sa+na-(sa+k)=na-k by omega]
    have f2:(p.extract (sa+na) (sa+na+m)).toList=((p.toList.drop (sa+k)).drop (na-k)).take m:=by simp [List.extract,show sa+k+(na-k)=sa+na by omega,show sa+na+m-(sa+na)=m by omega]
    rw [f1,f2,<- List.take_add,List.append_assoc,show p.toList.drop (sa+k+(na-k+m))=(p.toList.drop (sa+k)).drop (na-k+m) by rw [List.drop_drop],List.take_append_drop,List.take_append_drop]
   conv=>rhs;rw [e3]
   exact(qp.append_left _).append_right _
  ·rw [gw j,if_neg (by omega)]
  ·unfold ff
   rw [gw (sa+i),gw (sa+j)]
   have lowE:∀ x,x<k->∀ y,sa+k<=y->y<sa+na+nb->lt (gp p y) (gp p (sa+x))=false:=fun x hx y y1 y2=>by
    by_cases cy:y<sa+na
    ·have:=ua x (y-sa) (by omega) (by omega)
     unfold ff at this
     rwa [show sa+(y-sa)=y by omega] at this
    ·have a1:=(zgx (b1 x hx)).2 rfl
     have a2:=ub 0 (y-(sa+na)) (by omega) (by omega)
     unfold ff at a2
     rw [show sa+na+(y-(sa+na))=y by omega,Nat.add_zero] at a2
     exact o.tr _ _ _ a1 a2
   have topE:∀ y,sa+na+m<=y->y<sa+na+nb->∀ x,sa+k<=x->x<sa+na+m->lt (gp p y) (gp p x)=false:=fun y y1 y2 x x1 x2=>by
    by_cases cx:x<sa+na
    ·have a1:=ua (x-sa) (na-1) (by omega) (by omega)
     unfold ff at a1
     rw [show sa+(x-sa)=x by omega] at a1
     have a2:=(ziC (d2 (y-(sa+na)) (by omega) (by omega))).1 rfl
     rw [show sa+na+(y-(sa+na))=y by omega] at a2
     exact o.tr _ _ _ a1 a2
    ·have a2:=ub (x-(sa+na)) (y-(sa+na)) (by omega) (by omega)
     unfold ff at a2
     rwa [show sa+na+(y-(sa+na))=y by omega,show sa+na+(x-(sa+na))=x by omega] at a2
   by_cases ci:sa+k<=sa+i/\sa+i<sa+k+q.size
   ·rw [if_pos ci]
    by_cases cj:sa+k<=sa+j/\sa+j<sa+k+q.size
    ·rw [if_pos cj]
     exact zl1 o qs (by omega) (by omega)
    ·rw [if_neg cj]
     obtain⟨x,hx,ex⟩:=mem (sa+i-(sa+k)) (by omega)
     rw [ex]
     exact topE _ (by omega) (by omega) x hx.1 hx.2
   ·rw [if_neg ci]
    by_cases cj:sa+k<=sa+j/\sa+j<sa+k+q.size
    ·rw [if_pos cj]
     obtain⟨x,hx,ex⟩:=mem (sa+j-(sa+k)) (by omega)
     rw [ex]
     exact lowE i (by omega) x hx.1 (by omega)
    ·rw [if_neg cj]
     by_cases d:i<k
     ·by_cases d':j<k
      ·exact ua i j hij (by omega)
      ·exact lowE i d _ (by omega) (by omega)
     ·have a2:=ub (i-na) (j-na) (by omega) (by omega)
      unfold ff at a2
      rwa [show sa+na+(i-na)=sa+i by omega,show sa+na+(j-na)=sa+j by omega] at a2
 by_cases cc:na-k<=m
 ·rw [if_pos cc]
  exact kasC_bind (zvK (st:=setPending (SS κ it p pd g) _) hc mc rfl hp2 fun x g' s' hp' fa=>fin2 x g' s' hp' fa)
 ·rw [if_neg cc]
  exact kasC_bind (zvL (st:=setPending (SS κ it p pd g) _) hc mc rfl hp2 fun x g' s' hp' fa=>fin2 x g' s' hp' fa)
end
end
section
def sr0(size pw:Nat):StateT SortSt Sem (Option Unit×Unit):=forIn [0:size] ((none,()):Option Unit×Unit) fun _ _=>do
 let s <- get
 match (if(pendingOf s).size > 1 then(pendingOf s)[(pendingOf s).size-2]? else none) with
 | some (_,_,older) =>
  if older<=pw then pure (.done (none,()))
  else do
   let b <- mergeAt' ((pendingOf s).size-2)
   if(!b)=true then pure (.done (some (),())) else pure (.yield (none,()))
 | _=>pure (.done (none,()))
def sr1(size lo m:Nat):StateT SortSt Sem (ForInStep (Option Unit×Nat)):=do
 let s <- get
 match (pendingOf s).back? with
 | some (s1,n1,_)=>do
  let r <- sr0 size (power' size (2*s1+n1) (2*s1+n1+n1+m) size)
  match r.1 with
  | some r=>pure (.done (some r,lo))
  | none=>do
   modify fun s=>setPending s ((pendingOf s).modify ((pendingOf s).size-1) fun x=>(x.1,x.2.1,power' size (2*s1+n1) (2*s1+n1+n1+m) size))
   modify fun s=>setPending s ((pendingOf s).push (lo,m,0))
   pure (.yield (none,lo+m))
 | _=>do
  modify fun s=>setPending s ((pendingOf s).push (lo,m,0))
  pure (.yield (none,lo+m))
def sr2(size mr lo m:Nat):StateT SortSt Sem (ForInStep (Option Unit×Nat)) :=
 if m<mr then do
  rule "list.sort.binary-insertion"
  let b <- binarySort' lo (min (size-lo) mr) m
  if(!b)=true then pure (.done (some (),lo)) else sr1 size lo (min (size-lo) mr)
 else sr1 size lo m
def sr3(size:Nat):StateT SortSt Sem (Option Unit×Unit):=forIn [0:size] ((none,()):Option Unit×Unit) fun _ _=>do
 let s <- get
 if(pendingOf s).size<=1 then pure (.done (none,()))
 else do
  let b <- mergeAt' (if Option.any (fun x=>decide (x<(pendingOf s)[(pendingOf s).size-2+1]?.elim 0 fun x=>x.2.1)) (if(pendingOf s).size-2 > 0 then Option.map (fun x=>x.2.1) (pendingOf s)[(pendingOf s).size-2-1]? else none)=true then(pendingOf s).size-2-1 else(pendingOf s).size-2)
  if(!b)=true then pure (.done (some (),())) else pure (.yield (none,()))
theorem zrn:sortRuns'=(do
 let s <- get
 let r <- forIn [0:(arrOf s).size] ((none,0):Option Unit×Nat) fun _ c=>if c.2 ≥ (arrOf s).size then pure (.done (none,c.2)) else(do
  let x <- countRun' c.2 ((arrOf s).size-c.2)
  match x with
  | some m=>sr2 (arrOf s).size (minRun' (arrOf s).size (arrOf s).size 0) c.2 m
  | _=>pure (.done (some (),c.2)))
 match r.1 with
 | some r=>pure r
 | none=>do
  let r <- sr3 (arrOf s).size
  match r.1 with
  | some r=>pure r
  | none=>pure ()):=by
 rw [sortRuns'_eq]
 dsimp only
 apply congrArg;funext s
 refine congr ?_ ?_
 ·apply congrArg
  apply congrArg;funext _ c
  apply congrArg
  apply congrArg;funext x
  cases x with
  | none=>rfl
  | some m =>
   dsimp only
   unfold sr2
   refine congr (congrArg _ ?_) ?_
   ·apply congrArg;funext _
    apply congrArg;funext b
    apply congrArg
    unfold sr1
    apply congrArg;funext s2
    cases (pendingOf s2).back? with
    | none=>rfl
    | some x =>
     obtain⟨a,b,c⟩:=x
     dsimp only
     refine congr rfl ?_
     funext r
     cases r.1 <;> rfl
   ·unfold sr1
    apply congrArg;funext s2
    cases (pendingOf s2).back? with
    | none=>rfl
    | some x =>
     obtain⟨a,b,c⟩:=x
     dsimp only
     refine congr rfl ?_
     funext r
     cases r.1 <;> rfl
 ·funext r
  cases r.1 with
  | some r=>rfl
  | none =>
   dsimp only
   refine congr rfl ?_
   funext r
   cases r.1 <;> rfl
section
variable {lt:Nat->Nat->Bool}{n:Nat}{P:Shared->Prop}{prog:Program}{w:World}{A:Around}{E:Value->Shared->Prop}{κ:SortKind}{it:Array Keyed}{p p':Array Nat}{s:Shared}{pd:Array (Nat×Nat×Nat)}{g lo:Nat}
theorem zvJ(o:Ord lt)(hc:Asks lt n P (kas_cmp prog w A κ it))(hlo:lo<=n)(ar:Arr n p)(cov:Cov lt p pd.toList 0 lo){pw:Nat}{Q:Option Unit×Unit->SortSt->Shared->Prop}(hp:P s)
  (h:∀ p' pd' g' s',P s'->Arr n p'->(∀ j,lo<=j->gp p' j=gp p j)->Cov lt p' pd'.toList 0 lo->Q (none,()) (SS κ it p' pd' g') s'):kasC (model prog w) A E (sr0 n pw) Q (SS κ it p pd g) s:=by
 unfold sr0
 refine zb0 (fun i c st' s'=>∃ p' pd g,c=(none,())/\st'=SS κ it p' pd g/\P s'/\Arr n p'/\(∀ j,lo<=j->gp p' j=gp p j)/\Cov lt p' pd.toList 0 lo) ?_ ?_ ⟨p,pd,g,rfl,rfl,hp,ar,fun _ _=>rfl,cov⟩
 ·rintro i x c st' s' hi ⟨p',pd,g,rfl,rfl,hp',ar',fr,cov'⟩
  refine kasC_bind (kasC_get ?_)
  rw [show pendingOf (SS κ it p' pd g)=pd from rfl]
  by_cases c:pd.size > 1
  ·rw [if_pos c]
   have e:pd[pd.size-2]?=some pd[pd.size-2]:=by simp
   rw [e]
   dsimp only
   by_cases c2:pd[pd.size-2].2.2<=pw
   ·rw [if_pos c2]
    exact kasC_pure (h p' pd g s' hp' ar' fr cov')
   ·rw [if_neg c2]
    refine kasC_bind (ztp o hc ar' (by omega) cov' hlo hp' fun p2 pd2 g2 s2 hp2 ar2 fr2 cov2 _=>?_)
    exact kasC_pure ⟨p2,pd2,g2,rfl,rfl,hp2,ar2,fun j hj=>(fr2 j hj).trans (fr j hj),cov2⟩
  ·rw [if_neg c]
   exact kasC_pure (h p' pd g s' hp' ar' fr cov')
 ·rintro c st' s' ⟨p',pd,g,rfl,rfl,hp',ar',fr,cov'⟩
  exact h p' pd g s' hp' ar' fr cov'
theorem Cov.fst:∀{l m:List (Nat×Nat×Nat)} {a b:Nat},l.map (fun x=>(x.1,x.2.1))=m.map (fun x=>(x.1,x.2.1))->Cov lt p l a b->Cov lt p m a b
 | [],[],a,b,_,h=>h
 | [],_::_,_,_,e,_=>by simp at e
 | _::_,[],_,_,e,_=>by simp at e
 | (s,q,x)::l,(s',q',x')::m,a,b,e,h=>by
  simp only [List.map_cons,List.cons.injEq,Prod.mk.injEq] at e
  obtain⟨⟨rfl,rfl⟩,e⟩:=e
  obtain⟨h1,h2,h3,h4⟩:=h
  exact⟨h1,h2,h3,Cov.fst e h4⟩
theorem ztn(o:Ord lt)(hc:Asks lt n P (kas_cmp prog w A κ it))(ar:Arr n p)(cov:Cov lt p pd.toList 0 lo){m:Nat}(m1:1<=m)(m2:lo+m<=n)(u:UpF lt (ff p lo) m){Q:ForInStep (Option Unit×Nat)->SortSt->Shared->Prop}(hp:P s)
  (h:∀ p' pd' g' s',P s'->Arr n p'->Cov lt p' pd'.toList 0 (lo+m)->Q (.yield (none,lo+m)) (SS κ it p' pd' g') s'):kasC (model prog w) A E (sr1 n lo m) Q (SS κ it p pd g) s:=by
 unfold sr1
 refine kasC_bind (kasC_get ?_)
 rw [show pendingOf (SS κ it p pd g)=pd from rfl]
 have app:∀(p':Array Nat) (pd':Array (Nat×Nat×Nat)),(∀ j,lo<=j->gp p' j=gp p j)->Cov lt p' pd'.toList 0 lo->Cov lt p' (pd'.push (lo,m,0)).toList 0 (lo+m):=fun p' pd' fr c=>by
  rw [Array.toList_push]
  refine Cov.app.mpr ⟨lo,c,rfl,by omega,fun i j hij hj=>?_,rfl⟩
  unfold ff
  rw [fr _ (by omega),fr _ (by omega)]
  exact u i j hij hj
 cases e:pd.back? with
 | none=>exact kasC_bind (kasC_modify (kasC_pure (h p _ g s hp ar (app p pd (fun _ _=>rfl) cov))))
 | some x =>
  obtain⟨a1,a2,a3⟩:=x
  dsimp only
  refine kasC_bind (zvJ o hc (by omega) ar cov hp fun p' pd' g' s' hp' ar' fr' cov'=>?_)
  dsimp only
  refine kasC_bind (kasC_modify (kasC_bind (kasC_modify (kasC_pure (h p' _ g' s' hp' ar' (app p' _ fr' (cov'.fst ?_)))))))
  show _=List.map _ (pd'.modify (pd'.size-1) _).toList
  apply List.ext_getElem?
  intro i
  rw [List.getElem?_map,List.getElem?_map,Array.getElem?_toList,Array.getElem?_toList,Array.getElem?_modify]
  split
  ·cases pd'[i]? <;> rfl
  ·rfl
theorem zvI(o:Ord lt)(hc:Asks lt n P (kas_cmp prog w A κ it))(ar:Arr n p)(cov:Cov lt p pd.toList 0 lo){m mr:Nat}(m1:1<=m)(m2:lo+m<=n)(u:UpF lt (ff p lo) m){Q:ForInStep (Option Unit×Nat)->SortSt->Shared->Prop}(hp:P s)
  (h:∀ p' pd' g' s' m,P s'->Arr n p'->1<=m->lo+m<=n->Cov lt p' pd'.toList 0 (lo+m)->Q (.yield (none,lo+m)) (SS κ it p' pd' g') s'):kasC (model prog w) A E (sr2 n mr lo m) Q (SS κ it p pd g) s:=by
 unfold sr2
 by_cases c:m<mr
 ·rw [if_pos c]
  refine kasC_bind (kasC_lift (wpAny_rule ?_))
  refine kasC_bind (zvS o hc ar m1 (by omega) (by omega) u hp fun p' s' hp' ar' fm' u'=>?_)
  exact ztn o hc ar' (cov.same fun i _ hi=>fm' i (.inl hi)) (by omega) (by omega) u' hp' fun p2 pd2 g2 s2 hp2 ar2 c2=>h p2 pd2 g2 s2 _ hp2 ar2 (by omega) (by omega) c2
 ·rw [if_neg c]
  exact ztn o hc ar cov m1 m2 u hp fun p2 pd2 g2 s2 hp2 ar2 c2=>h p2 pd2 g2 s2 _ hp2 ar2 m1 m2 c2
theorem zvH(o:Ord lt)(hc:Asks lt n P (kas_cmp prog w A κ it))(ar:Arr n p)(cov:Cov lt p pd.toList 0 n){Q:Option Unit×Unit->SortSt->Shared->Prop}(hp:P s)
  (h:∀ p' pd' g' s',P s'->Arr n p'->Cov lt p' pd'.toList 0 n->pd'.size<=1->Q (none,()) (SS κ it p' pd' g') s'):kasC (model prog w) A E (sr3 n) Q (SS κ it p pd g) s:=by
 unfold sr3
 have hl:=(Cov.le cov).2
 simp only [Array.length_toList] at hl
 refine zb0 (fun i c st' s'=>∃ p' pd g,c=(none,())/\st'=SS κ it p' pd g/\P s'/\Arr n p'/\Cov lt p' pd.toList 0 n/\pd.size+i<=n) ?_ ?_ ⟨p,pd,g,rfl,rfl,hp,ar,cov,by omega⟩
 ·rintro i x c st' s' hi ⟨p',pd,g,rfl,rfl,hp',ar',cov',hs⟩
  refine kasC_bind (kasC_get ?_)
  rw [show pendingOf (SS κ it p' pd g)=pd from rfl]
  by_cases c:pd.size<=1
  ·rw [if_pos c]
   exact kasC_pure (h p' pd g s' hp' ar' cov' c)
  ·rw [if_neg c]
   refine kasC_bind (ztp o hc ar' ?_ cov' (Nat.le_refl _) hp' fun p2 pd2 g2 s2 hp2 ar2 fr2 cov2 hs2=>?_)
   ·have hh:∀ b:Bool,(if b=true then pd.size-2-1 else pd.size-2)+1<pd.size:=fun b=>by
     cases b
     ·rw [if_neg (by decide)];omega
     ·rw [if_pos rfl];omega
    exact hh _
   ·exact kasC_pure ⟨p2,pd2,g2,rfl,rfl,hp2,ar2,cov2,by omega⟩
 ·rintro c st' s' ⟨p',pd,g,rfl,rfl,hp',ar',cov',hs⟩
  exact h p' pd g s' hp' ar' cov' (by omega)
theorem zto(o:Ord lt)(hc:Asks lt n P (kas_cmp prog w A κ it))(h2:2<=n)(ar:Arr n p){Q:Unit->SortSt->Shared->Prop}(hp:P s)(h:∀ p' pd' g' s',P s'->Arr n p'->Up lt p' n->Q () (SS κ it p' pd' g') s') :
  kasC (model prog w) A E sortRuns' Q (SS κ it p #[] g) s:=by
 rw [zrn]
 refine kasC_bind (kasC_get ?_)
 have hsz:(arrOf (SS κ it p #[] g)).size=n:=by
  show(p.map (kas_item it)).size=n
  rw [Array.size_map];exact ar.sz
 rw [hsz]
 refine kasC_bind (znS (zb0 (Q:=fun c st' s'=>c=(none,n)/\∃ p pd g,st'=SS κ it p pd g/\P s'/\Arr n p/\Cov lt p pd.toList 0 n) (fun i c st' s'=>∃ lo p pd g,c=(none,lo)/\st'=SS κ it p pd g/\P s'/\Arr n p/\Cov lt p pd.toList 0 lo/\i<=lo/\lo<=n) ?_ ?_ ⟨0,p,#[],g,rfl,rfl,hp,ar,rfl,Nat.le_refl _,Nat.zero_le _⟩) ?_)
 ·rintro i x c st' s' hi ⟨lo,p,pd,g,rfl,rfl,hp',ar,cov,h1,h2⟩
  dsimp only
  by_cases c:lo ≥ n
  ·rw [if_pos c]
   have:lo=n:=by omega
   subst this
   exact kasC_pure ⟨rfl,p,pd,g,rfl,hp',ar,cov⟩
  ·rw [if_neg c]
   refine kasC_bind (zru o hc ar (by omega) (by omega) hp' fun m p1 s1 hp1 ar1 fm1 m1 m2 u1=>?_)
   exact zvI o hc ar1 (cov.same fun i _ hi=>fm1 i (.inl hi)) m1 (by omega) u1 hp1 fun p2 pd2 g2 s2 m hp2 ar2 m1 m2 c2=>⟨lo+m,p2,pd2,g2,rfl,rfl,hp2,ar2,c2,by omega,m2⟩
 ·rintro c st' s' ⟨lo,p,pd,g,rfl,rfl,hp',ar,cov,h1,h2⟩
  have:lo=n:=by omega
  subst this
  exact⟨rfl,p,pd,g,rfl,hp',ar,cov⟩
 ·rintro c st' s' ⟨rfl,p,pd,g,rfl,hp',ar',cov'⟩
  dsimp only
  refine kasC_bind (zvH o hc ar' cov' hp' fun p2 pd2 g2 s2 hp2 ar2 cov2 hs2=>?_)
  refine kasC_pure (h p2 pd2 g2 s2 hp2 ar2 ?_)
  match hpd:pd2.toList,cov2 with
  | [],c=>cases c;omega
  | [(a,m,q)],⟨e1,_,u,e2⟩ =>
   cases e1
   have e2:0+m=n:=e2
   have:m=n:=by omega
   subst this
   intro i j hij hj
   have:=u i j hij hj
   unfold ff at this
   rwa [Nat.zero_add,Nat.zero_add] at this
  | _::_::_,_ =>
   have:=congrArg List.length hpd
   simp at this
   omega
end
end
section
section
variable {lt:Nat->Nat->Bool}{P:Shared->Prop}{prog:Program}{w:World}{A:Around}{E:Value->Shared->Prop}{κ:SortKind}{s:Shared}{ks vs:List Value}
theorem zpV{Q:SortSt->Shared->Prop}(o:Ord lt)(hc:Asks lt vs.length P (kas_ask prog w A κ ks))(hl:ks.length=vs.length)(h2:2<=vs.length)(hp:P s)
  (h:∀ p st' s',P s'->Arr vs.length p->Up lt p vs.length->arrOf st'=p.map (kas_item (ks.toArray.zip vs.toArray))->failedOf st'=none->Q st' s') :
  wpAny (model prog w) A ((sortRuns').run (SortSt.mk' κ (ks.toArray.zip vs.toArray) #[] 7 none)) (fun r s'=>Q r.2 s') E s:=by
 rw [kat_ask_eq hl] at hc
 have est:SortSt.mk' κ (ks.toArray.zip vs.toArray) #[] 7 none=SS κ (ks.toArray.zip vs.toArray) (List.toArray (List.range vs.length)) #[] 7:=by
  have e:=kas_range (ks.toArray.zip vs.toArray)
  rw [show(ks.toArray.zip vs.toArray).size=vs.length by simp [hl]] at e
  show SortSt.mk' κ (ks.toArray.zip vs.toArray) #[] 7 none=SortSt.mk' κ ((List.toArray (List.range vs.length)).map (kas_item (ks.toArray.zip vs.toArray))) #[] 7 none
  rw [e]
 rw [est]
 exact zto (Q:=fun _ st' s'=>Q st' s') o hc h2 ⟨by simp,Array.Perm.refl _⟩ hp fun p pd g s' hp' ar up=>h p _ s' hp' ar up rfl rfl
end
end
section
section
variable {X:Cx}{pins:List (Addr×Obj)}{σ:L2.St}{H:Hp}{s:Shared}{h':Heap}
theorem Inv.adopt{a:Addr}{o:HO}{t':Nat}(I:Inv X pins σ H s)(k:∀ b u,b≠a->s.heap.get? b=some u->h'.get? b=some u)(hf:zg7 X pins H a)(new:zbc X.prog X.w (upd H a o) h' a o) :
  Inv X pins σ (upd H a o) { s with heap:=h',toks:=t' }:=by
 obtain⟨hn,hL,hfs,h1,h2,h3⟩:=hf
 have ne:∀ b u,H b=some u->b≠a:=fun b u e z=>by rw [z,hn] at e;cases e
 refine I.step (g':=s.gens) (d':=s.drawn) (ch:=[a]) (fun b hb=>?_) (fun b o _ _ hc e _=>k b o (fun z=>hc (by simp [z])) e) (fun b o _ _ hc e _=>⟨o.slots,k b o (fun z=>hc (by simp [z])) e⟩) (fun b o hc _ n=>?_)
  (fun b o hc e=>⟨o,k b o (fun z=>hc (by simp [z])) e⟩) (fun b xs e=>?_) (fun b o u e=>?_) (fun b ps e=>⟨#[],?_⟩) (fun m hm=>?_) (fun b u e=>?_) I.bare
 ·have e:b=a:=by simpa using hb
  subst e
  exact⟨h1,hL,h2,h3⟩
 ·rw [zas fun z=>hc (by simp [z])];exact n
 ·rw [zas (ne b _ e)];exact e
 ·rw [zas (ne b _ e)];exact e
 ·rw [zas (ne b _ e),e];simp
 ·obtain⟨o,es,ep,ho,r⟩:=hm
  exact⟨o,es,ep,k _ o (Ne.symm hL) ho,r⟩
 ·by_cases c:b=a
  ·subst c
   rw [zan] at e
   cases e
   exact new
  ·rw [zas c] at e
   refine(I.hok b u e).stay (fun d v hc q=>k d v ?_ q) (fun b' q=>by rw [zas (ne b' _ q)];exact q) fun b' xs q=>q.upd (fun _ r=>ne b' _ r) fun _ _ r=>ne b' _ r
   rcases hc with z|z
   ·rw [z];exact ne b u e
   ·exact ne d _ z
variable {f kS a:Addr}{oa:Obj}{H0:Hp}{E:Value->Shared->Prop}{Q:Shared->Prop}
def KCall(X:Cx)(σ:L2.St)(H0:Hp)(f:Addr)(x:V)(kk:WK):Prop:=∀(u:Value) (pins':List (Addr×Obj)) (H':Hp) (s':Shared),RelV x u->zaP H0 H'->Inv X pins' σ H' s' ->
 wpAny (model X.prog X.w) X.A (call (.ref f) [u]) (EP X pins' σ fun k H''=>zaP H' H''/\zdV H'' kk k) (fun _ _=>False) s'
def zhS(X:Cx)(σ:L2.St)(H0:Hp)(f:Addr):List V->List WK->Prop
 | [],kd=>kd=[]
 | x::r,kd=>∃ k t,kd=k::t/\KCall X σ H0 f x k/\zhS X σ H0 f r t
theorem zhb{H1 H2 H3:Hp}(a:zaP H1 H2)(b:zaP H2 H3):zaP H1 H3:=fun c o e=>b c o (a c o e)
theorem zlw{body:Value->PUnit->Sem (ForInStep PUnit)}
  (hb:∀(x:Value) (s:Shared) (C:Shared->Prop),wpAny (model X.prog X.w) X.A (call (.ref f) [x]) (fun k s'=>wpAny (model X.prog X.w) X.A (Builtin.List.listUpdate (.ref kS) (·.push k)) (fun _ s''=>C s'') E s') (fun _ _=>False) s ->
   wpAny (model X.prog X.w) X.A (body x ⟨⟩) (fun r s''=>r=.yield ⟨⟩/\C s'') E s) :
  ∀(us:List Value) (xs:List V) (kd:List WK) (done:List Value) (kvs:List V) (dk:List WK) (e:Nat) (H:Hp) (s:Shared),Vals xs us->done.length+us.length<2000->Inv X (pins++[(a,oa)]) σ H s->zaP H0 H ->
   zg7 X (pins++[(a,oa)]) H kS->s.heap.get? kS=some (seqObj "list" done.toArray e)->Vals kvs done->zhR H dk kvs->zhS X σ H0 f xs kd ->
   (∀ H' s' done' kvs' e',Inv X (pins++[(a,oa)]) σ H' s'->zaP H0 H'->zg7 X (pins++[(a,oa)]) H' kS->s'.heap.get? kS=some (seqObj "list" (List.toArray done') e')->Vals kvs' done'->zhR H' (dk++kd) kvs'->Q s') ->
   wpAny (model X.prog X.w) X.A (forIn us PUnit.unit body) (fun _ s'=>Q s') E s
 | [],xs,kd,done,kvs,dk,e,H,s,rv,hl,I,sm,fp,hk,rk,ks,kc,fin=>by
  rw [List.forIn_nil]
  cases rv
  have:kd=[]:=kc
  subst this
  refine wpAny_pure (fin H s done kvs e I sm fp hk rk ?_)
  rw [List.append_nil];exact ks
 | u::us,xs,kd,done,kvs,dk,e,H,s,rv,hl,I,sm,fp,hk,rk,ks,kc,fin=>by
  rw [List.forIn_cons]
  cases rv with
  | @cons x _ xr _ rx rv =>
   obtain⟨k,t,rfl,c1,kc⟩:=kc
   rw [List.length_cons] at hl
   have I2:Inv X ((pins++[(a,oa)])++[(kS,seqObj "list" done.toArray e)]) σ H s:=I.zh8 fun p hp=>by
    rcases List.mem_append.mp hp with z|z
    ·exact I.pin p (List.mem_append_right _ z)
    ·have e:p=(kS,seqObj "list" done.toArray e):=by simpa using z
     subst e
     exact⟨hk,fp.1,fp.2.1,fp.2.2.1,fun v z=>nomatch z⟩
   refine wpAny_bind (wpAny_mono (hb u s (fun s2=>∃ H2 k2 v2 e2,Inv X (pins++[(a,oa)]) σ H2 s2/\zaP H H2/\zg7 X (pins++[(a,oa)]) H2 kS/\s2.heap.get? kS=some (seqObj "list" (done++[k2]).toArray e2)/\RelV v2 k2/\zdV H2 k v2) ?_) (fun r s2 ⟨er,H2,k2,v2,e2,I5,sm2,fp2,hk2,rk2,ka⟩=>?_) fun _ _ z=>z)
   ·refine wpAny_mono (c1 u _ H s rx sm I2) (fun k2 s3 ⟨v2,H3,I3,r3,sm3,ka⟩=>?_) fun _ _ z=>z
    obtain⟨p1,p2,_⟩:=I3.pin (kS,seqObj "list" done.toArray e) (List.mem_append_right _ (List.mem_append_right _ (by simp)))
    have hlen:done.toArray.size<2000:=by rw [List.size_toArray];omega
    have ea:(done.toArray).push k2=(done++[k2]).toArray:=by simp
    refine listUpdate_at p1 rfl ?_ (by rw [sizeLine_eq];omega) (by rw [Array.size_push,sizeLine_eq];omega)
    have I4:=I3.zcn
    refine⟨H3,k2,v2,(if((done.toArray).push k2).size==done.toArray.size then e else e+1),I4.turned (t':=s3.toks) (fun b o hb e=>((Heap.SameBut.update ..).2 b hb).trans e) p2 fp.2.1 fp.2.2.2.1 fp.2.2.2.2.1 fp.2.2.2.2.2,sm3,⟨p2,fp.2⟩,?_,r3,ka⟩
    rw [<- ea]
    exact get?_update_seq p1 (·.push k2)
   ·subst er
    show wpAny _ _ (forIn us PUnit.unit body) _ _ s2
    refine zlw hb us xr t (done++[k2]) (kvs++[v2]) (dk++[k]) e2 H2 s2 rv (by rw [List.length_append,List.length_singleton];omega) I5 (zhb sm sm2) fp2 hk2 (rk.append (.cons rk2 .nil)) (zhR.snoc ka (ks.same sm2)) kc fun H' s' d' kv' e' a1 a2 a3 a4 a5 a6=>fin H' s' d' kv' e' a1 a2 a3 a4 a5 ?_
    rw [List.append_assoc] at a6
    exact a6
theorem zk1:∀{xs:List V} {us:List Value} (p:List Nat),Vals xs us->(∀ i∈p,i<us.length)->Vals (p.map fun i=>xs.getD i .non) (p.map fun i=>us.getD i Value.none)
 | xs,us,[],_,_=>.nil
 | xs,us,i::p,r,h=>by
  refine .cons ?_ (zk1 p r fun j hj=>h j (List.mem_cons_of_mem _ hj))
  have hi:=h i (List.mem_cons_self ..)
  have hl:=r.length
  obtain⟨w,ew,rw'⟩:=r.get (i:=i) (x:=xs[i]) (List.getElem?_eq_getElem (by omega))
  have e1:xs.getD i .non=xs[i]:=by simp [List.getD_eq_getElem?_getD,List.getElem?_eq_getElem (show i<xs.length by omega)]
  have e2:us.getD i Value.none=w:=by rw [List.getD_eq_getElem?_getD,ew];rfl
  show RelV (xs.getD i .non) (us.getD i Value.none)
  rw [e1,e2]
  exact rw'
theorem zu4(n:Nat):Arr n (List.toArray (List.range n)):=⟨by simp,Array.Perm.refl _⟩
theorem zmM{us:List Value}{xs:List V}{kd:List WK}{n0:Nat}{P:PySem.Fin->Shared->Prop}(hu:X.A.units+1<cLine)(I:Inv X pins σ H s)(ho:s.heap.get? a=some (seqObj "list" us.toArray n0)) (hf:zg7 X pins H a) (rv:Vals xs us) (hl:us.length<2000)
  (hc:zhS X σ H f xs kd)
  (hQ:∀(p:Array Nat) (H':Hp) (s':Shared),Arr us.length p->Up (ltP kd) p us.length->zaP H H'->H' a=none->Inv X pins σ (upd H' a (.lst (p.toList.map fun i=>xs.getD i .non))) s'->P (.done (.ret .none)) s') :
  wpAny (model X.prog X.w) X.A (ksk_tree a (.ref f) false) P E s:=by
 have hk:∀{xs:List V} {kd:List WK},zhS X σ H f xs kd->kd.length=xs.length:=by
  intro xs
  induction xs with
  | nil=>intro kd h;have:kd=[]:=h;subst this;rfl
  | cons x r ih=>intro kd h;obtain⟨k,t,rfl,_,h2⟩:=h;simp [ih h2]
 have hkl:=hk hc
 have hxl:=rv.length
 have s1:=Heap.SameBut.update s.heap a (Obj.mapSeq fun _=>(#[]:Array Value))
 obtain⟨e1,ho1⟩:∃ e1,(s.heap.update a (Obj.mapSeq fun _=>(#[]:Array Value))).get? a=some (seqObj "list" #[] e1):=⟨_,get?_update_seq ho fun _=>#[]⟩
 unfold ksk_tree
 refine wpAny_bind (listItems_at ho rfl ?_)
 refine wpAny_bind (listUpdate_at ho rfl ?_ (by rw [List.size_toArray,sizeLine_eq];omega) (Nat.zero_le _))
 refine wpAny_bind (seqEpoch_at ho1 rfl ?_)
 refine wpAny_bind (wpAny_newTuple ?_ (by show us.length<=_;rw [sizeLine_eq];omega))
 refine wpAny_bind (wpAny_newList ?_ (Nat.zero_le _))
 refine wpAny_holding ?_
 have I1:Inv X pins σ H { s with heap:=s.heap.update a (Obj.mapSeq fun _=>(#[]:Array Value)) }:=I.turned (t':=s.toks) (fun b o hb e=>(s1.2 b hb).trans e) hf.1 hf.2.1 hf.2.2.2.1 hf.2.2.2.2.1 hf.2.2.2.2.2
 have k2:∀ b u,(s.heap.update a (Obj.mapSeq fun _=>(#[]:Array Value))).get? b=some u->(((s.heap.update a (Obj.mapSeq fun _=>(#[]:Array Value))).push (seqObj "tuple" us.toArray 0)).push (seqObj "list" #[] 0)).get? b=some u:=fun b u e=>Heap.get?_push_of_some _ (Heap.get?_push_of_some _ e)
 have I2:Inv X pins σ H { s with heap:=((s.heap.update a (Obj.mapSeq fun _=>(#[]:Array Value))).push (seqObj "tuple" us.toArray 0)).push (seqObj "list" #[] 0) }:=I1.kept (t':=s.toks) k2
 have ho2:=k2 a _ ho1
 have hkS:(((s.heap.update a (Obj.mapSeq fun _=>(#[]:Array Value))).push (seqObj "tuple" us.toArray 0)).push (seqObj "list" #[] 0)).get? ((s.heap.update a (Obj.mapSeq fun _=>(#[]:Array Value))).push (seqObj "tuple" us.toArray 0)).objs.size=some (seqObj "list" ([]:List Value).toArray 0):=Heap.get?_push_size _ rfl
 have hge:s.heap.objs.size<=((s.heap.update a (Obj.mapSeq fun _=>(#[]:Array Value))).push (seqObj "tuple" us.toArray 0)).objs.size:=by rw [size_push',Heap.size_update];omega
 have I3:Inv X (pins++[(a,seqObj "list" #[] e1)]) σ H { s with heap:=((s.heap.update a (Obj.mapSeq fun _=>(#[]:Array Value))).push (seqObj "tuple" us.toArray 0)).push (seqObj "list" #[] 0) }:=I2.zh8 fun p hp=>by
  rcases List.mem_append.mp hp with z|z
  ·exact I2.pin p (List.mem_append_right _ z)
  ·have e:p=(a,seqObj "list" #[] e1):=by simpa using z
   subst e
   exact⟨ho2,hf.1,hf.2.1,hf.2.2.1,fun v z=>nomatch z⟩
 have fkS:zg7 X (pins++[(a,seqObj "list" #[] e1)]) H ((s.heap.update a (Obj.mapSeq fun _=>(#[]:Array Value))).push (seqObj "tuple" us.toArray 0)).objs.size:=by
  obtain⟨f0,f1,f2,f3,f4,f5⟩:=I.zoX hge (I.hok.fresh hge)
  refine⟨f0,f1,f2,f3,f4,fun p hp=>?_⟩
  rw [<- List.append_assoc] at hp
  rcases List.mem_append.mp hp with z|z
  ·exact f5 p z
  ·have e:p=(a,seqObj "list" #[] e1):=by simpa using z
   subst e
   exact Nat.ne_of_lt (Nat.lt_of_lt_of_le (Heap.lt_size ho) hge)
 generalize hks:((s.heap.update a (Obj.mapSeq fun _=>(#[]:Array Value))).push (seqObj "tuple" us.toArray 0)).objs.size=kS at hkS fkS ⊢
 have nka:kS≠a:=fun z=>fkS.2.2.2.2.2 (a,seqObj "list" #[] e1) (List.mem_append_right _ (List.mem_append_right _ (by simp))) z.symm
 clear hge hks k2 I2 I1
 unfold ksk_rest
 refine wpAny_bind (wpAny_rule ?_)
 first
  | rw [List.forIn_toArray]
  | (rw [<- Array.forIn_toList];simp only [List.toList_toArray])
  | rw [<- Array.forIn_toList]
 refine wpAny_bind (wpAny_mono (zlw (E:=E) (H0:=H) (a:=a) (oa:=seqObj "list" #[] e1) (kS:=kS) (f:=f) (Q:=fun s'=>∃ H' done kvs e',Inv X (pins++[(a,seqObj "list" #[] e1)]) σ H' s'/\zaP H H'/\zg7 X (pins++[(a,seqObj "list" #[] e1)]) H' kS/\s'.heap.get? kS=some (seqObj "list" (List.toArray done) e')/\Vals kvs done/\zhR H' kd kvs)
  (fun x s' C hx=>?_) us xs kd [] [] [] 0 H _ rv (by simpa using hl) I3 (zaP.refl _) fkS hkS .nil rfl hc fun H' s' d' kv' e' a1 a2 a3 a4 a5 a6=>⟨H',d',kv',e',a1,a2,a3,a4,a5,a6⟩) (fun _ s' hd=>?_) fun _ _ z=>z)
 ·refine wpAny_bind (wpAny_attempt (wpAny_mono hx (fun k s'' hk=>?_) fun _ _ hF=>hF.elim))
  try dsimp only
  exact wpAny_bind (wpAny_mono hk (fun _ s3 h3=>wpAny_pure ⟨rfl,h3⟩) fun _ _ z=>z)
 ·obtain⟨H',done,kvs,e',I4,sm,fk,hk4,rk,ks⟩:=hd
  try dsimp only
  refine wpAny_bind (listItems_at hk4 rfl ?_)
  have hdl:done.length=us.length:=by rw [<- rk.length,ks.len,hkl,hxl]
  obtain⟨pa1,pa2,_⟩:=I4.pin (a,seqObj "list" #[] e1) (List.mem_append_right _ (List.mem_append_right _ (by simp)))
  have tail:∀(st:SortSt) (p:Array Nat),Arr us.length p->Up (ltP kd) p us.length->(arrOf st).map (·.2)=List.toArray (p.toList.map fun i=>us.getD i Value.none)->failedOf st=none ->
    wpAny (model X.prog X.w) X.A (ksk_tail a false e1 (.ref kS) st) P E s':=fun st p ar up har hfl=>by
   have hps:p.size=us.length:=ar.sz
   have hout:(List.toArray (p.toList.map fun i=>us.getD i Value.none)).size=us.length:=by rw [List.size_toArray,List.length_map,Array.length_toList,hps]
   have t1:=Heap.SameBut.update s'.heap kS (Obj.mapSeq fun _=>(#[]:Array Value))
   have na1:(s'.heap.update kS (Obj.mapSeq fun _=>(#[]:Array Value))).get? a=some (seqObj "list" #[] e1):=(t1.2 a nka.symm).trans pa1
   have t2:=Heap.SameBut.update (s'.heap.update kS (Obj.mapSeq fun _=>(#[]:Array Value))) a (Obj.mapSeq fun _=>List.toArray (p.toList.map fun i=>us.getD i Value.none))
   obtain⟨c2,hc2⟩:∃ c2,((s'.heap.update kS (Obj.mapSeq fun _=>(#[]:Array Value))).update a (Obj.mapSeq fun _=>List.toArray (p.toList.map fun i=>us.getD i Value.none))).get? a=some (seqObj "list" (List.toArray (p.toList.map fun i=>us.getD i Value.none)) c2) :=
    ⟨_,get?_update_seq na1 fun _=>List.toArray (p.toList.map fun i=>us.getD i Value.none)⟩
   unfold ksk_tail
   try dsimp only
   rw [har]
   refine wpAny_bind (listUpdate_at hk4 rfl ?_ (by rw [List.size_toArray,sizeLine_eq];omega) (Nat.zero_le _))
   refine wpAny_bind (wpAny_letGo ?_)
   refine wpAny_bind (seqEpoch_at na1 rfl ?_)
   refine wpAny_bind (listUpdate_at na1 rfl ?_ (Nat.zero_le _) (by simp only [Bool.false_eq_true,if_false];rw [hout,sizeLine_eq];omega))
   rw [hfl]
   simp only [bne_self_eq_false,Bool.false_eq_true,if_false]
   have I5:=I4.turned (t':=s'.toks) (fun b o hb e=>(t1.2 b hb).trans e) fk.1 fk.2.1 fk.2.2.2.1 fk.2.2.2.2.1 fk.2.2.2.2.2
   have I6:Inv X pins σ H' { s' with heap:=s'.heap.update kS (Obj.mapSeq fun _=>(#[]:Array Value)) }:=I5.zcn
   refine wpAny_pure (hQ p H' _ ar up sm pa2 (I6.adopt (t':=s'.toks) (fun b u hb e=>(t2.2 b hb).trans e) ⟨pa2,hf.2⟩ ?_))
   have mem:∀ i∈p.toList,i<us.length:=fun i hi=>by
    have:=(Array.perm_iff_toList_perm.mp ar.pm).mem_iff.mp hi
    simpa using this
   exact⟨by rw [List.length_map,Array.length_toList,hps,sizeLine_eq];omega,p.toList.map fun i=>us.getD i Value.none,c2,zk1 p.toList rv mem,hc2⟩
  unfold ksk_end
  try dsimp only
  simp only [Bool.false_eq_true,if_false]
  by_cases h2:us.toArray.size<2
  ·rw [if_pos h2,if_pos h2]
   rw [List.size_toArray] at h2
   refine wpAny_bind (wpAny_pure ?_)
   rw [StateT.run_pure]
   refine wpAny_bind (wpAny_pure ?_)
   try dsimp only
   refine tail _ (List.toArray (List.range us.length)) (zu4 _) (fun i j hij hj=>?_) ?_ rfl
   ·have:i=j:=by omega
    subst this
    exact(zwU kd).refl _
   ·show((done.toArray.zip us.toArray).map (·.2))=_
    apply Array.toList_inj.mp
    rw [Array.toList_map,ksk_zip]
    simp only [List.toList_toArray]
    rw [List.map_snd_zip (by omega)]
    apply List.ext_getElem (by simp)
    intro i h3 h4
    simp [List.getD_eq_getElem?_getD,List.getElem?_eq_getElem h3]
  ·rw [if_neg h2,if_neg h2]
   rw [List.size_toArray] at h2
   have tups:∀{ks:List WK} {kv:List V} {ds:List Value},zhR H' ks kv->Vals kv ds->∃ fs:List Value,KatTups s'.heap ds fs/\fs.length=ds.length/\∀ v∈fs,∃ i t,v=Value.int i t:=by
    intro ks
    induction ks with
    | nil=>intro kv ds h r;have:kv=[]:=h;subst this;cases r;exact⟨[],.nil,rfl,fun v hv=>by simp at hv⟩
    | cons k r0 ih =>
     intro kv ds h r
     obtain⟨v,t,rfl,h1,h2⟩:=h
     cases r with
     | cons r1 r2 =>
      obtain⟨fs,t1,t2,t3⟩:=ih h2 r2
      obtain⟨b,o,n0,c,tk,rfl,g1,g2,g3,_⟩:=zgd I4 h1 r1
      refine⟨.int k.1 tk::fs,.cons g1 g2 g3 rfl t1,by simp [t2],fun v hv=>?_⟩
      rcases List.mem_cons.mp hv with rfl|hv
      ·exact⟨_,_,rfl⟩
      ·exact t3 v hv
   obtain⟨fs,kt,lfs,hfs⟩:=tups ks rk
   refine wpAny_bind (kat_kind (T:=.type "int") kt (by omega) (fun v hv=>by obtain⟨i,t,rfl⟩:=hfs v hv;exact Looks.of_pure rfl) (by decide) ?_)
   rw [show((Value.type "int" != Value.type "tuple"):Bool)=true from by decide]
   refine wpAny_bind (wpAny_mono (zpV (E:=E) (vs:=us) (ks:=done) (κ:=tuples' true) (P:=fun s2=>s2=s') (Q:=fun st' s2=>s2=s'/\∃ p:Array Nat,Arr us.length p/\Up (ltP kd) p us.length/\arrOf st'=p.map (kas_item (done.toArray.zip us.toArray))/\failedOf st'=none) (zwU kd) (fun i j C s2 hi hj es hC=>?_) hdl (by omega) rfl fun p st' s2 es ar up a1 a2=>⟨es,p,ar,up,a1,a2⟩) ?_ fun _ _ z=>z)
   ·subst es
    have hget:∀ i,i<us.length->∃ v u,kvs[i]?=some v/\RelV v u/\done.getD i Value.none=u:=fun i hi=>by
     have hi':i<kvs.length:=by rw [rk.length];omega
     obtain⟨u,eu,ru⟩:=rk.get (List.getElem?_eq_getElem hi')
     exact⟨_,u,List.getElem?_eq_getElem hi',ru,by rw [List.getD_eq_getElem?_getD,eu];rfl⟩
    obtain⟨v,u,g1,g2,g3⟩:=hget i hi
    obtain⟨v',u',g1',g2',g3'⟩:=hget j hj
    show wpAny _ _ (keyLt' (tuples' true) (done.getD i Value.none) (done.getD j Value.none)) _ _ _
    rw [g3,g3']
    exact zuv hu I4 (ks.get g1) (ks.get g1') g2 g2' (hC _ rfl)
   ·rintro⟨⟨⟩,st'⟩ s2 ⟨es,p,ar,up,har,hfl⟩
    have es':s2=s':=es
    subst es'
    try dsimp only
    exact tail st' p ar up (kat_snds hdl har) hfl
end
end
section
def KTs(H:Hp):List (List Key×V)->List V->Prop
 | [],xs=>xs=[]
 | kv::r,xs=>∃ b t,xs=.ref b::t/\TAt H b (kv.1.map kV)/\KTs H r t
def zoS(H:Hp)(d:Addr)(xs:List V):Prop:=(∃ kvs,Rd H d (.dT kvs)/\KTs H kvs xs)\/∃ kvs:List (Key×V),Rd H d (.dK kvs)/\xs=kvs.map fun kv=>kV kv.1
section
variable {X:Cx}{pins:List (Addr×Obj)}{σ:L2.St}{H:Hp}{s:Shared}{d f:Addr}
theorem zqE:∀{kvs:List (List Key×V)} {ys:List (List Key×Addr×Value)},KT H kvs ys->KTs H kvs (ys.map fun y=>V.ref y.2.1)
 | [],_,.nil=>rfl
 | kv::r,_,.cons h t=>⟨_,_,rfl,h.2.1,zqE t⟩
theorem zqe{A:Around}{E:Value->Shared->Prop}{Q:List Value->Shared->Prop}(hh:A.handled=none)(I:Inv X pins σ H s)(rd:IsD H d)(hn:∀ xs,zoS H d xs->xs.length<2000)
  (hQ:∀ xs us s',zoS H d xs->Vals xs us->Inv X pins σ H s'->Q us s'):wpAny (model X.prog X.w) A (collect (.ref d)) Q E s:=by
 have fin:∀(s':Shared),(∀ b o,s.heap.get? b=some o->s'.heap.get? b=some o)->s'.gens=s.gens->s'.drawn=s.drawn->s'.os=s.os->Inv X pins σ H s':=fun s' k g dr os=>by
  obtain⟨h,g',dr',tk,os'⟩:=s'
  simp only at g dr os
  subst g;subst dr;subst os
  exact I.kept (t':=tk) k
 rcases rd with⟨kvs,rd⟩|⟨kvs,rd⟩
 ·obtain⟨z,sy,vs,rel,dd⟩:=zjz I.hok rd
  obtain⟨ep,da⟩:=dd.dictAt
  have lk:=hn _ (.inr ⟨kvs,rd,rfl⟩)
  rw [List.length_map] at lk
  have lv:kvs.length=vs.length:=rel.length
  refine zjC hh sy da (by omega) fun s' acc hk hg hd ho hsz hacc=>hQ (kvs.map fun kv=>kV kv.1) _ s' (.inr ⟨kvs,rd,rfl⟩) ?_ (fin s' hk hg hd ho)
  have la:acc.toList.length=vs.length:=by rw [Array.length_toList];exact hacc.1
  refine zj8 (by rw [List.length_map];omega) fun j x v ex ev=>?_
  rw [Array.getElem?_toList] at ev
  obtain⟨k,y,e1,e2⟩:=hacc.2 j v ev
  have lj:j<vs.length:=Nat.lt_of_not_le fun c=>by rw [List.getElem?_eq_none c] at e1;cases e1
  have lj':j<kvs.length:=lv▸lj
  obtain⟨⟨k',y'⟩,e3,e4,_⟩:=zdm rel (List.getElem?_eq_getElem lj')
  rw [e1] at e3
  cases e3
  rw [List.getElem?_map,List.getElem?_eq_getElem lj'] at ex
  cases ex
  show RelV (kV kvs[j].1) v
  rw [show kvs[j].1=k from e4]
  exact zlc e2
 ·obtain⟨z,sy,ys,kt,o,es,ep,e',r1,r2,r3,r4⟩:=zjw I.hok rd
  have ks:=zqE kt
  have lk:=hn _ (.inl ⟨kvs,rd,ks⟩)
  have ly:kvs.length=ys.length:=Paired.length kt
  have hsz:es.size=ys.length:=size_of_entries r3
  rw [List.length_map] at lk
  refine zqd hh sy ⟨o,e',r1,r2⟩ (by omega) fun s' acc hk hg hd ho hs hacc=>hQ _ _ s' (.inl ⟨kvs,rd,ks⟩) ?_ (fin s' hk hg hd ho)
  have la:acc.toList.length=es.size:=by rw [Array.length_toList];exact hacc.1
  refine zj8 (by rw [List.length_map];omega) fun j x v ex ev=>?_
  rw [Array.getElem?_toList] at ev
  obtain⟨hj,rfl⟩:=hacc.2 j v ev
  have lj:j<ys.length:=by omega
  rw [List.getElem?_map,List.getElem?_eq_getElem lj] at ex
  cases ex
  have:=entry_at r3 j
  rw [List.getElem?_eq_getElem lj,Array.getElem?_eq_getElem hj] at this
  simp only [Option.map_some,Option.some.injEq] at this
  rw [this]
  rfl
theorem zjD{Q:VK}{E:Value->Shared->Prop}(hu:X.A.units+3<cLine)(hc:X.calm=true)(I:Inv X pins σ H s)(rd:IsD H d)(hn:∀ xs,zoS H d xs->xs.length<2000)
  (h:∀ xs,zoS H d xs->∃ kd,zhS X.in1.in1 σ H f xs kd/\∀(p:Array Nat) (a:Addr) (H':Hp),Arr xs.length p->Up (ltP kd) p xs.length->zaP H H'->H' a=none->Q (.ref a) (upd H' a (.lst (p.toList.map fun i=>xs.getD i .non)))) :
  wpAny (model X.prog X.w) X.A (call (.builtin "sorted") [.ref d] [(Str.ofString "key",.ref f)]) (EP X pins σ Q) E s:=by
 refine call_function_entry_kw kind_sorted plain_sorted entry_sorted (ksk_s1 _ _) ?_
 unfold Builtin.«sorted»
 refine wpAny_bind (m:=checkCount "sorted" 1 1 _) (wpAny_pure ?_)
 refine wpAny_bind (zqe (show X.A.in1.handled=none from I.ok.hd hc) I rd hn fun xs us s1 dk rv I1=>?_)
 have hx:=hn xs dk
 have hxl:=rv.length
 obtain⟨kd,kc,hq⟩:=h xs dk
 refine wpAny_bind (wpAny_newList ?_ (by rw [sizeLine_eq];omega))
 have hoL:(s1.heap.push (seqObj "list" us.toArray 0)).get? s1.heap.objs.size=some (seqObj "list" us.toArray 0):=Heap.get?_push_size _ rfl
 have I2:Inv X pins σ H { s1 with heap:=s1.heap.push (seqObj "list" us.toArray 0) }:=I1.kept (t':=s1.toks) fun b u e=>Heap.get?_push_of_some _ e
 have fa:zg7 X pins H s1.heap.objs.size:=I1.zoX (Nat.le_refl _) (I1.hok.fresh (Nat.le_refl _))
 refine wpAny_bind (wpAny_holding (wpAny_call_entry_kw slot_list_sort ⟨_,hoL,rfl⟩ entry_list_sort ?body (ksk_l1 _ _)))
 case body =>
  show wpAny (model X.prog X.w) X.in1.in1.A (Builtin.«list.sort» ⟨[.ref s1.heap.objs.size],[(Str.ofString "key",.ref f)]⟩) _ _ _
  rw [ksk_t1]
  refine zmM (X:=X.in1.in1) (by show X.A.units+1+1+1<cLine;omega) I2.in1.in1 hoL fa rv (by omega) kc fun p H' s' ar up sm ha I3=>⟨_,rfl,?_⟩
  refine wpAny_pure ⟨_,rfl,.ref s1.heap.objs.size,_,I3.zvg.zvg,rfl,hq p _ H' (by rw [hxl];exact ar) (by rw [hxl];exact up) sm ha⟩
end
end
end L2
namespace FL
open PySem L2 PySem.Spec
open PyProof.Rows hiding St
variable [Cs]
theorem zhn(p q:WK):ltW p q=L2.ltK p q:=by
 unfold ltW L2.ltK
 rw [zfK]
theorem znF:∀ a b:List Int,HT.lexLt a b=false->HT.lexLt b a=false->a=b
 | [],[],_,_=>rfl
 | [],_::_,h,_=>by cases h
 | _::_,[],_,h=>by cases h
 | x::xs,y::ys,h1,h2=>by
  simp only [HT.lexLt] at h1 h2
  by_cases c:x=y
  ·subst c
   rw [if_pos rfl] at h1 h2
   rw [znF xs ys h1 h2]
  ·rw [if_neg c] at h1
   rw [if_neg (Ne.symm c)] at h2
   have a1:=of_decide_eq_false h1
   have a2:=of_decide_eq_false h2
   omega
theorem znB(p q:WK)(h1:L2.ltK p q=false)(h2:L2.ltK q p=false):p=q:=by
 unfold L2.ltK at h1 h2
 by_cases c:p.1=q.1
 ·rw [if_pos c] at h1
  rw [if_pos c.symm] at h2
  exact Prod.ext c (znF _ _ h1 h2)
 ·rw [if_neg c] at h1
  rw [if_neg (Ne.symm c)] at h2
  have a1:=of_decide_eq_false h1
  have a2:=of_decide_eq_false h2
  omega
def LeP(x y:WK×D):Prop:=L2.ltK y.1 x.1=false
theorem zp1{x z:WK×D}{l:List (WK×D)}(h:z∈znX x l):z=x\/z∈l:=by
 have:=(zgi x l).mem_iff.mp h
 simpa using this
theorem zgh(x:WK×D):∀ l:List (WK×D),l.Pairwise LeP->(znX x l).Pairwise LeP
 | [],_=>by simp [znX]
 | y::r,h=>by
  unfold znX
  rw [List.pairwise_cons] at h
  split
  ·rename_i c
   rw [zhn] at c
   rw [List.pairwise_cons]
   refine⟨fun z hz=>?_,zgh x r h.2⟩
   rcases zp1 hz with rfl|hz
   ·exact zho _ _ c
   ·exact h.1 z hz
  ·rename_i c
   rw [zhn] at c
   have c':L2.ltK y.1 x.1=false:=by simpa using c
   rw [List.pairwise_cons]
   refine⟨fun z hz=>?_,List.pairwise_cons.mpr h⟩
   rcases List.mem_cons.mp hz with rfl|hz
   ·exact c'
   ·exact znA _ _ _ c' (h.1 z hz)
theorem zef:∀ l:List (WK×D),(zfc l).Pairwise LeP
 | []=>.nil
 | x::r=>zgh x _ (zef r)
theorem zi7{α:Type}{le:α->α->Prop}:∀{l1 l2:List α},l1.Perm l2->l1.Pairwise le->l2.Pairwise le->(∀ a∈l1,∀ b∈l1,le a b->le b a->a=b)->l1=l2
 | [],l2,h,_,_,_=>(List.nil_perm.mp h).symm
 | a::r1,[],h,_,_,_=>by have:=h.length_eq;simp at this
 | a::r1,b::r2,h,p1,p2,an=>by
  rw [List.pairwise_cons] at p1 p2
  have e:a=b:=by
   have ha:a∈b::r2:=h.mem_iff.mp (List.mem_cons_self ..)
   have hb:b∈a::r1:=h.mem_iff.mpr (List.mem_cons_self ..)
   rcases List.mem_cons.mp ha with e|ha'
   ·exact e
   rcases List.mem_cons.mp hb with e|hb'
   ·exact e.symm
   exact an a (List.mem_cons_self ..) b (List.mem_cons_of_mem _ hb') (p1.1 b hb') (p2.1 a ha')
  subst e
  rw [zi7 ((List.perm_cons a).mp h) p1.2 p2.2 fun x hx y hy=>an x (List.mem_cons_of_mem _ hx) y (List.mem_cons_of_mem _ hy)]
theorem zfS:∀{ws:List WK} {ks:List D} {x y:WK×D},ws.Nodup->x∈ws.zip ks->y∈ws.zip ks->x.1=y.1->x=y
 | [],ks,x,y,_,h,_,_=>by simp at h
 | _::_,[],x,y,_,h,_,_=>by simp at h
 | w::ws,k::ks,x,y,nd,h1,h2,e=>by
  rw [List.nodup_cons] at nd
  rw [List.zip_cons_cons] at h1 h2
  rcases List.mem_cons.mp h1 with rfl|h1
  ·rcases List.mem_cons.mp h2 with rfl|h2
   ·rfl
   ·exact absurd (by rw [show w=y.1 from e];exact(List.of_mem_zip h2).1) nd.1
  ·rcases List.mem_cons.mp h2 with rfl|h2
   ·exact absurd (by rw [show w=x.1 from e.symm];exact(List.of_mem_zip h1).1) nd.1
   ·exact zfS nd.2 h1 h2 e
theorem zmY(ws:List WK)(ks:List D)(h:ws.length=ks.length):(List.range ks.length).map (fun i=>(ws.getD i (0,[]),ks.getD i PyData.none))=ws.zip ks:=by
 apply List.ext_getElem
 ·simp [h]
 ·intro i h1 h2
  have hi:i<ks.length:=by simpa using h1
  have hi':i<ws.length:=by omega
  simp [List.getD_eq_getElem?_getD,List.getElem?_eq_getElem hi,List.getElem?_eq_getElem hi']
theorem zmL{ws:List WK}{ks:List D}{p:Array Nat}(hl:ws.length=ks.length)(nd:ws.Nodup)(ar:Arr ks.length p)(up:Up (ltP ws) p ks.length):p.toList.map (fun i=>ks.getD i PyData.none)=(zfc (ws.zip ks)).map (·.2):=by
 have hp:(p.toList.map fun i=>(ws.getD i (0,[]),ks.getD i PyData.none)).Perm (ws.zip ks):=by
  have:=(Array.perm_iff_toList_perm.mp ar.pm).map fun i=>(ws.getD i (0,[]),ks.getD i PyData.none)
  rw [List.toList_toArray,zmY ws ks hl] at this
  exact this
 have e:(p.toList.map fun i=>(ws.getD i (0,[]),ks.getD i PyData.none))=zfc (ws.zip ks):=by
  refine zi7 (hp.trans (zge _).symm) ?_ (zef _) fun x hx y hy h1 h2=>?_
  ·rw [List.pairwise_iff_getElem]
   intro i j hi hj hij
   have hi':i<p.size:=by simpa using hi
   have hj':j<p.size:=by simpa using hj
   have:=up i j (Nat.le_of_lt hij) (by rw [<- ar.sz];exact hj')
   rw [show gp p i=p[i] by simp [gp,Array.getD,hi'],show gp p j=p[j] by simp [gp,Array.getD,hj']] at this
   simpa [LeP,ltP] using this
  ·exact zfS nd (hp.mem_iff.mp hx) (hp.mem_iff.mp hy) (znB _ _ h2 h1)
 rw [<- e,List.map_map]
 rfl
section
variable {K:W.Frag}{X:Cx}{H:Hp}
theorem zqF:∀{kvs:List (D×D)} {kk:List (List Key×V)} {xs:List V},zbr K H kvs kk->KTs H kk xs->zag K H (kvs.map (·.1)) xs
 | [],kk,xs,h,t=>by
  simp only [zbr] at h
  subst h
  have:xs=[]:=t
  subst this
  simp [zag]
 | (k,d)::r,kk,xs,h,t=>by
  simp only [zbr] at h
  obtain⟨q,v,t',rfl,rfl,f,h2⟩:=h
  obtain⟨b,u,rfl,tb,t2⟩:=t
  simp only [List.map_cons,zag]
  exact⟨_,_,rfl,zoa tb,zqF h2 t2⟩
theorem zqH:∀{kvs:List (D×D)} {kk:List (Key×V)},zbs K H kvs kk->zag K H (kvs.map (·.1)) (kk.map fun kv=>kV kv.1)
 | [],kk,h=>by simp only [zbs] at h;subst h;simp [zag]
 | (k,d)::r,kk,h=>by
  simp only [zbs] at h
  obtain⟨q,v,t',rfl,rfl,f,h2⟩:=h
  simp only [List.map_cons,zag]
  exact⟨_,_,rfl,zsA,zqH h2⟩
theorem ziy{kvs:List (D×D)}{d:Addr}{xs:List V}(h:Fz K H (.dict kvs) (.ref d))(t:zoS H d xs):zag K H (kvs.map (·.1)) xs:=by
 simp only [Fz] at h
 obtain⟨a,o,e,h⟩:=h
 cases e
 rcases h with⟨kk,h1,h2⟩|⟨kk,h1,h2⟩
 ·rcases t with⟨kk',rd,t⟩|⟨kk',rd,t⟩
  ·have:kk'=kk:=by
    rcases rd with z|⟨o',z⟩
    ·rw [h1] at z;cases z
    ·rw [h1] at z;cases z;rfl
   subst this
   exact zqF h2 t
  ·rcases rd with z|⟨o',z⟩
   ·rw [h1] at z;cases z
   ·rw [h1] at z;cases z
 ·rcases t with⟨kk',rd,t⟩|⟨kk',rd,t⟩
  ·rcases rd with z|⟨o',z⟩
   ·rw [h1] at z;cases z
   ·rw [h1] at z;cases z
  ·have:kk'=kk:=by
    rcases rd with z|⟨o',z⟩
    ·rw [h1] at z;cases z
    ·rw [h1] at z;cases z;rfl
   subst this
   subst t
   exact zqH h2
theorem zuI{kvs:List (D×D)}{d:Addr}(h:Fz K H (.dict kvs) (.ref d)):IsD H d:=by
 simp only [Fz] at h
 obtain⟨a,o,e,h⟩:=h
 cases e
 rcases h with⟨kk,h1,h2⟩|⟨kk,h1,h2⟩
 ·exact .inr ⟨kk,.inr ⟨o,h1⟩⟩
 ·exact .inl ⟨kk,.inr ⟨o,h1⟩⟩
theorem zmA{kd:D}{w:WK}{v:V}(e:zo1 kd=some w)(f:Fz K H kd v):zdV H w v:=by
 unfold zo1 at e
 split at e
 ·rename_i n xs
  rw [Option.map_eq_some_iff] at e
  obtain⟨w0,e0,rfl⟩:=e
  simp only [Fz,zag] at f
  obtain⟨b,vs,rfl,tb,v1,r1,rfl,rfl,v2,r2,rfl,⟨c,ws,rfl,tc,fw⟩,rfl⟩:=f
  obtain⟨rfl,_⟩:=zag.ints fw e0
  exact⟨b,c,rfl,tb,tc⟩
 ·cases e
theorem zjg{p1:Str}{k:Nat}{f:Addr}{fd:FuncData}{G:List D->R D}{σ:L2.St}(hr:zbT k X.A)(hb:Binds X.K fd [p1] [])(F:zhV X.prog X.w X.K X.mg X.base (CXe X.prog X.w) k f fd [p1] (spP X.K 1 false G))(cst:zq5 H) :
  ∀{ds:List D} {xs:List V} {ws:List WK},zag X.K H ds xs->zgc G ds=.ok ws->zhS X σ H f xs ws
 | [],xs,ws,h,e=>by
  simp only [zag] at h
  subst h
  cases e
  rfl
 | d::ds,xs,ws,h,e=>by
  simp only [zag] at h
  obtain⟨v,r,rfl,h1,h2⟩:=h
  obtain⟨kd,e1,e⟩:=zaj (show(G [d]).bind _=.ok ws from e)
  obtain⟨w,e2,e⟩:=zaj e
  obtain⟨ws',e3,e⟩:=zaj e
  cases e
  refine⟨w,ws',rfl,fun u pins' H' s' ru sm I=>?_,zjg hr hb F cst h2 e3⟩
  have hl:([u]++([]:List Value)).length=[p1].length:=rfl
  refine wpAny_call (codeAny_mono (F.run X.A X.stack s' H' ⟨[u],[]⟩ ([u]++[]) [v] (fun k H''=>zaP H' H''/\zdV H'' w k) (fun _ _ _=>False) hr I.env0 (hb s' [u] I.kIn hl) (.cons ru .nil) ?_) fun r s2 hq=>?_)
  ·refine⟨[d],rfl,cst.mono (Fzn.of sm),?_,kd,e1,fun k H'' sm2 fz=>⟨sm2,zmA (znl e2) fz⟩⟩
   simp only [zag]
   exact⟨v,[],rfl,h1.mono (Fzn.of sm),rfl⟩
  ·cases r with
   | error ev =>
    obtain⟨_,_,_,_,_,_,_,_,_,_,_,_,_,_,_,z⟩:=(show CXe X.prog X.w X.stack H' s' (fun _ _ _=>False) ev s2 from hq)
    exact z.elim
   | ok fl =>
    cases fl with
    | ret u=>exact I.after hq
    | next=>exact False.elim hq
    | brk=>exact False.elim hq
    | cont=>exact False.elim hq
theorem zag.pick{ds:List D}{xs:List V}(h:zag K H ds xs):∀(p:List Nat),(∀ i∈p,i<ds.length)->zag K H (p.map fun i=>ds.getD i PyData.none) (p.map fun i=>xs.getD i .non)
 | [],_=>by simp [zag]
 | i::p,hp=>by
  simp only [List.map_cons,zag]
  have hi:=hp i (List.mem_cons_self ..)
  obtain⟨v,ev,fv⟩:=h.get (List.getElem?_eq_getElem hi)
  refine⟨_,_,rfl,?_,zag.pick h p fun j hj=>hp j (List.mem_cons_of_mem _ hj)⟩
  rw [List.getD_eq_getElem?_getD,List.getD_eq_getElem?_getD,ev,List.getElem?_eq_getElem hi]
  exact fv
theorem zi4{x p1:Str}{k j:Nat}{G:List D->R D}{e:Expr}{f:EF}{p px kp pos:Pos}(c:Callee X.prog X.w X.K X.mg X.base x k [p1] (spP X.K 1 false G))(hr:zbT j X.A)(hc:X.calm=true)(hgs:Gl X "sorted") (hms:X.mg "sorted"=none) (hgx:Gl X x) (he:PV K X e f) (hj:k+2<=j:=by decide)
  (hv:bootBuiltins "sorted"=some (.builtin "sorted"):=by decide +kernel) (hdx:(x==("__debug__":Str))=false:=by decide) (hs:starEach [e] X.env=(false,eval e X.env)::starEach [] X.env:=by exact FL.se rfl)
  (hst:backTo pos (starEach [e] X.env)=(false,eval e X.env)::backTo pos (starEach [] X.env):=by rfl) (hpl:(backTo pos (starEach [e] X.env)).any (·.1)=false:=by exact FL.sp rfl) :
  PVN K X (.Call (.Name "sorted" p) [e] [⟨some "key",.Name x px,kp⟩] pos) (e1 (zd0 G) f):=.mk fun hK=>by
 subst hK
 obtain⟨fa,fd,hm,hkp,hb,F⟩:=c
 intro pins s σ H Q I h
 obtain⟨ρ,rel,q⟩:=h
 have q0:(tA X.K (zaa f zah)) σ H fun vs H1=>∃ dd v ρ1,vs=[v]/\Rel X.K ρ1 σ H1/\Stp ρ ρ1 σ H H1/\Fz X.K H1 dd v/\Good X.K ρ1 σ H1 ((zd0 G dd).bind fun d=>.ok (d,ρ1)) fun d ρ' H'=>∀ a,H a=none->zba X.K H' a d->Q (.ref a) H':=by
  obtain⟨y,ey,q⟩:=q.bnd
  refine⟨ρ,rel,?_⟩
  show Good X.K ρ σ H ((f ρ).bind fun x=>(zah x.2).bind fun y=>.ok (x.1::y.1,y.2)) _
  rw [ey]
  intro H1 rel1 st1 vs fs
  simp only [zag] at fs
  obtain⟨v,r,rfl,fv,rfl⟩:=fs
  exact⟨y.1,v,y.2,rfl,rel1,st1,fv,q.step st1⟩
 refine wpAny_Call_Name_kw (zgb I hgs hms hv ?_)
 refine callWith_kw (thn ((zbO he zbZ hs rfl) pos pins s σ H _ I q0) fun us s1 ⟨vs,H1,I1,r1,dd,v,ρ1,evs,rel1,st1,fv,q1⟩=>?_) hst hpl rfl rfl
 subst evs
 cases r1 with
 | cons ru rn =>
  cases rn
  refine kws_cons (zkr I1 hgx hm (kws_nil ?_) hdx)
  obtain⟨dr,edr,q2⟩:=q1.zdF
  obtain⟨ks,e1,edr⟩:=zaj (show(zdB dd).bind _=.ok dr from edr)
  obtain⟨cl,edr⟩:=za3 edr
  obtain⟨ws,e2,edr⟩:=zaj edr
  obtain⟨cn,edr⟩:=za3 edr
  cases edr
  cases dd with
  | dict kvs =>
   cases e1
   have hd:∃ d,v=.ref d:=by
    simp only [Fz] at fv
    obtain⟨a,_,e,_⟩:=fv
    exact⟨a,e⟩
   obtain⟨d,rfl⟩:=hd
   cases ru
   have hlen:(kvs.map (·.1)).length<2000:=zii cl
   have hu:=hr.un
   have hu:X.A.units+3<cLine:=by omega
   have rr:zbT k X.in1.in1.A:=((hr.mono hj:zbT (k+1+1) X.A).in1).in1
   have wlen:∀{ds:List D} {ws:List WK},zgc G ds=.ok ws->ws.length=ds.length:=by
    intro ds
    induction ds with
    | nil=>intro ws h;cases h;rfl
    | cons d0 r0 ih =>
     intro ws h
     obtain⟨_,_,h⟩:=zaj (show(G [d0]).bind _=.ok ws from h)
     obtain⟨_,_,h⟩:=zaj h
     obtain⟨ws',e3,h⟩:=zaj h
     cases h
     simp [ih e3]
   have wl:=wlen e2
   refine zjD (f:=fa) hu hc I1 (zuI fv) (fun xs dk=>by rw [(ziy fv dk).len];exact hlen) fun xs dk=>⟨ws,zjg (X:=X.in1.in1) rr hb F rel1.cst (ziy fv dk) e2,fun pp a H' ar up sm ha=>?_⟩
   have fx:=ziy fv dk
   rw [fx.len] at ar up
   have su:=zmL wl (of_decide_eq_true cn) ar up
   have sm2:zaP H1 (upd H' a (.lst (pp.toList.map fun i=>xs.getD i .non))):=zhb sm (zaP.upd ha)
   refine q2.new rel1 sm2 a ?_ ?_
   ·have h1a:H1 a=none:=by
     cases e0:H1 a with
     | none=>rfl
     | some o=>rw [sm a o e0] at ha;cases ha
    exact st1.old rel1 h1a
   ·refine⟨_,zan,?_⟩
    rw [<- su]
    refine(fx.mono (Fzn.of sm2)).pick pp.toList fun i hi=>?_
    have:=(Array.perm_iff_toList_perm.mp ar.pm).mem_iff.mp hi
    simpa using this
  | _=>cases e1
end
end FL
namespace L2
open PySem PySem.Spec PyProof.Rows PySem.W
end L2
namespace FL
open PySem L2 PySem.Spec
open PyProof.Rows hiding St
section
variable [Cs]
end
section
def zeE(cs:List Addr)(K:W.Frag):W.Frag:=K.filter fun p=>!cs.contains p.1
theorem zdo(cs:List Addr):∀(K:W.Frag) (b:Addr),(zeE cs K).lookup b=if cs.contains b=true then none else K.lookup b
 | [],b=>by simp [zeE]
 | (c,o)::K,b=>by
  have ih:=zdo cs K b
  unfold zeE at ih ⊢
  rw [List.filter_cons]
  by_cases hc:cs.contains c=true
  ·rw [if_neg (by simp only [hc];decide),ih]
   by_cases hb:cs.contains b=true
   ·rw [if_pos hb,if_pos hb]
   ·have ne:b≠c:=fun z=>by rw [z] at hb;exact hb hc
    rw [if_neg hb,if_neg hb]
    simp [List.lookup_cons,show(b==c)=false from by simpa using ne]
  ·have hc':cs.contains c=false:=by simpa using hc
   rw [if_pos (by simp only [hc'];decide)]
   by_cases e:b=c
   ·subst e
    rw [if_neg hc]
    simp [List.lookup_cons]
   ·have e':(b==c)=false:=by simpa using e
    rw [List.lookup_cons,List.lookup_cons,e']
    exact ih
theorem zqZ{cs:List Addr}{K:W.Frag}{h:Heap}(x:K.In h):(zeE cs K).In h:=fun a o e=>by
 rw [zdo] at e
 split at e
 ·cases e
 ·exact x a o e
def zsX(cs:List Addr)(K:W.Frag):Prop:=∀ c∈cs,∃ o its n,K.lookup c=some o/\o.data=Data.seq its n
theorem zlL{cs:List Addr}{K:W.Frag}(s:zsX cs K){b:Addr}{o:Obj}(e:K.lookup b=some o)(n:∀ its m,o.data≠.seq its m):(zeE cs K).lookup b=some o:=by
 rw [zdo,if_neg,e]
 intro c
 obtain⟨o',its,m,e',d⟩:=s b (by simpa using c)
 rw [e] at e'
 cases e'
 exact n _ _ d
theorem zmn{cs:List Addr}{K:W.Frag}(s:zsX cs K){cd:Value}{q:Str}(h:PySem.W.codeIn K cd q=true):PySem.W.codeIn (zeE cs K) cd q=true:=by
 cases cd with
 | ref c =>
  unfold PySem.W.codeIn at h ⊢
  cases e:K.lookup c with
  | none=>simp only [e] at h;cases h
  | some o =>
   obtain⟨oc,od,data,sl⟩:=o
   cases data with
   | fields vs =>
    simp only [e] at h
    simp only [zlL s e fun _ _ z=>nomatch z]
    exact h
   | _=>simp only [e] at h;cases h
 | _=>cases h
theorem Fun.cut{cs:List Addr}{K:W.Frag}(s:zsX cs K){x q:Str}{st:Stmt}{f:Addr}{fd:FuncData}(F:Fun K x q st f fd):Fun (zeE cs K) x q st f fd:=by
 obtain⟨⟨oc,od,kV,doc,pm,an,cdv,ct,osl,e,l,c⟩,kp⟩:=F
 have l':=zlL s l fun _ _ z=>nomatch z
 refine⟨⟨oc,od,kV,doc,pm,an,cdv,ct,osl,e,l',zmn s c⟩,?_⟩
 unfold PySem.W.keepIn
 simp only [l']
theorem Has.cut{cs:List Addr}{K:W.Frag}{mg:Str->Option Value}(s:zsX cs K){x:Str}{st:Stmt}(h:Has K mg x st):Has (zeE cs K) mg x st:=by
 obtain⟨f,fd,hm,F⟩:=h
 exact⟨f,fd,hm,Fun.cut s F⟩
abbrev CL:=List (Addr×Obj×List V)
def zjr(cl:CL):Hp:=fun b=>(cl.lookup b).map fun p=>.frz p.1 (.tup p.2)
theorem zwo(cl:CL)(a:Addr)(u:HO)(h:zjr cl a=some u):∃ o xs,u=.frz o (.tup xs):=by
 unfold zjr at h
 rw [Option.map_eq_some_iff] at h
 obtain⟨p,_,rfl⟩:=h
 exact⟨_,_,rfl⟩
@[reducible] def zsW(cl:CL)(ob:String->Option (Addr×List Str):=fun _=>none):Cs:={ C:=zjr cl,st:=zwo cl,O:=ob }
def zj7(cl:CL)(K:W.Frag):Prop:=∀ p∈cl,K.lookup p.1=some p.2.1/\p.2.1.cls=.type "tuple"/\p.2.2.length<=sizeLine/\∃(its:Array Value) (n:Nat),p.2.1.data=.seq its n/\Vals p.2.2 its.toList
theorem zj7.nil{K:W.Frag}:zj7 [] K:=fun p hp=>by simp at hp
theorem zj7.cons{K:W.Frag}{a:Addr}{od:Option Addr}{its:Array Value}{n:Nat}{sl:Array (Option Value)}{xs:List V}{cl:CL}(e:K.lookup a=some ⟨.type "tuple",od,.seq its n,sl⟩) (hv:Vals xs its.toList) (hl:xs.length<=1000) (r:zj7 cl K):zj7 ((a,⟨.type "tuple",od,.seq its n,sl⟩,xs)::cl) K:=fun p hp=>by
 rcases List.mem_cons.mp hp with rfl|hp
 ·exact⟨e,rfl,Nat.le_of_lt (zmN hl),its,n,rfl,hv⟩
 ·exact r p hp
theorem zj7.seqs{cl:CL}{K:W.Frag}(h:zj7 cl K):zsX (cl.map (·.1)) K:=fun c hc=>by
 obtain⟨p,hp,rfl⟩:=List.mem_map.mp hc
 obtain⟨e,_,_,its,n,d,_⟩:=h p hp
 exact⟨_,its,n,e,d⟩
theorem mem_of_lookup{α:Type}:∀{l:List (Addr×α)} {a:Addr} {x:α},l.lookup a=some x->(a,x)∈l
 | [],a,x,h=>by simp at h
 | (b,y)::r,a,x,h=>by
  rw [List.lookup_cons] at h
  cases e:a==b with
  | true =>
   rw [e] at h
   cases h
   have:=eq_of_beq e
   subst this
   exact List.mem_cons_self ..
  | false =>
   rw [e] at h
   exact List.mem_cons_of_mem _ (mem_of_lookup h)
theorem zhu{cl:CL}{K:W.Frag}(h:zj7 cl K){b:Addr}{u:HO}(e:zjr cl b=some u):(zeE (cl.map (·.1)) K).lookup b=none/\∃(o:Obj) (xs:List V) (its:Array Value) (n:Nat),u=.frz o (.tup xs)/\K.lookup b=some o/\o.cls=.type "tuple"/\o.data=.seq its n/\xs.length<=sizeLine/\Vals xs its.toList:=by
 unfold zjr at e
 rw [Option.map_eq_some_iff] at e
 obtain⟨⟨o,xs⟩,el,rfl⟩:=e
 have m:=mem_of_lookup el
 obtain⟨h1,h2,h3,its,n,h4,h5⟩:=h _ m
 refine⟨?_,o,xs,its,n,rfl,h1,h2,h4,h3,h5⟩
 rw [zdo,if_pos]
 have:b∈cl.map (·.1):=List.mem_map.mpr ⟨_,m,rfl⟩
 simpa using this
theorem znH{P:Program}{w:World}{K:W.Frag}{mg mb:Str->Option Value}{CX:CXT}{k:Nat}{fa a:Addr}{fd:FuncData}{x:Str}{sp:Sp}{s₁:Shared}{vs:List Value}{ns:List Int}{cl:CL}
  (KX:K.In s₁.heap)(hC:zj7 cl K)(hns:s₁.heap.Ns mainGlobals mg)(hb:s₁.heap.Ns builtinsNs mb)(hbb:∀ x:Str,x ≠ "__name__"->mb x=bootBuiltins x) (hlim:s₁.heap.NoLimit) (hse:s₁.heap.NoSeer) (htr:P.given.tree=none) (hg:s₁.gens=#[])
  (ha:s₁.heap.get? a=some { cls:=.type "list",data:=.seq vs.toArray }) (hi:IntsAre vs ns) (hl:ns.length<=sizeLine) (hr:zbT k callerA)
  (F:∀ base:Heap,(zeE (cl.map (·.1)) K).In base->base.Ns mainGlobals mg->zhV P w (zeE (cl.map (·.1)) K) mg base CX k fa fd [x] sp) (hbind:∀(s:Shared) (u:Value),BindsTo s fd ⟨[u],[]⟩ [(x,u)])
  (hsp:∀ H:Hp,(∀ b xs,H b≠some (.lst xs))->(∀ b u,zjr cl b=some u->H b=some u)->SqL (zeE (cl.map (·.1)) K) H a (ns.map V.int)->sp [.ref a] H (fun v _=>v=.bl true) fun _ _ _=>False)
  (hCX:∀ H e s',CX [] H s₁ (fun _ _ _=>False) e s'->False) :
  codeAny (model P w) callerA (.call (.ref fa) ⟨[.ref a],[]⟩) (fun r s'=>r=.ok (.ret (.bool true))/\OldK s₁.heap s'.heap/\s'.os=s₁.os/\AllBare s'.gens) s₁:=by
 have rv:=ziT hi
 have lenV:=hi.length
 have core:∀ H:Hp,(∀ b u,H b=some u->∃ o v,u=.frz o v/\o.cls≠.type "module"/\∀ es ep,o.data≠.dict es ep)->(∀ b xs,H b≠some (.lst xs))->(∀ b u,zjr cl b=some u->H b=some u)->SqL (zeE (cl.map (·.1)) K) H a (ns.map V.int)->HOk P w H s₁.heap->(∀ b,H b≠none->(zeE (cl.map (·.1)) K).lookup b=none) ->
   codeAny (model P w) callerA (.call (.ref fa) ⟨[.ref a],[]⟩) (fun r s'=>r=.ok (.ret (.bool true))/\OldK s₁.heap s'.heap/\s'.os=s₁.os/\AllBare s'.gens) s₁:=by
  intro H hO hL hcc hS hok hK
  have base_of:∀{b:Addr} {o:Obj},s₁.heap.get? b=some o->H b=none->(zp3 s₁.heap H).get? b=some o:=fun e n=>zp2 e n
  have noA:∀{b:Addr} {o:Obj} {es:Array DictEntry} {ep:Nat},s₁.heap.get? b=some o->o.data=.dict es ep->H b=none:=fun{b o es ep} e d=>by
   cases q:H b with
   | none=>rfl
   | some u =>
    obtain⟨o',v,rfl,_,nd⟩:=hO b u q
    obtain⟨e',_⟩:=hok b _ q
    rw [e] at e'
    cases e'
    exact absurd d (nd es ep)
  have noM:∀{b:Addr} {o:Obj},s₁.heap.get? b=some o->o.cls=.type "module"->H b=none:=fun{b o} e d=>by
   cases q:H b with
   | none=>rfl
   | some u =>
    obtain⟨o',v,rfl,nd,_⟩:=hO b u q
    obtain⟨e',_⟩:=hok b _ q
    rw [e] at e'
    cases e'
    exact absurd d nd
  have nsK:∀{b:Addr} {m:Str->Option Value},s₁.heap.Ns b m->(zp3 s₁.heap H).Ns b m:=fun{b m} ⟨o,es,ep,e,d,r⟩=>⟨o,es,ep,base_of e (noA e d),d,r⟩
  have hKb:(zeE (cl.map (·.1)) K).In (zp3 s₁.heap H):=fun b o e=>base_of (zqZ KX b o e) (by
   cases q:H b with
   | none=>rfl
   | some u=>rw [hK b (by rw [q];simp)] at e;cases e)
  have hM:Mod (zeE (cl.map (·.1)) K) mg (zp3 s₁.heap H):=⟨hKb,nsK hns,⟨mb,nsK hb,hbb⟩,let⟨mc,h1,h2⟩:=hlim;⟨mc,nsK h1,h2⟩,(let⟨mc,h1,h2⟩:=hse.statics;⟨mc,nsK h1,h2⟩),(let⟨mc,h1,h2⟩:=hse.mods;⟨mc,nsK h1,h2⟩),(let⟨mc,h1,h2⟩:=hse.imp;⟨mc,nsK h1,h2⟩),(let⟨mg,bm,ob,h1,h2,h3,h4,h5⟩:=hse.main;⟨mg,bm,ob,nsK h1,h2,base_of h3 (noM h3 h4),h4,h5⟩)⟩
  have e0:zvr P w (zeE (cl.map (·.1)) K) mg (zp3 s₁.heap H) callerA [] s₁ H:=⟨rfl,hM,fun b o e=>zsa e,Nat.le_of_eq (znZ _ _),trivial,fun b hb=>absurd (show b∈([]:List Addr) from hb) (by simp),hok,.of_eq hg,htr⟩
  refine codeAny_mono ((F _ hKb (nsK hns)).run callerA [] s₁ H ⟨[.ref a],[]⟩ [.ref a] [.ref a] _ _ hr e0 (hbind s₁ (.ref a)) (.cons rfl .nil) (hsp H hL hcc hS)) fun r s' h=>?_
  cases r with
  | error e=>exact(hCX H e s' h).elim
  | ok fl =>
   cases fl with
   | next=>exact False.elim h
   | brk=>exact False.elim h
   | cont=>exact False.elim h
   | ret u =>
    obtain⟨v,H',os,bare,un,hok',r',q⟩:=h
    have q':v=.bl true:=q
    subst q'
    obtain rfl:u=Value.bool true:=r'
    refine⟨rfl,OldK.of_keep fun b o e=>?_,os,bare⟩
    cases q:H b with
    | none=>exact un.keep b o e q (by intro z;exact absurd (show b∈([]:List Addr) from z) (by simp)) (by simp)
    | some u =>
     obtain⟨ob,v,rfl,_,_⟩:=hO b u q
     have z2:=un.frzs b ob _ q
     obtain⟨e1,_⟩:=hok b _ q
     obtain⟨e2,_⟩:=hok' b _ z2
     rw [e] at e1;cases e1
     exact e2
 have cok:∀{H:Hp} {b:Addr} {u:HO},zjr cl b=some u->zbc P w H s₁.heap b u:=fun{H b u} e=>by
  obtain⟨_,o,xs,its,n,rfl,h1,h2,h3,h4,h5⟩:=zhu hC e
  have hg:=KX b o h1
  exact⟨hg,h4,its.toList,h5,o,hg,h2,n,by simpa using h3⟩
 have cfr:∀{b:Addr} {u:HO},zjr cl b=some u->∃ o v,u=.frz o v/\o.cls≠.type "module"/\∀ es ep,o.data≠.dict es ep:=fun{b u} e=>by
  obtain⟨_,o,xs,its,n,rfl,h1,h2,h3,h4,h5⟩:=zhu hC e
  exact⟨o,_,rfl,by rw [h2];simp,fun es ep z=>by rw [h3] at z;cases z⟩
 have clst:∀{b:Addr} {xs:List V},zjr cl b≠some (.lst xs):=fun{b xs} e=>by
  obtain⟨_,o,xs,its,n,z,_⟩:=zhu hC e
  cases z
 cases hk:(zeE (cl.map (·.1)) K).lookup a with
 | some o =>
  have e:=zqZ KX a o hk
  rw [ha] at e
  cases e
  exact core (zjr cl) (fun b u e=>cfr e) (fun b xs e=>clst e) (fun _ _ e=>e) (.inr ⟨_,vs.toArray,_,hk,rfl,rfl,rfl,by rw [List.size_toArray,lenV];exact hl,by simpa using rv⟩) (fun b u z=>cok z) fun b hb=>by
   cases q:zjr cl b with
   | none=>exact absurd q hb
   | some u=>exact(zhu hC q).1
 | none =>
  have na:∀ u,zjr cl a≠some u:=fun u z=>by
   obtain⟨_,o,xs,its,n,rfl,h1,h2,h3,h4,h5⟩:=zhu hC z
   have:=KX a o h1
   rw [ha] at this
   cases this
   simp at h2
  refine core (fun b=>if b=a then some (.frz { cls:=.type "list",data:=.seq vs.toArray } (.lst (ns.map V.int))) else zjr cl b) (fun b u e=>?_) (fun b xs e=>?_) (fun b u e=>?_) (.inl (.inr ⟨{ cls:=.type "list",data:=.seq vs.toArray },if_pos rfl⟩)) (fun b u z=>?_) fun b hb=>?_
  ·split at e
   ·cases e;exact⟨_,_,rfl,by simp,fun es ep z=>nomatch z⟩
   ·exact cfr e
  ·split at e
   ·cases e
   ·exact clst e
  ·have:b≠a:=fun z=>by subst z;exact na u e
   simp only [if_neg this];exact e
  ·simp only at z
   split at z
   ·rename_i c
    cases z
    subst c
    exact⟨ha,by rw [List.length_map];exact hl,vs,_,rv,ha⟩
   ·exact cok z
  ·by_cases c:b=a
   ·subst c;exact hk
   ·simp only [if_neg c] at hb
    cases q:zjr cl b with
    | none=>exact absurd q hb
    | some u=>exact(zhu hC q).1
theorem zo4{l:PySem.W.OpenLaw}{k:Nat}{q:Program}{loose:List Str}{XP:(Str->Option Value)->Heap->Prop}{YP:World->Heap->Prop}{d:DefRec}{K:Params->W.Frag}{x:Str}{G:List D->R D}
  (hlaw:∀ ns:List Int,ns.length<=63->G [.list (ns.map PyData.int)]=.ok (.bool true))(hn:l.most=some 63)(hdf:d.params.defaults=[])(hi:importsNone q=true)(htr:l.prog.given.tree=none)(hr:zbT k callerA)
  (hY:∀(w:World) (h:Heap),YP w h->(K w.params).In h)
  (F:∀(w:World) (mg:Str->Option Value) (fa:Addr) (h:Heap),(K w.params).In h->h.Ns mainGlobals mg->mg d.name=some (.ref fa) ->
   ∃(cl:CL) (fd:FuncData),zj7 cl (K w.params)/\(∀(s:Shared) (u:Value),BindsTo s fd ⟨[u],[]⟩ [(x,u)]) /\
    ∀ base:Heap,(zeE (cl.map (·.1)) (K w.params)).In base->base.Ns mainGlobals mg->zhV l.prog w (zeE (cl.map (·.1)) (K w.params)) mg base (CXe l.prog w) k fa fd [x] (@spP (zsW cl) (zeE (cl.map (·.1)) (K w.params)) 1 false G)) :
  PySem.W.WalkO q loose XP YP l.row.toRowW d [] (fun f vs=>PySem.call f vs):=by
 refine Att.zkP hn hdf fun w s₀ s₁ mg mb fa o pm cd doc a vs ns GG Y ho hd hcd hmg hobj hints hlen hg=>?_
 have KX:=hY w _ Y
 obtain⟨cl,fd,hC,hb,hF⟩:=F w mg fa _ KX GG.T.g hmg
 refine znH KX hC GG.T.g GG.T.b GG.T.builtins GG.T.nolimit (GG.T.seer hi) htr hg hobj hints (Nat.le_trans hlen (by decide)) hr hF hb (fun H hO hcc hS=>@zus (zsW cl) _ G H a ns (hlaw ns hlen) hO hcc hS) fun H e s' ⟨_,_,_,_,_,_,_,_,_,_,_,_,_,_,_,z⟩=>z
variable [Cs]
theorem zm5{K:W.Frag}{X:Cx}{x:Str}{a:Addr}{pos:Pos}{ds:List D}{vs:List V}(hg:Gl X x)(hm:X.mg x=some (.ref a))(hc:∃ o,Cs.C a=some (.frz o (.tup vs)))(hf:∀ H,zag K H ds vs)(hd:(x==("__debug__":Str))=false:=by decide) :
  PV K X (.Name x pos) (eC (.tuple ds)):=.mk fun _=>(zng hg hm (v:=.ref a) rfl hd).weak fun σ H Q=>by
 rintro⟨ρ,rel,g⟩
 obtain⟨o,hc⟩:=hc
 refine g.now rel (.ref a) ?_
 simp only [Fz]
 exact⟨a,vs,rfl,.inr ⟨o,rel.cst _ _ hc⟩,hf H⟩
end
section
theorem zdC{k:Nat}{A:Around}(hr:zbT k A):A.units+1<cLine:=by have:=hr.un;omega
theorem zmX{x y:V}{u:Value}(h1:L2.RelV x u)(h2:L2.RelV y u):x=y:=by
 cases x <;> cases y <;> simp only [L2.RelV] at h1 h2 <;> first
  | (subst h1;cases h2;rfl;done)
  | (subst h1;obtain⟨t',h2⟩:=h2;cases h2;done)
  | (obtain⟨t,rfl⟩:=h1;obtain⟨t',h2⟩:=h2;cases h2;rfl;done)
  | (obtain⟨t,rfl⟩:=h1;obtain⟨t',h2⟩:=h2;cases h2;done)
  | (subst h1;cases h2;done)
  | (obtain⟨t,rfl⟩:=h1;cases h2;done)
theorem ziS:∀{xs ys:List V} {us:List Value},Vals xs us->Vals ys us->xs=ys
 | _,_,_,.nil,.nil=>rfl
 | _,_,_,.cons r1 t1,.cons r2 t2=>by rw [zmX r1 r2,ziS t1 t2]
theorem lookup_mem{α:Type}:∀{l:List (Addr×α)} {a:Addr} {x:α},(a,x)∈l->∃ y,l.lookup a=some y
 | [],a,x,h=>by simp at h
 | (b,y)::r,a,x,h=>by
  rw [List.lookup_cons]
  cases e:a==b with
  | true=>exact⟨y,rfl⟩
  | false =>
   rcases List.mem_cons.mp h with z|z
   ·cases z;simp at e
   ·exact lookup_mem z
theorem zuE{cl:CL}{ob:String->Option (Addr×List Str)}{K:W.Frag}(h:zj7 cl K){a:Addr}{o:Obj}{xs:List V}(m:(a,o,xs)∈cl):∃ o',(zsW cl ob).C a=some (.frz o' (.tup xs)):=by
 obtain⟨⟨o2,ys⟩,el⟩:=lookup_mem m
 obtain⟨h1,_,_,its,n,h2,h3⟩:=h _ m
 obtain⟨g1,_,_,its',n',g2,g3⟩:=h _ (mem_of_lookup el)
 simp only at h1 h2 h3 g1 g2 g3
 rw [h1] at g1
 cases g1
 rw [h2] at g2
 cases g2
 refine⟨o,?_⟩
 show zjr cl a=_
 unfold zjr
 rw [el,ziS h3 g3]
 rfl
theorem zuF{K:W.Frag}{h:Heap}{mg:Str->Option Value}{x:Str}{st:Stmt}{f:Addr}{oc:Value}{od an:Option Addr}{osl:Array (Option Value)}{kV doc pm cdv ct:Value}(X:K.In h)(G:h.Ns mainGlobals mg)(q:PySem.W.nsIn K mainGlobals x=some (some (.ref f)))
  (l:K.lookup f=some ⟨oc,od,.func (PySem.W.fnOf x x (zcI st) (zbq st) (zat st) .none kV doc pm an cdv ct),osl⟩)(c:PySem.W.codeIn K cdv x=true)(k:PySem.W.keepIn K (.ref f)=true):Has K mg x st:=⟨f,_,PySem.W.mg_of X G q,zuJ (st:=st) l c k⟩
theorem _root_.L2.Has.cut{cs:List Addr}{K:W.Frag}{mg:Str->Option Value}{x:Str}{st:Stmt}(h:Has K mg x st)(s:zsX cs K):Has (zeE cs K) mg x st:=FL.Has.cut s h
end
end FL
namespace FL
open PySem
def enD:List D->R (List D)
 | [.list l]=>.ok (zfy 0 l)
 | _=>.bad
def zvj(a:AF):IF:=fun ρ=>(a ρ).bind fun x=>(enD x.1).bind fun l=>.ok (l,x.2)
def zem(k:Nat)(ix:List Nat)(g:GF)(t:TF)(kf vf:EF):List D->En->D->R (D×En)
 | [],ρ,acc=>.ok (acc,ρ)
 | x::xs,ρ,acc=>(g x (blk k ix ρ)).bind fun β=>(t β).bind fun c =>
   if c.1=true then(kf c.2).bind fun y=>(vf y.2).bind fun z=>(zkJ acc y.1 z.1).bind fun d=>zem k ix g t kf vf xs (back ρ ix (z.2.drop k)) d
   else zem k ix g t kf vf xs (back ρ ix (c.2.drop k)) acc
def zhy(k:Nat)(ix:List Nat)(it:IF)(g:GF)(t:TF)(kf vf:EF):EF:=fun ρ=>(it ρ).bind fun x=>(zem k ix g t kf vf x.1 x.2 (.dict [])).bind fun y=>.ok (y.1,y.2)
def znx(x y:D):R D:=match x with
 | .list a=>(R.of (intsOf a)).bind fun ns=>.ok (((zuk ns).map PyData.int).getD y)
 | _=>.bad
def zon(i:Nat)(k:EF):SF:=fun ρ=>(zaw ρ i).bind fun c0=>(zdB c0).bind fun _=>(k ρ).bind fun a=>(zaw a.2 i).bind fun c=>(zmm c a.1).bind fun d=>.ok (.nx,zaN a.2 i d)
def zh6(ρ:En)(i:Nat):R (List D):=match ρ[i]? with
 | some (.ow true (.list l))=>.ok l
 | _=>.bad
def zqP(io:Nat)(g:GF)(b:SF):Nat->Nat->En->R (Fl×En)
 | 0,_,_=>.bad
 | n+1,j,ρ=>(zh6 ρ io).bind fun l=>match l[j]? with
  | none=>.ok (.nx,ρ)
  | some d=>(g d ρ).bind fun ρ1=>(b ρ1).bind fun y=>match y.1 with
   | .nx | .ct=>zqP io g b n (j+1) y.2
   | .bk=>.ok (.nx,y.2)
   | .rt d=>.ok (.rt d,y.2)
   | .rf d=>.ok (.rf d,y.2)
def zrm(io:Nat)(g:GF)(b:SF):SF:=fun ρ=>(zh6 ρ io).bind fun l=>zqP io g b (l.length+1) 0 ρ
def zun(x y:D):R D:=(R.of (zo1 x)).bind fun p=>(R.of (zo1 y)).bind fun q=>.ok (.bool (ltW p q))
end FL
namespace L2
open PySem PySem.Spec PyProof.Rows
section
variable {X:Cx}{pins:List (Addr×Obj)}{σ:St}{H:Hp}{s:Shared}{a:Addr}{y v:V}{u r:Value}{A:Around}{E:Value->Shared->Prop}
theorem zol{H':Hp}{Q:Unit->Shared->Prop}(hu:A.units+1<cLine)(I:Inv X pins σ H s)(g:zoR H a y v H')(ry:RelV y u)(rv:RelV v r)(h:∀ s',Inv X pins σ H' s'->Q () s') :
  wpAny (model X.prog X.w) A (dictSet a u r) Q E s:=by
 rcases g with⟨kvs,k,e,ey,l,eH⟩|⟨kvs,k,b,e,ey,eb,l,eH⟩
 ·subst ey eH
  exact zwz I e l ry rv h
 ·subst ey eH
  cases (show u=Value.ref b from ry)
  obtain⟨z,hd,xs,rel,dd⟩:=zp8 I.hok e
  have hz:xs.length<=sizeLine:=by rw [<- Paired.length rel];exact z
  have hl:(putK kvs k v).length<=sizeLine:=by have:=zcA kvs k v;omega
  refine wpAny_dictSet_heap (hsz:=hz) (show A.units<cLine from Nat.lt_of_succ_lt hu) (zb7 I.hok eb) dd fun h' dd' hs=>h _ ?_
  obtain⟨q,es,ep,hq,h2,h3,h4,_,h5⟩:=dd'
  refine zcf I (by rw [e];exact True.intro) hs ⟨q,hq⟩ ⟨hl,hd,_,(rel.put k eb rv).keeps fun c ys ec=>?_,q,es,ep,hq,h2,h3,h4,h5⟩
  exact ec.upd (fun _ z=>zfv z e (fun z=>nomatch z)) fun _ _ z=>zfv z e (fun z=>nomatch z)
theorem zsE{H':Hp}{Q:Unit->Shared->Prop}(hu:A.units+1<cLine)(I:Inv X pins σ H s)(g:DP H a y v H')(ry:RelV y u)(rv:RelV v r)(h:∀ s',Inv X pins σ H' s'->Q () s') :
  wpAny (model X.prog X.w) A (dictSet a u r) Q E s:=by
 rcases g with g|⟨k,b,e,rfl,eb,rfl⟩|⟨k,e,rfl,rfl⟩
 ·exact zol hu I g ry rv h
 ·have eb':TAt (upd H a (.dT [])) b (k.map kV):=eb.upd (fun _ z=>zfv z e (fun z=>nomatch z)) fun _ _ z=>zfv z e (fun z=>nomatch z)
  have g:=zoR.t (H:=upd H a (.dT [])) (a:=a) (v:=v) zan eb' (by decide)
  rw [zfV] at g
  exact zol hu (I.kt e) g ry rv h
 ·have g:=zoR.k (H:=upd H a (.dK [])) (a:=a) (k:=k) (v:=v) zan (by decide)
  rw [zfV] at g
  exact zol hu (I.tk e) g ry rv h
end
def zka(k:Nat)(ix:List Nat)(wi:TI)(g:TG)(tc:TT)(tk tv:TE):TE:=fun σ H Q=>wi σ H fun J H1=>∀ l,H1 l=none ->
 ∃ W:Nat->Nat->Hp->Prop,(∃ m,W 0 m (upd H1 l (.dK [])))/\∀ i m H2,W i m H2 ->
  ((J.stop i H2/\Q (.ref l) H2)\/(J.go i H2/\∀ x H3,J.yld i H2 x H3->g x (zep k ix σ) H3 fun σ2 H4=>tc σ2 H4 fun b H5 =>
   if b=true then tk σ2 H5 fun y H6=>tv σ2 H6 fun v H7=>∃ H8,DP H7 l y v H8/\∃ m',m'<m/\W (i+1) m' H8 else ∃ m',m'<m/\W (i+1) m' H5))
section
variable {X:Cx}
theorem znh{kx vx tg iter:Expr}{ifs:List Expr}{scope:Scope}{pos:Pos}{L:List Str}{ix:List Nat}{wi:TI}{g:TG}{tc:TT}{tk tv:TE}(hu:X.A.units+1<cLine)(hc:X.calm=true)(S:ze0 X scope (zfz X ix))(hix:∀ i∈ix,i<X.N.length)(hi:PI X tg iter wi)
  (hg:∀ C s₃ H₃ fp,PG (zau X (L++zfz X ix) scope C s₃ H₃ fp) tg g)(hgo:zoO L.length g)
  (ht:∀ C s₃ H₃ fp,PTs (zau X (L++zfz X ix) scope C s₃ H₃ fp) ifs tc)(hk:∀ C s₃ H₃ fp,PE (zau X (L++zfz X ix) scope C s₃ H₃ fp) kx tk)(he:∀ C s₃ H₃ fp,PE (zau X (L++zfz X ix) scope C s₃ H₃ fp) vx tv)
  (hs:∀ x,foldedSetIterable iter X.env x=pure x:=by intro _;rfl) :
  PE X (.DictComp kx vx [⟨tg,iter,ifs,0⟩] scope pos) (zka L.length ix wi g tc tk tv):=by
 intro pins s σ H Q I h
 rw [arm_eval_DictComp]
 refine wpAny_comprehension_free (use:=none) rfl hs (zen fun y hy e=>I.ok.has y.1 (.inl (S.cell y hy e))) S.kind S.loc (thn (hi pins s σ H _ I h) fun xv s1 h1=>thn h1 fun itv s2 h2=>?_)
 obtain⟨it,fp,tn,J,H2,rfl,I2,T,st2,f2,q⟩:=h2
 have nD:H2 s2.heap.objs.size=none:=I2.hok.fresh (Nat.le_refl _)
 obtain⟨W,⟨m0,w0⟩,turn⟩:=q _ nD
 generalize hD:s2.heap.objs.size=D at nD w0 turn
 have fD:∀ b∈fp,b<D:=fun b hb=>by
  obtain⟨o,e,_⟩:=T.obj _ _ st2 b hb
  rw [<- hD]
  exact Heap.lt_size e
 have I3:Inv X pins σ (upd H2 D (.dK [])) { s2 with heap:=s2.heap.push { cls:=.type "dict",data:=.dict #[] },toks:=s2.toks }:=by
  rw [<- hD]
  exact I2.laid (t':=s2.toks) (fun b u e=>Heap.get?_push_of_some _ e) (Nat.le_refl _) (zqa s2.heap I2.big)
 refine wpAny_newObj_type (znq (fun h₁ hns₁ hsb₁ hcs₁=>?_)) (by show 0<=sizeLine+1;exact Nat.zero_le _)
 rw [hD]
 have st3:tn 0 (s2.heap.push { cls:=.type "dict",data:=.dict #[] }):=T.keep _ _ _ st2 fun b hb o e=>Heap.get?_push_of_some _ e
 generalize hp3:s2.heap.push { cls:=.type "dict",data:=.dict #[] }=h3 at I3 st3 hns₁ hsb₁ hcs₁
 dsimp only at hns₁ hsb₁ hcs₁ ⊢
 have sz3:h3.objs.size=D+1:=by rw [<- hp3,Heap.size_push,hD]
 have old:∀ b u,h3.get? b=some u->h₁.get? b=some u:=fun b u e=>hsb₁ b u e
 have f3:∀ b∈fp,zg7 X pins (upd H2 D (.dK [])) b:=fun b hb=>⟨by rw [zas (Nat.ne_of_lt (fD b hb))];exact(f2 b hb).1,(f2 b hb).2⟩
 have I4:=zjp (L:=L) (ix:=ix) (t':=s2.toks) S I3 f3 (fun b hb=>by show b<h3.objs.size;rw [sz3];exact Nat.lt_succ_of_lt (fD b hb)) hix (h':=h₁) hns₁ old hcs₁
 have st4:tn 0 h₁:=T.keep _ _ _ st3 fun b hb o e=>old b o e
 generalize hC:(zau X (L++zfz X ix) scope h3.objs.size { s2 with heap:=h3,toks:=s2.toks } (upd H2 D (.dK [])) fp)=Y at I4
 have eEnv:Y.env=compEnvC scope (zkk h3.objs.size scope++zg4 X.env.cells scope.names []) h3.objs.size X.env:=by rw [<- hC];rfl
 have hcY:Y.calm=true:=by rw [<- hC];exact hc
 have xeY:Y.xe=fun _ _=>False:=by rw [<- hC];rfl
 have eP:Y.prog=X.prog:=by rw [<- hC];rfl
 have eW:Y.w=X.w:=by rw [<- hC];rfl
 have eK:Y.K=X.K:=by rw [<- hC];rfl
 have eA:Y.A=X.A:=by rw [<- hC];rfl
 have gY:PG Y tg g:=by rw [<- hC];exact hg _ _ _ _
 have tY:PTs Y ifs tc:=by rw [<- hC];exact ht _ _ _ _
 have kY:PE Y kx tk:=by rw [<- hC];exact hk _ _ _ _
 have pY:PE Y vx tv:=by rw [<- hC];exact he _ _ _ _
 have stat:∀{H':Hp},(∀ b∈fp,H' b=none)->∀ b∈fp,zg7 Y [] H' b:=fun{H'} hn b hb=>by
  have z1:b∈Y.ex:=by rw [<- hC];exact hb
  have zp:Y.pn=[]:=by rw [<- hC];rfl
  refine⟨hn b hb,(I4.ok.exf b z1).1,I4.ok.exfs b z1,.inl z1,(I4.ok.exf b z1).2,fun p hp=>?_⟩
  rw [zp] at hp
  exact absurd hp (by simp)
 have fin:∀{H':Hp} {s':Shared},Inv Y [] (zep L.length ix σ) H' s'->Q (.ref D) H'->compPost (model X.prog X.w) X.A X.xe none (EP X pins σ Q) (.ref D) h3.objs.size (.ok .next) s':=by
  intro H' s' J' qe
  obtain⟨m,hm,_⟩:=J'.loc
  rw [eEnv] at hm
  refine⟨m,hm,fun h' sb=>⟨.ref D,H',?_,rfl,qe⟩⟩
  have hfr:H' h3.objs.size=none:=by
   have:=J'.free
   rw [eEnv] at this
   exact this
  have neC:∀ b u,H' b=some u->b≠h3.objs.size:=fun b u e z=>by rw [z,hfr] at e;cases e
  have base:Un (frs X.stack) fp (upd H2 D (.dK [])) H' h3 s'.heap:=by
   have:=J'.base
   rw [<- hC] at this
   exact this
  have to':∀ b o,b≠h3.objs.size->s'.heap.get? b=some o->h'.get? b=some o:=fun b o hb e=>sb.extBut b o hb e
  have lt3:∀ b o,h3.get? b=some o->b≠h3.objs.size:=fun b o e=>Nat.ne_of_lt (Heap.lt_size e)
  have un:Un (frs X.stack) fp (upd H2 D (.dK [])) H' h3 h' :=
   ⟨fun b o e n hb hx=>to' b o (lt3 b o e) (base.keep b o e n hb hx),
    fun b o e n hb hx=>by
    obtain⟨sl,z⟩:=base.slot b o e n hb hx
    exact⟨sl,to' _ _ (lt3 b o e) z⟩,
    base.free,
    fun b o e hx=>by
    obtain⟨o',z⟩:=base.there b o e hx
    exact⟨o',to' _ _ (lt3 b o e) z⟩,
    base.tups,base.frzs,base.tbls⟩
  have hok:HOk X.prog X.w H' h':=fun b u e=>by
   have z:=J'.hok b u e
   rw [eP,eW] at z
   refine z.stay (fun c v hcv qv=>to' c v ?_ qv) (fun _ qq=>qq) fun _ _ qq=>qq
   rcases hcv with zz|zz
   ·rw [zz];exact neC b u e
   ·exact neC c _ zz
  refine I3.call' (s':={ s' with heap:=h' }) (ch:=fp) ?_ un hok J'.bare fun b hb=>?_
  ·have:=J'.os
   rw [<- hC] at this
   exact this
  ·obtain⟨_,g1,g2,g3,g4,g5⟩:=f2 b hb
   exact⟨g3,g1,g4,g5⟩
 have key:∀ s5:Shared,s5={ s2 with heap:=h₁,toks:=s2.toks } ->
   codeAny (model X.prog X.w) X.A (.compLoop (.DictComp kx vx [⟨tg,iter,ifs,0⟩] scope pos) 0 (.ref it) (.ref D) (compEnvC scope (zkk h3.objs.size scope++zg4 X.env.cells scope.names []) h3.objs.size X.env))
    (compPost (model X.prog X.w) X.A X.xe none (EP X pins σ Q) (.ref D) h3.objs.size) s5:=by
  rintro s5 rfl
  rw [<- eEnv,<- eP,<- eW,<- eA]
  refine zjA (fun n s'=>∃ i H',Inv Y [] (zep L.length ix σ) H' s'/\tn i s'.heap/\(∀ b∈fp,H' b=none)/\W i n H') ?_ m0 ⟨0,_,?_,st4,fun b hb=>(f3 b hb).1,w0⟩
  ·rintro n s6 ⟨i,H6,I6,st6,fr6,w6⟩
   rcases turn i n H6 w6 with⟨stop,qe⟩|⟨go,step⟩
   ·have Td:=T.done Y eP eW eK hcY i [] s6 _ H6 (fun _ _=>False) I6 (stat fr6) st6 stop
    rw [<- eP,<- eW] at Td
    refine wpAny_mono Td (fun r s7 hr7=>?_) fun _ _ f=>f.elim
    obtain⟨hr,I7⟩:=hr7
    subst hr
    rw [eP,eW,eA]
    exact fin I7 qe
   ·have Ti:=T.item Y eP eW eK hcY i [] s6 _ H6 (fun _ _=>False) I6 (stat fr6) st6 go
    rw [<- eP,<- eW] at Ti
    refine wpAny_mono Ti (fun r s7 hr7=>?_) fun _ _ f=>f.elim
    obtain⟨u,hr,h7⟩:=hr7
    subst hr
    refine wpAny_mono h7 (fun _ s8 hr8=>?_) fun _ _ f=>f.elim
    obtain⟨x,H8,I8,r8,y8,st8,fr8⟩:=hr8
    have I8':=I8.pinned (stat fr8) (T.obj _ _ st8)
    have stp:=hgo _ _ _ _ (step x H8 y8)
    refine wpAny_mono (gY _ s8 _ H8 x u _ I8' r8 stp) (fun _ s9 ⟨σ9,H9,I9,⟨k1,k2⟩,q9⟩=>?_) fun _ _ f=>by rw [xeY] at f;exact f.elim
    have weak:∀{Hz:Hp} {sz:Shared},Inv Y ([]++zhk fp s8.heap) σ9 Hz sz->Inv Y [] (zep L.length ix σ) Hz sz/\tn (i+1) sz.heap/\∀ b∈fp,Hz b=none:=fun{Hz sz} Iz=>by
     refine⟨Iz.zcn.weak k1.symm fun j v e=>?_,T.keep _ _ _ st8 fun b hb o e=>(Iz.pin (b,o) (List.mem_append_right _ (List.mem_append_right _ (zbW hb e)))).1,fun b hb=>?_⟩
     ·by_cases hj:L.length<=j
      ·rw [k2 j hj];exact e
      ·unfold zep at e
       rw [List.getElem?_append_left (by simpa using Nat.lt_of_not_le hj),List.getElem?_replicate,if_pos (Nat.lt_of_not_le hj)] at e
       cases e
     ·obtain⟨o,e,d⟩:=T.obj _ _ st8 b hb
      exact(Iz.pin (b,o) (List.mem_append_right _ (List.mem_append_right _ (zbW hb e)))).2.1
    refine wpAny_mono (tY _ s9 σ9 H9 _ I9 q9) (fun ok s10 ⟨H10,I10,q10⟩=>?_) fun _ _ f=>by rw [xeY] at f;exact f.elim
    cases ok with
    | false =>
     have q10':∃ m',m'<n/\W (i+1) m' H10:=q10
     obtain⟨m',hm',w10⟩:=q10'
     obtain⟨z1,z2,z3⟩:=weak I10
     exact⟨m',hm',i+1,H10,z1,z2,z3,w10⟩
    | true =>
     refine wpAny_mono (kY _ s10 σ9 H10 _ I10 q10) (fun yv s11 ⟨y,H11,I11,r11,q11⟩=>?_) fun _ _ f=>by rw [xeY] at f;exact f.elim
     refine wpAny_mono (pY _ s11 σ9 H11 _ I11 q11) (fun xv s12 ⟨v,H12,I12,r12,H8',g12,m',hm',w12⟩=>?_) fun _ _ f=>by rw [xeY] at f;exact f.elim
     refine zsE (by rw [eA];exact hu) I12 g12 r11 r12 fun s13 I13=>?_
     obtain⟨z1,z2,z3⟩:=weak I13
     exact⟨m',hm',i+1,_,z1,z2,z3,w12⟩
  ·exact I4
 exact codeAny_compStart_dict (key _ rfl) (T.self _ 0 _ _ _ st4 (key _ rfl))
theorem zl6{kx vx tg iter:Expr}{ifs:List Expr}{scope:Scope}{pos:Pos}{wi:TI}{g:TG}{tc:TT}{tk tv:TE}(L:List Str)(ix:List Nat)(M:List Str)(hu:X.A.units+1<cLine)(hc:X.calm=true)(hk:scope.kind=.function)
  (hd:zde X.env.scope scope X.N ix=true)(hM:M=L++ix.map fun i=>X.N.getD i "") (hi:PI X tg iter wi)
  (hg:∀ C s₃ H₃ fp,PG (zau X M scope C s₃ H₃ fp) tg g) (hgo:zoO L.length g)
  (ht:∀ C s₃ H₃ fp,PTs (zau X M scope C s₃ H₃ fp) ifs tc) (hke:∀ C s₃ H₃ fp,PE (zau X M scope C s₃ H₃ fp) kx tk) (he:∀ C s₃ H₃ fp,PE (zau X M scope C s₃ H₃ fp) vx tv)
  (hs:∀ x,foldedSetIterable iter X.env x=pure x:=by intro _;rfl) :
  PE X (.DictComp kx vx [⟨tg,iter,ifs,0⟩] scope pos) (zka L.length ix wi g tc tk tv):=by
 unfold zde at hd
 simp only [Bool.and_eq_true,List.all_eq_true,bne_iff_ne,ne_eq,Bool.or_eq_true,beq_iff_eq,decide_eq_true_eq,Bool.not_eq_true',List.contains_eq_mem,decide_eq_false_iff_not] at hd
 obtain⟨⟨d1,d2⟩,d3⟩:=hd
 have eM:M=L++zfz X ix:=by rw [hM];unfold zfz;rfl
 subst eM
 refine znh (L:=L) (ix:=ix) hu hc ⟨hk,fun y hy e=>?_,fun y hy e=>?_,fun x hx=>?_,fun y hy e=>?_⟩ d3 hi hg hgo ht hke he hs
 ·rcases (d1 y hy).1.1 with z|z
  ·exact absurd e z
  ·exact z
 ·rcases (d1 y hy).1.2 with z|z
  ·exact absurd e z
  ·exact z
 ·unfold zfz at hx
  exact d2 x hx
 ·rcases (d1 y hy).2 with z|z
  ·exact absurd e z
  ·exact z
end
end L2
namespace FL
open PySem L2 PySem.Spec
open PyProof.Rows hiding St
theorem zog:∀(i:Nat) (l:List D),(zfy i l).length=l.length
 | _,[]=>rfl
 | i,d::r=>by rw [zfy,List.length_cons,List.length_cons,zog]
theorem zoh:∀{i:Nat} {l:List D} {j:Nat} {x:D},(zfy i l)[j]?=some x->∃ d,l[j]?=some d/\x=.tuple [.int ((i+j:Nat):Int),d]
 | _,[],_,_,h=>by simp [zfy] at h
 | i,d::r,0,x,h=>by
  simp only [zfy,zz0,Option.some.injEq] at h
  exact⟨d,rfl,h.symm⟩
 | i,d::r,j+1,x,h=>by
  simp only [zfy,zz1] at h
  obtain⟨d',h1,h2⟩:=zoh h
  refine⟨d',by simpa using h1,?_⟩
  rw [h2,Nat.add_assoc,Nat.add_comm 1 j]
section
variable [Cs]{K:W.Frag}{X:Cx}{e e':Expr}{fa:AF}{pos:Pos}{es:List Expr}{k:Nat}{p0 p:Pos}
theorem zsz{H:Hp}{t:Addr}{a b:D}{u v:V}(h0:H t=none)(fa:Fz K H a u)(fb:Fz K H b v):Fz K (upd H t (.tup [u,v])) (.tuple [a,b]) (.ref t):=by
 have m:Fzn H (upd H t (.tup [u,v])):=Fzn.of (zaP.upd h0)
 simp only [Fz,zag]
 exact⟨t,[u,v],rfl,.inl zan,u,[v],rfl,fa.mono m,v,[],rfl,fb.mono m,rfl⟩
theorem zmC{H:Hp}{a:Addr}{vs:List V}{items:List D}(h:FzL K H a vs)(f:zag K H items vs):Walk K (Ite K a) (zfy 0 items) H:=by
 refine⟨fun i d H' fz e=>?_,fun i H' fz e=>⟨vs,(fz.zrk h).sq,by rw [f.len,<- zog 0];exact e⟩⟩
 obtain⟨d',e',rfl⟩:=zoh e
 obtain⟨v,ev,fv⟩:=(f.mono fz).get e'
 refine⟨⟨vs,v,(fz.zrk h).sq,ev⟩,fun x H'' y=>?_⟩
 obtain⟨t,v',rfl,ht,rfl,hv⟩:=y
 have ex:=hv vs (fz.zrk h).sq
 rw [ev] at ex
 cases ex
 refine⟨zaP.upd ht,?_⟩
 rw [Nat.zero_add]
 exact zsz ht (zci _) fv
theorem zpn(hg:Gl X "enumerate") (hm:X.mg "enumerate"=none) (ha:PVA K X [e] fa) (hs:starEach [e] X.env=[(false,eval e X.env)]:=by exact FL.se rfl):PVI K X (.Tuple es k p0) (.Call (.Name "enumerate" p) [e] [] pos) (zvj fa):=.mk fun hK=>by
 subst hK
 refine(zrZ hg hm (ha rfl) hs).weak fun σ H R=>?_
 rintro⟨ρ,rel,q⟩
 refine goA rel q fun ds ρ1 vs H1 rel1 st1 fs q1=>?_
 obtain⟨items,ei,q2⟩:=q1.zdF
 cases ds with
 | nil=>cases ei
 | cons d r =>
  cases r with
  | cons _ _=>cases d <;> cases ei
  | nil =>
   cases d with
   | list a =>
    cases ei
    simp only [zag,Fz] at fs
    obtain⟨_,_,rfl,⟨l,vs,rfl,sx,f⟩,rfl⟩:=fs
    exact⟨l,rfl,⟨vs,sx.sq⟩,q2.now rel1 _ (zmC sx f)⟩
   | _=>cases ei
end
section
variable [Cs]{K:W.Frag}{X:Cx}{ke ve tg iter:Expr}{ifs:List Expr}{scope:Scope}{pos:Pos}{it:IF}{g:GF}{t:TF}{kf vf:EF}{dom:List Nat}
theorem zlg{o:HO}(h:Own o):¬ zva o:=by cases o <;> simp [Own,zva] at h ⊢
theorem zsx{k:Nat}{ix:List Nat}(nd:ix.Nodup)(hgo:dom.all (fun i=>decide (i<k))=true)(σ:L2.St)(H:Hp)(Q:VK)(q:tN K (zhy k ix it g t kf vf) σ H Q):zka k ix (tI K it) (tG K dom g) (tT K t) (tV K kf) (tV K vf) σ H Q:=by
 revert q
 rintro⟨ρ0,rel0,q⟩
 obtain⟨x,ex,q⟩:=q.bnd
 refine⟨ρ0,rel0,?_⟩
 rw [ex]
 intro H1 rel1 st1 J wk l hl
 obtain⟨items,ρs⟩:=x
 have hl0:H l=none:=by
  cases e:H l with
  | none=>rfl
  | some o =>
   by_cases m:MA ρ0 σ l
   ·obtain⟨o',e',_⟩:=rel1.zbi (st1.ma.mp m)
    rw [hl] at e';cases e'
   ·rw [st1.kp l o e m] at hl;cases hl
 have sl:zaP H1 (upd H1 l (.dK [])):=zaP.upd hl
 refine⟨fun i m H2=>m=items.length-i/\i<=items.length/\∃ ρ acc,zba K H2 l acc/\Rel K ρ σ H2/\¬ MA ρ σ l/\Fzn H1 H2/\Stp ρ0 ρ σ H H2 /\
  Good K ρ0 σ H ((zem k ix g t kf vf (items.drop i) ρ acc).bind fun(y:D×En)=>.ok (y.1,y.2)) fun d ρ' H'=>∀ a,H a=none->zba K H' a d->Q (.ref a) H',
  ⟨items.length,by simp,Nat.zero_le _,ρs,.dict [],.inr ⟨[],zan,by simp [zbs]⟩,rel1.same sl,fun z=>?_,Fzn.of sl,st1.trans (.of sl),q⟩,?_⟩
 ·obtain⟨o',e',_⟩:=rel1.zbi z
  rw [hl] at e';cases e'
 rintro i m H2 ⟨rfl,hi,ρ,acc,mu,rel,nma,fz,st0,gd⟩
 obtain⟨ob,hly,own⟩:=mu.own
 by_cases c:i<items.length
 ·have ed:=List.drop_eq_getElem_cons c
  rw [ed] at gd
  obtain⟨hgo',hy⟩:=wk.1 i items[i] H2 fz (List.getElem?_eq_getElem c)
  refine .inr ⟨hgo',fun x H3 y=>?_⟩
  obtain⟨sm,fx⟩:=hy x H3 y
  have rel3:Rel K ρ σ H3:=rel.same sm
  obtain⟨w,ew,gd⟩:=gd.zdF
  obtain⟨β1,e1,ew⟩:=zaj (show(g items[i] (blk k ix ρ)).bind _=.ok w from ew)
  obtain⟨c1,ec,ew⟩:=zaj ew
  refine⟨blk k ix ρ,items[i],β1,zov nd rel3,fx,e1,fun σ1 relβ chg=>⟨β1,relβ,?_⟩⟩
  rw [ec]
  intro H5 rel5 st5
  have hσ:∀ j,σ1[k+j]?=(zep k ix σ)[k+j]?:=fun j=>by
   rcases chg.2 (k+j) with⟨_,c2⟩|⟨m,_⟩
   ·exact c2
   ·have:=of_decide_eq_true (List.all_eq_true.mp hgo _ m)
    omega
  have hβ:∀ j,β1[k+j]?=(blk k ix ρ)[k+j]?:=fun j=>by
   rcases chg.2 (k+j) with⟨c2,_⟩|⟨m,_⟩
   ·exact c2
   ·have:=of_decide_eq_true (List.all_eq_true.mp hgo _ m)
    omega
  have hMA:∀ a,MA β1 σ1 a->MA (blk k ix ρ) (zep k ix σ) a:=fun a ⟨j,⟨p,d,z1⟩,z2⟩=>by
   rcases chg.2 j with⟨c1,c2⟩|⟨_,⟨d',c1⟩,_⟩
   ·exact⟨j,⟨p,d,by rw [<- c1];exact z1⟩,by rw [<- c2];exact z2⟩
   ·rw [c1] at z1;cases z1
  have hMB:∀ a,MA (blk k ix ρ) (zep k ix σ) a->MA ρ σ a:=fun a ⟨j,h⟩=>by
   obtain⟨_,i,_,_,h⟩:=zhD h
   exact⟨i,h⟩
  have h3l:H3 l=some ob:=sm l _ hly
  have n1:¬ MA β1 σ1 l:=fun z=>nma (hMB l (hMA l z))
  have h5l:H5 l=some ob:=st5.kp l _ h3l n1
  obtain⟨cb,β2⟩:=c1
  cases cb with
  | true =>
   refine zpX ⟨β2,rel5,?_⟩
   obtain⟨y,ey,ew⟩:=zaj (show(kf β2).bind _=.ok w from ew)
   obtain⟨z,ez,ew⟩:=zaj ew
   obtain⟨d',ed',ew⟩:=zaj ew
   rw [ey]
   intro H6 rel6 st6 v fv
   refine⟨y.2,rel6,?_⟩
   rw [ez]
   intro H7 rel7 st7 v2 fv2
   have n2:¬ MA β2 σ1 l:=fun z=>n1 (st5.ma.mpr z)
   have h6l:H6 l=some ob:=st6.kp l _ h5l n2
   have n3:¬ MA y.2 σ1 l:=fun z=>n2 (st6.ma.mpr z)
   have h7l:H7 l=some ob:=st7.kp l _ h6l n3
   have st:Stp β1 z.2 σ1 H3 H7:=(st5.trans st6).trans st7
   obtain⟨rb,sb⟩:=ziF (k:=k) nd rel3 hσ rel7 (fun j p=>by rw [<- hβ j];exact(st.md (k+j) p).symm) (fun a o h n=>st.kp a o h fun z=>n (hMA a z))
   have nmb:¬ MA (back ρ ix (z.2.drop k)) σ l:=fun z=>nma (sb.ma.mpr z)
   have fz6:Fzn H2 H7:=(Fzn.of sm).trans (sb.fzn rel3)
   have mut7:zba K H7 l acc:=mu.mono fz6 (by rw [h7l,hly])
   obtain⟨o',dp,mut8⟩:=zuW mut7 (fv.mono (st7.fzn rel6)) fv2 ed'
   have fz7:Fzn H7 (upd H7 l o'):=fun b u e s=>by
    rw [zas fun z=>by subst z;rw [h7l] at e;cases e;exact zlg own s]
    exact e
   refine⟨_,dp,items.length-(i+1),by omega,rfl,c,back ρ ix (z.2.drop k),d',mut8,rb.put nmb (fun u e=>by rw [h7l] at e;cases e;exact zlg own),nmb,(fz.trans fz6).trans fz7,⟨((st0.trans (.of sm)).trans sb).md,fun a o h n=>?_⟩,?_⟩
   ·rw [zas fun z=>by subst z;rw [hl0] at h;cases h]
    exact((st0.trans (.of sm)).trans sb).kp a o h n
   ·rw [ew]
    exact gd
  | false =>
   obtain⟨rb,sb⟩:=ziF (k:=k) nd rel3 hσ rel5 (fun j p=>by rw [<- hβ j];exact(st5.md (k+j) p).symm) (fun a o h n=>st5.kp a o h fun z=>n (hMA a z))
   have nmb:¬ MA (back ρ ix (β2.drop k)) σ l:=fun z=>nma (sb.ma.mpr z)
   have fz6:Fzn H2 H5:=(Fzn.of sm).trans (sb.fzn rel3)
   refine zpY ⟨items.length-(i+1),by omega,rfl,c,back ρ ix (β2.drop k),acc,mu.mono fz6 (by rw [h5l,hly]),rb,nmb,fz.trans fz6,(st0.trans (.of sm)).trans sb,?_⟩
   rw [show zem k ix g t kf vf (items.drop (i+1)) (back ρ ix (β2.drop k)) acc=.ok w from ew]
   exact gd
 ·have e:i=items.length:=by omega
  subst e
  rw [List.drop_length] at gd
  exact .inl ⟨wk.2 _ H2 fz (Nat.le_refl _),gd H2 rel st0 l hl0 mu⟩
theorem zm2(L:List Str)(ix:List Nat)(M:List Str)(hu:X.A.units+1<cLine)(hc:X.calm=true)(hk:scope.kind=.function)(hd:zde X.env.scope scope X.N ix=true)(hM:M=L++ix.map fun i=>X.N.getD i "") (nd:ix.Nodup) (hi:PVI K X tg iter it)
  (hg:∀ C s₃ H₃ fp,PVG K (zau X M scope C s₃ H₃ fp) dom tg g) (hgo:dom.all (fun i=>decide (i<L.length))=true)
  (ht:∀ C s₃ H₃ fp,zsR K (zau X M scope C s₃ H₃ fp) ifs t) (hke:∀ C s₃ H₃ fp,PV K (zau X M scope C s₃ H₃ fp) ke kf) (he:∀ C s₃ H₃ fp,PV K (zau X M scope C s₃ H₃ fp) ve vf)
  (hs:∀ x,foldedSetIterable iter X.env x=pure x:=by intro _;rfl) :
  PVN K X (.DictComp ke ve [⟨tg,iter,ifs,0⟩] scope pos) (zhy L.length ix it g t kf vf):=.mk fun hK=>by
 refine(zl6 L ix M hu hc hk hd hM (hi hK) (fun C s₃ H₃ fp=>hg C s₃ H₃ fp hK) (zlz hgo) (fun C s₃ H₃ fp=>ht C s₃ H₃ fp hK) (fun C s₃ H₃ fp=>hke C s₃ H₃ fp hK) (fun C s₃ H₃ fp=>he C s₃ H₃ fp hK) hs).weak fun σ H Q q=>zsx nd hgo σ H Q q
end
end FL
namespace L2
open PySem PySem.Spec PyProof.Rows
theorem zoB(a v:Value):argsOk "max" ⟨[a],[(Str.ofString "default",v)]⟩:=by unfold argsOk;kernel_rfl
section
variable {prog:Program}{w:World}{A:Around}{I:Addr}{fp wr:List Addr}{n:Nat}{P:Nat->Value->Prop}{St:Nat->Heap->Prop}{R:Result->Shared->Prop}
theorem zuf(W:Walks prog w A.in1 I fp wr n P St)(bt:Nat->Nat->Bool)(hb:CmpOf prog w A.in1 .Gt P bt)(S:Addr)(nf:S∉fp)(dv:Value) :
  ∀(k j:Nat) (s:Shared) (its:Array Value) (c:Nat),n-j=k->j<=n->St j s.heap->s.heap.get? S=some { cls:=.type "list",dict:=none,data:=.seq its c,slots:=#[] } ->
  ((j=0/\its=#[])\/∃ u i,j=i+1/\its=#[u,u]/\P (argBest bt i) u) ->
  (∀ v h' tk,((n=0/\v=dv)\/(0<n/\P (argBest bt (n-1)) v))->(∀ b o,b∉wr->b≠S->s.heap.get? b=some o->h'.get? b=some o)->R (.ok (.ret v)) { s with heap:=h',toks:=tk }) ->
  codeAny (model prog w) A (.builtin "max.loop" ⟨[.ref I,.none,.ref S],[(Str.ofString "default",dv)]⟩) R s:=by
 have nw:S∉wr:=fun h=>nf (W.sub _ h)
 have nm:(toString "max" ++ toString ".loop":String)="max.loop":=by decide
 intro k
 induction k with
 | zero =>
  intro j s its c e0 le st g alt fin
  have jn:j=n:=by omega
  subst jn
  refine codeAny_builtin F.entry_max_loop (?_:wpAny _ _ _ _ _ s)
  rw [Around.under_plainId F.plain_max_loop _];show wpAny _ A.in1 (seqItems? (.ref S) >>= _) _ _ s
  refine wpAny_bind (wpAny_seqItems g rfl ?_);show wpAny _ A.in1 (tryCatch (pyNext (.ref I)) _ >>= _) _ _ s
  refine wpAny_bind (wpAny_tryCatch (W.done s _ _ st fun h' tk kp=>?_))
  rcases alt with⟨z,rfl⟩|⟨u,i,rfl,rfl,pu⟩
  ·exact wpAny_bind (wpAny_rule (wpAny_pure (fin dv h' tk (.inl ⟨z,rfl⟩) fun b o hw hS e=>kp b o hw e)))
  ·have g':=kp S _ nw g
   show wpAny _ A.in1 (updateSeq S (fun _=>#[]) >>= _) _ _ _;refine wpAny_bind (wpAny_updateSeq g' rfl (wpAny_bind (wpAny_letGo (wpAny_pure ?_))))
   exact fin u _ tk (.inr ⟨Nat.succ_pos _,pu⟩) fun b o hw hS e=>(Heap.get?_update_other _ _ (Ne.symm hS)).trans (kp b o hw e)
 | succ k ih =>
  intro j s its c e0 le st g alt fin
  have lt:j<n:=by omega
  refine codeAny_builtin F.entry_max_loop (?_:wpAny _ _ _ _ _ s)
  rw [Around.under_plainId F.plain_max_loop _];show wpAny _ A.in1 (seqItems? (.ref S) >>= _) _ _ s
  refine wpAny_bind (wpAny_seqItems g rfl ?_);show wpAny _ A.in1 (tryCatch (pyNext (.ref I)) _ >>= _) _ _ s
  refine wpAny_bind (wpAny_tryCatch (W.item j s _ _ lt st fun v h' tk pv st' kp=>?_))
  have g':=kp S _ nw g
  rcases alt with⟨rfl,rfl⟩|⟨u,i,rfl,rfl,pu⟩
  ·show wpAny _ A.in1 (updateSeq S (fun _=>#[v,v]) >>= _) _ _ _;refine wpAny_bind (wpAny_updateSeq g' rfl ?_)
   rw [nm];refine wpAny_pure ⟨plainId_quiet F.plain_max_loop _,ih 1 _ #[v,v] _ (by omega) (by omega) (W.frame _ _ _ st' fun b hb o e=>?_) (Heap.get?_update_self _ g' rfl) (.inr ⟨v,0,rfl,rfl,pv⟩) fun v' h2 tk2 pf kp2=>?_⟩
   ·exact(Heap.get?_update_other _ _ (fun h:S=b=>nf (by rw [h];exact hb))).trans e
   ·exact fin v' h2 tk2 pf fun b o hw hS e=>kp2 b o hw hS ((Heap.get?_update_other _ _ (Ne.symm hS)).trans (kp b o hw e))
  ·show wpAny _ A.in1 (tryCatch (holding [v,v] (richCompare .Gt v u >>= _)) _ >>= _) _ _ _;refine wpAny_bind (wpAny_tryCatch (wpAny_holding (wpAny_bind (hb (i+1) (argBest bt i) v u _ _ _ pv pu ?_))))
   refine wpAny_bind (wpAny_holding (wpAny_truthy_bool (wpAny_bind (wpAny_letGo (wpAny_pure ?_)))))
   cases eb:bt (i+1) (argBest bt i) with
   | true =>
    simp only [if_true];refine wpAny_bind (wpAny_updateSeq g' rfl (wpAny_bind (wpAny_letGo ?_)))
    rw [nm];refine wpAny_pure ⟨plainId_quiet F.plain_max_loop _,ih (i+2) _ #[v,v] _ (by omega) (by omega) (W.frame _ _ _ st' fun b hb o e=>?_) (Heap.get?_update_self _ g' rfl) (.inr ⟨v,i+1,rfl,rfl,by simp only [argBest,eb,if_true];exact pv⟩) fun v' h2 tk2 pf kp2=>?_⟩
    ·exact(Heap.get?_update_other _ _ (fun h:S=b=>nf (by rw [h];exact hb))).trans e
    ·exact fin v' h2 tk2 pf fun b o hw hS e=>kp2 b o hw hS ((Heap.get?_update_other _ _ (Ne.symm hS)).trans (kp b o hw e))
   | false =>
    simp only [Bool.false_eq_true,if_false];refine wpAny_bind (wpAny_letGo ?_)
    rw [nm];refine wpAny_pure ⟨plainId_quiet F.plain_max_loop _,ih (i+2) _ #[u,u] c (by omega) (by omega) st' g' (.inr ⟨u,i+1,rfl,rfl,by simp only [argBest,eb,Bool.false_eq_true,if_false];exact pu⟩) fun v' h2 tk2 pf kp2=>?_⟩
    exact fin v' h2 tk2 pf fun b o hw hS e=>kp2 b o hw hS (kp b o hw e)
end
end L2
namespace FL
open PySem L2 PySem.Spec
open PyProof.Rows hiding St
theorem zos[Cs]{X:Cx}{pins:List (Addr×Obj)}{σ:L2.St}{H:Hp}{s:Shared}{a:Addr}{ns:List Int}{dv:V}{r:Value}{Q:VK}{E:Value->Shared->Prop}(hc:X.calm=true)(I:Inv X pins σ H s)(hq:SqL X.K H a (ns.map V.int))(rr:RelV dv r)(q:Q (((zuk ns).map V.int).getD dv) H) :
  wpAny (model X.prog X.w) X.A (call (.builtin "max") [.ref a] [(Str.ofString "default",r)]) (EP X pins σ Q) E s:=by
 obtain⟨its,rv,p,hz⟩:=I.list hq
 have hi:=intsAre_of rv
 obtain⟨xs,e⟩:=hi.allInts.items
 have hns:ns=xs.toList.map (·.1):=by
  have h1:=nums_intItems xs
  rw [<- e] at h1
  rw [<- h1,show its.toArray.toList=its from rfl,hi.numsOf]
 have nm:(toString "max" ++ toString ".loop":String)="max.loop":=by decide
 refine kmk_tree F.kind_max F.plain_max F.entry_max (zoB _ _) ?_
 show wpAny _ X.A.in1 (Builtin.Builtins.bindParams "max" ["key","default"] 0 ⟨[],[(Str.ofString "default",r)]⟩ >>= _) _ _ s
 refine wpAny_bind (wpAny_of_eq (show Builtin.Builtins.bindParams "max" ["key","default"] 0 ⟨[],[(Str.ofString "default",r)]⟩=pure [none,some r] from rfl) (wpAny_bind (wpAny_pure ?_)))
 refine wpAny_bind (iter_intList (xs:=xs) (by rw [<- e];exact p.isList) fun s₂ e2 st hfp hlI=>?_)
 subst e2
 refine wpAny_bind (wpAny_newObj_type ?_)
 have W:=Walks.list (prog:=X.prog) (w:=X.w) (A:=X.A.in1) (I.ok.hd hc) s.heap.objs.size a hlI (intItems xs)
 rw [nm]
 refine wpAny_pure ⟨plainId_quiet F.plain_max_loop _,zuf W (fun i j=>decide (numAt xs i > numAt xs j)) (CmpOf.ints_gt (numAt xs) fun _ _=>intItems_at) _ (fun hm=>Nat.lt_irrefl _ (hfp _ hm)) r _ 0 _ #[] _ rfl (Nat.zero_le _) (W.frame _ _ _ st fun b _ o e=>Heap.get?_push_of_some _ e) (Heap.get?_push_size _ rfl) (.inl ⟨rfl,rfl⟩) fun v h' tk alt kp=>?_⟩
 have kept:∀ b o,s.heap.get? b=some o->h'.get? b=some o:=fun b o e=>by
  have lt:=Heap.lt_size e
  refine kp b o (by simp;exact Nat.ne_of_lt lt) (fun z=>?_) (Heap.get?_push_of_some _ (Heap.get?_push_of_some _ e))
  rw [z] at lt
  exact absurd (Nat.lt_trans lt (hfp s.heap.objs.size (List.mem_cons_self ..))) (Nat.lt_irrefl _)
 have hsz:(intItems xs).size=xs.size:=by simp [intItems]
 rcases alt with⟨z,rfl⟩|⟨z,pv⟩
 ·have en:ns=[]:=by
   rw [hns]
   have:xs.size=0:=by rw [<- hsz];exact z
   simp [Array.size_eq_zero_iff.mp this]
  subst en
  exact⟨dv,H,I.kept kept,rr,q⟩
 ·rw [hsz] at z pv
  obtain⟨t,rfl⟩:=intItems_at pv
  obtain⟨h1,h2⟩:=argBest_gt (numAt xs) (xs.size-1)
  have e2:zuk ns=some (numAt xs (argBest (fun i j=>decide (numAt xs i > numAt xs j)) (xs.size-1))):=by
   refine zsm ?_ fun a ha=>?_
   ·rw [hns,numAt_eq];exact getD_mem (by rw [List.length_map,Array.length_toList];omega)
   ·rw [hns] at ha
    obtain⟨j,hj,rfl⟩:=mem_getD ha
    rw [List.length_map,Array.length_toList] at hj
    rw [<- numAt_eq];exact h2 j (by omega)
  rw [e2] at q
  exact⟨.int _,H,I.kept kept,⟨t,rfl⟩,q⟩
section
variable [Cs]{K:W.Frag}{X:Cx}{e ve:Expr}{f g:EF}{p kp pos:Pos}
theorem zrI(hc:X.calm=true)(hg:Gl X "max") (hm:X.mg "max"=none) (he:PV K X e f) (hv:PV K X ve g) (hb:bootBuiltins "max"=some (.builtin "max"):=by decide +kernel) (hs:starEach [e] X.env=(false,eval e X.env)::starEach [] X.env:=by exact FL.se rfl)
  (hst:backTo pos (starEach [e] X.env)=(false,eval e X.env)::backTo pos (starEach [] X.env):=by rfl) (hpl:(backTo pos (starEach [e] X.env)).any (·.1)=false:=by exact FL.sp rfl) :
  PV K X (.Call (.Name "max" p) [e] [⟨some "default",ve,kp⟩] pos) (e2 znx f g):=.mk fun hK=>by
 subst hK
 intro pins s σ H Q I h
 obtain⟨ρ,rel,q⟩:=h
 have q0:(tA X.K (zaa f zah)) σ H fun vs H1=>∃ dd v ρ1,vs=[v]/\Rel X.K ρ1 σ H1/\Fz X.K H1 dd v/\Good X.K ρ1 σ H1 ((g ρ1).bind fun y=>(znx dd y.1).bind fun d=>.ok (d,y.2)) fun d _ H'=>∀ v,Fz X.K H' d v->Q v H':=by
  obtain⟨y,ey,q⟩:=q.bnd
  refine⟨ρ,rel,?_⟩
  show Good X.K ρ σ H ((f ρ).bind fun x=>(zah x.2).bind fun y=>.ok (x.1::y.1,y.2)) _
  rw [ey]
  intro H1 rel1 st1 vs fs
  simp only [zag] at fs
  obtain⟨v,r,rfl,fv,rfl⟩:=fs
  exact⟨y.1,v,y.2,rfl,rel1,fv,q.step st1⟩
 refine wpAny_Call_Name_kw (zgb I hg hm hb ?_)
 refine callWith_kw (thn ((zbO he zbZ hs rfl) pos pins s σ H _ I q0) fun us s1 ⟨vs,H1,I1,r1,dd,v,ρ1,evs,rel1,fv,q1⟩=>?_) hst hpl rfl rfl
 subst evs
 cases r1 with
 | cons ru rn =>
  cases rn
  refine kws_cons (thn (hv rfl pins s1 σ H1 _ I1 (goV rel1 q1 fun dx ρ2 x H2 rel2 st2 fx q2=>(⟨dx,ρ2,rel2,fx,fv.mono (st2.fzn rel1),q2⟩:∃ dx ρ2,Rel X.K ρ2 σ H2/\Fz X.K H2 dx x/\Fz X.K H2 dd v/\Good X.K ρ2 σ H2 ((znx dd dx).bind fun d=>.ok (d,ρ2)) fun d _ H'=>∀ v,Fz X.K H' d v->Q v H'))) fun u2 s2 ⟨x,H2,I2,rx,dx,ρ2,rel2,fx,fd,q2⟩=>kws_nil ?_)
  obtain⟨dr,edr,q3⟩:=q2.zdF
  cases dd with
  | list l =>
   obtain⟨ns,en,edr⟩:=zaj (show(R.of (intsOf l)).bind _=.ok dr from edr)
   cases edr
   simp only [Fz] at fd
   obtain⟨a,vs,rfl,sx,fl⟩:=fd
   cases ru
   have en':intsOf l=some ns:=by cases z:intsOf l with
    | none=>rw [z] at en;cases en
    | some _=>rw [z] at en;cases en;rfl
   obtain⟨rfl,_⟩:=fl.ints en'
   refine zos hc I2 sx.sq rx (q3.now rel2 _ ?_)
   cases zuk ns with
   | none=>exact fx
   | some m=>exact zci m
  | _=>cases edr
end
end FL
namespace PySem
open Spec
section
variable {prog:Program}{w:World}{A:Around}{E:Value->Shared->Prop}{s:Shared}{K:Type}[DecidableEq K]{knd:HeapKind prog w K}
theorem zxy{d a:Addr}{xs:List (K×Addr×Value)}{k:K}{Q:Value->Shared->Prop}(hu:knd.room A.in1)(hkey:knd.is s.heap k a)(hm:s.heap.DictOfH knd d xs)(there:∃ p,(k,p)∈xs)
  (hQ:∀ v h',h'.DictOfH knd d (zcV xs k)->Heap.SameBut d s.heap h'->Q v { s with heap:=h',toks:=s.toks+knd.draws k })(hsz:xs.length<=sizeLine) :
  wpAny (model prog w) A (call (.builtin "dict.pop") [.ref d,.ref a]) Q E s:=by
 refine wpAny_call_entry PySem.F.slot_dict_pop hm.typeIs PySem.F.entry_dict_pop ?_ (PySem.F.args_dict_pop_2 _ _)
 unfold Builtin.«dict.pop»;refine wpAny_bind ?_
 unfold Builtin.Dict.keyAndDefault;refine wpAny_bind (wpAny_notOrdered_dict hm.typeIs ?_)
 show wpAny _ _ (pure (d,Value.ref a,none)) _ _ s;refine wpAny_pure ?_
 obtain⟨o,es,ep,ho,hc,hd,he,his,hn⟩:=id hm
 have ne:es.isEmpty=false:=by
  obtain⟨p,hp⟩:=there
  cases z:es.isEmpty with
  | false=>rfl
  | true =>
   rw [Array.isEmpty_iff] at z
   rw [z] at he
   have:xs=[]:=by simpa using he.symm
   rw [this] at hp;cases hp
 simp only [show(keyPart (Value.ref a)).isSome=false from rfl,Bool.false_eq_true,if_false]
 refine wpAny_bind (wpAny_dictEntries ho hd (wpAny_bind (wpAny_pure ?_)))
 rw [ne];simp only [Bool.false_eq_true,if_false]
 refine wpAny_bind (zk7 hu hkey hm there (fun e h' hm' hs'=>?_) hsz)
 simp only [Option.isNone_some,Bool.false_eq_true,if_false];exact wpAny_bind (wpAny_letGo (wpAny_pure ⟨e.val,rfl,hQ e.val h' hm' hs'⟩))
end
end PySem
namespace FL
open PySem L2 PySem.Spec
open PyProof.Rows hiding St
section
section
variable {X:Cx}{pins:List (Addr×Obj)}{σ:L2.St}{H:Hp}{s:Shared}{a b:Addr}{kvs:List (List Key×V)}{k:List Key}{A:Around}{E:Value->Shared->Prop}
theorem zuY{Q:Value->Shared->Prop}(hu:A.units+1<cLine)(I:Inv X pins σ H s)(e:H a=some (.dT kvs))(eb:TAt H b (k.map kV))(l:(zgQ kvs k).isSome=true)(h:∀ v s',Inv X pins σ (upd H a (.dT (zbt kvs k))) s'->Q v s') :
  wpAny (model X.prog X.w) A (call (.builtin "dict.pop") [.ref a,.ref b]) Q E s:=by
 obtain⟨z,hd,xs,rel,dd⟩:=zp8 I.hok e
 have hz:xs.length<=sizeLine:=by rw [<- Paired.length rel];exact z
 have there:∃ p,(k,p)∈xs:=by
  have hv:=rel.val k
  obtain⟨v,ev⟩:=Option.isSome_iff_exists.mp l
  rw [ev] at hv
  obtain⟨w',hw,_⟩:=zkS.some_of (v:=v) (o:=(atKey xs k).map (·.2)) hv
  obtain⟨p,hp,_⟩:=Option.map_eq_some_iff.mp hw
  unfold atKey at hp
  obtain⟨x,hx,ex⟩:=Option.map_eq_some_iff.mp hp
  have h0:=List.find?_some hx
  have h1:x.1=k:=of_decide_eq_true h0
  exact⟨x.2,by rw [<- h1];exact List.mem_of_find?_eq_some hx⟩
 refine zxy (tupleKind_room_in1 hu) (zb7 I.hok eb) dd there (fun v h' dd' hs=>h v _ ?_) hz
 obtain⟨q,es,ep,hq,h2,h3,h4,_,h5⟩:=dd'
 refine zcf I (by rw [e];exact True.intro) hs ⟨q,hq⟩ ⟨Nat.le_trans (zfM kvs k) z,hd,_,(rel.drop k).keeps fun c ys ec=>?_,q,es,ep,hq,h2,h3,h4,h5⟩
 exact ec.upd (fun _ z=>zfv z e (fun z=>nomatch z)) fun _ _ z=>zfv z e (fun z=>nomatch z)
end
section
variable {X:Cx}{o e:Expr}{td ty:TE}{apos cpos pos:Pos}
def zvD(td ty:TE):TS:=fun D σ H=>td σ H fun x H1=>∃ a,x=.ref a/\IsD H1 a/\ty σ H1 fun y H2=>∃ o,DDl H2 a y o/\D.nx σ (upd H2 a o)
theorem zrR(hu:X.A.units+1<cLine)(ho:PE X o td)(he:PE X e ty)(m:M1 X o "pop" apos e cpos) (hs:swapsWith (.Call (.Attribute o "pop" apos) [e] [] cpos) none pos.line X.env=pure false:=by rfl) :
  PS X (.Expr (.Call (.Attribute o "pop" apos) [e] [] cpos) pos) (zvD td ty):=by
 intro pins s σ H D I h
 refine wpAny_Expr_any ?_ I.quiet hs
 refine wpAny_Call_method m.base m.few m.line PySem.F.plainAttrs_dict PySem.F.slot_dict_pop PySem.F.type_dict_pop (thn (ho pins s σ H _ I h) fun u s1 ⟨x,H1,I1,rx,a,ex,d,q1⟩=>?_)
 subst ex
 obtain rfl:u=Value.ref a:=rx
 obtain⟨t1,t2,_⟩:=zqJ I1 d
 refine⟨t1,t2,?_⟩
 rw [m.trees];refine Calls.callWith_builtin rfl (Calls.evalArgs_plain (Calls.spliced_cons (thn (he pins s1 σ H1 _ I1 q1) fun iv s2 ⟨y,H2,I2,ry,o2,g,q2⟩=>Calls.spliced_nil ?_)))
 rcases g with⟨kvs,k,e,rfl,l,rfl⟩|⟨kvs,k,b,e,rfl,eb,l,rfl⟩
 ·obtain⟨v,ev⟩:=Option.isSome_iff_exists.mp l
  exact zwA I2 e ry ev (.inl rfl) fun w' s3 I3 _=>⟨σ,_,I3,q2⟩
 ·cases (show iv=Value.ref b from ry)
  exact zuY hu I2 e eb l fun v s3 I3=>⟨σ,_,I3,q2⟩
end
section
variable [Cs]{K:W.Frag}{X:Cx}{pos:Pos}
theorem zph{y:Str}{py apos cpos:Pos}{ke:Expr}{k:EF}(i:Nat)(hu:X.A.units+1<cLine)(ha:PE X (.Name y py) (zgS i))(hk:PV K X ke k)(m:M1 X (.Name y py) "pop" apos ke cpos)
  (hs:swapsWith (.Call (.Attribute (.Name y py) "pop" apos) [ke] [] cpos) none pos.line X.env=pure false:=by rfl):PSV K X (.Expr (.Call (.Attribute (.Name y py) "pop" apos) [ke] [] cpos) pos) (zon i k):=.mk fun hK C=>by
 subst hK
 refine(zrR hu ha (hk rfl) m hs).weak fun Dn σ H=>?_
 rintro⟨ρ,rel,g⟩
 obtain⟨d,ed,g1⟩:=g.bnd
 obtain⟨ks,ek,g2⟩:=g1.bnd
 obtain⟨a,at0,m0⟩:=rel.rel.zln ed
 refine⟨.ref a,at0.2,a,rfl,?_,zmj rel g2 fun dk ρ2 kv H2 rel2 st2 fk g3=>?_⟩
 ·cases d with
  | dict kvs=>exact zhm (d:=.none) m0
  | _=>cases ek
 obtain⟨c,ec,g4⟩:=g3.bnd
 obtain⟨d',ed',g5⟩:=g4.bnd
 obtain⟨o,dd,mm⟩:=zuX (rel2.rel.again ec at0) fk ed'
 obtain⟨a2,at2,_⟩:=rel2.rel.zln ec
 have:=at0.2.symm.trans at2.2
 cases this
 exact⟨o,dd,zn7 rel2 at2 mm g5⟩
end
end
section
theorem zna{ρ:En}{i:Nat}{c:List D}(h:zh6 ρ i=.ok c):ρ[i]?=some (.ow true (.list c)):=by
 unfold zh6 at h
 split at h
 ·rename_i l e;cases h;exact e
 ·cases h
section
variable [Cs]{K:W.Frag}{X:Cx}{tg:Expr}{g:GF}{b:SF}{body:List Stmt}{pos:Pos}
theorem zqu{C:SC}{ρ:En}{σ:L2.St}{H:Hp}{i:Nat}{c:List D}(r:zdt K C ρ σ H)(h:zh6 ρ i=.ok c):∃ a vs,C.σ₀[i]?=some (some (.ref a))/\σ[i]?=some (some (.ref a))/\H a=some (.lst vs)/\zag K H c vs:=by
 have e:=zna h
 obtain⟨a,vs,at0,h1,h2⟩:=r.rel.zvi (show zcy ρ i=.ok c by unfold zcy;rw [e])
 exact⟨a,vs,by rw [<- r.fix i _ e];exact at0.2,at0.2,h1,h2⟩
theorem zpg{y:Str}{py:Pos}{dom:List Nat}(io:Nat)(hp:PassesOwn (model X.prog X.w) X.A X.env X.xe)(hc:X.calm=true)(ha:PE X (.Name y py) (zgS io))(hg:PVG K X dom tg g)(hb:ziJ K X body b)(hs:∀ x,foldedSetIterable (.Name y py) X.env x=pure x:=by intro _;rfl) :
  PSV K X (.For tg (.Name y py) body [] pos) (zrm io g b):=.mk fun hK C=>by
 subst hK
 refine(zqs hp hc (zrY ha) (hg rfl) (hb rfl C) hs).weak fun Dn σ0 H0=>?_
 rintro⟨ρ0,rel0,q⟩
 obtain⟨l0,e0,q0⟩:=q.bnd
 obtain⟨ad,vs0,hc0,hs0,hh0,hf0⟩:=zqu rel0 e0
 refine⟨.ref ad,hs0,ad,rfl,⟨vs0,SqL.of hh0⟩,fun i m σ H=>∃ ρ,zdt X.K C ρ σ H/\zbU X.K C H (zqP io g b m i ρ) Dn,⟨l0.length+1,ρ0,rel0,q0⟩,?_⟩
 rintro i m σ H ⟨ρ,rel,gd⟩
 cases m with
 | zero=>exact gd.elim
 | succ n =>
  obtain⟨l,el,gd1⟩:=gd.bnd
  obtain⟨a1,vs,hc1,hs1,hh1,hf1⟩:=zqu rel el
  have:a1=ad:=by rw [hc0] at hc1;cases hc1;rfl
  subst this
  cases ei:l[i]? with
  | none =>
   rw [ei] at gd1
   refine .inl ⟨⟨vs,SqL.of hh1,?_⟩,gd1 σ H rel (Fzn.refl _)⟩
   rw [hf1.len];exact List.getElem?_eq_none_iff.mp ei
  | some d =>
   rw [ei] at gd1
   obtain⟨v,ev,fv⟩:=hf1.get ei
   refine .inr ⟨⟨vs,v,SqL.of hh1,ev⟩,fun σ' H'=>∃ ρ,zdt X.K C ρ σ' H'/\zbU X.K C H' (zqP io g b n (i+1) ρ) Dn,fun σ' H' n'=>⟨n,Nat.lt_succ_self _,n'⟩,fun x H3 yl=>?_⟩
   obtain⟨rfl,yl⟩:=yl
   have ex0:=yl vs (SqL.of hh1)
   rw [ev] at ex0
   cases ex0
   obtain⟨ρ1,e1,gd2⟩:=(show zbU X.K C H3 ((g d ρ).bind _) Dn from gd1).bnd
   refine⟨ρ,d,ρ1,rel.rel,fv,e1,fun σ1 rel4 chg=>⟨ρ1,rel.chg rel4 chg,?_⟩⟩
   obtain⟨w,ew,gd3⟩:=gd2.bnd
   rw [ew]
   obtain⟨fl,ρ2⟩:=w
   cases fl with
   | nx=>exact fun σ' H' r z=>⟨ρ2,r,gd3.step z⟩
   | ct=>exact fun σ' H' r z=>⟨ρ2,r,gd3.step z⟩
   | bk=>exact gd3
   | rt d=>exact gd3
   | rf d=>exact gd3
end
end
end FL
namespace L2
open PySem PySem.Spec PyProof.Rows
open PySem.SeqAt
open PySem.AutoSeq1 (wpAny_loadPart')
open PySem.MeetsSeq PySem.MeetsSeq2 PySem.MeetsSeq3
section
variable {X:Cx}{pins:List (Addr×Obj)}{σ:L2.St}{H:Hp}{s:Shared}
theorem zsr(hu:X.A.units+2<cLine)(I:Inv X pins σ H s){k k':WK}{v v':V}{u u':Value}{Q:Value->Shared->Prop}{E:Value->Shared->Prop}(h:zdV H k v)(h':zdV H k' v')(r:RelV v u)(r':RelV v' u')
  (q:Q (.bool (ltK k k')) s):wpAny (model X.prog X.w) X.A (compareOp .Lt u u') Q E s:=by
 obtain⟨b,o,n0,c,tk,rfl,ho,hc,hd,hw⟩:=zgd I h r
 obtain⟨b',o',n0',c',tk',rfl,ho',hc',hd',hw'⟩:=zgd I h' r'
 refine wpAny_richCompare_same_room (op:=.Lt) (T:="tuple") (id:="tuple.__lt__") ⟨_,ho,hc⟩ ⟨_,ho',hc'⟩ PySem.F.slot_tuple_lt (wpAny_call_entry PySem.F.slot_tuple_lt ⟨_,ho,hc⟩ PySem.F.entry_tuple_lt ?_ (PySem.F.args_tuple_lt_2 _ _)) (by omega)
 obtain⟨ocl,od,oda,osl⟩:=o
 obtain⟨ocl',od',oda',osl'⟩:=o'
 simp only at hc hd hc' hd'
 subst hc hd hc' hd'
 obtain⟨hp,g,d,tks,os⟩:=s
 have f2:=AutoSeq1.sub_tuple_tuple
 have i1:=zb7 (ks:=k.2.map (Sum.inl (β:=Str))) I.hok (by rw [map_inl];exact hw)
 have i2:=zb7 (ks:=k'.2.map (Sum.inl (β:=Str))) I.hok (by rw [map_inl];exact hw')
 obtain⟨its,p1,j1⟩:=zij I hw
 obtain⟨its',p2,j2⟩:=zij I hw'
 wp_walk using wpAny_loadPart' ho,wpAny_loadPart' ho',wpAny_forIn_list _ (fun rest bb s'=>bb.1=none/\s'=⟨hp,g,d,tks,os⟩/\((rest=[(Value.int k.1 tk,Value.int k'.1 tk'),(.ref c,.ref c')])\/(k.1=k'.1/\rest=[(Value.ref c,Value.ref c')])\/(k.1=k'.1/\k.2=k'.2/\rest=[]))) _
 case turn =>
  rintro⟨y,x⟩ rest bb s' ⟨hb',rfl,alt⟩
  rcases alt with e|⟨e1,e⟩|⟨e1,e2,e⟩
  ·cases e
   refine wpAny_bind (wpAny_eqBool_int ?_)
   by_cases e1:k.1=k'.1
   ·rw [show(k.1==k'.1)=true from by simpa using e1]
    wp_walk
    exact⟨rfl,rfl,.inr (.inl ⟨e1,rfl⟩)⟩
   ·rw [show(k.1==k'.1)=false from by simpa using e1]
    have hri:=HT.zld X.A.in1 ⟨hp,g,d,tks,os⟩ k.1 tk k'.1 tk' X.prog X.w
    wp_walk using hri
    refine⟨_,rfl,(fun z=>nomatch z),?_⟩
    unfold ltK at q
    rw [if_neg e1] at q
    exact q
  ·cases e
   refine wpAny_bind (wpAny_eqBool_tuple (by show X.A.units+1<cLine;omega) i1 i2 ?_)
   by_cases e2:k.2=k'.2
   ·rw [show decide (k.2.map (Sum.inl (β:=Str))=k'.2.map Sum.inl)=true from by rw [e2];simp]
    wp_walk
    exact⟨rfl,rfl,.inr (.inr ⟨e1,e2,rfl⟩)⟩
   ·rw [show decide (k.2.map (Sum.inl (β:=Str))=k'.2.map Sum.inl)=false from decide_eq_false fun z=>e2 (by
     have:=congrArg (List.map (Sum.elim id fun _=>(0:Int))) z
     simpa [List.map_map,Function.comp_def] using this)]
    have hri:∀{C:Value->Shared->Prop} {E:Value->Shared->Prop},C (.bool (HT.lexLt k.2 k'.2)) ⟨hp,g,d,tks,os⟩->wpAny (model X.prog X.w) X.A.in1 (richCompare .Lt (.ref c) (.ref c')) C E ⟨hp,g,d,tks,os⟩:=fun{C E} hC=>HT.zeL p1 p2 j1 j2 (by show X.A.units+1<cLine;omega) hC
    wp_walk using hri
    refine⟨_,rfl,(fun z=>nomatch z),?_⟩
    unfold ltK at q
    rw [if_pos e1] at q
    exact q
  ·cases e
 case fin =>
  rintro⟨b1,b2⟩ s' ⟨hb',rfl,alt⟩
  simp only at hb'
  subst hb'
  rcases alt with e|⟨e1,e⟩|⟨e1,e2,e⟩
  ·cases e
  ·cases e
  ·wp_walk
   refine⟨_,rfl,(fun z=>nomatch z),?_⟩
   unfold ltK at q
   rw [if_pos e1,e2] at q
   have z:HT.lexLt k'.2 k'.2=false:=by
    cases hz:HT.lexLt k'.2 k'.2 with
    | false=>rfl
    | true=>exact hz.symm.trans (zlr _ _ hz)
   rw [z] at q
   exact q
 case h=>exact⟨rfl,rfl,.inl rfl⟩
end
end L2
namespace FL
open PySem L2 PySem.Spec
open PyProof.Rows hiding St
theorem zxa{α:Type}{o:Option α}{a:α}(h:R.of o=.ok a):o=some a:=by
 cases o with
 | none=>cases h
 | some x=>cases h;rfl
theorem zs0[Cs]{K:W.Frag}{H:Hp}{d:D}{w:WK}{v:V}(e:zo1 d=some w)(t:Tp K H d v):Fz K H d v:=by
 cases d with
 | list _=>cases e
 | dict _=>cases e
 | _=>exact t
theorem zwc[Cs]{X:Cx}(hu:X.A.units+64<cLine):OpR X (compareOp .Lt) (rD X.K zun):=by
 intro pins s σ H x y v u Q I rx ry h
 obtain⟨dx,dy,d,tx,ty,e,k⟩:=h
 obtain⟨p,ep,e⟩:=zaj (show(R.of (zo1 dx)).bind _=.ok d from e)
 obtain⟨q,eq,e⟩:=zaj e
 cases e
 have hp:=zxa ep
 have hq:=zxa eq
 refine zsr (by omega) I (zmA hp (zs0 hp tx)) (zmA hq (zs0 hq ty)) rx ry ⟨.bl (ltW p q),H,I,?_,k _ H (zaP.refl _) (zg2 _)⟩
 show Value.bool (ltK p q)=.bool (ltW p q)
 unfold ltK ltW
 rw [zfK]
end FL
namespace FL
open PySem
end FL
namespace L2
open PySem PySem.Spec PyProof.Rows PySem.W
end L2
namespace FL
open PySem L2 PySem.Spec
open PyProof.Rows hiding St
section
variable [Cs]
end
section
variable [Cs]
section
variable {P:Program}{w:World}{K:W.Frag}{mg:Str->Option Value}{base:Heap}{x:Str}{st:Stmt}{ps:List Str}{k:Nat}{b:SF}{fr:Bool}
theorem fnM(ms:List Bool)(N:List Str)(h:Has K mg x st)
  (hb:∀{f:Addr} {cdv:Value} {A:Around} {outer:List Env} {s:Shared} {H:Hp} {E:XK},zbT k (A.deeper (envOfC x (zat st) s.heap.objs.size f cdv))->N.Nodup->ziJ K (zoZ (CXe P w) P w K mg base N x (zat st) f cdv A outer s H E).nox (zbq st) b)
  (S:zdj N ps (zat st):=by exact⟨rfl,rfl,rfl,by decide +kernel,rfl,by decide +kernel,by decide +kernel⟩)(hps:ps.length=ms.length:=by rfl)(hpN:ps.length<=N.length:=by decide)
  (hbi:∀(kV doc pm:Value) (an:Option Addr) (cdv ct:Value) (us:List Value),us.length=ps.length->bindArgs (PySem.W.fnOf x x (zcI st) (zbq st) (zat st) .none kV doc pm an cdv ct) ⟨us,[]⟩=pure (ps.zip us):=by
   first
    | exact fun _ _ _ _ _ _ us hl=>match us,hl with | [_],_=>rfl
    | exact fun _ _ _ _ _ _ us hl=>match us,hl with | [_,_],_=>rfl
    | exact fun _ _ _ _ _ _ us hl=>match us,hl with | [_,_,_],_=>rfl
    | exact fun _ _ _ _ _ _ us hl=>match us,hl with | [_,_,_,_],_=>rfl
    | exact fun _ _ _ _ _ _ us hl=>match us,hl with | [_,_,_,_,_],_=>rfl):Callee P w K mg base x (k+1) ps (spF K ms fr (FL.run ms fr N.length b)) :=
 zuM ms fr h S hps hpN hbi fun f cdv A outer s H E hr=>zm0 (hb hr S.nd)
theorem fnP(N:List Str)(h:Has K mg x st)
  (hb:∀{f:Addr} {cdv:Value} {A:Around} {outer:List Env} {s:Shared} {H:Hp} {E:XK},zbT k (A.deeper (envOfC x (zat st) s.heap.objs.size f cdv))->N.Nodup->ziJ K (zoZ (CXe P w) P w K mg base N x (zat st) f cdv A outer s H E).nox (zbq st) b)
  (S:zdj N ps (zat st):=by exact⟨rfl,rfl,rfl,by decide +kernel,rfl,by decide +kernel,by decide +kernel⟩)(hpN:ps.length<=N.length:=by decide)
  (hbi:∀(kV doc pm:Value) (an:Option Addr) (cdv ct:Value) (us:List Value),us.length=ps.length->bindArgs (PySem.W.fnOf x x (zcI st) (zbq st) (zat st) .none kV doc pm an cdv ct) ⟨us,[]⟩=pure (ps.zip us):=by
   first
    | exact fun _ _ _ _ _ _ us hl=>match us,hl with | [_],_=>rfl
    | exact fun _ _ _ _ _ _ us hl=>match us,hl with | [_,_],_=>rfl
    | exact fun _ _ _ _ _ _ us hl=>match us,hl with | [_,_,_],_=>rfl
    | exact fun _ _ _ _ _ _ us hl=>match us,hl with | [_,_,_,_],_=>rfl
    | exact fun _ _ _ _ _ _ us hl=>match us,hl with | [_,_,_,_,_],_=>rfl):Callee P w K mg base x (k+1) ps (spP K ps.length fr (za7 fr ps.length N.length b)) :=
 Callee.pure (fnM (List.replicate ps.length false) N h hb S (by simp) hpN hbi)
end
section
variable {K:W.Frag}{X:Cx}{a b c e:Expr}{es:List Expr}{f h g1 g2:EF}{fa:AF}{pos p:Pos}{j k:Nat}
theorem a1(ha:PV K X a f)(hs:starEach [a] X.env=(false,eval a X.env)::starEach [] X.env:=by exact FL.se rfl):PVA K X [a] (zaa f zah):=zbO ha zbZ hs
theorem a2(ha:PV K X a f)(hb:PV K X b h)(hs:starEach [a,b] X.env=(false,eval a X.env)::starEach [b] X.env:=by exact FL.se rfl)(hs2:starEach [b] X.env=(false,eval b X.env)::starEach [] X.env:=by exact FL.se rfl):PVA K X [a,b] (zaa f (zaa h zah)):=zbO ha (a1 hb hs2) hs
theorem a3(ha:PV K X a f)(hb:PV K X b h)(hc:PV K X c g1)(hs:starEach [a,b,c] X.env=(false,eval a X.env)::starEach [b,c] X.env:=by exact FL.se rfl)(hs2:starEach [b,c] X.env=(false,eval b X.env)::starEach [c] X.env:=by exact FL.se rfl)(hs3:starEach [c] X.env=(false,eval c X.env)::starEach [] X.env:=by exact FL.se rfl):PVA K X [a,b,c] (zaa f (zaa h (zaa g1 zah))):=zbO ha (a2 hb hc hs2 hs3) hs
variable {ps:List Str}{x y:Str}{G:List D->R D}{n:Nat}{py:Pos}
theorem zbb(cc:Callee X.prog X.w X.K X.mg X.base x k ps (spP X.K n false G))(hr:zbT j X.A)(ha:PVA K X (e::es) fa)(hl:zsU fa n:=by repeat (first|exact zlR|refine zjP ?_))(hg:Gl X x:=by rfl)(hj:k<=j:=by decide)(hdb:(x==("__debug__":Str))=false:=by decide)
  (he:starEach (e::es) X.env=(false,eval e X.env)::starEach es X.env:=by exact FL.se rfl) (hpl:(backTo pos (starEach es X.env)).any (·.1)=false:=by exact FL.sp rfl):PV K X (.Call (.Name x p) (e::es) [] pos) (zae G fa):=zrK cc hr hg zia ha hl hj hdb he hpl
theorem zaC(cc:Callee X.prog X.w X.K X.mg X.base x k ps (spP X.K n true G))(hr:zbT j X.A)(ha:PVA K X (e::es) fa)(hl:zsU fa n:=by repeat (first|exact zlR|refine zjP ?_))(hg:Gl X x:=by rfl)(hj:k<=j:=by decide)(hdb:(x==("__debug__":Str))=false:=by decide)
  (he:starEach (e::es) X.env=(false,eval e X.env)::starEach es X.env:=by exact FL.se rfl) (hpl:(backTo pos (starEach es X.env)).any (·.1)=false:=by exact FL.sp rfl):PVN K X (.Call (.Name x p) (e::es) [] pos) (zae G fa):=zpm cc hr hg zia ha hl hj hdb he hpl
variable {F:List D->R (D×List D)}{ar:List Ar}
theorem zd6(cc:Callee X.prog X.w X.K X.mg X.base x k ps (spF X.K (arM ar) false F))(hr:zbT j X.A)(ha:zmp K X (e::es) ar)(ho:zsY F (arM ar).length:=by exact zlj)(nd:(arI ar).Nodup:=by decide)(ct:arT ar<=1:=by decide)(hg:Gl X x:=by rfl)(hj:k<=j:=by decide)(hdb:(x==("__debug__":Str))=false:=by decide)
  (he:starEach (e::es) X.env=(false,eval e X.env)::starEach es X.env:=by exact FL.se rfl) (hpl:(backTo pos (starEach es X.env)).any (·.1)=false:=by exact FL.sp rfl):PV K X (.Call (.Name x p) (e::es) [] pos) (zak F ar):=zpr cc ho nd ct hr hg zia ha hj hdb he hpl
theorem ztA(cc:Callee X.prog X.w X.K X.mg X.base x k ps (spF X.K (arM ar) true F))(hr:zbT j X.A)(ha:zmp K X (e::es) ar)(ho:zsY F (arM ar).length:=by exact zlj)(nd:(arI ar).Nodup:=by decide)(ct:arT ar<=1:=by decide)(hg:Gl X x:=by rfl)(hj:k<=j:=by decide)(hdb:(x==("__debug__":Str))=false:=by decide)
  (he:starEach (e::es) X.env=(false,eval e X.env)::starEach es X.env:=by exact FL.se rfl) (hpl:(backTo pos (starEach es X.env)).any (·.1)=false:=by exact FL.sp rfl):PVN K X (.Call (.Name x p) (e::es) [] pos) (zak F ar):=zm3 cc ho nd ct hr hg zia ha hj hdb he hpl
theorem zkQ(i:Nat)(h:zmp K X es ar)(ha:PE X (.Name y py) (zgS i):=by exact pv _)(hs:starEach (.Name y py::es) X.env=(false,eval (.Name y py) X.env)::starEach es X.env:=by exact FL.se rfl):zmp K X (.Name y py::es) (.m i::ar):=ztB i ha h hs
theorem zft{id:String}{g:D->R D}(hc:CallD X (.builtin id) g)(hm:X.mg x=none)(hv:bootBuiltins x=some (.builtin id))(ha:PV K X e f)(hg:Gl X x:=by rfl)(hn:x ≠ "__name__":=by decide) (hdb:(x==("__debug__":Str))=false:=by decide)
  (he:starEach [e] X.env=(false,eval e X.env)::starEach [] X.env:=by exact FL.se rfl) (hpl:(backTo pos (starEach [] X.env)).any (·.1)=false:=by exact FL.sp rfl):PV K X (.Call (.Name x p) [e] [] pos) (e1 g f):=zm4 (zps (CallD.ds hc) hg hm hv (a1 ha he) hn hdb he hpl)
theorem zkf{T:String}{g:D->R D}(hc:CallD X (.type T) g)(hm:X.mg x=none)(hv:bootBuiltins x=some (.type T))(ha:PV K X e f)(hg:Gl X x:=by rfl)(hn:x ≠ "__name__":=by decide) (hdb:(x==("__debug__":Str))=false:=by decide)
  (he:starEach [e] X.env=(false,eval e X.env)::starEach [] X.env:=by exact FL.se rfl) (hpl:(backTo pos (starEach [] X.env)).any (·.1)=false:=by exact FL.sp rfl):PV K X (.Call (.Name x p) [e] [] pos) (e1 g f):=zm4 (zm6 (CallD.ds hc) hg hm hv (a1 ha he) hn hdb he hpl)
theorem zkg{T:String}{tn:Str}{p2:Pos}(kt:zjV T)(hm:X.mg "isinstance"=none) (hm2:X.mg tn=none) (hv2:bootBuiltins tn=some (.type T)) (ha:PV K X a f) (hg:Gl X "isinstance":=by rfl) (hg2:Gl X tn:=by rfl) (hn:tn ≠ "__name__":=by decide) (hd:(tn==("__debug__":Str))=false:=by decide)
  (hs1:starEach [a,.Name tn p2] X.env=(false,eval a X.env)::starEach [.Name tn p2] X.env:=by exact FL.se rfl) (hs2:starEach [.Name tn p2] X.env=(false,eval (.Name tn p2) X.env)::starEach [] X.env:=by exact FL.se rfl) (hpl:(backTo pos (starEach [.Name tn p2] X.env)).any (·.1)=false:=by exact FL.sp rfl) :
  PV K X (.Call (.Name "isinstance" p) [a,.Name tn p2] [] pos) (e1 (zbP T) f):=ztE kt hg hm hg2 hm2 hv2 ha hn hd hs1 hs2 hpl
theorem zrs(hr:zbT j X.A):OpR X (compareOp .Eq) (rD X.K eqD):=zxE hr.units
theorem zkd(hr:zbT j X.A):OpR X (compareOp .NotEq) (rD X.K neD):=zxz hr.units
theorem zmz(hr:zbT j X.A):OpR X (compareOp .Lt) (rD X.K ltD):=zxA hr.units
theorem zvO(hr:zbT j X.A):OpR X (compareOp .LtE) (rD X.K leD):=zxB hr.units
theorem zwQ(hr:zbT j X.A):OpR X (compareOp .Gt) (rD X.K gtD):=zxC hr.units
theorem zxv(hr:zbT j X.A):OpR X (compareOp .GtE) (rD X.K geD):=zxD hr.units
theorem zvP(hr:zbT j X.A):OpR X (compareOp .In) (rD X.K inD):=zt2 (zdC hr)
theorem zrt(hr:zbT j X.A):IxR X (rD X.K zfd):=zsv (zdC hr)
variable {op:CmpOp}{g:D->D->R D}{z:Str}{pz:Pos}
theorem zi6(ho:OpR X (compareOp op) (rD X.K g))(ha:PV K X a f)(hb:PV K X b h)(hm:behindInMarks op b=false:=by first|exact zlk _|rfl):PV K X (.Compare a [op] [b] pos) (e2 g f h):=ztF ho ha hb hm
theorem za2(ho:OpR X (compareOp op) (rD X.K g))(ha:PV K X a f)(hb:PV K X b h)(hm:behindInMarks op b=false:=by first|exact zlk _|rfl):PVT K X (.Compare a [op] [b] pos) (tB (e2 g f h)):=zrA ho ha hb hm
theorem zrB(i:Nat)(ho:OpR X (compareOp op) (rD X.K g))(hb:PV K X b h)(ha:PE X (.Name y py) (zgS i):=by exact pv _)(hm:behindInMarks op b=false:=by first|exact zlk _|rfl):PVT K X (.Compare (.Name y py) [op] [b] pos) (tB (m2 g i h)):=zry i ho ha hb hm
theorem zrz(i:Nat)(ho:OpR X (compareOp op) (rD X.K g))(hb:PV K X a f)(ha:PE X (.Name y py) (zgS i):=by exact pv _)(hm:behindInMarks op (.Name y py)=false:=by first|exact zlk _|rfl):PVT K X (.Compare a [op] [.Name y py] pos) (tB (m2r g f i)):=zrx i ho hb ha hm
theorem zi5(i:Nat)(ho:IxR X (rD X.K g))(hb:PV K X b h)(ha:PE X (.Name y py) (zgS i):=by exact pv _)(hs:ziI b:=by exact fun _ _=>rfl):PV K X (.Subscript (.Name y py) b pos) (m2 g i h):=ztD i ho ha hb hs
theorem zaR(he:PV K X e f):ziJ K X [.Return (some e) pos] (zay f):=zap (zrD he)
theorem za8(i:Nat)(hN:X.N.Nodup)(he:PV K X e f)(hi:X.N[i]?=some x:=by rfl)(hx:Loc X.env.scope x:=by first|exact Or.inl rfl|exact Or.inr rfl)(hs:swapsWith e (some (.Name x py)) pos.line X.env=pure false:=by rfl)(hf:X.fn x=true\/X.env.scope.names.lookup x=some .local:=by first|exact .inl rfl|exact .inr rfl|assumption):PSV K X (.Assign [.Name x py] e pos) (zaQ (gN i) f):=zrC hN hi hx he hs hf
theorem zi3(i:Nat)(hN:X.N.Nodup)(he:PVN K X e f)(hi:X.N[i]?=some x:=by rfl)(hx:Loc X.env.scope x:=by first|exact Or.inl rfl|exact Or.inr rfl)(hs:swapsWith e (some (.Name x py)) pos.line X.env=pure false:=by rfl)(hf:X.fn x=true\/X.env.scope.names.lookup x=some .local:=by first|exact .inl rfl|exact .inr rfl|assumption):PSV K X (.Assign [.Name x py] e pos) (zgU i f):=zrF hN hi hx he hs hf
theorem g_n(i:Nat)(hN:X.N.Nodup)(hi:X.N[i]?=some x:=by rfl)(hx:Loc X.env.scope x:=by first|exact Or.inl rfl|exact Or.inr rfl)(hf:X.fn x=true\/X.env.scope.names.lookup x=some .local:=by first|exact .inl rfl|exact .inr rfl|assumption):PVG K X [i] (.Name x pos) (gN i):=zpo hN hi hx hf
theorem zhe(i j:Nat){kt k2:Nat}{px pt pt2:Pos}(nd:X.N.Nodup)(ha:PV K X a f)(hb:PV K X b h)(hc:X.calm=true:=by rfl)(hi:X.N[i]?=some x:=by rfl)(hj:X.N[j]?=some y:=by rfl)(ij:i≠j:=by decide)(l1:X.env.scope.names.lookup x=some .local:=by rfl)(l2:X.env.scope.names.lookup y=some .local:=by rfl)
  (sw:swappedStores [.Tuple [.Name x px,.Name y py] kt pt] (.Tuple [a,b] k2 pt2) X.env=pure (some [x,y]):=by rfl)(s1:swapsWithSole [.Tuple [.Name x px,.Name y py] kt pt] (.Tuple [a,b] k2 pt2) pos.line X.env=pure false:=by rfl)(s2:starEach [a,b] X.env=(false,eval a X.env)::starEach [b] X.env:=by exact FL.se rfl)(s3:starEach [b] X.env=(false,eval b X.env)::starEach [] X.env:=by exact FL.se rfl) :
  PSV K X (.Assign [.Tuple [.Name x px,.Name y py] kt pt] (.Tuple [a,b] k2 pt2) pos) (zeG i j f h):=zrE hc nd hi hj ij l1 l2 ha hb sw s1 s2 s3
variable {it:IF}{gg:GF}{bb:SF}{body:List Stmt}{dom:List Nat}{tg:Expr}
theorem zf2(hi:PVI K X tg e it)(hg:PVG K X dom tg gg)(hb:ziJ K X body bb)(hp:PassesOwn (model X.prog X.w) X.A X.env X.xe:=by exact PassesOwn.never)(hc:X.calm=true:=by rfl)(hs:∀ v,foldedSetIterable e X.env v=pure v:=by intro _;rfl):PSV K X (.For tg e body [] pos) (zfY it gg bb):=zrG hp hc hi hg hb hs
variable {elt iter ke ve:Expr}{ifs:List Expr}{scope:Scope}{t:TF}{kf vf:EF}
theorem cp(L:List Str)(ix:List Nat)(M:List Str)(hi:PVI K X tg iter it)(hg:∀{C:Addr} {s₃:Shared} {H₃:Hp} {fp:List Addr},M.Nodup->PVG K (zau X M scope C s₃ H₃ fp) dom tg gg)(ht:∀{C:Addr} {s₃:Shared} {H₃:Hp} {fp:List Addr},zsR K (zau X M scope C s₃ H₃ fp) ifs t)(he:∀{C:Addr} {s₃:Shared} {H₃:Hp} {fp:List Addr},PV K (zau X M scope C s₃ H₃ fp) elt f)
  (hc:X.calm=true:=by rfl)(hk:scope.kind=.function:=by rfl)(ho:zde X.env.scope scope X.N ix=true:=by kernel_rfl)(hM:M=L++ix.map (fun i=>X.N.getD i ""):=by rfl) (nd:ix.Nodup:=by decide) (hMn:M.Nodup:=by decide +kernel) (hd:(dom.all fun i=>decide (i<L.length))=true:=by decide) (hs:∀ v,foldedSetIterable iter X.env v=pure v:=by intro _;rfl) :
  PVN K X (.ListComp elt [⟨tg,iter,ifs,0⟩] scope pos) (zcG L.length ix it gg t f):=zpl L ix M hc hk ho hM nd hi (fun _ _ _ _=>hg hMn) hd (fun _ _ _ _=>ht) (fun _ _ _ _=>he) hs
theorem dcp(L:List Str)(ix:List Nat)(M:List Str)(hr:zbT j X.A)(hi:PVI K X tg iter it)(hg:∀{C:Addr} {s₃:Shared} {H₃:Hp} {fp:List Addr},M.Nodup->PVG K (zau X M scope C s₃ H₃ fp) dom tg gg)(ht:∀{C:Addr} {s₃:Shared} {H₃:Hp} {fp:List Addr},zsR K (zau X M scope C s₃ H₃ fp) ifs t)(hke:∀{C:Addr} {s₃:Shared} {H₃:Hp} {fp:List Addr},PV K (zau X M scope C s₃ H₃ fp) ke kf)(hve:∀{C:Addr} {s₃:Shared} {H₃:Hp} {fp:List Addr},PV K (zau X M scope C s₃ H₃ fp) ve vf)
  (hc:X.calm=true:=by rfl)(hk:scope.kind=.function:=by rfl)(ho:zde X.env.scope scope X.N ix=true:=by kernel_rfl)(hM:M=L++ix.map (fun i=>X.N.getD i ""):=by rfl) (nd:ix.Nodup:=by decide) (hMn:M.Nodup:=by decide +kernel) (hd:(dom.all fun i=>decide (i<L.length))=true:=by decide) (hs:∀ v,foldedSetIterable iter X.env v=pure v:=by intro _;rfl) :
  PVN K X (.DictComp ke ve [⟨tg,iter,ifs,0⟩] scope pos) (zhy L.length ix it gg t kf vf):=zm2 L ix M (zdC hr) hc hk ho hM nd hi (fun _ _ _ _=>hg hMn) hd (fun _ _ _ _=>ht) (fun _ _ _ _=>hke) (fun _ _ _ _=>hve) hs
end
abbrev CT(x:Str)(k:Nat)(ps:List Str)(n:Nat)(fr:Bool)(G:List D->R D)(P:Program)(w:World)(K:W.Frag)(mg:Str->Option Value)(base:Heap):Prop:=Callee P w K mg base x k ps (spP K n fr G)
abbrev CTM(x:Str)(k:Nat)(ps:List Str)(ms:List Bool)(fr:Bool)(F:List D->R (D×List D))(P:Program)(w:World)(K:W.Frag)(mg:Str->Option Value)(base:Heap):Prop:=Callee P w K mg base x k ps (spF K ms fr F)
end
end FL
namespace FL
open PySem
def aCs(ds:List D):AF:=fun ρ=>.ok (ds,ρ)
end FL
namespace L2
open PySem PySem.Spec
variable {X:Cx}
end L2
namespace FL
open PySem L2 PySem.Spec
open PyProof.Rows hiding St
section
variable [Cs]
end
section
variable [Cs]{K:W.Frag}{X:Cx}{pos:Pos}
theorem zrH{es:List Expr}{k:Nat}{gs:List GF}{dom:List Nat}(hc:X.calm=true)(h:zsS K X dom es gs)
  (hn:(assignEach es X.env).length=gs.length:=by rfl)(hst:(assignEach es X.env).findIdx? (·.1)=none:=by rfl):PVG K X dom (.Tuple es k pos) (gL gs):=.mk fun hK=>by
 subst hK
 refine(ztN hc (h rfl) hn hst).weak fun v σ H Q=>?_
 rintro⟨ρ,d,ρ1,rel,fz,e,q⟩
 cases d with
 | list ds =>
  simp only [Fz] at fz
  obtain⟨a,vs,rfl,s,f⟩:=fz
  replace e:zkE gs ds ρ=.ok ρ1:=e
  exact⟨a,vs,rfl,s.sq,by rw [f.len,ziv e],ρ,ds,ρ1,rel,f,e,q⟩
 | _=>cases e
end
section
def cAt:Expr->Option Int
 | .Constant (.int i) _ _=>some i
 | .UnaryOp .USub (.Constant (.int i) _ _) _=>some (-i)
 | _=>none
def zwF:List Expr->Option (List D)
 | []=>some []
 | e::r=>(cAt e).bind fun i=>(zwF r).map (.int i::·)
def cTu:Expr->Option D
 | .Tuple es _ _=>(zwF es).bind fun l=>if leB l.length lim=true then some (.tuple l) else none
 | e=>(cAt e).map .int
def zwE:List Expr->Option (List D)
 | []=>some []
 | e::r=>(cTu e).bind fun d=>(zwE r).map (d::·)
variable [Cs]{K:W.Frag}{X:Cx}{pos:Pos}
theorem zwC{e:Expr}{i:Int}(h:cAt e=some i):PV K X e (eC (.int i))/\nst e=true:=by
 unfold cAt at h
 split at h
 ·cases h;exact⟨zad,rfl⟩
 ·cases h;exact⟨zvX zvt zad,rfl⟩
 ·cases h
theorem zu2:∀{es:List Expr} {ds:List D},zwF es=some ds->PVA K X es (aCs ds)
 | [],ds,h=>by cases h;exact zbZ
 | e::r,ds,h=>by
  obtain⟨i,h1,h⟩:=Option.bind_eq_some_iff.mp h
  obtain⟨l,h2,rfl⟩:=Option.map_eq_some_iff.mp h
  exact zbO (zwC h1).1 (zu2 h2) (se (zwC (K:=K) (X:=X) h1).2)
theorem zw8{e:Expr}{d:D}(h:cTu e=some d):PV K X e (eC d)/\nst e=true:=by
 unfold cTu at h
 split at h
 ·obtain⟨l,h1,h⟩:=Option.bind_eq_some_iff.mp h
  split at h
  ·rename_i c
   cases h
   refine⟨?_,rfl⟩
   have e:zbm (aCs l)=eC (.tuple l):=by
    funext ρ
    show(R.ok (l,ρ)).bind _=_
    rw [zac,zaz c];rfl
   rw [<- e]
   exact zbM (zu2 h1)
  ·cases h
 ·obtain⟨i,h1,rfl⟩:=Option.map_eq_some_iff.mp h
  exact zwC h1
theorem zu1:∀{es:List Expr} {ds:List D},zwE es=some ds->PVA K X es (aCs ds)
 | [],ds,h=>by cases h;exact zbZ
 | e::r,ds,h=>by
  obtain⟨d,h1,h⟩:=Option.bind_eq_some_iff.mp h
  obtain⟨l,h2,rfl⟩:=Option.map_eq_some_iff.mp h
  exact zbO (zw8 h1).1 (zu1 h2) (se (zw8 (K:=K) (X:=X) h1).2)
theorem zle{es:List Expr}{ds:List D}(h:zwE es=some ds):PVN K X (.List es pos) (zcF (aCs ds)):=zbY (zu1 h)
end
end FL
namespace K46
open PySem FL
def zhG:SF:=(zay (zhz (e1 (zbP "int") (eV 0)) (zqU (e1 (zbP "bool") (eV 0)))))
def zbX:List D->R D:=za7 false 1 1 zhG
def zb5:SF:=(zfW (zc1 3) (tB (e2 neD (eV 3) (eC (.int 0)))) (zeG 2 3 (eV 3) (e2 zif (eV 2) (eV 3))))
def zcT:SF:=(zax (zeG 2 3 (e1 zoF (eV 0)) (e1 zoF (eV 1)))
  (zax zb5
  (zay (eV 2))))
def zaI:List D->R D:=za7 false 2 4 zcT
def zfh:SF:=(zay (zbm (zaa (e1 zdW (eV 0)) (zaa (eV 0) zah))))
def zca:List D->R D:=za7 false 1 1 zfh
def zbB:EF:=(zcG 1 [] (iD (eV 0)) (gN 0) zbE (e1 zdW (eV 0)))
def zdf:SF:=(zay (e2 znx zbB (eC (.int 0))))
def zbj:List D->R D:=za7 false 1 1 zdf
def zfk:SF:=(zax (zaQ (gN 2) (e2 za0 (e2 za0 (e2 zbw (e2 za0 (e2 zif (eV 0) (e2 za0 (e2 zhi (eC (.int 10)) (eC (.int 18))) (eC (.int 9)))) (e2 zbw (eC (.int 7)) (eV 1))) (eC (.int 739108512309184756019283746561))) (e2 zbw (eC (.int 7919)) (eV 1))) (eC (.int 1))))
  (zax (zaQ (gN 2) (e2 zif (e2 zbw (eV 2) (eV 2)) (e2 za0 (e2 zhi (eC (.int 10)) (eC (.int 60))) (eC (.int 7)))))
  (zay (e2 zif (e2 zbw (e2 za0 (eV 2) (eC (.int 40503))) (e2 za0 (eV 2) (eC (.int 57)))) (e2 za0 (e2 zhi (eC (.int 10)) (eC (.int 60))) (eC (.int 7)))))))
def zdk:List D->R D:=za7 false 2 3 zfk
def zjO:SF:=(zax (sIf (tB (e2 ltD (eV 1) (e1 zdW (eV 0)))) (zay (e2 ixD (eV 0) (eV 1))) sNx)
  (zay (e2 za0 (e2 zbw (eC (.int 3)) (eV 1)) (eC (.int 1)))))
def zeD:List D->R D:=za7 false 2 2 zjO
def ze3:SF:=(zfW (zc1 3) (tB (e2 neD (eV 3) (eC (.int 0)))) (zeG 2 3 (eV 3) (e2 zif (eV 2) (eV 3))))
def zhL:SF:=(zax (zaQ (gN 2) (e1 zoF (eV 0)))
  (zax (zaQ (gN 3) (eV 1))
  (zax ze3
  (zay (zbm (zaa (e2 zaJ (eV 0) (eV 2)) (zaa (e2 zaJ (eV 1) (eV 2)) zah)))))))
def zdz:List D->R D:=za7 false 2 4 zhL
def zgD:SF:=(zay (zbm (zaa (e1 zdW (eV 0)) (zaa (eV 0) zah))))
def zgO:List D->R D:=za7 false 1 1 zgD
def zaA:SF:=(sIf (FL.tOr (FL.zbL (tE (e1 (zbP "tuple") (eV 1)))) (FL.tOr (tB (e2 neD (e1 zdW (eV 1)) (eC (.int 2)))) (FL.zbL (tE (e1 (zbP "tuple") (e2 ixD (eV 1) (eC (.int 0)))))))) (zay (eC (.bool false))) sNx)
def zbn:SF:=(zrm 0 (gN 1) zaA)
def zbS:SF:=(zax (sIf (FL.zbL (tE (m1 (zbP "list") 0))) (zay (eC (.bool false))) sNx)
  (zax zbn
  (zay (eC (.bool true)))))
def za6:List D->R (D×List D):=run [true] false 2 zbS
def zgz:SF:=(zax (sIf (FL.tOr (FL.zbL (tE (e1 (zbP "tuple") (eV 0)))) (tB (e2 neD (e1 zdW (eV 0)) (eC (.int 2))))) (zay (eC (.bool false))) sNx)
  (zax (zaQ (gT [(gN 1),(gN 2)]) (eV 0))
  (zax (sIf (FL.tOr (FL.zbL (tE (zae zbX (zaa (eV 1) zah)))) (FL.tOr (FL.zbL (tE (zae zbX (zaa (eV 2) zah)))) (tB (e2 ltD (eV 2) (eC (.int 1)))))) (zay (eC (.bool false))) sNx)
  (zay (e2 eqD (zae zaI (zaa (eV 1) (zaa (eV 2) zah))) (eC (.int 1)))))))
def zgM:List D->R D:=za7 false 1 3 zgz
def zq1:SF:=(zax (zaQ (gN 2) (zae zaI (zaa (e2 ixD (eV 0) (eC (.int 1))) (zaa (e2 ixD (eV 1) (eC (.int 1))) zah))))
  (zax (zeG 3 4 (e2 zaJ (e2 ixD (eV 0) (eC (.int 1))) (eV 2)) (e2 zaJ (e2 ixD (eV 1) (eC (.int 1))) (eV 2)))
  (zax (zaQ (gN 5) (e2 za0 (e2 zbw (e2 ixD (eV 0) (eC (.int 0))) (eV 4)) (e2 zbw (e2 ixD (eV 1) (eC (.int 0))) (eV 3))))
  (zax (zaQ (gN 6) (zae zaI (zaa (eV 5) (zaa (eV 2) zah))))
  (zay (zbm (zaa (e2 zaJ (eV 5) (eV 6)) (zaa (e2 zbw (eV 3) (e2 zaJ (e2 ixD (eV 1) (eC (.int 1))) (eV 6))) zah))))))))
def zq4:List D->R D:=za7 false 2 7 zq1
def zoy:SF:=(zax (zeG 2 3 (zae zaI (zaa (e2 ixD (eV 0) (eC (.int 0))) (zaa (e2 ixD (eV 1) (eC (.int 1))) zah))) (zae zaI (zaa (e2 ixD (eV 1) (eC (.int 0))) (zaa (e2 ixD (eV 0) (eC (.int 1))) zah))))
  (zay (zbm (zaa (e2 zbw (e2 zaJ (e2 ixD (eV 0) (eC (.int 0))) (eV 2)) (e2 zaJ (e2 ixD (eV 1) (eC (.int 0))) (eV 3))) (zaa (e2 zbw (e2 zaJ (e2 ixD (eV 0) (eC (.int 1))) (eV 3)) (e2 zaJ (e2 ixD (eV 1) (eC (.int 1))) (eV 2))) zah)))))
def zoP:List D->R D:=za7 false 2 4 zoy
def zf0:EF:=(zcG 1 [1] (iE (eV 0)) (gN 0) zbE (zhz (zae zbX (zaa (eV 0) zah)) (zcS leD ltD (eC (.int 0)) (eV 0) (eV 1))))
def zjL:SF:=(zax (sIf (FL.tOr (FL.zbL (tE (e1 (zbP "tuple") (eV 0)))) (tB (e2 gtD (e1 zdW (eV 0)) (eC (.int 5))))) (zay (eC (.bool false))) sNx)
  (zay (e1 zvp zf0)))
def zj4:List D->R D:=za7 false 2 2 zjL
def zcJ:SF:=(sIf (tB (e2 gtD (e2 za0 (zae zbj (zaa (eV 0) zah)) (zae zbj (zaa (eV 1) zah))) (eC (.int 5)))) zmT sNx)
def zbV:List D->R D:=za7 false 2 2 zcJ
def zbJ:SF:=(sIf (FL.tOr (FL.zbL (tE (zae zbX (zaa (eV 0) zah)))) (FL.zbL (tB (zcS leD leD (eC (.int 1)) (eV 0) (eC (.int 4)))))) zmT sNx)
def zbf:List D->R D:=za7 false 1 1 zbJ
def zfj:SF:=(zax (sIf (tB (e2 geD (eV 0) (e2 zhi (eC (.int 10)) (eC (.int 18))))) (zb4 (zcF (zaa (e2 zgT (eV 0) (e2 zhi (eC (.int 10)) (eC (.int 18)))) (zaa (eC (.int 0)) (zaa (eV 1) zah))))) sNx)
  (zb4 (zcF (zaa (zae zdk (zaa (eV 0) (zaa (eV 1) zah))) (zaa (eC (.int 0)) (zaa (e2 za0 (e2 zif (eV 0) (e2 za0 (e2 zhi (eC (.int 10)) (eC (.int 18))) (eC (.int 9)))) (eV 1)) zah))))))
def zcb:List D->R D:=za7 true 2 2 zfj
def zgC:SF:=(zax (sIf (tB (e2 ltD (m2 ixD 0 (eC (.int 0))) (eV 1))) (zax (setM 0 (e2 za0 (m2 ixD 0 (eC (.int 1))) (eC (.int 1))) (eC (.int 1)))
  (setM 0 (e2 za0 (m2 ixD 0 (eC (.int 0))) (e2 zbw (eV 1) (zae zdk (zaa (m2 ixD 0 (eC (.int 2))) (zaa (e2 za0 (e2 zbw (eC (.int 11)) (m2 ixD 0 (eC (.int 1)))) (eC (.int 5))) zah))))) (eC (.int 0)))) sNx)
  (zax (zaQ (gN 2) (e2 zif (m2 ixD 0 (eC (.int 0))) (eV 1)))
  (zax (setM 0 (e2 zaJ (m2 ixD 0 (eC (.int 0))) (eV 1)) (eC (.int 0)))
  (zay (eV 2)))))
def zav:List D->R (D×List D):=run [true,false] false 3 zgC
def zgE:SF:=(zay (zae zdz (zaa (e2 za0 (e2 zbw (e2 ixD (eV 0) (eC (.int 0))) (e2 ixD (eV 1) (eC (.int 1)))) (e2 zbw (e2 ixD (eV 1) (eC (.int 0))) (e2 ixD (eV 0) (eC (.int 1))))) (zaa (e2 zbw (e2 ixD (eV 0) (eC (.int 1))) (e2 ixD (eV 1) (eC (.int 1)))) zah))))
def zgP:List D->R D:=za7 false 2 2 zgE
def zjN:SF:=(zay (zae zdz (zaa (e2 zbw (e2 ixD (eV 0) (eC (.int 0))) (e2 ixD (eV 1) (eC (.int 0)))) (zaa (e2 zbw (e2 ixD (eV 0) (eC (.int 1))) (e2 ixD (eV 1) (eC (.int 1)))) zah))))
def zj6:List D->R D:=za7 false 2 2 zjN
def zjM:SF:=(zax (sIf (FL.tOr (FL.zbL (tE (e1 (zbP "tuple") (eV 0)))) (tB (e2 neD (e1 zdW (eV 0)) (eC (.int 2))))) (zay (eC (.bool false))) sNx)
  (zay (zhz (zae zj4 (zaa (e2 ixD (eV 0) (eC (.int 0))) (zaa (eV 1) zah))) (zhz (zae zgM (zaa (e2 ixD (eV 0) (eC (.int 1))) zah)) (e2 neD (e2 ixD (eV 0) (eC (.int 1))) (eC (.tuple [(.int 0),(.int 1)])))))))
def zj5:List D->R D:=za7 false 2 2 zjM
def zhI:SF:=(zax (zaQ (gN 2) (zae zq4 (zaa (zdM 0 (eV 1) (eC (.tuple [(.int 0),(.int 1)]))) (zaa (eV 2) zah))))
  (sIf (tB (e2 neD (eV 2) (eC (.tuple [(.int 0),(.int 1)])))) (zdd 0 (eV 1) (eV 2)) (sIf (tB (m2r inD (eV 1) 0)) (zg3 0 (eV 1)) sNx)))
def zhW:List D->R (D×List D):=run [true,false,false] false 3 zhI
def zet:SF:=(zax (zaQ (gN 1) (zak zav [.m 0,.v (eC (.int 5))]))
  (zax (sIf (tB (e2 ltD (eV 1) (eC (.int 3)))) (zay (e2 ixD (zcF (aCs [(.tuple [(.int 0),(.int 1)]),(.tuple [(.int 1),(.int 1)]),(.tuple [(.int (-1)),(.int 1)])])) (eV 1))) sNx)
  (zax (sIf (tB (e2 eqD (eV 1) (eC (.int 3)))) (zay (zbm (zaa (e2 zgT (zak zav [.m 0,.v (eC (.int 13))]) (eC (.int 6))) (zaa (eC (.int 1)) zah)))) sNx)
  (zay (zae zdz (zaa (e2 zgT (zak zav [.m 0,.v (e2 za0 (e2 zbw (eC (.int 2)) (e2 zhi (eC (.int 10)) (eC (.int 3)))) (eC (.int 1)))]) (e2 zhi (eC (.int 10)) (eC (.int 3)))) (zaa (e2 za0 (eC (.int 1)) (zak zav [.m 0,.v (eC (.int 9))])) zah)))))))
def zeC:List D->R (D×List D):=run [true] false 2 zet
def zd3:EF:=(zcG 1 [0,1] (iR1 (zaa (zak zav [.m 0,.v (e2 za0 (eV 2) (eC (.int 1)))]) zah)) (gN 0) zbE (zak zav [.m 1,.v (eV 2)]))
def zgA:SF:=(zay (e1 ze7 zd3))
def zgN:List D->R (D×List D):=run [true,false,false] false 3 zgA
def zhK:SF:=(zax (zdd 0 (eV 1) (zae zgP (zaa (zdM 0 (eV 1) (zbm (zaa (eC (.int 0)) (zaa (eC (.int 1)) zah)))) (zaa (eV 2) zah))))
  (sIf (tB (e2 eqD (e2 ixD (m2 zfd 0 (eV 1)) (eC (.int 0))) (eC (.int 0)))) (zon 0 (eV 1)) sNx))
def zhX:List D->R (D×List D):=run [true,false,false] false 3 zhK
def zfi:SF:=(zax (sIf (FL.zbL (tE (zae zj5 (zaa (eV 1) (zaa (eV 2) zah))))) (zay (eC (.bool false))) sNx)
  (zay (eOr (e2 isD (eV 0) (eC .none)) (e2 zun (zae zca (zaa (e2 ixD (eV 0) (eC (.int 0))) zah)) (zae zca (zaa (e2 ixD (eV 1) (eC (.int 0))) zah))))))
def zfq:List D->R D:=za7 false 3 3 zfi
def ze8:EF:=(zcG 1 [0] (iE (e1 (zd0 zca) (eV 0))) (gN 0) zbE (zbm (zaa (eV 0) (zaa (e2 zfd (eV 1) (eV 0)) zah))))
def zhF:SF:=(zb4 ze8)
def zdx:List D->R D:=za7 true 1 1 zhF
def zcO:SF:=(sE (zak zhW [.m 2,.v (e2 za0 (eV 3) (eV 4)),.v (zae zoP (zaa (e2 zfd (eV 0) (eV 3)) (zaa (e2 zfd (eV 1) (eV 4)) zah)))]))
def zcM:SF:=(zfY (iD (eV 1)) (gN 4) zcO)
def zcN:SF:=zcM
def zcL:SF:=(zfY (iD (eV 0)) (gN 3) zcN)
def zdG:SF:=(zax (zgU 2 zcj)
  (zax zcL
  (zfr 2)))
def zbD:List D->R D:=za7 true 2 5 zdG
def ze6:SF:=(zax (zaQ (gN 6) (zak zgN [.m 0,.v (eV 1),.v (eV 3)]))
  (zax (zaQ (gN 7) (zak zeC [.m 0]))
  (sIf (tB (e2 neD (e2 ixD (eV 7) (eC (.int 0))) (eC (.int 0)))) (zdd 4 (eV 6) (eV 7)) sNx)))
def ze2:SF:=(zfY (iR1 (zaa (zak zav [.m 0,.v (e2 za0 (eV 2) (eC (.int 1)))]) zah)) (gN 5) ze6)
def zhJ:SF:=(zax (zgU 4 zcj)
  (zax ze2
  (zfr 4)))
def zbk:List D->R (D×List D):=run [true,false,false,false] true 8 zhJ
def zd4:EF:=(zcG 1 [0] (iE (e1 (zd0 zgO) (eV 0))) (gN 0) zbE (zbm (zaa (eV 0) (zaa (e2 zfd (eV 1) (eV 0)) zah))))
def zgB:SF:=(zb4 zd4)
def zai:List D->R D:=za7 true 1 1 zgB
def zcZ:SF:=(sE (zak zhX [.m 2,.v (e2 za0 (eV 3) (eV 4)),.v (zae zj6 (zaa (e2 zfd (eV 0) (eV 3)) (zaa (e2 zfd (eV 1) (eV 4)) zah)))]))
def zcX:SF:=(zfY (iD (eV 1)) (gN 4) zcZ)
def zcY:SF:=zcX
def zcW:SF:=(zfY (iD (eV 0)) (gN 3) zcY)
def zeu:SF:=(zax (zgU 2 zcj)
  (zax zcW
  (zfr 2)))
def zaq:List D->R D:=za7 true 2 5 zeu
def ze5:SF:=(zax (sIf (FL.zbL (tE (zae zfq (zaa (eV 2) (zaa (eV 4) (zaa (eV 1) zah)))))) zmT sNx)
  (zaQ (gN 2) (eV 4)))
def ze1:SF:=(zfY (zvj (zaa (eV 0) zah)) (gT [(gN 3),(gN 4)]) ze5)
def ze9:EF:=(zhy 2 [] (iE (eV 0)) (gT [(gN 0),(gN 1)]) zbE (eV 0) (eV 1))
def zhH:SF:=(zax (zaQ (gN 2) (eC .none))
  (zax ze1
  (zb4 ze9)))
def zdy:List D->R D:=za7 true 2 5 zhH
def zcg:SF:=(zax (sE (zae zbf (zaa (eV 0) zah)))
  (zb4 (zae zdy (zaa (eV 1) (zaa (eV 0) zah)))))
def zbd:List D->R D:=za7 true 2 2 zcg
def ziH:SF:=(zax (zeG 3 4 (zae zbd (zaa (eV 0) (zaa (eV 1) zah))) (zae zbd (zaa (eV 0) (zaa (eV 2) zah))))
  (zax (sE (zae zbV (zaa (eV 3) (zaa (eV 4) zah))))
  (zb4 (zae zdx (zaa (zae zbD (zaa (eV 3) (zaa (eV 4) zah))) zah)))))
def zar:List D->R D:=za7 true 3 5 ziH
def zb9:SF:=(zax (zaQ (gN 4) (zcF (zaa (zae zai (zaa (eV 1) zah)) (zaa (zae zai (zaa (eV 2) zah)) zah))))
  (zax (zaQ (gN 5) (zcF (zaa (e1 zcz (e2 ixD (eV 4) (eC (.int 0)))) (zaa (e1 zcz (e2 ixD (eV 4) (eC (.int 1)))) zah))))
  (zax (zgU 6 (zae zar (zaa (eV 0) (zaa (e2 ixD (eV 4) (eC (.int 0))) (zaa (e2 ixD (eV 4) (eC (.int 1))) zah)))))
  (zax (sIf (FL.tOr (FL.zbL (tE (zak za6 [.m 6]))) (FL.tOr (tB (m2 neD 6 (eV 3))) (tB (e2 neD (eV 4) (eV 5))))) (zay (eC (.bool false))) sNx)
  (zax (zoT 6 zoD (zbm (zaa (zbm zah) (zaa (zbm (zaa (eC (.int 7)) (zaa (eC (.int 1)) zah))) zah))))
  (zay (zhz (e2 eqD (zae zar (zaa (eV 0) (zaa (e2 ixD (eV 4) (eC (.int 0))) (zaa (e2 ixD (eV 4) (eC (.int 1))) zah)))) (eV 3)) (e2 eqD (eV 4) (eV 5)))))))))
def zbl:List D->R D:=za7 false 4 7 zb9
def za5:SF:=(zax (zaQ (gN 2) (zcF (zaa (zbm (zaa (zbm zah) (zaa (zbm (zaa (eC (.int 1)) (zaa (eC (.int 1)) zah))) zah))) zah)))
  (zax (sIf (FL.tOr (tB (e2 neD (zae zar (zaa (eV 0) (zaa (eV 2) (zaa (e1 zcz (eV 1)) zah)))) (eV 1))) (tB (e2 neD (zae zar (zaa (eV 0) (zaa (e1 zcz (eV 1)) (zaa (eV 2) zah)))) (eV 1)))) (zay (eC (.bool false))) sNx)
  (zay (zhz (e2 eqD (zae zar (zaa (eV 0) (zaa (zcF zah) (zaa (e1 zcz (eV 1)) zah)))) (zcF zah)) (e2 eqD (zae zar (zaa (eV 0) (zaa (e1 zcz (eV 1)) (zaa (zcF zah) zah)))) (zcF zah))))))
def zbA:List D->R D:=za7 false 2 3 za5
def zfZ:EF:=(zcG 1 [2,3] (iE (eV 4)) (gN 0) zbE (zak zbk [.m 1,.v (eV 2),.v (eC (.int 4)),.v (eV 0)]))
def zeF:SF:=(zax (zgU 2 (zae zcb (zaa (eV 1) (zaa (eC (.int 46)) zah))))
  (zax (zaQ (gN 3) (e2 za0 (eC (.int 1)) (zak zav [.m 2,.v (eC (.int 4))])))
  (zax (zaQ (gN 4) (e2 ixD (zcF (aCs [(.tuple [(.int 2),(.int 2),(.int 1)]),(.tuple [(.int 1),(.int 1),(.int 3)]),(.tuple [(.int 5),(.int 0),(.int 0)]),(.tuple [(.int 0),(.int 5),(.int 0)]),(.tuple [(.int 1),(.int 3),(.int 1)]),(.tuple [(.int 3),(.int 1),(.int 1)]),(.tuple [(.int 2),(.int 3),(.int 0)])])) (zak zav [.m 2,.v (eC (.int 7))])))
  (zax (zaQ (gL [(gN 5),(gN 6),(gN 7)]) zfZ)
  (zax (zaQ (gN 8) (zae zaq (zaa (eV 5) (zaa (eV 6) zah))))
  (zax (sIf (FL.zbL (tE (zae zbl (zaa (eV 3) (zaa (eV 5) (zaa (eV 6) (zaa (zae zai (zaa (eV 8) zah)) zah))))))) (zay (eC (.bool false))) sNx)
  (zax (sIf (FL.zbL (tE (zae zbl (zaa (eV 3) (zaa (eV 6) (zaa (eV 5) (zaa (zae zai (zaa (zae zaq (zaa (eV 6) (zaa (eV 5) zah))) zah)) zah))))))) (zay (eC (.bool false))) sNx)
  (zax (zaQ (gN 9) (zae zai (zaa (eV 5) zah)))
  (zax (sIf (FL.zmy (tB (e2 ltD (e2 ixD (eV 4) (eC (.int 0))) (eC (.int 3)))) (tB (e2 neD (zae zar (zaa (eV 3) (zaa (eV 9) (zaa (eV 9) zah)))) (zae zai (zaa (zae zaq (zaa (eV 5) (zaa (eV 5) zah))) zah))))) (zay (eC (.bool false))) sNx)
  (zax (zaQ (gN 10) (zae zar (zaa (eV 3) (zaa (zae zar (zaa (eV 3) (zaa (eV 9) (zaa (zae zai (zaa (eV 6) zah)) zah)))) (zaa (zae zai (zaa (eV 7) zah)) zah)))))
  (zax (sIf (tB (e2 neD (zae zar (zaa (eV 3) (zaa (eV 9) (zaa (zae zar (zaa (eV 3) (zaa (zae zai (zaa (eV 6) zah)) (zaa (zae zai (zaa (eV 7) zah)) zah)))) zah)))) (eV 10))) (zay (eC (.bool false))) sNx)
  (sIf (FL.tOr (tB (e2 neD (eV 10) (zae zai (zaa (zae zaq (zaa (eV 8) (zaa (eV 7) zah))) zah)))) (FL.zbL (tE (zae zbA (zaa (eV 3) (zaa (zae zai (zaa (eV 6) zah)) zah)))))) (zay (eC (.bool false))) sNx))))))))))))
def zhY:SF:=(zfY (iE (e2 za0 (eSl (eV 0) zic (zib (eC (.int 4)))) (zcF (zaa (zae zeD (zaa (eV 0) (zaa (eC (.int 1)) zah))) zah)))) (gN 1) zeF)
def zqi:SF:=(zax zhY
  (zay (eC (.bool true))))
def zoQ:List D->R D:=za7 false 1 11 zqi
end K46
namespace K46
open PySem L2 PySem.Spec FL
open PyProof.Rows hiding St
section
def top(i:Nat):Stmt:=PySem.Challenge.pw_swaprest_k46_letters_joined.main.body.getD i (.Pass ⟨0,0,0,0⟩)
variable [Cs]
structure Cst(mg:Str->Option Value)(zaW:Tok)(zbx:Tok)(zbC:Addr):Prop where
  zcd:mg "MOST_LETTERS"=some (.int 4 zaW)
  zcx:mg "MOST_LONG"=some (.int 5 zbx)
  zeb:mg "NOUGHT"=some (.ref zbC)
  v_NOUGHT:∃ o,Cs.C zbC=some (.frz o (.tup [.int 0,.int 1]))
section
variable {P:Program}{w:World}{K:W.Frag}{mg:Str->Option Value}{base:Heap}
abbrev zdr:=CT "is_whole" 1 ["one"] 1 false zbX
abbrev zbe:=CT "common_divisor" 1 ["one","other"] 2 false zaI
abbrev zdg:=CT "word_order" 1 ["word"] 1 false zca
abbrev zfn:=CT "longest_in" 1 ["held"] 1 false zbj
abbrev zdh:=CT "_law_mixed" 1 ["_law_cell","_law_k"] 2 false zdk
abbrev zjU:=CT "_law_at" 1 ["_law_script","_law_k"] 2 false zeD
abbrev zds:=CT "_law_low" 1 ["_law_top","_law_bottom"] 2 false zdz
abbrev zgH:=CT "_law_rank" 1 ["_law_word_here"] 1 false zgO
abbrev zeA:=CTM "_law_is_sum" 1 ["_law_told_here"] [true] false za6
abbrev zgF:=CT "is_number" 2 ["one"] 1 false zgM
abbrev zq3:=CT "plus" 2 ["one","other"] 2 false zq4
abbrev zoG:=CT "times" 2 ["one","other"] 2 false zoP
abbrev zjR:=CT "is_word" 2 ["word","count"] 2 false zj4
abbrev zex:=CT "refuse_long" 2 ["one","other"] 2 false zbV
abbrev zcU:=CT "refuse_letters" 2 ["count"] 1 false zbf
abbrev zfp:=CT "_law_purse" 2 ["_law_cell","_law_k"] 2 true zcb
abbrev zb2:=CTM "_law_take" 2 ["_law_purse_here","_law_many"] [true,false] false zav
abbrev zgI:=CT "_law_plus" 2 ["_law_one","_law_other"] 2 false zgP
abbrev zjT:=CT "_law_by" 2 ["_law_one","_law_other"] 2 false zj6
abbrev zjS:=CT "is_term" 3 ["term","count"] 2 false zj5
abbrev zhO:=CTM "add_term" 3 ["held","word","number"] [true,false,false] false zhW
abbrev zey:=CTM "_law_number" 3 ["_law_purse_here"] [true] false zeC
abbrev zgG:=CTM "_law_word" 3 ["_law_purse_here","_law_count","_law_most"] [true,false,false] false zgN
abbrev zhQ:=CTM "_law_put" 3 ["_law_found","_law_word_here","_law_number_here"] [true,false,false] false zhX
abbrev zfm:=CT "may_follow" 4 ["ahead","term","count"] 3 false zfq
abbrev zhM:=CT "told_sum" 4 ["held"] 1 true zdx
abbrev zdH:=CT "put_together" 4 ["one","other"] 2 true zbD
abbrev zhP:=CTM "_law_sum" 4 ["_law_purse_here","_law_count","_law_many","_law_most"] [true,false,false,false] true zbk
abbrev zdU:=CT "_law_told" 4 ["_law_found"] 1 true zai
abbrev zez:=CT "_law_joined" 4 ["_law_one","_law_other"] 2 true zaq
abbrev zhN:=CT "held_sum" 5 ["total","count"] 2 true zdy
abbrev zdI:=CT "held_letters" 6 ["count","total"] 2 true zbd
abbrev zfR:=CT "joined" 7 ["count","one","other"] 3 true zar
abbrev zfo:=CT "_law_right" 8 ["_law_count","_law_one","_law_other","_law_due"] 4 false zbl
abbrev zck:=CT "_law_plain_well" 8 ["_law_count","_law_total"] 2 false zbA
variable {zaW:Tok}{zbx:Tok}{zbC:Addr}(B:Blt mg)(C:Cst mg zaW zbx zbC)
include B C
theorem zmc(h:Has K mg "is_whole" (top 7)):zdr P w K mg base:=fnP ["one"] h fun hr nd=>by
  unfold zhG
  exact(zaR (zhh (zkg zsq B.zaF B.zsd Bt.int (zab 0)) (zhg (ztC (zkg zpU B.zaF B.zns Bt.bool (zab 0))))))
theorem zfx(h:Has K mg "common_divisor" (top 8)):zbe P w K mg base:=fnP ["one","other","high","low"] h fun hr nd=>by
  unfold zcT zb5
  exact(zaf (zhe 2 3 nd (zft zsN B.znt Bt.abs (zab 0)) (zft zsN B.znt Bt.abs (zab 1)))
      (zaf (zi2 (zc1 3) PassesOwn.never (za2 (zkd hr) (zab 3) zad) (zap (zhe 2 3 nd (zab 3) (zao zkl (zab 2) (zab 3)))))
      (zaR (zab 2))))
theorem zjh(h:Has K mg "word_order" (top 16)):zdg P w K mg base:=fnP ["word"] h fun hr nd=>by
  unfold zfh
  exact(zaR (zbM (a2 (zft zjE B.zgV Bt.len (zab 0)) (zab 0))))
theorem zjj(h:Has K mg "longest_in" (top 21)):zfn P w K mg base:=fnP ["held"] h fun hr nd=>by
  unfold zdf zbB
  exact(zaR (zrI rfl rfl B.zsc (PVN.pv (cp ["word"] [] ["word"] (zd5 (zab 0)) (fun nd=>(g_n 0 nd)) zct (zft zjE B.zgV Bt.len (zab 0)))) zad))
theorem zjm(h:Has K mg "_law_mixed" (top 30)):zdh P w K mg base:=fnP ["_law_cell","_law_k","_law_number_here"] h fun hr nd=>by
  unfold zfk
  exact(zaf (za8 2 nd (zao zbI (zao zbI (zao zcv (zao zbI (zao zkl (zab 0) (zao zbI (zao zi8 zad zad) zad)) (zao zcv zad (zab 1))) zad) (zao zcv zad (zab 1))) zad))
      (zaf (za8 2 nd (zao zkl (zao zcv (zab 2) (zab 2)) (zao zbI (zao zi8 zad zad) zad)))
      (zaR (zao zkl (zao zcv (zao zbI (zab 2) zad) (zao zbI (zab 2) zad)) (zao zbI (zao zi8 zad zad) zad)))))
theorem znR(h:Has K mg "_law_at" (top 33)):zjU P w K mg base:=fnP ["_law_script","_law_k"] h fun hr nd=>by
  unfold zjO
  exact(zaf (zaS (za2 (zmz hr) (zab 1) (zft zjE B.zgV Bt.len (zab 0))) (zaR (zaD zbK (zab 0) (zab 1))) zaB)
      (zaR (zao zbI (zao zcv zad (zab 1)) zad)))
theorem zmh(h:Has K mg "_law_low" (top 34)):zds P w K mg base:=fnP ["_law_top","_law_bottom","_law_one","_law_other"] h fun hr nd=>by
  unfold zhL ze3
  exact(zaf (za8 2 nd (zft zsN B.znt Bt.abs (zab 0)))
      (zaf (za8 3 nd (zab 1))
      (zaf (zi2 (zc1 3) PassesOwn.never (za2 (zkd hr) (zab 3) zad) (zap (zhe 2 3 nd (zab 3) (zao zkl (zab 2) (zab 3)))))
      (zaR (zbM (a2 (zao (zc3 hr) (zab 0) (zab 2)) (zao (zc3 hr) (zab 1) (zab 2))))))))
theorem zkx(h:Has K mg "_law_rank" (top 41)):zgH P w K mg base:=fnP ["_law_word_here"] h fun hr nd=>by
  unfold zgD
  exact(zaR (zbM (a2 (zft zjE B.zgV Bt.len (zab 0)) (zab 0))))
theorem zin(h:Has K mg "_law_is_sum" (top 46)):zeA P w K mg base:=fnM [true] ["_law_told_here","_law_term"] h fun hr nd=>by
  unfold zbS zbn zaA
  exact(zaf (zaS (za9 (zbg zdJ (zrJ 0 zpT rfl B.zaF rfl B.zea Bt.list (pv 0)))) (zaR zdA) zaB)
      (zaf (zpg 0 PassesOwn.never rfl (pv 0) (g_n 1 nd) (zap (zaS (PVW.pvt (zcR (za9 (zbg zdJ (zkg kit_tuple B.zaF B.zc4 Bt.tuple (zab 1)))) (zcR (za2 (zkd hr) (zft zjE B.zgV Bt.len (zab 1)) zad) (zcs (za9 (zbg zdJ (zkg kit_tuple B.zaF B.zc4 Bt.tuple (zaD zbK (zab 1) zad)))))))) (zaR zdA) zaB)))
      (zaR zdA)))
theorem zkt(h:Has K mg "is_number" (top 9)) (c_common_divisor:zbe P w K mg base) (c_is_whole:zdr P w K mg base):zgF P w K mg base:=fnP ["one","top","bottom"] h fun hr nd=>by
  unfold zgz
  exact(zaf (zaS (PVW.pvt (zcR (za9 (zbg zdJ (zkg kit_tuple B.zaF B.zc4 Bt.tuple (zab 0)))) (zcs (za2 (zkd hr) (zft zjE B.zgV Bt.len (zab 0)) zad)))) (zaR zdA) zaB)
      (zaf (zm1 (zab 0) (zke rfl (zbo (g_n 1 nd) (zbo (g_n 2 nd) zfI))))
      (zaf (zaS (PVW.pvt (zcR (za9 (zbg zdJ (zbb c_is_whole hr (a1 (zab 1))))) (zcR (za9 (zbg zdJ (zbb c_is_whole hr (a1 (zab 2))))) (zcs (za2 (zmz hr) (zab 2) zad))))) (zaR zdA) zaB)
      (zaR (zi6 (zrs hr) (zbb c_common_divisor hr (a2 (zab 1) (zab 2))) zad)))))
theorem zuy(h:Has K mg "plus" (top 10)) (c_common_divisor:zbe P w K mg base):zq3 P w K mg base:=fnP ["one","other","shared","mine","its","top","again"] h fun hr nd=>by
  unfold zq1
  exact(zaf (za8 2 nd (zbb c_common_divisor hr (a2 (zaD zbK (zab 0) zad) (zaD zbK (zab 1) zad))))
      (zaf (zhe 3 4 nd (zao (zc3 hr) (zaD zbK (zab 0) zad) (zab 2)) (zao (zc3 hr) (zaD zbK (zab 1) zad) (zab 2)))
      (zaf (za8 5 nd (zao zbI (zao zcv (zaD zbK (zab 0) zad) (zab 4)) (zao zcv (zaD zbK (zab 1) zad) (zab 3))))
      (zaf (za8 6 nd (zbb c_common_divisor hr (a2 (zab 5) (zab 2))))
      (zaR (zbM (a2 (zao (zc3 hr) (zab 5) (zab 6)) (zao zcv (zab 3) (zao (zc3 hr) (zaD zbK (zab 1) zad) (zab 6))))))))))
theorem zss(h:Has K mg "times" (top 11)) (c_common_divisor:zbe P w K mg base):zoG P w K mg base:=fnP ["one","other","mine","its"] h fun hr nd=>by
  unfold zoy
  exact(zaf (zhe 2 3 nd (zbb c_common_divisor hr (a2 (zaD zbK (zab 0) zad) (zaD zbK (zab 1) zad))) (zbb c_common_divisor hr (a2 (zaD zbK (zab 1) zad) (zaD zbK (zab 0) zad))))
      (zaR (zbM (a2 (zao zcv (zao (zc3 hr) (zaD zbK (zab 0) zad) (zab 2)) (zao (zc3 hr) (zaD zbK (zab 1) zad) (zab 3))) (zao zcv (zao (zc3 hr) (zaD zbK (zab 0) zad) (zab 3)) (zao (zc3 hr) (zaD zbK (zab 1) zad) (zab 2)))))))
theorem znO(h:Has K mg "is_word" (top 14)) (c_is_whole:zdr P w K mg base):zjR P w K mg base:=fnP ["word","count"] h fun hr nd=>by
  unfold zjL zf0
  exact(zaf (zaS (PVW.pvt (zcR (za9 (zbg zdJ (zkg kit_tuple B.zaF B.zc4 Bt.tuple (zab 0)))) (zcs (za2 (zwQ hr) (zft zjE B.zgV Bt.len (zab 0)) (zkh (v:=(.int 5)) rfl C.zcx ⟨_,rfl⟩ (fun _=>zci _)))))) (zaR zdA) zaB)
      (zaR (zft (zwD rfl) B.zse Bt.all (PVN.pv (cp ["one"] [1] ["one","count"] (zeJ (zab 0)) (fun nd=>(g_n 0 nd)) zct (zhh (zbb c_is_whole hr (a1 (zab 0))) (zhg (zpq (zvO hr) (zmz hr) zad (zab 0) (zab 1)))))))))
theorem zik(h:Has K mg "refuse_long" (top 22)) (c_longest_in:zfn P w K mg base):zex P w K mg base:=fnP ["one","other"] h fun hr nd=>by
  unfold zcJ
  exact(zap (zaS (za2 (zwQ hr) (zao zbI (zbb c_longest_in hr (a1 (zab 0))) (zbb c_longest_in hr (a1 (zab 1)))) (zkh (v:=(.int 5)) rfl C.zcx ⟨_,rfl⟩ (fun _=>zci _))) (zap zf1) zaB))
theorem zfw(h:Has K mg "refuse_letters" (top 26)) (c_is_whole:zdr P w K mg base):zcU P w K mg base:=fnP ["count"] h fun hr nd=>by
  unfold zbJ
  exact(zap (zaS (PVW.pvt (zcR (za9 (zbg zdJ (zbb c_is_whole hr (a1 (zab 0))))) (zcs (za9 (zmZ (zvO hr) (zvO hr) zad (zab 0) (zkh (v:=(.int 4)) rfl C.zcd ⟨_,rfl⟩ (fun _=>zci _))))))) (zap zf1) zaB))
theorem zjl(h:Has K mg "_law_purse" (top 31)) (c__law_mixed:zdh P w K mg base):zfp P w K mg base:=fnP ["_law_cell","_law_k"] h fun hr nd=>by
  unfold zfj
  exact(zaf (zaS (za2 (zxv hr) (zab 0) (zao zi8 zad zad)) (zap (zcu (zbY (a3 (zao zsb (zab 0) (zao zi8 zad zad)) zad (zab 1))))) zaB)
      (zap (zcu (zbY (a3 (zbb c__law_mixed hr (a2 (zab 0) (zab 1))) zad (zao zbI (zao zkl (zab 0) (zao zbI (zao zi8 zad zad) zad)) (zab 1)))))))
theorem zkw(h:Has K mg "_law_take" (top 32)) (c__law_mixed:zdh P w K mg base):zb2 P w K mg base:=fnM [true,false] ["_law_purse_here","_law_many","_law_got"] h fun hr nd=>by
  unfold zgC
  exact(zaf (zaS (za2 (zmz hr) (zi5 0 zbK zad) (zab 1)) (zaf (zh3 0 (pv 0) (zao zbI (zi5 0 zbK zad) zad) zad)
      (zap (zh3 0 (pv 0) (zao zbI (zi5 0 zbK zad) (zao zcv (zab 1) (zbb c__law_mixed hr (a2 (zi5 0 zbK zad) (zao zbI (zao zcv zad (zi5 0 zbK zad)) zad))))) zad))) zaB)
      (zaf (za8 2 nd (zao zkl (zi5 0 zbK zad) (zab 1)))
      (zaf (zh3 0 (pv 0) (zao (zc3 hr) (zi5 0 zbK zad) (zab 1)) zad)
      (zaR (zab 2)))))
theorem zky(h:Has K mg "_law_plus" (top 35)) (c__law_low:zds P w K mg base):zgI P w K mg base:=fnP ["_law_one","_law_other"] h fun hr nd=>by
  unfold zgE
  exact(zaR (zbb c__law_low hr (a2 (zao zbI (zao zcv (zaD zbK (zab 0) zad) (zaD zbK (zab 1) zad)) (zao zcv (zaD zbK (zab 1) zad) (zaD zbK (zab 0) zad))) (zao zcv (zaD zbK (zab 0) zad) (zaD zbK (zab 1) zad)))))
theorem znQ(h:Has K mg "_law_by" (top 36)) (c__law_low:zds P w K mg base):zjT P w K mg base:=fnP ["_law_one","_law_other"] h fun hr nd=>by
  unfold zjN
  exact(zaR (zbb c__law_low hr (a2 (zao zcv (zaD zbK (zab 0) zad) (zaD zbK (zab 1) zad)) (zao zcv (zaD zbK (zab 0) zad) (zaD zbK (zab 1) zad)))))
theorem znP(h:Has K mg "is_term" (top 15)) (c_is_word:zjR P w K mg base) (c_is_number:zgF P w K mg base):zjS P w K mg base:=fnP ["term","count"] h fun hr nd=>by
  unfold zjM
  exact(zaf (zaS (PVW.pvt (zcR (za9 (zbg zdJ (zkg kit_tuple B.zaF B.zc4 Bt.tuple (zab 0)))) (zcs (za2 (zkd hr) (zft zjE B.zgV Bt.len (zab 0)) zad)))) (zaR zdA) zaB)
      (zaR (zhh (zbb c_is_word hr (a2 (zaD zbK (zab 0) zad) (zab 1))) (zhh (zbb c_is_number hr (a1 (zaD zbK (zab 0) zad))) (zhg (zi6 (zkd hr) (zaD zbK (zab 0) zad) (zm5 rfl C.zeb C.v_NOUGHT (fun _=>by simp [zag,Fz]))))))))
theorem zme(h:Has K mg "add_term" (top 20)) (c_plus:zq3 P w K mg base):zhO P w K mg base:=fnM [true,false,false] ["held","word","number"] h fun hr nd=>by
  unfold zhI
  exact(zaf (za8 2 nd (zbb c_plus hr (a2 (zlf 0 (zdC hr) (pv 0) (zab 1) (zm5 rfl C.zeb C.v_NOUGHT (fun _=>by simp [zag,Fz])) ⟨rfl,rfl,rfl,rfl⟩) (zab 2))))
      (zap (zaS (za2 (zkd hr) (zab 2) (zm5 rfl C.zeb C.v_NOUGHT (fun _=>by simp [zag,Fz]))) (zap (zh5 0 (zdC hr) (pv 0) (zab 2) (zab 1))) (zap (zaS (zrz 0 (zvP hr) (zab 1)) (zap (zpi 0 (zdC hr) (pv 0) (zab 1))) zaB)))))
theorem zil(h:Has K mg "_law_number" (top 38)) (c__law_take:zb2 P w K mg base) (c__law_low:zds P w K mg base):zey P w K mg base:=fnM [true] ["_law_purse_here","_law_way"] h fun hr nd=>by
  unfold zet
  exact(zaf (za8 1 nd (zd6 c__law_take hr (zkQ 0 (zbu zad zaU))))
      (zaf (zaS (za2 (zmz hr) (zab 1) zad) (zaR (zaD zbK (PVN.pv (zle rfl)) (zab 1))) zaB)
      (zaf (zaS (za2 (zrs hr) (zab 1) zad) (zaR (zbM (a2 (zao zsb (zd6 c__law_take hr (zkQ 0 (zbu zad zaU))) zad) zad))) zaB)
      (zaR (zbb c__law_low hr (a2 (zao zsb (zd6 c__law_take hr (zkQ 0 (zbu (zao zbI (zao zcv zad (zao zi8 zad zad)) zad) zaU))) (zao zi8 zad zad)) (zao zbI zad (zd6 c__law_take hr (zkQ 0 (zbu zad zaU))))))))))
theorem zku(h:Has K mg "_law_word" (top 39)) (c__law_take:zb2 P w K mg base):zgG P w K mg base:=fnM [true,false,false] ["_law_purse_here","_law_count","_law_most"] h fun hr nd=>by
  unfold zgA zd3
  exact(zaR (zkf zsM B.zc4 Bt.tuple (PVN.pv (cp ["_law_place"] [0,1] ["_law_place","_law_purse_here","_law_count"] (zhf rfl B.zie (a1 (zd6 c__law_take hr (zkQ 0 (zbu (zao zbI (zab 2) zad) zaU))))) (fun nd=>(g_n 0 nd)) zct (zd6 c__law_take hr (zkQ 1 (zbu (zab 2) zaU)))))))
theorem zmg(h:Has K mg "_law_put" (top 43)) (c__law_plus:zgI P w K mg base):zhQ P w K mg base:=fnM [true,false,false] ["_law_found","_law_word_here","_law_number_here"] h fun hr nd=>by
  unfold zhK
  exact(zaf (zh5 0 (zdC hr) (pv 0) (zbb c__law_plus hr (a2 (zlf 0 (zdC hr) (pv 0) (zab 1) (zbM (a2 zad zad)) ⟨rfl,rfl,rfl,rfl⟩) (zab 2))) (zab 1))
      (zap (zaS (za2 (zrs hr) (zaD zbK (zi5 0 (zrt hr) (zab 1)) zad) zad) (zap (zph 0 (zdC hr) (pv 0) (zab 1) ⟨rfl,rfl,rfl,rfl⟩)) zaB)))
theorem zji(h:Has K mg "may_follow" (top 17)) (c_is_term:zjS P w K mg base) (c_word_order:zdg P w K mg base):zfm P w K mg base:=fnP ["ahead","term","count"] h fun hr nd=>by
  unfold zfi
  exact(zaf (zaS (za9 (zbg zdJ (zbb c_is_term hr (a2 (zab 1) (zab 2))))) (zaR zdA) zaB)
      (zaR (zvY (zi6 zwd (zab 0) zqo) (zhg (zi6 (zwc hr.units) (zbb c_word_order hr (a1 (zaD zbK (zab 0) zad))) (zbb c_word_order hr (a1 (zaD zbK (zab 1) zad))))))))
theorem zmb(h:Has K mg "told_sum" (top 19)) (c_word_order:zdg P w K mg base):zhM P w K mg base:=fnP ["held"] h fun hr nd=>by
  unfold zhF ze8
  exact(zap (zcu (cp ["word"] [0] ["word","held"] (zeJ (PVN.pv (zi4 c_word_order hr rfl rfl B.zfJ rfl (zab 0)))) (fun nd=>(g_n 0 nd)) zct (zbM (a2 (zab 0) (zaD (zrt hr) (zab 1) (zab 0)))))))
theorem zgY(h:Has K mg "put_together" (top 23)) (c_add_term:zhO P w K mg base) (c_times:zoG P w K mg base):zdH P w K mg base:=fnP ["one","other","held","first","second"] h fun hr nd=>by
  unfold zdG zcL zcN zcM zcO
  exact(zaf (zi3 2 nd zf3)
      (zaf (zf2 (zd5 (zab 0)) (g_n 3 nd) (zap (zf2 (zd5 (zab 1)) (g_n 4 nd) (zap (zfH (zd6 c_add_term hr (zkQ 2 (zbu (zao zbI (zab 3) (zab 4)) (zbu (zbb c_times hr (a2 (zaD (zrt hr) (zab 0) (zab 3)) (zaD (zrt hr) (zab 1) (zab 4)))) zaU)))))))))
      (zap (zh4 2 (pv 2)))))
theorem zmf(h:Has K mg "_law_sum" (top 40)) (c__law_take:zb2 P w K mg base) (c__law_word:zgG P w K mg base) (c__law_number:zey P w K mg base):zhP P w K mg base:=fnM [true,false,false,false] ["_law_purse_here","_law_count","_law_many","_law_most","_law_found","_law_term","_law_word_here","_law_number_here"] h fun hr nd=>by
  unfold zhJ ze2 ze6
  exact(zaf (zi3 4 nd zf3)
      (zaf (zf2 (zhf rfl B.zie (a1 (zd6 c__law_take hr (zkQ 0 (zbu (zao zbI (zab 2) zad) zaU))))) (g_n 5 nd) (zaf (za8 6 nd (zd6 c__law_word hr (zkQ 0 (zbu (zab 1) (zbu (zab 3) zaU)))))
      (zaf (za8 7 nd (zd6 c__law_number hr (zkQ 0 zaU)))
      (zap (zaS (za2 (zkd hr) (zaD zbK (zab 7) zad) zad) (zap (zh5 4 (zdC hr) (pv 4) (zab 7) (zab 6))) zaB)))))
      (zap (zh4 4 (pv 4)))))
theorem zkv(h:Has K mg "_law_told" (top 42)) (c__law_rank:zgH P w K mg base):zdU P w K mg base:=fnP ["_law_found"] h fun hr nd=>by
  unfold zgB zd4
  exact(zap (zcu (cp ["_law_word_here"] [0] ["_law_word_here","_law_found"] (zeJ (PVN.pv (zi4 c__law_rank hr rfl rfl B.zfJ rfl (zab 0)))) (fun nd=>(g_n 0 nd)) zct (zbM (a2 (zab 0) (zaD (zrt hr) (zab 1) (zab 0)))))))
theorem zim(h:Has K mg "_law_joined" (top 44)) (c__law_put:zhQ P w K mg base) (c__law_by:zjT P w K mg base):zez P w K mg base:=fnP ["_law_one","_law_other","_law_found","_law_word_here","_law_behind"] h fun hr nd=>by
  unfold zeu zcW zcY zcX zcZ
  exact(zaf (zi3 2 nd zf3)
      (zaf (zf2 (zd5 (zab 0)) (g_n 3 nd) (zap (zf2 (zd5 (zab 1)) (g_n 4 nd) (zap (zfH (zd6 c__law_put hr (zkQ 2 (zbu (zao zbI (zab 3) (zab 4)) (zbu (zbb c__law_by hr (a2 (zaD (zrt hr) (zab 0) (zab 3)) (zaD (zrt hr) (zab 1) (zab 4)))) zaU)))))))))
      (zap (zh4 2 (pv 2)))))
theorem zmd(h:Has K mg "held_sum" (top 18)) (c_may_follow:zfm P w K mg base):zhN P w K mg base:=fnP ["total","count","ahead","place","term"] h fun hr nd=>by
  unfold zhH ze9 ze1 ze5
  exact(zaf (za8 2 nd zqo)
      (zaf (zf2 (zpn rfl B.zdL (a1 (zab 0))) (zke rfl (zbo (g_n 3 nd) (zbo (g_n 4 nd) zfI))) (zaf (zaS (za9 (zbg zdJ (zbb c_may_follow hr (a3 (zab 2) (zab 4) (zab 1))))) (zap zf1) zaB)
      (zap (za8 2 nd (zab 4)))))
      (zap (zcu (dcp ["word","number"] [] ["word","number"] hr (zeJ (zab 0)) (fun nd=>(zke rfl (zbo (g_n 0 nd) (zbo (g_n 1 nd) zfI)))) zct (zab 0) (zab 1))))))
theorem zgZ(h:Has K mg "held_letters" (top 27)) (c_refuse_letters:zcU P w K mg base) (c_held_sum:zhN P w K mg base):zdI P w K mg base:=fnP ["count","total"] h fun hr nd=>by
  unfold zcg
  exact(zaf (zfH (zbb c_refuse_letters hr (a1 (zab 0))))
      (zap (zcu (zaC c_held_sum hr (a2 (zab 1) (zab 0))))))
theorem zpW(h:Has K mg "joined" (top 28)) (c_refuse_long:zex P w K mg base) (c_told_sum:zhM P w K mg base) (c_held_letters:zdI P w K mg base) (c_put_together:zdH P w K mg base):zfR P w K mg base:=fnP ["count","one","other","first","second"] h fun hr nd=>by
  unfold ziH
  exact(zaf (zhe 3 4 nd (PVN.pv (zaC c_held_letters hr (a2 (zab 0) (zab 1)))) (PVN.pv (zaC c_held_letters hr (a2 (zab 0) (zab 2)))))
      (zaf (zfH (zbb c_refuse_long hr (a2 (zab 3) (zab 4))))
      (zap (zcu (zaC c_told_sum hr (a1 (PVN.pv (zaC c_put_together hr (a2 (zab 3) (zab 4))))))))))
theorem zjk(h:Has K mg "_law_right" (top 47)) (c_joined:zfR P w K mg base) (c__law_told:zdU P w K mg base) (c__law_is_sum:zeA P w K mg base):zfo P w K mg base:=fnP ["_law_count","_law_one","_law_other","_law_due","_law_handed","_law_before","_law_told_here"] h fun hr nd=>by
  unfold zb9
  exact(zaf (za8 4 nd (PVN.pv (zbY (a2 (PVN.pv (zaC c__law_told hr (a1 (zab 1)))) (PVN.pv (zaC c__law_told hr (a1 (zab 2))))))))
      (zaf (za8 5 nd (PVN.pv (zbY (a2 (zkf zhC B.zea Bt.list (zaD zbK (zab 4) zad)) (zkf zhC B.zea Bt.list (zaD zbK (zab 4) zad))))))
      (zaf (zi3 6 nd (zaC c_joined hr (a3 (zab 0) (zaD zbK (zab 4) zad) (zaD zbK (zab 4) zad))))
      (zaf (zaS (PVW.pvt (zcR (za9 (zbg zdJ (zd6 c__law_is_sum hr (zkQ 6 zaU)))) (zcR (zrB 6 (zkd hr) (zab 3)) (zcs (za2 (zkd hr) (zab 4) (zab 5)))))) (zaR zdA) zaB)
      (zaf (zl3 6 rfl (pv 6) (zbM (a2 (zbM zbZ) (zbM (a2 zad zad)))))
      (zaR (zhh (zi6 (zrs hr) (PVN.pv (zaC c_joined hr (a3 (zab 0) (zaD zbK (zab 4) zad) (zaD zbK (zab 4) zad)))) (zab 3)) (zhg (zi6 (zrs hr) (zab 4) (zab 5))))))))))
theorem zeM(h:Has K mg "_law_plain_well" (top 48)) (c_joined:zfR P w K mg base):zck P w K mg base:=fnP ["_law_count","_law_total","_law_plain"] h fun hr nd=>by
  unfold za5
  exact(zaf (za8 2 nd (PVN.pv (zbY (a1 (zbM (a2 (zbM zbZ) (zbM (a2 zad zad))))))))
      (zaf (zaS (PVW.pvt (zcR (za2 (zkd hr) (PVN.pv (zaC c_joined hr (a3 (zab 0) (zab 2) (zkf zhC B.zea Bt.list (zab 1))))) (zab 1)) (zcs (za2 (zkd hr) (PVN.pv (zaC c_joined hr (a3 (zab 0) (zkf zhC B.zea Bt.list (zab 1)) (zab 2)))) (zab 1))))) (zaR zdA) zaB)
      (zaR (zhh (zi6 (zrs hr) (PVN.pv (zaC c_joined hr (a3 (zab 0) (PVN.pv (zbY zbZ)) (zkf zhC B.zea Bt.list (zab 1))))) (PVN.pv (zbY zbZ))) (zhg (zi6 (zrs hr) (PVN.pv (zaC c_joined hr (a3 (zab 0) (zkf zhC B.zea Bt.list (zab 1)) (PVN.pv (zbY zbZ))))) (PVN.pv (zbY zbZ))))))))
set_option maxHeartbeats 0 in
theorem zwj{fa:Addr}{fd:FuncData}(h:Fun K "law" "law" (top 49) fa fd) (c__law_purse:zfp P w K mg base) (c__law_joined:zez P w K mg base) (c__law_told:zdU P w K mg base) (c_joined:zfR P w K mg base) (c__law_at:zjU P w K mg base) (c__law_take:zb2 P w K mg base) (c__law_sum:zhP P w K mg base) (c__law_right:zfo P w K mg base) (c__law_plain_well:zck P w K mg base):zhV P w K mg base (CXe P w) 9 fa fd ["_law_script"] (spP K 1 false zoQ):=by
  have S:zdj ["_law_script","_law_cell","_law_purse_here","_law_count","_law_sizes","_law_one","_law_other","_law_third","_law_first","_law_total","_law_whole"] ["_law_script"] (zat (top 49)):=⟨rfl,rfl,rfl,by decide +kernel,rfl,by decide +kernel,by decide +kernel⟩
  refine zhV.pure (zoc (List.replicate 1 false) false h S rfl (by decide) fun cdv A outer s H E hr=>?_)
  have nd:=S.nd
  refine zm0 ?_
  unfold zqi zhY zeF zfZ
  exact(zaf (zf2 (zeJ (zao zbI (zpp zvB (zab 0) zpk (zpj zad)) (PVN.pv (zbY (a1 (zbb c__law_at hr (a2 (zab 0) zad))))))) (g_n 1 nd) (zaf (zi3 2 nd (zaC c__law_purse hr (a2 (zab 1) zad)))
      (zaf (za8 3 nd (zao zbI zad (zd6 c__law_take hr (zkQ 2 (zbu zad zaU)))))
      (zaf (za8 4 nd (zaD zbK (PVN.pv (zle rfl)) (zd6 c__law_take hr (zkQ 2 (zbu zad zaU)))))
      (zaf (zm1 (PVN.pv (cp ["_law_size"] [2,3] ["_law_size","_law_purse_here","_law_count"] (zeJ (zab 4)) (fun nd=>(g_n 0 nd)) zct (PVN.pv (ztA c__law_sum hr (zkQ 1 (zbu (zab 2) (zbu zad (zbu (zab 0) zaU)))))))) (zrH rfl (zbo (g_n 5 nd) (zbo (g_n 6 nd) (zbo (g_n 7 nd) zfI)))))
      (zaf (za8 8 nd (PVN.pv (zaC c__law_joined hr (a2 (zab 5) (zab 6)))))
      (zaf (zaS (za9 (zbg zdJ (zbb c__law_right hr (zbO (zab 3) (a3 (zab 5) (zab 6) (PVN.pv (zaC c__law_told hr (a1 (zab 8))))))))) (zaR zdA) zaB)
      (zaf (zaS (za9 (zbg zdJ (zbb c__law_right hr (zbO (zab 3) (a3 (zab 6) (zab 5) (PVN.pv (zaC c__law_told hr (a1 (PVN.pv (zaC c__law_joined hr (a2 (zab 6) (zab 5)))))))))))) (zaR zdA) zaB)
      (zaf (za8 9 nd (PVN.pv (zaC c__law_told hr (a1 (zab 5)))))
      (zaf (zaS (PVW.pvt (zrw (za2 (zmz hr) (zaD zbK (zab 4) zad) zad) (zpf (za2 (zkd hr) (PVN.pv (zaC c_joined hr (a3 (zab 3) (zab 9) (zab 9)))) (PVN.pv (zaC c__law_told hr (a1 (PVN.pv (zaC c__law_joined hr (a2 (zab 5) (zab 5))))))))))) (zaR zdA) zaB)
      (zaf (za8 10 nd (PVN.pv (zaC c_joined hr (a3 (zab 3) (PVN.pv (zaC c_joined hr (a3 (zab 3) (zab 9) (PVN.pv (zaC c__law_told hr (a1 (zab 6))))))) (PVN.pv (zaC c__law_told hr (a1 (zab 7))))))))
      (zaf (zaS (za2 (zkd hr) (PVN.pv (zaC c_joined hr (a3 (zab 3) (zab 9) (PVN.pv (zaC c_joined hr (a3 (zab 3) (PVN.pv (zaC c__law_told hr (a1 (zab 6)))) (PVN.pv (zaC c__law_told hr (a1 (zab 7)))))))))) (zab 10)) (zaR zdA) zaB)
      (zap (zaS (PVW.pvt (zcR (za2 (zkd hr) (zab 10) (PVN.pv (zaC c__law_told hr (a1 (PVN.pv (zaC c__law_joined hr (a2 (zab 8) (zab 7)))))))) (zcs (za9 (zbg zdJ (zbb c__law_plain_well hr (a2 (zab 3) (PVN.pv (zaC c__law_told hr (a1 (zab 6))))))))))) (zaR zdA) zaB))))))))))))))
      (zaR zdA))
end
end
section
theorem all_mk{l:PySem.W.OpenLaw}{w:World}{K:W.Frag}{h:Heap}{mg:Str->Option Value}{fa:Addr}(X:K.In h)(G:h.Ns mainGlobals mg)(hfa:mg "law"=some (.ref fa))
  {zaW:Tok} {zbx:Tok} {zbC:Addr}
  {ou_NOUGHT:Option Addr} {nn_NOUGHT:Nat} {su_NOUGHT:Array (Option Value)} {k0_NOUGHT k1_NOUGHT:Tok}
  (zmr:Has K mg "is_whole" (top 7))
  (zfC:Has K mg "common_divisor" (top 8))
  (zjW:Has K mg "word_order" (top 16))
  (zjY:Has K mg "longest_in" (top 21))
  (zj1:Has K mg "_law_mixed" (top 30))
  (zoK:Has K mg "_law_at" (top 33))
  (zmw:Has K mg "_law_low" (top 34))
  (zkX:Has K mg "_law_rank" (top 41))
  (ziN:Has K mg "_law_is_sum" (top 46))
  (zkT:Has K mg "is_number" (top 9))
  (zvc:Has K mg "plus" (top 10))
  (zsT:Has K mg "times" (top 11))
  (zoH:Has K mg "is_word" (top 14))
  (ziK:Has K mg "refuse_long" (top 22))
  (zfB:Has K mg "refuse_letters" (top 26))
  (zj0:Has K mg "_law_purse" (top 31))
  (zkW:Has K mg "_law_take" (top 32))
  (zkY:Has K mg "_law_plus" (top 35))
  (zoJ:Has K mg "_law_by" (top 36))
  (zoI:Has K mg "is_term" (top 15))
  (zmt:Has K mg "add_term" (top 20))
  (ziL:Has K mg "_law_number" (top 38))
  (zkU:Has K mg "_law_word" (top 39))
  (zmv:Has K mg "_law_put" (top 43))
  (zjX:Has K mg "may_follow" (top 17))
  (zmq:Has K mg "told_sum" (top 19))
  (zg5:Has K mg "put_together" (top 23))
  (zmu:Has K mg "_law_sum" (top 40))
  (zkV:Has K mg "_law_told" (top 42))
  (ziM:Has K mg "_law_joined" (top 44))
  (zms:Has K mg "held_sum" (top 18))
  (zg6:Has K mg "held_letters" (top 27))
  (zql:Has K mg "joined" (top 28))
  (zjZ:Has K mg "_law_right" (top 47))
  (zeZ:Has K mg "_law_plain_well" (top 48))
  (zwM:Has K mg "law" (top 49))
  (zcd:PySem.W.nsIn K mainGlobals "MOST_LETTERS"=some (some (.int 4 zaW)))
  (zcx:PySem.W.nsIn K mainGlobals "MOST_LONG"=some (some (.int 5 zbx)))
  (zeb:PySem.W.nsIn K mainGlobals "NOUGHT"=some (some (.ref zbC)))
  (zpS:K.lookup zbC=some ⟨.type "tuple",ou_NOUGHT,.seq #[.int 0 k0_NOUGHT,.int 1 k1_NOUGHT] nn_NOUGHT,su_NOUGHT⟩)
  (znt:PySem.W.nsIn K mainGlobals "abs"=some none)
  (zaF:PySem.W.nsIn K mainGlobals "isinstance"=some none)
  (zsd:PySem.W.nsIn K mainGlobals "int"=some none)
  (zns:PySem.W.nsIn K mainGlobals "bool"=some none)
  (zc4:PySem.W.nsIn K mainGlobals "tuple"=some none)
  (zea:PySem.W.nsIn K mainGlobals "list"=some none)
  (zuc:PySem.W.nsIn K mainGlobals "str"=some none)
  (zgV:PySem.W.nsIn K mainGlobals "len"=some none)
  (zse:PySem.W.nsIn K mainGlobals "all"=some none)
  (zie:PySem.W.nsIn K mainGlobals "range"=some none)
  (zua:PySem.W.nsIn K mainGlobals "zip"=some none)
  (zdL:PySem.W.nsIn K mainGlobals "enumerate"=some none)
  (zsc:PySem.W.nsIn K mainGlobals "max"=some none)
  (zud:PySem.W.nsIn K mainGlobals "min"=some none)
  (zub:PySem.W.nsIn K mainGlobals "sum"=some none)
  (zfJ:PySem.W.nsIn K mainGlobals "sorted"=some none)
  (zqy:PySem.W.nsIn K mainGlobals "dict"=some none)
  (zue:PySem.W.nsIn K mainGlobals "any"=some none) :
  ∃(cl:CL) (fd:FuncData),zj7 cl K/\(∀(s:Shared) (v:Value),BindsTo s fd ⟨[v],[]⟩ [("_law_script",v)])/\∀ base:Heap,(zeE (cl.map (·.1)) K).In base->base.Ns mainGlobals mg->zhV l.prog w (zeE (cl.map (·.1)) K) mg base (CXe l.prog w) 9 fa fd ["_law_script"] (@spP (zsW cl) (zeE (cl.map (·.1)) K) 1 false zoQ):=by
 obtain⟨f,fd,hm,Fl⟩:=id zwM
 have e:=hfa.symm.trans hm
 cases e
 obtain⟨oc,od,kV,dc,pm,an,cd,ct,sl,rfl,lk,hcd⟩:=id Fl.ex
 have hC:zj7 [(zbC,⟨.type "tuple",ou_NOUGHT,.seq #[.int 0 k0_NOUGHT,.int 1 k1_NOUGHT] nn_NOUGHT,su_NOUGHT⟩,[.int 0,.int 1])] K:=(zj7.cons zpS (.cons ⟨_,rfl⟩ (.cons ⟨_,rfl⟩ (.nil))) (by decide) zj7.nil)
 refine⟨_,PySem.W.fnOf "law" "law" (zcI (top 49)) (zbq (top 49)) (zat (top 49)) .none kV dc pm an cd ct,hC,fun s v=>.of_eq rfl,fun base _ _=>?_⟩
 have B:Blt mg:=⟨PySem.W.mg_none_of X G znt,PySem.W.mg_none_of X G zaF,PySem.W.mg_none_of X G zsd,PySem.W.mg_none_of X G zns,PySem.W.mg_none_of X G zc4,PySem.W.mg_none_of X G zea,PySem.W.mg_none_of X G zuc,PySem.W.mg_none_of X G zgV,PySem.W.mg_none_of X G zse,PySem.W.mg_none_of X G zie,PySem.W.mg_none_of X G zua,PySem.W.mg_none_of X G zdL,PySem.W.mg_none_of X G zsc,PySem.W.mg_none_of X G zud,PySem.W.mg_none_of X G zub,PySem.W.mg_none_of X G zfJ,PySem.W.mg_none_of X G zqy,PySem.W.mg_none_of X G zue⟩
 letI:Cs:=zsW [(zbC,⟨.type "tuple",ou_NOUGHT,.seq #[.int 0 k0_NOUGHT,.int 1 k1_NOUGHT] nn_NOUGHT,su_NOUGHT⟩,[.int 0,.int 1])]
 have C:Cst mg zaW zbx zbC:=⟨PySem.W.mg_of X G zcd,PySem.W.mg_of X G zcx,PySem.W.mg_of X G zeb,zuE hC (List.Mem.head _)⟩
 have d_is_whole:=zmc (P:=l.prog) (w:=w) (base:=base) B C (zmr.cut hC.seqs)
 have d_common_divisor:=zfx (P:=l.prog) (w:=w) (base:=base) B C (zfC.cut hC.seqs)
 have d_word_order:=zjh (P:=l.prog) (w:=w) (base:=base) B C (zjW.cut hC.seqs)
 have d_longest_in:=zjj (P:=l.prog) (w:=w) (base:=base) B C (zjY.cut hC.seqs)
 have d__law_mixed:=zjm (P:=l.prog) (w:=w) (base:=base) B C (zj1.cut hC.seqs)
 have d__law_at:=znR (P:=l.prog) (w:=w) (base:=base) B C (zoK.cut hC.seqs)
 have d__law_low:=zmh (P:=l.prog) (w:=w) (base:=base) B C (zmw.cut hC.seqs)
 have d__law_rank:=zkx (P:=l.prog) (w:=w) (base:=base) B C (zkX.cut hC.seqs)
 have d__law_is_sum:=zin (P:=l.prog) (w:=w) (base:=base) B C (ziN.cut hC.seqs)
 have d_is_number:=zkt (P:=l.prog) (w:=w) (base:=base) B C (zkT.cut hC.seqs) d_common_divisor d_is_whole
 have d_plus:=zuy (P:=l.prog) (w:=w) (base:=base) B C (zvc.cut hC.seqs) d_common_divisor
 have d_times:=zss (P:=l.prog) (w:=w) (base:=base) B C (zsT.cut hC.seqs) d_common_divisor
 have d_is_word:=znO (P:=l.prog) (w:=w) (base:=base) B C (zoH.cut hC.seqs) d_is_whole
 have d_refuse_long:=zik (P:=l.prog) (w:=w) (base:=base) B C (ziK.cut hC.seqs) d_longest_in
 have d_refuse_letters:=zfw (P:=l.prog) (w:=w) (base:=base) B C (zfB.cut hC.seqs) d_is_whole
 have d__law_purse:=zjl (P:=l.prog) (w:=w) (base:=base) B C (zj0.cut hC.seqs) d__law_mixed
 have d__law_take:=zkw (P:=l.prog) (w:=w) (base:=base) B C (zkW.cut hC.seqs) d__law_mixed
 have d__law_plus:=zky (P:=l.prog) (w:=w) (base:=base) B C (zkY.cut hC.seqs) d__law_low
 have d__law_by:=znQ (P:=l.prog) (w:=w) (base:=base) B C (zoJ.cut hC.seqs) d__law_low
 have d_is_term:=znP (P:=l.prog) (w:=w) (base:=base) B C (zoI.cut hC.seqs) d_is_word d_is_number
 have d_add_term:=zme (P:=l.prog) (w:=w) (base:=base) B C (zmt.cut hC.seqs) d_plus
 have d__law_number:=zil (P:=l.prog) (w:=w) (base:=base) B C (ziL.cut hC.seqs) d__law_take d__law_low
 have d__law_word:=zku (P:=l.prog) (w:=w) (base:=base) B C (zkU.cut hC.seqs) d__law_take
 have d__law_put:=zmg (P:=l.prog) (w:=w) (base:=base) B C (zmv.cut hC.seqs) d__law_plus
 have d_may_follow:=zji (P:=l.prog) (w:=w) (base:=base) B C (zjX.cut hC.seqs) d_is_term d_word_order
 have d_told_sum:=zmb (P:=l.prog) (w:=w) (base:=base) B C (zmq.cut hC.seqs) d_word_order
 have d_put_together:=zgY (P:=l.prog) (w:=w) (base:=base) B C (zg5.cut hC.seqs) d_add_term d_times
 have d__law_sum:=zmf (P:=l.prog) (w:=w) (base:=base) B C (zmu.cut hC.seqs) d__law_take d__law_word d__law_number
 have d__law_told:=zkv (P:=l.prog) (w:=w) (base:=base) B C (zkV.cut hC.seqs) d__law_rank
 have d__law_joined:=zim (P:=l.prog) (w:=w) (base:=base) B C (ziM.cut hC.seqs) d__law_put d__law_by
 have d_held_sum:=zmd (P:=l.prog) (w:=w) (base:=base) B C (zms.cut hC.seqs) d_may_follow
 have d_held_letters:=zgZ (P:=l.prog) (w:=w) (base:=base) B C (zg6.cut hC.seqs) d_refuse_letters d_held_sum
 have d_joined:=zpW (P:=l.prog) (w:=w) (base:=base) B C (zql.cut hC.seqs) d_refuse_long d_told_sum d_held_letters d_put_together
 have d__law_right:=zjk (P:=l.prog) (w:=w) (base:=base) B C (zjZ.cut hC.seqs) d_joined d__law_told d__law_is_sum
 have d__law_plain_well:=zeM (P:=l.prog) (w:=w) (base:=base) B C (zeZ.cut hC.seqs) d_joined
 have d_law:=zwj (P:=l.prog) (w:=w) (base:=base) B C (Fun.cut hC.seqs Fl) d__law_purse d__law_joined d__law_told d_joined d__law_at d__law_take d__law_sum d__law_right d__law_plain_well
 exact d_law
theorem walk{l:PySem.W.OpenLaw}{q:Program}{loose:List Str}{XP:(Str->Option Value)->Heap->Prop}{YP:World->Heap->Prop}{d:DefRec}{K:Params->W.Frag}(hlaw:∀ ns:List Int,ns.length<=63->zoQ [.list (ns.map PyData.int)]=.ok (.bool true))(hn:l.most=some 63)(hdf:d.params.defaults=[])(hi:importsNone q=true)(htr:l.prog.given.tree=none)
  (hY:∀(w:World) (h:Heap),YP w h->(K w.params).In h)
  (F:∀(w:World) (mg:Str->Option Value) (fa:Addr) (h:Heap),(K w.params).In h->h.Ns mainGlobals mg->mg d.name=some (.ref fa) ->
   ∃(cl:CL) (fd:FuncData),zj7 cl (K w.params)/\(∀(s:Shared) (u:Value),BindsTo s fd ⟨[u],[]⟩ [("_law_script",u)])/\∀ base:Heap,(zeE (cl.map (·.1)) (K w.params)).In base->base.Ns mainGlobals mg->zhV l.prog w (zeE (cl.map (·.1)) (K w.params)) mg base (CXe l.prog w) 9 fa fd ["_law_script"] (@spP (zsW cl) (zeE (cl.map (·.1)) (K w.params)) 1 false zoQ)) :
  PySem.W.WalkO q loose XP YP l.row.toRowW d [] (fun f vs=>PySem.call f vs) :=
 zo4 (k:=9) (x:="_law_script") hlaw hn hdf hi htr ⟨rfl,by decide,by decide,rfl⟩ hY F
end
end K46
namespace FL
open PySem
section
theorem zeV{k:Nat}{ix:List Nat}{g:GF}{t:TF}{f:EF}{ρ:En}(P:D->Bool)(h:D->D):∀(items:List D) (acc:List D),acc.length+items.length<=lim ->
  (∀ x∈items,∃ β,g x (blk k ix ρ)=.ok β/\t β=.ok (P x,β)/\(P x=true->f β=.ok (h x,β))/\back ρ ix (β.drop k)=ρ)->zdS k ix g t f items ρ acc=.ok (acc++(items.filter P).map h,ρ)
 | [],acc,_,_=>by simp [zdS]
 | x::xs,acc,hl,hx=>by
  obtain⟨β,h1,h2,h3,h4⟩:=hx x (List.mem_cons_self ..)
  have rest:=fun y m=>hx y (List.mem_cons_of_mem x m)
  simp only [List.length_cons] at hl
  unfold zdS
  rw [h1,zac,h2,zac]
  cases c:P x with
  | true =>
   rw [if_pos rfl,h3 c,zac,zaz (zec (by omega)),h4,zeV P h xs _ (by simp;omega) rest,List.filter_cons_of_pos c]
   simp
  | false =>
   rw [if_neg (by simp),h4,zeV P h xs acc (by omega) rest,List.filter_cons_of_neg (by simp [c])]
theorem zml{k:Nat}{ix:List Nat}{it:IF}{g:GF}{t:TF}{f:EF}{ρ:En}{items:List D}(P:D->Bool)(h:D->D)(hi:it ρ=.ok (items,ρ))(hl:items.length<=lim)
  (hx:∀ x∈items,∃ β,g x (blk k ix ρ)=.ok β/\t β=.ok (P x,β)/\(P x=true->f β=.ok (h x,β))/\back ρ ix (β.drop k)=ρ):zcG k ix it g t f ρ=.ok (.list ((items.filter P).map h),ρ):=by
 unfold zcG
 rw [hi,zac,zeV P h items [] (by simpa using hl) hx]
 rfl
theorem zgo{k:Nat}{ix:List Nat}{it:IF}{g:GF}{f:EF}{ρ:En}{items:List D}(h:D->D)(hi:it ρ=.ok (items,ρ))(hl:items.length<=lim)
  (hx:∀ x∈items,∃ β,g x (blk k ix ρ)=.ok β/\f β=.ok (h x,β)/\back ρ ix (β.drop k)=ρ):zcG k ix it g zbE f ρ=.ok (.list (items.map h),ρ):=by
 rw [zml (fun _=>true) h hi hl fun x m=>by
  obtain⟨β,h1,h2,h3⟩:=hx x m
  exact⟨β,h1,rfl,fun _=>h2,h3⟩]
 rw [List.filter_eq_self.mpr (fun _ _=>rfl)]
theorem zht(ns:List Int):intsOf (ns.map PyData.int)=some ns:=by
 induction ns with
 | nil=>rfl
 | cons n ns ih=>simp [intsOf,ih]
theorem zkM(ns:List Bool):boolsOf (ns.map PyData.bool)=some ns:=by
 induction ns with
 | nil=>rfl
 | cons n ns ih=>simp [boolsOf,ih]
theorem zqk(bs:List Bool):zvp (.list (bs.map PyData.bool))=.ok (.bool (bs.all id)):=by
 show((R.of (boolsOf _)).bind _)=_
 rw [zkM];rfl
theorem zsn{α β:Type}(g:α->β)(xs:List α)(lo hi:Option Int):cut (xs.map g) lo hi=(cut xs lo hi).map g:=by
 unfold cut
 simp [List.map_take,List.map_drop]
theorem zmV(lo hi:Int):rng lo hi=((List.range (hi-lo).toNat).map fun(i:Nat)=>lo+(i:Int)).map PyData.int:=by
 unfold rng
 rw [List.map_map];rfl
def Pl(n:Nat)(d:D):Prop:=PyData.canLay0 d=true/\d.depth<=n
theorem Pl.shaped{n:Nat}{d:D}(h:Pl n d)(hn:n<=64:=by decide):SeqAt.shaped d=true:=by
 unfold SeqAt.shaped
 rw [h.1,decide_eq_true (Nat.le_trans h.2 hn)];rfl
theorem zhj(i:Int):Pl 0 (.int i):=⟨rfl,Nat.le_refl _⟩
theorem zne{n:Nat}:∀{ds:List D},(∀ d∈ds,Pl n d)->PyData.canLayAll0 ds=true/\PyData.depthAll ds<=n
 | [],_=>⟨rfl,Nat.zero_le _⟩
 | d::ds,h=>by
  obtain⟨a,b⟩:=zne fun x m=>h x (List.mem_cons_of_mem d m)
  obtain⟨c,e⟩:=h d (List.mem_cons_self ..)
  refine⟨by simp only [PyData.canLayAll0];rw [c,a];rfl,?_⟩
  simp only [PyData.depthAll]
  omega
theorem zh7{n:Nat}{ds:List D}(h:∀ d∈ds,Pl n d):Pl (n+1) (.tuple ds):=by
 obtain⟨a,b⟩:=zne h
 exact⟨a,by simp only [PyData.depth];omega⟩
theorem znd{n:Nat}{ds:List D}(h:∀ d∈ds,Pl n d):Pl (n+1) (.list ds):=by
 obtain⟨a,b⟩:=zne h
 exact⟨a,by simp only [PyData.depth];omega⟩
theorem zhx{α:Type}[DecidableEq α](f:α->D)(h:∀ a b,PyData.eqv (f a) (f b)=decide (a=b)):∀ xs ys:List α,PyData.eqvAll (xs.map f) (ys.map f)=decide (xs=ys)
 | [],[]=>rfl
 | [],y::ys=>by simp [PyData.eqvAll]
 | x::xs,[]=>by simp [PyData.eqvAll]
 | x::xs,y::ys=>by
  simp only [List.map_cons,PyData.eqvAll]
  rw [h,zhx f h xs ys]
  by_cases e1:x=y <;> by_cases e2:xs=ys <;> simp [e1,e2]
theorem zkH(a b:Int):PyData.eqv (.int a) (.int b)=decide (a=b):=by
 show(a==b)=_
 rw [Bool.beq_eq_decide_eq]
abbrev tp(w:List Int):D:=.tuple (w.map PyData.int)
theorem zrX(w:List Int):Pl 1 (tp w):=zh7 fun d m=>by
 obtain⟨i,_,rfl⟩:=List.mem_map.mp m
 exact zhj i
theorem zuS(a b:List Int):PyData.eqv (tp a) (tp b)=decide (a=b):=by
 show PyData.eqvAll _ _=_
 exact zhx _ zkH a b
theorem zqS{n m:Nat}{a b:D}(ha:Pl n a)(hb:Pl m b)(hn:n<=64:=by decide)(hm:m<=64:=by decide):eqD a b=.ok (.bool (PyData.eqv a b)):=by
 unfold eqD
 rw [ha.shaped hn,hb.shaped hm];rfl
theorem znr{n m:Nat}{a b:D}(ha:Pl n a)(hb:Pl m b)(hn:n<=64:=by decide)(hm:m<=64:=by decide):neD a b=.ok (.bool (!PyData.eqv a b)):=by
 unfold neD
 rw [ha.shaped hn,hb.shaped hm];rfl
theorem zt9(a b:List Int):neD (tp a) (tp b)=.ok (.bool (!decide (a=b))):=by rw [znr (zrX a) (zrX b),zuS]
theorem zkI(a b:Int):eqD (.int a) (.int b)=.ok (.bool (decide (a=b))):=by rw [zqS (zhj a) (zhj b),zkH]
theorem zf6(a b:Int):neD (.int a) (.int b)=.ok (.bool (!decide (a=b))):=by rw [znr (zhj a) (zhj b),zkH]
theorem zn1(i j:Int):gtD (.int i) (.int j)=.ok (.bool (decide (j<i))):=rfl
theorem zga(i j:Int):ltD (.int i) (.int j)=.ok (.bool (decide (i<j))):=rfl
theorem znG(i j:Int):leD (.int i) (.int j)=.ok (.bool (decide (i<=j))):=rfl
theorem zwr(i j:Int):geD (.int i) (.int j)=.ok (.bool (decide (j<=i))):=rfl
theorem zhc{j:Int}(h:0<=j)(h2:j<=1000000):zcr [.int j]=.ok (rng 0 j):=by
 show chk _ _=_
 refine zaz ?_
 unfold zl0 lim
 simp only [Bool.and_eq_true,leB_iff]
 omega
theorem ziD{m:List (Nat×Sl)}(h:∀ i p d,m.lookup i≠some (.ow p d)):∀(ρ:En) (n:Nat),bkL m n ρ=ρ
 | [],_=>rfl
 | x::r,n=>by
  unfold bkL
  rw [ziD h r (n+1)]
  congr 1
  unfold bk1
  split
  ·rename_i p d q e h1 h2
   exact absurd h2 (h _ _ _)
  ·rfl
theorem zei{α:Type}{f:α->D}{g:GF}{b:SF}(P:List α->En->Prop):∀(xs:List α) (done:List α) (ρ:En),P done ρ ->
  (∀ pre x post ρ,done++xs=pre++x::post->P pre ρ->∃ ρ' fl,(g (f x) ρ).bind b=.ok (fl,ρ')/\(fl=.nx\/fl=.ct)/\P (pre++[x]) ρ')->∃ ρ',forL g b (xs.map f) ρ=.ok (.nx,ρ')/\P (done++xs) ρ'
 | [],done,ρ,h,_=>⟨ρ,rfl,by simpa using h⟩
 | x::xs,done,ρ,h,hx=>by
  obtain⟨ρ1,fl,e,hf,h1⟩:=hx done x xs ρ rfl h
  obtain⟨ρ2,e2,h2⟩:=zei P xs (done++[x]) ρ1 h1 fun pre y post ρ e=>hx pre y post ρ (by simpa using e)
  refine⟨ρ2,?_,by simpa using h2⟩
  show((g (f x) ρ).bind fun ρ1=>(b ρ1).bind fun y=>match y.1 with
    | .nx | .ct=>forL g b (xs.map f) y.2
    | .bk=>.ok (.nx,y.2)
    | .rt d=>.ok (.rt d,y.2)
    | .rf d=>.ok (.rf d,y.2))=_
  cases e1:g (f x) ρ with
  | ok ρ3 =>
   rw [e1] at e
   rw [zac] at e ⊢
   rw [e,zac]
   rcases hf with rfl|rfl
   ·exact e2
   ·exact e2
  | bad=>rw [e1] at e;cases e
  | err c fs=>rw [e1] at e;cases e
def Np(x:Sl):Prop:=∀ e,x≠.ow true e
theorem zcw:Np .no:=fun _ z=>nomatch z
theorem zbv(d:D):Np (.val d):=fun _ z=>nomatch z
theorem zwf(d:D):Np (.ow false d):=fun _ z=>nomatch z
theorem ziu{ρ:En}{i:Nat}{d:D}{x:Sl}(h:ρ[i]?=some x)(n:Np x):gN i d ρ=.ok (ρ.set i (.val d)):=by
 unfold gN
 rw [h]
 cases x with
 | no=>rfl
 | val c=>rfl
 | ob c ds=>rfl
 | ow p c=>cases p with
  | true=>exact absurd rfl (n c)
  | false=>rfl
theorem zmR{i:Nat}{f:EF}{ρ:En}{y:D×En}{x:Sl}(hf:f ρ=.ok y)(h:y.2[i]?=some x)(n:Np x):zgU i f ρ=.ok (.nx,y.2.set i (.ow false y.1)):=by
 unfold zgU
 rw [hf,zac,h]
 cases x with
 | no=>rfl
 | val c=>rfl
 | ob c ds=>rfl
 | ow p c=>cases p with
  | true=>exact absurd rfl (n c)
  | false=>rfl
theorem zcp{i:Nat}{f:EF}{ρ:En}{y:D×En}{x:Sl}(hf:f ρ=.ok y)(h:y.2[i]?=some x)(n:Np x):zaQ (gN i) f ρ=.ok (.nx,y.2.set i (.val y.1)):=by
 unfold zaQ
 rw [hf,zac,ziu h n];rfl
theorem zlP{m:List (Nat×Sl)}{i:Nat}{x:Sl}(h:m.lookup i=none):bk1 m i x=x:=by
 unfold bk1
 rw [h]
 cases x <;> rfl
theorem zam{s t:SF}{ρ ρ1:En}(h:s ρ=.ok (.nx,ρ1)):zax s t ρ=t ρ1:=by
 unfold zax
 rw [h];rfl
end
section
def zgy:SF:=(zax (zaQ (gN 2) (e2 za0 (e2 za0 (e2 zbw (e2 za0 (e2 zif (eV 0) (e2 za0 (e2 zhi (eC (.int 10)) (eC (.int 18))) (eC (.int 9)))) (e2 zbw (eC (.int 7)) (eV 1))) (eC (.int 739108512309184756019283746561))) (e2 zbw (eC (.int 7919)) (eV 1))) (eC (.int 1))))
  (zax (zaQ (gN 2) (e2 zif (e2 zbw (eV 2) (eV 2)) (e2 za0 (e2 zhi (eC (.int 10)) (eC (.int 60))) (eC (.int 7)))))
  (zay (e2 zif (e2 zbw (e2 za0 (eV 2) (eC (.int 40503))) (e2 za0 (eV 2) (eC (.int 57)))) (e2 za0 (e2 zhi (eC (.int 10)) (eC (.int 60))) (eC (.int 7)))))))
def ziP:List D->R D:=za7 false 2 3 zgy
def ziG:SF:=(zax (sIf (tB (e2 ltD (eV 1) (e1 zdW (eV 0)))) (zay (e2 ixD (eV 0) (eV 1))) sNx)
  (zay (e2 za0 (e2 zbw (eC (.int 3)) (eV 1)) (eC (.int 1)))))
def zvq:List D->R D:=za7 false 2 2 ziG
def zdT:SF:=(zax (sIf (tB (e2 geD (eV 0) (e2 zhi (eC (.int 10)) (eC (.int 18))))) (zb4 (zcF (zaa (e2 zgT (eV 0) (e2 zhi (eC (.int 10)) (eC (.int 18)))) (zaa (eC (.int 0)) (zaa (eV 1) zah))))) sNx)
  (zb4 (zcF (zaa (zae ziP (zaa (eV 0) (zaa (eV 1) zah))) (zaa (eC (.int 0)) (zaa (e2 za0 (e2 zif (eV 0) (e2 za0 (e2 zhi (eC (.int 10)) (eC (.int 18))) (eC (.int 9)))) (eV 1)) zah))))))
def ziO:List D->R D:=za7 true 2 2 zdT
def zeW:SF:=(zax (sIf (tB (e2 ltD (m2 ixD 0 (eC (.int 0))) (eV 1))) (zax (setM 0 (e2 za0 (m2 ixD 0 (eC (.int 1))) (eC (.int 1))) (eC (.int 1)))
  (setM 0 (e2 za0 (m2 ixD 0 (eC (.int 0))) (e2 zbw (eV 1) (zae ziP (zaa (m2 ixD 0 (eC (.int 2))) (zaa (e2 za0 (e2 zbw (eC (.int 11)) (m2 ixD 0 (eC (.int 1)))) (eC (.int 5))) zah))))) (eC (.int 0)))) sNx)
  (zax (zaQ (gN 2) (e2 zif (m2 ixD 0 (eC (.int 0))) (eV 1)))
  (zax (setM 0 (e2 zaJ (m2 ixD 0 (eC (.int 0))) (eV 1)) (eC (.int 0)))
  (zay (eV 2)))))
def zbN:List D->R (D×List D):=run [true,false] false 3 zeW
structure Bd(i:Int)(n:Nat):Prop where
 h:i.natAbs<2^n
theorem Bd.mono{i:Int}{n m:Nat}(h:Bd i n)(l:n<=m):Bd i m:=⟨Nat.lt_of_lt_of_le h.h (Nat.pow_le_pow_right (by decide) l)⟩
theorem Bd.add{i j:Int}{n m:Nat}(h:Bd i n)(k:Bd j m):Bd (i+j) (max n m+1):=by
 constructor
 have a:=(h.mono (Nat.le_max_left n m)).h
 have b:=(k.mono (Nat.le_max_right n m)).h
 have c:=Int.natAbs_add_le i j
 rw [Nat.pow_succ]
 omega
theorem Bd.mul{i j:Int}{n m:Nat}(h:Bd i n)(k:Bd j m):Bd (i*j) (n+m):=by
 constructor
 rw [Int.natAbs_mul,Nat.pow_add]
 have a:=h.h
 have b:=k.h
 exact Nat.mul_lt_mul'' a b
theorem Bd.mod{i j:Int}{n:Nat}(h:Bd j n)(p:0<j):Bd (i.fmod j) n:=by
 constructor
 have a:=h.h
 have b:=Int.fmod_nonneg_of_pos i p
 have c:=Int.fmod_lt_of_pos i p
 omega
theorem mulOk_of{i j:Int}{n m:Nat}(h:Bd i n)(k:Bd j m)(l:n+m<=100000000):znu i j=true:=by
 unfold znu
 refine zec ?_
 have lg:∀{i:Int} {n:Nat},Bd i n->i.natAbs.log2<=n:=by
  intro i n h
  by_cases z:i.natAbs=0
  ·rw [z];exact Nat.zero_le _
  ·exact Nat.le_of_lt ((Nat.log2_lt z).mpr h.h)
 have a:=lg h
 have b:=lg k
 omega
theorem zaZ{i j:Int}{n m:Nat}(h:Bd i n)(k:Bd j m)(l:n+m<=100000000):zbw (.int i) (.int j)=.ok (.int (i*j)):=by
 show chk _ _=_
 exact zaz (mulOk_of h k l)
theorem zf9{i j:Int}(p:0<j):zif (.int i) (.int j)=.ok (.int (i.fmod j)):=by
 show chk _ _=_
 exact zaz (by simp;omega)
theorem zp6{i j:Int}{n:Nat}(p:0<j)(h:Bd j n)(l:n<=8000):zaJ (.int i) (.int j)=.ok (.int (i.fdiv j)):=by
 show chk _ _=_
 exact zaz (by simp;omega)
def p18:Int:=1000000000000000000
def zr6:Int:=1000000000000000009
def p60:Int:=1000000000000000000000000000000000000000000000000000000000000
def zr5:Int:=1000000000000000000000000000000000000000000000000000000000007
def pm:Int:=739108512309184756019283746561
theorem zvW:zhi (.int 10) (.int 18)=.ok (.int p18):=rfl
theorem zxw:zhi (.int 10) (.int 60)=.ok (.int p60):=rfl
theorem zw9:p18+9=zr6:=rfl
theorem zxU:p60+7=zr5:=rfl
theorem zkj:0<zr6:=by decide
theorem zf5:0<zr5:=by decide
theorem b18:Bd zr6 60:=⟨by decide⟩
theorem b60:Bd zr5 200:=⟨by decide⟩
theorem bm:Bd pm 100:=⟨by decide⟩
theorem zaK{i:Int}(h:i.natAbs<65536):Bd i 16:=⟨h⟩
def mx1(c k:Int):Int:=(c.fmod zr6+7*k)*pm+7919*k+1
def mx2(c k:Int):Int:=(mx1 c k*mx1 c k).fmod zr5
def zqB(c k:Int):Int:=((mx2 c k+40503)*(mx2 c k+57)).fmod zr5
theorem znv(c k:Int):0<=zqB c k:=Int.fmod_nonneg_of_pos _ zf5
theorem zsi(c k:Int):Bd (zqB c k) 200:=b60.mod zf5
theorem zlp(c k:Int){n:Nat}(hk:Bd k n)(hn:n<=1000):ziP [.int c,.int k]=.ok (.int (zqB c k)):=by
 have a1:=zf9 (i:=c) zkj
 have a2:Bd (c.fmod zr6) 60:=b18.mod zkj
 have a3:=zaZ (i:=7) (zaK (by decide)) hk (by omega)
 have a4:=(zaK (i:=7) (by decide)).mul hk
 have a5:=a2.add a4
 have a6:=zaZ a5 bm (by omega)
 have a7:=zaZ (i:=7919) (zaK (by decide)) hk (by omega)
 have a8:=((a5.mul bm).add ((zaK (i:=7919) (by decide)).mul hk)).add (zaK (i:=1) (by decide))
 have a9:=zaZ a8 a8 (by omega)
 have b1:=zf9 (i:=mx1 c k*mx1 c k) zf5
 have b2:Bd (mx2 c k) 200:=b60.mod zf5
 have b3:=zaZ (b2.add (zaK (i:=40503) (by decide))) (b2.add (zaK (i:=57) (by decide))) (by decide)
 have b4:=zf9 (i:=(mx2 c k+40503)*(mx2 c k+57)) zf5
 have hm:(PyData.int 739108512309184756019283746561)=.int pm:=rfl
 have f1:(c.fmod zr6+7*k)*pm+7919*k+1=mx1 c k:=rfl
 have f2:(mx1 c k*mx1 c k).fmod zr5=mx2 c k:=rfl
 have f3:((mx2 c k+40503)*(mx2 c k+57)).fmod zr5=zqB c k:=rfl
 rw [f1] at a9
 simp only [ziP,za7,FL.run,List.length_cons,List.length_nil,Nat.reduceAdd,List.replicate,zgy,zax,zaQ,FL.e2,eV,slots,Bool.false_eq_true,if_false,Nat.reduceSub,List.cons_append,List.nil_append,zz0,eC,zac,zvW,za0,zw9,a1,zz1,a3,hm,a6,a7,f1,gN,List.set_cons_succ,List.set_cons_zero,zxw,zxU,zay,a9,b1,f2,b3,b4,f3,outs,outD,if_true]
def zeB(k:Nat)(d:D):Prop:=∃ n c s,d=.list [.int n,.int c,.int s]/\0<=n/\0<=c/\c<=k
theorem zeB.mono{k l:Nat}{d:D}(h:zeB k d)(hl:k<=l):zeB l d:=by
 obtain⟨n,c,s,e,h1,h2,h3⟩:=h
 exact⟨n,c,s,e,h1,h2,by omega⟩
theorem zpu(c k:Int)(hk:k.natAbs<65536):∃ d,ziO [.int c,.int k]=.ok d/\zeB 0 d:=by
 have a1:=zf9 (i:=c) zkj
 have hx1:=zlp c k (zaK hk) (by decide)
 by_cases h:p18<=c
 ·refine⟨_,?_,c-p18,0,k,rfl,by omega,by decide,by decide⟩
  have hg:geD (.int c) (.int p18)=.ok (.bool true):=by show R.ok (PyData.bool (decide (p18<=c)))=_;rw [decide_eq_true h]
  simp only [ziO,za7,FL.run,List.length_cons,List.length_nil,Nat.reduceAdd,List.replicate,zdT,zax,sIf,tB,FL.e2,eV,slots,Bool.false_eq_true,if_false,Nat.sub_self,List.cons_append,List.nil_append,zz0,eC,zac,zvW,hg,zb4,zcF,zaa,zgT,zah,sNx,zz1,if_true,zae,za0,outs,outD]
  rfl
 ·refine⟨_,?_,zqB c k,0,c.fmod zr6+k,rfl,znv c k,by decide,by decide⟩
  have hg:geD (.int c) (.int p18)=.ok (.bool false):=by show R.ok (PyData.bool (decide (p18<=c)))=_;rw [decide_eq_false h]
  simp only [ziO,za7,FL.run,List.length_cons,List.length_nil,Nat.reduceAdd,List.replicate,zdT,zax,sIf,tB,FL.e2,eV,slots,Bool.false_eq_true,if_false,Nat.sub_self,List.cons_append,List.nil_append,zz0,eC,zac,zvW,hg,zb4,zcF,zaa,zgT,zah,sNx,zz1,zae,za0,zw9,hx1,a1,outs,outD,if_true]
  rfl
theorem zco{k:Nat}{d:D}(h:zeB k d)(hk:k<=60000)(m:Int)(hm1:1<=m)(hm2:m.natAbs<65536):∃ g d',zbN [d,.int m]=.ok (.int g,[d',.int m])/\0<=g/\g<m/\zeB (k+1) d':=by
 obtain⟨n,c,s,rfl,h1,h2,h3⟩:=h
 have i0:∀ x y z:D,atI [x,y,z] 0=some x:=fun _ _ _=>rfl
 have i1:∀ x y z:D,atI [x,y,z] 1=some y:=fun _ _ _=>rfl
 have i2:∀ x y z:D,atI [x,y,z] 2=some z:=fun _ _ _=>rfl
 have j0:ixN 3 0=some 0:=rfl
 have j1:ixN 3 1=some 1:=rfl
 have hlt:ltD (.int n) (.int m)=.ok (.bool (decide (n<m))):=rfl
 have hd:∀ i:Int,zaJ (.int i) (.int m)=.ok (.int (i.fdiv m)):=fun i=>zp6 (by omega) (zaK hm2) (by decide)
 have hm:∀ i:Int,zif (.int i) (.int m)=.ok (.int (i.fmod m)):=fun i=>zf9 (by omega)
 have gd:∀ i:Int,0<=i->0<=i.fdiv m:=fun i hi=>Int.fdiv_nonneg hi (by omega)
 by_cases hn:n<m
 ·rw [decide_eq_true hn] at hlt
  have hc:(c+1).natAbs<65536:=by omega
  have x1:=zaZ (i:=11) (zaK (by decide)) (zaK hc) (by decide)
  have xb:=((zaK (i:=11) (by decide)).mul (zaK hc)).add (zaK (i:=5) (by decide))
  have x2:=zlp s (11*(c+1)+5) xb (by decide)
  have x3:=zaZ (zaK hm2) (zsi s (11*(c+1)+5)) (by decide)
  have nn:0<=n+m*zqB s (11*(c+1)+5):=Int.add_nonneg h1 (Int.mul_nonneg (by omega) (znv _ _))
  refine⟨(n+m*zqB s (11*(c+1)+5)).fmod m,.list [.int ((n+m*zqB s (11*(c+1)+5)).fdiv m),.int (c+1),.int s],?_,Int.fmod_nonneg_of_pos _ (by omega),Int.fmod_lt_of_pos _ (by omega),_,_,_,rfl,gd _ nn,by omega,by omega⟩
  simp only [zbN,FL.run,List.length_cons,List.length_nil,Nat.reduceAdd,zeW,zax,sIf,tB,FL.e2,m2,zaw,slots,if_true,Bool.false_eq_true,if_false,Nat.reduceSub,List.replicate,List.cons_append,List.nil_append,zz0,eC,ixD,R.of,zac,i0,eV,zz1,hlt,setM,za0,zcy,zaN,zae,zaa,zah,sNx,i1,List.set_cons_zero,j1,List.set_cons_succ,i2,x1,x2,x3,j0,zaQ,gN,zay,hm,hd,outs,outD,List.head?_cons]
 ·rw [decide_eq_false hn] at hlt
  refine⟨n.fmod m,.list [.int (n.fdiv m),.int c,.int s],?_,Int.fmod_nonneg_of_pos _ (by omega),Int.fmod_lt_of_pos _ (by omega),_,_,_,rfl,gd _ h1,by omega,by omega⟩
  simp only [zbN,FL.run,List.length_cons,List.length_nil,Nat.reduceAdd,zeW,zax,sIf,tB,FL.e2,m2,zaw,slots,if_true,Bool.false_eq_true,if_false,Nat.reduceSub,List.replicate,List.cons_append,List.nil_append,zz0,eC,ixD,R.of,zac,i0,eV,zz1,hlt,setM,za0,zcy,zaN,zae,zaa,zah,sNx,i1,List.set_cons_zero,j1,List.set_cons_succ,i2,zaQ,gN,zay,hm,hd,j0,outs,outD,List.head?_cons]
theorem zwH(ns:List Int)(k:Int)(h0:0<=k)(hk:k.natAbs<65536):∃ a,zvq [.list (ns.map PyData.int),.int k]=.ok (.int a):=by
 have a3:=zaZ (i:=3) (zaK (by decide)) (zaK hk) (by decide)
 have hl:ltD (.int k) (.int (ns.length:Int))=.ok (.bool (decide (k<ns.length))):=rfl
 by_cases h:k<ns.length
 ·rw [decide_eq_true h] at hl
  have:∃ a,atI (ns.map PyData.int) k=some (.int a):=by
   unfold atI ixN
   rw [List.length_map,if_pos h0,if_pos h]
   exact⟨ns[k.toNat]'(by omega),by simp [show k.toNat<ns.length by omega]⟩
  obtain⟨a,ea⟩:=this
  refine⟨a,?_⟩
  simp only [zvq,za7,FL.run,List.length_cons,List.length_nil,Nat.reduceAdd,List.replicate,ziG,zax,sIf,tB,FL.e2,eV,slots,Bool.false_eq_true,if_false,Nat.sub_self,List.cons_append,List.nil_append,zz1,zz0,FL.e1,zdW,zac,List.length_map,hl,zay,ixD,R.of,sNx,ea,if_true,eC,za0,outs,outD]
 ·rw [decide_eq_false h] at hl
  refine⟨3*k+1,?_⟩
  simp only [zvq,za7,FL.run,List.length_cons,List.length_nil,Nat.reduceAdd,List.replicate,ziG,zax,sIf,tB,FL.e2,eV,slots,Bool.false_eq_true,if_false,Nat.sub_self,List.cons_append,List.nil_append,zz1,zz0,FL.e1,zdW,zac,List.length_map,hl,zay,ixD,sNx,eC,za0,a3,outs,outD,if_true]
theorem zjB{k:Nat}{ix:List Nat}{g:GF}{t:TF}{f:EF}(P:Nat->List D->En->Prop):∀(items:List D) (i:Nat) (acc:List D) (ρ:En),acc.length+items.length<=lim->acc.length=i->P i acc ρ ->
  (∀ x∈items,∀ j acc ρ,j<i+items.length->P j acc ρ->∃ β y β',g x (blk k ix ρ)=.ok β/\t β=.ok (true,β)/\f β=.ok (y,β')/\P (j+1) (acc++[y]) (back ρ ix (β'.drop k))) ->
  ∃ acc' ρ',zdS k ix g t f items ρ acc=.ok (acc',ρ')/\acc'.length=i+items.length/\P (i+items.length) acc' ρ'
 | [],i,acc,ρ,_,e,h,_=>⟨acc,ρ,rfl,e,h⟩
 | x::xs,i,acc,ρ,hl,e,h,hx=>by
  obtain⟨β,y,β',h1,h2,h3,h4⟩:=hx x (List.mem_cons_self ..) i acc ρ (by simp) h
  have hl':acc.length+(xs.length+1)<=lim:=hl
  obtain⟨acc',ρ',e1',e2',e3'⟩:=zjB P xs (i+1) (acc++[y]) _ (by simp;omega) (by simp;omega) h4 fun x m j acc ρ hj=>hx x (List.mem_cons_of_mem _ m) j acc ρ (by rw [List.length_cons];omega)
  refine⟨acc',ρ',?_,by simp;omega,by rw [List.length_cons,show i+(xs.length+1)=i+1+xs.length by omega];exact e3'⟩
  unfold zdS
  rw [h1,zac,h2,zac,if_pos rfl,h3,zac,zaz (zec (by omega)),e1']
end
section
theorem zox{i:Nat}{x:Sl}:∀(ρ:En) (n:Nat),i<n->bkL [(i,x)] n ρ=ρ
 | [],_,_=>rfl
 | y::r,n,h=>by
  unfold bkL
  rw [zlP (by rw [List.lookup_cons,show(n==i)=false from beq_eq_false_iff_ne.mpr (by omega)];rfl),zox r (n+1) (by omega)]
theorem ziE{d d':D}{p:Bool}:∀(ρ:En) (n i:Nat),ρ[i]?=some (.ow p d)->bkL [(n+i,.ow true d')] n ρ=ρ.set i (.ow p d')
 | [],_,_,h=>by simp at h
 | y::r,n,0,h=>by
  have hy:y=.ow p d:=by simpa using h
  subst hy
  unfold bkL
  rw [Nat.add_zero,zox r (n+1) (Nat.lt_succ_self n)]
  have:bk1 [(n,Sl.ow true d')] n (.ow p d)=.ow p d':=by
   unfold bk1
   rw [List.lookup_cons,beq_self_eq_true]
  rw [this]
  rfl
 | y::r,n,i+1,h=>by
  unfold bkL
  rw [zlP (by rw [List.lookup_cons,show(n==n+(i+1))=false from beq_eq_false_iff_ne.mpr (by omega)];rfl),show n+(i+1)=n+1+i by omega,ziE r (n+1) i (by simpa using h)]
  rfl
theorem zgw{F:List D->R (D×List D)}{i:Nat}{f:EF}{ρ:En}{p:Bool}{d v r d' v':D}(hi:ρ[i]?=some (.ow p d))(hf:f ρ=.ok (v,ρ))(hF:F [d,v]=.ok (r,[d',v'])):zak F [.m i,.v f] ρ=.ok (r,ρ.set i (.ow p d')):=by
 have hm:zaw ρ i=.ok d:=by unfold zaw;rw [hi]
 unfold zak
 simp only [zgR,hm,zac,hf,zfA,hF]
 have:=ziE (d:=d) (d':=d') (p:=p) ρ 0 i hi
 rw [Nat.zero_add] at this
 show R.ok (r,bkL [(i,.ow true d')] 0 ρ)=_
 rw [this]
end
section
def zkD:SF:=(zay (zhz (e1 (zbP "int") (eV 0)) (zqU (e1 (zbP "bool") (eV 0)))))
def zcm:List D->R D:=za7 false 1 1 zkD
def zbh:SF:=(zfW (zc1 3) (tB (e2 neD (eV 3) (eC (.int 0)))) (zeG 2 3 (eV 3) (e2 zif (eV 2) (eV 3))))
def zbz:SF:=(zax (zeG 2 3 (e1 zoF (eV 0)) (e1 zoF (eV 1)))
  (zax zbh
  (zay (eV 2))))
def zal:List D->R D:=za7 false 2 4 zbz
def zcD:SF:=(zay (zbm (zaa (e1 zdW (eV 0)) (zaa (eV 0) zah))))
def zaT:List D->R D:=za7 false 1 1 zcD
def zkA:SF:=(zax (zaQ (gN 2) (zae zal (zaa (e2 ixD (eV 0) (eC (.int 1))) (zaa (e2 ixD (eV 1) (eC (.int 1))) zah))))
  (zax (zeG 3 4 (e2 zaJ (e2 ixD (eV 0) (eC (.int 1))) (eV 2)) (e2 zaJ (e2 ixD (eV 1) (eC (.int 1))) (eV 2)))
  (zax (zaQ (gN 5) (e2 za0 (e2 zbw (e2 ixD (eV 0) (eC (.int 0))) (eV 4)) (e2 zbw (e2 ixD (eV 1) (eC (.int 0))) (eV 3))))
  (zax (zaQ (gN 6) (zae zal (zaa (eV 5) (zaa (eV 2) zah))))
  (zay (zbm (zaa (e2 zaJ (eV 5) (eV 6)) (zaa (e2 zbw (eV 3) (e2 zaJ (e2 ixD (eV 1) (eC (.int 1))) (eV 6))) zah))))))))
def zoN:List D->R D:=za7 false 2 7 zkA
def zit:SF:=(zax (zeG 2 3 (zae zal (zaa (e2 ixD (eV 0) (eC (.int 0))) (zaa (e2 ixD (eV 1) (eC (.int 1))) zah))) (zae zal (zaa (e2 ixD (eV 1) (eC (.int 0))) (zaa (e2 ixD (eV 0) (eC (.int 1))) zah))))
  (zay (zbm (zaa (e2 zbw (e2 zaJ (e2 ixD (eV 0) (eC (.int 0))) (eV 2)) (e2 zaJ (e2 ixD (eV 1) (eC (.int 0))) (eV 3))) (zaa (e2 zbw (e2 zaJ (e2 ixD (eV 0) (eC (.int 1))) (eV 3)) (e2 zaJ (e2 ixD (eV 1) (eC (.int 1))) (eV 2))) zah)))))
def zoM:List D->R D:=za7 false 2 4 zit
def zdR:SF:=(zax (zaQ (gN 2) (zae zoN (zaa (zdM 0 (eV 1) (eC (.tuple [(.int 0),(.int 1)]))) (zaa (eV 2) zah))))
  (sIf (tB (e2 neD (eV 2) (eC (.tuple [(.int 0),(.int 1)])))) (zdd 0 (eV 1) (eV 2)) (sIf (tB (m2r inD (eV 1) 0)) (zg3 0 (eV 1)) sNx)))
def zdw:List D->R (D×List D):=run [true,false,false] false 3 zdR
def zbR:EF:=(zcG 1 [0] (iE (e1 (zd0 zaT) (eV 0))) (gN 0) zbE (zbm (zaa (eV 0) (zaa (e2 zfd (eV 1) (eV 0)) zah))))
def zaV:SF:=(zay zbR)
def zdu:List D->R D:=za7 false 1 1 zaV
end
section
def num(r:Rat):D:=.tuple [.int r.num,.int (r.den:Int)]
theorem zpN{h l:Nat}(p:l≠0):zif (.int h) (.int l)=.ok (.int ((h % l:Nat):Int)):=by
 show chk (decide ((l:Int)≠0)) _=_
 rw [zaz (by simpa using p)]
 rw [Int.fmod_eq_emod_of_nonneg _ (by omega)]
 rfl
theorem zir(x0 x1:Sl):∀(n h l:Nat),l<n->zfU (tB (e2 neD (eV 3) (eC (.int 0)))) (zeG 2 3 (eV 3) (e2 zif (eV 2) (eV 3))) n [x0,x1,.val (.int h),.val (.int l)]=.ok (.nx,[x0,x1,.val (.int ((Nat.gcd h l:Nat):Int)),.val (.int 0)])
 | 0,h,l,p=>by omega
 | n+1,h,l,p=>by
  unfold zfU
  by_cases c:l=0
  ·subst c
   have e:neD (.int ((0:Nat):Int)) (.int 0)=.ok (.bool false):=by rw [zf6];rfl
   simp only [tB,FL.e2,eV,zz1,zz0,eC,zac,e,zeG,gN,Bool.false_eq_true,if_false,Nat.gcd_zero_right]
   rfl
  ·have e:neD (.int l) (.int 0)=.ok (.bool true):=by
    rw [zf6,decide_eq_false (by omega)];rfl
   simp only [tB,FL.e2,eV,zz1,zz0,eC,zac,e,zeG,gN,zpN c,List.set_cons_succ,List.set_cons_zero,if_true]
   have ih:=zir x0 x1 n l (h % l) (by have:=Nat.mod_lt h (Nat.pos_of_ne_zero c);omega)
   rw [ih,Nat.gcd_comm l,<- Nat.gcd_rec,Nat.gcd_comm]
theorem zlS(i:Int):zoF (.int i)=.ok (.int (i.natAbs:Int)):=by
 show R.ok (PyData.int (if i<0 then -i else i))=_
 congr 2
 split <;> omega
theorem zjs(a b:Int):zal [.int a,.int b]=.ok (.int (Int.gcd a b:Int)):=by
 have e1:zeG 2 3 (FL.e1 zoF (eV 0)) (FL.e1 zoF (eV 1)) [.val (.int a),.val (.int b),.no,.no]=.ok (.nx,[.val (.int a),.val (.int b),.val (.int (a.natAbs:Int)),.val (.int (b.natAbs:Int))]):=by
  simp only [zeG,FL.e1,eV,zz0,zac,zlS,gN,zz1,List.set_cons_succ,List.set_cons_zero]
 have e2:zbh [.val (.int a),.val (.int b),.val (.int (a.natAbs:Int)),.val (.int (b.natAbs:Int))]=.ok (.nx,[.val (.int a),.val (.int b),.val (.int ((Nat.gcd a.natAbs b.natAbs:Nat):Int)),.val (.int 0)]):=by
  unfold zbh zfW
  have:zc1 3 [.val (.int a),.val (.int b),.val (.int (a.natAbs:Int)),.val (.int (b.natAbs:Int))]=b.natAbs+1:=by
   show((b.natAbs:Int)).natAbs+1=_
   simp
  rw [this]
  exact zir _ _ _ _ _ (by omega)
 show((zbz [.val (.int a),.val (.int b),.no,.no]).bind _).bind _=_
 unfold zbz
 rw [zam e1,zam e2]
 rfl
theorem zce{i:Int}{j:Nat}{n:Nat}(hj:j≠0)(hb:j<2^n)(hn:n<=90000000):zaJ (.int i) (.int j)=.ok (.int (i / (j:Int))):=by
 show chk (decide ((j:Int)≠0)) _=_
 rw [zaz (by simpa using hj),Int.fdiv_eq_ediv_of_nonneg _ (by omega)]
theorem zjK{r:Rat}{n:Nat}(h:QR.Bd n r):Bd r.num n/\Bd (r.den:Int) n:=⟨⟨h.1⟩,⟨by simpa using h.2⟩⟩
theorem zfg{i:Int}{n:Nat}{j:Nat}(h:Bd i n):Bd (i / (j:Int)) n:=⟨Nat.lt_of_le_of_lt (Int.natAbs_ediv_le_natAbs i (j:Int)) h.h⟩
theorem zjt{a:Int}{b:Nat}{n:Nat}(hb:b≠0)(h:b<2^n):Int.gcd a (b:Int)≠0/\Int.gcd a (b:Int)<2^n:=by
 have h1:0<Int.gcd a (b:Int):=Int.gcd_pos_of_ne_zero_right a (by omega)
 have h2:Int.gcd a (b:Int)∣b:=by
  have:=Int.gcd_dvd_right a (b:Int)
  exact Int.natCast_dvd_natCast.mp this
 have h3:=Nat.le_of_dvd (Nat.pos_of_ne_zero hb) h2
 omega
theorem zrV{r s:Rat}{n:Nat}(hr:QR.Bd n r)(hs:QR.Bd n s)(hn:n<=40000000):zoN [num r,num s]=.ok (num (r+s)):=by
 have gS:=zjt (a:=(r.den:Int)) s.den_nz hs.2
 generalize hg:Int.gcd (r.den:Int) (s.den:Int)=g at gS
 have k1:zal [.int (r.den:Int),.int (s.den:Int)]=.ok (.int g):=by rw [zjs,hg]
 have k2:zaJ (.int (r.den:Int)) (.int g)=.ok (.int ((r.den:Int) / (g:Int))):=zce gS.1 gS.2 (by omega)
 have k3:zaJ (.int (s.den:Int)) (.int g)=.ok (.int ((s.den:Int) / (g:Int))):=zce gS.1 gS.2 (by omega)
 have br:=zjK hr
 have bs:=zjK hs
 have k4:zbw (.int r.num) (.int ((s.den:Int) / (g:Int)))=.ok (.int (r.num*((s.den:Int) / (g:Int)))):=zaZ br.1 (zfg bs.2) (by omega)
 have k5:zbw (.int s.num) (.int ((r.den:Int) / (g:Int)))=.ok (.int (s.num*((r.den:Int) / (g:Int)))):=zaZ bs.1 (zfg br.2) (by omega)
 generalize ht:r.num*((s.den:Int) / (g:Int))+s.num*((r.den:Int) / (g:Int))=top
 have gT:=zjt (a:=top) gS.1 gS.2
 generalize he:Int.gcd top (g:Int)=e at gT
 have k6:zal [.int top,.int g]=.ok (.int e):=by rw [zjs,he]
 have k7:zaJ (.int top) (.int e)=.ok (.int (top / (e:Int))):=zce gT.1 gT.2 (by omega)
 have k8:zaJ (.int (s.den:Int)) (.int e)=.ok (.int ((s.den:Int) / (e:Int))):=zce gT.1 gT.2 (by omega)
 have k9:zbw (.int ((r.den:Int) / (g:Int))) (.int ((s.den:Int) / (e:Int)))=.ok (.int (((r.den:Int) / (g:Int))*((s.den:Int) / (e:Int)))):=zaZ (zfg br.2) (zfg bs.2) (by omega)
 have x0:∀(a b:Int),ixD (.tuple [.int a,.int b]) (.int 0)=.ok (.int a):=fun a b=>rfl
 have x1:∀(a b:Int),ixD (.tuple [.int a,.int b]) (.int 1)=.ok (.int b):=fun a b=>rfl
 have l2:leB 2 lim=true:=by decide
 have ad:∀(a b:Int),za0 (.int a) (.int b)=.ok (.int (a+b)):=fun _ _=>rfl
 have fin:num (r+s)=.tuple [.int (top / (e:Int)),.int (((r.den:Int) / (g:Int))*((s.den:Int) / (e:Int)))]:=by
  have h1:=Q1.zrW (QR.low r) (QR.low s)
  rw [QR.add] at h1
  unfold Q1.zl4 at h1
  simp only [hg,ht,he] at h1
  unfold num
  rw [<- (Prod.mk.inj h1).1,<- (Prod.mk.inj h1).2]
 have s1:zaQ (gN 2) (zae zal (zaa (e2 ixD (eV 0) (eC (.int 1))) (zaa (e2 ixD (eV 1) (eC (.int 1))) zah))) [.val (num r),.val (num s),.no,.no,.no,.no,.no]=.ok (.nx,[.val (num r),.val (num s),.val (.int g),.no,.no,.no,.no]):=by
  unfold num
  simp only [zaQ,zae,zaa,FL.e2,eV,zz0,eC,zac,x1,zah,zz1,k1,gN,List.set_cons_succ,List.set_cons_zero]
 have s2:zeG 3 4 (e2 zaJ (e2 ixD (eV 0) (eC (.int 1))) (eV 2)) (e2 zaJ (e2 ixD (eV 1) (eC (.int 1))) (eV 2)) [.val (num r),.val (num s),.val (.int g),.no,.no,.no,.no]=.ok (.nx,[.val (num r),.val (num s),.val (.int g),.val (.int ((r.den:Int) / (g:Int))),.val (.int ((s.den:Int) / (g:Int))),.no,.no]):=by
  unfold num
  simp only [zeG,FL.e2,eV,zz0,eC,zac,x1,zz1,k2,gN,k3,List.set_cons_succ,List.set_cons_zero]
 have s3:zaQ (gN 5) (e2 za0 (e2 zbw (e2 ixD (eV 0) (eC (.int 0))) (eV 4)) (e2 zbw (e2 ixD (eV 1) (eC (.int 0))) (eV 3))) [.val (num r),.val (num s),.val (.int g),.val (.int ((r.den:Int) / (g:Int))),.val (.int ((s.den:Int) / (g:Int))),.no,.no]=.ok (.nx,[.val (num r),.val (num s),.val (.int g),.val (.int ((r.den:Int) / (g:Int))),.val (.int ((s.den:Int) / (g:Int))),.val (.int top),.no]):=by
  unfold num
  simp only [zaQ,FL.e2,eV,zz0,eC,zac,x0,zz1,k4,k5,ad,ht,gN,List.set_cons_succ,List.set_cons_zero]
 have s4:zaQ (gN 6) (zae zal (zaa (eV 5) (zaa (eV 2) zah))) [.val (num r),.val (num s),.val (.int g),.val (.int ((r.den:Int) / (g:Int))),.val (.int ((s.den:Int) / (g:Int))),.val (.int top),.no]=.ok (.nx,[.val (num r),.val (num s),.val (.int g),.val (.int ((r.den:Int) / (g:Int))),.val (.int ((s.den:Int) / (g:Int))),.val (.int top),.val (.int e)]):=by
  simp only [zaQ,zae,zaa,eV,zz1,zz0,zah,zac,k6,gN,List.set_cons_succ,List.set_cons_zero]
 have s5:zay (zbm (zaa (e2 zaJ (eV 5) (eV 6)) (zaa (e2 zbw (eV 3) (e2 zaJ (e2 ixD (eV 1) (eC (.int 1))) (eV 6))) zah))) [.val (num r),.val (num s),.val (.int g),.val (.int ((r.den:Int) / (g:Int))),.val (.int ((s.den:Int) / (g:Int))),.val (.int top),.val (.int e)]=.ok (.rt (num (r+s)),[.val (num r),.val (num s),.val (.int g),.val (.int ((r.den:Int) / (g:Int))),.val (.int ((s.den:Int) / (g:Int))),.val (.int top),.val (.int e)]):=by
  rw [fin]
  unfold num
  simp only [zay,zbm,zaa,FL.e2,eV,zz1,zz0,zac,k7,eC,zah,x1,k8,k9,List.length_cons,List.length_nil,Nat.reduceAdd,zaz l2]
 show((zkA [.val (num r),.val (num s),.no,.no,.no,.no,.no]).bind _).bind _=_
 unfold zkA
 rw [zam s1,zam s2,zam s3,zam s4,s5]
 rfl
theorem zo6{r s:Rat}{n:Nat}(hr:QR.Bd n r)(hs:QR.Bd n s)(hn:n<=40000000):zoM [num r,num s]=.ok (num (r*s)):=by
 have gS:=zjt (a:=r.num) s.den_nz hs.2
 generalize hg:Int.gcd r.num (s.den:Int)=g at gS
 have gT:=zjt (a:=s.num) r.den_nz hr.2
 generalize he:Int.gcd s.num (r.den:Int)=e at gT
 have k1:zal [.int r.num,.int (s.den:Int)]=.ok (.int g):=by rw [zjs,hg]
 have k2:zal [.int s.num,.int (r.den:Int)]=.ok (.int e):=by rw [zjs,he]
 have k3:zaJ (.int r.num) (.int g)=.ok (.int (r.num / (g:Int))):=zce gS.1 gS.2 (by omega)
 have k4:zaJ (.int s.num) (.int e)=.ok (.int (s.num / (e:Int))):=zce gT.1 gT.2 (by omega)
 have k5:zaJ (.int (r.den:Int)) (.int e)=.ok (.int ((r.den:Int) / (e:Int))):=zce gT.1 gT.2 (by omega)
 have k6:zaJ (.int (s.den:Int)) (.int g)=.ok (.int ((s.den:Int) / (g:Int))):=zce gS.1 gS.2 (by omega)
 have br:=zjK hr
 have bs:=zjK hs
 have k7:zbw (.int (r.num / (g:Int))) (.int (s.num / (e:Int)))=.ok (.int (r.num / (g:Int)*(s.num / (e:Int)))):=zaZ (zfg br.1) (zfg bs.1) (by omega)
 have k8:zbw (.int ((r.den:Int) / (e:Int))) (.int ((s.den:Int) / (g:Int)))=.ok (.int ((r.den:Int) / (e:Int)*((s.den:Int) / (g:Int)))):=zaZ (zfg br.2) (zfg bs.2) (by omega)
 have x0:∀(a b:Int),ixD (.tuple [.int a,.int b]) (.int 0)=.ok (.int a):=fun a b=>rfl
 have x1:∀(a b:Int),ixD (.tuple [.int a,.int b]) (.int 1)=.ok (.int b):=fun a b=>rfl
 have l2:leB 2 lim=true:=by decide
 have fin:num (r*s)=.tuple [.int (r.num / (g:Int)*(s.num / (e:Int))),.int ((r.den:Int) / (e:Int)*((s.den:Int) / (g:Int)))]:=by
  have h1:=Q1.zo7 (QR.low r) (QR.low s)
  rw [QR.mul] at h1
  unfold Q1.zk6 at h1
  simp only [hg,he] at h1
  unfold num
  rw [<- (Prod.mk.inj h1).1,<- (Prod.mk.inj h1).2]
 have s1:zeG 2 3 (zae zal (zaa (e2 ixD (eV 0) (eC (.int 0))) (zaa (e2 ixD (eV 1) (eC (.int 1))) zah))) (zae zal (zaa (e2 ixD (eV 1) (eC (.int 0))) (zaa (e2 ixD (eV 0) (eC (.int 1))) zah))) [.val (num r),.val (num s),.no,.no]=.ok (.nx,[.val (num r),.val (num s),.val (.int g),.val (.int e)]):=by
  unfold num
  simp only [zeG,zae,zaa,FL.e2,eV,zz0,eC,zac,x0,zah,zz1,x1,k1,gN,k2,List.set_cons_succ,List.set_cons_zero]
 have s5:zay (zbm (zaa (e2 zbw (e2 zaJ (e2 ixD (eV 0) (eC (.int 0))) (eV 2)) (e2 zaJ (e2 ixD (eV 1) (eC (.int 0))) (eV 3))) (zaa (e2 zbw (e2 zaJ (e2 ixD (eV 0) (eC (.int 1))) (eV 3)) (e2 zaJ (e2 ixD (eV 1) (eC (.int 1))) (eV 2))) zah))) [.val (num r),.val (num s),.val (.int g),.val (.int e)]=.ok (.rt (num (r*s)),[.val (num r),.val (num s),.val (.int g),.val (.int e)]):=by
  rw [fin]
  unfold num
  simp only [zay,zbm,zaa,FL.e2,eV,zz0,eC,zac,x0,zz1,k3,k4,k7,zah,x1,k5,k6,k8,List.length_cons,List.length_nil,Nat.reduceAdd,zaz l2]
 show((zit [.val (num r),.val (num s),.no,.no]).bind _).bind _=_
 unfold zit
 rw [zam s1,s5]
 rfl
end
section
abbrev Sm:=List (List Int×Rat)
def ent(p:List Int×Rat):D×D:=(tp p.1,num p.2)
def dct(s:Sm):D:=.dict (s.map ent)
def kq(w:List Int):KQ:=.inl (w.map .inl)
theorem zje:∀ w:List Int,zoV (w.map PyData.int)=some (w.map .inl)
 | []=>rfl
 | x::r=>by simp only [List.map_cons,zoV,kOf,zje r,Option.bind_some,Option.map_some]
theorem zed(w:List Int):keyOf (tp w)=some (kq w):=by
 show(zoV (w.map PyData.int)).map Sum.inl=_
 rw [zje];rfl
theorem zqG{v w:List Int}(h:kq v=kq w):v=w:=by
 have:=Sum.inl.inj h
 have:=congrArg (List.map (Sum.elim id fun _=>(0:Int))) this
 simpa [List.map_map,Function.comp_def] using this
theorem znJ(v w:List Int):decide (keyOf (tp v)=some (kq w))=decide (v=w):=by
 rw [zed]
 by_cases c:v=w
 ·subst c;simp
 ·rw [decide_eq_false c,decide_eq_false fun z=>c (zqG (Option.some.inj z))]
def zaY(s:Sm)(w:List Int):Option Rat:=(s.find? fun p=>decide (p.1=w)).map (·.2)
def zcQ(s:Sm)(w:List Int)(q:Rat):Sm:=if(s.any fun p=>decide (p.1=w))=true then s.map fun p=>if p.1=w then(p.1,q) else p else s++[(w,q)]
def zc2(s:Sm)(w:List Int):Sm:=s.filter fun p=>decide (p.1≠w)
def zfs(s:Sm)(w:List Int)(q:Rat):Sm:=if(zaY s w).getD 0+q≠0 then zcQ s w ((zaY s w).getD 0+q) else if(zaY s w).isSome=true then zc2 s w else s
theorem zig(w:List Int):∀ s:Sm,look (s.map ent) (kq w)=(zaY s w).map num
 | []=>rfl
 | p::r=>by
  have ih:=zig w r
  unfold look zaY at ih ⊢
  simp only [List.map_cons,List.find?_cons]
  have e:decide (keyOf (ent p).1=some (kq w))=decide (p.1=w):=znJ p.1 w
  rw [e]
  cases decide (p.1=w) with
  | true=>rfl
  | false=>exact ih
theorem zhr:∀ s:Sm,keysOk true (s.map ent)=true
 | []=>rfl
 | p::r=>by
  have ih:=zhr r
  unfold keysOk at ih ⊢
  rw [List.map_cons,List.all_cons,ih,Bool.and_true]
  show(match keyOf (tp p.1) with|some q=>form q==true|none=>false)=true
  rw [zed];rfl
theorem zeU(s:Sm)(w:List Int):dictAt (dct s) (tp w)=.ok (s.map ent,kq w):=by
 show(R.of (keyOf (tp w))).bind _=_
 rw [zed]
 exact zaz (zhr s)
theorem zgr(s:Sm)(w:List Int):zel (dct s) (tp w)=.ok ((zaY s w).map num):=by
 unfold zel
 rw [zeU,zac,zig]
theorem zlA(s:Sm)(w:List Int):zn9 (dct s) (tp w) (num 0)=.ok (num ((zaY s w).getD 0)):=by
 unfold zn9
 rw [zgr,zac]
 cases zaY s w <;> rfl
theorem zqK(s:Sm)(w:List Int):inD (tp w) (dct s)=.ok (.bool (zaY s w).isSome):=by
 unfold inD
 rw [zgr,zac]
 cases zaY s w <;> rfl
theorem zgq{s:Sm}{w:List Int}{q:Rat}(h:zaY s w=some q):zfd (dct s) (tp w)=.ok (num q):=by
 unfold zfd
 rw [zgr,zac,h];rfl
theorem zoE(w:List Int):∀ s:Sm,((s.map ent).any fun kv=>decide (keyOf kv.1=some (kq w)))=s.any fun p=>decide (p.1=w)
 | []=>rfl
 | p::r=>by
  simp only [List.map_cons,List.any_cons,zoE w r]
  rw [show decide (keyOf (ent p).1=some (kq w))=decide (p.1=w) from znJ p.1 w]
theorem zrL(s:Sm)(w:List Int)(q:Rat):zpt (s.map ent) (tp w) (kq w) (num q)=(zcQ s w q).map ent:=by
 unfold zpt zcQ
 rw [zoE]
 split
 ·rw [List.map_map,List.map_map]
  refine List.map_congr_left fun p _=>?_
  show(if keyOf (tp p.1)=some (kq w) then((ent p).1,num q) else ent p)=ent (if p.1=w then(p.1,q) else p)
  by_cases c:p.1=w
  ·rw [if_pos c,if_pos (by rw [zed,c])];rfl
  ·rw [if_neg c,if_neg (fun z=>c (by rw [zed] at z;exact zqG (Option.some.inj z)))]
 ·rw [List.map_append];rfl
theorem zfN{s:Sm}{w:List Int}{q:Rat}(h:s.length+1<=lim):zkJ (dct s) (tp w) (num q)=.ok (dct (zcQ s w q)):=by
 unfold zkJ
 rw [zeU,zac]
 show chk (leB ((s.map ent).length+1) lim) _=_
 rw [zaz (by rw [List.length_map];exact zec h),zrL];rfl
theorem zlI(w:List Int):∀ s:Sm,zcH (s.map ent) (kq w)=(zc2 s w).map ent
 | []=>rfl
 | p::r=>by
  have ih:=zlI w r
  unfold zcH zc2 at ih ⊢
  rw [List.map_cons,List.filter_cons,List.filter_cons,ih]
  have e:decide (keyOf (ent p).1≠some (kq w))=decide (p.1≠w):=by
   have:=znJ p.1 w
   rw [show(ent p).1=tp p.1 from rfl,decide_not,decide_not,this]
  rw [e]
  split <;> rfl
theorem zlK{s:Sm}{w:List Int}(h:(zaY s w).isSome=true):zmm (dct s) (tp w)=.ok (dct (zc2 s w)):=by
 unfold zmm
 rw [zeU,zac]
 show chk (look (s.map ent) (kq w)).isSome _=_
 rw [zig,zaz (by rw [Option.isSome_map];exact h),zlI];rfl
theorem zqx(r s:Rat):neD (num r) (num s)=.ok (.bool (!decide (r=s))):=by
 have e:decide (([r.num,(r.den:Int)]:List Int)=[s.num,(s.den:Int)])=decide (r=s):=by
  by_cases c:r=s
  ·subst c;simp
  ·rw [decide_eq_false c,decide_eq_false]
   intro z
   simp only [List.cons.injEq,and_true,Int.natCast_inj] at z
   exact c (Rat.ext z.1 z.2)
 rw [<- e]
 exact zt9 [r.num,(r.den:Int)] [s.num,(s.den:Int)]
theorem zt6:(PyData.tuple [.int 0,.int 1]:D)=num 0:=rfl
theorem zkR{s:Sm}{w:List Int}{q:Rat}(hl:s.length+1<=lim)(h1:QR.Bd 40000 ((zaY s w).getD 0))(h2:QR.Bd 40000 q):zdw [dct s,tp w,num q]=.ok (.none,[dct (zfs s w q),tp w,num q]):=by
 have kd:zdB (dct s)=.ok ((s.map ent).map (·.1)):=rfl
 have p1:=zrV h1 h2 (by decide)
 generalize hm:(zaY s w).getD 0+q=m at p1
 have s1:zaQ (gN 2) (zae zoN (zaa (zdM 0 (eV 1) (eC (.tuple [(.int 0),(.int 1)]))) (zaa (eV 2) zah))) [.ow true (dct s),.val (tp w),.val (num q)]=.ok (.nx,[.ow true (dct s),.val (tp w),.val (num m)]):=by
  rw [zt6]
  simp only [zaQ,zae,zaa,zah,zdM,zaw,eV,eC,gN,zac,zz0,zz1,List.set_cons_zero,List.set_cons_succ,kd,zlA,p1]
 have nd:neD (num m) (num 0)=.ok (.bool (!decide (m=0))):=zqx m 0
 have fin:∀{s':Sm},(sIf (tB (e2 neD (eV 2) (eC (.tuple [(.int 0),(.int 1)])))) (zdd 0 (eV 1) (eV 2)) (sIf (tB (m2r inD (eV 1) 0)) (zg3 0 (eV 1)) sNx)) [.ow true (dct s),.val (tp w),.val (num m)]=.ok (.nx,[.ow true (dct s'),.val (tp w),.val (num m)])->zdw [dct s,tp w,num q]=.ok (.none,[dct s',tp w,num q]):=fun{s'} e=>by
  show(zdR [.ow true (dct s),.val (tp w),.val (num q)]).bind _=_
  unfold zdR
  rw [zam s1,e]
  rfl
 unfold zfs
 rw [hm]
 by_cases c:m=0
 ·rw [if_neg (by simpa using c)]
  have nd':neD (num m) (num 0)=.ok (.bool false):=by rw [nd,decide_eq_true c];rfl
  by_cases c2:(zaY s w).isSome=true
  ·rw [if_pos c2]
   refine fin ?_
   rw [zt6]
   simp only [sIf,tB,FL.e2,m2r,zg3,zaw,zaN,eV,eC,zac,zz0,zz1,List.set_cons_zero,List.set_cons_succ,nd',zqK,c2,zlK c2,Bool.false_eq_true,if_false,if_true]
  ·rw [if_neg c2]
   have c3:(zaY s w).isSome=false:=by simpa using c2
   refine fin ?_
   rw [zt6]
   simp only [sIf,tB,FL.e2,m2r,sNx,zaw,zaN,eV,eC,zac,zz0,zz1,List.set_cons_zero,List.set_cons_succ,nd',zqK,c3,Bool.false_eq_true,if_false,if_true]
 ·rw [if_pos c]
  have nd':neD (num m) (num 0)=.ok (.bool true):=by rw [nd,decide_eq_false c];rfl
  refine fin ?_
  rw [zt6]
  simp only [sIf,tB,FL.e2,zdd,zaw,zaN,eV,eC,zac,zz0,zz1,List.set_cons_zero,List.set_cons_succ,nd',zfN hl,Bool.false_eq_true,if_false,if_true]
def Nk(s:Sm):Prop:=(s.map (·.1)).Nodup
theorem zh1{s:Sm}{w:List Int}{q:Rat}(h:zaY s w=some q):(w,q)∈s:=by
 unfold zaY at h
 rw [Option.map_eq_some_iff] at h
 obtain⟨p,e,rfl⟩:=h
 have h1:=List.mem_of_find?_eq_some e
 have h2:=List.find?_some e
 have:p.1=w:=by simpa using h2
 subst this;exact h1
theorem zeH:∀{s:Sm} {p:List Int×Rat},Nk s->p∈s->zaY s p.1=some p.2
 | [],p,_,h=>by simp at h
 | a::r,p,nk,h=>by
  unfold Nk at nk
  rw [List.map_cons,List.nodup_cons] at nk
  unfold zaY
  rw [List.find?_cons]
  rcases List.mem_cons.mp h with rfl|h
  ·simp
  ·have:a.1≠p.1:=fun z=>nk.1 (by rw [z];exact List.mem_map.mpr ⟨p,h,rfl⟩)
   rw [decide_eq_false this]
   exact zeH (s:=r) nk.2 h
theorem ziY{s:Sm}{w:List Int}(h:zaY s w=none):∀ p∈s,p.1≠w:=fun p hp z=>by
 unfold zaY at h
 rw [Option.map_eq_none_iff,List.find?_eq_none] at h
 exact h p hp (by simpa using z)
theorem zsO(s:Sm)(w:List Int):(s.any fun p=>decide (p.1=w))=(zaY s w).isSome:=by
 unfold zaY
 rw [Option.isSome_map,List.isSome_find?]
theorem ziX{s:Sm}{w:List Int}{q:Rat}(nk:Nk s):Nk (zcQ s w q):=by
 unfold zcQ
 rw [zsO]
 split
 ·unfold Nk
  rw [List.map_map]
  have:(fun p:List Int×Rat=>p.1)∘(fun p=>if p.1=w then(p.1,q) else p)=fun p=>p.1:=by
   funext p
   show(if p.1=w then(p.1,q) else p).1=p.1
   split <;> rfl
  rw [this];exact nk
 ·rename_i c
  have c':zaY s w=none:=by simpa using c
  unfold Nk
  rw [List.map_append,List.nodup_append]
  refine⟨nk,by simp,fun a ha b hb=>?_⟩
  have:b=w:=by simpa using hb
  subst this
  obtain⟨p,hp,rfl⟩:=List.mem_map.mp ha
  exact ziY c' p hp
theorem zlZ{s:Sm}{w:List Int}(nk:Nk s):Nk (zc2 s w):=List.Nodup.sublist (List.Sublist.map _ List.filter_sublist) nk
theorem ziZ{s:Sm}{w:List Int}{q:Rat}(nk:Nk s):Nk (zfs s w q):=by
 unfold zfs
 split
 ·exact ziX nk
 ·split
  ·exact zlZ nk
  ·exact nk
theorem zd2{s:Sm}{w:List Int}{q:Rat}{p:List Int×Rat}(h:p∈zcQ s w q):p∈s\/p=(w,q):=by
 unfold zcQ at h
 split at h
 ·obtain⟨x,hx,rfl⟩:=List.mem_map.mp h
  by_cases c:x.1=w
  ·rw [if_pos c];right;rw [c]
  ·rw [if_neg c];exact .inl hx
 ·rcases List.mem_append.mp h with h|h
  ·exact .inl h
  ·exact .inr (by simpa using h)
theorem zk9(s:Sm)(w:List Int)(q:Rat):(zcQ s w q).length<=s.length+1:=by
 unfold zcQ
 split
 ·rw [List.length_map];omega
 ·rw [List.length_append];simp
theorem zpa(s:Sm)(w:List Int)(q:Rat):(zfs s w q).length<=s.length+1:=by
 unfold zfs
 split
 ·exact zk9 _ _ _
 ·split
  ·exact Nat.le_succ_of_le (List.length_filter_le ..)
  ·omega
theorem zh2{s:Sm}{w:List Int}{q:Rat}{p:List Int×Rat}(h:p∈zfs s w q):p∈s\/p=(w,(zaY s w).getD 0+q):=by
 unfold zfs at h
 split at h
 ·exact zd2 h
 ·split at h
  ·exact .inl (List.mem_filter.mp h).1
  ·exact .inl h
structure zo0(P:Nat->Rat->Prop)(Q:Rat->Prop)(N:Nat):Prop where
 z:∀ i,P i 0
 up:∀ i r,P i r->P (i+1) r
 add:∀ i r q,P i r->Q q->P (i+1) (r+q)
 bp:∀ i r,i<=N->P i r->QR.Bd 40000 r
 bq:∀ q,Q q->QR.Bd 40000 q
structure Fit(P:Nat->Rat->Prop)(i:Nat)(s:Sm):Prop where
 nk:Nk s
 sz:∀ p∈s,P i p.2
theorem Fit.get{P:Nat->Rat->Prop}{Q:Rat->Prop}{N i:Nat}(g:zo0 P Q N){s:Sm}(f:Fit P i s)(w:List Int):P i ((zaY s w).getD 0):=by
 cases e:zaY s w with
 | none=>exact g.z i
 | some q=>exact f.sz _ (zh1 e)
theorem Fit.add{P:Nat->Rat->Prop}{Q:Rat->Prop}{N i:Nat}(g:zo0 P Q N){s:Sm}(f:Fit P i s)(w:List Int){q:Rat}(hq:Q q):Fit P (i+1) (zfs s w q):=by
 refine⟨ziZ f.nk,fun p hp=>?_⟩
 rcases zh2 hp with h|h
 ·exact g.up _ _ (f.sz p h)
 ·subst h;exact g.add _ _ _ (f.get g w) hq
theorem zjQ{P:Nat->Rat->Prop}{Q:Rat->Prop}{N i:Nat}(g:zo0 P Q N){s:Sm}(f:Fit P i s)(hi:i<=N)(hl:s.length+1<=lim)(w:List Int){q:Rat}(hq:Q q) :
  zdw [dct s,tp w,num q]=.ok (.none,[dct (zfs s w q),tp w,num q]):=zkR hl (g.bp _ _ hi (f.get g w)) (g.bq _ hq)
end
section
theorem zot{F:List D->R (D×List D)}{i:Nat}{f h:EF}{ρ:En}{p:Bool}{d v u r d' v' u':D}(hi:ρ[i]?=some (.ow p d))(hf:f ρ=.ok (v,ρ))(hh:h ρ=.ok (u,ρ))(hF:F [d,v,u]=.ok (r,[d',v',u'])):zak F [.m i,.v f,.v h] ρ=.ok (r,ρ.set i (.ow p d')):=by
 have hm:zaw ρ i=.ok d:=by unfold zaw;rw [hi]
 unfold zak
 simp only [zgR,hm,zac,hf,hh,zfA,hF]
 have:=ziE (d:=d) (d':=d') (p:=p) ρ 0 i hi
 rw [Nat.zero_add] at this
 show R.ok (r,bkL [(i,.ow true d')] 0 ρ)=_
 rw [this]
def inW(p1:List Int×Rat)(t acc:Sm):Sm:=t.foldl (fun a p=>zfs a (p1.1++p.1) (p1.2*p.2)) acc
def zaX(s t:Sm):Sm:=s.foldl (fun a p=>inW p t a) []
theorem zio(p1:List Int×Rat)(t acc:Sm)(x:List Int×Rat):inW p1 (t++[x]) acc=zfs (inW p1 t acc) (p1.1++x.1) (p1.2*x.2):=by simp [inW]
theorem zdn(t:Sm):zdB (dct t)=.ok (t.map fun p=>tp p.1):=by
 show R.ok ((t.map ent).map (·.1))=_
 rw [List.map_map];rfl
theorem zu9{v w:List Int}(h:v.length+w.length<=lim):za0 (tp v) (tp w)=.ok (tp (v++w)):=by
 show chk (leB ((v.map PyData.int).length+(w.map PyData.int).length) lim) _=_
 rw [zaz (zec (by simpa using h))]
 show R.ok (PyData.tuple (v.map PyData.int++w.map PyData.int))=R.ok (PyData.tuple ((v++w).map PyData.int))
 rw [List.map_append]
def Ws(n:Nat)(s:Sm):Prop:=∀ p∈s,p.1.length<=n
theorem zfX(s t:Sm)(x:List Int×Rat):s.foldl (fun a p=>inW p t a) []=zaX s t/\zaX (s++[x]) t=inW x t (zaX s t):=by
 constructor
 ·rfl
 ·simp [zaX]
theorem zqL{n m:Nat}{p1:List Int×Rat}(h1:p1.1.length<=n):∀{t acc:Sm},Ws m t->Ws (n+m) acc->Ws (n+m) (inW p1 t acc)
 | [],acc,_,ha=>ha
 | x::t,acc,ht,ha=>by
  show Ws (n+m) (inW p1 t (zfs acc (p1.1++x.1) (p1.2*x.2)))
  refine zqL h1 (fun p hp=>ht p (List.mem_cons_of_mem _ hp)) fun p hp=>?_
  rcases zh2 hp with h|h
  ·exact ha p h
  ·subst h
   have:=ht x (List.mem_cons_self ..)
   simp only [List.length_append];omega
theorem zrl{n m:Nat}:∀{s t:Sm},Ws n s->Ws m t->Ws (n+m) (zaX s t):=fun{s t} hs ht=>by
 have key:∀(s acc:Sm),Ws n s->Ws (n+m) acc->Ws (n+m) (s.foldl (fun a p=>inW p t a) acc):=by
  intro s
  induction s with
  | nil=>intro acc _ h;exact h
  | cons x r ih=>intro acc h1 h2;exact ih _ (fun p hp=>h1 p (List.mem_cons_of_mem _ hp)) (zqL (h1 x (List.mem_cons_self ..)) ht h2)
 exact key s [] hs fun p hp=>by simp at hp
end
section
theorem zcq{k n:Nat}{b:SF}{ds:List D}{ρ:En}{d:D}(hl:ds.length=k)(h:b (slots (List.replicate k false) ds++List.replicate (n-ds.length) .no)=.ok (.rt d,ρ)):za7 false k n b ds=.ok d:=by
 unfold za7 FL.run
 rw [if_pos (by rw [List.length_replicate];exact hl),h]
 rfl
theorem zmU{k n:Nat}{b:SF}{ds:List D}{ρ:En}{d:D}(hl:ds.length=k)(h:b (slots (List.replicate k false) ds++List.replicate (n-ds.length) .no)=.ok (.rf d,ρ)):za7 true k n b ds=.ok d:=by
 unfold za7 FL.run
 rw [if_pos (by rw [List.length_replicate];exact hl),h]
 rfl
def kyS(p:List Int×Rat):WK:=((p.1.length:Int),p.1)
def zoW(x:List Int×Rat):Sm->Sm
 | []=>[x]
 | y::r=>if ltW (kyS y) (kyS x)=true then y::zoW x r else x::y::r
def zbH:Sm->Sm
 | []=>[]
 | x::r=>zoW x (zbH r)
def kyD(p:List Int×Rat):WK×D:=(kyS p,tp p.1)
theorem zlx(x:List Int×Rat):∀ l:Sm,znX (kyD x) (l.map kyD)=(zoW x l).map kyD
 | []=>rfl
 | y::r=>by
  rw [List.map_cons]
  unfold znX zoW
  show(if ltW (kyS y) (kyS x)=true then _ else _)=_
  split
  ·rw [zlx x r];rfl
  ·rfl
theorem ziW:∀ l:Sm,zfc (l.map kyD)=(zbH l).map kyD
 | []=>rfl
 | x::r=>by
  show znX (kyD x) (zfc (r.map kyD))=_
  rw [ziW r,zlx]
  rfl
theorem zgj(x:List Int×Rat):∀ l:Sm,(zoW x l).Perm (x::l)
 | []=>.refl _
 | y::r=>by
  unfold zoW
  split
  ·exact((zgj x r).cons y).trans (.swap x y r)
  ·exact .refl _
theorem zaG:∀ l:Sm,(zbH l).Perm l
 | []=>.refl _
 | x::r=>(zgj x _).trans ((zaG r).cons x)
theorem zli(w:List Int):zaT [tp w]=.ok (.tuple [.int (w.length:Int),tp w]):=by
 have l2:leB 2 lim=true:=by decide
 have e:zdW (tp w)=.ok (.int (w.length:Int)):=by
  show R.ok (PyData.int ((w.map PyData.int).length:Int))=_
  rw [List.length_map]
 have e3:zcD [.val (tp w)]=.ok (.rt (.tuple [.int (w.length:Int),tp w]),[.val (tp w)]):=by
  unfold zcD
  simp only [zay,zbm,zaa,zah,FL.e1,eV,zac,zz0,e,List.length_cons,List.length_nil,zaz l2]
 exact zcq (k:=1) (n:=1) (ds:=[tp w]) rfl e3
theorem zjf:∀ s:Sm,zgc zaT (s.map fun p=>tp p.1)=.ok (s.map kyS)
 | []=>rfl
 | p::r=>by
  rw [List.map_cons]
  unfold zgc
  rw [zli,zac]
  have:zo1 (.tuple [.int (p.1.length:Int),tp p.1])=some (kyS p):=by
   show(intsOf (p.1.map PyData.int)).map _=_
   rw [zht];rfl
  rw [this]
  show(zgc zaT (r.map fun p=>tp p.1)).bind _=_
  rw [zjf r];rfl
theorem zri{s:Sm}(nk:Nk s)(hl:s.length<2000):zd0 zaT (dct s)=.ok (.list ((zbH s).map fun p=>tp p.1)):=by
 unfold zd0
 rw [zdn,zac,zaz (zec (by rw [List.length_map];exact hl)),zjf,zac]
 have nd:(s.map kyS).Nodup:=by
  have h:∀ l:Sm,Nk l->(l.map kyS).Nodup:=by
   intro l
   induction l with
   | nil=>intro _;exact List.nodup_nil
   | cons p r ih =>
    intro h
    unfold Nk at h
    rw [List.map_cons,List.nodup_cons] at h
    rw [List.map_cons,List.nodup_cons]
    refine⟨fun z=>h.1 ?_,ih h.2⟩
    obtain⟨q,hq,e⟩:=List.mem_map.mp z
    exact List.mem_map.mpr ⟨q,hq,(Prod.mk.inj e).2⟩
  exact h s nk
 rw [zaz (decide_eq_true nd)]
 have hz:(s.map kyS).zip (s.map fun p=>tp p.1)=s.map kyD:=by
  rw [List.zip_map'];rfl
 rw [hz,ziW,List.map_map]
 rfl
def tln(p:List Int×Rat):D:=.tuple [tp p.1,num p.2]
def zvl:R D->D
 | .ok d=>d
 | _=>.none
theorem zrc{s:Sm}(nk:Nk s)(hl:s.length<2000):zdu [dct s]=.ok (.list ((zbH s).map tln)):=by
 have so:=zri nk hl
 have hlen:(zbH s).length=s.length:=(zaG s).length_eq
 have q:zbR [.val (dct s)]=.ok (.list ((zbH s).map tln),[.val (dct s)]):=by
  unfold zbR
  rw [zgo (items:=(zbH s).map fun p=>tp p.1) (fun x=>.tuple [x,zvl (zfd (dct s) x)])]
  ·rw [List.map_map]
   congr 2
   congr 1
   refine List.map_congr_left fun p hp=>?_
   have mp:p∈s:=(zaG s).mem_iff.mp hp
   show PyData.tuple [tp p.1,zvl (zfd (dct s) (tp p.1))]=_
   rw [zgq (zeH nk mp)];rfl
  ·simp only [iE,FL.e1,eV,zac,zz0,so,zee]
  ·rw [List.length_map,hlen];unfold lim;omega
  ·intro x hx
   obtain⟨p,hp,rfl⟩:=List.mem_map.mp hx
   have mp:p∈s:=(zaG s).mem_iff.mp hp
   have d1:=zgq (zeH nk mp)
   have l2:leB 2 lim=true:=by decide
   refine⟨[.val (tp p.1),.val (dct s)],rfl,?_,?_⟩
   ·simp only [zbm,zaa,zah,FL.e2,eV,zac,zz0,zz1,d1,List.length_cons,List.length_nil,zaz l2]
    rfl
   ·exact ziD (fun i p d e=>by
     revert e
     simp only [List.drop_succ_cons,List.drop_zero,List.zip_cons_cons,List.zip_nil_left,List.lookup_cons,List.lookup_nil]
     split <;> (intro e;cases e)) _ 0
 show((zaV [.val (dct s)]).bind _).bind _=_
 unfold zaV zay
 rw [q]
 rfl
end
section
def zda:SF:=(zfW (zc1 3) (tB (e2 neD (eV 3) (eC (.int 0)))) (zeG 2 3 (eV 3) (e2 zif (eV 2) (eV 3))))
def zeQ:SF:=(zax (zaQ (gN 2) (e1 zoF (eV 0)))
  (zax (zaQ (gN 3) (eV 1))
  (zax zda
  (zay (zbm (zaa (e2 zaJ (eV 0) (eV 2)) (zaa (e2 zaJ (eV 1) (eV 2)) zah)))))))
def zb3:List D->R D:=za7 false 2 4 zeQ
def zkC:SF:=(zay (zbm (zaa (e1 zdW (eV 0)) (zaa (eV 0) zah))))
def zmx:List D->R D:=za7 false 1 1 zkC
def zdc:SF:=(zax (sIf (FL.tOr (FL.zbL (tE (e1 (zbP "tuple") (eV 0)))) (tB (e2 neD (e1 zdW (eV 0)) (eC (.int 2))))) (zay (eC (.bool false))) sNx)
  (zax (zaQ (gT [(gN 1),(gN 2)]) (eV 0))
  (zax (sIf (FL.tOr (FL.zbL (tE (zae zcm (zaa (eV 1) zah)))) (FL.tOr (FL.zbL (tE (zae zcm (zaa (eV 2) zah)))) (tB (e2 ltD (eV 2) (eC (.int 1)))))) (zay (eC (.bool false))) sNx)
  (zay (e2 eqD (zae zal (zaa (eV 1) (zaa (eV 2) zah))) (eC (.int 1)))))))
def zgL:List D->R D:=za7 false 1 3 zdc
def zdb:EF:=(zcG 1 [1] (iE (eV 0)) (gN 0) zbE (zhz (zae zcm (zaa (eV 0) zah)) (zcS leD ltD (eC (.int 0)) (eV 0) (eV 1))))
def zhw:SF:=(zax (sIf (FL.tOr (FL.zbL (tE (e1 (zbP "tuple") (eV 0)))) (tB (e2 gtD (e1 zdW (eV 0)) (eC (.int 5))))) (zay (eC (.bool false))) sNx)
  (zay (e1 zvp zdb)))
def zgJ:List D->R D:=za7 false 2 2 zhw
def zdP:SF:=(zay (zae zb3 (zaa (e2 za0 (e2 zbw (e2 ixD (eV 0) (eC (.int 0))) (e2 ixD (eV 1) (eC (.int 1)))) (e2 zbw (e2 ixD (eV 1) (eC (.int 0))) (e2 ixD (eV 0) (eC (.int 1))))) (zaa (e2 zbw (e2 ixD (eV 0) (eC (.int 1))) (e2 ixD (eV 1) (eC (.int 1)))) zah))))
def zcl:List D->R D:=za7 false 2 2 zdP
def zgm:SF:=(zay (zae zb3 (zaa (e2 zbw (e2 ixD (eV 0) (eC (.int 0))) (e2 ixD (eV 1) (eC (.int 0)))) (zaa (e2 zbw (e2 ixD (eV 0) (eC (.int 1))) (e2 ixD (eV 1) (eC (.int 1)))) zah))))
def zlT:List D->R D:=za7 false 2 2 zgm
def zeR:SF:=(zax (sIf (FL.tOr (FL.zbL (tE (e1 (zbP "tuple") (eV 0)))) (tB (e2 neD (e1 zdW (eV 0)) (eC (.int 2))))) (zay (eC (.bool false))) sNx)
  (zay (zhz (zae zgJ (zaa (e2 ixD (eV 0) (eC (.int 0))) (zaa (eV 1) zah))) (zhz (zae zgL (zaa (e2 ixD (eV 0) (eC (.int 1))) zah)) (e2 neD (e2 ixD (eV 0) (eC (.int 1))) (eC (.tuple [(.int 0),(.int 1)])))))))
def zgK:List D->R D:=za7 false 2 2 zeR
def za4:SF:=(zax (zaQ (gN 1) (zak zbN [.m 0,.v (eC (.int 5))]))
  (zax (sIf (tB (e2 ltD (eV 1) (eC (.int 3)))) (zay (e2 ixD (zcF (zaa (zbm (zaa (eC (.int 0)) (zaa (eC (.int 1)) zah))) (zaa (zbm (zaa (eC (.int 1)) (zaa (eC (.int 1)) zah))) (zaa (zbm (zaa (e1 zwg (eC (.int 1))) (zaa (eC (.int 1)) zah))) zah)))) (eV 1))) sNx)
  (zax (sIf (tB (e2 eqD (eV 1) (eC (.int 3)))) (zay (zbm (zaa (e2 zgT (zak zbN [.m 0,.v (eC (.int 13))]) (eC (.int 6))) (zaa (eC (.int 1)) zah)))) sNx)
  (zay (zae zb3 (zaa (e2 zgT (zak zbN [.m 0,.v (e2 za0 (e2 zbw (eC (.int 2)) (e2 zhi (eC (.int 10)) (eC (.int 3)))) (eC (.int 1)))]) (e2 zhi (eC (.int 10)) (eC (.int 3)))) (zaa (e2 za0 (eC (.int 1)) (zak zbN [.m 0,.v (eC (.int 9))])) zah)))))))
def zaL:List D->R (D×List D):=run [true] false 2 za4
def zcC:EF:=(zcG 1 [0,1] (iR1 (zaa (zak zbN [.m 0,.v (e2 za0 (eV 2) (eC (.int 1)))]) zah)) (gN 0) zbE (zak zbN [.m 1,.v (eV 2)]))
def zdO:SF:=(zay (e1 ze7 zcC))
def zdv:List D->R (D×List D):=run [true,false,false] false 3 zdO
def zeP:SF:=(zax (zdd 0 (eV 1) (zae zcl (zaa (zdM 0 (eV 1) (zbm (zaa (eC (.int 0)) (zaa (eC (.int 1)) zah)))) (zaa (eV 2) zah))))
  (sIf (tB (e2 eqD (e2 ixD (m2 zfd 0 (eV 1)) (eC (.int 0))) (eC (.int 0)))) (zon 0 (eV 1)) sNx))
def zj3:List D->R (D×List D):=run [true,false,false] false 3 zeP
def zcE:SF:=(zax (sIf (FL.zbL (tE (zae zgK (zaa (eV 1) (zaa (eV 2) zah))))) (zay (eC (.bool false))) sNx)
  (zay (eOr (e2 isD (eV 0) (eC .none)) (e2 zun (zae zaT (zaa (e2 ixD (eV 0) (eC (.int 0))) zah)) (zae zaT (zaa (e2 ixD (eV 1) (eC (.int 0))) zah))))))
def zdi:List D->R D:=za7 false 3 3 zcE
def zhv:EF:=(zcG 1 [0] (iE (e1 (zd0 zaT) (eV 0))) (gN 0) zbE (zbm (zaa (eV 0) (zaa (e2 zfd (eV 1) (eV 0)) zah))))
def zis:SF:=(zb4 zhv)
def zoL:List D->R D:=za7 true 1 1 zis
def zb8:SF:=(zax (zaQ (gN 6) (zak zdv [.m 0,.v (eV 1),.v (eV 3)]))
  (zax (zaQ (gN 7) (zak zaL [.m 0]))
  (sIf (tB (e2 neD (e2 ixD (eV 7) (eC (.int 0))) (eC (.int 0)))) (zdd 4 (eV 6) (eV 7)) sNx)))
def zc9:SF:=(zfY (iR1 (zaa (zak zbN [.m 0,.v (e2 za0 (eV 2) (eC (.int 1)))]) zah)) (gN 5) zb8)
def zeO:SF:=(zax (zgU 4 zcj)
  (zax zc9
  (zfr 4)))
def zj2:List D->R (D×List D):=run [true,false,false,false] true 8 zeO
def ziq:EF:=(zcG 1 [0] (iE (e1 (zd0 zmx) (eV 0))) (gN 0) zbE (zbm (zaa (eV 0) (zaa (e2 zfd (eV 1) (eV 0)) zah))))
def zkB:SF:=(zb4 ziq)
def zhT:List D->R D:=za7 true 1 1 zkB
def zbQ:SF:=(zax (sIf (FL.zbL (tE (zae zdi (zaa (eV 2) (zaa (eV 4) (zaa (eV 1) zah)))))) zmT sNx)
  (zaQ (gN 2) (eV 4)))
def zcB:SF:=(zfY (zvj (zaa (eV 0) zah)) (gT [(gN 3),(gN 4)]) zbQ)
def zeh:EF:=(zhy 2 [] (iE (eV 0)) (gT [(gN 0),(gN 1)]) zbE (eV 0) (eV 1))
def zdQ:SF:=(zax (zaQ (gN 2) (eC .none))
  (zax zcB
  (zb4 zeh)))
def zhU:List D->R D:=za7 true 2 5 zdQ
end
section
theorem zkq(t:Int){b n:Nat}(hb:b≠0)(hl:b<2^n)(hn:n<=90000000):zb3 [.int t,.int b]=.ok (.tuple [.int (Q1.fr t (b:Int)).1,.int (Q1.fr t (b:Int)).2]):=by
 have gS:=zjt (a:=t) hb hl
 have s1:zaQ (gN 2) (FL.e1 zoF (eV 0)) [.val (.int t),.val (.int b),.no,.no]=.ok (.nx,[.val (.int t),.val (.int b),.val (.int (t.natAbs:Int)),.no]):=by
  simp only [zaQ,FL.e1,eV,zz0,zac,zlS,gN,zz1,List.set_cons_succ,List.set_cons_zero]
 have s2:zaQ (gN 3) (eV 1) [.val (.int t),.val (.int b),.val (.int (t.natAbs:Int)),.no]=.ok (.nx,[.val (.int t),.val (.int b),.val (.int (t.natAbs:Int)),.val (.int b)]):=rfl
 have s3:zda [.val (.int t),.val (.int b),.val (.int (t.natAbs:Int)),.val (.int b)]=.ok (.nx,[.val (.int t),.val (.int b),.val (.int ((Int.gcd t (b:Int):Nat):Int)),.val (.int 0)]):=by
  unfold zda zfW
  have:zc1 3 [.val (.int t),.val (.int b),.val (.int (t.natAbs:Int)),.val (.int b)]=b+1:=by
   show((b:Int)).natAbs+1=_
   simp
  rw [this]
  exact zir _ _ _ _ _ (by omega)
 have k1:zaJ (.int t) (.int ((Int.gcd t (b:Int):Nat):Int))=.ok (.int (t / ((Int.gcd t (b:Int):Nat):Int))):=zce gS.1 gS.2 hn
 have k2:zaJ (.int b) (.int ((Int.gcd t (b:Int):Nat):Int))=.ok (.int ((b:Int) / ((Int.gcd t (b:Int):Nat):Int))):=zce gS.1 gS.2 hn
 have l2:leB 2 lim=true:=by decide
 show((zeQ [.val (.int t),.val (.int b),.no,.no]).bind _).bind _=_
 unfold zeQ
 rw [zam s1,zam s2,zam s3]
 simp only [zay,zbm,zaa,FL.e2,eV,zz0,zac,zz1,k1,zah,k2,List.length_cons,List.length_nil,Nat.reduceAdd,zaz l2,List.replicate,outs,outD]
 rw [Q1.zqO (by omega)]
theorem zup(t:Int){b n:Nat}(hb:b≠0)(hl:b<2^n)(hn:n<=90000000):zb3 [.int t,.int b]=.ok (num (Rat.normalize t b hb)):=by
 rw [zkq t hb hl hn,QR.norm hb]
 rfl
theorem lx0(a b:Int):ixD (.tuple [.int a,.int b]) (.int 0)=.ok (.int a):=rfl
theorem lx1(a b:Int):ixD (.tuple [.int a,.int b]) (.int 1)=.ok (.int b):=rfl
theorem zpP{r s:Rat}{n:Nat}(hr:QR.Bd n r)(hs:QR.Bd n s)(hn:n<=40000000):zcl [num r,num s]=.ok (num (r+s)):=by
 have br:=zjK hr
 have bs:=zjK hs
 have k1:zbw (.int r.num) (.int (s.den:Int))=.ok (.int (r.num*(s.den:Int))):=zaZ br.1 bs.2 (by omega)
 have k2:zbw (.int s.num) (.int (r.den:Int))=.ok (.int (s.num*(r.den:Int))):=zaZ bs.1 br.2 (by omega)
 have k3:zbw (.int (r.den:Int)) (.int (s.den:Int))=.ok (.int ((r.den:Int)*(s.den:Int))):=zaZ br.2 bs.2 (by omega)
 have ad:∀(a b:Int),za0 (.int a) (.int b)=.ok (.int (a+b)):=fun _ _=>rfl
 have nz:r.den*s.den≠0:=Nat.mul_ne_zero r.den_nz s.den_nz
 have k4:zb3 [.int (r.num*(s.den:Int)+s.num*(r.den:Int)),.int ((r.den:Int)*(s.den:Int))]=.ok (num (r+s)):=by
  have:=zkq (r.num*(s.den:Int)+s.num*(r.den:Int)) nz (QR.zf8 hr.2 hs.2) (by omega)
  rw [Int.natCast_mul] at this
  rw [this,QR.add]
  rfl
 refine zcq (ρ:=[.val (num r),.val (num s)]) rfl ?_
 show zdP [.val (num r),.val (num s)]=.ok (_,[.val (num r),.val (num s)])
 unfold zdP num
 simp only [zay,zae,zaa,FL.e2,eV,zz0,eC,zac,lx0,zz1,lx1,k1,k2,ad,zah,k3,k4]
 rfl
theorem zur{r s:Rat}{n:Nat}(hr:QR.Bd n r)(hs:QR.Bd n s)(hn:n<=40000000):zlT [num r,num s]=.ok (num (r*s)):=by
 have br:=zjK hr
 have bs:=zjK hs
 have k1:zbw (.int r.num) (.int s.num)=.ok (.int (r.num*s.num)):=zaZ br.1 bs.1 (by omega)
 have k3:zbw (.int (r.den:Int)) (.int (s.den:Int))=.ok (.int ((r.den:Int)*(s.den:Int))):=zaZ br.2 bs.2 (by omega)
 have nz:r.den*s.den≠0:=Nat.mul_ne_zero r.den_nz s.den_nz
 have k4:zb3 [.int (r.num*s.num),.int ((r.den:Int)*(s.den:Int))]=.ok (num (r*s)):=by
  have:=zkq (r.num*s.num) nz (QR.zf8 hr.2 hs.2) (by omega)
  rw [Int.natCast_mul] at this
  rw [this,QR.mul]
  rfl
 refine zcq (ρ:=[.val (num r),.val (num s)]) rfl ?_
 show zgm [.val (num r),.val (num s)]=.ok (_,[.val (num r),.val (num s)])
 unfold zgm num
 simp only [zay,zae,zaa,FL.e2,eV,zz0,eC,zac,lx0,zz1,k1,zah,lx1,k3,k4]
 rfl
theorem zlY{s:Sm}{w:List Int}(h:zaY s w=none):zc2 s w=s:=List.filter_eq_self.mpr fun p hp=>by simpa using ziY h p hp
theorem zlF(w:List Int)(q:Rat):∀ s:Sm,(s.any fun p=>decide (p.1=w))=true->(s.map fun p=>if p.1=w then(p.1,q) else p).find? (fun p=>decide (p.1=w))=some (w,q)
 | [],h=>by simp at h
 | x::r,h=>by
  rw [List.map_cons]
  by_cases e:x.1=w
  ·rw [if_pos e,List.find?_cons_of_pos (by simpa using e),e]
  ·rw [if_neg e,List.find?_cons_of_neg (by simpa using e)]
   refine zlF w q r ?_
   simpa only [List.any_cons,e,decide_false,Bool.false_or] using h
theorem zla(s:Sm)(w:List Int)(q:Rat):zaY (zcQ s w q) w=some q:=by
 unfold zcQ
 cases h:s.any fun p=>decide (p.1=w) with
 | true =>
  rw [if_pos rfl]
  unfold zaY
  rw [zlF w q s h]
  rfl
 | false =>
  rw [if_neg (by simp)]
  unfold zaY
  rw [List.find?_append]
  have:s.find? (fun p=>decide (p.1=w))=none:=by
   rw [List.find?_eq_none]
   intro x hx
   have:=List.any_eq_false.mp h x hx
   simpa using this
  simp [this]
theorem zix(w:List Int)(q:Rat):∀ s:Sm,(s.map fun p=>if p.1=w then(p.1,q) else p).filter (fun p=>decide (p.1≠w))=s.filter fun p=>decide (p.1≠w)
 | []=>rfl
 | x::r=>by
  rw [List.map_cons]
  by_cases e:x.1=w
  ·rw [if_pos e,List.filter_cons_of_neg (by simpa using e),List.filter_cons_of_neg (by simpa using e),zix w q r]
  ·rw [if_neg e,List.filter_cons_of_pos (by simpa using e),List.filter_cons_of_pos (by simpa using e),zix w q r]
theorem zmS(s:Sm)(w:List Int)(q:Rat):zc2 (zcQ s w q) w=zc2 s w:=by
 unfold zcQ
 split
 ·exact zix w q s
 ·unfold zc2
  simp
theorem zpb(s:Sm)(w:List Int)(q:Rat):zfs s w q=if(zaY s w).getD 0+q=0 then zc2 (zcQ s w ((zaY s w).getD 0+q)) w else zcQ s w ((zaY s w).getD 0+q):=by
 unfold zfs
 by_cases e:(zaY s w).getD 0+q=0
 ·rw [if_neg (by simpa using e),if_pos e,zmS]
  cases h:zaY s w with
  | none=>rw [zlY h];rfl
  | some x=>rfl
 ·rw [if_pos e,if_neg e]
theorem zpL(r:Rat):eqD (.int r.num) (.int 0)=.ok (.bool (decide (r=0))):=by
 rw [zkI]
 congr 2
 rw [decide_eq_decide]
 exact Rat.num_eq_zero
theorem zso{s:Sm}{w:List Int}{q:Rat}(hl:s.length+1<=lim)(h1:QR.Bd 40000 ((zaY s w).getD 0))(h2:QR.Bd 40000 q):zj3 [dct s,tp w,num q]=.ok (.none,[dct (zfs s w q),tp w,num q]):=by
 have k1:zcl [num ((zaY s w).getD 0),num q]=.ok (num ((zaY s w).getD 0+q)):=zpP h1 h2 (by decide)
 have t0:(chk (leB 2 lim) (.ok (PyData.tuple [.int 0,.int 1])):R D)=.ok (num 0):=rfl
 have s1:zdd 0 (eV 1) (zae zcl (zaa (zdM 0 (eV 1) (zbm (zaa (eC (.int 0)) (zaa (eC (.int 1)) zah)))) (zaa (eV 2) zah))) [.ow true (dct s),.val (tp w),.val (num q)]=.ok (.nx,[.ow true (dct (zcQ s w ((zaY s w).getD 0+q))),.val (tp w),.val (num q)]):=by
  have g2:zdM 0 (eV 1) (zbm (zaa (eC (.int 0)) (zaa (eC (.int 1)) zah))) [.ow true (dct s),.val (tp w),.val (num q)]=.ok (num ((zaY s w).getD 0),[.ow true (dct s),.val (tp w),.val (num q)]):=by
   have kd:zdB (dct s)=.ok (s.map fun p=>tp p.1):=zdn s
   show((zdB (dct s)).bind fun _=>((chk (leB 2 lim) (.ok (PyData.tuple [.int 0,.int 1])):R D).bind fun d=>.ok (d,_)).bind fun b=>(zn9 (dct s) (tp w) b.1).bind fun d=>.ok (d,b.2))=_
   rw [kd,t0]
   show(zn9 (dct s) (tp w) (num 0)).bind _=_
   rw [zlA]
   rfl
  generalize zdM 0 (eV 1) (zbm (zaa (eC (.int 0)) (zaa (eC (.int 1)) zah)))=M at g2
  have f1:zae zcl (zaa M (zaa (eV 2) zah)) [.ow true (dct s),.val (tp w),.val (num q)]=.ok (num ((zaY s w).getD 0+q),[.ow true (dct s),.val (tp w),.val (num q)]):=by
   unfold zae
   rw [show zaa M (zaa (eV 2) zah) [.ow true (dct s),.val (tp w),.val (num q)]=.ok ([num ((zaY s w).getD 0),num q],[.ow true (dct s),.val (tp w),.val (num q)]) by unfold zaa;rw [g2];rfl,zac,k1]
   rfl
  unfold zdd
  rw [f1]
  have dp:=zfN (w:=w) (q:=(zaY s w).getD 0+q) hl
  simp only [zaw,eV,zaN,zac,zz0,zz1,List.set_cons_zero,dp]
 have x1:zfd (dct (zcQ s w ((zaY s w).getD 0+q))) (tp w)=.ok (num ((zaY s w).getD 0+q)):=zgq (zla _ _ _)
 generalize hz:(zaY s w).getD 0+q=z at *
 have s2:sIf (tB (e2 eqD (e2 ixD (m2 zfd 0 (eV 1)) (eC (.int 0))) (eC (.int 0)))) (zon 0 (eV 1)) sNx [.ow true (dct (zcQ s w z)),.val (tp w),.val (num q)]=.ok (.nx,[.ow true (dct (zfs s w q)),.val (tp w),.val (num q)]):=by
  have ct:tB (e2 eqD (e2 ixD (m2 zfd 0 (eV 1)) (eC (.int 0))) (eC (.int 0))) [.ow true (dct (zcQ s w z)),.val (tp w),.val (num q)]=.ok (decide (z=0),[.ow true (dct (zcQ s w z)),.val (tp w),.val (num q)]):=by
   have e1':e2 eqD (e2 ixD (m2 zfd 0 (eV 1)) (eC (.int 0))) (eC (.int 0)) [.ow true (dct (zcQ s w z)),.val (tp w),.val (num q)]=.ok (.bool (decide (z=0)),[.ow true (dct (zcQ s w z)),.val (tp w),.val (num q)]):=by
    show((((zfd (dct (zcQ s w z)) (tp w)).bind fun d=>.ok (d,_)).bind fun(x:D×En)=>(ixD x.1 (.int 0)).bind fun d=>.ok (d,x.2)).bind fun(x:D×En)=>(eqD x.1 (.int 0)).bind fun d=>.ok (d,x.2))=_
    rw [x1,zac,zac,show ixD (num z) (.int 0)=.ok (.int z.num) from rfl,zac,zac,zpL]
    rfl
   unfold tB
   rw [e1']
   rfl
  unfold sIf
  rw [ct,zac,zpb,hz]
  by_cases e:z=0
  ·rw [if_pos (by simpa using e),if_pos e]
   have pm:zmm (dct (zcQ s w z)) (tp w)=.ok (dct (zc2 (zcQ s w z) w)):=zlK (by rw [zla];rfl)
   have kd:zdB (dct (zcQ s w z))=.ok ((zcQ s w z).map fun p=>tp p.1):=zdn _
   simp only [zon,zaw,zz0,zdB,eV,zz1,zaN,zac,List.set_cons_zero,pm]
   rfl
  ·rw [if_neg (by simpa using e),if_neg e]
   rfl
 show((zeP [.ow true (dct s),.val (tp w),.val (num q)]).bind _)=_
 unfold zeP
 rw [zam s1,s2]
 rfl
end
section
def told(s:Sm):D:=.list ((zbH s).map tln)
theorem zk4{s:Sm}(nk:Nk s)(hl:s.length<2000):zoL [dct s]=.ok (told s):=by
 have h:=zrc nk hl
 cases e:zbR [.val (dct s)] with
 | bad =>
  have:zdu [dct s]=.bad:=by
   show((zaV [.val (dct s)]).bind _).bind _=_
   unfold zaV zay;rw [e];rfl
  rw [h] at this;cases this
 | err c f =>
  have:zdu [dct s]=.err c f:=by
   show((zaV [.val (dct s)]).bind _).bind _=_
   unfold zaV zay;rw [e];rfl
  rw [h] at this;cases this
 | ok x =>
  obtain⟨d,ρ'⟩:=x
  have:zdu [dct s]=.ok d:=by
   show((zaV [.val (dct s)]).bind _).bind _=_
   unfold zaV zay;rw [e];rfl
  rw [h] at this
  cases this
  refine zmU (ρ:=ρ') rfl ?_
  show zis [.val (dct s)]=_
  unfold zis zb4
  rw [show zhv [.val (dct s)]=.ok _ from e]
  rfl
theorem zpO{s:Sm}(nk:Nk s)(hl:s.length<2000):zhT [dct s]=.ok (told s):=zk4 nk hl
theorem zhB{α:Type}{k:Nat}{ix:List Nat}{g:GF}{t:TF}{kf vf:EF}{ρ:En}{f:α->D}(all:List α)(P:List α->D->Prop)
  (st:∀ done x rest acc,all=done++x::rest->P done acc->∃ acc',P (done++[x]) acc'/\∀ tail,zem k ix g t kf vf (f x::tail) ρ acc=zem k ix g t kf vf tail ρ acc'):∀(xs done:List α) (acc:D),all=done++xs->P done acc ->
  ∃ acc',P all acc'/\zem k ix g t kf vf (xs.map f) ρ acc=.ok (acc',ρ)
 | [],done,acc,ha,h=>⟨acc,by rw [ha];simpa using h,rfl⟩
 | x::r,done,acc,ha,h=>by
  obtain⟨a1,h1,e1'⟩:=st done x r acc ha h
  obtain⟨a2,h2,e2'⟩:=zhB all P st r (done++[x]) a1 (by rw [ha];simp) h1
  refine⟨a2,h2,?_⟩
  rw [List.map_cons,e1',e2']
theorem zo9{s:Sm}{w:List Int}{q:Rat}(h:∀ p∈s,p.1≠w):zcQ s w q=s++[(w,q)]:=by
 unfold zcQ
 rw [if_neg]
 simp only [List.any_eq_true,decide_eq_true_eq,not_exists,not_and]
 exact h
theorem zt7{s t:Sm}(h:Nk (s++t)):∀ p∈s,∀ q∈t,p.1≠q.1:=by
 unfold Nk at h
 rw [List.map_append,List.nodup_append] at h
 intro p hp q hq
 exact h.2.2 _ (List.mem_map_of_mem hp) _ (List.mem_map_of_mem hq)
theorem zrr(w:List Int){c:Int}(hw:w.length<=5)(h:∀ x∈w,0<=x/\x<c):zdb [Sl.val (tp w),Sl.val (.int c)]=.ok (.list ((w.map fun _=>true).map PyData.bool),[Sl.val (tp w),Sl.val (.int c)]):=by
 have wh:∀ i:Int,zcm [.int i]=.ok (.bool true):=fun _=>rfl
 unfold zdb
 rw [zgo (items:=w.map PyData.int) (fun x=>.bool true)]
 ·rw [List.map_map,List.map_map];rfl
 ·simp only [iE,eV,zz0,zee,zac]
 ·rw [List.length_map];unfold lim;omega
 ·intro x hx
  obtain⟨i,hi,rfl⟩:=List.mem_map.mp hx
  obtain⟨h0,h4⟩:=h i hi
  refine⟨[.val (.int i),.val (.int c)],?_,?_,?_⟩
  ·simp only [gN,blk,List.replicate,List.map_cons,zz1,zz0,Option.getD_some,List.map_nil,List.cons_append,List.nil_append,List.set_cons_zero]
  ·simp only [zhz,zae,zaa,eV,zz0,zah,zac,wh,zcS,eC,znG,decide_eq_true h0,zz1,zga,decide_eq_true h4]
  ·simp only [back,bkL,bk1]
theorem zpZ(w:List Int){c:Int}(hw:w.length<=5)(h:∀ x∈w,0<=x/\x<c):zgJ [tp w,.int c]=.ok (.bool true):=by
 have k1:zbP "tuple" (tp w)=.ok (.bool true):=rfl
 have k2:decide ((5:Int)<w.length)=false:=decide_eq_false (by omega)
 simp only [zgJ,za7,FL.run,List.length_cons,List.length_nil,Nat.reduceAdd,List.replicate,zhw,zax,sIf,FL.tOr,FL.zbL,tE,FL.e1,eV,slots,Bool.false_eq_true,if_false,Nat.sub_self,List.cons_append,List.nil_append,zz0,zac,k1,zfE,Bool.not_true,tB,FL.e2,zdW,eC,List.length_map,zn1,k2,zay,sNx,zrr w hw h,zqk,List.all_map,outs,outD,if_true]
 simp
theorem zsw(r:Rat):zgL [num r]=.ok (.bool true):=by
 have k1:zbP "tuple" (num r)=.ok (.bool true):=rfl
 have wh:∀ i:Int,zcm [.int i]=.ok (.bool true):=fun _=>rfl
 have k3:ltD (.int (r.den:Int)) (.int 1)=.ok (.bool false):=by
  rw [zga];congr 2
  have:=r.den_nz
  exact decide_eq_false (by omega)
 have k4:zal [.int r.num,.int (r.den:Int)]=.ok (.int 1):=by
  rw [zjs];congr 2
  have:=(QR.low r).cop
  omega
 have k5:neD (.int 2) (.int 2)=.ok (.bool false):=by rw [zf6];rfl
 have k6:eqD (.int 1) (.int 1)=.ok (.bool true):=by rw [zkI];rfl
 have k7:gT [gN 1,gN 2] (num r) [.val (num r),.no,.no]=.ok [.val (num r),.val (.int r.num),.val (.int (r.den:Int))]:=rfl
 refine zcq (ρ:=[.val (num r),.val (.int r.num),.val (.int (r.den:Int))]) rfl ?_
 show zdc [.val (num r),.no,.no]=_
 unfold zdc
 have s1:sIf (FL.tOr (FL.zbL (tE (FL.e1 (zbP "tuple") (eV 0)))) (tB (FL.e2 neD (FL.e1 zdW (eV 0)) (eC (.int 2))))) (zay (eC (.bool false))) sNx [.val (num r),.no,.no]=.ok (.nx,[.val (num r),.no,.no]):=by
  have l2:zdW (num r)=.ok (.int 2):=rfl
  simp only [sIf,FL.tOr,FL.zbL,tE,tB,FL.e1,FL.e2,eV,eC,sNx,zac,zz0,k1,l2,k5,zfE,Bool.not_true,Bool.false_eq_true,if_false,if_true]
 have s2:zaQ (gT [gN 1,gN 2]) (eV 0) [.val (num r),.no,.no]=.ok (.nx,[.val (num r),.val (.int r.num),.val (.int (r.den:Int))]):=rfl
 rw [zam s1,zam s2]
 simp only [zax,sIf,FL.tOr,FL.zbL,tE,zae,zaa,eV,zz1,zz0,zah,zac,wh,zfE,Bool.not_true,tB,FL.e2,eC,Bool.false_eq_true,k3,if_false,zay,sNx,k4,k6]
end
section
structure Wok(c:Int)(p:List Int×Rat):Prop where
 ln:p.1.length<=5
 lt:∀ x∈p.1,0<=x/\x<c
 nz:p.2≠0
theorem zp0{c:Int}{p:List Int×Rat}(h:Wok c p):zgK [tln p,.int c]=.ok (.bool true):=by
 have k1:zbP "tuple" (tln p)=.ok (.bool true):=rfl
 have k2:zdW (tln p)=.ok (.int 2):=rfl
 have k3:neD (.int 2) (.int 2)=.ok (.bool false):=by rw [zf6];rfl
 have k4:ixD (tln p) (.int 0)=.ok (tp p.1):=rfl
 have k5:ixD (tln p) (.int 1)=.ok (num p.2):=rfl
 have k6:neD (num p.2) (.tuple [.int 0,.int 1])=.ok (.bool true):=by
  rw [zt6,zqx,decide_eq_false h.nz];rfl
 have s1:sIf (FL.tOr (FL.zbL (tE (FL.e1 (zbP "tuple") (eV 0)))) (tB (FL.e2 neD (FL.e1 zdW (eV 0)) (eC (.int 2))))) (zay (eC (.bool false))) sNx [.val (tln p),.val (.int c)]=.ok (.nx,[.val (tln p),.val (.int c)]):=by
  simp only [sIf,FL.tOr,FL.zbL,tE,tB,FL.e1,FL.e2,eV,eC,sNx,zac,zz0,k1,k2,k3,zfE,Bool.not_true,Bool.false_eq_true,if_false,if_true]
 refine zcq (ρ:=[.val (tln p),.val (.int c)]) rfl ?_
 show zeR [.val (tln p),.val (.int c)]=_
 unfold zeR
 rw [zam s1]
 simp only [zay,zhz,zae,zaa,zah,FL.e2,eV,eC,zac,zz0,zz1,k4,k5,zpZ p.1 h.ln h.lt,zsw,k6,zfE,if_true]
theorem zk0(w:List Int)(q:Rat):zo1 (.tuple [.int (w.length:Int),tp w])=some (kyS (w,q)):=by
 show(intsOf (w.map PyData.int)).map _=_
 rw [zht];rfl
inductive zqm(p:List Int×Rat):D->Prop where
 | none:zqm p .none
 | some (p':List Int×Rat):ltW (kyS p') (kyS p)=true->zqm p (tln p')
theorem zkp{c:Int}{p:List Int×Rat}{a:D}(h:Wok c p)(ha:zqm p a):zdi [a,tln p,.int c]=.ok (.bool true):=by
 have s1:sIf (FL.zbL (tE (zae zgK (zaa (eV 1) (zaa (eV 2) zah))))) (zay (eC (.bool false))) sNx [.val a,.val (tln p),.val (.int c)]=.ok (.nx,[.val a,.val (tln p),.val (.int c)]):=by
  simp only [sIf,FL.zbL,tE,zae,zaa,zah,eV,eC,sNx,zac,zz0,zz1,zp0 h,zfE,Bool.not_true,Bool.false_eq_true,if_false]
 refine zcq (ρ:=[.val a,.val (tln p),.val (.int c)]) rfl ?_
 show zcE [.val a,.val (tln p),.val (.int c)]=_
 unfold zcE
 rw [zam s1]
 have k4:∀ p,ixD (tln p) (.int 0)=.ok (tp p.1):=fun _=>rfl
 cases ha with
 | none =>
  have i1:isD (.none:D) .none=.ok (.bool true):=rfl
  simp only [zay,eOr,FL.e2,eV,eC,zac,zz0,i1,zfE,if_true]
 | some p' hlt =>
  have i1:isD (tln p') .none=.ok (.bool false):=rfl
  have lw:zun (.tuple [.int (p'.1.length:Int),tp p'.1]) (.tuple [.int (p.1.length:Int),tp p.1])=.ok (.bool true):=by
   unfold zun
   rw [zk0 p'.1 p'.2,zk0 p.1 p.2]
   show R.ok (PyData.bool (ltW (kyS p') (kyS p)))=_
   rw [hlt]
  simp only [zay,eOr,FL.e2,eV,eC,zae,zaa,zah,zac,zz0,zz1,i1,zfE,Bool.false_eq_true,if_false,k4,zli,lw]
def cs0:Cs:={ C:=fun _=>none,st:=by simp }
def Asc(s:Sm):Prop:=s.Pairwise fun p q=>ltW (kyS p) (kyS q)=true
theorem zsp{p q:List Int×Rat}(h:kyS p=kyS q):p.1=q.1:=(Prod.mk.inj h).2
theorem zjc{p q:List Int×Rat}(h:p.1≠q.1)(h2:ltW (kyS q) (kyS p)=false):ltW (kyS p) (kyS q)=true:=by
 cases e:ltW (kyS p) (kyS q) with
 | true=>rfl
 | false =>
  rw [@zhn cs0] at e h2
  exact absurd (zsp (@znB cs0 _ _ e h2)) h
theorem znz{p q r:List Int×Rat}(h:p.1≠r.1)(h1:ltW (kyS p) (kyS q)=true)(h2:ltW (kyS q) (kyS r)=true):ltW (kyS p) (kyS r)=true:=by
 refine zjc h ?_
 rw [@zhn cs0] at h1 h2 ⊢
 exact L2.znA _ _ _ (L2.zho _ _ h1) (L2.zho _ _ h2)
theorem zly(x:List Int×Rat):∀ l:Sm,Asc l->(∀ p∈l,p.1≠x.1)->Asc (zoW x l)
 | [],_,_=>by simp [zoW,Asc]
 | y::r,h,hn=>by
  unfold Asc at h
  rw [List.pairwise_cons] at h
  unfold zoW
  by_cases c:ltW (kyS y) (kyS x)=true
  ·rw [if_pos c]
   unfold Asc
   rw [List.pairwise_cons]
   refine⟨fun z hz=>?_,zly x r h.2 fun p hp=>hn p (List.mem_cons_of_mem _ hp)⟩
   rcases List.mem_cons.mp ((zgj x r).mem_iff.mp hz) with e|e
   ·subst e;exact c
   ·exact h.1 z e
  ·rw [if_neg c]
   have yx:=zjc (fun e=>hn y (List.mem_cons_self ..) e.symm) (by simpa using c)
   unfold Asc
   rw [List.pairwise_cons,List.pairwise_cons]
   refine⟨fun z hz=>?_,h.1,h.2⟩
   rcases List.mem_cons.mp hz with e|e
   ·subst e;exact yx
   ·exact znz (fun z'=>hn z (List.mem_cons_of_mem _ e) z'.symm) yx (h.1 z e)
theorem zbG:∀{s:Sm},Nk s->Asc (zbH s)
 | [],_=>by simp [zbH,Asc]
 | x::r,h=>by
  unfold Nk at h
  rw [List.map_cons,List.nodup_cons] at h
  show Asc (zoW x (zbH r))
  refine zly x _ (zbG h.2) fun p hp e=>h.1 ?_
  rw [<- e]
  exact List.mem_map_of_mem ((zaG r).mem_iff.mp hp)
theorem zoA:∀{s:Sm},Asc s->Nk s
 | [],_=>List.nodup_nil
 | x::r,h=>by
  unfold Asc at h
  rw [List.pairwise_cons] at h
  unfold Nk
  rw [List.map_cons,List.nodup_cons]
  refine⟨fun z=>?_,zoA h.2⟩
  obtain⟨q,hq,e⟩:=List.mem_map.mp z
  have h1:=h.1 q hq
  have:kyS x=kyS q:=by unfold kyS;rw [e]
  rw [this,@zhn cs0] at h1
  exact absurd (L2.zho _ _ h1) (by rw [h1];simp)
theorem zjq{c:Int}(L:D):∀(t:Sm) (i:Nat) (a:D) (x3 x4:Sl),Asc t->(∀ p∈t,Wok c p)->(∀ p,t.head?=some p->zqm p a)->(x3=.no\/∃ d,x3=.val d)->(x4=.no\/∃ d,x4=.val d) ->
  ∃ a' x3' x4',forL (gT [gN 3,gN 4]) zbQ (zfy i (t.map tln)) [.val L,.val (.int c),.val a,x3,x4]=.ok (.nx,[.val L,.val (.int c),.val a',x3',x4'])
 | [],i,a,x3,x4,_,_,_,_,_=>⟨a,x3,x4,rfl⟩
 | p::r,i,a,x3,x4,ha,hw,hh,h3,h4=>by
  have hp:=hw p (List.mem_cons_self ..)
  unfold Asc at ha
  rw [List.pairwise_cons] at ha
  obtain⟨a',x3',x4',ih⟩:=zjq L r (i+1) (tln p) (.val (.int i)) (.val (tln p)) ha.2 (fun q hq=>hw q (List.mem_cons_of_mem _ hq)) (fun q hq=>.some p (ha.1 q (by
   cases r with
   | nil=>cases hq
   | cons y z=>cases hq;exact List.mem_cons_self ..))) (.inr ⟨_,rfl⟩) (.inr ⟨_,rfl⟩)
  refine⟨a',x3',x4',?_⟩
  have g1:gT [gN 3,gN 4] (.tuple [.int i,tln p]) [.val L,.val (.int c),.val a,x3,x4]=.ok [.val L,.val (.int c),.val a,.val (.int i),.val (tln p)]:=by
   rcases h3 with rfl|⟨d3,rfl⟩ <;> rcases h4 with rfl|⟨d4,rfl⟩ <;> rfl
  have b1:zbQ [.val L,.val (.int c),.val a,.val (.int i),.val (tln p)]=.ok (.nx,[.val L,.val (.int c),.val (tln p),.val (.int i),.val (tln p)]):=by
   unfold zbQ
   have s1:sIf (FL.zbL (tE (zae zdi (zaa (eV 2) (zaa (eV 4) (zaa (eV 1) zah)))))) zmT sNx [.val L,.val (.int c),.val a,.val (.int i),.val (tln p)]=.ok (.nx,[.val L,.val (.int c),.val a,.val (.int i),.val (tln p)]):=by
    simp only [sIf,FL.zbL,tE,zae,zaa,zah,eV,sNx,zac,zz0,zz1,zkp hp (hh p rfl),zfE,Bool.not_true,Bool.false_eq_true,if_false]
   rw [zam s1]
   rfl
  show forL _ _ (.tuple [.int i,tln p]::zfy (i+1) (r.map tln)) _=_
  rw [forL,g1,zac,b1,zac]
  exact ih
theorem zn0{c:Int}{t:Sm}(ha:Asc t)(hw:∀ p∈t,Wok c p)(hl:t.length+1<=lim):zhU [.list (t.map tln),.int c]=.ok (dct t):=by
 have nk:=zoA ha
 obtain⟨a',x3',x4',lp⟩:=zjq (c:=c) (.list (t.map tln)) t 0 .none .no .no ha hw (fun p _=>.none) (.inl rfl) (.inl rfl)
 have s2:zcB [.val (.list (t.map tln)),.val (.int c),.val .none,.no,.no]=.ok (.nx,[.val (.list (t.map tln)),.val (.int c),.val a',x3',x4']):=by
  unfold zcB zfY
  rw [show zvj (zaa (eV 0) zah) [.val (.list (t.map tln)),.val (.int c),.val .none,.no,.no]=.ok (zfy 0 (t.map tln),[.val (.list (t.map tln)),.val (.int c),.val .none,.no,.no]) from rfl,zac]
  exact lp
 have bk:∀(ρ cs:En),back ρ [] cs=ρ:=fun ρ cs=>by
  unfold back
  rw [List.zip_nil_left]
  exact ziD (fun i p d z=>by simp at z) ρ 0
 obtain⟨acc',hacc,he⟩:=zhB (k:=2) (ix:=[]) (g:=gT [gN 0,gN 1]) (t:=zbE) (kf:=eV 0) (vf:=eV 1) (ρ:=[.val (.list (t.map tln)),.val (.int c),.val a',x3',x4']) (f:=tln) t
  (fun done acc=>acc=dct done) (fun done x rest acc hs hacc=>by
   subst hacc
   refine⟨_,rfl,fun tail=>?_⟩
   have dp:zkJ (dct done) (tp x.1) (num x.2)=.ok (dct (done++[x])):=by
    rw [zfN (by rw [hs] at hl;simp at hl;omega),zo9]
    intro p hp
    exact zt7 (s:=done) (t:=x::rest) (by rw [<- hs];exact nk) p hp x (List.mem_cons_self ..)
   rw [zem,show gT [gN 0,gN 1] (tln x) (blk 2 [] [.val (.list (t.map tln)),.val (.int c),.val a',x3',x4'])=.ok [.val (tp x.1),.val (num x.2)] from rfl,zac,show zbE [.val (tp x.1),.val (num x.2)]=.ok (true,[.val (tp x.1),.val (num x.2)]) from rfl,zac,if_pos rfl]
   simp only [show eV 0 [.val (tp x.1),.val (num x.2)]=.ok (tp x.1,[.val (tp x.1),.val (num x.2)]) from rfl,show eV 1 [.val (tp x.1),.val (num x.2)]=.ok (num x.2,[.val (tp x.1),.val (num x.2)]) from rfl,zac,dp,bk]) t [] (.dict []) rfl rfl
 subst hacc
 refine zmU (ρ:=[.val (.list (t.map tln)),.val (.int c),.val a',x3',x4']) rfl ?_
 show zdQ [.val (.list (t.map tln)),.val (.int c),.no,.no,.no]=_
 unfold zdQ
 rw [zam (show zaQ (gN 2) (eC .none) [.val (.list (t.map tln)),.val (.int c),.no,.no,.no]=.ok (.nx,[.val (.list (t.map tln)),.val (.int c),.val .none,.no,.no]) from rfl),zam s2]
 unfold zb4 zeh zhy
 rw [show iE (eV 0) [.val (.list (t.map tln)),.val (.int c),.val a',x3',x4']=.ok (t.map tln,[.val (.list (t.map tln)),.val (.int c),.val a',x3',x4']) from rfl,zac,he]
 rfl
end
section
theorem zrp(i:Int){n:Nat}(h:i.natAbs<2^n)(hn:0<n):num (i:Rat)=.tuple [.int i,.int 1]/\QR.Bd n (i:Rat):=by
 refine⟨rfl,?_,?_⟩
 ·simpa using h
 ·show 1<2^n
  exact Nat.one_lt_two_pow (by omega)
theorem zno{k:Nat}{d:D}(h:zeB k d)(hk:k<=50000):∃(r:Rat) (d':D),zaL [d]=.ok (num r,[d'])/\QR.Bd 14 r/\zeB (k+3) d':=by
 obtain⟨w,d1,t1,w0,w5,p1⟩:=zco h (by omega) 5 (by decide) (by decide)
 have lt3:ltD (.int w) (.int 3)=.ok (.bool (decide (w<3))):=zga _ _
 have eq3:eqD (.int w) (.int 3)=.ok (.bool (decide (w=3))):=zkI _ _
 by_cases c1:w<3
 ·have l3:leB 3 lim=true:=by decide
  have l2:leB 2 lim=true:=by decide
  have ng:zwg (.int 1)=.ok (.int (-1)):=rfl
  have c:w=0\/w=1\/w=2:=by omega
  rw [decide_eq_true c1] at lt3
  rcases c with rfl|rfl|rfl
  ·refine⟨0,d1,?_,⟨by decide,by decide⟩,p1.mono (by omega)⟩
   simp only [zaL,FL.run,List.length_cons,List.length_nil,Nat.reduceAdd,za4,zax,zaQ,zak,zgR,zaw,slots,if_true,Nat.reduceSub,List.replicate,List.cons_append,List.nil_append,zz0,eC,zac,zew,zfA,bkL,bk1,t1,zfl,List.lookup_cons,List.lookup_nil,gN,zz1,List.set_cons_succ,List.set_cons_zero,sIf,tB,FL.e2,eV,zay,zcF,zaa,zbm,zah,zaz l2,FL.e1,ng,zaz l3,sNx,zgT,zae,lt3,outs,outD]
   rfl
  ·refine⟨1,d1,?_,⟨by decide,by decide⟩,p1.mono (by omega)⟩
   simp only [zaL,FL.run,List.length_cons,List.length_nil,Nat.reduceAdd,za4,zax,zaQ,zak,zgR,zaw,slots,if_true,Nat.reduceSub,List.replicate,List.cons_append,List.nil_append,zz0,eC,zac,zew,zfA,bkL,bk1,t1,zfl,List.lookup_cons,List.lookup_nil,gN,zz1,List.set_cons_succ,List.set_cons_zero,sIf,tB,FL.e2,eV,zay,zcF,zaa,zbm,zah,zaz l2,FL.e1,ng,zaz l3,sNx,zgT,zae,lt3,outs,outD]
   rfl
  ·refine⟨-1,d1,?_,⟨by decide,by decide⟩,p1.mono (by omega)⟩
   simp only [zaL,FL.run,List.length_cons,List.length_nil,Nat.reduceAdd,za4,zax,zaQ,zak,zgR,zaw,slots,if_true,Nat.reduceSub,List.replicate,List.cons_append,List.nil_append,zz0,eC,zac,zew,zfA,bkL,bk1,t1,zfl,List.lookup_cons,List.lookup_nil,gN,zz1,List.set_cons_succ,List.set_cons_zero,sIf,tB,FL.e2,eV,zay,zcF,zaa,zbm,zah,zaz l2,FL.e1,ng,zaz l3,sNx,zgT,zae,lt3,outs,outD]
   rfl
 ·rw [decide_eq_false c1] at lt3
  by_cases c2:w=3
  ·rw [decide_eq_true c2] at eq3
   obtain⟨v,d2,t2,v0,v1,p2⟩:=zco p1 (by omega) 13 (by decide) (by decide)
   obtain⟨rn,rb⟩:=zrp (v-6) (n:=14) (by omega) (by decide)
   refine⟨((v-6:Int):Rat),d2,?_,rb,p2.mono (by omega)⟩
   rw [rn]
   have l2:leB 2 lim=true:=by decide
   have sb:zgT (.int v) (.int 6)=.ok (.int (v-6)):=rfl
   simp only [zaL,FL.run,List.length_cons,List.length_nil,Nat.reduceAdd,za4,zax,zaQ,zak,zgR,zaw,slots,if_true,Nat.reduceSub,List.replicate,List.cons_append,List.nil_append,zz0,eC,zac,zew,zfA,bkL,bk1,t1,zfl,List.lookup_cons,beq_self_eq_true,gN,zz1,List.set_cons_succ,List.set_cons_zero,sIf,tB,FL.e2,eV,zay,zcF,zaa,zbm,zah,zaz l2,FL.e1,sNx,zgT,zae,lt3,Bool.false_eq_true,if_false,eq3,t2,outs,outD,List.head?_cons]
  ·rw [decide_eq_false c2] at eq3
   obtain⟨v,d2,t2,v0,v1,p2⟩:=zco p1 (by omega) 2001 (by decide) (by decide)
   obtain⟨u,d3,t3,u0,u1,p3⟩:=zco p2 (by omega) 9 (by decide) (by decide)
   have hb:(1+u).toNat≠0:=by omega
   have hl:=zup (v-1000) (b:=(1+u).toNat) (n:=14) hb (by omega) (by decide)
   rw [show(((1+u).toNat:Nat):Int)=1+u by omega] at hl
   refine⟨Rat.normalize (v-1000) (1+u).toNat hb,d3,?_,?_,p3⟩
   ·have pw:zhi (.int 10) (.int 3)=.ok (.int 1000):=rfl
    have ml:zbw (.int 2) (.int 1000)=.ok (.int 2000):=rfl
    have ad:za0 (.int 2000) (.int 1)=.ok (.int 2001):=rfl
    have ad2:za0 (.int 1) (.int u)=.ok (.int (1+u)):=rfl
    have sb:zgT (.int v) (.int 1000)=.ok (.int (v-1000)):=rfl
    simp only [zaL,FL.run,List.length_cons,List.length_nil,Nat.reduceAdd,za4,zax,zaQ,zak,zgR,zaw,slots,if_true,Nat.reduceSub,List.replicate,List.cons_append,List.nil_append,zz0,eC,zac,zew,zfA,bkL,bk1,t1,zfl,List.lookup_cons,beq_self_eq_true,gN,zz1,List.set_cons_succ,List.set_cons_zero,sIf,tB,FL.e2,eV,zay,zcF,zaa,zbm,zah,FL.e1,sNx,zgT,zae,pw,ml,ad,lt3,Bool.false_eq_true,if_false,eq3,t2,t3,ad2,hl,outs,outD,List.head?_cons]
   ·have h1:=QR.norm (t:=v-1000) hb
    have h2:=QR.zsB (v-1000) ((1+u).toNat:Int)
    rw [h1] at h2
    exact⟨by have:=h2.1;omega,by have:=h2.2;omega⟩
theorem zou{F:List D->R (D×List D)}{i:Nat}{ρ:En}{p:Bool}{d r d':D}(hi:ρ[i]?=some (.ow p d))(hF:F [d]=.ok (r,[d'])):zak F [.m i] ρ=.ok (r,ρ.set i (.ow p d')):=by
 have h:=zgw (F:=fun l=>match l with | [a,b]=>(F [a]).bind fun y=>.ok (y.1,y.2++[b])|_=>.bad) (f:=eC .none) (v:=.none) (v':=.none) (r:=r) (d':=d') hi rfl (by show(F [d]).bind _=_;rw [hF];rfl)
 have hm:zaw ρ i=.ok d:=by unfold zaw;rw [hi]
 unfold zak at h ⊢
 simp only [zgR,hm,zac,eC,zfA,hF] at h ⊢
 exact h
theorem zq7{k:Nat}{d:D}(hd:zeB k d)(hk:k<=50000){c m:Int}(c1:1<=c)(c4:c<=4)(m0:0<=m)(m5:m<=5) :
  ∃(w:List Int) (d':D),zdv [d,.int c,.int m]=.ok (tp w,[d',.int c,.int m])/\(w.length:Int)<=m/\(∀ x∈w,0<=x/\x<c)/\zeB (k+6) d':=by
 obtain⟨n,d0,t0,n0,n1,hp0⟩:=zco hd (by omega) (m+1) (by omega) (by omega)
 have hr:zcr [.int n]=.ok (rng 0 n):=zhc (by omega) (by omega)
 have hlen:(rng 0 n).length=n.toNat:=by rw [zmV];simp
 have CI:=zjB (k:=1) (ix:=[0,1]) (g:=gN 0) (t:=zbE) (f:=zak zbN [.m 1,.v (eV 2)])
  (fun i acc ρ=>∃(w:List Int) (d':D),acc=w.map PyData.int/\(∀ x∈w,0<=x/\x<c)/\zeB (k+1+i) d'/\ρ=[.ow true d',.val (.int c),.val (.int m)])
 obtain⟨acc,ρ',ec,el,hp⟩:=CI (rng 0 n) 0 [] [.ow true d0,.val (.int c),.val (.int m)] (by rw [hlen];unfold lim;simp;omega) rfl
  ⟨[],d0,rfl,by simp,hp0,rfl⟩ (by
   intro x hx i acc ρ hi hP
   rw [hlen] at hi
   obtain⟨w,d1,rfl,hw,hp,rfl⟩:=hP
   obtain⟨g,d2,et,g0,g1,hp2⟩:=zco hp (by omega) c c1 (by omega)
   refine⟨[.val x,.ow true d1,.val (.int c)],.int g,[.val x,.ow true d2,.val (.int c)],?_,?_,?_,?_⟩
   ·simp only [gN,blk,List.replicate,List.map_cons,zz0,Option.getD_some,zz1,List.map_nil,List.cons_append,List.nil_append,List.set_cons_zero]
   ·simp only [zbE]
   ·simp only [zak,zgR,zaw,zz1,zz0,eV,zac,zew,zfA,bkL,bk1,Nat.zero_add,et,zfl,List.lookup_cons,beq_self_eq_true]
   ·refine⟨w++[g],d2,by simp,?_,hp2,?_⟩
    ·intro z hz
     rcases List.mem_append.mp hz with hz|hz
     ·exact hw z hz
     ·have:z=g:=by simpa using hz
      subst this;exact⟨g0,g1⟩
    ·have l2:([(0,Sl.ow true d2),(1,Sl.val (.int c))]:List (Nat×Sl)).lookup 2=none:=rfl
     show [bk1 _ 0 _,bk1 _ 1 _,bk1 [(0,Sl.ow true d2),(1,Sl.val (.int c))] 2 (Sl.val (.int m))]=_
     rw [zlP l2]
     rfl)
 obtain⟨w,d',rfl,hw,hp',rfl⟩:=hp
 rw [Nat.zero_add,hlen] at el
 have el':w.length=n.toNat:=by simpa using el
 refine⟨w,d',?_,by omega,hw,hp'.mono (by rw [hlen];omega)⟩
 have hq:zcC [.ow true d,.val (.int c),.val (.int m)]=.ok (.list (w.map PyData.int),[.ow true d',.val (.int c),.val (.int m)]):=by
  unfold zcC zcG
  have hi:(iR1 (zaa (zak zbN [.m 0,.v (e2 za0 (eV 2) (eC (.int 1)))]) zah)) [.ow true d,.val (.int c),.val (.int m)]=.ok (rng 0 n,[.ow true d0,.val (.int c),.val (.int m)]):=by
   have cm:(zak zbN [.m 0,.v (e2 za0 (eV 2) (eC (.int 1)))]) [.ow true d,.val (.int c),.val (.int m)]=.ok (.int n,[.ow true d0,.val (.int c),.val (.int m)]):=zgw (p:=true) (d:=d) rfl rfl t0
   simp only [iR1,zaa,zah,zac,cm,hr]
  rw [hi,zac]
  show(zdS _ _ _ _ _ (rng 0 n) [.ow true d0,.val (.int c),.val (.int m)] []).bind _=_
  rw [ec]
  rfl
 show((zdO [.ow true d,.val (.int c),.val (.int m)]).bind _)=_
 unfold zdO zay FL.e1
 rw [hq]
 rfl
structure Dr(c:Int)(n:Nat)(s:Sm):Prop where
 nk:Nk s
 wk:∀ p∈s,Wok c p
 bd:∀ p∈s,QR.Bd 14 p.2
 ln:s.length<=n
theorem zkb{k:Nat}{d:D}(hd:zeB k d)(hk:k<=1000){c m:Int}(c1:1<=c)(c4:c<=4)(m0:0<=m)(m5:m<=5) :
  ∃(s:Sm) (d':D),zj2 [d,.int c,.int 4,.int m]=.ok (dct s,[d',.int c,.int 4,.int m])/\Dr c 4 s/\(∀ p∈s,(p.1.length:Int)<=m)/\zeB (k+37) d':=by
 obtain⟨n,d0,t0,n0,n1,hp0⟩:=zco hd (by omega) 5 (by decide) (by decide)
 have hr:zcr [.int n]=.ok (rng 0 n):=zhc (by omega) (by omega)
 have hlen:(rng 0 n).length=n.toNat:=by rw [zmV];simp
 have hm:(rng 0 n)=(rng 0 n).map id:=by simp
 have L:=zei (f:=fun x:D=>x) (g:=gN 5) (b:=zb8)
  (fun done ρ=>∃(s:Sm) (d':D) (y5 y6 y7:Sl),Np y5/\Np y6/\Np y7/\ρ=[.ow true d',.val (.int c),.val (.int 4),.val (.int m),.ow false (dct s),y5,y6,y7]/\Dr c done.length s/\(∀ p∈s,(p.1.length:Int)<=m)/\zeB (k+1+9*done.length) d')
  (rng 0 n) [] [.ow true d0,.val (.int c),.val (.int 4),.val (.int m),.ow false (dct []),.no,.no,.no] ⟨[],d0,.no,.no,.no,zcw,zcw,zcw,rfl,⟨List.nodup_nil,fun _ h=>by simp at h,fun _ h=>by simp at h,Nat.zero_le _⟩,fun _ h=>by simp at h,hp0⟩ (by
   intro pre x post ρ e hP
   obtain⟨s,d1,y5,y6,y7,h5,h6,h7,rfl,dr,ml,pp⟩:=hP
   rw [List.nil_append] at e
   have hpl:pre.length+1<=n.toNat:=by rw [<- hlen,e];simp
   have gx:gN 5 x [.ow true d1,.val (.int c),.val (.int 4),.val (.int m),.ow false (dct s),y5,y6,y7]=.ok [.ow true d1,.val (.int c),.val (.int 4),.val (.int m),.ow false (dct s),.val x,y6,y7]:=ziu rfl h5
   obtain⟨w,d2,tw,wl,wx,pw⟩:=zq7 pp (by omega) c1 c4 m0 m5
   obtain⟨r,d3,tn,rb,pn⟩:=zno pw (by omega)
   have cw:zak zdv [.m 0,.v (eV 1),.v (eV 3)] [.ow true d1,.val (.int c),.val (.int 4),.val (.int m),.ow false (dct s),.val x,y6,y7]=.ok (tp w,[.ow true d2,.val (.int c),.val (.int 4),.val (.int m),.ow false (dct s),.val x,y6,y7]):=zot (p:=true) (d:=d1) rfl rfl rfl tw
   have s1:zaQ (gN 6) (zak zdv [.m 0,.v (eV 1),.v (eV 3)]) [.ow true d1,.val (.int c),.val (.int 4),.val (.int m),.ow false (dct s),.val x,y6,y7]=.ok (.nx,[.ow true d2,.val (.int c),.val (.int 4),.val (.int m),.ow false (dct s),.val x,.val (tp w),y7]):=zcp (y:=(tp w,[.ow true d2,.val (.int c),.val (.int 4),.val (.int m),.ow false (dct s),.val x,y6,y7])) cw rfl h6
   have cn:zak zaL [.m 0] [.ow true d2,.val (.int c),.val (.int 4),.val (.int m),.ow false (dct s),.val x,.val (tp w),y7]=.ok (num r,[.ow true d3,.val (.int c),.val (.int 4),.val (.int m),.ow false (dct s),.val x,.val (tp w),y7]):=by
    exact zou (p:=true) (d:=d2) rfl tn
   have s2:zaQ (gN 7) (zak zaL [.m 0]) [.ow true d2,.val (.int c),.val (.int 4),.val (.int m),.ow false (dct s),.val x,.val (tp w),y7]=.ok (.nx,[.ow true d3,.val (.int c),.val (.int 4),.val (.int m),.ow false (dct s),.val x,.val (tp w),.val (num r)]):=zcp (y:=(num r,[.ow true d3,.val (.int c),.val (.int 4),.val (.int m),.ow false (dct s),.val x,.val (tp w),y7])) cn rfl h7
   have tt:tB (e2 neD (e2 ixD (eV 7) (eC (.int 0))) (eC (.int 0))) [.ow true d3,.val (.int c),.val (.int 4),.val (.int m),.ow false (dct s),.val x,.val (tp w),.val (num r)]=.ok (!decide (r=0),[.ow true d3,.val (.int c),.val (.int 4),.val (.int m),.ow false (dct s),.val x,.val (tp w),.val (num r)]):=by
    have i0:ixD (num r) (.int 0)=.ok (.int r.num):=rfl
    have n0:neD (.int r.num) (.int 0)=.ok (.bool (!decide (r=0))):=by
     rw [zf6];congr 3;rw [decide_eq_decide];exact Rat.num_eq_zero
    simp only [tB,FL.e2,eV,eC,zac,zz0,zz1,i0,n0]
   by_cases cz:r=0
   ·refine⟨[.ow true d3,.val (.int c),.val (.int 4),.val (.int m),.ow false (dct s),.val x,.val (tp w),.val (num r)],.nx,?_,.inl rfl,s,d3,_,_,_,zbv _,zbv _,zbv _,rfl,⟨dr.nk,dr.wk,dr.bd,by rw [List.length_append];have:=dr.ln;simp;omega⟩,ml,pn.mono (by simp;omega)⟩
    rw [gx,zac]
    unfold zb8
    rw [zam s1,zam s2]
    unfold sIf
    rw [tt,zac,if_neg (by simpa using cz)]
    rfl
   ·have wk:Wok c (w,r):=⟨by show w.length<=5;omega,wx,cz⟩
    refine⟨[.ow true d3,.val (.int c),.val (.int 4),.val (.int m),.ow false (dct (zcQ s w r)),.val x,.val (tp w),.val (num r)],.nx,?_,.inl rfl,zcQ s w r,d3,_,_,_,zbv _,zbv _,zbv _,rfl,⟨ziX dr.nk,fun p hp=>?_,fun p hp=>?_,?_⟩,fun p hp=>?_,pn.mono (by simp;omega)⟩
    ·rw [gx,zac]
     unfold zb8
     rw [zam s1,zam s2]
     unfold sIf
     rw [tt,zac,if_pos (by simpa using cz)]
     have dp:=zfN (s:=s) (w:=w) (q:=r) (by have:=dr.ln;unfold lim;omega)
     simp only [zdd,eV,zaw,zac,zz0,zz1,dp]
     rfl
    ·rcases zd2 hp with h|h
     ·exact dr.wk p h
     ·subst h;exact wk
    ·rcases zd2 hp with h|h
     ·exact dr.bd p h
     ·subst h;exact rb
    ·rw [List.length_append,List.length_singleton]
     have:=zk9 s w r
     have:=dr.ln
     omega
    ·rcases zd2 hp with h|h
     ·exact ml p h
     ·subst h;exact wl)
 obtain⟨ρ',e,s,d',y5,y6,y7,h5,h6,h7,rfl,dr,ml,pp⟩:=L
 simp only [List.nil_append,hlen,List.map_id'] at e dr pp
 refine⟨s,d',?_,⟨dr.nk,dr.wk,dr.bd,by have:=dr.ln;omega⟩,ml,pp.mono (by omega)⟩
 have hi:(iR1 (zaa (zak zbN [.m 0,.v (e2 za0 (eV 2) (eC (.int 1)))]) zah)) [.ow true d,.val (.int c),.val (.int 4),.val (.int m),.ow false (dct []),.no,.no,.no]=.ok (rng 0 n,[.ow true d0,.val (.int c),.val (.int 4),.val (.int m),.ow false (dct []),.no,.no,.no]):=by
  have cm:(zak zbN [.m 0,.v (e2 za0 (eV 2) (eC (.int 1)))]) [.ow true d,.val (.int c),.val (.int 4),.val (.int m),.ow false (dct []),.no,.no,.no]=.ok (.int n,[.ow true d0,.val (.int c),.val (.int 4),.val (.int m),.ow false (dct []),.no,.no,.no]):=zgw (p:=true) (d:=d) rfl rfl t0
  simp only [iR1,zaa,zah,zac,cm,hr]
 have s1:zgU 4 zcj [.ow true d,.val (.int c),.val (.int 4),.val (.int m),.no,.no,.no,.no]=.ok (.nx,[.ow true d,.val (.int c),.val (.int 4),.val (.int m),.ow false (dct []),.no,.no,.no]):=rfl
 have s2:zc9 [.ow true d,.val (.int c),.val (.int 4),.val (.int m),.ow false (dct []),.no,.no,.no]=.ok (.nx,[.ow true d',.val (.int c),.val (.int 4),.val (.int m),.ow false (dct s),y5,y6,y7]):=by
  unfold zc9 zfY
  rw [hi,zac]
  exact e
 show((zeO [.ow true d,.val (.int c),.val (.int 4),.val (.int m),.no,.no,.no,.no]).bind _)=_
 unfold zeO
 rw [zam s1,zam s2]
 rfl
end
section
def uP(AT:List D->R (D×List D))(TM:List D->R D):SF:=sE (zak AT [.m 2,.v (e2 za0 (eV 3) (eV 4)),.v (zae TM (zaa (e2 zfd (eV 0) (eV 3)) (zaa (e2 zfd (eV 1) (eV 4)) zah)))])
def wP(AT:List D->R (D×List D))(TM:List D->R D):SF:=zfY (iD (eV 1)) (gN 4) (uP AT TM)
def wP1(AT:List D->R (D×List D))(TM:List D->R D):SF:=zfY (iD (eV 0)) (gN 3) (wP AT TM)
def bP(AT:List D->R (D×List D))(TM:List D->R D):SF:=zax (zgU 2 zcj) (zax (wP1 AT TM) (zfr 2))
def GP(AT:List D->R (D×List D))(TM:List D->R D):List D->R D:=za7 true 2 5 (bP AT TM)
theorem zm7{P:Nat->Rat->Prop}{Q:Rat->Prop}{N i:Nat}(g:zo0 P Q N){AT:List D->R (D×List D)}{TM:List D->R D}(hAT:∀{i:Nat} {s:Sm} {w:List Int} {q:Rat},Fit P i s->i<=N->s.length+1<=lim->Q q->AT [dct s,tp w,num q]=.ok (.none,[dct (zfs s w q),tp w,num q]))(hTM:∀{r s:Rat},QR.Bd 40000 r->QR.Bd 40000 s->TM [num r,num s]=.ok (num (r*s))){s t:Sm}(ns:Nk s)(nt:Nk t)(w1:Ws 1000 s)(w2:Ws 1000 t){p1:List Int×Rat}(m1:p1∈s)(hQ:∀ p∈t,Q (p1.2*p.2))(b1:QR.Bd 40000 p1.2)(b2:∀ p∈t,QR.Bd 40000 p.2)
  {acc:Sm}(f:Fit P i acc)(hi:i+t.length<=N)(hl:acc.length+t.length+1<=lim){x4:Sl}(h4:Np x4) :
  ∃ y,Np y/\(wP AT TM) [.val (dct s),.val (dct t),.ow false (dct acc),.val (tp p1.1),x4]=.ok (.nx,[.val (dct s),.val (dct t),.ow false (dct (inW p1 t acc)),.val (tp p1.1),y])/\Fit P (i+t.length) (inW p1 t acc)/\(inW p1 t acc).length<=acc.length+t.length:=by
 have L:=zei (f:=fun p:List Int×Rat=>tp p.1) (g:=gN 4) (b:=(uP AT TM))
  (fun done ρ=>∃ y,Np y/\ρ=[.val (dct s),.val (dct t),.ow false (dct (inW p1 done acc)),.val (tp p1.1),y]/\Fit P (i+done.length) (inW p1 done acc)/\(inW p1 done acc).length<=acc.length+done.length)
  t [] [.val (dct s),.val (dct t),.ow false (dct acc),.val (tp p1.1),x4] ⟨x4,h4,rfl,f,Nat.le_refl _⟩ (by
   intro pre x post ρ e hP
   obtain⟨y,hy,rfl,fp,hlp⟩:=hP
   rw [List.nil_append] at e
   have mx:x∈t:=by rw [e];simp
   have hlen:pre.length+1<=t.length:=by rw [e];simp
   have gx:gN 4 (tp x.1) [.val (dct s),.val (dct t),.ow false (dct (inW p1 pre acc)),.val (tp p1.1),y]=.ok [.val (dct s),.val (dct t),.ow false (dct (inW p1 pre acc)),.val (tp p1.1),.val (tp x.1)]:=ziu rfl hy
   have a1:(e2 za0 (eV 3) (eV 4)) [.val (dct s),.val (dct t),.ow false (dct (inW p1 pre acc)),.val (tp p1.1),.val (tp x.1)]=.ok (tp (p1.1++x.1),[.val (dct s),.val (dct t),.ow false (dct (inW p1 pre acc)),.val (tp p1.1),.val (tp x.1)]):=by
    have:=zu9 (v:=p1.1) (w:=x.1) (by have:=w1 p1 m1;have:=w2 x mx;unfold lim;omega)
    simp only [FL.e2,eV,zac,zz0,zz1,this]
   have a2:(zae TM (zaa (e2 zfd (eV 0) (eV 3)) (zaa (e2 zfd (eV 1) (eV 4)) zah))) [.val (dct s),.val (dct t),.ow false (dct (inW p1 pre acc)),.val (tp p1.1),.val (tp x.1)]=.ok (num (p1.2*x.2),[.val (dct s),.val (dct t),.ow false (dct (inW p1 pre acc)),.val (tp p1.1),.val (tp x.1)]):=by
    have d1:=zgq (zeH ns m1)
    have d2:=zgq (zeH nt mx)
    have tm:=hTM b1 (b2 x mx)
    simp only [zae,zaa,zah,FL.e2,eV,zac,zz0,zz1,d1,d2,tm]
   have fx:=hAT (w:=p1.1++x.1) fp (by omega) (by omega) (hQ x mx)
   refine⟨[.val (dct s),.val (dct t),.ow false (dct (inW p1 (pre++[x]) acc)),.val (tp p1.1),.val (tp x.1)],.nx,?_,.inl rfl,.val (tp x.1),zbv _,rfl,?_,?_⟩
   ·rw [gx,zac]
    unfold uP sE
    rw [zot (p:=false) (d:=dct (inW p1 pre acc)) rfl a1 a2 fx,zio]
    rfl
   ·rw [zio,List.length_append,List.length_singleton,<- Nat.add_assoc]
    exact fp.add g _ (hQ x mx)
   ·rw [zio,List.length_append,List.length_singleton]
    exact Nat.le_trans (zpa _ _ _) (by omega))
 obtain⟨ρ',e,y,hy,rfl,fp,hlp⟩:=L
 refine⟨y,hy,?_,fp,hlp⟩
 unfold wP zfY
 have hi:(iD (eV 1)) [.val (dct s),.val (dct t),.ow false (dct acc),.val (tp p1.1),x4]=.ok (t.map fun p=>tp p.1,[.val (dct s),.val (dct t),.ow false (dct acc),.val (tp p1.1),x4]):=by
  simp only [iD,eV,zac,zz0,zz1,zdn]
 rw [hi,zac]
 exact e
theorem zqq{P:Nat->Rat->Prop}{Q:Rat->Prop}{N:Nat}(g:zo0 P Q N){AT:List D->R (D×List D)}{TM:List D->R D}(hAT:∀{i:Nat} {s:Sm} {w:List Int} {q:Rat},Fit P i s->i<=N->s.length+1<=lim->Q q->AT [dct s,tp w,num q]=.ok (.none,[dct (zfs s w q),tp w,num q]))(hTM:∀{r s:Rat},QR.Bd 40000 r->QR.Bd 40000 s->TM [num r,num s]=.ok (num (r*s))){s t:Sm}(ns:Nk s)(nt:Nk t)(w1:Ws 1000 s)(w2:Ws 1000 t)(hQ:∀ p1∈s,∀ p∈t,Q (p1.2*p.2))(b1:∀ p∈s,QR.Bd 40000 p.2)(b2:∀ p∈t,QR.Bd 40000 p.2)
  (hi:s.length*t.length<=N)(hl:s.length*t.length+1<=lim):GP AT TM [dct s,dct t]=.ok (dct (zaX s t))/\Fit P (s.length*t.length) (zaX s t)/\(zaX s t).length<=s.length*t.length:=by
 have L:=zei (f:=fun p:List Int×Rat=>tp p.1) (g:=gN 3) (b:=(wP AT TM))
  (fun done ρ=>∃ y3 y4,Np y3/\Np y4/\ρ=[.val (dct s),.val (dct t),.ow false (dct (zaX done t)),y3,y4]/\Fit P (done.length*t.length) (zaX done t)/\(zaX done t).length<=done.length*t.length)
  s [] [.val (dct s),.val (dct t),.ow false (dct []),.no,.no] ⟨.no,.no,zcw,zcw,rfl,⟨List.nodup_nil,fun p hp=>by simp [zaX] at hp⟩,by simp [zaX]⟩ (by
   intro pre x post ρ e hP
   obtain⟨y3,y4,h3,h4,rfl,fp,hlp⟩:=hP
   rw [List.nil_append] at e
   have mx:x∈s:=by rw [e];simp
   have hlen:(pre.length+1)*t.length<=s.length*t.length:=Nat.mul_le_mul_right _ (by rw [e];simp)
   rw [Nat.add_mul,Nat.one_mul] at hlen
   have gx:gN 3 (tp x.1) [.val (dct s),.val (dct t),.ow false (dct (zaX pre t)),y3,y4]=.ok [.val (dct s),.val (dct t),.ow false (dct (zaX pre t)),.val (tp x.1),y4]:=ziu rfl h3
   obtain⟨y,hy,ei,fi,li⟩:=zm7 g hAT hTM ns nt w1 w2 mx (hQ x mx) (b1 x mx) b2 fp (by omega) (by omega) h4
   refine⟨[.val (dct s),.val (dct t),.ow false (dct (zaX (pre++[x]) t)),.val (tp x.1),y],.nx,?_,.inl rfl,.val (tp x.1),y,zbv _,hy,rfl,?_,?_⟩
   ·rw [gx,zac]
    rw [ei,(zfX pre t x).2]
   ·rw [(zfX pre t x).2,List.length_append,List.length_singleton,Nat.add_mul,Nat.one_mul]
    exact fi
   ·rw [(zfX pre t x).2,List.length_append,List.length_singleton,Nat.add_mul,Nat.one_mul]
    exact Nat.le_trans li (by omega))
 obtain⟨ρ',e,y3,y4,h3,h4,rfl,fp,hlp⟩:=L
 refine⟨?_,fp,hlp⟩
 have s1:zgU 2 zcj [.val (dct s),.val (dct t),.no,.no,.no]=.ok (.nx,[.val (dct s),.val (dct t),.ow false (dct []),.no,.no]):=rfl
 have hi:(iD (eV 0)) [.val (dct s),.val (dct t),.ow false (dct []),.no,.no]=.ok (s.map fun p=>tp p.1,[.val (dct s),.val (dct t),.ow false (dct []),.no,.no]):=by
  simp only [iD,eV,zac,zz0,zz1,zdn]
 have s2:(wP1 AT TM) [.val (dct s),.val (dct t),.ow false (dct []),.no,.no]=.ok (.nx,[.val (dct s),.val (dct t),.ow false (dct (zaX s t)),y3,y4]):=by
  unfold wP1 zfY
  rw [hi,zac]
  exact e
 show(((bP AT TM) [.val (dct s),.val (dct t),.no,.no,.no]).bind _).bind _=_
 unfold bP
 rw [zam s1,zam s2]
 rfl
end
section
def ev(f:List Int->Rat)(s:Sm):Rat:=(s.map fun p=>f p.1*p.2).sum
def Eqv(s t:Sm):Prop:=∀ f,ev f s=ev f t
def Nz(s:Sm):Prop:=∀ p∈s,p.2≠0
theorem zej(f:List Int->Rat):ev f []=0:=rfl
theorem zaO(f:List Int->Rat)(p:List Int×Rat)(s:Sm):ev f (p::s)=f p.1*p.2+ev f s:=by simp [ev]
theorem zsC(f:List Int->Rat){s t:Sm}(h:s.Perm t):ev f s=ev f t:=by
 induction h with
 | nil=>rfl
 | cons x _ ih=>rw [zaO,zaO,ih]
 | swap x y l=>rw [zaO,zaO,zaO,zaO];grind
 | trans _ _ a b=>rw [a,b]
theorem zof(f:List Int->Rat)(w:List Int):∀{s:Sm},Nk s->ev f (zc2 s w)=ev f s-f w*(zaY s w).getD 0
 | [],_=>by show ev f []=_;rw [zej];show(0:Rat)=0-f w*0;grind
 | p::s,nk=>by
  unfold Nk at nk
  rw [List.map_cons,List.nodup_cons] at nk
  have ih:=zof f w (s:=s) nk.2
  by_cases c:p.1=w
  ·subst c
   have e1:zc2 (p::s) p.1=s:=by
    unfold zc2
    rw [List.filter_cons_of_neg (by simp)]
    exact List.filter_eq_self.mpr fun q hq=>by
     simp only [decide_eq_true_eq]
     exact fun z=>nk.1 (by rw [<- z];exact List.mem_map_of_mem hq)
   have e2:zaY (p::s) p.1=some p.2:=by unfold zaY;rw [List.find?_cons_of_pos (by simp)];rfl
   rw [e1,e2,zaO]
   show ev f s=f p.1*p.2+ev f s-f p.1*p.2
   grind
  ·have e1:zc2 (p::s) w=p::zc2 s w:=by unfold zc2;rw [List.filter_cons_of_pos (by simpa using c)]
   have e2:zaY (p::s) w=zaY s w:=by unfold zaY;rw [List.find?_cons_of_neg (by simpa using c)]
   rw [e1,e2,zaO,zaO,ih]
   grind
theorem zqQ(f:List Int->Rat)(w:List Int)(q:Rat):∀{s:Sm},Nk s->ev f (zcQ s w q)=ev f s+f w*(q-(zaY s w).getD 0)
 | [],_=>by show ev f [(w,q)]=_;rw [zaO,zej];show f w*q+0=0+f w*(q-0);grind
 | p::s,nk=>by
  unfold Nk at nk
  rw [List.map_cons,List.nodup_cons] at nk
  by_cases c:p.1=w
  ·subst c
   have e1:zcQ (p::s) p.1 q=(p.1,q)::s:=by
    unfold zcQ
    rw [if_pos (by simp),List.map_cons,if_pos rfl]
    congr 1
    conv=>rhs;rw [<- List.map_id s]
    exact List.map_congr_left fun x hx=>if_neg fun z=>nk.1 (by rw [<- z];exact List.mem_map_of_mem hx)
   have e2:zaY (p::s) p.1=some p.2:=by unfold zaY;rw [List.find?_cons_of_pos (by simp)];rfl
   rw [e1,e2,zaO,zaO]
   show f p.1*q+ev f s=f p.1*p.2+ev f s+f p.1*(q-p.2)
   grind
  ·have e1:zcQ (p::s) w q=p::zcQ s w q:=by
    unfold zcQ
    by_cases a:(s.any fun p=>decide (p.1=w))=true
    ·rw [if_pos a,if_pos (by simp only [List.any_cons,a,Bool.or_true]),List.map_cons,if_neg c]
    ·rw [if_neg a,if_neg (by simp only [List.any_cons,decide_eq_false c,Bool.false_or];exact a)];rfl
   have e2:zaY (p::s) w=zaY s w:=by unfold zaY;rw [List.find?_cons_of_neg (by simpa using c)]
   rw [e1,e2,zaO,zaO,zqQ f w q (s:=s) nk.2]
   grind
theorem zuR(f:List Int->Rat)(w:List Int)(q:Rat){s:Sm}(nk:Nk s):ev f (zfs s w q)=ev f s+f w*q:=by
 unfold zfs
 by_cases c:(zaY s w).getD 0+q≠0
 ·rw [if_pos c,zqQ f w _ nk];grind
 ·rw [if_neg c]
  have c:(zaY s w).getD 0+q=0:=Classical.not_not.mp c
  by_cases d:(zaY s w).isSome=true
  ·rw [if_pos d,zof f w nk];grind
  ·rw [if_neg d]
   have e:zaY s w=none:=by
    cases h:zaY s w with
    | none=>rfl
    | some _=>rw [h] at d;exact absurd rfl d
   rw [e] at c
   have c:(0:Rat)+q=0:=c
   have:q=0:=by grind
   rw [this];grind
theorem zt5(w:List Int)(q:Rat){s:Sm}(nz:Nz s):Nz (zfs s w q):=by
 intro p hp
 unfold zfs at hp
 by_cases c:(zaY s w).getD 0+q≠0
 ·rw [if_pos c] at hp
  rcases zd2 hp with h|h
  ·exact nz p h
  ·subst h;exact c
 ·rw [if_neg c] at hp
  split at hp
  ·exact nz p (List.mem_filter.mp hp).1
  ·exact nz p hp
theorem zqR(f:List Int->Rat)(p:List Int×Rat):∀(t acc:Sm),Nk acc->ev f (inW p t acc)=ev f acc+ev (fun v=>f (p.1++v)) t*p.2/\Nk (inW p t acc)
 | [],acc,nk=>⟨by rw [zej];show ev f acc=_;grind,nk⟩
 | q::t,acc,nk=>by
  obtain⟨a,b⟩:=zqR f p t (zfs acc (p.1++q.1) (p.2*q.2)) (ziZ nk)
  refine⟨?_,b⟩
  show ev f (inW p t (zfs acc (p.1++q.1) (p.2*q.2)))=_
  rw [a,zuR f _ _ nk,zaO]
  grind
theorem zqw(p:List Int×Rat):∀(t acc:Sm),Nz acc->Nz (inW p t acc)
 | [],acc,nz=>nz
 | q::t,acc,nz=>zqw p t _ (zt5 _ _ nz)
theorem zkG(f:List Int->Rat)(t:Sm):∀(s acc:Sm),Nk acc->ev f (s.foldl (fun a p=>inW p t a) acc)=ev f acc+ev (fun u=>ev (fun v=>f (u++v)) t) s/\Nk (s.foldl (fun a p=>inW p t a) acc)
 | [],acc,nk=>⟨by rw [zej];show ev f acc=_;grind,nk⟩
 | p::s,acc,nk=>by
  have h:=zqR f p t acc nk
  obtain⟨a,b⟩:=zkG f t s (inW p t acc) h.2
  refine⟨?_,b⟩
  show ev f (s.foldl _ (inW p t acc))=_
  rw [a,h.1,zaO]
  grind
theorem znn(t:Sm):∀(s acc:Sm),Nz acc->Nz (s.foldl (fun a p=>inW p t a) acc)
 | [],acc,nz=>nz
 | p::s,acc,nz=>znn t s _ (zqw p t acc nz)
theorem zek(f:List Int->Rat)(s t:Sm):ev f (zaX s t)=ev (fun u=>ev (fun v=>f (u++v)) t) s:=by
 have:=(zkG f t s [] List.nodup_nil).1
 rw [zej] at this
 unfold zaX
 rw [this];grind
theorem zfb(s t:Sm):Nk (zaX s t):=(zkG (fun _=>0) t s [] List.nodup_nil).2
theorem zfa(s t:Sm):Nz (zaX s t):=znn t s [] fun p hp=>by simp at hp
theorem Eqv.mul{s s' t t':Sm}(a:Eqv s s')(b:Eqv t t'):Eqv (zaX s t) (zaX s' t'):=fun f=>by
 rw [zek,zek,a]
 congr 1
 funext u
 exact b _
theorem Eqv.assoc(a b c:Sm):Eqv (zaX (zaX a b) c) (zaX a (zaX b c)):=fun f=>by
 rw [zek,zek,zek]
 congr 1
 funext u
 rw [zek]
 congr 1
 funext v
 congr 1
 funext w
 rw [List.append_assoc]
theorem Eqv.sort(s:Sm):Eqv (zbH s) s:=fun f=>zsC f (zaG s)
theorem Eqv.symm{s t:Sm}(h:Eqv s t):Eqv t s:=fun f=>(h f).symm
theorem zoe(w:List Int):∀{s:Sm},Nk s->ev (fun v=>if v=w then 1 else 0) s=(zaY s w).getD 0
 | [],_=>rfl
 | p::s,nk=>by
  unfold Nk at nk
  rw [List.map_cons,List.nodup_cons] at nk
  have ih:=zoe w (s:=s) nk.2
  rw [zaO]
  by_cases c:p.1=w
  ·subst c
   have e2:zaY (p::s) p.1=some p.2:=by unfold zaY;rw [List.find?_cons_of_pos (by simp)];rfl
   have e3:zaY s p.1=none:=by
    cases h:zaY s p.1 with
    | none=>rfl
    | some q=>exact absurd (List.mem_map_of_mem (f:=(·.1)) (zh1 h)) nk.1
   rw [ih,e2,e3,if_pos rfl]
   show 1*p.2+0=p.2
   grind
  ·have e2:zaY (p::s) w=zaY s w:=by unfold zaY;rw [List.find?_cons_of_neg (by simpa using c)]
   rw [ih,e2,if_neg c]
   grind
theorem Eqv.mem{s t:Sm}(ns:Nk s)(nt:Nk t)(zs:Nz s)(h:Eqv s t){p:List Int×Rat}(hp:p∈s):p∈t:=by
 have e:=h fun v=>if v=p.1 then 1 else 0
 rw [zoe _ ns,zoe _ nt,zeH ns hp] at e
 cases g:zaY t p.1 with
 | none =>
  rw [g] at e
  exact absurd e (zs p hp)
 | some q =>
  rw [g] at e
  have e:p.2=q:=e
  have:=zh1 g
  rw [<- e] at this
  exact this
theorem zid:∀{s:Sm},Nk s->s.Nodup
 | [],_=>.nil
 | p::s,nk=>by
  unfold Nk at nk
  rw [List.map_cons,List.nodup_cons] at nk
  exact List.nodup_cons.mpr ⟨fun m=>nk.1 (List.mem_map_of_mem m),zid (s:=s) nk.2⟩
theorem zq2:∀{s t:Sm},Asc s->Asc t->s.Perm t->s=t
 | [],t,_,_,h=>(List.nil_perm.mp h).symm
 | p::s,[],_,_,h=>absurd h.length_eq (by simp)
 | p::s,q::t,hs,ht,h=>by
  have hs':=List.pairwise_cons.mp hs
  have ht':=List.pairwise_cons.mp ht
  have as:∀ x y:List Int×Rat,ltW (kyS x) (kyS y)=true->ltW (kyS y) (kyS x)=false:=fun x y h=>by
   rw [@zhn cs0] at h ⊢
   exact L2.zho _ _ h
  have e:p=q:=by
   rcases List.mem_cons.mp (h.mem_iff.mp (List.mem_cons_self ..)) with rfl|m
   ·rfl
   ·rcases List.mem_cons.mp (h.mem_iff.mpr (List.mem_cons_self ..)) with e|m'
    ·exact e.symm
    ·have a:=as _ _ (ht'.1 p m)
     rw [hs'.1 q m'] at a
     cases a
  subst e
  rw [zq2 hs'.2 ht'.2 h.cons_inv]
theorem Eqv.told{s t:Sm}(ns:Nk s)(nt:Nk t)(zs:Nz s)(zt:Nz t)(h:Eqv s t):zbH s=zbH t:=by
 have pm:s.Perm t:=(List.perm_ext_iff_of_nodup (zid ns) (zid nt)).mpr fun p=>⟨h.mem ns nt zs,h.symm.mem nt ns zt⟩
 exact zq2 (zbG ns) (zbG nt) ((zaG s).trans (pm.trans (zaG t).symm))
theorem zqz{n m:Nat}{s t:Sm}(hs:Ws n s)(ht:Ws m t):Ws (n+m) (zaX s t):=zrl hs ht
theorem znY(p:List Int×Rat):∀(t acc:Sm) {x:List Int×Rat},x∈inW p t acc->(∃ y∈acc,y.1=x.1)\/∃ q∈t,x.1=p.1++q.1
 | [],acc,x,h=>.inl ⟨x,h,rfl⟩
 | q::t,acc,x,h=>by
  rcases znY p t _ h with⟨y,hy,e⟩|⟨q',hq,e⟩
  ·rcases zh2 hy with m|m
   ·exact .inl ⟨y,m,e⟩
   ·exact .inr ⟨q,List.mem_cons_self ..,by rw [<- e,m]⟩
  ·exact .inr ⟨q',List.mem_cons_of_mem _ hq,e⟩
theorem zlo(t:Sm):∀(s acc:Sm) {x:List Int×Rat},x∈s.foldl (fun a p=>inW p t a) acc->(∃ y∈acc,y.1=x.1)\/∃ p∈s,∃ q∈t,x.1=p.1++q.1
 | [],acc,x,h=>.inl ⟨x,h,rfl⟩
 | p::s,acc,x,h=>by
  rcases zlo t s _ h with⟨y,hy,e⟩|⟨p',hp,q,hq,e⟩
  ·rcases znY p t acc hy with⟨z,hz,e'⟩|⟨q,hq,e'⟩
   ·exact .inl ⟨z,hz,e'.trans e⟩
   ·exact .inr ⟨p,List.mem_cons_self ..,q,hq,by rw [<- e,e']⟩
  ·exact .inr ⟨p',List.mem_cons_of_mem _ hp,q,hq,e⟩
theorem zsg{s t:Sm}{x:List Int×Rat}(h:x∈zaX s t):∃ p∈s,∃ q∈t,x.1=p.1++q.1:=by
 rcases zlo t s [] h with⟨y,hy,_⟩|h
 ·simp at hy
 ·exact h
end
end FL
namespace K46
open PySem FL
section
theorem ztG:zbD=GP zdw zoM:=rfl
theorem zwi:zaq=GP zj3 zlT:=rfl
theorem zrd:zai=zhT:=rfl
theorem zo5:zdx=zoL:=rfl
theorem held_eq:zdy=zhU:=rfl
theorem ztc:zbk=zj2:=rfl
theorem zpv:zcb=ziO:=rfl
theorem zre:zav=zbN:=rfl
theorem zwI:zeD=zvq:=rfl
theorem foldl_max(n:Int):∀(l:List Int) (x:Int),x<=n->(∀ y∈l,y<=n)->l.foldl (fun m y=>if y > m then y else m) x<=n
 | [],x,h,_=>h
 | y::l,x,h,hl=>by
  rw [List.foldl_cons]
  refine foldl_max n l _ ?_ fun z hz=>hl z (List.mem_cons_of_mem _ hz)
  split
  ·exact hl y (List.mem_cons_self ..)
  ·exact h
theorem ints_map(l:List Int):intsOf (l.map PyData.int)=some l:=by
 induction l with
 | nil=>rfl
 | cons x l ih=>simp [intsOf,ih]
theorem zhq{s:Sm}{n:Nat}(hw:Ws n s)(hl:s.length<=lim):∃ m:Int,m<=n/\zbj [dct s]=.ok (.int m):=by
 have hq:zbB [.val (dct s)]=.ok (.list ((s.map fun p=>(p.1.length:Int)).map PyData.int),[.val (dct s)]):=by
  unfold zbB
  rw [zgo (items:=s.map fun p=>tp p.1) (fun d=>zvl (zdW d))]
  ·rw [List.map_map,List.map_map]
   congr 3
   exact List.map_congr_left fun p _=>by
    show zvl (R.ok (PyData.int ((p.1.map PyData.int).length:Int)))=_
    rw [List.length_map];rfl
  ·simp only [iD,eV,zz0,zdn,zac]
  ·rw [List.length_map];exact hl
  ·intro x hx
   obtain⟨p,hp,rfl⟩:=List.mem_map.mp hx
   exact⟨[.val (tp p.1)],rfl,rfl,rfl⟩
 have fin:∀ m:Int,znx (.list ((s.map fun p=>(p.1.length:Int)).map PyData.int)) (.int 0)=.ok (.int m)->zbj [dct s]=.ok (.int m):=fun m h=>by
  simp only [zbj,zdf,FL.run,za7,slots,outs,outD,List.replicate,List.length_cons,List.length_nil,zay,zax,sIf,zaQ,sE,sNx,zgU,zmP,ztf,zb4,zfr,zmQ,zeG,zth,ztg,zmT,eC,eV,FL.e1,FL.e2,zhz,eOr,zqU,eIf,zcS,zah,zaa,zbm,zcF,zae,zuU,zic,zib,eSl,zaw,zcy,m1,m2,m2r,m2m,mSl,zny,tE,tB,FL.zmy,FL.tOr,FL.zbL,tM,zbE,gN,gT,zkE,zoT,zmD,setM,zaN,zoD,zac,zes,zer,zz0,zz1,List.set_cons_zero,List.set_cons_succ,List.nil_append,List.cons_append,List.head?_cons,List.tail_cons,Bool.false_eq_true,if_false,if_true,Nat.sub_self,Nat.reduceSub,Nat.reduceAdd,reduceCtorEq,za0,zgT,ixD,zd1,zdW,zfE,zcz,ze7,zak,zgR,zfA,zew,zfl,bkL,bk1,List.lookup_cons,List.lookup_nil,blk,back,List.zip_cons_cons,List.zip_nil_left,List.zip_nil_right,List.map_cons,List.map_nil,List.drop_succ_cons,List.drop_zero,Option.getD_some,Option.getD_none,zfY,iE,zee,Bool.not_true,Bool.not_false,iD,zdB,zcj,zjv,zdM,e3,zdd,zg3,zmW,iR1,iR2,zcr,zeI,hq,h]
 cases e:s.map fun p=>(p.1.length:Int) with
 | nil=>exact⟨0,by omega,fin 0 (by rw [e];rfl)⟩
 | cons x l =>
  have hx:∀ y∈x::l,y<=(n:Int):=fun y hy=>by
   rw [<- e] at hy
   obtain⟨p,hp,rfl⟩:=List.mem_map.mp hy
   have:=hw p hp
   omega
  refine⟨l.foldl (fun m y=>if y > m then y else m) x,foldl_max n l x (hx x (List.mem_cons_self ..)) fun y hy=>hx y (List.mem_cons_of_mem _ hy),fin _ ?_⟩
  rw [e]
  show(R.of (intsOf ((x::l).map PyData.int))).bind _=_
  rw [ints_map]
  rfl
theorem zls{c:Int}(h1:1<=c)(h4:c<=4){s:Sm}(as:Asc s)(ws:∀ p∈s,Wok c p)(hl:s.length+1<=lim):zbd [.int c,.list (s.map tln)]=.ok (dct s):=by
 have wh:zbX [.int c]=.ok (.bool true):=rfl
 have rf:zbf [.int c]=.ok .none:=by
  simp only [zbf,zbJ,FL.run,za7,slots,outs,outD,List.replicate,List.length_cons,List.length_nil,zay,zax,sIf,zaQ,sE,sNx,zgU,zmP,ztf,zb4,zfr,zmQ,zeG,zth,ztg,zmT,eC,eV,FL.e1,FL.e2,zhz,eOr,zqU,eIf,zcS,zah,zaa,zbm,zcF,zae,zuU,zic,zib,eSl,zaw,zcy,m1,m2,m2r,m2m,mSl,zny,tE,tB,FL.zmy,FL.tOr,FL.zbL,tM,zbE,gN,gT,zkE,zoT,zmD,setM,zaN,zoD,zac,zes,zer,zz0,zz1,List.set_cons_zero,List.set_cons_succ,List.nil_append,List.cons_append,List.head?_cons,List.tail_cons,Bool.false_eq_true,if_false,if_true,Nat.sub_self,Nat.reduceSub,Nat.reduceAdd,reduceCtorEq,za0,zgT,ixD,zd1,zdW,zfE,zcz,ze7,zak,zgR,zfA,zew,zfl,bkL,bk1,List.lookup_cons,List.lookup_nil,blk,back,List.zip_cons_cons,List.zip_nil_left,List.zip_nil_right,List.map_cons,List.map_nil,List.drop_succ_cons,List.drop_zero,Option.getD_some,Option.getD_none,zfY,iE,zee,Bool.not_true,Bool.not_false,iD,zdB,zcj,zjv,zdM,e3,zdd,zg3,zmW,iR1,iR2,zcr,zeI,wh,znG,decide_eq_true h1,decide_eq_true h4]
 have hs:zdy [.list (s.map tln),.int c]=.ok (dct s):=by rw [held_eq];exact zn0 as ws hl
 generalize PyData.list (s.map tln)=S at hs ⊢
 simp only [zbd,zcg,FL.run,za7,slots,outs,outD,List.replicate,List.length_cons,List.length_nil,zay,zax,sIf,zaQ,sE,sNx,zgU,zmP,ztf,zb4,zfr,zmQ,zeG,zth,ztg,zmT,eC,eV,FL.e1,FL.e2,zhz,eOr,zqU,eIf,zcS,zah,zaa,zbm,zcF,zae,zuU,zic,zib,eSl,zaw,zcy,m1,m2,m2r,m2m,mSl,zny,tE,tB,FL.zmy,FL.tOr,FL.zbL,tM,zbE,gN,gT,zkE,zoT,zmD,setM,zaN,zoD,zac,zes,zer,zz0,zz1,List.set_cons_zero,List.set_cons_succ,List.nil_append,List.cons_append,List.head?_cons,List.tail_cons,Bool.false_eq_true,if_false,if_true,Nat.sub_self,Nat.reduceSub,Nat.reduceAdd,reduceCtorEq,za0,zgT,ixD,zd1,zdW,zfE,zcz,ze7,zak,zgR,zfA,zew,zfl,bkL,bk1,List.lookup_cons,List.lookup_nil,blk,back,List.zip_cons_cons,List.zip_nil_left,List.zip_nil_right,List.map_cons,List.map_nil,List.drop_succ_cons,List.drop_zero,Option.getD_some,Option.getD_none,zfY,iE,zee,Bool.not_true,Bool.not_false,iD,zdB,zcj,zjv,zdM,e3,zdd,zg3,zmW,iR1,iR2,zcr,zeI,rf,hs]
section
variable {P:Nat->Rat->Prop}{Q:Rat->Prop}{N:Nat}
theorem zrN(g:zo0 P Q N){s t:Sm}(ns:Nk s)(nt:Nk t)(w1:Ws 5 s)(w2:Ws 5 t)(hQ:∀ p1∈s,∀ p∈t,Q (p1.2*p.2))(b1:∀ p∈s,QR.Bd 40000 p.2)(b2:∀ p∈t,QR.Bd 40000 p.2)(hi:s.length*t.length<=N)(hl:s.length*t.length+1<=lim) :
  zbD [dct s,dct t]=.ok (dct (zaX s t))/\Fit P (s.length*t.length) (zaX s t)/\(zaX s t).length<=s.length*t.length:=by
 rw [ztG]
 exact zqq g (fun f hi hl hq=>zjQ g f hi hl _ hq) (fun a b=>zo6 a b (by decide)) ns nt (fun p hp=>Nat.le_trans (w1 p hp) (by decide)) (fun p hp=>Nat.le_trans (w2 p hp) (by decide)) hQ b1 b2 hi hl
theorem zuq(g:zo0 P Q N){s t:Sm}(ns:Nk s)(nt:Nk t)(w1:Ws 5 s)(w2:Ws 5 t)(hQ:∀ p1∈s,∀ p∈t,Q (p1.2*p.2))(b1:∀ p∈s,QR.Bd 40000 p.2)(b2:∀ p∈t,QR.Bd 40000 p.2)(hi:s.length*t.length<=N)(hl:s.length*t.length+1<=lim) :
  zaq [dct s,dct t]=.ok (dct (zaX s t)):=by
 rw [zwi]
 exact(zqq g (fun f hi hl hq=>zso hl (g.bp _ _ hi (f.get g _)) (g.bq _ hq)) (fun a b=>zur a b (by decide)) ns nt (fun p hp=>Nat.le_trans (w1 p hp) (by decide)) (fun p hp=>Nat.le_trans (w2 p hp) (by decide)) hQ b1 b2 hi hl).1
structure Sg(c:Int)(n b l:Nat)(s:Sm):Prop where
 nk:Nk s
 wk:∀ p∈s,Wok c p
 ws:Ws n s
 bd:∀ p∈s,QR.Bd b p.2
 ln:s.length<=l
theorem Sg.sort{c:Int}{n b l:Nat}{s:Sm}(h:Sg c n b l s):Sg c n b l (zbH s) :=
 ⟨zoA (zbG h.nk),fun p hp=>h.wk p ((zaG s).mem_iff.mp hp),fun p hp=>h.ws p ((zaG s).mem_iff.mp hp),fun p hp=>h.bd p ((zaG s).mem_iff.mp hp),by rw [(zaG s).length_eq];exact h.ln⟩
theorem zjn(g:zo0 P Q N){c:Int}(h1:1<=c)(h4:c<=4){n m b b' l l':Nat}{s t:Sm}(hs:Sg c n b l s)(ht:Sg c m b' l' t)(as:Asc s)(at':Asc t)(hnm:n+m<=5)(hQ:∀ p∈s,∀ q∈t,Q (p.2*q.2))(hb:b<=40000)(hb':b'<=40000)(hN:s.length*t.length<=N)(hN2:N<=1000)(hl:l<=1000)(hl':l'<=1000) :
  zar [.int c,.list (s.map tln),.list (t.map tln)]=.ok (told (zaX s t)):=by
 have ls:=hs.ln
 have lt':=ht.ln
 have k1:=zls h1 h4 as hs.wk (show s.length+1<=lim by unfold lim;omega)
 have k2:=zls h1 h4 at' ht.wk (show t.length+1<=lim by unfold lim;omega)
 obtain⟨x,hx,e1⟩:=zhq hs.ws (show s.length<=lim by unfold lim;omega)
 obtain⟨y,hy,e2⟩:=zhq ht.ws (show t.length<=lim by unfold lim;omega)
 have ad:za0 (.int x) (.int y)=.ok (.int (x+y)):=rfl
 have gt:gtD (.int (x+y)) (.int 5)=.ok (.bool false):=by rw [zn1,decide_eq_false (by omega)]
 have k3:zbV [dct s,dct t]=.ok .none:=by
  simp only [zbV,zcJ,FL.run,za7,slots,outs,outD,List.replicate,List.length_cons,List.length_nil,zay,zax,sIf,zaQ,sE,sNx,zgU,zmP,ztf,zb4,zfr,zmQ,zeG,zth,ztg,zmT,eC,eV,FL.e1,FL.e2,zhz,eOr,zqU,eIf,zcS,zah,zaa,zbm,zcF,zae,zuU,zic,zib,eSl,zaw,zcy,m1,m2,m2r,m2m,mSl,zny,tE,tB,FL.zmy,FL.tOr,FL.zbL,tM,zbE,gN,gT,zkE,zoT,zmD,setM,zaN,zoD,zac,zes,zer,zz0,zz1,List.set_cons_zero,List.set_cons_succ,List.nil_append,List.cons_append,List.head?_cons,List.tail_cons,Bool.false_eq_true,if_false,if_true,Nat.sub_self,Nat.reduceSub,Nat.reduceAdd,reduceCtorEq,za0,zgT,ixD,zd1,zdW,zfE,zcz,ze7,zak,zgR,zfA,zew,zfl,bkL,bk1,List.lookup_cons,List.lookup_nil,blk,back,List.zip_cons_cons,List.zip_nil_left,List.zip_nil_right,List.map_cons,List.map_nil,List.drop_succ_cons,List.drop_zero,Option.getD_some,Option.getD_none,zfY,iE,zee,Bool.not_true,Bool.not_false,iD,zdB,zcj,zjv,zdM,e3,zdd,zg3,zmW,iR1,iR2,zcr,zeI,e1,e2,ad,gt]
 obtain⟨k4,fp,hl2⟩:=zrN g hs.nk ht.nk (fun p hp=>(hs.wk p hp).ln) (fun p hp=>(ht.wk p hp).ln) hQ (fun p hp=>(hs.bd p hp).mono hb) (fun p hp=>(ht.bd p hp).mono hb') hN (by unfold lim;omega)
 have k5:zdx [dct (zaX s t)]=.ok (told (zaX s t)):=by rw [zo5];exact zk4 fp.nk (by omega)
 generalize PyData.list (s.map tln)=S at k1 ⊢
 generalize PyData.list (t.map tln)=T at k2 ⊢
 generalize told (zaX s t)=R' at k5 ⊢
 simp only [zar,ziH,FL.run,za7,slots,outs,outD,List.replicate,List.length_cons,List.length_nil,zay,zax,sIf,zaQ,sE,sNx,zgU,zmP,ztf,zb4,zfr,zmQ,zeG,zth,ztg,zmT,eC,eV,FL.e1,FL.e2,zhz,eOr,zqU,eIf,zcS,zah,zaa,zbm,zcF,zae,zuU,zic,zib,eSl,zaw,zcy,m1,m2,m2r,m2m,mSl,zny,tE,tB,FL.zmy,FL.tOr,FL.zbL,tM,zbE,gN,gT,zkE,zoT,zmD,setM,zaN,zoD,zac,zes,zer,zz0,zz1,List.set_cons_zero,List.set_cons_succ,List.nil_append,List.cons_append,List.head?_cons,List.tail_cons,Bool.false_eq_true,if_false,if_true,Nat.sub_self,Nat.reduceSub,Nat.reduceAdd,reduceCtorEq,za0,zgT,ixD,zd1,zdW,zfE,zcz,ze7,zak,zgR,zfA,zew,zfl,bkL,bk1,List.lookup_cons,List.lookup_nil,blk,back,List.zip_cons_cons,List.zip_nil_left,List.zip_nil_right,List.map_cons,List.map_nil,List.drop_succ_cons,List.drop_zero,Option.getD_some,Option.getD_none,zfY,iE,zee,Bool.not_true,Bool.not_false,iD,zdB,zcj,zjv,zdM,e3,zdd,zg3,zmW,iR1,iR2,zcr,zeI,k1,k2,k3,k4,k5]
end
end
section
def PB(i:Nat)(r:Rat):Prop:=QR.Bd (29*(i+1)) r
theorem zn3:zo0 PB (QR.Bd 28) 16 where
 z:=fun i=>(QR.Bd.zero (29*(i+1)-1)).mono (by omega)
 up:=fun i r h=>QR.Bd.mono h (by omega)
 add:=fun i r q h1 h2=>QR.Bd.mono (QR.Bd.add h1 h2) (by omega)
 bp:=fun i r hi h=>QR.Bd.mono h (by omega)
 bq:=fun q h=>QR.Bd.mono h (by decide)
def PC(i:Nat)(r:Rat):Prop:=QR.Bd (508*(i+1)) r
theorem zn2:zo0 PC (QR.Bd 507) 64 where
 z:=fun i=>(QR.Bd.zero (508*(i+1)-1)).mono (by omega)
 up:=fun i r h=>QR.Bd.mono h (by omega)
 add:=fun i r q h1 h2=>QR.Bd.mono (QR.Bd.add h1 h2) (by omega)
 bp:=fun i r hi h=>QR.Bd.mono h (by omega)
 bq:=fun q h=>QR.Bd.mono h (by decide)
theorem zfF{s t:Sm}(ns:Nk s)(nt:Nk t)(zs:Nz s)(zt:Nz t)(h:Eqv s t):told s=told t:=by
 unfold told
 rw [h.told ns nt zs zt]
theorem zk3{a a' b b':Sm}(h:Eqv a a')(k:Eqv b b'):told (zaX a b)=told (zaX a' b'):=zfF (zfb _ _) (zfb _ _) (zfa _ _) (zfa _ _) (h.mul k)
section
variable {c:Int}{n m:Nat}{a b:Sm}
theorem zqA(h1:1<=c)(h4:c<=4)(ha:Sg c n 14 4 a)(hb:Sg c m 14 4 b)(hnm:n+m<=5) :
  zar [.int c,told a,told b]=.ok (told (zaX a b))/\zaq [dct a,dct b]=.ok (dct (zaX a b))/\Sg c (n+m) 493 16 (zaX a b):=by
 have l16:∀{s t:Sm},s.length<=4->t.length<=4->s.length*t.length<=16:=fun h k=>Nat.le_trans (Nat.mul_le_mul h k) (by decide)
 have hQ:∀{s t:Sm},Sg c n 14 4 s->Sg c m 14 4 t->∀ p∈s,∀ q∈t,QR.Bd 28 (p.2*q.2):=fun hs ht p hp q hq=>QR.Bd.mul (hs.bd p hp) (ht.bd q hq)
 have w5:∀{s:Sm} {n:Nat},Sg c n 14 4 s->Ws 5 s:=fun hs p hp=>(hs.wk p hp).ln
 have b4:∀{s:Sm} {n:Nat},Sg c n 14 4 s->∀ p∈s,QR.Bd 40000 p.2:=fun hs p hp=>(hs.bd p hp).mono (by decide)
 obtain⟨_,fp,hl⟩:=zrN zn3 ha.nk hb.nk (w5 ha) (w5 hb) (hQ ha hb) (b4 ha) (b4 hb) (l16 ha.ln hb.ln) (by have:=l16 ha.ln hb.ln;unfold lim;omega)
 refine⟨?_,zuq zn3 ha.nk hb.nk (w5 ha) (w5 hb) (hQ ha hb) (b4 ha) (b4 hb) (l16 ha.ln hb.ln) (by have:=l16 ha.ln hb.ln;unfold lim;omega),fp.nk,fun p hp=>?_,zqz ha.ws hb.ws,fun p hp=>QR.Bd.mono (fp.sz p hp) (by have:=l16 ha.ln hb.ln;omega),Nat.le_trans hl (l16 ha.ln hb.ln)⟩
 ·have:=zjn zn3 h1 h4 ha.sort hb.sort (zbG ha.nk) (zbG hb.nk) hnm (hQ ha.sort hb.sort) (by decide) (by decide) (l16 ha.sort.ln hb.sort.ln) (by decide) (by decide) (by decide)
  rw [zk3 (Eqv.sort a) (Eqv.sort b)] at this
  exact this
 ·obtain⟨x,hx,y,hy,e⟩:=zsg hp
  have w:=zqz ha.ws hb.ws p hp
  refine⟨by omega,fun z hz=>?_,zfa a b p hp⟩
  rw [e] at hz
  rcases List.mem_append.mp hz with hz|hz
  ·exact(ha.wk x hx).lt z hz
  ·exact(hb.wk y hy).lt z hz
theorem zwW{b1 l1 b2 l2:Nat}(h1:1<=c)(h4:c<=4)(ha:Sg c n b1 l1 a)(hb:Sg c m b2 l2 b)(hnm:n+m<=5)(hbb:b1+b2<=507)(hll:l1*l2<=64)(hl1:l1<=64)(hl2:l2<=64) :
  zar [.int c,told a,told b]=.ok (told (zaX a b))/\zaq [dct a,dct b]=.ok (dct (zaX a b))/\(zaX a b).length<=64:=by
 have l64:∀{s t:Sm},s.length<=l1->t.length<=l2->s.length*t.length<=64:=fun h k=>Nat.le_trans (Nat.mul_le_mul h k) hll
 have hQ:∀{s t:Sm},Sg c n b1 l1 s->Sg c m b2 l2 t->∀ p∈s,∀ q∈t,QR.Bd 507 (p.2*q.2):=fun hs ht p hp q hq=>(QR.Bd.mul (hs.bd p hp) (ht.bd q hq)).mono hbb
 have b4:∀{s:Sm} {n b l:Nat},Sg c n b l s->b<=507->∀ p∈s,QR.Bd 40000 p.2:=fun hs hb p hp=>(hs.bd p hp).mono (by omega)
 have w5:∀{s:Sm} {n b l:Nat},Sg c n b l s->Ws 5 s:=fun hs p hp=>(hs.wk p hp).ln
 have hab:=l64 ha.ln hb.ln
 obtain⟨_,fp,hl⟩:=zrN zn2 ha.nk hb.nk (w5 ha) (w5 hb) (hQ ha hb) (b4 ha (by omega)) (b4 hb (by omega)) hab (by unfold lim;omega)
 refine⟨?_,zuq zn2 ha.nk hb.nk (w5 ha) (w5 hb) (hQ ha hb) (b4 ha (by omega)) (b4 hb (by omega)) hab (by unfold lim;omega),by omega⟩
 have:=zjn zn2 h1 h4 ha.sort hb.sort (zbG ha.nk) (zbG hb.nk) hnm (hQ ha.sort hb.sort) (by omega) (by omega) (l64 ha.sort.ln hb.sort.ln) (by decide) (by omega) (by omega)
 rw [zk3 (Eqv.sort a) (Eqv.sort b)] at this
 exact this
end
theorem zf4(z:Sm):Pl 3 (.list (z.map tln)):=znd fun d hd=>by
 obtain⟨p,_,rfl⟩:=List.mem_map.mp hd
 refine zh7 fun d' hd'=>?_
 simp only [List.mem_cons,List.not_mem_nil,or_false] at hd'
 rcases hd' with rfl|rfl
 ·exact zrX p.1
 ·exact zh7 fun d'' h''=>by
   simp only [List.mem_cons,List.not_mem_nil,or_false] at h''
   rcases h'' with rfl|rfl <;> exact zhj _
theorem ne_self{n:Nat}{a:D}(h:Pl n a)(hn:n<=64:=by decide):neD a a=.ok (.bool false):=by
 rw [znr h h hn hn,SeqAt.eqv_refl a h.1];rfl
theorem eq_self{n:Nat}{a:D}(h:Pl n a)(hn:n<=64:=by decide):eqD a a=.ok (.bool true):=by
 rw [zqS h h hn hn,SeqAt.eqv_refl a h.1]
theorem zgf(z:Sm):∀(k j:Nat) (x:Sl),Np x->j+k=z.length->∃ y,Np y/\zqP 0 (gN 1) zaA (k+1) j [.ow true (.list (z.map tln)),x]=.ok (.nx,[.ow true (.list (z.map tln)),y])
 | 0,j,x,nx,h=>by
  refine⟨x,nx,?_⟩
  have e:(z.map tln)[j]?=none:=List.getElem?_eq_none (by rw [List.length_map];omega)
  simp only [zqP,zh6,zz0,zac,e]
 | k+1,j,x,nx,h=>by
  have hj:j<z.length:=by omega
  have e:(z.map tln)[j]?=some (tln z[j]):=by rw [List.getElem?_map,List.getElem?_eq_getElem hj];rfl
  obtain⟨y,ny,ih⟩:=zgf z k (j+1) (.val (tln z[j])) (zbv _) (by omega)
  refine⟨y,ny,?_⟩
  have gx:gN 1 (tln z[j]) [.ow true (.list (z.map tln)),x]=.ok [.ow true (.list (z.map tln)),.val (tln z[j])]:=ziu rfl nx
  have k1:zbP "tuple" (tln z[j])=.ok (.bool true):=rfl
  have k2:zdW (tln z[j])=.ok (.int 2):=rfl
  have k3:neD (.int 2) (.int 2)=.ok (.bool false):=rfl
  have k4:ixD (tln z[j]) (.int 0)=.ok (tp z[j].1):=rfl
  have k5:zbP "tuple" (tp z[j].1)=.ok (.bool true):=rfl
  have ub:zaA [.ow true (.list (z.map tln)),.val (tln z[j])]=.ok (.nx,[.ow true (.list (z.map tln)),.val (tln z[j])]):=by
   simp only [zaA,sIf,FL.tOr,FL.zbL,tE,tB,FL.e1,FL.e2,eV,eC,zac,zz0,zz1,k1,k2,k3,k4,k5,zfE,Bool.not_true,Bool.false_eq_true,if_false,sNx]
  rw [show zqP 0 (gN 1) zaA (k+1+1) j [.ow true (.list (z.map tln)),x]=(zh6 [.ow true (.list (z.map tln)),x] 0).bind fun l=>match l[j]? with
   | none=>.ok (.nx,[.ow true (.list (z.map tln)),x])
   | some d=>(gN 1 d [.ow true (.list (z.map tln)),x]).bind fun ρ1=>(zaA ρ1).bind fun y=>match y.1 with
    | .nx | .ct=>zqP 0 (gN 1) zaA (k+1) (j+1) y.2
    | .bk=>.ok (.nx,y.2)
    | .rt d=>.ok (.rt d,y.2)
    | .rf d=>.ok (.rf d,y.2) from rfl]
  simp only [zh6,zz0,zac,e,gx,ub,ih]
theorem znV(z:Sm):za6 [.list (z.map tln)]=.ok (.bool true,[.list (z.map tln)]):=by
 obtain⟨y,ny,e⟩:=zgf z z.length 0 .no zcw (by omega)
 have s1:sIf (FL.zbL (tE (m1 (zbP "list") 0))) (zay (eC (.bool false))) sNx [.ow true (.list (z.map tln)),.no]=.ok (.nx,[.ow true (.list (z.map tln)),.no]):=rfl
 have s2:zbn [.ow true (.list (z.map tln)),.no]=.ok (.nx,[.ow true (.list (z.map tln)),y]):=by
  unfold zbn zrm
  simp only [zh6,zz0,zac,List.length_map,e]
 show((zbS [.ow true (.list (z.map tln)),.no]).bind _)=_
 unfold zbS
 rw [zam s1,zam s2]
 rfl
theorem zlb{c:Int}{a b w:Sm}(h:zar [.int c,told a,told b]=.ok (told w))(ha:zai [dct a]=.ok (told a))(hb:zai [dct b]=.ok (told b))(hw:w.length<=1000):zbl [.int c,dct a,dct b,told w]=.ok (.bool true):=by
 have pw:Pl 3 (told w):=zf4 (zbH w)
 have pab:Pl 4 (.list [told a,told b]):=znd fun d hd=>by
  simp only [List.mem_cons,List.not_mem_nil,or_false] at hd
  rcases hd with rfl|rfl <;> exact zf4 _
 have l2:leB 2 lim=true:=by decide
 have l0:leB 0 lim=true:=by decide
 have li1:zcz (told a)=.ok (told a):=rfl
 have li2:zcz (told b)=.ok (told b):=rfl
 have isl:za6 [told w]=.ok (.bool true,[told w]):=znV (zbH w)
 have nw:=ne_self pw
 have ew:=eq_self pw
 have nab:=ne_self pab
 have eab:=eq_self pab
 have lw:(zbH w).length<=1000:=by rw [(zaG w).length_eq];exact hw
 have ap:zoD ((zbH w).map tln) (.tuple [.tuple [],.tuple [.int 7,.int 1]])=.ok ((zbH w).map tln++[.tuple [.tuple [],.tuple [.int 7,.int 1]]]):=by
  unfold zoD
  rw [zaz (zec (by rw [List.length_map];unfold lim;omega))]
 generalize hA:told a=A at *
 generalize hB:told b=B at *
 generalize dct a=da at *
 generalize dct b=db at *
 have ix0:ixD (.list [A,B]) (.int 0)=.ok A:=rfl
 have ix1:ixD (.list [A,B]) (.int 1)=.ok B:=rfl
 have s1:zaQ (gN 4) (zcF (zaa (zae zai (zaa (eV 1) zah)) (zaa (zae zai (zaa (eV 2) zah)) zah))) [.val (.int c),.val da,.val db,.val (told w),.no,.no,.no]=.ok (.nx,[.val (.int c),.val da,.val db,.val (told w),.val (.list [A,B]),.no,.no]) :=
  zcp (y:=(.list [A,B],[.val (.int c),.val da,.val db,.val (told w),.no,.no,.no])) (by simp only [zcF,zae,zaa,zah,eV,zac,zz0,zz1,ha,hb,List.length_cons,List.length_nil,Nat.reduceAdd,zaz l2]) rfl zcw
 have s2:zaQ (gN 5) (zcF (zaa (FL.e1 zcz (e2 ixD (eV 4) (eC (.int 0)))) (zaa (FL.e1 zcz (e2 ixD (eV 4) (eC (.int 1)))) zah))) [.val (.int c),.val da,.val db,.val (told w),.val (.list [A,B]),.no,.no]=.ok (.nx,[.val (.int c),.val da,.val db,.val (told w),.val (.list [A,B]),.val (.list [A,B]),.no]) :=
  zcp (y:=(.list [A,B],[.val (.int c),.val da,.val db,.val (told w),.val (.list [A,B]),.no,.no])) (by simp only [zcF,FL.e1,FL.e2,zaa,zah,eV,eC,zac,zz0,zz1,ix0,ix1,li1,li2,List.length_cons,List.length_nil,Nat.reduceAdd,zaz l2]) rfl zcw
 have s3:zgU 6 (zae zar (zaa (eV 0) (zaa (e2 ixD (eV 4) (eC (.int 0))) (zaa (e2 ixD (eV 4) (eC (.int 1))) zah)))) [.val (.int c),.val da,.val db,.val (told w),.val (.list [A,B]),.val (.list [A,B]),.no]=.ok (.nx,[.val (.int c),.val da,.val db,.val (told w),.val (.list [A,B]),.val (.list [A,B]),.ow false (told w)]) :=
  zmR (y:=(told w,[.val (.int c),.val da,.val db,.val (told w),.val (.list [A,B]),.val (.list [A,B]),.no])) (by simp only [zae,FL.e2,zaa,zah,eV,eC,zac,zz0,zz1,ix0,ix1,h]) rfl zcw
 have cm:zak za6 [.m 6] [.val (.int c),.val da,.val db,.val (told w),.val (.list [A,B]),.val (.list [A,B]),.ow false (told w)]=.ok (.bool true,[.val (.int c),.val da,.val db,.val (told w),.val (.list [A,B]),.val (.list [A,B]),.ow false (told w)]):=zou (p:=false) (d:=told w) rfl isl
 have s4:sIf (FL.tOr (FL.zbL (tE (zak za6 [.m 6]))) (FL.tOr (tB (m2 neD 6 (eV 3))) (tB (e2 neD (eV 4) (eV 5))))) (zay (eC (.bool false))) sNx [.val (.int c),.val da,.val db,.val (told w),.val (.list [A,B]),.val (.list [A,B]),.ow false (told w)]=.ok (.nx,[.val (.int c),.val da,.val db,.val (told w),.val (.list [A,B]),.val (.list [A,B]),.ow false (told w)]):=by
  simp only [sIf,FL.tOr,FL.zbL,tE,tB,cm,FL.m2,zaw,FL.e2,eV,zac,zz0,zz1,zfE,Bool.not_true,Bool.false_eq_true,if_false,nw,nab,sNx]
 have s5:zoT 6 zoD (zbm (zaa (zbm zah) (zaa (zbm (zaa (eC (.int 7)) (zaa (eC (.int 1)) zah))) zah))) [.val (.int c),.val da,.val db,.val (told w),.val (.list [A,B]),.val (.list [A,B]),.ow false (.list ((zbH w).map tln))]=.ok (.nx,[.val (.int c),.val da,.val db,.val (told w),.val (.list [A,B]),.val (.list [A,B]),.ow false (.list ((zbH w).map tln++[.tuple [.tuple [],.tuple [.int 7,.int 1]]]))]):=by
  simp only [zoT,zcy,zbm,zaa,zah,eC,zac,zz0,zz1,List.length_cons,List.length_nil,Nat.reduceAdd,zaz l2,zaz l0,ap,zaN,List.set_cons_zero,List.set_cons_succ]
 have s5':zoT 6 zoD (zbm (zaa (zbm zah) (zaa (zbm (zaa (eC (.int 7)) (zaa (eC (.int 1)) zah))) zah))) [.val (.int c),.val da,.val db,.val (told w),.val (.list [A,B]),.val (.list [A,B]),.ow false (told w)]=.ok (.nx,[.val (.int c),.val da,.val db,.val (told w),.val (.list [A,B]),.val (.list [A,B]),.ow false (.list ((zbH w).map tln++[.tuple [.tuple [],.tuple [.int 7,.int 1]]]))]):=s5
 refine zcq (ρ:=[.val (.int c),.val da,.val db,.val (told w),.val (.list [A,B]),.val (.list [A,B]),.ow false (.list ((zbH w).map tln++[.tuple [.tuple [],.tuple [.int 7,.int 1]]]))]) rfl ?_
 show zb9 [.val (.int c),.val da,.val db,.val (told w),.no,.no,.no]=_
 unfold zb9
 rw [zam s1,zam s2,zam s3,zam s4,zam s5']
 simp only [zay,zhz,zae,FL.e2,zaa,zah,eV,eC,zac,zz0,zz1,ix0,ix1,h,ew,eab]
theorem zuQ(t:Sm):Eqv (zaX [([],1)] t) t:=fun f=>by
 rw [zek,zaO,zej]
 show ev (fun v=>f v) t*1+0=ev f t
 grind
theorem zsD(t:Sm):Eqv (zaX t [([],1)]) t:=fun f=>by
 rw [zek]
 congr 1
 funext u
 rw [zaO,zej]
 show f (u++[])*1+0=f u
 rw [List.append_nil]
 grind
theorem zsf(t:Sm):told (zaX t [])=.list []:=by
 have:Eqv (zaX t []) []:=fun f=>by
  rw [zek,zej]
  have:∀ t:Sm,ev (fun u=>ev (fun v=>f (u++v)) []) t=0:=fun t=>by
   induction t with
   | nil=>rfl
   | cons p t ih=>rw [zaO,ih,zej];grind
  exact this t
 unfold told
 rw [this.told (zfb _ _) (show Nk [] from List.nodup_nil) (zfa _ _) (fun p hp=>by simp at hp)]
 rfl
theorem zpA{c:Int}{m:Nat}{b:Sm}(h1:1<=c)(h4:c<=4)(hb:Sg c m 14 4 b)(zb:Nz b)(hm:m<=5):zbA [.int c,told b]=.ok (.bool true):=by
 have so:Sg c 0 14 4 [([],1)]:=⟨by simp [Nk],fun p hp=>by
   have:p=([],1):=by simpa using hp
   subst this
   exact⟨by simp,fun x hx=>by simp at hx,by decide⟩,fun p hp=>by
   have:p=([],1):=by simpa using hp
   subst this
   exact Nat.le_refl _,fun p hp=>by
   have:p=([],1):=by simpa using hp
   subst this
   exact⟨by decide,by decide⟩,by simp⟩
 have sn:Sg c 0 14 4 []:=⟨List.nodup_nil,fun p hp=>by simp at hp,fun p hp=>by simp at hp,fun p hp=>by simp at hp,by simp⟩
 have j1:=(zqA h1 h4 so hb (by omega)).1
 have j2:=(zqA h1 h4 hb so (by omega)).1
 have j3:=(zqA h1 h4 sn hb (by omega)).1
 have j4:=(zqA h1 h4 hb sn (by omega)).1
 rw [zfF (zfb _ _) hb.nk (zfa _ _) zb (zuQ b)] at j1
 rw [zfF (zfb _ _) hb.nk (zfa _ _) zb (zsD b)] at j2
 rw [zsf] at j4
 have t1:told [([],1)]=.list [.tuple [.tuple [],.tuple [.int 1,.int 1]]]:=rfl
 have t0:told []=.list []:=rfl
 have t2:told (zaX [] b)=.list []:=rfl
 rw [t1] at j1 j2
 rw [t0] at j3 j4
 rw [t2] at j3
 have nb:=ne_self (zf4 (zbH b))
 have nb:neD (told b) (told b)=.ok (.bool false):=nb
 have en:eqD (.list []) (.list [])=.ok (.bool true):=rfl
 have li:zcz (told b)=.ok (told b):=rfl
 have l1:leB 1 lim=true:=by decide
 have l2:leB 2 lim=true:=by decide
 have l0:leB 0 lim=true:=by decide
 generalize told b=B at *
 have s1:zaQ (gN 2) (zcF (zaa (zbm (zaa (zbm zah) (zaa (zbm (zaa (eC (.int 1)) (zaa (eC (.int 1)) zah))) zah))) zah)) [.val (.int c),.val B,.no]=.ok (.nx,[.val (.int c),.val B,.val (.list [.tuple [.tuple [],.tuple [.int 1,.int 1]]])]):=rfl
 have s2:sIf (FL.tOr (tB (e2 neD (zae zar (zaa (eV 0) (zaa (eV 2) (zaa (FL.e1 zcz (eV 1)) zah)))) (eV 1))) (tB (e2 neD (zae zar (zaa (eV 0) (zaa (FL.e1 zcz (eV 1)) (zaa (eV 2) zah)))) (eV 1)))) (zay (eC (.bool false))) sNx [.val (.int c),.val B,.val (.list [.tuple [.tuple [],.tuple [.int 1,.int 1]]])]=.ok (.nx,[.val (.int c),.val B,.val (.list [.tuple [.tuple [],.tuple [.int 1,.int 1]]])]):=by
  simp only [sIf,FL.tOr,tB,FL.e1,FL.e2,zae,zaa,zah,eV,eC,zac,zz0,zz1,li,j1,j2,nb,Bool.false_eq_true,if_false,sNx]
 refine zcq (ρ:=[.val (.int c),.val B,.val (.list [.tuple [.tuple [],.tuple [.int 1,.int 1]]])]) rfl ?_
 show za5 [.val (.int c),.val B,.no]=_
 unfold za5
 rw [zam s1,zam s2]
 simp only [zay,zhz,zae,FL.e1,FL.e2,zcF,zaa,zah,eV,eC,zac,zz0,zz1,List.length_nil,zaz l0,li,j3,j4,en]
end
section
abbrev Ev(S:Sl)(x1 x2 x3 x4 x5 x6 x7 x8 x9 x10:Sl):En:=[S,x1,x2,x3,x4,x5,x6,x7,x8,x9,x10]
theorem zsL{F:List D->R (D×List D)}{i:Nat}{f h j:EF}{ρ:En}{p:Bool}{d v u z r d' v' u' z':D}(hi:ρ[i]?=some (.ow p d))(hf:f ρ=.ok (v,ρ))(hh:h ρ=.ok (u,ρ))(hj:j ρ=.ok (z,ρ))(hF:F [d,v,u,z]=.ok (r,[d',v',u',z'])):zak F [.m i,.v f,.v h,.v j] ρ=.ok (r,ρ.set i (.ow p d')):=by
 have hm:zaw ρ i=.ok d:=by unfold zaw;rw [hi]
 unfold zak
 simp only [zgR,hm,zac,hf,hh,hj,zfA,hF]
 have:=ziE (d:=d) (d':=d') (p:=p) ρ 0 i hi
 rw [Nat.zero_add] at this
 show R.ok (r,bkL [(i,.ow true d')] 0 ρ)=_
 rw [this]
theorem Dr.sg{c:Int}{n:Nat}{s:Sm}(h:Dr c 4 s)(hn:∀ p∈s,(p.1.length:Int)<=(n:Int)):Sg c n 14 4 s:=⟨h.nk,h.wk,fun p hp=>by have:=hn p hp;omega,h.bd,h.ln⟩
theorem zeS{S x1 x5 x6 x7 x8 x9 x10:Sl}{d d' Z:D}{c m:Int}{s:Sm}{xs acc:List D}(e:zbk [d,.int c,.int 4,.int m]=.ok (dct s,[d',.int c,.int 4,.int m]))(hl:acc.length<100) :
  zdS 1 [2,3] (gN 0) zbE (zak zbk [.m 1,.v (eV 2),.v (eC (.int 4)),.v (eV 0)]) (.int m::xs) (Ev S x1 (.ow false d) (.val (.int c)) (.val Z) x5 x6 x7 x8 x9 x10) acc =
  zdS 1 [2,3] (gN 0) zbE (zak zbk [.m 1,.v (eV 2),.v (eC (.int 4)),.v (eV 0)]) xs (Ev S x1 (.ow false d') (.val (.int c)) (.val Z) x5 x6 x7 x8 x9 x10) (acc++[dct s]):=by
 have cm:zak zbk [.m 1,.v (eV 2),.v (eC (.int 4)),.v (eV 0)] [.val (.int m),.ow false d,.val (.int c)]=.ok (dct s,[.val (.int m),.ow false d',.val (.int c)]):=zsL (p:=false) (d:=d) rfl rfl rfl rfl e
 show(gN 0 (.int m) [.no,.ow false d,.val (.int c)]).bind _=_
 have g0:gN 0 (.int m) [.no,.ow false d,.val (.int c)]=.ok [.val (.int m),.ow false d,.val (.int c)]:=rfl
 rw [g0,zac]
 show(R.ok (true,[Sl.val (.int m),.ow false d,.val (.int c)])).bind _=_
 rw [zac]
 show(zak zbk [.m 1,.v (eV 2),.v (eC (.int 4)),.v (eV 0)] [.val (.int m),.ow false d,.val (.int c)]).bind _=_
 rw [cm,zac,zaz (zec (by unfold lim;omega))]
 have eb:back (Ev S x1 (.ow false d) (.val (.int c)) (.val Z) x5 x6 x7 x8 x9 x10) [2,3] [.ow false d',.val (.int c)]=Ev S x1 (.ow false d') (.val (.int c)) (.val Z) x5 x6 x7 x8 x9 x10:=by
  have n:∀(i:Nat) (x:Sl),([2,3].zip [Sl.ow false d',Sl.val (.int c)]).lookup i=none->bk1 ([2,3].zip [Sl.ow false d',Sl.val (.int c)]) i x=x:=fun i x h=>zlP h
  show [bk1 _ 0 S,bk1 _ 1 x1,.ow false d',.val (.int c),.val Z,bk1 _ 5 x5,bk1 _ 6 x6,bk1 _ 7 x7,bk1 _ 8 x8,bk1 _ 9 x9,bk1 _ 10 x10]=_
  rw [n 0 _ rfl,n 1 _ rfl,n 5 _ rfl,n 6 _ rfl,n 7 _ rfl,n 8 _ rfl,n 9 _ rfl,n 10 _ rfl]
 show zdS _ _ _ _ _ xs (back (Ev S x1 (.ow false d) (.val (.int c)) (.val Z) x5 x6 x7 x8 x9 x10) [2,3] [.ow false d',.val (.int c)]) _=_
 rw [eb]
theorem zo8{n:Int}(n0:0<=n)(n7:n<7):∃ a b c:Nat,a+b+c=5/\ixD (.list [.tuple [.int 2,.int 2,.int 1],.tuple [.int 1,.int 1,.int 3],.tuple [.int 5,.int 0,.int 0],.tuple [.int 0,.int 5,.int 0],.tuple [.int 1,.int 3,.int 1],.tuple [.int 3,.int 1,.int 1],.tuple [.int 2,.int 3,.int 0]]) (.int n)=.ok (.tuple [.int a,.int b,.int c]):=by
 have:n=0\/n=1\/n=2\/n=3\/n=4\/n=5\/n=6:=by omega
 rcases this with rfl|rfl|rfl|rfl|rfl|rfl|rfl
 ·exact⟨2,2,1,rfl,rfl⟩
 ·exact⟨1,1,3,rfl,rfl⟩
 ·exact⟨5,0,0,rfl,rfl⟩
 ·exact⟨0,5,0,rfl,rfl⟩
 ·exact⟨1,3,1,rfl,rfl⟩
 ·exact⟨3,1,1,rfl,rfl⟩
 ·exact⟨2,3,0,rfl,rfl⟩
theorem zsJ(S:Sl)(k:Int){x2 x3 x4 x5 x6 x7 x8 x9 x10:Sl}(n2:Np x2)(n3:Np x3)(n4:Np x4)(n5:Np x5)(n6:Np x6)(n7:Np x7)(n8:Np x8)(n9:Np x9)(n10:Np x10) :
  ∃ y2 y3 y4 y5 y6 y7 y8 y9 y10,Np y2/\Np y3/\Np y4/\Np y5/\Np y6/\Np y7/\Np y8/\Np y9/\Np y10/\zeF (Ev S (.val (.int k)) x2 x3 x4 x5 x6 x7 x8 x9 x10)=.ok (.nx,Ev S (.val (.int k)) y2 y3 y4 y5 y6 y7 y8 y9 y10):=by
 obtain⟨d,ed,pd⟩:=zpu k 46 (by decide)
 obtain⟨n,d1,t1,n0,n1,p1⟩:=zco pd (by decide) 4 (by decide) (by decide)
 obtain⟨v,d2,t2,v0,v1,p2⟩:=zco p1 (by decide) 7 (by decide) (by decide)
 obtain⟨la,lb,lc,hs5,ez⟩:=zo8 v0 v1
 obtain⟨a,d3,ea,dra,lna,p3⟩:=zkb p2 (by omega) (c:=1+n) (m:=la) (by omega) (by omega) (by omega) (by omega)
 obtain⟨b,d4,eb,drb,lnb,p4⟩:=zkb p3 (by omega) (c:=1+n) (m:=lb) (by omega) (by omega) (by omega) (by omega)
 obtain⟨c,d5,ec,drc,lnc,p5⟩:=zkb p4 (by omega) (c:=1+n) (m:=lc) (by omega) (by omega) (by omega) (by omega)
 have h1:1<=1+n:=by omega
 have h4:1+n<=4:=by omega
 have sa:=Dr.sg dra lna
 have sb:=Dr.sg drb lnb
 have sc:=Dr.sg drc lnc
 have nz:∀{s:Sm},Dr (1+n) 4 s->Nz s:=fun h p hp=>(h.wk p hp).nz
 have tl:∀{s:Sm},Nk s->s.length<=64->zai [dct s]=.ok (told s):=fun nk h=>by rw [zrd];exact zpO nk (by omega)
 have ta:=tl sa.nk (by have:=sa.ln;omega)
 have tb:=tl sb.nk (by have:=sb.ln;omega)
 have tc:=tl sc.nk (by have:=sc.ln;omega)
 obtain⟨jab,fab,sab⟩:=zqA h1 h4 sa sb (by omega)
 obtain⟨jba,fba,sba⟩:=zqA h1 h4 sb sa (by omega)
 obtain⟨jbc,fbc,sbc⟩:=zqA h1 h4 sb sc (by omega)
 obtain⟨jabc,fabc,labc⟩:=zwW h1 h4 sab sc (by omega) (by decide) (by decide) (by decide) (by decide)
 obtain⟨jabc',_,_⟩:=zwW h1 h4 sa sbc (by omega) (by decide) (by decide) (by decide) (by decide)
 have has:told (zaX a (zaX b c))=told (zaX (zaX a b) c):=zfF (zfb _ _) (zfb _ _) (zfa _ _) (zfa _ _) (Eqv.assoc a b c).symm
 rw [has] at jabc'
 have tab:=tl sab.nk (by have:=sab.ln;omega)
 have tba:=tl sba.nk (by have:=sba.ln;omega)
 have tabc:=tl (zfb (zaX a b) c) labc
 have r1:=zlb jab ta tb (by have:=sab.ln;omega)
 have r2:=zlb jba tb ta (by have:=sba.ln;omega)
 have pw:=zpA h1 h4 sb (nz drb) (by omega)
 have nabc:neD (told (zaX (zaX a b) c)) (told (zaX (zaX a b) c))=.ok (.bool false):=ne_self (zf4 _)
 have ad:za0 (.int 1) (.int n)=.ok (.int (1+n)):=rfl
 have haa:ltD (.int la) (.int 3)=.ok (.bool false)\/(ltD (.int la) (.int 3)=.ok (.bool true)/\zar [.int (1+n),told a,told a]=.ok (told (zaX a a))/\zaq [dct a,dct a]=.ok (dct (zaX a a))/\zai [dct (zaX a a)]=.ok (told (zaX a a))):=by
  by_cases q:(la:Int)<3
  ·obtain⟨j,f,sg⟩:=zqA h1 h4 sa sa (by omega)
   exact .inr ⟨by rw [zga,decide_eq_true q],j,f,tl sg.nk (by have:=sg.ln;omega)⟩
  ·exact .inl (by rw [zga,decide_eq_false q])
 have naa:neD (told (zaX a a)) (told (zaX a a))=.ok (.bool false):=ne_self (zf4 _)
 have l7:leB 7 lim=true:=by decide
 rw [<- zpv] at ed
 rw [<- zre] at t1 t2
 rw [<- ztc] at ea eb ec
 generalize hZ:PyData.tuple [.int la,.int lb,.int lc]=Z at ez
 have s1:zgU 2 (zae zcb (zaa (eV 1) (zaa (eC (.int 46)) zah))) (Ev S (.val (.int k)) x2 x3 x4 x5 x6 x7 x8 x9 x10)=.ok (.nx,Ev S (.val (.int k)) (.ow false d) x3 x4 x5 x6 x7 x8 x9 x10) :=
  zmR (y:=(d,Ev S (.val (.int k)) x2 x3 x4 x5 x6 x7 x8 x9 x10)) (by simp only [zae,zaa,zah,eV,eC,zac,zz0,zz1,ed]) rfl n2
 have s2:zaQ (gN 3) (e2 za0 (eC (.int 1)) (zak zav [.m 2,.v (eC (.int 4))])) (Ev S (.val (.int k)) (.ow false d) x3 x4 x5 x6 x7 x8 x9 x10)=.ok (.nx,Ev S (.val (.int k)) (.ow false d1) (.val (.int (1+n))) x4 x5 x6 x7 x8 x9 x10):=by
  have cm:zak zav [.m 2,.v (eC (.int 4))] (Ev S (.val (.int k)) (.ow false d) x3 x4 x5 x6 x7 x8 x9 x10)=.ok (.int n,Ev S (.val (.int k)) (.ow false d1) x3 x4 x5 x6 x7 x8 x9 x10):=zgw (p:=false) (d:=d) rfl rfl t1
  exact zcp (y:=(.int (1+n),Ev S (.val (.int k)) (.ow false d1) x3 x4 x5 x6 x7 x8 x9 x10)) (by
   unfold FL.e2
   rw [show eC (.int 1) (Ev S (.val (.int k)) (.ow false d) x3 x4 x5 x6 x7 x8 x9 x10)=.ok (.int 1,Ev S (.val (.int k)) (.ow false d) x3 x4 x5 x6 x7 x8 x9 x10) from rfl,zac,cm,zac,ad];rfl) rfl n3
 have s3:zaQ (gN 4) (e2 ixD (zcF (aCs [(.tuple [(.int 2),(.int 2),(.int 1)]),(.tuple [(.int 1),(.int 1),(.int 3)]),(.tuple [(.int 5),(.int 0),(.int 0)]),(.tuple [(.int 0),(.int 5),(.int 0)]),(.tuple [(.int 1),(.int 3),(.int 1)]),(.tuple [(.int 3),(.int 1),(.int 1)]),(.tuple [(.int 2),(.int 3),(.int 0)])])) (zak zav [.m 2,.v (eC (.int 7))])) (Ev S (.val (.int k)) (.ow false d1) (.val (.int (1+n))) x4 x5 x6 x7 x8 x9 x10)=.ok (.nx,Ev S (.val (.int k)) (.ow false d2) (.val (.int (1+n))) (.val Z) x5 x6 x7 x8 x9 x10):=by
  have cm:zak zav [.m 2,.v (eC (.int 7))] (Ev S (.val (.int k)) (.ow false d1) (.val (.int (1+n))) x4 x5 x6 x7 x8 x9 x10)=.ok (.int v,Ev S (.val (.int k)) (.ow false d2) (.val (.int (1+n))) x4 x5 x6 x7 x8 x9 x10):=zgw (p:=false) (d:=d1) rfl rfl t2
  exact zcp (y:=(Z,Ev S (.val (.int k)) (.ow false d2) (.val (.int (1+n))) x4 x5 x6 x7 x8 x9 x10)) (by
   simp only [FL.e2,zcF,aCs,zac,List.length_cons,List.length_nil,Nat.reduceAdd,zaz l7,cm,ez]) rfl n4
 have hq:zfZ (Ev S (.val (.int k)) (.ow false d2) (.val (.int (1+n))) (.val Z) x5 x6 x7 x8 x9 x10)=.ok (.list [dct a,dct b,dct c],Ev S (.val (.int k)) (.ow false d5) (.val (.int (1+n))) (.val Z) x5 x6 x7 x8 x9 x10):=by
  unfold zfZ zcG
  have hi:iE (eV 4) (Ev S (.val (.int k)) (.ow false d2) (.val (.int (1+n))) (.val Z) x5 x6 x7 x8 x9 x10)=.ok ([.int la,.int lb,.int lc],Ev S (.val (.int k)) (.ow false d2) (.val (.int (1+n))) (.val Z) x5 x6 x7 x8 x9 x10):=by
   rw [<- hZ];rfl
  rw [hi,zac]
  show(zdS _ _ _ _ _ [.int la,.int lb,.int lc] (Ev S (.val (.int k)) (.ow false d2) (.val (.int (1+n))) (.val Z) x5 x6 x7 x8 x9 x10) []).bind _=_
  rw [zeS ea (by simp),zeS eb (by simp),zeS ec (by simp)]
  rfl
 have s4:zaQ (gL [gN 5,gN 6,gN 7]) zfZ (Ev S (.val (.int k)) (.ow false d2) (.val (.int (1+n))) (.val Z) x5 x6 x7 x8 x9 x10)=.ok (.nx,Ev S (.val (.int k)) (.ow false d5) (.val (.int (1+n))) (.val Z) (.val (dct a)) (.val (dct b)) (.val (dct c)) x8 x9 x10):=by
  unfold zaQ
  rw [hq,zac]
  show((gN 5 (dct a) (Ev S (.val (.int k)) (.ow false d5) (.val (.int (1+n))) (.val Z) x5 x6 x7 x8 x9 x10)).bind fun ρ1=>(gN 6 (dct b) ρ1).bind fun ρ2=>(gN 7 (dct c) ρ2).bind fun ρ3=>zkE [] [] ρ3).bind _=_
  rw [ziu (x:=x5) rfl n5,zac,ziu (x:=x6) rfl n6,zac,ziu (x:=x7) rfl n7,zac]
  rfl
 generalize dct a=A at *
 generalize dct b=B at *
 generalize dct c=C at *
 generalize dct (zaX a b)=AB at *
 have z0:ixD Z (.int 0)=.ok (.int la):=by rw [<- hZ];rfl
 have s5:zaQ (gN 8) (zae zaq (zaa (eV 5) (zaa (eV 6) zah))) (Ev S (.val (.int k)) (.ow false d5) (.val (.int (1+n))) (.val Z) (.val A) (.val B) (.val C) x8 x9 x10)=.ok (.nx,Ev S (.val (.int k)) (.ow false d5) (.val (.int (1+n))) (.val Z) (.val A) (.val B) (.val C) (.val AB) x9 x10) :=
  zcp (y:=(AB,Ev S (.val (.int k)) (.ow false d5) (.val (.int (1+n))) (.val Z) (.val A) (.val B) (.val C) x8 x9 x10)) (by simp only [zae,zaa,zah,eV,zac,zz0,zz1,fab]) rfl n8
 have s6:sIf (FL.zbL (tE (zae zbl (zaa (eV 3) (zaa (eV 5) (zaa (eV 6) (zaa (zae zai (zaa (eV 8) zah)) zah))))))) (zay (eC (.bool false))) sNx (Ev S (.val (.int k)) (.ow false d5) (.val (.int (1+n))) (.val Z) (.val A) (.val B) (.val C) (.val AB) x9 x10)=.ok (.nx,Ev S (.val (.int k)) (.ow false d5) (.val (.int (1+n))) (.val Z) (.val A) (.val B) (.val C) (.val AB) x9 x10):=by
  simp only [sIf,FL.zbL,tE,zae,zaa,zah,eV,zac,zz0,zz1,tab,r1,zfE,Bool.not_true,Bool.false_eq_true,if_false,sNx]
 have s7:sIf (FL.zbL (tE (zae zbl (zaa (eV 3) (zaa (eV 6) (zaa (eV 5) (zaa (zae zai (zaa (zae zaq (zaa (eV 6) (zaa (eV 5) zah))) zah)) zah))))))) (zay (eC (.bool false))) sNx (Ev S (.val (.int k)) (.ow false d5) (.val (.int (1+n))) (.val Z) (.val A) (.val B) (.val C) (.val AB) x9 x10)=.ok (.nx,Ev S (.val (.int k)) (.ow false d5) (.val (.int (1+n))) (.val Z) (.val A) (.val B) (.val C) (.val AB) x9 x10):=by
  simp only [sIf,FL.zbL,tE,zae,zaa,zah,eV,zac,zz0,zz1,fba,tba,r2,zfE,Bool.not_true,Bool.false_eq_true,if_false,sNx]
 have s8:zaQ (gN 9) (zae zai (zaa (eV 5) zah)) (Ev S (.val (.int k)) (.ow false d5) (.val (.int (1+n))) (.val Z) (.val A) (.val B) (.val C) (.val AB) x9 x10)=.ok (.nx,Ev S (.val (.int k)) (.ow false d5) (.val (.int (1+n))) (.val Z) (.val A) (.val B) (.val C) (.val AB) (.val (told a)) x10) :=
  zcp (y:=(told a,Ev S (.val (.int k)) (.ow false d5) (.val (.int (1+n))) (.val Z) (.val A) (.val B) (.val C) (.val AB) x9 x10)) (by simp only [zae,zaa,zah,eV,zac,zz0,zz1,ta]) rfl n9
 have s9:sIf (FL.zmy (tB (e2 ltD (e2 ixD (eV 4) (eC (.int 0))) (eC (.int 3)))) (tB (e2 neD (zae zar (zaa (eV 3) (zaa (eV 9) (zaa (eV 9) zah)))) (zae zai (zaa (zae zaq (zaa (eV 5) (zaa (eV 5) zah))) zah))))) (zay (eC (.bool false))) sNx (Ev S (.val (.int k)) (.ow false d5) (.val (.int (1+n))) (.val Z) (.val A) (.val B) (.val C) (.val AB) (.val (told a)) x10)=.ok (.nx,Ev S (.val (.int k)) (.ow false d5) (.val (.int (1+n))) (.val Z) (.val A) (.val B) (.val C) (.val AB) (.val (told a)) x10):=by
  rcases haa with q|⟨q,j,f,t⟩
  ·simp only [sIf,FL.zmy,tB,FL.e2,eV,eC,zac,zz0,zz1,z0,q,Bool.false_eq_true,if_false,sNx]
  ·simp only [sIf,FL.zmy,tB,FL.e2,zae,zaa,zah,eV,eC,zac,zz0,zz1,z0,q,j,f,t,naa,Bool.false_eq_true,if_false,if_true,sNx]
 have s10:zaQ (gN 10) (zae zar (zaa (eV 3) (zaa (zae zar (zaa (eV 3) (zaa (eV 9) (zaa (zae zai (zaa (eV 6) zah)) zah)))) (zaa (zae zai (zaa (eV 7) zah)) zah)))) (Ev S (.val (.int k)) (.ow false d5) (.val (.int (1+n))) (.val Z) (.val A) (.val B) (.val C) (.val AB) (.val (told a)) x10)=.ok (.nx,Ev S (.val (.int k)) (.ow false d5) (.val (.int (1+n))) (.val Z) (.val A) (.val B) (.val C) (.val AB) (.val (told a)) (.val (told (zaX (zaX a b) c)))) :=
  zcp (y:=(told (zaX (zaX a b) c),Ev S (.val (.int k)) (.ow false d5) (.val (.int (1+n))) (.val Z) (.val A) (.val B) (.val C) (.val AB) (.val (told a)) x10)) (by simp only [zae,zaa,zah,eV,zac,zz0,zz1,tb,tc,jab,jabc]) rfl n10
 have s11:sIf (tB (e2 neD (zae zar (zaa (eV 3) (zaa (eV 9) (zaa (zae zar (zaa (eV 3) (zaa (zae zai (zaa (eV 6) zah)) (zaa (zae zai (zaa (eV 7) zah)) zah)))) zah)))) (eV 10))) (zay (eC (.bool false))) sNx (Ev S (.val (.int k)) (.ow false d5) (.val (.int (1+n))) (.val Z) (.val A) (.val B) (.val C) (.val AB) (.val (told a)) (.val (told (zaX (zaX a b) c))))=.ok (.nx,Ev S (.val (.int k)) (.ow false d5) (.val (.int (1+n))) (.val Z) (.val A) (.val B) (.val C) (.val AB) (.val (told a)) (.val (told (zaX (zaX a b) c)))):=by
  simp only [sIf,tB,FL.e2,zae,zaa,zah,eV,zac,zz0,zz1,tb,tc,jbc,jabc',nabc,Bool.false_eq_true,if_false,sNx]
 refine⟨_,_,_,_,_,_,_,_,_,zwf _,zbv _,zbv _,zbv _,zbv _,zbv _,zbv _,zbv _,zbv _,(?_:zeF _=.ok (.nx,Ev S (.val (.int k)) (.ow false d5) (.val (.int (1+n))) (.val Z) (.val A) (.val B) (.val C) (.val AB) (.val (told a)) (.val (told (zaX (zaX a b) c)))))⟩
 unfold zeF
 rw [zam s1,zam s2,zam s3,zam s4,zam s5,zam s6,zam s7,zam s8,zam s9,zam s10,zam s11]
 simp only [sIf,FL.tOr,FL.zbL,tB,tE,FL.e2,zae,zaa,zah,eV,zac,zz0,zz1,fabc,tabc,tb,pw,nabc,zfE,Bool.not_true,Bool.false_eq_true,if_false,sNx]
theorem zpR(ns:List Int)(hl:ns.length<=63):zoQ [.list (ns.map PyData.int)]=.ok (.bool true):=by
 obtain⟨a,ea⟩:=zwH ns 1 (by decide) (by decide)
 rw [<- zwI] at ea
 obtain⟨ρ',e,_⟩:=zei (f:=fun i:Int=>PyData.int i) (g:=gN 1) (b:=zeF)
  (fun done ρ=>∃ y1 y2 y3 y4 y5 y6 y7 y8 y9 y10,Np y1/\Np y2/\Np y3/\Np y4/\Np y5/\Np y6/\Np y7/\Np y8/\Np y9/\Np y10/\ρ=Ev (.val (.list (ns.map PyData.int))) y1 y2 y3 y4 y5 y6 y7 y8 y9 y10)
  (cut ns none (some 4)++[a]) [] (Ev (.val (.list (ns.map PyData.int))) .no .no .no .no .no .no .no .no .no .no) ⟨.no,.no,.no,.no,.no,.no,.no,.no,.no,.no,zcw,zcw,zcw,zcw,zcw,zcw,zcw,zcw,zcw,zcw,rfl⟩ (by
   rintro pre i post ρ e ⟨y1,y2,y3,y4,y5,y6,y7,y8,y9,y10,h1,h2,h3,h4,h5,h6,h7,h8,h9,h10,rfl⟩
   obtain⟨z2,z3,z4,z5,z6,z7,z8,z9,z10,m2,m3,m4,m5,m6,m7,m8,m9,m10,et⟩:=zsJ (.val (.list (ns.map PyData.int))) i h2 h3 h4 h5 h6 h7 h8 h9 h10
   exact⟨_,.nx,by rw [ziu (x:=y1) rfl h1,zac];exact et,.inl rfl,_,z2,z3,z4,z5,z6,z7,z8,z9,z10,zbv _,m2,m3,m4,m5,m6,m7,m8,m9,m10,rfl⟩)
 have l1:leB 1 lim=true:=by decide
 have sl:zd1 (.list (ns.map PyData.int)) none (some 4)=.ok (.list ((cut ns none (some 4)).map PyData.int)):=by
  show R.ok (PyData.list (cut (ns.map PyData.int) none (some 4)))=_
  rw [zsn]
 have ad:za0 (.list ((cut ns none (some 4)).map PyData.int)) (.list [.int a])=.ok (.list ((cut ns none (some 4)++[a]).map PyData.int)):=by
  show chk (leB (((cut ns none (some 4)).map PyData.int).length+1) lim) _=_
  rw [zaz (zec (by
   rw [List.length_map]
   have:(cut ns none (some 4)).length<=ns.length:=by unfold cut;rw [List.length_take,List.length_drop];omega
   show _<=1000000;omega)),List.map_append]
  rfl
 have s1:zhY (Ev (.val (.list (ns.map PyData.int))) .no .no .no .no .no .no .no .no .no .no)=.ok (.nx,ρ'):=by
  unfold zhY zfY
  have hi:iE (e2 za0 (eSl (eV 0) zic (zib (eC (.int 4)))) (zcF (zaa (zae zeD (zaa (eV 0) (zaa (eC (.int 1)) zah))) zah))) (Ev (.val (.list (ns.map PyData.int))) .no .no .no .no .no .no .no .no .no .no)=.ok ((cut ns none (some 4)++[a]).map PyData.int,Ev (.val (.list (ns.map PyData.int))) .no .no .no .no .no .no .no .no .no .no):=by
   simp only [iE,FL.e2,eSl,zic,zib,zcF,zae,zaa,zah,eV,eC,zac,zz0,sl,ea,List.length_cons,List.length_nil,Nat.reduceAdd,zaz l1,ad,zee]
  rw [hi,zac]
  exact e
 refine zcq (ρ:=ρ') rfl ?_
 show zqi (Ev (.val (.list (ns.map PyData.int))) .no .no .no .no .no .no .no .no .no .no)=_
 unfold zqi
 rw [zam s1]
 rfl
end
end K46
open PySem PySem.W PyProof.Rows
theorem PySem.W.Fast.tw9523224801474589537 : True := trivial
theorem PySem.W.Fast.tw18157325508499910850 : True := trivial
theorem PySem.W.Fast.tw9892853499217000261 : True := trivial
theorem PySem.W.Fast.tw13128435413713346215 : True := trivial
theorem PySem.W.Fast.tw16481048596221726862 : True := trivial
theorem PySem.W.Fast.tw13228636131523398578 : True := trivial
theorem PySem.W.Fast.tw14642871592460674934 : True := trivial
theorem PySem.W.Fast.tw14717845188093738424 : True := trivial
theorem PySem.W.Fast.tw12972394598308312924 : True := trivial
theorem PySem.W.Fast.tw5493717369755813725 : True := trivial
theorem PySem.W.Fast.tw16095957382969721725 : True := trivial
set_option maxRecDepth 100000 in
set_option maxHeartbeats 0 in
theorem PySem.Challenge.cw_swaprest_k46_letters_joined_holds : PySem.Challenge.rw_swaprest_k46_letters_joined.Holds := by
 w_on; o_law; k_head; (case hw => w_witness2)
 k_fill
 refine K46.walk (l:=PySem.Challenge.rw_swaprest_k46_letters_joined) K46.zpR rfl rfl (by decide +kernel) rfl (fun w h Y => PySem.W.kIn_of Y) ?F
 case F =>
  intro w mg fa h KX G hmg
  refine' K46.all_mk KX G hmg ?oo0 ?oo1 ?oo2 ?oo3 ?oo4 ?oo5 ?oo6 ?oo7 ?oo8 ?oo9 ?oo10 ?oo11 ?oo12 ?oo13 ?oo14 ?oo15 ?oo16 ?oo17 ?oo18 ?oo19 ?oo20 ?oo21 ?oo22 ?oo23 ?oo24 ?oo25 ?oo26 ?oo27 ?oo28 ?oo29 ?oo30 ?oo31 ?oo32 ?oo33 ?oo34 ?oo35 ?oo36 ?oo37 ?oo38 ?oo39 ?oo40 ?oo41 ?oo42 ?oo43 ?oo44 ?oo45 ?oo46 ?oo47 ?oo48 ?oo49 ?oo50 ?oo51 ?oo52 ?oo53 ?oo54 ?oo55 ?oo56 ?oo57
  (case oo0 | oo1 | oo2 | oo3 | oo4 | oo5 | oo6 | oo7 | oo8 | oo9 | oo10 | oo11 | oo12 | oo13 | oo14 | oo15 | oo16 | oo17 | oo18 | oo19 | oo20 | oo21 | oo22 | oo23 | oo24 | oo25 | oo26 | oo27 | oo28 | oo29 | oo30 | oo31 | oo32 | oo33 | oo34 | oo35 => refine' FL.zuF KX G ?Zq ?Zl ?Zc ?Zk; (case Zq => k_is); (case Zl => k_is); (case Zc => k_is); (case Zk => k_is))
  (case oo36 | oo37 | oo38 | oo39 | oo40 | oo41 | oo42 | oo43 | oo44 | oo45 | oo46 | oo47 | oo48 | oo49 | oo50 | oo51 | oo52 | oo53 | oo54 | oo55 | oo56 | oo57 => k_is)
