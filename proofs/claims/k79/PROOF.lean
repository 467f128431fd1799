import PyProof.Rows.All
import Wide.All
import OpenK.AllK
import Wide.FinOn
import Lean
import PyProof.EqAt
import PyProof.EqKinds
import PyProof.TupleCall
import PyProof.EqLayable
import PyProof.StationsW
import PyProof.NsDelKeeps
import PyProof.ExcArgsOwn
import PyProof.ExcAttrAll.ValueError
import PyProof.ZipIter
import PyProof.EnumFor
import PyProof.EnumStmt
import PyProof.EnumMake
import PyProof.ConsumeWalk
import PyProof.Cells
import PyProof.CompUse
import PyProof.DictIter
import PyProof.DictWalks
import PyProof.CollectWalk
import PyProof.WalksS
import PyProof.P3Statements
import PyProof.DictRoadsH
import KE.KSortTup
import PyProof.P3In
import KE.KRevSl
import PyProof.ReprReads
import KE.KMinKey
import PyProof.ReprRoads
import PyProof.Conv_int_bool
import PyProof.AutoListH
import PyProof.StrCalls
import PyProof.StrCalls2
import PyProof.MeetsStr
import PyProof.StrBlock
import PyProof.FString
import PyProof.StrBlockI
import KE.KIntText
import PyProof.StrWalks
import PyProof.CallStr
import PyProof.StrLawsTight
import PyProof.Rows.StrJoinMade
import PyProof.Rows.StrDigitsNeg
import PyProof.Rows.StrJoin2
import PyProof.Rows.CatFin
import PySem.Challenge.RW_swaprest_k79_sum_texts
set_option Elab.async false
set_option linter.all false
set_option maxRecDepth 100000
set_option maxHeartbeats 4000000
namespace L2
open PySem PySem.Spec PyProof.Rows
abbrev Key:=Sum Int Str
def zjN:Key->Value->Bool
 | .inl k,v=>Value.isInt k v
 | .inr x,v=>Value.isStrOf x v
def zvN(w:World):Key->Int
 | .inl k=>hashInt k
 | .inr x=>hashStr w x
theorem zaL:∀{k:Key} {v:Value},zjN k v=true->(∃ i t,k=Sum.inl i/\v=Value.int i t)\/(∃ x t,k=Sum.inr x/\v=Value.str x t)
 | .inl i,v,h=>by
  obtain⟨t,e⟩:=Value.isInt_shape (k:=i) (v:=v) h
  exact .inl ⟨i,t,rfl,e⟩
 | .inr x,v,h=>by
  obtain⟨t,e⟩:=Value.isStrOf_shape (x:=x) (v:=v) h
  exact .inr ⟨x,t,rfl,e⟩
theorem zm0(i:Int)(t:Tok):zjN (.inl i) (.int i t)=true:=by simp [zjN,Value.isInt]
theorem zmZ(x:Str)(t:Tok):zjN (.inr x) (.str x t)=true:=by simp [zjN,Value.isStrOf]
theorem zsV(a b:Int):decide ((Sum.inl a:Key)=Sum.inl b)=(a==b):=by
 by_cases e:a=b
 ·subst e;simp
 ·have h:¬ (Sum.inl a:Key)=Sum.inl b:=fun q=>e (Sum.inl.inj q)
  rw [decide_eq_false h]
  exact(beq_eq_false_iff_ne.mpr e).symm
theorem zsR(a b:Str):decide ((Sum.inr a:Key)=Sum.inr b)=decide (a=b):=by
 by_cases e:a=b
 ·subst e;simp
 ·have h:¬ (Sum.inr a:Key)=Sum.inr b:=fun q=>e (Sum.inr.inj q)
  rw [decide_eq_false h,decide_eq_false e]
theorem zsU(a:Int)(b:Str):decide ((Sum.inl a:Key)=Sum.inr b)=false:=decide_eq_false (fun q=>nomatch q)
theorem zsS(a:Str)(b:Int):decide ((Sum.inr a:Key)=Sum.inl b)=false:=decide_eq_false (fun q=>nomatch q)
def zbe(prog:Program)(w:World):PySem.KeyKind prog w Key where
 is:=zjN
 hash:=zvN w
 inj:=fun v a b ha hb=>by
  rcases zaL ha with⟨i,t,rfl,rfl⟩|⟨x,t,rfl,rfl⟩
  ·rcases zaL hb with⟨j,u,rfl,e⟩|⟨y,u,rfl,e⟩
   ·injection e with e1 _;rw [e1]
   ·exact nomatch e
  ·rcases zaL hb with⟨j,u,rfl,e⟩|⟨y,u,rfl,e⟩
   ·exact nomatch e
   ·injection e with e1 _;rw [e1]
 byValue:=fun k v h=>by
  rcases zaL h with⟨i,t,rfl,rfl⟩|⟨x,t,rfl,rfl⟩ <;> rfl
 pyHash:=fun hv h=>by
  rcases zaL hv with⟨i,t,rfl,rfl⟩|⟨x,t,rfl,rfl⟩
  ·exact wpAny_pyHash_int h
  ·exact wpAny_pyHash_str h
 eqBool:=fun hu hv h=>by
  rcases zaL hu with⟨i,t,rfl,rfl⟩|⟨x,t,rfl,rfl⟩
  ·rcases zaL hv with⟨j,u,rfl,rfl⟩|⟨y,u,rfl,rfl⟩
   ·rw [zsV] at h;exact wpAny_eqBool_int h
   ·rw [zsU] at h;exact SeqAt.EqAt.int_str i t y u _ _ _ _ h
  ·rcases zaL hv with⟨j,u,rfl,rfl⟩|⟨y,u,rfl,rfl⟩
   ·rw [zsS] at h;exact SeqAt.EqAt.str_int x t j u _ _ _ _ h
   ·rw [zsR] at h;exact wpAny_eqBool_str h
 «strs»:=fun k x t v h=>by
  rcases zaL h with⟨i,u,rfl,e⟩|⟨y,u,rfl,e⟩
  ·exact nomatch e
  ·injection e with e1 _
   subst e1
   cases v <;> rfl
theorem zjJ(prog:Program)(w:World)(i:Int)(t:Tok):(zbe prog w).is (.inl i) (.int i t)=true:=zm0 i t
theorem zjI(prog:Program)(w:World)(x:Str)(t:Tok):(zbe prog w).is (.inr x) (.str x t)=true:=zmZ x t
end L2
namespace L2
open PySem PySem.Spec PyProof.Rows
inductive V where
 | non|bl(b:Bool)|int(i:Int)|str(x:Str)|byt(b:Array UInt8)|flt(b:UInt64)|ref(a:Addr)|ty(n:String)
 deriving DecidableEq
def RelV:V->Value->Prop
 | .non,u=>u=Value.none
 | .bl b,u=>u=Value.bool b
 | .int i,u=>∃ t,u=Value.int i t
 | .str x,u=>∃ t,u=Value.str x t
 | .byt b,u=>∃ t,u=Value.bytes b t
 | .flt b,u=>∃ t,u=Value.float b t
 | .ref a,u=>u=Value.ref a
 | .ty n,u=>u=Value.type n
abbrev Vals:List V->List Value->Prop:=Paired RelV
theorem Vals.length{xs:List V}{us:List Value}(r:Vals xs us):xs.length=us.length:=Paired.length r
theorem Vals.get:∀{xs:List V} {us:List Value} {i:Nat} {x:V},Vals xs us->xs[i]?=some x->∃ u,us[i]?=some u/\RelV x u
 | _,_,_,_,.nil,e=>by simp at e
 | _,_,0,_,.cons r _,e=>by simp at e;subst e;exact⟨_,rfl,r⟩
 | _,_,i+1,x,.cons _ t,e=>by
  obtain⟨u,h1,h2⟩:=Vals.get (i:=i) (x:=x) t (by simpa using e)
  exact⟨u,by simpa using h1,h2⟩
theorem Vals.set{x:V}{u:Value}(r:RelV x u):∀{xs:List V} {us:List Value} (i:Nat),Vals xs us->Vals (xs.set i x) (us.set i u)
 | _,_,_,.nil=>.nil
 | _,_,0,.cons _ t=>.cons r t
 | _,_,i+1,.cons q t=>.cons q (Vals.set r i t)
theorem Vals.append:∀{xs ys:List V} {us ws:List Value},Vals xs us->Vals ys ws->Vals (xs++ys) (us++ws)
 | _,_,_,_,.nil,s=>s
 | _,_,_,_,.cons r t,s=>.cons r (Vals.append t s)
theorem Vals.take:∀{xs:List V} {us:List Value} (n:Nat),Vals xs us->Vals (xs.take n) (us.take n)
 | _,_,0,_=>.nil
 | _,_,_+1,.nil=>.nil
 | _,_,n+1,.cons r t=>.cons r (Vals.take n t)
theorem Vals.drop:∀{xs:List V} {us:List Value} (n:Nat),Vals xs us->Vals (xs.drop n) (us.drop n)
 | _,_,0,r=>r
 | _,_,_+1,.nil=>.nil
 | _,_,n+1,.cons _ t=>Vals.drop n t
def znQ:Option V->Option Value->Prop
 | some v,some u=>RelV v u
 | none,none=>True
 | _,_=>False
def KV{κ:Type}:List (κ×V)->List (κ×Value)->Prop:=Paired fun(p:κ×V) (q:κ×Value)=>p.1=q.1/\RelV p.2 q.2
def kV:Key->V
 | .inl i=>.int i
 | .inr x=>.str x
inductive HO where
 /-- a list -/
 | lst(xs:List V)
 /-- a tuple(never changes) -/
 | tup(xs:List V)
 /-- a dict whose keys are ints and texts;one whose keys are tuples of ints and texts(the empty one is both) -/
 | dK(kvs:List (Key×V))|dT(kvs:List (List Key×V))
 /-- a set of ints: its members,its size -/
 | set (S:Int->Bool) (n:Nat)
 /-- an instance of the class at C,its dict at dx,its attributes -/
 | ins (C dx:Addr) (fs:List (Str×V))
 /-- the dict of the instance at x -/
 | own (x:Addr)
 /-- the dict of an exception -/
 | xd (fs:List (Str×V))
 /-- a bound method,f of x -/
 | met (f x:Addr)
 /-- a range object lo,lo+1,.. below hi -/
 | rng (lo hi:Int)
 /-- a thing that is known to the object (the script;a dict while a loop walks it): read,never written while it is so -/
 | frz (o:Obj) (u:HO)
 /-- a code object's table -/
 | tbl (ps:Array Value)
 /-- any other thing,by what is true of its one object (a def of one's own: SetO a S n:=HO.ext fun h=>..) -/
 | ext (φ:Heap->Prop)
abbrev Hp:=Addr->Option HO
def upd(H:Hp)(a:Addr)(o:HO):Hp:=fun b=>if b=a then some o else H b
theorem zak{H:Hp}{a:Addr}{o:HO}:upd H a o a=some o:=by unfold upd;rw [if_pos rfl]
theorem zao{H:Hp}{a b:Addr}{o:HO}(h:b≠a):upd H a o b=H b:=by unfold upd;rw [if_neg h]
theorem zjq{H:Hp}{a:Addr}{o u:HO}:upd (upd H a o) a u=upd H a u:=by
 funext b;unfold upd;split <;> rfl
theorem zoB{H:Hp}{a b:Addr}{o u:HO}(h:H a=some o)(h':H b=some u)(d:o≠u):a≠b:=by
 intro e;subst e;rw [h] at h';exact d (Option.some.inj h')
theorem zbJ{H:Hp}{a b:Addr}{o:HO}(h:H a=some o)(h':H b=none):a≠b:=by
 intro e;subst e;rw [h] at h';cases h'
def TAt(H:Hp)(b:Addr)(xs:List V):Prop:=H b=some (.tup xs)\/∃ o,H b=some (.frz o (.tup xs))
theorem TAt.upd{H:Hp}{a b:Addr}{u:HO}{xs:List V}(q:TAt H b xs)(n1:∀ ys,H b=some (.tup ys)->b≠a)(n2:∀ o ys,H b=some (.frz o (.tup ys))->b≠a):TAt (upd H a u) b xs:=by
 rcases q with q|⟨o,q⟩
 ·left;rw [zao (n1 _ q)];exact q
 ·right;exact⟨o,by rw [zao (n2 _ _ q)];exact q⟩
section
variable (P:Program)(w:World)
def zbO(H:Hp)(h:Heap)(a:Addr):HO->Prop
 | .lst xs=>xs.length<=sizeLine/\∃(its:List Value) (n:Nat),Vals xs its/\h.get? a=some { cls:=.type "list",data:=.seq its.toArray n }
 | .tup xs=>xs.length<=sizeLine/\∃ its:List Value,Vals xs its/\IsTup h a its.toArray
 | .dK kvs=>kvs.length<=sizeLine/\(a==sysModules)=false/\∃ vs,KV kvs vs/\h.DictOf (zbe P w) a vs
 | .dT kvs=>kvs.length<=sizeLine/\(a==sysModules)=false/\∃ xs:List (List Key×Addr×Value),
   Paired (fun(p:List Key×V) (q:List Key×Addr×Value)=>p.1=q.1/\TAt H q.2.1 (p.1.map kV)/\RelV p.2 q.2.2) kvs xs /\
   ∃ o es ep,h.get? a=some o/\o.ExactDict/\o.data=.dict es ep/\es.toList=xs.map (entryOfKey (tupleKind (zbe P w)))/\(xs.map (·.1)).Nodup
 | .set S n=>h.SetOf (intKind P w) a S n
 | .ins C dx fs=>H dx=some (.own a)/\fs.length<=1000/\dx≠a/\h.get? a=some (PySem.W.instObj C dx) /\
   ∃ mA,h.Ns1 dx mA/\(∀ f,znQ (fs.lookup f) (mA f))/\PySem.Within mA (fs.map (·.1))
 | .own _=>∃ o,h.get? a=some o
 | .xd fs=>∃ mA,h.Ns1 a mA/\∀ f,znQ (fs.lookup f) (mA f)
 | .rng lo hi=>∃ t u v,h.get? a=some { cls:=.type "range",data:=.fields #[.int lo t,.int hi u,.int 1 v] }
 | .frz o u=>h.get? a=some o/\zbO H h a u
 | .tbl ps=>h.get? a=some { cls:=.none,data:=.fields ps }
 | .met f x=>h.get? a=some (PySem.W.methodObj (.ref f) (.ref x))
 | .ext φ=>φ h/\(∃ o,h.get? a=some o)/\∀ h1 h2:Heap,φ h1->(∀ o,h1.get? a=some o->h2.get? a=some o)->φ h2
def HOk(H:Hp)(h:Heap):Prop:=∀ a o,H a=some o->zbO P w H h a o
end
section
variable {P:Program}{w:World}{H H':Hp}{h h':Heap}{a:Addr}{o:HO}
theorem zbO.lt(x:zbO P w H h a o):a<h.objs.size:=by
 cases o with
 | lst xs=>obtain⟨_,_,_,_,e⟩:=x;exact Heap.lt_size e
 | tup xs=>obtain⟨_,_,_,p⟩:=x;exact p.lt
 | dK kvs=>obtain⟨_,_,_,_,o,_,_,e,_⟩:=x;exact Heap.lt_size e
 | dT kvs=>obtain⟨_,_,_,_,o,_,_,e,_⟩:=x;exact Heap.lt_size e
 | set S n=>obtain⟨o,_,_,_,e,_⟩:=x;exact Heap.lt_size e
 | ins C dx fs=>obtain⟨_,_,_,e,_⟩:=x;exact Heap.lt_size e
 | own y=>obtain⟨_,e⟩:=x;exact Heap.lt_size e
 | xd fs=>obtain⟨_,⟨_,_,_,e,_⟩,_⟩:=x;exact Heap.lt_size e
 | rng lo hi=>obtain⟨_,_,_,e⟩:=x;exact Heap.lt_size e
 | frz ob u=>obtain⟨e,_⟩:=x;exact Heap.lt_size e
 | tbl ps=>exact Heap.lt_size (show h.get? a=some _ from x)
 | met f y=>exact Heap.lt_size (show h.get? a=some _ from x)
 | ext φ=>obtain⟨_,⟨_,e⟩,_⟩:=x;exact Heap.lt_size e
theorem Paired.zuj{α β:Type}{F G:α->β->Prop}:∀{l₁:List α} {l₂:List β},Paired F l₁ l₂->(∀ a b,F a b->G a b)->Paired G l₁ l₂
 | _,_,.nil,_=>.nil
 | _,_,.cons r t,f=>.cons (f _ _ r) (Paired.zuj t f)
theorem zbO.stay(x:zbO P w H h a o)(k:∀ b u,(b=a\/H b=some (.own a))->h.get? b=some u->h'.get? b=some u)
  (ho:∀ b,H b=some (.own a)->H' b=some (.own a))(ht:∀ b xs,TAt H b xs->TAt H' b xs):zbO P w H' h' a o:=by
 induction o with
 | lst xs=>obtain⟨z,its,n,r,e⟩:=x;exact⟨z,its,n,r,k _ _ (.inl rfl) e⟩
 | tup xs=>obtain⟨z,its,r,ob,e,c⟩:=x;exact⟨z,its,r,ob,k _ _ (.inl rfl) e,c⟩
 | dK kvs=>obtain⟨z,y,vs,r,ob,es,ep,e,c⟩:=x;exact⟨z,y,vs,r,ob,es,ep,k _ _ (.inl rfl) e,c⟩
 | dT kvs =>
  obtain⟨z,y,xs,r,ob,es,ep,e,c⟩:=x
  exact⟨z,y,xs,Paired.zuj r fun p q z=>⟨z.1,ht _ _ z.2.1,z.2.2⟩,ob,es,ep,k _ _ (.inl rfl) e,c⟩
 | set S n=>obtain⟨ob,es,ep,t,e,c⟩:=x;exact⟨ob,es,ep,t,k _ _ (.inl rfl) e,c⟩
 | ins C dx fs =>
  obtain⟨d,z,ne,e,mA,⟨od,es,ep,e2,c⟩,r⟩:=x
  exact⟨ho _ d,z,ne,k _ _ (.inl rfl) e,mA,⟨od,es,ep,k _ _ (.inr d) e2,c⟩,r⟩
 | own y=>obtain⟨ob,e⟩:=x;exact⟨ob,k _ _ (.inl rfl) e⟩
 | xd fs=>obtain⟨mA,⟨od,es,ep,e,c⟩,r⟩:=x;exact⟨mA,⟨od,es,ep,k _ _ (.inl rfl) e,c⟩,r⟩
 | rng lo hi=>obtain⟨t,u,v,e⟩:=x;exact⟨t,u,v,k _ _ (.inl rfl) e⟩
 | frz ob u ih=>obtain⟨e,q⟩:=x;exact⟨k _ _ (.inl rfl) e,ih q⟩
 | tbl ps =>
  have e:h.get? a=some { cls:=.none,data:=.fields ps }:=x
  show h'.get? a=some { cls:=.none,data:=.fields ps }
  exact k a _ (.inl rfl) e
 | met f y =>
  have e:h.get? a=some (PySem.W.methodObj (.ref f) (.ref y)):=x
  show h'.get? a=some (PySem.W.methodObj (.ref f) (.ref y))
  exact k a _ (.inl rfl) e
 | ext φ=>obtain⟨p,⟨o,e⟩,st⟩:=x;exact⟨st _ _ p fun o q=>k _ _ (.inl rfl) q,⟨o,k _ _ (.inl rfl) e⟩,st⟩
theorem HOk.lt(x:HOk P w H h)(e:H a=some o):a<h.objs.size:=(x a o e).lt
theorem HOk.fresh(x:HOk P w H h)(e:h.objs.size<=a):H a=none:=by
 cases q:H a with
 | none=>rfl
 | some u=>exact absurd (Nat.lt_of_lt_of_le (x.lt q) e) (Nat.lt_irrefl _)
theorem HOk.kept(x:HOk P w H h)(k:∀ b u,h.get? b=some u->h'.get? b=some u):HOk P w H h':=fun a o e =>
 (x a o e).stay (fun b u _ q=>k b u q) (fun _ q=>q) fun _ _ q=>q
theorem HOk.laid(x:HOk P w H h)(k:∀ b u,h.get? b=some u->h'.get? b=some u)(hp:h.objs.size<=a)(new:zbO P w (upd H a o) h' a o):HOk P w (upd H a o) h':=fun b u e=>by
 have hn:=x.fresh hp
 by_cases hb:b=a
 ·subst hb;rw [zak] at e;cases e;exact new
 ·rw [zao hb] at e
  exact(x b u e).stay (fun c v _ q=>k c v q) (fun c q=>by rw [zao (zbJ q hn)];exact q) fun c xs q=>q.upd (fun _ r=>zbJ r hn) fun _ _ r=>zbJ r hn
end
def Rd(H:Hp)(a:Addr)(u:HO):Prop:=H a=some u\/∃ o,H a=some (.frz o u)
theorem Rd.ok{P:Program}{w:World}{H:Hp}{h:Heap}{a:Addr}{u:HO}(r:Rd H a u)(x:HOk P w H h):zbO P w H h a u:=by
 rcases r with r|⟨o,r⟩
 ·exact x a u r
 ·obtain⟨_,q⟩:=x a _ r
  exact q
def Mut:Option HO->Prop
 | some (.lst _)=>True
 | some (.dK _)=>True
 | some (.dT _)=>True
 | some (.set _ _)=>True
 | some (.ins _ _ _)=>True
 | some (.ext _)=>True
 | _=>False
section
variable {P:Program}{w:World}{H:Hp}{h h':Heap}{x e:Addr}{o':HO}
theorem HOk.write(ok:HOk P w H h)(mu:Mut (H x))(he:e=x\/H e=some (.own x))(k:∀ b u,b≠e->h.get? b=some u->h'.get? b=some u)(heo:∃ u,h'.get? e=some u)
  (new:zbO P w (upd H x o') h' x o'):HOk P w (upd H x o') h':=fun b u q=>by
 have nown:∀ c y,H c=some (.own y)->c≠x:=fun c y r z=>by subst z;rw [r] at mu;exact mu
 have ntup:∀ c xs,H c=some (.tup xs)->c≠x:=fun c xs r z=>by subst z;rw [r] at mu;exact mu
 by_cases hb:b=x
 ·subst hb;rw [zak] at q;cases q;exact new
 ·rw [zao hb] at q
  by_cases hbe:b=e
  ·have q':H b=some (.own x):=by
    rcases he with z|z
    ·exact absurd (hbe.trans z) hb
    ·rw [hbe];exact z
   rw [q] at q';cases q'
   obtain⟨v,hv⟩:=heo
   exact⟨v,by rw [hbe];exact hv⟩
  ·refine(ok b u q).stay (fun c v hc r=>k c v ?_ r) (fun c r=>by rw [zao (nown c b r)];exact r) fun c xs r=>r.upd (fun ys z=>ntup c ys z) fun o ys z e=>by subst e;rw [z] at mu;exact mu
   rcases hc with rfl|hc
   ·exact hbe
   ·rintro rfl
    rcases he with z|z
    ·exact nown c b hc z
    ·rw [hc] at z;cases z;exact hb rfl
end
structure Un(fs ex:List Addr)(H H':Hp)(h h':Heap):Prop where
 keep:∀ b o,h.get? b=some o->H b=none->b∉fs->b∉ex->h'.get? b=some o
 slot:∀ b o,h.get? b=some o->H b=none->b∈fs->b∉ex->∃ sl,h'.get? b=some { o with slots:=sl }
 free:∀ b o,h.get? b=some o->H b=none->b∉ex->H' b=none
 there:∀ b o,h.get? b=some o->b∉ex->∃ o',h'.get? b=some o'
 tups:∀ b xs,H b=some (.tup xs)->H' b=some (.tup xs)
 frzs:∀ b o u,H b=some (.frz o u)->H' b=some (.frz o u)
 tbls:∀ b ps,H b=some (.tbl ps)->∃ more,H' b=some (.tbl (ps++more))
section
variable {fs fs' ex ex':List Addr}{H H1 H2:Hp}{h h1 h2 h':Heap}{a x e:Addr}{o:HO}
theorem Un.any(u:Un fs ex H H1 h h1){b:Addr}{ob:Obj}(q:h.get? b=some ob)(n:H b=none)(hx:b∉ex):∃ sl,h1.get? b=some { ob with slots:=sl }:=by
 by_cases hb:b∈fs
 ·exact u.slot b ob q n hb hx
 ·exact⟨ob.slots,u.keep b ob q n hb hx⟩
theorem Un.kept(k:∀ b u,h.get? b=some u->h'.get? b=some u):Un fs ex H H h h' :=
 ⟨fun b ob q _ _ _=>k b ob q,fun b ob q _ _ _=>⟨ob.slots,k b ob q⟩,fun _ _ _ n _=>n,fun b ob q _=>⟨ob,k b ob q⟩,fun _ _ q=>q,fun _ _ _ q=>q,fun _ ps q=>⟨#[],by rw [q];simp⟩⟩
theorem Un.refl:Un fs ex H H h h:=Un.kept fun _ _ q=>q
theorem Un.laid(k:∀ b u,h.get? b=some u->h'.get? b=some u)(hp:h.objs.size<=a)(hn:H a=none):Un fs ex H (upd H a o) h h' where
 keep:=fun b u q _ _ _=>k b u q
 slot:=fun b u q _ _ _=>⟨u.slots,k b u q⟩
 free:=fun b u q n _=>by rw [zao (Nat.ne_of_lt (Nat.lt_of_lt_of_le (Heap.lt_size q) hp))];exact n
 there:=fun b u q _=>⟨u,k b u q⟩
 tups:=fun b xs q=>by rw [zao (zbJ q hn)];exact q
 frzs:=fun b u xs q=>by rw [zao (zbJ q hn)];exact q
 tbls:=fun b ps q=>⟨#[],by rw [zao (zbJ q hn),q];simp⟩
theorem Un.write(mu:Mut (H x))(he:e=x\/H e=some (.own x))(k:∀ b u,b≠e->h.get? b=some u->h'.get? b=some u)(heo:∃ u,h'.get? e=some u):Un fs ex H (upd H x o) h h':=by
 have hx:∀ b,H b=none->b≠x:=fun b n z=>by subst z;rw [n] at mu;exact mu
 have hb:∀ b,H b=none->b≠e:=fun b n z=>by
  subst z
  rcases he with r|r
  ·exact hx b n r
  ·rw [n] at r;cases r
 have hm:∀ b u,H b=some u->¬ Mut (some u)->b≠x:=fun b u q nm z=>by subst z;rw [q] at mu;exact nm mu
 refine⟨fun b u q n _ _=>k b u (hb b n) q,fun b u q n _ _=>⟨u.slots,k b u (hb b n) q⟩,fun b u q n _=>by rw [zao (hx b n)];exact n,fun b u q _=>?_,
  fun b xs q=>by rw [zao (hm b _ q fun z=>z)];exact q,fun b u xs q=>by rw [zao (hm b _ q fun z=>z)];exact q,fun b ps q=>⟨#[],by rw [zao (hm b _ q fun z=>z),q];simp⟩⟩
 by_cases hbe:b=e
 ·subst hbe;exact heo
 ·exact⟨u,k b u hbe q⟩
end
def trk(h:Heap)(H:Hp):List Addr:=(List.range h.objs.size).filter fun a=>(H a).isSome
def zoV(h:Heap)(H:Hp):Heap:=PySem.W.hideAll h (trk h H)
theorem zm8(h:Heap)(H:Hp):(zoV h H).objs.size=h.objs.size:=PySem.W.hideAll_size _ _
theorem zoU{h:Heap}{H:Hp}{b:Addr}{o:Obj}(e:h.get? b=some o)(n:H b=none):(zoV h H).get? b=some o :=
 PySem.W.hideAll_get _ e fun hm=>by
  have q:(H b).isSome=true:=(List.mem_filter.mp hm).2
  rw [n] at q;simp at q
theorem zqP{h:Heap}{H:Hp}{b:Addr}{o:Obj}(e:(zoV h H).get? b=some o):h.get? b=some o/\H b=none:=by
 have e':h.get? b=some o:=PySem.W.of_hideAll (trk h H) e
 refine⟨e',?_⟩
 cases q:H b with
 | none=>rfl
 | some x =>
  have hm:b∈trk h H:=List.mem_filter.mpr ⟨List.mem_range.mpr (Heap.lt_size e'),by simp [q]⟩
  have z:(zoV h H).get? b=none:=PySem.W.hideAll_none (trk h H) hm
  rw [z] at e;cases e
def zrj(g h:Heap)(L:Addr):List (Addr×Obj):=(List.range h.objs.size).filterMap fun a=>if a=L\/(g.get? a).isSome=true then none else(h.get? a).map fun o=>(a,o)
def rest(g h:Heap)(L d:Addr):List (Addr×Obj):=(zrj g h L).filter fun p=>decide (p.1≠d)
end L2
namespace L2
open PySem PySem.Spec PyProof.Rows
structure Mod(K:PySem.W.Frag)(mg:Str->Option Value)(base:Heap):Prop where
 kin:K.In base
 glob:base.Ns mainGlobals mg
 blt:∃ mb,base.Ns builtinsNs mb/\∀ x:Str,x ≠ "__name__"->mb x=bootBuiltins x
 nolimit:base.NoLimit
 seer:base.NoSeer
def zvY(l:List Env):Prop:=∃ env r,l=env::r/\env.scope.isGenerator=false/\env.scope.isCoroutine=false/\env.builtins=builtinsNs/\env.globals=mainGlobals
structure Cx where
 prog:Program
 w:World
 K:PySem.W.Frag
 mg:Str->Option Value
 base:Heap
 A:Around
 N:List Str
 s₀:Shared
 H₀:Hp
 env:Env
 outer:List Env
 stack:List Env
 ex:List Addr
 fn:Str->Bool
 calm:Bool
 pn:List (Addr×Obj)
 xe:Value->Shared->Prop
def frs(l:List Env):List Addr:=l.filterMap (·.frame)
abbrev Cx.fs(X:Cx):List Addr:=frs X.outer
def Vis(sc:Scope)(x:Str):Prop:=sc.names.lookup x=some .local\/sc.names.lookup x=some .cell\/sc.names.lookup x=some .free
def Loc(sc:Scope)(x:Str):Prop:=sc.names.lookup x=some .local\/sc.names.lookup x=some .cell
def Look(env:Env)(h:Heap)(m:Str->Option Value)(x:Str)(u:Value):Prop :=
 (env.kindOf x=some .local/\m x=some u)\/((env.kindOf x=some .cell\/env.kindOf x=some .free)/\∃ c,env.cells.lookup x=some c/\h.IsCell c (some u))
structure Cx.Ok(X:Cx):Prop where
 mod:Mod X.K X.mg X.base
 kind:X.env.scope.kind=.function
 glob:X.env.globals=mainGlobals
 blt:X.env.builtins=builtinsNs
 above:X.s₀.heap.objs.size<=X.env.locals
 inj:∀ x y c,X.env.cells.lookup x=some c->X.env.cells.lookup y=some c->x=y
 has:∀ x,(X.env.kindOf x=some .cell\/X.env.kindOf x=some .free)->∃ c,X.env.cells.lookup x=some c
 cab:∀ x c,X.fn x=true->X.env.cells.lookup x=some c->X.s₀.heap.objs.size<=c
 hd:X.calm=true->X.A.handled=none
 frames:X.A.frames=some X.stack
 stk:X.stack=X.outer\/(X.stack=X.env::X.outer/\X.env.frame=some X.env.locals)
 exf:∀ b∈X.ex,b≠X.env.locals/\∀ x c,X.env.cells.lookup x=some c->c≠b
 bs:∀ b o,X.base.get? b=some o->X.s₀.heap.get? b=some o/\X.H₀ b=none
 bsz:X.base.objs.size<=X.s₀.heap.objs.size
 noex:∀ b o,X.base.get? b=some o->b∉X.ex
 exfs:∀ b∈X.ex,b∉X.fs
 zlE:X.s₀.heap.FunFrames X.base X.outer
 frf:∀ b∈X.fs,X.H₀ b=none
 tree:X.prog.given.tree=none
 sk:zvY X.stack
structure Inv(X:Cx)(pins:List (Addr×Obj))(σ:List (Option V))(H:Hp)(s:Shared):Prop where
 ok:X.Ok
 os:s.os=X.s₀.os
 bare:AllBare s.gens
 base:Un X.fs X.ex X.H₀ H X.s₀.heap s.heap
 loc:∃ m,s.heap.Ns X.env.locals m/\∀(i:Nat) (x:Str) (v:V),X.N[i]?=some x->σ[i]?=some (some v)->Vis X.env.scope x->∃ u,RelV v u/\Look X.env s.heap m x u
 cell:∀ x c,X.env.cells.lookup x=some c->∃ v,s.heap.IsCell c v
 free:H X.env.locals=none
 freeC:∀ x c,X.env.cells.lookup x=some c->H c=none
 pin:∀ p∈X.pn++pins,s.heap.get? p.1=some p.2/\H p.1=none/\p.1≠X.env.locals/\p.1∉X.fs/\∀ v,p.2.data≠.cell v
 hok:HOk X.prog X.w H s.heap
 len:σ.length=X.N.length
section
variable {X:Cx}{pins:List (Addr×Obj)}{σ:List (Option V)}{H H':Hp}{s:Shared}{h':Heap}
theorem Cx.Ok.zvK(ok:X.Ok){b:Addr}{o:Obj}(e:X.base.get? b=some o):b∉X.fs:=fun hb=>by
 have:=(ok.zlE.mem hb).1
 rw [e] at this;cases this
theorem Inv.bs(I:Inv X pins σ H s):∀ b o,X.base.get? b=some o->s.heap.get? b=some o/\H b=none:=fun b o e =>
 ⟨I.base.keep b o (I.ok.bs b o e).1 (I.ok.bs b o e).2 (I.ok.zvK e) (I.ok.noex b o e),I.base.free b o (I.ok.bs b o e).1 (I.ok.bs b o e).2 (I.ok.noex b o e)⟩
theorem Inv.bk(I:Inv X pins σ H s):∀ b o,X.base.get? b=some o->s.heap.get? b=some o:=fun b o e=>(I.bs b o e).1
theorem Inv.mod(I:Inv X pins σ H s):Mod X.K X.mg X.base:=I.ok.mod
theorem Inv.kIn(I:Inv X pins σ H s):X.K.In s.heap:=I.ok.mod.kin.keeps I.bk
theorem Inv.nolimit(I:Inv X pins σ H s):s.heap.NoLimit:=I.ok.mod.nolimit.keeps I.bk
theorem Inv.lt(I:Inv X pins σ H s):X.env.locals<s.heap.objs.size:=let⟨_,hn,_⟩:=I.loc;hn.lt
theorem Inv.sz(I:Inv X pins σ H s):X.s₀.heap.objs.size<=s.heap.objs.size:=Nat.le_trans I.ok.above (Nat.le_of_lt I.lt)
theorem Inv.zvJ(I:Inv X pins σ H s){a:Addr}(h:s.heap.objs.size<=a):a∉X.fs:=fun hb=>by
 obtain⟨_,o,ho,_⟩:=I.ok.zlE.mem hb
 exact absurd (Nat.lt_of_lt_of_le (Heap.lt_size ho) (Nat.le_trans I.sz h)) (Nat.lt_irrefl _)
theorem Inv.cne(I:Inv X pins σ H s):∀ x c,X.env.cells.lookup x=some c->c≠X.env.locals:=fun x c e z=>by
 obtain⟨v,o,ho,hd⟩:=I.cell x c e
 obtain⟨m,⟨o',es,ep,ho',hd',_⟩,_⟩:=I.loc
 rw [z,ho'] at ho;cases ho;rw [hd'] at hd;cases hd
theorem Inv.zlE(I:Inv X pins σ H s):s.heap.FunFrames X.base X.outer:=by
 have all:∀(l:List Env),(∀ b∈frs l,b∈X.fs)->X.s₀.heap.FunFrames X.base l->s.heap.FunFrames X.base l:=by
  intro l
  induction l with
  | nil=>intro _ _;trivial
  | cons env r ih =>
   intro hs hl
   obtain⟨hk,⟨L,o,hf,hn,ho,hd⟩,hr⟩:=hl
   have hL:L∈X.fs:=hs L (by unfold frs;rw [List.filterMap_cons,hf];exact List.mem_cons_self)
   obtain⟨sl,e⟩:=I.base.slot L o ho (I.ok.frf L hL) hL fun z=>I.ok.exfs L z hL
   exact⟨hk,⟨L,_,hf,hn,e,hd⟩,ih (fun b hb=>hs b (by unfold frs;rw [List.filterMap_cons,hf];exact List.mem_cons_of_mem _ hb)) hr⟩
 exact all X.outer (fun _ hb=>hb) I.ok.zlE
theorem Inv.stack(I:Inv X pins σ H s):s.heap.FunFrames X.base X.stack:=by
 rcases I.ok.stk with e|⟨e,hf⟩
 ·rw [e];exact I.zlE
 ·rw [e]
  obtain⟨m,hn,_⟩:=I.loc
  refine .cons (by rw [I.ok.kind];decide) hf hn ?_ I.zlE
  exact Heap.get?_none_of_le (Nat.le_trans I.ok.bsz I.ok.above)
theorem Inv.zl5(I:Inv X pins σ H s):∀ b∈frs X.stack,b∈X.env.locals::X.fs:=fun b hb=>by
 rcases I.ok.stk with e|⟨e,hf⟩
 ·rw [e] at hb;exact List.mem_cons_of_mem _ hb
 ·rw [e] at hb
  unfold frs at hb
  rw [List.filterMap_cons,hf] at hb
  exact hb
theorem Inv.zl6(I:Inv X pins σ H s):∀ b∈frs X.stack,H b=none:=fun b hb=>by
 rcases List.mem_cons.mp (I.zl5 b hb) with e|hb
 ·rw [e];exact I.free
 ·obtain⟨_,o,ho,_⟩:=I.ok.zlE.mem hb
  exact I.base.free b o ho (I.ok.frf b hb) fun z=>I.ok.exfs b z hb
theorem Inv.step{g':Array GenState}{t':Nat}{d':Drawn}{ch:List Addr}(I:Inv X pins σ H s)
  (hch:∀ b∈ch,(b∈X.ex\/X.s₀.heap.objs.size<=b)/\b≠X.env.locals/\(∀ x c,X.env.cells.lookup x=some c->c≠b)/\∀ p∈X.pn++pins,p.1≠b)
  (keep:∀ b o,b≠X.env.locals->b∉X.fs->b∉ch->s.heap.get? b=some o->H b=none->h'.get? b=some o)
  (slot:∀ b o,b≠X.env.locals->b∈X.fs->b∉ch->s.heap.get? b=some o->H b=none->∃ sl,h'.get? b=some { o with slots:=sl })(free:∀ b o,b∉ch->s.heap.get? b=some o->H b=none->H' b=none)
  (there:∀ b o,b∉ch->s.heap.get? b=some o->∃ o',h'.get? b=some o')
  (tups:∀ b xs,H b=some (.tup xs)->H' b=some (.tup xs))(frzs:∀ b o u,H b=some (.frz o u)->H' b=some (.frz o u))(tbls:∀ b ps,H b=some (.tbl ps)->∃ more,H' b=some (.tbl (ps++more)))
  (ns:∀ m,s.heap.Ns X.env.locals m->h'.Ns X.env.locals m)(hok:HOk X.prog X.w H' h')(hg:AllBare g') :
  Inv X pins σ H' { s with heap:=h',gens:=g',drawn:=d',toks:=t' }:=by
 have neL:∀ b o,X.s₀.heap.get? b=some o->b≠X.env.locals:=fun b o e=>Nat.ne_of_lt (Nat.lt_of_lt_of_le (Heap.lt_size e) I.ok.above)
 have neC:∀ b o,X.s₀.heap.get? b=some o->b∉X.ex->b∉ch:=fun b o e hx hb=>by
  rcases (hch b hb).1 with z|z
  ·exact hx z
  ·exact absurd (Nat.lt_of_lt_of_le (Heap.lt_size e) z) (Nat.lt_irrefl _)
 have cellK:∀ x c,X.env.cells.lookup x=some c->∀ v,s.heap.IsCell c v->h'.IsCell c v:=fun x c e v ⟨o,ho,hd⟩=>by
  have nch:c∉ch:=fun z=>(hch c z).2.2.1 x c e rfl
  by_cases hc:c∈X.fs
  ·obtain⟨sl,q⟩:=slot c o (I.cne x c e) hc nch ho (I.freeC x c e)
   exact⟨_,q,hd⟩
  ·exact⟨o,keep c o (I.cne x c e) hc nch ho (I.freeC x c e),hd⟩
 refine⟨I.ok,I.os,hg,⟨fun b o e n hb hx=>?_,fun b o e n hb hx=>?_,fun b o e n hx=>?_,fun b o e hx=>?_,fun b xs e=>tups b xs (I.base.tups b xs e),fun b o xs e=>frzs b o xs (I.base.frzs b o xs e),fun b ps e=>?_⟩,?_,fun x c e=>?_,?_,fun x c e=>?_,fun p hp=>?_,hok,I.len⟩
 ·exact keep b o (neL b o e) hb (neC b o e hx) (I.base.keep b o e n hb hx) (I.base.free b o e n hx)
 ·obtain⟨sl,e1⟩:=I.base.slot b o e n hb hx
  obtain⟨sl',e2⟩:=slot b _ (neL b o e) hb (neC b o e hx) e1 (I.base.free b o e n hx)
  exact⟨sl',e2⟩
 ·obtain⟨o',e1⟩:=I.base.there b o e hx
  exact free b o' (neC b o e hx) e1 (I.base.free b o e n hx)
 ·obtain⟨o',e1⟩:=I.base.there b o e hx
  exact there b o' (neC b o e hx) e1
 ·obtain⟨m1,e1⟩:=I.base.tbls b ps e
  obtain⟨m2,e2⟩:=tbls b _ e1
  exact⟨m1++m2,by rw [e2,Array.append_assoc]⟩
 ·obtain⟨m,hn,hl⟩:=I.loc
  refine⟨m,ns m hn,fun i x v e1 e2 e3=>?_⟩
  obtain⟨u,r,l⟩:=hl i x v e1 e2 e3
  refine⟨u,r,?_⟩
  rcases l with l|⟨k,c,e,z⟩
  ·exact .inl l
  ·exact .inr ⟨k,c,e,cellK x c e _ z⟩
 ·obtain⟨v,z⟩:=I.cell x c e
  exact⟨v,cellK x c e v z⟩
 ·obtain⟨m,⟨o,_,_,ho,_⟩,_⟩:=I.loc
  exact free _ o (fun z=>(hch _ z).2.1 rfl) ho I.free
 ·obtain⟨v,o,ho,hd⟩:=I.cell x c e
  exact free c o (fun z=>(hch c z).2.2.1 x c e rfl) ho (I.freeC x c e)
 ·obtain⟨e,n,ne,nf,d⟩:=I.pin p hp
  have nch:p.1∉ch:=fun z=>(hch p.1 z).2.2.2 p hp rfl
  exact⟨keep p.1 p.2 ne nf nch e n,free p.1 p.2 nch e n,ne,nf,d⟩
theorem Inv.un{t':Nat}(I:Inv X pins σ H s)(u:Un X.fs [] H H' s.heap h')(hok:HOk X.prog X.w H' h'):Inv X pins σ H' { s with heap:=h',toks:=t' }:=by
 obtain⟨m,⟨o,es,ep,ho,r⟩,_⟩:=id I.loc
 obtain⟨sl,hL⟩:=u.any ho I.free (by simp)
 exact I.step (g':=s.gens) (d':=s.drawn) (ch:=[]) (fun _ z=>nomatch z) (fun b o _ hb _ e n=>u.keep b o e n hb (by simp)) (fun b o _ hb _ e n=>u.slot b o e n hb (by simp)) (fun b o _ e n=>u.free b o e n (by simp)) (fun b o _ e=>u.there b o e (by simp)) u.tups u.frzs u.tbls (fun m' hm=>by
  obtain⟨o',es',ep',ho',r'⟩:=hm
  rw [ho] at ho';cases ho'
  exact⟨_,es',ep',hL,r'⟩) hok I.bare
theorem Inv.call{g':Array GenState}{t':Nat}{d':Drawn}{ch:List Addr}(I:Inv X pins σ H s)(u:Un (frs X.stack) ch H H' s.heap h')(hok:HOk X.prog X.w H' h')(hg:AllBare g')
  (hch:∀ b∈ch,(b∈X.ex\/X.s₀.heap.objs.size<=b)/\b≠X.env.locals/\(∀ x c,X.env.cells.lookup x=some c->c≠b)/\∀ p∈X.pn++pins,p.1≠b) :
  Inv X pins σ H' { s with heap:=h',gens:=g',drawn:=d',toks:=t' }:=by
 obtain⟨m,⟨o,es,ep,ho,r⟩,_⟩:=id I.loc
 obtain⟨sl,hL⟩:=u.any ho I.free fun z=>(hch _ z).2.1 rfl
 exact I.step (ch:=ch) hch (fun b o hL hb hc e n=>u.keep b o e n (fun z=>(List.mem_cons.mp (I.zl5 b z)).elim hL hb) hc) (fun b o _ _ hc e n=>u.any e n hc) (fun b o hc e n=>u.free b o e n hc) (fun b o hc e=>u.there b o e hc) u.tups u.frzs u.tbls (fun m' hm=>by
  obtain⟨o',es',ep',ho',r'⟩:=hm
  rw [ho] at ho';cases ho'
  exact⟨_,es',ep',hL,r'⟩) hok hg
theorem Inv.turned{t':Nat}{it:Addr}(I:Inv X pins σ H s)(k:∀ b o,b≠it->s.heap.get? b=some o->h'.get? b=some o)(hn:H it=none)(hL:it≠X.env.locals)
  (h1:it∈X.ex\/X.s₀.heap.objs.size<=it)(h2:∀ x c,X.env.cells.lookup x=some c->c≠it)(h3:∀ p∈X.pn++pins,p.1≠it):Inv X pins σ H { s with heap:=h',toks:=t' }:=by
 have nit:∀ b u,H b=some u->b≠it:=fun b u e z=>by rw [z,hn] at e;cases e
 refine I.step (g':=s.gens) (d':=s.drawn) (ch:=[it]) (fun b hb=>?_) (fun b o _ _ hc e _=>k b o (fun z=>hc (by simp [z])) e) (fun b o _ _ hc e _=>⟨o.slots,k b o (fun z=>hc (by simp [z])) e⟩) (fun _ _ _ _ n=>n)
  (fun b o hc e=>⟨o,k b o (fun z=>hc (by simp [z])) e⟩) (fun _ _ e=>e) (fun _ _ _ e=>e) (fun b ps e=>⟨#[],by rw [e];simp⟩) (fun m hm=>?_) (fun b u e=>?_) I.bare
 ·have e:b=it:=by simpa using hb
  subst e
  exact⟨h1,hL,h2,h3⟩
 ·obtain⟨o,es,ep,ho,r⟩:=hm
  exact⟨o,es,ep,k _ o (Ne.symm hL) ho,r⟩
 ·refine(I.hok b u e).stay (fun c v hc q=>k c v ?_ q) (fun _ q=>q) fun _ _ q=>q
  rcases hc with z|z
  ·rw [z];exact nit b u e
  ·exact nit c _ z
theorem Inv.tok(I:Inv X pins σ H s)(t:Nat):Inv X pins σ H { s with toks:=t }:=I.un (h':=s.heap) (t':=t) Un.refl I.hok
theorem Inv.kept{t':Nat}(I:Inv X pins σ H s)(k:∀ b u,s.heap.get? b=some u->h'.get? b=some u):Inv X pins σ H { s with heap:=h',toks:=t' }:=I.un (Un.kept k) (I.hok.kept k)
theorem Inv.laid{a:Addr}{o:HO}{t':Nat}(I:Inv X pins σ H s)(k:∀ b u,s.heap.get? b=some u->h'.get? b=some u)(hp:s.heap.objs.size<=a)(new:zbO X.prog X.w (upd H a o) h' a o) :
  Inv X pins σ (upd H a o) { s with heap:=h',toks:=t' }:=I.un (Un.laid k hp (I.hok.fresh hp)) (I.hok.laid k hp new)
theorem Inv.write{x e:Addr}{o:HO}{t':Nat}(I:Inv X pins σ H s)(mu:Mut (H x))(he:e=x\/H e=some (.own x))(k:∀ b u,b≠e->s.heap.get? b=some u->h'.get? b=some u)(heo:∃ u,h'.get? e=some u)
  (new:zbO X.prog X.w (upd H x o) h' x o):Inv X pins σ (upd H x o) { s with heap:=h',toks:=t' }:=I.un (Un.write mu he k heo) (I.hok.write mu he k heo new)
theorem Inv.weak{σ':List (Option V)}(I:Inv X pins σ H s)(hl:σ'.length=σ.length)(w:∀(i:Nat) v,σ'[i]?=some (some v)->σ[i]?=some (some v)):Inv X pins σ' H s :=
 ⟨I.ok,I.os,I.bare,I.base,let⟨m,hn,hl'⟩:=I.loc;⟨m,hn,fun i x v e1 e2 e3=>hl' i x v e1 (w i v e2) e3⟩,I.cell,I.free,I.freeC,I.pin,I.hok,hl.trans I.len⟩
theorem Inv.zhP{pins':List (Addr×Obj)}(I:Inv X pins σ H s)(h:∀ p∈pins',s.heap.get? p.1=some p.2/\H p.1=none/\p.1≠X.env.locals/\p.1∉X.fs/\∀ v,p.2.data≠.cell v):Inv X pins' σ H s :=
 ⟨I.ok,I.os,I.bare,I.base,I.loc,I.cell,I.free,I.freeC,fun p hp=>(List.mem_append.mp hp).elim (fun z=>I.pin p (List.mem_append_left _ z)) (h p),I.hok,I.len⟩
theorem zkw{N:List Str}(hN:N.Nodup){i j:Nat}{x:Str}(a:N[i]?=some x)(b:N[j]?=some x):i=j:=by
 obtain⟨h1,e1⟩:=List.getElem?_eq_some_iff.mp a
 obtain⟨h2,e2⟩:=List.getElem?_eq_some_iff.mp b
 exact(List.getElem_inj hN).mp (e1.trans e2.symm)
theorem ziu{M:Model}{A:Around}{E:Value->Shared->Prop}{i:Nat}{x:Str}{v:V}{u:Value}{Q:Unit->Shared->Prop}(I:Inv X pins σ H s)(hN:X.N.Nodup)(hi:X.N[i]?=some x)(hx:Loc X.env.scope x)(r:RelV v u)
  (h:∀ s',Inv X pins (σ.set i (some v)) H s'->(∃ a,Heap.SameBut a s.heap s'.heap/\(a=X.env.locals\/X.env.cells.lookup x=some a))->Q () s')(hf:X.fn x=true\/X.env.scope.names.lookup x=some .local:=by first|exact .inl rfl|exact .inr rfl|assumption):wpAny M A (storeName X.env x u) Q E s:=by
 obtain⟨m,hn,hl⟩:=id I.loc
 have hcls:(X.env.scope.kind==.class||(X.env.scope.kind==.module&&X.env.locals != X.env.globals))=false:=by rw [I.ok.kind];rfl
 have hiσ:i<σ.length:=by rw [I.len];exact(List.getElem?_eq_some_iff.mp hi).1
 have cne:=I.cne
 have tracked:∀{a:Addr} {h':Heap},(∃ o,s.heap.get? a=some o/\H a=none)->Heap.SameBut a s.heap h'->HOk X.prog X.w H h':=fun{a h'} ha hs b ob e=>by
  obtain⟨_,_,hfree⟩:=ha
  refine(I.hok b ob e).stay (fun c w' hc q=>(hs.2 c ?_).trans q) (fun _ q=>q) fun _ _ q=>q
  rintro rfl
  rcases hc with rfl|hc
  ·rw [hfree] at e;cases e
  ·rw [hfree] at hc;cases hc
 rcases hx with hk|hk
 ·refine wpAny_storeName_local hk hn (fun h' hn' hs=>?_) hcls
  obtain⟨oL,_,_,hoL,_⟩:=id hn
  refine h _ ⟨I.ok,I.os,I.bare,⟨fun b o e n hb hx=>?_,fun b o e n hb hx=>?_,I.base.free,fun b o e hx=>?_,I.base.tups,I.base.frzs,I.base.tbls⟩,⟨_,hn',fun j y v' e1 e2 e3=>?_⟩,fun y c e=>?_,I.free,I.freeC,fun p hp=>?_,tracked ⟨oL,hoL,I.free⟩ hs,by simpa using I.len⟩ ⟨_,hs,.inl rfl⟩
  ·exact(hs.2 b (Nat.ne_of_lt (Nat.lt_of_lt_of_le (Heap.lt_size e) I.ok.above))).trans (I.base.keep b o e n hb hx)
  ·obtain⟨sl,e1⟩:=I.base.slot b o e n hb hx
   exact⟨sl,(hs.2 b (Nat.ne_of_lt (Nat.lt_of_lt_of_le (Heap.lt_size e) I.ok.above))).trans e1⟩
  ·obtain⟨o',e1⟩:=I.base.there b o e hx
   exact⟨o',(hs.2 b (Nat.ne_of_lt (Nat.lt_of_lt_of_le (Heap.lt_size e) I.ok.above))).trans e1⟩
  ·by_cases hj:j=i
   ·subst hj
    rw [hi] at e1;cases e1
    rw [List.getElem?_set_self hiσ] at e2
    cases e2
    exact⟨u,r,.inl ⟨hk,by simp⟩⟩
   ·rw [List.getElem?_set_ne (Ne.symm hj)] at e2
    obtain⟨u',r',q⟩:=hl j y v' e1 e2 e3
    refine⟨u',r',?_⟩
    rcases q with⟨k,e⟩|⟨k,c,e,z⟩
    ·refine .inl ⟨k,?_⟩
     have:y≠x:=fun e=>hj (zkw hN e1 (e▸hi))
     simp [this,e]
    ·exact .inr ⟨k,c,e,z.sameBut hs (cne y c e)⟩
  ·obtain⟨w',z⟩:=I.cell y c e
   exact⟨w',z.sameBut hs (cne y c e)⟩
  ·obtain⟨e,n,ne,nf,d⟩:=I.pin p hp
   exact⟨(hs.2 p.1 ne).trans e,n,ne,nf,d⟩
 ·have hfn:X.fn x=true:=by
   rcases hf with z|z
   ·exact z
   ·rw [z] at hk;cases hk
  obtain⟨c,hc⟩:=I.ok.has x (.inl hk)
  obtain⟨w',z⟩:=I.cell x c hc
  refine wpAny_storeName_cell I.ok.kind hk hc z (fun h' hc' hs=>?_)
  obtain⟨oc,hoc,hocd⟩:=id z
  refine h { s with heap:=h' } ⟨I.ok,I.os,I.bare,⟨fun b o e n hb hx=>?_,fun b o e n hb hx=>?_,I.base.free,fun b o e hx=>?_,I.base.tups,I.base.frzs,I.base.tbls⟩,⟨m,hn.sameBut hs (Ne.symm (cne x c hc)),fun j y v' e1 e2 e3=>?_⟩,fun y c' e=>?_,I.free,I.freeC,fun p hp=>?_,tracked ⟨oc,hoc,I.freeC x c hc⟩ hs,by simpa using I.len⟩ ⟨c,hs,.inr hc⟩
  ·exact(hs.2 b (Nat.ne_of_lt (Nat.lt_of_lt_of_le (Heap.lt_size e) (I.ok.cab x c hfn hc)))).trans (I.base.keep b o e n hb hx)
  ·obtain⟨sl,e1⟩:=I.base.slot b o e n hb hx
   exact⟨sl,(hs.2 b (Nat.ne_of_lt (Nat.lt_of_lt_of_le (Heap.lt_size e) (I.ok.cab x c hfn hc)))).trans e1⟩
  ·obtain⟨o',e1⟩:=I.base.there b o e hx
   exact⟨o',(hs.2 b (Nat.ne_of_lt (Nat.lt_of_lt_of_le (Heap.lt_size e) (I.ok.cab x c hfn hc)))).trans e1⟩
  ·by_cases hj:j=i
   ·subst hj
    rw [hi] at e1;cases e1
    rw [List.getElem?_set_self hiσ] at e2
    cases e2
    exact⟨u,r,.inr ⟨.inl hk,c,hc,hc'⟩⟩
   ·rw [List.getElem?_set_ne (Ne.symm hj)] at e2
    obtain⟨u',r',q⟩:=hl j y v' e1 e2 e3
    refine⟨u',r',?_⟩
    rcases q with q|⟨k,c',e,z'⟩
    ·exact .inl q
    ·refine .inr ⟨k,c',e,z'.sameBut hs ?_⟩
     rintro rfl
     exact hj (zkw hN e1 (I.ok.inj _ _ _ e hc▸hi))
  ·by_cases hcc:c'=c
   ·subst hcc;exact⟨_,hc'⟩
   ·obtain⟨w2,z2⟩:=I.cell y c' e
    exact⟨w2,z2.sameBut hs hcc⟩
  ·obtain⟨e,n,ne,nf,d⟩:=I.pin p hp
   refine⟨(hs.2 p.1 ?_).trans e,n,ne,nf,d⟩
   intro q
   rw [q,hoc] at e
   have q':oc=p.2:=Option.some.inj e
   exact d w' (by rw [<- q'];exact hocd)
theorem zfu{M:Model}{A:Around}{E:Value->Shared->Prop}{i:Nat}{x:Str}{v:V}{u:Value}{Q:Unit->Shared->Prop}(I:Inv X pins σ H s)(hN:X.N.Nodup)(hi:X.N[i]?=some x)(hx:Loc X.env.scope x)(r:RelV v u)
  (h:∀ s',Inv X pins (σ.set i (some v)) H s'->Q () s')(hf:X.fn x=true\/X.env.scope.names.lookup x=some .local:=by first|exact .inl rfl|exact .inr rfl|assumption):wpAny M A (storeName X.env x u) Q E s :=
 ziu I hN hi hx r (fun s' I' _=>h s' I') hf
theorem Inv.call'{s':Shared}{ch:List Addr}(I:Inv X pins σ H s)(ho:s'.os=s.os)(u:Un (frs X.stack) ch H H' s.heap s'.heap)(hok:HOk X.prog X.w H' s'.heap)(hg:AllBare s'.gens)
  (hch:∀ b∈ch,(b∈X.ex\/X.s₀.heap.objs.size<=b)/\b≠X.env.locals/\(∀ x c,X.env.cells.lookup x=some c->c≠b)/\∀ p∈X.pn++pins,p.1≠b):Inv X pins σ H' s':=by
 obtain⟨h',g',d',t',o'⟩:=s'
 have e:o'=s.os:=ho
 subst e
 exact I.call (g':=g') (t':=t') (d':=d') u hok hg hch
end
abbrev XK:=Value->Option Addr->Hp->Prop
abbrev St:=List (Option V)
abbrev VK:=V->Hp->Prop
abbrev TE:=St->Hp->VK->Prop
abbrev TT:=St->Hp->(Bool->Hp->Prop)->Prop
abbrev TA:=St->Hp->(List V->Hp->Prop)->Prop
structure Ends where
 nx:St->Hp->Prop
 rt:VK
 bk:St->Hp->Prop:=fun _ _=>False
 ct:St->Hp->Prop:=fun _ _=>False
abbrev TS:=Ends->St->Hp->Prop
def EP(X:Cx)(pins:List (Addr×Obj))(σ:St)(Q:VK)(u:Value)(s':Shared):Prop:=∃ v H',Inv X pins σ H' s'/\RelV v u/\Q v H'
def TP(X:Cx)(pins:List (Addr×Obj))(σ:St)(Q:Bool->Hp->Prop)(b:Bool)(s':Shared):Prop:=∃ H',Inv X pins σ H' s'/\Q b H'
def AP(X:Cx)(pins:List (Addr×Obj))(σ:St)(Q:List V->Hp->Prop)(us:List Value)(s':Shared):Prop:=∃ vs H',Inv X pins σ H' s'/\Vals vs us/\Q vs H'
def SP(X:Cx)(pins:List (Addr×Obj))(D:Ends)(f:Flow)(s':Shared):Prop :=
 match f with
 | .next=>∃ σ' H',Inv X pins σ' H' s'/\D.nx σ' H'
 | .brk=>∃ σ' H',Inv X pins σ' H' s'/\D.bk σ' H'
 | .cont=>∃ σ' H',Inv X pins σ' H' s'/\D.ct σ' H'
 | .ret u=>∃ v σ' H',Inv X pins σ' H' s'/\RelV v u/\D.rt v H'
def PE(X:Cx)(e:Expr)(t:TE):Prop :=
 ∀(pins:List (Addr×Obj)) (s:Shared) (σ:St) (H:Hp) (Q:VK),Inv X pins σ H s->t σ H Q->wpAny (model X.prog X.w) X.A (eval e X.env) (EP X pins σ Q) X.xe s
def PT(X:Cx)(e:Expr)(t:TT):Prop :=
 ∀(pins:List (Addr×Obj)) (s:Shared) (σ:St) (H:Hp) (Q:Bool->Hp->Prop),Inv X pins σ H s->t σ H Q->wpAny (model X.prog X.w) X.A (isTrue e X.env (eval e X.env)) (TP X pins σ Q) X.xe s
def PW(X:Cx)(e:Expr)(t:TT):Prop :=
 ∀(whole:Sem Value) (pins:List (Addr×Obj)) (s:Shared) (σ:St) (H:Hp) (Q:Bool->Hp->Prop),Inv X pins σ H s->t σ H Q->wpAny (model X.prog X.w) X.A (isTrue e X.env whole) (TP X pins σ Q) X.xe s
theorem PW.pt{X:Cx}{e:Expr}{t:TT}(h:PW X e t):PT X e t:=h _
def PA(X:Cx)(es:List Expr)(t:TA):Prop :=
 ∀(pos:Pos) (pins:List (Addr×Obj)) (s:Shared) (σ:St) (H:Hp) (Q:List V->Hp->Prop),Inv X pins σ H s->t σ H Q->wpAny (model X.prog X.w) X.A (spliced (backTo pos (starEach es X.env))) (AP X pins σ Q) X.xe s
def PS(X:Cx)(st:Stmt)(t:TS):Prop :=
 ∀(pins:List (Addr×Obj)) (s:Shared) (σ:St) (H:Hp) (D:Ends),Inv X pins σ H s->t D σ H->wpAny (model X.prog X.w) X.A (exec st X.env) (SP X pins D) X.xe s
def PSs(X:Cx)(st:List Stmt)(t:TS):Prop :=
 ∀(pins:List (Addr×Obj)) (s:Shared) (σ:St) (H:Hp) (D:Ends),Inv X pins σ H s->t D σ H->wpAny (model X.prog X.w) X.A (execs st X.env) (SP X pins D) X.xe s
theorem thn{α:Type}{t:Sem α}{Q Q':α->Shared->Prop}{M:Model}{A:Around}{E:Value->Shared->Prop}{s:Shared}(h:wpAny M A t Q E s)(hQ:∀ a s,Q a s->Q' a s):wpAny M A t Q' E s:=wpAny_mono h hQ fun _ _ x=>x
end L2
namespace L2
open PySem PySem.Spec PyProof.Rows
section
variable {X:Cx}
def zgE(i:Nat):TE:=fun σ H Q=>∃ v,σ[i]?=some (some v)/\Q v H
def tC(v:V):TE:=fun _ H Q=>Q v H
theorem zpn{i:Nat}{x:Str}{pos:Pos}(hN:X.N[i]?=some x)(hv:Vis X.env.scope x)(hd:(x==("__debug__":Str))=false:=by decide) (hcd:(x==("__classdict__":Str))=false:=by decide):PE X (.Name x pos) (zgE i):=by
 intro pins s σ H Q I h
 obtain⟨v,e,h⟩:=h
 obtain⟨m,hn,hl⟩:=I.loc
 obtain⟨u,r,l⟩:=hl i x v hN e hv
 have fin:EP X pins σ Q u s:=⟨v,H,I,r,h⟩
 rcases l with⟨hk,hm⟩|⟨hk,c,hc,hcell⟩
 ·exact wpAny_Name (wpAny_loadName_local I.ok.kind hk hn hm fin) hd
 ·rcases hk with hk|hk
  ·exact wpAny_Name (wpAny_loadName_cell I.ok.kind hk hc hcell fin) hd
  ·exact wpAny_Name (wpAny_loadName_free I.ok.kind hk hc hcell fin hcd) hd
theorem zss{i j pos}:PE X (.Constant (.int i) j pos) (tC (.int i)):=fun _ _ _ H _ I h=>wpAny_Constant_int ⟨.int i,H,I.tok _,⟨_,rfl⟩,h⟩
theorem zua{b j pos}:PE X (.Constant (.bool b) j pos) (tC (.bl b)):=fun _ _ _ H _ I h=>Constant_bool ⟨.bl b,H,I,rfl,h⟩
theorem zsp{j pos}:PE X (.Constant .none j pos) (tC .non):=fun _ _ _ H _ I h=>Constant_none ⟨.non,H,I,rfl,h⟩
theorem zsm{x j pos}:PE X (.Constant (.str x) j pos) (tC (.str x)):=fun _ _ _ H _ I h=>Calls.Constant_str ⟨.str x,H,I.tok _,⟨_,rfl⟩,h⟩
def Gl(X:Cx)(x:Str):Prop:=X.env.kindOf x=some .globalImplicit
theorem zh0{E:Value->Shared->Prop}{pins:List (Addr×Obj)}{s:Shared}{σ:St}{H:Hp}{x:Str}{u:Value}{pos:Pos}{Q:Value->Shared->Prop}(I:Inv X pins σ H s)(hg:Gl X x)(hm:X.mg x=some u)(h:Q u s)
  (hd:(x==("__debug__":Str))=false:=by decide):wpAny (model X.prog X.w) X.A (eval (.Name x pos) X.env) Q E s :=
 Calls.Name_function_global I.ok.kind hg (Calls.loadGlobal_global (by rw [I.ok.glob];exact I.mod.glob.keeps I.bk) hm h) hd
theorem zfX{E:Value->Shared->Prop}{pins:List (Addr×Obj)}{s:Shared}{σ:St}{H:Hp}{x:Str}{u:Value}{pos:Pos}{Q:Value->Shared->Prop}(I:Inv X pins σ H s)(hg:Gl X x)(hm:X.mg x=none)(hv:bootBuiltins x=some u)(h:Q u s)
  (hn:x ≠ "__name__":=by decide) (hd:(x==("__debug__":Str))=false:=by decide):wpAny (model X.prog X.w) X.A (eval (.Name x pos) X.env) Q E s:=by
 obtain⟨mb,h1,h2⟩:=I.mod.blt
 exact Calls.Name_function_global I.ok.kind hg (Calls.loadGlobal_builtin (by rw [I.ok.glob];exact I.mod.glob.keeps I.bk) hm (by rw [I.ok.blt];exact h1.keeps I.bk) ((h2 x hn).trans hv) h) hd
theorem zmA{x:Str}{v:V}{u:Value}{pos:Pos}(hg:Gl X x)(hm:X.mg x=some u)(r:RelV v u)(hd:(x==("__debug__":Str))=false:=by decide):PE X (.Name x pos) (tC v) :=
 fun _ _ _ H _ I h=>zh0 I hg hm ⟨v,H,I,r,h⟩ hd
theorem zqI{x:Str}{v:V}{u:Value}{pos:Pos}(hg:Gl X x)(hm:X.mg x=none)(hv:bootBuiltins x=some u)(r:RelV v u)(hn:x ≠ "__name__":=by decide) (hd:(x==("__debug__":Str))=false:=by decide):PE X (.Name x pos) (tC v) :=
 fun _ _ _ H _ I h=>zfX I hg hm hv ⟨v,H,I,r,h⟩ hn hd
variable {a b:Expr}{ta tb:TE}{pos:Pos}
def tB(t:TE):TT:=fun σ H Q=>t σ H fun x H1=>∃ c,x=.bl c/\Q c H1
variable {tA tB':TT}{rest:List Expr}
def ze1(t u:TT):TT:=fun σ H Q=>t σ H fun c H1=>if c=true then u σ H1 Q else Q false H1
def tOr(t u:TT):TT:=fun σ H Q=>t σ H fun c H1=>if c=true then Q true H1 else u σ H1 Q
def zbV(t:TT):TT:=fun σ H Q=>t σ H fun c H1=>Q (!c) H1
theorem zqc(ha:PT X a tA):PW X (.BoolOp .And [a] pos) tA:=by
 intro wh pins s σ H Q I h
 refine isTrue_and (thn (ha pins s σ H Q I h) fun c s1 e=>?_)
 cases c with
 | true=>exact isTrue_and_nil e
 | false=>exact e
theorem zrW(ha:PT X a tA):PW X (.BoolOp .Or [a] pos) tA:=by
 intro wh pins s σ H Q I h
 refine isTrue_or (thn (ha pins s σ H Q I h) fun c s1 e=>?_)
 cases c with
 | false=>exact isTrue_or_nil e
 | true=>exact e
theorem zrX(ha:PT X a tA)(hb:PW X (.BoolOp .And (b::rest) pos) tB'):PW X (.BoolOp .And (a::b::rest) pos) (ze1 tA tB'):=by
 intro wh pins s σ H Q I h
 refine isTrue_and (thn (ha pins s σ H _ I h) fun c s1 ⟨H1,I1,q1⟩=>?_)
 cases c with
 | true=>exact hb wh pins s1 σ H1 Q I1 q1
 | false=>exact⟨H1,I1,q1⟩
theorem ztZ(ha:PT X a tA)(hb:PW X (.BoolOp .Or (b::rest) pos) tB'):PW X (.BoolOp .Or (a::b::rest) pos) (tOr tA tB'):=by
 intro wh pins s σ H Q I h
 refine isTrue_or (thn (ha pins s σ H _ I h) fun c s1 ⟨H1,I1,q1⟩=>?_)
 cases c with
 | true=>exact⟨H1,I1,q1⟩
 | false=>exact hb wh pins s1 σ H1 Q I1 q1
theorem zsa(ha:PT X a tA):PT X (.UnaryOp .Not a pos) (zbV tA):=by
 intro pins s σ H Q I h
 exact isTrue_not (ha pins s σ H (fun c H1=>Q (!c) H1) I h)
def ztS(ta tb:TE):TE:=fun σ H Q=>ta σ H fun x H1=>∃ c,x=.bl c/\if c=true then tb σ H1 Q else Q (.bl false) H1
def ztP(ta:TE):TE:=fun σ H Q=>ta σ H fun x H1=>∃ c,x=.bl c/\Q (.bl (!c)) H1
theorem zsn{op}{t:TE}(h:PE X a t):PE X (.BoolOp op [a] pos) t:=fun pins s σ H Q I hw=>BoolOp_one (h pins s σ H Q I hw)
theorem zsu(ha:PE X a ta)(hb:PE X (.BoolOp .And (b::rest) pos) tb):PE X (.BoolOp .And (a::b::rest) pos) (ztS ta tb):=by
 intro pins s σ H Q I h
 refine BoolOp_and (thn (ha pins s σ H _ I h) fun v s1 ⟨x,H1,I1,r1,q1⟩=>?_)
 obtain⟨c,rfl,q1⟩:=q1
 cases r1
 refine wpAny_truthy_bool ?_
 cases c with
 | true=>exact hb pins s1 σ H1 Q I1 q1
 | false=>exact⟨.bl false,H1,I1,rfl,q1⟩
theorem zso(ha:PE X a ta):PE X (.UnaryOp .Not a pos) (ztP ta):=by
 intro pins s σ H Q I h
 refine UnaryOp_ (thn (ha pins s σ H _ I h) fun v s1 ⟨x,H1,I1,r1,q1⟩=>?_)
 obtain⟨c,rfl,q1⟩:=q1
 cases r1
 exact not_of (wpAny_truthy_bool ⟨.bl (!c),H1,I1,rfl,q1⟩)
def tIf(t:TT)(ta tb:TE):TE:=fun σ H Q=>t σ H fun c H1=>if c=true then ta σ H1 Q else tb σ H1 Q
theorem zou{c:Expr}(hc:PT X c tA)(ha:PE X a ta)(hb:PE X b tb):PE X (.IfExp c a b pos) (tIf tA ta tb):=by
 intro pins s σ H Q I h
 refine wpAny_IfExp (thn (hc pins s σ H _ I h) fun d s1 ⟨H1,I1,q1⟩=>?_)
 cases d with
 | true=>exact ha pins s1 σ H1 Q I1 q1
 | false=>exact hb pins s1 σ H1 Q I1 q1
end
end L2
namespace L2
open PySem PySem.Spec PyProof.Rows
def SqL(K:PySem.W.Frag)(H:Hp)(a:Addr)(xs:List V):Prop :=
 Rd H a (.lst xs) \/
  ∃(o:Obj) (its:Array Value) (n:Nat),K.lookup a=some o/\o.cls=.type "list"/\o.dict=none/\o.data=.seq its n/\its.size<=sizeLine/\Vals xs its.toList
def SqT(K:PySem.W.Frag)(H:Hp)(a:Addr)(xs:List V):Prop :=
 Rd H a (.tup xs) \/
  ∃(o:Obj) (its:Array Value) (n:Nat),K.lookup a=some o/\o.cls=.type "tuple"/\o.data=.seq its n/\its.size<=sizeLine/\Vals xs its.toList
def zvX:Value->Option V
 | .none=>some .non
 | .bool b=>some (.bl b)
 | .int i _=>some (.int i)
 | .str x _=>some (.str x)
 | .bytes b _=>some (.byt b)
 | .float b _=>some (.flt b)
 | .ref a=>some (.ref a)
 | .type n=>some (.ty n)
 | _=>none
theorem RelV.abs{x:V}{u:Value}(r:RelV x u):zvX u=some x:=by
 cases x with
 | non=>cases r;rfl
 | bl _=>cases r;rfl
 | int _=>obtain⟨t,rfl⟩:=r;rfl
 | str _=>obtain⟨t,rfl⟩:=r;rfl
 | byt _=>obtain⟨t,rfl⟩:=r;rfl
 | flt _=>obtain⟨t,rfl⟩:=r;rfl
 | ref _=>cases r;rfl
 | ty _=>cases r;rfl
theorem RelV.inj{x y:V}{u:Value}(r:RelV x u)(q:RelV y u):x=y:=Option.some.inj (r.abs.symm.trans q.abs)
theorem Vals.inj:∀{xs ys:List V} {us:List Value},Vals xs us->Vals ys us->xs=ys
 | _,_,_,.nil,.nil=>rfl
 | _,_,_,.cons r t,.cons r' t'=>by rw [r.inj r',Vals.inj t t']
section
variable {X:Cx}{pins:List (Addr×Obj)}{σ:St}{H:Hp}{s:Shared}{a:Addr}{xs ys:List V}
theorem SqL.of{K:PySem.W.Frag}(h:H a=some (.lst xs)):SqL K H a xs:=.inl (.inl h)
theorem Inv.list(I:Inv X pins σ H s)(h:SqL X.K H a xs):∃ its:List Value,Vals xs its/\PlainL s.heap a its.toArray/\xs.length<=sizeLine:=by
 rcases h with h|⟨o,its,n,hk,hc,hd,hs,hz,r⟩
 ·obtain⟨z,its,n,r,e⟩:=h.ok I.hok
  exact⟨its,r,⟨_,n,e,rfl,rfl,rfl⟩,z⟩
 ·refine⟨its.toList,r,⟨o,n,I.kIn a o hk,hc,hd,by simpa using hs⟩,?_⟩
  have e:=r.length
  simp only [Array.length_toList] at e
  omega
theorem Inv.tuple(I:Inv X pins σ H s)(h:SqT X.K H a xs):∃ its:List Value,Vals xs its/\IsTup s.heap a its.toArray/\xs.length<=sizeLine:=by
 rcases h with h|⟨o,its,n,hk,hc,hs,hz,r⟩
 ·obtain⟨z,its,r,p⟩:=h.ok I.hok
  exact⟨its,r,p,z⟩
 ·refine⟨its.toList,r,⟨o,I.kIn a o hk,hc,n,by simpa using hs⟩,?_⟩
  have e:=r.length
  simp only [Array.length_toList] at e
  omega
theorem Inv.zkA(I:Inv X pins σ H s)(h:SqL X.K H a xs)(h':SqL X.K H a ys):xs=ys:=by
 obtain⟨its,r,⟨o,n,e,_,_,d⟩,_⟩:=I.list h
 obtain⟨its',r',⟨o',n',e',_,_,d'⟩,_⟩:=I.list h'
 rw [e] at e';cases e'
 rw [d] at d'
 injection d' with d1 _
 have:its=its':=by simpa using congrArg Array.toList d1
 subst this
 exact r.inj r'
theorem Inv.zl2(I:Inv X pins σ H s)(h:SqT X.K H a xs)(h':SqT X.K H a ys):xs=ys:=by
 obtain⟨its,r,⟨o,e,_,n,d⟩,_⟩:=I.tuple h
 obtain⟨its',r',⟨o',e',_,n',d'⟩,_⟩:=I.tuple h'
 rw [e] at e';cases e'
 rw [d] at d'
 injection d' with d1 _
 have:its=its':=by simpa using congrArg Array.toList d1
 subst this
 exact r.inj r'
end
abbrev Cx.wish(X:Cx)(E:Value->Shared->Prop):Cx:={ X with xe:=E }
abbrev Cx.nox(X:Cx):Cx:=X.wish fun _ _=>False
theorem Cx.Ok.wish{X:Cx}(ok:X.Ok)(E:Value->Shared->Prop):(X.wish E).Ok :=
 ⟨ok.mod,ok.kind,ok.glob,ok.blt,ok.above,ok.inj,ok.has,ok.cab,ok.hd,ok.frames,ok.stk,ok.exf,ok.bs,ok.bsz,ok.noex,ok.exfs,ok.zlE,ok.frf,ok.tree,ok.sk⟩
theorem Cx.Ok.ze0{X:Cx}{E:Value->Shared->Prop}(ok:(X.wish E).Ok):X.Ok :=
 ⟨ok.mod,ok.kind,ok.glob,ok.blt,ok.above,ok.inj,ok.has,ok.cab,ok.hd,ok.frames,ok.stk,ok.exf,ok.bs,ok.bsz,ok.noex,ok.exfs,ok.zlE,ok.frf,ok.tree,ok.sk⟩
section
variable {X:Cx}{pins:List (Addr×Obj)}{σ:St}{H:Hp}{s:Shared}{E:Value->Shared->Prop}
theorem Inv.wish(I:Inv X pins σ H s)(E:Value->Shared->Prop):Inv (X.wish E) pins σ H s:=⟨I.ok.wish E,I.os,I.bare,I.base,I.loc,I.cell,I.free,I.freeC,I.pin,I.hok,I.len⟩
theorem Inv.ze0(I:Inv (X.wish E) pins σ H s):Inv X pins σ H s:=⟨I.ok.ze0,I.os,I.bare,I.base,I.loc,I.cell,I.free,I.freeC,I.pin,I.hok,I.len⟩
theorem SP.ze0{D:Ends}{f:Flow}{s':Shared}(h:SP (X.wish E) pins D f s'):SP X pins D f s':=by
 cases f with
 | next=>obtain⟨σ',H',I,q⟩:=h;exact⟨σ',H',I.ze0,q⟩
 | brk=>obtain⟨σ',H',I,q⟩:=h;exact⟨σ',H',I.ze0,q⟩
 | cont=>obtain⟨σ',H',I,q⟩:=h;exact⟨σ',H',I.ze0,q⟩
 | ret u=>obtain⟨v,σ',H',I,r,q⟩:=h;exact⟨v,σ',H',I.ze0,r,q⟩
theorem PSs.nox{st:List Stmt}{t:TS}(h:PSs X.nox st t):PSs X st t:=fun pins s σ H D I hw =>
 wpAny_mono (h pins s σ H D (I.wish _) hw) (fun _ _ q=>q.ze0) fun _ _ z=>False.elim z
end
section
variable {X:Cx}{st:Stmt}{rest:List Stmt}{t u:TS}{e:Expr}{te:TE}{pos:Pos}
def ztQ:TS:=fun D σ H=>D.nx σ H
def zvh(t u:TS):TS:=fun D σ H=>t { D with nx:=u D } σ H
theorem zmr:PSs X [] ztQ:=fun _ _ σ H _ I h=>wpAny_execs_nil ⟨σ,H,I,h⟩
theorem zoo(h1:PS X st t)(h2:PSs X rest u):PSs X (st::rest) (zvh t u):=by
 intro pins s σ H D I h
 refine wpAny_execs_cons (thn (h1 pins s σ H { D with nx:=u D } I h) fun f s1 q=>?_)
 cases f with
 | next =>
  obtain⟨σ',H',I',q⟩:=q
  exact h2 pins s1 σ' H' D I' q
 | ret v=>exact q
 | brk=>exact q
 | cont=>exact q
theorem zjB(h1:PS X st t):PSs X [st] t:=by
 intro pins s σ H D I h
 refine wpAny_execs_cons (thn (h1 pins s σ H D I h) fun f s1 q=>?_)
 cases f with
 | next=>exact wpAny_execs_nil q
 | ret v=>exact q
 | brk=>exact q
 | cont=>exact q
theorem Inv.quiet{pins:List (Addr×Obj)}{σ:St}{H:Hp}{s:Shared}(I:Inv X pins σ H s):interactive X.env=false:=by simp [interactive,I.ok.kind]
def ztR(te:TE):TS:=fun D σ H=>te σ H fun _ H1=>D.nx σ H1
theorem zmt(he:PE X e te)(hs:swapsWith e none pos.line X.env=pure false:=by rfl):PS X (.Expr e pos) (ztR te):=by
 intro pins s σ H D I h
 exact wpAny_Expr_any (thn (he pins s σ H _ I h) fun v s1 ⟨x,H1,I1,r1,q1⟩=>⟨σ,H1,I1,q1⟩) I.quiet hs
def zvi(te:TE):TS:=fun D σ H=>te σ H D.rt
theorem zms(he:PE X e te):PS X (.Return (some e) pos) (zvi te):=by
 intro pins s σ H D I h
 exact wpAny_Return_some (thn (he pins s σ H _ I h) fun v s1 ⟨x,H1,I1,r1,q1⟩=>⟨x,σ,H1,I1,r1,q1⟩)
def zvl(c:TT)(t u:TS):TS:=fun D σ H=>c σ H fun b H1=>if b=true then t D σ H1 else u D σ H1
theorem zsd{c:Expr}{a b:List Stmt}{tc:TT}(hc:PT X c tc)(ha:PSs X a t)(hb:PSs X b u):PS X (.If c a b pos) (zvl tc t u):=by
 intro pins s σ H D I h
 refine wpAny_If (thn (hc pins s σ H _ I h) fun d s1 ⟨H1,I1,q1⟩=>?_)
 cases d with
 | true=>exact ha pins s1 σ H1 D I1 q1
 | false=>exact hb pins s1 σ H1 D I1 q1
def zrI:TS:=fun _ _ _=>False
theorem zoq:PS X st zrI:=fun _ _ _ _ _ _ h=>h.elim
end
abbrev TG:=V->St->Hp->(St->Hp->Prop)->Prop
abbrev TGs:=List V->St->Hp->(St->Hp->Prop)->Prop
def PG(X:Cx)(target:Expr)(t:TG):Prop :=
 ∀(pins:List (Addr×Obj)) (s:Shared) (σ:St) (H:Hp) (v:V) (u:Value) (Q:St->Hp->Prop),Inv X pins σ H s->RelV v u->t v σ H Q ->
  wpAny (model X.prog X.w) X.A (assign target X.env u) (fun _ s'=>∃ σ' H',Inv X pins σ' H' s'/\Q σ' H') X.xe s
def PGs(X:Cx)(ts:List Expr)(t:TGs):Prop :=
 ∀(pins:List (Addr×Obj)) (s:Shared) (σ:St) (H:Hp) (vs:List V) (us:List Value) (Q:St->Hp->Prop),Inv X pins σ H s->Vals vs us->t vs σ H Q ->
  wpAny (model X.prog X.w) X.A (assignInOrder ((assignEach ts X.env).map (·.2)) us) (fun _ s'=>∃ σ' H',Inv X pins σ' H' s'/\Q σ' H') X.xe s
abbrev zuN:=V->V->V->Hp->(Hp->Prop)->Prop
def zva(X:Cx)(t:zuN):Prop :=
 ∀(pins:List (Addr×Obj)) (s:Shared) (σ:St) (H:Hp) (o i v:V) (ov iv u:Value) (Q:Hp->Prop),Inv X pins σ H s->RelV o ov->RelV i iv->RelV v u->t o i v H Q ->
  wpAny (model X.prog X.w) X.A (setItem ov iv u) (fun _ s'=>∃ H',Inv X pins σ H' s'/\Q H') X.xe s
section
variable {X:Cx}{pos:Pos}
def zna(i:Nat):TG:=fun v σ H Q=>Q (σ.set i (some v)) H
theorem zqE{i:Nat}{x:Str}(hN:X.N.Nodup)(hi:X.N[i]?=some x)(hx:Loc X.env.scope x)(hf:X.fn x=true\/X.env.scope.names.lookup x=some .local:=by first|exact .inl rfl|exact .inr rfl|assumption):PG X (.Name x pos) (zna i):=by
 intro pins s σ H v u Q I r h
 exact wpAny_assign_Name (zfu I hN hi hx r (fun s' I'=>⟨_,H,I',h⟩) hf)
def zvT:TGs:=fun vs σ H Q=>vs=[]/\Q σ H
def zux(t:TG)(u:TGs):TGs:=fun vs σ H Q=>∃ v r,vs=v::r/\t v σ H fun σ' H'=>u r σ' H' Q
theorem zqD:PGs X [] zvT:=by
 intro pins s σ H vs us Q I r h
 obtain⟨e,h⟩:=h
 subst e
 cases r
 exact assignInOrder_nil ⟨σ,H,I,h⟩
theorem zos{e:Expr}{es:List Expr}{t:TG}{u:TGs}(h1:PG X e t)(h2:PGs X es u)
  (hs:(assignEach (e::es) X.env).map (·.2)=assign e X.env::(assignEach es X.env).map (·.2):=by rfl):PGs X (e::es) (zux t u):=by
 intro pins s σ H vs us Q I r h
 obtain⟨v,vr,e1,h⟩:=h
 subst e1
 cases r with
 | cons r rr =>
  rw [hs]
  refine assignInOrder_cons (thn (h1 pins s σ H _ _ _ I r h) fun _ s1 ⟨σ1,H1,I1,q1⟩=>?_)
  exact h2 pins s1 σ1 H1 _ _ Q I1 rr q1
def zvR(K:PySem.W.Frag)(n:Nat)(t:TGs):TG:=fun v σ H Q=>∃ a xs,v=.ref a/\SqT K H a xs/\xs.length=n/\t xs σ H Q
theorem zsi{es:List Expr}{k:Nat}{t:TGs}{n:Nat}(hc:X.calm=true)(h:PGs X es t)
  (hn:(assignEach es X.env).length=n:=by rfl)(hst:(assignEach es X.env).findIdx? (·.1)=none:=by rfl):PG X (.Tuple es k pos) (zvR X.K n t):=by
 intro pins s σ H v u Q I r hw
 obtain⟨a,xs,e1,hq,hl,hw⟩:=hw
 subst e1
 cases r
 obtain⟨its,rv,ht,hz⟩:=I.tuple hq
 refine assign_Tuple_tuple (I.ok.hd hc) ht (by simp [hn,<- hl,rv.length]) hst fun h' hx=>?_
 have I1:Inv X pins σ H { s with heap:=h' }:=I.kept (t':=s.toks) fun b o e=>hx b o (Nat.ne_of_lt (Heap.lt_size e)) e
 exact h pins _ σ H xs _ Q I1 (by simpa using rv) hw
def zvS(to ti:TE)(t:zuN):TG:=fun v σ H Q=>to σ H fun o H1=>ti σ H1 fun i H2=>t o i v H2 fun H3=>Q σ H3
theorem zsj{o i:Expr}{to ti:TE}{t:zuN}(ho:PE X o to)(hi:PE X i ti)(hs:zva X t)
  (ha:∀ v,assign (.Subscript o i pos) X.env v=(do
   let ov <- holding [v] (eval o X.env)
   let iv <- holding [v,ov] (eval i X.env)
   standAt pos
   holding [v,ov,iv] (setItem ov iv v)
   release [v,ov,iv] []):=by intro _;rfl):PG X (.Subscript o i pos) (zvS to ti t):=by
 intro pins s σ H v u Q I r h
 rw [ha]
 refine wpAny_bind (wpAny_holding (thn (ho pins s σ H _ I h) fun ov s1 ⟨x,H1,I1,r1,q1⟩=>?_))
 refine wpAny_bind (wpAny_holding (thn (hi pins s1 σ H1 _ I1 q1) fun iv s2 ⟨y,H2,I2,r2,q2⟩=>?_))
 refine wpAny_bind (wpAny_standAt (wpAny_bind (wpAny_holding (thn (hs pins s2 σ H2 x y v ov iv u _ I2 r1 r2 r q2) fun _ s3 ⟨H3,I3,q3⟩=>?_))))
 exact wpAny_release ⟨σ,H3,I3,q3⟩
def zrM(te:TE)(g:TG):TS:=fun D σ H=>te σ H fun x H1=>g x σ H1 D.nx
theorem zpl{tg e:Expr}{te:TE}{g:TG}(he:PE X e te)(hg:PG X tg g)(hs:swapsWithSole [tg] e pos.line X.env=pure false:=by rfl)(hw:swappedStores [tg] e X.env=pure none:=by rfl)
  (h1:(assignEach [tg] X.env).map (·.2)=[assign tg X.env]:=by rfl):PS X (.Assign [tg] e pos) (zrM te g):=by
 intro pins s σ H D I h
 refine wpAny_Assign_stores (thn (he pins s σ H _ I h) fun v s1 ⟨x,H1,I1,r1,q1⟩=>?_) hs hw
 rw [h1]
 exact thn (hg pins s1 σ H1 x v _ I1 r1 q1) fun _ s2 q=>q
theorem zpj{i:Nat}{x:Str}{e:Expr}{te:TE}{pos':Pos}(hN:X.N.Nodup)(hi:X.N[i]?=some x)(hx:Loc X.env.scope x)(he:PE X e te)(hs:swapsWith e (some (.Name x pos')) pos.line X.env=pure false:=by rfl)(hf:X.fn x=true\/X.env.scope.names.lookup x=some .local:=by first|exact .inl rfl|exact .inr rfl|assumption) :
  PS X (.Assign [.Name x pos'] e pos) (zrM te (zna i)):=by
 intro pins s σ H D I h
 refine wpAny_Assign_Name (thn (he pins s σ H _ I h) fun v s1 ⟨y,H1,I1,r1,q1⟩=>?_) hs
 exact zfu I1 hN hi hx r1 (fun s2 I2=>⟨_,H1,I2,q1⟩) hf
def zvj(i j:Nat)(ta:TA):TS:=fun D σ H=>ta σ H fun vs H1=>∃ v w,vs=[v,w]/\D.nx ((σ.set i (some v)).set j (some w)) H1
theorem zsc{i j:Nat}{x y:Str}{a b:Expr}{ta:TA}{px py pt:Pos}{kt k2 pt2}(hc:X.calm=true)(hN:X.N.Nodup)(hi:X.N[i]?=some x)(hj:X.N[j]?=some y)(hij:i≠j)
  (hx:X.env.scope.names.lookup x=some .local)(hy:X.env.scope.names.lookup y=some .local)(ha:PA X [a,b] ta)
  (hw:swappedStores [.Tuple [.Name x px,.Name y py] kt pt] (.Tuple [a,b] k2 pt2) X.env=pure (some [x,y]))
  (hs:swapsWithSole [.Tuple [.Name x px,.Name y py] kt pt] (.Tuple [a,b] k2 pt2) pos.line X.env=pure false:=by rfl) :
  PS X (.Assign [.Tuple [.Name x px,.Name y py] kt pt] (.Tuple [a,b] k2 pt2) pos) (zvj i j ta):=by
 intro pins s σ H D I h
 rw [exec_Assign_arm]
 refine wpAny_bind (wpAny_standAt ?_)
 rw [hs]
 refine wpAny_bind (wpAny_pure ?_)
 rw [if_neg (by decide)]
 refine wpAny_bind (Tuple_ (thn (ha _ pins s σ H _ I h) fun us s1 ⟨vs,H1,I1,r1,q1⟩=>?_))
 obtain⟨v,w,e1,q1⟩:=q1
 subst e1
 obtain⟨u1,u2,rfl,rv,rw'⟩:∃ u1 u2,us=[u1,u2]/\RelV v u1/\RelV w u2:=by
  cases r1 with
  | cons p q =>
   cases q with
   | cons p' q' =>
    cases q'
    exact⟨_,_,rfl,p,p'⟩
 refine wpAny_newObj_type ?_ (by show 2<=sizeLine;decide)
 have I2:Inv X pins σ H1 { s1 with heap:=s1.heap.push { cls:=.type "tuple",data:=.seq [u1,u2].toArray } }:=I1.kept (t':=s1.toks) fun b o e=>Heap.get?_push_of_some _ e
 rw [hw]
 refine wpAny_bind (wpAny_pure ?_)
 show wpAny (model X.prog X.w) X.A (do rule "assign.swapped-stores";let items <- unpackItems (.ref s1.heap.objs.size) 2 none;assignInOrder [fun v=>bindName X.env y v,fun v=>bindName X.env x v] items.reverse;pure Flow.next) _ _ _
 refine wpAny_bind (wpAny_rule (wpAny_bind (unpackItems_tuple (items:=#[u1,u2]) (I.ok.hd hc) (IsTup.new s1.heap _) fun h' hx'=>?_)))
 have I3:=I2.kept (h':=h') (t':=s1.toks) fun b o e=>hx' b o (Nat.ne_of_lt (Heap.lt_size e)) e
 show wpAny _ _ (assignInOrder [fun v=>bindName X.env y v,fun v=>bindName X.env x v] [u2,u1] >>= fun _=>pure Flow.next) _ _ _
 refine wpAny_bind (assignInOrder_cons (wpAny_bindName (zfu I3 hN hj (.inl hy) rw' (fun s2 I4=>?_) (.inr hy))))
 refine assignInOrder_cons (wpAny_bindName (zfu I4 hN hi (.inl hx) rv (fun s3 I5=>assignInOrder_nil (wpAny_pure ?_)) (.inr hx)))
 rw [List.set_comm _ _ (Ne.symm hij)] at I5
 exact⟨_,H1,I5,q1⟩
end
section
variable {X:Cx}{pos:Pos}
def zrF(c:TT)(tb:TS):TS:=fun D σ H=>∃ W:Nat->St->Hp->Prop,(∃ m,W m σ H)/\∀ m σ H,W m σ H ->
 c σ H fun b H1=>if b=true then ∃ N:St->Hp->Prop,(∀ σ' H',N σ' H'->∃ m',m'<m/\W m' σ' H')/\tb { D with nx:=N,ct:=N,bk:=D.nx } σ H1 else D.nx σ H1
theorem zop{c:Expr}{body:List Stmt}{tc:TT}{tb:TS}(hp:PassesOwn (model X.prog X.w) X.A X.env X.xe)(hc:PT X c tc)(hb:PSs X body tb):PS X (.While c body [] pos) (zrF tc tb):=by
 intro pins s σ H D I h
 obtain⟨W,⟨m0,w0⟩,turn⟩:=h
 refine wpAny_While (codeAny_whileLoop (fun n s'=>∃ σ' H',Inv X pins σ' H' s'/\W n σ' H') ?_ m0 ⟨σ,H,I,w0⟩)
 rintro n s1 ⟨σ1,H1,I1,w1⟩
 refine wpAny_passesOwn hp (thn (hc pins s1 σ1 H1 _ I1 (turn n σ1 H1 w1)) fun b s2 ⟨H2,I2,q2⟩=>?_)
 cases b with
 | true =>
  obtain⟨N,hN,q2⟩:=q2
  rw [if_pos rfl]
  refine wpAny_passesOwn hp (thn (hb pins s2 σ1 H2 _ I2 q2) fun f s3 q3=>?_)
  cases f with
  | next =>
   obtain⟨σ3,H3,I3,n3⟩:=q3
   obtain⟨m',hm,w3⟩:=hN σ3 H3 n3
   exact⟨m',hm,σ3,H3,I3,w3⟩
  | cont =>
   obtain⟨σ3,H3,I3,n3⟩:=q3
   obtain⟨m',hm,w3⟩:=hN σ3 H3 n3
   exact⟨m',hm,σ3,H3,I3,w3⟩
  | brk=>exact q3
  | ret v=>exact q3
 | false =>
  rw [if_neg Bool.false_ne_true]
  exact wpAny_execs_nil ⟨σ1,H2,I2,q2⟩
end
structure It where
 go:Nat->Hp->Prop
 yld:Nat->Hp->V->Hp->Prop
 stop:Nat->Hp->Prop
def zgB(X:Cx)(pins:List (Addr×Obj))(H:Hp)(b:Addr):Prop :=
 H b=none/\b≠X.env.locals/\b∉X.fs/\(b∈X.ex\/X.s₀.heap.objs.size<=b)/\(∀ x c,X.env.cells.lookup x=some c->c≠b)/\∀ p∈X.pn++pins,p.1≠b
theorem Inv.znf{X:Cx}{pins:List (Addr×Obj)}{σ:St}{H H':Hp}{s:Shared}{b:Addr}(I:Inv X pins σ H s)(hb:s.heap.objs.size<=b)(hn:H' b=none):zgB X pins H' b:=by
 refine⟨hn,Nat.ne_of_gt (Nat.lt_of_lt_of_le I.lt hb),I.zvJ hb,.inr (Nat.le_trans I.sz hb),fun x c e z=>?_,fun p hp z=>?_⟩
 ·obtain⟨v,q⟩:=I.cell x c e
  exact absurd (Nat.lt_of_lt_of_le q.lt (by rw [z];exact hb)) (Nat.lt_irrefl _)
 ·exact absurd (Nat.lt_of_lt_of_le (Heap.lt_size (I.pin p hp).1) (by rw [z];exact hb)) (Nat.lt_irrefl _)
structure Turn(P:Program)(w:World)(K:PySem.W.Frag)(tg:Expr)(J:It)(fp:List Addr)(it:Addr)(tn:Nat->Heap->Prop):Prop where
 mem:it∈fp
 obj:∀ i h,tn i h->∀ b∈fp,∃ o,h.get? b=some o/\∀ v,o.data≠.cell v
 keep:∀ i h h',tn i h->(∀ b∈fp,∀ o,h.get? b=some o->h'.get? b=some o)->tn i h'
 item:∀(X:Cx),X.prog=P->X.w=w->X.K=K->X.calm=true->∀(i:Nat) (pins:List (Addr×Obj)) (s:Shared) (σ:St) (H:Hp) (E:Value->Shared->Prop),Inv X pins σ H s->(∀ b∈fp,zgB X pins H b)->tn i s.heap->J.go i H ->
  wpAny (model P w) X.A (pyNext (.ref it)) (fun r s1=>∃ u,r=some u /\
   wpAny (model P w) X.A (letOwnedTupleGo tg (.ref it) u) (fun _ s2=>∃ x H',Inv X pins σ H' s2/\RelV x u/\J.yld i H x H'/\tn (i+1) s2.heap/\∀ b∈fp,H' b=none) E s1) E s
 done:∀(X:Cx),X.prog=P->X.w=w->X.K=K->X.calm=true->∀(i:Nat) (pins:List (Addr×Obj)) (s:Shared) (σ:St) (H:Hp) (E:Value->Shared->Prop),Inv X pins σ H s->(∀ b∈fp,zgB X pins H b)->tn i s.heap->J.stop i H ->
  wpAny (model P w) X.A (pyNext (.ref it)) (fun r s1=>r=none/\Inv X pins σ H s1) E s
 self:∀(A:Around) (i:Nat) (s:Shared) (Q:Value->Shared->Prop) (E:Value->Shared->Prop),tn i s.heap->Q (.ref it) s->wpAny (model P w) A (pyIter (.ref it)) Q E s
abbrev TI:=St->Hp->(It->Hp->Prop)->Prop
def PIE(X:Cx)(pins:List (Addr×Obj))(σ:St)(tg:Expr)(R:It->Hp->Prop)(itv:Value)(s2:Shared):Prop :=
 ∃(it:Addr) (fp:List Addr) (tn:Nat->Heap->Prop) (J:It) (H':Hp),itv=.ref it/\Inv X pins σ H' s2/\Turn X.prog X.w X.K tg J fp it tn/\tn 0 s2.heap/\(∀ b∈fp,zgB X pins H' b)/\R J H'
def PI(X:Cx)(tg iter:Expr)(wi:TI):Prop :=
 ∀(pins:List (Addr×Obj)) (s:Shared) (σ:St) (H:Hp) (R:It->Hp->Prop),Inv X pins σ H s->wi σ H R ->
  wpAny (model X.prog X.w) X.A (eval iter X.env) (fun v s1=>wpAny (model X.prog X.w) X.A (pyIter v) (PIE X pins σ tg R) X.xe s1) X.xe s
theorem zoW{M:Model}{A:Around}{E:Value->Shared->Prop}{s:Shared}{tg:Expr}{it:Addr}{u:Value}{o:Obj}{n:String}{vs:Array Value}{Q:Unit->Shared->Prop}(ho:s.heap.get? it=some o)(hc:o.cls=.type n)(hd:o.data=.fields vs)
    (hn:["enumerate","zip","dict_itemiterator","dict_reverseitemiterator","odict_iterator","itertools.zip_longest","itertools.pairwise"].contains n=false) (hQ:Q () s):wpAny M A (letOwnedTupleGo tg (.ref it) u) Q E s:=by
  unfold letOwnedTupleGo
  cases tg <;> first
    | exact wpAny_pure hQ
    | (cases u <;> first
        | exact wpAny_pure hQ
        | (refine wpAny_bind (wpAny_load ho ?_)
           rw [hc,hd]
           show wpAny M A (if(["enumerate","zip","dict_itemiterator","dict_reverseitemiterator","odict_iterator","itertools.zip_longest","itertools.pairwise"].contains n&&vs[0]?==some (rawInt _))=true then _ else _) Q E s
           rw [if_neg (by intro h;rw [hn,Bool.false_and] at h;cases h)]
           exact wpAny_pure hQ))
def Itl(K:PySem.W.Frag)(a:Addr):It :=
 ⟨fun i H=>∃ xs x,SqL K H a xs/\xs[i]?=some x,fun i H x H'=>H'=H/\∀ xs,SqL K H a xs->xs[i]?=some x,fun i H=>∃ xs,SqL K H a xs/\xs.length<=i⟩
def Itt(K:PySem.W.Frag)(a:Addr):It :=
 ⟨fun i H=>∃ xs x,SqT K H a xs/\xs[i]?=some x,fun i H x H'=>H'=H/\∀ xs,SqT K H a xs->xs[i]?=some x,fun i H=>∃ xs,SqT K H a xs/\xs.length<=i⟩
def Itr(lo:Int)(n:Nat):It:=⟨fun i _=>i<n,fun i H x H'=>H'=H/\x=.int (lo+i),fun i _=>n<=i⟩
theorem zit{P:Program}{w:World}{K:PySem.W.Frag}{tg:Expr}(a it:Addr):Turn P w K tg (Itl K a) [it] it (fun i h=>h.IsListIter it a i) where
 mem:=by simp
 obj:=fun i h st b hb=>by
  have e:b=it:=by simpa using hb
  subst e
  obtain⟨o,e,c,d⟩:=st
  exact⟨o,e,fun v z=>by rw [d] at z;cases z⟩
 keep:=fun i h h' st k=>st.at fun o e=>k it (by simp) o e
 item:=by
  intro X hP hw hK hc i pins s σ H E I hf st hg
  subst hP hw hK
  obtain⟨xs,x,hq,hx⟩:=hg
  obtain⟨its,rv,p,hz⟩:=I.list hq
  obtain⟨u,hu,ru⟩:=rv.get hx
  obtain⟨f0,f1,f2,f3,f4,f5⟩:=hf it (by simp)
  refine wpAny_pyNext_list_item st p.isList (x:=u) (by simpa using hu) fun h' st' sb=>?_
  have I1:Inv X pins σ H { s with heap:=h' }:=I.turned (t':=s.toks) (fun b o hb e=>(sb.2 b hb).trans e) f0 f1 f3 f4 f5
  obtain⟨o,e,c,d⟩:=id st'
  exact⟨u,rfl,zoW (s:={ s with heap:=h' }) e c d (by decide) ⟨x,H,I1,ru,⟨rfl,fun ys hy=>by rw [I.zkA hy hq];exact hx⟩,st',fun b hb=>(hf b hb).1⟩⟩
 done:=by
  intro X hP hw hK hc i pins s σ H E I hf st hg
  subst hP hw hK
  obtain⟨xs,hq,hx⟩:=hg
  obtain⟨its,rv,p,hz⟩:=I.list hq
  obtain⟨f0,f1,f2,f3,f4,f5⟩:=hf it (by simp)
  have hl:=rv.length
  exact wpAny_pyNext_list_end (I.ok.hd hc) st p.isList (by simp;omega) fun h' eb=>⟨rfl,I.turned (t':=s.toks) (fun b o hb e=>eb b o hb e) f0 f1 f3 f4 f5⟩
 self:=fun _ _ _ _ _ st h=>wpAny_pyIter_listiter st h
theorem zk2{P:Program}{w:World}{K:PySem.W.Frag}{tg:Expr}(a it:Addr):Turn P w K tg (Itt K a) [it] it (fun i h=>h.IsTupleIter it a i) where
 mem:=by simp
 obj:=fun i h st b hb=>by
  have e:b=it:=by simpa using hb
  subst e
  obtain⟨o,e,c,d⟩:=st
  exact⟨o,e,fun v z=>by rw [d] at z;cases z⟩
 keep:=fun i h h' st k=>st.at fun o e=>k it (by simp) o e
 item:=by
  intro X hP hw hK hc i pins s σ H E I hf st hg
  subst hP hw hK
  obtain⟨xs,x,hq,hx⟩:=hg
  obtain⟨its,rv,p,hz⟩:=I.tuple hq
  obtain⟨u,hu,ru⟩:=rv.get hx
  obtain⟨f0,f1,f2,f3,f4,f5⟩:=hf it (by simp)
  refine wpAny_pyNext_tuple_item st (show s.heap.IsTuple a its.toArray from p) (x:=u) (by simpa using hu) fun h' st' sb=>?_
  have I1:Inv X pins σ H { s with heap:=h' }:=I.turned (t':=s.toks) (fun b o hb e=>(sb.2 b hb).trans e) f0 f1 f3 f4 f5
  obtain⟨o,e,c,d⟩:=id st'
  exact⟨u,rfl,zoW (s:={ s with heap:=h' }) e c d (by decide) ⟨x,H,I1,ru,⟨rfl,fun ys hy=>by rw [I.zl2 hy hq];exact hx⟩,st',fun b hb=>(hf b hb).1⟩⟩
 done:=by
  intro X hP hw hK hc i pins s σ H E I hf st hg
  subst hP hw hK
  obtain⟨xs,hq,hx⟩:=hg
  obtain⟨its,rv,p,hz⟩:=I.tuple hq
  obtain⟨f0,f1,f2,f3,f4,f5⟩:=hf it (by simp)
  have hl:=rv.length
  exact wpAny_pyNext_tuple_end (I.ok.hd hc) st (show s.heap.IsTuple a its.toArray from p) (by simp;omega) fun h' eb=>⟨rfl,I.turned (t':=s.toks) (fun b o hb e=>eb b o hb e) f0 f1 f3 f4 f5⟩
 self:=fun _ _ _ _ _ st h=>wpAny_pyIter_tupleiter st h
theorem zk3{P:Program}{w:World}{K:PySem.W.Frag}{tg:Expr}(it:Addr)(lo:Int)(n:Nat):Turn P w K tg (Itr lo n) [it] it (fun i h=>IsRangeIter h it (lo+(i:Nat)*1) ((n:Int)-(i:Nat)) 1) where
 mem:=by simp
 obj:=fun i h st b hb=>by
  have e:b=it:=by simpa using hb
  subst e
  exact⟨_,st,fun v z=>by
   have z':Data.fields _=Data.cell v:=z
   cases z'⟩
 keep:=fun i h h' st k=>k it (by simp) _ st
 item:=by
  intro X hP hw hK hc i pins s σ H E I hf st hg
  subst hP hw hK
  obtain⟨f0,f1,f2,f3,f4,f5⟩:=hf it (by simp)
  have W:=Walks.range (prog:=X.prog) (w:=X.w) (I.ok.hd hc) it lo 1 n
  refine W.item i s _ _ hg st fun v h' tk hv st' kk=>?_
  obtain⟨t,rfl⟩:=hv
  have I1:Inv X pins σ H { s with heap:=h',toks:=tk }:=I.turned (fun b o hb e=>kk b o (by simpa using hb) e) f0 f1 f3 f4 f5
  refine⟨_,rfl,zoW (s:={ s with heap:=h',toks:=tk }) (n:="range_iterator") st' rfl rfl (by decide) ⟨.int (lo+i),H,I1,⟨t,?_⟩,⟨rfl,rfl⟩,st',fun b hb=>(hf b hb).1⟩⟩
  rw [Int.mul_one]
 done:=by
  intro X hP hw hK hc i pins s σ H E I hf st hg
  subst hP hw hK
  obtain⟨f0,f1,f2,f3,f4,f5⟩:=hf it (by simp)
  exact wpAny_pyNext_range_end (I.ok.hd hc) st (by have:n<=i:=hg;omega) fun h' eb=>⟨rfl,I.turned (t':=s.toks) (fun b o hb e=>eb b o hb e) f0 f1 f3 f4 f5⟩
 self:=fun _ _ _ _ _ st h=>wpAny_pyIter_rangeiter st h
end L2
namespace L2
open PySem PySem.Spec PyProof.Rows
section
variable {X:Cx}{tg:Expr}
def zus(K:PySem.W.Frag)(tl:TE):TI:=fun σ H R=>tl σ H fun x H1=>∃ a,x=.ref a/\(∃ xs,SqL K H1 a xs)/\R (Itl K a) H1
theorem zqB{l:Expr}{tl:TE}(hl:PE X l tl):PI X tg l (zus X.K tl):=by
 intro pins s σ H R I h
 refine thn (hl pins s σ H _ I h) fun v s1 ⟨x,H1,I1,r1,q1⟩=>?_
 obtain⟨a,e,⟨xs,hq⟩,q⟩:=q1
 subst e
 cases r1
 obtain⟨its,rv,p,hz⟩:=I1.list hq
 refine wpAny_pyIter_list p.isList ?_
 refine⟨s1.heap.objs.size,[s1.heap.objs.size],_,_,H1,rfl,I1.kept (t':=s1.toks) fun b o e=>Heap.get?_push_of_some _ e,zit a _,⟨_,Heap.get?_push_size _ rfl,rfl,rfl⟩,fun b hb=>?_,q⟩
 have e:b=s1.heap.objs.size:=by simpa using hb
 subst e
 exact I1.znf (Nat.le_refl _) (I1.hok.fresh (Nat.le_refl _))
theorem zn7{pins:List (Addr×Obj)}{σ:St}{H:Hp}{s:Shared}{R:It->Hp->Prop}{E:Value->Shared->Prop}{lo hi:Int}{t u v:Tok}{tk:Nat}(I:Inv X pins σ H s)(h1:-(2^62)<=lo)(h2:lo<2^62)(h3:-(2^62)<=hi)(h4:hi<2^62)
  (q:R (Itr lo (hi-lo).toNat) H):wpAny (model X.prog X.w) X.A (pyIter (.ref s.heap.objs.size)) (PIE X pins σ tg R) E { s with heap:=s.heap.push { cls:=.type "range",data:=.fields #[.int lo t,.int hi u,.int 1 v] },toks:=tk }:=by
 refine wpAny_pyIter_range (IsRange.new ..) (small_one h1 h2 h3 h4) ?_
 have I1:Inv X pins σ H { s with heap:=s.heap.push { cls:=.type "range",data:=.fields #[.int lo t,.int hi u,.int 1 v] },toks:=tk }:=I.kept fun b o e=>Heap.get?_push_of_some _ e
 refine⟨(s.heap.push { cls:=.type "range",data:=.fields #[.int lo t,.int hi u,.int 1 v] }).objs.size,[(s.heap.push { cls:=.type "range",data:=.fields #[.int lo t,.int hi u,.int 1 v] }).objs.size],_,_,H,rfl,
  I1.kept (t':=tk) fun b o e=>Heap.get?_push_of_some _ e,zk3 _ lo (hi-lo).toNat,?_,fun b hb=>?_,q⟩
 ·have e1:lo+((0:Nat):Int)*1=lo:=by simp
  have e2:(((hi-lo).toNat:Nat):Int)-((0:Nat):Int)=Builtin.Range.rangeSize lo hi 1:=by rw [rangeSize_one];split <;> omega
  show IsRangeIter _ _ (lo+((0:Nat):Int)*1) ((((hi-lo).toNat:Nat):Int)-((0:Nat):Int)) 1
  rw [e1,e2]
  exact Heap.get?_push_size _ rfl
 ·have e:b=(s.heap.push { cls:=.type "range",data:=.fields #[.int lo t,.int hi u,.int 1 v] }).objs.size:=by simpa using hb
  subst e
  exact I1.znf (Nat.le_refl _) (I1.hok.fresh (Nat.le_refl _))
def zur(ta:TA):TI:=fun σ H R=>ta σ H fun vs H1=>∃ j:Int,vs=[.int j]/\-(2^62)<=j/\j<2^62/\R (Itr 0 j.toNat) H1
theorem zmz{a:Expr}{ta:TA}{p pos:Pos}(hg:Gl X "range") (hm:X.mg "range"=none) (ha:PA X [a] ta) (hs:starEach [a] X.env=[(false,eval a X.env)]:=by rfl):PI X tg (.Call (.Name "range" p) [a] [] pos) (zur ta):=by
 intro pins s σ H R I h
 refine Call_ (zfX I hg hm boot_range (PyProof.Rows.callWith_type1 (thn (ha pos pins s σ H _ I h) fun us s1 ⟨vs,H1,I1,r1,q1⟩=>?_) hs rfl))
 obtain⟨j,e,q1,q2,q⟩:=q1
 subst e
 cases r1 with
 | cons r rr =>
  cases rr
  obtain⟨t,rfl⟩:=r
  exact call_range_1 (zn7 I1 (by omega) (by omega) q1 q2 (by simpa using q))
def zvm(wi:TI)(g:TG)(tb:TS):TS:=fun D σ H=>wi σ H fun J H1=>∃ W:Nat->Nat->St->Hp->Prop,(∃ m,W 0 m σ H1)/\∀ i m σ H,W i m σ H ->
 (J.stop i H/\D.nx σ H)\/(J.go i H/\∃ N:St->Hp->Prop,(∀ σ' H',N σ' H'->∃ m',m'<m/\W (i+1) m' σ' H')/\∀ x H',J.yld i H x H'->g x σ H' fun σ2 H2=>tb { D with nx:=N,ct:=N,bk:=D.nx } σ2 H2)
def zg6(fp:List Addr)(h:Heap):List (Addr×Obj):=fp.filterMap fun b=>(h.get? b).map fun o=>(b,o)
theorem zci{fp:List Addr}{h:Heap}{b:Addr}{o:Obj}(hb:b∈fp)(e:h.get? b=some o):(b,o)∈zg6 fp h:=List.mem_filterMap.mpr ⟨b,hb,by rw [e];rfl⟩
theorem zmD{fp:List Addr}{h:Heap}{p:Addr×Obj}(hp:p∈zg6 fp h):p.1∈fp/\h.get? p.1=some p.2:=by
 obtain⟨b,hb,e⟩:=List.mem_filterMap.mp hp
 cases q:h.get? b with
 | none=>rw [q] at e;cases e
 | some o =>
  rw [q] at e
  have e':(b,o)=p:=Option.some.inj e
  subst e'
  exact⟨hb,q⟩
theorem Inv.pinned{pins:List (Addr×Obj)}{σ:St}{H:Hp}{s:Shared}{fp:List Addr}(I:Inv X pins σ H s)(hf:∀ b∈fp,zgB X pins H b)(ho:∀ b∈fp,∃ o,s.heap.get? b=some o/\∀ v,o.data≠.cell v):Inv X (pins++zg6 fp s.heap) σ H s :=
 I.zhP fun p hp=>(List.mem_append.mp hp).elim (fun z=>I.pin p (List.mem_append_right _ z)) fun z=>by
  obtain⟨hb,e⟩:=zmD z
  obtain⟨f0,f1,f2,_⟩:=hf p.1 hb
  obtain⟨o,e',d⟩:=ho p.1 hb
  rw [e] at e';cases e'
  exact⟨e,f0,f1,f2,d⟩
theorem Inv.zcO{pins pl:List (Addr×Obj)}{σ:St}{H:Hp}{s:Shared}(I:Inv X (pins++pl) σ H s):Inv X pins σ H s:=I.zhP fun p hp=>I.pin p (List.mem_append_right _ (List.mem_append_left _ hp))
theorem zpk{iter:Expr}{body:List Stmt}{wi:TI}{g:TG}{tb:TS}{pos:Pos}(hp:PassesOwn (model X.prog X.w) X.A X.env X.xe)(hc:X.calm=true)(hi:PI X tg iter wi)(hg:PG X tg g)(hb:PSs X body tb)
  (hs:∀ x,foldedSetIterable iter X.env x=pure x:=by intro _;rfl):PS X (.For tg iter body [] pos) (zvm wi g tb):=by
 intro pins s σ H D I h
 refine wpAny_For (thn (hi pins s σ H _ I h) fun v s1 h1=>thn h1 fun itv s2 h2=>?_) hs
 obtain⟨it,fp,tn,J,H2,e,I2,T,st2,f2,W,⟨m0,w0⟩,turn⟩:=h2
 subst e
 have stat:∀{H':Hp},(∀ b∈fp,H' b=none)->∀ b∈fp,zgB X pins H' b:=fun hn b hb=>⟨hn b hb,(f2 b hb).2⟩
 refine codeAny_forLoop_any (fun n s'=>∃ i σ' H',Inv X pins σ' H' s'/\tn i s'.heap/\(∀ b∈fp,H' b=none)/\W i n σ' H') ?_ m0 ⟨0,σ,H2,I2,st2,fun b hb=>(f2 b hb).1,w0⟩
 rintro n s3 ⟨i,σ3,H3,I3,st3,fr3,w3⟩
 rcases turn i n σ3 H3 w3 with⟨stop,qn⟩|⟨go,N,hN,step⟩
 ·refine wpAny_passesOwn hp (thn (T.done X rfl rfl rfl hc i pins s3 σ3 H3 X.xe I3 (stat fr3) st3 stop) fun r s4 ⟨hr,I4⟩=>?_)
  subst hr
  exact wpAny_execs_nil ⟨σ3,H3,I4,qn⟩
 ·refine wpAny_passesOwn hp (thn (T.item X rfl rfl rfl hc i pins s3 σ3 H3 X.xe I3 (stat fr3) st3 go) fun r s4 ⟨u,hr,h4⟩=>?_)
  subst hr
  refine wpAny_passesOwn hp (thn h4 fun _ s5 ⟨x,H5,I5,r5,y5,st5,fr5⟩=>?_)
  have I5':=I5.pinned (stat fr5) (T.obj _ _ st5)
  refine wpAny_passesOwn hp (thn (hg _ s5 σ3 H5 x u _ I5' r5 (step x H5 y5)) fun _ s6 ⟨σ6,H6,I6,q6⟩=>?_)
  refine wpAny_passesOwn hp (thn (hb _ s6 σ6 H6 _ I6 q6) fun f s7 q7=>?_)
  have again:∀{σ7:St} {H7:Hp},Inv X (pins++zg6 fp s5.heap) σ7 H7 s7->N σ7 H7->∃ m,m<n/\∃ i σ' H',Inv X pins σ' H' s7/\tn i s7.heap/\(∀ b∈fp,H' b=none)/\W i m σ' H':=fun{σ7 H7} I7 n7=>by
   obtain⟨m',hm,w7⟩:=hN σ7 H7 n7
   refine⟨m',hm,i+1,σ7,H7,I7.zcO,T.keep _ _ _ st5 fun b hb o e=>(I7.pin (b,o) (List.mem_append_right _ (List.mem_append_right _ (zci hb e)))).1,fun b hb=>?_,w7⟩
   obtain⟨o,e,d⟩:=T.obj _ _ st5 b hb
   exact(I7.pin (b,o) (List.mem_append_right _ (List.mem_append_right _ (zci hb e)))).2.1
  cases f with
  | next=>obtain⟨σ7,H7,I7,n7⟩:=q7;exact again I7 n7
  | cont=>obtain⟨σ7,H7,I7,n7⟩:=q7;exact again I7 n7
  | brk=>obtain⟨σ7,H7,I7,q7⟩:=q7;exact⟨σ7,H7,I7.zcO,q7⟩
  | ret v=>obtain⟨x7,σ7,H7,I7,r7,q7⟩:=q7;exact⟨x7,σ7,H7,I7.zcO,r7,q7⟩
end
end L2
namespace L2
open PySem PySem.Spec PyProof.Rows
abbrev R2:=V->V->Hp->VK->Prop
def OpR(X:Cx)(f:Value->Value->Sem Value)(r:R2):Prop :=
 ∀(pins:List (Addr×Obj)) (s:Shared) (σ:St) (H:Hp) (x y:V) (v u:Value) (Q:VK),Inv X pins σ H s->RelV x v->RelV y u->r x y H Q ->
  wpAny (model X.prog X.w) X.A (f v u) (EP X pins σ Q) X.xe s
def UnR(X:Cx)(f:Value->Sem Value)(r:V->Hp->VK->Prop):Prop :=
 ∀(pins:List (Addr×Obj)) (s:Shared) (σ:St) (H:Hp) (x:V) (v:Value) (Q:VK),Inv X pins σ H s->RelV x v->r x H Q ->
  wpAny (model X.prog X.w) X.A (f v) (EP X pins σ Q) X.xe s
def zeY(X:Cx)(f:Value)(r:List V->Hp->VK->Prop):Prop :=
 ∀(pins:List (Addr×Obj)) (s:Shared) (σ:St) (H:Hp) (xs:List V) (us:List Value) (Q:VK),Inv X pins σ H s->Vals xs us->r xs H Q ->
  wpAny (model X.prog X.w) X.A (call f us) (EP X pins σ Q) X.xe s
def zuM(X:Cx)(r:V->Hp->(Bool->Hp->Prop)->Prop):Prop :=
 ∀(pins:List (Addr×Obj)) (s:Shared) (σ:St) (H:Hp) (x:V) (v:Value) (Q:Bool->Hp->Prop),Inv X pins σ H s->RelV x v->r x H Q ->
  wpAny (model X.prog X.w) X.A (truthy v) (TP X pins σ Q) X.xe s
def tOp(r:R2)(ta tb:TE):TE:=fun σ H Q=>ta σ H fun x H1=>tb σ H1 fun y H2=>r x y H2 Q
def tUn(r:V->Hp->VK->Prop)(ta:TE):TE:=fun σ H Q=>ta σ H fun x H1=>r x H1 Q
def rI(C:Int->Int->Prop)(g:Int->Int->V):R2:=fun x y H Q=>∃ i j,x=.int i/\y=.int j/\C i j/\Q (g i j) H
def rI0(g:Int->Int->V):R2:=fun x y H Q=>∃ i j,x=.int i/\y=.int j/\Q (g i j) H
def rU(g:Int->V):V->Hp->VK->Prop:=fun x H Q=>∃ i,x=.int i/\Q (g i) H
section
variable {X:Cx}{a b c:Expr}{ta tb tc:TE}{pos:Pos}
theorem zuJ(ha:PE X a ta)(hb:PE X b tb){pins:List (Addr×Obj)}{s:Shared}{σ:St}{H:Hp}{R:V->V->Hp->Prop}(I:Inv X pins σ H s)
  (h:ta σ H fun x H1=>tb σ H1 fun y H2=>R x y H2){Q:Value->Shared->Prop}{f:Value->Value->Sem Value}
  (hf:∀ v u s2 x y H2,Inv X pins σ H2 s2->RelV x v->RelV y u->R x y H2->wpAny (model X.prog X.w) X.A (f v u) Q X.xe s2) :
  wpAny (model X.prog X.w) X.A (eval a X.env) (fun v s₁=>wpAny (model X.prog X.w) X.A (eval b X.env) (fun u s₂=>wpAny (model X.prog X.w) X.A (f v u) Q X.xe s₂) X.xe s₁) X.xe s:=by
 refine thn (ha pins s σ H _ I h) fun v s1 ⟨x,H1,I1,r1,q1⟩=>?_
 refine thn (hb pins s1 σ H1 _ I1 q1) fun u s2 ⟨y,H2,I2,r2,q2⟩=>?_
 exact hf v u s2 x y H2 I2 r1 r2 q2
theorem zt6{op:Operator}{r:R2}(ho:OpR X (binaryOp op) r)(ha:PE X a ta)(hb:PE X b tb):PE X (.BinOp a op b pos) (tOp r ta tb):=by
 intro pins s σ H Q I h
 exact wpAny_BinOp (zuJ ha hb I h fun v u s2 x y H2 I2 rx ry q=>ho pins s2 σ H2 x y v u Q I2 rx ry q)
theorem zt5{op:UnaryOp}{r:V->Hp->VK->Prop}(ho:UnR X (unaryOp op) r)(ha:PE X a ta):PE X (.UnaryOp op a pos) (tUn r ta):=by
 intro pins s σ H Q I h
 exact UnaryOp_ (thn (ha pins s σ H _ I h) fun v s1 ⟨x,H1,I1,r1,q1⟩=>ho pins s1 σ H1 x v Q I1 r1 q1)
theorem opI{f:Value->Value->Sem Value}{C:Int->Int->Prop}{g:Int->Int->Int}
  (rule:∀(i j:Int) (t u:Tok) (s:Shared) (Q:Value->Shared->Prop) (E:Value->Shared->Prop),C i j->Q (.int (g i j) s.toks) { s with toks:=s.toks+1 }->wpAny (model X.prog X.w) X.A (f (.int i t) (.int j u)) Q E s) :
  OpR X f (rI C fun i j=>.int (g i j)):=by
 intro pins s σ H x y v u Q I rx ry h
 obtain⟨i,j,rfl,rfl,hc,q⟩:=h
 obtain⟨t,rfl⟩:=rx
 obtain⟨t',rfl⟩:=ry
 exact rule i j t t' s _ _ hc ⟨.int (g i j),H,I.tok _,⟨_,rfl⟩,q⟩
theorem zuZ{f:Value->Value->Sem Value}{g:Int->Int->Int}
  (rule:∀(i j:Int) (t u:Tok) (s:Shared) (Q:Value->Shared->Prop) (E:Value->Shared->Prop),Q (.int (g i j) s.toks) { s with toks:=s.toks+1 }->wpAny (model X.prog X.w) X.A (f (.int i t) (.int j u)) Q E s) :
  OpR X f (rI0 fun i j=>.int (g i j)):=by
 intro pins s σ H x y v u Q I rx ry h
 obtain⟨i,j,rfl,rfl,q⟩:=h
 obtain⟨t,rfl⟩:=rx
 obtain⟨t',rfl⟩:=ry
 exact rule i j t t' s _ _ ⟨.int (g i j),H,I.tok _,⟨_,rfl⟩,q⟩
theorem ztC{f:Value->Value->Sem Value}{g:Int->Int->Bool}
  (rule:∀(i j:Int) (t u:Tok) (s:Shared) (Q:Value->Shared->Prop) (E:Value->Shared->Prop),Q (.bool (g i j)) s->wpAny (model X.prog X.w) X.A (f (.int i t) (.int j u)) Q E s) :
  OpR X f (rI0 fun i j=>.bl (g i j)):=by
 intro pins s σ H x y v u Q I rx ry h
 obtain⟨i,j,rfl,rfl,q⟩:=h
 obtain⟨t,rfl⟩:=rx
 obtain⟨t',rfl⟩:=ry
 exact rule i j t t' s _ _ ⟨.bl (g i j),H,I,rfl,q⟩
def zvd(i j:Int):Prop:=0<=j/\j<=1000000/\i.natAbs<2^64
theorem zsC:OpR X (binaryOp .Add) (rI0 fun i j=>.int (i+j)):=zuZ fun _ _ _ _ _ _ _ q=>add_int q
theorem zsw:OpR X (binaryOp .Sub) (rI0 fun i j=>.int (i-j)):=zuZ fun _ _ _ _ _ _ _ q=>sub_int q
theorem zqN:OpR X (binaryOp .Mod) (rI (fun _ j=>j≠0) fun i j=>.int (i.fmod j)):=opI fun _ _ _ _ _ _ _ hc q=>mod_int' hc q
theorem zsx:OpR X (binaryOp .Pow) (rI zvd fun i j=>.int (i^j.toNat)):=opI fun _ _ _ _ _ _ _ hc q=>pow_int_small hc.1 hc.2.1 hc.2.2 q
theorem unI{f:Value->Sem Value}{g:Int->Int}
  (rule:∀(i:Int) (t:Tok) (s:Shared) (Q:Value->Shared->Prop) (E:Value->Shared->Prop),Q (.int (g i) s.toks) { s with toks:=s.toks+1 }->wpAny (model X.prog X.w) X.A (f (.int i t)) Q E s) :
  UnR X f (rU fun i=>.int (g i)):=by
 intro pins s σ H x v Q I rx h
 obtain⟨i,rfl,q⟩:=h
 obtain⟨t,rfl⟩:=rx
 exact rule i t s _ _ ⟨.int (g i),H,I.tok _,⟨_,rfl⟩,q⟩
theorem zrC:UnR X (unaryOp .USub) (rU fun i=>.int (-i)):=unI fun _ _ _ _ _ q=>neg_int q
end
section
variable {X:Cx}{a b c:Expr}{ta tb tc:TE}{pos:Pos}
theorem zpI{pins:List (Addr×Obj)}{σ:St}{H:Hp}{s:Shared}{Q:VK}{k k':Bool}(I:Inv X pins σ H s)(q:Q (.bl k) H)(e:k=k'):EP X pins σ Q (.bool k') s:=by
 subst e
 exact⟨.bl k,H,I,rfl,q⟩
theorem zub:OpR X (compareOp .Lt) (rI0 fun i j=>.bl (decide (i<j))):=ztC fun _ _ _ _ _ _ _ q=>lt_int q
theorem zuc:OpR X (compareOp .LtE) (rI0 fun i j=>.bl (decide (i<=j))):=ztC fun _ _ _ _ _ _ _ q=>le_int q
theorem zud:OpR X (compareOp .Gt) (rI0 fun i j=>.bl (decide (j<i))):=ztC fun _ _ _ _ _ _ _ q=>gt_int q
theorem zue:OpR X (compareOp .GtE) (rI0 fun i j=>.bl (decide (j<=i))):=ztC fun _ _ _ _ _ _ _ q=>ge_int q
theorem zmC:OpR X (compareOp .In) (fun x y H Q=>∃ i j,x=.str i/\y=.str j/\Q (.bl (!(Builtin.Str.occurrences j i 0 j.length 1).isEmpty)) H):=by
 intro pins s σ H x y v u Q I rx ry h
 obtain⟨i,j,rfl,rfl,q⟩:=h
 obtain⟨t,rfl⟩:=rx
 obtain⟨t',rfl⟩:=ry
 exact in_str (zpI I q rfl)
theorem zsz:OpR X (compareOp .Is) (fun x y H Q=>y=.non/\Q (.bl (decide (x=.non))) H):=by
 intro pins s σ H x y v u Q I rx ry h
 obtain⟨rfl,q⟩:=h
 cases ry
 refine is_none_gen (zpI I q ?_)
 cases x <;> first
  | (cases rx;rfl)
  | (obtain⟨t,rfl⟩:=rx;rfl)
theorem zkv(b:Expr){op:CmpOp}(h:op≠.In:=by decide)(h2:op≠.NotIn:=by decide):behindInMarks op b=false:=by
 have e1:(op==CmpOp.In)=false:=by cases op <;> first|rfl|exact absurd rfl h
 have e2:(op==CmpOp.NotIn)=false:=by cases op <;> first|rfl|exact absurd rfl h2
 cases b <;> simp [behindInMarks,e1,e2]
theorem zqF{op:CmpOp}{r:R2}(ho:OpR X (compareOp op) r)(ha:PE X a ta)(hb:PE X b tb)(hm:behindInMarks op b=false):PE X (.Compare a [op] [b] pos) (tOp r ta tb):=by
 intro pins s σ H Q I h
 exact wpAny_Compare1 (zuJ ha hb I h fun v u s2 x y H2 I2 rx ry q=>ho pins s2 σ H2 x y v u Q I2 rx ry q) hm
def zrG(t:TE):TT:=fun σ H Q=>t σ H fun x H'=>∃ k,x=.bl k/\Q k H'
theorem zjA{op:CmpOp}{r:R2}(ho:OpR X (compareOp op) r)(ha:PE X a ta)(hb:PE X b tb)(hm:behindInMarks op b=false):PT X (.Compare a [op] [b] pos) (zrG (tOp r ta tb)):=by
 intro pins s σ H Q I h
 refine wpAny_isTrue_Compare1 (thn (ha pins s σ H _ I h) fun v s1 ⟨x,H1,I1,r1,q1⟩=>thn (hb pins s1 σ H1 _ I1 q1) fun u s2 ⟨y,H2,I2,r2,q2⟩ =>
  thn (ho pins s2 σ H2 x y v u _ I2 r1 r2 q2) fun c s3 ⟨z,H3,I3,r3,k,e,q3⟩=>?_) hm
 subst e
 cases r3
 exact wpAny_truthy_bool ⟨H3,I3,q3⟩
def zpg(r r':R2)(ta tb tc:TE):TE:=fun σ H Q=>ta σ H fun x H1=>tb σ H1 fun y H2=>r x y H2 fun z H3=>∃ k,z=.bl k /\
 (if k=true then tc σ H3 fun w' H4=>r' y w' H4 Q else Q (.bl false) H3)
theorem zon{op op':CmpOp}{r r':R2}(ho:OpR X (compareOp op) r)(ho':OpR X (compareOp op') r')(ha:PE X a ta)(hb:PE X b tb)(hc:PE X c tc)
  (hm:lastMarks [op,op'] [b,c]=false:=by with_unfolding_all rfl):PT X (.Compare a [op,op'] [b,c] pos) (zrG (zpg r r' ta tb tc)):=by
 intro pins s σ H Q I h
 refine isTrue_chain (thn (ha pins s σ H _ I h) fun v s1 ⟨x,H1,I1,r1,q1⟩=>test_link (thn (hb pins s1 σ H1 _ I1 q1) fun u s2 ⟨y,H2,I2,r2,q2⟩ =>
  thn (ho pins s2 σ H2 x y v u _ I2 r1 r2 q2) fun d s3 ⟨z,H3,I3,r3,k,e,q3⟩=>?_)) hm
 subst e
 cases r3
 refine wpAny_truthy_bool ?_
 cases k with
 | false =>
  obtain⟨k',e',q'⟩:=q3
  cases e'
  exact ite_ff ⟨H3,I3,q'⟩
 | true =>
  refine ite_tt (test_last (thn (hc pins s3 σ H3 _ I3 q3) fun w' s4 ⟨z',H4,I4,r4,q4⟩=>thn (ho' pins s4 σ H4 y z' u w' _ I4 r2 r4 q4) fun d' s5 ⟨z2,H5,I5,r5,k2,e2,q5⟩=>?_))
  subst e2
  cases r5
  exact wpAny_truthy_bool ⟨H5,I5,q5⟩
def zu8(K:PySem.W.Frag)(x:V)(H:Hp)(k:Bool):Prop :=
 match x with
 | .non=>k=false
 | .bl b=>k=b
 | .int i=>k=(i != 0)
 | .str y=>y.length<=sizeLine/\k=((y.length:Int) != 0)
 | .byt y=>y.size<=sizeLine/\k=((y.size:Int) != 0)
 | .ref p=>(∃ xs,SqL K H p xs/\k=!xs.isEmpty)\/(∃ xs,SqT K H p xs/\k=!xs.isEmpty)\/∃ kvs,H p=some (.dK kvs)/\k=!kvs.isEmpty
 | _=>False
theorem zly{κ:Type}{kvs:List (κ×V)}{vs:List (κ×Value)}(r:KV kvs vs):(!vs.isEmpty)=!kvs.isEmpty:=by
 cases r <;> rfl
theorem zhi{xs:List V}{its:List Value}(r:Vals xs its):(!its.toArray.isEmpty)=!xs.isEmpty:=by
 cases r <;> simp
theorem zfV:(sizeLine:Nat)<2^63:=by rw [sizeLine_eq];decide
theorem zpe:zuM X (fun x H Q=>∃ k,zu8 X.K x H k/\Q k H):=by
 intro pins s σ H x v Q I rx h
 obtain⟨k,e,q⟩:=h
 have hl:=zfV
 have hs:sizeLine=16777216:=sizeLine_eq
 cases x with
 | non =>
  cases rx
  have e':k=false:=e
  subst e'
  exact truthy_none ⟨H,I,q⟩
 | bl b =>
  cases rx
  have e':k=b:=e
  subst e'
  exact wpAny_truthy_bool ⟨H,I,q⟩
 | int i =>
  obtain⟨t,rfl⟩:=rx
  have e':k=(i != 0):=e
  subst e'
  exact PySem.P.truthy_int ⟨H,I,q⟩
 | str y =>
  obtain⟨t,rfl⟩:=rx
  obtain⟨hy,e'⟩:y.length<=sizeLine/\k=((y.length:Int) != 0):=e
  subst e'
  exact PySem.P.truthy_str (by omega) ⟨H,I.tok _,q⟩
 | byt y =>
  obtain⟨t,rfl⟩:=rx
  obtain⟨hy,e'⟩:y.size<=sizeLine/\k=((y.size:Int) != 0):=e
  subst e'
  exact PySem.W.truthy_bytes (by omega) ⟨H,I.tok _,q⟩
 | ref p =>
  cases rx
  have e':(∃ xs,SqL X.K H p xs/\k=!xs.isEmpty)\/(∃ xs,SqT X.K H p xs/\k=!xs.isEmpty)\/∃ kvs,H p=some (.dK kvs)/\k=!kvs.isEmpty:=e
  rcases e' with⟨xs,hx,e'⟩|⟨xs,hx,e'⟩|⟨kvs,hx,e'⟩
  ·subst e'
   obtain⟨its,r,pl,hz⟩:=I.list hx
   have hlen:=r.length
   exact wpAny_truthy_list pl.isList (by simp only [List.size_toArray];omega) ⟨H,I.tok _,by rw [zhi r];exact q⟩
  ·subst e'
   obtain⟨its,r,pl,hz⟩:=I.tuple hx
   have hlen:=r.length
   exact truthy_tuple pl (by simp only [List.size_toArray];omega) ⟨H,I.tok _,by rw [zhi r];exact q⟩
  ·subst e'
   obtain⟨hz,hS,vs,r,m⟩:kvs.length<=sizeLine/\(p==sysModules)=false/\∃ vs,KV kvs vs/\s.heap.DictOf (zbe X.prog X.w) p vs:=I.hok p _ hx
   have hlen:kvs.length=vs.length:=Paired.length r
   exact wpAny_truthy_dict hS m (by omega) ⟨H,I.tok _,by rw [zly r];exact q⟩
 | _=>exact(show False from e).elim
theorem vals1{x:V}{us:List Value}(r:Vals [x] us):∃ u,us=[u]/\RelV x u:=by
 cases r with
 | cons r1 r2=>cases r2;exact⟨_,rfl,r1⟩
theorem vals2{x y:V}{us:List Value}(r:Vals [x,y] us):∃ u w',us=[u,w']/\RelV x u/\RelV y w':=by
 cases r with
 | cons r1 r2 =>
  cases r2 with
  | cons r3 r4=>cases r4;exact⟨_,_,rfl,r1,r3⟩
theorem zo6:zeY X (.builtin "abs") (fun xs H Q=>∃ i,xs=[.int i]/\Q (.int (if i<0 then -i else i)) H):=by
 intro pins s σ H xs us Q I r h
 obtain⟨i,rfl,q⟩:=h
 obtain⟨u,rfl,t,rfl⟩:=vals1 r
 exact call_abs_int fun u tk=>⟨.int (if i<0 then -i else i),H,I.tok _,⟨_,rfl⟩,q⟩
end
end L2
namespace L2
open PySem PySem.Spec PyProof.Rows
structure zv1(h:Heap)(x dx C:Addr)(mA:Str->Option Value):Prop where
 obj:h.get? x=some (PySem.W.instObj C dx)
 ns:h.Ns1 dx mA
 ne:dx≠x
theorem znQ.some_of{v:V}{o:Option Value}(r:znQ (some v) o):∃ u,o=some u/\RelV v u:=by
 cases o with
 | none=>exact(show False from r).elim
 | some u=>exact⟨u,rfl,r⟩
structure Cls(K:PySem.W.Frag)(C:Addr):Prop where
 pg:PySem.W.plainGet K C Str.empty=true
 hd:PySem.W.hasDictIn K C=true
 po:PySem.W.plainOver K C=true
 sa:PySem.W.findIn K (.ref C) "__setattr__"=some (some (.builtin "object.__setattr__"))
structure Con(K:PySem.W.Frag)(C:Addr)(f:Str)(v:V)(u:Value):Prop where
 at_:PySem.W.findIn K (.ref C) f=some (some u)
 rel:RelV v u
 get:PySem.W.specialIn K u "__get__"=some none
 cp:PySem.W.copiedNames.contains f=false
structure Meth(K:PySem.W.Frag)(C:Addr)(m:Str)(f:Addr):Prop where
 at_:PySem.W.findIn K (.ref C) m=some (some (.ref f))
 fn:PySem.W.isFn K (.ref f)=true
 kp:PySem.W.keepIn K (.ref f)=true
section
variable {X:Cx}{pins:List (Addr×Obj)}{σ:St}{H:Hp}{s:Shared}{A:Around}{E:Value->Shared->Prop}{Q:Value->Shared->Prop}{c:Value}{b:Bool}
inductive znC(K:PySem.W.Frag)(H:Hp):V->Value->Prop where
 | non:znC K H .non (.type "NoneType")
 | bl (x:Bool):znC K H (.bl x) (.type "bool")
 | int (i:Int):znC K H (.int i) (.type "int")
 | str (x:Str):znC K H (.str x) (.type "str")
 | flt (x:UInt64):znC K H (.flt x) (.type "float")
 | lst {a:Addr} {xs:List V} (e:H a=some (.lst xs)):znC K H (.ref a) (.type "list")
 | frz {a:Addr} {o:Obj} {xs:List V} (e:H a=some (.frz o (.lst xs))):znC K H (.ref a) (.type "list")
 | tup {a:Addr} {xs:List V} (e:H a=some (.tup xs)):znC K H (.ref a) (.type "tuple")
 | dK {a:Addr} {kvs:List (Key×V)} (e:H a=some (.dK kvs)):znC K H (.ref a) (.type "dict")
 | dT {a:Addr} {kvs:List (List Key×V)} (e:H a=some (.dT kvs)):znC K H (.ref a) (.type "dict")
 | ins {a C dx:Addr} {fs:List (Str×V)} (e:H a=some (.ins C dx fs)) (cl:Cls K C) (ha:PySem.W.findIn K (.ref C) "__class__"=some (some (.builtin "object.__class__")))
   (hn:PySem.W.specialIn K (.builtin "object.__class__") "__get__"=some (some (.builtin "getset_descriptor.__get__"))) (htk:PySem.W.takesIn K (.builtin "object.__class__")=some true)
   (hm:PySem.W.mroIn K C (.type "object")=some true):znC K H (.ref a) (.ref C)
end
end L2
namespace L2
open PySem PySem.Spec PyProof.Rows
structure zbZ(k:Nat)(A:Around):Prop where
 hd:A.handled=none
 dp:A.depth+3*k+110<recursionLimit
 un:A.units+16*k+200<cLine
 gd:A.guards=some []
theorem zbZ.mono{j k:Nat}{A:Around}(r:zbZ k A)(h:j<=k):zbZ j A:=⟨r.hd,by have:=r.dp;omega,by have:=r.un;omega,r.gd⟩
theorem zbZ.deeper{k:Nat}{A:Around}(r:zbZ (k+1) A)(env:Env):zbZ k (A.deeper env) :=
 ⟨r.hd,by have:=r.dp;show A.depth+1+3*k+110<_;omega,by have:=r.un;show A.units+3+16*k+200<_;omega,r.gd⟩
theorem zbZ.in1{k:Nat}{A:Around}(r:zbZ (k+1) A):zbZ k A.in1 :=
 ⟨r.hd,by have:=r.dp;show A.depth+3*k+110<_;omega,by have:=r.un;show A.units+1+16*k+200<_;omega,r.gd⟩
theorem zbZ.depth{k:Nat}{A:Around}(r:zbZ k A):A.depth<recursionLimit:=by have:=r.dp;omega
theorem zbZ.units{k:Nat}{A:Around}(r:zbZ k A):A.units+64<cLine:=by have:=r.un;omega
def zuT:TA:=fun _ H Q=>Q [] H
def zrK(ta:TE)(tr:TA):TA:=fun σ H Q=>ta σ H fun x H1=>tr σ H1 fun xs H2=>Q (x::xs) H2
section
variable {X:Cx}{e:Expr}{es:List Expr}{te:TE}{t:TA}{pos:Pos}
theorem zd6:PA X [] zuT:=fun _ _ _ _ H Q I h=>Calls.spliced_nil ⟨[],H,I,.nil,h⟩
theorem zbx(ha:PE X e te)(hr:PA X es t)(hs:starEach (e::es) X.env=(false,eval e X.env)::starEach es X.env:=by rfl):PA X (e::es) (zrK te t):=by
 intro pos pins s σ H Q I h
 rw [hs]
 show wpAny _ _ (spliced ((false,eval e X.env)::backTo pos (starEach es X.env))) _ _ s
 refine Calls.spliced_cons (thn (ha pins s σ H _ I h) fun u s1 ⟨x,H1,I1,r1,q1⟩=>?_)
 exact thn (hr pos pins s1 σ H1 _ I1 q1) fun us s2 ⟨xs,H2,I2,r2,q2⟩=>⟨x::xs,H2,I2,.cons r1 r2,q2⟩
def zvg(t:TA):TE:=fun σ H Q=>t σ H fun xs H1=>xs.length<=sizeLine/\∀ p,H1 p=none->Q (.ref p) (upd H1 p (.tup xs))
def zvk(t:TA):TE:=fun σ H Q=>t σ H fun xs H1=>xs.length<=sizeLine/\∀ p,H1 p=none->Q (.ref p) (upd H1 p (.lst xs))
theorem zsl{x1}(h:PA X es t):PE X (.Tuple es x1 pos) (zvg t):=by
 intro pins s σ H Q I hq
 refine wpAny_Tuple_spliced (thn (h pos pins s σ H _ I hq) fun us s1 ⟨xs,H1,I1,r,z,q⟩=>⟨by rw [<- r.length];exact z,?_⟩)
 have hf:H1 s1.heap.objs.size=none:=I1.hok.fresh (Nat.le_refl _)
 refine⟨.ref s1.heap.objs.size,upd H1 s1.heap.objs.size (.tup xs),I1.laid (t':=s1.toks) (fun b u e=>Heap.get?_push_of_some _ e) (Nat.le_refl _) ?_,rfl,q _ hf⟩
 exact⟨z,us,r,⟨_,Heap.get?_push_size _ rfl,rfl,_,rfl⟩⟩
theorem zsq(h:PA X es t):PE X (.List es pos) (zvk t):=by
 intro pins s σ H Q I hq
 refine wpAny_List_spliced (thn (h pos pins s σ H _ I hq) fun us s1 ⟨xs,H1,I1,r,z,q⟩=>⟨by rw [<- r.length];exact z,?_⟩)
 have hf:H1 s1.heap.objs.size=none:=I1.hok.fresh (Nat.le_refl _)
 refine⟨.ref s1.heap.objs.size,upd H1 s1.heap.objs.size (.lst xs),I1.laid (t':=s1.toks) (fun b u e=>Heap.get?_push_of_some _ e) (Nat.le_refl _) ?_,rfl,q _ hf⟩
 exact⟨z,us,0,r,Heap.get?_push_size _ rfl⟩
end
abbrev Sp:=List V->Hp->VK->XK->Prop
abbrev CXT:=List Env->Hp->Shared->XK->Value->Shared->Prop
structure ztL(P:Program)(w:World)(K:PySem.W.Frag)(mg:Str->Option Value)(base:Heap)(A:Around)(outer:List Env)(s:Shared)(H:Hp):Prop where
 frames:A.frames=some outer
 mod:Mod K mg base
 bs:∀ b o,base.get? b=some o->s.heap.get? b=some o/\H b=none
 bsz:base.objs.size<=s.heap.objs.size
 zlE:s.heap.FunFrames base outer
 frf:∀ b∈frs outer,H b=none
 hok:HOk P w H s.heap
 bare:AllBare s.gens
 tree:P.given.tree=none
theorem Inv.pyl{X:Cx}{pins:List (Addr×Obj)}{σ:List (Option V)}{H:Hp}{s:Shared}(I:Inv X pins σ H s)(hd:X.A.depth+100<recursionLimit):PySem.PylongRoom (model X.prog X.w) X.A s:=by
 obtain⟨env,r,e,h1,h2,h3,h4⟩:=I.ok.sk
 exact PySem.PylongRoom.of I.nolimit hd (PySem.SeerAt.of (I.ok.mod.seer.keeps I.bk) I.ok.tree (I.ok.frames.trans (congrArg some e)) h1 h2 h3 h4)
def CE(outer:List Env)(P:Program)(w:World)(H:Hp)(s:Shared)(Q:VK)(u:Value)(s':Shared):Prop :=
 ∃ v H',s'.os=s.os/\AllBare s'.gens/\Un (frs outer) [] H H' s.heap s'.heap/\HOk P w H' s'.heap/\RelV v u/\Q v H'
def CR(CX:CXT)(outer:List Env)(P:Program)(w:World)(H:Hp)(s:Shared)(Q:VK)(E:XK)(r:Result)(s':Shared):Prop :=
 match r with
 | .ok (.ret u)=>CE outer P w H s Q u s'
 | .ok _=>False
 | .error e=>CX outer H s E e s'
structure zhB(P:Program)(w:World)(K:PySem.W.Frag)(mg:Str->Option Value)(base:Heap)(CX:CXT)(k:Nat)(f:Addr)(fd:FuncData)(ps:List Str)(sp:Sp):Prop where
 len:∀ vs H Q E,sp vs H Q E->vs.length=ps.length
 run:∀(A:Around) (outer:List Env) (s:Shared) (H:Hp) (args:Args) (us:List Value) (vs:List V) (Q:VK) (E:XK),zbZ k A->ztL P w K mg base A outer s H->BindsTo s fd args (ps.zip us)->Vals vs us->sp vs H Q E ->
  codeAny (model P w) A (.call (.ref f) args) (CR CX outer P w H s Q E) s
theorem zhB.imp{P:Program}{w:World}{K:PySem.W.Frag}{mg:Str->Option Value}{base:Heap}{CX:CXT}{k:Nat}{f:Addr}{fd:FuncData}{ps:List Str}{sp sp':Sp}(F:zhB P w K mg base CX k f fd ps sp)
  (h:∀ vs H Q E,sp' vs H Q E->sp vs H Q E):zhB P w K mg base CX k f fd ps sp' :=
 ⟨fun vs H Q E q=>F.len vs H Q E (h _ _ _ _ q),fun A outer s H args us vs Q E hr he hb hv hs=>F.run A outer s H args us vs Q E hr he hb hv (h _ _ _ _ hs)⟩
section
variable {X:Cx}{pins:List (Addr×Obj)}{σ:St}{H:Hp}{s s':Shared}
theorem Inv.env0(I:Inv X pins σ H s):ztL X.prog X.w X.K X.mg X.base X.A X.stack s H :=
 ⟨I.ok.frames,I.ok.mod,I.bs,Nat.le_trans I.ok.bsz I.sz,I.stack,I.zl6,I.hok,I.bare,I.ok.tree⟩
theorem Inv.after{Q:VK}{u:Value}(I:Inv X pins σ H s)(h:CE X.stack X.prog X.w H s Q u s'):EP X pins σ Q u s':=by
 obtain⟨v,H',os,bare,un,hok,r,q⟩:=h
 obtain⟨hh,g,d,t,os'⟩:=s'
 obtain rfl:os'=s.os:=os
 exact⟨v,H',I.call (h':=hh) (g':=g) (d':=d) (t':=t) (ch:=[]) un hok bare (fun b z=>absurd z (by simp)),r,q⟩
end
def zp0(sp:Sp)(dvs:List V)(E:XK)(t:TA):TE:=fun σ H Q=>t σ H fun vs H1=>sp (vs++dvs) H1 Q E
def Binds(K:PySem.W.Frag)(fd:FuncData)(ps:List Str)(ds:List Value):Prop :=
 ∀(s:Shared) (us:List Value),K.In s.heap->(us++ds).length=ps.length->BindsTo s fd ⟨us,[]⟩ (ps.zip (us++ds))
theorem Binds.all{K:PySem.W.Frag}{fd:FuncData}{ps:List Str}(h:∀ us:List Value,us.length=ps.length->bindArgs fd ⟨us,[]⟩=pure (ps.zip us)):Binds K fd ps []:=fun s us _ hl=>by
 rw [List.append_nil] at hl ⊢
 exact .of_eq (h us hl)
def Passes(CX:CXT)(X:Cx)(E:XK):Prop:=∀(pins:List (Addr×Obj)) (σ:St) (H:Hp) (s:Shared) (e:Value) (s':Shared),Inv X pins σ H s->CX X.stack H s E e s'->X.xe e s'
section
variable {X:Cx}{CX:CXT}{k:Nat}{f C:Addr}{fd:FuncData}{ps:List Str}{sp:Sp}{dvs:List V}{ds:List Value}{E:XK}{x m:Str}{p pos apos:Pos}{e o:Expr}{es:List Expr}{ta:TE}{t:TA}
theorem zrR{pins:List (Addr×Obj)}{σ:St}{H:Hp}{s:Shared}{Q:VK}{us:List Value}{vs:List V}(F:zhB X.prog X.w X.K X.mg X.base CX k f fd ps sp)(hr:zbZ k X.A)(hb:Binds X.K fd ps ds)(hd:Vals dvs ds)(hx:Passes CX X E)
  (I:Inv X pins σ H s)(r:Vals vs us)(h:sp (vs++dvs) H Q E):wpAny (model X.prog X.w) X.A (call (.ref f) us) (EP X pins σ Q) X.xe s:=by
 have r2:Vals (vs++dvs) (us++ds):=r.append hd
 have hl:(us++ds).length=ps.length:=by rw [<- r2.length];exact F.len _ _ _ _ h
 refine wpAny_call (codeAny_mono (F.run X.A X.stack s H ⟨us,[]⟩ (us++ds) (vs++dvs) Q E hr I.env0 (hb s us I.kIn hl) r2 h) fun r s' hq=>?_)
 cases r with
 | error e=>exact hx pins σ H s e s' I hq
 | ok fl =>
  cases fl with
  | ret u=>exact I.after hq
  | next=>exact False.elim hq
  | brk=>exact False.elim hq
  | cont=>exact False.elim hq
theorem zqG(F:zhB X.prog X.w X.K X.mg X.base CX k f fd ps sp)(hr:zbZ k X.A)(hg:Gl X x)(hm:X.mg x=some (.ref f))(hk:PySem.W.keepIn X.K (.ref f)=true)(hb:Binds X.K fd ps ds)(hd:Vals dvs ds)(hx:Passes CX X E)
  (ha:PA X (e::es) t)(hdb:(x==("__debug__":Str))=false:=by decide) (he:starEach (e::es) X.env=(false,eval e X.env)::starEach es X.env:=by rfl) (hpl:(backTo pos (starEach es X.env)).any (·.1)=false:=by rfl) :
  PE X (.Call (.Name x p) (e::es) [] pos) (zp0 sp dvs E t):=by
 intro pins s σ H Q I h
 refine wpAny_Call_Name_kw (zh0 I hg hm ?_ hdb)
 refine PySem.W.callWith_K (h₀:=X.base) I.ok.mod.kin hk (thn (ha pos pins s σ H _ I h) fun us s1 ⟨vs,H1,I1,r,q⟩=>⟨I1.kIn,?_⟩) he hpl
 exact zrR F hr hb hd hx I1 r q
structure Mk(K:PySem.W.Frag)(C f:Addr):Prop where
 makes:PySem.W.makesIn K C=true
 init:PySem.W.findIn K (.ref C) "__init__"=some (some (.ref f))
 fn:PySem.W.isFn K (.ref f)=true
 kp:PySem.W.keepIn K (.ref C)=true
end
section
variable {X:Cx}{CX:CXT}{k:Nat}{f C:Addr}{fd:FuncData}{ps ks:List Str}{sp:Sp}{E:XK}{x m:Str}{p pos apos kpos:Pos}{e o:Expr}{es:List Expr}{kws:List Keyword}{te ta:TE}{t tk:TA}{nm:Option Str}
structure zvb(K:PySem.W.Frag)(fd:FuncData)(ps ks:List Str)(g:List Value->List Value->List Value)(gV:List V->List V->List V):Prop where
 to:∀(s:Shared) (us ws:List Value),K.In s.heap->(g us ws).length=ps.length->BindsTo s fd ⟨us,ks.zip ws⟩ (ps.zip (g us ws))
 rel:∀{vs:List V} {us:List Value} {zs:List V} {ws:List Value},Vals vs us->Vals zs ws->Vals (gV vs zs) (g us ws)
variable {g:List Value->List Value->List Value}{gV:List V->List V->List V}
end
structure zdt(N P:List Str)(sc:Scope):Prop where
 kind:sc.kind=.function
 co:sc.isCoroutine=false
 gen:sc.isGenerator=false
 nd:N.Nodup
 pre:N.take P.length=P
 par:∀ x∈P,sc.names.lookup x=some .local\/sc.names.lookup x=some .cell
 nofree:∀ y∈sc.names,y.2≠.free
theorem zi5{kindOf:Str->Option NameKind}{x:Str}:∀{binds:List (Str×Value)} {m:Str->Option Value},(∀ v,(x,v)∉binds)->bindL kindOf binds m x=m x
 | [],_,_=>rfl
 | (n,v)::r,m,h=>by
  unfold bindL
  rw [zi5 fun w hw=>h w (List.mem_cons_of_mem _ hw)]
  split
  ·have:x≠n:=by rintro rfl;exact h v List.mem_cons_self
   simp [this]
  ·rfl
theorem zi7{kindOf:Str->Option NameKind}{x:Str}:∀{binds:List (Str×Value)} {m:Str->Option Value},(∀ v,(x,v)∉binds)->bindC kindOf binds m x=m x
 | [],_,_=>rfl
 | (n,v)::r,m,h=>by
  unfold bindC
  rw [zi7 fun w hw=>h w (List.mem_cons_of_mem _ hw)]
  split
  ·rfl
  ·have:x≠n:=by rintro rfl;exact h v List.mem_cons_self
   simp [this]
theorem zi6{kindOf:Str->Option NameKind}{x:Str}{v:Value}:∀{P:List Str} {vs:List Value} {i:Nat} {m:Str->Option Value},P.Nodup->P[i]?=some x->vs[i]?=some v->kindOf x=some .local ->
  bindL kindOf (P.zip vs) m x=some v
 | [],_,_,_,_,h,_,_=>by simp at h
 | _::_,[],_,_,_,_,h,_=>by simp at h
 | p::P,w::vs,0,m,nd,h1,h2,hk=>by
  simp at h1 h2;subst h1;subst h2
  show bindL kindOf ((p,w)::P.zip vs) m p=_
  unfold bindL
  rw [zi5 fun v hv=>(List.nodup_cons.mp nd).1 (List.of_mem_zip hv).1,if_pos hk]
  simp
 | p::P,w::vs,i+1,m,nd,h1,h2,hk=>by
  show bindL kindOf ((p,w)::P.zip vs) m x=_
  unfold bindL
  exact zi6 (i:=i) (List.nodup_cons.mp nd).2 (by simpa using h1) (by simpa using h2) hk
theorem zi8{kindOf:Str->Option NameKind}{x:Str}{v:Value}:∀{P:List Str} {vs:List Value} {i:Nat} {m:Str->Option Value},P.Nodup->P[i]?=some x->vs[i]?=some v->kindOf x≠some .local ->
  bindC kindOf (P.zip vs) m x=some v
 | [],_,_,_,_,h,_,_=>by simp at h
 | _::_,[],_,_,_,_,h,_=>by simp at h
 | p::P,w::vs,0,m,nd,h1,h2,hk=>by
  simp at h1 h2;subst h1;subst h2
  show bindC kindOf ((p,w)::P.zip vs) m p=_
  unfold bindC
  rw [zi7 fun v hv=>(List.nodup_cons.mp nd).1 (List.of_mem_zip hv).1,if_neg hk]
  simp
 | p::P,w::vs,i+1,m,nd,h1,h2,hk=>by
  show bindC kindOf ((p,w)::P.zip vs) m x=_
  unfold bindC
  exact zi8 (i:=i) (List.nodup_cons.mp nd).2 (by simpa using h1) (by simpa using h2) hk
def start(N:List Str)(vs:List V):St:=vs.map some++List.replicate (N.length-vs.length) none
def znO(CX:CXT)(P:Program)(w:World)(K:PySem.W.Frag)(mg:Str->Option Value)(base:Heap)(N:List Str)(qual:Str)(scope:Scope)(f:Addr)(cd:Value)(A:Around)(outer:List Env)(s:Shared)(H:Hp)(E:XK):Cx where
 prog:=P
 w:=w
 K:=K
 mg:=mg
 base:=base
 A:=A.deeper (envOfC qual scope s.heap.objs.size f cd)
 N:=N
 s₀:=s
 H₀:=H
 env:=envOfC qual scope s.heap.objs.size f cd
 outer:=outer
 stack:=envOfC qual scope s.heap.objs.size f cd::outer
 ex:=[]
 calm:=true
 fn:=fun _=>true
 pn:=[]
 xe:=fun e s'=>wpAny (model P w) (A.deeper (envOfC qual scope s.heap.objs.size f cd)) (leaving (envOfC qual scope s.heap.objs.size f cd) e) (fun _ s''=>CX outer H s E e s'') (fun e' s''=>CX outer H s E e' s'') s'
theorem zkT{sc:Scope}{n:Nat}{x:Str}(h:sc.names.lookup x=some .cell):∃ c,(cellsFrom n sc.names []).lookup x=some c:=by
 have q:=PySem.W.cellsFrom_some sc.names n [] (.inl h)
 exact Option.isSome_iff_exists.mp q
theorem zm5{CX:CXT}{P:Program}{w:World}{K:PySem.W.Frag}{mg:Str->Option Value}{base:Heap}{N ps:List Str}{qual:Str}{scope:Scope}{f:Addr}{cd:Value}{A:Around}{outer:List Env}{s s1:Shared}{H:Hp}{E:XK}{us:List Value}{vs:List V}
  (S:zdt N ps scope)(hd:A.handled=none)(e0:ztL P w K mg base A outer s H)(hl:vs.length=ps.length)(r:Vals vs us)
  (x:InCallC s s.heap.objs.size (bindL (envOfC qual scope s.heap.objs.size f cd).kindOf (ps.zip us) fun _=>none) (cellsFrom (s.heap.objs.size+1) scope.names []) (bindC (envOfC qual scope s.heap.objs.size f cd).kindOf (ps.zip us) fun _=>none) s1) :
  Inv (znO CX P w K mg base N qual scope f cd A outer s H E) [] (start N vs) H s1:=by
 have hpl:ps.length<=N.length:=by have:=congrArg List.length S.pre;rw [List.length_take] at this;omega
 obtain⟨h1,tk,rfl,hk⟩:=x.done
 have noA:∀ b:Addr,b∉(znO CX P w K mg base N qual scope f cd A outer s H E).ex:=fun b z=>absurd (show b∈([]:List Addr) from z) (by simp)
 refine⟨⟨e0.mod,S.kind,rfl,rfl,Nat.le_refl _,fun y z c h1 h2=>?_,fun y hy=>?_,fun y c _ h=>?_,fun _=>hd,Around.frames_deeper e0.frames,.inr ⟨rfl,rfl⟩,fun b z=>absurd z (noA b),e0.bs,e0.bsz,fun b _ _=>noA b,fun b z=>absurd z (noA b),e0.zlE,e0.frf,e0.tree,⟨_,_,rfl,S.gen,S.co,rfl,rfl⟩⟩,
  rfl,e0.bare,Un.kept hk,⟨_,x.toInCall.ns,fun i y v h1 h2 h3=>?_⟩,fun y c h=>⟨_,x.cell y c h⟩,e0.hok.fresh (Nat.le_refl _),fun y c h=>?_,fun p hp=>absurd (show p∈([]:List (Addr×Obj)) from hp) (by simp),e0.hok.kept hk,?_⟩
 ·exact name_of_addr x.apart (PySem.mem_of_lookup h1) (PySem.mem_of_lookup h2)
 ·have hy:scope.names.lookup y=some .cell\/scope.names.lookup y=some .free:=hy
  rcases hy with hy|hy
  ·exact zkT hy
  ·exact absurd rfl (S.nofree _ (PySem.mem_of_lookup hy))
 ·exact Nat.le_of_lt (x.above y c (PySem.mem_of_lookup h))
 ·have hi:i<vs.length:=by
   unfold start at h2
   by_cases hi:i<vs.length
   ·exact hi
   ·rw [List.getElem?_append_right (by simpa using hi)] at h2
    rw [List.getElem?_replicate] at h2
    split at h2 <;> cases h2
  have ha:vs[i]?=some v:=by
   unfold start at h2
   rw [List.getElem?_append_left (by simpa using hi),List.getElem?_map] at h2
   cases e:vs[i]? with
   | none=>rw [e] at h2;cases h2
   | some a=>rw [e] at h2;cases h2;rfl
  obtain⟨u,hu,rv⟩:=r.get ha
  have hp:ps[i]?=some y:=by
   rw [<- S.pre,List.getElem?_take_of_lt (by omega)];exact h1
  have ndP:ps.Nodup:=by rw [<- S.pre];exact S.nd.sublist (List.take_sublist _ _)
  refine⟨u,rv,?_⟩
  rcases S.par y (List.mem_of_getElem? hp) with k|k
  ·exact .inl ⟨k,zi6 ndP hp hu k⟩
  ·obtain⟨c,e⟩:=zkT (n:=s.heap.objs.size+1) k
   refine .inr ⟨.inl k,c,e,?_⟩
   have q:=x.cell y c e
   rw [zi8 ndP hp hu (by show scope.names.lookup y≠_;rw [k];decide)] at q
   exact q
 ·exact e0.hok.fresh (Nat.le_of_lt (x.above y c (PySem.mem_of_lookup h)))
 ·unfold start
  show _=N.length
  rw [List.length_append,List.length_map,List.length_replicate]
  omega
theorem zuA{CX:CXT}{P:Program}{w:World}{K:PySem.W.Frag}{mg:Str->Option Value}{base:Heap}{k:Nat}{f:Addr}{name qual:Str}{params:Arguments}{body:List Stmt}{scope:Scope}{dV kV doc pm cdv ct oc:Value}{an od:Option Addr}
  {osl:Array (Option Value)}{N ps:List Str}{sp:Sp}(lk:K.lookup f=some ⟨oc,od,.func (PySem.W.fnOf name qual params body scope dV kV doc pm an cdv ct),osl⟩)(hcd:PySem.W.codeIn K cdv qual=true)(S:zdt N ps scope)
  (len:∀ vs H Q E,sp vs H Q E->vs.length=ps.length)
  (hbody:∀(A:Around) (outer:List Env) (s:Shared) (H:Hp) (vs:List V) (Q:VK) (E:XK),zbZ k (A.deeper (envOfC qual scope s.heap.objs.size f cdv))->sp vs H Q E ->
   ∃ t,PSs (znO CX P w K mg base N qual scope f cdv A outer s H E) body t/\t { nx:=fun _ H'=>Q .non H',rt:=Q } (start N vs) H) :
  zhB P w K mg base CX (k+1) f (PySem.W.fnOf name qual params body scope dV kV doc pm an cdv ct) ps sp:=by
 refine⟨len,fun A outer s H args us vs Q E hr e0 hb r hsp=>?_⟩
 have hl:=len _ _ _ _ hsp
 have KX:K.In s.heap:=e0.mod.kin.keeps fun b o e=>(e0.bs b o e).1
 have lim:s.heap.NoLimit:=e0.mod.nolimit.keeps fun b o e=>(e0.bs b o e).1
 have hkind:∀ y∈ps.zip us,scope.names.lookup y.1=some .local\/(scope.names.lookup y.1=some .cell/\((cellsFrom (s.heap.objs.size+1) scope.names []).lookup y.1).isSome=true):=fun⟨n,v⟩ hy=>by
  rcases S.par n (List.of_mem_zip hy).1 with q|q
  ·exact .inl q
  ·exact .inr ⟨q,PySem.W.cellsFrom_some _ _ _ (.inl q)⟩
 refine codeAny_call_function hr.depth (KX _ _ lk) rfl S.co S.gen rfl (PySem.W.codeRec_of KX hcd) (hb _ _ _ _ ?_)
 refine wpAny_newFunctionEnv_cells S.kind hkind fun env he s1 x=>?_
 subst he
 refine⟨lim.keeps x.toInCall.keep,codeAny_func ?_⟩
 obtain⟨t,ht,hq⟩:=hbody A outer s H vs Q E (hr.deeper _) hsp
 have I:Inv (znO CX P w K mg base N qual scope f cdv A outer s H E) [] (start N vs) H s1:=zm5 S hr.hd e0 hl r x
 refine wpAny_mono (ht [] s1 (start N vs) H _ I hq) (fun fl s' hs=>?_) fun e s' hs=>hs
 have fin:∀{σ':St} {H':Hp} {v:V} {u:Value},Inv (znO CX P w K mg base N qual scope f cdv A outer s H E) [] σ' H' s'->RelV v u->Q v H'->CE outer P w H s Q u s' :=
  fun{σ' H' v u} J rv q=>⟨v,H',J.os,J.bare,J.base,J.hok,rv,q⟩
 cases fl with
 | ret u =>
  obtain⟨v,σ',H',J,rv,q⟩:=hs
  exact fin J rv q
 | next =>
  obtain⟨σ',H',J,q⟩:=hs
  exact fin (v:=V.non) (u:=Value.none) J rfl q
 | brk =>
  obtain⟨_,_,_,q⟩:=hs
  exact False.elim q
 | cont =>
  obtain⟨_,_,_,q⟩:=hs
  exact False.elim q
end L2
namespace L2
open PySem PySem.Spec PyProof.Rows
section
variable {X:Cx}{x:Str}{p pos:Pos}{e:Expr}{es:List Expr}{t:TA}{id T:String}{r:List V->Hp->VK->Prop}
def tCB(r:List V->Hp->VK->Prop)(t:TA):TE:=fun σ H Q=>t σ H fun vs H1=>r vs H1 Q
theorem zfw(hc:zeY X (.builtin id) r)(hg:Gl X x)(hm:X.mg x=none)(hv:bootBuiltins x=some (.builtin id))(ha:PA X (e::es) t)(hn:x ≠ "__name__":=by decide) (hdb:(x==("__debug__":Str))=false:=by decide)
  (he:starEach (e::es) X.env=(false,eval e X.env)::starEach es X.env:=by rfl) (hpl:(backTo pos (starEach es X.env)).any (·.1)=false:=by rfl):PE X (.Call (.Name x p) (e::es) [] pos) (tCB r t):=by
 intro pins s σ H Q I h
 refine wpAny_Call_Name_kw (zfX I hg hm hv ?_ hn hdb)
 exact PyProof.Rows.callWith_builtin1 (thn (ha pos pins s σ H _ I h) fun us s1 ⟨vs,H1,I1,r1,q1⟩=>hc pins s1 σ H1 vs us Q I1 r1 q1) he hpl
theorem zmB(hc:zeY X (.type T) r)(hg:Gl X x)(hm:X.mg x=none)(hv:bootBuiltins x=some (.type T))(ha:PA X (e::es) t)(hn:x ≠ "__name__":=by decide) (hdb:(x==("__debug__":Str))=false:=by decide)
  (he:starEach (e::es) X.env=(false,eval e X.env)::starEach es X.env:=by rfl) (hpl:(backTo pos (starEach es X.env)).any (·.1)=false:=by rfl):PE X (.Call (.Name x p) (e::es) [] pos) (tCB r t):=by
 intro pins s σ H Q I h
 refine wpAny_Call_Name_kw (zfX I hg hm hv ?_ hn hdb)
 exact PyProof.Rows.callWith_type1 (thn (ha pos pins s σ H _ I h) fun us s1 ⟨vs,H1,I1,r1,q1⟩=>hc pins s1 σ H1 vs us Q I1 r1 q1) he hpl
end
end L2
namespace HT
open PySem PyProof.Rows
def lexLt:List Int->List Int->Bool
 | [],[]=>false
 | [],_::_=>true
 | _::_,[]=>false
 | x::xs,y::ys=>if x=y then lexLt xs ys else decide (x<y)
theorem zlk(x y:Int)(xs ys:List Int):lexLt (x::xs) (y::ys)=if x=y then lexLt xs ys else decide (x<y):=rfl
theorem zhV:lexLt [] []=false:=rfl
theorem zgM(y:Int)(ys:List Int):lexLt [] (y::ys)=true:=rfl
theorem zgN(x:Int)(xs:List Int):lexLt (x::xs) []=false:=rfl
theorem zfx(A:Around)(s:Shared)(a:Int)(t:Tok)(c:Int)(u:Tok):∃ e,SeqAt.EqAt A s (.int a t) (.int c u) e/\(e=true↔a=c) :=
 ⟨(a==c),SeqAt.EqAt.int_int a t c u,by simp⟩
theorem zn5(A:Around)(s:Shared)(a:Int)(t:Tok)(c:Int)(u:Tok)(prog:Program)(w:World)(E:Value->Shared->Prop)(Q:Value->Shared->Prop)(h:Q (.bool (decide (a<c))) s) :
  wpAny (model prog w) A (richCompare .Lt (.int a t) (.int c u)) Q E s :=
 (PyProof.Rows.lt_int h:wpAny (model prog w) A (compareOp .Lt (.int a t) (.int c u)) Q E s)
section
open PySem.SeqAt
open PySem.AutoSeq1 (wpAny_loadPart')
open PySem.MeetsSeq PySem.MeetsSeq2 PySem.MeetsSeq3
theorem zhE(l b:Addr)(items items2:Array Value)(n n2:Nat)(dd dd2:Option Addr)(sl sl2:Array (Option Value))(ns ms:List Int)(hi:IntsAre items.toList ns)(hj:IntsAre items2.toList ms) :
  Meets (Builtin.«tuple.__lt__» ⟨[.ref l,.ref b],[]⟩)
   (fun _ R s=>s.heap.get? l=some { cls:=.type "tuple",dict:=dd,data:=.seq items n,slots:=sl }/\s.heap.get? b=some { cls:=.type "tuple",dict:=dd2,data:=.seq items2 n2,slots:=sl2 } /\
    R (.ok (.ret (.bool (lexLt ns ms)))) s) :=
 .of_wp fun prog w A R s h=>by
  obtain⟨hp,g,d,tk,os⟩:=s;obtain⟨hl,hb,h⟩:=h
  have f2:=AutoSeq1.sub_tuple_tuple
  have z1:items.size=ns.length:=by rw [<- hi.length];simp
  have z2:items2.size=ms.length:=by rw [<- hj.length];simp
  wp_walk using wpAny_loadPart' hl,wpAny_loadPart' hb,wpAny_forIn_list _ (fun rest b s'=>b.1=none/\s'=⟨hp,g,d,tk,os⟩/\∃(vs ws:List Value) (ns' ms':List Int),rest=vs.zip ws /\
   IntsAre vs ns'/\IntsAre ws ms'/\ns'.length+items2.size=ms'.length+items.size/\R (.ok (.ret (.bool (lexLt ns' ms')))) ⟨hp,g,d,tk,os⟩) _
  case turn =>
   rintro⟨y,x⟩ rest b s' ⟨hb',rfl,vs,ws,ns',ms',hz,hvi,hwi,hlen,hR⟩
   cases hvi with
   | nil=>rw [List.zip_nil_left] at hz;cases hz
   | cons a t hvi' =>
    cases hwi with
    | nil=>rw [List.zip_nil_right] at hz;cases hz
    | cons c u hwi' =>
     rw [List.zip_cons_cons] at hz
     injection hz with hyx hrest
     injection hyx with hy hx
     subst hy hx
     rw [zlk] at hR
     simp only [List.length_cons] at hlen
     obtain⟨e,he,hiff⟩:=zfx A.in1 ⟨hp,g,d,tk,os⟩ a t c u
     refine wpAny_bind (he prog w _ _ ?_)
     cases e with
     | true =>
      rw [if_pos (hiff.mp rfl)] at hR
      wp_walk
      exact⟨rfl,rfl,_,_,_,_,hrest,hvi',hwi',by omega,hR⟩
     | false =>
      rw [if_neg (fun q=>absurd (hiff.mpr q) Bool.false_ne_true)] at hR
      have hri:=zn5 A.in1 ⟨hp,g,d,tk,os⟩ a t c u prog w
      wp_walk using hri
      exact⟨_,rfl,by simpa using hR⟩
  case fin =>
   rintro⟨b1,b2⟩ s' ⟨hb',rfl,vs,ws,ns',ms',hz,hvi,hwi,hlen,hR⟩
   simp only at hb'
   subst hb'
   have hv:lexLt ns' ms'=decide (items.size<items2.size):=by
    cases hvi with
    | nil =>
     cases hwi with
     | nil =>
      simp only [List.length_nil] at hlen
      rw [zhV]
      exact(decide_eq_false (by omega)).symm
     | cons c u hw =>
      simp only [List.length_nil,List.length_cons] at hlen
      rw [zgM]
      exact(decide_eq_true (by omega)).symm
    | cons a t hv =>
     cases hwi with
     | nil =>
      simp only [List.length_nil,List.length_cons] at hlen
      rw [zgN]
      exact(decide_eq_false (by omega)).symm
     | cons c u hw =>
      rw [List.zip_cons_cons] at hz
      cases hz
   rw [hv] at hR
   wp_walk
   exact⟨_,rfl,by simpa [Builtin.Tuple.tupleCompareSizes] using hR⟩
  case h =>
   exact⟨rfl,rfl,items.toList,items2.toList,ns,ms,rfl,hi,hj,by omega,h⟩
end
section
variable {prog:Program}{w:World}{A:Around}{E:Value->Shared->Prop}{s:Shared}
theorem zhd{l b:Addr}{items items2:Array Value}{ns ms:List Int}{Q:Value->Shared->Prop}(hl:IsTup s.heap l items)(hb:IsTup s.heap b items2)(hi:IntsAre items.toList ns)(hj:IntsAre items2.toList ms)
  (hu:A.units<cLine)(h:Q (.bool (lexLt ns ms)) s):wpAny (model prog w) A (compareOp .Lt (.ref l) (.ref b)) Q E s:=by
 obtain⟨⟨cls,dd,data,sl⟩,ho,hc,n,hd⟩:=id hl
 obtain⟨⟨cls2,dd2,data2,sl2⟩,ho2,hc2,n2,hd2⟩:=id hb
 simp only at hc hd hc2 hd2
 subst hc hd hc2 hd2
 exact richCompare_meets_room (op:=.Lt) ⟨_,ho,rfl⟩ ⟨_,ho2,rfl⟩ PySem.F.slot_tuple_lt PySem.F.entry_tuple_lt (PySem.F.args_tuple_lt_2 _ _) (zhE l b items items2 n n2 dd dd2 sl sl2 ns ms hi hj)
  ⟨ho,ho2,show Value.bool (lexLt ns ms)≠Value.notImplemented/\Q (.bool (lexLt ns ms)) s from⟨(fun x=>nomatch x),h⟩⟩ hu
theorem zrb{t b:Addr}{vs ws:List Value}{Q:Value->Shared->Prop}(ht:IsTup s.heap t vs.toArray)(hb:IsTup s.heap b ws.toArray)(hv:vs≠[])
  (h1:ws=[]->Q (.ref t) s)(h2:ws≠[]->Q (.ref s.heap.objs.size) { s with heap:=s.heap.push { cls:=.type "tuple",data:=.seq (vs++ws).toArray } })
  (hsz:vs.length+ws.length<=sizeLine):wpAny (model prog w) A (binaryOp .Add (.ref t) (.ref b)) Q E s:=by
 obtain⟨⟨cls,dd,data,sl⟩,ho,hc,n,hd⟩:=id ht
 obtain⟨⟨cls2,dd2,data2,sl2⟩,ho2,hc2,n2,hd2⟩:=id hb
 simp only at hc hd hc2 hd2
 subst hc hd hc2 hd2
 have e:vs.toArray++ws.toArray=(vs++ws).toArray:=by simp
 by_cases hw:ws=[]
 ·exact concat_meets ⟨_,ho,rfl⟩ ⟨_,ho2,rfl⟩ noFill_tuple_add seq_tuple_add PySem.F.slot_tuple_add PySem.F.entry_tuple_add (PySem.F.args_tuple_add_2 _ _)
   (tuple_addW1 t b vs.toArray ws.toArray n n2 dd dd2 sl sl2 (by simpa using hv) (by simp [hw])) ⟨ho,ho2,h1 hw⟩
 ·refine concat_meets ⟨_,ho,rfl⟩ ⟨_,ho2,rfl⟩ noFill_tuple_add seq_tuple_add PySem.F.slot_tuple_add PySem.F.entry_tuple_add (PySem.F.args_tuple_add_2 _ _)
   (tuple_addW2 t b vs.toArray ws.toArray n n2 dd dd2 sl sl2 (by simpa using hv) (by simpa using hw) (by rw [List.size_toArray,List.size_toArray];exact hsz)) ⟨ho,ho2,?_⟩
  rw [e]
  exact h2 hw
def sIx(n d:Nat):Option Int->Nat
 | none=>d
 | some v=>if v<0 then(v+(n:Int)).toNat else min v.toNat n
theorem zrQ(n d:Nat)(hd:d<=n)(o:Option Int):sIx n d o<=n:=by
 cases o with
 | none=>exact hd
 | some v =>
  show(if v<0 then(v+(n:Int)).toNat else min v.toNat n)<=n
  by_cases hv:v<0
  ·rw [if_pos hv];omega
  ·rw [if_neg hv];exact Nat.min_le_right _ _
theorem znp(v:Int)(n d:Nat):(if v<0 then max (v+(n:Int)) 0 else min v (n:Int))=((sIx n d (some v):Nat):Int):=by
 show(if v<0 then max (v+(n:Int)) 0 else min v (n:Int))=(((if v<0 then(v+(n:Int)).toNat else min v.toNat n):Nat):Int)
 by_cases hv:v<0
 ·simp only [if_pos hv];omega
 ·simp only [if_neg hv];omega
theorem zlM(lo hi:Option Int)(n:Nat):Builtin.Slice.sliceAdjust lo hi 1 (n:Int)=(((sIx n 0 lo:Nat):Int),((sIx n n hi:Nat):Int)):=by
 have h1:¬ ((1:Int)<0):=by omega
 unfold Builtin.Slice.sliceAdjust
 simp only [h1,if_false]
 refine Prod.ext ?_ ?_
 ·cases lo with
  | none=>rfl
  | some v=>exact znp v n 0
 ·cases hi with
  | none=>rfl
  | some v=>exact znp v n n
theorem zle(i j:Nat):Builtin.Slice.slicePlaces (i:Int) (j:Int) 1=j-i:=by
 unfold Builtin.Slice.slicePlaces
 have h1:(1:Int) > 0:=by omega
 simp only [h1,if_true,Int.ediv_one]
 split <;> omega
theorem zg4{v:Value}{o:Option Int}{Q:Option Int->Shared->Prop}(p:IsPart v o)(h:Q o s):wpAny (model prog w) A (Builtin.Slice.slicePartIndex v) Q E s:=by
 cases p with
 | none=>exact slicePart_none h
 | int i t=>exact slicePart_int h
theorem zc5{sl:Addr}{vl vu:Value}{lo hi:Option Int}{n:Nat}{Q:Int×Int×Nat->Shared->Prop}(hs:s.heap.IsSliceOf sl vl vu .none)(pl:IsPart vl lo)(pu:IsPart vu hi)
  (h:Q (((sIx n 0 lo:Nat):Int),1,sIx n n hi-sIx n 0 lo) s):wpAny (model prog w) A (Builtin.Slice.sliceApplied (.ref sl) (pure (n:Int))) Q E s:=by
 obtain⟨os,hos,hcs,hds⟩:=id hs
 unfold Builtin.Slice.sliceApplied Builtin.Slice.sliceFields
 refine wpAny_bind (wpAny_bind (wpAny_field hos hds (x:=vl) rfl (wpAny_bind (wpAny_field hos hds (x:=vu) rfl (wpAny_bind (wpAny_field hos hds (x:=.none) rfl (wpAny_pure ?_)))))))
 refine wpAny_bind (slicePart_none ?_)
 show wpAny _ _ (if((1:Int)==0)=true then _ else _) _ _ s
 rw [if_neg (by decide)]
 refine wpAny_bind (zg4 pl (wpAny_bind (zg4 pu (wpAny_bind (wpAny_pure ?_)))))
 show wpAny _ _ (match Builtin.Slice.sliceAdjust lo hi 1 (n:Int) with|(lo,hi)=>pure (lo,(1:Int),Builtin.Slice.slicePlaces lo hi 1)) _ _ s
 rw [zlM lo hi n]
 show wpAny _ _ (pure (((sIx n 0 lo:Nat):Int),(1:Int),Builtin.Slice.slicePlaces ((sIx n 0 lo:Nat):Int) ((sIx n n hi:Nat):Int) 1)) _ _ s
 rw [zle]
 exact wpAny_pure h
theorem zor(xs:Array Value)(i k:Nat):((List.range k).filterMap fun(m:Nat)=>xs[((i:Int)+(m:Int)*1).toNat]?).toArray=((xs.toList.drop i).take k).toArray:=by
 have e:(fun(m:Nat)=>xs[((i:Int)+(m:Int)*1).toNat]?)=fun m=>xs[i+m]?:=by
  funext m
  have:((i:Int)+(m:Int)*1).toNat=i+m:=by omega
  rw [this]
 rw [e]
 have:=pick_run xs i k
 rw [List.filterMap_map] at this
 have e2:((fun x=>xs[x]?)∘fun x=>i+x)=fun m=>xs[i+m]?:=rfl
 rw [e2] at this
 rw [this]
theorem zeH{t sl:Addr}{items:Array Value}{vl vu:Value}{lo hi:Option Int}{Q:Value->Shared->Prop}(ht:IsTup s.heap t items)(hs:s.heap.IsSliceOf sl vl vu .none)(pl:IsPart vl lo)(pu:IsPart vu hi)
  (hw:¬ (sIx items.size 0 lo=0/\sIx items.size items.size hi=items.size))
  (h:Q (.ref s.heap.objs.size) { s with heap:=s.heap.push { cls:=.type "tuple",data:=.seq ((items.toList.drop (sIx items.size 0 lo)).take (sIx items.size items.size hi-sIx items.size 0 lo)).toArray } })
  (hsz:items.size<=sizeLine):wpAny (model prog w) A (getItem (.ref t) (.ref sl)) Q E s:=by
 have htake:sizeOk (.seq ((items.toList.drop (sIx items.size 0 lo)).take (sIx items.size items.size hi-sIx items.size 0 lo)).toArray):=by
  show((items.toList.drop (sIx items.size 0 lo)).take (sIx items.size items.size hi-sIx items.size 0 lo)).toArray.size<=sizeLine
  rw [List.size_toArray,List.length_take,List.length_drop,Array.length_toList]
  omega
 have hj:sIx items.size items.size hi<=items.size:=zrQ _ _ (Nat.le_refl _) hi
 obtain⟨os,hos,hcs,hds⟩:=id hs
 have hTs:s.TypeIs (.ref sl) "slice":=⟨os,hos,hcs⟩
 unfold getItem
 try with_reducible refine wpAny_holding ?_
 first|refine wpAny_bind (wpAny_pure ?_)|skip
 refine wpAny_bind (wpAny_sequenceKey ht.typeIs (by decide) ?_)
 refine wpAny_bind (wpAny_callSpecial?_slot (name:=Str.ofString "__getitem__") ht.typeIs PyProof.Rows.slot_tuple_getitem
  (wpAny_call_entry PyProof.Rows.slot_tuple_getitem ht.typeIs entry_tuple_getitem ?_ (args_tuple_getitem _ _)))
 show wpAny _ _ (Builtin.Tuple.tupleItemsOf (.ref t) >>= _) _ _ s
 refine wpAny_bind (tupleItemsOf_ ht ?_)
 refine wpAny_bind (wpAny_typeOf hTs ?_)
 rw [if_pos (by decide)]
 refine wpAny_bind (zc5 hs pl pu ?_)
 have hno:¬ ((((sIx items.size 0 lo:Nat):Int)==0&&(1:Int)==1&&(sIx items.size items.size hi-sIx items.size 0 lo)==items.size)=true):=by
  intro q
  rw [Bool.and_eq_true,Bool.and_eq_true] at q
  have q1:((sIx items.size 0 lo:Nat):Int)=0:=eq_of_beq q.1.1
  have q2:sIx items.size items.size hi-sIx items.size 0 lo=items.size:=eq_of_beq q.2
  exact hw ⟨by omega,by omega⟩
 show wpAny _ _ (if(((sIx items.size 0 lo:Nat):Int)==0&&(1:Int)==1&&(sIx items.size items.size hi-sIx items.size 0 lo)==items.size)=true then _ else _) _ _ s
 rw [if_neg hno,zor]
 first
  | exact wpAny_bind (m:=Builtin.Tuple.tupleExact _) (wpAny_newObj_type (wpAny_pure ⟨_,rfl,wpAny_pure h⟩) htake)
  | exact wpAny_bind (m:=Builtin.Tuple.tupleExact _) (wpAny_newObj_type (wpAny_bind (wpAny_pure (wpAny_pure ⟨_,rfl,wpAny_pure h⟩))) htake)
  | exact wpAny_bind (wpAny_bind (m:=Builtin.Tuple.tupleExact _) (wpAny_newObj_type (wpAny_pure (wpAny_pure ⟨_,rfl,wpAny_pure h⟩)) htake))
  | exact wpAny_bind (wpAny_bind (m:=Builtin.Tuple.tupleExact _) (wpAny_newObj_type (wpAny_pure ⟨_,rfl,wpAny_pure h⟩) htake))
end
end HT
namespace L2
open PySem PySem.Spec PyProof.Rows
abbrev TO:=St->Hp->(Option Int->Hp->Prop)->Prop
def PO(X:Cx)(e:Option Expr)(t:TO):Prop :=
 ∀(pins:List (Addr×Obj)) (s:Shared) (σ:St) (H:Hp) (Q:Option Int->Hp->Prop),Inv X pins σ H s->t σ H Q ->
  wpAny (model X.prog X.w) X.A (evalPart e X.env) (fun u s'=>∃ o H',Inv X pins σ H' s'/\IsPart u o/\Q o H') X.xe s
def zpY:TO:=fun _ H Q=>Q none H
def ztO(t:TE):TO:=fun σ H Q=>t σ H fun x H1=>∃ i,x=.int i/\Q (some i) H1
theorem intsAre_of{ns:List Int}:∀{us:List Value},Vals (ns.map V.int) us->IntsAre us ns:=by
 induction ns with
 | nil=>intro us r;rw [List.map_nil] at r;cases r;exact .nil
 | cons n ns ih =>
  intro us r
  rw [List.map_cons] at r
  cases r with
  | cons r1 r2 =>
   obtain⟨t,e⟩:=r1
   subst e
   exact .cons n t (ih r2)
section
variable {X:Cx}{e:Expr}{te:TE}{lo hi:Option Expr}{tl th:TO}{pos p2:Pos}
theorem zqz:PO X none zpY:=by
 intro pins s σ H Q I h
 rw [evalPart_none]
 exact wpAny_pure ⟨none,H,I,.none,h⟩
theorem zqy(h:PE X e te):PO X (some e) (ztO te):=by
 intro pins s σ H Q I hw
 rw [evalPart_some]
 refine thn (h pins s σ H _ I hw) fun u s1 ⟨x,H1,I1,r1,q1⟩=>?_
 obtain⟨i,rfl,q⟩:=q1
 obtain⟨t,rfl⟩:=r1
 exact⟨some i,H1,I1,.int i t,q⟩
def SlR(X:Cx)(r:V->Option Int->Option Int->Hp->VK->Prop):Prop :=
 ∀(pins:List (Addr×Obj)) (s:Shared) (σ:St) (H:Hp) (x:V) (v vl vu:Value) (lo hi:Option Int) (sl:Addr) (Q:VK),Inv X pins σ H s->RelV x v->s.heap.IsSliceOf sl vl vu .none->IsPart vl lo->IsPart vu hi->r x lo hi H Q ->
  ∃ T id,typeLookup (.type T) "__getitem__"=pure (some (.builtin id))/\s.TypeIs v T/\wpAny (model X.prog X.w) X.A (getItem v (.ref sl)) (EP X pins σ Q) X.xe s
def tSl(r:V->Option Int->Option Int->Hp->VK->Prop)(te:TE)(tl th:TO):TE:=fun σ H Q=>te σ H fun x H1=>tl σ H1 fun l H2=>th σ H2 fun u H3=>r x l u H3 Q
theorem zot{r:V->Option Int->Option Int->Hp->VK->Prop}(hr:SlR X r)(he:PE X e te)(hl:PO X lo tl)(hu:PO X hi th):PE X (.Subscript e (.Slice lo hi none p2) pos) (tSl r te tl th):=by
 intro pins s σ H Q I h
 refine Subscript_ (thn (he pins s σ H _ I h) fun v s1 ⟨x,H1,I1,r1,q1⟩=>?_)
 refine wpAny_Slice (thn (hl pins s1 σ H1 _ I1 q1) fun vl s2 ⟨l,H2,I2,pl,q2⟩=>thn (hu pins s2 σ H2 _ I2 q2) fun vu s3 ⟨u,H3,I3,pu,q3⟩=>?_)
 rw [evalPart_none]
 refine wpAny_pure ?_
 have I4:Inv X pins σ H3 { s3 with heap:=s3.heap.push { cls:=.type "slice",data:=.fields #[vl,vu,.none] } }:=I3.kept (t':=s3.toks) fun b ob q=>Heap.get?_push_of_some _ q
 obtain⟨T,id,hT,ht,hg⟩:=hr pins { s3 with heap:=s3.heap.push { cls:=.type "slice",data:=.fields #[vl,vu,.none] } } σ H3 x v vl vu l u s3.heap.objs.size Q I4 r1 (Heap.IsSliceOf.new ..) pl pu q3
 show wpAny (model X.prog X.w) X.A (subscriptTail e (.Slice lo hi none p2) v (.ref s3.heap.objs.size)) (EP X pins σ Q) X.xe { s3 with heap:=s3.heap.push { cls:=.type "slice",data:=.fields #[vl,vu,.none] } }
 exact tail_any (ops:=[.ref s3.heap.objs.size,v]) ht hT hg (by with_unfolding_all rfl)
def zo1(xs:List V)(lo hi:Option Int):List V:=(xs.drop (HT.sIx xs.length 0 lo)).take (HT.sIx xs.length xs.length hi-HT.sIx xs.length 0 lo)
theorem zge(xs:List V)(lo hi:Option Int):(zo1 xs lo hi).length<=xs.length:=by
 unfold zo1
 rw [List.length_take,List.length_drop]
 omega
def zvq(K:PySem.W.Frag):V->Option Int->Option Int->Hp->VK->Prop:=fun x lo hi H Q=>∃ a xs,x=.ref a/\SqT K H a xs /\
 ¬ (HT.sIx xs.length 0 lo=0/\HT.sIx xs.length xs.length hi=xs.length)/\∀ p,H p=none->Q (.ref p) (upd H p (.tup (zo1 xs lo hi)))
theorem zrN:SlR X (zvq X.K):=by
 intro pins s σ H x v vl vu lo hi sl Q I rx hs pl pu h
 obtain⟨a,xs,rfl,hx,hw,q⟩:=h
 cases rx
 obtain⟨its,r,ht,hz⟩:=I.tuple hx
 have hlen:its.toArray.size=xs.length:=by rw [List.size_toArray];exact r.length.symm
 refine⟨"tuple",_,PyProof.Rows.slot_tuple_getitem.lookup,ht.typeIs,?_⟩
 refine HT.zeH ht hs pl pu (by rw [hlen];exact hw) ?_ (by rw [hlen];exact hz)
 rw [hlen]
 refine⟨.ref s.heap.objs.size,_,I.laid (t':=s.toks) (o:=.tup (zo1 xs lo hi)) (fun b ob q=>Heap.get?_push_of_some _ q) (Nat.le_refl _) ?_,rfl,q _ (I.hok.fresh (Nat.le_refl _))⟩
 exact⟨Nat.le_trans (zge xs lo hi) hz,_,(r.drop (HT.sIx xs.length 0 lo)).take (HT.sIx xs.length xs.length hi-HT.sIx xs.length 0 lo),IsTup.new _ _⟩
def ztW(K:PySem.W.Frag):R2:=fun x y H Q=>∃ a b xs ys,x=.ref a/\y=.ref b/\SqT K H a xs/\SqT K H b ys/\xs≠[]/\xs.length+ys.length<=sizeLine /\
 (ys=[]->Q (.ref a) H)/\(ys≠[]->∀ p,H p=none->Q (.ref p) (upd H p (.tup (xs++ys))))
theorem Vals.zjG{xs:List V}{us:List Value}(r:Vals xs us):us=[]↔xs=[]:=by
 cases r with
 | nil=>simp
 | cons _ _=>simp
theorem zqO:OpR X (binaryOp .Add) (ztW X.K):=by
 intro pins s σ H x y v u Q I rx ry h
 obtain⟨a,b,xs,ys,rfl,rfl,ha,hb,hx,hz,q1,q2⟩:=h
 cases rx
 cases ry
 obtain⟨its,r1,p1,_⟩:=I.tuple ha
 obtain⟨its2,r2,p2,_⟩:=I.tuple hb
 refine HT.zrb p1 p2 (fun z=>hx (r1.zjG.mp z)) (fun z=>⟨.ref a,H,I,rfl,q1 (r2.zjG.mp z)⟩) (fun z=>?_) (by rw [<- r1.length,<- r2.length];exact hz)
 refine⟨.ref s.heap.objs.size,_,I.laid (t':=s.toks) (o:=.tup (xs++ys)) (fun b ob q=>Heap.get?_push_of_some _ q) (Nat.le_refl _) ?_,rfl,q2 (fun w=>z (r2.zjG.mpr w)) _ (I.hok.fresh (Nat.le_refl _))⟩
 exact⟨by rw [List.length_append];exact hz,_,r1.append r2,IsTup.new _ _⟩
end
end L2
namespace L2
open PySem PySem.Spec PyProof.Rows
def ixN(n:Nat)(i:Int):Option Nat:=if 0<=i then(if i<n then some i.toNat else none) else if -(n:Int)<=i then some (i+n).toNat else none
def atI{α:Type}(xs:List α)(i:Int):Option α:=(ixN xs.length i).bind fun j=>xs[j]?
theorem zm3{n:Nat}{i:Int}{j:Nat}(h:ixN n i=some j):seqIndex? i n=some j/\j<n/\-(n:Int)<=i/\i<n:=by
 unfold ixN at h
 by_cases h0:0<=i
 ·rw [if_pos h0] at h
  by_cases h1:i<n
  ·rw [if_pos h1] at h
   have e:i.toNat=j:=Option.some.inj h
   exact⟨by rw [seqIndex_of h0 h1,e],by omega,by omega,h1⟩
  ·rw [if_neg h1] at h;cases h
 ·rw [if_neg h0] at h
  by_cases h1:-(n:Int)<=i
  ·rw [if_pos h1] at h
   have e:(i+n).toNat=j:=Option.some.inj h
   exact⟨by rw [seqIndex_neg (by omega) h1,e],by omega,h1,by omega⟩
  ·rw [if_neg h1] at h;cases h
theorem zj4{α:Type}{xs:List α}{i:Int}{v:α}(h:atI xs i=some v):∃ j,seqIndex? i xs.length=some j/\xs[j]?=some v/\j<xs.length/\-(xs.length:Int)<=i/\i<xs.length:=by
 unfold atI at h
 cases e:ixN xs.length i with
 | none=>rw [e] at h;cases h
 | some j =>
  rw [e] at h
  obtain⟨h1,h2,h3,h4⟩:=zm3 e
  exact⟨j,h1,h,h2,h3,h4⟩
def zig(b:Expr):Prop:=∀ o i,subscripted b false o i=operate [o,i] (getItem o i)
def IxR(X:Cx)(r:R2):Prop :=
 ∀(value slice:Expr) (pins:List (Addr×Obj)) (s:Shared) (σ:St) (H:Hp) (x y:V) (v u:Value) (Q:VK),Inv X pins σ H s->RelV x v->RelV y u->r x y H Q ->
  subscripted slice false v u=operate [v,u] (getItem v u)->wpAny (model X.prog X.w) X.A (subscriptTail value slice v u) (EP X pins σ Q) X.xe s
def MtR(X:Cx)(id:String)(r:V->List V->Hp->VK->Prop):Prop :=
 ∀(pins:List (Addr×Obj)) (s:Shared) (σ:St) (H:Hp) (x:V) (xs:List V) (v:Value) (us:List Value) (Q:VK),Inv X pins σ H s->RelV x v->Vals xs us->r x xs H Q ->
  wpAny (model X.prog X.w) X.A (call (.builtin id) (v::us)) (EP X pins σ Q) X.xe s
section
variable {X:Cx}{a b:Expr}{ta tb:TE}{pos:Pos}
theorem zsr{r:R2}(hr:IxR X r)(ha:PE X a ta)(hb:PE X b tb)(hs:zig b):PE X (.Subscript a b pos) (tOp r ta tb):=by
 intro pins s σ H Q I h
 exact Subscript_ (zuJ ha hb I h fun v u s2 x y H2 I2 rx ry q=>hr a b pins s2 σ H2 x y v u Q I2 rx ry q (hs _ _))
def zvw(K:PySem.W.Frag):R2:=fun x y H Q=>∃ p xs i v,x=.ref p/\y=.int i/\SqL K H p xs/\atI xs i=some v/\Q v H
def zvu(K:PySem.W.Frag):R2:=fun x y H Q=>∃ p xs i v,x=.ref p/\y=.int i/\SqT K H p xs/\atI xs i=some v/\Q v H
def zvv:R2:=fun x y H Q=>∃ z i c,x=.str z/\y=.int i/\z.length<=sizeLine/\atI z.cps.toList i=some c/\Q (.str ⟨#[c]⟩) H
theorem zqY:IxR X (zvw X.K):=by
 intro value slice pins s σ H x y v u Q I rx ry h hs
 obtain⟨p,xs,i,z,rfl,rfl,hq,he,q⟩:=h
 cases rx
 obtain⟨t,rfl⟩:=ry
 obtain⟨its,r,pl,hz⟩:=I.list hq
 obtain⟨j,h1,h2,h3,h4,h5⟩:=zj4 he
 obtain⟨w,ew,rw'⟩:=r.get h2
 have hl:=r.length
 have hn:=zfV
 have fin:EP X pins σ Q w s:=⟨z,H,I,rw',q⟩
 by_cases h0:0<=i
 ·have hj:i.toNat=j:=by
   rw [seqIndex_of h0 h5] at h1
   exact Option.some.inj h1
  exact item_listR pl.isList h0 (by omega) (by rw [hj];simpa using ew) fin hs
 ·have hj:(i+(its.toArray.size:Int)).toNat=j:=by
   rw [seqIndex_neg (by omega) h4] at h1
   rw [List.size_toArray,<- hl]
   exact Option.some.inj h1
  exact subscriptTail_builtinR (x:=w) pl.isList.typeIs slot_list_getitem.lookup
   (wpAny_getItem_list_neg (Q:=fun r s'=>r=w/\EP X pins σ Q r s') pl.isList (by omega) (by rw [List.size_toArray] <;> omega) (by omega) (by rw [hj];simpa using ew) ⟨rfl,fin⟩) hs
theorem zsX:IxR X (zvu X.K):=by
 intro value slice pins s σ H x y v u Q I rx ry h hs
 obtain⟨p,xs,i,z,rfl,rfl,hq,he,q⟩:=h
 cases rx
 obtain⟨t,rfl⟩:=ry
 obtain⟨its,r,pl,hz⟩:=I.tuple hq
 obtain⟨j,h1,h2,h3,h4,h5⟩:=zj4 he
 obtain⟨w,ew,rw'⟩:=r.get h2
 have hl:=r.length
 have hn:=zfV
 have fin:EP X pins σ Q w s:=⟨z,H,I,rw',q⟩
 exact subscriptTail_builtinR (x:=w) pl.typeIs slot_tuple_getitem.lookup
  (getItem_tuple (j:=j) (Q:=fun r s'=>r=w/\EP X pins σ Q r s') pl (by omega) (by omega) (by rw [List.size_toArray,<- hl];exact h1) (by simpa using ew) ⟨rfl,fin⟩) hs
theorem zsY:IxR X zvv:=by
 intro value slice pins s σ H x y v u Q I rx ry h hs
 obtain⟨z,i,c,rfl,rfl,hz,he,q⟩:=h
 obtain⟨t,rfl⟩:=rx
 obtain⟨t',rfl⟩:=ry
 obtain⟨j,h1,h2,h3,h4,h5⟩:=zj4 he
 have hl:z.cps.toList.length=z.length:=by simp [Str.length]
 rw [hl] at h1 h4 h5
 have hn:=zfV
 exact tail_any (typeIs_str s z t) slot_str_getitem.lookup (getItem_str (c:=c) (by
  have e1:decide (i < -(2^63:Int))=false:=decide_eq_false (by omega)
  have e2:decide (i ≥ 2^63)=false:=decide_eq_false (by omega)
  rw [e1,e2,Bool.or_false]) (by rw [h1];simpa using h2) ⟨.str ⟨#[c]⟩,H,I.tok _,⟨_,rfl⟩,q⟩) hs
theorem zlj(its:List Value)(n j:Nat)(u:Value):Obj.mapSeq (·.setIfInBounds j u) { cls:=.type "list",data:=.seq its.toArray n }={ cls:=.type "list",data:=.seq (its.set j u).toArray n }:=by
 simp [Obj.mapSeq]
theorem Inv.lst{pins:List (Addr×Obj)}{σ:St}{H:Hp}{s:Shared}{p:Addr}{xs:List V}(I:Inv X pins σ H s)(h:H p=some (.lst xs)) :
  ∃(its:List Value) (n:Nat),Vals xs its/\s.heap.get? p=some { cls:=.type "list",data:=.seq its.toArray n }/\xs.length<=sizeLine:=by
 obtain⟨z,its,n,r,e⟩:=I.hok p _ h
 exact⟨its,n,r,e,z⟩
theorem Inv.zsM{pins:List (Addr×Obj)}{σ:St}{H:Hp}{s:Shared}{p:Addr}{xs ys:List V}{its its':List Value}{n n':Nat}{f:Obj->Obj}(I:Inv X pins σ H s)(h:H p=some (.lst xs))
  (ho:s.heap.get? p=some { cls:=.type "list",data:=.seq its.toArray n }) (hf:f { cls:=.type "list",data:=.seq its.toArray n }={ cls:=.type "list",data:=.seq its'.toArray n' }) (r:Vals ys its') (hz:ys.length<=sizeLine) (t:Nat) :
  Inv X pins σ (upd H p (.lst ys)) { s with heap:=s.heap.update p f,toks:=t }:=by
 have e:(s.heap.update p f).get? p=some { cls:=.type "list",data:=.seq its'.toArray n' }:=by
  rw [Heap.get?_update_self f ho (by rw [hf] <;> rfl),hf]
 refine I.write (x:=p) (e:=p) (by rw [h];trivial) (.inl rfl) (fun b u hb q=>(Heap.get?_update_other _ _ (Ne.symm hb)).trans q) ⟨_,e⟩ ?_
 exact⟨hz,its',n',r,e⟩
def ztV:V->V->V->Hp->(Hp->Prop)->Prop:=fun o i v H Q=>∃ p xs k j,o=.ref p/\i=.int k/\H p=some (.lst xs)/\ixN xs.length k=some j/\Q (upd H p (.lst (xs.set j v)))
theorem set_list:zva X ztV:=by
 intro pins s σ H o i v ov iv u Q I ro ri rv h
 obtain⟨p,xs,k,j,rfl,rfl,hp,hj,q⟩:=h
 cases ro
 obtain⟨t,rfl⟩:=ri
 obtain⟨its,n,r,ho,hz⟩:=I.lst hp
 obtain⟨h1,h2,h3,h4⟩:=zm3 hj
 have hl:=r.length
 have hn:=zfV
 have I':Inv X pins σ (upd H p (.lst (xs.set j v))) { s with heap:=s.heap.update p (Obj.mapSeq (·.setIfInBounds j u)) } :=
  I.zsM hp ho (zlj its n j u) (r.set rv j) (by rw [List.length_set];exact hz) s.toks
 by_cases h0:0<=k
 ·have hk:k.toNat=j:=by
   rw [seqIndex_of h0 h4] at h1
   exact Option.some.inj h1
  exact PySem.W.ki_setAt ho h0 (by omega) (by rw [List.size_toArray,<- hl];exact h4) (by rw [hk];exact⟨_,I',q⟩)
 ·have hk:(k+(its.toArray.size:Int)).toNat=j:=by
   rw [seqIndex_neg (by omega) h3] at h1
   rw [List.size_toArray,<- hl]
   exact Option.some.inj h1
  exact PySem.W.ki_setBack ho (by omega) (by rw [List.size_toArray,<- hl];exact h3) (by omega) (by rw [hk];exact⟨_,I',q⟩)
theorem zix(lo hi:Option Int)(n:Nat):(sliceBounds lo hi none n).1=((HT.sIx n 0 lo:Nat):Int)/\(sliceBounds lo hi none n).2.1=((HT.sIx n n hi:Nat):Int)/\(sliceBounds lo hi none n).2.2=1:=by
 refine⟨?_,?_,rfl⟩
 ·cases lo with
  | none=>simp [sliceBounds,HT.sIx]
  | some i =>
   simp only [sliceBounds,HT.sIx,Option.getD_none,show(1:Int) > 0 by decide,if_true]
   by_cases h:i<0
   ·simp only [h,if_true] <;> omega
   ·simp only [h,if_false] <;> omega
 ·cases hi with
  | none=>simp [sliceBounds,HT.sIx]
  | some i =>
   simp only [sliceBounds,HT.sIx,Option.getD_none,show(1:Int) > 0 by decide,if_true]
   by_cases h:i<0
   ·simp only [h,if_true] <;> omega
   ·simp only [h,if_false] <;> omega
theorem zhJ(its:List Value)(lo hi:Option Int):slicePick its.toArray lo hi none=((its.drop (HT.sIx its.length 0 lo)).take (HT.sIx its.length its.length hi-HT.sIx its.length 0 lo)).toArray:=by
 obtain⟨h1,h2,h3⟩:=zix lo hi its.toArray.size
 unfold slicePick
 rw [h1,h2,h3]
 simp only [sliceRange_one,pick_run,List.size_toArray] <;> rfl
def zvr(K:PySem.W.Frag):V->Option Int->Option Int->Hp->VK->Prop:=fun x lo hi H Q=>∃ a xs,x=.ref a/\SqL K H a xs/\∀ p,H p=none->Q (.ref p) (upd H p (.lst (zo1 xs lo hi)))
theorem zp5:SlR X (zvr X.K):=by
 intro pins s σ H x v vl vu lo hi sl Q I rx hs pl pu h
 obtain⟨a,xs,rfl,hx,q⟩:=h
 cases rx
 obtain⟨its,r,ht,hz⟩:=I.list hx
 have hlen:=r.length
 refine⟨"list",_,slot_list_getitem.lookup,ht.isList.typeIs,?_⟩
 refine wpAny_getItem_list_slice ht.isList hs pl pu .none (by simp) ?_ (by rw [List.size_toArray] <;> omega)
 rw [zhJ,<- hlen]
 refine⟨.ref s.heap.objs.size,_,I.laid (t':=s.toks) (o:=.lst (zo1 xs lo hi)) (fun b ob q=>Heap.get?_push_of_some _ q) (Nat.le_refl _) ?_,rfl,q _ (I.hok.fresh (Nat.le_refl _))⟩
 exact⟨Nat.le_trans (zge xs lo hi) hz,_,0,(r.drop (HT.sIx xs.length 0 lo)).take (HT.sIx xs.length xs.length hi-HT.sIx xs.length 0 lo),Heap.get?_push_size _ rfl⟩
theorem zfa:zeY X (.builtin "len") (fun xs H Q=>∃ p ys,xs=[.ref p]/\(SqL X.K H p ys\/SqT X.K H p ys)/\Q (.int ys.length) H):=by
 intro pins s σ H xs us Q I r h
 obtain⟨p,ys,rfl,hq,q⟩:=h
 obtain⟨u,rfl,rx⟩:=vals1 r
 cases rx
 have hn:=zfV
 rcases hq with hq|hq
 ·obtain⟨its,r',pl,hz⟩:=I.list hq
  have hlen:=r'.length
  exact Calls.call_len_list pl.isList (by simp only [List.size_toArray] <;> omega) ⟨.int ys.length,H,I.tok _,⟨s.toks+1,by rw [List.size_toArray,hlen]⟩,q⟩
 ·obtain⟨its,r',pl,hz⟩:=I.tuple hq
  have hlen:=r'.length
  exact len_tuple pl (by simp only [List.size_toArray] <;> omega) ⟨.int ys.length,H,I.tok _,⟨s.toks+1,by rw [List.size_toArray,hlen]⟩,q⟩
theorem zi3:zeY X (.builtin "len") (fun xs H Q=>∃ z,xs=[.str z]/\z.length<=sizeLine/\Q (.int z.length) H):=by
 intro pins s σ H xs us Q I r h
 obtain⟨z,rfl,hz,q⟩:=h
 obtain⟨u,rfl,t,rfl⟩:=vals1 r
 have hn:=zfV
 exact len_str (by omega) ⟨.int z.length,H,I.tok _,⟨_,rfl⟩,q⟩
theorem ze9:zeY X (.type "list") (fun xs H Q=>∃ p ys,xs=[.ref p]/\(SqL X.K H p ys\/SqT X.K H p ys)/\∀ l,H l=none->Q (.ref l) (upd H l (.lst ys))):=by
 intro pins s σ H xs us Q I r h
 obtain⟨p,ys,rfl,hq,q⟩:=h
 obtain⟨u,rfl,rx⟩:=vals1 r
 cases rx
 have fin:∀(its:List Value),Vals ys its->ys.length<=sizeLine->∀(h':Heap) (c':Nat),(∀ b o',s.heap.get? b=some o'->h'.get? b=some o') ->
   h'.get? s.heap.objs.size=some { cls:=.type "list",dict:=none,data:=.seq its.toArray c',slots:=#[] }->EP X pins σ Q (.ref s.heap.objs.size) { s with heap:=h' }:=fun its r' hz h' c' kp e =>
  ⟨.ref s.heap.objs.size,_,I.laid (t':=s.toks) kp (Nat.le_refl _) (show zbO X.prog X.w _ h' _ (.lst ys) from⟨hz,its,c',r',e⟩),rfl,q _ (I.hok.fresh (Nat.le_refl _))⟩
 rcases hq with hq|hq
 ·obtain⟨its,r',pl,hz⟩:=I.list hq
  have hlen:=r'.length
  obtain⟨o,ho,hc,n,hd⟩:=pl.isList
  exact call_list_seq p (.inl rfl) ho hc hd (fun h' c' kp e=>fin its r' hz h' c' kp e) (by simp only [List.size_toArray] <;> omega)
 ·obtain⟨its,r',pl,hz⟩:=I.tuple hq
  have hlen:=r'.length
  obtain⟨o,ho,hc,n,hd⟩:=pl
  exact call_list_seq p (.inr rfl) ho hc hd (fun h' c' kp e=>fin its r' hz h' c' kp e) (by simp only [List.size_toArray] <;> omega)
theorem zej:zeY X (.type "tuple") (fun xs H Q=>∃ p ys,xs=[.ref p]/\((SqL X.K H p ys/\∀ l,H l=none->Q (.ref l) (upd H l (.tup ys)))\/(SqT X.K H p ys/\Q (.ref p) H))):=by
 intro pins s σ H xs us Q I r h
 obtain⟨p,ys,rfl,h⟩:=h
 obtain⟨u,rfl,rx⟩:=vals1 r
 cases rx
 rcases h with⟨hq,q⟩|⟨hq,q⟩
 ·obtain⟨its,r',pl,hz⟩:=I.list hq
  have hlen:=r'.length
  refine call_tuple_list pl.isList (fun h' kp=>?_) (by simp only [List.size_toArray] <;> omega)
  have I1:Inv X pins σ H { s with heap:=h' }:=I.kept (t':=s.toks) kp
  have I2:Inv X pins σ (upd H h'.objs.size (.tup ys)) { s with heap:=h'.push { cls:=.type "tuple",data:=.seq its.toArray } } :=
   I1.laid (t':=s.toks) (fun b o e=>Heap.get?_push_of_some _ e) (Nat.le_refl _) (show zbO X.prog X.w _ _ _ (.tup ys) from⟨hz,its,r',IsTup.new _ _⟩)
  exact⟨.ref h'.objs.size,_,I2,rfl,q _ (I1.hok.fresh (Nat.le_refl _))⟩
 ·obtain⟨its,r',pl,hz⟩:=I.tuple hq
  exact call_tuple_same pl ⟨.ref p,H,I,rfl,q⟩
def tyV(K:PySem.W.Frag)(T:String)(x:V)(H:Hp):Prop:=match x with
 | .str _=>T="str"
 | .int _=>T="int"
 | .ref p=>(T="list"/\∃ xs,SqL K H p xs)\/(T="tuple"/\∃ o,K.lookup p=some o/\o.cls=.type "tuple"/\o.dict=none) \/
   (T="dict"/\((∃ kvs,H p=some (.dK kvs))\/∃ kvs,H p=some (.dT kvs)))\/(T="set"/\∃ S n,H p=some (.set S n))
 | _=>False
theorem zrD{pins:List (Addr×Obj)}{σ:St}{H:Hp}{s:Shared}{T:String}{x:V}{v:Value}(I:Inv X pins σ H s)(r:RelV x v)(ty:tyV X.K T x H) :
  s.TypeIs v T/\∀ a,v=.ref a->∃ ob,s.heap.get? a=some ob/\ob.dict=none:=by
 cases x with
 | str z =>
  obtain⟨t,rfl⟩:=r
  cases (show T="str" from ty)
  exact⟨typeIs_str s z t,fun _ e=>nomatch e⟩
 | int i =>
  obtain⟨t,rfl⟩:=r
  cases (show T="int" from ty)
  exact⟨typeIs_int s i t,fun _ e=>nomatch e⟩
 | ref p =>
  cases r
  rcases ty with⟨rfl,xs,hq⟩|⟨rfl,o,hk,hc,hd⟩|⟨rfl,hk⟩|⟨rfl,S,n,hk⟩
  ·obtain⟨its,_,pl,_⟩:=I.list hq
   refine⟨pl.isList.typeIs,fun a e=>?_⟩
   cases e
   obtain⟨o,n,e,c,hd,_⟩:=pl
   exact⟨o,e,hd⟩
  ·refine⟨⟨o,I.kIn p o hk,hc⟩,fun a e=>?_⟩
   cases e
   exact⟨o,I.kIn _ o hk,hd⟩
  ·have z:∃ o,s.heap.get? p=some o/\o.ExactDict:=by
    rcases hk with⟨kvs,hk⟩|⟨kvs,hk⟩
    ·obtain⟨_,_,_,_,o,_,_,e,ex,_⟩:=I.hok p _ hk
     exact⟨o,e,ex⟩
    ·obtain⟨_,_,_,_,o,_,_,e,ex,_⟩:=I.hok p _ hk
     exact⟨o,e,ex⟩
   obtain⟨o,e,ex⟩:=z
   refine⟨⟨o,e,ex.1⟩,fun a e2=>?_⟩
   cases e2
   exact⟨o,e,ex.2.1⟩
  ·obtain⟨o,_,_,_,e,ex,_⟩:=I.hok p _ hk
   refine⟨⟨o,e,ex.1⟩,fun a e2=>?_⟩
   cases e2
   exact⟨o,e,ex.2.1⟩
 | _=>exact False.elim ty
def tBM(K:PySem.W.Frag)(T:String)(r:V->List V->Hp->VK->Prop)(to:TE)(t:TA):TE:=fun σ H Q=>to σ H fun x H1=>tyV K T x H1/\t σ H1 fun xs H2=>r x xs H2 Q
variable {o e:Expr}{es:List Expr}{to:TE}{t:TA}{name:Str}{apos cpos:Pos}{T id:String}{r:V->List V->Hp->VK->Prop}
theorem zqH(pa:PlainAttrs T)(slot:Slot T name id)(hty:typeOf (.builtin id)=pure (.type "method_descriptor")) (hm:MtR X id r) (ho:PE X o to) (ha:PA X (e::es) t)
  (hbase:attributeBase o name X.env (eval o X.env)=eval o X.env:=by rfl)
  (hfew:((backTo cpos (starEach (e::es) X.env)).all (fun x=>!x.1)&&(backToKw cpos (keywordEach [] X.env)).all (fun x=>x.1.isSome)
   && decide ((e::es).length+([]:List Keyword).length+(if([]:List Keyword).isEmpty then 0 else 1)<30))=true:=by rfl)
  (hline:(apos.endLine==cpos.line)=true:=by rfl) (hs:starEach (e::es) X.env=(false,eval e X.env)::starEach es X.env:=by rfl) (hplain:(backTo cpos (starEach es X.env)).any (·.1)=false:=by rfl) :
  PE X (.Call (.Attribute o name apos) (e::es) [] cpos) (tBM X.K T r to t):=by
 intro pins s σ H Q I h
 refine wpAny_Call_method_late hbase hfew hline rfl (thn (ho pins s σ H _ I h) fun v s1 ⟨x,H1,I1,r1,ty,q1⟩=>?_)
 obtain⟨h1,h2⟩:=zrD I1 r1 ty
 refine⟨T,id,pa,slot,hty,h1,h2,?_⟩
 have hA:=ha cpos pins s1 σ H1 _ I1 q1
 rw [hs] at hA ⊢
 refine Calls.callWith_builtin (by show(false||(backTo cpos (starEach es X.env)).any (·.1))=false;rw [hplain] <;> rfl) (Calls.evalArgs_plain ?_)
 exact thn hA fun us s2 ⟨vs,H2,I2,r2,q2⟩=>hm pins s2 σ H2 x vs v us Q I2 r1 r2 q2
end
end L2
namespace L2
open PySem PySem.Spec PyProof.Rows
def MtM(X:Cx)(id:String)(r:V->List V->Hp->VK->Prop):Prop :=
 ∀(pins:List (Addr×Obj)) (s:Shared) (σ:St) (H:Hp) (x:V) (xs:List V) (v:Value) (us:List Value) (Q:VK),Inv X pins σ H s->RelV x v->Vals xs us->r x xs H Q ->
  wpAny (model X.prog X.w) X.A (call (.builtin id) (v::us)) (EP X pins σ Q) X.xe s
theorem Vals.one:∀{x:V} {us:List Value},Vals [x] us->∃ u,us=[u]/\RelV x u
 | _,_,.cons r .nil=>⟨_,rfl,r⟩
theorem Vals.dropLast{xs:List V}{us:List Value}(h:Vals xs us):Vals xs.dropLast us.dropLast:=by
 induction h with
 | nil=>exact .nil
 | cons r t ih =>
  cases t with
  | nil=>exact .nil
  | cons q t'=>exact .cons r ih
theorem Vals.rep{xs:List V}{us:List Value}(h:Vals xs us):∀ k:Nat,Vals (List.replicate k xs).flatten (List.replicate k us).flatten
 | 0=>.nil
 | k+1=>by
  rw [List.replicate_succ,List.replicate_succ,List.flatten_cons,List.flatten_cons]
  exact Vals.append h (Vals.rep h k)
theorem zrs{α:Type}(l:List α):l.eraseIdx (l.length-1)=l.dropLast:=by
 induction l with
 | nil=>rfl
 | cons a r ih =>
  cases r with
  | nil=>rfl
  | cons b r =>
   have e:(a::b::r).length-1=((b::r).length-1)+1:=by
    have h1:(a::b::r).length=r.length+2:=rfl
    have h2:(b::r).length=r.length+1:=rfl
    omega
   rw [e,List.eraseIdx_cons_succ,ih]
   all_goals rfl
theorem foldl_rep(its:List Value):∀(k:Nat) (acc:List Value),
  List.foldl (fun x1 x2=>x1++x2) acc.toArray (List.replicate k its.toArray)=(acc++(List.replicate k its).flatten).toArray
 | 0,acc=>by simp
 | k+1,acc=>by
  have e:acc.toArray++its.toArray=(acc++its).toArray:=by simp
  have e2:(acc++its)++(List.replicate k its).flatten=acc++(List.replicate (k+1) its).flatten:=by
   rw [List.replicate_succ,List.flatten_cons,List.append_assoc]
  rw [<- e2,<- foldl_rep its k (acc++its),<- e,List.replicate_succ,List.foldl_cons]
section
variable {X:Cx}{pins:List (Addr×Obj)}{σ:St}{H:Hp}{s:Shared}{l b:Addr}{xs ys zs:List V}
theorem Inv.zu1{its its':List Value}{n:Nat}{f:Array Value->Array Value}{t':Nat}(I:Inv X pins σ H s)(hH:H l=some (.lst xs))
  (e:s.heap.get? l=some { cls:=.type "list",data:=.seq its.toArray n }) (hf:f its.toArray=its'.toArray) (hv:Vals ys its') (hz:ys.length<=sizeLine) :
  Inv X pins σ (upd H l (.lst ys)) { s with heap:=s.heap.update l (Obj.mapSeq f),toks:=t' }:=by
 have q:=PySem.IsL.update e f
 rw [hf] at q
 refine I.write (x:=l) (e:=l) (by rw [hH];exact trivial) (.inl rfl) (fun b' u hb hu=>(Heap.get?_update_other s.heap (Obj.mapSeq f) (Ne.symm hb)).trans hu) ⟨_,q⟩ ?_
 exact⟨hz,its',_,hv,q⟩
theorem Inv.zum{its:List Value}{t':Nat}(I:Inv X pins σ H s)(hv:Vals ys its)(hz:ys.length<=sizeLine) :
  Inv X pins σ (upd H s.heap.objs.size (.lst ys)) { s with heap:=s.heap.push { cls:=.type "list",data:=.seq its.toArray },toks:=t' } :=
 I.laid (fun _ _ q=>Heap.get?_push_of_some _ q) (Nat.le_refl _) ⟨hz,its,0,hv,Heap.get?_push_size _ rfl⟩
theorem Inv.fresh(I:Inv X pins σ H s):H s.heap.objs.size=none:=I.hok.fresh (Nat.le_refl _)
theorem Inv.zu0(I:Inv X pins σ H s)(hH:H l=some (.lst xs)):xs.length<=sizeLine/\∃(its:List Value) (n:Nat),Vals xs its/\xs.length=its.length/\s.heap.get? l=some { cls:=.type "list",data:=.seq its.toArray n }:=by
 obtain⟨z,its,n,r,e⟩:=I.hok l _ hH
 exact⟨z,its,n,r,r.length,e⟩
end
section
variable {X:Cx}
def zqb:V->List V->Hp->VK->Prop:=fun x vs H Q=>∃ l xs y,x=.ref l/\vs=[y]/\H l=some (.lst xs)/\xs.length<sizeLine/\Q .non (upd H l (.lst (xs++[y])))
theorem zfT:MtM X "list.append" zqb:=by
 intro pins s σ H x vs v us Q I rx rv h
 obtain⟨l,xs,y,rfl,rfl,hH,hz,q⟩:=h
 cases rx
 obtain⟨u,rfl,ru⟩:=rv.one
 obtain⟨z,its,n,r,hl,e⟩:=I.zu0 hH
 refine call_meets F.slot_list_append ⟨_,e,rfl⟩ F.entry_list_append (F.args_list_append_2 _ _) (PySem.list_append l its.toArray n u (by rw [List.size_toArray];omega)) ⟨e,?_⟩
 refine⟨.non,_,I.zu1 (its':=its++[u]) hH e (by simp) (r.append (.cons ru .nil)) ?_,rfl,q⟩
 rw [List.length_append,List.length_singleton]
 omega
theorem len_rep{α:Type}(xs:List α)(k:Nat):(List.replicate k xs).flatten.length=k*xs.length:=by
 induction k with
 | zero=>simp
 | succ k ih=>rw [List.replicate_succ,List.flatten_cons,List.length_append,ih,Nat.succ_mul,Nat.add_comm]
end
end L2
namespace Att
open PySem PySem.W PySem.Calls PyProof.Rows
theorem zf5{P:Params}{h:Heap}:∀(ns:List Int) (vs:List Value),WellAll P h vs (ns.map WData.int)->IntsAre vs ns:=by
 intro ns
 induction ns with
 | nil =>
  intro vs w
  rw [List.map_nil] at w
  cases w
  exact .nil
 | cons n ns ih =>
  intro vs w
  rw [List.map_cons] at w
  cases w with
  | cons a b =>
   cases a
   exact .cons _ _ (ih _ b)
theorem zl9{l:OpenLaw}{n:Nat}(hn:l.most=some n){P:Params}{h:Heap}{args:List WData}{vals:List Value}
  (hpre:l.row.toRowW.claim.pre args=true)(hwl:WellAll P h vals args) :
  ∃ a vs ns,vals=[Value.ref a]/\args=[WData.list (ns.map WData.int)]/\h.get? a=some { cls:=.type "list",data:=.seq vs.toArray }/\IntsAre vs ns/\ns.length<=n:=by
 have hsh:WShape.hasAll [] args [.list .int]=true:=(pre_splitW hpre).1
 have hc:l.pre.holds [] { args:=args }=true:=(pre_splitW hpre).2
 obtain⟨d,r,rfl,h1,h2⟩:=hasAllW_cons hsh
 obtain rfl:=hasAllW_nil h2
 obtain⟨xs,rfl,h3⟩:=hasW_list h1
 obtain⟨ns,rfl⟩:=items_int h3
 have hlen:ns.length<=n:=by
  unfold OpenLaw.pre at hc
  have h4:(WTm.not (.lt (.lit (.int (n:Int))) (.len (.arg 0)))).holds [] { args:=[.list (ns.map .int)] }=true:=by
   have h4:=(holds_andW hc).1
   rw [hn] at h4
   exact h4
  have h5:=condW_of h4 (w_not (w_lt w_lit (w_len_list (w_arg rfl))))
  rw [List.length_map] at h5
  refine Nat.le_of_not_lt fun q=>?_
  have q':(n:Int)<((ns.length:Nat):Int):=by omega
  first
   | (rw [decide_eq_true q'] at h5;exact absurd h5 (by decide))
   | (simp at h5;omega)
 cases hwl with
 | cons w1 w2 =>
  cases w2
  cases w1 with
  | list ho hall=>exact⟨_,_,ns,rfl,rfl,ho,zf5 ns _ hall,hlen⟩
theorem zmv(l:OpenLaw)(args:List WData):l.row.toRowW.claim.post args (.bool true) args=true :=
 postW_of (r:=l.row.toRowW) (X:=(true==true))
  (show WShape.has [] (.bool true) .bool=true by first|rfl|decide|simp [WShape.has,WShape.arms,WShape.armsAll])
  (show(WTm.eq .res (.lit (.bool true))).value [] { args:=args,res:=some (.bool true),after:=args }=some (.bool (true==true)) from w_eq_bool (w_res rfl) w_lit) rfl
theorem zj3{l:OpenLaw}{n:Nat}{q:Program}{loose:List Str}{XP:(Str->Option Value)->Heap->Prop}{YP:World->Heap->Prop}{d:DefRec}
  (hn:l.most=some n)(hdf:d.params.defaults=[])
  (call:∀(w:World) (s₀ s₁:Shared) (mg mb:Str->Option Value) (fa:Addr) (o:Obj) (pm cd doc:Value) (a:Addr) (vs:List Value) (ns:List Int),
   Ground q loose [] XP w s₀ mg mb s₁.heap->YP w s₁.heap ->
   s₁.heap.get? fa=some o->o.data=.func (docDef d.name d.params d.body d.scope pm cd doc)->s₁.heap.CodeRec cd d.name->mg d.name=some (.ref fa) ->
   s₁.heap.get? a=some { cls:=.type "list",data:=.seq vs.toArray }->IntsAre vs ns->ns.length<=n->s₁.gens=#[] ->
   codeAny (model l.prog w) callerA (.call (.ref fa) ⟨[.ref a],[]⟩) (fun r s'=>r=.ok (.ret (.bool true))/\OldK s₁.heap s'.heap/\s'.os=s₁.os/\AllBare s'.gens) s₁) :
  WalkO q loose XP YP l.row.toRowW d [] (fun f vs=>PySem.call f vs):=by
 intro w s₀ s₁ mg mb G Y fa o pm cd doc dV kV ho hd hcd hD hmg hg args vals as hpre hlay hrd hwl hlo
 obtain rfl:dV=.none:=Dflts.none hD hdf
 obtain rfl:kV=.none:=Dflts.noKw hD
 obtain⟨a,vs,ns,rfl,rfl,hobj,hints,hlen⟩:=zl9 hn hpre hwl
 refine enter_call (codeAny_mono (call w s₀ s₁ mg mb fa o pm cd doc a vs ns G Y ho (fd_plain hd) hcd hmg hobj hints hlen hg) fun r s' hq=>?_)
 obtain⟨rfl,h2,h3,h4⟩:=hq
 exact⟨.inl ⟨.bool true,.bool true,[],rfl,fun _=>rfl,.bool true,zmv l _,fun _=>⟨List.Pairwise.nil,fun _ hm=>(nomatch hm)⟩⟩,h2,h3,h4⟩
end Att
namespace L2
open PySem PySem.Spec PyProof.Rows
theorem zis:∀{vs:List Value} {ns:List Int},IntsAre vs ns->Vals (ns.map V.int) vs
 | _,_,.nil=>.nil
 | _,_,.cons n t h=>.cons ⟨t,rfl⟩ (zis h)
end L2
namespace L2
open PySem PySem.Spec PyProof.Rows
abbrev KOf{K:PySem.W.Frag}{h:Heap}(_:K.In h):PySem.W.Frag:=K
end L2
namespace L2
open PySem PySem.Spec PyProof.Rows
def zcW(s:Stmt):Arguments:=match s with
 | .FunctionDef _ a _ _ _ _ _ _ _ _=>a
 | _=>{ posonlyargs:=[],args:=[],vararg:=none,kwonlyargs:=[],kw_defaults:=[],kwarg:=none,defaults:=[] }
def zbz(s:Stmt):List Stmt:=match s with
 | .FunctionDef _ _ b _ _ _ _ _ _ _=>b
 | _=>[]
def zas(s:Stmt):Scope:=match s with
 | .FunctionDef _ _ _ _ _ _ sc _ _ _=>sc
 | _=>{ kind:=.function,names:=[],isGenerator:=false,isCoroutine:=false }
abbrev E0:XK:=fun _ _ _=>False
structure Fun(K:PySem.W.Frag)(x qual:Str)(st:Stmt)(f:Addr)(fd:FuncData):Prop where
 ex:∃(oc:Value) (od:Option Addr) (kV doc pm:Value) (an:Option Addr) (cdv ct:Value) (osl:Array (Option Value)),
  fd=PySem.W.fnOf x qual (zcW st) (zbz st) (zas st) .none kV doc pm an cdv ct/\K.lookup f=some ⟨oc,od,.func fd,osl⟩/\PySem.W.codeIn K cdv qual=true
 kp:PySem.W.keepIn K (.ref f)=true
section
variable {P:Program}{w:World}{K:PySem.W.Frag}{mg:Str->Option Value}{base:Heap}
theorem Fun.binds{x qual:Str}{st:Stmt}{f:Addr}{fd:FuncData}{ps:List Str}(F:Fun K x qual st f fd)
  (h:∀(kV doc pm:Value) (an:Option Addr) (cdv ct:Value) (us:List Value),us.length=ps.length->bindArgs (PySem.W.fnOf x qual (zcW st) (zbz st) (zas st) .none kV doc pm an cdv ct) ⟨us,[]⟩=pure (ps.zip us)):Binds K fd ps []:=by
 obtain⟨oc,od,kV,doc,pm,an,cdv,ct,osl,rfl,lk,hcd⟩:=F.ex
 exact .all (h kV doc pm an cdv ct)
theorem zta{x qual:Str}{st:Stmt}{f:Addr}{oc:Value}{od an:Option Addr}{osl:Array (Option Value)}{kV doc pm cdv ct:Value}(l:K.lookup f=some ⟨oc,od,.func (PySem.W.fnOf x qual (zcW st) (zbz st) (zas st) .none kV doc pm an cdv ct),osl⟩)
  (c:PySem.W.codeIn K cdv qual=true)(k:PySem.W.keepIn K (.ref f)=true):Fun K x qual st f (PySem.W.fnOf x qual (zcW st) (zbz st) (zas st) .none kV doc pm an cdv ct):=⟨⟨oc,od,kV,doc,pm,an,cdv,ct,osl,rfl,l,c⟩,k⟩
end
theorem zl8{n:Nat}(h:n<=1000):n<sizeLine:=Nat.lt_of_le_of_lt h (by decide)
section
variable {X:Cx}
theorem pv(i:Nat){x:Str}{pos:Pos}(hN:X.N[i]?=some x:=by rfl)(hv:Vis X.env.scope x:=by first|exact Or.inl rfl|exact Or.inr (Or.inl rfl)|exact Or.inr (Or.inr rfl))(hd:(x==("__debug__":Str))=false:=by decide)
  (hcd:(x==("__classdict__":Str))=false:=by decide):PE X (.Name x pos) (zgE i):=zpn hN hv hd hcd
end
theorem zoQ{A B:Prop}(h:B):if false=true then A else B:=by
 rw [if_neg Bool.false_ne_true]
 exact h
theorem zoP{A B:Prop}(h:A):if true=true then A else B:=by
 rw [if_pos rfl]
 exact h
def zaE(H H':Hp):Prop:=∀ b o,H b=some o->H' b=some o
theorem zaE.refl(H:Hp):zaE H H:=fun _ _ h=>h
end L2
namespace L2
open PySem PySem.Spec PyProof.Rows
theorem bits_le{k:Int}{a:Nat}(h:k.natAbs<2^a):Builtin.Int.intBits k<=a:=by
 unfold Builtin.Int.intBits
 split
 ·exact Nat.zero_le _
 ·rename_i h0
  have hp:k.natAbs≠0:=by
   intro z
   apply h0
   have:k=0:=by omega
   subst this
   rfl
  have:=(Nat.log2_lt hp).mpr h
  omega
theorem mulOk_of{i j:Int}{a b:Nat}(hi:i.natAbs<2^a)(hj:j.natAbs<2^b)(h:a+b<=134217728):IntMulOk i j:=by
 have h1:=bits_le hi
 have h2:=bits_le hj
 have h3:Builtin.Int.intTooBig ((Builtin.Int.intBits i:Int)+(Builtin.Int.intBits j:Int))=false:=by
  unfold Builtin.Int.intTooBig
  rw [bitsLine_eq]
  simp
  omega
 unfold IntMulOk
 rw [h3]
 simp
section
variable {X:Cx}
theorem zqM:OpR X (binaryOp .Mult) (rI IntMulOk fun i j=>.int (i*j)):=opI fun _ _ _ _ _ _ _ hc q=>mul_int q hc
end
mutual
/-- the value v is the thing d in the abstract heap -/
def Is(K:PySem.W.Frag)(H:Hp):PyData->V->Prop
 | .none,v=>v=.non
 | .bool b,v=>v=.bl b
 | .int i,v=>v=.int i
 | .str x,v=>v=.str x
 | .list xs,v=>∃ a vs,v=.ref a/\SqL K H a vs/\zeR K H xs vs
 | .tuple xs,v=>∃ a vs,v=.ref a/\SqT K H a vs/\zeR K H xs vs
 | .dict _,_=>False
def zeR(K:PySem.W.Frag)(H:Hp):List PyData->List V->Prop
 | [],vs=>vs=[]
 | d::ds,vs=>∃ v r,vs=v::r/\Is K H d v/\zeR K H ds r
end
section
variable {X:Cx}{pins:List (Addr×Obj)}{σ:St}{H:Hp}{s:Shared}
mutual
theorem Is.reads(I:Inv X pins σ H s):∀(d:PyData) (v:V) (u:Value),Is X.K H d v->RelV v u->∃ as,Reads s.heap u d as
 | .none,v,u,h,r=>by
  simp only [Is] at h;subst h
  cases (show u=Value.none from r)
  exact⟨_,.none⟩
 | .bool b,v,u,h,r=>by
  simp only [Is] at h;subst h
  cases (show u=Value.bool b from r)
  exact⟨_,.bool b⟩
 | .int i,v,u,h,r=>by
  simp only [Is] at h;subst h
  obtain⟨t,rfl⟩:=(show ∃ t,u=Value.int i t from r)
  exact⟨_,.int i t⟩
 | .str x,v,u,h,r=>by
  simp only [Is] at h;subst h
  obtain⟨t,rfl⟩:=(show ∃ t,u=Value.str x t from r)
  exact⟨_,.str x t⟩
 | .list xs,v,u,h,r=>by
  simp only [Is] at h
  obtain⟨a,vs,rfl,h1,h2⟩:=h
  cases (show u=Value.ref a from r)
  obtain⟨its,rv,⟨o,n,ho,hc,_,hd⟩,_⟩:=I.list h1
  obtain⟨as,ra⟩:=zeR.reads I xs vs its h2 rv
  exact⟨_,.list ho hc hd (by simpa using ra)⟩
 | .tuple xs,v,u,h,r=>by
  simp only [Is] at h
  obtain⟨a,vs,rfl,h1,h2⟩:=h
  cases (show u=Value.ref a from r)
  obtain⟨its,rv,⟨o,ho,hc,n,hd⟩,_⟩:=I.tuple h1
  obtain⟨as,ra⟩:=zeR.reads I xs vs its h2 rv
  exact⟨_,.tuple ho hc hd (by simpa using ra)⟩
 | .dict _,v,u,h,r=>by simp only [Is] at h
theorem zeR.reads(I:Inv X pins σ H s):∀(ds:List PyData) (vs:List V) (us:List Value),zeR X.K H ds vs->Vals vs us->∃ as,ReadsAll s.heap us ds as
 | [],vs,us,h,r=>by
  simp only [zeR] at h;subst h
  cases r
  exact⟨_,.nil⟩
 | d::ds,vs,us,h,r=>by
  simp only [zeR] at h
  obtain⟨v,rr,rfl,h1,h2⟩:=h
  cases r with
  | cons r1 r2 =>
   obtain⟨as,q1⟩:=Is.reads I d v _ h1 r1
   obtain⟨bs,q2⟩:=zeR.reads I ds rr _ h2 r2
   exact⟨_,.cons q1 q2⟩
end
end
section
variable {X:Cx}
def zvz(K:PySem.W.Frag):R2:=fun x y H Q=>∃ d e,Is K H d x/\Is K H e y/\SeqAt.shaped d=true/\SeqAt.shaped e=true/\Q (.bl (PyData.eqv d e)) H
def zvt(K:PySem.W.Frag):R2:=fun x y H Q=>∃ d e,Is K H d x/\Is K H e y/\SeqAt.shaped d=true/\SeqAt.shaped e=true/\Q (.bl (!PyData.eqv d e)) H
theorem zsB(hu:X.A.units+64<cLine):OpR X (compareOp .Eq) (zvz X.K):=by
 intro pins s σ H x y v u Q I rx ry h
 obtain⟨d,e,h1,h2,c1,c2,q⟩:=h
 obtain⟨as,ra⟩:=Is.reads I d x v h1 rx
 obtain⟨bs,rb⟩:=Is.reads I e y u h2 ry
 exact SeqAt.compareEq_shaped ra rb c1 c2 hu ⟨.bl _,H,I,rfl,q⟩
theorem zsy(hu:X.A.units+64<cLine):OpR X (compareOp .NotEq) (zvt X.K):=by
 intro pins s σ H x y v u Q I rx ry h
 obtain⟨d,e,h1,h2,c1,c2,q⟩:=h
 obtain⟨as,ra⟩:=Is.reads I d x v h1 rx
 obtain⟨bs,rb⟩:=Is.reads I e y u h2 ry
 exact SeqAt.compareNe_shaped ra rb c1 c2 hu ⟨.bl _,H,I,rfl,q⟩
end
end L2
namespace L2
open PySem PySem.Spec PyProof.Rows
inductive Ty(K:PySem.W.Frag)(H:Hp):V->Value->Prop where
 | non:Ty K H .non (.type "NoneType")
 | bl (x:Bool):Ty K H (.bl x) (.type "bool")
 | int (i:Int):Ty K H (.int i) (.type "int")
 | str (x:Str):Ty K H (.str x) (.type "str")
 | lst {a:Addr} {xs:List V} (e:SqL K H a xs):Ty K H (.ref a) (.type "list")
 | tup {a:Addr} {xs:List V} (e:SqT K H a xs):Ty K H (.ref a) (.type "tuple")
def ztH:V->Value
 | .ty n=>.type n
 | .ref a=>.ref a
 | _=>.none
theorem zra{y:V}{u:Value}(r:RelV y u)(h:ztH y≠.none):u=ztH y:=by
 cases y with
 | ty n=>exact r
 | ref a=>exact r
 | _=>exact absurd rfl h
section
variable {X:Cx}
theorem zsZ{pins:List (Addr×Obj)}{σ:St}{H:Hp}{s:Shared}{A:Around}{E:Value->Shared->Prop}{Q:Value->Shared->Prop}{c:Value}{b:Bool}{x:V}{u t:Value}(I:Inv X pins σ H s)(rx:RelV x u)(ty:Ty X.K H x t)(e:PySem.W.kitOne X.K t c=some b)(h:∀ tk,Q (.bool b) { s with toks:=tk }) :
  wpAny (model X.prog X.w) A (call (.builtin "isinstance") [u,c]) Q E s:=by
 cases ty with
 | non=>cases (show u=Value.none from rx);exact PySem.W.kia_one PySem.W.kitx_none I.kIn True.intro e (fun z=>nomatch z) h
 | bl y=>cases (show u=Value.bool y from rx);exact PySem.W.kia_one PySem.W.kitx_bool I.kIn True.intro e (fun z=>nomatch z) h
 | int i=>obtain⟨t,q⟩:=(show ∃ t,u=Value.int i t from rx);cases q;exact PySem.W.kia_one PySem.W.kitx_int I.kIn True.intro e (fun z=>nomatch z) h
 | str y=>obtain⟨t,q⟩:=(show ∃ t,u=Value.str y t from rx);cases q;exact PySem.W.kia_one PySem.W.kitx_str I.kIn True.intro e (fun z=>nomatch z) h
 | @lst a xs ea =>
  cases (show u=Value.ref a from rx)
  obtain⟨its,_,⟨o,n,ho,hc,_⟩,_⟩:=I.list ea
  exact PySem.W.kia_one PySem.W.kitx_list I.kIn ⟨o,ho,hc⟩ e (fun z=>nomatch z) h
 | @tup a xs ea =>
  cases (show u=Value.ref a from rx)
  obtain⟨its,_,⟨o,ho,hc,_⟩,_⟩:=I.tuple ea
  exact PySem.W.kia_one PySem.W.kitx_tuple I.kIn ⟨o,ho,hc⟩ e (fun z=>nomatch z) h
def zvx(K:PySem.W.Frag):List V->Hp->VK->Prop:=fun xs H Q=>∃ x y t b,xs=[x,y]/\ztH y≠.none/\Ty K H x t/\PySem.W.kitOne K t (ztH y)=some b/\Q (.bl b) H
theorem zkU:zeY X (.builtin "isinstance") (zvx X.K):=by
 intro pins s σ H xs us Q I r h
 obtain⟨x,y,t,b,rfl,hy,ty,e,q⟩:=h
 obtain⟨u,v,rfl,ru,rv⟩:=vals2 r
 cases zra rv hy
 exact zsZ I ru ty e fun tk=>⟨.bl b,H,I.tok tk,rfl,q⟩
theorem zsk{x:Str}{n:String}{pos:Pos}(hg:Gl X x)(hm:X.mg x=none)(hv:bootBuiltins x=some (.type n))(hn:x ≠ "__name__":=by decide) (hd:(x==("__debug__":Str))=false:=by decide):PE X (.Name x pos) (tC (.ty n)):=zqI hg hm hv rfl hn hd
end
end L2
namespace L2
open PySem PySem.Spec PyProof.Rows
def zgY(cells:List (Str×Addr)):List (Str×NameKind)->List (Str×Addr)->List (Str×Addr)
 | [],acc=>acc
 | (n,k)::r,acc=>if k=.free then(match cells.lookup n with|some a=>zgY cells r ((n,a)::acc)|none=>zgY cells r acc) else zgY cells r acc
theorem zfy{cells:List (Str×Addr)}:∀{names:List (Str×NameKind)} {acc:List (Str×Addr)},(∀ p∈acc,cells.lookup p.1=some p.2)->∀ p∈zgY cells names acc,cells.lookup p.1=some p.2
 | [],acc,h,p,hp=>h p hp
 | (n,k)::r,acc,h,p,hp=>by
  unfold zgY at hp
  split at hp
  ·split at hp
   ·rename_i a e
    exact zfy (names:=r) (acc:=(n,a)::acc) (fun q hq=>by
     rcases List.mem_cons.mp hq with rfl|hq
     ·exact e
     ·exact h q hq) p hp
   ·exact zfy h p hp
  ·exact zfy h p hp
theorem zfz{cells:List (Str×Addr)}:∀{names:List (Str×NameKind)} {acc:List (Str×Addr)},∀ p∈acc,p∈zgY cells names acc
 | [],acc,p,hp=>hp
 | (n,k)::r,acc,p,hp=>by
  unfold zgY
  split
  ·split
   ·exact zfz p (List.mem_cons_of_mem _ hp)
   ·exact zfz p hp
  ·exact zfz p hp
theorem zei{cells:List (Str×Addr)}{x:Str}{a:Addr}(e:cells.lookup x=some a):∀{names:List (Str×NameKind)} {acc:List (Str×Addr)},(x,NameKind.free)∈names->(x,a)∈zgY cells names acc
 | (n,k)::r,acc,h=>by
  unfold zgY
  rcases List.mem_cons.mp h with h|h
  ·cases h
   rw [if_pos rfl,e]
   exact zfz _ (List.mem_cons_self ..)
  ·split
   ·split
    ·exact zei e h
    ·exact zei e h
   ·exact zei e h
theorem zby{α:Type}{x:Str}{a:α}:∀{l:List (Str×α)},(x,a)∈l->∃ b,l.lookup x=some b
 | (y,b)::r,h=>by
  by_cases e:(x==y)=true
  ·exact⟨b,by simp [List.lookup_cons,e]⟩
  ·rcases List.mem_cons.mp h with h|h
   ·cases h
    exact absurd (beq_self_eq_true _) e
   ·obtain⟨c,hc⟩:=zby h
    refine⟨c,?_⟩
    have e':(x==y)=false:=by simpa using e
    simp only [List.lookup_cons,e']
    exact hc
theorem zeh{scope:Scope}{env:Env}(h:∀ y∈scope.names,y.2=.free->∃ a,env.cells.lookup y.1=some a):closureFor scope env=pure (zgY env.cells scope.names []):=by
 have key:∀(names:List (Str×NameKind)) (acc:List (Str×Addr)),(∀ y∈names,y.2=.free->∃ a,env.cells.lookup y.1=some a) ->
   (forIn names acc (fun x r=>match x with
    | (name,kind)=>if(kind==NameKind.free)=true then do let a <- cellOf env name;pure (ForInStep.yield ((name,a)::r)) else pure (ForInStep.yield r)):Sem (List (Str×Addr)))=pure (zgY env.cells names acc):=by
  intro names
  induction names with
  | nil=>intro acc _;rfl
  | cons p r ih =>
   intro acc hh
   obtain⟨n,k⟩:=p
   rw [List.forIn_cons]
   by_cases hk:k=.free
   ·subst hk
    obtain⟨a,ea⟩:=hh (n,.free) (List.mem_cons_self ..) rfl
    have e1:cellOf env n=pure a:=by unfold cellOf;rw [ea]
    simp only [beq_self_eq_true,if_true,e1,pure_bind,zgY,ea]
    exact ih _ fun y hy=>hh y (List.mem_cons_of_mem _ hy)
   ·have hk':(k==NameKind.free)=false:=by simpa using hk
    simp only [hk',Bool.false_eq_true,if_false,pure_bind,zgY,hk]
    exact ih _ fun y hy=>hh y (List.mem_cons_of_mem _ hy)
 unfold closureFor
 exact(bind_pure _).trans (key scope.names [] h)
theorem za2{scope:Scope}{env:Env}{x:Str}{k:NameKind}:∀{names:List (Str×NameKind)},
  (names.map fun(n,k)=>if(k==NameKind.free&&env.scope.kind==.function&&env.kindOf n==some .cell) then(n,NameKind.cell) else(n,k)).lookup x=some k ->
  ∃ k0,names.lookup x=some k0/\(x,k0)∈names/\(k0=k\/(k0=.free/\k=.cell))
 | [],h=>by simp at h
 | (n,k0)::r,h=>by
  by_cases e:(x==n)=true
  ·have en:x=n:=by simpa using e
   subst en
   refine⟨k0,by simp [List.lookup_cons],List.mem_cons_self ..,?_⟩
   rw [List.map_cons] at h
   by_cases hc:(k0==NameKind.free&&env.scope.kind==.function&&env.kindOf x==some .cell)=true
   ·simp only [hc,if_true,List.lookup_cons,beq_self_eq_true] at h
    simp only [Bool.and_eq_true,beq_iff_eq] at hc
    exact .inr ⟨hc.1.1,(Option.some.inj h).symm⟩
   ·simp only [hc,Bool.false_eq_true,if_false,List.lookup_cons,beq_self_eq_true] at h
    exact .inl (Option.some.inj h)
  ·have e':(x==n)=false:=by simpa using e
   rw [List.map_cons] at h
   have h':(r.map fun(n,k)=>if(k==NameKind.free&&env.scope.kind==.function&&env.kindOf n==some .cell) then(n,NameKind.cell) else(n,k)).lookup x=some k:=by
    by_cases hc:(k0==NameKind.free&&env.scope.kind==.function&&env.kindOf n==some .cell)=true
    ·simp only [hc,if_true,List.lookup_cons,e'] at h
     exact h
    ·simp only [hc,Bool.false_eq_true,if_false,List.lookup_cons,e'] at h
     exact h
   obtain⟨k1,h1,h2,h3⟩:=za2 (scope:=scope) h'
   exact⟨k1,by simp only [List.lookup_cons,e'];exact h1,List.mem_cons_of_mem _ h2,h3⟩
structure ztz(X:Cx)(scope:Scope)(cap:List Str):Prop where
 kind:scope.kind=.function
 nocell:∀ y∈scope.names,y.2≠.cell
 cell:∀ y∈scope.names,y.2=.free->X.env.kindOf y.1=some .cell
 loc:∀ y∈scope.names,y.2=.local->scope.names.lookup y.1=some .local
 cap:∀ x∈cap,scope.names.lookup x≠some .local
def zfA(X:Cx)(ix:List Nat):List Str:=ix.map fun i=>X.N.getD i ""
def zfo(k:Nat)(ix:List Nat)(σ:St):St:=List.replicate k none++ix.map fun i=>(σ[i]?).getD none
end L2
namespace L2
open PySem PySem.Spec PyProof.Rows
section
variable {prog:Program}{w:World}{A:Around}{R:Result->Shared->Prop}{s:Shared}
theorem zgf{elt target iter:Expr}{ifs:List Expr}{scope:Scope}{pos:Pos}{it acc:Value}{env:Env}(I:Nat->Shared->Prop)
  (turn:∀ n s,I n s->wpAny (model prog w) A (pyNext it) (fun r s₁=>match r with
   | none=>R (.ok .next) s₁
   | some v=>wpAny (model prog w) A (letOwnedTupleGo target it v) (fun _ s₀=>wpAny (model prog w) A (assign target env v) (fun _ s₂ =>
     wpAny (model prog w) A (forIn ifs true fun c r=>if r=true then do let ok <- isTrue c env (eval c env);pure (ForInStep.yield ok) else pure (ForInStep.yield r)) (fun ok s₃ =>
      if ok=true then wpAny (model prog w) A (eval elt env) (fun x s₄ =>
       wpAny (model prog w) A (call (.builtin "list.append") [acc,x]) (fun _ s₅=>∃ m,m<n/\I m s₅) (notedBy (model prog w) A env fun e s'=>R (.error e) s') s₄) (notedBy (model prog w) A env fun e s'=>R (.error e) s') s₃
      else ∃ m,m<n/\I m s₃) (notedBy (model prog w) A env fun e s'=>R (.error e) s') s₂) (notedBy (model prog w) A env fun e s'=>R (.error e) s') s₀) (notedBy (model prog w) A env fun e s'=>R (.error e) s') s₁) (notedBy (model prog w) A env fun e s'=>R (.error e) s') s)
  (n:Nat) (h:I n s) :
  codeAny (model prog w) A (.compLoop (.ListComp elt [⟨target,iter,ifs,0⟩] scope pos) 0 it acc env) R s:=by
 refine codeAny_loop rfl I (fun n s hI=>?_) n h
 show wpAny _ A ((compTurn (.ListComp elt [⟨target,iter,ifs,0⟩] scope pos) 0 it acc env).onRaise (fun x=>do noteFrame x env;theTreesLotGoes x)) _ _ s
 refine wpAny_noted ?_
 rw [compTurn_list]
 refine wpAny_bind (wpAny_standAt (wpAny_bind (wpAny_mono (turn n s hI) (fun r s₁ h₁=>?_) fun _ _ h'=>h')))
 cases r with
 | none=>exact wpAny_pure h₁
 | some v =>
  refine wpAny_bind (wpAny_mono h₁ (fun _ s₀ h₀=>?_) fun _ _ h'=>h')
  refine wpAny_bind (wpAny_mono h₀ (fun _ s₂ h₂=>wpAny_bind (wpAny_mono h₂ (fun ok s₃ h₃=>?_) fun _ _ h'=>h')) fun _ _ h'=>h')
  cases ok with
  | false=>exact wpAny_pure ⟨rfl,h₃⟩
  | true =>
   exact wpAny_bind (wpAny_bind (wpAny_mono h₃ (fun x s₄ h₄=>wpAny_bind (wpAny_mono h₄ (fun _ s₅ h₅=>wpAny_pure (wpAny_pure ⟨rfl,h₅⟩)) fun _ _ h'=>h')) fun _ _ h'=>h'))
end
def PTs(X:Cx)(ifs:List Expr)(t:TT):Prop :=
 ∀(pins:List (Addr×Obj)) (s:Shared) (σ:St) (H:Hp) (Q:Bool->Hp->Prop),Inv X pins σ H s->t σ H Q ->
  wpAny (model X.prog X.w) X.A (forIn ifs true fun c r=>if r=true then do let ok <- isTrue c X.env (eval c X.env);pure (ForInStep.yield ok) else pure (ForInStep.yield r)) (TP X pins σ Q) X.xe s
def zvn:TT:=fun _ H Q=>Q true H
theorem zqs{X:Cx}:PTs X [] zvn:=fun _ _ _ H _ I h=>wpAny_tests_nil ⟨H,I,h⟩
def znG(k:Nat)(g:TG):Prop:=∀ x σ H Q,g x σ H Q->g x σ H fun σ2 H2=>(σ2.length=σ.length/\∀ i:Nat,k<=i->σ2[i]?=σ[i]?)/\Q σ2 H2
def zk5(k:Nat)(ix:List Nat)(wi:TI)(g:TG)(tc:TT)(te:TE):TE:=fun σ H Q=>wi σ H fun J H1=>∀ l,H1 l=none ->
 ∃ W:Nat->Nat->List V->Hp->Prop,(∃ m,W 0 m [] (upd H1 l (.lst [])))/\∀ i m ys H2,W i m ys H2->H2 l=some (.lst ys) /\
  ((J.stop i H2/\Q (.ref l) H2)\/(J.go i H2/\∀ x H3,J.yld i H2 x H3->g x (zfo k ix σ) H3 fun σ2 H4=>tc σ2 H4 fun b H5 =>
   if b=true then te σ2 H5 fun v H6=>H6 l=some (.lst ys)/\ys.length<sizeLine/\∃ m',m'<m/\W (i+1) m' (ys++[v]) (upd H6 l (.lst (ys++[v]))) else ∃ m',m'<m/\W (i+1) m' ys H5))
end L2
namespace L2
open PySem PySem.Spec PyProof.Rows
def Fl(h:Heap)(e:Addr)(cls:Value)(dd:Option Addr)(T:Addr)(fl:Value):Prop :=
 ∃ oe vs oT ts,h.get? e=some oe/\oe.cls=cls/\oe.dict=dd/\oe.data=.fields vs/\vs[1]?=some (.ref T)/\T≠e/\h.get? T=some oT/\oT.data=.fields ts/\ts[3]?=some fl
end L2
namespace L2
open PySem PySem.Spec PyProof.Rows
theorem zbO.some{P:Program}{w:World}{H:Hp}{h:Heap}{a:Addr}{o:HO}(x:zbO P w H h a o):∃ ob,h.get? a=some ob:=by
 cases o with
 | lst xs=>obtain⟨_,_,_,_,e⟩:=x;exact⟨_,e⟩
 | tup xs=>obtain⟨_,_,_,ob,e,_⟩:=x;exact⟨_,e⟩
 | dK kvs=>obtain⟨_,_,_,_,ob,_,_,e,_⟩:=x;exact⟨_,e⟩
 | dT kvs=>obtain⟨_,_,_,_,ob,_,_,e,_⟩:=x;exact⟨_,e⟩
 | set S n=>obtain⟨ob,_,_,_,e,_⟩:=x;exact⟨_,e⟩
 | ins C dx fs=>obtain⟨_,_,_,e,_⟩:=x;exact⟨_,e⟩
 | own y=>exact x
 | xd fs=>obtain⟨_,⟨od,_,_,e,_⟩,_⟩:=x;exact⟨_,e⟩
 | met f y=>exact⟨_,x⟩
 | rng lo hi=>obtain⟨_,_,_,e⟩:=x;exact⟨_,e⟩
 | frz ob u=>exact⟨_,x.1⟩
 | tbl ps=>exact⟨_,x⟩
 | ext φ=>exact x.2.1
def CXe(P:Program)(w:World):CXT:=fun outer H s E ev s'=>∃(e:Addr) (cls:Value) (dd:Option Addr) (T:Addr) (H':Hp),ev=.ref e/\s'.os=s.os/\AllBare s'.gens/\Un (frs outer) [] H H' s.heap s'.heap/\HOk P w H' s'.heap /\
 Fl s'.heap e cls dd T .none/\H' e=none/\H' T=none/\s.heap.get? e=none/\s.heap.get? T=none/\E cls dd H'
theorem zhQ{P:Program}{w:World}{X:Cx}:Passes (CXe P w) X E0:=fun _ _ _ _ _ _ _ ⟨_,_,_,_,_,_,_,_,_,_,_,_,_,_,_,q⟩=>q.elim
section
variable {P:Program}{w:World}{K:PySem.W.Frag}{mg:Str->Option Value}{base:Heap}{N:List Str}{qual:Str}{scope:Scope}{f:Addr}{cd:Value}{A:Around}{outer:List Env}{s:Shared}{H:Hp}{E:XK}
theorem Fun.okE{x:Str}{st:Stmt}{fd:FuncData}{ps:List Str}{k:Nat}{sp:Sp}(F:Fun K x qual st f fd)(S:zdt N ps (zas st))(len:∀ vs H Q E,sp vs H Q E->vs.length=ps.length)
  (hbody:∀(cdv:Value) (A:Around) (outer:List Env) (s:Shared) (H:Hp) (vs:List V) (Q:VK) (E:XK),zbZ k (A.deeper (envOfC qual (zas st) s.heap.objs.size f cdv))->sp vs H Q E ->
   ∃ t,PSs (znO (CXe P w) P w K mg base N qual (zas st) f cdv A outer s H E) (zbz st) t/\t { nx:=fun _ H'=>Q .non H',rt:=Q } (start N vs) H):zhB P w K mg base (CXe P w) (k+1) f fd ps sp:=by
 obtain⟨oc,od,kV,doc,pm,an,cdv,ct,osl,rfl,lk,hcd⟩:=F.ex
 exact zuA lk hcd S len fun A outer s H vs Q E hr hsp=>hbody cdv A outer s H vs Q E hr hsp
end
end L2
namespace L2
open PySem PySem.Spec PyProof.Rows
def Nw(X:Cx)(pins:List (Addr×Obj))(b:Addr):Prop :=
 X.s₀.heap.get? b=none/\b≠X.env.locals/\b∉X.fs/\(∀ x c,X.env.cells.lookup x=some c->c≠b)/\∀ p∈X.pn++pins,p.1≠b
def XP(X:Cx)(pins:List (Addr×Obj))(σ:St)(E:XK)(ev:Value)(s':Shared):Prop :=
 ∃(e:Addr) (cls:Value) (dd:Option Addr) (T:Addr) (H':Hp),ev=.ref e/\Inv X pins σ H' s'/\Fl s'.heap e cls dd T .none/\H' e=none/\H' T=none/\Nw X pins e/\Nw X pins T/\E cls dd H'
abbrev TX:=St->Hp->VK->XK->Prop
abbrev TSX:=Ends->(St->XK)->St->Hp->Prop
structure zvc(K:PySem.W.Frag)(C:Addr):Prop where
 ty:PySem.W.typeIn K (.ref C)=some (.type "type")
 cl:(PySem.W.clsIn K C).isSome=true
 be:PySem.W.subIn K (.ref C) (.type "BaseException")=some true
end L2
namespace L2
open PySem PySem.Spec PyProof.Rows
end L2
namespace L2
open PySem PySem.Spec PyProof.Rows
structure zv3(K:PySem.W.Frag)(D:Addr):Prop where
 ga:PySem.W.findIn K (.ref D) "__getattribute__"=some (some (.builtin "BaseException.__getattribute__"))
 gn:PySem.W.findIn K (.ref D) "__getattr__"=some none
 cl:PySem.W.findIn K (.ref D) "__class__"=some (some (.builtin "object.__class__"))
 be:PySem.W.subIn K (.ref D) (.type "BaseException")=some true
 ob:PySem.W.mroIn K D (.type "object")=some true
 is:(PySem.W.clsIn K D).isSome=true
end L2
namespace L2
open PySem PySem.Spec PyProof.Rows
def Has(K:PySem.W.Frag)(mg:Str->Option Value)(x:Str)(st:Stmt):Prop:=∃(f:Addr) (fd:FuncData),mg x=some (.ref f)/\Fun K x x st f fd
def Callee(P:Program)(w:World)(K:PySem.W.Frag)(mg:Str->Option Value)(base:Heap)(x:Str)(k:Nat)(ps:List Str)(sp:Sp):Prop :=
 ∃(f:Addr) (fd:FuncData),mg x=some (.ref f)/\PySem.W.keepIn K (.ref f)=true/\Binds K fd ps []/\zhB P w K mg base (CXe P w) k f fd ps sp
section
variable {X:Cx}{k j:Nat}{ps:List Str}{sp:Sp}{E:XK}{x:Str}{p pos:Pos}{e:Expr}{es:List Expr}{t:TA}
theorem zd5(c:Callee X.prog X.w X.K X.mg X.base x k ps sp)(hr:zbZ j X.A)(hg:Gl X x)(hx:Passes (CXe X.prog X.w) X E)(ha:PA X (e::es) t)(hj:k<=j:=by decide)(hdb:(x==("__debug__":Str))=false:=by decide)
  (he:starEach (e::es) X.env=(false,eval e X.env)::starEach es X.env:=by rfl) (hpl:(backTo pos (starEach es X.env)).any (·.1)=false:=by rfl):PE X (.Call (.Name x p) (e::es) [] pos) (zp0 sp [] E t):=by
 obtain⟨f,fd,hm,hk,hb,F⟩:=c
 exact zqG F (hr.mono hj) hg hm hk hb .nil hx ha hdb he hpl
end
end L2
namespace L2
open PySem PySem.Spec PyProof.Rows
end L2
namespace L2
open PySem PySem.Spec PyProof.Rows
end L2
namespace L2
open PySem PySem.Spec PyProof.Rows
theorem zaE.upd{H:Hp}{l:Addr}{o:HO}(h:H l=none):zaE H (upd H l o):=fun b u e=>by rw [zao (zbJ e h)];exact e
end L2
namespace L2
open PySem PySem.Spec PyProof.Rows
end L2
namespace L2
open PySem PySem.Spec PyProof.Rows
end L2
namespace L2
open PySem PySem.Spec PyProof.Rows
section
variable {X:Cx}{pins:List (Addr×Obj)}{σ:List (Option V)}{H H':Hp}{s:Shared}{h':Heap}
theorem Inv.zhD{t':Nat}{fp:List Addr}(I:Inv X pins σ H s)(k:∀ b o,b∉fp->s.heap.get? b=some o->h'.get? b=some o)(hf:∀ b∈fp,zgB X pins H b):Inv X pins σ H { s with heap:=h',toks:=t' }:=by
 have nit:∀ b u,H b=some u->b∉fp:=fun b u e z=>by
  have:=(hf b z).1
  rw [e] at this
  cases this
 have hL:X.env.locals∉fp:=fun z=>(hf _ z).2.1 rfl
 refine I.step (g':=s.gens) (d':=s.drawn) (ch:=fp) (fun b hb=>?_) (fun b o _ _ hc e _=>k b o hc e) (fun b o _ _ hc e _=>⟨o.slots,k b o hc e⟩) (fun _ _ _ _ n=>n)
  (fun b o hc e=>⟨o,k b o hc e⟩) (fun _ _ e=>e) (fun _ _ _ e=>e) (fun b ps e=>⟨#[],by rw [e];simp⟩) (fun m hm=>?_) (fun b u e=>?_) I.bare
 ·obtain⟨_,h1,_,h3,h4,h5⟩:=hf b hb
  exact⟨h3,h1,h4,h5⟩
 ·obtain⟨o,es,ep,ho,r⟩:=hm
  exact⟨o,es,ep,k _ o hL ho,r⟩
 ·refine(I.hok b u e).stay (fun c v hc q=>k c v ?_ q) (fun _ q=>q) fun _ _ q=>q
  rcases hc with z|z
  ·rw [z];exact nit b u e
  ·exact nit c _ z
theorem Inv.zpR{t':Nat}{fp:List Addr}{xs:List V}{us:List Value}{n:Nat}(I:Inv X pins σ H s)(k:∀ b o,b∉fp->s.heap.get? b=some o->h'.get? b=some o)(hf:∀ b∈fp,zgB X pins H b)(hfp:∀ b∈fp,b<s.heap.objs.size)
  (ht:h'.get? s.heap.objs.size=some { cls:=.type "tuple",data:=.seq us.toArray n }) (r:Vals xs us) (hz:xs.length<=sizeLine) :
  Inv X pins σ (upd H s.heap.objs.size (.tup xs)) { s with heap:=h',toks:=t' }:=by
 have I1:Inv X pins σ (upd H s.heap.objs.size (.tup xs)) { s with heap:=s.heap.push { cls:=.type "tuple",data:=.seq us.toArray n },toks:=s.toks } :=
  I.laid (t':=s.toks) (fun b u e=>Heap.get?_push_of_some _ e) (Nat.le_refl _) ⟨hz,us,r,⟨_,Heap.get?_push_size _ rfl,rfl,_,rfl⟩⟩
 refine Inv.zhD (s:={ s with heap:=s.heap.push { cls:=.type "tuple",data:=.seq us.toArray n },toks:=s.toks }) (t':=t') (fp:=fp) I1 (fun b o hb e=>?_) fun b hb=>⟨by rw [zao (Nat.ne_of_lt (hfp b hb))];exact(hf b hb).1,(hf b hb).2⟩
 by_cases hbs:b=s.heap.objs.size
 ·subst hbs
  have e':(s.heap.push { cls:=.type "tuple",data:=.seq us.toArray n }).get? s.heap.objs.size=some o:=e
  rw [Heap.get?_push_size _ rfl] at e'
  cases e'
  exact ht
 ·refine k b o hb ?_
  have e':(s.heap.push { cls:=.type "tuple",data:=.seq us.toArray n }).get? b=some o:=e
  have lt:b<(s.heap.push { cls:=.type "tuple",data:=.seq us.toArray n }).objs.size:=Heap.lt_size e'
  rw [Heap.size_push] at lt
  have lt':b<s.heap.objs.size:=Nat.lt_of_le_of_ne (Nat.le_of_lt_succ lt) hbs
  unfold Heap.get? at e' ⊢
  unfold Heap.push at e'
  simp only at e'
  rw [Array.getElem?_push_lt lt'] at e'
  rw [Array.getElem?_eq_getElem lt']
  exact e'
end
def Ite(K:PySem.W.Frag)(a:Addr):It :=
 ⟨fun i H=>∃ xs x,SqL K H a xs/\xs[i]?=some x,fun i H x H'=>∃ t v,x=.ref t/\H t=none/\H'=upd H t (.tup [.int i,v])/\∀ xs,SqL K H a xs->xs[i]?=some v,fun i H=>∃ xs,SqL K H a xs/\xs.length<=i⟩
theorem zl1{P:Program}{w:World}{K:PySem.W.Frag}{es:List Expr}{k:Nat}{pos:Pos}(e it a:Addr)(hne:e≠it):Turn P w K (.Tuple es k pos) (Ite K a) [e,it] e (fun i h=>(∃ old,IsEnum h e it i old)/\h.IsListIter it a i) where
 mem:=by simp
 obj:=fun i h st c hc=>by
  obtain⟨⟨old,h1⟩,⟨o4,h4,_,d4⟩⟩:=st
  simp only [List.mem_cons,List.not_mem_nil,or_false] at hc
  rcases hc with rfl|rfl
  ·exact⟨_,h1,fun v z=>by cases z⟩
  ·exact⟨_,h4,fun v z=>by rw [d4] at z;cases z⟩
 keep:=fun i h h' st k=>by
  obtain⟨⟨old,h1⟩,h4⟩:=st
  exact⟨⟨old,k _ (by simp) _ h1⟩,h4.at fun o e=>k _ (by simp) o e⟩
 item:=by
  intro X hP hw hK hc i pins s σ H E I hf st hg
  subst hP hw hK
  obtain⟨xs,x,hqx,hx⟩:=hg
  obtain⟨itx,rvx,px,_⟩:=I.list hqx
  obtain⟨ux,hux,rux⟩:=rvx.get hx
  obtain⟨⟨old,h1⟩,h4⟩:=id st
  have lts:∀ c∈[e,it],c<s.heap.objs.size:=fun c hc=>by
   obtain⟨o4,e4,_⟩:=id h4
   simp only [List.mem_cons,List.not_mem_nil,or_false] at hc
   rcases hc with rfl|rfl
   ·exact Heap.lt_size h1
   ·exact Heap.lt_size e4
  refine wpAny_pyNext_enum_item h1 h4 px.isList (by simpa using hux) hne fun h' a1 a3 a5 a6 hk=>?_
  refine⟨_,rfl,wpAny_letOwnedTupleGo_enum a1 fun h'' b1 sb=>?_⟩
  have zlt:=lts e (by simp)
  have k2:∀ c o,c∉[e,it]->s.heap.get? c=some o->h''.get? c=some o:=fun c o hc g=>by
   simp only [List.mem_cons,List.not_mem_nil,or_false,not_or] at hc
   exact sb.extBut c o hc.1 (hk c o hc.1 hc.2 g)
  have ht:h''.get? s.heap.objs.size=some { cls:=.type "tuple",data:=.seq #[.int i s.toks,ux] }:=sb.extBut _ _ (Nat.ne_of_gt zlt) a5
  refine⟨.ref s.heap.objs.size,_,Inv.zpR (s:=s) (h':=h'') (t':=s.toks+1) (fp:=[e,it]) I (xs:=[.int i,x]) (us:=[.int i s.toks,ux]) k2 hf lts ht (.cons ⟨_,rfl⟩ (.cons rux .nil)) (by rw [sizeLine_eq];show 2<=16777216;decide),rfl,
   ⟨_,x,rfl,I.hok.fresh (Nat.le_refl _),rfl,fun zs hz=>by rw [I.zkA hz hqx];exact hx⟩,?_,fun c hc=>?_⟩
  ·exact⟨⟨_,b1⟩,a3.extBut sb.extBut (Ne.symm hne)⟩
  ·rw [zao (Nat.ne_of_lt (lts c hc))]
   exact(hf c hc).1
 done:=by
  intro X hP hw hK hc i pins s σ H E I hf st hg
  subst hP hw hK
  obtain⟨xs,hqx,hend⟩:=hg
  obtain⟨itx,rvx,px,_⟩:=I.list hqx
  obtain⟨⟨old,h1⟩,h4⟩:=id st
  have lx:=rvx.length
  refine wpAny_pyNext_enum_end (I.ok.hd hc) h1 h4 px.isList (by simp;omega) fun h' hk=>⟨rfl,I.zhD (t':=s.toks) (fun c o hc g=>?_) hf⟩
  simp only [List.mem_cons,List.not_mem_nil,or_false,not_or] at hc
  exact hk c o hc.2 g
 self:=fun _ _ _ _ _ st h=>by
  obtain⟨⟨old,h1⟩,_⟩:=st
  exact wpAny_pyIter_enum h1 h
section
variable {X:Cx}
def zut(K:PySem.W.Frag)(ta:TA):TI:=fun σ H R=>ta σ H fun vs H1=>∃ a,vs=[.ref a]/\(∃ xs,SqL K H1 a xs)/\R (Ite K a) H1
theorem zqC{es:List Expr}{k:Nat}{p0:Pos}{a:Expr}{ta:TA}{p pos:Pos}(hg:Gl X "enumerate") (hm:X.mg "enumerate"=none) (ha:PA X [a] ta) (hs:starEach [a] X.env=[(false,eval a X.env)]:=by rfl) :
  PI X (.Tuple es k p0) (.Call (.Name "enumerate" p) [a] [] pos) (zut X.K ta):=by
 intro pins s σ H R I h
 refine Call_ (zfX I hg hm (by decide +kernel:bootBuiltins "enumerate"=some (.type "enumerate")) (PyProof.Rows.callWith_type1 (thn (ha pos pins s σ H _ I h) fun us s1 ⟨vs,H1,I1,r1,q1⟩=>?_) hs rfl))
 obtain⟨l1,e,⟨xs,hx⟩,q⟩:=q1
 subst e
 cases r1 with
 | cons r rr =>
  cases rr
  cases r
  obtain⟨itx,rvx,px,_⟩:=I1.list hx
  refine call_enumerate_list px.isList fun h' g1 g4 g6 hk=>?_
  refine wpAny_pyIter_enum g1 ⟨_,[s1.heap.objs.size+1,s1.heap.objs.size],_,_,H1,rfl,I1.kept (t':=s1.toks) hk,zl1 _ _ l1 (Nat.succ_ne_self _),⟨⟨_,g1⟩,g4⟩,fun c hc=>?_,q⟩
  have hc':s1.heap.objs.size<=c:=by
   simp only [List.mem_cons,List.not_mem_nil,or_false] at hc
   rcases hc with rfl|rfl <;> first|exact Nat.le_add_right _ _|exact Nat.le_refl _
  exact I1.znf hc' (I1.hok.fresh hc')
theorem zo9{bs:List Bool}:∀{us:List Value},Vals (bs.map V.bl) us->us=bs.map Value.bool:=by
 induction bs with
 | nil=>intro us h;cases h;rfl
 | cons b r ih =>
  intro us h
  cases h with
  | cons h1 h2 =>
   have:=ih h2
   cases h1
   rw [this]
   rfl
theorem zo5(hc:X.calm=true):zeY X (.builtin "all") (fun xs H Q=>∃(a:Addr) (bs:List Bool),xs=[.ref a]/\SqL X.K H a (bs.map V.bl)/\Q (.bl (bs.all id)) H):=by
 intro pins s σ H xs us Q I r h
 obtain⟨a,bs,rfl,hq,q⟩:=h
 obtain⟨u,rfl,rx⟩:=vals1 r
 cases rx
 obtain⟨its,rv,p,hz⟩:=I.list hq
 have e:=zo9 rv
 subst e
 have hne:a≠s.heap.objs.size:=by
  obtain⟨o,eo,_⟩:=p.isList
  exact Nat.ne_of_lt (Heap.lt_size eo)
 have W:=Walks.list (prog:=X.prog) (w:=X.w) (A:=X.A.in1) (show X.A.in1.handled=none from I.ok.hd hc) s.heap.objs.size a hne (bs.map Value.bool).toArray
 refine call_all_walk (wpAny_pyIter_list p.isList ⟨_,_,_,_,_,_,fun i=>bs.getD i true,rfl,W,⟨⟨_,Heap.get?_push_size _ rfl,rfl,rfl⟩,p.isList.push _⟩,?_,fun h' tk hk=>⟨.bl (bs.all id),H,?_,?_,q⟩⟩)
 ·intro i v s' Q' E' hP hQ
  have hP':(bs.map Value.bool)[i]?=some v:=by simpa using hP
  rw [List.getElem?_map] at hP'
  cases e:bs[i]? with
  | none=>rw [e] at hP';cases hP'
  | some b =>
   rw [e] at hP'
   cases hP'
   have:bs.getD i true=b:=by simp [List.getD,e]
   have hQ2:Q' (bs.getD i true) s':=hQ
   rw [this] at hQ2
   exact wpAny_pure hQ2
 ·refine Inv.zhD (s:={ s with heap:=s.heap.push { cls:=.type "list_iterator",data:=.fields #[.ref a,.int 0 0] },toks:=s.toks }) (t':=tk) (fp:=[s.heap.objs.size]) (I.kept (t':=s.toks) fun b o e=>Heap.get?_push_of_some _ e) (fun b o hb e=>hk b o hb e) fun b hb=>?_
  have e:b=s.heap.objs.size:=by simpa using hb
  subst e
  exact I.znf (Nat.le_refl _) (I.hok.fresh (Nat.le_refl _))
 ·show Value.bool _=Value.bool _
  congr 1
  simp only [List.size_toArray,List.length_map]
  rw [Bool.eq_iff_iff,List.all_eq_true,List.all_eq_true]
  constructor
  ·intro h b hb
   obtain⟨i,hi,e⟩:=List.getElem_of_mem hb
   have:=h i (List.mem_range.mpr hi)
   simpa [List.getD,hi,e] using this
  ·intro h i hi
   have hi':=List.mem_range.mp hi
   have:=h bs[i] (List.getElem_mem hi')
   simpa [List.getD,hi'] using this
end
end L2
namespace L2
open PySem PySem.Spec PyProof.Rows
theorem zgh:∀(names:List (Str×NameKind)) (n:Nat) (acc:List (Str×Addr)),cellsFrom n names acc=cellsFrom n names []++acc
 | [],n,acc=>rfl
 | (x,k)::r,n,acc=>by
  unfold cellsFrom
  split
  ·rw [zgh r (n+1) ((x,n)::acc),zgh r (n+1) [(x,n)]]
   simp
  ·exact zgh r n acc
theorem zib:∀(names:List (Str×NameKind)) (n:Nat) (p:Str×Addr),p∈cellsFrom n names []->(p.1,NameKind.cell)∈names
 | [],n,p,h=>nomatch h
 | (x,k)::r,n,p,h=>by
  unfold cellsFrom at h
  split at h
  ·rename_i hk
   rw [zgh] at h
   rcases List.mem_append.mp h with h|h
   ·exact List.mem_cons_of_mem _ (zib r _ p h)
   ·have e:p=(x,n):=by simpa using h
    have hk':k=.cell:=by simpa using hk
    subst e hk'
    exact List.mem_cons_self ..
  ·exact List.mem_cons_of_mem _ (zib r _ p h)
theorem znq{x:Str}:∀(names:List (Str×NameKind)) (n:Nat),(x,NameKind.cell)∈names->∃ c,(x,c)∈cellsFrom n names []
 | (y,k)::r,n,h=>by
  unfold cellsFrom
  rcases List.mem_cons.mp h with e|h
  ·cases e
   rw [if_pos (by rfl),zgh]
   exact⟨n,List.mem_append_right _ (List.mem_singleton.mpr rfl)⟩
  ·split
   ·obtain⟨c,hc⟩:=znq r (n+1) h
    exact⟨c,by rw [zgh];exact List.mem_append_left _ hc⟩
   ·exact znq r n h
theorem zhg{α:Type}{x:Str}{c:α}:∀{l m:List (Str×α)},(l++m).lookup x=some c->l.lookup x=some c\/(l.lookup x=none/\m.lookup x=some c)
 | [],m,h=>.inr ⟨rfl,h⟩
 | (y,b)::r,m,h=>by
  rw [List.cons_append,List.lookup_cons] at h
  rw [List.lookup_cons]
  split at h
  ·exact .inl h
  ·exact zhg h
theorem zdM{α:Type}{x:Str}{c:α}:∀{l m:List (Str×α)},m.lookup x=some c->∃ d,(l++m).lookup x=some d
 | [],m,h=>⟨c,h⟩
 | (y,b)::r,m,h=>by
  rw [List.cons_append,List.lookup_cons]
  split
  ·exact⟨_,rfl⟩
  ·exact zdM h
theorem zdh{α:Type}{x:Str}:∀{l m:List (Str×α)},l.lookup x=none->(l++m).lookup x=m.lookup x
 | [],m,h=>rfl
 | (y,b)::r,m,h=>by
  rw [List.lookup_cons] at h
  rw [List.cons_append,List.lookup_cons]
  split at h
  ·cases h
  ·exact zdh h
theorem zdL{α:Type}{x:Str}:∀{l:List (Str×α)},(∀ p∈l,p.1≠x)->l.lookup x=none
 | [],_=>rfl
 | (y,b)::r,h=>by
  rw [List.lookup_cons]
  have:(x==y)=false:=by
   have:=h (y,b) (List.mem_cons_self ..)
   simpa using fun e=>this e.symm
  rw [this]
  exact zdL fun p hp=>h p (List.mem_cons_of_mem _ hp)
def zjE(C:Addr)(scope:Scope):List (Str×Addr):=cellsFrom (C+1) scope.names []
def zaz(X:Cx)(M:List Str)(scope:Scope)(C:Addr)(s₃:Shared)(H₃:Hp)(fp:List Addr):Cx :=
 { X with N:=M,s₀:=s₃,H₀:=H₃,env:=compEnvC scope (zjE C scope++zgY X.env.cells scope.names []) C X.env,outer:=X.stack,stack:=X.stack,ex:=fp,fn:=fun x=>scope.names.contains (x,NameKind.cell),pn:=[],xe:=fun _ _=>False }
structure zeX(X:Cx)(scope:Scope)(cap:List Str):Prop where
 kind:scope.kind=.function
 cell:∀ y∈scope.names,y.2=.free->X.env.kindOf y.1=some .cell
 loc:∀ y∈scope.names,y.2=.local->scope.names.lookup y.1=some .local
 cap:∀ x∈cap,scope.names.lookup x≠some .local/\(x,NameKind.cell)∉scope.names
 dis:∀ y∈scope.names,y.2=.free->(y.1,NameKind.cell)∉scope.names
theorem ziG{C:Addr}{m:Str->Option Value}:∀(names:List (Str×NameKind)) {h:Heap},h.Ns C m->(pushCells h names).Ns C m:=fun names h hn=>by
 obtain⟨o,es,ep,ho,r⟩:=hn
 exact⟨o,es,ep,pushCells_keeps names h C o ho,r⟩
section
variable {X:Cx}{pins:List (Addr×Obj)}{σ:St}{H:Hp}{s:Shared}
theorem ziV{scope:Scope}{L:List Str}{ix:List Nat}{h':Heap}{fp:List Addr}{t':Nat}(S:zeX X scope (zfA X ix))(I:Inv X pins σ H s)(hf:∀ b∈fp,zgB X pins H b)(hfp:∀ b∈fp,b<s.heap.objs.size)
  (hix:∀ i∈ix,i<X.N.length)(hn:h'.Ns s.heap.objs.size fun _=>none)(hk:∀ b u,s.heap.get? b=some u->h'.get? b=some u)(hcs:CellsOk h' (s.heap.objs.size+1) (zjE s.heap.objs.size scope)) :
  Inv (zaz X (L++zfA X ix) scope s.heap.objs.size s H fp) [] (zfo L.length ix σ) H { s with heap:=h',toks:=t' }:=by
 have cl:∀ x c,(zgY X.env.cells scope.names []).lookup x=some c->X.env.cells.lookup x=some c:=fun x c e =>
  zfy (acc:=[]) (fun p hp=>nomatch hp) (x,c) (PySem.mem_of_lookup e)
 have old:∀ x c,X.env.cells.lookup x=some c->c<s.heap.objs.size:=fun x c e=>by
  obtain⟨v,q⟩:=I.cell x c e
  exact q.lt
 have own:∀ x c,(zjE s.heap.objs.size scope).lookup x=some c->h'.IsCell c none/\s.heap.objs.size+1<=c/\(x,NameKind.cell)∈scope.names:=fun x c e=>by
  have m:=PySem.mem_of_lookup e
  exact⟨(hcs.empty x c m).1,(hcs.empty x c m).2,zib _ _ _ m⟩
 have al:∀ x c,(zjE s.heap.objs.size scope++zgY X.env.cells scope.names []).lookup x=some c->(zjE s.heap.objs.size scope).lookup x=some c\/((zjE s.heap.objs.size scope).lookup x=none/\X.env.cells.lookup x=some c):=fun x c e=>by
  rcases zhg e with h|⟨h1,h2⟩
  ·exact .inl h
  ·exact .inr ⟨h1,cl x c h2⟩
 have ownHas:∀ x,(x,NameKind.cell)∈scope.names->∃ c,(zjE s.heap.objs.size scope).lookup x=some c:=fun x hx=>by
  obtain⟨c,hc⟩:=znq scope.names (s.heap.objs.size+1) hx
  exact zby hc
 refine⟨⟨I.ok.mod,S.kind,I.ok.glob,I.ok.blt,Nat.le_refl _,fun x y c e1 e2=>?_,fun x hx=>?_,fun x c e1 e2=>?_,I.ok.hd,I.ok.frames,.inl rfl,fun b hb=>⟨Nat.ne_of_lt (hfp b hb),fun x c e=>?_⟩,
  fun b o e=>I.bs b o e,Nat.le_trans I.ok.bsz I.sz,fun b o e hb=>?_,fun b hb hz=>?_,I.stack,I.zl6,I.ok.tree,I.ok.sk⟩,
  rfl,I.bare,Un.kept hk,⟨_,hn,fun i x v h1 h2 h3=>?_⟩,fun x c e=>?_,I.hok.fresh (Nat.le_refl _),fun x c e=>?_,fun p hp=>absurd (show p∈([]:List (Addr×Obj)) from hp) (by simp),I.hok.kept hk,?_⟩
 ·rcases al x c e1 with a1|⟨_,a1⟩ <;> rcases al y c e2 with a2|⟨_,a2⟩
  ·exact name_of_addr hcs.apart (PySem.mem_of_lookup a1) (PySem.mem_of_lookup a2)
  ·exact absurd (old y c a2) (Nat.not_lt.mpr (Nat.le_of_succ_le (own x c a1).2.1))
  ·exact absurd (old x c a1) (Nat.not_lt.mpr (Nat.le_of_succ_le (own y c a2).2.1))
  ·exact I.ok.inj x y c a1 a2
 ·have hx':(relabel scope X.env).names.lookup x=some .cell\/(relabel scope X.env).names.lookup x=some .free:=hx
  have fr:(x,NameKind.cell)∈scope.names\/(x,NameKind.free)∈scope.names:=by
   rcases hx' with q|q
   ·obtain⟨k0,_,h2,h3⟩:=za2 (scope:=scope) q
    rcases h3 with rfl|⟨rfl,_⟩
    ·exact .inl h2
    ·exact .inr h2
   ·obtain⟨k0,_,h2,h3⟩:=za2 (scope:=scope) q
    rcases h3 with rfl|⟨_,z⟩
    ·exact .inr h2
    ·cases z
  rcases fr with fr|fr
  ·obtain⟨c,hc⟩:=ownHas x fr
   show ∃ c,(zjE s.heap.objs.size scope++zgY X.env.cells scope.names []).lookup x=some c
   exact zby (List.mem_append_left _ (PySem.mem_of_lookup hc))
  ·obtain⟨c,hc⟩:=I.ok.has x (.inl (S.cell _ fr rfl))
   obtain⟨d,hd⟩:=zby (zei (names:=scope.names) (acc:=[]) hc fr)
   exact zdM hd
 ·have hx:(x,NameKind.cell)∈scope.names:=by
   have e1':scope.names.contains (x,NameKind.cell)=true:=e1
   simpa using e1'
  rcases al x c e2 with a1|⟨a1,_⟩
  ·exact Nat.le_of_succ_le (own x c a1).2.1
  ·obtain⟨d,hd⟩:=ownHas x hx
   rw [a1] at hd
   cases hd
 ·rcases al x c e with a1|⟨_,a1⟩
  ·exact Nat.ne_of_gt (Nat.lt_of_lt_of_le (hfp b hb) (Nat.le_of_succ_le (own x c a1).2.1))
  ·exact(hf b hb).2.2.2.2.1 x c a1
 ·rcases (hf b hb).2.2.2.1 with z|z
  ·exact I.ok.noex b o e z
  ·exact absurd (Heap.lt_size (I.ok.bs b o e).1) (Nat.not_lt.mpr z)
 ·rcases List.mem_cons.mp (I.zl5 b hz) with z|z
  ·exact(hf b hb).2.1 z
  ·exact(hf b hb).2.2.1 z
 ·-- a name that is drawn in
  have hi:L.length<=i:=by
   by_cases hi:i<L.length
   ·unfold zfo at h2
    rw [List.getElem?_append_left (by simpa using hi),List.getElem?_replicate,if_pos hi] at h2
    cases h2
   ·omega
  unfold zfo at h2
  rw [List.getElem?_append_right (by simpa using hi),List.length_replicate,List.getElem?_map] at h2
  have h1':(L++zfA X ix)[i]?=some x:=h1
  rw [List.getElem?_append_right hi] at h1'
  unfold zfA at h1'
  rw [List.getElem?_map] at h1'
  cases ej:ix[i-L.length]? with
  | none=>rw [ej] at h1';cases h1'
  | some j =>
   rw [ej] at h1' h2
   have hj:j<X.N.length:=hix j (List.mem_of_getElem? ej)
   have e1:X.N[j]?=some x:=by
    have:X.N.getD j ""=x:=Option.some.inj h1'
    rw [<- this]
    simp [List.getD,hj]
   have e2:σ[j]?=some (some v):=by
    have z:(σ[j]?).getD none=some v:=Option.some.inj h2
    cases q:σ[j]? with
    | none=>rw [q] at z;cases z
    | some o=>rw [q] at z;exact congrArg some z
   have hx:x∈zfA X ix:=by
    unfold zfA
    refine List.mem_map.mpr ⟨j,List.mem_of_getElem? ej,?_⟩
    exact Option.some.inj h1'
   have h3':(relabel scope X.env).names.lookup x=some .local\/(relabel scope X.env).names.lookup x=some .cell\/(relabel scope X.env).names.lookup x=some .free:=h3
   have fr:(x,NameKind.free)∈scope.names:=by
    rcases h3' with q|q|q
    ·obtain⟨k0,g1,g2,g3⟩:=za2 (scope:=scope) q
     rcases g3 with rfl|⟨_,z⟩
     ·exact absurd g1 (S.cap x hx).1
     ·cases z
    ·obtain⟨k0,_,g2,g3⟩:=za2 (scope:=scope) q
     rcases g3 with rfl|⟨rfl,_⟩
     ·exact absurd g2 (S.cap x hx).2
     ·exact g2
    ·obtain⟨k0,_,g2,g3⟩:=za2 (scope:=scope) q
     rcases g3 with rfl|⟨_,z⟩
     ·exact g2
     ·cases z
   have hc:X.env.kindOf x=some .cell:=S.cell _ fr rfl
   obtain⟨m,_,hl⟩:=I.loc
   obtain⟨u,ru,lk⟩:=hl j x v e1 e2 (.inr (.inl hc))
   refine⟨u,ru,?_⟩
   rcases lk with⟨z,_⟩|⟨_,c,ec,ic⟩
   ·rw [hc] at z;cases z
   ·have k3:(relabel scope X.env).names.lookup x=some .cell\/(relabel scope X.env).names.lookup x=some .free:=by
     rcases h3' with q|q|q
     ·obtain⟨k0,g1,g2,g3⟩:=za2 (scope:=scope) q
      rcases g3 with rfl|⟨_,z⟩
      ·exact absurd g1 (S.cap x hx).1
      ·cases z
     ·exact .inl q
     ·exact .inr q
    obtain⟨c',ec'⟩:=zby (zei (names:=scope.names) (acc:=[]) ec fr)
    have e3:=cl x c' ec'
    rw [ec] at e3
    cases e3
    obtain⟨oc,g1,g2⟩:=ic
    have no:(zjE s.heap.objs.size scope).lookup x=none:=zdL fun p hp z=>(S.cap x hx).2 (by rw [<- z];exact zib _ _ _ hp)
    exact .inr ⟨k3,c,(zdh no).trans ec',oc,hk _ _ g1,g2⟩
 ·rcases al x c e with a1|⟨_,a1⟩
  ·exact⟨none,(own x c a1).1⟩
  ·obtain⟨v,oc,g1,g2⟩:=I.cell x c a1
   exact⟨v,oc,hk _ _ g1,g2⟩
 ·rcases al x c e with a1|⟨_,a1⟩
  ·exact I.hok.fresh (Nat.le_of_succ_le (own x c a1).2.1)
  ·exact I.freeC x c a1
 ·show(zfo L.length ix σ).length=(L++zfA X ix).length
  unfold zfo zfA
  simp
end
theorem zmH{M:Model}{A:Around}{E:Value->Shared->Prop}{s:Shared}{scope:Scope}{globals:Addr}{cl:List (Str×Addr)}{qual:Str}{outer:Env}{Q:Env->Shared->Prop}
  (hQ:∀ h',h'.Ns s.heap.objs.size (fun _=>none)->(∀ b u,s.heap.get? b=some u->h'.get? b=some u)->CellsOk h' (s.heap.objs.size+1) (zjE s.heap.objs.size scope) ->
   Q { scope:=scope,locals:=s.heap.objs.size,globals:=globals,cells:=zjE s.heap.objs.size scope++cl,qual:=qual,func:=none,code:=outer.code,frame:=outer.frame,builtins:=outer.builtins } { s with heap:=h' }) :
  wpAny M A (newFunctionEnv scope globals cl [] qual none .none (some outer)) Q E s:=by
 simp only [newFunctionEnv,Option.isSome_some,if_true]
 refine wpAny_bind (wpAny_alloc ?_)
 refine wpAny_bind (wpAny_layCells _ (fun name kind cells=>by cases hkc:kind==NameKind.cell <;> simp [hkc]) _ _ _ _ ?_)
 have ok:=cellsFrom_ok scope.names (s.heap.push { cls:=.type "dict",data:=.dict #[] }) (s.heap.objs.size+1) [] ⟨fun _ _ hm=>(nomatch hm),List.Pairwise.nil⟩ (by rw [Heap.size_push];exact Nat.le_refl _)
 rw [Heap.size_push] at ok
 rw [show({ s with heap:=s.heap.push { cls:=.type "dict",data:=.dict #[] } }:Shared).heap.objs.size=s.heap.objs.size+1 from Heap.size_push ..,zgh]
 refine wpAny_bind ?_
 rw [List.forIn_nil]
 refine wpAny_pure (wpAny_pure ?_)
 exact hQ _ (ziG _ (Heap.Ns.new ..)) (fun b u e=>pushCells_keeps _ _ _ _ (Heap.get?_push_of_some _ e)) ok
section
variable {X:Cx}
theorem zox{elt tg iter:Expr}{ifs:List Expr}{scope:Scope}{pos:Pos}{L:List Str}{ix:List Nat}{wi:TI}{g:TG}{tc:TT}{te:TE}(hc:X.calm=true)(S:zeX X scope (zfA X ix))(hix:∀ i∈ix,i<X.N.length)(hi:PI X tg iter wi)
  (hg:∀ C s₃ H₃ fp,PG (zaz X (L++zfA X ix) scope C s₃ H₃ fp) tg g)(hgo:znG L.length g)
  (ht:∀ C s₃ H₃ fp,PTs (zaz X (L++zfA X ix) scope C s₃ H₃ fp) ifs tc)(he:∀ C s₃ H₃ fp,PE (zaz X (L++zfA X ix) scope C s₃ H₃ fp) elt te)
  (hs:∀ x,foldedSetIterable iter X.env x=pure x:=by intro _;rfl) :
  PE X (.ListComp elt [⟨tg,iter,ifs,0⟩] scope pos) (zk5 L.length ix wi g tc te):=by
 intro pins s σ H Q I h
 rw [eval_ListComp]
 refine wpAny_comprehension_free (use:=none) rfl hs (zeh fun y hy e=>I.ok.has y.1 (.inl (S.cell y hy e))) S.kind S.loc (thn (hi pins s σ H _ I h) fun xv s1 h1=>thn h1 fun itv s2 h2=>?_)
 obtain⟨it,fp,tn,J,H2,rfl,I2,T,st2,f2,q⟩:=h2
 have nD:H2 s2.heap.objs.size=none:=I2.hok.fresh (Nat.le_refl _)
 obtain⟨W,⟨m0,w0⟩,turn⟩:=q _ nD
 generalize hD:s2.heap.objs.size=D at nD w0 turn
 have fD:∀ b∈fp,b<D:=fun b hb=>by
  obtain⟨o,e,_⟩:=T.obj _ _ st2 b hb
  rw [<- hD]
  exact Heap.lt_size e
 have I3:Inv X pins σ (upd H2 D (.lst [])) { s2 with heap:=s2.heap.push { cls:=.type "list",data:=.seq ([]:List Value).toArray },toks:=s2.toks }:=by
  rw [<- hD]
  exact I2.laid (t':=s2.toks) (fun b u e=>Heap.get?_push_of_some _ e) (Nat.le_refl _) ⟨by simp,[],0,.nil,Heap.get?_push_size _ rfl⟩
 refine wpAny_newObj_type (zmH (fun h₁ hns₁ hsb₁ hcs₁=>?_)) (by show 0<=sizeLine;exact Nat.zero_le _)
 rw [hD]
 have st3:tn 0 (s2.heap.push { cls:=.type "list",data:=.seq ([]:List Value).toArray }):=T.keep _ _ _ st2 fun b hb o e=>Heap.get?_push_of_some _ e
 generalize hp3:s2.heap.push { cls:=.type "list",data:=.seq ([]:List Value).toArray }=h3 at I3 st3 hns₁ hsb₁ hcs₁
 dsimp only at hns₁ hsb₁ hcs₁ ⊢
 have sz3:h3.objs.size=D+1:=by rw [<- hp3,Heap.size_push,hD]
 have old:∀ b u,h3.get? b=some u->h₁.get? b=some u:=fun b u e=>hsb₁ b u e
 have f3:∀ b∈fp,zgB X pins (upd H2 D (.lst [])) b:=fun b hb=>⟨by rw [zao (Nat.ne_of_lt (fD b hb))];exact(f2 b hb).1,(f2 b hb).2⟩
 have I4:=ziV (L:=L) (ix:=ix) (t':=s2.toks) S I3 f3 (fun b hb=>by show b<h3.objs.size;rw [sz3];exact Nat.lt_succ_of_lt (fD b hb)) hix (h':=h₁) hns₁ old hcs₁
 have st4:tn 0 h₁:=T.keep _ _ _ st3 fun b hb o e=>old b o e
 generalize hC:(zaz X (L++zfA X ix) scope h3.objs.size { s2 with heap:=h3,toks:=s2.toks } (upd H2 D (.lst [])) fp)=Y at I4
 have eEnv:Y.env=compEnvC scope (zjE h3.objs.size scope++zgY X.env.cells scope.names []) h3.objs.size X.env:=by rw [<- hC];rfl
 have hcY:Y.calm=true:=by rw [<- hC];exact hc
 have xeY:Y.xe=fun _ _=>False:=by rw [<- hC];rfl
 have eP:Y.prog=X.prog:=by rw [<- hC];rfl
 have eW:Y.w=X.w:=by rw [<- hC];rfl
 have eK:Y.K=X.K:=by rw [<- hC];rfl
 have eA:Y.A=X.A:=by rw [<- hC];rfl
 have gY:PG Y tg g:=by rw [<- hC];exact hg _ _ _ _
 have tY:PTs Y ifs tc:=by rw [<- hC];exact ht _ _ _ _
 have pY:PE Y elt te:=by rw [<- hC];exact he _ _ _ _
 have stat:∀{H':Hp},(∀ b∈fp,H' b=none)->∀ b∈fp,zgB Y [] H' b:=fun{H'} hn b hb=>by
  have z1:b∈Y.ex:=by rw [<- hC];exact hb
  have zp:Y.pn=[]:=by rw [<- hC];rfl
  refine⟨hn b hb,(I4.ok.exf b z1).1,I4.ok.exfs b z1,.inl z1,(I4.ok.exf b z1).2,fun p hp=>?_⟩
  rw [zp] at hp
  exact absurd hp (by simp)
 have fin:∀{H':Hp} {s':Shared},Inv Y [] (zfo L.length ix σ) H' s'->Q (.ref D) H'->compPost (model X.prog X.w) X.A X.xe none (EP X pins σ Q) (.ref D) h3.objs.size (.ok .next) s':=by
  intro H' s' J' qe
  obtain⟨m,hm,_⟩:=J'.loc
  rw [eEnv] at hm
  refine⟨m,hm,fun h' sb=>⟨.ref D,H',?_,rfl,qe⟩⟩
  have hfr:H' h3.objs.size=none:=by
   have:=J'.free
   rw [eEnv] at this
   exact this
  have neC:∀ b u,H' b=some u->b≠h3.objs.size:=fun b u e z=>by rw [z,hfr] at e;cases e
  have base:Un (frs X.stack) fp (upd H2 D (.lst [])) H' h3 s'.heap:=by
   have:=J'.base
   rw [<- hC] at this
   exact this
  have to':∀ b o,b≠h3.objs.size->s'.heap.get? b=some o->h'.get? b=some o:=fun b o hb e=>sb.extBut b o hb e
  have lt3:∀ b o,h3.get? b=some o->b≠h3.objs.size:=fun b o e=>Nat.ne_of_lt (Heap.lt_size e)
  have un:Un (frs X.stack) fp (upd H2 D (.lst [])) H' h3 h' :=
   ⟨fun b o e n hb hx=>to' b o (lt3 b o e) (base.keep b o e n hb hx),
    fun b o e n hb hx=>by
    obtain⟨sl,z⟩:=base.slot b o e n hb hx
    exact⟨sl,to' _ _ (lt3 b o e) z⟩,
    base.free,
    fun b o e hx=>by
    obtain⟨o',z⟩:=base.there b o e hx
    exact⟨o',to' _ _ (lt3 b o e) z⟩,
    base.tups,base.frzs,base.tbls⟩
  have hok:HOk X.prog X.w H' h':=fun b u e=>by
   have z:=J'.hok b u e
   rw [eP,eW] at z
   refine z.stay (fun c v hcv qv=>to' c v ?_ qv) (fun _ qq=>qq) fun _ _ qq=>qq
   rcases hcv with zz|zz
   ·rw [zz];exact neC b u e
   ·exact neC c _ zz
  refine I3.call' (s':={ s' with heap:=h' }) (ch:=fp) ?_ un hok J'.bare fun b hb=>?_
  ·have:=J'.os
   rw [<- hC] at this
   exact this
  ·obtain⟨_,g1,g2,g3,g4,g5⟩:=f2 b hb
   exact⟨g3,g1,g4,g5⟩
 have key:∀ s5:Shared,s5={ s2 with heap:=h₁,toks:=s2.toks } ->
   codeAny (model X.prog X.w) X.A (.compLoop (.ListComp elt [⟨tg,iter,ifs,0⟩] scope pos) 0 (.ref it) (.ref D) (compEnvC scope (zjE h3.objs.size scope++zgY X.env.cells scope.names []) h3.objs.size X.env))
    (compPost (model X.prog X.w) X.A X.xe none (EP X pins σ Q) (.ref D) h3.objs.size) s5:=by
  rintro s5 rfl
  rw [<- eEnv,<- eP,<- eW,<- eA]
  refine zgf (fun n s'=>∃ i ys H',Inv Y [] (zfo L.length ix σ) H' s'/\tn i s'.heap/\(∀ b∈fp,H' b=none)/\W i n ys H') ?_ m0 ⟨0,[],_,?_,st4,fun b hb=>(f3 b hb).1,w0⟩
  ·rintro n s6 ⟨i,ys,H6,I6,st6,fr6,w6⟩
   obtain⟨hl6,alt⟩:=turn i n ys H6 w6
   rcases alt with⟨stop,qe⟩|⟨go,step⟩
   ·have Td:=T.done Y eP eW eK hcY i [] s6 _ H6 (fun _ _=>False) I6 (stat fr6) st6 stop
    rw [<- eP,<- eW] at Td
    refine wpAny_mono Td (fun r s7 hr7=>?_) fun _ _ f=>f.elim
    obtain⟨hr,I7⟩:=hr7
    subst hr
    rw [eP,eW,eA]
    exact fin I7 qe
   ·have Ti:=T.item Y eP eW eK hcY i [] s6 _ H6 (fun _ _=>False) I6 (stat fr6) st6 go
    rw [<- eP,<- eW] at Ti
    refine wpAny_mono Ti (fun r s7 hr7=>?_) fun _ _ f=>f.elim
    obtain⟨u,hr,h7⟩:=hr7
    subst hr
    refine wpAny_mono h7 (fun _ s8 hr8=>?_) fun _ _ f=>f.elim
    obtain⟨x,H8,I8,r8,y8,st8,fr8⟩:=hr8
    have I8':=I8.pinned (stat fr8) (T.obj _ _ st8)
    have stp:=hgo _ _ _ _ (step x H8 y8)
    refine wpAny_mono (gY _ s8 _ H8 x u _ I8' r8 stp) (fun _ s9 ⟨σ9,H9,I9,⟨k1,k2⟩,q9⟩=>?_) fun _ _ f=>by rw [xeY] at f;exact f.elim
    have weak:∀{Hz:Hp} {sz:Shared},Inv Y ([]++zg6 fp s8.heap) σ9 Hz sz->Inv Y [] (zfo L.length ix σ) Hz sz/\tn (i+1) sz.heap/\∀ b∈fp,Hz b=none:=fun{Hz sz} Iz=>by
     refine⟨Iz.zcO.weak k1.symm fun j v e=>?_,T.keep _ _ _ st8 fun b hb o e=>(Iz.pin (b,o) (List.mem_append_right _ (List.mem_append_right _ (zci hb e)))).1,fun b hb=>?_⟩
     ·by_cases hj:L.length<=j
      ·rw [k2 j hj];exact e
      ·unfold zfo at e
       rw [List.getElem?_append_left (by simpa using Nat.lt_of_not_le hj),List.getElem?_replicate,if_pos (Nat.lt_of_not_le hj)] at e
       cases e
     ·obtain⟨o,e,d⟩:=T.obj _ _ st8 b hb
      exact(Iz.pin (b,o) (List.mem_append_right _ (List.mem_append_right _ (zci hb e)))).2.1
    refine wpAny_mono (tY _ s9 σ9 H9 _ I9 q9) (fun ok s10 ⟨H10,I10,q10⟩=>?_) fun _ _ f=>by rw [xeY] at f;exact f.elim
    cases ok with
    | false =>
     have q10':∃ m',m'<n/\W (i+1) m' ys H10:=q10
     obtain⟨m',hm',w10⟩:=q10'
     obtain⟨z1,z2,z3⟩:=weak I10
     exact⟨m',hm',i+1,ys,H10,z1,z2,z3,w10⟩
    | true =>
     refine wpAny_mono (pY _ s10 σ9 H10 _ I10 q10) (fun xv s11 ⟨v,H11,I11,r11,hl11,hz11,m',hm',w11⟩=>?_) fun _ _ f=>by rw [xeY] at f;exact f.elim
     refine wpAny_mono (zfT (X:=Y) _ s11 σ9 H11 (.ref D) [v] (.ref D) [xv] (fun _ Hq=>Hq=upd H11 D (.lst (ys++[v]))) I11 rfl (.cons r11 .nil) ⟨D,ys,v,rfl,rfl,hl11,hz11,rfl⟩) (fun _ s12 ⟨_,H12,I12,_,e12⟩=>?_) fun _ _ f=>by rw [xeY] at f;exact f.elim
     subst e12
     obtain⟨z1,z2,z3⟩:=weak I12
     exact⟨m',hm',i+1,ys++[v],_,z1,z2,z3,w11⟩
  ·exact I4
 exact codeAny_compStart_list (key _ rfl) (T.self _ 0 _ _ _ st4 (key _ rfl))
end
end L2
namespace L2
open PySem PySem.Spec PyProof.Rows
def zdp(sc scope:Scope)(N:List Str)(ix:List Nat):Bool :=
 (scope.names.all fun y=>(y.2 != .free||sc.names.lookup y.1==some .cell)&&(y.2 != .local||scope.names.lookup y.1==some .local)&&(y.2 != .free||!(scope.names.contains (y.1,NameKind.cell)))) &&
 ((ix.map fun i=>N.getD i "").all fun x=>scope.names.lookup x != some .local&&!(scope.names.contains (x,NameKind.cell)))&&ix.all (fun i=>decide (i<N.length))
section
variable {X:Cx}
theorem zow{elt tg iter:Expr}{ifs:List Expr}{scope:Scope}{pos:Pos}{wi:TI}{g:TG}{tc:TT}{te:TE}(L:List Str)(ix:List Nat)(M:List Str)(hc:X.calm=true)(hk:scope.kind=.function)
  (hd:zdp X.env.scope scope X.N ix=true)(hM:M=L++ix.map fun i=>X.N.getD i "") (hi:PI X tg iter wi)
  (hg:∀ C s₃ H₃ fp,PG (zaz X M scope C s₃ H₃ fp) tg g) (hgo:znG L.length g)
  (ht:∀ C s₃ H₃ fp,PTs (zaz X M scope C s₃ H₃ fp) ifs tc) (he:∀ C s₃ H₃ fp,PE (zaz X M scope C s₃ H₃ fp) elt te)
  (hs:∀ x,foldedSetIterable iter X.env x=pure x:=by intro _;rfl) :
  PE X (.ListComp elt [⟨tg,iter,ifs,0⟩] scope pos) (zk5 L.length ix wi g tc te):=by
 unfold zdp at hd
 simp only [Bool.and_eq_true,List.all_eq_true,bne_iff_ne,ne_eq,Bool.or_eq_true,beq_iff_eq,decide_eq_true_eq,Bool.not_eq_true',List.contains_eq_mem,decide_eq_false_iff_not] at hd
 obtain⟨⟨d1,d2⟩,d3⟩:=hd
 have eM:M=L++zfA X ix:=by rw [hM];unfold zfA;rfl
 subst eM
 refine zox (L:=L) (ix:=ix) hc ⟨hk,fun y hy e=>?_,fun y hy e=>?_,fun x hx=>?_,fun y hy e=>?_⟩ d3 hi hg hgo ht he hs
 ·rcases (d1 y hy).1.1 with z|z
  ·exact absurd e z
  ·exact z
 ·rcases (d1 y hy).1.2 with z|z
  ·exact absurd e z
  ·exact z
 ·unfold zfA at hx
  exact d2 x hx
 ·rcases (d1 y hy).2 with z|z
  ·exact absurd e z
  ·exact z
end
end L2
namespace L2
open PySem PySem.Spec PyProof.Rows
end L2
namespace L2
open PySem PySem.Spec PyProof.Rows
section
variable {X:Cx}
theorem zqw{elt tg iter:Expr}{ifs:List Expr}{scope:Scope}{pos:Pos}{L:List Str}{ix:List Nat}{wi:TI}{g:TG}{tc:TT}{te:TE}{i0:Nat}{x0:Str}{pos' spos:Pos}(hN:X.N.Nodup)(hii:X.N[i0]?=some x0)(hx0:Loc X.env.scope x0)(hf0:X.fn x0=true\/X.env.scope.names.lookup x0=some .local)
  (hsw:swapsWith (.ListComp elt [⟨tg,iter,ifs,0⟩] scope pos) (some (.Name x0 pos')) spos.line X.env=pure true)(hc:X.calm=true)(S:zeX X scope (zfA X ix))(hix:∀ i∈ix,i<X.N.length)(hi:PI X tg iter wi)
  (hg:∀ C s₃ H₃ fp,PG (zaz X (L++zfA X ix) scope C s₃ H₃ fp) tg g)(hgo:znG L.length g)
  (ht:∀ C s₃ H₃ fp,PTs (zaz X (L++zfA X ix) scope C s₃ H₃ fp) ifs tc)(he:∀ C s₃ H₃ fp,PE (zaz X (L++zfA X ix) scope C s₃ H₃ fp) elt te)
  (hs:∀ x,foldedSetIterable iter X.env x=pure x:=by intro _;rfl) :
  PS X (.Assign [.Name x0 pos'] (.ListComp elt [⟨tg,iter,ifs,0⟩] scope pos) spos) (zrM (zk5 L.length ix wi g tc te) (zna i0)):=by
 intro pins s σ H Dn I h
 have h:zk5 L.length ix wi g tc te σ H (fun v H1=>Dn.nx (σ.set i0 (some v)) H1):=h
 generalize hQ:(fun v H1=>Dn.nx (σ.set i0 (some v)) H1:VK)=Q at h
 rw [exec_Assign_Name_used _ _ _ _ hsw]
 refine wpAny_bind (wpAny_standAt (wpAny_bind ?_))
 show wpAny _ _ (do let _ <- comprehension (.ListComp elt [⟨tg,iter,ifs,0⟩] scope pos) scope X.env _ (newList []) false (eval iter X.env) (some (assign (.Name x0 pos') X.env))) _ _ s
 refine wpAny_bind (wpAny_mono (wpAny_comprehension_free (use:=some (assign (.Name x0 pos') X.env)) (Q:=fun _ s'=>SP X pins Dn .next s') rfl hs (zeh fun y hy e=>I.ok.has y.1 (.inl (S.cell y hy e))) S.kind S.loc (thn (hi pins s σ H _ I h) fun xv s1 h1=>thn h1 fun itv s2 h2=>?_)) (fun _ s' hq=>wpAny_pure (wpAny_pure hq)) fun _ _ e=>e)
 obtain⟨it,fp,tn,J,H2,rfl,I2,T,st2,f2,q⟩:=h2
 have nD:H2 s2.heap.objs.size=none:=I2.hok.fresh (Nat.le_refl _)
 obtain⟨W,⟨m0,w0⟩,turn⟩:=q _ nD
 generalize hD:s2.heap.objs.size=D at nD w0 turn
 have fD:∀ b∈fp,b<D:=fun b hb=>by
  obtain⟨o,e,_⟩:=T.obj _ _ st2 b hb
  rw [<- hD]
  exact Heap.lt_size e
 have I3:Inv X pins σ (upd H2 D (.lst [])) { s2 with heap:=s2.heap.push { cls:=.type "list",data:=.seq ([]:List Value).toArray },toks:=s2.toks }:=by
  rw [<- hD]
  exact I2.laid (t':=s2.toks) (fun b u e=>Heap.get?_push_of_some _ e) (Nat.le_refl _) ⟨by simp,[],0,.nil,Heap.get?_push_size _ rfl⟩
 refine wpAny_newObj_type (zmH (fun h₁ hns₁ hsb₁ hcs₁=>?_)) (by show 0<=sizeLine;exact Nat.zero_le _)
 rw [hD]
 have st3:tn 0 (s2.heap.push { cls:=.type "list",data:=.seq ([]:List Value).toArray }):=T.keep _ _ _ st2 fun b hb o e=>Heap.get?_push_of_some _ e
 generalize hp3:s2.heap.push { cls:=.type "list",data:=.seq ([]:List Value).toArray }=h3 at I3 st3 hns₁ hsb₁ hcs₁
 dsimp only at hns₁ hsb₁ hcs₁ ⊢
 have sz3:h3.objs.size=D+1:=by rw [<- hp3,Heap.size_push,hD]
 have old:∀ b u,h3.get? b=some u->h₁.get? b=some u:=fun b u e=>hsb₁ b u e
 have f3:∀ b∈fp,zgB X pins (upd H2 D (.lst [])) b:=fun b hb=>⟨by rw [zao (Nat.ne_of_lt (fD b hb))];exact(f2 b hb).1,(f2 b hb).2⟩
 have I4:=ziV (L:=L) (ix:=ix) (t':=s2.toks) S I3 f3 (fun b hb=>by show b<h3.objs.size;rw [sz3];exact Nat.lt_succ_of_lt (fD b hb)) hix (h':=h₁) hns₁ old hcs₁
 have st4:tn 0 h₁:=T.keep _ _ _ st3 fun b hb o e=>old b o e
 generalize hC:(zaz X (L++zfA X ix) scope h3.objs.size { s2 with heap:=h3,toks:=s2.toks } (upd H2 D (.lst [])) fp)=Y at I4
 have eEnv:Y.env=compEnvC scope (zjE h3.objs.size scope++zgY X.env.cells scope.names []) h3.objs.size X.env:=by rw [<- hC];rfl
 have hcY:Y.calm=true:=by rw [<- hC];exact hc
 have xeY:Y.xe=fun _ _=>False:=by rw [<- hC];rfl
 have eP:Y.prog=X.prog:=by rw [<- hC];rfl
 have eW:Y.w=X.w:=by rw [<- hC];rfl
 have eK:Y.K=X.K:=by rw [<- hC];rfl
 have eA:Y.A=X.A:=by rw [<- hC];rfl
 have gY:PG Y tg g:=by rw [<- hC];exact hg _ _ _ _
 have tY:PTs Y ifs tc:=by rw [<- hC];exact ht _ _ _ _
 have pY:PE Y elt te:=by rw [<- hC];exact he _ _ _ _
 have stat:∀{H':Hp},(∀ b∈fp,H' b=none)->∀ b∈fp,zgB Y [] H' b:=fun{H'} hn b hb=>by
  have z1:b∈Y.ex:=by rw [<- hC];exact hb
  have zp:Y.pn=[]:=by rw [<- hC];rfl
  refine⟨hn b hb,(I4.ok.exf b z1).1,I4.ok.exfs b z1,.inl z1,(I4.ok.exf b z1).2,fun p hp=>?_⟩
  rw [zp] at hp
  exact absurd hp (by simp)
 have fin:∀{H':Hp} {s':Shared},Inv Y [] (zfo L.length ix σ) H' s'->Q (.ref D) H'->compPost (model X.prog X.w) X.A X.xe (some (assign (.Name x0 pos') X.env)) (fun _ s'=>SP X pins Dn .next s') (.ref D) h3.objs.size (.ok .next) s':=by
  intro H' s' J' qe
  obtain⟨m,hm,_⟩:=J'.loc
  rw [eEnv] at hm
  have hfr:H' h3.objs.size=none:=by
   have:=J'.free
   rw [eEnv] at this
   exact this
  have mk:∀ h',Heap.SameBut h3.objs.size s'.heap h'->Inv X pins σ H' { s' with heap:=h' }:=by
   intro h' sb
   have hfr:H' h3.objs.size=none:=by
    have:=J'.free
    rw [eEnv] at this
    exact this
   have neC:∀ b u,H' b=some u->b≠h3.objs.size:=fun b u e z=>by rw [z,hfr] at e;cases e
   have base:Un (frs X.stack) fp (upd H2 D (.lst [])) H' h3 s'.heap:=by
    have:=J'.base
    rw [<- hC] at this
    exact this
   have to':∀ b o,b≠h3.objs.size->s'.heap.get? b=some o->h'.get? b=some o:=fun b o hb e=>sb.extBut b o hb e
   have lt3:∀ b o,h3.get? b=some o->b≠h3.objs.size:=fun b o e=>Nat.ne_of_lt (Heap.lt_size e)
   have un:Un (frs X.stack) fp (upd H2 D (.lst [])) H' h3 h' :=
    ⟨fun b o e n hb hx=>to' b o (lt3 b o e) (base.keep b o e n hb hx),
     fun b o e n hb hx=>by
     obtain⟨sl,z⟩:=base.slot b o e n hb hx
     exact⟨sl,to' _ _ (lt3 b o e) z⟩,
     base.free,
     fun b o e hx=>by
     obtain⟨o',z⟩:=base.there b o e hx
     exact⟨o',to' _ _ (lt3 b o e) z⟩,
     base.tups,base.frzs,base.tbls⟩
   have hok:HOk X.prog X.w H' h':=fun b u e=>by
    have z:=J'.hok b u e
    rw [eP,eW] at z
    refine z.stay (fun c v hcv qv=>to' c v ?_ qv) (fun _ qq=>qq) fun _ _ qq=>qq
    rcases hcv with zz|zz
    ·rw [zz];exact neC b u e
    ·exact neC c _ zz
   refine I3.call' (s':={ s' with heap:=h' }) (ch:=fp) ?_ un hok J'.bare fun b hb=>?_
   ·have:=J'.os
    rw [<- hC] at this
    exact this
   ·obtain⟨_,g1,g2,g3,g4,g5⟩:=f2 b hb
    exact⟨g3,g1,g4,g5⟩
  have I5:Inv X pins σ H' s':=mk s'.heap (Heap.SameBut.refl ..)
  show wpAny _ _ (assign (.Name x0 pos') X.env (.ref D)) _ _ s'
  refine wpAny_assign_Name (ziu (v:=.ref D) I5 hN hii hx0 rfl (fun s'' I6 hh=>?_) hf0)
  obtain⟨a6,sb6,ha6⟩:=hh
  have neC:a6≠h3.objs.size:=by
   rcases ha6 with z|z
   ·rw [z];exact Nat.ne_of_lt I3.lt
   ·obtain⟨v6,q6⟩:=I3.cell x0 a6 z
    exact Nat.ne_of_lt q6.lt
  refine⟨m,hm.sameBut sb6 (Ne.symm neC),fun h'' sb2=>⟨_,H',?_,by rw [<- hQ] at qe;exact qe⟩⟩
  refine Inv.zhD (t':=s''.toks) (fp:=[h3.objs.size]) I6 (fun b o hb e=>sb2.extBut b o (by simpa using hb) e) fun b hb=>?_
  have e:b=h3.objs.size:=by simpa using hb
  subst e
  exact I3.znf (Nat.le_refl _) hfr
 have key:∀ s5:Shared,s5={ s2 with heap:=h₁,toks:=s2.toks } ->
   codeAny (model X.prog X.w) X.A (.compLoop (.ListComp elt [⟨tg,iter,ifs,0⟩] scope pos) 0 (.ref it) (.ref D) (compEnvC scope (zjE h3.objs.size scope++zgY X.env.cells scope.names []) h3.objs.size X.env))
    (compPost (model X.prog X.w) X.A X.xe (some (assign (.Name x0 pos') X.env)) (fun _ s'=>SP X pins Dn .next s') (.ref D) h3.objs.size) s5:=by
  rintro s5 rfl
  rw [<- eEnv,<- eP,<- eW,<- eA]
  refine zgf (fun n s'=>∃ i ys H',Inv Y [] (zfo L.length ix σ) H' s'/\tn i s'.heap/\(∀ b∈fp,H' b=none)/\W i n ys H') ?_ m0 ⟨0,[],_,?_,st4,fun b hb=>(f3 b hb).1,w0⟩
  ·rintro n s6 ⟨i,ys,H6,I6,st6,fr6,w6⟩
   obtain⟨hl6,alt⟩:=turn i n ys H6 w6
   rcases alt with⟨stop,qe⟩|⟨go,step⟩
   ·have Td:=T.done Y eP eW eK hcY i [] s6 _ H6 (fun _ _=>False) I6 (stat fr6) st6 stop
    rw [<- eP,<- eW] at Td
    refine wpAny_mono Td (fun r s7 hr7=>?_) fun _ _ f=>f.elim
    obtain⟨hr,I7⟩:=hr7
    subst hr
    rw [eP,eW,eA]
    exact fin I7 qe
   ·have Ti:=T.item Y eP eW eK hcY i [] s6 _ H6 (fun _ _=>False) I6 (stat fr6) st6 go
    rw [<- eP,<- eW] at Ti
    refine wpAny_mono Ti (fun r s7 hr7=>?_) fun _ _ f=>f.elim
    obtain⟨u,hr,h7⟩:=hr7
    subst hr
    refine wpAny_mono h7 (fun _ s8 hr8=>?_) fun _ _ f=>f.elim
    obtain⟨x,H8,I8,r8,y8,st8,fr8⟩:=hr8
    have I8':=I8.pinned (stat fr8) (T.obj _ _ st8)
    have stp:=hgo _ _ _ _ (step x H8 y8)
    refine wpAny_mono (gY _ s8 _ H8 x u _ I8' r8 stp) (fun _ s9 ⟨σ9,H9,I9,⟨k1,k2⟩,q9⟩=>?_) fun _ _ f=>by rw [xeY] at f;exact f.elim
    have weak:∀{Hz:Hp} {sz:Shared},Inv Y ([]++zg6 fp s8.heap) σ9 Hz sz->Inv Y [] (zfo L.length ix σ) Hz sz/\tn (i+1) sz.heap/\∀ b∈fp,Hz b=none:=fun{Hz sz} Iz=>by
     refine⟨Iz.zcO.weak k1.symm fun j v e=>?_,T.keep _ _ _ st8 fun b hb o e=>(Iz.pin (b,o) (List.mem_append_right _ (List.mem_append_right _ (zci hb e)))).1,fun b hb=>?_⟩
     ·by_cases hj:L.length<=j
      ·rw [k2 j hj];exact e
      ·unfold zfo at e
       rw [List.getElem?_append_left (by simpa using Nat.lt_of_not_le hj),List.getElem?_replicate,if_pos (Nat.lt_of_not_le hj)] at e
       cases e
     ·obtain⟨o,e,d⟩:=T.obj _ _ st8 b hb
      exact(Iz.pin (b,o) (List.mem_append_right _ (List.mem_append_right _ (zci hb e)))).2.1
    refine wpAny_mono (tY _ s9 σ9 H9 _ I9 q9) (fun ok s10 ⟨H10,I10,q10⟩=>?_) fun _ _ f=>by rw [xeY] at f;exact f.elim
    cases ok with
    | false =>
     have q10':∃ m',m'<n/\W (i+1) m' ys H10:=q10
     obtain⟨m',hm',w10⟩:=q10'
     obtain⟨z1,z2,z3⟩:=weak I10
     exact⟨m',hm',i+1,ys,H10,z1,z2,z3,w10⟩
    | true =>
     refine wpAny_mono (pY _ s10 σ9 H10 _ I10 q10) (fun xv s11 ⟨v,H11,I11,r11,hl11,hz11,m',hm',w11⟩=>?_) fun _ _ f=>by rw [xeY] at f;exact f.elim
     refine wpAny_mono (zfT (X:=Y) _ s11 σ9 H11 (.ref D) [v] (.ref D) [xv] (fun _ Hq=>Hq=upd H11 D (.lst (ys++[v]))) I11 rfl (.cons r11 .nil) ⟨D,ys,v,rfl,rfl,hl11,hz11,rfl⟩) (fun _ s12 ⟨_,H12,I12,_,e12⟩=>?_) fun _ _ f=>by rw [xeY] at f;exact f.elim
     subst e12
     obtain⟨z1,z2,z3⟩:=weak I12
     exact⟨m',hm',i+1,ys++[v],_,z1,z2,z3,w11⟩
  ·exact I4
 exact codeAny_compStart_list (key _ rfl) (T.self _ 0 _ _ _ st4 (key _ rfl))
theorem zqv{elt tg iter:Expr}{ifs:List Expr}{scope:Scope}{pos:Pos}{wi:TI}{g:TG}{tc:TT}{te:TE}{x0:Str}{pos' spos:Pos}(i0:Nat)(L:List Str)(ix:List Nat)(M:List Str)(hN:X.N.Nodup)(hii:X.N[i0]?=some x0)(hx0:X.env.scope.names.lookup x0=some .local)
  (hsw:swapsWith (.ListComp elt [⟨tg,iter,ifs,0⟩] scope pos) (some (.Name x0 pos')) spos.line X.env=pure true)(hc:X.calm=true)(hk:scope.kind=.function)
  (hd:zdp X.env.scope scope X.N ix=true)(hM:M=L++ix.map fun i=>X.N.getD i "") (hi:PI X tg iter wi)
  (hg:∀ C s₃ H₃ fp,PG (zaz X M scope C s₃ H₃ fp) tg g) (hgo:znG L.length g)
  (ht:∀ C s₃ H₃ fp,PTs (zaz X M scope C s₃ H₃ fp) ifs tc) (he:∀ C s₃ H₃ fp,PE (zaz X M scope C s₃ H₃ fp) elt te)
  (hs:∀ x,foldedSetIterable iter X.env x=pure x:=by intro _;rfl) :
  PS X (.Assign [.Name x0 pos'] (.ListComp elt [⟨tg,iter,ifs,0⟩] scope pos) spos) (zrM (zk5 L.length ix wi g tc te) (zna i0)):=by
 unfold zdp at hd
 simp only [Bool.and_eq_true,List.all_eq_true,bne_iff_ne,ne_eq,Bool.or_eq_true,beq_iff_eq,decide_eq_true_eq,Bool.not_eq_true',List.contains_eq_mem,decide_eq_false_iff_not] at hd
 obtain⟨⟨d1,d2⟩,d3⟩:=hd
 have eM:M=L++zfA X ix:=by rw [hM];unfold zfA;rfl
 subst eM
 refine zqw (L:=L) (ix:=ix) hN hii (.inl hx0) (.inr hx0) hsw hc ⟨hk,fun y hy e=>?_,fun y hy e=>?_,fun x hx=>?_,fun y hy e=>?_⟩ d3 hi hg hgo ht he hs
 ·rcases (d1 y hy).1.1 with z|z
  ·exact absurd e z
  ·exact z
 ·rcases (d1 y hy).1.2 with z|z
  ·exact absurd e z
  ·exact z
 ·unfold zfA at hx
  exact d2 x hx
 ·rcases (d1 y hy).2 with z|z
  ·exact absurd e z
  ·exact z
end
end L2
namespace L2
open PySem PySem.Spec PyProof.Rows
theorem zn4{k:Key}{u:Value}(h:zjN k u=true):RelV (kV k) u:=by
 rcases zaL h with⟨i,t,rfl,rfl⟩|⟨x,t,rfl,rfl⟩
 ·exact⟨t,rfl⟩
 ·exact⟨t,rfl⟩
theorem zg7{α β:Type}{R:α->β->Prop}:∀{xs:List α} {ys:List β} {i:Nat} {x:α},Paired R xs ys->xs[i]?=some x->∃ y,ys[i]?=some y/\R x y
 | _::_,_::_,0,_,.cons r _,e=>by
  simp only [List.getElem?_cons_zero,Option.some.injEq] at e
  subst e
  exact⟨_,rfl,r⟩
 | _::_,_::_,i+1,_,.cons _ t,e=>by
  simp only [List.getElem?_cons_succ] at e ⊢
  exact zg7 t e
 | [],_,_,_,_,e=>by simp at e
end L2
namespace L2
open PySem PySem.Spec PyProof.Rows
section
variable {κ:Type}[DecidableEq κ]
def zjh(kvs:List (κ×V))(k:κ):Option V:=(kvs.find? fun kv=>decide (kv.1=k)).map (·.2)
def putK(kvs:List (κ×V))(k:κ)(v:V):List (κ×V) :=
 if(kvs.any fun kv=>decide (kv.1=k))=true then kvs.map (fun kv=>if kv.1=k then(kv.1,v) else kv) else kvs++[(k,v)]
theorem zd1{p:κ×V}{r:List (κ×V)}{k:κ}(e:p.1=k):zjh (p::r) k=some p.2:=by simp [zjh,List.find?_cons,e]
theorem zd2{p:κ×V}{r:List (κ×V)}{k:κ}(e:¬ p.1=k):zjh (p::r) k=zjh r k:=by simp [zjh,List.find?_cons,e]
theorem zkf(k:κ):∀ kvs:List (κ×V),(kvs.any fun kv=>decide (kv.1=k))=(zjh kvs k).isSome
 | []=>rfl
 | p::r=>by
  rw [List.any_cons]
  by_cases e:p.1=k
  ·simp only [zd1 e,decide_eq_true e,Bool.true_or,Option.isSome_some]
  ·rw [zd2 e,decide_eq_false e,Bool.false_or];exact zkf k r
theorem zfW(kvs:List (κ×V))(k:κ)(v:V):(putK kvs k v).length<=kvs.length+1:=by
 unfold putK
 split
 ·rw [List.length_map];omega
 ·rw [List.length_append,List.length_cons,List.length_nil];omega
theorem znQ.zf4{o:Option V}{u:Option Value}(r:znQ o u):o.isSome=u.isSome:=by
 cases o with
 | none=>cases u with
  | none=>rfl
  | some _=>exact(show False from r).elim
 | some _=>cases u with
  | none=>exact(show False from r).elim
  | some _=>rfl
theorem KV.val{kvs:List (κ×V)}{vs:List (κ×Value)}(r:KV kvs vs)(k:κ):znQ (zjh kvs k) (valueAt vs k):=by
 unfold KV at r
 induction r with
 | nil=>exact True.intro
 | @cons p q ps qs h t ih =>
  obtain⟨h1,h2⟩:=h
  by_cases e:p.1=k
  ·have e':q.1=k:=h1.symm.trans e
   have b:valueAt (q::qs) k=some q.2:=by simp [valueAt,List.find?_cons,e']
   rw [zd1 e,b];exact h2
  ·have e':¬ q.1=k:=fun z=>e (h1.trans z)
   have b:valueAt (q::qs) k=valueAt qs k:=by simp [valueAt,List.find?_cons,e']
   rw [zd2 e,b];exact ih
theorem KV.any{kvs:List (κ×V)}{vs:List (κ×Value)}(r:KV kvs vs)(k:κ):(kvs.any fun kv=>decide (kv.1=k))=vs.any fun kv=>decide (kv.1=k):=by
 unfold KV at r
 induction r with
 | nil=>rfl
 | cons h t ih=>rw [List.any_cons,List.any_cons,ih,h.1]
theorem KV.repl{kvs:List (κ×V)}{vs:List (κ×Value)}(r:KV kvs vs)(k:κ){y:V}{u:Value}(ry:RelV y u) :
  KV (kvs.map fun kv=>if kv.1=k then(kv.1,y) else kv) (vs.map fun kv=>if kv.1=k then(kv.1,u) else kv):=by
 unfold KV at r ⊢
 induction r with
 | nil=>exact .nil
 | @cons p q ps qs h t ih =>
  rw [List.map_cons,List.map_cons]
  refine .cons ?_ ih
  obtain⟨h1,h2⟩:=h
  by_cases e:p.1=k
  ·rw [if_pos e,if_pos (h1.symm.trans e)];exact⟨h1,ry⟩
  ·rw [if_neg e,if_neg (fun z=>e (h1.trans z))];exact⟨h1,h2⟩
theorem KV.put{kvs:List (κ×V)}{vs:List (κ×Value)}(r:KV kvs vs)(k:κ){y:V}{u:Value}(ry:RelV y u):KV (putK kvs k y) (stored vs k u):=by
 unfold putK stored
 rw [r.any k]
 by_cases e:(vs.any fun kv=>decide (kv.1=k))=true
 ·rw [if_pos e,if_pos e];exact r.repl k ry
 ·rw [if_neg e,if_neg e];exact Paired.snoc r ⟨rfl,ry⟩
theorem KV.length{kvs:List (κ×V)}{vs:List (κ×Value)}(r:KV kvs vs):kvs.length=vs.length:=Paired.length r
end
theorem zm2{P:Program}{w:World}{k:Key}{u:Value}(r:RelV (kV k) u):(zbe P w).is k u=true:=by
 cases k with
 | inl i=>obtain⟨t,e⟩:=(show ∃ t,u=Value.int i t from r);subst e;exact zjJ P w i t
 | inr x=>obtain⟨t,e⟩:=(show ∃ t,u=Value.str x t from r);subst e;exact zjI P w x t
theorem ziU{P:Program}{w:World}:∀{ks:List Key} {us:List Value},Vals (ks.map kV) us->ItemsAre (zbe P w) ks us
 | [],_,r=>by rw [List.map_nil] at r;cases r;exact .nil
 | k::ks,_,r=>by
  rw [List.map_cons] at r
  cases r with
  | cons h t=>exact .cons (zm2 h) (ziU t)
abbrev KT(H:Hp):List (List Key×V)->List (List Key×Addr×Value)->Prop:=Paired fun p q=>p.1=q.1/\TAt H q.2.1 (p.1.map kV)/\RelV p.2 q.2.2
theorem KT.val{H:Hp}{kvs:List (List Key×V)}{xs:List (List Key×Addr×Value)}(r:KT H kvs xs)(k:List Key):znQ (zjh kvs k) ((atKey xs k).map (·.2)):=by
 induction r with
 | nil=>exact True.intro
 | @cons p q ps qs h t ih =>
  obtain⟨h1,_,h2⟩:=h
  by_cases e:p.1=k
  ·have e':q.1=k:=h1.symm.trans e
   have b:atKey (q::qs) k=some q.2:=by simp [atKey,List.find?_cons,e']
   rw [zd1 e,b];exact h2
  ·have e':¬ q.1=k:=fun z=>e (h1.trans z)
   have b:atKey (q::qs) k=atKey qs k:=by simp [atKey,List.find?_cons,e']
   rw [zd2 e,b];exact ih
theorem KT.repl{H:Hp}{kvs:List (List Key×V)}{xs:List (List Key×Addr×Value)}(r:KT H kvs xs)(k:List Key){y:V}{u:Value}(ry:RelV y u) :
  KT H (kvs.map fun kv=>if kv.1=k then(kv.1,y) else kv) (xs.map (putAt k u)):=by
 induction r with
 | nil=>exact .nil
 | @cons p q ps qs h t ih =>
  rw [List.map_cons,List.map_cons]
  refine .cons ?_ ih
  obtain⟨h1,h2,h3⟩:=h
  unfold putAt
  by_cases e:p.1=k
  ·rw [if_pos e,if_pos (h1.symm.trans e)];exact⟨h1,h2,ry⟩
  ·rw [if_neg e,if_neg (fun z=>e (h1.trans z))];exact⟨h1,h2,h3⟩
theorem KT.put{H:Hp}{kvs:List (List Key×V)}{xs:List (List Key×Addr×Value)}(r:KT H kvs xs)(k:List Key){b:Addr}{y:V}{u:Value}(hb:TAt H b (k.map kV))(ry:RelV y u) :
  KT H (putK kvs k y) (storedH xs k b u):=by
 have e:(kvs.any fun kv=>decide (kv.1=k))=(atKey xs k).isSome:=by
  rw [zkf,(r.val k).zf4,Option.isSome_map]
 unfold putK storedH
 rw [e]
 by_cases q:(atKey xs k).isSome=true
 ·rw [if_pos q,if_pos q];exact r.repl k ry
 ·rw [if_neg q,if_neg q];exact Paired.snoc r ⟨rfl,hb,ry⟩
theorem KT.keeps{H H':Hp}{kvs:List (List Key×V)}{xs:List (List Key×Addr×Value)}(r:KT H kvs xs)(ht:∀ b ys,TAt H b ys->TAt H' b ys):KT H' kvs xs :=
 Paired.zuj r fun _ _ z=>⟨z.1,ht _ _ z.2.1,z.2.2⟩
section
variable {P:Program}{w:World}{H:Hp}{h:Heap}{a:Addr}
theorem zrU{u:HO}(ok:HOk P w H h)(e:Rd H a u):zbO P w H h a u:=e.ok ok
theorem zlK{kvs:List (Key×V)}(ok:HOk P w H h)(e:Rd H a (.dK kvs)):kvs.length<=sizeLine/\(a==sysModules)=false/\∃ vs,KV kvs vs/\h.DictOf (zbe P w) a vs :=
 show zbO P w H h a (.dK kvs) from zrU ok e
theorem ztg{kvs:List (Key×V)}(ok:HOk P w H h)(e:H a=some (.dK kvs)):kvs.length<=sizeLine/\(a==sysModules)=false/\∃ vs,KV kvs vs/\h.DictOf (zbe P w) a vs:=zlK ok (.inl e)
theorem zfY{ks:List Key}(ok:HOk P w H h)(e:TAt H a (ks.map kV)):(tupleKind (zbe P w)).is h ks a:=by
 obtain⟨_,its,r,o,h1,h2,n,h3⟩:=(show zbO P w H h a (.tup (ks.map kV)) from Rd.ok e ok)
 exact⟨o,its.toArray,n,h1,h2,h3,by simpa using ziU r⟩
theorem zlI{kvs:List (List Key×V)}(ok:HOk P w H h)(e:Rd H a (.dT kvs)):kvs.length<=sizeLine/\(a==sysModules)=false /\
  ∃ xs,KT H kvs xs/\h.DictOfH (tupleKind (zbe P w)) a xs:=by
 obtain⟨z,y,xs,r,o,es,ep,h1,h2,h3,h4,h5⟩:=(show zbO P w H h a (.dT kvs) from zrU ok e)
 refine⟨z,y,xs,r,o,es,ep,h1,h2,h3,h4,fun x hx=>?_,h5⟩
 have all:∀{l:List (List Key×V)} {m:List (List Key×Addr×Value)},KT H l m->∀ x∈m,(tupleKind (zbe P w)).is h x.1 x.2.1:=by
  intro l m q
  induction q with
  | nil=>intro x hx;exact nomatch hx
  | @cons p q ps qs hq t ih =>
   intro x hx
   rcases List.mem_cons.mp hx with e|hx
   ·subst e
    exact zfY ok (by rw [<- hq.1];exact hq.2.1)
   ·exact ih x hx
 exact all r x hx
theorem zuC{kvs:List (List Key×V)}(ok:HOk P w H h)(e:H a=some (.dT kvs)):kvs.length<=sizeLine/\(a==sysModules)=false /\
  ∃ xs,KT H kvs xs/\h.DictOfH (tupleKind (zbe P w)) a xs:=zlI ok (.inl e)
end
def ztM(H:Hp)(a:Addr)(y:V)(r:Option V):Prop :=
 (∃ kvs k,Rd H a (.dK kvs)/\y=kV k/\r=zjh kvs k)\/∃ kvs k b,Rd H a (.dT kvs)/\y=.ref b/\TAt H b (k.map kV)/\r=zjh kvs k
def zpO(H:Hp)(a:Addr)(y v:V)(H':Hp):Prop :=
 (∃ kvs k,H a=some (.dK kvs)/\y=kV k/\kvs.length<sizeLine/\H'=upd H a (.dK (putK kvs k v))) \/
 ∃ kvs k b,H a=some (.dT kvs)/\y=.ref b/\TAt H b (k.map kV)/\kvs.length<sizeLine/\H'=upd H a (.dT (putK kvs k v))
theorem zpO.k{H:Hp}{a:Addr}{kvs:List (Key×V)}{k:Key}{v:V}(e:H a=some (.dK kvs))(hl:kvs.length<sizeLine):zpO H a (kV k) v (upd H a (.dK (putK kvs k v))):=.inl ⟨kvs,k,e,rfl,hl,rfl⟩
theorem zpO.t{H:Hp}{a b:Addr}{kvs:List (List Key×V)}{k:List Key}{v:V}(e:H a=some (.dT kvs))(eb:TAt H b (k.map kV))(hl:kvs.length<sizeLine) :
  zpO H a (.ref b) v (upd H a (.dT (putK kvs k v))):=.inr ⟨kvs,k,b,e,rfl,eb,hl,rfl⟩
section
variable {X:Cx}{pins:List (Addr×Obj)}{σ:St}{H:Hp}{s:Shared}{a:Addr}{y v:V}{u r:Value}{o:Option V}{A:Around}{E:Value->Shared->Prop}
theorem Inv.big(I:Inv X pins σ H s):sysModules<s.heap.objs.size:=by
 have h:mainGlobals<s.heap.objs.size:=(I.mod.glob.keeps I.bk).lt
 exact Nat.lt_trans (by decide) h
theorem znn{Q:Value->Shared->Prop}(hu:A.units+1<cLine)(I:Inv X pins σ H s)(g:ztM H a y (some v))(ry:RelV y u)(h:∀ w' s',Inv X pins σ H s'->RelV v w'->Q w' s') :
  wpAny (model X.prog X.w) A (getItem (.ref a) u) Q E s:=by
 rcases g with⟨kvs,k,e,ey,l⟩|⟨kvs,k,b,e,ey,eb,l⟩
 ·subst ey
  obtain⟨z,hd,vs,rel,dd⟩:=zlK I.hok e
  obtain⟨w',hw,rw'⟩:=znQ.some_of (v:=v) (o:=valueAt vs k) (by rw [l];exact rel.val k)
  exact wpAny_getItem_of (zm2 ry) dd.mapOf hw (h w' _ (I.tok _) rw')
 ·subst ey
  cases (show u=Value.ref b from ry)
  obtain⟨z,hd,xs,rel,dd⟩:=zlI I.hok e
  obtain⟨w',hw,rw'⟩:=znQ.some_of (v:=v) (o:=(atKey xs k).map (·.2)) (by rw [l];exact rel.val k)
  obtain⟨p,hp,hp2⟩:=Option.map_eq_some_iff.mp hw
  refine wpAny_getItem_heap (tupleKind_room_in1 hu) (zfY I.hok eb) dd hp ?_
  rw [hp2]
  exact h w' _ (I.tok _) rw'
theorem zvV{Q:Value->Shared->Prop}(hu:A.units+1<cLine)(I:Inv X pins σ H s)(g:ztM H a y o)(ry:RelV y u)(h:∀ s',Inv X pins σ H s'->Q (.bool o.isSome) s') :
  wpAny (model X.prog X.w) A (compareOp .In u (.ref a)) Q E s:=by
 rcases g with⟨kvs,k,e,ey,l⟩|⟨kvs,k,b,e,ey,eb,l⟩
 ·subst ey
  obtain⟨z,hd,vs,rel,dd⟩:=zlK I.hok e
  refine wpAny_in_of (zm2 ry) hd dd.mapOf ?_
  rw [<- (rel.val k).zf4,<- l]
  exact h _ (I.tok _)
 ·subst ey
  cases (show u=Value.ref b from ry)
  obtain⟨z,hd,xs,rel,dd⟩:=zlI I.hok e
  refine wpAny_in_heap (tupleKind_room_in1 hu) (zfY I.hok eb) hd dd ?_
  have q:=(rel.val k).zf4
  rw [Option.isSome_map] at q
  rw [<- q,<- l]
  exact h _ (I.tok _)
theorem zh9{h':Heap}{t':Nat}{ob:HO}(I:Inv X pins σ H s)(mu:Mut (H a))(hs:Heap.SameBut a s.heap h')(he:∃ q,h'.get? a=some q)(new:zbO X.prog X.w (upd H a ob) h' a ob) :
  Inv X pins σ (upd H a ob) { s with heap:=h',toks:=t' } :=
 I.write (x:=a) (e:=a) mu (.inl rfl) (fun b q hb z=>(hs.2 b hb).trans z) he new
theorem zth{P:Program}{w:World}{H':Hp}{h':Heap}{kvs:List (Key×V)}{vs:List (Key×Value)}(z:kvs.length<=sizeLine)(hd:(a==sysModules)=false)(rel:KV kvs vs)(dd:h'.DictOf (zbe P w) a vs) :
  zbO P w H' h' a (.dK kvs):=⟨z,hd,vs,rel,dd⟩
theorem zgd{H':Hp}{Q:Unit->Shared->Prop}(hu:A.units+1<cLine)(I:Inv X pins σ H s)(g:zpO H a y v H')(ry:RelV y u)(rv:RelV v r)(h:∀ s',Inv X pins σ H' s'->Q () s') :
  wpAny (model X.prog X.w) A (setItem (.ref a) u r) Q E s:=by
 rcases g with⟨kvs,k,e,ey,l,eH⟩|⟨kvs,k,b,e,ey,eb,l,eH⟩
 ·subst ey eH
  obtain⟨z,hd,vs,rel,dd⟩:=ztg I.hok e
  have hz:vs.length<=sizeLine:=by rw [<- rel.length];exact z
  have hl:(putK kvs k v).length<=sizeLine:=by have:=zfW kvs k v;omega
  refine wpAny_setItem_pairs (hsz:=hz) (zm2 ry) dd fun h' dd' hs=>h _ ?_
  have he:∃ q,h'.get? a=some q:=let⟨q,_,_,hq,_⟩:=dd';⟨q,hq⟩
  exact zh9 I (by rw [e];exact True.intro) hs he (zth hl hd (rel.put k rv) dd')
 ·subst ey eH
  cases (show u=Value.ref b from ry)
  obtain⟨z,hd,xs,rel,dd⟩:=zuC I.hok e
  have hz:xs.length<=sizeLine:=by rw [<- Paired.length rel];exact z
  have hl:(putK kvs k v).length<=sizeLine:=by have:=zfW kvs k v;omega
  refine wpAny_setItem_heap (hsz:=hz) (tupleKind_room_in1 hu) (zfY I.hok eb) dd fun h' dd' hs=>h _ ?_
  obtain⟨q,es,ep,hq,h2,h3,h4,_,h5⟩:=dd'
  refine zh9 I (by rw [e];exact True.intro) hs ⟨q,hq⟩ ⟨hl,hd,_,(rel.put k eb rv).keeps fun c ys ec=>?_,q,es,ep,hq,h2,h3,h4,h5⟩
  exact ec.upd (fun _ z=>zoB z e (fun z=>nomatch z)) fun _ _ z=>zoB z e (fun z=>nomatch z)
end
theorem zjY{X:Cx}{pins:List (Addr×Obj)}{σ:St}{H:Hp}{s:Shared}{a:Addr}{y:V}{o:Option V}(I:Inv X pins σ H s)(g:ztM H a y o):s.TypeIs (.ref a) "dict":=by
 rcases g with⟨kvs,k,e,_,_⟩|⟨kvs,k,b,e,_,_,_⟩
 ·obtain⟨_,_,vs,_,dd⟩:=zlK I.hok e
  exact dd.typeIs
 ·obtain⟨_,_,xs,_,dd⟩:=zlI I.hok e
  exact dd.typeIs
theorem zoZ{P:Program}{w:World}{H:Hp}(h:Heap)(hb:sysModules<h.objs.size):zbO P w H (h.push { cls:=.type "dict",data:=.dict #[] }) h.objs.size (.dT []) :=
 ⟨Nat.zero_le _,beq_eq_false_iff_ne.mpr (Ne.symm (Nat.ne_of_lt hb)),[],.nil,_,#[],0,Heap.get?_push_size _ rfl,⟨rfl,rfl,rfl⟩,rfl,rfl,List.nodup_nil⟩
def zrJ:TE:=fun _ H Q=>∀ p,H p=none->Q (.ref p) (upd H p (.dT []))
section
variable {X:Cx}{pos:Pos}
theorem zov:PE X (.Dict [] [] pos) zrJ:=fun pins s σ H Q I h =>
 wpAny_Dict_empty ⟨.ref s.heap.objs.size,_,I.laid (a:=s.heap.objs.size) (o:=.dT []) (t':=s.toks) (fun _ _ q=>Heap.get?_push_of_some _ q) (Nat.le_refl _) (zoZ s.heap I.big),rfl,h _ (I.hok.fresh (Nat.le_refl _))⟩
end
structure M1(X:Cx)(o:Expr)(m:Str)(apos:Pos)(e:Expr)(cpos:Pos):Prop where
 base:attributeBase o m X.env (eval o X.env)=eval o X.env
 few:((backTo cpos (starEach [e] X.env)).all (fun x=>!x.1)&&(backToKw cpos (keywordEach [] X.env)).all (fun x=>x.1.isSome)
  && decide (([e]:List Expr).length+([]:List Keyword).length+(if([]:List Keyword).isEmpty then 0 else 1)<30))=true
 line:(apos.endLine==cpos.line)=true
 trees:backTo cpos (starEach [e] X.env)=[(false,eval e X.env)]
structure M2(X:Cx)(o:Expr)(m:Str)(apos:Pos)(e f:Expr)(cpos:Pos):Prop where
 base:attributeBase o m X.env (eval o X.env)=eval o X.env
 few:((backTo cpos (starEach [e,f] X.env)).all (fun x=>!x.1)&&(backToKw cpos (keywordEach [] X.env)).all (fun x=>x.1.isSome)
  && decide (([e,f]:List Expr).length+([]:List Keyword).length+(if([]:List Keyword).isEmpty then 0 else 1)<30))=true
 line:(apos.endLine==cpos.line)=true
 trees:backTo cpos (starEach [e,f] X.env)=[(false,eval e X.env),(false,eval f X.env)]
def IsD(H:Hp)(a:Addr):Prop:=(∃ kvs,Rd H a (.dK kvs))\/∃ kvs,Rd H a (.dT kvs)
end L2
namespace L2
open PySem PySem.Spec PyProof.Rows
end L2
namespace L2
open PySem PySem.Spec PyProof.Rows
end L2
namespace L2
open PySem PySem.Spec PyProof.Rows
end L2
namespace L2
open PySem PySem.Spec PyProof.Rows
end L2
namespace L2
open PySem PySem.Spec PyProof.Rows
section
variable {prog:Program}{w:World}{A:Around}{E:Value->Shared->Prop}{s:Shared}{K:Type}[DecidableEq K]{knd:PySem.KeyKind prog w K}
theorem zi1{d:Addr}{kvs:List (K×Value)}{ep:Nat}{Q:List Value->Shared->Prop}(hh:A.handled=none)(sy:(d==sysModules)=false)(hm:s.heap.DictAt knd d kvs ep)(hn:kvs.length<=1000)
  (hQ:∀ s' (acc:Array Value),(∀ b o,s.heap.get? b=some o->s'.heap.get? b=some o)->s'.gens=s.gens->s'.drawn=s.drawn->s'.os=s.os->s.heap.objs.size<=s'.heap.objs.size->ItemsOf (fun i v=>∃ k x,kvs[i]?=some (k,x)/\knd.is k v=true) acc kvs.length->Q acc.toList s') :
  wpAny (model prog w) A (collect (.ref d)) Q E s:=by
 unfold collect
 refine wpAny_bind (wpAny_runValue (codeAny_builtin F.entry_proto_collect ?_))
 rw [Around.under_plainId F.plain_proto_collect _]
 show wpAny _ A.in1 (newList [] >>= fun l=>again (.builtin "list.__iadd__" ⟨[l,.ref d],[]⟩)) _ _ s
 refine wpAny_bind (wpAny_newObj_type ?_)
 refine wpAny_pure ⟨plainId_quiet F.plain_list_iadd _,codeAny_builtin F.entry_list_iadd ?_⟩
 rw [Around.under_plainId F.plain_list_iadd _]
 have dl:=hm.lt_size
 have hm1:=hm.push { cls:=.type "list",data:=.seq ([]:List Value).toArray }
 have hSd:s.heap.objs.size≠d:=Nat.ne_of_gt dl
 have h1:Builtin.List.listSameRef (.ref s.heap.objs.size) (.ref d)=false:=by simp [Builtin.List.listSameRef,hSd]
 show wpAny _ A.in1 (Builtin.List.listExtendWith (.ref s.heap.objs.size) (.ref d) (.ref s.heap.objs.size)) _ _ _
 unfold Builtin.List.listExtendWith
 refine wpAny_bind (wpAny_typeOf (s:={ s with heap:=s.heap.push { cls:=.type "list",data:=.seq ([]:List Value).toArray } }) hm1.dictOf.typeIs ?_)
 rw [if_neg (by rw [h1];decide)]
 refine wpAny_bind (wpAny_pyIter_dict (s:={ s with heap:=s.heap.push { cls:=.type "list",data:=.seq ([]:List Value).toArray } }) sy hm1 ?_)
 refine wpAny_bind (wpAny_holding ?_)
 have I2:s.heap.objs.size+1=(s.heap.push { cls:=.type "list",data:=.seq ([]:List Value).toArray }).objs.size:=(Heap.size_push ..).symm
 have hm2:=hm1.push { cls:=.type "dict_keyiterator",data:=.fields #[.ref d,.int 0 0,.int kvs.length 0,.int ep 0] }
 unfold Builtin.List.listLengthHint
 refine wpAny_bind (wpAny_specialOf hm2.dictOf.typeIs F.slot_dict_len.lookup ?_)
 generalize hid:("dict.__len__":String)=id0
 wp_delta
 rw [show splitId id0=some ("dict","__len__") from by subst hid;decide +kernel]
 subst hid
 refine wpAny_bind (wpAny_isInstance (b:=true) hm2.dictOf.typeIs (by rw [isSubtype_type];kernel_rfl) ?_)
 rw [if_neg (by decide)]
 dsimp only
 rw [if_pos (by decide +kernel)]
 refine wpAny_bind (wpAny_typeOf hm2.dictOf.typeIs ?_)
 refine wpAny_pure ?_
 rw [if_pos (by decide +kernel)]
 refine wpAny_bind (wpAny_rule ?_)
 unfold Builtin.List.listTouch
 have hS0:((s.heap.push { cls:=.type "list",data:=.seq ([]:List Value).toArray }).push { cls:=.type "dict_keyiterator",data:=.fields #[.ref d,.int 0 0,.int kvs.length 0,.int ep 0] }).get? s.heap.objs.size=some (seqObj "list" #[] 0):=Heap.get?_push_of_some _ (Heap.get?_push_size _ rfl)
 refine wpAny_bind (wpAny_bind (listUpdate_at hS0 rfl ?_ (Nat.zero_le _) (by show 1<=sizeLine+1;omega)))
 have hS1:=get?_update_seq hS0 (·.push .none)
 refine listUpdate_at hS1 rfl ?_ (by show 1<=sizeLine;rw [sizeLine_eq];decide) (by show 0<=sizeLine+1;omega)
 have hS2:=get?_update_seq hS1 (·.pop)
 have up:∀ b o,b≠s.heap.objs.size->((s.heap.push { cls:=.type "list",data:=.seq ([]:List Value).toArray }).push { cls:=.type "dict_keyiterator",data:=.fields #[.ref d,.int 0 0,.int kvs.length 0,.int ep 0] }).get? b=some o ->
   ((((s.heap.push { cls:=.type "list",data:=.seq ([]:List Value).toArray }).push { cls:=.type "dict_keyiterator",data:=.fields #[.ref d,.int 0 0,.int kvs.length 0,.int ep 0] }).update s.heap.objs.size (Obj.mapSeq fun x=>x.push Value.none)).update s.heap.objs.size (Obj.mapSeq fun x=>x.pop)).get? b=some o:=fun b o hb e =>
  (((Heap.SameBut.update ..).2 b hb).trans ((Heap.SameBut.update ..).2 b hb)).trans e
 have hI:((s.heap.push { cls:=.type "list",data:=.seq ([]:List Value).toArray }).push { cls:=.type "dict_keyiterator",data:=.fields #[.ref d,.int 0 0,.int kvs.length 0,.int ep 0] }).get? (s.heap.push { cls:=.type "list",data:=.seq ([]:List Value).toArray }).objs.size=some { cls:=.type "dict_keyiterator",data:=.fields #[.ref d,.int 0 0,.int kvs.length 0,.int ep 0] }:=Heap.get?_push_size _ rfl
 have neI:(s.heap.push { cls:=.type "list",data:=.seq ([]:List Value).toArray }).objs.size≠s.heap.objs.size:=by rw [<- I2];omega
 have old:∀ b o,s.heap.get? b=some o->((s.heap.push { cls:=.type "list",data:=.seq ([]:List Value).toArray }).push { cls:=.type "dict_keyiterator",data:=.fields #[.ref d,.int 0 0,.int kvs.length 0,.int ep 0] }).get? b=some o:=fun b o e=>Heap.get?_push_of_some _ (Heap.get?_push_of_some _ e)
 generalize ((((s.heap.push { cls:=.type "list",data:=.seq ([]:List Value).toArray }).push { cls:=.type "dict_keyiterator",data:=.fields #[.ref d,.int 0 0,.int kvs.length 0,.int ep 0] }).update s.heap.objs.size (Obj.mapSeq fun x=>x.push Value.none)).update s.heap.objs.size (Obj.mapSeq fun x=>x.pop))=h5 at hS2 up ⊢
 have st:h5.IsKeyIter (s.heap.push { cls:=.type "list",data:=.seq ([]:List Value).toArray }).objs.size d 0 kvs.length ep:=⟨_,up _ _ neI hI,rfl,rfl⟩
 have da:h5.DictAt knd d kvs ep:=hm2.at' fun o e=>up d o (Ne.symm hSd) e
 generalize hIa:(s.heap.push { cls:=.type "list",data:=.seq ([]:List Value).toArray }).objs.size=Ia at st neI hI ⊢
 have ia:Ia=s.heap.objs.size+1:=by rw [<- hIa];exact I2.symm
 have ne:d≠Ia:=by rw [ia];exact Nat.ne_of_lt (Nat.lt_succ_of_lt dl)
 have nS:s.heap.objs.size∉[Ia,d]:=fun h=>by
  rcases List.mem_cons.mp h with c|c
  ·exact neI c.symm
  ·exact hSd (List.mem_singleton.mp c)
 have W:=(Walks.dictKeys (knd:=knd) (A:=A.in1) hh Ia d ne kvs ep).toS
 refine wpAny_pure ⟨plainId_quiet F.plain_extend_loop _,codeAny_extend_loopS W (by rw [sizeLine_eq];omega) s.heap.objs.size nS _ kvs.length 0 _ _ _ rfl (Nat.zero_le _) ⟨st,da⟩ hS2 (ItemsOf.nil _) fun s' acc' c' mv hS' hacc=>?_⟩
 show wpAny _ A (load s.heap.objs.size >>= _) _ _ s'
 refine wpAny_bind (wpAny_load hS' ?_)
 refine wpAny_pure (hQ s' acc' (fun b o e=>?_) mv.gens mv.drawn mv.os (Nat.le_of_lt (Heap.lt_size hS')) hacc)
 have lt:=Heap.lt_size e
 have b1:b≠s.heap.objs.size:=Nat.ne_of_lt lt
 have b2:b≠Ia:=by rw [ia];exact Nat.ne_of_lt (Nat.lt_succ_of_lt lt)
 refine mv.heap b o (fun h=>?_) (up b o b1 (old b o e))
 rcases List.mem_cons.mp h with c|c
 ·exact b1 c
 ·exact b2 (List.mem_singleton.mp c)
end
end L2
namespace L2
open PySem PySem.Spec PyProof.Rows
theorem zjp:∀{xs:List V} {us:List Value},xs.length=us.length->(∀(j:Nat) x u,xs[j]?=some x->us[j]?=some u->RelV x u)->Vals xs us
 | [],[],_,_=>.nil
 | x::xs,u::us,l,h=>.cons (h 0 x u rfl rfl) (zjp (by simpa using l) fun j y v e1 e2=>h (j+1) y v (by simpa using e1) (by simpa using e2))
end L2
namespace Q1
def fr(t b:Int):Int×Int:=if b<0 then(t / -(Int.gcd t b:Int),b / -(Int.gcd t b:Int)) else(t / (Int.gcd t b:Int),b / (Int.gcd t b:Int))
structure Low(p q:Int):Prop where
 pos:0<q
 cop:Int.gcd p q=1
theorem zpH{t b:Int}(h:0<b):fr t b=(t / (Int.gcd t b:Int),b / (Int.gcd t b:Int)):=by
 unfold fr
 rw [if_neg (by omega)]
end Q1
namespace Q1
end Q1
namespace QR
open Q1
theorem low(r:Rat):Low r.num r.den:=⟨by have:=r.den_nz;omega,by
 have:=r.reduced
 unfold Nat.Coprime at this
 show Nat.gcd r.num.natAbs (r.den:Int).natAbs=1
 simpa using this⟩
theorem zvQ(t:Int)(d:Nat):(Int.gcd t (d:Int))=Nat.gcd t.natAbs d:=by
 show Nat.gcd t.natAbs (d:Int).natAbs=_
 simp
theorem norm{t:Int}{d:Nat}(h:d≠0):fr t (d:Int)=((Rat.normalize t d h).num,((Rat.normalize t d h).den:Int)):=by
 rw [zpH (by omega),Rat.normalize_eq,zvQ]
 simp
def Bd(n:Nat)(r:Rat):Prop:=r.num.natAbs<2^n/\r.den<2^n
theorem zuz(t b:Int):(fr t b).1.natAbs<=t.natAbs/\(fr t b).2.natAbs<=b.natAbs:=by
 unfold fr
 split
 ·exact⟨Int.natAbs_ediv_le_natAbs _ _,Int.natAbs_ediv_le_natAbs _ _⟩
 ·exact⟨Int.natAbs_ediv_le_natAbs _ _,Int.natAbs_ediv_le_natAbs _ _⟩
def part(xs ys:List Rat):Nat->Rat
 | 0=>0
 | i+1=>part xs ys i+xs.getD i 0*ys.getD i 0
end QR
namespace KC
open PySem L2 PySem.Spec PyProof.Rows
structure Blt(mg:Str->Option Value):Prop where
 zli:mg "abs"=none
 zaC:mg "isinstance"=none
 zmI:mg "int"=none
 zky:mg "bool"=none
 zcS:mg "tuple"=none
 zgJ:mg "len"=none
 zoC:mg "all"=none
 ziH:mg "list"=none
 zez:mg "range"=none
 zqQ:mg "zip"=none
 zcT:mg "enumerate"=none
namespace Bt
theorem isinstance:bootBuiltins "isinstance"=some (.builtin "isinstance"):=by decide +kernel
end Bt
def isInt:PyData->Bool
 | .int _ | .bool _=>true|_=>false
def zdd(T c:String):Option Bool:=if(Value.type T==Value.type c)=true then some true else if PySem.W.kitMeta c=true then(fastBuiltinMro T).map (·.contains (.type c)) else none
end KC
namespace KC
open PySem L2 PySem.Spec PyProof.Rows
end KC
namespace KC
open PySem L2 PySem.Spec PyProof.Rows
end KC
namespace FL
theorem zz0 {α:Type} {a:α} {l:List α}:(a::l)[0]?=some a:=rfl
theorem zz1 {α:Type} {a:α} {l:List α} {i:Nat}:(a::l)[i + 1]?=l[i]?:=rfl
open PySem
abbrev D:=PyData
inductive R(α:Type) where
 | bad
 | err(c:String)(fs:List D)
 | ok(a:α)
def R.bind{α β:Type}(r:R α)(k:α->R β):R β:=match r with
 | .bad=>.bad
 | .err c f=>.err c f
 | .ok a=>k a
theorem zaa{α β:Type}(a:α)(k:α->R β):(R.ok a).bind k=k a:=rfl
theorem zbR{α β:Type}(k:α->R β):(R.bad:R α).bind k=.bad:=rfl
theorem zbQ{α β:Type}(c:String)(f:List D)(k:α->R β):(R.err c f:R α).bind k=.err c f:=rfl
def chk{α:Type}(c:Bool)(r:R α):R α:=if c=true then r else .bad
theorem zah{α:Type}{c:Bool}{r:R α}(h:c=true):chk c r=r:=if_pos h
inductive Sl where
 | no
 | val(d:D)
 | ow(p:Bool)(d:D)
abbrev En:=List Sl
inductive Fl where
 | nx|bk|ct
 | rt(d:D)
 | rf(d:D)
abbrev EF:=En->R (D×En)
abbrev TF:=En->R (Bool×En)
abbrev AF:=En->R (List D×En)
abbrev SF:=En->R (Fl×En)
abbrev GF:=D->En->R En
def tyOf:D->String
 | .none=>"NoneType" | .bool _=>"bool" | .int _=>"int" | .str _=>"str" | .list _=>"list" | .tuple _=>"tuple" | .dict _=>"dict"
def isI(T:String)(d:D):Bool:=match d with
 | .bool _=>T == "bool" || T == "int"
 | d=>tyOf d==T
def lim:Nat:=1000000
def intsOf:List D->Option (List Int)
 | []=>some []
 | .int i::r=>(intsOf r).map (i::·)
 | _::_=>none
def boolsOf:List D->Option (List Bool)
 | []=>some []
 | .bool i::r=>(boolsOf r).map (i::·)
 | _::_=>none
def R.of{α:Type}:Option α->R α
 | none=>.bad
 | some a=>.ok a
def leB(a b:Nat):Bool:=Nat.ble a b
theorem leB_iff{a b:Nat}:leB a b=true↔a<=b:=Iff.of_eq Nat.ble_eq
theorem zdj{a b:Nat}(h:a<=b):leB a b=true:=leB_iff.mpr h
theorem zbK{a b:Nat}(h:leB a b=true):a<=b:=leB_iff.mp h
def zmK(i j:Int):Bool:=leB (i.natAbs.log2+j.natAbs.log2+2) 134217728
def zbk:D->D->R D
 | .int i,.int j=>.ok (.int (i+j))
 | .list a,.list b=>chk (leB (a.length+b.length) lim) (.ok (.list (a++b)))
 | .tuple a,.tuple b=>chk (leB (a.length+b.length) lim) (.ok (.tuple (a++b)))
 | _,_=>.bad
def zfh:D->D->R D
 | .int i,.int j=>.ok (.int (i-j))
 | _,_=>.bad
def zfj:D->D->R D
 | .int i,.int j=>chk (zmK i j) (.ok (.int (i*j)))
 | .tuple a,.int k=>chk (!a.isEmpty&&leB 2 k.toNat&&leB k.toNat 1000000&&leB (a.length*k.toNat) lim) (.ok (.tuple (List.replicate k.toNat a).flatten))
 | _,_=>.bad
def zeJ:D->D->R D
 | .int i,.int j=>chk (decide (j≠0)) (.ok (.int (i.fdiv j)))
 | _,_=>.bad
def zhb:D->D->R D
 | .int i,.int j=>chk (decide (j≠0)) (.ok (.int (i.fmod j)))
 | _,_=>.bad
def zew:D->D->R D
 | .int i,.int j=>chk (decide (0<=j)&&leB j.toNat 1000000&&leB i.natAbs 18446744073709551615) (.ok (.int (i^j.toNat)))
 | _,_=>.bad
def zpp:D->R D
 | .int i=>.ok (.int (-i))
 | _=>.bad
def eqD(a b:D):R D:=chk (SeqAt.shaped a&&SeqAt.shaped b) (.ok (.bool (PyData.eqv a b)))
def neD(a b:D):R D:=chk (SeqAt.shaped a&&SeqAt.shaped b) (.ok (.bool (!PyData.eqv a b)))
def lexLt:List Int->List Int->Bool
 | [],[]=>false
 | [],_::_=>true
 | _::_,[]=>false
 | x::xs,y::ys=>if x=y then lexLt xs ys else decide (x<y)
def lexLe:List Int->List Int->Bool
 | [],[]=>true
 | [],_::_=>true
 | _::_,[]=>false
 | x::xs,y::ys=>if x=y then lexLe xs ys else decide (x<=y)
def zeC:List Int->List Int->Bool
 | [],[]=>false
 | [],_::_=>false
 | _::_,[]=>true
 | x::xs,y::ys=>if x=y then zeC xs ys else decide (y<x)
def zeD:List Int->List Int->Bool
 | [],[]=>true
 | [],_::_=>false
 | _::_,[]=>true
 | x::xs,y::ys=>if x=y then zeD xs ys else decide (y<=x)
def ztj(p:Int->Int->Bool)(q:List Int->List Int->Bool):D->D->R D
 | .int i,.int j=>.ok (.bool (p i j))
 | .tuple a,.tuple b=>(R.of (intsOf a)).bind fun x=>(R.of (intsOf b)).bind fun y=>.ok (.bool (q x y))
 | _,_=>.bad
def ltD:D->D->R D:=ztj (fun i j=>decide (i<j)) lexLt
def leD:D->D->R D:=ztj (fun i j=>decide (i<=j)) lexLe
def gtD:D->D->R D:=ztj (fun i j=>decide (j<i)) zeC
def geD:D->D->R D:=ztj (fun i j=>decide (j<=i)) zeD
def zvO:D->R D
 | .none=>.ok (.bool true)
 | _=>.ok (.bool false)
def isD(a b:D):R D:=match b with
 | .none=>zvO a
 | _=>.bad
def ixN(n:Nat)(i:Int):Option Nat:=if 0<=i then(if i<n then some i.toNat else none) else if -(n:Int)<=i then some (i+n).toNat else none
def atI{α:Type}(xs:List α)(i:Int):Option α:=(ixN xs.length i).bind fun j=>xs[j]?
def ixD:D->D->R D
 | .list a,.int i=>R.of (atI a i)
 | .tuple a,.int i=>R.of (atI a i)
 | _,_=>.bad
def sIx(n d:Nat):Option Int->Nat
 | none=>d
 | some v=>if v<0 then(v+(n:Int)).toNat else min v.toNat n
def cut{α:Type}(xs:List α)(lo hi:Option Int):List α:=(xs.drop (sIx xs.length 0 lo)).take (sIx xs.length xs.length hi-sIx xs.length 0 lo)
def zcn(d:D)(lo hi:Option Int):R D:=match d with
 | .list a=>.ok (.list (cut a lo hi))
 | .tuple a=>.ok (.tuple (cut a lo hi))
 | _=>.bad
def zep:D->R Bool
 | .none=>.ok false
 | .bool b=>.ok b
 | .int i=>.ok (i != 0)
 | .list a=>.ok (!a.isEmpty)
 | .tuple a=>.ok (!a.isEmpty)
 | _=>.bad
def zdY:D->R D
 | .list a=>.ok (.int a.length)
 | .tuple a=>.ok (.int a.length)
 | _=>.bad
def znB:D->R D
 | .int i=>.ok (.int (if i<0 then -i else i))
 | _=>.bad
def ztv:D->R D
 | .list a=>(R.of (boolsOf a)).bind fun x=>.ok (.bool (x.all id))
 | _=>.bad
def zeB:D->R D
 | .list a=>.ok (.list a)
 | .tuple a=>.ok (.list a)
 | _=>.bad
def zcm:D->R D
 | .list a=>.ok (.tuple a)
 | .tuple a=>.ok (.tuple a)
 | _=>.bad
def zuR(d:D):Bool:=match d with
 | .dict _=>false
 | _=>true
def zcq(T:String)(d:D):R D:=chk (zuR d) (.ok (.bool (isI T d)))
def one(g:D->R D):List D->R D
 | [d]=>g d
 | _=>.bad
def two(g:D->D->R D):List D->R D
 | [d,e]=>g d e
 | _=>.bad
def zcC:D->R (List D)
 | .list a=>.ok a
 | .tuple a=>.ok a
 | _=>.bad
def rng(lo hi:Int):List D:=(List.range (hi-lo).toNat).map fun(i:Nat)=>.int (lo+(i:Int))
def zk9(i:Int):Bool:=leB i.natAbs 1000000000
def zcG:List D->R (List D)
 | [.int j]=>chk (zk9 j&&leB j.toNat lim) (.ok (rng 0 j))
 | _=>.bad
def zes:List D->R (List D)
 | [.int i,.int j]=>chk (zk9 i&&zk9 j&&leB (j-i).toNat lim) (.ok (rng i j))
 | _=>.bad
def eC(d:D):EF:=fun ρ=>.ok (d,ρ)
def eV(i:Nat):EF:=fun ρ=>match ρ[i]? with
 | some (.val d)=>.ok (d,ρ)
 | _=>.bad
def e1(g:D->R D)(f:EF):EF:=fun ρ=>(f ρ).bind fun x=>(g x.1).bind fun d=>.ok (d,x.2)
def e2(g:D->D->R D)(f h:EF):EF:=fun ρ=>(f ρ).bind fun x=>(h x.2).bind fun y=>(g x.1 y.1).bind fun d=>.ok (d,y.2)
def zlH(f h:EF):EF:=fun ρ=>(f ρ).bind fun x=>match x.1 with
 | .bool true=>h x.2
 | .bool false=>.ok (.bool false,x.2)
 | _=>.bad
def eOr(f h:EF):EF:=fun ρ=>(f ρ).bind fun x=>match x.1 with
 | .bool true=>.ok (.bool true,x.2)
 | .bool false=>h x.2
 | _=>.bad
def zlF(f:EF):EF:=fun ρ=>(f ρ).bind fun x=>match x.1 with
 | .bool b=>.ok (.bool (!b),x.2)
 | _=>.bad
def eIf(t:TF)(f h:EF):EF:=fun ρ=>(t ρ).bind fun c=>if c.1=true then f c.2 else h c.2
def zct(g h:D->D->R D)(f1 f2 f3:EF):EF:=fun ρ=>(f1 ρ).bind fun x=>(f2 x.2).bind fun y=>(g x.1 y.1).bind fun c=>match c with
 | .bool true=>(f3 y.2).bind fun z=>(h y.1 z.1).bind fun d=>.ok (d,z.2)
 | .bool false=>.ok (.bool false,y.2)
 | _=>.bad
def zal:AF:=fun ρ=>.ok ([],ρ)
def zac(f:EF)(a:AF):AF:=fun ρ=>(f ρ).bind fun x=>(a x.2).bind fun y=>.ok (x.1::y.1,y.2)
def zb3(a:AF):EF:=fun ρ=>(a ρ).bind fun x=>chk (leB x.1.length lim) (.ok (.tuple x.1,x.2))
def zc8(a:AF):EF:=fun ρ=>(a ρ).bind fun x=>chk (leB x.1.length lim) (.ok (.list x.1,x.2))
def zai(G:List D->R D)(a:AF):EF:=fun ρ=>(a ρ).bind fun x=>(G x.1).bind fun d=>.ok (d,x.2)
abbrev OF:=En->R (Option Int×En)
def zey:OF:=fun ρ=>.ok (none,ρ)
def zex(f:EF):OF:=fun ρ=>(f ρ).bind fun x=>match x.1 with
 | .int i=>.ok (some i,x.2)
 | _=>.bad
def eSl(f:EF)(lo hi:OF):EF:=fun ρ=>(f ρ).bind fun x=>(lo x.2).bind fun l=>(hi l.2).bind fun u=>(zcn x.1 l.1 u.1).bind fun d=>.ok (d,u.2)
def zau(ρ:En)(i:Nat):R D:=match ρ[i]? with
 | some (.ow _ d)=>.ok d
 | _=>.bad
def zbr(ρ:En)(i:Nat):R (List D):=match ρ[i]? with
 | some (.ow _ (.list a))=>.ok a
 | _=>.bad
def m1(g:D->R D)(i:Nat):EF:=fun ρ=>(zau ρ i).bind fun c=>(g c).bind fun d=>.ok (d,ρ)
def m2(g:D->D->R D)(i:Nat)(h:EF):EF:=fun ρ=>(zau ρ i).bind fun _=>(h ρ).bind fun y=>(zau y.2 i).bind fun c=>(g c y.1).bind fun d=>.ok (d,y.2)
def m2r(g:D->D->R D)(f:EF)(i:Nat):EF:=fun ρ=>(f ρ).bind fun x=>(zau x.2 i).bind fun c=>(g x.1 c).bind fun d=>.ok (d,x.2)
def m2m(g:D->D->R D)(i j:Nat):EF:=fun ρ=>(zau ρ i).bind fun c=>(zau ρ j).bind fun e=>(g c e).bind fun d=>.ok (d,ρ)
def mSl(i:Nat)(lo hi:OF):EF:=fun ρ=>(zau ρ i).bind fun _=>(lo ρ).bind fun l=>(hi l.2).bind fun u=>(zau u.2 i).bind fun c=>(zcn c l.1 u.1).bind fun d=>.ok (d,u.2)
def zgK(g:D->D->R D)(i:Nat)(h:EF):EF:=fun ρ=>(zau ρ i).bind fun _=>(h ρ).bind fun y=>(zau y.2 i).bind fun c=>(g (.list [c]) y.1).bind fun d=>.ok (d,y.2)
inductive Ar where
 | v(f:EF)
 | m(i:Nat)
 | t(f:EF)
inductive Itm where
 | vd(d:D)
 | mi(i:Nat)
 | td(d:D)
def zgA:List Ar->En->R (List Itm×En)
 | [],ρ=>.ok ([],ρ)
 | .v f::r,ρ=>(f ρ).bind fun x=>(zgA r x.2).bind fun y=>.ok (.vd x.1::y.1,y.2)
 | .m i::r,ρ=>(zau ρ i).bind fun _=>(zgA r ρ).bind fun y=>.ok (.mi i::y.1,y.2)
 | .t f::r,ρ=>(f ρ).bind fun x=>(zgA r x.2).bind fun y=>.ok (.td x.1::y.1,y.2)
def zfq(ρ:En):List Itm->R (List D)
 | []=>.ok []
 | .vd d::r=>(zfq ρ r).bind fun ds=>.ok (d::ds)
 | .mi i::r=>(zau ρ i).bind fun d=>(zfq ρ r).bind fun ds=>.ok (d::ds)
 | .td d::r=>(zfq ρ r).bind fun ds=>.ok (d::ds)
def zaO(ρ:En)(i:Nat)(d:D):En:=match ρ[i]? with
 | some (.ow p _)=>ρ.set i (.ow p d)
 | _=>ρ
def zfp:List Itm->List D->List (Nat×Sl)
 | .mi i::r,d::ds=>(i,.ow true d)::zfp r ds
 | .vd _::r,_::ds=>zfp r ds
 | .td _::r,_::ds=>zfp r ds
 | _,_=>[]
def bk1(m:List (Nat×Sl))(i:Nat)(x:Sl):Sl:=match x,m.lookup i with
 | .ow p _,some (.ow _ d)=>.ow p d
 | x,_=>x
def bkL(m:List (Nat×Sl)):Nat->En->En
 | _,[]=>[]
 | n,x::r=>bk1 m n x::bkL m (n+1) r
def zeN(ρ:En)(a:List Itm)(os:List D):En:=bkL (zfp a os) 0 ρ
def zam(F:List D->R (D×List D))(a:List Ar):EF:=fun ρ=>(zgA a ρ).bind fun x=>(zfq x.2 x.1).bind fun ds=>(F ds).bind fun y=>.ok (y.1,zeN x.2 x.1 y.2)
def tE(f:EF):TF:=fun ρ=>(f ρ).bind fun x=>(zep x.1).bind fun b=>.ok (b,x.2)
def tB(f:EF):TF:=fun ρ=>(f ρ).bind fun x=>match x.1 with
 | .bool b=>.ok (b,x.2)
 | _=>.bad
def ze1(t u:TF):TF:=fun ρ=>(t ρ).bind fun c=>if c.1=true then u c.2 else .ok (false,c.2)
def tOr(t u:TF):TF:=fun ρ=>(t ρ).bind fun c=>if c.1=true then .ok (true,c.2) else u c.2
def zbV(t:TF):TF:=fun ρ=>(t ρ).bind fun c=>.ok (!c.1,c.2)
def tM(i:Nat):TF:=fun ρ=>(zau ρ i).bind fun c=>(zep c).bind fun b=>.ok (b,ρ)
def zb0:TF:=fun ρ=>.ok (true,ρ)
abbrev IF:=En->R (List D×En)
def iE(f:EF):IF:=fun ρ=>(f ρ).bind fun x=>(zcC x.1).bind fun l=>.ok (l,x.2)
def iR1(a:AF):IF:=fun ρ=>(a ρ).bind fun x=>(zcG x.1).bind fun l=>.ok (l,x.2)
def iR2(a:AF):IF:=fun ρ=>(a ρ).bind fun x=>(zes x.1).bind fun l=>.ok (l,x.2)
def zfn:Nat->List D->List D
 | _,[]=>[]
 | n,d::r=>.tuple [.int n,d]::zfn (n+1) r
def gN(i:Nat):GF:=fun d ρ=>match ρ[i]? with
 | some (.ow true _)=>.bad
 | some _=>.ok (ρ.set i (.val d))
 | none=>.bad
def zh5:List GF->List D->En->R En
 | [],[],ρ=>.ok ρ
 | g::r,d::ds,ρ=>(g d ρ).bind fun ρ1=>zh5 r ds ρ1
 | _,_,_=>.bad
def gT(gs:List GF):GF:=fun d ρ=>match d with
 | .tuple ds=>zh5 gs ds ρ
 | _=>.bad
def blk(k:Nat)(ix:List Nat)(ρ:En):En:=List.replicate k .no++ix.map fun i=>(ρ[i]?).getD .no
def back(ρ:En)(ix:List Nat)(cs:En):En:=bkL (ix.zip cs) 0 ρ
def zeg(k:Nat)(ix:List Nat)(g:GF)(t:TF)(f:EF):List D->En->List D->R (List D×En)
 | [],ρ,acc=>.ok (acc,ρ)
 | x::xs,ρ,acc=>(g x (blk k ix ρ)).bind fun β=>(t β).bind fun c =>
   if c.1=true then(f c.2).bind fun y=>chk (leB (acc.length+1) lim) (zeg k ix g t f xs (back ρ ix (y.2.drop k)) (acc++[y.1]))
   else zeg k ix g t f xs (back ρ ix (c.2.drop k)) acc
def zcs(k:Nat)(ix:List Nat)(it:IF)(g:GF)(t:TF)(f:EF):EF:=fun ρ=>(it ρ).bind fun x=>(zeg k ix g t f x.1 x.2 []).bind fun y=>.ok (.list y.1,y.2)
def sNx:SF:=fun ρ=>.ok (.nx,ρ)
def zav(s t:SF):SF:=fun ρ=>(s ρ).bind fun x=>match x.1 with
 | .nx=>t x.2
 | _=>.ok x
def sE(f:EF):SF:=fun ρ=>(f ρ).bind fun x=>.ok (.nx,x.2)
def zba(g:GF)(f:EF):SF:=fun ρ=>(f ρ).bind fun x=>(g x.1 x.2).bind fun ρ1=>.ok (.nx,ρ1)
def zdw(i:Nat)(f:EF):SF:=fun ρ=>(f ρ).bind fun x=>match x.2[i]? with
 | some (.ow true _)=>.bad
 | some _=>.ok (.nx,x.2.set i (.ow false x.1))
 | none=>.bad
def zd4(i:Nat)(s:SF):SF:=fun ρ=>(s ρ).bind fun x=>match x.1 with
 | .nx=>(match x.2[i]? with
  | some (.ow false d)=>.ok (.nx,x.2.set i (.val d))
  | _=>.bad)
 | _=>.ok x
def ze3(i j:Nat)(f h:EF):SF:=fun ρ=>(f ρ).bind fun x=>(h x.2).bind fun y=>(gN i x.1 y.2).bind fun ρ1=>(gN j y.1 ρ1).bind fun ρ2=>.ok (.nx,ρ2)
def znN(f n:EF):EF:=fun ρ=>(f ρ).bind fun x=>(n x.2).bind fun y=>match y.1 with
 | .int k=>chk (decide (0<=k)&&leB k.toNat 1000000) (.ok (.list (List.replicate k.toNat x.1),y.2))
 | _=>.bad
def zgy(i:Nat)(s:SF):SF:=fun ρ=>match ρ[i]? with
 | some (.ow false d)=>s (ρ.set i (.val d))
 | _=>.bad
def zaw(f:EF):SF:=fun ρ=>(f ρ).bind fun x=>.ok (.rt x.1,x.2)
def zbt(f:EF):SF:=fun ρ=>(f ρ).bind fun x=>.ok (.rf x.1,x.2)
def zgG(i:Nat):SF:=fun ρ=>match ρ[i]? with
 | some (.ow false d)=>.ok (.rf d,ρ)
 | _=>.bad
def zgF:SF:=fun ρ=>.ok (.rt .none,ρ)
def sIf(t:TF)(a b:SF):SF:=fun ρ=>(t ρ).bind fun c=>if c.1=true then a c.2 else b c.2
def zlV:SF:=fun _=>.bad
def znK:SF:=fun ρ=>.ok (.bk,ρ)
def znJ:SF:=fun ρ=>.ok (.ct,ρ)
def forL(g:GF)(b:SF):List D->En->R (Fl×En)
 | [],ρ=>.ok (.nx,ρ)
 | x::xs,ρ=>(g x ρ).bind fun ρ1=>(b ρ1).bind fun y=>match y.1 with
  | .nx | .ct=>forL g b xs y.2
  | .bk=>.ok (.nx,y.2)
  | .rt d=>.ok (.rt d,y.2)
  | .rf d=>.ok (.rf d,y.2)
def zgz(it:IF)(g:GF)(b:SF):SF:=fun ρ=>(it ρ).bind fun x=>forL g b x.1 x.2
def zfE(t:TF)(b:SF):Nat->En->R (Fl×En)
 | 0,_=>.bad
 | n+1,ρ=>(t ρ).bind fun c=>if c.1=true then(b c.2).bind fun y=>match y.1 with
   | .nx | .ct=>zfE t b n y.2
   | .bk=>.ok (.nx,y.2)
   | .rt d=>.ok (.rt d,y.2)
   | .rf d=>.ok (.rf d,y.2)
  else .ok (.nx,c.2)
def zfI(fuel:En->Nat)(t:TF)(b:SF):SF:=fun ρ=>zfE t b (fuel ρ) ρ
def zji(i:Nat)(u:List D->D->R (List D))(f:EF):SF:=fun ρ=>(zbr ρ i).bind fun _=>(f ρ).bind fun x=>(zbr x.2 i).bind fun c=>(u c x.1).bind fun c'=>.ok (.nx,zaO x.2 i (.list c'))
def zjk(a:List D)(d:D):R (List D):=chk (leB (a.length+1) lim) (.ok (a++[d]))
def zgC(i:Nat)(u:List D->R (List D)):SF:=fun ρ=>(zbr ρ i).bind fun c=>(u c).bind fun c'=>.ok (.nx,zaO ρ i (.list c'))
def setM(i:Nat)(f k:EF):SF:=fun ρ=>(f ρ).bind fun x=>(zbr x.2 i).bind fun _=>(k x.2).bind fun y=>(zbr y.2 i).bind fun c=>match y.1 with
 | .int j=>(R.of (ixN c.length j)).bind fun n=>.ok (.nx,zaO y.2 i (.list (c.set n x.1)))
 | _=>.bad
def slots:List Bool->List D->En
 | m::ms,d::ds=>(if m=true then .ow true d else .val d)::slots ms ds
 | _,_=>[]
def outD(m:Bool)(d:D)(x:Option Sl):D:=match m,x with
 | true,some (.ow _ d')=>d'
 | _,_=>d
def outs:List Bool->List D->En->List D
 | m::ms,d::ds,ρ=>outD m d ρ.head?::outs ms ds ρ.tail
 | _,_,_=>[]
def run(ms:List Bool)(fr:Bool)(n:Nat)(b:SF)(ds:List D):R (D×List D) :=
 if ds.length=ms.length then(b (slots ms ds++List.replicate (n-ds.length) .no)).bind fun x=>match x.1,fr with
  | .rt d,false=>.ok (d,outs ms ds x.2)
  | .rf d,true=>.ok (d,outs ms ds x.2)
  | .nx,false=>.ok (.none,outs ms ds x.2)
  | _,_=>.bad
 else .bad
def zbE(fr:Bool)(k n:Nat)(b:SF)(ds:List D):R D:=(run (List.replicate k false) fr n b ds).bind fun x=>.ok x.1
end FL
namespace FL
open PySem L2 PySem.Spec
open PyProof.Rows hiding St
class Cs where
 C:Hp
 st:∀ a u,C a=some u->∃ o xs,u=.frz o (.tup xs)
def FzL(K:PySem.W.Frag)(H:Hp)(a:Addr)(xs:List V):Prop:=(∃ o,H a=some (.frz o (.lst xs))) \/
 ∃(o:Obj) (its:Array Value) (n:Nat),K.lookup a=some o/\o.cls=.type "list"/\o.dict=none/\o.data=.seq its n/\its.size<=sizeLine/\Vals xs its.toList
def kD:Key->PyData
 | .inl i=>.int i
 | .inr x=>.str x
def zoO(k:List Key):PyData:=.tuple (k.map kD)
mutual
def Fz(K:PySem.W.Frag)(H:Hp):PyData->V->Prop
 | .none,v=>v=.non
 | .bool b,v=>v=.bl b
 | .int i,v=>v=.int i
 | .str x,v=>v=.str x
 | .list xs,v=>∃ a vs,v=.ref a/\FzL K H a vs/\zaf K H xs vs
 | .tuple xs,v=>∃ a vs,v=.ref a/\TAt H a vs/\zaf K H xs vs
 | .dict kvs,v=>∃ a o,v=.ref a/\((∃ kk,H a=some (.frz o (.dT kk))/\zcw K H kvs kk)\/∃ kk,H a=some (.frz o (.dK kk))/\zcx K H kvs kk)
def zaf(K:PySem.W.Frag)(H:Hp):List PyData->List V->Prop
 | [],vs=>vs=[]
 | d::ds,vs=>∃ v r,vs=v::r/\Fz K H d v/\zaf K H ds r
def zcw(K:PySem.W.Frag)(H:Hp):List (PyData×PyData)->List (List Key×V)->Prop
 | [],kk=>kk=[]
 | (k,d)::r,kk=>∃ q v t,kk=(q,v)::t/\k=zoO q/\Fz K H d v/\zcw K H r t
def zcx(K:PySem.W.Frag)(H:Hp):List (PyData×PyData)->List (Key×V)->Prop
 | [],kk=>kk=[]
 | (k,d)::r,kk=>∃ q v t,kk=(q,v)::t/\k=kD q/\Fz K H d v/\zcx K H r t
end
def zuO:HO->Prop
 | .tup _=>True
 | .frz _ _=>True
 | _=>False
def Fzn(H H':Hp):Prop:=∀ a o,H a=some o->zuO o->H' a=some o
theorem Fzn.refl(H:Hp):Fzn H H:=fun _ _ h _=>h
theorem Fzn.trans{H H1 H2:Hp}(a:Fzn H H1)(b:Fzn H1 H2):Fzn H H2:=fun c o h s=>b c o (a c o h s) s
theorem Fzn.of{H H':Hp}(s:zaE H H'):Fzn H H':=fun a o h _=>s a o h
section
variable {K:PySem.W.Frag}{H H':Hp}
theorem Fzn.ztB{a:Addr}{xs:List V}(e:Fzn H H')(h:TAt H a xs):TAt H' a xs:=by
 rcases h with h|⟨o,h⟩
 ·exact .inl (e _ _ h trivial)
 ·exact .inr ⟨o,e _ _ h trivial⟩
theorem Fzn.zp6{a:Addr}{xs:List V}(e:Fzn H H')(h:FzL K H a xs):FzL K H' a xs:=by
 rcases h with⟨o,h⟩|h
 ·exact .inl ⟨o,e _ _ h trivial⟩
 ·exact .inr h
theorem FzL.sq{a:Addr}{xs:List V}(h:FzL K H a xs):SqL K H a xs:=by
 rcases h with⟨o,h⟩|h
 ·exact .inl (.inr ⟨o,h⟩)
 ·exact .inr h
mutual
theorem Fz.mono(e:Fzn H H'):∀(d:PyData) (v:V),Fz K H d v->Fz K H' d v
 | .none,v,h=>by simp only [Fz] at h ⊢;exact h
 | .bool b,v,h=>by simp only [Fz] at h ⊢;exact h
 | .int i,v,h=>by simp only [Fz] at h ⊢;exact h
 | .str x,v,h=>by simp only [Fz] at h ⊢;exact h
 | .list xs,v,h=>by
  simp only [Fz] at h ⊢
  obtain⟨a,vs,e1,h1,h2⟩:=h
  exact⟨a,vs,e1,e.zp6 h1,zaf.mono e xs vs h2⟩
 | .tuple xs,v,h=>by
  simp only [Fz] at h ⊢
  obtain⟨a,vs,e1,h1,h2⟩:=h
  exact⟨a,vs,e1,e.ztB h1,zaf.mono e xs vs h2⟩
 | .dict kvs,v,h=>by
  simp only [Fz] at h ⊢
  obtain⟨a,o,e1,h⟩:=h
  rcases h with⟨kk,h1,h2⟩|⟨kk,h1,h2⟩
  ·exact⟨a,o,e1,.inl ⟨kk,e _ _ h1 trivial,zcw.mono e kvs kk h2⟩⟩
  ·exact⟨a,o,e1,.inr ⟨kk,e _ _ h1 trivial,zcx.mono e kvs kk h2⟩⟩
theorem zaf.mono(e:Fzn H H'):∀(ds:List PyData) (vs:List V),zaf K H ds vs->zaf K H' ds vs
 | [],vs,h=>by simp only [zaf] at h ⊢;exact h
 | d::ds,vs,h=>by
  simp only [zaf] at h ⊢
  obtain⟨v,r,e1,h1,h2⟩:=h
  exact⟨v,r,e1,Fz.mono e d v h1,zaf.mono e ds r h2⟩
theorem zcw.mono(e:Fzn H H'):∀(kvs:List (PyData×PyData)) (kk:List (List Key×V)),zcw K H kvs kk->zcw K H' kvs kk
 | [],kk,h=>by simp only [zcw] at h ⊢;exact h
 | (k,d)::r,kk,h=>by
  simp only [zcw] at h ⊢
  obtain⟨q,v,t,e1,e2,h1,h2⟩:=h
  exact⟨q,v,t,e1,e2,Fz.mono e d v h1,zcw.mono e r t h2⟩
theorem zcx.mono(e:Fzn H H'):∀(kvs:List (PyData×PyData)) (kk:List (Key×V)),zcx K H kvs kk->zcx K H' kvs kk
 | [],kk,h=>by simp only [zcx] at h ⊢;exact h
 | (k,d)::r,kk,h=>by
  simp only [zcx] at h ⊢
  obtain⟨q,v,t,e1,e2,h1,h2⟩:=h
  exact⟨q,v,t,e1,e2,Fz.mono e d v h1,zcx.mono e r t h2⟩
end
theorem zaf.len:∀{ds:List PyData} {vs:List V},zaf K H ds vs->vs.length=ds.length
 | [],vs,h=>by simp only [zaf] at h;subst h;rfl
 | d::ds,vs,h=>by
  simp only [zaf] at h
  obtain⟨v,r,rfl,_,h2⟩:=h
  simp [zaf.len h2]
theorem zaf.get:∀{ds:List PyData} {vs:List V} {i:Nat} {d:PyData},zaf K H ds vs->ds[i]?=some d->∃ v,vs[i]?=some v/\Fz K H d v
 | [],vs,i,d,h,e=>by simp at e
 | d0::ds,vs,i,d,h,e=>by
  simp only [zaf] at h
  obtain⟨v,r,rfl,h1,h2⟩:=h
  cases i with
  | zero=>simp at e;subst e;exact⟨v,by simp,h1⟩
  | succ i =>
   obtain⟨w,e1,f⟩:=zaf.get h2 (by simpa using e)
   exact⟨w,by simpa using e1,f⟩
theorem zaf.app:∀{ds es:List PyData} {vs ws:List V},zaf K H ds vs->zaf K H es ws->zaf K H (ds++es) (vs++ws)
 | [],es,vs,ws,h,g=>by simp only [zaf] at h;subst h;exact g
 | d::ds,es,vs,ws,h,g=>by
  simp only [zaf] at h
  obtain⟨v,r,rfl,h1,h2⟩:=h
  simp only [List.cons_append,zaf]
  exact⟨v,r++ws,rfl,h1,zaf.app h2 g⟩
theorem zaf.take:∀{ds:List PyData} {vs:List V} (n:Nat),zaf K H ds vs->zaf K H (ds.take n) (vs.take n)
 | ds,vs,0,h=>by simp [zaf]
 | [],vs,n+1,h=>by simp only [zaf] at h;subst h;simp [zaf]
 | d::ds,vs,n+1,h=>by
  simp only [zaf] at h
  obtain⟨v,r,rfl,h1,h2⟩:=h
  simp only [List.take_succ_cons,zaf]
  exact⟨v,_,rfl,h1,zaf.take n h2⟩
theorem zaf.drop:∀{ds:List PyData} {vs:List V} (n:Nat),zaf K H ds vs->zaf K H (ds.drop n) (vs.drop n)
 | ds,vs,0,h=>by simpa using h
 | [],vs,n+1,h=>by simp only [zaf] at h;subst h;simp [zaf]
 | d::ds,vs,n+1,h=>by
  simp only [zaf] at h
  obtain⟨v,r,rfl,h1,h2⟩:=h
  simpa using zaf.drop n h2
theorem zaf.set:∀{ds:List PyData} {vs:List V} {d:PyData} {v:V} (n:Nat),zaf K H ds vs->Fz K H d v->zaf K H (ds.set n d) (vs.set n v)
 | [],vs,d,v,n,h,f=>by simp only [zaf] at h;subst h;simp [zaf]
 | d0::ds,vs,d,v,n,h,f=>by
  simp only [zaf] at h
  obtain⟨v0,r,rfl,h1,h2⟩:=h
  cases n with
  | zero=>simp only [List.set_cons_zero,zaf];exact⟨v,r,rfl,f,h2⟩
  | succ n=>simp only [List.set_cons_succ,zaf];exact⟨v0,_,rfl,h1,zaf.set n h2 f⟩
theorem zaf.rep{ds:List PyData}{vs:List V}(h:zaf K H ds vs):∀ k:Nat,zaf K H (List.replicate k ds).flatten (List.replicate k vs).flatten
 | 0=>by simp [zaf]
 | k+1=>by simp only [List.replicate_succ,List.flatten_cons];exact zaf.app h (zaf.rep h k)
theorem zaf.ints:∀{ds:List PyData} {vs:List V} {ns:List Int},zaf K H ds vs->intsOf ds=some ns->vs=ns.map V.int/\ds=ns.map PyData.int
 | [],vs,ns,h,e=>by simp only [zaf] at h;simp only [intsOf,Option.some.injEq] at e;subst h;subst e;exact⟨rfl,rfl⟩
 | d::ds,vs,ns,h,e=>by
  simp only [zaf] at h
  obtain⟨v,r,rfl,h1,h2⟩:=h
  cases d with
  | int i =>
   simp only [intsOf,Option.map_eq_some_iff] at e
   obtain⟨ms,e1,rfl⟩:=e
   obtain⟨a,b⟩:=zaf.ints h2 e1
   simp only [Fz] at h1
   subst h1;subst a;subst b
   exact⟨rfl,rfl⟩
  | _=>simp [intsOf] at e
theorem zaf.bools:∀{ds:List PyData} {vs:List V} {ns:List Bool},zaf K H ds vs->boolsOf ds=some ns->vs=ns.map V.bl/\ds=ns.map PyData.bool
 | [],vs,ns,h,e=>by simp only [zaf] at h;simp only [boolsOf,Option.some.injEq] at e;subst h;subst e;exact⟨rfl,rfl⟩
 | d::ds,vs,ns,h,e=>by
  simp only [zaf] at h
  obtain⟨v,r,rfl,h1,h2⟩:=h
  cases d with
  | bool i =>
   simp only [boolsOf,Option.map_eq_some_iff] at e
   obtain⟨ms,e1,rfl⟩:=e
   obtain⟨a,b⟩:=zaf.bools h2 e1
   simp only [Fz] at h1
   subst h1;subst a;subst b
   exact⟨rfl,rfl⟩
  | _=>simp [boolsOf] at e
theorem zaf.ofInts:∀(ns:List Int),zaf K H (ns.map PyData.int) (ns.map V.int)
 | []=>by simp [zaf]
 | i::r=>by simp only [List.map_cons,zaf];exact⟨_,_,rfl,by simp [Fz],zaf.ofInts r⟩
end
def zbF(K:PySem.W.Frag)(H:Hp)(a:Addr):PyData->Prop
 | .list ds=>∃ vs,H a=some (.lst vs)/\zaf K H ds vs
 | .dict kvs=>(∃ kk,H a=some (.dT kk)/\zcw K H kvs kk)\/∃ kk,H a=some (.dK kk)/\zcx K H kvs kk
 | _=>False
def Tp(K:PySem.W.Frag)(H:Hp):PyData->V->Prop
 | .list ds,v=>∃ a vs,v=.ref a/\SqL K H a vs/\zaf K H ds vs
 | .dict kvs,v=>∃ a,v=.ref a/\((∃ kk,Rd H a (.dT kk)/\zcw K H kvs kk)\/∃ kk,Rd H a (.dK kk)/\zcx K H kvs kk)
 | d,v=>Fz K H d v
section
variable {K:PySem.W.Frag}{H H':Hp}
theorem Fz.tp{d:PyData}{v:V}(h:Fz K H d v):Tp K H d v:=by
 cases d with
 | list ds =>
  simp only [Fz] at h
  obtain⟨a,vs,e,h1,h2⟩:=h
  exact⟨a,vs,e,h1.sq,h2⟩
 | dict kvs =>
  simp only [Fz] at h
  obtain⟨a,o,e,h⟩:=h
  rcases h with⟨kk,h1,h2⟩|⟨kk,h1,h2⟩
  ·exact⟨a,e,.inl ⟨kk,.inr ⟨o,h1⟩,h2⟩⟩
  ·exact⟨a,e,.inr ⟨kk,.inr ⟨o,h1⟩,h2⟩⟩
 | _=>exact h
theorem zbF.tp{d:PyData}{a:Addr}(h:zbF K H a d):Tp K H d (.ref a):=by
 cases d with
 | list ds =>
  obtain⟨vs,h1,h2⟩:=h
  exact⟨a,vs,rfl,SqL.of h1,h2⟩
 | dict kvs =>
  rcases h with⟨kk,h1,h2⟩|⟨kk,h1,h2⟩
  ·exact⟨a,rfl,.inl ⟨kk,.inl h1,h2⟩⟩
  ·exact⟨a,rfl,.inr ⟨kk,.inl h1,h2⟩⟩
 | _=>exact h.elim
def Own:HO->Prop
 | .lst _=>True
 | .dT _=>True
 | .dK _=>True
 | _=>False
theorem zbF.own{d:PyData}{a:Addr}(h:zbF K H a d):∃ o,H a=some o/\Own o:=by
 cases d with
 | list ds=>obtain⟨vs,h1,_⟩:=h;exact⟨_,h1,trivial⟩
 | dict kvs =>
  rcases h with⟨kk,h1,h2⟩|⟨kk,h1,h2⟩
  ·exact⟨_,h1,trivial⟩
  ·exact⟨_,h1,trivial⟩
 | _=>exact h.elim
theorem Own.zc6{o:HO}(h:Own o):¬ zuO o:=by cases o <;> first|exact fun z=>z|exact h.elim
theorem zbF.mono{d:PyData}{a:Addr}(e:Fzn H H')(k:H' a=H a)(h:zbF K H a d):zbF K H' a d:=by
 cases d with
 | list ds=>obtain⟨vs,h1,h2⟩:=h;exact⟨vs,by rw [k];exact h1,h2.mono e⟩
 | dict kvs =>
  rcases h with⟨kk,h1,h2⟩|⟨kk,h1,h2⟩
  ·exact .inl ⟨kk,by rw [k];exact h1,h2.mono e⟩
  ·exact .inr ⟨kk,by rw [k];exact h1,h2.mono e⟩
 | _=>exact h.elim
end
def zrk(K:PySem.W.Frag)(H:Hp):Sl->Option V->Prop
 | .no,_=>True
 | .val d,some v=>Fz K H d v
 | .ow _ d,some (.ref a)=>zbF K H a d
 | _,_=>False
def At(ρ:En)(σ:St)(i:Nat)(a:Addr):Prop:=(∃ p d,ρ[i]?=some (.ow p d))/\σ[i]?=some (some (.ref a))
def zpP[Cs](H:Hp):Prop:=∀ a u,Cs.C a=some u->H a=some u
theorem zpP.mono[Cs]{H H':Hp}(h:zpP H)(e:Fzn H H'):zpP H':=fun a u q=>e a u (h a u q) (by
 obtain⟨o,xs,rfl⟩:=Cs.st a u q
 trivial)
structure Rel[Cs](K:PySem.W.Frag)(ρ:En)(σ:St)(H:Hp):Prop where
 len:ρ.length=σ.length
 ok:∀(i:Nat) x v,ρ[i]?=some x->σ[i]?=some v->zrk K H x v
 sep:∀ i j a,At ρ σ i a->At ρ σ j a->i=j
 cst:zpP H
variable [Cs]
def MA(ρ:En)(σ:St)(a:Addr):Prop:=∃ i,At ρ σ i a
structure Stp(ρ ρ':En)(σ:St)(H H':Hp):Prop where
 md:∀(i:Nat) p,(∃ d,ρ[i]?=some (.ow p d))↔∃ d,ρ'[i]?=some (.ow p d)
 kp:∀ a o,H a=some o->¬ MA ρ σ a->H' a=some o
section
variable {K:PySem.W.Frag}{ρ ρ' ρ'':En}{σ:St}{H H' H'':Hp}
theorem Rel.ztn(r:Rel K ρ σ H){i:Nat}{a:Addr}(h:At ρ σ i a):∃ p d,ρ[i]?=some (.ow p d)/\zbF K H a d:=by
 obtain⟨⟨p,d,e⟩,e2⟩:=h
 exact⟨p,d,e,r.ok i _ _ e e2⟩
theorem Rel.zbH(r:Rel K ρ σ H){a:Addr}(h:MA ρ σ a):∃ o,H a=some o/\Own o:=by
 obtain⟨i,h⟩:=h
 obtain⟨p,d,_,m⟩:=r.ztn h
 exact m.own
theorem Stp.refl:Stp ρ ρ σ H H:=⟨fun _ _=>Iff.rfl,fun _ _ h _=>h⟩
theorem Stp.ma(s:Stp ρ ρ' σ H H'){a:Addr}:MA ρ σ a↔MA ρ' σ a:=by
 constructor
 ·rintro⟨i,⟨p,h⟩,e⟩;exact⟨i,⟨p,(s.md i p).mp h⟩,e⟩
 ·rintro⟨i,⟨p,h⟩,e⟩;exact⟨i,⟨p,(s.md i p).mpr h⟩,e⟩
theorem Stp.trans(a:Stp ρ ρ' σ H H')(b:Stp ρ' ρ'' σ H' H''):Stp ρ ρ'' σ H H'' :=
 ⟨fun i p=>(a.md i p).trans (b.md i p),fun c o h n=>b.kp c o (a.kp c o h n) fun z=>n (a.ma.mpr z)⟩
theorem Stp.of(s:zaE H H'):Stp ρ ρ σ H H':=⟨fun _ _=>Iff.rfl,fun a o h _=>s a o h⟩
theorem Stp.fzn(s:Stp ρ ρ' σ H H')(r:Rel K ρ σ H):Fzn H H':=fun a o h st=>s.kp a o h fun m=>by
 obtain⟨o',e,w⟩:=r.zbH m
 rw [h] at e
 cases e
 exact w.zc6 st
theorem zrk.mono{x:Sl}{v:Option V}(f:Fzn H H')(k:∀ a,v=some (.ref a)->(∃ p d,x=.ow p d)->H' a=H a)(h:zrk K H x v):zrk K H' x v:=by
 cases x with
 | no=>trivial
 | val d=>cases v with
  | none=>exact h.elim
  | some v=>exact Fz.mono f d v h
 | ow p d=>cases v with
  | none=>exact h.elim
  | some v=>cases v with
   | ref a=>exact zbF.mono f (k a rfl ⟨p,d,rfl⟩) h
   | _=>exact h.elim
theorem Rel.same(r:Rel K ρ σ H)(s:zaE H H'):Rel K ρ σ H':=by
 refine⟨r.len,fun i x v e1 e2=>(r.ok i x v e1 e2).mono (Fzn.of s) fun a e3 ⟨p,d,e4⟩=>?_,r.sep,r.cst.mono (Fzn.of s)⟩
 subst e3;subst e4
 obtain⟨o,e,_⟩:=r.zbH ⟨i,⟨p,d,e1⟩,e2⟩
 rw [e,s a o e]
theorem Rel.put{a:Addr}{o:HO}(r:Rel K ρ σ H)(n:¬ MA ρ σ a)(ns:∀ u,H a=some u->¬ zuO u):Rel K ρ σ (upd H a o):=by
 have f:Fzn H (upd H a o):=fun b u e st=>by
  rw [zao fun z=>by subst z;exact ns u e st]
  exact e
 refine⟨r.len,fun i x v e1 e2=>(r.ok i x v e1 e2).mono f fun b e3 ⟨p,d,e4⟩=>?_,r.sep,r.cst.mono f⟩
 subst e3;subst e4
 exact zao fun z=>n ⟨i,⟨p,d,e1⟩,z▸e2⟩
end
end FL
namespace FL
open PySem L2 PySem.Spec
open PyProof.Rows hiding St
variable [Cs]
section
variable {X:Cx}{pins:List (Addr×Obj)}{σ:L2.St}{H:Hp}{s:Shared}
theorem zuy{a:Addr}{u:HO}{o:Obj}(I:Inv X pins σ H s)(hd:H a=some u)(ow:Own u)(ho:s.heap.get? a=some o):Inv X pins σ (upd H a (.frz o u)) s:=by
 have ne:∀ b w,H b=some w->¬ Own w->b≠a:=fun b w e n z=>by
  subst z
  rw [e] at hd
  cases hd
  exact n ow
 refine Inv.step (s:=s) (h':=s.heap) (H':=upd H a (.frz o u)) (g':=s.gens) (t':=s.toks) (d':=s.drawn) (ch:=[]) I (fun _ z=>nomatch z) (fun b o _ _ _ e _=>e) (fun b o _ _ _ e _=>⟨o.slots,e⟩) (fun b _ _ _ n=>?_) (fun b o _ e=>⟨o,e⟩)
  (fun b xs e=>?_) (fun b o u e=>?_) (fun b ps e=>⟨#[],?_⟩) (fun m hm=>hm) (fun b w e=>?_) I.bare
 ·rw [zao fun z=>by subst z;rw [n] at hd;cases hd];exact n
 ·rw [zao (ne b _ e fun z=>z)];exact e
 ·rw [zao (ne b _ e fun z=>z)];exact e
 ·rw [zao (ne b _ e fun z=>z),e];simp
 ·have st:∀(b:Addr) (w:HO),zbO X.prog X.w H s.heap b w->zbO X.prog X.w (upd H a (.frz o u)) s.heap b w:=fun b w k =>
   k.stay (fun _ _ _ q=>q) (fun b' q=>by rw [zao (ne b' _ q fun z=>z)];exact q) (fun b' xs q=>q.upd (fun _ r=>ne b' _ r fun z=>z) fun _ _ r=>ne b' _ r fun z=>z)
  by_cases c:b=a
  ·subst c
   rw [zak] at e
   cases e
   exact⟨ho,st b u (I.hok b u hd)⟩
  ·rw [zao c] at e
   exact st b w (I.hok b w e)
theorem ztd{Q:VK}{w:Value}(h:EP X pins σ (fun v H1=>∃ a u,v=.ref a/\H1 a=some u/\Own u/\∀ o,Q v (upd H1 a (.frz o u))) w s):EP X pins σ Q w s:=by
 obtain⟨v,H1,I,r,a,u,e,e1,ow,q⟩:=h
 obtain⟨o,ho⟩:=(I.hok a u e1).some
 exact⟨v,_,zuy I e1 ow ho,r,q o⟩
def tFz(t:TE):TE:=fun σ H Q=>t σ H fun v H1=>∃ a u,v=.ref a/\H1 a=some u/\Own u/\∀ o,Q v (upd H1 a (.frz o u))
theorem zt7{e:Expr}{t:TE}(h:PE X e t):PE X e (tFz t):=fun pins s σ H Q I q=>thn (h pins s σ H _ I q) fun _ _ z=>ztd z
end
def Good{β:Type}(K:PySem.W.Frag)(ρ:En)(σ:L2.St)(H:Hp)(r:R (β×En))(P:β->En->Hp->Prop):Prop:=match r with
 | .ok x=>∀ H',Rel K x.2 σ H'->Stp ρ x.2 σ H H'->P x.1 x.2 H'
 | _=>False
def tV(K:PySem.W.Frag)(f:EF):TE:=fun σ H Q=>∃ ρ,Rel K ρ σ H/\Good K ρ σ H (f ρ) fun d _ H'=>∀ v,Fz K H' d v->Q v H'
def tT(K:PySem.W.Frag)(f:TF):TT:=fun σ H Q=>∃ ρ,Rel K ρ σ H/\Good K ρ σ H (f ρ) fun b _ H'=>Q b H'
def tA(K:PySem.W.Frag)(f:AF):TA:=fun σ H Q=>∃ ρ,Rel K ρ σ H/\Good K ρ σ H (f ρ) fun ds _ H'=>∀ vs,zaf K H' ds vs->Q vs H'
def tO(K:PySem.W.Frag)(f:OF):TO:=fun σ H Q=>∃ ρ,Rel K ρ σ H/\Good K ρ σ H (f ρ) fun o _ H'=>Q o H'
def tN(K:PySem.W.Frag)(f:EF):TE:=fun σ H Q=>∃ ρ,Rel K ρ σ H/\Good K ρ σ H (f ρ) fun d ρ' H'=>∀ a,H a=none->zbF K H' a d->Q (.ref a) H'
def PV(K:PySem.W.Frag)(X:Cx)(e:Expr)(f:EF):Prop:=X.K=K->PE X e (tV K f)
def PVT(K:PySem.W.Frag)(X:Cx)(e:Expr)(f:TF):Prop:=X.K=K->PT X e (tT K f)
def PVW(K:PySem.W.Frag)(X:Cx)(e:Expr)(f:TF):Prop:=X.K=K->PW X e (tT K f)
def PVA(K:PySem.W.Frag)(X:Cx)(es:List Expr)(f:AF):Prop:=X.K=K->PA X es (tA K f)
def PVO(K:PySem.W.Frag)(X:Cx)(e:Option Expr)(f:OF):Prop:=X.K=K->PO X e (tO K f)
def PVN(K:PySem.W.Frag)(X:Cx)(e:Expr)(f:EF):Prop:=X.K=K->PE X e (tN K f)
theorem _root_.L2.PE.weak{X:Cx}{e:Expr}{t t':TE}(h:PE X e t)(w:∀ σ H Q,t' σ H Q->t σ H Q):PE X e t':=fun pins s σ H Q I q=>h pins s σ H Q I (w σ H Q q)
theorem _root_.L2.PT.weak{X:Cx}{e:Expr}{t t':TT}(h:PT X e t)(w:∀ σ H Q,t' σ H Q->t σ H Q):PT X e t':=fun pins s σ H Q I q=>h pins s σ H Q I (w σ H Q q)
theorem _root_.L2.PW.weak{X:Cx}{e:Expr}{t t':TT}(h:PW X e t)(w:∀ σ H Q,t' σ H Q->t σ H Q):PW X e t':=fun wh pins s σ H Q I q=>h wh pins s σ H Q I (w σ H Q q)
theorem _root_.L2.PA.weak{X:Cx}{e:List Expr}{t t':TA}(h:PA X e t)(w:∀ σ H Q,t' σ H Q->t σ H Q):PA X e t':=fun pos pins s σ H Q I q=>h pos pins s σ H Q I (w σ H Q q)
theorem _root_.L2.PO.weak{X:Cx}{e:Option Expr}{t t':TO}(h:PO X e t)(w:∀ σ H Q,t' σ H Q->t σ H Q):PO X e t':=fun pins s σ H Q I q=>h pins s σ H Q I (w σ H Q q)
section
variable {K:PySem.W.Frag}{ρ ρ1:En}{σ:L2.St}{H H1:Hp}{β γ:Type}
theorem Good.step{r:R (β×En)}{P:β->En->Hp->Prop}(st:Stp ρ ρ1 σ H H1)(g:Good K ρ σ H r P):Good K ρ1 σ H1 r P:=by
 cases r with
 | ok x=>exact fun H' rel s=>g H' rel (st.trans s)
 | _=>exact g
theorem Good.bnd{r:R (β×En)}{k:β×En->R (γ×En)}{P:γ->En->Hp->Prop}(g:Good K ρ σ H (r.bind k) P):∃ x,r=.ok x/\Good K ρ σ H (k x) P:=by
 cases r with
 | ok x=>exact⟨x,rfl,g⟩
 | _=>exact g.elim
theorem Good.zdA{r:R β}{k:β->R (γ×En)}{P:γ->En->Hp->Prop}(g:Good K ρ σ H (r.bind k) P):∃ x,r=.ok x/\Good K ρ σ H (k x) P:=by
 cases r with
 | ok x=>exact⟨x,rfl,g⟩
 | _=>exact g.elim
theorem Good.chk{c:Bool}{r:R (γ×En)}{P:γ->En->Hp->Prop}(g:Good K ρ σ H (chk c r) P):c=true/\Good K ρ σ H r P:=by
 cases c with
 | true=>exact⟨rfl,g⟩
 | false=>exact g.elim
theorem Good.now{x:β}{P:β->En->Hp->Prop}(g:Good K ρ σ H (.ok (x,ρ)) P)(rel:Rel K ρ σ H):P x ρ H:=g H rel .refl
theorem Good.new{x:β}{P:β->En->Hp->Prop}(g:Good K ρ σ H (.ok (x,ρ)) P)(rel:Rel K ρ σ H)(s:zaE H H1):P x ρ H1:=g H1 (rel.same s) (.of s)
theorem goV{f:EF}{k:D×En->R (β×En)}{S:VK}{P:β->En->Hp->Prop}(rel:Rel K ρ σ H)(g:Good K ρ σ H ((f ρ).bind k) P)
  (h:∀ d ρ1 v H1,Rel K ρ1 σ H1->Stp ρ ρ1 σ H H1->Fz K H1 d v->Good K ρ1 σ H1 (k (d,ρ1)) P->S v H1):tV K f σ H S:=by
 obtain⟨x,e,g1⟩:=g.bnd
 refine⟨ρ,rel,?_⟩
 rw [e]
 exact fun H' r s v fz=>h x.1 x.2 v H' r s fz (g1.step s)
theorem goT{f:TF}{k:Bool×En->R (β×En)}{S:Bool->Hp->Prop}{P:β->En->Hp->Prop}(rel:Rel K ρ σ H)(g:Good K ρ σ H ((f ρ).bind k) P)
  (h:∀ b ρ1 H1,Rel K ρ1 σ H1->Stp ρ ρ1 σ H H1->Good K ρ1 σ H1 (k (b,ρ1)) P->S b H1):tT K f σ H S:=by
 obtain⟨x,e,g1⟩:=g.bnd
 refine⟨ρ,rel,?_⟩
 rw [e]
 exact fun H' r s=>h x.1 x.2 H' r s (g1.step s)
theorem goA{f:AF}{k:List D×En->R (β×En)}{S:List V->Hp->Prop}{P:β->En->Hp->Prop}(rel:Rel K ρ σ H)(g:Good K ρ σ H ((f ρ).bind k) P)
  (h:∀ ds ρ1 vs H1,Rel K ρ1 σ H1->Stp ρ ρ1 σ H H1->zaf K H1 ds vs->Good K ρ1 σ H1 (k (ds,ρ1)) P->S vs H1):tA K f σ H S:=by
 obtain⟨x,e,g1⟩:=g.bnd
 refine⟨ρ,rel,?_⟩
 rw [e]
 exact fun H' r s vs fz=>h x.1 x.2 vs H' r s fz (g1.step s)
theorem goO{f:OF}{k:Option Int×En->R (β×En)}{S:Option Int->Hp->Prop}{P:β->En->Hp->Prop}(rel:Rel K ρ σ H)(g:Good K ρ σ H ((f ρ).bind k) P)
  (h:∀ b ρ1 H1,Rel K ρ1 σ H1->Stp ρ ρ1 σ H H1->Good K ρ1 σ H1 (k (b,ρ1)) P->S b H1):tO K f σ H S:=by
 obtain⟨x,e,g1⟩:=g.bnd
 refine⟨ρ,rel,?_⟩
 rw [e]
 exact fun H' r s=>h x.1 x.2 H' r s (g1.step s)
end
def rD(K:PySem.W.Frag)(g:D->D->R D):R2:=fun x y H Q=>∃ dx dy d,Tp K H dx x/\Tp K H dy y/\g dx dy=.ok d/\∀ v H',zaE H H'->Fz K H' d v->Q v H'
def rD1(K:PySem.W.Frag)(g:D->R D):V->Hp->VK->Prop:=fun x H Q=>∃ dx d,Tp K H dx x/\g dx=.ok d/\∀ v H',zaE H H'->Fz K H' d v->Q v H'
def rDs(K:PySem.W.Frag)(G:List D->R D):List V->Hp->VK->Prop:=fun xs H Q=>∃ ds d,zaf K H ds xs/\G ds=.ok d/\∀ v H',zaE H H'->Fz K H' d v->Q v H'
def rD0(K:PySem.W.Frag)(g:D->R D):List V->Hp->VK->Prop:=fun xs H Q=>∃ x dx d,xs=[x]/\Tp K H dx x/\g dx=.ok d/\∀ v H',zaE H H'->Fz K H' d v->Q v H'
section
variable {K:PySem.W.Frag}{X:Cx}{a b c:Expr}{f h k:EF}{pos:Pos}
theorem zab{x:Str}(i:Nat)(hN:X.N[i]?=some x:=by rfl)(hv:Vis X.env.scope x:=by first|exact Or.inl rfl|exact Or.inr (Or.inl rfl)|exact Or.inr (Or.inr rfl))(hd:(x==("__debug__":Str))=false:=by decide)
  (hcd:(x==("__classdict__":Str))=false:=by decide):PV K X (.Name x pos) (eV i):=fun _=>(zpn hN hv hd hcd).weak fun σ H Q=>by
 rintro⟨ρ,rel,g⟩
 unfold eV at g
 cases e:ρ[i]? with
 | none=>rw [e] at g;exact g.elim
 | some x =>
  rw [e] at g
  cases x with
  | val d =>
   have hl:i<σ.length:=by rw [<- rel.len];exact(List.getElem?_eq_some_iff.mp e).1
   have o:=rel.ok i _ _ e (List.getElem?_eq_getElem hl)
   cases es:σ[i] with
   | none=>rw [es] at o;exact o.elim
   | some v =>
    rw [es] at o
    exact⟨v,by rw [List.getElem?_eq_getElem hl,es],g.now rel v o⟩
  | _=>exact g.elim
theorem zr8{e:Expr}{v:V}{d:D}(h:PE X e (tC v))(hv:∀ H,Fz K H d v):PV K X e (eC d):=fun _=>h.weak fun σ H Q=>by
 rintro⟨ρ,rel,g⟩
 exact g.now rel v (hv H)
theorem zad{i:Int}{j}:PV K X (.Constant (.int i) j pos) (eC (.int i)):=zr8 zss fun _=>by simp [Fz]
theorem zjz{i:Bool}{j}:PV K X (.Constant (.bool i) j pos) (eC (.bool i)):=zr8 zua fun _=>by simp [Fz]
theorem zcK{j}:PV K X (.Constant .none j pos) (eC .none):=zr8 zsp fun _=>by simp [Fz]
theorem zbn{i:Str}{j}:PV K X (.Constant (.str i) j pos) (eC (.str i)):=zr8 zsm fun _=>by simp [Fz]
theorem zdR{x:Str}{v:V}{u:Value}{d:D}(hg:Gl X x)(hm:X.mg x=some u)(r:RelV v u)(hv:∀ H,Fz K H d v)(hd:(x==("__debug__":Str))=false:=by decide):PV K X (.Name x pos) (eC d):=zr8 (zmA hg hm r hd) hv
theorem ztF{g:D->D->R D}{r:R2}(ho:∀ x y H Q,rD K g x y H Q->r x y H Q)(σ:L2.St)(H:Hp)(Q:VK)(q:tV K (e2 g f h) σ H Q):tOp r (tV K f) (tV K h) σ H Q:=by
 obtain⟨ρ,rel,q⟩:=q
 refine goV rel q fun dx ρ1 x H1 rel1 st1 fx q1=>goV rel1 q1 fun dy ρ2 y H2 rel2 st2 fy q2=>?_
 obtain⟨d,ed,q3⟩:=q2.zdA
 exact ho _ _ _ _ ⟨dx,dy,d,(fx.mono (st2.fzn rel1)).tp,fy.tp,ed,fun v H' s fz=>q3.new rel2 s v fz⟩
theorem zar{op:Operator}{g:D->D->R D}(ho:OpR X (binaryOp op) (rD X.K g))(ha:PV K X a f)(hb:PV K X b h):PV K X (.BinOp a op b pos) (e2 g f h):=fun hK=>by
 subst hK
 exact(zt6 ho (ha rfl) (hb rfl)).weak fun σ H Q q=>ztF (fun _ _ _ _ z=>z) σ H Q q
theorem zdQ{g:D->D->R D}(ho:IxR X (rD X.K g))(ha:PV K X a f)(hb:PV K X b h)(hs:zig b:=by exact fun _ _=>rfl):PV K X (.Subscript a b pos) (e2 g f h):=fun hK=>by
 subst hK
 exact(zsr ho (ha rfl) (hb rfl) hs).weak fun σ H Q q=>ztF (fun _ _ _ _ z=>z) σ H Q q
theorem zr7{op:CmpOp}{g:D->D->R D}(ho:OpR X (compareOp op) (rD X.K g))(ha:PV K X a f)(hb:PV K X b h)(hm:behindInMarks op b=false):PV K X (.Compare a [op] [b] pos) (e2 g f h):=fun hK=>by
 subst hK
 exact(zqF ho (ha rfl) (hb rfl) hm).weak fun σ H Q q=>ztF (fun _ _ _ _ z=>z) σ H Q q
theorem zqn{op:UnaryOp}{g:D->R D}(ho:UnR X (unaryOp op) (rD1 X.K g))(ha:PV K X a f):PV K X (.UnaryOp op a pos) (e1 g f):=fun hK=>by
 subst hK
 exact(zt5 ho (ha rfl)).weak fun σ H Q=>by
  rintro⟨ρ,rel,q⟩
  refine goV rel q fun dx ρ1 x H1 rel1 st1 fx q1=>?_
  obtain⟨d,ed,q3⟩:=q1.zdA
  exact⟨dx,d,fx.tp,ed,fun v H' s fz=>q3.new rel1 s v fz⟩
theorem zq2{g g':D->D->R D}(σ:L2.St)(H:Hp)(Q:VK)(q:tV K (zct g g' f h k) σ H Q):zpg (rD K g) (rD K g') (tV K f) (tV K h) (tV K k) σ H Q:=by
 obtain⟨ρ,rel,q⟩:=q
 refine goV rel q fun dx ρ1 x H1 rel1 st1 fx q1=>goV rel1 q1 fun dy ρ2 y H2 rel2 st2 fy q2=>?_
 obtain⟨d,ed,q3⟩:=q2.zdA
 refine⟨dx,dy,d,(fx.mono (st2.fzn rel1)).tp,fy.tp,ed,fun v H' s fz=>?_⟩
 cases d with
 | bool bb =>
  simp only [Fz] at fz
  subst fz
  have rel3:=rel2.same s
  have q4:=q3.step (.of s)
  cases bb with
  | true =>
   refine⟨true,rfl,zoP ?_⟩
   refine goV rel3 q4 fun dz ρ3 z H3 rel4 st4 fzz q5=>?_
   obtain⟨d2,ed2,q6⟩:=q5.zdA
   exact⟨dy,dz,d2,((fy.mono (Fzn.of s)).mono (st4.fzn rel3)).tp,fzz.tp,ed2,fun v H' s fz=>q6.new rel4 s v fz⟩
  | false=>exact⟨false,rfl,zoQ (q4.now rel3 _ (by simp [Fz]))⟩
 | _=>exact q3.elim
theorem zr0{op}(ha:PV K X a f):PV K X (.BoolOp op [a] pos) f:=fun hK=>zsn (ha hK)
theorem zr9{rest:List Expr}(ha:PV K X a f)(hb:PV K X (.BoolOp .And (b::rest) pos) h):PV K X (.BoolOp .And (a::b::rest) pos) (zlH f h):=fun hK=>(zsu (ha hK) (hb hK)).weak fun σ H Q=>by
 rintro⟨ρ,rel,q⟩
 refine goV rel q fun dx ρ1 x H1 rel1 st1 fx q1=>?_
 cases dx with
 | bool bb =>
  simp only [Fz] at fx
  subst fx
  cases bb with
  | true=>exact⟨true,rfl,zoP ⟨ρ1,rel1,q1⟩⟩
  | false=>exact⟨false,rfl,zoQ (q1.now rel1 _ (by simp [Fz]))⟩
 | _=>exact q1.elim
theorem zr1(ha:PV K X a f):PV K X (.UnaryOp .Not a pos) (zlF f):=fun hK=>(zso (ha hK)).weak fun σ H Q=>by
 rintro⟨ρ,rel,q⟩
 refine goV rel q fun dx ρ1 x H1 rel1 st1 fx q1=>?_
 cases dx with
 | bool bb =>
  simp only [Fz] at fx
  subst fx
  exact⟨bb,rfl,q1.now rel1 _ (by simp [Fz])⟩
 | _=>exact q1.elim
theorem zqp{t:TF}(hc:PVT K X c t)(ha:PV K X a f)(hb:PV K X b h):PV K X (.IfExp c a b pos) (eIf t f h):=fun hK=>(zou (hc hK) (ha hK) (hb hK)).weak fun σ H Q=>by
 rintro⟨ρ,rel,q⟩
 refine goT rel q fun cb ρ1 H1 rel1 st1 q1=>?_
 cases cb with
 | true=>exact zoP ⟨ρ1,rel1,q1⟩
 | false=>exact zoQ ⟨ρ1,rel1,q1⟩
variable {es:List Expr}{fa:AF}
theorem zcp:PVA K X [] zal:=fun _=>zd6.weak fun σ H Q=>by
 rintro⟨ρ,rel,q⟩
 exact q.now rel [] (by simp [zaf])
theorem zcd(ha:PV K X a f)(hr:PVA K X es fa)(hs:starEach (a::es) X.env=(false,eval a X.env)::starEach es X.env:=by rfl):PVA K X (a::es) (zac f fa):=fun hK=>(zbx (ha hK) (hr hK) hs).weak fun σ H Q=>by
 rintro⟨ρ,rel,q⟩
 refine goV rel q fun dx ρ1 x H1 rel1 st1 fx q1=>goA rel1 q1 fun ds ρ2 vs H2 rel2 st2 fs q2=>?_
 exact q2.now rel2 _ (by simp only [zaf];exact⟨x,vs,rfl,fx.mono (st2.fzn rel1),fs⟩)
theorem zaD:lim<=sizeLine:=by rw [sizeLine_eq];decide
theorem zbw{x1}(h:PVA K X es fa):PV K X (.Tuple es x1 pos) (zb3 fa):=fun hK=>(zsl (h hK)).weak fun σ H Q=>by
 rintro⟨ρ,rel,q⟩
 refine goA rel q fun ds ρ1 vs H1 rel1 st1 fs q1=>?_
 obtain⟨c,q2⟩:=q1.chk
 refine⟨by rw [fs.len];exact Nat.le_trans (zbK c) zaD,fun p hp=>?_⟩
 have s:zaE H1 (upd H1 p (.tup vs)):=zaE.upd hp
 refine q2.new rel1 s _ ?_
 simp only [Fz]
 exact⟨p,vs,rfl,.inl zak,fs.mono (Fzn.of s)⟩
theorem zco(h:PVA K X es fa):PVN K X (.List es pos) (zc8 fa):=fun hK=>(zsq (h hK)).weak fun σ H Q=>by
 rintro⟨ρ,rel,q⟩
 refine goA rel q fun ds ρ1 vs H1 rel1 st1 fs q1=>?_
 obtain⟨c,q2⟩:=q1.chk
 refine⟨by rw [fs.len];exact Nat.le_trans (zbK c) zaD,fun p hp=>?_⟩
 have s:zaE H1 (upd H1 p (.lst vs)):=zaE.upd hp
 refine q2.new rel1 s p ?_ ?_
 ·cases e:H p with
  | none=>rfl
  | some o =>
   by_cases m:MA ρ σ p
   ·obtain⟨o',e',_⟩:=rel1.zbH (st1.ma.mp m)
    rw [hp] at e';cases e'
   ·rw [st1.kp p o e m] at hp;cases hp
 ·exact⟨vs,zak,fs.mono (Fzn.of s)⟩
theorem PVN.pv{e:Expr}{f:EF}(h:PVN K X e f):PV K X e f:=fun hK=>(zt7 (h hK)).weak fun σ H Q=>by
 rintro⟨ρ,rel,q⟩
 refine⟨ρ,rel,?_⟩
 cases e:f ρ with
 | ok x =>
  rw [e] at q
  intro H' rel' st a ha m
  obtain⟨u,e1,ow⟩:=m.own
  refine⟨a,u,rfl,e1,ow,fun o=>?_⟩
  have nma:¬ MA ρ σ a:=fun z=>by
   obtain⟨o',e',_⟩:=rel.zbH z
   rw [ha] at e';cases e'
  have nma':¬ MA x.2 σ a:=fun z=>nma (st.ma.mpr z)
  have fz:Fzn H' (upd H' a (.frz o u)):=fun b w e2 sy=>by
   rw [zao fun z=>by subst z;rw [e1] at e2;cases e2;exact ow.zc6 sy]
   exact e2
  refine q _ (rel'.put nma' fun u' e2=>by rw [e1] at e2;cases e2;exact ow.zc6) ⟨st.md,fun b w e2 n=>?_⟩ _ ?_
  ·rw [zao fun z=>by subst z;rw [ha] at e2;cases e2]
   exact st.kp b w e2 n
  ·obtain⟨d,ρ'⟩:=x
   cases d with
   | list ds =>
    obtain⟨vs,h1,h2⟩:=m
    rw [e1] at h1
    cases h1
    simp only [Fz]
    exact⟨a,vs,rfl,.inl ⟨o,zak⟩,h2.mono fz⟩
   | dict kvs =>
    simp only [Fz]
    rcases m with⟨kk,h1,h2⟩|⟨kk,h1,h2⟩
    ·rw [e1] at h1
     cases h1
     exact⟨a,o,rfl,.inl ⟨kk,zak,h2.mono fz⟩⟩
    ·rw [e1] at h1
     cases h1
     exact⟨a,o,rfl,.inr ⟨kk,zak,h2.mono fz⟩⟩
   | _=>exact m.elim
 | _=>rw [e] at q;exact q.elim
theorem goC{G:List D->R D}{r:List V->Hp->VK->Prop}(hr:∀ xs H Q,rDs K G xs H Q->r xs H Q)(σ:L2.St)(H:Hp)(Q:VK)(q:tV K (zai G fa) σ H Q):tCB r (tA K fa) σ H Q:=by
 obtain⟨ρ,rel,q⟩:=q
 refine goA rel q fun ds ρ1 vs H1 rel1 st1 fs q1=>?_
 obtain⟨d,ed,q2⟩:=q1.zdA
 exact hr _ _ _ ⟨ds,d,fs,ed,fun v H' s fz=>q2.new rel1 s v fz⟩
theorem zoj{x:Str}{id:String}{G:List D->R D}{p:Pos}{e:Expr}(hc:zeY X (.builtin id) (rDs X.K G))(hg:Gl X x)(hm:X.mg x=none)(hv:bootBuiltins x=some (.builtin id))(ha:PVA K X (e::es) fa)(hn:x ≠ "__name__":=by decide) (hdb:(x==("__debug__":Str))=false:=by decide)
  (he:starEach (e::es) X.env=(false,eval e X.env)::starEach es X.env:=by rfl) (hpl:(backTo pos (starEach es X.env)).any (·.1)=false:=by rfl):PV K X (.Call (.Name x p) (e::es) [] pos) (zai G fa):=fun hK=>by
 subst hK
 exact(zfw hc hg hm hv (ha rfl) hn hdb he hpl).weak fun σ H Q q=>goC (fun _ _ _ z=>z) σ H Q q
theorem zmq{x:Str}{T:String}{G:List D->R D}{p:Pos}{e:Expr}(hc:zeY X (.type T) (rDs X.K G))(hg:Gl X x)(hm:X.mg x=none)(hv:bootBuiltins x=some (.type T))(ha:PVA K X (e::es) fa)(hn:x ≠ "__name__":=by decide) (hdb:(x==("__debug__":Str))=false:=by decide)
  (he:starEach (e::es) X.env=(false,eval e X.env)::starEach es X.env:=by rfl) (hpl:(backTo pos (starEach es X.env)).any (·.1)=false:=by rfl):PV K X (.Call (.Name x p) (e::es) [] pos) (zai G fa):=fun hK=>by
 subst hK
 exact(zmB hc hg hm hv (ha rfl) hn hdb he hpl).weak fun σ H Q q=>goC (fun _ _ _ z=>z) σ H Q q
variable {lo hi:Option Expr}{fl fh:OF}
theorem zoc:PVO K X none zey:=fun _=>zqz.weak fun σ H Q=>by
 rintro⟨ρ,rel,q⟩
 exact q.now rel
theorem zob(h:PV K X a f):PVO K X (some a) (zex f):=fun hK=>(zqy (h hK)).weak fun σ H Q=>by
 rintro⟨ρ,rel,q⟩
 refine goV rel q fun dx ρ1 x H1 rel1 st1 fx q1=>?_
 cases dx with
 | int i =>
  simp only [Fz] at fx
  exact⟨i,fx,q1.now rel1⟩
 | _=>exact q1.elim
def zvs(K:PySem.W.Frag):V->Option Int->Option Int->Hp->VK->Prop:=fun x lo hi H Q=>∃ dx d,Tp K H dx x/\zcn dx lo hi=.ok d/\∀ v H',zaE H H'->Fz K H' d v->Q v H'
variable {t u:TF}
theorem zbb(hv:zuM X (fun x H Q=>∃ d k,Tp X.K H d x/\zep d=.ok k/\Q k H))(h:PV K X a f)(he:∀ whole,isTrue a X.env whole=(do let v <- whole;standAt a.pos;holding [v] (truthy v)):=by intro _;rfl):PVT K X a (tE f):=fun hK=>by
 subst hK
 intro pins s σ H Q I q
 rw [he]
 obtain⟨ρ,rel,q⟩:=q
 refine wpAny_bind (thn (h rfl pins s σ H (fun x H'=>∃ d k,Tp X.K H' d x/\zep d=.ok k/\Q k H') I ?_) fun v s1 ⟨x,H1,I1,r1,q1⟩=>wpAny_bind (wpAny_standAt (wpAny_holding (hv pins s1 σ H1 x v Q I1 r1 q1))))
 refine goV rel q fun dx ρ1 x H1 rel1 st1 fx q1=>?_
 obtain⟨d,ed,q2⟩:=q1.zdA
 exact⟨dx,d,fx.tp,ed,q2.now rel1⟩
theorem goB{te:TE}(hw:∀ σ H Q,tV K f σ H Q->te σ H Q)(σ:L2.St)(H:Hp)(Q:Bool->Hp->Prop)(q:tT K (tB f) σ H Q):te σ H fun x H'=>∃ k,x=.bl k/\Q k H':=by
 obtain⟨ρ,rel,q⟩:=q
 refine hw σ H _ (goV rel q fun dx ρ1 x H1 rel1 st1 fx q1=>?_)
 cases dx with
 | bool bb =>
  simp only [Fz] at fx
  exact⟨bb,fx,q1.now rel1⟩
 | _=>exact q1.elim
theorem zqg{op:CmpOp}{g:D->D->R D}(ho:OpR X (compareOp op) (rD X.K g))(ha:PV K X a f)(hb:PV K X b h)(hm:behindInMarks op b=false):PVT K X (.Compare a [op] [b] pos) (tB (e2 g f h)):=fun hK=>by
 subst hK
 exact(zjA ho (ha rfl) (hb rfl) hm).weak fun σ H Q q=>goB (fun σ H Q z=>ztF (fun _ _ _ _ z=>z) σ H Q z) σ H Q q
theorem zhL(ha:PVT K X a t):PVW K X (.BoolOp .And [a] pos) t:=fun hK=>zqc (ha hK)
theorem zb1(ha:PVT K X a t):PVW K X (.BoolOp .Or [a] pos) t:=fun hK=>zrW (ha hK)
theorem zjv{rest:List Expr}(ha:PVT K X a t)(hb:PVW K X (.BoolOp .And (b::rest) pos) u):PVW K X (.BoolOp .And (a::b::rest) pos) (FL.ze1 t u):=fun hK=>(zrX (ha hK) (hb hK)).weak fun σ H Q=>by
 rintro⟨ρ,rel,q⟩
 refine goT rel q fun cb ρ1 H1 rel1 st1 q1=>?_
 cases cb with
 | true=>exact zoP ⟨ρ1,rel1,q1⟩
 | false=>exact zoQ (q1.now rel1)
theorem zbm{rest:List Expr}(ha:PVT K X a t)(hb:PVW K X (.BoolOp .Or (b::rest) pos) u):PVW K X (.BoolOp .Or (a::b::rest) pos) (FL.tOr t u):=fun hK=>(ztZ (ha hK) (hb hK)).weak fun σ H Q=>by
 rintro⟨ρ,rel,q⟩
 refine goT rel q fun cb ρ1 H1 rel1 st1 q1=>?_
 cases cb with
 | true=>exact zoP (q1.now rel1)
 | false=>exact zoQ ⟨ρ1,rel1,q1⟩
theorem PVW.pvt(h:PVW K X a t):PVT K X a t:=fun hK=>(h hK).pt
theorem zbc(ha:PVT K X a t):PVT K X (.UnaryOp .Not a pos) (FL.zbV t):=fun hK=>(zsa (ha hK)).weak fun σ H Q=>by
 rintro⟨ρ,rel,q⟩
 exact goT rel q fun cb ρ1 H1 rel1 st1 q1=>q1.now rel1
theorem zmk{op op':CmpOp}{g g':D->D->R D}(ho:OpR X (compareOp op) (rD X.K g))(ho':OpR X (compareOp op') (rD X.K g'))(ha:PV K X a f)(hb:PV K X b h)(hc:PV K X c k)
  (hm:lastMarks [op,op'] [b,c]=false:=by with_unfolding_all rfl):PVT K X (.Compare a [op,op'] [b,c] pos) (tB (zct g g' f h k)):=fun hK=>by
 subst hK
 exact(zon ho ho' (ha rfl) (hb rfl) (hc rfl) hm).weak fun σ H Q q=>goB (fun σ H Q z=>zq2 σ H Q z) σ H Q q
end
end FL
namespace FL
open PySem L2 PySem.Spec
open PyProof.Rows hiding St
variable [Cs]
theorem zll(x y:Int)(xs ys:List Int):lexLe (x::xs) (y::ys)=if x=y then lexLe xs ys else decide (x<=y):=rfl
theorem zhX:lexLe [] []=true:=rfl
theorem zgO(y:Int)(ys:List Int):lexLe [] (y::ys)=true:=rfl
theorem zgP(x:Int)(xs:List Int):lexLe (x::xs) []=false:=rfl
theorem zme(A:Around)(s:Shared)(a:Int)(t:Tok)(c:Int)(u:Tok)(prog:Program)(w:World)(E:Value->Shared->Prop)(Q:Value->Shared->Prop)(h:Q (.bool (decide (a<=c))) s) :
  wpAny (model prog w) A (richCompare .LtE (.int a t) (.int c u)) Q E s :=
 (PyProof.Rows.le_int h:wpAny (model prog w) A (compareOp .LtE (.int a t) (.int c u)) Q E s)
section
open PySem.SeqAt
open PySem.AutoSeq1 (wpAny_loadPart')
open PySem.MeetsSeq PySem.MeetsSeq2 PySem.MeetsSeq3
theorem zhF(l b:Addr)(items items2:Array Value)(n n2:Nat)(dd dd2:Option Addr)(sl sl2:Array (Option Value))(ns ms:List Int)(hi:IntsAre items.toList ns)(hj:IntsAre items2.toList ms) :
  Meets (Builtin.«tuple.__le__» ⟨[.ref l,.ref b],[]⟩)
   (fun _ R s=>s.heap.get? l=some { cls:=.type "tuple",dict:=dd,data:=.seq items n,slots:=sl }/\s.heap.get? b=some { cls:=.type "tuple",dict:=dd2,data:=.seq items2 n2,slots:=sl2 } /\
    R (.ok (.ret (.bool (lexLe ns ms)))) s) :=
 .of_wp fun prog w A R s h=>by
  obtain⟨hp,g,d,tk,os⟩:=s;obtain⟨hl,hb,h⟩:=h
  have f2:=AutoSeq1.sub_tuple_tuple
  have z1:items.size=ns.length:=by rw [<- hi.length];simp
  have z2:items2.size=ms.length:=by rw [<- hj.length];simp
  wp_walk using wpAny_loadPart' hl,wpAny_loadPart' hb,wpAny_forIn_list _ (fun rest b s'=>b.1=none/\s'=⟨hp,g,d,tk,os⟩/\∃(vs ws:List Value) (ns' ms':List Int),rest=vs.zip ws /\
   IntsAre vs ns'/\IntsAre ws ms'/\ns'.length+items2.size=ms'.length+items.size/\R (.ok (.ret (.bool (lexLe ns' ms')))) ⟨hp,g,d,tk,os⟩) _
  case turn =>
   rintro⟨y,x⟩ rest b s' ⟨hb',rfl,vs,ws,ns',ms',hz,hvi,hwi,hlen,hR⟩
   cases hvi with
   | nil=>rw [List.zip_nil_left] at hz;cases hz
   | cons a t hvi' =>
    cases hwi with
    | nil=>rw [List.zip_nil_right] at hz;cases hz
    | cons c u hwi' =>
     rw [List.zip_cons_cons] at hz
     injection hz with hyx hrest
     injection hyx with hy hx
     subst hy hx
     rw [zll] at hR
     simp only [List.length_cons] at hlen
     obtain⟨e,he,hiff⟩:=HT.zfx A.in1 ⟨hp,g,d,tk,os⟩ a t c u
     refine wpAny_bind (he prog w _ _ ?_)
     cases e with
     | true =>
      rw [if_pos (hiff.mp rfl)] at hR
      wp_walk
      exact⟨rfl,rfl,_,_,_,_,hrest,hvi',hwi',by omega,hR⟩
     | false =>
      rw [if_neg (fun q=>absurd (hiff.mpr q) Bool.false_ne_true)] at hR
      have hri:=zme A.in1 ⟨hp,g,d,tk,os⟩ a t c u prog w
      wp_walk using hri
      exact⟨_,rfl,by simpa using hR⟩
  case fin =>
   rintro⟨b1,b2⟩ s' ⟨hb',rfl,vs,ws,ns',ms',hz,hvi,hwi,hlen,hR⟩
   simp only at hb'
   subst hb'
   have hv:lexLe ns' ms'=decide (items.size<=items2.size):=by
    cases hvi with
    | nil =>
     cases hwi with
     | nil =>
      simp only [List.length_nil] at hlen
      rw [zhX]
      exact(decide_eq_true (by omega)).symm
     | cons c u hw =>
      simp only [List.length_nil,List.length_cons] at hlen
      rw [zgO]
      exact(decide_eq_true (by omega)).symm
    | cons a t hv =>
     cases hwi with
     | nil =>
      simp only [List.length_nil,List.length_cons] at hlen
      rw [zgP]
      exact(decide_eq_false (by omega)).symm
     | cons c u hw =>
      rw [List.zip_cons_cons] at hz
      cases hz
   rw [hv] at hR
   wp_walk
   exact⟨_,rfl,by simpa [Builtin.Tuple.tupleCompareSizes] using hR⟩
  case h =>
   exact⟨rfl,rfl,items.toList,items2.toList,ns,ms,rfl,hi,hj,by omega,h⟩
end
section
variable {prog:Program}{w:World}{A:Around}{E:Value->Shared->Prop}{s:Shared}
theorem zlo{l b:Addr}{items items2:Array Value}{ns ms:List Int}{Q:Value->Shared->Prop}(hl:IsTup s.heap l items)(hb:IsTup s.heap b items2)(hi:IntsAre items.toList ns)(hj:IntsAre items2.toList ms)
  (hu:A.units<cLine)(h:Q (.bool (lexLe ns ms)) s):wpAny (model prog w) A (compareOp .LtE (.ref l) (.ref b)) Q E s:=by
 obtain⟨⟨cls,dd,data,sl⟩,ho,hc,n,hd⟩:=id hl
 obtain⟨⟨cls2,dd2,data2,sl2⟩,ho2,hc2,n2,hd2⟩:=id hb
 simp only at hc hd hc2 hd2
 subst hc hd hc2 hd2
 exact richCompare_meets_room (op:=.LtE) ⟨_,ho,rfl⟩ ⟨_,ho2,rfl⟩ PySem.F.slot_tuple_le PySem.F.entry_tuple_le (PySem.F.args_tuple_le_2 _ _) (zhF l b items items2 n n2 dd dd2 sl sl2 ns ms hi hj)
  ⟨ho,ho2,show Value.bool (lexLe ns ms)≠Value.notImplemented/\Q (.bool (lexLe ns ms)) s from⟨(fun x=>nomatch x),h⟩⟩ hu
end
theorem zlm(x y:Int)(xs ys:List Int):zeC (x::xs) (y::ys)=if x=y then zeC xs ys else decide (y<x):=rfl
theorem zhY:zeC [] []=false:=rfl
theorem zgQ(y:Int)(ys:List Int):zeC [] (y::ys)=false:=rfl
theorem zgR(x:Int)(xs:List Int):zeC (x::xs) []=true:=rfl
theorem zn6(A:Around)(s:Shared)(a:Int)(t:Tok)(c:Int)(u:Tok)(prog:Program)(w:World)(E:Value->Shared->Prop)(Q:Value->Shared->Prop)(h:Q (.bool (decide (c<a))) s) :
  wpAny (model prog w) A (richCompare .Gt (.int a t) (.int c u)) Q E s :=
 (PyProof.Rows.gt_int h:wpAny (model prog w) A (compareOp .Gt (.int a t) (.int c u)) Q E s)
section
open PySem.SeqAt
open PySem.AutoSeq1 (wpAny_loadPart')
open PySem.MeetsSeq PySem.MeetsSeq2 PySem.MeetsSeq3
theorem zhG(l b:Addr)(items items2:Array Value)(n n2:Nat)(dd dd2:Option Addr)(sl sl2:Array (Option Value))(ns ms:List Int)(hi:IntsAre items.toList ns)(hj:IntsAre items2.toList ms) :
  Meets (Builtin.«tuple.__gt__» ⟨[.ref l,.ref b],[]⟩)
   (fun _ R s=>s.heap.get? l=some { cls:=.type "tuple",dict:=dd,data:=.seq items n,slots:=sl }/\s.heap.get? b=some { cls:=.type "tuple",dict:=dd2,data:=.seq items2 n2,slots:=sl2 } /\
    R (.ok (.ret (.bool (zeC ns ms)))) s) :=
 .of_wp fun prog w A R s h=>by
  obtain⟨hp,g,d,tk,os⟩:=s;obtain⟨hl,hb,h⟩:=h
  have f2:=AutoSeq1.sub_tuple_tuple
  have z1:items.size=ns.length:=by rw [<- hi.length];simp
  have z2:items2.size=ms.length:=by rw [<- hj.length];simp
  wp_walk using wpAny_loadPart' hl,wpAny_loadPart' hb,wpAny_forIn_list _ (fun rest b s'=>b.1=none/\s'=⟨hp,g,d,tk,os⟩/\∃(vs ws:List Value) (ns' ms':List Int),rest=vs.zip ws /\
   IntsAre vs ns'/\IntsAre ws ms'/\ns'.length+items2.size=ms'.length+items.size/\R (.ok (.ret (.bool (zeC ns' ms')))) ⟨hp,g,d,tk,os⟩) _
  case turn =>
   rintro⟨y,x⟩ rest b s' ⟨hb',rfl,vs,ws,ns',ms',hz,hvi,hwi,hlen,hR⟩
   cases hvi with
   | nil=>rw [List.zip_nil_left] at hz;cases hz
   | cons a t hvi' =>
    cases hwi with
    | nil=>rw [List.zip_nil_right] at hz;cases hz
    | cons c u hwi' =>
     rw [List.zip_cons_cons] at hz
     injection hz with hyx hrest
     injection hyx with hy hx
     subst hy hx
     rw [zlm] at hR
     simp only [List.length_cons] at hlen
     obtain⟨e,he,hiff⟩:=HT.zfx A.in1 ⟨hp,g,d,tk,os⟩ a t c u
     refine wpAny_bind (he prog w _ _ ?_)
     cases e with
     | true =>
      rw [if_pos (hiff.mp rfl)] at hR
      wp_walk
      exact⟨rfl,rfl,_,_,_,_,hrest,hvi',hwi',by omega,hR⟩
     | false =>
      rw [if_neg (fun q=>absurd (hiff.mpr q) Bool.false_ne_true)] at hR
      have hri:=zn6 A.in1 ⟨hp,g,d,tk,os⟩ a t c u prog w
      wp_walk using hri
      exact⟨_,rfl,by simpa using hR⟩
  case fin =>
   rintro⟨b1,b2⟩ s' ⟨hb',rfl,vs,ws,ns',ms',hz,hvi,hwi,hlen,hR⟩
   simp only at hb'
   subst hb'
   have hv:zeC ns' ms'=decide (items2.size<items.size):=by
    cases hvi with
    | nil =>
     cases hwi with
     | nil =>
      simp only [List.length_nil] at hlen
      rw [zhY]
      exact(decide_eq_false (by omega)).symm
     | cons c u hw =>
      simp only [List.length_nil,List.length_cons] at hlen
      rw [zgQ]
      exact(decide_eq_false (by omega)).symm
    | cons a t hv =>
     cases hwi with
     | nil =>
      simp only [List.length_nil,List.length_cons] at hlen
      rw [zgR]
      exact(decide_eq_true (by omega)).symm
     | cons c u hw =>
      rw [List.zip_cons_cons] at hz
      cases hz
   rw [hv] at hR
   wp_walk
   exact⟨_,rfl,by simpa [Builtin.Tuple.tupleCompareSizes] using hR⟩
  case h =>
   exact⟨rfl,rfl,items.toList,items2.toList,ns,ms,rfl,hi,hj,by omega,h⟩
end
section
variable {prog:Program}{w:World}{A:Around}{E:Value->Shared->Prop}{s:Shared}
theorem zlz{l b:Addr}{items items2:Array Value}{ns ms:List Int}{Q:Value->Shared->Prop}(hl:IsTup s.heap l items)(hb:IsTup s.heap b items2)(hi:IntsAre items.toList ns)(hj:IntsAre items2.toList ms)
  (hu:A.units<cLine)(h:Q (.bool (zeC ns ms)) s):wpAny (model prog w) A (compareOp .Gt (.ref l) (.ref b)) Q E s:=by
 obtain⟨⟨cls,dd,data,sl⟩,ho,hc,n,hd⟩:=id hl
 obtain⟨⟨cls2,dd2,data2,sl2⟩,ho2,hc2,n2,hd2⟩:=id hb
 simp only at hc hd hc2 hd2
 subst hc hd hc2 hd2
 exact richCompare_meets_room (op:=.Gt) ⟨_,ho,rfl⟩ ⟨_,ho2,rfl⟩ PySem.F.slot_tuple_gt PySem.F.entry_tuple_gt (PySem.F.args_tuple_gt_2 _ _) (zhG l b items items2 n n2 dd dd2 sl sl2 ns ms hi hj)
  ⟨ho,ho2,show Value.bool (zeC ns ms)≠Value.notImplemented/\Q (.bool (zeC ns ms)) s from⟨(fun x=>nomatch x),h⟩⟩ hu
end
theorem zln(x y:Int)(xs ys:List Int):zeD (x::xs) (y::ys)=if x=y then zeD xs ys else decide (y<=x):=rfl
theorem zhZ:zeD [] []=true:=rfl
theorem zgS(y:Int)(ys:List Int):zeD [] (y::ys)=false:=rfl
theorem zgT(x:Int)(xs:List Int):zeD (x::xs) []=true:=rfl
theorem zmf(A:Around)(s:Shared)(a:Int)(t:Tok)(c:Int)(u:Tok)(prog:Program)(w:World)(E:Value->Shared->Prop)(Q:Value->Shared->Prop)(h:Q (.bool (decide (c<=a))) s) :
  wpAny (model prog w) A (richCompare .GtE (.int a t) (.int c u)) Q E s :=
 (PyProof.Rows.ge_int h:wpAny (model prog w) A (compareOp .GtE (.int a t) (.int c u)) Q E s)
section
open PySem.SeqAt
open PySem.AutoSeq1 (wpAny_loadPart')
open PySem.MeetsSeq PySem.MeetsSeq2 PySem.MeetsSeq3
theorem zhH(l b:Addr)(items items2:Array Value)(n n2:Nat)(dd dd2:Option Addr)(sl sl2:Array (Option Value))(ns ms:List Int)(hi:IntsAre items.toList ns)(hj:IntsAre items2.toList ms) :
  Meets (Builtin.«tuple.__ge__» ⟨[.ref l,.ref b],[]⟩)
   (fun _ R s=>s.heap.get? l=some { cls:=.type "tuple",dict:=dd,data:=.seq items n,slots:=sl }/\s.heap.get? b=some { cls:=.type "tuple",dict:=dd2,data:=.seq items2 n2,slots:=sl2 } /\
    R (.ok (.ret (.bool (zeD ns ms)))) s) :=
 .of_wp fun prog w A R s h=>by
  obtain⟨hp,g,d,tk,os⟩:=s;obtain⟨hl,hb,h⟩:=h
  have f2:=AutoSeq1.sub_tuple_tuple
  have z1:items.size=ns.length:=by rw [<- hi.length];simp
  have z2:items2.size=ms.length:=by rw [<- hj.length];simp
  wp_walk using wpAny_loadPart' hl,wpAny_loadPart' hb,wpAny_forIn_list _ (fun rest b s'=>b.1=none/\s'=⟨hp,g,d,tk,os⟩/\∃(vs ws:List Value) (ns' ms':List Int),rest=vs.zip ws /\
   IntsAre vs ns'/\IntsAre ws ms'/\ns'.length+items2.size=ms'.length+items.size/\R (.ok (.ret (.bool (zeD ns' ms')))) ⟨hp,g,d,tk,os⟩) _
  case turn =>
   rintro⟨y,x⟩ rest b s' ⟨hb',rfl,vs,ws,ns',ms',hz,hvi,hwi,hlen,hR⟩
   cases hvi with
   | nil=>rw [List.zip_nil_left] at hz;cases hz
   | cons a t hvi' =>
    cases hwi with
    | nil=>rw [List.zip_nil_right] at hz;cases hz
    | cons c u hwi' =>
     rw [List.zip_cons_cons] at hz
     injection hz with hyx hrest
     injection hyx with hy hx
     subst hy hx
     rw [zln] at hR
     simp only [List.length_cons] at hlen
     obtain⟨e,he,hiff⟩:=HT.zfx A.in1 ⟨hp,g,d,tk,os⟩ a t c u
     refine wpAny_bind (he prog w _ _ ?_)
     cases e with
     | true =>
      rw [if_pos (hiff.mp rfl)] at hR
      wp_walk
      exact⟨rfl,rfl,_,_,_,_,hrest,hvi',hwi',by omega,hR⟩
     | false =>
      rw [if_neg (fun q=>absurd (hiff.mpr q) Bool.false_ne_true)] at hR
      have hri:=zmf A.in1 ⟨hp,g,d,tk,os⟩ a t c u prog w
      wp_walk using hri
      exact⟨_,rfl,by simpa using hR⟩
  case fin =>
   rintro⟨b1,b2⟩ s' ⟨hb',rfl,vs,ws,ns',ms',hz,hvi,hwi,hlen,hR⟩
   simp only at hb'
   subst hb'
   have hv:zeD ns' ms'=decide (items2.size<=items.size):=by
    cases hvi with
    | nil =>
     cases hwi with
     | nil =>
      simp only [List.length_nil] at hlen
      rw [zhZ]
      exact(decide_eq_true (by omega)).symm
     | cons c u hw =>
      simp only [List.length_nil,List.length_cons] at hlen
      rw [zgS]
      exact(decide_eq_false (by omega)).symm
    | cons a t hv =>
     cases hwi with
     | nil =>
      simp only [List.length_nil,List.length_cons] at hlen
      rw [zgT]
      exact(decide_eq_true (by omega)).symm
     | cons c u hw =>
      rw [List.zip_cons_cons] at hz
      cases hz
   rw [hv] at hR
   wp_walk
   exact⟨_,rfl,by simpa [Builtin.Tuple.tupleCompareSizes] using hR⟩
  case h =>
   exact⟨rfl,rfl,items.toList,items2.toList,ns,ms,rfl,hi,hj,by omega,h⟩
end
section
variable {prog:Program}{w:World}{A:Around}{E:Value->Shared->Prop}{s:Shared}
theorem zlD{l b:Addr}{items items2:Array Value}{ns ms:List Int}{Q:Value->Shared->Prop}(hl:IsTup s.heap l items)(hb:IsTup s.heap b items2)(hi:IntsAre items.toList ns)(hj:IntsAre items2.toList ms)
  (hu:A.units<cLine)(h:Q (.bool (zeD ns ms)) s):wpAny (model prog w) A (compareOp .GtE (.ref l) (.ref b)) Q E s:=by
 obtain⟨⟨cls,dd,data,sl⟩,ho,hc,n,hd⟩:=id hl
 obtain⟨⟨cls2,dd2,data2,sl2⟩,ho2,hc2,n2,hd2⟩:=id hb
 simp only at hc hd hc2 hd2
 subst hc hd hc2 hd2
 exact richCompare_meets_room (op:=.GtE) ⟨_,ho,rfl⟩ ⟨_,ho2,rfl⟩ PySem.F.slot_tuple_ge PySem.F.entry_tuple_ge (PySem.F.args_tuple_ge_2 _ _) (zhH l b items items2 n n2 dd dd2 sl sl2 ns ms hi hj)
  ⟨ho,ho2,show Value.bool (zeD ns ms)≠Value.notImplemented/\Q (.bool (zeD ns ms)) s from⟨(fun x=>nomatch x),h⟩⟩ hu
end
end FL
namespace FL
open PySem L2 PySem.Spec
open PyProof.Rows hiding St
variable [Cs]
section
variable {K:PySem.W.Frag}{H:Hp}
mutual
theorem Fz.is:∀(d:PyData) (v:V),PyData.canLay0 d=true->Fz K H d v->Is K H d v
 | .none,v,_,h=>by simp only [Fz] at h;simp only [Is];exact h
 | .bool b,v,_,h=>by simp only [Fz] at h;simp only [Is];exact h
 | .int i,v,_,h=>by simp only [Fz] at h;simp only [Is];exact h
 | .str x,v,_,h=>by simp only [Fz] at h;simp only [Is];exact h
 | .list xs,v,c,h=>by
  simp only [Fz] at h;simp only [Is]
  obtain⟨a,vs,e1,h1,h2⟩:=h
  exact⟨a,vs,e1,h1.sq,zaf.is xs vs c h2⟩
 | .tuple xs,v,c,h=>by
  simp only [Fz] at h;simp only [Is]
  obtain⟨a,vs,e1,h1,h2⟩:=h
  exact⟨a,vs,e1,.inl h1,zaf.is xs vs c h2⟩
 | .dict kvs,v,c,h=>by simp [PyData.canLay0] at c
theorem zaf.is:∀(ds:List PyData) (vs:List V),PyData.canLayAll0 ds=true->zaf K H ds vs->zeR K H ds vs
 | [],vs,_,h=>by simp only [zaf] at h;simp only [zeR];exact h
 | d::ds,vs,c,h=>by
  simp only [PyData.canLayAll0,Bool.and_eq_true] at c
  simp only [zaf] at h;simp only [zeR]
  obtain⟨v,r,e1,h1,h2⟩:=h
  exact⟨v,r,e1,Fz.is d v c.1 h1,zaf.is ds r c.2 h2⟩
end
theorem Tp.is{d:PyData}{v:V}(c:PyData.canLay0 d=true)(h:Tp K H d v):Is K H d v:=by
 cases d with
 | list ds =>
  obtain⟨a,vs,e,h1,h2⟩:=h
  simp only [Is]
  exact⟨a,vs,e,h1,zaf.is ds vs c h2⟩
 | dict kvs=>simp [PyData.canLay0] at c
 | none=>exact Fz.is _ _ c h
 | bool b=>exact Fz.is _ _ c h
 | int b=>exact Fz.is _ _ c h
 | str b=>exact Fz.is _ _ c h
 | tuple b=>exact Fz.is _ _ c h
theorem Tp.int{i:Int}{v:V}(h:Tp K H (.int i) v):v=.int i:=by simpa [Tp,Fz] using h
theorem Tp.bool{i:Bool}{v:V}(h:Tp K H (.bool i) v):v=.bl i:=by simpa [Tp,Fz] using h
theorem Tp.none{v:V}(h:Tp K H .none v):v=.non:=by simpa [Tp,Fz] using h
theorem Tp.zvf{ds:List PyData}{v:V}(h:Tp K H (.tuple ds) v):∃ a vs,v=.ref a/\TAt H a vs/\zaf K H ds vs:=by simpa [Tp,Fz] using h
theorem Tp.tup{ds:List PyData}{v:V}(h:Tp K H (.tuple ds) v):∃ a vs,v=.ref a/\SqT K H a vs/\zaf K H ds vs :=
 let⟨a,vs,x,y,z⟩:=Tp.zvf h
 ⟨a,vs,x,.inl y,z⟩
theorem Tp.lst{ds:List PyData}{v:V}(h:Tp K H (.list ds) v):∃ a vs,v=.ref a/\SqL K H a vs/\zaf K H ds vs:=h
theorem zdn(i:Int):Fz K H (.int i) (.int i):=by simp [Fz]
theorem ziW(i:Bool):Fz K H (.bool i) (.bl i):=by simp [Fz]
theorem zkM{a:Addr}{vs:List V}{ds:List PyData}(h:TAt H a vs)(f:zaf K H ds vs):Fz K H (.tuple ds) (.ref a):=by simp only [Fz];exact⟨a,vs,rfl,h,f⟩
theorem zaf.atI{ds:List PyData}{vs:List V}{i:Int}{d:PyData}(h:zaf K H ds vs)(e:FL.atI ds i=some d):∃ v,L2.atI vs i=some v/\Fz K H d v:=by
 unfold FL.atI at e
 cases en:FL.ixN ds.length i with
 | none=>rw [en] at e;cases e
 | some j =>
  rw [en] at e
  obtain⟨v,e1,f⟩:=h.get (show ds[j]?=some d from e)
  refine⟨v,?_,f⟩
  unfold L2.atI
  rw [h.len,show L2.ixN ds.length i=some j from en]
  exact e1
theorem zaf.cut{ds:List PyData}{vs:List V}(h:zaf K H ds vs)(lo hi:Option Int):zaf K H (FL.cut ds lo hi) (zo1 vs lo hi):=by
 unfold FL.cut zo1
 rw [h.len]
 exact(h.drop _).take _
end
theorem zap{α:Type}{c:Bool}{r:R α}{d:α}(h:chk c r=.ok d):c=true/\r=.ok d:=by
 cases c with
 | true=>exact⟨rfl,h⟩
 | false=>exact nomatch (show(R.bad:R α)=.ok d from h)
section
variable {X:Cx}
theorem ziX{pins:List (Addr×Obj)}{σ:L2.St}{s:Shared}{H:Hp}{Q:VK}{w:Value}{ds:List D}{vs:List V}(f:zaf X.K H ds vs)(q:∀ v H',zaE H H'->Fz X.K H' (.list ds) v->Q v H')
  (h:EP X pins σ (fun v H1=>∃ p,v=.ref p/\H p=none/\H1=upd H p (.lst vs)) w s):EP X pins σ Q w s:=by
 obtain⟨v,H1,I,r,p,rfl,hp,rfl⟩:=h
 refine ztd ⟨.ref p,_,I,r,p,.lst vs,rfl,zak,trivial,fun o=>?_⟩
 rw [zjq]
 refine q _ _ (zaE.upd hp) ?_
 simp only [Fz]
 exact⟨p,vs,rfl,.inl ⟨o,zak⟩,f.mono (Fzn.of (zaE.upd hp))⟩
theorem zce:OpR X (binaryOp .Add) (rD X.K zbk):=by
 intro pins s σ H x y v u Q I rx ry h
 obtain⟨dx,dy,d,tx,ty,e,q⟩:=h
 cases dx with
 | int i =>
  cases dy with
  | int j=>cases e;exact zsC pins s σ H x y v u Q I rx ry ⟨i,j,tx.int,ty.int,q _ H (zaE.refl _) (zdn _)⟩
  | _=>exact nomatch (show(R.bad:R D)=.ok d from e)
 | list a =>
  cases dy with
  | list b =>
   obtain⟨c,e⟩:=zap (show chk (leB (a.length+b.length) lim) (.ok (.list (a++b)))=.ok d from e)
   ·cases e
    obtain⟨l,xs,rfl,sx,fx⟩:=tx.lst
    obtain⟨m,ys,rfl,sy,fy⟩:=ty.lst
    cases rx
    cases ry
    obtain⟨its,r1,⟨o,n,ho,hc,hdn,hd⟩,z1⟩:=I.list sx
    obtain⟨its2,r2,⟨o2,n2,ho2,hc2,hdn2,hd2⟩,z2⟩:=I.list sy
    obtain⟨cls,dd,data,sl⟩:=o
    obtain⟨cls2,dd2,data2,sl2⟩:=o2
    simp only at hc hd hc2 hd2 hdn hdn2
    subst hc hd hc2 hd2 hdn hdn2
    have hz:its.length+its2.length<=sizeLine:=by
     have:=zbK c
     have l0:=zaD
     rw [<- r1.length,<- r2.length,fx.len,fy.len]
     omega
    refine thn (concat_meets (Q:=EP X pins σ fun v H1=>∃ p,v=.ref p/\H p=none/\H1=upd H p (.lst (xs++ys))) ⟨_,ho,rfl⟩ ⟨_,ho2,rfl⟩ PySem.noFill_list_add PySem.seq_list_add PySem.F.slot_list_add PySem.F.entry_list_add (PySem.F.args_list_add_2 _ _)
     (list_addW l m its.toArray its2.toArray n n2 none none sl sl2 (by rw [List.size_toArray,List.size_toArray];exact hz)) ⟨ho,ho2,?_⟩) fun _ _ z=>ziX (fx.app fy) q z
    have ea:its.toArray++its2.toArray=(its++its2).toArray:=by simp
    rw [ea]
    exact⟨.ref _,_,I.zum (t':=s.toks) (r1.append r2) (by rw [List.length_append,r1.length,r2.length];exact hz),rfl,_,rfl,I.fresh,rfl⟩
  | _=>exact nomatch (show(R.bad:R D)=.ok d from e)
 | tuple a =>
  cases dy with
  | tuple b =>
   obtain⟨c,e⟩:=zap (show chk (leB (a.length+b.length) lim) (.ok (.tuple (a++b)))=.ok d from e)
   ·cases e
    obtain⟨l,xs,rfl,sx,fx⟩:=tx.tup
    obtain⟨m,ys,rfl,sy,fy⟩:=ty.tup
    have hz:xs.length+ys.length<=sizeLine:=by
     have:=zbK c
     have l0:=zaD
     rw [fx.len,fy.len]
     omega
    by_cases x0:xs=[]
    ·subst x0
     have a0:a=[]:=by have:=fx.len;cases a with|nil=>rfl|cons _ _=>simp at this
     subst a0
     cases rx
     cases ry
     obtain⟨its,r1,p1,z1⟩:=I.tuple sx
     obtain⟨its2,r2,p2,z2⟩:=I.tuple sy
     cases r1
     obtain⟨⟨cls,dd,data,sl⟩,ho,hc,n,hd⟩:=id p1
     obtain⟨⟨cls2,dd2,data2,sl2⟩,ho2,hc2,n2,hd2⟩:=id p2
     simp only at hc hd hc2 hd2
     subst hc hd hc2 hd2
     exact concat_meets ⟨_,ho,rfl⟩ ⟨_,ho2,rfl⟩ noFill_tuple_add seq_tuple_add PySem.F.slot_tuple_add PySem.F.entry_tuple_add (PySem.F.args_tuple_add_2 _ _)
      (tuple_addW0 l m #[] its2.toArray n n2 dd dd2 sl sl2 rfl) ⟨ho,ho2,⟨.ref m,H,I.tok _,rfl,q _ H (zaE.refl _) ty⟩⟩
    ·exact zqO pins s σ H _ _ v u Q I rx ry ⟨l,m,xs,ys,rfl,rfl,sx,sy,x0,hz,fun y0=>by
      subst y0
      have b0:b=[]:=by have:=fy.len;cases b with|nil=>rfl|cons _ _=>simp at this
      subst b0
      rw [List.append_nil] at q
      exact q _ H (zaE.refl _) tx,fun _ p hp=>q _ _ (zaE.upd hp) (zkM (.inl zak) ((fx.app fy).mono (Fzn.of (zaE.upd hp))))⟩
  | _=>exact nomatch (show(R.bad:R D)=.ok d from e)
 | _=>exact nomatch (show(R.bad:R D)=.ok d from e)
theorem zoz{f:Value->Value->Sem Value}{C:Int->Int->Prop}{g:Int->Int->Int}{c:Int->Int->Bool}{G:D->D->R D}(ho:OpR X f (rI C fun i j=>.int (g i j)))(hC:∀ i j,c i j=true->C i j)
  (hG:∀ dx dy d,G dx dy=.ok d->∃ i j,dx=.int i/\dy=.int j/\c i j=true/\d=.int (g i j)):OpR X f (rD X.K G):=by
 intro pins s σ H x y v u Q I rx ry h
 obtain⟨dx,dy,d,tx,ty,e,q⟩:=h
 obtain⟨i,j,rfl,rfl,cc,rfl⟩:=hG _ _ _ e
 exact ho pins s σ H x y v u Q I rx ry ⟨i,j,tx.int,ty.int,hC i j cc,q _ H (zaE.refl _) (zdn _)⟩
theorem zoY{c:Int->Int->Bool}{g:Int->Int->Int}{G:D->D->R D}(h:∀ i j,G (.int i) (.int j)=chk (c i j) (.ok (.int (g i j))))(h0:∀ dx dy,(¬ ∃ i j,dx=.int i/\dy=.int j)->G dx dy=.bad) :
  ∀ dx dy d,G dx dy=.ok d->∃ i j,dx=.int i/\dy=.int j/\c i j=true/\d=.int (g i j):=by
 intro dx dy d e
 by_cases k:∃ i j,dx=.int i/\dy=.int j
 ·obtain⟨i,j,rfl,rfl⟩:=k
  rw [h] at e
  obtain⟨cc,e⟩:=zap e
  cases e
  exact⟨i,j,rfl,rfl,cc,rfl⟩
 ·rw [h0 _ _ k] at e;cases e
theorem zkx{dx dy:D}{G:D->D->R D}(hb:∀ dx dy,(∀ i,dx≠.int i)->G dx dy=.bad)(hb2:∀ i dy,(∀ j,dy≠.int j)->G (.int i) dy=.bad)(h:¬ ∃ i j,dx=.int i/\dy=.int j):G dx dy=.bad:=by
 cases dx with
 | int i=>exact hb2 i dy fun j e=>h ⟨i,j,rfl,e⟩
 | _=>exact hb _ _ fun i e=>nomatch e
theorem zlf:OpR X (binaryOp .Sub) (rD X.K zfh):=zoz (C:=fun _ _=>True) (c:=fun _ _=>true) (g:=fun i j=>i-j)
 (fun pins s σ H x y v u Q I rx ry ⟨i,j,e1,e2,_,q⟩=>zsw pins s σ H x y v u Q I rx ry ⟨i,j,e1,e2,q⟩) (fun _ _ _=>trivial)
 (zoY (fun _ _=>rfl) fun dx dy h=>zkx (fun dx dy h=>by cases dx <;> first|rfl|exact absurd rfl (h _)) (fun i dy h=>by cases dy <;> first|rfl|exact absurd rfl (h _)) h)
theorem zoD{i j:Int}(h:zmK i j=true):IntMulOk i j:=by
 have:=zbK h
 have b:∀ k:Int,k.natAbs<2^(k.natAbs.log2+1):=fun k=>Nat.lt_log2_self
 exact mulOk_of (a:=i.natAbs.log2+1) (b:=j.natAbs.log2+1) (b i) (b j) (by omega)
theorem zoy{k:Nat}(hr:zbZ k X.A):OpR X (binaryOp .FloorDiv) (rI (fun _ j=>j≠0) fun i j=>.int (i.fdiv j)):=by
 intro pins s σ H x y v u Q I rx ry h
 obtain⟨i,j,rfl,rfl,hc,q⟩:=h
 obtain⟨t,rfl⟩:=rx
 obtain⟨t',rfl⟩:=ry
 exact floordiv_int hc ⟨.int (i.fdiv j),H,I.tok _,⟨_,rfl⟩,q⟩ (.inr (I.pyl (by have:=hr.dp;omega)))
theorem zmE{k:Nat}(hr:zbZ k X.A):OpR X (binaryOp .FloorDiv) (rD X.K zeJ):=zoz (C:=fun _ j=>j≠0) (c:=fun i j=>decide (j≠0)) (g:=fun i j=>i.fdiv j) (zoy hr) (fun i j h=>by simpa using h)
 (zoY (fun _ _=>rfl) fun dx dy h=>zkx (fun dx dy h=>by cases dx <;> first|rfl|exact absurd rfl (h _)) (fun i dy h=>by cases dy <;> first|rfl|exact absurd rfl (h _)) h)
theorem zjF:OpR X (binaryOp .Mod) (rD X.K zhb):=zoz (C:=fun _ j=>j≠0) (c:=fun i j=>decide (j≠0)) (g:=fun i j=>i.fmod j) zqN (fun i j h=>by simpa using h)
 (zoY (fun _ _=>rfl) fun dx dy h=>zkx (fun dx dy h=>by cases dx <;> first|rfl|exact absurd rfl (h _)) (fun i dy h=>by cases dy <;> first|rfl|exact absurd rfl (h _)) h)
theorem zfQ:OpR X (binaryOp .Pow) (rD X.K zew):=zoz (C:=zvd) (c:=fun i j=>decide (0<=j)&&leB j.toNat 1000000&&leB i.natAbs 18446744073709551615) (g:=fun i j=>i^j.toNat) zsx (fun i j h=>by simp only [Bool.and_eq_true,decide_eq_true_eq,leB_iff] at h;exact⟨h.1.1,by omega,by omega⟩)
 (zoY (fun _ _=>rfl) fun dx dy h=>zkx (fun dx dy h=>by cases dx <;> first|rfl|exact absurd rfl (h _)) (fun i dy h=>by cases dy <;> first|rfl|exact absurd rfl (h _)) h)
theorem zpQ:UnR X (unaryOp .USub) (rD1 X.K zpp):=by
 intro pins s σ H x v Q I rx h
 obtain⟨dx,d,tx,e,q⟩:=h
 cases dx with
 | int i=>cases e;exact zrC pins s σ H x v Q I rx ⟨i,tx.int,q _ H (zaE.refl _) (zdn _)⟩
 | _=>exact nomatch (show(R.bad:R D)=.ok d from e)
theorem zvI(hu:X.A.units+64<cLine):OpR X (compareOp .Eq) (rD X.K eqD):=by
 intro pins s σ H x y v u Q I rx ry h
 obtain⟨dx,dy,d,tx,ty,e,q⟩:=h
 obtain⟨c,e⟩:=zap e
 ·cases e
  simp only [Bool.and_eq_true] at c
  exact zsB hu pins s σ H x y v u Q I rx ry ⟨dx,dy,tx.is (SeqAt.canLay_of_shaped c.1),ty.is (SeqAt.canLay_of_shaped c.2),c.1,c.2,q _ H (zaE.refl _) (ziW _)⟩
theorem zvD(hu:X.A.units+64<cLine):OpR X (compareOp .NotEq) (rD X.K neD):=by
 intro pins s σ H x y v u Q I rx ry h
 obtain⟨dx,dy,d,tx,ty,e,q⟩:=h
 obtain⟨c,e⟩:=zap e
 ·cases e
  simp only [Bool.and_eq_true] at c
  exact zsy hu pins s σ H x y v u Q I rx ry ⟨dx,dy,tx.is (SeqAt.canLay_of_shaped c.1),ty.is (SeqAt.canLay_of_shaped c.2),c.1,c.2,q _ H (zaE.refl _) (ziW _)⟩
theorem zhW:∀ a b,FL.lexLt a b=HT.lexLt a b
 | [],[]=>rfl
 | [],_::_=>rfl
 | _::_,[]=>rfl
 | x::xs,y::ys=>by unfold FL.lexLt HT.lexLt;rw [zhW xs ys]
theorem zoA{op:CmpOp}{p:Int->Int->Bool}{q:List Int->List Int->Bool}(hi:OpR X (compareOp op) (rI0 fun i j=>.bl (p i j)))
  (ht:∀{s:Shared} {l b:Addr} {items items2:Array Value} {ns ms:List Int} {Q:Value->Shared->Prop},IsTup s.heap l items->IsTup s.heap b items2->IntsAre items.toList ns->IntsAre items2.toList ms ->
   Q (.bool (q ns ms)) s->wpAny (model X.prog X.w) X.A (compareOp op (.ref l) (.ref b)) Q X.xe s):OpR X (compareOp op) (rD X.K (ztj p q)):=by
 intro pins s σ H x y v u Q I rx ry h
 obtain⟨dx,dy,d,tx,ty,e,k⟩:=h
 cases dx with
 | int i =>
  cases dy with
  | int j=>cases e;exact hi pins s σ H x y v u Q I rx ry ⟨i,j,tx.int,ty.int,k _ H (zaE.refl _) (ziW _)⟩
  | _=>exact nomatch (show(R.bad:R D)=.ok d from e)
 | tuple a =>
  cases dy with
  | tuple b =>
   replace e:((R.of (intsOf a)).bind fun x=>(R.of (intsOf b)).bind fun y=>R.ok (PyData.bool (q x y)))=.ok d:=e
   cases ea:intsOf a with
   | none=>rw [ea] at e;cases e
   | some ns =>
    cases eb:intsOf b with
    | none=>rw [ea,eb] at e;cases e
    | some ms =>
     rw [ea,eb] at e
     cases e
     obtain⟨l,xs,rfl,sx,fx⟩:=tx.tup
     obtain⟨m,ys,rfl,sy,fy⟩:=ty.tup
     cases rx
     cases ry
     obtain⟨rfl,_⟩:=fx.ints ea
     obtain⟨rfl,_⟩:=fy.ints eb
     obtain⟨its,r1,p1,_⟩:=I.tuple sx
     obtain⟨its2,r2,p2,_⟩:=I.tuple sy
     exact ht p1 p2 (intsAre_of r1) (intsAre_of r2) ⟨.bl (q ns ms),H,I,rfl,k _ H (zaE.refl _) (ziW _)⟩
  | _=>exact nomatch (show(R.bad:R D)=.ok d from e)
 | _=>exact nomatch (show(R.bad:R D)=.ok d from e)
theorem zvE(hu:X.A.units+64<cLine):OpR X (compareOp .Lt) (rD X.K ltD):=zoA zub fun p1 p2 i1 i2 h=>HT.zhd p1 p2 i1 i2 (by omega) (by rw [<- zhW];exact h)
theorem zvF(hu:X.A.units+64<cLine):OpR X (compareOp .LtE) (rD X.K leD):=zoA zuc fun p1 p2 i1 i2 h=>zlo p1 p2 i1 i2 (by omega) h
theorem zvG(hu:X.A.units+64<cLine):OpR X (compareOp .Gt) (rD X.K gtD):=zoA zud fun p1 p2 i1 i2 h=>zlz p1 p2 i1 i2 (by omega) h
theorem zvH(hu:X.A.units+64<cLine):OpR X (compareOp .GtE) (rD X.K geD):=zoA zue fun p1 p2 i1 i2 h=>zlD p1 p2 i1 i2 (by omega) h
theorem zlg:OpR X (compareOp .Is) (rD X.K isD):=by
 intro pins s σ H x y v u Q I rx ry h
 obtain⟨dx,dy,d,tx,ty,e,q⟩:=h
 cases dy with
 | none =>
  refine zsz pins s σ H x y v u Q I rx ry ⟨ty.none,?_⟩
  have:d=.bool (decide (x=.non)):=by
   cases dx with
   | none=>have:=tx.none;subst this;cases e;rfl
   | bool b=>have:=tx.bool;subst this;cases e;rfl
   | int b=>have:=tx.int;subst this;cases e;rfl
   | str b =>
    have:x=.str b:=by simpa [Tp,Fz] using tx
    subst this;cases e;rfl
   | list b=>obtain⟨_,_,rfl,_⟩:=tx.lst;cases e;rfl
   | tuple b=>obtain⟨_,_,rfl,_⟩:=tx.tup;cases e;rfl
   | dict b=>obtain⟨_,rfl,_⟩:=tx;cases e;rfl
  subst this
  exact q _ H (zaE.refl _) (ziW _)
 | _=>exact nomatch (show(R.bad:R D)=.ok d from e)
theorem zg0:IxR X (rD X.K ixD):=by
 intro value slice pins s σ H x y v u Q I rx ry h hs
 obtain⟨dx,dy,d,tx,ty,e,q⟩:=h
 cases dx with
 | list a =>
  cases dy with
  | int i =>
   replace e:R.of (FL.atI a i)=.ok d:=e
   cases ea:FL.atI a i with
   | none=>rw [ea] at e;cases e
   | some d' =>
    rw [ea] at e
    cases e
    obtain⟨l,xs,rfl,sx,fx⟩:=tx.lst
    obtain⟨w,ew,fw⟩:=fx.atI ea
    exact zqY value slice pins s σ H _ y v u Q I rx ry ⟨l,xs,i,w,rfl,ty.int,sx,ew,q _ H (zaE.refl _) fw⟩ hs
  | _=>exact nomatch (show(R.bad:R D)=.ok d from e)
 | tuple a =>
  cases dy with
  | int i =>
   replace e:R.of (FL.atI a i)=.ok d:=e
   cases ea:FL.atI a i with
   | none=>rw [ea] at e;cases e
   | some d' =>
    rw [ea] at e
    cases e
    obtain⟨l,xs,rfl,sx,fx⟩:=tx.tup
    obtain⟨w,ew,fw⟩:=fx.atI ea
    exact zsX value slice pins s σ H _ y v u Q I rx ry ⟨l,xs,i,w,rfl,ty.int,sx,ew,q _ H (zaE.refl _) fw⟩ hs
  | _=>exact nomatch (show(R.bad:R D)=.ok d from e)
 | _=>exact nomatch (show(R.bad:R D)=.ok d from e)
theorem zdJ:zuM X (fun x H Q=>∃ d k,Tp X.K H d x/\zep d=.ok k/\Q k H):=by
 intro pins s σ H x v Q I rx h
 obtain⟨d,k,tx,e,q⟩:=h
 refine zpe pins s σ H x v Q I rx ⟨k,?_,q⟩
 cases d with
 | none=>have:=tx.none;subst this;cases e;rfl
 | bool b=>have:=tx.bool;subst this;cases e;rfl
 | int b=>have:=tx.int;subst this;cases e;rfl
 | list b =>
  obtain⟨a,vs,rfl,sx,fx⟩:=tx.lst
  cases e
  refine .inl ⟨vs,sx,?_⟩
  have:=fx.len
  cases b <;> cases vs <;> simp_all
 | tuple b =>
  obtain⟨a,vs,rfl,sx,fx⟩:=tx.tup
  cases e
  refine .inr (.inl ⟨vs,sx,?_⟩)
  have:=fx.len
  cases b <;> cases vs <;> simp_all
 | _=>exact nomatch (show(R.bad:R Bool)=.ok k from e)
end
end FL
namespace FL
open PySem L2 PySem.Spec
open PyProof.Rows hiding St
variable [Cs]
theorem zfi:fillsNumberSlot (.type "tuple") "mul"=pure false :=
 PySem.fillsNumberSlot_seq (id:="tuple.__mul__") (r:=some (.builtin "tuple.__rmul__")) PySem.F.slot_tuple_mul.lookup (by decide +kernel) PySem.F.slot_tuple_rmul.lookup (by decide +kernel)
theorem ziz:seqRepeat? (.type "tuple")=pure (some (.builtin "tuple.__mul__")):=by
 unfold seqRepeat?
 rw [PySem.seqSlot_of (T:="tuple") (name:="__mul__") (id:="tuple.__mul__") PySem.F.slot_tuple_mul.lookup (by decide +kernel),PySem.seqSlot_of (T:="tuple") (name:="__rmul__") (id:="tuple.__rmul__") PySem.F.slot_tuple_rmul.lookup (by decide +kernel)]
 rfl
section
open PySem.SeqAt
open PySem.AutoSeq1 (wpAny_loadPart')
open PySem.MeetsSeq PySem.MeetsSeq2 PySem.MeetsSeq3
theorem zgV(a:Int)(t:Tok)(l:Addr)(items:Array Value)(n:Nat)(dd:Option Addr)(sl:Array (Option Value)) :
  Meets (Builtin.«int.__rmul__» ⟨[.int a t,.ref l],[]⟩) (fun _ R s=>s.heap.get? l=some { cls:=.type "tuple",dict:=dd,data:=.seq items n,slots:=sl }/\R (.ok (.ret Value.notImplemented)) s) :=
 .of_wp fun prog w A R s h=>by obtain⟨hp,g,d,tk,os⟩:=s;obtain⟨hl,h⟩:=h;wp_walk;exact⟨_,rfl,h⟩
theorem zk4(l:Addr)(items:Array Value)(n:Nat)(dd:Option Addr)(sl:Array (Option Value))(k:Int)(t:Tok)(h0:items.isEmpty=false)(h1:2<=k)(h2:k<2^62)(h3:items.size*k.toNat<=sizeLine) :
  Meets (Builtin.«tuple.__mul__» ⟨[.ref l,.int k t],[]⟩) (fun _ R s=>s.heap.get? l=some { cls:=.type "tuple",dict:=dd,data:=.seq items n,slots:=sl } /\
   R (.ok (.ret (.ref s.heap.objs.size))) { s with heap:=s.heap.push { cls:=.type "tuple",data:=.seq ((List.replicate k.toNat items).foldl (·++·) #[]) } }) :=
 .of_wp fun prog w A R s h=>by
  obtain⟨hp,g,d,tk,os⟩:=s;obtain⟨hl,h⟩:=h
  have f1:=AutoSeq1.idx_int
  have i0:(items.size:Int)*k<=(sizeLine:Int):=by
   have e:((items.size*k.toNat:Nat):Int)=(items.size:Int)*k:=by rw [Int.natCast_mul,Int.toNat_of_nonneg (by omega)]
   rw [<- e]
   exact Int.ofNat_le.mpr h3
  have hA:¬ (decide (k < -2^63)||decide (k ≥ 2^63))=true:=by
   simp only [Bool.or_eq_true,decide_eq_true_eq,not_or]
   constructor <;> omega
  have hB:¬ (items.isEmpty||k==1)=true:=by
   rw [h0]
   simp only [Bool.false_or,beq_iff_eq]
   omega
  have hC:¬ (decide (k<=0)||items.isEmpty)=true:=by
   rw [h0]
   simp only [Bool.or_false,decide_eq_true_eq]
   omega
  have sz:(sizeLine:Int)<=16777216:=by rw [sizeLine_eq];decide
  have hD:¬ (items.size:Int)*k > (2^63-1) / 8:=by omega
  have hE:¬ Builtin.Tuple.tupleTooMany ((items.size:Int)*k)=true:=by
   unfold Builtin.Tuple.tupleTooMany
   simp only [decide_eq_true_eq]
   omega
  have hs:sizeOk (.seq (List.foldl (fun x1 x2=>x1++x2) #[] (List.replicate k.toNat items))):=by
   obtain⟨its⟩:=items
   have:=foldl_rep its k.toNat []
   rw [List.nil_append] at this
   rw [this]
   show(List.replicate k.toNat its).flatten.toArray.size<=sizeLine
   rw [List.size_toArray,len_rep,Nat.mul_comm]
   exact h3
  wp_walk
  rw [if_neg hA]
  wp_walk using wpAny_loadPart' hl
  rw [if_neg hB]
  wp_walk
  rw [if_neg hC]
  wp_walk
  rw [if_neg hD]
  wp_walk
  rw [if_neg (show ¬ (List.foldl (fun x1 x2=>x1++x2) #[] (List.replicate k.toNat items)).size > sizeLine from Nat.not_lt.mpr hs)]
  wp_walk
  exact⟨_,rfl,h⟩
end
section
variable {prog:Program}{w:World}{A:Around}{E:Value->Shared->Prop}{s:Shared}
theorem zjr{t sl:Addr}{items:Array Value}{vl vu:Value}{lo hi:Option Int}{Q:Value->Shared->Prop}(ht:IsTup s.heap t items)(hs:s.heap.IsSliceOf sl vl vu .none)(pl:IsPart vl lo)(pu:IsPart vu hi)
  (hw:HT.sIx items.size 0 lo=0/\HT.sIx items.size items.size hi=items.size)(h:Q (.ref t) s):wpAny (model prog w) A (getItem (.ref t) (.ref sl)) Q E s:=by
 obtain⟨os,hos,hcs,hds⟩:=id hs
 have hTs:s.TypeIs (.ref sl) "slice":=⟨os,hos,hcs⟩
 unfold getItem
 try with_reducible refine wpAny_holding ?_
 first|refine wpAny_bind (wpAny_pure ?_)|skip
 refine wpAny_bind (wpAny_sequenceKey ht.typeIs (by decide) ?_)
 refine wpAny_bind (wpAny_callSpecial?_slot (name:=Str.ofString "__getitem__") ht.typeIs PyProof.Rows.slot_tuple_getitem
  (wpAny_call_entry PyProof.Rows.slot_tuple_getitem ht.typeIs entry_tuple_getitem ?_ (args_tuple_getitem _ _)))
 show wpAny _ _ (Builtin.Tuple.tupleItemsOf (.ref t) >>= _) _ _ s
 refine wpAny_bind (tupleItemsOf_ ht ?_)
 refine wpAny_bind (wpAny_typeOf hTs ?_)
 rw [if_pos (by decide)]
 refine wpAny_bind (HT.zc5 hs pl pu ?_)
 show wpAny _ _ (if(((HT.sIx items.size 0 lo:Nat):Int)==0&&(1:Int)==1&&(HT.sIx items.size items.size hi-HT.sIx items.size 0 lo)==items.size)=true then _ else _) _ _ s
 rw [hw.1,hw.2,if_pos (by simp)]
 refine wpAny_bind (m:=Builtin.Tuple.tupleIsExact _) ?_
 unfold Builtin.Tuple.tupleIsExact
 refine wpAny_bind (wpAny_typeOf ht.typeIs (wpAny_pure ?_))
 rw [if_pos (by decide)]
 exact wpAny_bind (wpAny_rule (wpAny_bind (wpAny_pure (wpAny_pure ⟨_,rfl,wpAny_pure h⟩))))
end
section
variable {X:Cx}
theorem zfR:OpR X (binaryOp .Mult) (rD X.K zfj):=by
 intro pins s σ H x y v u Q I rx ry h
 obtain⟨dx,dy,d,tx,ty,e,q⟩:=h
 cases dx with
 | int i =>
  cases dy with
  | int j =>
   obtain⟨c,e⟩:=zap (show chk (zmK i j) (.ok (.int (i*j)))=.ok d from e)
   cases e
   exact zqM pins s σ H x y v u Q I rx ry ⟨i,j,tx.int,ty.int,zoD c,q _ H (zaE.refl _) (zdn _)⟩
  | _=>exact nomatch (show(R.bad:R D)=.ok d from e)
 | tuple a =>
  cases dy with
  | int k =>
   obtain⟨c,e⟩:=zap (show chk (!a.isEmpty&&leB 2 k.toNat&&leB k.toNat 1000000&&leB (a.length*k.toNat) lim) (.ok (.tuple (List.replicate k.toNat a).flatten))=.ok d from e)
   cases e
   simp only [Bool.and_eq_true,leB_iff] at c
   obtain⟨⟨⟨c0,c1⟩,c2⟩,c3⟩:=c
   obtain⟨l,xs,rfl,sx,fx⟩:=tx.tup
   have:=ty.int
   subst this
   cases rx
   obtain⟨t,rfl⟩:=ry
   obtain⟨its,r1,p1,z1⟩:=I.tuple sx
   obtain⟨⟨cls,dd,data,sl⟩,ho,hc,n,hd⟩:=id p1
   simp only at hc hd
   subst hc hd
   have hl:its.length=a.length:=by rw [<- r1.length,fx.len]
   have hz:its.length*k.toNat<=sizeLine:=by rw [hl];exact Nat.le_trans c3 zaD
   have he:its.toArray.isEmpty=false:=by
    cases its with
    | nil=>simp only [List.length_nil] at hl;cases a with|nil=>simp at c0|cons _ _=>simp at hl
    | cons _ _=>rfl
   refine wpAny_binaryOp_repeat_ref (T:="tuple") (U:="int") (by decide) ⟨_,ho,rfl⟩ (fun s'=>typeIs_int s' k t) zfi PySem.F.fills_int_mul PySem.F.slot_int_rmul ziz PySem.F.slot_int_index.lookup
    (call_meets PySem.F.slot_int_rmul (typeIs_int s k t) PySem.F.entry_int_rmul (PySem.F.args_int_rmul_2 _ _) (zgV k t l its.toArray n dd sl)
     ⟨ho,rfl,⟨_,ho,rfl⟩,call_meets PySem.F.slot_tuple_mul ⟨_,ho,rfl⟩ PySem.F.entry_tuple_mul (PySem.F.args_tuple_mul_2 _ _) (zk4 l its.toArray n dd sl k t he (by omega) (by omega) (by rw [List.size_toArray];exact hz)) ⟨ho,?_⟩⟩)
   have en:=foldl_rep its k.toNat []
   rw [List.nil_append] at en
   rw [en]
   have hp:H s.heap.objs.size=none:=I.hok.fresh (Nat.le_refl _)
   refine⟨.ref s.heap.objs.size,_,I.laid (t':=s.toks) (o:=.tup (List.replicate k.toNat xs).flatten) (fun b ob q=>Heap.get?_push_of_some _ q) (Nat.le_refl _) ⟨by rw [len_rep,Nat.mul_comm,r1.length];exact hz,_,r1.rep k.toNat,IsTup.new _ _⟩,rfl,
    q _ _ (zaE.upd hp) (zkM (.inl zak) ((fx.rep k.toNat).mono (Fzn.of (zaE.upd hp))))⟩
  | _=>exact nomatch (show(R.bad:R D)=.ok d from e)
 | _=>exact nomatch (show(R.bad:R D)=.ok d from e)
theorem zno{α:Type}{ds:List α}{lo hi:Option Int}(h1:FL.sIx ds.length 0 lo=0)(h2:FL.sIx ds.length ds.length hi=ds.length):FL.cut ds lo hi=ds:=by
 unfold FL.cut
 rw [h1,h2]
 simp
theorem ztT:SlR X (zvs X.K):=by
 intro pins s σ H x v vl vu lo hi sl Q I rx hs pl pu h
 obtain⟨dx,d,tx,e,q⟩:=h
 cases dx with
 | list a =>
  cases e
  obtain⟨l,xs,rfl,sx,fx⟩:=tx.lst
  obtain⟨T,id,h1,h2,h3⟩:=zp5 pins s σ H _ v vl vu lo hi sl (fun v H1=>∃ p,v=.ref p/\H p=none/\H1=upd H p (.lst (zo1 xs lo hi))) I rx hs pl pu ⟨l,xs,rfl,sx,fun p hp=>⟨p,rfl,hp,rfl⟩⟩
  exact⟨T,id,h1,h2,thn h3 fun _ _ z=>ziX (fx.cut lo hi) q z⟩
 | tuple a =>
  cases e
  obtain⟨l,xs,rfl,sx,fx⟩:=tx.tup
  by_cases w:HT.sIx xs.length 0 lo=0/\HT.sIx xs.length xs.length hi=xs.length
  ·cases rx
   obtain⟨its,r,ht,hz⟩:=I.tuple sx
   have hlen:its.toArray.size=xs.length:=by rw [List.size_toArray];exact r.length.symm
   refine⟨"tuple",_,PyProof.Rows.slot_tuple_getitem.lookup,ht.typeIs,zjr ht hs pl pu (by rw [hlen];exact w) ⟨.ref l,H,I,rfl,q _ H (zaE.refl _) ?_⟩⟩
   rw [fx.len] at w
   rw [zno w.1 w.2]
   exact tx
  ·exact zrN pins s σ H _ v vl vu lo hi sl Q I rx hs pl pu ⟨l,xs,rfl,sx,w,fun p hp=>q _ _ (zaE.upd hp) (zkM (.inl zak) ((fx.cut lo hi).mono (Fzn.of (zaE.upd hp))))⟩
 | _=>exact nomatch (show(R.bad:R D)=.ok d from e)
end
end FL
namespace FL
open PySem L2 PySem.Spec
open PyProof.Rows hiding St
variable [Cs]
section
variable {X:Cx}
def CallD(X:Cx)(f:Value)(g:D->R D):Prop:=zeY X f (rD0 X.K g)
theorem CallD.ds{f:Value}{g:D->R D}(h:CallD X f g):zeY X f (rDs X.K (one g)):=fun pins s σ H xs us Q I r ⟨ds,d,fz,e,q⟩=>by
 cases ds with
 | nil=>exact nomatch (show(R.bad:R D)=.ok d from e)
 | cons d0 r0 =>
  cases r0 with
  | nil =>
   simp only [zaf] at fz
   obtain⟨v,r',rfl,fv,e2⟩:=fz
   subst e2
   exact h pins s σ H _ us Q I r ⟨v,d0,d,rfl,fv.tp,e,q⟩
  | cons _ _=>exact nomatch (show(R.bad:R D)=.ok d from e)
theorem zjZ:CallD X (.builtin "len") zdY:=by
 intro pins s σ H xs us Q I r h
 obtain⟨x,dx,d,rfl,tx,e,q⟩:=h
 cases dx with
 | list a=>obtain⟨p,vs,rfl,sx,fx⟩:=tx.lst;cases e;exact zfa pins s σ H _ us Q I r ⟨p,vs,rfl,.inl sx,by rw [fx.len];exact q _ H (zaE.refl _) (zdn _)⟩
 | tuple a=>obtain⟨p,vs,rfl,sx,fx⟩:=tx.tup;cases e;exact zfa pins s σ H _ us Q I r ⟨p,vs,rfl,.inr sx,by rw [fx.len];exact q _ H (zaE.refl _) (zdn _)⟩
 | _=>exact nomatch (show(R.bad:R D)=.ok d from e)
theorem zrf:CallD X (.builtin "abs") znB:=by
 intro pins s σ H xs us Q I r h
 obtain⟨x,dx,d,rfl,tx,e,q⟩:=h
 cases dx with
 | int i=>have:=tx.int;subst this;cases e;exact zo6 pins s σ H _ us Q I r ⟨i,rfl,q _ H (zaE.refl _) (zdn _)⟩
 | _=>exact nomatch (show(R.bad:R D)=.ok d from e)
theorem zuI(hc:X.calm=true):CallD X (.builtin "all") ztv:=by
 intro pins s σ H xs us Q I r h
 obtain⟨x,dx,d,rfl,tx,e,q⟩:=h
 cases dx with
 | list a =>
  obtain⟨p,vs,rfl,sx,fx⟩:=tx.lst
  replace e:((R.of (boolsOf a)).bind fun x=>R.ok (PyData.bool (x.all id)))=.ok d:=e
  cases ea:boolsOf a with
  | none=>rw [ea] at e;cases e
  | some ns =>
   rw [ea] at e
   cases e
   obtain⟨rfl,_⟩:=fx.bools ea
   exact zo5 hc pins s σ H _ us Q I r ⟨p,ns,rfl,sx,q _ H (zaE.refl _) (ziW _)⟩
 | _=>exact nomatch (show(R.bad:R D)=.ok d from e)
theorem ztk:CallD X (.type "list") zeB:=by
 intro pins s σ H xs us Q I r h
 obtain⟨x,dx,d,rfl,tx,e,q⟩:=h
 cases dx with
 | list a =>
  obtain⟨p,vs,rfl,sx,fx⟩:=tx.lst
  cases e
  exact thn (ze9 pins s σ H _ us (fun v H1=>∃ p,v=.ref p/\H p=none/\H1=upd H p (.lst vs)) I r ⟨p,vs,rfl,.inl sx,fun l hl=>⟨l,rfl,hl,rfl⟩⟩) fun _ _ z=>ziX fx q z
 | tuple a =>
  obtain⟨p,vs,rfl,sx,fx⟩:=tx.tup
  cases e
  exact thn (ze9 pins s σ H _ us (fun v H1=>∃ p,v=.ref p/\H p=none/\H1=upd H p (.lst vs)) I r ⟨p,vs,rfl,.inr sx,fun l hl=>⟨l,rfl,hl,rfl⟩⟩) fun _ _ z=>ziX fx q z
 | _=>exact nomatch (show(R.bad:R D)=.ok d from e)
theorem zns:CallD X (.type "tuple") zcm:=by
 intro pins s σ H xs us Q I r h
 obtain⟨x,dx,d,rfl,tx,e,q⟩:=h
 cases dx with
 | list a =>
  obtain⟨p,vs,rfl,sx,fx⟩:=tx.lst
  cases e
  exact zej pins s σ H _ us Q I r ⟨p,vs,rfl,.inl ⟨sx,fun l hl=>q _ _ (zaE.upd hl) (zkM (.inl zak) (fx.mono (Fzn.of (zaE.upd hl))))⟩⟩
 | tuple a =>
  obtain⟨p,vs,rfl,sx,fx⟩:=tx.tup
  cases e
  exact zej pins s σ H _ us Q I r ⟨p,vs,rfl,.inr ⟨sx,q _ H (zaE.refl _) tx⟩⟩
 | _=>exact nomatch (show(R.bad:R D)=.ok d from e)
end
theorem Tp.ty{K:PySem.W.Frag}{H:Hp}{d:D}{x:V}(c:zuR d=true)(h:Tp K H d x):Ty K H x (.type (tyOf d)):=by
 cases d with
 | none=>have:=h.none;subst this;exact .non
 | bool b=>have:=h.bool;subst this;exact .bl b
 | int b=>have:=h.int;subst this;exact .int b
 | str b =>
  have:x=.str b:=by simpa [Tp,Fz] using h
  subst this;exact .str b
 | list b=>obtain⟨_,_,rfl,s,_⟩:=h.lst;exact .lst s
 | tuple b=>obtain⟨_,_,rfl,s,_⟩:=h.tup;exact .tup s
 | dict b=>cases c
def zih(T:String):Prop:=∀(K:PySem.W.Frag) (d:D),PySem.W.kitOne K (.type (tyOf d)) (.type T)=some (isI T d)
theorem ziN{T:String}(h0:KC.zdd "NoneType" T=some (isI T .none)) (h1:∀ b,KC.zdd "bool" T=some (isI T (.bool b))) (h2:∀ b,KC.zdd "int" T=some (isI T (.int b))) (h3:∀ b,KC.zdd "str" T=some (isI T (.str b))) (h4:∀ b,KC.zdd "list" T=some (isI T (.list b)))
  (h5:∀ b,KC.zdd "tuple" T=some (isI T (.tuple b))) (h6:∀ b,KC.zdd "dict" T=some (isI T (.dict b))):zih T:=fun K d=>by
 cases d with
 | none=>exact h0
 | bool b=>exact h1 b
 | int b=>exact h2 b
 | str b=>exact h3 b
 | list b=>exact h4 b
 | tuple b=>exact h5 b
 | dict b=>exact h6 b
theorem zqW:zih "int":=ziN (by decide +kernel) (fun _=>(by decide +kernel:KC.zdd "bool" "int"=some (isI "int" (.bool true)))) (fun _=>(by decide +kernel:KC.zdd "int" "int"=some (isI "int" (.int 0)))) (fun _=>(by decide +kernel:KC.zdd "str" "int"=some (isI "int" (.str "")))) (fun _=>(by decide +kernel:KC.zdd "list" "int"=some (isI "int" (.list [])))) (fun _=>(by decide +kernel:KC.zdd "tuple" "int"=some (isI "int" (.tuple [])))) (fun _=>(by decide +kernel:KC.zdd "dict" "int"=some (isI "int" (.dict []))))
theorem zoM:zih "bool":=ziN (by decide +kernel) (fun _=>(by decide +kernel:KC.zdd "bool" "bool"=some (isI "bool" (.bool true)))) (fun _=>(by decide +kernel:KC.zdd "int" "bool"=some (isI "bool" (.int 0)))) (fun _=>(by decide +kernel:KC.zdd "str" "bool"=some (isI "bool" (.str "")))) (fun _=>(by decide +kernel:KC.zdd "list" "bool"=some (isI "bool" (.list [])))) (fun _=>(by decide +kernel:KC.zdd "tuple" "bool"=some (isI "bool" (.tuple [])))) (fun _=>(by decide +kernel:KC.zdd "dict" "bool"=some (isI "bool" (.dict []))))
theorem kit_tuple:zih "tuple":=ziN (by decide +kernel) (fun _=>(by decide +kernel:KC.zdd "bool" "tuple"=some (isI "tuple" (.bool true)))) (fun _=>(by decide +kernel:KC.zdd "int" "tuple"=some (isI "tuple" (.int 0)))) (fun _=>(by decide +kernel:KC.zdd "str" "tuple"=some (isI "tuple" (.str "")))) (fun _=>(by decide +kernel:KC.zdd "list" "tuple"=some (isI "tuple" (.list [])))) (fun _=>(by decide +kernel:KC.zdd "tuple" "tuple"=some (isI "tuple" (.tuple [])))) (fun _=>(by decide +kernel:KC.zdd "dict" "tuple"=some (isI "tuple" (.dict []))))
theorem zoL:zih "list":=ziN (by decide +kernel) (fun _=>(by decide +kernel:KC.zdd "bool" "list"=some (isI "list" (.bool true)))) (fun _=>(by decide +kernel:KC.zdd "int" "list"=some (isI "list" (.int 0)))) (fun _=>(by decide +kernel:KC.zdd "str" "list"=some (isI "list" (.str "")))) (fun _=>(by decide +kernel:KC.zdd "list" "list"=some (isI "list" (.list [])))) (fun _=>(by decide +kernel:KC.zdd "tuple" "list"=some (isI "list" (.tuple [])))) (fun _=>(by decide +kernel:KC.zdd "dict" "list"=some (isI "list" (.dict []))))
theorem zqV:zih "str":=ziN (by decide +kernel) (fun _=>(by decide +kernel:KC.zdd "bool" "str"=some (isI "str" (.bool true)))) (fun _=>(by decide +kernel:KC.zdd "int" "str"=some (isI "str" (.int 0)))) (fun _=>(by decide +kernel:KC.zdd "str" "str"=some (isI "str" (.str "")))) (fun _=>(by decide +kernel:KC.zdd "list" "str"=some (isI "str" (.list [])))) (fun _=>(by decide +kernel:KC.zdd "tuple" "str"=some (isI "str" (.tuple [])))) (fun _=>(by decide +kernel:KC.zdd "dict" "str"=some (isI "str" (.dict []))))
section
variable {K:PySem.W.Frag}{X:Cx}{a:Expr}{f:EF}{pos:Pos}
theorem zr4{T:String}{tn:Str}{p p2:Pos}(kt:zih T)(hg:Gl X "isinstance") (hm:X.mg "isinstance"=none) (hg2:Gl X tn) (hm2:X.mg tn=none) (hv2:bootBuiltins tn=some (.type T)) (ha:PV K X a f) (hn:tn ≠ "__name__":=by decide) (hd:(tn==("__debug__":Str))=false:=by decide)
  (hs1:starEach [a,.Name tn p2] X.env=(false,eval a X.env)::starEach [.Name tn p2] X.env:=by rfl) (hs2:starEach [.Name tn p2] X.env=(false,eval (.Name tn p2) X.env)::starEach [] X.env:=by rfl) (hpl:(backTo pos (starEach [.Name tn p2] X.env)).any (·.1)=false:=by rfl) :
  PV K X (.Call (.Name "isinstance" p) [a,.Name tn p2] [] pos) (e1 (zcq T) f):=fun hK=>by
 subst hK
 refine(zfw (x:="isinstance") (id:="isinstance") zkU hg hm KC.Bt.isinstance (zbx (ha rfl) (zbx (zsk hg2 hm2 hv2 hn hd) zd6 hs2) hs1) (by decide) (by decide) hs1 hpl).weak fun σ H Q=>?_
 rintro⟨ρ,rel,q⟩
 refine goV rel q fun dx ρ1 x H1 rel1 st1 fx q1=>?_
 obtain⟨d,ed,q3⟩:=q1.zdA
 obtain⟨c,ed⟩:=zap ed
 cases ed
 exact⟨x,.ty T,_,_,rfl,(fun z=>nomatch z),fx.tp.ty c,kt X.K dx,q3.now rel1 _ (ziW _)⟩
theorem zmp{g:D->R D}{f:EF}{e:Expr}(h:PV K X e (zai (one g) (zac f zal))):PV K X e (e1 g f):=fun hK=>(h hK).weak fun σ H Q=>by
 rintro⟨ρ,rel,q⟩
 refine⟨ρ,rel,?_⟩
 have:zai (one g) (zac f zal) ρ=e1 g f ρ:=by
  unfold zai zac zal e1
  cases f ρ with
  | ok x=>rfl
  | _=>rfl
 rw [this]
 exact q
end
end FL
namespace FL
open PySem L2 PySem.Spec
open PyProof.Rows hiding St
variable [Cs]
section
variable {K:PySem.W.Frag}{ρ ρ1:En}{σ:L2.St}{H H1:Hp}{i:Nat}{d:D}
theorem zfS(h:zau ρ i=.ok d):∃ p,ρ[i]?=some (.ow p d):=by
 unfold zau at h
 cases e:ρ[i]? with
 | none=>rw [e] at h;cases h
 | some x =>
  rw [e] at h
  cases x with
  | ow p c=>cases h;exact⟨p,rfl⟩
  | _=>cases h
theorem Rel.zmJ(r:Rel K ρ σ H)(h:zau ρ i=.ok d):∃ a,At ρ σ i a/\zbF K H a d:=by
 obtain⟨p,e⟩:=zfS h
 have hl:i<σ.length:=by rw [<- r.len];exact(List.getElem?_eq_some_iff.mp e).1
 have o:=r.ok i _ _ e (List.getElem?_eq_getElem hl)
 cases es:σ[i] with
 | none=>rw [es] at o;exact o.elim
 | some v =>
  rw [es] at o
  cases v with
  | ref a=>exact⟨a,⟨⟨p,d,e⟩,by rw [List.getElem?_eq_getElem hl,es]⟩,o⟩
  | _=>exact o.elim
theorem Rel.again{a:Addr}(r:Rel K ρ1 σ H1)(h:zau ρ1 i=.ok d)(at0:At ρ σ i a):zbF K H1 a d:=by
 obtain⟨b,ab,m⟩:=r.zmJ h
 have:=at0.2.symm.trans ab.2
 cases this
 exact m
theorem Rel.zvC{a:Addr}{o:HO}(r:Rel K ρ σ H)(at0:At ρ σ i a)(m:zbF K (upd H a o) a d):Rel K (zaO ρ i d) σ (upd H a o):=by
 obtain⟨⟨p,c,e⟩,es⟩:=at0
 have hp:zaO ρ i d=ρ.set i (.ow p d):=by unfold zaO;rw [e]
 obtain⟨u,hu,ow⟩:=r.zbH ⟨i,⟨p,c,e⟩,es⟩
 have f:Fzn H (upd H a o):=fun b w eb st=>by
  rw [zao fun z=>by subst z;rw [hu] at eb;cases eb;exact ow.zc6 st]
  exact eb
 have hl:i<ρ.length:=(List.getElem?_eq_some_iff.mp e).1
 rw [hp]
 refine⟨by rw [List.length_set];exact r.len,fun j x v e1 e2=>?_,fun j k b h1 h2=>?_,r.cst.mono f⟩
 ·by_cases c:i=j
  ·subst c
   rw [List.getElem?_set_self hl] at e1
   cases e1
   rw [es] at e2
   cases e2
   exact m
  ·rw [List.getElem?_set_ne c] at e1
   refine(r.ok j x v e1 e2).mono f fun b e3 ⟨q,dd,e4⟩=>?_
   subst e3;subst e4
   refine zao fun z=>?_
   subst z
   exact c (r.sep i j b ⟨⟨p,_,e⟩,es⟩ ⟨⟨q,dd,e1⟩,e2⟩)
 ·have w:∀ j b,At (ρ.set i (.ow p d)) σ j b->At ρ σ j b:=fun j b ⟨⟨q,dd,e1⟩,e2⟩=>by
   by_cases c:i=j
   ·subst c;exact⟨⟨p,_,e⟩,e2⟩
   ·rw [List.getElem?_set_ne c] at e1;exact⟨⟨q,dd,e1⟩,e2⟩
  exact r.sep j k b (w _ _ h1) (w _ _ h2)
theorem zkj{a:Addr}{o:HO}(at0:At ρ σ i a):Stp ρ (zaO ρ i d) σ H (upd H a o):=by
 obtain⟨⟨p,c,e⟩,es⟩:=at0
 have hp:zaO ρ i d=ρ.set i (.ow p d):=by unfold zaO;rw [e]
 have hl:i<ρ.length:=(List.getElem?_eq_some_iff.mp e).1
 rw [hp]
 refine⟨fun j q=>?_,fun b w eb n=>?_⟩
 ·by_cases c:i=j
  ·subst c
   rw [List.getElem?_set_self hl,e]
   constructor
   ·rintro⟨_,z⟩;cases z;exact⟨_,rfl⟩
   ·rintro⟨_,z⟩;cases z;exact⟨_,rfl⟩
  ·rw [List.getElem?_set_ne c]
 ·rw [zao fun z=>by subst z;exact n ⟨i,⟨p,c,e⟩,es⟩]
  exact eb
end
section
variable {K:PySem.W.Frag}{X:Cx}{a b c:Expr}{f h k:EF}{pos:Pos}
theorem zvP{g:D->R D}{i:Nat}{r:List V->Hp->VK->Prop}(hr:∀ xs H Q,rD0 K g xs H Q->r xs H Q)(σ:L2.St)(H:Hp)(Q:VK)(q:tV K (m1 g i) σ H Q):tCB r (zrK (zgE i) zuT) σ H Q:=by
 obtain⟨ρ,rel,q⟩:=q
 obtain⟨d,ed,q1⟩:=q.zdA
 obtain⟨x,ex,q2⟩:=q1.zdA
 obtain⟨ad,at0,m⟩:=rel.zmJ ed
 exact⟨.ref ad,at0.2,hr _ _ _ ⟨.ref ad,d,x,rfl,m.tp,ex,fun v H' s fz=>q2.new rel s v fz⟩⟩
theorem zr3{x y:Str}{id:String}{g:D->R D}{p py:Pos}(i:Nat)(hc:CallD X (.builtin id) g)(hg:Gl X x)(hm:X.mg x=none)(hv:bootBuiltins x=some (.builtin id))(ha:PE X (.Name y py) (zgE i))(hn:x ≠ "__name__":=by decide) (hdb:(x==("__debug__":Str))=false:=by decide) :
  PV K X (.Call (.Name x p) [.Name y py] [] pos) (m1 g i):=fun hK=>by
 subst hK
 exact(zfw hc hg hm hv (zbx ha zd6) hn hdb).weak fun σ H Q q=>zvP (fun _ _ _ z=>z) σ H Q q
theorem zu4{g:D->D->R D}{i:Nat}{r:R2}(hr:∀ x y H Q,rD K g x y H Q->r x y H Q)(σ:L2.St)(H:Hp)(Q:VK)(q:tV K (m2 g i h) σ H Q):tOp r (zgE i) (tV K h) σ H Q:=by
 obtain⟨ρ,rel,q⟩:=q
 obtain⟨d,ed,q1⟩:=q.zdA
 obtain⟨ad,at0,m⟩:=rel.zmJ ed
 refine⟨.ref ad,at0.2,goV rel q1 fun dy ρ1 y H1 rel1 st1 fy q2=>?_⟩
 obtain⟨d2,ed2,q3⟩:=q2.zdA
 obtain⟨x,ex,q4⟩:=q3.zdA
 exact hr _ _ _ _ ⟨d2,dy,x,(rel1.again ed2 at0).tp,fy.tp,ex,fun v H' s fz=>q4.new rel1 s v fz⟩
theorem zqe{op:CmpOp}{g:D->D->R D}{y:Str}{py:Pos}(i:Nat)(ho:OpR X (compareOp op) (rD X.K g))(ha:PE X (.Name y py) (zgE i))(hb:PV K X b h)(hm:behindInMarks op b=false):PVT K X (.Compare (.Name y py) [op] [b] pos) (tB (m2 g i h)):=fun hK=>by
 subst hK
 exact(zjA ho ha (hb rfl) hm).weak fun σ H Q q=>goB (fun σ H Q z=>zu4 (fun _ _ _ _ z=>z) σ H Q z) σ H Q q
theorem zr2{g:D->D->R D}{y:Str}{py:Pos}(i:Nat)(ho:IxR X (rD X.K g))(ha:PE X (.Name y py) (zgE i))(hb:PV K X b h)(hs:zig b:=by exact fun _ _=>rfl):PV K X (.Subscript (.Name y py) b pos) (m2 g i h):=fun hK=>by
 subst hK
 exact(zsr ho ha (hb rfl) hs).weak fun σ H Q q=>zu4 (fun _ _ _ _ z=>z) σ H Q q
theorem zuv{g:D->D->R D}{i:Nat}{r:R2}(hr:∀ x y H Q,rD K g x y H Q->r x y H Q)(σ:L2.St)(H:Hp)(Q:VK)(q:tV K (m2r g f i) σ H Q):tOp r (tV K f) (zgE i) σ H Q:=by
 obtain⟨ρ,rel,q⟩:=q
 refine goV rel q fun dx ρ1 x H1 rel1 st1 fx q2=>?_
 obtain⟨d2,ed2,q3⟩:=q2.zdA
 obtain⟨x,ex,q4⟩:=q3.zdA
 obtain⟨ad,at0,m⟩:=rel1.zmJ ed2
 exact⟨.ref ad,at0.2,hr _ _ _ _ ⟨dx,d2,x,fx.tp,m.tp,ex,fun v H' s fz=>q4.new rel1 s v fz⟩⟩
theorem zqd{op:CmpOp}{g:D->D->R D}{y:Str}{py:Pos}(i:Nat)(ho:OpR X (compareOp op) (rD X.K g))(ha:PV K X a f)(hb:PE X (.Name y py) (zgE i))(hm:behindInMarks op (.Name y py)=false):PVT K X (.Compare a [op] [.Name y py] pos) (tB (m2r g f i)):=fun hK=>by
 subst hK
 exact(zjA ho (ha rfl) hb hm).weak fun σ H Q q=>goB (fun σ H Q z=>zuv (fun _ _ _ _ z=>z) σ H Q z) σ H Q q
theorem zqo{T:String}{tn y:Str}{p p2 py:Pos}(i:Nat)(kt:zih T)(hg:Gl X "isinstance") (hm:X.mg "isinstance"=none) (hg2:Gl X tn) (hm2:X.mg tn=none) (hv2:bootBuiltins tn=some (.type T)) (ha:PE X (.Name y py) (zgE i)) (hn:tn ≠ "__name__":=by decide) (hd:(tn==("__debug__":Str))=false:=by decide)
  (hs1:starEach [.Name y py,.Name tn p2] X.env=(false,eval (.Name y py) X.env)::starEach [.Name tn p2] X.env:=by rfl) (hs2:starEach [.Name tn p2] X.env=(false,eval (.Name tn p2) X.env)::starEach [] X.env:=by rfl) (hpl:(backTo pos (starEach [.Name tn p2] X.env)).any (·.1)=false:=by rfl) :
  PV K X (.Call (.Name "isinstance" p) [.Name y py,.Name tn p2] [] pos) (m1 (zcq T) i):=fun hK=>by
 subst hK
 refine(zfw (x:="isinstance") (id:="isinstance") zkU hg hm KC.Bt.isinstance (zbx ha (zbx (zsk hg2 hm2 hv2 hn hd) zd6 hs2) hs1) (by decide) (by decide) hs1 hpl).weak fun σ H Q=>?_
 rintro⟨ρ,rel,q⟩
 obtain⟨d,ed,q1⟩:=q.zdA
 obtain⟨x,ex,q2⟩:=q1.zdA
 obtain⟨ad,at0,m⟩:=rel.zmJ ed
 obtain⟨c,ex⟩:=zap ex
 cases ex
 exact⟨.ref ad,at0.2,.ref ad,.ty T,_,_,rfl,(fun z=>nomatch z),m.tp.ty c,kt X.K d,q2.now rel _ (ziW _)⟩
end
end FL
namespace FL
open PySem L2 PySem.Spec
open PyProof.Rows hiding St
variable [Cs]
structure SC where
 H₀:Hp
 σ₀:L2.St
 ρ₀:En
structure zds(K:PySem.W.Frag)(C:SC)(ρ:En)(σ:L2.St)(H:Hp):Prop where
 rel:Rel K ρ σ H
 keep:∀ a o,C.H₀ a=some o->¬ MA C.ρ₀ C.σ₀ a->H a=some o
 own:∀(i:Nat) a d,ρ[i]?=some (.ow false d)->σ[i]?=some (some (.ref a))->C.H₀ a=none
 pin:∀(i:Nat),(∃ d,ρ[i]?=some (.ow true d))↔∃ d,C.ρ₀[i]?=some (.ow true d)
 fix:∀(i:Nat) d,ρ[i]?=some (.ow true d)->σ[i]?=C.σ₀[i]?
 prm:∀(i:Nat) p d,C.ρ₀[i]?=some (.ow p d)->p=true
section
variable {K:PySem.W.Frag}{C:SC}{ρ ρ1:En}{σ σ1:L2.St}{H H1:Hp}
theorem zds.zvL(r:zds K C ρ σ H){a:Addr}{o:HO}(e:C.H₀ a=some o)(n:¬ MA C.ρ₀ C.σ₀ a):¬ MA ρ σ a:=by
 rintro⟨i,⟨p,d,e1⟩,e2⟩
 cases p with
 | false=>rw [r.own i a d e1 e2] at e;cases e
 | true =>
  obtain⟨d0,e0⟩:=(r.pin i).mp ⟨d,e1⟩
  exact n ⟨i,⟨true,d0,e0⟩,by rw [<- r.fix i d e1];exact e2⟩
theorem zds.step(r:zds K C ρ σ H)(rel:Rel K ρ1 σ H1)(st:Stp ρ ρ1 σ H H1):zds K C ρ1 σ H1 where
 rel:=rel
 keep:=fun a o e n=>st.kp a o (r.keep a o e n) (r.zvL e n)
 own:=fun i a d e1 e2=>by
  obtain⟨d',e'⟩:=(st.md i false).mpr ⟨d,e1⟩
  exact r.own i a d' e' e2
 pin:=fun i=>(st.md i true).symm.trans (r.pin i)
 fix:=fun i d e=>by
  obtain⟨d',e'⟩:=(st.md i true).mpr ⟨d,e⟩
  exact r.fix i d' e'
 prm:=r.prm
def Chg(dom:List Nat)(ρ ρ1:En)(σ σ1:L2.St):Prop:=σ1.length=σ.length/\∀(i:Nat),(ρ1[i]?=ρ[i]?/\σ1[i]?=σ[i]?)\/(i∈dom/\(∃ d,ρ1[i]?=some (.val d))/\∀ e,ρ[i]?≠some (.ow true e))
theorem Chg.refl{dom:List Nat}:Chg dom ρ ρ σ σ:=⟨rfl,fun _=>.inl ⟨rfl,rfl⟩⟩
theorem Chg.trans{d1 d2:List Nat}{ρ2:En}{σ2:L2.St}(a:Chg d1 ρ ρ1 σ σ1)(b:Chg d2 ρ1 ρ2 σ1 σ2):Chg (d1++d2) ρ ρ2 σ σ2:=⟨b.1.trans a.1,fun i=>by
 rcases b.2 i with⟨b1,b2⟩|⟨bm,b1,b2⟩
 ·rcases a.2 i with⟨a1,a2⟩|⟨am,a1,a2⟩
  ·exact .inl ⟨b1.trans a1,b2.trans a2⟩
  ·exact .inr ⟨List.mem_append_left _ am,by rw [b1];exact a1,a2⟩
 ·rcases a.2 i with⟨a1,a2⟩|⟨am,a1,a2⟩
  ·exact .inr ⟨List.mem_append_right _ bm,b1,fun e z=>b2 e (by rw [a1];exact z)⟩
  ·exact .inr ⟨List.mem_append_left _ am,b1,a2⟩⟩
theorem zds.chg{dom:List Nat}(r:zds K C ρ σ H)(rel:Rel K ρ1 σ1 H)(c:Chg dom ρ ρ1 σ σ1):zds K C ρ1 σ1 H where
 rel:=rel
 keep:=r.keep
 own:=fun i a d e1 e2=>by
  rcases c.2 i with⟨c1,c2⟩|⟨_,⟨d',c1⟩,c2⟩
  ·exact r.own i a d (by rw [<- c1];exact e1) (by rw [<- c2];exact e2)
  ·rw [c1] at e1;cases e1
 pin:=fun i=>by
  rcases c.2 i with⟨c1,c2⟩|⟨_,⟨d',c1⟩,c2⟩
  ·rw [c1];exact r.pin i
  ·rw [c1,<- r.pin i]
   constructor
   ·rintro⟨_,z⟩;cases z
   ·rintro⟨d,z⟩;exact absurd z (c2 d)
 fix:=fun i d e=>by
  rcases c.2 i with⟨c1,c2⟩|⟨_,⟨d',c1⟩,c2⟩
  ·rw [c2];exact r.fix i d (by rw [<- c1];exact e)
  ·rw [c1] at e;cases e
 prm:=r.prm
theorem zds.fresh(r:zds K C ρ σ H){a:Addr}(ha:H a=none):C.H₀ a=none:=by
 cases e0:C.H₀ a with
 | none=>rfl
 | some o =>
  by_cases k:MA C.ρ₀ C.σ₀ a
  ·obtain⟨i,⟨p,d0,e1⟩,e2⟩:=k
   have:=r.prm i p d0 e1
   subst this
   obtain⟨d2,e3⟩:=(r.pin i).mpr ⟨d0,e1⟩
   obtain⟨o',e',_⟩:=r.rel.zbH ⟨i,⟨true,d2,e3⟩,by rw [r.fix i d2 e3];exact e2⟩
   rw [ha] at e';cases e'
  ·rw [r.keep a o e0 k] at ha;cases ha
def zb6(K:PySem.W.Frag)(C:SC)(H:Hp)(r:R (Fl×En))(Dn:Ends):Prop:=match r with
 | .ok x=>match x.1 with
  | .nx=>∀ σ' H',zds K C x.2 σ' H'->Fzn H H'->Dn.nx σ' H'
  | .bk=>∀ σ' H',zds K C x.2 σ' H'->Fzn H H'->Dn.bk σ' H'
  | .ct=>∀ σ' H',zds K C x.2 σ' H'->Fzn H H'->Dn.ct σ' H'
  | .rt d=>∀ v σ' H',zds K C x.2 σ' H'->Fz K H' d v->Dn.rt v H'
  | .rf d=>∀ a σ' H',zds K C x.2 σ' H'->C.H₀ a=none->zbF K H' a d->Dn.rt (.ref a) H'
 | _=>False
theorem zb6.step{r:R (Fl×En)}{Dn:Ends}(f:Fzn H H1)(g:zb6 K C H r Dn):zb6 K C H1 r Dn:=by
 cases r with
 | ok x =>
  obtain⟨fl,ρ⟩:=x
  cases fl with
  | nx=>exact fun σ' H' r z=>g σ' H' r (f.trans z)
  | bk=>exact fun σ' H' r z=>g σ' H' r (f.trans z)
  | ct=>exact fun σ' H' r z=>g σ' H' r (f.trans z)
  | rt d=>exact g
  | rf d=>exact g
 | _=>exact g
theorem zb6.bnd{β:Type}{r:R β}{k:β->R (Fl×En)}{Dn:Ends}(g:zb6 K C H (r.bind k) Dn):∃ x,r=.ok x/\zb6 K C H (k x) Dn:=by
 cases r with
 | ok x=>exact⟨x,rfl,g⟩
 | _=>exact g.elim
def tS(K:PySem.W.Frag)(C:SC)(f:SF):TS:=fun Dn σ H=>∃ ρ,zds K C ρ σ H/\zb6 K C H (f ρ) Dn
theorem zlC{f:EF}{k:D×En->R (Fl×En)}{S:VK}{Dn:Ends}(rel:zds K C ρ σ H)(g:zb6 K C H ((f ρ).bind k) Dn)
  (h:∀ d ρ1 v H1,zds K C ρ1 σ H1->Stp ρ ρ1 σ H H1->Fz K H1 d v->zb6 K C H1 (k (d,ρ1)) Dn->S v H1):tV K f σ H S:=by
 obtain⟨x,e,g1⟩:=g.bnd
 refine⟨ρ,rel.rel,?_⟩
 rw [e]
 exact fun H' r s v fz=>h x.1 x.2 v H' (rel.step r s) s fz (g1.step (s.fzn rel.rel))
theorem zuu{f:TF}{k:Bool×En->R (Fl×En)}{S:Bool->Hp->Prop}{Dn:Ends}(rel:zds K C ρ σ H)(g:zb6 K C H ((f ρ).bind k) Dn)
  (h:∀ b ρ1 H1,zds K C ρ1 σ H1->Fzn H H1->zb6 K C H1 (k (b,ρ1)) Dn->S b H1):tT K f σ H S:=by
 obtain⟨x,e,g1⟩:=g.bnd
 refine⟨ρ,rel.rel,?_⟩
 rw [e]
 exact fun H' r s=>h x.1 x.2 H' (rel.step r s) (s.fzn rel.rel) (g1.step (s.fzn rel.rel))
theorem zu3{f:EF}{k:D×En->R (Fl×En)}{S:VK}{Dn:Ends}(rel:zds K C ρ σ H)(g:zb6 K C H ((f ρ).bind k) Dn)
  (h:∀ d ρ1 a H1,zds K C ρ1 σ H1->Fzn H H1->H a=none->¬ MA ρ1 σ a->zbF K H1 a d->zb6 K C H1 (k (d,ρ1)) Dn->S (.ref a) H1):tN K f σ H S:=by
 obtain⟨x,e,g1⟩:=g.bnd
 refine⟨ρ,rel.rel,?_⟩
 rw [e]
 refine fun H' r s a ha m=>h x.1 x.2 a H' (rel.step r s) (s.fzn rel.rel) ha (fun z=>?_) m (g1.step (s.fzn rel.rel))
 obtain⟨o',e',_⟩:=rel.rel.zbH (s.ma.mpr z)
 rw [ha] at e';cases e'
end
def PSV(K:PySem.W.Frag)(X:Cx)(st:Stmt)(f:SF):Prop:=X.K=K->∀ C,PS X st (tS K C f)
def zjm(K:PySem.W.Frag)(X:Cx)(st:List Stmt)(f:SF):Prop:=X.K=K->∀ C,PSs X st (tS K C f)
theorem _root_.L2.PS.weak{X:Cx}{e:Stmt}{t t':TS}(h:PS X e t)(w:∀ Dn σ H,t' Dn σ H->t Dn σ H):PS X e t':=fun pins s σ H Dn I q=>h pins s σ H Dn I (w Dn σ H q)
theorem _root_.L2.PSs.weak{X:Cx}{e:List Stmt}{t t':TS}(h:PSs X e t)(w:∀ Dn σ H,t' Dn σ H->t Dn σ H):PSs X e t':=fun pins s σ H Dn I q=>h pins s σ H Dn I (w Dn σ H q)
def tG(K:PySem.W.Frag)(dom:List Nat)(g:GF):TG:=fun v σ H Q=>∃ ρ d ρ1,Rel K ρ σ H/\Fz K H d v/\g d ρ=.ok ρ1/\∀ σ1,Rel K ρ1 σ1 H->Chg dom ρ ρ1 σ σ1->Q σ1 H
def tGs(K:PySem.W.Frag)(dom:List Nat)(gs:List GF):TGs:=fun vs σ H Q=>∃ ρ ds ρ1,Rel K ρ σ H/\zaf K H ds vs/\zh5 gs ds ρ=.ok ρ1/\∀ σ1,Rel K ρ1 σ1 H->Chg dom ρ ρ1 σ σ1->Q σ1 H
def PVG(K:PySem.W.Frag)(X:Cx)(dom:List Nat)(e:Expr)(g:GF):Prop:=X.K=K->PG X e (tG K dom g)
def ztI(K:PySem.W.Frag)(X:Cx)(dom:List Nat)(e:List Expr)(g:List GF):Prop:=X.K=K->PGs X e (tGs K dom g)
theorem _root_.L2.PG.weak{X:Cx}{e:Expr}{t t':TG}(h:PG X e t)(w:∀ v σ H Q,t' v σ H Q->t v σ H Q):PG X e t':=fun pins s σ H v u Q I r q=>h pins s σ H v u Q I r (w v σ H Q q)
theorem _root_.L2.PGs.weak{X:Cx}{e:List Expr}{t t':TGs}(h:PGs X e t)(w:∀ v σ H Q,t' v σ H Q->t v σ H Q):PGs X e t':=fun pins s σ H v u Q I r q=>h pins s σ H v u Q I r (w v σ H Q q)
theorem Rel.set{K:PySem.W.Frag}{ρ:En}{σ:L2.St}{H:Hp}{i:Nat}{x:Sl}{v:Option V}(r:Rel K ρ σ H)(o:zrk K H x v)(s:∀ a p d,x=.ow p d->v=some (.ref a)->¬ MA ρ σ a):Rel K (ρ.set i x) (σ.set i v) H:=by
 refine⟨by rw [List.length_set,List.length_set];exact r.len,fun j y w e1 e2=>?_,fun j k b h1 h2=>?_,r.cst⟩
 ·by_cases c:i=j
  ·subst c
   by_cases hl:i<ρ.length
   ·rw [List.getElem?_set_self hl] at e1
    rw [List.getElem?_set_self (by rw [<- r.len];exact hl)] at e2
    cases e1;cases e2
    exact o
   ·rw [List.getElem?_eq_none (by rw [List.length_set];omega)] at e1;cases e1
  ·rw [List.getElem?_set_ne c] at e1 e2
   exact r.ok j y w e1 e2
 ·have w:∀ j b,At (ρ.set i x) (σ.set i v) j b->(j=i/\(∃ p d,x=.ow p d)/\v=some (.ref b))\/(j≠i/\At ρ σ j b):=fun j b ⟨⟨q,dd,e1⟩,e2⟩=>by
   by_cases c:i=j
   ·subst c
    have hl:i<ρ.length:=by
     have:=(List.getElem?_eq_some_iff.mp e1).1
     rwa [List.length_set] at this
    rw [List.getElem?_set_self hl] at e1
    rw [List.getElem?_set_self (by rw [<- r.len];exact hl)] at e2
    cases e1;cases e2
    exact .inl ⟨rfl,⟨q,dd,rfl⟩,rfl⟩
   ·rw [List.getElem?_set_ne c] at e1 e2
    exact .inr ⟨fun z=>c z.symm,⟨q,dd,e1⟩,e2⟩
  rcases w j b h1 with⟨rfl,⟨p,d,e⟩,e'⟩|⟨n1,a1⟩
  ·rcases w k b h2 with⟨rfl,_,_⟩|⟨n2,a2⟩
   ·rfl
   ·exact absurd ⟨k,a2⟩ (s b p d e e')
  ·rcases w k b h2 with⟨rfl,⟨p,d,e⟩,e'⟩|⟨n2,a2⟩
   ·exact absurd ⟨j,a1⟩ (s b p d e e')
   ·exact r.sep j k b a1 a2
section
variable {K:PySem.W.Frag}{X:Cx}{pos:Pos}
theorem zkK{i:Nat}{d:D}{ρ ρ1:En}(h:gN i d ρ=.ok ρ1):ρ1=ρ.set i (.val d)/\(∀ e,ρ[i]?≠some (.ow true e))/\i<ρ.length:=by
 unfold gN at h
 cases e:ρ[i]? with
 | none=>rw [e] at h;cases h
 | some x =>
  rw [e] at h
  have hl:i<ρ.length:=(List.getElem?_eq_some_iff.mp e).1
  cases x with
  | no=>cases h;exact⟨rfl,(fun _ z=>nomatch z),hl⟩
  | val c=>cases h;exact⟨rfl,(fun _ z=>nomatch z),hl⟩
  | ow p c =>
   cases p with
   | true=>cases h
   | false=>cases h;exact⟨rfl,(fun _ z=>nomatch z),hl⟩
theorem zia{ρ:En}{σ:L2.St}{i:Nat}{d:D}{v:Option V}(n:∀ e,ρ[i]?≠some (.ow true e))(hl:i<ρ.length):Chg [i] ρ (ρ.set i (.val d)) σ (σ.set i v):=⟨List.length_set,fun j=>by
 by_cases c:i=j
 ·subst c
  exact .inr ⟨List.mem_singleton.mpr rfl,⟨d,List.getElem?_set_self hl⟩,n⟩
 ·exact .inl ⟨List.getElem?_set_ne c,List.getElem?_set_ne c⟩⟩
theorem zog{i:Nat}{x:Str}(hN:X.N.Nodup)(hi:X.N[i]?=some x)(hx:Loc X.env.scope x)(hf:X.fn x=true\/X.env.scope.names.lookup x=some .local:=by first|exact .inl rfl|exact .inr rfl|assumption):PVG K X [i] (.Name x pos) (gN i):=fun _=>(zqE hN hi hx hf).weak fun v σ H Q=>by
 rintro⟨ρ,d,ρ1,rel,fz,e,q⟩
 obtain⟨rfl,n,hl⟩:=zkK e
 exact q _ (rel.set fz fun _ _ _ z=>nomatch z) (zia n hl)
theorem zcc:ztI K X [] [] []:=fun _=>zqD.weak fun vs σ H Q=>by
 rintro⟨ρ,ds,ρ1,rel,fz,e,q⟩
 cases ds with
 | nil =>
  cases e
  simp only [zaf] at fz
  exact⟨fz,q _ rel .refl⟩
 | cons _ _=>cases e
theorem zaj{α β:Type}{r:R α}{k:α->R β}{b:β}(h:r.bind k=.ok b):∃ a,r=.ok a/\k a=.ok b:=by
 cases r with
 | ok a=>exact⟨a,rfl,h⟩
 | _=>cases h
theorem zat{e:Expr}{es:List Expr}{g:GF}{gs:List GF}{d1 d2:List Nat}(h1:PVG K X d1 e g)(h2:ztI K X d2 es gs)
  (hs:(assignEach (e::es) X.env).map (·.2)=assign e X.env::(assignEach es X.env).map (·.2):=by rfl):ztI K X (d1++d2) (e::es) (g::gs):=fun hK=>(zos (h1 hK) (h2 hK) hs).weak fun vs σ H Q=>by
 rintro⟨ρ,ds,ρ1,rel,fz,e,q⟩
 cases ds with
 | nil=>cases e
 | cons d ds =>
  simp only [zaf] at fz
  obtain⟨v,r,rfl,f1,f2⟩:=fz
  obtain⟨ρ2,e2,e3⟩:=zaj (show(g d ρ).bind (fun ρ1=>zh5 gs ds ρ1)=.ok ρ1 from e)
  exact⟨v,r,rfl,ρ,d,ρ2,rel,f1,e2,fun σ1 rel1 c1=>⟨ρ2,ds,ρ1,rel1,f2,e3,fun σ2 rel2 c2=>q σ2 rel2 (c1.trans c2)⟩⟩
theorem zkL:∀{gs:List GF} {ds:List D} {ρ ρ1:En},zh5 gs ds ρ=.ok ρ1->ds.length=gs.length
 | [],[],_,_,_=>rfl
 | [],_::_,_,_,e=>by cases e
 | _::_,[],_,_,e=>by cases e
 | g::gs,d::ds,ρ,ρ1,e=>by
  obtain⟨ρ2,e2,e3⟩:=zaj (show(g d ρ).bind (fun ρ1=>zh5 gs ds ρ1)=.ok ρ1 from e)
  simp [zkL e3]
theorem zcR{es:List Expr}{k:Nat}{gs:List GF}{dom:List Nat}(hc:X.calm=true)(h:ztI K X dom es gs)
  (hn:(assignEach es X.env).length=gs.length:=by rfl)(hst:(assignEach es X.env).findIdx? (·.1)=none:=by rfl):PVG K X dom (.Tuple es k pos) (gT gs):=fun hK=>by
 subst hK
 refine(zsi hc (h rfl) hn hst).weak fun v σ H Q=>?_
 rintro⟨ρ,d,ρ1,rel,fz,e,q⟩
 cases d with
 | tuple ds =>
  simp only [Fz] at fz
  obtain⟨a,vs,rfl,s,f⟩:=fz
  replace e:zh5 gs ds ρ=.ok ρ1:=e
  exact⟨a,vs,rfl,.inl s,by rw [f.len,zkL e],ρ,ds,ρ1,rel,f,e,q⟩
 | _=>cases e
variable {st:Stmt}{rest:List Stmt}{s t:SF}{e:Expr}{f:EF}
theorem zay:zjm K X [] sNx:=fun _ C=>zmr.weak fun Dn σ H=>by
 rintro⟨ρ,rel,g⟩
 exact g σ H rel (Fzn.refl H)
theorem zae(h1:PSV K X st s)(h2:zjm K X rest t):zjm K X (st::rest) (zav s t):=fun hK C=>(zoo (h1 hK C) (h2 hK C)).weak fun Dn σ H=>by
 rintro⟨ρ,rel,g⟩
 refine⟨ρ,rel,?_⟩
 obtain⟨x,ex,g1⟩:=g.bnd
 rw [ex]
 obtain⟨fl,ρ1⟩:=x
 cases fl with
 | nx=>exact fun σ' H' r z=>⟨ρ1,r,g1.step z⟩
 | bk=>exact g1
 | ct=>exact g1
 | rt d=>exact g1
 | rf d=>exact g1
theorem zaM(h1:PSV K X st s):zjm K X [st] s:=fun hK C=>zjB (h1 hK C)
theorem zmm:PSV K X st zlV:=fun _ C=>zoq.weak fun Dn σ H=>by
 rintro⟨ρ,rel,g⟩
 exact g.elim
theorem zjw(he:PV K X e f):PSV K X (.Return (some e) pos) (zaw f):=fun hK C=>(zms (he hK)).weak fun Dn σ H=>by
 rintro⟨ρ,rel,g⟩
 exact zlC rel g fun d ρ1 v H1 rel1 st1 fz g1=>g1 v σ H1 rel1 fz
theorem zdx(he:PVN K X e f):PSV K X (.Return (some e) pos) (zbt f):=fun hK C=>(zms (he hK)).weak fun Dn σ H=>by
 rintro⟨ρ,rel,g⟩
 exact zu3 rel g fun d ρ1 a H1 rel1 fz ha n m g1=>g1 a σ H1 rel1 (rel.fresh ha) m
theorem zaN{c:Expr}{a b:List Stmt}{tc:TF}(hc:PVT K X c tc)(ha:zjm K X a s)(hb:zjm K X b t):PSV K X (.If c a b pos) (sIf tc s t):=fun hK C=>(zsd (hc hK) (ha hK C) (hb hK C)).weak fun Dn σ H=>by
 rintro⟨ρ,rel,g⟩
 refine zuu rel g fun cb ρ1 H1 rel1 fz g1=>?_
 cases cb with
 | true=>exact zoP ⟨ρ1,rel1,g1⟩
 | false=>exact zoQ ⟨ρ1,rel1,g1⟩
theorem zhN{tg:Expr}{g:GF}{dom:List Nat}(he:PV K X e f)(hg:PVG K X dom tg g)(hs:swapsWithSole [tg] e pos.line X.env=pure false:=by rfl)(hw:swappedStores [tg] e X.env=pure none:=by rfl)
  (h1:(assignEach [tg] X.env).map (·.2)=[assign tg X.env]:=by rfl):PSV K X (.Assign [tg] e pos) (zba g f):=fun hK C=>(zpl (he hK) (hg hK) hs hw h1).weak fun Dn σ H=>by
 rintro⟨ρ,rel,q⟩
 refine zlC rel q fun d ρ1 v H1 rel1 st1 fz q1=>?_
 obtain⟨ρ2,e2,q2⟩:=q1.bnd
 exact⟨ρ1,d,ρ2,rel1.rel,fz,e2,fun σ1 rel2 c=>q2 σ1 H1 (rel1.chg rel2 c) (Fzn.refl H1)⟩
theorem zqi{i:Nat}{x:Str}{pos':Pos}(hN:X.N.Nodup)(hi:X.N[i]?=some x)(hx:Loc X.env.scope x)(he:PV K X e f)(hs:swapsWith e (some (.Name x pos')) pos.line X.env=pure false:=by rfl)(hf:X.fn x=true\/X.env.scope.names.lookup x=some .local:=by first|exact .inl rfl|exact .inr rfl|assumption) :
  PSV K X (.Assign [.Name x pos'] e pos) (zba (gN i) f):=fun hK C=>(zpj hN hi hx (he hK) hs hf).weak fun Dn σ H=>by
 rintro⟨ρ,rel,q⟩
 refine zlC rel q fun d ρ1 v H1 rel1 st1 fz q1=>?_
 obtain⟨ρ2,e2,q2⟩:=q1.bnd
 obtain⟨rfl,n,hl⟩:=zkK e2
 exact q2 _ H1 (rel1.chg (rel1.rel.set fz fun _ _ _ z=>nomatch z) (zia n hl)) (Fzn.refl H1)
theorem zs5{i:Nat}{C:SC}(Dn:Ends)(σ:L2.St)(H:Hp)(q0:tS K C (zdw i f) Dn σ H):zrM (tN K f) (zna i) Dn σ H:=by
 revert q0
 rintro⟨ρ,rel,q⟩
 refine zu3 rel q fun d ρ1 a H1 rel1 fz ha n m q1=>?_
 have hf:=rel.fresh ha
 replace q1:zb6 K C H1 (match ρ1[i]? with|some (.ow true _)=>.bad|some _=>.ok (.nx,ρ1.set i (.ow false d))|none=>.bad) Dn:=q1
 have fin:(∀ e,ρ1[i]?≠some (.ow true e))->i<ρ1.length->zds K C (ρ1.set i (.ow false d)) (σ.set i (some (.ref a))) H1:=fun np hl=>by
  have hls:i<σ.length:=by rw [<- rel1.rel.len];exact hl
  refine⟨rel1.rel.set (show zrk K H1 (.ow false d) (some (.ref a)) from m) fun b p c e1 e2=>by cases e2;exact n,rel1.keep,fun j b c e1 e2=>?_,fun j=>?_,fun j c e1=>?_,rel1.prm⟩
  ·by_cases k:i=j
   ·subst k
    rw [List.getElem?_set_self hls] at e2
    cases e2
    exact hf
   ·rw [List.getElem?_set_ne k] at e1 e2
    exact rel1.own j b c e1 e2
  ·by_cases k:i=j
   ·subst k
    rw [List.getElem?_set_self hl,<- rel1.pin i]
    constructor
    ·rintro⟨_,z⟩;cases z
    ·rintro⟨c,z⟩;exact absurd z (np c)
   ·rw [List.getElem?_set_ne k];exact rel1.pin j
  ·by_cases k:i=j
   ·subst k
    rw [List.getElem?_set_self hl] at e1;cases e1
   ·rw [List.getElem?_set_ne k] at e1 ⊢
    exact rel1.fix j c e1
 cases e1:ρ1[i]? with
 | none=>rw [e1] at q1;exact q1.elim
 | some y =>
  have hl:i<ρ1.length:=(List.getElem?_eq_some_iff.mp e1).1
  rw [e1] at q1
  cases y with
  | no=>exact q1 _ H1 (fin (fun e z=>by rw [e1] at z;cases z) hl) (Fzn.refl H1)
  | val c=>exact q1 _ H1 (fin (fun e z=>by rw [e1] at z;cases z) hl) (Fzn.refl H1)
  | ow p c =>
   cases p with
   | true=>exact q1.elim
   | false=>exact q1 _ H1 (fin (fun e z=>by rw [e1] at z;cases z) hl) (Fzn.refl H1)
theorem zqk{i:Nat}{x:Str}{pos':Pos}(hN:X.N.Nodup)(hi:X.N[i]?=some x)(hx:Loc X.env.scope x)(he:PVN K X e f)(hs:swapsWith e (some (.Name x pos')) pos.line X.env=pure false:=by rfl)(hf:X.fn x=true\/X.env.scope.names.lookup x=some .local:=by first|exact .inl rfl|exact .inr rfl|assumption) :
  PSV K X (.Assign [.Name x pos'] e pos) (zdw i f):=fun hK C=>(zpj hN hi hx (he hK) hs hf).weak fun Dn σ H q=>zs5 Dn σ H q
theorem zfM(i:Nat)(h:PSV K X st s):PSV K X st (zgy i s):=fun hK C=>by
 have h1:PS X st (fun Dn σ H=>∃ a u,H a=some u/\Own u/\∀ o,tS K C s Dn σ (upd H a (.frz o u))):=fun pins sh σ H Dn I ⟨a,u,e,ow,q⟩=>by
  obtain⟨o,ho⟩:=(I.hok a u e).some
  exact h hK C pins sh σ _ Dn (zuy I e ow ho) (q o)
 refine h1.weak fun Dn σ H=>?_
 rintro⟨ρ,rel,g⟩
 unfold zgy at g
 cases e:ρ[i]? with
 | none=>rw [e] at g;exact g.elim
 | some x =>
  rw [e] at g
  cases x with
  | ow p d =>
   cases p with
   | true=>exact g.elim
   | false =>
    obtain⟨a,at0,m⟩:=rel.rel.zmJ (d:=d) (show zau ρ i=.ok d by unfold zau;rw [e])
    obtain⟨u,e1,ow⟩:=m.own
    refine⟨a,u,e1,ow,fun o=>⟨ρ.set i (.val d),?_,g.step ?_⟩⟩
    ·have hl:i<ρ.length:=(List.getElem?_eq_some_iff.mp e).1
     have hfr:=rel.own i a d e at0.2
     have fz:Fzn H (upd H a (.frz o u)):=fun b w e2 sy=>by
      rw [zao fun z=>by subst z;rw [e1] at e2;cases e2;exact ow.zc6 sy]
      exact e2
     have fd:Fz K (upd H a (.frz o u)) d (.ref a):=by
      cases d with
      | list ds =>
       obtain⟨vs,h1,h2⟩:=m
       rw [e1] at h1
       cases h1
       simp only [Fz]
       exact⟨a,vs,rfl,.inl ⟨o,zak⟩,h2.mono fz⟩
      | dict kvs =>
       simp only [Fz]
       rcases m with⟨kk,h1,h2⟩|⟨kk,h1,h2⟩
       ·rw [e1] at h1
        cases h1
        exact⟨a,o,rfl,.inl ⟨kk,zak,h2.mono fz⟩⟩
       ·rw [e1] at h1
        cases h1
        exact⟨a,o,rfl,.inr ⟨kk,zak,h2.mono fz⟩⟩
      | _=>exact m.elim
     have atw:∀ j b,At (ρ.set i (.val d)) σ j b->j≠i/\At ρ σ j b:=fun j b ⟨⟨q,dd,e1⟩,e2⟩=>by
      by_cases c:i=j
      ·subst c
       rw [List.getElem?_set_self hl] at e1;cases e1
      ·rw [List.getElem?_set_ne c] at e1
       exact⟨fun z=>c z.symm,⟨q,dd,e1⟩,e2⟩
     refine⟨⟨by rw [List.length_set];exact rel.rel.len,fun j y w e2 e3=>?_,fun j k b h1 h2=>rel.rel.sep j k b (atw j b h1).2 (atw k b h2).2,rel.rel.cst.mono fz⟩,fun b w e2 n=>?_,fun j b c e2 e3=>?_,fun j=>?_,fun j c e2=>?_,rel.prm⟩
     ·by_cases c:i=j
      ·subst c
       rw [List.getElem?_set_self hl] at e2
       cases e2
       rw [at0.2] at e3
       cases e3
       exact fd
      ·rw [List.getElem?_set_ne c] at e2
       refine(rel.rel.ok j y w e2 e3).mono fz fun b e4 ⟨p,dd,e5⟩=>?_
       subst e4;subst e5
       refine zao fun z=>?_
       subst z
       exact c (rel.rel.sep i j b at0 ⟨⟨p,dd,e2⟩,e3⟩)
     ·rw [zao fun z=>by subst z;rw [hfr] at e2;cases e2]
      exact rel.keep b w e2 n
     ·by_cases c:i=j
      ·subst c
       rw [List.getElem?_set_self hl] at e2;cases e2
      ·rw [List.getElem?_set_ne c] at e2
       exact rel.own j b _ e2 e3
     ·by_cases c:i=j
      ·subst c
       rw [List.getElem?_set_self hl,<- rel.pin i,e]
       constructor
       ·rintro⟨_,z⟩;cases z
       ·rintro⟨_,z⟩;cases z
      ·rw [List.getElem?_set_ne c];exact rel.pin j
     ·by_cases k:i=j
      ·subst k
       rw [List.getElem?_set_self hl] at e2;cases e2
      ·rw [List.getElem?_set_ne k] at e2
       exact rel.fix j c e2
    ·exact fun b w e2 sy=>by
      rw [zao fun z=>by subst z;rw [e1] at e2;cases e2;exact ow.zc6 sy]
      exact e2
  | _=>exact g.elim
theorem zmS{ρ:En}{i:Nat}{c:List D}(h:zbr ρ i=.ok c):∃ p,ρ[i]?=some (.ow p (.list c)):=by
 unfold zbr at h
 cases e:ρ[i]? with
 | none=>rw [e] at h;cases h
 | some x =>
  rw [e] at h
  cases x with
  | ow p d =>
   cases d with
   | list a=>cases h;exact⟨p,rfl⟩
   | _=>cases h
  | _=>cases h
theorem Rel.zrp{ρ:En}{σ:L2.St}{H:Hp}{i:Nat}{c:List D}(r:Rel K ρ σ H)(h:zbr ρ i=.ok c):∃ a vs,At ρ σ i a/\H a=some (.lst vs)/\zaf K H c vs:=by
 obtain⟨p,e⟩:=zmS h
 obtain⟨a,at0,m⟩:=r.zmJ (d:=.list c) (show zau ρ i=.ok (.list c) by unfold zau;rw [e])
 obtain⟨vs,h1,h2⟩:=m
 exact⟨a,vs,at0,h1,h2⟩
theorem Rel.zuk{ρ ρ1:En}{σ:L2.St}{H1:Hp}{i:Nat}{c:List D}{a:Addr}(r:Rel K ρ1 σ H1)(h:zbr ρ1 i=.ok c)(at0:At ρ σ i a):∃ vs,At ρ1 σ i a/\H1 a=some (.lst vs)/\zaf K H1 c vs:=by
 obtain⟨b,vs,ab,h1,h2⟩:=r.zrp h
 have:=at0.2.symm.trans ab.2
 cases this
 exact⟨vs,ab,h1,h2⟩
theorem zoX{C:SC}{ρ:En}{σ:L2.St}{H:Hp}{i:Nat}{a:Addr}{o:HO}{d:D}{Dn:Ends}(rel:zds K C ρ σ H)(at0:At ρ σ i a)(m:zbF K (upd H a o) a d)(g:zb6 K C H (.ok (.nx,zaO ρ i d)) Dn):Dn.nx σ (upd H a o):=by
 have st:Stp ρ (zaO ρ i d) σ H (upd H a o):=zkj at0
 exact g σ _ (rel.step (rel.rel.zvC at0 m) st) (st.fzn rel.rel)
theorem znc{C:SC}{ρ:En}{σ:L2.St}{H:Hp}{i:Nat}{a:Addr}{o:HO}(rel:zds K C ρ σ H)(at0:At ρ σ i a):Fzn H (upd H a o):=(zkj (d:=.none) at0).fzn rel.rel
theorem zg5{y name:Str}{py apos cpos:Pos}(i:Nat)(hnm:name="append") (ha:PE X (.Name y py) (zgE i)) (he:PV K X e f)
  (hbase:attributeBase (.Name y py) name X.env (eval (.Name y py) X.env)=eval (.Name y py) X.env:=by rfl)
  (hfew:((backTo cpos (starEach [e] X.env)).all (fun x=>!x.1)&&(backToKw cpos (keywordEach [] X.env)).all (fun x=>x.1.isSome)&&decide ([e].length+([]:List Keyword).length+(if([]:List Keyword).isEmpty then 0 else 1)<30))=true:=by rfl)
  (hline:(apos.endLine==cpos.line)=true:=by rfl) (hst:starEach [e] X.env=(false,eval e X.env)::starEach [] X.env:=by rfl) (hplain:(backTo cpos (starEach [] X.env)).any (·.1)=false:=by rfl)
  (hs:swapsWith (.Call (.Attribute (.Name y py) name apos) [e] [] cpos) none pos.line X.env=pure false:=by rfl):PSV K X (.Expr (.Call (.Attribute (.Name y py) name apos) [e] [] cpos) pos) (zji i zjk f):=fun hK C=>by
 subst hK
 subst hnm
 refine(zmt (zqH PySem.F.plainAttrs_list PySem.F.slot_list_append PySem.F.type_list_append zfT ha (zbx (he rfl) zd6 hst) hbase hfew hline hst hplain) hs).weak fun Dn σ H=>?_
 rintro⟨ρ,rel,g⟩
 obtain⟨d,ed,g1⟩:=g.bnd
 obtain⟨a,vs0,at0,h0,_⟩:=rel.rel.zrp ed
 refine⟨.ref a,at0.2,.inl ⟨rfl,vs0,SqL.of h0⟩,zlC rel g1 fun dx ρ1 v H1 rel1 st1 fz g2=>?_⟩
 obtain⟨c,ec,g3⟩:=g2.bnd
 obtain⟨c',ec',g4⟩:=g3.bnd
 obtain⟨vs,at1,h1,h2⟩:=rel1.rel.zuk ec at0
 obtain⟨cc,ec'⟩:=zap ec'
 cases ec'
 have hz:vs.length<sizeLine:=by
  have:=zbK cc
  have l0:=zaD
  rw [h2.len];omega
 refine⟨a,vs,v,rfl,rfl,h1,hz,zoX (d:=.list (c++[dx])) rel1 at1 ⟨_,zak,(h2.app ?_).mono (znc rel1 at1)⟩ g4⟩
 simp only [zaf]
 exact⟨v,[],rfl,fz,rfl⟩
theorem zhM{y:Str}{py ps':Pos}{ke:Expr}{k:EF}(i:Nat)(ha:PE X (.Name y py) (zgE i))(he:PV K X e f)(hk:PV K X ke k)
  (has:∀ v,assign (.Subscript (.Name y py) ke ps') X.env v=(do
   let ov <- holding [v] (eval (.Name y py) X.env)
   let iv <- holding [v,ov] (eval ke X.env)
   standAt ps'
   holding [v,ov,iv] (setItem ov iv v)
   release [v,ov,iv] []):=by intro _;rfl)
  (hs:swapsWithSole [.Subscript (.Name y py) ke ps'] e pos.line X.env=pure false:=by rfl)(hw:swappedStores [.Subscript (.Name y py) ke ps'] e X.env=pure none:=by rfl)
  (h1:(assignEach [.Subscript (.Name y py) ke ps'] X.env).map (·.2)=[assign (.Subscript (.Name y py) ke ps') X.env]:=by rfl):PSV K X (.Assign [.Subscript (.Name y py) ke ps'] e pos) (setM i f k):=fun hK C=>by
 subst hK
 refine(zpl (he rfl) (zsj ha (hk rfl) set_list has) hs hw h1).weak fun Dn σ H=>?_
 rintro⟨ρ,rel,g⟩
 refine zlC rel g fun dx ρ1 v H1 rel1 st1 fz g1=>?_
 obtain⟨d,ed,g2⟩:=g1.bnd
 obtain⟨a,vs0,at0,h0,_⟩:=rel1.rel.zrp ed
 refine⟨.ref a,at0.2,zlC rel1 g2 fun dk ρ2 kv H2 rel2 st2 fk g3=>?_⟩
 obtain⟨c,ec,g4⟩:=g3.bnd
 obtain⟨vs,at1,h1,h2⟩:=rel2.rel.zuk ec at0
 cases dk with
 | int j =>
  obtain⟨n,en,g5⟩:=(show zb6 X.K C H2 ((R.of (FL.ixN c.length j)).bind fun n=>.ok (.nx,zaO ρ2 i (.list (c.set n dx)))) Dn from g4).bnd
  simp only [Fz] at fk
  subst fk
  refine⟨a,vs,j,n,rfl,rfl,h1,?_,zoX (d:=.list (c.set n dx)) rel2 at1 ⟨_,zak,(h2.set n (fz.mono (st2.fzn rel1.rel))).mono (znc rel2 at1)⟩ g5⟩
  rw [h2.len]
  cases e2:FL.ixN c.length j with
  | none=>rw [e2] at en;cases en
  | some m=>rw [e2] at en;cases en;exact e2
 | _=>exact g4.elim
end
end FL
namespace FL
open PySem L2 PySem.Spec
open PyProof.Rows hiding St
variable [Cs]
def Walk(K:PySem.W.Frag)(J:It)(items:List D)(H:Hp):Prop :=
 (∀ i d H',Fzn H H'->items[i]?=some d->J.go i H'/\∀ x H'',J.yld i H' x H''->zaE H' H''/\Fz K H'' d x)/\∀ i H',Fzn H H'->items.length<=i->J.stop i H'
def tI(K:PySem.W.Frag)(it:IF):TI:=fun σ H R=>∃ ρ,Rel K ρ σ H/\Good K ρ σ H (it ρ) fun items _ H'=>∀ J,Walk K J items H'->R J H'
def PVI(K:PySem.W.Frag)(X:Cx)(tg e:Expr)(it:IF):Prop:=X.K=K->PI X tg e (tI K it)
theorem _root_.L2.PI.weak{X:Cx}{tg e:Expr}{t t':TI}(h:PI X tg e t)(w:∀ σ H R,t' σ H R->t σ H R):PI X tg e t':=fun pins s σ H R I q=>h pins s σ H R I (w σ H R q)
section
variable {K:PySem.W.Frag}{X:Cx}{tg e:Expr}{f:EF}{pos:Pos}
theorem zsh{l:Expr}{tl:TE}(hl:PE X l tl):PI X tg l (fun σ H R=>tl σ H fun x H1=>∃ a,x=.ref a/\(((∃ xs,SqL X.K H1 a xs)/\R (Itl X.K a) H1)\/((∃ xs,SqT X.K H1 a xs)/\R (Itt X.K a) H1))):=by
 intro pins s σ H R I h
 refine thn (hl pins s σ H _ I h) fun v s1 ⟨x,H1,I1,r1,q1⟩=>?_
 obtain⟨a,e,q1⟩:=q1
 subst e
 cases r1
 rcases q1 with⟨⟨xs,hq⟩,q⟩|⟨⟨xs,hq⟩,q⟩
 ·obtain⟨its,rv,p,hz⟩:=I1.list hq
  refine wpAny_pyIter_list p.isList ?_
  refine⟨s1.heap.objs.size,[s1.heap.objs.size],_,_,H1,rfl,I1.kept (t':=s1.toks) fun b o e=>Heap.get?_push_of_some _ e,zit a _,⟨_,Heap.get?_push_size _ rfl,rfl,rfl⟩,fun b hb=>?_,q⟩
  have e:b=s1.heap.objs.size:=by simpa using hb
  subst e
  exact I1.znf (Nat.le_refl _) (I1.hok.fresh (Nat.le_refl _))
 ·obtain⟨its,rv,p,hz⟩:=I1.tuple hq
  refine wpAny_pyIter_tuple (show s1.heap.IsTuple a its.toArray from p) ?_
  refine⟨s1.heap.objs.size,[s1.heap.objs.size],_,_,H1,rfl,I1.kept (t':=s1.toks) fun b o e=>Heap.get?_push_of_some _ e,zk2 a _,⟨_,Heap.get?_push_size _ rfl,rfl,rfl⟩,fun b hb=>?_,q⟩
  have e:b=s1.heap.objs.size:=by simpa using hb
  subst e
  exact I1.znf (Nat.le_refl _) (I1.hok.fresh (Nat.le_refl _))
theorem zlY{H:Hp}{a:Addr}{vs:List V}{items:List D}(h:FzL K H a vs)(f:zaf K H items vs):Walk K (Itl K a) items H:=by
 refine⟨fun i d H' fz e=>?_,fun i H' fz e=>⟨vs,(fz.zp6 h).sq,by rw [f.len];exact e⟩⟩
 obtain⟨v,ev,_⟩:=f.get e
 refine⟨⟨vs,v,(fz.zp6 h).sq,ev⟩,fun x H'' y=>?_⟩
 obtain⟨rfl,y⟩:=y
 have ex:=y vs (fz.zp6 h).sq
 obtain⟨v',ev',fv⟩:=(f.mono fz).get e
 rw [ex] at ev'
 cases ev'
 exact⟨zaE.refl _,fv⟩
theorem znR{H:Hp}{a:Addr}{vs:List V}{items:List D}(h:TAt H a vs)(f:zaf K H items vs):Walk K (Itt K a) items H:=by
 refine⟨fun i d H' fz e=>?_,fun i H' fz e=>⟨vs,.inl (fz.ztB h),by rw [f.len];exact e⟩⟩
 obtain⟨v,ev,_⟩:=f.get e
 refine⟨⟨vs,v,.inl (fz.ztB h),ev⟩,fun x H'' y=>?_⟩
 obtain⟨rfl,y⟩:=y
 have ex:=y vs (.inl (fz.ztB h))
 obtain⟨v',ev',fv⟩:=(f.mono fz).get e
 rw [ex] at ev'
 cases ev'
 exact⟨zaE.refl _,fv⟩
theorem zcQ(he:PV K X e f):PVI K X tg e (iE f):=fun hK=>by
 subst hK
 refine(zsh (he rfl)).weak fun σ H R=>?_
 rintro⟨ρ,rel,q⟩
 refine goV rel q fun dx ρ1 x H1 rel1 st1 fx q1=>?_
 obtain⟨items,ei,q2⟩:=q1.zdA
 cases dx with
 | list a =>
  cases ei
  simp only [Fz] at fx
  obtain⟨l,vs,rfl,sx,f⟩:=fx
  exact⟨l,rfl,.inl ⟨⟨vs,sx.sq⟩,q2.now rel1 _ (zlY sx f)⟩⟩
 | tuple a =>
  cases ei
  simp only [Fz] at fx
  obtain⟨l,vs,rfl,sx,f⟩:=fx
  exact⟨l,rfl,.inr ⟨⟨vs,.inl sx⟩,q2.now rel1 _ (znR sx f)⟩⟩
 | _=>cases ei
theorem p62:(2:Int)^62=4611686018427387904:=by decide
theorem zp8{lo hi:Int}{i:Nat}{d:D}(h:(rng lo hi)[i]?=some d):i<(hi-lo).toNat/\d=.int (lo+i):=by
 unfold rng at h
 rw [List.getElem?_map] at h
 by_cases c:i<(hi-lo).toNat
 ·rw [List.getElem?_range c] at h
  cases h
  exact⟨c,rfl⟩
 ·rw [List.getElem?_eq_none (by rw [List.length_range];omega)] at h;cases h
theorem znT{H:Hp}(lo hi:Int):Walk K (Itr lo (hi-lo).toNat) (rng lo hi) H:=by
 refine⟨fun i d H' fz e=>?_,fun i H' fz e=>?_⟩
 ·obtain⟨c,rfl⟩:=zp8 e
  refine⟨c,fun x H'' y=>?_⟩
  obtain⟨rfl,rfl⟩:=y
  exact⟨zaE.refl _,zdn _⟩
 ·show(hi-lo).toNat<=i
  simpa [rng] using e
theorem zeu{a:Expr}{fa:AF}{p:Pos}(hg:Gl X "range") (hm:X.mg "range"=none) (ha:PVA K X [a] fa) (hs:starEach [a] X.env=[(false,eval a X.env)]:=by rfl):PVI K X tg (.Call (.Name "range" p) [a] [] pos) (iR1 fa):=fun hK=>(zmz hg hm (ha hK) hs).weak fun σ H R=>by
 rintro⟨ρ,rel,q⟩
 refine goA rel q fun ds ρ1 vs H1 rel1 st1 fs q1=>?_
 obtain⟨items,ei,q2⟩:=q1.zdA
 cases ds with
 | nil=>cases ei
 | cons d r =>
  cases r with
  | cons _ _=>cases d <;> cases ei
  | nil =>
   cases d with
   | int j =>
    obtain⟨c,ei⟩:=zap (show chk (zk9 j&&leB j.toNat lim) (.ok (rng 0 j))=.ok items from ei)
    cases ei
    simp only [zaf,Fz] at fs
    obtain⟨_,_,rfl,rfl,rfl⟩:=fs
    simp only [zk9,Bool.and_eq_true,leB_iff] at c
    have:=znT (K:=K) (H:=H1) 0 j
    rw [Int.sub_zero] at this
    have e62:=p62
    exact⟨j,rfl,by omega,by omega,q2.now rel1 _ this⟩
   | _=>cases ei
variable {it:IF}{g:GF}{b t:SF}{body:List Stmt}
theorem zql{dom:List Nat}(hp:PassesOwn (model X.prog X.w) X.A X.env X.xe)(hc:X.calm=true)(hi:PVI K X tg e it)(hg:PVG K X dom tg g)(hb:zjm K X body b)(hs:∀ x,foldedSetIterable e X.env x=pure x:=by intro _;rfl):PSV K X (.For tg e body [] pos) (zgz it g b):=fun hK C =>
 (zpk hp hc (hi hK) (hg hK) (hb hK C) hs).weak fun Dn σ0 H0=>by
 rintro⟨ρ0,rel0,q⟩
 obtain⟨x,ex,q⟩:=q.bnd
 refine⟨ρ0,rel0.rel,?_⟩
 rw [ex]
 intro Hs r st J wk
 have rel1:=rel0.step r st
 have q1:=q.step (st.fzn rel0.rel)
 obtain⟨items,ρs⟩:=x
 refine⟨fun i m σ H=>m=items.length-i/\i<=items.length/\∃ ρ,zds K C ρ σ H/\Fzn Hs H/\zb6 K C H (forL g b (items.drop i) ρ) Dn,⟨items.length,by simp,Nat.zero_le _,ρs,rel1,Fzn.refl _,q1⟩,?_⟩
 rintro i m σ H ⟨rfl,hi,ρ,rel,fz,gd⟩
 by_cases c:i<items.length
 ·have ed:=List.drop_eq_getElem_cons c
  rw [ed] at gd
  obtain⟨hgo,hy⟩:=wk.1 i items[i] H fz (List.getElem?_eq_getElem c)
  refine .inr ⟨hgo,fun σ' H'=>∃ ρ,zds K C ρ σ' H'/\Fzn Hs H'/\zb6 K C H' (forL g b (items.drop (i+1)) ρ) Dn,fun σ' H' n=>⟨items.length-(i+1),by omega,rfl,c,n⟩,fun x H3 y=>?_⟩
  obtain⟨sm,fx⟩:=hy x H3 y
  have rel3:zds K C ρ σ H3:=rel.step (rel.rel.same sm) (.of sm)
  obtain⟨ρ1,e1,gd1⟩:=gd.bnd
  refine⟨ρ,items[i],ρ1,rel3.rel,fx,e1,fun σ1 rel4 chg=>⟨ρ1,rel3.chg rel4 chg,?_⟩⟩
  obtain⟨y,ey,gd2⟩:=gd1.bnd
  rw [ey]
  have gd3:=gd2.step (Fzn.of sm)
  have fz3:=fz.trans (Fzn.of sm)
  obtain⟨fl,ρ2⟩:=y
  cases fl with
  | nx=>exact fun σ' H' r z=>⟨ρ2,r,fz3.trans z,gd3.step z⟩
  | ct=>exact fun σ' H' r z=>⟨ρ2,r,fz3.trans z,gd3.step z⟩
  | bk=>exact gd3
  | rt d=>exact gd3
  | rf d=>exact gd3
 ·have e:i=items.length:=by omega
  subst e
  rw [List.drop_length] at gd
  exact .inl ⟨wk.2 _ H fz (Nat.le_refl _),gd σ H rel (Fzn.refl _)⟩
theorem ziB{c:Expr}{tc:TF}(fuel:En->Nat)(hp:PassesOwn (model X.prog X.w) X.A X.env X.xe)(hc:PVT K X c tc)(hb:zjm K X body b):PSV K X (.While c body [] pos) (zfI fuel tc b):=fun hK C =>
 (zop hp (hc hK) (hb hK C)).weak fun Dn σ0 H0=>by
 rintro⟨ρ0,rel0,q⟩
 refine⟨fun m σ H=>∃ ρ,zds K C ρ σ H/\zb6 K C H (zfE tc b m ρ) Dn,⟨fuel ρ0,ρ0,rel0,q⟩,?_⟩
 rintro m σ H ⟨ρ,rel,gd⟩
 cases m with
 | zero=>exact gd.elim
 | succ n =>
  refine zuu rel gd fun cb ρ1 H1 rel1 fz g1=>?_
  cases cb with
  | false=>exact zoQ (g1 σ H1 rel1 (Fzn.refl _))
  | true =>
   refine zoP ⟨fun σ' H'=>∃ ρ,zds K C ρ σ' H'/\zb6 K C H' (zfE tc b n ρ) Dn,fun σ' H' z=>⟨n,Nat.lt_succ_self _,z⟩,ρ1,rel1,?_⟩
   obtain⟨y,ey,gd2⟩:=(show zb6 K C H1 ((b ρ1).bind fun y=>match y.1 with
   | .nx | .ct=>zfE tc b n y.2
   | .bk=>.ok (.nx,y.2)
   | .rt d=>.ok (.rt d,y.2)
   | .rf d=>.ok (.rf d,y.2)) Dn from g1).bnd
   rw [ey]
   obtain⟨fl,ρ2⟩:=y
   cases fl with
   | nx=>exact fun σ' H' r z=>⟨ρ2,r,gd2.step z⟩
   | ct=>exact fun σ' H' r z=>⟨ρ2,r,gd2.step z⟩
   | bk=>exact gd2
   | rt d=>exact gd2
   | rf d=>exact gd2
end
end FL
namespace FL
open PySem L2 PySem.Spec
open PyProof.Rows hiding St
variable [Cs]
section
variable {K:PySem.W.Frag}{ρ:En}{σ:L2.St}{H H':Hp}{k:Nat}{ix:List Nat}
theorem znt{j:Nat}(h:j<k):(blk k ix ρ)[j]?=some .no:=by
 unfold blk
 rw [List.getElem?_append_left (by simpa using h),List.getElem?_replicate,if_pos h]
theorem zkW(j:Nat):(blk k ix ρ)[k+j]?=(ix[j]?).map fun i=>(ρ[i]?).getD .no:=by
 unfold blk
 rw [List.getElem?_append_right (by simp),List.length_replicate,Nat.add_sub_cancel_left,List.getElem?_map]
theorem znr(j:Nat):(zfo k ix σ)[k+j]?=(ix[j]?).map fun i=>(σ[i]?).getD none:=by
 unfold zfo
 rw [List.getElem?_append_right (by simp),List.length_replicate,Nat.add_sub_cancel_left,List.getElem?_map]
theorem zi4{j:Nat}{a:Addr}(h:At (blk k ix ρ) (zfo k ix σ) j a):∃ j' i,j=k+j'/\ix[j']?=some i/\At ρ σ i a:=by
 obtain⟨⟨p,d,e1⟩,e2⟩:=h
 by_cases c:j<k
 ·rw [znt c] at e1;cases e1
 ·obtain⟨j',rfl⟩:∃ j',j=k+j':=⟨j-k,by omega⟩
  rw [zkW] at e1
  rw [znr] at e2
  cases ei:ix[j']? with
  | none=>rw [ei] at e1;cases e1
  | some i =>
   rw [ei] at e1 e2
   refine⟨j',i,rfl,ei,⟨p,d,?_⟩,?_⟩
   ·simp only [Option.map_some,Option.some.injEq] at e1
    cases er:ρ[i]? with
    | none=>rw [er] at e1;cases e1
    | some x=>rw [er] at e1;simpa using e1
   ·simp only [Option.map_some,Option.some.injEq] at e2
    cases es:σ[i]? with
    | none=>rw [es] at e2;cases e2
    | some x=>rw [es] at e2;simpa using e2
theorem zmF{l:List Nat}(h:l.Nodup){i j x:Nat}(a:l[i]?=some x)(b:l[j]?=some x):i=j:=by
 obtain⟨h1,e1⟩:=List.getElem?_eq_some_iff.mp a
 obtain⟨h2,e2⟩:=List.getElem?_eq_some_iff.mp b
 exact(List.getElem_inj h).mp (e1.trans e2.symm)
theorem zrg(nd:ix.Nodup)(r:Rel K ρ σ H):Rel K (blk k ix ρ) (zfo k ix σ) H:=by
 refine⟨by simp [blk,zfo],fun j x v e1 e2=>?_,fun i j a h1 h2=>?_,r.cst⟩
 ·by_cases c:j<k
  ·rw [znt c] at e1;cases e1;trivial
  ·obtain⟨j',rfl⟩:∃ j',j=k+j':=⟨j-k,by omega⟩
   rw [zkW] at e1
   rw [znr] at e2
   cases ei:ix[j']? with
   | none=>rw [ei] at e1;cases e1
   | some i =>
    rw [ei] at e1 e2
    simp only [Option.map_some,Option.some.injEq] at e1 e2
    cases er:ρ[i]? with
    | none=>rw [er] at e1;cases e1;trivial
    | some y =>
     have hl:i<σ.length:=by rw [<- r.len];exact(List.getElem?_eq_some_iff.mp er).1
     rw [er] at e1
     rw [List.getElem?_eq_getElem hl] at e2
     cases e1;cases e2
     exact r.ok i _ _ er (List.getElem?_eq_getElem hl)
 ·obtain⟨i',x,rfl,e1,a1⟩:=zi4 h1
  obtain⟨j',y,rfl,e2,a2⟩:=zi4 h2
  have:=r.sep x y a a1 a2
  subst this
  rw [zmF nd e1 e2]
theorem zj2{m:List (Nat×Sl)}:∀(ρ:En) (n i:Nat),(bkL m n ρ)[i]?=(ρ[i]?).map (bk1 m (n+i))
 | [],n,i=>by simp [bkL]
 | x::r,n,0=>by simp [bkL]
 | x::r,n,i+1=>by
  simp only [bkL,zz1]
  rw [zj2 r (n+1) i,show n+1+i=n+(i+1) by omega]
theorem zkX{cs:En}(i:Nat):(back ρ ix cs)[i]?=(ρ[i]?).map (bk1 (ix.zip cs) i):=by
 unfold back
 rw [zj2,Nat.zero_add]
theorem zj1{m:List (Nat×Sl)}:∀(ρ:En) (n:Nat),(bkL m n ρ).length=ρ.length
 | [],n=>rfl
 | x::r,n=>by simp [bkL,zj1 r]
theorem zgZ:∀{ix:List Nat} {cs:En} {i:Nat} {c:Sl},(ix.zip cs).lookup i=some c->∃ j:Nat,ix[j]?=some i/\cs[j]?=some c
 | [],cs,i,c,h=>by simp at h
 | x::r,[],i,c,h=>by simp at h
 | x::r,y::s,i,c,h=>by
  rw [List.zip_cons_cons,List.lookup_cons] at h
  by_cases e:i=x
  ·subst e
   simp only [beq_self_eq_true] at h
   cases h
   exact⟨0,rfl,rfl⟩
  ·rw [beq_false_of_ne e] at h
   obtain⟨j,h1,h2⟩:=zgZ h
   exact⟨j+1,by simpa using h1,by simpa using h2⟩
theorem zdZ:∀{ix:List Nat} {cs:En} {i j:Nat} {c:Sl},ix.Nodup->ix[j]?=some i->cs[j]?=some c->(ix.zip cs).lookup i=some c
 | [],cs,i,j,c,_,h1,_=>by simp at h1
 | x::r,[],i,j,c,_,_,h2=>by simp at h2
 | x::r,y::s,i,j,c,nd,h1,h2=>by
  rw [List.zip_cons_cons,List.lookup_cons]
  cases j with
  | zero =>
   simp at h1 h2
   subst h1;subst h2
   simp
  | succ j =>
   simp at h1 h2
   have:i≠x:=fun z=>by
    subst z
    exact(List.nodup_cons.mp nd).1 (List.mem_of_getElem? h1)
   rw [beq_false_of_ne this]
   exact zdZ (List.nodup_cons.mp nd).2 h1 h2
theorem znx{β:En}{σβ:L2.St}(nd:ix.Nodup)(r:Rel K ρ σ H)(hs:∀ j,σβ[k+j]?=(zfo k ix σ)[k+j]?)(rb:Rel K β σβ H')
  (md:∀ j p,(∃ d,β[k+j]?=some (.ow p d))↔∃ d,(blk k ix ρ)[k+j]?=some (.ow p d))(kp:∀ a o,H a=some o->¬ MA (blk k ix ρ) (zfo k ix σ) a->H' a=some o) :
  Rel K (back ρ ix (β.drop k)) σ H'/\Stp ρ (back ρ ix (β.drop k)) σ H H':=by
 have hm:∀ a,MA (blk k ix ρ) (zfo k ix σ) a->MA ρ σ a:=fun a ⟨j,h⟩=>by
  obtain⟨_,i,_,_,h⟩:=zi4 h
  exact⟨i,h⟩
 have fz:Fzn H H':=fun a o h st=>kp a o h fun m=>by
  obtain⟨o',e,w⟩:=r.zbH (hm a m)
  rw [h] at e
  cases e
  exact w.zc6 st
 have mdB:∀(i:Nat) p,(∃ d,ρ[i]?=some (.ow p d))↔∃ d,(back ρ ix (β.drop k))[i]?=some (.ow p d):=fun i p=>by
  rw [zkX]
  constructor
  ·rintro⟨d,e⟩
   rw [e]
   simp only [Option.map_some,bk1]
   split
   ·rename_i p' d1 q' d2 h1 h2;cases h1;exact⟨_,rfl⟩
   ·exact⟨_,rfl⟩
  ·rintro⟨d,e⟩
   cases er:ρ[i]? with
   | none=>rw [er] at e;cases e
   | some x =>
    rw [er] at e
    simp only [Option.map_some,Option.some.injEq,bk1] at e
    split at e
    ·cases e;exact⟨_,rfl⟩
    ·subst e;exact⟨_,rfl⟩
 have atB:∀ i a,At (back ρ ix (β.drop k)) σ i a->At ρ σ i a:=fun i a ⟨⟨p,d,e1⟩,e2⟩=>⟨⟨p,(mdB i p).mpr ⟨d,e1⟩⟩,e2⟩
 refine⟨⟨by rw [show(back ρ ix (β.drop k)).length=ρ.length from zj1 _ _];exact r.len,fun i x v e1 e2=>?_,fun i j a h1 h2=>r.sep i j a (atB i a h1) (atB j a h2),r.cst.mono fz⟩,⟨mdB,fun a o h n=>kp a o h fun m=>n (hm a m)⟩⟩
 rw [zkX] at e1
 cases er:ρ[i]? with
 | none=>rw [er] at e1;cases e1
 | some y =>
  rw [er] at e1
  simp only [Option.map_some,Option.some.injEq] at e1
  have o:=r.ok i y v er e2
  cases y with
  | no=>simp only [bk1] at e1;subst e1;trivial
  | val d =>
   simp only [bk1] at e1
   subst e1
   exact o.mono fz fun a _ ⟨p,d',z⟩=>nomatch z
  | ow p d =>
   cases v with
   | none=>exact o.elim
   | some v =>
    cases v with
    | ref a =>
     have ai:At ρ σ i a:=⟨⟨p,d,er⟩,e2⟩
     cases el:(ix.zip (β.drop k)).lookup i with
     | none =>
      simp only [bk1,el] at e1
      subst e1
      refine o.mono fz fun b e3 _=>?_
      cases e3
      obtain⟨u,hu,_⟩:=r.zbH ⟨i,ai⟩
      rw [hu]
      refine kp a u hu fun⟨j,h⟩=>?_
      obtain⟨j',i',rfl,ej,h'⟩:=zi4 h
      have:=r.sep i i' a ai h'
      subst this
      have hb:β[k+j']?≠none:=fun z=>by
       have:∃ d,β[k+j']?=some (.ow p d):=(md j' p).mpr ⟨d,by rw [zkW,ej];simp [er]⟩
       obtain⟨_,w⟩:=this
       rw [z] at w;cases w
      cases hbe:β[k+j']? with
      | none=>exact hb hbe
      | some c =>
       have:(β.drop k)[j']?=some c:=by rw [List.getElem?_drop];exact hbe
       rw [zdZ nd ej this] at el
       cases el
     | some c =>
      obtain⟨j,hj,hc⟩:=zgZ el
      rw [List.getElem?_drop] at hc
      have bm:(blk k ix ρ)[k+j]?=some (.ow p d):=by rw [zkW,hj];simp [er]
      obtain⟨d',hd'⟩:=(md j p).mpr ⟨d,bm⟩
      rw [hc] at hd'
      cases hd'
      simp only [bk1,el] at e1
      subst e1
      have es:σβ[k+j]?=some (some (.ref a)):=by rw [hs j,znr,hj];simp [e2]
      exact rb.ok (k+j) _ _ hc es
    | _=>exact o.elim
end
theorem zkJ{K:PySem.W.Frag}{k:Nat}{dom:List Nat}{g:GF}(hd:dom.all (fun i=>decide (i<k))=true):znG k (tG K dom g):=fun x σ H Q=>by
 rintro⟨ρ,d,ρ1,rel,fz,e,q⟩
 refine⟨ρ,d,ρ1,rel,fz,e,fun σ1 rel1 c=>⟨⟨c.1,fun i hi=>?_⟩,q σ1 rel1 c⟩⟩
 rcases c.2 i with⟨_,c2⟩|⟨m,_⟩
 ·exact c2
 ·have:=of_decide_eq_true (List.all_eq_true.mp hd i m)
  omega
def ztx(K:PySem.W.Frag)(X:Cx)(ifs:List Expr)(t:TF):Prop:=X.K=K->PTs X ifs (tT K t)
theorem _root_.L2.PTs.weak{X:Cx}{e:List Expr}{t t':TT}(h:PTs X e t)(w:∀ σ H Q,t' σ H Q->t σ H Q):PTs X e t':=fun pins s σ H Q I q=>h pins s σ H Q I (w σ H Q q)
theorem zcb{K:PySem.W.Frag}{X:Cx}:ztx K X [] zb0:=fun _=>zqs.weak fun σ H Q=>by
 rintro⟨ρ,rel,q⟩
 exact q.now rel
section
variable {K:PySem.W.Frag}{X:Cx}{elt tg iter:Expr}{ifs:List Expr}{scope:Scope}{pos:Pos}{it:IF}{g:GF}{t:TF}{f:EF}{dom:List Nat}
theorem zpG{k:Nat}{ix:List Nat}(nd:ix.Nodup)(hgo:dom.all (fun i=>decide (i<k))=true)(σ:L2.St)(H:Hp)(Q:VK)(q:tN K (zcs k ix it g t f) σ H Q):zk5 k ix (tI K it) (tG K dom g) (tT K t) (tV K f) σ H Q:=by
 revert q
 rintro⟨ρ0,rel0,q⟩
 obtain⟨x,ex,q⟩:=q.bnd
 refine⟨ρ0,rel0,?_⟩
 rw [ex]
 intro H1 rel1 st1 J wk l hl
 obtain⟨items,ρs⟩:=x
 have hl0:H l=none:=by
  cases e:H l with
  | none=>rfl
  | some o =>
   by_cases m:MA ρ0 σ l
   ·obtain⟨o',e',_⟩:=rel1.zbH (st1.ma.mp m)
    rw [hl] at e';cases e'
   ·rw [st1.kp l o e m] at hl;cases hl
 have sl:zaE H1 (upd H1 l (.lst [])):=zaE.upd hl
 refine⟨fun i m ys H2=>m=items.length-i/\i<=items.length/\H2 l=some (.lst ys)/\∃ ρ acc,Rel K ρ σ H2/\¬ MA ρ σ l/\zaf K H2 acc ys/\Fzn H1 H2/\Stp ρ0 ρ σ H H2 /\
  Good K ρ0 σ H ((zeg k ix g t f (items.drop i) ρ acc).bind fun(y:List D×En)=>.ok ((PyData.list y.1:D),y.2)) fun d ρ' H'=>∀ a,H a=none->zbF K H' a d->Q (.ref a) H',
  ⟨items.length,by simp,Nat.zero_le _,zak,ρs,[],rel1.same sl,fun z=>?_,by simp [zaf],Fzn.of sl,st1.trans (.of sl),q⟩,?_⟩
 ·obtain⟨o',e',_⟩:=rel1.zbH z
  rw [hl] at e';cases e'
 rintro i m ys H2 ⟨rfl,hi,hly,ρ,acc,rel,nma,fa,fz,st0,gd⟩
 refine⟨hly,?_⟩
 by_cases c:i<items.length
 ·have ed:=List.drop_eq_getElem_cons c
  rw [ed] at gd
  obtain⟨hgo',hy⟩:=wk.1 i items[i] H2 fz (List.getElem?_eq_getElem c)
  refine .inr ⟨hgo',fun x H3 y=>?_⟩
  obtain⟨sm,fx⟩:=hy x H3 y
  have rel3:Rel K ρ σ H3:=rel.same sm
  obtain⟨w,ew,gd⟩:=gd.zdA
  obtain⟨β1,e1,ew⟩:=zaj (show(g items[i] (blk k ix ρ)).bind _=.ok w from ew)
  obtain⟨c1,ec,ew⟩:=zaj ew
  refine⟨blk k ix ρ,items[i],β1,zrg nd rel3,fx,e1,fun σ1 relβ chg=>⟨β1,relβ,?_⟩⟩
  rw [ec]
  intro H5 rel5 st5
  have hσ:∀ j,σ1[k+j]?=(zfo k ix σ)[k+j]?:=fun j=>by
   rcases chg.2 (k+j) with⟨_,c2⟩|⟨m,_⟩
   ·exact c2
   ·have:=of_decide_eq_true (List.all_eq_true.mp hgo _ m)
    omega
  have hβ:∀ j,β1[k+j]?=(blk k ix ρ)[k+j]?:=fun j=>by
   rcases chg.2 (k+j) with⟨c2,_⟩|⟨m,_⟩
   ·exact c2
   ·have:=of_decide_eq_true (List.all_eq_true.mp hgo _ m)
    omega
  have hMA:∀ a,MA β1 σ1 a->MA (blk k ix ρ) (zfo k ix σ) a:=fun a ⟨j,⟨p,d,z1⟩,z2⟩=>by
   rcases chg.2 j with⟨c1,c2⟩|⟨_,⟨d',c1⟩,_⟩
   ·exact⟨j,⟨p,d,by rw [<- c1];exact z1⟩,by rw [<- c2];exact z2⟩
   ·rw [c1] at z1;cases z1
  have hMB:∀ a,MA (blk k ix ρ) (zfo k ix σ) a->MA ρ σ a:=fun a ⟨j,h⟩=>by
   obtain⟨_,i,_,_,h⟩:=zi4 h
   exact⟨i,h⟩
  have h3l:H3 l=some (.lst ys):=sm l _ hly
  have n1:¬ MA β1 σ1 l:=fun z=>nma (hMB l (hMA l z))
  have h5l:H5 l=some (.lst ys):=st5.kp l _ h3l n1
  obtain⟨cb,β2⟩:=c1
  cases cb with
  | true =>
   refine zoP ⟨β2,rel5,?_⟩
   obtain⟨y,ey,ew⟩:=zaj (show(f β2).bind _=.ok w from ew)
   rw [ey]
   intro H6 rel6 st6 v fv
   obtain⟨cc,ew⟩:=zap ew
   have n2:¬ MA β2 σ1 l:=fun z=>n1 (st5.ma.mpr z)
   have h6l:H6 l=some (.lst ys):=st6.kp l _ h5l n2
   have st:Stp β1 y.2 σ1 H3 H6:=st5.trans st6
   obtain⟨rb,sb⟩:=znx (k:=k) nd rel3 hσ rel6 (fun j p=>by rw [<- hβ j];exact(st.md (k+j) p).symm) (fun a o h n=>st.kp a o h fun z=>n (hMA a z))
   have nmb:¬ MA (back ρ ix (y.2.drop k)) σ l:=fun z=>nma (sb.ma.mpr z)
   have fz6:Fzn H2 H6:=(Fzn.of sm).trans (sb.fzn rel3)
   have fz7:Fzn H6 (upd H6 l (.lst (ys++[v]))):=fun b u e s=>by
    rw [zao fun z=>by subst z;rw [h6l] at e;cases e;exact s]
    exact e
   refine⟨h6l,?_,items.length-(i+1),by omega,rfl,c,zak,back ρ ix (y.2.drop k),acc++[y.1],rb.put nmb (fun u e=>by rw [h6l] at e;cases e;exact fun z=>z),nmb,?_,(fz.trans fz6).trans fz7,⟨((st0.trans (.of sm)).trans sb).md,fun a o h n=>?_⟩,?_⟩
   ·have:=zbK cc
    have l0:=zaD
    rw [fa.len];omega
   ·refine((fa.mono fz6).mono fz7).app ?_
    simp only [zaf]
    exact⟨v,[],rfl,fv.mono fz7,rfl⟩
   ·rw [zao fun z=>by subst z;rw [hl0] at h;cases h]
    exact((st0.trans (.of sm)).trans sb).kp a o h n
   ·rw [ew]
    exact gd
  | false =>
   obtain⟨rb,sb⟩:=znx (k:=k) nd rel3 hσ rel5 (fun j p=>by rw [<- hβ j];exact(st5.md (k+j) p).symm) (fun a o h n=>st5.kp a o h fun z=>n (hMA a z))
   have nmb:¬ MA (back ρ ix (β2.drop k)) σ l:=fun z=>nma (sb.ma.mpr z)
   have fz6:Fzn H2 H5:=(Fzn.of sm).trans (sb.fzn rel3)
   refine zoQ ⟨items.length-(i+1),by omega,rfl,c,h5l,back ρ ix (β2.drop k),acc,rb,nmb,fa.mono fz6,fz.trans fz6,(st0.trans (.of sm)).trans sb,?_⟩
   rw [show zeg k ix g t f (items.drop (i+1)) (back ρ ix (β2.drop k)) acc=.ok w from ew]
   exact gd
 ·have e:i=items.length:=by omega
  subst e
  rw [List.drop_length] at gd
  exact .inl ⟨wk.2 _ H2 fz (Nat.le_refl _),gd H2 rel st0 l hl0 ⟨ys,hly,fa⟩⟩
theorem zod(L:List Str)(ix:List Nat)(M:List Str)(hc:X.calm=true)(hk:scope.kind=.function)(hd:zdp X.env.scope scope X.N ix=true)(hM:M=L++ix.map fun i=>X.N.getD i "") (nd:ix.Nodup) (hi:PVI K X tg iter it)
  (hg:∀ C s₃ H₃ fp,PVG K (zaz X M scope C s₃ H₃ fp) dom tg g) (hgo:dom.all (fun i=>decide (i<L.length))=true)
  (ht:∀ C s₃ H₃ fp,ztx K (zaz X M scope C s₃ H₃ fp) ifs t) (he:∀ C s₃ H₃ fp,PV K (zaz X M scope C s₃ H₃ fp) elt f)
  (hs:∀ x,foldedSetIterable iter X.env x=pure x:=by intro _;rfl) :
  PVN K X (.ListComp elt [⟨tg,iter,ifs,0⟩] scope pos) (zcs L.length ix it g t f):=fun hK=>by
 refine(zow L ix M hc hk hd hM (hi hK) (fun C s₃ H₃ fp=>hg C s₃ H₃ fp hK) (zkJ hgo) (fun C s₃ H₃ fp=>ht C s₃ H₃ fp hK) (fun C s₃ H₃ fp=>he C s₃ H₃ fp hK) hs).weak fun σ H Q q=>zpG nd hgo σ H Q q
end
end FL
namespace FL
open PySem L2 PySem.Spec
open PyProof.Rows hiding St
variable [Cs]
def spF(K:PySem.W.Frag)(ms:List Bool)(fr:Bool)(F:List D->R (D×List D)):Sp:=fun vs H Q _=>∃ ds,vs.length=ms.length/\ds.length=ms.length/\Rel K (slots ms ds) (vs.map some) H /\
 ∃ d os,F ds=.ok (d,os)/\∀ v H',Rel K (slots ms os) (vs.map some) H'->(∀ a o,H a=some o->¬ MA (slots ms ds) (vs.map some) a->H' a=some o) ->
  (if fr=true then ∃ a,v=.ref a/\H a=none/\zbF K H' a d else Fz K H' d v)->Q v H'
def spP(K:PySem.W.Frag)(n:Nat)(fr:Bool)(G:List D->R D):Sp:=fun vs H Q _=>∃ ds,vs.length=n/\zpP H/\zaf K H ds vs/\∃ d,G ds=.ok d/\∀ v H',zaE H H'->(if fr=true then ∃ a,v=.ref a/\H a=none/\zbF K H' a d else Fz K H' d v)->Q v H'
theorem zbW:∀{ms:List Bool} {ds:List D} {i:Nat},ds.length=ms.length->(slots ms ds)[i]?=(ms[i]?).bind fun m=>(ds[i]?).map fun d=>if m=true then Sl.ow true d else Sl.val d
 | [],[],i,_=>by simp [slots]
 | [],_::_,i,h=>by simp at h
 | _::_,[],i,h=>by simp at h
 | m::ms,d::ds,0,_=>by simp [slots]
 | m::ms,d::ds,i+1,h=>by
  simp only [slots,zz1]
  exact zbW (by simpa using h)
theorem zde:∀{ms:List Bool} {ds:List D},ds.length=ms.length->(slots ms ds).length=ms.length
 | [],[],_=>rfl
 | [],_::_,h=>by simp at h
 | _::_,[],h=>by simp at h
 | m::ms,d::ds,h=>by simp only [slots,List.length_cons];rw [zde (by simpa using h)]
theorem zd7:∀{ms:List Bool} {ds:List D} {ρ:En},ds.length=ms.length->(outs ms ds ρ).length=ms.length
 | [],[],_,_=>rfl
 | [],_::_,_,h=>by simp at h
 | _::_,[],_,h=>by simp at h
 | m::ms,d::ds,ρ,h=>by simp only [outs,List.length_cons];rw [zd7 (by simpa using h)]
theorem zks:∀{ms:List Bool} {ds:List D} {ρ:En} {i:Nat} {m:Bool} {d:D},ms[i]?=some m->ds[i]?=some d->(outs ms ds ρ)[i]?=some (outD m d ρ[i]?)
 | m0::ms,d0::ds,ρ,0,m,d,h1,h2=>by
  simp at h1 h2
  subst h1;subst h2
  simp [outs,List.head?_eq_getElem?]
 | m0::ms,d0::ds,ρ,i+1,m,d,h1,h2=>by
  simp at h1 h2
  simp only [outs,zz1]
  rw [zks h1 h2,List.getElem?_tail]
 | [],_,_,_,_,_,h,_=>by simp at h
 | _::_,[],_,_,_,_,_,h=>by simp at h
section
variable {K:PySem.W.Frag}{ρ:En}{σ:L2.St}{H:Hp}
theorem Rel.pad(r:Rel K ρ σ H)(n:Nat):Rel K (ρ++List.replicate n .no) (σ++List.replicate n none) H:=by
 have w:∀ i a,At (ρ++List.replicate n .no) (σ++List.replicate n none) i a->At ρ σ i a:=fun i a ⟨⟨p,d,e1⟩,e2⟩=>by
  by_cases c:i<ρ.length
  ·rw [List.getElem?_append_left c] at e1
   rw [List.getElem?_append_left (by rw [<- r.len];exact c)] at e2
   exact⟨⟨p,d,e1⟩,e2⟩
  ·rw [List.getElem?_append_right (by omega),List.getElem?_replicate] at e1
   split at e1 <;> cases e1
 refine⟨by simp [r.len],fun i x v e1 e2=>?_,fun i j a h1 h2=>r.sep i j a (w i a h1) (w j a h2),r.cst⟩
 by_cases c:i<ρ.length
 ·rw [List.getElem?_append_left c] at e1
  rw [List.getElem?_append_left (by rw [<- r.len];exact c)] at e2
  exact r.ok i x v e1 e2
 ·rw [List.getElem?_append_right (by omega),List.getElem?_replicate] at e1
  split at e1
  ·cases e1;trivial
  ·cases e1
theorem zsL{n:Nat}{a:Addr}(hl:ρ.length=σ.length):MA (ρ++List.replicate n .no) (σ++List.replicate n none) a↔MA ρ σ a:=by
 constructor
 ·rintro⟨i,⟨p,d,e1⟩,e2⟩
  by_cases c:i<ρ.length
  ·rw [List.getElem?_append_left c] at e1
   rw [List.getElem?_append_left (by rw [<- hl];exact c)] at e2
   exact⟨i,⟨p,d,e1⟩,e2⟩
  ·rw [List.getElem?_append_right (by omega),List.getElem?_replicate] at e1
   split at e1 <;> cases e1
 ·rintro⟨i,⟨p,d,e1⟩,e2⟩
  have c:=(List.getElem?_eq_some_iff.mp e1).1
  exact⟨i,⟨p,d,by rw [List.getElem?_append_left c];exact e1⟩,by rw [List.getElem?_append_left (by rw [<- hl];exact c)];exact e2⟩
end
theorem zdv{ms:List Bool}{ds:List D}{i:Nat}{p:Bool}{d:D}(hl:ds.length=ms.length)(e:(slots ms ds)[i]?=some (.ow p d)):p=true/\ms[i]?=some true/\ds[i]?=some d:=by
 rw [zbW hl] at e
 cases em:ms[i]? with
 | none=>rw [em] at e;cases e
 | some m =>
  cases ed:ds[i]? with
  | none=>rw [em,ed] at e;cases e
  | some d' =>
   rw [em,ed] at e
   cases m with
   | true=>simp at e;exact⟨e.1,rfl,by rw [e.2]⟩
   | false=>simp at e
section
variable {P:Program}{w:World}{K:PySem.W.Frag}{mg:Str->Option Value}{base:Heap}
theorem zng{x:Str}{st:Stmt}{f:Addr}{fd:FuncData}{N ps:List Str}{k:Nat}{b:SF}(ms:List Bool)(fr:Bool)(h:Fun K x x st f fd)(S:zdt N ps (zas st))(hps:ps.length=ms.length)(hpN:ps.length<=N.length)
  (hb:∀(cdv:Value) (A:Around) (outer:List Env) (s:Shared) (H:Hp) (E:XK),zbZ k (A.deeper (envOfC x (zas st) s.heap.objs.size f cdv))->zjm K (znO (CXe P w) P w K mg base N x (zas st) f cdv A outer s H E) (zbz st) b) :
  zhB P w K mg base (CXe P w) (k+1) f fd ps (spF K ms fr (run ms fr N.length b)):=by
 refine h.okE S (fun vs H Q E ⟨ds,e,_⟩=>by rw [e,hps]) fun cdv A outer s H vs Q E hr hq=>?_
 obtain⟨ds,hv,hd,rel,d,os,hF,q⟩:=hq
 have hst:L2.start N vs=vs.map some++List.replicate (N.length-ds.length) none:=by unfold L2.start;rw [hv,hd]
 refine⟨tS K ⟨H,L2.start N vs,slots ms ds++List.replicate (N.length-ds.length) .no⟩ b,hb cdv A outer s H E hr rfl _,slots ms ds++List.replicate (N.length-ds.length) .no,?_,?_⟩
 ·have tru:∀(i:Nat) p d,(slots ms ds++List.replicate (N.length-ds.length) .no)[i]?=some (.ow p d)->p=true:=fun i p d e=>by
   by_cases c:i<(slots ms ds).length
   ·rw [List.getElem?_append_left c] at e
    exact(zdv hd e).1
   ·rw [List.getElem?_append_right (by omega),List.getElem?_replicate] at e
    split at e <;> cases e
  refine⟨?_,fun a o e _=>e,fun i a d e _=>absurd (tru i false d e) Bool.false_ne_true,fun i=>Iff.rfl,fun i d e=>rfl,tru⟩
  rw [hst]
  exact rel.pad _
 ·unfold run at hF
  rw [if_pos hd] at hF
  obtain⟨y,ey,hF⟩:=zaj hF
  rw [ey]
  have fin:∀(ρ':En) (σ':L2.St) (H':Hp),zds K ⟨H,L2.start N vs,slots ms ds++List.replicate (N.length-ds.length) .no⟩ ρ' σ' H' ->
    Rel K (slots ms (outs ms ds ρ')) (vs.map some) H'/\(∀ a o,H a=some o->¬ MA (slots ms ds) (vs.map some) a->H' a=some o):=fun ρ' σ' H' r=>by
   have hl0:(slots ms ds).length=(vs.map some).length:=by rw [zde hd,List.length_map,hv]
   have kp:∀ a o,H a=some o->¬ MA (slots ms ds) (vs.map some) a->H' a=some o:=fun a o e n=>r.keep a o e fun z=>n (by
    have z':MA (slots ms ds++List.replicate (N.length-ds.length) .no) (L2.start N vs) a:=z
    rw [hst] at z'
    exact(zsL hl0).mp z')
   have fz:Fzn H H':=fun a o e sy=>kp a o e fun m=>by
    obtain⟨o',e',ow⟩:=rel.zbH m
    rw [e] at e'
    cases e'
    exact ow.zc6 sy
   refine⟨?_,kp⟩
   have pinned:∀(i:Nat) d0,ms[i]?=some true->ds[i]?=some d0->∃ d',ρ'[i]?=some (.ow true d')/\σ'[i]?=(vs.map some)[i]?:=fun i d0 em ed=>by
    have hi:i<(slots ms ds).length:=by rw [zde hd];exact(List.getElem?_eq_some_iff.mp em).1
    have e0:(slots ms ds++List.replicate (N.length-ds.length) .no)[i]?=some (.ow true d0):=by
     rw [List.getElem?_append_left hi,zbW hd,em,ed];rfl
    obtain⟨d',e'⟩:=(r.pin i).mpr ⟨d0,e0⟩
    refine⟨d',e',?_⟩
    rw [r.fix i d' e']
    show(L2.start N vs)[i]?=_
    rw [hst,List.getElem?_append_left (by rw [<- hl0];exact hi)]
   have ho:(outs ms ds ρ').length=ms.length:=zd7 hd
   refine⟨by rw [zde ho,List.length_map,hv],fun i x v e1 e2=>?_,fun i j a h1 h2=>?_,rel.cst.mono fz⟩
   ·rw [zbW ho] at e1
    cases em:ms[i]? with
    | none=>rw [em] at e1;cases e1
    | some m =>
     have hi:i<ds.length:=by rw [hd];exact(List.getElem?_eq_some_iff.mp em).1
     have ed:=List.getElem?_eq_getElem hi
     rw [em,zks em ed] at e1
     cases m with
     | true =>
      obtain⟨d',e3,e4⟩:=pinned i _ em ed
      rw [e3] at e1
      cases e1
      rw [<- e4] at e2
      exact r.rel.ok i _ _ e3 e2
     | false =>
      cases e1
      have e5:(slots ms ds)[i]?=some (.val ds[i]):=by rw [zbW hd,em,ed];rfl
      exact(rel.ok i _ _ e5 e2).mono fz fun a _ ⟨p,d',z⟩=>nomatch z
   ·have w:∀ i a,At (slots ms (outs ms ds ρ')) (vs.map some) i a->At (slots ms ds) (vs.map some) i a:=fun i a ⟨⟨p,d0,e1⟩,e2⟩=>by
     obtain⟨rfl,em,_⟩:=zdv ho e1
     have hi:i<ds.length:=by rw [hd];exact(List.getElem?_eq_some_iff.mp em).1
     have ed:=List.getElem?_eq_getElem hi
     exact⟨⟨true,ds[i],by rw [zbW hd,em,ed];rfl⟩,e2⟩
    exact rel.sep i j a (w i a h1) (w j a h2)
  obtain⟨fl,ρ'⟩:=y
  cases fr with
  | false =>
   cases fl with
   | rt dr =>
    cases hF
    exact fun v σ' H' r fz=>q v H' (fin ρ' σ' H' r).1 (fin ρ' σ' H' r).2 fz
   | nx =>
    cases hF
    exact fun σ' H' r fz=>q .non H' (fin ρ' σ' H' r).1 (fin ρ' σ' H' r).2 (by show Fz K H' .none .non;simp [Fz])
   | _=>cases hF
  | true =>
   cases fl with
   | rf dr =>
    cases hF
    exact fun a σ' H' r ha m=>q (.ref a) H' (fin ρ' σ' H' r).1 (fin ρ' σ' H' r).2 ⟨a,rfl,ha,m⟩
   | _=>cases hF
theorem ztb{x:Str}{st:Stmt}{N ps:List Str}{k:Nat}{b:SF}(ms:List Bool)(fr:Bool)(h:Has K mg x st)(S:zdt N ps (zas st))(hps:ps.length=ms.length)(hpN:ps.length<=N.length)
  (hbi:∀(kV doc pm:Value) (an:Option Addr) (cdv ct:Value) (us:List Value),us.length=ps.length->bindArgs (PySem.W.fnOf x x (zcW st) (zbz st) (zas st) .none kV doc pm an cdv ct) ⟨us,[]⟩=pure (ps.zip us))
  (hb:∀(f:Addr) (cdv:Value) (A:Around) (outer:List Env) (s:Shared) (H:Hp) (E:XK),zbZ k (A.deeper (envOfC x (zas st) s.heap.objs.size f cdv))->zjm K (znO (CXe P w) P w K mg base N x (zas st) f cdv A outer s H E) (zbz st) b) :
  Callee P w K mg base x (k+1) ps (spF K ms fr (run ms fr N.length b)):=by
 obtain⟨f,fd,hm,F⟩:=h
 exact⟨f,fd,hm,F.kp,F.binds hbi,zng ms fr F S hps hpN (hb f)⟩
end
end FL
namespace FL
open PySem L2 PySem.Spec
open PyProof.Rows hiding St
variable [Cs]
theorem zdP:∀{n:Nat} {ds:List D},ds.length=n->slots (List.replicate n false) ds=ds.map Sl.val
 | 0,[],_=>rfl
 | n+1,d::ds,h=>by
  simp only [List.replicate_succ,slots,List.map_cons]
  rw [zdP (by simpa using h)]
  rfl
 | 0,_::_,h=>by simp at h
 | n+1,[],h=>by simp at h
theorem zn3{K:PySem.W.Frag}{H:Hp}:∀{ds:List D} {vs:List V},zpP H->zaf K H ds vs->Rel K (ds.map Sl.val) (vs.map some) H:=fun{ds vs} cst f=>by
 refine⟨by simp [f.len],fun i x v e1 e2=>?_,fun i j a ⟨⟨p,d,e⟩,_⟩=>?_,cst⟩
 ·rw [List.getElem?_map] at e1 e2
  cases ed:ds[i]? with
  | none=>rw [ed] at e1;cases e1
  | some d =>
   obtain⟨u,eu,fu⟩:=f.get ed
   rw [ed] at e1
   rw [eu] at e2
   cases e1;cases e2
   exact fu
 ·rw [List.getElem?_map] at e
  cases ed:ds[i]? with
  | none=>rw [ed] at e;cases e
  | some d=>rw [ed] at e;cases e
theorem zlh{ds:List D}{σ:L2.St}{a:Addr}:¬ MA (ds.map Sl.val) σ a:=by
 rintro⟨i,⟨p,d,e⟩,_⟩
 rw [List.getElem?_map] at e
 cases ed:ds[i]? with
 | none=>rw [ed] at e;cases e
 | some d=>rw [ed] at e;cases e
section
variable {P:Program}{w:World}{K:PySem.W.Frag}{mg:Str->Option Value}{base:Heap}{x:Str}{k:Nat}{ps:List Str}
theorem zhB.pure{f:Addr}{fd:FuncData}{n m:Nat}{fr:Bool}{b:SF}(F:zhB P w K mg base (CXe P w) k f fd ps (spF K (List.replicate n false) fr (run (List.replicate n false) fr m b))):zhB P w K mg base (CXe P w) k f fd ps (spP K n fr (zbE fr n m b)):=by
 refine F.imp fun vs H Q E=>?_
 rintro⟨ds,hv,cst,f,d,e,q⟩
 have hd:ds.length=n:=by rw [<- f.len,hv]
 obtain⟨y,ey,e⟩:=zaj e
 cases e
 refine⟨ds,by simpa using hv,by simpa using hd,by rw [zdP hd];exact zn3 cst f,y.1,y.2,by rw [ey],fun v H' r kp fin=>q v H' (fun a o e=>kp a o e (by rw [zdP hd];exact zlh)) fin⟩
theorem Callee.pure{n m:Nat}{fr:Bool}{b:SF}(c:Callee P w K mg base x k ps (spF K (List.replicate n false) fr (run (List.replicate n false) fr m b))):Callee P w K mg base x k ps (spP K n fr (zbE fr n m b)):=by
 obtain⟨f,fd,h1,h2,h3,F⟩:=c
 exact⟨f,fd,h1,h2,h3,zhB.pure F⟩
end
def zrm(fa:AF)(n:Nat):Prop:=∀ ρ y,fa ρ=.ok y->y.1.length=n
theorem zk0:zrm zal 0:=fun ρ y h=>by cases h;rfl
theorem zjb{f:EF}{a:AF}{n:Nat}(h:zrm a n):zrm (zac f a) (n+1):=fun ρ y e=>by
 obtain⟨x,_,e⟩:=zaj (show(f ρ).bind _=.ok y from e)
 obtain⟨z,e2,e⟩:=zaj e
 cases e
 simp [h _ _ e2]
section
variable {K:PySem.W.Frag}{X:Cx}{k j n:Nat}{ps:List Str}{E:XK}{x:Str}{p pos:Pos}{e:Expr}{es:List Expr}{G:List D->R D}{fa:AF}
theorem zqq(c:Callee X.prog X.w X.K X.mg X.base x k ps (spP X.K n false G))(hr:zbZ j X.A)(hg:Gl X x)(hx:Passes (CXe X.prog X.w) X E)(ha:PVA K X (e::es) fa)(hl:zrm fa n)(hj:k<=j:=by decide)(hdb:(x==("__debug__":Str))=false:=by decide)
  (he:starEach (e::es) X.env=(false,eval e X.env)::starEach es X.env:=by rfl) (hpl:(backTo pos (starEach es X.env)).any (·.1)=false:=by rfl):PV K X (.Call (.Name x p) (e::es) [] pos) (zai G fa):=fun hK=>by
 subst hK
 refine(zd5 c hr hg hx (ha rfl) hj hdb he hpl).weak fun σ H Q=>?_
 rintro⟨ρ,rel,q⟩
 obtain⟨y,ey,q0⟩:=q.bnd
 have hy:=hl ρ y ey
 refine⟨ρ,rel,?_⟩
 rw [ey]
 intro H1 rel1 st1 vs fs
 obtain⟨d,ed,q2⟩:=(q0.step st1).zdA
 rw [List.append_nil]
 exact⟨y.1,by rw [fs.len,hy],rel1.cst,fs,d,ed,fun v H' s fin=>q2.new rel1 s v fin⟩
theorem zoe(c:Callee X.prog X.w X.K X.mg X.base x k ps (spP X.K n true G))(hr:zbZ j X.A)(hg:Gl X x)(hx:Passes (CXe X.prog X.w) X E)(ha:PVA K X (e::es) fa)(hl:zrm fa n)(hj:k<=j:=by decide)(hdb:(x==("__debug__":Str))=false:=by decide)
  (he:starEach (e::es) X.env=(false,eval e X.env)::starEach es X.env:=by rfl) (hpl:(backTo pos (starEach es X.env)).any (·.1)=false:=by rfl):PVN K X (.Call (.Name x p) (e::es) [] pos) (zai G fa):=fun hK=>by
 subst hK
 refine(zd5 c hr hg hx (ha rfl) hj hdb he hpl).weak fun σ H Q=>?_
 rintro⟨ρ,rel,q⟩
 obtain⟨y,ey,q0⟩:=q.bnd
 have hy:=hl ρ y ey
 refine⟨ρ,rel,?_⟩
 rw [ey]
 intro H1 rel1 st1 vs fs
 obtain⟨d,ed,q2⟩:=(q0.step st1).zdA
 rw [List.append_nil]
 refine⟨y.1,by rw [fs.len,hy],rel1.cst,fs,d,ed,fun v H' s fin=>?_⟩
 obtain⟨a,rfl,ha,m⟩:=fin
 refine q2.new rel1 s a ?_ m
 cases e0:H a with
 | none=>rfl
 | some o =>
  by_cases mm:MA ρ σ a
  ·obtain⟨o',e',_⟩:=rel1.zbH (st1.ma.mp mm)
   rw [ha] at e';cases e'
  ·rw [st1.kp a o e0 mm] at ha;cases ha
def zin(K:PySem.W.Frag)(σ:L2.St)(H₀ H:Hp):List Itm->List V->Prop
 | [],vs=>vs=[]
 | .vd d::r,vs=>∃ v t,vs=v::t/\Fz K H d v/\zin K σ H₀ H r t
 | .mi i::r,vs=>∃ v t,vs=v::t/\σ[i]?=some (some v)/\zin K σ H₀ H r t
 | .td d::r,vs=>∃ a t,vs=.ref a::t/\zbF K H a d/\H₀ a=none/\zin K σ H₀ H r t
theorem Stp.old{ρ ρ1:En}{σ:L2.St}{H H1:Hp}(st:Stp ρ ρ1 σ H H1)(rel1:Rel K ρ1 σ H1){a:Addr}(ha:H1 a=none):H a=none:=by
 cases e0:H a with
 | none=>rfl
 | some o =>
  by_cases mm:MA ρ σ a
  ·obtain⟨o',e',_⟩:=rel1.zbH (st.ma.mp mm)
   rw [ha] at e';cases e'
  ·rw [st.kp a o e0 mm] at ha;cases ha
theorem zin.back{σ:L2.St}{H H1 H2:Hp}(h:∀ a,H1 a=none->H a=none):∀{l:List Itm} {vs:List V},zin K σ H1 H2 l vs->zin K σ H H2 l vs
 | [],vs,z=>z
 | .vd d::r,vs,z=>by
  obtain⟨v,t,e,f,z⟩:=z
  exact⟨v,t,e,f,zin.back h z⟩
 | .mi i::r,vs,z=>by
  obtain⟨v,t,e,f,z⟩:=z
  exact⟨v,t,e,f,zin.back h z⟩
 | .td d::r,vs,z=>by
  obtain⟨v,t,e,f,g,z⟩:=z
  exact⟨v,t,e,f,h _ g,zin.back h z⟩
def tAr(K:PySem.W.Frag)(a:List Ar):TA:=fun σ H Q=>∃ ρ,Rel K ρ σ H/\Good K ρ σ H (zgA a ρ) fun l _ H'=>∀ vs,zin K σ H H' l vs->Q vs H'
def znD(K:PySem.W.Frag)(X:Cx)(es:List Expr)(a:List Ar):Prop:=X.K=K->PA X es (tAr K a)
theorem zaH:znD K X [] []:=fun _=>zd6.weak fun σ H Q=>by
 rintro⟨ρ,rel,q⟩
 exact q.now rel [] rfl
theorem zbG{f:EF}{a:List Ar}(he:PV K X e f)(hr:znD K X es a)(hs:starEach (e::es) X.env=(false,eval e X.env)::starEach es X.env:=by rfl):znD K X (e::es) (.v f::a):=fun hK=>(zbx (he hK) (hr hK) hs).weak fun σ H Q=>by
 rintro⟨ρ,rel,q⟩
 refine goV rel q fun dx ρ1 x H1 rel1 st1 fx q1=>?_
 obtain⟨y,ey,q2⟩:=q1.bnd
 refine⟨ρ1,rel1,?_⟩
 rw [ey]
 exact fun H2 rel2 st2 vs it=>(q2.step st2).now rel2 _ ⟨x,vs,rfl,fx.mono (st2.fzn rel1),it.back fun a ha=>st1.old rel1 ha⟩
theorem zrZ{a:List Ar}{y:Str}{py:Pos}(i:Nat)(ha:PE X (.Name y py) (zgE i))(hr:znD K X es a)(hs:starEach (.Name y py::es) X.env=(false,eval (.Name y py) X.env)::starEach es X.env:=by rfl):znD K X (.Name y py::es) (.m i::a):=fun hK=>(zbx ha (hr hK) hs).weak fun σ H Q=>by
 rintro⟨ρ,rel,q⟩
 obtain⟨d,ed,q1⟩:=(show Good K ρ σ H ((zau ρ i).bind fun _=>(zgA a ρ).bind fun y=>.ok (.mi i::y.1,y.2)) _ from q).zdA
 obtain⟨ad,at0,_⟩:=rel.zmJ ed
 obtain⟨y,ey,q2⟩:=q1.bnd
 refine⟨.ref ad,at0.2,ρ,rel,?_⟩
 rw [ey]
 exact fun H2 rel2 st2 vs it=>(q2.step st2).now rel2 _ ⟨.ref ad,vs,rfl,at0.2,it⟩
def arM:List Ar->List Bool
 | []=>[]
 | .v _::r=>false::arM r
 | .m _::r=>true::arM r
 | .t _::r=>true::arM r
def arI:List Ar->List Nat
 | []=>[]
 | .v _::r=>arI r
 | .m i::r=>i::arI r
 | .t _::r=>arI r
def arT:List Ar->Nat
 | []=>0
 | .v _::r=>arT r
 | .m _::r=>arT r
 | .t _::r=>arT r+1
def isR:Itm->Bool
 | .vd _=>false
 | _=>true
def zrE:Itm->Option Nat
 | .mi i=>some i
 | _=>none
def isT:Itm->Bool
 | .td _=>true
 | _=>false
theorem zdF:∀{a:List Ar} {ρ:En} {y:List Itm×En},zgA a ρ=.ok y->y.1.map isR=arM a/\y.1.filterMap zrE=arI a/\y.1.countP isT=arT a
 | [],ρ,y,h=>by cases h;exact⟨rfl,rfl,rfl⟩
 | .v f::r,ρ,y,h=>by
  obtain⟨x,_,h⟩:=zaj (show(f ρ).bind _=.ok y from h)
  obtain⟨z,e,h⟩:=zaj h
  cases h
  obtain⟨h1,h2,h3⟩:=zdF e
  simp only [List.map_cons,List.filterMap_cons]
  exact⟨by rw [h1];rfl,h2,by rw [List.countP_cons_of_neg (by simp [isT])];exact h3⟩
 | .m i::r,ρ,y,h=>by
  obtain⟨_,_,h⟩:=zaj (show(zau ρ i).bind _=.ok y from h)
  obtain⟨z,e,h⟩:=zaj h
  cases h
  obtain⟨h1,h2,h3⟩:=zdF e
  simp only [List.map_cons,List.filterMap_cons]
  exact⟨by rw [h1];rfl,by rw [h2];rfl,by rw [List.countP_cons_of_neg (by simp [isT])];exact h3⟩
 | .t f::r,ρ,y,h=>by
  obtain⟨x,_,h⟩:=zaj (show(f ρ).bind _=.ok y from h)
  obtain⟨z,e,h⟩:=zaj h
  cases h
  obtain⟨h1,h2,h3⟩:=zdF e
  simp only [List.map_cons,List.filterMap_cons]
  exact⟨by rw [h1];rfl,h2,by rw [List.countP_cons_of_pos (by simp [isT]),h3];rfl⟩
theorem zdE{ρ:En}:∀{l:List Itm} {ds:List D},zfq ρ l=.ok ds->ds.length=l.length/\∀(j:Nat) z,l[j]?=some z->∃ d,ds[j]?=some d/\(match z with | .vd d'=>d=d' | .mi i=>zau ρ i=.ok d | .td d'=>d=d')
 | [],ds,h=>by cases h;exact⟨rfl,fun j z e=>by simp at e⟩
 | .vd d::r,ds,h=>by
  obtain⟨ds',e,h⟩:=zaj (show(zfq ρ r).bind _=.ok ds from h)
  cases h
  obtain⟨h1,h2⟩:=zdE e
  refine⟨by simp [h1],fun j z ez=>?_⟩
  cases j with
  | zero=>simp at ez;subst ez;exact⟨d,rfl,rfl⟩
  | succ j=>obtain⟨d',h3,h4⟩:=h2 j z (by simpa using ez);exact⟨d',by simpa using h3,h4⟩
 | .td d::r,ds,h=>by
  obtain⟨ds',e,h⟩:=zaj (show(zfq ρ r).bind _=.ok ds from h)
  cases h
  obtain⟨h1,h2⟩:=zdE e
  refine⟨by simp [h1],fun j z ez=>?_⟩
  cases j with
  | zero=>simp at ez;subst ez;exact⟨d,rfl,rfl⟩
  | succ j=>obtain⟨d',h3,h4⟩:=h2 j z (by simpa using ez);exact⟨d',by simpa using h3,h4⟩
 | .mi i::r,ds,h=>by
  obtain⟨d,e0,h⟩:=zaj (show(zau ρ i).bind _=.ok ds from h)
  obtain⟨ds',e,h⟩:=zaj h
  cases h
  obtain⟨h1,h2⟩:=zdE e
  refine⟨by simp [h1],fun j z ez=>?_⟩
  cases j with
  | zero=>simp at ez;subst ez;exact⟨d,rfl,e0⟩
  | succ j=>obtain⟨d',h3,h4⟩:=h2 j z (by simpa using ez);exact⟨d',by simpa using h3,h4⟩
theorem zin.get{σ:L2.St}{H₀ H:Hp}:∀{l:List Itm} {vs:List V},zin K σ H₀ H l vs->vs.length=l.length/\∀(j:Nat) z,l[j]?=some z->∃ v,vs[j]?=some v/\(match z with | .vd d=>Fz K H d v | .mi i=>σ[i]?=some (some v) | .td d=>∃ a,v=.ref a/\zbF K H a d/\H₀ a=none)
 | [],vs,h=>by cases (show vs=[] from h);exact⟨rfl,fun j z e=>by simp at e⟩
 | .vd d::r,vs,h=>by
  obtain⟨v,t,rfl,f,h⟩:=h
  obtain⟨h1,h2⟩:=zin.get h
  refine⟨by simp [h1],fun j z ez=>?_⟩
  cases j with
  | zero=>simp at ez;subst ez;exact⟨v,rfl,f⟩
  | succ j=>obtain⟨d',h3,h4⟩:=h2 j z (by simpa using ez);exact⟨d',by simpa using h3,h4⟩
 | .mi i::r,vs,h=>by
  obtain⟨v,t,rfl,f,h⟩:=h
  obtain⟨h1,h2⟩:=zin.get h
  refine⟨by simp [h1],fun j z ez=>?_⟩
  cases j with
  | zero=>simp at ez;subst ez;exact⟨v,rfl,f⟩
  | succ j=>obtain⟨d',h3,h4⟩:=h2 j z (by simpa using ez);exact⟨d',by simpa using h3,h4⟩
 | .td d::r,vs,h=>by
  obtain⟨v,t,rfl,f,g,h⟩:=h
  obtain⟨h1,h2⟩:=zin.get h
  refine⟨by simp [h1],fun j z ez=>?_⟩
  cases j with
  | zero=>simp at ez;subst ez;exact⟨_,rfl,v,rfl,f,g⟩
  | succ j=>obtain⟨d',h3,h4⟩:=h2 j z (by simpa using ez);exact⟨d',by simpa using h3,h4⟩
end
end FL
namespace FL
open PySem L2 PySem.Spec
open PyProof.Rows hiding St
variable [Cs]
section
variable {K:PySem.W.Frag}{ρ:En}{σ:L2.St}{H H':Hp}
theorem zsv{m:List (Nat×Sl)}(r:Rel K ρ σ H)(hA:∀ i c,m.lookup i=some c->∀ a,At ρ σ i a->∃ q d,c=.ow q d/\zbF K H' a d)(hB:∀ i a,At ρ σ i a->m.lookup i=none->H' a=H a)(fz:Fzn H H') :
  Rel K (bkL m 0 ρ) σ H'/\∀(i:Nat) p,(∃ d,ρ[i]?=some (.ow p d))↔∃ d,(bkL m 0 ρ)[i]?=some (.ow p d):=by
 have gt:∀ i:Nat,(bkL m 0 ρ)[i]?=(ρ[i]?).map (bk1 m i):=fun i=>by rw [zj2,Nat.zero_add]
 have mdB:∀(i:Nat) p,(∃ d,ρ[i]?=some (.ow p d))↔∃ d,(bkL m 0 ρ)[i]?=some (.ow p d):=fun i p=>by
  rw [gt]
  constructor
  ·rintro⟨d,e⟩
   rw [e]
   simp only [Option.map_some,bk1]
   split
   ·rename_i p' d1 q' d2 h1 h2;cases h1;exact⟨_,rfl⟩
   ·exact⟨_,rfl⟩
  ·rintro⟨d,e⟩
   cases er:ρ[i]? with
   | none=>rw [er] at e;cases e
   | some x =>
    rw [er] at e
    simp only [Option.map_some,Option.some.injEq,bk1] at e
    split at e
    ·cases e;exact⟨_,rfl⟩
    ·subst e;exact⟨_,rfl⟩
 have atB:∀ i a,At (bkL m 0 ρ) σ i a->At ρ σ i a:=fun i a ⟨⟨p,d,e1⟩,e2⟩=>⟨⟨p,(mdB i p).mpr ⟨d,e1⟩⟩,e2⟩
 refine⟨⟨by rw [zj1];exact r.len,fun i x v e1 e2=>?_,fun i j a h1 h2=>r.sep i j a (atB i a h1) (atB j a h2),r.cst.mono fz⟩,mdB⟩
 rw [gt] at e1
 cases er:ρ[i]? with
 | none=>rw [er] at e1;cases e1
 | some y =>
  rw [er] at e1
  simp only [Option.map_some,Option.some.injEq] at e1
  have o:=r.ok i y v er e2
  cases y with
  | no=>simp only [bk1] at e1;subst e1;trivial
  | val d =>
   simp only [bk1] at e1
   subst e1
   exact o.mono fz fun a _ ⟨p,d',z⟩=>nomatch z
  | ow p d =>
   cases v with
   | none=>exact o.elim
   | some v =>
    cases v with
    | ref a =>
     have ai:At ρ σ i a:=⟨⟨p,d,er⟩,e2⟩
     cases el:m.lookup i with
     | none =>
      simp only [bk1,el] at e1
      subst e1
      exact o.mono fz fun b e3 _=>by cases e3;exact hB i a ai el
     | some c =>
      obtain⟨q,d',rfl,mm⟩:=hA i c el a ai
      simp only [bk1,el] at e1
      subst e1
      exact mm
    | _=>exact o.elim
end
theorem zps:∀{l:List Itm} {j j' i:Nat},(l.filterMap zrE).Nodup->l[j]?=some (.mi i)->l[j']?=some (.mi i)->j=j'
 | [],j,j',i,_,h,_=>by simp at h
 | z::r,j,j',i,nd,h1,h2=>by
  have rest:(r.filterMap zrE).Nodup:=by
   rw [List.filterMap_cons] at nd
   cases z with
   | mi k=>exact(List.nodup_cons.mp nd).2
   | _=>exact nd
  have mem:∀{j:Nat},r[j]?=some (.mi i)->i∈r.filterMap zrE:=fun h=>List.mem_filterMap.mpr ⟨.mi i,List.mem_of_getElem? h,rfl⟩
  have hd:z=.mi i->∀{j:Nat},r[j]?≠some (.mi i):=fun e j h=>by
   subst e
   rw [List.filterMap_cons] at nd
   exact(List.nodup_cons.mp nd).1 (mem h)
  cases j with
  | zero =>
   cases j' with
   | zero=>rfl
   | succ j'=>exact absurd (by simpa using h2) (hd (by simpa using h1) (j:=j'))
  | succ j =>
   cases j' with
   | zero=>exact absurd (by simpa using h1) (hd (by simpa using h2) (j:=j))
   | succ j' =>
    have:=zps (l:=r) rest (by simpa using h1) (by simpa using h2)
    rw [this]
theorem zpf:∀{l:List Itm} {j j':Nat} {d d':D},l.countP isT<=1->l[j]?=some (.td d)->l[j']?=some (.td d')->j=j'
 | [],j,j',d,d',_,h,_=>by simp at h
 | z::r,j,j',d,d',c,h1,h2=>by
  have rest:r.countP isT<=1:=by
   rw [List.countP_cons] at c;omega
  have none:isT z=true->∀{j:Nat} {d:D},r[j]?≠some (.td d):=fun e j d h=>by
   rw [List.countP_cons,if_pos e] at c
   have:0<r.countP isT:=List.countP_pos_iff.mpr ⟨_,List.mem_of_getElem? h,rfl⟩
   omega
  cases j with
  | zero =>
   cases j' with
   | zero=>rfl
   | succ j' =>
    have e:z=.td d:=by simpa using h1
    subst e
    exact absurd (by simpa using h2) (none rfl (j:=j'))
  | succ j =>
   cases j' with
   | zero =>
    have e:z=.td d':=by simpa using h2
    subst e
    exact absurd (by simpa using h1) (none rfl (j:=j))
   | succ j' =>
    have:=zpf (l:=r) rest (by simpa using h1) (by simpa using h2)
    rw [this]
theorem zc0:∀{l:List Itm} {os:List D} {i:Nat} {c:Sl},(zfp l os).lookup i=some c->∃(j:Nat) (d:D),l[j]?=some (.mi i)/\os[j]?=some d/\c=.ow true d
 | [],os,i,c,h=>by simp [zfp] at h
 | z::r,[],i,c,h=>by cases z <;> simp [zfp] at h
 | .vd d::r,o::os,i,c,h=>by
  obtain⟨j,d',h1,h2,h3⟩:=zc0 (l:=r) (os:=os) (by simpa [zfp] using h)
  exact⟨j+1,d',by simpa using h1,by simpa using h2,h3⟩
 | .td d::r,o::os,i,c,h=>by
  obtain⟨j,d',h1,h2,h3⟩:=zc0 (l:=r) (os:=os) (by simpa [zfp] using h)
  exact⟨j+1,d',by simpa using h1,by simpa using h2,h3⟩
 | .mi k::r,o::os,i,c,h=>by
  simp only [zfp] at h
  rw [List.lookup_cons] at h
  by_cases e:i=k
  ·subst e
   simp only [beq_self_eq_true] at h
   cases h
   exact⟨0,o,rfl,rfl,rfl⟩
  ·rw [beq_false_of_ne e] at h
   obtain⟨j,d',h1,h2,h3⟩:=zc0 (l:=r) (os:=os) h
   exact⟨j+1,d',by simpa using h1,by simpa using h2,h3⟩
theorem zfC:∀{l:List Itm} {os:List D} {i j:Nat} {d:D},l[j]?=some (.mi i)->os[j]?=some d->∃ c,(zfp l os).lookup i=some c
 | [],os,i,j,d,h,_=>by simp at h
 | z::r,[],i,j,d,_,h=>by simp at h
 | .vd _::r,o::os,i,j,d,h1,h2=>by
  cases j with
  | zero=>simp at h1
  | succ j =>
   simp only [zfp]
   exact zfC (l:=r) (by simpa using h1) (by simpa using h2)
 | .td _::r,o::os,i,j,d,h1,h2=>by
  cases j with
  | zero=>simp at h1
  | succ j =>
   simp only [zfp]
   exact zfC (l:=r) (by simpa using h1) (by simpa using h2)
 | .mi k::r,o::os,i,j,d,h1,h2=>by
  simp only [zfp]
  rw [List.lookup_cons]
  by_cases e:i=k
  ·subst e
   simp
  ·rw [beq_false_of_ne e]
   cases j with
   | zero=>simp at h1;exact absurd h1.symm e
   | succ j=>exact zfC (l:=r) (by simpa using h1) (by simpa using h2)
section
variable {K:PySem.W.Frag}{ρ0 ρ:En}{σ:L2.St}{H0 H H':Hp}{l:List Itm}{ds os:List D}{vs:List V}{ms:List Bool}
theorem zeM(rel:Rel K ρ σ H)(it:zin K σ H0 H l vs)(hi:zfq ρ l=.ok ds)(hm:l.map isR=ms){j:Nat}{a:Addr}(hd:ds.length=ms.length)(h:At (slots ms ds) (vs.map some) j a):(∃ i,l[j]?=some (.mi i)/\At ρ σ i a)\/∃ d,l[j]?=some (.td d)/\H0 a=none:=by
 obtain⟨v1,v2⟩:=it.get
 obtain⟨d1,d2⟩:=zdE hi
 obtain⟨⟨p,d,e1⟩,e2⟩:=h
 obtain⟨rfl,em,ed⟩:=zdv hd e1
 rw [<- hm,List.getElem?_map] at em
 cases el:l[j]? with
 | none=>rw [el] at em;cases em
 | some z =>
  rw [el] at em
  obtain⟨v,ev,es⟩:=v2 j _ el
  obtain⟨d',ed',em'⟩:=d2 j _ el
  rw [List.getElem?_map,ev] at e2
  cases e2
  cases z with
  | vd _=>cases em
  | mi i =>
   obtain⟨q,eq⟩:=zfS em'
   exact .inl ⟨i,rfl,⟨q,d',eq⟩,es⟩
  | td d0 =>
   obtain⟨b,eb,_,hb⟩:=es
   cases eb
   exact .inr ⟨d0,rfl,hb⟩
theorem zpc(r0:Rel K ρ0 σ H0)(st:Stp ρ0 ρ σ H0 H)(rel:Rel K ρ σ H)(it:zin K σ H0 H l vs)(hi:zfq ρ l=.ok ds)(hm:l.map isR=ms)(nd:(l.filterMap zrE).Nodup)(ct:l.countP isT<=1):ds.length=ms.length/\vs.length=ms.length/\Rel K (slots ms ds) (vs.map some) H:=by
 obtain⟨v1,v2⟩:=it.get
 obtain⟨d1,d2⟩:=zdE hi
 have hl:ms.length=l.length:=by rw [<- hm,List.length_map]
 have hd:ds.length=ms.length:=by rw [d1,hl]
 have hv:vs.length=ms.length:=by rw [v1,hl]
 have apart:∀{i:Nat} {a:Addr},At ρ σ i a->H0 a=none->False:=fun h1 h2=>by
  obtain⟨o',e',_⟩:=r0.zbH (st.ma.mpr ⟨_,h1⟩)
  rw [h2] at e';cases e'
 refine⟨hd,hv,⟨by rw [zde hd,List.length_map,hv],fun j x v e1 e2=>?_,fun j j' a h1 h2=>?_,rel.cst⟩⟩
 ·rw [zbW hd] at e1
  cases em:ms[j]? with
  | none=>rw [em] at e1;cases e1
  | some m =>
   cases ed:ds[j]? with
   | none=>rw [em,ed] at e1;cases e1
   | some d =>
    rw [em,ed] at e1
    rw [<- hm,List.getElem?_map] at em
    cases el:l[j]? with
    | none=>rw [el] at em;cases em
    | some z =>
     rw [el] at em
     obtain⟨u,eu,es⟩:=v2 j z el
     obtain⟨d',ed',em'⟩:=d2 j z el
     rw [ed] at ed'
     cases ed'
     rw [List.getElem?_map,eu] at e2
     cases e2
     cases z with
     | vd dz =>
      cases em
      cases e1
      cases em'
      exact es
     | mi i =>
      cases em
      cases e1
      obtain⟨q,eq⟩:=zfS em'
      have o:=rel.ok i _ _ eq es
      show zrk K H (.ow true d) (some u)
      cases u with
      | ref a=>exact o
      | _=>exact o.elim
     | td dz =>
      cases em
      cases e1
      cases em'
      obtain⟨b,rfl,mb,_⟩:=es
      exact mb
 ·rcases zeM rel it hi hm hd h1 with⟨i,e1,a1⟩|⟨d,e1,a1⟩
  ·rcases zeM rel it hi hm hd h2 with⟨i',e2,a2⟩|⟨d,e2,a2⟩
   ·have:=rel.sep i i' a a1 a2
    subst this
    exact zps nd e1 e2
   ·exact(apart a1 a2).elim
  ·rcases zeM rel it hi hm hd h2 with⟨i',e2,a2⟩|⟨d,e2,a2⟩
   ·exact(apart a2 a1).elim
   ·exact zpf ct e1 e2
theorem znz(r0:Rel K ρ0 σ H0)(st:Stp ρ0 ρ σ H0 H)(rel:Rel K ρ σ H)(it:zin K σ H0 H l vs)(hi:zfq ρ l=.ok ds)(hm:l.map isR=ms)(hd:ds.length=ms.length)(ho:os.length=ms.length)(ra:Rel K (slots ms os) (vs.map some) H')(hC:∀ a o,H a=some o->¬ MA (slots ms ds) (vs.map some) a->H' a=some o) :
  Rel K (zeN ρ l os) σ H'/\Stp ρ0 (zeN ρ l os) σ H0 H':=by
 obtain⟨v1,v2⟩:=it.get
 obtain⟨d1,d2⟩:=zdE hi
 have hl:ms.length=l.length:=by rw [<- hm,List.length_map]
 have apart:∀{i:Nat} {a:Addr},At ρ σ i a->H0 a=none->False:=fun h1 h2=>by
  obtain⟨o',e',_⟩:=r0.zbH (st.ma.mpr ⟨_,h1⟩)
  rw [h2] at e';cases e'
 have kp0:∀ a o,H0 a=some o->¬ MA ρ0 σ a->H' a=some o:=fun a o e n=>hC a o (st.kp a o e n) fun⟨j,h⟩=>by
  rcases zeM rel it hi hm hd h with⟨i,_,a1⟩|⟨d,_,a1⟩
  ·exact n (st.ma.mpr ⟨i,a1⟩)
  ·rw [e] at a1;cases a1
 have fz:Fzn H H':=fun a o e sy=>hC a o e fun⟨j,h⟩=>by
  obtain⟨⟨p,d,e1⟩,e2⟩:=id h
  obtain⟨rfl,em,ed⟩:=zdv hd e1
  rcases zeM rel it hi hm hd h with⟨i,_,a1⟩|⟨d,el,a1⟩
  ·obtain⟨o',e',ow⟩:=rel.zbH ⟨i,a1⟩
   rw [e] at e'
   cases e'
   exact ow.zc6 sy
  ·obtain⟨v,ev,b,eb,mb,_⟩:=v2 j _ el
   rw [List.getElem?_map,ev] at e2
   cases e2
   cases eb
   obtain⟨o',e',ow⟩:=mb.own
   rw [e] at e'
   cases e'
   exact ow.zc6 sy
 have key:=zsv (H:=H) (H':=H') (m:=zfp l os) rel (fun i c e a at0=>by
  obtain⟨j,d,e1,e2,rfl⟩:=zc0 e
  obtain⟨v,ev,es⟩:=v2 j _ e1
  replace es:σ[i]?=some (some v):=es
  rw [at0.2] at es
  cases es
  refine⟨true,d,rfl,?_⟩
  have em:ms[j]?=some true:=by rw [<- hm,List.getElem?_map,e1];rfl
  exact ra.ok j (.ow true d) (some (.ref a)) (by rw [zbW ho,em,e2];rfl) (by rw [List.getElem?_map,ev];rfl)) (fun i a at0 e=>by
  obtain⟨u,hu,_⟩:=rel.zbH ⟨i,at0⟩
  rw [hu]
  refine hC a u hu fun⟨j,h⟩=>?_
  rcases zeM rel it hi hm hd h with⟨i',el,a1⟩|⟨d,_,a1⟩
  ·have:=rel.sep i i' a at0 a1
   subst this
   have hj:j<os.length:=by rw [ho,hl];exact(List.getElem?_eq_some_iff.mp el).1
   obtain⟨c,ec⟩:=zfC el (List.getElem?_eq_getElem hj)
   rw [ec] at e
   cases e
  ·exact apart at0 a1) fz
 exact⟨key.1,⟨fun i p=>(st.md i p).trans (key.2 i p),kp0⟩⟩
end
section
variable {K:PySem.W.Frag}{X:Cx}{k j:Nat}{ps:List Str}{E:XK}{x:Str}{p pos:Pos}{e:Expr}{es:List Expr}{F:List D->R (D×List D)}{a:List Ar}
def zrx(F:List D->R (D×List D))(n:Nat):Prop:=∀ ds y,F ds=.ok y->y.2.length=n
theorem zku{ms:List Bool}{fr:Bool}{m:Nat}{b:SF}:zrx (run ms fr m b) ms.length:=fun ds y h=>by
 unfold run at h
 split at h
 ·rename_i hd
  obtain⟨z,_,h⟩:=zaj h
  obtain⟨fl,ρ⟩:=z
  cases fr with
  | false =>
   cases fl with
   | rt d=>cases h;exact zd7 hd
   | nx=>cases h;exact zd7 hd
   | _=>cases h
  | true =>
   cases fl with
   | rf d=>cases h;exact zd7 hd
   | _=>cases h
 ·cases h
theorem zu5{fr:Bool}(ho:zrx F (arM a).length)(nd:(arI a).Nodup)(ct:arT a<=1)(σ:L2.St)(H:Hp)(Q:VK)(ρ:En)(rel:Rel K ρ σ H)
  (q:Good K ρ σ H (zam F a ρ) fun d ρ' H'=>∀ v,(if fr=true then ∃ a,v=.ref a/\H a=none/\zbF K H' a d else Fz K H' d v)->Q v H'):zp0 (spF K (arM a) fr F) [] E (tAr K a) σ H Q:=by
 obtain⟨y,ey,q0⟩:=q.bnd
 obtain⟨h1,h2,h3⟩:=zdF ey
 refine⟨ρ,rel,?_⟩
 rw [ey]
 intro H1 rel1 st1 vs it
 obtain⟨ds,ed,q1⟩:=q0.zdA
 obtain⟨z,ez,q2⟩:=q1.zdA
 obtain⟨hd,hv,ra⟩:=zpc rel st1 rel1 it ed h1 (by rw [h2];exact nd) (by rw [h3];exact ct)
 rw [List.append_nil]
 refine⟨ds,hv,hd,ra,z.1,z.2,ez,fun v H' rb kp fin=>?_⟩
 obtain⟨r2,s2⟩:=znz rel st1 rel1 it ed h1 hd (ho ds z ez) rb kp
 refine q2 H' r2 s2 v ?_
 cases fr with
 | false=>exact fin
 | true =>
  obtain⟨ad,rfl,ha,m⟩:=fin
  exact⟨ad,rfl,st1.old rel1 ha,m⟩
theorem zoi(c:Callee X.prog X.w X.K X.mg X.base x k ps (spF X.K (arM a) false F))(ho:zrx F (arM a).length)(nd:(arI a).Nodup)(ct:arT a<=1)(hr:zbZ j X.A)(hg:Gl X x)(hx:Passes (CXe X.prog X.w) X E)(ha:znD K X (e::es) a)(hj:k<=j:=by decide)(hdb:(x==("__debug__":Str))=false:=by decide)
  (he:starEach (e::es) X.env=(false,eval e X.env)::starEach es X.env:=by rfl) (hpl:(backTo pos (starEach es X.env)).any (·.1)=false:=by rfl):PV K X (.Call (.Name x p) (e::es) [] pos) (zam F a):=fun hK=>by
 subst hK
 refine(zd5 c hr hg hx (ha rfl) hj hdb he hpl).weak fun σ H Q=>?_
 rintro⟨ρ,rel,q⟩
 exact zu5 (fr:=false) ho nd ct σ H Q ρ rel q
theorem zmn(c:Callee X.prog X.w X.K X.mg X.base x k ps (spF X.K (arM a) true F))(ho:zrx F (arM a).length)(nd:(arI a).Nodup)(ct:arT a<=1)(hr:zbZ j X.A)(hg:Gl X x)(hx:Passes (CXe X.prog X.w) X E)(ha:znD K X (e::es) a)(hj:k<=j:=by decide)(hdb:(x==("__debug__":Str))=false:=by decide)
  (he:starEach (e::es) X.env=(false,eval e X.env)::starEach es X.env:=by rfl) (hpl:(backTo pos (starEach es X.env)).any (·.1)=false:=by rfl):PVN K X (.Call (.Name x p) (e::es) [] pos) (zam F a):=fun hK=>by
 subst hK
 refine(zd5 c hr hg hx (ha rfl) hj hdb he hpl).weak fun σ H Q=>?_
 rintro⟨ρ,rel,q⟩
 refine zu5 (fr:=true) ho nd ct σ H Q ρ rel ?_
 cases e0:zam F a ρ with
 | ok y =>
  rw [e0] at q
  exact fun H' r s v ⟨ad,hv,ha,m⟩=>by subst hv;exact q H' r s ad ha m
 | _=>rw [e0] at q;exact q.elim
end
end FL
namespace FL
open PySem L2 PySem.Spec
open PyProof.Rows hiding St
variable [Cs]
section
variable {K:PySem.W.Frag}{X:Cx}{st:Stmt}{s:SF}{e:Expr}{f h:EF}{pos:Pos}
theorem zq6{C:SC}{ρ:En}{σ:L2.St}{H:Hp}{i:Nat}{d:D}(rel:zds K C ρ σ H)(e:ρ[i]?=some (.ow false d)):∃ a u,H a=some u/\Own u/\∀ o,zds K C (ρ.set i (.val d)) σ (upd H a (.frz o u))/\Fzn H (upd H a (.frz o u)):=by
 obtain⟨a,at0,m⟩:=rel.rel.zmJ (d:=d) (show zau ρ i=.ok d by unfold zau;rw [e])
 obtain⟨u,e1,ow⟩:=m.own
 refine⟨a,u,e1,ow,fun o=>?_⟩
 have hl:i<ρ.length:=(List.getElem?_eq_some_iff.mp e).1
 have hfr:=rel.own i a d e at0.2
 have fz:Fzn H (upd H a (.frz o u)):=fun b w e2 sy=>by
  rw [zao fun z=>by subst z;rw [e1] at e2;cases e2;exact ow.zc6 sy]
  exact e2
 refine⟨?_,fz⟩
 have fd:Fz K (upd H a (.frz o u)) d (.ref a):=by
  cases d with
  | list ds =>
   obtain⟨vs,h1,h2⟩:=m
   rw [e1] at h1
   cases h1
   simp only [Fz]
   exact⟨a,vs,rfl,.inl ⟨o,zak⟩,h2.mono fz⟩
  | dict kvs =>
   simp only [Fz]
   rcases m with⟨kk,h1,h2⟩|⟨kk,h1,h2⟩
   ·rw [e1] at h1
    cases h1
    exact⟨a,o,rfl,.inl ⟨kk,zak,h2.mono fz⟩⟩
   ·rw [e1] at h1
    cases h1
    exact⟨a,o,rfl,.inr ⟨kk,zak,h2.mono fz⟩⟩
  | _=>exact m.elim
 have atw:∀ j b,At (ρ.set i (.val d)) σ j b->j≠i/\At ρ σ j b:=fun j b ⟨⟨q,dd,e1⟩,e2⟩=>by
  by_cases c:i=j
  ·subst c
   rw [List.getElem?_set_self hl] at e1;cases e1
  ·rw [List.getElem?_set_ne c] at e1
   exact⟨fun z=>c z.symm,⟨q,dd,e1⟩,e2⟩
 refine⟨⟨by rw [List.length_set];exact rel.rel.len,fun j y w e2 e3=>?_,fun j k b h1 h2=>rel.rel.sep j k b (atw j b h1).2 (atw k b h2).2,rel.rel.cst.mono fz⟩,fun b w e2 n=>?_,fun j b c e2 e3=>?_,fun j=>?_,fun j c e2=>?_,rel.prm⟩
 ·by_cases c:i=j
  ·subst c
   rw [List.getElem?_set_self hl] at e2
   cases e2
   rw [at0.2] at e3
   cases e3
   exact fd
  ·rw [List.getElem?_set_ne c] at e2
   refine(rel.rel.ok j y w e2 e3).mono fz fun b e4 ⟨p,dd,e5⟩=>?_
   subst e4;subst e5
   refine zao fun z=>?_
   subst z
   exact c (rel.rel.sep i j b at0 ⟨⟨p,dd,e2⟩,e3⟩)
 ·rw [zao fun z=>by subst z;rw [hfr] at e2;cases e2]
  exact rel.keep b w e2 n
 ·by_cases c:i=j
  ·subst c
   rw [List.getElem?_set_self hl] at e2;cases e2
  ·rw [List.getElem?_set_ne c] at e2
   exact rel.own j b _ e2 e3
 ·by_cases c:i=j
  ·subst c
   rw [List.getElem?_set_self hl,<- rel.pin i,e]
   constructor
   ·rintro⟨_,z⟩;cases z
   ·rintro⟨_,z⟩;cases z
  ·rw [List.getElem?_set_ne c];exact rel.pin j
 ·by_cases k:i=j
  ·subst k
   rw [List.getElem?_set_self hl] at e2;cases e2
  ·rw [List.getElem?_set_ne k] at e2
   exact rel.fix j c e2
theorem zn8(i:Nat)(hh:PSV K X st s):PSV K X st (zd4 i s):=fun hK C=>by
 have h1:PS X st (fun Dn σ H=>tS K C s { Dn with nx:=fun σ H=>∃ a u,H a=some u/\Own u/\∀ o,Dn.nx σ (upd H a (.frz o u)) } σ H):=fun pins sh σ H Dn I q=>by
  refine thn (hh hK C pins sh σ H _ I q) fun fl s1 z=>?_
  cases fl with
  | next =>
   obtain⟨σ',H',I',a,u,e,ow,q⟩:=z
   obtain⟨o,ho⟩:=(I'.hok a u e).some
   exact⟨σ',_,zuy I' e ow ho,q o⟩
  | brk=>exact z
  | cont=>exact z
  | ret v=>exact z
 refine h1.weak fun Dn σ H=>?_
 rintro⟨ρ,rel,g⟩
 refine⟨ρ,rel,?_⟩
 obtain⟨x,ex,g1⟩:=g.bnd
 rw [ex]
 obtain⟨fl,ρ1⟩:=x
 cases fl with
 | nx =>
  replace g1:zb6 K C H (match ρ1[i]? with|some (.ow false d)=>.ok (.nx,ρ1.set i (.val d))|_=>.bad) Dn:=g1
  cases e:ρ1[i]? with
  | none=>rw [e] at g1;exact g1.elim
  | some y =>
   rw [e] at g1
   cases y with
   | ow p d =>
    cases p with
    | true=>exact g1.elim
    | false =>
     intro σ' H' r z
     obtain⟨a,u,e1,ow,k⟩:=zq6 r e
     exact⟨a,u,e1,ow,fun o=>g1 σ' _ (k o).1 (z.trans (k o).2)⟩
   | _=>exact g1.elim
 | bk=>exact g1
 | ct=>exact g1
 | rt d=>exact g1
 | rf d=>exact g1
theorem zqj{i j:Nat}{x y:Str}{a b:Expr}{px py pt:Pos}{kt k2 pt2}(hc:X.calm=true)(hN:X.N.Nodup)(hi:X.N[i]?=some x)(hj:X.N[j]?=some y)(hij:i≠j)
  (hx:X.env.scope.names.lookup x=some .local)(hy:X.env.scope.names.lookup y=some .local)(ha:PV K X a f)(hb:PV K X b h)
  (hw:swappedStores [.Tuple [.Name x px,.Name y py] kt pt] (.Tuple [a,b] k2 pt2) X.env=pure (some [x,y]))
  (hs:swapsWithSole [.Tuple [.Name x px,.Name y py] kt pt] (.Tuple [a,b] k2 pt2) pos.line X.env=pure false:=by rfl)(hs1:starEach [a,b] X.env=(false,eval a X.env)::starEach [b] X.env:=by rfl)(hs2:starEach [b] X.env=(false,eval b X.env)::starEach [] X.env:=by rfl) :
  PSV K X (.Assign [.Tuple [.Name x px,.Name y py] kt pt] (.Tuple [a,b] k2 pt2) pos) (ze3 i j f h):=fun hK C=>(zsc hc hN hi hj hij hx hy (zbx (ha hK) (zbx (hb hK) zd6 hs2) hs1) hw hs).weak fun Dn σ H=>by
 rintro⟨ρ,rel,g⟩
 refine zlC rel g fun d ρ1 v H1 rel1 st1 fz g1=>zlC rel1 g1 fun d2 ρ2 v2 H2 rel2 st2 fz2 g2=>?_
 obtain⟨ρ3,e3,g3⟩:=g2.bnd
 obtain⟨ρ4,e4,g4⟩:=g3.bnd
 obtain⟨rfl,n1,l1⟩:=zkK e3
 obtain⟨rfl,n2,l2⟩:=zkK e4
 have f1:=fz.mono (st2.fzn rel1.rel)
 have r3:=rel2.chg (rel2.rel.set (i:=i) (x:=.val d) (v:=some v) f1 fun _ _ _ z=>nomatch z) (zia n1 l1)
 have r4:=r3.chg (r3.rel.set (i:=j) (x:=.val d2) (v:=some v2) fz2 fun _ _ _ z=>nomatch z) (zia n2 l2)
 exact⟨v,v2,rfl,g4 _ H2 r4 (Fzn.refl _)⟩
theorem zn9{elt tg iter:Expr}{ifs:List Expr}{scope:Scope}{it:IF}{g:GF}{t:TF}{dom:List Nat}{x0:Str}{pos' spos:Pos}(i0:Nat)(L:List Str)(ix:List Nat)(M:List Str)(hN:X.N.Nodup)(hii:X.N[i0]?=some x0)(hx0:X.env.scope.names.lookup x0=some .local)
  (hsw:swapsWith (.ListComp elt [⟨tg,iter,ifs,0⟩] scope pos) (some (.Name x0 pos')) spos.line X.env=pure true)(hc:X.calm=true)(hk:scope.kind=.function)
  (hd:zdp X.env.scope scope X.N ix=true)(hM:M=L++ix.map fun i=>X.N.getD i "") (nd:ix.Nodup) (hi:PVI K X tg iter it)
  (hg:∀ C s₃ H₃ fp,PVG K (zaz X M scope C s₃ H₃ fp) dom tg g) (hgo:dom.all (fun i=>decide (i<L.length))=true)
  (ht:∀ C s₃ H₃ fp,ztx K (zaz X M scope C s₃ H₃ fp) ifs t) (he:∀ C s₃ H₃ fp,PV K (zaz X M scope C s₃ H₃ fp) elt f)
  (hs:∀ x,foldedSetIterable iter X.env x=pure x:=by intro _;rfl) :
  PSV K X (.Assign [.Name x0 pos'] (.ListComp elt [⟨tg,iter,ifs,0⟩] scope pos) spos) (zdw i0 (zcs L.length ix it g t f)):=fun hK C =>
 (zqv i0 L ix M hN hii hx0 hsw hc hk hd hM (hi hK) (fun C s₃ H₃ fp=>hg C s₃ H₃ fp hK) (zkJ hgo) (fun C s₃ H₃ fp=>ht C s₃ H₃ fp hK) (fun C s₃ H₃ fp=>he C s₃ H₃ fp hK) hs).weak fun Dn σ H q=>zpG nd hgo σ H _ (zs5 Dn σ H q)
end
end FL
namespace FL
open PySem L2 PySem.Spec
open PyProof.Rows hiding St
variable [Cs]
structure Blt(mg:Str->Option Value):Prop where
 zli:mg "abs"=none
 zaC:mg "isinstance"=none
 zmI:mg "int"=none
 zky:mg "bool"=none
 zcS:mg "tuple"=none
 ziH:mg "list"=none
 zjH:mg "str"=none
 zgJ:mg "len"=none
 zoC:mg "all"=none
 zez:mg "range"=none
 zqQ:mg "zip"=none
 zcT:mg "enumerate"=none
 zsJ:mg "max"=none
 zsI:mg "min"=none
 zsH:mg "sum"=none
 zd8:mg "sorted"=none
 zpr:mg "dict"=none
 zsK:mg "any"=none
namespace Bt
theorem abs:bootBuiltins "abs"=some (.builtin "abs"):=by decide +kernel
theorem len:bootBuiltins "len"=some (.builtin "len"):=by decide +kernel
theorem all:bootBuiltins "all"=some (.builtin "all"):=by decide +kernel
theorem int:bootBuiltins "int"=some (.type "int"):=by decide +kernel
theorem bool:bootBuiltins "bool"=some (.type "bool"):=by decide +kernel
theorem tuple:bootBuiltins "tuple"=some (.type "tuple"):=by decide +kernel
theorem list:bootBuiltins "list"=some (.type "list"):=by decide +kernel
theorem str:bootBuiltins "str"=some (.type "str"):=by decide +kernel
end Bt
theorem zml{K:PySem.W.Frag}{X:Cx}{st:List Stmt}{f:SF}(h:zjm K X.nox st f):zjm K X st f:=fun hK C=>PSs.nox (h hK C)
theorem zsQ{K:PySem.W.Frag}{G:List D->R D}{H:Hp}{a:Addr}{ns:List Int}(h:G [.list (ns.map PyData.int)]=.ok (.bool true))(hO:∀ b xs,H b≠some (.lst xs))(hC:zpP H)(hS:SqL K H a (ns.map V.int)):spP K 1 false G [.ref a] H (fun v _=>v=.bl true) fun _ _ _=>False:=by
 refine⟨[.list (ns.map PyData.int)],rfl,hC,?_,.bool true,h,fun v H' _ fz=>by simpa [Fz] using fz⟩
 simp only [zaf,Fz]
 refine⟨.ref a,[],rfl,⟨a,ns.map V.int,rfl,?_,zaf.ofInts ns⟩,rfl⟩
 rcases hS with(hS|⟨o,hS⟩)|hS
 ·exact absurd hS (hO a _)
 ·exact .inl ⟨o,hS⟩
 ·exact .inr hS
end FL
namespace FL
open PySem
end FL
namespace L2
open PySem PySem.Spec PyProof.Rows
end L2
namespace L2
open PySem PySem.Spec PyProof.Rows
end L2
namespace FL
open PySem L2 PySem.Spec
open PyProof.Rows hiding St
variable [Cs]
end FL
namespace FL
open PySem
abbrev K1:=Int ⊕ Str
abbrev KQ:=List K1 ⊕ K1
def kOf:D->Option K1
 | .int i=>some (.inl i)
 | .str x=>some (.inr x)
 | _=>none
def znL:List D->Option (List K1)
 | []=>some []
 | d::r=>(kOf d).bind fun k=>(znL r).map fun ks=>k::ks
def keyOf:D->Option KQ
 | .tuple xs=>(znL xs).map .inl
 | .int i=>some (.inr (.inl i))
 | .str x=>some (.inr (.inr x))
 | _=>none
def form:KQ->Bool
 | .inl _=>true
 | .inr _=>false
def keysOk(f:Bool)(kvs:List (D×D)):Bool:=kvs.all fun kv=>match keyOf kv.1 with
 | some q=>form q==f
 | none=>false
def look(kvs:List (D×D))(q:KQ):Option D:=(kvs.find? fun kv=>decide (keyOf kv.1=some q)).map (·.2)
def zok(kvs:List (D×D))(k:D)(q:KQ)(v:D):List (D×D) :=
 if(kvs.any fun kv=>decide (keyOf kv.1=some q))=true then kvs.map fun kv=>if keyOf kv.1=some q then(kv.1,v) else kv else kvs++[(k,v)]
def zuD(kvs:List (D×D))(q:KQ):List (D×D):=kvs.filter fun kv=>decide (keyOf kv.1≠some q)
def dictAt(d k:D):R (List (D×D)×KQ):=match d with
 | .dict kvs=>(R.of (keyOf k)).bind fun q=>chk (keysOk (form q) kvs) (.ok (kvs,q))
 | _=>.bad
def ze8(d k:D):R (Option D):=(dictAt d k).bind fun x=>.ok (look x.1 x.2)
def zuw(d k x:D):R D:=(ze8 d k).bind fun o=>.ok (o.getD x)
def inD(k d:D):R D:=(ze8 d k).bind fun o=>.ok (.bool o.isSome)
def zlX(d k:D):R D:=(ze8 d k).bind fun o=>R.of o
def zlJ(d k v:D):R D:=(dictAt d k).bind fun x=>chk (leB (x.1.length+1) lim) (.ok (.dict (zok x.1 k x.2 v)))
def zuG(d k:D):R D:=(dictAt d k).bind fun x=>chk (look x.1 x.2).isSome (.ok (.dict (zuD x.1 x.2)))
def zdT:D->R (List D)
 | .dict kvs=>.ok (kvs.map (·.1))
 | _=>.bad
def zgL(i:Nat)(k x:EF):EF:=fun ρ=>(zau ρ i).bind fun c0=>(zdT c0).bind fun _=>(k ρ).bind fun a=>(x a.2).bind fun b=>(zau b.2 i).bind fun c=>(zuw c a.1 b.1).bind fun d=>.ok (d,b.2)
def e3(g:D->D->D->R D)(d k x:EF):EF:=fun ρ=>(d ρ).bind fun c=>(k c.2).bind fun a=>(x a.2).bind fun b=>(g c.1 a.1 b.1).bind fun r=>.ok (r,b.2)
def zdU(i:Nat)(k f:EF):SF:=fun ρ=>(f ρ).bind fun v=>(zau v.2 i).bind fun _=>(k v.2).bind fun a=>(zau a.2 i).bind fun c=>(zlJ c a.1 v.1).bind fun d=>.ok (.nx,zaO a.2 i d)
def zgX(i:Nat)(k:EF):SF:=fun ρ=>(zau ρ i).bind fun _=>(k ρ).bind fun a=>(zau a.2 i).bind fun c=>(zuG c a.1).bind fun d=>.ok (.nx,zaO a.2 i d)
def iD(f:EF):IF:=fun ρ=>(f ρ).bind fun x=>(zdT x.1).bind fun l=>.ok (l,x.2)
def zdO(k v:EF):EF:=fun ρ=>(k ρ).bind fun x=>(v x.2).bind fun y=>(zlJ (.dict []) x.1 y.1).bind fun d=>.ok (d,y.2)
def zcr:EF:=fun ρ=>.ok (.dict [],ρ)
end FL
namespace PySem
open Spec
end PySem
namespace L2
open PySem PySem.Spec PyProof.Rows
section
variable {X:Cx}{o i:Expr}{td ty:TE}{pos tpos:Pos}
variable {pins:List (Addr×Obj)}{σ:St}{H:Hp}{s:Shared}{a:Addr}
theorem Inv.kt(I:Inv X pins σ H s)(e:H a=some (.dK [])):Inv X pins σ (upd H a (.dT [])) s:=by
 obtain⟨z,hd,vs,rel,dd⟩:=ztg I.hok e
 have ev:vs=[]:=by cases rel;rfl
 subst ev
 obtain⟨q,es,ep,hq,h2,h3,h4,h5,h6⟩:=dd
 have:=zh9 (t':=s.toks) I (by rw [e];exact True.intro) (Heap.SameBut.refl a s.heap) ⟨q,hq⟩ (ob:=.dT []) ⟨Nat.zero_le _,hd,[],.nil,q,es,ep,hq,h2,h3,?_,?_⟩
 ·exact this
 ·exact List.eq_nil_of_length_eq_zero (by have:=h5.length;simpa using this)
 ·exact List.nodup_nil
end
end L2
namespace PySem
open Spec
section
variable {prog:Program}{w:World}{A:Around}{E:Value->Shared->Prop}{s:Shared}
structure DEs(h:Heap)(d:Addr)(es:Array DictEntry)(ep:Nat):Prop where
 ex:∃ o,h.get? d=some o/\o.ExactDict/\o.data=.dict es ep
theorem DEs.typ{d:Addr}{es:Array DictEntry}{ep:Nat}(x:DEs s.heap d es ep):s.TypeIs (.ref d) "dict":=by
 obtain⟨o,ho,hc,_⟩:=x.ex
 exact⟨o,ho,hc.1⟩
theorem zup{d:Addr}{es:Array DictEntry}{ep:Nat}{Q:Value->Shared->Prop}(hd:(d==sysModules)=false)(x:DEs s.heap d es ep)
  (hQ:Q (.ref s.heap.objs.size) { s with heap:=s.heap.push { cls:=.type "dict_keyiterator",data:=.fields #[.ref d,.int 0 0,.int es.size 0,.int ep 0] } }):wpAny (model prog w) A (pyIter (.ref d)) Q E s:=by
 obtain⟨o,ho,hc,hdat⟩:=x.ex
 have hT:=x.typ
 refine wpAny_pyIter_slot hT F.slot_dict_iter (wpAny_call_entry F.slot_dict_iter hT F.entry_dict_iter ?_ (F.args_dict_iter_1 _))
 unfold Builtin.«dict.__iter__» Builtin.Dict.dictSlotNone
 refine wpAny_bind (wpAny_bind (wpAny_notOrdered_dict hT ?_))
 show wpAny _ _ (pure (Value.ref d)) _ _ s
 refine wpAny_pure ?_
 show wpAny _ _ (Builtin.Dict.showsAll d >>= _) _ _ s
 unfold Builtin.Dict.showsAll
 rw [if_neg (by rw [hd];exact Bool.false_ne_true)]
 refine wpAny_bind (wpAny_pure (wpAny_bind (wpAny_dictEntries ho hdat (wpAny_bind (wpAny_dictEpoch ho hdat ?_)))))
 refine wpAny_bind (wpAny_newObj_type (wpAny_pure ⟨_,rfl,"dict_keyiterator",_,⟨_,Heap.get?_push_size _ rfl,rfl⟩,F.slot_dict_keyiterator_next.lookup,?_⟩))
 simpa [rawInt] using hQ
theorem zui{it d:Addr}{i ep:Nat}{es:Array DictEntry}{Q:Option Value->Shared->Prop}(hit:s.heap.IsKeyIter it d i es.size ep)(x:DEs s.heap d es ep)(hi:i<es.size)
  (hQ:∀ h',h'.IsKeyIter it d (i+1) es.size ep->Heap.SameBut it s.heap h'->Q (some es[i].key) { s with heap:=h' }):wpAny (model prog w) A (pyNext (.ref it)) Q E s:=by
 obtain⟨o,ho,hc,hd⟩:=id hit
 obtain⟨od,hod,hcd,hdd⟩:=x.ex
 unfold pyNext
 refine wpAny_bind (wpAny_attempt (wpAny_callSpecial?_slot (name:=Str.ofString "__next__") hit.typeIs F.slot_dict_keyiterator_next (wpAny_call_entry F.slot_dict_keyiterator_next hit.typeIs F.entry_dict_keyiterator_next ?_ (F.args_dict_keyiterator_next_1 _))))
 refine wpAny_bind (wpAny_pure (wpAny_bind (wpAny_bind ?_)))
 first|refine wpAny_bind (wpAny_typeNameOfWhole_keyiter hit.typeIs (wpAny_pure ?_))|refine wpAny_bind (wpAny_typeNameOf_keyiter hit.typeIs (wpAny_pure ?_))
 refine wpAny_bind (wpAny_fieldsOf ho hd ?_)
 have hown:Builtin.Dict_items.ownsTuple "dict_keyiterator"=false:=by decide
 simp only [hown,Bool.false_eq_true,if_false]
 show wpAny _ _ (if(Value.ref d==Value.none)=true then _ else _) _ _ s
 rw [if_neg (show ¬ ((Value.ref d==Value.none)=true) from Bool.false_ne_true)]
 refine wpAny_bind (wpAny_pure (wpAny_bind (wpAny_dictEntries hod hdd ?_)))
 rw [if_neg (by simp)]
 refine wpAny_bind (wpAny_pure (wpAny_bind (wpAny_dictEpoch hod hdd ?_)))
 rw [if_neg (by simp)]
 refine wpAny_pure ?_
 simp only [show ¬ ((i:Int)<0) from by omega,if_false,Int.toNat_natCast,Array.getElem?_eq_getElem hi]
 refine wpAny_bind ?_
 first|refine wpAny_bind (wpAny_typeNameOfWhole_keyiter hit.typeIs (wpAny_pure ?_))|refine wpAny_bind (wpAny_typeNameOf_keyiter hit.typeIs (wpAny_pure ?_))
 refine wpAny_bind (wpAny_isOneOf_keyiter hit.typeIs ?_)
 show wpAny _ _ (setField (.ref it) 1 (rawInt ((i:Int)+1)) >>= _) _ _ s
 refine wpAny_bind (wpAny_setField ho hd (by simp) ?_)
 have hit':(s.heap.update it (Obj.mapFields (·.setIfInBounds 1 (rawInt ((i:Int)+1))))).IsKeyIter it d (i+1) es.size ep :=
  ⟨_,Heap.get?_update_self _ ho (Obj.isFreed_of_fields (Obj.data_mapFields hd _)),(Obj.cls_mapFields ..).trans hc,by rw [Obj.data_mapFields hd];simp [rawInt]⟩
 refine wpAny_bind (wpAny_holding (wpAny_bind (wpAny_isOneOf_keyiter (s:={ s with heap:=s.heap.update it (Obj.mapFields (·.setIfInBounds 1 (rawInt ((i:Int)+1)))) }) hit'.typeIs ?_)))
 show wpAny _ _ (pure es[i].key) _ _ _
 exact wpAny_pure (wpAny_pure ⟨_,rfl,wpAny_pure (hQ _ hit' (Heap.SameBut.update ..))⟩)
theorem zvU{it d:Addr}{i ep:Nat}{es:Array DictEntry}{Q:Option Value->Shared->Prop}(hh:A.handled=none)(hit:s.heap.IsKeyIter it d i es.size ep)(x:DEs s.heap d es ep)(hge:es.size<=i)
  (hQ:∀ h',Heap.ExtBut it s.heap h'->Q none { s with heap:=h' }):wpAny (model prog w) A (pyNext (.ref it)) Q E s:=by
 obtain⟨o,ho,hc,hd⟩:=id hit
 obtain⟨od,hod,hcd,hdd⟩:=x.ex
 unfold pyNext
 refine wpAny_bind (wpAny_attempt (wpAny_callSpecial?_slot (name:=Str.ofString "__next__") hit.typeIs F.slot_dict_keyiterator_next (wpAny_call_entry F.slot_dict_keyiterator_next hit.typeIs F.entry_dict_keyiterator_next ?_ (F.args_dict_keyiterator_next_1 _))))
 refine wpAny_bind (wpAny_pure (wpAny_bind (wpAny_bind ?_)))
 first|refine wpAny_bind (wpAny_typeNameOfWhole_keyiter hit.typeIs (wpAny_pure ?_))|refine wpAny_bind (wpAny_typeNameOf_keyiter hit.typeIs (wpAny_pure ?_))
 refine wpAny_bind (wpAny_fieldsOf ho hd ?_)
 have hown:Builtin.Dict_items.ownsTuple "dict_keyiterator"=false:=by decide
 simp only [hown,Bool.false_eq_true,if_false]
 show wpAny _ _ (if(Value.ref d==Value.none)=true then _ else _) _ _ s
 rw [if_neg (show ¬ ((Value.ref d==Value.none)=true) from Bool.false_ne_true)]
 refine wpAny_bind (wpAny_pure (wpAny_bind (wpAny_dictEntries hod hdd ?_)))
 rw [if_neg (by simp)]
 refine wpAny_bind (wpAny_pure (wpAny_bind (wpAny_dictEpoch hod hdd ?_)))
 rw [if_neg (by simp)]
 refine wpAny_pure ?_
 simp only [show ¬ ((i:Int)<0) from by omega,if_false,Int.toNat_natCast,Array.getElem?_eq_none hge]
 refine wpAny_bind ?_
 first|refine wpAny_bind (wpAny_typeNameOfWhole_keyiter hit.typeIs (wpAny_pure ?_))|refine wpAny_bind (wpAny_typeNameOf_keyiter hit.typeIs (wpAny_pure ?_))
 show wpAny _ _ (setField (.ref it) 0 .none >>= _) _ _ s
 refine wpAny_bind (wpAny_setField ho hd (by simp) ?_)
 show wpAny _ _ (newExc (.type "StopIteration") [] >>= _) _ _ _
 refine wpAny_bind ?_
 simp only [newExc,newTuple]
 refine wpAny_bind (wpAny_newObj_type ?_ (by size_fits))
 refine wpAny_bind (m:=firstArgMember _ _) (wpAny_of_eq (a:=Value.none) (by first|rfl|(simp only [firstArgMember];rfl)) ?_)
 refine wpAny_newObj_type ?_ (by size_fits)
 simp only [raiseNew]
 refine wpAny_bind (wpAny_handled ?_)
 rw [show A.in1.handled=none from hh]
 refine wpAny_bind (wpAny_pure (wpAny_throw ?_))
 refine wpAny_bind (wpAny_isInstance (T:="StopIteration") (b:=true) ⟨_,Heap.get?_push_size _ rfl,rfl⟩ isSubtype_stop ?_)
 exact wpAny_pure (hQ _ (((Heap.SameBut.update ..).extBut.push _).push _))
end
end PySem
namespace L2
open PySem PySem.Spec PyProof.Rows
end L2
namespace L2
open PySem PySem.Spec PyProof.Rows
theorem zte{P:Program}{w:World}{H:Hp}{h:Heap}{a:Addr}(ok:HOk P w H h)(e:Rd H a (.dK [])):(a==sysModules)=false/\h.DictOfH (tupleKind (zbe P w)) a []:=by
 obtain⟨z,hd,vs,rel,dd⟩:=zlK ok e
 have ev:vs=[]:=by cases rel;rfl
 subst ev
 obtain⟨q,es,ep,hq,h2,h3,h4,h5,h6⟩:=dd
 exact⟨hd,q,es,ep,hq,h2,h3,List.eq_nil_of_length_eq_zero (by have:=h5.length;simpa using this),(fun x hx=>nomatch hx),List.nodup_nil⟩
theorem zpK{P:Program}{w:World}{H:Hp}{h:Heap}{a:Addr}(ok:HOk P w H h)(e:Rd H a (.dT [])):(a==sysModules)=false/\h.DictOf (zbe P w) a []:=by
 obtain⟨z,hd,xs,rel,dd⟩:=zlI ok e
 have ev:xs=[]:=by cases rel;rfl
 subst ev
 obtain⟨q,es,ep,hq,h2,h3,h4,h5,h6⟩:=dd
 have he:es=#[]:=by
  apply Array.ext'
  rw [h4];rfl
 subst he
 exact⟨hd,q,#[],ep,hq,h2,h3,fun e he=>by simp at he,.nil,List.nodup_nil⟩
def DG(H:Hp)(a:Addr)(y:V)(r:Option V):Prop :=
 ztM H a y r\/(r=none/\Rd H a (.dK [])/\∃(b:Addr) (k:List Key),y=.ref b/\TAt H b (k.map kV))\/(r=none/\Rd H a (.dT [])/\∃ k:Key,y=kV k)
section
variable {X:Cx}{pins:List (Addr×Obj)}{σ:St}{H:Hp}{s:Shared}{a:Addr}{y v d:V}{u r:Value}{o:Option V}{A:Around}{E:Value->Shared->Prop}
theorem zuF{Q:Value->Shared->Prop}(hu:A.units+1<cLine)(I:Inv X pins σ H s)(g:DG H a y o)(ry:RelV y u)(h:∀ s',Inv X pins σ H s'->Q (.bool o.isSome) s') :
  wpAny (model X.prog X.w) A (compareOp .In u (.ref a)) Q E s:=by
 rcases g with g|⟨rfl,e,b,k,rfl,eb⟩|⟨rfl,e,k,rfl⟩
 ·exact zvV hu I g ry h
 ·cases (show u=Value.ref b from ry)
  obtain⟨hd,dd⟩:=zte I.hok e
  exact wpAny_in_heap (tupleKind_room_in1 hu) (zfY I.hok eb) hd dd (h _ (I.tok _))
 ·obtain⟨hd,dd⟩:=zpK I.hok e
  exact wpAny_in_of (zm2 ry) hd dd.mapOf (h _ (I.tok _))
def DP(H:Hp)(a:Addr)(y v:V)(H':Hp):Prop :=
 zpO H a y v H'\/(∃(k:List Key) (b:Addr),H a=some (.dK [])/\y=.ref b/\TAt H b (k.map kV)/\H'=upd H a (.dT [(k,v)]))\/∃ k:Key,H a=some (.dT [])/\y=kV k/\H'=upd H a (.dK [(k,v)])
theorem Inv.tk(I:Inv X pins σ H s)(e:H a=some (.dT [])):Inv X pins σ (upd H a (.dK [])) s:=by
 obtain⟨hd,dd⟩:=zpK I.hok (.inl e)
 obtain⟨q,es,ep,hq,rest⟩:=id dd
 exact zh9 (t':=s.toks) I (by rw [e];exact True.intro) (Heap.SameBut.refl a s.heap) ⟨q,hq⟩ (ob:=.dK []) ⟨Nat.zero_le _,hd,[],.nil,dd⟩
theorem ztf{H':Hp}{Q:Unit->Shared->Prop}(hu:A.units+1<cLine)(I:Inv X pins σ H s)(g:DP H a y v H')(ry:RelV y u)(rv:RelV v r)(h:∀ s',Inv X pins σ H' s'->Q () s') :
  wpAny (model X.prog X.w) A (setItem (.ref a) u r) Q E s:=by
 rcases g with g|⟨k,b,e,rfl,eb,rfl⟩|⟨k,e,rfl,rfl⟩
 ·exact zgd hu I g ry rv h
 ·have eb':TAt (upd H a (.dT [])) b (k.map kV):=eb.upd (fun _ z=>zoB z e (fun z=>nomatch z)) fun _ _ z=>zoB z e (fun z=>nomatch z)
  have g:=zpO.t (H:=upd H a (.dT [])) (a:=a) (v:=v) zak eb' (by decide)
  rw [zjq] at g
  exact zgd hu (I.kt e) g ry rv h
 ·have g:=zpO.k (H:=upd H a (.dK [])) (a:=a) (k:=k) (v:=v) zak (by decide)
  rw [zjq] at g
  exact zgd hu (I.tk e) g ry rv h
end
section
variable {X:Cx}{o i e f value:Expr}{apos cpos pos pos':Pos}{td ty tx tv:TE}
def ztU(td ty tv:TE):TS:=fun D σ H=>tv σ H fun v H1=>td σ H1 fun x H2=>ty σ H2 fun y H3=>∃ a H4,x=.ref a/\DP H3 a y v H4/\D.nx σ H4
theorem zqx(hu:X.A.units+1<cLine)(ho:PE X o td)(hi:PE X i ty)(hv:PE X value tv)(hs:swapsWith value (some (.Subscript o i pos')) pos.line X.env=pure false) :
  PS X (.Assign [.Subscript o i pos'] value pos) (ztU td ty tv):=by
 intro pins s σ H D I h
 refine wpAny_Assign_Subscript (thn (hv pins s σ H _ I h) fun r s1 ⟨v,H1,I1,rv,q1⟩=>thn (ho pins s1 σ H1 _ I1 q1) fun u s2 ⟨x,H2,I2,rx,q2⟩=>thn (hi pins s2 σ H2 _ I2 q2) fun iv s3 ⟨y,H3,I3,ry,a,H4,ex,g,q3⟩=>?_) hs
 subst ex
 obtain rfl:u=Value.ref a:=rx
 exact ztf hu I3 g ry rv fun s4 I4=>⟨σ,H4,I4,q3⟩
end
end L2
namespace FL
open PySem L2 PySem.Spec
open PyProof.Rows hiding St
variable [Cs]
theorem zg8{α:Type}{o:Option α}{a:α}(h:R.of o=.ok a):o=some a:=by
 cases o with
 | none=>cases h
 | some b=>cases h;rfl
theorem zsW(k:Key):kOf (kD k)=some k:=by cases k <;> rfl
theorem zmX:∀ ks:List Key,znL (ks.map kD)=some ks
 | []=>rfl
 | k::r=>by simp only [List.map_cons,znL,zsW,Option.bind_some,zmX r,Option.map_some]
theorem zeE(q:List Key):keyOf (zoO q)=some (.inl q):=by simp only [zoO,keyOf,zmX,Option.map_some]
theorem zeF(q:Key):keyOf (kD q)=some (.inr q):=by cases q <;> rfl
theorem zqX{d:D}{k:Key}(h:kOf d=some k):d=kD k:=by
 cases d with
 | int i=>cases h;rfl
 | str i=>cases h;rfl
 | _=>cases h
theorem zkB:∀{ds:List D} {ks:List Key},znL ds=some ks->ds=ks.map kD
 | [],ks,h=>by simp only [znL,Option.some.injEq] at h;subst h;rfl
 | d::r,ks,h=>by
  simp only [znL,Option.bind_eq_some_iff,Option.map_eq_some_iff] at h
  obtain⟨k,e,ks',e',rfl⟩:=h
  rw [zqX e,zkB e'];rfl
section
variable {K:PySem.W.Frag}{H H':Hp}
theorem zs8{k:Key}:Fz K H (kD k) (kV k):=by cases k <;> simp [kD,kV,Fz]
theorem zuo{k:Key}{v:V}(h:Fz K H (kD k) v):v=kV k:=by cases k <;> simpa [kD,kV,Fz] using h
theorem zkN:∀ ks:List Key,zaf K H (ks.map kD) (ks.map kV)
 | []=>by simp [zaf]
 | k::r=>by simp only [List.map_cons,zaf];exact⟨_,_,rfl,zs8,zkN r⟩
theorem zpF:∀{ks:List Key} {vs:List V},zaf K H (ks.map kD) vs->vs=ks.map kV
 | [],vs,h=>by simpa [zaf] using h
 | k::r,vs,h=>by
  simp only [List.map_cons,zaf] at h
  obtain⟨v,t,rfl,h1,h2⟩:=h
  rw [zuo h1,zpF h2];rfl
theorem zq5{ks:List Key}{b:Addr}(h:TAt H b (ks.map kV)):Fz K H (zoO ks) (.ref b):=by
 simp only [zoO,Fz]
 exact⟨b,_,rfl,h,zkN ks⟩
theorem zkh{k:D}{v:V}{q:KQ}(f:Tp K H k v)(e:keyOf k=some q):(∃ ks b,q=.inl ks/\k=zoO ks/\v=.ref b/\TAt H b (ks.map kV))\/∃ k1,q=.inr k1/\k=kD k1/\v=kV k1:=by
 cases k with
 | tuple xs =>
  simp only [keyOf,Option.map_eq_some_iff] at e
  obtain⟨ks,e1,rfl⟩:=e
  have:=zkB e1
  subst this
  obtain⟨b,vs,rfl,tb,fa⟩:=(show ∃ a vs,v=.ref a/\TAt H a vs/\zaf K H (ks.map kD) vs by simpa [Tp,Fz] using f)
  rw [zpF fa] at tb
  exact .inl ⟨ks,b,rfl,rfl,rfl,tb⟩
 | int i=>cases e;exact .inr ⟨.inl i,rfl,rfl,by simpa [Tp,Fz,kV] using f⟩
 | str i=>cases e;exact .inr ⟨.inr i,rfl,rfl,by simpa [Tp,Fz,kV] using f⟩
 | _=>cases e
theorem zpu:∀{kvs:List (D×D)} {kk:List (List Key×V)},zcw K H kvs kk->∀ q:List Key,(look kvs (.inl q)=none/\zjh kk q=none)\/∃ d v,look kvs (.inl q)=some d/\zjh kk q=some v/\Fz K H d v
 | [],kk,h,q=>by simp only [zcw] at h;subst h;exact .inl ⟨rfl,rfl⟩
 | (k,d)::r,kk,h,q=>by
  simp only [zcw] at h
  obtain⟨q',v,t,rfl,rfl,f,h2⟩:=h
  by_cases c:q'=q
  ·subst c
   exact .inr ⟨d,v,by simp [look,List.find?_cons,zeE],zd1 rfl,f⟩
  ·have e1:look ((zoO q',d)::r) (.inl q)=look r (.inl q):=by simp [look,List.find?_cons,zeE,c]
   rw [e1,zd2 (p:=(q',v)) c]
   exact zpu h2 q
theorem zpv:∀{kvs:List (D×D)} {kk:List (Key×V)},zcx K H kvs kk->∀ q:Key,(look kvs (.inr q)=none/\zjh kk q=none)\/∃ d v,look kvs (.inr q)=some d/\zjh kk q=some v/\Fz K H d v
 | [],kk,h,q=>by simp only [zcx] at h;subst h;exact .inl ⟨rfl,rfl⟩
 | (k,d)::r,kk,h,q=>by
  simp only [zcx] at h
  obtain⟨q',v,t,rfl,rfl,f,h2⟩:=h
  by_cases c:q'=q
  ·subst c
   exact .inr ⟨d,v,by simp [look,List.find?_cons,zeF],zd1 rfl,f⟩
  ·have e1:look ((kD q',d)::r) (.inr q)=look r (.inr q):=by simp [look,List.find?_cons,zeF,c]
   rw [e1,zd2 (p:=(q',v)) c]
   exact zpv h2 q
theorem zpD{kvs:List (D×D)}{kk:List (List Key×V)}(h:zcw K H kvs kk)(c:keysOk false kvs=true):kvs=[]/\kk=[]:=by
 cases kvs with
 | nil=>simp only [zcw] at h;exact⟨rfl,h⟩
 | cons p r =>
  obtain⟨k,d⟩:=p
  simp only [zcw] at h
  obtain⟨q',v,t,rfl,rfl,f,h2⟩:=h
  simp [keysOk,zeE,form] at c
theorem zpE{kvs:List (D×D)}{kk:List (Key×V)}(h:zcx K H kvs kk)(c:keysOk true kvs=true):kvs=[]/\kk=[]:=by
 cases kvs with
 | nil=>simp only [zcx] at h;exact⟨rfl,h⟩
 | cons p r =>
  obtain⟨k,d⟩:=p
  simp only [zcx] at h
  obtain⟨q',v,t,rfl,rfl,f,h2⟩:=h
  simp [keysOk,zeF,form] at c
theorem zhp{d k:D}{x:List (D×D)×KQ}(h:dictAt d k=.ok x):d=.dict x.1/\keyOf k=some x.2/\keysOk (form x.2) x.1=true:=by
 cases d with
 | dict kvs =>
  obtain⟨q,e1,h⟩:=zaj (show(R.of (keyOf k)).bind _=.ok x from h)
  obtain⟨c,h⟩:=zap h
  cases h
  exact⟨rfl,zg8 e1,c⟩
 | _=>cases h
theorem zti{d k:D}{x y:V}{o:Option D}(t:Tp K H d x)(f:Tp K H k y)(e:ze8 d k=.ok o) :
  ∃ a r,x=.ref a/\IsD H a/\DG H a y r/\((o=none/\r=none)\/∃ d v,o=some d/\r=some v/\Fz K H d v):=by
 obtain⟨⟨kvs,q⟩,e1,e⟩:=zaj (show(dictAt d k).bind _=.ok o from e)
 cases e
 obtain⟨rfl,ek,c⟩:=zhp e1
 obtain⟨a,ea,tt⟩:=(show ∃ a,x=.ref a/\((∃ kk,Rd H a (.dT kk)/\zcw K H kvs kk)\/∃ kk,Rd H a (.dK kk)/\zcx K H kvs kk) from t)
 subst ea
 rcases tt with⟨kk,rd,h⟩|⟨kk,rd,h⟩
 ·refine⟨a,?_⟩
  rcases zkh f ek with⟨ks,b,rfl,rfl,rfl,tb⟩|⟨k1,rfl,rfl,rfl⟩
  ·refine⟨zjh kk ks,rfl,.inr ⟨kk,rd⟩,.inl (.inr ⟨kk,ks,b,rd,rfl,tb,rfl⟩),?_⟩
   rcases zpu h ks with⟨z1,z2⟩|⟨d,v,z1,z2,z3⟩
   ·exact .inl ⟨z1,z2⟩
   ·exact .inr ⟨d,v,z1,z2,z3⟩
  ·obtain⟨rfl,rfl⟩:=zpD h c
   exact⟨none,rfl,.inr ⟨[],rd⟩,.inr (.inr ⟨rfl,rd,k1,rfl⟩),.inl ⟨rfl,rfl⟩⟩
 ·refine⟨a,?_⟩
  rcases zkh f ek with⟨ks,b,rfl,rfl,rfl,tb⟩|⟨k1,rfl,rfl,rfl⟩
  ·obtain⟨rfl,rfl⟩:=zpE h c
   exact⟨none,rfl,.inl ⟨[],rd⟩,.inr (.inl ⟨rfl,rd,b,ks,rfl,tb⟩),.inl ⟨rfl,rfl⟩⟩
  ·refine⟨zjh kk k1,rfl,.inl ⟨kk,rd⟩,.inl (.inl ⟨kk,k1,rd,rfl,rfl⟩),?_⟩
   rcases zpv h k1 with⟨z1,z2⟩|⟨d,v,z1,z2,z3⟩
   ·exact .inl ⟨z1,z2⟩
   ·exact .inr ⟨d,v,z1,z2,z3⟩
theorem ztt:∀{kvs:List (D×D)} {kk:List (List Key×V)},zcw K H kvs kk->∀ q:List Key,(kvs.any fun kv=>decide (keyOf kv.1=some (.inl q)))=kk.any fun kv=>decide (kv.1=q)
 | [],kk,h,q=>by simp only [zcw] at h;subst h;rfl
 | (k,d)::r,kk,h,q=>by
  simp only [zcw] at h
  obtain⟨q',v,t,rfl,rfl,f,h2⟩:=h
  simp only [List.any_cons,ztt h2 q,zeE,Option.some.injEq,Sum.inl.injEq]
theorem ztu:∀{kvs:List (D×D)} {kk:List (Key×V)},zcx K H kvs kk->∀ q:Key,(kvs.any fun kv=>decide (keyOf kv.1=some (.inr q)))=kk.any fun kv=>decide (kv.1=q)
 | [],kk,h,q=>by simp only [zcx] at h;subst h;rfl
 | (k,d)::r,kk,h,q=>by
  simp only [zcx] at h
  obtain⟨q',v,t,rfl,rfl,f,h2⟩:=h
  simp only [List.any_cons,ztu h2 q,zeF,Option.some.injEq,Sum.inr.injEq]
theorem zrS{d:D}{v:V}(f:Fz K H d v):∀{kvs:List (D×D)} {kk:List (List Key×V)},zcw K H kvs kk->∀ q:List Key,zcw K H (kvs.map fun kv=>if keyOf kv.1=some (.inl q) then(kv.1,d) else kv) (kk.map fun kv=>if kv.1=q then(kv.1,v) else kv)
 | [],kk,h,q=>by simp only [zcw] at h;subst h;simp [zcw]
 | (k,d0)::r,kk,h,q=>by
  simp only [zcw] at h
  obtain⟨q',v0,t,rfl,rfl,f0,h2⟩:=h
  have ih:=zrS f h2 q
  by_cases c:q'=q
  ·subst c
   simp only [List.map_cons,zeE,if_true,zcw]
   exact⟨q',v,_,rfl,rfl,f,ih⟩
  ·simp only [List.map_cons,zeE,Option.some.injEq,Sum.inl.injEq,if_neg c,zcw]
   exact⟨q',v0,_,rfl,rfl,f0,ih⟩
theorem zrT{d:D}{v:V}(f:Fz K H d v):∀{kvs:List (D×D)} {kk:List (Key×V)},zcx K H kvs kk->∀ q:Key,zcx K H (kvs.map fun kv=>if keyOf kv.1=some (.inr q) then(kv.1,d) else kv) (kk.map fun kv=>if kv.1=q then(kv.1,v) else kv)
 | [],kk,h,q=>by simp only [zcx] at h;subst h;simp [zcx]
 | (k,d0)::r,kk,h,q=>by
  simp only [zcx] at h
  obtain⟨q',v0,t,rfl,rfl,f0,h2⟩:=h
  have ih:=zrT f h2 q
  by_cases c:q'=q
  ·subst c
   simp only [List.map_cons,zeF,if_true,zcx]
   exact⟨q',v,_,rfl,rfl,f,ih⟩
  ·simp only [List.map_cons,zeF,Option.some.injEq,Sum.inr.injEq,if_neg c,zcx]
   exact⟨q',v0,_,rfl,rfl,f0,ih⟩
theorem ztr{d:D}{v:V}(f:Fz K H d v)(q:List Key):∀{kvs:List (D×D)} {kk:List (List Key×V)},zcw K H kvs kk->zcw K H (kvs++[(zoO q,d)]) (kk++[(q,v)])
 | [],kk,h=>by simp only [zcw] at h;subst h;simp only [List.nil_append,zcw];exact⟨q,v,[],rfl,rfl,f,rfl⟩
 | (k,d0)::r,kk,h=>by
  simp only [zcw] at h
  obtain⟨q',v0,t,rfl,rfl,f0,h2⟩:=h
  simp only [List.cons_append,zcw]
  exact⟨q',v0,_,rfl,rfl,f0,ztr f q h2⟩
theorem zts{d:D}{v:V}(f:Fz K H d v)(q:Key):∀{kvs:List (D×D)} {kk:List (Key×V)},zcx K H kvs kk->zcx K H (kvs++[(kD q,d)]) (kk++[(q,v)])
 | [],kk,h=>by simp only [zcx] at h;subst h;simp only [List.nil_append,zcx];exact⟨q,v,[],rfl,rfl,f,rfl⟩
 | (k,d0)::r,kk,h=>by
  simp only [zcx] at h
  obtain⟨q',v0,t,rfl,rfl,f0,h2⟩:=h
  simp only [List.cons_append,zcx]
  exact⟨q',v0,_,rfl,rfl,f0,zts f q h2⟩
theorem zt2{d:D}{v:V}{kvs:List (D×D)}{kk:List (List Key×V)}(h:zcw K H kvs kk)(f:Fz K H d v)(q:List Key):zcw K H (zok kvs (zoO q) (.inl q) d) (putK kk q v):=by
 unfold zok putK
 rw [ztt h q]
 split
 ·exact zrS f h q
 ·exact ztr f q h
theorem zt3{d:D}{v:V}{kvs:List (D×D)}{kk:List (Key×V)}(h:zcx K H kvs kk)(f:Fz K H d v)(q:Key):zcx K H (zok kvs (kD q) (.inr q) d) (putK kk q v):=by
 unfold zok putK
 rw [ztu h q]
 split
 ·exact zrT f h q
 ·exact zts f q h
theorem zcw.len:∀{kvs:List (D×D)} {kk:List (List Key×V)},zcw K H kvs kk->kk.length=kvs.length
 | [],kk,h=>by simp only [zcw] at h;subst h;rfl
 | (k,d0)::r,kk,h=>by
  simp only [zcw] at h
  obtain⟨q',v0,t,rfl,rfl,f0,h2⟩:=h
  simp [h2.len]
theorem zcx.len:∀{kvs:List (D×D)} {kk:List (Key×V)},zcx K H kvs kk->kk.length=kvs.length
 | [],kk,h=>by simp only [zcx] at h;subst h;rfl
 | (k,d0)::r,kk,h=>by
  simp only [zcx] at h
  obtain⟨q',v0,t,rfl,rfl,f0,h2⟩:=h
  simp [h2.len]
theorem znb{a:Addr}{u o:HO}(e:H a=some u)(ow:Own u):Fzn H (upd H a o):=fun b w eb st=>by
 rw [zao fun z=>by subst z;rw [e] at eb;cases eb;exact ow.zc6 st]
 exact eb
theorem zuE{c k dv d':D}{a:Addr}{y v:V}(m:zbF K H a c)(f:Fz K H k y)(g:Fz K H dv v)(e:zlJ c k dv=.ok d'):∃ o,DP H a y v (upd H a o)/\zbF K (upd H a o) a d':=by
 obtain⟨⟨kvs,q⟩,e1,e⟩:=zaj (show(dictAt c k).bind _=.ok d' from e)
 obtain⟨l,e⟩:=zap e
 cases e
 obtain⟨rfl,ek,c⟩:=zhp e1
 have hl:kvs.length+1<=sizeLine:=Nat.le_trans (zbK l) zaD
 rcases (show(∃ kk,H a=some (.dT kk)/\zcw K H kvs kk)\/∃ kk,H a=some (.dK kk)/\zcx K H kvs kk from m) with⟨kk,rd,h⟩|⟨kk,rd,h⟩
 ·have fz:∀ o,Fzn H (upd H a o):=fun o=>znb rd trivial
  rcases zkh f.tp ek with⟨ks,b,rfl,rfl,rfl,tb⟩|⟨k1,rfl,rfl,rfl⟩
  ·exact⟨.dT (putK kk ks v),.inl (.inr ⟨kk,ks,b,rd,rfl,tb,by rw [h.len];omega,rfl⟩),.inl ⟨_,zak,(zt2 h g ks).mono (fz _)⟩⟩
  ·obtain⟨rfl,rfl⟩:=zpD h c
   exact⟨.dK [(k1,v)],.inr (.inr ⟨k1,rd,rfl,rfl⟩),.inr ⟨_,zak,by
    simp only [zok,List.any_nil,Bool.false_eq_true,if_false,List.nil_append,zcx]
    exact⟨k1,v,[],rfl,rfl,g.mono (fz _),rfl⟩⟩⟩
 ·have fz:∀ o,Fzn H (upd H a o):=fun o=>znb rd trivial
  rcases zkh f.tp ek with⟨ks,b,rfl,rfl,rfl,tb⟩|⟨k1,rfl,rfl,rfl⟩
  ·obtain⟨rfl,rfl⟩:=zpE h c
   exact⟨.dT [(ks,v)],.inr (.inl ⟨ks,b,rd,rfl,tb,rfl⟩),.inl ⟨_,zak,by
    simp only [zok,List.any_nil,Bool.false_eq_true,if_false,List.nil_append,zcw]
    exact⟨ks,v,[],rfl,rfl,g.mono (fz _),rfl⟩⟩⟩
  ·exact⟨.dK (putK kk k1 v),.inl (.inl ⟨kk,k1,rd,rfl,by rw [h.len];omega,rfl⟩),.inr ⟨_,zak,(zt3 h g k1).mono (fz _)⟩⟩
end
end FL
namespace FL
open PySem L2 PySem.Spec
open PyProof.Rows hiding St
variable [Cs]
section
variable {X:Cx}
theorem zsA(hu:X.A.units+1<cLine):OpR X (compareOp .In) (rD X.K inD):=by
 intro pins s σ H x y v u Q I rx ry h
 obtain⟨dx,dy,d,tx,ty,e,q⟩:=h
 obtain⟨o,e1,e⟩:=zaj (show(ze8 dy dx).bind _=.ok d from e)
 cases e
 obtain⟨a,r,rfl,_,g,rel⟩:=zti ty tx e1
 cases ry
 have hb:o.isSome=r.isSome:=by
  rcases rel with⟨rfl,rfl⟩|⟨_,_,rfl,rfl,_⟩ <;> rfl
 exact zuF hu I g rx fun s3 I3=>⟨.bl r.isSome,H,I3,rfl,q _ H (zaE.refl _) (by rw [hb];simp [Fz])⟩
theorem zqZ(hu:X.A.units+1<cLine):IxR X (rD X.K zlX):=by
 intro value slice pins s σ H x y v u Q I rx ry h hs
 obtain⟨dx,dy,d,tx,ty,e,q⟩:=h
 obtain⟨o,e1,e⟩:=zaj (show(ze8 dx dy).bind _=.ok d from e)
 have eo:=zg8 e
 subst eo
 obtain⟨a,r,rfl,_,g,rel⟩:=zti tx ty e1
 cases rx
 rcases rel with⟨z,_⟩|⟨d',w,z,rfl,fz⟩
 ·cases z
 cases z
 rcases g with g|⟨z,_⟩|⟨z,_⟩
 ·have hT:=zjY I g
  have h2:wpAny (model X.prog X.w) X.A (getItem (.ref a) u) (EP X pins σ Q) X.xe s:=znn hu I g ry fun w' s3 I3 rw'=>⟨w,H,I3,rw',q w H (zaE.refl _) fz⟩
  unfold subscriptTail
  refine wpAny_bind ?_
  rw [getitemInPython_of_ne hT.not_modules]
  refine wpAny_bind (wpAny_specialOf hT PySem.F.slot_dict_getitem.lookup ?_)
  have fin:wpAny (model X.prog X.w) X.A (subscripted slice false (.ref a) u) (fun r s₃=>wpAny (model X.prog X.w) X.A (letTemporaryGo value (.ref a) r >>= fun _=>pure r) (EP X pins σ Q) X.xe s₃) X.xe s:=by
   rw [hs]
   exact wpAny_operating (wpAny_mono h2 (fun r s₃ h₃=>wpAny_bind (wpAny_letTemporaryGo (wpAny_pure h₃))) fun _ _ x=>x)
  first
   | exact wpAny_pure (wpAny_bind fin)
   | exact wpAny_bind (wpAny_pure (wpAny_bind fin))
   | exact wpAny_bind fin
 ·cases z
 ·cases z
end
section
variable {K:PySem.W.Frag}{X:Cx}{o e e':Expr}{fd fk fx f:EF}{apos cpos pos:Pos}
theorem zko{y:Str}{py ps':Pos}{ke:Expr}{k:EF}(i:Nat)(hu:X.A.units+1<cLine)(ha:PE X (.Name y py) (zgE i))(he:PV K X e f)(hk:PV K X ke k)
  (hs:swapsWith e (some (.Subscript (.Name y py) ke ps')) pos.line X.env=pure false:=by rfl):PSV K X (.Assign [.Subscript (.Name y py) ke ps'] e pos) (zdU i k f):=fun hK C=>by
 subst hK
 refine(zqx hu ha (hk rfl) (he rfl) hs).weak fun Dn σ H=>?_
 rintro⟨ρ,rel,g⟩
 refine zlC rel g fun dv ρ1 v H1 rel1 st1 fv g1=>?_
 obtain⟨d,ed,g2⟩:=g1.bnd
 obtain⟨a,at0,m0⟩:=rel1.rel.zmJ ed
 refine⟨.ref a,at0.2,zlC rel1 g2 fun dk ρ2 kv H2 rel2 st2 fk g3=>?_⟩
 obtain⟨c,ec,g4⟩:=g3.bnd
 obtain⟨d',ed',g5⟩:=g4.bnd
 obtain⟨o,dp,mm⟩:=zuE (rel2.rel.again ec at0) fk (fv.mono (st2.fzn rel1.rel)) ed'
 obtain⟨a2,at2,_⟩:=rel2.rel.zmJ ec
 have:=at0.2.symm.trans at2.2
 cases this
 exact⟨a,_,rfl,dp,zoX rel2 at2 mm g5⟩
theorem ziE:PVN K X (.Dict [] [] pos) zcr:=fun hK=>zov.weak fun σ H Q=>by
 rintro⟨ρ,rel,q⟩ p hp
 exact q.new rel (zaE.upd hp) p hp (.inl ⟨[],zak,by simp [zcw]⟩)
end
end FL
namespace FL
open PySem
def zdf(i:Nat)(ρ:En):Nat:=match ρ[i]? with
 | some (.val (.int n))=>n.natAbs+1
 | _=>0
abbrev WK:=Int×List Int
def zrz:D->Option WK
 | .tuple [.int n,.tuple xs]=>(intsOf xs).map fun w=>(n,w)
 | _=>none
def zc7(G:List D->R D):List D->R (List WK)
 | []=>.ok []
 | d::r=>(G [d]).bind fun k=>(R.of (zrz k)).bind fun w=>(zc7 G r).bind fun ws=>.ok (w::ws)
def ltW(p q:WK):Bool:=if p.1=q.1 then lexLt p.2 q.2 else decide (p.1<q.1)
def zkG(x:WK×D):List (WK×D)->List (WK×D)
 | []=>[x]
 | y::r=>if ltW y.1 x.1=true then y::zkG x r else x::y::r
def zdk:List (WK×D)->List (WK×D)
 | []=>[]
 | x::r=>zkG x (zdk r)
def ze2(G:List D->R D)(d:D):R D:=(zdT d).bind fun ks=>chk (leB (ks.length+1) 64) ((zc7 G ks).bind fun ws=>chk (decide ws.Nodup) (.ok (.list ((zdk (ws.zip ks)).map (·.2)))))
theorem zf7(x:WK×D):∀ l,(zkG x l).Perm (x::l)
 | []=>.refl _
 | y::r=>by
  unfold zkG
  split
  ·exact((zf7 x r).cons y).trans (.swap x y r)
  ·exact .refl _
theorem zf3:∀ l:List (WK×D),(zdk l).Perm l
 | []=>.refl _
 | x::r=>(zf7 x _).trans ((zf3 r).cons x)
def insI(x:Int):List Int->List Int
 | []=>[x]
 | y::r=>if y<x then y::insI x r else x::y::r
def zm4:List Int->List Int
 | []=>[]
 | x::r=>insI x (zm4 r)
def zvo:D->R D
 | .list a=>(R.of (intsOf a)).bind fun ns=>chk (leB (ns.length+1) 64) (.ok (.list ((zm4 ns).map .int)))
 | .tuple a=>(R.of (intsOf a)).bind fun ns=>chk (leB (ns.length+1) 64) (.ok (.list ((zm4 ns).map .int)))
 | _=>.bad
def zgH:D->R D
 | .list a=>.ok (.list a.reverse)
 | _=>.bad
def zrq(k d:D):R D:=match d with
 | .list xs=>chk (SeqAt.shaped (.list xs)&&SeqAt.shaped k) (.ok (.bool (xs.any fun y=>PyData.eqv y k)))
 | .tuple xs=>chk (SeqAt.shaped (.tuple xs)&&SeqAt.shaped k) (.ok (.bool (xs.any fun y=>PyData.eqv y k)))
 | _=>.bad
end FL
namespace L2
open PySem PySem.Spec PyProof.Rows PySem.W
abbrev gp(p:Array Nat)(i:Nat):Nat:=p.getD i 0
theorem zm9{p q:Array Nat}{i j:Nat}(h:p[i]?=q[j]?):gp p i=gp q j:=by
 simp only [gp,Array.getD_eq_getD_getElem?,h]
section
variable {lt:Nat->Nat->Bool}{n:Nat}{cmp:Nat->Nat->(Bool->Shared->Prop)->Shared->Prop}{P:Shared->Prop}
structure Ord(lt:Nat->Nat->Bool):Prop where
 tr:∀ i j k,lt j i=false->lt k j=false->lt k i=false
 as:∀ i j,lt i j=true->lt j i=false
def Asks(lt:Nat->Nat->Bool)(n:Nat)(P:Shared->Prop)(cmp:Nat->Nat->(Bool->Shared->Prop)->Shared->Prop):Prop :=
 ∀ i j (C:Bool->Shared->Prop) s,i<n->j<n->P s->(∀ s',P s'->C (lt i j) s')->cmp i j C s
theorem Ord.refl(o:Ord lt)(i:Nat):lt i i=false:=by
 cases h:lt i i with
 | false=>rfl
 | true=>exact h.symm.trans (o.as i i h)
def Up(lt:Nat->Nat->Bool)(p:Array Nat)(m:Nat):Prop:=∀ i j,i<=j->j<m->lt (gp p j) (gp p i)=false
def Dn(lt:Nat->Nat->Bool)(p:Array Nat)(m:Nat):Prop:=∀ i j,i<=j->j<m->lt (gp p i) (gp p j)=false
def Eb(lt:Nat->Nat->Bool)(p:Array Nat)(a b:Nat):Prop:=∀ i j,a<=i->i<b->a<=j->j<b->lt (gp p i) (gp p j)=false
structure Arr(n:Nat)(p:Array Nat):Prop where
 sz:p.size=n
 pm:p.Perm (List.toArray (List.range n))
theorem Arr.lim{p:Array Nat}(h:Arr n p)(hn:0<n)(i:Nat):gp p i<n:=by
 by_cases c:i<p.size
 ·have e:gp p i=p[i]:=by simp [gp,Array.getD,c]
  rw [e]
  have m:p[i]∈p.toList:=Array.getElem_mem_toList c
  have m2:=(Array.perm_iff_toList_perm.mp h.pm).mem_iff.mp m
  simpa using m2
 ·have e:gp p i=0:=by simp [gp,Array.getD,c]
  rw [e];exact hn
theorem Up.next(o:Ord lt){p:Array Nat}{m:Nat}(h:Up lt p m)(hm:1<=m)(e:lt (gp p m) (gp p (m-1))=false):Up lt p (m+1):=fun i j hij hj=>by
 by_cases c:j<m
 ·exact h i j hij c
 ·have:j=m:=by omega
  subst this
  by_cases c2:i=j
  ·subst c2;exact o.refl _
  ·exact o.tr _ _ _ (h i (j-1) (by omega) (by omega)) e
theorem Dn.next(o:Ord lt){p:Array Nat}{m:Nat}(h:Dn lt p m)(hm:1<=m)(e:lt (gp p (m-1)) (gp p m)=false):Dn lt p (m+1):=fun i j hij hj=>by
 by_cases c:j<m
 ·exact h i j hij c
 ·have:j=m:=by omega
  subst this
  by_cases c2:i=j
  ·subst c2;exact o.refl _
  ·exact o.tr _ _ _ e (h i (j-1) (by omega) (by omega))
theorem zhm{p:Array Nat}{a b:Nat}(hb:b<=p.size)(k:Nat):gp (kas_rev p a b) k=if a<=k/\k<b then gp p (a+b-1-k) else gp p k:=by
 have e:=getElem?_mirror_all (xs:=p) (i:=a) hb k
 unfold kas_rev
 split
 ·rename_i c;rw [if_pos c] at e;exact zm9 e
 ·rename_i c;rw [if_neg c] at e;exact zm9 e
theorem Arr.rev{p:Array Nat}(h:Arr n p)(a b:Nat):Arr n (kas_rev p a b):=⟨by unfold kas_rev;rw [mirror_size];exact h.sz,(mirror_perm _ _ _ _).trans h.pm⟩
theorem Dn.rev(o:Ord lt){p:Array Nat}{a b m:Nat}(hb:b<=p.size)(h:Dn lt p m)(e:Eb lt p a b)(hbm:b<=m):Dn lt (kas_rev p a b) m:=fun i j hij hj=>by
 rw [zhm hb,zhm hb]
 split
 ·rename_i c1
  split
  ·rename_i c2;exact e _ _ (by omega) (by omega) (by omega) (by omega)
  ·rename_i c2;exact h _ _ (by omega) (by omega)
 ·rename_i c1
  split
  ·rename_i c2;exact h _ _ (by omega) (by omega)
  ·exact h _ _ hij hj
theorem zny(o:Ord lt)(hc:Asks lt n P cmp)(hn:0<n){p:Array Nat}(ar:Arr n p):∀(f m:Nat) {Q:Nat->Shared->Prop} {s:Shared},1<=m->Up lt p m->P s ->
  (∀ m' s',P s'->m<=m'->m'<=m+f->Up lt p m'->(m'=m+f\/lt (gp p m') (gp p (m'-1))=true)->Q m' s')->(kas_asc p f m).kasWp cmp Q s
 | 0,m,Q,s,h1,hu,hp,h=>h m s hp (Nat.le_refl _) (Nat.le_refl _) hu (.inl rfl)
 | f+1,m,Q,s,h1,hu,hp,h=>by
  refine hc _ _ _ s (ar.lim hn _) (ar.lim hn _) hp fun s' hp'=>?_
  cases e:lt (p.getD m 0) (p.getD (m-1) 0) with
  | true=>exact h m s' hp' (Nat.le_refl _) (by omega) hu (.inr e)
  | false =>
   refine zny o hc hn ar f (m+1) (by omega) (hu.next o h1 e) hp' fun m' s'' hp'' a b c d=>h m' s'' hp'' (by omega) (by omega) c ?_
   rcases d with d|d
   ·exact .inl (by omega)
   ·exact .inr d
theorem zh8(o:Ord lt)(hc:Asks lt n P cmp)(hn:0<n):∀(f:Nat) (p:Array Nat) (m q:Nat) {Q:Array Nat×Nat×Nat->Shared->Prop} {s:Shared},Arr n p->q+1<=m->m+f<=n->Dn lt p m->Eb lt p (m-(q+1)) m->P s ->
  (∀ p' m' q' s',P s'->Arr n p'->m<=m'->m'<=n->q'+1<=m'->Dn lt p' m'->Eb lt p' (m'-(q'+1)) m'->Q (p',m',q') s')->(kas_desc f p m q).kasWp cmp Q s
 | 0,p,m,q,Q,s,ar,h1,h2,hd,he,hp,h=>h p m q s hp ar (Nat.le_refl _) (by omega) h1 hd he
 | f+1,p,m,q,Q,s,ar,h1,h2,hd,he,hp,h=>by
  refine hc _ _ _ s (ar.lim hn _) (ar.lim hn _) hp fun s' hp'=>?_
  cases e:lt (p.getD m 0) (p.getD (m-1) 0) with
  | true =>
   have hd2:Dn lt p (m+1):=hd.next o (by omega) (o.as _ _ e)
   show(if q > 0 then kas_desc f (kas_rev p (m-(q+1)) m) (m+1) 0 else kas_desc f p (m+1) 0).kasWp cmp Q s'
   split
   ·refine zh8 o hc hn f _ (m+1) 0 (ar.rev _ _) (by omega) (by omega) (hd2.rev o (by rw [ar.sz];omega) he (by omega)) (fun i j a b c d=>?_) hp' fun p' m' q' s'' a b c=>h p' m' q' s'' a b (by omega)
    have e1:i=m:=by omega
    have e2:j=m:=by omega
    subst e1;subst e2;exact o.refl _
   ·refine zh8 o hc hn f _ (m+1) 0 ar (by omega) (by omega) hd2 (fun i j a b c d=>?_) hp' fun p' m' q' s'' a b c=>h p' m' q' s'' a b (by omega)
    have e1:i=m:=by omega
    have e2:j=m:=by omega
    subst e1;subst e2;exact o.refl _
  | false =>
   refine hc _ _ _ s' (ar.lim hn _) (ar.lim hn _) hp' fun s'' hp''=>?_
   cases e2:lt (p.getD (m-1) 0) (p.getD m 0) with
   | true=>exact h p m q s'' hp'' ar (Nat.le_refl _) (by omega) h1 hd he
   | false =>
    refine zh8 o hc hn f p (m+1) (q+1) ar (by omega) (by omega) (hd.next o (by omega) e2) (fun i j a b c d=>?_) hp'' fun p' m' q' s3 a b c=>h p' m' q' s3 a b (by omega)
    have eq1:∀ x,m-(q+1)<=x->x<m->lt (gp p m) (gp p x)=false/\lt (gp p x) (gp p m)=false:=fun x x1 x2 =>
     ⟨o.tr _ _ _ (he (m-1) x (by omega) (by omega) x1 x2) e,o.tr _ _ _ e2 (he x (m-1) x1 x2 (by omega) (by omega))⟩
    by_cases c1:i=m
    ·by_cases c2:j=m
     ·subst c1;subst c2;exact o.refl _
     ·subst c1;exact(eq1 j (by omega) (by omega)).1
    ·by_cases c2:j=m
     ·subst c2;exact(eq1 i (by omega) (by omega)).2
     ·exact he i j (by omega) (by omega) (by omega) (by omega)
theorem zki(o:Ord lt)(hc:Asks lt n P cmp)(hn:0<n){p:Array Nat}(ar:Arr n p){m:Nat}{Q:Nat×Array Nat->Shared->Prop}{s:Shared}(h1:1<=m)(hm:m<=n)(hd:Dn lt p m)(hp:P s)
  (h:∀ m' p' s',P s'->Arr n p'->1<=m'->m'<=n->Up lt p' m'->Q (m',p') s'):(kas_tail3 m n p).kasWp cmp Q s:=by
 unfold kas_tail3
 rw [KasT.kasWp_bind]
 refine zny o hc hn (ar.rev 0 m) (n-m) m h1 (fun i j hij hj=>?_) hp fun m' s' hp' a b c _=>h m' _ s' hp' (ar.rev 0 m) (by omega) (by omega) c
 rw [zhm (by rw [ar.sz];exact hm),zhm (by rw [ar.sz];exact hm),if_pos (by omega),if_pos (by omega)]
 exact hd _ _ (by omega) (by omega)
theorem zgc(o:Ord lt)(hc:Asks lt n P cmp)(hn:0<n){p:Array Nat}(ar:Arr n p){m:Nat}{Q:Nat×Array Nat->Shared->Prop}{s:Shared}(hm:m+1<=n)(hd:Dn lt p (m+1))(hp:P s)
  (h:∀ m' p' s',P s'->Arr n p'->1<=m'->m'<=n->Up lt p' m'->Q (m',p') s'):(kas_descPart m n p).kasWp cmp Q s:=by
 unfold kas_descPart
 rw [KasT.kasWp_bind]
 refine zh8 o hc hn _ p (m+1) 0 ar (by omega) (by omega) hd (fun i j a b c d=>?_) hp fun p' m' q' s' hp' ar' a b c hd' he'=>?_
 ·have e1:i=m:=by omega
  have e2:j=m:=by omega
  subst e1;subst e2;exact o.refl _
 ·show(if q' > 0 then kas_tail3 m' n (kas_rev p' (m'-(q'+1)) m') else kas_tail3 m' n p').kasWp cmp Q s'
  split
  ·exact zki o hc hn (ar'.rev _ _) (by omega) b (hd'.rev o (by rw [ar'.sz];exact b) he' (Nat.le_refl _)) hp' h
  ·exact zki o hc hn ar' (by omega) b hd' hp' h
theorem zo2(o:Ord lt)(hc:Asks lt n P cmp)(hn:0<n){p:Array Nat}(ar:Arr n p){Q:Nat×Array Nat->Shared->Prop}{s:Shared}(hp:P s)
  (h:∀ m' p' s',P s'->Arr n p'->1<=m'->m'<=n->Up lt p' m'->Q (m',p') s'):(kas_count n p).kasWp cmp Q s:=by
 unfold kas_count
 rw [KasT.kasWp_bind]
 refine zny o hc hn ar (n-1) 1 (Nat.le_refl _) (fun i j a b=>?_) hp fun m s' hp' a b hu hl=>?_
 ·have e1:i=0:=by omega
  have e2:j=0:=by omega
  subst e1;subst e2;exact o.refl _
 by_cases c:m=n
 ·subst c
  rw [if_pos (by simp)]
  exact h m p s' hp' ar a (Nat.le_refl _) hu
 ·rw [if_neg (by simpa using c)]
  have hl2:lt (gp p m) (gp p (m-1))=true:=by
   rcases hl with hl|hl
   ·omega
   ·exact hl
  by_cases c1:m > 1
  ·rw [if_pos c1]
   refine hc _ _ _ s' (ar.lim hn _) (ar.lim hn _) hp' fun s'' hp''=>?_
   cases e:lt (p.getD 0 0) (p.getD (m-1) 0) with
   | true=>exact h m p s'' hp'' ar a (by omega) hu
   | false =>
    have hs:m<=p.size:=by rw [ar.sz];omega
    have all:∀ i j,i<m->j<m->lt (gp p i) (gp p j)=false:=fun i j hi hj =>
     o.tr _ _ _ (hu j (m-1) (by omega) (by omega)) (o.tr _ _ _ e (hu 0 i (Nat.zero_le _) hi))
    refine zgc o hc hn (ar.rev 0 m) (by omega) (fun i j hij hj=>?_) hp'' h
    rw [zhm hs,zhm hs]
    by_cases cj:j<m
    ·rw [if_pos (by omega),if_pos (by omega)]
     exact all _ _ (by omega) (by omega)
    ·have ej:j=m:=by omega
     subst ej
     rw [if_neg (by omega:¬ (0<=j/\j<j))]
     split
     ·exact o.tr _ _ _ (o.as _ _ hl2) (all _ _ (by omega) (by omega))
     ·have ei:i=j:=by omega
      subst ei;exact o.refl _
  ·rw [if_neg c1]
   have e1:m=1:=by omega
   subst e1
   refine zgc o hc hn ar (by omega) ?_ hp' h
   refine Dn.next o (fun i j hij hj=>?_) (Nat.le_refl _) (o.as _ _ hl2)
   have e1:i=0:=by omega
   have e2:j=0:=by omega
   subst e1;subst e2;exact o.refl _
theorem zhO(o:Ord lt)(hc:Asks lt n P cmp)(hn:0<n){p:Array Nat}(ar:Arr n p){k:Nat}(hu:Up lt p k):∀(f l r:Nat) {Q:Nat->Shared->Prop} {s:Shared},l<=r->r<=k->r-l<=f ->
  (∀ i,i<l->lt (gp p k) (gp p i)=false)->(∀ i,r<=i->i<k->lt (gp p i) (gp p k)=false)->P s ->
  (∀ l' s',P s'->l'<=k->(∀ i,i<l'->lt (gp p k) (gp p i)=false)->(∀ i,l'<=i->i<k->lt (gp p i) (gp p k)=false)->Q l' s')->(kas_place p k f l r).kasWp cmp Q s
 | 0,l,r,Q,s,h1,h2,h3,a,b,hp,h=>h l s hp (by omega) a (by
   have:l=r:=by omega
   subst this;exact b)
 | f+1,l,r,Q,s,h1,h2,h3,a,b,hp,h=>by
  unfold kas_place
  by_cases c:l ≥ r
  ·rw [if_pos c]
   have:l=r:=by omega
   subst this
   exact h l s hp h2 a b
  ·rw [if_neg c]
   refine hc _ _ _ s (ar.lim hn _) (ar.lim hn _) hp fun s' hp'=>?_
   cases e:lt (p.getD k 0) (p.getD ((l+r) / 2) 0) with
   | true =>
    refine zhO o hc hn ar hu f l ((l+r) / 2) (by omega) (by omega) (by omega) a (fun i i1 i2=>?_) hp' h
    exact o.tr _ _ _ (o.as _ _ e) (hu _ _ i1 i2)
   | false =>
    refine zhO o hc hn ar hu f ((l+r) / 2+1) r (by omega) h2 (by omega) (fun i i1=>?_) b hp' h
    exact o.tr _ _ _ (hu i ((l+r) / 2) (by omega) (by omega)) e
theorem zpN(o:Ord lt)(hc:Asks lt n P cmp)(hn:0<n):∀(f:Nat) (p:Array Nat) (k:Nat) {Q:Array Nat->Shared->Prop} {s:Shared},Arr n p->k+f=n->Up lt p k->P s ->
  (∀ p' s',P s'->Arr n p'->Up lt p' n->Q p' s')->(kas_bin f p k).kasWp cmp Q s
 | 0,p,k,Q,s,ar,h1,hu,hp,h=>h p s hp ar (by
  have:k=n:=by omega
  subst this;exact hu)
 | f+1,p,k,Q,s,ar,h1,hu,hp,h=>by
  unfold kas_bin
  rw [KasT.kasWp_bind]
  refine zhO o hc hn ar hu k 0 k (Nat.zero_le _) (Nat.le_refl _) (by omega) (fun i hi=>by omega) (fun i a b=>by omega) hp fun l s' hp' hl ha hb=>?_
  have hk:k<p.size:=by rw [ar.sz];omega
  have gb:∀ i,gp (bubble p k (k-l)) i=if i=l then gp p k else if l<i/\i<=k then gp p (i-1) else gp p i:=fun i=>by
   have e:=getElem?_bubble hk (k-l) (by omega) i
   rw [show k-(k-l)=l by omega] at e
   by_cases c1:i=l
   ·rw [if_pos c1] at e ⊢;exact zm9 e
   ·rw [if_neg c1] at e ⊢
    by_cases c2:l<i/\i<=k
    ·rw [if_pos c2] at e ⊢;exact zm9 e
    ·rw [if_neg c2] at e ⊢;exact zm9 e
  refine zpN o hc hn f _ (k+1) ⟨by rw [bubble_size];exact ar.sz,(bubble_perm _ _ _).trans ar.pm⟩ (by omega) (fun i j hij hj=>?_) hp' h
  rw [gb i,gb j]
  by_cases c1:i=l
  ·rw [if_pos c1]
   by_cases c2:j=l
   ·rw [if_pos c2];exact o.refl _
   ·rw [if_neg c2,if_pos (by omega)]
    exact hb _ (by omega) (by omega)
  ·rw [if_neg c1]
   by_cases c2:j=l
   ·rw [if_pos c2,if_neg (by omega)]
    exact ha _ (by omega)
   ·rw [if_neg c2]
    by_cases c3:l<i/\i<=k
    ·rw [if_pos c3,if_pos (by omega)]
     exact hu _ _ (by omega) (by omega)
    ·rw [if_neg c3]
     split
     ·exact hu _ _ (by omega) (by omega)
     ·exact hu _ _ (by omega) (by omega)
theorem zp3(o:Ord lt)(hc:Asks lt n P cmp)(hn:0<n){Q:Array Nat->Shared->Prop}{s:Shared}(hp:P s)(h:∀ p s',P s'->Arr n p->Up lt p n->Q p s'):(kas_sort n).kasWp cmp Q s:=by
 unfold kas_sort
 rw [KasT.kasWp_bind]
 refine zo2 o hc hn ⟨by simp,Array.Perm.refl _⟩ hp fun m p s' hp' ar h1 h2 hu=>?_
 show(if m<n then kas_bin (n-max m 1) p (max m 1) else KasT.ret p).kasWp cmp Q s'
 split
 ·have e:max m 1=m:=by omega
  rw [e]
  exact zpN o hc hn _ p m ar (by omega) hu hp' h
 ·have:m=n:=by omega
  subst this
  exact h p s' hp' ar hu
end
end L2
namespace PySem
open Spec PyProof.Rows
section
variable {prog:Program}{w:World}{A:Around}{E:Value->Shared->Prop}{s:Shared}
theorem DEs.at{h h':Heap}{d:Addr}{es:Array DictEntry}{ep:Nat}(x:DEs h d es ep)(k:∀ o,h.get? d=some o->h'.get? d=some o):DEs h' d es ep:=by
 obtain⟨o,e,r⟩:=x.ex
 exact⟨o,k o e,r⟩
theorem zrB(hh:A.handled=none)(I d:Addr)(hne:d≠I)(es:Array DictEntry)(ep:Nat) :
  Walks prog w A I [I,d] [I] es.size (fun i v=>∃ h:i<es.size,v=es[i].key) (fun i h=>h.IsKeyIter I d i es.size ep/\DEs h d es ep) where
 sub:=fun b hb=>by simp at hb;simp [hb]
 frame:=fun _ _ _ st hk=>⟨st.1.at fun o e=>hk I (by simp) o e,st.2.at fun o e=>hk d (by simp) o e⟩
 item:=fun i s Q E hi st hQ=>by
  refine zui st.1 st.2 hi fun h' hit' hs'=>?_
  exact hQ _ h' s.toks ⟨hi,rfl⟩ ⟨hit',st.2.at fun o e=>hs'.extBut d o hne e⟩ fun b o hb e=>hs'.extBut b o (fun h=>hb (by simp [h])) e
 done:=fun s Q E st hQ=>zvU hh st.1 st.2 (Nat.le_refl _) fun h' he'=>hQ h' s.toks fun b o hb e=>he' b o (fun h=>hb (by simp [h])) e
 self:=fun _ _ _ _ st hQ=>wpAny_pyIter_keyiter st.1 hQ
theorem zo3{d:Addr}{es:Array DictEntry}{ep:Nat}{Q:List Value->Shared->Prop}(hh:A.handled=none)(sy:(d==sysModules)=false)(hm:DEs s.heap d es ep)(hn:es.size<=1000)
  (hQ:∀ s' (acc:Array Value),(∀ b o,s.heap.get? b=some o->s'.heap.get? b=some o)->s'.gens=s.gens->s'.drawn=s.drawn->s'.os=s.os->s.heap.objs.size<=s'.heap.objs.size->ItemsOf (fun i v=>∃ h:i<es.size,v=es[i].key) acc es.size->Q acc.toList s') :
  wpAny (model prog w) A (collect (.ref d)) Q E s:=by
 obtain⟨od,hod,hxd,hdd⟩:=hm.ex
 have dl:=Heap.lt_size hod
 unfold collect
 refine wpAny_bind (wpAny_runValue (codeAny_builtin F.entry_proto_collect ?_))
 rw [Around.under_plainId F.plain_proto_collect _]
 show wpAny _ A.in1 (newList [] >>= fun l=>again (.builtin "list.__iadd__" ⟨[l,.ref d],[]⟩)) _ _ s
 refine wpAny_bind (wpAny_newObj_type ?_)
 refine wpAny_pure ⟨plainId_quiet F.plain_list_iadd _,codeAny_builtin F.entry_list_iadd ?_⟩
 rw [Around.under_plainId F.plain_list_iadd _]
 have hm1:DEs (s.heap.push { cls:=.type "list",data:=.seq ([]:List Value).toArray }) d es ep:=hm.at fun o e=>Heap.get?_push_of_some _ e
 have hSd:s.heap.objs.size≠d:=Nat.ne_of_gt dl
 have h1:Builtin.List.listSameRef (.ref s.heap.objs.size) (.ref d)=false:=by simp [Builtin.List.listSameRef,hSd]
 show wpAny _ A.in1 (Builtin.List.listExtendWith (.ref s.heap.objs.size) (.ref d) (.ref s.heap.objs.size)) _ _ _
 unfold Builtin.List.listExtendWith
 refine wpAny_bind (wpAny_typeOf (s:={ s with heap:=s.heap.push { cls:=.type "list",data:=.seq ([]:List Value).toArray } }) hm1.typ ?_)
 rw [if_neg (by rw [h1];decide)]
 refine wpAny_bind (zup (s:={ s with heap:=s.heap.push { cls:=.type "list",data:=.seq ([]:List Value).toArray } }) sy hm1 ?_)
 refine wpAny_bind (wpAny_holding ?_)
 have I2:s.heap.objs.size+1=(s.heap.push { cls:=.type "list",data:=.seq ([]:List Value).toArray }).objs.size:=(Heap.size_push ..).symm
 have hm2:DEs ((s.heap.push { cls:=.type "list",data:=.seq ([]:List Value).toArray }).push { cls:=.type "dict_keyiterator",data:=.fields #[.ref d,.int 0 0,.int es.size 0,.int ep 0] }) d es ep:=hm1.at fun o e=>Heap.get?_push_of_some _ e
 have ty2:=DEs.typ (s:={ s with heap:=(s.heap.push { cls:=.type "list",data:=.seq ([]:List Value).toArray }).push { cls:=.type "dict_keyiterator",data:=.fields #[.ref d,.int 0 0,.int es.size 0,.int ep 0] } }) hm2
 unfold Builtin.List.listLengthHint
 refine wpAny_bind (wpAny_specialOf ty2 F.slot_dict_len.lookup ?_)
 generalize hid:("dict.__len__":String)=id0
 wp_delta
 rw [show splitId id0=some ("dict","__len__") from by subst hid;decide +kernel]
 subst hid
 refine wpAny_bind (wpAny_isInstance (b:=true) ty2 (by rw [isSubtype_type];kernel_rfl) ?_)
 rw [if_neg (by decide)]
 dsimp only
 rw [if_pos (by decide +kernel)]
 refine wpAny_bind (wpAny_typeOf ty2 ?_)
 refine wpAny_pure ?_
 rw [if_pos (by decide +kernel)]
 refine wpAny_bind (wpAny_rule ?_)
 unfold Builtin.List.listTouch
 have hS0:((s.heap.push { cls:=.type "list",data:=.seq ([]:List Value).toArray }).push { cls:=.type "dict_keyiterator",data:=.fields #[.ref d,.int 0 0,.int es.size 0,.int ep 0] }).get? s.heap.objs.size=some (seqObj "list" #[] 0):=Heap.get?_push_of_some _ (Heap.get?_push_size _ rfl)
 refine wpAny_bind (wpAny_bind (listUpdate_at hS0 rfl ?_ (Nat.zero_le _) (by show 1<=sizeLine+1;omega)))
 have hS1:=get?_update_seq hS0 (·.push .none)
 refine listUpdate_at hS1 rfl ?_ (by show 1<=sizeLine;rw [sizeLine_eq];decide) (by show 0<=sizeLine+1;omega)
 have hS2:=get?_update_seq hS1 (·.pop)
 have up:∀ b o,b≠s.heap.objs.size->((s.heap.push { cls:=.type "list",data:=.seq ([]:List Value).toArray }).push { cls:=.type "dict_keyiterator",data:=.fields #[.ref d,.int 0 0,.int es.size 0,.int ep 0] }).get? b=some o ->
   ((((s.heap.push { cls:=.type "list",data:=.seq ([]:List Value).toArray }).push { cls:=.type "dict_keyiterator",data:=.fields #[.ref d,.int 0 0,.int es.size 0,.int ep 0] }).update s.heap.objs.size (Obj.mapSeq fun x=>x.push Value.none)).update s.heap.objs.size (Obj.mapSeq fun x=>x.pop)).get? b=some o:=fun b o hb e =>
  (((Heap.SameBut.update ..).2 b hb).trans ((Heap.SameBut.update ..).2 b hb)).trans e
 have hI:((s.heap.push { cls:=.type "list",data:=.seq ([]:List Value).toArray }).push { cls:=.type "dict_keyiterator",data:=.fields #[.ref d,.int 0 0,.int es.size 0,.int ep 0] }).get? (s.heap.push { cls:=.type "list",data:=.seq ([]:List Value).toArray }).objs.size=some { cls:=.type "dict_keyiterator",data:=.fields #[.ref d,.int 0 0,.int es.size 0,.int ep 0] }:=Heap.get?_push_size _ rfl
 have neI:(s.heap.push { cls:=.type "list",data:=.seq ([]:List Value).toArray }).objs.size≠s.heap.objs.size:=by rw [<- I2];omega
 have old:∀ b o,s.heap.get? b=some o->((s.heap.push { cls:=.type "list",data:=.seq ([]:List Value).toArray }).push { cls:=.type "dict_keyiterator",data:=.fields #[.ref d,.int 0 0,.int es.size 0,.int ep 0] }).get? b=some o:=fun b o e=>Heap.get?_push_of_some _ (Heap.get?_push_of_some _ e)
 generalize ((((s.heap.push { cls:=.type "list",data:=.seq ([]:List Value).toArray }).push { cls:=.type "dict_keyiterator",data:=.fields #[.ref d,.int 0 0,.int es.size 0,.int ep 0] }).update s.heap.objs.size (Obj.mapSeq fun x=>x.push Value.none)).update s.heap.objs.size (Obj.mapSeq fun x=>x.pop))=h5 at hS2 up ⊢
 have st:h5.IsKeyIter (s.heap.push { cls:=.type "list",data:=.seq ([]:List Value).toArray }).objs.size d 0 es.size ep:=⟨_,up _ _ neI hI,rfl,rfl⟩
 have da:DEs h5 d es ep:=hm2.at fun o e=>up d o (Ne.symm hSd) e
 generalize hIa:(s.heap.push { cls:=.type "list",data:=.seq ([]:List Value).toArray }).objs.size=Ia at st neI hI ⊢
 have ia:Ia=s.heap.objs.size+1:=by rw [<- hIa];exact I2.symm
 have ne:d≠Ia:=by rw [ia];exact Nat.ne_of_lt (Nat.lt_succ_of_lt dl)
 have nS:s.heap.objs.size∉[Ia,d]:=fun h=>by
  rcases List.mem_cons.mp h with c|c
  ·exact neI c.symm
  ·exact hSd (List.mem_singleton.mp c)
 have W:=(zrB (prog:=prog) (w:=w) (A:=A.in1) hh Ia d ne es ep).toS
 refine wpAny_pure ⟨plainId_quiet F.plain_extend_loop _,codeAny_extend_loopS W (by rw [sizeLine_eq];omega) s.heap.objs.size nS _ es.size 0 _ _ _ rfl (Nat.zero_le _) ⟨st,da⟩ hS2 (ItemsOf.nil _) fun s' acc' c' mv hS' hacc=>?_⟩
 show wpAny _ A (load s.heap.objs.size >>= _) _ _ s'
 refine wpAny_bind (wpAny_load hS' ?_)
 refine wpAny_pure (hQ s' acc' (fun b o e=>?_) mv.gens mv.drawn mv.os (Nat.le_of_lt (Heap.lt_size hS')) hacc)
 have lt:=Heap.lt_size e
 have b1:b≠s.heap.objs.size:=Nat.ne_of_lt lt
 have b2:b≠Ia:=by rw [ia];exact Nat.ne_of_lt (Nat.lt_succ_of_lt lt)
 refine mv.heap b o (fun h=>?_) (up b o b1 (old b o e))
 rcases List.mem_cons.mp h with c|c
 ·exact b1 c
 ·exact b2 (List.mem_singleton.mp c)
end
end PySem
namespace L2
open PySem PySem.Spec PyProof.Rows PySem.W
def Cx.in1(X:Cx):Cx:={ X with A:=X.A.in1 }
section
variable {X:Cx}{pins:List (Addr×Obj)}{σ:L2.St}{H:Hp}{s:Shared}
theorem Cx.Ok.in1(o:X.Ok):X.in1.Ok:=⟨o.mod,o.kind,o.glob,o.blt,o.above,o.inj,o.has,o.cab,o.hd,o.frames,o.stk,o.exf,o.bs,o.bsz,o.noex,o.exfs,o.zlE,o.frf,o.tree,o.sk⟩
theorem Cx.Ok.zro(o:X.in1.Ok):X.Ok:=⟨o.mod,o.kind,o.glob,o.blt,o.above,o.inj,o.has,o.cab,o.hd,o.frames,o.stk,o.exf,o.bs,o.bsz,o.noex,o.exfs,o.zlE,o.frf,o.tree,o.sk⟩
theorem Inv.in1(I:Inv X pins σ H s):Inv X.in1 pins σ H s:=⟨I.ok.in1,I.os,I.bare,I.base,I.loc,I.cell,I.free,I.freeC,I.pin,I.hok,I.len⟩
theorem Inv.zro(I:Inv X.in1 pins σ H s):Inv X pins σ H s:=⟨I.ok.zro,I.os,I.bare,I.base,I.loc,I.cell,I.free,I.freeC,I.pin,I.hok,I.len⟩
end
end L2
namespace L2
open PySem PySem.Spec PyProof.Rows PySem.W
theorem zpx:∀ a b c:List Int,HT.lexLt b a=false->HT.lexLt c b=false->HT.lexLt c a=false
 | [],_,[],_,_=>rfl
 | [],[],_::_,_,_=>rfl
 | [],_::_,_::_,_,_=>rfl
 | _::_,[],_,h,_=>by cases h
 | _::_,_::_,[],_,h=>by cases h
 | x::xs,y::ys,z::zs,h1,h2=>by
  simp only [HT.lexLt] at h1 h2 ⊢
  by_cases c1:y=x
  ·subst c1
   rw [if_pos rfl] at h1
   by_cases c2:z=y
   ·subst c2;rw [if_pos rfl] at h2 ⊢;exact zpx xs ys zs h1 h2
   ·rw [if_neg c2] at h2 ⊢;exact h2
  ·rw [if_neg c1] at h1
   have h1':=of_decide_eq_false h1
   by_cases c2:z=y
   ·subst c2;rw [if_neg c1];exact h1
   ·rw [if_neg c2] at h2
    have h2':=of_decide_eq_false h2
    rw [if_neg (by omega)]
    exact decide_eq_false (by omega)
theorem zmU:∀ a b:List Int,HT.lexLt a b=true->HT.lexLt b a=false
 | [],[],h=>by cases h
 | [],_::_,_=>rfl
 | _::_,[],h=>by cases h
 | x::xs,y::ys,h=>by
  simp only [HT.lexLt] at h ⊢
  by_cases c:x=y
  ·subst c;rw [if_pos rfl] at h ⊢;exact zmU xs ys h
  ·rw [if_neg c] at h
   have h':=of_decide_eq_true h
   rw [if_neg (by omega)]
   exact decide_eq_false (by omega)
abbrev WK:=Int×List Int
def ltK(p q:WK):Bool:=if p.1=q.1 then HT.lexLt p.2 q.2 else decide (p.1<q.1)
theorem zmQ(a b c:WK)(h1:ltK b a=false)(h2:ltK c b=false):ltK c a=false:=by
 unfold ltK at h1 h2 ⊢
 by_cases c1:b.1=a.1
 ·rw [if_pos c1] at h1
  by_cases c2:c.1=b.1
  ·rw [if_pos c2] at h2;rw [if_pos (c2.trans c1)];exact zpx _ _ _ h1 h2
  ·rw [if_neg c2] at h2;rw [if_neg (by rw [<- c1];exact c2),<- c1];exact h2
 ·rw [if_neg c1] at h1
  have h1':=of_decide_eq_false h1
  by_cases c2:c.1=b.1
  ·rw [c2,if_neg c1];exact h1
  ·rw [if_neg c2] at h2
   have h2':=of_decide_eq_false h2
   rw [if_neg (by omega)]
   exact decide_eq_false (by omega)
theorem zhf(a b:WK)(h:ltK a b=true):ltK b a=false:=by
 unfold ltK at h ⊢
 by_cases c:a.1=b.1
 ·rw [if_pos c] at h;rw [if_pos c.symm];exact zmU _ _ h
 ·rw [if_neg c] at h
  have h':=of_decide_eq_true h
  rw [if_neg (by omega)]
  exact decide_eq_false (by omega)
def ltP(kd:List WK)(i j:Nat):Bool:=ltK (kd.getD i (0,[])) (kd.getD j (0,[]))
theorem zuY(kd:List WK):Ord (ltP kd):=⟨fun _ _ _ h1 h2=>zmQ _ _ _ h1 h2,fun _ _ h=>zhf _ _ h⟩
def zeQ(H:Hp)(k:WK)(v:V):Prop:=∃ b c,v=.ref b/\TAt H b [.int k.1,.ref c]/\TAt H c (k.2.map V.int)
def zhA(H:Hp):List WK->List V->Prop
 | [],vs=>vs=[]
 | k::r,vs=>∃ v t,vs=v::t/\zeQ H k v/\zhA H r t
theorem TAt.same{H H':Hp}{b:Addr}{xs:List V}(s:zaE H H')(h:TAt H b xs):TAt H' b xs:=by
 rcases h with h|⟨o,h⟩
 ·exact .inl (s _ _ h)
 ·exact .inr ⟨o,s _ _ h⟩
theorem zeQ.same{H H':Hp}{k:WK}{v:V}(s:zaE H H')(h:zeQ H k v):zeQ H' k v:=by
 obtain⟨b,c,e,h1,h2⟩:=h
 exact⟨b,c,e,h1.same s,h2.same s⟩
theorem zhA.same{H H':Hp}(s:zaE H H'):∀{ks:List WK} {vs:List V},zhA H ks vs->zhA H' ks vs
 | [],vs,h=>h
 | k::r,vs,h=>by
  obtain⟨v,t,e,h1,h2⟩:=h
  exact⟨v,t,e,h1.same s,zhA.same s h2⟩
theorem zhA.snoc{H:Hp}{k:WK}{v:V}(h:zeQ H k v):∀{ks:List WK} {vs:List V},zhA H ks vs->zhA H (ks++[k]) (vs++[v])
 | [],vs,e=>by
  have:vs=[]:=e
  subst this
  exact⟨v,[],rfl,h,rfl⟩
 | k0::r,vs,e=>by
  obtain⟨v0,t,rfl,h1,h2⟩:=e
  exact⟨v0,t++[v],rfl,h1,zhA.snoc h h2⟩
theorem zhA.len{H:Hp}:∀{ks:List WK} {vs:List V},zhA H ks vs->vs.length=ks.length
 | [],vs,e=>by
  have:vs=[]:=e
  subst this;rfl
 | k0::r,vs,e=>by
  obtain⟨v0,t,rfl,h1,h2⟩:=e
  simp [zhA.len h2]
theorem zhA.get{H:Hp}:∀{ks:List WK} {vs:List V} {i:Nat} {v:V},zhA H ks vs->vs[i]?=some v->zeQ H (ks.getD i (0,[])) v
 | [],vs,i,v,e,h=>by
  have:vs=[]:=e
  subst this;simp at h
 | k0::r,vs,i,v,e,h=>by
  obtain⟨v0,t,rfl,h1,h2⟩:=e
  cases i with
  | zero=>simp at h;subst h;exact h1
  | succ i=>simpa using zhA.get h2 (i:=i) (by simpa using h)
section
variable {X:Cx}{pins:List (Addr×Obj)}{σ:L2.St}{H:Hp}{s:Shared}
theorem zjM(I:Inv X pins σ H s){k:WK}{v:V}{u:Value}(h:zeQ H k v)(r:RelV v u) :
  ∃ b o n0 c,∃ tk:Tok,u=.ref b/\s.heap.get? b=some o/\o.cls=.type "tuple"/\o.data=.seq #[.int k.1 tk,.ref c] n0/\TAt H c (k.2.map V.int):=by
 obtain⟨b,c,rfl,h1,h2⟩:=h
 cases r
 obtain⟨its,rv,⟨o,ho,hc,n,hd⟩,_⟩:=I.tuple (.inl h1)
 cases rv with
 | cons r1 rv =>
  cases rv with
  | cons r2 rv =>
   cases rv
   obtain⟨tk,rfl⟩:=r1
   cases r2
   exact⟨b,o,n,c,tk,rfl,ho,hc,hd,h2⟩
theorem zmY(I:Inv X pins σ H s){c:Addr}{w:List Int}(h:TAt H c (w.map V.int)):∃ its:Array Value,IsTup s.heap c its/\IntsAre its.toList w:=by
 obtain⟨its,rv,p,_⟩:=I.tuple (.inl h)
 exact⟨its.toArray,p,by simpa using intsAre_of rv⟩
theorem map_inl(w:List Int):(w.map (Sum.inl (β:=Str))).map kV=w.map V.int:=by simp [kV]
theorem zsT(hu:X.A.units+1<cLine)(I:Inv X pins σ H s){k k':WK}{v v':V}{u u':Value}{C:Bool->Shared->Prop}{E:Value->Shared->Prop}(h:zeQ H k v)(h':zeQ H k' v')(r:RelV v u)(r':RelV v' u')
  (q:C (ltK k k') s):wpAny (model X.prog X.w) X.A (keyLt' (tuples' true) u u') C E s:=by
 obtain⟨b,o,n0,c,tk,rfl,ho,hc,hd,hw⟩:=zjM I h r
 obtain⟨b',o',n0',c',tk',rfl,ho',hc',hd',hw'⟩:=zjM I h' r'
 refine kat_lt ho hd ho' hd' ?_
 refine kat_cons (wpAny_eqBool_int ?_)
 unfold ltK at q
 by_cases e1:k.1=k'.1
 ·rw [if_pos e1] at q
  rw [show(k.1==k'.1)=true from by simpa using e1]
  refine kat_yes (kat_cons ?_)
  have i1:=zfY (ks:=k.2.map (Sum.inl (β:=Str))) I.hok (by rw [map_inl];exact hw)
  have i2:=zfY (ks:=k'.2.map (Sum.inl (β:=Str))) I.hok (by rw [map_inl];exact hw')
  refine wpAny_eqBool_tuple (by omega) i1 i2 ?_
  by_cases e2:k.2=k'.2
  ·rw [show decide (k.2.map (Sum.inl (β:=Str))=k'.2.map Sum.inl)=true from by rw [e2];simp]
   refine kat_yes (kat_nil ?_)
   rw [e2] at q
   have z:HT.lexLt k'.2 k'.2=false:=by
    cases hz:HT.lexLt k'.2 k'.2 with
    | false=>rfl
    | true=>exact hz.symm.trans (zmU _ _ hz)
   rw [z] at q
   simpa using q
  ·rw [show decide (k.2.map (Sum.inl (β:=Str))=k'.2.map Sum.inl)=false from decide_eq_false fun z=>e2 (by
    have:=congrArg (List.map (Sum.elim id fun _=>(0:Int))) z
    simpa [List.map_map,Function.comp_def] using this)]
   refine kat_no ?_
   obtain⟨its,p1,j1⟩:=zmY I hw
   obtain⟨its',p2,j2⟩:=zmY I hw'
   exact kat_one _ _ (HT.zhd p1 p2 j1 j2 (by omega) q)
 ·rw [if_neg e1] at q
  rw [show(k.1==k'.1)=false from by simpa using e1]
  exact kat_no (oneLt_int q)
end
end L2
namespace L2
open PySem PySem.Spec PyProof.Rows PySem.W
section
variable {X:Cx}{pins:List (Addr×Obj)}{σ:L2.St}{H:Hp}{s:Shared}{h':Heap}
theorem Inv.adopt{a:Addr}{o:HO}{t':Nat}(I:Inv X pins σ H s)(k:∀ b u,b≠a->s.heap.get? b=some u->h'.get? b=some u)(hf:zgB X pins H a)(new:zbO X.prog X.w (upd H a o) h' a o) :
  Inv X pins σ (upd H a o) { s with heap:=h',toks:=t' }:=by
 obtain⟨hn,hL,hfs,h1,h2,h3⟩:=hf
 have ne:∀ b u,H b=some u->b≠a:=fun b u e z=>by rw [z,hn] at e;cases e
 refine I.step (g':=s.gens) (d':=s.drawn) (ch:=[a]) (fun b hb=>?_) (fun b o _ _ hc e _=>k b o (fun z=>hc (by simp [z])) e) (fun b o _ _ hc e _=>⟨o.slots,k b o (fun z=>hc (by simp [z])) e⟩) (fun b o hc _ n=>?_)
  (fun b o hc e=>⟨o,k b o (fun z=>hc (by simp [z])) e⟩) (fun b xs e=>?_) (fun b o u e=>?_) (fun b ps e=>⟨#[],?_⟩) (fun m hm=>?_) (fun b u e=>?_) I.bare
 ·have e:b=a:=by simpa using hb
  subst e
  exact⟨h1,hL,h2,h3⟩
 ·rw [zao fun z=>hc (by simp [z])];exact n
 ·rw [zao (ne b _ e)];exact e
 ·rw [zao (ne b _ e)];exact e
 ·rw [zao (ne b _ e),e];simp
 ·obtain⟨o,es,ep,ho,r⟩:=hm
  exact⟨o,es,ep,k _ o (Ne.symm hL) ho,r⟩
 ·by_cases c:b=a
  ·subst c
   rw [zak] at e
   cases e
   exact new
  ·rw [zao c] at e
   refine(I.hok b u e).stay (fun d v hc q=>k d v ?_ q) (fun b' q=>by rw [zao (ne b' _ q)];exact q) fun b' xs q=>q.upd (fun _ r=>ne b' _ r) fun _ _ r=>ne b' _ r
   rcases hc with z|z
   ·rw [z];exact ne b u e
   ·exact ne d _ z
variable {f kS a:Addr}{oa:Obj}{H0:Hp}{E:Value->Shared->Prop}{Q:Shared->Prop}
def KCall(X:Cx)(σ:L2.St)(H0:Hp)(f:Addr)(x:V)(kk:WK):Prop:=∀(u:Value) (pins':List (Addr×Obj)) (H':Hp) (s':Shared),RelV x u->zaE H0 H'->Inv X pins' σ H' s' ->
 wpAny (model X.prog X.w) X.A (call (.ref f) [u]) (EP X pins' σ fun k H''=>zaE H' H''/\zeQ H'' kk k) (fun _ _=>False) s'
def zgs(X:Cx)(σ:L2.St)(H0:Hp)(f:Addr):List V->List WK->Prop
 | [],kd=>kd=[]
 | x::r,kd=>∃ k t,kd=k::t/\KCall X σ H0 f x k/\zgs X σ H0 f r t
theorem zer{H1 H2 H3:Hp}(a:zaE H1 H2)(b:zaE H2 H3):zaE H1 H3:=fun c o e=>b c o (a c o e)
theorem zkC{body:Value->PUnit->Sem (ForInStep PUnit)}
  (hb:∀(x:Value) (s:Shared) (C:Shared->Prop),wpAny (model X.prog X.w) X.A (call (.ref f) [x]) (fun k s'=>wpAny (model X.prog X.w) X.A (Builtin.List.listUpdate (.ref kS) (·.push k)) (fun _ s''=>C s'') E s') (fun _ _=>False) s ->
   wpAny (model X.prog X.w) X.A (body x ⟨⟩) (fun r s''=>r=.yield ⟨⟩/\C s'') E s) :
  ∀(us:List Value) (xs:List V) (kd:List WK) (done:List Value) (kvs:List V) (dk:List WK) (e:Nat) (H:Hp) (s:Shared),Vals xs us->done.length+us.length<64->Inv X (pins++[(a,oa)]) σ H s->zaE H0 H ->
   zgB X (pins++[(a,oa)]) H kS->s.heap.get? kS=some (seqObj "list" done.toArray e)->Vals kvs done->zhA H dk kvs->zgs X σ H0 f xs kd ->
   (∀ H' s' done' kvs' e',Inv X (pins++[(a,oa)]) σ H' s'->zaE H0 H'->zgB X (pins++[(a,oa)]) H' kS->s'.heap.get? kS=some (seqObj "list" (List.toArray done') e')->Vals kvs' done'->zhA H' (dk++kd) kvs'->Q s') ->
   wpAny (model X.prog X.w) X.A (forIn us PUnit.unit body) (fun _ s'=>Q s') E s
 | [],xs,kd,done,kvs,dk,e,H,s,rv,hl,I,sm,fp,hk,rk,ks,kc,fin=>by
  rw [List.forIn_nil]
  cases rv
  have:kd=[]:=kc
  subst this
  refine wpAny_pure (fin H s done kvs e I sm fp hk rk ?_)
  rw [List.append_nil];exact ks
 | u::us,xs,kd,done,kvs,dk,e,H,s,rv,hl,I,sm,fp,hk,rk,ks,kc,fin=>by
  rw [List.forIn_cons]
  cases rv with
  | @cons x _ xr _ rx rv =>
   obtain⟨k,t,rfl,c1,kc⟩:=kc
   rw [List.length_cons] at hl
   have I2:Inv X ((pins++[(a,oa)])++[(kS,seqObj "list" done.toArray e)]) σ H s:=I.zhP fun p hp=>by
    rcases List.mem_append.mp hp with z|z
    ·exact I.pin p (List.mem_append_right _ z)
    ·have e:p=(kS,seqObj "list" done.toArray e):=by simpa using z
     subst e
     exact⟨hk,fp.1,fp.2.1,fp.2.2.1,fun v z=>nomatch z⟩
   refine wpAny_bind (wpAny_mono (hb u s (fun s2=>∃ H2 k2 v2 e2,Inv X (pins++[(a,oa)]) σ H2 s2/\zaE H H2/\zgB X (pins++[(a,oa)]) H2 kS/\s2.heap.get? kS=some (seqObj "list" (done++[k2]).toArray e2)/\RelV v2 k2/\zeQ H2 k v2) ?_) (fun r s2 ⟨er,H2,k2,v2,e2,I5,sm2,fp2,hk2,rk2,ka⟩=>?_) fun _ _ z=>z)
   ·refine wpAny_mono (c1 u _ H s rx sm I2) (fun k2 s3 ⟨v2,H3,I3,r3,sm3,ka⟩=>?_) fun _ _ z=>z
    obtain⟨p1,p2,_⟩:=I3.pin (kS,seqObj "list" done.toArray e) (List.mem_append_right _ (List.mem_append_right _ (by simp)))
    have hlen:done.toArray.size<64:=by rw [List.size_toArray];omega
    have ea:(done.toArray).push k2=(done++[k2]).toArray:=by simp
    refine listUpdate_at p1 rfl ?_ (by rw [sizeLine_eq];omega) (by rw [Array.size_push,sizeLine_eq];omega)
    have I4:=I3.zcO
    refine⟨H3,k2,v2,(if((done.toArray).push k2).size==done.toArray.size then e else e+1),I4.turned (t':=s3.toks) (fun b o hb e=>((Heap.SameBut.update ..).2 b hb).trans e) p2 fp.2.1 fp.2.2.2.1 fp.2.2.2.2.1 fp.2.2.2.2.2,sm3,⟨p2,fp.2⟩,?_,r3,ka⟩
    rw [<- ea]
    exact get?_update_seq p1 (·.push k2)
   ·subst er
    show wpAny _ _ (forIn us PUnit.unit body) _ _ s2
    refine zkC hb us xr t (done++[k2]) (kvs++[v2]) (dk++[k]) e2 H2 s2 rv (by rw [List.length_append,List.length_singleton];omega) I5 (zer sm sm2) fp2 hk2 (rk.append (.cons rk2 .nil)) (zhA.snoc ka (ks.same sm2)) kc fun H' s' d' kv' e' a1 a2 a3 a4 a5 a6=>fin H' s' d' kv' e' a1 a2 a3 a4 a5 ?_
    rw [List.append_assoc] at a6
    exact a6
theorem zke:∀{xs:List V} {us:List Value} (p:List Nat),Vals xs us->(∀ i∈p,i<us.length)->Vals (p.map fun i=>xs.getD i .non) (p.map fun i=>us.getD i Value.none)
 | xs,us,[],_,_=>.nil
 | xs,us,i::p,r,h=>by
  refine .cons ?_ (zke p r fun j hj=>h j (List.mem_cons_of_mem _ hj))
  have hi:=h i (List.mem_cons_self ..)
  have hl:=r.length
  obtain⟨w,ew,rw'⟩:=r.get (i:=i) (x:=xs[i]) (List.getElem?_eq_getElem (by omega))
  have e1:xs.getD i .non=xs[i]:=by simp [List.getD_eq_getElem?_getD,List.getElem?_eq_getElem (show i<xs.length by omega)]
  have e2:us.getD i Value.none=w:=by rw [List.getD_eq_getElem?_getD,ew];rfl
  show RelV (xs.getD i .non) (us.getD i Value.none)
  rw [e1,e2]
  exact rw'
theorem ztq(n:Nat):Arr n (List.toArray (List.range n)):=⟨by simp,Array.Perm.refl _⟩
theorem ziw{us:List Value}{xs:List V}{kd:List WK}{n0:Nat}{P:PySem.Fin->Shared->Prop}(hu:X.A.units+1<cLine)(I:Inv X pins σ H s)(ho:s.heap.get? a=some (seqObj "list" us.toArray n0)) (hf:zgB X pins H a) (rv:Vals xs us) (hl:us.length<64)
  (hc:zgs X σ H f xs kd)
  (hQ:∀(p:Array Nat) (H':Hp) (s':Shared),Arr us.length p->Up (ltP kd) p us.length->zaE H H'->H' a=none->Inv X pins σ (upd H' a (.lst (p.toList.map fun i=>xs.getD i .non))) s'->P (.done (.ret .none)) s') :
  wpAny (model X.prog X.w) X.A (ksk_tree a (.ref f) false) P E s:=by
 have hk:∀{xs:List V} {kd:List WK},zgs X σ H f xs kd->kd.length=xs.length:=by
  intro xs
  induction xs with
  | nil=>intro kd h;have:kd=[]:=h;subst this;rfl
  | cons x r ih=>intro kd h;obtain⟨k,t,rfl,_,h2⟩:=h;simp [ih h2]
 have hkl:=hk hc
 have hxl:=rv.length
 have s1:=Heap.SameBut.update s.heap a (Obj.mapSeq fun _=>(#[]:Array Value))
 obtain⟨e1,ho1⟩:∃ e1,(s.heap.update a (Obj.mapSeq fun _=>(#[]:Array Value))).get? a=some (seqObj "list" #[] e1):=⟨_,get?_update_seq ho fun _=>#[]⟩
 unfold ksk_tree
 refine wpAny_bind (listItems_at ho rfl ?_)
 refine wpAny_bind (listUpdate_at ho rfl ?_ (by rw [List.size_toArray,sizeLine_eq];omega) (Nat.zero_le _))
 refine wpAny_bind (seqEpoch_at ho1 rfl ?_)
 refine wpAny_bind (wpAny_newTuple ?_ (by show us.length<=_;rw [sizeLine_eq];omega))
 refine wpAny_bind (wpAny_newList ?_ (Nat.zero_le _))
 refine wpAny_holding ?_
 have I1:Inv X pins σ H { s with heap:=s.heap.update a (Obj.mapSeq fun _=>(#[]:Array Value)) }:=I.turned (t':=s.toks) (fun b o hb e=>(s1.2 b hb).trans e) hf.1 hf.2.1 hf.2.2.2.1 hf.2.2.2.2.1 hf.2.2.2.2.2
 have k2:∀ b u,(s.heap.update a (Obj.mapSeq fun _=>(#[]:Array Value))).get? b=some u->(((s.heap.update a (Obj.mapSeq fun _=>(#[]:Array Value))).push (seqObj "tuple" us.toArray 0)).push (seqObj "list" #[] 0)).get? b=some u:=fun b u e=>Heap.get?_push_of_some _ (Heap.get?_push_of_some _ e)
 have I2:Inv X pins σ H { s with heap:=((s.heap.update a (Obj.mapSeq fun _=>(#[]:Array Value))).push (seqObj "tuple" us.toArray 0)).push (seqObj "list" #[] 0) }:=I1.kept (t':=s.toks) k2
 have ho2:=k2 a _ ho1
 have hkS:(((s.heap.update a (Obj.mapSeq fun _=>(#[]:Array Value))).push (seqObj "tuple" us.toArray 0)).push (seqObj "list" #[] 0)).get? ((s.heap.update a (Obj.mapSeq fun _=>(#[]:Array Value))).push (seqObj "tuple" us.toArray 0)).objs.size=some (seqObj "list" ([]:List Value).toArray 0):=Heap.get?_push_size _ rfl
 have hge:s.heap.objs.size<=((s.heap.update a (Obj.mapSeq fun _=>(#[]:Array Value))).push (seqObj "tuple" us.toArray 0)).objs.size:=by rw [size_push',Heap.size_update];omega
 have I3:Inv X (pins++[(a,seqObj "list" #[] e1)]) σ H { s with heap:=((s.heap.update a (Obj.mapSeq fun _=>(#[]:Array Value))).push (seqObj "tuple" us.toArray 0)).push (seqObj "list" #[] 0) }:=I2.zhP fun p hp=>by
  rcases List.mem_append.mp hp with z|z
  ·exact I2.pin p (List.mem_append_right _ z)
  ·have e:p=(a,seqObj "list" #[] e1):=by simpa using z
   subst e
   exact⟨ho2,hf.1,hf.2.1,hf.2.2.1,fun v z=>nomatch z⟩
 have fkS:zgB X (pins++[(a,seqObj "list" #[] e1)]) H ((s.heap.update a (Obj.mapSeq fun _=>(#[]:Array Value))).push (seqObj "tuple" us.toArray 0)).objs.size:=by
  obtain⟨f0,f1,f2,f3,f4,f5⟩:=I.znf hge (I.hok.fresh hge)
  refine⟨f0,f1,f2,f3,f4,fun p hp=>?_⟩
  rw [<- List.append_assoc] at hp
  rcases List.mem_append.mp hp with z|z
  ·exact f5 p z
  ·have e:p=(a,seqObj "list" #[] e1):=by simpa using z
   subst e
   exact Nat.ne_of_lt (Nat.lt_of_lt_of_le (Heap.lt_size ho) hge)
 generalize hks:((s.heap.update a (Obj.mapSeq fun _=>(#[]:Array Value))).push (seqObj "tuple" us.toArray 0)).objs.size=kS at hkS fkS ⊢
 have nka:kS≠a:=fun z=>fkS.2.2.2.2.2 (a,seqObj "list" #[] e1) (List.mem_append_right _ (List.mem_append_right _ (by simp))) z.symm
 clear hge hks k2 I2 I1
 unfold ksk_rest
 refine wpAny_bind (wpAny_rule ?_)
 first
  | rw [List.forIn_toArray]
  | (rw [<- Array.forIn_toList];simp only [List.toList_toArray])
  | rw [<- Array.forIn_toList]
 refine wpAny_bind (wpAny_mono (zkC (E:=E) (H0:=H) (a:=a) (oa:=seqObj "list" #[] e1) (kS:=kS) (f:=f) (Q:=fun s'=>∃ H' done kvs e',Inv X (pins++[(a,seqObj "list" #[] e1)]) σ H' s'/\zaE H H'/\zgB X (pins++[(a,seqObj "list" #[] e1)]) H' kS/\s'.heap.get? kS=some (seqObj "list" (List.toArray done) e')/\Vals kvs done/\zhA H' kd kvs)
  (fun x s' C hx=>?_) us xs kd [] [] [] 0 H _ rv (by simpa using hl) I3 (zaE.refl _) fkS hkS .nil rfl hc fun H' s' d' kv' e' a1 a2 a3 a4 a5 a6=>⟨H',d',kv',e',a1,a2,a3,a4,a5,a6⟩) (fun _ s' hd=>?_) fun _ _ z=>z)
 ·refine wpAny_bind (wpAny_attempt (wpAny_mono hx (fun k s'' hk=>?_) fun _ _ hF=>hF.elim))
  try dsimp only
  exact wpAny_bind (wpAny_mono hk (fun _ s3 h3=>wpAny_pure ⟨rfl,h3⟩) fun _ _ z=>z)
 ·obtain⟨H',done,kvs,e',I4,sm,fk,hk4,rk,ks⟩:=hd
  try dsimp only
  refine wpAny_bind (listItems_at hk4 rfl ?_)
  have hdl:done.length=us.length:=by rw [<- rk.length,ks.len,hkl,hxl]
  obtain⟨pa1,pa2,_⟩:=I4.pin (a,seqObj "list" #[] e1) (List.mem_append_right _ (List.mem_append_right _ (by simp)))
  have tail:∀(st:SortSt) (p:Array Nat),Arr us.length p->Up (ltP kd) p us.length->(arrOf st).map (·.2)=List.toArray (p.toList.map fun i=>us.getD i Value.none)->failedOf st=none ->
    wpAny (model X.prog X.w) X.A (ksk_tail a false e1 (.ref kS) st) P E s':=fun st p ar up har hfl=>by
   have hps:p.size=us.length:=ar.sz
   have hout:(List.toArray (p.toList.map fun i=>us.getD i Value.none)).size=us.length:=by rw [List.size_toArray,List.length_map,Array.length_toList,hps]
   have t1:=Heap.SameBut.update s'.heap kS (Obj.mapSeq fun _=>(#[]:Array Value))
   have na1:(s'.heap.update kS (Obj.mapSeq fun _=>(#[]:Array Value))).get? a=some (seqObj "list" #[] e1):=(t1.2 a nka.symm).trans pa1
   have t2:=Heap.SameBut.update (s'.heap.update kS (Obj.mapSeq fun _=>(#[]:Array Value))) a (Obj.mapSeq fun _=>List.toArray (p.toList.map fun i=>us.getD i Value.none))
   obtain⟨c2,hc2⟩:∃ c2,((s'.heap.update kS (Obj.mapSeq fun _=>(#[]:Array Value))).update a (Obj.mapSeq fun _=>List.toArray (p.toList.map fun i=>us.getD i Value.none))).get? a=some (seqObj "list" (List.toArray (p.toList.map fun i=>us.getD i Value.none)) c2) :=
    ⟨_,get?_update_seq na1 fun _=>List.toArray (p.toList.map fun i=>us.getD i Value.none)⟩
   unfold ksk_tail
   try dsimp only
   rw [har]
   refine wpAny_bind (listUpdate_at hk4 rfl ?_ (by rw [List.size_toArray,sizeLine_eq];omega) (Nat.zero_le _))
   refine wpAny_bind (wpAny_letGo ?_)
   refine wpAny_bind (seqEpoch_at na1 rfl ?_)
   refine wpAny_bind (listUpdate_at na1 rfl ?_ (Nat.zero_le _) (by simp only [Bool.false_eq_true,if_false];rw [hout,sizeLine_eq];omega))
   rw [hfl]
   simp only [bne_self_eq_false,Bool.false_eq_true,if_false]
   have I5:=I4.turned (t':=s'.toks) (fun b o hb e=>(t1.2 b hb).trans e) fk.1 fk.2.1 fk.2.2.2.1 fk.2.2.2.2.1 fk.2.2.2.2.2
   have I6:Inv X pins σ H' { s' with heap:=s'.heap.update kS (Obj.mapSeq fun _=>(#[]:Array Value)) }:=I5.zcO
   refine wpAny_pure (hQ p H' _ ar up sm pa2 (I6.adopt (t':=s'.toks) (fun b u hb e=>(t2.2 b hb).trans e) ⟨pa2,hf.2⟩ ?_))
   have mem:∀ i∈p.toList,i<us.length:=fun i hi=>by
    have:=(Array.perm_iff_toList_perm.mp ar.pm).mem_iff.mp hi
    simpa using this
   exact⟨by rw [List.length_map,Array.length_toList,hps,sizeLine_eq];omega,p.toList.map fun i=>us.getD i Value.none,c2,zke p.toList rv mem,hc2⟩
  unfold ksk_end
  try dsimp only
  simp only [Bool.false_eq_true,if_false]
  by_cases h2:us.toArray.size<2
  ·rw [if_pos h2,if_pos h2]
   rw [List.size_toArray] at h2
   refine wpAny_bind (wpAny_pure ?_)
   rw [StateT.run_pure]
   refine wpAny_bind (wpAny_pure ?_)
   try dsimp only
   refine tail _ (List.toArray (List.range us.length)) (ztq _) (fun i j hij hj=>?_) ?_ rfl
   ·have:i=j:=by omega
    subst this
    exact(zuY kd).refl _
   ·show((done.toArray.zip us.toArray).map (·.2))=_
    apply Array.toList_inj.mp
    rw [Array.toList_map,ksk_zip]
    simp only [List.toList_toArray]
    rw [List.map_snd_zip (by omega)]
    apply List.ext_getElem (by simp)
    intro i h3 h4
    simp [List.getD_eq_getElem?_getD,List.getElem?_eq_getElem h3]
  ·rw [if_neg h2,if_neg h2]
   rw [List.size_toArray] at h2
   have tups:∀{ks:List WK} {kv:List V} {ds:List Value},zhA H' ks kv->Vals kv ds->∃ fs:List Value,KatTups s'.heap ds fs/\fs.length=ds.length/\∀ v∈fs,∃ i t,v=Value.int i t:=by
    intro ks
    induction ks with
    | nil=>intro kv ds h r;have:kv=[]:=h;subst this;cases r;exact⟨[],.nil,rfl,fun v hv=>by simp at hv⟩
    | cons k r0 ih =>
     intro kv ds h r
     obtain⟨v,t,rfl,h1,h2⟩:=h
     cases r with
     | cons r1 r2 =>
      obtain⟨fs,t1,t2,t3⟩:=ih h2 r2
      obtain⟨b,o,n0,c,tk,rfl,g1,g2,g3,_⟩:=zjM I4 h1 r1
      refine⟨.int k.1 tk::fs,.cons g1 g2 g3 rfl t1,by simp [t2],fun v hv=>?_⟩
      rcases List.mem_cons.mp hv with rfl|hv
      ·exact⟨_,_,rfl⟩
      ·exact t3 v hv
   obtain⟨fs,kt,lfs,hfs⟩:=tups ks rk
   refine wpAny_bind (kat_kind (T:=.type "int") kt (by omega) (fun v hv=>by obtain⟨i,t,rfl⟩:=hfs v hv;exact Looks.of_pure rfl) (by decide) ?_)
   rw [show((Value.type "int" != Value.type "tuple"):Bool)=true from by decide]
   refine wpAny_bind (wpAny_mono (kat_run (E:=E) (vs:=us) (ks:=done) (κ:=tuples' true) (Q:=fun st' s2=>s2=s'/\∃ p:Array Nat,Arr us.length p/\Up (ltP kd) p us.length/\arrOf st'=p.map (kas_item (done.toArray.zip us.toArray))/\failedOf st'=none) hdl (by omega) hl
    (G:=fun p s2=>s2=s'/\Arr us.length p/\Up (ltP kd) p us.length) (fun p st' s2 a1 a2 a3 a4=>⟨a4.1,p,a4.2.1,a4.2.2,a2,a3⟩) ?_) ?_ fun _ _ z=>z)
   ·refine zp3 (P:=fun s2=>s2=s') (zuY kd) (fun i j C s2 hi hj es hC=>?_) (by omega) rfl fun p s2 es ar up=>⟨es,ar,up⟩
    subst es
    have hget:∀ i,i<us.length->∃ v u,kvs[i]?=some v/\RelV v u/\done.getD i Value.none=u:=fun i hi=>by
     have hi':i<kvs.length:=by rw [rk.length];omega
     obtain⟨u,eu,ru⟩:=rk.get (List.getElem?_eq_getElem hi')
     exact⟨_,u,List.getElem?_eq_getElem hi',ru,by rw [List.getD_eq_getElem?_getD,eu];rfl⟩
    obtain⟨v,u,g1,g2,g3⟩:=hget i hi
    obtain⟨v',u',g1',g2',g3'⟩:=hget j hj
    show wpAny _ _ (keyLt' (tuples' true) (done.getD i Value.none) (done.getD j Value.none)) _ _ _
    rw [g3,g3']
    exact zsT hu I4 (ks.get g1) (ks.get g1') g2 g2' (hC _ rfl)
   ·rintro⟨⟨⟩,st'⟩ s2 ⟨es,p,ar,up,har,hfl⟩
    have es':s2=s':=es
    subst es'
    try dsimp only
    exact tail st' p ar up (kat_snds hdl har) hfl
end
end L2
namespace L2
open PySem PySem.Spec PyProof.Rows PySem.W
def KTs(H:Hp):List (List Key×V)->List V->Prop
 | [],xs=>xs=[]
 | kv::r,xs=>∃ b t,xs=.ref b::t/\TAt H b (kv.1.map kV)/\KTs H r t
def znI(H:Hp)(d:Addr)(xs:List V):Prop:=(∃ kvs,Rd H d (.dT kvs)/\KTs H kvs xs)\/∃ kvs:List (Key×V),Rd H d (.dK kvs)/\xs=kvs.map fun kv=>kV kv.1
section
variable {X:Cx}{pins:List (Addr×Obj)}{σ:L2.St}{H:Hp}{s:Shared}{d f:Addr}
theorem zpy:∀{kvs:List (List Key×V)} {ys:List (List Key×Addr×Value)},KT H kvs ys->KTs H kvs (ys.map fun y=>V.ref y.2.1)
 | [],_,.nil=>rfl
 | kv::r,_,.cons h t=>⟨_,_,rfl,h.2.1,zpy t⟩
theorem zo4{A:Around}{E:Value->Shared->Prop}{Q:List Value->Shared->Prop}(hh:A.handled=none)(I:Inv X pins σ H s)(rd:IsD H d)(hn:∀ xs,znI H d xs->xs.length<64)
  (hQ:∀ xs us s',znI H d xs->Vals xs us->Inv X pins σ H s'->Q us s'):wpAny (model X.prog X.w) A (collect (.ref d)) Q E s:=by
 have fin:∀(s':Shared),(∀ b o,s.heap.get? b=some o->s'.heap.get? b=some o)->s'.gens=s.gens->s'.drawn=s.drawn->s'.os=s.os->Inv X pins σ H s':=fun s' k g dr os=>by
  obtain⟨h,g',dr',tk,os'⟩:=s'
  simp only at g dr os
  subst g;subst dr;subst os
  exact I.kept (t':=tk) k
 rcases rd with⟨kvs,rd⟩|⟨kvs,rd⟩
 ·obtain⟨z,sy,vs,rel,dd⟩:=zlK I.hok rd
  obtain⟨ep,da⟩:=dd.dictAt
  have lk:=hn _ (.inr ⟨kvs,rd,rfl⟩)
  rw [List.length_map] at lk
  have lv:kvs.length=vs.length:=rel.length
  refine zi1 hh sy da (by omega) fun s' acc hk hg hd ho hsz hacc=>hQ (kvs.map fun kv=>kV kv.1) _ s' (.inr ⟨kvs,rd,rfl⟩) ?_ (fin s' hk hg hd ho)
  have la:acc.toList.length=vs.length:=by rw [Array.length_toList];exact hacc.1
  refine zjp (by rw [List.length_map];omega) fun j x v ex ev=>?_
  rw [Array.getElem?_toList] at ev
  obtain⟨k,y,e1,e2⟩:=hacc.2 j v ev
  have lj:j<vs.length:=Nat.lt_of_not_le fun c=>by rw [List.getElem?_eq_none c] at e1;cases e1
  have lj':j<kvs.length:=lv▸lj
  obtain⟨⟨k',y'⟩,e3,e4,_⟩:=zg7 rel (List.getElem?_eq_getElem lj')
  rw [e1] at e3
  cases e3
  rw [List.getElem?_map,List.getElem?_eq_getElem lj'] at ex
  cases ex
  show RelV (kV kvs[j].1) v
  rw [show kvs[j].1=k from e4]
  exact zn4 e2
 ·obtain⟨z,sy,ys,kt,o,es,ep,e',r1,r2,r3,r4⟩:=zlI I.hok rd
  have ks:=zpy kt
  have lk:=hn _ (.inl ⟨kvs,rd,ks⟩)
  have ly:kvs.length=ys.length:=Paired.length kt
  have hsz:es.size=ys.length:=size_of_entries r3
  rw [List.length_map] at lk
  refine zo3 hh sy ⟨o,e',r1,r2⟩ (by omega) fun s' acc hk hg hd ho hs hacc=>hQ _ _ s' (.inl ⟨kvs,rd,ks⟩) ?_ (fin s' hk hg hd ho)
  have la:acc.toList.length=es.size:=by rw [Array.length_toList];exact hacc.1
  refine zjp (by rw [List.length_map];omega) fun j x v ex ev=>?_
  rw [Array.getElem?_toList] at ev
  obtain⟨hj,rfl⟩:=hacc.2 j v ev
  have lj:j<ys.length:=by omega
  rw [List.getElem?_map,List.getElem?_eq_getElem lj] at ex
  cases ex
  have:=entry_at r3 j
  rw [List.getElem?_eq_getElem lj,Array.getElem?_eq_getElem hj] at this
  simp only [Option.map_some,Option.some.injEq] at this
  rw [this]
  rfl
theorem zi2{Q:VK}{E:Value->Shared->Prop}(hu:X.A.units+3<cLine)(hc:X.calm=true)(I:Inv X pins σ H s)(rd:IsD H d)(hn:∀ xs,znI H d xs->xs.length<64)
  (h:∀ xs,znI H d xs->∃ kd,zgs X.in1.in1 σ H f xs kd/\∀(p:Array Nat) (a:Addr) (H':Hp),Arr xs.length p->Up (ltP kd) p xs.length->zaE H H'->H' a=none->Q (.ref a) (upd H' a (.lst (p.toList.map fun i=>xs.getD i .non)))) :
  wpAny (model X.prog X.w) X.A (call (.builtin "sorted") [.ref d] [(Str.ofString "key",.ref f)]) (EP X pins σ Q) E s:=by
 refine call_function_entry_kw kind_sorted plain_sorted entry_sorted (ksk_s1 _ _) ?_
 unfold Builtin.«sorted»
 refine wpAny_bind (m:=checkCount "sorted" 1 1 _) (wpAny_pure ?_)
 refine wpAny_bind (zo4 (show X.A.in1.handled=none from I.ok.hd hc) I rd hn fun xs us s1 dk rv I1=>?_)
 have hx:=hn xs dk
 have hxl:=rv.length
 obtain⟨kd,kc,hq⟩:=h xs dk
 refine wpAny_bind (wpAny_newList ?_ (by rw [sizeLine_eq];omega))
 have hoL:(s1.heap.push (seqObj "list" us.toArray 0)).get? s1.heap.objs.size=some (seqObj "list" us.toArray 0):=Heap.get?_push_size _ rfl
 have I2:Inv X pins σ H { s1 with heap:=s1.heap.push (seqObj "list" us.toArray 0) }:=I1.kept (t':=s1.toks) fun b u e=>Heap.get?_push_of_some _ e
 have fa:zgB X pins H s1.heap.objs.size:=I1.znf (Nat.le_refl _) (I1.hok.fresh (Nat.le_refl _))
 refine wpAny_bind (wpAny_holding (wpAny_call_entry_kw slot_list_sort ⟨_,hoL,rfl⟩ entry_list_sort ?body (ksk_l1 _ _)))
 case body =>
  show wpAny (model X.prog X.w) X.in1.in1.A (Builtin.«list.sort» ⟨[.ref s1.heap.objs.size],[(Str.ofString "key",.ref f)]⟩) _ _ _
  rw [ksk_t1]
  refine ziw (X:=X.in1.in1) (by show X.A.units+1+1+1<cLine;omega) I2.in1.in1 hoL fa rv (by omega) kc fun p H' s' ar up sm ha I3=>⟨_,rfl,?_⟩
  refine wpAny_pure ⟨_,rfl,.ref s1.heap.objs.size,_,I3.zro.zro,rfl,hq p _ H' (by rw [hxl];exact ar) (by rw [hxl];exact up) sm ha⟩
end
end L2
namespace FL
open PySem L2 PySem.Spec
open PyProof.Rows hiding St
variable [Cs]
theorem zhe(p q:WK):ltW p q=L2.ltK p q:=by
 unfold ltW L2.ltK
 rw [zhW]
theorem zmT:∀ a b:List Int,HT.lexLt a b=false->HT.lexLt b a=false->a=b
 | [],[],_,_=>rfl
 | [],_::_,h,_=>by cases h
 | _::_,[],_,h=>by cases h
 | x::xs,y::ys,h1,h2=>by
  simp only [HT.lexLt] at h1 h2
  by_cases c:x=y
  ·subst c
   rw [if_pos rfl] at h1 h2
   rw [zmT xs ys h1 h2]
  ·rw [if_neg c] at h1
   rw [if_neg (Ne.symm c)] at h2
   have a1:=of_decide_eq_false h1
   have a2:=of_decide_eq_false h2
   omega
theorem zmR(p q:WK)(h1:L2.ltK p q=false)(h2:L2.ltK q p=false):p=q:=by
 unfold L2.ltK at h1 h2
 by_cases c:p.1=q.1
 ·rw [if_pos c] at h1
  rw [if_pos c.symm] at h2
  exact Prod.ext c (zmT _ _ h1 h2)
 ·rw [if_neg c] at h1
  rw [if_neg (Ne.symm c)] at h2
  have a1:=of_decide_eq_false h1
  have a2:=of_decide_eq_false h2
  omega
def LeP(x y:WK×D):Prop:=L2.ltK y.1 x.1=false
theorem zoT{x z:WK×D}{l:List (WK×D)}(h:z∈zkG x l):z=x\/z∈l:=by
 have:=(zf7 x l).mem_iff.mp h
 simpa using this
theorem zf6(x:WK×D):∀ l:List (WK×D),l.Pairwise LeP->(zkG x l).Pairwise LeP
 | [],_=>by simp [zkG]
 | y::r,h=>by
  unfold zkG
  rw [List.pairwise_cons] at h
  split
  ·rename_i c
   rw [zhe] at c
   rw [List.pairwise_cons]
   refine⟨fun z hz=>?_,zf6 x r h.2⟩
   rcases zoT hz with rfl|hz
   ·exact zhf _ _ c
   ·exact h.1 z hz
  ·rename_i c
   rw [zhe] at c
   have c':L2.ltK y.1 x.1=false:=by simpa using c
   rw [List.pairwise_cons]
   refine⟨fun z hz=>?_,List.pairwise_cons.mpr h⟩
   rcases List.mem_cons.mp hz with rfl|hz
   ·exact c'
   ·exact zmQ _ _ _ c' (h.1 z hz)
theorem zec:∀ l:List (WK×D),(zdk l).Pairwise LeP
 | []=>.nil
 | x::r=>zf6 x _ (zec r)
theorem zfN{α:Type}{le:α->α->Prop}:∀{l1 l2:List α},l1.Perm l2->l1.Pairwise le->l2.Pairwise le->(∀ a∈l1,∀ b∈l1,le a b->le b a->a=b)->l1=l2
 | [],l2,h,_,_,_=>(List.nil_perm.mp h).symm
 | a::r1,[],h,_,_,_=>by have:=h.length_eq;simp at this
 | a::r1,b::r2,h,p1,p2,an=>by
  rw [List.pairwise_cons] at p1 p2
  have e:a=b:=by
   have ha:a∈b::r2:=h.mem_iff.mp (List.mem_cons_self ..)
   have hb:b∈a::r1:=h.mem_iff.mpr (List.mem_cons_self ..)
   rcases List.mem_cons.mp ha with e|ha'
   ·exact e
   rcases List.mem_cons.mp hb with e|hb'
   ·exact e.symm
   exact an a (List.mem_cons_self ..) b (List.mem_cons_of_mem _ hb') (p1.1 b hb') (p2.1 a ha')
  subst e
  rw [zfN ((List.perm_cons a).mp h) p1.2 p2.2 fun x hx y hy=>an x (List.mem_cons_of_mem _ hx) y (List.mem_cons_of_mem _ hy)]
theorem zfD:∀{ws:List WK} {ks:List D} {x y:WK×D},ws.Nodup->x∈ws.zip ks->y∈ws.zip ks->x.1=y.1->x=y
 | [],ks,x,y,_,h,_,_=>by simp at h
 | _::_,[],x,y,_,h,_,_=>by simp at h
 | w::ws,k::ks,x,y,nd,h1,h2,e=>by
  rw [List.nodup_cons] at nd
  rw [List.zip_cons_cons] at h1 h2
  rcases List.mem_cons.mp h1 with rfl|h1
  ·rcases List.mem_cons.mp h2 with rfl|h2
   ·rfl
   ·exact absurd (by rw [show w=y.1 from e];exact(List.of_mem_zip h2).1) nd.1
  ·rcases List.mem_cons.mp h2 with rfl|h2
   ·exact absurd (by rw [show w=x.1 from e.symm];exact(List.of_mem_zip h1).1) nd.1
   ·exact zfD nd.2 h1 h2 e
theorem zmh(ws:List WK)(ks:List D)(h:ws.length=ks.length):(List.range ks.length).map (fun i=>(ws.getD i (0,[]),ks.getD i PyData.none))=ws.zip ks:=by
 apply List.ext_getElem
 ·simp [h]
 ·intro i h1 h2
  have hi:i<ks.length:=by simpa using h1
  have hi':i<ws.length:=by omega
  simp [List.getD_eq_getElem?_getD,List.getElem?_eq_getElem hi,List.getElem?_eq_getElem hi']
theorem ziv{ws:List WK}{ks:List D}{p:Array Nat}(hl:ws.length=ks.length)(nd:ws.Nodup)(ar:Arr ks.length p)(up:Up (ltP ws) p ks.length):p.toList.map (fun i=>ks.getD i PyData.none)=(zdk (ws.zip ks)).map (·.2):=by
 have hp:(p.toList.map fun i=>(ws.getD i (0,[]),ks.getD i PyData.none)).Perm (ws.zip ks):=by
  have:=(Array.perm_iff_toList_perm.mp ar.pm).map fun i=>(ws.getD i (0,[]),ks.getD i PyData.none)
  rw [List.toList_toArray,zmh ws ks hl] at this
  exact this
 have e:(p.toList.map fun i=>(ws.getD i (0,[]),ks.getD i PyData.none))=zdk (ws.zip ks):=by
  refine zfN (hp.trans (zf3 _).symm) ?_ (zec _) fun x hx y hy h1 h2=>?_
  ·rw [List.pairwise_iff_getElem]
   intro i j hi hj hij
   have hi':i<p.size:=by simpa using hi
   have hj':j<p.size:=by simpa using hj
   have:=up i j (Nat.le_of_lt hij) (by rw [<- ar.sz];exact hj')
   rw [show gp p i=p[i] by simp [gp,Array.getD,hi'],show gp p j=p[j] by simp [gp,Array.getD,hj']] at this
   simpa [LeP,ltP] using this
  ·exact zfD nd (hp.mem_iff.mp hx) (hp.mem_iff.mp hy) (zmR _ _ h2 h1)
 rw [<- e,List.map_map]
 rfl
section
variable {K:PySem.W.Frag}{X:Cx}{H:Hp}
theorem zpz:∀{kvs:List (D×D)} {kk:List (List Key×V)} {xs:List V},zcw K H kvs kk->KTs H kk xs->zaf K H (kvs.map (·.1)) xs
 | [],kk,xs,h,t=>by
  simp only [zcw] at h
  subst h
  have:xs=[]:=t
  subst this
  simp [zaf]
 | (k,d)::r,kk,xs,h,t=>by
  simp only [zcw] at h
  obtain⟨q,v,t',rfl,rfl,f,h2⟩:=h
  obtain⟨b,u,rfl,tb,t2⟩:=t
  simp only [List.map_cons,zaf]
  exact⟨_,_,rfl,zq5 tb,zpz h2 t2⟩
theorem zpC:∀{kvs:List (D×D)} {kk:List (Key×V)},zcx K H kvs kk->zaf K H (kvs.map (·.1)) (kk.map fun kv=>kV kv.1)
 | [],kk,h=>by simp only [zcx] at h;subst h;simp [zaf]
 | (k,d)::r,kk,h=>by
  simp only [zcx] at h
  obtain⟨q,v,t',rfl,rfl,f,h2⟩:=h
  simp only [List.map_cons,zaf]
  exact⟨_,_,rfl,zs8,zpC h2⟩
theorem zh6{kvs:List (D×D)}{d:Addr}{xs:List V}(h:Fz K H (.dict kvs) (.ref d))(t:znI H d xs):zaf K H (kvs.map (·.1)) xs:=by
 simp only [Fz] at h
 obtain⟨a,o,e,h⟩:=h
 cases e
 rcases h with⟨kk,h1,h2⟩|⟨kk,h1,h2⟩
 ·rcases t with⟨kk',rd,t⟩|⟨kk',rd,t⟩
  ·have:kk'=kk:=by
    rcases rd with z|⟨o',z⟩
    ·rw [h1] at z;cases z
    ·rw [h1] at z;cases z;rfl
   subst this
   exact zpz h2 t
  ·rcases rd with z|⟨o',z⟩
   ·rw [h1] at z;cases z
   ·rw [h1] at z;cases z
 ·rcases t with⟨kk',rd,t⟩|⟨kk',rd,t⟩
  ·rcases rd with z|⟨o',z⟩
   ·rw [h1] at z;cases z
   ·rw [h1] at z;cases z
  ·have:kk'=kk:=by
    rcases rd with z|⟨o',z⟩
    ·rw [h1] at z;cases z
    ·rw [h1] at z;cases z;rfl
   subst this
   subst t
   exact zpC h2
theorem zs9{kvs:List (D×D)}{d:Addr}(h:Fz K H (.dict kvs) (.ref d)):IsD H d:=by
 simp only [Fz] at h
 obtain⟨a,o,e,h⟩:=h
 cases e
 rcases h with⟨kk,h1,h2⟩|⟨kk,h1,h2⟩
 ·exact .inr ⟨kk,.inr ⟨o,h1⟩⟩
 ·exact .inl ⟨kk,.inr ⟨o,h1⟩⟩
theorem zry{kd:D}{w:WK}{v:V}(e:zrz kd=some w)(f:Fz K H kd v):zeQ H w v:=by
 unfold zrz at e
 split at e
 ·rename_i n xs
  rw [Option.map_eq_some_iff] at e
  obtain⟨w0,e0,rfl⟩:=e
  simp only [Fz,zaf] at f
  obtain⟨b,vs,rfl,tb,v1,r1,rfl,rfl,v2,r2,rfl,⟨c,ws,rfl,tc,fw⟩,rfl⟩:=f
  obtain⟨rfl,_⟩:=zaf.ints fw e0
  exact⟨b,c,rfl,tb,tc⟩
 ·cases e
theorem zfZ{p1:Str}{k:Nat}{f:Addr}{fd:FuncData}{G:List D->R D}{σ:L2.St}(hr:zbZ k X.A)(hb:Binds X.K fd [p1] [])(F:zhB X.prog X.w X.K X.mg X.base (CXe X.prog X.w) k f fd [p1] (spP X.K 1 false G))(cst:zpP H) :
  ∀{ds:List D} {xs:List V} {ws:List WK},zaf X.K H ds xs->zc7 G ds=.ok ws->zgs X σ H f xs ws
 | [],xs,ws,h,e=>by
  simp only [zaf] at h
  subst h
  cases e
  rfl
 | d::ds,xs,ws,h,e=>by
  simp only [zaf] at h
  obtain⟨v,r,rfl,h1,h2⟩:=h
  obtain⟨kd,e1,e⟩:=zaj (show(G [d]).bind _=.ok ws from e)
  obtain⟨w,e2,e⟩:=zaj e
  obtain⟨ws',e3,e⟩:=zaj e
  cases e
  refine⟨w,ws',rfl,fun u pins' H' s' ru sm I=>?_,zfZ hr hb F cst h2 e3⟩
  have hl:([u]++([]:List Value)).length=[p1].length:=rfl
  refine wpAny_call (codeAny_mono (F.run X.A X.stack s' H' ⟨[u],[]⟩ ([u]++[]) [v] (fun k H''=>zaE H' H''/\zeQ H'' w k) (fun _ _ _=>False) hr I.env0 (hb s' [u] I.kIn hl) (.cons ru .nil) ?_) fun r s2 hq=>?_)
  ·refine⟨[d],rfl,cst.mono (Fzn.of sm),?_,kd,e1,fun k H'' sm2 fz=>⟨sm2,zry (zg8 e2) fz⟩⟩
   simp only [zaf]
   exact⟨v,[],rfl,h1.mono (Fzn.of sm),rfl⟩
  ·cases r with
   | error ev =>
    obtain⟨_,_,_,_,_,_,_,_,_,_,_,_,_,_,_,z⟩:=(show CXe X.prog X.w X.stack H' s' (fun _ _ _=>False) ev s2 from hq)
    exact z.elim
   | ok fl =>
    cases fl with
    | ret u=>exact I.after hq
    | next=>exact False.elim hq
    | brk=>exact False.elim hq
    | cont=>exact False.elim hq
theorem zaf.pick{ds:List D}{xs:List V}(h:zaf K H ds xs):∀(p:List Nat),(∀ i∈p,i<ds.length)->zaf K H (p.map fun i=>ds.getD i PyData.none) (p.map fun i=>xs.getD i .non)
 | [],_=>by simp [zaf]
 | i::p,hp=>by
  simp only [List.map_cons,zaf]
  have hi:=hp i (List.mem_cons_self ..)
  obtain⟨v,ev,fv⟩:=h.get (List.getElem?_eq_getElem hi)
  refine⟨_,_,rfl,?_,zaf.pick h p fun j hj=>hp j (List.mem_cons_of_mem _ hj)⟩
  rw [List.getD_eq_getElem?_getD,List.getD_eq_getElem?_getD,ev,List.getElem?_eq_getElem hi]
  exact fv
theorem ziD{x p1:Str}{k j:Nat}{G:List D->R D}{e:Expr}{f:EF}{p px kp pos:Pos}(c:Callee X.prog X.w X.K X.mg X.base x k [p1] (spP X.K 1 false G))(hr:zbZ j X.A)(hc:X.calm=true)(hgs:Gl X "sorted") (hms:X.mg "sorted"=none) (hgx:Gl X x) (he:PV K X e f) (hj:k+2<=j:=by decide)
  (hv:bootBuiltins "sorted"=some (.builtin "sorted"):=by decide +kernel) (hdx:(x==("__debug__":Str))=false:=by decide) (hs:starEach [e] X.env=(false,eval e X.env)::starEach [] X.env:=by rfl)
  (hst:backTo pos (starEach [e] X.env)=(false,eval e X.env)::backTo pos (starEach [] X.env):=by rfl) (hpl:(backTo pos (starEach [e] X.env)).any (·.1)=false:=by rfl) :
  PVN K X (.Call (.Name "sorted" p) [e] [⟨some "key",.Name x px,kp⟩] pos) (e1 (ze2 G) f):=fun hK=>by
 subst hK
 obtain⟨fa,fd,hm,hkp,hb,F⟩:=c
 intro pins s σ H Q I h
 obtain⟨ρ,rel,q⟩:=h
 have q0:(tA X.K (zac f zal)) σ H fun vs H1=>∃ dd v ρ1,vs=[v]/\Rel X.K ρ1 σ H1/\Stp ρ ρ1 σ H H1/\Fz X.K H1 dd v/\Good X.K ρ1 σ H1 ((ze2 G dd).bind fun d=>.ok (d,ρ1)) fun d ρ' H'=>∀ a,H a=none->zbF X.K H' a d->Q (.ref a) H':=by
  obtain⟨y,ey,q⟩:=q.bnd
  refine⟨ρ,rel,?_⟩
  show Good X.K ρ σ H ((f ρ).bind fun x=>(zal x.2).bind fun y=>.ok (x.1::y.1,y.2)) _
  rw [ey]
  intro H1 rel1 st1 vs fs
  simp only [zaf] at fs
  obtain⟨v,r,rfl,fv,rfl⟩:=fs
  exact⟨y.1,v,y.2,rfl,rel1,st1,fv,q.step st1⟩
 refine wpAny_Call_Name_kw (zfX I hgs hms hv ?_)
 refine callWith_kw (thn ((zcd he zcp hs rfl) pos pins s σ H _ I q0) fun us s1 ⟨vs,H1,I1,r1,dd,v,ρ1,evs,rel1,st1,fv,q1⟩=>?_) hst hpl rfl rfl
 subst evs
 cases r1 with
 | cons ru rn =>
  cases rn
  refine kws_cons (zh0 I1 hgx hm (kws_nil ?_) hdx)
  obtain⟨dr,edr,q2⟩:=q1.zdA
  obtain⟨ks,e1,edr⟩:=zaj (show(zdT dd).bind _=.ok dr from edr)
  obtain⟨cl,edr⟩:=zap edr
  obtain⟨ws,e2,edr⟩:=zaj edr
  obtain⟨cn,edr⟩:=zap edr
  cases edr
  cases dd with
  | dict kvs =>
   cases e1
   have hd:∃ d,v=.ref d:=by
    simp only [Fz] at fv
    obtain⟨a,_,e,_⟩:=fv
    exact⟨a,e⟩
   obtain⟨d,rfl⟩:=hd
   cases ru
   have hlen:(kvs.map (·.1)).length<64:=zbK cl
   have hu:=hr.un
   have hu:X.A.units+3<cLine:=by omega
   have rr:zbZ k X.in1.in1.A:=((hr.mono hj:zbZ (k+1+1) X.A).in1).in1
   have wlen:∀{ds:List D} {ws:List WK},zc7 G ds=.ok ws->ws.length=ds.length:=by
    intro ds
    induction ds with
    | nil=>intro ws h;cases h;rfl
    | cons d0 r0 ih =>
     intro ws h
     obtain⟨_,_,h⟩:=zaj (show(G [d0]).bind _=.ok ws from h)
     obtain⟨_,_,h⟩:=zaj h
     obtain⟨ws',e3,h⟩:=zaj h
     cases h
     simp [ih e3]
   have wl:=wlen e2
   refine zi2 (f:=fa) hu hc I1 (zs9 fv) (fun xs dk=>by rw [(zh6 fv dk).len];exact hlen) fun xs dk=>⟨ws,zfZ (X:=X.in1.in1) rr hb F rel1.cst (zh6 fv dk) e2,fun pp a H' ar up sm ha=>?_⟩
   have fx:=zh6 fv dk
   rw [fx.len] at ar up
   have su:=ziv wl (of_decide_eq_true cn) ar up
   have sm2:zaE H1 (upd H' a (.lst (pp.toList.map fun i=>xs.getD i .non))):=zer sm (zaE.upd ha)
   refine q2.new rel1 sm2 a ?_ ?_
   ·have h1a:H1 a=none:=by
     cases e0:H1 a with
     | none=>rfl
     | some o=>rw [sm a o e0] at ha;cases ha
    exact st1.old rel1 h1a
   ·refine⟨_,zak,?_⟩
    rw [<- su]
    refine(fx.mono (Fzn.of sm2)).pick pp.toList fun i hi=>?_
    have:=(Array.perm_iff_toList_perm.mp ar.pm).mem_iff.mp hi
    simpa using this
  | _=>cases e1
end
end FL
namespace L2
open PySem PySem.Spec PyProof.Rows PySem.W
end L2
namespace FL
open PySem L2 PySem.Spec
open PyProof.Rows hiding St
variable [Cs]
section
variable {K:PySem.W.Frag}{X:Cx}{e ke ve:Expr}{f k v:EF}{pos p2:Pos}
theorem zpo(hu:X.A.units+80<cLine):OpR X (compareOp .In) (rD X.K zrq):=by
 intro pins s σ H x y v u Q I rx ry h
 obtain⟨dx,dy,d,tx,ty,e,q⟩:=h
 cases dy with
 | list xs =>
  obtain⟨c,e⟩:=zap (show chk _ _=.ok d from e)
  cases e
  rw [Bool.and_eq_true] at c
  obtain⟨as,ra⟩:=Is.reads I _ y u (ty.is (SeqAt.canLay_of_shaped c.1)) ry
  obtain⟨bs,rb⟩:=Is.reads I _ x v (tx.is (SeqAt.canLay_of_shaped c.2)) rx
  exact SeqAt.in_list_reads ra rb (SeqAt.canLay_of_shaped c.1) (SeqAt.canLay_of_shaped c.2) (room_in_shaped c.2 (by omega)) ⟨.bl _,H,I,rfl,q _ H (zaE.refl _) (by simp [Fz])⟩
 | tuple xs =>
  obtain⟨c,e⟩:=zap (show chk _ _=.ok d from e)
  cases e
  rw [Bool.and_eq_true] at c
  obtain⟨as,ra⟩:=Is.reads I _ y u (ty.is (SeqAt.canLay_of_shaped c.1)) ry
  obtain⟨bs,rb⟩:=Is.reads I _ x v (tx.is (SeqAt.canLay_of_shaped c.2)) rx
  exact SeqAt.in_tuple_reads ra rb (SeqAt.canLay_of_shaped c.1) (SeqAt.canLay_of_shaped c.2) (room_in_shaped c.2 (by omega)) ⟨.bl _,H,I,rfl,q _ H (zaE.refl _) (by simp [Fz])⟩
 | _=>exact nomatch (show(R.bad:R D)=.ok d from e)
end
end FL
namespace FL
open PySem L2 PySem.Spec
open PyProof.Rows hiding St
def zeo(cs:List Addr)(K:PySem.W.Frag):PySem.W.Frag:=K.filter fun p=>!cs.contains p.1
theorem zdz(cs:List Addr):∀(K:PySem.W.Frag) (b:Addr),(zeo cs K).lookup b=if cs.contains b=true then none else K.lookup b
 | [],b=>by simp [zeo]
 | (c,o)::K,b=>by
  have ih:=zdz cs K b
  unfold zeo at ih ⊢
  rw [List.filter_cons]
  by_cases hc:cs.contains c=true
  ·rw [if_neg (by simp only [hc];decide),ih]
   by_cases hb:cs.contains b=true
   ·rw [if_pos hb,if_pos hb]
   ·have ne:b≠c:=fun z=>by rw [z] at hb;exact hb hc
    rw [if_neg hb,if_neg hb]
    simp [List.lookup_cons,show(b==c)=false from by simpa using ne]
  ·have hc':cs.contains c=false:=by simpa using hc
   rw [if_pos (by simp only [hc'];decide)]
   by_cases e:b=c
   ·subst e
    rw [if_neg hc]
    simp [List.lookup_cons]
   ·have e':(b==c)=false:=by simpa using e
    rw [List.lookup_cons,List.lookup_cons,e']
    exact ih
theorem zpM{cs:List Addr}{K:PySem.W.Frag}{h:Heap}(x:K.In h):(zeo cs K).In h:=fun a o e=>by
 rw [zdz] at e
 split at e
 ·cases e
 ·exact x a o e
def zrv(cs:List Addr)(K:PySem.W.Frag):Prop:=∀ c∈cs,∃ o its n,K.lookup c=some o/\o.data=Data.seq its n
theorem zkS{cs:List Addr}{K:PySem.W.Frag}(s:zrv cs K){b:Addr}{o:Obj}(e:K.lookup b=some o)(n:∀ its m,o.data≠.seq its m):(zeo cs K).lookup b=some o:=by
 rw [zdz,if_neg,e]
 intro c
 obtain⟨o',its,m,e',d⟩:=s b (by simpa using c)
 rw [e] at e'
 cases e'
 exact n _ _ d
theorem zlL{cs:List Addr}{K:PySem.W.Frag}(s:zrv cs K){cd:Value}{q:Str}(h:PySem.W.codeIn K cd q=true):PySem.W.codeIn (zeo cs K) cd q=true:=by
 cases cd with
 | ref c =>
  unfold PySem.W.codeIn at h ⊢
  cases e:K.lookup c with
  | none=>simp only [e] at h;cases h
  | some o =>
   obtain⟨oc,od,data,sl⟩:=o
   cases data with
   | fields vs =>
    simp only [e] at h
    simp only [zkS s e fun _ _ z=>nomatch z]
    exact h
   | _=>simp only [e] at h;cases h
 | _=>cases h
theorem Fun.cut{cs:List Addr}{K:PySem.W.Frag}(s:zrv cs K){x q:Str}{st:Stmt}{f:Addr}{fd:FuncData}(F:Fun K x q st f fd):Fun (zeo cs K) x q st f fd:=by
 obtain⟨⟨oc,od,kV,doc,pm,an,cdv,ct,osl,e,l,c⟩,kp⟩:=F
 have l':=zkS s l fun _ _ z=>nomatch z
 refine⟨⟨oc,od,kV,doc,pm,an,cdv,ct,osl,e,l',zlL s c⟩,?_⟩
 unfold PySem.W.keepIn
 simp only [l']
theorem Has.cut{cs:List Addr}{K:PySem.W.Frag}{mg:Str->Option Value}(s:zrv cs K){x:Str}{st:Stmt}(h:Has K mg x st):Has (zeo cs K) mg x st:=by
 obtain⟨f,fd,hm,F⟩:=h
 exact⟨f,fd,hm,Fun.cut s F⟩
abbrev CL:=List (Addr×Obj×List V)
def zjj(cl:CL):Hp:=fun b=>(cl.lookup b).map fun p=>.frz p.1 (.tup p.2)
@[reducible] def zrt(cl:CL):Cs:=⟨zjj cl,fun a u h=>by
 unfold zjj at h
 rw [Option.map_eq_some_iff] at h
 obtain⟨p,_,rfl⟩:=h
 exact⟨_,_,rfl⟩⟩
def zjn(cl:CL)(K:PySem.W.Frag):Prop:=∀ p∈cl,K.lookup p.1=some p.2.1/\p.2.1.cls=.type "tuple"/\p.2.2.length<=sizeLine/\∃(its:Array Value) (n:Nat),p.2.1.data=.seq its n/\Vals p.2.2 its.toList
theorem zjn.nil{K:PySem.W.Frag}:zjn [] K:=fun p hp=>by simp at hp
theorem zjn.cons{K:PySem.W.Frag}{a:Addr}{od:Option Addr}{its:Array Value}{n:Nat}{sl:Array (Option Value)}{xs:List V}{cl:CL}(e:K.lookup a=some ⟨.type "tuple",od,.seq its n,sl⟩) (hv:Vals xs its.toList) (hl:xs.length<=1000) (r:zjn cl K):zjn ((a,⟨.type "tuple",od,.seq its n,sl⟩,xs)::cl) K:=fun p hp=>by
 rcases List.mem_cons.mp hp with rfl|hp
 ·exact⟨e,rfl,Nat.le_of_lt (zl8 hl),its,n,rfl,hv⟩
 ·exact r p hp
theorem zjn.seqs{cl:CL}{K:PySem.W.Frag}(h:zjn cl K):zrv (cl.map (·.1)) K:=fun c hc=>by
 obtain⟨p,hp,rfl⟩:=List.mem_map.mp hc
 obtain⟨e,_,_,its,n,d,_⟩:=h p hp
 exact⟨_,its,n,e,d⟩
theorem mem_of_lookup{α:Type}:∀{l:List (Addr×α)} {a:Addr} {x:α},l.lookup a=some x->(a,x)∈l
 | [],a,x,h=>by simp at h
 | (b,y)::r,a,x,h=>by
  rw [List.lookup_cons] at h
  cases e:a==b with
  | true =>
   rw [e] at h
   cases h
   have:=eq_of_beq e
   subst this
   exact List.mem_cons_self ..
  | false =>
   rw [e] at h
   exact List.mem_cons_of_mem _ (mem_of_lookup h)
theorem zhk{cl:CL}{K:PySem.W.Frag}(h:zjn cl K){b:Addr}{u:HO}(e:zjj cl b=some u):(zeo (cl.map (·.1)) K).lookup b=none/\∃(o:Obj) (xs:List V) (its:Array Value) (n:Nat),u=.frz o (.tup xs)/\K.lookup b=some o/\o.cls=.type "tuple"/\o.data=.seq its n/\xs.length<=sizeLine/\Vals xs its.toList:=by
 unfold zjj at e
 rw [Option.map_eq_some_iff] at e
 obtain⟨⟨o,xs⟩,el,rfl⟩:=e
 have m:=mem_of_lookup el
 obtain⟨h1,h2,h3,its,n,h4,h5⟩:=h _ m
 refine⟨?_,o,xs,its,n,rfl,h1,h2,h4,h3,h5⟩
 rw [zdz,if_pos]
 have:b∈cl.map (·.1):=List.mem_map.mpr ⟨_,m,rfl⟩
 simpa using this
theorem zmW{P:Program}{w:World}{K:PySem.W.Frag}{mg mb:Str->Option Value}{CX:CXT}{k:Nat}{fa a:Addr}{fd:FuncData}{x:Str}{sp:Sp}{s₁:Shared}{vs:List Value}{ns:List Int}{cl:CL}
  (KX:K.In s₁.heap)(hC:zjn cl K)(hns:s₁.heap.Ns mainGlobals mg)(hb:s₁.heap.Ns builtinsNs mb)(hbb:∀ x:Str,x ≠ "__name__"->mb x=bootBuiltins x) (hlim:s₁.heap.NoLimit) (hse:s₁.heap.NoSeer) (htr:P.given.tree=none) (hg:s₁.gens=#[])
  (ha:s₁.heap.get? a=some { cls:=.type "list",data:=.seq vs.toArray }) (hi:IntsAre vs ns) (hl:ns.length<=sizeLine) (hr:zbZ k callerA)
  (F:∀ base:Heap,(zeo (cl.map (·.1)) K).In base->base.Ns mainGlobals mg->zhB P w (zeo (cl.map (·.1)) K) mg base CX k fa fd [x] sp) (hbind:∀(s:Shared) (u:Value),BindsTo s fd ⟨[u],[]⟩ [(x,u)])
  (hsp:∀ H:Hp,(∀ b xs,H b≠some (.lst xs))->(∀ b u,zjj cl b=some u->H b=some u)->SqL (zeo (cl.map (·.1)) K) H a (ns.map V.int)->sp [.ref a] H (fun v _=>v=.bl true) fun _ _ _=>False)
  (hCX:∀ H e s',CX [] H s₁ (fun _ _ _=>False) e s'->False) :
  codeAny (model P w) callerA (.call (.ref fa) ⟨[.ref a],[]⟩) (fun r s'=>r=.ok (.ret (.bool true))/\OldK s₁.heap s'.heap/\s'.os=s₁.os/\AllBare s'.gens) s₁:=by
 have rv:=zis hi
 have lenV:=hi.length
 have core:∀ H:Hp,(∀ b u,H b=some u->∃ o v,u=.frz o v/\o.cls≠.type "module"/\∀ es ep,o.data≠.dict es ep)->(∀ b xs,H b≠some (.lst xs))->(∀ b u,zjj cl b=some u->H b=some u)->SqL (zeo (cl.map (·.1)) K) H a (ns.map V.int)->HOk P w H s₁.heap->(∀ b,H b≠none->(zeo (cl.map (·.1)) K).lookup b=none) ->
   codeAny (model P w) callerA (.call (.ref fa) ⟨[.ref a],[]⟩) (fun r s'=>r=.ok (.ret (.bool true))/\OldK s₁.heap s'.heap/\s'.os=s₁.os/\AllBare s'.gens) s₁:=by
  intro H hO hL hcc hS hok hK
  have base_of:∀{b:Addr} {o:Obj},s₁.heap.get? b=some o->H b=none->(zoV s₁.heap H).get? b=some o:=fun e n=>zoU e n
  have noA:∀{b:Addr} {o:Obj} {es:Array DictEntry} {ep:Nat},s₁.heap.get? b=some o->o.data=.dict es ep->H b=none:=fun{b o es ep} e d=>by
   cases q:H b with
   | none=>rfl
   | some u =>
    obtain⟨o',v,rfl,_,nd⟩:=hO b u q
    obtain⟨e',_⟩:=hok b _ q
    rw [e] at e'
    cases e'
    exact absurd d (nd es ep)
  have noM:∀{b:Addr} {o:Obj},s₁.heap.get? b=some o->o.cls=.type "module"->H b=none:=fun{b o} e d=>by
   cases q:H b with
   | none=>rfl
   | some u =>
    obtain⟨o',v,rfl,nd,_⟩:=hO b u q
    obtain⟨e',_⟩:=hok b _ q
    rw [e] at e'
    cases e'
    exact absurd d nd
  have nsK:∀{b:Addr} {m:Str->Option Value},s₁.heap.Ns b m->(zoV s₁.heap H).Ns b m:=fun{b m} ⟨o,es,ep,e,d,r⟩=>⟨o,es,ep,base_of e (noA e d),d,r⟩
  have hKb:(zeo (cl.map (·.1)) K).In (zoV s₁.heap H):=fun b o e=>base_of (zpM KX b o e) (by
   cases q:H b with
   | none=>rfl
   | some u=>rw [hK b (by rw [q];simp)] at e;cases e)
  have hM:Mod (zeo (cl.map (·.1)) K) mg (zoV s₁.heap H):=⟨hKb,nsK hns,⟨mb,nsK hb,hbb⟩,let⟨mc,h1,h2⟩:=hlim;⟨mc,nsK h1,h2⟩,(let⟨mc,h1,h2⟩:=hse.statics;⟨mc,nsK h1,h2⟩),(let⟨mc,h1,h2⟩:=hse.mods;⟨mc,nsK h1,h2⟩),(let⟨mc,h1,h2⟩:=hse.imp;⟨mc,nsK h1,h2⟩),(let⟨mg,bm,ob,h1,h2,h3,h4,h5⟩:=hse.main;⟨mg,bm,ob,nsK h1,h2,base_of h3 (noM h3 h4),h4,h5⟩)⟩
  have e0:ztL P w (zeo (cl.map (·.1)) K) mg (zoV s₁.heap H) callerA [] s₁ H:=⟨rfl,hM,fun b o e=>zqP e,Nat.le_of_eq (zm8 _ _),trivial,fun b hb=>absurd (show b∈([]:List Addr) from hb) (by simp),hok,.of_eq hg,htr⟩
  refine codeAny_mono ((F _ hKb (nsK hns)).run callerA [] s₁ H ⟨[.ref a],[]⟩ [.ref a] [.ref a] _ _ hr e0 (hbind s₁ (.ref a)) (.cons rfl .nil) (hsp H hL hcc hS)) fun r s' h=>?_
  cases r with
  | error e=>exact(hCX H e s' h).elim
  | ok fl =>
   cases fl with
   | next=>exact False.elim h
   | brk=>exact False.elim h
   | cont=>exact False.elim h
   | ret u =>
    obtain⟨v,H',os,bare,un,hok',r',q⟩:=h
    have q':v=.bl true:=q
    subst q'
    obtain rfl:u=Value.bool true:=r'
    refine⟨rfl,OldK.of_keep fun b o e=>?_,os,bare⟩
    cases q:H b with
    | none=>exact un.keep b o e q (by intro z;exact absurd (show b∈([]:List Addr) from z) (by simp)) (by simp)
    | some u =>
     obtain⟨ob,v,rfl,_,_⟩:=hO b u q
     have z2:=un.frzs b ob _ q
     obtain⟨e1,_⟩:=hok b _ q
     obtain⟨e2,_⟩:=hok' b _ z2
     rw [e] at e1;cases e1
     exact e2
 have cok:∀{H:Hp} {b:Addr} {u:HO},zjj cl b=some u->zbO P w H s₁.heap b u:=fun{H b u} e=>by
  obtain⟨_,o,xs,its,n,rfl,h1,h2,h3,h4,h5⟩:=zhk hC e
  have hg:=KX b o h1
  exact⟨hg,h4,its.toList,h5,o,hg,h2,n,by simpa using h3⟩
 have cfr:∀{b:Addr} {u:HO},zjj cl b=some u->∃ o v,u=.frz o v/\o.cls≠.type "module"/\∀ es ep,o.data≠.dict es ep:=fun{b u} e=>by
  obtain⟨_,o,xs,its,n,rfl,h1,h2,h3,h4,h5⟩:=zhk hC e
  exact⟨o,_,rfl,by rw [h2];simp,fun es ep z=>by rw [h3] at z;cases z⟩
 have clst:∀{b:Addr} {xs:List V},zjj cl b≠some (.lst xs):=fun{b xs} e=>by
  obtain⟨_,o,xs,its,n,z,_⟩:=zhk hC e
  cases z
 cases hk:(zeo (cl.map (·.1)) K).lookup a with
 | some o =>
  have e:=zpM KX a o hk
  rw [ha] at e
  cases e
  exact core (zjj cl) (fun b u e=>cfr e) (fun b xs e=>clst e) (fun _ _ e=>e) (.inr ⟨_,vs.toArray,_,hk,rfl,rfl,rfl,by rw [List.size_toArray,lenV];exact hl,by simpa using rv⟩) (fun b u z=>cok z) fun b hb=>by
   cases q:zjj cl b with
   | none=>exact absurd q hb
   | some u=>exact(zhk hC q).1
 | none =>
  have na:∀ u,zjj cl a≠some u:=fun u z=>by
   obtain⟨_,o,xs,its,n,rfl,h1,h2,h3,h4,h5⟩:=zhk hC z
   have:=KX a o h1
   rw [ha] at this
   cases this
   simp at h2
  refine core (fun b=>if b=a then some (.frz { cls:=.type "list",data:=.seq vs.toArray } (.lst (ns.map V.int))) else zjj cl b) (fun b u e=>?_) (fun b xs e=>?_) (fun b u e=>?_) (.inl (.inr ⟨{ cls:=.type "list",data:=.seq vs.toArray },if_pos rfl⟩)) (fun b u z=>?_) fun b hb=>?_
  ·split at e
   ·cases e;exact⟨_,_,rfl,by simp,fun es ep z=>nomatch z⟩
   ·exact cfr e
  ·split at e
   ·cases e
   ·exact clst e
  ·have:b≠a:=fun z=>by subst z;exact na u e
   simp only [if_neg this];exact e
  ·simp only at z
   split at z
   ·rename_i c
    cases z
    subst c
    exact⟨ha,by rw [List.length_map];exact hl,vs,_,rv,ha⟩
   ·exact cok z
  ·by_cases c:b=a
   ·subst c;exact hk
   ·simp only [if_neg c] at hb
    cases q:zjj cl b with
    | none=>exact absurd q hb
    | some u=>exact(zhk hC q).1
theorem znU{l:PySem.W.OpenLaw}{k:Nat}{q:Program}{loose:List Str}{XP:(Str->Option Value)->Heap->Prop}{YP:World->Heap->Prop}{d:DefRec}{K:Params->PySem.W.Frag}{x:Str}{G:List D->R D}
  (hlaw:∀ ns:List Int,ns.length<=63->G [.list (ns.map PyData.int)]=.ok (.bool true))(hn:l.most=some 63)(hdf:d.params.defaults=[])(hi:importsNone q=true)(htr:l.prog.given.tree=none)(hr:zbZ k callerA)
  (hY:∀(w:World) (h:Heap),YP w h->(K w.params).In h)
  (F:∀(w:World) (mg:Str->Option Value) (fa:Addr) (h:Heap),(K w.params).In h->h.Ns mainGlobals mg->mg d.name=some (.ref fa) ->
   ∃(cl:CL) (fd:FuncData),zjn cl (K w.params)/\(∀(s:Shared) (u:Value),BindsTo s fd ⟨[u],[]⟩ [(x,u)]) /\
    ∀ base:Heap,(zeo (cl.map (·.1)) (K w.params)).In base->base.Ns mainGlobals mg->zhB l.prog w (zeo (cl.map (·.1)) (K w.params)) mg base (CXe l.prog w) k fa fd [x] (@spP (zrt cl) (zeo (cl.map (·.1)) (K w.params)) 1 false G)) :
  PySem.W.WalkO q loose XP YP l.row.toRowW d [] (fun f vs=>PySem.call f vs):=by
 refine Att.zj3 hn hdf fun w s₀ s₁ mg mb fa o pm cd doc a vs ns GG Y ho hd hcd hmg hobj hints hlen hg=>?_
 have KX:=hY w _ Y
 obtain⟨cl,fd,hC,hb,hF⟩:=F w mg fa _ KX GG.T.g hmg
 refine zmW KX hC GG.T.g GG.T.b GG.T.builtins GG.T.nolimit (GG.T.seer hi) htr hg hobj hints (Nat.le_trans hlen (by decide)) hr hF hb (fun H hO hcc hS=>@zsQ (zrt cl) _ G H a ns (hlaw ns hlen) hO hcc hS) fun H e s' ⟨_,_,_,_,_,_,_,_,_,_,_,_,_,_,_,z⟩=>z
variable [Cs]
theorem zr6{K:PySem.W.Frag}{X:Cx}{x:Str}{a:Addr}{pos:Pos}{ds:List D}{vs:List V}(hg:Gl X x)(hm:X.mg x=some (.ref a))(hc:∃ o,Cs.C a=some (.frz o (.tup vs)))(hf:∀ H,zaf K H ds vs)(hd:(x==("__debug__":Str))=false:=by decide) :
  PV K X (.Name x pos) (eC (.tuple ds)):=fun _=>(zmA hg hm (v:=.ref a) rfl hd).weak fun σ H Q=>by
 rintro⟨ρ,rel,g⟩
 obtain⟨o,hc⟩:=hc
 refine g.now rel (.ref a) ?_
 simp only [Fz]
 exact⟨a,vs,rfl,.inr ⟨o,rel.cst _ _ hc⟩,hf H⟩
end FL
namespace FL
open PySem L2 PySem.Spec
open PyProof.Rows hiding St
theorem zkg{k:Nat}{A:Around}(hr:zbZ k A):A.units+1<cLine:=by have:=hr.un;omega
theorem zl0{k:Nat}{A:Around}(hr:zbZ k A):A.units+80<cLine:=by have:=hr.un;omega
theorem zmd{x y:V}{u:Value}(h1:L2.RelV x u)(h2:L2.RelV y u):x=y:=by
 cases x <;> cases y <;> simp only [L2.RelV] at h1 h2 <;> first
  | (subst h1;cases h2;rfl;done)
  | (subst h1;obtain⟨t',h2⟩:=h2;cases h2;done)
  | (obtain⟨t,rfl⟩:=h1;obtain⟨t',h2⟩:=h2;cases h2;rfl;done)
  | (obtain⟨t,rfl⟩:=h1;obtain⟨t',h2⟩:=h2;cases h2;done)
  | (subst h1;cases h2;done)
  | (obtain⟨t,rfl⟩:=h1;cases h2;done)
theorem ziq:∀{xs ys:List V} {us:List Value},Vals xs us->Vals ys us->xs=ys
 | _,_,_,.nil,.nil=>rfl
 | _,_,_,.cons r1 t1,.cons r2 t2=>by rw [zmd r1 r2,ziq t1 t2]
theorem lookup_mem{α:Type}:∀{l:List (Addr×α)} {a:Addr} {x:α},(a,x)∈l->∃ y,l.lookup a=some y
 | [],a,x,h=>by simp at h
 | (b,y)::r,a,x,h=>by
  rw [List.lookup_cons]
  cases e:a==b with
  | true=>exact⟨y,rfl⟩
  | false =>
   rcases List.mem_cons.mp h with z|z
   ·cases z;simp at e
   ·exact lookup_mem z
theorem zs3{cl:CL}{K:PySem.W.Frag}(h:zjn cl K){a:Addr}{o:Obj}{xs:List V}(m:(a,o,xs)∈cl):∃ o',(zrt cl).C a=some (.frz o' (.tup xs)):=by
 obtain⟨⟨o2,ys⟩,el⟩:=lookup_mem m
 obtain⟨h1,_,_,its,n,h2,h3⟩:=h _ m
 obtain⟨g1,_,_,its',n',g2,g3⟩:=h _ (mem_of_lookup el)
 simp only at h1 h2 h3 g1 g2 g3
 rw [h1] at g1
 cases g1
 rw [h2] at g2
 cases g2
 refine⟨o,?_⟩
 show zjj cl a=_
 unfold zjj
 rw [el,ziq h3 g3]
 rfl
theorem zs4{K:PySem.W.Frag}{h:Heap}{mg:Str->Option Value}{x:Str}{st:Stmt}{f:Addr}{oc:Value}{od an:Option Addr}{osl:Array (Option Value)}{kV doc pm cdv ct:Value}(X:K.In h)(G:h.Ns mainGlobals mg)(q:PySem.W.nsIn K mainGlobals x=some (some (.ref f)))
  (l:K.lookup f=some ⟨oc,od,.func (PySem.W.fnOf x x (zcW st) (zbz st) (zas st) .none kV doc pm an cdv ct),osl⟩)(c:PySem.W.codeIn K cdv x=true)(k:PySem.W.keepIn K (.ref f)=true):Has K mg x st:=⟨f,_,PySem.W.mg_of X G q,zta (st:=st) l c k⟩
theorem _root_.L2.Has.cut{cs:List Addr}{K:PySem.W.Frag}{mg:Str->Option Value}{x:Str}{st:Stmt}(h:Has K mg x st)(s:zrv cs K):Has (zeo cs K) mg x st:=FL.Has.cut s h
end FL
namespace FL
open PySem
def enD:List D->R (List D)
 | [.list l]=>.ok (zfn 0 l)
 | _=>.bad
def ztE(a:AF):IF:=fun ρ=>(a ρ).bind fun x=>(enD x.1).bind fun l=>.ok (l,x.2)
end FL
namespace L2
open PySem PySem.Spec PyProof.Rows
end L2
namespace FL
open PySem L2 PySem.Spec
open PyProof.Rows hiding St
theorem znj:∀(i:Nat) (l:List D),(zfn i l).length=l.length
 | _,[]=>rfl
 | i,d::r=>by rw [zfn,List.length_cons,List.length_cons,znj]
theorem znk:∀{i:Nat} {l:List D} {j:Nat} {x:D},(zfn i l)[j]?=some x->∃ d,l[j]?=some d/\x=.tuple [.int ((i+j:Nat):Int),d]
 | _,[],_,_,h=>by simp [zfn] at h
 | i,d::r,0,x,h=>by
  simp only [zfn,zz0,Option.some.injEq] at h
  exact⟨d,rfl,h.symm⟩
 | i,d::r,j+1,x,h=>by
  simp only [zfn,zz1] at h
  obtain⟨d',h1,h2⟩:=znk h
  refine⟨d',by simpa using h1,?_⟩
  rw [h2,Nat.add_assoc,Nat.add_comm 1 j]
section
variable [Cs]{K:PySem.W.Frag}{X:Cx}{e e':Expr}{fa:AF}{pos:Pos}{es:List Expr}{k:Nat}{p0 p:Pos}
theorem zq4{H:Hp}{t:Addr}{a b:D}{u v:V}(h0:H t=none)(fa:Fz K H a u)(fb:Fz K H b v):Fz K (upd H t (.tup [u,v])) (.tuple [a,b]) (.ref t):=by
 have m:Fzn H (upd H t (.tup [u,v])):=Fzn.of (zaE.upd h0)
 simp only [Fz,zaf]
 exact⟨t,[u,v],rfl,.inl zak,u,[v],rfl,fa.mono m,v,[],rfl,fb.mono m,rfl⟩
theorem zlZ{H:Hp}{a:Addr}{vs:List V}{items:List D}(h:FzL K H a vs)(f:zaf K H items vs):Walk K (Ite K a) (zfn 0 items) H:=by
 refine⟨fun i d H' fz e=>?_,fun i H' fz e=>⟨vs,(fz.zp6 h).sq,by rw [f.len,<- znj 0];exact e⟩⟩
 obtain⟨d',e',rfl⟩:=znk e
 obtain⟨v,ev,fv⟩:=(f.mono fz).get e'
 refine⟨⟨vs,v,(fz.zp6 h).sq,ev⟩,fun x H'' y=>?_⟩
 obtain⟨t,v',rfl,ht,rfl,hv⟩:=y
 have ex:=hv vs (fz.zp6 h).sq
 rw [ev] at ex
 cases ex
 refine⟨zaE.upd ht,?_⟩
 rw [Nat.zero_add]
 exact zq4 ht (zdn _) fv
theorem zof(hg:Gl X "enumerate") (hm:X.mg "enumerate"=none) (ha:PVA K X [e] fa) (hs:starEach [e] X.env=[(false,eval e X.env)]:=by rfl):PVI K X (.Tuple es k p0) (.Call (.Name "enumerate" p) [e] [] pos) (ztE fa):=fun hK=>by
 subst hK
 refine(zqC hg hm (ha rfl) hs).weak fun σ H R=>?_
 rintro⟨ρ,rel,q⟩
 refine goA rel q fun ds ρ1 vs H1 rel1 st1 fs q1=>?_
 obtain⟨items,ei,q2⟩:=q1.zdA
 cases ds with
 | nil=>cases ei
 | cons d r =>
  cases r with
  | cons _ _=>cases d <;> cases ei
  | nil =>
   cases d with
   | list a =>
    cases ei
    simp only [zaf,Fz] at fs
    obtain⟨_,_,rfl,⟨l,vs,rfl,sx,f⟩,rfl⟩:=fs
    exact⟨l,rfl,⟨vs,sx.sq⟩,q2.now rel1 _ (zlZ sx f)⟩
   | _=>cases ei
end
end FL
namespace L2
open PySem PySem.Spec PyProof.Rows
end L2
namespace FL
open PySem L2 PySem.Spec
open PyProof.Rows hiding St
end FL
namespace PySem
open Spec
end PySem
namespace FL
open PySem L2 PySem.Spec
open PyProof.Rows hiding St
end FL
namespace FL
open PySem L2 PySem.Spec
open PyProof.Rows hiding St
end FL
namespace L2
open PySem PySem.Spec PyProof.Rows
open PySem.SeqAt
open PySem.AutoSeq1 (wpAny_loadPart')
open PySem.MeetsSeq PySem.MeetsSeq2 PySem.MeetsSeq3
end L2
namespace FL
open PySem L2 PySem.Spec
open PyProof.Rows hiding St
end FL
namespace FL
open PySem
def intD:D->R D
 | .bool b=>.ok (.int (if b then 1 else 0))
 | .int i=>.ok (.int i)
 | _=>.bad
end FL
namespace L2
open PySem PySem.Spec PyProof.Rows PySem.W
end L2
namespace FL
open PySem L2 PySem.Spec
open PyProof.Rows hiding St
variable [Cs]
section
variable {K:PySem.W.Frag}{X:Cx}{b:Expr}{h:EF}{pos:Pos}
theorem zuH:CallD X (.type "int") intD:=by
 intro pins s σ H xs us Q I r h
 obtain⟨x,dx,d,rfl,tx,e,q⟩:=h
 obtain⟨u,rfl,ru⟩:=vals1 r
 cases dx with
 | bool c =>
  have tx:Fz X.K H (.bool c) x:=tx
  simp only [Fz] at tx
  subst tx
  cases e
  cases ru
  exact PySem.call_int_bool ⟨.int _,H,I.tok _,⟨_,rfl⟩,q _ H (zaE.refl _) (by simp [Fz])⟩
 | int i =>
  have tx:Fz X.K H (.int i) x:=tx
  simp only [Fz] at tx
  subst tx
  cases e
  obtain⟨t,rfl⟩:=ru
  exact PySem.call_int_int ⟨.int i,H,I,⟨t,rfl⟩,q _ H (zaE.refl _) (by simp [Fz])⟩
 | _=>exact nomatch (show(R.bad:R D)=.ok d from e)
end
end FL
namespace FL
open PySem L2 PySem.Spec
open PyProof.Rows hiding St
variable [Cs]
section
variable {P:Program}{w:World}{K:PySem.W.Frag}{mg:Str->Option Value}{base:Heap}{x:Str}{st:Stmt}{ps:List Str}{k:Nat}{b:SF}{fr:Bool}
theorem fnM(ms:List Bool)(N:List Str)(h:Has K mg x st)
  (hb:∀{f:Addr} {cdv:Value} {A:Around} {outer:List Env} {s:Shared} {H:Hp} {E:XK},zbZ k (A.deeper (envOfC x (zas st) s.heap.objs.size f cdv))->N.Nodup->zjm K (znO (CXe P w) P w K mg base N x (zas st) f cdv A outer s H E).nox (zbz st) b)
  (S:zdt N ps (zas st):=by exact⟨rfl,rfl,rfl,by decide +kernel,rfl,by decide +kernel,by decide +kernel⟩)(hps:ps.length=ms.length:=by rfl)(hpN:ps.length<=N.length:=by decide)
  (hbi:∀(kV doc pm:Value) (an:Option Addr) (cdv ct:Value) (us:List Value),us.length=ps.length->bindArgs (PySem.W.fnOf x x (zcW st) (zbz st) (zas st) .none kV doc pm an cdv ct) ⟨us,[]⟩=pure (ps.zip us):=by
   first
    | exact fun _ _ _ _ _ _ us hl=>match us,hl with | [_],_=>rfl
    | exact fun _ _ _ _ _ _ us hl=>match us,hl with | [_,_],_=>rfl
    | exact fun _ _ _ _ _ _ us hl=>match us,hl with | [_,_,_],_=>rfl
    | exact fun _ _ _ _ _ _ us hl=>match us,hl with | [_,_,_,_],_=>rfl
    | exact fun _ _ _ _ _ _ us hl=>match us,hl with | [_,_,_,_,_],_=>rfl):Callee P w K mg base x (k+1) ps (spF K ms fr (FL.run ms fr N.length b)) :=
 ztb ms fr h S hps hpN hbi fun f cdv A outer s H E hr=>zml (hb hr S.nd)
theorem fnP(N:List Str)(h:Has K mg x st)
  (hb:∀{f:Addr} {cdv:Value} {A:Around} {outer:List Env} {s:Shared} {H:Hp} {E:XK},zbZ k (A.deeper (envOfC x (zas st) s.heap.objs.size f cdv))->N.Nodup->zjm K (znO (CXe P w) P w K mg base N x (zas st) f cdv A outer s H E).nox (zbz st) b)
  (S:zdt N ps (zas st):=by exact⟨rfl,rfl,rfl,by decide +kernel,rfl,by decide +kernel,by decide +kernel⟩)(hpN:ps.length<=N.length:=by decide)
  (hbi:∀(kV doc pm:Value) (an:Option Addr) (cdv ct:Value) (us:List Value),us.length=ps.length->bindArgs (PySem.W.fnOf x x (zcW st) (zbz st) (zas st) .none kV doc pm an cdv ct) ⟨us,[]⟩=pure (ps.zip us):=by
   first
    | exact fun _ _ _ _ _ _ us hl=>match us,hl with | [_],_=>rfl
    | exact fun _ _ _ _ _ _ us hl=>match us,hl with | [_,_],_=>rfl
    | exact fun _ _ _ _ _ _ us hl=>match us,hl with | [_,_,_],_=>rfl
    | exact fun _ _ _ _ _ _ us hl=>match us,hl with | [_,_,_,_],_=>rfl
    | exact fun _ _ _ _ _ _ us hl=>match us,hl with | [_,_,_,_,_],_=>rfl):Callee P w K mg base x (k+1) ps (spP K ps.length fr (zbE fr ps.length N.length b)) :=
 Callee.pure (fnM (List.replicate ps.length false) N h hb S (by simp) hpN hbi)
end
section
variable {K:PySem.W.Frag}{X:Cx}{a b c e:Expr}{es:List Expr}{f h g1 g2:EF}{fa:AF}{pos p:Pos}{j k:Nat}
theorem a1(ha:PV K X a f)(hs:starEach [a] X.env=(false,eval a X.env)::starEach [] X.env:=by rfl):PVA K X [a] (zac f zal):=zcd ha zcp hs
theorem a2(ha:PV K X a f)(hb:PV K X b h)(hs:starEach [a,b] X.env=(false,eval a X.env)::starEach [b] X.env:=by rfl)(hs2:starEach [b] X.env=(false,eval b X.env)::starEach [] X.env:=by rfl):PVA K X [a,b] (zac f (zac h zal)):=zcd ha (a1 hb hs2) hs
theorem a3(ha:PV K X a f)(hb:PV K X b h)(hc:PV K X c g1)(hs:starEach [a,b,c] X.env=(false,eval a X.env)::starEach [b,c] X.env:=by rfl)(hs2:starEach [b,c] X.env=(false,eval b X.env)::starEach [c] X.env:=by rfl)(hs3:starEach [c] X.env=(false,eval c X.env)::starEach [] X.env:=by rfl):PVA K X [a,b,c] (zac f (zac h (zac g1 zal))):=zcd ha (a2 hb hc hs2 hs3) hs
variable {ps:List Str}{x y:Str}{G:List D->R D}{n:Nat}{py:Pos}
theorem zbd(cc:Callee X.prog X.w X.K X.mg X.base x k ps (spP X.K n false G))(hr:zbZ j X.A)(ha:PVA K X (e::es) fa)(hl:zrm fa n:=by repeat (first|exact zk0|refine zjb ?_))(hg:Gl X x:=by rfl)(hj:k<=j:=by decide)(hdb:(x==("__debug__":Str))=false:=by decide)
  (he:starEach (e::es) X.env=(false,eval e X.env)::starEach es X.env:=by rfl) (hpl:(backTo pos (starEach es X.env)).any (·.1)=false:=by rfl):PV K X (.Call (.Name x p) (e::es) [] pos) (zai G fa):=zqq cc hr hg zhQ ha hl hj hdb he hpl
theorem zkp(cc:Callee X.prog X.w X.K X.mg X.base x k ps (spP X.K n true G))(hr:zbZ j X.A)(ha:PVA K X (e::es) fa)(hl:zrm fa n:=by repeat (first|exact zk0|refine zjb ?_))(hg:Gl X x:=by rfl)(hj:k<=j:=by decide)(hdb:(x==("__debug__":Str))=false:=by decide)
  (he:starEach (e::es) X.env=(false,eval e X.env)::starEach es X.env:=by rfl) (hpl:(backTo pos (starEach es X.env)).any (·.1)=false:=by rfl):PVN K X (.Call (.Name x p) (e::es) [] pos) (zai G fa):=zoe cc hr hg zhQ ha hl hj hdb he hpl
variable {F:List D->R (D×List D)}{ar:List Ar}
theorem zdg(cc:Callee X.prog X.w X.K X.mg X.base x k ps (spF X.K (arM ar) false F))(hr:zbZ j X.A)(ha:znD K X (e::es) ar)(ho:zrx F (arM ar).length:=by exact zku)(nd:(arI ar).Nodup:=by decide)(ct:arT ar<=1:=by decide)(hg:Gl X x:=by rfl)(hj:k<=j:=by decide)(hdb:(x==("__debug__":Str))=false:=by decide)
  (he:starEach (e::es) X.env=(false,eval e X.env)::starEach es X.env:=by rfl) (hpl:(backTo pos (starEach es X.env)).any (·.1)=false:=by rfl):PV K X (.Call (.Name x p) (e::es) [] pos) (zam F ar):=zoi cc ho nd ct hr hg zhQ ha hj hdb he hpl
theorem zrY(cc:Callee X.prog X.w X.K X.mg X.base x k ps (spF X.K (arM ar) true F))(hr:zbZ j X.A)(ha:znD K X (e::es) ar)(ho:zrx F (arM ar).length:=by exact zku)(nd:(arI ar).Nodup:=by decide)(ct:arT ar<=1:=by decide)(hg:Gl X x:=by rfl)(hj:k<=j:=by decide)(hdb:(x==("__debug__":Str))=false:=by decide)
  (he:starEach (e::es) X.env=(false,eval e X.env)::starEach es X.env:=by rfl) (hpl:(backTo pos (starEach es X.env)).any (·.1)=false:=by rfl):PVN K X (.Call (.Name x p) (e::es) [] pos) (zam F ar):=zmn cc ho nd ct hr hg zhQ ha hj hdb he hpl
theorem zim(i:Nat)(h:znD K X es ar)(ha:PE X (.Name y py) (zgE i):=by exact pv _)(hs:starEach (.Name y py::es) X.env=(false,eval (.Name y py) X.env)::starEach es X.env:=by rfl):znD K X (.Name y py::es) (.m i::ar):=zrZ i ha h hs
theorem zgI{id:String}{g:D->R D}(hc:CallD X (.builtin id) g)(hm:X.mg x=none)(hv:bootBuiltins x=some (.builtin id))(ha:PV K X e f)(hg:Gl X x:=by rfl)(hn:x ≠ "__name__":=by decide) (hdb:(x==("__debug__":Str))=false:=by decide)
  (he:starEach [e] X.env=(false,eval e X.env)::starEach [] X.env:=by rfl) (hpl:(backTo pos (starEach [] X.env)).any (·.1)=false:=by rfl):PV K X (.Call (.Name x p) [e] [] pos) (e1 g f):=zmp (zoj (CallD.ds hc) hg hm hv (a1 ha he) hn hdb he hpl)
theorem ziF{T:String}{g:D->R D}(hc:CallD X (.type T) g)(hm:X.mg x=none)(hv:bootBuiltins x=some (.type T))(ha:PV K X e f)(hg:Gl X x:=by rfl)(hn:x ≠ "__name__":=by decide) (hdb:(x==("__debug__":Str))=false:=by decide)
  (he:starEach [e] X.env=(false,eval e X.env)::starEach [] X.env:=by rfl) (hpl:(backTo pos (starEach [] X.env)).any (·.1)=false:=by rfl):PV K X (.Call (.Name x p) [e] [] pos) (e1 g f):=zmp (zmq (CallD.ds hc) hg hm hv (a1 ha he) hn hdb he hpl)
theorem zt1{id:String}{g:D->R D}(i:Nat)(hc:CallD X (.builtin id) g)(hm:X.mg x=none)(hv:bootBuiltins x=some (.builtin id))(hg:Gl X x:=by rfl)(ha:PE X (.Name y py) (zgE i):=by exact pv _)(hn:x ≠ "__name__":=by decide) (hdb:(x==("__debug__":Str))=false:=by decide):PV K X (.Call (.Name x p) [.Name y py] [] pos) (m1 g i):=zr3 i hc hg hm hv ha hn hdb
theorem zjy{T:String}{tn:Str}{p2:Pos}(kt:zih T)(hm:X.mg "isinstance"=none) (hm2:X.mg tn=none) (hv2:bootBuiltins tn=some (.type T)) (ha:PV K X a f) (hg:Gl X "isinstance":=by rfl) (hg2:Gl X tn:=by rfl) (hn:tn ≠ "__name__":=by decide) (hd:(tn==("__debug__":Str))=false:=by decide)
  (hs1:starEach [a,.Name tn p2] X.env=(false,eval a X.env)::starEach [.Name tn p2] X.env:=by rfl) (hs2:starEach [.Name tn p2] X.env=(false,eval (.Name tn p2) X.env)::starEach [] X.env:=by rfl) (hpl:(backTo pos (starEach [.Name tn p2] X.env)).any (·.1)=false:=by rfl) :
  PV K X (.Call (.Name "isinstance" p) [a,.Name tn p2] [] pos) (e1 (zcq T) f):=zr4 kt hg hm hg2 hm2 hv2 ha hn hd hs1 hs2 hpl
theorem zla(hr:zbZ j X.A):OpR X (compareOp .Eq) (rD X.K eqD):=zvI hr.units
theorem zmi(hr:zbZ j X.A):OpR X (compareOp .NotEq) (rD X.K neD):=zvD hr.units
theorem zrV(hr:zbZ j X.A):OpR X (compareOp .Lt) (rD X.K ltD):=zvE hr.units
theorem zuV(hr:zbZ j X.A):OpR X (compareOp .LtE) (rD X.K leD):=zvF hr.units
theorem zvA(hr:zbZ j X.A):OpR X (compareOp .Gt) (rD X.K gtD):=zvG hr.units
theorem zuW(hr:zbZ j X.A):OpR X (compareOp .GtE) (rD X.K geD):=zvH hr.units
theorem ztY(hr:zbZ j X.A):OpR X (compareOp .In) (rD X.K inD):=zsA (zkg hr)
theorem ztX(hr:zbZ j X.A):OpR X (compareOp .In) (rD X.K zrq):=zpo (zl0 hr)
theorem zuX(hr:zbZ j X.A):IxR X (rD X.K zlX):=zqZ (zkg hr)
variable {op:CmpOp}{g:D->D->R D}{z:Str}{pz:Pos}
theorem zoh(ho:OpR X (compareOp op) (rD X.K g))(ha:PV K X a f)(hb:PV K X b h)(hm:behindInMarks op b=false:=by first|exact zkv _|rfl):PV K X (.Compare a [op] [b] pos) (e2 g f h):=zr7 ho ha hb hm
theorem zaB(ho:OpR X (compareOp op) (rD X.K g))(ha:PV K X a f)(hb:PV K X b h)(hm:behindInMarks op b=false:=by first|exact zkv _|rfl):PVT K X (.Compare a [op] [b] pos) (tB (e2 g f h)):=zqg ho ha hb hm
theorem zqh(i:Nat)(ho:OpR X (compareOp op) (rD X.K g))(hb:PV K X b h)(ha:PE X (.Name y py) (zgE i):=by exact pv _)(hm:behindInMarks op b=false:=by first|exact zkv _|rfl):PVT K X (.Compare (.Name y py) [op] [b] pos) (tB (m2 g i h)):=zqe i ho ha hb hm
theorem zqf(i:Nat)(ho:OpR X (compareOp op) (rD X.K g))(hb:PV K X a f)(ha:PE X (.Name y py) (zgE i):=by exact pv _)(hm:behindInMarks op (.Name y py)=false:=by first|exact zkv _|rfl):PVT K X (.Compare a [op] [.Name y py] pos) (tB (m2r g f i)):=zqd i ho hb ha hm
theorem zjx(i:Nat)(ho:IxR X (rD X.K g))(hb:PV K X b h)(ha:PE X (.Name y py) (zgE i):=by exact pv _)(hs:zig b:=by exact fun _ _=>rfl):PV K X (.Subscript (.Name y py) b pos) (m2 g i h):=zr2 i ho ha hb hs
theorem zaJ(he:PV K X e f):zjm K X [.Return (some e) pos] (zaw f):=zaM (zjw he)
theorem zbv(i:Nat)(hN:X.N.Nodup)(he:PV K X e f)(hi:X.N[i]?=some x:=by rfl)(hx:Loc X.env.scope x:=by first|exact Or.inl rfl|exact Or.inr rfl)(hs:swapsWith e (some (.Name x py)) pos.line X.env=pure false:=by rfl)(hf:X.fn x=true\/X.env.scope.names.lookup x=some .local:=by first|exact .inl rfl|exact .inr rfl|assumption):PSV K X (.Assign [.Name x py] e pos) (zba (gN i) f):=zqi hN hi hx he hs hf
theorem zfL(i:Nat)(hN:X.N.Nodup)(he:PVN K X e f)(hi:X.N[i]?=some x:=by rfl)(hx:Loc X.env.scope x:=by first|exact Or.inl rfl|exact Or.inr rfl)(hs:swapsWith e (some (.Name x py)) pos.line X.env=pure false:=by rfl)(hf:X.fn x=true\/X.env.scope.names.lookup x=some .local:=by first|exact .inl rfl|exact .inr rfl|assumption):PSV K X (.Assign [.Name x py] e pos) (zdw i f):=zqk hN hi hx he hs hf
theorem g_n(i:Nat)(hN:X.N.Nodup)(hi:X.N[i]?=some x:=by rfl)(hx:Loc X.env.scope x:=by first|exact Or.inl rfl|exact Or.inr rfl)(hf:X.fn x=true\/X.env.scope.names.lookup x=some .local:=by first|exact .inl rfl|exact .inr rfl|assumption):PVG K X [i] (.Name x pos) (gN i):=zog hN hi hx hf
theorem zkn(i j:Nat){kt k2:Nat}{px pt pt2:Pos}(nd:X.N.Nodup)(ha:PV K X a f)(hb:PV K X b h)(hc:X.calm=true:=by rfl)(hi:X.N[i]?=some x:=by rfl)(hj:X.N[j]?=some y:=by rfl)(ij:i≠j:=by decide)(l1:X.env.scope.names.lookup x=some .local:=by rfl)(l2:X.env.scope.names.lookup y=some .local:=by rfl)
  (sw:swappedStores [.Tuple [.Name x px,.Name y py] kt pt] (.Tuple [a,b] k2 pt2) X.env=pure (some [x,y]):=by rfl)(s1:swapsWithSole [.Tuple [.Name x px,.Name y py] kt pt] (.Tuple [a,b] k2 pt2) pos.line X.env=pure false:=by rfl)(s2:starEach [a,b] X.env=(false,eval a X.env)::starEach [b] X.env:=by rfl)(s3:starEach [b] X.env=(false,eval b X.env)::starEach [] X.env:=by rfl) :
  PSV K X (.Assign [.Tuple [.Name x px,.Name y py] kt pt] (.Tuple [a,b] k2 pt2) pos) (ze3 i j f h):=zqj hc nd hi hj ij l1 l2 ha hb sw s1 s2 s3
variable {it:IF}{gg:GF}{bb:SF}{body:List Stmt}{dom:List Nat}{tg:Expr}
theorem ziC(hi:PVI K X tg e it)(hg:PVG K X dom tg gg)(hb:zjm K X body bb)(hp:PassesOwn (model X.prog X.w) X.A X.env X.xe:=by exact PassesOwn.never)(hc:X.calm=true:=by rfl)(hs:∀ v,foldedSetIterable e X.env v=pure v:=by intro _;rfl):PSV K X (.For tg e body [] pos) (zgz it gg bb):=zql hp hc hi hg hb hs
variable {elt iter ke ve:Expr}{ifs:List Expr}{scope:Scope}{t:TF}{kf vf:EF}
theorem cp(L:List Str)(ix:List Nat)(M:List Str)(hi:PVI K X tg iter it)(hg:∀{C:Addr} {s₃:Shared} {H₃:Hp} {fp:List Addr},M.Nodup->PVG K (zaz X M scope C s₃ H₃ fp) dom tg gg)(ht:∀{C:Addr} {s₃:Shared} {H₃:Hp} {fp:List Addr},ztx K (zaz X M scope C s₃ H₃ fp) ifs t)(he:∀{C:Addr} {s₃:Shared} {H₃:Hp} {fp:List Addr},PV K (zaz X M scope C s₃ H₃ fp) elt f)
  (hc:X.calm=true:=by rfl)(hk:scope.kind=.function:=by rfl)(ho:zdp X.env.scope scope X.N ix=true:=by kernel_rfl)(hM:M=L++ix.map (fun i=>X.N.getD i ""):=by rfl) (nd:ix.Nodup:=by decide) (hMn:M.Nodup:=by decide +kernel) (hd:(dom.all fun i=>decide (i<L.length))=true:=by decide) (hs:∀ v,foldedSetIterable iter X.env v=pure v:=by intro _;rfl) :
  PVN K X (.ListComp elt [⟨tg,iter,ifs,0⟩] scope pos) (zcs L.length ix it gg t f):=zod L ix M hc hk ho hM nd hi (fun _ _ _ _=>hg hMn) hd (fun _ _ _ _=>ht) (fun _ _ _ _=>he) hs
theorem cpS(i0:Nat)(L:List Str)(ix:List Nat)(M:List Str)(hN:X.N.Nodup)(hi:PVI K X tg iter it)(hg:∀{C:Addr} {s₃:Shared} {H₃:Hp} {fp:List Addr},M.Nodup->PVG K (zaz X M scope C s₃ H₃ fp) dom tg gg)(ht:∀{C:Addr} {s₃:Shared} {H₃:Hp} {fp:List Addr},ztx K (zaz X M scope C s₃ H₃ fp) ifs t)(he:∀{C:Addr} {s₃:Shared} {H₃:Hp} {fp:List Addr},PV K (zaz X M scope C s₃ H₃ fp) elt f)
  (h0:X.N[i0]?=some x:=by rfl)(hl:X.env.scope.names.lookup x=some .local:=by rfl)(hsw:swapsWith (.ListComp elt [⟨tg,iter,ifs,0⟩] scope pos) (some (.Name x py)) p.line X.env=pure true:=by rfl)(hc:X.calm=true:=by rfl)(hk:scope.kind=.function:=by rfl)(ho:zdp X.env.scope scope X.N ix=true:=by kernel_rfl)(hM:M=L++ix.map (fun i=>X.N.getD i ""):=by rfl) (nd:ix.Nodup:=by decide) (hMn:M.Nodup:=by decide +kernel) (hd:(dom.all fun i=>decide (i<L.length))=true:=by decide) (hs:∀ v,foldedSetIterable iter X.env v=pure v:=by intro _;rfl) :
  PSV K X (.Assign [.Name x py] (.ListComp elt [⟨tg,iter,ifs,0⟩] scope pos) p) (zdw i0 (zcs L.length ix it gg t f)):=zn9 i0 L ix M hN h0 hl hsw hc hk ho hM nd hi (fun _ _ _ _=>hg hMn) hd (fun _ _ _ _=>ht) (fun _ _ _ _=>he) hs
end
abbrev CT(x:Str)(k:Nat)(ps:List Str)(n:Nat)(fr:Bool)(G:List D->R D)(P:Program)(w:World)(K:PySem.W.Frag)(mg:Str->Option Value)(base:Heap):Prop:=Callee P w K mg base x k ps (spP K n fr G)
abbrev CTM(x:Str)(k:Nat)(ps:List Str)(ms:List Bool)(fr:Bool)(F:List D->R (D×List D))(P:Program)(w:World)(K:PySem.W.Frag)(mg:Str->Option Value)(base:Heap):Prop:=Callee P w K mg base x k ps (spF K ms fr F)
end FL
namespace FL
open PySem
def zu2(a:List D)(k d:D):R (List D):=match k with
 | .int j=>chk (decide (0<=j)&&leB j.toNat a.length&&leB (a.length+1) lim) (.ok (a.take j.toNat++d::a.drop j.toNat))
 | _=>.bad
def zuq(i:Nat)(k f:EF):SF:=fun ρ=>(zbr ρ i).bind fun _=>(k ρ).bind fun y=>(f y.2).bind fun x=>(zbr x.2 i).bind fun c=>(zu2 c y.1 x.1).bind fun c'=>.ok (.nx,zaO x.2 i (.list c'))
end FL
namespace L2
open PySem PySem.Spec
variable {X:Cx}
def zqa:V->List V->Hp->VK->Prop:=fun x vs H Q=>∃ l xs i y,x=.ref l/\vs=[.int i,y]/\H l=some (.lst xs)/\xs.length<sizeLine/\0<=i/\i.toNat<=xs.length/\Q .non (upd H l (.lst (xs.take i.toNat++y::xs.drop i.toNat)))
theorem zmM:MtM X "list.insert" zqa:=by
 intro pins s σ H x vs v us Q I rx rv h
 obtain⟨l,xs,i,y,rfl,rfl,hH,hz,i0,i1,q⟩:=h
 cases rx
 obtain⟨a,b,rfl,ra,rb⟩:∃ a b,us=[a,b]/\RelV (.int i) a/\RelV y b:=by
  cases rv with
  | cons h t=>cases t with
   | cons h2 t2=>cases t2;exact⟨_,_,rfl,h,h2⟩
 obtain⟨t,rfl⟩:=ra
 obtain⟨z,its,n,r,hl,e⟩:=I.zu0 hH
 have hlen:its.length=xs.length:=r.length.symm
 have sl:sizeLine<2^63:=by decide
 refine call_meets F.slot_list_insert ⟨_,e,rfl⟩ F.entry_list_insert (F.args_list_insert_3 _ _ _) (PySem.AutoListH.list_insert_list_int_val_1 l its.toArray n i t b (by unfold Builtin.List.listFitsIndex;simp;omega) (by rw [List.size_toArray];omega)) ⟨e,?_⟩
 refine⟨.non,_,I.zu1 (its':=its.take i.toNat++b::its.drop i.toNat) hH e ?_ ((r.take _).append (.cons rb (r.drop _))) ?_,rfl,q⟩
 ·show((its.toArray.extract 0 (if i<0 then(i+((its.toArray.size:Nat):Int)).toNat else min i.toNat its.toArray.size)).push b++its.toArray.extract (if i<0 then(i+((its.toArray.size:Nat):Int)).toNat else min i.toNat its.toArray.size))=_
  rw [if_neg (by omega),List.size_toArray,Nat.min_eq_left (by omega)]
  apply Array.toList_inj.mp
  simp [List.extract]
  rw [List.take_of_length_le (by rw [List.length_drop];omega)]
 ·simp;omega
end L2
namespace FL
open PySem L2 PySem.Spec
open PyProof.Rows hiding St
variable [Cs]
section
variable {K:PySem.W.Frag}{X:Cx}{e ke:Expr}{f k:EF}{pos:Pos}
theorem zlb{y name:Str}{py apos cpos:Pos}(i:Nat)(hnm:name="insert") (ha:PE X (.Name y py) (zgE i)) (hk:PV K X ke k) (he:PV K X e f)
  (hbase:attributeBase (.Name y py) name X.env (eval (.Name y py) X.env)=eval (.Name y py) X.env:=by rfl)
  (hfew:((backTo cpos (starEach [ke,e] X.env)).all (fun x=>!x.1)&&(backToKw cpos (keywordEach [] X.env)).all (fun x=>x.1.isSome)&&decide ([ke,e].length+([]:List Keyword).length+(if([]:List Keyword).isEmpty then 0 else 1)<30))=true:=by rfl)
  (hline:(apos.endLine==cpos.line)=true:=by rfl) (hst:starEach [ke,e] X.env=(false,eval ke X.env)::starEach [e] X.env:=by rfl) (hst2:starEach [e] X.env=(false,eval e X.env)::starEach [] X.env:=by rfl) (hplain:(backTo cpos (starEach [e] X.env)).any (·.1)=false:=by rfl)
  (hs:swapsWith (.Call (.Attribute (.Name y py) name apos) [ke,e] [] cpos) none pos.line X.env=pure false:=by rfl):PSV K X (.Expr (.Call (.Attribute (.Name y py) name apos) [ke,e] [] cpos) pos) (zuq i k f):=fun hK C=>by
 subst hK
 subst hnm
 refine(zmt (zqH PySem.F.plainAttrs_list PySem.F.slot_list_insert PySem.F.type_list_insert zmM ha (zbx (hk rfl) (zbx (he rfl) zd6 hst2) hst) hbase hfew hline hst hplain) hs).weak fun Dn σ H=>?_
 rintro⟨ρ,rel,g⟩
 obtain⟨d,ed,g1⟩:=g.bnd
 obtain⟨a,vs0,at0,h0,_⟩:=rel.rel.zrp ed
 refine⟨.ref a,at0.2,.inl ⟨rfl,vs0,SqL.of h0⟩,zlC rel g1 fun dk ρ1 vk H1 rel1 st1 fzk g2=>zlC rel1 g2 fun dx ρ2 v H2 rel2 st2 fz g3=>?_⟩
 obtain⟨c,ec,g4⟩:=g3.bnd
 obtain⟨c',ec',g5⟩:=g4.bnd
 obtain⟨vs,at2,h1,h2⟩:=rel2.rel.zuk ec at0
 cases dk with
 | int j =>
  simp only [Fz] at fzk
  subst fzk
  obtain⟨cc,ec'⟩:=zap ec'
  cases ec'
  simp only [Bool.and_eq_true,decide_eq_true_eq] at cc
  obtain⟨⟨j0,j1⟩,j2⟩:=cc
  have j1:=zbK j1
  have j2:=zbK j2
  have l0:=zaD
  have lv:=h2.len
  refine⟨a,vs,j,v,rfl,rfl,h1,by omega,j0,by omega,zoX (d:=.list (c.take j.toNat++dx::c.drop j.toNat)) rel2 at2 ⟨_,zak,((h2.take _).app ?_).mono (znc rel2 at2)⟩ g5⟩
  simp only [zaf]
  exact⟨v,_,rfl,fz,h2.drop _⟩
 | _=>exact nomatch (show(R.bad:R (List D))=.ok c' from ec')
end
end FL
namespace L2
open PySem PySem.Spec
open PySem.Builtin.Str (strSub)
variable {X:Cx}
theorem zmL:MtR X "str.startswith" (fun x vs H Q=>∃ a b,x=.str a/\vs=[.str b]/\Q (.bl (Txt.startswith a b)) H):=by
 intro pins s σ H x vs v us Q I rx rv h
 obtain⟨a,b,rfl,rfl,q⟩:=h
 obtain⟨t,rfl⟩:=rx
 obtain⟨u,rfl,ru⟩:=rv.one
 obtain⟨t2,rfl⟩:=ru
 exact PySem.SC.startswith ⟨.bl _,H,I,rfl,q⟩
theorem zir:∀(n:Nat) (xs:List Str),Vals (xs.map V.str) (strsFrom n xs)
 | _,[]=>.nil
 | n,x::r=>.cons ⟨n,rfl⟩ (zir (n+1) r)
theorem zoE:MtR X "str.split" (fun x vs H Q=>∃ a b,x=.str a/\vs=[.str b]/\(b.length==0)=false/\a.length<sizeLine/\(Txt.split a b).length<=sizeLine/\(Builtin.Str.partsBetween a (Builtin.Str.occurrences a b 0 a.length (a.length+1)) b.length).length<=sizeLine/\∀ l,H l=none->Q (.ref l) (upd H l (.lst ((Txt.split a b).map V.str)))):=by
 intro pins s σ H x vs v us Q I rx rv h
 obtain⟨a,b,rfl,rfl,hy,hz,hz2,hz3,q⟩:=h
 obtain⟨t,rfl⟩:=rx
 obtain⟨w,rfl,ru⟩:=rv.one
 obtain⟨u,rfl⟩:=ru
 have one:Txt.split a b=[a]->EP X pins σ Q (.ref s.heap.objs.size) { s with heap:=s.heap.push { cls:=.type "list",data:=.seq [Value.str a t].toArray },toks:=s.toks }:=fun e=>by
  refine⟨.ref _,_,I.zum (t':=s.toks) (ys:=(Txt.split a b).map V.str) (its:=[Value.str a t]) ?_ (by rw [List.length_map];exact hz2),rfl,q _ I.fresh⟩
  rw [e]
  exact .cons ⟨t,rfl⟩ .nil
 cases h1:(decide (a.length<b.length)||decide (Builtin.Str.strKind a<Builtin.Str.strKind b))
 ·cases hf:(Builtin.Str.occurrences a b 0 a.length (a.length+1)).isEmpty
  ·refine call_meets F.slot_str_split (typeIs_str _ _ _) F.entry_str_split (F.args_str_split_2 _ _) (meets_str_split_sep a b t u h1 hy hf (by omega) hz3) ?_
   refine⟨.ref _,_,I.zum (ys:=(Txt.split a b).map V.str) (its:=strsFrom s.toks _) ?_ (by rw [List.length_map];exact hz2),rfl,q _ I.fresh⟩
   rw [show Txt.split a b=_ from(if_neg (ne_true_of_eq_false h1)).trans (if_neg (ne_true_of_eq_false hf))]
   exact zir _ _
  ·exact call_meets F.slot_str_split (typeIs_str _ _ _) F.entry_str_split (F.args_str_split_2 _ _) (meets_str_split_not_found a b t u h1 hy hf) (one ((if_neg (ne_true_of_eq_false h1)).trans (if_pos hf)))
 ·exact call_meets F.slot_str_split (typeIs_str _ _ _) F.entry_str_split (F.args_str_split_2 _ _) (meets_str_split_cannot_occur a b t u h1) (one (if_pos h1))
def zfO(a b:Str):List Str:=match Builtin.Str.occurrences a b 0 a.length 1 with
 | i::_=>[strSub a 0 i,b,strSub a (i+b.length) a.length]
 | []=>[a,Str.empty,Str.empty]
theorem ziI:MtR X "str.partition" (fun x vs H Q=>∃ a b,x=.str a/\vs=[.str b]/\(b.length==0)=false/\a.length<=sizeLine/\∀ l,H l=none->Q (.ref l) (upd H l (.tup ((zfO a b).map V.str)))):=by
 intro pins s σ H x vs v us Q I rx rv h
 obtain⟨a,b,rfl,rfl,hy,hz,q⟩:=h
 obtain⟨t,rfl⟩:=rx
 obtain⟨w,rfl,ru⟩:=rv.one
 obtain⟨u,rfl⟩:=ru
 refine call_meets F.slot_str_partition (typeIs_str _ _ _) F.entry_str_partition (F.args_str_partition_2 _ _) (meets_str_partition a b t u hy hz) ?_
 have l3:(3:Nat)<=sizeLine:=by rw [sizeLine_eq];decide
 have hq:=q _ I.fresh
 unfold zfO at hq
 revert hq
 cases Builtin.Str.occurrences a b 0 a.length 1 with
 | nil=>exact fun hq=>⟨.ref _,_,I.laid (a:=s.heap.objs.size) (o:=.tup ([a,Str.empty,Str.empty].map V.str)) (fun _ _ e=>Heap.get?_push_of_some _ e) (Nat.le_refl _) ⟨l3,[.str a t,.str Str.empty s.toks,.str Str.empty s.toks],.cons ⟨_,rfl⟩ (.cons ⟨_,rfl⟩ (.cons ⟨_,rfl⟩ .nil)),⟨_,Heap.get?_push_size _ rfl,rfl,_,rfl⟩⟩,rfl,hq⟩
 | cons i r=>exact fun hq=>⟨.ref _,_,I.laid (a:=s.heap.objs.size) (o:=.tup ([strSub a 0 i,b,strSub a (i+b.length) a.length].map V.str)) (fun _ _ e=>Heap.get?_push_of_some _ e) (Nat.le_refl _) ⟨l3,[.str (strSub a 0 i) s.toks,.str b u,.str (strSub a (i+b.length) a.length) (s.toks+1)],.cons ⟨_,rfl⟩ (.cons ⟨_,rfl⟩ (.cons ⟨_,rfl⟩ .nil)),⟨_,Heap.get?_push_size _ rfl,rfl,_,rfl⟩⟩,rfl,hq⟩
theorem zg1:∀{xs:List Str} {its:List Value},Vals (xs.map V.str) its->∃ ls:List (Str×Tok),strValues ls=its/\ls.map (·.1)=xs
 | [],_,h=>by cases h;exact⟨[],rfl,rfl⟩
 | x::xs,_,h=>by
  cases h with
  | cons h1 h2 =>
   obtain⟨t,rfl⟩:=h1
   obtain⟨ls,e1,e2⟩:=zg1 h2
   exact⟨(x,t)::ls,by rw [<- e1];rfl,by rw [List.map_cons,e2]⟩
theorem zqR:MtR X "str.join" (fun x vs H Q=>∃ a l xs,x=.str a/\vs=[.ref l]/\SqL X.K H l (xs.map V.str)/\JoinOk a xs=true/\Q (.str (Txt.join a xs)) H):=by
 intro pins s σ H x vs v us Q I rx rv h
 obtain⟨a,l,xs,rfl,rfl,hl,ok,q⟩:=h
 obtain⟨t,rfl⟩:=rx
 obtain⟨w,rfl,ru⟩:=rv.one
 cases ru
 obtain⟨its,r,pl,z⟩:=I.list hl
 obtain⟨ls,e1,e2⟩:∃ ls:List (Str×Tok),strValues ls=its/\ls.map (·.1)=xs:=zg1 r
 subst e1
 refine PySem.SC.join (l:=ls) ?_ e2 ok fun t' k=>⟨.str _,H,I.tok _,⟨_,rfl⟩,q⟩
 obtain⟨o,n,h1,h2,h3,h4⟩:=pl
 exact⟨o,h1,h2,n,h4⟩
end L2
namespace FL
open PySem L2 PySem.Spec
open PyProof.Rows hiding St
def strOf:D->R Str
 | .str a=>.ok a
 | _=>.bad
def eS1(g:Str->D->R D)(f h:EF):EF:=fun ρ=>(f ρ).bind fun x=>(strOf x.1).bind fun a=>(h x.2).bind fun y=>(g a y.1).bind fun d=>.ok (d,y.2)
def zhI(a:Str):D->R D
 | .str b=>.ok (.bool (Txt.startswith a b))
 | _=>.bad
def strsOf:List D->Option (List Str)
 | []=>some []
 | .str a::r=>(strsOf r).map (a::·)
 | _::_=>none
def zfG(a:Str):D->R D
 | .str b=>chk (!(b.length==0)&&leB (a.length+1) lim&&leB (Txt.split a b).length lim&&leB (Builtin.Str.partsBetween a (Builtin.Str.occurrences a b 0 a.length (a.length+1)) b.length).length lim) (.ok (.list ((Txt.split a b).map .str)))
 | _=>.bad
def zjC(a:Str):D->R D
 | .str b=>chk (!(b.length==0)&&leB a.length lim) (.ok (.tuple ((zfO a b).map .str)))
 | _=>.bad
def zgU(a:Str):D->R D
 | .list ds=>(R.of (strsOf ds)).bind fun xs=>chk (JoinOk a xs) (.ok (.str (Txt.join a xs)))
 | _=>.bad
variable [Cs]
section
variable {K:PySem.W.Frag}{X:Cx}{o e:Expr}{f h:EF}{pos:Pos}
def rS(K:PySem.W.Frag)(g:Str->D->R D):V->List V->Hp->VK->Prop:=fun x vs H Q=>∃ a dy d y,x=.str a/\vs=[y]/\Fz K H dy y/\g a dy=.ok d/\∀ v H',zaE H H'->Fz K H' d v->Q v H'
theorem zdK{g:Str->D->R D}{name:Str}{id:String}{apos cpos:Pos}(slot:Slot "str" name id) (hty:typeOf (.builtin id)=pure (.type "method_descriptor")) (hm:MtR X id (rS X.K g)) (ho:PV K X o f) (he:PV K X e h)
  (hbase:attributeBase o name X.env (eval o X.env)=eval o X.env:=by rfl)
  (hfew:((backTo cpos (starEach [e] X.env)).all (fun x=>!x.1)&&(backToKw cpos (keywordEach [] X.env)).all (fun x=>x.1.isSome)&&decide ([e].length+([]:List Keyword).length+(if([]:List Keyword).isEmpty then 0 else 1)<30))=true:=by rfl)
  (hline:(apos.endLine==cpos.line)=true:=by rfl) (hst:starEach [e] X.env=(false,eval e X.env)::starEach [] X.env:=by rfl) (hplain:(backTo cpos (starEach [] X.env)).any (·.1)=false:=by rfl) :
  PV K X (.Call (.Attribute o name apos) [e] [] cpos) (eS1 g f h):=fun hK=>by
 subst hK
 refine(zqH PySem.F.plainAttrs_str slot hty hm (ho rfl) (zbx (he rfl) zd6 hst) hbase hfew hline hst hplain).weak fun σ H Q q=>?_
 obtain⟨ρ,rel,q⟩:=q
 refine goV rel q fun dx ρ1 x H1 rel1 st1 fx q1=>?_
 obtain⟨a,ea,q2⟩:=q1.zdA
 cases dx with
 | str a' =>
  cases ea
  simp only [Fz] at fx
  subst fx
  refine⟨?_,goV rel1 q2 fun dy ρ2 y H2 rel2 st2 fy q3=>?_⟩
  ·rfl
  ·obtain⟨d,ed,q4⟩:=q3.zdA
   exact⟨a,dy,d,y,rfl,rfl,fy,ed,fun v H' s fz=>q4.new rel2 s v fz⟩
 | _=>exact nomatch (show(R.bad:R Str)=.ok a from ea)
theorem zoH:MtR X "str.startswith" (rS X.K zhI):=by
 intro pins s σ H x vs v us Q I rx rv h
 obtain⟨a,dy,d,y,rfl,rfl,fy,e,q⟩:=h
 cases dy with
 | str b =>
  cases e
  simp only [Fz] at fy
  subst fy
  exact zmL pins s σ H _ _ v us Q I rx rv ⟨a,b,rfl,rfl,q _ H (zaE.refl _) (by simp [Fz])⟩
 | _=>exact nomatch (show(R.bad:R D)=.ok d from e)
theorem zaf.ofStrs{H:Hp}:∀(xs:List Str),zaf K H (xs.map PyData.str) (xs.map V.str)
 | []=>rfl
 | x::xs=>⟨_,_,rfl,by simp [Fz],zaf.ofStrs xs⟩
theorem zaf.strs{H:Hp}:∀{ds:List D} {vs:List V} {xs:List Str},zaf K H ds vs->strsOf ds=some xs->vs=xs.map V.str
 | [],vs,xs,h,e=>by cases e;exact h
 | d::ds,vs,xs,h,e=>by
  simp only [zaf] at h
  obtain⟨v,r,rfl,h1,h2⟩:=h
  cases d with
  | str a =>
   obtain⟨ys,e1,rfl⟩:=Option.map_eq_some_iff.mp (show(strsOf ds).map (a::·)=some xs from e)
   simp only [Fz] at h1
   rw [h1,zaf.strs h2 e1]
   rfl
  | _=>exact nomatch (show none=some xs from e)
theorem ziJ:MtR X "str.join" (rS X.K zgU):=by
 intro pins s σ H x vs v us Q I rx rv h
 obtain⟨a,dy,d,y,rfl,rfl,fy,e,q⟩:=h
 cases dy with
 | list ds =>
  obtain⟨xs,e1',e⟩:=zaj (show(R.of (strsOf ds)).bind _=.ok d from e)
  obtain⟨c,e⟩:=zap e
  cases e
  simp only [Fz] at fy
  obtain⟨l,ws,rfl,fl,fa⟩:=fy
  have ew:=zaf.strs fa (zg8 e1')
  subst ew
  exact zqR pins s σ H _ _ v us Q I rx rv ⟨a,l,xs,rfl,rfl,fl.sq,c,q _ H (zaE.refl _) (by simp [Fz])⟩
 | _=>exact nomatch (show(R.bad:R D)=.ok d from e)
theorem m_split:MtR X "str.split" (rS X.K zfG):=by
 intro pins s σ H x vs v us Q I rx rv h
 obtain⟨a,dy,d,y,rfl,rfl,fy,e,q⟩:=h
 cases dy with
 | str b =>
  obtain⟨c,e⟩:=zap (show chk _ _=.ok d from e)
  cases e
  simp only [Fz] at fy
  subst fy
  simp only [Bool.and_eq_true,Bool.not_eq_true'] at c
  have l0:=zaD
  refine thn (zoE pins s σ H _ _ v us (fun v H1=>∃ p,v=.ref p/\H p=none/\H1=upd H p (.lst ((Txt.split a b).map V.str))) I rx rv ⟨a,b,rfl,rfl,c.1.1.1,?_,?_,?_,fun l hl=>⟨l,rfl,hl,rfl⟩⟩) fun _ _ z=>ziX (zaf.ofStrs _) q z
  ·have:=zbK c.1.1.2;omega
  ·have:=zbK c.1.2;omega
  ·have:=zbK c.2;omega
 | _=>exact nomatch (show(R.bad:R D)=.ok d from e)
theorem zpt:MtR X "str.partition" (rS X.K zjC):=by
 intro pins s σ H x vs v us Q I rx rv h
 obtain⟨a,dy,d,y,rfl,rfl,fy,e,q⟩:=h
 cases dy with
 | str b =>
  obtain⟨c,e⟩:=zap (show chk _ _=.ok d from e)
  cases e
  simp only [Fz] at fy
  subst fy
  simp only [Bool.and_eq_true,Bool.not_eq_true'] at c
  have l0:=zaD
  refine ziI pins s σ H _ _ v us Q I rx rv ⟨a,b,rfl,rfl,c.1,by have:=zbK c.2;omega,fun l hl=>q _ _ (fun z o hz=>by rw [zao (fun w=>by subst w;rw [hl] at hz;cases hz)];exact hz) ?_⟩
  simp only [Fz]
  exact⟨l,_,rfl,.inl zak,zaf.ofStrs _⟩
 | _=>exact nomatch (show(R.bad:R D)=.ok d from e)
end
end FL
namespace FL
open PySem L2 PySem.Spec
open PyProof.Rows hiding St
def zjl:D->D->R D
 | .str a,.str b=>chk (leB (a.length+b.length) lim) (.ok (.str (a++b)))
 | x,y=>zbk x y
def zsP:D->R D
 | .str a=>chk (leB a.length lim) (.ok (.int (a.length:Int)))
 | x=>zdY x
def inX(k d:D):R D:=match k,d with
 | .str a,.str b=>.ok (.bool (!(Builtin.Str.occurrences b a 0 b.length 1).isEmpty))
 | _,_=>zrq k d
def ixX:D->D->R D
 | .str a,.int i=>chk (leB a.length lim) ((R.of (FL.atI a.cps.toList i)).bind fun c=>.ok (.str ⟨#[c]⟩))
 | x,y=>ixD x y
variable [Cs]
section
variable {K:PySem.W.Frag}{X:Cx}
theorem zg9:OpR X (binaryOp .Add) (rD X.K zjl):=by
 intro pins s σ H x y v u Q I rx ry h
 obtain⟨dx,dy,d,tx,ty,e,q⟩:=h
 have old:zjl dx dy=zbk dx dy->_:=fun z=>zce pins s σ H x y v u Q I rx ry ⟨dx,dy,d,tx,ty,z▸e,q⟩
 cases dx with
 | str a =>
  cases dy with
  | str b =>
   obtain⟨c,e⟩:=zap (show chk _ _=.ok d from e)
   cases e
   have hx:x=.str a:=by simpa [Tp,Fz] using tx
   have hy:y=.str b:=by simpa [Tp,Fz] using ty
   subst hx hy
   obtain⟨t,rfl⟩:=rx
   obtain⟨t2,rfl⟩:=ry
   have l0:=zaD
   exact PySem.SB.add (fun t' k=>⟨.str _,H,I.tok _,⟨_,rfl⟩,q _ H (zaE.refl _) (by simp [Fz])⟩) (by have:=zbK c;omega)
  | _=>exact old rfl
 | _=>exact old rfl
theorem ztl:CallD X (.builtin "len") zsP:=by
 intro pins s σ H xs us Q I r h
 obtain⟨x,dx,d,rfl,tx,e,q⟩:=h
 have old:zsP dx=zdY dx->_:=fun z=>zjZ pins s σ H [x] us Q I r ⟨x,dx,d,rfl,tx,z▸e,q⟩
 cases dx with
 | str a =>
  obtain⟨c,e⟩:=zap (show chk _ _=.ok d from e)
  cases e
  have hx:x=.str a:=by simpa [Tp,Fz] using tx
  subst hx
  have l0:=zaD
  exact zi3 pins s σ H _ us Q I r ⟨a,rfl,by have:=zbK c;omega,q _ H (zaE.refl _) (by simp [Fz])⟩
 | _=>exact old rfl
theorem zug(hu:X.A.units+80<cLine):OpR X (compareOp .In) (rD X.K inX):=by
 intro pins s σ H x y v u Q I rx ry h
 obtain⟨dx,dy,d,tx,ty,e,q⟩:=h
 have old:inX dx dy=zrq dx dy->_:=fun z=>zpo hu pins s σ H x y v u Q I rx ry ⟨dx,dy,d,tx,ty,z▸e,q⟩
 cases dx with
 | str a =>
  cases dy with
  | str b =>
   cases (show R.ok _=.ok d from e)
   have hx:x=.str a:=by simpa [Tp,Fz] using tx
   have hy:y=.str b:=by simpa [Tp,Fz] using ty
   subst hx hy
   exact zmC pins s σ H _ _ v u Q I rx ry ⟨a,b,rfl,rfl,q _ H (zaE.refl _) (by simp [Fz])⟩
  | _=>exact old rfl
 | _=>exact old rfl
theorem zuf:IxR X (rD X.K ixX):=by
 intro value slice pins s σ H x y v u Q I rx ry h hs
 obtain⟨dx,dy,d,tx,ty,e,q⟩:=h
 have old:ixX dx dy=ixD dx dy->_:=fun z=>zg0 value slice pins s σ H x y v u Q I rx ry ⟨dx,dy,d,tx,ty,z▸e,q⟩ hs
 cases dx with
 | str a =>
  cases dy with
  | int i =>
   obtain⟨c,e⟩:=zap (show chk _ _=.ok d from e)
   obtain⟨w,ew,e⟩:=zaj e
   cases e
   have hx:x=.str a:=by simpa [Tp,Fz] using tx
   have hy:y=.int i:=by simpa [Tp,Fz] using ty
   subst hx hy
   have l0:=zaD
   exact zsY value slice pins s σ H _ _ v u Q I rx ry ⟨a,i,w,rfl,rfl,by have:=zbK c;omega,zg8 ew,q _ H (zaE.refl _) (by simp [Fz])⟩ hs
  | _=>exact old rfl
 | _=>exact old rfl
end
end FL
namespace L2
open PySem PySem.Spec
variable {X:Cx}{e:Expr}{te:TE}{pos:Pos}
def zvy(v:V)(H:Hp)(Q:VK):Prop:=(∃ i,v=.int i/\i.natAbs.log2<1920/\Q (.str (toString i)) H)\/∃ z:Str,v=.str z/\z.length<=sizeLine/\Q (.str z) H
theorem zt8(he:PE X e te):PE X (.FormattedValue e (-1) none pos) (fun σ H Q=>te σ H fun v H1=>zvy v H1 Q):=by
 intro pins s σ H Q I h
 refine wpAny_FormattedValue_plain (thn (he pins s σ H _ I h) fun v s1 ⟨x,H1,I1,r1,q⟩=>?_)
 rcases q with⟨i,rfl,hd,q⟩|⟨z,rfl,hz,q⟩
 ·obtain⟨t,rfl⟩:=r1
  exact wpAny_formatField_int hd ⟨.str _,H1,(I1.tok _),⟨_,rfl⟩,q⟩
 ·obtain⟨t,rfl⟩:=r1
  exact wpAny_formatField_str ⟨.str _,H1,I1,⟨_,rfl⟩,q⟩ ⟨.str _,H1,I1.tok _,⟨_,rfl⟩,q⟩ hz
theorem zst(he:PE X e te):PE X (.JoinedStr [e] pos) te:=fun pins s σ H Q I h=>wpAny_JoinedStr_one (he pins s σ H Q I h)
inductive PJ(X:Cx):List Expr->List TE->Prop where
 | nil:PJ X [] []
 | cons {e:Expr} {t:TE} {es:List Expr} {ts:List TE} (h:PE X e t) (r:PJ X es ts):PJ X (e::es) (t::ts)
def tJ:List TE->Str->TE
 | [],acc=>fun _ H Q=>acc.length<=sizeLine/\Q (.str acc) H
 | t::r,acc=>fun σ H Q=>t σ H fun v H1=>∃ y:Str,v=.str y/\(acc++y).length<=sizeLine/\tJ r (acc++y) σ H1 Q
theorem zsf:∀{es:List Expr} {ts:List TE},PJ X es ts->∀(acc:Str) (pins:List (Addr×Obj)) (s:Shared) (σ:St) (H:Hp) (Q:VK),Inv X pins σ H s->tJ ts acc σ H Q ->
  Joins (model X.prog X.w) X.A X.xe (evalEach es X.env) acc (fun out s1=>out.length<=sizeLine/\EP X pins σ Q (.str out s1.toks) { s1 with toks:=s1.toks+1 }) s
 | _,_,.nil,acc,pins,s,σ,H,Q,I,h=>⟨h.1,.str _,H,I.tok _,⟨_,rfl⟩,h.2⟩
 | _,_,.cons he r,acc,pins,s,σ,H,Q,I,h=>by
  refine thn (he pins s σ H _ I h) fun v s1 ⟨x,H1,I1,r1,y,hy,hz,q⟩=>?_
  subst hy
  obtain⟨t,rfl⟩:=r1
  exact⟨y,t,rfl,hz,zsf r _ pins s1 σ H1 Q I1 q⟩
theorem zt9{e1 e2:Expr}{es:List Expr}{ts:List TE}(h:PJ X (e1::e2::es) ts):PE X (.JoinedStr (e1::e2::es) pos) (tJ ts Str.empty):=fun pins s σ H Q I q=>wpAny_JoinedStr (zsf h _ pins s σ H Q I q)
end L2
namespace FL
open PySem L2 PySem.Spec
open PyProof.Rows hiding St
def znM:D->R D
 | .int i=>chk (leB (i.natAbs.log2+1) 1920) (.ok (.str (toString i)))
 | .str a=>chk (leB a.length lim) (.ok (.str a))
 | _=>.bad
def eJ:List EF->Str->EF
 | [],acc=>fun ρ=>chk (leB acc.length lim) (.ok (.str acc,ρ))
 | f::r,acc=>fun ρ=>(f ρ).bind fun x=>(strOf x.1).bind fun y=>chk (leB (acc++y).length lim) (eJ r (acc++y) x.2)
variable [Cs]
section
variable {K:PySem.W.Frag}{X:Cx}{e:Expr}{f:EF}{pos:Pos}
theorem zld(he:PV K X e f):PV K X (.FormattedValue e (-1) none pos) (e1 znM f):=fun hK=>by
 subst hK
 refine(zt8 (he rfl)).weak fun σ H Q q=>?_
 obtain⟨ρ,rel,q⟩:=q
 refine goV rel q fun dx ρ1 x H1 rel1 st1 fx q1=>?_
 obtain⟨d,ed,q2⟩:=q1.zdA
 have l0:=zaD
 cases dx with
 | int i =>
  obtain⟨c,ed⟩:=zap (show chk _ _=.ok d from ed)
  cases ed
  simp only [Fz] at fx
  subst fx
  exact .inl ⟨i,rfl,by have:=zbK c;omega,q2.new rel1 (zaE.refl _) _ (by simp [Fz])⟩
 | str a =>
  obtain⟨c,ed⟩:=zap (show chk _ _=.ok d from ed)
  cases ed
  simp only [Fz] at fx
  subst fx
  exact .inr ⟨a,rfl,by have:=zbK c;omega,q2.new rel1 (zaE.refl _) _ (by simp [Fz])⟩
 | _=>exact nomatch (show(R.bad:R D)=.ok d from ed)
theorem zpi(he:PV K X e f):PV K X (.JoinedStr [e] pos) f:=fun hK=>zst (he hK)
inductive PJV(K:PySem.W.Frag)(X:Cx):List Expr->List EF->Prop where
 | nil:PJV K X [] []
 | cons {e:Expr} {f:EF} {es:List Expr} {fs:List EF} (h:PV K X e f) (r:PJV K X es fs):PJV K X (e::es) (f::fs)
theorem PJV.go{es:List Expr}{fs:List EF}(h:PJV X.K X es fs):PJ X es (fs.map (tV X.K)):=by
 induction h with
 | nil=>exact .nil
 | cons h _ ih=>exact .cons (h rfl) ih
theorem goJ:∀(fs:List EF) (acc:Str) (ρ:En) (σ:L2.St) (H:Hp) (Q:VK),Rel X.K ρ σ H->Good X.K ρ σ H (eJ fs acc ρ) (fun d _ H'=>∀ v,Fz X.K H' d v->Q v H')->tJ (fs.map (tV X.K)) acc σ H Q
 | [],acc,ρ,σ,H,Q,rel,g=>by
  obtain⟨c,e⟩:leB acc.length lim=true/\eJ [] acc ρ=.ok (.str acc,ρ):=by
   cases c:leB acc.length lim with
   | true=>exact⟨rfl,by show chk _ _=_;rw [zah c]⟩
   | false =>
    have:eJ [] acc ρ=.bad:=by show chk _ _=_;rw [c];rfl
    rw [this] at g
    exact g.elim
  rw [e] at g
  have l0:=zaD
  exact⟨by have:=zbK c;omega,g.new rel (zaE.refl _) _ (by simp [Fz])⟩
 | f::r,acc,ρ,σ,H,Q,rel,g=>by
  refine goV rel g fun dx ρ1 x H1 rel1 st1 fx g1=>?_
  obtain⟨y,ey,g2⟩:=g1.zdA
  have l0:=zaD
  cases dx with
  | str a =>
   cases ey
   simp only [Fz] at fx
   subst fx
   cases c:leB (acc++y).length lim with
   | true =>
    rw [zah c] at g2
    exact⟨y,rfl,by have:=zbK c;omega,goJ r _ ρ1 σ H1 Q rel1 g2⟩
   | false =>
    rw [c] at g2
    exact g2.elim
  | _=>exact nomatch (show(R.bad:R Str)=.ok y from ey)
theorem zr5{a b:Expr}{es:List Expr}{fs:List EF}(h:PJV K X (a::b::es) fs):PV K X (.JoinedStr (a::b::es) pos) (eJ fs Str.empty):=fun hK=>by
 subst hK
 refine(zt9 h.go).weak fun σ H Q q=>?_
 obtain⟨ρ,rel,q⟩:=q
 exact goJ fs _ ρ σ H Q rel q
end
end FL
namespace L2
open PySem PySem.Spec
variable {X:Cx}
theorem zkr{v:Value}{o:Option Int}(h:IsPart v o):∃ l:Option (Int×Tok),v=partValue l/\o=l.map (·.1):=by
 cases h with
 | none=>exact⟨none,rfl,rfl⟩
 | _=>exact⟨some (_,_),rfl,rfl⟩
theorem zrO:SlR X (fun x lo hi H Q=>∃ z:Str,x=.str z/\z.length<=sizeLine/\Q (.str (Txt.slice z lo hi)) H):=by
 intro pins s σ H x v vl vu lo hi sl Q I rx hs pl pu h
 obtain⟨z,rfl,hz,q⟩:=h
 obtain⟨t,rfl⟩:=rx
 refine⟨"str",_,F.slot_str_getitem.lookup,typeIs_str _ _ _,?_⟩
 have fin:EP X pins σ Q (.str (Txt.slice z lo hi) t) s/\∀ t' k,EP X pins σ Q (.str (Txt.slice z lo hi) t') { s with toks:=k }:=⟨⟨.str _,H,I,⟨_,rfl⟩,q⟩,fun t' k=>⟨.str _,H,I.tok _,⟨_,rfl⟩,q⟩⟩
 obtain⟨l,rfl,rfl⟩:=zkr pl
 obtain⟨u,rfl,rfl⟩:=zkr pu
 exact wpAny_getItem_str_slice (l:=l) (u:=u) (st:=none) hs rfl (post_val_or_str ⟨Nat.le_trans (Txt.slice_le z _ _) hz,fin.2⟩)
end L2
namespace FL
open PySem L2 PySem.Spec
open PyProof.Rows hiding St
def zkl(d:D)(lo hi:Option Int):R D:=match d with
 | .str a=>chk (leB a.length lim) (.ok (.str (Txt.slice a lo hi)))
 | _=>zcn d lo hi
def zuB(f:EF)(lo hi:OF):EF:=fun ρ=>(f ρ).bind fun x=>(lo x.2).bind fun l=>(hi l.2).bind fun u=>(zkl x.1 l.1 u.1).bind fun d=>.ok (d,u.2)
variable [Cs]
section
variable {K:PySem.W.Frag}{X:Cx}{a:Expr}{lo hi:Option Expr}{f:EF}{fl fh:OF}{pos:Pos}
def zvp(K:PySem.W.Frag):V->Option Int->Option Int->Hp->VK->Prop:=fun x lo hi H Q=>∃ dx d,Tp K H dx x/\zkl dx lo hi=.ok d/\∀ v H',zaE H H'->Fz K H' d v->Q v H'
theorem zrP:SlR X (zvp X.K):=by
 intro pins s σ H x v vl vu lo hi sl Q I rx hs pl pu h
 obtain⟨dx,d,tx,e,q⟩:=h
 have old:zkl dx lo hi=zcn dx lo hi->_:=fun z=>ztT pins s σ H x v vl vu lo hi sl Q I rx hs pl pu ⟨dx,d,tx,z▸e,q⟩
 cases dx with
 | str z =>
  obtain⟨c,e⟩:=zap (show chk _ _=.ok d from e)
  cases e
  have hx:x=.str z:=by simpa [Tp,Fz] using tx
  subst hx
  have l0:=zaD
  exact zrO pins s σ H _ v vl vu lo hi sl Q I rx hs pl pu ⟨z,rfl,by have:=zbK c;omega,q _ H (zaE.refl _) (by simp [Fz])⟩
 | _=>exact old rfl
theorem zmo{p2:Pos}(he:PV K X a f)(hl:PVO K X lo fl)(hu:PVO K X hi fh):PV K X (.Subscript a (.Slice lo hi none p2) pos) (zuB f fl fh):=fun hK=>by
 subst hK
 exact(zot zrP (he rfl) (hl rfl) (hu rfl)).weak fun σ H Q=>by
  rintro⟨ρ,rel,q⟩
  refine goV rel q fun dx ρ1 x H1 rel1 st1 fx q1=>goO rel1 q1 fun l ρ2 H2 rel2 st2 q2=>goO rel2 q2 fun u ρ3 H3 rel3 st3 q3=>?_
  obtain⟨d,ed,q4⟩:=q3.zdA
  exact⟨dx,d,((fx.mono (st2.fzn rel1)).mono (st3.fzn rel2)).tp,ed,fun v H' s fz=>q4.new rel3 s v fz⟩
end
end FL
namespace FL
open PySem L2 PySem.Spec
open PyProof.Rows hiding St
def ztD:D->R D
 | .str a=>chk (leB a.length 640) ((R.of (PySem.intText? a)).bind fun n=>.ok (.int n))
 | x=>intD x
variable [Cs]
section
variable {X:Cx}
theorem ztm:CallD X (.type "int") ztD:=by
 intro pins s σ H xs us Q I r h
 obtain⟨x,dx,d,rfl,tx,e,q⟩:=h
 have old:ztD dx=intD dx->_:=fun z=>zuH pins s σ H [x] us Q I r ⟨x,dx,d,rfl,tx,z▸e,q⟩
 cases dx with
 | str a =>
  obtain⟨c,e⟩:=zap (show chk _ _=.ok d from e)
  obtain⟨n,en,e⟩:=zaj e
  cases e
  have hx:x=.str a:=by simpa [Tp,Fz] using tx
  subst hx
  obtain⟨u,rfl,ru⟩:=vals1 r
  obtain⟨t,rfl⟩:=ru
  exact PySem.W.KIN.call_text (zg8 en) (zbK c) ⟨.int n,H,I.tok _,⟨_,rfl⟩,q _ H (zaE.refl _) (by simp [Fz])⟩
 | _=>exact old rfl
end
end FL
namespace L2
open PySem PySem.Spec PyProof.Rows
def znP(c:Nat):Str:=⟨#[c]⟩
def Its(x:Str):It:=⟨fun i _=>i<x.cps.size,fun i H v H'=>H'=H/\∃ c,x.cps[i]?=some c/\v=.str (znP c),fun i _=>x.cps.size<=i⟩
theorem znV{P:Program}{w:World}{K:PySem.W.Frag}{tg:Expr}(x:Str)(t:Tok)(it:Addr):Turn P w K tg (Its x) [it] it (fun i h=>h.IsStrIter it "str_ascii_iterator" x t i) where
 mem:=by simp
 obj:=fun i h st b hb=>by
  have e:b=it:=by simpa using hb
  subst e
  obtain⟨o,e,c,d⟩:=st
  exact⟨o,e,fun v z=>by rw [d] at z;cases z⟩
 keep:=fun i h h' st k=>let⟨o,ho,r⟩:=st;⟨o,k it (by simp) o ho,r⟩
 item:=by
  intro X hP hw hK hc i pins s σ H E I hf st hg
  subst hP hw hK
  obtain⟨f0,f1,f2,f3,f4,f5⟩:=hf it (by simp)
  have hx:x.cps[i]?=some (x.cps[i]'hg):=Array.getElem?_eq_getElem hg
  refine wpAny_pyNext_ascii_item st hx fun h' st' sb=>?_
  have I1:Inv X pins σ H { s with heap:=h',toks:=s.toks+1 }:=I.turned (t':=s.toks+1) (fun b o hb e=>(sb.2 b hb).trans e) f0 f1 f3 f4 f5
  obtain⟨o,e,c,d⟩:=id st'
  exact⟨_,rfl,zoW (s:={ s with heap:=h',toks:=s.toks+1 }) e c d (by decide) ⟨.str (znP (x.cps[i]'hg)),H,I1,⟨_,rfl⟩,⟨rfl,_,hx,rfl⟩,st',fun b hb=>(hf b hb).1⟩⟩
 done:=by
  intro X hP hw hK hc i pins s σ H E I hf st hg
  subst hP hw hK
  obtain⟨f0,f1,f2,f3,f4,f5⟩:=hf it (by simp)
  exact wpAny_pyNext_ascii_end (I.ok.hd hc) st (Array.getElem?_eq_none hg) fun h' eb=>⟨rfl,I.turned (t':=s.toks) (fun b o hb e=>eb b o hb e) f0 f1 f3 f4 f5⟩
 self:=fun _ _ _ _ _ st h=>wpAny_pyIter_striter_ascii st h
theorem zsg{X:Cx}{tg l:Expr}{tl:TE}(hl:PE X l tl):PI X tg l (fun σ H R=>tl σ H fun v H1=>∃ x,v=.str x/\x.cps.all (·<128)=true/\R (Its x) H1):=by
 intro pins s σ H R I h
 refine thn (hl pins s σ H _ I h) fun v s1 ⟨v0,H1,I1,r1,q1⟩=>?_
 obtain⟨x,rfl,ha,q⟩:=q1
 obtain⟨t,rfl⟩:=r1
 refine wpAny_pyIter_ascii ha ?_
 refine⟨s1.heap.objs.size,[s1.heap.objs.size],_,_,H1,rfl,I1.kept (t':=s1.toks) fun b o e=>Heap.get?_push_of_some _ e,znV x t _,⟨_,Heap.get?_push_size _ rfl,rfl,rfl⟩,fun b hb=>?_,q⟩
 have e:b=s1.heap.objs.size:=by simpa using hb
 subst e
 exact I1.znf (Nat.le_refl _) (I1.hok.fresh (Nat.le_refl _))
end L2
namespace FL
open PySem L2 PySem.Spec
open PyProof.Rows hiding St
def zph:D->R (List D)
 | .str x=>chk (x.cps.all (·<128)) (.ok (x.cps.toList.map fun c=>.str (znP c)))
 | _=>.bad
def iT(f:EF):IF:=fun ρ=>(f ρ).bind fun x=>(zph x.1).bind fun l=>.ok (l,x.2)
section
variable [Cs]{K:PySem.W.Frag}{X:Cx}{tg e:Expr}{f:EF}
theorem znS{H:Hp}(x:Str):Walk K (Its x) (x.cps.toList.map fun c=>.str (znP c)) H:=by
 refine⟨fun i d H' _ e=>?_,fun i H' _ h=>show x.cps.size<=i by simpa using h⟩
 rw [List.getElem?_map,Option.map_eq_some_iff] at e
 obtain⟨c,e1,rfl⟩:=e
 rw [Array.getElem?_toList] at e1
 have hi:i<x.cps.size:=by
  rcases Nat.lt_or_ge i x.cps.size with h|h
  ·exact h
  ·rw [Array.getElem?_eq_none h] at e1;cases e1
 refine⟨hi,fun v H'' y=>?_⟩
 obtain⟨rfl,c',e2,rfl⟩:=y
 rw [e1] at e2
 cases e2
 exact⟨zaE.refl _,by simp [Fz]⟩
theorem zqm(he:PV K X e f):PVI K X tg e (iT f):=fun hK=>by
 subst hK
 refine(zsg (he rfl)).weak fun σ H R=>?_
 rintro⟨ρ,rel,q⟩
 refine goV rel q fun dx ρ1 x H1 rel1 st1 fx q1=>?_
 obtain⟨items,ei,q2⟩:=q1.zdA
 cases dx with
 | str a =>
  obtain⟨c,ei⟩:=zap (show chk (a.cps.all (·<128)) (.ok (a.cps.toList.map fun c=>.str (znP c)))=.ok items from ei)
  cases ei
  simp only [Fz] at fx
  exact⟨a,fx,c,q2.now rel1 _ (znS a)⟩
 | _=>cases ei
end
end FL
namespace L2
open PySem PySem.Spec PyProof.Rows PySem.W
section
variable {X:Cx}{pins:List (Addr×Obj)}{σ:L2.St}{H:Hp}{s:Shared}{d f:Addr}
theorem zic{Q:VK}{E:Value->Shared->Prop}{xs:List V}{kd:List (Int×List Int)}(hu:X.A.units+3<cLine)(I:Inv X pins σ H s)(sq:SqL X.K H d xs)(hn:xs.length<64)
  (kc:zgs X.in1.in1 σ H f xs kd)(hq:∀(p:Array Nat) (a:Addr) (H':Hp),Arr xs.length p->Up (ltP kd) p xs.length->zaE H H'->H' a=none->Q (.ref a) (upd H' a (.lst (p.toList.map fun i=>xs.getD i .non)))) :
  wpAny (model X.prog X.w) X.A (call (.builtin "sorted") [.ref d] [(Str.ofString "key",.ref f)]) (EP X pins σ Q) E s:=by
 obtain⟨us,rv,p,hz⟩:=I.list sq
 have hxl:=rv.length
 refine call_function_entry_kw kind_sorted plain_sorted entry_sorted (ksk_s1 _ _) ?_
 unfold Builtin.«sorted»
 refine wpAny_bind (m:=checkCount "sorted" 1 1 _) (wpAny_pure ?_)
 refine wpAny_bind (collect_list p.isList ?_ (by rw [<- rv.length];exact hz))
 have keep:∀ b o,s.heap.get? b=some o->((s.heap.push (seqObj "list" #[] 0)).update s.heap.objs.size (Obj.mapSeq (·++us.toArray))).get? b=some o:=fun b o e =>
  ((Heap.SameBut.update ..).2 b (Nat.ne_of_lt (Heap.lt_size e))).trans (Heap.get?_push_of_some _ e)
 generalize (s.heap.push (seqObj "list" #[] 0)).update s.heap.objs.size (Obj.mapSeq (·++us.toArray))=h1 at keep ⊢
 have I1:Inv X pins σ H { s with heap:=h1 }:=I.kept (t':=s.toks) keep
 refine wpAny_bind (wpAny_newList ?_ (by rw [sizeLine_eq];omega))
 have hoL:(h1.push (seqObj "list" us.toArray 0)).get? h1.objs.size=some (seqObj "list" us.toArray 0):=Heap.get?_push_size _ rfl
 have I2:Inv X pins σ H { s with heap:=h1.push (seqObj "list" us.toArray 0) }:=I1.kept (s:={ s with heap:=h1 }) (t':=s.toks) fun b u e=>Heap.get?_push_of_some _ e
 have fa:zgB X pins H h1.objs.size:=I1.znf (Nat.le_refl _) (I1.hok.fresh (Nat.le_refl _))
 refine wpAny_bind (wpAny_holding (wpAny_call_entry_kw slot_list_sort ⟨_,hoL,rfl⟩ entry_list_sort ?body (ksk_l1 _ _)))
 case body =>
  show wpAny (model X.prog X.w) X.in1.in1.A (Builtin.«list.sort» ⟨[.ref h1.objs.size],[(Str.ofString "key",.ref f)]⟩) _ _ _
  rw [ksk_t1]
  refine ziw (X:=X.in1.in1) (by show X.A.units+1+1+1<cLine;omega) I2.in1.in1 hoL fa rv (by omega) kc fun p H' s' ar up sm ha I3=>⟨_,rfl,?_⟩
  refine wpAny_pure ⟨_,rfl,.ref h1.objs.size,_,I3.zro.zro,rfl,hq p _ H' (by rw [hxl];exact ar) (by rw [hxl];exact up) sm ha⟩
end
end L2
namespace FL
open PySem L2 PySem.Spec
open PyProof.Rows hiding St
def listOf:D->R (List D)
 | .list a=>.ok a
 | _=>.bad
def zfH(G:List D->R D)(d:D):R D:=(listOf d).bind fun ks=>chk (leB (ks.length+1) 64) ((zc7 G ks).bind fun ws=>chk (decide ws.Nodup) (.ok (.list ((zdk (ws.zip ks)).map (·.2)))))
section
variable [Cs]{K:PySem.W.Frag}{X:Cx}{H:Hp}
theorem zlc{x p1:Str}{k j:Nat}{G:List D->R D}{e:Expr}{f:EF}{p px kp pos:Pos}(c:Callee X.prog X.w X.K X.mg X.base x k [p1] (spP X.K 1 false G))(hr:zbZ j X.A)(hc:X.calm=true)(hgs:Gl X "sorted") (hms:X.mg "sorted"=none) (hgx:Gl X x) (he:PV K X e f) (hj:k+2<=j:=by decide)
  (hv:bootBuiltins "sorted"=some (.builtin "sorted"):=by decide +kernel) (hdx:(x==("__debug__":Str))=false:=by decide) (hs:starEach [e] X.env=(false,eval e X.env)::starEach [] X.env:=by rfl)
  (hst:backTo pos (starEach [e] X.env)=(false,eval e X.env)::backTo pos (starEach [] X.env):=by rfl) (hpl:(backTo pos (starEach [e] X.env)).any (·.1)=false:=by rfl) :
  PVN K X (.Call (.Name "sorted" p) [e] [⟨some "key",.Name x px,kp⟩] pos) (e1 (zfH G) f):=fun hK=>by
 subst hK
 obtain⟨fa,fd,hm,hkp,hb,F⟩:=c
 intro pins s σ H Q I h
 obtain⟨ρ,rel,q⟩:=h
 have q0:(tA X.K (zac f zal)) σ H fun vs H1=>∃ dd v ρ1,vs=[v]/\Rel X.K ρ1 σ H1/\Stp ρ ρ1 σ H H1/\Fz X.K H1 dd v/\Good X.K ρ1 σ H1 ((zfH G dd).bind fun d=>.ok (d,ρ1)) fun d ρ' H'=>∀ a,H a=none->zbF X.K H' a d->Q (.ref a) H':=by
  obtain⟨y,ey,q⟩:=q.bnd
  refine⟨ρ,rel,?_⟩
  show Good X.K ρ σ H ((f ρ).bind fun x=>(zal x.2).bind fun y=>.ok (x.1::y.1,y.2)) _
  rw [ey]
  intro H1 rel1 st1 vs fs
  simp only [zaf] at fs
  obtain⟨v,r,rfl,fv,rfl⟩:=fs
  exact⟨y.1,v,y.2,rfl,rel1,st1,fv,q.step st1⟩
 refine wpAny_Call_Name_kw (zfX I hgs hms hv ?_)
 refine callWith_kw (thn ((zcd he zcp hs rfl) pos pins s σ H _ I q0) fun us s1 ⟨vs,H1,I1,r1,dd,v,ρ1,evs,rel1,st1,fv,q1⟩=>?_) hst hpl rfl rfl
 subst evs
 cases r1 with
 | cons ru rn =>
  cases rn
  refine kws_cons (zh0 I1 hgx hm (kws_nil ?_) hdx)
  obtain⟨dr,edr,q2⟩:=q1.zdA
  obtain⟨ks,e1,edr⟩:=zaj (show(listOf dd).bind _=.ok dr from edr)
  obtain⟨cl,edr⟩:=zap edr
  obtain⟨ws,e2,edr⟩:=zaj edr
  obtain⟨cn,edr⟩:=zap edr
  cases edr
  cases dd with
  | list ks0 =>
   cases e1
   simp only [Fz] at fv
   obtain⟨d,xs,rfl,sx,fx⟩:=fv
   cases ru
   have hlen:=zbK cl
   have hu:=hr.un
   have hu:X.A.units+3<cLine:=by omega
   have rr:zbZ k X.in1.in1.A:=((hr.mono hj:zbZ (k+1+1) X.A).in1).in1
   have wlen:∀{ds:List D} {ws:List WK},zc7 G ds=.ok ws->ws.length=ds.length:=by
    intro ds
    induction ds with
    | nil=>intro ws h;cases h;rfl
    | cons d0 r0 ih =>
     intro ws h
     obtain⟨_,_,h⟩:=zaj (show(G [d0]).bind _=.ok ws from h)
     obtain⟨_,_,h⟩:=zaj h
     obtain⟨ws',e3,h⟩:=zaj h
     cases h
     simp [ih e3]
   have wl:=wlen e2
   refine zic (f:=fa) hu I1 sx.sq (by rw [fx.len];exact hlen) (zfZ (X:=X.in1.in1) rr hb F rel1.cst fx e2) fun pp a H' ar up sm ha=>?_
   rw [fx.len] at ar up
   have su:=ziv wl (of_decide_eq_true cn) ar up
   have sm2:zaE H1 (upd H' a (.lst (pp.toList.map fun i=>xs.getD i .non))):=zer sm (zaE.upd ha)
   refine q2.new rel1 sm2 a ?_ ?_
   ·have h1a:H1 a=none:=by
     cases e0:H1 a with
     | none=>rfl
     | some o=>rw [sm a o e0] at ha;cases ha
    exact st1.old rel1 h1a
   ·refine⟨_,zak,?_⟩
    rw [<- su]
    refine(fx.mono (Fzn.of sm2)).pick pp.toList fun i hi=>?_
    have:=(Array.perm_iff_toList_perm.mp ar.pm).mem_iff.mp hi
    simpa using this
  | _=>cases e1
end
end FL
namespace FL
open PySem L2 PySem.Spec
open PyProof.Rows hiding St
def zrn:D->R D
 | .int i=>chk (leB (i.natAbs.log2+1) 1920) (.ok (.str (toString i)))
 | _=>.bad
def ztN:D->R Bool
 | .str a=>chk (leB a.length lim) (.ok ((a.length:Int) != 0))
 | _=>.bad
def tX(f:EF):TF:=fun ρ=>(f ρ).bind fun x=>(ztN x.1).bind fun b=>.ok (b,x.2)
section
variable [Cs]{K:PySem.W.Frag}{X:Cx}{a:Expr}{f:EF}
theorem zkV:CallD X (.type "str") zrn:=by
 intro pins s σ H xs us Q I r h
 obtain⟨x,dx,d,rfl,tx,e,q⟩:=h
 cases dx with
 | int i =>
  obtain⟨c,e⟩:=zap (show chk _ _=.ok d from e)
  cases e
  have hx:=tx.int
  subst hx
  obtain⟨u,rfl,ru⟩:=vals1 r
  obtain⟨t,rfl⟩:=ru
  exact PySem.P.str_of_int (by have:=zbK c;omega) ⟨.str (toString i),H,I.tok _,⟨_,rfl⟩,q _ H (zaE.refl _) (by simp [Fz])⟩
 | _=>exact nomatch (show(R.bad:R D)=.ok d from e)
theorem zmj(h:PV K X a f)(he:∀ whole,isTrue a X.env whole=(do let v <- whole;standAt a.pos;holding [v] (truthy v)):=by intro _;rfl):PVT K X a (tX f):=fun hK=>by
 subst hK
 intro pins s σ H Q I q
 rw [he]
 obtain⟨ρ,rel,q⟩:=q
 refine wpAny_bind (thn (h rfl pins s σ H (fun x H'=>∃ k,zu8 X.K x H' k/\Q k H') I ?_) fun v s1 ⟨x,H1,I1,r1,q1⟩=>wpAny_bind (wpAny_standAt (wpAny_holding (zpe pins s1 σ H1 x v Q I1 r1 q1))))
 refine goV rel q fun dx ρ1 x H1 rel1 st1 fx q1=>?_
 obtain⟨d,ed,q2⟩:=q1.zdA
 cases dx with
 | str y =>
  obtain⟨c,e⟩:=zap (show chk _ _=.ok d from ed)
  cases e
  simp only [Fz] at fx
  subst fx
  exact⟨_,⟨Nat.le_trans (zbK c) zaD,rfl⟩,q2.now rel1⟩
 | _=>exact nomatch (show(R.bad:R Bool)=.ok d from ed)
end
end FL
namespace FL
open PySem L2 PySem.Spec
open PyProof.Rows hiding St
variable [Cs]
end FL
namespace FL
open PySem L2 PySem.Spec
open PyProof.Rows hiding St
variable [Cs]
def Frm(dom:List Nat)(σ σ':L2.St):Prop:=∀ i,i∉dom->σ'[i]?=σ[i]?
theorem Frm.refl{dom:List Nat}{σ:L2.St}:Frm dom σ σ:=fun _ _=>rfl
def EFr(dom:List Nat)(σ:L2.St)(Dn:Ends):Ends:={ nx:=fun σ' H'=>Frm dom σ σ'->Dn.nx σ' H',rt:=Dn.rt,bk:=fun σ' H'=>Frm dom σ σ'->Dn.bk σ' H',ct:=fun σ' H'=>Frm dom σ σ'->Dn.ct σ' H' }
def tSf(K:PySem.W.Frag)(C:SC)(dom:List Nat)(f:SF):TS:=fun Dn σ H=>tS K C f (EFr dom σ Dn) σ H
def PSF(K:PySem.W.Frag)(X:Cx)(dom:List Nat)(st:Stmt)(f:SF):Prop:=X.K=K->∀ C,PS X st (tSf K C dom f)
def zrw(K:PySem.W.Frag)(X:Cx)(dom:List Nat)(st:List Stmt)(f:SF):Prop:=X.K=K->∀ C,PSs X st (tSf K C dom f)
section
variable {K:PySem.W.Frag}{X:Cx}{dom:List Nat}{st:Stmt}{rest:List Stmt}{s t:SF}{e:Expr}{f:EF}{pos:Pos}
theorem zqu:zrw K X dom [] sNx:=fun _ C=>zmr.weak fun Dn σ H=>by
 rintro⟨ρ,rel,g⟩
 exact g σ H rel (Fzn.refl H) .refl
theorem zqt(h1:PSF K X dom st s):zrw K X dom [st] s:=fun hK C=>zjB (h1 hK C)
theorem zt4(he:PV K X e f):zrw K X dom [.Return (some e) pos] (zaw f):=fun hK C=>zjB ((zms (he hK)).weak fun Dn σ H=>by
 rintro⟨ρ,rel,g⟩
 exact zlC rel g fun d ρ1 v H1 rel1 st1 fz g1=>g1 v σ H1 rel1 fz)
theorem zsb{c:Expr}{a b:List Stmt}{tc:TF}(hc:PVT K X c tc)(ha:zrw K X dom a s)(hb:zrw K X dom b t):PSF K X dom (.If c a b pos) (sIf tc s t):=fun hK C=>(zsd (hc hK) (ha hK C) (hb hK C)).weak fun Dn σ H=>by
 rintro⟨ρ,rel,g⟩
 refine zuu rel g fun cb ρ1 H1 rel1 fz g1=>?_
 cases cb with
 | true=>exact zoP ⟨ρ1,rel1,g1⟩
 | false=>exact zoQ ⟨ρ1,rel1,g1⟩
end
open Classical in
noncomputable def zvZ(Z:Addr->Prop)(H:Hp):Hp:=fun b=>if Z b then(match H b with|some (.frz _ u)=>some u|z=>z) else H b
end FL
namespace FL
open PySem L2 PySem.Spec
open PyProof.Rows hiding St
def zrr(io:Nat)(g:GF)(b:SF):Nat->Nat->En->R (Fl×En)
 | 0,_,_=>.bad
 | n+1,i,ρ=>(zbr ρ io).bind fun l=>match l[i]? with
  | none=>.ok (.nx,ρ)
  | some d=>(g d ρ).bind fun ρ1=>(b ρ1).bind fun y=>match y.1 with
   | .nx | .ct=>zrr io g b n (i+1) y.2
   | .bk=>.ok (.nx,y.2)
   | .rt d=>.ok (.rt d,y.2)
   | .rf d=>.ok (.rf d,y.2)
def zp7(io:Nat)(g:GF)(b:SF):SF:=fun ρ=>(zbr ρ io).bind fun l=>zrr io g b (l.length+1) 0 ρ
section
variable [Cs]{K:PySem.W.Frag}{X:Cx}{tg:Expr}{g:GF}{b:SF}{body:List Stmt}{pos:Pos}
theorem zoa{y:Str}{py:Pos}{dom dm:List Nat}(io:Nat)(ha:PE X (.Name y py) (zgE io))(hg:PVG K X dm tg g)(hb:zrw K X dom body b)(hdm:dm.all (fun i=>decide (i∈dom))=true:=by decide)(hio:io∉dom:=by decide)(hp:PassesOwn (model X.prog X.w) X.A X.env X.xe:=by exact PassesOwn.never)(hc:X.calm=true:=by rfl)(hs:∀ x,foldedSetIterable (.Name y py) X.env x=pure x:=by intro _;rfl) :
  PSV K X (.For tg (.Name y py) body [] pos) (zp7 io g b):=fun hK C=>by
 subst hK
 refine(zpk hp hc (zqB ha) (hg rfl) (hb rfl C) hs).weak fun Dn σ0 H0=>?_
 rintro⟨ρ0,rel0,q⟩
 obtain⟨l0,e0,q0⟩:=q.bnd
 obtain⟨ad,vs0,at0,hh0,hf0⟩:=rel0.rel.zrp e0
 refine⟨.ref ad,at0.2,ad,rfl,⟨vs0,SqL.of hh0⟩,fun i m σ H=>∃ ρ,zds X.K C ρ σ H/\σ[io]?=some (some (.ref ad))/\zb6 X.K C H (zrr io g b m i ρ) Dn,⟨l0.length+1,ρ0,rel0,at0.2,q0⟩,?_⟩
 rintro i m σ H ⟨ρ,rel,hsg,gd⟩
 cases m with
 | zero=>exact gd.elim
 | succ n =>
  obtain⟨l,el,gd1⟩:=gd.bnd
  obtain⟨a1,vs,at1,hh1,hf1⟩:=rel.rel.zrp el
  have:a1=ad:=by have:=at1.2;rw [hsg] at this;cases this;rfl
  subst this
  cases ei:l[i]? with
  | none =>
   rw [ei] at gd1
   refine .inl ⟨⟨vs,SqL.of hh1,?_⟩,gd1 σ H rel (Fzn.refl _)⟩
   rw [hf1.len];exact List.getElem?_eq_none_iff.mp ei
  | some d =>
   rw [ei] at gd1
   obtain⟨v,ev,fv⟩:=hf1.get ei
   refine .inr ⟨⟨vs,v,SqL.of hh1,ev⟩,fun σ' H'=>∃ ρ,zds X.K C ρ σ' H'/\σ'[io]?=some (some (.ref a1))/\zb6 X.K C H' (zrr io g b n (i+1) ρ) Dn,fun σ' H' n'=>⟨n,Nat.lt_succ_self _,n'⟩,fun x H3 yl=>?_⟩
   obtain⟨rfl,yl⟩:=yl
   have ex0:=yl vs (SqL.of hh1)
   rw [ev] at ex0
   cases ex0
   obtain⟨ρ1,e1,gd2⟩:=(show zb6 X.K C H3 ((g d ρ).bind _) Dn from gd1).bnd
   refine⟨ρ,d,ρ1,rel.rel,fv,e1,fun σ1 rel4 chg=>?_⟩
   have hs1:σ1[io]?=some (some (.ref a1)):=by
    rcases chg.2 io with⟨_,c2⟩|⟨mm,_⟩
    ·rw [c2];exact hsg
    ·exact absurd (of_decide_eq_true (List.all_eq_true.mp hdm io mm)) hio
   refine⟨ρ1,rel.chg rel4 chg,?_⟩
   obtain⟨w,ew,gd3⟩:=gd2.bnd
   rw [ew]
   obtain⟨fl,ρ2⟩:=w
   cases fl with
   | nx=>exact fun σ' H' r z fm=>⟨ρ2,r,by rw [fm io hio];exact hs1,gd3.step z⟩
   | ct=>exact fun σ' H' r z fm=>⟨ρ2,r,by rw [fm io hio];exact hs1,gd3.step z⟩
   | bk=>exact fun σ' H' r z _=>gd3 σ' H' r z
   | rt d=>exact gd3
   | rf d=>exact gd3
end
end FL
namespace TX
open PySem PySem.StrLaws Builtin Builtin.Str L2
abbrev cp(x:Str):List Nat:=x.cps.toList
theorem ext{a b:Str}(h:cp a=cp b):a=b:=Str.ext' (Array.toList_inj.mp h)
theorem zaR(a b:Str):cp (a++b)=cp a++cp b:=by simp [cp,Str.cps_append]
theorem zdi(a:Str):a.length=(cp a).length:=by simp [cp,Str.length]
abbrev one(c:Nat):Str:=⟨#[c]⟩
theorem zkR{c:Nat}:∀{a b x y:List Nat},c∉a->c∉b->a++c::x=b++c::y->a=b/\x=y
 | [],[],x,y,_,_,h=>by simp at h;exact⟨rfl,h⟩
 | [],d::b,x,y,_,hb,h=>by simp at h;exact absurd (by simp [h.1]) hb
 | d::a,[],x,y,ha,_,h=>by simp at h;exact absurd (by simp [h.1]) ha
 | d::a,e::b,x,y,ha,hb,h=>by
  simp only [List.cons_append,List.cons.injEq] at h
  obtain⟨rfl,h⟩:=h
  obtain⟨rfl,rfl⟩:=zkR (fun z=>ha (List.mem_cons_of_mem _ z)) (fun z=>hb (List.mem_cons_of_mem _ z)) h
  exact⟨rfl,rfl⟩
theorem zcU(s p q:Str)(r:List Str):Str.join s (p::q::r)=p++s++Str.join s (q::r):=rfl
theorem zkE{c:Nat}:∀{ps qs:List Str},ps≠[]->qs≠[]->(∀ p∈ps,c∉cp p)->(∀ p∈qs,c∉cp p)->Str.join (one c) ps=Str.join (one c) qs->ps=qs
 | [],_,h,_,_,_,_=>absurd rfl h
 | _::_,[],_,h,_,_,_=>absurd rfl h
 | [p],[q],_,_,_,_,h=>by rw [show p=q from h]
 | [p],q::q'::r,_,_,hp,_,h=>by
  have h1:=congrArg cp h
  rw [zcU,zaR,zaR] at h1
  refine absurd ?_ (hp p (List.mem_cons_self ..))
  rw [show cp p=_ from h1]
  simp
 | p::p'::r,[q],_,_,_,hq,h=>by
  have h1:=congrArg cp h
  rw [zcU,zaR,zaR] at h1
  refine absurd ?_ (hq q (List.mem_cons_self ..))
  rw [show cp q=_ from h1.symm]
  simp
 | p::p'::r,q::q'::t,_,_,hp,hq,h=>by
  have h1:=congrArg cp h
  rw [zcU,zcU,zaR,zaR,zaR,zaR,List.append_assoc,List.append_assoc] at h1
  obtain⟨e1,e2⟩:=zkR (hp p (List.mem_cons_self ..)) (hq q (List.mem_cons_self ..)) (show cp p++c::cp (Str.join (one c) (p'::r))=cp q++c::cp (Str.join (one c) (q'::t)) from h1)
  rw [ext e1,zkE (by simp) (by simp) (fun x hx=>hp x (List.mem_cons_of_mem _ hx)) (fun x hx=>hq x (List.mem_cons_of_mem _ hx)) (ext e2)]
theorem znZ(x:Str)(c:Nat):Txt.split x (one c)≠[]:=by
 intro h
 have:=PyProof.Rows.split_pos x (one c)
 rw [h] at this
 exact absurd this (by decide)
theorem zk6{c:Nat}{ps:List Str}(h:ps≠[])(hp:∀ p∈ps,c∉cp p):Txt.split (Str.join (one c) ps) (one c)=ps :=
 zkE (znZ _ c) h (split_free _ c) hp (StrLaws.join_split _ _)
theorem zja{x:Str}{c i:Nat}:At x (one c) x.length i↔(cp x)[i]?=some c:=subAt_one x c i
theorem zqJ{c:Nat}{a:Str}(h:c∉cp a):zfO a (one c)=[a,Str.empty,Str.empty]:=by
 unfold zfO
 rcases occ_head a (one c) 1 (Nat.le_refl _) with⟨e,_⟩|⟨i,r,e,hi,_⟩
 ·rw [e]
 ·exact absurd (List.mem_of_getElem? (zja.mp hi)) h
theorem zo0(A B:List Nat)(c:Nat):((A++c::B).drop (A.length+1)).take ((A++c::B).length-(A.length+1))=B:=by
 rw [show A++c::B=(A++[c])++B by simp,show A.length+1=(A++[c]).length by simp,List.drop_left,List.length_append,Nat.add_sub_cancel_left,List.take_length]
theorem zkq{c:Nat}{a b:Str}(h:c∉cp a):zfO (a++one c++b) (one c)=[a,one c,b]:=by
 have hx:cp (a++one c++b)=cp a++c::cp b:=by rw [zaR,zaR,List.append_assoc];rfl
 have hA:(cp (a++one c++b))[(cp a).length]?=some c:=by rw [hx];simp
 have hlt:∀ i,i<(cp a).length->(cp (a++one c++b))[i]?≠some c:=fun i hi z=>by
  rw [hx,List.getElem?_append_left hi] at z
  exact h (List.mem_of_getElem? z)
 unfold zfO
 rcases occ_head (a++one c++b) (one c) 1 (Nat.le_refl _) with⟨_,n⟩|⟨i,r,e,hi,n⟩
 ·exact absurd (zja.mpr hA) (n _)
 ·rw [e]
  have h1:=zja.mp hi
  have ei:i=(cp a).length:=by
   rcases Nat.lt_trichotomy i (cp a).length with l|l|l
   ·exact absurd h1 (hlt i l)
   ·exact l
   ·exact absurd (zja.mpr hA) (n _ l)
  subst ei
  have l1:(one c).length=1:=rfl
  have s1:strSub (a++one c++b) 0 (cp a).length=a:=ext (by show(strSub _ _ _).cps.toList=_;rw [strSub_toList];show((cp (a++one c++b)).drop 0).take _=_;rw [hx];simp)
  have s2:strSub (a++one c++b) ((cp a).length+(one c).length) (a++one c++b).length=b:=ext (by
   show(strSub _ _ _).cps.toList=_
   rw [strSub_toList]
   show((cp (a++one c++b)).drop _).take _=_
   rw [zdi (a++one c++b),hx,l1]
   exact zo0 _ _ _)
  show [strSub _ 0 _,_,strSub _ _ _]=_
  rw [s1,s2]
abbrev T(i:Int):Str:=Str.ofString (toString i)
theorem zq9(n:Nat):cp (T (n:Int))=(Nat.toDigits 10 n).map Char.toNat:=PySem.W.KIN.signs_num n
theorem zq8(n:Nat):∀ c∈cp (T (n:Int)),48<=c/\c<=57:=by
 intro c hc
 rw [zq9] at hc
 obtain⟨ch,hch,rfl⟩:=List.mem_map.mp hc
 have:=Nat.isDigit_of_mem_toDigits (b:=10) (by decide) (by decide) hch
 unfold Char.isDigit at this
 simp only [Bool.and_eq_true,decide_eq_true_eq] at this
 exact⟨this.1,this.2⟩
theorem ne_T(n:Nat):cp (T (n:Int))≠[]:=by
 rw [zq9]
 intro e
 have:(Nat.toDigits 10 n).length=0:=by rw [List.map_eq_nil_iff.mp e];rfl
 have h2:=@Nat.length_toDigits_pos 10 n
 omega
theorem zs2{n:Nat}(h:0<n):∀ c r,cp (T (n:Int))=c::r->c≠48:=by
 induction n using Nat.strongRecOn with
 | _ m ih =>
  intro c r e
  by_cases hm:m<10
  ·rw [zq9,Nat.toDigits_of_lt_base hm] at e
   simp only [List.map_cons,List.map_nil,List.cons.injEq] at e
   have:∀ d:Nat,d<10->0<d->(Nat.digitChar d).toNat≠48:=by decide
   rw [<- e.1]
   exact this m hm h
  ·have t:Nat.toDigits 10 (m / 10)++Nat.toDigits 10 (m % 10)=Nat.toDigits 10 (10*(m / 10)+m % 10):=Nat.toDigits_append_toDigits (by decide) (by omega) (Nat.mod_lt m (by decide))
   rw [Nat.div_add_mod] at t
   rw [zq9,<- t,List.map_append] at e
   have i2:=ih (m / 10) (by omega) (by omega)
   rw [zq9] at i2
   cases hd:(Nat.toDigits 10 (m / 10)).map Char.toNat with
   | nil=>exact absurd hd (by have:=ne_T (m / 10);rw [zq9] at this;exact this)
   | cons c' r' =>
    rw [hd] at e i2
    simp only [List.cons_append,List.cons.injEq] at e
    rw [<- e.1]
    exact i2 c' r' rfl
theorem len_T{n k:Nat}(hk:0<k)(h:n<10^k):(T (n:Int)).length<=k:=PyProof.Rows.toString_length_le (Int.natCast_nonneg n) hk (by exact_mod_cast h)
theorem zsF{i:Int}(h:i<0):T i=one 45++T (0-i):=by
 show Str.ofString (toString i)=_
 rw [PyProof.Rows.toString_neg h]
 refine ext ?_
 rw [zaR]
 show(Str.ofString _).cps.toList=_
 rw [PyProof.Rows.signs_ofString]
 show _=[45]++(Str.ofString (toString (0-i))).cps.toList
 rw [PyProof.Rows.signs_ofString]
 simp
theorem zee(c:Nat)(hc:c≠45/\(c<48\/57<c))(i:Int):c∉cp (T i):=PyProof.Rows.int_text_free' c hc i
end TX
namespace FL
open PySem
theorem zeK{k:Nat}{ix:List Nat}{g:GF}{t:TF}{f:EF}{ρ:En}(P:D->Bool)(h:D->D):∀(items:List D) (acc:List D),acc.length+items.length<=lim ->
  (∀ x∈items,∃ β,g x (blk k ix ρ)=.ok β/\t β=.ok (P x,β)/\(P x=true->f β=.ok (h x,β))/\back ρ ix (β.drop k)=ρ)->zeg k ix g t f items ρ acc=.ok (acc++(items.filter P).map h,ρ)
 | [],acc,_,_=>by simp [zeg]
 | x::xs,acc,hl,hx=>by
  obtain⟨β,h1,h2,h3,h4⟩:=hx x (List.mem_cons_self ..)
  have rest:=fun y m=>hx y (List.mem_cons_of_mem x m)
  simp only [List.length_cons] at hl
  unfold zeg
  rw [h1,zaa,h2,zaa]
  cases c:P x with
  | true =>
   rw [if_pos rfl,h3 c,zaa,zah (zdj (by omega)),h4,zeK P h xs _ (by simp;omega) rest,List.filter_cons_of_pos c]
   simp
  | false =>
   rw [if_neg (by simp),h4,zeK P h xs acc (by omega) rest,List.filter_cons_of_neg (by simp [c])]
theorem zlG{k:Nat}{ix:List Nat}{it:IF}{g:GF}{t:TF}{f:EF}{ρ:En}{items:List D}(P:D->Bool)(h:D->D)(hi:it ρ=.ok (items,ρ))(hl:items.length<=lim)
  (hx:∀ x∈items,∃ β,g x (blk k ix ρ)=.ok β/\t β=.ok (P x,β)/\(P x=true->f β=.ok (h x,β))/\back ρ ix (β.drop k)=ρ):zcs k ix it g t f ρ=.ok (.list ((items.filter P).map h),ρ):=by
 unfold zcs
 rw [hi,zaa,zeK P h items [] (by simpa using hl) hx]
 rfl
theorem ziY{k:Nat}{ix:List Nat}{it:IF}{g:GF}{f:EF}{ρ:En}{items:List D}(h:D->D)(hi:it ρ=.ok (items,ρ))(hl:items.length<=lim)
  (hx:∀ x∈items,∃ β,g x (blk k ix ρ)=.ok β/\f β=.ok (h x,β)/\back ρ ix (β.drop k)=ρ):zcs k ix it g zb0 f ρ=.ok (.list (items.map h),ρ):=by
 rw [zlG (fun _=>true) h hi hl fun x m=>by
  obtain⟨β,h1,h2,h3⟩:=hx x m
  exact⟨β,h1,rfl,fun _=>h2,h3⟩]
 rw [List.filter_eq_self.mpr (fun _ _=>rfl)]
theorem zhj(ns:List Int):intsOf (ns.map PyData.int)=some ns:=by
 induction ns with
 | nil=>rfl
 | cons n ns ih=>simp [intsOf,ih]
theorem zj0(ns:List Bool):boolsOf (ns.map PyData.bool)=some ns:=by
 induction ns with
 | nil=>rfl
 | cons n ns ih=>simp [boolsOf,ih]
theorem zpd(bs:List Bool):ztv (.list (bs.map PyData.bool))=.ok (.bool (bs.all id)):=by
 show((R.of (boolsOf _)).bind _)=_
 rw [zj0];rfl
theorem zju(lo hi:Int):rng lo hi=((List.range (hi-lo).toNat).map fun(i:Nat)=>lo+(i:Int)).map PyData.int:=by
 unfold rng
 rw [List.map_map];rfl
def Pl(n:Nat)(d:D):Prop:=PyData.canLay0 d=true/\d.depth<=n
theorem Pl.shaped{n:Nat}{d:D}(h:Pl n d)(hn:n<=64:=by decide):SeqAt.shaped d=true:=by
 unfold SeqAt.shaped
 rw [h.1,decide_eq_true (Nat.le_trans h.2 hn)];rfl
theorem ze6(i:Int):Pl 0 (.int i):=⟨rfl,Nat.le_refl _⟩
theorem zmy{n:Nat}:∀{ds:List D},(∀ d∈ds,Pl n d)->PyData.canLayAll0 ds=true/\PyData.depthAll ds<=n
 | [],_=>⟨rfl,Nat.zero_le _⟩
 | d::ds,h=>by
  obtain⟨a,b⟩:=zmy fun x m=>h x (List.mem_cons_of_mem d m)
  obtain⟨c,e⟩:=h d (List.mem_cons_self ..)
  refine⟨by simp only [PyData.canLayAll0];rw [c,a];rfl,?_⟩
  simp only [PyData.depthAll]
  omega
theorem zfv{n:Nat}{ds:List D}(h:∀ d∈ds,Pl n d):Pl (n+1) (.tuple ds):=by
 obtain⟨a,b⟩:=zmy h
 exact⟨a,by simp only [PyData.depth];omega⟩
theorem zmx{n:Nat}{ds:List D}(h:∀ d∈ds,Pl n d):Pl (n+1) (.list ds):=by
 obtain⟨a,b⟩:=zmy h
 exact⟨a,by simp only [PyData.depth];omega⟩
theorem zhn{α:Type}[DecidableEq α](f:α->D)(h:∀ a b,PyData.eqv (f a) (f b)=decide (a=b)):∀ xs ys:List α,PyData.eqvAll (xs.map f) (ys.map f)=decide (xs=ys)
 | [],[]=>rfl
 | [],y::ys=>by simp [PyData.eqvAll]
 | x::xs,[]=>by simp [PyData.eqvAll]
 | x::xs,y::ys=>by
  simp only [List.map_cons,PyData.eqvAll]
  rw [h,zhn f h xs ys]
  by_cases e1:x=y <;> by_cases e2:xs=ys <;> simp [e1,e2]
theorem zjX(a b:Int):PyData.eqv (.int a) (.int b)=decide (a=b):=by
 show(a==b)=_
 rw [Bool.beq_eq_decide_eq]
abbrev tp(w:List Int):D:=.tuple (w.map PyData.int)
theorem zmw(w:List Int):Pl 1 (tp w):=zfv fun d m=>by
 obtain⟨i,_,rfl⟩:=List.mem_map.mp m
 exact ze6 i
theorem zpJ(a b:List Int):PyData.eqv (tp a) (tp b)=decide (a=b):=by
 show PyData.eqvAll _ _=_
 exact zhn _ zjX a b
theorem zho{n m:Nat}{a b:D}(ha:Pl n a)(hb:Pl m b)(hn:n<=64:=by decide)(hm:m<=64:=by decide):eqD a b=.ok (.bool (PyData.eqv a b)):=by
 unfold eqD
 rw [ha.shaped hn,hb.shaped hm];rfl
theorem zha{n m:Nat}{a b:D}(ha:Pl n a)(hb:Pl m b)(hn:n<=64:=by decide)(hm:m<=64:=by decide):neD a b=.ok (.bool (!PyData.eqv a b)):=by
 unfold neD
 rw [ha.shaped hn,hb.shaped hm];rfl
theorem ztc(a b:List Int):eqD (tp a) (tp b)=.ok (.bool (decide (a=b))):=by rw [zho (zmw a) (zmw b),zpJ]
theorem zpq(a b:List Int):neD (tp a) (tp b)=.ok (.bool (!decide (a=b))):=by rw [zha (zmw a) (zmw b),zpJ]
theorem zgb(a b:Int):eqD (.int a) (.int b)=.ok (.bool (decide (a=b))):=by rw [zho (ze6 a) (ze6 b),zjX]
theorem zhR(a b:Int):neD (.int a) (.int b)=.ok (.bool (!decide (a=b))):=by rw [zha (ze6 a) (ze6 b),zjX]
theorem zq1(i j:Int):gtD (.int i) (.int j)=.ok (.bool (decide (j<i))):=rfl
theorem zjL(i j:Int):ltD (.int i) (.int j)=.ok (.bool (decide (i<j))):=rfl
theorem zmV(i j:Int):leD (.int i) (.int j)=.ok (.bool (decide (i<=j))):=rfl
theorem zq3(i j:Int):geD (.int i) (.int j)=.ok (.bool (decide (j<=i))):=rfl
theorem zet{j:Int}(h:0<=j)(h2:j<=1000000):zcG [.int j]=.ok (rng 0 j):=by
 show chk _ _=_
 refine zah ?_
 unfold zk9 lim
 simp only [Bool.and_eq_true,leB_iff]
 omega
theorem zfB{m:List (Nat×Sl)}(h:∀ i p d,m.lookup i≠some (.ow p d)):∀(ρ:En) (n:Nat),bkL m n ρ=ρ
 | [],_=>rfl
 | x::r,n=>by
  unfold bkL
  rw [zfB h r (n+1)]
  congr 1
  unfold bk1
  split
  ·rename_i p d q e h1 h2
   exact absurd h2 (h _ _ _)
  ·rfl
theorem zef{α:Type}{f:α->D}{g:GF}{b:SF}(P:List α->En->Prop):∀(xs:List α) (done:List α) (ρ:En),P done ρ ->
  (∀ pre x post ρ,done++xs=pre++x::post->P pre ρ->∃ ρ' fl,(g (f x) ρ).bind b=.ok (fl,ρ')/\(fl=.nx\/fl=.ct)/\P (pre++[x]) ρ')->∃ ρ',forL g b (xs.map f) ρ=.ok (.nx,ρ')/\P (done++xs) ρ'
 | [],done,ρ,h,_=>⟨ρ,rfl,by simpa using h⟩
 | x::xs,done,ρ,h,hx=>by
  obtain⟨ρ1,fl,e,hf,h1⟩:=hx done x xs ρ rfl h
  obtain⟨ρ2,e2,h2⟩:=zef P xs (done++[x]) ρ1 h1 fun pre y post ρ e=>hx pre y post ρ (by simpa using e)
  refine⟨ρ2,?_,by simpa using h2⟩
  show((g (f x) ρ).bind fun ρ1=>(b ρ1).bind fun y=>match y.1 with
    | .nx | .ct=>forL g b (xs.map f) y.2
    | .bk=>.ok (.nx,y.2)
    | .rt d=>.ok (.rt d,y.2)
    | .rf d=>.ok (.rf d,y.2))=_
  cases e1:g (f x) ρ with
  | ok ρ3 =>
   rw [e1] at e
   rw [zaa] at e ⊢
   rw [e,zaa]
   rcases hf with rfl|rfl
   ·exact e2
   ·exact e2
  | bad=>rw [e1] at e;cases e
  | err c fs=>rw [e1] at e;cases e
def Np(x:Sl):Prop:=∀ e,x≠.ow true e
theorem zbY:Np .no:=fun _ z=>nomatch z
theorem zaP(d:D):Np (.val d):=fun _ z=>nomatch z
theorem zuh(d:D):Np (.ow false d):=fun _ z=>nomatch z
theorem zf9{ρ:En}{i:Nat}{d:D}{x:Sl}(h:ρ[i]?=some x)(n:Np x):gN i d ρ=.ok (ρ.set i (.val d)):=by
 unfold gN
 rw [h]
 cases x with
 | no=>rfl
 | val c=>rfl
 | ow p c=>cases p with
  | true=>exact absurd rfl (n c)
  | false=>rfl
theorem zhK{i:Nat}{f:EF}{ρ:En}{y:D×En}{x:Sl}(hf:f ρ=.ok y)(h:y.2[i]?=some x)(n:Np x):zdw i f ρ=.ok (.nx,y.2.set i (.ow false y.1)):=by
 unfold zdw
 rw [hf,zaa,h]
 cases x with
 | no=>rfl
 | val c=>rfl
 | ow p c=>cases p with
  | true=>exact absurd rfl (n c)
  | false=>rfl
theorem zcP{i:Nat}{f:EF}{ρ:En}{y:D×En}{x:Sl}(hf:f ρ=.ok y)(h:y.2[i]?=some x)(n:Np x):zba (gN i) f ρ=.ok (.nx,y.2.set i (.val y.1)):=by
 unfold zba
 rw [hf,zaa,zf9 h n];rfl
theorem znw{m:List (Nat×Sl)}{i:Nat}{x:Sl}(h:m.lookup i=none):bk1 m i x=x:=by
 unfold bk1
 rw [h]
 cases x <;> rfl
theorem zan{s t:SF}{ρ ρ1:En}(h:s ρ=.ok (.nx,ρ1)):zav s t ρ=t ρ1:=by
 unfold zav
 rw [h];rfl
end FL
namespace FL
open PySem
def zgj:SF:=(zav (zba (gN 2) (e2 zbk (e2 zbk (e2 zfj (e2 zbk (e2 zhb (eV 0) (e2 zbk (e2 zew (eC (.int 10)) (eC (.int 18))) (eC (.int 9)))) (e2 zfj (eC (.int 7)) (eV 1))) (eC (.int 739108512309184756019283746561))) (e2 zfj (eC (.int 7919)) (eV 1))) (eC (.int 1))))
  (zav (zba (gN 2) (e2 zhb (e2 zfj (eV 2) (eV 2)) (e2 zbk (e2 zew (eC (.int 10)) (eC (.int 60))) (eC (.int 7)))))
  (zaw (e2 zhb (e2 zfj (e2 zbk (eV 2) (eC (.int 40503))) (e2 zbk (eV 2) (eC (.int 57)))) (e2 zbk (e2 zew (eC (.int 10)) (eC (.int 60))) (eC (.int 7)))))))
def zil:List D->R D:=zbE false 2 3 zgj
def zif:SF:=(zav (sIf (tB (e2 ltD (eV 1) (e1 zdY (eV 0)))) (zaw (e2 ixD (eV 0) (eV 1))) sNx)
  (zaw (e2 zbk (e2 zfj (eC (.int 3)) (eV 1)) (eC (.int 1)))))
def ztK:List D->R D:=zbE false 2 2 zif
def zdV:SF:=(zav (sIf (tB (e2 geD (eV 0) (e2 zew (eC (.int 10)) (eC (.int 18))))) (zbt (zc8 (zac (e2 zfh (eV 0) (e2 zew (eC (.int 10)) (eC (.int 18)))) (zac (eC (.int 0)) (zac (eV 1) zal))))) sNx)
  (zbt (zc8 (zac (zai zil (zac (eV 0) (zac (eV 1) zal))) (zac (eC (.int 0)) (zac (e2 zbk (e2 zhb (eV 0) (e2 zbk (e2 zew (eC (.int 10)) (eC (.int 18))) (eC (.int 9)))) (eV 1)) zal))))))
def zik:List D->R D:=zbE true 2 2 zdV
def zcL:SF:=(zav (sIf (tB (e2 ltD (m2 ixD 0 (eC (.int 0))) (eV 1))) (zav (setM 0 (e2 zbk (m2 ixD 0 (eC (.int 1))) (eC (.int 1))) (eC (.int 1)))
  (setM 0 (e2 zbk (m2 ixD 0 (eC (.int 0))) (e2 zfj (eV 1) (zai zil (zac (m2 ixD 0 (eC (.int 2))) (zac (e2 zbk (e2 zfj (eC (.int 11)) (m2 ixD 0 (eC (.int 1)))) (eC (.int 5))) zal))))) (eC (.int 0)))) sNx)
  (zav (zba (gN 2) (e2 zhb (m2 ixD 0 (eC (.int 0))) (eV 1)))
  (zav (setM 0 (e2 zeJ (m2 ixD 0 (eC (.int 0))) (eV 1)) (eC (.int 0)))
  (zaw (eV 2)))))
def zgv:List D->R (D×List D):=run [true,false] false 3 zcL
structure Bd(i:Int)(n:Nat):Prop where
 h:i.natAbs<2^n
theorem Bd.mono{i:Int}{n m:Nat}(h:Bd i n)(l:n<=m):Bd i m:=⟨Nat.lt_of_lt_of_le h.h (Nat.pow_le_pow_right (by decide) l)⟩
theorem Bd.add{i j:Int}{n m:Nat}(h:Bd i n)(k:Bd j m):Bd (i+j) (max n m+1):=by
 constructor
 have a:=(h.mono (Nat.le_max_left n m)).h
 have b:=(k.mono (Nat.le_max_right n m)).h
 have c:=Int.natAbs_add_le i j
 rw [Nat.pow_succ]
 omega
theorem Bd.mul{i j:Int}{n m:Nat}(h:Bd i n)(k:Bd j m):Bd (i*j) (n+m):=by
 constructor
 rw [Int.natAbs_mul,Nat.pow_add]
 have a:=h.h
 have b:=k.h
 exact Nat.mul_lt_mul'' a b
theorem Bd.mod{i j:Int}{n:Nat}(h:Bd j n)(p:0<j):Bd (i.fmod j) n:=by
 constructor
 have a:=h.h
 have b:=Int.fmod_nonneg_of_pos i p
 have c:=Int.fmod_lt_of_pos i p
 omega
theorem mulOk_of{i j:Int}{n m:Nat}(h:Bd i n)(k:Bd j m)(l:n+m<=100000000):zmK i j=true:=by
 unfold zmK
 refine zdj ?_
 have lg:∀{i:Int} {n:Nat},Bd i n->i.natAbs.log2<=n:=by
  intro i n h
  by_cases z:i.natAbs=0
  ·rw [z];exact Nat.zero_le _
  ·exact Nat.le_of_lt ((Nat.log2_lt z).mpr h.h)
 have a:=lg h
 have b:=lg k
 omega
theorem zb2{i j:Int}{n m:Nat}(h:Bd i n)(k:Bd j m)(l:n+m<=100000000):zfj (.int i) (.int j)=.ok (.int (i*j)):=by
 show chk _ _=_
 exact zah (mulOk_of h k l)
theorem zeA{i j:Int}(p:0<j):zhb (.int i) (.int j)=.ok (.int (i.fmod j)):=by
 show chk _ _=_
 exact zah (by simp;omega)
theorem zkP{i j:Int}{n:Nat}(p:0<j)(h:Bd j n)(l:n<=8000):zeJ (.int i) (.int j)=.ok (.int (i.fdiv j)):=by
 show chk _ _=_
 exact zah (by simp;omega)
theorem zmu{i j:Int}{n:Nat}(h:0<=j)(l:j<=100000)(b:Bd i n)(m:n<=63):zew (.int i) (.int j)=.ok (.int (i^j.toNat)):=by
 show chk _ _=_
 refine zah ?_
 have z:=(b.mono m).h
 rw [Bool.and_eq_true,Bool.and_eq_true,leB_iff,leB_iff,decide_eq_true_eq]
 exact⟨⟨h,by omega⟩,by omega⟩
def p18:Int:=1000000000000000000
def zqL:Int:=1000000000000000009
def p60:Int:=1000000000000000000000000000000000000000000000000000000000000
def zqK:Int:=1000000000000000000000000000000000000000000000000000000000007
def pm:Int:=739108512309184756019283746561
theorem zt0:zew (.int 10) (.int 18)=.ok (.int p18):=rfl
theorem zvB:zew (.int 10) (.int 60)=.ok (.int p60):=rfl
theorem zu7:p18+9=zqL:=rfl
theorem zvW:p60+7=zqK:=rfl
theorem zjD:0<zqL:=by decide
theorem zfP:0<zqK:=by decide
theorem b18:Bd zqL 60:=⟨by decide⟩
theorem b60:Bd zqK 200:=⟨by decide⟩
theorem bm:Bd pm 100:=⟨by decide⟩
theorem zaq{i:Int}(h:i.natAbs<65536):Bd i 16:=⟨h⟩
def mx1(c k:Int):Int:=(c.fmod zqL+7*k)*pm+7919*k+1
def mx2(c k:Int):Int:=(mx1 c k*mx1 c k).fmod zqK
def zmO(c k:Int):Int:=((mx2 c k+40503)*(mx2 c k+57)).fmod zqK
theorem zjK(c k:Int):0<=zmO c k:=Int.fmod_nonneg_of_pos _ zfP
theorem zmN(c k:Int):Bd (zmO c k) 200:=b60.mod zfP
theorem zhS(c k:Int){n:Nat}(hk:Bd k n)(hn:n<=1000):zil [.int c,.int k]=.ok (.int (zmO c k)):=by
 have a1:=zeA (i:=c) zjD
 have a2:Bd (c.fmod zqL) 60:=b18.mod zjD
 have a3:=zb2 (i:=7) (zaq (by decide)) hk (by omega)
 have a4:=(zaq (i:=7) (by decide)).mul hk
 have a5:=a2.add a4
 have a6:=zb2 a5 bm (by omega)
 have a7:=zb2 (i:=7919) (zaq (by decide)) hk (by omega)
 have a8:=((a5.mul bm).add ((zaq (i:=7919) (by decide)).mul hk)).add (zaq (i:=1) (by decide))
 have a9:=zb2 a8 a8 (by omega)
 have b1:=zeA (i:=mx1 c k*mx1 c k) zfP
 have b2:Bd (mx2 c k) 200:=b60.mod zfP
 have b3:=zb2 (b2.add (zaq (i:=40503) (by decide))) (b2.add (zaq (i:=57) (by decide))) (by decide)
 have b4:=zeA (i:=(mx2 c k+40503)*(mx2 c k+57)) zfP
 have hm:(PyData.int 739108512309184756019283746561)=.int pm:=rfl
 have f1:(c.fmod zqL+7*k)*pm+7919*k+1=mx1 c k:=rfl
 have f2:(mx1 c k*mx1 c k).fmod zqK=mx2 c k:=rfl
 have f3:((mx2 c k+40503)*(mx2 c k+57)).fmod zqK=zmO c k:=rfl
 rw [f1] at a9
 simp only [zil,zbE,FL.run,List.length_cons,List.length_nil,Nat.reduceAdd,List.replicate,zgj,zav,zba,FL.e2,eV,slots,Bool.false_eq_true,if_false,Nat.reduceSub,List.cons_append,List.nil_append,zz0,eC,zaa,zt0,zbk,zu7,a1,zz1,a3,hm,a6,a7,f1,gN,List.set_cons_succ,List.set_cons_zero,zvB,zvW,zaw,a9,b1,f2,b3,b4,f3,outs,outD,if_true]
def zb5(k:Nat)(d:D):Prop:=∃ n c s,d=.list [.int n,.int c,.int s]/\0<=n/\0<=c/\c<=k
theorem zb5.mono{k l:Nat}{d:D}(h:zb5 k d)(hl:k<=l):zb5 l d:=by
 obtain⟨n,c,s,e,h1,h2,h3⟩:=h
 exact⟨n,c,s,e,h1,h2,by omega⟩
theorem zol(c k:Int)(hk:k.natAbs<65536):∃ d,zik [.int c,.int k]=.ok d/\zb5 0 d:=by
 have a1:=zeA (i:=c) zjD
 have hx1:=zhS c k (zaq hk) (by decide)
 by_cases h:p18<=c
 ·refine⟨_,?_,c-p18,0,k,rfl,by omega,by decide,by decide⟩
  have hg:geD (.int c) (.int p18)=.ok (.bool true):=by show R.ok (PyData.bool (decide (p18<=c)))=_;rw [decide_eq_true h]
  simp only [zik,zbE,FL.run,List.length_cons,List.length_nil,Nat.reduceAdd,List.replicate,zdV,zav,sIf,tB,FL.e2,eV,slots,Bool.false_eq_true,if_false,Nat.sub_self,List.cons_append,List.nil_append,zz0,eC,zaa,zt0,hg,zbt,zc8,zac,zfh,zal,sNx,zz1,if_true,zai,zbk,outs,outD]
  rfl
 ·refine⟨_,?_,zmO c k,0,c.fmod zqL+k,rfl,zjK c k,by decide,by decide⟩
  have hg:geD (.int c) (.int p18)=.ok (.bool false):=by show R.ok (PyData.bool (decide (p18<=c)))=_;rw [decide_eq_false h]
  simp only [zik,zbE,FL.run,List.length_cons,List.length_nil,Nat.reduceAdd,List.replicate,zdV,zav,sIf,tB,FL.e2,eV,slots,Bool.false_eq_true,if_false,Nat.sub_self,List.cons_append,List.nil_append,zz0,eC,zaa,zt0,hg,zbt,zc8,zac,zfh,zal,sNx,zz1,zai,zbk,zu7,hx1,a1,outs,outD,if_true]
  rfl
theorem zpW{k:Nat}{d:D}(h:zb5 k d)(hk:k<=60000)(m:Int)(hm1:1<=m)(hm2:m.natAbs<65536):∃ g d',zgv [d,.int m]=.ok (.int g,[d',.int m])/\0<=g/\g<m/\zb5 (k+1) d':=by
 obtain⟨n,c,s,rfl,h1,h2,h3⟩:=h
 have i0:∀ x y z:D,atI [x,y,z] 0=some x:=fun _ _ _=>rfl
 have i1:∀ x y z:D,atI [x,y,z] 1=some y:=fun _ _ _=>rfl
 have i2:∀ x y z:D,atI [x,y,z] 2=some z:=fun _ _ _=>rfl
 have j0:ixN 3 0=some 0:=rfl
 have j1:ixN 3 1=some 1:=rfl
 have hlt:ltD (.int n) (.int m)=.ok (.bool (decide (n<m))):=rfl
 have hd:∀ i:Int,zeJ (.int i) (.int m)=.ok (.int (i.fdiv m)):=fun i=>zkP (by omega) (zaq hm2) (by decide)
 have hm:∀ i:Int,zhb (.int i) (.int m)=.ok (.int (i.fmod m)):=fun i=>zeA (by omega)
 have gd:∀ i:Int,0<=i->0<=i.fdiv m:=fun i hi=>Int.fdiv_nonneg hi (by omega)
 by_cases hn:n<m
 ·rw [decide_eq_true hn] at hlt
  have hc:(c+1).natAbs<65536:=by omega
  have x1:=zb2 (i:=11) (zaq (by decide)) (zaq hc) (by decide)
  have xb:=((zaq (i:=11) (by decide)).mul (zaq hc)).add (zaq (i:=5) (by decide))
  have x2:=zhS s (11*(c+1)+5) xb (by decide)
  have x3:=zb2 (zaq hm2) (zmN s (11*(c+1)+5)) (by decide)
  have nn:0<=n+m*zmO s (11*(c+1)+5):=Int.add_nonneg h1 (Int.mul_nonneg (by omega) (zjK _ _))
  refine⟨(n+m*zmO s (11*(c+1)+5)).fmod m,.list [.int ((n+m*zmO s (11*(c+1)+5)).fdiv m),.int (c+1),.int s],?_,Int.fmod_nonneg_of_pos _ (by omega),Int.fmod_lt_of_pos _ (by omega),_,_,_,rfl,gd _ nn,by omega,by omega⟩
  simp only [zgv,FL.run,List.length_cons,List.length_nil,Nat.reduceAdd,zcL,zav,sIf,tB,FL.e2,m2,zau,slots,if_true,Bool.false_eq_true,if_false,Nat.reduceSub,List.replicate,List.cons_append,List.nil_append,zz0,eC,ixD,R.of,zaa,i0,eV,zz1,hlt,setM,zbk,zbr,zaO,zai,zac,zal,sNx,i1,List.set_cons_zero,j1,List.set_cons_succ,i2,x1,x2,x3,j0,zba,gN,zaw,hm,hd,outs,outD,List.head?_cons]
 ·rw [decide_eq_false hn] at hlt
  refine⟨n.fmod m,.list [.int (n.fdiv m),.int c,.int s],?_,Int.fmod_nonneg_of_pos _ (by omega),Int.fmod_lt_of_pos _ (by omega),_,_,_,rfl,gd _ h1,by omega,by omega⟩
  simp only [zgv,FL.run,List.length_cons,List.length_nil,Nat.reduceAdd,zcL,zav,sIf,tB,FL.e2,m2,zau,slots,if_true,Bool.false_eq_true,if_false,Nat.reduceSub,List.replicate,List.cons_append,List.nil_append,zz0,eC,ixD,R.of,zaa,i0,eV,zz1,hlt,setM,zbk,zbr,zaO,zai,zac,zal,sNx,i1,List.set_cons_zero,j1,List.set_cons_succ,i2,zba,gN,zaw,hm,hd,j0,outs,outD,List.head?_cons]
theorem zuK(ns:List Int)(k:Int)(h0:0<=k)(hk:k.natAbs<65536):∃ a,ztK [.list (ns.map PyData.int),.int k]=.ok (.int a):=by
 have a3:=zb2 (i:=3) (zaq (by decide)) (zaq hk) (by decide)
 have hl:ltD (.int k) (.int (ns.length:Int))=.ok (.bool (decide (k<ns.length))):=rfl
 by_cases h:k<ns.length
 ·rw [decide_eq_true h] at hl
  have:∃ a,atI (ns.map PyData.int) k=some (.int a):=by
   unfold atI ixN
   rw [List.length_map,if_pos h0,if_pos h]
   exact⟨ns[k.toNat]'(by omega),by simp [show k.toNat<ns.length by omega]⟩
  obtain⟨a,ea⟩:=this
  refine⟨a,?_⟩
  simp only [ztK,zbE,FL.run,List.length_cons,List.length_nil,Nat.reduceAdd,List.replicate,zif,zav,sIf,tB,FL.e2,eV,slots,Bool.false_eq_true,if_false,Nat.sub_self,List.cons_append,List.nil_append,zz1,zz0,FL.e1,zdY,zaa,List.length_map,hl,zaw,ixD,R.of,sNx,ea,if_true,eC,zbk,outs,outD]
 ·rw [decide_eq_false h] at hl
  refine⟨3*k+1,?_⟩
  simp only [ztK,zbE,FL.run,List.length_cons,List.length_nil,Nat.reduceAdd,List.replicate,zif,zav,sIf,tB,FL.e2,eV,slots,Bool.false_eq_true,if_false,Nat.sub_self,List.cons_append,List.nil_append,zz1,zz0,FL.e1,zdY,zaa,List.length_map,hl,zaw,ixD,sNx,eC,zbk,a3,outs,outD,if_true]
theorem zi0{k:Nat}{ix:List Nat}{g:GF}{t:TF}{f:EF}(P:Nat->List D->En->Prop):∀(items:List D) (i:Nat) (acc:List D) (ρ:En),acc.length+items.length<=lim->acc.length=i->P i acc ρ ->
  (∀ x∈items,∀ j acc ρ,j<i+items.length->P j acc ρ->∃ β y β',g x (blk k ix ρ)=.ok β/\t β=.ok (true,β)/\f β=.ok (y,β')/\P (j+1) (acc++[y]) (back ρ ix (β'.drop k))) ->
  ∃ acc' ρ',zeg k ix g t f items ρ acc=.ok (acc',ρ')/\acc'.length=i+items.length/\P (i+items.length) acc' ρ'
 | [],i,acc,ρ,_,e,h,_=>⟨acc,ρ,rfl,e,h⟩
 | x::xs,i,acc,ρ,hl,e,h,hx=>by
  obtain⟨β,y,β',h1,h2,h3,h4⟩:=hx x (List.mem_cons_self ..) i acc ρ (by simp) h
  have hl':acc.length+(xs.length+1)<=lim:=hl
  obtain⟨acc',ρ',e1',e2',e3'⟩:=zi0 P xs (i+1) (acc++[y]) _ (by simp;omega) (by simp;omega) h4 fun x m j acc ρ hj=>hx x (List.mem_cons_of_mem _ m) j acc ρ (by rw [List.length_cons];omega)
  refine⟨acc',ρ',?_,by simp;omega,by rw [List.length_cons,show i+(xs.length+1)=i+1+xs.length by omega];exact e3'⟩
  unfold zeg
  rw [h1,zaa,h2,zaa,if_pos rfl,h3,zaa,zah (zdj (by omega)),e1']
end FL
namespace FL
open PySem
theorem znu{i:Nat}{x:Sl}:∀(ρ:En) (n:Nat),i<n->bkL [(i,x)] n ρ=ρ
 | [],_,_=>rfl
 | y::r,n,h=>by
  unfold bkL
  rw [znw (by rw [List.lookup_cons,show(n==i)=false from beq_eq_false_iff_ne.mpr (by omega)];rfl),znu r (n+1) (by omega)]
theorem zgi{d d':D}{p:Bool}:∀(ρ:En) (n i:Nat),ρ[i]?=some (.ow p d)->bkL [(n+i,.ow true d')] n ρ=ρ.set i (.ow p d')
 | [],_,_,h=>by simp at h
 | y::r,n,0,h=>by
  have hy:y=.ow p d:=by simpa using h
  subst hy
  unfold bkL
  rw [Nat.add_zero,znu r (n+1) (Nat.lt_succ_self n)]
  have:bk1 [(n,Sl.ow true d')] n (.ow p d)=.ow p d':=by
   unfold bk1
   rw [List.lookup_cons,beq_self_eq_true]
  rw [this]
  rfl
 | y::r,n,i+1,h=>by
  unfold bkL
  rw [znw (by rw [List.lookup_cons,show(n==n+(i+1))=false from beq_eq_false_iff_ne.mpr (by omega)];rfl),show n+(i+1)=n+1+i by omega,zgi r (n+1) i (by simpa using h)]
  rfl
theorem zcX{F:List D->R (D×List D)}{i:Nat}{f:EF}{ρ:En}{p:Bool}{d v r d' v':D}(hi:ρ[i]?=some (.ow p d))(hf:f ρ=.ok (v,ρ))(hF:F [d,v]=.ok (r,[d',v'])):zam F [.m i,.v f] ρ=.ok (r,ρ.set i (.ow p d')):=by
 have hm:zau ρ i=.ok d:=by unfold zau;rw [hi]
 unfold zam
 simp only [zgA,hm,zaa,hf,zfq,hF]
 have:=zgi (d:=d) (d':=d') (p:=p) ρ 0 i hi
 rw [Nat.zero_add] at this
 show R.ok (r,bkL [(i,.ow true d')] 0 ρ)=_
 rw [this]
end FL
namespace FL
open PySem
def zjV:SF:=(zaw (zlH (e1 (zcq "int") (eV 0)) (zlF (e1 (zcq "bool") (eV 0)))))
def zeT:List D->R D:=zbE false 1 1 zjV
def zbi:SF:=(zfI (zdf 3) (tB (e2 neD (eV 3) (eC (.int 0)))) (ze3 2 3 (eV 3) (e2 zhb (eV 2) (eV 3))))
def zbL:SF:=(zav (ze3 2 3 (e1 znB (eV 0)) (e1 znB (eV 1)))
  (zav zbi
  (zaw (eV 2))))
def zb7:List D->R D:=zbE false 2 4 zbL
def zcV:SF:=(zaw (zb3 (zac (e1 zdY (eV 0)) (zac (eV 0) zal))))
def za3:List D->R D:=zbE false 1 1 zcV
def zcf:EF:=(zcs 1 [0] (iE (e1 (ze2 za3) (eV 0))) (gN 0) zb0 (zb3 (zac (eV 0) (zac (e2 zlX (eV 1) (eV 0)) zal))))
def zaV:SF:=(zaw zcf)
def zdG:List D->R D:=zbE false 1 1 zaV
end FL
namespace FL
open PySem
def num(r:Rat):D:=.tuple [.int r.num,.int (r.den:Int)]
theorem zoF{h l:Nat}(p:l≠0):zhb (.int (h:Int)) (.int (l:Int))=.ok (.int ((h % l:Nat):Int)):=by
 show chk (decide ((l:Int)≠0)) _=_
 rw [zah (by simpa using p)]
 rw [Int.fmod_eq_emod_of_nonneg _ (by omega)]
 rfl
theorem zh3(x0 x1:Sl):∀(n h l:Nat),l<n->zfE (tB (e2 neD (eV 3) (eC (.int 0)))) (ze3 2 3 (eV 3) (e2 zhb (eV 2) (eV 3))) n [x0,x1,.val (.int (h:Int)),.val (.int (l:Int))]=.ok (.nx,[x0,x1,.val (.int ((Nat.gcd h l:Nat):Int)),.val (.int 0)])
 | 0,h,l,p=>by omega
 | n+1,h,l,p=>by
  unfold zfE
  by_cases c:l=0
  ·subst c
   have e:neD (.int ((0:Nat):Int)) (.int 0)=.ok (.bool false):=by rw [zhR];rfl
   simp only [tB,FL.e2,eV,zz1,zz0,eC,zaa,e,ze3,gN,Bool.false_eq_true,if_false,Nat.gcd_zero_right]
   rfl
  ·have e:neD (.int (l:Int)) (.int 0)=.ok (.bool true):=by
    rw [zhR,decide_eq_false (by omega)];rfl
   simp only [tB,FL.e2,eV,zz1,zz0,eC,zaa,e,ze3,gN,zoF c,List.set_cons_succ,List.set_cons_zero,if_true]
   have ih:=zh3 x0 x1 n l (h % l) (by have:=Nat.mod_lt h (Nat.pos_of_ne_zero c);omega)
   rw [ih,Nat.gcd_comm l,<- Nat.gcd_rec,Nat.gcd_comm]
theorem zk1(i:Int):znB (.int i)=.ok (.int (i.natAbs:Int)):=by
 show R.ok (PyData.int (if i<0 then -i else i))=_
 congr 2
 split <;> omega
theorem zs6(a b:Int):zb7 [.int a,.int b]=.ok (.int (Int.gcd a b:Int)):=by
 have e1:ze3 2 3 (FL.e1 znB (eV 0)) (FL.e1 znB (eV 1)) [.val (.int a),.val (.int b),.no,.no]=.ok (.nx,[.val (.int a),.val (.int b),.val (.int (a.natAbs:Int)),.val (.int (b.natAbs:Int))]):=by
  simp only [ze3,FL.e1,eV,zz0,zaa,zk1,gN,zz1,List.set_cons_succ,List.set_cons_zero]
 have e2:zbi [.val (.int a),.val (.int b),.val (.int (a.natAbs:Int)),.val (.int (b.natAbs:Int))]=.ok (.nx,[.val (.int a),.val (.int b),.val (.int ((Nat.gcd a.natAbs b.natAbs:Nat):Int)),.val (.int 0)]):=by
  unfold zbi zfI
  have:zdf 3 [.val (.int a),.val (.int b),.val (.int (a.natAbs:Int)),.val (.int (b.natAbs:Int))]=b.natAbs+1:=by
   show((b.natAbs:Int)).natAbs+1=_
   simp
  rw [this]
  exact zh3 _ _ _ _ _ (by omega)
 show((zbL [.val (.int a),.val (.int b),.no,.no]).bind _).bind _=_
 unfold zbL
 rw [zan e1,zan e2]
 rfl
theorem znh{i:Int}{j:Nat}{n:Nat}(hj:j≠0)(hb:j<2^n)(hn:n<=90000000):zeJ (.int i) (.int (j:Int))=.ok (.int (i / (j:Int))):=by
 show chk (decide ((j:Int)≠0)) _=_
 rw [zah (by simpa using hj),Int.fdiv_eq_ediv_of_nonneg _ (by omega)]
theorem zs7{a:Int}{b:Nat}{n:Nat}(hb:b≠0)(h:b<2^n):Int.gcd a (b:Int)≠0/\Int.gcd a (b:Int)<2^n:=by
 have h1:0<Int.gcd a (b:Int):=Int.gcd_pos_of_ne_zero_right a (by omega)
 have h2:Int.gcd a (b:Int)∣b:=by
  have:=Int.gcd_dvd_right a (b:Int)
  exact Int.natCast_dvd_natCast.mp this
 have h3:=Nat.le_of_dvd (Nat.pos_of_ne_zero hb) h2
 omega
end FL
namespace FL
open PySem
abbrev Sm:=List (List Int×Rat)
def ent(p:List Int×Rat):D×D:=(tp p.1,num p.2)
def dct(s:Sm):D:=.dict (s.map ent)
def kq(w:List Int):KQ:=.inl (w.map .inl)
theorem ziM:∀ w:List Int,znL (w.map PyData.int)=some (w.map .inl)
 | []=>rfl
 | x::r=>by simp only [List.map_cons,znL,kOf,ziM r,Option.bind_some,Option.map_some]
theorem zea(w:List Int):keyOf (tp w)=some (kq w):=by
 show(znL (w.map PyData.int)).map Sum.inl=_
 rw [ziM];rfl
theorem zpA{v w:List Int}(h:kq v=kq w):v=w:=by
 have:=Sum.inl.inj h
 have:=congrArg (List.map (Sum.elim id fun _=>(0:Int))) this
 simpa [List.map_map,Function.comp_def] using this
theorem zpB(v w:List Int):decide (keyOf (tp v)=some (kq w))=decide (v=w):=by
 rw [zea]
 by_cases c:v=w
 ·subst c;simp
 ·rw [decide_eq_false c,decide_eq_false fun z=>c (zpA (Option.some.inj z))]
def zjs(s:Sm)(w:List Int):Option Rat:=(s.find? fun p=>decide (p.1=w)).map (·.2)
def zk8(s:Sm)(w:List Int)(q:Rat):Sm:=if(s.any fun p=>decide (p.1=w))=true then s.map fun p=>if p.1=w then(p.1,q) else p else s++[(w,q)]
theorem zkz(w:List Int):∀ s:Sm,look (s.map ent) (kq w)=(zjs s w).map num
 | []=>rfl
 | p::r=>by
  have ih:=zkz w r
  unfold look zjs at ih ⊢
  simp only [List.map_cons,List.find?_cons]
  have e:decide (keyOf (ent p).1=some (kq w))=decide (p.1=w):=zpB p.1 w
  rw [e]
  cases decide (p.1=w) with
  | true=>rfl
  | false=>exact ih
theorem zhh:∀ s:Sm,keysOk true (s.map ent)=true
 | []=>rfl
 | p::r=>by
  have ih:=zhh r
  unfold keysOk at ih ⊢
  rw [List.map_cons,List.all_cons,ih,Bool.and_true]
  show(match keyOf (tp p.1) with|some q=>form q==true|none=>false)=true
  rw [zea];rfl
theorem zhq(s:Sm)(w:List Int):dictAt (dct s) (tp w)=.ok (s.map ent,kq w):=by
 show(R.of (keyOf (tp w))).bind _=_
 rw [zea]
 exact zah (zhh s)
theorem ziZ(s:Sm)(w:List Int):ze8 (dct s) (tp w)=.ok ((zjs s w).map num):=by
 unfold ze8
 rw [zhq,zaa,zkz]
theorem zs1(s:Sm)(w:List Int):inD (tp w) (dct s)=.ok (.bool (zjs s w).isSome):=by
 unfold inD
 rw [ziZ,zaa]
 cases zjs s w <;> rfl
theorem zh7{s:Sm}{w:List Int}{q:Rat}(h:zjs s w=some q):zlX (dct s) (tp w)=.ok (num q):=by
 unfold zlX
 rw [ziZ,zaa,h];rfl
theorem znA(w:List Int):∀ s:Sm,((s.map ent).any fun kv=>decide (keyOf kv.1=some (kq w)))=s.any fun p=>decide (p.1=w)
 | []=>rfl
 | p::r=>by
  simp only [List.map_cons,List.any_cons,znA w r]
  rw [show decide (keyOf (ent p).1=some (kq w))=decide (p.1=w) from zpB p.1 w]
theorem zqr(s:Sm)(w:List Int)(q:Rat):zok (s.map ent) (tp w) (kq w) (num q)=(zk8 s w q).map ent:=by
 unfold zok zk8
 rw [znA]
 split
 ·rw [List.map_map,List.map_map]
  refine List.map_congr_left fun p _=>?_
  show(if keyOf (tp p.1)=some (kq w) then((ent p).1,num q) else ent p)=ent (if p.1=w then(p.1,q) else p)
  by_cases c:p.1=w
  ·rw [if_pos c,if_pos (by rw [zea,c])];rfl
  ·rw [if_neg c,if_neg (fun z=>c (by rw [zea] at z;exact zpA (Option.some.inj z)))]
 ·rw [List.map_append];rfl
theorem zkQ{s:Sm}{w:List Int}{q:Rat}(h:s.length+1<=lim):zlJ (dct s) (tp w) (num q)=.ok (dct (zk8 s w q)):=by
 unfold zlJ
 rw [zhq,zaa]
 show chk (leB ((s.map ent).length+1) lim) _=_
 rw [zah (by rw [List.length_map];exact zdj h),zqr];rfl
theorem zsD(r s:Rat):neD (num r) (num s)=.ok (.bool (!decide (r=s))):=by
 have e:decide (([r.num,(r.den:Int)]:List Int)=[s.num,(s.den:Int)])=decide (r=s):=by
  by_cases c:r=s
  ·subst c;simp
  ·rw [decide_eq_false c,decide_eq_false]
   intro z
   simp only [List.cons.injEq,and_true,Int.natCast_inj] at z
   exact c (Rat.ext z.1 z.2)
 rw [<- e]
 exact zpq [r.num,(r.den:Int)] [s.num,(s.den:Int)]
def Nk(s:Sm):Prop:=(s.map (·.1)).Nodup
theorem zfK:∀{s:Sm} {p:List Int×Rat},Nk s->p∈s->zjs s p.1=some p.2
 | [],p,_,h=>by simp at h
 | a::r,p,nk,h=>by
  unfold Nk at nk
  rw [List.map_cons,List.nodup_cons] at nk
  unfold zjs
  rw [List.find?_cons]
  rcases List.mem_cons.mp h with rfl|h
  ·simp
  ·have:a.1≠p.1:=fun z=>nk.1 (by rw [z];exact List.mem_map.mpr ⟨p,h,rfl⟩)
   rw [decide_eq_false this]
   exact zfK (s:=r) nk.2 h
theorem zmc{s:Sm}{w:List Int}(h:zjs s w=none):∀ p∈s,p.1≠w:=fun p hp z=>by
 unfold zjs at h
 rw [Option.map_eq_none_iff,List.find?_eq_none] at h
 exact h p hp (by simpa using z)
theorem zri(s:Sm)(w:List Int):(s.any fun p=>decide (p.1=w))=(zjs s w).isSome:=by
 unfold zjs
 rw [Option.isSome_map,List.isSome_find?]
theorem zma{s:Sm}{w:List Int}{q:Rat}(nk:Nk s):Nk (zk8 s w q):=by
 unfold zk8
 rw [zri]
 split
 ·unfold Nk
  rw [List.map_map]
  have:(fun p:List Int×Rat=>p.1)∘(fun p=>if p.1=w then(p.1,q) else p)=fun p=>p.1:=by
   funext p
   show(if p.1=w then(p.1,q) else p).1=p.1
   split <;> rfl
  rw [this];exact nk
 ·rename_i c
  have c':zjs s w=none:=by simpa using c
  unfold Nk
  rw [List.map_append,List.nodup_append]
  refine⟨nk,by simp,fun a ha b hb=>?_⟩
  have:b=w:=by simpa using hb
  subst this
  obtain⟨p,hp,rfl⟩:=List.mem_map.mp ha
  exact zmc c' p hp
theorem zn1{s:Sm}{w:List Int}{q:Rat}{p:List Int×Rat}(h:p∈zk8 s w q):p∈s\/p=(w,q):=by
 unfold zk8 at h
 split at h
 ·obtain⟨x,hx,rfl⟩:=List.mem_map.mp h
  by_cases c:x.1=w
  ·rw [if_pos c];right;rw [c]
  ·rw [if_neg c];exact .inl hx
 ·rcases List.mem_append.mp h with h|h
  ·exact .inl h
  ·exact .inr (by simpa using h)
theorem zn2(s:Sm)(w:List Int)(q:Rat):(zk8 s w q).length<=s.length+1:=by
 unfold zk8
 split
 ·rw [List.length_map];omega
 ·rw [List.length_append];simp
structure zv2(P:Nat->Rat->Prop)(Q:Rat->Prop)(N:Nat):Prop where
 z:∀ i,P i 0
 up:∀ i r,P i r->P (i+1) r
 add:∀ i r q,P i r->Q q->P (i+1) (r+q)
 bp:∀ i r,i<=N->P i r->QR.Bd 4000 r
 bq:∀ q,Q q->QR.Bd 4000 q
structure Fit(P:Nat->Rat->Prop)(i:Nat)(s:Sm):Prop where
 nk:Nk s
 sz:∀ p∈s,P i p.2
end FL
namespace FL
open PySem
theorem zrd{F:List D->R (D×List D)}{i:Nat}{f h:EF}{ρ:En}{p:Bool}{d v u r d' v' u':D}(hi:ρ[i]?=some (.ow p d))(hf:f ρ=.ok (v,ρ))(hh:h ρ=.ok (u,ρ))(hF:F [d,v,u]=.ok (r,[d',v',u'])):zam F [.m i,.v f,.v h] ρ=.ok (r,ρ.set i (.ow p d')):=by
 have hm:zau ρ i=.ok d:=by unfold zau;rw [hi]
 unfold zam
 simp only [zgA,hm,zaa,hf,hh,zfq,hF]
 have:=zgi (d:=d) (d':=d') (p:=p) ρ 0 i hi
 rw [Nat.zero_add] at this
 show R.ok (r,bkL [(i,.ow true d')] 0 ρ)=_
 rw [this]
theorem zoN(t:Sm):zdT (dct t)=.ok (t.map fun p=>tp p.1):=by
 show R.ok ((t.map ent).map (·.1))=_
 rw [List.map_map];rfl
def Ws(n:Nat)(s:Sm):Prop:=∀ p∈s,p.1.length<=n
def Iv(M:Nat)(r:Rat):Prop:=r.den=1/\r.num.natAbs<=M
structure Whl(l M n:Nat)(s:Sm):Prop where
 nk:Nk s
 ln:s.length<=l
 sz:∀ p∈s,Iv M p.2
 ws:Ws n s
end FL
namespace FL
open PySem
theorem zaU{k n:Nat}{b:SF}{ds:List D}{ρ:En}{d:D}(hl:ds.length=k)(h:b (slots (List.replicate k false) ds++List.replicate (n-ds.length) .no)=.ok (.rt d,ρ)):zbE false k n b ds=.ok d:=by
 unfold zbE FL.run
 rw [if_pos (by rw [List.length_replicate];exact hl),h]
 rfl
theorem zjt{k n:Nat}{b:SF}{ds:List D}{ρ:En}{d:D}(hl:ds.length=k)(h:b (slots (List.replicate k false) ds++List.replicate (n-ds.length) .no)=.ok (.rf d,ρ)):zbE true k n b ds=.ok d:=by
 unfold zbE FL.run
 rw [if_pos (by rw [List.length_replicate];exact hl),h]
 rfl
inductive Tr where
 | leaf(i:Int)
 | node(a b:Tr)
deriving DecidableEq
def kyS(p:List Int×Rat):WK:=((p.1.length:Int),p.1)
def zlW(x:List Int×Rat):Sm->Sm
 | []=>[x]
 | y::r=>if ltW (kyS y) (kyS x)=true then y::zlW x r else x::y::r
def zbq:Sm->Sm
 | []=>[]
 | x::r=>zlW x (zbq r)
def kyD(p:List Int×Rat):WK×D:=(kyS p,tp p.1)
theorem zkH(x:List Int×Rat):∀ l:Sm,zkG (kyD x) (l.map kyD)=(zlW x l).map kyD
 | []=>rfl
 | y::r=>by
  rw [List.map_cons]
  unfold zkG zlW
  show(if ltW (kyS y) (kyS x)=true then _ else _)=_
  split
  ·rw [zkH x r];rfl
  ·rfl
theorem ziy:∀ l:Sm,zdk (l.map kyD)=(zbq l).map kyD
 | []=>rfl
 | x::r=>by
  show zkG (kyD x) (zdk (r.map kyD))=_
  rw [ziy r,zkH]
  rfl
theorem zf8(x:List Int×Rat):∀ l:Sm,(zlW x l).Perm (x::l)
 | []=>.refl _
 | y::r=>by
  unfold zlW
  split
  ·exact((zf8 x r).cons y).trans (.swap x y r)
  ·exact .refl _
theorem zaF:∀ l:Sm,(zbq l).Perm l
 | []=>.refl _
 | x::r=>(zf8 x _).trans ((zaF r).cons x)
theorem zkt(w:List Int):za3 [tp w]=.ok (.tuple [.int (w.length:Int),tp w]):=by
 have l2:leB 2 lim=true:=by decide
 have e:zdY (tp w)=.ok (.int (w.length:Int)):=by
  show R.ok (PyData.int ((w.map PyData.int).length:Int))=_
  rw [List.length_map]
 have e3:zcV [.val (tp w)]=.ok (.rt (.tuple [.int (w.length:Int),tp w]),[.val (tp w)]):=by
  unfold zcV
  simp only [zaw,zb3,zac,zal,FL.e1,eV,zaa,zz0,e,List.length_cons,List.length_nil,zah l2]
 exact zaU (k:=1) (n:=1) (ds:=[tp w]) rfl e3
theorem ziP:∀ s:Sm,zc7 za3 (s.map fun p=>tp p.1)=.ok (s.map kyS)
 | []=>rfl
 | p::r=>by
  rw [List.map_cons]
  unfold zc7
  rw [zkt,zaa]
  have:zrz (.tuple [.int (p.1.length:Int),tp p.1])=some (kyS p):=by
   show(intsOf (p.1.map PyData.int)).map _=_
   rw [zhj];rfl
  rw [this]
  show(zc7 za3 (r.map fun p=>tp p.1)).bind _=_
  rw [ziP r];rfl
theorem zl7{s:Sm}(nk:Nk s)(hl:s.length<64):ze2 za3 (dct s)=.ok (.list ((zbq s).map fun p=>tp p.1)):=by
 unfold ze2
 rw [zoN,zaa,zah (zdj (by rw [List.length_map];exact hl)),ziP,zaa]
 have nd:(s.map kyS).Nodup:=by
  have h:∀ l:Sm,Nk l->(l.map kyS).Nodup:=by
   intro l
   induction l with
   | nil=>intro _;exact List.nodup_nil
   | cons p r ih =>
    intro h
    unfold Nk at h
    rw [List.map_cons,List.nodup_cons] at h
    rw [List.map_cons,List.nodup_cons]
    refine⟨fun z=>h.1 ?_,ih h.2⟩
    obtain⟨q,hq,e⟩:=List.mem_map.mp z
    exact List.mem_map.mpr ⟨q,hq,(Prod.mk.inj e).2⟩
  exact h s nk
 rw [zah (decide_eq_true nd)]
 have hz:(s.map kyS).zip (s.map fun p=>tp p.1)=s.map kyD:=by
  rw [List.zip_map'];rfl
 rw [hz,ziy,List.map_map]
 rfl
def tln(p:List Int×Rat):D:=.tuple [tp p.1,num p.2]
def ztG:R D->D
 | .ok d=>d
 | _=>.none
theorem zpT{s:Sm}(nk:Nk s)(hl:s.length<64):zdG [dct s]=.ok (.list ((zbq s).map tln)):=by
 have so:=zl7 nk hl
 have hlen:(zbq s).length=s.length:=(zaF s).length_eq
 have q:zcf [.val (dct s)]=.ok (.list ((zbq s).map tln),[.val (dct s)]):=by
  unfold zcf
  rw [ziY (items:=(zbq s).map fun p=>tp p.1) (fun x=>.tuple [x,ztG (zlX (dct s) x)])]
  ·rw [List.map_map]
   congr 2
   congr 1
   refine List.map_congr_left fun p hp=>?_
   have mp:p∈s:=(zaF s).mem_iff.mp hp
   show PyData.tuple [tp p.1,ztG (zlX (dct s) (tp p.1))]=_
   rw [zh7 (zfK nk mp)];rfl
  ·simp only [iE,FL.e1,eV,zaa,zz0,so,zcC]
  ·rw [List.length_map,hlen];unfold lim;omega
  ·intro x hx
   obtain⟨p,hp,rfl⟩:=List.mem_map.mp hx
   have mp:p∈s:=(zaF s).mem_iff.mp hp
   have d1:=zh7 (zfK nk mp)
   have l2:leB 2 lim=true:=by decide
   refine⟨[.val (tp p.1),.val (dct s)],rfl,?_,?_⟩
   ·simp only [zb3,zac,zal,FL.e2,eV,zaa,zz0,zz1,d1,List.length_cons,List.length_nil,zah l2]
    rfl
   ·exact zfB (fun i p d e=>by
     revert e
     simp only [List.drop_succ_cons,List.drop_zero,List.zip_cons_cons,List.zip_nil_left,List.lookup_cons,List.lookup_nil]
     split <;> (intro e;cases e)) _ 0
 show((zaV [.val (dct s)]).bind _).bind _=_
 unfold zaV zaw
 rw [q]
 rfl
end FL
namespace FL
open PySem
def zdl:SF:=(zfI (zdf 3) (tB (e2 neD (eV 3) (eC (.int 0)))) (ze3 2 3 (eV 3) (e2 zhb (eV 2) (eV 3))))
def zeI:SF:=(zav (zba (gN 2) (e1 znB (eV 0)))
  (zav (zba (gN 3) (eV 1))
  (zav zdl
  (zaw (zb3 (zac (e2 zeJ (eV 0) (eV 2)) (zac (e2 zeJ (eV 1) (eV 2)) zal)))))))
def zgw:List D->R D:=zbE false 2 4 zeI
def zdm:SF:=(zav (sIf (FL.tOr (FL.zbV (tE (e1 (zcq "tuple") (eV 0)))) (tB (e2 neD (e1 zdY (eV 0)) (eC (.int 2))))) (zaw (eC (.bool false))) sNx)
  (zav (zba (gT [(gN 1),(gN 2)]) (eV 0))
  (zav (sIf (FL.tOr (FL.zbV (tE (zai zeT (zac (eV 1) zal)))) (FL.tOr (FL.zbV (tE (zai zeT (zac (eV 2) zal)))) (tB (e2 ltD (eV 2) (eC (.int 1)))))) (zaw (eC (.bool false))) sNx)
  (zaw (e2 eqD (zai zb7 (zac (eV 1) (zac (eV 2) zal))) (eC (.int 1)))))))
def zgx:List D->R D:=zbE false 1 3 zdm
def zhl:EF:=(zcs 1 [0] (iE (e1 (ze2 za3) (eV 0))) (gN 0) zb0 (zb3 (zac (eV 0) (zac (e2 zlX (eV 1) (eV 0)) zal))))
def zh4:SF:=(zbt zhl)
def znF:List D->R D:=zbE true 1 1 zh4
end FL
namespace FL
open PySem
theorem zqS(t:Int){b n:Nat}(hb:b≠0)(hl:b<2^n)(hn:n<=90000000):zgw [.int t,.int (b:Int)]=.ok (.tuple [.int (Q1.fr t (b:Int)).1,.int (Q1.fr t (b:Int)).2]):=by
 have gS:=zs7 (a:=t) hb hl
 have s1:zba (gN 2) (FL.e1 znB (eV 0)) [.val (.int t),.val (.int (b:Int)),.no,.no]=.ok (.nx,[.val (.int t),.val (.int (b:Int)),.val (.int (t.natAbs:Int)),.no]):=by
  simp only [zba,FL.e1,eV,zz0,zaa,zk1,gN,zz1,List.set_cons_succ,List.set_cons_zero]
 have s2:zba (gN 3) (eV 1) [.val (.int t),.val (.int (b:Int)),.val (.int (t.natAbs:Int)),.no]=.ok (.nx,[.val (.int t),.val (.int (b:Int)),.val (.int (t.natAbs:Int)),.val (.int (b:Int))]):=rfl
 have s3:zdl [.val (.int t),.val (.int (b:Int)),.val (.int (t.natAbs:Int)),.val (.int (b:Int))]=.ok (.nx,[.val (.int t),.val (.int (b:Int)),.val (.int ((Int.gcd t (b:Int):Nat):Int)),.val (.int 0)]):=by
  unfold zdl zfI
  have:zdf 3 [.val (.int t),.val (.int (b:Int)),.val (.int (t.natAbs:Int)),.val (.int (b:Int))]=b+1:=by
   show((b:Int)).natAbs+1=_
   simp
  rw [this]
  exact zh3 _ _ _ _ _ (by omega)
 have k1:zeJ (.int t) (.int ((Int.gcd t (b:Int):Nat):Int))=.ok (.int (t / ((Int.gcd t (b:Int):Nat):Int))):=znh gS.1 gS.2 hn
 have k2:zeJ (.int (b:Int)) (.int ((Int.gcd t (b:Int):Nat):Int))=.ok (.int ((b:Int) / ((Int.gcd t (b:Int):Nat):Int))):=znh gS.1 gS.2 hn
 have l2:leB 2 lim=true:=by decide
 show((zeI [.val (.int t),.val (.int (b:Int)),.no,.no]).bind _).bind _=_
 unfold zeI
 rw [zan s1,zan s2,zan s3]
 simp only [zaw,zb3,zac,FL.e2,eV,zz0,zaa,zz1,k1,zal,k2,List.length_cons,List.length_nil,Nat.reduceAdd,zah l2,List.replicate,outs,outD]
 rw [Q1.zpH (by omega)]
theorem zsN(t:Int){b n:Nat}(hb:b≠0)(hl:b<2^n)(hn:n<=90000000):zgw [.int t,.int (b:Int)]=.ok (num (Rat.normalize t b hb)):=by
 rw [zqS t hb hl hn,QR.norm hb]
 rfl
theorem lx0(a b:Int):ixD (.tuple [.int a,.int b]) (.int 0)=.ok (.int a):=rfl
theorem lx1(a b:Int):ixD (.tuple [.int a,.int b]) (.int 1)=.ok (.int b):=rfl
end FL
namespace FL
open PySem
def told(s:Sm):D:=.list ((zbq s).map tln)
theorem znX{s:Sm}(nk:Nk s)(hl:s.length<64):znF [dct s]=.ok (told s):=by
 have h:=zpT nk hl
 cases e:zcf [.val (dct s)] with
 | bad =>
  have:zdG [dct s]=.bad:=by
   show((zaV [.val (dct s)]).bind _).bind _=_
   unfold zaV zaw;rw [e];rfl
  rw [h] at this;cases this
 | err c f =>
  have:zdG [dct s]=.err c f:=by
   show((zaV [.val (dct s)]).bind _).bind _=_
   unfold zaV zaw;rw [e];rfl
  rw [h] at this;cases this
 | ok x =>
  obtain⟨d,ρ'⟩:=x
  have:zdG [dct s]=.ok d:=by
   show((zaV [.val (dct s)]).bind _).bind _=_
   unfold zaV zaw;rw [e];rfl
  rw [h] at this
  cases this
  refine zjt (ρ:=ρ') rfl ?_
  show zh4 [.val (dct s)]=_
  unfold zh4 zbt
  rw [show zhl [.val (dct s)]=.ok _ from e]
  rfl
theorem zn0{s:Sm}{w:List Int}{q:Rat}(h:∀ p∈s,p.1≠w):zk8 s w q=s++[(w,q)]:=by
 unfold zk8
 rw [if_neg]
 simp only [List.any_eq_true,decide_eq_true_eq,not_exists,not_and]
 exact h
theorem zsE{s t:Sm}(h:Nk (s++t)):∀ p∈s,∀ q∈t,p.1≠q.1:=by
 unfold Nk at h
 rw [List.map_append,List.nodup_append] at h
 intro p hp q hq
 exact h.2.2 _ (List.mem_map_of_mem hp) _ (List.mem_map_of_mem hq)
theorem zq0(r:Rat):zgx [num r]=.ok (.bool true):=by
 have k1:zcq "tuple" (num r)=.ok (.bool true):=rfl
 have wh:∀ i:Int,zeT [.int i]=.ok (.bool true):=fun _=>rfl
 have k3:ltD (.int (r.den:Int)) (.int 1)=.ok (.bool false):=by
  rw [zjL];congr 2
  have:=r.den_nz
  exact decide_eq_false (by omega)
 have k4:zb7 [.int r.num,.int (r.den:Int)]=.ok (.int 1):=by
  rw [zs6];congr 2
  have:=(QR.low r).cop
  omega
 have k5:neD (.int 2) (.int 2)=.ok (.bool false):=by rw [zhR];rfl
 have k6:eqD (.int 1) (.int 1)=.ok (.bool true):=by rw [zgb];rfl
 have k7:gT [gN 1,gN 2] (num r) [.val (num r),.no,.no]=.ok [.val (num r),.val (.int r.num),.val (.int (r.den:Int))]:=rfl
 refine zaU (ρ:=[.val (num r),.val (.int r.num),.val (.int (r.den:Int))]) rfl ?_
 show zdm [.val (num r),.no,.no]=_
 unfold zdm
 have s1:sIf (FL.tOr (FL.zbV (tE (FL.e1 (zcq "tuple") (eV 0)))) (tB (FL.e2 neD (FL.e1 zdY (eV 0)) (eC (.int 2))))) (zaw (eC (.bool false))) sNx [.val (num r),.no,.no]=.ok (.nx,[.val (num r),.no,.no]):=by
  have l2:zdY (num r)=.ok (.int 2):=rfl
  simp only [sIf,FL.tOr,FL.zbV,tE,tB,FL.e1,FL.e2,eV,eC,sNx,zaa,zz0,k1,l2,k5,zep,Bool.not_true,Bool.false_eq_true,if_false,if_true]
 have s2:zba (gT [gN 1,gN 2]) (eV 0) [.val (num r),.no,.no]=.ok (.nx,[.val (num r),.val (.int r.num),.val (.int (r.den:Int))]):=rfl
 rw [zan s1,zan s2]
 simp only [zav,sIf,FL.tOr,FL.zbV,tE,zai,zac,eV,zz1,zz0,zal,zaa,wh,zep,Bool.not_true,tB,FL.e2,eC,Bool.false_eq_true,k3,if_false,zaw,sNx,k4,k6]
end FL
namespace FL
open PySem
structure Wok(c:Int)(p:List Int×Rat):Prop where
 ln:p.1.length<=5
 lt:∀ x∈p.1,0<=x/\x<c
 nz:p.2≠0
inductive ztA(p:List Int×Rat):D->Prop where
 | none:ztA p .none
 | some (p':List Int×Rat):ltW (kyS p') (kyS p)=true->ztA p (tln p')
def cs0:Cs:=⟨fun _=>none,by simp⟩
def Asc(s:Sm):Prop:=s.Pairwise fun p q=>ltW (kyS p) (kyS q)=true
theorem zqU{p q:List Int×Rat}(h:kyS p=kyS q):p.1=q.1:=(Prod.mk.inj h).2
theorem ziK{p q:List Int×Rat}(h:p.1≠q.1)(h2:ltW (kyS q) (kyS p)=false):ltW (kyS p) (kyS q)=true:=by
 cases e:ltW (kyS p) (kyS q) with
 | true=>rfl
 | false =>
  rw [@zhe cs0] at e h2
  exact absurd (zqU (@zmR cs0 _ _ e h2)) h
theorem zmP{p q r:List Int×Rat}(h:p.1≠r.1)(h1:ltW (kyS p) (kyS q)=true)(h2:ltW (kyS q) (kyS r)=true):ltW (kyS p) (kyS r)=true:=by
 refine ziK h ?_
 rw [@zhe cs0] at h1 h2 ⊢
 exact L2.zmQ _ _ _ (L2.zhf _ _ h1) (L2.zhf _ _ h2)
theorem zkI(x:List Int×Rat):∀ l:Sm,Asc l->(∀ p∈l,p.1≠x.1)->Asc (zlW x l)
 | [],_,_=>by simp [zlW,Asc]
 | y::r,h,hn=>by
  unfold Asc at h
  rw [List.pairwise_cons] at h
  unfold zlW
  by_cases c:ltW (kyS y) (kyS x)=true
  ·rw [if_pos c]
   unfold Asc
   rw [List.pairwise_cons]
   refine⟨fun z hz=>?_,zkI x r h.2 fun p hp=>hn p (List.mem_cons_of_mem _ hp)⟩
   rcases List.mem_cons.mp ((zf8 x r).mem_iff.mp hz) with e|e
   ·subst e;exact c
   ·exact h.1 z e
  ·rw [if_neg c]
   have yx:=ziK (fun e=>hn y (List.mem_cons_self ..) e.symm) (by simpa using c)
   unfold Asc
   rw [List.pairwise_cons,List.pairwise_cons]
   refine⟨fun z hz=>?_,h.1,h.2⟩
   rcases List.mem_cons.mp hz with e|e
   ·subst e;exact yx
   ·exact zmP (fun z'=>hn z (List.mem_cons_of_mem _ e) z'.symm) yx (h.1 z e)
theorem zfJ:∀{s:Sm},Nk s->Asc (zbq s)
 | [],_=>by simp [zbq,Asc]
 | x::r,h=>by
  unfold Nk at h
  rw [List.map_cons,List.nodup_cons] at h
  show Asc (zlW x (zbq r))
  refine zkI x _ (zfJ h.2) fun p hp e=>h.1 ?_
  rw [<- e]
  exact List.mem_map_of_mem ((zaF r).mem_iff.mp hp)
theorem zkY:∀{s:Sm},Asc s->Nk s
 | [],_=>List.nodup_nil
 | x::r,h=>by
  unfold Asc at h
  rw [List.pairwise_cons] at h
  unfold Nk
  rw [List.map_cons,List.nodup_cons]
  refine⟨fun z=>?_,zkY h.2⟩
  obtain⟨q,hq,e⟩:=List.mem_map.mp z
  have h1:=h.1 q hq
  have:kyS x=kyS q:=by unfold kyS;rw [e]
  rw [this,@zhe cs0] at h1
  exact absurd (L2.zhf _ _ h1) (by rw [h1];simp)
end FL
namespace FL
open PySem
theorem zre{F:List D->R (D×List D)}{i:Nat}{ρ:En}{p:Bool}{d r d':D}(hi:ρ[i]?=some (.ow p d))(hF:F [d]=.ok (r,[d'])):zam F [.m i] ρ=.ok (r,ρ.set i (.ow p d')):=by
 have h:=zcX (F:=fun l=>match l with | [a,b]=>(F [a]).bind fun y=>.ok (y.1,y.2++[b])|_=>.bad) (f:=eC .none) (v:=.none) (v':=.none) (r:=r) (d':=d') hi rfl (by show(F [d]).bind _=_;rw [hF];rfl)
 have hm:zau ρ i=.ok d:=by unfold zau;rw [hi]
 unfold zam at h ⊢
 simp only [zgA,hm,zaa,eC,zfq,hF] at h ⊢
 exact h
structure Dr(c:Int)(n:Nat)(s:Sm):Prop where
 nk:Nk s
 wk:∀ p∈s,Wok c p
 bd:∀ p∈s,QR.Bd 14 p.2
 ln:s.length<=n
end FL
namespace FL
open PySem
end FL
namespace MD
abbrev Rw:=Nat->Int
def ex(f:List Nat->Int)(w:Rw):List Nat->List Nat->Int
 | _,[]=>0
 | pre,c::cs=>w c*f (pre++cs)-ex f w (pre++[c]) cs
def det:List Rw->List Nat->Int
 | [],[]=>1
 | [],_::_=>0
 | w::ws,cs=>ex (det ws) w [] cs
def Sp:List Rw->Rw->Prop
 | [],v=>∀ j,v j=0
 | w::ws,v=>∃(a:Int) (z:Rw),Sp ws z/\∀ j,v j=a*w j+z j
def Inj(ws:List Rw)(S:List Nat):Prop:=∀ v,Sp ws v->(∀ s∈S,v s=0)->∀ j,v j=0
end MD
namespace MD
def fn(xs:List Int):Rw:=fun j=>xs.getD j 0
def zu6(g:Nat)(xs:List Int):Nat:=xs.foldl (fun g x=>Nat.gcd g x.natAbs) g
def zuS(xs:List Int):List Int:=if zu6 0 xs=0 then xs else xs.map (· / (zu6 0 xs:Int))
def Prim(h:Rw):Prop:=∀ q:Int,(∀ j,q∣h j)->q∣1
def cleared(w o:List Int)(p:Nat):List Int:=if fn w p=0 then w else zuS (List.zipWith (fun m i=>fn o p*m-fn w p*i) w o)
def PZ(h:Rw):Prop:=(∀ j,h j=0)\/Prim h
end MD
namespace MD
abbrev ztJ:=List (Nat×List Int)
structure zuP(n:Nat)(ws:List Rw)(S:List Nat)(l:Nat)(h:List Int):Prop where
 len:h.length=n
 lt:l<n
 ne:fn h l≠0
 zero:∀ s∈S,s≠l->fn h s=0
 prim:Prim (fn h)
 sp:∃ k:Int,k≠0/\Sp ws fun j=>k*fn h j
 low:∀ j,j<l->fn h j=0
structure zty(n:Nat)(ws:List Rw)(S:List Nat)(held:ztJ):Prop where
 keys:held.map (·.1)=S.reverse
 det:det ws S≠0
 inj:Inj ws S
 row:∀ e∈held,zuP n ws S e.1 e.2
structure zv0(n:Nat)(ws:List Rw)(S done:List Nat)(w x:List Int):Prop where
 len:x.length=n
 pz:PZ (fn x)
 zero:∀ s∈done,fn x s=0
 sp:∃(k a:Int) (z:Rw),k≠0/\a≠0/\Sp ws z/\(∀ s∈S,s∉done->z s=0)/\∀ j,k*fn x j=a*fn w j+z j
end MD
namespace MD
abbrev Rq:=Nat->Rat
def SpQ:List Rw->Rq->Prop
 | [],v=>∀ j,v j=0
 | w::ws,v=>∃(a:Rat) (z:Rq),SpQ ws z/\∀ j,v j=a*(w j:Rat)+z j
def zuU(l:List Rat):Rat:=l.foldr (·+·) 0
end MD
namespace MD
end MD
namespace MD
end MD
namespace FL
open PySem MD
theorem zgg{α:Type}{f0:α->D}{k:Nat}{ix:List Nat}{g:GF}{t:TF}{f:EF}{ρ:En}(P:α->Bool)(h:α->D):∀(xs:List α) (acc:List D),acc.length+xs.length<=lim ->
  (∀ x∈xs,∃ β,g (f0 x) (blk k ix ρ)=.ok β/\t β=.ok (P x,β)/\(P x=true->f β=.ok (h x,β))/\back ρ ix (β.drop k)=ρ)->zeg k ix g t f (xs.map f0) ρ acc=.ok (acc++(xs.filter P).map h,ρ)
 | [],acc,_,_=>by simp [zeg]
 | x::xs,acc,hl,hx=>by
  obtain⟨β,h1,h2,h3,h4⟩:=hx x (List.mem_cons_self ..)
  have rest:=fun y m=>hx y (List.mem_cons_of_mem x m)
  simp only [List.length_cons] at hl
  rw [List.map_cons]
  unfold zeg
  rw [h1,zaa,h2,zaa]
  cases c:P x with
  | true =>
   rw [if_pos rfl,h3 c,zaa,zah (zdj (by omega)),h4,zgg P h xs _ (by simp;omega) rest,List.filter_cons_of_pos c]
   simp
  | false =>
   rw [if_neg (by simp),h4,zgg P h xs acc (by omega) rest,List.filter_cons_of_neg (by simp [c])]
theorem znl{α:Type}{f0:α->D}{k:Nat}{ix:List Nat}{it:IF}{g:GF}{t:TF}{f:EF}{ρ:En}{xs:List α}(P:α->Bool)(h:α->D)(hi:it ρ=.ok (xs.map f0,ρ))(hl:xs.length<=lim)
  (hx:∀ x∈xs,∃ β,g (f0 x) (blk k ix ρ)=.ok β/\t β=.ok (P x,β)/\(P x=true->f β=.ok (h x,β))/\back ρ ix (β.drop k)=ρ):zcs k ix it g t f ρ=.ok (.list ((xs.filter P).map h),ρ):=by
 unfold zcs
 rw [hi,zaa,zgg P h xs [] (by simpa using hl) hx]
 rfl
theorem zdy{α:Type}{f0:α->D}{k:Nat}{ix:List Nat}{it:IF}{g:GF}{f:EF}{ρ:En}{xs:List α}(h:α->D)(hi:it ρ=.ok (xs.map f0,ρ))(hl:xs.length<=lim)
  (hx:∀ x∈xs,∃ β,g (f0 x) (blk k ix ρ)=.ok β/\f β=.ok (h x,β)/\back ρ ix (β.drop k)=ρ):zcs k ix it g zb0 f ρ=.ok (.list (xs.map h),ρ):=by
 rw [znl (fun _=>true) h hi hl fun x m=>by
  obtain⟨β,h1,h2,h3⟩:=hx x m
  exact⟨β,h1,rfl,fun _=>h2,h3⟩]
 rw [List.filter_eq_self.mpr (fun _ _=>rfl)]
def zrl:En->Prop
 | []=>True
 | .ow _ _::_=>False
 | _::r=>zrl r
theorem zrl.look:∀{ix:List Nat} {cs:En},zrl cs->∀ i p d,(ix.zip cs).lookup i≠some (.ow p d)
 | [],_,_,i,p,d,z=>by simp at z
 | _::_,[],_,i,p,d,z=>by simp at z
 | j::ix,c::cs,h,i,p,d,z=>by
  have hr:zrl cs:=by cases c <;> first|exact h|exact h.elim
  rw [List.zip_cons_cons,List.lookup_cons] at z
  split at z
  ·cases z;exact h
  ·exact zrl.look hr i p d z
theorem zeL{ρ:En}{ix:List Nat}{cs:En}(h:zrl cs):back ρ ix cs=ρ:=zfB (zrl.look h) _ _
def IR(xs:List Int):D:=.list (xs.map PyData.int)
def zu9(xs:List Rat):D:=.list (xs.map num)
def hent(e:Nat×List Int):D×D:=(.int (e.1:Int),IR e.2)
def hD(held:ztJ):D:=.dict (held.map hent)
def zvM(L:Nat)(xs:List Rat):Nat:=xs.foldl (fun L r=>L / Nat.gcd L r.den*r.den) L
def zrA(xs:List Rat):List Int:=zuS (xs.map fun r=>r.num*((zvM 1 xs / r.den:Nat):Int))
def fq(xs:List Rat):Rq:=fun j=>xs.getD j 0
end FL
namespace FL
open PySem MD
theorem zto{α:Type}{xs:List α}{i:Nat}(h:i<xs.length):atI xs (i:Int)=xs[i]?:=by
 unfold atI ixN
 rw [if_pos (by omega),if_pos (by omega)]
 simp
end FL
namespace FL
open PySem MD
structure zv4(n:Nat)(M:List (List Rat))(ws:List Rw)(S:List Nat)(held:ztJ):Prop where
 ok:zty n ws S held
 src:∀ w∈ws,∃ r∈M,w=fn (zrA r)
 sp:∀ r∈M,SpQ ws (fq r)
 len:ws.length<=M.length
end FL
namespace FL
open PySem MD
structure HR(n:Nat)(held:ztJ):Prop where
 nd:(held.map (·.1)).Nodup
 row:∀ e∈held,e.2.length=n/\e.1<n/\fn e.2 e.1≠0
 len:held.length<=15
def nf(free:Nat)(e:Nat×List Int):Rat:=Rat.divInt (-(fn e.2 free)) (fn e.2 e.1)
def nb(free:Nat)(j:Nat):Rat:=if j=free then 1 else 0
end FL
namespace MD
def ip(n:Nat)(u v:Rq):Rat:=zuU ((List.range n).map fun j=>u j*v j)
end MD
namespace FL
open PySem MD
end FL
namespace FL
open PySem MD
def zpb(M:List (List Rat))(y:List Rat)(p:Nat):List Rat:=M.map (fun r=>fq r p)++[fq y p]
def asked(M:List (List Rat))(y:List Rat)(n:Nat):List (List Rat):=(List.range n).map (zpb M y)
inductive Told(M:List (List Rat))(y:List Rat)(n B T:Nat):D->Prop where
 | sum (w:List Rat) (hl:w.length=M.length) (hb:∀ x∈w,QR.Bd B x) (h:∀ p,p<n->fq y p=zuU ((List.range M.length).map fun k=>fq w k*fq (M.getD k []) p)):Told M y n B T (.tuple [.str "sum",zu9 w])
 | apart (t:List Rat) (hl:t.length=n) (hb:∀ x∈t,QR.Bd T x) (h:∀ r∈M,ip n (fq t) (fq r)=0) (h1:ip n (fq t) (fq y)=1):Told M y n B T (.tuple [.str "apart",zu9 t])
end FL
namespace FL
open PySem MD
end FL
namespace FL
open PySem MD
structure Drw(n:Nat)(M:List (List Rat)):Prop where
 row:∀ r∈M,r.length=n/\∀ x∈r,QR.Bd (15+31*M.length) x
 hd:∀ r,M.head?=some r->∀ x∈r,QR.Bd 15 x
end FL
namespace FL
open PySem MD
theorem zpm(r:Rat):Pl 1 (num r):=zfv fun d h=>by
 simp only [List.mem_cons,List.not_mem_nil,or_false] at h
 rcases h with rfl|rfl <;> exact ze6 _
end FL
namespace FL
open PySem
end FL
namespace FL
open PySem MD
structure Sq(n b:Nat)(A:List (List Rat)):Prop where
 len:A.length=n
 row:∀ r∈A,r.length=n/\∀ x∈r,QR.Bd b x
theorem zq7(a b:Rat):PyData.eqv (num a) (num b)=decide (a=b):=by
 have h:=zsD a b
 rw [zha (zpm a) (zpm b)] at h
 have t2:R.ok (PyData.bool (!PyData.eqv (num a) (num b)))=R.ok (PyData.bool (!decide (a=b))):=h
 injection t2 with t3
 injection t3 with t4
 have:=congrArg Bool.not t4
 simpa using this
end FL
namespace FL
open PySem
theorem zpX{k b:Nat}{d:D}(h:zb5 k d)(hk:k<=60000)(m:Int)(hm1:1<=m)(hm2:Bd m b)(hb:b<=1000):∃ g d',zgv [d,.int m]=.ok (.int g,[d',.int m])/\0<=g/\g<m/\zb5 (k+1) d':=by
 obtain⟨n,c,s,rfl,h1,h2,h3⟩:=h
 have i0:∀ x y z:D,atI [x,y,z] 0=some x:=fun _ _ _=>rfl
 have i1:∀ x y z:D,atI [x,y,z] 1=some y:=fun _ _ _=>rfl
 have i2:∀ x y z:D,atI [x,y,z] 2=some z:=fun _ _ _=>rfl
 have j0:ixN 3 0=some 0:=rfl
 have j1:ixN 3 1=some 1:=rfl
 have hlt:ltD (.int n) (.int m)=.ok (.bool (decide (n<m))):=rfl
 have hd:∀ i:Int,zeJ (.int i) (.int m)=.ok (.int (i.fdiv m)):=fun i=>zkP (by omega) hm2 (by omega)
 have hm:∀ i:Int,zhb (.int i) (.int m)=.ok (.int (i.fmod m)):=fun i=>zeA (by omega)
 have gd:∀ i:Int,0<=i->0<=i.fdiv m:=fun i hi=>Int.fdiv_nonneg hi (by omega)
 by_cases hn:n<m
 ·rw [decide_eq_true hn] at hlt
  have hc:(c+1).natAbs<65536:=by omega
  have x1:=zb2 (i:=11) (zaq (by decide)) (zaq hc) (by decide)
  have xb:=((zaq (i:=11) (by decide)).mul (zaq hc)).add (zaq (i:=5) (by decide))
  have x2:=zhS s (11*(c+1)+5) xb (by decide)
  have x3:=zb2 hm2 (zmN s (11*(c+1)+5)) (by omega)
  have nn:0<=n+m*zmO s (11*(c+1)+5):=Int.add_nonneg h1 (Int.mul_nonneg (by omega) (zjK _ _))
  refine⟨(n+m*zmO s (11*(c+1)+5)).fmod m,.list [.int ((n+m*zmO s (11*(c+1)+5)).fdiv m),.int (c+1),.int s],?_,Int.fmod_nonneg_of_pos _ (by omega),Int.fmod_lt_of_pos _ (by omega),_,_,_,rfl,gd _ nn,by omega,by omega⟩
  simp only [zgv,zcL,FL.run,zbE,slots,outs,outD,List.replicate,List.length_cons,List.length_nil,zaw,zav,sIf,zba,sE,sNx,zdw,zd4,zgy,zbt,zgG,zgF,ze3,znK,znJ,zlV,eC,eV,FL.e1,FL.e2,zlH,eOr,zlF,eIf,zct,zal,zac,zb3,zc8,zai,znN,zey,zex,eSl,zau,zbr,m1,m2,m2r,m2m,mSl,zgK,tE,tB,FL.ze1,FL.tOr,FL.zbV,tM,zb0,gN,gT,zh5,zji,zgC,setM,zaO,zjk,zaa,zbR,zbQ,zz0,zz1,List.set_cons_zero,List.set_cons_succ,List.nil_append,List.cons_append,List.head?_cons,List.tail_cons,Bool.false_eq_true,if_false,if_true,Nat.sub_self,Nat.reduceSub,Nat.reduceAdd,reduceCtorEq,zbk,zfh,ixD,zcn,zdY,zep,zeB,zcm,zam,zgA,zfq,zeN,zfp,bkL,bk1,List.lookup_cons,List.lookup_nil,blk,back,List.zip_cons_cons,List.zip_nil_left,List.zip_nil_right,List.map_cons,List.map_nil,List.drop_succ_cons,List.drop_zero,Option.getD_some,Option.getD_none,zgz,iE,zcC,Bool.not_true,Bool.not_false,iD,zdT,zcr,zdO,zgL,e3,zdU,zgX,zgH,iR1,iR2,zcG,zes,R.of,i0,i1,i2,j0,j1,hlt,x1,x2,x3,hd,hm]
 ·rw [decide_eq_false hn] at hlt
  refine⟨n.fmod m,.list [.int (n.fdiv m),.int c,.int s],?_,Int.fmod_nonneg_of_pos _ (by omega),Int.fmod_lt_of_pos _ (by omega),_,_,_,rfl,gd _ h1,by omega,by omega⟩
  simp only [zgv,zcL,FL.run,zbE,slots,outs,outD,List.replicate,List.length_cons,List.length_nil,zaw,zav,sIf,zba,sE,sNx,zdw,zd4,zgy,zbt,zgG,zgF,ze3,znK,znJ,zlV,eC,eV,FL.e1,FL.e2,zlH,eOr,zlF,eIf,zct,zal,zac,zb3,zc8,zai,znN,zey,zex,eSl,zau,zbr,m1,m2,m2r,m2m,mSl,zgK,tE,tB,FL.ze1,FL.tOr,FL.zbV,tM,zb0,gN,gT,zh5,zji,zgC,setM,zaO,zjk,zaa,zbR,zbQ,zz0,zz1,List.set_cons_zero,List.set_cons_succ,List.nil_append,List.cons_append,List.head?_cons,List.tail_cons,Bool.false_eq_true,if_false,if_true,Nat.sub_self,Nat.reduceSub,Nat.reduceAdd,reduceCtorEq,zbk,zfh,ixD,zcn,zdY,zep,zeB,zcm,zam,zgA,zfq,zeN,zfp,bkL,bk1,List.lookup_cons,List.lookup_nil,blk,back,List.zip_cons_cons,List.zip_nil_left,List.zip_nil_right,List.map_cons,List.map_nil,List.drop_succ_cons,List.drop_zero,Option.getD_some,Option.getD_none,zgz,iE,zcC,Bool.not_true,Bool.not_false,iD,zdT,zcr,zdO,zgL,e3,zdU,zgX,zgH,iR1,iR2,zcG,zes,R.of,i0,i1,i2,j0,j1,hlt,hd,hm]
end FL
namespace K79
open PySem FL
def zhs:SF:=(zaw (zlH (e1 (zcq "int") (eV 0)) (zlF (e1 (zcq "bool") (eV 0)))))
def zeW:List D->R D:=zbE false 1 1 zhs
def zcz:SF:=(zfI (zdf 3) (tB (e2 neD (eV 3) (eC (.int 0)))) (ze3 2 3 (eV 3) (e2 zhb (eV 2) (eV 3))))
def zc9:SF:=(zav (ze3 2 3 (e1 znB (eV 0)) (e1 znB (eV 1)))
  (zav zcz
  (zaw (eV 2))))
def zdc:List D->R D:=zbE false 2 4 zc9
def zfb:SF:=(zaw (zb3 (zac (e1 zdY (eV 0)) (zac (eV 0) zal))))
def zfg:List D->R D:=zbE false 1 1 zfb
def zcg:SF:=(zav (zba (gT [(gN 1),(gN 2)]) (eV 0))
  (zaw (eIf (tB (e2 eqD (eV 2) (eC (.int 1)))) (e1 znM (eV 1)) (eJ [(e1 znM (eV 1)),(eC (.str "/")),(e1 znM (eV 2))] Str.empty))))
def zc2:List D->R D:=zbE false 1 3 zcg
def zca:EF:=(zcs 1 [] (iE (eV 0)) (gN 0) zb0 (e1 znM (eV 0)))
def zcY:SF:=(zaw (eIf (tE (eV 0)) (eS1 zgU (eC (.str ".")) zca) (eC (.str "e"))))
def zdX:List D->R D:=zbE false 1 1 zcY
def zbf:EF:=(zcs 1 [] (iT (eV 0)) (gN 0) zb0 (e2 inX (eV 0) (eC (.str "0123456789"))))
def zcD:SF:=(zav (sIf (FL.tOr (FL.zbV (tB (zct leD leD (eC (.int 1)) (e1 zsP (eV 0)) (eC (.int 9))))) (FL.zbV (tE (e1 ztv zbf)))) (zaw (eC .none)) sNx)
  (zav (sIf (FL.ze1 (tB (e2 eqD (e2 ixX (eV 0) (eC (.int 0))) (eC (.str "0")))) (tB (e2 neD (eV 0) (eC (.str "0"))))) (zaw (eC .none)) sNx)
  (zaw (e1 ztD (eV 0)))))
def zbp:List D->R D:=zbE false 1 1 zcD
def zfd:SF:=(zav (zba (gN 2) (e2 zbk (e2 zbk (e2 zfj (e2 zbk (e2 zhb (eV 0) (e2 zbk (e2 zew (eC (.int 10)) (eC (.int 18))) (eC (.int 9)))) (e2 zfj (eC (.int 7)) (eV 1))) (eC (.int 739108512309184756019283746561))) (e2 zfj (eC (.int 7919)) (eV 1))) (eC (.int 1))))
  (zav (zba (gN 2) (e2 zhb (e2 zfj (eV 2) (eV 2)) (e2 zbk (e2 zew (eC (.int 10)) (eC (.int 60))) (eC (.int 7)))))
  (zaw (e2 zhb (e2 zfj (e2 zbk (eV 2) (eC (.int 40503))) (e2 zbk (eV 2) (eC (.int 57)))) (e2 zbk (e2 zew (eC (.int 10)) (eC (.int 60))) (eC (.int 7)))))))
def zdu:List D->R D:=zbE false 2 3 zfd
def zi9:SF:=(zav (sIf (tB (e2 ltD (eV 1) (e1 zdY (eV 0)))) (zaw (e2 ixD (eV 0) (eV 1))) sNx)
  (zaw (e2 zbk (e2 zfj (eC (.int 3)) (eV 1)) (eC (.int 1)))))
def zen:List D->R D:=zbE false 2 2 zi9
def zeZ:SF:=(zfI (zdf 3) (tB (e2 neD (eV 3) (eC (.int 0)))) (ze3 2 3 (eV 3) (e2 zhb (eV 2) (eV 3))))
def zht:SF:=(zav (zba (gN 2) (e1 znB (eV 0)))
  (zav (zba (gN 3) (eV 1))
  (zav zeZ
  (zaw (zb3 (zac (e2 zeJ (eV 0) (eV 2)) (zac (e2 zeJ (eV 1) (eV 2)) zal)))))))
def zbP:List D->R D:=zbE false 2 4 zht
def za0:EF:=(zcs 1 [] (iE (eV 0)) (gN 0) zb0 (e1 zrn (eV 0)))
def zbg:SF:=(zav (sIf (tB (e2 eqD (eV 0) (zb3 zal))) (zaw (eC (.str "e"))) sNx)
  (zaw (eS1 zgU (eC (.str ".")) za0)))
def zaY:List D->R D:=zbE false 1 1 zbg
def zgm:SF:=(zaw (zb3 (zac (e1 zdY (eV 0)) (zac (eV 0) zal))))
def zc4:List D->R D:=zbE false 1 1 zgm
def za1:SF:=(zav (sIf (tB (e2 eqD (e2 ixD (eV 0) (eC (.int 1))) (eC (.int 1)))) (zaw (e1 zrn (e2 ixD (eV 0) (eC (.int 0))))) sNx)
  (zaw (e2 zjl (e2 zjl (e1 zrn (e2 ixD (eV 0) (eC (.int 0)))) (eC (.str "/"))) (e1 zrn (e2 ixD (eV 0) (eC (.int 1)))))))
def zaK:List D->R D:=zbE false 1 1 za1
def zgk:SF:=(zav (sIf (FL.tOr (FL.zbV (tE (e1 (zcq "tuple") (eV 0)))) (tB (e2 neD (e1 zdY (eV 0)) (eC (.int 2))))) (zaw (eC (.bool false))) sNx)
  (zav (zba (gT [(gN 1),(gN 2)]) (eV 0))
  (zav (sIf (FL.tOr (FL.zbV (tE (zai zeW (zac (eV 1) zal)))) (FL.tOr (FL.zbV (tE (zai zeW (zac (eV 2) zal)))) (tB (e2 ltD (eV 2) (eC (.int 1)))))) (zaw (eC (.bool false))) sNx)
  (zaw (e2 eqD (zai zdc (zac (eV 1) (zac (eV 2) zal))) (eC (.int 1)))))))
def zc3:List D->R D:=zbE false 1 3 zgk
def zcB:EF:=(zcs 2 [] (iE (eV 0)) (gT [(gN 0),(gN 1)]) zb0 (eJ [(e1 znM (zai zc2 (zac (eV 1) zal))),(eC (.str ":")),(e1 znM (zai zdX (zac (eV 0) zal)))] Str.empty))
def zdB:SF:=(zav (sIf (FL.zbV (tE (eV 0))) (zaw (eC (.str "0"))) sNx)
  (zaw (eS1 zgU (eC (.str " ")) zcB)))
def zbo:List D->R D:=zbE false 1 1 zdB
def zcj:SF:=(zav (sIf (FL.zbV (tE (eS1 zhI (eV 0) (eC (.str "-"))))) (zaw (zai zbp (zac (eV 0) zal))) sNx)
  (zav (zba (gN 1) (zai zbp (zac (zuB (eV 0) (zex (eC (.int 1))) zey) zal)))
  (zav (sIf (FL.tOr (tB (e2 isD (eV 1) (eC .none))) (tB (e2 eqD (eV 1) (eC (.int 0))))) (zaw (eC .none)) sNx)
  (zaw (e1 zpp (eV 1))))))
def zeV:List D->R D:=zbE false 1 2 zcj
def zdC:SF:=(zav (zba (gN 2) (zai zbp (zac (eV 0) zal)))
  (zav (sIf (FL.tOr (tB (e2 isD (eV 2) (eC .none))) (tB (e2 geD (eV 2) (eV 1)))) (zaw (eC .none)) sNx)
  (zaw (eV 2))))
def zeU:List D->R D:=zbE false 2 3 zdC
def zfc:SF:=(zav (sIf (tB (e2 geD (eV 0) (e2 zew (eC (.int 10)) (eC (.int 18))))) (zbt (zc8 (zac (e2 zfh (eV 0) (e2 zew (eC (.int 10)) (eC (.int 18)))) (zac (eC (.int 0)) (zac (eV 1) zal))))) sNx)
  (zbt (zc8 (zac (zai zdu (zac (eV 0) (zac (eV 1) zal))) (zac (eC (.int 0)) (zac (e2 zbk (e2 zhb (eV 0) (e2 zbk (e2 zew (eC (.int 10)) (eC (.int 18))) (eC (.int 9)))) (eV 1)) zal))))))
def zcF:List D->R D:=zbE true 2 2 zfc
def zgl:SF:=(zav (sIf (tB (e2 ltD (m2 ixD 0 (eC (.int 0))) (eV 1))) (zav (setM 0 (e2 zbk (m2 ixD 0 (eC (.int 1))) (eC (.int 1))) (eC (.int 1)))
  (setM 0 (e2 zbk (m2 ixD 0 (eC (.int 0))) (e2 zfj (eV 1) (zai zdu (zac (m2 ixD 0 (eC (.int 2))) (zac (e2 zbk (e2 zfj (eC (.int 11)) (m2 ixD 0 (eC (.int 1)))) (eC (.int 5))) zal))))) (eC (.int 0)))) sNx)
  (zav (zba (gN 2) (e2 zhb (m2 ixD 0 (eC (.int 0))) (eV 1)))
  (zav (setM 0 (e2 zeJ (m2 ixD 0 (eC (.int 0))) (eV 1)) (eC (.int 0)))
  (zaw (eV 2)))))
def zag:List D->R (D×List D):=run [true,false] false 3 zgl
def za6:EF:=(zcs 2 [] (iE (eV 0)) (gT [(gN 0),(gN 1)]) zb0 (e2 zjl (e2 zjl (zai zaK (zac (eV 1) zal)) (eC (.str ":"))) (zai zaY (zac (eV 0) zal))))
def zbA:SF:=(zav (sIf (tB (e2 eqD (eV 0) (zc8 zal))) (zaw (eC (.str "0"))) sNx)
  (zaw (eS1 zgU (eC (.str " ")) za6)))
def zaS:List D->R D:=zbE false 1 1 zbA
def zbh:SF:=(zaw (zai zc4 (zac (e2 ixD (eV 0) (eC (.int 0))) zal)))
def zax:List D->R D:=zbE false 1 1 zbh
def za7:SF:=(zav (zba (gT [(gN 1),(gN 2),(gN 3)]) (eS1 zjC (eV 0) (eC (.str "/"))))
  (zav (zba (gN 4) (zai zeV (zac (eV 1) zal)))
  (zav (zba (gN 5) (eIf (tX (eV 2)) (zai zbp (zac (eV 3) zal)) (eC (.int 1))))
  (zav (sIf (FL.tOr (tB (e2 isD (eV 4) (eC .none))) (FL.tOr (tB (e2 isD (eV 5) (eC .none))) (FL.tOr (FL.ze1 (tX (eV 2)) (tB (e2 eqD (eV 5) (eC (.int 1))))) (FL.zbV (tE (zai zc3 (zac (zb3 (zac (eV 4) (zac (eV 5) zal))) zal))))))) (zaw (eC .none)) sNx)
  (zaw (zb3 (zac (eV 4) (zac (eV 5) zal))))))))
def zch:List D->R D:=zbE false 1 6 za7
def zbu:EF:=(zcs 1 [1] (iE (eS1 zfG (eV 0) (eC (.str ".")))) (gN 0) zb0 (zai zeU (zac (eV 0) (zac (eV 1) zal))))
def zbM:SF:=(zav (sIf (tB (e2 eqD (eV 0) (eC (.str "e")))) (zaw (zb3 zal)) sNx)
  (zav (zd4 2 (zdw 2 zbu))
  (zav (sIf (FL.tOr (tB (e2 zrq (eC .none) (eV 2))) (tB (e2 gtD (e1 zdY (eV 2)) (eC (.int 5))))) (zaw (eC .none)) sNx)
  (zaw (e1 zcm (eV 2))))))
def zc1:List D->R D:=zbE false 2 3 zbM
def zbj:SF:=(zav (zba (gN 1) (zam zag [.m 0,.v (eC (.int 6))]))
  (zav (sIf (tB (e2 ltD (eV 1) (eC (.int 3)))) (zaw (e2 ixD (zc8 (zac (zb3 (zac (eC (.int 0)) (zac (eC (.int 1)) zal))) (zac (zb3 (zac (eC (.int 1)) (zac (eC (.int 1)) zal))) (zac (zb3 (zac (e1 zpp (eC (.int 1))) (zac (eC (.int 1)) zal))) zal)))) (eV 1))) sNx)
  (zav (sIf (tB (e2 ltD (eV 1) (eC (.int 5)))) (zaw (zai zbP (zac (e2 zfh (zam zag [.m 0,.v (eC (.int 39))]) (eC (.int 19))) (zac (e2 zbk (eC (.int 1)) (e2 zfj (zam zag [.m 0,.v (eC (.int 12))]) (e2 zfh (eV 1) (eC (.int 3))))) zal)))) sNx)
  (zaw (zai zbP (zac (e2 zbk (e2 zfh (zam zag [.m 0,.v (e2 zfh (e2 zfj (eC (.int 2)) (e2 zew (eC (.int 10)) (eC (.int 9)))) (eC (.int 1)))]) (e2 zew (eC (.int 10)) (eC (.int 9)))) (eC (.int 1))) (zac (e2 zbk (eC (.int 1)) (zam zag [.m 0,.v (e2 zfh (e2 zew (eC (.int 10)) (eC (.int 9))) (eC (.int 1)))])) zal)))))))
def zaX:List D->R (D×List D):=run [true] false 2 zbj
def za5:SF:=(zav (zba (gN 5) (e2 zjl (e2 zjl (zai zaK (zac (eV 4) zal)) (eC (.str ":"))) (zai zaY (zac (eV 3) zal))))
  (zuq 2 (zam zag [.m 1,.v (e2 zbk (m1 zdY 2) (eC (.int 1)))]) (eV 5)))
def za4:SF:=(zgz (iE (eV 0)) (gT [(gN 3),(gN 4)]) za5)
def zbB:SF:=(zav (zdw 2 (zc8 zal))
  (zav za4
  (zgy 2 (zaw (eS1 zgU (eC (.str " ")) (eV 2))))))
def zbD:List D->R (D×List D):=run [false,true] false 6 zbB
def ze4:EF:=(zcs 1 [0] (iE (e1 (ze2 zfg) (eV 0))) (gN 0) zb0 (zb3 (zac (eV 0) (zac (e2 zlX (eV 1) (eV 0)) zal))))
def zhr:SF:=(zbt ze4)
def zdH:List D->R D:=zbE true 1 1 zhr
def zbX:EF:=(zcs 1 [0,1] (iR1 (zac (zam zag [.m 0,.v (eC (.int 6))]) zal)) (gN 0) zb0 (zam zag [.m 1,.v (eV 2)]))
def zbU:SF:=(zav (zba (gN 5) (e1 zcm zbX))
  (zav (zba (gN 6) (zam zaX [.m 0]))
  (sIf (tB (e2 neD (e2 ixD (eV 6) (eC (.int 0))) (eC (.int 0)))) (zdU 3 (eV 5) (eV 6)) sNx)))
def zcA:SF:=(zgz (iR1 (zac (zam zag [.m 0,.v (e2 zbk (eV 2) (eC (.int 1)))]) zal)) (gN 4) zbU)
def zbl:EF:=(zcs 1 [3] (iE (e1 (ze2 zc4) (eV 3))) (gN 0) zb0 (zb3 (zac (eV 0) (zac (e2 zlX (eV 1) (eV 0)) zal))))
def zdD:SF:=(zav (zdw 3 zcr)
  (zav zcA
  (zgy 3 (zbt zbl))))
def zdI:List D->R (D×List D):=run [true,false,false] true 7 zdD
def zbT:SF:=(zav (zba (gT [(gN 5),(gN 6),(gN 7)]) (eS1 zjC (eV 4) (eC (.str ":"))))
  (zav (ze3 8 9 (zai zch (zac (eV 5) zal)) (zai zc1 (zac (eV 7) (zac (eV 1) zal))))
  (zav (sIf (FL.tOr (tB (e2 isD (eV 8) (eC .none))) (FL.tOr (tB (e2 eqD (eV 8) (eC (.tuple [(.int 0),(.int 1)])))) (FL.tOr (tB (e2 isD (eV 9) (eC .none))) (tB (m2r inD (eV 9) 2))))) zlV sNx)
  (zdU 2 (eV 9) (eV 8)))))
def zcy:SF:=(zgz (ztE (zac (eS1 zfG (eV 0) (eC (.str " "))) zal)) (gT [(gN 3),(gN 4)]) zbT)
def zck:SF:=(zav (sIf (tB (e2 eqD (eV 0) (eC (.str "0")))) (zbt (zc8 zal)) sNx)
  (zav (zdw 2 zcr)
  (zav zcy
  (zgy 2 (zbt (zai zdH (zac (eV 2) zal)))))))
def zcl:List D->R D:=zbE true 2 10 zck
def zaG:SF:=(sIf (tB (e2 neD (eV 5) (zb3 (zac (eC (.int 0)) (zac (eC (.int 0)) (zac (eC (.int 0)) (zac (eC (.int 0)) (zac (eC (.int 0)) zal)))))))) (zji 4 zjk (zb3 (zac (eV 5) (zac (eV 6) zal)))) sNx)
def zaT:SF:=(zgz (iE (eV 1)) (gT [(gN 5),(gN 6)]) zaG)
def za8:SF:=(zav (zba (gN 2) (e2 zfj (e2 zbk (eC (.int 1)) (zam zag [.m 0,.v (e2 zew (eC (.int 10)) (eC (.int 40)))])) (e2 ixD (zc8 (zac (eC (.int 1)) (zac (e1 zpp (eC (.int 1))) zal))) (zam zag [.m 0,.v (eC (.int 2))]))))
  (zav (zba (gN 3) (zai zbP (zac (eV 2) (zac (e2 zbk (eC (.int 1)) (zam zag [.m 0,.v (e2 ixD (zc8 (zac (eC (.int 1)) (zac (e2 zew (eC (.int 10)) (eC (.int 30))) zal))) (zam zag [.m 0,.v (eC (.int 2))]))])) zal))))
  (zav (zdw 4 (zc8 (zac (zb3 (zac (zb3 (zac (eC (.int 0)) (zac (eC (.int 0)) (zac (eC (.int 0)) (zac (eC (.int 0)) (zac (eC (.int 0)) zal)))))) (zac (eV 3) zal))) zal)))
  (zav zaT
  (zav (zgy 4 (zdw 4 (e1 (zfH zax) (eV 4))))
  (zgy 4 (zaw (e2 eqD (zai zbo (zac (eV 4) zal)) (zai zaS (zac (eV 4) zal))))))))))
def za9:List D->R (D×List D):=run [true,false] false 7 za8
def zbs:SF:=(sIf (FL.tOr (FL.zbV (tE (e1 (zcq "tuple") (eV 4)))) (FL.tOr (FL.zbV (tE (e1 (zcq "tuple") (e2 ixD (eV 4) (eC (.int 0)))))) (FL.zbV (tE (e1 (zcq "tuple") (e2 ixD (eV 4) (eC (.int 1)))))))) (zaw (eC (.bool false))) sNx)
def zb8:SF:=(zp7 3 (gN 4) zbs)
def zcZ:SF:=(zav (zdw 3 (zai zcl (zac (eV 2) (zac (eV 1) zal))))
  (zav (sIf (FL.tOr (FL.zbV (tE (m1 (zcq "list") 3))) (tB (m2 neD 3 (eV 0)))) (zaw (eC (.bool false))) sNx)
  (zav zb8
  (zav (zji 3 zjk (zb3 (zac (zb3 zal) (zac (zb3 (zac (eC (.int 7)) (zac (eC (.int 1)) zal))) zal))))
  (zaw (e2 eqD (zai zcl (zac (eV 2) (zac (eV 1) zal))) (eV 0)))))))
def zaW:List D->R D:=zbE false 3 5 zcZ
def zfF:SF:=(zav (zdw 2 (zai zcF (zac (zai zen (zac (eV 0) (zac (eV 1) zal))) (zac (e2 zbk (eC (.int 50)) (eV 1)) zal))))
  (zav (zba (gN 3) (e2 zbk (eC (.int 1)) (zam zag [.m 2,.v (eC (.int 6))])))
  (zav (zba (gN 4) (zam zdI [.m 2,.v (eV 3),.v (eC (.int 9))]))
  (zav (zba (gN 5) (e1 zeB (eV 4)))
  (zav (zba (gN 6) (zai zbo (zac (eV 5) zal)))
  (zav (sIf (FL.tOr (FL.zbV (tE (e1 (zcq "str") (eV 6)))) (FL.tOr (tB (e2 neD (eV 6) (zai zaS (zac (eV 4) zal)))) (FL.tOr (tB (e2 neD (eV 5) (eV 4))) (tB (e2 neD (zai zbo (zac (eV 5) zal)) (eV 6)))))) (zaw (eC (.bool false))) sNx)
  (zav (sIf (FL.tOr (FL.zbV (tE (zam za9 [.m 2,.v (eV 4)]))) (FL.zbV (tE (zai zaW (zac (eV 4) (zac (eV 3) (zac (eV 6) zal))))))) (zaw (eC (.bool false))) sNx)
  (sIf (FL.ze1 (tB (e2 neD (eV 4) (zc8 zal))) (FL.zbV (tE (zai zaW (zac (eV 4) (zac (eV 3) (zac (zam zbD [.v (eV 4),.m 2]) zal))))))) (zaw (eC (.bool false))) sNx))))))))
def zhC:SF:=(zgz (iR1 (zac (eC (.int 8)) zal)) (gN 1) zfF)
def zpa:SF:=(zav zhC
  (zaw (zai zaW (zac (zc8 zal) (zac (eC (.int 1)) (zac (eC (.str "0")) zal))))))
def znH:List D->R D:=zbE false 1 7 zpa
end K79
namespace K79
open PySem L2 PySem.Spec FL
open PyProof.Rows hiding St
def top(i:Nat):Stmt:=PySem.Challenge.pw_swaprest_k79_sum_texts.main.body.getD i (.Pass ⟨0,0,0,0⟩)
variable [Cs]
structure Cst(mg:Str->Option Value)(zeq:Tok)(zcJ:Tok)(zaZ:Tok)(zbI:Tok)(zcI:Tok)(zbS:Addr):Prop where
  zhU:mg "ALONE"=some (.str "e" zeq)
  zfU:mg "FIGURES"=some (.str "0123456789" zcJ)
  zcH:mg "MOST_FIGURES"=some (.int 9 zaZ)
  zdS:mg "MOST_LONG"=some (.int 5 zbI)
  zd9:mg "NOTHING"=some (.str "0" zcI)
  zhT:mg "NOUGHT"=some (.ref zbS)
  v_NOUGHT:∃ o,Cs.C zbS=some (.frz o (.tup [.int 0,.int 1]))
section
variable {P:Program}{w:World}{K:PySem.W.Frag}{mg:Str->Option Value}{base:Heap}
abbrev zhy:=CT "is_whole" 1 ["one"] 1 false zeW
abbrev zda:=CT "common_divisor" 1 ["one","other"] 2 false zdc
abbrev zfe:=CT "word_order" 1 ["word"] 1 false zfg
abbrev zel:=CT "number_text" 1 ["number"] 1 false zc2
abbrev zgn:=CT "word_text" 1 ["word"] 1 false zdX
abbrev zcE:=CT "read_whole" 1 ["text"] 1 false zbp
abbrev zdr:=CT "_law_mixed" 1 ["_law_cell","_law_k"] 2 false zdu
abbrev zjc:=CT "_law_at" 1 ["_law_script","_law_k"] 2 false zen
abbrev zeP:=CT "_law_low" 1 ["_law_top","_law_bottom"] 2 false zbP
abbrev zb4:=CT "_law_word_text" 1 ["_law_word"] 1 false zaY
abbrev zdW:=CT "_law_rank" 1 ["_law_word"] 1 false zc4
abbrev zbC:=CT "_law_number_text" 1 ["_law_number"] 1 false zaK
abbrev zgp:=CT "is_number" 2 ["one"] 1 false zc3
abbrev zeO:=CT "sum_text" 2 ["total"] 1 false zbo
abbrev zhw:=CT "read_top" 2 ["text"] 1 false zeV
abbrev zhv:=CT "read_way" 2 ["text","count"] 2 false zeU
abbrev zff:=CT "_law_purse" 2 ["_law_cell","_law_k"] 2 true zcF
abbrev zbN:=CTM "_law_take" 2 ["_law_purse_here","_law_many"] [true,false] false zag
abbrev zcu:=CT "_law_sum_text" 2 ["_law_total"] 1 false zaS
abbrev zdb:=CT "_law_word_rank" 2 ["_law_term"] 1 false zax
abbrev zek:=CT "read_number" 3 ["text"] 1 false zch
abbrev zgo:=CT "read_word" 3 ["text","count"] 2 false zc1
abbrev zgr:=CTM "_law_nine" 3 ["_law_purse_here"] [true] false zaX
abbrev zdq:=CTM "_law_mixed_up" 3 ["_law_total","_law_purse_here"] [false,true] false zbD
abbrev zhu:=CT "told_sum" 4 ["held"] 1 true zdH
abbrev zhz:=CTM "_law_sum" 4 ["_law_purse_here","_law_count","_law_most"] [true,false,false] true zdI
abbrev zhx:=CT "read_sum" 5 ["text","count"] 2 true zcl
abbrev zcN:=CTM "_law_great_well" 5 ["_law_purse_here","_law_total"] [true,false] false za9
abbrev zgq:=CT "_law_well" 6 ["_law_total","_law_count","_law_text"] 3 false zaW
variable {zeq:Tok}{zcJ:Tok}{zaZ:Tok}{zbI:Tok}{zcI:Tok}{zbS:Addr}(B:Blt mg)(C:Cst mg zeq zcJ zaZ zbI zcI zbS)
include B C
theorem zlv(h:Has K mg "is_whole" (top 5)):zhy P w K mg base:=fnP ["one"] h fun hr nd=>by
  unfold zhs
  exact(zaJ (zr9 (zjy zqW B.zaC B.zmI Bt.int (zab 0)) (zr0 (zr1 (zjy zoM B.zaC B.zky Bt.bool (zab 0))))))
theorem zfk(h:Has K mg "common_divisor" (top 6)):zda P w K mg base:=fnP ["one","other","high","low"] h fun hr nd=>by
  unfold zc9 zcz
  exact(zae (zkn 2 3 nd (zgI zrf B.zli Bt.abs (zab 0)) (zgI zrf B.zli Bt.abs (zab 1)))
      (zae (ziB (zdf 3) PassesOwn.never (zaB (zmi hr) (zab 3) zad) (zaM (zkn 2 3 nd (zab 3) (zar zjF (zab 2) (zab 3)))))
      (zaJ (zab 2))))
theorem ziQ(h:Has K mg "word_order" (top 10)):zfe P w K mg base:=fnP ["word"] h fun hr nd=>by
  unfold zfb
  exact(zaJ (zbw (a2 (zgI zjZ B.zgJ Bt.len (zab 0)) (zab 0))))
theorem zh2(h:Has K mg "number_text" (top 17)):zel P w K mg base:=fnP ["number","top","bottom"] h fun hr nd=>by
  unfold zcg
  exact(zae (zhN (zab 0) (zcR rfl (zat (g_n 1 nd) (zat (g_n 2 nd) zcc))))
      (zaJ (zqp (zaB (zla hr) (zab 2) zad) (zpi (zld (zab 1))) (zr5 (.cons (zld (zab 1)) (.cons zbn (.cons (zld (zab 2)) .nil)))))))
theorem zjO(h:Has K mg "word_text" (top 18)):zgn P w K mg base:=fnP ["word"] h fun hr nd=>by
  unfold zcY zca
  exact(zaJ (zqp (zbb zdJ (zab 0)) (zdK PySem.F.slot_str_join PySem.F.type_str_join ziJ zbn (PVN.pv (cp ["way"] [] ["way"] (zcQ (zab 0)) (fun nd=>(g_n 0 nd)) zcb (zpi (zld (zab 0)))))) (zdR (v:=(.str "e")) rfl C.zhU ⟨_,rfl⟩ (fun _=>by simp [Fz]))))
theorem ziR(h:Has K mg "read_whole" (top 20)):zcE P w K mg base:=fnP ["text"] h fun hr nd=>by
  unfold zcD zbf
  exact(zae (zaN (PVW.pvt (zbm (zbc (zmk (zuV hr) (zuV hr) zad (zgI ztl B.zgJ Bt.len (zab 0)) (zdR (v:=(.int 9)) rfl C.zcH ⟨_,rfl⟩ (fun _=>zdn _)))) (zb1 (zbc (zbb zdJ (zgI (zuI rfl) B.zoC Bt.all (PVN.pv (cp ["sign"] [] ["sign"] (zqm (zab 0)) (fun nd=>(g_n 0 nd)) zcb (zoh (zug (zl0 hr)) (zab 0) (zdR (v:=(.str "0123456789")) rfl C.zfU ⟨_,rfl⟩ (fun _=>by simp [Fz]))))))))))) (zaJ zcK) zay)
      (zae (zaN (PVW.pvt (zjv (zaB (zla hr) (zdQ zuf (zab 0) zad) zbn) (zhL (zaB (zmi hr) (zab 0) zbn)))) (zaJ zcK) zay)
      (zaJ (ziF ztm B.zmI Bt.int (zab 0)))))
theorem ziT(h:Has K mg "_law_mixed" (top 27)):zdr P w K mg base:=fnP ["_law_cell","_law_k","_law_number"] h fun hr nd=>by
  unfold zfd
  exact(zae (zbv 2 nd (zar zce (zar zce (zar zfR (zar zce (zar zjF (zab 0) (zar zce (zar zfQ zad zad) zad)) (zar zfR zad (zab 1))) zad) (zar zfR zad (zab 1))) zad))
      (zae (zbv 2 nd (zar zjF (zar zfR (zab 2) (zab 2)) (zar zce (zar zfQ zad zad) zad)))
      (zaJ (zar zjF (zar zfR (zar zce (zab 2) zad) (zar zce (zab 2) zad)) (zar zce (zar zfQ zad zad) zad)))))
theorem zm1(h:Has K mg "_law_at" (top 30)):zjc P w K mg base:=fnP ["_law_script","_law_k"] h fun hr nd=>by
  unfold zi9
  exact(zae (zaN (zaB (zrV hr) (zab 1) (zgI zjZ B.zgJ Bt.len (zab 0))) (zaJ (zdQ zg0 (zab 0) (zab 1))) zay)
      (zaJ (zar zce (zar zfR zad (zab 1)) zad)))
theorem zlx(h:Has K mg "_law_low" (top 31)):zeP P w K mg base:=fnP ["_law_top","_law_bottom","_law_one","_law_other"] h fun hr nd=>by
  unfold zht zeZ
  exact(zae (zbv 2 nd (zgI zrf B.zli Bt.abs (zab 0)))
      (zae (zbv 3 nd (zab 1))
      (zae (ziB (zdf 3) PassesOwn.never (zaB (zmi hr) (zab 3) zad) (zaM (zkn 2 3 nd (zab 3) (zar zjF (zab 2) (zab 3)))))
      (zaJ (zbw (a2 (zar (zmE hr) (zab 0) (zab 2)) (zar (zmE hr) (zab 1) (zab 2))))))))
theorem zfl(h:Has K mg "_law_word_text" (top 36)):zb4 P w K mg base:=fnP ["_law_word"] h fun hr nd=>by
  unfold zbg za0
  exact(zae (zaN (zaB (zla hr) (zab 0) (zbw zcp)) (zaJ zbn) zay)
      (zaJ (zdK PySem.F.slot_str_join PySem.F.type_str_join ziJ zbn (PVN.pv (cp ["_law_way"] [] ["_law_way"] (zcQ (zab 0)) (fun nd=>(g_n 0 nd)) zcb (ziF zkV B.zjH Bt.str (zab 0)))))))
theorem zjT(h:Has K mg "_law_rank" (top 37)):zdW P w K mg base:=fnP ["_law_word"] h fun hr nd=>by
  unfold zgm
  exact(zaJ (zbw (a2 (zgI zjZ B.zgJ Bt.len (zab 0)) (zab 0))))
theorem zeb(h:Has K mg "_law_number_text" (top 40)):zbC P w K mg base:=fnP ["_law_number"] h fun hr nd=>by
  unfold za1
  exact(zae (zaN (zaB (zla hr) (zdQ zg0 (zab 0) zad) zad) (zaJ (ziF zkV B.zjH Bt.str (zdQ zg0 (zab 0) zad))) zay)
      (zaJ (zar zg9 (zar zg9 (ziF zkV B.zjH Bt.str (zdQ zg0 (zab 0) zad)) zbn) (ziF zkV B.zjH Bt.str (zdQ zg0 (zab 0) zad)))))
theorem zjQ(h:Has K mg "is_number" (top 7)) (c_common_divisor:zda P w K mg base) (c_is_whole:zhy P w K mg base):zgp P w K mg base:=fnP ["one","top","bottom"] h fun hr nd=>by
  unfold zgk
  exact(zae (zaN (PVW.pvt (zbm (zbc (zbb zdJ (zjy kit_tuple B.zaC B.zcS Bt.tuple (zab 0)))) (zb1 (zaB (zmi hr) (zgI zjZ B.zgJ Bt.len (zab 0)) zad)))) (zaJ zjz) zay)
      (zae (zhN (zab 0) (zcR rfl (zat (g_n 1 nd) (zat (g_n 2 nd) zcc))))
      (zae (zaN (PVW.pvt (zbm (zbc (zbb zdJ (zbd c_is_whole hr (a1 (zab 1))))) (zbm (zbc (zbb zdJ (zbd c_is_whole hr (a1 (zab 2))))) (zb1 (zaB (zrV hr) (zab 2) zad))))) (zaJ zjz) zay)
      (zaJ (zoh (zla hr) (zbd c_common_divisor hr (a2 (zab 1) (zab 2))) zad)))))
theorem zlq(h:Has K mg "sum_text" (top 19)) (c_number_text:zel P w K mg base) (c_word_text:zgn P w K mg base):zeO P w K mg base:=fnP ["total"] h fun hr nd=>by
  unfold zdB zcB
  exact(zae (zaN (zbc (zbb zdJ (zab 0))) (zaJ (zdR (v:=(.str "0")) rfl C.zd9 ⟨_,rfl⟩ (fun _=>by simp [Fz]))) zay)
      (zaJ (zdK PySem.F.slot_str_join PySem.F.type_str_join ziJ zbn (PVN.pv (cp ["word","number"] [] ["word","number"] (zcQ (zab 0)) (fun nd=>(zcR rfl (zat (g_n 0 nd) (zat (g_n 1 nd) zcc)))) zcb (zr5 (.cons (zld (zbd c_number_text hr (a1 (zab 1)))) (.cons zbn (.cons (zld (zbd c_word_text hr (a1 (zab 0)))) .nil)))))))))
theorem zls(h:Has K mg "read_top" (top 21)) (c_read_whole:zcE P w K mg base):zhw P w K mg base:=fnP ["text","whole"] h fun hr nd=>by
  unfold zcj
  exact(zae (zaN (zbc (zbb zdJ (zdK PySem.F.slot_str_startswith PySem.F.type_str_startswith zoH (zab 0) zbn))) (zaJ (zbd c_read_whole hr (a1 (zab 0)))) zay)
      (zae (zbv 1 nd (zbd c_read_whole hr (a1 (zmo (zab 0) (zob zad) zoc))))
      (zae (zaN (PVW.pvt (zbm (zaB zlg (zab 1) zcK) (zb1 (zaB (zla hr) (zab 1) zad)))) (zaJ zcK) zay)
      (zaJ (zqn zpQ (zab 1))))))
theorem zlr(h:Has K mg "read_way" (top 23)) (c_read_whole:zcE P w K mg base):zhv P w K mg base:=fnP ["text","count","way"] h fun hr nd=>by
  unfold zdC
  exact(zae (zbv 2 nd (zbd c_read_whole hr (a1 (zab 0))))
      (zae (zaN (PVW.pvt (zbm (zaB zlg (zab 2) zcK) (zb1 (zaB (zuW hr) (zab 2) (zab 1))))) (zaJ zcK) zay)
      (zaJ (zab 2))))
theorem ziS(h:Has K mg "_law_purse" (top 28)) (c__law_mixed:zdr P w K mg base):zff P w K mg base:=fnP ["_law_cell","_law_k"] h fun hr nd=>by
  unfold zfc
  exact(zae (zaN (zaB (zuW hr) (zab 0) (zar zfQ zad zad)) (zaM (zdx (zco (a3 (zar zlf (zab 0) (zar zfQ zad zad)) zad (zab 1))))) zay)
      (zaM (zdx (zco (a3 (zbd c__law_mixed hr (a2 (zab 0) (zab 1))) zad (zar zce (zar zjF (zab 0) (zar zce (zar zfQ zad zad) zad)) (zab 1)))))))
theorem zjS(h:Has K mg "_law_take" (top 29)) (c__law_mixed:zdr P w K mg base):zbN P w K mg base:=fnM [true,false] ["_law_purse_here","_law_many","_law_got"] h fun hr nd=>by
  unfold zgl
  exact(zae (zaN (zaB (zrV hr) (zjx 0 zg0 zad) (zab 1)) (zae (zhM 0 (pv 0) (zar zce (zjx 0 zg0 zad) zad) zad)
      (zaM (zhM 0 (pv 0) (zar zce (zjx 0 zg0 zad) (zar zfR (zab 1) (zbd c__law_mixed hr (a2 (zjx 0 zg0 zad) (zar zce (zar zfR zad (zjx 0 zg0 zad)) zad))))) zad))) zay)
      (zae (zbv 2 nd (zar zjF (zjx 0 zg0 zad) (zab 1)))
      (zae (zhM 0 (pv 0) (zar (zmE hr) (zjx 0 zg0 zad) (zab 1)) zad)
      (zaJ (zab 2)))))
theorem zf0(h:Has K mg "_law_sum_text" (top 38)) (c__law_word_text:zb4 P w K mg base) (c__law_number_text:zbC P w K mg base):zcu P w K mg base:=fnP ["_law_total"] h fun hr nd=>by
  unfold zbA za6
  exact(zae (zaN (zaB (zla hr) (zab 0) (PVN.pv (zco zcp))) (zaJ zbn) zay)
      (zaJ (zdK PySem.F.slot_str_join PySem.F.type_str_join ziJ zbn (PVN.pv (cp ["_law_word","_law_number"] [] ["_law_word","_law_number"] (zcQ (zab 0)) (fun nd=>(zcR rfl (zat (g_n 0 nd) (zat (g_n 1 nd) zcc)))) zcb (zar zg9 (zar zg9 (zbd c__law_number_text hr (a1 (zab 1))) zbn) (zbd c__law_word_text hr (a1 (zab 0)))))))))
theorem zfm(h:Has K mg "_law_word_rank" (top 44)) (c__law_rank:zdW P w K mg base):zdb P w K mg base:=fnP ["_law_term"] h fun hr nd=>by
  unfold zbh
  exact(zaJ (zbd c__law_rank hr (a1 (zdQ zg0 (zab 0) zad))))
theorem zh1(h:Has K mg "read_number" (top 22)) (c_read_top:zhw P w K mg base) (c_read_whole:zcE P w K mg base) (c_is_number:zgp P w K mg base):zek P w K mg base:=fnP ["text","above","stroke","below","top","bottom"] h fun hr nd=>by
  unfold za7
  exact(zae (zhN (zdK PySem.F.slot_str_partition PySem.F.type_str_partition zpt (zab 0) zbn) (zcR rfl (zat (g_n 1 nd) (zat (g_n 2 nd) (zat (g_n 3 nd) zcc)))))
      (zae (zbv 4 nd (zbd c_read_top hr (a1 (zab 1))))
      (zae (zbv 5 nd (zqp (zmj (zab 2)) (zbd c_read_whole hr (a1 (zab 3))) zad))
      (zae (zaN (PVW.pvt (zbm (zaB zlg (zab 4) zcK) (zbm (zaB zlg (zab 5) zcK) (zbm (PVW.pvt (zjv (zmj (zab 2)) (zhL (zaB (zla hr) (zab 5) zad)))) (zb1 (zbc (zbb zdJ (zbd c_is_number hr (a1 (zbw (a2 (zab 4) (zab 5)))))))))))) (zaJ zcK) zay)
      (zaJ (zbw (a2 (zab 4) (zab 5))))))))
theorem zjP(h:Has K mg "read_word" (top 24)) (c_read_way:zhv P w K mg base):zgo P w K mg base:=fnP ["text","count","ways"] h fun hr nd=>by
  unfold zbM zbu
  exact(zae (zaN (zaB (zla hr) (zab 0) (zdR (v:=(.str "e")) rfl C.zhU ⟨_,rfl⟩ (fun _=>by simp [Fz]))) (zaJ (zbw zcp)) zay)
      (zae (zn8 2 (cpS 2 ["part"] [1] ["part","count"] nd (zcQ (zdK PySem.F.slot_str_split PySem.F.type_str_split m_split (zab 0) zbn)) (fun nd=>(g_n 0 nd)) zcb (zbd c_read_way hr (a2 (zab 0) (zab 1)))))
      (zae (zaN (PVW.pvt (zbm (zaB (ztX hr) zcK (zab 2)) (zb1 (zaB (zvA hr) (zgI zjZ B.zgJ Bt.len (zab 2)) (zdR (v:=(.int 5)) rfl C.zdS ⟨_,rfl⟩ (fun _=>zdn _)))))) (zaJ zcK) zay)
      (zaJ (ziF zns B.zcS Bt.tuple (zab 2))))))
theorem zjU(h:Has K mg "_law_nine" (top 35)) (c__law_take:zbN P w K mg base) (c__law_low:zeP P w K mg base):zgr P w K mg base:=fnM [true] ["_law_purse_here","_law_way"] h fun hr nd=>by
  unfold zbj
  exact(zae (zbv 1 nd (zdg c__law_take hr (zim 0 (zbG zad zaH))))
      (zae (zaN (zaB (zrV hr) (zab 1) zad) (zaJ (zdQ zg0 (PVN.pv (zco (a3 (zbw (a2 zad zad)) (zbw (a2 zad zad)) (zbw (a2 (zqn zpQ zad) zad))))) (zab 1))) zay)
      (zae (zaN (zaB (zrV hr) (zab 1) zad) (zaJ (zbd c__law_low hr (a2 (zar zlf (zdg c__law_take hr (zim 0 (zbG zad zaH))) zad) (zar zce zad (zar zfR (zdg c__law_take hr (zim 0 (zbG zad zaH))) (zar zlf (zab 1) zad)))))) zay)
      (zaJ (zbd c__law_low hr (a2 (zar zce (zar zlf (zdg c__law_take hr (zim 0 (zbG (zar zlf (zar zfR zad (zar zfQ zad zad)) zad) zaH))) (zar zfQ zad zad)) zad) (zar zce zad (zdg c__law_take hr (zim 0 (zbG (zar zlf (zar zfQ zad zad) zad) zaH))))))))))
theorem zf1(h:Has K mg "_law_mixed_up" (top 41)) (c__law_word_text:zb4 P w K mg base) (c__law_take:zbN P w K mg base) (c__law_number_text:zbC P w K mg base):zdq P w K mg base:=fnM [false,true] ["_law_total","_law_purse_here","_law_words","_law_word","_law_number","_law_term"] h fun hr nd=>by
  unfold zbB za4 za5
  exact(zae (zfL 2 nd (zco zcp))
      (zae (ziC (zcQ (zab 0)) (zcR rfl (zat (g_n 3 nd) (zat (g_n 4 nd) zcc))) (zae (zbv 5 nd (zar zg9 (zar zg9 (zbd c__law_number_text hr (a1 (zab 4))) zbn) (zbd c__law_word_text hr (a1 (zab 3)))))
      (zaM (zlb 2 rfl (pv 2) (zdg c__law_take hr (zim 1 (zbG (zar zce (zt1 2 zjZ B.zgJ Bt.len) zad) zaH))) (zab 5)))))
      (zaM (zfM 2 (zjw (zdK PySem.F.slot_str_join PySem.F.type_str_join ziJ zbn (zab 2)))))))
theorem zlp(h:Has K mg "told_sum" (top 11)) (c_word_order:zfe P w K mg base):zhu P w K mg base:=fnP ["held"] h fun hr nd=>by
  unfold zhr ze4
  exact(zaM (zdx (cp ["word"] [0] ["word","held"] (zcQ (PVN.pv (ziD c_word_order hr rfl rfl B.zd8 rfl (zab 0)))) (fun nd=>(g_n 0 nd)) zcb (zbw (a2 (zab 0) (zdQ (zuX hr) (zab 1) (zab 0)))))))
theorem zlw(h:Has K mg "_law_sum" (top 39)) (c__law_rank:zdW P w K mg base) (c__law_take:zbN P w K mg base) (c__law_nine:zgr P w K mg base):zhz P w K mg base:=fnM [true,false,false] ["_law_purse_here","_law_count","_law_most","_law_numbers","_law_turn","_law_word","_law_number"] h fun hr nd=>by
  unfold zdD zbl zcA zbU zbX
  exact(zae (zfL 3 nd ziE)
      (zae (ziC (zeu rfl B.zez (a1 (zdg c__law_take hr (zim 0 (zbG (zar zce (zab 2) zad) zaH))))) (g_n 4 nd) (zae (zbv 5 nd (ziF zns B.zcS Bt.tuple (PVN.pv (cp ["_law_k"] [0,1] ["_law_k","_law_purse_here","_law_count"] (zeu rfl B.zez (a1 (zdg c__law_take hr (zim 0 (zbG zad zaH))))) (fun nd=>(g_n 0 nd)) zcb (zdg c__law_take hr (zim 1 (zbG (zab 2) zaH)))))))
      (zae (zbv 6 nd (zdg c__law_nine hr (zim 0 zaH)))
      (zaM (zaN (zaB (zmi hr) (zdQ zg0 (zab 6) zad) zad) (zaM (zko 3 (zkg hr) (pv 3) (zab 6) (zab 5))) zay)))))
      (zaM (zfM 3 (zdx (cp ["_law_word"] [3] ["_law_word","_law_numbers"] (zcQ (PVN.pv (ziD c__law_rank hr rfl rfl B.zd8 rfl (zab 3)))) (fun nd=>(g_n 0 nd)) zcb (zbw (a2 (zab 0) (zdQ (zuX hr) (zab 1) (zab 0))))))))))
theorem zlu(h:Has K mg "read_sum" (top 25)) (c_told_sum:zhu P w K mg base) (c_read_number:zek P w K mg base) (c_read_word:zgo P w K mg base):zhx P w K mg base:=fnP ["text","count","held","at","term","above","colon","below","number","word"] h fun hr nd=>by
  unfold zck zcy zbT
  exact(zae (zaN (zaB (zla hr) (zab 0) (zdR (v:=(.str "0")) rfl C.zd9 ⟨_,rfl⟩ (fun _=>by simp [Fz]))) (zaM (zdx (zco zcp))) zay)
      (zae (zfL 2 nd ziE)
      (zae (ziC (zof rfl B.zcT (a1 (zdK PySem.F.slot_str_split PySem.F.type_str_split m_split (zab 0) zbn))) (zcR rfl (zat (g_n 3 nd) (zat (g_n 4 nd) zcc))) (zae (zhN (zdK PySem.F.slot_str_partition PySem.F.type_str_partition zpt (zab 4) zbn) (zcR rfl (zat (g_n 5 nd) (zat (g_n 6 nd) (zat (g_n 7 nd) zcc)))))
      (zae (zkn 8 9 nd (zbd c_read_number hr (a1 (zab 5))) (zbd c_read_word hr (a2 (zab 7) (zab 1))))
      (zae (zaN (PVW.pvt (zbm (zaB zlg (zab 8) zcK) (zbm (zaB (zla hr) (zab 8) (zr6 rfl C.zhT C.v_NOUGHT (fun _=>by simp [zaf,Fz]))) (zbm (zaB zlg (zab 9) zcK) (zb1 (zqf 2 (ztY hr) (zab 9))))))) (zaM zmm) zay)
      (zaM (zko 2 (zkg hr) (pv 2) (zab 8) (zab 9)))))))
      (zaM (zfM 2 (zdx (zkp c_told_sum hr (a1 (zab 2)))))))))
theorem zeG(h:Has K mg "_law_great_well" (top 43)) (c__law_word_rank:zdb P w K mg base) (c__law_low:zeP P w K mg base) (c_sum_text:zeO P w K mg base) (c__law_sum_text:zcu P w K mg base) (c__law_take:zbN P w K mg base):zcN P w K mg base:=fnM [true,false] ["_law_purse_here","_law_total","_law_top","_law_number","_law_great","_law_word","_law_much"] h fun hr nd=>by
  unfold za8 zaT zaG
  exact(zae (zbv 2 nd (zar zfR (zar zce zad (zdg c__law_take hr (zim 0 (zbG (zar zfQ zad zad) zaH)))) (zdQ zg0 (PVN.pv (zco (a2 zad (zqn zpQ zad)))) (zdg c__law_take hr (zim 0 (zbG zad zaH))))))
      (zae (zbv 3 nd (zbd c__law_low hr (a2 (zab 2) (zar zce zad (zdg c__law_take hr (zim 0 (zbG (zdQ zg0 (PVN.pv (zco (a2 zad (zar zfQ zad zad)))) (zdg c__law_take hr (zim 0 (zbG zad zaH)))) zaH)))))))
      (zae (zfL 4 nd (zco (a1 (zbw (a2 (zbw (zcd zad (zcd zad (a3 zad zad zad)))) (zab 3))))))
      (zae (ziC (zcQ (zab 1)) (zcR rfl (zat (g_n 5 nd) (zat (g_n 6 nd) zcc))) (zaM (zaN (zaB (zmi hr) (zab 5) (zbw (zcd zad (zcd zad (a3 zad zad zad))))) (zaM (zg5 4 rfl (pv 4) (zbw (a2 (zab 5) (zab 6))))) zay)))
      (zae (zfM 4 (zfL 4 nd (zlc c__law_word_rank hr rfl rfl B.zd8 rfl (zab 4))))
      (zaM (zfM 4 (zjw (zoh (zla hr) (zbd c_sum_text hr (a1 (zab 4))) (zbd c__law_sum_text hr (a1 (zab 4))))))))))))
theorem zjR(h:Has K mg "_law_well" (top 42)) (c_read_sum:zhx P w K mg base):zgq P w K mg base:=fnP ["_law_total","_law_count","_law_text","_law_told","_law_term"] h fun hr nd=>by
  unfold zcZ zb8 zbs
  exact(zae (zfL 3 nd (zkp c_read_sum hr (a2 (zab 2) (zab 1))))
      (zae (zaN (PVW.pvt (zbm (zbc (zbb zdJ (zqo 3 zoL rfl B.zaC rfl B.ziH Bt.list (pv 3)))) (zb1 (zqh 3 (zmi hr) (zab 0))))) (zaJ zjz) zay)
      (zae (zoa (dom:=[4]) 3 (pv 3) (g_n 4 nd) (zqt (zsb (PVW.pvt (zbm (zbc (zbb zdJ (zjy kit_tuple B.zaC B.zcS Bt.tuple (zab 4)))) (zbm (zbc (zbb zdJ (zjy kit_tuple B.zaC B.zcS Bt.tuple (zdQ zg0 (zab 4) zad)))) (zb1 (zbc (zbb zdJ (zjy kit_tuple B.zaC B.zcS Bt.tuple (zdQ zg0 (zab 4) zad)))))))) (zt4 zjz) zqu)))
      (zae (zg5 3 rfl (pv 3) (zbw (a2 (zbw zcp) (zbw (a2 zad zad)))))
      (zaJ (zoh (zla hr) (PVN.pv (zkp c_read_sum hr (a2 (zab 2) (zab 1)))) (zab 0)))))))
set_option maxHeartbeats 0 in
theorem zun{fa:Addr}{fd:FuncData}(h:Fun K "law" "law" (top 45) fa fd) (c__law_well:zgq P w K mg base) (c__law_purse:zff P w K mg base) (c__law_sum:zhz P w K mg base) (c_sum_text:zeO P w K mg base) (c__law_at:zjc P w K mg base) (c__law_take:zbN P w K mg base) (c__law_sum_text:zcu P w K mg base) (c__law_great_well:zcN P w K mg base) (c__law_mixed_up:zdq P w K mg base):zhB P w K mg base (CXe P w) 7 fa fd ["_law_script"] (spP K 1 false znH):=by
  have S:zdt ["_law_script","_law_k","_law_purse_here","_law_count","_law_total","_law_handed","_law_text"] ["_law_script"] (zas (top 45)):=⟨rfl,rfl,rfl,by decide +kernel,rfl,by decide +kernel,by decide +kernel⟩
  refine zhB.pure (zng (List.replicate 1 false) false h S rfl (by decide) fun cdv A outer s H E hr=>?_)
  have nd:=S.nd
  refine zml ?_
  unfold zpa zhC zfF
  exact(zae (ziC (zeu rfl B.zez (a1 zad)) (g_n 1 nd) (zae (zfL 2 nd (zkp c__law_purse hr (a2 (zbd c__law_at hr (a2 (zab 0) (zab 1))) (zar zce zad (zab 1)))))
      (zae (zbv 3 nd (zar zce zad (zdg c__law_take hr (zim 2 (zbG zad zaH)))))
      (zae (zbv 4 nd (PVN.pv (zrY c__law_sum hr (zim 2 (zbG (zab 3) (zbG zad zaH))))))
      (zae (zbv 5 nd (ziF ztk B.ziH Bt.list (zab 4)))
      (zae (zbv 6 nd (zbd c_sum_text hr (a1 (zab 5))))
      (zae (zaN (PVW.pvt (zbm (zbc (zbb zdJ (zjy zqV B.zaC B.zjH Bt.str (zab 6)))) (zbm (zaB (zmi hr) (zab 6) (zbd c__law_sum_text hr (a1 (zab 4)))) (zbm (zaB (zmi hr) (zab 5) (zab 4)) (zb1 (zaB (zmi hr) (zbd c_sum_text hr (a1 (zab 5))) (zab 6))))))) (zaJ zjz) zay)
      (zae (zaN (PVW.pvt (zbm (zbc (zbb zdJ (zdg c__law_great_well hr (zim 2 (zbG (zab 4) zaH))))) (zb1 (zbc (zbb zdJ (zbd c__law_well hr (a3 (zab 4) (zab 3) (zab 6)))))))) (zaJ zjz) zay)
      (zaM (zaN (PVW.pvt (zjv (zaB (zmi hr) (zab 4) (PVN.pv (zco zcp))) (zhL (zbc (zbb zdJ (zbd c__law_well hr (a3 (zab 4) (zab 3) (zdg c__law_mixed_up hr (zbG (zab 4) (zim 2 zaH)))))))))) (zaJ zjz) zay))))))))))
      (zaJ (zbd c__law_well hr (a3 (PVN.pv (zco zcp)) zad zbn))))
end
end K79
namespace K79
open PySem L2 PySem.Spec FL
open PyProof.Rows hiding St
theorem all_mk{l:PySem.W.OpenLaw}{w:World}{K:PySem.W.Frag}{h:Heap}{mg:Str->Option Value}{fa:Addr}(X:K.In h)(G:h.Ns mainGlobals mg)(hfa:mg "law"=some (.ref fa))
  {zeq:Tok} {zcJ:Tok} {zaZ:Tok} {zbI:Tok} {zcI:Tok} {zbS:Addr}
  {ou_NOUGHT:Option Addr} {nn_NOUGHT:Nat} {su_NOUGHT:Array (Option Value)} {k0_NOUGHT k1_NOUGHT:Tok}
  (zlS:Has K mg "is_whole" (top 5))
  (zfr:Has K mg "common_divisor" (top 6))
  (zjd:Has K mg "word_order" (top 10))
  (zij:Has K mg "number_text" (top 17))
  (zj7:Has K mg "word_text" (top 18))
  (zje:Has K mg "read_whole" (top 20))
  (zjg:Has K mg "_law_mixed" (top 27))
  (znE:Has K mg "_law_at" (top 30))
  (zlU:Has K mg "_law_low" (top 31))
  (zfs:Has K mg "_law_word_text" (top 36))
  (zkc:Has K mg "_law_rank" (top 37))
  (zem:Has K mg "_law_number_text" (top 40))
  (zj9:Has K mg "is_number" (top 7))
  (zlO:Has K mg "sum_text" (top 19))
  (zlQ:Has K mg "read_top" (top 21))
  (zlP:Has K mg "read_way" (top 23))
  (zjf:Has K mg "_law_purse" (top 28))
  (zkb:Has K mg "_law_take" (top 29))
  (zgt:Has K mg "_law_sum_text" (top 38))
  (zft:Has K mg "_law_word_rank" (top 44))
  (zii:Has K mg "read_number" (top 22))
  (zj8:Has K mg "read_word" (top 24))
  (zkd:Has K mg "_law_nine" (top 35))
  (zgu:Has K mg "_law_mixed_up" (top 41))
  (zlN:Has K mg "told_sum" (top 11))
  (zlT:Has K mg "_law_sum" (top 39))
  (zlR:Has K mg "read_sum" (top 25))
  (zeS:Has K mg "_law_great_well" (top 43))
  (zka:Has K mg "_law_well" (top 42))
  (zuQ:Has K mg "law" (top 45))
  (zhU:PySem.W.nsIn K mainGlobals "ALONE"=some (some (.str "e" zeq)))
  (zfU:PySem.W.nsIn K mainGlobals "FIGURES"=some (some (.str "0123456789" zcJ)))
  (zcH:PySem.W.nsIn K mainGlobals "MOST_FIGURES"=some (some (.int 9 zaZ)))
  (zdS:PySem.W.nsIn K mainGlobals "MOST_LONG"=some (some (.int 5 zbI)))
  (zd9:PySem.W.nsIn K mainGlobals "NOTHING"=some (some (.str "0" zcI)))
  (zhT:PySem.W.nsIn K mainGlobals "NOUGHT"=some (some (.ref zbS)))
  (zoK:K.lookup zbS=some ⟨.type "tuple",ou_NOUGHT,.seq #[.int 0 k0_NOUGHT,.int 1 k1_NOUGHT] nn_NOUGHT,su_NOUGHT⟩)
  (zli:PySem.W.nsIn K mainGlobals "abs"=some none)
  (zaC:PySem.W.nsIn K mainGlobals "isinstance"=some none)
  (zmI:PySem.W.nsIn K mainGlobals "int"=some none)
  (zky:PySem.W.nsIn K mainGlobals "bool"=some none)
  (zcS:PySem.W.nsIn K mainGlobals "tuple"=some none)
  (ziH:PySem.W.nsIn K mainGlobals "list"=some none)
  (zjH:PySem.W.nsIn K mainGlobals "str"=some none)
  (zgJ:PySem.W.nsIn K mainGlobals "len"=some none)
  (zoC:PySem.W.nsIn K mainGlobals "all"=some none)
  (zez:PySem.W.nsIn K mainGlobals "range"=some none)
  (zqQ:PySem.W.nsIn K mainGlobals "zip"=some none)
  (zcT:PySem.W.nsIn K mainGlobals "enumerate"=some none)
  (zsJ:PySem.W.nsIn K mainGlobals "max"=some none)
  (zsI:PySem.W.nsIn K mainGlobals "min"=some none)
  (zsH:PySem.W.nsIn K mainGlobals "sum"=some none)
  (zd8:PySem.W.nsIn K mainGlobals "sorted"=some none)
  (zpr:PySem.W.nsIn K mainGlobals "dict"=some none)
  (zsK:PySem.W.nsIn K mainGlobals "any"=some none) :
  ∃(cl:CL) (fd:FuncData),zjn cl K/\(∀(s:Shared) (v:Value),BindsTo s fd ⟨[v],[]⟩ [("_law_script",v)])/\∀ base:Heap,(zeo (cl.map (·.1)) K).In base->base.Ns mainGlobals mg->zhB l.prog w (zeo (cl.map (·.1)) K) mg base (CXe l.prog w) 7 fa fd ["_law_script"] (@spP (zrt cl) (zeo (cl.map (·.1)) K) 1 false znH):=by
 obtain⟨f,fd,hm,Fl⟩:=id zuQ
 have e:=hfa.symm.trans hm
 cases e
 obtain⟨oc,od,kV,dc,pm,an,cd,ct,sl,rfl,lk,hcd⟩:=id Fl.ex
 have hC:zjn [(zbS,⟨.type "tuple",ou_NOUGHT,.seq #[.int 0 k0_NOUGHT,.int 1 k1_NOUGHT] nn_NOUGHT,su_NOUGHT⟩,[.int 0,.int 1])] K:=(zjn.cons zoK (.cons ⟨_,rfl⟩ (.cons ⟨_,rfl⟩ (.nil))) (by decide) zjn.nil)
 refine⟨_,PySem.W.fnOf "law" "law" (zcW (top 45)) (zbz (top 45)) (zas (top 45)) .none kV dc pm an cd ct,hC,fun s v=>.of_eq rfl,fun base _ _=>?_⟩
 have B:Blt mg:=⟨PySem.W.mg_none_of X G zli,PySem.W.mg_none_of X G zaC,PySem.W.mg_none_of X G zmI,PySem.W.mg_none_of X G zky,PySem.W.mg_none_of X G zcS,PySem.W.mg_none_of X G ziH,PySem.W.mg_none_of X G zjH,PySem.W.mg_none_of X G zgJ,PySem.W.mg_none_of X G zoC,PySem.W.mg_none_of X G zez,PySem.W.mg_none_of X G zqQ,PySem.W.mg_none_of X G zcT,PySem.W.mg_none_of X G zsJ,PySem.W.mg_none_of X G zsI,PySem.W.mg_none_of X G zsH,PySem.W.mg_none_of X G zd8,PySem.W.mg_none_of X G zpr,PySem.W.mg_none_of X G zsK⟩
 letI:Cs:=zrt [(zbS,⟨.type "tuple",ou_NOUGHT,.seq #[.int 0 k0_NOUGHT,.int 1 k1_NOUGHT] nn_NOUGHT,su_NOUGHT⟩,[.int 0,.int 1])]
 have C:Cst mg zeq zcJ zaZ zbI zcI zbS:=⟨PySem.W.mg_of X G zhU,PySem.W.mg_of X G zfU,PySem.W.mg_of X G zcH,PySem.W.mg_of X G zdS,PySem.W.mg_of X G zd9,PySem.W.mg_of X G zhT,zs3 hC (List.Mem.head _)⟩
 have d_is_whole:=zlv (P:=l.prog) (w:=w) (base:=base) B C (zlS.cut hC.seqs)
 have d_common_divisor:=zfk (P:=l.prog) (w:=w) (base:=base) B C (zfr.cut hC.seqs)
 have d_word_order:=ziQ (P:=l.prog) (w:=w) (base:=base) B C (zjd.cut hC.seqs)
 have d_number_text:=zh2 (P:=l.prog) (w:=w) (base:=base) B C (zij.cut hC.seqs)
 have d_word_text:=zjO (P:=l.prog) (w:=w) (base:=base) B C (zj7.cut hC.seqs)
 have d_read_whole:=ziR (P:=l.prog) (w:=w) (base:=base) B C (zje.cut hC.seqs)
 have d__law_mixed:=ziT (P:=l.prog) (w:=w) (base:=base) B C (zjg.cut hC.seqs)
 have d__law_at:=zm1 (P:=l.prog) (w:=w) (base:=base) B C (znE.cut hC.seqs)
 have d__law_low:=zlx (P:=l.prog) (w:=w) (base:=base) B C (zlU.cut hC.seqs)
 have d__law_word_text:=zfl (P:=l.prog) (w:=w) (base:=base) B C (zfs.cut hC.seqs)
 have d__law_rank:=zjT (P:=l.prog) (w:=w) (base:=base) B C (zkc.cut hC.seqs)
 have d__law_number_text:=zeb (P:=l.prog) (w:=w) (base:=base) B C (zem.cut hC.seqs)
 have d_is_number:=zjQ (P:=l.prog) (w:=w) (base:=base) B C (zj9.cut hC.seqs) d_common_divisor d_is_whole
 have d_sum_text:=zlq (P:=l.prog) (w:=w) (base:=base) B C (zlO.cut hC.seqs) d_number_text d_word_text
 have d_read_top:=zls (P:=l.prog) (w:=w) (base:=base) B C (zlQ.cut hC.seqs) d_read_whole
 have d_read_way:=zlr (P:=l.prog) (w:=w) (base:=base) B C (zlP.cut hC.seqs) d_read_whole
 have d__law_purse:=ziS (P:=l.prog) (w:=w) (base:=base) B C (zjf.cut hC.seqs) d__law_mixed
 have d__law_take:=zjS (P:=l.prog) (w:=w) (base:=base) B C (zkb.cut hC.seqs) d__law_mixed
 have d__law_sum_text:=zf0 (P:=l.prog) (w:=w) (base:=base) B C (zgt.cut hC.seqs) d__law_word_text d__law_number_text
 have d__law_word_rank:=zfm (P:=l.prog) (w:=w) (base:=base) B C (zft.cut hC.seqs) d__law_rank
 have d_read_number:=zh1 (P:=l.prog) (w:=w) (base:=base) B C (zii.cut hC.seqs) d_read_top d_read_whole d_is_number
 have d_read_word:=zjP (P:=l.prog) (w:=w) (base:=base) B C (zj8.cut hC.seqs) d_read_way
 have d__law_nine:=zjU (P:=l.prog) (w:=w) (base:=base) B C (zkd.cut hC.seqs) d__law_take d__law_low
 have d__law_mixed_up:=zf1 (P:=l.prog) (w:=w) (base:=base) B C (zgu.cut hC.seqs) d__law_word_text d__law_take d__law_number_text
 have d_told_sum:=zlp (P:=l.prog) (w:=w) (base:=base) B C (zlN.cut hC.seqs) d_word_order
 have d__law_sum:=zlw (P:=l.prog) (w:=w) (base:=base) B C (zlT.cut hC.seqs) d__law_rank d__law_take d__law_nine
 have d_read_sum:=zlu (P:=l.prog) (w:=w) (base:=base) B C (zlR.cut hC.seqs) d_told_sum d_read_number d_read_word
 have d__law_great_well:=zeG (P:=l.prog) (w:=w) (base:=base) B C (zeS.cut hC.seqs) d__law_word_rank d__law_low d_sum_text d__law_sum_text d__law_take
 have d__law_well:=zjR (P:=l.prog) (w:=w) (base:=base) B C (zka.cut hC.seqs) d_read_sum
 have d_law:=zun (P:=l.prog) (w:=w) (base:=base) B C (Fun.cut hC.seqs Fl) d__law_well d__law_purse d__law_sum d_sum_text d__law_at d__law_take d__law_sum_text d__law_great_well d__law_mixed_up
 exact d_law
theorem walk{l:PySem.W.OpenLaw}{q:Program}{loose:List Str}{XP:(Str->Option Value)->Heap->Prop}{YP:World->Heap->Prop}{d:DefRec}{K:Params->PySem.W.Frag}(hlaw:∀ ns:List Int,ns.length<=63->znH [.list (ns.map PyData.int)]=.ok (.bool true))(hn:l.most=some 63)(hdf:d.params.defaults=[])(hi:importsNone q=true)(htr:l.prog.given.tree=none)
  (hY:∀(w:World) (h:Heap),YP w h->(K w.params).In h)
  (F:∀(w:World) (mg:Str->Option Value) (fa:Addr) (h:Heap),(K w.params).In h->h.Ns mainGlobals mg->mg d.name=some (.ref fa) ->
   ∃(cl:CL) (fd:FuncData),zjn cl (K w.params)/\(∀(s:Shared) (u:Value),BindsTo s fd ⟨[u],[]⟩ [("_law_script",u)])/\∀ base:Heap,(zeo (cl.map (·.1)) (K w.params)).In base->base.Ns mainGlobals mg->zhB l.prog w (zeo (cl.map (·.1)) (K w.params)) mg base (CXe l.prog w) 7 fa fd ["_law_script"] (@spP (zrt cl) (zeo (cl.map (·.1)) (K w.params)) 1 false znH)) :
  PySem.W.WalkO q loose XP YP l.row.toRowW d [] (fun f vs=>PySem.call f vs) :=
 znU (k:=7) (x:="_law_script") hlaw hn hdf hi htr ⟨rfl,by decide,by decide,rfl⟩ hY F
end K79
namespace K79
open PySem FL TX
def As(x:Str):Prop:=∀ c∈cp x,c<128
theorem As.app{a b:Str}(ha:As a)(hb:As b):As (a++b):=fun c hc=>by
 rw [zaR] at hc
 exact(List.mem_append.mp hc).elim (ha c) (hb c)
theorem zcM{c:Nat}(h:c<128):As (one c):=fun d hd=>by
 have:d=c:=by simpa [TX.cp] using hd
 subst this;exact h
theorem zru(i:Int):As (T i):=fun c hc=>by
 refine Nat.lt_of_not_le fun h=>zee c ⟨by omega,.inr (by omega)⟩ i hc
theorem zj6{s:Str}(hs:As s):∀{l:List Str},(∀ x∈l,As x)->As (Str.join s l)
 | [],_=>fun c hc=>absurd (show c∈([]:List Nat) from hc) (by simp)
 | [x],h=>h x (by simp)
 | x::y::r,h=>by
  rw [zcU]
  exact((h x (by simp)).app hs).app (zj6 hs fun z hz=>h z (List.mem_cons_of_mem _ hz))
theorem As.all{x:Str}(h:As x):x.cps.all (·<128)=true:=by
 rw [<- Array.all_toList]
 exact List.all_eq_true.mpr fun c hc=>decide_eq_true (h c hc)
theorem As.pl{x:Str}(h:As x):Pl 0 (.str x):=⟨by
 show PySem.PyData.canLay0 (.str x)=true
 unfold PySem.PyData.canLay0
 show x.cps.all (·<0x110000)=true
 rw [<- Array.all_toList]
 exact List.all_eq_true.mpr fun c hc=>decide_eq_true (Nat.lt_trans (h c hc) (by decide)),Nat.le_refl _⟩
theorem zni(a b:Str):PyData.eqv (.str a) (.str b)=decide (a=b):=by
 have:PyData.eqv (.str a) (.str b)=(a==b):=by unfold PyData.eqv;rfl
 rw [this]
 by_cases h:a=b
 ·subst h;simp
 ·simp [h]
def zcv(q:Rat):Str:=if q.den=1 then T q.num else T q.num++one 47++T (q.den:Int)
def zaI(w:List Int):Str:=if w=[] then one 101 else Str.join (one 46) (w.map T)
def zaA(p:List Int×Rat):Str:=zcv p.2++one 58++zaI p.1
def zb9(l:Sm):Str:=if l=[] then one 48 else Str.join (one 32) (l.map zaA)
structure NB(q:Rat):Prop where
 top:q.num.natAbs<10^60
 bot:q.den<10^60
theorem zpw{n:Nat}(h:n<10^60):leB (n.log2+1) 1920=true:=zdj (by
 rcases Nat.eq_zero_or_pos n with z|z
 ·subst z;decide
 ·have:=(Nat.log2_lt (by omega:n≠0)).mpr (Nat.lt_of_lt_of_le h (by decide:10^60<=2^200))
  omega)
theorem zjW{i:Int}(h:i.natAbs<10^60):znM (.int i)=.ok (.str (T i)):=zah (zpw h)
theorem str_int{i:Int}(h:i.natAbs<10^60):zrn (.int i)=.ok (.str (T i)):=zah (zpw h)
theorem zdN{i:Int}(h:i.natAbs<10^60):(T i).length<=61:=by
 by_cases c:i<0
 ·rw [zsF c,show(one 45++T (0-i)).length=1+(T (0-i)).length by rw [zdi,zaR,List.length_append,<- zdi,<- zdi];rfl]
  obtain⟨n,e⟩:∃ n:Nat,0-i=(n:Int):=⟨(0-i).toNat,by omega⟩
  rw [e]
  have:=len_T (n:=n) (k:=60) (by decide) (by omega)
  omega
 ·obtain⟨n,rfl⟩:∃ n:Nat,i=(n:Int):=⟨i.toNat,by omega⟩
  have:=len_T (n:=n) (k:=60) (by decide) (by omega)
  omega
theorem len_app(a b:Str):(a++b).length=a.length+b.length:=by rw [zdi,zaR,List.length_append,<- zdi,<- zdi]
theorem zdo(a:Str):Str.empty++a=a:=ext (by rw [zaR];rfl)
theorem len_num{q:Rat}(h:NB q):(zcv q).length<=123:=by
 unfold zcv
 have h1:=zdN h.top
 split
 ·omega
 ·have h2:=zdN (i:=(q.den:Int)) (by have:=h.bot;omega)
  rw [len_app,len_app]
  show _+1+_<=_
  omega
theorem ztp(q:Rat):As (zcv q):=by
 unfold zcv
 split
 ·exact zru _
 ·exact((zru _).app (zcM (by decide))).app (zru _)
theorem zaQ{n:Nat}(h:n<=1000000):leB n lim=true:=zdj h
theorem number_text{q:Rat}(h:NB q):zc2 [num q]=.ok (.str (zcv q)):=by
 have f1:=zjW h.top
 have f2:=zjW (i:=(q.den:Int)) (by have:=h.bot;omega)
 have l1:=zdN h.top
 have l2:=zdN (i:=(q.den:Int)) (by have:=h.bot;omega)
 have e1:eqD (.int (q.den:Int)) (.int 1)=.ok (.bool (decide ((q.den:Int)=1))):=zgb _ _
 have s1:zba (gT [(gN 1),(gN 2)]) (eV 0) [.val (num q),.no,.no]=.ok (.nx,[.val (num q),.val (.int q.num),.val (.int (q.den:Int))]):=rfl
 refine zaU (ρ:=[.val (num q),.val (.int q.num),.val (.int (q.den:Int))]) rfl ?_
 show zcg [.val (num q),.no,.no]=_
 unfold zcg
 rw [zan s1]
 unfold zcv
 by_cases c:q.den=1
 ·rw [decide_eq_true (by omega)] at e1
  rw [if_pos c]
  simp only [zaw,eIf,tB,FL.e1,FL.e2,eV,eC,zaa,zz0,zz1,e1,f1,if_true]
 ·rw [decide_eq_false (by omega)] at e1
  rw [if_neg c]
  have k1:leB (Str.empty++T q.num).length lim=true:=zaQ (by rw [zdo];omega)
  have k2:leB (Str.empty++T q.num++Str.ofString "/").length lim=true:=zaQ (by rw [zdo,len_app];show _+1<=_;omega)
  have k3:leB (Str.empty++T q.num++Str.ofString "/" ++ T (q.den:Int)).length lim=true:=zaQ (by rw [zdo,len_app,len_app];show _+1+_<=_;omega)
  simp only [zaw,eIf,tB,FL.e1,FL.e2,eV,eC,eJ,strOf,zaa,zz0,zz1,e1,f1,f2,zah k1,zah k2,zah k3,Bool.false_eq_true,if_false]
  rw [zdo]
  rfl
theorem ze7{q:Rat}(h:NB q):zaK [num q]=.ok (.str (zcv q)):=by
 have f1:=str_int h.top
 have f2:=str_int (i:=(q.den:Int)) (by have:=h.bot;omega)
 have l1:=zdN h.top
 have l2:=zdN (i:=(q.den:Int)) (by have:=h.bot;omega)
 have e1:eqD (.int (q.den:Int)) (.int 1)=.ok (.bool (decide ((q.den:Int)=1))):=zgb _ _
 have i0:ixD (num q) (.int 0)=.ok (.int q.num):=rfl
 have i1:ixD (num q) (.int 1)=.ok (.int (q.den:Int)):=rfl
 refine zaU (ρ:=[.val (num q)]) rfl ?_
 show za1 [.val (num q)]=_
 unfold za1 zcv
 by_cases c:q.den=1
 ·rw [decide_eq_true (by omega)] at e1
  rw [if_pos c]
  simp only [zav,sIf,zaw,tB,FL.e1,FL.e2,eV,eC,zaa,zz0,i0,i1,e1,f1,if_true]
 ·rw [decide_eq_false (by omega)] at e1
  rw [if_neg c]
  have a1:zjl (.str (T q.num)) (.str (Str.ofString "/"))=.ok (.str (T q.num++one 47)):=zah (zaQ (by show _+1<=_;omega))
  have a2:zjl (.str (T q.num++one 47)) (.str (T (q.den:Int)))=.ok (.str (T q.num++one 47++T (q.den:Int))):=zah (zaQ (by rw [len_app];show _+1+_<=_;omega))
  simp only [zav,sIf,zaw,sNx,tB,FL.e1,FL.e2,eV,eC,zaa,zz0,i0,i1,e1,f1,f2,a1,a2,Bool.false_eq_true,if_false]
end K79
namespace K79
open PySem FL TX
theorem zl4{B:Nat}:∀{l:List Nat},(∀ x∈l,x<=B)->l.sum<=l.length*B
 | [],_=>by simp
 | x::r,h=>by
  have:=zl4 fun y hy=>h y (List.mem_cons_of_mem _ hy)
  have h0:=h x (by simp)
  rw [List.sum_cons,List.length_cons,Nat.add_mul]
  omega
theorem zg2:∀ l:List Str,strsOf (l.map PyData.str)=some l
 | []=>rfl
 | x::r=>by simp only [List.map_cons,strsOf,zg2 r,Option.map_some]
theorem zf2{c B:Nat}{l:List Str}(h:∀ x∈l,x.length<=B)(hl:l.length<=1000)(hB:B<=10000):zgU (one c) (.list (l.map PyData.str))=.ok (.str (Str.join (one c) l)):=by
 show(R.of (strsOf (l.map PyData.str))).bind _=_
 rw [zg2]
 have s:=zl4 (B:=B) (l:=l.map (·.length)) fun x hx=>by
  obtain⟨y,hy,rfl⟩:=List.mem_map.mp hx
  exact h y hy
 rw [List.length_map] at s
 have m:l.length*B<=1000*10000:=Nat.mul_le_mul hl hB
 have j:JoinOk (one c) l=true:=PyProof.Rows.joinOk_of (by show _+l.length*1<=_;omega)
 show chk (JoinOk (one c) l) (R.ok (PyData.str (Txt.join (one c) l)))=_
 rw [zah j,show Txt.join (one c) l=Str.join (one c) l from StrLaws.glued_eq_join _ _]
theorem zkD{c B:Nat}{l:List Str}(h:∀ x∈l,x.length<=B)(hl:l.length<=1000)(hB:B<=10000):(Str.join (one c) l).length<=l.length*(B+1):=by
 have s:=zl4 (B:=B) (l:=l.map (·.length)) fun x hx=>by
  obtain⟨y,hy,rfl⟩:=List.mem_map.mp hx
  exact h y hy
 rw [List.length_map] at s
 have:=StrLaws.join_length_le (one c) l
 rw [Nat.mul_add]
 have e:l.length*(one c).length=l.length*1:=rfl
 omega
structure WB(w:List Int):Prop where
 len:w.length<=5
 ltr:∀ x∈w,0<=x/\x<6
theorem WB.big{w:List Int}(h:WB w):∀ x∈w,x.natAbs<10^60:=fun x hx=>by
 have:=h.ltr x hx
 have:x.natAbs<6:=by omega
 exact Nat.lt_trans this (by decide)
theorem zj5(w:List Int):As (zaI w):=by
 unfold zaI
 split
 ·exact zcM (by decide)
 ·exact zj6 (zcM (by decide)) fun x hx=>by
   obtain⟨i,_,rfl⟩:=List.mem_map.mp hx
   exact zru i
theorem zd0{w:List Int}(h:WB w):(zaI w).length<=310:=by
 unfold zaI
 split
 ·show 1<=310;decide
 ·have:=zkD (c:=46) (B:=61) (l:=w.map T) (fun x hx=>by
   obtain⟨i,hi,rfl⟩:=List.mem_map.mp hx
   exact zdN (h.big i hi)) (by rw [List.length_map];have:=h.len;omega) (by decide)
  rw [List.length_map] at this
  have m:w.length*(61+1)<=5*62:=Nat.mul_le_mul h.len (Nat.le_refl _)
  omega
theorem word_text{w:List Int}(h:WB w):zdX [tp w]=.ok (.str (zaI w)):=by
 refine zaU (ρ:=[.val (tp w)]) rfl ?_
 show zcY [.val (tp w)]=_
 unfold zcY zaI
 have tr:zep (tp w)=.ok (!w.isEmpty):=by
  show R.ok (!(w.map PyData.int).isEmpty)=_
  rw [List.isEmpty_map]
 cases w with
 | nil=>rfl
 | cons x r =>
  rw [if_neg (by simp)]
  have q:zca [.val (tp (x::r))]=.ok (.list (((x::r).map T).map PyData.str),[.val (tp (x::r))]):=by
   unfold zca
   rw [zdy (f0:=PyData.int) (xs:=x::r) (fun i=>.str (T i)) rfl (by have:=h.len;show _<=1000000;omega) fun i mi=>?_]
   ·rw [List.map_map];rfl
   ·exact⟨[.val (.int i)],rfl,by simp only [FL.e1,eV,zz0,zaa,zjW (h.big i mi)],zeL trivial⟩
  have jn:=zf2 (c:=46) (B:=61) (l:=(x::r).map T) (fun y hy=>by
   obtain⟨i,hi,rfl⟩:=List.mem_map.mp hy
   exact zdN (h.big i hi)) (by rw [List.length_map];have:=h.len;omega) (by decide)
  have so:strOf (.str (Str.ofString "."))=.ok (one 46):=rfl
  have e0:(!(x::r).isEmpty)=true:=rfl
  rw [e0] at tr
  simp only [zaw,eIf,tE,eS1,eV,eC,zz0,zaa,tr,if_true,so,q,jn]
theorem zhc{w:List Int}(h:WB w):zaY [tp w]=.ok (.str (zaI w)):=by
 refine zaU (ρ:=[.val (tp w)]) rfl ?_
 show zbg [.val (tp w)]=_
 unfold zbg zaI
 have l0:leB 0 lim=true:=by decide
 cases w with
 | nil=>rfl
 | cons x r =>
  rw [if_neg (by simp)]
  have e1:eqD (tp (x::r)) (.tuple [])=.ok (.bool false):=by
   have:=ztc (x::r) []
   rw [decide_eq_false (by simp)] at this
   exact this
  have q:za0 [.val (tp (x::r))]=.ok (.list (((x::r).map T).map PyData.str),[.val (tp (x::r))]):=by
   unfold za0
   rw [zdy (f0:=PyData.int) (xs:=x::r) (fun i=>.str (T i)) rfl (by have:=h.len;show _<=1000000;omega) fun i mi=>?_]
   ·rw [List.map_map];rfl
   ·exact⟨[.val (.int i)],rfl,by simp only [FL.e1,eV,zz0,zaa,str_int (h.big i mi)],zeL trivial⟩
  have jn:=zf2 (c:=46) (B:=61) (l:=(x::r).map T) (fun y hy=>by
   obtain⟨i,hi,rfl⟩:=List.mem_map.mp hy
   exact zdN (h.big i hi)) (by rw [List.length_map];have:=h.len;omega) (by decide)
  have so:strOf (.str (Str.ofString "."))=.ok (one 46):=rfl
  simp only [zav,sIf,zaw,sNx,tB,FL.e2,zb3,zal,eS1,eV,eC,zz0,zaa,List.length_nil,zah l0,e1,Bool.false_eq_true,if_false,so,q,jn]
theorem zqA(r:Rat):Pl 1 (num r):=zfv fun d h=>by
 simp only [List.mem_cons,List.not_mem_nil,or_false] at h
 rcases h with rfl|rfl <;> exact ze6 _
theorem zse(p:List Int×Rat):Pl 2 (tln p):=zfv fun d m=>by
 simp only [List.mem_cons,List.not_mem_nil,or_false] at m
 rcases m with rfl|rfl
 ·exact zmw _
 ·exact zqA _
theorem ze5(l:Sm):Pl 3 (.list (l.map tln)):=zmx fun d m=>by
 obtain⟨p,_,rfl⟩:=List.mem_map.mp m
 exact zse p
structure TB(p:List Int×Rat):Prop where
 w:WB p.1
 n:NB p.2
theorem zd3{p:List Int×Rat}(h:TB p):(zaA p).length<=434:=by
 unfold zaA
 rw [len_app,len_app]
 have h1:=len_num h.n
 have h2:=zd0 h.w
 show _+1+_<=_
 omega
theorem zrh(p:List Int×Rat):As (zaA p):=((ztp _).app (zcM (by decide))).app (zj5 _)
theorem zkZ(l:Sm):As (zb9 l):=by
 unfold zb9
 split
 ·exact zcM (by decide)
 ·exact zj6 (zcM (by decide)) fun x hx=>by
   obtain⟨i,_,rfl⟩:=List.mem_map.mp hx
   exact zrh i
theorem sum_text{l:Sm}(h:∀ p∈l,TB p)(hl:l.length<=100):zbo [.list (l.map tln)]=.ok (.str (zb9 l)):=by
 refine zaU (ρ:=[.val (.list (l.map tln))]) rfl ?_
 show zdB [.val (.list (l.map tln))]=_
 unfold zdB zb9
 cases l with
 | nil=>rfl
 | cons p r =>
  rw [if_neg (by simp)]
  have tr:zep (.list ((p::r).map tln))=.ok true:=rfl
  have q:zcB [.val (.list ((p::r).map tln))]=.ok (.list (((p::r).map zaA).map PyData.str),[.val (.list ((p::r).map tln))]):=by
   unfold zcB
   rw [zdy (f0:=tln) (xs:=p::r) (fun i=>.str (zaA i)) rfl (by show _<=1000000;omega) fun i mi=>?_]
   ·rw [List.map_map];rfl
   ·refine⟨[.val (tp i.1),.val (num i.2)],rfl,?_,zeL trivial⟩
    have nt:=number_text (h i mi).n
    have wt:=word_text (h i mi).w
    have l1:=len_num (h i mi).n
    have l2:=zd0 (h i mi).w
    have f1:znM (.str (zcv i.2))=.ok (.str (zcv i.2)):=zah (zaQ (by omega))
    have f2:znM (.str (zaI i.1))=.ok (.str (zaI i.1)):=zah (zaQ (by omega))
    have k1:leB (Str.empty++zcv i.2).length lim=true:=zaQ (by rw [zdo];omega)
    have k2:leB (Str.empty++zcv i.2++Str.ofString ":").length lim=true:=zaQ (by rw [zdo,len_app];show _+1<=_;omega)
    have k3:leB (Str.empty++zcv i.2++Str.ofString ":" ++ zaI i.1).length lim=true:=zaQ (by rw [zdo,len_app,len_app];show _+1+_<=_;omega)
    simp only [FL.e1,zai,zac,zal,eV,eC,eJ,strOf,zaa,zz0,zz1,nt,wt,f1,f2,zah k1,zah k2,zah k3]
    rw [zdo]
    rfl
  have jn:=zf2 (c:=32) (B:=434) (l:=(p::r).map zaA) (fun y hy=>by
   obtain⟨i,hi,rfl⟩:=List.mem_map.mp hy
   exact zd3 (h i hi)) (by rw [List.length_map];omega) (by decide)
  have so:strOf (.str (Str.ofString " "))=.ok (one 32):=rfl
  simp only [zav,sIf,FL.zbV,tE,zaw,sNx,eS1,eV,eC,zz0,zaa,tr,Bool.not_true,Bool.false_eq_true,if_false,so,q,jn]
theorem ziL{l:Sm}(h:∀ p∈l,TB p)(hl:l.length<=100):zaS [.list (l.map tln)]=.ok (.str (zb9 l)):=by
 refine zaU (ρ:=[.val (.list (l.map tln))]) rfl ?_
 show zbA [.val (.list (l.map tln))]=_
 unfold zbA zb9
 have l0:leB 0 lim=true:=by decide
 cases l with
 | nil=>rfl
 | cons p r =>
  rw [if_neg (by simp)]
  have e1:eqD (.list ((p::r).map tln)) (.list [])=.ok (.bool false):=(zho (ze5 (p::r)) (ze5 [])).trans rfl
  have q:za6 [.val (.list ((p::r).map tln))]=.ok (.list (((p::r).map zaA).map PyData.str),[.val (.list ((p::r).map tln))]):=by
   unfold za6
   rw [zdy (f0:=tln) (xs:=p::r) (fun i=>.str (zaA i)) rfl (by show _<=1000000;omega) fun i mi=>?_]
   ·rw [List.map_map];rfl
   ·refine⟨[.val (tp i.1),.val (num i.2)],rfl,?_,zeL trivial⟩
    have nt:=ze7 (h i mi).n
    have wt:=zhc (h i mi).w
    have l1:=len_num (h i mi).n
    have l2:=zd0 (h i mi).w
    have a1:zjl (.str (zcv i.2)) (.str (Str.ofString ":"))=.ok (.str (zcv i.2++one 58)):=zah (zaQ (by show _+1<=_;omega))
    have a2:zjl (.str (zcv i.2++one 58)) (.str (zaI i.1))=.ok (.str (zaA i)):=zah (zaQ (by rw [len_app];show _+1+_<=_;omega))
    simp only [FL.e2,zai,zac,zal,eV,eC,zaa,zz0,zz1,nt,wt,a1,a2]
  have jn:=zf2 (c:=32) (B:=434) (l:=(p::r).map zaA) (fun y hy=>by
   obtain⟨i,hi,rfl⟩:=List.mem_map.mp hy
   exact zd3 (h i hi)) (by rw [List.length_map];omega) (by decide)
  have so:strOf (.str (Str.ofString " "))=.ok (one 32):=rfl
  simp only [zav,sIf,tB,FL.e2,zc8,zal,zaw,sNx,eS1,eV,eC,zz0,zaa,List.length_nil,zah l0,e1,Bool.false_eq_true,if_false,so,q,jn]
end K79
namespace K79
open PySem FL TX
theorem zs0{c:Nat}(h:48<=c/\c<=57):inX (.str (L2.znP c)) (.str (Str.ofString "0123456789"))=.ok (.bool true):=by
 have key:(Builtin.Str.occurrences (Str.ofString "0123456789") (L2.znP c) 0 (Str.ofString "0123456789").length 1).isEmpty=false:=by
  rcases StrLaws.occ_head (Str.ofString "0123456789") (one c) 1 (Nat.le_refl _) with⟨_,n⟩|⟨i,r,e,_⟩
  ·refine absurd (zja.mpr ?_) (n (c-48))
   have:c=48\/c=49\/c=50\/c=51\/c=52\/c=53\/c=54\/c=55\/c=56\/c=57:=by omega
   rcases this with z|z|z|z|z|z|z|z|z|z <;> subst z <;> rfl
  ·show(Builtin.Str.occurrences (Str.ofString "0123456789") (one c) 0 (Str.ofString "0123456789").length 1).isEmpty=false
   rw [e];rfl
 show R.ok (PyData.bool (!_))=_
 rw [key]
 rfl
theorem eq_str{a b:Str}(ha:As a)(hb:As b):eqD (.str a) (.str b)=.ok (.bool (decide (a=b))):=by rw [zho ha.pl hb.pl,zni]
theorem ne_str{a b:Str}(ha:As a)(hb:As b):neD (.str a) (.str b)=.ok (.bool (!decide (a=b))):=by rw [zha ha.pl hb.pl,zni]
theorem ztw:T 0=one 48:=by
 refine ext ?_
 have:=zq9 0
 rw [show((0:Nat):Int)=0 from rfl] at this
 rw [this]
 rfl
theorem read_whole{n:Nat}(h:n<10^9):zbp [.str (T (n:Int))]=.ok (.int (n:Int)):=by
 have l9:=len_T (n:=n) (k:=9) (by decide) h
 have l1:1<=(T (n:Int)).length:=by
  rw [zdi]
  cases e:cp (T (n:Int)) with
  | nil=>exact absurd e (ne_T n)
  | cons _ _=>simp
 have ll:zsP (.str (T (n:Int)))=.ok (.int ((T (n:Int)).length:Int)):=zah (zaQ (by omega))
 have c1:leD (.int 1) (.int ((T (n:Int)).length:Int))=.ok (.bool true):=by rw [zmV,decide_eq_true (by omega)]
 have c2:leD (.int ((T (n:Int)).length:Int)) (.int 9)=.ok (.bool true):=by rw [zmV,decide_eq_true (by omega)]
 have sg:zph (.str (T (n:Int)))=.ok ((cp (T (n:Int))).map fun c=>.str (L2.znP c)):=zah (zru _).all
 have q:zbf [.val (.str (T (n:Int)))]=.ok (.list ((cp (T (n:Int))).map fun _=>PyData.bool true),[.val (.str (T (n:Int)))]):=by
  unfold zbf
  rw [zdy (f0:=fun c=>PyData.str (L2.znP c)) (xs:=cp (T (n:Int))) (fun _=>.bool true) (by simp only [iT,eV,zz0,zaa,sg]) (by rw [<- zdi];show _<=1000000;omega) fun c mc=>?_]
  exact⟨[.val (.str (L2.znP c))],rfl,by simp only [FL.e2,eV,eC,zz0,zaa,zs0 (zq8 n c mc)],zeL trivial⟩
 have al:ztv (.list ((cp (T (n:Int))).map fun _=>PyData.bool true))=.ok (.bool true):=by
  have:=zpd ((cp (T (n:Int))).map fun _=>true)
  rw [List.map_map] at this
  rw [show(cp (T (n:Int))).map (fun _=>PyData.bool true)=(cp (T (n:Int))).map (PyData.bool∘fun _=>true) from rfl,this]
  simp
 obtain⟨c0,r0,e0⟩:∃ c r,cp (T (n:Int))=c::r:=by
  cases e:cp (T (n:Int)) with
  | nil=>exact absurd e (ne_T n)
  | cons c r=>exact⟨c,r,rfl⟩
 have hc0:=zq8 n c0 (by rw [e0];simp)
 have ix:ixX (.str (T (n:Int))) (.int 0)=.ok (.str (one c0)):=by
  show chk _ _=_
  rw [zah (zaQ (by omega)),show(T (n:Int)).cps.toList=c0::r0 from e0,show FL.atI (c0::r0) 0=some c0 from(zto (xs:=c0::r0) (i:=0) (by simp)).trans rfl]
  rfl
 have q1:=eq_str (a:=one c0) (b:=one 48) (zcM (by omega)) (zcM (by decide))
 have q2:=ne_str (a:=T (n:Int)) (b:=one 48) (zru _) (zcM (by decide))
 have iv:ztD (.str (T (n:Int)))=.ok (.int (n:Int)):=by
  show chk _ _=_
  rw [zah (zdj (by omega)),PySem.W.KIN.num_reads (Int.natCast_nonneg n) (by have:n<10^10:=Nat.lt_trans h (by decide);omega)]
  rfl
 refine zaU (ρ:=[.val (.str (T (n:Int)))]) rfl ?_
 show zcD [.val (.str (T (n:Int)))]=_
 have s1:sIf (FL.tOr (FL.zbV (tB (zct leD leD (eC (.int 1)) (e1 zsP (eV 0)) (eC (.int 9))))) (FL.zbV (tE (e1 ztv zbf)))) (zaw (eC .none)) sNx [.val (.str (T (n:Int)))]=.ok (.nx,[.val (.str (T (n:Int)))]):=by
  simp only [sIf,FL.tOr,FL.zbV,tB,tE,zct,FL.e1,eV,eC,sNx,zaa,zz0,ll,c1,c2,q,al,zep,Bool.not_true,Bool.false_eq_true,if_false,if_true]
 have s2:sIf (FL.ze1 (tB (e2 eqD (e2 ixX (eV 0) (eC (.int 0))) (eC (.str (Str.ofString "0"))))) (tB (e2 neD (eV 0) (eC (.str (Str.ofString "0")))))) (zaw (eC .none)) sNx [.val (.str (T (n:Int)))]=.ok (.nx,[.val (.str (T (n:Int)))]):=by
  have o1:Str.ofString "0"=one 48:=rfl
  rw [o1]
  rcases Nat.eq_zero_or_pos n with z|z
  ·subst z
   have t0:T ((0:Nat):Int)=one 48:=ztw
   rw [t0,decide_eq_true rfl] at q2
   rw [t0] at e0 ix
   have:c0=48:=by
    have e1:[48]=c0::r0:=e0
    cases e1;rfl
   subst this
   rw [decide_eq_true rfl] at q1
   rw [t0]
   simp only [sIf,FL.ze1,tB,FL.e2,eV,eC,sNx,zaa,zz0,ix,q1,q2,Bool.not_true,Bool.false_eq_true,if_false,if_true]
  ·have hne:=zs2 z c0 r0 e0
   rw [decide_eq_false (fun z=>hne (by have:=congrArg TX.cp z;simpa [TX.cp] using this))] at q1
   simp only [sIf,FL.ze1,tB,FL.e2,eV,eC,sNx,zaa,zz0,ix,q1,Bool.false_eq_true,if_false]
 unfold zcD
 rw [zan s1]
 refine(zan s2).trans ?_
 simp only [zaw,FL.e1,eV,zaa,zz0,iv]
theorem zg3(x:Str)(c:Nat):Txt.startswith x (one c)=decide ((TX.cp x)[0]?=some c):=by
 rw [Bool.eq_iff_iff,decide_eq_true_iff,<- StrLaws.subAt_one x c 0]
 unfold Txt.startswith
 rw [Bool.and_eq_true,decide_eq_true_iff]
theorem zkF{i:Int}:isD (.int i) .none=.ok (.bool false):=rfl
theorem read_top{i:Int}(h:i.natAbs<10^9):zeV [.str (T i)]=.ok (.int i):=by
 have so:strOf (.str (T i))=.ok (T i):=rfl
 by_cases c:i<0
 ·obtain⟨m,e⟩:∃ m:Nat,0-i=(m:Int):=⟨(0-i).toNat,by omega⟩
  have hm:m<10^9:=by omega
  have hT:T i=one 45++T (m:Int):=by rw [zsF c,e]
  have st:zhI (T i) (.str (Str.ofString "-"))=.ok (.bool true):=by
   show R.ok (PyData.bool (Txt.startswith (T i) (one 45)))=_
   rw [zg3,hT,zaR]
   rfl
  have hcp:TX.cp (T i)=45::TX.cp (T (m:Int)):=by rw [hT,zaR];rfl
  have sl:zkl (.str (T i)) (some 1) none=.ok (.str (T (m:Int))):=by
   have l60:=zdN (i:=i) (Nat.lt_trans h (by decide))
   show chk _ _=_
   rw [zah (zaQ (by omega)),PyProof.Rows.slice_from_eq (x:=T i) (i:=1) (b:=((T i).length:Int)) (by decide) (by rw [zdi,hcp];simp;omega) rfl]
   congr 2
   refine ext ?_
   show(((TX.cp (T i)).drop 1).take _)=_
   rw [zdi,hcp]
   simp
   exact List.take_of_length_le (by simp [TX.cp])
  have rw':=read_whole hm
  have e0:eqD (.int (m:Int)) (.int 0)=.ok (.bool false):=by rw [zgb,decide_eq_false (by omega)]
  have ng:zpp (.int (m:Int))=.ok (.int i):=by show R.ok (PyData.int (-(m:Int)))=_;rw [show -(m:Int)=i by omega]
  refine zaU (ρ:=[.val (.str (T i)),.val (.int (m:Int))]) rfl ?_
  show zcj [.val (.str (T i)),.no]=_
  unfold zcj
  simp only [zav,sIf,FL.zbV,FL.tOr,tE,tB,eS1,zba,gN,zai,zac,zal,zuB,zex,zey,FL.e1,FL.e2,eV,eC,zaw,sNx,zaa,zz0,zz1,List.set_cons_zero,List.set_cons_succ,so,st,sl,rw',zkF,e0,ng,zep,Bool.not_true,Bool.false_eq_true,if_false]
 ·obtain⟨m,rfl⟩:∃ m:Nat,i=(m:Int):=⟨i.toNat,by omega⟩
  have hm:m<10^9:=by omega
  have st:zhI (T (m:Int)) (.str (Str.ofString "-"))=.ok (.bool false):=by
   show R.ok (PyData.bool (Txt.startswith (T (m:Int)) (one 45)))=_
   rw [zg3,decide_eq_false fun z=>?_]
   have:=zq8 m 45 (List.mem_of_getElem? z)
   omega
  have rw':=read_whole hm
  refine zaU (ρ:=[.val (.str (T (m:Int))),.no]) rfl ?_
  show zcj [.val (.str (T (m:Int))),.no]=_
  unfold zcj
  simp only [zav,sIf,FL.zbV,tE,eS1,zai,zac,zal,eV,eC,zaw,sNx,zaa,zz0,so,st,rw',zep,Bool.not_false,if_true]
structure NS(q:Rat):Prop where
 top:q.num.natAbs<10^9
 bot:q.den<10^9
theorem NS.nb{q:Rat}(h:NS q):NB q:=⟨Nat.lt_trans h.top (by decide),Nat.lt_trans h.bot (by decide)⟩
theorem zoR:zc3=zgx:=rfl
theorem read_number{q:Rat}(h:NS q):zch [.str (zcv q)]=.ok (num q):=by
 have ln:=len_num h.nb
 have so:strOf (.str (zcv q))=.ok (zcv q):=rfl
 have rt:=read_top h.top
 have is':zc3 [num q]=.ok (.bool true):=by rw [zoR];exact zq0 q
 have l2:leB 2 lim=true:=by decide
 have b1:(!((one 47).length==0)&&leB (zcv q).length lim)=true:=by
  rw [zaQ (by omega:(zcv q).length<=1000000)];rfl
 by_cases c:q.den=1
 ·have hT:zcv q=T q.num:=by unfold zcv;rw [if_pos c]
  have pt:zjC (zcv q) (.str (Str.ofString "/"))=.ok (.tuple [.str (T q.num),.str Str.empty,.str Str.empty]):=by
   refine(zah b1).trans ?_
   rw [hT,show Str.ofString "/"=one 47 from rfl,zqJ (zee 47 (by decide) _)]
   rfl
  have nq:num q=.tuple [.int q.num,.int 1]:=by unfold num;rw [c];rfl
  have tx:ztN (.str Str.empty)=.ok false:=rfl
  have i1:isD (.int 1) .none=.ok (.bool false):=rfl
  rw [nq] at is'
  refine zaU (ρ:=[.val (.str (zcv q)),.val (.str (T q.num)),.val (.str Str.empty),.val (.str Str.empty),.val (.int q.num),.val (.int 1)]) rfl ?_
  show za7 [.val (.str (zcv q)),.no,.no,.no,.no,.no]=_
  unfold za7
  rw [nq]
  simp only [zav,zba,sIf,FL.zbV,FL.tOr,FL.ze1,tE,tB,tX,eIf,eS1,gT,zh5,gN,zai,zb3,zac,zal,FL.e1,FL.e2,eV,eC,zaw,sNx,zaa,zz0,zz1,List.set_cons_zero,List.set_cons_succ,so,pt,rt,tx,zkF,i1,is',zep,List.length_cons,List.length_nil,Nat.reduceAdd,zah l2,Bool.not_true,Bool.false_eq_true,if_false,if_true]
 ·have hT:zcv q=T q.num++one 47++T (q.den:Int):=by unfold zcv;rw [if_neg c]
  have pt:zjC (zcv q) (.str (Str.ofString "/"))=.ok (.tuple [.str (T q.num),.str (one 47),.str (T (q.den:Int))]):=by
   refine(zah b1).trans ?_
   rw [hT,show Str.ofString "/"=one 47 from rfl,zkq (zee 47 (by decide) _)]
   rfl
  have tx:ztN (.str (one 47))=.ok true:=rfl
  have rb:=read_whole h.bot
  have e1:eqD (.int (q.den:Int)) (.int 1)=.ok (.bool false):=by rw [zgb,decide_eq_false (by omega)]
  have nq:num q=.tuple [.int q.num,.int (q.den:Int)]:=rfl
  rw [nq] at is'
  refine zaU (ρ:=[.val (.str (zcv q)),.val (.str (T q.num)),.val (.str (one 47)),.val (.str (T (q.den:Int))),.val (.int q.num),.val (.int (q.den:Int))]) rfl ?_
  show za7 [.val (.str (zcv q)),.no,.no,.no,.no,.no]=_
  unfold za7
  rw [nq]
  simp only [zav,zba,sIf,FL.zbV,FL.tOr,FL.ze1,tE,tB,tX,eIf,eS1,gT,zh5,gN,zai,zb3,zac,zal,FL.e1,FL.e2,eV,eC,zaw,sNx,zaa,zz0,zz1,List.set_cons_zero,List.set_cons_succ,so,pt,rt,rb,tx,zkF,e1,is',zep,List.length_cons,List.length_nil,Nat.reduceAdd,zah l2,Bool.not_true,Bool.false_eq_true,if_false,if_true]
theorem read_way{i c:Int}(h0:0<=i)(h1:i<c)(hc:c<=6):zeU [.str (T i),.int c]=.ok (.int i):=by
 obtain⟨n,rfl⟩:∃ n:Nat,i=(n:Int):=⟨i.toNat,by omega⟩
 have rw':=read_whole (n:=n) (Nat.lt_of_lt_of_le (by omega:n<6) (by decide))
 have ge:geD (.int (n:Int)) (.int c)=.ok (.bool false):=by rw [zq3,decide_eq_false (by omega)]
 refine zaU (ρ:=[.val (.str (T (n:Int))),.val (.int c),.val (.int (n:Int))]) rfl ?_
 show zdC [.val (.str (T (n:Int))),.val (.int c),.no]=_
 unfold zdC
 simp only [zav,zba,sIf,FL.tOr,tB,gN,zai,zac,zal,FL.e2,eV,eC,zaw,sNx,zaa,zz0,zz1,List.set_cons_zero,List.set_cons_succ,rw',zkF,ge,Bool.false_eq_true,if_false]
end K79
namespace K79
open PySem FL TX
theorem zga{c:Nat}{s:Str}(hs:c∉TX.cp s):∀{l:List Str},(∀ x∈l,c∉TX.cp x)->c∉TX.cp (Str.join s l)
 | [],_=>fun z=>absurd (show c∈([]:List Nat) from z) (by simp)
 | [x],h=>h x (by simp)
 | x::y::r,h=>by
  rw [zcU,zaR,zaR]
  intro z
  rcases List.mem_append.mp z with z|z
  ·rcases List.mem_append.mp z with z|z
   ·exact h x (by simp) z
   ·exact hs z
  ·exact zga hs (fun w hw=>h w (List.mem_cons_of_mem _ hw)) z
theorem zed{c d:Nat}(h:c≠d):c∉TX.cp (one d):=by
 intro z
 exact h (by simpa [TX.cp] using z)
theorem zkk{c:Nat}{l:List Str}(hne:l≠[])(hf:∀ p∈l,c∉TX.cp p)(hl:(Str.join (one c) l).length<=100000)(hk:l.length<=1000):zfG (Str.join (one c) l) (.str (one c))=.ok (.list (l.map PyData.str)):=by
 have e:=zk6 hne hf
 have k4:leB (Builtin.Str.partsBetween (Str.join (one c) l) (Builtin.Str.occurrences (Str.join (one c) l) (one c) 0 (Str.join (one c) l).length ((Str.join (one c) l).length+1)) (one c).length).length lim=true:=zaQ (by
  rw [PyProof.Rows.len_partsBetween]
  have:=StrLaws.occ_length_le (Str.join (one c) l) (one c) 0 (Str.join (one c) l).length ((Str.join (one c) l).length+1)
  omega)
 refine(zah ?_).trans ?_
 ·rw [k4,zaQ (by omega:(Str.join (one c) l).length+1<=1000000),e,zaQ (by omega:l.length<=1000000)]
  rfl
 ·rw [e]
theorem znd{w:List Int}{c:Nat}(hc:c≠45/\(c<48\/57<c))(h1:c≠46)(h2:c≠101):c∉TX.cp (zaI w):=by
 unfold zaI
 split
 ·exact zed h2
 ·exact zga (zed h1) fun x hx=>by
   obtain⟨i,_,rfl⟩:=List.mem_map.mp hx
   exact zee c hc i
theorem zkO{q:Rat}{c:Nat}(hc:c≠45/\(c<48\/57<c))(h1:c≠47):c∉TX.cp (zcv q):=by
 unfold zcv
 split
 ·exact zee c hc _
 ·rw [zaR,zaR]
  intro z
  rcases List.mem_append.mp z with z|z
  ·rcases List.mem_append.mp z with z|z
   ·exact zee c hc _ z
   ·exact zed h1 z
  ·exact zee c hc _ z
theorem zne{p:List Int×Rat}{c:Nat}(hc:c≠45/\(c<48\/57<c))(h1:c≠46)(h2:c≠101)(h3:c≠47)(h4:c≠58):c∉TX.cp (zaA p):=by
 unfold zaA
 rw [zaR,zaR]
 intro z
 rcases List.mem_append.mp z with z|z
 ·rcases List.mem_append.mp z with z|z
  ·exact zkO hc h3 z
  ·exact zed h4 z
 ·exact znd hc h1 h2 z
theorem read_word{w:List Int}{c:Int}(h:WB w)(hw:∀ x∈w,0<=x/\x<c)(hc:c<=6):zc1 [.str (zaI w),.int c]=.ok (tp w):=by
 cases w with
 | nil =>
  have eq:eqD (.str (zaI [])) (.str (Str.ofString "e"))=.ok (.bool true):=by
   have:=eq_str (zj5 []) (zcM (c:=101) (by decide))
   rw [decide_eq_true (show zaI []=one 101 from rfl)] at this
   exact this
  refine zaU (ρ:=[.val (.str (zaI [])),.val (.int c),.no]) rfl ?_
  show zbM [.val (.str (zaI [])),.val (.int c),.no]=_
  unfold zbM
  have l0:leB 0 lim=true:=zaQ (by omega)
  simp only [zav,sIf,tB,FL.e2,eV,eC,zaw,zb3,zal,zaa,zz0,eq,if_true,List.length_nil,l0,zah]
  rfl
 | cons x r =>
  have hT:zaI (x::r)=Str.join (one 46) ((x::r).map T):=by unfold zaI;rw [if_neg (by simp)]
  have wl:=zd0 h
  have ne:eqD (.str (zaI (x::r))) (.str (Str.ofString "e"))=.ok (.bool false):=by
   have:=eq_str (zj5 (x::r)) (zcM (c:=101) (by decide))
   rw [decide_eq_false fun z=>?_] at this
   ·exact this
   ·have:(101:Nat)∈TX.cp (zaI (x::r)):=by rw [z];simp [TX.cp]
    rw [hT] at this
    exact zga (zed (by decide)) (fun y hy=>by
     obtain⟨i,_,rfl⟩:=List.mem_map.mp hy
     exact zee 101 (by decide) i) this
  have sp:zfG (zaI (x::r)) (.str (Str.ofString "."))=.ok (.list (((x::r).map T).map PyData.str)):=by
   rw [hT]
   exact zkk (by simp) (fun y hy=>by
    obtain⟨i,_,rfl⟩:=List.mem_map.mp hy
    exact zee 46 (by decide) i) (by rw [<- hT];omega) (by rw [List.length_map];have:=h.len;omega)
  have so:strOf (.str (zaI (x::r)))=.ok (zaI (x::r)):=rfl
  have q:zbu [.val (.str (zaI (x::r))),.val (.int c),.no]=.ok (.list ((x::r).map PyData.int),[.val (.str (zaI (x::r))),.val (.int c),.no]):=by
   unfold zbu
   rw [zdy (f0:=fun i=>PyData.str (T i)) (xs:=x::r) PyData.int (by
    simp only [iE,eS1,eV,eC,zz0,zaa,so,sp,zcC]
    rw [List.map_map];rfl) (by have:=h.len;show _<=1000000;omega) fun i mi=>?_]
   exact⟨[.val (.str (T i)),.val (.int c)],rfl,by simp only [zai,zac,zal,eV,zz0,zz1,zaa,read_way (hw i mi).1 (hw i mi).2 hc],zeL trivial⟩
  have inn:zrq .none (.list ((x::r).map PyData.int))=.ok (.bool false):=by
   have sh:SeqAt.shaped (.list ((x::r).map PyData.int))=true:=Pl.shaped (n:=1) (zmx fun d m=>by
    obtain⟨i,_,rfl⟩:=List.mem_map.mp m
    exact ze6 i)
   have sn:SeqAt.shaped PyData.none=true:=rfl
   show chk _ _=_
   rw [zah (by rw [sh,sn];rfl)]
   congr 2
   rw [List.any_eq_false]
   intro y hy
   obtain⟨i,_,rfl⟩:=List.mem_map.mp hy
   simp [PyData.eqv]
  have ll:zdY (.list ((x::r).map PyData.int))=.ok (.int ((x::r).length:Int)):=by
   show R.ok (PyData.int (((x::r).map PyData.int).length:Int))=_
   rw [List.length_map]
  have gt:gtD (.int ((x::r).length:Int)) (.int 5)=.ok (.bool false):=by rw [zq1,decide_eq_false (by have:=h.len;omega)]
  have tu:zcm (.list ((x::r).map PyData.int))=.ok (tp (x::r)):=rfl
  have s1:zd4 2 (zdw 2 zbu) [.val (.str (zaI (x::r))),.val (.int c),.no]=.ok (.nx,[.val (.str (zaI (x::r))),.val (.int c),.val (.list ((x::r).map PyData.int))]):=by
   unfold zd4
   rw [zhK (i:=2) (x:=.no) q rfl zbY]
   rfl
  refine zaU (ρ:=[.val (.str (zaI (x::r))),.val (.int c),.val (.list ((x::r).map PyData.int))]) rfl ?_
  show zbM [.val (.str (zaI (x::r))),.val (.int c),.no]=_
  have s0:sIf (tB (e2 eqD (eV 0) (eC (.str (Str.ofString "e"))))) (zaw (zb3 zal)) sNx [.val (.str (zaI (x::r))),.val (.int c),.no]=.ok (.nx,[.val (.str (zaI (x::r))),.val (.int c),.no]):=by
   simp only [sIf,tB,FL.e2,eV,eC,sNx,zaa,zz0,ne,Bool.false_eq_true,if_false]
  unfold zbM
  refine(zan s0).trans ?_
  rw [zan s1]
  simp only [zav,sIf,FL.tOr,tB,FL.e1,FL.e2,eV,eC,zaw,sNx,zaa,zz0,zz1,inn,ll,gt,tu,Bool.false_eq_true,if_false]
end K79
namespace K79
open PySem FL TX
theorem gT2{ρ:En}{i j:Nat}{a b:D}{x y:Sl}(hx:ρ[i]?=some x)(hy:ρ[j]?=some y)(hij:i≠j)(nx:Np x)(ny:Np y):gT [gN i,gN j] (.tuple [a,b]) ρ=.ok ((ρ.set i (.val a)).set j (.val b)):=by
 show((gN i a ρ).bind fun ρ1=>(gN j b ρ1).bind fun ρ2=>.ok ρ2)=_
 rw [zf9 hx nx,zaa,zf9 (x:=y) (by rw [List.getElem?_set_ne hij];exact hy) ny]
 rfl
theorem gT3{ρ:En}{i j k:Nat}{a b c:D}{x y z:Sl}(hx:ρ[i]?=some x)(hy:ρ[j]?=some y)(hz:ρ[k]?=some z)(hij:i≠j)(hik:i≠k)(hjk:j≠k)(nx:Np x)(ny:Np y)(nz:Np z):gT [gN i,gN j,gN k] (.tuple [a,b,c]) ρ=.ok (((ρ.set i (.val a)).set j (.val b)).set k (.val c)):=by
 show((gN i a ρ).bind fun ρ1=>(gN j b ρ1).bind fun ρ2=>(gN k c ρ2).bind fun ρ3=>.ok ρ3)=_
 rw [zf9 hx nx,zaa,zf9 (x:=y) (by rw [List.getElem?_set_ne hij];exact hy) ny,zaa,zf9 (x:=z) (by rw [List.getElem?_set_ne hjk,List.getElem?_set_ne hik];exact hz) nz]
 rfl
structure RT(c:Int)(p:List Int×Rat):Prop where
 ok:Wok c p
 ns:NS p.2
theorem RT.wb{c:Int}{p:List Int×Rat}(h:RT c p)(hc:c<=6):WB p.1:=⟨h.ok.ln,fun x hx=>⟨(h.ok.lt x hx).1,by have:=(h.ok.lt x hx).2;omega⟩⟩
theorem RT.tb{c:Int}{p:List Int×Rat}(h:RT c p)(hc:c<=6):TB p:=⟨h.wb hc,h.ns.nb⟩
theorem get_none{s:Sm}{w:List Int}(h:∀ p∈s,p.1≠w):zjs s w=none:=by
 unfold zjs
 rw [List.find?_eq_none.mpr fun p hp=>by simpa using h p hp]
 rfl
theorem ziA(L:D){c:Int}(hc:c<=6):∀(l:Sm) (i:Nat) (done:Sm) (y3 y4 y5 y6 y7 y8 y9:Sl),Np y3->Np y4->Np y5->Np y6->Np y7->Np y8->Np y9->Nk (done++l)->(∀ p∈l,RT c p)->done.length+l.length<=1000 ->
  ∃ z3 z4 z5 z6 z7 z8 z9,forL (gT [gN 3,gN 4]) zbT (zfn i (l.map fun p=>.str (zaA p))) [.val L,.val (.int c),.ow false (dct done),y3,y4,y5,y6,y7,y8,y9]=.ok (.nx,[.val L,.val (.int c),.ow false (dct (done++l)),z3,z4,z5,z6,z7,z8,z9])
 | [],i,done,y3,y4,y5,y6,y7,y8,y9,_,_,_,_,_,_,_,_,_,_=>⟨y3,y4,y5,y6,y7,y8,y9,by rw [List.append_nil];rfl⟩
 | p::r,i,done,y3,y4,y5,y6,y7,y8,y9,n3,n4,n5,n6,n7,n8,n9,nk,hl,hn=>by
  have rt:=hl p (by simp)
  have tl:=zd3 (rt.tb hc)
  have e0:gT [gN 3,gN 4] (.tuple [.int (i:Int),.str (zaA p)]) [.val L,.val (.int c),.ow false (dct done),y3,y4,y5,y6,y7,y8,y9]=.ok [.val L,.val (.int c),.ow false (dct done),.val (.int (i:Int)),.val (.str (zaA p)),y5,y6,y7,y8,y9]:=gT2 rfl rfl (by decide) n3 n4
  have so:strOf (.str (zaA p))=.ok (zaA p):=rfl
  have pt:zjC (zaA p) (.str (Str.ofString ":"))=.ok (.tuple [.str (zcv p.2),.str (one 58),.str (zaI p.1)]):=by
   refine(zah (by rw [zaQ (by omega:(zaA p).length<=1000000)];rfl)).trans ?_
   unfold zaA
   rw [show Str.ofString ":"=one 58 from rfl,zkq (zkO (by decide) (by decide))]
   rfl
  have s1:zba (gT [(gN 5),(gN 6),(gN 7)]) (eS1 zjC (eV 4) (eC (.str (Str.ofString ":")))) [.val L,.val (.int c),.ow false (dct done),.val (.int (i:Int)),.val (.str (zaA p)),y5,y6,y7,y8,y9]=.ok (.nx,[.val L,.val (.int c),.ow false (dct done),.val (.int (i:Int)),.val (.str (zaA p)),.val (.str (zcv p.2)),.val (.str (one 58)),.val (.str (zaI p.1)),y8,y9]):=by
   have g:=gT3 (ρ:=[.val L,.val (.int c),.ow false (dct done),.val (.int (i:Int)),.val (.str (zaA p)),y5,y6,y7,y8,y9]) (i:=5) (j:=6) (k:=7) (a:=.str (zcv p.2)) (b:=.str (one 58)) (c:=.str (zaI p.1)) rfl rfl rfl (by decide) (by decide) (by decide) n5 n6 n7
   simp only [zba,eS1,eV,eC,zaa,zz0,zz1,so,pt,g]
   rfl
  have rn:=read_number rt.ns
  have rw':=read_word (rt.wb hc) rt.ok.lt hc
  have s2:ze3 8 9 (zai zch (zac (eV 5) zal)) (zai zc1 (zac (eV 7) (zac (eV 1) zal))) [.val L,.val (.int c),.ow false (dct done),.val (.int (i:Int)),.val (.str (zaA p)),.val (.str (zcv p.2)),.val (.str (one 58)),.val (.str (zaI p.1)),y8,y9]=.ok (.nx,[.val L,.val (.int c),.ow false (dct done),.val (.int (i:Int)),.val (.str (zaA p)),.val (.str (zcv p.2)),.val (.str (one 58)),.val (.str (zaI p.1)),.val (num p.2),.val (tp p.1)]):=by
   have g8:=zf9 (ρ:=[.val L,.val (.int c),.ow false (dct done),.val (.int (i:Int)),.val (.str (zaA p)),.val (.str (zcv p.2)),.val (.str (one 58)),.val (.str (zaI p.1)),y8,y9]) (i:=8) (d:=num p.2) rfl n8
   have g9:=zf9 (ρ:=[.val L,.val (.int c),.ow false (dct done),.val (.int (i:Int)),.val (.str (zaA p)),.val (.str (zcv p.2)),.val (.str (one 58)),.val (.str (zaI p.1)),.val (num p.2),y9]) (i:=9) (d:=tp p.1) rfl n9
   simp only [ze3,zai,zac,zal,eV,zaa,zz0,zz1,rn,rw',g8,List.set_cons_succ,List.set_cons_zero,g9]
  have hnew:∀ q∈done,q.1≠p.1:=fun q hq=>zsE nk q hq p (by simp)
  have i1:isD (num p.2) .none=.ok (.bool false):=rfl
  have i2:isD (tp p.1) .none=.ok (.bool false):=rfl
  have e1:eqD (num p.2) (.tuple [.int 0,.int 1])=.ok (.bool false):=by
   rw [show(PyData.tuple [.int 0,.int 1])=num 0 from rfl,zho (zqA _) (zqA _),zq7,decide_eq_false rt.ok.nz]
  have inn:inD (tp p.1) (dct done)=.ok (.bool false):=by rw [zs1,get_none hnew];rfl
  have dp:zlJ (dct done) (tp p.1) (num p.2)=.ok (dct (done++[p])):=by
   rw [zkQ (by simp at hn;unfold lim;omega),zn0 hnew]
  have b1:zbT [.val L,.val (.int c),.ow false (dct done),.val (.int (i:Int)),.val (.str (zaA p)),y5,y6,y7,y8,y9]=.ok (.nx,[.val L,.val (.int c),.ow false (dct (done++[p])),.val (.int (i:Int)),.val (.str (zaA p)),.val (.str (zcv p.2)),.val (.str (one 58)),.val (.str (zaI p.1)),.val (num p.2),.val (tp p.1)]):=by
   unfold zbT
   refine(zan s1).trans ?_
   refine(zan s2).trans ?_
   simp only [zav,sIf,FL.tOr,tB,m2r,FL.e2,eV,eC,sNx,zau,zdU,zaa,zz0,zz1,i1,i2,e1,inn,dp,Bool.false_eq_true,if_false]
   rfl
  obtain⟨z3,z4,z5,z6,z7,z8,z9,e⟩:=ziA L hc r (i+1) (done++[p]) _ _ _ _ _ _ _ (zaP (.int (i:Int))) (zaP (.str (zaA p))) (zaP (.str (zcv p.2))) (zaP (.str (one 58))) (zaP (.str (zaI p.1))) (zaP (num p.2)) (zaP (tp p.1)) (by rw [List.append_assoc];exact nk) (fun q hq=>hl q (List.mem_cons_of_mem _ hq)) (by simp at hn ⊢;omega)
  refine⟨z3,z4,z5,z6,z7,z8,z9,?_⟩
  show forL _ _ (.tuple [.int (i:Int),.str (zaA p)]::zfn (i+1) (r.map fun p=>.str (zaA p))) _=_
  rw [forL,e0,zaa,b1,zaa]
  rw [List.append_assoc] at e
  exact e
theorem zpU:zdH=znF:=rfl
theorem zm7(p:List Int×Rat):(58:Nat)∈TX.cp (zaA p):=by
 unfold zaA
 rw [zaR,zaR]
 simp [TX.cp]
theorem read_sum{c:Int}(hc:c<=6){l:Sm}(nk:Nk l)(h:∀ p∈l,RT c p)(hl:l.length<=60):zcl [.str (zb9 l),.int c]=.ok (told l):=by
 have l0:leB 0 lim=true:=zaQ (by omega)
 cases e:l with
 | nil =>
  have eq:eqD (.str (zb9 [])) (.str (Str.ofString "0"))=.ok (.bool true):=by
   have:=eq_str (zkZ []) (zcM (c:=48) (by decide))
   rw [decide_eq_true (show zb9 []=one 48 from rfl)] at this
   exact this
  refine zjt (ρ:=[.val (.str (zb9 [])),.val (.int c),.no,.no,.no,.no,.no,.no,.no,.no]) rfl ?_
  show zck [.val (.str (zb9 [])),.val (.int c),.no,.no,.no,.no,.no,.no,.no,.no]=_
  unfold zck
  simp only [zav,sIf,tB,FL.e2,eV,eC,zbt,zc8,zal,zaa,zz0,eq,if_true,List.length_nil,l0,zah]
  rfl
 | cons p r =>
  have hne:l≠[]:=by rw [e];simp
  rw [<- e]
  have hT:zb9 l=Str.join (one 32) (l.map zaA):=by unfold zb9;rw [if_neg hne]
  have tl:∀ x∈l.map zaA,x.length<=434:=fun x hx=>by
   obtain⟨q,hq,rfl⟩:=List.mem_map.mp hx
   exact zd3 ((h q hq).tb hc)
  have sl:(zb9 l).length<=100000:=by
   rw [hT]
   have:=zkD (c:=32) tl (by rw [List.length_map];omega) (by decide)
   rw [List.length_map] at this
   have:l.length*(434+1)<=60*(434+1):=Nat.mul_le_mul_right _ hl
   omega
  have ff:∀ q∈l.map zaA,(32:Nat)∉TX.cp q:=fun x hx=>by
   obtain⟨q,hq,rfl⟩:=List.mem_map.mp hx
   exact zne (by decide) (by decide) (by decide) (by decide) (by decide)
  have sp:zfG (zb9 l) (.str (Str.ofString " "))=.ok (.list (l.map fun p=>.str (zaA p))):=by
   have:=zkk (c:=32) (l:=l.map zaA) (by simpa using hne) ff (by rw [<- hT];exact sl) (by rw [List.length_map];omega)
   rw [<- hT,List.map_map] at this
   exact this
  have ne:eqD (.str (zb9 l)) (.str (Str.ofString "0"))=.ok (.bool false):=by
   have:=eq_str (zkZ l) (zcM (c:=48) (by decide))
   rw [decide_eq_false fun z=>?_] at this
   ·exact this
   ·have m:(58:Nat)∈TX.cp (zb9 l):=by
     rw [hT,e]
     cases r with
     | nil=>exact zm7 p
     | cons q s =>
      rw [List.map_cons,List.map_cons,zcU,zaR,zaR]
      exact List.mem_append_left _ (List.mem_append_left _ (zm7 p))
    rw [z] at m
    simp [TX.cp] at m
  obtain⟨z3,z4,z5,z6,z7,z8,z9,lp⟩:=ziA (.str (zb9 l)) hc l 0 [] .no .no .no .no .no .no .no zbY zbY zbY zbY zbY zbY zbY (by simpa using nk) h (by simp;omega)
  have so:strOf (.str (zb9 l))=.ok (zb9 l):=rfl
  have s0:sIf (tB (e2 eqD (eV 0) (eC (.str (Str.ofString "0"))))) (zbt (zc8 zal)) sNx [.val (.str (zb9 l)),.val (.int c),.no,.no,.no,.no,.no,.no,.no,.no]=.ok (.nx,[.val (.str (zb9 l)),.val (.int c),.no,.no,.no,.no,.no,.no,.no,.no]):=by
   simp only [sIf,tB,FL.e2,eV,eC,sNx,zaa,zz0,ne,Bool.false_eq_true,if_false]
  have s1:zdw 2 zcr [.val (.str (zb9 l)),.val (.int c),.no,.no,.no,.no,.no,.no,.no,.no]=.ok (.nx,[.val (.str (zb9 l)),.val (.int c),.ow false (dct []),.no,.no,.no,.no,.no,.no,.no]):=rfl
  have s2:zcy [.val (.str (zb9 l)),.val (.int c),.ow false (dct []),.no,.no,.no,.no,.no,.no,.no]=.ok (.nx,[.val (.str (zb9 l)),.val (.int c),.ow false (dct l),z3,z4,z5,z6,z7,z8,z9]):=by
   unfold zcy zgz
   have it:ztE (zac (eS1 zfG (eV 0) (eC (.str (Str.ofString " ")))) zal) [.val (.str (zb9 l)),.val (.int c),.ow false (dct []),.no,.no,.no,.no,.no,.no,.no]=.ok (zfn 0 (l.map fun p=>.str (zaA p)),[.val (.str (zb9 l)),.val (.int c),.ow false (dct []),.no,.no,.no,.no,.no,.no,.no]):=by
    simp only [ztE,zac,zal,eS1,eV,eC,zaa,zz0,so,sp,enD]
   refine(congrArg (fun z:R (List D×En)=>z.bind _) it).trans ?_
   rw [zaa]
   exact lp
  have to:zdH [dct l]=.ok (told l):=by rw [zpU];exact znX nk (by omega)
  refine zjt (ρ:=[.val (.str (zb9 l)),.val (.int c),.val (dct l),z3,z4,z5,z6,z7,z8,z9]) rfl ?_
  show zck [.val (.str (zb9 l)),.val (.int c),.no,.no,.no,.no,.no,.no,.no,.no]=_
  unfold zck
  refine(zan s0).trans ?_
  rw [zan s1,zan s2]
  simp only [zgy,zbt,zai,zac,zal,eV,zaa,zz0,zz1,List.set_cons_zero,List.set_cons_succ,to]
end K79
namespace K79
open PySem FL TX
theorem zp4{t l:Sm}(ha:Asc t)(h:l.Perm t):zbq l=t:=by
 have nk:Nk l:=by
  have:=zkY ha
  unfold Nk at this ⊢
  exact(h.map _).nodup_iff.mpr this
 refine @zfN cs0 _ _ _ _ ((zaF l).trans h) (zfJ nk) ha fun a _ b _ h1 h2=>?_
 rw [@zhe cs0] at h1 h2
 have:=L2.zhf _ _ h1
 rw [this] at h2
 cases h2
theorem znW{t l:Sm}(ha:Asc t)(h:l.Perm t):told l=.list (t.map tln):=by
 unfold told
 rw [zp4 ha h]
theorem ne_self{n:Nat}{d:D}(h:Pl n d)(hn:n<=64:=by decide):neD d d=.ok (.bool false):=by
 rw [zha h h hn hn,SeqAt.eqv_refl d h.1];rfl
theorem eq_self{n:Nat}{d:D}(h:Pl n d)(hn:n<=64:=by decide):eqD d d=.ok (.bool true):=by
 rw [zho h h hn hn,SeqAt.eqv_refl d h.1]
theorem zoS(l:List D):zcq "list" (.list l)=.ok (.bool true):=rfl
theorem zio(A B C:D)(t:Sm):∀(n i:Nat) (y:Sl),Np y->t.length<=i+n->∃ z,zrr 3 (gN 4) zbs (n+1) i [.val A,.val B,.val C,.ow false (.list (t.map tln)),y]=.ok (.nx,[.val A,.val B,.val C,.ow false (.list (t.map tln)),z])
 | n,i,y,hy,h=>by
  have lt:zbr [.val A,.val B,.val C,.ow false (.list (t.map tln)),y] 3=.ok (t.map tln):=rfl
  unfold zrr
  rw [lt,zaa]
  cases e:t[i]? with
  | none =>
   have:(t.map tln)[i]?=none:=by rw [List.getElem?_map,e];rfl
   rw [this]
   exact⟨y,rfl⟩
  | some p =>
   have hi:i<t.length:=(List.getElem?_eq_some_iff.mp e).1
   have:(t.map tln)[i]?=some (tln p):=by rw [List.getElem?_map,e];rfl
   rw [this]
   have g0:gN 4 (tln p) [.val A,.val B,.val C,.ow false (.list (t.map tln)),y]=.ok [.val A,.val B,.val C,.ow false (.list (t.map tln)),.val (tln p)]:=zf9 (x:=y) rfl hy
   have k0:zcq "tuple" (tln p)=.ok (.bool true):=rfl
   have x0:ixD (tln p) (.int 0)=.ok (tp p.1):=rfl
   have x1:ixD (tln p) (.int 1)=.ok (num p.2):=rfl
   have k1:zcq "tuple" (tp p.1)=.ok (.bool true):=rfl
   have k2:zcq "tuple" (num p.2)=.ok (.bool true):=rfl
   have b1:zbs [.val A,.val B,.val C,.ow false (.list (t.map tln)),.val (tln p)]=.ok (.nx,[.val A,.val B,.val C,.ow false (.list (t.map tln)),.val (tln p)]):=by
    unfold zbs
    simp only [sIf,FL.tOr,FL.zbV,tE,tB,FL.e1,FL.e2,eV,eC,sNx,zaa,zz0,zz1,k0,k1,k2,x0,x1,zep,Bool.not_true,Bool.false_eq_true,if_false]
   show ∃ z,((gN 4 (tln p) _).bind _)=_
   rw [g0,zaa,b1,zaa]
   cases n with
   | zero=>omega
   | succ m=>exact zio A B C t m (i+1) (.val (tln p)) (zaP _) (by omega)
theorem zoI{c:Int}{t:Sm}{x:Str}(hl:t.length<=1000)(h:zcl [.str x,.int c]=.ok (.list (t.map tln))):zaW [.list (t.map tln),.int c,.str x]=.ok (.bool true):=by
 have s1:zdw 3 (zai zcl (zac (eV 2) (zac (eV 1) zal))) [.val (.list (t.map tln)),.val (.int c),.val (.str x),.no,.no]=.ok (.nx,[.val (.list (t.map tln)),.val (.int c),.val (.str x),.ow false (.list (t.map tln)),.no]):=by
  refine zhK (i:=3) (y:=(.list (t.map tln),[.val (.list (t.map tln)),.val (.int c),.val (.str x),.no,.no])) (x:=.no) ?_ rfl zbY
  simp only [zai,zac,zal,eV,zaa,zz0,zz1,h]
 have ne:=ne_self (ze5 t)
 have eq:=eq_self (ze5 t)
 have s2:sIf (FL.tOr (FL.zbV (tE (m1 (zcq "list") 3))) (tB (m2 neD 3 (eV 0)))) (zaw (eC (.bool false))) sNx [.val (.list (t.map tln)),.val (.int c),.val (.str x),.ow false (.list (t.map tln)),.no]=.ok (.nx,[.val (.list (t.map tln)),.val (.int c),.val (.str x),.ow false (.list (t.map tln)),.no]):=by
  simp only [sIf,FL.tOr,FL.zbV,tE,tB,m1,m2,zau,eV,eC,sNx,zaa,zz0,zz1,zoS,ne,zep,Bool.not_true,Bool.false_eq_true,if_false]
 obtain⟨z,lp⟩:=zio (.list (t.map tln)) (.int c) (.str x) t t.length 0 .no zbY (by omega)
 have s3:zb8 [.val (.list (t.map tln)),.val (.int c),.val (.str x),.ow false (.list (t.map tln)),.no]=.ok (.nx,[.val (.list (t.map tln)),.val (.int c),.val (.str x),.ow false (.list (t.map tln)),z]):=by
  unfold zb8 zp7
  have lt:zbr [.val (.list (t.map tln)),.val (.int c),.val (.str x),.ow false (.list (t.map tln)),.no] 3=.ok (t.map tln):=rfl
  rw [lt,zaa,List.length_map]
  exact lp
 have s4:zji 3 zjk (zb3 (zac (zb3 zal) (zac (zb3 (zac (eC (.int 7)) (zac (eC (.int 1)) zal))) zal))) [.val (.list (t.map tln)),.val (.int c),.val (.str x),.ow false (.list (t.map tln)),z]=.ok (.nx,[.val (.list (t.map tln)),.val (.int c),.val (.str x),.ow false (.list (t.map tln++[.tuple [.tuple [],.tuple [.int 7,.int 1]]])),z]):=by
  have ap:zjk (t.map tln) (.tuple [.tuple [],.tuple [.int 7,.int 1]])=.ok (t.map tln++[.tuple [.tuple [],.tuple [.int 7,.int 1]]]):=zah (zaQ (by rw [List.length_map];omega))
  have ll:leB 0 lim=true:=by decide
  have l2:leB 2 lim=true:=by decide
  simp only [zji,zbr,zb3,zac,zal,eC,zaa,zz0,zz1,List.length_cons,List.length_nil,Nat.reduceAdd,zah ll,zah l2,ap]
  rfl
 refine zaU (ρ:=[.val (.list (t.map tln)),.val (.int c),.val (.str x),.ow false (.list (t.map tln++[.tuple [.tuple [],.tuple [.int 7,.int 1]]])),z]) rfl ?_
 show zcZ [.val (.list (t.map tln)),.val (.int c),.val (.str x),.no,.no]=_
 unfold zcZ
 rw [zan s1,zan s2,zan s3,zan s4]
 simp only [zaw,FL.e2,zai,zac,zal,eV,zaa,zz0,zz1,h,eq]
end K79
namespace K79
open PySem FL TX
theorem zl3:zag=zgv:=rfl
theorem zsO:zbP=zgw:=rfl
theorem zgD{k:Nat}{d:D}(h:zb5 k d)(hk:k<=60000)(m:Int)(hm1:1<=m)(hm2:m.natAbs<65536):∃ g d',zag [d,.int m]=.ok (.int g,[d',.int m])/\0<=g/\g<m/\zb5 (k+1) d':=by
 rw [zl3];exact zpW h hk m hm1 hm2
theorem znY{k b:Nat}{d:D}(h:zb5 k d)(hk:k<=60000)(m:Int)(hm1:1<=m)(hm2:Bd m b)(hb:b<=1000):∃ g d',zag [d,.int m]=.ok (.int g,[d',.int m])/\0<=g/\g<m/\zb5 (k+1) d':=by
 rw [zl3];exact zpX h hk m hm1 hm2 hb
theorem zul(t:Int){b:Int}(hb:1<=b)(hl:b<2^300):∃ r:Rat,zbP [.int t,.int b]=.ok (num r)/\r.num.natAbs<=t.natAbs/\r.den<=b.toNat/\(t≠0->r≠0):=by
 have b0:b.toNat≠0:=by omega
 have e:((b.toNat:Nat):Int)=b:=by omega
 have h1:=QR.norm (t:=t) b0
 have h2:=QR.zuz t (b.toNat:Int)
 rw [h1] at h2
 refine⟨Rat.normalize t b.toNat b0,?_,h2.1,h2.2,fun h z=>h ?_⟩
 ·rw [zsO,<- zsN t b0 (n:=300) (by omega) (by decide),e]
 ·exact(Rat.normalize_eq_zero b0).mp z
theorem nine{k:Nat}{d:D}(h:zb5 k d)(hk:k<=50000):∃(r:Rat) (d':D),zaX [d]=.ok (num r,[d'])/\NS r/\zb5 (k+3) d':=by
 obtain⟨w,d1,t1,w0,w5,p1⟩:=zgD h (by omega) 6 (by decide) (by decide)
 have lt3:ltD (.int w) (.int 3)=.ok (.bool (decide (w<3))):=zjL _ _
 have lt5:ltD (.int w) (.int 5)=.ok (.bool (decide (w<5))):=zjL _ _
 by_cases c1:w<3
 ·have l3:leB 3 lim=true:=by decide
  have l2:leB 2 lim=true:=by decide
  have ng:zpp (.int 1)=.ok (.int (-1)):=rfl
  have c:w=0\/w=1\/w=2:=by omega
  rw [decide_eq_true c1] at lt3
  rcases c with rfl|rfl|rfl
  ·refine⟨0,d1,?_,⟨by decide,by decide⟩,p1.mono (by omega)⟩
   simp only [zaX,zbj,FL.run,zbE,slots,outs,outD,List.replicate,List.length_cons,List.length_nil,zaw,zav,sIf,zba,sE,sNx,zdw,zd4,zgy,zbt,zgG,zgF,ze3,znK,znJ,zlV,eC,eV,FL.e1,FL.e2,zlH,eOr,zlF,eIf,zct,zal,zac,zb3,zc8,zai,znN,zey,zex,eSl,zau,zbr,m1,m2,m2r,m2m,mSl,zgK,tE,tB,FL.ze1,FL.tOr,FL.zbV,tM,zb0,gN,gT,zh5,zji,zgC,setM,zaO,zjk,zaa,zbR,zbQ,zz0,zz1,List.set_cons_zero,List.set_cons_succ,List.nil_append,List.cons_append,List.head?_cons,List.tail_cons,Bool.false_eq_true,if_false,if_true,Nat.sub_self,Nat.reduceSub,Nat.reduceAdd,reduceCtorEq,zfh,zcn,zdY,zep,zeB,zcm,zam,zgA,zfq,zeN,zfp,bkL,bk1,List.lookup_cons,List.lookup_nil,blk,back,List.zip_cons_cons,List.zip_nil_left,List.zip_nil_right,List.map_cons,List.map_nil,List.drop_succ_cons,List.drop_zero,Option.getD_some,Option.getD_none,zgz,iE,zcC,Bool.not_true,Bool.not_false,iD,zdT,zcr,zdO,zgL,e3,zdU,zgX,zgH,iR1,iR2,t1,lt3,ng,zah l2,zah l3,List.length_cons,List.length_nil]
   rfl
  ·refine⟨1,d1,?_,⟨by decide,by decide⟩,p1.mono (by omega)⟩
   simp only [zaX,zbj,FL.run,zbE,slots,outs,outD,List.replicate,List.length_cons,List.length_nil,zaw,zav,sIf,zba,sE,sNx,zdw,zd4,zgy,zbt,zgG,zgF,ze3,znK,znJ,zlV,eC,eV,FL.e1,FL.e2,zlH,eOr,zlF,eIf,zct,zal,zac,zb3,zc8,zai,znN,zey,zex,eSl,zau,zbr,m1,m2,m2r,m2m,mSl,zgK,tE,tB,FL.ze1,FL.tOr,FL.zbV,tM,zb0,gN,gT,zh5,zji,zgC,setM,zaO,zjk,zaa,zbR,zbQ,zz0,zz1,List.set_cons_zero,List.set_cons_succ,List.nil_append,List.cons_append,List.head?_cons,List.tail_cons,Bool.false_eq_true,if_false,if_true,Nat.sub_self,Nat.reduceSub,Nat.reduceAdd,reduceCtorEq,zfh,zcn,zdY,zep,zeB,zcm,zam,zgA,zfq,zeN,zfp,bkL,bk1,List.lookup_cons,List.lookup_nil,blk,back,List.zip_cons_cons,List.zip_nil_left,List.zip_nil_right,List.map_cons,List.map_nil,List.drop_succ_cons,List.drop_zero,Option.getD_some,Option.getD_none,zgz,iE,zcC,Bool.not_true,Bool.not_false,iD,zdT,zcr,zdO,zgL,e3,zdU,zgX,zgH,iR1,iR2,t1,lt3,ng,zah l2,zah l3,List.length_cons,List.length_nil]
   rfl
  ·refine⟨-1,d1,?_,⟨by decide,by decide⟩,p1.mono (by omega)⟩
   simp only [zaX,zbj,FL.run,zbE,slots,outs,outD,List.replicate,List.length_cons,List.length_nil,zaw,zav,sIf,zba,sE,sNx,zdw,zd4,zgy,zbt,zgG,zgF,ze3,znK,znJ,zlV,eC,eV,FL.e1,FL.e2,zlH,eOr,zlF,eIf,zct,zal,zac,zb3,zc8,zai,znN,zey,zex,eSl,zau,zbr,m1,m2,m2r,m2m,mSl,zgK,tE,tB,FL.ze1,FL.tOr,FL.zbV,tM,zb0,gN,gT,zh5,zji,zgC,setM,zaO,zjk,zaa,zbR,zbQ,zz0,zz1,List.set_cons_zero,List.set_cons_succ,List.nil_append,List.cons_append,List.head?_cons,List.tail_cons,Bool.false_eq_true,if_false,if_true,Nat.sub_self,Nat.reduceSub,Nat.reduceAdd,reduceCtorEq,zfh,zcn,zdY,zep,zeB,zcm,zam,zgA,zfq,zeN,zfp,bkL,bk1,List.lookup_cons,List.lookup_nil,blk,back,List.zip_cons_cons,List.zip_nil_left,List.zip_nil_right,List.map_cons,List.map_nil,List.drop_succ_cons,List.drop_zero,Option.getD_some,Option.getD_none,zgz,iE,zcC,Bool.not_true,Bool.not_false,iD,zdT,zcr,zdO,zgL,e3,zdU,zgX,zgH,iR1,iR2,t1,lt3,ng,zah l2,zah l3,List.length_cons,List.length_nil]
   rfl
 ·rw [decide_eq_false c1] at lt3
  by_cases c2:w<5
  ·rw [decide_eq_true c2] at lt5
   obtain⟨v,d2,t2,v0,v1,p2⟩:=zgD p1 (by omega) 39 (by decide) (by decide)
   obtain⟨u,d3,t3,u0,u1,p3⟩:=zgD p2 (by omega) 12 (by decide) (by decide)
   have pr:0<=u*(w-3)/\u*(w-3)<=11:=by
    have:w-3=0\/w-3=1:=by omega
    rcases this with z|z <;> rw [z] <;> omega
   obtain⟨r,hl,b1,b2,_⟩:=zul (v-19) (b:=1+u*(w-3)) (by omega) (by omega)
   refine⟨r,d3,?_,⟨by omega,by omega⟩,p3⟩
   have sb:zfh (.int v) (.int 19)=.ok (.int (v-19)):=rfl
   have sb2:zfh (.int w) (.int 3)=.ok (.int (w-3)):=rfl
   have ml:zfj (.int u) (.int (w-3))=.ok (.int (u*(w-3))):=zb2 (n:=16) (m:=16) (zaq (by omega)) (zaq (by omega)) (by decide)
   have ad2:zbk (.int 1) (.int (u*(w-3)))=.ok (.int (1+u*(w-3))):=rfl
   simp only [zaX,zbj,FL.run,zbE,slots,outs,outD,List.replicate,List.length_cons,List.length_nil,zaw,zav,sIf,zba,sE,sNx,zdw,zd4,zgy,zbt,zgG,zgF,ze3,znK,znJ,zlV,eC,eV,FL.e1,FL.e2,zlH,eOr,zlF,eIf,zct,zal,zac,zb3,zc8,zai,znN,zey,zex,eSl,zau,zbr,m1,m2,m2r,m2m,mSl,zgK,tE,tB,FL.ze1,FL.tOr,FL.zbV,tM,zb0,gN,gT,zh5,zji,zgC,setM,zaO,zjk,zaa,zbR,zbQ,zz0,zz1,List.set_cons_zero,List.set_cons_succ,List.nil_append,List.cons_append,List.head?_cons,List.tail_cons,Bool.false_eq_true,if_false,if_true,Nat.sub_self,Nat.reduceSub,Nat.reduceAdd,reduceCtorEq,zfh,zcn,zdY,zep,zeB,zcm,zam,zgA,zfq,zeN,zfp,bkL,bk1,List.lookup_cons,List.lookup_nil,blk,back,List.zip_cons_cons,List.zip_nil_left,List.zip_nil_right,List.map_cons,List.map_nil,List.drop_succ_cons,List.drop_zero,Option.getD_some,Option.getD_none,zgz,iE,zcC,Bool.not_true,Bool.not_false,iD,zdT,zcr,zdO,zgL,e3,zdU,zgX,zgH,iR1,iR2,t1,t2,t3,lt3,lt5,sb,sb2,ml,ad2,hl,beq_self_eq_true,Nat.reduceBEq]
  ·rw [decide_eq_false c2] at lt5
   obtain⟨v,d2,t2,v0,v1,p2⟩:=znY (b:=40) p1 (by omega) 1999999999 (by decide) ⟨by decide⟩ (by decide)
   obtain⟨u,d3,t3,u0,u1,p3⟩:=znY (b:=40) p2 (by omega) 999999999 (by decide) ⟨by decide⟩ (by decide)
   obtain⟨r,hl,b1,b2,_⟩:=zul (v-1000000000+1) (b:=1+u) (by omega) (by omega)
   refine⟨r,d3,?_,⟨by omega,by omega⟩,p3⟩
   have pw:zew (.int 10) (.int 9)=.ok (.int 1000000000):=rfl
   have ml:zfj (.int 2) (.int 1000000000)=.ok (.int 2000000000):=rfl
   have sb:zfh (.int 2000000000) (.int 1)=.ok (.int 1999999999):=rfl
   have sb1:zfh (.int 1000000000) (.int 1)=.ok (.int 999999999):=rfl
   have sb2:zfh (.int v) (.int 1000000000)=.ok (.int (v-1000000000)):=rfl
   have ad:zbk (.int (v-1000000000)) (.int 1)=.ok (.int (v-1000000000+1)):=rfl
   have ad2:zbk (.int 1) (.int u)=.ok (.int (1+u)):=rfl
   simp only [zaX,zbj,FL.run,zbE,slots,outs,outD,List.replicate,List.length_cons,List.length_nil,zaw,zav,sIf,zba,sE,sNx,zdw,zd4,zgy,zbt,zgG,zgF,ze3,znK,znJ,zlV,eC,eV,FL.e1,FL.e2,zlH,eOr,zlF,eIf,zct,zal,zac,zb3,zc8,zai,znN,zey,zex,eSl,zau,zbr,m1,m2,m2r,m2m,mSl,zgK,tE,tB,FL.ze1,FL.tOr,FL.zbV,tM,zb0,gN,gT,zh5,zji,zgC,setM,zaO,zjk,zaa,zbR,zbQ,zz0,zz1,List.set_cons_zero,List.set_cons_succ,List.nil_append,List.cons_append,List.head?_cons,List.tail_cons,Bool.false_eq_true,if_false,if_true,Nat.sub_self,Nat.reduceSub,Nat.reduceAdd,reduceCtorEq,zfh,zcn,zdY,zep,zeB,zcm,zam,zgA,zfq,zeN,zfp,bkL,bk1,List.lookup_cons,List.lookup_nil,blk,back,List.zip_cons_cons,List.zip_nil_left,List.zip_nil_right,List.map_cons,List.map_nil,List.drop_succ_cons,List.drop_zero,Option.getD_some,Option.getD_none,zgz,iE,zcC,Bool.not_true,Bool.not_false,iD,zdT,zcr,zdO,zgL,e3,zdU,zgX,zgH,iR1,iR2,t1,t2,t3,lt3,lt5,pw,ml,Int.reduceSub,sb2,ad,ad2,hl,beq_self_eq_true,Nat.reduceBEq]
theorem znv{m:List (Nat×Sl)}:∀(R:En) (n:Nat),(∀ i,n<=i->m.lookup i=none)->bkL m n R=R
 | [],_,_=>rfl
 | x::r,n,h=>by
  unfold bkL
  rw [znw (h n (Nat.le_refl _)),znv r (n+1) fun i hi=>h i (by omega)]
theorem znm(R:En){k:Nat}{d:D}(hd:zb5 k d)(hk:k<=50000){c:Int}(c1:1<=c)(c6:c<=6) :
  ∃(w:List Int) (d':D),zbX (.ow true d::.val (.int c)::R)=.ok (.list (w.map PyData.int),.ow true d'::.val (.int c)::R)/\w.length<=5/\(∀ x∈w,0<=x/\x<c)/\zb5 (k+6) d':=by
 obtain⟨n,d0,t0,n0,n1,hp0⟩:=zgD hd (by omega) 6 (by omega) (by omega)
 have hr:zcG [.int n]=.ok (rng 0 n):=zet (by omega) (by omega)
 have hlen:(rng 0 n).length=n.toNat:=by rw [zju];simp
 have CI:=zi0 (k:=1) (ix:=[0,1]) (g:=gN 0) (t:=zb0) (f:=zam zag [.m 1,.v (eV 2)])
  (fun i acc ρ=>∃(w:List Int) (d':D),acc=w.map PyData.int/\(∀ x∈w,0<=x/\x<c)/\zb5 (k+1+i) d'/\ρ=.ow true d'::.val (.int c)::R)
 obtain⟨acc,ρ',ec,el,hp⟩:=CI (rng 0 n) 0 [] (.ow true d0::.val (.int c)::R) (by rw [hlen];unfold lim;simp;omega) rfl
  ⟨[],d0,rfl,by simp,hp0,rfl⟩ (by
   intro x hx i acc ρ hi hP
   rw [hlen] at hi
   obtain⟨w,d1,rfl,hw,hp,rfl⟩:=hP
   obtain⟨g,d2,et,g0,g1,hp2⟩:=zgD hp (by omega) c c1 (by omega)
   refine⟨[.val x,.ow true d1,.val (.int c)],.int g,[.val x,.ow true d2,.val (.int c)],?_,?_,?_,?_⟩
   ·simp only [FL.run,zbE,slots,outs,outD,List.replicate,List.length_cons,List.length_nil,zaw,zav,sIf,zba,sE,sNx,zdw,zd4,zgy,zbt,zgG,zgF,ze3,znK,znJ,zlV,eC,eV,FL.e1,FL.e2,zlH,eOr,zlF,eIf,zct,zal,zac,zb3,zc8,zai,znN,zey,zex,eSl,zau,zbr,m1,m2,m2r,m2m,mSl,zgK,tE,tB,FL.ze1,FL.tOr,FL.zbV,tM,zb0,gN,gT,zh5,zji,zgC,setM,zaO,zjk,zaa,zbR,zbQ,zz0,zz1,List.set_cons_zero,List.set_cons_succ,List.nil_append,List.cons_append,List.head?_cons,List.tail_cons,Bool.false_eq_true,if_false,if_true,Nat.sub_self,Nat.reduceSub,Nat.reduceAdd,reduceCtorEq,zbk,zfh,ixD,zcn,zdY,zep,zeB,zcm,zam,zgA,zfq,zeN,zfp,bkL,bk1,List.lookup_cons,List.lookup_nil,blk,back,List.zip_cons_cons,List.zip_nil_left,List.zip_nil_right,List.map_cons,List.map_nil,List.drop_succ_cons,List.drop_zero,Option.getD_some,Option.getD_none,zgz,iE,zcC,Bool.not_true,Bool.not_false,iD,zdT,zcr,zdO,zgL,e3,zdU,zgX,zgH,iR1,iR2,zcG,zes]
   ·simp only [FL.run,zbE,slots,outs,outD,List.replicate,List.length_cons,List.length_nil,zaw,zav,sIf,zba,sE,sNx,zdw,zd4,zgy,zbt,zgG,zgF,ze3,znK,znJ,zlV,eC,eV,FL.e1,FL.e2,zlH,eOr,zlF,eIf,zct,zal,zac,zb3,zc8,zai,znN,zey,zex,eSl,zau,zbr,m1,m2,m2r,m2m,mSl,zgK,tE,tB,FL.ze1,FL.tOr,FL.zbV,tM,zb0,gN,gT,zh5,zji,zgC,setM,zaO,zjk,zaa,zbR,zbQ,zz0,zz1,List.set_cons_zero,List.set_cons_succ,List.nil_append,List.cons_append,List.head?_cons,List.tail_cons,Bool.false_eq_true,if_false,if_true,Nat.sub_self,Nat.reduceSub,Nat.reduceAdd,reduceCtorEq,zbk,zfh,ixD,zcn,zdY,zep,zeB,zcm,zam,zgA,zfq,zeN,zfp,bkL,bk1,List.lookup_cons,List.lookup_nil,blk,back,List.zip_cons_cons,List.zip_nil_left,List.zip_nil_right,List.map_cons,List.map_nil,List.drop_succ_cons,List.drop_zero,Option.getD_some,Option.getD_none,zgz,iE,zcC,Bool.not_true,Bool.not_false,iD,zdT,zcr,zdO,zgL,e3,zdU,zgX,zgH,iR1,iR2,zcG,zes]
   ·simp only [FL.run,zbE,slots,outs,outD,List.replicate,List.length_cons,List.length_nil,zaw,zav,sIf,zba,sE,sNx,zdw,zd4,zgy,zbt,zgG,zgF,ze3,znK,znJ,zlV,eC,eV,FL.e1,FL.e2,zlH,eOr,zlF,eIf,zct,zal,zac,zb3,zc8,zai,znN,zey,zex,eSl,zau,zbr,m1,m2,m2r,m2m,mSl,zgK,tE,tB,FL.ze1,FL.tOr,FL.zbV,tM,zb0,gN,gT,zh5,zji,zgC,setM,zaO,zjk,zaa,zbR,zbQ,zz0,zz1,List.set_cons_zero,List.set_cons_succ,List.nil_append,List.cons_append,List.head?_cons,List.tail_cons,Bool.false_eq_true,if_false,if_true,Nat.sub_self,Nat.reduceSub,Nat.reduceAdd,reduceCtorEq,zbk,zfh,ixD,zcn,zdY,zep,zeB,zcm,zam,zgA,zfq,zeN,zfp,bkL,bk1,List.lookup_cons,List.lookup_nil,blk,back,List.zip_cons_cons,List.zip_nil_left,List.zip_nil_right,List.map_cons,List.map_nil,List.drop_succ_cons,List.drop_zero,Option.getD_some,Option.getD_none,zgz,iE,zcC,Bool.not_true,Bool.not_false,iD,zdT,zcr,zdO,zgL,e3,zdU,zgX,zgH,iR1,iR2,zcG,zes,et,Nat.zero_add,beq_self_eq_true,Nat.reduceBEq]
   ·refine⟨w++[g],d2,by simp,?_,hp2,?_⟩
    ·intro z hz
     rcases List.mem_append.mp hz with hz|hz
     ·exact hw z hz
     ·have:z=g:=by simpa using hz
      subst this;exact⟨g0,g1⟩
    ·show bk1 _ 0 _::bk1 _ 1 _::bkL [(0,Sl.ow true d2),(1,Sl.val (.int c))] 2 R=_
     rw [znv R 2 fun i hi=>?_]
     ·rfl
     ·obtain⟨j,rfl⟩:∃ j,i=j+2:=⟨i-2,by omega⟩
      rfl)
 obtain⟨w,d',rfl,hw,hp',rfl⟩:=hp
 rw [Nat.zero_add,hlen] at el
 have el':w.length=n.toNat:=by simpa using el
 refine⟨w,d',?_,by omega,hw,hp'.mono (by rw [hlen];omega)⟩
 unfold zbX zcs
 have hi:(iR1 (zac (zam zag [.m 0,.v (eC (.int 6))]) zal)) (.ow true d::.val (.int c)::R)=.ok (rng 0 n,.ow true d0::.val (.int c)::R):=by
  have cm:(zam zag [.m 0,.v (eC (.int 6))]) (.ow true d::.val (.int c)::R)=.ok (.int n,.ow true d0::.val (.int c)::R):=zcX (p:=true) (d:=d) rfl rfl t0
  simp only [iR1,zac,zal,zaa,cm,hr]
 rw [hi,zaa]
 show(zeg _ _ _ _ _ (rng 0 n) (.ow true d0::.val (.int c)::R) []).bind _=_
 rw [ec]
 rfl
end K79
namespace K79
open PySem FL TX
structure Dz(c:Int)(n:Nat)(s:Sm):Prop where
 nk:Nk s
 rt:∀ p∈s,RT c p
 ln:s.length<=n
theorem zmg:zc4=za3:=rfl
theorem zpV{s:Sm}(nk:Nk s)(hl:s.length<64)(a b c x4 x5 x6:Sl):zbl [a,b,c,.val (dct s),x4,x5,x6]=.ok (.list ((zbq s).map tln),[a,b,c,.val (dct s),x4,x5,x6]):=by
 have so:=zl7 nk hl
 have hlen:(zbq s).length=s.length:=(zaF s).length_eq
 unfold zbl
 rw [zmg,ziY (items:=(zbq s).map fun p=>tp p.1) (fun x=>.tuple [x,ztG (zlX (dct s) x)])]
 ·rw [List.map_map]
  congr 2
  congr 1
  refine List.map_congr_left fun p hp=>?_
  have mp:p∈s:=(zaF s).mem_iff.mp hp
  show PyData.tuple [tp p.1,ztG (zlX (dct s) (tp p.1))]=_
  rw [zh7 (zfK nk mp)];rfl
 ·simp only [iE,FL.e1,eV,zaa,zz0,zz1,so,zcC]
 ·rw [List.length_map,hlen];unfold lim;omega
 ·intro x hx
  obtain⟨p,hp,rfl⟩:=List.mem_map.mp hx
  have mp:p∈s:=(zaF s).mem_iff.mp hp
  have d1:=zh7 (zfK nk mp)
  have l2:leB 2 lim=true:=by decide
  refine⟨[.val (tp p.1),.val (dct s)],rfl,?_,?_⟩
  ·simp only [zb3,zac,zal,FL.e2,eV,zaa,zz0,zz1,d1,List.length_cons,List.length_nil,zah l2]
   rfl
  ·exact zfB (fun i p d e=>by
    revert e
    simp only [List.drop_succ_cons,List.drop_zero,List.zip_cons_cons,List.zip_nil_left,List.lookup_cons,List.lookup_nil]
    split <;> (intro e;cases e)) _ 0
theorem zqT{k:Nat}{d:D}(hd:zb5 k d)(hk:k<=1000){c:Int}(c1:1<=c)(c6:c<=6) :
  ∃(s:Sm) (d':D),zdI [d,.int c,.int 9]=.ok (.list ((zbq s).map tln),[d',.int c,.int 9])/\Dz c 9 s/\zb5 (k+100) d':=by
 obtain⟨n,d0,t0,n0,n1,hp0⟩:=zgD hd (by omega) 10 (by decide) (by decide)
 have hr:zcG [.int n]=.ok (rng 0 n):=zet (by omega) (by omega)
 have hlen:(rng 0 n).length=n.toNat:=by rw [zju];simp
 have L:=zef (f:=fun x:D=>x) (g:=gN 4) (b:=zbU)
  (fun done ρ=>∃(s:Sm) (d':D) (y4 y5 y6:Sl),Np y4/\Np y5/\Np y6/\ρ=[.ow true d',.val (.int c),.val (.int 9),.ow false (dct s),y4,y5,y6]/\Dz c done.length s/\zb5 (k+1+9*done.length) d')
  (rng 0 n) [] [.ow true d0,.val (.int c),.val (.int 9),.ow false (dct []),.no,.no,.no] ⟨[],d0,.no,.no,.no,zbY,zbY,zbY,rfl,⟨List.nodup_nil,fun _ h=>by simp at h,Nat.zero_le _⟩,hp0⟩ (by
   intro pre x post ρ e hP
   obtain⟨s,d1,y4,y5,y6,h4,h5,h6,rfl,dr,pp⟩:=hP
   rw [List.nil_append] at e
   have hpl:pre.length+1<=n.toNat:=by rw [<- hlen,e];simp
   have gx:gN 4 x [.ow true d1,.val (.int c),.val (.int 9),.ow false (dct s),y4,y5,y6]=.ok [.ow true d1,.val (.int c),.val (.int 9),.ow false (dct s),.val x,y5,y6]:=zf9 rfl h4
   obtain⟨w,d2,tw,wl,wx,pw⟩:=znm [.val (.int 9),.ow false (dct s),.val x,y5,y6] pp (by omega) c1 c6
   obtain⟨r,d3,tn,rb,pn⟩:=nine pw (by omega)
   have s1:zba (gN 5) (FL.e1 zcm zbX) [.ow true d1,.val (.int c),.val (.int 9),.ow false (dct s),.val x,y5,y6]=.ok (.nx,[.ow true d2,.val (.int c),.val (.int 9),.ow false (dct s),.val x,.val (tp w),y6]):=zcP (y:=(tp w,[.ow true d2,.val (.int c),.val (.int 9),.ow false (dct s),.val x,y5,y6])) (by unfold FL.e1;rw [tw];rfl) rfl h5
   have s2:zba (gN 6) (zam zaX [.m 0]) [.ow true d2,.val (.int c),.val (.int 9),.ow false (dct s),.val x,.val (tp w),y6]=.ok (.nx,[.ow true d3,.val (.int c),.val (.int 9),.ow false (dct s),.val x,.val (tp w),.val (num r)]):=zcP (y:=(num r,[.ow true d3,.val (.int c),.val (.int 9),.ow false (dct s),.val x,.val (tp w),y6])) (zre (p:=true) (d:=d2) rfl tn) rfl h6
   have tt:tB (e2 neD (e2 ixD (eV 6) (eC (.int 0))) (eC (.int 0))) [.ow true d3,.val (.int c),.val (.int 9),.ow false (dct s),.val x,.val (tp w),.val (num r)]=.ok (!decide (r=0),[.ow true d3,.val (.int c),.val (.int 9),.ow false (dct s),.val x,.val (tp w),.val (num r)]):=by
    have i0:ixD (num r) (.int 0)=.ok (.int r.num):=rfl
    have n0:neD (.int r.num) (.int 0)=.ok (.bool (!decide (r=0))):=by
     rw [zhR];congr 3;rw [decide_eq_decide];exact Rat.num_eq_zero
    simp only [tB,FL.e2,eV,eC,zaa,zz0,zz1,i0,n0]
   by_cases cz:r=0
   ·refine⟨[.ow true d3,.val (.int c),.val (.int 9),.ow false (dct s),.val x,.val (tp w),.val (num r)],.nx,?_,.inl rfl,s,d3,_,_,_,zaP _,zaP _,zaP _,rfl,⟨dr.nk,dr.rt,by rw [List.length_append];have:=dr.ln;simp;omega⟩,pn.mono (by simp;omega)⟩
    rw [gx,zaa]
    unfold zbU
    rw [zan s1,zan s2]
    unfold sIf
    rw [tt,zaa,if_neg (by simpa using cz)]
    rfl
   ·have wk:RT c (w,r):=⟨⟨wl,wx,cz⟩,rb⟩
    refine⟨[.ow true d3,.val (.int c),.val (.int 9),.ow false (dct (zk8 s w r)),.val x,.val (tp w),.val (num r)],.nx,?_,.inl rfl,zk8 s w r,d3,_,_,_,zaP _,zaP _,zaP _,rfl,⟨zma dr.nk,fun p hp=>?_,?_⟩,pn.mono (by simp;omega)⟩
    ·rw [gx,zaa]
     unfold zbU
     rw [zan s1,zan s2]
     unfold sIf
     rw [tt,zaa,if_pos (by simpa using cz)]
     have dp:=zkQ (s:=s) (w:=w) (q:=r) (by have:=dr.ln;unfold lim;omega)
     simp only [zdU,eV,zau,zaa,zz0,zz1,dp]
     rfl
    ·rcases zn1 hp with h|h
     ·exact dr.rt p h
     ·subst h;exact wk
    ·rw [List.length_append,List.length_singleton]
     have:=zn2 s w r
     have:=dr.ln
     omega)
 obtain⟨ρ',e,s,d',y4,y5,y6,h4,h5,h6,rfl,dr,pp⟩:=L
 simp only [List.nil_append,hlen,List.map_id'] at e dr pp
 have dn:s.length<=9:=by have:=dr.ln;omega
 refine⟨s,d',?_,⟨dr.nk,dr.rt,dn⟩,pp.mono (by omega)⟩
 have hi:(iR1 (zac (zam zag [.m 0,.v (e2 zbk (eV 2) (eC (.int 1)))]) zal)) [.ow true d,.val (.int c),.val (.int 9),.ow false (dct []),.no,.no,.no]=.ok (rng 0 n,[.ow true d0,.val (.int c),.val (.int 9),.ow false (dct []),.no,.no,.no]):=by
  have cm:(zam zag [.m 0,.v (e2 zbk (eV 2) (eC (.int 1)))]) [.ow true d,.val (.int c),.val (.int 9),.ow false (dct []),.no,.no,.no]=.ok (.int n,[.ow true d0,.val (.int c),.val (.int 9),.ow false (dct []),.no,.no,.no]):=zcX (p:=true) (d:=d) rfl rfl t0
  simp only [iR1,zac,zal,zaa,cm,hr]
 have s1:zdw 3 zcr [.ow true d,.val (.int c),.val (.int 9),.no,.no,.no,.no]=.ok (.nx,[.ow true d,.val (.int c),.val (.int 9),.ow false (dct []),.no,.no,.no]):=rfl
 have s2:zcA [.ow true d,.val (.int c),.val (.int 9),.ow false (dct []),.no,.no,.no]=.ok (.nx,[.ow true d',.val (.int c),.val (.int 9),.ow false (dct s),y4,y5,y6]):=by
  unfold zcA zgz
  rw [hi,zaa]
  exact e
 have s3:zgy 3 (zbt zbl) [.ow true d',.val (.int c),.val (.int 9),.ow false (dct s),y4,y5,y6]=.ok (.rf (.list ((zbq s).map tln)),[.ow true d',.val (.int c),.val (.int 9),.val (dct s),y4,y5,y6]):=by
  show zbt zbl [.ow true d',.val (.int c),.val (.int 9),.val (dct s),y4,y5,y6]=_
  unfold zbt
  rw [zpV dr.nk (by omega)]
  rfl
 show((zdD [.ow true d,.val (.int c),.val (.int 9),.no,.no,.no,.no]).bind _)=_
 unfold zdD
 rw [zan s1,zan s2,s3]
 rfl
end K79
namespace K79
open PySem FL TX
def tms(l:Sm):D:=.list (l.map fun p=>.str (zaA p))
theorem zoG{k:Nat}{d:D}(hd:zb5 k d)(hk:k<=1000){t:Sm}(h:∀ p∈t,TB p)(hne:t≠[])(hl:t.length<=60) :
  ∃(l:Sm) (d':D),zbD [.list (t.map tln),d]=.ok (.str (zb9 l),[.list (t.map tln),d'])/\l.Perm t/\zb5 (k+60) d':=by
 have L:=zef (f:=tln) (g:=gT [gN 3,gN 4]) (b:=za5)
  (fun done ρ=>∃(l:Sm) (d':D) (y3 y4 y5:Sl),Np y3/\Np y4/\Np y5/\ρ=[.val (.list (t.map tln)),.ow true d',.ow false (tms l),y3,y4,y5]/\l.Perm done/\zb5 (k+done.length) d')
  t [] [.val (.list (t.map tln)),.ow true d,.ow false (tms []),.no,.no,.no] ⟨[],d,.no,.no,.no,zbY,zbY,zbY,rfl,List.Perm.refl _,hd⟩ (by
   intro pre p post ρ e hP
   obtain⟨l,d1,y3,y4,y5,h3,h4,h5,rfl,pm,pp⟩:=hP
   rw [List.nil_append] at e
   have mp:p∈t:=by rw [e];simp
   have hpl:pre.length+1<=t.length:=by rw [e];simp
   have ll:=pm.length_eq
   have tb:=h p mp
   have nt:=ze7 tb.n
   have wt:=zhc tb.w
   have l1:=len_num tb.n
   have l2:=zd0 tb.w
   have a1:zjl (.str (zcv p.2)) (.str (Str.ofString ":"))=.ok (.str (zcv p.2++one 58)):=zah (zaQ (by show _+1<=_;omega))
   have a2:zjl (.str (zcv p.2++one 58)) (.str (zaI p.1))=.ok (.str (zaA p)):=zah (zaQ (by rw [len_app];show _+1+_<=_;omega))
   have gx:gT [gN 3,gN 4] (tln p) [.val (.list (t.map tln)),.ow true d1,.ow false (tms l),y3,y4,y5]=.ok [.val (.list (t.map tln)),.ow true d1,.ow false (tms l),.val (tp p.1),.val (num p.2),y5]:=gT2 rfl rfl (by decide) h3 h4
   have s1:zba (gN 5) (e2 zjl (e2 zjl (zai zaK (zac (eV 4) zal)) (eC (.str (Str.ofString ":")))) (zai zaY (zac (eV 3) zal))) [.val (.list (t.map tln)),.ow true d1,.ow false (tms l),.val (tp p.1),.val (num p.2),y5]=.ok (.nx,[.val (.list (t.map tln)),.ow true d1,.ow false (tms l),.val (tp p.1),.val (num p.2),.val (.str (zaA p))]):=zcP (y:=(.str (zaA p),[.val (.list (t.map tln)),.ow true d1,.ow false (tms l),.val (tp p.1),.val (num p.2),y5])) (by
     simp only [FL.e2,zai,zac,zal,eV,eC,zaa,zz0,zz1,nt,wt,a1,a2]) rfl h5
   obtain⟨g,d2,tk,g0,g1,p2⟩:=zgD pp (by omega) ((l.length:Int)+1) (by omega) (by omega)
   have cm:zam zag [.m 1,.v (e2 zbk (m1 zdY 2) (eC (.int 1)))] [.val (.list (t.map tln)),.ow true d1,.ow false (tms l),.val (tp p.1),.val (num p.2),.val (.str (zaA p))]=.ok (.int g,[.val (.list (t.map tln)),.ow true d2,.ow false (tms l),.val (tp p.1),.val (num p.2),.val (.str (zaA p))]):=by
    refine zcX (p:=true) (d:=d1) (v:=.int ((l.length:Int)+1)) rfl ?_ tk
    have le:zdY (tms l)=.ok (.int (l.length:Int)):=by
     show R.ok (PyData.int ((l.map _).length:Int))=_
     rw [List.length_map]
    have ad:zbk (.int (l.length:Int)) (.int 1)=.ok (.int ((l.length:Int)+1)):=rfl
    simp only [FL.e2,m1,zau,eC,zaa,zz0,zz1,le,ad]
   have ins:zu2 (l.map fun p=>.str (zaA p)) (.int g) (.str (zaA p))=.ok ((l.take g.toNat++p::l.drop g.toNat).map fun p=>.str (zaA p)):=by
    refine(zah ?_).trans ?_
    ·rw [List.length_map,decide_eq_true g0,zdj (by omega:g.toNat<=l.length),zaQ (by omega:l.length+1<=1000000)]
     rfl
    ·rw [List.map_append,List.map_cons,List.map_take,List.map_drop]
   have pm2:(l.take g.toNat++p::l.drop g.toNat).Perm (pre++[p]):=by
    refine List.perm_middle.trans ?_
    rw [List.take_append_drop]
    exact(List.Perm.cons p pm).trans (List.perm_append_comm (l₁:=[p]) (l₂:=pre))
   refine⟨[.val (.list (t.map tln)),.ow true d2,.ow false (tms (l.take g.toNat++p::l.drop g.toNat)),.val (tp p.1),.val (num p.2),.val (.str (zaA p))],.nx,?_,.inl rfl,l.take g.toNat++p::l.drop g.toNat,d2,_,_,_,zaP _,zaP _,zaP _,rfl,pm2,p2.mono (by simp;omega)⟩
   rw [gx,zaa]
   unfold za5
   refine(zan s1).trans ?_
   have lt:∀(a b c e f:Sl),zbr [a,b,.ow false (tms l),c,e,f] 2=.ok (l.map fun p=>.str (zaA p)):=fun _ _ _ _ _=>rfl
   simp only [zuq,lt,cm,zaa,eV,zz0,zz1,ins]
   rfl)
 obtain⟨ρ',e,l,d',y3,y4,y5,h3,h4,h5,rfl,pm,pp⟩:=L
 rw [List.nil_append] at pm pp
 have lne:l≠[]:=fun z=>hne (by subst z;exact(List.nil_perm.mp pm))
 have le:=pm.length_eq
 refine⟨l,d',?_,pm,pp.mono (by omega)⟩
 have s2:za4 [.val (.list (t.map tln)),.ow true d,.ow false (tms []),.no,.no,.no]=.ok (.nx,[.val (.list (t.map tln)),.ow true d',.ow false (tms l),y3,y4,y5]):=by
  unfold za4 zgz
  have it:iE (eV 0) [.val (.list (t.map tln)),.ow true d,.ow false (tms []),.no,.no,.no]=.ok (t.map tln,[.val (.list (t.map tln)),.ow true d,.ow false (tms []),.no,.no,.no]):=rfl
  rw [it,zaa]
  exact e
 have s1:zdw 2 (zc8 zal) [.val (.list (t.map tln)),.ow true d,.no,.no,.no,.no]=.ok (.nx,[.val (.list (t.map tln)),.ow true d,.ow false (tms []),.no,.no,.no]):=rfl
 have s3:zgy 2 (zaw (eS1 zgU (eC (.str (Str.ofString " "))) (eV 2))) [.val (.list (t.map tln)),.ow true d',.ow false (tms l),y3,y4,y5]=.ok (.rt (.str (zb9 l)),[.val (.list (t.map tln)),.ow true d',.val (tms l),y3,y4,y5]):=by
  show zaw (eS1 zgU (eC (.str (Str.ofString " "))) (eV 2)) [.val (.list (t.map tln)),.ow true d',.val (tms l),y3,y4,y5]=_
  have jn:=zf2 (c:=32) (B:=434) (l:=l.map zaA) (fun y hy=>by
   obtain⟨i,hi,rfl⟩:=List.mem_map.mp hy
   exact zd3 (h i (pm.mem_iff.mp hi))) (by rw [List.length_map];omega) (by decide)
  rw [List.map_map] at jn
  have so:strOf (.str (Str.ofString " "))=.ok (one 32):=rfl
  have hT:zb9 l=Str.join (one 32) (l.map zaA):=by unfold zb9;rw [if_neg lne]
  have jn':zgU (one 32) (tms l)=.ok (.str (zb9 l)):=by rw [hT];exact jn
  simp only [zaw,eS1,eC,eV,zaa,so,zz0,zz1,jn']
 show((zbB [.val (.list (t.map tln)),.ow true d,.no,.no,.no,.no]).bind _)=_
 unfold zbB
 rw [zan s1,zan s2]
 refine(congrArg (fun z:R (Fl×En)=>z.bind _) s3).trans ?_
 rfl
end K79
namespace K79
open PySem FL TX
theorem zo7{F:List D->R (D×List D)}{i:Nat}{f:EF}{ρ ρ1:En}{p p0:Bool}{d0 d v r d' v':D}(h0:ρ[i]?=some (.ow p0 d0))(hf:f ρ=.ok (v,ρ1))(hi:ρ1[i]?=some (.ow p d))(hF:F [d,v]=.ok (r,[d',v'])):zam F [.m i,.v f] ρ=.ok (r,ρ1.set i (.ow p d')):=by
 have hm0:zau ρ i=.ok d0:=by unfold zau;rw [h0]
 have hm:zau ρ1 i=.ok d:=by unfold zau;rw [hi]
 unfold zam
 simp only [zgA,hm0,hf,zaa,zfq,hm,hF]
 have:=zgi (d:=d) (d':=d') (p:=p) ρ1 0 i hi
 rw [Nat.zero_add] at this
 show R.ok (r,bkL [(i,.ow true d')] 0 ρ1)=_
 rw [this]
theorem zgW{g:D->D->R D}{f h:EF}{ρ ρ1 ρ2:En}{a b c:D}(hf:f ρ=.ok (a,ρ1))(hh:h ρ1=.ok (b,ρ2))(hg:g a b=.ok c):FL.e2 g f h ρ=.ok (c,ρ2):=by
 unfold FL.e2
 rw [hf,zaa,hh,zaa,hg];rfl
theorem zie{F:List D->R D}{f h:EF}{ρ ρ1 ρ2:En}{a b c:D}(hf:f ρ=.ok (a,ρ1))(hh:h ρ1=.ok (b,ρ2))(hg:F [a,b]=.ok c):zai F (zac f (zac h zal)) ρ=.ok (c,ρ2):=by
 simp only [zai,zac,zal,hf,hh,zaa,hg]
def kt(p:List Int×Rat):WK×D:=(kyS p,tln p)
theorem zm6(x:List Int×Rat):∀ l:Sm,zkG (kt x) (l.map kt)=(zlW x l).map kt
 | []=>rfl
 | y::r=>by
  show(if ltW (kyS y) (kyS x)=true then kt y::zkG (kt x) (r.map kt) else kt x::kt y::r.map kt)=_
  unfold zlW
  split
  ·rw [zm6 x r];rfl
  ·rfl
theorem zkm:∀ l:Sm,zdk (l.map kt)=(zbq l).map kt
 | []=>rfl
 | x::r=>by
  show zkG (kt x) (zdk (r.map kt))=_
  rw [zkm r,zm6];rfl
theorem zp9(p:List Int×Rat):zax [tln p]=.ok (.tuple [.int (p.1.length:Int),tp p.1]):=by
 have r:=zkt p.1
 rw [<- zmg] at r
 have x0:ixD (tln p) (.int 0)=.ok (tp p.1):=rfl
 refine zaU (ρ:=[.val (tln p)]) rfl ?_
 show zbh [.val (tln p)]=_
 unfold zbh
 simp only [zaw,zai,zac,zal,FL.e2,eV,eC,zaa,zz0,x0,r]
theorem ziO:∀ s:Sm,zc7 zax (s.map tln)=.ok (s.map kyS)
 | []=>rfl
 | p::r=>by
  rw [List.map_cons]
  unfold zc7
  rw [zp9,zaa]
  have:zrz (.tuple [.int (p.1.length:Int),tp p.1])=some (kyS p):=by
   show(intsOf (p.1.map PyData.int)).map _=_
   rw [zhj];rfl
  rw [this]
  show(zc7 zax (r.map tln)).bind _=_
  rw [ziO r];rfl
theorem zsG:∀ l:Sm,Nk l->(l.map kyS).Nodup
 | [],_=>List.nodup_nil
 | p::r,h=>by
  unfold Nk at h
  rw [List.map_cons,List.nodup_cons] at h
  rw [List.map_cons,List.nodup_cons]
  refine⟨fun z=>h.1 ?_,zsG r h.2⟩
  obtain⟨q,hq,e⟩:=List.mem_map.mp z
  exact List.mem_map.mpr ⟨q,hq,(Prod.mk.inj e).2⟩
theorem zk7{s:Sm}(nk:Nk s)(hl:s.length<64):zfH zax (.list (s.map tln))=.ok (.list ((zbq s).map tln)):=by
 unfold zfH
 show(R.ok (s.map tln)).bind _=_
 rw [zaa,zah (zdj (by rw [List.length_map];exact hl)),ziO,zaa,zah (decide_eq_true (zsG s nk))]
 have hz:(s.map kyS).zip (s.map tln)=s.map kt:=by
  rw [List.zip_map'];rfl
 rw [hz,zkm,List.map_map]
 rfl
def Z5:List Int:=[0,0,0,0,0]
theorem zve:WB Z5:=⟨by decide,by decide⟩
theorem zlB(d' T A B:D){q:Rat}{t:Sm}(hl:t.length<=60):∃ y5 y6,zaT [.ow true d',.val (.list (t.map tln)),.val A,.val B,.ow false (.list ([(Z5,q)].map tln)),.no,.no]=.ok (.nx,[.ow true d',.val (.list (t.map tln)),.val A,.val B,.ow false (.list (((Z5,q)::t.filter fun p=>!decide (p.1=Z5)).map tln)),y5,y6]):=by
 have L:=zef (f:=tln) (g:=gT [gN 5,gN 6]) (b:=zaG)
  (fun done ρ=>∃(y5 y6:Sl),Np y5/\Np y6/\ρ=[.ow true d',.val (.list (t.map tln)),.val A,.val B,.ow false (.list (((Z5,q)::done.filter fun p=>!decide (p.1=Z5)).map tln)),y5,y6])
  t [] [.ow true d',.val (.list (t.map tln)),.val A,.val B,.ow false (.list ([(Z5,q)].map tln)),.no,.no] ⟨.no,.no,zbY,zbY,rfl⟩ (by
   intro pre p post ρ e hP
   obtain⟨y5,y6,h5,h6,rfl⟩:=hP
   rw [List.nil_append] at e
   have hpl:pre.length+1<=t.length:=by rw [e];simp
   have fl:=List.length_filter_le (fun p:List Int×Rat=>!decide (p.1=Z5)) pre
   generalize hg:(pre.filter fun p=>!decide (p.1=Z5))=gs at fl ⊢
   have gx:gT [gN 5,gN 6] (tln p) [.ow true d',.val (.list (t.map tln)),.val A,.val B,.ow false (.list (((Z5,q)::gs).map tln)),y5,y6]=.ok [.ow true d',.val (.list (t.map tln)),.val A,.val B,.ow false (.list (((Z5,q)::gs).map tln)),.val (tp p.1),.val (num p.2)]:=gT2 rfl rfl (by decide) h5 h6
   have l5:leB 5 lim=true:=by decide
   have l2:leB 2 lim=true:=by decide
   have ne:neD (tp p.1) (.tuple [.int 0,.int 0,.int 0,.int 0,.int 0])=.ok (.bool (!decide (p.1=Z5))):=zpq p.1 Z5
   have ap:zjk (((Z5,q)::gs).map tln) (.tuple [tp p.1,num p.2])=.ok (((Z5,q)::(gs++[p])).map tln):=by
    refine(zah (zaQ (by rw [List.length_map,List.length_cons];omega))).trans ?_
    rw [List.map_cons,List.map_cons,List.map_append]
    rfl
   have lt:∀(a b c e f g:Sl),zbr [a,b,c,e,.ow false (.list (((Z5,q)::gs).map tln)),f,g] 4=.ok (((Z5,q)::gs).map tln):=fun _ _ _ _ _ _=>rfl
   by_cases c:p.1=Z5
   ·rw [decide_eq_true c] at ne
    refine⟨[.ow true d',.val (.list (t.map tln)),.val A,.val B,.ow false (.list (((Z5,q)::gs).map tln)),.val (tp p.1),.val (num p.2)],.nx,?_,.inl rfl,.val (tp p.1),.val (num p.2),zaP _,zaP _,?_⟩
    ·rw [gx,zaa]
     unfold zaG
     simp only [sIf,tB,FL.e2,zb3,zac,zal,eV,eC,sNx,zaa,zz0,zz1,List.length_cons,List.length_nil,Nat.reduceAdd,zah l5,ne,Bool.not_true,Bool.false_eq_true,if_false]
    ·rw [List.filter_append,hg,List.filter_cons_of_neg (by simpa using c),List.filter_nil,List.append_nil]
   ·rw [decide_eq_false c] at ne
    refine⟨[.ow true d',.val (.list (t.map tln)),.val A,.val B,.ow false (.list (((Z5,q)::(gs++[p])).map tln)),.val (tp p.1),.val (num p.2)],.nx,?_,.inl rfl,.val (tp p.1),.val (num p.2),zaP _,zaP _,?_⟩
    ·rw [gx,zaa]
     unfold zaG
     simp only [sIf,tB,FL.e2,zb3,zac,zal,eV,eC,sNx,zji,lt,zaa,zz0,zz1,List.length_cons,List.length_nil,Nat.reduceAdd,zah l5,zah l2,ne,Bool.not_false,if_true,ap]
     rfl
    ·rw [List.filter_append,hg,List.filter_cons_of_pos (by simpa using c),List.filter_nil])
 obtain⟨ρ',e,y5,y6,h5,h6,rfl⟩:=L
 refine⟨y5,y6,?_⟩
 unfold zaT zgz
 have it:iE (eV 1) [.ow true d',.val (.list (t.map tln)),.val A,.val B,.ow false (.list ([(Z5,q)].map tln)),.no,.no]=.ok (t.map tln,[.ow true d',.val (.list (t.map tln)),.val A,.val B,.ow false (.list ([(Z5,q)].map tln)),.no,.no]):=rfl
 rw [it,zaa]
 exact e
theorem zmG{t:Sm}(f:List Int×Rat->Bool)(h:Nk t):Nk (t.filter f):=by
 unfold Nk at h ⊢
 exact h.sublist ((List.filter_sublist (l:=t) (p:=f)).map _)
theorem zlA{k:Nat}{d:D}(hd:zb5 k d)(hk:k<=1000){t:Sm}(nk:Nk t)(h:∀ p∈t,TB p)(hl:t.length<=60) :
  ∃ d',za9 [d,.list (t.map tln)]=.ok (.bool true,[d',.list (t.map tln)])/\zb5 (k+4) d':=by
 obtain⟨g,d1,t1,g0,g1,p1⟩:=znY (b:=140) hd (by omega) (10^40) (by decide) ⟨by decide⟩ (by decide)
 obtain⟨b,d2,t2,b0,b1,p2⟩:=zgD p1 (by omega) 2 (by decide) (by decide)
 obtain⟨e,d3,t3,e0,e1,p3⟩:=zgD p2 (by omega) 2 (by decide) (by decide)
 have P40:zew (.int 10) (.int 40)=.ok (.int (10^40)):=zmu (n:=16) (by decide) (by decide) (zaq (by decide)) (by decide)
 have P30:zew (.int 10) (.int 30)=.ok (.int (10^30)):=zmu (n:=16) (by decide) (by decide) (zaq (by decide)) (by decide)
 obtain⟨s,hs,hx⟩:∃ s:Int,(s=1\/s=-1)/\ixD (.list [.int 1,.int (-1)]) (.int b)=.ok (.int s):=by
  have:b=0\/b=1:=by omega
  rcases this with rfl|rfl
  ·exact⟨1,.inl rfl,rfl⟩
  ·exact⟨-1,.inr rfl,rfl⟩
 obtain⟨m,hm1,hm2,hy⟩:∃ m:Int,1<=m/\m<=10^30/\ixD (.list [.int 1,.int (10^30)]) (.int e)=.ok (.int m):=by
  have:e=0\/e=1:=by omega
  rcases this with rfl|rfl
  ·exact⟨1,by decide,by decide,rfl⟩
  ·exact⟨10^30,by decide,by decide,rfl⟩
 obtain⟨u,d4,t4,u0,u1,p4⟩:=znY (b:=140) p3 (by omega) m hm1 ⟨by omega⟩ (by decide)
 have mul:zfj (.int (1+g)) (.int s)=.ok (.int ((1+g)*s)):=zb2 (n:=141) (m:=16) ⟨by omega⟩ (zaq (by rcases hs with rfl|rfl <;> decide)) (by decide)
 have ab:((1+g)*s).natAbs<=10^40:=by
  rcases hs with rfl|rfl <;> omega
 obtain⟨q,lw,n1,n2,_⟩:=zul ((1+g)*s) (b:=1+u) (by omega) (by omega)
 have nq:NB q:=⟨by omega,by omega⟩
 have l2:leB 2 lim=true:=by decide
 have ng:zpp (.int 1)=.ok (.int (-1)):=rfl
 have s1:zba (gN 2) (e2 zfj (e2 zbk (eC (.int 1)) (zam zag [.m 0,.v (e2 zew (eC (.int 10)) (eC (.int 40)))])) (e2 ixD (zc8 (zac (eC (.int 1)) (zac (FL.e1 zpp (eC (.int 1))) zal))) (zam zag [.m 0,.v (eC (.int 2))]))) [.ow true d,.val (.list (t.map tln)),.no,.no,.no,.no,.no]=.ok (.nx,[.ow true d2,.val (.list (t.map tln)),.val (.int ((1+g)*s)),.no,.no,.no,.no]):=by
  refine zcP (y:=(.int ((1+g)*s),[.ow true d2,.val (.list (t.map tln)),.no,.no,.no,.no,.no])) ?_ rfl zbY
  exact zgW (ρ1:=[.ow true d1,.val (.list (t.map tln)),.no,.no,.no,.no,.no]) (a:=.int (1+g)) (zgW (a:=.int 1) (b:=.int g) rfl (zcX (p:=true) (d:=d) (v:=.int (10^40)) rfl (zgW rfl rfl P40) t1) rfl) (zgW (a:=.list [.int 1,.int (-1)]) (b:=.int b) rfl (zcX (p:=true) (d:=d1) (v:=.int 2) rfl rfl t2) hx) mul
 have s2:zba (gN 3) (zai zbP (zac (eV 2) (zac (e2 zbk (eC (.int 1)) (zam zag [.m 0,.v (e2 ixD (zc8 (zac (eC (.int 1)) (zac (e2 zew (eC (.int 10)) (eC (.int 30))) zal))) (zam zag [.m 0,.v (eC (.int 2))]))])) zal))) [.ow true d2,.val (.list (t.map tln)),.val (.int ((1+g)*s)),.no,.no,.no,.no]=.ok (.nx,[.ow true d4,.val (.list (t.map tln)),.val (.int ((1+g)*s)),.val (num q),.no,.no,.no]):=by
  refine zcP (y:=(num q,[.ow true d4,.val (.list (t.map tln)),.val (.int ((1+g)*s)),.no,.no,.no,.no])) ?_ rfl zbY
  have ls:zc8 (zac (eC (.int 1)) (zac (e2 zew (eC (.int 10)) (eC (.int 30))) zal)) [.ow true d2,.val (.list (t.map tln)),.val (.int ((1+g)*s)),.no,.no,.no,.no]=.ok (.list [.int 1,.int (10^30)],[.ow true d2,.val (.list (t.map tln)),.val (.int ((1+g)*s)),.no,.no,.no,.no]):=by
   simp only [zc8,zac,zal,FL.e2,eC,zaa,P30,List.length_cons,List.length_nil,Nat.reduceAdd,zah l2]
  exact zie (ρ1:=[.ow true d2,.val (.list (t.map tln)),.val (.int ((1+g)*s)),.no,.no,.no,.no]) (a:=.int ((1+g)*s)) (b:=.int (1+u)) rfl (zgW (a:=.int 1) (b:=.int u) rfl (zo7 (p:=true) (d:=d3) (v:=.int m) (p0:=true) (d0:=d2) (ρ1:=[.ow true d3,.val (.list (t.map tln)),.val (.int ((1+g)*s)),.no,.no,.no,.no]) rfl (zgW ls (zcX (p:=true) (d:=d2) (v:=.int 2) rfl rfl t3) hy) rfl t4) rfl) lw
 have s3:zdw 4 (zc8 (zac (zb3 (zac (zb3 (zac (eC (.int 0)) (zac (eC (.int 0)) (zac (eC (.int 0)) (zac (eC (.int 0)) (zac (eC (.int 0)) zal)))))) (zac (eV 3) zal))) zal)) [.ow true d4,.val (.list (t.map tln)),.val (.int ((1+g)*s)),.val (num q),.no,.no,.no]=.ok (.nx,[.ow true d4,.val (.list (t.map tln)),.val (.int ((1+g)*s)),.val (num q),.ow false (.list ([(Z5,q)].map tln)),.no,.no]):=rfl
 obtain⟨y5,y6,s4⟩:=zlB d4 .none (.int ((1+g)*s)) (num q) (q:=q) (t:=t) hl
 have fl:=List.length_filter_le (fun p:List Int×Rat=>!decide (p.1=Z5)) t
 have ngr:Nk ((Z5,q)::t.filter fun p=>!decide (p.1=Z5)):=by
  have:=zmG (fun p=>!decide (p.1=Z5)) nk
  unfold Nk at this ⊢
  rw [List.map_cons,List.nodup_cons]
  refine⟨fun z=>?_,this⟩
  obtain⟨p,hp,ep⟩:=List.mem_map.mp z
  have:=(List.mem_filter.mp hp).2
  simp at this
  exact this ep
 have tg:∀ p∈(Z5,q)::t.filter fun p=>!decide (p.1=Z5),TB p:=fun p hp=>by
  rcases List.mem_cons.mp hp with rfl|hp
  ·exact⟨zve,nq⟩
  ·exact h p (List.mem_filter.mp hp).1
 generalize hG:((Z5,q)::t.filter fun p=>!decide (p.1=Z5))=G at s4 ngr tg
 have gl:G.length<=61:=by rw [<- hG,List.length_cons];omega
 have so:=zk7 ngr (by omega)
 have sl:(zbq G).length=G.length:=(zaF G).length_eq
 have x1:=sum_text (l:=zbq G) (fun p hp=>tg p ((zaF G).mem_iff.mp hp)) (by omega)
 have x2:=ziL (l:=zbq G) (fun p hp=>tg p ((zaF G).mem_iff.mp hp)) (by omega)
 have s5:zgy 4 (zdw 4 (FL.e1 (zfH zax) (eV 4))) [.ow true d4,.val (.list (t.map tln)),.val (.int ((1+g)*s)),.val (num q),.ow false (.list (G.map tln)),y5,y6]=.ok (.nx,[.ow true d4,.val (.list (t.map tln)),.val (.int ((1+g)*s)),.val (num q),.ow false (.list ((zbq G).map tln)),y5,y6]):=by
  show zdw 4 (FL.e1 (zfH zax) (eV 4)) [.ow true d4,.val (.list (t.map tln)),.val (.int ((1+g)*s)),.val (num q),.val (.list (G.map tln)),y5,y6]=_
  refine zhK (i:=4) (y:=(.list ((zbq G).map tln),[.ow true d4,.val (.list (t.map tln)),.val (.int ((1+g)*s)),.val (num q),.val (.list (G.map tln)),y5,y6])) ?_ rfl (zaP _)
  simp only [FL.e1,eV,zaa,zz0,zz1,so]
 have eq:=eq_self (zkZ (zbq G)).pl
 have s6:zgy 4 (zaw (e2 eqD (zai zbo (zac (eV 4) zal)) (zai zaS (zac (eV 4) zal)))) [.ow true d4,.val (.list (t.map tln)),.val (.int ((1+g)*s)),.val (num q),.ow false (.list ((zbq G).map tln)),y5,y6]=.ok (.rt (.bool true),[.ow true d4,.val (.list (t.map tln)),.val (.int ((1+g)*s)),.val (num q),.val (.list ((zbq G).map tln)),y5,y6]):=by
  show zaw _ [.ow true d4,.val (.list (t.map tln)),.val (.int ((1+g)*s)),.val (num q),.val (.list ((zbq G).map tln)),y5,y6]=_
  simp only [zaw,FL.e2,zai,zac,zal,eV,zaa,zz0,zz1,x1,x2,eq]
 refine⟨d4,?_,p4⟩
 show((za8 [.ow true d,.val (.list (t.map tln)),.no,.no,.no,.no,.no]).bind _)=_
 unfold za8
 rw [zan s1,zan s2,zan s3,zan s4,zan s5,s6]
 rfl
end K79
namespace K79
open PySem FL TX
theorem zom:zcF=zik:=rfl
theorem zuL:zen=ztK:=rfl
theorem zrc{F:List D->R (D×List D)}{i:Nat}{f:EF}{ρ:En}{p:Bool}{d v r d' v':D}(hi:ρ[i]?=some (.ow p d))(hf:f ρ=.ok (v,ρ))(hF:F [v,d]=.ok (r,[v',d'])):zam F [.v f,.m i] ρ=.ok (r,ρ.set i (.ow p d')):=by
 have hm:zau ρ i=.ok d:=by unfold zau;rw [hi]
 unfold zam
 simp only [zgA,hm,hf,zaa,zfq,hF]
 have:=zgi (d:=d) (d':=d') (p:=p) ρ 0 i hi
 rw [Nat.zero_add] at this
 show R.ok (r,bkL [(i,.ow true d')] 0 ρ)=_
 rw [this]
theorem zpZ{f:EF}{ρ ρ1:En}(h:f ρ=.ok (.bool true,ρ1)):FL.zbV (tE f) ρ=.ok (false,ρ1):=by
 unfold FL.zbV tE
 rw [h];rfl
theorem zrL{f:EF}{ρ ρ1:En}{b:Bool}(h:f ρ=.ok (.bool b,ρ1)):tB f ρ=.ok (b,ρ1):=by
 unfold tB
 rw [h];rfl
theorem zrH{a b:TF}{ρ ρ1 ρ2:En}(h:a ρ=.ok (false,ρ1))(k:b ρ1=.ok (false,ρ2)):FL.tOr a b ρ=.ok (false,ρ2):=by
 unfold FL.tOr
 rw [h]
 exact k
theorem zp1{a b:TF}{ρ ρ1 ρ2:En}(h:a ρ=.ok (true,ρ1))(k:b ρ1=.ok (false,ρ2)):FL.ze1 a b ρ=.ok (false,ρ2):=by
 unfold FL.ze1
 rw [h]
 exact k
theorem zp2{a b:TF}{ρ ρ1:En}(h:a ρ=.ok (false,ρ1)):FL.ze1 a b ρ=.ok (false,ρ1):=by
 unfold FL.ze1
 rw [h]
 rfl
theorem zmb{t:TF}{a:SF}{ρ ρ1:En}(h:t ρ=.ok (false,ρ1)):sIf t a sNx ρ=.ok (.nx,ρ1):=by
 unfold sIf
 rw [h]
 rfl
theorem zo8{F:List D->R D}{f:EF}{ρ ρ1:En}{a c:D}(hf:f ρ=.ok (a,ρ1))(hg:F [a]=.ok c):zai F (zac f zal) ρ=.ok (c,ρ1):=by
 simp only [zai,zac,zal,hf,zaa,hg]
theorem zid{F:List D->R D}{f h g:EF}{ρ ρ1 ρ2 ρ3:En}{a b e c:D}(hf:f ρ=.ok (a,ρ1))(hh:h ρ1=.ok (b,ρ2))(he:g ρ2=.ok (e,ρ3))(hg:F [a,b,e]=.ok c):zai F (zac f (zac h (zac g zal))) ρ=.ok (c,ρ3):=by
 simp only [zai,zac,zal,hf,hh,he,zaa,hg]
theorem zjo{c:Int}(hc:c<=6){t l:Sm}(ha:Asc t)(pm:l.Perm t)(h:∀ p∈t,RT c p)(hl:t.length<=9):zaW [.list (t.map tln),.int c,.str (zb9 l)]=.ok (.bool true):=by
 have le:=pm.length_eq
 have nk:Nk l:=by
  have:=zkY ha
  unfold Nk at this ⊢
  exact(pm.map _).nodup_iff.mpr this
 have rs:=read_sum hc nk (fun p hp=>h p (pm.mem_iff.mp hp)) (by omega)
 rw [znW ha pm] at rs
 exact zoI (by omega) rs
theorem zpS(ns:List Int)(k:Int)(k0:0<=k)(k1:k<=100){y2 y3 y4 y5 y6:Sl}(h2:Np y2)(h3:Np y3)(h4:Np y4)(h5:Np y5)(h6:Np y6) :
  ∃ z2 z3 z4 z5 z6,Np z2/\Np z3/\Np z4/\Np z5/\Np z6/\zfF [.val (.list (ns.map PyData.int)),.val (.int k),y2,y3,y4,y5,y6]=.ok (.nx,[.val (.list (ns.map PyData.int)),.val (.int k),z2,z3,z4,z5,z6]):=by
 obtain⟨a,ea⟩:=zuK ns k k0 (by omega)
 obtain⟨d0,ep,p0⟩:=zol a (50+k) (by omega)
 rw [<- zuL] at ea
 rw [<- zom] at ep
 obtain⟨g,d1,t1,g0,g1,p1⟩:=zgD p0 (by omega) 6 (by decide) (by decide)
 obtain⟨s,d2,ts,dz,p2⟩:=zqT p1 (by omega) (c:=1+g) (by omega) (by omega)
 generalize hS:ns.map PyData.int=S at *
 have ha:=zfJ dz.nk
 have hpm:=zaF s
 generalize zbq s=t at ts ha hpm
 have tl:t.length<=9:=by rw [hpm.length_eq];exact dz.ln
 have rt:∀ p∈t,RT (1+g) p:=fun p hp=>dz.rt p (hpm.mem_iff.mp hp)
 have tb:∀ p∈t,TB p:=fun p hp=>(rt p hp).tb (by omega)
 have x1:=sum_text tb (by omega)
 have x2:=ziL tb (by omega)
 obtain⟨d3,tg,p3⟩:=zlA p2 (by omega) (zkY ha) tb (by omega)
 have w1:=zjo (c:=1+g) (by omega) ha (List.Perm.refl t) rt tl
 have s1:zdw 2 (zai zcF (zac (zai zen (zac (eV 0) (zac (eV 1) zal))) (zac (e2 zbk (eC (.int 50)) (eV 1)) zal))) [.val (.list S),.val (.int k),y2,y3,y4,y5,y6]=.ok (.nx,[.val (.list S),.val (.int k),.ow false d0,y3,y4,y5,y6]) :=
  zhK (i:=2) (y:=(d0,[.val (.list S),.val (.int k),y2,y3,y4,y5,y6])) (zie (zie rfl rfl ea) (zgW (a:=.int 50) (b:=.int k) rfl rfl rfl) ep) rfl h2
 have s2:zba (gN 3) (e2 zbk (eC (.int 1)) (zam zag [.m 2,.v (eC (.int 6))])) [.val (.list S),.val (.int k),.ow false d0,y3,y4,y5,y6]=.ok (.nx,[.val (.list S),.val (.int k),.ow false d1,.val (.int (1+g)),y4,y5,y6]) :=
  zcP (y:=(.int (1+g),[.val (.list S),.val (.int k),.ow false d1,y3,y4,y5,y6])) (zgW (a:=.int 1) (b:=.int g) rfl (zcX (p:=false) (d:=d0) (v:=.int 6) rfl rfl t1) rfl) rfl h3
 have s3:zba (gN 4) (zam zdI [.m 2,.v (eV 3),.v (eC (.int 9))]) [.val (.list S),.val (.int k),.ow false d1,.val (.int (1+g)),y4,y5,y6]=.ok (.nx,[.val (.list S),.val (.int k),.ow false d2,.val (.int (1+g)),.val (.list (t.map tln)),y5,y6]) :=
  zcP (y:=(.list (t.map tln),[.val (.list S),.val (.int k),.ow false d2,.val (.int (1+g)),y4,y5,y6])) (zrd (p:=false) (d:=d1) rfl rfl rfl ts) rfl h4
 have s4:zba (gN 5) (FL.e1 zeB (eV 4)) [.val (.list S),.val (.int k),.ow false d2,.val (.int (1+g)),.val (.list (t.map tln)),y5,y6]=.ok (.nx,[.val (.list S),.val (.int k),.ow false d2,.val (.int (1+g)),.val (.list (t.map tln)),.val (.list (t.map tln)),y6]) :=
  zcP (y:=(.list (t.map tln),[.val (.list S),.val (.int k),.ow false d2,.val (.int (1+g)),.val (.list (t.map tln)),y5,y6])) rfl rfl h5
 have s5:zba (gN 6) (zai zbo (zac (eV 5) zal)) [.val (.list S),.val (.int k),.ow false d2,.val (.int (1+g)),.val (.list (t.map tln)),.val (.list (t.map tln)),y6]=.ok (.nx,[.val (.list S),.val (.int k),.ow false d2,.val (.int (1+g)),.val (.list (t.map tln)),.val (.list (t.map tln)),.val (.str (zb9 t))]) :=
  zcP (y:=(.str (zb9 t),[.val (.list S),.val (.int k),.ow false d2,.val (.int (1+g)),.val (.list (t.map tln)),.val (.list (t.map tln)),y6])) (zo8 rfl x1) rfl h6
 have is':zcq "str" (.str (zb9 t))=.ok (.bool true):=rfl
 have ne1:=ne_self (zkZ t).pl
 have ne2:=ne_self (ze5 t)
 have s6:sIf (FL.tOr (FL.zbV (tE (FL.e1 (zcq "str") (eV 6)))) (FL.tOr (tB (e2 neD (eV 6) (zai zaS (zac (eV 4) zal)))) (FL.tOr (tB (e2 neD (eV 5) (eV 4))) (tB (e2 neD (zai zbo (zac (eV 5) zal)) (eV 6)))))) (zaw (eC (.bool false))) sNx [.val (.list S),.val (.int k),.ow false d2,.val (.int (1+g)),.val (.list (t.map tln)),.val (.list (t.map tln)),.val (.str (zb9 t))]=.ok (.nx,[.val (.list S),.val (.int k),.ow false d2,.val (.int (1+g)),.val (.list (t.map tln)),.val (.list (t.map tln)),.val (.str (zb9 t))]):=by
  simp only [sIf,FL.tOr,FL.zbV,tE,tB,FL.e1,FL.e2,zai,zac,zal,eV,eC,sNx,zaa,zz0,zz1,is',x1,x2,ne1,ne2,zep,Bool.not_true,Bool.false_eq_true,if_false]
 have s7:sIf (FL.tOr (FL.zbV (tE (zam za9 [.m 2,.v (eV 4)]))) (FL.zbV (tE (zai zaW (zac (eV 4) (zac (eV 3) (zac (eV 6) zal))))))) (zaw (eC (.bool false))) sNx [.val (.list S),.val (.int k),.ow false d2,.val (.int (1+g)),.val (.list (t.map tln)),.val (.list (t.map tln)),.val (.str (zb9 t))]=.ok (.nx,[.val (.list S),.val (.int k),.ow false d3,.val (.int (1+g)),.val (.list (t.map tln)),.val (.list (t.map tln)),.val (.str (zb9 t))]) :=
  zmb (zrH (ρ1:=[.val (.list S),.val (.int k),.ow false d3,.val (.int (1+g)),.val (.list (t.map tln)),.val (.list (t.map tln)),.val (.str (zb9 t))]) (zpZ (zcX (p:=false) (d:=d2) (v:=.list (t.map tln)) rfl rfl tg)) (zpZ (zid rfl rfl rfl w1)))
 have l0:zc8 zal [.val (.list S),.val (.int k),.ow false d3,.val (.int (1+g)),.val (.list (t.map tln)),.val (.list (t.map tln)),.val (.str (zb9 t))]=.ok (.list [],[.val (.list S),.val (.int k),.ow false d3,.val (.int (1+g)),.val (.list (t.map tln)),.val (.list (t.map tln)),.val (.str (zb9 t))]):=rfl
 have s8:∃ d4,sIf (FL.ze1 (tB (e2 neD (eV 4) (zc8 zal))) (FL.zbV (tE (zai zaW (zac (eV 4) (zac (eV 3) (zac (zam zbD [.v (eV 4),.m 2]) zal))))))) (zaw (eC (.bool false))) sNx [.val (.list S),.val (.int k),.ow false d3,.val (.int (1+g)),.val (.list (t.map tln)),.val (.list (t.map tln)),.val (.str (zb9 t))]=.ok (.nx,[.val (.list S),.val (.int k),.ow false d4,.val (.int (1+g)),.val (.list (t.map tln)),.val (.list (t.map tln)),.val (.str (zb9 t))]):=by
  by_cases c:t=[]
  ·subst c
   exact⟨d3,zmb (zp2 (zrL (zgW rfl l0 (ne_self (ze5 []))))) ⟩
  ·obtain⟨l,d4,tm,pm,p4⟩:=zoG p3 (by omega) tb c (by omega)
   have w2:=zjo (c:=1+g) (by omega) ha pm rt tl
   have nn:neD (.list (t.map tln)) (.list [])=.ok (.bool true):=by
    refine(zha (ze5 t) (ze5 [])).trans ?_
    cases t with
    | nil=>exact absurd rfl c
    | cons p r=>rfl
   exact⟨d4,zmb (zp1 (zrL (zgW rfl l0 nn)) (zpZ (zid rfl rfl (zrc (p:=false) (d:=d3) (v:=.list (t.map tln)) rfl rfl tm) w2)))⟩
 obtain⟨d4,s8⟩:=s8
 refine⟨_,_,_,_,_,zuh d4,zaP (.int (1+g)),zaP (.list (t.map tln)),zaP (.list (t.map tln)),zaP (.str (zb9 t)),?_⟩
 unfold zfF
 rw [zan s1,zan s2,zan s3,zan s4,zan s5,zan s6,zan s7,s8]
theorem zoJ(ns:List Int)(hl:ns.length<=63):znH [.list (ns.map PyData.int)]=.ok (.bool true):=by
 have L:=zef (f:=fun i:Int=>PyData.int i) (g:=gN 1) (b:=zfF)
  (fun done ρ=>∃ y1 y2 y3 y4 y5 y6,Np y1/\Np y2/\Np y3/\Np y4/\Np y5/\Np y6/\ρ=[.val (.list (ns.map PyData.int)),y1,y2,y3,y4,y5,y6])
  ((List.range (8:Int).toNat).map fun(i:Nat)=>(0:Int)+(i:Int)) [] [.val (.list (ns.map PyData.int)),.no,.no,.no,.no,.no,.no] ⟨.no,.no,.no,.no,.no,.no,zbY,zbY,zbY,zbY,zbY,zbY,rfl⟩ (by
   intro pre i post ρ e hP
   obtain⟨y1,y2,y3,y4,y5,y6,h1,h2,h3,h4,h5,h6,rfl⟩:=hP
   rw [List.nil_append] at e
   have mi:i∈(List.range (8:Int).toNat).map fun(i:Nat)=>(0:Int)+(i:Int):=by rw [e];simp
   obtain⟨j,hj,rfl⟩:=List.mem_map.mp mi
   have:=List.mem_range.mp hj
   have gx:gN 1 (.int ((0:Int)+(j:Int))) [.val (.list (ns.map PyData.int)),y1,y2,y3,y4,y5,y6]=.ok [.val (.list (ns.map PyData.int)),.val (.int ((0:Int)+(j:Int))),y2,y3,y4,y5,y6]:=zf9 rfl h1
   obtain⟨z2,z3,z4,z5,z6,m2,m3,m4,m5,m6,et⟩:=zpS ns ((0:Int)+(j:Int)) (by omega) (by omega) h2 h3 h4 h5 h6
   exact⟨_,.nx,by rw [gx,zaa];exact et,.inl rfl,_,z2,z3,z4,z5,z6,zaP _,m2,m3,m4,m5,m6,rfl⟩)
 obtain⟨ρ',e,y1,y2,y3,y4,y5,y6,_,_,_,_,_,_,rfl⟩:=L
 have hr:zcG [.int 8]=.ok (rng 0 8):=zet (by decide) (by decide)
 have s1:zhC [.val (.list (ns.map PyData.int)),.no,.no,.no,.no,.no,.no]=.ok (.nx,[.val (.list (ns.map PyData.int)),y1,y2,y3,y4,y5,y6]):=by
  unfold zhC zgz
  have hi:iR1 (zac (eC (.int 8)) zal) [.val (.list (ns.map PyData.int)),.no,.no,.no,.no,.no,.no]=.ok (rng 0 8,[.val (.list (ns.map PyData.int)),.no,.no,.no,.no,.no,.no]):=by
   simp only [iR1,zac,zal,eC,zaa,hr]
  rw [hi,zaa,zju,Int.sub_zero]
  exact e
 have w0:=zjo (c:=1) (by decide) (t:=[]) (l:=[]) List.Pairwise.nil (List.Perm.refl _) (fun p hp=>by simp at hp) (by simp)
 have l0:leB 0 lim=true:=by decide
 refine zaU (ρ:=[.val (.list (ns.map PyData.int)),y1,y2,y3,y4,y5,y6]) rfl ?_
 show zpa [.val (.list (ns.map PyData.int)),.no,.no,.no,.no,.no,.no]=_
 unfold zpa
 rw [zan s1]
 have cl:zai zaW (zac (zc8 zal) (zac (eC (.int 1)) (zac (eC (.str (Str.ofString "0"))) zal))) [.val (.list (ns.map PyData.int)),y1,y2,y3,y4,y5,y6]=.ok (.bool true,[.val (.list (ns.map PyData.int)),y1,y2,y3,y4,y5,y6]):=zid (a:=.list []) (b:=.int 1) (e:=.str (Str.ofString "0")) rfl rfl rfl w0
 unfold zaw
 refine(congrArg (fun z:R (D×En)=>z.bind _) cl).trans ?_
 rfl
end K79
open PySem PySem.W PyProof.Rows
theorem PySem.W.Fast.tw14292227287765406658 : True := trivial
theorem PySem.W.Fast.tw14355997413481753731 : True := trivial
theorem PySem.W.Fast.tw11803878625898391171 : True := trivial
theorem PySem.W.Fast.tw1855795415889740516 : True := trivial
theorem PySem.W.Fast.tw5481860584693412870 : True := trivial
theorem PySem.W.Fast.tw14262166399752057990 : True := trivial
theorem PySem.W.Fast.tw7737580236347303803 : True := trivial
theorem PySem.W.Fast.tw16447238427930737404 : True := trivial
theorem PySem.W.Fast.tw16558169260964174302 : True := trivial
set_option maxRecDepth 100000 in
set_option maxHeartbeats 0 in
theorem PySem.Challenge.cw_swaprest_k79_sum_texts_holds : PySem.Challenge.rw_swaprest_k79_sum_texts.Holds := by
 w_on; o_law; k_head; (case hw => w_witness2)
 k_fill
 refine K79.walk (l:=PySem.Challenge.rw_swaprest_k79_sum_texts) K79.zoJ rfl rfl (by decide +kernel) rfl (fun w h Y => PySem.W.kIn_of Y) ?F
 case F =>
  intro w mg fa h KX G hmg
  refine' K79.all_mk KX G hmg ?oo0 ?oo1 ?oo2 ?oo3 ?oo4 ?oo5 ?oo6 ?oo7 ?oo8 ?oo9 ?oo10 ?oo11 ?oo12 ?oo13 ?oo14 ?oo15 ?oo16 ?oo17 ?oo18 ?oo19 ?oo20 ?oo21 ?oo22 ?oo23 ?oo24 ?oo25 ?oo26 ?oo27 ?oo28 ?oo29 ?oo30 ?oo31 ?oo32 ?oo33 ?oo34 ?oo35 ?oo36 ?oo37 ?oo38 ?oo39 ?oo40 ?oo41 ?oo42 ?oo43 ?oo44 ?oo45 ?oo46 ?oo47 ?oo48 ?oo49 ?oo50 ?oo51 ?oo52 ?oo53 ?oo54
  (case oo0 | oo1 | oo2 | oo3 | oo4 | oo5 | oo6 | oo7 | oo8 | oo9 | oo10 | oo11 | oo12 | oo13 | oo14 | oo15 | oo16 | oo17 | oo18 | oo19 | oo20 | oo21 | oo22 | oo23 | oo24 | oo25 | oo26 | oo27 | oo28 | oo29 => refine' FL.zs4 KX G ?Zq ?Zl ?Zc ?Zk; (case Zq => k_is); (case Zl => k_is); (case Zc => k_is); (case Zk => k_is))
  (case oo30 | oo31 | oo32 | oo33 | oo34 | oo35 | oo36 | oo37 | oo38 | oo39 | oo40 | oo41 | oo42 | oo43 | oo44 | oo45 | oo46 | oo47 | oo48 | oo49 | oo50 | oo51 | oo52 | oo53 | oo54 => k_is)
