import PyProof.Rows.All
import Wide.All
import OpenK.AllK
import Wide.FinOn
import Lean
import PyProof.EqAt
import PyProof.EqKinds
import PyProof.TupleCall
import PyProof.EqLayable
import PyProof.StationsW
import PyProof.NsDelKeeps
import PyProof.ExcArgsOwn
import PyProof.ExcAttrAll.ValueError
import PyProof.ZipIter
import PyProof.EnumFor
import PyProof.EnumStmt
import PyProof.EnumMake
import PyProof.ConsumeWalk
import PyProof.Cells
import PyProof.CompUse
import PyProof.DictIter
import PyProof.DictWalks
import PyProof.CollectWalk
import PyProof.WalksS
import PyProof.P3Statements
import PyProof.DictRoadsH
import KE.KSortTup
import PyProof.P3In
import KE.KRevSl
import PyProof.ReprReads
import KE.KMinKey
import PyProof.ReprRoads
import PyProof.Conv_int_bool
import PyProof.AutoListH
import PyProof.StrCalls
import PyProof.StrCalls2
import PyProof.MeetsStr
import PyProof.StrBlock
import PyProof.FString
import PyProof.StrBlockI
import KE.KIntText
import PyProof.StrWalks
import PyProof.InstStoreFacts
import PyProof.TupleIter
import PyProof.AttrMissHeap
import PySem.Challenge.RW_swaprest_k09_what_is_no_table
set_option Elab.async false
set_option linter.all false
set_option maxRecDepth 100000
set_option maxHeartbeats 4000000
open PySem renaming Addr→dm,Value→gV,Str→ib,Shared→ir,wpAny_bind→lb,Expr→o1,starEach→pd,wpAny→xS,model→xT,Obj→xU,Heap→xV,Pos→xW,wpAny_pure→xX,eval→xZ,World→x5,Program→x6,Stmt→x8,Around→ya,sizeLine→yb,mainGlobals→yc,Spec→yd,Env→ye,compareOp→yj,PyData→yk,backTo→yp,FuncData→yq,wpAny_mono→yA,bootBuiltins→yJ,Tok→yS,Scope→yT,swapsWith→yV,cLine→yW,sizeLine_eq→zf,CmpOp→zx,binaryOp→zA,wpAny_holding→zC,NameKind→zD,Builtin→zJ,behindInMarks→zO,DictEntry→zT,assignEach→zX,rawInt→zY,wpAny_newObj_type→Ah,cellsFrom→Aj,Paired→Ap,codeAny→Aw,bindArgs→Ax,mem_of_lookup→Ay,IsPart→AD,sysModules→AI,Model→AJ,assign→AK,foldedSetIterable→AO,getItem→AU,atKey→AX,wpAny_truthy_bool→Bc,ExcBaseFacts→Bg,holding→Bo,wpAny_standAt→Bp,PassesOwn→Bq,wpAny_passesOwn→Br,pyNext→Bs,wpAny_field→By,wpAny_call_entry→Bz,sliceBounds→BC,callerA→BF,excClassObj→BH,relabel→BK,wpAny_execs_nil→BW,swapsWithSole→BX,swappedStores→BZ,attributeBase→B6,BindsTo→B7,wpAny_loadPart'→B8,wpAny_typeOf→Cb,Keyword→Cd,notedBy→Cg,tupleKind→Cr,bindName→Cu,wpAny_loadPart→Cy,codeAny_mono→CA,noteFrame→CF,wpAny_setField→CG,wpAny_loadPart_at→CU,wpAny_eqBool_int→CW,builtinsNs→CZ,wpAny_rule→C0,letOwnedTupleGo→C1,wpAny_call→C6,wpAny_Call_Name_kw→C7,concat_meets→C8,wpAny_callSpecial?_slot→Dd,call_meets→Dh,isInstance→Dm,wpAny_typeNameOfWhole_keyiter→Dy,wpAny_typeNameOf_keyiter→Dz,Within→DK,wpAny_execs_cons→DQ,assignInOrder→DR,recursionLimit→DZ,noFill_tuple_add→D3,seq_tuple_add→D4,call→Ee,codeAny_call_builtin→Ej,tupleKind_room_in1→Eo,wpAny_dictEntries→Eu,wpAny_dictEpoch→Ew,wpAny_newList→EB,plainObj_wpAny_Assign_Attribute→E5
open PySem.W renaming Frag→kb,kitOne→x4,nsIn→yf,mg_of→yz,findIn→yD,fnOf→zh,mg_none_of→zj,clsIn→zk,excIn→zv,subIn→zB,keepIn→Ai,InstAt→Av,codeIn→Az,emptyDict→AQ,Looks→AW,instObj→A9,looks_findIn→Bu,isFn→Bv,kia_one→BG,kas_rev→BO,hasDictIn→B4,typeIn→B5,mroIn→Cj,tailIn→Cm,nsOkIn→Cp,lookIn→C3,notCls→Dq,methodObj→DL,plainOver→DU,takerIn→DV,any_some→DW,looks_clsIn→DX,makesIn→DY,looks_subIn→Ei,OpenLaw→Ey,set_plain→EY,handedIn→E1,plainGet→E2,callWith_K→E6,cellsFrom_some→E7,isNs_of_in→Fh,tail_of_in→Fi,handed_on→Fm
open List renaming replicate→xY,length_cons→yg,map_cons→yi,lookup_cons→ym,length_map→yn,mem_cons→yr,getElem?_eq_some_iff→yu,size_toArray→yv,length_nil→yB,getElem?_eq_getElem→yC,getElem?_set_self→yH,mem_cons_of_mem→yK,getElem?_set_ne→yL,mem_cons_self→yM,getElem?_map→yO,nil_append→yR,cons_append→yX,zipWith→zb,mem_of_getElem?→zg,set_cons_succ→zi,set_cons_zero→zm,getElem?_append_left→zt,zip_cons_cons→zu,length_append→zH,mem_map→zM,range→zN,append_nil→zP,length_take→zQ,map_nil→zR,map_map→zV,mem_append_right→zZ,nodup_cons→z0,getElem?_append_right→z8,getElem?_replicate→z9,length_set→Aa,drop_zero→Ad,map_append→Ae,all_eq_true→An,toArray→Ao,mem_append→Au,zip_nil_left→AA,zip_nil_right→AB,lookup→AR,getD_eq_getElem?_getD→AY,mem_map_of_mem→AZ,head?_cons→A0,tail_cons→A1,lookup_nil→A2,drop_succ_cons→A5,filterMap_cons→Bb,find?_cons→Bh,mem_append_left→Bm,length→Bw,length_replicate→Bx,replicate_succ→BD,not_mem_nil→BI,mem_singleton→BJ,mem_filter→BU,map_take→Cq,of_mem_zip→CB,flatten_cons→CD,pairwise_cons→CQ,length_drop→Dc,all_cons→Dg,getD→Dr,length_range→Dx,ext_getElem?→DF,pairwise_map→DJ,mem_range→DM,getElem_inj→DN,mem_filterMap→DT,getElem?_take_of_lt→D1,append_assoc→Ec,length_singleton→Ed,take_of_length_le→Eg,any_cons→Em,drop_eq_getElem_cons→Es,drop_length→Et,pairwise_iff_getElem→Ex,zipIdx_cons→EG,nodup_append→EH,mem_of_mem_take→EK,map_set→EL,getElem_of_mem→Fo,getElem?_eq_none→Fw,countP_cons_of_neg→FA,toList_toArray→FN,length_zipWith→FO,eq_of_mem_replicate→FP,filter_cons_of_neg→FT,filter_cons_of_pos→FU,mem_zipIdx_iff_getElem?→FW
open Nat renaming le_refl→x9,le_trans→yx,ne_of_lt→yI,reduceAdd→yP,lt_of_lt_of_le→zc,zero_le→zr,sub_self→zW,reduceSub→AH,le_of_lt→Ba,lt_irrefl→Bl,ne_of_gt→B3,zero_add→Ck,le_of_eq→Cz,le_of_succ_le→CJ,gcd→CK,lt_succ_self→C4,not_lt→Ds,lt_of_le_of_lt→Ef,lt_succ_of_lt→El,min_self→EA,sub_zero→ED,min_eq_left→EJ,add_sub_cancel_left→Fy
open PySem.Heap renaming get?_push_of_some→yh,lt_size→yo,get?_push_size→yY,get?_none_of_le→Ag,size_push→Bf,get?_update_other→BA,SameBut→Ct,get?_update_self→CC,MadeExcOf→EC,get?_update_ne→FR
open PySem.Value renaming ref→yt,none→yF,bool→Af,int→A8,str→BQ,type→BR,builtin→CI,notImplemented→Fb
open Bool renaming and_eq_true→yw,false_eq_true→yG,false_ne_true→zy,not_true→zL,not_false→AG,and_false→BP,false_and→Cw,not_eq_true'→Dl,or_eq_true→Dt,true_and→EI
open PySem.PyData renaming int→yy,bool→zo,list→zG,eqv→Am,none→Bj,canLay0→CM,eqvAll→CV,canLayAll0→Dw,tuple→DI
open Option.some renaming inj→yN,injEq→zF
open PyProof.Rows renaming envOfC→yQ,seqObj→zq,IntsAre→zI,IsTup→Aq,AllBare→As,slot_tuple_getitem→B9,listUpdate_at→CP,callWith_type1→C2,get?_update_seq→DE,assignInOrder_cons→DS,subscriptTail→D9
open Ne renaming symm→yU
open PySem.Obj renaming mapSeq→yZ,data_mapFields→CH,mapFields→Dk,isFreed_of_fields→Eh
open False renaming elim→za
open Int renaming gcd→zl,natAbs_ediv_le_natAbs→Dv,toNat_natCast→DA,fmod_nonneg_of_pos→DH,toNat_of_nonneg→Er,fmod_lt_of_pos→EE
open PySem.NameKind renaming cell→zE,free→AV
open PySem.SeqAt renaming shaped→zK,canLay_of_shaped→Bi,EqAt→D2
open Option renaming map_some→zS,bind_eq_some_iff→zU,map_eq_some_iff→Ac,getD_none→Ak,getD_some→A6,isSome_iff_exists→E8,isSome_some→Fp,isSome_map→Fq
open Or renaming inr→Ab,inl→Al
open Sum renaming inl→A7,inr→Bk
open True renaming intro→Be
open Iff renaming rfl→BL
open PySem.Heap.SameBut renaming update→BM
open Array renaming length_toList→BV,getElem?_eq_some_iff→Dj,getD→DB,perm_iff_toList_perm→DC,getElem?_eq_getElem→Ek,find?_toList→EX
open ForInStep renaming yield→Ce
open PySem.F renaming excBase_ValueError→Ci,slot_dict_keyiterator_next→CN,attrBase_ValueError→Dp,slot_tuple_add→D5,entry_tuple_add→D6,args_tuple_add_2→D7,slot_tuple_mul→Ep,excBase_Exception→Fj,slot_tuple_rmul→Fs,slot_int_rmul→Fv,plainAttrs_list→Fx,entry_dict_keyiterator_next→FD,args_dict_keyiterator_next_1→FE
open PyProof.Rows.IsTup renaming new→Cv
open PySem.W.KasT renaming kasWp_bind→CO
open PySem.Paired renaming length→CY
open PySem.Around renaming under→C5,under_plainId→FI
open PySem.Builtin.Slice renaming slicePlaces→C9,sliceAdjust→D8,sliceApplied→Fc
open PySem.Str renaming ofString→De
open PySem.Builtin.Tuple renaming tupleExact→Df,tupleItemsOf→Fd,tupleTooMany→Ft,tupleIsExact→Fu
open PySem.Builtin.Int renaming intBits→Di,intTooBig→Ff
open Rat renaming normalize→Du
open PySem.Code renaming isFrame→D0
open PySem.Calls renaming evalArgs_plain→Ea,Name_function_global→EW,call_function_entry→FQ
open PySem.PassesOwn renaming never→Ez
open PySem.SeqAt.EqAt renaming int_str→ER,str_int→EV,int_int→E9
open PySem.W.Looks renaming here→EZ
open PySem.Heap.Ns1 renaming of_empty→E4
open List.Pairwise renaming nil→Fe
open PySem.EntryCells renaming newEntry→Fg
open PySem.Builtin.Dict renaming showsAll→FC
open PySem.Builtin.Dict_items renaming ownsTuple→FG
open Array.Perm renaming refl→FH
open PySem.Builtin.List renaming listSameRef→FJ,listExtendWith→FK
set_option bootstrap.genMatcherCode false
noncomputable section
namespace L2
open PySem PySem.Spec PyProof.Rows
section
abbrev Key:=Sum Int ib
noncomputable def qF:Key->gV->Bool
 | .inl k,v=>Value.isInt k v
 | .inr x,v=>Value.isStrOf x v
noncomputable def znq(w:x5):Key->Int
 | .inl k=>hashInt k
 | .inr x=>hashStr w x
theorem lW:∀{k:Key} {v:gV},qF k v=true->(∃ i t,k=A7 i/\v=A8 i t)\/(∃ x t,k=Bk x/\v=BQ x t)
 | .inl i,v,h=>by
  obtain⟨t,e⟩:=Value.isInt_shape (k:=i) (v:=v) h
  exact .inl ⟨i,t,rfl,e⟩
 | .inr x,v,h=>by
  obtain⟨t,e⟩:=Value.isStrOf_shape (x:=x) (v:=v) h
  exact .inr ⟨x,t,rfl,e⟩
theorem znr(i:Int)(t:yS):qF (.inl i) (.int i t)=true:=by simp [qF,Value.isInt]
theorem zns(x:ib)(t:yS):qF (.inr x) (.str x t)=true:=by simp [qF,Value.isStrOf]
theorem znt(a b:Int):decide ((A7 a:Key)=A7 b)=(a==b):=by
 by_cases e:a=b
 ·subst e;simp
 ·have h:¬ (A7 a:Key)=A7 b:=fun q=>e (Sum.inl.inj q)
  rw [decide_eq_false h]
  exact(beq_eq_false_iff_ne.mpr e).symm
theorem znw(a b:ib):decide ((Bk a:Key)=Bk b)=decide (a=b):=by
 by_cases e:a=b
 ·subst e;simp
 ·have h:¬ (Bk a:Key)=Bk b:=fun q=>e (Sum.inr.inj q)
  rw [decide_eq_false h,decide_eq_false e]
theorem znu(a:Int)(b:ib):decide ((A7 a:Key)=Bk b)=false:=decide_eq_false (fun q=>nomatch q)
theorem znv(a:ib)(b:Int):decide ((Bk a:Key)=A7 b)=false:=decide_eq_false (fun q=>nomatch q)
noncomputable def jG(prog:x6)(w:x5):PySem.KeyKind prog w Key where
 is:=qF
 hash:=znq w
 inj:=fun v a b ha hb=>by
  rcases lW ha with⟨i,t,rfl,rfl⟩|⟨x,t,rfl,rfl⟩
  ·rcases lW hb with⟨j,u,rfl,e⟩|⟨y,u,rfl,e⟩
   ·injection e with e1 _;rw [e1]
   ·exact nomatch e
  ·rcases lW hb with⟨j,u,rfl,e⟩|⟨y,u,rfl,e⟩
   ·exact nomatch e
   ·injection e with e1 _;rw [e1]
 byValue:=fun k v h=>by
  rcases lW h with⟨i,t,rfl,rfl⟩|⟨x,t,rfl,rfl⟩ <;> rfl
 pyHash:=fun hv h=>by
  rcases lW hv with⟨i,t,rfl,rfl⟩|⟨x,t,rfl,rfl⟩
  ·exact wpAny_pyHash_int h
  ·exact wpAny_pyHash_str h
 eqBool:=fun hu hv h=>by
  rcases lW hu with⟨i,t,rfl,rfl⟩|⟨x,t,rfl,rfl⟩
  ·rcases lW hv with⟨j,u,rfl,rfl⟩|⟨y,u,rfl,rfl⟩
   ·rw [znt] at h;exact CW h
   ·rw [znu] at h;exact ER i t y u _ _ _ _ h
  ·rcases lW hv with⟨j,u,rfl,rfl⟩|⟨y,u,rfl,rfl⟩
   ·rw [znv] at h;exact EV x t j u _ _ _ _ h
   ·rw [znw] at h;exact wpAny_eqBool_str h
 «strs»:=fun k x t v h=>by
  rcases lW h with⟨i,u,rfl,e⟩|⟨y,u,rfl,e⟩
  ·exact nomatch e
  ·injection e with e1 _
   subst e1
   cases v <;> rfl
theorem zpy(prog:x6)(w:x5)(i:Int)(t:yS):(jG prog w).is (.inl i) (.int i t)=true:=znr i t
theorem zpz(prog:x6)(w:x5)(x:ib)(t:yS):(jG prog w).is (.inr x) (.str x t)=true:=zns x t
end
variable {h h':xV}{us:List gV}{H H':Hp}{o o' u:HO}{P:x6}{xs:List V}{a b e x:dm}{ob:xU}{w:x5}
section
inductive V where
 | non|bl(b:Bool)|int(i:Int)|str(x:ib)|byt(b:Array UInt8)|flt(b:UInt64)|ref(a:dm)|ty(n:String)
 deriving DecidableEq
noncomputable def RelV:V->gV->Prop
 | .non,u=>u=yF
 | .bl b,u=>u=Af b
 | .int i,u=>∃ t,u=A8 i t
 | .str x,u=>∃ t,u=BQ x t
 | .byt b,u=>∃ t,u=Value.bytes b t
 | .flt b,u=>∃ t,u=Value.float b t
 | .ref a,u=>u=yt a
 | .ty n,u=>u=BR n
abbrev Vals:List V->List gV->Prop:=Ap RelV
theorem Vals.length(r:Vals xs us):xs.length=us.length:=CY r
theorem Vals.get:∀{xs:List V} {us:List gV} {i:Nat} {x:V},Vals xs us->xs[i]?=some x->∃ u,us[i]?=some u/\RelV x u
 | _,_,_,_,.nil,e=>by simp at e
 | _,_,0,_,.cons r _,e=>by simp at e;subst e;exact⟨_,rfl,r⟩
 | _,_,i+1,x,.cons _ t,e=>by
  obtain⟨u,h1,h2⟩:=Vals.get (i:=i) (x:=x) t (by simpa using e)
  exact⟨u,by simpa using h1,h2⟩
theorem Vals.set{x:V}{u:gV}(r:RelV x u):∀{xs:List V} {us:List gV} (i:Nat),Vals xs us->Vals (xs.set i x) (us.set i u)
 | _,_,_,.nil=>.nil
 | _,_,0,.cons _ t=>.cons r t
 | _,_,i+1,.cons q t=>.cons q (Vals.set r i t)
theorem Vals.append:∀{xs ys:List V} {us ws:List gV},Vals xs us->Vals ys ws->Vals (xs++ys) (us++ws)
 | _,_,_,_,.nil,s=>s
 | _,_,_,_,.cons r t,s=>.cons r (Vals.append t s)
theorem Vals.take:∀{xs:List V} {us:List gV} (n:Nat),Vals xs us->Vals (xs.take n) (us.take n)
 | _,_,0,_=>.nil
 | _,_,_+1,.nil=>.nil
 | _,_,n+1,.cons r t=>.cons r (Vals.take n t)
theorem Vals.drop:∀{xs:List V} {us:List gV} (n:Nat),Vals xs us->Vals (xs.drop n) (us.drop n)
 | _,_,0,r=>r
 | _,_,_+1,.nil=>.nil
 | _,_,n+1,.cons _ t=>Vals.drop n t
noncomputable def iq:Option V->Option gV->Prop
 | some v,some u=>RelV v u
 | none,none=>True
 | _,_=>False
noncomputable def KV{κ:Type}:List (κ×V)->List (κ×gV)->Prop:=Ap fun(p:κ×V) (q:κ×gV)=>p.1=q.1/\RelV p.2 q.2
noncomputable def kV:Key->V
 | .inl i=>.int i
 | .inr x=>.str x
inductive HO where
 /-- a list -/
 | lst(xs:List V)
 /-- a tuple(never changes) -/
 | tup(xs:List V)
 /-- a dict whose keys are ints and texts;one whose keys are tuples of ints and texts(the empty one is both) -/
 | dK(ah:List (Key×V))|dT(ah:List (List Key×V))
 /-- a set of ints: its members,its size -/
 | set (S:Int->Bool) (n:Nat)
 /-- an instance of the class at C,its dict at dx,its attributes -/
 | ins (C dx:dm) (fs:List (ib×V))
 /-- the dict of the instance at x -/
 | own (x:dm)
 /-- the dict of an exception -/
 | xd (fs:List (ib×V))
 /-- a bound method,f of x -/
 | met (f x:dm)
 /-- a range object lo,lo+1,.. below hi -/
 | fj (lo hi:Int)
 /-- a thing that is known to the object (the script;a dict while a loop walks it): read,never written while it is so -/
 | frz (o:xU) (u:HO)
 /-- a code object's table -/
 | tbl (ps:Array gV)
 /-- any other thing,by what is true of its one object (a def of one's own: SetO a S n:=HO.ext fun h=>..) -/
 | ext (φ:xV->Prop)
abbrev Hp:=dm->Option HO
noncomputable def upd(H:Hp)(a:dm)(o:HO):Hp:=fun b=>if b=a then some o else H b
theorem bX:upd H a o a=some o:=by unfold upd;rw [if_pos rfl]
theorem aT(h:b≠a):upd H a o b=H b:=by unfold upd;rw [if_neg h]
theorem zuG:upd (upd H a o) a u=upd H a u:=by
 funext b;unfold upd;split <;> rfl
theorem zgG(h:H a=some o)(h':H b=some u)(d:o≠u):a≠b:=by
 intro e;subst e;rw [h] at h';exact d (yN h')
theorem oX(h:H a=some o)(h':H b=none):a≠b:=by
 intro e;subst e;rw [h] at h';cases h'
def dU(H:Hp)(b:dm)(xs:List V):Prop:=H b=some (.tup xs)\/∃ o,H b=some (.frz o (.tup xs))
theorem dU.upd(q:dU H b xs)(n1:∀ ys,H b=some (.tup ys)->b≠a)(n2:∀ o ys,H b=some (.frz o (.tup ys))->b≠a):dU (upd H a u) b xs:=by
 rcases q with q|⟨o,q⟩
 ·left;rw [aT (n1 _ q)];exact q
 ·right;exact⟨o,by rw [aT (n2 _ _ q)];exact q⟩
section
variable (P:x6)(w:x5)
noncomputable def ck(H:Hp)(h:xV)(a:dm):HO->Prop
 | .lst xs=>xs.length<=yb/\∃(its:List gV) (n:Nat),Vals xs its/\h.get? a=some { cls:=.type "list",data:=.seq its.toArray n }
 | .tup xs=>xs.length<=yb/\∃ its:List gV,Vals xs its/\Aq h a its.toArray
 | .dK ah=>ah.length<=yb/\(a==AI)=false/\∃ vs,KV ah vs/\h.DictOf (jG P w) a vs
 | .dT ah=>ah.length<=yb/\(a==AI)=false/\∃ xs:List (List Key×dm×gV),
   Ap (fun(p:List Key×V) (q:List Key×dm×gV)=>p.1=q.1/\dU H q.2.1 (p.1.map kV)/\RelV p.2 q.2.2) ah xs /\
   ∃ o es ep,h.get? a=some o/\o.ExactDict/\o.data=.dict es ep/\es.toList=xs.map (entryOfKey (Cr (jG P w)))/\(xs.map (·.1)).Nodup
 | .set S n=>h.SetOf (intKind P w) a S n
 | .ins C dx fs=>H dx=some (.own a)/\fs.length<=1000/\dx≠a/\h.get? a=some (A9 C dx) /\
   ∃ mA,h.Ns1 dx mA/\(∀ f,iq (fs.lookup f) (mA f))/\DK mA (fs.map (·.1))
 | .own _=>∃ o,h.get? a=some o
 | .xd fs=>∃ mA,h.Ns1 a mA/\∀ f,iq (fs.lookup f) (mA f)
 | .fj lo hi=>∃ t u v,h.get? a=some { cls:=.type "range",data:=.fields #[.int lo t,.int hi u,.int 1 v] }
 | .frz o u=>h.get? a=some o/\ck H h a u
 | .tbl ps=>h.get? a=some { cls:=.none,data:=.fields ps }
 | .met f x=>h.get? a=some (DL (.ref f) (.ref x))
 | .ext φ=>φ h/\(∃ o,h.get? a=some o)/\∀ h1 h2:xV,φ h1->(∀ o,h1.get? a=some o->h2.get? a=some o)->φ h2
def bY(H:Hp)(h:xV):Prop:=∀ a o,H a=some o->ck P w H h a o
end
section
theorem ck.lt(x:ck P w H h a o):a<h.objs.size:=by
 cases o with
 | lst xs=>obtain⟨_,_,_,_,e⟩:=x;exact yo e
 | tup xs=>obtain⟨_,_,_,p⟩:=x;exact p.lt
 | dK ah=>obtain⟨_,_,_,_,o,_,_,e,_⟩:=x;exact yo e
 | dT ah=>obtain⟨_,_,_,_,o,_,_,e,_⟩:=x;exact yo e
 | set S n=>obtain⟨o,_,_,_,e,_⟩:=x;exact yo e
 | ins C dx fs=>obtain⟨_,_,_,e,_⟩:=x;exact yo e
 | own y=>obtain⟨_,e⟩:=x;exact yo e
 | xd fs=>obtain⟨_,⟨_,_,_,e,_⟩,_⟩:=x;exact yo e
 | fj lo hi=>obtain⟨_,_,_,e⟩:=x;exact yo e
 | frz ob u=>obtain⟨e,_⟩:=x;exact yo e
 | tbl ps=>exact yo (show h.get? a=some _ from x)
 | met f y=>exact yo (show h.get? a=some _ from x)
 | ext φ=>obtain⟨_,⟨_,e⟩,_⟩:=x;exact yo e
theorem Ap.zcx{α β:Type}{F G:α->β->Prop}:∀{l₁:List α} {l₂:List β},Ap F l₁ l₂->(∀ a b,F a b->G a b)->Ap G l₁ l₂
 | _,_,.nil,_=>.nil
 | _,_,.cons r t,f=>.cons (f _ _ r) (Ap.zcx t f)
theorem ck.hV(x:ck P w H h a o)(k:∀ b u,(b=a\/H b=some (.own a))->h.get? b=some u->h'.get? b=some u)
  (ho:∀ b,H b=some (.own a)->H' b=some (.own a))(ht:∀ b xs,dU H b xs->dU H' b xs):ck P w H' h' a o:=by
 induction o with
 | lst xs=>obtain⟨z,its,n,r,e⟩:=x;exact⟨z,its,n,r,k _ _ (.inl rfl) e⟩
 | tup xs=>obtain⟨z,its,r,ob,e,c⟩:=x;exact⟨z,its,r,ob,k _ _ (.inl rfl) e,c⟩
 | dK ah=>obtain⟨z,y,vs,r,ob,es,ep,e,c⟩:=x;exact⟨z,y,vs,r,ob,es,ep,k _ _ (.inl rfl) e,c⟩
 | dT ah =>
  obtain⟨z,y,xs,r,ob,es,ep,e,c⟩:=x
  exact⟨z,y,xs,Ap.zcx r fun p q z=>⟨z.1,ht _ _ z.2.1,z.2.2⟩,ob,es,ep,k _ _ (.inl rfl) e,c⟩
 | set S n=>obtain⟨ob,es,ep,t,e,c⟩:=x;exact⟨ob,es,ep,t,k _ _ (.inl rfl) e,c⟩
 | ins C dx fs =>
  obtain⟨d,z,ne,e,mA,⟨od,es,ep,e2,c⟩,r⟩:=x
  exact⟨ho _ d,z,ne,k _ _ (.inl rfl) e,mA,⟨od,es,ep,k _ _ (.inr d) e2,c⟩,r⟩
 | own y=>obtain⟨ob,e⟩:=x;exact⟨ob,k _ _ (.inl rfl) e⟩
 | xd fs=>obtain⟨mA,⟨od,es,ep,e,c⟩,r⟩:=x;exact⟨mA,⟨od,es,ep,k _ _ (.inl rfl) e,c⟩,r⟩
 | fj lo hi=>obtain⟨t,u,v,e⟩:=x;exact⟨t,u,v,k _ _ (.inl rfl) e⟩
 | frz ob u ih=>obtain⟨e,q⟩:=x;exact⟨k _ _ (.inl rfl) e,ih q⟩
 | tbl ps =>
  have e:h.get? a=some { cls:=.none,data:=.fields ps }:=x
  show h'.get? a=some { cls:=.none,data:=.fields ps }
  exact k a _ (.inl rfl) e
 | met f y =>
  have e:h.get? a=some (DL (.ref f) (.ref y)):=x
  show h'.get? a=some (DL (.ref f) (.ref y))
  exact k a _ (.inl rfl) e
 | ext φ=>obtain⟨p,⟨o,e⟩,st⟩:=x;exact⟨st _ _ p fun o q=>k _ _ (.inl rfl) q,⟨o,k _ _ (.inl rfl) e⟩,st⟩
theorem bY.lt(x:bY P w H h)(e:H a=some o):a<h.objs.size:=(x a o e).lt
theorem bY.fresh(x:bY P w H h)(e:h.objs.size<=a):H a=none:=by
 cases q:H a with
 | none=>rfl
 | some u=>exact absurd (zc (x.lt q) e) (Bl _)
theorem bY.kept(x:bY P w H h)(k:∀ b u,h.get? b=some u->h'.get? b=some u):bY P w H h':=fun a o e =>
 (x a o e).hV (fun b u _ q=>k b u q) (fun _ q=>q) fun _ _ q=>q
theorem bY.laid(x:bY P w H h)(k:∀ b u,h.get? b=some u->h'.get? b=some u)(hp:h.objs.size<=a)(new:ck P w (upd H a o) h' a o):bY P w (upd H a o) h':=fun b u e=>by
 have hn:=x.fresh hp
 by_cases hb:b=a
 ·subst hb;rw [bX] at e;cases e;exact new
 ·rw [aT hb] at e
  exact(x b u e).hV (fun c v _ q=>k c v q) (fun c q=>by rw [aT (oX q hn)];exact q) fun c xs q=>q.upd (fun _ r=>oX r hn) fun _ _ r=>oX r hn
end
def Rd(H:Hp)(a:dm)(u:HO):Prop:=H a=some u\/∃ o,H a=some (.frz o u)
theorem Rd.ok(r:Rd H a u)(x:bY P w H h):ck P w H h a u:=by
 rcases r with r|⟨o,r⟩
 ·exact x a u r
 ·obtain⟨_,q⟩:=x a _ r
  exact q
noncomputable def rG:Option HO->Prop
 | some (.lst _)=>True
 | some (.dK _)=>True
 | some (.dT _)=>True
 | some (.set _ _)=>True
 | some (.ins _ _ _)=>True
 | some (.ext _)=>True
 | _=>False
section
theorem bY.write(ok:bY P w H h)(mu:rG (H x))(he:e=x\/H e=some (.own x))(k:∀ b u,b≠e->h.get? b=some u->h'.get? b=some u)(qy:∃ u,h'.get? e=some u)
  (new:ck P w (upd H x o') h' x o'):bY P w (upd H x o') h':=fun b u q=>by
 have zgK:∀ c y,H c=some (.own y)->c≠x:=fun c y r z=>by subst z;rw [r] at mu;exact mu
 have zpY:∀ c xs,H c=some (.tup xs)->c≠x:=fun c xs r z=>by subst z;rw [r] at mu;exact mu
 by_cases hb:b=x
 ·subst hb;rw [bX] at q;cases q;exact new
 ·rw [aT hb] at q
  by_cases i5:b=e
  ·have q':H b=some (.own x):=by
    rcases he with z|z
    ·exact absurd (i5.trans z) hb
    ·rw [i5];exact z
   rw [q] at q';cases q'
   obtain⟨v,hv⟩:=qy
   exact⟨v,by rw [i5];exact hv⟩
  ·refine(ok b u q).hV (fun c v hc r=>k c v ?_ r) (fun c r=>by rw [aT (zgK c b r)];exact r) fun c xs r=>r.upd (fun ys z=>zpY c ys z) fun o ys z e=>by subst e;rw [z] at mu;exact mu
   rcases hc with rfl|hc
   ·exact i5
   ·rintro rfl
    rcases he with z|z
    ·exact zgK c b hc z
    ·rw [hc] at z;cases z;exact hb rfl
end
structure Un(fs ex:List dm)(H H':Hp)(h h':xV):Prop where
 keep:∀ b o,h.get? b=some o->H b=none->b∉fs->b∉ex->h'.get? b=some o
 slot:∀ b o,h.get? b=some o->H b=none->b∈fs->b∉ex->∃ sl,h'.get? b=some { o with slots:=sl }
 free:∀ b o,h.get? b=some o->H b=none->b∉ex->H' b=none
 there:∀ b o,h.get? b=some o->b∉ex->∃ o',h'.get? b=some o'
 fY:∀ b xs,H b=some (.tup xs)->H' b=some (.tup xs)
 gq:∀ b o u,H b=some (.frz o u)->H' b=some (.frz o u)
 gF:∀ b ps,H b=some (.tbl ps)->∃ more,H' b=some (.tbl (ps++more))
section
variable {fs dj ex vJ:List dm}{H1 H2:Hp}{h1 h2:xV}
theorem Un.any(u:Un fs ex H H1 h h1)(q:h.get? b=some ob)(n:H b=none)(hx:b∉ex):∃ sl,h1.get? b=some { ob with slots:=sl }:=by
 by_cases hb:b∈fs
 ·exact u.slot b ob q n hb hx
 ·exact⟨ob.slots,u.keep b ob q n hb hx⟩
theorem Un.kept(k:∀ b u,h.get? b=some u->h'.get? b=some u):Un fs ex H H h h' :=
 ⟨fun b ob q _ _ _=>k b ob q,fun b ob q _ _ _=>⟨ob.slots,k b ob q⟩,fun _ _ _ n _=>n,fun b ob q _=>⟨ob,k b ob q⟩,fun _ _ q=>q,fun _ _ _ q=>q,fun _ ps q=>⟨#[],by rw [q];simp⟩⟩
theorem Un.refl:Un fs ex H H h h:=Un.kept fun _ _ q=>q
theorem Un.laid(k:∀ b u,h.get? b=some u->h'.get? b=some u)(hp:h.objs.size<=a)(hn:H a=none):Un fs ex H (upd H a o) h h' where
 keep:=fun b u q _ _ _=>k b u q
 slot:=fun b u q _ _ _=>⟨u.slots,k b u q⟩
 free:=fun b u q n _=>by rw [aT (yI (zc (yo q) hp))];exact n
 there:=fun b u q _=>⟨u,k b u q⟩
 fY:=fun b xs q=>by rw [aT (oX q hn)];exact q
 gq:=fun b u xs q=>by rw [aT (oX q hn)];exact q
 gF:=fun b ps q=>⟨#[],by rw [aT (oX q hn),q];simp⟩
theorem Un.write(mu:rG (H x))(he:e=x\/H e=some (.own x))(k:∀ b u,b≠e->h.get? b=some u->h'.get? b=some u)(qy:∃ u,h'.get? e=some u):Un fs ex H (upd H x o) h h':=by
 have hx:∀ b,H b=none->b≠x:=fun b n z=>by subst z;rw [n] at mu;exact mu
 have hb:∀ b,H b=none->b≠e:=fun b n z=>by
  subst z
  rcases he with r|r
  ·exact hx b n r
  ·rw [n] at r;cases r
 have hm:∀ b u,H b=some u->¬ rG (some u)->b≠x:=fun b u q nm z=>by subst z;rw [q] at mu;exact nm mu
 refine⟨fun b u q n _ _=>k b u (hb b n) q,fun b u q n _ _=>⟨u.slots,k b u (hb b n) q⟩,fun b u q n _=>by rw [aT (hx b n)];exact n,fun b u q _=>?_,
  fun b xs q=>by rw [aT (hm b _ q fun z=>z)];exact q,fun b u xs q=>by rw [aT (hm b _ q fun z=>z)];exact q,fun b ps q=>⟨#[],by rw [aT (hm b _ q fun z=>z),q];simp⟩⟩
 by_cases i5:b=e
 ·subst i5;exact qy
 ·exact⟨u,k b u i5 q⟩
end
noncomputable def xH(h:xV)(H:Hp):List dm:=(zN h.objs.size).filter fun a=>(H a).isSome
noncomputable def lN(h:xV)(H:Hp):xV:=PySem.W.hideAll h (xH h H)
theorem zmh(h:xV)(H:Hp):(lN h H).objs.size=h.objs.size:=PySem.W.hideAll_size _ _
theorem zmg{o:xU}(e:h.get? b=some o)(n:H b=none):(lN h H).get? b=some o :=
 PySem.W.hideAll_get _ e fun hm=>by
  have q:(H b).isSome=true:=(BU.mp hm).2
  rw [n] at q;simp at q
theorem zqh{o:xU}(e:(lN h H).get? b=some o):h.get? b=some o/\H b=none:=by
 have e':h.get? b=some o:=PySem.W.of_hideAll (xH h H) e
 refine⟨e',?_⟩
 cases q:H b with
 | none=>rfl
 | some x =>
  have hm:b∈xH h H:=BU.mpr ⟨DM.mpr (yo e'),by simp [q]⟩
  have z:(lN h H).get? b=none:=PySem.W.hideAll_none (xH h H) hm
  rw [z] at e;cases e
noncomputable def zi0(g h:xV)(L:dm):List (dm×xU):=(zN h.objs.size).filterMap fun a=>if a=L\/(g.get? a).isSome=true then none else(h.get? a).map fun o=>(a,o)
noncomputable def rest(g h:xV)(L d:dm):List (dm×xU):=(zi0 g h L).filter fun p=>decide (p.1≠d)
end
variable {σ σ':List (Option V)}{i j t':Nat}{E:gV->ir->Prop}{s s':ir}{ch:List dm}{v:V}{Q:Unit->ir->Prop}{pins zg3:List (dm×xU)}{α:Type}{M:AJ}{A:ya}{d':Drawn}{x:ib}{t:TT}{e:o1}{it:dm}{u:gV}{X:Cx}{g':Array GenState}{N:List ib}{o:xU}
section
structure Mod(K:kb)(mg:ib->Option gV)(base:xV):Prop where
 qG:K.In base
 glob:base.Ns yc mg
 blt:∃ mb,base.Ns CZ mb/\∀ x:ib,x ≠ "__name__"->mb x=yJ x
 nolimit:base.NoLimit
 seer:base.NoSeer
def ziS(l:List ye):Prop:=∃ env r,l=env::r/\env.scope.isGenerator=false/\env.scope.isCoroutine=false/\env.builtins=CZ/\env.globals=yc
structure Cx where
 prog:x6
 w:x5
 K:kb
 mg:ib->Option gV
 base:xV
 A:ya
 N:List ib
 s₀:ir
 H₀:Hp
 env:ye
 outer:List ye
 stack:List ye
 ex:List dm
 fn:ib->Bool
 calm:Bool
 pn:List (dm×xU)
 xe:gV->ir->Prop
noncomputable def dN(l:List ye):List dm:=l.filterMap (·.frame)
abbrev Cx.fs(X:Cx):List dm:=dN X.outer
def uW(sc:yT)(x:ib):Prop:=sc.names.lookup x=some .local\/sc.names.lookup x=some .cell\/sc.names.lookup x=some .free
def Loc(sc:yT)(x:ib):Prop:=sc.names.lookup x=some .local\/sc.names.lookup x=some .cell
def Look(env:ye)(h:xV)(m:ib->Option gV)(x:ib)(u:gV):Prop :=
 (env.kindOf x=some .local/\m x=some u)\/((env.kindOf x=some .cell\/env.kindOf x=some .free)/\∃ c,env.cells.lookup x=some c/\h.IsCell c (some u))
structure Cx.Ok(X:Cx):Prop where
 mod:Mod X.K X.mg X.base
 kind:X.env.scope.kind=.function
 glob:X.env.globals=yc
 blt:X.env.builtins=CZ
 above:X.s₀.heap.objs.size<=X.env.locals
 inj:∀ x y c,X.env.cells.lookup x=some c->X.env.cells.lookup y=some c->x=y
 has:∀ x,(X.env.kindOf x=some .cell\/X.env.kindOf x=some .free)->∃ c,X.env.cells.lookup x=some c
 mR:∀ x c,X.fn x=true->X.env.cells.lookup x=some c->X.s₀.heap.objs.size<=c
 hd:X.calm=true->X.A.handled=none
 frames:X.A.frames=some X.stack
 pG:X.stack=X.outer\/(X.stack=X.env::X.outer/\X.env.frame=some X.env.locals)
 oC:∀ b∈X.ex,b≠X.env.locals/\∀ x c,X.env.cells.lookup x=some c->c≠b
 bs:∀ b o,X.base.get? b=some o->X.s₀.heap.get? b=some o/\X.H₀ b=none
 jr:X.base.objs.size<=X.s₀.heap.objs.size
 nA:∀ b o,X.base.get? b=some o->b∉X.ex
 mY:∀ b∈X.ex,b∉X.fs
 gA:X.s₀.heap.FunFrames X.base X.outer
 jV:∀ b∈X.fs,X.H₀ b=none
 tree:X.prog.given.tree=none
 sk:ziS X.stack
structure Inv(X:Cx)(pins:List (dm×xU))(σ:List (Option V))(H:Hp)(s:ir):Prop where
 ok:X.Ok
 os:s.os=X.s₀.os
 bare:As s.gens
 base:Un X.fs X.ex X.H₀ H X.s₀.heap s.heap
 loc:∃ m,s.heap.Ns X.env.locals m/\∀(i:Nat) (x:ib) (v:V),X.N[i]?=some x->σ[i]?=some (some v)->uW X.env.scope x->∃ u,RelV v u/\Look X.env s.heap m x u
 cell:∀ x c,X.env.cells.lookup x=some c->∃ v,s.heap.IsCell c v
 free:H X.env.locals=none
 fO:∀ x c,X.env.cells.lookup x=some c->H c=none
 pin:∀ p∈X.pn++pins,s.heap.get? p.1=some p.2/\H p.1=none/\p.1≠X.env.locals/\p.1∉X.fs/\∀ v,p.2.data≠.cell v
 ax:bY X.prog X.w H s.heap
 len:σ.length=X.N.length
section
theorem Cx.Ok.zpQ(ok:X.Ok)(e:X.base.get? b=some o):b∉X.fs:=fun hb=>by
 have:=(ok.gA.mem hb).1
 rw [e] at this;cases this
theorem Inv.bs(I:Inv X pins σ H s):∀ b o,X.base.get? b=some o->s.heap.get? b=some o/\H b=none:=fun b o e =>
 ⟨I.base.keep b o (I.ok.bs b o e).1 (I.ok.bs b o e).2 (I.ok.zpQ e) (I.ok.nA b o e),I.base.free b o (I.ok.bs b o e).1 (I.ok.bs b o e).2 (I.ok.nA b o e)⟩
theorem Inv.bk(I:Inv X pins σ H s):∀ b o,X.base.get? b=some o->s.heap.get? b=some o:=fun b o e=>(I.bs b o e).1
theorem Inv.mod(I:Inv X pins σ H s):Mod X.K X.mg X.base:=I.ok.mod
theorem Inv.eJ(I:Inv X pins σ H s):X.K.In s.heap:=I.ok.mod.qG.keeps I.bk
theorem Inv.nolimit(I:Inv X pins σ H s):s.heap.NoLimit:=I.ok.mod.nolimit.keeps I.bk
theorem Inv.lt(I:Inv X pins σ H s):X.env.locals<s.heap.objs.size:=let⟨_,hn,_⟩:=I.loc;hn.lt
theorem Inv.sz(I:Inv X pins σ H s):X.s₀.heap.objs.size<=s.heap.objs.size:=yx I.ok.above (Ba I.lt)
theorem Inv.zgH(I:Inv X pins σ H s)(h:s.heap.objs.size<=a):a∉X.fs:=fun hb=>by
 obtain⟨_,o,ho,_⟩:=I.ok.gA.mem hb
 exact absurd (zc (yo ho) (yx I.sz h)) (Bl _)
theorem Inv.lA(I:Inv X pins σ H s):∀ x c,X.env.cells.lookup x=some c->c≠X.env.locals:=fun x c e z=>by
 obtain⟨v,o,ho,hd⟩:=I.cell x c e
 obtain⟨m,⟨o',es,ep,eX,gM,_⟩,_⟩:=I.loc
 rw [z,eX] at ho;cases ho;rw [gM] at hd;cases hd
theorem Inv.gA(I:Inv X pins σ H s):s.heap.FunFrames X.base X.outer:=by
 have all:∀(l:List ye),(∀ b∈dN l,b∈X.fs)->X.s₀.heap.FunFrames X.base l->s.heap.FunFrames X.base l:=by
  intro l
  induction l with
  | nil=>intro _ _;trivial
  | cons env r ih =>
   intro hs hl
   obtain⟨hk,⟨L,o,hf,hn,ho,hd⟩,hr⟩:=hl
   have hL:L∈X.fs:=hs L (by unfold dN;rw [Bb,hf];exact yM)
   obtain⟨sl,e⟩:=I.base.slot L o ho (I.ok.jV L hL) hL fun z=>I.ok.mY L z hL
   exact⟨hk,⟨L,_,hf,hn,e,hd⟩,ih (fun b hb=>hs b (by unfold dN;rw [Bb,hf];exact yK _ hb)) hr⟩
 exact all X.outer (fun _ hb=>hb) I.ok.gA
theorem Inv.stack(I:Inv X pins σ H s):s.heap.FunFrames X.base X.stack:=by
 rcases I.ok.pG with e|⟨e,hf⟩
 ·rw [e];exact I.gA
 ·rw [e]
  obtain⟨m,hn,_⟩:=I.loc
  refine .cons (by rw [I.ok.kind];decide) hf hn ?_ I.gA
  exact Ag (yx I.ok.jr I.ok.above)
theorem Inv.pH(I:Inv X pins σ H s):∀ b∈dN X.stack,b∈X.env.locals::X.fs:=fun b hb=>by
 rcases I.ok.pG with e|⟨e,hf⟩
 ·rw [e] at hb;exact yK _ hb
 ·rw [e] at hb
  unfold dN at hb
  rw [Bb,hf] at hb
  exact hb
theorem Inv.uC(I:Inv X pins σ H s):∀ b∈dN X.stack,H b=none:=fun b hb=>by
 rcases yr.mp (I.pH b hb) with e|hb
 ·rw [e];exact I.free
 ·obtain⟨_,o,ho,_⟩:=I.ok.gA.mem hb
  exact I.base.free b o ho (I.ok.jV b hb) fun z=>I.ok.mY b z hb
theorem Inv.step(I:Inv X pins σ H s)
  (jY:∀ b∈ch,(b∈X.ex\/X.s₀.heap.objs.size<=b)/\b≠X.env.locals/\(∀ x c,X.env.cells.lookup x=some c->c≠b)/\∀ p∈X.pn++pins,p.1≠b)
  (keep:∀ b o,b≠X.env.locals->b∉X.fs->b∉ch->s.heap.get? b=some o->H b=none->h'.get? b=some o)
  (slot:∀ b o,b≠X.env.locals->b∈X.fs->b∉ch->s.heap.get? b=some o->H b=none->∃ sl,h'.get? b=some { o with slots:=sl })(free:∀ b o,b∉ch->s.heap.get? b=some o->H b=none->H' b=none)
  (there:∀ b o,b∉ch->s.heap.get? b=some o->∃ o',h'.get? b=some o')
  (fY:∀ b xs,H b=some (.tup xs)->H' b=some (.tup xs))(gq:∀ b o u,H b=some (.frz o u)->H' b=some (.frz o u))(gF:∀ b ps,H b=some (.tbl ps)->∃ more,H' b=some (.tbl (ps++more)))
  (ns:∀ m,s.heap.Ns X.env.locals m->h'.Ns X.env.locals m)(ax:bY X.prog X.w H' h')(hg:As g') :
  Inv X pins σ H' { s with heap:=h',gens:=g',drawn:=d',toks:=t' }:=by
 have qN:∀ b o,X.s₀.heap.get? b=some o->b≠X.env.locals:=fun b o e=>yI (zc (yo e) I.ok.above)
 have oW:∀ b o,X.s₀.heap.get? b=some o->b∉X.ex->b∉ch:=fun b o e hx hb=>by
  rcases (jY b hb).1 with z|z
  ·exact hx z
  ·exact absurd (zc (yo e) z) (Bl _)
 have cellK:∀ x c,X.env.cells.lookup x=some c->∀ v,s.heap.IsCell c v->h'.IsCell c v:=fun x c e v ⟨o,ho,hd⟩=>by
  have tL:c∉ch:=fun z=>(jY c z).2.2.1 x c e rfl
  by_cases hc:c∈X.fs
  ·obtain⟨sl,q⟩:=slot c o (I.lA x c e) hc tL ho (I.fO x c e)
   exact⟨_,q,hd⟩
  ·exact⟨o,keep c o (I.lA x c e) hc tL ho (I.fO x c e),hd⟩
 refine⟨I.ok,I.os,hg,⟨fun b o e n hb hx=>?_,fun b o e n hb hx=>?_,fun b o e n hx=>?_,fun b o e hx=>?_,fun b xs e=>fY b xs (I.base.fY b xs e),fun b o xs e=>gq b o xs (I.base.gq b o xs e),fun b ps e=>?_⟩,?_,fun x c e=>?_,?_,fun x c e=>?_,fun p hp=>?_,ax,I.len⟩
 ·exact keep b o (qN b o e) hb (oW b o e hx) (I.base.keep b o e n hb hx) (I.base.free b o e n hx)
 ·obtain⟨sl,e1⟩:=I.base.slot b o e n hb hx
  obtain⟨mF,e2⟩:=slot b _ (qN b o e) hb (oW b o e hx) e1 (I.base.free b o e n hx)
  exact⟨mF,e2⟩
 ·obtain⟨o',e1⟩:=I.base.there b o e hx
  exact free b o' (oW b o e hx) e1 (I.base.free b o e n hx)
 ·obtain⟨o',e1⟩:=I.base.there b o e hx
  exact there b o' (oW b o e hx) e1
 ·obtain⟨m1,e1⟩:=I.base.gF b ps e
  obtain⟨m2,e2⟩:=gF b _ e1
  exact⟨m1++m2,by rw [e2,Array.append_assoc]⟩
 ·obtain⟨m,hn,hl⟩:=I.loc
  refine⟨m,ns m hn,fun i x v e1 e2 e3=>?_⟩
  obtain⟨u,r,l⟩:=hl i x v e1 e2 e3
  refine⟨u,r,?_⟩
  rcases l with l|⟨k,c,e,z⟩
  ·exact .inl l
  ·exact .inr ⟨k,c,e,cellK x c e _ z⟩
 ·obtain⟨v,z⟩:=I.cell x c e
  exact⟨v,cellK x c e v z⟩
 ·obtain⟨m,⟨o,_,_,ho,_⟩,_⟩:=I.loc
  exact free _ o (fun z=>(jY _ z).2.1 rfl) ho I.free
 ·obtain⟨v,o,ho,hd⟩:=I.cell x c e
  exact free c o (fun z=>(jY c z).2.2.1 x c e rfl) ho (I.fO x c e)
 ·obtain⟨e,n,ne,nf,d⟩:=I.pin p hp
  have tL:p.1∉ch:=fun z=>(jY p.1 z).2.2.2 p hp rfl
  exact⟨keep p.1 p.2 ne nf tL e n,free p.1 p.2 tL e n,ne,nf,d⟩
theorem Inv.un(I:Inv X pins σ H s)(u:Un X.fs [] H H' s.heap h')(ax:bY X.prog X.w H' h'):Inv X pins σ H' { s with heap:=h',toks:=t' }:=by
 obtain⟨m,⟨o,es,ep,ho,r⟩,_⟩:=id I.loc
 obtain⟨sl,hL⟩:=u.any ho I.free (by simp)
 exact I.step (g':=s.gens) (d':=s.drawn) (ch:=[]) (fun _ z=>nomatch z) (fun b o _ hb _ e n=>u.keep b o e n hb (by simp)) (fun b o _ hb _ e n=>u.slot b o e n hb (by simp)) (fun b o _ e n=>u.free b o e n (by simp)) (fun b o _ e=>u.there b o e (by simp)) u.fY u.gq u.gF (fun m' hm=>by
  obtain⟨o',mX,si,eX,r'⟩:=hm
  rw [ho] at eX;cases eX
  exact⟨_,mX,si,hL,r'⟩) ax I.bare
theorem Inv.call(I:Inv X pins σ H s)(u:Un (dN X.stack) ch H H' s.heap h')(ax:bY X.prog X.w H' h')(hg:As g')
  (jY:∀ b∈ch,(b∈X.ex\/X.s₀.heap.objs.size<=b)/\b≠X.env.locals/\(∀ x c,X.env.cells.lookup x=some c->c≠b)/\∀ p∈X.pn++pins,p.1≠b) :
  Inv X pins σ H' { s with heap:=h',gens:=g',drawn:=d',toks:=t' }:=by
 obtain⟨m,⟨o,es,ep,ho,r⟩,_⟩:=id I.loc
 obtain⟨sl,hL⟩:=u.any ho I.free fun z=>(jY _ z).2.1 rfl
 exact I.step (ch:=ch) jY (fun b o hL hb hc e n=>u.keep b o e n (fun z=>(yr.mp (I.pH b z)).elim hL hb) hc) (fun b o _ _ hc e n=>u.any e n hc) (fun b o hc e n=>u.free b o e n hc) (fun b o hc e=>u.there b o e hc) u.fY u.gq u.gF (fun m' hm=>by
  obtain⟨o',mX,si,eX,r'⟩:=hm
  rw [ho] at eX;cases eX
  exact⟨_,mX,si,hL,r'⟩) ax hg
theorem Inv.turned(I:Inv X pins σ H s)(k:∀ b o,b≠it->s.heap.get? b=some o->h'.get? b=some o)(hn:H it=none)(hL:it≠X.env.locals)
  (h1:it∈X.ex\/X.s₀.heap.objs.size<=it)(h2:∀ x c,X.env.cells.lookup x=some c->c≠it)(h3:∀ p∈X.pn++pins,p.1≠it):Inv X pins σ H { s with heap:=h',toks:=t' }:=by
 have tP:∀ b u,H b=some u->b≠it:=fun b u e z=>by rw [z,hn] at e;cases e
 refine I.step (g':=s.gens) (d':=s.drawn) (ch:=[it]) (fun b hb=>?_) (fun b o _ _ hc e _=>k b o (fun z=>hc (by simp [z])) e) (fun b o _ _ hc e _=>⟨o.slots,k b o (fun z=>hc (by simp [z])) e⟩) (fun _ _ _ _ n=>n)
  (fun b o hc e=>⟨o,k b o (fun z=>hc (by simp [z])) e⟩) (fun _ _ e=>e) (fun _ _ _ e=>e) (fun b ps e=>⟨#[],by rw [e];simp⟩) (fun m hm=>?_) (fun b u e=>?_) I.bare
 ·have e:b=it:=by simpa using hb
  subst e
  exact⟨h1,hL,h2,h3⟩
 ·obtain⟨o,es,ep,ho,r⟩:=hm
  exact⟨o,es,ep,k _ o (yU hL) ho,r⟩
 ·refine(I.ax b u e).hV (fun c v hc q=>k c v ?_ q) (fun _ q=>q) fun _ _ q=>q
  rcases hc with z|z
  ·rw [z];exact tP b u e
  ·exact tP c _ z
theorem Inv.tok(I:Inv X pins σ H s)(t:Nat):Inv X pins σ H { s with toks:=t }:=I.un (h':=s.heap) (t':=t) Un.refl I.ax
theorem Inv.kept{t':Nat}(I:Inv X pins σ H s)(k:∀ b u,s.heap.get? b=some u->h'.get? b=some u):Inv X pins σ H { s with heap:=h',toks:=t' }:=I.un (Un.kept k) (I.ax.kept k)
theorem Inv.laid{a:dm}{o:HO}{t':Nat}(I:Inv X pins σ H s)(k:∀ b u,s.heap.get? b=some u->h'.get? b=some u)(hp:s.heap.objs.size<=a)(new:ck X.prog X.w (upd H a o) h' a o) :
  Inv X pins σ (upd H a o) { s with heap:=h',toks:=t' }:=I.un (Un.laid k hp (I.ax.fresh hp)) (I.ax.laid k hp new)
theorem Inv.write{x e:dm}{o:HO}{t':Nat}(I:Inv X pins σ H s)(mu:rG (H x))(he:e=x\/H e=some (.own x))(k:∀ b u,b≠e->s.heap.get? b=some u->h'.get? b=some u)(qy:∃ u,h'.get? e=some u)
  (new:ck X.prog X.w (upd H x o) h' x o):Inv X pins σ (upd H x o) { s with heap:=h',toks:=t' }:=I.un (Un.write mu he k qy) (I.ax.write mu he k qy new)
theorem Inv.weak(I:Inv X pins σ H s)(hl:σ'.length=σ.length)(w:∀(i:Nat) v,σ'[i]?=some (some v)->σ[i]?=some (some v)):Inv X pins σ' H s :=
 ⟨I.ok,I.os,I.bare,I.base,let⟨m,hn,hl'⟩:=I.loc;⟨m,hn,fun i x v e1 e2 e3=>hl' i x v e1 (w i v e2) e3⟩,I.cell,I.free,I.fO,I.pin,I.ax,hl.trans I.len⟩
theorem Inv.zg4(I:Inv X pins σ H s)(h:∀ p∈zg3,s.heap.get? p.1=some p.2/\H p.1=none/\p.1≠X.env.locals/\p.1∉X.fs/\∀ v,p.2.data≠.cell v):Inv X zg3 σ H s :=
 ⟨I.ok,I.os,I.bare,I.base,I.loc,I.cell,I.free,I.fO,fun p hp=>(Au.mp hp).elim (fun z=>I.pin p (Bm _ z)) (h p),I.ax,I.len⟩
theorem zcH(hN:N.Nodup)(a:N[i]?=some x)(b:N[j]?=some x):i=j:=by
 obtain⟨h1,e1⟩:=yu.mp a
 obtain⟨h2,e2⟩:=yu.mp b
 exact(DN hN).mp (e1.trans e2.symm)
theorem ztY(I:Inv X pins σ H s)(hN:X.N.Nodup)(hi:X.N[i]?=some x)(hx:Loc X.env.scope x)(r:RelV v u)
  (h:∀ s',Inv X pins (σ.set i (some v)) H s'->(∃ a,Ct a s.heap s'.heap/\(a=X.env.locals\/X.env.cells.lookup x=some a))->Q () s')(hf:X.fn x=true\/X.env.scope.names.lookup x=some .local:=by first|exact .inl rfl|exact .inr rfl|assumption):xS M A (storeName X.env x u) Q E s:=by
 obtain⟨m,hn,hl⟩:=id I.loc
 have zma:(X.env.scope.kind==.class||(X.env.scope.kind==.module&&X.env.locals != X.env.globals))=false:=by rw [I.ok.kind];rfl
 have hiσ:i<σ.length:=by rw [I.len];exact(yu.mp hi).1
 have lA:=I.lA
 have tracked:∀{a:dm} {h':xV},(∃ o,s.heap.get? a=some o/\H a=none)->Ct a s.heap h'->bY X.prog X.w H h':=fun{a h'} ha hs b ob e=>by
  obtain⟨_,_,zfF⟩:=ha
  refine(I.ax b ob e).hV (fun c w' hc q=>(hs.2 c ?_).trans q) (fun _ q=>q) fun _ _ q=>q
  rintro rfl
  rcases hc with rfl|hc
  ·rw [zfF] at e;cases e
  ·rw [zfF] at hc;cases hc
 rcases hx with hk|hk
 ·refine wpAny_storeName_local hk hn (fun h' qA hs=>?_) zma
  obtain⟨oL,_,_,oK,_⟩:=id hn
  refine h _ ⟨I.ok,I.os,I.bare,⟨fun b o e n hb hx=>?_,fun b o e n hb hx=>?_,I.base.free,fun b o e hx=>?_,I.base.fY,I.base.gq,I.base.gF⟩,⟨_,qA,fun j y v' e1 e2 e3=>?_⟩,fun y c e=>?_,I.free,I.fO,fun p hp=>?_,tracked ⟨oL,oK,I.free⟩ hs,by simpa using I.len⟩ ⟨_,hs,.inl rfl⟩
  ·exact(hs.2 b (yI (zc (yo e) I.ok.above))).trans (I.base.keep b o e n hb hx)
  ·obtain⟨sl,e1⟩:=I.base.slot b o e n hb hx
   exact⟨sl,(hs.2 b (yI (zc (yo e) I.ok.above))).trans e1⟩
  ·obtain⟨o',e1⟩:=I.base.there b o e hx
   exact⟨o',(hs.2 b (yI (zc (yo e) I.ok.above))).trans e1⟩
  ·by_cases hj:j=i
   ·subst hj
    rw [hi] at e1;cases e1
    rw [yH hiσ] at e2
    cases e2
    exact⟨u,r,.inl ⟨hk,by simp⟩⟩
   ·rw [yL (yU hj)] at e2
    obtain⟨u',r',q⟩:=hl j y v' e1 e2 e3
    refine⟨u',r',?_⟩
    rcases q with⟨k,e⟩|⟨k,c,e,z⟩
    ·refine .inl ⟨k,?_⟩
     have:y≠x:=fun e=>hj (zcH hN e1 (e▸hi))
     simp [this,e]
    ·exact .inr ⟨k,c,e,z.sameBut hs (lA y c e)⟩
  ·obtain⟨w',z⟩:=I.cell y c e
   exact⟨w',z.sameBut hs (lA y c e)⟩
  ·obtain⟨e,n,ne,nf,d⟩:=I.pin p hp
   exact⟨(hs.2 p.1 ne).trans e,n,ne,nf,d⟩
 ·have hfn:X.fn x=true:=by
   rcases hf with z|z
   ·exact z
   ·rw [z] at hk;cases hk
  obtain⟨c,hc⟩:=I.ok.has x (.inl hk)
  obtain⟨w',z⟩:=I.cell x c hc
  refine wpAny_storeName_cell I.ok.kind hk hc z (fun h' jx hs=>?_)
  obtain⟨oc,hoc,zmm⟩:=id z
  refine h { s with heap:=h' } ⟨I.ok,I.os,I.bare,⟨fun b o e n hb hx=>?_,fun b o e n hb hx=>?_,I.base.free,fun b o e hx=>?_,I.base.fY,I.base.gq,I.base.gF⟩,⟨m,hn.sameBut hs (yU (lA x c hc)),fun j y v' e1 e2 e3=>?_⟩,fun y c' e=>?_,I.free,I.fO,fun p hp=>?_,tracked ⟨oc,hoc,I.fO x c hc⟩ hs,by simpa using I.len⟩ ⟨c,hs,.inr hc⟩
  ·exact(hs.2 b (yI (zc (yo e) (I.ok.mR x c hfn hc)))).trans (I.base.keep b o e n hb hx)
  ·obtain⟨sl,e1⟩:=I.base.slot b o e n hb hx
   exact⟨sl,(hs.2 b (yI (zc (yo e) (I.ok.mR x c hfn hc)))).trans e1⟩
  ·obtain⟨o',e1⟩:=I.base.there b o e hx
   exact⟨o',(hs.2 b (yI (zc (yo e) (I.ok.mR x c hfn hc)))).trans e1⟩
  ·by_cases hj:j=i
   ·subst hj
    rw [hi] at e1;cases e1
    rw [yH hiσ] at e2
    cases e2
    exact⟨u,r,.inr ⟨.inl hk,c,hc,jx⟩⟩
   ·rw [yL (yU hj)] at e2
    obtain⟨u',r',q⟩:=hl j y v' e1 e2 e3
    refine⟨u',r',?_⟩
    rcases q with q|⟨k,c',e,z'⟩
    ·exact .inl q
    ·refine .inr ⟨k,c',e,z'.sameBut hs ?_⟩
     rintro rfl
     exact hj (zcH hN e1 (I.ok.inj _ _ _ e hc▸hi))
  ·by_cases jX:c'=c
   ·subst jX;exact⟨_,jx⟩
   ·obtain⟨w2,z2⟩:=I.cell y c' e
    exact⟨w2,z2.sameBut hs jX⟩
  ·obtain⟨e,n,ne,nf,d⟩:=I.pin p hp
   refine⟨(hs.2 p.1 ?_).trans e,n,ne,nf,d⟩
   intro q
   rw [q,hoc] at e
   have q':oc=p.2:=yN e
   exact d w' (by rw [<- q'];exact zmm)
theorem uD(I:Inv X pins σ H s)(hN:X.N.Nodup)(hi:X.N[i]?=some x)(hx:Loc X.env.scope x)(r:RelV v u)
  (h:∀ s',Inv X pins (σ.set i (some v)) H s'->Q () s')(hf:X.fn x=true\/X.env.scope.names.lookup x=some .local:=by first|exact .inl rfl|exact .inr rfl|assumption):xS M A (storeName X.env x u) Q E s :=
 ztY I hN hi hx r (fun s' I' _=>h s' I') hf
theorem Inv.zaM(I:Inv X pins σ H s)(ho:s'.os=s.os)(u:Un (dN X.stack) ch H H' s.heap s'.heap)(ax:bY X.prog X.w H' s'.heap)(hg:As s'.gens)
  (jY:∀ b∈ch,(b∈X.ex\/X.s₀.heap.objs.size<=b)/\b≠X.env.locals/\(∀ x c,X.env.cells.lookup x=some c->c≠b)/\∀ p∈X.pn++pins,p.1≠b):Inv X pins σ H' s':=by
 obtain⟨h',g',d',t',o'⟩:=s'
 have e:o'=s.os:=ho
 subst e
 exact I.call (g':=g') (t':=t') (d':=d') u ax hg jY
end
abbrev XK:=gV->Option dm->Hp->Prop
abbrev St:=List (Option V)
abbrev VK:=V->Hp->Prop
abbrev TE:=St->Hp->VK->Prop
abbrev TT:=St->Hp->(Bool->Hp->Prop)->Prop
abbrev TA:=St->Hp->(List V->Hp->Prop)->Prop
structure Ends where
 nx:St->Hp->Prop
 rt:VK
 bk:St->Hp->Prop:=fun _ _=>False
 ct:St->Hp->Prop:=fun _ _=>False
abbrev TS:=Ends->St->Hp->Prop
def EP(X:Cx)(pins:List (dm×xU))(σ:St)(Q:VK)(u:gV)(s':ir):Prop:=∃ v H',Inv X pins σ H' s'/\RelV v u/\Q v H'
def TP(X:Cx)(pins:List (dm×xU))(σ:St)(Q:Bool->Hp->Prop)(b:Bool)(s':ir):Prop:=∃ H',Inv X pins σ H' s'/\Q b H'
def AP(X:Cx)(pins:List (dm×xU))(σ:St)(Q:List V->Hp->Prop)(us:List gV)(s':ir):Prop:=∃ vs H',Inv X pins σ H' s'/\Vals vs us/\Q vs H'
def SP(X:Cx)(pins:List (dm×xU))(D:Ends)(f:Flow)(s':ir):Prop :=
 match f with
 | .next=>∃ σ' H',Inv X pins σ' H' s'/\D.nx σ' H'
 | .brk=>∃ σ' H',Inv X pins σ' H' s'/\D.bk σ' H'
 | .cont=>∃ σ' H',Inv X pins σ' H' s'/\D.ct σ' H'
 | .ret u=>∃ v σ' H',Inv X pins σ' H' s'/\RelV v u/\D.rt v H'
def PE(X:Cx)(e:o1)(t:TE):Prop :=
 ∀(pins:List (dm×xU)) (s:ir) (σ:St) (H:Hp) (Q:VK),Inv X pins σ H s->t σ H Q->xS (xT X.prog X.w) X.A (xZ e X.env) (EP X pins σ Q) X.xe s
def PT(X:Cx)(e:o1)(t:TT):Prop :=
 ∀(pins:List (dm×xU)) (s:ir) (σ:St) (H:Hp) (Q:Bool->Hp->Prop),Inv X pins σ H s->t σ H Q->xS (xT X.prog X.w) X.A (isTrue e X.env (xZ e X.env)) (TP X pins σ Q) X.xe s
def PW(X:Cx)(e:o1)(t:TT):Prop :=
 ∀(whole:Sem gV) (pins:List (dm×xU)) (s:ir) (σ:St) (H:Hp) (Q:Bool->Hp->Prop),Inv X pins σ H s->t σ H Q->xS (xT X.prog X.w) X.A (isTrue e X.env whole) (TP X pins σ Q) X.xe s
theorem PW.pt(h:PW X e t):PT X e t:=h _
def PA(X:Cx)(es:List o1)(t:TA):Prop :=
 ∀(pos:xW) (pins:List (dm×xU)) (s:ir) (σ:St) (H:Hp) (Q:List V->Hp->Prop),Inv X pins σ H s->t σ H Q->xS (xT X.prog X.w) X.A (spliced (yp pos (pd es X.env))) (AP X pins σ Q) X.xe s
def PS(X:Cx)(st:x8)(t:TS):Prop :=
 ∀(pins:List (dm×xU)) (s:ir) (σ:St) (H:Hp) (D:Ends),Inv X pins σ H s->t D σ H->xS (xT X.prog X.w) X.A (exec st X.env) (SP X pins D) X.xe s
def bJ(X:Cx)(st:List x8)(t:TS):Prop :=
 ∀(pins:List (dm×xU)) (s:ir) (σ:St) (H:Hp) (D:Ends),Inv X pins σ H s->t D σ H->xS (xT X.prog X.w) X.A (execs st X.env) (SP X pins D) X.xe s
theorem aN{t:Sem α}{Q Q':α->ir->Prop}(h:xS M A t Q E s)(hQ:∀ a s,Q a s->Q' a s):xS M A t Q' E s:=yA h hQ fun _ _ x=>x
end
variable {Q:gV->ir->Prop}{σ:St}{op:zx}{t:TE}{a:o1}{pos:xW}
section
section
noncomputable def cV(i:Nat):TE:=fun σ H Q=>∃ v,σ[i]?=some (some v)/\Q v H
noncomputable def tC(v:V):TE:=fun _ H Q=>Q v H
theorem zgZ(hN:X.N[i]?=some x)(hv:uW X.env.scope x)(hd:(x==("__debug__":ib))=false:=by decide) (eU:(x==("__classdict__":ib))=false:=by decide):PE X (.Name x pos) (cV i):=by
 intro pins s σ H Q I h
 obtain⟨v,e,h⟩:=h
 obtain⟨m,hn,hl⟩:=I.loc
 obtain⟨u,r,l⟩:=hl i x v hN e hv
 have fin:EP X pins σ Q u s:=⟨v,H,I,r,h⟩
 rcases l with⟨hk,hm⟩|⟨hk,c,hc,zfC⟩
 ·exact wpAny_Name (wpAny_loadName_local I.ok.kind hk hn hm fin) hd
 ·rcases hk with hk|hk
  ·exact wpAny_Name (wpAny_loadName_cell I.ok.kind hk hc zfC fin) hd
  ·exact wpAny_Name (wpAny_loadName_free I.ok.kind hk hc zfC fin eU) hd
theorem zqU{i j pos}:PE X (.Constant (.int i) j pos) (tC (.int i)):=fun _ _ _ H _ I h=>wpAny_Constant_int ⟨.int i,H,I.tok _,⟨_,rfl⟩,h⟩
theorem zqK{b j pos}:PE X (.Constant (.bool b) j pos) (tC (.bl b)):=fun _ _ _ H _ I h=>Constant_bool ⟨.bl b,H,I,rfl,h⟩
theorem zgX{j pos}:PE X (.Constant .none j pos) (tC .non):=fun _ _ _ H _ I h=>Constant_none ⟨.non,H,I,rfl,h⟩
theorem zq0{x j pos}:PE X (.Constant (.str x) j pos) (tC (.str x)):=fun _ _ _ H _ I h=>Calls.Constant_str ⟨.str x,H,I.tok _,⟨_,rfl⟩,h⟩
def Gl(X:Cx)(x:ib):Prop:=X.env.kindOf x=some .globalImplicit
theorem qI(I:Inv X pins σ H s)(hg:Gl X x)(hm:X.mg x=some u)(h:Q u s)
  (hd:(x==("__debug__":ib))=false:=by decide):xS (xT X.prog X.w) X.A (xZ (.Name x pos) X.env) Q E s :=
 EW I.ok.kind hg (Calls.loadGlobal_global (by rw [I.ok.glob];exact I.mod.glob.keeps I.bk) hm h) hd
theorem qH(I:Inv X pins σ H s)(hg:Gl X x)(hm:X.mg x=none)(hv:yJ x=some u)(h:Q u s)
  (hn:x ≠ "__name__":=by decide) (hd:(x==("__debug__":ib))=false:=by decide):xS (xT X.prog X.w) X.A (xZ (.Name x pos) X.env) Q E s:=by
 obtain⟨mb,h1,h2⟩:=I.mod.blt
 exact EW I.ok.kind hg (Calls.loadGlobal_builtin (by rw [I.ok.glob];exact I.mod.glob.keeps I.bk) hm (by rw [I.ok.blt];exact h1.keeps I.bk) ((h2 x hn).trans hv) h) hd
theorem cU(hg:Gl X x)(hm:X.mg x=some u)(r:RelV v u)(hd:(x==("__debug__":ib))=false:=by decide):PE X (.Name x pos) (tC v) :=
 fun _ _ _ H _ I h=>qI I hg hm ⟨v,H,I,r,h⟩ hd
theorem zqL(hg:Gl X x)(hm:X.mg x=none)(hv:yJ x=some u)(r:RelV v u)(hn:x ≠ "__name__":=by decide) (hd:(x==("__debug__":ib))=false:=by decide):PE X (.Name x pos) (tC v) :=
 fun _ _ _ H _ I h=>qH I hg hm hv ⟨v,H,I,r,h⟩ hn hd
variable {b:o1}{ta tb:TE}
def PC(X:Cx)(op:zx)(a b:o1)(t:TE):Prop :=
 ∀(pins:List (dm×xU)) (s:ir) (σ:St) (H:Hp) (Q:VK),Inv X pins σ H s->t σ H Q ->
  xS (xT X.prog X.w) X.A (xZ a X.env) (fun v s₁=>xS (xT X.prog X.w) X.A (xZ b X.env) (fun u s₂=>xS (xT X.prog X.w) X.A (yj op v u) (EP X pins σ Q) X.xe s₂) X.xe s₁) X.xe s
theorem zpO(b:o1)(h:op≠.In)(h2:op≠.NotIn):zO op b=false:=by
 have e1:(op==CmpOp.In)=false:=by cases op <;> first|rfl|exact absurd rfl h
 have e2:(op==CmpOp.NotIn)=false:=by cases op <;> first|rfl|exact absurd rfl h2
 cases b <;> simp [zO,e1,e2]
noncomputable def zue(ta:TE):TE:=fun σ H Q=>ta σ H fun x H1=>Q (.bl (!decide (x=.non))) H1
theorem RelV.zpS{x:V}{v:gV}(r:RelV x v):(v==yF)=decide (x=.non):=by
 cases x with
 | non=>cases r;rfl
 | bl _=>cases r;rfl
 | int _=>obtain⟨t,rfl⟩:=r;rfl
 | str _=>obtain⟨t,rfl⟩:=r;rfl
 | byt _=>obtain⟨t,rfl⟩:=r;rfl
 | flt _=>obtain⟨t,rfl⟩:=r;rfl
 | ref _=>cases r;rfl
 | ty _=>cases r;rfl
theorem zqI{j pos'}(ha:PE X a ta):PC X .IsNot a (.Constant .none j pos') (zue ta):=by
 intro pins s σ H Q I h
 refine aN (ha pins s σ H _ I h) fun v s1 ⟨x,H1,I1,r1,q1⟩=>?_
 exact Constant_none (isnot_none_gen ⟨.bl _,H1,I1,by rw [r1.zpS];rfl,q1⟩)
noncomputable def tB(t:TE):TT:=fun σ H Q=>t σ H fun x H1=>∃ c,x=.bl c/\Q c H1
theorem zrK(h:PC X op a b t)(h1:zO op b=false:=by first|exact zpO _ (by decide) (by decide)|rfl):PT X (.Compare a [op] [b] pos) (tB t):=by
 intro pins s σ H Q I hw
 refine wpAny_isTrue_Compare1 (aN (h pins s σ H _ I hw) fun v s1 h1=>aN h1 fun u s2 h2=>aN h2 fun c s3 ⟨x,H1,I1,r1,q1⟩=>?_) h1
 obtain⟨d,rfl,q⟩:=q1
 cases r1
 exact Bc ⟨H1,I1,q⟩
variable {tA xB:TT}{rest:List o1}
noncomputable def fL(t u:TT):TT:=fun σ H Q=>t σ H fun c H1=>if c=true then u σ H1 Q else Q false H1
noncomputable def bI(t u:TT):TT:=fun σ H Q=>t σ H fun c H1=>if c=true then Q true H1 else u σ H1 Q
noncomputable def bu(t:TT):TT:=fun σ H Q=>t σ H fun c H1=>Q (!c) H1
theorem zsq(ha:PT X a tA):PW X (.BoolOp .And [a] pos) tA:=by
 intro wh pins s σ H Q I h
 refine isTrue_and (aN (ha pins s σ H Q I h) fun c s1 e=>?_)
 cases c with
 | true=>exact isTrue_and_nil e
 | false=>exact e
theorem zss(ha:PT X a tA):PW X (.BoolOp .Or [a] pos) tA:=by
 intro wh pins s σ H Q I h
 refine isTrue_or (aN (ha pins s σ H Q I h) fun c s1 e=>?_)
 cases c with
 | false=>exact isTrue_or_nil e
 | true=>exact e
theorem zsp(ha:PT X a tA)(hb:PW X (.BoolOp .And (b::rest) pos) xB):PW X (.BoolOp .And (a::b::rest) pos) (fL tA xB):=by
 intro wh pins s σ H Q I h
 refine isTrue_and (aN (ha pins s σ H _ I h) fun c s1 ⟨H1,I1,q1⟩=>?_)
 cases c with
 | true=>exact hb wh pins s1 σ H1 Q I1 q1
 | false=>exact⟨H1,I1,q1⟩
theorem zsr(ha:PT X a tA)(hb:PW X (.BoolOp .Or (b::rest) pos) xB):PW X (.BoolOp .Or (a::b::rest) pos) (bI tA xB):=by
 intro wh pins s σ H Q I h
 refine isTrue_or (aN (ha pins s σ H _ I h) fun c s1 ⟨H1,I1,q1⟩=>?_)
 cases c with
 | true=>exact⟨H1,I1,q1⟩
 | false=>exact hb wh pins s1 σ H1 Q I1 q1
theorem zrL(ha:PT X a tA):PT X (.UnaryOp .Not a pos) (bu tA):=by
 intro pins s σ H Q I h
 exact isTrue_not (ha pins s σ H (fun c H1=>Q (!c) H1) I h)
noncomputable def zt3(ta tb:TE):TE:=fun σ H Q=>ta σ H fun x H1=>∃ c,x=.bl c/\if c=true then tb σ H1 Q else Q (.bl false) H1
noncomputable def zuf(ta:TE):TE:=fun σ H Q=>ta σ H fun x H1=>∃ c,x=.bl c/\Q (.bl (!c)) H1
theorem zqX{op}(h:PE X a t):PE X (.BoolOp op [a] pos) t:=fun pins s σ H Q I hw=>BoolOp_one (h pins s σ H Q I hw)
theorem zqJ(ha:PE X a ta)(hb:PE X (.BoolOp .And (b::rest) pos) tb):PE X (.BoolOp .And (a::b::rest) pos) (zt3 ta tb):=by
 intro pins s σ H Q I h
 refine BoolOp_and (aN (ha pins s σ H _ I h) fun v s1 ⟨x,H1,I1,r1,q1⟩=>?_)
 obtain⟨c,rfl,q1⟩:=q1
 cases r1
 refine Bc ?_
 cases c with
 | true=>exact hb pins s1 σ H1 Q I1 q1
 | false=>exact⟨.bl false,H1,I1,rfl,q1⟩
theorem zqW(ha:PE X a ta):PE X (.UnaryOp .Not a pos) (zuf ta):=by
 intro pins s σ H Q I h
 refine UnaryOp_ (aN (ha pins s σ H _ I h) fun v s1 ⟨x,H1,I1,r1,q1⟩=>?_)
 obtain⟨c,rfl,q1⟩:=q1
 cases r1
 exact not_of (Bc ⟨.bl (!c),H1,I1,rfl,q1⟩)
end
end
variable {ta:TA}{vs:Array gV}{k n:Nat}{y:V}{Q:Unit->ir->Prop}{tc:TT}{te:TE}{c tg:o1}{t tb:TS}{body:List x8}{pos':xW}{g:TG}{es:List o1}
section
def bV(K:kb)(H:Hp)(a:dm)(xs:List V):Prop :=
 Rd H a (.lst xs) \/
  ∃(o:xU) (its:Array gV) (n:Nat),K.lookup a=some o/\o.cls=.type "list"/\o.dict=none/\o.data=.seq its n/\its.size<=yb/\Vals xs its.toList
def eB(K:kb)(H:Hp)(a:dm)(xs:List V):Prop :=
 Rd H a (.tup xs) \/
  ∃(o:xU) (its:Array gV) (n:Nat),K.lookup a=some o/\o.cls=.type "tuple"/\o.data=.seq its n/\its.size<=yb/\Vals xs its.toList
noncomputable def ziX:gV->Option V
 | .none=>some .non
 | .bool b=>some (.bl b)
 | .int i _=>some (.int i)
 | .str x _=>some (.str x)
 | .bytes b _=>some (.byt b)
 | .float b _=>some (.flt b)
 | .ref a=>some (.ref a)
 | .type n=>some (.ty n)
 | _=>none
theorem RelV.abs{x:V}(r:RelV x u):ziX u=some x:=by
 cases x with
 | non=>cases r;rfl
 | bl _=>cases r;rfl
 | int _=>obtain⟨t,rfl⟩:=r;rfl
 | str _=>obtain⟨t,rfl⟩:=r;rfl
 | byt _=>obtain⟨t,rfl⟩:=r;rfl
 | flt _=>obtain⟨t,rfl⟩:=r;rfl
 | ref _=>cases r;rfl
 | ty _=>cases r;rfl
theorem RelV.inj{x:V}(r:RelV x u)(q:RelV y u):x=y:=yN (r.abs.symm.trans q.abs)
theorem Vals.inj:∀{xs ys:List V} {us:List gV},Vals xs us->Vals ys us->xs=ys
 | _,_,_,.nil,.nil=>rfl
 | _,_,_,.cons r t,.cons r' t'=>by rw [r.inj r',Vals.inj t t']
section
variable {a:dm}{ys:List V}
theorem bV.of{K:kb}(h:H a=some (.lst xs)):bV K H a xs:=.inl (.inl h)
theorem Inv.list(I:Inv X pins σ H s)(h:bV X.K H a xs):∃ its:List gV,Vals xs its/\PlainL s.heap a its.toArray/\xs.length<=yb:=by
 rcases h with h|⟨o,its,n,hk,hc,hd,hs,hz,r⟩
 ·obtain⟨z,its,n,r,e⟩:=h.ok I.ax
  exact⟨its,r,⟨_,n,e,rfl,rfl,rfl⟩,z⟩
 ·refine⟨its.toList,r,⟨o,n,I.eJ a o hk,hc,hd,by simpa using hs⟩,?_⟩
  have e:=r.length
  simp only [BV] at e
  omega
theorem Inv.tuple(I:Inv X pins σ H s)(h:eB X.K H a xs):∃ its:List gV,Vals xs its/\Aq s.heap a its.toArray/\xs.length<=yb:=by
 rcases h with h|⟨o,its,n,hk,hc,hs,hz,r⟩
 ·obtain⟨z,its,r,p⟩:=h.ok I.ax
  exact⟨its,r,p,z⟩
 ·refine⟨its.toList,r,⟨o,I.eJ a o hk,hc,n,by simpa using hs⟩,?_⟩
  have e:=r.length
  simp only [BV] at e
  omega
theorem Inv.zf9(I:Inv X pins σ H s)(h:bV X.K H a xs)(h':bV X.K H a ys):xs=ys:=by
 obtain⟨its,r,⟨o,n,e,_,_,d⟩,_⟩:=I.list h
 obtain⟨g9,r',⟨o',n',e',_,_,d'⟩,_⟩:=I.list h'
 rw [e] at e';cases e'
 rw [d] at d'
 injection d' with d1 _
 have:its=g9:=by simpa using congrArg Array.toList d1
 subst this
 exact r.inj r'
theorem Inv.zut(I:Inv X pins σ H s)(h:eB X.K H a xs)(h':eB X.K H a ys):xs=ys:=by
 obtain⟨its,r,⟨o,e,_,n,d⟩,_⟩:=I.tuple h
 obtain⟨g9,r',⟨o',e',_,n',d'⟩,_⟩:=I.tuple h'
 rw [e] at e';cases e'
 rw [d] at d'
 injection d' with d1 _
 have:its=g9:=by simpa using congrArg Array.toList d1
 subst this
 exact r.inj r'
end
abbrev Cx.hZ(X:Cx)(E:gV->ir->Prop):Cx:={ X with xe:=E }
abbrev Cx.bT(X:Cx):Cx:=X.hZ fun _ _=>False
theorem Cx.Ok.hZ(ok:X.Ok)(E:gV->ir->Prop):(X.hZ E).Ok :=
 ⟨ok.mod,ok.kind,ok.glob,ok.blt,ok.above,ok.inj,ok.has,ok.mR,ok.hd,ok.frames,ok.pG,ok.oC,ok.bs,ok.jr,ok.nA,ok.mY,ok.gA,ok.jV,ok.tree,ok.sk⟩
theorem Cx.Ok.jj(ok:(X.hZ E).Ok):X.Ok :=
 ⟨ok.mod,ok.kind,ok.glob,ok.blt,ok.above,ok.inj,ok.has,ok.mR,ok.hd,ok.frames,ok.pG,ok.oC,ok.bs,ok.jr,ok.nA,ok.mY,ok.gA,ok.jV,ok.tree,ok.sk⟩
section
theorem Inv.hZ(I:Inv X pins σ H s)(E:gV->ir->Prop):Inv (X.hZ E) pins σ H s:=⟨I.ok.hZ E,I.os,I.bare,I.base,I.loc,I.cell,I.free,I.fO,I.pin,I.ax,I.len⟩
theorem Inv.jj(I:Inv (X.hZ E) pins σ H s):Inv X pins σ H s:=⟨I.ok.jj,I.os,I.bare,I.base,I.loc,I.cell,I.free,I.fO,I.pin,I.ax,I.len⟩
theorem SP.jj{D:Ends}{f:Flow}{s':ir}(h:SP (X.hZ E) pins D f s'):SP X pins D f s':=by
 cases f with
 | next=>obtain⟨σ',H',I,q⟩:=h;exact⟨σ',H',I.jj,q⟩
 | brk=>obtain⟨σ',H',I,q⟩:=h;exact⟨σ',H',I.jj,q⟩
 | cont=>obtain⟨σ',H',I,q⟩:=h;exact⟨σ',H',I.jj,q⟩
 | ret u=>obtain⟨v,σ',H',I,r,q⟩:=h;exact⟨v,σ',H',I.jj,r,q⟩
theorem PT.bT{t:TT}(h:PT X.bT e t):PT X e t:=fun pins s σ H Q I hw =>
 yA (h pins s σ H Q (I.hZ _) hw) (fun _ _ ⟨H',I',q⟩=>⟨H',I'.jj,q⟩) fun _ _ z=>za z
theorem bJ.bT{st:List x8}(h:bJ X.bT st t):bJ X st t:=fun pins s σ H D I hw =>
 yA (h pins s σ H D (I.hZ _) hw) (fun _ _ q=>q.jj) fun _ _ z=>za z
end
section
variable {st:x8}{rest:List x8}{u:TS}
noncomputable def zuc:TS:=fun D σ H=>D.nx σ H
noncomputable def zdk(t u:TS):TS:=fun D σ H=>t { D with nx:=u D } σ H
theorem zc1:bJ X [] zuc:=fun _ _ σ H _ I h=>BW ⟨σ,H,I,h⟩
theorem qS(h1:PS X st t)(h2:bJ X rest u):bJ X (st::rest) (zdk t u):=by
 intro pins s σ H D I h
 refine DQ (aN (h1 pins s σ H { D with nx:=u D } I h) fun f s1 q=>?_)
 cases f with
 | next =>
  obtain⟨σ',H',I',q⟩:=q
  exact h2 pins s1 σ' H' D I' q
 | ret v=>exact q
 | brk=>exact q
 | cont=>exact q
theorem qT(h1:PS X st t):bJ X [st] t:=by
 intro pins s σ H D I h
 refine DQ (aN (h1 pins s σ H D I h) fun f s1 q=>?_)
 cases f with
 | next=>exact BW q
 | ret v=>exact q
 | brk=>exact q
 | cont=>exact q
theorem Inv.quiet(I:Inv X pins σ H s):interactive X.env=false:=by simp [interactive,I.ok.kind]
noncomputable def zt5(te:TE):TS:=fun D σ H=>te σ H fun _ H1=>D.nx σ H1
theorem zha(he:PE X e te)(hs:yV e none pos.line X.env=pure false:=by rfl):PS X (.Expr e pos) (zt5 te):=by
 intro pins s σ H D I h
 exact wpAny_Expr_any (aN (he pins s σ H _ I h) fun v s1 ⟨x,H1,I1,r1,q1⟩=>⟨σ,H1,I1,q1⟩) I.quiet hs
noncomputable def zh4(te:TE):TS:=fun D σ H=>te σ H D.rt
theorem wZ(he:PE X e te):PS X (.Return (some e) pos) (zh4 te):=by
 intro pins s σ H D I h
 exact wpAny_Return_some (aN (he pins s σ H _ I h) fun v s1 ⟨x,H1,I1,r1,q1⟩=>⟨x,σ,H1,I1,r1,q1⟩)
noncomputable def zt8(c:TT)(t u:TS):TS:=fun D σ H=>c σ H fun b H1=>if b=true then t D σ H1 else u D σ H1
theorem zcZ{a b:List x8}(hc:PT X c tc)(ha:bJ X a t)(hb:bJ X b u):PS X (.If c a b pos) (zt8 tc t u):=by
 intro pins s σ H D I h
 refine wpAny_If (aN (hc pins s σ H _ I h) fun d s1 ⟨H1,I1,q1⟩=>?_)
 cases d with
 | true=>exact ha pins s1 σ H1 D I1 q1
 | false=>exact hb pins s1 σ H1 D I1 q1
noncomputable def zub:TS:=fun _ _ _=>False
theorem zhc:PS X st zub:=fun _ _ _ _ _ _ h=>h.elim
end
abbrev TG:=V->St->Hp->(St->Hp->Prop)->Prop
abbrev lh:=List V->St->Hp->(St->Hp->Prop)->Prop
def PG(X:Cx)(target:o1)(t:TG):Prop :=
 ∀(pins:List (dm×xU)) (s:ir) (σ:St) (H:Hp) (v:V) (u:gV) (Q:St->Hp->Prop),Inv X pins σ H s->RelV v u->t v σ H Q ->
  xS (xT X.prog X.w) X.A (AK target X.env u) (fun _ s'=>∃ σ' H',Inv X pins σ' H' s'/\Q σ' H') X.xe s
def k8(X:Cx)(ts:List o1)(t:lh):Prop :=
 ∀(pins:List (dm×xU)) (s:ir) (σ:St) (H:Hp) (vs:List V) (us:List gV) (Q:St->Hp->Prop),Inv X pins σ H s->Vals vs us->t vs σ H Q ->
  xS (xT X.prog X.w) X.A (DR ((zX ts X.env).map (·.2)) us) (fun _ s'=>∃ σ' H',Inv X pins σ' H' s'/\Q σ' H') X.xe s
abbrev zal:=V->V->V->Hp->(Hp->Prop)->Prop
def zdC(X:Cx)(t:zal):Prop :=
 ∀(pins:List (dm×xU)) (s:ir) (σ:St) (H:Hp) (o i v:V) (ov iv u:gV) (Q:Hp->Prop),Inv X pins σ H s->RelV o ov->RelV i iv->RelV v u->t o i v H Q ->
  xS (xT X.prog X.w) X.A (setItem ov iv u) (fun _ s'=>∃ H',Inv X pins σ H' s'/\Q H') X.xe s
section
noncomputable def sC(i:Nat):TG:=fun v σ H Q=>Q (σ.set i (some v)) H
theorem zq6(hN:X.N.Nodup)(hi:X.N[i]?=some x)(hx:Loc X.env.scope x)(hf:X.fn x=true\/X.env.scope.names.lookup x=some .local:=by first|exact .inl rfl|exact .inr rfl|assumption):PG X (.Name x pos) (sC i):=by
 intro pins s σ H v u Q I r h
 exact wpAny_assign_Name (uD I hN hi hx r (fun s' I'=>⟨_,H,I',h⟩) hf)
noncomputable def zlN:lh:=fun vs σ H Q=>vs=[]/\Q σ H
noncomputable def zlM(t:TG)(u:lh):lh:=fun vs σ H Q=>∃ v r,vs=v::r/\t v σ H fun σ' H'=>u r σ' H' Q
theorem zra:k8 X [] zlN:=by
 intro pins s σ H vs us Q I r h
 obtain⟨e,h⟩:=h
 subst e
 cases r
 exact assignInOrder_nil ⟨σ,H,I,h⟩
theorem zq9{t:TG}{u:lh}(h1:PG X e t)(h2:k8 X es u)
  (hs:(zX (e::es) X.env).map (·.2)=AK e X.env::(zX es X.env).map (·.2):=by rfl):k8 X (e::es) (zlM t u):=by
 intro pins s σ H vs us Q I r h
 obtain⟨v,vr,e1,h⟩:=h
 subst e1
 cases r with
 | cons r rr =>
  rw [hs]
  refine DS (aN (h1 pins s σ H _ _ _ I r h) fun _ s1 ⟨σ1,H1,I1,q1⟩=>?_)
  exact h2 pins s1 σ1 H1 _ _ Q I1 rr q1
noncomputable def zlP(K:kb)(n:Nat)(t:lh):TG:=fun v σ H Q=>∃ a xs,v=.ref a/\eB K H a xs/\xs.length=n/\t xs σ H Q
theorem zq8{t:lh}(hc:X.calm=true)(h:k8 X es t)
  (hn:(zX es X.env).length=n:=by rfl)(b8:(zX es X.env).findIdx? (·.1)=none:=by rfl):PG X (.Tuple es k pos) (zlP X.K n t):=by
 intro pins s σ H v u Q I r hw
 obtain⟨a,xs,e1,hq,hl,hw⟩:=hw
 subst e1
 cases r
 obtain⟨its,rv,ht,hz⟩:=I.tuple hq
 refine assign_Tuple_tuple (I.ok.hd hc) ht (by simp [hn,<- hl,rv.length]) b8 fun h' hx=>?_
 have I1:Inv X pins σ H { s with heap:=h' }:=I.kept (t':=s.toks) fun b o e=>hx b o (yI (yo e)) e
 exact h pins _ σ H xs _ Q I1 (by simpa using rv) hw
noncomputable def zlO(to ti:TE)(t:zal):TG:=fun v σ H Q=>to σ H fun o H1=>ti σ H1 fun i H2=>t o i v H2 fun H3=>Q σ H3
theorem zq7{o i:o1}{to ti:TE}{t:zal}(ho:PE X o to)(hi:PE X i ti)(hs:zdC X t)
  (ha:∀ v,AK (.Subscript o i pos) X.env v=(do
   let ov <- Bo [v] (xZ o X.env)
   let iv <- Bo [v,ov] (xZ i X.env)
   standAt pos
   Bo [v,ov,iv] (setItem ov iv v)
   release [v,ov,iv] []):=by intro _;rfl):PG X (.Subscript o i pos) (zlO to ti t):=by
 intro pins s σ H v u Q I r h
 rw [ha]
 refine lb (zC (aN (ho pins s σ H _ I h) fun ov s1 ⟨x,H1,I1,r1,q1⟩=>?_))
 refine lb (zC (aN (hi pins s1 σ H1 _ I1 q1) fun iv s2 ⟨y,H2,I2,r2,q2⟩=>?_))
 refine lb (Bp (lb (zC (aN (hs pins s2 σ H2 x y v ov iv u _ I2 r1 r2 r q2) fun _ s3 ⟨H3,I3,q3⟩=>?_))))
 exact wpAny_release ⟨σ,H3,I3,q3⟩
noncomputable def uE(te:TE)(g:TG):TS:=fun D σ H=>te σ H fun x H1=>g x σ H1 D.nx
theorem zg9(he:PE X e te)(hg:PG X tg g)(hs:BX [tg] e pos.line X.env=pure false:=by rfl)(hw:BZ [tg] e X.env=pure none:=by rfl)
  (h1:(zX [tg] X.env).map (·.2)=[AK tg X.env]:=by rfl):PS X (.Assign [tg] e pos) (uE te g):=by
 intro pins s σ H D I h
 refine wpAny_Assign_stores (aN (he pins s σ H _ I h) fun v s1 ⟨x,H1,I1,r1,q1⟩=>?_) hs hw
 rw [h1]
 exact aN (hg pins s1 σ H1 x v _ I1 r1 q1) fun _ s2 q=>q
theorem o9(hN:X.N.Nodup)(hi:X.N[i]?=some x)(hx:Loc X.env.scope x)(he:PE X e te)(hs:yV e (some (.Name x pos')) pos.line X.env=pure false:=by rfl)(hf:X.fn x=true\/X.env.scope.names.lookup x=some .local:=by first|exact .inl rfl|exact .inr rfl|assumption) :
  PS X (.Assign [.Name x pos'] e pos) (uE te (sC i)):=by
 intro pins s σ H D I h
 refine wpAny_Assign_Name (aN (he pins s σ H _ I h) fun v s1 ⟨y,H1,I1,r1,q1⟩=>?_) hs
 exact uD I1 hN hi hx r1 (fun s2 I2=>⟨_,H1,I2,q1⟩) hf
noncomputable def zug(i j:Nat)(ta:TA):TS:=fun D σ H=>ta σ H fun vs H1=>∃ v w,vs=[v,w]/\D.nx ((σ.set i (some v)).set j (some w)) H1
theorem zrt{y:ib}{b:o1}{px py pt:xW}{kt k2 jI}(hc:X.calm=true)(hN:X.N.Nodup)(hi:X.N[i]?=some x)(hj:X.N[j]?=some y)(dX:i≠j)
  (hx:X.env.scope.names.lookup x=some .local)(hy:X.env.scope.names.lookup y=some .local)(ha:PA X [a,b] ta)
  (hw:BZ [.Tuple [.Name x px,.Name y py] kt pt] (.Tuple [a,b] k2 jI) X.env=pure (some [x,y]))
  (hs:BX [.Tuple [.Name x px,.Name y py] kt pt] (.Tuple [a,b] k2 jI) pos.line X.env=pure false:=by rfl) :
  PS X (.Assign [.Tuple [.Name x px,.Name y py] kt pt] (.Tuple [a,b] k2 jI) pos) (zug i j ta):=by
 intro pins s σ H D I h
 rw [exec_Assign_arm]
 refine lb (Bp ?_)
 rw [hs]
 refine lb (xX ?_)
 rw [if_neg (by decide)]
 refine lb (Tuple_ (aN (ha _ pins s σ H _ I h) fun us s1 ⟨vs,H1,I1,r1,q1⟩=>?_))
 obtain⟨v,w,e1,q1⟩:=q1
 subst e1
 obtain⟨u1,u2,rfl,rv,hU⟩:∃ u1 u2,us=[u1,u2]/\RelV v u1/\RelV w u2:=by
  cases r1 with
  | cons p q =>
   cases q with
   | cons p' q' =>
    cases q'
    exact⟨_,_,rfl,p,p'⟩
 refine Ah ?_ (by show 2<=yb;decide)
 have I2:Inv X pins σ H1 { s1 with heap:=s1.heap.push { cls:=.type "tuple",data:=.seq [u1,u2].toArray } }:=I1.kept (t':=s1.toks) fun b o e=>yh _ e
 rw [hw]
 refine lb (xX ?_)
 show xS (xT X.prog X.w) X.A (do rule "assign.swapped-stores";let items <- unpackItems (.ref s1.heap.objs.size) 2 none;DR [fun v=>Cu X.env y v,fun v=>Cu X.env x v] items.reverse;pure Flow.next) _ _ _
 refine lb (C0 (lb (unpackItems_tuple (items:=#[u1,u2]) (I.ok.hd hc) (Cv s1.heap _) fun h' hx'=>?_)))
 have I3:=I2.kept (h':=h') (t':=s1.toks) fun b o e=>hx' b o (yI (yo e)) e
 show xS _ _ (DR [fun v=>Cu X.env y v,fun v=>Cu X.env x v] [u2,u1] >>= fun _=>pure Flow.next) _ _ _
 refine lb (DS (wpAny_bindName (uD I3 hN hj (.inl hy) hU (fun s2 I4=>?_) (.inr hy))))
 refine DS (wpAny_bindName (uD I4 hN hi (.inl hx) rv (fun s3 I5=>assignInOrder_nil (xX ?_)) (.inr hx)))
 rw [List.set_comm _ _ (yU dX)] at I5
 exact⟨_,H1,I5,q1⟩
end
section
noncomputable def zul(c:TT)(tb:TS):TS:=fun D σ H=>∃ W:Nat->St->Hp->Prop,(∃ m,W m σ H)/\∀ m σ H,W m σ H ->
 c σ H fun b H1=>if b=true then ∃ N:St->Hp->Prop,(∀ σ' H',N σ' H'->∃ m',m'<m/\W m' σ' H')/\tb { D with nx:=N,ct:=N,bk:=D.nx } σ H1 else D.nx σ H1
theorem zrx(hp:Bq (xT X.prog X.w) X.A X.env X.xe)(hc:PT X c tc)(hb:bJ X body tb):PS X (.While c body [] pos) (zul tc tb):=by
 intro pins s σ H D I h
 obtain⟨W,⟨m0,w0⟩,turn⟩:=h
 refine wpAny_While (codeAny_whileLoop (fun n s'=>∃ σ' H',Inv X pins σ' H' s'/\W n σ' H') ?_ m0 ⟨σ,H,I,w0⟩)
 rintro n s1 ⟨σ1,H1,I1,w1⟩
 refine Br hp (aN (hc pins s1 σ1 H1 _ I1 (turn n σ1 H1 w1)) fun b s2 ⟨H2,I2,q2⟩=>?_)
 cases b with
 | true =>
  obtain⟨N,hN,q2⟩:=q2
  rw [if_pos rfl]
  refine Br hp (aN (hb pins s2 σ1 H2 _ I2 q2) fun f s3 q3=>?_)
  cases f with
  | next =>
   obtain⟨σ3,H3,I3,n3⟩:=q3
   obtain⟨m',hm,w3⟩:=hN σ3 H3 n3
   exact⟨m',hm,σ3,H3,I3,w3⟩
  | cont =>
   obtain⟨σ3,H3,I3,n3⟩:=q3
   obtain⟨m',hm,w3⟩:=hN σ3 H3 n3
   exact⟨m',hm,σ3,H3,I3,w3⟩
  | brk=>exact q3
  | ret v=>exact q3
 | false =>
  rw [if_neg zy]
  exact BW ⟨σ1,H2,I2,q2⟩
end
structure It where
 go:Nat->Hp->Prop
 xR:Nat->Hp->V->Hp->Prop
 stop:Nat->Hp->Prop
def gH(X:Cx)(pins:List (dm×xU))(H:Hp)(b:dm):Prop :=
 H b=none/\b≠X.env.locals/\b∉X.fs/\(b∈X.ex\/X.s₀.heap.objs.size<=b)/\(∀ x c,X.env.cells.lookup x=some c->c≠b)/\∀ p∈X.pn++pins,p.1≠b
theorem Inv.oG(I:Inv X pins σ H s)(hb:s.heap.objs.size<=b)(hn:H' b=none):gH X pins H' b:=by
 refine⟨hn,B3 (zc I.lt hb),I.zgH hb,.inr (yx I.sz hb),fun x c e z=>?_,fun p hp z=>?_⟩
 ·obtain⟨v,q⟩:=I.cell x c e
  exact absurd (zc q.lt (by rw [z];exact hb)) (Bl _)
 ·exact absurd (zc (yo (I.pin p hp).1) (by rw [z];exact hb)) (Bl _)
structure Turn(P:x6)(w:x5)(K:kb)(tg:o1)(J:It)(fp:List dm)(it:dm)(tn:Nat->xV->Prop):Prop where
 mem:it∈fp
 obj:∀ i h,tn i h->∀ b∈fp,∃ o,h.get? b=some o/\∀ v,o.data≠.cell v
 keep:∀ i h h',tn i h->(∀ b∈fp,∀ o,h.get? b=some o->h'.get? b=some o)->tn i h'
 item:∀(X:Cx),X.prog=P->X.w=w->X.K=K->X.calm=true->∀(i:Nat) (pins:List (dm×xU)) (s:ir) (σ:St) (H:Hp) (E:gV->ir->Prop),Inv X pins σ H s->(∀ b∈fp,gH X pins H b)->tn i s.heap->J.go i H ->
  xS (xT P w) X.A (Bs (.ref it)) (fun r s1=>∃ u,r=some u /\
   xS (xT P w) X.A (C1 tg (.ref it) u) (fun _ s2=>∃ x H',Inv X pins σ H' s2/\RelV x u/\J.xR i H x H'/\tn (i+1) s2.heap/\∀ b∈fp,H' b=none) E s1) E s
 done:∀(X:Cx),X.prog=P->X.w=w->X.K=K->X.calm=true->∀(i:Nat) (pins:List (dm×xU)) (s:ir) (σ:St) (H:Hp) (E:gV->ir->Prop),Inv X pins σ H s->(∀ b∈fp,gH X pins H b)->tn i s.heap->J.stop i H ->
  xS (xT P w) X.A (Bs (.ref it)) (fun r s1=>r=none/\Inv X pins σ H s1) E s
 self:∀(A:ya) (i:Nat) (s:ir) (Q:gV->ir->Prop) (E:gV->ir->Prop),tn i s.heap->Q (.ref it) s->xS (xT P w) A (pyIter (.ref it)) Q E s
abbrev TI:=St->Hp->(It->Hp->Prop)->Prop
def PIE(X:Cx)(pins:List (dm×xU))(σ:St)(tg:o1)(R:It->Hp->Prop)(itv:gV)(s2:ir):Prop :=
 ∃(it:dm) (fp:List dm) (tn:Nat->xV->Prop) (J:It) (H':Hp),itv=.ref it/\Inv X pins σ H' s2/\Turn X.prog X.w X.K tg J fp it tn/\tn 0 s2.heap/\(∀ b∈fp,gH X pins H' b)/\R J H'
def PI(X:Cx)(tg iter:o1)(wi:TI):Prop :=
 ∀(pins:List (dm×xU)) (s:ir) (σ:St) (H:Hp) (R:It->Hp->Prop),Inv X pins σ H s->wi σ H R ->
  xS (xT X.prog X.w) X.A (xZ iter X.env) (fun v s1=>xS (xT X.prog X.w) X.A (pyIter v) (PIE X pins σ tg R) X.xe s1) X.xe s
theorem zbK{n:String}(ho:s.heap.get? it=some o)(hc:o.cls=.type n)(hd:o.data=.fields vs)
    (hn:["enumerate","zip","dict_itemiterator","dict_reverseitemiterator","odict_iterator","itertools.zip_longest","itertools.pairwise"].contains n=false) (hQ:Q () s):xS M A (C1 tg (.ref it) u) Q E s:=by
  unfold C1
  cases tg <;> first
    | exact xX hQ
    | (cases u <;> first
        | exact xX hQ
        | (refine lb (wpAny_load ho ?_)
           rw [hc,hd]
           show xS M A (if(["enumerate","zip","dict_itemiterator","dict_reverseitemiterator","odict_iterator","itertools.zip_longest","itertools.pairwise"].contains n&&vs[0]?==some (zY _))=true then _ else _) Q E s
           rw [if_neg (by intro h;rw [hn,Cw] at h;cases h)]
           exact xX hQ))
noncomputable def Itl(K:kb)(a:dm):It :=
 ⟨fun i H=>∃ xs x,bV K H a xs/\xs[i]?=some x,fun i H x H'=>H'=H/\∀ xs,bV K H a xs->xs[i]?=some x,fun i H=>∃ xs,bV K H a xs/\xs.length<=i⟩
noncomputable def Itt(K:kb)(a:dm):It :=
 ⟨fun i H=>∃ xs x,eB K H a xs/\xs[i]?=some x,fun i H x H'=>H'=H/\∀ xs,eB K H a xs->xs[i]?=some x,fun i H=>∃ xs,eB K H a xs/\xs.length<=i⟩
noncomputable def rE(lo:Int)(n:Nat):It:=⟨fun i _=>i<n,fun i H x H'=>H'=H/\x=.int (lo+i),fun i _=>n<=i⟩
theorem zux{K:kb}(a it:dm):Turn P w K tg (Itl K a) [it] it (fun i h=>h.IsListIter it a i) where
 mem:=by simp
 obj:=fun i h st b hb=>by
  have e:b=it:=by simpa using hb
  subst e
  obtain⟨o,e,c,d⟩:=st
  exact⟨o,e,fun v z=>by rw [d] at z;cases z⟩
 keep:=fun i h h' st k=>st.at fun o e=>k it (by simp) o e
 item:=by
  intro X hP hw hK hc i pins s σ H E I hf st hg
  subst hP hw hK
  obtain⟨xs,x,hq,hx⟩:=hg
  obtain⟨its,rv,p,hz⟩:=I.list hq
  obtain⟨u,hu,ru⟩:=rv.get hx
  obtain⟨f0,f1,f2,f3,f4,f5⟩:=hf it (by simp)
  refine wpAny_pyNext_list_item st p.isList (x:=u) (by simpa using hu) fun h' iN sb=>?_
  have I1:Inv X pins σ H { s with heap:=h' }:=I.turned (t':=s.toks) (fun b o hb e=>(sb.2 b hb).trans e) f0 f1 f3 f4 f5
  obtain⟨o,e,c,d⟩:=id iN
  exact⟨u,rfl,zbK (s:={ s with heap:=h' }) e c d (by decide) ⟨x,H,I1,ru,⟨rfl,fun ys hy=>by rw [I.zf9 hy hq];exact hx⟩,iN,fun b hb=>(hf b hb).1⟩⟩
 done:=by
  intro X hP hw hK hc i pins s σ H E I hf st hg
  subst hP hw hK
  obtain⟨xs,hq,hx⟩:=hg
  obtain⟨its,rv,p,hz⟩:=I.list hq
  obtain⟨f0,f1,f2,f3,f4,f5⟩:=hf it (by simp)
  have hl:=rv.length
  exact wpAny_pyNext_list_end (I.ok.hd hc) st p.isList (by simp;omega) fun h' eb=>⟨rfl,I.turned (t':=s.toks) (fun b o hb e=>eb b o hb e) f0 f1 f3 f4 f5⟩
 self:=fun _ _ _ _ _ st h=>wpAny_pyIter_listiter st h
theorem zuz{K:kb}(a it:dm):Turn P w K tg (Itt K a) [it] it (fun i h=>h.IsTupleIter it a i) where
 mem:=by simp
 obj:=fun i h st b hb=>by
  have e:b=it:=by simpa using hb
  subst e
  obtain⟨o,e,c,d⟩:=st
  exact⟨o,e,fun v z=>by rw [d] at z;cases z⟩
 keep:=fun i h h' st k=>st.at fun o e=>k it (by simp) o e
 item:=by
  intro X hP hw hK hc i pins s σ H E I hf st hg
  subst hP hw hK
  obtain⟨xs,x,hq,hx⟩:=hg
  obtain⟨its,rv,p,hz⟩:=I.tuple hq
  obtain⟨u,hu,ru⟩:=rv.get hx
  obtain⟨f0,f1,f2,f3,f4,f5⟩:=hf it (by simp)
  refine wpAny_pyNext_tuple_item st (show s.heap.IsTuple a its.toArray from p) (x:=u) (by simpa using hu) fun h' iN sb=>?_
  have I1:Inv X pins σ H { s with heap:=h' }:=I.turned (t':=s.toks) (fun b o hb e=>(sb.2 b hb).trans e) f0 f1 f3 f4 f5
  obtain⟨o,e,c,d⟩:=id iN
  exact⟨u,rfl,zbK (s:={ s with heap:=h' }) e c d (by decide) ⟨x,H,I1,ru,⟨rfl,fun ys hy=>by rw [I.zut hy hq];exact hx⟩,iN,fun b hb=>(hf b hb).1⟩⟩
 done:=by
  intro X hP hw hK hc i pins s σ H E I hf st hg
  subst hP hw hK
  obtain⟨xs,hq,hx⟩:=hg
  obtain⟨its,rv,p,hz⟩:=I.tuple hq
  obtain⟨f0,f1,f2,f3,f4,f5⟩:=hf it (by simp)
  have hl:=rv.length
  exact wpAny_pyNext_tuple_end (I.ok.hd hc) st (show s.heap.IsTuple a its.toArray from p) (by simp;omega) fun h' eb=>⟨rfl,I.turned (t':=s.toks) (fun b o hb e=>eb b o hb e) f0 f1 f3 f4 f5⟩
 self:=fun _ _ _ _ _ st h=>wpAny_pyIter_tupleiter st h
theorem zuy{K:kb}(it:dm)(lo:Int)(n:Nat):Turn P w K tg (rE lo n) [it] it (fun i h=>IsRangeIter h it (lo+(i:Nat)*1) ((n:Int)-(i:Nat)) 1) where
 mem:=by simp
 obj:=fun i h st b hb=>by
  have e:b=it:=by simpa using hb
  subst e
  exact⟨_,st,fun v z=>by
   have z':Data.fields _=Data.cell v:=z
   cases z'⟩
 keep:=fun i h h' st k=>k it (by simp) _ st
 item:=by
  intro X hP hw hK hc i pins s σ H E I hf st hg
  subst hP hw hK
  obtain⟨f0,f1,f2,f3,f4,f5⟩:=hf it (by simp)
  have W:=Walks.range (prog:=X.prog) (w:=X.w) (I.ok.hd hc) it lo 1 n
  refine W.item i s _ _ hg st fun v h' tk hv iN kk=>?_
  obtain⟨t,rfl⟩:=hv
  have I1:Inv X pins σ H { s with heap:=h',toks:=tk }:=I.turned (fun b o hb e=>kk b o (by simpa using hb) e) f0 f1 f3 f4 f5
  refine⟨_,rfl,zbK (s:={ s with heap:=h',toks:=tk }) (n:="range_iterator") iN rfl rfl (by decide) ⟨.int (lo+i),H,I1,⟨t,?_⟩,⟨rfl,rfl⟩,iN,fun b hb=>(hf b hb).1⟩⟩
  rw [Int.mul_one]
 done:=by
  intro X hP hw hK hc i pins s σ H E I hf st hg
  subst hP hw hK
  obtain⟨f0,f1,f2,f3,f4,f5⟩:=hf it (by simp)
  exact wpAny_pyNext_range_end (I.ok.hd hc) st (by have:n<=i:=hg;omega) fun h' eb=>⟨rfl,I.turned (t':=s.toks) (fun b o hb e=>eb b o hb e) f0 f1 f3 f4 f5⟩
 self:=fun _ _ _ _ _ st h=>wpAny_pyIter_rangeiter st h
end
variable {wi:TI}{tc:TE}{tk:Nat}{fp:List dm}{p:xW}{iter:o1}{t:TA}
section
section
theorem zhH{R:It->Hp->Prop}{lo hi:Int}{t u v:yS}(I:Inv X pins σ H s)(h1:-(2^62)<=lo)(h2:lo<2^62)(h3:-(2^62)<=hi)(h4:hi<2^62)
  (q:R (rE lo (hi-lo).toNat) H):xS (xT X.prog X.w) X.A (pyIter (.ref s.heap.objs.size)) (PIE X pins σ tg R) E { s with heap:=s.heap.push { cls:=.type "range",data:=.fields #[.int lo t,.int hi u,.int 1 v] },toks:=tk }:=by
 refine wpAny_pyIter_range (IsRange.new ..) (small_one h1 h2 h3 h4) ?_
 have I1:Inv X pins σ H { s with heap:=s.heap.push { cls:=.type "range",data:=.fields #[.int lo t,.int hi u,.int 1 v] },toks:=tk }:=I.kept fun b o e=>yh _ e
 refine⟨(s.heap.push { cls:=.type "range",data:=.fields #[.int lo t,.int hi u,.int 1 v] }).objs.size,[(s.heap.push { cls:=.type "range",data:=.fields #[.int lo t,.int hi u,.int 1 v] }).objs.size],_,_,H,rfl,
  I1.kept (t':=tk) fun b o e=>yh _ e,zuy _ lo (hi-lo).toNat,?_,fun b hb=>?_,q⟩
 ·have e1:lo+((0:Nat):Int)*1=lo:=by simp
  have e2:(((hi-lo).toNat:Nat):Int)-((0:Nat):Int)=Builtin.Range.rangeSize lo hi 1:=by rw [rangeSize_one];split <;> omega
  show IsRangeIter _ _ (lo+((0:Nat):Int)*1) ((((hi-lo).toNat:Nat):Int)-((0:Nat):Int)) 1
  rw [e1,e2]
  exact yY _ rfl
 ·have e:b=(s.heap.push { cls:=.type "range",data:=.fields #[.int lo t,.int hi u,.int 1 v] }).objs.size:=by simpa using hb
  subst e
  exact I1.oG (x9 _) (I1.ax.fresh (x9 _))
noncomputable def zmr(ta:TA):TI:=fun σ H R=>ta σ H fun vs H1=>∃ j:Int,vs=[.int j]/\-(2^62)<=j/\j<2^62/\R (rE 0 j.toNat) H1
noncomputable def zms(ta:TA):TI:=fun σ H R=>ta σ H fun vs H1=>∃ i j:Int,vs=[.int i,.int j]/\(-(2^62)<=i/\i<2^62/\-(2^62)<=j/\j<2^62)/\R (rE i (j-i).toNat) H1
theorem zrc(hg:Gl X "range") (hm:X.mg "range"=none) (ha:PA X [a] ta) (hs:pd [a] X.env=[(false,xZ a X.env)]:=by rfl):PI X tg (.Call (.Name "range" p) [a] [] pos) (zmr ta):=by
 intro pins s σ H R I h
 refine Call_ (qH I hg hm boot_range (C2 (aN (ha pos pins s σ H _ I h) fun us s1 ⟨vs,H1,I1,r1,q1⟩=>?_) hs rfl))
 obtain⟨j,e,q1,q2,q⟩:=q1
 subst e
 cases r1 with
 | cons r rr =>
  cases rr
  obtain⟨t,rfl⟩:=r
  exact call_range_1 (zhH I1 (by omega) (by omega) q1 q2 (by simpa using q))
theorem zrd{b:o1}(hg:Gl X "range") (hm:X.mg "range"=none) (ha:PA X [a,b] ta) (hs:pd [a,b] X.env=[(false,xZ a X.env),(false,xZ b X.env)]:=by rfl) (eZ:pd [b] X.env=[(false,xZ b X.env)]:=by rfl) :
  PI X tg (.Call (.Name "range" p) [a,b] [] pos) (zms ta):=by
 intro pins s σ H R I h
 refine Call_ (qH I hg hm boot_range (C2 (aN (ha pos pins s σ H _ I h) fun us s1 ⟨vs,H1,I1,r1,q1⟩=>?_) (by rw [hs,eZ]) (by rw [eZ];rfl)))
 obtain⟨i,j,e,⟨q1,q2,q3,q4⟩,q⟩:=q1
 subst e
 cases r1 with
 | cons r rr =>
  cases rr with
  | cons r' rr =>
   cases rr
   obtain⟨t,rfl⟩:=r
   obtain⟨t',rfl⟩:=r'
   exact call_range_2 (zhH I1 q1 q2 q3 q4 q)
noncomputable def zt7(wi:TI)(g:TG)(tb:TS):TS:=fun D σ H=>wi σ H fun J H1=>∃ W:Nat->Nat->St->Hp->Prop,(∃ m,W 0 m σ H1)/\∀ i m σ H,W i m σ H ->
 (J.stop i H/\D.nx σ H)\/(J.go i H/\∃ N:St->Hp->Prop,(∀ σ' H',N σ' H'->∃ m',m'<m/\W (i+1) m' σ' H')/\∀ x H',J.xR i H x H'->g x σ H' fun σ2 H2=>tb { D with nx:=N,ct:=N,bk:=D.nx } σ2 H2)
noncomputable def tX(fp:List dm)(h:xV):List (dm×xU):=fp.filterMap fun b=>(h.get? b).map fun o=>(b,o)
theorem wD(hb:b∈fp)(e:h.get? b=some o):(b,o)∈tX fp h:=DT.mpr ⟨b,hb,by rw [e];rfl⟩
theorem zqi{p:dm×xU}(hp:p∈tX fp h):p.1∈fp/\h.get? p.1=some p.2:=by
 obtain⟨b,hb,e⟩:=DT.mp hp
 cases q:h.get? b with
 | none=>rw [q] at e;cases e
 | some o =>
  rw [q] at e
  have e':(b,o)=p:=yN e
  subst e'
  exact⟨hb,q⟩
theorem Inv.pinned(I:Inv X pins σ H s)(hf:∀ b∈fp,gH X pins H b)(ho:∀ b∈fp,∃ o,s.heap.get? b=some o/\∀ v,o.data≠.cell v):Inv X (pins++tX fp s.heap) σ H s :=
 I.zg4 fun p hp=>(Au.mp hp).elim (fun z=>I.pin p (zZ _ z)) fun z=>by
  obtain⟨hb,e⟩:=zqi z
  obtain⟨f0,f1,f2,_⟩:=hf p.1 hb
  obtain⟨o,e',d⟩:=ho p.1 hb
  rw [e] at e';cases e'
  exact⟨e,f0,f1,f2,d⟩
theorem Inv.xM{pl:List (dm×xU)}(I:Inv X (pins++pl) σ H s):Inv X pins σ H s:=I.zg4 fun p hp=>I.pin p (zZ _ (Bm _ hp))
theorem zhb(hp:Bq (xT X.prog X.w) X.A X.env X.xe)(hc:X.calm=true)(hi:PI X tg iter wi)(hg:PG X tg g)(hb:bJ X body tb)
  (hs:∀ x,AO iter X.env x=pure x:=by intro _;rfl):PS X (.For tg iter body [] pos) (zt7 wi g tb):=by
 intro pins s σ H D I h
 refine wpAny_For (aN (hi pins s σ H _ I h) fun v s1 h1=>aN h1 fun itv s2 h2=>?_) hs
 obtain⟨it,fp,tn,J,H2,e,I2,T,du,f2,W,⟨m0,w0⟩,turn⟩:=h2
 subst e
 have stat:∀{H':Hp},(∀ b∈fp,H' b=none)->∀ b∈fp,gH X pins H' b:=fun hn b hb=>⟨hn b hb,(f2 b hb).2⟩
 refine codeAny_forLoop_any (fun n s'=>∃ i σ' H',Inv X pins σ' H' s'/\tn i s'.heap/\(∀ b∈fp,H' b=none)/\W i n σ' H') ?_ m0 ⟨0,σ,H2,I2,du,fun b hb=>(f2 b hb).1,w0⟩
 rintro n s3 ⟨i,σ3,H3,I3,pF,fr3,w3⟩
 rcases turn i n σ3 H3 w3 with⟨stop,qn⟩|⟨go,N,hN,step⟩
 ·refine Br hp (aN (T.done X rfl rfl rfl hc i pins s3 σ3 H3 X.xe I3 (stat fr3) pF stop) fun r s4 ⟨hr,I4⟩=>?_)
  subst hr
  exact BW ⟨σ3,H3,I4,qn⟩
 ·refine Br hp (aN (T.item X rfl rfl rfl hc i pins s3 σ3 H3 X.xe I3 (stat fr3) pF go) fun r s4 ⟨u,hr,h4⟩=>?_)
  subst hr
  refine Br hp (aN h4 fun _ s5 ⟨x,H5,I5,r5,y5,mH,fr5⟩=>?_)
  have I5':=I5.pinned (stat fr5) (T.obj _ _ mH)
  refine Br hp (aN (hg _ s5 σ3 H5 x u _ I5' r5 (step x H5 y5)) fun _ s6 ⟨σ6,H6,I6,q6⟩=>?_)
  refine Br hp (aN (hb _ s6 σ6 H6 _ I6 q6) fun f s7 q7=>?_)
  have again:∀{σ7:St} {H7:Hp},Inv X (pins++tX fp s5.heap) σ7 H7 s7->N σ7 H7->∃ m,m<n/\∃ i σ' H',Inv X pins σ' H' s7/\tn i s7.heap/\(∀ b∈fp,H' b=none)/\W i m σ' H':=fun{σ7 H7} I7 n7=>by
   obtain⟨m',hm,w7⟩:=hN σ7 H7 n7
   refine⟨m',hm,i+1,σ7,H7,I7.xM,T.keep _ _ _ mH fun b hb o e=>(I7.pin (b,o) (zZ _ (zZ _ (wD hb e)))).1,fun b hb=>?_,w7⟩
   obtain⟨o,e,d⟩:=T.obj _ _ mH b hb
   exact(I7.pin (b,o) (zZ _ (zZ _ (wD hb e)))).2.1
  cases f with
  | next=>obtain⟨σ7,H7,I7,n7⟩:=q7;exact again I7 n7
  | cont=>obtain⟨σ7,H7,I7,n7⟩:=q7;exact again I7 n7
  | brk=>obtain⟨σ7,H7,I7,q7⟩:=q7;exact⟨σ7,H7,I7.xM,q7⟩
  | ret v=>obtain⟨x7,σ7,H7,I7,r7,q7⟩:=q7;exact⟨x7,σ7,H7,I7.xM,r7,q7⟩
end
end
variable {κ:Type}{ta tb:TE}{its:List gV}{C:Int->Int->Prop}{b:o1}{r r':R2}{gP:zx}{f:gV->gV->Sem gV}{g:Int->Int->Int}{o:Option gV}
section
abbrev R2:=V->V->Hp->VK->Prop
def bf(X:Cx)(f:gV->gV->Sem gV)(r:R2):Prop :=
 ∀(pins:List (dm×xU)) (s:ir) (σ:St) (H:Hp) (x y:V) (v u:gV) (Q:VK),Inv X pins σ H s->RelV x v->RelV y u->r x y H Q ->
  xS (xT X.prog X.w) X.A (f v u) (EP X pins σ Q) X.xe s
def rN(X:Cx)(f:gV->Sem gV)(r:V->Hp->VK->Prop):Prop :=
 ∀(pins:List (dm×xU)) (s:ir) (σ:St) (H:Hp) (x:V) (v:gV) (Q:VK),Inv X pins σ H s->RelV x v->r x H Q ->
  xS (xT X.prog X.w) X.A (f v) (EP X pins σ Q) X.xe s
def gG(X:Cx)(f:gV)(r:List V->Hp->VK->Prop):Prop :=
 ∀(pins:List (dm×xU)) (s:ir) (σ:St) (H:Hp) (xs:List V) (us:List gV) (Q:VK),Inv X pins σ H s->Vals xs us->r xs H Q ->
  xS (xT X.prog X.w) X.A (call f us) (EP X pins σ Q) X.xe s
def zaq(X:Cx)(r:V->Hp->(Bool->Hp->Prop)->Prop):Prop :=
 ∀(pins:List (dm×xU)) (s:ir) (σ:St) (H:Hp) (x:V) (v:gV) (Q:Bool->Hp->Prop),Inv X pins σ H s->RelV x v->r x H Q ->
  xS (xT X.prog X.w) X.A (truthy v) (TP X pins σ Q) X.xe s
noncomputable def pI(r:R2)(ta tb:TE):TE:=fun σ H Q=>ta σ H fun x H1=>tb σ H1 fun y H2=>r x y H2 Q
noncomputable def tUn(r:V->Hp->VK->Prop)(ta:TE):TE:=fun σ H Q=>ta σ H fun x H1=>r x H1 Q
noncomputable def rI(C:Int->Int->Prop)(g:Int->Int->V):R2:=fun x y H Q=>∃ i j,x=.int i/\y=.int j/\C i j/\Q (g i j) H
noncomputable def kg(g:Int->Int->V):R2:=fun x y H Q=>∃ i j,x=.int i/\y=.int j/\Q (g i j) H
noncomputable def rU(g:Int->V):V->Hp->VK->Prop:=fun x H Q=>∃ i,x=.int i/\Q (g i) H
section
theorem zax(ha:PE X a ta)(hb:PE X b tb){R:V->V->Hp->Prop}(I:Inv X pins σ H s)
  (h:ta σ H fun x H1=>tb σ H1 fun y H2=>R x y H2){Q:gV->ir->Prop}
  (hf:∀ v u s2 x y H2,Inv X pins σ H2 s2->RelV x v->RelV y u->R x y H2->xS (xT X.prog X.w) X.A (f v u) Q X.xe s2) :
  xS (xT X.prog X.w) X.A (xZ a X.env) (fun v s₁=>xS (xT X.prog X.w) X.A (xZ b X.env) (fun u s₂=>xS (xT X.prog X.w) X.A (f v u) Q X.xe s₂) X.xe s₁) X.xe s:=by
 refine aN (ha pins s σ H _ I h) fun v s1 ⟨x,H1,I1,r1,q1⟩=>?_
 refine aN (hb pins s1 σ H1 _ I1 q1) fun u s2 ⟨y,H2,I2,r2,q2⟩=>?_
 exact hf v u s2 x y H2 I2 r1 r2 q2
theorem zqY{op:Operator}(ho:bf X (zA op) r)(ha:PE X a ta)(hb:PE X b tb):PE X (.BinOp a op b pos) (pI r ta tb):=by
 intro pins s σ H Q I h
 exact wpAny_BinOp (zax ha hb I h fun v u s2 x y H2 I2 rx ry q=>ho pins s2 σ H2 x y v u Q I2 rx ry q)
theorem zq2{op:UnaryOp}{r:V->Hp->VK->Prop}(ho:rN X (unaryOp op) r)(ha:PE X a ta):PE X (.UnaryOp op a pos) (tUn r ta):=by
 intro pins s σ H Q I h
 exact UnaryOp_ (aN (ha pins s σ H _ I h) fun v s1 ⟨x,H1,I1,r1,q1⟩=>ho pins s1 σ H1 x v Q I1 r1 q1)
theorem opI
  (rule:∀(i j:Int) (t u:yS) (s:ir) (Q:gV->ir->Prop) (E:gV->ir->Prop),C i j->Q (.int (g i j) s.toks) { s with toks:=s.toks+1 }->xS (xT X.prog X.w) X.A (f (.int i t) (.int j u)) Q E s) :
  bf X f (rI C fun i j=>.int (g i j)):=by
 intro pins s σ H x y v u Q I rx ry h
 obtain⟨i,j,rfl,rfl,hc,q⟩:=h
 obtain⟨t,rfl⟩:=rx
 obtain⟨t',rfl⟩:=ry
 exact rule i j t t' s _ _ hc ⟨.int (g i j),H,I.tok _,⟨_,rfl⟩,q⟩
theorem zgP
  (rule:∀(i j:Int) (t u:yS) (s:ir) (Q:gV->ir->Prop) (E:gV->ir->Prop),Q (.int (g i j) s.toks) { s with toks:=s.toks+1 }->xS (xT X.prog X.w) X.A (f (.int i t) (.int j u)) Q E s) :
  bf X f (kg fun i j=>.int (g i j)):=by
 intro pins s σ H x y v u Q I rx ry h
 obtain⟨i,j,rfl,rfl,q⟩:=h
 obtain⟨t,rfl⟩:=rx
 obtain⟨t',rfl⟩:=ry
 exact rule i j t t' s _ _ ⟨.int (g i j),H,I.tok _,⟨_,rfl⟩,q⟩
theorem wR{g:Int->Int->Bool}
  (rule:∀(i j:Int) (t u:yS) (s:ir) (Q:gV->ir->Prop) (E:gV->ir->Prop),Q (.bool (g i j)) s->xS (xT X.prog X.w) X.A (f (.int i t) (.int j u)) Q E s) :
  bf X f (kg fun i j=>.bl (g i j)):=by
 intro pins s σ H x y v u Q I rx ry h
 obtain⟨i,j,rfl,rfl,q⟩:=h
 obtain⟨t,rfl⟩:=rx
 obtain⟨t',rfl⟩:=ry
 exact rule i j t t' s _ _ ⟨.bl (g i j),H,I,rfl,q⟩
def zdu(i j:Int):Prop:=0<=j/\j<=1000000/\i.natAbs<2^64
theorem zqm:bf X (zA .Add) (kg fun i j=>.int (i+j)):=zgP fun _ _ _ _ _ _ _ q=>add_int q
theorem zqz:bf X (zA .Sub) (kg fun i j=>.int (i-j)):=zgP fun _ _ _ _ _ _ _ q=>sub_int q
theorem zqv:bf X (zA .Mod) (rI (fun _ j=>j≠0) fun i j=>.int (i.fmod j)):=opI fun _ _ _ _ _ _ _ hc q=>mod_int' hc q
theorem zqy:bf X (zA .Pow) (rI zdu fun i j=>.int (i^j.toNat)):=opI fun _ _ _ _ _ _ _ hc q=>pow_int_small hc.1 hc.2.1 hc.2.2 q
theorem unI{f:gV->Sem gV}{g:Int->Int}
  (rule:∀(i:Int) (t:yS) (s:ir) (Q:gV->ir->Prop) (E:gV->ir->Prop),Q (.int (g i) s.toks) { s with toks:=s.toks+1 }->xS (xT X.prog X.w) X.A (f (.int i t)) Q E s) :
  rN X f (rU fun i=>.int (g i)):=by
 intro pins s σ H x v Q I rx h
 obtain⟨i,rfl,q⟩:=h
 obtain⟨t,rfl⟩:=rx
 exact rule i t s _ _ ⟨.int (g i),H,I.tok _,⟨_,rfl⟩,q⟩
theorem zuD:rN X (unaryOp .USub) (rU fun i=>.int (-i)):=unI fun _ _ _ _ _ q=>neg_int q
end
section
theorem zqu:bf X (yj .Lt) (kg fun i j=>.bl (decide (i<j))):=wR fun _ _ _ _ _ _ _ q=>lt_int q
theorem zqt:bf X (yj .LtE) (kg fun i j=>.bl (decide (i<=j))):=wR fun _ _ _ _ _ _ _ q=>le_int q
theorem zqr:bf X (yj .Gt) (kg fun i j=>.bl (decide (j<i))):=wR fun _ _ _ _ _ _ _ q=>gt_int q
theorem zqq:bf X (yj .GtE) (kg fun i j=>.bl (decide (j<=i))):=wR fun _ _ _ _ _ _ _ q=>ge_int q
theorem zcI(b:o1)(h:op≠.In:=by decide)(h2:op≠.NotIn:=by decide):zO op b=false:=by
 have e1:(op==CmpOp.In)=false:=by cases op <;> first|rfl|exact absurd rfl h
 have e2:(op==CmpOp.NotIn)=false:=by cases op <;> first|rfl|exact absurd rfl h2
 cases b <;> simp [zO,e1,e2]
theorem zqO(ho:bf X (yj op) r)(ha:PE X a ta)(hb:PE X b tb)(hm:zO op b=false):PE X (.Compare a [op] [b] pos) (pI r ta tb):=by
 intro pins s σ H Q I h
 exact wpAny_Compare1 (zax ha hb I h fun v u s2 x y H2 I2 rx ry q=>ho pins s2 σ H2 x y v u Q I2 rx ry q) hm
noncomputable def zh5(t:TE):TT:=fun σ H Q=>t σ H fun x H'=>∃ k,x=.bl k/\Q k H'
theorem zhg(ho:bf X (yj op) r)(ha:PE X a ta)(hb:PE X b tb)(hm:zO op b=false):PT X (.Compare a [op] [b] pos) (zh5 (pI r ta tb)):=by
 intro pins s σ H Q I h
 refine wpAny_isTrue_Compare1 (aN (ha pins s σ H _ I h) fun v s1 ⟨x,H1,I1,r1,q1⟩=>aN (hb pins s1 σ H1 _ I1 q1) fun u s2 ⟨y,H2,I2,r2,q2⟩ =>
  aN (ho pins s2 σ H2 x y v u _ I2 r1 r2 q2) fun c s3 ⟨z,H3,I3,r3,k,e,q3⟩=>?_) hm
 subst e
 cases r3
 exact Bc ⟨H3,I3,q3⟩
noncomputable def zdi(r r':R2)(ta tb tc:TE):TE:=fun σ H Q=>ta σ H fun x H1=>tb σ H1 fun y H2=>r x y H2 fun z H3=>∃ k,z=.bl k /\
 (if k=true then tc σ H3 fun w' H4=>r' y w' H4 Q else Q (.bl false) H3)
theorem zqN(ho:bf X (yj op) r)(eX:bf X (yj gP) r')(ha:PE X a ta)(hb:PE X b tb)(hc:PE X c tc)
  (hm:lastMarks [op,gP] [b,c]=false:=by with_unfolding_all rfl):PE X (.Compare a [op,gP] [b,c] pos) (zdi r r' ta tb tc):=by
 intro pins s σ H Q I h
 refine Compare_chain (aN (ha pins s σ H _ I h) fun v s1 ⟨x,H1,I1,r1,q1⟩=>chain_link (aN (hb pins s1 σ H1 _ I1 q1) fun u s2 ⟨y,H2,I2,r2,q2⟩ =>
  aN (ho pins s2 σ H2 x y v u _ I2 r1 r2 q2) fun d s3 ⟨z,H3,I3,r3,k,e,q3⟩=>?_)) hm
 subst e
 cases r3
 refine Bc ?_
 cases k with
 | false=>exact ite_ff ⟨.bl false,H3,I3,rfl,q3⟩
 | true=>exact ite_tt (chain_last (aN (hc pins s3 σ H3 _ I3 q3) fun w' s4 ⟨z',H4,I4,r4,q4⟩=>eX pins s4 σ H4 y z' u w' Q I4 r2 r4 q4))
theorem zrJ(ho:bf X (yj op) r)(eX:bf X (yj gP) r')(ha:PE X a ta)(hb:PE X b tb)(hc:PE X c tc)
  (hm:lastMarks [op,gP] [b,c]=false:=by with_unfolding_all rfl):PT X (.Compare a [op,gP] [b,c] pos) (zh5 (zdi r r' ta tb tc)):=by
 intro pins s σ H Q I h
 refine isTrue_chain (aN (ha pins s σ H _ I h) fun v s1 ⟨x,H1,I1,r1,q1⟩=>test_link (aN (hb pins s1 σ H1 _ I1 q1) fun u s2 ⟨y,H2,I2,r2,q2⟩ =>
  aN (ho pins s2 σ H2 x y v u _ I2 r1 r2 q2) fun d s3 ⟨z,H3,I3,r3,k,e,q3⟩=>?_)) hm
 subst e
 cases r3
 refine Bc ?_
 cases k with
 | false =>
  obtain⟨k',e',q'⟩:=q3
  cases e'
  exact ite_ff ⟨H3,I3,q'⟩
 | true =>
  refine ite_tt (test_last (aN (hc pins s3 σ H3 _ I3 q3) fun w' s4 ⟨z',H4,I4,r4,q4⟩=>aN (eX pins s4 σ H4 y z' u w' _ I4 r2 r4 q4) fun d' s5 ⟨z2,H5,I5,r5,k2,e2,q5⟩=>?_))
  subst e2
  cases r5
  exact Bc ⟨H5,I5,q5⟩
def ziU(K:kb)(x:V)(H:Hp)(k:Bool):Prop :=
 match x with
 | .non=>k=false
 | .bl b=>k=b
 | .int i=>k=(i != 0)
 | .str y=>y.length<=yb/\k=((y.length:Int) != 0)
 | .byt y=>y.size<=yb/\k=((y.size:Int) != 0)
 | .ref p=>(∃ xs,bV K H p xs/\k=!xs.isEmpty)\/(∃ xs,eB K H p xs/\k=!xs.isEmpty)\/∃ ah,H p=some (.dK ah)/\k=!ah.isEmpty
 | _=>False
theorem zmC{ah:List (κ×V)}{vs:List (κ×gV)}(r:KV ah vs):(!vs.isEmpty)=!ah.isEmpty:=by
 cases r <;> rfl
theorem zfK(r:Vals xs its):(!its.toArray.isEmpty)=!xs.isEmpty:=by
 cases r <;> simp
theorem sZ:(yb:Nat)<2^63:=by rw [zf];decide
theorem zur:zaq X (fun x H Q=>∃ k,ziU X.K x H k/\Q k H):=by
 intro pins s σ H x v Q I rx h
 obtain⟨k,e,q⟩:=h
 have hl:=sZ
 have hs:yb=16777216:=zf
 cases x with
 | non =>
  cases rx
  have e':k=false:=e
  subst e'
  exact truthy_none ⟨H,I,q⟩
 | bl b =>
  cases rx
  have e':k=b:=e
  subst e'
  exact Bc ⟨H,I,q⟩
 | int i =>
  obtain⟨t,rfl⟩:=rx
  have e':k=(i != 0):=e
  subst e'
  exact PySem.P.truthy_int ⟨H,I,q⟩
 | str y =>
  obtain⟨t,rfl⟩:=rx
  obtain⟨hy,e'⟩:y.length<=yb/\k=((y.length:Int) != 0):=e
  subst e'
  exact PySem.P.truthy_str (by omega) ⟨H,I.tok _,q⟩
 | byt y =>
  obtain⟨t,rfl⟩:=rx
  obtain⟨hy,e'⟩:y.size<=yb/\k=((y.size:Int) != 0):=e
  subst e'
  exact PySem.W.truthy_bytes (by omega) ⟨H,I.tok _,q⟩
 | ref p =>
  cases rx
  have e':(∃ xs,bV X.K H p xs/\k=!xs.isEmpty)\/(∃ xs,eB X.K H p xs/\k=!xs.isEmpty)\/∃ ah,H p=some (.dK ah)/\k=!ah.isEmpty:=e
  rcases e' with⟨xs,hx,e'⟩|⟨xs,hx,e'⟩|⟨ah,hx,e'⟩
  ·subst e'
   obtain⟨its,r,pl,hz⟩:=I.list hx
   have hlen:=r.length
   exact wpAny_truthy_list pl.isList (by simp only [yv];omega) ⟨H,I.tok _,by rw [zfK r];exact q⟩
  ·subst e'
   obtain⟨its,r,pl,hz⟩:=I.tuple hx
   have hlen:=r.length
   exact truthy_tuple pl (by simp only [yv];omega) ⟨H,I.tok _,by rw [zfK r];exact q⟩
  ·subst e'
   obtain⟨hz,hS,vs,r,m⟩:ah.length<=yb/\(p==AI)=false/\∃ vs,KV ah vs/\s.heap.DictOf (jG X.prog X.w) p vs:=I.ax p _ hx
   have hlen:ah.length=vs.length:=CY r
   exact wpAny_truthy_dict hS m (by omega) ⟨H,I.tok _,by rw [zmC r];exact q⟩
 | _=>exact(show False from e).elim
theorem vals1{x:V}(r:Vals [x] us):∃ u,us=[u]/\RelV x u:=by
 cases r with
 | cons r1 r2=>cases r2;exact⟨_,rfl,r1⟩
theorem vals2{x:V}(r:Vals [x,y] us):∃ u w',us=[u,w']/\RelV x u/\RelV y w':=by
 cases r with
 | cons r1 r2 =>
  cases r2 with
  | cons r3 r4=>cases r4;exact⟨_,_,rfl,r1,r3⟩
theorem zjC:gG X (.builtin "abs") (fun xs H Q=>∃ i,xs=[.int i]/\Q (.int (if i<0 then -i else i)) H):=by
 intro pins s σ H xs us Q I r h
 obtain⟨i,rfl,q⟩:=h
 obtain⟨u,rfl,t,rfl⟩:=vals1 r
 exact call_abs_int fun u tk=>⟨.int (if i<0 then -i else i),H,I.tok _,⟨_,rfl⟩,q⟩
end
end
variable {prog:x6}{kw:List (ib×gV)}{vs:List gV}{C a dx:dm}{ns:List ib}{r:List V->Hp->VK->Prop}{env:ye}{mA:ib->Option gV}{f:ib}
section
structure rH(h:xV)(x dx C:dm)(mA:ib->Option gV):Prop where
 obj:h.get? x=some (A9 C dx)
 ns:h.Ns1 dx mA
 ne:dx≠x
theorem zga(n:h.Ns1 dx mA):∃ od,h.get? dx=some od/\∀ name,C3 name od=some (mA name):=by
 obtain⟨o,es,ep,ho,hd,hk,_,hm⟩:=n
 refine⟨o,ho,fun name=>?_⟩
 have e:=hm name
 unfold nsFind findBy at e
 rw [<- EX] at e
 unfold C3
 rw [hd]
 dsimp only
 split
 ·rename_i y q
  rw [q] at e
  exact congrArg some e
 ·rename_i q
  rw [q] at e
  have a:es.toList.any (·.refKey)=false:=by
   rw [List.any_eq_false]
   intro y hy
   obtain⟨z,t,zmi⟩:=hk y (Array.mem_toList_iff.mp hy)
   simp [DictEntry.refKey,zmi]
  have a':¬ es.toList.any (·.refKey)=true:=by rw [a];exact zy
  rw [if_neg a']
  exact congrArg some e
theorem rH.look{x:dm}(I:rH h x dx C mA):∃ od,Av h x (A9 C dx) C (some od)/\∀ name,C3 name od=some (mA name) :=
 let⟨od,ho,hl⟩:=zga I.ns
 ⟨od,⟨I.obj,rfl,rfl,ho⟩,hl⟩
section
variable {K:kb}{x f:dm}{name:ib}{v:gV}
theorem ztF(X:K.In s.heap)(I:rH s.heap x dx C mA)
  (hs:yD K (.ref C) "__setattr__"=some (some (.builtin "object.__setattr__"))) (hp:DU K C=true) (ht:DV K C name=some none) (hh:B4 K C=true)
  (hw:DK mA ns) (hsz:ns.length<=yb)
  (h:∀ h',rH h' x dx C (fun y=>if y=name then some v else mA y)->Ct dx s.heap h'->Q () { s with heap:=h',toks:=s.toks+2 }) :
  xS (xT prog w) A (setAttr (.ref x) name v) Q E s:=by
 obtain⟨od,J,hl⟩:=I.look
 refine EY X J hs (PySem.W.osa_open (s:={ s with toks:=s.toks+1 }) (r:=none) X J hp ht fun b=>?_)
 obtain⟨cd,hc,gM⟩:=DW hh
 have hx:s.heap.get? x=some ⟨.ref C,some dx,.plain,#[]⟩:=I.obj
 refine lb (xX (lb (lb (Cy hx (lb (EZ (s:={ s with toks:=s.toks+1 }) (DX X hc) ?_))))))
 rw [gM]
 refine xX (a:=some dx) (lb (xX (lb ?_)))
 refine wpAny_nsSet1 (s:={ s with toks:=s.toks+1 }) I.ns fun h' hn2 eZ=>?_
 obtain⟨oD,esD,epD,hoD,hdD,hcD⟩:=hn2.count (PySem.Within.cons name v hw)
 refine lb (wpAny_lookBehind hoD (by rw [hdD];exact pastItsLine_dict (yx hcD (by rw [yg];omega))) ?_)
 exact xX (h _ ⟨(eZ.2 _ (yU I.ne)).trans I.obj,hn2,I.ne⟩ eZ)
theorem zpt{R:Result->ir->Prop}(X:K.In s.heap)(hm:DY K C=true)
  (hi:yD K (.ref C) "__init__"=some (some (.ref f))) (hf:B5 K (.ref f)=some (.type "function"))
  (h:Aw (xT prog w) (A.under (.builtin "type.__call__" ⟨.ref C::vs,kw⟩)) (.call (.ref f) ⟨.ref (s.heap.objs.size+1)::vs,kw⟩) (PySem.W.InitBack (s.heap.objs.size+1) R)
   { s with heap:=(s.heap.push AQ).push (A9 C s.heap.objs.size) }) :
  Aw (xT prog w) A (.call (.ref C) ⟨vs,kw⟩) R s:=by
 obtain⟨hh,g,d,t,os⟩:=s
 exact PySem.W.make_core (PySem.W.makes_of X hm) (Bu X hi) (fun self=>PySem.W.bind_fn X self hf) (.inl rfl) h
end
noncomputable def fW(f:ib)(v:V):List (ib×V)->List (ib×V)
 | []=>[(f,v)]
 | (g,x)::r=>if g=f then(g,v)::r else(g,x)::fW f v r
theorem zgh(f g:ib)(v:V):∀ fs:List (ib×V),(fW f v fs).lookup g=if g=f then some v else fs.lookup g
 | []=>by
  show AR g [(f,v)]=_
  by_cases h:g=f
  ·have hb:(g==f)=true:=beq_iff_eq.mpr h
   simp only [AR,hb,if_pos h]
  ·have hb:(g==f)=false:=beq_eq_false_iff_ne.mpr h
   simp only [AR,hb,if_neg h]
 | (k,x)::r=>by
  have ih:=zgh f g v r
  rw [show fW f v ((k,x)::r)=(if k=f then(k,v)::r else(k,x)::fW f v r) from rfl]
  by_cases hk:k=f
  ·rw [if_pos hk]
   by_cases h:g=k
   ·have hb:(g==k)=true:=beq_iff_eq.mpr h
    simp only [AR,hb,if_pos (h.trans hk)]
   ·have hb:(g==k)=false:=beq_eq_false_iff_ne.mpr h
    simp only [AR,hb,if_neg (fun e:g=f=>h (e.trans hk.symm))]
  ·rw [if_neg hk]
   by_cases h:g=k
   ·have hb:(g==k)=true:=beq_iff_eq.mpr h
    simp only [AR,hb,if_neg (fun e:g=f=>hk (h.symm.trans e))]
   ·have hb:(g==k)=false:=beq_eq_false_iff_ne.mpr h
    simp only [AR,hb]
    exact ih
theorem zct(f:ib)(v:V):∀ fs:List (ib×V),f∈(fW f v fs).map (·.1)/\∀ g,g∈fs.map (·.1)->g∈(fW f v fs).map (·.1)
 | []=>⟨by simp [fW],fun g h=>by simp at h⟩
 | (k,x)::r=>by
  obtain⟨i1,i2⟩:=zct f v r
  rw [show fW f v ((k,x)::r)=(if k=f then(k,v)::r else(k,x)::fW f v r) from rfl]
  by_cases hk:k=f
  ·rw [if_pos hk]
   subst hk
   exact⟨by simp,fun g h=>by simpa using h⟩
  ·rw [if_neg hk]
   refine⟨?_,fun g h=>?_⟩
   ·rw [yi]
    exact yK _ i1
   ·rw [yi] at h ⊢
    rcases yr.mp h with e|e
    ·exact yr.mpr (.inl e)
    ·exact yK _ (i2 g e)
theorem zf5(f:ib)(v:V):∀ fs:List (ib×V),(fW f v fs).length<=fs.length+1
 | []=>by simp [fW]
 | (k,x)::r=>by
  have ih:=zf5 f v r
  rw [show fW f v ((k,x)::r)=(if k=f then(k,v)::r else(k,x)::fW f v r) from rfl]
  by_cases hk:k=f
  ·rw [if_pos hk,yg,yg];omega
  ·rw [if_neg hk,yg,yg];omega
theorem iq.some_of(r:iq (some v) o):∃ u,o=some u/\RelV v u:=by
 cases o with
 | none=>exact(show False from r).elim
 | some u=>exact⟨u,rfl,r⟩
theorem zl5(r:RelV v u):E1 u=true:=by
 cases v with
 | non=>cases (show u=yF from r);rfl
 | bl b=>cases (show u=Af b from r);rfl
 | int i=>obtain⟨t,e⟩:=(show ∃ t,u=A8 i t from r);cases e;rfl
 | str x=>obtain⟨t,e⟩:=(show ∃ t,u=BQ x t from r);cases e;rfl
 | byt b=>obtain⟨t,e⟩:=(show ∃ t,u=Value.bytes b t from r);cases e;rfl
 | flt b=>obtain⟨t,e⟩:=(show ∃ t,u=Value.float b t from r);cases e;rfl
 | ref a=>cases (show u=yt a from r);rfl
 | ty n=>cases (show u=BR n from r);rfl
section
variable {fs dj:List (ib×V)}
theorem zmu(ax:bY P w H h)(e:H a=some (.ins C dx fs)):∃ mA,rH h a dx C mA/\(∀ f,iq (fs.lookup f) (mA f))/\DK mA (fs.map (·.1))/\fs.length<=1000/\H dx=some (.own a):=by
 obtain⟨d,z,ne,ob,mA,n,r,q⟩:=(show ck P w H h a (.ins C dx fs) from ax a _ e)
 exact⟨mA,⟨ob,n,ne⟩,r,q,z,d⟩
end
structure mK(K:kb)(C:dm):Prop where
 pg:E2 K C Str.empty=true
 hd:B4 K C=true
 po:DU K C=true
 sa:yD K (.ref C) "__setattr__"=some (some (.builtin "object.__setattr__"))
def eO(K:kb)(C:dm)(f:ib):Prop:=yD K (.ref C) f=some none
theorem eO.zuq{K:kb}(n:eO K C f):DV K C f=some none:=by
 unfold DV
 rw [show yD K (.ref C) f=some none from n]
 rfl
section
variable {fs:List (ib×V)}
theorem ztH(I:Inv X pins σ H s)(e:H a=some (.ins C dx fs))(c:mK X.K C)(n:eO X.K C f)(hl:fs.length<1000)(ry:RelV y u)
  (h:∀ s',Inv X pins σ (upd H a (.ins C dx (fW f y fs))) s'->Q () s'):xS (xT X.prog X.w) A (setAttr (.ref a) f u) Q E s:=by
 obtain⟨mA,O,r,wi,_,ho⟩:=zmu I.ax e
 have hz:(fs.map (·.1)).length<=yb:=by rw [yn,zf];omega
 refine ztF I.eJ O c.sa c.po n.zuq c.hd wi hz fun h' O' sb=>h _ ?_
 have hd:∃ o,h'.get? dx=some o:=let⟨o,_,_,e',_⟩:=O'.ns;⟨o,e'⟩
 refine I.write (x:=a) (e:=dx) (by rw [e];exact Be) (.inr ho) (fun b q hb z=>(sb.2 b hb).trans z) hd ?_
 refine⟨by rw [aT O.ne];exact ho,?_,O.ne,O'.obj,_,O'.ns,fun g=>?_,fun g hg=>?_⟩
 ·have:=zf5 f y fs;omega
 ·show iq ((fW f y fs).lookup g) (if g=f then some u else mA g)
  rw [zgh]
  by_cases q:g=f
  ·rw [if_pos q,if_pos q];exact ry
  ·rw [if_neg q,if_neg q];exact r g
 ·by_cases q:g=f
  ·rw [q];exact(zct f y fs).1
  ·refine(zct f y fs).2 g (wi g fun z=>hg ?_)
   show(if g=f then some u else mA g)=none
   rw [if_neg q];exact z
theorem Inv.made(I:Inv X pins σ H s):Inv X pins σ (upd (upd H s.heap.objs.size (.own (s.heap.objs.size+1))) (s.heap.objs.size+1) (.ins C s.heap.objs.size []))
  { s with heap:=(s.heap.push AQ).push (A9 C s.heap.objs.size) }:=by
 have e1:(s.heap.push AQ).get? s.heap.objs.size=some AQ:=yY s.heap rfl
 have e2:((s.heap.push AQ).push (A9 C s.heap.objs.size)).get? (s.heap.objs.size+1)=some (A9 C s.heap.objs.size):=by
  have:=yY (s.heap.push AQ) (o:=A9 C s.heap.objs.size) rfl
  rwa [Bf] at this
 have e3:(s.heap.push AQ).Ns s.heap.objs.size (fun _=>none):=⟨AQ,#[],_,e1,rfl,(fun e he=>absurd he (by simp)),fun _=>rfl⟩
 have I1:=I.laid (a:=s.heap.objs.size) (o:=.own (s.heap.objs.size+1)) (h':=s.heap.push AQ) (t':=s.toks) (fun b u q=>yh _ q) (x9 _) ⟨_,e1⟩
 refine I1.laid (a:=s.heap.objs.size+1) (o:=.ins C s.heap.objs.size []) (t':=s.toks) (fun b u q=>yh _ q) (Cz (Bf _ _)) ?_
 have ne:s.heap.objs.size≠s.heap.objs.size+1:=yI (C4 _)
 refine⟨by rw [aT ne,bX],zr _,ne,e2,fun _=>none,(E4 e3).at fun o q=>yh _ q,fun _=>Be,fun y hy=>absurd rfl hy⟩
theorem zja{f:ib}{s:ir}{Q:gV->ir->Prop}(hb:B6 e f env (xZ e env)=xZ e env)
  (h:xS (xT prog w) A (xZ e env) (fun o s₁=>xS (xT prog w) A (getAttr o f true) Q E s₁) E s):xS (xT prog w) A (xZ (.Attribute e f pos) env) Q E s :=
 Attribute_any_ h (by rw [arm_eval_Attribute,hb])
end
noncomputable def ztw(K:kb)(ta tv:TE)(f:ib):TS:=fun D σ H=>tv σ H fun y H1=>ta σ H1 fun x H2=>∃ a C dx fs,x=.ref a/\H2 a=some (.ins C dx fs)/\mK K C/\eO K C f/\fs.length<1000 /\
 D.nx σ (upd H2 a (.ins C dx (fW f y fs)))
section
variable {o value:o1}{zh9:xW}{tv:TE}
theorem zrq(ha:PE X o ta)(hv:PE X value tv)(hs:yV value (some (.Attribute o f pos')) pos.line X.env=pure false):PS X (.Assign [.Attribute o f pos'] value pos) (ztw X.K ta tv f):=by
 intro pins s σ H D I h
 refine E5 (aN (hv pins s σ H _ I h) fun u s1 ⟨y,H1,I1,ry,q⟩=>aN (ha pins s1 σ H1 _ I1 q) fun ov s2 ⟨x,H2,I2,rx,a,C,dx,fs,ex,ea,c,n,l,q2⟩=>?_) hs
 subst ex
 obtain rfl:ov=yt a:=rx
 exact ztH I2 ea c n l ry fun s3 I3=>⟨σ,_,I3,q2⟩
end
end
variable {params:Arguments}{mV vs:List V}{sc scope:yT}{E:XK}{fd:yq}{ps:List ib}{mg:ib->Option gV}{qual:ib}{Q:VK}{cd:gV}{base:xV}{outer:List ye}{gC:Array (Option gV)}{CX:h8}{f:dm}
section
structure aZ(k:Nat)(A:ya):Prop where
 hd:A.handled=none
 dp:A.depth+3*k+110<DZ
 un:A.units+16*k+200<yW
 gd:A.guards=some []
theorem aZ.mono(r:aZ k A)(h:j<=k):aZ j A:=⟨r.hd,by have:=r.dp;omega,by have:=r.un;omega,r.gd⟩
theorem aZ.deeper(r:aZ (k+1) A)(env:ye):aZ k (A.deeper env) :=
 ⟨r.hd,by have:=r.dp;show A.depth+1+3*k+110<_;omega,by have:=r.un;show A.units+3+16*k+200<_;omega,r.gd⟩
theorem zpr:(A.under (.builtin "type.__call__" ⟨.ref C::us,kw⟩)).depth=A.depth+1:=by
 first|rfl|simp [C5,Code.weight,Code.isCreation,Code.isGuard,Code.isCaller,Code.frames,D0,guardIds]
theorem zpu:(A.under (.builtin "type.__call__" ⟨.ref C::us,kw⟩)).units=A.units+1:=by
 first|rfl|simp [C5,Code.cUnits,Code.frames,D0]
theorem zps:(A.under (.builtin "type.__call__" ⟨.ref C::us,kw⟩)).guards=A.guards:=by
 first|rfl|simp [C5,Code.guards,Code.isGuard,guardIds,pushGuards]
theorem aZ.make(r:aZ (k+1) A)(C:dm)(us:List gV)(kw:List (ib×gV)):aZ k (A.under (.builtin "type.__call__" ⟨.ref C::us,kw⟩)) :=
 ⟨r.hd,by have:=r.dp;rw [zpr];omega,by have:=r.un;rw [zpu];omega,by rw [zps];exact r.gd⟩
theorem aZ.depth(r:aZ k A):A.depth<DZ:=by have:=r.dp;omega
theorem aZ.units(r:aZ k A):A.units+64<yW:=by have:=r.un;omega
noncomputable def zh3:TA:=fun _ H Q=>Q [] H
noncomputable def zh1(ta:TE)(tr:TA):TA:=fun σ H Q=>ta σ H fun x H1=>tr σ H1 fun xs H2=>Q (x::xs) H2
section
theorem jH:PA X [] zh3:=fun _ _ _ _ H Q I h=>Calls.spliced_nil ⟨[],H,I,.nil,h⟩
theorem gQ(ha:PE X e te)(hr:PA X es t)(hs:pd (e::es) X.env=(false,xZ e X.env)::pd es X.env:=by rfl):PA X (e::es) (zh1 te t):=by
 intro pos pins s σ H Q I h
 rw [hs]
 show xS _ _ (spliced ((false,xZ e X.env)::yp pos (pd es X.env))) _ _ s
 refine Calls.spliced_cons (aN (ha pins s σ H _ I h) fun u s1 ⟨x,H1,I1,r1,q1⟩=>?_)
 exact aN (hr pos pins s1 σ H1 _ I1 q1) fun us s2 ⟨xs,H2,I2,r2,q2⟩=>⟨x::xs,H2,I2,.cons r1 r2,q2⟩
noncomputable def zuk(t:TA):TE:=fun σ H Q=>t σ H fun xs H1=>xs.length<=yb/\∀ p,H1 p=none->Q (.ref p) (upd H1 p (.tup xs))
noncomputable def zt9(t:TA):TE:=fun σ H Q=>t σ H fun xs H1=>xs.length<=yb/\∀ p,H1 p=none->Q (.ref p) (upd H1 p (.lst xs))
theorem zq1{x1}(h:PA X es t):PE X (.Tuple es x1 pos) (zuk t):=by
 intro pins s σ H Q I hq
 refine wpAny_Tuple_spliced (aN (h pos pins s σ H _ I hq) fun us s1 ⟨xs,H1,I1,r,z,q⟩=>⟨by rw [<- r.length];exact z,?_⟩)
 have hf:H1 s1.heap.objs.size=none:=I1.ax.fresh (x9 _)
 refine⟨.ref s1.heap.objs.size,upd H1 s1.heap.objs.size (.tup xs),I1.laid (t':=s1.toks) (fun b u e=>yh _ e) (x9 _) ?_,rfl,q _ hf⟩
 exact⟨z,us,r,⟨_,yY _ rfl,rfl,_,rfl⟩⟩
theorem zqV(h:PA X es t):PE X (.List es pos) (zt9 t):=by
 intro pins s σ H Q I hq
 refine wpAny_List_spliced (aN (h pos pins s σ H _ I hq) fun us s1 ⟨xs,H1,I1,r,z,q⟩=>⟨by rw [<- r.length];exact z,?_⟩)
 have hf:H1 s1.heap.objs.size=none:=I1.ax.fresh (x9 _)
 refine⟨.ref s1.heap.objs.size,upd H1 s1.heap.objs.size (.lst xs),I1.laid (t':=s1.toks) (fun b u e=>yh _ e) (x9 _) ?_,rfl,q _ hf⟩
 exact⟨z,us,0,r,yY _ rfl⟩
end
abbrev Sp:=List V->Hp->VK->XK->Prop
abbrev h8:=List ye->Hp->ir->XK->gV->ir->Prop
structure nR(P:x6)(w:x5)(K:kb)(mg:ib->Option gV)(base:xV)(A:ya)(outer:List ye)(s:ir)(H:Hp):Prop where
 frames:A.frames=some outer
 mod:Mod K mg base
 bs:∀ b o,base.get? b=some o->s.heap.get? b=some o/\H b=none
 jr:base.objs.size<=s.heap.objs.size
 gA:s.heap.FunFrames base outer
 jV:∀ b∈dN outer,H b=none
 ax:bY P w H s.heap
 bare:As s.gens
 tree:P.given.tree=none
theorem Inv.pyl{σ:List (Option V)}(I:Inv X pins σ H s)(hd:X.A.depth+100<DZ):PySem.PylongRoom (xT X.prog X.w) X.A s:=by
 obtain⟨env,r,e,h1,h2,h3,h4⟩:=I.ok.sk
 exact PySem.PylongRoom.of I.nolimit hd (PySem.SeerAt.of (I.ok.mod.seer.keeps I.bk) I.ok.tree (I.ok.frames.trans (congrArg some e)) h1 h2 h3 h4)
def CE(outer:List ye)(P:x6)(w:x5)(H:Hp)(s:ir)(Q:VK)(u:gV)(s':ir):Prop :=
 ∃ v H',s'.os=s.os/\As s'.gens/\Un (dN outer) [] H H' s.heap s'.heap/\bY P w H' s'.heap/\RelV v u/\Q v H'
def CR(CX:h8)(outer:List ye)(P:x6)(w:x5)(H:Hp)(s:ir)(Q:VK)(E:XK)(r:Result)(s':ir):Prop :=
 match r with
 | .ok (.ret u)=>CE outer P w H s Q u s'
 | .ok _=>False
 | .error e=>CX outer H s E e s'
structure bU(P:x6)(w:x5)(K:kb)(mg:ib->Option gV)(base:xV)(CX:h8)(k:Nat)(f:dm)(fd:yq)(ps:List ib)(sp:Sp):Prop where
 len:∀ vs H Q E,sp vs H Q E->vs.length=ps.length
 run:∀(A:ya) (outer:List ye) (s:ir) (H:Hp) (args:Args) (us:List gV) (vs:List V) (Q:VK) (E:XK),aZ k A->nR P w K mg base A outer s H->B7 s fd args (ps.zip us)->Vals vs us->sp vs H Q E ->
  Aw (xT P w) A (.call (.ref f) args) (CR CX outer P w H s Q E) s
theorem bU.imp{K:kb}{sp sp':Sp}(F:bU P w K mg base CX k f fd ps sp)
  (h:∀ vs H Q E,sp' vs H Q E->sp vs H Q E):bU P w K mg base CX k f fd ps sp' :=
 ⟨fun vs H Q E q=>F.len vs H Q E (h _ _ _ _ q),fun A outer s H args us vs Q E hr he hb hv hs=>F.run A outer s H args us vs Q E hr he hb hv (h _ _ _ _ hs)⟩
theorem nR.make{K:kb}(e:nR P w K mg base A outer s H)(C:dm)(us:List gV)(kw:List (ib×gV)) :
  nR P w K mg base (A.under (.builtin "type.__call__" ⟨.ref C::us,kw⟩)) outer s H:=⟨by first|exact e.frames|(simpa [C5,Code.envs,D0,pushEnvs] using e.frames),e.mod,e.bs,e.jr,e.gA,e.jV,e.ax,e.bare,e.tree⟩
section
theorem Inv.zbv(I:Inv X pins σ H s):nR X.prog X.w X.K X.mg X.base X.A X.stack s H :=
 ⟨I.ok.frames,I.ok.mod,I.bs,yx I.ok.jr I.sz,I.stack,I.uC,I.ax,I.bare,I.ok.tree⟩
theorem Inv.after(I:Inv X pins σ H s)(h:CE X.stack X.prog X.w H s Q u s'):EP X pins σ Q u s':=by
 obtain⟨v,H',os,bare,un,ax,r,q⟩:=h
 obtain⟨hh,g,d,t,os'⟩:=s'
 obtain rfl:os'=s.os:=os
 exact⟨v,H',I.call (h':=hh) (g':=g) (d':=d) (t':=t) (ch:=[]) un ax bare (fun b z=>absurd z (by simp)),r,q⟩
end
noncomputable def zdh(sp:Sp)(mV:List V)(E:XK)(t:TA):TE:=fun σ H Q=>t σ H fun vs H1=>sp (vs++mV) H1 Q E
def Binds(K:kb)(fd:yq)(ps:List ib)(ds:List gV):Prop :=
 ∀(s:ir) (us:List gV),K.In s.heap->(us++ds).length=ps.length->B7 s fd ⟨us,[]⟩ (ps.zip (us++ds))
theorem Binds.all{K:kb}(h:∀ us:List gV,us.length=ps.length->Ax fd ⟨us,[]⟩=pure (ps.zip us)):Binds K fd ps []:=fun s us _ hl=>by
 rw [zP] at hl ⊢
 exact .of_eq (h us hl)
def Passes(CX:h8)(X:Cx)(E:XK):Prop:=∀(pins:List (dm×xU)) (σ:St) (H:Hp) (s:ir) (e:gV) (s':ir),Inv X pins σ H s->CX X.stack H s E e s'->X.xe e s'
section
variable {sp:Sp}{ds:List gV}{m:ib}{apos:xW}{o:o1}
theorem ztv(F:bU X.prog X.w X.K X.mg X.base CX k f fd ps sp)(hr:aZ k X.A)(hb:Binds X.K fd ps ds)(hd:Vals mV ds)(hx:Passes CX X E)
  (I:Inv X pins σ H s)(r:Vals vs us)(h:sp (vs++mV) H Q E):xS (xT X.prog X.w) X.A (call (.ref f) us) (EP X pins σ Q) X.xe s:=by
 have r2:Vals (vs++mV) (us++ds):=r.append hd
 have hl:(us++ds).length=ps.length:=by rw [<- r2.length];exact F.len _ _ _ _ h
 refine C6 (CA (F.run X.A X.stack s H ⟨us,[]⟩ (us++ds) (vs++mV) Q E hr I.zbv (hb s us I.eJ hl) r2 h) fun r s' hq=>?_)
 cases r with
 | error e=>exact hx pins σ H s e s' I hq
 | ok fl =>
  cases fl with
  | ret u=>exact I.after hq
  | next=>exact za hq
  | brk=>exact za hq
  | cont=>exact za hq
theorem zqM(F:bU X.prog X.w X.K X.mg X.base CX k f fd ps sp)(hr:aZ k X.A)(hg:Gl X x)(hm:X.mg x=some (.ref f))(hk:Ai X.K (.ref f)=true)(hb:Binds X.K fd ps ds)(hd:Vals mV ds)(hx:Passes CX X E)
  (ha:PA X (e::es) t)(bA:(x==("__debug__":ib))=false:=by decide) (he:pd (e::es) X.env=(false,xZ e X.env)::pd es X.env:=by rfl) (bj:(yp pos (pd es X.env)).any (·.1)=false:=by rfl) :
  PE X (.Call (.Name x p) (e::es) [] pos) (zdh sp mV E t):=by
 intro pins s σ H Q I h
 refine C7 (qI I hg hm ?_ bA)
 refine E6 (h₀:=X.base) I.ok.mod.qG hk (aN (ha pos pins s σ H _ I h) fun us s1 ⟨vs,H1,I1,r,q⟩=>⟨I1.eJ,?_⟩) he bj
 exact ztv F hr hb hd hx I1 r q
structure Mk(K:kb)(C f:dm):Prop where
 makes:DY K C=true
 init:yD K (.ref C) "__init__"=some (some (.ref f))
 fn:Bv K (.ref f)=true
 kp:Ai K (.ref C)=true
end
structure fB(N P:List ib)(sc:yT):Prop where
 kind:sc.kind=.function
 co:sc.isCoroutine=false
 gen:sc.isGenerator=false
 nd:N.Nodup
 pre:N.take P.length=P
 par:∀ x∈P,sc.names.lookup x=some .local\/sc.names.lookup x=some .cell
 zpR:∀ y∈sc.names,y.2≠.free
theorem zei{kindOf:ib->Option zD}{x:ib}:∀{binds:List (ib×gV)} {m:ib->Option gV},(∀ v,(x,v)∉binds)->bindL kindOf binds m x=m x
 | [],_,_=>rfl
 | (n,v)::r,m,h=>by
  unfold bindL
  rw [zei fun w hw=>h w (yK _ hw)]
  split
  ·have:x≠n:=by rintro rfl;exact h v yM
   simp [this]
  ·rfl
theorem zeg{kindOf:ib->Option zD}{x:ib}:∀{binds:List (ib×gV)} {m:ib->Option gV},(∀ v,(x,v)∉binds)->bindC kindOf binds m x=m x
 | [],_,_=>rfl
 | (n,v)::r,m,h=>by
  unfold bindC
  rw [zeg fun w hw=>h w (yK _ hw)]
  split
  ·rfl
  ·have:x≠n:=by rintro rfl;exact h v yM
   simp [this]
theorem zeh{kindOf:ib->Option zD}{x:ib}{v:gV}:∀{P:List ib} {vs:List gV} {i:Nat} {m:ib->Option gV},P.Nodup->P[i]?=some x->vs[i]?=some v->kindOf x=some .local ->
  bindL kindOf (P.zip vs) m x=some v
 | [],_,_,_,_,h,_,_=>by simp at h
 | _::_,[],_,_,_,_,h,_=>by simp at h
 | p::P,w::vs,0,m,nd,h1,h2,hk=>by
  simp at h1 h2;subst h1;subst h2
  show bindL kindOf ((p,w)::P.zip vs) m p=_
  unfold bindL
  rw [zei fun v hv=>(z0.mp nd).1 (CB hv).1,if_pos hk]
  simp
 | p::P,w::vs,i+1,m,nd,h1,h2,hk=>by
  show bindL kindOf ((p,w)::P.zip vs) m x=_
  unfold bindL
  exact zeh (i:=i) (z0.mp nd).2 (by simpa using h1) (by simpa using h2) hk
theorem zef{kindOf:ib->Option zD}{x:ib}{v:gV}:∀{P:List ib} {vs:List gV} {i:Nat} {m:ib->Option gV},P.Nodup->P[i]?=some x->vs[i]?=some v->kindOf x≠some .local ->
  bindC kindOf (P.zip vs) m x=some v
 | [],_,_,_,_,h,_,_=>by simp at h
 | _::_,[],_,_,_,_,h,_=>by simp at h
 | p::P,w::vs,0,m,nd,h1,h2,hk=>by
  simp at h1 h2;subst h1;subst h2
  show bindC kindOf ((p,w)::P.zip vs) m p=_
  unfold bindC
  rw [zeg fun v hv=>(z0.mp nd).1 (CB hv).1,if_neg hk]
  simp
 | p::P,w::vs,i+1,m,nd,h1,h2,hk=>by
  show bindC kindOf ((p,w)::P.zip vs) m x=_
  unfold bindC
  exact zef (i:=i) (z0.mp nd).2 (by simpa using h1) (by simpa using h2) hk
noncomputable def start(N:List ib)(vs:List V):St:=vs.map some++xY (N.length-vs.length) none
noncomputable def dC(CX:h8)(P:x6)(w:x5)(K:kb)(mg:ib->Option gV)(base:xV)(N:List ib)(qual:ib)(scope:yT)(f:dm)(cd:gV)(A:ya)(outer:List ye)(s:ir)(H:Hp)(E:XK):Cx where
 prog:=P
 w:=w
 K:=K
 mg:=mg
 base:=base
 A:=A.deeper (yQ qual scope s.heap.objs.size f cd)
 N:=N
 s₀:=s
 H₀:=H
 env:=yQ qual scope s.heap.objs.size f cd
 outer:=outer
 stack:=yQ qual scope s.heap.objs.size f cd::outer
 ex:=[]
 calm:=true
 fn:=fun _=>true
 pn:=[]
 xe:=fun e s'=>xS (xT P w) (A.deeper (yQ qual scope s.heap.objs.size f cd)) (leaving (yQ qual scope s.heap.objs.size f cd) e) (fun _ iI=>CX outer H s E e iI) (fun e' iI=>CX outer H s E e' iI) s'
theorem zeE(h:sc.names.lookup x=some .cell):∃ c,(Aj n sc.names []).lookup x=some c:=by
 have q:=E7 sc.names n [] (.inl h)
 exact E8.mp q
theorem zmB{K:kb}{s1:ir}
  (S:fB N ps scope)(hd:A.handled=none)(e0:nR P w K mg base A outer s H)(hl:vs.length=ps.length)(r:Vals vs us)
  (x:InCallC s s.heap.objs.size (bindL (yQ qual scope s.heap.objs.size f cd).kindOf (ps.zip us) fun _=>none) (Aj (s.heap.objs.size+1) scope.names []) (bindC (yQ qual scope s.heap.objs.size f cd).kindOf (ps.zip us) fun _=>none) s1) :
  Inv (dC CX P w K mg base N qual scope f cd A outer s H E) [] (start N vs) H s1:=by
 have bj:ps.length<=N.length:=by have:=congrArg Bw S.pre;rw [zQ] at this;omega
 obtain⟨h1,tk,rfl,hk⟩:=x.done
 have tQ:∀ b:dm,b∉(dC CX P w K mg base N qual scope f cd A outer s H E).ex:=fun b z=>absurd (show b∈([]:List dm) from z) (by simp)
 refine⟨⟨e0.mod,S.kind,rfl,rfl,x9 _,fun y z c h1 h2=>?_,fun y hy=>?_,fun y c _ h=>?_,fun _=>hd,Around.frames_deeper e0.frames,.inr ⟨rfl,rfl⟩,fun b z=>absurd z (tQ b),e0.bs,e0.jr,fun b _ _=>tQ b,fun b z=>absurd z (tQ b),e0.gA,e0.jV,e0.tree,⟨_,_,rfl,S.gen,S.co,rfl,rfl⟩⟩,
  rfl,e0.bare,Un.kept hk,⟨_,x.toInCall.ns,fun i y v h1 h2 h3=>?_⟩,fun y c h=>⟨_,x.cell y c h⟩,e0.ax.fresh (x9 _),fun y c h=>?_,fun p hp=>absurd (show p∈([]:List (dm×xU)) from hp) (by simp),e0.ax.kept hk,?_⟩
 ·exact name_of_addr x.apart (Ay h1) (Ay h2)
 ·have hy:scope.names.lookup y=some .cell\/scope.names.lookup y=some .free:=hy
  rcases hy with hy|hy
  ·exact zeE hy
  ·exact absurd rfl (S.zpR _ (Ay hy))
 ·exact Ba (x.above y c (Ay h))
 ·have hi:i<vs.length:=by
   unfold start at h2
   by_cases hi:i<vs.length
   ·exact hi
   ·rw [z8 (by simpa using hi)] at h2
    rw [z9] at h2
    split at h2 <;> cases h2
  have ha:vs[i]?=some v:=by
   unfold start at h2
   rw [zt (by simpa using hi),yO] at h2
   cases e:vs[i]? with
   | none=>rw [e] at h2;cases h2
   | some a=>rw [e] at h2;cases h2;rfl
  obtain⟨u,hu,rv⟩:=r.get ha
  have hp:ps[i]?=some y:=by
   rw [<- S.pre,D1 (by omega)];exact h1
  have ndP:ps.Nodup:=by rw [<- S.pre];exact S.nd.sublist (List.take_sublist _ _)
  refine⟨u,rv,?_⟩
  rcases S.par y (zg hp) with k|k
  ·exact .inl ⟨k,zeh ndP hp hu k⟩
  ·obtain⟨c,e⟩:=zeE (n:=s.heap.objs.size+1) k
   refine .inr ⟨.inl k,c,e,?_⟩
   have q:=x.cell y c e
   rw [zef ndP hp hu (by show scope.names.lookup y≠_;rw [k];decide)] at q
   exact q
 ·exact e0.ax.fresh (Ba (x.above y c (Ay h)))
 ·unfold start
  show _=N.length
  rw [zH,yn,Bx]
  omega
theorem zfs{K:kb}{name:ib}{dV kV doc pm aw ct oc:gV}{an od:Option dm}
  {sp:Sp}(lk:K.lookup f=some ⟨oc,od,.func (zh name qual params body scope dV kV doc pm an aw ct),gC⟩)(eU:Az K aw qual=true)(S:fB N ps scope)
  (len:∀ vs H Q E,sp vs H Q E->vs.length=ps.length)
  (sG:∀(A:ya) (outer:List ye) (s:ir) (H:Hp) (vs:List V) (Q:VK) (E:XK),aZ k (A.deeper (yQ qual scope s.heap.objs.size f aw))->sp vs H Q E ->
   ∃ t,bJ (dC CX P w K mg base N qual scope f aw A outer s H E) body t/\t { nx:=fun _ H'=>Q .non H',rt:=Q } (start N vs) H) :
  bU P w K mg base CX (k+1) f (zh name qual params body scope dV kV doc pm an aw ct) ps sp:=by
 refine⟨len,fun A outer s H args us vs Q E hr e0 hb r nc=>?_⟩
 have hl:=len _ _ _ _ nc
 have KX:K.In s.heap:=e0.mod.qG.keeps fun b o e=>(e0.bs b o e).1
 have lim:s.heap.NoLimit:=e0.mod.nolimit.keeps fun b o e=>(e0.bs b o e).1
 have zmj:∀ y∈ps.zip us,scope.names.lookup y.1=some .local\/(scope.names.lookup y.1=some .cell/\((Aj (s.heap.objs.size+1) scope.names []).lookup y.1).isSome=true):=fun⟨n,v⟩ hy=>by
  rcases S.par n (CB hy).1 with q|q
  ·exact .inl q
  ·exact .inr ⟨q,E7 _ _ _ (.inl q)⟩
 refine codeAny_call_function hr.depth (KX _ _ lk) rfl S.co S.gen rfl (PySem.W.codeRec_of KX eU) (hb _ _ _ _ ?_)
 refine wpAny_newFunctionEnv_cells S.kind zmj fun env he s1 x=>?_
 subst he
 refine⟨lim.keeps x.toInCall.keep,codeAny_func ?_⟩
 obtain⟨t,ht,hq⟩:=sG A outer s H vs Q E (hr.deeper _) nc
 have I:Inv (dC CX P w K mg base N qual scope f aw A outer s H E) [] (start N vs) H s1:=zmB S hr.hd e0 hl r x
 refine yA (ht [] s1 (start N vs) H _ I hq) (fun fl s' hs=>?_) fun e s' hs=>hs
 have fin:∀{σ':St} {H':Hp} {v:V} {u:gV},Inv (dC CX P w K mg base N qual scope f aw A outer s H E) [] σ' H' s'->RelV v u->Q v H'->CE outer P w H s Q u s' :=
  fun{σ' H' v u} J rv q=>⟨v,H',J.os,J.bare,J.base,J.ax,rv,q⟩
 cases fl with
 | ret u =>
  obtain⟨v,σ',H',J,rv,q⟩:=hs
  exact fin J rv q
 | next =>
  obtain⟨σ',H',J,q⟩:=hs
  exact fin (v:=V.non) (u:=yF) J rfl q
 | brk =>
  obtain⟨_,_,_,q⟩:=hs
  exact za q
 | cont =>
  obtain⟨_,_,_,q⟩:=hs
  exact za q
end
section
section
variable {id T:String}
noncomputable def xC(r:List V->Hp->VK->Prop)(t:TA):TE:=fun σ H Q=>t σ H fun vs H1=>r vs H1 Q
theorem wV(hc:gG X (.builtin id) r)(hg:Gl X x)(hm:X.mg x=none)(hv:yJ x=some (.builtin id))(ha:PA X (e::es) t)(hn:x ≠ "__name__":=by decide) (bA:(x==("__debug__":ib))=false:=by decide)
  (he:pd (e::es) X.env=(false,xZ e X.env)::pd es X.env:=by rfl) (bj:(yp pos (pd es X.env)).any (·.1)=false:=by rfl):PE X (.Call (.Name x p) (e::es) [] pos) (xC r t):=by
 intro pins s σ H Q I h
 refine C7 (qH I hg hm hv ?_ hn bA)
 exact PyProof.Rows.callWith_builtin1 (aN (ha pos pins s σ H _ I h) fun us s1 ⟨vs,H1,I1,r1,q1⟩=>hc pins s1 σ H1 vs us Q I1 r1 q1) he bj
theorem zgV(hc:gG X (.type T) r)(hg:Gl X x)(hm:X.mg x=none)(hv:yJ x=some (.type T))(ha:PA X (e::es) t)(hn:x ≠ "__name__":=by decide) (bA:(x==("__debug__":ib))=false:=by decide)
  (he:pd (e::es) X.env=(false,xZ e X.env)::pd es X.env:=by rfl) (bj:(yp pos (pd es X.env)).any (·.1)=false:=by rfl):PE X (.Call (.Name x p) (e::es) [] pos) (xC r t):=by
 intro pins s σ H Q I h
 refine C7 (qH I hg hm hv ?_ hn bA)
 exact C2 (aN (ha pos pins s σ H _ I h) fun us s1 ⟨vs,H1,I1,r1,q1⟩=>hc pins s1 σ H1 vs us Q I1 r1 q1) he bj
end
end
end L2
namespace HT
open PySem PyProof.Rows
noncomputable def lexLt:List Int->List Int->Bool
 | [],[]=>false
 | [],_::_=>true
 | _::_,[]=>false
 | x::xs,y::ys=>if x=y then lexLt xs ys else decide (x<y)
theorem zpa(x y:Int)(xs ys:List Int):lexLt (x::xs) (y::ys)=if x=y then lexLt xs ys else decide (x<y):=rfl
theorem zpd:lexLt [] []=false:=rfl
theorem zpc(y:Int)(ys:List Int):lexLt [] (y::ys)=true:=rfl
theorem zpb(x:Int)(xs:List Int):lexLt (x::xs) []=false:=rfl
theorem zlh(A:ya)(s:ir)(a:Int)(t:yS)(c:Int)(u:yS):∃ e,D2 A s (.int a t) (.int c u) e/\(e=true↔a=c) :=
 ⟨(a==c),E9 a t c u,by simp⟩
theorem ztf(A:ya)(s:ir)(a:Int)(t:yS)(c:Int)(u:yS)(prog:x6)(w:x5)(E:gV->ir->Prop)(Q:gV->ir->Prop)(h:Q (.bool (decide (a<c))) s) :
  xS (xT prog w) A (richCompare .Lt (.int a t) (.int c u)) Q E s :=
 (PyProof.Rows.lt_int h:xS (xT prog w) A (yj .Lt (.int a t) (.int c u)) Q E s)
section
open PySem.SeqAt
open PySem.AutoSeq1 (wpAny_loadPart')
open PySem.MeetsSeq PySem.MeetsSeq2 PySem.MeetsSeq3
theorem zuu(l b:dm)(items iF:Array gV)(n n2:Nat)(dd lD:Option dm)(sl km:Array (Option gV))(ns ms:List Int)(hi:zI items.toList ns)(hj:zI iF.toList ms) :
  Meets (zJ.«tuple.__lt__» ⟨[.ref l,.ref b],[]⟩)
   (fun _ R s=>s.heap.get? l=some { cls:=.type "tuple",dict:=dd,data:=.seq items n,slots:=sl }/\s.heap.get? b=some { cls:=.type "tuple",dict:=lD,data:=.seq iF n2,slots:=km } /\
    R (.ok (.ret (.bool (lexLt ns ms)))) s) :=
 .of_wp fun prog w A R s h=>by
  obtain⟨hp,g,d,tk,os⟩:=s;obtain⟨hl,hb,h⟩:=h
  have f2:=AutoSeq1.sub_tuple_tuple
  have z1:items.size=ns.length:=by rw [<- hi.length];simp
  have z2:iF.size=ms.length:=by rw [<- hj.length];simp
  wp_walk using B8 hl,B8 hb,wpAny_forIn_list _ (fun rest b s'=>b.1=none/\s'=⟨hp,g,d,tk,os⟩/\∃(vs ws:List gV) (dq qK:List Int),rest=vs.zip ws /\
   zI vs dq/\zI ws qK/\dq.length+iF.size=qK.length+items.size/\R (.ok (.ret (.bool (lexLt dq qK)))) ⟨hp,g,d,tk,os⟩) _
  case turn =>
   rintro⟨y,x⟩ rest b s' ⟨qw,rfl,vs,ws,dq,qK,hz,sW,wj,hlen,hR⟩
   cases sW with
   | nil=>rw [AA] at hz;cases hz
   | cons a t hvi' =>
    cases wj with
    | nil=>rw [AB] at hz;cases hz
    | cons c u hwi' =>
     rw [zu] at hz
     injection hz with hyx hrest
     injection hyx with hy hx
     subst hy hx
     rw [zpa] at hR
     simp only [yg] at hlen
     obtain⟨e,he,zfG⟩:=zlh A.in1 ⟨hp,g,d,tk,os⟩ a t c u
     refine lb (he prog w _ _ ?_)
     cases e with
     | true =>
      rw [if_pos (zfG.mp rfl)] at hR
      wp_walk
      exact⟨rfl,rfl,_,_,_,_,hrest,hvi',hwi',by omega,hR⟩
     | false =>
      rw [if_neg (fun q=>absurd (zfG.mpr q) zy)] at hR
      have hri:=ztf A.in1 ⟨hp,g,d,tk,os⟩ a t c u prog w
      wp_walk using hri
      exact⟨_,rfl,by simpa using hR⟩
  case fin =>
   rintro⟨b1,b2⟩ s' ⟨qw,rfl,vs,ws,dq,qK,hz,sW,wj,hlen,hR⟩
   simp only at qw
   subst qw
   have hv:lexLt dq qK=decide (items.size<iF.size):=by
    cases sW with
    | nil =>
     cases wj with
     | nil =>
      simp only [yB] at hlen
      rw [zpd]
      exact(decide_eq_false (by omega)).symm
     | cons c u hw =>
      simp only [yB,yg] at hlen
      rw [zpc]
      exact(decide_eq_true (by omega)).symm
    | cons a t hv =>
     cases wj with
     | nil =>
      simp only [yB,yg] at hlen
      rw [zpb]
      exact(decide_eq_false (by omega)).symm
     | cons c u hw =>
      rw [zu] at hz
      cases hz
   rw [hv] at hR
   wp_walk
   exact⟨_,rfl,by simpa [Builtin.Tuple.tupleCompareSizes] using hR⟩
  case h =>
   exact⟨rfl,rfl,items.toList,iF.toList,ns,ms,rfl,hi,hj,by omega,h⟩
end
variable {prog:x6}{v vl vu:gV}{E Q:gV->ir->Prop}{w:x5}{b sl t:dm}{A:ya}{hi o:Option Int}{s:ir}{items:Array gV}{n:Nat}
section
theorem zpn{l:dm}{iF:Array gV}{ns ms:List Int}(hl:Aq s.heap l items)(hb:Aq s.heap b iF)(hi:zI items.toList ns)(hj:zI iF.toList ms)
  (hu:A.units<yW)(h:Q (.bool (lexLt ns ms)) s):xS (xT prog w) A (yj .Lt (.ref l) (.ref b)) Q E s:=by
 obtain⟨⟨cls,dd,data,sl⟩,ho,hc,n,hd⟩:=id hl
 obtain⟨⟨zaP,lD,data2,km⟩,fJ,iy,n2,hd2⟩:=id hb
 simp only at hc hd iy hd2
 subst hc hd iy hd2
 exact richCompare_meets_room (op:=.Lt) ⟨_,ho,rfl⟩ ⟨_,fJ,rfl⟩ PySem.F.slot_tuple_lt PySem.F.entry_tuple_lt (PySem.F.args_tuple_lt_2 _ _) (zuu l b items iF n n2 dd lD sl km ns ms hi hj)
  ⟨ho,fJ,show Af (lexLt ns ms)≠Fb/\Q (.bool (lexLt ns ms)) s from⟨(fun x=>nomatch x),h⟩⟩ hu
theorem zjL{vs ws:List gV}(ht:Aq s.heap t vs.toArray)(hb:Aq s.heap b ws.toArray)(hv:vs≠[])
  (h1:ws=[]->Q (.ref t) s)(h2:ws≠[]->Q (.ref s.heap.objs.size) { s with heap:=s.heap.push { cls:=.type "tuple",data:=.seq (vs++ws).toArray } })
  (hsz:vs.length+ws.length<=yb):xS (xT prog w) A (zA .Add (.ref t) (.ref b)) Q E s:=by
 obtain⟨⟨cls,dd,data,sl⟩,ho,hc,n,hd⟩:=id ht
 obtain⟨⟨zaP,lD,data2,km⟩,fJ,iy,n2,hd2⟩:=id hb
 simp only at hc hd iy hd2
 subst hc hd iy hd2
 have e:vs.toArray++ws.toArray=(vs++ws).toArray:=by simp
 by_cases hw:ws=[]
 ·exact C8 ⟨_,ho,rfl⟩ ⟨_,fJ,rfl⟩ D3 D4 D5 D6 (D7 _ _)
   (tuple_addW1 t b vs.toArray ws.toArray n n2 dd lD sl km (by simpa using hv) (by simp [hw])) ⟨ho,fJ,h1 hw⟩
 ·refine C8 ⟨_,ho,rfl⟩ ⟨_,fJ,rfl⟩ D3 D4 D5 D6 (D7 _ _)
   (tuple_addW2 t b vs.toArray ws.toArray n n2 dd lD sl km (by simpa using hv) (by simpa using hw) (by rw [yv,yv];exact hsz)) ⟨ho,fJ,?_⟩
  rw [e]
  exact h2 hw
noncomputable def aY(n d:Nat):Option Int->Nat
 | none=>d
 | some v=>if v<0 then(v+(n:Int)).toNat else min v.toNat n
theorem ztz(n d:Nat)(hd:d<=n)(o:Option Int):aY n d o<=n:=by
 cases o with
 | none=>exact hd
 | some v =>
  show(if v<0 then(v+(n:Int)).toNat else min v.toNat n)<=n
  by_cases hv:v<0
  ·rw [if_pos hv];omega
  ·rw [if_neg hv];exact Nat.min_le_right _ _
theorem zeF(v:Int)(n d:Nat):(if v<0 then max (v+(n:Int)) 0 else min v (n:Int))=((aY n d (some v):Nat):Int):=by
 show(if v<0 then max (v+(n:Int)) 0 else min v (n:Int))=(((if v<0 then(v+(n:Int)).toNat else min v.toNat n):Nat):Int)
 by_cases hv:v<0
 ·simp only [if_pos hv];omega
 ·simp only [if_neg hv];omega
theorem ziZ(lo hi:Option Int)(n:Nat):D8 lo hi 1 (n:Int)=(((aY n 0 lo:Nat):Int),((aY n n hi:Nat):Int)):=by
 have h1:¬ ((1:Int)<0):=by omega
 unfold D8
 simp only [h1,if_false]
 refine Prod.ext ?_ ?_
 ·cases lo with
  | none=>rfl
  | some v=>exact zeF v n 0
 ·cases hi with
  | none=>rfl
  | some v=>exact zeF v n n
theorem zri(i j:Nat):C9 (i:Int) (j:Int) 1=j-i:=by
 unfold C9
 have h1:(1:Int) > 0:=by omega
 simp only [h1,if_true,Int.ediv_one]
 split <;> omega
theorem zhU{Q:Option Int->ir->Prop}(p:AD v o)(h:Q o s):xS (xT prog w) A (Builtin.Slice.slicePartIndex v) Q E s:=by
 cases p with
 | none=>exact slicePart_none h
 | int i t=>exact slicePart_int h
theorem zhT{lo:Option Int}{Q:Int×Int×Nat->ir->Prop}(hs:s.heap.IsSliceOf sl vl vu .none)(pl:AD vl lo)(pu:AD vu hi)
  (h:Q (((aY n 0 lo:Nat):Int),1,aY n n hi-aY n 0 lo) s):xS (xT prog w) A (Fc (.ref sl) (pure (n:Int))) Q E s:=by
 obtain⟨os,oN,m8,sI⟩:=id hs
 unfold Fc Builtin.Slice.sliceFields
 refine lb (lb (By oN sI (x:=vl) rfl (lb (By oN sI (x:=vu) rfl (lb (By oN sI (x:=.none) rfl (xX ?_)))))))
 refine lb (slicePart_none ?_)
 show xS _ _ (if((1:Int)==0)=true then _ else _) _ _ s
 rw [if_neg (by decide)]
 refine lb (zhU pl (lb (zhU pu (lb (xX ?_)))))
 show xS _ _ (match D8 lo hi 1 (n:Int) with|(lo,hi)=>pure (lo,(1:Int),C9 lo hi 1)) _ _ s
 rw [ziZ lo hi n]
 show xS _ _ (pure (((aY n 0 lo:Nat):Int),(1:Int),C9 ((aY n 0 lo:Nat):Int) ((aY n n hi:Nat):Int) 1)) _ _ s
 rw [zri]
 exact xX h
theorem zrf(xs:Array gV)(i k:Nat):((zN k).filterMap fun(m:Nat)=>xs[((i:Int)+(m:Int)*1).toNat]?).toArray=((xs.toList.drop i).take k).toArray:=by
 have e:(fun(m:Nat)=>xs[((i:Int)+(m:Int)*1).toNat]?)=fun m=>xs[i+m]?:=by
  funext m
  have:((i:Int)+(m:Int)*1).toNat=i+m:=by omega
  rw [this]
 rw [e]
 have:=pick_run xs i k
 rw [List.filterMap_map] at this
 have e2:((fun x=>xs[x]?)∘fun x=>i+x)=fun m=>xs[i+m]?:=rfl
 rw [e2] at this
 rw [this]
theorem zlV{lo:Option Int}(ht:Aq s.heap t items)(hs:s.heap.IsSliceOf sl vl vu .none)(pl:AD vl lo)(pu:AD vu hi)
  (hw:¬ (aY items.size 0 lo=0/\aY items.size items.size hi=items.size))
  (h:Q (.ref s.heap.objs.size) { s with heap:=s.heap.push { cls:=.type "tuple",data:=.seq ((items.toList.drop (aY items.size 0 lo)).take (aY items.size items.size hi-aY items.size 0 lo)).toArray } })
  (hsz:items.size<=yb):xS (xT prog w) A (AU (.ref t) (.ref sl)) Q E s:=by
 have wg:sizeOk (.seq ((items.toList.drop (aY items.size 0 lo)).take (aY items.size items.size hi-aY items.size 0 lo)).toArray):=by
  show((items.toList.drop (aY items.size 0 lo)).take (aY items.size items.size hi-aY items.size 0 lo)).toArray.size<=yb
  rw [yv,zQ,Dc,BV]
  omega
 have hj:aY items.size items.size hi<=items.size:=ztz _ _ (x9 _) hi
 obtain⟨os,oN,m8,sI⟩:=id hs
 have hTs:s.TypeIs (.ref sl) "slice":=⟨os,oN,m8⟩
 unfold AU
 try with_reducible refine zC ?_
 first|refine lb (xX ?_)|skip
 refine lb (wpAny_sequenceKey ht.typeIs (by decide) ?_)
 refine lb (Dd (name:=De "__getitem__") ht.typeIs B9
  (Bz B9 ht.typeIs entry_tuple_getitem ?_ (args_tuple_getitem _ _)))
 show xS _ _ (Fd (.ref t) >>= _) _ _ s
 refine lb (tupleItemsOf_ ht ?_)
 refine lb (Cb hTs ?_)
 rw [if_pos (by decide)]
 refine lb (zhT hs pl pu ?_)
 have hno:¬ ((((aY items.size 0 lo:Nat):Int)==0&&(1:Int)==1&&(aY items.size items.size hi-aY items.size 0 lo)==items.size)=true):=by
  intro q
  rw [yw,yw] at q
  have q1:((aY items.size 0 lo:Nat):Int)=0:=eq_of_beq q.1.1
  have q2:aY items.size items.size hi-aY items.size 0 lo=items.size:=eq_of_beq q.2
  exact hw ⟨by omega,by omega⟩
 show xS _ _ (if(((aY items.size 0 lo:Nat):Int)==0&&(1:Int)==1&&(aY items.size items.size hi-aY items.size 0 lo)==items.size)=true then _ else _) _ _ s
 rw [if_neg hno,zrf]
 first
  | exact lb (m:=Df _) (Ah (xX ⟨_,rfl,xX h⟩) wg)
  | exact lb (m:=Df _) (Ah (lb (xX (xX ⟨_,rfl,xX h⟩))) wg)
  | exact lb (lb (m:=Df _) (Ah (xX (xX ⟨_,rfl,xX h⟩)) wg))
  | exact lb (lb (m:=Df _) (Ah (xX ⟨_,rfl,xX h⟩) wg))
end
end HT
namespace L2
open PySem PySem.Spec PyProof.Rows
variable {us:List gV}{xs:List V}{r:V->Option Int->Option Int->Hp->VK->Prop}{X:Cx}{te:TE}{ns:List Int}{e:o1}{pos:xW}
section
abbrev TO:=St->Hp->(Option Int->Hp->Prop)->Prop
def PO(X:Cx)(e:Option o1)(t:TO):Prop :=
 ∀(pins:List (dm×xU)) (s:ir) (σ:St) (H:Hp) (Q:Option Int->Hp->Prop),Inv X pins σ H s->t σ H Q ->
  xS (xT X.prog X.w) X.A (evalPart e X.env) (fun u s'=>∃ o H',Inv X pins σ H' s'/\AD u o/\Q o H') X.xe s
noncomputable def zud:TO:=fun _ H Q=>Q none H
noncomputable def zuh(t:TE):TO:=fun σ H Q=>t σ H fun x H1=>∃ i,x=.int i/\Q (some i) H1
theorem intsAre_of:∀{us:List gV},Vals (ns.map V.int) us->zI us ns:=by
 induction ns with
 | nil=>intro us r;rw [zR] at r;cases r;exact .nil
 | cons n ns ih =>
  intro us r
  rw [yi] at r
  cases r with
  | cons r1 r2 =>
   obtain⟨t,e⟩:=r1
   subst e
   exact .cons n t (ih r2)
section
variable {lo hi:Option o1}{tl th:TO}{p2:xW}
theorem zrn:PO X none zud:=by
 intro pins s σ H Q I h
 rw [evalPart_none]
 exact xX ⟨none,H,I,.none,h⟩
theorem zro(h:PE X e te):PO X (some e) (zuh te):=by
 intro pins s σ H Q I hw
 rw [evalPart_some]
 refine aN (h pins s σ H _ I hw) fun u s1 ⟨x,H1,I1,r1,q1⟩=>?_
 obtain⟨i,rfl,q⟩:=q1
 obtain⟨t,rfl⟩:=r1
 exact⟨some i,H1,I1,.int i t,q⟩
def rM(X:Cx)(r:V->Option Int->Option Int->Hp->VK->Prop):Prop :=
 ∀(pins:List (dm×xU)) (s:ir) (σ:St) (H:Hp) (x:V) (v vl vu:gV) (lo hi:Option Int) (sl:dm) (Q:VK),Inv X pins σ H s->RelV x v->s.heap.IsSliceOf sl vl vu .none->AD vl lo->AD vu hi->r x lo hi H Q ->
  ∃ T id,typeLookup (.type T) "__getitem__"=pure (some (.builtin id))/\s.TypeIs v T/\xS (xT X.prog X.w) X.A (AU v (.ref sl)) (EP X pins σ Q) X.xe s
noncomputable def tSl(r:V->Option Int->Option Int->Hp->VK->Prop)(te:TE)(tl th:TO):TE:=fun σ H Q=>te σ H fun x H1=>tl σ H1 fun l H2=>th σ H2 fun u H3=>r x l u H3 Q
theorem zqZ(hr:rM X r)(he:PE X e te)(hl:PO X lo tl)(hu:PO X hi th):PE X (.Subscript e (.Slice lo hi none p2) pos) (tSl r te tl th):=by
 intro pins s σ H Q I h
 refine Subscript_ (aN (he pins s σ H _ I h) fun v s1 ⟨x,H1,I1,r1,q1⟩=>?_)
 refine wpAny_Slice (aN (hl pins s1 σ H1 _ I1 q1) fun vl s2 ⟨l,H2,I2,pl,q2⟩=>aN (hu pins s2 σ H2 _ I2 q2) fun vu s3 ⟨u,H3,I3,pu,q3⟩=>?_)
 rw [evalPart_none]
 refine xX ?_
 have I4:Inv X pins σ H3 { s3 with heap:=s3.heap.push { cls:=.type "slice",data:=.fields #[vl,vu,.none] } }:=I3.kept (t':=s3.toks) fun b ob q=>yh _ q
 obtain⟨T,id,hT,ht,hg⟩:=hr pins { s3 with heap:=s3.heap.push { cls:=.type "slice",data:=.fields #[vl,vu,.none] } } σ H3 x v vl vu l u s3.heap.objs.size Q I4 r1 (Heap.IsSliceOf.new ..) pl pu q3
 show xS (xT X.prog X.w) X.A (D9 e (.Slice lo hi none p2) v (.ref s3.heap.objs.size)) (EP X pins σ Q) X.xe { s3 with heap:=s3.heap.push { cls:=.type "slice",data:=.fields #[vl,vu,.none] } }
 exact tail_any (ops:=[.ref s3.heap.objs.size,v]) ht hT hg (by with_unfolding_all rfl)
noncomputable def lB(xs:List V)(lo hi:Option Int):List V:=(xs.drop (HT.aY xs.length 0 lo)).take (HT.aY xs.length xs.length hi-HT.aY xs.length 0 lo)
theorem zeM(xs:List V)(lo hi:Option Int):(lB xs lo hi).length<=xs.length:=by
 unfold lB
 rw [zQ,Dc]
 omega
noncomputable def ztb(K:kb):V->Option Int->Option Int->Hp->VK->Prop:=fun x lo hi H Q=>∃ a xs,x=.ref a/\eB K H a xs /\
 ¬ (HT.aY xs.length 0 lo=0/\HT.aY xs.length xs.length hi=xs.length)/\∀ p,H p=none->Q (.ref p) (upd H p (.tup (lB xs lo hi)))
theorem ztN:rM X (ztb X.K):=by
 intro pins s σ H x v vl vu lo hi sl Q I rx hs pl pu h
 obtain⟨a,xs,rfl,hx,hw,q⟩:=h
 cases rx
 obtain⟨its,r,ht,hz⟩:=I.tuple hx
 have hlen:its.toArray.size=xs.length:=by rw [yv];exact r.length.symm
 refine⟨"tuple",_,B9.lookup,ht.typeIs,?_⟩
 refine HT.zlV ht hs pl pu (by rw [hlen];exact hw) ?_ (by rw [hlen];exact hz)
 rw [hlen]
 refine⟨.ref s.heap.objs.size,_,I.laid (t':=s.toks) (o:=.tup (lB xs lo hi)) (fun b ob q=>yh _ q) (x9 _) ?_,rfl,q _ (I.ax.fresh (x9 _))⟩
 exact⟨yx (zeM xs lo hi) hz,_,(r.drop (HT.aY xs.length 0 lo)).take (HT.aY xs.length xs.length hi-HT.aY xs.length 0 lo),Cv _ _⟩
noncomputable def zs1(K:kb):R2:=fun x y H Q=>∃ a b xs ys,x=.ref a/\y=.ref b/\eB K H a xs/\eB K H b ys/\xs≠[]/\xs.length+ys.length<=yb /\
 (ys=[]->Q (.ref a) H)/\(ys≠[]->∀ p,H p=none->Q (.ref p) (upd H p (.tup (xs++ys))))
theorem Vals.zcE(r:Vals xs us):us=[]↔xs=[]:=by
 cases r with
 | nil=>simp
 | cons _ _=>simp
theorem zqn:bf X (zA .Add) (zs1 X.K):=by
 intro pins s σ H x y v u Q I rx ry h
 obtain⟨a,b,xs,ys,rfl,rfl,ha,hb,hx,hz,q1,q2⟩:=h
 cases rx
 cases ry
 obtain⟨its,r1,p1,_⟩:=I.tuple ha
 obtain⟨ni,r2,p2,_⟩:=I.tuple hb
 refine HT.zjL p1 p2 (fun z=>hx (r1.zcE.mp z)) (fun z=>⟨.ref a,H,I,rfl,q1 (r2.zcE.mp z)⟩) (fun z=>?_) (by rw [<- r1.length,<- r2.length];exact hz)
 refine⟨.ref s.heap.objs.size,_,I.laid (t':=s.toks) (o:=.tup (xs++ys)) (fun b ob q=>yh _ q) (x9 _) ?_,rfl,q2 (fun w=>z (r2.zcE.mpr w)) _ (I.ax.fresh (x9 _))⟩
 exact⟨by rw [zH];exact hz,_,r1.append r2,Cv _ _⟩
end
end
variable {u v:gV}{r:V->List V->Hp->VK->Prop}{g9 its:List gV}{to:TE}{σ:St}{ys:List V}{T:String}{A:ya}{x y:V}{j n:Nat}{i:Int}{t:TA}{H:Hp}{s:ir}{α:Type}{pins:List (dm×xU)}{p:dm}{f:xU->xU}{es:List o1}
section
noncomputable def e7(n:Nat)(i:Int):Option Nat:=if 0<=i then(if i<n then some i.toNat else none) else if -(n:Int)<=i then some (i+n).toNat else none
noncomputable def dJ{α:Type}(xs:List α)(i:Int):Option α:=(e7 xs.length i).bind fun j=>xs[j]?
theorem zfR(h:e7 n i=some j):seqIndex? i n=some j/\j<n/\-(n:Int)<=i/\i<n:=by
 unfold e7 at h
 by_cases h0:0<=i
 ·rw [if_pos h0] at h
  by_cases h1:i<n
  ·rw [if_pos h1] at h
   have e:i.toNat=j:=yN h
   exact⟨by rw [seqIndex_of h0 h1,e],by omega,by omega,h1⟩
  ·rw [if_neg h1] at h;cases h
 ·rw [if_neg h0] at h
  by_cases h1:-(n:Int)<=i
  ·rw [if_pos h1] at h
   have e:(i+n).toNat=j:=yN h
   exact⟨by rw [seqIndex_neg (by omega) h1,e],by omega,h1,by omega⟩
  ·rw [if_neg h1] at h;cases h
theorem zd1{xs:List α}{v:α}(h:dJ xs i=some v):∃ j,seqIndex? i xs.length=some j/\xs[j]?=some v/\j<xs.length/\-(xs.length:Int)<=i/\i<xs.length:=by
 unfold dJ at h
 cases e:e7 xs.length i with
 | none=>rw [e] at h;cases h
 | some j =>
  rw [e] at h
  obtain⟨h1,h2,h3,h4⟩:=zfR e
  exact⟨j,h1,h,h2,h3,h4⟩
def uT(b:o1):Prop:=∀ o i,subscripted b false o i=operate [o,i] (AU o i)
def kZ(X:Cx)(r:R2):Prop :=
 ∀(value slice:o1) (pins:List (dm×xU)) (s:ir) (σ:St) (H:Hp) (x y:V) (v u:gV) (Q:VK),Inv X pins σ H s->RelV x v->RelV y u->r x y H Q ->
  subscripted slice false v u=operate [v,u] (AU v u)->xS (xT X.prog X.w) X.A (D9 value slice v u) (EP X pins σ Q) X.xe s
def MtR(X:Cx)(id:String)(r:V->List V->Hp->VK->Prop):Prop :=
 ∀(pins:List (dm×xU)) (s:ir) (σ:St) (H:Hp) (x:V) (xs:List V) (v:gV) (us:List gV) (Q:VK),Inv X pins σ H s->RelV x v->Vals xs us->r x xs H Q ->
  xS (xT X.prog X.w) X.A (call (.builtin id) (v::us)) (EP X pins σ Q) X.xe s
section
variable {a b:o1}{ta tb:TE}
theorem zgW{r:R2}(hr:kZ X r)(ha:PE X a ta)(hb:PE X b tb)(hs:uT b):PE X (.Subscript a b pos) (pI r ta tb):=by
 intro pins s σ H Q I h
 exact Subscript_ (zax ha hb I h fun v u s2 x y H2 I2 rx ry q=>hr a b pins s2 σ H2 x y v u Q I2 rx ry q (hs _ _))
noncomputable def zs6(K:kb):R2:=fun x y H Q=>∃ p xs i v,x=.ref p/\y=.int i/\bV K H p xs/\dJ xs i=some v/\Q v H
noncomputable def zs7(K:kb):R2:=fun x y H Q=>∃ p xs i v,x=.ref p/\y=.int i/\eB K H p xs/\dJ xs i=some v/\Q v H
theorem zmI:kZ X (zs6 X.K):=by
 intro value slice pins s σ H x y v u Q I rx ry h hs
 obtain⟨p,xs,i,z,rfl,rfl,hq,he,q⟩:=h
 cases rx
 obtain⟨t,rfl⟩:=ry
 obtain⟨its,r,pl,hz⟩:=I.list hq
 obtain⟨j,h1,h2,h3,h4,h5⟩:=zd1 he
 obtain⟨w,ew,hU⟩:=r.get h2
 have hl:=r.length
 have hn:=sZ
 have fin:EP X pins σ Q w s:=⟨z,H,I,hU,q⟩
 by_cases h0:0<=i
 ·have hj:i.toNat=j:=by
   rw [seqIndex_of h0 h5] at h1
   exact yN h1
  exact item_listR pl.isList h0 (by omega) (by rw [hj];simpa using ew) fin hs
 ·have hj:(i+(its.toArray.size:Int)).toNat=j:=by
   rw [seqIndex_neg (by omega) h4] at h1
   rw [yv,<- hl]
   exact yN h1
  exact subscriptTail_builtinR (x:=w) pl.isList.typeIs slot_list_getitem.lookup
   (wpAny_getItem_list_neg (Q:=fun r s'=>r=w/\EP X pins σ Q r s') pl.isList (by omega) (by rw [yv] <;> omega) (by omega) (by rw [hj];simpa using ew) ⟨rfl,fin⟩) hs
theorem zmJ:kZ X (zs7 X.K):=by
 intro value slice pins s σ H x y v u Q I rx ry h hs
 obtain⟨p,xs,i,z,rfl,rfl,hq,he,q⟩:=h
 cases rx
 obtain⟨t,rfl⟩:=ry
 obtain⟨its,r,pl,hz⟩:=I.tuple hq
 obtain⟨j,h1,h2,h3,h4,h5⟩:=zd1 he
 obtain⟨w,ew,hU⟩:=r.get h2
 have hl:=r.length
 have hn:=sZ
 have fin:EP X pins σ Q w s:=⟨z,H,I,hU,q⟩
 exact subscriptTail_builtinR (x:=w) pl.typeIs slot_tuple_getitem.lookup
  (getItem_tuple (j:=j) (Q:=fun r s'=>r=w/\EP X pins σ Q r s') pl (by omega) (by omega) (by rw [yv,<- hl];exact h1) (by simpa using ew) ⟨rfl,fin⟩) hs
theorem zpw(its:List gV)(n j:Nat)(u:gV):yZ (·.setIfInBounds j u) { cls:=.type "list",data:=.seq its.toArray n }={ cls:=.type "list",data:=.seq (its.set j u).toArray n }:=by
 simp [yZ]
theorem Inv.lst{pins:List (dm×xU)}{σ:St}{H:Hp}{s:ir}{p:dm}{xs:List V}(I:Inv X pins σ H s)(h:H p=some (.lst xs)) :
  ∃(its:List gV) (n:Nat),Vals xs its/\s.heap.get? p=some { cls:=.type "list",data:=.seq its.toArray n }/\xs.length<=yb:=by
 obtain⟨z,its,n,r,e⟩:=I.ax p _ h
 exact⟨its,n,r,e,z⟩
theorem Inv.zpl{n':Nat}(I:Inv X pins σ H s)(h:H p=some (.lst xs))
  (ho:s.heap.get? p=some { cls:=.type "list",data:=.seq its.toArray n }) (hf:f { cls:=.type "list",data:=.seq its.toArray n }={ cls:=.type "list",data:=.seq g9.toArray n' }) (r:Vals ys g9) (hz:ys.length<=yb) (t:Nat) :
  Inv X pins σ (upd H p (.lst ys)) { s with heap:=s.heap.update p f,toks:=t }:=by
 have e:(s.heap.update p f).get? p=some { cls:=.type "list",data:=.seq g9.toArray n' }:=by
  rw [CC f ho (by rw [hf] <;> rfl),hf]
 refine I.write (x:=p) (e:=p) (by rw [h];trivial) (.inl rfl) (fun b u hb q=>(BA _ _ (yU hb)).trans q) ⟨_,e⟩ ?_
 exact⟨hz,g9,n',r,e⟩
noncomputable def zs9:V->V->V->Hp->(Hp->Prop)->Prop:=fun o i v H Q=>∃ p xs k j,o=.ref p/\i=.int k/\H p=some (.lst xs)/\e7 xs.length k=some j/\Q (upd H p (.lst (xs.set j v)))
theorem set_list:zdC X zs9:=by
 intro pins s σ H o i v ov iv u Q I ro ri rv h
 obtain⟨p,xs,k,j,rfl,rfl,hp,hj,q⟩:=h
 cases ro
 obtain⟨t,rfl⟩:=ri
 obtain⟨its,n,r,ho,hz⟩:=I.lst hp
 obtain⟨h1,h2,h3,h4⟩:=zfR hj
 have hl:=r.length
 have hn:=sZ
 have I':Inv X pins σ (upd H p (.lst (xs.set j v))) { s with heap:=s.heap.update p (yZ (·.setIfInBounds j u)) } :=
  I.zpl hp ho (zpw its n j u) (r.set rv j) (by rw [Aa];exact hz) s.toks
 by_cases h0:0<=k
 ·have hk:k.toNat=j:=by
   rw [seqIndex_of h0 h4] at h1
   exact yN h1
  exact PySem.W.ki_setAt ho h0 (by omega) (by rw [yv,<- hl];exact h4) (by rw [hk];exact⟨_,I',q⟩)
 ·have hk:(k+(its.toArray.size:Int)).toNat=j:=by
   rw [seqIndex_neg (by omega) h3] at h1
   rw [yv,<- hl]
   exact yN h1
  exact PySem.W.ki_setBack ho (by omega) (by rw [yv,<- hl];exact h3) (by omega) (by rw [hk];exact⟨_,I',q⟩)
theorem ztP(lo hi:Option Int)(n:Nat):(BC lo hi none n).1=((HT.aY n 0 lo:Nat):Int)/\(BC lo hi none n).2.1=((HT.aY n n hi:Nat):Int)/\(BC lo hi none n).2.2=1:=by
 refine⟨?_,?_,rfl⟩
 ·cases lo with
  | none=>simp [BC,HT.aY]
  | some i =>
   simp only [BC,HT.aY,Ak,show(1:Int) > 0 by decide,if_true]
   by_cases h:i<0
   ·simp only [h,if_true] <;> omega
   ·simp only [h,if_false] <;> omega
 ·cases hi with
  | none=>simp [BC,HT.aY]
  | some i =>
   simp only [BC,HT.aY,Ak,show(1:Int) > 0 by decide,if_true]
   by_cases h:i<0
   ·simp only [h,if_true] <;> omega
   ·simp only [h,if_false] <;> omega
theorem ztO(its:List gV)(lo hi:Option Int):slicePick its.toArray lo hi none=((its.drop (HT.aY its.length 0 lo)).take (HT.aY its.length its.length hi-HT.aY its.length 0 lo)).toArray:=by
 obtain⟨h1,h2,h3⟩:=ztP lo hi its.toArray.size
 unfold slicePick
 rw [h1,h2,h3]
 simp only [sliceRange_one,pick_run,yv] <;> rfl
noncomputable def zta(K:kb):V->Option Int->Option Int->Hp->VK->Prop:=fun x lo hi H Q=>∃ a xs,x=.ref a/\bV K H a xs/\∀ p,H p=none->Q (.ref p) (upd H p (.lst (lB xs lo hi)))
theorem ztM:rM X (zta X.K):=by
 intro pins s σ H x v vl vu lo hi sl Q I rx hs pl pu h
 obtain⟨a,xs,rfl,hx,q⟩:=h
 cases rx
 obtain⟨its,r,ht,hz⟩:=I.list hx
 have hlen:=r.length
 refine⟨"list",_,slot_list_getitem.lookup,ht.isList.typeIs,?_⟩
 refine wpAny_getItem_list_slice ht.isList hs pl pu .none (by simp) ?_ (by rw [yv] <;> omega)
 rw [ztO,<- hlen]
 refine⟨.ref s.heap.objs.size,_,I.laid (t':=s.toks) (o:=.lst (lB xs lo hi)) (fun b ob q=>yh _ q) (x9 _) ?_,rfl,q _ (I.ax.fresh (x9 _))⟩
 exact⟨yx (zeM xs lo hi) hz,_,0,(r.drop (HT.aY xs.length 0 lo)).take (HT.aY xs.length xs.length hi-HT.aY xs.length 0 lo),yY _ rfl⟩
noncomputable def lJ:V->Bool
 | .non=>true
 | .bl _=>true
 | .int _=>true
 | .str _=>true
 | _=>false
noncomputable def mW:V->V->Bool
 | .non,.non=>true
 | .bl a,.bl b=>a==b
 | .bl a,.int b=>(if a then 1 else 0)==b
 | .int a,.bl b=>a==(if b then 1 else 0)
 | .int a,.int b=>a==b
 | .str a,.str b=>a==b
 | _,_=>false
theorem zlg(ry:RelV y u)(rx:RelV x v)(fy:lJ y=true)(fx:lJ x=true):D2 A s u v (mW y x):=by
 cases y with
 | non =>
  cases ry
  cases x with
  | non=>cases rx;exact SeqAt.EqAt.same _
  | bl b=>cases rx;exact SeqAt.EqAt.none_bool b
  | int b=>obtain⟨t,rfl⟩:=rx;exact SeqAt.EqAt.none_int b t
  | str b=>obtain⟨t,rfl⟩:=rx;exact SeqAt.EqAt.none_str b t
  | _=>exact absurd (show false=true from fx) zy
 | bl a =>
  cases ry
  cases x with
  | non=>cases rx;exact SeqAt.EqAt.bool_none a
  | bl b=>cases rx;exact SeqAt.EqAt.bool_bool a b
  | int b=>obtain⟨t,rfl⟩:=rx;exact SeqAt.EqAt.bool_int a b t
  | str b=>obtain⟨t,rfl⟩:=rx;exact SeqAt.EqAt.bool_str a b t
  | _=>exact absurd (show false=true from fx) zy
 | int a =>
  obtain⟨t',rfl⟩:=ry
  cases x with
  | non=>cases rx;exact SeqAt.EqAt.int_none a t'
  | bl b=>cases rx;exact SeqAt.EqAt.int_bool a t' b
  | int b=>obtain⟨t,rfl⟩:=rx;exact E9 a t' b t
  | str b=>obtain⟨t,rfl⟩:=rx;exact ER a t' b t
  | _=>exact absurd (show false=true from fx) zy
 | str a =>
  obtain⟨t',rfl⟩:=ry
  cases x with
  | non=>cases rx;exact SeqAt.EqAt.str_none a t'
  | bl b=>cases rx;exact SeqAt.EqAt.str_bool a t' b
  | int b=>obtain⟨t,rfl⟩:=rx;exact EV a t' b t
  | str b=>obtain⟨t,rfl⟩:=rx;exact SeqAt.EqAt.str_str a t' b t
  | _=>exact absurd (show false=true from fx) zy
 | _=>exact absurd (show false=true from fy) zy
noncomputable def eqU(x:V)(u:gV):Bool:=match u with
 | .none=>mW .non x
 | .bool b=>mW (.bl b) x
 | .int i _=>mW (.int i) x
 | .str z _=>mW (.str z) x
 | _=>false
theorem zby(r:RelV y u)(f:lJ y=true):eqU x u=mW y x:=by
 cases y with
 | non=>cases r;rfl
 | bl b=>cases r;rfl
 | int i=>obtain⟨t,rfl⟩:=r;rfl
 | str z=>obtain⟨t,rfl⟩:=r;rfl
 | _=>exact absurd (show false=true from f) zy
theorem zgq{A:ya}{s:ir}{x:V}{v:gV}(rx:RelV x v)(fx:lJ x=true):∀{xs:List V} {us:List gV},Vals xs us->xs.all lJ=true->∀ u∈us,D2 A s u v (eqU x u)
 | _,_,.nil,_=>fun u hu=>by cases hu
 | y::xs,u::us,.cons r t,f=>fun u' hu=>by
  rw [Dg,yw] at f
  rcases yr.mp hu with rfl|hu
  ·rw [zby r f.1];exact zlg r rx f.1 fx
  ·exact zgq rx fx t f.2 u' hu
theorem zey:gG X (.builtin "len") (fun xs H Q=>∃ p ys,xs=[.ref p]/\(bV X.K H p ys\/eB X.K H p ys)/\Q (.int ys.length) H):=by
 intro pins s σ H xs us Q I r h
 obtain⟨p,ys,rfl,hq,q⟩:=h
 obtain⟨u,rfl,rx⟩:=vals1 r
 cases rx
 have hn:=sZ
 rcases hq with hq|hq
 ·obtain⟨its,r',pl,hz⟩:=I.list hq
  have hlen:=r'.length
  exact Calls.call_len_list pl.isList (by simp only [yv] <;> omega) ⟨.int ys.length,H,I.tok _,⟨s.toks+1,by rw [yv,hlen]⟩,q⟩
 ·obtain⟨its,r',pl,hz⟩:=I.tuple hq
  have hlen:=r'.length
  exact len_tuple pl (by simp only [yv] <;> omega) ⟨.int ys.length,H,I.tok _,⟨s.toks+1,by rw [yv,hlen]⟩,q⟩
theorem zjH:gG X (.type "list") (fun xs H Q=>∃ p ys,xs=[.ref p]/\(bV X.K H p ys\/eB X.K H p ys)/\∀ l,H l=none->Q (.ref l) (upd H l (.lst ys))):=by
 intro pins s σ H xs us Q I r h
 obtain⟨p,ys,rfl,hq,q⟩:=h
 obtain⟨u,rfl,rx⟩:=vals1 r
 cases rx
 have fin:∀(its:List gV),Vals ys its->ys.length<=yb->∀(h':xV) (c':Nat),(∀ b o',s.heap.get? b=some o'->h'.get? b=some o') ->
   h'.get? s.heap.objs.size=some { cls:=.type "list",dict:=none,data:=.seq its.toArray c',slots:=#[] }->EP X pins σ Q (.ref s.heap.objs.size) { s with heap:=h' }:=fun its r' hz h' c' kp e =>
  ⟨.ref s.heap.objs.size,_,I.laid (t':=s.toks) kp (x9 _) (show ck X.prog X.w _ h' _ (.lst ys) from⟨hz,its,c',r',e⟩),rfl,q _ (I.ax.fresh (x9 _))⟩
 rcases hq with hq|hq
 ·obtain⟨its,r',pl,hz⟩:=I.list hq
  have hlen:=r'.length
  obtain⟨o,ho,hc,n,hd⟩:=pl.isList
  exact call_list_seq p (.inl rfl) ho hc hd (fun h' c' kp e=>fin its r' hz h' c' kp e) (by simp only [yv] <;> omega)
 ·obtain⟨its,r',pl,hz⟩:=I.tuple hq
  have hlen:=r'.length
  obtain⟨o,ho,hc,n,hd⟩:=pl
  exact call_list_seq p (.inr rfl) ho hc hd (fun h' c' kp e=>fin its r' hz h' c' kp e) (by simp only [yv] <;> omega)
theorem zez:gG X (.type "tuple") (fun xs H Q=>∃ p ys,xs=[.ref p]/\((bV X.K H p ys/\∀ l,H l=none->Q (.ref l) (upd H l (.tup ys)))\/(eB X.K H p ys/\Q (.ref p) H))):=by
 intro pins s σ H xs us Q I r h
 obtain⟨p,ys,rfl,h⟩:=h
 obtain⟨u,rfl,rx⟩:=vals1 r
 cases rx
 rcases h with⟨hq,q⟩|⟨hq,q⟩
 ·obtain⟨its,r',pl,hz⟩:=I.list hq
  have hlen:=r'.length
  refine call_tuple_list pl.isList (fun h' kp=>?_) (by simp only [yv] <;> omega)
  have I1:Inv X pins σ H { s with heap:=h' }:=I.kept (t':=s.toks) kp
  have I2:Inv X pins σ (upd H h'.objs.size (.tup ys)) { s with heap:=h'.push { cls:=.type "tuple",data:=.seq its.toArray } } :=
   I1.laid (t':=s.toks) (fun b o e=>yh _ e) (x9 _) (show ck X.prog X.w _ _ _ (.tup ys) from⟨hz,its,r',Cv _ _⟩)
  exact⟨.ref h'.objs.size,_,I2,rfl,q _ (I1.ax.fresh (x9 _))⟩
 ·obtain⟨its,r',pl,hz⟩:=I.tuple hq
  exact call_tuple_same pl ⟨.ref p,H,I,rfl,q⟩
def tyV(K:kb)(T:String)(x:V)(H:Hp):Prop:=match x with
 | .str _=>T="str"
 | .int _=>T="int"
 | .ref p=>(T="list"/\∃ xs,bV K H p xs)\/(T="tuple"/\∃ o,K.lookup p=some o/\o.cls=.type "tuple"/\o.dict=none) \/
   (T="dict"/\((∃ ah,H p=some (.dK ah))\/∃ ah,H p=some (.dT ah)))\/(T="set"/\∃ S n,H p=some (.set S n))
 | _=>False
theorem zuB(I:Inv X pins σ H s)(r:RelV x v)(ty:tyV X.K T x H) :
  s.TypeIs v T/\∀ a,v=.ref a->∃ ob,s.heap.get? a=some ob/\ob.dict=none:=by
 cases x with
 | str z =>
  obtain⟨t,rfl⟩:=r
  cases (show T="str" from ty)
  exact⟨typeIs_str s z t,fun _ e=>nomatch e⟩
 | int i =>
  obtain⟨t,rfl⟩:=r
  cases (show T="int" from ty)
  exact⟨typeIs_int s i t,fun _ e=>nomatch e⟩
 | ref p =>
  cases r
  rcases ty with⟨rfl,xs,hq⟩|⟨rfl,o,hk,hc,hd⟩|⟨rfl,hk⟩|⟨rfl,S,n,hk⟩
  ·obtain⟨its,_,pl,_⟩:=I.list hq
   refine⟨pl.isList.typeIs,fun a e=>?_⟩
   cases e
   obtain⟨o,n,e,c,hd,_⟩:=pl
   exact⟨o,e,hd⟩
  ·refine⟨⟨o,I.eJ p o hk,hc⟩,fun a e=>?_⟩
   cases e
   exact⟨o,I.eJ _ o hk,hd⟩
  ·have z:∃ o,s.heap.get? p=some o/\o.ExactDict:=by
    rcases hk with⟨ah,hk⟩|⟨ah,hk⟩
    ·obtain⟨_,_,_,_,o,_,_,e,ex,_⟩:=I.ax p _ hk
     exact⟨o,e,ex⟩
    ·obtain⟨_,_,_,_,o,_,_,e,ex,_⟩:=I.ax p _ hk
     exact⟨o,e,ex⟩
   obtain⟨o,e,ex⟩:=z
   refine⟨⟨o,e,ex.1⟩,fun a e2=>?_⟩
   cases e2
   exact⟨o,e,ex.2.1⟩
  ·obtain⟨o,_,_,_,e,ex,_⟩:=I.ax p _ hk
   refine⟨⟨o,e,ex.1⟩,fun a e2=>?_⟩
   cases e2
   exact⟨o,e,ex.2.1⟩
 | _=>exact za ty
noncomputable def tBM(K:kb)(T:String)(r:V->List V->Hp->VK->Prop)(to:TE)(t:TA):TE:=fun σ H Q=>to σ H fun x H1=>tyV K T x H1/\t σ H1 fun xs H2=>r x xs H2 Q
variable {o:o1}{name:ib}{apos bC:xW}{id:String}
theorem zgU(pa:PlainAttrs T)(slot:Slot T name id)(hty:typeOf (.builtin id)=pure (.type "method_descriptor")) (hm:MtR X id r) (ho:PE X o to) (ha:PA X (e::es) t)
  (lL:B6 o name X.env (xZ o X.env)=xZ o X.env:=by rfl)
  (sO:((yp bC (pd (e::es) X.env)).all (fun x=>!x.1)&&(backToKw bC (keywordEach [] X.env)).all (fun x=>x.1.isSome)
   && decide ((e::es).length+([]:List Cd).length+(if([]:List Cd).isEmpty then 0 else 1)<30))=true:=by rfl)
  (sR:(apos.endLine==bC.line)=true:=by rfl) (hs:pd (e::es) X.env=(false,xZ e X.env)::pd es X.env:=by rfl) (oP:(yp bC (pd es X.env)).any (·.1)=false:=by rfl) :
  PE X (.Call (.Attribute o name apos) (e::es) [] bC) (tBM X.K T r to t):=by
 intro pins s σ H Q I h
 refine wpAny_Call_method_late lL sO sR rfl (aN (ho pins s σ H _ I h) fun v s1 ⟨x,H1,I1,r1,ty,q1⟩=>?_)
 obtain⟨h1,h2⟩:=zuB I1 r1 ty
 refine⟨T,id,pa,slot,hty,h1,h2,?_⟩
 have hA:=ha bC pins s1 σ H1 _ I1 q1
 rw [hs] at hA ⊢
 refine Calls.callWith_builtin (by show(false||(yp bC (pd es X.env)).any (·.1))=false;rw [oP] <;> rfl) (Ea ?_)
 exact aN hA fun us s2 ⟨vs,H2,I2,r2,q2⟩=>hm pins s2 σ H2 x vs v us Q I2 r1 r2 q2
end
end
variable {f:Array gV->Array gV}{t':Nat}
section
def MtM(X:Cx)(id:String)(r:V->List V->Hp->VK->Prop):Prop :=
 ∀(pins:List (dm×xU)) (s:ir) (σ:St) (H:Hp) (x:V) (xs:List V) (v:gV) (us:List gV) (Q:VK),Inv X pins σ H s->RelV x v->Vals xs us->r x xs H Q ->
  xS (xT X.prog X.w) X.A (call (.builtin id) (v::us)) (EP X pins σ Q) X.xe s
theorem Vals.one:∀{x:V} {us:List gV},Vals [x] us->∃ u,us=[u]/\RelV x u
 | _,_,.cons r .nil=>⟨_,rfl,r⟩
theorem Vals.rep{xs:List V}{us:List gV}(h:Vals xs us):∀ k:Nat,Vals (xY k xs).flatten (xY k us).flatten
 | 0=>.nil
 | k+1=>by
  rw [BD,BD,CD,CD]
  exact Vals.append h (Vals.rep h k)
theorem foldl_rep(its:List gV):∀(k:Nat) (acc:List gV),
  List.foldl (fun x1 x2=>x1++x2) acc.toArray (xY k its.toArray)=(acc++(xY k its).flatten).toArray
 | 0,acc=>by simp
 | k+1,acc=>by
  have e:acc.toArray++its.toArray=(acc++its).toArray:=by simp
  have e2:(acc++its)++(xY k its).flatten=acc++(xY (k+1) its).flatten:=by
   rw [BD,CD,Ec]
  rw [<- e2,<- foldl_rep its k (acc++its),<- e,BD,List.foldl_cons]
section
variable {l b:dm}{zs:List V}
theorem Inv.zpi(I:Inv X pins σ H s)(hH:H l=some (.lst xs))
  (e:s.heap.get? l=some { cls:=.type "list",data:=.seq its.toArray n }) (hf:f its.toArray=g9.toArray) (hv:Vals ys g9) (hz:ys.length<=yb) :
  Inv X pins σ (upd H l (.lst ys)) { s with heap:=s.heap.update l (yZ f),toks:=t' }:=by
 have q:=PySem.IsL.update e f
 rw [hf] at q
 refine I.write (x:=l) (e:=l) (by rw [hH];exact trivial) (.inl rfl) (fun b' u hb hu=>(BA s.heap (yZ f) (yU hb)).trans hu) ⟨_,q⟩ ?_
 exact⟨hz,g9,_,hv,q⟩
theorem Inv.zpe(I:Inv X pins σ H s)(hv:Vals ys its)(hz:ys.length<=yb) :
  Inv X pins σ (upd H s.heap.objs.size (.lst ys)) { s with heap:=s.heap.push { cls:=.type "list",data:=.seq its.toArray },toks:=t' } :=
 I.laid (fun _ _ q=>yh _ q) (x9 _) ⟨hz,its,0,hv,yY _ rfl⟩
theorem Inv.fresh(I:Inv X pins σ H s):H s.heap.objs.size=none:=I.ax.fresh (x9 _)
theorem Inv.zpk(I:Inv X pins σ H s)(hH:H l=some (.lst xs)):xs.length<=yb/\∃(its:List gV) (n:Nat),Vals xs its/\xs.length=its.length/\s.heap.get? l=some { cls:=.type "list",data:=.seq its.toArray n }:=by
 obtain⟨z,its,n,r,e⟩:=I.ax l _ hH
 exact⟨z,its,n,r,r.length,e⟩
end
section
noncomputable def zs0:V->List V->Hp->VK->Prop:=fun x vs H Q=>∃ l xs y,x=.ref l/\vs=[y]/\H l=some (.lst xs)/\xs.length<yb/\Q .non (upd H l (.lst (xs++[y])))
theorem zgu:MtM X "list.append" zs0:=by
 intro pins s σ H x vs v us Q I rx rv h
 obtain⟨l,xs,y,rfl,rfl,hH,hz,q⟩:=h
 cases rx
 obtain⟨u,rfl,ru⟩:=rv.one
 obtain⟨z,its,n,r,hl,e⟩:=I.zpk hH
 refine Dh F.slot_list_append ⟨_,e,rfl⟩ F.entry_list_append (F.args_list_append_2 _ _) (PySem.list_append l its.toArray n u (by rw [yv];omega)) ⟨e,?_⟩
 refine⟨.non,_,I.zpi (g9:=its++[u]) hH e (by simp) (r.append (.cons ru .nil)) ?_,rfl,q⟩
 rw [zH,Ed]
 omega
theorem len_rep(xs:List α)(k:Nat):(xY k xs).flatten.length=k*xs.length:=by
 induction k with
 | zero=>simp
 | succ k ih=>rw [BD,CD,zH,ih,Nat.succ_mul,Nat.add_comm]
end
end
end L2
namespace Att
open PySem PySem.W PySem.Calls PyProof.Rows
variable {n:Nat}{args:List WData}{h:xV}{loose:List ib}{q:x6}{l:OpenLaw}{vals:List gV}{d:DefRec}{YP:x5->xV->Prop}{P:Params}
theorem zmz:∀(ns:List Int) (vs:List gV),WellAll P h vs (ns.map WData.int)->zI vs ns:=by
 intro ns
 induction ns with
 | nil =>
  intro vs w
  rw [zR] at w
  cases w
  exact .nil
 | cons n ns ih =>
  intro vs w
  rw [yi] at w
  cases w with
  | cons a b =>
   cases a
   exact .cons _ _ (ih _ b)
theorem ztD(hn:l.most=some n)
  (v8:l.row.toRowW.claim.pre args=true)(hwl:WellAll P h vals args) :
  ∃ a vs ns,vals=[yt a]/\args=[WData.list (ns.map WData.int)]/\h.get? a=some { cls:=.type "list",data:=.seq vs.toArray }/\zI vs ns/\ns.length<=n:=by
 have hsh:WShape.hasAll [] args [.list .int]=true:=(pre_splitW v8).1
 have hc:l.pre.holds [] { args:=args }=true:=(pre_splitW v8).2
 obtain⟨d,r,rfl,h1,h2⟩:=hasAllW_cons hsh
 obtain rfl:=hasAllW_nil h2
 obtain⟨xs,rfl,h3⟩:=hasW_list h1
 obtain⟨ns,rfl⟩:=items_int h3
 have hlen:ns.length<=n:=by
  unfold OpenLaw.pre at hc
  have h4:(WTm.not (.lt (.lit (.int n)) (.len (.arg 0)))).holds [] { args:=[.list (ns.map .int)] }=true:=by
   have h4:=(holds_andW hc).1
   rw [hn] at h4
   exact h4
  have h5:=condW_of h4 (w_not (w_lt w_lit (w_len_list (w_arg rfl))))
  rw [yn] at h5
  refine Nat.le_of_not_lt fun q=>?_
  have q':(n:Int)<((ns.length:Nat):Int):=by omega
  first
   | (rw [decide_eq_true q'] at h5;exact absurd h5 (by decide))
   | (simp at h5;omega)
 cases hwl with
 | cons w1 w2 =>
  cases w2
  cases w1 with
  | list ho hall=>exact⟨_,_,ns,rfl,rfl,ho,zmz ns _ hall,hlen⟩
theorem zrp(l:OpenLaw)(args:List WData):l.row.toRowW.claim.post args (.bool true) args=true :=
 postW_of (r:=l.row.toRowW) (X:=(true==true))
  (show WShape.has [] (.bool true) .bool=true by first|rfl|decide|simp [WShape.has,WShape.arms,WShape.armsAll])
  (show(WTm.eq .res (.lit (.bool true))).value [] { args:=args,res:=some (.bool true),after:=args }=some (.bool (true==true)) from w_eq_bool (w_res rfl) w_lit) rfl
theorem zi9{XP:(ib->Option gV)->xV->Prop}
  (hn:l.most=some n)(sH:d.params.defaults=[])
  (call:∀(w:x5) (s₀ s₁:ir) (mg mb:ib->Option gV) (fa:dm) (o:xU) (pm cd doc:gV) (a:dm) (vs:List gV) (ns:List Int),
   Ground q loose [] XP w s₀ mg mb s₁.heap->YP w s₁.heap ->
   s₁.heap.get? fa=some o->o.data=.func (docDef d.name d.params d.body d.scope pm cd doc)->s₁.heap.CodeRec cd d.name->mg d.name=some (.ref fa) ->
   s₁.heap.get? a=some { cls:=.type "list",data:=.seq vs.toArray }->zI vs ns->ns.length<=n->s₁.gens=#[] ->
   Aw (xT l.prog w) BF (.call (.ref fa) ⟨[.ref a],[]⟩) (fun r s'=>r=.ok (.ret (.bool true))/\OldK s₁.heap s'.heap/\s'.os=s₁.os/\As s'.gens) s₁) :
  WalkO q loose XP YP l.row.toRowW d [] (fun f vs=>Ee f vs):=by
 intro w s₀ s₁ mg mb G Y fa o pm cd doc dV kV ho hd eU hD hmg hg args vals as v8 zvd hrd hwl hlo
 obtain rfl:dV=.none:=Dflts.none hD sH
 obtain rfl:kV=.none:=Dflts.noKw hD
 obtain⟨a,vs,ns,rfl,rfl,zcg,hints,hlen⟩:=ztD hn v8 hwl
 refine enter_call (CA (call w s₀ s₁ mg mb fa o pm cd doc a vs ns G Y ho (fd_plain hd) eU hmg zcg hints hlen hg) fun r s' hq=>?_)
 obtain⟨rfl,h2,h3,h4⟩:=hq
 exact⟨.inl ⟨.bool true,.bool true,[],rfl,fun _=>rfl,.bool true,zrp l _,fun _=>⟨Fe,fun _ hm=>(nomatch hm)⟩⟩,h2,h3,h4⟩
end Att
namespace L2
open PySem PySem.Spec PyProof.Rows
section
theorem zih:∀{vs:List gV} {ns:List Int},zI vs ns->Vals (ns.map V.int) vs
 | _,_,.nil=>.nil
 | _,_,.cons n t h=>.cons ⟨t,rfl⟩ (zih h)
end
section
abbrev KOf{K:kb}{h:xV}(_:K.In h):kb:=K
end
variable {H:Hp}{P:x6}{fd:yq}{k n:Nat}{N ps:List ib}{mg:ib->Option gV}{qual x:ib}{base:xV}{w:x5}{A B:Prop}{gC:Array (Option gV)}{oc:gV}{X:Cx}{pos:xW}{f:dm}
section
noncomputable def gk(s:x8):Arguments:=match s with
 | .FunctionDef _ a _ _ _ _ _ _ _ _=>a
 | _=>{ posonlyargs:=[],args:=[],vararg:=none,kwonlyargs:=[],kw_defaults:=[],kwarg:=none,defaults:=[] }
noncomputable def b7(s:x8):List x8:=match s with
 | .FunctionDef _ _ b _ _ _ _ _ _ _=>b
 | _=>[]
noncomputable def aU(s:x8):yT:=match s with
 | .FunctionDef _ _ _ _ _ _ sc _ _ _=>sc
 | _=>{ kind:=.function,names:=[],isGenerator:=false,isCoroutine:=false }
abbrev ko:h8:=fun _ _ _ _ _ _=>False
abbrev E0:XK:=fun _ _ _=>False
structure dw(K:kb)(x qual:ib)(st:x8)(f:dm)(fd:yq):Prop where
 ex:∃(oc:gV) (od:Option dm) (kV doc pm:gV) (an:Option dm) (aw ct:gV) (gC:Array (Option gV)),
  fd=zh x qual (gk st) (b7 st) (aU st) .none kV doc pm an aw ct/\K.lookup f=some ⟨oc,od,.func fd,gC⟩/\Az K aw qual=true
 kp:Ai K (.ref f)=true
section
variable {K:kb}
theorem dw.ok{st:x8}{sp:Sp}(F:dw K x qual st f fd)(S:fB N ps (aU st))(len:∀ vs H Q E,sp vs H Q E->vs.length=ps.length)
  (sG:∀(aw:gV) (A:ya) (outer:List ye) (s:ir) (H:Hp) (vs:List V) (Q:VK) (E:XK),aZ k (A.deeper (yQ qual (aU st) s.heap.objs.size f aw))->sp vs H Q E ->
   ∃ t,bJ (dC ko P w K mg base N qual (aU st) f aw A outer s H E).bT (b7 st) t/\t { nx:=fun _ H'=>Q .non H',rt:=Q } (start N vs) H):bU P w K mg base ko (k+1) f fd ps sp:=by
 obtain⟨oc,od,kV,doc,pm,an,aw,ct,gC,rfl,lk,eU⟩:=F.ex
 refine zfs lk eU S len fun A outer s H vs Q E hr nc=>?_
 obtain⟨t,h,q⟩:=sG aw A outer s H vs Q E hr nc
 exact⟨t,h.bT,q⟩
theorem dw.binds{st:x8}(F:dw K x qual st f fd)
  (h:∀(kV doc pm:gV) (an:Option dm) (aw ct:gV) (us:List gV),us.length=ps.length->Ax (zh x qual (gk st) (b7 st) (aU st) .none kV doc pm an aw ct) ⟨us,[]⟩=pure (ps.zip us)):Binds K fd ps []:=by
 obtain⟨oc,od,kV,doc,pm,an,aw,ct,gC,rfl,lk,eU⟩:=F.ex
 exact .all (h kV doc pm an aw ct)
theorem vP{st:x8}{od an:Option dm}{kV doc pm aw ct:gV}(l:K.lookup f=some ⟨oc,od,.func (zh x qual (gk st) (b7 st) (aU st) .none kV doc pm an aw ct),gC⟩)
  (c:Az K aw qual=true)(k:Ai K (.ref f)=true):dw K x qual st f (zh x qual (gk st) (b7 st) (aU st) .none kV doc pm an aw ct):=⟨⟨oc,od,kV,doc,pm,an,aw,ct,gC,rfl,l,c⟩,k⟩
end
theorem ztR(h:n<=1000):n<yb:=Ef h (by decide)
section
theorem pv(i:Nat)(hN:X.N[i]?=some x:=by rfl)(hv:uW X.env.scope x:=by first|exact Al rfl|exact Ab (Al rfl)|exact Ab (Ab rfl))(hd:(x==("__debug__":ib))=false:=by decide)
  (eU:(x==("__classdict__":ib))=false:=by decide):PE X (.Name x pos) (cV i):=zgZ hN hv hd eU
end
theorem lU(h:B):if false=true then A else B:=by
 rw [if_neg zy]
 exact h
theorem lV(h:A):if true=true then A else B:=by
 rw [if_pos rfl]
 exact h
def aM(H H':Hp):Prop:=∀ b o,H b=some o->H' b=some o
theorem aM.refl(H:Hp):aM H H:=fun _ _ h=>h
theorem aM.trans{H1 H2:Hp}(a:aM H H1)(b:aM H1 H2):aM H H2:=fun c o h=>b c o (a c o h)
end
variable {s:ir}{pins:List (dm×xU)}{σ:St}{a:Nat}
section
theorem bits_le{k:Int}(h:k.natAbs<2^a):Di k<=a:=by
 unfold Di
 split
 ·exact zr _
 ·rename_i h0
  have hp:k.natAbs≠0:=by
   intro z
   apply h0
   have:k=0:=by omega
   subst this
   rfl
  have:=(Nat.log2_lt hp).mpr h
  omega
theorem mulOk_of{i j:Int}{b:Nat}(hi:i.natAbs<2^a)(hj:j.natAbs<2^b)(h:a+b<=134217728):IntMulOk i j:=by
 have h1:=bits_le hi
 have h2:=bits_le hj
 have h3:Ff ((Di i:Int)+(Di j:Int))=false:=by
  unfold Ff
  rw [bitsLine_eq]
  simp
  omega
 unfold IntMulOk
 rw [h3]
 simp
section
theorem zqw:bf X (zA .Mult) (rI IntMulOk fun i j=>.int (i*j)):=opI fun _ _ _ _ _ _ _ hc q=>mul_int q hc
end
mutual
/-- the value v is the thing d in the abstract heap -/
def Is(K:kb)(H:Hp):yk->V->Prop
 | .none,v=>v=.non
 | .bool b,v=>v=.bl b
 | .int i,v=>v=.int i
 | .str x,v=>v=.str x
 | .list xs,v=>∃ a vs,v=.ref a/\bV K H a vs/\ig K H xs vs
 | .tuple xs,v=>∃ a vs,v=.ref a/\eB K H a vs/\ig K H xs vs
 | .dict _,_=>False
def ig(K:kb)(H:Hp):List yk->List V->Prop
 | [],vs=>vs=[]
 | d::ds,vs=>∃ v r,vs=v::r/\Is K H d v/\ig K H ds r
end
section
mutual
theorem Is.reads(I:Inv X pins σ H s):∀(d:yk) (v:V) (u:gV),Is X.K H d v->RelV v u->∃ as,Reads s.heap u d as
 | .none,v,u,h,r=>by
  simp only [Is] at h;subst h
  cases (show u=yF from r)
  exact⟨_,.none⟩
 | .bool b,v,u,h,r=>by
  simp only [Is] at h;subst h
  cases (show u=Af b from r)
  exact⟨_,.bool b⟩
 | .int i,v,u,h,r=>by
  simp only [Is] at h;subst h
  obtain⟨t,rfl⟩:=(show ∃ t,u=A8 i t from r)
  exact⟨_,.int i t⟩
 | .str x,v,u,h,r=>by
  simp only [Is] at h;subst h
  obtain⟨t,rfl⟩:=(show ∃ t,u=BQ x t from r)
  exact⟨_,.str x t⟩
 | .list xs,v,u,h,r=>by
  simp only [Is] at h
  obtain⟨a,vs,rfl,h1,h2⟩:=h
  cases (show u=yt a from r)
  obtain⟨its,rv,⟨o,n,ho,hc,_,hd⟩,_⟩:=I.list h1
  obtain⟨as,ra⟩:=ig.reads I xs vs its h2 rv
  exact⟨_,.list ho hc hd (by simpa using ra)⟩
 | .tuple xs,v,u,h,r=>by
  simp only [Is] at h
  obtain⟨a,vs,rfl,h1,h2⟩:=h
  cases (show u=yt a from r)
  obtain⟨its,rv,⟨o,ho,hc,n,hd⟩,_⟩:=I.tuple h1
  obtain⟨as,ra⟩:=ig.reads I xs vs its h2 rv
  exact⟨_,.tuple ho hc hd (by simpa using ra)⟩
 | .dict _,v,u,h,r=>by simp only [Is] at h
theorem ig.reads(I:Inv X pins σ H s):∀(ds:List yk) (vs:List V) (us:List gV),ig X.K H ds vs->Vals vs us->∃ as,ReadsAll s.heap us ds as
 | [],vs,us,h,r=>by
  simp only [ig] at h;subst h
  cases r
  exact⟨_,.nil⟩
 | d::ds,vs,us,h,r=>by
  simp only [ig] at h
  obtain⟨v,rr,rfl,h1,h2⟩:=h
  cases r with
  | cons r1 r2 =>
   obtain⟨as,q1⟩:=Is.reads I d v _ h1 r1
   obtain⟨bs,q2⟩:=ig.reads I ds rr _ h2 r2
   exact⟨_,.cons q1 q2⟩
end
end
section
noncomputable def zs2(K:kb):R2:=fun x y H Q=>∃ d e,Is K H d x/\Is K H e y/\zK d=true/\zK e=true/\Q (.bl (Am d e)) H
noncomputable def zs8(K:kb):R2:=fun x y H Q=>∃ d e,Is K H d x/\Is K H e y/\zK d=true/\zK e=true/\Q (.bl (!Am d e)) H
theorem zqo(hu:X.A.units+64<yW):bf X (yj .Eq) (zs2 X.K):=by
 intro pins s σ H x y v u Q I rx ry h
 obtain⟨d,e,h1,h2,c1,c2,q⟩:=h
 obtain⟨as,ra⟩:=Is.reads I d x v h1 rx
 obtain⟨bs,rb⟩:=Is.reads I e y u h2 ry
 exact SeqAt.compareEq_shaped ra rb c1 c2 hu ⟨.bl _,H,I,rfl,q⟩
theorem zqx(hu:X.A.units+64<yW):bf X (yj .NotEq) (zs8 X.K):=by
 intro pins s σ H x y v u Q I rx ry h
 obtain⟨d,e,h1,h2,c1,c2,q⟩:=h
 obtain⟨as,ra⟩:=Is.reads I d x v h1 rx
 obtain⟨bs,rb⟩:=Is.reads I e y u h2 ry
 exact SeqAt.compareNe_shaped ra rb c1 c2 hu ⟨.bl _,H,I,rfl,q⟩
end
end
variable {E Q:gV->ir->Prop}{y:V}{b:Bool}{A:ya}{c u:gV}
section
inductive Ty(K:kb)(H:Hp):V->gV->Prop where
 | non:Ty K H .non (.type "NoneType")
 | bl (x:Bool):Ty K H (.bl x) (.type "bool")
 | int (i:Int):Ty K H (.int i) (.type "int")
 | str (x:ib):Ty K H (.str x) (.type "str")
 | lst {a:dm} {xs:List V} (e:bV K H a xs):Ty K H (.ref a) (.type "list")
 | tup {a:dm} {xs:List V} (e:eB K H a xs):Ty K H (.ref a) (.type "tuple")
noncomputable def mS:V->gV
 | .ty n=>.type n
 | .ref a=>.ref a
 | _=>.none
theorem zeH(r:RelV y u)(h:mS y≠.none):u=mS y:=by
 cases y with
 | ty n=>exact r
 | ref a=>exact r
 | _=>exact absurd rfl h
section
theorem zmF{x:V}{t:gV}(I:Inv X pins σ H s)(rx:RelV x u)(ty:Ty X.K H x t)(e:x4 X.K t c=some b)(h:∀ tk,Q (.bool b) { s with toks:=tk }) :
  xS (xT X.prog X.w) A (call (.builtin "isinstance") [u,c]) Q E s:=by
 cases ty with
 | non=>cases (show u=yF from rx);exact BG PySem.W.kitx_none I.eJ Be e (fun z=>nomatch z) h
 | bl y=>cases (show u=Af y from rx);exact BG PySem.W.kitx_bool I.eJ Be e (fun z=>nomatch z) h
 | int i=>obtain⟨t,q⟩:=(show ∃ t,u=A8 i t from rx);cases q;exact BG PySem.W.kitx_int I.eJ Be e (fun z=>nomatch z) h
 | str y=>obtain⟨t,q⟩:=(show ∃ t,u=BQ y t from rx);cases q;exact BG PySem.W.kitx_str I.eJ Be e (fun z=>nomatch z) h
 | @lst a xs ea =>
  cases (show u=yt a from rx)
  obtain⟨its,_,⟨o,n,ho,hc,_⟩,_⟩:=I.list ea
  exact BG PySem.W.kitx_list I.eJ ⟨o,ho,hc⟩ e (fun z=>nomatch z) h
 | @tup a xs ea =>
  cases (show u=yt a from rx)
  obtain⟨its,_,⟨o,ho,hc,_⟩,_⟩:=I.tuple ea
  exact BG PySem.W.kitx_tuple I.eJ ⟨o,ho,hc⟩ e (fun z=>nomatch z) h
noncomputable def zs4(K:kb):List V->Hp->VK->Prop:=fun xs H Q=>∃ x y t b,xs=[x,y]/\mS y≠.none/\Ty K H x t/\x4 K t (mS y)=some b/\Q (.bl b) H
theorem zjF:gG X (.builtin "isinstance") (zs4 X.K):=by
 intro pins s σ H xs us Q I r h
 obtain⟨x,y,t,b,rfl,hy,ty,e,q⟩:=h
 obtain⟨u,v,rfl,ru,rv⟩:=vals2 r
 cases zeH rv hy
 exact zmF I ru ty e fun tk=>⟨.bl b,H,I.tok tk,rfl,q⟩
theorem zgY{n:String}(hg:Gl X x)(hm:X.mg x=none)(hv:yJ x=some (.type n))(hn:x ≠ "__name__":=by decide) (hd:(x==("__debug__":ib))=false:=by decide):PE X (.Name x pos) (tC (.ty n)):=zqL hg hm hv rfl hn hd
theorem zjK(hc:X.calm=true):gG X (.builtin "sum") (fun xs H Q=>∃(a:dm) (ns:List Int),xs=[.ref a]/\bV X.K H a (ns.map V.int)/\Q (.int ns.sum) H):=by
 intro pins s σ H xs us Q I r h
 obtain⟨a,ns,rfl,hq,q⟩:=h
 obtain⟨u,rfl,ru⟩:=vals1 r
 cases (show u=yt a from ru)
 obtain⟨its,rv,p,hz⟩:=I.list hq
 have hi:=intsAre_of rv
 obtain⟨xs,e⟩:=hi.allInts.items
 have en:ns=List.map (fun x=>x.fst) xs.toList:=by
  have h1:=nums_intItems xs
  rw [<- e] at h1
  rw [<- h1,show its.toArray.toList=its from rfl,hi.numsOf]
 refine sum_intListG (xs:=xs) (I.ok.hd hc) (by rw [<- e];exact p.isList) fun h' tk t' hk=>⟨.int ns.sum,H,I.kept hk,?_,q⟩
 refine⟨t',?_⟩
 rw [preSum_eq,Eg (by simp),en]
noncomputable def zs3(K:kb):V->List V->Hp->VK->Prop:=fun x vs H Q=>∃(l:dm) (xs:List V) (y z:V) (j:Nat),x=.ref l/\vs=[y]/\bV K H l xs/\lJ y=true/\xs.all lJ=true /\
 xs[j]?=some z/\mW z y=true/\(∀(m:Nat) (w:V),m<j->xs[m]?=some w->mW w y=false)/\Q (.int j) H
theorem zpC:MtM X "list.index" (zs3 X.K):=by
 intro pins s σ H x vs v us Q I rx rv h
 obtain⟨l,xs,y,z,j,rfl,rfl,hS,fy,fx,hj,hz,hno,q⟩:=h
 cases rx
 obtain⟨u,rfl,ru⟩:=rv.one
 obtain⟨its,r,⟨o,n,ho,hc,fH,hd⟩,hle⟩:=I.list hS
 obtain⟨c,dd,dt,sl⟩:=o
 cases hc
 cases fH
 cases hd
 obtain⟨jz,hjz,rz⟩:=r.get hj
 have hjl:j<its.length:=(yu.mp hjz).1
 have hjx:j<xs.length:=(yu.mp hj).1
 have fz:lJ z=true:=An.mp fx z (zg hj)
 refine Dh F.slot_list_index ⟨_,ho,rfl⟩ F.entry_list_index (F.args_list_index_2 _ _)
  (SeqAt.list_indexAt l its.toArray n none sl u (eqU y) j (by simpa using hjl) (by rw [zf] at hle;omega) ?_ ?_) ⟨ho,?_,?_⟩
 ·have e1:its.toArray[j]'(by simpa using hjl)=jz:=by
   have:=yu.mp hjz
   simpa using this.2
  rw [e1,zby rz fz]
  exact hz
 ·intro m hm hmj
  have sS:m<its.length:=by simpa using hm
  have hmx:m<xs.length:=by rw [r.length];exact sS
  obtain⟨um,hum,rm⟩:=r.get (i:=m) (x:=xs[m]) (by simp [hmx])
  have e1:its.toArray[m]'hm=um:=by
   have:=yu.mp hum
   simpa using this.2
  have fm:lJ xs[m]=true:=An.mp fx _ (List.getElem_mem hmx)
  rw [e1,zby rm fm]
  exact hno m xs[m] hmj (by simp [hmx])
 ·intro w hw
  exact zgq ru fy r fx w (by simpa using hw)
 ·exact⟨.int j,H,I.tok _,⟨_,rfl⟩,q⟩
end
end
variable {Q:Unit->ir->Prop}{env:ye}{scope:yT}
section
noncomputable def fM(cells:List (ib×dm)):List (ib×zD)->List (ib×dm)->List (ib×dm)
 | [],acc=>acc
 | (n,k)::r,acc=>if k=.free then(match cells.lookup n with|some a=>fM cells r ((n,a)::acc)|none=>fM cells r acc) else fM cells r acc
theorem vw{cells:List (ib×dm)}:∀{names:List (ib×zD)} {acc:List (ib×dm)},(∀ p∈acc,cells.lookup p.1=some p.2)->∀ p∈fM cells names acc,cells.lookup p.1=some p.2
 | [],acc,h,p,hp=>h p hp
 | (n,k)::r,acc,h,p,hp=>by
  unfold fM at hp
  split at hp
  ·split at hp
   ·rename_i a e
    exact vw (names:=r) (acc:=(n,a)::acc) (fun q hq=>by
     rcases yr.mp hq with rfl|hq
     ·exact e
     ·exact h q hq) p hp
   ·exact vw h p hp
  ·exact vw h p hp
theorem vt{cells:List (ib×dm)}:∀{names:List (ib×zD)} {acc:List (ib×dm)},∀ p∈acc,p∈fM cells names acc
 | [],acc,p,hp=>hp
 | (n,k)::r,acc,p,hp=>by
  unfold fM
  split
  ·split
   ·exact vt p (yK _ hp)
   ·exact vt p hp
  ·exact vt p hp
theorem rY{cells:List (ib×dm)}{x:ib}{a:dm}(e:cells.lookup x=some a):∀{names:List (ib×zD)} {acc:List (ib×dm)},(x,AV)∈names->(x,a)∈fM cells names acc
 | (n,k)::r,acc,h=>by
  unfold fM
  rcases yr.mp h with h|h
  ·cases h
   rw [if_pos rfl,e]
   exact vt _ (yM ..)
  ·split
   ·split
    ·exact rY e h
    ·exact rY e h
   ·exact rY e h
theorem tf{α:Type}{x:ib}{a:α}:∀{l:List (ib×α)},(x,a)∈l->∃ b,l.lookup x=some b
 | (y,b)::r,h=>by
  by_cases e:(x==y)=true
  ·exact⟨b,by simp [ym,e]⟩
  ·rcases yr.mp h with h|h
   ·cases h
    exact absurd (beq_self_eq_true _) e
   ·obtain⟨c,hc⟩:=tf h
    refine⟨c,?_⟩
    have e':(x==y)=false:=by simpa using e
    simp only [ym,e']
    exact hc
theorem zjV(h:∀ y∈scope.names,y.2=.free->∃ a,env.cells.lookup y.1=some a):closureFor scope env=pure (fM env.cells scope.names []):=by
 have key:∀(names:List (ib×zD)) (acc:List (ib×dm)),(∀ y∈names,y.2=.free->∃ a,env.cells.lookup y.1=some a) ->
   (forIn names acc (fun x r=>match x with
    | (name,kind)=>if(kind==AV)=true then do let a <- cellOf env name;pure (Ce ((name,a)::r)) else pure (Ce r)):Sem (List (ib×dm)))=pure (fM env.cells names acc):=by
  intro names
  induction names with
  | nil=>intro acc _;rfl
  | cons p r ih =>
   intro acc hh
   obtain⟨n,k⟩:=p
   rw [List.forIn_cons]
   by_cases hk:k=.free
   ·subst hk
    obtain⟨a,ea⟩:=hh (n,.free) (yM ..) rfl
    have e1:cellOf env n=pure a:=by unfold cellOf;rw [ea]
    simp only [beq_self_eq_true,if_true,e1,pure_bind,fM,ea]
    exact ih _ fun y hy=>hh y (yK _ hy)
   ·have jy:(k==AV)=false:=by simpa using hk
    simp only [jy,yG,if_false,pure_bind,fM,hk]
    exact ih _ fun y hy=>hh y (yK _ hy)
 unfold closureFor
 exact(bind_pure _).trans (key scope.names [] h)
theorem pC{scope:yT}{env:ye}{x:ib}{k:zD}:∀{names:List (ib×zD)},
  (names.map fun(n,k)=>if(k==AV&&env.scope.kind==.function&&env.kindOf n==some .cell) then(n,zE) else(n,k)).lookup x=some k ->
  ∃ k0,names.lookup x=some k0/\(x,k0)∈names/\(k0=k\/(k0=.free/\k=.cell))
 | [],h=>by simp at h
 | (n,k0)::r,h=>by
  by_cases e:(x==n)=true
  ·have en:x=n:=by simpa using e
   subst en
   refine⟨k0,by simp [ym],yM ..,?_⟩
   rw [yi] at h
   by_cases hc:(k0==AV&&env.scope.kind==.function&&env.kindOf x==some .cell)=true
   ·simp only [hc,if_true,ym,beq_self_eq_true] at h
    simp only [yw,beq_iff_eq] at hc
    exact .inr ⟨hc.1.1,(yN h).symm⟩
   ·simp only [hc,yG,if_false,ym,beq_self_eq_true] at h
    exact .inl (yN h)
  ·have e':(x==n)=false:=by simpa using e
   rw [yi] at h
   have h':(r.map fun(n,k)=>if(k==AV&&env.scope.kind==.function&&env.kindOf n==some .cell) then(n,zE) else(n,k)).lookup x=some k:=by
    by_cases hc:(k0==AV&&env.scope.kind==.function&&env.kindOf n==some .cell)=true
    ·simp only [hc,if_true,ym,e'] at h
     exact h
    ·simp only [hc,yG,if_false,ym,e'] at h
     exact h
   obtain⟨k1,h1,h2,h3⟩:=pC (scope:=scope) h'
   exact⟨k1,by simp only [ym,e'];exact h1,yK _ h2,h3⟩
noncomputable def gy(X:Cx)(ix:List Nat):List ib:=ix.map fun i=>X.N.getD i ""
noncomputable def eT(k:Nat)(ix:List Nat)(σ:St):St:=xY k none++ix.map fun i=>(σ[i]?).getD none
end
variable {prog:x6}{ifs:List o1}{c elt iter:o1}{t:TT}
section
section
variable {R:Result->ir->Prop}
theorem zjZ{target:o1}{it acc:gV}(I:Nat->ir->Prop)
  (turn:∀ n s,I n s->xS (xT prog w) A (Bs it) (fun r s₁=>match r with
   | none=>R (.ok .next) s₁
   | some v=>xS (xT prog w) A (C1 target it v) (fun _ s₀=>xS (xT prog w) A (AK target env v) (fun _ s₂ =>
     xS (xT prog w) A (forIn ifs true fun c r=>if r=true then do let ok <- isTrue c env (xZ c env);pure (Ce ok) else pure (Ce r)) (fun ok s₃ =>
      if ok=true then xS (xT prog w) A (xZ elt env) (fun x s₄ =>
       xS (xT prog w) A (call (.builtin "list.append") [acc,x]) (fun _ s₅=>∃ m,m<n/\I m s₅) (Cg (xT prog w) A env fun e s'=>R (.error e) s') s₄) (Cg (xT prog w) A env fun e s'=>R (.error e) s') s₃
      else ∃ m,m<n/\I m s₃) (Cg (xT prog w) A env fun e s'=>R (.error e) s') s₂) (Cg (xT prog w) A env fun e s'=>R (.error e) s') s₀) (Cg (xT prog w) A env fun e s'=>R (.error e) s') s₁) (Cg (xT prog w) A env fun e s'=>R (.error e) s') s)
  (n:Nat) (h:I n s) :
  Aw (xT prog w) A (.compLoop (.ListComp elt [⟨target,iter,ifs,0⟩] scope pos) 0 it acc env) R s:=by
 refine codeAny_loop rfl I (fun n s hI=>?_) n h
 show xS _ A ((compTurn (.ListComp elt [⟨target,iter,ifs,0⟩] scope pos) 0 it acc env).onRaise (fun x=>do CF x env;theTreesLotGoes x)) _ _ s
 refine wpAny_noted ?_
 rw [compTurn_list]
 refine lb (Bp (lb (yA (turn n s hI) (fun r s₁ h₁=>?_) fun _ _ h'=>h')))
 cases r with
 | none=>exact xX h₁
 | some v =>
  refine lb (yA h₁ (fun _ s₀ h₀=>?_) fun _ _ h'=>h')
  refine lb (yA h₀ (fun _ s₂ h₂=>lb (yA h₂ (fun ok s₃ h₃=>?_) fun _ _ h'=>h')) fun _ _ h'=>h')
  cases ok with
  | false=>exact xX ⟨rfl,h₃⟩
  | true =>
   exact lb (lb (yA h₃ (fun x s₄ h₄=>lb (yA h₄ (fun _ s₅ h₅=>xX (xX ⟨rfl,h₅⟩)) fun _ _ h'=>h')) fun _ _ h'=>h'))
end
def jS(X:Cx)(ifs:List o1)(t:TT):Prop :=
 ∀(pins:List (dm×xU)) (s:ir) (σ:St) (H:Hp) (Q:Bool->Hp->Prop),Inv X pins σ H s->t σ H Q ->
  xS (xT X.prog X.w) X.A (forIn ifs true fun c r=>if r=true then do let ok <- isTrue c X.env (xZ c X.env);pure (Ce ok) else pure (Ce r)) (TP X pins σ Q) X.xe s
noncomputable def zt2:TT:=fun _ H Q=>Q true H
theorem zrM:jS X [] zt2:=fun _ _ _ H _ I h=>wpAny_tests_nil ⟨H,I,h⟩
theorem zrN(hc:PT X c t):jS X [c] t:=fun pins s σ H Q I h=>wpAny_tests_one (hc pins s σ H Q I h)
def zad(k:Nat)(g:TG):Prop:=∀ x σ H Q,g x σ H Q->g x σ H fun σ2 H2=>(σ2.length=σ.length/\∀ i:Nat,k<=i->σ2[i]?=σ[i]?)/\Q σ2 H2
noncomputable def zdj(k:Nat)(ix:List Nat)(wi:TI)(g:TG)(tc:TT)(te:TE):TE:=fun σ H Q=>wi σ H fun J H1=>∀ l,H1 l=none ->
 ∃ W:Nat->Nat->List V->Hp->Prop,(∃ m,W 0 m [] (upd H1 l (.lst [])))/\∀ i m ys H2,W i m ys H2->H2 l=some (.lst ys) /\
  ((J.stop i H2/\Q (.ref l) H2)\/(J.go i H2/\∀ x H3,J.xR i H2 x H3->g x (eT k ix σ) H3 fun σ2 H4=>tc σ2 H4 fun b H5 =>
   if b=true then te σ2 H5 fun v H6=>H6 l=some (.lst ys)/\ys.length<yb/\∃ m',m'<m/\W (i+1) m' (ys++[v]) (upd H6 l (.lst (ys++[v]))) else ∃ m',m'<m/\W (i+1) m' ys H5))
end
variable {h h':xV}{vs:Array gV}{L T a e:dm}{ex:List dm}{dd:Option dm}{cls fl head:gV}{nx:Bool}{oe:xU}{M:AJ}{outer:List ye}{t:Nat}
section
def Fl(h:xV)(e:dm)(cls:gV)(dd:Option dm)(T:dm)(fl:gV):Prop :=
 ∃ oe vs oT ts,h.get? e=some oe/\oe.cls=cls/\oe.dict=dd/\oe.data=.fields vs/\vs[1]?=some (.ref T)/\T≠e/\h.get? T=some oT/\oT.data=.fields ts/\ts[3]?=some fl
def Fl0(h:xV)(e:dm)(cls:gV)(dd:Option dm):Prop :=
 ∃ oe vs,h.get? e=some oe/\oe.cls=cls/\oe.dict=dd/\oe.data=.fields vs/\vs[1]?=some .none
def Kp(fs ex:List dm)(h h':xV):Prop:=∀ b o,b∉ex->h.get? b=some o->(b∉fs->h'.get? b=some o)/\∃ sl,h'.get? b=some { o with slots:=sl }
theorem Kp.of{fs:List dm}(k:∀ b o,b∉ex->h.get? b=some o->h'.get? b=some o):Kp fs ex h h':=fun b o hb e=>⟨fun _=>k b o hb e,o.slots,k b o hb e⟩
theorem Kp.trans{fs vJ:List dm}{h1 h2:xV}(a:Kp fs ex h h1)(b:Kp fs vJ h1 h2)(n:∀ c∈vJ,c∈ex\/h.get? c=none):Kp fs ex h h2:=by
 intro c o hc e
 obtain⟨a1,sl,a2⟩:=a c o hc e
 have jx:c∉vJ:=fun z=>by
  rcases n c z with q|q
  ·exact hc q
  ·rw [e] at q;cases q
 obtain⟨b1,mF,b2⟩:=b c _ jx a2
 exact⟨fun hf=>(b c _ jx (a1 hf)).1 hf,mF,b2⟩
theorem Kp.all{fs:List dm}(a:Kp [] ex h h'):Kp fs ex h h':=fun b o hb e=>⟨fun _=>(a b o hb e).1 (by simp),(a b o hb e).2⟩
section
theorem vN(f:Fl s.heap e cls dd T fl)
  (h:∀ h',Kp [] [T] s.heap h'->Fl h' e cls dd T .none->Q () { s with heap:=h' }):xS M A (setFlight (.ref e) none) Q E s:=by
 obtain⟨oe,vs,oT,ts,he,hc,fH,hd,h1,iC,hT,oJ,h3⟩:=f
 have z3:3<ts.size:=(Dj.mp h3).1
 unfold setFlight
 refine lb (By he hd h1 ?_)
 rw [if_pos (by simp)]
 refine CG hT oJ z3 (h _ (Kp.of fun b o hb e=>?_) ⟨oe,vs,_,_,?_,hc,fH,hd,h1,iC,CC _ hT (Eh (CH oJ _)),CH oJ _,by simp [z3]⟩)
 ·rw [BA _ _ (by intro z;exact hb (by simp [z]))]
  exact e
 ·rw [BA _ _ iC]
  exact he
theorem zkB(o:xU)(f:Array gV->Array gV):(o.mapFields f).dict=o.dict:=by
 obtain⟨c,d,dt,sl⟩:=o
 cases dt <;> rfl
theorem zfq
  (gu:A.frames=some (env::outer))(hl:s.heap.FunFrames base (env::outer))(hf:env.frame=some L)(he:s.heap.get? e=some oe)(hd:oe.data=.fields vs)(hsz:1<vs.size)
  (h:∀ h' T,Kp (dN (env::outer)) [e] s.heap h'->s.heap.objs.size<=T->Fl h' e oe.cls oe.dict T (zY L)->Q () { s with heap:=h' }) :
  xS M A (do let a <- frameOf env;let pl <- entryPlaceOf L nx;let b <- Fg head a .none (zY L) .none pl;setField (.ref e) 1 b) Q E s:=by
 have ne:e∉dN (env::outer):=fun hm=>by
  obtain⟨_,o,ho,z⟩:=hl.mem hm
  rw [he] at ho
  cases ho
  exact z vs hd
 refine lb (wpAny_frameOf_fun gu hl hf fun h₁ so=>?_)
 obtain⟨sz,same,slots⟩:=so
 refine lb (wpAny_entryPlaceOf fun pl bj=>?_)
 unfold Fg newFields
 refine lb (Ah ?_ (bj.sizeOk5 _ _ _ _ _))
 generalize hO:({ cls:=.type "traceback",dict:=none,data:=.fields ([head,.ref L,.none,zY L,.none]++(if pl.isEmpty then xY 6 yF else pl)).toArray }:xU)=O
 have sJ:h₁.get? e=some oe:=(same e ne).trans he
 have sL:(h₁.push O).get? e=some oe:=yh _ sJ
 have hTe:h₁.objs.size≠e:=B3 (yo sJ)
 refine CG sL hd hsz (h _ h₁.objs.size (fun b o hb vW=>?_) (Cz sz.symm) ?_)
 ·have i5:e≠b:=fun z=>hb (by simp [z])
  have go:∀ u,h₁.get? b=some u->((h₁.push O).update e (Dk (·.setIfInBounds 1 (yt h₁.objs.size)))).get? b=some u:=fun u q=>by
   rw [BA _ _ i5]
   exact yh _ q
  refine⟨fun hnf=>go o ((same b hnf).trans vW),?_⟩
  obtain⟨sl,q⟩:=slots b o vW
  exact⟨sl,go _ q⟩
 ·have hd3:=CH hd (·.setIfInBounds 1 (yt h₁.objs.size))
  refine⟨_,_,O,_,CC _ sL (Eh hd3),Obj.cls_mapFields _ _,zkB _ _,hd3,by simp [hsz],hTe,?_,by rw [<- hO],?_⟩
  ·rw [BA _ _ (yU hTe)]
   exact yY h₁ (by rw [<- hO];rfl)
  ·simp
theorem zfr
  (gu:A.frames=some (env::outer))(hl:s.heap.FunFrames base (env::outer))(hf:env.frame=some L)(f:Fl s.heap e cls dd T .none)
  (h:∀ h' T',Kp (dN (env::outer)) [e,T] s.heap h'->s.heap.objs.size<=T'->Fl h' e cls dd T' (zY L)->Q () { s with heap:=h' }):xS M A (CF (.ref e) env) Q E s:=by
 obtain⟨oe,vs,oT,ts,he,hc,fH,hd,h1,iC,hT,oJ,h3⟩:=f
 subst hc fH
 unfold CF
 simp only [hf]
 refine lb (By he hd h1 ?_)
 rw [if_pos (by simp)]
 refine lb (By hT oJ h3 ?_)
 rw [if_neg (by simp [zY])]
 refine lb (CG hT oJ (Dj.mp h3).1 ?_)
 have other:∀ b,b≠T->(s.heap.update T (Dk (·.setIfInBounds 3 yF))).get? b=s.heap.get? b:=fun b hb=>BA _ _ (yU hb)
 have nT:∀ b o,s.heap.get? b=some o->(∀ vs,o.data≠.fields vs)->b≠T:=fun b o hb z q=>by
  rw [q,hT] at hb
  cases hb
  exact z ts oJ
 refine zfq gu (hl.of_keeps fun b o hb z=>⟨o,(other b (nT b o hb z)).trans hb,rfl⟩) hf ((other e (yU iC)).trans he) hd (Dj.mp h1).1 fun h' T' k z f'=>h h' T' ?_ ?_ f'
 ·intro b o hb vW
  have hbT:b≠T:=fun q=>hb (by simp [q])
  exact k b o (fun q=>hb (by simp at q;simp [q])) ((other b hbT).trans vW)
 ·simpa using z
theorem zlu
  (gu:A.frames=some (env::outer))(hl:s.heap.FunFrames base (env::outer))(hf:env.frame=some L)(f:Fl0 s.heap e cls dd)
  (h:∀ h' T',Kp (dN (env::outer)) [e] s.heap h'->s.heap.objs.size<=T'->Fl h' e cls dd T' (zY L)->Q () { s with heap:=h' }):xS M A (CF (.ref e) env) Q E s:=by
 obtain⟨oe,vs,he,hc,fH,hd,h1⟩:=f
 subst hc fH
 unfold CF
 simp only [hf]
 refine lb (By he hd h1 ?_)
 rw [if_neg (by decide)]
 exact zfq gu hl hf he hd (Dj.mp h1).1 h
theorem zlr
  (gu:A.frames=some (env::outer))(hl:s.heap.FunFrames base (env::outer))(hf:env.frame=some L)(f:Fl s.heap e cls dd T .none)
  (h:∀ h' T',Kp (dN (env::outer)) [e,T] s.heap h'->s.heap.objs.size<=T'->Fl h' e cls dd T' .none->Q () { s with heap:=h' }):xS M A (leaving env (.ref e)) Q E s:=by
 unfold leaving
 refine lb (zfr gu hl hf f fun h1 T' k z f'=>vN f' fun h2 k2 f2=>h h2 T' (k.trans k2.all fun c hc=>.inr ?_) z f2)
 have:c=T':=by simpa using hc
 subst this
 exact Ag z
theorem zls
  (gu:A.frames=some (env::outer))(hl:s.heap.FunFrames base (env::outer))(hf:env.frame=some L)(f:Fl0 s.heap e cls dd)
  (h:∀ h' T',Kp (dN (env::outer)) [e] s.heap h'->s.heap.objs.size<=T'->Fl h' e cls dd T' .none->Q () { s with heap:=h' }):xS M A (leaving env (.ref e)) Q E s:=by
 unfold leaving
 refine lb (zlu gu hl hf f fun h1 T' k z f'=>vN f' fun h2 k2 f2=>h h2 T' (k.trans k2.all fun c hc=>.inr ?_) z f2)
 have:c=T':=by simpa using hc
 subst this
 exact Ag z
end
end
variable {h₀:xV}{ta:TA}{C b:dm}{H₀:Hp}{cd:gV}{newId:String}{dj:List dm}{gh:List gV}{o:HO}{es:List o1}
section
theorem ck.some(x:ck P w H h a o):∃ ob,h.get? a=some ob:=by
 cases o with
 | lst xs=>obtain⟨_,_,_,_,e⟩:=x;exact⟨_,e⟩
 | tup xs=>obtain⟨_,_,_,ob,e,_⟩:=x;exact⟨_,e⟩
 | dK ah=>obtain⟨_,_,_,_,ob,_,_,e,_⟩:=x;exact⟨_,e⟩
 | dT ah=>obtain⟨_,_,_,_,ob,_,_,e,_⟩:=x;exact⟨_,e⟩
 | set S n=>obtain⟨ob,_,_,_,e,_⟩:=x;exact⟨_,e⟩
 | ins C dx fs=>obtain⟨_,_,_,e,_⟩:=x;exact⟨_,e⟩
 | own y=>exact x
 | xd fs=>obtain⟨_,⟨od,_,_,e,_⟩,_⟩:=x;exact⟨_,e⟩
 | met f y=>exact⟨_,x⟩
 | fj lo hi=>obtain⟨_,_,_,e⟩:=x;exact⟨_,e⟩
 | frz ob u=>exact⟨_,x.1⟩
 | tbl ps=>exact⟨_,x⟩
 | ext φ=>exact x.2.1
section
variable {fs:List dm}
theorem bY.kp(x:bY P w H h)(k:Kp fs ex h h')(hf:∀ b∈fs,H b=none)(he:∀ b∈ex,H b=none):bY P w H h':=fun a o e =>
 (x a o e).hV (fun b u hb q=>by
  have nn:H b≠none:=by
   rcases hb with z|z
   ·rw [z,e];simp
   ·rw [z];simp
  exact(k b u (fun z=>nn (he b z)) q).1 fun z=>nn (hf b z)) (fun _ q=>q) fun _ _ q=>q
theorem Un.kp(u:Un fs [] H₀ H h₀ h)(k:Kp dj ex h h')(hx:∀ b∈ex,h₀.get? b=none)(hs:∀ b∈dj,b∈fs\/h₀.get? b=none):Un fs [] H₀ H h₀ h' where
 keep:=fun b o q n hb hz=>(k b o (fun z=>by rw [hx b z] at q;cases q) (u.keep b o q n hb hz)).1 fun z=>by
  rcases hs b z with y|y
  ·exact hb y
  ·rw [q] at y;cases y
 slot:=fun b o q n hb hz=>by
  obtain⟨sl,e⟩:=u.slot b o q n hb hz
  obtain⟨_,mF,e'⟩:=k b _ (fun z=>by rw [hx b z] at q;cases q) e
  exact⟨mF,e'⟩
 free:=u.free
 there:=fun b o q hz=>by
  obtain⟨o',e⟩:=u.there b o q hz
  obtain⟨_,mF,e'⟩:=k b _ (fun z=>by rw [hx b z] at q;cases q) e
  exact⟨_,e'⟩
 fY:=u.fY
 gq:=u.gq
 gF:=u.gF
theorem Un.old(u:Un fs [] H₀ H h₀ h)(n:h.get? b=none):h₀.get? b=none:=by
 cases q:h₀.get? b with
 | none=>rfl
 | some o =>
  obtain⟨o',e⟩:=u.there b o q (by simp)
  rw [n] at e
  cases e
theorem bY.free(x:bY P w H h)(n:h.get? b=none):H b=none:=by
 cases q:H b with
 | none=>rfl
 | some o =>
  have:=(x b o q).some
  obtain⟨ob,e⟩:=this
  rw [n] at e
  cases e
end
noncomputable def bE(P:x6)(w:x5):h8:=fun outer H s E ev s'=>∃(e:dm) (cls:gV) (dd:Option dm) (T:dm) (H':Hp),ev=.ref e/\s'.os=s.os/\As s'.gens/\Un (dN outer) [] H H' s.heap s'.heap/\bY P w H' s'.heap /\
 Fl s'.heap e cls dd T .none/\H' e=none/\H' T=none/\s.heap.get? e=none/\s.heap.get? T=none/\E cls dd H'
def Throws(X:Cx)(E:XK):Prop:=∀(pins:List (dm×xU)) (σ:St) (H:Hp) (s:ir) (e:dm) (cls:gV) (dd:Option dm),Inv X pins σ H s->Fl0 s.heap e cls dd->H e=none->X.s₀.heap.get? e=none->E cls dd H->X.xe (.ref e) s
theorem qR:Passes (bE P w) X E0:=fun _ _ _ _ _ _ _ ⟨_,_,_,_,_,_,_,_,_,_,_,_,_,_,_,q⟩=>q.elim
section
variable {K:kb}{E:XK}
theorem xF:Throws (dC (bE P w) P w K mg base N qual scope f cd A outer s H E) E:=by
 intro pins σ H1 s1 e cls dd I fl ne le q
 have hL:s.heap.objs.size<=s1.heap.objs.size:=I.sz
 refine zls (base:=base) I.ok.frames I.stack rfl fl fun h' T k z f'=>?_
 have le1:s.heap.get? T=none:=Ag (yx hL z)
 have un:Un (dN outer) [] H H1 s.heap s1.heap:=I.base
 refine⟨e,cls,dd,T,H1,rfl,I.os,I.bare,un.kp k (fun b hb=>?_) (fun b hb=>?_),I.ax.kp k I.uC (fun b hb=>?_),f',ne,I.ax.fresh z,le,le1,q⟩
 ·obtain rfl:b=e:=by simpa using hb
  exact le
 ·rcases yr.mp (I.pH b hb) with y|y
  ·exact .inr (Ag (by rw [y];exact x9 _))
  ·exact .inl y
 ·obtain rfl:b=e:=by simpa using hb
  exact ne
theorem zqH:Passes (bE P w) (dC (bE P w) P w K mg base N qual scope f cd A outer s H E) E:=by
 intro pins σ H1 s1 ev s2 I ⟨e,cls,dd,T,H2,ee,os,bare,un,ax,fl,ne,nT,le,lT,q⟩
 subst ee
 have I2:=I.zaM (ch:=[]) os un ax bare fun b z=>absurd z (by simp)
 have hL:s.heap.objs.size<=s1.heap.objs.size:=I.sz
 have hL2:s.heap.objs.size<=s2.heap.objs.size:=I2.sz
 refine zlr (base:=base) I2.ok.frames I2.stack rfl fl fun h' T' k z f'=>?_
 have un2:Un (dN outer) [] H H2 s.heap s2.heap:=I2.base
 have un1:Un (dN outer) [] H H1 s.heap s1.heap:=I.base
 refine⟨e,cls,dd,T',H2,rfl,I2.os,I2.bare,un2.kp k (fun b hb=>?_) (fun b hb=>?_),I2.ax.kp k I2.uC (fun b hb=>?_),f',ne,I2.ax.fresh z,un1.old le,Ag (yx hL2 z),q⟩
 ·rcases (by simpa using hb:b=e\/b=T) with y|y
  ·rw [y];exact un1.old le
  ·rw [y];exact un1.old lT
 ·rcases yr.mp (I2.pH b hb) with y|y
  ·exact .inr (Ag (by rw [y];exact x9 _))
  ·exact .inl y
 ·rcases (by simpa using hb:b=e\/b=T) with y|y
  ·rw [y];exact ne
  ·rw [y];exact nT
theorem dw.qO{st:x8}{sp:Sp}(F:dw K x qual st f fd)(S:fB N ps (aU st))(len:∀ vs H Q E,sp vs H Q E->vs.length=ps.length)
  (sG:∀(aw:gV) (A:ya) (outer:List ye) (s:ir) (H:Hp) (vs:List V) (Q:VK) (E:XK),aZ k (A.deeper (yQ qual (aU st) s.heap.objs.size f aw))->sp vs H Q E ->
   ∃ t,bJ (dC (bE P w) P w K mg base N qual (aU st) f aw A outer s H E) (b7 st) t/\t { nx:=fun _ H'=>Q .non H',rt:=Q } (start N vs) H):bU P w K mg base (bE P w) (k+1) f fd ps sp:=by
 obtain⟨oc,od,kV,doc,pm,an,aw,ct,gC,rfl,lk,eU⟩:=F.ex
 exact zfs lk eU S len fun A outer s H vs Q E hr nc=>sG aw A outer s H vs Q E hr nc
end
section
variable {K:kb}
theorem zln(X:K.In h)(q:zv K C gh newId=true):∃ bm N nm q bs hdct sn sub ab col dd k0 k1 k2 k3 k5 mN,h.get? C=some (BH nm q C N bs bm hdct sn sub ab col dd k0 k1 k2 k3 k5 newId)/\h.Ns N mN/\mN "__init__"=none/\OwnTail h gh bm:=by
 unfold zv at q
 split at q
 ·rename_i dd cd sl ho
  split at q
  ·rename_i C' bm k0 k1 k2 k3 n k5 hm hs
   simp only [yw,beq_iff_eq,Dl] at q
   obtain⟨⟨⟨⟨⟨a1,a2⟩,a3⟩,a4⟩,a5⟩,a6⟩:=q
   subst a1 a2
   obtain⟨nm,bs,mro,ns,qn,hd,sn,sub,ab,col,del⟩:=cd
   subst hm a3
   obtain⟨l⟩:=sl
   have qC:l=[k0,k1,k2,k3,some (.builtin n),k5]:=hs
   subst qC
   exact⟨bm,ns,nm,qn,bs,hd,sn,sub,ab,col,dd,k0,k1,k2,k3,k5,_,X _ _ ho,.of_isNs (Fh X a5),PySem.W.nsMap_none_of_in X a5 a6,Fi X a4⟩
  ·cases q
 ·cases q
end
abbrev dE:List gV:=[.type "ValueError",.type "Exception",.type "BaseException",.type "object"]
section
variable {np bC:xW}{e:o1}{E:XK}
noncomputable def zui(C:dm)(E:XK)(ta:TA):TS:=fun _ σ H=>ta σ H fun vs H1=>vs.length<=yb/\E (.ref C) none H1
theorem zru(hc:X.calm=true)(ec:zv X.K C dE "Exception.__new__"=true\/zv X.K C dE "ValueError.__new__"=true) (hg:Gl X x) (hm:X.mg x=some (.ref C)) (th:Throws X E) (ha:PA X (e::es) ta)
  (hx:X.ex=[]:=by rfl) (hd:(x==("__debug__":ib))=false:=by decide) (he:pd (e::es) X.env=(false,xZ e X.env)::pd es X.env:=by rfl) (bj:(yp bC (pd es X.env)).any (·.1)=false:=by rfl) :
  PS X (.Raise (some (.Call (.Name x np) (e::es) [] bC)) none pos) (zui C E ta):=by
 intro pins s σ H D I h
 have KX:X.K.In X.base:=I.ok.mod.qG
 have go:∀{newId Bn lR:String} {lz:List gV},zv X.K C dE newId=true->Bg Bn newId lR lz->dE.contains (.type Bn)=true ->
   xS (xT X.prog X.w) X.A (exec (.Raise (some (.Call (.Name x np) (e::es) [] bC)) none pos) X.env) (SP X pins D) X.xe s:=by
  intro newId Bn lR lz q Fn jW
  obtain⟨tl,N,nm,qn,bs,hdct,sn,sub,ab,col,dd,k0,k1,k2,k3,k5,mN,hC,hN,hni,T⟩:=zln KX q
  refine wpAny_Raise_call_subU (C:=C) (nm:=nm) (q:=qn) (N:=N) (bs:=bs) (bm:=tl) (hdct:=hdct) (sn:=sn) (sub:=sub) (ab:=ab) (col:=col) (dd:=dd) (k0:=k0) (k1:=k1) (k2:=k2) (k3:=k3) (k5:=k5)
   Fn jW Ci (mN:=mN) (T.hasType Ci.hasBase) (I.ok.hd hc) (by rw [he];show(false||(yp bC (pd es X.env)).any (·.1))=false;rw [bj];rfl) hni (qI I hg hm ⟨rfl,?_⟩ hd)
  have hw:=ha bC pins s σ H _ I h
  rw [he] at hw ⊢
  refine Ea (aN hw fun us s1 ⟨vs,H1,I1,r,ql,q1⟩=>⟨rfl,?_,I1.bk _ _ hC,hN.keeps I1.bk,T.keeps I1.bk,fun h' ea mk=>?_⟩)
  ·show us.length<=yb
   rw [<- r.length]
   exact ql
  ·obtain⟨t,ht,_,_⟩:=mk.there
   have I2:Inv X pins σ H1 { s1 with heap:=h',toks:=s1.toks }:=I1.kept (t':=s1.toks) mk.keeps
   exact th pins σ H1 _ ea (.ref C) none I2 ⟨_,_,ht,rfl,rfl,rfl,rfl⟩ (I1.ax.free mk.new) (by have u:=I1.base;rw [hx] at u;exact u.old mk.new) q1
 rcases ec with q|q
 ·exact go q Fj (by decide)
 ·exact go q Ci (by decide)
end
end
section
def Nw(X:Cx)(pins:List (dm×xU))(b:dm):Prop :=
 X.s₀.heap.get? b=none/\b≠X.env.locals/\b∉X.fs/\(∀ x c,X.env.cells.lookup x=some c->c≠b)/\∀ p∈X.pn++pins,p.1≠b
section
theorem Inv.nw(I:Inv X pins σ H s)(hx:X.ex=[])(n:s.heap.get? b=none):Nw X pins b:=by
 have u:=I.base
 rw [hx] at u
 refine⟨u.old n,fun z=>?_,fun z=>?_,fun x c e z=>?_,fun p hp z=>?_⟩
 ·obtain⟨m,⟨o,_,_,ho,_⟩,_⟩:=I.loc
  rw [<- z,n] at ho
  cases ho
 ·obtain⟨_,o,ho,_⟩:=I.gA.mem z
  rw [n] at ho
  cases ho
 ·obtain⟨v,o,ho,_⟩:=I.cell x c e
  rw [z,n] at ho
  cases ho
 ·have:=(I.pin p hp).1
  rw [z,n] at this
  cases this
theorem Un.kpx{fs ex0:List dm}(u:Un fs ex0 H₀ H h₀ h)(k:Kp dj ex h h')(hx:∀ b∈ex,h₀.get? b=none)(hs:∀ b∈dj,b∈fs\/h₀.get? b=none):Un fs ex0 H₀ H h₀ h' where
 keep:=fun b o q n hb hz=>(k b o (fun z=>by rw [hx b z] at q;cases q) (u.keep b o q n hb hz)).1 fun z=>by
  rcases hs b z with y|y
  ·exact hb y
  ·rw [q] at y;cases y
 slot:=fun b o q n hb hz=>by
  obtain⟨sl,e⟩:=u.slot b o q n hb hz
  obtain⟨_,mF,e'⟩:=k b _ (fun z=>by rw [hx b z] at q;cases q) e
  exact⟨mF,e'⟩
 free:=u.free
 there:=fun b o q hz=>by
  obtain⟨o',e⟩:=u.there b o q hz
  obtain⟨_,mF,e'⟩:=k b _ (fun z=>by rw [hx b z] at q;cases q) e
  exact⟨_,e'⟩
 fY:=u.fY
 gq:=u.gq
 gF:=u.gF
theorem Inv.kp{h':xV}{ex:List dm}{t':Nat}(I:Inv X pins σ H s)(k:Kp (dN X.stack) ex s.heap h')(hx:∀ b∈ex,H b=none/\Nw X pins b):Inv X pins σ H { s with heap:=h',toks:=t' }:=by
 have cellK:∀ x c,X.env.cells.lookup x=some c->∀ v,s.heap.IsCell c v->h'.IsCell c v:=fun x c e v ⟨o,ho,hd⟩=>by
  obtain⟨_,sl,q⟩:=k c o (fun z=>(hx c z).2.2.2.2.1 x c e rfl) ho
  exact⟨_,q,hd⟩
 refine⟨I.ok,I.os,I.bare,I.base.kpx k (fun b hb=>(hx b hb).2.1) (fun b hb=>?_),?_,fun x c e=>?_,I.free,I.fO,fun p hp=>?_,I.ax.kp k I.uC (fun b hb=>(hx b hb).1),I.len⟩
 ·rcases yr.mp (I.pH b hb) with z|z
  ·exact .inr (Ag (by rw [z];exact I.ok.above))
  ·exact .inl z
 ·obtain⟨m,⟨o,es,ep,ho,r⟩,hl⟩:=I.loc
  obtain⟨_,sl,q⟩:=k _ o (fun z=>(hx _ z).2.2.1 rfl) ho
  refine⟨m,⟨_,es,ep,q,r⟩,fun i x v e1 e2 e3=>?_⟩
  obtain⟨u,ru,l⟩:=hl i x v e1 e2 e3
  refine⟨u,ru,?_⟩
  rcases l with l|⟨kd,c,e,z⟩
  ·exact .inl l
  ·exact .inr ⟨kd,c,e,cellK x c e _ z⟩
 ·obtain⟨v,z⟩:=I.cell x c e
  exact⟨v,cellK x c e v z⟩
 ·obtain⟨e,n,ne,nf,d⟩:=I.pin p hp
  refine⟨(k p.1 p.2 (fun z=>(hx p.1 z).2.2.2.2.2 p hp rfl) e).1 fun z=>?_,n,ne,nf,d⟩
  rcases yr.mp (I.pH p.1 z) with y|y
  ·exact ne y
  ·exact nf y
theorem Inv.zia(I:Inv X pins σ H s)(n:H a=none)(nw:Nw X pins a)(new:ck X.prog X.w (upd H a o) s.heap a o):Inv X pins σ (upd H a o) s:=by
 have ne:∀ b u,H b=some u->b≠a:=fun b u e z=>by rw [z,n] at e;cases e
 refine⟨I.ok,I.os,I.bare,⟨I.base.keep,I.base.slot,fun b ob e hn hx=>?_,I.base.there,fun b xs e=>?_,fun b ob u e=>?_,fun b ps e=>?_⟩,I.loc,I.cell,?_,fun x c e=>?_,fun p hp=>?_,fun b u e=>?_,I.len⟩
 ·rw [aT (fun z=>by rw [z,nw.1] at e;cases e)]
  exact I.base.free b ob e hn hx
 ·have:=I.base.fY b xs e
  rw [aT (ne _ _ this)]
  exact this
 ·have:=I.base.gq b ob u e
  rw [aT (ne _ _ this)]
  exact this
 ·obtain⟨more,z⟩:=I.base.gF b ps e
  exact⟨more,by rw [aT (ne _ _ z)];exact z⟩
 ·rw [aT (yU nw.2.1)]
  exact I.free
 ·rw [aT (nw.2.2.2.1 x c e)]
  exact I.fO x c e
 ·obtain⟨g1,g2,g3,g4,g5⟩:=I.pin p hp
  exact⟨g1,by rw [aT (nw.2.2.2.2 p hp)];exact g2,g3,g4,g5⟩
 ·by_cases hb:b=a
  ·subst hb
   rw [bX] at e
   cases e
   exact new
  ·rw [aT hb] at e
   exact(I.ax b u e).hV (fun _ _ _ q=>q) (fun c q=>by rw [aT (ne _ _ q)];exact q) fun c xs q=>q.upd (fun _ r=>ne _ _ r) fun _ _ r=>ne _ _ r
end
def XP(X:Cx)(pins:List (dm×xU))(σ:St)(E:XK)(ev:gV)(s':ir):Prop :=
 ∃(e:dm) (cls:gV) (dd:Option dm) (T:dm) (H':Hp),ev=.ref e/\Inv X pins σ H' s'/\Fl s'.heap e cls dd T .none/\H' e=none/\H' T=none/\Nw X pins e/\Nw X pins T/\E cls dd H'
abbrev TX:=St->Hp->VK->XK->Prop
def pT(X:Cx)(e:o1)(t:TX):Prop :=
 ∀(pins:List (dm×xU)) (s:ir) (σ:St) (H:Hp) (Q:VK) (E:XK),Inv X pins σ H s->t σ H Q E->xS (xT X.prog X.w) X.A (xZ e X.env) (EP X pins σ Q) (XP X pins σ E) s
abbrev TSX:=Ends->(St->XK)->St->Hp->Prop
def PSX(X:Cx)(st:List x8)(t:TSX):Prop :=
 ∀(pins:List (dm×xU)) (s:ir) (σ:St) (H:Hp) (D:Ends) (E:St->XK),Inv X pins σ H s->t D E σ H->xS (xT X.prog X.w) X.A (execs st X.env) (SP X pins D) (fun ev s'=>∃ σ',XP X pins σ' (E σ') ev s') s
noncomputable def iP(e C:dm)(dd:Option dm):HO:=.ext fun h=>∃ o vs,h.get? e=some o/\o.cls=.ref C/\o.dict=dd/\o.data=.fields vs
theorem zll(f:Fl h e (.ref C) dd T fl):ck P w H h e (iP e C dd):=by
 obtain⟨oe,vs,oT,ts,he,hc,fH,hd,_⟩:=f
 refine⟨⟨oe,vs,he,hc,fH,hd⟩,⟨oe,he⟩,fun h1 h2 ⟨o,us,g1,g2⟩ k=>⟨o,us,k o g1,g2⟩⟩
noncomputable def rZ(X:Cx)(e:dm):Cx:={ X with A:=X.A.mark (some (.ref e)),calm:=false,xe:=fun _ _=>False }
theorem Inv.toH(I:Inv X pins σ H s)(e:dm):Inv (rZ X e) pins σ H s :=
 ⟨⟨I.ok.mod,I.ok.kind,I.ok.glob,I.ok.blt,I.ok.above,I.ok.inj,I.ok.has,I.ok.mR,(fun z=>(by cases z)),I.ok.frames,I.ok.pG,I.ok.oC,I.ok.bs,I.ok.jr,I.ok.nA,I.ok.mY,I.ok.gA,I.ok.jV,I.ok.tree,I.ok.sk⟩,I.os,I.bare,I.base,I.loc,I.cell,I.free,I.fO,I.pin,I.ax,I.len⟩
theorem Inv.wQ(ok:X.Ok)(I:Inv (rZ X e) pins σ H s):Inv X pins σ H s :=
 ⟨ok,I.os,I.bare,I.base,I.loc,I.cell,I.free,I.fO,I.pin,I.ax,I.len⟩
structure kX(K:kb)(C:dm):Prop where
 ty:B5 K (.ref C)=some (.type "type")
 cl:(zk K C).isSome=true
 be:zB K (.ref C) (.type "BaseException")=some true
theorem zlm{K:kb}{D:dm}{b:Bool}{Q:Bool->ir->Prop}(KX:K.In s.heap)(c:kX K C)(he:s.heap.get? e=some oe)(hc:oe.cls=.ref D)
  (hs:zB K (.ref D) (.ref C)=some b)(hq:Q b s):xS M A (excMatches (.ref e) (.ref C)) Q E s:=by
 have L1:AW M s.heap (typeOf (.ref C)) (.type "type"):=PySem.W.looks_typeIn KX c.ty
 have L2:AW M s.heap (isSubtype (.ref C) (.type "BaseException")) true:=Ei KX c.be
 have L3:AW M s.heap (isSubtype (.ref D) (.ref C)) b:=Ei KX hs
 have L4:AW M s.heap (isType (.ref C)) true:=by
  have cl:=c.cl
  unfold zk at cl
  split at cl
  ·rename_i ho
   intro A' Q' E' s' k q
   unfold isType loadHead
   exact lb (Cy (k _ _ (KX _ _ ho)) (xX q))
  ·cases cl
 have L5:AW M s.heap (isExcClass (.ref C)) true:=by
  intro A' Q' E' s' k q
  unfold isExcClass
  refine lb (L4 _ _ _ _ k ?_)
  rw [if_pos rfl]
  exact L2 _ _ _ _ k q
 have id:∀ b o,s.heap.get? b=some o->s.heap.get? b=some o:=fun _ _ z=>z
 unfold excMatches Dm
 refine lb (lb (L1 _ _ _ _ id ?_))
 rw [tc_notTuple]
 refine xX ?_
 rw [if_neg zy]
 refine lb (xX ?_)
 simp only [List.forIn_cons,List.forIn_nil]
 refine lb (lb (lb (L5 _ _ _ _ id ?_)))
 simp only [zL,yG,if_false]
 refine xX ?_
 refine xX ?_
 have L6:AW M s.heap (typeOf (.ref e)) (.ref D):=by
  intro A' Q' E' s' k q
  unfold typeOf
  refine lb (Cy (k _ _ he) (xX ?_))
  rw [hc]
  exact q
 refine lb (L6 _ _ _ _ id ?_)
 refine lb (lb (lb (L3 _ _ _ _ id ?_)))
 cases b with
 | true=>exact xX (xX (xX hq))
 | false=>exact xX (xX (xX hq))
end
variable {j:Nat}{b₀:x8}{ts:TS}{tb:TSX}
section
noncomputable def zld(j:Nat)(D:Ends):Ends:={ nx:=fun σ H=>D.nx (σ.set j none) H,rt:=D.rt,bk:=fun σ H=>D.bk (σ.set j none) H,ct:=fun σ H=>D.ct (σ.set j none) H }
noncomputable def zh2(K:kb)(C:dm)(j:Nat)(ts:TS)(D:Ends):St->XK:=fun σ cls dd H=>∃ B,cls=.ref B/\zB K (.ref B) (.ref C)=some true /\
 ∀ e,H e=none->ts (zld j D) (σ.set j (some (.ref e))) (upd H e (iP e B dd))
section
variable {cn n:ib}{body zhZ:List x8}{cp hp:xW}
theorem name_goes(I:Inv X pins σ H s)(hN:X.N.Nodup)(hj:X.N[j]?=some n)(hl:X.env.scope.names.lookup n=some .local)
  (h:∀ s',Inv X pins (σ.set j none) H s'->Q () s'):xS (xT X.prog X.w) X.A (do Cu X.env n .none;unbindBehindTheSuite X.env n hp) Q E s:=by
 obtain⟨m,hn,lk⟩:=I.loc
 have hk:(X.env.scope.kind==.class||(X.env.scope.kind==.module&&X.env.locals != X.env.globals))=false:=by rw [I.ok.kind];rfl
 refine wpAny_nameGoes_keeps hl hn hk fun h' v qA sb=>h _ ?_
 have k:∀ b o,b≠X.env.locals->s.heap.get? b=some o->h'.get? b=some o:=fun b o hb e=>sb.extBut b o hb e
 have qN:∀ b o,X.s₀.heap.get? b=some o->b≠X.env.locals:=fun b o e=>yI (zc (yo e) I.ok.above)
 obtain⟨o',mX,si,eX,r'⟩:=qA
 refine⟨I.ok,I.os,I.bare,⟨fun b o e nn hb hx=>k _ _ (qN b o e) (I.base.keep b o e nn hb hx),fun b o e nn hb hx=>?_,I.base.free,fun b o e hx=>?_,I.base.fY,I.base.gq,I.base.gF⟩,⟨_,⟨o',mX,si,eX,r'⟩,fun i x u e1 e2 e3=>?_⟩,fun x c e=>?_,I.free,I.fO,fun p hp=>?_,fun b u e=>?_,?_⟩
 ·obtain⟨sl,z⟩:=I.base.slot b o e nn hb hx
  exact⟨sl,k _ _ (qN b o e) z⟩
 ·obtain⟨o2,z⟩:=I.base.there b o e hx
  exact⟨o2,k _ _ (qN b o e) z⟩
 ·by_cases dX:i=j
  ·subst dX
   rw [List.getElem?_set] at e2
   split at e2
   ·split at e2 <;> cases e2
   ·exact absurd rfl (by assumption)
  ·rw [yL (yU dX)] at e2
   obtain⟨uu,ru,l⟩:=lk i x u e1 e2 e3
   refine⟨uu,ru,?_⟩
   have hxn:x≠n:=fun z=>dX (zcH hN (by rw [<- z];exact e1) hj)
   rcases l with⟨l1,l2⟩|⟨kd,c,ec,o3,z1,z2⟩
   ·exact .inl ⟨l1,by show(if x=n then v else m x)=some uu;rw [if_neg hxn];exact l2⟩
   ·exact .inr ⟨kd,c,ec,o3,k _ _ (I.lA x c ec) z1,z2⟩
 ·obtain⟨v,o3,z1,z2⟩:=I.cell x c e
  exact⟨v,o3,k _ _ (I.lA x c e) z1,z2⟩
 ·obtain⟨g1,g2,g3,g4,g5⟩:=I.pin p hp
  exact⟨k _ _ g3 g1,g2,g3,g4,g5⟩
 ·refine(I.ax b u e).hV (fun c vv hc q=>k c vv ?_ q) (fun _ q=>q) fun _ _ q=>q
  intro z
  rcases hc with y|y
  ·rw [<- y,z,I.free] at e;cases e
  ·rw [z,I.free] at y;cases y
 ·rw [Aa];exact I.len
theorem zrw(hc:kX X.K C)(b8:X.stack=X.env::X.outer)(gu:X.env.frame=some X.env.locals)(hb:PSX X body tb)(hg:Gl X cn)(hm:X.mg cn=some (.ref C))(hN:X.N.Nodup)(hj:X.N[j]?=some n)
  (hl:X.env.scope.names.lookup n=some .local)(hs:∀ e,bJ (rZ X e) (b₀::zhZ) ts)(hd:(cn==("__debug__":ib))=false:=by decide) :
  PS X (.Try body [.ExceptHandler (some (.Name cn cp)) (some n) (b₀::zhZ) hp] [] [] pos) (fun D σ H=>tb D (zh2 X.K C j ts D) σ H):=by
 intro pins s σ H D I h
 refine wpAny_Try_except (yA (hb pins s σ H D _ I h) (fun f s1 q=>?_) fun ev s1 q=>?_)
 ·cases f with
  | next=>exact BW q
  | ret v=>exact q
  | brk=>exact q
  | cont=>exact q
 ·obtain⟨σ1,e,cls,dd,T,H1,rfl,I1,fl,ne,nT,we,wT,B,rfl,sT,hsu⟩:=q
  have zme:X.A.frames=some (X.env::X.outer):=by rw [<- b8];exact I1.ok.frames
  have fun1:s1.heap.FunFrames X.base (X.env::X.outer):=by rw [<- b8];exact I1.stack
  refine zfr (base:=X.base) zme fun1 gu fl fun h2 T2 k2 z2 f2=>vN f2 fun h3 k3 f3=>?_
  have oT2:s1.heap.get? T2=none:=Ag z2
  have k23:Kp (dN X.stack) [e,T] s1.heap h3:=by
   rw [b8]
   exact k2.trans k3.all fun c jX=>.inr (by have e9:c=T2:=(by simpa using jX);rw [e9];exact oT2)
  have I3:Inv X pins σ1 H1 { s1 with heap:=h3,toks:=s1.toks }:=I1.kp (t':=s1.toks) k23 fun b sF=>by
   rcases (by simpa using sF:b=e\/b=T) with y|y
   ·rw [y];exact⟨ne,we⟩
   ·rw [y];exact⟨nT,wT⟩
  obtain⟨oe,vs,oT,ts',he,hcl,fH,hdt,_⟩:=id f3
  refine wpAny_handleBy_cons (codeAny_handlers_test (qI (I3.toH e) hg hm (zlm (K:=X.K) I3.eJ hc he hcl sT ?_) hd)) (by intro q;cases q)
  dsimp only
  refine codeAny_handlers_suite_as (vN f3 fun h4 k4 f4=>?_)
  have I4:Inv X pins σ1 H1 { s1 with heap:=h4,toks:=s1.toks }:=by
   have nT2:Nw X pins T2:=by
    have i1:=I1
    refine⟨?_,?_,?_,?_,?_⟩
    ·cases q:X.s₀.heap.get? T2 with
     | none=>rfl
     | some o =>
      have:=yo q
      exact absurd (zc this (yx i1.sz z2)) (Bl _)
    ·exact B3 (zc i1.lt z2)
    ·exact i1.zgH z2
    ·intro x c ec z
     obtain⟨v,o,ho,_⟩:=i1.cell x c ec
     rw [z,oT2] at ho
     cases ho
    ·intro p hpp z
     have:=(i1.pin p hpp).1
     rw [z,oT2] at this
     cases this
   refine I3.kp (h':=h4) (ex:=[T2]) (t':=s1.toks) k4.all fun b sF=>?_
   obtain rfl:b=T2:=by simpa using sF
   exact⟨I1.ax.fresh z2,nT2⟩
  have I5:Inv X pins σ1 (upd H1 e (iP e B dd)) { s1 with heap:=h4,toks:=s1.toks }:=I4.zia ne we (zll f4)
  refine uD I5 hN hj (.inl hl) (v:=.ref e) rfl (fun s6 I6=>?_) (.inr hl)
  refine yA (hs e pins s6 _ _ _ (I6.toH e) (hsu e ne)) (fun f s7 q=>?_) fun _ _ z=>z.elim
  cases f with
  | next =>
   obtain⟨σ7,H7,I7,q7⟩:=q
   exact name_goes (I7.wQ I1.ok) hN hj hl fun s8 I8=>⟨_,H7,I8,q7⟩
  | brk =>
   obtain⟨σ7,H7,I7,q7⟩:=q
   exact name_goes (I7.wQ I1.ok) hN hj hl fun s8 I8=>⟨_,H7,I8,q7⟩
  | cont =>
   obtain⟨σ7,H7,I7,q7⟩:=q
   exact name_goes (I7.wQ I1.ok) hN hj hl fun s8 I8=>⟨_,H7,I8,q7⟩
  | ret v =>
   obtain⟨x7,σ7,H7,I7,r7,q7⟩:=q
   exact name_goes (I7.wQ I1.ok) hN hj hl fun s8 I8=>⟨x7,_,H7,I8,r7,q7⟩
end
end
variable {tk:yS}{d:Drawn}{ox:xU}{zgD:gV}{g:Array GenState}{od:Option xU}
section
structure fZ(K:kb)(D:dm):Prop where
 ga:yD K (.ref D) "__getattribute__"=some (some (.builtin "BaseException.__getattribute__"))
 gn:yD K (.ref D) "__getattr__"=some none
 cl:yD K (.ref D) "__class__"=some (some (.builtin "object.__class__"))
 be:zB K (.ref D) (.type "BaseException")=some true
 ob:Cj K D (.type "object")=some true
 is:(zk K D).isSome=true
section
variable {os:OsState}{K:kb}{x D:dm}
theorem zio(X:K.In h)(c:fZ K D)(I:Av h x ox D od)(hq:Q () ⟨h,g,d,t,os⟩) :
  xS M A (checkBuiltinCall "BaseException.__getattribute__" ⟨[.ref x,zgD],[]⟩) Q E ⟨h,g,d,t,os⟩:=by
 have hk:builtinKind "BaseException.__getattribute__"=some .slot:=by decide +kernel
 have zmo:splitId "BaseException.__getattribute__"=some ("BaseException","__getattribute__"):=by decide +kernel
 have L0:=I.type (M:=M)
 have L1:AW M h (isSubtype (.ref D) (.type "BaseException")) true:=Ei X c.be
 have ha:=F.args_bexc_ga (.ref x) zgD
 simp only [checkBuiltinCall,hk,zmo]
 unfold Dm
 refine lb (lb (L0.at (L1.at ?_)))
 repeat (any_goals (first|assumption|wp_step))
theorem zu3{Q:Fin->ir->Prop}(X:K.In h)(c:fZ K D)(I:Av h x ox D od)(hq:Q (.done (.ret (.ref D))) ⟨h,g,d,t,os⟩) :
  xS (xT prog w) A (zJ.«object.__getattribute__» ⟨[.ref x,.str "__class__" tk],[]⟩) Q E ⟨h,g,d,t,os⟩:=by
 have L0:=I.type (M:=xT prog w)
 have L1:=Bu (M:=xT prog w) X c.cl
 have hT5:(⟨h,g,d,t,os⟩:ir).TypeIs (.builtin "object.__class__") "getset_descriptor":=F.typeOf_object_class
 have f5:=F.typeOf_object_class
 have f6:=F.slot_gs_get.lookup
 have f7:=F.slot_gs_set.lookup
 repeat (any_goals (first|assumption|with_reducible refine L0.at ?_|with_reducible refine L1.at ?_|wp_step))
 refine PySem.W.class_get (s:=⟨h,g,d,t,os⟩) X I c.ob ?_
 exact xX hq
theorem zu2{Q:gV->ir->Prop}(X:K.In h)(c:fZ K D)(I:Av h x ox D od)(hq:Q (.ref D) ⟨h,g,d,t,os⟩) :
  xS (xT prog w) A (getAttrBy (.ref x) (.str "__class__" tk) false) Q E ⟨h,g,d,t,os⟩:=by
 have L0:=I.type (M:=xT prog w)
 have L1:=Bu (M:=xT prog w) X c.ga
 have L2:=Bu (M:=xT prog w) X c.gn
 have f3:=Dp.ga.bind (.ref x)
 have hx2:(CI "BaseException.__getattribute__" == CI "object.__getattribute__")=false:=by decide +kernel
 repeat (any_goals (first|assumption|with_reducible refine L0.at ?_|with_reducible refine L1.at ?_|with_reducible refine L2.at ?_|wp_step))
 refine Ej Dp.ga.plain F.entry_bexc_ga (zio X c I (zu3 X c I ?_))
 exact Fm rfl hq
theorem zu1{Q:Option gV->ir->Prop}(X:K.In h)(c:fZ K D)(I:Av h x ox D od)(hq:Q (some (.ref D)) ⟨h,g,d,t+1,os⟩) :
  xS (xT prog w) A (getAttr? (.ref x) "__class__") Q E ⟨h,g,d,t,os⟩:=by
 unfold getAttr? getAttrBy?
 repeat (any_goals (first|assumption|with_reducible apply zu2 X c I|wp_step))
end
theorem zo1{K:kb}{x D:dm}(c:fZ K D):PySem.W.KitX K (.ref x) (.ref D) (fun h=>∃ ox od,Av h x ox D od) where
 ty:=fun _ _ _ ⟨_,_,I⟩=>I.type
 it:=fun _ _ X _=>by
  have cl:=c.is
  unfold zk at cl
  split at cl
  ·rename_i ho
   intro A' Q' E' s' k q
   unfold isType loadHead
   exact lb (Cy (k _ _ (X _ _ ho)) (xX q))
  ·cases cl
 ne:=fun h tp dd its n sl X e=>by
  have cl:=c.is
  unfold zk at cl
  split at cl
  ·rename_i ho
   have iC:D≠tp:=fun z=>by
    have:=X _ _ ho
    rw [z,e] at this
    cases this
   simpa using iC
  ·cases cl
 ca:=fun{prog w A E Q s} X ⟨_,_,I⟩ hq=>by
  obtain⟨h,g,d,t,os⟩:=s
  exact zu1 X c I hq
theorem zmw(I:Inv X pins σ H s)(h:H e=some (iP e C dd))(hd:∀ dx,dd=some dx->∃ fs,H dx=some (.xd fs)):∃ ox od,Av s.heap e ox C od:=by
 obtain⟨⟨o,vs,ho,hc,fH,hdt⟩,_⟩:=(show ck X.prog X.w H s.heap e (iP e C dd) from I.ax e _ h)
 cases dd with
 | none=>exact⟨o,none,ho,hc,by unfold Dq;rw [hdt],by rw [fH];trivial⟩
 | some dx =>
  obtain⟨fs,hx⟩:=hd dx rfl
  obtain⟨od,e2⟩:=(I.ax dx _ hx).some
  exact⟨o,some od,ho,hc,by unfold Dq;rw [hdt],by rw [fH];exact e2⟩
noncomputable def zs5(K:kb):List V->Hp->VK->Prop:=fun xs H Q=>∃ e y C dd b,xs=[.ref e,y]/\mS y≠.none/\H e=some (iP e C dd)/\(∀ dx,dd=some dx->∃ fs,H dx=some (.xd fs))/\fZ K C/\x4 K (.ref C) (mS y)=some b/\Q (.bl b) H
theorem zjG:gG X (.builtin "isinstance") (zs5 X.K):=by
 intro pins s σ H xs us Q I r h
 obtain⟨e,y,C,dd,b,rfl,hy,he,hd,c,k,q⟩:=h
 obtain⟨u,v,rfl,ru,rv⟩:=vals2 r
 cases zeH rv hy
 cases (show u=yt e from ru)
 exact BG (zo1 c) I.eJ (zmw I he hd) k (fun z=>nomatch z) fun tk=>⟨.bl b,H,I.tok tk,rfl,q⟩
end
variable {p:xW}{σ:List (Option V)}{t:TA}{e:o1}
section
def bh(K:kb)(mg:ib->Option gV)(x:ib)(st:x8):Prop:=∃(f:dm) (fd:yq),mg x=some (.ref f)/\dw K x x st f fd
def Callee(P:x6)(w:x5)(K:kb)(mg:ib->Option gV)(base:xV)(x:ib)(k:Nat)(ps:List ib)(sp:Sp):Prop :=
 ∃(f:dm) (fd:yq),mg x=some (.ref f)/\Ai K (.ref f)=true/\Binds K fd ps []/\bU P w K mg base (bE P w) k f fd ps sp
section
variable {sp:Sp}{E:XK}
theorem o7(c:Callee X.prog X.w X.K X.mg X.base x k ps sp)(hr:aZ j X.A)(hg:Gl X x)(hx:Passes (bE X.prog X.w) X E)(ha:PA X (e::es) t)(hj:k<=j:=by decide)(bA:(x==("__debug__":ib))=false:=by decide)
  (he:pd (e::es) X.env=(false,xZ e X.env)::pd es X.env:=by rfl) (bj:(yp pos (pd es X.env)).any (·.1)=false:=by rfl):PE X (.Call (.Name x p) (e::es) [] pos) (zdh sp [] E t):=by
 obtain⟨f,fd,hm,hk,hb,F⟩:=c
 exact zqM F (hr.mono hj) hg hm hk hb .nil hx ha bA he bj
end
end
section
end
section
end
variable {l:dm}
section
theorem aM.upd(h:H l=none):aM H (upd H l o):=fun b u e=>by rw [aT (oX e h)];exact e
end
section
end
section
end
variable {us:List gV}{H':Hp}{p0:xW}{xs:List V}{fp:List dm}{t':Nat}
section
section
theorem Inv.zdm(I:Inv X pins σ H s)(k:∀ b o,b∉fp->s.heap.get? b=some o->h'.get? b=some o)(hf:∀ b∈fp,gH X pins H b):Inv X pins σ H { s with heap:=h',toks:=t' }:=by
 have tP:∀ b u,H b=some u->b∉fp:=fun b u e z=>by
  have:=(hf b z).1
  rw [e] at this
  cases this
 have hL:X.env.locals∉fp:=fun z=>(hf _ z).2.1 rfl
 refine I.step (g':=s.gens) (d':=s.drawn) (ch:=fp) (fun b hb=>?_) (fun b o _ _ hc e _=>k b o hc e) (fun b o _ _ hc e _=>⟨o.slots,k b o hc e⟩) (fun _ _ _ _ n=>n)
  (fun b o hc e=>⟨o,k b o hc e⟩) (fun _ _ e=>e) (fun _ _ _ e=>e) (fun b ps e=>⟨#[],by rw [e];simp⟩) (fun m hm=>?_) (fun b u e=>?_) I.bare
 ·obtain⟨_,h1,_,h3,h4,h5⟩:=hf b hb
  exact⟨h3,h1,h4,h5⟩
 ·obtain⟨o,es,ep,ho,r⟩:=hm
  exact⟨o,es,ep,k _ o hL ho,r⟩
 ·refine(I.ax b u e).hV (fun c v hc q=>k c v ?_ q) (fun _ q=>q) fun _ _ q=>q
  rcases hc with z|z
  ·rw [z];exact tP b u e
  ·exact tP c _ z
theorem Inv.zuA(I:Inv X pins σ H s)(k:∀ b o,b∉fp->s.heap.get? b=some o->h'.get? b=some o)(hf:∀ b∈fp,gH X pins H b)(vX:∀ b∈fp,b<s.heap.objs.size)
  (ht:h'.get? s.heap.objs.size=some { cls:=.type "tuple",data:=.seq us.toArray n }) (r:Vals xs us) (hz:xs.length<=yb) :
  Inv X pins σ (upd H s.heap.objs.size (.tup xs)) { s with heap:=h',toks:=t' }:=by
 have I1:Inv X pins σ (upd H s.heap.objs.size (.tup xs)) { s with heap:=s.heap.push { cls:=.type "tuple",data:=.seq us.toArray n },toks:=s.toks } :=
  I.laid (t':=s.toks) (fun b u e=>yh _ e) (x9 _) ⟨hz,us,r,⟨_,yY _ rfl,rfl,_,rfl⟩⟩
 refine Inv.zdm (s:={ s with heap:=s.heap.push { cls:=.type "tuple",data:=.seq us.toArray n },toks:=s.toks }) (t':=t') (fp:=fp) I1 (fun b o hb e=>?_) fun b hb=>⟨by rw [aT (yI (vX b hb))];exact(hf b hb).1,(hf b hb).2⟩
 by_cases hbs:b=s.heap.objs.size
 ·subst hbs
  have e':(s.heap.push { cls:=.type "tuple",data:=.seq us.toArray n }).get? s.heap.objs.size=some o:=e
  rw [yY _ rfl] at e'
  cases e'
  exact ht
 ·refine k b o hb ?_
  have e':(s.heap.push { cls:=.type "tuple",data:=.seq us.toArray n }).get? b=some o:=e
  have lt:b<(s.heap.push { cls:=.type "tuple",data:=.seq us.toArray n }).objs.size:=yo e'
  rw [Bf] at lt
  have lt':b<s.heap.objs.size:=Nat.lt_of_le_of_ne (Nat.le_of_lt_succ lt) hbs
  unfold Heap.get? at e' ⊢
  unfold Heap.push at e'
  simp only at e'
  rw [Array.getElem?_push_lt lt'] at e'
  rw [Ek lt']
  exact e'
end
noncomputable def Ite(K:kb)(a:dm):It :=
 ⟨fun i H=>∃ xs x,bV K H a xs/\xs[i]?=some x,fun i H x H'=>∃ t v,x=.ref t/\H t=none/\H'=upd H t (.tup [.int i,v])/\∀ xs,bV K H a xs->xs[i]?=some v,fun i H=>∃ xs,bV K H a xs/\xs.length<=i⟩
theorem zuw{K:kb}(e it a:dm)(iC:e≠it):Turn P w K (.Tuple es k pos) (Ite K a) [e,it] e (fun i h=>(∃ old,IsEnum h e it i old)/\h.IsListIter it a i) where
 mem:=by simp
 obj:=fun i h st c hc=>by
  obtain⟨⟨old,h1⟩,⟨o4,h4,_,d4⟩⟩:=st
  simp only [yr,BI,or_false] at hc
  rcases hc with rfl|rfl
  ·exact⟨_,h1,fun v z=>by cases z⟩
  ·exact⟨_,h4,fun v z=>by rw [d4] at z;cases z⟩
 keep:=fun i h h' st k=>by
  obtain⟨⟨old,h1⟩,h4⟩:=st
  exact⟨⟨old,k _ (by simp) _ h1⟩,h4.at fun o e=>k _ (by simp) o e⟩
 item:=by
  intro X hP hw hK hc i pins s σ H E I hf st hg
  subst hP hw hK
  obtain⟨xs,x,v9,hx⟩:=hg
  obtain⟨itx,xj,px,_⟩:=I.list v9
  obtain⟨ux,hux,rux⟩:=xj.get hx
  obtain⟨⟨old,h1⟩,h4⟩:=id st
  have lts:∀ c∈[e,it],c<s.heap.objs.size:=fun c hc=>by
   obtain⟨o4,e4,_⟩:=id h4
   simp only [yr,BI,or_false] at hc
   rcases hc with rfl|rfl
   ·exact yo h1
   ·exact yo e4
  refine wpAny_pyNext_enum_item h1 h4 px.isList (by simpa using hux) iC fun h' a1 a3 a5 a6 hk=>?_
  refine⟨_,rfl,wpAny_letOwnedTupleGo_enum a1 fun h'' b1 sb=>?_⟩
  have zlt:=lts e (by simp)
  have k2:∀ c o,c∉[e,it]->s.heap.get? c=some o->h''.get? c=some o:=fun c o hc g=>by
   simp only [yr,BI,or_false,not_or] at hc
   exact sb.extBut c o hc.1 (hk c o hc.1 hc.2 g)
  have ht:h''.get? s.heap.objs.size=some { cls:=.type "tuple",data:=.seq #[.int i s.toks,ux] }:=sb.extBut _ _ (B3 zlt) a5
  refine⟨.ref s.heap.objs.size,_,Inv.zuA (s:=s) (h':=h'') (t':=s.toks+1) (fp:=[e,it]) I (xs:=[.int i,x]) (us:=[.int i s.toks,ux]) k2 hf lts ht (.cons ⟨_,rfl⟩ (.cons rux .nil)) (by rw [zf];show 2<=16777216;decide),rfl,
   ⟨_,x,rfl,I.ax.fresh (x9 _),rfl,fun zs hz=>by rw [I.zf9 hz v9];exact hx⟩,?_,fun c hc=>?_⟩
  ·exact⟨⟨_,b1⟩,a3.extBut sb.extBut (yU iC)⟩
  ·rw [aT (yI (lts c hc))]
   exact(hf c hc).1
 done:=by
  intro X hP hw hK hc i pins s σ H E I hf st hg
  subst hP hw hK
  obtain⟨xs,v9,zvc⟩:=hg
  obtain⟨itx,xj,px,_⟩:=I.list v9
  obtain⟨⟨old,h1⟩,h4⟩:=id st
  have lx:=xj.length
  refine wpAny_pyNext_enum_end (I.ok.hd hc) h1 h4 px.isList (by simp;omega) fun h' hk=>⟨rfl,I.zdm (t':=s.toks) (fun c o hc g=>?_) hf⟩
  simp only [yr,BI,or_false,not_or] at hc
  exact hk c o hc.2 g
 self:=fun _ _ _ _ _ st h=>by
  obtain⟨⟨old,h1⟩,_⟩:=st
  exact wpAny_pyIter_enum h1 h
section
noncomputable def zmq(K:kb)(ta:TA):TI:=fun σ H R=>ta σ H fun vs H1=>∃ a,vs=[.ref a]/\(∃ xs,bV K H1 a xs)/\R (Ite K a) H1
theorem zrb{a:o1}(hg:Gl X "enumerate") (hm:X.mg "enumerate"=none) (ha:PA X [a] ta) (hs:pd [a] X.env=[(false,xZ a X.env)]:=by rfl) :
  PI X (.Tuple es k p0) (.Call (.Name "enumerate" p) [a] [] pos) (zmq X.K ta):=by
 intro pins s σ H R I h
 refine Call_ (qH I hg hm (by decide +kernel:yJ "enumerate"=some (.type "enumerate")) (C2 (aN (ha pos pins s σ H _ I h) fun us s1 ⟨vs,H1,I1,r1,q1⟩=>?_) hs rfl))
 obtain⟨l1,e,⟨xs,hx⟩,q⟩:=q1
 subst e
 cases r1 with
 | cons r rr =>
  cases rr
  cases r
  obtain⟨itx,xj,px,_⟩:=I1.list hx
  refine call_enumerate_list px.isList fun h' g1 g4 g6 hk=>?_
  refine wpAny_pyIter_enum g1 ⟨_,[s1.heap.objs.size+1,s1.heap.objs.size],_,_,H1,rfl,I1.kept (t':=s1.toks) hk,zuw _ _ l1 (Nat.succ_ne_self _),⟨⟨_,g1⟩,g4⟩,fun c hc=>?_,q⟩
  have jx:s1.heap.objs.size<=c:=by
   simp only [yr,BI,or_false] at hc
   rcases hc with rfl|rfl <;> first|exact Nat.le_add_right _ _|exact x9 _
  exact I1.oG jx (I1.ax.fresh jx)
theorem zji{bs:List Bool}:∀{us:List gV},Vals (bs.map V.bl) us->us=bs.map Af:=by
 induction bs with
 | nil=>intro us h;cases h;rfl
 | cons b r ih =>
  intro us h
  cases h with
  | cons h1 h2 =>
   have:=ih h2
   cases h1
   rw [this]
   rfl
theorem zjD(hc:X.calm=true):gG X (.builtin "all") (fun xs H Q=>∃(a:dm) (bs:List Bool),xs=[.ref a]/\bV X.K H a (bs.map V.bl)/\Q (.bl (bs.all id)) H):=by
 intro pins s σ H xs us Q I r h
 obtain⟨a,bs,rfl,hq,q⟩:=h
 obtain⟨u,rfl,rx⟩:=vals1 r
 cases rx
 obtain⟨its,rv,p,hz⟩:=I.list hq
 have e:=zji rv
 subst e
 have iC:a≠s.heap.objs.size:=by
  obtain⟨o,eo,_⟩:=p.isList
  exact yI (yo eo)
 have W:=Walks.list (prog:=X.prog) (w:=X.w) (A:=X.A.in1) (show X.A.in1.handled=none from I.ok.hd hc) s.heap.objs.size a iC (bs.map Af).toArray
 refine call_all_walk (wpAny_pyIter_list p.isList ⟨_,_,_,_,_,_,fun i=>bs.getD i true,rfl,W,⟨⟨_,yY _ rfl,rfl,rfl⟩,p.isList.push _⟩,?_,fun h' tk hk=>⟨.bl (bs.all id),H,?_,?_,q⟩⟩)
 ·intro i v s' Q' E' hP hQ
  have hP':(bs.map Af)[i]?=some v:=by simpa using hP
  rw [yO] at hP'
  cases e:bs[i]? with
  | none=>rw [e] at hP';cases hP'
  | some b =>
   rw [e] at hP'
   cases hP'
   have:bs.getD i true=b:=by simp [Dr,e]
   have hQ2:Q' (bs.getD i true) s':=hQ
   rw [this] at hQ2
   exact xX hQ2
 ·refine Inv.zdm (s:={ s with heap:=s.heap.push { cls:=.type "list_iterator",data:=.fields #[.ref a,.int 0 0] },toks:=s.toks }) (t':=tk) (fp:=[s.heap.objs.size]) (I.kept (t':=s.toks) fun b o e=>yh _ e) (fun b o hb e=>hk b o hb e) fun b hb=>?_
  have e:b=s.heap.objs.size:=by simpa using hb
  subst e
  exact I.oG (x9 _) (I.ax.fresh (x9 _))
 ·show Af _=Af _
  congr 1
  simp only [yv,yn]
  rw [Bool.eq_iff_iff,An,An]
  constructor
  ·intro h b hb
   obtain⟨i,hi,e⟩:=Fo hb
   have:=h i (DM.mpr hi)
   simpa [Dr,hi,e] using this
  ·intro h i hi
   have iA:=DM.mp hi
   have:=h bs[i] (List.getElem_mem iA)
   simpa [Dr,iA] using this
end
end
variable {globals:dm}{wi:TI}{Q:ye->ir->Prop}{tc:TT}{m:ib->Option gV}{te:TE}{cl:List (ib×dm)}{σ:St}{tg:o1}{outer:ye}{L:List ib}{ix:List Nat}{g:TG}
section
theorem ot:∀(names:List (ib×zD)) (n:Nat) (acc:List (ib×dm)),Aj n names acc=Aj n names []++acc
 | [],n,acc=>rfl
 | (x,k)::r,n,acc=>by
  unfold Aj
  split
  ·rw [ot r (n+1) ((x,n)::acc),ot r (n+1) [(x,n)]]
   simp
  ·exact ot r n acc
theorem vq:∀(names:List (ib×zD)) (n:Nat) (p:ib×dm),p∈Aj n names []->(p.1,zE)∈names
 | [],n,p,h=>nomatch h
 | (x,k)::r,n,p,h=>by
  unfold Aj at h
  split at h
  ·rename_i hk
   rw [ot] at h
   rcases Au.mp h with h|h
   ·exact yK _ (vq r _ p h)
   ·have e:p=(x,n):=by simpa using h
    have jy:k=.cell:=by simpa using hk
    subst e jy
    exact yM ..
  ·exact yK _ (vq r _ p h)
theorem zaO{x:ib}:∀(names:List (ib×zD)) (n:Nat),(x,zE)∈names->∃ c,(x,c)∈Aj n names []
 | (y,k)::r,n,h=>by
  unfold Aj
  rcases yr.mp h with e|h
  ·cases e
   rw [if_pos (by rfl),ot]
   exact⟨n,zZ _ (BJ.mpr rfl)⟩
  ·split
   ·obtain⟨c,hc⟩:=zaO r (n+1) h
    exact⟨c,by rw [ot];exact Bm _ hc⟩
   ·exact zaO r n h
theorem zgd{α:Type}{x:ib}{c:α}:∀{l m:List (ib×α)},(l++m).lookup x=some c->l.lookup x=some c\/(l.lookup x=none/\m.lookup x=some c)
 | [],m,h=>.inr ⟨rfl,h⟩
 | (y,b)::r,m,h=>by
  rw [yX,ym] at h
  rw [ym]
  split at h
  ·exact .inl h
  ·exact zgd h
theorem zge{α:Type}{x:ib}{c:α}:∀{l m:List (ib×α)},m.lookup x=some c->∃ d,(l++m).lookup x=some d
 | [],m,h=>⟨c,h⟩
 | (y,b)::r,m,h=>by
  rw [yX,ym]
  split
  ·exact⟨_,rfl⟩
  ·exact zge h
theorem zgf{α:Type}{x:ib}:∀{l m:List (ib×α)},l.lookup x=none->(l++m).lookup x=m.lookup x
 | [],m,h=>rfl
 | (y,b)::r,m,h=>by
  rw [ym] at h
  rw [yX,ym]
  split at h
  ·cases h
  ·exact zgf h
theorem zgg{α:Type}{x:ib}:∀{l:List (ib×α)},(∀ p∈l,p.1≠x)->l.lookup x=none
 | [],_=>rfl
 | (y,b)::r,h=>by
  rw [ym]
  have:(x==y)=false:=by
   have:=h (y,b) (yM ..)
   simpa using fun e=>this e.symm
  rw [this]
  exact zgg fun p hp=>h p (yK _ hp)
noncomputable def iH(C:dm)(scope:yT):List (ib×dm):=Aj (C+1) scope.names []
noncomputable def g8(X:Cx)(M:List ib)(scope:yT)(C:dm)(s₃:ir)(H₃:Hp)(fp:List dm):Cx :=
 { X with N:=M,s₀:=s₃,H₀:=H₃,env:=compEnvC scope (iH C scope++fM X.env.cells scope.names []) C X.env,outer:=X.stack,stack:=X.stack,ex:=fp,fn:=fun x=>scope.names.contains (x,zE),pn:=[],xe:=fun _ _=>False }
structure zdv(X:Cx)(scope:yT)(qh:List ib):Prop where
 kind:scope.kind=.function
 cell:∀ y∈scope.names,y.2=.free->X.env.kindOf y.1=some .cell
 loc:∀ y∈scope.names,y.2=.local->scope.names.lookup y.1=some .local
 qh:∀ x∈qh,scope.names.lookup x≠some .local/\(x,zE)∉scope.names
 dis:∀ y∈scope.names,y.2=.free->(y.1,zE)∉scope.names
theorem zpW:∀(names:List (ib×zD)) {h:xV},h.Ns C m->(pushCells h names).Ns C m:=fun names h hn=>by
 obtain⟨o,es,ep,ho,r⟩:=hn
 exact⟨o,es,ep,pushCells_keeps names h C o ho,r⟩
section
theorem zmA(S:zdv X scope (gy X ix))(I:Inv X pins σ H s)(hf:∀ b∈fp,gH X pins H b)(vX:∀ b∈fp,b<s.heap.objs.size)
  (hix:∀ i∈ix,i<X.N.length)(hn:h'.Ns s.heap.objs.size fun _=>none)(hk:∀ b u,s.heap.get? b=some u->h'.get? b=some u)(m8:CellsOk h' (s.heap.objs.size+1) (iH s.heap.objs.size scope)) :
  Inv (g8 X (L++gy X ix) scope s.heap.objs.size s H fp) [] (eT L.length ix σ) H { s with heap:=h',toks:=t' }:=by
 have cl:∀ x c,(fM X.env.cells scope.names []).lookup x=some c->X.env.cells.lookup x=some c:=fun x c e =>
  vw (acc:=[]) (fun p hp=>nomatch hp) (x,c) (Ay e)
 have old:∀ x c,X.env.cells.lookup x=some c->c<s.heap.objs.size:=fun x c e=>by
  obtain⟨v,q⟩:=I.cell x c e
  exact q.lt
 have own:∀ x c,(iH s.heap.objs.size scope).lookup x=some c->h'.IsCell c none/\s.heap.objs.size+1<=c/\(x,zE)∈scope.names:=fun x c e=>by
  have m:=Ay e
  exact⟨(m8.empty x c m).1,(m8.empty x c m).2,vq _ _ _ m⟩
 have al:∀ x c,(iH s.heap.objs.size scope++fM X.env.cells scope.names []).lookup x=some c->(iH s.heap.objs.size scope).lookup x=some c\/((iH s.heap.objs.size scope).lookup x=none/\X.env.cells.lookup x=some c):=fun x c e=>by
  rcases zgd e with h|⟨h1,h2⟩
  ·exact .inl h
  ·exact .inr ⟨h1,cl x c h2⟩
 have zgT:∀ x,(x,zE)∈scope.names->∃ c,(iH s.heap.objs.size scope).lookup x=some c:=fun x hx=>by
  obtain⟨c,hc⟩:=zaO scope.names (s.heap.objs.size+1) hx
  exact tf hc
 refine⟨⟨I.ok.mod,S.kind,I.ok.glob,I.ok.blt,x9 _,fun x y c e1 e2=>?_,fun x hx=>?_,fun x c e1 e2=>?_,I.ok.hd,I.ok.frames,.inl rfl,fun b hb=>⟨yI (vX b hb),fun x c e=>?_⟩,
  fun b o e=>I.bs b o e,yx I.ok.jr I.sz,fun b o e hb=>?_,fun b hb hz=>?_,I.stack,I.uC,I.ok.tree,I.ok.sk⟩,
  rfl,I.bare,Un.kept hk,⟨_,hn,fun i x v h1 h2 h3=>?_⟩,fun x c e=>?_,I.ax.fresh (x9 _),fun x c e=>?_,fun p hp=>absurd (show p∈([]:List (dm×xU)) from hp) (by simp),I.ax.kept hk,?_⟩
 ·rcases al x c e1 with a1|⟨_,a1⟩ <;> rcases al y c e2 with a2|⟨_,a2⟩
  ·exact name_of_addr m8.apart (Ay a1) (Ay a2)
  ·exact absurd (old y c a2) (Ds.mpr (CJ (own x c a1).2.1))
  ·exact absurd (old x c a1) (Ds.mpr (CJ (own y c a2).2.1))
  ·exact I.ok.inj x y c a1 a2
 ·have hx':(BK scope X.env).names.lookup x=some .cell\/(BK scope X.env).names.lookup x=some .free:=hx
  have fr:(x,zE)∈scope.names\/(x,AV)∈scope.names:=by
   rcases hx' with q|q
   ·obtain⟨k0,_,h2,h3⟩:=pC (scope:=scope) q
    rcases h3 with rfl|⟨rfl,_⟩
    ·exact .inl h2
    ·exact .inr h2
   ·obtain⟨k0,_,h2,h3⟩:=pC (scope:=scope) q
    rcases h3 with rfl|⟨_,z⟩
    ·exact .inr h2
    ·cases z
  rcases fr with fr|fr
  ·obtain⟨c,hc⟩:=zgT x fr
   show ∃ c,(iH s.heap.objs.size scope++fM X.env.cells scope.names []).lookup x=some c
   exact tf (Bm _ (Ay hc))
  ·obtain⟨c,hc⟩:=I.ok.has x (.inl (S.cell _ fr rfl))
   obtain⟨d,hd⟩:=tf (rY (names:=scope.names) (acc:=[]) hc fr)
   exact zge hd
 ·have hx:(x,zE)∈scope.names:=by
   have e1':scope.names.contains (x,zE)=true:=e1
   simpa using e1'
  rcases al x c e2 with a1|⟨a1,_⟩
  ·exact CJ (own x c a1).2.1
  ·obtain⟨d,hd⟩:=zgT x hx
   rw [a1] at hd
   cases hd
 ·rcases al x c e with a1|⟨_,a1⟩
  ·exact B3 (zc (vX b hb) (CJ (own x c a1).2.1))
  ·exact(hf b hb).2.2.2.2.1 x c a1
 ·rcases (hf b hb).2.2.2.1 with z|z
  ·exact I.ok.nA b o e z
  ·exact absurd (yo (I.ok.bs b o e).1) (Ds.mpr z)
 ·rcases yr.mp (I.pH b hz) with z|z
  ·exact(hf b hb).2.1 z
  ·exact(hf b hb).2.2.1 z
 ·-- a name that is drawn in
  have hi:L.length<=i:=by
   by_cases hi:i<L.length
   ·unfold eT at h2
    rw [zt (by simpa using hi),z9,if_pos hi] at h2
    cases h2
   ·omega
  unfold eT at h2
  rw [z8 (by simpa using hi),Bx,yO] at h2
  have h1':(L++gy X ix)[i]?=some x:=h1
  rw [z8 hi] at h1'
  unfold gy at h1'
  rw [yO] at h1'
  cases ej:ix[i-L.length]? with
  | none=>rw [ej] at h1';cases h1'
  | some j =>
   rw [ej] at h1' h2
   have hj:j<X.N.length:=hix j (zg ej)
   have e1:X.N[j]?=some x:=by
    have:X.N.getD j ""=x:=yN h1'
    rw [<- this]
    simp [Dr,hj]
   have e2:σ[j]?=some (some v):=by
    have z:(σ[j]?).getD none=some v:=yN h2
    cases q:σ[j]? with
    | none=>rw [q] at z;cases z
    | some o=>rw [q] at z;exact congrArg some z
   have hx:x∈gy X ix:=by
    unfold gy
    refine zM.mpr ⟨j,zg ej,?_⟩
    exact yN h1'
   have h3':(BK scope X.env).names.lookup x=some .local\/(BK scope X.env).names.lookup x=some .cell\/(BK scope X.env).names.lookup x=some .free:=h3
   have fr:(x,AV)∈scope.names:=by
    rcases h3' with q|q|q
    ·obtain⟨k0,g1,g2,g3⟩:=pC (scope:=scope) q
     rcases g3 with rfl|⟨_,z⟩
     ·exact absurd g1 (S.qh x hx).1
     ·cases z
    ·obtain⟨k0,_,g2,g3⟩:=pC (scope:=scope) q
     rcases g3 with rfl|⟨rfl,_⟩
     ·exact absurd g2 (S.qh x hx).2
     ·exact g2
    ·obtain⟨k0,_,g2,g3⟩:=pC (scope:=scope) q
     rcases g3 with rfl|⟨_,z⟩
     ·exact g2
     ·cases z
   have hc:X.env.kindOf x=some .cell:=S.cell _ fr rfl
   obtain⟨m,_,hl⟩:=I.loc
   obtain⟨u,ru,lk⟩:=hl j x v e1 e2 (.inr (.inl hc))
   refine⟨u,ru,?_⟩
   rcases lk with⟨z,_⟩|⟨_,c,ec,ic⟩
   ·rw [hc] at z;cases z
   ·have k3:(BK scope X.env).names.lookup x=some .cell\/(BK scope X.env).names.lookup x=some .free:=by
     rcases h3' with q|q|q
     ·obtain⟨k0,g1,g2,g3⟩:=pC (scope:=scope) q
      rcases g3 with rfl|⟨_,z⟩
      ·exact absurd g1 (S.qh x hx).1
      ·cases z
     ·exact .inl q
     ·exact .inr q
    obtain⟨c',qp⟩:=tf (rY (names:=scope.names) (acc:=[]) ec fr)
    have e3:=cl x c' qp
    rw [ec] at e3
    cases e3
    obtain⟨oc,g1,g2⟩:=ic
    have no:(iH s.heap.objs.size scope).lookup x=none:=zgg fun p hp z=>(S.qh x hx).2 (by rw [<- z];exact vq _ _ _ hp)
    exact .inr ⟨k3,c,(zgf no).trans qp,oc,hk _ _ g1,g2⟩
 ·rcases al x c e with a1|⟨_,a1⟩
  ·exact⟨none,(own x c a1).1⟩
  ·obtain⟨v,oc,g1,g2⟩:=I.cell x c a1
   exact⟨v,oc,hk _ _ g1,g2⟩
 ·rcases al x c e with a1|⟨_,a1⟩
  ·exact I.ax.fresh (CJ (own x c a1).2.1)
  ·exact I.fO x c a1
 ·show(eT L.length ix σ).length=(L++gy X ix).length
  unfold eT gy
  simp
end
theorem zpG
  (hQ:∀ h',h'.Ns s.heap.objs.size (fun _=>none)->(∀ b u,s.heap.get? b=some u->h'.get? b=some u)->CellsOk h' (s.heap.objs.size+1) (iH s.heap.objs.size scope) ->
   Q { scope:=scope,locals:=s.heap.objs.size,globals:=globals,cells:=iH s.heap.objs.size scope++cl,qual:=qual,func:=none,code:=outer.code,frame:=outer.frame,builtins:=outer.builtins } { s with heap:=h' }) :
  xS M A (newFunctionEnv scope globals cl [] qual none .none (some outer)) Q E s:=by
 simp only [newFunctionEnv,Fp,if_true]
 refine lb (wpAny_alloc ?_)
 refine lb (wpAny_layCells _ (fun name kind cells=>by cases hkc:kind==zE <;> simp [hkc]) _ _ _ _ ?_)
 have ok:=cellsFrom_ok scope.names (s.heap.push { cls:=.type "dict",data:=.dict #[] }) (s.heap.objs.size+1) [] ⟨fun _ _ hm=>(nomatch hm),Fe⟩ (by rw [Bf];exact x9 _)
 rw [Bf] at ok
 rw [show({ s with heap:=s.heap.push { cls:=.type "dict",data:=.dict #[] } }:ir).heap.objs.size=s.heap.objs.size+1 from Bf ..,ot]
 refine lb ?_
 rw [List.forIn_nil]
 refine xX (xX ?_)
 exact hQ _ (zpW _ (Heap.Ns.new ..)) (fun b u e=>pushCells_keeps _ _ _ _ (yh _ e)) ok
section
theorem zqP(hc:X.calm=true)(S:zdv X scope (gy X ix))(hix:∀ i∈ix,i<X.N.length)(hi:PI X tg iter wi)
  (hg:∀ C s₃ H₃ fp,PG (g8 X (L++gy X ix) scope C s₃ H₃ fp) tg g)(iz:zad L.length g)
  (ht:∀ C s₃ H₃ fp,jS (g8 X (L++gy X ix) scope C s₃ H₃ fp) ifs tc)(he:∀ C s₃ H₃ fp,PE (g8 X (L++gy X ix) scope C s₃ H₃ fp) elt te)
  (hs:∀ x,AO iter X.env x=pure x:=by intro _;rfl) :
  PE X (.ListComp elt [⟨tg,iter,ifs,0⟩] scope pos) (zdj L.length ix wi g tc te):=by
 intro pins s σ H Q I h
 rw [eval_ListComp]
 refine wpAny_comprehension_free (use:=none) rfl hs (zjV fun y hy e=>I.ok.has y.1 (.inl (S.cell y hy e))) S.kind S.loc (aN (hi pins s σ H _ I h) fun xv s1 h1=>aN h1 fun itv s2 h2=>?_)
 obtain⟨it,fp,tn,J,H2,rfl,I2,T,du,f2,q⟩:=h2
 have nD:H2 s2.heap.objs.size=none:=I2.ax.fresh (x9 _)
 obtain⟨W,⟨m0,w0⟩,turn⟩:=q _ nD
 generalize hD:s2.heap.objs.size=D at nD w0 turn
 have fD:∀ b∈fp,b<D:=fun b hb=>by
  obtain⟨o,e,_⟩:=T.obj _ _ du b hb
  rw [<- hD]
  exact yo e
 have I3:Inv X pins σ (upd H2 D (.lst [])) { s2 with heap:=s2.heap.push { cls:=.type "list",data:=.seq ([]:List gV).toArray },toks:=s2.toks }:=by
  rw [<- hD]
  exact I2.laid (t':=s2.toks) (fun b u e=>yh _ e) (x9 _) ⟨by simp,[],0,.nil,yY _ rfl⟩
 refine Ah (zpG (fun h₁ zcf zcj zbO=>?_)) (by show 0<=yb;exact zr _)
 rw [hD]
 have pF:tn 0 (s2.heap.push { cls:=.type "list",data:=.seq ([]:List gV).toArray }):=T.keep _ _ _ du fun b hb o e=>yh _ e
 generalize hp3:s2.heap.push { cls:=.type "list",data:=.seq ([]:List gV).toArray }=h3 at I3 pF zcf zcj zbO
 dsimp only at zcf zcj zbO ⊢
 have sz3:h3.objs.size=D+1:=by rw [<- hp3,Bf,hD]
 have old:∀ b u,h3.get? b=some u->h₁.get? b=some u:=fun b u e=>zcj b u e
 have f3:∀ b∈fp,gH X pins (upd H2 D (.lst [])) b:=fun b hb=>⟨by rw [aT (yI (fD b hb))];exact(f2 b hb).1,(f2 b hb).2⟩
 have I4:=zmA (L:=L) (ix:=ix) (t':=s2.toks) S I3 f3 (fun b hb=>by show b<h3.objs.size;rw [sz3];exact El (fD b hb)) hix (h':=h₁) zcf old zbO
 have xA:tn 0 h₁:=T.keep _ _ _ pF fun b hb o e=>old b o e
 generalize hC:(g8 X (L++gy X ix) scope h3.objs.size { s2 with heap:=h3,toks:=s2.toks } (upd H2 D (.lst [])) fp)=Y at I4
 have zaZ:Y.env=compEnvC scope (iH h3.objs.size scope++fM X.env.cells scope.names []) h3.objs.size X.env:=by rw [<- hC];rfl
 have hcY:Y.calm=true:=by rw [<- hC];exact hc
 have xQ:Y.xe=fun _ _=>False:=by rw [<- hC];rfl
 have eP:Y.prog=X.prog:=by rw [<- hC];rfl
 have eW:Y.w=X.w:=by rw [<- hC];rfl
 have eK:Y.K=X.K:=by rw [<- hC];rfl
 have eA:Y.A=X.A:=by rw [<- hC];rfl
 have gY:PG Y tg g:=by rw [<- hC];exact hg _ _ _ _
 have tY:jS Y ifs tc:=by rw [<- hC];exact ht _ _ _ _
 have pY:PE Y elt te:=by rw [<- hC];exact he _ _ _ _
 have stat:∀{H':Hp},(∀ b∈fp,H' b=none)->∀ b∈fp,gH Y [] H' b:=fun{H'} hn b hb=>by
  have z1:b∈Y.ex:=by rw [<- hC];exact hb
  have zp:Y.pn=[]:=by rw [<- hC];rfl
  refine⟨hn b hb,(I4.ok.oC b z1).1,I4.ok.mY b z1,.inl z1,(I4.ok.oC b z1).2,fun p hp=>?_⟩
  rw [zp] at hp
  exact absurd hp (by simp)
 have fin:∀{H':Hp} {s':ir},Inv Y [] (eT L.length ix σ) H' s'->Q (.ref D) H'->compPost (xT X.prog X.w) X.A X.xe none (EP X pins σ Q) (.ref D) h3.objs.size (.ok .next) s':=by
  intro H' s' J' qe
  obtain⟨m,hm,_⟩:=J'.loc
  rw [zaZ] at hm
  refine⟨m,hm,fun h' sb=>⟨.ref D,H',?_,rfl,qe⟩⟩
  have gu:H' h3.objs.size=none:=by
   have:=J'.free
   rw [zaZ] at this
   exact this
  have oW:∀ b u,H' b=some u->b≠h3.objs.size:=fun b u e z=>by rw [z,gu] at e;cases e
  have base:Un (dN X.stack) fp (upd H2 D (.lst [])) H' h3 s'.heap:=by
   have:=J'.base
   rw [<- hC] at this
   exact this
  have to':∀ b o,b≠h3.objs.size->s'.heap.get? b=some o->h'.get? b=some o:=fun b o hb e=>sb.extBut b o hb e
  have lt3:∀ b o,h3.get? b=some o->b≠h3.objs.size:=fun b o e=>yI (yo e)
  have un:Un (dN X.stack) fp (upd H2 D (.lst [])) H' h3 h' :=
   ⟨fun b o e n hb hx=>to' b o (lt3 b o e) (base.keep b o e n hb hx),
    fun b o e n hb hx=>by
    obtain⟨sl,z⟩:=base.slot b o e n hb hx
    exact⟨sl,to' _ _ (lt3 b o e) z⟩,
    base.free,
    fun b o e hx=>by
    obtain⟨o',z⟩:=base.there b o e hx
    exact⟨o',to' _ _ (lt3 b o e) z⟩,
    base.fY,base.gq,base.gF⟩
  have ax:bY X.prog X.w H' h':=fun b u e=>by
   have z:=J'.ax b u e
   rw [eP,eW] at z
   refine z.hV (fun c v hcv qv=>to' c v ?_ qv) (fun _ qq=>qq) fun _ _ qq=>qq
   rcases hcv with zz|zz
   ·rw [zz];exact oW b u e
   ·exact oW c _ zz
  refine I3.zaM (s':={ s' with heap:=h' }) (ch:=fp) ?_ un ax J'.bare fun b hb=>?_
  ·have:=J'.os
   rw [<- hC] at this
   exact this
  ·obtain⟨_,g1,g2,g3,g4,g5⟩:=f2 b hb
   exact⟨g3,g1,g4,g5⟩
 have key:∀ s5:ir,s5={ s2 with heap:=h₁,toks:=s2.toks } ->
   Aw (xT X.prog X.w) X.A (.compLoop (.ListComp elt [⟨tg,iter,ifs,0⟩] scope pos) 0 (.ref it) (.ref D) (compEnvC scope (iH h3.objs.size scope++fM X.env.cells scope.names []) h3.objs.size X.env))
    (compPost (xT X.prog X.w) X.A X.xe none (EP X pins σ Q) (.ref D) h3.objs.size) s5:=by
  rintro s5 rfl
  rw [<- zaZ,<- eP,<- eW,<- eA]
  refine zjZ (fun n s'=>∃ i ys H',Inv Y [] (eT L.length ix σ) H' s'/\tn i s'.heap/\(∀ b∈fp,H' b=none)/\W i n ys H') ?_ m0 ⟨0,[],_,?_,xA,fun b hb=>(f3 b hb).1,w0⟩
  ·rintro n s6 ⟨i,ys,H6,I6,uB,fr6,w6⟩
   obtain⟨hl6,alt⟩:=turn i n ys H6 w6
   rcases alt with⟨stop,qe⟩|⟨go,step⟩
   ·have Td:=T.done Y eP eW eK hcY i [] s6 _ H6 (fun _ _=>False) I6 (stat fr6) uB stop
    rw [<- eP,<- eW] at Td
    refine yA Td (fun r s7 hr7=>?_) fun _ _ f=>f.elim
    obtain⟨hr,I7⟩:=hr7
    subst hr
    rw [eP,eW,eA]
    exact fin I7 qe
   ·have Ti:=T.item Y eP eW eK hcY i [] s6 _ H6 (fun _ _=>False) I6 (stat fr6) uB go
    rw [<- eP,<- eW] at Ti
    refine yA Ti (fun r s7 hr7=>?_) fun _ _ f=>f.elim
    obtain⟨u,hr,h7⟩:=hr7
    subst hr
    refine yA h7 (fun _ s8 hr8=>?_) fun _ _ f=>f.elim
    obtain⟨x,H8,I8,r8,y8,st8,fr8⟩:=hr8
    have I8':=I8.pinned (stat fr8) (T.obj _ _ st8)
    have stp:=iz _ _ _ _ (step x H8 y8)
    refine yA (gY _ s8 _ H8 x u _ I8' r8 stp) (fun _ s9 ⟨σ9,H9,I9,⟨k1,k2⟩,q9⟩=>?_) fun _ _ f=>by rw [xQ] at f;exact f.elim
    have weak:∀{Hz:Hp} {sz:ir},Inv Y ([]++tX fp s8.heap) σ9 Hz sz->Inv Y [] (eT L.length ix σ) Hz sz/\tn (i+1) sz.heap/\∀ b∈fp,Hz b=none:=fun{Hz sz} Iz=>by
     refine⟨Iz.xM.weak k1.symm fun j v e=>?_,T.keep _ _ _ st8 fun b hb o e=>(Iz.pin (b,o) (zZ _ (zZ _ (wD hb e)))).1,fun b hb=>?_⟩
     ·by_cases hj:L.length<=j
      ·rw [k2 j hj];exact e
      ·unfold eT at e
       rw [zt (by simpa using Nat.lt_of_not_le hj),z9,if_pos (Nat.lt_of_not_le hj)] at e
       cases e
     ·obtain⟨o,e,d⟩:=T.obj _ _ st8 b hb
      exact(Iz.pin (b,o) (zZ _ (zZ _ (wD hb e)))).2.1
    refine yA (tY _ s9 σ9 H9 _ I9 q9) (fun ok qZ ⟨H10,I10,q10⟩=>?_) fun _ _ f=>by rw [xQ] at f;exact f.elim
    cases ok with
    | false =>
     have q10':∃ m',m'<n/\W (i+1) m' ys H10:=q10
     obtain⟨m',sS,w10⟩:=q10'
     obtain⟨z1,z2,z3⟩:=weak I10
     exact⟨m',sS,i+1,ys,H10,z1,z2,z3,w10⟩
    | true =>
     refine yA (pY _ qZ σ9 H10 _ I10 q10) (fun xv xk ⟨v,H11,I11,r11,zmk,zmp,m',sS,w11⟩=>?_) fun _ _ f=>by rw [xQ] at f;exact f.elim
     refine yA (zgu (X:=Y) _ xk σ9 H11 (.ref D) [v] (.ref D) [xv] (fun _ Hq=>Hq=upd H11 D (.lst (ys++[v]))) I11 rfl (.cons r11 .nil) ⟨D,ys,v,rfl,rfl,zmk,zmp,rfl⟩) (fun _ xl ⟨_,H12,I12,_,r9⟩=>?_) fun _ _ f=>by rw [xQ] at f;exact f.elim
     subst r9
     obtain⟨z1,z2,z3⟩:=weak I12
     exact⟨m',sS,i+1,ys++[v],_,z1,z2,z3,w11⟩
  ·exact I4
 exact codeAny_compStart_list (key _ rfl) (T.self _ 0 _ _ _ xA (key _ rfl))
end
end
variable {Q:gV->ir->Prop}
section
noncomputable def vz(sc scope:yT)(N:List ib)(ix:List Nat):Bool :=
 (scope.names.all fun y=>(y.2 != .free||sc.names.lookup y.1==some .cell)&&(y.2 != .local||scope.names.lookup y.1==some .local)&&(y.2 != .free||!(scope.names.contains (y.1,zE)))) &&
 ((ix.map fun i=>N.getD i "").all fun x=>scope.names.lookup x != some .local&&!(scope.names.contains (x,zE)))&&ix.all (fun i=>decide (i<N.length))
section
theorem zqQ(L:List ib)(ix:List Nat)(M:List ib)(hc:X.calm=true)(hk:scope.kind=.function)
  (hd:vz X.env.scope scope X.N ix=true)(hM:M=L++ix.map fun i=>X.N.getD i "") (hi:PI X tg iter wi)
  (hg:∀ C s₃ H₃ fp,PG (g8 X M scope C s₃ H₃ fp) tg g) (iz:zad L.length g)
  (ht:∀ C s₃ H₃ fp,jS (g8 X M scope C s₃ H₃ fp) ifs tc) (he:∀ C s₃ H₃ fp,PE (g8 X M scope C s₃ H₃ fp) elt te)
  (hs:∀ x,AO iter X.env x=pure x:=by intro _;rfl) :
  PE X (.ListComp elt [⟨tg,iter,ifs,0⟩] scope pos) (zdj L.length ix wi g tc te):=by
 unfold vz at hd
 simp only [yw,An,bne_iff_ne,ne_eq,Dt,beq_iff_eq,decide_eq_true_eq,Dl,List.contains_eq_mem,decide_eq_false_iff_not] at hd
 obtain⟨⟨d1,d2⟩,d3⟩:=hd
 have eM:M=L++gy X ix:=by rw [hM];unfold gy;rfl
 subst eM
 refine zqP (L:=L) (ix:=ix) hc ⟨hk,fun y hy e=>?_,fun y hy e=>?_,fun x hx=>?_,fun y hy e=>?_⟩ d3 hi hg iz ht he hs
 ·rcases (d1 y hy).1.1 with z|z
  ·exact absurd e z
  ·exact z
 ·rcases (d1 y hy).1.2 with z|z
  ·exact absurd e z
  ·exact z
 ·unfold gy at hx
  exact d2 x hx
 ·rcases (d1 y hy).2 with z|z
  ·exact absurd e z
  ·exact z
end
end
section
end
section
end
section
end
variable {κ:Type}{xs:List (List Key×dm×gV)}{ah:List (List Key×V)}{ob:HO}{k:Key}{ks:List Key}{o:Option V}
section
section
variable [DecidableEq κ]
noncomputable def jN(ah:List (κ×V))(k:κ):Option V:=(ah.find? fun kv=>decide (kv.1=k)).map (·.2)
noncomputable def putK(ah:List (κ×V))(k:κ)(v:V):List (κ×V) :=
 if(ah.any fun kv=>decide (kv.1=k))=true then ah.map (fun kv=>if kv.1=k then(kv.1,v) else kv) else ah++[(k,v)]
theorem zdp{p:κ×V}{r:List (κ×V)}{k:κ}(e:p.1=k):jN (p::r) k=some p.2:=by simp [jN,Bh,e]
theorem zdo{p:κ×V}{r:List (κ×V)}{k:κ}(e:¬ p.1=k):jN (p::r) k=jN r k:=by simp [jN,Bh,e]
theorem zif(k:κ):∀ ah:List (κ×V),(ah.any fun kv=>decide (kv.1=k))=(jN ah k).isSome
 | []=>rfl
 | p::r=>by
  rw [Em]
  by_cases e:p.1=k
  ·simp only [zdp e,decide_eq_true e,Bool.true_or,Fp]
  ·rw [zdo e,decide_eq_false e,Bool.false_or];exact zif k r
theorem zo9(ah:List (κ×V))(k:κ)(v:V):(putK ah k v).length<=ah.length+1:=by
 unfold putK
 split
 ·rw [yn];omega
 ·rw [zH,yg,yB];omega
theorem iq.zfM{u:Option gV}(r:iq o u):o.isSome=u.isSome:=by
 cases o with
 | none=>cases u with
  | none=>rfl
  | some _=>exact(show False from r).elim
 | some _=>cases u with
  | none=>exact(show False from r).elim
  | some _=>rfl
end
theorem zm1(r:RelV (kV k) u):(jG P w).is k u=true:=by
 cases k with
 | inl i=>obtain⟨t,e⟩:=(show ∃ t,u=A8 i t from r);subst e;exact zpy P w i t
 | inr x=>obtain⟨t,e⟩:=(show ∃ t,u=BQ x t from r);subst e;exact zpz P w x t
theorem zfP{P:x6}{w:x5}:∀{ks:List Key} {us:List gV},Vals (ks.map kV) us->ItemsAre (jG P w) ks us
 | [],_,r=>by rw [zR] at r;cases r;exact .nil
 | k::ks,_,r=>by
  rw [yi] at r
  cases r with
  | cons h t=>exact .cons (zm1 h) (zfP t)
abbrev KT(H:Hp):List (List Key×V)->List (List Key×dm×gV)->Prop:=Ap fun p q=>p.1=q.1/\dU H q.2.1 (p.1.map kV)/\RelV p.2 q.2.2
theorem KT.val(r:KT H ah xs)(k:List Key):iq (jN ah k) ((AX xs k).map (·.2)):=by
 induction r with
 | nil=>exact Be
 | @cons p q ps qs h t ih =>
  obtain⟨h1,_,h2⟩:=h
  by_cases e:p.1=k
  ·have e':q.1=k:=h1.symm.trans e
   have b:AX (q::qs) k=some q.2:=by simp [AX,Bh,e']
   rw [zdp e,b];exact h2
  ·have e':¬ q.1=k:=fun z=>e (h1.trans z)
   have b:AX (q::qs) k=AX qs k:=by simp [AX,Bh,e']
   rw [zdo e,b];exact ih
theorem KT.ztm(r:KT H ah xs)(k:List Key)(ry:RelV y u) :
  KT H (ah.map fun kv=>if kv.1=k then(kv.1,y) else kv) (xs.map (putAt k u)):=by
 induction r with
 | nil=>exact .nil
 | @cons p q ps qs h t ih =>
  rw [yi,yi]
  refine .cons ?_ ih
  obtain⟨h1,h2,h3⟩:=h
  unfold putAt
  by_cases e:p.1=k
  ·rw [if_pos e,if_pos (h1.symm.trans e)];exact⟨h1,h2,ry⟩
  ·rw [if_neg e,if_neg (fun z=>e (h1.trans z))];exact⟨h1,h2,h3⟩
theorem KT.put(r:KT H ah xs)(k:List Key)(hb:dU H b (k.map kV))(ry:RelV y u) :
  KT H (putK ah k y) (storedH xs k b u):=by
 have e:(ah.any fun kv=>decide (kv.1=k))=(AX xs k).isSome:=by
  rw [zif,(r.val k).zfM,Fq]
 unfold putK storedH
 rw [e]
 by_cases q:(AX xs k).isSome=true
 ·rw [if_pos q,if_pos q];exact r.ztm k ry
 ·rw [if_neg q,if_neg q];exact Paired.snoc r ⟨rfl,hb,ry⟩
theorem KT.keeps(r:KT H ah xs)(ht:∀ b ys,dU H b ys->dU H' b ys):KT H' ah xs :=
 Ap.zcx r fun _ _ z=>⟨z.1,ht _ _ z.2.1,z.2.2⟩
section
theorem ztg{u:HO}(ok:bY P w H h)(e:Rd H a u):ck P w H h a u:=e.ok ok
theorem wy(ok:bY P w H h)(e:dU H a (ks.map kV)):(Cr (jG P w)).is h ks a:=by
 obtain⟨_,its,r,o,h1,h2,n,h3⟩:=(show ck P w H h a (.tup (ks.map kV)) from Rd.ok e ok)
 exact⟨o,its.toArray,n,h1,h2,h3,by simpa using zfP r⟩
theorem r6(ok:bY P w H h)(e:Rd H a (.dT ah)):ah.length<=yb/\(a==AI)=false /\
  ∃ xs,KT H ah xs/\h.DictOfH (Cr (jG P w)) a xs:=by
 obtain⟨z,y,xs,r,o,es,ep,h1,h2,h3,h4,h5⟩:=(show ck P w H h a (.dT ah) from ztg ok e)
 refine⟨z,y,xs,r,o,es,ep,h1,h2,h3,h4,fun x hx=>?_,h5⟩
 have all:∀{l:List (List Key×V)} {m:List (List Key×dm×gV)},KT H l m->∀ x∈m,(Cr (jG P w)).is h x.1 x.2.1:=by
  intro l m q
  induction q with
  | nil=>intro x hx;exact nomatch hx
  | @cons p q ps qs hq t ih =>
   intro x hx
   rcases yr.mp hx with e|hx
   ·subst e
    exact wy ok (by rw [<- hq.1];exact hq.2.1)
   ·exact ih x hx
 exact all r x hx
theorem zkK(ok:bY P w H h)(e:H a=some (.dT ah)):ah.length<=yb/\(a==AI)=false /\
  ∃ xs,KT H ah xs/\h.DictOfH (Cr (jG P w)) a xs:=r6 ok (.inl e)
end
def uJ(H:Hp)(a:dm)(y:V)(r:Option V):Prop :=
 ∃ ah k b,Rd H a (.dT ah)/\y=.ref b/\dU H b (k.map kV)/\r=jN ah k
def zdw(H:Hp)(a:dm)(y v:V)(H':Hp):Prop :=
 ∃ ah k b,H a=some (.dT ah)/\y=.ref b/\dU H b (k.map kV)/\ah.length<yb/\H'=upd H a (.dT (putK ah k v))
section
variable {v:V}{r:gV}
theorem Inv.big(I:Inv X pins σ H s):AI<s.heap.objs.size:=by
 have h:yc<s.heap.objs.size:=(I.mod.glob.keeps I.bk).lt
 exact Nat.lt_trans (by decide) h
theorem zki(hu:A.units+1<yW)(I:Inv X pins σ H s)(g:uJ H a y (some v))(ry:RelV y u)(h:∀ w' s',Inv X pins σ H s'->RelV v w'->Q w' s') :
  xS (xT X.prog X.w) A (AU (.ref a) u) Q E s:=by
 obtain⟨ah,k,b,e,ey,eb,l⟩:=g
 subst ey
 cases (show u=yt b from ry)
 obtain⟨z,hd,xs,rel,dd⟩:=r6 I.ax e
 obtain⟨w',hw,hU⟩:=iq.some_of (v:=v) (o:=(AX xs k).map (·.2)) (by rw [l];exact rel.val k)
 obtain⟨p,hp,hp2⟩:=Ac.mp hw
 refine wpAny_getItem_heap (Eo hu) (wy I.ax eb) dd hp ?_
 rw [hp2]
 exact h w' _ (I.tok _) hU
theorem zkj(hu:A.units+1<yW)(I:Inv X pins σ H s)(g:uJ H a y o)(ry:RelV y u)(h:∀ s',Inv X pins σ H s'->Q (.bool o.isSome) s') :
  xS (xT X.prog X.w) A (yj .In u (.ref a)) Q E s:=by
 obtain⟨ah,k,b,e,ey,eb,l⟩:=g
 subst ey
 cases (show u=yt b from ry)
 obtain⟨z,hd,xs,rel,dd⟩:=r6 I.ax e
 refine wpAny_in_heap (Eo hu) (wy I.ax eb) hd dd ?_
 have q:=(rel.val k).zfM
 rw [Fq] at q
 rw [<- q,<- l]
 exact h _ (I.tok _)
theorem zkr(I:Inv X pins σ H s)(mu:rG (H a))(hs:Ct a s.heap h')(he:∃ q,h'.get? a=some q)(new:ck X.prog X.w (upd H a ob) h' a ob) :
  Inv X pins σ (upd H a ob) { s with heap:=h',toks:=t' } :=
 I.write (x:=a) (e:=a) mu (.inl rfl) (fun b q hb z=>(hs.2 b hb).trans z) he new
theorem zkq{Q:Unit->ir->Prop}(hu:A.units+1<yW)(I:Inv X pins σ H s)(g:zdw H a y v H')(ry:RelV y u)(rv:RelV v r)(h:∀ s',Inv X pins σ H' s'->Q () s') :
  xS (xT X.prog X.w) A (setItem (.ref a) u r) Q E s:=by
 obtain⟨ah,k,b,e,ey,eb,l,eH⟩:=g
 subst ey eH
 cases (show u=yt b from ry)
 obtain⟨z,hd,xs,rel,dd⟩:=zkK I.ax e
 have hz:xs.length<=yb:=by rw [<- CY rel];exact z
 have hl:(putK ah k v).length<=yb:=by have:=zo9 ah k v;omega
 refine wpAny_setItem_heap (hsz:=hz) (Eo hu) (wy I.ax eb) dd fun h' dd' hs=>h _ ?_
 obtain⟨q,es,ep,hq,h2,h3,h4,_,h5⟩:=dd'
 refine zkr I (by rw [e];exact Be) hs ⟨q,hq⟩ ⟨hl,hd,_,(rel.put k eb rv).keeps fun c ys ec=>?_,q,es,ep,hq,h2,h3,h4,h5⟩
 exact ec.upd (fun _ z=>zgG z e (fun z=>nomatch z)) fun _ _ z=>zgG z e (fun z=>nomatch z)
end
theorem zkC(I:Inv X pins σ H s)(g:uJ H a y o):s.TypeIs (.ref a) "dict":=by
 obtain⟨ah,k,b,e,_,_,_⟩:=g
 obtain⟨_,_,xs,_,dd⟩:=r6 I.ax e
 exact dd.typeIs
theorem zkJ(h:xV)(hb:AI<h.objs.size):ck P w H (h.push { cls:=.type "dict",data:=.dict #[] }) h.objs.size (.dT []) :=
 ⟨zr _,beq_eq_false_iff_ne.mpr (yU (yI hb)),[],.nil,_,#[],0,yY _ rfl,⟨rfl,rfl,rfl⟩,rfl,rfl,List.nodup_nil⟩
noncomputable def zt4:TE:=fun _ H Q=>∀ p,H p=none->Q (.ref p) (upd H p (.dT []))
section
theorem zqR:PE X (.Dict [] [] pos) zt4:=fun pins s σ H Q I h =>
 wpAny_Dict_empty ⟨.ref s.heap.objs.size,_,I.laid (a:=s.heap.objs.size) (o:=.dT []) (t':=s.toks) (fun _ _ q=>yh _ q) (x9 _) (zkJ s.heap I.big),rfl,h _ (I.ax.fresh (x9 _))⟩
end
def uO(H:Hp)(a:dm):Prop:=∃ ah,Rd H a (.dT ah)
end
section
end
section
end
section
end
section
end
section
end
section
theorem zig:∀{xs:List V} {us:List gV},xs.length=us.length->(∀(j:Nat) x u,xs[j]?=some x->us[j]?=some u->RelV x u)->Vals xs us
 | [],[],_,_=>.nil
 | x::xs,u::us,l,h=>.cons (h 0 x u rfl rfl) (zig (by simpa using l) fun j y v e1 e2=>h (j+1) y v (by simpa using e1) (by simpa using e2))
end
end L2
namespace Q1
section
noncomputable def fr(t b:Int):Int×Int:=if b<0 then(t / -(zl t b:Int),b / -(zl t b:Int)) else(t / (zl t b:Int),b / (zl t b:Int))
structure Low(p q:Int):Prop where
 pos:0<q
 cop:zl p q=1
theorem zfu{t b:Int}(h:0<b):fr t b=(t / (zl t b:Int),b / (zl t b:Int)):=by
 unfold fr
 rw [if_neg (by omega)]
end
section
end
end Q1
namespace QR
open Q1
variable {d:Nat}{t:Int}
theorem low(r:Rat):Low r.num r.den:=⟨by have:=r.den_nz;omega,by
 have:=r.reduced
 unfold Nat.Coprime at this
 show CK r.num.natAbs (r.den:Int).natAbs=1
 simpa using this⟩
theorem zlT(t:Int)(d:Nat):(zl t (d:Int))=CK t.natAbs d:=by
 show CK t.natAbs (d:Int).natAbs=_
 simp
theorem norm(h:d≠0):fr t (d:Int)=((Du t d h).num,((Du t d h).den:Int)):=by
 rw [zfu (by omega),Rat.normalize_eq,zlT]
 simp
def Bd(n:Nat)(r:Rat):Prop:=r.num.natAbs<2^n/\r.den<2^n
theorem zlF(t b:Int):(fr t b).1.natAbs<=t.natAbs/\(fr t b).2.natAbs<=b.natAbs:=by
 unfold fr
 split
 ·exact⟨Dv _ _,Dv _ _⟩
 ·exact⟨Dv _ _,Dv _ _⟩
noncomputable def part(xs ys:List Rat):Nat->Rat
 | 0=>0
 | i+1=>part xs ys i+xs.getD i 0*ys.getD i 0
end QR
namespace KC
open PySem L2 PySem.Spec PyProof.Rows
section
namespace Bt
theorem isinstance:yJ "isinstance"=some (.builtin "isinstance"):=by decide +kernel
end Bt
noncomputable def isInt:yk->Bool
 | .int _ | .bool _=>true|_=>false
noncomputable def cJ(T c:String):Option Bool:=if(BR T==BR c)=true then some true else if PySem.W.kitMeta c=true then(fastBuiltinMro T).map (·.contains (.type c)) else none
section
variable {K:kb}{H H':Hp}
def Num(K:kb)(H:Hp)(v:V)(r:Rat):Prop:=∃ a,v=.ref a/\eB K H a [.int r.num,.int (r.den:Int)]
noncomputable def zdB(K:kb)(H:Hp):List V->List Rat->Prop
 | [],[]=>True
 | v::vs,r::rs=>Num K H v r/\zdB K H vs rs
 | _,_=>False
def Row(K:kb)(H:Hp)(a:dm)(rs:List Rat):Prop:=∃ vs,H a=some (.lst vs)/\zdB K H vs rs
end
end
section
end
section
end
end KC
namespace FL
variable {a b i:Nat}{c:Bool}{α β:Type}
theorem zz0  {a:α} {l:List α}:(a::l)[0]?=some a:=rfl
theorem zz1  {a:α} {l:List α} :(a::l)[i + 1]?=l[i]?:=rfl
open PySem
abbrev D:=yk
inductive R(α:Type) where
 | bad
 | err(c:String)(fs:List D)
 | ok(a:α)
noncomputable def R.bind{α β:Type}(r:R α)(k:α->R β):R β:=match r with
 | .bad=>.bad
 | .err c f=>.err c f
 | .ok a=>k a
theorem av(a:α)(k:α->R β):(R.ok a).bind k=k a:=rfl
theorem lr(k:α->R β):(R.bad:R α).bind k=.bad:=rfl
theorem lu(c:String)(f:List D)(k:α->R β):(R.err c f:R α).bind k=.err c f:=rfl
noncomputable def bc{α:Type}(c:Bool)(r:R α):R α:=if c=true then r else .bad
theorem eD{r:R α}(h:c=true):bc c r=r:=if_pos h
inductive Sl where
 | no
 | val(d:D)
 | ow(p:Bool)(d:D)
 /-- a thing of an own class,which stays: its class,its fields -/
 | ob (c:String) (ds:List D)
abbrev En:=List Sl
inductive Fl where
 | nx|bk|ct
 | rt(d:D)
 | rf(d:D)
abbrev EF:=En->R (D×En)
abbrev TF:=En->R (Bool×En)
abbrev AF:=En->R (List D×En)
abbrev SF:=En->R (Fl×En)
abbrev GF:=D->En->R En
noncomputable def zdn:D->String
 | .none=>"NoneType" | .bool _=>"bool" | .int _=>"int" | .str _=>"str" | .list _=>"list" | .tuple _=>"tuple" | .dict _=>"dict"
noncomputable def cA(T:String)(d:D):Bool:=match d with
 | .bool _=>T == "bool" || T == "int"
 | d=>zdn d==T
noncomputable def lim:Nat:=1000000
noncomputable def intsOf:List D->Option (List Int)
 | []=>some []
 | .int i::r=>(intsOf r).map (i::·)
 | _::_=>none
noncomputable def boolsOf:List D->Option (List Bool)
 | []=>some []
 | .bool i::r=>(boolsOf r).map (i::·)
 | _::_=>none
noncomputable def R.of{α:Type}:Option α->R α
 | none=>.bad
 | some a=>.ok a
noncomputable def leB(a b:Nat):Bool:=Nat.ble a b
theorem leB_iff:leB a b=true↔a<=b:=Iff.of_eq Nat.ble_eq
theorem i7(h:a<=b):leB a b=true:=leB_iff.mpr h
theorem lY(h:leB a b=true):a<=b:=leB_iff.mp h
noncomputable def tH(i j:Int):Bool:=leB (i.natAbs.log2+j.natAbs.log2+2) 134217728
noncomputable def ay:D->D->R D
 | .int i,.int j=>.ok (.int (i+j))
 | .list a,.list b=>bc (leB (a.length+b.length) lim) (.ok (.list (a++b)))
 | .tuple a,.tuple b=>bc (leB (a.length+b.length) lim) (.ok (.tuple (a++b)))
 | _,_=>.bad
noncomputable def cv:D->D->R D
 | .int i,.int j=>.ok (.int (i-j))
 | _,_=>.bad
noncomputable def dQ:D->D->R D
 | .int i,.int j=>bc (tH i j) (.ok (.int (i*j)))
 | .tuple a,.int k=>bc (!a.isEmpty&&leB 2 k.toNat&&leB k.toNat 1000000&&leB (a.length*k.toNat) lim) (.ok (.tuple (xY k.toNat a).flatten))
 | _,_=>.bad
noncomputable def iY:D->D->R D
 | .int i,.int j=>bc (decide (j≠0)) (.ok (.int (i.fdiv j)))
 | _,_=>.bad
noncomputable def fP:D->D->R D
 | .int i,.int j=>bc (decide (j≠0)) (.ok (.int (i.fmod j)))
 | _,_=>.bad
noncomputable def c9:D->D->R D
 | .int i,.int j=>bc (decide (0<=j)&&leB j.toNat 1000000&&leB i.natAbs 18446744073709551615) (.ok (.int (i^j.toNat)))
 | _,_=>.bad
noncomputable def mw:D->R D
 | .int i=>.ok (.int (-i))
 | _=>.bad
noncomputable def bD(a b:D):R D:=bc (zK a&&zK b) (.ok (.bool (Am a b)))
noncomputable def dn(a b:D):R D:=bc (zK a&&zK b) (.ok (.bool (!Am a b)))
noncomputable def lexLt:List Int->List Int->Bool
 | [],[]=>false
 | [],_::_=>true
 | _::_,[]=>false
 | x::xs,y::ys=>if x=y then lexLt xs ys else decide (x<y)
noncomputable def zeK(p:Int->Int->Bool)(q:List Int->List Int->Bool):D->D->R D
 | .int i,.int j=>.ok (.bool (p i j))
 | .tuple a,.tuple b=>(R.of (intsOf a)).bind fun x=>(R.of (intsOf b)).bind fun y=>.ok (.bool (q x y))
 | _,_=>.bad
noncomputable def fc:D->D->R D:=zeK (fun i j=>decide (i<j)) lexLt
noncomputable def vy(p:Int->Int->Bool):D->D->R D
 | .int i,.int j=>.ok (.bool (p i j))
 | _,_=>.bad
noncomputable def i9:D->D->R D:=vy fun i j=>decide (i<=j)
noncomputable def lK:D->D->R D:=vy fun i j=>decide (j<i)
noncomputable def qt:D->D->R D:=vy fun i j=>decide (j<=i)
noncomputable def e7(n:Nat)(i:Int):Option Nat:=if 0<=i then(if i<n then some i.toNat else none) else if -(n:Int)<=i then some (i+n).toNat else none
noncomputable def dJ{α:Type}(xs:List α)(i:Int):Option α:=(e7 xs.length i).bind fun j=>xs[j]?
noncomputable def aB:D->D->R D
 | .list a,.int i=>R.of (dJ a i)
 | .tuple a,.int i=>R.of (dJ a i)
 | _,_=>.bad
noncomputable def aY(n d:Nat):Option Int->Nat
 | none=>d
 | some v=>if v<0 then(v+(n:Int)).toNat else min v.toNat n
noncomputable def cut{α:Type}(xs:List α)(lo hi:Option Int):List α:=(xs.drop (aY xs.length 0 lo)).take (aY xs.length xs.length hi-aY xs.length 0 lo)
noncomputable def iL(d:D)(lo hi:Option Int):R D:=match d with
 | .list a=>.ok (.list (cut a lo hi))
 | .tuple a=>.ok (.tuple (cut a lo hi))
 | _=>.bad
noncomputable def dR:D->R Bool
 | .none=>.ok false
 | .bool b=>.ok b
 | .int i=>.ok (i != 0)
 | .list a=>.ok (!a.isEmpty)
 | .tuple a=>.ok (!a.isEmpty)
 | _=>.bad
noncomputable def bR:D->R D
 | .list a=>.ok (.int a.length)
 | .tuple a=>.ok (.int a.length)
 | _=>.bad
noncomputable def jq:D->R D
 | .int i=>.ok (.int (if i<0 then -i else i))
 | _=>.bad
noncomputable def zh0:D->R D
 | .list a=>(R.of (intsOf a)).bind fun x=>.ok (.int x.sum)
 | _=>.bad
noncomputable def pZ:D->R D
 | .list a=>(R.of (boolsOf a)).bind fun x=>.ok (.bool (x.all id))
 | _=>.bad
noncomputable def iG:D->R D
 | .list a=>.ok (.list a)
 | .tuple a=>.ok (.list a)
 | _=>.bad
noncomputable def ft:D->R D
 | .list a=>.ok (.tuple a)
 | .tuple a=>.ok (.tuple a)
 | _=>.bad
noncomputable def zic(d:D):Bool:=match d with
 | .dict _=>false
 | _=>true
noncomputable def fT(T:String)(d:D):R D:=bc (zic d) (.ok (.bool (cA T d)))
noncomputable def one(g:D->R D):List D->R D
 | [d]=>g d
 | _=>.bad
noncomputable def two(g:D->D->R D):List D->R D
 | [d,e]=>g d e
 | _=>.bad
noncomputable def i6:D->R (List D)
 | .list a=>.ok a
 | .tuple a=>.ok a
 | _=>.bad
noncomputable def fj(lo hi:Int):List D:=(zN (hi-lo).toNat).map fun(i:Nat)=>.int (lo+(i:Int))
noncomputable def mz(i:Int):Bool:=leB i.natAbs 1000000000
noncomputable def jK:List D->R (List D)
 | [.int j]=>bc (mz j&&leB j.toNat lim) (.ok (fj 0 j))
 | _=>.bad
noncomputable def kh:List D->R (List D)
 | [.int i,.int j]=>bc (mz i&&mz j&&leB (j-i).toNat lim) (.ok (fj i j))
 | _=>.bad
noncomputable def eC(d:D):EF:=fun ρ=>.ok (d,ρ)
noncomputable def eV(i:Nat):EF:=fun ρ=>match ρ[i]? with
 | some (.val d)=>.ok (d,ρ)
 | _=>.bad
noncomputable def e1(g:D->R D)(f:EF):EF:=fun ρ=>(f ρ).bind fun x=>(g x.1).bind fun d=>.ok (d,x.2)
noncomputable def e2(g:D->D->R D)(f h:EF):EF:=fun ρ=>(f ρ).bind fun x=>(h x.2).bind fun y=>(g x.1 y.1).bind fun d=>.ok (d,y.2)
noncomputable def dF(f h:EF):EF:=fun ρ=>(f ρ).bind fun x=>match x.1 with
 | .bool true=>h x.2
 | .bool false=>.ok (.bool false,x.2)
 | _=>.bad
noncomputable def lG(f h:EF):EF:=fun ρ=>(f ρ).bind fun x=>match x.1 with
 | .bool true=>.ok (.bool true,x.2)
 | .bool false=>h x.2
 | _=>.bad
noncomputable def iX(f:EF):EF:=fun ρ=>(f ρ).bind fun x=>match x.1 with
 | .bool b=>.ok (.bool (!b),x.2)
 | _=>.bad
noncomputable def lF(t:TF)(f h:EF):EF:=fun ρ=>(t ρ).bind fun c=>if c.1=true then f c.2 else h c.2
noncomputable def fG(g h:D->D->R D)(f1 f2 f3:EF):EF:=fun ρ=>(f1 ρ).bind fun x=>(f2 x.2).bind fun y=>(g x.1 y.1).bind fun c=>match c with
 | .bool true=>(f3 y.2).bind fun z=>(h y.1 z.1).bind fun d=>.ok (d,z.2)
 | .bool false=>.ok (.bool false,y.2)
 | _=>.bad
noncomputable def ae:AF:=fun ρ=>.ok ([],ρ)
noncomputable def aa(f:EF)(a:AF):AF:=fun ρ=>(f ρ).bind fun x=>(a x.2).bind fun y=>.ok (x.1::y.1,y.2)
noncomputable def aE(a:AF):EF:=fun ρ=>(a ρ).bind fun x=>bc (leB x.1.length lim) (.ok (.tuple x.1,x.2))
noncomputable def aV(a:AF):EF:=fun ρ=>(a ρ).bind fun x=>bc (leB x.1.length lim) (.ok (.list x.1,x.2))
noncomputable def aP(G:List D->R D)(a:AF):EF:=fun ρ=>(a ρ).bind fun x=>(G x.1).bind fun d=>.ok (d,x.2)
abbrev OF:=En->R (Option Int×En)
noncomputable def cZ:OF:=fun ρ=>.ok (none,ρ)
noncomputable def c7(f:EF):OF:=fun ρ=>(f ρ).bind fun x=>match x.1 with
 | .int i=>.ok (some i,x.2)
 | _=>.bad
noncomputable def cS(f:EF)(lo hi:OF):EF:=fun ρ=>(f ρ).bind fun x=>(lo x.2).bind fun l=>(hi l.2).bind fun u=>(iL x.1 l.1 u.1).bind fun d=>.ok (d,u.2)
noncomputable def bt(ρ:En)(i:Nat):R D:=match ρ[i]? with
 | some (.ow _ d)=>.ok d
 | _=>.bad
noncomputable def e8(ρ:En)(i:Nat):R (List D):=match ρ[i]? with
 | some (.ow _ (.list a))=>.ok a
 | _=>.bad
noncomputable def m1(g:D->R D)(i:Nat):EF:=fun ρ=>(bt ρ i).bind fun c=>(g c).bind fun d=>.ok (d,ρ)
noncomputable def m2(g:D->D->R D)(i:Nat)(h:EF):EF:=fun ρ=>(bt ρ i).bind fun _=>(h ρ).bind fun y=>(bt y.2 i).bind fun c=>(g c y.1).bind fun d=>.ok (d,y.2)
noncomputable def fV(g:D->D->R D)(f:EF)(i:Nat):EF:=fun ρ=>(f ρ).bind fun x=>(bt x.2 i).bind fun c=>(g x.1 c).bind fun d=>.ok (d,x.2)
noncomputable def lZ(g:D->D->R D)(i j:Nat):EF:=fun ρ=>(bt ρ i).bind fun c=>(bt ρ j).bind fun e=>(g c e).bind fun d=>.ok (d,ρ)
noncomputable def mj(i:Nat)(lo hi:OF):EF:=fun ρ=>(bt ρ i).bind fun _=>(lo ρ).bind fun l=>(hi l.2).bind fun u=>(bt u.2 i).bind fun c=>(iL c l.1 u.1).bind fun d=>.ok (d,u.2)
noncomputable def mh(g:D->D->R D)(i:Nat)(h:EF):EF:=fun ρ=>(bt ρ i).bind fun _=>(h ρ).bind fun y=>(bt y.2 i).bind fun c=>(g (.list [c]) y.1).bind fun d=>.ok (d,y.2)
inductive Ar where
 | v(f:EF)
 | m(i:Nat)
 | t(f:EF)
inductive Itm where
 | vd(d:D)
 | mi(i:Nat)
 | td(d:D)
noncomputable def gf:List Ar->En->R (List Itm×En)
 | [],ρ=>.ok ([],ρ)
 | .v f::r,ρ=>(f ρ).bind fun x=>(gf r x.2).bind fun y=>.ok (.vd x.1::y.1,y.2)
 | .m i::r,ρ=>(bt ρ i).bind fun _=>(gf r ρ).bind fun y=>.ok (.mi i::y.1,y.2)
 | .t f::r,ρ=>(f ρ).bind fun x=>(gf r x.2).bind fun y=>.ok (.td x.1::y.1,y.2)
noncomputable def fE(ρ:En):List Itm->R (List D)
 | []=>.ok []
 | .vd d::r=>(fE ρ r).bind fun ds=>.ok (d::ds)
 | .mi i::r=>(bt ρ i).bind fun d=>(fE ρ r).bind fun ds=>.ok (d::ds)
 | .td d::r=>(fE ρ r).bind fun ds=>.ok (d::ds)
noncomputable def de(ρ:En)(i:Nat)(d:D):En:=match ρ[i]? with
 | some (.ow p _)=>ρ.set i (.ow p d)
 | _=>ρ
noncomputable def dW:List Itm->List D->List (Nat×Sl)
 | .mi i::r,d::ds=>(i,.ow true d)::dW r ds
 | .vd _::r,_::ds=>dW r ds
 | .td _::r,_::ds=>dW r ds
 | _,_=>[]
noncomputable def bP(m:List (Nat×Sl))(i:Nat)(x:Sl):Sl:=match x,m.lookup i with
 | .ow p _,some (.ow _ d)=>.ow p d
 | x,_=>x
noncomputable def bQ(m:List (Nat×Sl)):Nat->En->En
 | _,[]=>[]
 | n,x::r=>bP m n x::bQ m (n+1) r
noncomputable def gI(ρ:En)(a:List Itm)(os:List D):En:=bQ (dW a os) 0 ρ
noncomputable def aA(F:List D->R (D×List D))(a:List Ar):EF:=fun ρ=>(gf a ρ).bind fun x=>(fE x.2 x.1).bind fun ds=>(F ds).bind fun y=>.ok (y.1,gI x.2 x.1 y.2)
noncomputable def tE(f:EF):TF:=fun ρ=>(f ρ).bind fun x=>(dR x.1).bind fun b=>.ok (b,x.2)
noncomputable def tB(f:EF):TF:=fun ρ=>(f ρ).bind fun x=>match x.1 with
 | .bool b=>.ok (b,x.2)
 | _=>.bad
noncomputable def fL(t u:TF):TF:=fun ρ=>(t ρ).bind fun c=>if c.1=true then u c.2 else .ok (false,c.2)
noncomputable def bI(t u:TF):TF:=fun ρ=>(t ρ).bind fun c=>if c.1=true then .ok (true,c.2) else u c.2
noncomputable def bu(t:TF):TF:=fun ρ=>(t ρ).bind fun c=>.ok (!c.1,c.2)
noncomputable def tM(i:Nat):TF:=fun ρ=>(bt ρ i).bind fun c=>(dR c).bind fun b=>.ok (b,ρ)
noncomputable def fq:TF:=fun ρ=>.ok (true,ρ)
abbrev IF:=En->R (List D×En)
noncomputable def iE(f:EF):IF:=fun ρ=>(f ρ).bind fun x=>(i6 x.1).bind fun l=>.ok (l,x.2)
noncomputable def fS(a:AF):IF:=fun ρ=>(a ρ).bind fun x=>(jK x.1).bind fun l=>.ok (l,x.2)
noncomputable def jC(a:AF):IF:=fun ρ=>(a ρ).bind fun x=>(kh x.1).bind fun l=>.ok (l,x.2)
noncomputable def dY:Nat->List D->List D
 | _,[]=>[]
 | n,d::r=>.tuple [.int n,d]::dY (n+1) r
noncomputable def gN(i:Nat):GF:=fun d ρ=>match ρ[i]? with
 | some (.ow true _)=>.bad
 | some _=>.ok (ρ.set i (.val d))
 | none=>.bad
noncomputable def gB:List GF->List D->En->R En
 | [],[],ρ=>.ok ρ
 | g::r,d::ds,ρ=>(g d ρ).bind fun ρ1=>gB r ds ρ1
 | _,_,_=>.bad
noncomputable def gT(gs:List GF):GF:=fun d ρ=>match d with
 | .tuple ds=>gB gs ds ρ
 | _=>.bad
noncomputable def cq(k:Nat)(ix:List Nat)(ρ:En):En:=xY k .no++ix.map fun i=>(ρ[i]?).getD .no
noncomputable def back(ρ:En)(ix:List Nat)(cs:En):En:=bQ (ix.zip cs) 0 ρ
noncomputable def fF(k:Nat)(ix:List Nat)(g:GF)(t:TF)(f:EF):List D->En->List D->R (List D×En)
 | [],ρ,acc=>.ok (acc,ρ)
 | x::xs,ρ,acc=>(g x (cq k ix ρ)).bind fun β=>(t β).bind fun c =>
   if c.1=true then(f c.2).bind fun y=>bc (leB (acc.length+1) lim) (fF k ix g t f xs (back ρ ix (y.2.drop k)) (acc++[y.1]))
   else fF k ix g t f xs (back ρ ix (c.2.drop k)) acc
noncomputable def fN(k:Nat)(ix:List Nat)(it:IF)(g:GF)(t:TF)(f:EF):EF:=fun ρ=>(it ρ).bind fun x=>(fF k ix g t f x.1 x.2 []).bind fun y=>.ok (.list y.1,y.2)
noncomputable def aS:SF:=fun ρ=>.ok (.nx,ρ)
noncomputable def aq(s t:SF):SF:=fun ρ=>(s ρ).bind fun x=>match x.1 with
 | .nx=>t x.2
 | _=>.ok x
noncomputable def sE(f:EF):SF:=fun ρ=>(f ρ).bind fun x=>.ok (.nx,x.2)
noncomputable def aH(g:GF)(f:EF):SF:=fun ρ=>(f ρ).bind fun x=>(g x.1 x.2).bind fun ρ1=>.ok (.nx,ρ1)
noncomputable def dZ(i:Nat)(f:EF):SF:=fun ρ=>(f ρ).bind fun x=>match x.2[i]? with
 | some (.ow true _)=>.bad
 | some _=>.ok (.nx,x.2.set i (.ow false x.1))
 | none=>.bad
noncomputable def mE(i:Nat)(s:SF):SF:=fun ρ=>(s ρ).bind fun x=>match x.1 with
 | .nx=>(match x.2[i]? with
  | some (.ow false d)=>.ok (.nx,x.2.set i (.val d))
  | _=>.bad)
 | _=>.ok x
noncomputable def eN(i j:Nat)(f h:EF):SF:=fun ρ=>(f ρ).bind fun x=>(h x.2).bind fun y=>(gN i x.1 y.2).bind fun ρ1=>(gN j y.1 ρ1).bind fun ρ2=>.ok (.nx,ρ2)
noncomputable def lH(f n:EF):EF:=fun ρ=>(f ρ).bind fun x=>(n x.2).bind fun y=>match y.1 with
 | .int k=>bc (decide (0<=k)&&leB k.toNat 1000000) (.ok (.list (xY k.toNat x.1),y.2))
 | _=>.bad
noncomputable def iJ(i:Nat)(s:SF):SF:=fun ρ=>match ρ[i]? with
 | some (.ow false d)=>s (ρ.set i (.val d))
 | _=>.bad
noncomputable def aG(f:EF):SF:=fun ρ=>(f ρ).bind fun x=>.ok (.rt x.1,x.2)
noncomputable def gE(f:EF):SF:=fun ρ=>(f ρ).bind fun x=>.ok (.rf x.1,x.2)
noncomputable def jh(i:Nat):SF:=fun ρ=>match ρ[i]? with
 | some (.ow false d)=>.ok (.rf d,ρ)
 | _=>.bad
noncomputable def mD:SF:=fun ρ=>.ok (.rt .none,ρ)
noncomputable def aQ(t:TF)(a b:SF):SF:=fun ρ=>(t ρ).bind fun c=>if c.1=true then a c.2 else b c.2
noncomputable def dG:SF:=fun _=>.bad
noncomputable def mB:SF:=fun ρ=>.ok (.bk,ρ)
noncomputable def mC:SF:=fun ρ=>.ok (.ct,ρ)
noncomputable def forL(g:GF)(b:SF):List D->En->R (Fl×En)
 | [],ρ=>.ok (.nx,ρ)
 | x::xs,ρ=>(g x ρ).bind fun ρ1=>(b ρ1).bind fun y=>match y.1 with
  | .nx | .ct=>forL g b xs y.2
  | .bk=>.ok (.nx,y.2)
  | .rt d=>.ok (.rt d,y.2)
  | .rf d=>.ok (.rf d,y.2)
noncomputable def dH(it:IF)(g:GF)(b:SF):SF:=fun ρ=>(it ρ).bind fun x=>forL g b x.1 x.2
noncomputable def pJ(t:TF)(b:SF):Nat->En->R (Fl×En)
 | 0,_=>.bad
 | n+1,ρ=>(t ρ).bind fun c=>if c.1=true then(b c.2).bind fun y=>match y.1 with
   | .nx | .ct=>pJ t b n y.2
   | .bk=>.ok (.nx,y.2)
   | .rt d=>.ok (.rt d,y.2)
   | .rf d=>.ok (.rf d,y.2)
  else .ok (.nx,c.2)
noncomputable def pD(fuel:En->Nat)(t:TF)(b:SF):SF:=fun ρ=>pJ t b (fuel ρ) ρ
noncomputable def jk(i:Nat)(u:List D->D->R (List D))(f:EF):SF:=fun ρ=>(e8 ρ i).bind fun _=>(f ρ).bind fun x=>(e8 x.2 i).bind fun c=>(u c x.1).bind fun c'=>.ok (.nx,de x.2 i (.list c'))
noncomputable def iW(a:List D)(d:D):R (List D):=bc (leB (a.length+1) lim) (.ok (a++[d]))
noncomputable def mI(i:Nat)(u:List D->R (List D)):SF:=fun ρ=>(e8 ρ i).bind fun c=>(u c).bind fun c'=>.ok (.nx,de ρ i (.list c'))
noncomputable def setM(i:Nat)(f k:EF):SF:=fun ρ=>(f ρ).bind fun x=>(e8 x.2 i).bind fun _=>(k x.2).bind fun y=>(e8 y.2 i).bind fun c=>match y.1 with
 | .int j=>(R.of (e7 c.length j)).bind fun n=>.ok (.nx,de y.2 i (.list (c.set n x.1)))
 | _=>.bad
noncomputable def slots:List Bool->List D->En
 | m::ms,d::ds=>(if m=true then .ow true d else .val d)::slots ms ds
 | _,_=>[]
noncomputable def outD(m:Bool)(d:D)(x:Option Sl):D:=match m,x with
 | true,some (.ow _ d')=>d'
 | _,_=>d
noncomputable def outs:List Bool->List D->En->List D
 | m::ms,d::ds,ρ=>outD m d ρ.head?::outs ms ds ρ.tail
 | _,_,_=>[]
noncomputable def run(ms:List Bool)(fr:Bool)(n:Nat)(b:SF)(ds:List D):R (D×List D) :=
 if ds.length=ms.length then(b (slots ms ds++xY (n-ds.length) .no)).bind fun x=>match x.1,fr with
  | .rt d,false=>.ok (d,outs ms ds x.2)
  | .rf d,true=>.ok (d,outs ms ds x.2)
  | .nx,false=>.ok (.none,outs ms ds x.2)
  | _,_=>.bad
 else .bad
noncomputable def bG(fr:Bool)(k n:Nat)(b:SF)(ds:List D):R D:=(run (xY k false) fr n b ds).bind fun x=>.ok x.1
end FL
namespace FL
open PySem L2 PySem.Spec
open PyProof.Rows hiding St
variable {H H' H1:Hp}{xs:List V}{v:V}{d:yk}{env:ye}{σ:St}{i:Nat}{a:dm}{ρ:En}{pos:xW}{o:HO}{es:List o1}
section
class Cs where
 C:Hp
 st:∀ a u,C a=some u->∃ o xs,u=.frz o (.tup xs)
 /-- the own classes: where each stands,its fields' names -/
 O:String->Option (dm×List ib):=fun _=>none
 /-- the own error classes -/
 X:String->Option (dm×List ib):=fun _=>none
def nW(K:kb)(H:Hp)(a:dm)(xs:List V):Prop:=(∃ o,H a=some (.frz o (.lst xs))) \/
 ∃(o:xU) (its:Array gV) (n:Nat),K.lookup a=some o/\o.cls=.type "list"/\o.dict=none/\o.data=.seq its n/\its.size<=yb/\Vals xs its.toList
noncomputable def kD:Key->yk
 | .inl i=>.int i
 | .inr x=>.str x
noncomputable def lX(k:List Key):yk:=.tuple (k.map kD)
mutual
def Fz(K:kb)(H:Hp):yk->V->Prop
 | .none,v=>v=.non
 | .bool b,v=>v=.bl b
 | .int i,v=>v=.int i
 | .str x,v=>v=.str x
 | .list xs,v=>∃ a vs,v=.ref a/\nW K H a vs/\aj K H xs vs
 | .tuple xs,v=>∃ a vs,v=.ref a/\dU H a vs/\aj K H xs vs
 | .dict ah,v=>∃ a o,v=.ref a/\∃ kk,H a=some (.frz o (.dT kk))/\bq K H ah kk
def aj(K:kb)(H:Hp):List yk->List V->Prop
 | [],vs=>vs=[]
 | d::ds,vs=>∃ v r,vs=v::r/\Fz K H d v/\aj K H ds r
def bq(K:kb)(H:Hp):List (yk×yk)->List (List Key×V)->Prop
 | [],kk=>kk=[]
 | (k,d)::r,kk=>∃ q v t,kk=(q,v)::t/\k=lX q/\Fz K H d v/\bq K H r t
end
noncomputable def uU:HO->Prop
 | .tup _=>True
 | .frz _ _=>True
 | .ins _ _ _=>True
 | .ext _=>True
 | .xd _=>True
 | _=>False
def aC(H H':Hp):Prop:=∀ a o,H a=some o->uU o->H' a=some o
theorem aC.refl(H:Hp):aC H H:=fun _ _ h _=>h
theorem aC.trans{H2:Hp}(a:aC H H1)(b:aC H1 H2):aC H H2:=fun c o h s=>b c o (a c o h s) s
theorem aC.of(s:aM H H'):aC H H':=fun a o h _=>s a o h
section
variable {K:kb}
theorem aC.xn(e:aC H H')(h:dU H a xs):dU H' a xs:=by
 rcases h with h|⟨o,h⟩
 ·exact .inl (e _ _ h trivial)
 ·exact .inr ⟨o,e _ _ h trivial⟩
theorem aC.nN(e:aC H H')(h:nW K H a xs):nW K H' a xs:=by
 rcases h with⟨o,h⟩|h
 ·exact .inl ⟨o,e _ _ h trivial⟩
 ·exact .inr h
theorem nW.sq(h:nW K H a xs):bV K H a xs:=by
 rcases h with⟨o,h⟩|h
 ·exact .inl (.inr ⟨o,h⟩)
 ·exact .inr h
mutual
theorem Fz.mono(e:aC H H'):∀(d:yk) (v:V),Fz K H d v->Fz K H' d v
 | .none,v,h=>by simp only [Fz] at h ⊢;exact h
 | .bool b,v,h=>by simp only [Fz] at h ⊢;exact h
 | .int i,v,h=>by simp only [Fz] at h ⊢;exact h
 | .str x,v,h=>by simp only [Fz] at h ⊢;exact h
 | .list xs,v,h=>by
  simp only [Fz] at h ⊢
  obtain⟨a,vs,e1,h1,h2⟩:=h
  exact⟨a,vs,e1,e.nN h1,aj.mono e xs vs h2⟩
 | .tuple xs,v,h=>by
  simp only [Fz] at h ⊢
  obtain⟨a,vs,e1,h1,h2⟩:=h
  exact⟨a,vs,e1,e.xn h1,aj.mono e xs vs h2⟩
 | .dict ah,v,h=>by
  simp only [Fz] at h ⊢
  obtain⟨a,o,e1,h⟩:=h
  obtain⟨kk,h1,h2⟩:=h
  exact⟨a,o,e1,⟨kk,e _ _ h1 trivial,bq.mono e ah kk h2⟩⟩
theorem aj.mono(e:aC H H'):∀(ds:List yk) (vs:List V),aj K H ds vs->aj K H' ds vs
 | [],vs,h=>by simp only [aj] at h ⊢;exact h
 | d::ds,vs,h=>by
  simp only [aj] at h ⊢
  obtain⟨v,r,e1,h1,h2⟩:=h
  exact⟨v,r,e1,Fz.mono e d v h1,aj.mono e ds r h2⟩
theorem bq.mono(e:aC H H'):∀(ah:List (yk×yk)) (kk:List (List Key×V)),bq K H ah kk->bq K H' ah kk
 | [],kk,h=>by simp only [bq] at h ⊢;exact h
 | (k,d)::r,kk,h=>by
  simp only [bq] at h ⊢
  obtain⟨q,v,t,e1,e2,h1,h2⟩:=h
  exact⟨q,v,t,e1,e2,Fz.mono e d v h1,bq.mono e r t h2⟩
end
theorem aj.len:∀{ds:List yk} {vs:List V},aj K H ds vs->vs.length=ds.length
 | [],vs,h=>by simp only [aj] at h;subst h;rfl
 | d::ds,vs,h=>by
  simp only [aj] at h
  obtain⟨v,r,rfl,_,h2⟩:=h
  simp [aj.len h2]
theorem aj.get:∀{ds:List yk} {vs:List V} {i:Nat} {d:yk},aj K H ds vs->ds[i]?=some d->∃ v,vs[i]?=some v/\Fz K H d v
 | [],vs,i,d,h,e=>by simp at e
 | d0::ds,vs,i,d,h,e=>by
  simp only [aj] at h
  obtain⟨v,r,rfl,h1,h2⟩:=h
  cases i with
  | zero=>simp at e;subst e;exact⟨v,by simp,h1⟩
  | succ i =>
   obtain⟨w,e1,f⟩:=aj.get h2 (by simpa using e)
   exact⟨w,by simpa using e1,f⟩
theorem aj.app:∀{ds es:List yk} {vs ws:List V},aj K H ds vs->aj K H es ws->aj K H (ds++es) (vs++ws)
 | [],es,vs,ws,h,g=>by simp only [aj] at h;subst h;exact g
 | d::ds,es,vs,ws,h,g=>by
  simp only [aj] at h
  obtain⟨v,r,rfl,h1,h2⟩:=h
  simp only [yX,aj]
  exact⟨v,r++ws,rfl,h1,aj.app h2 g⟩
theorem aj.take:∀{ds:List yk} {vs:List V} (n:Nat),aj K H ds vs->aj K H (ds.take n) (vs.take n)
 | ds,vs,0,h=>by simp [aj]
 | [],vs,n+1,h=>by simp only [aj] at h;subst h;simp [aj]
 | d::ds,vs,n+1,h=>by
  simp only [aj] at h
  obtain⟨v,r,rfl,h1,h2⟩:=h
  simp only [List.take_succ_cons,aj]
  exact⟨v,_,rfl,h1,aj.take n h2⟩
theorem aj.drop:∀{ds:List yk} {vs:List V} (n:Nat),aj K H ds vs->aj K H (ds.drop n) (vs.drop n)
 | ds,vs,0,h=>by simpa using h
 | [],vs,n+1,h=>by simp only [aj] at h;subst h;simp [aj]
 | d::ds,vs,n+1,h=>by
  simp only [aj] at h
  obtain⟨v,r,rfl,h1,h2⟩:=h
  simpa using aj.drop n h2
theorem aj.set:∀{ds:List yk} {vs:List V} {d:yk} {v:V} (n:Nat),aj K H ds vs->Fz K H d v->aj K H (ds.set n d) (vs.set n v)
 | [],vs,d,v,n,h,f=>by simp only [aj] at h;subst h;simp [aj]
 | d0::ds,vs,d,v,n,h,f=>by
  simp only [aj] at h
  obtain⟨v0,r,rfl,h1,h2⟩:=h
  cases n with
  | zero=>simp only [zm,aj];exact⟨v,r,rfl,f,h2⟩
  | succ n=>simp only [zi,aj];exact⟨v0,_,rfl,h1,aj.set n h2 f⟩
theorem aj.rep{ds:List yk}{vs:List V}(h:aj K H ds vs):∀ k:Nat,aj K H (xY k ds).flatten (xY k vs).flatten
 | 0=>by simp [aj]
 | k+1=>by simp only [BD,CD];exact aj.app h (aj.rep h k)
theorem aj.ints:∀{ds:List yk} {vs:List V} {ns:List Int},aj K H ds vs->intsOf ds=some ns->vs=ns.map V.int/\ds=ns.map yy
 | [],vs,ns,h,e=>by simp only [aj] at h;simp only [intsOf,zF] at e;subst h;subst e;exact⟨rfl,rfl⟩
 | d::ds,vs,ns,h,e=>by
  simp only [aj] at h
  obtain⟨v,r,rfl,h1,h2⟩:=h
  cases d with
  | int i =>
   simp only [intsOf,Ac] at e
   obtain⟨ms,e1,rfl⟩:=e
   obtain⟨a,b⟩:=aj.ints h2 e1
   simp only [Fz] at h1
   subst h1;subst a;subst b
   exact⟨rfl,rfl⟩
  | _=>simp [intsOf] at e
theorem aj.bools:∀{ds:List yk} {vs:List V} {ns:List Bool},aj K H ds vs->boolsOf ds=some ns->vs=ns.map V.bl/\ds=ns.map zo
 | [],vs,ns,h,e=>by simp only [aj] at h;simp only [boolsOf,zF] at e;subst h;subst e;exact⟨rfl,rfl⟩
 | d::ds,vs,ns,h,e=>by
  simp only [aj] at h
  obtain⟨v,r,rfl,h1,h2⟩:=h
  cases d with
  | bool i =>
   simp only [boolsOf,Ac] at e
   obtain⟨ms,e1,rfl⟩:=e
   obtain⟨a,b⟩:=aj.bools h2 e1
   simp only [Fz] at h1
   subst h1;subst a;subst b
   exact⟨rfl,rfl⟩
  | _=>simp [boolsOf] at e
theorem aj.ofInts:∀(ns:List Int),aj K H (ns.map yy) (ns.map V.int)
 | []=>by simp [aj]
 | i::r=>by simp only [yi,aj];exact⟨_,_,rfl,by simp [Fz],aj.ofInts r⟩
end
noncomputable def cY(K:kb)(H:Hp)(a:dm):yk->Prop
 | .list ds=>∃ vs,H a=some (.lst vs)/\aj K H ds vs
 | .dict ah=>∃ kk,H a=some (.dT kk)/\bq K H ah kk
 | _=>False
noncomputable def Tp(K:kb)(H:Hp):yk->V->Prop
 | .list ds,v=>∃ a vs,v=.ref a/\bV K H a vs/\aj K H ds vs
 | .dict ah,v=>∃ a,v=.ref a/\∃ kk,Rd H a (.dT kk)/\bq K H ah kk
 | d,v=>Fz K H d v
section
variable {K:kb}
theorem Fz.tp(h:Fz K H d v):Tp K H d v:=by
 cases d with
 | list ds =>
  simp only [Fz] at h
  obtain⟨a,vs,e,h1,h2⟩:=h
  exact⟨a,vs,e,h1.sq,h2⟩
 | dict ah =>
  simp only [Fz] at h
  obtain⟨a,o,e,h⟩:=h
  obtain⟨kk,h1,h2⟩:=h
  exact⟨a,e,⟨kk,.inr ⟨o,h1⟩,h2⟩⟩
 | _=>exact h
theorem cY.tp(h:cY K H a d):Tp K H d (.ref a):=by
 cases d with
 | list ds =>
  obtain⟨vs,h1,h2⟩:=h
  exact⟨a,vs,rfl,bV.of h1,h2⟩
 | dict ah =>
  obtain⟨kk,h1,h2⟩:=h
  exact⟨a,rfl,⟨kk,.inl h1,h2⟩⟩
 | _=>exact h.elim
noncomputable def Own:HO->Prop
 | .lst _=>True
 | .dT _=>True
 | .dK _=>True
 | _=>False
theorem cY.own(h:cY K H a d):∃ o,H a=some o/\Own o:=by
 cases d with
 | list ds=>obtain⟨vs,h1,_⟩:=h;exact⟨_,h1,trivial⟩
 | dict ah =>
  obtain⟨kk,h1,h2⟩:=h
  exact⟨_,h1,trivial⟩
 | _=>exact h.elim
theorem Own.ja(h:Own o):¬ uU o:=by cases o <;> first|exact fun z=>z|exact h.elim
theorem cY.mono{d:yk}{a:dm}(e:aC H H')(k:H' a=H a)(h:cY K H a d):cY K H' a d:=by
 cases d with
 | list ds=>obtain⟨vs,h1,h2⟩:=h;exact⟨vs,by rw [k];exact h1,h2.mono e⟩
 | dict ah =>
  obtain⟨kk,h1,h2⟩:=h
  exact⟨kk,by rw [k];exact h1,h2.mono e⟩
 | _=>exact h.elim
end
def pS[Cs](K:kb)(H:Hp)(a:dm)(c:String)(ds:List D):Prop:=∃ C ns dx vs,Cs.O c=some (C,ns)/\H a=some (.ins C dx (ns.zip vs))/\vs.length=ns.length/\aj K H ds vs
noncomputable def ErD(H:Hp)(ns:List ib)(vs:List V):Option dm->Prop
 | none=>ns=[]
 | some dx=>H dx=some (.xd (ns.zip vs))
def rp[Cs](K:kb)(H:Hp)(c:String)(ds:List D)(C:dm)(dd:Option dm):Prop:=Cs.O c=none/\∃ ns vs,Cs.X c=some (C,ns)/\vs.length=ns.length/\ErD H ns vs dd/\aj K H ds vs
def pM[Cs](K:kb)(H:Hp)(a:dm)(c:String)(ds:List D):Prop:=∃ C dd,H a=some (iP a C dd)/\rp K H c ds C dd
noncomputable def iV[Cs](K:kb)(H:Hp):Sl->Option V->Prop
 | .no,_=>True
 | .val d,some v=>Fz K H d v
 | .ow _ d,some (.ref a)=>cY K H a d
 | .ob c ds,some (.ref a)=>pS K H a c ds\/pM K H a c ds
 | _,_=>False
def At(ρ:En)(σ:St)(i:Nat)(a:dm):Prop:=(∃ p d,ρ[i]?=some (.ow p d))/\σ[i]?=some (some (.ref a))
def h9[Cs](H:Hp):Prop:=∀ a u,Cs.C a=some u->H a=some u
theorem h9.mono[Cs](h:h9 H)(e:aC H H'):h9 H':=fun a u q=>e a u (h a u q) (by
 obtain⟨o,xs,rfl⟩:=Cs.st a u q
 trivial)
structure Rel[Cs](K:kb)(ρ:En)(σ:St)(H:Hp):Prop where
 len:ρ.length=σ.length
 ok:∀(i:Nat) x v,ρ[i]?=some x->σ[i]?=some v->iV K H x v
 sep:∀ i j a,At ρ σ i a->At ρ σ j a->i=j
 cst:h9 H
variable [Cs]
def MA(ρ:En)(σ:St)(a:dm):Prop:=∃ i,At ρ σ i a
structure bZ(ρ ρ':En)(σ:St)(H H':Hp):Prop where
 md:∀(i:Nat) p,(∃ d,ρ[i]?=some (.ow p d))↔∃ d,ρ'[i]?=some (.ow p d)
 kp:∀ a o,H a=some o->¬ MA ρ σ a->H' a=some o
section
variable {K:kb}{ρ' ρ'':En}{jR:Hp}
theorem Rel.zi8(r:Rel K ρ σ H)(h:At ρ σ i a):∃ p d,ρ[i]?=some (.ow p d)/\cY K H a d:=by
 obtain⟨⟨p,d,e⟩,e2⟩:=h
 exact⟨p,d,e,r.ok i _ _ e e2⟩
theorem Rel.fe(r:Rel K ρ σ H)(h:MA ρ σ a):∃ o,H a=some o/\Own o:=by
 obtain⟨i,h⟩:=h
 obtain⟨p,d,_,m⟩:=r.zi8 h
 exact m.own
theorem bZ.refl:bZ ρ ρ σ H H:=⟨fun _ _=>BL,fun _ _ h _=>h⟩
theorem bZ.ma(s:bZ ρ ρ' σ H H'):MA ρ σ a↔MA ρ' σ a:=by
 constructor
 ·rintro⟨i,⟨p,h⟩,e⟩;exact⟨i,⟨p,(s.md i p).mp h⟩,e⟩
 ·rintro⟨i,⟨p,h⟩,e⟩;exact⟨i,⟨p,(s.md i p).mpr h⟩,e⟩
theorem bZ.trans(a:bZ ρ ρ' σ H H')(b:bZ ρ' ρ'' σ H' jR):bZ ρ ρ'' σ H jR :=
 ⟨fun i p=>(a.md i p).trans (b.md i p),fun c o h n=>b.kp c o (a.kp c o h n) fun z=>n (a.ma.mpr z)⟩
theorem bZ.of(s:aM H H'):bZ ρ ρ σ H H':=⟨fun _ _=>BL,fun a o h _=>s a o h⟩
theorem bZ.dO(s:bZ ρ ρ' σ H H')(r:Rel K ρ σ H):aC H H':=fun a o h st=>s.kp a o h fun m=>by
 obtain⟨o',e,w⟩:=r.fe m
 rw [h] at e
 cases e
 exact w.ja st
theorem pS.mono{a:dm}{c:String}{ds:List D}(f:aC H H')(h:pS K H a c ds):pS K H' a c ds:=by
 obtain⟨C,ns,dx,vs,h1,h2,h3,h4⟩:=h
 exact⟨C,ns,dx,vs,h1,f _ _ h2 trivial,h3,h4.mono f⟩
theorem rp.mono{c:String}{ds:List D}{C:dm}{dd:Option dm}(f:aC H H')(h:rp K H c ds C dd):rp K H' c ds C dd:=by
 obtain⟨n,ns,vs,h1,h2,h3,h4⟩:=h
 refine⟨n,ns,vs,h1,h2,?_,h4.mono f⟩
 cases dd with
 | none=>exact h3
 | some dx=>exact f _ _ h3 trivial
theorem pM.mono{a:dm}{c:String}{ds:List D}(f:aC H H')(h:pM K H a c ds):pM K H' a c ds:=by
 obtain⟨C,dd,h1,h2⟩:=h
 exact⟨C,dd,f _ _ h1 trivial,h2.mono f⟩
theorem iV.mono{x:Sl}{v:Option V}(f:aC H H')(k:∀ a,v=some (.ref a)->(∃ p d,x=.ow p d)->H' a=H a)(h:iV K H x v):iV K H' x v:=by
 cases x with
 | no=>trivial
 | val d=>cases v with
  | none=>exact h.elim
  | some v=>exact Fz.mono f d v h
 | ow p d=>cases v with
  | none=>exact h.elim
  | some v=>cases v with
   | ref a=>exact cY.mono f (k a rfl ⟨p,d,rfl⟩) h
   | _=>exact h.elim
 | ob c ds=>cases v with
  | none=>exact h.elim
  | some v=>cases v with
   | ref a=>exact Or.imp (pS.mono f) (pM.mono f) h
   | _=>exact h.elim
theorem Rel.same(r:Rel K ρ σ H)(s:aM H H'):Rel K ρ σ H':=by
 refine⟨r.len,fun i x v e1 e2=>(r.ok i x v e1 e2).mono (aC.of s) fun a e3 ⟨p,d,e4⟩=>?_,r.sep,r.cst.mono (aC.of s)⟩
 subst e3;subst e4
 obtain⟨o,e,_⟩:=r.fe ⟨i,⟨p,d,e1⟩,e2⟩
 rw [e,s a o e]
theorem Rel.put(r:Rel K ρ σ H)(n:¬ MA ρ σ a)(ns:∀ u,H a=some u->¬ uU u):Rel K ρ σ (upd H a o):=by
 have f:aC H (upd H a o):=fun b u e st=>by
  rw [aT fun z=>by subst z;exact ns u e st]
  exact e
 refine⟨r.len,fun i x v e1 e2=>(r.ok i x v e1 e2).mono f fun b e3 ⟨p,d,e4⟩=>?_,r.sep,r.cst.mono f⟩
 subst e3;subst e4
 exact aT fun z=>n ⟨i,⟨p,d,e1⟩,z▸e2⟩
end
noncomputable def wN:o1->Bool
 | .Starred _ _=>false
 | _=>true
theorem se{a:o1}(h:wN a=true):pd (a::es) env=(false,xZ a env)::pd es env:=by
 cases a <;> first|rfl|cases h
theorem sp(h:es.all wN=true):(yp pos (pd es env)).any (·.1)=false:=by
 induction es with
 | nil=>rfl
 | cons a es ih =>
  rw [Dg,yw] at h
  rw [se h.1]
  exact ih h.2
end
variable {G:List D->R D}{T:String}{s:ir}{Q:VK}{f h:EF}{t te:TE}{d:D}{pins:List (dm×xU)}{b e:o1}{p p2:xW}{w:gV}{r:List V->Hp->VK->Prop}{β:Type}{σ:L2.St}{gP op:zx}{x:ib}{i:Int}{ρ1:En}{t':TT}{u:HO}{X:Cx}{S:Bool->Hp->Prop}{g g':D->D->R D}{fa:AF}{c:Bool}
section
variable [Cs]
section
theorem zfv{o:xU}(I:Inv X pins σ H s)(hd:H a=some u)(ow:Own u)(ho:s.heap.get? a=some o):Inv X pins σ (upd H a (.frz o u)) s:=by
 have ne:∀ b w,H b=some w->¬ Own w->b≠a:=fun b w e n z=>by
  subst z
  rw [e] at hd
  cases hd
  exact n ow
 refine Inv.step (s:=s) (h':=s.heap) (H':=upd H a (.frz o u)) (g':=s.gens) (t':=s.toks) (d':=s.drawn) (ch:=[]) I (fun _ z=>nomatch z) (fun b o _ _ _ e _=>e) (fun b o _ _ _ e _=>⟨o.slots,e⟩) (fun b _ _ _ n=>?_) (fun b o _ e=>⟨o,e⟩)
  (fun b xs e=>?_) (fun b o u e=>?_) (fun b ps e=>⟨#[],?_⟩) (fun m hm=>hm) (fun b w e=>?_) I.bare
 ·rw [aT fun z=>by subst z;rw [n] at hd;cases hd];exact n
 ·rw [aT (ne b _ e fun z=>z)];exact e
 ·rw [aT (ne b _ e fun z=>z)];exact e
 ·rw [aT (ne b _ e fun z=>z),e];simp
 ·have st:∀(b:dm) (w:HO),ck X.prog X.w H s.heap b w->ck X.prog X.w (upd H a (.frz o u)) s.heap b w:=fun b w k =>
   k.hV (fun _ _ _ q=>q) (fun b' q=>by rw [aT (ne b' _ q fun z=>z)];exact q) (fun b' xs q=>q.upd (fun _ r=>ne b' _ r fun z=>z) fun _ _ r=>ne b' _ r fun z=>z)
  by_cases c:b=a
  ·subst c
   rw [bX] at e
   cases e
   exact⟨ho,st b u (I.ax b u hd)⟩
  ·rw [aT c] at e
   exact st b w (I.ax b w e)
theorem zfe(h:EP X pins σ (fun v H1=>∃ a u,v=.ref a/\H1 a=some u/\Own u/\∀ o,Q v (upd H1 a (.frz o u))) w s):EP X pins σ Q w s:=by
 obtain⟨v,H1,I,r,a,u,e,e1,ow,q⟩:=h
 obtain⟨o,ho⟩:=(I.ax a u e1).some
 exact⟨v,_,zfv I e1 ow ho,r,q o⟩
noncomputable def tFz(t:TE):TE:=fun σ H Q=>t σ H fun v H1=>∃ a u,v=.ref a/\H1 a=some u/\Own u/\∀ o,Q v (upd H1 a (.frz o u))
theorem zqT(h:PE X e t):PE X e (tFz t):=fun pins s σ H Q I q=>aN (h pins s σ H _ I q) fun _ _ z=>zfe z
end
def Good{β:Type}(K:kb)(ρ:En)(σ:L2.St)(H:Hp)(r:R (β×En))(P:β->En->Hp->Prop):Prop:=match r with
 | .ok x=>∀ H',Rel K x.2 σ H'->bZ ρ x.2 σ H H'->P x.1 x.2 H'
 | _=>False
noncomputable def tV(K:kb)(f:EF):TE:=fun σ H Q=>∃ ρ,Rel K ρ σ H/\Good K ρ σ H (f ρ) fun d _ H'=>∀ v,Fz K H' d v->Q v H'
noncomputable def tT(K:kb)(f:TF):TT:=fun σ H Q=>∃ ρ,Rel K ρ σ H/\Good K ρ σ H (f ρ) fun b _ H'=>Q b H'
noncomputable def tA(K:kb)(f:AF):TA:=fun σ H Q=>∃ ρ,Rel K ρ σ H/\Good K ρ σ H (f ρ) fun ds _ H'=>∀ vs,aj K H' ds vs->Q vs H'
noncomputable def tO(K:kb)(f:OF):TO:=fun σ H Q=>∃ ρ,Rel K ρ σ H/\Good K ρ σ H (f ρ) fun o _ H'=>Q o H'
noncomputable def tN(K:kb)(f:EF):TE:=fun σ H Q=>∃ ρ,Rel K ρ σ H/\Good K ρ σ H (f ρ) fun d ρ' H'=>∀ a,H a=none->cY K H' a d->Q (.ref a) H'
structure PV(K:kb)(X:Cx)(e:o1)(f:EF):Prop where
 run:X.K=K->PE X e (tV K f)
instance {K:kb} {X:Cx} {e:o1} {f:EF}:CoeFun (PV K X e f) fun _=>X.K=K->PE X e (tV K f):=⟨PV.run⟩
structure eS(K:kb)(X:Cx)(e:o1)(f:TF):Prop where
 run:X.K=K->PT X e (tT K f)
instance {K:kb} {X:Cx} {e:o1} {f:TF}:CoeFun (eS K X e f) fun _=>X.K=K->PT X e (tT K f):=⟨eS.run⟩
structure fC(K:kb)(X:Cx)(e:o1)(f:TF):Prop where
 run:X.K=K->PW X e (tT K f)
instance {K:kb} {X:Cx} {e:o1} {f:TF}:CoeFun (fC K X e f) fun _=>X.K=K->PW X e (tT K f):=⟨fC.run⟩
structure dB(K:kb)(X:Cx)(es:List o1)(f:AF):Prop where
 run:X.K=K->PA X es (tA K f)
instance {K:kb} {X:Cx} {es:List o1} {f:AF}:CoeFun (dB K X es f) fun _=>X.K=K->PA X es (tA K f):=⟨dB.run⟩
structure pV(K:kb)(X:Cx)(e:Option o1)(f:OF):Prop where
 run:X.K=K->PO X e (tO K f)
instance {K:kb} {X:Cx} {e:Option o1} {f:OF}:CoeFun (pV K X e f) fun _=>X.K=K->PO X e (tO K f):=⟨pV.run⟩
structure bo(K:kb)(X:Cx)(e:o1)(f:EF):Prop where
 run:X.K=K->PE X e (tN K f)
instance {K:kb} {X:Cx} {e:o1} {f:EF}:CoeFun (bo K X e f) fun _=>X.K=K->PE X e (tN K f):=⟨bo.run⟩
theorem _root_.L2.PE.weak{t':TE}(h:PE X e t)(w:∀ σ H Q,t' σ H Q->t σ H Q):PE X e t':=fun pins s σ H Q I q=>h pins s σ H Q I (w σ H Q q)
theorem _root_.L2.PT.weak{t:TT}(h:PT X e t)(w:∀ σ H Q,t' σ H Q->t σ H Q):PT X e t':=fun pins s σ H Q I q=>h pins s σ H Q I (w σ H Q q)
theorem _root_.L2.PW.weak{t:TT}(h:PW X e t)(w:∀ σ H Q,t' σ H Q->t σ H Q):PW X e t':=fun wh pins s σ H Q I q=>h wh pins s σ H Q I (w σ H Q q)
theorem _root_.L2.PA.weak{e:List o1}{t t':TA}(h:PA X e t)(w:∀ σ H Q,t' σ H Q->t σ H Q):PA X e t':=fun pos pins s σ H Q I q=>h pos pins s σ H Q I (w σ H Q q)
theorem _root_.L2.PO.weak{e:Option o1}{t t':TO}(h:PO X e t)(w:∀ σ H Q,t' σ H Q->t σ H Q):PO X e t':=fun pins s σ H Q I q=>h pins s σ H Q I (w σ H Q q)
section
variable {K:kb}{γ:Type}
theorem Good.step{r:R (β×En)}{P:β->En->Hp->Prop}(st:bZ ρ ρ1 σ H H1)(g:Good K ρ σ H r P):Good K ρ1 σ H1 r P:=by
 cases r with
 | ok x=>exact fun H' rel s=>g H' rel (st.trans s)
 | _=>exact g
theorem Good.bM{r:R (β×En)}{k:β×En->R (γ×En)}{P:γ->En->Hp->Prop}(g:Good K ρ σ H (r.bind k) P):∃ x,r=.ok x/\Good K ρ σ H (k x) P:=by
 cases r with
 | ok x=>exact⟨x,rfl,g⟩
 | _=>exact g.elim
theorem Good.cD{r:R β}{k:β->R (γ×En)}{P:γ->En->Hp->Prop}(g:Good K ρ σ H (r.bind k) P):∃ x,r=.ok x/\Good K ρ σ H (k x) P:=by
 cases r with
 | ok x=>exact⟨x,rfl,g⟩
 | _=>exact g.elim
theorem Good.bc{r:R (γ×En)}{P:γ->En->Hp->Prop}(g:Good K ρ σ H (bc c r) P):c=true/\Good K ρ σ H r P:=by
 cases c with
 | true=>exact⟨rfl,g⟩
 | false=>exact g.elim
theorem Good.now{x:β}{P:β->En->Hp->Prop}(g:Good K ρ σ H (.ok (x,ρ)) P)(rel:Rel K ρ σ H):P x ρ H:=g H rel .refl
theorem Good.new{x:β}{P:β->En->Hp->Prop}(g:Good K ρ σ H (.ok (x,ρ)) P)(rel:Rel K ρ σ H)(s:aM H H1):P x ρ H1:=g H1 (rel.same s) (.of s)
theorem eE{k:D×En->R (β×En)}{S:VK}{P:β->En->Hp->Prop}(rel:Rel K ρ σ H)(g:Good K ρ σ H ((f ρ).bind k) P)
  (h:∀ d ρ1 v H1,Rel K ρ1 σ H1->bZ ρ ρ1 σ H H1->Fz K H1 d v->Good K ρ1 σ H1 (k (d,ρ1)) P->S v H1):tV K f σ H S:=by
 obtain⟨x,e,g1⟩:=g.bM
 refine⟨ρ,rel,?_⟩
 rw [e]
 exact fun H' r s v fz=>h x.1 x.2 v H' r s fz (g1.step s)
theorem goT{f:TF}{k:Bool×En->R (β×En)}{P:β->En->Hp->Prop}(rel:Rel K ρ σ H)(g:Good K ρ σ H ((f ρ).bind k) P)
  (h:∀ b ρ1 H1,Rel K ρ1 σ H1->bZ ρ ρ1 σ H H1->Good K ρ1 σ H1 (k (b,ρ1)) P->S b H1):tT K f σ H S:=by
 obtain⟨x,e,g1⟩:=g.bM
 refine⟨ρ,rel,?_⟩
 rw [e]
 exact fun H' r s=>h x.1 x.2 H' r s (g1.step s)
theorem oH{f:AF}{k:List D×En->R (β×En)}{S:List V->Hp->Prop}{P:β->En->Hp->Prop}(rel:Rel K ρ σ H)(g:Good K ρ σ H ((f ρ).bind k) P)
  (h:∀ ds ρ1 vs H1,Rel K ρ1 σ H1->bZ ρ ρ1 σ H H1->aj K H1 ds vs->Good K ρ1 σ H1 (k (ds,ρ1)) P->S vs H1):tA K f σ H S:=by
 obtain⟨x,e,g1⟩:=g.bM
 refine⟨ρ,rel,?_⟩
 rw [e]
 exact fun H' r s vs fz=>h x.1 x.2 vs H' r s fz (g1.step s)
theorem goO{f:OF}{k:Option Int×En->R (β×En)}{S:Option Int->Hp->Prop}{P:β->En->Hp->Prop}(rel:Rel K ρ σ H)(g:Good K ρ σ H ((f ρ).bind k) P)
  (h:∀ b ρ1 H1,Rel K ρ1 σ H1->bZ ρ ρ1 σ H H1->Good K ρ1 σ H1 (k (b,ρ1)) P->S b H1):tO K f σ H S:=by
 obtain⟨x,e,g1⟩:=g.bM
 refine⟨ρ,rel,?_⟩
 rw [e]
 exact fun H' r s=>h x.1 x.2 H' r s (g1.step s)
end
noncomputable def rD(K:kb)(g:D->D->R D):R2:=fun x y H Q=>∃ dx dy d,Tp K H dx x/\Tp K H dy y/\g dx dy=.ok d/\∀ v H',aM H H'->Fz K H' d v->Q v H'
noncomputable def rD1(K:kb)(g:D->R D):V->Hp->VK->Prop:=fun x H Q=>∃ dx d,Tp K H dx x/\g dx=.ok d/\∀ v H',aM H H'->Fz K H' d v->Q v H'
noncomputable def uo(K:kb)(G:List D->R D):List V->Hp->VK->Prop:=fun xs H Q=>∃ ds d,aj K H ds xs/\G ds=.ok d/\∀ v H',aM H H'->Fz K H' d v->Q v H'
noncomputable def rD0(K:kb)(g:D->R D):List V->Hp->VK->Prop:=fun xs H Q=>∃ x dx d,xs=[x]/\Tp K H dx x/\g dx=.ok d/\∀ v H',aM H H'->Fz K H' d v->Q v H'
section
variable {K:kb}{a c:o1}{k:EF}
theorem af(i:Nat)(hN:X.N[i]?=some x:=by rfl)(hv:uW X.env.scope x:=by first|exact Al rfl|exact Ab (Al rfl)|exact Ab (Ab rfl))(hd:(x==("__debug__":ib))=false:=by decide)
  (eU:(x==("__classdict__":ib))=false:=by decide):PV K X (.Name x pos) (eV i):=.mk fun _=>(zgZ hN hv hd eU).weak fun σ H Q=>by
 rintro⟨ρ,rel,g⟩
 unfold eV at g
 cases e:ρ[i]? with
 | none=>rw [e] at g;exact g.elim
 | some x =>
  rw [e] at g
  cases x with
  | val d =>
   have hl:i<σ.length:=by rw [<- rel.len];exact(yu.mp e).1
   have o:=rel.ok i _ _ e (yC hl)
   cases es:σ[i] with
   | none=>rw [es] at o;exact o.elim
   | some v =>
    rw [es] at o
    exact⟨v,by rw [yC hl,es],g.now rel v o⟩
  | _=>exact g.elim
theorem ub(h:PE X e (tC v))(hv:∀ H,Fz K H d v):PV K X e (eC d):=.mk fun _=>h.weak fun σ H Q=>by
 rintro⟨ρ,rel,g⟩
 exact g.now rel v (hv H)
theorem ao{j}:PV K X (.Constant (.int i) j pos) (eC (.int i)):=ub zqU fun _=>by simp [Fz]
theorem gR{i:Bool}{j}:PV K X (.Constant (.bool i) j pos) (eC (.bool i)):=ub zqK fun _=>by simp [Fz]
theorem xf{j}:PV K X (.Constant .none j pos) (eC .none):=ub zgX fun _=>by simp [Fz]
theorem bN{i:ib}{j}:PV K X (.Constant (.str i) j pos) (eC (.str i)):=ub zq0 fun _=>by simp [Fz]
theorem zhm{u:gV}(hg:Gl X x)(hm:X.mg x=some u)(r:RelV v u)(hv:∀ H,Fz K H d v)(hd:(x==("__debug__":ib))=false:=by decide):PV K X (.Name x pos) (eC d):=ub (cU hg hm r hd) hv
theorem vU{r:R2}(ho:∀ x y H Q,rD K g x y H Q->r x y H Q)(σ:L2.St)(H:Hp)(Q:VK)(q:tV K (e2 g f h) σ H Q):pI r (tV K f) (tV K h) σ H Q:=by
 obtain⟨ρ,rel,q⟩:=q
 refine eE rel q fun dx ρ1 x H1 ak aW fx q1=>eE ak q1 fun dy ρ2 y H2 cP du fy q2=>?_
 obtain⟨d,ed,q3⟩:=q2.cD
 exact ho _ _ _ _ ⟨dx,dy,d,(fx.mono (du.dO ak)).tp,fy.tp,ed,fun v H' s fz=>q3.new cP s v fz⟩
theorem aL{op:Operator}(ho:bf X (zA op) (rD X.K g))(ha:PV K X a f)(hb:PV K X b h):PV K X (.BinOp a op b pos) (e2 g f h):=.mk fun hK=>by
 subst hK
 exact(zqY ho (ha rfl) (hb rfl)).weak fun σ H Q q=>vU (fun _ _ _ _ z=>z) σ H Q q
theorem fg(ho:kZ X (rD X.K g))(ha:PV K X a f)(hb:PV K X b h)(hs:uT b:=by exact fun _ _=>rfl):PV K X (.Subscript a b pos) (e2 g f h):=.mk fun hK=>by
 subst hK
 exact(zgW ho (ha rfl) (hb rfl) hs).weak fun σ H Q q=>vU (fun _ _ _ _ z=>z) σ H Q q
theorem zrW(ho:bf X (yj op) (rD X.K g))(ha:PV K X a f)(hb:PV K X b h)(hm:zO op b=false):PV K X (.Compare a [op] [b] pos) (e2 g f h):=.mk fun hK=>by
 subst hK
 exact(zqO ho (ha rfl) (hb rfl) hm).weak fun σ H Q q=>vU (fun _ _ _ _ z=>z) σ H Q q
theorem ue{op:UnaryOp}{g:D->R D}(ho:rN X (unaryOp op) (rD1 X.K g))(ha:PV K X a f):PV K X (.UnaryOp op a pos) (e1 g f):=.mk fun hK=>by
 subst hK
 exact(zq2 ho (ha rfl)).weak fun σ H Q=>by
  rintro⟨ρ,rel,q⟩
  refine eE rel q fun dx ρ1 x H1 ak aW fx q1=>?_
  obtain⟨d,ed,q3⟩:=q1.cD
  exact⟨dx,d,fx.tp,ed,fun v H' s fz=>q3.new ak s v fz⟩
theorem zfA(σ:L2.St)(H:Hp)(Q:VK)(q:tV K (fG g g' f h k) σ H Q):zdi (rD K g) (rD K g') (tV K f) (tV K h) (tV K k) σ H Q:=by
 obtain⟨ρ,rel,q⟩:=q
 refine eE rel q fun dx ρ1 x H1 ak aW fx q1=>eE ak q1 fun dy ρ2 y H2 cP du fy q2=>?_
 obtain⟨d,ed,q3⟩:=q2.cD
 refine⟨dx,dy,d,(fx.mono (du.dO ak)).tp,fy.tp,ed,fun v H' s fz=>?_⟩
 cases d with
 | bool bb =>
  simp only [Fz] at fz
  subst fz
  have gv:=cP.same s
  have q4:=q3.step (.of s)
  cases bb with
  | true =>
   refine⟨true,rfl,lV ?_⟩
   refine eE gv q4 fun dz ρ3 z H3 ur xA fzz q5=>?_
   obtain⟨d2,sf,q6⟩:=q5.cD
   exact⟨dy,dz,d2,((fy.mono (aC.of s)).mono (xA.dO gv)).tp,fzz.tp,sf,fun v H' s fz=>q6.new ur s v fz⟩
  | false=>exact⟨false,rfl,lU (q4.now gv _ (by simp [Fz]))⟩
 | _=>exact q3.elim
theorem zrV(ho:bf X (yj op) (rD X.K g))(eX:bf X (yj gP) (rD X.K g'))(ha:PV K X a f)(hb:PV K X b h)(hc:PV K X c k)
  (hm:lastMarks [op,gP] [b,c]=false:=by with_unfolding_all rfl):PV K X (.Compare a [op,gP] [b,c] pos) (fG g g' f h k):=.mk fun hK=>by
 subst hK
 exact(zqN ho eX (ha rfl) (hb rfl) (hc rfl) hm).weak fun σ H Q q=>zfA σ H Q q
theorem uc{op}(ha:PV K X a f):PV K X (.BoolOp op [a] pos) f:=.mk fun hK=>zqX (ha hK)
theorem qU{rest:List o1}(ha:PV K X a f)(hb:PV K X (.BoolOp .And (b::rest) pos) h):PV K X (.BoolOp .And (a::b::rest) pos) (dF f h):=.mk fun hK=>(zqJ (ha hK) (hb hK)).weak fun σ H Q=>by
 rintro⟨ρ,rel,q⟩
 refine eE rel q fun dx ρ1 x H1 ak aW fx q1=>?_
 cases dx with
 | bool bb =>
  simp only [Fz] at fx
  subst fx
  cases bb with
  | true=>exact⟨true,rfl,lV ⟨ρ1,ak,q1⟩⟩
  | false=>exact⟨false,rfl,lU (q1.now ak _ (by simp [Fz]))⟩
 | _=>exact q1.elim
theorem zr2(ha:PV K X a f):PV K X (.UnaryOp .Not a pos) (iX f):=.mk fun hK=>(zqW (ha hK)).weak fun σ H Q=>by
 rintro⟨ρ,rel,q⟩
 refine eE rel q fun dx ρ1 x H1 ak aW fx q1=>?_
 cases dx with
 | bool bb =>
  simp only [Fz] at fx
  subst fx
  exact⟨bb,rfl,q1.now ak _ (by simp [Fz])⟩
 | _=>exact q1.elim
theorem pf:dB K X [] ae:=.mk fun _=>jH.weak fun σ H Q=>by
 rintro⟨ρ,rel,q⟩
 exact q.now rel [] (by simp [aj])
theorem bO(ha:PV K X a f)(hr:dB K X es fa)(hs:pd (a::es) X.env=(false,xZ a X.env)::pd es X.env:=by exact FL.se rfl):dB K X (a::es) (aa f fa):=.mk fun hK=>(gQ (ha hK) (hr hK) hs).weak fun σ H Q=>by
 rintro⟨ρ,rel,q⟩
 refine eE rel q fun dx ρ1 x H1 ak aW fx q1=>oH ak q1 fun ds ρ2 vs H2 cP du fs q2=>?_
 exact q2.now cP _ (by simp only [aj];exact⟨x,vs,rfl,fx.mono (du.dO ak),fs⟩)
theorem nj:lim<=yb:=by rw [zf];decide
theorem b9{x1}(h:dB K X es fa):PV K X (.Tuple es x1 pos) (aE fa):=.mk fun hK=>(zq1 (h hK)).weak fun σ H Q=>by
 rintro⟨ρ,rel,q⟩
 refine oH rel q fun ds ρ1 vs H1 ak aW fs q1=>?_
 obtain⟨c,q2⟩:=q1.bc
 refine⟨by rw [fs.len];exact yx (lY c) nj,fun p hp=>?_⟩
 have s:aM H1 (upd H1 p (.tup vs)):=aM.upd hp
 refine q2.new ak s _ ?_
 simp only [Fz]
 exact⟨p,vs,rfl,.inl bX,fs.mono (aC.of s)⟩
theorem cE(h:dB K X es fa):bo K X (.List es pos) (aV fa):=.mk fun hK=>(zqV (h hK)).weak fun σ H Q=>by
 rintro⟨ρ,rel,q⟩
 refine oH rel q fun ds ρ1 vs H1 ak aW fs q1=>?_
 obtain⟨c,q2⟩:=q1.bc
 refine⟨by rw [fs.len];exact yx (lY c) nj,fun p hp=>?_⟩
 have s:aM H1 (upd H1 p (.lst vs)):=aM.upd hp
 refine q2.new ak s p ?_ ?_
 ·cases e:H p with
  | none=>rfl
  | some o =>
   by_cases m:MA ρ σ p
   ·obtain⟨o',e',_⟩:=ak.fe (aW.ma.mp m)
    rw [hp] at e';cases e'
   ·rw [aW.kp p o e m] at hp;cases hp
 ·exact⟨vs,bX,fs.mono (aC.of s)⟩
theorem bo.pv{f:EF}(h:bo K X e f):PV K X e f:=.mk fun hK=>(zqT (h hK)).weak fun σ H Q=>by
 rintro⟨ρ,rel,q⟩
 refine⟨ρ,rel,?_⟩
 cases e:f ρ with
 | ok x =>
  rw [e] at q
  intro H' zth st a ha m
  obtain⟨u,e1,ow⟩:=m.own
  refine⟨a,u,rfl,e1,ow,fun o=>?_⟩
  have j6:¬ MA ρ σ a:=fun z=>by
   obtain⟨o',e',_⟩:=rel.fe z
   rw [ha] at e';cases e'
  have nma':¬ MA x.2 σ a:=fun z=>j6 (st.ma.mpr z)
  have fz:aC H' (upd H' a (.frz o u)):=fun b w e2 sy=>by
   rw [aT fun z=>by subst z;rw [e1] at e2;cases e2;exact ow.ja sy]
   exact e2
  refine q _ (zth.put nma' fun u' e2=>by rw [e1] at e2;cases e2;exact ow.ja) ⟨st.md,fun b w e2 n=>?_⟩ _ ?_
  ·rw [aT fun z=>by subst z;rw [ha] at e2;cases e2]
   exact st.kp b w e2 n
  ·obtain⟨d,ρ'⟩:=x
   cases d with
   | list ds =>
    obtain⟨vs,h1,h2⟩:=m
    rw [e1] at h1
    cases h1
    simp only [Fz]
    exact⟨a,vs,rfl,.inl ⟨o,bX⟩,h2.mono fz⟩
   | dict ah =>
    simp only [Fz]
    obtain⟨kk,h1,h2⟩:=m
    rw [e1] at h1
    cases h1
    exact⟨a,o,rfl,⟨kk,bX,h2.mono fz⟩⟩
   | _=>exact m.elim
 | _=>rw [e] at q;exact q.elim
theorem goC(hr:∀ xs H Q,uo K G xs H Q->r xs H Q)(σ:L2.St)(H:Hp)(Q:VK)(q:tV K (aP G fa) σ H Q):xC r (tA K fa) σ H Q:=by
 obtain⟨ρ,rel,q⟩:=q
 refine oH rel q fun ds ρ1 vs H1 ak aW fs q1=>?_
 obtain⟨d,ed,q2⟩:=q1.cD
 exact hr _ _ _ ⟨ds,d,fs,ed,fun v H' s fz=>q2.new ak s v fz⟩
theorem zhj{id:String}(hc:gG X (.builtin id) (uo X.K G))(hg:Gl X x)(hm:X.mg x=none)(hv:yJ x=some (.builtin id))(ha:dB K X (e::es) fa)(hn:x ≠ "__name__":=by decide) (bA:(x==("__debug__":ib))=false:=by decide)
  (he:pd (e::es) X.env=(false,xZ e X.env)::pd es X.env:=by exact FL.se rfl) (bj:(yp pos (pd es X.env)).any (·.1)=false:=by exact FL.sp rfl):PV K X (.Call (.Name x p) (e::es) [] pos) (aP G fa):=.mk fun hK=>by
 subst hK
 exact(wV hc hg hm hv (ha rfl) hn bA he bj).weak fun σ H Q q=>goC (fun _ _ _ z=>z) σ H Q q
theorem zrU(hc:gG X (.type T) (uo X.K G))(hg:Gl X x)(hm:X.mg x=none)(hv:yJ x=some (.type T))(ha:dB K X (e::es) fa)(hn:x ≠ "__name__":=by decide) (bA:(x==("__debug__":ib))=false:=by decide)
  (he:pd (e::es) X.env=(false,xZ e X.env)::pd es X.env:=by exact FL.se rfl) (bj:(yp pos (pd es X.env)).any (·.1)=false:=by exact FL.sp rfl):PV K X (.Call (.Name x p) (e::es) [] pos) (aP G fa):=.mk fun hK=>by
 subst hK
 exact(zgV hc hg hm hv (ha rfl) hn bA he bj).weak fun σ H Q q=>goC (fun _ _ _ z=>z) σ H Q q
variable {lo hi:Option o1}{fl fh:OF}
theorem ph:pV K X none cZ:=.mk fun _=>zrn.weak fun σ H Q=>by
 rintro⟨ρ,rel,q⟩
 exact q.now rel
theorem pj(h:PV K X a f):pV K X (some a) (c7 f):=.mk fun hK=>(zro (h hK)).weak fun σ H Q=>by
 rintro⟨ρ,rel,q⟩
 refine eE rel q fun dx ρ1 x H1 ak aW fx q1=>?_
 cases dx with
 | int i =>
  simp only [Fz] at fx
  exact⟨i,fx,q1.now ak⟩
 | _=>exact q1.elim
noncomputable def zhF(K:kb):V->Option Int->Option Int->Hp->VK->Prop:=fun x lo hi H Q=>∃ dx d,Tp K H dx x/\iL dx lo hi=.ok d/\∀ v H',aM H H'->Fz K H' d v->Q v H'
theorem pe(hr:rM X (zhF X.K))(he:PV K X a f)(hl:pV K X lo fl)(hu:pV K X hi fh):PV K X (.Subscript a (.Slice lo hi none p2) pos) (cS f fl fh):=.mk fun hK=>by
 subst hK
 exact(zqZ hr (he rfl) (hl rfl) (hu rfl)).weak fun σ H Q=>by
  rintro⟨ρ,rel,q⟩
  refine eE rel q fun dx ρ1 x H1 ak aW fx q1=>goO ak q1 fun l ρ2 H2 cP du q2=>goO cP q2 fun u ρ3 H3 gv pF q3=>?_
  obtain⟨d,ed,q4⟩:=q3.cD
  exact⟨dx,d,((fx.mono (du.dO ak)).mono (pF.dO cP)).tp,ed,fun v H' s fz=>q4.new gv s v fz⟩
variable {t u:TF}
theorem hJ(hv:zaq X (fun x H Q=>∃ d k,Tp X.K H d x/\dR d=.ok k/\Q k H))(h:PV K X a f)(he:∀ whole,isTrue a X.env whole=(do let v <- whole;standAt a.pos;Bo [v] (truthy v)):=by intro _;rfl):eS K X a (tE f):=.mk fun hK=>by
 subst hK
 intro pins s σ H Q I q
 rw [he]
 obtain⟨ρ,rel,q⟩:=q
 refine lb (aN (h rfl pins s σ H (fun x H'=>∃ d k,Tp X.K H' d x/\dR d=.ok k/\Q k H') I ?_) fun v s1 ⟨x,H1,I1,r1,q1⟩=>lb (Bp (zC (hv pins s1 σ H1 x v Q I1 r1 q1))))
 refine eE rel q fun dx ρ1 x H1 ak aW fx q1=>?_
 obtain⟨d,ed,q2⟩:=q1.cD
 exact⟨dx,d,fx.tp,ed,q2.now ak⟩
theorem goB(hw:∀ σ H Q,tV K f σ H Q->te σ H Q)(σ:L2.St)(H:Hp)(Q:Bool->Hp->Prop)(q:tT K (tB f) σ H Q):te σ H fun x H'=>∃ k,x=.bl k/\Q k H':=by
 obtain⟨ρ,rel,q⟩:=q
 refine hw σ H _ (eE rel q fun dx ρ1 x H1 ak aW fx q1=>?_)
 cases dx with
 | bool bb =>
  simp only [Fz] at fx
  exact⟨bb,fx,q1.now ak⟩
 | _=>exact q1.elim
theorem zsj(ho:bf X (yj op) (rD X.K g))(ha:PV K X a f)(hb:PV K X b h)(hm:zO op b=false):eS K X (.Compare a [op] [b] pos) (tB (e2 g f h)):=.mk fun hK=>by
 subst hK
 exact(zhg ho (ha rfl) (hb rfl) hm).weak fun σ H Q q=>goB (fun σ H Q z=>vU (fun _ _ _ _ z=>z) σ H Q z) σ H Q q
theorem zhz(ha:eS K X a t):fC K X (.BoolOp .And [a] pos) t:=.mk fun hK=>zsq (ha hK)
theorem nK(ha:eS K X a t):fC K X (.BoolOp .Or [a] pos) t:=.mk fun hK=>zss (ha hK)
theorem zhy{rest:List o1}(ha:eS K X a t)(hb:fC K X (.BoolOp .And (b::rest) pos) u):fC K X (.BoolOp .And (a::b::rest) pos) (FL.fL t u):=.mk fun hK=>(zsp (ha hK) (hb hK)).weak fun σ H Q=>by
 rintro⟨ρ,rel,q⟩
 refine goT rel q fun cb ρ1 H1 ak aW q1=>?_
 cases cb with
 | true=>exact lV ⟨ρ1,ak,q1⟩
 | false=>exact lU (q1.now ak)
theorem jJ{rest:List o1}(ha:eS K X a t)(hb:fC K X (.BoolOp .Or (b::rest) pos) u):fC K X (.BoolOp .Or (a::b::rest) pos) (FL.bI t u):=.mk fun hK=>(zsr (ha hK) (hb hK)).weak fun σ H Q=>by
 rintro⟨ρ,rel,q⟩
 refine goT rel q fun cb ρ1 H1 ak aW q1=>?_
 cases cb with
 | true=>exact lV (q1.now ak)
 | false=>exact lU ⟨ρ1,ak,q1⟩
theorem fC.ka(h:fC K X a t):eS K X a t:=.mk fun hK=>(h hK).pt
theorem gU(ha:eS K X a t):eS K X (.UnaryOp .Not a pos) (FL.bu t):=.mk fun hK=>(zrL (ha hK)).weak fun σ H Q=>by
 rintro⟨ρ,rel,q⟩
 exact goT rel q fun cb ρ1 H1 ak aW q1=>q1.now ak
theorem zhw(ho:bf X (yj op) (rD X.K g))(eX:bf X (yj gP) (rD X.K g'))(ha:PV K X a f)(hb:PV K X b h)(hc:PV K X c k)
  (hm:lastMarks [op,gP] [b,c]=false:=by with_unfolding_all rfl):eS K X (.Compare a [op,gP] [b,c] pos) (tB (fG g g' f h k)):=.mk fun hK=>by
 subst hK
 exact(zrJ ho eX (ha rfl) (hb rfl) (hc rfl) hm).weak fun σ H Q q=>goB (fun σ H Q z=>zfA σ H Q z) σ H Q q
end
end
variable {G:D->D->R D}{p:Int->Int->Bool}
section
variable [Cs]
end
variable {vs:List V}{C:Int->Int->Prop}{α:Type}{k:Nat}{q:List Int->List Int->Bool}{c:Int->Int->Bool}{f:gV->gV->Sem gV}{g:Int->Int->Int}
section
variable [Cs]
section
variable {K:kb}
mutual
theorem Fz.is:∀(d:yk) (v:V),CM d=true->Fz K H d v->Is K H d v
 | .none,v,_,h=>by simp only [Fz] at h;simp only [Is];exact h
 | .bool b,v,_,h=>by simp only [Fz] at h;simp only [Is];exact h
 | .int i,v,_,h=>by simp only [Fz] at h;simp only [Is];exact h
 | .str x,v,_,h=>by simp only [Fz] at h;simp only [Is];exact h
 | .list xs,v,c,h=>by
  simp only [Fz] at h;simp only [Is]
  obtain⟨a,vs,e1,h1,h2⟩:=h
  exact⟨a,vs,e1,h1.sq,aj.is xs vs c h2⟩
 | .tuple xs,v,c,h=>by
  simp only [Fz] at h;simp only [Is]
  obtain⟨a,vs,e1,h1,h2⟩:=h
  exact⟨a,vs,e1,.inl h1,aj.is xs vs c h2⟩
 | .dict ah,v,c,h=>by simp [CM] at c
theorem aj.is:∀(ds:List yk) (vs:List V),Dw ds=true->aj K H ds vs->ig K H ds vs
 | [],vs,_,h=>by simp only [aj] at h;simp only [ig];exact h
 | d::ds,vs,c,h=>by
  simp only [Dw,yw] at c
  simp only [aj] at h;simp only [ig]
  obtain⟨v,r,e1,h1,h2⟩:=h
  exact⟨v,r,e1,Fz.is d v c.1 h1,aj.is ds r c.2 h2⟩
end
theorem Tp.is{d:yk}{v:V}(c:CM d=true)(h:Tp K H d v):Is K H d v:=by
 cases d with
 | list ds =>
  obtain⟨a,vs,e,h1,h2⟩:=h
  simp only [Is]
  exact⟨a,vs,e,h1,aj.is ds vs c h2⟩
 | dict ah=>simp [CM] at c
 | none=>exact Fz.is _ _ c h
 | bool b=>exact Fz.is _ _ c h
 | int b=>exact Fz.is _ _ c h
 | str b=>exact Fz.is _ _ c h
 | tuple b=>exact Fz.is _ _ c h
theorem Tp.int(h:Tp K H (.int i) v):v=.int i:=by simpa [Tp,Fz] using h
theorem Tp.bool{i:Bool}(h:Tp K H (.bool i) v):v=.bl i:=by simpa [Tp,Fz] using h
theorem Tp.none(h:Tp K H .none v):v=.non:=by simpa [Tp,Fz] using h
theorem Tp.zus{ds:List yk}(h:Tp K H (.tuple ds) v):∃ a vs,v=.ref a/\dU H a vs/\aj K H ds vs:=by simpa [Tp,Fz] using h
theorem Tp.tup{ds:List yk}{v:V}(h:Tp K H (.tuple ds) v):∃ a vs,v=.ref a/\eB K H a vs/\aj K H ds vs :=
 let⟨a,vs,x,y,z⟩:=Tp.zus h
 ⟨a,vs,x,.inl y,z⟩
theorem Tp.lst{ds:List yk}{v:V}(h:Tp K H (.list ds) v):∃ a vs,v=.ref a/\bV K H a vs/\aj K H ds vs:=h
theorem iw(i:Int):Fz K H (.int i) (.int i):=by simp [Fz]
theorem mZ(i:Bool):Fz K H (.bool i) (.bl i):=by simp [Fz]
theorem vQ{ds:List yk}(h:dU H a vs)(f:aj K H ds vs):Fz K H (.tuple ds) (.ref a):=by simp only [Fz];exact⟨a,vs,rfl,h,f⟩
theorem aj.dJ{ds:List yk}{vs:List V}{i:Int}{d:yk}(h:aj K H ds vs)(e:FL.dJ ds i=some d):∃ v,L2.dJ vs i=some v/\Fz K H d v:=by
 unfold FL.dJ at e
 cases en:FL.e7 ds.length i with
 | none=>rw [en] at e;cases e
 | some j =>
  rw [en] at e
  obtain⟨v,e1,f⟩:=h.get (show ds[j]?=some d from e)
  refine⟨v,?_,f⟩
  unfold L2.dJ
  rw [h.len,show L2.e7 ds.length i=some j from en]
  exact e1
theorem aj.cut{ds:List yk}{vs:List V}(h:aj K H ds vs)(lo hi:Option Int):aj K H (FL.cut ds lo hi) (lB vs lo hi):=by
 unfold FL.cut lB
 rw [h.len]
 exact(h.drop _).take _
end
theorem gi{c:Bool}{r:R α}{d:α}(h:bc c r=.ok d):c=true/\r=.ok d:=by
 cases c with
 | true=>exact⟨rfl,h⟩
 | false=>exact nomatch (show(R.bad:R α)=.ok d from h)
section
theorem zbw{ds:List D}(f:aj X.K H ds vs)(q:∀ v H',aM H H'->Fz X.K H' (.list ds) v->Q v H')
  (h:EP X pins σ (fun v H1=>∃ p,v=.ref p/\H p=none/\H1=upd H p (.lst vs)) w s):EP X pins σ Q w s:=by
 obtain⟨v,H1,I,r,p,rfl,hp,rfl⟩:=h
 refine zfe ⟨.ref p,_,I,r,p,.lst vs,rfl,bX,trivial,fun o=>?_⟩
 rw [zuG]
 refine q _ _ (aM.upd hp) ?_
 simp only [Fz]
 exact⟨p,vs,rfl,.inl ⟨o,bX⟩,f.mono (aC.of (aM.upd hp))⟩
theorem bB:bf X (zA .Add) (rD X.K ay):=by
 intro pins s σ H x y v u Q I rx ry h
 obtain⟨dx,dy,d,tx,ty,e,q⟩:=h
 cases dx with
 | int i =>
  cases dy with
  | int j=>cases e;exact zqm pins s σ H x y v u Q I rx ry ⟨i,j,tx.int,ty.int,q _ H (aM.refl _) (iw _)⟩
  | _=>exact nomatch (show(R.bad:R D)=.ok d from e)
 | list a =>
  cases dy with
  | list b =>
   obtain⟨c,e⟩:=gi (show bc (leB (a.length+b.length) lim) (.ok (.list (a++b)))=.ok d from e)
   ·cases e
    obtain⟨l,xs,rfl,sx,fx⟩:=tx.lst
    obtain⟨m,ys,rfl,sy,fy⟩:=ty.lst
    cases rx
    cases ry
    obtain⟨its,r1,⟨o,n,ho,hc,hdn,hd⟩,z1⟩:=I.list sx
    obtain⟨ni,r2,⟨o2,n2,fJ,iy,zfE,hd2⟩,z2⟩:=I.list sy
    obtain⟨cls,dd,data,sl⟩:=o
    obtain⟨zaP,lD,data2,km⟩:=o2
    simp only at hc hd iy hd2 hdn zfE
    subst hc hd iy hd2 hdn zfE
    have hz:its.length+ni.length<=yb:=by
     have:=lY c
     have l0:=nj
     rw [<- r1.length,<- r2.length,fx.len,fy.len]
     omega
    refine aN (C8 (Q:=EP X pins σ fun v H1=>∃ p,v=.ref p/\H p=none/\H1=upd H p (.lst (xs++ys))) ⟨_,ho,rfl⟩ ⟨_,fJ,rfl⟩ PySem.noFill_list_add PySem.seq_list_add PySem.F.slot_list_add PySem.F.entry_list_add (PySem.F.args_list_add_2 _ _)
     (list_addW l m its.toArray ni.toArray n n2 none none sl km (by rw [yv,yv];exact hz)) ⟨ho,fJ,?_⟩) fun _ _ z=>zbw (fx.app fy) q z
    have ea:its.toArray++ni.toArray=(its++ni).toArray:=by simp
    rw [ea]
    exact⟨.ref _,_,I.zpe (t':=s.toks) (r1.append r2) (by rw [zH,r1.length,r2.length];exact hz),rfl,_,rfl,I.fresh,rfl⟩
  | _=>exact nomatch (show(R.bad:R D)=.ok d from e)
 | tuple a =>
  cases dy with
  | tuple b =>
   obtain⟨c,e⟩:=gi (show bc (leB (a.length+b.length) lim) (.ok (.tuple (a++b)))=.ok d from e)
   ·cases e
    obtain⟨l,xs,rfl,sx,fx⟩:=tx.tup
    obtain⟨m,ys,rfl,sy,fy⟩:=ty.tup
    have hz:xs.length+ys.length<=yb:=by
     have:=lY c
     have l0:=nj
     rw [fx.len,fy.len]
     omega
    by_cases x0:xs=[]
    ·subst x0
     have a0:a=[]:=by have:=fx.len;cases a with|nil=>rfl|cons _ _=>simp at this
     subst a0
     cases rx
     cases ry
     obtain⟨its,r1,p1,z1⟩:=I.tuple sx
     obtain⟨ni,r2,p2,z2⟩:=I.tuple sy
     cases r1
     obtain⟨⟨cls,dd,data,sl⟩,ho,hc,n,hd⟩:=id p1
     obtain⟨⟨zaP,lD,data2,km⟩,fJ,iy,n2,hd2⟩:=id p2
     simp only at hc hd iy hd2
     subst hc hd iy hd2
     exact C8 ⟨_,ho,rfl⟩ ⟨_,fJ,rfl⟩ D3 D4 D5 D6 (D7 _ _)
      (tuple_addW0 l m #[] ni.toArray n n2 dd lD sl km rfl) ⟨ho,fJ,⟨.ref m,H,I.tok _,rfl,q _ H (aM.refl _) ty⟩⟩
    ·exact zqn pins s σ H _ _ v u Q I rx ry ⟨l,m,xs,ys,rfl,rfl,sx,sy,x0,hz,fun y0=>by
      subst y0
      have b0:b=[]:=by have:=fy.len;cases b with|nil=>rfl|cons _ _=>simp at this
      subst b0
      rw [zP] at q
      exact q _ H (aM.refl _) tx,fun _ p hp=>q _ _ (aM.upd hp) (vQ (.inl bX) ((fx.app fy).mono (aC.of (aM.upd hp))))⟩
  | _=>exact nomatch (show(R.bad:R D)=.ok d from e)
 | _=>exact nomatch (show(R.bad:R D)=.ok d from e)
theorem wO(ho:bf X f (rI C fun i j=>.int (g i j)))(hC:∀ i j,c i j=true->C i j)
  (hG:∀ dx dy d,G dx dy=.ok d->∃ i j,dx=.int i/\dy=.int j/\c i j=true/\d=.int (g i j)):bf X f (rD X.K G):=by
 intro pins s σ H x y v u Q I rx ry h
 obtain⟨dx,dy,d,tx,ty,e,q⟩:=h
 obtain⟨i,j,rfl,rfl,cc,rfl⟩:=hG _ _ _ e
 exact ho pins s σ H x y v u Q I rx ry ⟨i,j,tx.int,ty.int,hC i j cc,q _ H (aM.refl _) (iw _)⟩
theorem vT(h:∀ i j,G (.int i) (.int j)=bc (c i j) (.ok (.int (g i j))))(h0:∀ dx dy,(¬ ∃ i j,dx=.int i/\dy=.int j)->G dx dy=.bad) :
  ∀ dx dy d,G dx dy=.ok d->∃ i j,dx=.int i/\dy=.int j/\c i j=true/\d=.int (g i j):=by
 intro dx dy d e
 by_cases k:∃ i j,dx=.int i/\dy=.int j
 ·obtain⟨i,j,rfl,rfl⟩:=k
  rw [h] at e
  obtain⟨cc,e⟩:=gi e
  cases e
  exact⟨i,j,rfl,rfl,cc,rfl⟩
 ·rw [h0 _ _ k] at e;cases e
theorem wL{dx dy:D}(hb:∀ dx dy,(∀ i,dx≠.int i)->G dx dy=.bad)(m7:∀ i dy,(∀ j,dy≠.int j)->G (.int i) dy=.bad)(h:¬ ∃ i j,dx=.int i/\dy=.int j):G dx dy=.bad:=by
 cases dx with
 | int i=>exact m7 i dy fun j e=>h ⟨i,j,rfl,e⟩
 | _=>exact hb _ _ fun i e=>nomatch e
theorem nC:bf X (zA .Sub) (rD X.K cv):=wO (C:=fun _ _=>True) (c:=fun _ _=>true) (g:=fun i j=>i-j)
 (fun pins s σ H x y v u Q I rx ry ⟨i,j,e1,e2,_,q⟩=>zqz pins s σ H x y v u Q I rx ry ⟨i,j,e1,e2,q⟩) (fun _ _ _=>trivial)
 (vT (fun _ _=>rfl) fun dx dy h=>wL (fun dx dy h=>by cases dx <;> first|rfl|exact absurd rfl (h _)) (fun i dy h=>by cases dy <;> first|rfl|exact absurd rfl (h _)) h)
theorem zpD{j:Int}(h:tH i j=true):IntMulOk i j:=by
 have:=lY h
 have b:∀ k:Int,k.natAbs<2^(k.natAbs.log2+1):=fun k=>Nat.lt_log2_self
 exact mulOk_of (a:=i.natAbs.log2+1) (b:=j.natAbs.log2+1) (b i) (b j) (by omega)
theorem zqp(hr:aZ k X.A):bf X (zA .FloorDiv) (rI (fun _ j=>j≠0) fun i j=>.int (i.fdiv j)):=by
 intro pins s σ H x y v u Q I rx ry h
 obtain⟨i,j,rfl,rfl,hc,q⟩:=h
 obtain⟨t,rfl⟩:=rx
 obtain⟨t',rfl⟩:=ry
 exact floordiv_int hc ⟨.int (i.fdiv j),H,I.tok _,⟨_,rfl⟩,q⟩ (.inr (I.pyl (by have:=hr.dp;omega)))
theorem zcQ(hr:aZ k X.A):bf X (zA .FloorDiv) (rD X.K iY):=wO (C:=fun _ j=>j≠0) (c:=fun i j=>decide (j≠0)) (g:=fun i j=>i.fdiv j) (zqp hr) (fun i j h=>by simpa using h)
 (vT (fun _ _=>rfl) fun dx dy h=>wL (fun dx dy h=>by cases dx <;> first|rfl|exact absurd rfl (h _)) (fun i dy h=>by cases dy <;> first|rfl|exact absurd rfl (h _)) h)
theorem oZ:bf X (zA .Mod) (rD X.K fP):=wO (C:=fun _ j=>j≠0) (c:=fun i j=>decide (j≠0)) (g:=fun i j=>i.fmod j) zqv (fun i j h=>by simpa using h)
 (vT (fun _ _=>rfl) fun dx dy h=>wL (fun dx dy h=>by cases dx <;> first|rfl|exact absurd rfl (h _)) (fun i dy h=>by cases dy <;> first|rfl|exact absurd rfl (h _)) h)
theorem jb:bf X (zA .Pow) (rD X.K c9):=wO (C:=zdu) (c:=fun i j=>decide (0<=j)&&leB j.toNat 1000000&&leB i.natAbs 18446744073709551615) (g:=fun i j=>i^j.toNat) zqy (fun i j h=>by simp only [yw,decide_eq_true_eq,leB_iff] at h;exact⟨h.1.1,by omega,by omega⟩)
 (vT (fun _ _=>rfl) fun dx dy h=>wL (fun dx dy h=>by cases dx <;> first|rfl|exact absurd rfl (h _)) (fun i dy h=>by cases dy <;> first|rfl|exact absurd rfl (h _)) h)
theorem uI:rN X (unaryOp .USub) (rD1 X.K mw):=by
 intro pins s σ H x v Q I rx h
 obtain⟨dx,d,tx,e,q⟩:=h
 cases dx with
 | int i=>cases e;exact zuD pins s σ H x v Q I rx ⟨i,tx.int,q _ H (aM.refl _) (iw _)⟩
 | _=>exact nomatch (show(R.bad:R D)=.ok d from e)
theorem zp3(hu:X.A.units+64<yW):bf X (yj .Eq) (rD X.K bD):=by
 intro pins s σ H x y v u Q I rx ry h
 obtain⟨dx,dy,d,tx,ty,e,q⟩:=h
 obtain⟨c,e⟩:=gi e
 ·cases e
  simp only [yw] at c
  exact zqo hu pins s σ H x y v u Q I rx ry ⟨dx,dy,tx.is (Bi c.1),ty.is (Bi c.2),c.1,c.2,q _ H (aM.refl _) (mZ _)⟩
theorem zp8(hu:X.A.units+64<yW):bf X (yj .NotEq) (rD X.K dn):=by
 intro pins s σ H x y v u Q I rx ry h
 obtain⟨dx,dy,d,tx,ty,e,q⟩:=h
 obtain⟨c,e⟩:=gi e
 ·cases e
  simp only [yw] at c
  exact zqx hu pins s σ H x y v u Q I rx ry ⟨dx,dy,tx.is (Bi c.1),ty.is (Bi c.2),c.1,c.2,q _ H (aM.refl _) (mZ _)⟩
theorem zcu:∀ a b,FL.lexLt a b=HT.lexLt a b
 | [],[]=>rfl
 | [],_::_=>rfl
 | _::_,[]=>rfl
 | x::xs,y::ys=>by unfold FL.lexLt HT.lexLt;rw [zcu xs ys]
theorem zp2(hi:bf X (yj op) (kg fun i j=>.bl (p i j)))
  (ht:∀{s:ir} {l b:dm} {items iF:Array gV} {ns ms:List Int} {Q:gV->ir->Prop},Aq s.heap l items->Aq s.heap b iF->zI items.toList ns->zI iF.toList ms ->
   Q (.bool (q ns ms)) s->xS (xT X.prog X.w) X.A (yj op (.ref l) (.ref b)) Q X.xe s):bf X (yj op) (rD X.K (zeK p q)):=by
 intro pins s σ H x y v u Q I rx ry h
 obtain⟨dx,dy,d,tx,ty,e,k⟩:=h
 cases dx with
 | int i =>
  cases dy with
  | int j=>cases e;exact hi pins s σ H x y v u Q I rx ry ⟨i,j,tx.int,ty.int,k _ H (aM.refl _) (mZ _)⟩
  | _=>exact nomatch (show(R.bad:R D)=.ok d from e)
 | tuple a =>
  cases dy with
  | tuple b =>
   replace e:((R.of (intsOf a)).bind fun x=>(R.of (intsOf b)).bind fun y=>R.ok (zo (q x y)))=.ok d:=e
   cases ea:intsOf a with
   | none=>rw [ea] at e;cases e
   | some ns =>
    cases eb:intsOf b with
    | none=>rw [ea,eb] at e;cases e
    | some ms =>
     rw [ea,eb] at e
     cases e
     obtain⟨l,xs,rfl,sx,fx⟩:=tx.tup
     obtain⟨m,ys,rfl,sy,fy⟩:=ty.tup
     cases rx
     cases ry
     obtain⟨rfl,_⟩:=fx.ints ea
     obtain⟨rfl,_⟩:=fy.ints eb
     obtain⟨its,r1,p1,_⟩:=I.tuple sx
     obtain⟨ni,r2,p2,_⟩:=I.tuple sy
     exact ht p1 p2 (intsAre_of r1) (intsAre_of r2) ⟨.bl (q ns ms),H,I,rfl,k _ H (aM.refl _) (mZ _)⟩
  | _=>exact nomatch (show(R.bad:R D)=.ok d from e)
 | _=>exact nomatch (show(R.bad:R D)=.ok d from e)
theorem zp7(hu:X.A.units+64<yW):bf X (yj .Lt) (rD X.K fc):=zp2 zqu fun p1 p2 i1 i2 h=>HT.zpn p1 p2 i1 i2 (by omega) (by rw [<- zcu];exact h)
theorem zcP(hi:bf X (yj op) (kg fun i j=>.bl (p i j))):bf X (yj op) (rD X.K (vy p)):=by
 intro pins s σ H x y v u Q I rx ry h
 obtain⟨dx,dy,d,tx,ty,e,k⟩:=h
 cases dx with
 | int i =>
  cases dy with
  | int j=>cases e;exact hi pins s σ H x y v u Q I rx ry ⟨i,j,tx.int,ty.int,k _ H (aM.refl _) (mZ _)⟩
  | _=>exact nomatch (show(R.bad:R D)=.ok d from e)
 | _=>exact nomatch (show(R.bad:R D)=.ok d from e)
theorem zp6(hu:X.A.units+64<yW):bf X (yj .LtE) (rD X.K i9):=zcP zqt
theorem zp5(hu:X.A.units+64<yW):bf X (yj .Gt) (rD X.K lK):=zcP zqr
theorem zp4(hu:X.A.units+64<yW):bf X (yj .GtE) (rD X.K qt):=zcP zqq
theorem cQ:kZ X (rD X.K aB):=by
 intro value slice pins s σ H x y v u Q I rx ry h hs
 obtain⟨dx,dy,d,tx,ty,e,q⟩:=h
 cases dx with
 | list a =>
  cases dy with
  | int i =>
   replace e:R.of (FL.dJ a i)=.ok d:=e
   cases ea:FL.dJ a i with
   | none=>rw [ea] at e;cases e
   | some d' =>
    rw [ea] at e
    cases e
    obtain⟨l,xs,rfl,sx,fx⟩:=tx.lst
    obtain⟨w,ew,fw⟩:=fx.dJ ea
    exact zmI value slice pins s σ H _ y v u Q I rx ry ⟨l,xs,i,w,rfl,ty.int,sx,ew,q _ H (aM.refl _) fw⟩ hs
  | _=>exact nomatch (show(R.bad:R D)=.ok d from e)
 | tuple a =>
  cases dy with
  | int i =>
   replace e:R.of (FL.dJ a i)=.ok d:=e
   cases ea:FL.dJ a i with
   | none=>rw [ea] at e;cases e
   | some d' =>
    rw [ea] at e
    cases e
    obtain⟨l,xs,rfl,sx,fx⟩:=tx.tup
    obtain⟨w,ew,fw⟩:=fx.dJ ea
    exact zmJ value slice pins s σ H _ y v u Q I rx ry ⟨l,xs,i,w,rfl,ty.int,sx,ew,q _ H (aM.refl _) fw⟩ hs
  | _=>exact nomatch (show(R.bad:R D)=.ok d from e)
 | _=>exact nomatch (show(R.bad:R D)=.ok d from e)
theorem hW:zaq X (fun x H Q=>∃ d k,Tp X.K H d x/\dR d=.ok k/\Q k H):=by
 intro pins s σ H x v Q I rx h
 obtain⟨d,k,tx,e,q⟩:=h
 refine zur pins s σ H x v Q I rx ⟨k,?_,q⟩
 cases d with
 | none=>have:=tx.none;subst this;cases e;rfl
 | bool b=>have:=tx.bool;subst this;cases e;rfl
 | int b=>have:=tx.int;subst this;cases e;rfl
 | list b =>
  obtain⟨a,vs,rfl,sx,fx⟩:=tx.lst
  cases e
  refine .inl ⟨vs,sx,?_⟩
  have:=fx.len
  cases b <;> cases vs <;> simp_all
 | tuple b =>
  obtain⟨a,vs,rfl,sx,fx⟩:=tx.tup
  cases e
  refine .inr (.inl ⟨vs,sx,?_⟩)
  have:=fx.len
  cases b <;> cases vs <;> simp_all
 | _=>exact nomatch (show(R.bad:R Bool)=.ok k from e)
end
end
variable {prog:x6}{hi:Option Int}{E Q:gV->ir->Prop}{v:Option V}{w:x5}{A:ya}{k:D×En->R (Fl×En)}{items:Array gV}{f:EF}{g:D->R D}
section
variable [Cs]
theorem zpL:fillsNumberSlot (.type "tuple") "mul"=pure false :=
 PySem.fillsNumberSlot_seq (id:="tuple.__mul__") (r:=some (.builtin "tuple.__rmul__")) Ep.lookup (by decide +kernel) Fs.lookup (by decide +kernel)
theorem ztl:seqRepeat? (.type "tuple")=pure (some (.builtin "tuple.__mul__")):=by
 unfold seqRepeat?
 rw [PySem.seqSlot_of (T:="tuple") (name:="__mul__") (id:="tuple.__mul__") Ep.lookup (by decide +kernel),PySem.seqSlot_of (T:="tuple") (name:="__rmul__") (id:="tuple.__rmul__") Fs.lookup (by decide +kernel)]
 rfl
section
open PySem.SeqAt
open PySem.AutoSeq1 (wpAny_loadPart')
open PySem.MeetsSeq PySem.MeetsSeq2 PySem.MeetsSeq3
theorem zmx(a:Int)(t:yS)(l:dm)(items:Array gV)(n:Nat)(dd:Option dm)(sl:Array (Option gV)) :
  Meets (zJ.«int.__rmul__» ⟨[.int a t,.ref l],[]⟩) (fun _ R s=>s.heap.get? l=some { cls:=.type "tuple",dict:=dd,data:=.seq items n,slots:=sl }/\R (.ok (.ret Fb)) s) :=
 .of_wp fun prog w A R s h=>by obtain⟨hp,g,d,tk,os⟩:=s;obtain⟨hl,h⟩:=h;wp_walk;exact⟨_,rfl,h⟩
theorem zuv(l:dm)(items:Array gV)(n:Nat)(dd:Option dm)(sl:Array (Option gV))(k:Int)(t:yS)(h0:items.isEmpty=false)(h1:2<=k)(h2:k<2^62)(h3:items.size*k.toNat<=yb) :
  Meets (zJ.«tuple.__mul__» ⟨[.ref l,.int k t],[]⟩) (fun _ R s=>s.heap.get? l=some { cls:=.type "tuple",dict:=dd,data:=.seq items n,slots:=sl } /\
   R (.ok (.ret (.ref s.heap.objs.size))) { s with heap:=s.heap.push { cls:=.type "tuple",data:=.seq ((xY k.toNat items).foldl (·++·) #[]) } }) :=
 .of_wp fun prog w A R s h=>by
  obtain⟨hp,g,d,tk,os⟩:=s;obtain⟨hl,h⟩:=h
  have f1:=AutoSeq1.idx_int
  have i0:(items.size:Int)*k<=(yb:Int):=by
   have e:((items.size*k.toNat:Nat):Int)=(items.size:Int)*k:=by rw [Int.natCast_mul,Er (by omega)]
   rw [<- e]
   exact Int.ofNat_le.mpr h3
  have hA:¬ (decide (k < -2^63)||decide (k ≥ 2^63))=true:=by
   simp only [Dt,decide_eq_true_eq,not_or]
   constructor <;> omega
  have hB:¬ (items.isEmpty||k==1)=true:=by
   rw [h0]
   simp only [Bool.false_or,beq_iff_eq]
   omega
  have hC:¬ (decide (k<=0)||items.isEmpty)=true:=by
   rw [h0]
   simp only [Bool.or_false,decide_eq_true_eq]
   omega
  have sz:(yb:Int)<=16777216:=by rw [zf];decide
  have hD:¬ (items.size:Int)*k > (2^63-1) / 8:=by omega
  have hE:¬ Ft ((items.size:Int)*k)=true:=by
   unfold Ft
   simp only [decide_eq_true_eq]
   omega
  have hs:sizeOk (.seq (List.foldl (fun x1 x2=>x1++x2) #[] (xY k.toNat items))):=by
   obtain⟨its⟩:=items
   have:=foldl_rep its k.toNat []
   rw [yR] at this
   rw [this]
   show(xY k.toNat its).flatten.toArray.size<=yb
   rw [yv,len_rep,Nat.mul_comm]
   exact h3
  wp_walk
  rw [if_neg hA]
  wp_walk using B8 hl
  rw [if_neg hB]
  wp_walk
  rw [if_neg hC]
  wp_walk
  rw [if_neg hD]
  wp_walk
  rw [if_neg (show ¬ (List.foldl (fun x1 x2=>x1++x2) #[] (xY k.toNat items)).size > yb from Ds.mpr hs)]
  wp_walk
  exact⟨_,rfl,h⟩
end
section
theorem ztQ{t sl:dm}{vl vu:gV}{lo:Option Int}(ht:Aq s.heap t items)(hs:s.heap.IsSliceOf sl vl vu .none)(pl:AD vl lo)(pu:AD vu hi)
  (hw:HT.aY items.size 0 lo=0/\HT.aY items.size items.size hi=items.size)(h:Q (.ref t) s):xS (xT prog w) A (AU (.ref t) (.ref sl)) Q E s:=by
 obtain⟨os,oN,m8,sI⟩:=id hs
 have hTs:s.TypeIs (.ref sl) "slice":=⟨os,oN,m8⟩
 unfold AU
 try with_reducible refine zC ?_
 first|refine lb (xX ?_)|skip
 refine lb (wpAny_sequenceKey ht.typeIs (by decide) ?_)
 refine lb (Dd (name:=De "__getitem__") ht.typeIs B9
  (Bz B9 ht.typeIs entry_tuple_getitem ?_ (args_tuple_getitem _ _)))
 show xS _ _ (Fd (.ref t) >>= _) _ _ s
 refine lb (tupleItemsOf_ ht ?_)
 refine lb (Cb hTs ?_)
 rw [if_pos (by decide)]
 refine lb (HT.zhT hs pl pu ?_)
 show xS _ _ (if(((HT.aY items.size 0 lo:Nat):Int)==0&&(1:Int)==1&&(HT.aY items.size items.size hi-HT.aY items.size 0 lo)==items.size)=true then _ else _) _ _ s
 rw [hw.1,hw.2,if_pos (by simp)]
 refine lb (m:=Fu _) ?_
 unfold Fu
 refine lb (Cb ht.typeIs (xX ?_))
 rw [if_pos (by decide)]
 exact lb (C0 (lb (xX (xX ⟨_,rfl,xX h⟩))))
end
section
theorem j7:bf X (zA .Mult) (rD X.K dQ):=by
 intro pins s σ H x y v u Q I rx ry h
 obtain⟨dx,dy,d,tx,ty,e,q⟩:=h
 cases dx with
 | int i =>
  cases dy with
  | int j =>
   obtain⟨c,e⟩:=gi (show bc (tH i j) (.ok (.int (i*j)))=.ok d from e)
   cases e
   exact zqw pins s σ H x y v u Q I rx ry ⟨i,j,tx.int,ty.int,zpD c,q _ H (aM.refl _) (iw _)⟩
  | _=>exact nomatch (show(R.bad:R D)=.ok d from e)
 | tuple a =>
  cases dy with
  | int k =>
   obtain⟨c,e⟩:=gi (show bc (!a.isEmpty&&leB 2 k.toNat&&leB k.toNat 1000000&&leB (a.length*k.toNat) lim) (.ok (.tuple (xY k.toNat a).flatten))=.ok d from e)
   cases e
   simp only [yw,leB_iff] at c
   obtain⟨⟨⟨c0,c1⟩,c2⟩,c3⟩:=c
   obtain⟨l,xs,rfl,sx,fx⟩:=tx.tup
   have:=ty.int
   subst this
   cases rx
   obtain⟨t,rfl⟩:=ry
   obtain⟨its,r1,p1,z1⟩:=I.tuple sx
   obtain⟨⟨cls,dd,data,sl⟩,ho,hc,n,hd⟩:=id p1
   simp only at hc hd
   subst hc hd
   have hl:its.length=a.length:=by rw [<- r1.length,fx.len]
   have hz:its.length*k.toNat<=yb:=by rw [hl];exact yx c3 nj
   have he:its.toArray.isEmpty=false:=by
    cases its with
    | nil=>simp only [yB] at hl;cases a with|nil=>simp at c0|cons _ _=>simp at hl
    | cons _ _=>rfl
   refine wpAny_binaryOp_repeat_ref (T:="tuple") (U:="int") (by decide) ⟨_,ho,rfl⟩ (fun s'=>typeIs_int s' k t) zpL PySem.F.fills_int_mul Fv ztl PySem.F.slot_int_index.lookup
    (Dh Fv (typeIs_int s k t) PySem.F.entry_int_rmul (PySem.F.args_int_rmul_2 _ _) (zmx k t l its.toArray n dd sl)
     ⟨ho,rfl,⟨_,ho,rfl⟩,Dh Ep ⟨_,ho,rfl⟩ PySem.F.entry_tuple_mul (PySem.F.args_tuple_mul_2 _ _) (zuv l its.toArray n dd sl k t he (by omega) (by omega) (by rw [yv];exact hz)) ⟨ho,?_⟩⟩)
   have en:=foldl_rep its k.toNat []
   rw [yR] at en
   rw [en]
   have hp:H s.heap.objs.size=none:=I.ax.fresh (x9 _)
   refine⟨.ref s.heap.objs.size,_,I.laid (t':=s.toks) (o:=.tup (xY k.toNat xs).flatten) (fun b ob q=>yh _ q) (x9 _) ⟨by rw [len_rep,Nat.mul_comm,r1.length];exact hz,_,r1.rep k.toNat,Cv _ _⟩,rfl,
    q _ _ (aM.upd hp) (vQ (.inl bX) ((fx.rep k.toNat).mono (aC.of (aM.upd hp))))⟩
  | _=>exact nomatch (show(R.bad:R D)=.ok d from e)
 | _=>exact nomatch (show(R.bad:R D)=.ok d from e)
theorem zj4{ds:List α}{lo:Option Int}(h1:FL.aY ds.length 0 lo=0)(h2:FL.aY ds.length ds.length hi=ds.length):FL.cut ds lo hi=ds:=by
 unfold FL.cut
 rw [h1,h2]
 simp
theorem pE:rM X (zhF X.K):=by
 intro pins s σ H x v vl vu lo hi sl Q I rx hs pl pu h
 obtain⟨dx,d,tx,e,q⟩:=h
 cases dx with
 | list a =>
  cases e
  obtain⟨l,xs,rfl,sx,fx⟩:=tx.lst
  obtain⟨T,id,h1,h2,h3⟩:=ztM pins s σ H _ v vl vu lo hi sl (fun v H1=>∃ p,v=.ref p/\H p=none/\H1=upd H p (.lst (lB xs lo hi))) I rx hs pl pu ⟨l,xs,rfl,sx,fun p hp=>⟨p,rfl,hp,rfl⟩⟩
  exact⟨T,id,h1,h2,aN h3 fun _ _ z=>zbw (fx.cut lo hi) q z⟩
 | tuple a =>
  cases e
  obtain⟨l,xs,rfl,sx,fx⟩:=tx.tup
  by_cases w:HT.aY xs.length 0 lo=0/\HT.aY xs.length xs.length hi=xs.length
  ·cases rx
   obtain⟨its,r,ht,hz⟩:=I.tuple sx
   have hlen:its.toArray.size=xs.length:=by rw [yv];exact r.length.symm
   refine⟨"tuple",_,B9.lookup,ht.typeIs,ztQ ht hs pl pu (by rw [hlen];exact w) ⟨.ref l,H,I,rfl,q _ H (aM.refl _) ?_⟩⟩
   rw [fx.len] at w
   rw [zj4 w.1 w.2]
   exact tx
  ·exact ztN pins s σ H _ v vl vu lo hi sl Q I rx hs pl pu ⟨l,xs,rfl,sx,w,fun p hp=>q _ _ (aM.upd hp) (vQ (.inl bX) ((fx.cut lo hi).mono (aC.of (aM.upd hp))))⟩
 | _=>exact nomatch (show(R.bad:R D)=.ok d from e)
end
end
variable {tn:ib}{E:XK}{s:SF}{p:xW}
section
variable [Cs]
section
def gX(X:Cx)(f:gV)(g:D->R D):Prop:=gG X f (rD0 X.K g)
theorem gX.ds{f:gV}{g:D->R D}(h:gX X f g):gG X f (uo X.K (one g)):=fun pins s σ H xs us Q I r ⟨ds,d,fz,e,q⟩=>by
 cases ds with
 | nil=>exact nomatch (show(R.bad:R D)=.ok d from e)
 | cons d0 r0 =>
  cases r0 with
  | nil =>
   simp only [aj] at fz
   obtain⟨v,r',rfl,fv,e2⟩:=fz
   subst e2
   exact h pins s σ H _ us Q I r ⟨v,d0,d,rfl,fv.tp,e,q⟩
  | cons _ _=>exact nomatch (show(R.bad:R D)=.ok d from e)
theorem mQ:gX X (.builtin "len") bR:=by
 intro pins s σ H xs us Q I r h
 obtain⟨x,dx,d,rfl,tx,e,q⟩:=h
 cases dx with
 | list a=>obtain⟨p,vs,rfl,sx,fx⟩:=tx.lst;cases e;exact zey pins s σ H _ us Q I r ⟨p,vs,rfl,.inl sx,by rw [fx.len];exact q _ H (aM.refl _) (iw _)⟩
 | tuple a=>obtain⟨p,vs,rfl,sx,fx⟩:=tx.tup;cases e;exact zey pins s σ H _ us Q I r ⟨p,vs,rfl,.inr sx,by rw [fx.len];exact q _ H (aM.refl _) (iw _)⟩
 | _=>exact nomatch (show(R.bad:R D)=.ok d from e)
theorem zaI:gX X (.builtin "abs") jq:=by
 intro pins s σ H xs us Q I r h
 obtain⟨x,dx,d,rfl,tx,e,q⟩:=h
 cases dx with
 | int i=>have:=tx.int;subst this;cases e;exact zjC pins s σ H _ us Q I r ⟨i,rfl,q _ H (aM.refl _) (iw _)⟩
 | _=>exact nomatch (show(R.bad:R D)=.ok d from e)
theorem zjA(hc:X.calm=true):gX X (.builtin "sum") zh0:=by
 intro pins s σ H xs us Q I r h
 obtain⟨x,dx,d,rfl,tx,e,q⟩:=h
 cases dx with
 | list a =>
  obtain⟨p,vs,rfl,sx,fx⟩:=tx.lst
  replace e:((R.of (intsOf a)).bind fun x=>R.ok (yy x.sum))=.ok d:=e
  cases ea:intsOf a with
  | none=>rw [ea] at e;cases e
  | some ns =>
   rw [ea] at e
   cases e
   obtain⟨rfl,_⟩:=fx.ints ea
   exact zjK hc pins s σ H _ us Q I r ⟨p,ns,rfl,sx,q _ H (aM.refl _) (iw _)⟩
 | _=>exact nomatch (show(R.bad:R D)=.ok d from e)
theorem zep(hc:X.calm=true):gX X (.builtin "all") pZ:=by
 intro pins s σ H xs us Q I r h
 obtain⟨x,dx,d,rfl,tx,e,q⟩:=h
 cases dx with
 | list a =>
  obtain⟨p,vs,rfl,sx,fx⟩:=tx.lst
  replace e:((R.of (boolsOf a)).bind fun x=>R.ok (zo (x.all id)))=.ok d:=e
  cases ea:boolsOf a with
  | none=>rw [ea] at e;cases e
  | some ns =>
   rw [ea] at e
   cases e
   obtain⟨rfl,_⟩:=fx.bools ea
   exact zjD hc pins s σ H _ us Q I r ⟨p,ns,rfl,sx,q _ H (aM.refl _) (mZ _)⟩
 | _=>exact nomatch (show(R.bad:R D)=.ok d from e)
theorem vp:gX X (.type "tuple") ft:=by
 intro pins s σ H xs us Q I r h
 obtain⟨x,dx,d,rfl,tx,e,q⟩:=h
 cases dx with
 | list a =>
  obtain⟨p,vs,rfl,sx,fx⟩:=tx.lst
  cases e
  exact zez pins s σ H _ us Q I r ⟨p,vs,rfl,.inl ⟨sx,fun l hl=>q _ _ (aM.upd hl) (vQ (.inl bX) (fx.mono (aC.of (aM.upd hl))))⟩⟩
 | tuple a =>
  obtain⟨p,vs,rfl,sx,fx⟩:=tx.tup
  cases e
  exact zez pins s σ H _ us Q I r ⟨p,vs,rfl,.inr ⟨sx,q _ H (aM.refl _) tx⟩⟩
 | _=>exact nomatch (show(R.bad:R D)=.ok d from e)
end
theorem Tp.ty{K:kb}{x:V}(c:zic d=true)(h:Tp K H d x):Ty K H x (.type (zdn d)):=by
 cases d with
 | none=>have:=h.none;subst this;exact .non
 | bool b=>have:=h.bool;subst this;exact .bl b
 | int b=>have:=h.int;subst this;exact .int b
 | str b =>
  have:x=.str b:=by simpa [Tp,Fz] using h
  subst this;exact .str b
 | list b=>obtain⟨_,_,rfl,s,_⟩:=h.lst;exact .lst s
 | tuple b=>obtain⟨_,_,rfl,s,_⟩:=h.tup;exact .tup s
 | dict b=>cases c
def nX(T:String):Prop:=∀(K:kb) (d:D),x4 K (.type (zdn d)) (.type T)=some (cA T d)
theorem wz(h0:KC.cJ "NoneType" T=some (cA T .none)) (h1:∀ b,KC.cJ "bool" T=some (cA T (.bool b))) (h2:∀ b,KC.cJ "int" T=some (cA T (.int b))) (h3:∀ b,KC.cJ "str" T=some (cA T (.str b))) (h4:∀ b,KC.cJ "list" T=some (cA T (.list b)))
  (h5:∀ b,KC.cJ "tuple" T=some (cA T (.tuple b))) (h6:∀ b,KC.cJ "dict" T=some (cA T (.dict b))):nX T:=fun K d=>by
 cases d with
 | none=>exact h0
 | bool b=>exact h1 b
 | int b=>exact h2 b
 | str b=>exact h3 b
 | list b=>exact h4 b
 | tuple b=>exact h5 b
 | dict b=>exact h6 b
theorem zoZ:nX "int":=wz (by decide +kernel) (fun _=>(by decide +kernel:KC.cJ "bool" "int"=some (cA "int" (.bool true)))) (fun _=>(by decide +kernel:KC.cJ "int" "int"=some (cA "int" (.int 0)))) (fun _=>(by decide +kernel:KC.cJ "str" "int"=some (cA "int" (.str "")))) (fun _=>(by decide +kernel:KC.cJ "list" "int"=some (cA "int" (.list [])))) (fun _=>(by decide +kernel:KC.cJ "tuple" "int"=some (cA "int" (.tuple [])))) (fun _=>(by decide +kernel:KC.cJ "dict" "int"=some (cA "int" (.dict []))))
theorem zfW:nX "bool":=wz (by decide +kernel) (fun _=>(by decide +kernel:KC.cJ "bool" "bool"=some (cA "bool" (.bool true)))) (fun _=>(by decide +kernel:KC.cJ "int" "bool"=some (cA "bool" (.int 0)))) (fun _=>(by decide +kernel:KC.cJ "str" "bool"=some (cA "bool" (.str "")))) (fun _=>(by decide +kernel:KC.cJ "list" "bool"=some (cA "bool" (.list [])))) (fun _=>(by decide +kernel:KC.cJ "tuple" "bool"=some (cA "bool" (.tuple [])))) (fun _=>(by decide +kernel:KC.cJ "dict" "bool"=some (cA "bool" (.dict []))))
theorem kit_tuple:nX "tuple":=wz (by decide +kernel) (fun _=>(by decide +kernel:KC.cJ "bool" "tuple"=some (cA "tuple" (.bool true)))) (fun _=>(by decide +kernel:KC.cJ "int" "tuple"=some (cA "tuple" (.int 0)))) (fun _=>(by decide +kernel:KC.cJ "str" "tuple"=some (cA "tuple" (.str "")))) (fun _=>(by decide +kernel:KC.cJ "list" "tuple"=some (cA "tuple" (.list [])))) (fun _=>(by decide +kernel:KC.cJ "tuple" "tuple"=some (cA "tuple" (.tuple [])))) (fun _=>(by decide +kernel:KC.cJ "dict" "tuple"=some (cA "tuple" (.dict []))))
theorem zo0:nX "list":=wz (by decide +kernel) (fun _=>(by decide +kernel:KC.cJ "bool" "list"=some (cA "list" (.bool true)))) (fun _=>(by decide +kernel:KC.cJ "int" "list"=some (cA "list" (.int 0)))) (fun _=>(by decide +kernel:KC.cJ "str" "list"=some (cA "list" (.str "")))) (fun _=>(by decide +kernel:KC.cJ "list" "list"=some (cA "list" (.list [])))) (fun _=>(by decide +kernel:KC.cJ "tuple" "list"=some (cA "list" (.tuple [])))) (fun _=>(by decide +kernel:KC.cJ "dict" "list"=some (cA "list" (.dict []))))
section
variable {K:kb}{a:o1}
theorem zrZ(kt:nX T)(hg:Gl X "isinstance") (hm:X.mg "isinstance"=none) (hg2:Gl X tn) (iB:X.mg tn=none) (hv2:yJ tn=some (.type T)) (ha:PV K X a f) (hn:tn ≠ "__name__":=by decide) (hd:(tn==("__debug__":ib))=false:=by decide)
  (jB:pd [a,.Name tn p2] X.env=(false,xZ a X.env)::pd [.Name tn p2] X.env:=by exact FL.se rfl) (eZ:pd [.Name tn p2] X.env=(false,xZ (.Name tn p2) X.env)::pd [] X.env:=by exact FL.se rfl) (bj:(yp pos (pd [.Name tn p2] X.env)).any (·.1)=false:=by exact FL.sp rfl) :
  PV K X (.Call (.Name "isinstance" p) [a,.Name tn p2] [] pos) (e1 (fT T) f):=.mk fun hK=>by
 subst hK
 refine(wV (x:="isinstance") (id:="isinstance") zjF hg hm KC.Bt.isinstance (gQ (ha rfl) (gQ (zgY hg2 iB hv2 hn hd) jH eZ) jB) (by decide) (by decide) jB bj).weak fun σ H Q=>?_
 rintro⟨ρ,rel,q⟩
 refine eE rel q fun dx ρ1 x H1 ak aW fx q1=>?_
 obtain⟨d,ed,q3⟩:=q1.cD
 obtain⟨c,ed⟩:=gi ed
 cases ed
 exact⟨x,.ty T,_,_,rfl,(fun z=>nomatch z),fx.tp.ty c,kt X.K dx,q3.now ak _ (mZ _)⟩
theorem zc2{f:EF}(h:PV K X e (aP (one g) (aa f ae))):PV K X e (e1 g f):=.mk fun hK=>(h hK).weak fun σ H Q=>by
 rintro⟨ρ,rel,q⟩
 refine⟨ρ,rel,?_⟩
 have:aP (one g) (aa f ae) ρ=e1 g f ρ:=by
  unfold aP aa ae e1
  cases f ρ with
  | ok x=>rfl
  | _=>rfl
 rw [this]
 exact q
end
end
variable {y:ib}{py:xW}{i:Nat}{g:D->D->R D}
section
variable [Cs]
section
variable {K:kb}
theorem zcz(h:bt ρ i=.ok d):∃ p,ρ[i]?=some (.ow p d):=by
 unfold bt at h
 cases e:ρ[i]? with
 | none=>rw [e] at h;cases h
 | some x =>
  rw [e] at h
  cases x with
  | ow p c=>cases h;exact⟨p,rfl⟩
  | _=>cases h
theorem Rel.j4(r:Rel K ρ σ H)(h:bt ρ i=.ok d):∃ a,At ρ σ i a/\cY K H a d:=by
 obtain⟨p,e⟩:=zcz h
 have hl:i<σ.length:=by rw [<- r.len];exact(yu.mp e).1
 have o:=r.ok i _ _ e (yC hl)
 cases es:σ[i] with
 | none=>rw [es] at o;exact o.elim
 | some v =>
  rw [es] at o
  cases v with
  | ref a=>exact⟨a,⟨⟨p,d,e⟩,by rw [yC hl,es]⟩,o⟩
  | _=>exact o.elim
theorem Rel.again(r:Rel K ρ1 σ H1)(h:bt ρ1 i=.ok d)(bz:At ρ σ i a):cY K H1 a d:=by
 obtain⟨b,ab,m⟩:=r.j4 h
 have:=bz.2.symm.trans ab.2
 cases this
 exact m
theorem Rel.zrP(r:Rel K ρ σ H)(bz:At ρ σ i a)(m:cY K (upd H a o) a d):Rel K (de ρ i d) σ (upd H a o):=by
 obtain⟨⟨p,c,e⟩,es⟩:=bz
 have hp:de ρ i d=ρ.set i (.ow p d):=by unfold de;rw [e]
 obtain⟨u,hu,ow⟩:=r.fe ⟨i,⟨p,c,e⟩,es⟩
 have f:aC H (upd H a o):=fun b w eb st=>by
  rw [aT fun z=>by subst z;rw [hu] at eb;cases eb;exact ow.ja st]
  exact eb
 have hl:i<ρ.length:=(yu.mp e).1
 rw [hp]
 refine⟨by rw [Aa];exact r.len,fun j x v e1 e2=>?_,fun j k b h1 h2=>?_,r.cst.mono f⟩
 ·by_cases c:i=j
  ·subst c
   rw [yH hl] at e1
   cases e1
   rw [es] at e2
   cases e2
   exact m
  ·rw [yL c] at e1
   refine(r.ok j x v e1 e2).mono f fun b e3 ⟨q,dd,e4⟩=>?_
   subst e3;subst e4
   refine aT fun z=>?_
   subst z
   exact c (r.sep i j b ⟨⟨p,_,e⟩,es⟩ ⟨⟨q,dd,e1⟩,e2⟩)
 ·have w:∀ j b,At (ρ.set i (.ow p d)) σ j b->At ρ σ j b:=fun j b ⟨⟨q,dd,e1⟩,e2⟩=>by
   by_cases c:i=j
   ·subst c;exact⟨⟨p,_,e⟩,e2⟩
   ·rw [yL c] at e1;exact⟨⟨q,dd,e1⟩,e2⟩
  exact r.sep j k b (w _ _ h1) (w _ _ h2)
theorem zhY(bz:At ρ σ i a):bZ ρ (de ρ i d) σ H (upd H a o):=by
 obtain⟨⟨p,c,e⟩,es⟩:=bz
 have hp:de ρ i d=ρ.set i (.ow p d):=by unfold de;rw [e]
 have hl:i<ρ.length:=(yu.mp e).1
 rw [hp]
 refine⟨fun j q=>?_,fun b w eb n=>?_⟩
 ·by_cases c:i=j
  ·subst c
   rw [yH hl,e]
   constructor
   ·rintro⟨_,z⟩;cases z;exact⟨_,rfl⟩
   ·rintro⟨_,z⟩;cases z;exact⟨_,rfl⟩
  ·rw [yL c]
 ·rw [aT fun z=>by subst z;exact n ⟨i,⟨p,c,e⟩,es⟩]
  exact eb
end
section
variable {K:kb}{a c:o1}{k:EF}
theorem zl0{g:D->R D}(hr:∀ xs H Q,rD0 K g xs H Q->r xs H Q)(σ:L2.St)(H:Hp)(Q:VK)(q:tV K (m1 g i) σ H Q):xC r (zh1 (cV i) zh3) σ H Q:=by
 obtain⟨ρ,rel,q⟩:=q
 obtain⟨d,ed,q1⟩:=q.cD
 obtain⟨x,ex,q2⟩:=q1.cD
 obtain⟨ad,bz,m⟩:=rel.j4 ed
 exact⟨.ref ad,bz.2,hr _ _ _ ⟨.ref ad,d,x,rfl,m.tp,ex,fun v H' s fz=>q2.new rel s v fz⟩⟩
theorem zr0{id:String}{g:D->R D}(i:Nat)(hc:gX X (.builtin id) g)(hg:Gl X x)(hm:X.mg x=none)(hv:yJ x=some (.builtin id))(ha:PE X (.Name y py) (cV i))(hn:x ≠ "__name__":=by decide) (bA:(x==("__debug__":ib))=false:=by decide) :
  PV K X (.Call (.Name x p) [.Name y py] [] pos) (m1 g i):=.mk fun hK=>by
 subst hK
 exact(wV hc hg hm hv (gQ ha jH) hn bA).weak fun σ H Q q=>zl0 (fun _ _ _ z=>z) σ H Q q
theorem zl1{r:R2}(hr:∀ x y H Q,rD K g x y H Q->r x y H Q)(σ:L2.St)(H:Hp)(Q:VK)(q:tV K (m2 g i h) σ H Q):pI r (cV i) (tV K h) σ H Q:=by
 obtain⟨ρ,rel,q⟩:=q
 obtain⟨d,ed,q1⟩:=q.cD
 obtain⟨ad,bz,m⟩:=rel.j4 ed
 refine⟨.ref ad,bz.2,eE rel q1 fun dy ρ1 y H1 ak aW fy q2=>?_⟩
 obtain⟨d2,sf,q3⟩:=q2.cD
 obtain⟨x,ex,q4⟩:=q3.cD
 exact hr _ _ _ _ ⟨d2,dy,x,(ak.again sf bz).tp,fy.tp,ex,fun v H' s fz=>q4.new ak s v fz⟩
theorem zr1(i:Nat)(ho:kZ X (rD X.K g))(ha:PE X (.Name y py) (cV i))(hb:PV K X b h)(hs:uT b:=by exact fun _ _=>rfl):PV K X (.Subscript (.Name y py) b pos) (m2 g i h):=.mk fun hK=>by
 subst hK
 exact(zgW ho ha (hb rfl) hs).weak fun σ H Q q=>zl1 (fun _ _ _ _ z=>z) σ H Q q
theorem zl2{r:R2}(hr:∀ x y H Q,rD K g x y H Q->r x y H Q)(σ:L2.St)(H:Hp)(Q:VK)(q:tV K (fV g f i) σ H Q):pI r (tV K f) (cV i) σ H Q:=by
 obtain⟨ρ,rel,q⟩:=q
 refine eE rel q fun dx ρ1 x H1 ak aW fx q2=>?_
 obtain⟨d2,sf,q3⟩:=q2.cD
 obtain⟨x,ex,q4⟩:=q3.cD
 obtain⟨ad,bz,m⟩:=ak.j4 sf
 exact⟨.ref ad,bz.2,hr _ _ _ _ ⟨dx,d2,x,fx.tp,m.tp,ex,fun v H' s fz=>q4.new ak s v fz⟩⟩
theorem zsk(i:Nat)(ho:bf X (yj op) (rD X.K g))(ha:PV K X a f)(hb:PE X (.Name y py) (cV i))(hm:zO op (.Name y py)=false):eS K X (.Compare a [op] [.Name y py] pos) (tB (fV g f i)):=.mk fun hK=>by
 subst hK
 exact(zhg ho (ha rfl) hb hm).weak fun σ H Q q=>goB (fun σ H Q z=>zl2 (fun _ _ _ _ z=>z) σ H Q z) σ H Q q
end
end
variable {C:SC}{tc:TF}{gs:List GF}{b t:SF}{dom:List Nat}{r:R (Fl×En)}{ke tg:o1}{pos':xW}{c:List D}{g:GF}
section
variable [Cs]
structure SC where
 H₀:Hp
 σ₀:L2.St
 ρ₀:En
structure bH(K:kb)(C:SC)(ρ:En)(σ:L2.St)(H:Hp):Prop where
 rel:Rel K ρ σ H
 keep:∀ a o,C.H₀ a=some o->¬ MA C.ρ₀ C.σ₀ a->H a=some o
 own:∀(i:Nat) a d,ρ[i]?=some (.ow false d)->σ[i]?=some (some (.ref a))->C.H₀ a=none
 pin:∀(i:Nat),(∃ d,ρ[i]?=some (.ow true d))↔∃ d,C.ρ₀[i]?=some (.ow true d)
 fix:∀(i:Nat) d,ρ[i]?=some (.ow true d)->σ[i]?=C.σ₀[i]?
 nH:∀(i:Nat) p d,C.ρ₀[i]?=some (.ow p d)->p=true
section
variable {K:kb}{σ1:L2.St}
theorem bH.wK(r:bH K C ρ σ H)(e:C.H₀ a=some o)(n:¬ MA C.ρ₀ C.σ₀ a):¬ MA ρ σ a:=by
 rintro⟨i,⟨p,d,e1⟩,e2⟩
 cases p with
 | false=>rw [r.own i a d e1 e2] at e;cases e
 | true =>
  obtain⟨d0,e0⟩:=(r.pin i).mp ⟨d,e1⟩
  exact n ⟨i,⟨true,d0,e0⟩,by rw [<- r.fix i d e1];exact e2⟩
theorem bH.step(r:bH K C ρ σ H)(rel:Rel K ρ1 σ H1)(st:bZ ρ ρ1 σ H H1):bH K C ρ1 σ H1 where
 rel:=rel
 keep:=fun a o e n=>st.kp a o (r.keep a o e n) (r.wK e n)
 own:=fun i a d e1 e2=>by
  obtain⟨d',e'⟩:=(st.md i false).mpr ⟨d,e1⟩
  exact r.own i a d' e' e2
 pin:=fun i=>(st.md i true).symm.trans (r.pin i)
 fix:=fun i d e=>by
  obtain⟨d',e'⟩:=(st.md i true).mpr ⟨d,e⟩
  exact r.fix i d' e'
 nH:=r.nH
def jO(dom:List Nat)(ρ ρ1:En)(σ σ1:L2.St):Prop:=σ1.length=σ.length/\∀(i:Nat),(ρ1[i]?=ρ[i]?/\σ1[i]?=σ[i]?)\/(i∈dom/\(∃ d,ρ1[i]?=some (.val d))/\∀ e,ρ[i]?≠some (.ow true e))
theorem jO.refl:jO dom ρ ρ σ σ:=⟨rfl,fun _=>.inl ⟨rfl,rfl⟩⟩
theorem jO.trans{d1 d2:List Nat}{ρ2:En}{σ2:L2.St}(a:jO d1 ρ ρ1 σ σ1)(b:jO d2 ρ1 ρ2 σ1 σ2):jO (d1++d2) ρ ρ2 σ σ2:=⟨b.1.trans a.1,fun i=>by
 rcases b.2 i with⟨b1,b2⟩|⟨bm,b1,b2⟩
 ·rcases a.2 i with⟨a1,a2⟩|⟨am,a1,a2⟩
  ·exact .inl ⟨b1.trans a1,b2.trans a2⟩
  ·exact .inr ⟨Bm _ am,by rw [b1];exact a1,a2⟩
 ·rcases a.2 i with⟨a1,a2⟩|⟨am,a1,a2⟩
  ·exact .inr ⟨zZ _ bm,b1,fun e z=>b2 e (by rw [a1];exact z)⟩
  ·exact .inr ⟨Bm _ am,b1,a2⟩⟩
theorem bH.chg(r:bH K C ρ σ H)(rel:Rel K ρ1 σ1 H)(c:jO dom ρ ρ1 σ σ1):bH K C ρ1 σ1 H where
 rel:=rel
 keep:=r.keep
 own:=fun i a d e1 e2=>by
  rcases c.2 i with⟨c1,c2⟩|⟨_,⟨d',c1⟩,c2⟩
  ·exact r.own i a d (by rw [<- c1];exact e1) (by rw [<- c2];exact e2)
  ·rw [c1] at e1;cases e1
 pin:=fun i=>by
  rcases c.2 i with⟨c1,c2⟩|⟨_,⟨d',c1⟩,c2⟩
  ·rw [c1];exact r.pin i
  ·rw [c1,<- r.pin i]
   constructor
   ·rintro⟨_,z⟩;cases z
   ·rintro⟨d,z⟩;exact absurd z (c2 d)
 fix:=fun i d e=>by
  rcases c.2 i with⟨c1,c2⟩|⟨_,⟨d',c1⟩,c2⟩
  ·rw [c2];exact r.fix i d (by rw [<- c1];exact e)
  ·rw [c1] at e;cases e
 nH:=r.nH
theorem bH.fresh(r:bH K C ρ σ H)(ha:H a=none):C.H₀ a=none:=by
 cases e0:C.H₀ a with
 | none=>rfl
 | some o =>
  by_cases k:MA C.ρ₀ C.σ₀ a
  ·obtain⟨i,⟨p,d0,e1⟩,e2⟩:=k
   have:=r.nH i p d0 e1
   subst this
   obtain⟨d2,e3⟩:=(r.pin i).mpr ⟨d0,e1⟩
   obtain⟨o',e',_⟩:=r.rel.fe ⟨i,⟨true,d2,e3⟩,by rw [r.fix i d2 e3];exact e2⟩
   rw [ha] at e';cases e'
  ·rw [r.keep a o e0 k] at ha;cases ha
def dI(K:kb)(C:SC)(H:Hp)(r:R (Fl×En))(Dn:Ends):Prop:=match r with
 | .ok x=>match x.1 with
  | .nx=>∀ σ' H',bH K C x.2 σ' H'->aC H H'->Dn.nx σ' H'
  | .bk=>∀ σ' H',bH K C x.2 σ' H'->aC H H'->Dn.bk σ' H'
  | .ct=>∀ σ' H',bH K C x.2 σ' H'->aC H H'->Dn.ct σ' H'
  | .rt d=>∀ v σ' H',bH K C x.2 σ' H'->Fz K H' d v->Dn.rt v H'
  | .rf d=>∀ a σ' H',bH K C x.2 σ' H'->C.H₀ a=none->cY K H' a d->Dn.rt (.ref a) H'
 | _=>False
theorem dI.step{Dn:Ends}(f:aC H H1)(g:dI K C H r Dn):dI K C H1 r Dn:=by
 cases r with
 | ok x =>
  obtain⟨fl,ρ⟩:=x
  cases fl with
  | nx=>exact fun σ' H' r z=>g σ' H' r (f.trans z)
  | bk=>exact fun σ' H' r z=>g σ' H' r (f.trans z)
  | ct=>exact fun σ' H' r z=>g σ' H' r (f.trans z)
  | rt d=>exact g
  | rf d=>exact g
 | _=>exact g
theorem dI.bM{r:R β}{k:β->R (Fl×En)}{Dn:Ends}(g:dI K C H (r.bind k) Dn):∃ x,r=.ok x/\dI K C H (k x) Dn:=by
 cases r with
 | ok x=>exact⟨x,rfl,g⟩
 | _=>exact g.elim
noncomputable def tS(K:kb)(C:SC)(f:SF):TS:=fun Dn σ H=>∃ ρ,bH K C ρ σ H/\dI K C H (f ρ) Dn
theorem i3{S:VK}{Dn:Ends}(rel:bH K C ρ σ H)(g:dI K C H ((f ρ).bind k) Dn)
  (h:∀ d ρ1 v H1,bH K C ρ1 σ H1->bZ ρ ρ1 σ H H1->Fz K H1 d v->dI K C H1 (k (d,ρ1)) Dn->S v H1):tV K f σ H S:=by
 obtain⟨x,e,g1⟩:=g.bM
 refine⟨ρ,rel.rel,?_⟩
 rw [e]
 exact fun H' r s v fz=>h x.1 x.2 v H' (rel.step r s) s fz (g1.step (s.dO rel.rel))
theorem zbI{f:TF}{k:Bool×En->R (Fl×En)}{Dn:Ends}(rel:bH K C ρ σ H)(g:dI K C H ((f ρ).bind k) Dn)
  (h:∀ b ρ1 H1,bH K C ρ1 σ H1->aC H H1->dI K C H1 (k (b,ρ1)) Dn->S b H1):tT K f σ H S:=by
 obtain⟨x,e,g1⟩:=g.bM
 refine⟨ρ,rel.rel,?_⟩
 rw [e]
 exact fun H' r s=>h x.1 x.2 H' (rel.step r s) (s.dO rel.rel) (g1.step (s.dO rel.rel))
theorem zfB{S:VK}{Dn:Ends}(rel:bH K C ρ σ H)(g:dI K C H ((f ρ).bind k) Dn)
  (h:∀ d ρ1 a H1,bH K C ρ1 σ H1->aC H H1->H a=none->¬ MA ρ1 σ a->cY K H1 a d->dI K C H1 (k (d,ρ1)) Dn->S (.ref a) H1):tN K f σ H S:=by
 obtain⟨x,e,g1⟩:=g.bM
 refine⟨ρ,rel.rel,?_⟩
 rw [e]
 refine fun H' r s a ha m=>h x.1 x.2 a H' (rel.step r s) (s.dO rel.rel) ha (fun z=>?_) m (g1.step (s.dO rel.rel))
 obtain⟨o',e',_⟩:=rel.rel.fe (s.ma.mpr z)
 rw [ha] at e';cases e'
end
structure dA(K:kb)(X:Cx)(st:x8)(f:SF):Prop where
 run:X.K=K->∀ C,PS X st (tS K C f)
instance {K:kb} {X:Cx} {st:x8} {f:SF}:CoeFun (dA K X st f) fun _=>X.K=K->∀ C,PS X st (tS K C f):=⟨dA.run⟩
structure eQ(K:kb)(X:Cx)(st:List x8)(f:SF):Prop where
 run:X.K=K->∀ C,bJ X st (tS K C f)
instance {K:kb} {X:Cx} {st:List x8} {f:SF}:CoeFun (eQ K X st f) fun _=>X.K=K->∀ C,bJ X st (tS K C f):=⟨eQ.run⟩
theorem _root_.L2.PS.weak{e:x8}{t t':TS}(h:PS X e t)(w:∀ Dn σ H,t' Dn σ H->t Dn σ H):PS X e t':=fun pins s σ H Dn I q=>h pins s σ H Dn I (w Dn σ H q)
theorem _root_.L2.bJ.weak{e:List x8}{t t':TS}(h:bJ X e t)(w:∀ Dn σ H,t' Dn σ H->t Dn σ H):bJ X e t':=fun pins s σ H Dn I q=>h pins s σ H Dn I (w Dn σ H q)
noncomputable def tG(K:kb)(dom:List Nat)(g:GF):TG:=fun v σ H Q=>∃ ρ d ρ1,Rel K ρ σ H/\Fz K H d v/\g d ρ=.ok ρ1/\∀ σ1,Rel K ρ1 σ1 H->jO dom ρ ρ1 σ σ1->Q σ1 H
noncomputable def tGs(K:kb)(dom:List Nat)(gs:List GF):lh:=fun vs σ H Q=>∃ ρ ds ρ1,Rel K ρ σ H/\aj K H ds vs/\gB gs ds ρ=.ok ρ1/\∀ σ1,Rel K ρ1 σ1 H->jO dom ρ ρ1 σ σ1->Q σ1 H
structure il(K:kb)(X:Cx)(dom:List Nat)(e:o1)(g:GF):Prop where
 run:X.K=K->PG X e (tG K dom g)
instance {K:kb} {X:Cx} {dom:List Nat} {e:o1} {g:GF}:CoeFun (il K X dom e g) fun _=>X.K=K->PG X e (tG K dom g):=⟨il.run⟩
structure pU(K:kb)(X:Cx)(dom:List Nat)(e:List o1)(g:List GF):Prop where
 run:X.K=K->k8 X e (tGs K dom g)
instance {K:kb} {X:Cx} {dom:List Nat} {e:List o1} {g:List GF}:CoeFun (pU K X dom e g) fun _=>X.K=K->k8 X e (tGs K dom g):=⟨pU.run⟩
theorem _root_.L2.PG.weak{t t':TG}(h:PG X e t)(w:∀ v σ H Q,t' v σ H Q->t v σ H Q):PG X e t':=fun pins s σ H v u Q I r q=>h pins s σ H v u Q I r (w v σ H Q q)
theorem _root_.L2.k8.weak{e:List o1}{t t':lh}(h:k8 X e t)(w:∀ v σ H Q,t' v σ H Q->t v σ H Q):k8 X e t':=fun pins s σ H v u Q I r q=>h pins s σ H v u Q I r (w v σ H Q q)
theorem Rel.set{K:kb}{ρ:En}{σ:L2.St}{H:Hp}{i:Nat}{x:Sl}{v:Option V}(r:Rel K ρ σ H)(o:iV K H x v)(s:∀ a p d,x=.ow p d->v=some (.ref a)->¬ MA ρ σ a):Rel K (ρ.set i x) (σ.set i v) H:=by
 refine⟨by rw [Aa,Aa];exact r.len,fun j y w e1 e2=>?_,fun j k b h1 h2=>?_,r.cst⟩
 ·by_cases c:i=j
  ·subst c
   by_cases hl:i<ρ.length
   ·rw [yH hl] at e1
    rw [yH (by rw [<- r.len];exact hl)] at e2
    cases e1;cases e2
    exact o
   ·rw [Fw (by rw [Aa];omega)] at e1;cases e1
  ·rw [yL c] at e1 e2
   exact r.ok j y w e1 e2
 ·have w:∀ j b,At (ρ.set i x) (σ.set i v) j b->(j=i/\(∃ p d,x=.ow p d)/\v=some (.ref b))\/(j≠i/\At ρ σ j b):=fun j b ⟨⟨q,dd,e1⟩,e2⟩=>by
   by_cases c:i=j
   ·subst c
    have hl:i<ρ.length:=by
     have:=(yu.mp e1).1
     rwa [Aa] at this
    rw [yH hl] at e1
    rw [yH (by rw [<- r.len];exact hl)] at e2
    cases e1;cases e2
    exact .inl ⟨rfl,⟨q,dd,rfl⟩,rfl⟩
   ·rw [yL c] at e1 e2
    exact .inr ⟨fun z=>c z.symm,⟨q,dd,e1⟩,e2⟩
  rcases w j b h1 with⟨rfl,⟨p,d,e⟩,e'⟩|⟨n1,a1⟩
  ·rcases w k b h2 with⟨rfl,_,_⟩|⟨n2,a2⟩
   ·rfl
   ·exact absurd ⟨k,a2⟩ (s b p d e e')
  ·rcases w k b h2 with⟨rfl,⟨p,d,e⟩,e'⟩|⟨n2,a2⟩
   ·exact absurd ⟨j,a1⟩ (s b p d e e')
   ·exact r.sep j k b a1 a2
section
variable {K:kb}
theorem sA(h:gN i d ρ=.ok ρ1):ρ1=ρ.set i (.val d)/\(∀ e,ρ[i]?≠some (.ow true e))/\i<ρ.length:=by
 unfold gN at h
 cases e:ρ[i]? with
 | none=>rw [e] at h;cases h
 | some x =>
  rw [e] at h
  have hl:i<ρ.length:=(yu.mp e).1
  cases x with
  | no=>cases h;exact⟨rfl,(fun _ z=>nomatch z),hl⟩
  | val c=>cases h;exact⟨rfl,(fun _ z=>nomatch z),hl⟩
  | ob c ds=>cases h;exact⟨rfl,(fun _ z=>nomatch z),hl⟩
  | ow p c =>
   cases p with
   | true=>cases h
   | false=>cases h;exact⟨rfl,(fun _ z=>nomatch z),hl⟩
theorem rX(n:∀ e,ρ[i]?≠some (.ow true e))(hl:i<ρ.length):jO [i] ρ (ρ.set i (.val d)) σ (σ.set i v):=⟨Aa,fun j=>by
 by_cases c:i=j
 ·subst c
  exact .inr ⟨BJ.mpr rfl,⟨d,yH hl⟩,n⟩
 ·exact .inl ⟨yL c,yL c⟩⟩
theorem zr5(hN:X.N.Nodup)(hi:X.N[i]?=some x)(hx:Loc X.env.scope x)(hf:X.fn x=true\/X.env.scope.names.lookup x=some .local:=by first|exact .inl rfl|exact .inr rfl|assumption):il K X [i] (.Name x pos) (gN i):=.mk fun _=>(zq6 hN hi hx hf).weak fun v σ H Q=>by
 rintro⟨ρ,d,ρ1,rel,fz,e,q⟩
 obtain⟨rfl,n,hl⟩:=sA e
 exact q _ (rel.set fz fun _ _ _ z=>nomatch z) (rX n hl)
theorem jg:pU K X [] [] []:=.mk fun _=>zra.weak fun vs σ H Q=>by
 rintro⟨ρ,ds,ρ1,rel,fz,e,q⟩
 cases ds with
 | nil =>
  cases e
  simp only [aj] at fz
  exact⟨fz,q _ rel .refl⟩
 | cons _ _=>cases e
theorem b6{r:R α}{k:α->R β}{b:β}(h:r.bind k=.ok b):∃ a,r=.ok a/\k a=.ok b:=by
 cases r with
 | ok a=>exact⟨a,rfl,h⟩
 | _=>cases h
theorem dg{d1 d2:List Nat}(h1:il K X d1 e g)(h2:pU K X d2 es gs)
  (hs:(zX (e::es) X.env).map (·.2)=AK e X.env::(zX es X.env).map (·.2):=by rfl):pU K X (d1++d2) (e::es) (g::gs):=.mk fun hK=>(zq9 (h1 hK) (h2 hK) hs).weak fun vs σ H Q=>by
 rintro⟨ρ,ds,ρ1,rel,fz,e,q⟩
 cases ds with
 | nil=>cases e
 | cons d ds =>
  simp only [aj] at fz
  obtain⟨v,r,rfl,f1,f2⟩:=fz
  obtain⟨ρ2,e2,e3⟩:=b6 (show(g d ρ).bind (fun ρ1=>gB gs ds ρ1)=.ok ρ1 from e)
  exact⟨v,r,rfl,ρ,d,ρ2,rel,f1,e2,fun σ1 ak c1=>⟨ρ2,ds,ρ1,ak,f2,e3,fun σ2 cP c2=>q σ2 cP (c1.trans c2)⟩⟩
theorem zfy:∀{gs:List GF} {ds:List D} {ρ ρ1:En},gB gs ds ρ=.ok ρ1->ds.length=gs.length
 | [],[],_,_,_=>rfl
 | [],_::_,_,_,e=>by cases e
 | _::_,[],_,_,e=>by cases e
 | g::gs,d::ds,ρ,ρ1,e=>by
  obtain⟨ρ2,e2,e3⟩:=b6 (show(g d ρ).bind (fun ρ1=>gB gs ds ρ1)=.ok ρ1 from e)
  simp [zfy e3]
theorem jf{k:Nat}(hc:X.calm=true)(h:pU K X dom es gs)
  (hn:(zX es X.env).length=gs.length:=by rfl)(b8:(zX es X.env).findIdx? (·.1)=none:=by rfl):il K X dom (.Tuple es k pos) (gT gs):=.mk fun hK=>by
 subst hK
 refine(zq8 hc (h rfl) hn b8).weak fun v σ H Q=>?_
 rintro⟨ρ,d,ρ1,rel,fz,e,q⟩
 cases d with
 | tuple ds =>
  simp only [Fz] at fz
  obtain⟨a,vs,rfl,s,f⟩:=fz
  replace e:gB gs ds ρ=.ok ρ1:=e
  exact⟨a,vs,rfl,.inl s,by rw [f.len,zfy e],ρ,ds,ρ1,rel,f,e,q⟩
 | _=>cases e
variable {st:x8}{rest:List x8}
theorem cN:eQ K X [] aS:=.mk fun _ C=>zc1.weak fun Dn σ H=>by
 rintro⟨ρ,rel,g⟩
 exact g σ H rel (aC.refl H)
theorem aR(h1:dA K X st s)(h2:eQ K X rest t):eQ K X (st::rest) (aq s t):=.mk fun hK C=>(qS (h1 hK C) (h2 hK C)).weak fun Dn σ H=>by
 rintro⟨ρ,rel,g⟩
 refine⟨ρ,rel,?_⟩
 obtain⟨x,ex,g1⟩:=g.bM
 rw [ex]
 obtain⟨fl,ρ1⟩:=x
 cases fl with
 | nx=>exact fun σ' H' r z=>⟨ρ1,r,g1.step z⟩
 | bk=>exact g1
 | ct=>exact g1
 | rt d=>exact g1
 | rf d=>exact g1
theorem fi(h1:dA K X st s):eQ K X [st] s:=.mk fun hK C=>qT (h1 hK C)
theorem zc5:dA K X st dG:=.mk fun _ C=>zhc.weak fun Dn σ H=>by
 rintro⟨ρ,rel,g⟩
 exact g.elim
theorem zsc(he:PV K X e f)(hs:yV e none pos.line X.env=pure false:=by rfl):dA K X (.Expr e pos) (sE f):=.mk fun hK C=>(zha (he hK) hs).weak fun Dn σ H=>by
 rintro⟨ρ,rel,g⟩
 exact i3 rel g fun d ρ1 v H1 ak aW fz g1=>g1 σ H1 ak (aC.refl H1)
theorem zsg(he:PV K X e f):dA K X (.Return (some e) pos) (aG f):=.mk fun hK C=>(wZ (he hK)).weak fun Dn σ H=>by
 rintro⟨ρ,rel,g⟩
 exact i3 rel g fun d ρ1 v H1 ak aW fz g1=>g1 v σ H1 ak fz
theorem zhu(he:bo K X e f):dA K X (.Return (some e) pos) (gE f):=.mk fun hK C=>(wZ (he hK)).weak fun Dn σ H=>by
 rintro⟨ρ,rel,g⟩
 exact zfB rel g fun d ρ1 a H1 ak fz ha n m g1=>g1 a σ H1 ak (rel.fresh ha) m
theorem zsh(i:Nat)(ha:PE X (.Name y py) (cV i)):dA K X (.Return (some (.Name y py)) pos) (jh i):=.mk fun hK C=>(wZ ha).weak fun Dn σ H=>by
 rintro⟨ρ,rel,g⟩
 unfold jh at g
 cases e:ρ[i]? with
 | none=>rw [e] at g;exact g.elim
 | some x =>
  rw [e] at g
  cases x with
  | ow p d =>
   cases p with
   | false =>
    obtain⟨a,bz,m⟩:=rel.rel.j4 (d:=d) (show bt ρ i=.ok d by unfold bt;rw [e])
    exact⟨.ref a,bz.2,g a σ H rel (rel.own i a d e bz.2) m⟩
   | true=>exact g.elim
  | _=>exact g.elim
theorem dD{c:o1}{a b:List x8}(hc:eS K X c tc)(ha:eQ K X a s)(hb:eQ K X b t):dA K X (.If c a b pos) (aQ tc s t):=.mk fun hK C=>(zcZ (hc hK) (ha hK C) (hb hK C)).weak fun Dn σ H=>by
 rintro⟨ρ,rel,g⟩
 refine zbI rel g fun cb ρ1 H1 ak fz g1=>?_
 cases cb with
 | true=>exact lV ⟨ρ1,ak,g1⟩
 | false=>exact lU ⟨ρ1,ak,g1⟩
theorem pA(he:PV K X e f)(hg:il K X dom tg g)(hs:BX [tg] e pos.line X.env=pure false:=by rfl)(hw:BZ [tg] e X.env=pure none:=by rfl)
  (h1:(zX [tg] X.env).map (·.2)=[AK tg X.env]:=by rfl):dA K X (.Assign [tg] e pos) (aH g f):=.mk fun hK C=>(zg9 (he hK) (hg hK) hs hw h1).weak fun Dn σ H=>by
 rintro⟨ρ,rel,q⟩
 refine i3 rel q fun d ρ1 v H1 ak aW fz q1=>?_
 obtain⟨ρ2,e2,q2⟩:=q1.bM
 exact⟨ρ1,d,ρ2,ak.rel,fz,e2,fun σ1 cP c=>q2 σ1 H1 (ak.chg cP c) (aC.refl H1)⟩
theorem zsi(hN:X.N.Nodup)(hi:X.N[i]?=some x)(hx:Loc X.env.scope x)(he:PV K X e f)(hs:yV e (some (.Name x pos')) pos.line X.env=pure false:=by rfl)(hf:X.fn x=true\/X.env.scope.names.lookup x=some .local:=by first|exact .inl rfl|exact .inr rfl|assumption) :
  dA K X (.Assign [.Name x pos'] e pos) (aH (gN i) f):=.mk fun hK C=>(o9 hN hi hx (he hK) hs hf).weak fun Dn σ H=>by
 rintro⟨ρ,rel,q⟩
 refine i3 rel q fun d ρ1 v H1 ak aW fz q1=>?_
 obtain⟨ρ2,e2,q2⟩:=q1.bM
 obtain⟨rfl,n,hl⟩:=sA e2
 exact q2 _ H1 (ak.chg (ak.rel.set fz fun _ _ _ z=>nomatch z) (rX n hl)) (aC.refl H1)
theorem zl3(Dn:Ends)(σ:L2.St)(H:Hp)(q0:tS K C (dZ i f) Dn σ H):uE (tN K f) (sC i) Dn σ H:=by
 revert q0
 rintro⟨ρ,rel,q⟩
 refine zfB rel q fun d ρ1 a H1 ak fz ha n m q1=>?_
 have hf:=rel.fresh ha
 replace q1:dI K C H1 (match ρ1[i]? with|some (.ow true _)=>.bad|some _=>.ok (.nx,ρ1.set i (.ow false d))|none=>.bad) Dn:=q1
 have fin:(∀ e,ρ1[i]?≠some (.ow true e))->i<ρ1.length->bH K C (ρ1.set i (.ow false d)) (σ.set i (some (.ref a))) H1:=fun np hl=>by
  have hls:i<σ.length:=by rw [<- ak.rel.len];exact hl
  refine⟨ak.rel.set (show iV K H1 (.ow false d) (some (.ref a)) from m) fun b p c e1 e2=>by cases e2;exact n,ak.keep,fun j b c e1 e2=>?_,fun j=>?_,fun j c e1=>?_,ak.nH⟩
  ·by_cases k:i=j
   ·subst k
    rw [yH hls] at e2
    cases e2
    exact hf
   ·rw [yL k] at e1 e2
    exact ak.own j b c e1 e2
  ·by_cases k:i=j
   ·subst k
    rw [yH hl,<- ak.pin i]
    constructor
    ·rintro⟨_,z⟩;cases z
    ·rintro⟨c,z⟩;exact absurd z (np c)
   ·rw [yL k];exact ak.pin j
  ·by_cases k:i=j
   ·subst k
    rw [yH hl] at e1;cases e1
   ·rw [yL k] at e1 ⊢
    exact ak.fix j c e1
 cases e1:ρ1[i]? with
 | none=>rw [e1] at q1;exact q1.elim
 | some y =>
  have hl:i<ρ1.length:=(yu.mp e1).1
  rw [e1] at q1
  cases y with
  | no=>exact q1 _ H1 (fin (fun e z=>by rw [e1] at z;cases z) hl) (aC.refl H1)
  | val c=>exact q1 _ H1 (fin (fun e z=>by rw [e1] at z;cases z) hl) (aC.refl H1)
  | ob c ds=>exact q1 _ H1 (fin (fun e z=>by rw [e1] at z;cases z) hl) (aC.refl H1)
  | ow p c =>
   cases p with
   | true=>exact q1.elim
   | false=>exact q1 _ H1 (fin (fun e z=>by rw [e1] at z;cases z) hl) (aC.refl H1)
theorem zse(hN:X.N.Nodup)(hi:X.N[i]?=some x)(hx:Loc X.env.scope x)(he:bo K X e f)(hs:yV e (some (.Name x pos')) pos.line X.env=pure false:=by rfl)(hf:X.fn x=true\/X.env.scope.names.lookup x=some .local:=by first|exact .inl rfl|exact .inr rfl|assumption) :
  dA K X (.Assign [.Name x pos'] e pos) (dZ i f):=.mk fun hK C=>(o9 hN hi hx (he hK) hs hf).weak fun Dn σ H q=>zl3 Dn σ H q
theorem zht(i:Nat)(h:dA K X st s):dA K X st (iJ i s):=.mk fun hK C=>by
 have h1:PS X st (fun Dn σ H=>∃ a u,H a=some u/\Own u/\∀ o,tS K C s Dn σ (upd H a (.frz o u))):=fun pins sh σ H Dn I ⟨a,u,e,ow,q⟩=>by
  obtain⟨o,ho⟩:=(I.ax a u e).some
  exact h hK C pins sh σ _ Dn (zfv I e ow ho) (q o)
 refine h1.weak fun Dn σ H=>?_
 rintro⟨ρ,rel,g⟩
 unfold iJ at g
 cases e:ρ[i]? with
 | none=>rw [e] at g;exact g.elim
 | some x =>
  rw [e] at g
  cases x with
  | ow p d =>
   cases p with
   | true=>exact g.elim
   | false =>
    obtain⟨a,bz,m⟩:=rel.rel.j4 (d:=d) (show bt ρ i=.ok d by unfold bt;rw [e])
    obtain⟨u,e1,ow⟩:=m.own
    refine⟨a,u,e1,ow,fun o=>⟨ρ.set i (.val d),?_,g.step ?_⟩⟩
    ·have hl:i<ρ.length:=(yu.mp e).1
     have gu:=rel.own i a d e bz.2
     have fz:aC H (upd H a (.frz o u)):=fun b w e2 sy=>by
      rw [aT fun z=>by subst z;rw [e1] at e2;cases e2;exact ow.ja sy]
      exact e2
     have fd:Fz K (upd H a (.frz o u)) d (.ref a):=by
      cases d with
      | list ds =>
       obtain⟨vs,h1,h2⟩:=m
       rw [e1] at h1
       cases h1
       simp only [Fz]
       exact⟨a,vs,rfl,.inl ⟨o,bX⟩,h2.mono fz⟩
      | dict ah =>
       simp only [Fz]
       obtain⟨kk,h1,h2⟩:=m
       rw [e1] at h1
       cases h1
       exact⟨a,o,rfl,⟨kk,bX,h2.mono fz⟩⟩
      | _=>exact m.elim
     have atw:∀ j b,At (ρ.set i (.val d)) σ j b->j≠i/\At ρ σ j b:=fun j b ⟨⟨q,dd,e1⟩,e2⟩=>by
      by_cases c:i=j
      ·subst c
       rw [yH hl] at e1;cases e1
      ·rw [yL c] at e1
       exact⟨fun z=>c z.symm,⟨q,dd,e1⟩,e2⟩
     refine⟨⟨by rw [Aa];exact rel.rel.len,fun j y w e2 e3=>?_,fun j k b h1 h2=>rel.rel.sep j k b (atw j b h1).2 (atw k b h2).2,rel.rel.cst.mono fz⟩,fun b w e2 n=>?_,fun j b c e2 e3=>?_,fun j=>?_,fun j c e2=>?_,rel.nH⟩
     ·by_cases c:i=j
      ·subst c
       rw [yH hl] at e2
       cases e2
       rw [bz.2] at e3
       cases e3
       exact fd
      ·rw [yL c] at e2
       refine(rel.rel.ok j y w e2 e3).mono fz fun b e4 ⟨p,dd,e5⟩=>?_
       subst e4;subst e5
       refine aT fun z=>?_
       subst z
       exact c (rel.rel.sep i j b bz ⟨⟨p,dd,e2⟩,e3⟩)
     ·rw [aT fun z=>by subst z;rw [gu] at e2;cases e2]
      exact rel.keep b w e2 n
     ·by_cases c:i=j
      ·subst c
       rw [yH hl] at e2;cases e2
      ·rw [yL c] at e2
       exact rel.own j b _ e2 e3
     ·by_cases c:i=j
      ·subst c
       rw [yH hl,<- rel.pin i,e]
       constructor
       ·rintro⟨_,z⟩;cases z
       ·rintro⟨_,z⟩;cases z
      ·rw [yL c];exact rel.pin j
     ·by_cases k:i=j
      ·subst k
       rw [yH hl] at e2;cases e2
      ·rw [yL k] at e2
       exact rel.fix j c e2
    ·exact fun b w e2 sy=>by
      rw [aT fun z=>by subst z;rw [e1] at e2;cases e2;exact ow.ja sy]
      exact e2
  | _=>exact g.elim
theorem zpj(h:e8 ρ i=.ok c):∃ p,ρ[i]?=some (.ow p (.list c)):=by
 unfold e8 at h
 cases e:ρ[i]? with
 | none=>rw [e] at h;cases h
 | some x =>
  rw [e] at h
  cases x with
  | ow p d =>
   cases d with
   | list a=>cases h;exact⟨p,rfl⟩
   | _=>cases h
  | _=>cases h
theorem Rel.zcv(r:Rel K ρ σ H)(h:e8 ρ i=.ok c):∃ a vs,At ρ σ i a/\H a=some (.lst vs)/\aj K H c vs:=by
 obtain⟨p,e⟩:=zpj h
 obtain⟨a,bz,m⟩:=r.j4 (d:=.list c) (show bt ρ i=.ok (.list c) by unfold bt;rw [e])
 obtain⟨vs,h1,h2⟩:=m
 exact⟨a,vs,bz,h1,h2⟩
theorem Rel.zgl(r:Rel K ρ1 σ H1)(h:e8 ρ1 i=.ok c)(bz:At ρ σ i a):∃ vs,At ρ1 σ i a/\H1 a=some (.lst vs)/\aj K H1 c vs:=by
 obtain⟨b,vs,ab,h1,h2⟩:=r.zcv h
 have:=bz.2.symm.trans ab.2
 cases this
 exact⟨vs,ab,h1,h2⟩
theorem zbJ{Dn:Ends}(rel:bH K C ρ σ H)(bz:At ρ σ i a)(m:cY K (upd H a o) a d)(g:dI K C H (.ok (.nx,de ρ i d)) Dn):Dn.nx σ (upd H a o):=by
 have st:bZ ρ (de ρ i d) σ H (upd H a o):=zhY bz
 exact g σ _ (rel.step (rel.rel.zrP bz m) st) (st.dO rel.rel)
theorem zfx(rel:bH K C ρ σ H)(bz:At ρ σ i a):aC H (upd H a o):=(zhY (d:=.none) bz).dO rel.rel
theorem zsb{name:ib}{apos bC:xW}(i:Nat)(hnm:name="append") (ha:PE X (.Name y py) (cV i)) (he:PV K X e f)
  (lL:B6 (.Name y py) name X.env (xZ (.Name y py) X.env)=xZ (.Name y py) X.env:=by rfl)
  (sO:((yp bC (pd [e] X.env)).all (fun x=>!x.1)&&(backToKw bC (keywordEach [] X.env)).all (fun x=>x.1.isSome)&&decide ([e].length+([]:List Cd).length+(if([]:List Cd).isEmpty then 0 else 1)<30))=true:=by rfl)
  (sR:(apos.endLine==bC.line)=true:=by rfl) (b8:pd [e] X.env=(false,xZ e X.env)::pd [] X.env:=by exact FL.se rfl) (oP:(yp bC (pd [] X.env)).any (·.1)=false:=by exact FL.sp rfl)
  (hs:yV (.Call (.Attribute (.Name y py) name apos) [e] [] bC) none pos.line X.env=pure false:=by rfl):dA K X (.Expr (.Call (.Attribute (.Name y py) name apos) [e] [] bC) pos) (jk i iW f):=.mk fun hK C=>by
 subst hK
 subst hnm
 refine(zha (zgU Fx PySem.F.slot_list_append PySem.F.type_list_append zgu ha (gQ (he rfl) jH b8) lL sO sR b8 oP) hs).weak fun Dn σ H=>?_
 rintro⟨ρ,rel,g⟩
 obtain⟨d,ed,g1⟩:=g.bM
 obtain⟨a,vs0,bz,h0,_⟩:=rel.rel.zcv ed
 refine⟨.ref a,bz.2,.inl ⟨rfl,vs0,bV.of h0⟩,i3 rel g1 fun dx ρ1 v H1 ak aW fz g2=>?_⟩
 obtain⟨c,ec,g3⟩:=g2.bM
 obtain⟨c',qp,g4⟩:=g3.bM
 obtain⟨vs,rO,h1,h2⟩:=ak.rel.zgl ec bz
 obtain⟨cc,qp⟩:=gi qp
 cases qp
 have hz:vs.length<yb:=by
  have:=lY cc
  have l0:=nj
  rw [h2.len];omega
 refine⟨a,vs,v,rfl,rfl,h1,hz,zbJ (d:=.list (c++[dx])) ak rO ⟨_,bX,(h2.app ?_).mono (zfx ak rO)⟩ g4⟩
 simp only [aj]
 exact⟨v,[],rfl,fz,rfl⟩
theorem qW{j9:xW}{k:EF}(i:Nat)(ha:PE X (.Name y py) (cV i))(he:PV K X e f)(hk:PV K X ke k)
  (has:∀ v,AK (.Subscript (.Name y py) ke j9) X.env v=(do
   let ov <- Bo [v] (xZ (.Name y py) X.env)
   let iv <- Bo [v,ov] (xZ ke X.env)
   standAt j9
   Bo [v,ov,iv] (setItem ov iv v)
   release [v,ov,iv] []):=by intro _;rfl)
  (hs:BX [.Subscript (.Name y py) ke j9] e pos.line X.env=pure false:=by rfl)(hw:BZ [.Subscript (.Name y py) ke j9] e X.env=pure none:=by rfl)
  (h1:(zX [.Subscript (.Name y py) ke j9] X.env).map (·.2)=[AK (.Subscript (.Name y py) ke j9) X.env]:=by rfl):dA K X (.Assign [.Subscript (.Name y py) ke j9] e pos) (setM i f k):=.mk fun hK C=>by
 subst hK
 refine(zg9 (he rfl) (zq7 ha (hk rfl) set_list has) hs hw h1).weak fun Dn σ H=>?_
 rintro⟨ρ,rel,g⟩
 refine i3 rel g fun dx ρ1 v H1 ak aW fz g1=>?_
 obtain⟨d,ed,g2⟩:=g1.bM
 obtain⟨a,vs0,bz,h0,_⟩:=ak.rel.zcv ed
 refine⟨.ref a,bz.2,i3 ak g2 fun dk ρ2 kv H2 cP du fk g3=>?_⟩
 obtain⟨c,ec,g4⟩:=g3.bM
 obtain⟨vs,rO,h1,h2⟩:=cP.rel.zgl ec bz
 cases dk with
 | int j =>
  obtain⟨n,en,g5⟩:=(show dI X.K C H2 ((R.of (FL.e7 c.length j)).bind fun n=>.ok (.nx,de ρ2 i (.list (c.set n dx)))) Dn from g4).bM
  simp only [Fz] at fk
  subst fk
  refine⟨a,vs,j,n,rfl,rfl,h1,?_,zbJ (d:=.list (c.set n dx)) cP rO ⟨_,bX,(h2.set n (fz.mono (du.dO ak.rel))).mono (zfx cP rO)⟩ g5⟩
  rw [h2.len]
  cases e2:FL.e7 c.length j with
  | none=>rw [e2] at en;cases en
  | some m=>rw [e2] at en;cases en;exact e2
 | _=>exact g4.elim
end
end
variable {c l:o1}{tl:TE}{it:IF}{body:List x8}{items:List D}
section
variable [Cs]
def Walk(K:kb)(J:It)(items:List D)(H:Hp):Prop :=
 (∀ i d H',aC H H'->items[i]?=some d->J.go i H'/\∀ x jR,J.xR i H' x jR->aM H' jR/\Fz K jR d x)/\∀ i H',aC H H'->items.length<=i->J.stop i H'
noncomputable def tI(K:kb)(it:IF):TI:=fun σ H R=>∃ ρ,Rel K ρ σ H/\Good K ρ σ H (it ρ) fun items _ H'=>∀ J,Walk K J items H'->R J H'
structure iT(K:kb)(X:Cx)(tg e:o1)(it:IF):Prop where
 run:X.K=K->PI X tg e (tI K it)
instance {K:kb} {X:Cx} {tg e:o1} {it:IF}:CoeFun (iT K X tg e it) fun _=>X.K=K->PI X tg e (tI K it):=⟨iT.run⟩
theorem _root_.L2.PI.weak{t t':TI}(h:PI X tg e t)(w:∀ σ H R,t' σ H R->t σ H R):PI X tg e t':=fun pins s σ H R I q=>h pins s σ H R I (w σ H R q)
section
variable {K:kb}
theorem zre(hl:PE X l tl):PI X tg l (fun σ H R=>tl σ H fun x H1=>∃ a,x=.ref a/\(((∃ xs,bV X.K H1 a xs)/\R (Itl X.K a) H1)\/((∃ xs,eB X.K H1 a xs)/\R (Itt X.K a) H1))):=by
 intro pins s σ H R I h
 refine aN (hl pins s σ H _ I h) fun v s1 ⟨x,H1,I1,r1,q1⟩=>?_
 obtain⟨a,e,q1⟩:=q1
 subst e
 cases r1
 rcases q1 with⟨⟨xs,hq⟩,q⟩|⟨⟨xs,hq⟩,q⟩
 ·obtain⟨its,rv,p,hz⟩:=I1.list hq
  refine wpAny_pyIter_list p.isList ?_
  refine⟨s1.heap.objs.size,[s1.heap.objs.size],_,_,H1,rfl,I1.kept (t':=s1.toks) fun b o e=>yh _ e,zux a _,⟨_,yY _ rfl,rfl,rfl⟩,fun b hb=>?_,q⟩
  have e:b=s1.heap.objs.size:=by simpa using hb
  subst e
  exact I1.oG (x9 _) (I1.ax.fresh (x9 _))
 ·obtain⟨its,rv,p,hz⟩:=I1.tuple hq
  refine wpAny_pyIter_tuple (show s1.heap.IsTuple a its.toArray from p) ?_
  refine⟨s1.heap.objs.size,[s1.heap.objs.size],_,_,H1,rfl,I1.kept (t':=s1.toks) fun b o e=>yh _ e,zuz a _,⟨_,yY _ rfl,rfl,rfl⟩,fun b hb=>?_,q⟩
  have e:b=s1.heap.objs.size:=by simpa using hb
  subst e
  exact I1.oG (x9 _) (I1.ax.fresh (x9 _))
theorem zuL(h:nW K H a vs)(f:aj K H items vs):Walk K (Itl K a) items H:=by
 refine⟨fun i d H' fz e=>?_,fun i H' fz e=>⟨vs,(fz.nN h).sq,by rw [f.len];exact e⟩⟩
 obtain⟨v,ev,_⟩:=f.get e
 refine⟨⟨vs,v,(fz.nN h).sq,ev⟩,fun x jR y=>?_⟩
 obtain⟨rfl,y⟩:=y
 have ex:=y vs (fz.nN h).sq
 obtain⟨v',sj,fv⟩:=(f.mono fz).get e
 rw [ex] at sj
 cases sj
 exact⟨aM.refl _,fv⟩
theorem zuN(h:dU H a vs)(f:aj K H items vs):Walk K (Itt K a) items H:=by
 refine⟨fun i d H' fz e=>?_,fun i H' fz e=>⟨vs,.inl (fz.xn h),by rw [f.len];exact e⟩⟩
 obtain⟨v,ev,_⟩:=f.get e
 refine⟨⟨vs,v,.inl (fz.xn h),ev⟩,fun x jR y=>?_⟩
 obtain⟨rfl,y⟩:=y
 have ex:=y vs (.inl (fz.xn h))
 obtain⟨v',sj,fv⟩:=(f.mono fz).get e
 rw [ex] at sj
 cases sj
 exact⟨aM.refl _,fv⟩
theorem nJ(he:PV K X e f):iT K X tg e (iE f):=.mk fun hK=>by
 subst hK
 refine(zre (he rfl)).weak fun σ H R=>?_
 rintro⟨ρ,rel,q⟩
 refine eE rel q fun dx ρ1 x H1 ak aW fx q1=>?_
 obtain⟨items,ei,q2⟩:=q1.cD
 cases dx with
 | list a =>
  cases ei
  simp only [Fz] at fx
  obtain⟨l,vs,rfl,sx,f⟩:=fx
  exact⟨l,rfl,.inl ⟨⟨vs,sx.sq⟩,q2.now ak _ (zuL sx f)⟩⟩
 | tuple a =>
  cases ei
  simp only [Fz] at fx
  obtain⟨l,vs,rfl,sx,f⟩:=fx
  exact⟨l,rfl,.inr ⟨⟨vs,.inl sx⟩,q2.now ak _ (zuN sx f)⟩⟩
 | _=>cases ei
theorem p62:(2:Int)^62=4611686018427387904:=by decide
theorem ztq{lo hi:Int}(h:(fj lo hi)[i]?=some d):i<(hi-lo).toNat/\d=.int (lo+i):=by
 unfold fj at h
 rw [yO] at h
 by_cases c:i<(hi-lo).toNat
 ·rw [List.getElem?_range c] at h
  cases h
  exact⟨c,rfl⟩
 ·rw [Fw (by rw [Dx];omega)] at h;cases h
theorem zim(lo hi:Int):Walk K (rE lo (hi-lo).toNat) (fj lo hi) H:=by
 refine⟨fun i d H' fz e=>?_,fun i H' fz e=>?_⟩
 ·obtain⟨c,rfl⟩:=ztq e
  refine⟨c,fun x jR y=>?_⟩
  obtain⟨rfl,rfl⟩:=y
  exact⟨aM.refl _,iw _⟩
 ·show(hi-lo).toNat<=i
  simpa [fj] using e
theorem zc4{a:o1}(hg:Gl X "range") (hm:X.mg "range"=none) (ha:dB K X [a] fa) (hs:pd [a] X.env=[(false,xZ a X.env)]:=by exact FL.se rfl):iT K X tg (.Call (.Name "range" p) [a] [] pos) (fS fa):=.mk fun hK=>(zrc hg hm (ha hK) hs).weak fun σ H R=>by
 rintro⟨ρ,rel,q⟩
 refine oH rel q fun ds ρ1 vs H1 ak aW fs q1=>?_
 obtain⟨items,ei,q2⟩:=q1.cD
 cases ds with
 | nil=>cases ei
 | cons d r =>
  cases r with
  | cons _ _=>cases d <;> cases ei
  | nil =>
   cases d with
   | int j =>
    obtain⟨c,ei⟩:=gi (show bc (mz j&&leB j.toNat lim) (.ok (fj 0 j))=.ok items from ei)
    cases ei
    simp only [aj,Fz] at fs
    obtain⟨_,_,rfl,rfl,rfl⟩:=fs
    simp only [mz,yw,leB_iff] at c
    have:=zim (K:=K) (H:=H1) 0 j
    rw [Int.sub_zero] at this
    have e62:=p62
    exact⟨j,rfl,by omega,by omega,q2.now ak _ this⟩
   | _=>cases ei
theorem zr6{a b:o1}(hg:Gl X "range") (hm:X.mg "range"=none) (ha:dB K X [a,b] fa) (hs:pd [a,b] X.env=[(false,xZ a X.env),(false,xZ b X.env)]:=by rfl) (eZ:pd [b] X.env=[(false,xZ b X.env)]:=by exact FL.se rfl) :
  iT K X tg (.Call (.Name "range" p) [a,b] [] pos) (jC fa):=.mk fun hK=>(zrd hg hm (ha hK) hs eZ).weak fun σ H R=>by
 rintro⟨ρ,rel,q⟩
 refine oH rel q fun ds ρ1 vs H1 ak aW fs q1=>?_
 obtain⟨items,ei,q2⟩:=q1.cD
 have key:∃ i j,ds=[.int i,.int j]:=by
  cases ds with
  | nil=>cases ei
  | cons d r =>
   cases d with
   | int i =>
    cases r with
    | nil=>cases ei
    | cons d2 r =>
     cases d2 with
     | int j =>
      cases r with
      | nil=>exact⟨i,j,rfl⟩
      | cons _ _=>cases ei
     | _=>cases ei
   | _=>cases ei
 obtain⟨i,j,rfl⟩:=key
 obtain⟨c,ei⟩:=gi (show bc (mz i&&mz j&&leB (j-i).toNat lim) (.ok (fj i j))=.ok items from ei)
 cases ei
 simp only [aj,Fz] at fs
 obtain⟨_,_,rfl,rfl,_,_,rfl,rfl,rfl⟩:=fs
 simp only [mz,yw,leB_iff] at c
 have e62:=p62
 exact⟨i,j,rfl,⟨by omega,by omega,by omega,by omega⟩,q2.now ak _ (zim i j)⟩
theorem zsd(hp:Bq (xT X.prog X.w) X.A X.env X.xe)(hc:X.calm=true)(hi:iT K X tg e it)(hg:il K X dom tg g)(hb:eQ K X body b)(hs:∀ x,AO e X.env x=pure x:=by intro _;rfl):dA K X (.For tg e body [] pos) (dH it g b):=.mk fun hK C =>
 (zhb hp hc (hi hK) (hg hK) (hb hK C) hs).weak fun Dn σ0 H0=>by
 rintro⟨ρ0,jL,q⟩
 obtain⟨x,ex,q⟩:=q.bM
 refine⟨ρ0,jL.rel,?_⟩
 rw [ex]
 intro Hs r st J wk
 have ak:=jL.step r st
 have q1:=q.step (st.dO jL.rel)
 obtain⟨items,ρs⟩:=x
 refine⟨fun i m σ H=>m=items.length-i/\i<=items.length/\∃ ρ,bH K C ρ σ H/\aC Hs H/\dI K C H (forL g b (items.drop i) ρ) Dn,⟨items.length,by simp,zr _,ρs,ak,aC.refl _,q1⟩,?_⟩
 rintro i m σ H ⟨rfl,hi,ρ,rel,fz,gd⟩
 by_cases c:i<items.length
 ·have ed:=Es c
  rw [ed] at gd
  obtain⟨iz,hy⟩:=wk.1 i items[i] H fz (yC c)
  refine .inr ⟨iz,fun σ' H'=>∃ ρ,bH K C ρ σ' H'/\aC Hs H'/\dI K C H' (forL g b (items.drop (i+1)) ρ) Dn,fun σ' H' n=>⟨items.length-(i+1),by omega,rfl,c,n⟩,fun x H3 y=>?_⟩
  obtain⟨sm,fx⟩:=hy x H3 y
  have gv:bH K C ρ σ H3:=rel.step (rel.rel.same sm) (.of sm)
  obtain⟨ρ1,e1,gd1⟩:=gd.bM
  refine⟨ρ,items[i],ρ1,gv.rel,fx,e1,fun σ1 ur chg=>⟨ρ1,gv.chg ur chg,?_⟩⟩
  obtain⟨y,ey,jv⟩:=gd1.bM
  rw [ey]
  have jw:=jv.step (aC.of sm)
  have su:=fz.trans (aC.of sm)
  obtain⟨fl,ρ2⟩:=y
  cases fl with
  | nx=>exact fun σ' H' r z=>⟨ρ2,r,su.trans z,jw.step z⟩
  | ct=>exact fun σ' H' r z=>⟨ρ2,r,su.trans z,jw.step z⟩
  | bk=>exact jw
  | rt d=>exact jw
  | rf d=>exact jw
 ·have e:i=items.length:=by omega
  subst e
  rw [Et] at gd
  exact .inl ⟨wk.2 _ H fz (x9 _),gd σ H rel (aC.refl _)⟩
theorem zhv(fuel:En->Nat)(hp:Bq (xT X.prog X.w) X.A X.env X.xe)(hc:eS K X c tc)(hb:eQ K X body b):dA K X (.While c body [] pos) (pD fuel tc b):=.mk fun hK C =>
 (zrx hp (hc hK) (hb hK C)).weak fun Dn σ0 H0=>by
 rintro⟨ρ0,jL,q⟩
 refine⟨fun m σ H=>∃ ρ,bH K C ρ σ H/\dI K C H (pJ tc b m ρ) Dn,⟨fuel ρ0,ρ0,jL,q⟩,?_⟩
 rintro m σ H ⟨ρ,rel,gd⟩
 cases m with
 | zero=>exact gd.elim
 | succ n =>
  refine zbI rel gd fun cb ρ1 H1 ak fz g1=>?_
  cases cb with
  | false=>exact lU (g1 σ H1 ak (aC.refl _))
  | true =>
   refine lV ⟨fun σ' H'=>∃ ρ,bH K C ρ σ' H'/\dI K C H' (pJ tc b n ρ) Dn,fun σ' H' z=>⟨n,C4 _,z⟩,ρ1,ak,?_⟩
   obtain⟨y,ey,jv⟩:=(show dI K C H1 ((b ρ1).bind fun y=>match y.1 with
   | .nx | .ct=>pJ tc b n y.2
   | .bk=>.ok (.nx,y.2)
   | .rt d=>.ok (.rt d,y.2)
   | .rf d=>.ok (.rf d,y.2)) Dn from g1).bM
   rw [ey]
   obtain⟨fl,ρ2⟩:=y
   cases fl with
   | nx=>exact fun σ' H' r z=>⟨ρ2,r,jv.step z⟩
   | ct=>exact fun σ' H' r z=>⟨ρ2,r,jv.step z⟩
   | bk=>exact jv
   | rt d=>exact jv
   | rf d=>exact jv
end
end
variable {ix l:List Nat}{ifs:List o1}{j k:Nat}{cs β:En}{σβ:L2.St}{t:TF}{scope:yT}
section
variable [Cs]
section
variable {K:kb}
theorem zel(h:j<k):(cq k ix ρ)[j]?=some .no:=by
 unfold cq
 rw [zt (by simpa using h),z9,if_pos h]
theorem vk(j:Nat):(cq k ix ρ)[k+j]?=(ix[j]?).map fun i=>(ρ[i]?).getD .no:=by
 unfold cq
 rw [z8 (by simp),Bx,Fy,yO]
theorem zaN(j:Nat):(eT k ix σ)[k+j]?=(ix[j]?).map fun i=>(σ[i]?).getD none:=by
 unfold eT
 rw [z8 (by simp),Bx,Fy,yO]
theorem rW(h:At (cq k ix ρ) (eT k ix σ) j a):∃ j' i,j=k+j'/\ix[j']?=some i/\At ρ σ i a:=by
 obtain⟨⟨p,d,e1⟩,e2⟩:=h
 by_cases c:j<k
 ·rw [zel c] at e1;cases e1
 ·obtain⟨j',rfl⟩:∃ j',j=k+j':=⟨j-k,by omega⟩
  rw [vk] at e1
  rw [zaN] at e2
  cases ei:ix[j']? with
  | none=>rw [ei] at e1;cases e1
  | some i =>
   rw [ei] at e1 e2
   refine⟨j',i,rfl,ei,⟨p,d,?_⟩,?_⟩
   ·simp only [zS,zF] at e1
    cases er:ρ[i]? with
    | none=>rw [er] at e1;cases e1
    | some x=>rw [er] at e1;simpa using e1
   ·simp only [zS,zF] at e2
    cases es:σ[i]? with
    | none=>rw [es] at e2;cases e2
    | some x=>rw [es] at e2;simpa using e2
theorem zpP(h:l.Nodup){x:Nat}(a:l[i]?=some x)(b:l[j]?=some x):i=j:=by
 obtain⟨h1,e1⟩:=yu.mp a
 obtain⟨h2,e2⟩:=yu.mp b
 exact(DN h).mp (e1.trans e2.symm)
theorem zjf(nd:ix.Nodup)(r:Rel K ρ σ H):Rel K (cq k ix ρ) (eT k ix σ) H:=by
 refine⟨by simp [cq,eT],fun j x v e1 e2=>?_,fun i j a h1 h2=>?_,r.cst⟩
 ·by_cases c:j<k
  ·rw [zel c] at e1;cases e1;trivial
  ·obtain⟨j',rfl⟩:∃ j',j=k+j':=⟨j-k,by omega⟩
   rw [vk] at e1
   rw [zaN] at e2
   cases ei:ix[j']? with
   | none=>rw [ei] at e1;cases e1
   | some i =>
    rw [ei] at e1 e2
    simp only [zS,zF] at e1 e2
    cases er:ρ[i]? with
    | none=>rw [er] at e1;cases e1;trivial
    | some y =>
     have hl:i<σ.length:=by rw [<- r.len];exact(yu.mp er).1
     rw [er] at e1
     rw [yC hl] at e2
     cases e1;cases e2
     exact r.ok i _ _ er (yC hl)
 ·obtain⟨i',x,rfl,e1,a1⟩:=rW h1
  obtain⟨j',y,rfl,e2,a2⟩:=rW h2
  have:=r.sep x y a a1 a2
  subst this
  rw [zpP nd e1 e2]
theorem zay{m:List (Nat×Sl)}:∀(ρ:En) (n i:Nat),(bQ m n ρ)[i]?=(ρ[i]?).map (bP m (n+i))
 | [],n,i=>by simp [bQ]
 | x::r,n,0=>by simp [bQ]
 | x::r,n,i+1=>by
  simp only [bQ,zz1]
  rw [zay r (n+1) i,show n+1+i=n+(i+1) by omega]
theorem zec(i:Nat):(back ρ ix cs)[i]?=(ρ[i]?).map (bP (ix.zip cs) i):=by
 unfold back
 rw [zay,Ck]
theorem zaz{m:List (Nat×Sl)}:∀(ρ:En) (n:Nat),(bQ m n ρ).length=ρ.length
 | [],n=>rfl
 | x::r,n=>by simp [bQ,zaz r]
theorem zir:∀{ix:List Nat} {cs:En} {i:Nat} {c:Sl},(ix.zip cs).lookup i=some c->∃ j:Nat,ix[j]?=some i/\cs[j]?=some c
 | [],cs,i,c,h=>by simp at h
 | x::r,[],i,c,h=>by simp at h
 | x::r,y::s,i,c,h=>by
  rw [zu,ym] at h
  by_cases e:i=x
  ·subst e
   simp only [beq_self_eq_true] at h
   cases h
   exact⟨0,rfl,rfl⟩
  ·rw [beq_false_of_ne e] at h
   obtain⟨j,h1,h2⟩:=zir h
   exact⟨j+1,by simpa using h1,by simpa using h2⟩
theorem zis:∀{ix:List Nat} {cs:En} {i j:Nat} {c:Sl},ix.Nodup->ix[j]?=some i->cs[j]?=some c->(ix.zip cs).lookup i=some c
 | [],cs,i,j,c,_,h1,_=>by simp at h1
 | x::r,[],i,j,c,_,_,h2=>by simp at h2
 | x::r,y::s,i,j,c,nd,h1,h2=>by
  rw [zu,ym]
  cases j with
  | zero =>
   simp at h1 h2
   subst h1;subst h2
   simp
  | succ j =>
   simp at h1 h2
   have:i≠x:=fun z=>by
    subst z
    exact(z0.mp nd).1 (zg h1)
   rw [beq_false_of_ne this]
   exact zis (z0.mp nd).2 h1 h2
theorem zed(nd:ix.Nodup)(r:Rel K ρ σ H)(hs:∀ j,σβ[k+j]?=(eT k ix σ)[k+j]?)(rb:Rel K β σβ H')
  (md:∀ j p,(∃ d,β[k+j]?=some (.ow p d))↔∃ d,(cq k ix ρ)[k+j]?=some (.ow p d))(kp:∀ a o,H a=some o->¬ MA (cq k ix ρ) (eT k ix σ) a->H' a=some o) :
  Rel K (back ρ ix (β.drop k)) σ H'/\bZ ρ (back ρ ix (β.drop k)) σ H H':=by
 have hm:∀ a,MA (cq k ix ρ) (eT k ix σ) a->MA ρ σ a:=fun a ⟨j,h⟩=>by
  obtain⟨_,i,_,_,h⟩:=rW h
  exact⟨i,h⟩
 have fz:aC H H':=fun a o h st=>kp a o h fun m=>by
  obtain⟨o',e,w⟩:=r.fe (hm a m)
  rw [h] at e
  cases e
  exact w.ja st
 have tD:∀(i:Nat) p,(∃ d,ρ[i]?=some (.ow p d))↔∃ d,(back ρ ix (β.drop k))[i]?=some (.ow p d):=fun i p=>by
  rw [zec]
  constructor
  ·rintro⟨d,e⟩
   rw [e]
   simp only [zS,bP]
   split
   ·rename_i p' d1 q' d2 h1 h2;cases h1;exact⟨_,rfl⟩
   ·exact⟨_,rfl⟩
  ·rintro⟨d,e⟩
   cases er:ρ[i]? with
   | none=>rw [er] at e;cases e
   | some x =>
    rw [er] at e
    simp only [zS,zF,bP] at e
    split at e
    ·cases e;exact⟨_,rfl⟩
    ·subst e;exact⟨_,rfl⟩
 have rP:∀ i a,At (back ρ ix (β.drop k)) σ i a->At ρ σ i a:=fun i a ⟨⟨p,d,e1⟩,e2⟩=>⟨⟨p,(tD i p).mpr ⟨d,e1⟩⟩,e2⟩
 refine⟨⟨by rw [show(back ρ ix (β.drop k)).length=ρ.length from zaz _ _];exact r.len,fun i x v e1 e2=>?_,fun i j a h1 h2=>r.sep i j a (rP i a h1) (rP j a h2),r.cst.mono fz⟩,⟨tD,fun a o h n=>kp a o h fun m=>n (hm a m)⟩⟩
 rw [zec] at e1
 cases er:ρ[i]? with
 | none=>rw [er] at e1;cases e1
 | some y =>
  rw [er] at e1
  simp only [zS,zF] at e1
  have o:=r.ok i y v er e2
  cases y with
  | no=>simp only [bP] at e1;subst e1;trivial
  | val d =>
   simp only [bP] at e1
   subst e1
   exact o.mono fz fun a _ ⟨p,d',z⟩=>nomatch z
  | ob c ds =>
   simp only [bP] at e1
   subst e1
   exact o.mono fz fun a _ ⟨p,d',z⟩=>nomatch z
  | ow p d =>
   cases v with
   | none=>exact o.elim
   | some v =>
    cases v with
    | ref a =>
     have ai:At ρ σ i a:=⟨⟨p,d,er⟩,e2⟩
     cases el:(ix.zip (β.drop k)).lookup i with
     | none =>
      simp only [bP,el] at e1
      subst e1
      refine o.mono fz fun b e3 _=>?_
      cases e3
      obtain⟨u,hu,_⟩:=r.fe ⟨i,ai⟩
      rw [hu]
      refine kp a u hu fun⟨j,h⟩=>?_
      obtain⟨j',i',rfl,ej,h'⟩:=rW h
      have:=r.sep i i' a ai h'
      subst this
      have hb:β[k+j']?≠none:=fun z=>by
       have:∃ d,β[k+j']?=some (.ow p d):=(md j' p).mpr ⟨d,by rw [vk,ej];simp [er]⟩
       obtain⟨_,w⟩:=this
       rw [z] at w;cases w
      cases i5:β[k+j']? with
      | none=>exact hb i5
      | some c =>
       have:(β.drop k)[j']?=some c:=by rw [List.getElem?_drop];exact i5
       rw [zis nd ej this] at el
       cases el
     | some c =>
      obtain⟨j,hj,hc⟩:=zir el
      rw [List.getElem?_drop] at hc
      have bm:(cq k ix ρ)[k+j]?=some (.ow p d):=by rw [vk,hj];simp [er]
      obtain⟨d',gM⟩:=(md j p).mpr ⟨d,bm⟩
      rw [hc] at gM
      cases gM
      simp only [bP,el] at e1
      subst e1
      have es:σβ[k+j]?=some (some (.ref a)):=by rw [hs j,zaN,hj];simp [e2]
      exact rb.ok (k+j) _ _ hc es
    | _=>exact o.elim
end
theorem zl4{K:kb}(hd:dom.all (fun i=>decide (i<k))=true):zad k (tG K dom g):=fun x σ H Q=>by
 rintro⟨ρ,d,ρ1,rel,fz,e,q⟩
 refine⟨ρ,d,ρ1,rel,fz,e,fun σ1 ak c=>⟨⟨c.1,fun i hi=>?_⟩,q σ1 ak c⟩⟩
 rcases c.2 i with⟨_,c2⟩|⟨m,_⟩
 ·exact c2
 ·have:=of_decide_eq_true (An.mp hd i m)
  omega
structure pW(K:kb)(X:Cx)(ifs:List o1)(t:TF):Prop where
 run:X.K=K->jS X ifs (tT K t)
instance {K:kb} {X:Cx} {ifs:List o1} {t:TF}:CoeFun (pW K X ifs t) fun _=>X.K=K->jS X ifs (tT K t):=⟨pW.run⟩
theorem _root_.L2.jS.weak{e:List o1}{t:TT}(h:jS X e t)(w:∀ σ H Q,t' σ H Q->t σ H Q):jS X e t':=fun pins s σ H Q I q=>h pins s σ H Q I (w σ H Q q)
theorem qX{K:kb}:pW K X [] fq:=.mk fun _=>zrM.weak fun σ H Q=>by
 rintro⟨ρ,rel,q⟩
 exact q.now rel
theorem zc8{K:kb}(h:eS K X c t):pW K X [c] t:=.mk fun hK=>zrN (h hK)
section
variable {K:kb}{elt iter:o1}
theorem zlZ(nd:ix.Nodup)(iz:dom.all (fun i=>decide (i<k))=true)(σ:L2.St)(H:Hp)(Q:VK)(q:tN K (fN k ix it g t f) σ H Q):zdj k ix (tI K it) (tG K dom g) (tT K t) (tV K f) σ H Q:=by
 revert q
 rintro⟨ρ0,jL,q⟩
 obtain⟨x,ex,q⟩:=q.bM
 refine⟨ρ0,jL,?_⟩
 rw [ex]
 intro H1 ak aW J wk l hl
 obtain⟨items,ρs⟩:=x
 have sQ:H l=none:=by
  cases e:H l with
  | none=>rfl
  | some o =>
   by_cases m:MA ρ0 σ l
   ·obtain⟨o',e',_⟩:=ak.fe (aW.ma.mp m)
    rw [hl] at e';cases e'
   ·rw [aW.kp l o e m] at hl;cases hl
 have sl:aM H1 (upd H1 l (.lst [])):=aM.upd hl
 refine⟨fun i m ys H2=>m=items.length-i/\i<=items.length/\H2 l=some (.lst ys)/\∃ ρ acc,Rel K ρ σ H2/\¬ MA ρ σ l/\aj K H2 acc ys/\aC H1 H2/\bZ ρ0 ρ σ H H2 /\
  Good K ρ0 σ H ((fF k ix g t f (items.drop i) ρ acc).bind fun(y:List D×En)=>.ok ((zG y.1:D),y.2)) fun d ρ' H'=>∀ a,H a=none->cY K H' a d->Q (.ref a) H',
  ⟨items.length,by simp,zr _,bX,ρs,[],ak.same sl,fun z=>?_,by simp [aj],aC.of sl,aW.trans (.of sl),q⟩,?_⟩
 ·obtain⟨o',e',_⟩:=ak.fe z
  rw [hl] at e';cases e'
 rintro i m ys H2 ⟨rfl,hi,hly,ρ,acc,rel,j6,fa,fz,xx,gd⟩
 refine⟨hly,?_⟩
 by_cases c:i<items.length
 ·have ed:=Es c
  rw [ed] at gd
  obtain⟨zmf,hy⟩:=wk.1 i items[i] H2 fz (yC c)
  refine .inr ⟨zmf,fun x H3 y=>?_⟩
  obtain⟨sm,fx⟩:=hy x H3 y
  have gv:Rel K ρ σ H3:=rel.same sm
  obtain⟨w,ew,gd⟩:=gd.cD
  obtain⟨β1,e1,ew⟩:=b6 (show(g items[i] (cq k ix ρ)).bind _=.ok w from ew)
  obtain⟨c1,ec,ew⟩:=b6 ew
  refine⟨cq k ix ρ,items[i],β1,zjf nd gv,fx,e1,fun σ1 ztk chg=>⟨β1,ztk,?_⟩⟩
  rw [ec]
  intro H5 zhJ mH
  have hσ:∀ j,σ1[k+j]?=(eT k ix σ)[k+j]?:=fun j=>by
   rcases chg.2 (k+j) with⟨_,c2⟩|⟨m,_⟩
   ·exact c2
   ·have:=of_decide_eq_true (An.mp iz _ m)
    omega
  have hβ:∀ j,β1[k+j]?=(cq k ix ρ)[k+j]?:=fun j=>by
   rcases chg.2 (k+j) with⟨c2,_⟩|⟨m,_⟩
   ·exact c2
   ·have:=of_decide_eq_true (An.mp iz _ m)
    omega
  have hMA:∀ a,MA β1 σ1 a->MA (cq k ix ρ) (eT k ix σ) a:=fun a ⟨j,⟨p,d,z1⟩,z2⟩=>by
   rcases chg.2 j with⟨c1,c2⟩|⟨_,⟨d',c1⟩,_⟩
   ·exact⟨j,⟨p,d,by rw [<- c1];exact z1⟩,by rw [<- c2];exact z2⟩
   ·rw [c1] at z1;cases z1
  have hMB:∀ a,MA (cq k ix ρ) (eT k ix σ) a->MA ρ σ a:=fun a ⟨j,h⟩=>by
   obtain⟨_,i,_,_,h⟩:=rW h
   exact⟨i,h⟩
  have h3l:H3 l=some (.lst ys):=sm l _ hly
  have n1:¬ MA β1 σ1 l:=fun z=>j6 (hMB l (hMA l z))
  have h5l:H5 l=some (.lst ys):=mH.kp l _ h3l n1
  obtain⟨cb,β2⟩:=c1
  cases cb with
  | true =>
   refine lV ⟨β2,zhJ,?_⟩
   obtain⟨y,ey,ew⟩:=b6 (show(f β2).bind _=.ok w from ew)
   rw [ey]
   intro H6 zti uB v fv
   obtain⟨cc,ew⟩:=gi ew
   have n2:¬ MA β2 σ1 l:=fun z=>n1 (mH.ma.mpr z)
   have h6l:H6 l=some (.lst ys):=uB.kp l _ h5l n2
   have st:bZ β1 y.2 σ1 H3 H6:=mH.trans uB
   obtain⟨rb,sb⟩:=zed (k:=k) nd gv hσ zti (fun j p=>by rw [<- hβ j];exact(st.md (k+j) p).symm) (fun a o h n=>st.kp a o h fun z=>n (hMA a z))
   have wJ:¬ MA (back ρ ix (y.2.drop k)) σ l:=fun z=>j6 (sb.ma.mpr z)
   have sv:aC H2 H6:=(aC.of sm).trans (sb.dO gv)
   have fz7:aC H6 (upd H6 l (.lst (ys++[v]))):=fun b u e s=>by
    rw [aT fun z=>by subst z;rw [h6l] at e;cases e;exact s]
    exact e
   refine⟨h6l,?_,items.length-(i+1),by omega,rfl,c,bX,back ρ ix (y.2.drop k),acc++[y.1],rb.put wJ (fun u e=>by rw [h6l] at e;cases e;exact fun z=>z),wJ,?_,(fz.trans sv).trans fz7,⟨((xx.trans (.of sm)).trans sb).md,fun a o h n=>?_⟩,?_⟩
   ·have:=lY cc
    have l0:=nj
    rw [fa.len];omega
   ·refine((fa.mono sv).mono fz7).app ?_
    simp only [aj]
    exact⟨v,[],rfl,fv.mono fz7,rfl⟩
   ·rw [aT fun z=>by subst z;rw [sQ] at h;cases h]
    exact((xx.trans (.of sm)).trans sb).kp a o h n
   ·rw [ew]
    exact gd
  | false =>
   obtain⟨rb,sb⟩:=zed (k:=k) nd gv hσ zhJ (fun j p=>by rw [<- hβ j];exact(mH.md (k+j) p).symm) (fun a o h n=>mH.kp a o h fun z=>n (hMA a z))
   have wJ:¬ MA (back ρ ix (β2.drop k)) σ l:=fun z=>j6 (sb.ma.mpr z)
   have sv:aC H2 H5:=(aC.of sm).trans (sb.dO gv)
   refine lU ⟨items.length-(i+1),by omega,rfl,c,h5l,back ρ ix (β2.drop k),acc,rb,wJ,fa.mono sv,fz.trans sv,(xx.trans (.of sm)).trans sb,?_⟩
   rw [show fF k ix g t f (items.drop (i+1)) (back ρ ix (β2.drop k)) acc=.ok w from ew]
   exact gd
 ·have e:i=items.length:=by omega
  subst e
  rw [Et] at gd
  exact .inl ⟨wk.2 _ H2 fz (x9 _),gd H2 rel xx l sQ ⟨ys,hly,fa⟩⟩
theorem zr8(L:List ib)(ix:List Nat)(M:List ib)(hc:X.calm=true)(hk:scope.kind=.function)(hd:vz X.env.scope scope X.N ix=true)(hM:M=L++ix.map fun i=>X.N.getD i "") (nd:ix.Nodup) (hi:iT K X tg iter it)
  (hg:∀ C s₃ H₃ fp,il K (g8 X M scope C s₃ H₃ fp) dom tg g) (iz:dom.all (fun i=>decide (i<L.length))=true)
  (ht:∀ C s₃ H₃ fp,pW K (g8 X M scope C s₃ H₃ fp) ifs t) (he:∀ C s₃ H₃ fp,PV K (g8 X M scope C s₃ H₃ fp) elt f)
  (hs:∀ x,AO iter X.env x=pure x:=by intro _;rfl) :
  bo K X (.ListComp elt [⟨tg,iter,ifs,0⟩] scope pos) (fN L.length ix it g t f):=.mk fun hK=>by
 refine(zqQ L ix M hc hk hd hM (hi hK) (fun C s₃ H₃ fp=>hg C s₃ H₃ fp hK) (zl4 iz) (fun C s₃ H₃ fp=>ht C s₃ H₃ fp hK) (fun C s₃ H₃ fp=>he C s₃ H₃ fp hK) hs).weak fun σ H Q q=>zlZ nd iz σ H Q q
end
end
variable {l:List Itm}{P:x6}{n:Nat}{fd:yq}{N ps:List ib}{mg:ib->Option gV}{base:xV}{ms:List Bool}
section
variable [Cs]
noncomputable def mG(K:kb)(ms:List Bool)(fr:Bool)(F:List D->R (D×List D)):Sp:=fun vs H Q _=>∃ ds,vs.length=ms.length/\ds.length=ms.length/\Rel K (slots ms ds) (vs.map some) H /\
 ∃ d os,F ds=.ok (d,os)/\∀ v H',Rel K (slots ms os) (vs.map some) H'->(∀ a o,H a=some o->¬ MA (slots ms ds) (vs.map some) a->H' a=some o) ->
  (if fr=true then ∃ a,v=.ref a/\H a=none/\cY K H' a d else Fz K H' d v)->Q v H'
noncomputable def iM(K:kb)(n:Nat)(fr:Bool)(G:List D->R D):Sp:=fun vs H Q _=>∃ ds,vs.length=n/\h9 H/\aj K H ds vs/\∃ d,G ds=.ok d/\∀ v H',aM H H'->(if fr=true then ∃ a,v=.ref a/\H a=none/\cY K H' a d else Fz K H' d v)->Q v H'
theorem nP:∀{ms:List Bool} {ds:List D} {i:Nat},ds.length=ms.length->(slots ms ds)[i]?=(ms[i]?).bind fun m=>(ds[i]?).map fun d=>if m=true then Sl.ow true d else Sl.val d
 | [],[],i,_=>by simp [slots]
 | [],_::_,i,h=>by simp at h
 | _::_,[],i,h=>by simp at h
 | m::ms,d::ds,0,_=>by simp [slots]
 | m::ms,d::ds,i+1,h=>by
  simp only [slots,zz1]
  exact nP (by simpa using h)
theorem uz:∀{ms:List Bool} {ds:List D},ds.length=ms.length->(slots ms ds).length=ms.length
 | [],[],_=>rfl
 | [],_::_,h=>by simp at h
 | _::_,[],h=>by simp at h
 | m::ms,d::ds,h=>by simp only [slots,yg];rw [uz (by simpa using h)]
theorem tU:∀{ms:List Bool} {ds:List D} {ρ:En},ds.length=ms.length->(outs ms ds ρ).length=ms.length
 | [],[],_,_=>rfl
 | [],_::_,_,h=>by simp at h
 | _::_,[],_,h=>by simp at h
 | m::ms,d::ds,ρ,h=>by simp only [outs,yg];rw [tU (by simpa using h)]
theorem zgS:∀{ms:List Bool} {ds:List D} {ρ:En} {i:Nat} {m:Bool} {d:D},ms[i]?=some m->ds[i]?=some d->(outs ms ds ρ)[i]?=some (outD m d ρ[i]?)
 | m0::ms,d0::ds,ρ,0,m,d,h1,h2=>by
  simp at h1 h2
  subst h1;subst h2
  simp [outs,List.head?_eq_getElem?]
 | m0::ms,d0::ds,ρ,i+1,m,d,h1,h2=>by
  simp at h1 h2
  simp only [outs,zz1]
  rw [zgS h1 h2,List.getElem?_tail]
 | [],_,_,_,_,_,h,_=>by simp at h
 | _::_,[],_,_,_,_,_,h=>by simp at h
section
variable {K:kb}
theorem Rel.pad(r:Rel K ρ σ H)(n:Nat):Rel K (ρ++xY n .no) (σ++xY n none) H:=by
 have w:∀ i a,At (ρ++xY n .no) (σ++xY n none) i a->At ρ σ i a:=fun i a ⟨⟨p,d,e1⟩,e2⟩=>by
  by_cases c:i<ρ.length
  ·rw [zt c] at e1
   rw [zt (by rw [<- r.len];exact c)] at e2
   exact⟨⟨p,d,e1⟩,e2⟩
  ·rw [z8 (by omega),z9] at e1
   split at e1 <;> cases e1
 refine⟨by simp [r.len],fun i x v e1 e2=>?_,fun i j a h1 h2=>r.sep i j a (w i a h1) (w j a h2),r.cst⟩
 by_cases c:i<ρ.length
 ·rw [zt c] at e1
  rw [zt (by rw [<- r.len];exact c)] at e2
  exact r.ok i x v e1 e2
 ·rw [z8 (by omega),z9] at e1
  split at e1
  ·cases e1;trivial
  ·cases e1
theorem zpq(hl:ρ.length=σ.length):MA (ρ++xY n .no) (σ++xY n none) a↔MA ρ σ a:=by
 constructor
 ·rintro⟨i,⟨p,d,e1⟩,e2⟩
  by_cases c:i<ρ.length
  ·rw [zt c] at e1
   rw [zt (by rw [<- hl];exact c)] at e2
   exact⟨i,⟨p,d,e1⟩,e2⟩
  ·rw [z8 (by omega),z9] at e1
   split at e1 <;> cases e1
 ·rintro⟨i,⟨p,d,e1⟩,e2⟩
  have c:=(yu.mp e1).1
  exact⟨i,⟨p,d,by rw [zt c];exact e1⟩,by rw [zt (by rw [<- hl];exact c)];exact e2⟩
end
theorem xo{ds:List D}{p:Bool}(hl:ds.length=ms.length)(e:(slots ms ds)[i]?=some (.ow p d)):p=true/\ms[i]?=some true/\ds[i]?=some d:=by
 rw [nP hl] at e
 cases em:ms[i]? with
 | none=>rw [em] at e;cases e
 | some m =>
  cases ed:ds[i]? with
  | none=>rw [em,ed] at e;cases e
  | some d' =>
   rw [em,ed] at e
   cases m with
   | true=>simp at e;exact⟨e.1,rfl,by rw [e.2]⟩
   | false=>simp at e
section
variable {K:kb}
theorem zft{st:x8}{f:dm}(ms:List Bool)(fr:Bool)(h:dw K x x st f fd)(S:fB N ps (aU st))(eI:ps.length=ms.length)(fR:ps.length<=N.length)
  (hb:∀(aw:gV) (A:ya) (outer:List ye) (s:ir) (H:Hp) (E:XK),aZ k (A.deeper (yQ x (aU st) s.heap.objs.size f aw))->eQ K (dC (bE P w) P w K mg base N x (aU st) f aw A outer s H E) (b7 st) b) :
  bU P w K mg base (bE P w) (k+1) f fd ps (mG K ms fr (run ms fr N.length b)):=by
 refine h.qO S (fun vs H Q E ⟨ds,e,_⟩=>by rw [e,eI]) fun aw A outer s H vs Q E hr hq=>?_
 obtain⟨ds,hv,hd,rel,d,os,hF,q⟩:=hq
 have b8:L2.start N vs=vs.map some++xY (N.length-ds.length) none:=by unfold L2.start;rw [hv,hd]
 refine⟨tS K ⟨H,L2.start N vs,slots ms ds++xY (N.length-ds.length) .no⟩ b,hb aw A outer s H E hr rfl _,slots ms ds++xY (N.length-ds.length) .no,?_,?_⟩
 ·have tru:∀(i:Nat) p d,(slots ms ds++xY (N.length-ds.length) .no)[i]?=some (.ow p d)->p=true:=fun i p d e=>by
   by_cases c:i<(slots ms ds).length
   ·rw [zt c] at e
    exact(xo hd e).1
   ·rw [z8 (by omega),z9] at e
    split at e <;> cases e
  refine⟨?_,fun a o e _=>e,fun i a d e _=>absurd (tru i false d e) zy,fun i=>BL,fun i d e=>rfl,tru⟩
  rw [b8]
  exact rel.pad _
 ·unfold run at hF
  rw [if_pos hd] at hF
  obtain⟨y,ey,hF⟩:=b6 hF
  rw [ey]
  have fin:∀(ρ':En) (σ':L2.St) (H':Hp),bH K ⟨H,L2.start N vs,slots ms ds++xY (N.length-ds.length) .no⟩ ρ' σ' H' ->
    Rel K (slots ms (outs ms ds ρ')) (vs.map some) H'/\(∀ a o,H a=some o->¬ MA (slots ms ds) (vs.map some) a->H' a=some o):=fun ρ' σ' H' r=>by
   have sQ:(slots ms ds).length=(vs.map some).length:=by rw [uz hd,yn,hv]
   have kp:∀ a o,H a=some o->¬ MA (slots ms ds) (vs.map some) a->H' a=some o:=fun a o e n=>r.keep a o e fun z=>n (by
    have z':MA (slots ms ds++xY (N.length-ds.length) .no) (L2.start N vs) a:=z
    rw [b8] at z'
    exact(zpq sQ).mp z')
   have fz:aC H H':=fun a o e sy=>kp a o e fun m=>by
    obtain⟨o',e',ow⟩:=rel.fe m
    rw [e] at e'
    cases e'
    exact ow.ja sy
   refine⟨?_,kp⟩
   have pinned:∀(i:Nat) d0,ms[i]?=some true->ds[i]?=some d0->∃ d',ρ'[i]?=some (.ow true d')/\σ'[i]?=(vs.map some)[i]?:=fun i d0 em ed=>by
    have hi:i<(slots ms ds).length:=by rw [uz hd];exact(yu.mp em).1
    have e0:(slots ms ds++xY (N.length-ds.length) .no)[i]?=some (.ow true d0):=by
     rw [zt hi,nP hd,em,ed];rfl
    obtain⟨d',e'⟩:=(r.pin i).mpr ⟨d0,e0⟩
    refine⟨d',e',?_⟩
    rw [r.fix i d' e']
    show(L2.start N vs)[i]?=_
    rw [b8,zt (by rw [<- sQ];exact hi)]
   have ho:(outs ms ds ρ').length=ms.length:=tU hd
   refine⟨by rw [uz ho,yn,hv],fun i x v e1 e2=>?_,fun i j a h1 h2=>?_,rel.cst.mono fz⟩
   ·rw [nP ho] at e1
    cases em:ms[i]? with
    | none=>rw [em] at e1;cases e1
    | some m =>
     have hi:i<ds.length:=by rw [hd];exact(yu.mp em).1
     have ed:=yC hi
     rw [em,zgS em ed] at e1
     cases m with
     | true =>
      obtain⟨d',e3,e4⟩:=pinned i _ em ed
      rw [e3] at e1
      cases e1
      rw [<- e4] at e2
      exact r.rel.ok i _ _ e3 e2
     | false =>
      cases e1
      have e5:(slots ms ds)[i]?=some (.val ds[i]):=by rw [nP hd,em,ed];rfl
      exact(rel.ok i _ _ e5 e2).mono fz fun a _ ⟨p,d',z⟩=>nomatch z
   ·have w:∀ i a,At (slots ms (outs ms ds ρ')) (vs.map some) i a->At (slots ms ds) (vs.map some) i a:=fun i a ⟨⟨p,d0,e1⟩,e2⟩=>by
     obtain⟨rfl,em,_⟩:=xo ho e1
     have hi:i<ds.length:=by rw [hd];exact(yu.mp em).1
     have ed:=yC hi
     exact⟨⟨true,ds[i],by rw [nP hd,em,ed];rfl⟩,e2⟩
    exact rel.sep i j a (w i a h1) (w j a h2)
  obtain⟨fl,ρ'⟩:=y
  cases fr with
  | false =>
   cases fl with
   | rt dr =>
    cases hF
    exact fun v σ' H' r fz=>q v H' (fin ρ' σ' H' r).1 (fin ρ' σ' H' r).2 fz
   | nx =>
    cases hF
    exact fun σ' H' r fz=>q .non H' (fin ρ' σ' H' r).1 (fin ρ' σ' H' r).2 (by show Fz K H' .none .non;simp [Fz])
   | _=>cases hF
  | true =>
   cases fl with
   | rf dr =>
    cases hF
    exact fun a σ' H' r ha m=>q (.ref a) H' (fin ρ' σ' H' r).1 (fin ρ' σ' H' r).2 ⟨a,rfl,ha,m⟩
   | _=>cases hF
theorem zly{st:x8}(ms:List Bool)(fr:Bool)(h:bh K mg x st)(S:fB N ps (aU st))(eI:ps.length=ms.length)(fR:ps.length<=N.length)
  (gL:∀(kV doc pm:gV) (an:Option dm) (aw ct:gV) (us:List gV),us.length=ps.length->Ax (zh x x (gk st) (b7 st) (aU st) .none kV doc pm an aw ct) ⟨us,[]⟩=pure (ps.zip us))
  (hb:∀(f:dm) (aw:gV) (A:ya) (outer:List ye) (s:ir) (H:Hp) (E:XK),aZ k (A.deeper (yQ x (aU st) s.heap.objs.size f aw))->eQ K (dC (bE P w) P w K mg base N x (aU st) f aw A outer s H E) (b7 st) b) :
  Callee P w K mg base x (k+1) ps (mG K ms fr (run ms fr N.length b)):=by
 obtain⟨f,fd,hm,F⟩:=h
 exact⟨f,fd,hm,F.kp,F.binds gL,zft ms fr F S eI fR (hb f)⟩
end
end
variable {G:List D->R D}{m:Nat}{a:List Ar}
section
variable [Cs]
theorem zde:∀{n:Nat} {ds:List D},ds.length=n->slots (xY n false) ds=ds.map Sl.val
 | 0,[],_=>rfl
 | n+1,d::ds,h=>by
  simp only [BD,slots,yi]
  rw [zde (by simpa using h)]
  rfl
 | 0,_::_,h=>by simp at h
 | n+1,[],h=>by simp at h
theorem zdc{K:kb}:∀{ds:List D} {vs:List V},h9 H->aj K H ds vs->Rel K (ds.map Sl.val) (vs.map some) H:=fun{ds vs} cst f=>by
 refine⟨by simp [f.len],fun i x v e1 e2=>?_,fun i j a ⟨⟨p,d,e⟩,_⟩=>?_,cst⟩
 ·rw [yO] at e1 e2
  cases ed:ds[i]? with
  | none=>rw [ed] at e1;cases e1
  | some d =>
   obtain⟨u,eu,fu⟩:=f.get ed
   rw [ed] at e1
   rw [eu] at e2
   cases e1;cases e2
   exact fu
 ·rw [yO] at e
  cases ed:ds[i]? with
  | none=>rw [ed] at e;cases e
  | some d=>rw [ed] at e;cases e
theorem zpN{ds:List D}{a:dm}:¬ MA (ds.map Sl.val) σ a:=by
 rintro⟨i,⟨p,d,e⟩,_⟩
 rw [yO] at e
 cases ed:ds[i]? with
 | none=>rw [ed] at e;cases e
 | some d=>rw [ed] at e;cases e
section
variable {K:kb}
theorem bU.pure{f:dm}{fr:Bool}(F:bU P w K mg base (bE P w) k f fd ps (mG K (xY n false) fr (run (xY n false) fr m b))):bU P w K mg base (bE P w) k f fd ps (iM K n fr (bG fr n m b)):=by
 refine F.imp fun vs H Q E=>?_
 rintro⟨ds,hv,cst,f,d,e,q⟩
 have hd:ds.length=n:=by rw [<- f.len,hv]
 obtain⟨y,ey,e⟩:=b6 e
 cases e
 refine⟨ds,by simpa using hv,by simpa using hd,by rw [zde hd];exact zdc cst f,y.1,y.2,by rw [ey],fun v H' r kp fin=>q v H' (fun a o e=>kp a o e (by rw [zde hd];exact zpN)) fin⟩
theorem Callee.pure{n m:Nat}{fr:Bool}{b:SF}(c:Callee P w K mg base x k ps (mG K (xY n false) fr (run (xY n false) fr m b))):Callee P w K mg base x k ps (iM K n fr (bG fr n m b)):=by
 obtain⟨f,fd,h1,h2,h3,F⟩:=c
 exact⟨f,fd,h1,h2,h3,bU.pure F⟩
end
def kn(fa:AF)(n:Nat):Prop:=∀ ρ y,fa ρ=.ok y->y.1.length=n
theorem uY:kn ae 0:=fun ρ y h=>by cases h;rfl
theorem uX{a:AF}(h:kn a n):kn (aa f a) (n+1):=fun ρ y e=>by
 obtain⟨x,_,e⟩:=b6 (show(f ρ).bind _=.ok y from e)
 obtain⟨z,e2,e⟩:=b6 e
 cases e
 simp [h _ _ e2]
section
variable {K:kb}
theorem zrS(c:Callee X.prog X.w X.K X.mg X.base x k ps (iM X.K n false G))(hr:aZ j X.A)(hg:Gl X x)(hx:Passes (bE X.prog X.w) X E)(ha:dB K X (e::es) fa)(hl:kn fa n)(hj:k<=j:=by decide)(bA:(x==("__debug__":ib))=false:=by decide)
  (he:pd (e::es) X.env=(false,xZ e X.env)::pd es X.env:=by exact FL.se rfl) (bj:(yp pos (pd es X.env)).any (·.1)=false:=by exact FL.sp rfl):PV K X (.Call (.Name x p) (e::es) [] pos) (aP G fa):=.mk fun hK=>by
 subst hK
 refine(o7 c hr hg hx (ha rfl) hj bA he bj).weak fun σ H Q=>?_
 rintro⟨ρ,rel,q⟩
 obtain⟨y,ey,q0⟩:=q.bM
 have hy:=hl ρ y ey
 refine⟨ρ,rel,?_⟩
 rw [ey]
 intro H1 ak aW vs fs
 obtain⟨d,ed,q2⟩:=(q0.step aW).cD
 rw [zP]
 exact⟨y.1,by rw [fs.len,hy],ak.cst,fs,d,ed,fun v H' s fin=>q2.new ak s v fin⟩
theorem zr7(c:Callee X.prog X.w X.K X.mg X.base x k ps (iM X.K n true G))(hr:aZ j X.A)(hg:Gl X x)(hx:Passes (bE X.prog X.w) X E)(ha:dB K X (e::es) fa)(hl:kn fa n)(hj:k<=j:=by decide)(bA:(x==("__debug__":ib))=false:=by decide)
  (he:pd (e::es) X.env=(false,xZ e X.env)::pd es X.env:=by exact FL.se rfl) (bj:(yp pos (pd es X.env)).any (·.1)=false:=by exact FL.sp rfl):bo K X (.Call (.Name x p) (e::es) [] pos) (aP G fa):=.mk fun hK=>by
 subst hK
 refine(o7 c hr hg hx (ha rfl) hj bA he bj).weak fun σ H Q=>?_
 rintro⟨ρ,rel,q⟩
 obtain⟨y,ey,q0⟩:=q.bM
 have hy:=hl ρ y ey
 refine⟨ρ,rel,?_⟩
 rw [ey]
 intro H1 ak aW vs fs
 obtain⟨d,ed,q2⟩:=(q0.step aW).cD
 rw [zP]
 refine⟨y.1,by rw [fs.len,hy],ak.cst,fs,d,ed,fun v H' s fin=>?_⟩
 obtain⟨a,rfl,ha,m⟩:=fin
 refine q2.new ak s a ?_ m
 cases e0:H a with
 | none=>rfl
 | some o =>
  by_cases mm:MA ρ σ a
  ·obtain⟨o',e',_⟩:=ak.fe (aW.ma.mp mm)
   rw [ha] at e';cases e'
  ·rw [aW.kp a o e0 mm] at ha;cases ha
noncomputable def fQ(K:kb)(σ:L2.St)(H₀ H:Hp):List Itm->List V->Prop
 | [],vs=>vs=[]
 | .vd d::r,vs=>∃ v t,vs=v::t/\Fz K H d v/\fQ K σ H₀ H r t
 | .mi i::r,vs=>∃ v t,vs=v::t/\σ[i]?=some (some v)/\fQ K σ H₀ H r t
 | .td d::r,vs=>∃ a t,vs=.ref a::t/\cY K H a d/\H₀ a=none/\fQ K σ H₀ H r t
theorem bZ.old(st:bZ ρ ρ1 σ H H1)(ak:Rel K ρ1 σ H1){a:dm}(ha:H1 a=none):H a=none:=by
 cases e0:H a with
 | none=>rfl
 | some o =>
  by_cases mm:MA ρ σ a
  ·obtain⟨o',e',_⟩:=ak.fe (st.ma.mp mm)
   rw [ha] at e';cases e'
  ·rw [st.kp a o e0 mm] at ha;cases ha
theorem fQ.back{σ:L2.St}{H H1 H2:Hp}(h:∀ a,H1 a=none->H a=none):∀{l:List Itm} {vs:List V},fQ K σ H1 H2 l vs->fQ K σ H H2 l vs
 | [],vs,z=>z
 | .vd d::r,vs,z=>by
  obtain⟨v,t,e,f,z⟩:=z
  exact⟨v,t,e,f,fQ.back h z⟩
 | .mi i::r,vs,z=>by
  obtain⟨v,t,e,f,z⟩:=z
  exact⟨v,t,e,f,fQ.back h z⟩
 | .td d::r,vs,z=>by
  obtain⟨v,t,e,f,g,z⟩:=z
  exact⟨v,t,e,f,h _ g,fQ.back h z⟩
noncomputable def tAr(K:kb)(a:List Ar):TA:=fun σ H Q=>∃ ρ,Rel K ρ σ H/\Good K ρ σ H (gf a ρ) fun l _ H'=>∀ vs,fQ K σ H H' l vs->Q vs H'
structure jn(K:kb)(X:Cx)(es:List o1)(a:List Ar):Prop where
 run:X.K=K->PA X es (tAr K a)
instance {K:kb} {X:Cx} {es:List o1} {a:List Ar}:CoeFun (jn K X es a) fun _=>X.K=K->PA X es (tAr K a):=⟨jn.run⟩
theorem cM:jn K X [] []:=.mk fun _=>jH.weak fun σ H Q=>by
 rintro⟨ρ,rel,q⟩
 exact q.now rel [] rfl
theorem cB(he:PV K X e f)(hr:jn K X es a)(hs:pd (e::es) X.env=(false,xZ e X.env)::pd es X.env:=by exact FL.se rfl):jn K X (e::es) (.v f::a):=.mk fun hK=>(gQ (he hK) (hr hK) hs).weak fun σ H Q=>by
 rintro⟨ρ,rel,q⟩
 refine eE rel q fun dx ρ1 x H1 ak aW fx q1=>?_
 obtain⟨y,ey,q2⟩:=q1.bM
 refine⟨ρ1,ak,?_⟩
 rw [ey]
 exact fun H2 cP du vs it=>(q2.step du).now cP _ ⟨x,vs,rfl,fx.mono (du.dO ak),it.back fun a ha=>aW.old ak ha⟩
theorem zr3(i:Nat)(ha:PE X (.Name y py) (cV i))(hr:jn K X es a)(hs:pd (.Name y py::es) X.env=(false,xZ (.Name y py) X.env)::pd es X.env:=by exact FL.se rfl):jn K X (.Name y py::es) (.m i::a):=.mk fun hK=>(gQ ha (hr hK) hs).weak fun σ H Q=>by
 rintro⟨ρ,rel,q⟩
 obtain⟨d,ed,q1⟩:=(show Good K ρ σ H ((bt ρ i).bind fun _=>(gf a ρ).bind fun y=>.ok (.mi i::y.1,y.2)) _ from q).cD
 obtain⟨ad,bz,_⟩:=rel.j4 ed
 obtain⟨y,ey,q2⟩:=q1.bM
 refine⟨.ref ad,bz.2,ρ,rel,?_⟩
 rw [ey]
 exact fun H2 cP du vs it=>(q2.step du).now cP _ ⟨.ref ad,vs,rfl,bz.2,it⟩
noncomputable def jU:List Ar->List Bool
 | []=>[]
 | .v _::r=>false::jU r
 | .m _::r=>true::jU r
 | .t _::r=>true::jU r
noncomputable def oj:List Ar->List Nat
 | []=>[]
 | .v _::r=>oj r
 | .m i::r=>i::oj r
 | .t _::r=>oj r
noncomputable def om:List Ar->Nat
 | []=>0
 | .v _::r=>om r
 | .m _::r=>om r
 | .t _::r=>om r+1
noncomputable def wt:Itm->Bool
 | .vd _=>false
 | _=>true
noncomputable def uF:Itm->Option Nat
 | .mi i=>some i
 | _=>none
noncomputable def lS:Itm->Bool
 | .td _=>true
 | _=>false
theorem uZ:∀{a:List Ar} {ρ:En} {y:List Itm×En},gf a ρ=.ok y->y.1.map wt=jU a/\y.1.filterMap uF=oj a/\y.1.countP lS=om a
 | [],ρ,y,h=>by cases h;exact⟨rfl,rfl,rfl⟩
 | .v f::r,ρ,y,h=>by
  obtain⟨x,_,h⟩:=b6 (show(f ρ).bind _=.ok y from h)
  obtain⟨z,e,h⟩:=b6 h
  cases h
  obtain⟨h1,h2,h3⟩:=uZ e
  simp only [yi,Bb]
  exact⟨by rw [h1];rfl,h2,by rw [FA (by simp [lS])];exact h3⟩
 | .m i::r,ρ,y,h=>by
  obtain⟨_,_,h⟩:=b6 (show(bt ρ i).bind _=.ok y from h)
  obtain⟨z,e,h⟩:=b6 h
  cases h
  obtain⟨h1,h2,h3⟩:=uZ e
  simp only [yi,Bb]
  exact⟨by rw [h1];rfl,by rw [h2];rfl,by rw [FA (by simp [lS])];exact h3⟩
 | .t f::r,ρ,y,h=>by
  obtain⟨x,_,h⟩:=b6 (show(f ρ).bind _=.ok y from h)
  obtain⟨z,e,h⟩:=b6 h
  cases h
  obtain⟨h1,h2,h3⟩:=uZ e
  simp only [yi,Bb]
  exact⟨by rw [h1];rfl,h2,by rw [List.countP_cons_of_pos (by simp [lS]),h3];rfl⟩
theorem qa{ρ:En}:∀{l:List Itm} {ds:List D},fE ρ l=.ok ds->ds.length=l.length/\∀(j:Nat) z,l[j]?=some z->∃ d,ds[j]?=some d/\(match z with | .vd d'=>d=d' | .mi i=>bt ρ i=.ok d | .td d'=>d=d')
 | [],ds,h=>by cases h;exact⟨rfl,fun j z e=>by simp at e⟩
 | .vd d::r,ds,h=>by
  obtain⟨vD,e,h⟩:=b6 (show(fE ρ r).bind _=.ok ds from h)
  cases h
  obtain⟨h1,h2⟩:=qa e
  refine⟨by simp [h1],fun j z ez=>?_⟩
  cases j with
  | zero=>simp at ez;subst ez;exact⟨d,rfl,rfl⟩
  | succ j=>obtain⟨d',h3,h4⟩:=h2 j z (by simpa using ez);exact⟨d',by simpa using h3,h4⟩
 | .td d::r,ds,h=>by
  obtain⟨vD,e,h⟩:=b6 (show(fE ρ r).bind _=.ok ds from h)
  cases h
  obtain⟨h1,h2⟩:=qa e
  refine⟨by simp [h1],fun j z ez=>?_⟩
  cases j with
  | zero=>simp at ez;subst ez;exact⟨d,rfl,rfl⟩
  | succ j=>obtain⟨d',h3,h4⟩:=h2 j z (by simpa using ez);exact⟨d',by simpa using h3,h4⟩
 | .mi i::r,ds,h=>by
  obtain⟨d,e0,h⟩:=b6 (show(bt ρ i).bind _=.ok ds from h)
  obtain⟨vD,e,h⟩:=b6 h
  cases h
  obtain⟨h1,h2⟩:=qa e
  refine⟨by simp [h1],fun j z ez=>?_⟩
  cases j with
  | zero=>simp at ez;subst ez;exact⟨d,rfl,e0⟩
  | succ j=>obtain⟨d',h3,h4⟩:=h2 j z (by simpa using ez);exact⟨d',by simpa using h3,h4⟩
theorem fQ.get{σ:L2.St}{H₀ H:Hp}:∀{l:List Itm} {vs:List V},fQ K σ H₀ H l vs->vs.length=l.length/\∀(j:Nat) z,l[j]?=some z->∃ v,vs[j]?=some v/\(match z with | .vd d=>Fz K H d v | .mi i=>σ[i]?=some (some v) | .td d=>∃ a,v=.ref a/\cY K H a d/\H₀ a=none)
 | [],vs,h=>by cases (show vs=[] from h);exact⟨rfl,fun j z e=>by simp at e⟩
 | .vd d::r,vs,h=>by
  obtain⟨v,t,rfl,f,h⟩:=h
  obtain⟨h1,h2⟩:=fQ.get h
  refine⟨by simp [h1],fun j z ez=>?_⟩
  cases j with
  | zero=>simp at ez;subst ez;exact⟨v,rfl,f⟩
  | succ j=>obtain⟨d',h3,h4⟩:=h2 j z (by simpa using ez);exact⟨d',by simpa using h3,h4⟩
 | .mi i::r,vs,h=>by
  obtain⟨v,t,rfl,f,h⟩:=h
  obtain⟨h1,h2⟩:=fQ.get h
  refine⟨by simp [h1],fun j z ez=>?_⟩
  cases j with
  | zero=>simp at ez;subst ez;exact⟨v,rfl,f⟩
  | succ j=>obtain⟨d',h3,h4⟩:=h2 j z (by simpa using ez);exact⟨d',by simpa using h3,h4⟩
 | .td d::r,vs,h=>by
  obtain⟨v,t,rfl,f,g,h⟩:=h
  obtain⟨h1,h2⟩:=fQ.get h
  refine⟨by simp [h1],fun j z ez=>?_⟩
  cases j with
  | zero=>simp at ez;subst ez;exact⟨_,rfl,v,rfl,f,g⟩
  | succ j=>obtain⟨d',h3,h4⟩:=h2 j z (by simpa using ez);exact⟨d',by simpa using h3,h4⟩
end
end
variable {F:List D->R (D×List D)}
section
variable [Cs]
section
variable {K:kb}
theorem zqB{m:List (Nat×Sl)}(r:Rel K ρ σ H)(hA:∀ i c,m.lookup i=some c->∀ a,At ρ σ i a->∃ q d,c=.ow q d/\cY K H' a d)(hB:∀ i a,At ρ σ i a->m.lookup i=none->H' a=H a)(fz:aC H H') :
  Rel K (bQ m 0 ρ) σ H'/\∀(i:Nat) p,(∃ d,ρ[i]?=some (.ow p d))↔∃ d,(bQ m 0 ρ)[i]?=some (.ow p d):=by
 have gt:∀ i:Nat,(bQ m 0 ρ)[i]?=(ρ[i]?).map (bP m i):=fun i=>by rw [zay,Ck]
 have tD:∀(i:Nat) p,(∃ d,ρ[i]?=some (.ow p d))↔∃ d,(bQ m 0 ρ)[i]?=some (.ow p d):=fun i p=>by
  rw [gt]
  constructor
  ·rintro⟨d,e⟩
   rw [e]
   simp only [zS,bP]
   split
   ·rename_i p' d1 q' d2 h1 h2;cases h1;exact⟨_,rfl⟩
   ·exact⟨_,rfl⟩
  ·rintro⟨d,e⟩
   cases er:ρ[i]? with
   | none=>rw [er] at e;cases e
   | some x =>
    rw [er] at e
    simp only [zS,zF,bP] at e
    split at e
    ·cases e;exact⟨_,rfl⟩
    ·subst e;exact⟨_,rfl⟩
 have rP:∀ i a,At (bQ m 0 ρ) σ i a->At ρ σ i a:=fun i a ⟨⟨p,d,e1⟩,e2⟩=>⟨⟨p,(tD i p).mpr ⟨d,e1⟩⟩,e2⟩
 refine⟨⟨by rw [zaz];exact r.len,fun i x v e1 e2=>?_,fun i j a h1 h2=>r.sep i j a (rP i a h1) (rP j a h2),r.cst.mono fz⟩,tD⟩
 rw [gt] at e1
 cases er:ρ[i]? with
 | none=>rw [er] at e1;cases e1
 | some y =>
  rw [er] at e1
  simp only [zS,zF] at e1
  have o:=r.ok i y v er e2
  cases y with
  | no=>simp only [bP] at e1;subst e1;trivial
  | val d =>
   simp only [bP] at e1
   subst e1
   exact o.mono fz fun a _ ⟨p,d',z⟩=>nomatch z
  | ob c ds =>
   simp only [bP] at e1
   subst e1
   exact o.mono fz fun a _ ⟨p,d',z⟩=>nomatch z
  | ow p d =>
   cases v with
   | none=>exact o.elim
   | some v =>
    cases v with
    | ref a =>
     have ai:At ρ σ i a:=⟨⟨p,d,er⟩,e2⟩
     cases el:m.lookup i with
     | none =>
      simp only [bP,el] at e1
      subst e1
      exact o.mono fz fun b e3 _=>by cases e3;exact hB i a ai el
     | some c =>
      obtain⟨q,d',rfl,mm⟩:=hA i c el a ai
      simp only [bP,el] at e1
      subst e1
      exact mm
    | _=>exact o.elim
end
theorem zgr:∀{l:List Itm} {j j' i:Nat},(l.filterMap uF).Nodup->l[j]?=some (.mi i)->l[j']?=some (.mi i)->j=j'
 | [],j,j',i,_,h,_=>by simp at h
 | z::r,j,j',i,nd,h1,h2=>by
  have rest:(r.filterMap uF).Nodup:=by
   rw [Bb] at nd
   cases z with
   | mi k=>exact(z0.mp nd).2
   | _=>exact nd
  have mem:∀{j:Nat},r[j]?=some (.mi i)->i∈r.filterMap uF:=fun h=>DT.mpr ⟨.mi i,zg h,rfl⟩
  have hd:z=.mi i->∀{j:Nat},r[j]?≠some (.mi i):=fun e j h=>by
   subst e
   rw [Bb] at nd
   exact(z0.mp nd).1 (mem h)
  cases j with
  | zero =>
   cases j' with
   | zero=>rfl
   | succ j'=>exact absurd (by simpa using h2) (hd (by simpa using h1) (j:=j'))
  | succ j =>
   cases j' with
   | zero=>exact absurd (by simpa using h1) (hd (by simpa using h2) (j:=j))
   | succ j' =>
    have:=zgr (l:=r) rest (by simpa using h1) (by simpa using h2)
    rw [this]
theorem zh7:∀{l:List Itm} {j j':Nat} {d d':D},l.countP lS<=1->l[j]?=some (.td d)->l[j']?=some (.td d')->j=j'
 | [],j,j',d,d',_,h,_=>by simp at h
 | z::r,j,j',d,d',c,h1,h2=>by
  have rest:r.countP lS<=1:=by
   rw [List.countP_cons] at c;omega
  have none:lS z=true->∀{j:Nat} {d:D},r[j]?≠some (.td d):=fun e j d h=>by
   rw [List.countP_cons,if_pos e] at c
   have:0<r.countP lS:=List.countP_pos_iff.mpr ⟨_,zg h,rfl⟩
   omega
  cases j with
  | zero =>
   cases j' with
   | zero=>rfl
   | succ j' =>
    have e:z=.td d:=by simpa using h1
    subst e
    exact absurd (by simpa using h2) (none rfl (j:=j'))
  | succ j =>
   cases j' with
   | zero =>
    have e:z=.td d':=by simpa using h2
    subst e
    exact absurd (by simpa using h1) (none rfl (j:=j))
   | succ j' =>
    have:=zh7 (l:=r) rest (by simpa using h1) (by simpa using h2)
    rw [this]
theorem u3:∀{l:List Itm} {os:List D} {i:Nat} {c:Sl},(dW l os).lookup i=some c->∃(j:Nat) (d:D),l[j]?=some (.mi i)/\os[j]?=some d/\c=.ow true d
 | [],os,i,c,h=>by simp [dW] at h
 | z::r,[],i,c,h=>by cases z <;> simp [dW] at h
 | .vd d::r,o::os,i,c,h=>by
  obtain⟨j,d',h1,h2,h3⟩:=u3 (l:=r) (os:=os) (by simpa [dW] using h)
  exact⟨j+1,d',by simpa using h1,by simpa using h2,h3⟩
 | .td d::r,o::os,i,c,h=>by
  obtain⟨j,d',h1,h2,h3⟩:=u3 (l:=r) (os:=os) (by simpa [dW] using h)
  exact⟨j+1,d',by simpa using h1,by simpa using h2,h3⟩
 | .mi k::r,o::os,i,c,h=>by
  simp only [dW] at h
  rw [ym] at h
  by_cases e:i=k
  ·subst e
   simp only [beq_self_eq_true] at h
   cases h
   exact⟨0,o,rfl,rfl,rfl⟩
  ·rw [beq_false_of_ne e] at h
   obtain⟨j,d',h1,h2,h3⟩:=u3 (l:=r) (os:=os) h
   exact⟨j+1,d',by simpa using h1,by simpa using h2,h3⟩
theorem u0:∀{l:List Itm} {os:List D} {i j:Nat} {d:D},l[j]?=some (.mi i)->os[j]?=some d->∃ c,(dW l os).lookup i=some c
 | [],os,i,j,d,h,_=>by simp at h
 | z::r,[],i,j,d,_,h=>by simp at h
 | .vd _::r,o::os,i,j,d,h1,h2=>by
  cases j with
  | zero=>simp at h1
  | succ j =>
   simp only [dW]
   exact u0 (l:=r) (by simpa using h1) (by simpa using h2)
 | .td _::r,o::os,i,j,d,h1,h2=>by
  cases j with
  | zero=>simp at h1
  | succ j =>
   simp only [dW]
   exact u0 (l:=r) (by simpa using h1) (by simpa using h2)
 | .mi k::r,o::os,i,j,d,h1,h2=>by
  simp only [dW]
  rw [ym]
  by_cases e:i=k
  ·subst e
   simp
  ·rw [beq_false_of_ne e]
   cases j with
   | zero=>simp at h1;exact absurd h1.symm e
   | succ j=>exact u0 (l:=r) (by simpa using h1) (by simpa using h2)
section
variable {K:kb}{ρ0:En}{H0:Hp}{ds os:List D}
theorem qb(rel:Rel K ρ σ H)(it:fQ K σ H0 H l vs)(hi:fE ρ l=.ok ds)(hm:l.map wt=ms){a:dm}(hd:ds.length=ms.length)(h:At (slots ms ds) (vs.map some) j a):(∃ i,l[j]?=some (.mi i)/\At ρ σ i a)\/∃ d,l[j]?=some (.td d)/\H0 a=none:=by
 obtain⟨v1,v2⟩:=it.get
 obtain⟨d1,d2⟩:=qa hi
 obtain⟨⟨p,d,e1⟩,e2⟩:=h
 obtain⟨rfl,em,ed⟩:=xo hd e1
 rw [<- hm,yO] at em
 cases el:l[j]? with
 | none=>rw [el] at em;cases em
 | some z =>
  rw [el] at em
  obtain⟨v,ev,es⟩:=v2 j _ el
  obtain⟨d',oA,sg⟩:=d2 j _ el
  rw [yO,ev] at e2
  cases e2
  cases z with
  | vd _=>cases em
  | mi i =>
   obtain⟨q,eq⟩:=zcz sg
   exact .inl ⟨i,rfl,⟨q,d',eq⟩,es⟩
  | td d0 =>
   obtain⟨b,eb,_,hb⟩:=es
   cases eb
   exact .inr ⟨d0,rfl,hb⟩
theorem zi6(r0:Rel K ρ0 σ H0)(st:bZ ρ0 ρ σ H0 H)(rel:Rel K ρ σ H)(it:fQ K σ H0 H l vs)(hi:fE ρ l=.ok ds)(hm:l.map wt=ms)(nd:(l.filterMap uF).Nodup)(ct:l.countP lS<=1):ds.length=ms.length/\vs.length=ms.length/\Rel K (slots ms ds) (vs.map some) H:=by
 obtain⟨v1,v2⟩:=it.get
 obtain⟨d1,d2⟩:=qa hi
 have hl:ms.length=l.length:=by rw [<- hm,yn]
 have hd:ds.length=ms.length:=by rw [d1,hl]
 have hv:vs.length=ms.length:=by rw [v1,hl]
 have apart:∀{i:Nat} {a:dm},At ρ σ i a->H0 a=none->False:=fun h1 h2=>by
  obtain⟨o',e',_⟩:=r0.fe (st.ma.mpr ⟨_,h1⟩)
  rw [h2] at e';cases e'
 refine⟨hd,hv,⟨by rw [uz hd,yn,hv],fun j x v e1 e2=>?_,fun j j' a h1 h2=>?_,rel.cst⟩⟩
 ·rw [nP hd] at e1
  cases em:ms[j]? with
  | none=>rw [em] at e1;cases e1
  | some m =>
   cases ed:ds[j]? with
   | none=>rw [em,ed] at e1;cases e1
   | some d =>
    rw [em,ed] at e1
    rw [<- hm,yO] at em
    cases el:l[j]? with
    | none=>rw [el] at em;cases em
    | some z =>
     rw [el] at em
     obtain⟨u,eu,es⟩:=v2 j z el
     obtain⟨d',oA,sg⟩:=d2 j z el
     rw [ed] at oA
     cases oA
     rw [yO,eu] at e2
     cases e2
     cases z with
     | vd dz =>
      cases em
      cases e1
      cases sg
      exact es
     | mi i =>
      cases em
      cases e1
      obtain⟨q,eq⟩:=zcz sg
      have o:=rel.ok i _ _ eq es
      show iV K H (.ow true d) (some u)
      cases u with
      | ref a=>exact o
      | _=>exact o.elim
     | td dz =>
      cases em
      cases e1
      cases sg
      obtain⟨b,rfl,mb,_⟩:=es
      exact mb
 ·rcases qb rel it hi hm hd h1 with⟨i,e1,a1⟩|⟨d,e1,a1⟩
  ·rcases qb rel it hi hm hd h2 with⟨i',e2,a2⟩|⟨d,e2,a2⟩
   ·have:=rel.sep i i' a a1 a2
    subst this
    exact zgr nd e1 e2
   ·exact(apart a1 a2).elim
  ·rcases qb rel it hi hm hd h2 with⟨i',e2,a2⟩|⟨d,e2,a2⟩
   ·exact(apart a2 a1).elim
   ·exact zh7 ct e1 e2
theorem zi5(r0:Rel K ρ0 σ H0)(st:bZ ρ0 ρ σ H0 H)(rel:Rel K ρ σ H)(it:fQ K σ H0 H l vs)(hi:fE ρ l=.ok ds)(hm:l.map wt=ms)(hd:ds.length=ms.length)(ho:os.length=ms.length)(ra:Rel K (slots ms os) (vs.map some) H')(hC:∀ a o,H a=some o->¬ MA (slots ms ds) (vs.map some) a->H' a=some o) :
  Rel K (gI ρ l os) σ H'/\bZ ρ0 (gI ρ l os) σ H0 H':=by
 obtain⟨v1,v2⟩:=it.get
 obtain⟨d1,d2⟩:=qa hi
 have hl:ms.length=l.length:=by rw [<- hm,yn]
 have apart:∀{i:Nat} {a:dm},At ρ σ i a->H0 a=none->False:=fun h1 h2=>by
  obtain⟨o',e',_⟩:=r0.fe (st.ma.mpr ⟨_,h1⟩)
  rw [h2] at e';cases e'
 have kp0:∀ a o,H0 a=some o->¬ MA ρ0 σ a->H' a=some o:=fun a o e n=>hC a o (st.kp a o e n) fun⟨j,h⟩=>by
  rcases qb rel it hi hm hd h with⟨i,_,a1⟩|⟨d,_,a1⟩
  ·exact n (st.ma.mpr ⟨i,a1⟩)
  ·rw [e] at a1;cases a1
 have fz:aC H H':=fun a o e sy=>hC a o e fun⟨j,h⟩=>by
  obtain⟨⟨p,d,e1⟩,e2⟩:=id h
  obtain⟨rfl,em,ed⟩:=xo hd e1
  rcases qb rel it hi hm hd h with⟨i,_,a1⟩|⟨d,el,a1⟩
  ·obtain⟨o',e',ow⟩:=rel.fe ⟨i,a1⟩
   rw [e] at e'
   cases e'
   exact ow.ja sy
  ·obtain⟨v,ev,b,eb,mb,_⟩:=v2 j _ el
   rw [yO,ev] at e2
   cases e2
   cases eb
   obtain⟨o',e',ow⟩:=mb.own
   rw [e] at e'
   cases e'
   exact ow.ja sy
 have key:=zqB (H:=H) (H':=H') (m:=dW l os) rel (fun i c e a bz=>by
  obtain⟨j,d,e1,e2,rfl⟩:=u3 e
  obtain⟨v,ev,es⟩:=v2 j _ e1
  replace es:σ[i]?=some (some v):=es
  rw [bz.2] at es
  cases es
  refine⟨true,d,rfl,?_⟩
  have em:ms[j]?=some true:=by rw [<- hm,yO,e1];rfl
  exact ra.ok j (.ow true d) (some (.ref a)) (by rw [nP ho,em,e2];rfl) (by rw [yO,ev];rfl)) (fun i a bz e=>by
  obtain⟨u,hu,_⟩:=rel.fe ⟨i,bz⟩
  rw [hu]
  refine hC a u hu fun⟨j,h⟩=>?_
  rcases qb rel it hi hm hd h with⟨i',el,a1⟩|⟨d,_,a1⟩
  ·have:=rel.sep i i' a bz a1
   subst this
   have hj:j<os.length:=by rw [ho,hl];exact(yu.mp el).1
   obtain⟨c,ec⟩:=u0 el (yC hj)
   rw [ec] at e
   cases e
  ·exact apart bz a1) fz
 exact⟨key.1,⟨fun i p=>(st.md i p).trans (key.2 i p),kp0⟩⟩
end
section
variable {K:kb}
def uR(F:List D->R (D×List D))(n:Nat):Prop:=∀ ds y,F ds=.ok y->y.2.length=n
theorem zqj{fr:Bool}:uR (run ms fr m b) ms.length:=fun ds y h=>by
 unfold run at h
 split at h
 ·rename_i hd
  obtain⟨z,_,h⟩:=b6 h
  obtain⟨fl,ρ⟩:=z
  cases fr with
  | false =>
   cases fl with
   | rt d=>cases h;exact tU hd
   | nx=>cases h;exact tU hd
   | _=>cases h
  | true =>
   cases fl with
   | rf d=>cases h;exact tU hd
   | _=>cases h
 ·cases h
theorem zlY{fr:Bool}(ho:uR F (jU a).length)(nd:(oj a).Nodup)(ct:om a<=1)(σ:L2.St)(H:Hp)(Q:VK)(ρ:En)(rel:Rel K ρ σ H)
  (q:Good K ρ σ H (aA F a ρ) fun d ρ' H'=>∀ v,(if fr=true then ∃ a,v=.ref a/\H a=none/\cY K H' a d else Fz K H' d v)->Q v H'):zdh (mG K (jU a) fr F) [] E (tAr K a) σ H Q:=by
 obtain⟨y,ey,q0⟩:=q.bM
 obtain⟨h1,h2,h3⟩:=uZ ey
 refine⟨ρ,rel,?_⟩
 rw [ey]
 intro H1 ak aW vs it
 obtain⟨ds,ed,q1⟩:=q0.cD
 obtain⟨z,ez,q2⟩:=q1.cD
 obtain⟨hd,hv,ra⟩:=zi6 rel aW ak it ed h1 (by rw [h2];exact nd) (by rw [h3];exact ct)
 rw [zP]
 refine⟨ds,hv,hd,ra,z.1,z.2,ez,fun v H' rb kp fin=>?_⟩
 obtain⟨r2,s2⟩:=zi5 rel aW ak it ed h1 hd (ho ds z ez) rb kp
 refine q2 H' r2 s2 v ?_
 cases fr with
 | false=>exact fin
 | true =>
  obtain⟨ad,rfl,ha,m⟩:=fin
  exact⟨ad,rfl,aW.old ak ha,m⟩
theorem zrT(c:Callee X.prog X.w X.K X.mg X.base x k ps (mG X.K (jU a) false F))(ho:uR F (jU a).length)(nd:(oj a).Nodup)(ct:om a<=1)(hr:aZ j X.A)(hg:Gl X x)(hx:Passes (bE X.prog X.w) X E)(ha:jn K X (e::es) a)(hj:k<=j:=by decide)(bA:(x==("__debug__":ib))=false:=by decide)
  (he:pd (e::es) X.env=(false,xZ e X.env)::pd es X.env:=by exact FL.se rfl) (bj:(yp pos (pd es X.env)).any (·.1)=false:=by exact FL.sp rfl):PV K X (.Call (.Name x p) (e::es) [] pos) (aA F a):=.mk fun hK=>by
 subst hK
 refine(o7 c hr hg hx (ha rfl) hj bA he bj).weak fun σ H Q=>?_
 rintro⟨ρ,rel,q⟩
 exact zlY (fr:=false) ho nd ct σ H Q ρ rel q
end
end
section
variable [Cs]
section
variable {K:kb}{st:x8}
theorem zsf{a b:o1}{px pt:xW}{kt k2 jI}(hc:X.calm=true)(hN:X.N.Nodup)(hi:X.N[i]?=some x)(hj:X.N[j]?=some y)(dX:i≠j)
  (hx:X.env.scope.names.lookup x=some .local)(hy:X.env.scope.names.lookup y=some .local)(ha:PV K X a f)(hb:PV K X b h)
  (hw:BZ [.Tuple [.Name x px,.Name y py] kt pt] (.Tuple [a,b] k2 jI) X.env=pure (some [x,y]))
  (hs:BX [.Tuple [.Name x px,.Name y py] kt pt] (.Tuple [a,b] k2 jI) pos.line X.env=pure false:=by rfl)(jB:pd [a,b] X.env=(false,xZ a X.env)::pd [b] X.env:=by exact FL.se rfl)(eZ:pd [b] X.env=(false,xZ b X.env)::pd [] X.env:=by exact FL.se rfl) :
  dA K X (.Assign [.Tuple [.Name x px,.Name y py] kt pt] (.Tuple [a,b] k2 jI) pos) (eN i j f h):=.mk fun hK C=>(zrt hc hN hi hj dX hx hy (gQ (ha hK) (gQ (hb hK) jH eZ) jB) hw hs).weak fun Dn σ H=>by
 rintro⟨ρ,rel,g⟩
 refine i3 rel g fun d ρ1 v H1 ak aW fz g1=>i3 ak g1 fun d2 ρ2 v2 H2 cP du fz2 g2=>?_
 obtain⟨ρ3,e3,g3⟩:=g2.bM
 obtain⟨ρ4,e4,g4⟩:=g3.bM
 obtain⟨rfl,n1,l1⟩:=sA e3
 obtain⟨rfl,n2,l2⟩:=sA e4
 have f1:=fz.mono (du.dO ak.rel)
 have r3:=cP.chg (cP.rel.set (i:=i) (x:=.val d) (v:=some v) f1 fun _ _ _ z=>nomatch z) (rX n1 l1)
 have r4:=r3.chg (r3.rel.set (i:=j) (x:=.val d2) (v:=some v2) fz2 fun _ _ _ z=>nomatch z) (rX n2 l2)
 exact⟨v,v2,rfl,g4 _ H2 r4 (aC.refl _)⟩
end
end
variable {f:SF}
section
variable [Cs]
structure Blt(mg:ib->Option gV):Prop where
 tJ:mg "abs"=none
 bS:mg "isinstance"=none
 wH:mg "int"=none
 wG:mg "bool"=none
 nv:mg "tuple"=none
 wI:mg "list"=none
 zgz:mg "str"=none
 j5:mg "len"=none
 wF:mg "all"=none
 qM:mg "range"=none
 zgA:mg "zip"=none
 tK:mg "enumerate"=none
 zgx:mg "max"=none
 zgy:mg "min"=none
 zcB:mg "sum"=none
 zcA:mg "sorted"=none
 zgw:mg "dict"=none
 zgv:mg "any"=none
namespace Bt
theorem abs:yJ "abs"=some (.builtin "abs"):=by decide +kernel
theorem len:yJ "len"=some (.builtin "len"):=by decide +kernel
theorem all:yJ "all"=some (.builtin "all"):=by decide +kernel
theorem sum:yJ "sum"=some (.builtin "sum"):=by decide +kernel
theorem sorted:yJ "sorted"=some (.builtin "sorted"):=by decide +kernel
theorem int:yJ "int"=some (.type "int"):=by decide +kernel
theorem bool:yJ "bool"=some (.type "bool"):=by decide +kernel
theorem tuple:yJ "tuple"=some (.type "tuple"):=by decide +kernel
theorem list:yJ "list"=some (.type "list"):=by decide +kernel
end Bt
theorem zc6{K:kb}{st:List x8}(h:eQ K X.bT st f):eQ K X st f:=.mk fun hK C=>bJ.bT (h hK C)
theorem zo4{K:kb}{G:List D->R D}{H:Hp}{a:dm}{ns:List Int}(h:G [.list (ns.map yy)]=.ok (.bool true))(hO:∀ b xs,H b≠some (.lst xs))(hC:h9 H)(hS:bV K H a (ns.map V.int)):iM K 1 false G [.ref a] H (fun v _=>v=.bl true) fun _ _ _=>False:=by
 refine⟨[.list (ns.map yy)],rfl,hC,?_,.bool true,h,fun v H' _ fz=>by simpa [Fz] using fz⟩
 simp only [aj,Fz]
 refine⟨.ref a,[],rfl,⟨a,ns.map V.int,rfl,?_,aj.ofInts ns⟩,rfl⟩
 rcases hS with(hS|⟨o,hS⟩)|hS
 ·exact absurd hS (hO a _)
 ·exact .inl ⟨o,hS⟩
 ·exact .inr hS
end
end FL
namespace FL
open PySem
end FL
namespace L2
open PySem PySem.Spec PyProof.Rows
section
end
section
end
end L2
namespace FL
open PySem L2 PySem.Spec
open PyProof.Rows hiding St
variable [Cs]
end FL
namespace FL
open PySem
abbrev K1:=Int ⊕ ib
abbrev KQ:=List K1 ⊕ K1
noncomputable def wu:D->Option K1
 | .int i=>some (.inl i)
 | .str x=>some (.inr x)
 | _=>none
noncomputable def j3:List D->Option (List K1)
 | []=>some []
 | d::r=>(wu d).bind fun k=>(j3 r).map fun ks=>k::ks
noncomputable def keyOf:D->Option KQ
 | .tuple xs=>(j3 xs).map .inl
 | _=>none
noncomputable def vO:KQ->Bool
 | .inl _=>true
 | .inr _=>false
noncomputable def keysOk(f:Bool)(ah:List (D×D)):Bool:=ah.all fun kv=>match keyOf kv.1 with
 | some q=>vO q==f
 | none=>false
noncomputable def look(ah:List (D×D))(q:KQ):Option D:=(ah.find? fun kv=>decide (keyOf kv.1=some q)).map (·.2)
noncomputable def ua(ah:List (D×D))(k:D)(q:KQ)(v:D):List (D×D) :=
 if(ah.any fun kv=>decide (keyOf kv.1=some q))=true then ah.map fun kv=>if keyOf kv.1=some q then(kv.1,v) else kv else ah++[(k,v)]
noncomputable def zkH(ah:List (D×D))(q:KQ):List (D×D):=ah.filter fun kv=>decide (keyOf kv.1≠some q)
noncomputable def dictAt(d k:D):R (List (D×D)×KQ):=match d with
 | .dict ah=>(R.of (keyOf k)).bind fun q=>bc (keysOk (vO q) ah) (.ok (ah,q))
 | _=>.bad
noncomputable def mU(d k:D):R (Option D):=(dictAt d k).bind fun x=>.ok (look x.1 x.2)
noncomputable def zlU(d k x:D):R D:=(mU d k).bind fun o=>.ok (o.getD x)
noncomputable def inD(k d:D):R D:=(mU d k).bind fun o=>.ok (.bool o.isSome)
noncomputable def jt(d k:D):R D:=(mU d k).bind fun o=>R.of o
noncomputable def ou(d k v:D):R D:=(dictAt d k).bind fun x=>bc (leB (x.1.length+1) lim) (.ok (.dict (ua x.1 k x.2 v)))
noncomputable def zkv(d k:D):R D:=(dictAt d k).bind fun x=>bc (look x.1 x.2).isSome (.ok (.dict (zkH x.1 x.2)))
noncomputable def jD:D->R (List D)
 | .dict ah=>.ok (ah.map (·.1))
 | _=>.bad
noncomputable def me(i:Nat)(k x:EF):EF:=fun ρ=>(bt ρ i).bind fun c0=>(jD c0).bind fun _=>(k ρ).bind fun a=>(x a.2).bind fun b=>(bt b.2 i).bind fun c=>(zlU c a.1 b.1).bind fun d=>.ok (d,b.2)
noncomputable def e3(g:D->D->D->R D)(d k x:EF):EF:=fun ρ=>(d ρ).bind fun c=>(k c.2).bind fun a=>(x a.2).bind fun b=>(g c.1 a.1 b.1).bind fun r=>.ok (r,b.2)
noncomputable def gj(i:Nat)(k f:EF):SF:=fun ρ=>(f ρ).bind fun v=>(bt v.2 i).bind fun _=>(k v.2).bind fun a=>(bt a.2 i).bind fun c=>(ou c a.1 v.1).bind fun d=>.ok (.nx,de a.2 i d)
noncomputable def lC(i:Nat)(k:EF):SF:=fun ρ=>(bt ρ i).bind fun _=>(k ρ).bind fun a=>(bt a.2 i).bind fun c=>(zkv c a.1).bind fun d=>.ok (.nx,de a.2 i d)
noncomputable def iD(f:EF):IF:=fun ρ=>(f ρ).bind fun x=>(jD x.1).bind fun l=>.ok (l,x.2)
noncomputable def lE(k v:EF):EF:=fun ρ=>(k ρ).bind fun x=>(v x.2).bind fun y=>(ou (.dict []) x.1 y.1).bind fun d=>.ok (d,y.2)
noncomputable def gJ:EF:=fun ρ=>.ok (.dict [],ρ)
end FL
namespace PySem
open Spec
end PySem
namespace L2
open PySem PySem.Spec PyProof.Rows
end L2
namespace PySem
open Spec
variable {prog:x6}{ep i:Nat}{E:gV->ir->Prop}{A:ya}{d it:dm}{Q:Option gV->ir->Prop}{w:x5}{s:ir}{es:Array zT}
section
structure gZ(h:xV)(d:dm)(es:Array zT)(ep:Nat):Prop where
 ex:∃ o,h.get? d=some o/\o.ExactDict/\o.data=.dict es ep
theorem gZ.typ(x:gZ s.heap d es ep):s.TypeIs (.ref d) "dict":=by
 obtain⟨o,ho,hc,_⟩:=x.ex
 exact⟨o,ho,hc.1⟩
theorem zmG{Q:gV->ir->Prop}(hd:(d==AI)=false)(x:gZ s.heap d es ep)
  (hQ:Q (.ref s.heap.objs.size) { s with heap:=s.heap.push { cls:=.type "dict_keyiterator",data:=.fields #[.ref d,.int 0 0,.int es.size 0,.int ep 0] } }):xS (xT prog w) A (pyIter (.ref d)) Q E s:=by
 obtain⟨o,ho,hc,zfD⟩:=x.ex
 have hT:=x.typ
 refine wpAny_pyIter_slot hT F.slot_dict_iter (Bz F.slot_dict_iter hT F.entry_dict_iter ?_ (F.args_dict_iter_1 _))
 unfold zJ.«dict.__iter__» Builtin.Dict.dictSlotNone
 refine lb (lb (wpAny_notOrdered_dict hT ?_))
 show xS _ _ (pure (yt d)) _ _ s
 refine xX ?_
 show xS _ _ (FC d >>= _) _ _ s
 unfold FC
 rw [if_neg (by rw [hd];exact zy)]
 refine lb (xX (lb (Eu ho zfD (lb (Ew ho zfD ?_)))))
 refine lb (Ah (xX ⟨_,rfl,"dict_keyiterator",_,⟨_,yY _ rfl,rfl⟩,CN.lookup,?_⟩))
 simpa [zY] using hQ
theorem zpH(hit:s.heap.IsKeyIter it d i es.size ep)(x:gZ s.heap d es ep)(hi:i<es.size)
  (hQ:∀ h',h'.IsKeyIter it d (i+1) es.size ep->Ct it s.heap h'->Q (some es[i].key) { s with heap:=h' }):xS (xT prog w) A (Bs (.ref it)) Q E s:=by
 obtain⟨o,ho,hc,hd⟩:=id hit
 obtain⟨od,lP,eU,fH⟩:=x.ex
 unfold Bs
 refine lb (wpAny_attempt (Dd (name:=De "__next__") hit.typeIs CN (Bz CN hit.typeIs FD ?_ (FE _))))
 refine lb (xX (lb (lb ?_)))
 first|refine lb (Dy hit.typeIs (xX ?_))|refine lb (Dz hit.typeIs (xX ?_))
 refine lb (wpAny_fieldsOf ho hd ?_)
 have zch:FG "dict_keyiterator"=false:=by decide
 simp only [zch,yG,if_false]
 show xS _ _ (if(yt d==yF)=true then _ else _) _ _ s
 rw [if_neg (show ¬ ((yt d==yF)=true) from zy)]
 refine lb (xX (lb (Eu lP fH ?_)))
 rw [if_neg (by simp)]
 refine lb (xX (lb (Ew lP fH ?_)))
 rw [if_neg (by simp)]
 refine xX ?_
 simp only [show ¬ ((i:Int)<0) from by omega,if_false,DA,Ek hi]
 refine lb ?_
 first|refine lb (Dy hit.typeIs (xX ?_))|refine lb (Dz hit.typeIs (xX ?_))
 refine lb (wpAny_isOneOf_keyiter hit.typeIs ?_)
 show xS _ _ (setField (.ref it) 1 (zY ((i:Int)+1)) >>= _) _ _ s
 refine lb (CG ho hd (by simp) ?_)
 have vY:(s.heap.update it (Dk (·.setIfInBounds 1 (zY ((i:Int)+1))))).IsKeyIter it d (i+1) es.size ep :=
  ⟨_,CC _ ho (Eh (CH hd _)),(Obj.cls_mapFields ..).trans hc,by rw [CH hd];simp [zY]⟩
 refine lb (zC (lb (wpAny_isOneOf_keyiter (s:={ s with heap:=s.heap.update it (Dk (·.setIfInBounds 1 (zY ((i:Int)+1)))) }) vY.typeIs ?_)))
 show xS _ _ (pure es[i].key) _ _ _
 exact xX (xX ⟨_,rfl,xX (hQ _ vY (BM ..))⟩)
theorem zbt(hh:A.handled=none)(hit:s.heap.IsKeyIter it d i es.size ep)(x:gZ s.heap d es ep)(hge:es.size<=i)
  (hQ:∀ h',Heap.ExtBut it s.heap h'->Q none { s with heap:=h' }):xS (xT prog w) A (Bs (.ref it)) Q E s:=by
 obtain⟨o,ho,hc,hd⟩:=id hit
 obtain⟨od,lP,eU,fH⟩:=x.ex
 unfold Bs
 refine lb (wpAny_attempt (Dd (name:=De "__next__") hit.typeIs CN (Bz CN hit.typeIs FD ?_ (FE _))))
 refine lb (xX (lb (lb ?_)))
 first|refine lb (Dy hit.typeIs (xX ?_))|refine lb (Dz hit.typeIs (xX ?_))
 refine lb (wpAny_fieldsOf ho hd ?_)
 have zch:FG "dict_keyiterator"=false:=by decide
 simp only [zch,yG,if_false]
 show xS _ _ (if(yt d==yF)=true then _ else _) _ _ s
 rw [if_neg (show ¬ ((yt d==yF)=true) from zy)]
 refine lb (xX (lb (Eu lP fH ?_)))
 rw [if_neg (by simp)]
 refine lb (xX (lb (Ew lP fH ?_)))
 rw [if_neg (by simp)]
 refine xX ?_
 simp only [show ¬ ((i:Int)<0) from by omega,if_false,DA,Array.getElem?_eq_none hge]
 refine lb ?_
 first|refine lb (Dy hit.typeIs (xX ?_))|refine lb (Dz hit.typeIs (xX ?_))
 show xS _ _ (setField (.ref it) 0 .none >>= _) _ _ s
 refine lb (CG ho hd (by simp) ?_)
 show xS _ _ (newExc (.type "StopIteration") [] >>= _) _ _ _
 refine lb ?_
 simp only [newExc,newTuple]
 refine lb (Ah ?_ (by size_fits))
 refine lb (m:=firstArgMember _ _) (wpAny_of_eq (a:=yF) (by first|rfl|(simp only [firstArgMember];rfl)) ?_)
 refine Ah ?_ (by size_fits)
 simp only [raiseNew]
 refine lb (wpAny_handled ?_)
 rw [show A.in1.handled=none from hh]
 refine lb (xX (wpAny_throw ?_))
 refine lb (wpAny_isInstance (T:="StopIteration") (b:=true) ⟨_,yY _ rfl,rfl⟩ isSubtype_stop ?_)
 exact xX (hQ _ (((BM ..).extBut.push _).push _))
end
end PySem
namespace L2
open PySem PySem.Spec PyProof.Rows
section
end
variable {Q:Unit->ir->Prop}{σ:St}{X:Cx}{A:ya}{a:dm}{E:gV->ir->Prop}{H H':Hp}{s:ir}{pins:List (dm×xU)}{o:Option V}
section
def DG(H:Hp)(a:dm)(y:V)(r:Option V):Prop :=
 uJ H a y r
section
variable {y v d:V}{u r:gV}
theorem zkA{Q:gV->ir->Prop}(hu:A.units+1<yW)(I:Inv X pins σ H s)(g:DG H a y o)(ry:RelV y u)(h:∀ s',Inv X pins σ H s'->Q (.bool o.isSome) s') :
  xS (xT X.prog X.w) A (yj .In u (.ref a)) Q E s:=by
 exact zkj hu I g ry h
def DP(H:Hp)(a:dm)(y v:V)(H':Hp):Prop :=
 zdw H a y v H'
theorem zkF(hu:A.units+1<yW)(I:Inv X pins σ H s)(g:DP H a y v H')(ry:RelV y u)(rv:RelV v r)(h:∀ s',Inv X pins σ H' s'->Q () s') :
  xS (xT X.prog X.w) A (setItem (.ref a) u r) Q E s:=by
 exact zkq hu I g ry rv h
end
section
variable {o i e f value:o1}{apos bC pos pos':xW}{td ty tx tv:TE}
noncomputable def zty(td ty tv:TE):TS:=fun D σ H=>tv σ H fun v H1=>td σ H1 fun x H2=>ty σ H2 fun y H3=>∃ a H4,x=.ref a/\DP H3 a y v H4/\D.nx σ H4
theorem zrs(hu:X.A.units+1<yW)(ho:PE X o td)(hi:PE X i ty)(hv:PE X value tv)(hs:yV value (some (.Subscript o i pos')) pos.line X.env=pure false) :
  PS X (.Assign [.Subscript o i pos'] value pos) (zty td ty tv):=by
 intro pins s σ H D I h
 refine wpAny_Assign_Subscript (aN (hv pins s σ H _ I h) fun r s1 ⟨v,H1,I1,rv,q1⟩=>aN (ho pins s1 σ H1 _ I1 q1) fun u s2 ⟨x,H2,I2,rx,q2⟩=>aN (hi pins s2 σ H2 _ I2 q2) fun iv s3 ⟨y,H3,I3,ry,a,H4,ex,g,q3⟩=>?_) hs
 subst ex
 obtain rfl:u=yt a:=rx
 exact zkF hu I3 g ry rv fun s4 I4=>⟨σ,H4,I4,q3⟩
end
end
end L2
namespace FL
open PySem L2 PySem.Spec
open PyProof.Rows hiding St
variable {kk:List (List Key×V)}{k:Key}{q:KQ}{v y:V}{x:List (D×D)×KQ}{a b:dm}{d:D}{ks:List Key}{α:Type}{ah:List (D×D)}{o:Option D}
section
variable [Cs]
theorem zcR{o:Option α}{a:α}(h:R.of o=.ok a):o=some a:=by
 cases o with
 | none=>cases h
 | some b=>cases h;rfl
theorem zmX(k:Key):wu (kD k)=some k:=by cases k <;> rfl
theorem zf1:∀ ks:List Key,j3 (ks.map kD)=some ks
 | []=>rfl
 | k::r=>by simp only [yi,j3,zmX,Option.bind_some,zf1 r,zS]
theorem sX(q:List Key):keyOf (lX q)=some (.inl q):=by simp only [lX,keyOf,zf1,zS]
theorem zmW(h:wu d=some k):d=kD k:=by
 cases d with
 | int i=>cases h;rfl
 | str i=>cases h;rfl
 | _=>cases h
theorem zf0:∀{ds:List D} {ks:List Key},j3 ds=some ks->ds=ks.map kD
 | [],ks,h=>by simp only [j3,zF] at h;subst h;rfl
 | d::r,ks,h=>by
  simp only [j3,zU,Ac] at h
  obtain⟨k,e,ks',e',rfl⟩:=h
  rw [zmW e,zf0 e'];rfl
section
variable {K:kb}{H H':Hp}
theorem zlH:Fz K H (kD k) (kV k):=by cases k <;> simp [kD,kV,Fz]
theorem zmV(h:Fz K H (kD k) v):v=kV k:=by cases k <;> simpa [kD,kV,Fz] using h
theorem zfw:∀ ks:List Key,aj K H (ks.map kD) (ks.map kV)
 | []=>by simp [aj]
 | k::r=>by simp only [yi,aj];exact⟨_,_,rfl,zlH,zfw r⟩
theorem zfT:∀{ks:List Key} {vs:List V},aj K H (ks.map kD) vs->vs=ks.map kV
 | [],vs,h=>by simpa [aj] using h
 | k::r,vs,h=>by
  simp only [yi,aj] at h
  obtain⟨v,t,rfl,h1,h2⟩:=h
  rw [zmV h1,zfT h2];rfl
theorem zlI(h:dU H b (ks.map kV)):Fz K H (lX ks) (.ref b):=by
 simp only [lX,Fz]
 exact⟨b,_,rfl,h,zfw ks⟩
theorem zh8{k:D}(f:Tp K H k v)(e:keyOf k=some q):∃ ks b,q=.inl ks/\k=lX ks/\v=.ref b/\dU H b (ks.map kV):=by
 cases k with
 | tuple xs =>
  simp only [keyOf,Ac] at e
  obtain⟨ks,e1,rfl⟩:=e
  have:=zf0 e1
  subst this
  obtain⟨b,vs,rfl,tb,fa⟩:=(show ∃ a vs,v=.ref a/\dU H a vs/\aj K H (ks.map kD) vs by simpa [Tp,Fz] using f)
  rw [zfT fa] at tb
  exact⟨ks,b,rfl,rfl,rfl,tb⟩
 | _=>cases e
theorem zgb:∀{ah:List (D×D)} {kk:List (List Key×V)},bq K H ah kk->∀ q:List Key,(look ah (.inl q)=none/\jN kk q=none)\/∃ d v,look ah (.inl q)=some d/\jN kk q=some v/\Fz K H d v
 | [],kk,h,q=>by simp only [bq] at h;subst h;exact .inl ⟨rfl,rfl⟩
 | (k,d)::r,kk,h,q=>by
  simp only [bq] at h
  obtain⟨q',v,t,rfl,rfl,f,h2⟩:=h
  by_cases c:q'=q
  ·subst c
   exact .inr ⟨d,v,by simp [look,Bh,sX],zdp rfl,f⟩
  ·have e1:look ((lX q',d)::r) (.inl q)=look r (.inl q):=by simp [look,Bh,sX,c]
   rw [e1,zdo (p:=(q',v)) c]
   exact zgb h2 q
theorem zeV{k:D}(h:dictAt d k=.ok x):d=.dict x.1/\keyOf k=some x.2/\keysOk (vO x.2) x.1=true:=by
 cases d with
 | dict ah =>
  obtain⟨q,e1,h⟩:=b6 (show(R.of (keyOf k)).bind _=.ok x from h)
  obtain⟨c,h⟩:=gi h
  cases h
  exact⟨rfl,zcR e1,c⟩
 | _=>cases h
theorem zeT{k:D}{x:V}(t:Tp K H d x)(f:Tp K H k y)(e:mU d k=.ok o) :
  ∃ a r,x=.ref a/\uO H a/\DG H a y r/\((o=none/\r=none)\/∃ d v,o=some d/\r=some v/\Fz K H d v):=by
 obtain⟨⟨ah,q⟩,e1,e⟩:=b6 (show(dictAt d k).bind _=.ok o from e)
 cases e
 obtain⟨rfl,ek,c⟩:=zeV e1
 obtain⟨a,ea,kk,rd,h⟩:=(show ∃ a,x=.ref a/\∃ kk,Rd H a (.dT kk)/\bq K H ah kk from t)
 subst ea
 obtain⟨ks,b,rfl,rfl,rfl,tb⟩:=zh8 f ek
 refine⟨a,jN kk ks,rfl,⟨kk,rd⟩,⟨kk,ks,b,rd,rfl,tb,rfl⟩,?_⟩
 rcases zgb h ks with⟨z1,z2⟩|⟨d,v,z1,z2,z3⟩
 ·exact .inl ⟨z1,z2⟩
 ·exact .inr ⟨d,v,z1,z2,z3⟩
theorem zdX:∀{ah:List (D×D)} {kk:List (List Key×V)},bq K H ah kk->∀ q:List Key,(ah.any fun kv=>decide (keyOf kv.1=some (.inl q)))=kk.any fun kv=>decide (kv.1=q)
 | [],kk,h,q=>by simp only [bq] at h;subst h;rfl
 | (k,d)::r,kk,h,q=>by
  simp only [bq] at h
  obtain⟨q',v,t,rfl,rfl,f,h2⟩:=h
  simp only [Em,zdX h2 q,sX,zF,Sum.inl.injEq]
theorem zhL{d:D}{v:V}(f:Fz K H d v):∀{ah:List (D×D)} {kk:List (List Key×V)},bq K H ah kk->∀ q:List Key,bq K H (ah.map fun kv=>if keyOf kv.1=some (.inl q) then(kv.1,d) else kv) (kk.map fun kv=>if kv.1=q then(kv.1,v) else kv)
 | [],kk,h,q=>by simp only [bq] at h;subst h;simp [bq]
 | (k,d0)::r,kk,h,q=>by
  simp only [bq] at h
  obtain⟨q',v0,t,rfl,rfl,f0,h2⟩:=h
  have ih:=zhL f h2 q
  by_cases c:q'=q
  ·subst c
   simp only [yi,sX,if_true,bq]
   exact⟨q',v,_,rfl,rfl,f,ih⟩
  ·simp only [yi,sX,zF,Sum.inl.injEq,if_neg c,bq]
   exact⟨q',v0,_,rfl,rfl,f0,ih⟩
theorem zdZ{d:D}{v:V}(f:Fz K H d v)(q:List Key):∀{ah:List (D×D)} {kk:List (List Key×V)},bq K H ah kk->bq K H (ah++[(lX q,d)]) (kk++[(q,v)])
 | [],kk,h=>by simp only [bq] at h;subst h;simp only [yR,bq];exact⟨q,v,[],rfl,rfl,f,rfl⟩
 | (k,d0)::r,kk,h=>by
  simp only [bq] at h
  obtain⟨q',v0,t,rfl,rfl,f0,h2⟩:=h
  simp only [yX,bq]
  exact⟨q',v0,_,rfl,rfl,f0,zdZ f q h2⟩
theorem zrQ(h:bq K H ah kk)(f:Fz K H d v)(q:List Key):bq K H (ua ah (lX q) (.inl q) d) (putK kk q v):=by
 unfold ua putK
 rw [zdX h q]
 split
 ·exact zhL f h q
 ·exact zdZ f q h
theorem bq.len:∀{ah:List (D×D)} {kk:List (List Key×V)},bq K H ah kk->kk.length=ah.length
 | [],kk,h=>by simp only [bq] at h;subst h;rfl
 | (k,d0)::r,kk,h=>by
  simp only [bq] at h
  obtain⟨q',v0,t,rfl,rfl,f0,h2⟩:=h
  simp [h2.len]
theorem zlK{u o:HO}(e:H a=some u)(ow:Own u):aC H (upd H a o):=fun b w eb st=>by
 rw [aT fun z=>by subst z;rw [e] at eb;cases eb;exact ow.ja st]
 exact eb
theorem zkE{c k dv d':D}(m:cY K H a c)(f:Fz K H k y)(g:Fz K H dv v)(e:ou c k dv=.ok d'):∃ o,DP H a y v (upd H a o)/\cY K (upd H a o) a d':=by
 obtain⟨⟨ah,q⟩,e1,e⟩:=b6 (show(dictAt c k).bind _=.ok d' from e)
 obtain⟨l,e⟩:=gi e
 cases e
 obtain⟨rfl,ek,c⟩:=zeV e1
 have hl:ah.length+1<=yb:=yx (lY l) nj
 obtain⟨kk,rd,h⟩:=(show ∃ kk,H a=some (.dT kk)/\bq K H ah kk from m)
 have fz:∀ o,aC H (upd H a o):=fun o=>zlK rd trivial
 obtain⟨ks,b,rfl,rfl,rfl,tb⟩:=zh8 f.tp ek
 exact⟨.dT (putK kk ks v),⟨kk,ks,b,rd,rfl,tb,by rw [h.len];omega,rfl⟩,⟨_,bX,(zrQ h g ks).mono (fz _)⟩⟩
end
end
variable {k:EF}{X:Cx}{ke:o1}{y:ib}
section
variable [Cs]
section
theorem zqs(hu:X.A.units+1<yW):bf X (yj .In) (rD X.K inD):=by
 intro pins s σ H x y v u Q I rx ry h
 obtain⟨dx,dy,d,tx,ty,e,q⟩:=h
 obtain⟨o,e1,e⟩:=b6 (show(mU dy dx).bind _=.ok d from e)
 cases e
 obtain⟨a,r,rfl,_,g,rel⟩:=zeT ty tx e1
 cases ry
 have hb:o.isSome=r.isSome:=by
  rcases rel with⟨rfl,rfl⟩|⟨_,_,rfl,rfl,_⟩ <;> rfl
 exact zkA hu I g rx fun s3 I3=>⟨.bl r.isSome,H,I3,rfl,q _ H (aM.refl _) (by rw [hb];simp [Fz])⟩
theorem zmH(hu:X.A.units+1<yW):kZ X (rD X.K jt):=by
 intro value slice pins s σ H x y v u Q I rx ry h hs
 obtain⟨dx,dy,d,tx,ty,e,q⟩:=h
 obtain⟨o,e1,e⟩:=b6 (show(mU dx dy).bind _=.ok d from e)
 have eo:=zcR e
 subst eo
 obtain⟨a,r,rfl,_,g,rel⟩:=zeT tx ty e1
 cases rx
 rcases rel with⟨z,_⟩|⟨d',w,z,rfl,fz⟩
 ·cases z
 cases z
 have hT:=zkC I g
 have h2:xS (xT X.prog X.w) X.A (AU (.ref a) u) (EP X pins σ Q) X.xe s:=zki hu I g ry fun w' s3 I3 hU=>⟨w,H,I3,hU,q w H (aM.refl _) fz⟩
 unfold D9
 refine lb ?_
 rw [getitemInPython_of_ne hT.not_modules]
 refine lb (wpAny_specialOf hT PySem.F.slot_dict_getitem.lookup ?_)
 have fin:xS (xT X.prog X.w) X.A (subscripted slice false (.ref a) u) (fun r s₃=>xS (xT X.prog X.w) X.A (letTemporaryGo value (.ref a) r >>= fun _=>pure r) (EP X pins σ Q) X.xe s₃) X.xe s:=by
  rw [hs]
  exact wpAny_operating (yA h2 (fun r s₃ h₃=>lb (wpAny_letTemporaryGo (xX h₃))) fun _ _ x=>x)
 first
  | exact xX (lb fin)
  | exact lb (xX (lb fin))
  | exact lb fin
end
section
variable {K:kb}{o e e':o1}{fd fk fx f:EF}{apos bC pos:xW}
theorem zhr{py j9:xW}(i:Nat)(hu:X.A.units+1<yW)(ha:PE X (.Name y py) (cV i))(he:PV K X e f)(hk:PV K X ke k)
  (hs:yV e (some (.Subscript (.Name y py) ke j9)) pos.line X.env=pure false:=by rfl):dA K X (.Assign [.Subscript (.Name y py) ke j9] e pos) (gj i k f):=.mk fun hK C=>by
 subst hK
 refine(zrs hu ha (hk rfl) (he rfl) hs).weak fun Dn σ H=>?_
 rintro⟨ρ,rel,g⟩
 refine i3 rel g fun dv ρ1 v H1 ak aW fv g1=>?_
 obtain⟨d,ed,g2⟩:=g1.bM
 obtain⟨a,bz,m0⟩:=ak.rel.j4 ed
 refine⟨.ref a,bz.2,i3 ak g2 fun dk ρ2 kv H2 cP du fk g3=>?_⟩
 obtain⟨c,ec,g4⟩:=g3.bM
 obtain⟨d',oA,g5⟩:=g4.bM
 obtain⟨o,dp,mm⟩:=zkE (cP.rel.again ec bz) fk (fv.mono (du.dO ak.rel)) oA
 obtain⟨a2,at2,_⟩:=cP.rel.j4 ec
 have:=bz.2.symm.trans at2.2
 cases this
 exact⟨a,_,rfl,dp,zbJ cP at2 mm g5⟩
theorem zhq:bo K X (.Dict [] [] pos) gJ:=.mk fun hK=>zqR.weak fun σ H Q=>by
 rintro⟨ρ,rel,q⟩ p hp
 exact q.new rel (aM.upd hp) p hp ⟨[],bX,by simp [bq]⟩
end
end
end FL
namespace FL
open PySem
noncomputable def nO(i:Nat)(ρ:En):Nat:=match ρ[i]? with
 | some (.val (.int n))=>n.natAbs+1
 | _=>0
abbrev WK:=Int×List Int
noncomputable def wA(p q:WK):Bool:=if p.1=q.1 then lexLt p.2 q.2 else decide (p.1<q.1)
noncomputable def ng(x:WK×D):List (WK×D)->List (WK×D)
 | []=>[x]
 | y::r=>if wA y.1 x.1=true then y::ng x r else x::y::r
noncomputable def nh:List (WK×D)->List (WK×D)
 | []=>[]
 | x::r=>ng x (nh r)
theorem zcl(x:WK×D):∀ l,(ng x l).Perm (x::l)
 | []=>.refl _
 | y::r=>by
  unfold ng
  split
  ·exact((zcl x r).cons y).trans (.swap x y r)
  ·exact .refl _
theorem zcn:∀ l:List (WK×D),(nh l).Perm l
 | []=>.refl _
 | x::r=>(zcl x _).trans ((zcn r).cons x)
noncomputable def my:D->R D
 | .list a=>.ok (.list a.reverse)
 | _=>.bad
end FL
namespace L2
open PySem PySem.Spec PyProof.Rows PySem.W
variable {p:Array Nat}
abbrev gp(p:Array Nat)(i:Nat):Nat:=p.getD i 0
theorem sD{q:Array Nat}{i j:Nat}(h:p[i]?=q[j]?):gp p i=gp q j:=by
 simp only [gp,Array.getD_eq_getD_getElem?,h]
variable {a b m n:Nat}{Q:Nat×Array Nat->ir->Prop}{cmp:Nat->Nat->(Bool->ir->Prop)->ir->Prop}{s:ir}{P:ir->Prop}
section
variable {lt:Nat->Nat->Bool}
structure Ord(lt:Nat->Nat->Bool):Prop where
 tr:∀ i j k,lt j i=false->lt k j=false->lt k i=false
 as:∀ i j,lt i j=true->lt j i=false
def mJ(lt:Nat->Nat->Bool)(n:Nat)(P:ir->Prop)(cmp:Nat->Nat->(Bool->ir->Prop)->ir->Prop):Prop :=
 ∀ i j (C:Bool->ir->Prop) s,i<n->j<n->P s->(∀ s',P s'->C (lt i j) s')->cmp i j C s
theorem Ord.refl(o:Ord lt)(i:Nat):lt i i=false:=by
 cases h:lt i i with
 | false=>rfl
 | true=>exact h.symm.trans (o.as i i h)
def Up(lt:Nat->Nat->Bool)(p:Array Nat)(m:Nat):Prop:=∀ i j,i<=j->j<m->lt (gp p j) (gp p i)=false
def Dn(lt:Nat->Nat->Bool)(p:Array Nat)(m:Nat):Prop:=∀ i j,i<=j->j<m->lt (gp p i) (gp p j)=false
def Eb(lt:Nat->Nat->Bool)(p:Array Nat)(a b:Nat):Prop:=∀ i j,a<=i->i<b->a<=j->j<b->lt (gp p i) (gp p j)=false
structure Arr(n:Nat)(p:Array Nat):Prop where
 sz:p.size=n
 pm:p.Perm (Ao (zN n))
theorem Arr.lim(h:Arr n p)(hn:0<n)(i:Nat):gp p i<n:=by
 by_cases c:i<p.size
 ·have e:gp p i=p[i]:=by simp [gp,DB,c]
  rw [e]
  have m:p[i]∈p.toList:=Array.getElem_mem_toList c
  have m2:=(DC.mp h.pm).mem_iff.mp m
  simpa using m2
 ·have e:gp p i=0:=by simp [gp,DB,c]
  rw [e];exact hn
theorem Up.next(o:Ord lt)(h:Up lt p m)(hm:1<=m)(e:lt (gp p m) (gp p (m-1))=false):Up lt p (m+1):=fun i j dX hj=>by
 by_cases c:j<m
 ·exact h i j dX c
 ·have:j=m:=by omega
  subst this
  by_cases c2:i=j
  ·subst c2;exact o.refl _
  ·exact o.tr _ _ _ (h i (j-1) (by omega) (by omega)) e
theorem Dn.next(o:Ord lt)(h:Dn lt p m)(hm:1<=m)(e:lt (gp p (m-1)) (gp p m)=false):Dn lt p (m+1):=fun i j dX hj=>by
 by_cases c:j<m
 ·exact h i j dX c
 ·have:j=m:=by omega
  subst this
  by_cases c2:i=j
  ·subst c2;exact o.refl _
  ·exact o.tr _ _ _ e (h i (j-1) (by omega) (by omega))
theorem qu(hb:b<=p.size)(k:Nat):gp (BO p a b) k=if a<=k/\k<b then gp p (a+b-1-k) else gp p k:=by
 have e:=getElem?_mirror_all (xs:=p) (i:=a) hb k
 unfold BO
 split
 ·rename_i c;rw [if_pos c] at e;exact sD e
 ·rename_i c;rw [if_neg c] at e;exact sD e
theorem Arr.rev(h:Arr n p)(a b:Nat):Arr n (BO p a b):=⟨by unfold BO;rw [mirror_size];exact h.sz,(mirror_perm _ _ _ _).trans h.pm⟩
theorem Dn.rev(o:Ord lt)(hb:b<=p.size)(h:Dn lt p m)(e:Eb lt p a b)(hbm:b<=m):Dn lt (BO p a b) m:=fun i j dX hj=>by
 rw [qu hb,qu hb]
 split
 ·rename_i c1
  split
  ·rename_i c2;exact e _ _ (by omega) (by omega) (by omega) (by omega)
  ·rename_i c2;exact h _ _ (by omega) (by omega)
 ·rename_i c1
  split
  ·rename_i c2;exact h _ _ (by omega) (by omega)
  ·exact h _ _ dX hj
theorem zas(o:Ord lt)(hc:mJ lt n P cmp)(hn:0<n){p:Array Nat}(ar:Arr n p):∀(f m:Nat) {Q:Nat->ir->Prop} {s:ir},1<=m->Up lt p m->P s ->
  (∀ m' s',P s'->m<=m'->m'<=m+f->Up lt p m'->(m'=m+f\/lt (gp p m') (gp p (m'-1))=true)->Q m' s')->(kas_asc p f m).kasWp cmp Q s
 | 0,m,Q,s,h1,hu,hp,h=>h m s hp (x9 _) (x9 _) hu (.inl rfl)
 | f+1,m,Q,s,h1,hu,hp,h=>by
  refine hc _ _ _ s (ar.lim hn _) (ar.lim hn _) hp fun s' dP=>?_
  cases e:lt (p.getD m 0) (p.getD (m-1) 0) with
  | true=>exact h m s' dP (x9 _) (by omega) hu (.inr e)
  | false =>
   refine zas o hc hn ar f (m+1) (by omega) (hu.next o h1 e) dP fun m' iI oO a b c d=>h m' iI oO (by omega) (by omega) c ?_
   rcases d with d|d
   ·exact .inl (by omega)
   ·exact .inr d
theorem vC(o:Ord lt)(hc:mJ lt n P cmp)(hn:0<n):∀(f:Nat) (p:Array Nat) (m q:Nat) {Q:Array Nat×Nat×Nat->ir->Prop} {s:ir},Arr n p->q+1<=m->m+f<=n->Dn lt p m->Eb lt p (m-(q+1)) m->P s ->
  (∀ p' m' q' s',P s'->Arr n p'->m<=m'->m'<=n->q'+1<=m'->Dn lt p' m'->Eb lt p' (m'-(q'+1)) m'->Q (p',m',q') s')->(kas_desc f p m q).kasWp cmp Q s
 | 0,p,m,q,Q,s,ar,h1,h2,hd,he,hp,h=>h p m q s hp ar (x9 _) (by omega) h1 hd he
 | f+1,p,m,q,Q,s,ar,h1,h2,hd,he,hp,h=>by
  refine hc _ _ _ s (ar.lim hn _) (ar.lim hn _) hp fun s' dP=>?_
  cases e:lt (p.getD m 0) (p.getD (m-1) 0) with
  | true =>
   have hd2:Dn lt p (m+1):=hd.next o (by omega) (o.as _ _ e)
   show(if q > 0 then kas_desc f (BO p (m-(q+1)) m) (m+1) 0 else kas_desc f p (m+1) 0).kasWp cmp Q s'
   split
   ·refine vC o hc hn f _ (m+1) 0 (ar.rev _ _) (by omega) (by omega) (hd2.rev o (by rw [ar.sz];omega) he (by omega)) (fun i j a b c d=>?_) dP fun p' m' q' iI a b c=>h p' m' q' iI a b (by omega)
    have e1:i=m:=by omega
    have e2:j=m:=by omega
    subst e1;subst e2;exact o.refl _
   ·refine vC o hc hn f _ (m+1) 0 ar (by omega) (by omega) hd2 (fun i j a b c d=>?_) dP fun p' m' q' iI a b c=>h p' m' q' iI a b (by omega)
    have e1:i=m:=by omega
    have e2:j=m:=by omega
    subst e1;subst e2;exact o.refl _
  | false =>
   refine hc _ _ _ s' (ar.lim hn _) (ar.lim hn _) dP fun iI oO=>?_
   cases e2:lt (p.getD (m-1) 0) (p.getD m 0) with
   | true=>exact h p m q iI oO ar (x9 _) (by omega) h1 hd he
   | false =>
    refine vC o hc hn f p (m+1) (q+1) ar (by omega) (by omega) (hd.next o (by omega) e2) (fun i j a b c d=>?_) oO fun p' m' q' s3 a b c=>h p' m' q' s3 a b (by omega)
    have eq1:∀ x,m-(q+1)<=x->x<m->lt (gp p m) (gp p x)=false/\lt (gp p x) (gp p m)=false:=fun x x1 x2 =>
     ⟨o.tr _ _ _ (he (m-1) x (by omega) (by omega) x1 x2) e,o.tr _ _ _ e2 (he x (m-1) x1 x2 (by omega) (by omega))⟩
    by_cases c1:i=m
    ·by_cases c2:j=m
     ·subst c1;subst c2;exact o.refl _
     ·subst c1;exact(eq1 j (by omega) (by omega)).1
    ·by_cases c2:j=m
     ·subst c2;exact(eq1 i (by omega) (by omega)).2
     ·exact he i j (by omega) (by omega) (by omega) (by omega)
theorem zh6(o:Ord lt)(hc:mJ lt n P cmp)(hn:0<n)(ar:Arr n p)(h1:1<=m)(hm:m<=n)(hd:Dn lt p m)(hp:P s)
  (h:∀ m' p' s',P s'->Arr n p'->1<=m'->m'<=n->Up lt p' m'->Q (m',p') s'):(kas_tail3 m n p).kasWp cmp Q s:=by
 unfold kas_tail3
 rw [CO]
 refine zas o hc hn (ar.rev 0 m) (n-m) m h1 (fun i j dX hj=>?_) hp fun m' s' dP a b c _=>h m' _ s' dP (ar.rev 0 m) (by omega) (by omega) c
 rw [qu (by rw [ar.sz];exact hm),qu (by rw [ar.sz];exact hm),if_pos (by omega),if_pos (by omega)]
 exact hd _ _ (by omega) (by omega)
theorem zeR(o:Ord lt)(hc:mJ lt n P cmp)(hn:0<n)(ar:Arr n p)(hm:m+1<=n)(hd:Dn lt p (m+1))(hp:P s)
  (h:∀ m' p' s',P s'->Arr n p'->1<=m'->m'<=n->Up lt p' m'->Q (m',p') s'):(kas_descPart m n p).kasWp cmp Q s:=by
 unfold kas_descPart
 rw [CO]
 refine vC o hc hn _ p (m+1) 0 ar (by omega) (by omega) hd (fun i j a b c d=>?_) hp fun p' m' q' s' dP ar' a b c gM lM=>?_
 ·have e1:i=m:=by omega
  have e2:j=m:=by omega
  subst e1;subst e2;exact o.refl _
 ·show(if q' > 0 then kas_tail3 m' n (BO p' (m'-(q'+1)) m') else kas_tail3 m' n p').kasWp cmp Q s'
  split
  ·exact zh6 o hc hn (ar'.rev _ _) (by omega) b (gM.rev o (by rw [ar'.sz];exact b) lM (x9 _)) dP h
  ·exact zh6 o hc hn ar' (by omega) b gM dP h
theorem zj0(o:Ord lt)(hc:mJ lt n P cmp)(hn:0<n)(ar:Arr n p)(hp:P s)
  (h:∀ m' p' s',P s'->Arr n p'->1<=m'->m'<=n->Up lt p' m'->Q (m',p') s'):(kas_count n p).kasWp cmp Q s:=by
 unfold kas_count
 rw [CO]
 refine zas o hc hn ar (n-1) 1 (x9 _) (fun i j a b=>?_) hp fun m s' dP a b hu hl=>?_
 ·have e1:i=0:=by omega
  have e2:j=0:=by omega
  subst e1;subst e2;exact o.refl _
 by_cases c:m=n
 ·subst c
  rw [if_pos (by simp)]
  exact h m p s' dP ar a (x9 _) hu
 ·rw [if_neg (by simpa using c)]
  have hl2:lt (gp p m) (gp p (m-1))=true:=by
   rcases hl with hl|hl
   ·omega
   ·exact hl
  by_cases c1:m > 1
  ·rw [if_pos c1]
   refine hc _ _ _ s' (ar.lim hn _) (ar.lim hn _) dP fun iI oO=>?_
   cases e:lt (p.getD 0 0) (p.getD (m-1) 0) with
   | true=>exact h m p iI oO ar a (by omega) hu
   | false =>
    have hs:m<=p.size:=by rw [ar.sz];omega
    have all:∀ i j,i<m->j<m->lt (gp p i) (gp p j)=false:=fun i j hi hj =>
     o.tr _ _ _ (hu j (m-1) (by omega) (by omega)) (o.tr _ _ _ e (hu 0 i (zr _) hi))
    refine zeR o hc hn (ar.rev 0 m) (by omega) (fun i j dX hj=>?_) oO h
    rw [qu hs,qu hs]
    by_cases cj:j<m
    ·rw [if_pos (by omega),if_pos (by omega)]
     exact all _ _ (by omega) (by omega)
    ·have ej:j=m:=by omega
     subst ej
     rw [if_neg (by omega:¬ (0<=j/\j<j))]
     split
     ·exact o.tr _ _ _ (o.as _ _ hl2) (all _ _ (by omega) (by omega))
     ·have ei:i=j:=by omega
      subst ei;exact o.refl _
  ·rw [if_neg c1]
   have e1:m=1:=by omega
   subst e1
   refine zeR o hc hn ar (by omega) ?_ dP h
   refine Dn.next o (fun i j dX hj=>?_) (x9 _) (o.as _ _ hl2)
   have e1:i=0:=by omega
   have e2:j=0:=by omega
   subst e1;subst e2;exact o.refl _
theorem zcX(o:Ord lt)(hc:mJ lt n P cmp)(hn:0<n){p:Array Nat}(ar:Arr n p){k:Nat}(hu:Up lt p k):∀(f l r:Nat) {Q:Nat->ir->Prop} {s:ir},l<=r->r<=k->r-l<=f ->
  (∀ i,i<l->lt (gp p k) (gp p i)=false)->(∀ i,r<=i->i<k->lt (gp p i) (gp p k)=false)->P s ->
  (∀ l' s',P s'->l'<=k->(∀ i,i<l'->lt (gp p k) (gp p i)=false)->(∀ i,l'<=i->i<k->lt (gp p i) (gp p k)=false)->Q l' s')->(kas_place p k f l r).kasWp cmp Q s
 | 0,l,r,Q,s,h1,h2,h3,a,b,hp,h=>h l s hp (by omega) a (by
   have:l=r:=by omega
   subst this;exact b)
 | f+1,l,r,Q,s,h1,h2,h3,a,b,hp,h=>by
  unfold kas_place
  by_cases c:l ≥ r
  ·rw [if_pos c]
   have:l=r:=by omega
   subst this
   exact h l s hp h2 a b
  ·rw [if_neg c]
   refine hc _ _ _ s (ar.lim hn _) (ar.lim hn _) hp fun s' dP=>?_
   cases e:lt (p.getD k 0) (p.getD ((l+r) / 2) 0) with
   | true =>
    refine zcX o hc hn ar hu f l ((l+r) / 2) (by omega) (by omega) (by omega) a (fun i i1 i2=>?_) dP h
    exact o.tr _ _ _ (o.as _ _ e) (hu _ _ i1 i2)
   | false =>
    refine zcX o hc hn ar hu f ((l+r) / 2+1) r (by omega) h2 (by omega) (fun i i1=>?_) b dP h
    exact o.tr _ _ _ (hu i ((l+r) / 2) (by omega) (by omega)) e
theorem zee(o:Ord lt)(hc:mJ lt n P cmp)(hn:0<n):∀(f:Nat) (p:Array Nat) (k:Nat) {Q:Array Nat->ir->Prop} {s:ir},Arr n p->k+f=n->Up lt p k->P s ->
  (∀ p' s',P s'->Arr n p'->Up lt p' n->Q p' s')->(kas_bin f p k).kasWp cmp Q s
 | 0,p,k,Q,s,ar,h1,hu,hp,h=>h p s hp ar (by
  have:k=n:=by omega
  subst this;exact hu)
 | f+1,p,k,Q,s,ar,h1,hu,hp,h=>by
  unfold kas_bin
  rw [CO]
  refine zcX o hc hn ar hu k 0 k (zr _) (x9 _) (by omega) (fun i hi=>by omega) (fun i a b=>by omega) hp fun l s' dP hl ha hb=>?_
  have hk:k<p.size:=by rw [ar.sz];omega
  have gb:∀ i,gp (bubble p k (k-l)) i=if i=l then gp p k else if l<i/\i<=k then gp p (i-1) else gp p i:=fun i=>by
   have e:=getElem?_bubble hk (k-l) (by omega) i
   rw [show k-(k-l)=l by omega] at e
   by_cases c1:i=l
   ·rw [if_pos c1] at e ⊢;exact sD e
   ·rw [if_neg c1] at e ⊢
    by_cases c2:l<i/\i<=k
    ·rw [if_pos c2] at e ⊢;exact sD e
    ·rw [if_neg c2] at e ⊢;exact sD e
  refine zee o hc hn f _ (k+1) ⟨by rw [bubble_size];exact ar.sz,(bubble_perm _ _ _).trans ar.pm⟩ (by omega) (fun i j dX hj=>?_) dP h
  rw [gb i,gb j]
  by_cases c1:i=l
  ·rw [if_pos c1]
   by_cases c2:j=l
   ·rw [if_pos c2];exact o.refl _
   ·rw [if_neg c2,if_pos (by omega)]
    exact hb _ (by omega) (by omega)
  ·rw [if_neg c1]
   by_cases c2:j=l
   ·rw [if_pos c2,if_neg (by omega)]
    exact ha _ (by omega)
   ·rw [if_neg c2]
    by_cases c3:l<i/\i<=k
    ·rw [if_pos c3,if_pos (by omega)]
     exact hu _ _ (by omega) (by omega)
    ·rw [if_neg c3]
     split
     ·exact hu _ _ (by omega) (by omega)
     ·exact hu _ _ (by omega) (by omega)
theorem ztW(o:Ord lt)(hc:mJ lt n P cmp)(hn:0<n){Q:Array Nat->ir->Prop}(hp:P s)(h:∀ p s',P s'->Arr n p->Up lt p n->Q p s'):(kas_sort n).kasWp cmp Q s:=by
 unfold kas_sort
 rw [CO]
 refine zj0 o hc hn ⟨by simp,FH _⟩ hp fun m p s' dP ar h1 h2 hu=>?_
 show(if m<n then kas_bin (n-max m 1) p (max m 1) else KasT.ret p).kasWp cmp Q s'
 split
 ·have e:max m 1=m:=by omega
  rw [e]
  exact zee o hc hn _ p m ar (by omega) hu dP h
 ·have:m=n:=by omega
  subst this
  exact h p s' dP ar hu
end
end L2
namespace PySem
open Spec PyProof.Rows
variable {prog:x6}{E:gV->ir->Prop}{ep:Nat}{A:ya}{d:dm}{Q:List gV->ir->Prop}{w:x5}{s:ir}{es:Array zT}
section
theorem gZ.at{h h':xV}(x:gZ h d es ep)(k:∀ o,h.get? d=some o->h'.get? d=some o):gZ h' d es ep:=by
 obtain⟨o,e,r⟩:=x.ex
 exact⟨o,k o e,r⟩
theorem zuO(hh:A.handled=none)(I d:dm)(iC:d≠I)(es:Array zT)(ep:Nat) :
  Walks prog w A I [I,d] [I] es.size (fun i v=>∃ h:i<es.size,v=es[i].key) (fun i h=>h.IsKeyIter I d i es.size ep/\gZ h d es ep) where
 sub:=fun b hb=>by simp at hb;simp [hb]
 frame:=fun _ _ _ st hk=>⟨st.1.at fun o e=>hk I (by simp) o e,st.2.at fun o e=>hk d (by simp) o e⟩
 item:=fun i s Q E hi st hQ=>by
  refine zpH st.1 st.2 hi fun h' vY qC=>?_
  exact hQ _ h' s.toks ⟨hi,rfl⟩ ⟨vY,st.2.at fun o e=>qC.extBut d o iC e⟩ fun b o hb e=>qC.extBut b o (fun h=>hb (by simp [h])) e
 done:=fun s Q E st hQ=>zbt hh st.1 st.2 (x9 _) fun h' lM=>hQ h' s.toks fun b o hb e=>lM b o (fun h=>hb (by simp [h])) e
 self:=fun _ _ _ _ st hQ=>wpAny_pyIter_keyiter st.1 hQ
theorem zjY(hh:A.handled=none)(sy:(d==AI)=false)(hm:gZ s.heap d es ep)(hn:es.size<=10000)
  (hQ:∀ s' (acc:Array gV),(∀ b o,s.heap.get? b=some o->s'.heap.get? b=some o)->s'.gens=s.gens->s'.drawn=s.drawn->s'.os=s.os->s.heap.objs.size<=s'.heap.objs.size->ItemsOf (fun i v=>∃ h:i<es.size,v=es[i].key) acc es.size->Q acc.toList s') :
  xS (xT prog w) A (collect (.ref d)) Q E s:=by
 obtain⟨od,lP,hxd,fH⟩:=hm.ex
 have dl:=yo lP
 unfold collect
 refine lb (wpAny_runValue (codeAny_builtin F.entry_proto_collect ?_))
 rw [FI F.plain_proto_collect _]
 show xS _ A.in1 (newList [] >>= fun l=>again (.builtin "list.__iadd__" ⟨[l,.ref d],[]⟩)) _ _ s
 refine lb (Ah ?_)
 refine xX ⟨plainId_quiet F.plain_list_iadd _,codeAny_builtin F.entry_list_iadd ?_⟩
 rw [FI F.plain_list_iadd _]
 have m9:gZ (s.heap.push { cls:=.type "list",data:=.seq ([]:List gV).toArray }) d es ep:=hm.at fun o e=>yh _ e
 have hSd:s.heap.objs.size≠d:=B3 dl
 have h1:FJ (.ref s.heap.objs.size) (.ref d)=false:=by simp [FJ,hSd]
 show xS _ A.in1 (FK (.ref s.heap.objs.size) (.ref d) (.ref s.heap.objs.size)) _ _ _
 unfold FK
 refine lb (Cb (s:={ s with heap:=s.heap.push { cls:=.type "list",data:=.seq ([]:List gV).toArray } }) m9.typ ?_)
 rw [if_neg (by rw [h1];decide)]
 refine lb (zmG (s:={ s with heap:=s.heap.push { cls:=.type "list",data:=.seq ([]:List gV).toArray } }) sy m9 ?_)
 refine lb (zC ?_)
 have I2:s.heap.objs.size+1=(s.heap.push { cls:=.type "list",data:=.seq ([]:List gV).toArray }).objs.size:=(Bf ..).symm
 have iB:gZ ((s.heap.push { cls:=.type "list",data:=.seq ([]:List gV).toArray }).push { cls:=.type "dict_keyiterator",data:=.fields #[.ref d,.int 0 0,.int es.size 0,.int ep 0] }) d es ep:=m9.at fun o e=>yh _ e
 have ty2:=gZ.typ (s:={ s with heap:=(s.heap.push { cls:=.type "list",data:=.seq ([]:List gV).toArray }).push { cls:=.type "dict_keyiterator",data:=.fields #[.ref d,.int 0 0,.int es.size 0,.int ep 0] } }) iB
 unfold Builtin.List.listLengthHint
 refine lb (wpAny_specialOf ty2 F.slot_dict_len.lookup ?_)
 generalize hid:("dict.__len__":String)=id0
 wp_delta
 rw [show splitId id0=some ("dict","__len__") from by subst hid;decide +kernel]
 subst hid
 refine lb (wpAny_isInstance (b:=true) ty2 (by rw [isSubtype_type];kernel_rfl) ?_)
 rw [if_neg (by decide)]
 dsimp only
 rw [if_pos (by decide +kernel)]
 refine lb (Cb ty2 ?_)
 refine xX ?_
 rw [if_pos (by decide +kernel)]
 refine lb (C0 ?_)
 unfold Builtin.List.listTouch
 have hS0:((s.heap.push { cls:=.type "list",data:=.seq ([]:List gV).toArray }).push { cls:=.type "dict_keyiterator",data:=.fields #[.ref d,.int 0 0,.int es.size 0,.int ep 0] }).get? s.heap.objs.size=some (zq "list" #[] 0):=yh _ (yY _ rfl)
 refine lb (lb (CP hS0 rfl ?_ (zr _) (by show 1<=yb+1;omega)))
 have hS1:=DE hS0 (·.push .none)
 refine CP hS1 rfl ?_ (by show 1<=yb;rw [zf];decide) (by show 0<=yb+1;omega)
 have hS2:=DE hS1 (·.pop)
 have up:∀ b o,b≠s.heap.objs.size->((s.heap.push { cls:=.type "list",data:=.seq ([]:List gV).toArray }).push { cls:=.type "dict_keyiterator",data:=.fields #[.ref d,.int 0 0,.int es.size 0,.int ep 0] }).get? b=some o ->
   ((((s.heap.push { cls:=.type "list",data:=.seq ([]:List gV).toArray }).push { cls:=.type "dict_keyiterator",data:=.fields #[.ref d,.int 0 0,.int es.size 0,.int ep 0] }).update s.heap.objs.size (yZ fun x=>x.push yF)).update s.heap.objs.size (yZ fun x=>x.pop)).get? b=some o:=fun b o hb e =>
  (((BM ..).2 b hb).trans ((BM ..).2 b hb)).trans e
 have hI:((s.heap.push { cls:=.type "list",data:=.seq ([]:List gV).toArray }).push { cls:=.type "dict_keyiterator",data:=.fields #[.ref d,.int 0 0,.int es.size 0,.int ep 0] }).get? (s.heap.push { cls:=.type "list",data:=.seq ([]:List gV).toArray }).objs.size=some { cls:=.type "dict_keyiterator",data:=.fields #[.ref d,.int 0 0,.int es.size 0,.int ep 0] }:=yY _ rfl
 have neI:(s.heap.push { cls:=.type "list",data:=.seq ([]:List gV).toArray }).objs.size≠s.heap.objs.size:=by rw [<- I2];omega
 have old:∀ b o,s.heap.get? b=some o->((s.heap.push { cls:=.type "list",data:=.seq ([]:List gV).toArray }).push { cls:=.type "dict_keyiterator",data:=.fields #[.ref d,.int 0 0,.int es.size 0,.int ep 0] }).get? b=some o:=fun b o e=>yh _ (yh _ e)
 generalize ((((s.heap.push { cls:=.type "list",data:=.seq ([]:List gV).toArray }).push { cls:=.type "dict_keyiterator",data:=.fields #[.ref d,.int 0 0,.int es.size 0,.int ep 0] }).update s.heap.objs.size (yZ fun x=>x.push yF)).update s.heap.objs.size (yZ fun x=>x.pop))=h5 at hS2 up ⊢
 have st:h5.IsKeyIter (s.heap.push { cls:=.type "list",data:=.seq ([]:List gV).toArray }).objs.size d 0 es.size ep:=⟨_,up _ _ neI hI,rfl,rfl⟩
 have da:gZ h5 d es ep:=iB.at fun o e=>up d o (yU hSd) e
 generalize hIa:(s.heap.push { cls:=.type "list",data:=.seq ([]:List gV).toArray }).objs.size=Ia at st neI hI ⊢
 have ia:Ia=s.heap.objs.size+1:=by rw [<- hIa];exact I2.symm
 have ne:d≠Ia:=by rw [ia];exact yI (El dl)
 have nS:s.heap.objs.size∉[Ia,d]:=fun h=>by
  rcases yr.mp h with c|c
  ·exact neI c.symm
  ·exact hSd (BJ.mp c)
 have W:=(zuO (prog:=prog) (w:=w) (A:=A.in1) hh Ia d ne es ep).toS
 refine xX ⟨plainId_quiet F.plain_extend_loop _,codeAny_extend_loopS W (by rw [zf];omega) s.heap.objs.size nS _ es.size 0 _ _ _ rfl (zr _) ⟨st,da⟩ hS2 (ItemsOf.nil _) fun s' oi c' mv hS' vV=>?_⟩
 show xS _ A (load s.heap.objs.size >>= _) _ _ s'
 refine lb (wpAny_load hS' ?_)
 refine xX (hQ s' oi (fun b o e=>?_) mv.gens mv.drawn mv.os (Ba (yo hS')) vV)
 have lt:=yo e
 have b1:b≠s.heap.objs.size:=yI lt
 have b2:b≠Ia:=by rw [ia];exact yI (El lt)
 refine mv.heap b o (fun h=>?_) (up b o b1 (old b o e))
 rcases yr.mp h with c|c
 ·exact b1 c
 ·exact b2 (BJ.mp c)
end
end PySem
namespace L2
open PySem PySem.Spec PyProof.Rows PySem.W
variable {pins:List (dm×xU)}{σ:L2.St}{X:Cx}{H:Hp}{s:ir}
section
noncomputable def Cx.in1(X:Cx):Cx:={ X with A:=X.A.in1 }
section
theorem Cx.Ok.in1(o:X.Ok):X.in1.Ok:=⟨o.mod,o.kind,o.glob,o.blt,o.above,o.inj,o.has,o.mR,o.hd,o.frames,o.pG,o.oC,o.bs,o.jr,o.nA,o.mY,o.gA,o.jV,o.tree,o.sk⟩
theorem Cx.Ok.qP(o:X.in1.Ok):X.Ok:=⟨o.mod,o.kind,o.glob,o.blt,o.above,o.inj,o.has,o.mR,o.hd,o.frames,o.pG,o.oC,o.bs,o.jr,o.nA,o.mY,o.gA,o.jV,o.tree,o.sk⟩
theorem Inv.in1(I:Inv X pins σ H s):Inv X.in1 pins σ H s:=⟨I.ok.in1,I.os,I.bare,I.base,I.loc,I.cell,I.free,I.fO,I.pin,I.ax,I.len⟩
theorem Inv.qP(I:Inv X.in1 pins σ H s):Inv X pins σ H s:=⟨I.ok.qP,I.os,I.bare,I.base,I.loc,I.cell,I.free,I.fO,I.pin,I.ax,I.len⟩
end
end
section
theorem zf8:∀ a b c:List Int,HT.lexLt b a=false->HT.lexLt c b=false->HT.lexLt c a=false
 | [],_,[],_,_=>rfl
 | [],[],_::_,_,_=>rfl
 | [],_::_,_::_,_,_=>rfl
 | _::_,[],_,h,_=>by cases h
 | _::_,_::_,[],_,h=>by cases h
 | x::xs,y::ys,z::zs,h1,h2=>by
  simp only [HT.lexLt] at h1 h2 ⊢
  by_cases c1:y=x
  ·subst c1
   rw [if_pos rfl] at h1
   by_cases c2:z=y
   ·subst c2;rw [if_pos rfl] at h2 ⊢;exact zf8 xs ys zs h1 h2
   ·rw [if_neg c2] at h2 ⊢;exact h2
  ·rw [if_neg c1] at h1
   have h1':=of_decide_eq_false h1
   by_cases c2:z=y
   ·subst c2;rw [if_neg c1];exact h1
   ·rw [if_neg c2] at h2
    have h2':=of_decide_eq_false h2
    rw [if_neg (by omega)]
    exact decide_eq_false (by omega)
theorem zf6:∀ a b:List Int,HT.lexLt a b=true->HT.lexLt b a=false
 | [],[],h=>by cases h
 | [],_::_,_=>rfl
 | _::_,[],h=>by cases h
 | x::xs,y::ys,h=>by
  simp only [HT.lexLt] at h ⊢
  by_cases c:x=y
  ·subst c;rw [if_pos rfl] at h ⊢;exact zf6 xs ys h
  ·rw [if_neg c] at h
   have h':=of_decide_eq_true h
   rw [if_neg (by omega)]
   exact decide_eq_false (by omega)
abbrev WK:=Int×List Int
noncomputable def fU(p q:WK):Bool:=if p.1=q.1 then HT.lexLt p.2 q.2 else decide (p.1<q.1)
theorem zgn(a b c:WK)(h1:fU b a=false)(h2:fU c b=false):fU c a=false:=by
 unfold fU at h1 h2 ⊢
 by_cases c1:b.1=a.1
 ·rw [if_pos c1] at h1
  by_cases c2:c.1=b.1
  ·rw [if_pos c2] at h2;rw [if_pos (c2.trans c1)];exact zf8 _ _ _ h1 h2
  ·rw [if_neg c2] at h2;rw [if_neg (by rw [<- c1];exact c2),<- c1];exact h2
 ·rw [if_neg c1] at h1
  have h1':=of_decide_eq_false h1
  by_cases c2:c.1=b.1
  ·rw [c2,if_neg c1];exact h1
  ·rw [if_neg c2] at h2
   have h2':=of_decide_eq_false h2
   rw [if_neg (by omega)]
   exact decide_eq_false (by omega)
theorem zgm(a b:WK)(h:fU a b=true):fU b a=false:=by
 unfold fU at h ⊢
 by_cases c:a.1=b.1
 ·rw [if_pos c] at h;rw [if_pos c.symm];exact zf6 _ _ h
 ·rw [if_neg c] at h
  have h':=of_decide_eq_true h
  rw [if_neg (by omega)]
  exact decide_eq_false (by omega)
noncomputable def jF(kd:List WK)(i j:Nat):Bool:=fU (kd.getD i (0,[])) (kd.getD j (0,[]))
theorem zgR(kd:List WK):Ord (jF kd):=⟨fun _ _ _ h1 h2=>zgn _ _ _ h1 h2,fun _ _ h=>zgm _ _ h⟩
end
section
end
section
end
section
def rl(lt:Nat->Nat->Bool)(x y:Nat):Prop:=lt y x=false
end
section
end
section
end
section
abbrev A3:=Option (Option Nat)×Nat×Nat
end
section
end
section
end
section
end
section
end
variable {o:HO}{h':xV}{E:gV->ir->Prop}{a f:dm}{Q:ir->Prop}{t':Nat}{oa:xU}{H0:Hp}
section
section
theorem Inv.adopt(I:Inv X pins σ H s)(k:∀ b u,b≠a->s.heap.get? b=some u->h'.get? b=some u)(hf:gH X pins H a)(new:ck X.prog X.w (upd H a o) h' a o) :
  Inv X pins σ (upd H a o) { s with heap:=h',toks:=t' }:=by
 obtain⟨hn,hL,hfs,h1,h2,h3⟩:=hf
 have ne:∀ b u,H b=some u->b≠a:=fun b u e z=>by rw [z,hn] at e;cases e
 refine I.step (g':=s.gens) (d':=s.drawn) (ch:=[a]) (fun b hb=>?_) (fun b o _ _ hc e _=>k b o (fun z=>hc (by simp [z])) e) (fun b o _ _ hc e _=>⟨o.slots,k b o (fun z=>hc (by simp [z])) e⟩) (fun b o hc _ n=>?_)
  (fun b o hc e=>⟨o,k b o (fun z=>hc (by simp [z])) e⟩) (fun b xs e=>?_) (fun b o u e=>?_) (fun b ps e=>⟨#[],?_⟩) (fun m hm=>?_) (fun b u e=>?_) I.bare
 ·have e:b=a:=by simpa using hb
  subst e
  exact⟨h1,hL,h2,h3⟩
 ·rw [aT fun z=>hc (by simp [z])];exact n
 ·rw [aT (ne b _ e)];exact e
 ·rw [aT (ne b _ e)];exact e
 ·rw [aT (ne b _ e),e];simp
 ·obtain⟨o,es,ep,ho,r⟩:=hm
  exact⟨o,es,ep,k _ o (yU hL) ho,r⟩
 ·by_cases c:b=a
  ·subst c
   rw [bX] at e
   cases e
   exact new
  ·rw [aT c] at e
   refine(I.ax b u e).hV (fun d v hc q=>k d v ?_ q) (fun b' q=>by rw [aT (ne b' _ q)];exact q) fun b' xs q=>q.upd (fun _ r=>ne b' _ r) fun _ _ r=>ne b' _ r
   rcases hc with z|z
   ·rw [z];exact ne b u e
   ·exact ne d _ z
variable {kS:dm}
theorem zii:∀{xs:List V} {us:List gV} (p:List Nat),Vals xs us->(∀ i∈p,i<us.length)->Vals (p.map fun i=>xs.getD i .non) (p.map fun i=>us.getD i yF)
 | xs,us,[],_,_=>.nil
 | xs,us,i::p,r,h=>by
  refine .cons ?_ (zii p r fun j hj=>h j (yK _ hj))
  have hi:=h i (yM ..)
  have hl:=r.length
  obtain⟨w,ew,hU⟩:=r.get (i:=i) (x:=xs[i]) (yC (by omega))
  have e1:xs.getD i .non=xs[i]:=by simp [AY,yC (show i<xs.length by omega)]
  have e2:us.getD i yF=w:=by rw [AY,ew];rfl
  show RelV (xs.getD i .non) (us.getD i yF)
  rw [e1,e2]
  exact hU
theorem zd0(n:Nat):Arr n (Ao (zN n)):=⟨by simp,FH _⟩
end
end
variable {A:ya}{Q:List gV->ir->Prop}
section
noncomputable def uP(H:Hp):List (List Key×V)->List V->Prop
 | [],xs=>xs=[]
 | kv::r,xs=>∃ b t,xs=.ref b::t/\dU H b (kv.1.map kV)/\uP H r t
def rn(H:Hp)(d:dm)(xs:List V):Prop:=∃ ah,Rd H d (.dT ah)/\uP H ah xs
section
variable {d:dm}
theorem zf3:∀{ah:List (List Key×V)} {ys:List (List Key×dm×gV)},KT H ah ys->uP H ah (ys.map fun y=>V.ref y.2.1)
 | [],_,.nil=>rfl
 | kv::r,_,.cons h t=>⟨_,_,rfl,h.2.1,zf3 t⟩
theorem zjX(hh:A.handled=none)(I:Inv X pins σ H s)(rd:uO H d)(hn:∀ xs,rn H d xs->xs.length<2000)
  (hQ:∀ xs us s',rn H d xs->Vals xs us->Inv X pins σ H s'->Q us s'):xS (xT X.prog X.w) A (collect (.ref d)) Q E s:=by
 have fin:∀(s':ir),(∀ b o,s.heap.get? b=some o->s'.heap.get? b=some o)->s'.gens=s.gens->s'.drawn=s.drawn->s'.os=s.os->Inv X pins σ H s':=fun s' k g dr os=>by
  obtain⟨h,g',dr',tk,os'⟩:=s'
  simp only at g dr os
  subst g;subst dr;subst os
  exact I.kept (t':=tk) k
 obtain⟨ah,rd⟩:=rd
 obtain⟨z,sy,ys,kt,o,es,ep,e',r1,r2,r3,r4⟩:=r6 I.ax rd
 have ks:=zf3 kt
 have lk:=hn _ ⟨ah,rd,ks⟩
 have ly:ah.length=ys.length:=CY kt
 have hsz:es.size=ys.length:=size_of_entries r3
 rw [yn] at lk
 refine zjY hh sy ⟨o,e',r1,r2⟩ (by omega) fun s' acc hk hg hd ho hs vV=>hQ _ _ s' ⟨ah,rd,ks⟩ ?_ (fin s' hk hg hd ho)
 have la:acc.toList.length=es.size:=by rw [BV];exact vV.1
 refine zig (by rw [yn];omega) fun j x v ex ev=>?_
 rw [Array.getElem?_toList] at ev
 obtain⟨hj,rfl⟩:=vV.2 j v ev
 have lj:j<ys.length:=by omega
 rw [yO,yC lj] at ex
 cases ex
 have:=entry_at r3 j
 rw [yC lj,Ek hj] at this
 simp only [zS,zF] at this
 rw [this]
 rfl
end
end
end L2
namespace FL
open PySem L2 PySem.Spec
open PyProof.Rows hiding St
variable [Cs]
variable {l:List (WK×D)}{p:Array Nat}{ks:List D}{ws:List WK}
theorem zgo(p q:WK):wA p q=L2.fU p q:=by
 unfold wA L2.fU
 rw [zcu]
theorem zf7:∀ a b:List Int,HT.lexLt a b=false->HT.lexLt b a=false->a=b
 | [],[],_,_=>rfl
 | [],_::_,h,_=>by cases h
 | _::_,[],_,h=>by cases h
 | x::xs,y::ys,h1,h2=>by
  simp only [HT.lexLt] at h1 h2
  by_cases c:x=y
  ·subst c
   rw [if_pos rfl] at h1 h2
   rw [zf7 xs ys h1 h2]
  ·rw [if_neg c] at h1
   rw [if_neg (yU c)] at h2
   have a1:=of_decide_eq_false h1
   have a2:=of_decide_eq_false h2
   omega
theorem zpm(p q:WK)(h1:L2.fU p q=false)(h2:L2.fU q p=false):p=q:=by
 unfold L2.fU at h1 h2
 by_cases c:p.1=q.1
 ·rw [if_pos c] at h1
  rw [if_pos c.symm] at h2
  exact Prod.ext c (zf7 _ _ h1 h2)
 ·rw [if_neg c] at h1
  rw [if_neg (yU c)] at h2
  have a1:=of_decide_eq_false h1
  have a2:=of_decide_eq_false h2
  omega
def uQ(x y:WK×D):Prop:=L2.fU y.1 x.1=false
theorem zmt{x z:WK×D}(h:z∈ng x l):z=x\/z∈l:=by
 have:=(zcl x l).mem_iff.mp h
 simpa using this
theorem zfJ(x:WK×D):∀ l:List (WK×D),l.Pairwise uQ->(ng x l).Pairwise uQ
 | [],_=>by simp [ng]
 | y::r,h=>by
  unfold ng
  rw [CQ] at h
  split
  ·rename_i c
   rw [zgo] at c
   rw [CQ]
   refine⟨fun z hz=>?_,zfJ x r h.2⟩
   rcases zmt hz with rfl|hz
   ·exact zgm _ _ c
   ·exact h.1 z hz
  ·rename_i c
   rw [zgo] at c
   have c':L2.fU y.1 x.1=false:=by simpa using c
   rw [CQ]
   refine⟨fun z hz=>?_,CQ.mpr h⟩
   rcases yr.mp hz with rfl|hz
   ·exact c'
   ·exact zgn _ _ _ c' (h.1 z hz)
theorem zco:∀ l:List (WK×D),(nh l).Pairwise uQ
 | []=>.nil
 | x::r=>zfJ x _ (zco r)
theorem zg1{α:Type}{le:α->α->Prop}:∀{l1 l2:List α},l1.Perm l2->l1.Pairwise le->l2.Pairwise le->(∀ a∈l1,∀ b∈l1,le a b->le b a->a=b)->l1=l2
 | [],l2,h,_,_,_=>(List.nil_perm.mp h).symm
 | a::r1,[],h,_,_,_=>by have:=h.length_eq;simp at this
 | a::r1,b::r2,h,p1,p2,an=>by
  rw [CQ] at p1 p2
  have e:a=b:=by
   have ha:a∈b::r2:=h.mem_iff.mp (yM ..)
   have hb:b∈a::r1:=h.mem_iff.mpr (yM ..)
   rcases yr.mp ha with e|ha'
   ·exact e
   rcases yr.mp hb with e|qw
   ·exact e.symm
   exact an a (yM ..) b (yK _ qw) (p1.1 b qw) (p2.1 a ha')
  subst e
  rw [zg1 ((List.perm_cons a).mp h) p1.2 p2.2 fun x hx y hy=>an x (yK _ hx) y (yK _ hy)]
theorem ziq:∀{ws:List WK} {ks:List D} {x y:WK×D},ws.Nodup->x∈ws.zip ks->y∈ws.zip ks->x.1=y.1->x=y
 | [],ks,x,y,_,h,_,_=>by simp at h
 | _::_,[],x,y,_,h,_,_=>by simp at h
 | w::ws,k::ks,x,y,nd,h1,h2,e=>by
  rw [z0] at nd
  rw [zu] at h1 h2
  rcases yr.mp h1 with rfl|h1
  ·rcases yr.mp h2 with rfl|h2
   ·rfl
   ·exact absurd (by rw [show w=y.1 from e];exact(CB h2).1) nd.1
  ·rcases yr.mp h2 with rfl|h2
   ·exact absurd (by rw [show w=x.1 from e.symm];exact(CB h1).1) nd.1
   ·exact ziq nd.2 h1 h2 e
theorem zte(ws:List WK)(ks:List D)(h:ws.length=ks.length):(zN ks.length).map (fun i=>(ws.getD i (0,[]),ks.getD i Bj))=ws.zip ks:=by
 apply List.ext_getElem
 ·simp [h]
 ·intro i h1 h2
  have hi:i<ks.length:=by simpa using h1
  have iA:i<ws.length:=by omega
  simp [AY,yC hi,yC iA]
theorem ztV(hl:ws.length=ks.length)(nd:ws.Nodup)(ar:Arr ks.length p)(up:Up (jF ws) p ks.length):p.toList.map (fun i=>ks.getD i Bj)=(nh (ws.zip ks)).map (·.2):=by
 have hp:(p.toList.map fun i=>(ws.getD i (0,[]),ks.getD i Bj)).Perm (ws.zip ks):=by
  have:=(DC.mp ar.pm).map fun i=>(ws.getD i (0,[]),ks.getD i Bj)
  rw [FN,zte ws ks hl] at this
  exact this
 have e:(p.toList.map fun i=>(ws.getD i (0,[]),ks.getD i Bj))=nh (ws.zip ks):=by
  refine zg1 (hp.trans (zcn _).symm) ?_ (zco _) fun x hx y hy h1 h2=>?_
  ·rw [Ex]
   intro i j hi hj dX
   have iA:i<p.size:=by simpa using hi
   have lO:j<p.size:=by simpa using hj
   have:=up i j (Ba dX) (by rw [<- ar.sz];exact lO)
   rw [show gp p i=p[i] by simp [gp,DB,iA],show gp p j=p[j] by simp [gp,DB,lO]] at this
   simpa [uQ,jF] using this
  ·exact ziq nd (hp.mem_iff.mp hx) (hp.mem_iff.mp hy) (zpm _ _ h2 h1)
 rw [<- e,zV]
 rfl
variable {xs:List V}{X:Cx}{H:Hp}{d:dm}{ah:List (D×D)}
section
variable {K:kb}
theorem zf2:∀{ah:List (D×D)} {kk:List (List Key×V)} {xs:List V},bq K H ah kk->uP H kk xs->aj K H (ah.map (·.1)) xs
 | [],kk,xs,h,t=>by
  simp only [bq] at h
  subst h
  have:xs=[]:=t
  subst this
  simp [aj]
 | (k,d)::r,kk,xs,h,t=>by
  simp only [bq] at h
  obtain⟨q,v,t',rfl,rfl,f,h2⟩:=h
  obtain⟨b,u,rfl,tb,t2⟩:=t
  simp only [yi,aj]
  exact⟨_,_,rfl,zlI tb,zf2 h2 t2⟩
theorem zaV(h:Fz K H (.dict ah) (.ref d))(t:rn H d xs):aj K H (ah.map (·.1)) xs:=by
 simp only [Fz] at h
 obtain⟨a,o,e,h⟩:=h
 cases e
 obtain⟨kk,h1,h2⟩:=h
 obtain⟨kk',rd,t⟩:=t
 have:kk'=kk:=by
  rcases rd with z|⟨o',z⟩
  ·rw [h1] at z;cases z
  ·rw [h1] at z;cases z;rfl
 subst this
 exact zf2 h2 t
theorem zlG(h:Fz K H (.dict ah) (.ref d)):uO H d:=by
 simp only [Fz] at h
 obtain⟨a,o,e,h⟩:=h
 cases e
 obtain⟨kk,h1,h2⟩:=h
 exact⟨kk,.inr ⟨o,h1⟩⟩
theorem aj.pick{ds:List D}{xs:List V}(h:aj K H ds xs):∀(p:List Nat),(∀ i∈p,i<ds.length)->aj K H (p.map fun i=>ds.getD i Bj) (p.map fun i=>xs.getD i .non)
 | [],_=>by simp [aj]
 | i::p,hp=>by
  simp only [yi,aj]
  have hi:=hp i (yM ..)
  obtain⟨v,ev,fv⟩:=h.get (yC hi)
  refine⟨_,_,rfl,?_,aj.pick h p fun j hj=>hp j (yK _ hj)⟩
  rw [AY,AY,ev,yC hi]
  exact fv
end
end FL
namespace L2
open PySem PySem.Spec PyProof.Rows PySem.W
end L2
namespace FL
open PySem L2 PySem.Spec
open PyProof.Rows hiding St
section
variable [Cs]
end
variable {u:HO}{k:Nat}{q x:ib}{cl:CL}{w:x5}{vs:List gV}{G:List D->R D}{h:xV}{loose:List ib}{X:Cx}{l:Ey}{a b f:dm}{ns:List Int}{s₁:ir}{d:DefRec}{YP:x5->xV->Prop}{CX:h8}{cd:gV}{P:x6}{fd:yq}{pos:xW}{cs:List dm}{mg:ib->Option gV}{o:xU}
section
noncomputable def az(cs:List dm)(K:kb):kb:=K.filter fun p=>!cs.contains p.1
theorem vA(cs:List dm):∀(K:kb) (b:dm),(az cs K).lookup b=if cs.contains b=true then none else K.lookup b
 | [],b=>by simp [az]
 | (c,o)::K,b=>by
  have ih:=vA cs K b
  unfold az at ih ⊢
  rw [List.filter_cons]
  by_cases hc:cs.contains c=true
  ·rw [if_neg (by simp only [hc];decide),ih]
   by_cases hb:cs.contains b=true
   ·rw [if_pos hb,if_pos hb]
   ·have ne:b≠c:=fun z=>by rw [z] at hb;exact hb hc
    rw [if_neg hb,if_neg hb]
    simp [ym,show(b==c)=false from by simpa using ne]
  ·have jx:cs.contains c=false:=by simpa using hc
   rw [if_pos (by simp only [jx];decide)]
   by_cases e:b=c
   ·subst e
    rw [if_neg hc]
    simp [ym]
   ·have e':(b==c)=false:=by simpa using e
    rw [ym,ym,e']
    exact ih
theorem zeN{K:kb}(x:K.In h):(az cs K).In h:=fun a o e=>by
 rw [vA] at e
 split at e
 ·cases e
 ·exact x a o e
def cy(cs:List dm)(K:kb):Prop:=∀ c∈cs,∃ o its n,K.lookup c=some o/\o.data=Data.seq its n
theorem gz{K:kb}(s:cy cs K)(e:K.lookup b=some o)(n:∀ its m,o.data≠.seq its m):(az cs K).lookup b=some o:=by
 rw [vA,if_neg,e]
 intro c
 obtain⟨o',its,m,e',d⟩:=s b (by simpa using c)
 rw [e] at e'
 cases e'
 exact n _ _ d
theorem zjW{K:kb}(s:cy cs K)(h:Az K cd q=true):Az (az cs K) cd q=true:=by
 cases cd with
 | ref c =>
  unfold Az at h ⊢
  cases e:K.lookup c with
  | none=>simp only [e] at h;cases h
  | some o =>
   obtain⟨oc,od,data,sl⟩:=o
   cases data with
   | fields vs =>
    simp only [e] at h
    simp only [gz s e fun _ _ z=>nomatch z]
    exact h
   | _=>simp only [e] at h;cases h
 | _=>cases h
theorem dw.cut{K:kb}(s:cy cs K){st:x8}(F:dw K x q st f fd):dw (az cs K) x q st f fd:=by
 obtain⟨⟨oc,od,kV,doc,pm,an,aw,ct,gC,e,l,c⟩,kp⟩:=F
 have l':=gz s l fun _ _ z=>nomatch z
 refine⟨⟨oc,od,kV,doc,pm,an,aw,ct,gC,e,l',zjW s c⟩,?_⟩
 unfold Ai
 simp only [l']
theorem bh.cut{cs:List dm}{K:kb}{mg:ib->Option gV}(s:cy cs K){x:ib}{st:x8}(h:bh K mg x st):bh (az cs K) mg x st:=by
 obtain⟨f,fd,hm,F⟩:=h
 exact⟨f,fd,hm,dw.cut s F⟩
abbrev CL:=List (dm×xU×List V)
noncomputable def gr(cl:CL):Hp:=fun b=>(cl.lookup b).map fun p=>.frz p.1 (.tup p.2)
theorem zl9(cl:CL)(a:dm)(u:HO)(h:gr cl a=some u):∃ o xs,u=.frz o (.tup xs):=by
 unfold gr at h
 rw [Ac] at h
 obtain⟨p,_,rfl⟩:=h
 exact⟨_,_,rfl⟩
@[reducible] def qj(cl:CL)(ob:String->Option (dm×List ib):=fun _=>none)(xb:String->Option (dm×List ib):=fun _=>none):Cs:={ C:=gr cl,st:=zl9 cl,O:=ob,X:=xb }
def gx(cl:CL)(K:kb):Prop:=∀ p∈cl,K.lookup p.1=some p.2.1/\p.2.1.cls=.type "tuple"/\p.2.2.length<=yb/\∃(its:Array gV) (n:Nat),p.2.1.data=.seq its n/\Vals p.2.2 its.toList
theorem gx.nil{K:kb}:gx [] K:=fun p hp=>by simp at hp
theorem gx.cons{K:kb}{a:dm}{od:Option dm}{its:Array gV}{n:Nat}{sl:Array (Option gV)}{xs:List V}{cl:CL}(e:K.lookup a=some ⟨.type "tuple",od,.seq its n,sl⟩) (hv:Vals xs its.toList) (hl:xs.length<=1000) (r:gx cl K):gx ((a,⟨.type "tuple",od,.seq its n,sl⟩,xs)::cl) K:=fun p hp=>by
 rcases yr.mp hp with rfl|hp
 ·exact⟨e,rfl,Ba (ztR hl),its,n,rfl,hv⟩
 ·exact r p hp
theorem gx.au{K:kb}(h:gx cl K):cy (cl.map (·.1)) K:=fun c hc=>by
 obtain⟨p,hp,rfl⟩:=zM.mp hc
 obtain⟨e,_,_,its,n,d,_⟩:=h p hp
 exact⟨_,its,n,e,d⟩
theorem mem_of_lookup{α:Type}:∀{l:List (dm×α)} {a:dm} {x:α},l.lookup a=some x->(a,x)∈l
 | [],a,x,h=>by simp at h
 | (b,y)::r,a,x,h=>by
  rw [ym] at h
  cases e:a==b with
  | true =>
   rw [e] at h
   cases h
   have:=eq_of_beq e
   subst this
   exact yM ..
  | false =>
   rw [e] at h
   exact yK _ (mem_of_lookup h)
theorem qx{K:kb}(h:gx cl K)(e:gr cl b=some u):(az (cl.map (·.1)) K).lookup b=none/\∃(o:xU) (xs:List V) (its:Array gV) (n:Nat),u=.frz o (.tup xs)/\K.lookup b=some o/\o.cls=.type "tuple"/\o.data=.seq its n/\xs.length<=yb/\Vals xs its.toList:=by
 unfold gr at e
 rw [Ac] at e
 obtain⟨⟨o,xs⟩,el,rfl⟩:=e
 have m:=mem_of_lookup el
 obtain⟨h1,h2,h3,its,n,h4,h5⟩:=h _ m
 refine⟨?_,o,xs,its,n,rfl,h1,h2,h4,h3,h5⟩
 rw [vA,if_pos]
 have:b∈cl.map (·.1):=zM.mpr ⟨_,m,rfl⟩
 simpa using this
theorem zo3{K:kb}{mb:ib->Option gV}{fa:dm}{sp:Sp}
  (KX:K.In s₁.heap)(hC:gx cl K)(qB:s₁.heap.Ns yc mg)(hb:s₁.heap.Ns CZ mb)(sF:∀ x:ib,x ≠ "__name__"->mb x=yJ x) (zml:s₁.heap.NoLimit) (wa:s₁.heap.NoSeer) (sU:P.given.tree=none) (hg:s₁.gens=#[])
  (ha:s₁.heap.get? a=some { cls:=.type "list",data:=.seq vs.toArray }) (hi:zI vs ns) (hl:ns.length<=yb) (hr:aZ k BF)
  (F:∀ base:xV,(az (cl.map (·.1)) K).In base->base.Ns yc mg->bU P w (az (cl.map (·.1)) K) mg base CX k fa fd [x] sp) (zl7:∀(s:ir) (u:gV),B7 s fd ⟨[u],[]⟩ [(x,u)])
  (nc:∀ H:Hp,(∀ b xs,H b≠some (.lst xs))->(∀ b u,gr cl b=some u->H b=some u)->bV (az (cl.map (·.1)) K) H a (ns.map V.int)->sp [.ref a] H (fun v _=>v=.bl true) fun _ _ _=>False)
  (hCX:∀ H e s',CX [] H s₁ (fun _ _ _=>False) e s'->False) :
  Aw (xT P w) BF (.call (.ref fa) ⟨[.ref a],[]⟩) (fun r s'=>r=.ok (.ret (.bool true))/\OldK s₁.heap s'.heap/\s'.os=s₁.os/\As s'.gens) s₁:=by
 have rv:=zih hi
 have zo8:=hi.length
 have core:∀ H:Hp,(∀ b u,H b=some u->∃ o v,u=.frz o v/\o.cls≠.type "module"/\∀ es ep,o.data≠.dict es ep)->(∀ b xs,H b≠some (.lst xs))->(∀ b u,gr cl b=some u->H b=some u)->bV (az (cl.map (·.1)) K) H a (ns.map V.int)->bY P w H s₁.heap->(∀ b,H b≠none->(az (cl.map (·.1)) K).lookup b=none) ->
   Aw (xT P w) BF (.call (.ref fa) ⟨[.ref a],[]⟩) (fun r s'=>r=.ok (.ret (.bool true))/\OldK s₁.heap s'.heap/\s'.os=s₁.os/\As s'.gens) s₁:=by
  intro H hO hL jX hS ax hK
  have zaw:∀{b:dm} {o:xU},s₁.heap.get? b=some o->H b=none->(lN s₁.heap H).get? b=some o:=fun e n=>zmg e n
  have tQ:∀{b:dm} {o:xU} {es:Array zT} {ep:Nat},s₁.heap.get? b=some o->o.data=.dict es ep->H b=none:=fun{b o es ep} e d=>by
   cases q:H b with
   | none=>rfl
   | some u =>
    obtain⟨o',v,rfl,_,nd⟩:=hO b u q
    obtain⟨e',_⟩:=ax b _ q
    rw [e] at e'
    cases e'
    exact absurd d (nd es ep)
  have noM:∀{b:dm} {o:xU},s₁.heap.get? b=some o->o.cls=.type "module"->H b=none:=fun{b o} e d=>by
   cases q:H b with
   | none=>rfl
   | some u =>
    obtain⟨o',v,rfl,nd,_⟩:=hO b u q
    obtain⟨e',_⟩:=ax b _ q
    rw [e] at e'
    cases e'
    exact absurd d nd
  have nB:∀{b:dm} {m:ib->Option gV},s₁.heap.Ns b m->(lN s₁.heap H).Ns b m:=fun{b m} ⟨o,es,ep,e,d,r⟩=>⟨o,es,ep,zaw e (tQ e d),d,r⟩
  have hKb:(az (cl.map (·.1)) K).In (lN s₁.heap H):=fun b o e=>zaw (zeN KX b o e) (by
   cases q:H b with
   | none=>rfl
   | some u=>rw [hK b (by rw [q];simp)] at e;cases e)
  have hM:Mod (az (cl.map (·.1)) K) mg (lN s₁.heap H):=⟨hKb,nB qB,⟨mb,nB hb,sF⟩,let⟨mc,h1,h2⟩:=zml;⟨mc,nB h1,h2⟩,(let⟨mc,h1,h2⟩:=wa.statics;⟨mc,nB h1,h2⟩),(let⟨mc,h1,h2⟩:=wa.mods;⟨mc,nB h1,h2⟩),(let⟨mc,h1,h2⟩:=wa.imp;⟨mc,nB h1,h2⟩),(let⟨mg,bm,ob,h1,h2,h3,h4,h5⟩:=wa.main;⟨mg,bm,ob,nB h1,h2,zaw h3 (noM h3 h4),h4,h5⟩)⟩
  have e0:nR P w (az (cl.map (·.1)) K) mg (lN s₁.heap H) BF [] s₁ H:=⟨rfl,hM,fun b o e=>zqh e,Cz (zmh _ _),trivial,fun b hb=>absurd (show b∈([]:List dm) from hb) (by simp),ax,.of_eq hg,sU⟩
  refine CA ((F _ hKb (nB qB)).run BF [] s₁ H ⟨[.ref a],[]⟩ [.ref a] [.ref a] _ _ hr e0 (zl7 s₁ (.ref a)) (.cons rfl .nil) (nc H hL jX hS)) fun r s' h=>?_
  cases r with
  | error e=>exact(hCX H e s' h).elim
  | ok fl =>
   cases fl with
   | next=>exact za h
   | brk=>exact za h
   | cont=>exact za h
   | ret u =>
    obtain⟨v,H',os,bare,un,zmn,r',q⟩:=h
    have q':v=.bl true:=q
    subst q'
    obtain rfl:u=Af true:=r'
    refine⟨rfl,OldK.of_keep fun b o e=>?_,os,bare⟩
    cases q:H b with
    | none=>exact un.keep b o e q (by intro z;exact absurd (show b∈([]:List dm) from z) (by simp)) (by simp)
    | some u =>
     obtain⟨ob,v,rfl,_,_⟩:=hO b u q
     have z2:=un.gq b ob _ q
     obtain⟨e1,_⟩:=ax b _ q
     obtain⟨e2,_⟩:=zmn b _ z2
     rw [e] at e1;cases e1
     exact e2
 have cok:∀{H:Hp} {b:dm} {u:HO},gr cl b=some u->ck P w H s₁.heap b u:=fun{H b u} e=>by
  obtain⟨_,o,xs,its,n,rfl,h1,h2,h3,h4,h5⟩:=qx hC e
  have hg:=KX b o h1
  exact⟨hg,h4,its.toList,h5,o,hg,h2,n,by simpa using h3⟩
 have cfr:∀{b:dm} {u:HO},gr cl b=some u->∃ o v,u=.frz o v/\o.cls≠.type "module"/\∀ es ep,o.data≠.dict es ep:=fun{b u} e=>by
  obtain⟨_,o,xs,its,n,rfl,h1,h2,h3,h4,h5⟩:=qx hC e
  exact⟨o,_,rfl,by rw [h2];simp,fun es ep z=>by rw [h3] at z;cases z⟩
 have zeJ:∀{b:dm} {xs:List V},gr cl b≠some (.lst xs):=fun{b xs} e=>by
  obtain⟨_,o,xs,its,n,z,_⟩:=qx hC e
  cases z
 cases hk:(az (cl.map (·.1)) K).lookup a with
 | some o =>
  have e:=zeN KX a o hk
  rw [ha] at e
  cases e
  exact core (gr cl) (fun b u e=>cfr e) (fun b xs e=>zeJ e) (fun _ _ e=>e) (.inr ⟨_,vs.toArray,_,hk,rfl,rfl,rfl,by rw [yv,zo8];exact hl,by simpa using rv⟩) (fun b u z=>cok z) fun b hb=>by
   cases q:gr cl b with
   | none=>exact absurd q hb
   | some u=>exact(qx hC q).1
 | none =>
  have na:∀ u,gr cl a≠some u:=fun u z=>by
   obtain⟨_,o,xs,its,n,rfl,h1,h2,h3,h4,h5⟩:=qx hC z
   have:=KX a o h1
   rw [ha] at this
   cases this
   simp at h2
  refine core (fun b=>if b=a then some (.frz { cls:=.type "list",data:=.seq vs.toArray } (.lst (ns.map V.int))) else gr cl b) (fun b u e=>?_) (fun b xs e=>?_) (fun b u e=>?_) (.inl (.inr ⟨{ cls:=.type "list",data:=.seq vs.toArray },if_pos rfl⟩)) (fun b u z=>?_) fun b hb=>?_
  ·split at e
   ·cases e;exact⟨_,_,rfl,by simp,fun es ep z=>nomatch z⟩
   ·exact cfr e
  ·split at e
   ·cases e
   ·exact zeJ e
  ·have:b≠a:=fun z=>by subst z;exact na u e
   simp only [if_neg this];exact e
  ·simp only at z
   split at z
   ·rename_i c
    cases z
    subst c
    exact⟨ha,by rw [yn];exact hl,vs,_,rv,ha⟩
   ·exact cok z
  ·by_cases c:b=a
   ·subst c;exact hk
   ·simp only [if_neg c] at hb
    cases q:gr cl b with
    | none=>exact absurd q hb
    | some u=>exact(qx hC q).1
theorem zuM{q:x6}{XP:(ib->Option gV)->xV->Prop}{K:Params->kb}
  (zbP:∀ ns:List Int,ns.length<=63->G [.list (ns.map yy)]=.ok (.bool true))(hn:l.most=some 63)(sH:d.params.defaults=[])(hi:importsNone q=true)(sU:l.prog.given.tree=none)(hr:aZ k BF)
  (hY:∀(w:x5) (h:xV),YP w h->(K w.params).In h)
  (F:∀(w:x5) (mg:ib->Option gV) (fa:dm) (h:xV),(K w.params).In h->h.Ns yc mg->mg d.name=some (.ref fa) ->
   ∃(cl:CL) (ob xb:String->Option (dm×List ib)) (fd:yq),gx cl (K w.params)/\(∀(s:ir) (u:gV),B7 s fd ⟨[u],[]⟩ [(x,u)]) /\
    ∀ base:xV,(az (cl.map (·.1)) (K w.params)).In base->base.Ns yc mg->bU l.prog w (az (cl.map (·.1)) (K w.params)) mg base (bE l.prog w) k fa fd [x] (@iM (qj cl ob xb) (az (cl.map (·.1)) (K w.params)) 1 false G)) :
  PySem.W.WalkO q loose XP YP l.row.toRowW d [] (fun f vs=>Ee f vs):=by
 refine Att.zi9 hn sH fun w s₀ s₁ mg mb fa o pm cd doc a vs ns GG Y ho hd eU hmg zcg hints hlen hg=>?_
 have KX:=hY w _ Y
 obtain⟨cl,ob,xb,fd,hC,hb,hF⟩:=F w mg fa _ KX GG.T.g hmg
 refine zo3 KX hC GG.T.g GG.T.b GG.T.builtins GG.T.nolimit (GG.T.seer hi) sU hg zcg hints (yx hlen (by decide)) hr hF hb (fun H hO jX hS=>@zo4 (qj cl ob xb) _ G H a ns (zbP ns hlen) hO jX hS) fun H e s' ⟨_,_,_,_,_,_,_,_,_,_,_,_,_,_,_,z⟩=>z
variable [Cs]
theorem zrX{K:kb}{ds:List D}{vs:List V}(hg:Gl X x)(hm:X.mg x=some (.ref a))(hc:∃ o,Cs.C a=some (.frz o (.tup vs)))(hf:∀ H,aj K H ds vs)(hd:(x==("__debug__":ib))=false:=by decide) :
  PV K X (.Name x pos) (eC (.tuple ds)):=.mk fun _=>(cU hg hm (v:=.ref a) rfl hd).weak fun σ H Q=>by
 rintro⟨ρ,rel,g⟩
 obtain⟨o,hc⟩:=hc
 refine g.now rel (.ref a) ?_
 simp only [Fz]
 exact⟨a,vs,rfl,.inr ⟨o,rel.cst _ _ hc⟩,hf H⟩
end
variable {oc u:gV}{gC:Array (Option gV)}{xs:List V}{A:ya}{ob:String->Option (dm×List ib)}
section
theorem xK(hr:aZ k A):A.units+1<yW:=by have:=hr.un;omega
theorem zuE(hr:aZ k A):A.units+80<yW:=by have:=hr.un;omega
theorem ztj{x y:V}(h1:L2.RelV x u)(h2:L2.RelV y u):x=y:=by
 cases x <;> cases y <;> simp only [L2.RelV] at h1 h2 <;> first
  | (subst h1;cases h2;rfl;done)
  | (subst h1;obtain⟨t',h2⟩:=h2;cases h2;done)
  | (obtain⟨t,rfl⟩:=h1;obtain⟨t',h2⟩:=h2;cases h2;rfl;done)
  | (obtain⟨t,rfl⟩:=h1;obtain⟨t',h2⟩:=h2;cases h2;done)
  | (subst h1;cases h2;done)
  | (obtain⟨t,rfl⟩:=h1;cases h2;done)
theorem zij:∀{xs ys:List V} {us:List gV},Vals xs us->Vals ys us->xs=ys
 | _,_,_,.nil,.nil=>rfl
 | _,_,_,.cons r1 t1,.cons r2 t2=>by rw [ztj r1 r2,zij t1 t2]
theorem lookup_mem{α:Type}:∀{l:List (dm×α)} {a:dm} {x:α},(a,x)∈l->∃ y,l.lookup a=some y
 | [],a,x,h=>by simp at h
 | (b,y)::r,a,x,h=>by
  rw [ym]
  cases e:a==b with
  | true=>exact⟨y,rfl⟩
  | false =>
   rcases yr.mp h with z|z
   ·cases z;simp at e
   ·exact lookup_mem z
theorem zl8{K:kb}(h:gx cl K)(m:(a,o,xs)∈cl):∃ o',(qj cl ob).C a=some (.frz o' (.tup xs)):=by
 obtain⟨⟨o2,ys⟩,el⟩:=lookup_mem m
 obtain⟨h1,_,_,its,n,h2,h3⟩:=h _ m
 obtain⟨g1,_,_,g9,n',g2,g3⟩:=h _ (mem_of_lookup el)
 simp only at h1 h2 h3 g1 g2 g3
 rw [h1] at g1
 cases g1
 rw [h2] at g2
 cases g2
 refine⟨o,?_⟩
 show gr cl a=_
 unfold gr
 rw [el,zij h3 g3]
 rfl
theorem zl6{K:kb}{st:x8}{od an:Option dm}{kV doc pm aw ct:gV}(X:K.In h)(G:h.Ns yc mg)(q:yf K yc x=some (some (.ref f)))
  (l:K.lookup f=some ⟨oc,od,.func (zh x x (gk st) (b7 st) (aU st) .none kV doc pm an aw ct),gC⟩)(c:Az K aw x=true)(k:Ai K (.ref f)=true):bh K mg x st:=⟨f,_,yz X G q,vP (st:=st) l c k⟩
theorem _root_.L2.bh.cut{cs:List dm}{K:kb}{mg:ib->Option gV}{x:ib}{st:x8}(h:bh K mg x st)(s:cy cs K):bh (az cs K) mg x st:=FL.bh.cut s h
end
end FL
namespace FL
open PySem
noncomputable def enD:List D->R (List D)
 | [.list l]=>.ok (dY 0 l)
 | _=>.bad
noncomputable def lQ(a:AF):IF:=fun ρ=>(a ρ).bind fun x=>(enD x.1).bind fun l=>.ok (l,x.2)
end FL
namespace L2
open PySem PySem.Spec PyProof.Rows
end L2
namespace FL
open PySem L2 PySem.Spec
open PyProof.Rows hiding St
theorem zfc:∀(i:Nat) (l:List D),(dY i l).length=l.length
 | _,[]=>rfl
 | i,d::r=>by rw [dY,yg,yg,zfc]
theorem zfb:∀{i:Nat} {l:List D} {j:Nat} {x:D},(dY i l)[j]?=some x->∃ d,l[j]?=some d/\x=.tuple [.int ((i+j:Nat):Int),d]
 | _,[],_,_,h=>by simp [dY] at h
 | i,d::r,0,x,h=>by
  simp only [dY,zz0,zF] at h
  exact⟨d,rfl,h.symm⟩
 | i,d::r,j+1,x,h=>by
  simp only [dY,zz1] at h
  obtain⟨d',h1,h2⟩:=zfb h
  refine⟨d',by simpa using h1,?_⟩
  rw [h2,Nat.add_assoc,Nat.add_comm 1 j]
variable {es:List o1}{k:Nat}{a t:dm}{pos:xW}{H:Hp}{X:Cx}{fa:AF}{vs:List V}{items:List D}
section
variable [Cs]{K:kb}{e e':o1}{p0 p:xW}
theorem zlJ{a b:D}{u v:V}(h0:H t=none)(fa:Fz K H a u)(fb:Fz K H b v):Fz K (upd H t (.tup [u,v])) (.tuple [a,b]) (.ref t):=by
 have m:aC H (upd H t (.tup [u,v])):=aC.of (aM.upd h0)
 simp only [Fz,aj]
 exact⟨t,[u,v],rfl,.inl bX,u,[v],rfl,fa.mono m,v,[],rfl,fb.mono m,rfl⟩
theorem zuK(h:nW K H a vs)(f:aj K H items vs):Walk K (Ite K a) (dY 0 items) H:=by
 refine⟨fun i d H' fz e=>?_,fun i H' fz e=>⟨vs,(fz.nN h).sq,by rw [f.len,<- zfc 0];exact e⟩⟩
 obtain⟨d',e',rfl⟩:=zfb e
 obtain⟨v,ev,fv⟩:=(f.mono fz).get e'
 refine⟨⟨vs,v,(fz.nN h).sq,ev⟩,fun x jR y=>?_⟩
 obtain⟨t,v',rfl,ht,rfl,hv⟩:=y
 have ex:=hv vs (fz.nN h).sq
 rw [ev] at ex
 cases ex
 refine⟨aM.upd ht,?_⟩
 rw [Ck]
 exact zlJ ht (iw _) fv
theorem zc3(hg:Gl X "enumerate") (hm:X.mg "enumerate"=none) (ha:dB K X [e] fa) (hs:pd [e] X.env=[(false,xZ e X.env)]:=by exact FL.se rfl):iT K X (.Tuple es k p0) (.Call (.Name "enumerate" p) [e] [] pos) (lQ fa):=.mk fun hK=>by
 subst hK
 refine(zrb hg hm (ha rfl) hs).weak fun σ H R=>?_
 rintro⟨ρ,rel,q⟩
 refine oH rel q fun ds ρ1 vs H1 ak aW fs q1=>?_
 obtain⟨items,ei,q2⟩:=q1.cD
 cases ds with
 | nil=>cases ei
 | cons d r =>
  cases r with
  | cons _ _=>cases d <;> cases ei
  | nil =>
   cases d with
   | list a =>
    cases ei
    simp only [aj,Fz] at fs
    obtain⟨_,_,rfl,⟨l,vs,rfl,sx,f⟩,rfl⟩:=fs
    exact⟨l,rfl,⟨vs,sx.sq⟩,q2.now ak _ (zuK sx f)⟩
   | _=>cases ei
end
end FL
namespace L2
open PySem PySem.Spec PyProof.Rows
end L2
namespace FL
open PySem L2 PySem.Spec
open PyProof.Rows hiding St
end FL
namespace PySem
open Spec
end PySem
namespace FL
open PySem L2 PySem.Spec
open PyProof.Rows hiding St
section
end
section
end
end FL
namespace L2
open PySem PySem.Spec PyProof.Rows
open PySem.SeqAt
open PySem.AutoSeq1 (wpAny_loadPart')
open PySem.MeetsSeq PySem.MeetsSeq2 PySem.MeetsSeq3
end L2
namespace FL
open PySem L2 PySem.Spec
open PyProof.Rows hiding St
end FL
namespace FL
open PySem
noncomputable def intD:D->R D
 | .bool b=>.ok (.int (if b then 1 else 0))
 | .int i=>.ok (.int i)
 | _=>.bad
end FL
namespace L2
open PySem PySem.Spec PyProof.Rows PySem.W
end L2
namespace FL
open PySem L2 PySem.Spec
open PyProof.Rows hiding St
variable {h:EF}{X:Cx}{pos:xW}{b:o1}
section
variable [Cs]
section
variable {K:kb}
theorem zju:gX X (.type "int") intD:=by
 intro pins s σ H xs us Q I r h
 obtain⟨x,dx,d,rfl,tx,e,q⟩:=h
 obtain⟨u,rfl,ru⟩:=vals1 r
 cases dx with
 | bool c =>
  have tx:Fz X.K H (.bool c) x:=tx
  simp only [Fz] at tx
  subst tx
  cases e
  cases ru
  exact PySem.call_int_bool ⟨.int _,H,I.tok _,⟨_,rfl⟩,q _ H (aM.refl _) (by simp [Fz])⟩
 | int i =>
  have tx:Fz X.K H (.int i) x:=tx
  simp only [Fz] at tx
  subst tx
  cases e
  obtain⟨t,rfl⟩:=ru
  exact PySem.call_int_int ⟨.int i,H,I,⟨t,rfl⟩,q _ H (aM.refl _) (by simp [Fz])⟩
 | _=>exact nomatch (show(R.bad:R D)=.ok d from e)
end
end
variable {k n:Nat}{p2 py pz:xW}{w:x5}{G:List D->R D}{gg:GF}{body:List x8}{tn x z:ib}{ar:List Ar}{op:zx}{T:String}{F:List D->R (D×List D)}{tg:o1}{es ifs:List o1}{bb:SF}{t:TF}{fa:AF}{it:IF}{P:x6}{base:xV}{ps:List ib}{dom:List Nat}{mg:ib->Option gV}{g:D->R D}{scope:yT}
section
variable [Cs]
section
variable {K:kb}{st:x8}{b:SF}{fr:Bool}
theorem oF(ms:List Bool)(N:List ib)(h:bh K mg x st)
  (hb:∀{f:dm} {aw:gV} {A:ya} {outer:List ye} {s:ir} {H:Hp} {E:XK},aZ k (A.deeper (yQ x (aU st) s.heap.objs.size f aw))->N.Nodup->eQ K (dC (bE P w) P w K mg base N x (aU st) f aw A outer s H E).bT (b7 st) b)
  (S:fB N ps (aU st):=by exact⟨rfl,rfl,rfl,by decide +kernel,rfl,by decide +kernel,by decide +kernel⟩)(eI:ps.length=ms.length:=by rfl)(fR:ps.length<=N.length:=by decide)
  (gL:∀(kV doc pm:gV) (an:Option dm) (aw ct:gV) (us:List gV),us.length=ps.length->Ax (zh x x (gk st) (b7 st) (aU st) .none kV doc pm an aw ct) ⟨us,[]⟩=pure (ps.zip us):=by
   first
    | exact fun _ _ _ _ _ _ us hl=>match us,hl with | [_],_=>rfl
    | exact fun _ _ _ _ _ _ us hl=>match us,hl with | [_,_],_=>rfl
    | exact fun _ _ _ _ _ _ us hl=>match us,hl with | [_,_,_],_=>rfl
    | exact fun _ _ _ _ _ _ us hl=>match us,hl with | [_,_,_,_],_=>rfl
    | exact fun _ _ _ _ _ _ us hl=>match us,hl with | [_,_,_,_,_],_=>rfl):Callee P w K mg base x (k+1) ps (mG K ms fr (FL.run ms fr N.length b)) :=
 zly ms fr h S eI fR gL fun f aw A outer s H E hr=>zc6 (hb hr S.nd)
theorem iu(N:List ib)(h:bh K mg x st)
  (hb:∀{f:dm} {aw:gV} {A:ya} {outer:List ye} {s:ir} {H:Hp} {E:XK},aZ k (A.deeper (yQ x (aU st) s.heap.objs.size f aw))->N.Nodup->eQ K (dC (bE P w) P w K mg base N x (aU st) f aw A outer s H E).bT (b7 st) b)
  (S:fB N ps (aU st):=by exact⟨rfl,rfl,rfl,by decide +kernel,rfl,by decide +kernel,by decide +kernel⟩)(fR:ps.length<=N.length:=by decide)
  (gL:∀(kV doc pm:gV) (an:Option dm) (aw ct:gV) (us:List gV),us.length=ps.length->Ax (zh x x (gk st) (b7 st) (aU st) .none kV doc pm an aw ct) ⟨us,[]⟩=pure (ps.zip us):=by
   first
    | exact fun _ _ _ _ _ _ us hl=>match us,hl with | [_],_=>rfl
    | exact fun _ _ _ _ _ _ us hl=>match us,hl with | [_,_],_=>rfl
    | exact fun _ _ _ _ _ _ us hl=>match us,hl with | [_,_,_],_=>rfl
    | exact fun _ _ _ _ _ _ us hl=>match us,hl with | [_,_,_,_],_=>rfl
    | exact fun _ _ _ _ _ _ us hl=>match us,hl with | [_,_,_,_,_],_=>rfl):Callee P w K mg base x (k+1) ps (iM K ps.length fr (bG fr ps.length N.length b)) :=
 Callee.pure (oF (xY ps.length false) N h hb S (by simp) fR gL)
end
section
variable {K:kb}{a c e:o1}{f g1 g2:EF}{p:xW}{j:Nat}
theorem a1(ha:PV K X a f)(hs:pd [a] X.env=(false,xZ a X.env)::pd [] X.env:=by exact FL.se rfl):dB K X [a] (aa f ae):=bO ha pf hs
theorem a2(ha:PV K X a f)(hb:PV K X b h)(hs:pd [a,b] X.env=(false,xZ a X.env)::pd [b] X.env:=by exact FL.se rfl)(eZ:pd [b] X.env=(false,xZ b X.env)::pd [] X.env:=by exact FL.se rfl):dB K X [a,b] (aa f (aa h ae)):=bO ha (a1 hb eZ) hs
theorem a3(ha:PV K X a f)(hb:PV K X b h)(hc:PV K X c g1)(hs:pd [a,b,c] X.env=(false,xZ a X.env)::pd [b,c] X.env:=by exact FL.se rfl)(eZ:pd [b,c] X.env=(false,xZ b X.env)::pd [c] X.env:=by exact FL.se rfl)(hs3:pd [c] X.env=(false,xZ c X.env)::pd [] X.env:=by exact FL.se rfl):dB K X [a,b,c] (aa f (aa h (aa g1 ae))):=bO ha (a2 hb hc eZ hs3) hs
variable {y:ib}
theorem fK(cc:Callee X.prog X.w X.K X.mg X.base x k ps (iM X.K n false G))(hr:aZ j X.A)(ha:dB K X (e::es) fa)(hl:kn fa n:=by repeat (first|exact uY|refine uX ?_))(hg:Gl X x:=by rfl)(hj:k<=j:=by decide)(bA:(x==("__debug__":ib))=false:=by decide)
  (he:pd (e::es) X.env=(false,xZ e X.env)::pd es X.env:=by exact FL.se rfl) (bj:(yp pos (pd es X.env)).any (·.1)=false:=by exact FL.sp rfl):PV K X (.Call (.Name x p) (e::es) [] pos) (aP G fa):=zrS cc hr hg qR ha hl hj bA he bj
theorem zhp(cc:Callee X.prog X.w X.K X.mg X.base x k ps (iM X.K n true G))(hr:aZ j X.A)(ha:dB K X (e::es) fa)(hl:kn fa n:=by repeat (first|exact uY|refine uX ?_))(hg:Gl X x:=by rfl)(hj:k<=j:=by decide)(bA:(x==("__debug__":ib))=false:=by decide)
  (he:pd (e::es) X.env=(false,xZ e X.env)::pd es X.env:=by exact FL.se rfl) (bj:(yp pos (pd es X.env)).any (·.1)=false:=by exact FL.sp rfl):bo K X (.Call (.Name x p) (e::es) [] pos) (aP G fa):=zr7 cc hr hg qR ha hl hj bA he bj
theorem cL(cc:Callee X.prog X.w X.K X.mg X.base x k ps (mG X.K (jU ar) false F))(hr:aZ j X.A)(ha:jn K X (e::es) ar)(ho:uR F (jU ar).length:=by exact zqj)(nd:(oj ar).Nodup:=by decide)(ct:om ar<=1:=by decide)(hg:Gl X x:=by rfl)(hj:k<=j:=by decide)(bA:(x==("__debug__":ib))=false:=by decide)
  (he:pd (e::es) X.env=(false,xZ e X.env)::pd es X.env:=by exact FL.se rfl) (bj:(yp pos (pd es X.env)).any (·.1)=false:=by exact FL.sp rfl):PV K X (.Call (.Name x p) (e::es) [] pos) (aA F ar):=zrT cc ho nd ct hr hg qR ha hj bA he bj
theorem cC(i:Nat)(h:jn K X es ar)(ha:PE X (.Name y py) (cV i):=by exact pv _)(hs:pd (.Name y py::es) X.env=(false,xZ (.Name y py) X.env)::pd es X.env:=by exact FL.se rfl):jn K X (.Name y py::es) (.m i::ar):=zr3 i ha h hs
theorem jd{id:String}(hc:gX X (.builtin id) g)(hm:X.mg x=none)(hv:yJ x=some (.builtin id))(ha:PV K X e f)(hg:Gl X x:=by rfl)(hn:x ≠ "__name__":=by decide) (bA:(x==("__debug__":ib))=false:=by decide)
  (he:pd [e] X.env=(false,xZ e X.env)::pd [] X.env:=by exact FL.se rfl) (bj:(yp pos (pd [] X.env)).any (·.1)=false:=by exact FL.sp rfl):PV K X (.Call (.Name x p) [e] [] pos) (e1 g f):=zc2 (zhj (gX.ds hc) hg hm hv (a1 ha he) hn bA he bj)
theorem ud(hc:gX X (.type T) g)(hm:X.mg x=none)(hv:yJ x=some (.type T))(ha:PV K X e f)(hg:Gl X x:=by rfl)(hn:x ≠ "__name__":=by decide) (bA:(x==("__debug__":ib))=false:=by decide)
  (he:pd [e] X.env=(false,xZ e X.env)::pd [] X.env:=by exact FL.se rfl) (bj:(yp pos (pd [] X.env)).any (·.1)=false:=by exact FL.sp rfl):PV K X (.Call (.Name x p) [e] [] pos) (e1 g f):=zc2 (zrU (gX.ds hc) hg hm hv (a1 ha he) hn bA he bj)
theorem zhn{id:String}(i:Nat)(hc:gX X (.builtin id) g)(hm:X.mg x=none)(hv:yJ x=some (.builtin id))(hg:Gl X x:=by rfl)(ha:PE X (.Name y py) (cV i):=by exact pv _)(hn:x ≠ "__name__":=by decide) (bA:(x==("__debug__":ib))=false:=by decide):PV K X (.Call (.Name x p) [.Name y py] [] pos) (m1 g i):=zr0 i hc hg hm hv ha hn bA
theorem qV(kt:nX T)(hm:X.mg "isinstance"=none) (iB:X.mg tn=none) (hv2:yJ tn=some (.type T)) (ha:PV K X a f) (hg:Gl X "isinstance":=by rfl) (hg2:Gl X tn:=by rfl) (hn:tn ≠ "__name__":=by decide) (hd:(tn==("__debug__":ib))=false:=by decide)
  (jB:pd [a,.Name tn p2] X.env=(false,xZ a X.env)::pd [.Name tn p2] X.env:=by exact FL.se rfl) (eZ:pd [.Name tn p2] X.env=(false,xZ (.Name tn p2) X.env)::pd [] X.env:=by exact FL.se rfl) (bj:(yp pos (pd [.Name tn p2] X.env)).any (·.1)=false:=by exact FL.sp rfl) :
  PV K X (.Call (.Name "isinstance" p) [a,.Name tn p2] [] pos) (e1 (fT T) f):=zrZ kt hg hm hg2 iB hv2 ha hn hd jB eZ bj
theorem gD(hr:aZ j X.A):bf X (yj .Eq) (rD X.K bD):=zp3 hr.units
theorem nM(hr:aZ j X.A):bf X (yj .NotEq) (rD X.K dn):=zp8 hr.units
theorem nL(hr:aZ j X.A):bf X (yj .Lt) (rD X.K fc):=zp7 hr.units
theorem uk(hr:aZ j X.A):bf X (yj .LtE) (rD X.K i9):=zp6 hr.units
theorem zhD(hr:aZ j X.A):bf X (yj .Gt) (rD X.K lK):=zp5 hr.units
theorem zsW(hr:aZ j X.A):bf X (yj .GtE) (rD X.K qt):=zp4 hr.units
theorem zhE(hr:aZ j X.A):bf X (yj .In) (rD X.K inD):=zqs (xK hr)
theorem zhC(hr:aZ j X.A):kZ X (rD X.K jt):=zmH (xK hr)
variable {g:D->D->R D}
theorem xa(ho:bf X (yj op) (rD X.K g))(ha:PV K X a f)(hb:PV K X b h)(hm:zO op b=false:=by first|exact zcI _|rfl):PV K X (.Compare a [op] [b] pos) (e2 g f h):=zrW ho ha hb hm
theorem cO(ho:bf X (yj op) (rD X.K g))(ha:PV K X a f)(hb:PV K X b h)(hm:zO op b=false:=by first|exact zcI _|rfl):eS K X (.Compare a [op] [b] pos) (tB (e2 g f h)):=zsj ho ha hb hm
theorem zhx(i:Nat)(ho:bf X (yj op) (rD X.K g))(hb:PV K X a f)(ha:PE X (.Name y py) (cV i):=by exact pv _)(hm:zO op (.Name y py)=false:=by first|exact zcI _|rfl):eS K X (.Compare a [op] [.Name y py] pos) (tB (fV g f i)):=zsk i ho hb ha hm
theorem je(i:Nat)(ho:kZ X (rD X.K g))(hb:PV K X b h)(ha:PE X (.Name y py) (cV i):=by exact pv _)(hs:uT b:=by exact fun _ _=>rfl):PV K X (.Subscript (.Name y py) b pos) (m2 g i h):=zr1 i ho ha hb hs
theorem bW(he:PV K X e f):eQ K X [.Return (some e) pos] (aG f):=fi (zsg he)
theorem cF(i:Nat)(hN:X.N.Nodup)(he:PV K X e f)(hi:X.N[i]?=some x:=by rfl)(hx:Loc X.env.scope x:=by first|exact Al rfl|exact Ab rfl)(hs:yV e (some (.Name x py)) pos.line X.env=pure false:=by rfl)(hf:X.fn x=true\/X.env.scope.names.lookup x=some .local:=by first|exact .inl rfl|exact .inr rfl|assumption):dA K X (.Assign [.Name x py] e pos) (aH (gN i) f):=zsi hN hi hx he hs hf
theorem ug(i:Nat)(hN:X.N.Nodup)(he:bo K X e f)(hi:X.N[i]?=some x:=by rfl)(hx:Loc X.env.scope x:=by first|exact Al rfl|exact Ab rfl)(hs:yV e (some (.Name x py)) pos.line X.env=pure false:=by rfl)(hf:X.fn x=true\/X.env.scope.names.lookup x=some .local:=by first|exact .inl rfl|exact .inr rfl|assumption):dA K X (.Assign [.Name x py] e pos) (dZ i f):=zse hN hi hx he hs hf
theorem bL(i:Nat)(hN:X.N.Nodup)(hi:X.N[i]?=some x:=by rfl)(hx:Loc X.env.scope x:=by first|exact Al rfl|exact Ab rfl)(hf:X.fn x=true\/X.env.scope.names.lookup x=some .local:=by first|exact .inl rfl|exact .inr rfl|assumption):il K X [i] (.Name x pos) (gN i):=zr5 hN hi hx hf
theorem zc7(i j:Nat){kt k2:Nat}{px pt jI:xW}(nd:X.N.Nodup)(ha:PV K X a f)(hb:PV K X b h)(hc:X.calm=true:=by rfl)(hi:X.N[i]?=some x:=by rfl)(hj:X.N[j]?=some y:=by rfl)(ij:i≠j:=by decide)(l1:X.env.scope.names.lookup x=some .local:=by rfl)(l2:X.env.scope.names.lookup y=some .local:=by rfl)
  (sw:BZ [.Tuple [.Name x px,.Name y py] kt pt] (.Tuple [a,b] k2 jI) X.env=pure (some [x,y]):=by rfl)(s1:BX [.Tuple [.Name x px,.Name y py] kt pt] (.Tuple [a,b] k2 jI) pos.line X.env=pure false:=by rfl)(s2:pd [a,b] X.env=(false,xZ a X.env)::pd [b] X.env:=by exact FL.se rfl)(s3:pd [b] X.env=(false,xZ b X.env)::pd [] X.env:=by exact FL.se rfl) :
  dA K X (.Assign [.Tuple [.Name x px,.Name y py] kt pt] (.Tuple [a,b] k2 jI) pos) (eN i j f h):=zsf hc nd hi hj ij l1 l2 ha hb sw s1 s2 s3
theorem uf(hi:iT K X tg e it)(hg:il K X dom tg gg)(hb:eQ K X body bb)(hp:Bq (xT X.prog X.w) X.A X.env X.xe:=by exact Ez)(hc:X.calm=true:=by rfl)(hs:∀ v,AO e X.env v=pure v:=by intro _;rfl):dA K X (.For tg e body [] pos) (dH it gg bb):=zsd hp hc hi hg hb hs
variable {elt iter ke ve:o1}{kf vf:EF}
theorem cp(L:List ib)(ix:List Nat)(M:List ib)(hi:iT K X tg iter it)(hg:∀{C:dm} {s₃:ir} {H₃:Hp} {fp:List dm},M.Nodup->il K (g8 X M scope C s₃ H₃ fp) dom tg gg)(ht:∀{C:dm} {s₃:ir} {H₃:Hp} {fp:List dm},pW K (g8 X M scope C s₃ H₃ fp) ifs t)(he:∀{C:dm} {s₃:ir} {H₃:Hp} {fp:List dm},PV K (g8 X M scope C s₃ H₃ fp) elt f)
  (hc:X.calm=true:=by rfl)(hk:scope.kind=.function:=by rfl)(ho:vz X.env.scope scope X.N ix=true:=by kernel_rfl)(hM:M=L++ix.map (fun i=>X.N.getD i ""):=by rfl) (nd:ix.Nodup:=by decide) (hMn:M.Nodup:=by decide +kernel) (hd:(dom.all fun i=>decide (i<L.length))=true:=by decide) (hs:∀ v,AO iter X.env v=pure v:=by intro _;rfl) :
  bo K X (.ListComp elt [⟨tg,iter,ifs,0⟩] scope pos) (fN L.length ix it gg t f):=zr8 L ix M hc hk ho hM nd hi (fun _ _ _ _=>hg hMn) hd (fun _ _ _ _=>ht) (fun _ _ _ _=>he) hs
end
abbrev CT(x:ib)(k:Nat)(ps:List ib)(n:Nat)(fr:Bool)(G:List D->R D)(P:x6)(w:x5)(K:kb)(mg:ib->Option gV)(base:xV):Prop:=Callee P w K mg base x k ps (iM K n fr G)
abbrev pL(x:ib)(k:Nat)(ps:List ib)(ms:List Bool)(fr:Bool)(F:List D->R (D×List D))(P:x6)(w:x5)(K:kb)(mg:ib->Option gV)(base:xV):Prop:=Callee P w K mg base x k ps (mG K ms fr F)
end
end FL
namespace FL
open PySem
noncomputable def pX(ds:List D):AF:=fun ρ=>.ok (ds,ρ)
end FL
namespace L2
open PySem PySem.Spec
variable {X:Cx}
end L2
namespace FL
open PySem L2 PySem.Spec
open PyProof.Rows hiding St
section
variable [Cs]
end
section
variable [Cs]
theorem bZ.none{K:kb}{ρ ρ':En}{σ:L2.St}{H H':Hp}{a:dm}(s:bZ ρ ρ' σ H H')(r:Rel K ρ' σ H')(h:H' a=none):H a=none:=by
 cases e:H a with
 | none=>rfl
 | some o =>
  by_cases m:MA ρ σ a
  ·obtain⟨o',e',_⟩:=r.fe (s.ma.mp m)
   rw [h] at e';cases e'
  ·rw [s.kp a o e m] at h;cases h
end
variable {v:Option V}{tc:TF}{σ:L2.St}{X:Cx}{x:ib}{i:Nat}{c e:o1}{s:SF}{pos py:xW}{dom:List Nat}{f:EF}
section
variable [Cs]
def nV(dom:List Nat)(σ σ':L2.St):Prop:=∀ i,i∉dom->σ'[i]?=σ[i]?
theorem nV.refl:nV dom σ σ:=fun _ _=>rfl
theorem nV.set(h:i∈dom):nV dom σ (σ.set i v):=fun j hj=>yL fun z=>hj (by subst z;exact h)
noncomputable def EFr(dom:List Nat)(σ:L2.St)(Dn:Ends):Ends:={ nx:=fun σ' H'=>nV dom σ σ'->Dn.nx σ' H',rt:=Dn.rt,bk:=fun σ' H'=>nV dom σ σ'->Dn.bk σ' H',ct:=fun σ' H'=>nV dom σ σ'->Dn.ct σ' H' }
noncomputable def tSf(K:kb)(C:SC)(dom:List Nat)(f:SF):TS:=fun Dn σ H=>tS K C f (EFr dom σ Dn) σ H
def rJ(K:kb)(X:Cx)(dom:List Nat)(st:x8)(f:SF):Prop:=X.K=K->∀ C,PS X st (tSf K C dom f)
def uS(K:kb)(X:Cx)(dom:List Nat)(st:List x8)(f:SF):Prop:=X.K=K->∀ C,bJ X st (tSf K C dom f)
section
variable {K:kb}{st:x8}{rest:List x8}{t:SF}
theorem zrE:uS K X dom [] aS:=fun _ C=>zc1.weak fun Dn σ H=>by
 rintro⟨ρ,rel,g⟩
 exact g σ H rel (aC.refl H) .refl
theorem zrF(h1:rJ K X dom st s):uS K X dom [st] s:=fun hK C=>qT (h1 hK C)
theorem zrC{a b:List x8}(hc:eS K X c tc)(ha:uS K X dom a s)(hb:uS K X dom b t):rJ K X dom (.If c a b pos) (aQ tc s t):=fun hK C=>(zcZ (hc hK) (ha hK C) (hb hK C)).weak fun Dn σ H=>by
 rintro⟨ρ,rel,g⟩
 refine zbI rel g fun cb ρ1 H1 ak fz g1=>?_
 cases cb with
 | true=>exact lV ⟨ρ1,ak,g1⟩
 | false=>exact lU ⟨ρ1,ak,g1⟩
theorem zrG(i:Nat)(hN:X.N.Nodup)(he:PV K X e f)(hd:i∈dom:=by decide)(hi:X.N[i]?=some x:=by rfl)(hx:Loc X.env.scope x:=by first|exact Al rfl|exact Ab rfl)(hs:yV e (some (.Name x py)) pos.line X.env=pure false:=by rfl)(hf:X.fn x=true\/X.env.scope.names.lookup x=some .local:=by first|exact .inl rfl|exact .inr rfl|assumption) :
  rJ K X dom (.Assign [.Name x py] e pos) (aH (gN i) f):=fun hK C=>(o9 hN hi hx (he hK) hs hf).weak fun Dn σ H=>by
 rintro⟨ρ,rel,q⟩
 refine i3 rel q fun d ρ1 v H1 ak aW fz q1=>?_
 obtain⟨ρ2,e2,q2⟩:=q1.bM
 obtain⟨rfl,n,hl⟩:=sA e2
 exact q2 _ H1 (ak.chg (ak.rel.set fz fun _ _ _ z=>nomatch z) (rX n hl)) (aC.refl H1) (.set hd)
end
open Classical in
noncomputable def zvl(Z:dm->Prop)(H:Hp):Hp:=fun b=>if Z b then(match H b with|some (.frz _ u)=>some u|z=>z) else H b
end
variable {vs:List V}{a:o1}{H H':Hp}{fa:AF}{d:D}{ks:List (Option String)}{p:Bool}{es:List o1}
section
noncomputable def eh:Option String->D->Sl
 | none,d=>.val d
 | some c,.tuple fs=>.ob c fs
 | some _,_=>.no
noncomputable def uv(ks:List (Option String))(fr:Bool)(n:Nat)(b:SF)(ds:List D):R D :=
 if ds.length=ks.length then(b (zb eh ks ds++xY (n-ds.length) .no)).bind fun x=>match x.1,fr with
  | .rt d,false=>.ok d
  | .rf d,true=>.ok d
  | .nx,false=>.ok .none
  | _,_=>.bad
 else .bad
section
variable [Cs]{K:kb}
noncomputable def jl(K:kb)(H:Hp):List (Option String)->List D->List V->Prop
 | [],[],vs=>vs=[]
 | k::ks,d::ds,vs=>∃ v r,vs=v::r/\iV K H (eh k d) (some v)/\jl K H ks ds r
 | _,_,_=>False
theorem ztI(k:Option String)(d:D)(p:Bool)(e:D):eh k d≠.ow p e:=by
 unfold eh
 split <;> exact fun z=>nomatch z
theorem jl.len:∀{ks:List (Option String)} {ds:List D} {vs:List V},jl K H ks ds vs->vs.length=ks.length/\ds.length=ks.length
 | [],[],vs,h=>by cases h;exact⟨rfl,rfl⟩
 | k::ks,d::ds,vs,h=>by
  obtain⟨v,r,rfl,s,t⟩:=h
  have:=jl.len t
  simp [this.1,this.2]
 | [],_::_,_,h=>h.elim
 | _::_,[],_,h=>h.elim
theorem jl.get:∀{ks:List (Option String)} {ds:List D} {vs:List V} {i:Nat} {x:Sl} {v:Option V},jl K H ks ds vs->(zb eh ks ds)[i]?=some x->(vs.map some)[i]?=some v->iV K H x v
 | [],[],vs,i,x,v,h,e,_=>by simp at e
 | k::ks,d::ds,vs,0,x,v,h,e1,e2=>by
  obtain⟨u,r,rfl,s,t⟩:=h
  simp at e1 e2
  subst e1;subst e2
  exact s
 | k::ks,d::ds,vs,i+1,x,v,h,e1,e2=>by
  obtain⟨u,r,rfl,s,t⟩:=h
  simp only [List.zipWith_cons_cons,zz1,yi] at e1 e2
  exact jl.get t e1 e2
 | [],_::_,_,_,_,_,h,_,_=>h.elim
 | _::_,[],_,_,_,_,h,_,_=>h.elim
theorem zdt{ds:List D}:(zb eh ks ds)[i]?≠some (.ow p d):=fun e=>by
 rw [List.getElem?_zipWith] at e
 split at e
 ·exact ztI _ _ _ _ (yN e)
 ·cases e
theorem zgi:∀{ns:List ib} {vs:List V} {j:Nat} {f:ib} {v:V},ns.Nodup->ns[j]?=some f->vs[j]?=some v->(ns.zip vs).lookup f=some v
 | n::ns,u::vs,0,f,v,_,h1,h2=>by
  simp at h1 h2
  subst h1;subst h2
  simp [ym]
 | n::ns,u::vs,j+1,f,v,hn,h1,h2=>by
  simp only [zz1] at h1 h2
  rw [z0] at hn
  have ne:(f==n)=false:=by
   simp only [beq_eq_false_iff_ne]
   exact fun z=>hn.1 (z▸zg h1)
  rw [zu,ym,ne]
  exact zgi hn.2 h1 h2
 | [],_,_,_,_,_,h,_=>by simp at h
 | _::_,[],_,_,_,_,_,h=>by simp at h
theorem zhK{ds:List D}(cst:h9 H)(f:jl K H ks ds vs):Rel K (zb eh ks ds) (vs.map some) H :=
 ⟨by rw [FO,yn,f.len.1,f.len.2,EA],fun i x v e1 e2=>f.get e1 e2,fun i j a ⟨⟨p,d,e⟩,_⟩=>absurd e zdt,cst⟩
noncomputable def tAO(K:kb)(ks:List (Option String))(f:AF):TA:=fun σ H Q=>∃ ρ,Rel K ρ σ H/\Good K ρ σ H (f ρ) fun ds _ H'=>∀ vs,jl K H' ks ds vs->Q vs H'
def mO(K:kb)(X:Cx)(ks:List (Option String))(es:List o1)(f:AF):Prop:=X.K=K->PA X es (tAO K ks f)
theorem wU:mO K X [] [] ae:=fun _=>jH.weak fun σ H Q=>by
 rintro⟨ρ,rel,q⟩
 exact q.now rel [] rfl
theorem nF(ha:PV K X a f)(hr:mO K X ks es fa)(hs:pd (a::es) X.env=(false,xZ a X.env)::pd es X.env:=by exact FL.se rfl):mO K X (none::ks) (a::es) (aa f fa):=fun hK=>(gQ (ha hK) (hr hK) hs).weak fun σ H Q=>by
 rintro⟨ρ,rel,q⟩
 refine eE rel q fun dx ρ1 x H1 ak aW fx q1=>?_
 obtain⟨y,ey,q2⟩:=q1.bM
 refine⟨ρ1,ak,?_⟩
 rw [ey]
 intro H2 cP du vs fs
 exact(q2.step du).now cP _ ⟨x,vs,rfl,fx.mono (du.dO ak),fs⟩
end
end
variable {k:Nat}{G:List D->R D}{ns ps:List ib}{E:XK}{c:String}{px:xW}{fd:yq}
section
section
variable [Cs]{K:kb}
section
variable {j:Nat}{m:ib}{apos:xW}{C f:dm}
noncomputable def spI(K:kb)(c:String)(C:dm)(n:Nat)(G:List D->R D):Sp:=fun vs H Q _=>∃ a dx us ds fs,vs=.ref a::us/\us.length=n/\H a=some (.ins C dx [])/\h9 H/\aj K H ds us/\G ds=.ok (.tuple fs) /\
 ∀ H',(∀ b o,b≠a->H b=some o->H' b=some o)->pS K H' a c fs->Q .non H'
end
end
end
variable {Ca:dm}{w:x5}{C:SC}{sts:List x8}{P:x6}{base:xV}{mg:ib->Option gV}{g:AF}
section
noncomputable def Tf:HO->Prop
 | .tup _=>True
 | .frz _ _=>True
 | _=>False
def pR(H H':Hp):Prop:=∀ a o,H a=some o->Tf o->H' a=some o
section
variable {K:kb}
mutual
theorem Fz.gO(e:pR H H'):∀(d:yk) (v:V),Fz K H d v->Fz K H' d v
 | .none,v,h=>by simp only [Fz] at h ⊢;exact h
 | .bool b,v,h=>by simp only [Fz] at h ⊢;exact h
 | .int i,v,h=>by simp only [Fz] at h ⊢;exact h
 | .str x,v,h=>by simp only [Fz] at h ⊢;exact h
 | .list xs,v,h=>by
  simp only [Fz] at h ⊢
  obtain⟨a,vs,e1,h1,h2⟩:=h
  refine⟨a,vs,e1,?_,aj.gO e xs vs h2⟩
  rcases h1 with⟨o,h1⟩|h1
  ·exact .inl ⟨o,e _ _ h1 trivial⟩
  ·exact .inr h1
 | .tuple xs,v,h=>by
  simp only [Fz] at h ⊢
  obtain⟨a,vs,e1,h1,h2⟩:=h
  refine⟨a,vs,e1,?_,aj.gO e xs vs h2⟩
  rcases h1 with h1|⟨o,h1⟩
  ·exact .inl (e _ _ h1 trivial)
  ·exact .inr ⟨o,e _ _ h1 trivial⟩
 | .dict ah,v,h=>by
  simp only [Fz] at h ⊢
  obtain⟨a,o,e1,h⟩:=h
  obtain⟨kk,h1,h2⟩:=h
  exact⟨a,o,e1,⟨kk,e _ _ h1 trivial,bq.gO e ah kk h2⟩⟩
theorem aj.gO(e:pR H H'):∀(ds:List yk) (vs:List V),aj K H ds vs->aj K H' ds vs
 | [],vs,h=>by simp only [aj] at h ⊢;exact h
 | d::ds,vs,h=>by
  simp only [aj] at h ⊢
  obtain⟨v,r,e1,h1,h2⟩:=h
  exact⟨v,r,e1,Fz.gO e d v h1,aj.gO e ds r h2⟩
theorem bq.gO(e:pR H H'):∀(ah:List (yk×yk)) (kk:List (List Key×V)),bq K H ah kk->bq K H' ah kk
 | [],kk,h=>by simp only [bq] at h ⊢;exact h
 | (k,d)::r,kk,h=>by
  simp only [bq] at h ⊢
  obtain⟨q,v,t,e1,e2,h1,h2⟩:=h
  exact⟨q,v,t,e1,e2,Fz.gO e d v h1,bq.gO e r t h2⟩
end
end
section
variable [Cs]{K:kb}{ρ ρ':En}
theorem zlL{a dx:dm}{fs dj:List (ib×V)}(h:H a=some (.ins Ca dx fs)):pR H (upd H a (.ins Ca dx dj)):=fun b o e t=>by
 rw [aT fun z=>by subst z;rw [h] at e;cases e;exact t]
 exact e
def Part(Ca:dm)(n:Nat):Prop:=∀ c ns,Cs.O c=some (Ca,ns)->n<ns.length
theorem Rel.ins{a Ca dx:dm}{fs dj:List (ib×V)}(r:Rel K ρ σ H)(h:H a=some (.ins Ca dx fs))(np:Part Ca fs.length):Rel K ρ σ (upd H a (.ins Ca dx dj)):=by
 have fw:pR H (upd H a (.ins Ca dx dj)):=zlL h
 refine⟨r.len,fun i x v e1 e2=>?_,r.sep,fun b u e=>?_⟩
 ·have o:=r.ok i x v e1 e2
  cases x with
  | no=>trivial
  | val d=>cases v with
   | none=>exact o.elim
   | some v=>exact Fz.gO fw d v o
  | ow p d=>cases v with
   | none=>exact o.elim
   | some v=>cases v with
    | ref b =>
     have ne:b≠a:=fun z=>by
      obtain⟨u,hu,ow⟩:=cY.own o
      subst z
      rw [h] at hu
      cases hu
      exact ow
     cases d with
     | list ds=>obtain⟨vs,h1,h2⟩:=o;exact⟨vs,by rw [aT ne];exact h1,aj.gO fw _ _ h2⟩
     | dict ah =>
      obtain⟨kk,h1,h2⟩:=o
      exact⟨kk,by rw [aT ne];exact h1,bq.gO fw _ _ h2⟩
     | _=>exact o.elim
    | _=>exact o.elim
  | ob c ds=>cases v with
   | none=>exact o.elim
   | some v=>cases v with
    | ref b =>
     rcases o with⟨C',ns,dx',vs,h1,h2,h3,h4⟩|⟨C',dd,h2,hO,ns,vs,h1,h3,h5,h4⟩
     ·have ne:b≠a:=fun z=>by
       subst z
       rw [h] at h2
       cases h2
       have:=np c ns h1
       rw [List.length_zip,h3,EA] at this
       exact Bl _ this
      exact .inl ⟨C',ns,dx',vs,h1,by rw [aT ne];exact h2,h3,aj.gO fw _ _ h4⟩
     ·have ne:∀ b u,H b=some u->(∀ C dx fs,u≠.ins C dx fs)->b≠a:=fun b u q z y=>by
       subst y
       rw [h] at q
       cases q
       exact z _ _ _ rfl
      refine .inr ⟨C',dd,by rw [aT (ne _ _ h2 (fun _ _ _ z=>nomatch z))];exact h2,hO,ns,vs,h1,h3,?_,aj.gO fw _ _ h4⟩
      cases dd with
      | none=>exact h5
      | some dx'=>exact(aT (ne _ _ h5 (fun _ _ _ z=>nomatch z))).trans h5
    | _=>exact o.elim
 ·obtain⟨o,xs,rfl⟩:=Cs.st b u e
  exact fw b _ (r.cst b _ e) trivial
noncomputable def rg(K:kb)(Ca:dm)(i:Nat)(ns:List ib)(fa:AF):TS:=fun Dn σ H=>∃ ρ a dx fs ds ρ',Rel K ρ σ H/\σ[i]?=some (some (.ref a))/\H a=some (.ins Ca dx fs)/\(∀ n∈ns,fs.lookup n=none)/\ns.Nodup/\fs.length+ns.length<1000/\(∀ c dq,Cs.O c=some (Ca,dq)->dq.length=fs.length+ns.length)/\fa ρ=.ok (ds,ρ') /\
 ∀ σ' H' vs,aj K H' ds vs->H' a=some (.ins Ca dx (fs++ns.zip vs))->(∀ b o,b≠a->H b=some o->¬ MA ρ σ b->H' b=some o)->Dn.nx σ' H'
theorem zhi{f:ib}{v:V}:∀{fs:List (ib×V)},fs.lookup f=none->fW f v fs=fs++[(f,v)]
 | [],_=>rfl
 | (g,x)::r,h=>by
  rw [ym] at h
  have ne:(f==g)=false:=by
   cases q:f==g with
   | false=>rfl
   | true=>rw [q] at h;cases h
  rw [ne] at h
  unfold fW
  rw [if_neg fun z=>by subst z;simp at ne,zhi h]
  rfl
theorem zq5:bJ X [] (rg K Ca i [] ae):=zc1.weak fun Dn σ H=>by
 rintro⟨ρ,a,dx,fs,ds,ρ',rel,hs,ha,_,_,_,_,ef,q⟩
 cases ef
 exact q σ H [] (by simp [aj]) (by simpa using ha) fun b o _ e _=>e
theorem zq4{n self:ib}{rest:List x8}{pa:xW}(hK:X.K=K)(hc:mK K Ca)(na:eO K Ca n)(hv:PE X (.Name self px) (cV i))(he:PV K X e f)(hr:bJ X rest (rg K Ca i ns fa))(hs:yV e (some (.Attribute (.Name self px) n pa)) pos.line X.env=pure false:=by rfl) :
  bJ X (.Assign [.Attribute (.Name self px) n pa] e pos::rest) (rg K Ca i (n::ns) (aa f fa)):=by
 subst hK
 refine(qS (zrq hv (he rfl) hs) hr).weak fun Dn σ H=>?_
 rintro⟨ρ,a,dx,fs,ds,ρ',rel,hsg,ha,hn,nd,hlen,hO,ef,q⟩
 obtain⟨x,ex,ef⟩:=b6 (show(f ρ).bind _=_ from ef)
 obtain⟨y,ey,ef⟩:=b6 ef
 cases ef
 obtain⟨d,ρ1⟩:=x
 refine⟨ρ,rel,?_⟩
 rw [ex]
 intro H1 ak aW v fz
 have j6:∀ b o,H b=some o->uU o->¬ MA ρ σ b:=fun b o e s m=>by
  obtain⟨u,hu,ow⟩:=rel.fe m
  rw [e] at hu
  cases hu
  exact ow.ja s
 have ha1:H1 a=some (.ins Ca dx fs):=aW.kp a _ ha (j6 a _ ha trivial)
 have ln:fs.lookup n=none:=hn n (yM ..)
 have hp:=zhi (v:=v) ln
 rw [z0] at nd
 rw [yg] at hlen
 refine⟨.ref a,hsg,a,Ca,dx,fs,rfl,ha1,hc,na,by omega,?_⟩
 rw [hp]
 have part:Part Ca fs.length:=fun c dq e=>by
  have:=hO c dq e
  rw [yg] at this
  omega
 refine⟨ρ1,a,dx,fs++[(n,v)],y.1,y.2,ak.ins ha1 part,hsg,bX,fun m hm=>?_,nd.2,by rw [zH];simp;omega,fun c dq e=>?_,ey,fun σ' H' vs fv ea kp=>?_⟩
 ·have ne:(m==n)=false:=by
   simp only [beq_eq_false_iff_ne]
   exact fun z=>nd.1 (z▸hm)
  rw [List.lookup_append,hn m (yK _ hm)]
  simp [ym,ne]
 ·rw [hO c dq e,zH];simp;omega
 ·have k1:∀ b o,b≠a->H1 b=some o->¬ MA ρ1 σ b->H' b=some o:=fun b o ne e n=>kp b o ne (by rw [aT ne];exact e) n
  have fw:pR H1 H':=fun b o e t=>k1 b o (fun z=>by subst z;rw [ha1] at e;cases e;exact t) e fun m=>by
   obtain⟨u,hu,ow⟩:=ak.fe m
   rw [e] at hu
   cases hu
   cases o <;> first|exact ow|exact t
  refine q σ' H' (v::vs) (by simp only [aj];exact⟨v,vs,rfl,Fz.gO fw d v fz,fv⟩) ?_ fun b o ne e nm=>k1 b o ne (aW.kp b o e nm) fun m=>nm (aW.ma.mpr m)
  rw [ea,zu,Ec]
  rfl
noncomputable def xm(s:SF)(g:AF):AF:=fun ρ=>(s ρ).bind fun x=>match x.1 with
 | .nx=>g x.2
 | _=>.bad
noncomputable def rh(K:kb)(C:SC)(Ca:dm)(ns:List ib)(g:AF):TS:=fun Dn σ H=>∃ ρ a dx ds ρ',bH K C ρ σ H/\σ[0]?=some (some (.ref a))/\C.H₀ a=some (.ins Ca dx [])/\¬ MA C.ρ₀ C.σ₀ a/\ns.Nodup/\ns.length<1000/\(∀ c dq,Cs.O c=some (Ca,dq)->dq.length=ns.length)/\g ρ=.ok (ds,ρ') /\
 ∀ σ' H' vs,aj K H' ds vs->H' a=some (.ins Ca dx (ns.zip vs))->(∀ b o,b≠a->C.H₀ b=some o->¬ MA C.ρ₀ C.σ₀ b->H' b=some o)->Dn.nx σ' H'
theorem zrH(h:bJ X sts (rg K Ca 0 ns fa)):bJ X sts (rh K C Ca ns fa):=h.weak fun Dn σ H=>by
 rintro⟨ρ,a,dx,ds,ρ',rel,hs,ha,nm,nd,hl,hO,eg,q⟩
 refine⟨ρ,a,dx,[],ds,ρ',rel.rel,hs,rel.keep a _ ha nm,fun n _=>rfl,nd,by simpa using hl,fun c dq e=>by simpa using hO c dq e,eg,fun σ' H' vs fv ea kp=>q σ' H' vs fv (by simpa using ea) fun b o ne e n=>?_⟩
 exact kp b o ne (rel.keep b o e n) (rel.wK e n)
theorem zhf{st:x8}{rest:List x8}(hK:X.K=K)(h1:rJ K X dom st s)(h2:bJ X rest (rh K C Ca ns g))(hd:0∉dom:=by decide):bJ X (st::rest) (rh K C Ca ns (xm s g)):=(qS (h1 hK C) h2).weak fun Dn σ H=>by
 rintro⟨ρ,a,dx,ds,ρ',rel,hs,ha,nm,nd,hl,hO,eg,q⟩
 obtain⟨x,ex,eg⟩:=b6 (show(s ρ).bind _=_ from eg)
 obtain⟨fl,ρ1⟩:=x
 cases fl with
 | nx =>
  refine⟨ρ,rel,?_⟩
  rw [ex]
  intro σ' H' r fz fm
  exact⟨ρ1,a,dx,ds,ρ',r,(fm 0 hd).trans hs,ha,nm,nd,hl,hO,eg,q⟩
 | _=>cases eg
end
noncomputable def xh(n N m:Nat)(g:AF)(ds:List D):R D :=
 if ds.length=n then(g (.no::(ds.map Sl.val++xY (N-n-1) .no))).bind fun y=>bc (y.1.length==m) (.ok (.tuple y.1)) else .bad
section
variable [Cs]{K:kb}
theorem zlA{q:ib}{st:x8}{f:dm}{N:List ib}{n:Nat}(ho:Cs.O c=some (Ca,ns))(sV:∀ c' dq,Cs.O c'=some (Ca,dq)->dq.length=ns.length)(nd:ns.Nodup)(qB:ns.length<1000)(h:dw K x q st f fd)(S:fB N ps (aU st))(eI:ps.length=n+1)(fR:ps.length<=N.length)
  (hb:∀(C:SC) (aw:gV) (A:ya) (outer:List ye) (s:ir) (H:Hp) (E:XK),aZ k (A.deeper (yQ q (aU st) s.heap.objs.size f aw))->bJ (dC (bE P w) P w K mg base N q (aU st) f aw A outer s H E) (b7 st) (rh K C Ca ns g)) :
  bU P w K mg base (bE P w) (k+1) f fd ps (spI K c Ca n (xh n N.length ns.length g)):=by
 refine h.qO S (fun vs H Q E ⟨a,dx,us,ds,fs,e,hl,_⟩=>by rw [e,yg,hl,eI]) fun aw A outer s H vs Q E hr hq=>?_
 obtain⟨a,dx,us,ds,fs,rfl,hl,ha,cst,fa,hF,q⟩:=hq
 have hd:ds.length=n:=by rw [<- fa.len,hl]
 unfold xh at hF
 rw [if_pos hd] at hF
 obtain⟨y,ey,hF⟩:=b6 hF
 have hy:y.1.length=ns.length/\y.1=fs:=by
  unfold bc at hF
  split at hF
  ·rename_i hh
   cases hF
   exact⟨beq_iff_eq.mp hh,rfl⟩
  ·cases hF
 obtain⟨hyl,rfl⟩:=hy
 obtain⟨vD,ρ'⟩:=y
 have b8:L2.start N (.ref a::us)=some (.ref a)::(us.map some++xY (N.length-n-1) none):=by
  unfold L2.start
  rw [yg,hl,yi,yX,show N.length-(n+1)=N.length-n-1 by omega]
 have no:∀(i:Nat) p d,(Sl.no::(ds.map Sl.val++xY (N.length-n-1) .no))[i]?≠some (.ow p d):=fun i p d e=>by
  rcases yr.mp (zg e) with m|m
  ·cases m
  ·rcases Au.mp m with m|m
   ·obtain⟨_,_,z⟩:=zM.mp m;cases z
   ·have:=FP m;cases this
 have j6:∀ σ b,¬ MA (Sl.no::(ds.map Sl.val++xY (N.length-n-1) .no)) σ b:=fun σ b ⟨i,⟨p,d,z⟩,_⟩=>no i p d z
 have r0:=(zdc cst fa).pad (N.length-n-1)
 refine⟨rh K ⟨H,L2.start N (.ref a::us),Sl.no::(ds.map Sl.val++xY (N.length-n-1) .no)⟩ Ca ns g,hb _ aw A outer s H E hr,Sl.no::(ds.map Sl.val++xY (N.length-n-1) .no),a,dx,vD,ρ',?_,by rw [b8];rfl,ha,j6 _ a,nd,qB,sV,ey,fun σ' H' vs fv e kp=>?_⟩
 ·refine⟨?_,fun a o e _=>e,fun i a d e _=>absurd e (no i false d),fun i=>BL,fun i d e=>rfl,fun i p d e=>absurd e (no i p d)⟩
  rw [b8]
  refine⟨by simpa using r0.len,fun i x v e1 e2=>?_,fun i j b ⟨⟨p,d,z⟩,_⟩=>absurd z (no i p d),cst⟩
  cases i with
  | zero=>simp at e1;subst e1;trivial
  | succ i=>exact r0.ok i x v (by simpa using e1) (by simpa using e2)
 ·refine q H' (fun b o ne e=>kp b o ne e (j6 _ b)) ⟨Ca,ns,dx,vs,ho,e,?_,fv⟩
  rw [fv.len]
  exact hyl
end
end
end FL
namespace L2
open PySem PySem.Spec
open PySem.Builtin.Str (strSub)
variable {X:Cx}
end L2
namespace FL
open PySem L2 PySem.Spec
open PyProof.Rows hiding St
section
variable [Cs]
end
section
variable [Cs]
end
end FL
namespace L2
open PySem PySem.Spec
variable {X:Cx}{e:o1}{te:TE}{pos:xW}
end L2
namespace FL
open PySem L2 PySem.Spec
open PyProof.Rows hiding St
variable [Cs]
end FL
namespace L2
open PySem PySem.Spec
variable {X:Cx}
end L2
namespace FL
open PySem L2 PySem.Spec
open PyProof.Rows hiding St
section
variable [Cs]
end
section
variable [Cs]
end
end FL
namespace L2
open PySem PySem.Spec PyProof.Rows
end L2
namespace FL
open PySem L2 PySem.Spec
open PyProof.Rows hiding St
end FL
namespace L2
open PySem PySem.Spec PyProof.Rows PySem.W
end L2
namespace FL
open PySem L2 PySem.Spec
open PyProof.Rows hiding St
end FL
namespace L2
open PySem PySem.Spec PyProof.Rows PySem.W
variable {u:gV}{k:WK}{prog:x6}{v:V}{C Q:Bool->ir->Prop}{w:x5}{σ:L2.St}{X:Cx}{A:ya}{E:gV->ir->Prop}{H:Hp}{s:ir}{pins:List (dm×xU)}
section
def rK(H:Hp)(k:WK)(v:V):Prop:=∃ b j ws,v=.ref b/\k.2=[j]/\dU H b (.int k.1::.int j::ws)
noncomputable def iU(H:Hp):List WK->List V->Prop
 | [],vs=>vs=[]
 | k::ks,vs=>∃ v t,vs=v::t/\rK H k v/\iU H ks t
theorem iU.len{H:Hp}:∀{ks:List WK} {vs:List V},iU H ks vs->vs.length=ks.length
 | [],vs,h=>by have:vs=[]:=h;subst this;rfl
 | k::ks,vs,h=>by obtain⟨v,t,rfl,_,h2⟩:=h;simp [iU.len h2]
theorem iU.get{H:Hp}:∀{ks:List WK} {vs:List V} {i:Nat} {v:V},iU H ks vs->vs[i]?=some v->rK H (ks.getD i (0,[])) v
 | [],vs,i,v,h,e=>by have:vs=[]:=h;subst this;simp at e
 | k::ks,vs,i,v,h,e=>by
  obtain⟨u,t,rfl,h1,h2⟩:=h
  cases i with
  | zero=>simp at e;subst e;exact h1
  | succ i=>simpa using iU.get h2 (i:=i) (by simpa using e)
section
variable {b fin:Bool}
theorem zli(p:gV)(h:Q true s):xS (xT prog w) A (eqBool p p) Q E s:=by
 unfold eqBool
 refine zC ?_
 rw [if_pos (beq_self_eq_true p)]
 exact lb (C0 (xX h))
theorem zfU(h:Q fin s):∀(l:List gV) (i:Nat),KatLex prog w A b fin Q (l.zip l) i s
 | [],_=>kat_nil h
 | p::r,i=>kat_cons (zli p (kat_yes (zfU h r (i+1))))
end
section
theorem zcV(I:Inv X pins σ H s)(h:rK H k v)(r:RelV v u) :
  ∃ b o n0 j,∃(tk tj:yS) (rest:List gV),v=.ref b/\u=.ref b/\s.heap.get? b=some o/\o.cls=.type "tuple"/\o.data=.seq (.int k.1 tk::.int j tj::rest).toArray n0/\k.2=[j]:=by
 obtain⟨b,j,ws,rfl,hj,h1⟩:=h
 cases r
 obtain⟨its,rv,⟨o,ho,hc,n,hd⟩,_⟩:=I.tuple (.inl h1)
 cases rv with
 | cons r1 rv =>
  cases rv with
  | cons r2 rv =>
   obtain⟨tk,rfl⟩:=r1
   obtain⟨tj,rfl⟩:=r2
   exact⟨b,o,n,j,tk,tj,_,rfl,rfl,ho,hc,hd,hj⟩
theorem zqD(I:Inv X pins σ H s){k':WK}{v':V}{u':gV}(h:rK H k v)(h':rK H k' v')(r:RelV v u)(r':RelV v' u')(hu:k=k'->v=v')
  (q:C (fU k k') s):xS (xT X.prog X.w) X.A (keyLt' (tuples' true) u u') C E s:=by
 obtain⟨b,o,n0,j,tk,tj,rest,hv,rfl,ho,hc,hd,hj⟩:=zcV I h r
 obtain⟨b',o',n0',j',tk',tj',ztn,hv',rfl,eX,jx,gM,lO⟩:=zcV I h' r'
 refine kat_lt ho hd eX gM ?_
 unfold fU at q
 by_cases e1:k.1=k'.1
 ·rw [if_pos e1,hj,lO] at q
  by_cases e2:j=j'
  ·have ek:k=k':=by
    obtain⟨x,y⟩:=k
    obtain⟨x',y'⟩:=k'
    simp only at e1 hj lO
    rw [e1,hj,lO,e2]
   have ev:=hu ek
   rw [hv,hv'] at ev
   cases ev
   rw [ho] at eX
   cases eX
   rw [hd] at gM
   have el:(A8 k.1 tk::.int j tj::rest)=(.int k'.1 tk'::.int j' tj'::ztn):=by
    injection gM with h1 h2
    simpa using h1
   rw [<- el]
   rw [show HT.lexLt [j] [j']=false by rw [e2];simp [HT.lexLt]] at q
   refine zfU ?_ _ _
   simpa using q
  ·rw [show HT.lexLt [j] [j']=decide (j<j') by simp [HT.lexLt,e2]] at q
   refine kat_cons (CW ?_)
   rw [show(k.1==k'.1)=true from by simpa using e1]
   refine kat_yes (kat_cons (CW ?_))
   rw [show(j==j')=false from by simpa using e2]
   exact kat_no (kat_one _ _ (lt_int q))
 ·rw [if_neg e1] at q
  refine kat_cons (CW ?_)
  rw [show(k.1==k'.1)=false from by simpa using e1]
  exact kat_no (oneLt_int q)
end
end
variable {us:List gV}{xs:List V}{kd:List WK}{n0:Nat}{d:dm}{α:Type}{P:PySem.Fin->ir->Prop}
section
theorem zpE{l:List α}(h:l.Nodup){i j:Nat}(hi:i<l.length)(hj:j<l.length)(e:l[i]=l[j]):i=j:=by
 rcases Nat.lt_trichotomy i j with c|c|c
 ·exact absurd e (Ex.mp h i j hi hj c)
 ·exact c
 ·exact absurd e.symm (Ex.mp h j i hj hi c)
section
variable {a:dm}
theorem zhV(I:Inv X pins σ H s)(ho:s.heap.get? a=some (zq "list" us.toArray n0)) (hf:gH X pins H a) (rv:Vals xs us) (hl:us.length<64) (pk:iU H kd xs) (nd:kd.Nodup)
  (hQ:∀(p:Array Nat) (s':ir),Arr us.length p->Up (jF kd) p us.length->Inv X pins σ (upd H a (.lst (p.toList.map fun i=>xs.getD i .non))) s'->P (.done (.ret .none)) s') :
  xS (xT X.prog X.w) X.A (zJ.«list.sort» ⟨[.ref a],[]⟩) P E s:=by
 have qD:=rv.length
 have hkl:=pk.len
 have s1:=BM s.heap a (yZ fun _=>(#[]:Array gV))
 obtain⟨e1,ho1⟩:∃ e1,(s.heap.update a (yZ fun _=>(#[]:Array gV))).get? a=some (zq "list" #[] e1):=⟨_,DE ho fun _=>#[]⟩
 rw [list_sort_plain]
 refine lb (listItems_at ho rfl ?_)
 refine lb (CP ho rfl ?_ (by rw [yv,zf];omega) (zr _))
 refine lb (seqEpoch_at ho1 rfl ?_)
 refine lb (wpAny_newTuple ?_ (by show us.length<=_;rw [zf];omega))
 refine lb (EB ?_ (zr _))
 refine zC ?_
 have I1:Inv X pins σ H { s with heap:=s.heap.update a (yZ fun _=>(#[]:Array gV)) }:=I.turned (t':=s.toks) (fun b o hb e=>(s1.2 b hb).trans e) hf.1 hf.2.1 hf.2.2.2.1 hf.2.2.2.2.1 hf.2.2.2.2.2
 have k2:∀ b u,(s.heap.update a (yZ fun _=>(#[]:Array gV))).get? b=some u->(((s.heap.update a (yZ fun _=>(#[]:Array gV))).push (zq "tuple" us.toArray 0)).push (zq "list" #[] 0)).get? b=some u:=fun b u e=>yh _ (yh _ e)
 have I2:Inv X pins σ H { s with heap:=((s.heap.update a (yZ fun _=>(#[]:Array gV))).push (zq "tuple" us.toArray 0)).push (zq "list" #[] 0) }:=I1.kept (t':=s.toks) k2
 have fJ:=k2 a _ ho1
 generalize (((s.heap.update a (yZ fun _=>(#[]:Array gV))).push (zq "tuple" us.toArray 0)).push (zq "list" #[] 0))=h2' at I2 fJ ⊢
 have fin:∀ p:Array Nat,Arr us.length p->Up (jF kd) p us.length->P (.done (.ret .none)) { s with heap:=h2'.update a (yZ fun _=>Ao (p.toList.map fun i=>us.getD i yF)) }:=fun p ar up=>by
  have t2:=BM h2' a (yZ fun _=>Ao (p.toList.map fun i=>us.getD i yF))
  obtain⟨c2,iy⟩:∃ c2,(h2'.update a (yZ fun _=>Ao (p.toList.map fun i=>us.getD i yF))).get? a=some (zq "list" (Ao (p.toList.map fun i=>us.getD i yF)) c2):=⟨_,DE fJ fun _=>Ao (p.toList.map fun i=>us.getD i yF)⟩
  have eI:p.size=us.length:=ar.sz
  refine hQ p _ ar up (I2.adopt (t':=s.toks) (fun b u hb e=>(t2.2 b hb).trans e) hf ?_)
  have mem:∀ i∈p.toList,i<us.length:=fun i hi=>by
   have:=(DC.mp ar.pm).mem_iff.mp hi
   simpa using this
  exact⟨by rw [yn,BV,eI,zf];omega,p.toList.map fun i=>us.getD i yF,c2,zii p.toList rv mem,iy⟩
 have osz:∀ p:Array Nat,Arr us.length p->(Ao (p.toList.map fun i=>us.getD i yF)).size=us.length:=fun p ar=>by rw [yv,yn,BV,ar.sz]
 dsimp only
 by_cases h2:us.toArray.size<2
 ·rw [if_pos h2,if_pos h2]
  rw [yv] at h2
  refine lb (xX ?_)
  rw [StateT.run_pure]
  refine lb (xX ?_)
  dsimp only
  have up:Up (jF kd) (Ao (zN us.length)) us.length:=fun i j dX hj=>by
   have:i=j:=by omega
   subst this
   exact(zgR kd).refl _
  have har:(arrOf (SortSt.mk' general' (us.toArray.zip us.toArray) #[] 7 none)).map (·.2)=Ao ((Ao (zN us.length)).toList.map fun i=>us.getD i yF):=by
   show((us.toArray.zip us.toArray).map (·.2))=_
   apply Array.toList_inj.mp
   rw [Array.toList_map,ksk_zip]
   simp only [FN]
   rw [List.map_snd_zip (by omega)]
   apply List.ext_getElem (by simp)
   intro i h3 h4
   simp [AY,yC h3]
  rw [har]
  refine lb (seqEpoch_at fJ rfl ?_)
  refine lb (CP fJ rfl ?_ (zr _) (yx (Cz (osz _ (zd0 _))) (by rw [zf];omega)))
  simp only [bne_self_eq_false,yG,if_false]
  exact xX (fin _ (zd0 _) up)
 ·rw [if_neg h2,if_neg h2]
  rw [yv] at h2
  have fY:∀{ks:List WK} {kv:List V} {ds:List gV},iU H ks kv->Vals kv ds->∃ fs:List gV,KatTups h2' ds fs/\fs.length=ds.length/\∀ v∈fs,∃ i t,v=A8 i t:=by
   intro ks
   induction ks with
   | nil=>intro kv ds h r;have:kv=[]:=h;subst this;cases r;exact⟨[],.nil,rfl,fun v hv=>by simp at hv⟩
   | cons k r0 ih =>
    intro kv ds h r
    obtain⟨v,t,rfl,h1,h2⟩:=h
    cases r with
    | cons r1 r2 =>
     obtain⟨fs,t1,t2,t3⟩:=ih h2 r2
     obtain⟨b,o,n0,j,tk,tj,rest,_,rfl,g1,g2,g3,_⟩:=zcV I2 h1 r1
     refine⟨.int k.1 tk::fs,.cons g1 g2 g3 rfl t1,by simp [t2],fun v hv=>?_⟩
     rcases yr.mp hv with rfl|hv
     ·exact⟨_,_,rfl⟩
     ·exact t3 v hv
  obtain⟨fs,kt,lfs,hfs⟩:=fY pk rv
  refine lb (kat_kind (T:=.type "int") kt (by omega) (fun v hv=>by obtain⟨i,t,rfl⟩:=hfs v hv;exact Looks.of_pure rfl) (by decide) ?_)
  rw [show((BR "int" != BR "tuple"):Bool)=true from by decide]
  refine lb (yA (kat_run (E:=E) (vs:=us) (ks:=us) (κ:=tuples' true) (Q:=fun iN s2=>s2={ s with heap:=h2' }/\∃ p:Array Nat,Arr us.length p/\Up (jF kd) p us.length/\arrOf iN=p.map (kas_item (us.toArray.zip us.toArray))/\failedOf iN=none) rfl (by omega) hl
   (G:=fun p s2=>s2={ s with heap:=h2' }/\Arr us.length p/\Up (jF kd) p us.length) (fun p iN s2 a1 a2 a3 a4=>⟨a4.1,p,a4.2.1,a4.2.2,a2,a3⟩) ?_) ?_ fun _ _ z=>z)
  ·refine ztW (P:=fun s2=>s2={ s with heap:=h2' }) (zgR kd) (fun i j C s2 hi hj es hC=>?_) (by omega) rfl fun p s2 es ar up=>⟨es,ar,up⟩
   subst es
   have sP:∀ i,i<us.length->∃ v u,xs[i]?=some v/\RelV v u/\us.getD i yF=u:=fun i hi=>by
    have iA:i<xs.length:=by omega
    obtain⟨u,eu,ru⟩:=rv.get (yC iA)
    exact⟨_,u,yC iA,ru,by rw [AY,eu];rfl⟩
   obtain⟨v,u,g1,g2,g3⟩:=sP i hi
   obtain⟨v',u',g1',g2',g3'⟩:=sP j hj
   show xS _ _ (keyLt' (tuples' true) (us.getD i yF) (us.getD j yF)) _ _ _
   rw [g3,g3']
   refine zqD I2 (pk.get g1) (pk.get g1') g2 g2' (fun ek=>?_) (hC _ rfl)
   have iA:i<kd.length:=by omega
   have lO:j<kd.length:=by omega
   rw [AY,AY,yC iA,yC lO] at ek
   have:i=j:=zpE nd iA lO ek
   subst this
   rw [g1] at g1'
   exact yN g1'
  ·rintro⟨⟨⟩,iN⟩ s2 ⟨es,p,ar,up,har,hfl⟩
   have mX:s2={ s with heap:=h2' }:=es
   subst mX
   dsimp only
   rw [kat_snds rfl har]
   refine lb (seqEpoch_at fJ rfl ?_)
   refine lb (CP fJ rfl ?_ (zr _) (yx (Cz (osz p ar)) (by rw [zf];omega)))
   rw [hfl]
   simp only [bne_self_eq_false,yG,if_false]
   exact xX (fin p ar up)
end
end
variable {Q:VK}
section
section
theorem zjJ(I:Inv X pins σ H s)(sq:bV X.K H d xs)(hn:xs.length<64)(pk:iU H kd xs)(nd:kd.Nodup)
  (hq:∀(p:Array Nat) (a:dm),Arr xs.length p->Up (jF kd) p xs.length->H a=none->Q (.ref a) (upd H a (.lst (p.toList.map fun i=>xs.getD i .non)))) :
  xS (xT X.prog X.w) X.A (call (.builtin "sorted") [.ref d]) (EP X pins σ Q) E s:=by
 obtain⟨us,rv,p,hz⟩:=I.list sq
 have qD:=rv.length
 refine FQ kind_sorted plain_sorted entry_sorted (args_sorted1 _) ?_
 unfold zJ.«sorted»
 refine lb (m:=checkCount "sorted" 1 1 _) (xX ?_)
 refine lb (collect_list p.isList ?_ (by rw [<- rv.length];exact hz))
 have keep:∀ b o,s.heap.get? b=some o->((s.heap.push (zq "list" #[] 0)).update s.heap.objs.size (yZ (·++us.toArray))).get? b=some o:=fun b o e =>
  ((BM ..).2 b (yI (yo e))).trans (yh _ e)
 generalize (s.heap.push (zq "list" #[] 0)).update s.heap.objs.size (yZ (·++us.toArray))=h1 at keep ⊢
 have I1:Inv X pins σ H { s with heap:=h1 }:=I.kept (t':=s.toks) keep
 refine lb (EB ?_ (by rw [zf];omega))
 have oK:(h1.push (zq "list" us.toArray 0)).get? h1.objs.size=some (zq "list" us.toArray 0):=yY _ rfl
 have I2:Inv X pins σ H { s with heap:=h1.push (zq "list" us.toArray 0) }:=I1.kept (s:={ s with heap:=h1 }) (t':=s.toks) fun b u e=>yh _ e
 have fa:gH X pins H h1.objs.size:=I1.oG (x9 _) (I1.ax.fresh (x9 _))
 refine lb (zC (Bz slot_list_sort ⟨_,oK,rfl⟩ entry_list_sort ?body (args_list_sort _)))
 case body =>
  show xS (xT X.prog X.w) X.in1.in1.A (zJ.«list.sort» ⟨[.ref h1.objs.size],[]⟩) _ _ _
  refine zhV (X:=X.in1.in1) I2.in1.in1 oK fa rv (by omega) pk nd fun p s' ar up I3=>⟨_,rfl,?_⟩
  exact xX ⟨_,rfl,.ref h1.objs.size,_,I3.qP.qP,rfl,hq p _ (by rw [qD];exact ar) (by rw [qD];exact up) fa.1⟩
theorem zjI(hc:X.calm=true)(I:Inv X pins σ H s)(rd:uO H d)(hn:∀ xs,rn H d xs->xs.length<64)
  (h:∀ xs,rn H d xs->∃ kd,iU H kd xs/\kd.Nodup/\∀(p:Array Nat) (a:dm),Arr xs.length p->Up (jF kd) p xs.length->H a=none->Q (.ref a) (upd H a (.lst (p.toList.map fun i=>xs.getD i .non)))) :
  xS (xT X.prog X.w) X.A (call (.builtin "sorted") [.ref d]) (EP X pins σ Q) E s:=by
 refine FQ kind_sorted plain_sorted entry_sorted (args_sorted1 _) ?_
 unfold zJ.«sorted»
 refine lb (m:=checkCount "sorted" 1 1 _) (xX ?_)
 refine lb (zjX (show X.A.in1.handled=none from I.ok.hd hc) I rd (fun xs h=>Nat.lt_trans (hn xs h) (by decide)) fun xs us s1 dk rv I1=>?_)
 have hx:=hn xs dk
 have qD:=rv.length
 obtain⟨kd,pk,nd,hq⟩:=h xs dk
 refine lb (EB ?_ (by rw [zf];omega))
 have oK:(s1.heap.push (zq "list" us.toArray 0)).get? s1.heap.objs.size=some (zq "list" us.toArray 0):=yY _ rfl
 have I2:Inv X pins σ H { s1 with heap:=s1.heap.push (zq "list" us.toArray 0) }:=I1.kept (t':=s1.toks) fun b u e=>yh _ e
 have fa:gH X pins H s1.heap.objs.size:=I1.oG (x9 _) (I1.ax.fresh (x9 _))
 refine lb (zC (Bz slot_list_sort ⟨_,oK,rfl⟩ entry_list_sort ?body (args_list_sort _)))
 case body =>
  show xS (xT X.prog X.w) X.in1.in1.A (zJ.«list.sort» ⟨[.ref s1.heap.objs.size],[]⟩) _ _ _
  refine zhV (X:=X.in1.in1) I2.in1.in1 oK fa rv (by omega) pk nd fun p s' ar up I3=>⟨_,rfl,?_⟩
  exact xX ⟨_,rfl,.ref s1.heap.objs.size,_,I3.qP.qP,rfl,hq p _ (by rw [qD];exact ar) (by rw [qD];exact up) fa.1⟩
end
end
end L2
namespace FL
open PySem L2 PySem.Spec
open PyProof.Rows hiding St
variable {X:Cx}{H:Hp}
section
noncomputable def o8:D->Option WK
 | .tuple (.int i::.int j::_)=>some (i,[j])
 | _=>none
noncomputable def j8:List D->Option (List WK)
 | []=>some []
 | d::r=>(o8 d).bind fun k=>(j8 r).map (k::·)
noncomputable def zcp:D->R (List D)
 | .list l=>.ok l
 | .dict ah=>.ok (ah.map (·.1))
 | _=>.bad
noncomputable def uA(d:D):R D:=(zcp d).bind fun ks=>bc (leB (ks.length+1) 64) ((R.of (j8 ks)).bind fun ws=>bc (decide ws.Nodup) (.ok (.list ((nh (ws.zip ks)).map (·.2)))))
section
variable [Cs]{K:kb}
theorem zg5:∀{ks:List D} {ws:List WK},j8 ks=some ws->ws.length=ks.length
 | [],ws,h=>by cases h;rfl
 | d::r,ws,h=>by
  unfold j8 at h
  cases e:o8 d with
  | none=>rw [e] at h;cases h
  | some k =>
   rw [e] at h
   cases e2:j8 r with
   | none=>rw [e2] at h;cases h
   | some t=>rw [e2] at h;cases h;simp [zg5 e2]
theorem zcY:∀{ks:List D} {ws:List WK} {xs:List V},j8 ks=some ws->aj K H ks xs->iU H ws xs
 | [],ws,xs,h,f=>by cases h;simp only [aj] at f;exact f
 | d::r,ws,xs,h,f=>by
  unfold j8 at h
  cases e:o8 d with
  | none=>rw [e] at h;cases h
  | some k =>
   rw [e] at h
   cases e2:j8 r with
   | none=>rw [e2] at h;cases h
   | some t =>
    rw [e2] at h
    cases h
    simp only [aj] at f
    obtain⟨v,xr,rfl,fv,fr⟩:=f
    refine⟨v,xr,rfl,?_,zcY e2 fr⟩
    unfold o8 at e
    split at e
    ·cases e
     simp only [Fz,aj] at fv
     obtain⟨b,vs,rfl,tb,v1,r1,rfl,rfl,v2,r2,rfl,rfl,_⟩:=fv
     exact⟨b,_,r2,rfl,rfl,tb⟩
    ·cases e
theorem zjz(hc:X.calm=true):gG X (.builtin "sorted") (uo X.K (one uA)):=by
 intro pins s σ H xs us Q I r h
 obtain⟨ds,d,fa,e,q⟩:=h
 match ds,fa,e with
 | [x],fa,e =>
  simp only [aj] at fa
  obtain⟨v,_,rfl,fv,rfl⟩:=fa
  obtain⟨u,rfl,ru⟩:=vals1 r
  obtain⟨ks,ek,e⟩:=b6 (show(zcp x).bind _=.ok d from e)
  obtain⟨cl,e⟩:=gi e
  obtain⟨ws,ew,e⟩:=b6 e
  obtain⟨cn,e⟩:=gi e
  cases e
  have ew':=zcR ew
  have hlen:=lY cl
  have nd:ws.Nodup:=of_decide_eq_true cn
  have wl:=zg5 ew'
  have fin:∀(ys:List V),aj X.K H ks ys->∀(p:Array Nat) (a:dm),Arr ys.length p->Up (jF ws) p ys.length->H a=none->∃ b vs,V.ref a=.ref b/\H b=none/\upd H a (.lst (p.toList.map fun i=>ys.getD i .non))=upd H b (.lst vs)/\aj X.K H ((nh (ws.zip ks)).map (·.2)) vs:=fun ys fy p a ar up ha=>by
   have yl:=fy.len
   refine⟨a,_,rfl,ha,rfl,?_⟩
   rw [<- ztV wl nd (by rw [<- yl];exact ar) (by rw [<- yl];exact up)]
   refine fy.pick p.toList fun i hi=>?_
   have:=(DC.mp ar.pm).mem_iff.mp hi
   rw [<- yl]
   simpa using this
  have go:xS (xT X.prog X.w) X.A (call (.builtin "sorted") [u]) (EP X pins σ fun v H1=>∃ b vs,v=.ref b/\H b=none/\H1=upd H b (.lst vs)/\aj X.K H ((nh (ws.zip ks)).map (·.2)) vs) X.xe s:=by
   cases x with
   | list l =>
    cases ek
    simp only [Fz] at fv
    obtain⟨a,ys,rfl,sx,fy⟩:=fv
    cases ru
    exact zjJ I sx.sq (by rw [fy.len];omega) (zcY ew' fy) nd (fin ys fy)
   | dict ah =>
    cases ek
    have fv':=fv
    simp only [Fz] at fv'
    obtain⟨a,o,rfl,_⟩:=fv'
    cases ru
    exact zjI hc I (zlG fv) (fun ys dk=>by rw [(zaV fv dk).len];exact hlen) fun ys dk=>⟨ws,zcY ew' (zaV fv dk),nd,fin ys (zaV fv dk)⟩
   | _=>cases ek
  refine aN go fun w s' z=>?_
  obtain⟨v,H1,I1,rv,b,vs,rfl,hb,rfl,fz⟩:=z
  exact zbw fz q ⟨_,_,I1,rv,b,rfl,hb,rfl⟩
 | [],_,e=>exact nomatch (show(R.bad:R D)=.ok d from e)
 | _::_::_,_,e=>exact nomatch (show(R.bad:R D)=.ok d from e)
end
end
section
end
end FL
namespace FL
open PySem L2 PySem.Spec PySem.W
variable {f n:ib}{c t:gV}{C ns:dm}{p:ClassData->Bool}{cs:List dm}{r:Option gV}
section
section
variable {K:kb}
theorem wM(s:cy cs K){name:ib}(e:nsIn K ns name=some r):nsIn (az cs K) ns name=some r:=by
 unfold nsIn at e ⊢
 split at e
 ·rename_i c d es n sl ho
  rw [gz s ho fun _ _ z=>nomatch z]
  exact e
 ·cases e
theorem zqC(s:cy cs K){name:ib}(e:ownIn K name c=some r):ownIn (az cs K) name c=some r:=by
 cases c with
 | ref a =>
  unfold ownIn at e ⊢
  simp only at e ⊢
  split at e
  ·rename_i x y cd sl ho
   rw [gz s ho fun _ _ z=>nomatch z]
   exact wM s e
  ·cases e
 | _=>exact e
theorem zdW(s:cy cs K){name:ib}:∀{l:List gV} {r:Option gV},alongIn K name l=some r->alongIn (az cs K) name l=some r
 | [],r,e=>e
 | c::l,r,e=>by
  unfold alongIn at e ⊢
  cases h:ownIn K name c with
  | none=>rw [h] at e;cases e
  | some o =>
   rw [h] at e
   rw [zqC s h]
   cases o with
   | some v=>exact e
   | none=>exact zdW s e
theorem ju(s:cy cs K){name:ib}(e:findIn K t name=some r):findIn (az cs K) t name=some r:=by
 cases t with
 | ref a =>
  unfold findIn at e ⊢
  simp only at e ⊢
  split at e
  ·rename_i x y cd sl ho
   rw [gz s ho fun _ _ z=>nomatch z]
   exact zdW s e
  ·cases e
 | _=>exact e
theorem zrj(s:cy cs K)(e:plainGet K C n=true):plainGet (az cs K) C n=true:=by
 unfold plainGet at e ⊢
 rw [yw] at e ⊢
 exact⟨by rw [ju s (eq_of_beq e.1)];decide,by rw [ju s (eq_of_beq e.2)];rfl⟩
theorem qi(s:cy cs K)(e:(clsIn K C).any p=true):(clsIn (az cs K) C).any p=true:=by
 unfold clsIn at e ⊢
 split at e
 ·rename_i x y cd sl ho
  rw [gz s ho fun _ _ z=>nomatch z]
  exact e
 ·cases e
theorem mK.cut(s:cy cs K)(h:mK K C):mK (az cs K) C:=⟨zrj s h.pg,qi s h.hd,qi s h.po,ju s h.sa⟩
theorem eO.cut(s:cy cs K)(h:eO K C f):eO (az cs K) C f:=ju s h
end
end
variable {fd:yq}{b oc:gV}{a f:dm}{sl:Array (Option gV)}{o:xU}{od:Option dm}
section
section
variable {K:kb}
theorem xI(s:cy cs K)(l:K.lookup a=some o)(n:∀ its m,o.data≠.seq its m)(e:typeIn K (.ref a)=some t):typeIn (az cs K) (.ref a)=some t:=by
 unfold typeIn at e ⊢
 simp only at e ⊢
 rw [gz s l n]
 rw [l] at e
 exact e
theorem zhX(s:cy cs K)(l:K.lookup a=some o)(n:∀ its m,o.data≠.seq its m){name:ib}(e:specialIn K (.ref a) name=some r):specialIn (az cs K) (.ref a) name=some r:=by
 obtain⟨t,e1,e2⟩:=zU.mp e
 exact zU.mpr ⟨t,xI s l n e1,ju s e2⟩
theorem nQ(s:cy cs K){r:Bool}(e:subIn K t b=some r):subIn (az cs K) t b=some r:=by
 cases t with
 | ref D =>
  unfold subIn mroIn at e ⊢
  simp only at e ⊢
  obtain⟨cd,e1,e2⟩:=zU.mp e
  refine zU.mpr ⟨cd,?_,e2⟩
  unfold clsIn at e1 ⊢
  split at e1
  ·rename_i x y cd' sl ho
   rw [gz s ho fun _ _ z=>nomatch z]
   exact e1
  ·cases e1
 | _=>exact e
theorem zmv(s:cy cs K)(l:K.lookup a=some o)(n:∀ its m,o.data≠.seq its m){r:Bool}(e:instIn K (.ref a) b=some r):instIn (az cs K) (.ref a) b=some r:=by
 obtain⟨t,e1,e2⟩:=zU.mp e
 exact zU.mpr ⟨t,xI s l n e1,nQ s e2⟩
theorem zcm(s:cy cs K)(l:K.lookup f=some o)(n:∀ its m,o.data≠.seq its m)(e:isFn K (.ref f)=true):isFn (az cs K) (.ref f)=true:=by
 unfold isFn at e ⊢
 rw [xI s l n (eq_of_beq e)]
 decide
theorem znp(s:cy cs K)(e:keepIn K (.ref f)=true):keepIn (az cs K) (.ref f)=true:=by
 unfold keepIn at e ⊢
 simp only at e ⊢
 split at e
 ·rename_i ho
  rw [gz s ho fun _ _ z=>nomatch z]
 ·rename_i ho
  rw [gz s ho fun _ _ z=>nomatch z]
  simp only
  rw [zhX s ho (fun _ _ z=>nomatch z) (eq_of_beq e)]
  decide
 ·cases e
theorem zpv(s:cy cs K)(e:makesIn K C=true):makesIn (az cs K) C=true:=by
 unfold makesIn at e ⊢
 split at e
 ·rename_i x y cd sl ho
  rw [gz s ho fun _ _ z=>nomatch z]
  simp only [yw] at e ⊢
  obtain⟨⟨e1,e2⟩,e3⟩:=e
  refine⟨⟨e1,?_⟩,?_⟩
  ·rw [zhX s ho (fun _ _ z=>nomatch z) (eq_of_beq e2)];decide
  ·rw [zmv s ho (fun _ _ z=>nomatch z) (eq_of_beq e3)];decide
 ·cases e
theorem Mk.cut(s:cy cs K)(l:K.lookup f=some ⟨oc,od,.func fd,sl⟩)(h:Mk K C f):Mk (az cs K) C f :=
 ⟨zpv s h.makes,ju s h.init,zcm s l (fun _ _ z=>nomatch z) h.fn,znp s h.kp⟩
end
end
end FL
namespace FL
open PySem L2 PySem.Spec
open PyProof.Rows hiding St
section
def ziv(ρ0 ρ1:En)(d:D)(it j:Nat)(dead dom:List Nat):Prop :=
 (∀(i:Nat) x,ρ1[i]?=some x->i=it\/i=j\/i∈dead\/x=.no\/(∃ c,x=.val c/\ρ0[i]?=some (.val c)/\i∉dom)\/∃(p:Bool) (ns:List Int),x=.ow p (.list (ns.map yy))) /\
 (∀(i:Nat) p c,i=it\/i=j\/i∈dead->ρ1[i]?≠some (.ow p c))/\j<ρ1.length/\(∀ i∈dead,i<ρ1.length) /\
 ∃ rows:List (List (List Int)),d=.list (rows.map fun r=>.list (r.map fun q=>.tuple (q.map yy)))
noncomputable def kill(ks:List Nat)(ρ:En):En:=ρ.mapIdx fun i x=>if i∈ks then .no else x
noncomputable def zbt(ρ:En)(d:D)(it j:Nat)(dead:List Nat):En:=(kill (it::dead) ρ).set j (.val d)
open Classical in
noncomputable def zvg(f:EF)(it j:Nat)(dead dom:List Nat)(t:SF)(ρ0:En):SF:=fun ρ=>(f ρ).bind fun y=>if ziv ρ0 y.2 y.1 it j dead dom then t (zbt y.2 y.1 it j dead) else .bad
def LL(d:D):Prop:=∃ rows:List (List D),d=.list (rows.map zG)
open Classical in
noncomputable def zvj(it:Nat)(f:EF)(g:En->SF):SF:=fun ρ=>(f ρ).bind fun y=>if LL y.1 then(gN it y.1 y.2).bind fun ρ1=>g ρ ρ1 else .bad
variable [Cs]
end
variable {X:Cx}{x:ib}{e:o1}{p pos:xW}{f:EF}
section
variable [Cs]
section
variable {K:kb}
theorem zr9(hm:X.mg x=none)(hv:yJ x=some (.type "list")) (ha:PV K X e f) (hg:Gl X x:=by rfl) (hn:x ≠ "__name__":=by decide) (bA:(x==("__debug__":ib))=false:=by decide)
  (he:pd [e] X.env=(false,xZ e X.env)::pd [] X.env:=by exact FL.se rfl) (bj:(yp pos (pd [] X.env)).any (·.1)=false:=by exact FL.sp rfl):bo K X (.Call (.Name x p) [e] [] pos) (e1 iG f):=.mk fun hK=>by
 subst hK
 refine(zgV zjH hg hm hv (gQ (ha rfl) jH he) hn bA he bj).weak fun σ H Q=>?_
 rintro⟨ρ,rel,q⟩
 refine eE rel q fun dx ρ1 v H1 ak aW fx q1=>?_
 obtain⟨d,ed,q2⟩:=q1.cD
 have key:∃ a ys l,v=.ref a/\(bV X.K H1 a ys\/eB X.K H1 a ys)/\aj X.K H1 l ys/\d=.list l:=by
  cases dx with
  | list l =>
   obtain⟨a,ys,e1,e2,e3⟩:=fx.tp.lst
   cases ed
   exact⟨a,ys,l,e1,.inl e2,e3,rfl⟩
  | tuple l =>
   obtain⟨a,ys,e1,e2,e3⟩:=fx.tp.tup
   cases ed
   exact⟨a,ys,l,e1,.inr e2,e3,rfl⟩
  | _=>exact nomatch (show(R.bad:R D)=.ok d from ed)
 obtain⟨a,ys,l,rfl,hs,fa,rfl⟩:=key
 exact⟨a,ys,rfl,hs,fun b hb=>q2.new ak (aM.upd hb) b (aW.none ak hb) ⟨ys,bX,fa.mono (aC.of (aM.upd hb))⟩⟩
end
end
variable {G:List D->R D}{C:dm}{i:Nat}{nr ns ps:List ib}{fa:AF}{pa:xW}{c:String}{n' self:ib}{ks:List (Option String)}{dom:List Nat}{es:List o1}
section
structure Ob[Cs](K:kb)(c:String)(C:dm)(ns:List ib):Prop where
 o:Cs.O c=some (C,ns)
 c:mK K C
 na:∀ f∈ns,eO K C f
 nd:ns.Nodup
def Maker[Cs](P:x6)(w:x5)(K:kb)(mg:ib->Option gV)(base:xV)(x:ib)(c:String)(k:Nat)(ps:List ib)(n:Nat)(G:List D->R D):Prop :=
 ∃(C f:dm) (fd:yq),mg x=some (.ref C)/\Mk K C f/\Binds K fd ps []/\bU P w K mg base (bE P w) k f fd ps (spI K c C n G)
section
variable [Cs]{K:kb}{f:ib}{px pos':xW}{k j n:Nat}
theorem zrD{st:x8}:rJ K X dom st dG:=fun _ C=>zhc.weak fun Dn σ H=>by
 rintro⟨ρ,rel,g⟩
 exact g.elim
theorem zg2{f:EF}{rest:List x8}(B:Ob K c C ns)(hK:X.K=K)(hn:n'∈ns)(he:PV K X e f)(hr:bJ X rest (rg K C i nr fa))(hv:PE X (.Name self px) (cV i):=by exact pv _)(hs:yV e (some (.Attribute (.Name self px) n' pa)) pos.line X.env=pure false:=by rfl) :
  bJ X (.Assign [.Attribute (.Name self px) n' pa] e pos::rest) (rg K C i (n'::nr) (aa f fa)):=zq4 hK B.c (B.na n' hn) hv he hr hs
end
abbrev CTI[Cs](x:ib)(c:String)(k:Nat)(ps:List ib)(n:Nat)(G:List D->R D)(P:x6)(w:x5)(K:kb)(mg:ib->Option gV)(base:xV):Prop:=Maker P w K mg base x c k ps n G
end
section
end
end FL
namespace L2
open PySem PySem.Spec PyProof.Rows
variable {args:List o1}{ab hdct:Bool}{prog:x6}{dd:Option dm}{fI:dm}{Q:Flow->ir->Prop}{w:x5}{col:Option Bool}{h:xV}{env:ye}{M:AJ}{A:ya}{sn:List ib}{x:Sem gV}{t:Nat}{E:gV->ir->Prop}{d:Drawn}{lz:List gV}{s:ir}{g:Array GenState}{oI:xU}{mN:ib->Option gV}
section
variable {nm q:ib}{C N:dm}{bs bm gh:List gV}{sub:List gV}{k0 k1 k2 k3 k5:Option gV}{B Bn newId nid zck lR:String}
theorem ztd(lL:bm.contains (.type "BaseException")=true) (hh:A.handled=none)
  (h:xS M A x (fun v s₁=>∃ e o,v=.ref e/\s₁.heap.get? C=some (BH nm q C N bs bm hdct sn sub ab col dd k0 k1 k2 k3 k5 newId)/\s₁.heap.get? e=some o/\o.cls=.ref C/\(∃ vs,o.data=.fields vs/\vs[1]?=some .none)/\E (.ref e) s₁) E s) :
  xS M A (raiseStmt env (some x) none) Q E s:=by
 have hcB:(yt C::bm).contains (.type "BaseException")=true:=by rw [List.contains_cons,lL,Bool.or_true]
 unfold raiseStmt
 refine lb (yA h (fun v s₁ h₁=>?_) fun _ _ x=>x)
 obtain⟨e,o,rfl,hC,he,hc,⟨vs,hd,hv⟩,hE⟩:=h₁
 obtain⟨c0,d0,dat,sl⟩:=o
 simp only at hc hd
 subst hc hd
 obtain⟨hp,g,d,tk,os⟩:=s₁
 repeat (first|with_reducible refine CU he ?_|with_reducible refine CU hC ?_|(with_reducible refine wpAny_isSubtype_exc hC ?_;rw [hcB])|wp_step)
 rw [hv]
 refine xX ?_
 rw [if_neg (by decide)]
 exact xX (wpAny_raiseNew_none hh hE)
section
variable {os:OsState}
theorem zuC(Fn:Bg Bn newId lR lz)(jW:gh.contains (.type Bn)=true)(F:Bg B nid zck gh)(T:OwnTail h gh bm){rest:List gV}{Q:PySem.Fin->ir->Prop}
  (hC:h.get? C=some (BH nm q C N bs bm hdct sn sub ab col dd k0 k1 k2 k3 k5 newId))(hn:h.Ns N mN)(hi:mN "__init__"=some (.ref fI)) (sM:h.get? fI=some oI) (sN:oI.cls=.type "function")
  (hq:∀ h' e,EC h h' e (.ref C) rest->xS (xT prog w) A (call (.ref fI) (.ref e::rest)) (fun r s'=>r=.none/\Q (.done (.ret (.ref e))) s') E ⟨h',g,d,t,os⟩) (hrest:rest.length<=yb:=by size_fits) :
  xS (xT prog w) A (zJ.«type.__call__» ⟨.ref C::rest,[]⟩) Q E ⟨h,g,d,t,os⟩:=by
 repeat (first|with_reducible refine CU hC ?_|with_reducible refine wpAny_madeBy_exc hC ?_|wp_step)
 refine codeAny_call_builtin_code (Code.quiet_builtin _ Fn.quiet) (wpAny_check_new_subU Fn jW T hC ?_)
 refine codeAny_exc_new_subU Fn jW F T hC ?_ hrest
 show xS _ _ _ _ _ _
 have hC₁:=yh { cls:=.ref C,data:=.fields #[.ref h.objs.size,.none,.none,.none,.bool false,.none] }
  (yh { cls:=.type "tuple",data:=.seq rest.toArray } hC)
 have zmd:=yh { cls:=.ref C,data:=.fields #[.ref h.objs.size,.none,.none,.none,.bool false,.none] }
  (yh { cls:=.type "tuple",data:=.seq rest.toArray } sM)
 have hn₁:((h.push { cls:=.type "tuple",data:=.seq rest.toArray }).push { cls:=.ref C,data:=.fields #[.ref h.objs.size,.none,.none,.none,.bool false,.none] }).Ns N mN :=
  let⟨o,es,ep,e,r⟩:=hn;⟨o,es,ep,yh _ (yh _ e),r⟩
 have sP:((h.push { cls:=.type "tuple",data:=.seq rest.toArray }).push
   { cls:=.ref C,data:=.fields #[.ref h.objs.size,.none,.none,.none,.bool false,.none] }).get? (h.objs.size+1)=some
   { cls:=.ref C,data:=.fields #[.ref h.objs.size,.none,.none,.none,.bool false,.none] }:=by heap_get
 have hcC:(yt C::bm).contains (.ref C)=true:=by simp
 have T₁:=T.keeps (h':=(h.push { cls:=.type "tuple",data:=.seq rest.toArray }).push { cls:=.ref C,data:=.fields #[.ref h.objs.size,.none,.none,.none,.bool false,.none] })
  fun b o e=>yh _ (yh _ e)
 unfold Dm
 repeat (first|with_reducible refine CU sP ?_|(with_reducible refine wpAny_isSubtype_exc hC₁ ?_;rw [hcC])|wp_step)
 show xS _ _ (typeLookup (.ref C) _) _ _ _
 refine wpAny_typeLookup_tail hC₁ hn₁ T₁ F.mroIs F.init.lookup ?_
 rw [hi]
 refine zC (lb ?_)
 unfold bindSpecial
 refine lb (Cb (T:="function") ⟨_,zmd,sN⟩ ?_)
 rw [if_pos (by decide)]
 refine xX (lb (yA (hq _ (h.objs.size+1) ⟨fun b o hb=>yh _ (yh _ hb),Ag (Nat.le_succ _),h.objs.size,sP,Ag (x9 _),?_⟩) (fun r s' hr=>?_) fun _ _ x=>x))
 ·exact yh _ (Heap.get?_push_at rfl rfl)
 ·obtain⟨rfl,hQ⟩:=hr
  wp_walk
  exact hQ
theorem zjE(Fn:Bg Bn newId lR lz)(jW:gh.contains (.type Bn)=true)(F:Bg B nid zck gh)(T:OwnTail h gh bm){rest:List gV}{Q:gV->ir->Prop}
  (hC:h.get? C=some (BH nm q C N bs bm hdct sn sub ab col dd k0 k1 k2 k3 k5 newId))(hn:h.Ns N mN)(hi:mN "__init__"=some (.ref fI)) (sM:h.get? fI=some oI) (sN:oI.cls=.type "function")
  (hq:∀ h' e,EC h h' e (.ref C) rest->xS (xT prog w) (A.under (.builtin "type.__call__" ⟨.ref C::rest,[]⟩)) (call (.ref fI) (.ref e::rest)) (fun r s'=>r=.none/\Q (.ref e) s') E ⟨h',g,d,t,os⟩) (hrest:rest.length<=yb:=by size_fits) :
  xS (xT prog w) A (call (.ref C) rest) Q E ⟨h,g,d,t,os⟩:=by
 have f1:=tc_lookup
 have f2:=tc_bind (.ref C)
 have hT:(⟨h,g,d,t,os⟩:ir).TypeIs (.ref C) "type":=⟨_,hC,rfl⟩
 refine C6 (codeAny_of_tree ?_)
 show xS _ _ (callAny (.ref C) _) _ _ _
 repeat (any_goals (first|assumption|with_reducible refine CU hC ?_|wp_step))
 refine⟨rfl,?_⟩
 refine codeAny_call_builtin_at (Code.quiet_builtin _ (by decide +kernel)) entry_typeCall (wpAny_check_type_call_sub hC (zuC (hrest:=hrest) Fn jW F T hC hn hi sM sN fun h' e hm=>?_))
 exact hq h' e hm
end
theorem ztc(Fn:Bg Bn newId lR lz)(jW:gh.contains (.type Bn)=true)(F:Bg B nid zck gh){x:ib}{np bC pos:xW}
  (lL:bm.contains (.type "BaseException")=true) (hh:A.handled=none) (oP:(yp bC (pd args env)).any (·.1)=false) (hi:mN "__init__"=some (.ref fI)) (sN:oI.cls=.type "function")
  (h:xS (xT prog w) A (xZ (.Name x np) env) (fun f s₁=>f=.ref C/\xS (xT prog w) A (evalArgs (.ref C) true (yp bC (pd args env)) [])
   (fun a s₂=>a.kw=[]/\a.pos.length<=yb/\s₂.heap.get? C=some (BH nm q C N bs bm hdct sn sub ab col dd k0 k1 k2 k3 k5 newId)/\s₂.heap.Ns N mN/\OwnTail s₂.heap gh bm/\s₂.heap.get? fI=some oI /\
    ∀ h' e,EC s₂.heap h' e (.ref C) a.pos->xS (xT prog w) (A.under (.builtin "type.__call__" ⟨.ref C::a.pos,[]⟩)) (call (.ref fI) (.ref e::a.pos)) (fun r s'=>r=.none/\s'.heap.get? C=some (BH nm q C N bs bm hdct sn sub ab col dd k0 k1 k2 k3 k5 newId)/\(∃ o,s'.heap.get? e=some o/\o.cls=.ref C/\∃ vs,o.data=.fields vs/\vs[1]?=some .none)/\E (.ref e) s') E { s₂ with heap:=h' }) E s₁) E s) :
  xS (xT prog w) A (exec (.Raise (some (.Call (.Name x np) args [] bC)) none pos) env) Q E s:=by
 rw [arm_exec_Raise]
 refine lb (Bp (ztd (C:=C) (nm:=nm) (q:=q) (N:=N) (bs:=bs) (bm:=bm) (hdct:=hdct) (sn:=sn) (sub:=sub) (ab:=ab) (col:=col) (dd:=dd) (k0:=k0) (k1:=k1) (k2:=k2) (k3:=k3) (k5:=k5) (newId:=newId) lL hh (lb (yA (wpAny_Call_ofName (yA h (fun f s₁ h₁=>?_) fun _ _ x=>x)) (fun v s₃ h₃=>lb (Bp (xX h₃))) fun _ _ x=>x))))
 obtain⟨rfl,h₁⟩:=h₁
 unfold callWith
 refine lb (zC (yA h₁ (fun a s₂ h₂=>lb (Bp ?_)) fun _ _ x=>x))
 obtain⟨apos,akw⟩:=a
 obtain⟨hkw,hlen,hC,hn,T,sM,h₂⟩:=h₂
 obtain rfl:akw=[]:=hkw
 obtain⟨hp,g,d,tk,os⟩:=s₂
 simp only [oP]
 refine lb (wpAny_keeperOf_exc hC ?_)
 refine lb (zjE (hrest:=hlen) Fn jW F T hC hn hi sM sN fun h' e hm=>yA (h₂ h' e hm) (fun r s' z=>⟨z.1,lb (zC (wpAny_point (xX ?_)))⟩) fun _ _ z=>z)
 obtain⟨_,z1,⟨o,z2,z3,z4⟩,z5⟩:=z
 exact⟨e,o,rfl,z1,z2,z3,z4,z5⟩
end
end L2
namespace L2
open PySem PySem.Spec PyProof.Rows
open Builtin Builtin.ObjectAttr
noncomputable def qQ:List gV->Bool
 | [.type a,.type b,.type c,.type d]=>a == "ValueError" && b == "Exception" && c == "BaseException" && d == "object"
 | .ref _::r=>qQ r
 | _=>false
theorem zhI(self:gV):∀{l:List gV},qQ l=true->refuseLoop self "__setattr__" l=pure ()
 | [.type a,.type b,.type c,.type d],e=>by
  unfold qQ at e
  simp only [yw,beq_iff_eq] at e
  obtain⟨⟨⟨rfl,rfl⟩,rfl⟩,rfl⟩:=e
  exact PySem.F.store_ValueError.passes self
 | .ref c::r,e=>by rw [refuseLoop_ref];exact zhI self (by unfold qQ at e;exact e)
structure iO(K:kb)(C:dm):Prop extends fZ K C where
 hd:B4 K C=true
 po:((zk K C).any fun cd=>qQ cd.mro)=true
 sa:yD K (.ref C) "__setattr__"=some (some (.builtin "object.__setattr__"))
variable {prog:x6}{expr:Bool}{E:gV->ir->Prop}{tk:yS}{ox:xU}{A:ya}{v:gV}{Q:Unit->ir->Prop}{w:x5}{vs:Array gV}{s:ir}{od:Option xU}
section
variable {K:kb}{x C:dm}{name:ib}
theorem zqA{R:Result->ir->Prop}(X:K.In s.heap)(I:Av s.heap x ox C od)(c:iO K C)(ht:yD K (.ref C) name=some none)
  (h:xS (xT prog w) A.in1 (storeInOwnDict (.ref x) (.ref C) (.str name tk) name v false) (fun fin s'=>match fin with | .done f=>R (.ok f) s' | .again c'=>c'.quiet=true/\Aw (xT prog w) A c' R s') (fun e s'=>R (.error e) s') s) :
  Aw (xT prog w) A (.call (.builtin "object.__setattr__") ⟨[.ref x,.str name tk,v],[]⟩) R s:=by
 have SF:=PySem.F.store_object
 obtain⟨cd,hc,ho⟩:=DW c.po
 have sub:AW (xT prog w) s.heap (Dm (.ref x) (.type "object")) true:=I.type.andThen (PySem.W.looks_mroIn X c.ob)
 refine Ej SF.slot.plain SF.entry (@PySem.W.check_slot (xT prog w) _ _ s "object.__setattr__" "object" "__setattr__" (.ref x) [.str name tk,v] [] _ SF.kind SF.split sub (SF.args (.ref x) (.str name tk) v) ?_)
 have hm:AW (xT prog w) s.heap (mroOf (.ref C)) cd.mro:=(DX X hc).andThen .now
 rw [PySem.W.osa_eq,refuse_eq]
 refine lb (lb (I.type.here (lb (hm.here ?_))))
 rw [zhI _ ho]
 exact xX (lb (I.type.here (lb ((Bu X ht).here (lb (xX h))))))
theorem ztE(X:K.In s.heap)(c:iO K C)(ht:yD K (.ref C) name=some none)(hx:s.heap.get? x=some ox)(hc:ox.cls=.ref C)(hd:ox.dict=none)(hv:ox.data=.fields vs)
  (h:∀ h',h'.Ns1 s.heap.objs.size (fun y=>if y=name then some v else none)->h'.get? x=some { ox with dict:=some s.heap.objs.size }->(∀ b o,b≠x->s.heap.get? b=some o->h'.get? b=some o)->Q () { s with heap:=h',toks:=s.toks+2 }) :
  xS (xT prog w) A (setAttr (.ref x) name v) Q E s:=by
 have I:Av s.heap x ox C none:=⟨hx,hc,by unfold Dq;rw [hv],by rw [hd];trivial⟩
 refine EY X I c.sa (zqA (s:={ s with toks:=s.toks+1 }) X I c ht ?_)
 obtain⟨cd,eU,gM⟩:=DW c.hd
 obtain⟨oc,odi,oda,gC⟩:=ox
 dsimp only at hc hd hv
 subst hc hd hv
 refine lb (xX (lb (lb (Cy hx (lb (EZ (s:={ s with toks:=s.toks+1 }) (DX X eU) ?_))))))
 rw [gM]
 have hx₁:(s.heap.push { cls:=.type "dict",data:=.dict #[] }).get? x=some { cls:=.ref C,dict:=none,data:=.fields vs,slots:=gC }:=yh _ hx
 have wm:x≠s.heap.objs.size:=yI (yo hx)
 refine lb (wpAny_alloc' ?_)
 refine lb (wpAny_update' hx₁ ?_)
 refine xX ?_
 have hgd:((s.heap.push { cls:=.type "dict",data:=.dict #[] }).update x fun o=>{ cls:=o.cls,dict:=some s.heap.objs.size,data:=o.data,slots:=o.slots }).get? s.heap.objs.size=some { cls:=.type "dict",data:=.dict #[] } :=
  (FR _ _ _ _ wm.symm).trans (Heap.get?_push_at rfl rfl)
 have hnd:((s.heap.push { cls:=.type "dict",data:=.dict #[] }).update x fun o=>{ cls:=o.cls,dict:=some s.heap.objs.size,data:=o.data,slots:=o.slots }).Ns s.heap.objs.size (fun _=>none) :=
  ⟨_,#[],_,hgd,rfl,fun e he=>absurd he (by simp),fun _=>rfl⟩
 show xS _ _ (storeInDict s.heap.objs.size (.str name _) name v) _ _ _
 unfold storeInDict newKeyGuard
 refine lb (xX (lb (wpAny_nsSet1 (E4 hnd) fun h' qA hs=>?_)))
 obtain⟨oD,esD,epD,hoD,hdD,hcD⟩:=qA.count (Within.cons name v Within.nil)
 refine lb (wpAny_lookBehind hoD (by rw [hdD];exact pastItsLine_dict (yx hcD (by rw [yg,yB,zf];omega))) ?_)
 refine xX (h h' qA ?_ fun b ob hbx hb=>?_)
 ·exact(hs.2 x wm).trans (CC _ hx₁ rfl)
 ·exact(hs.2 b (yI (yo hb))).trans ((FR _ _ _ _ hbx).trans (yh _ hb))
theorem zlW{od:xU}{Q:gV->ir->Prop}(X:K.In s.heap)(c:iO K C)(I:Av s.heap x ox C (some od))(ht:yD K (.ref C) name=some none)(hl:C3 name od=some (some v))(hv:E1 v=true)
  (h:Q v { s with toks:=s.toks+1 }):xS (xT prog w) A (getAttr (.ref x) name expr) Q E s:=by
 obtain⟨hh,g,d,t,os⟩:=s
 have L0:=I.type (M:=xT prog w)
 have L1:=Bu (M:=xT prog w) X c.ga
 have L2:=Bu (M:=xT prog w) X c.gn
 have L3:=PySem.W.looks_find (M:=xT prog w) X I (PySem.W.findObj_own c.hd ht rfl hl)
 have f3:=Dp.ga.bind (.ref x)
 have hx2:(CI "BaseException.__getattribute__" == CI "object.__getattribute__")=false:=by decide +kernel
 unfold getAttr getAttrBy
 repeat (any_goals (first|assumption|with_reducible refine L0.at ?_|with_reducible refine L1.at ?_|with_reducible refine L2.at ?_|wp_step))
 rw [if_neg (by rw [show onTheHeap (CI "BaseException.__getattribute__")=false from rfl,BP];exact zy)]
 repeat (any_goals (first|assumption|wp_step))
 refine Ej Dp.ga.plain F.entry_bexc_ga (zio X c.tofZ I ?_)
 unfold zJ.«object.__getattribute__»
 repeat (any_goals (first|assumption|with_reducible refine L0.at ?_|with_reducible refine L3.at ?_|wp_step))
 exact Fm hv h
end
end L2
namespace L2
open PySem PySem.Spec PyProof.Rows
variable {u:gV}{dd:Option dm}{φ:xV->Prop}{v y:V}{Q:Unit->ir->Prop}{w:x5}{vs:Array gV}{C a dx e:dm}{h:xV}{σ:St}{X:Cx}{A:ya}{E:gV->ir->Prop}{H:Hp}{s:ir}{P:x6}{b:Bool}{pins:List (dm×xU)}{pos:xW}{f:ib}{o:xU}
section
noncomputable def g7(e C:dm)(dd:Option dm)(vs:Array gV):HO:=.ext fun h=>∃ o,h.get? e=some o/\o.cls=.ref C/\o.dict=dd/\o.data=.fields vs
theorem zfo(he:h.get? e=some o)(hc:o.cls=.ref C)(hd:o.dict=dd)(hv:o.data=.fields vs):ck P w H h e (g7 e C dd vs) :=
 ⟨⟨o,he,hc,hd,hv⟩,⟨o,he⟩,fun h1 h2 ⟨o,g,r⟩ k=>⟨o,k o g,r⟩⟩
section
theorem Inv.zuF(I:Inv X pins σ (upd H a (.ext φ)) s)(n:H a=none):Inv X pins σ H s:=by
 have g:∀ b u,upd H a (.ext φ) b=some u->(∀ ψ,u≠.ext ψ)->H b=some u:=fun b u e z=>by
  by_cases q:b=a
  ·rw [q,bX] at e;cases e;exact absurd rfl (z φ)
  ·rw [aT q] at e;exact e
 have f0:∀ b,upd H a (.ext φ) b=none->H b=none:=fun b e=>by
  by_cases q:b=a
  ·rw [q];exact n
  ·rw [aT q] at e;exact e
 refine⟨I.ok,I.os,I.bare,⟨I.base.keep,I.base.slot,fun b o e hn hx=>f0 _ (I.base.free b o e hn hx),I.base.there,fun b xs e=>g _ _ (I.base.fY b xs e) (fun _ z=>by cases z),fun b o u e=>g _ _ (I.base.gq b o u e) (fun _ z=>by cases z),fun b ps e=>?_⟩,I.loc,I.cell,f0 _ I.free,fun x c e=>f0 _ (I.fO x c e),fun p hp=>?_,fun b u e=>?_,I.len⟩
 ·obtain⟨more,z⟩:=I.base.gF b ps e
  exact⟨more,g _ _ z (fun _ z=>by cases z)⟩
 ·obtain⟨g1,g2,g3,g4,g5⟩:=I.pin p hp
  exact⟨g1,f0 _ g2,g3,g4,g5⟩
 ·have nb:b≠a:=fun z=>by rw [z,n] at e;cases e
  refine(I.ax b u (by rw [aT nb];exact e)).hV (fun _ _ _ q=>q) (fun c q=>g _ _ q (fun _ z=>by cases z)) fun c xs q=>?_
  rcases q with q|⟨o,q⟩
  ·exact .inl (g _ _ q (fun _ z=>by cases z))
  ·exact .inr ⟨o,g _ _ q (fun _ z=>by cases z)⟩
theorem ztG(I:Inv X pins σ H s)(he:H e=some (g7 e C none vs))(c:iO X.K C)(n:eO X.K C f)(ry:RelV y u)
  (h:∀ dx s',H dx=none->dx≠e->Inv X pins σ (upd (upd H dx (.xd [(f,y)])) e (g7 e C (some dx) vs)) s'->Q () s'):xS (xT X.prog X.w) A (setAttr (.ref e) f u) Q E s:=by
 obtain⟨⟨o,ho,hc,hd,hv⟩,_⟩:=(show ck X.prog X.w H s.heap e (g7 e C none vs) from I.ax e _ he)
 refine ztE I.eJ c n ho hc hd hv fun h' hn hx k=>?_
 have nd:H s.heap.objs.size=none:=I.ax.fresh (x9 _)
 have ne:s.heap.objs.size≠e:=fun z=>by rw [z,he] at nd;cases nd
 have e1:∀ b u,H b=some u->(∀ ψ,u≠.ext ψ)->b≠e/\b≠s.heap.objs.size:=fun b u q z=>⟨fun y=>(by rw [y,he] at q;cases q;exact absurd rfl (z _)),fun y=>(by rw [y,nd] at q;cases q)⟩
 have e2:∀ b u,H b=some u->(∀ ψ,u≠.ext ψ)->upd (upd H s.heap.objs.size (.xd [(f,y)])) e (g7 e C (some s.heap.objs.size) vs) b=some u:=fun b u q z=>by rw [aT (e1 b u q z).1,aT (e1 b u q z).2];exact q
 have kk:∀ b o,s.heap.get? b=some o->H b=none->h'.get? b=some o:=fun b o q z=>k b o (fun y=>by rw [y,he] at z;cases z) q
 refine h _ _ nd ne (I.un (H':=upd (upd H s.heap.objs.size (.xd [(f,y)])) e (g7 e C (some s.heap.objs.size) vs)) ⟨fun b o q z _ _=>kk b o q z,fun b o q z _ _=>⟨o.slots,kk b o q z⟩,fun b o q z _=>?_,fun b o q _=>?_,fun b xs q=>e2 _ _ q (fun _ z=>by cases z),fun b o u q=>e2 _ _ q (fun _ z=>by cases z),fun b ps q=>⟨#[],by rw [Array.append_empty];exact e2 _ _ q (fun _ z=>by cases z)⟩⟩ fun b u q=>?_)
 ·rw [aT (fun y=>by rw [y,he] at z;cases z),aT (yI (yo q))]
  exact z
 ·by_cases hb:b=e
  ·exact⟨_,by rw [hb];exact hx⟩
  ·exact⟨o,k b o hb q⟩
 ·by_cases hb:b=e
  ·rw [hb,bX] at q
   cases q
   rw [hb]
   exact zfo hx hc rfl hv
  ·rw [aT hb] at q
   by_cases m7:b=s.heap.objs.size
   ·rw [m7,bX] at q
    cases q
    rw [m7]
    refine⟨_,hn,fun g=>?_⟩
    by_cases hg:g=f
    ·rw [if_pos hg,hg]
     show iq (AR f [(f,y)]) (some u)
     rw [List.lookup_cons_self]
     exact ry
    ·rw [if_neg hg]
     show iq (AR g [(f,y)]) none
     rw [ym,show(g==f)=false from beq_eq_false_iff_ne.mpr hg]
     trivial
   ·rw [aT m7] at q
    refine(I.ax b u q).hV (fun c v jX z=>k c v ?_ z) (fun c z=>e2 _ _ z (fun _ z=>by cases z)) fun c xs z=>?_
    ·rcases jX with z1|z1
     ·rw [z1];exact hb
     ·exact(e1 _ _ z1 (fun _ z=>by cases z)).1
    ·rcases z with z|⟨o,z⟩
     ·exact .inl (e2 _ _ z (fun _ z=>by cases z))
     ·exact .inr ⟨o,e2 _ _ z (fun _ z=>by cases z)⟩
theorem zlX{fs:List (ib×V)}{Q:gV->ir->Prop}(I:Inv X pins σ H s)(he:H e=some (iP e C (some dx)))(hx:H dx=some (.xd fs))(c:iO X.K C)(n:eO X.K C f)(l:fs.lookup f=some v)
  (h:∀ u s',Inv X pins σ H s'->RelV v u->Q u s'):xS (xT X.prog X.w) A (getAttr (.ref e) f b) Q E s:=by
 obtain⟨⟨o,vs,ho,hc,hd,hv⟩,_⟩:=(show ck X.prog X.w H s.heap e (iP e C (some dx)) from I.ax e _ he)
 obtain⟨mA,hn,r⟩:=(show ck X.prog X.w H s.heap dx (.xd fs) from I.ax dx _ hx)
 obtain⟨od,lP,hl⟩:=zga hn
 obtain⟨u,hu,ru⟩:=iq.some_of (v:=v) (o:=mA f) (by rw [<- l];exact r f)
 exact zlW (od:=od) I.eJ c ⟨ho,hc,by unfold Dq;rw [hv],by rw [hd];exact lP⟩ n (by rw [hl,hu]) (zl5 ru) (h u _ (I.tok _) ru)
end
section
variable {o value:o1}{ta tv:TE}{pos':xW}
noncomputable def ztx(K:kb)(ta tv:TE)(f:ib):TS:=fun D σ H=>tv σ H fun y H1=>ta σ H1 fun x H2=>∃ a C vs,x=.ref a/\H2 a=some (g7 a C none vs)/\iO K C/\eO K C f /\
 ∀ dx,H2 dx=none->dx≠a->D.nx σ (upd (upd H2 dx (.xd [(f,y)])) a (g7 a C (some dx) vs))
theorem zrr(ha:PE X o ta)(hv:PE X value tv)(hs:yV value (some (.Attribute o f pos')) pos.line X.env=pure false):PS X (.Assign [.Attribute o f pos'] value pos) (ztx X.K ta tv f):=by
 intro pins s σ H D I h
 refine E5 (aN (hv pins s σ H _ I h) fun u s1 ⟨y,H1,I1,ry,q⟩=>aN (ha pins s1 σ H1 _ I1 q) fun ov s2 ⟨x,H2,I2,rx,a,C,vs,ex,ea,c,n,q2⟩=>?_) hs
 subst ex
 obtain rfl:ov=yt a:=rx
 exact ztG I2 ea c n ry fun dx s3 z1 z2 I3=>⟨σ,_,I3,q2 dx z1 z2⟩
noncomputable def zt6(K:kb)(ta:TE)(f:ib):TE:=fun σ H Q=>ta σ H fun x H1=>∃ a C dx fs v,x=.ref a/\H1 a=some (iP a C (some dx))/\H1 dx=some (.xd fs)/\iO K C/\eO K C f/\fs.lookup f=some v/\Q v H1
theorem zqS(ha:PE X o ta)(hb:B6 o f X.env (xZ o X.env)=xZ o X.env:=by rfl):PE X (.Attribute o f pos) (zt6 X.K ta f):=by
 intro pins s σ H Q I h
 refine zja hb (aN (ha pins s σ H _ I h) fun ov s1 ⟨x,H1,I1,rx,a,C,dx,fs,v,ex,ea,ed,c,n,l,q⟩=>?_)
 subst ex
 obtain rfl:ov=yt a:=rx
 exact zlX I1 ea ed c n l fun u s2 I2 ru=>⟨v,H1,I2,ru,q⟩
end
end
variable {k:Nat}{N fI:dm}{v:gV}{ta:TA}{E:XK}{e:o1}{newId:String}{gh:List gV}{n:ib}{fd:yq}{ps:List ib}{mg:ib->Option gV}{es:List o1}
section
noncomputable def gm(K:kb)(C fI:dm)(gh:List gV)(newId:String):Bool:=match K.lookup C with
 | some ⟨.type "type",_,.cls cd,sl⟩=>(match cd.mro,sl.toList with
  | .ref C'::bm,[_,_,_,_,some (.builtin n),_]=>C'==C&&n==newId&&!cd.hasDel&&Cm K gh bm&&Cp K cd.ns&&yf K cd.ns "__init__" == some (some (.ref fI))
  | _,_=>false)
 | _=>false
section
variable {K:kb}
theorem zpX(X:K.In h)(G:h.Ns N mg)(e:yf K N n=some (some v)):mg n=some v:=by
 obtain⟨o,es,ep,ho,hd,_,hf⟩:=G
 unfold yf at e
 split at e
 ·rename_i c d mX n' sl q
  have:=X _ _ q
  rw [ho] at this
  cases this
  cases hd
  split at e
  ·rename_i he
   rw [<- hf]
   unfold nsFind findBy
   rw [<- EX,he]
   cases e
   rfl
  ·split at e <;> cases e
 ·cases e
theorem zlo(X:K.In h)(q:gm K C fI gh newId=true):∃ bm N nm q bs hdct sn sub ab col dd k0 k1 k2 k3 k5 mN,h.get? C=some (BH nm q C N bs bm hdct sn sub ab col dd k0 k1 k2 k3 k5 newId)/\h.Ns N mN/\mN "__init__"=some (.ref fI)/\OwnTail h gh bm:=by
 unfold gm at q
 split at q
 ·rename_i dd cd sl ho
  split at q
  ·rename_i C' bm k0 k1 k2 k3 n k5 hm hs
   simp only [yw,beq_iff_eq,Dl] at q
   obtain⟨⟨⟨⟨⟨a1,a2⟩,a3⟩,a4⟩,a5⟩,a6⟩:=q
   subst a1 a2
   obtain⟨nm,bs,mro,ns,qn,hd,sn,sub,ab,col,del⟩:=cd
   subst hm a3
   obtain⟨l⟩:=sl
   have qC:l=[k0,k1,k2,k3,some (.builtin n),k5]:=hs
   subst qC
   have G:h.Ns ns (h.nsMap ns):=.of_isNs (Fh X a5)
   exact⟨bm,ns,nm,qn,bs,hd,sn,sub,ab,col,dd,k0,k1,k2,k3,k5,_,X _ _ ho,G,zpX X G a6,Fi X a4⟩
  ·cases q
 ·cases q
end
noncomputable def xt(C:dm)(f:ib):Sp:=fun vs H Q _=>∃ e v ws,vs=[.ref e,v]/\H e=some (g7 e C none ws)/\∀ dx,H dx=none->dx≠e->Q .non (upd (upd H dx (.xd [(f,v)])) e (g7 e C (some dx) ws))
section
variable {x:ib}{np bC:xW}
noncomputable def zuj(C:dm)(f:ib)(E:XK)(ta:TA):TS:=fun _ σ H=>ta σ H fun vs H1=>∃ v,vs=[v]/\∀ dx,H1 dx=none->E (.ref C) (some dx) (upd H1 dx (.xd [(f,v)]))
theorem zrv(hc:X.calm=true)(ec:gm X.K C fI dE "ValueError.__new__"=true\/gm X.K C fI dE "Exception.__new__"=true) (hf:Bv X.K (.ref fI)=true) {lo:xU} (lk:X.K.lookup fI=some lo)
  (F:bU X.prog X.w X.K X.mg X.base ko k fI fd ps (xt C f)) (hr:aZ (k+1) X.A) (hb:Binds X.K fd ps []) (hg:Gl X x) (hm:X.mg x=some (.ref C)) (th:Throws X E) (ha:PA X (e::es) ta)
  (hx:X.ex=[]:=by rfl) (hd:(x==("__debug__":ib))=false:=by decide) (he:pd (e::es) X.env=(false,xZ e X.env)::pd es X.env:=by rfl) (bj:(yp bC (pd es X.env)).any (·.1)=false:=by rfl) :
  PS X (.Raise (some (.Call (.Name x np) (e::es) [] bC)) none pos) (zuj C f E ta):=by
 intro pins s σ H D I h
 have KX:X.K.In X.base:=I.ok.mod.qG
 have hlo:lo.cls=.type "function":=by
  have:=beq_iff_eq.mp hf
  unfold B5 at this
  simp only [lk] at this
  exact yN this
 have go:∀{newId Bn lR:String} {lz:List gV},gm X.K C fI dE newId=true->Bg Bn newId lR lz->dE.contains (.type Bn)=true ->
   xS (xT X.prog X.w) X.A (exec (.Raise (some (.Call (.Name x np) (e::es) [] bC)) none pos) X.env) (SP X pins D) X.xe s:=by
  intro newId Bn lR lz q Fn jW
  obtain⟨tl,N,nm,qn,bs,hdct,sn,sub,ab,col,dd,k0,k1,k2,k3,k5,mN,hC,hN,hni,T⟩:=zlo KX q
  refine ztc (C:=C) (nm:=nm) (q:=qn) (N:=N) (bs:=bs) (bm:=tl) (hdct:=hdct) (sn:=sn) (sub:=sub) (ab:=ab) (col:=col) (dd:=dd) (k0:=k0) (k1:=k1) (k2:=k2) (k3:=k3) (k5:=k5)
   Fn jW Ci (mN:=mN) (fI:=fI) (oI:=lo) (T.hasType Ci.hasBase) (I.ok.hd hc) (by rw [he];show(false||(yp bC (pd es X.env)).any (·.1))=false;rw [bj];rfl) hni hlo (qI I hg hm ⟨rfl,?_⟩ hd)
  have hw:=ha bC pins s σ H _ I h
  rw [he] at hw ⊢
  refine Ea (aN hw fun us s1 ⟨vs,H1,I1,r,v,ql,q1⟩=>⟨rfl,?_,I1.bk _ _ hC,hN.keeps I1.bk,T.keeps I1.bk,I1.eJ _ _ lk,fun h' ea mk=>?_⟩)
  ·show us.length<=yb
   rw [<- r.length,ql,zf]
   show 1<=_
   omega
  ·subst ql
   obtain⟨t,ht,_,_⟩:=mk.there
   have I2:Inv X pins σ H1 { s1 with heap:=h',toks:=s1.toks }:=I1.kept (t':=s1.toks) mk.keeps
   have ne:H1 ea=none:=I1.ax.free mk.new
   have I3:=I2.zia (o:=g7 ea C none _) ne (I1.nw hx mk.new) (zfo ht rfl rfl rfl)
   have hq:xt C f [.ref ea,v] (upd H1 ea (g7 ea C none #[.ref t,.none,.none,.none,.bool false,.none])) (fun u H2=>u=.non/\∃ dx,H1 dx=none/\dx≠ea/\H2=upd (upd H1 dx (.xd [(f,v)])) ea (g7 ea C (some dx) #[.ref t,.none,.none,.none,.bool false,.none])) E :=
    ⟨ea,v,_,rfl,bX,fun dx z1 z2=>⟨rfl,dx,by rw [aT z2] at z1;exact z1,z2,by
     funext b
     unfold upd
     by_cases hb:b=ea
     ·simp only [hb,if_true]
     ·simp only [hb,if_false]⟩⟩
   have r2:Vals [V.ref ea,v] (yt ea::(us++[])):=.cons rfl (by rw [zP];exact r)
   have hl:(yt ea::us++[]).length=ps.length:=by
    have e9:=r2.length
    rw [F.len _ _ _ _ hq] at e9
    exact e9.symm
   have m7:=hb _ (yt ea::us) I3.eJ hl
   rw [yX] at m7
   refine C6 (CA (F.run _ X.stack _ _ ⟨yt ea::us,[]⟩ (yt ea::(us++[])) _ _ E (hr.make C us []) (I3.zbv.make C us []) m7 r2 hq) fun r s' jA=>?_)
   cases r with
   | error e=>exact za jA
   | ok fl =>
    cases fl with
    | ret u =>
     obtain⟨v',H',I4,rv,ev,dx,z1,z2,z3⟩:=I3.after jA
     subst ev z3
     have n2:upd H1 dx (.xd [(f,v)]) ea=none:=by rw [aT (yU z2)];exact ne
     obtain⟨⟨o,ho,oc,od,ov⟩,_⟩:=(show ck X.prog X.w _ s'.heap ea (g7 ea C (some dx) _) from I4.ax ea _ bX)
     refine⟨rv,I4.bk _ _ hC,⟨o,ho,oc,_,ov,rfl⟩,?_⟩
     exact th pins σ _ s' ea (.ref C) (some dx) (I4.zuF n2) ⟨o,_,ho,oc,od,ov,rfl⟩ n2 (by have u:=I1.base;rw [hx] at u;exact u.old mk.new) (q1 dx z1)
    | next=>exact za jA
    | brk=>exact za jA
    | cont=>exact za jA
 rcases ec with q|q
 ·exact go q Ci (by decide)
 ·exact go q Fj (by decide)
end
end
variable {t:TA}
section
theorem PS.bT{st:x8}{t:TS}(h:PS X.bT st t):PS X st t:=fun pins s σ H D I hw =>
 yA (h pins s σ H D (I.hZ _) hw) (fun _ _ q=>q.jj) fun _ _ z=>za z
theorem PA.bT(h:PA X.bT es t):PA X es t:=fun pos pins s σ H Q I hw =>
 yA (h pos pins s σ H Q (I.hZ _) hw) (fun _ _ ⟨v,H',I',r,q⟩=>⟨v,H',I'.jj,r,q⟩) fun _ _ z=>za z
end
end L2
namespace FL
open PySem L2 PySem.Spec
open PyProof.Rows hiding St
variable {k:Fl×En->R (Fl×En)}{r:R (Fl×En)}{body:List x8}{tc:TF}{α β:Type}{C:SC}{X:Cx}{E:XK}{H H1:Hp}{c e:o1}{it:IF}{b:SF}{pos:xW}{dom:List Nat}{g:GF}
section
noncomputable def pB{α:Type}:R α->R α
 | .ok a=>.ok a
 | _=>.bad
theorem uq{r:R α}{a:α}(h:r=.ok a):pB r=.ok a:=by rw [h];rfl
noncomputable def fo(f:SF):SF:=fun ρ=>pB (f ρ)
noncomputable def jM(f:TF):TF:=fun ρ=>pB (f ρ)
noncomputable def lq(f:AF):AF:=fun ρ=>pB (f ρ)
noncomputable def qE(f:IF):IF:=fun ρ=>pB (f ρ)
noncomputable def gK(g:GF):GF:=fun d ρ=>pB (g d ρ)
noncomputable def kj(c:String)(b:Bool)(fa:AF):SF:=fun ρ=>(lq fa ρ).bind fun x=>match b,x.1 with
 | true,[d]=>.err c [d]
 | false,[_]=>.err c []
 | _,_=>.bad
section
variable [Cs]{K:kb}
def Kc(C:SC)(H':Hp):Prop:=∀ a o,C.H₀ a=some o->¬ MA C.ρ₀ C.σ₀ a->H' a=some o
def Wn(K:kb)(E:XK)(c:String)(fs:List D)(H':Hp):Prop:=∀ C dd,rp K H' c fs C dd->E (.ref C) dd H'
def iS(K:kb)(C:SC)(E:XK)(H:Hp)(r:R (Fl×En))(Dn:Ends):Prop:=match r with
 | .err c fs=>∀ H',Kc C H'->Wn K E c fs H'
 | .ok x=>dI K C H (.ok x) Dn
 | .bad=>False
noncomputable def xE(K:kb)(C:SC)(E:XK)(f:SF):TS:=fun Dn σ H=>∃ ρ,bH K C ρ σ H/\iS K C E H (f ρ) Dn
structure k9(K:kb)(X:Cx)(E:XK)(st:x8)(f:SF):Prop where
 run:X.K=K->∀ C,PS X st (xE K C E f)
structure ik(K:kb)(X:Cx)(E:XK)(st:List x8)(f:SF):Prop where
 run:X.K=K->∀ C,bJ X st (xE K C E f)
section
variable {Dn:Ends}
theorem iS.step(f:aC H H1)(g:iS K C E H r Dn):iS K C E H1 r Dn:=by
 cases r with
 | ok x=>exact dI.step (r:=.ok x) f (show dI K C H (.ok x) Dn from g)
 | err c fs=>exact g
 | bad=>exact g
theorem iS.pl{r:R β}{k:β->R (Fl×En)}(g:iS K C E H ((pB r).bind k) Dn):∃ x,r=.ok x/\iS K C E H (k x) Dn:=by
 cases r with
 | ok x=>exact⟨x,rfl,g⟩
 | _=>exact g.elim
theorem iS.bd{r:R (Fl×En)}(g:iS K C E H (r.bind k) Dn):(∃ x,r=.ok x/\iS K C E H (k x) Dn)\/∃ c fs,r=.err c fs/\∀ H',Kc C H'->Wn K E c fs H':=by
 cases r with
 | ok x=>exact .inl ⟨x,rfl,g⟩
 | err c fs=>exact .inr ⟨c,fs,rfl,g⟩
 | bad=>exact g.elim
end
variable {st:x8}{rest:List x8}{s t:SF}
theorem zhd(h:dA K X.bT st s):k9 K X E st (fo s):=.mk fun hK C=>(h hK C).bT.weak fun Dn σ H=>by
 rintro⟨ρ,rel,g⟩
 refine⟨ρ,rel,?_⟩
 unfold fo at g
 cases e:s ρ with
 | ok x=>rw [e] at g;exact g
 | _=>rw [e] at g;exact g.elim
theorem t6{st:List x8}(h:eQ K X.bT st s):ik K X E st (fo s):=.mk fun hK C=>(bJ.bT (h hK C)).weak fun Dn σ H=>by
 rintro⟨ρ,rel,g⟩
 refine⟨ρ,rel,?_⟩
 unfold fo at g
 cases e:s ρ with
 | ok x=>rw [e] at g;exact g
 | _=>rw [e] at g;exact g.elim
theorem nI(h1:k9 K X E st s)(h2:ik K X E rest t):ik K X E (st::rest) (aq s t):=.mk fun hK C=>(qS (h1.run hK C) (h2.run hK C)).weak fun Dn σ H=>by
 rintro⟨ρ,rel,g⟩
 refine⟨ρ,rel,?_⟩
 rcases g.bd with⟨x,ex,g1⟩|⟨c,fs,ex,g1⟩
 ·rw [ex]
  obtain⟨fl,ρ1⟩:=x
  cases fl with
  | nx=>exact fun σ' H' r z=>⟨ρ1,r,g1.step z⟩
  | bk=>exact g1
  | ct=>exact g1
  | rt d=>exact g1
  | rf d=>exact g1
 ·rw [ex]
  exact g1
theorem w8(h1:k9 K X E st s):ik K X E [st] s:=.mk fun hK C=>qT (h1.run hK C)
theorem w4{a b:List x8}(hc:eS K X.bT c tc)(ha:ik K X E a s)(hb:ik K X E b t):k9 K X E (.If c a b pos) (aQ (jM tc) s t):=.mk fun hK C=>(zcZ (hc hK).bT (ha.run hK C) (hb.run hK C)).weak fun Dn σ H=>by
 rintro⟨ρ,rel,g⟩
 obtain⟨x,ex,g1⟩:=g.pl
 refine⟨ρ,rel.rel,?_⟩
 rw [ex]
 intro H' r sx
 have g2:=g1.step (sx.dO rel.rel)
 obtain⟨cb,ρ1⟩:=x
 cases cb with
 | true=>exact lV ⟨ρ1,rel.step r sx,g2⟩
 | false=>exact lU ⟨ρ1,rel.step r sx,g2⟩
theorem zry{tg:o1}(hp:Bq (xT X.prog X.w) X.A X.env X.xe)(hc:X.calm=true)(hi:iT K X tg e it)(hg:il K X dom tg g)(hb:ik K X E body b)(hs:∀ x,AO e X.env x=pure x:=by intro _;rfl) :
  k9 K X E (.For tg e body [] pos) (dH (qE it) (gK g) b):=.mk fun hK C=>(zhb hp hc (hi hK) (hg hK) (hb.run hK C) hs).weak fun Dn σ0 H0=>by
 rintro⟨ρ0,jL,q⟩
 obtain⟨x,ex,q⟩:=q.pl
 refine⟨ρ0,jL.rel,?_⟩
 rw [ex]
 intro Hs r st J wk
 have ak:=jL.step r st
 have q1:=q.step (st.dO jL.rel)
 obtain⟨items,ρs⟩:=x
 refine⟨fun i m σ H=>m=items.length-i/\i<=items.length/\∃ ρ,bH K C ρ σ H/\aC Hs H/\iS K C E H (forL (gK g) b (items.drop i) ρ) Dn,⟨items.length,by simp,zr _,ρs,ak,aC.refl _,q1⟩,?_⟩
 rintro i m σ H ⟨rfl,hi,ρ,rel,fz,gd⟩
 by_cases c:i<items.length
 ·have ed:=Es c
  rw [ed] at gd
  obtain⟨iz,hy⟩:=wk.1 i items[i] H fz (yC c)
  refine .inr ⟨iz,fun σ' H'=>∃ ρ,bH K C ρ σ' H'/\aC Hs H'/\iS K C E H' (forL (gK g) b (items.drop (i+1)) ρ) Dn,fun σ' H' n=>⟨items.length-(i+1),by omega,rfl,c,n⟩,fun x H3 y=>?_⟩
  obtain⟨sm,fx⟩:=hy x H3 y
  have gv:bH K C ρ σ H3:=rel.step (rel.rel.same sm) (.of sm)
  obtain⟨ρ1,e1,gd1⟩:=gd.pl
  refine⟨ρ,items[i],ρ1,gv.rel,fx,e1,fun σ1 ur chg=>⟨ρ1,gv.chg ur chg,?_⟩⟩
  rcases gd1.bd with⟨y,ey,jv⟩|⟨cc,fs,ey,jv⟩
  ·rw [ey]
   have jw:=jv.step (aC.of sm)
   have su:=fz.trans (aC.of sm)
   obtain⟨fl,ρ2⟩:=y
   cases fl with
   | nx=>exact fun σ' H' r z=>⟨ρ2,r,su.trans z,jw.step z⟩
   | ct=>exact fun σ' H' r z=>⟨ρ2,r,su.trans z,jw.step z⟩
   | bk=>exact jw
   | rt d=>exact jw
   | rf d=>exact jw
  ·rw [ey]
   exact jv
 ·have e:i=items.length:=by omega
  subst e
  rw [Et] at gd
  exact .inl ⟨wk.2 _ H fz (x9 _),gd σ H rel (aC.refl _)⟩
end
end
variable {k:Nat}{Q:VK}{w:x5}{G:List D->R D}{σ:L2.St}{x:ib}{fa:AF}{c:String}{ks:List (Option String)}{ρ:En}{P:x6}{fd:yq}{base:xV}{ps:List ib}{p:xW}{f:dm}{mg:ib->Option gV}{es:List o1}
section
def pN[Cs](P:x6)(w:x5)(K:kb)(mg:ib->Option gV)(base:xV)(x:ib)(c:String)(f:ib)(k:Nat):Prop :=
 ∃(C fI:dm) (fd:yq) (ps:List ib) (lo:xU),mg x=some (.ref C)/\Cs.O c=none/\Cs.X c=some (C,[f])/\(gm K C fI dE "ValueError.__new__"=true\/gm K C fI dE "Exception.__new__"=true)/\Bv K (.ref fI)=true/\K.lookup fI=some lo /\
  bU P w K mg base ko k fI fd ps (xt C f)/\Binds K fd ps []
def zaa[Cs](K:kb)(mg:ib->Option gV)(x:ib)(c:String):Prop :=
 ∃ C:dm,mg x=some (.ref C)/\Cs.O c=none/\Cs.X c=some (C,[])/\(zv K C dE "Exception.__new__"=true\/zv K C dE "ValueError.__new__"=true)
section
variable [Cs]{K:kb}{f:ib}{np bC:xW}{j:Nat}
theorem zho(h:dB K X.bT es fa):dB K X es fa:=.mk fun hK=>(h hK).bT
theorem zcs{ρ1:En}{H2:Hp}(rel:bH K C ρ σ H)(st:bZ ρ ρ1 σ H H1)(k:∀ a o,H1 a=some o->¬ MA ρ σ a->H2 a=some o):Kc C H2:=fun a o e n=>k a o (st.kp a o (rel.keep a o e n) (rel.wK e n)) (rel.wK e n)
theorem zc0(I:pN X.prog X.w X.K X.mg X.base x c f k)(hr:aZ j X.A)(th:Throws X E)(ha:dB K X.bT [e] fa)(hj:k+1<=j:=by decide)(hc:X.calm=true:=by rfl)(hg:Gl X x:=by rfl)(hx:X.ex=[]:=by rfl)(hd:(x==("__debug__":ib))=false:=by decide)
  (he:pd [e] X.env=(false,xZ e X.env)::pd [] X.env:=by exact FL.se rfl):k9 K X E (.Raise (some (.Call (.Name x np) [e] [] bC)) none pos) (kj c true fa):=.mk fun hK C=>by
 subst hK
 obtain⟨Ca,fI,fd,ps,lo,hm,hO,hX,ec,hf,lk,F,hb⟩:=I
 refine(zrv hc ec hf lk F (hr.mono hj) hb hg hm th ((zho ha) rfl) hx hd he rfl).weak fun Dn σ H=>?_
 rintro⟨ρ,rel,g⟩
 obtain⟨y,ey,g1⟩:=g.pl
 obtain⟨ds,ρ1⟩:=y
 refine⟨ρ,rel.rel,?_⟩
 rw [ey]
 intro H' r sx vs fs
 cases ds with
 | nil=>exact g1.elim
 | cons d rr =>
  cases rr with
  | cons _ _=>exact g1.elim
  | nil =>
   obtain⟨v,r',rfl,fv,e'⟩:=fs
   obtain rfl:r'=[]:=e'
   refine⟨v,rfl,fun dx nd=>g1 _ (zcs rel sx fun a o q _=>?_) _ _ ⟨hO,[f],[v],hX,rfl,bX,?_⟩⟩
   ·rw [aT fun z=>by rw [z,nd] at q;cases q];exact q
   ·exact aj.mono (aC.of (aM.upd nd)) _ _ ⟨v,[],rfl,fv,rfl⟩
theorem zrA(I:zaa X.K X.mg x c)(th:Throws X E)(ha:dB K X.bT [e] fa)(hc:X.calm=true:=by rfl)(hg:Gl X x:=by rfl)(hx:X.ex=[]:=by rfl)(hd:(x==("__debug__":ib))=false:=by decide)
  (he:pd [e] X.env=(false,xZ e X.env)::pd [] X.env:=by exact FL.se rfl):k9 K X E (.Raise (some (.Call (.Name x np) [e] [] bC)) none pos) (kj c false fa):=.mk fun hK C=>by
 subst hK
 obtain⟨Ca,hm,hO,hX,ec⟩:=I
 refine(zru hc ec hg hm th ((zho ha) rfl) hx hd he rfl).weak fun Dn σ H=>?_
 rintro⟨ρ,rel,g⟩
 obtain⟨y,ey,g1⟩:=g.pl
 obtain⟨ds,ρ1⟩:=y
 refine⟨ρ,rel.rel,?_⟩
 rw [ey]
 intro H' r sx vs fs
 cases ds with
 | nil=>exact g1.elim
 | cons d rr =>
  cases rr with
  | cons _ _=>exact g1.elim
  | nil =>
   obtain⟨v,r',rfl,fv,e'⟩:=fs
   obtain rfl:r'=[]:=e'
   refine⟨by rw [zf];show 1<=_;omega,g1 _ (zcs rel sx fun a o q _=>q) _ _ ⟨hO,[],[],hX,rfl,rfl,rfl⟩⟩
noncomputable def xu(K:kb)(ks:List (Option String))(fr:Bool)(G:List D->R D):Sp:=fun vs H Q E=>∃ ds,h9 H/\jl K H ks ds vs /\
 ((∃ d,G ds=.ok d/\∀ v H',aM H H'->(if fr=true then ∃ a,v=.ref a/\H a=none/\cY K H' a d else Fz K H' d v)->Q v H') \/
  ∃ c fs,G ds=.err c fs/\∀ H',aM H H'->Wn K E c fs H')
def zak(K:kb)(E:XK)(fr:Bool)(ρ:En)(σ:L2.St)(H:Hp)(r:R (D×En))(Q:VK):Prop:=match r with
 | .ok x=>∀ H',Rel K x.2 σ H'->bZ ρ x.2 σ H H'->∀ v,(if fr=true then ∃ a,v=.ref a/\H a=none/\cY K H' a x.1 else Fz K H' x.1 v)->Q v H'
 | .err c fs=>∀ H',(∀ a o,H a=some o->¬ MA ρ σ a->H' a=some o)->Wn K E c fs H'
 | .bad=>False
noncomputable def tVE(K:kb)(E:XK)(fr:Bool)(f:EF):TE:=fun σ H Q=>∃ ρ,Rel K ρ σ H/\zak K E fr ρ σ H (f ρ) Q
structure PVE(K:kb)(X:Cx)(E:XK)(fr:Bool)(e:o1)(f:EF):Prop where
 run:X.K=K->PE X e (tVE K E fr f)
theorem goX{fr:Bool}{fa:AF}(rel:Rel K ρ σ H)(g:zak K E fr ρ σ H (aP G (lq fa) ρ) Q):tAO K ks fa σ H fun vs H1=>xu K ks fr G (vs++[]) H1 Q E:=by
 unfold aP lq at g
 cases ey:fa ρ with
 | ok y =>
  rw [ey] at g
  refine⟨ρ,rel,?_⟩
  rw [ey]
  intro H1 ak aW vs fs
  rw [zP]
  refine⟨y.1,ak.cst,fs,?_⟩
  replace g:zak K E fr ρ σ H ((G y.1).bind fun d=>.ok (d,y.2)) Q:=g
  cases eg:G y.1 with
  | ok d =>
   rw [eg] at g
   refine .inl ⟨d,rfl,fun v H' s fin=>g H' (ak.same s) (aW.trans (.of s)) v ?_⟩
   cases fr with
   | false=>exact fin
   | true =>
    obtain⟨a,e1,e2,e3⟩:=fin
    exact⟨a,e1,aW.none ak e2,e3⟩
  | err c dj =>
   rw [eg] at g
   exact .inr ⟨c,dj,rfl,fun H' s=>g H' fun a o q n=>s a o (aW.kp a o q n)⟩
  | bad=>rw [eg] at g;exact g.elim
 | _=>rw [ey] at g;exact g.elim
theorem zqG(h:mO K X.bT ks es fa):mO K X ks es fa:=fun hK=>(h hK).bT
theorem zr4{fr:Bool}(cc:Callee X.prog X.w X.K X.mg X.base x k ps (xu X.K ks fr G))(hr:aZ j X.A)(hx:Passes (bE X.prog X.w) X E)(ha:mO K X.bT ks (e::es) fa)(hg:Gl X x:=by rfl)(hj:k<=j:=by decide)(bA:(x==("__debug__":ib))=false:=by decide)
  (he:pd (e::es) X.env=(false,xZ e X.env)::pd es X.env:=by exact FL.se rfl) (bj:(yp pos (pd es X.env)).any (·.1)=false:=by exact FL.sp rfl):PVE K X E fr (.Call (.Name x p) (e::es) [] pos) (aP G (lq fa)):=.mk fun hK=>by
 subst hK
 refine(o7 cc hr hg hx ((zqG ha) rfl) hj bA he bj).weak fun σ H Q=>?_
 rintro⟨ρ,rel,g⟩
 exact goX rel g
end
section
variable [Cs]{K:kb}
theorem zlz{q:ib}{st:x8}{N:List ib}(ks:List (Option String))(fr:Bool)(h:dw K x q st f fd)(S:fB N ps (aU st))(eI:ps.length=ks.length)(fR:ps.length<=N.length)
  (hb:∀(aw:gV) (A:ya) (outer:List ye) (s:ir) (H:Hp) (E:XK),aZ k (A.deeper (yQ q (aU st) s.heap.objs.size f aw))->ik K (dC (bE P w) P w K mg base N q (aU st) f aw A outer s H E) E (b7 st) b) :
  bU P w K mg base (bE P w) (k+1) f fd ps (xu K ks fr (uv ks fr N.length b)):=by
 refine h.qO S (fun vs H Q E ⟨ds,_,e,_⟩=>by rw [e.len.1,eI]) fun aw A outer s H vs Q E hr hq=>?_
 obtain⟨ds,cst,fa,q⟩:=hq
 obtain⟨hv,hd⟩:=fa.len
 have b8:L2.start N vs=vs.map some++xY (N.length-ds.length) none:=by unfold L2.start;rw [hv,hd]
 have no:∀(i:Nat) p d,(zb eh ks ds++xY (N.length-ds.length) .no)[i]?≠some (.ow p d):=fun i p d e=>by
  by_cases c:i<(zb eh ks ds).length
  ·rw [zt c] at e
   exact zdt e
  ·rw [z8 (by omega),z9] at e
   split at e <;> cases e
 refine⟨xE K ⟨H,L2.start N vs,zb eh ks ds++xY (N.length-ds.length) .no⟩ E b,(hb aw A outer s H E hr).run rfl _,zb eh ks ds++xY (N.length-ds.length) .no,?_,?_⟩
 ·refine⟨?_,fun a o e _=>e,fun i a d e _=>absurd e (no i false d),fun i=>BL,fun i d e=>rfl,fun i p d e=>absurd e (no i p d)⟩
  rw [b8]
  exact(zhK cst fa).pad _
 ·have kp:∀(ρ':En) (σ':L2.St) (H':Hp),bH K ⟨H,L2.start N vs,zb eh ks ds++xY (N.length-ds.length) .no⟩ ρ' σ' H'->aM H H':=fun ρ' σ' H' r b o e=>r.keep b o e fun⟨i,⟨p,d,z⟩,_⟩=>no i p d z
  rcases q with⟨d,hF,q⟩|⟨c,fs,hF,q⟩
  ·unfold uv at hF
   rw [if_pos hd] at hF
   obtain⟨z,ez,ey⟩:=b6 hF
   rw [ez]
   obtain⟨fl,ρ'⟩:=z
   cases fr with
   | false =>
    cases fl with
    | rt dr=>cases ey;exact fun v σ' H' r fz=>q v H' (kp _ _ _ r) fz
    | nx=>cases ey;exact fun σ' H' r fz=>q .non H' (kp _ _ _ r) (by show Fz K H' .none .non;simp [Fz])
    | _=>cases ey
   | true =>
    cases fl with
    | rf dr=>cases ey;exact fun a σ' H' r ha m=>q (.ref a) H' (kp _ _ _ r) ⟨a,rfl,ha,m⟩
    | _=>cases ey
  ·unfold uv at hF
   rw [if_pos hd] at hF
   cases ez:b (zb eh ks ds++xY (N.length-ds.length) .no) with
   | ok z =>
    rw [ez] at hF
    obtain⟨fl,ρ'⟩:=z
    cases fr <;> cases fl <;> cases hF
   | bad=>rw [ez] at hF;cases hF
   | err c' dj =>
    rw [ez] at hF
    cases hF
    exact fun H' kc=>q H' fun a o e=>kc a o e fun⟨i,⟨p,d,z⟩,_⟩=>no i p d z
end
end
end FL
namespace L2
open PySem PySem.Spec PyProof.Rows
variable {w:x5}{C:dm}{P:x6}{fd:yq}{base:xV}{mg:ib->Option gV}
section
variable {K:kb}
theorem zlk{fI:dm}{q sn n1 f:ib}{st:x8}{p0 p1 p2 p3:xW}(hC:iO K C)(na:eO K C f)(h:dw K "__init__" q st fI fd) (b8:b7 st=[.Assign [.Attribute (.Name sn p0) f p1] (.Name n1 p2) p3]) (S:fB [sn,n1] [sn,n1] (aU st))
  (h0:∀(aw:gV) (A:ya) (outer:List ye) (s:ir) (H:Hp) (E:XK),PE (dC ko P w K mg base [sn,n1] q (aU st) fI aw A outer s H E).bT (.Name sn p0) (cV 0))
  (h1:∀(aw:gV) (A:ya) (outer:List ye) (s:ir) (H:Hp) (E:XK),PE (dC ko P w K mg base [sn,n1] q (aU st) fI aw A outer s H E).bT (.Name n1 p2) (cV 1))
  (hs:∀ env,yV (.Name n1 p2) (some (.Attribute (.Name sn p0) f p1)) p3.line env=pure false:=by intro _;rfl):bU P w K mg base ko 1 fI fd [sn,n1] (xt C f):=by
 refine h.ok (k:=0) S (fun vs H Q E ⟨e,v,ws,z,_⟩=>by rw [z];rfl) fun aw A outer s H vs Q E hr hq=>?_
 obtain⟨e,v,ws,rfl,he,q⟩:=hq
 refine⟨_,by rw [b8];exact qT (zrr (h0 aw A outer s H E) (h1 aw A outer s H E) (hs _)),?_⟩
 exact⟨v,rfl,.ref e,rfl,e,C,ws,rfl,he,hC,na,fun dx z1 z2=>q dx z1 z2⟩
end
variable {k:Nat}{ta:TE}{X:Cx}{m:ib}{te:TX}{t:TA}{ps:List ib}{es:List o1}
section
variable {f:dm}{sp:Sp}{pos apos:xW}{e o:o1}
theorem zrI(he:pT X e te)(hs:yV e none pos.line X.env=pure false:=by rfl):PSX X [.Expr e pos] (fun D E σ H=>te σ H (fun _ H1=>D.nx σ H1) (E σ)):=by
 intro pins s σ H D E I h
 refine DQ (wpAny_Expr_any (yA (he pins s σ H _ _ I h) (fun v s1 hv=>?_) fun ev s1 q=>⟨σ,q⟩) I.quiet hs)
 obtain⟨y,H1,I1,r1,q1⟩:=hv
 exact BW ⟨_,H1,I1,q1⟩
end
end L2
namespace FL
open PySem L2 PySem.Spec
open PyProof.Rows hiding St
variable {i j k:Nat}{q x:ib}{w:x5}{X:Cx}{E:XK}{N ps:List ib}{e:o1}{P:x6}{fd:yq}{base:xV}{f:dm}{mg:ib->Option gV}{g:EF}
section
section
variable [Cs]{K:kb}
theorem _root_.L2.pT.weak{t t':TX}(h:pT X e t)(w:∀ σ H Q E,t' σ H Q E->t σ H Q E):pT X e t':=fun pins s σ H Q E I q=>h pins s σ H Q E I (w σ H Q E q)
def zaj(K:kb)(E:XK)(ρ:En)(σ:L2.St)(H:Hp)(r:R (D×En))(Q:VK):Prop:=match r with
 | .ok x=>∀ H',Rel K x.2 σ H'->bZ ρ x.2 σ H H'->∀ v,Q v H'
 | .err c fs=>∀ H',(∀ a o,H a=some o->¬ MA ρ σ a->H' a=some o)->Wn K E c fs H'
 | .bad=>False
noncomputable def tVU(K:kb)(f:EF):TX:=fun σ H Q E=>∃ ρ,Rel K ρ σ H/\zaj K E ρ σ H (f ρ) Q
structure PVU(K:kb)(X:Cx)(e:o1)(f:EF):Prop where
 run:X.K=K->pT X e (tVU K f)
noncomputable def xq(K:kb)(ks:List (Option String))(Gc:List D->R (Option (String×List D))):Sp:=fun vs H Q _=>∃ ds,h9 H/\jl K H ks ds vs /\
 ((Gc ds=.ok none/\∀ H',aM H H'->Q .non H')\/∃ c fs,Gc ds=.ok (some (c,fs))/\∀ a H',aM H H'->pM K H' a c fs->Q (.ref a) H')
noncomputable def runC(ks:List (Option String))(n:Nat)(f:EF)(ds:List D):R (Option (String×List D)) :=
 if ds.length=ks.length then match f (zb eh ks ds++xY (n-ds.length) .no) with
  | .ok _=>.ok none
  | .err c fs=>.ok (some (c,fs))
  | .bad=>.bad
 else .bad
end
section
variable [Cs]{K:kb}
noncomputable def tCt(K:kb)(Ca:dm)(i j:Nat)(g:EF):TS:=zdk (uE (tC .non) (sC i)) (zdk (fun D σ H=>tVU K g σ H (fun _ H1=>D.nx σ H1) (zh2 K Ca j (uE (cV j) (sC i)) D σ)) (zh4 (cV i)))
theorem zlx{st:x8}{Ca:dm}(ks:List (Option String))(h:dw K x q st f fd)(S:fB N ps (aU st))(eI:ps.length=ks.length)
  (sT:∀ c B ns,Cs.X c=some (B,ns)->zB K (.ref B) (.ref Ca)=some true)(hi:i<N.length)(hj:j<N.length)(dX:i≠j)(hpi:ps.length<=i)
  (hb:∀(aw:gV) (A:ya) (outer:List ye) (s:ir) (H:Hp) (E:XK),aZ k (A.deeper (yQ q (aU st) s.heap.objs.size f aw))->bJ (dC (bE P w) P w K mg base N q (aU st) f aw A outer s H E) (b7 st) (tCt K Ca i j g)) :
  bU P w K mg base (bE P w) (k+1) f fd ps (xq K ks (runC ks N.length g)):=by
 refine h.qO S (fun vs H Q E ⟨ds,_,e,_⟩=>by rw [e.len.1,eI]) fun aw A outer s H vs Q E hr hq=>⟨_,hb aw A outer s H E hr,?_⟩
 obtain⟨ds,cst,fa,q⟩:=hq
 obtain⟨hv,hd⟩:=fa.len
 have fR:ps.length<=N.length:=yx hpi (Ba hi)
 have b8:L2.start N vs=vs.map some++xY (N.length-ds.length) none:=by unfold L2.start;rw [hv,hd]
 have hlen:(L2.start N vs).length=N.length:=by rw [b8,zH,yn,Bx,hv,hd];omega
 have hz:(zb eh ks ds).length=ks.length:=by rw [FO,hd,EA]
 have no:∀(i:Nat) p d,(zb eh ks ds++xY (N.length-ds.length) .no)[i]?≠some (.ow p d):=fun i p d e=>by
  by_cases c:i<(zb eh ks ds).length
  ·rw [zt c] at e
   exact zdt e
  ·rw [z8 (by omega),z9] at e
   split at e <;> cases e
 have ri:(zb eh ks ds++xY (N.length-ds.length) .no)[i]?=some Sl.no:=by
  rw [z8 (by omega),z9,if_pos (by omega)]
 have rs:(zb eh ks ds++xY (N.length-ds.length) Sl.no).set i Sl.no=zb eh ks ds++xY (N.length-ds.length) .no:=by
  refine DF fun m=>?_
  by_cases c:i=m
  ·subst c
   rw [yH (yu.mp ri).1,ri]
  ·rw [yL c]
 have rel:Rel K (zb eh ks ds++xY (N.length-ds.length) .no) ((L2.start N vs).set i (some .non)) H:=by
  have r:=((zhK cst fa).pad (N.length-ds.length)).set (i:=i) (x:=.no) (v:=some .non) trivial (fun _ _ _ z=>nomatch z)
  rw [rs,<- b8] at r
  exact r
 have same:∀{H':Hp},(∀ a o,H a=some o->¬ MA (zb eh ks ds++xY (N.length-ds.length) .no) ((L2.start N vs).set i (some .non)) a->H' a=some o)->aM H H':=fun k a o e=>k a o e fun⟨i,⟨p,d,z⟩,_⟩=>no i p d z
 refine⟨_,rel,?_⟩
 unfold runC at q
 rw [if_pos hd] at q
 cases eg:g (zb eh ks ds++xY (N.length-ds.length) .no) with
 | bad =>
  rw [eg] at q
  rcases q with⟨z,_⟩|⟨_,_,z,_⟩ <;> cases z
 | ok y =>
  rw [eg] at q
  rcases q with⟨_,q⟩|⟨_,_,z,_⟩
  ·exact fun H' r st v=>⟨.non,yH (by rw [hlen];exact hi),q H' (same st.kp)⟩
  ·cases z
 | err c fs =>
  rw [eg] at q
  rcases q with⟨z,_⟩|⟨c',dj,z,q⟩
  ·cases z
  ·cases z
   intro H' k C' dd er
   obtain⟨_,ns,_,hX,_⟩:=id er
   refine⟨C',rfl,sT c C' ns hX,fun e ne=>⟨.ref e,yH (by rw [Aa,hlen];exact hj),⟨.ref e,?_,?_⟩⟩⟩
   ·rw [yL (yU dX),yH (by rw [Aa,Aa,hlen];exact hi)]
   ·have s2:aM H' (upd H' e (iP e C' dd)):=aM.upd ne
    exact q e _ ((same k).trans s2) ⟨C',dd,bX,er.mono (aC.of s2)⟩
end
end
variable {v:Option V}{G:String->List D->R D}{Gc:List D->R (Option (String×List D))}{σ:L2.St}{C:dm}{ns:List ib}{H:Hp}{fa:AF}{c:String}{ks:List (Option String)}{ρ:En}{nm:ib}{p pos px:xW}{b:SF}{y:Sl}{es:List o1}
section
noncomputable def zfh:Option (String×List D)->Sl
 | none=>.val .none
 | some p=>.ob p.1 p.2
noncomputable def q8(i:Nat)(Gc:List D->R (Option (String×List D)))(fa:AF):SF:=fun ρ=>(fa ρ).bind fun x=>(Gc x.1).bind fun o=>match x.2[i]? with
 | some (.ow true _)=>.bad
 | some _=>.ok (.nx,x.2.set i (zfh o))
 | none=>.bad
noncomputable def oz(i:Nat)(tb:List (String×Nat)):EF:=fun ρ=>match ρ[i]? with
 | some (.ob c ds)=>(R.of (tb.lookup c)).bind fun j=>(R.of ds[j]?).bind fun d=>.ok (d,ρ)
 | _=>.bad
noncomputable def cH(i:Nat)(tb:List (String×Bool)):EF:=fun ρ=>match ρ[i]? with
 | some (.ob c _)=>(R.of (tb.lookup c)).bind fun b=>.ok (.bool b,ρ)
 | _=>.bad
noncomputable def oy(i:Nat)(G:String->List D->R D):EF:=fun ρ=>match ρ[i]? with
 | some (.ob c ds)=>(G c ds).bind fun d=>.ok (d,ρ)
 | _=>.bad
noncomputable def runK(n:Nat)(b:SF)(c:String)(fs:List D):R D:=(b (.ob c fs::xY (n-1) .no)).bind fun x=>match x.1 with
 | .rt d=>.ok d
 | _=>.bad
section
variable [Cs]{K:kb}
theorem bH.zhh{C:SC}(r:bH K C ρ σ H)(np:∀ e,ρ[i]?≠some (.ow true e))(hl:i<ρ.length)(o:iV K H y v)(hy:∀ p d,y≠.ow p d):bH K C (ρ.set i y) (σ.set i v) H:=by
 refine⟨r.rel.set o fun _ _ _ z=>absurd z (hy _ _),r.keep,fun j b c' e1 e2=>?_,fun j=>?_,fun j c' e1=>?_,r.nH⟩
 ·by_cases k:i=j
  ·subst k
   rw [yH hl] at e1
   exact absurd (yN e1) (hy _ _)
  ·rw [yL k] at e1 e2
   exact r.own j b c' e1 e2
 ·by_cases k:i=j
  ·subst k
   rw [yH hl,<- r.pin i]
   constructor
   ·rintro⟨_,z⟩;exact absurd (yN z) (hy _ _)
   ·rintro⟨c',z⟩;exact absurd z (np c')
  ·rw [yL k];exact r.pin j
 ·by_cases k:i=j
  ·subst k
   rw [yH hl] at e1
   exact absurd (yN e1) (hy _ _)
  ·rw [yL k] at e1 ⊢
   exact r.fix j c' e1
theorem zhs{pos' wY:xW}(i:Nat)(hN:X.N.Nodup)(cc:Callee X.prog X.w X.K X.mg X.base nm k ps (xq X.K ks Gc))(hr:aZ j X.A)(ha:mO K X ks (e::es) fa)
  (hi:X.N[i]?=some x:=by rfl)(hx:Loc X.env.scope x:=by first|exact Al rfl|exact Ab rfl)(hg:Gl X nm:=by rfl)(hj:k<=j:=by decide)(bA:(nm==("__debug__":ib))=false:=by decide)
  (he:pd (e::es) X.env=(false,xZ e X.env)::pd es X.env:=by exact FL.se rfl) (bj:(yp pos (pd es X.env)).any (·.1)=false:=by exact FL.sp rfl)
  (hs:yV (.Call (.Name nm p) (e::es) [] pos) (some (.Name x pos')) wY.line X.env=pure false:=by rfl) (hf:X.fn x=true\/X.env.scope.names.lookup x=some .local:=by first|exact .inl rfl|exact .inr rfl|assumption) :
  dA K X (.Assign [.Name x pos'] (.Call (.Name nm p) (e::es) [] pos) wY) (q8 i Gc fa):=.mk fun hK C=>by
 subst hK
 refine(o9 hN hi hx (o7 cc hr hg qR (ha rfl) hj bA he bj) hs hf).weak fun Dn σ H=>?_
 rintro⟨ρ,rel,q⟩
 obtain⟨y,ey,q0⟩:=q.bM
 refine⟨ρ,rel.rel,?_⟩
 rw [ey]
 intro H1 r1 aW vs fs
 have ak:=rel.step r1 aW
 obtain⟨o,eo,q1⟩:=(q0.step (aW.dO rel.rel)).bM
 have key:∃ z,y.2[i]?=some z/\(∀ d,z≠.ow true d)/\dI X.K C H1 (.ok (.nx,y.2.set i (zfh o))) Dn:=by
  cases e1:y.2[i]? with
  | none=>rw [e1] at q1;exact q1.elim
  | some z =>
   rw [e1] at q1
   cases z with
   | ow p d =>
    cases p with
    | true=>exact q1.elim
    | false=>exact⟨_,rfl,(fun d z=>nomatch z),q1⟩
   | _=>exact⟨_,rfl,(fun d z=>nomatch z),q1⟩
 obtain⟨z,e1,nz,q2⟩:=key
 have hl:i<y.2.length:=(yu.mp e1).1
 have np:∀ e,y.2[i]?≠some (.ow true e):=fun d w=>by rw [e1] at w;exact nz d (yN w)
 rw [zP]
 refine⟨y.1,ak.rel.cst,fs,?_⟩
 cases o with
 | none =>
  refine .inl ⟨eo,fun H' s=>q2 _ H' ((ak.step (ak.rel.same s) (.of s)).zhh (y:=.val .none) np hl (by show Fz X.K H' .none .non;simp [Fz]) (fun _ _ z=>nomatch z)) (aC.of s)⟩
 | some cf =>
  obtain⟨c,dj⟩:=cf
  exact .inr ⟨c,dj,eo,fun a H' s er=>q2 _ H' ((ak.step (ak.rel.same s) (.of s)).zhh (y:=.ob c dj) np hl (.inr er) (fun _ _ z=>nomatch z)) (aC.of s)⟩
def ErF(K:kb)(f:ib)(c:String)(j:Nat):Prop:=∃ C ns,Cs.X c=some (C,ns)/\ns[j]?=some f/\ns.Nodup/\iO K C/\eO K C f
theorem zgM{ds:List D}(rel:Rel K ρ σ H)(e:ρ[i]?=some (.ob c ds)):∃ a,σ[i]?=some (some (.ref a))/\iV K H (.ob c ds) (some (.ref a)):=by
 have hl:i<σ.length:=by rw [<- rel.len];exact(yu.mp e).1
 have o:=rel.ok i _ _ e (yC hl)
 cases es:σ[i] with
 | none=>rw [es] at o;exact o.elim
 | some v =>
  rw [es] at o
  cases v with
  | ref a=>exact⟨a,by rw [yC hl,es],o⟩
  | _=>exact o.elim
theorem zfi{ds:List D}(ho:Cs.O c=none)(hX:Cs.X c=some (C,ns))(rel:Rel K ρ σ H)(e:ρ[i]?=some (.ob c ds)):∃ a dd vs,σ[i]?=some (some (.ref a))/\H a=some (iP a C dd)/\vs.length=ns.length/\ErD H ns vs dd/\aj K H ds vs:=by
 obtain⟨a,h1,h2⟩:=zgM rel e
 obtain⟨C',dd,z1,_,dq,vs,z2,z3,z4,z5⟩:=Or.resolve_left h2 fun⟨_,_,_,_,z,_⟩=>by rw [ho] at z;cases z
 rw [hX] at z2
 cases z2
 exact⟨a,dd,vs,h1,z1,z3,z4,z5⟩
theorem zcy{α:Type}{c:String}{j:α}:∀{tb:List (String×α)},tb.lookup c=some j->(c,j)∈tb
 | [],h=>by cases h
 | (a,b)::r,h=>by
  rw [ym] at h
  split at h
  ·rename_i q
   rw [eq_of_beq q]
   cases h
   exact yM ..
  ·exact yK _ (zcy h)
theorem zhl{f:ib}(i:Nat)(tb:List (String×Nat))(hO:∀ p∈tb,Cs.O p.1=none)(hE:∀ p∈tb,ErF K f p.1 p.2)(hv:PE X (.Name x px) (cV i):=by exact pv _)(hb:B6 (.Name x px) f X.env (xZ (.Name x px) X.env)=xZ (.Name x px) X.env:=by rfl) :
  PV K X (.Attribute (.Name x px) f pos) (oz i tb):=.mk fun hK=>by
 subst hK
 refine(zqS hv hb).weak fun σ H Q=>?_
 rintro⟨ρ,rel,g⟩
 unfold oz at g
 cases e:ρ[i]? with
 | none=>rw [e] at g;exact g.elim
 | some y =>
  rw [e] at g
  cases y with
  | ob c ds =>
   obtain⟨j,ej,g⟩:=g.cD
   obtain⟨d,ed,g⟩:=g.cD
   have ej':(c,j)∈tb:=by
    cases q:tb.lookup c with
    | none=>rw [q] at ej;cases ej
    | some z=>rw [q] at ej;cases ej;exact zcy q
   have oA:ds[j]?=some d:=by
    cases q:ds[j]? with
    | none=>rw [q] at ed;cases ed
    | some z=>rw [q] at ed;cases ed;rfl
   obtain⟨C,ns,hX,hj,nd,ec,na⟩:=hE _ ej'
   obtain⟨a,dd,vs,h1,h2,h3,h4,h5⟩:=zfi (hO _ ej') hX rel e
   obtain⟨v,ev,fv⟩:=h5.get oA
   cases dd with
   | none =>
    have hn:ns=[]:=h4
    rw [hn] at hj
    cases hj
   | some dx=>exact⟨.ref a,h1,a,C,dx,ns.zip vs,v,rfl,h2,h4,ec,na,zgi nd hj ev,g.now rel v fv⟩
  | _=>exact g.elim
def bg(K:kb)(y:V)(c:String)(b:Bool):Prop:=Cs.O c=none/\∃ B ns,Cs.X c=some (B,ns)/\fZ K B/\x4 K (.ref B) (mS y)=some b
theorem df{tn:ib}{p2:xW}{y:V}(i:Nat)(tb:List (String×Bool))(hy:mS y≠.none)(hE:∀ p∈tb,bg X.K y p.1 p.2)(hT:PE X (.Name tn p2) (tC y))(hm:X.mg "isinstance"=none) (hg:Gl X "isinstance":=by rfl) (hv:PE X (.Name x px) (cV i):=by exact pv _)
  (jB:pd [.Name x px,.Name tn p2] X.env=(false,xZ (.Name x px) X.env)::pd [.Name tn p2] X.env:=by exact FL.se rfl) (eZ:pd [.Name tn p2] X.env=(false,xZ (.Name tn p2) X.env)::pd [] X.env:=by exact FL.se rfl) (bj:(yp pos (pd [.Name tn p2] X.env)).any (·.1)=false:=by exact FL.sp rfl) :
  PV K X (.Call (.Name "isinstance" p) [.Name x px,.Name tn p2] [] pos) (cH i tb):=.mk fun hK=>by
 subst hK
 refine(wV (x:="isinstance") (id:="isinstance") zjG hg hm KC.Bt.isinstance (gQ hv (gQ hT jH eZ) jB) (by decide) (by decide) jB bj).weak fun σ H Q=>?_
 rintro⟨ρ,rel,g⟩
 unfold cH at g
 cases e:ρ[i]? with
 | none=>rw [e] at g;exact g.elim
 | some z =>
  rw [e] at g
  cases z with
  | ob c ds =>
   obtain⟨b,eb,g⟩:=g.cD
   have eb':(c,b)∈tb:=by
    cases q:tb.lookup c with
    | none=>rw [q] at eb;cases eb
    | some z=>rw [q] at eb;cases eb;exact zcy q
   obtain⟨hO,B,ns,hX,ek,kt⟩:=hE _ eb'
   obtain⟨a,dd,vs,h1,h2,h3,h4,h5⟩:=zfi hO hX rel e
   refine⟨.ref a,h1,?_⟩
   refine⟨a,y,B,dd,b,rfl,hy,h2,fun dx ed=>?_,ek,kt,g.now rel _ (mZ _)⟩
   subst ed
   exact⟨_,h4⟩
  | _=>exact g.elim
noncomputable def spK(K:kb)(G:String->List D->R D):Sp:=fun vs H Q _=>∃ a c fs d,vs=[.ref a]/\h9 H/\iV K H (.ob c fs) (some (.ref a))/\G c fs=.ok d/\∀ v H',aM H H'->Fz K H' d v->Q v H'
theorem zhk(i:Nat)(cc:Callee X.prog X.w X.K X.mg X.base nm k ps (spK X.K G))(hr:aZ j X.A)(hv:PE X (.Name x px) (cV i):=by exact pv _)(hg:Gl X nm:=by rfl)(hj:k<=j:=by decide)(bA:(nm==("__debug__":ib))=false:=by decide)
  (he:pd [.Name x px] X.env=(false,xZ (.Name x px) X.env)::pd [] X.env:=by exact FL.se rfl) (bj:(yp pos (pd [] X.env)).any (·.1)=false:=by exact FL.sp rfl) :
  PV K X (.Call (.Name nm p) [.Name x px] [] pos) (oy i G):=.mk fun hK=>by
 subst hK
 refine(o7 cc hr hg qR (gQ hv jH he) hj bA he bj).weak fun σ H Q=>?_
 rintro⟨ρ,rel,g⟩
 unfold oy at g
 cases e:ρ[i]? with
 | none=>rw [e] at g;exact g.elim
 | some z =>
  rw [e] at g
  cases z with
  | ob c ds =>
   obtain⟨d,ed,g⟩:=g.cD
   obtain⟨a,h1,h2⟩:=zgM rel e
   exact⟨.ref a,h1,a,c,ds,d,rfl,rel.cst,h2,ed,fun v H' s fz=>g.new rel s v fz⟩
  | _=>exact g.elim
end
section
variable [Cs]{K:kb}
theorem zlC{n0:ib}{st:x8}(h:dw K x q st f fd)(S:fB N [n0] (aU st))(fR:1<=N.length)
  (hb:∀(aw:gV) (A:ya) (outer:List ye) (s:ir) (H:Hp) (E:XK),aZ k (A.deeper (yQ q (aU st) s.heap.objs.size f aw))->eQ K (dC (bE P w) P w K mg base N q (aU st) f aw A outer s H E) (b7 st) b) :
  bU P w K mg base (bE P w) (k+1) f fd [n0] (spK K (runK N.length b)):=by
 refine h.qO S (fun vs H Q E ⟨_,_,_,_,e,_⟩=>by rw [e];rfl) fun aw A outer s H vs Q E hr hq=>?_
 obtain⟨a,c,fs,d,rfl,cst,sl,hF,q⟩:=hq
 have no:∀(i:Nat) p d,(Sl.ob c fs::xY (N.length-1) .no)[i]?≠some (.ow p d):=fun i p d e=>by
  cases i with
  | zero=>cases e
  | succ i =>
   rw [zz1,z9] at e
   split at e <;> cases e
 have b8:L2.start N [V.ref a]=some (V.ref a)::xY (N.length-1) none:=by unfold L2.start;rfl
 refine⟨tS K ⟨H,L2.start N [.ref a],.ob c fs::xY (N.length-1) .no⟩ b,hb aw A outer s H E hr rfl _,.ob c fs::xY (N.length-1) .no,?_,?_⟩
 ·refine⟨?_,fun a o e _=>e,fun i a d e _=>absurd e (no i false d),fun i=>BL,fun i d e=>rfl,fun i p d e=>absurd e (no i p d)⟩
  rw [b8]
  have r0:Rel K [Sl.ob c fs] [some (V.ref a)] H:=by
   refine⟨rfl,fun i x v e1 e2=>?_,fun i j a z _=>?_,cst⟩
   ·cases i with
    | zero=>cases e1;cases e2;exact sl
    | succ i=>cases e1
   ·obtain⟨⟨p,d,z⟩,_⟩:=z
    cases i with
    | zero=>cases z
    | succ i=>cases z
  exact r0.pad (N.length-1)
 ·unfold runK at hF
  obtain⟨z,ez,ey⟩:=b6 hF
  rw [ez]
  obtain⟨fl,ρ'⟩:=z
  cases fl with
  | rt dr=>cases ey;exact fun v σ' H' r fz=>q v H' (fun b o e=>r.keep b o e fun⟨i,⟨p,d,z⟩,_⟩=>no i p d z) fz
  | _=>cases ey
end
end
variable {i:Int}
section
noncomputable def oQ(b:Bool):List Bool->Option Nat
 | []=>none
 | a::r=>if a=b then some 0 else(oQ b r).map (·+1)
noncomputable def zfQ:D->D->R D
 | .list ds,.bool b=>(R.of (boolsOf ds)).bind fun bs=>(R.of (oQ b bs)).bind fun j=>.ok (.int j)
 | _,_=>.bad
theorem zfH{b:Bool}:∀{bs:List Bool} {j:Nat},oQ b bs=some j->bs[j]?=some b/\∀(m:Nat) a,m<j->bs[m]?=some a->a≠b
 | [],j,h=>by cases h
 | a::r,j,h=>by
  unfold oQ at h
  split at h
  ·rename_i e
   cases h
   exact⟨by rw [e];rfl,fun m a hm=>absurd hm (Nat.not_lt_zero _)⟩
  ·rename_i e
   obtain⟨i,hi,rfl⟩:=Ac.mp h
   obtain⟨h1,h2⟩:=zfH hi
   refine⟨h1,fun m a' hm hg=>?_⟩
   cases m with
   | zero=>cases hg;exact e
   | succ m=>exact h2 m a' (by omega) hg
section
variable [Cs]{K:kb}{o:o1}{f h:EF}
theorem zrY{apos bC:xW}(ho:PV K X o f)(he:PV K X e h)
  (lL:B6 o "index" X.env (xZ o X.env)=xZ o X.env:=by rfl)
  (sO:((yp bC (pd [e] X.env)).all (fun x=>!x.1)&&(backToKw bC (keywordEach [] X.env)).all (fun x=>x.1.isSome)&&decide ([e].length+([]:List Cd).length+(if([]:List Cd).isEmpty then 0 else 1)<30))=true:=by rfl)
  (sR:(apos.endLine==bC.line)=true:=by rfl) (b8:pd [e] X.env=(false,xZ e X.env)::pd [] X.env:=by exact FL.se rfl) (oP:(yp bC (pd [] X.env)).any (·.1)=false:=by exact FL.sp rfl) :
  PV K X (.Call (.Attribute o "index" apos) [e] [] bC) (e2 zfQ f h):=.mk fun hK=>by
 subst hK
 refine(zgU Fx PySem.F.slot_list_index PySem.F.type_list_index zpC (ho rfl) (gQ (he rfl) jH b8) lL sO sR b8 oP).weak fun σ H Q q=>?_
 obtain⟨ρ,rel,q⟩:=q
 refine eE rel q fun dx ρ1 x H1 ak aW fx q1=>?_
 cases dx with
 | list ds =>
  simp only [Fz] at fx
  obtain⟨l,vs,rfl,sx,fs⟩:=fx
  refine⟨.inl ⟨rfl,vs,sx.sq⟩,eE ak q1 fun dy ρ2 y H2 cP du fy q3=>?_⟩
  obtain⟨d,ed,q4⟩:=q3.cD
  cases dy with
  | bool b =>
   simp only [Fz] at fy
   subst fy
   obtain⟨bs,eb,ed⟩:=b6 (show((R.of (boolsOf ds)).bind fun bs=>(R.of (oQ b bs)).bind fun j=>.ok (.int j))=.ok d from ed)
   obtain⟨j,ej,ed⟩:=b6 ed
   cases ed
   have eb':boolsOf ds=some bs:=by
    cases z:boolsOf ds with
    | none=>rw [z] at eb;cases eb
    | some z'=>rw [z] at eb;cases eb;rfl
   have ej':oQ b bs=some j:=by
    cases z:oQ b bs with
    | none=>rw [z] at ej;cases ej
    | some z'=>rw [z] at ej;cases ej;rfl
   obtain⟨rfl,_⟩:=fs.bools eb'
   obtain⟨h1,h2⟩:=zfH ej'
   refine⟨l,bs.map V.bl,.bl b,.bl b,j,rfl,rfl,(aC.nN (du.dO ak) sx).sq,rfl,?_,by rw [yO,h1];rfl,?_,fun m w hm hw=>?_,q4.now cP _ (iw _)⟩
   ·rw [An]
    intro z hz
    obtain⟨z',_,rfl⟩:=zM.mp hz
    rfl
   ·cases b <;> rfl
   ·rw [yO] at hw
    obtain⟨a,ha,rfl⟩:=Ac.mp hw
    have:=h2 m a hm ha
    cases a <;> cases b <;> first|rfl|exact absurd rfl this
  | _=>cases ed
 | _ =>
  obtain⟨y,ey,q2⟩:=q1.bM
  obtain⟨d,ed,_⟩:=q2.cD
  cases ed
end
end
variable {r:Bool}{b t:gV}{N:dm}{cd:ClassData}{n:String}{cs:List dm}
section
section
variable {K:kb}
theorem zeG(s:cy cs K)(e:zk K C=some cd):zk (az cs K) C=some cd:=by
 unfold zk at e ⊢
 split at e
 ·rename_i x y cd' sl ho
  rw [gz s ho fun _ _ z=>nomatch z]
  exact e
 ·cases e
theorem zpB(s:cy cs K)(e:Cj K C b=some r):Cj (az cs K) C b=some r:=by
 obtain⟨cd,e1,e2⟩:=zU.mp e
 exact zU.mpr ⟨cd,zeG s e1,e2⟩
theorem zaQ(s:cy cs K)(e:(zk K C).isSome=true):(zk (az cs K) C).isSome=true:=by
 obtain⟨cd,e1⟩:=E8.mp e
 rw [zeG s e1];rfl
theorem zid(s:cy cs K)(c:(zk K C).isSome=true)(e:B5 K (.ref C)=some t):B5 (az cs K) (.ref C)=some t:=by
 unfold zk at c
 split at c
 ·rename_i x y cd' sl ho
  exact xI s ho (fun _ _ z=>nomatch z) e
 ·cases c
theorem fZ.cut(s:cy cs K)(h:fZ K C):fZ (az cs K) C:=⟨ju s h.ga,ju s h.gn,ju s h.cl,nQ s h.be,zpB s h.ob,zaQ s h.is⟩
theorem kX.cut(s:cy cs K)(h:kX K C):kX (az cs K) C:=⟨zid s h.cl h.ty,zaQ s h.cl,nQ s h.be⟩
theorem zcJ(s:cy cs K)(e:Cp K N=true):Cp (az cs K) N=true:=by
 unfold Cp at e ⊢
 split at e
 ·rename_i ho
  rw [gz s ho fun _ _ z=>nomatch z]
  exact e
 ·cases e
theorem zdl(s:cy cs K){bm:List gV}:∀{l:List gV},Cm K bm l=true->Cm (az cs K) bm l=true
 | [],e=>e
 | v::r,e=>by
  unfold Cm at e ⊢
  rcases Bool.or_eq_true_iff.mp e with q|q
  ·rw [q,Bool.true_or]
  ·rw [Dt]
   right
   split at q
   ·split at q
    ·rename_i ho
     simp only [yw] at q
     rw [gz s ho fun _ _ z=>nomatch z]
     simp only [yw]
     exact⟨⟨zcJ s q.1.1,by rw [wM s (eq_of_beq q.1.2)];rfl⟩,zdl s q.2⟩
    ·cases q
   ·cases q
theorem zfm(s:cy cs K){fI:dm}{bm:List gV}(e:gm K C fI bm n=true):gm (az cs K) C fI bm n=true:=by
 unfold gm at e ⊢
 split at e
 ·rename_i ho
  rw [gz s ho fun _ _ z=>nomatch z]
  split at e
  ·rename_i hm hs
   simp only [yw] at e
   simp only [hm,hs,yw]
   exact⟨⟨⟨e.1.1.1,zdl s e.1.1.2⟩,zcJ s e.1.2⟩,by rw [wM s (eq_of_beq e.2)];exact beq_self_eq_true _⟩
  ·cases e
 ·cases e
theorem zfn(s:cy cs K){bm:List gV}(e:zv K C bm n=true):zv (az cs K) C bm n=true:=by
 unfold zv at e ⊢
 split at e
 ·rename_i ho
  rw [gz s ho fun _ _ z=>nomatch z]
  split at e
  ·rename_i hm hs
   simp only [yw] at e
   simp only [hm,hs,yw]
   exact⟨⟨⟨e.1.1.1,zdl s e.1.1.2⟩,zcJ s e.1.2⟩,by rw [wM s (eq_of_beq e.2)];rfl⟩
  ·cases e
 ·cases e
theorem aI(s:cy cs K){c:gV}(e:x4 K t c=some r):x4 (az cs K) t c=some r:=by
 unfold x4 at e ⊢
 split at e
 ·rename_i h;rw [if_pos h];exact e
 ·rename_i h
  rw [if_neg h]
  unfold PySem.W.kitCls at e ⊢
  cases c with
  | ref C =>
   simp only at e ⊢
   split at e
   ·rename_i z
    simp only [yw] at z
    rw [if_pos (by simp only [yw];exact⟨zaQ s z.1,by rw [zid s z.1 (eq_of_beq z.2)];decide⟩)]
    exact nQ s e
   ·cases e
  | type T =>
   simp only at e ⊢
   split at e
   ·rename_i z
    rw [if_pos z]
    exact nQ s e
   ·cases e
  | _=>cases e
end
end
section
variable [Cs]{K:kb}
end
variable {d:D}
section
noncomputable def vo:o1->Option Int
 | .Constant (.int i) _ _=>some i
 | .UnaryOp .USub (.Constant (.int i) _ _) _=>some (-i)
 | _=>none
noncomputable def zaE:List o1->Option (List D)
 | []=>some []
 | e::r=>(vo e).bind fun i=>(zaE r).map (.int i::·)
noncomputable def cTu:o1->Option D
 | .Tuple es _ _=>(zaE es).bind fun l=>if leB l.length lim=true then some (.tuple l) else none
 | e=>(vo e).map .int
noncomputable def zaF:List o1->Option (List D)
 | []=>some []
 | e::r=>(cTu e).bind fun d=>(zaF r).map (d::·)
variable [Cs]{K:kb}
theorem zaJ(h:vo e=some i):PV K X e (eC (.int i))/\wN e=true:=by
 unfold vo at h
 split at h
 ·cases h;exact⟨ao,rfl⟩
 ·cases h;exact⟨ue uI ao,rfl⟩
 ·cases h
theorem zeq:∀{es:List o1} {ds:List D},zaE es=some ds->dB K X es (pX ds)
 | [],ds,h=>by cases h;exact pf
 | e::r,ds,h=>by
  obtain⟨i,h1,h⟩:=zU.mp h
  obtain⟨l,h2,rfl⟩:=Ac.mp h
  exact bO (zaJ h1).1 (zeq h2) (se (zaJ (K:=K) (X:=X) h1).2)
theorem zes(h:cTu e=some d):PV K X e (eC d)/\wN e=true:=by
 unfold cTu at h
 split at h
 ·obtain⟨l,h1,h⟩:=zU.mp h
  split at h
  ·rename_i c
   cases h
   refine⟨?_,rfl⟩
   have e:aE (pX l)=eC (.tuple l):=by
    funext ρ
    show(R.ok (l,ρ)).bind _=_
    rw [av,eD c];rfl
   rw [<- e]
   exact b9 (zeq h1)
  ·cases h
 ·obtain⟨i,h1,rfl⟩:=Ac.mp h
  exact zaJ h1
theorem zet:∀{es:List o1} {ds:List D},zaF es=some ds->dB K X es (pX ds)
 | [],ds,h=>by cases h;exact pf
 | e::r,ds,h=>by
  obtain⟨d,h1,h⟩:=zU.mp h
  obtain⟨l,h2,rfl⟩:=Ac.mp h
  exact bO (zes h1).1 (zet h2) (se (zes (K:=K) (X:=X) h1).2)
theorem zsa{ds:List D}(h:zaF es=some ds):bo K X (.List es pos) (aV (pX ds)):=cE (zet h)
end
end FL
namespace L2
open PySem PySem.Spec PyProof.Rows
end L2
namespace FL
open PySem L2 PySem.Spec
open PyProof.Rows hiding St
section
end
section
end
end FL
namespace FL
open PySem
end FL
namespace L2
open PySem PySem.Spec PyProof.Rows
end L2
namespace FL
open PySem L2 PySem.Spec
open PyProof.Rows hiding St
variable [Cs]
end FL
namespace L2
open PySem PySem.Spec PyProof.Rows
end L2
namespace FL
open PySem L2 PySem.Spec
open PyProof.Rows hiding St
section
variable [Cs]
end
section
noncomputable def zdx(dom:List Nat):Nat->En->En->Prop
 | _,[],[]=>True
 | k,x0::r0,x::r=>((k∈dom/\∀ p c,x≠.ow p c)\/(x=x0/\∀ p c,x≠.ow p c)\/(k∉dom/\∃(p:Bool) (ns:List Int),x=.ow p (.list (ns.map yy))))/\zdx dom (k+1) r0 r
 | _,_,_=>False
open Classical in
noncomputable def zvi(dom:List Nat)(ρ0:En):SF:=fun ρ=>if zdx dom 0 ρ0 ρ/\∀ k∈dom,k<ρ.length then .ok (.nx,kill dom ρ) else .bad
def LL2(d:D):Prop:=∃ rows:List (List D),rows.length<=1000/\d=.list (rows.map zG)
open Classical in
noncomputable def zvk(i:Nat)(f:EF)(t:SF):SF:=fun ρ=>(f ρ).bind fun y=>if LL2 y.1 then(gN i y.1 y.2).bind t else .bad
variable [Cs]
end
section
mutual
def flat:D->Bool
 | .list _=>false
 | .dict _=>false
 | .tuple xs=>zbC xs
 | _=>true
def zbC:List D->Bool
 | []=>true
 | d::r=>flat d&&zbC r
end
noncomputable def zlv:Sl->Bool
 | .val d=>flat d
 | .ob _ ds=>zbC ds
 | _=>false
noncomputable def zgI:Sl->Bool
 | .ow _ _=>false
 | _=>true
noncomputable def zmy:Sl->Bool
 | .ow _ (.list l)=>(intsOf l).isSome
 | _=>false
noncomputable def E3(dead dom:List Nat):Nat->En->En->Prop
 | _,[],[]=>True
 | k,x0::r0,x::r=>((k∈dead/\zgI x=true)\/(k∉dead/\(x=.no\/(x=x0/\k∉dom/\zgI x=true)\/zlv x=true\/zmy x=true)))/\E3 dead dom (k+1) r0 r
 | _,_,_=>False
open Classical in
noncomputable def zvh(dead dom:List Nat)(t:SF)(ρ0:En):SF:=fun ρ=>if E3 dead dom 0 ρ0 ρ/\∀ k∈dead,k<ρ.length then t (kill dead ρ) else .bad
variable [Cs]
end
variable {C Ca:dm}{p1 p2' p3 pos:xW}{n0 q x:ib}{w:x5}{body:List x8}{X:Cx}{ns ps:List ib}{E:XK}{c:String}{e:o1}{it:IF}{P:x6}{fd:yq}{base:xV}{b:SF}{dom:List Nat}{mg:ib->Option gV}{g:EF}{p2:Nat}
section
section
variable [Cs]{K:kb}
theorem zhe{st:List x8}:ik K X E st dG:=.mk fun _ C=>fun _ _ _ _ _ _ ⟨_,_,g⟩=>g.elim
theorem zrz{tg:o1}{g:GF}(hi:iT K X tg e it)(hg:il K X dom tg g)(hb:ik K X E body b)(hp:Bq (xT X.prog X.w) X.A X.env X.xe:=by exact PassesOwn.leaving)(hc:X.calm=true:=by rfl)(hs:∀ x,AO e X.env x=pure x:=by intro _;rfl) :
  k9 K X E (.For tg e body [] pos) (dH (qE it) (gK g) b):=zry hp hc hi hg hb hs
end
abbrev CTX[Cs](x:ib)(k:Nat)(ps:List ib)(ks:List (Option String))(fr:Bool)(G:List D->R D)(P:x6)(w:x5)(K:kb)(mg:ib->Option gV)(base:xV):Prop:=Callee P w K mg base x k ps (xu K ks fr G)
abbrev CTC[Cs](x:ib)(k:Nat)(ps:List ib)(ks:List (Option String))(G:List D->R (Option (String×List D)))(P:x6)(w:x5)(K:kb)(mg:ib->Option gV)(base:xV):Prop:=Callee P w K mg base x k ps (xq K ks G)
abbrev CTK[Cs](x:ib)(k:Nat)(ps:List ib)(G:String->List D->R D)(P:x6)(w:x5)(K:kb)(mg:ib->Option gV)(base:xV):Prop:=Callee P w K mg base x k ps (spK K G)
section
variable [Cs]{K:kb}{st:x8}{k n:Nat}{f:dm}
theorem fnE(ks:List (Option String))(fr:Bool)(N:List ib)(h:bh K mg x st)
  (hb:∀{f:dm} {aw:gV} {A:ya} {outer:List ye} {s:ir} {H:Hp} {E:XK},aZ k (A.deeper (yQ x (aU st) s.heap.objs.size f aw))->N.Nodup->ik K (dC (bE P w) P w K mg base N x (aU st) f aw A outer s H E) E (b7 st) b)
  (S:fB N ps (aU st):=by exact⟨rfl,rfl,rfl,by decide +kernel,rfl,by decide +kernel,by decide +kernel⟩)(eI:ps.length=ks.length:=by rfl)(fR:ps.length<=N.length:=by decide)
  (gL:∀(kV doc pm:gV) (an:Option dm) (aw ct:gV) (us:List gV),us.length=ps.length->Ax (zh x x (gk st) (b7 st) (aU st) .none kV doc pm an aw ct) ⟨us,[]⟩=pure (ps.zip us):=by
   first
    | exact fun _ _ _ _ _ _ us hl=>match us,hl with | [_],_=>rfl
    | exact fun _ _ _ _ _ _ us hl=>match us,hl with | [_,_],_=>rfl
    | exact fun _ _ _ _ _ _ us hl=>match us,hl with | [_,_,_],_=>rfl
    | exact fun _ _ _ _ _ _ us hl=>match us,hl with | [_,_,_,_],_=>rfl):CTX x (k+1) ps ks fr (uv ks fr N.length b) P w K mg base:=by
 obtain⟨f,fd,hm,F⟩:=h
 exact⟨f,fd,hm,F.kp,F.binds gL,zlz ks fr F S eI fR fun aw A outer s H E hr=>hb hr S.nd⟩
theorem fnC(i j:Nat)(ks:List (Option String))(N:List ib)(h:bh K mg x st)(sT:∀ c B ns,Cs.X c=some (B,ns)->zB K (.ref B) (.ref Ca)=some true)
  (hb:∀{f:dm} {aw:gV} {A:ya} {outer:List ye} {s:ir} {H:Hp} {E:XK},aZ k (A.deeper (yQ x (aU st) s.heap.objs.size f aw))->N.Nodup->bJ (dC (bE P w) P w K mg base N x (aU st) f aw A outer s H E) (b7 st) (tCt K Ca i j g))
  (S:fB N ps (aU st):=by exact⟨rfl,rfl,rfl,by decide +kernel,rfl,by decide +kernel,by decide +kernel⟩)(eI:ps.length=ks.length:=by rfl)(hi:i<N.length:=by decide)(hj:j<N.length:=by decide)(dX:i≠j:=by decide)(hpi:ps.length<=i:=by decide)
  (gL:∀(kV doc pm:gV) (an:Option dm) (aw ct:gV) (us:List gV),us.length=ps.length->Ax (zh x x (gk st) (b7 st) (aU st) .none kV doc pm an aw ct) ⟨us,[]⟩=pure (ps.zip us):=by
   first
    | exact fun _ _ _ _ _ _ us hl=>match us,hl with | [_],_=>rfl
    | exact fun _ _ _ _ _ _ us hl=>match us,hl with | [_,_],_=>rfl
    | exact fun _ _ _ _ _ _ us hl=>match us,hl with | [_,_,_],_=>rfl
    | exact fun _ _ _ _ _ _ us hl=>match us,hl with | [_,_,_,_],_=>rfl):CTC x (k+1) ps ks (runC ks N.length g) P w K mg base:=by
 obtain⟨f,fd,hm,F⟩:=h
 exact⟨f,fd,hm,F.kp,F.binds gL,zlx ks F S eI sT hi hj dX hpi fun aw A outer s H E hr=>hb hr S.nd⟩
theorem fnK(N:List ib)(h:bh K mg x st)
  (hb:∀{f:dm} {aw:gV} {A:ya} {outer:List ye} {s:ir} {H:Hp} {E:XK},aZ k (A.deeper (yQ x (aU st) s.heap.objs.size f aw))->N.Nodup->eQ K (dC (bE P w) P w K mg base N x (aU st) f aw A outer s H E).bT (b7 st) b)
  (S:fB N [n0] (aU st):=by exact⟨rfl,rfl,rfl,by decide +kernel,rfl,by decide +kernel,by decide +kernel⟩)(fR:1<=N.length:=by decide)
  (gL:∀(kV doc pm:gV) (an:Option dm) (aw ct:gV) (us:List gV),us.length=[n0].length->Ax (zh x x (gk st) (b7 st) (aU st) .none kV doc pm an aw ct) ⟨us,[]⟩=pure ([n0].zip us):=by
   exact fun _ _ _ _ _ _ us hl=>match us,hl with | [_],_=>rfl):CTK x (k+1) [n0] (runK N.length b) P w K mg base:=by
 obtain⟨f,fd,hm,F⟩:=h
 exact⟨f,fd,hm,F.kp,F.binds gL,zlC F S fR fun aw A outer s H E hr=>zc6 (hb hr S.nd)⟩
theorem zjg{xe cn n:ib}{p4 p5 p6 p7 p8 p9 p10 p11 p12:xW}{i j:Nat}(hK:X.K=K)(hCa:kX X.K Ca)(hm:X.mg cn=some (.ref Ca))(he:PVU K X e g)(nd:X.N.Nodup)(hi:X.N[i]?=some xe:=by rfl)(hj:X.N[j]?=some n:=by rfl)(hl:X.env.scope.names.lookup n=some .local:=by rfl)(hxe:Loc X.env.scope xe:=by exact Al rfl)(b8:X.stack=X.env::X.outer:=by rfl)(gu:X.env.frame=some X.env.locals:=by rfl)(hg:Gl X cn:=by rfl)
  (hvj:∀ e,PE (rZ X e) (.Name n p7) (cV j):=by intro _;exact pv _)(sW:PE X (.Name xe p11) (cV i):=by exact pv _)(hd:(cn==("__debug__":ib))=false:=by decide) (jB:yV (.Constant .none p2 p2') (some (.Name xe p1)) p3.line X.env=pure false:=by rfl) (eZ:yV (.Name n p7) (some (.Name xe p6)) p8.line X.env=pure false:=by rfl) (hs3:yV e none p4.line X.env=pure false:=by rfl) (hf:X.fn xe=true:=by rfl) :
  bJ X [.Assign [.Name xe p1] (.Constant .none p2 p2') p3,.Try [.Expr e p4] [.ExceptHandler (some (.Name cn p5)) (some n) [.Assign [.Name xe p6] (.Name n p7) p8] p9] [] [] p10,.Return (some (.Name xe p11)) p12] (tCt K Ca i j g):=by
 subst hK
 exact qS (o9 nd hi hxe zgX jB (.inl hf)) (qS (zrw hCa b8 gu (zrI (he.run rfl) hs3) hg hm nd hj hl (fun e=>qT (o9 (X:=rZ X e) nd hi hxe (hvj e) eZ (.inl hf))) hd) (qT (wZ sW)))
end
end
section
end
variable {fI:dm}{α:Type}
section
theorem zfj[Cs]{K:kb}{sn n1 f:ib}{st:x8}{p0 p2:xW}(hm:mg x=some (.ref C))(hO:Cs.O c=none)(hX:Cs.X c=some (C,[f]))
  (ec:gm K C fI dE "ValueError.__new__"=true\/gm K C fI dE "Exception.__new__"=true) (hf:Bv K (.ref fI)=true) (F:dw K "__init__" q st fI fd) (hC:iO K C) (na:eO K C f)
  (b8:b7 st=[.Assign [.Attribute (.Name sn p0) f p1] (.Name n1 p2) p3]) (S:fB [sn,n1] [sn,n1] (aU st))
  (h0:∀(aw:gV) (A:ya) (outer:List ye) (s:ir) (H:Hp) (E:XK),PE (dC ko P w K mg base [sn,n1] q (aU st) fI aw A outer s H E).bT (.Name sn p0) (cV 0))
  (h1:∀(aw:gV) (A:ya) (outer:List ye) (s:ir) (H:Hp) (E:XK),PE (dC ko P w K mg base [sn,n1] q (aU st) fI aw A outer s H E).bT (.Name n1 p2) (cV 1))
  (gL:∀(kV doc pm:gV) (an:Option dm) (aw ct:gV) (us:List gV),us.length=[sn,n1].length->Ax (zh "__init__" q (gk st) (b7 st) (aU st) .none kV doc pm an aw ct) ⟨us,[]⟩=pure ([sn,n1].zip us)):pN P w K mg base x c f 1:=by
 obtain⟨oc,od,kV,doc,pm,an,aw,ct,gC,e,lk,eU⟩:=id F.ex
 exact⟨C,fI,fd,[sn,n1],_,hm,hO,hX,ec,hf,lk,zlk hC na F b8 S h0 h1,F.binds gL⟩
theorem aF{Φ:α->Prop}{a:α}{l:List α}(h:Φ a)(t:∀ p∈l,Φ p):∀ p∈a::l,Φ p:=List.forall_mem_cons.mpr ⟨h,t⟩
theorem cI{Φ:α->Prop}:∀ p∈([]:List α),Φ p:=fun _ z=>nomatch z
end
variable {s1:Array (Option gV)}{col:Option Bool}{r:Bool}{sn:List ib}{ep:Nat}{b c1:gV}{es:Array zT}
section
section
variable {K:kb}{S ns:dm}{oo d1:Option dm}{nm qn:ib}{bs sub:List gV}{hd ab:Bool}{k0 k1 k2 k3 k5:Option gV}{nw n':String}
abbrev uK(C S ns:dm)(oo:Option dm)(nm qn:ib)(bs sub:List gV)(hd ab:Bool)(sn:List ib)(col:Option Bool)(k0 k1 k2 k3 k5:Option gV)(nw:String):xU :=
 ⟨.type "type",oo,.cls ⟨nm,bs,[.ref C,.ref S,.type "ValueError",.type "Exception",.type "BaseException",.type "object"],ns,qn,hd,sn,sub,ab,col,false⟩,#[k0,k1,k2,k3,some (.builtin nw),k5]⟩
theorem zun(h:zv K S dE n'=true):Cm K dE (.ref S::dE)=true:=by
 unfold zv at h
 unfold Cm
 rw [Dt]
 right
 split at h
 ·rename_i ho
  split at h
  ·simp only [yw] at h
   dsimp only
   rw [ho]
   simp only [yw]
   exact⟨⟨h.1.2,h.2⟩,rfl⟩
  ·cases h
 ·cases h
theorem vK(hS:zv K S dE n'=true)(lk:K.lookup C=some (uK C S ns oo nm qn bs sub hd ab sn col k0 k1 k2 k3 k5 nw))(ln:K.lookup ns=some ⟨c1,d1,.dict es ep,s1⟩)(hes:(es.toList.all fun e=>match e.key with | .str _ _=>true|_=>false)=true)(hi:yf K ns "__init__"=some (some (.ref fI))):gm K C fI dE nw=true:=by
 unfold gm
 rw [lk]
 have h1:Cp K ns=true:=by unfold Cp;rw [ln];exact(Array.all_toList (p:=fun e:zT=>match e.key with | .str _ _=>true|_=>false)).symm.trans hes
 simp only [yw,h1,hi,zun hS,beq_self_eq_true,AG,and_self]
theorem zeI(lk:K.lookup C=some (uK C S ns oo nm qn bs sub hd ab sn col k0 k1 k2 k3 k5 nw)):(zk K C).isSome=true/\((zk K C).any fun cd=>qQ cd.mro)=true:=by
 unfold zk
 rw [lk]
 exact⟨rfl,rfl⟩
theorem vx(e:zB K (.ref C) b=some r):(zk K C).isSome=true:=by
 obtain⟨cd,e1,_⟩:=zU.mp (show(zk K C).bind _=some r from e)
 rw [e1];rfl
theorem zgQ(h:nw="ValueError.__new__"\/nw="Exception.__new__") (e:gm K C fI dE nw=true):gm K C fI dE "ValueError.__new__"=true\/gm K C fI dE "Exception.__new__"=true:=by
 rcases h with rfl|rfl
 ·exact .inl e
 ·exact .inr e
end
end
end FL
namespace L2
open PySem PySem.Spec PyProof.Rows
variable {k:Nat}{w:x5}{X:Cx}{x:ib}{t:TA}{CX:h8}{e:o1}{P:x6}{fd:yq}{base:xV}{ps:List ib}{mg:ib->Option gV}{es:List o1}
section
variable {f C:dm}{sp:Sp}{p pos:xW}
noncomputable def zua(C:dm)(sp:Sp)(t:TA):TX:=fun σ H Q E=>t σ H fun vs H1=>∀ x dx,H1 x=none->H1 dx=none->dx≠x->sp (.ref x::vs) (upd (upd H1 dx (.own x)) x (.ins C dx [])) (fun v H2=>v=.non/\Q (.ref x) H2) E
theorem zq3(M:Mk X.K C f)(F:bU X.prog X.w X.K X.mg X.base (bE X.prog X.w) k f fd ps sp)(hr:aZ (k+1) X.A)(hx:X.ex=[])(hg:Gl X x)(hm:X.mg x=some (.ref C))(hb:Binds X.K fd ps [])
  (ha:PA X.bT (e::es) t)(bA:(x==("__debug__":ib))=false:=by decide) (he:pd (e::es) X.env=(false,xZ e X.env)::pd es X.env:=by exact FL.se rfl) (bj:(yp pos (pd es X.env)).any (·.1)=false:=by exact FL.sp rfl) :
  pT X (.Call (.Name x p) (e::es) [] pos) (zua C sp t):=by
 intro pins s σ H Q E I h
 refine C7 (qI I hg hm ?_ bA)
 refine E6 (h₀:=X.base) I.ok.mod.qG M.kp (yA (ha pos pins s σ H _ (I.hZ _) h) (fun us s1 hh=>?_) fun _ _ z=>z.elim) he bj
 obtain⟨vs,H1,I1',r,q⟩:=hh
 have I1:=I1'.jj
 refine⟨I1.eJ,?_⟩
 have hq:=q (s1.heap.objs.size+1) s1.heap.objs.size (I1.ax.fresh (Nat.le_succ _)) (I1.ax.fresh (x9 _)) (yI (C4 _))
 have I2:=Inv.made (C:=C) I1
 have r2:Vals (V.ref (s1.heap.objs.size+1)::vs) (yt (s1.heap.objs.size+1)::us):=.cons rfl r
 have hl:(yt (s1.heap.objs.size+1)::us++[]).length=ps.length:=by
  have e:=r2.length
  rw [F.len _ _ _ _ hq] at e
  rw [zP]
  exact e.symm
 refine C6 (zpt (f:=f) I1.eJ M.makes M.init (beq_iff_eq.mp M.fn) (CA (F.run _ X.stack _ _ ⟨yt (s1.heap.objs.size+1)::us,[]⟩ (yt (s1.heap.objs.size+1)::us++[]) _ _ E (hr.make C us [])
  (I2.zbv.make C us []) (hb _ (yt (s1.heap.objs.size+1)::us) I2.eJ hl) (by rw [zP];exact r2) hq) fun r s' jA=>?_))
 cases r with
 | error ev =>
  obtain⟨ea,cls,dd,T,H',e1,os,bare,un,ax,fl,ne,nT,oe,oT,qe⟩:=jA
  exact⟨ea,cls,dd,T,H',e1,I2.zaM (ch:=[]) os un ax bare (fun b z=>absurd z (by simp)),fl,ne,nT,I2.nw hx oe,I2.nw hx oT,qe⟩
 | ok fl =>
  cases fl with
  | ret u =>
   obtain⟨v,H',I3,rv,ev,q3⟩:=I2.after jA
   subst ev
   exact⟨rv,⟨V.ref (s1.heap.objs.size+1),H',I3,rfl,q3⟩⟩
  | next=>exact za jA
  | brk=>exact za jA
  | cont=>exact za jA
theorem bU.or{K:kb}{sp1 sp2:Sp}(F1:bU P w K mg base CX k f fd ps sp1)(F2:bU P w K mg base CX k f fd ps sp2):bU P w K mg base CX k f fd ps (fun vs H Q E=>sp1 vs H Q E\/sp2 vs H Q E) :=
 ⟨fun vs H Q E h=>h.elim (F1.len vs H Q E) (F2.len vs H Q E),fun A st s H kw us vs Q E hr h0 hb r h=>h.elim (F1.run A st s H kw us vs Q E hr h0 hb r) (F2.run A st s H kw us vs Q E hr h0 hb r)⟩
end
end L2
namespace FL
open PySem L2 PySem.Spec
open PyProof.Rows hiding St
variable {j k n:Nat}{q x:ib}{w:x5}{F G:List D->R D}{C f:dm}{X:Cx}{p pos pos':xW}{E:XK}{fa:AF}{c:String}{e:o1}{P:x6}{fd:yq}{base:xV}{b:SF}{ps:List ib}{mg:ib->Option gV}{g:EF}{es:List o1}
section
noncomputable def uy(g:EF):SF:=fun ρ=>match g ρ with
 | .err c fs=>.err c fs
 | _=>.bad
noncomputable def xi(n m:Nat)(b:SF)(ds:List D):R D:=if ds.length=n then(match b (Sl.no::(ds.map Sl.val++xY (m-n-1) .no)) with
 | .err c fs=>.err c fs
 | _=>.bad) else .bad
noncomputable def vF(F G:List D->R D)(fa:AF):EF:=fun ρ=>(lq fa ρ).bind fun x=>match G x.1 with
 | .err c fs=>.err c fs
 | _=>match F x.1 with
  | .ok (.tuple _)=>.ok (.none,x.2)
  | _=>.bad
section
variable [Cs]{K:kb}
theorem zrB{fr:Bool}(i:Nat)(hN:X.N.Nodup)(he:PVE K X E fr e g)(hi:X.N[i]?=some x:=by rfl)(hx:Loc X.env.scope x:=by first|exact Al rfl|exact Ab rfl)(hs:yV e (some (.Name x pos')) pos.line X.env=pure false:=by rfl)(hf:X.fn x=true\/X.env.scope.names.lookup x=some .local:=by first|exact .inl rfl|exact .inr rfl|assumption) :
  k9 K X E (.Assign [.Name x pos'] e pos) (uy g):=.mk fun hK C=>(o9 hN hi hx (he.run hK) hs hf).weak fun Dn σ H=>by
 rintro⟨ρ,rel,q⟩
 refine⟨ρ,rel.rel,?_⟩
 unfold uy at q
 cases eg:g ρ with
 | err c fs =>
  rw [eg] at q
  exact fun H' k=>q H' (zcs rel .refl k)
 | _=>rw [eg] at q;exact q.elim
noncomputable def zhW(K:kb)(C:dm)(n:Nat)(G:List D->R D):Sp:=fun vs H Q E=>∃ a dx us ds c fs,vs=.ref a::us/\us.length=n/\H a=some (.ins C dx [])/\h9 H/\aj K H ds us/\G ds=.err c fs/\∀ H',aM H H'->Wn K E c fs H'
noncomputable def zdf(K:kb)(c:String)(C:dm)(n:Nat)(F G:List D->R D):Sp:=fun vs H Q E=>spI K c C n F vs H Q E\/zhW K C n G vs H Q E
section
theorem zsm(M:Mk X.K C f)(Fk:bU X.prog X.w X.K X.mg X.base (bE X.prog X.w) k f fd ps (zdf X.K c C n F G))(hr:aZ (k+1) X.A)(hm:X.mg x=some (.ref C))(hb:Binds X.K fd ps [])(ha:dB K X.bT (e::es) fa)(hx:X.ex=[]:=by rfl)(hg:Gl X x:=by rfl)(hl:kn fa n:=by repeat (first|exact uY|refine uX ?_))
  (bA:(x==("__debug__":ib))=false:=by decide) (he:pd (e::es) X.env=(false,xZ e X.env)::pd es X.env:=by exact FL.se rfl) (bj:(yp pos (pd es X.env)).any (·.1)=false:=by exact FL.sp rfl) :
  PVU K X (.Call (.Name x p) (e::es) [] pos) (vF F G fa):=.mk fun hK=>by
 subst hK
 refine(zq3 M Fk hr hx hg hm hb (ha rfl) bA he bj).weak fun σ H Q E=>?_
 rintro⟨ρ,rel,g⟩
 refine⟨ρ,rel,?_⟩
 unfold vF lq at g
 cases ey:fa ρ with
 | ok y =>
  rw [ey] at g
  have hy:=hl ρ y ey
  intro H1 ak aW vs fs a dx na ndx ne
  have s1:aM H1 (upd (upd H1 dx (.own a)) a (.ins C dx [])):=(aM.upd ndx).trans (aM.upd (by rw [aT (yU ne)];exact na))
  replace g:zaj X.K E ρ σ H (match G y.1 with
   | .err c fs=>.err c fs
   | _=>match F y.1 with
    | .ok (.tuple _)=>.ok (.none,y.2)
    | _=>.bad) Q:=g
  have go:(∀ c' dj,G y.1≠.err c' dj)->zdf X.K c C n F G (.ref a::vs) (upd (upd H1 dx (.own a)) a (.ins C dx [])) (fun v H2=>v=.non/\Q (.ref a) H2) E:=fun nG=>by
   have g2:zaj X.K E ρ σ H (match F y.1 with
    | .ok (.tuple _)=>.ok (.none,y.2)
    | _=>.bad) Q:=by
    split at g
    ·rename_i c' dj eG;exact absurd eG (nG c' dj)
    ·exact g
   cases eF:F y.1 with
   | ok d =>
    cases d with
    | tuple fds =>
     rw [eF] at g2
     refine .inl ⟨a,dx,vs,y.1,fds,rfl,by rw [fs.len,hy],bX,ak.cst.mono (aC.of s1),fs.mono (aC.of s1),eF,fun H' kp ob=>⟨rfl,?_⟩⟩
     have s2:aM H1 H':=fun b o eb=>kp b o (fun z=>by subst z;rw [na] at eb;cases eb) (s1 b o eb)
     exact g2 H' (ak.same s2) (aW.trans (.of s2)) _
    | _=>rw [eF] at g2;exact g2.elim
   | _=>rw [eF] at g2;exact g2.elim
  cases eG:G y.1 with
  | err c' dj =>
   rw [eG] at g
   exact .inr ⟨a,dx,vs,y.1,c',dj,rfl,by rw [fs.len,hy],bX,ak.cst.mono (aC.of s1),fs.mono (aC.of s1),eG,fun H' s2=>g H' fun b o q nb=>s2 b o (s1 b o (aW.kp b o q nb))⟩
  | _=>exact go fun c' dj z=>by rw [eG] at z;cases z
 | _=>rw [ey] at g;exact g.elim
end
end
section
variable [Cs]{K:kb}
theorem zlB{st:x8}{Ca:dm}{N:List ib}(h:dw K x q st f fd)(S:fB N ps (aU st))(eI:ps.length=n+1)(fR:ps.length<=N.length)
  (hb:∀(aw:gV) (A:ya) (outer:List ye) (s:ir) (H:Hp) (E:XK),aZ k (A.deeper (yQ q (aU st) s.heap.objs.size f aw))->ik K (dC (bE P w) P w K mg base N q (aU st) f aw A outer s H E) E (b7 st) b) :
  bU P w K mg base (bE P w) (k+1) f fd ps (zhW K Ca n (xi n N.length b)):=by
 refine h.qO S (fun vs H Q E ⟨a,dx,us,ds,c,fs,e,hl,_⟩=>by rw [e,yg,hl,eI]) fun aw A outer s H vs Q E hr hq=>?_
 obtain⟨a,dx,us,ds,c,fs,rfl,hl,ha,cst,fa,hF,q⟩:=hq
 have hd:ds.length=n:=by rw [<- fa.len,hl]
 unfold xi at hF
 rw [if_pos hd] at hF
 have b8:L2.start N (.ref a::us)=some (.ref a)::(us.map some++xY (N.length-n-1) none):=by
  unfold L2.start
  rw [yg,hl,yi,yX,show N.length-(n+1)=N.length-n-1 by omega]
 have no:∀(i:Nat) p d,(Sl.no::(ds.map Sl.val++xY (N.length-n-1) .no))[i]?≠some (.ow p d):=fun i p d e=>by
  rcases yr.mp (zg e) with m|m
  ·cases m
  ·rcases Au.mp m with m|m
   ·obtain⟨_,_,z⟩:=zM.mp m;cases z
   ·have:=FP m;cases this
 have r0:=(zdc cst fa).pad (N.length-n-1)
 refine⟨xE K ⟨H,L2.start N (.ref a::us),Sl.no::(ds.map Sl.val++xY (N.length-n-1) .no)⟩ E b,(hb aw A outer s H E hr).run rfl _,Sl.no::(ds.map Sl.val++xY (N.length-n-1) .no),?_,?_⟩
 ·refine⟨?_,fun a o e _=>e,fun i a d e _=>absurd e (no i false d),fun i=>BL,fun i d e=>rfl,fun i p d e=>absurd e (no i p d)⟩
  rw [b8]
  refine⟨by simpa using r0.len,fun i x v e1 e2=>?_,fun i j b ⟨⟨p,d,z⟩,_⟩=>absurd z (no i p d),cst⟩
  cases i with
  | zero=>simp at e1;subst e1;trivial
  | succ i=>exact r0.ok i x v (by simpa using e1) (by simpa using e2)
 ·cases ez:b (Sl.no::(ds.map Sl.val++xY (N.length-n-1) .no)) with
  | err c' dj =>
   rw [ez] at hF
   cases hF
   exact fun H' kc=>q H' fun a o e=>kc a o e fun⟨i,⟨p,d,z⟩,_⟩=>no i p d z
  | _=>rw [ez] at hF;cases hF
end
end
variable {Gc:List D->R (Option (String×List D))}{ks:List (Option String)}{nm:ib}{g:AF}
section
noncomputable def qo(G:List D->R (Option (String×List D)))(fa:AF):EF:=fun ρ=>(fa ρ).bind fun x=>(G x.1).bind fun o=>.ok (.bool o.isSome,x.2)
section
variable [Cs]{K:kb}
theorem zsl{m:Nat}{wY:xW}(cc:Callee X.prog X.w X.K X.mg X.base nm k ps (xq X.K ks Gc))(hr:aZ j X.A)(ha:mO K X ks (e::es) fa)
  (hg:Gl X nm:=by rfl)(hj:k<=j:=by decide)(bA:(nm==("__debug__":ib))=false:=by decide)
  (he:pd (e::es) X.env=(false,xZ e X.env)::pd es X.env:=by exact FL.se rfl) (bj:(yp pos (pd es X.env)).any (·.1)=false:=by exact FL.sp rfl) :
  eS K X (.Compare (.Call (.Name nm p) (e::es) [] pos) [.IsNot] [.Constant .none m pos'] wY) (FL.tB (qo Gc fa)):=.mk fun hK=>by
 subst hK
 refine(zrK (zqI (o7 cc hr hg qR (ha rfl) hj bA he bj))).weak fun σ H Q=>?_
 rintro⟨ρ,rel,q⟩
 replace q:Good X.K ρ σ H ((fa ρ).bind fun x=>(Gc x.1).bind fun o=>.ok (o.isSome,x.2)) fun b _ H'=>Q b H':=by
  unfold FL.tB qo at q
  cases ef:fa ρ with
  | ok x =>
   rw [ef] at q
   cases eg:Gc x.1 with
   | ok o=>simp only [R.bind,eg] at q ⊢;exact q
   | _=>simp only [R.bind,eg] at q;exact q.elim
  | _=>rw [ef] at q;exact q.elim
 obtain⟨y,ey,q0⟩:=q.bM
 refine⟨ρ,rel,?_⟩
 rw [ey]
 intro H1 r1 aW vs fs
 have q3:=q0.step aW
 rw [zP]
 refine⟨y.1,r1.cst,fs,?_⟩
 obtain⟨o,eo,q1⟩:∃ o,Gc y.1=.ok o/\Good X.K y.2 σ H1 (.ok (o.isSome,y.2)) fun b _ H'=>Q b H':=by
  cases eo:Gc y.1 with
  | ok o=>rw [eo] at q3;exact⟨o,rfl,q3⟩
  | _=>rw [eo] at q3;exact q3.elim
 cases o with
 | none=>exact .inl ⟨eo,fun H' s=>⟨_,rfl,q1.new r1 s⟩⟩
 | some cf=>exact .inr ⟨cf.1,cf.2,eo,fun a H' s er=>⟨_,rfl,q1.new r1 s⟩⟩
end
end
variable {ns:List ib}
section
def rF[Cs](P:x6)(w:x5)(K:kb)(mg:ib->Option gV)(base:xV)(x:ib)(c:String)(k:Nat)(ps:List ib)(n:Nat)(F G:List D->R D):Prop :=
 ∃(C f:dm) (fd:yq),mg x=some (.ref C)/\Mk K C f/\Binds K fd ps []/\bU P w K mg base (bE P w) k f fd ps (zdf K c C n F G)
abbrev ziu[Cs](x:ib)(c:String)(k:Nat)(ps:List ib)(n:Nat)(F G:List D->R D)(P:x6)(w:x5)(K:kb)(mg:ib->Option gV)(base:xV):Prop:=rF P w K mg base x c k ps n F G
section
variable [Cs]{K:kb}{st:x8}{G1 G2:List D->R D}
theorem rF.good(m:rF P w K mg base x c k ps n G1 G2):Maker P w K mg base x c k ps n G1:=by
 obtain⟨C,f,fd,h1,h2,h3,h4⟩:=m
 exact⟨C,f,fd,h1,h2,h3,h4.imp fun _ _ _ _ h=>.inl h⟩
theorem zlw(N:List ib)(B:Ob K c C ns)(sV:∀ c' dq,Cs.O c'=some (C,dq)->dq.length=ns.length)(hm:mg x=some (.ref C))(M:Mk K C f)(F:dw K "__init__" q st f fd)
  (hb:∀{aw:gV} {A:ya} {outer:List ye} {s:ir} {H:Hp} {E:XK} (Cc:SC),aZ k (A.deeper (yQ q (aU st) s.heap.objs.size f aw))->N.Nodup->bJ (dC (bE P w) P w K mg base N q (aU st) f aw A outer s H E).bT (b7 st) (rh K Cc C ns g))
  (hbx:∀{aw:gV} {A:ya} {outer:List ye} {s:ir} {H:Hp} {E:XK},aZ k (A.deeper (yQ q (aU st) s.heap.objs.size f aw))->N.Nodup->ik K (dC (bE P w) P w K mg base N q (aU st) f aw A outer s H E) E (b7 st) b)
  (S:fB N ps (aU st):=by exact⟨rfl,rfl,rfl,by decide +kernel,rfl,by decide +kernel,by decide +kernel⟩) (eI:ps.length=n+1:=by rfl) (fR:ps.length<=N.length:=by decide) (qB:ns.length<1000:=by decide)
  (gL:∀(kV doc pm:gV) (an:Option dm) (aw ct:gV) (us:List gV),us.length=ps.length->Ax (zh "__init__" q (gk st) (b7 st) (aU st) .none kV doc pm an aw ct) ⟨us,[]⟩=pure (ps.zip us):=by
   first
    | exact fun _ _ _ _ _ _ us hl=>match us,hl with | [_,_],_=>rfl
    | exact fun _ _ _ _ _ _ us hl=>match us,hl with | [_,_,_],_=>rfl
    | exact fun _ _ _ _ _ _ us hl=>match us,hl with | [_,_,_,_],_=>rfl):rF P w K mg base x c (k+1) ps n (xh n N.length ns.length g) (xi n N.length b) :=
 ⟨C,f,fd,hm,M,F.binds gL,(zlA B.o sV B.nd qB F S eI fR fun Cc aw A outer s H E hr=>bJ.bT (hb Cc hr S.nd)).or (zlB F S eI fR fun aw A outer s H E hr=>hbx hr S.nd)⟩
end
section
variable [Cs]{K:kb}
theorem zsn(m:rF X.prog X.w X.K X.mg X.base x c k ps n F G)(hr:aZ j X.A)(ha:dB K X.bT (e::es) fa)(hx:X.ex=[]:=by rfl)(hl:kn fa n:=by repeat (first|exact uY|refine uX ?_))(hg:Gl X x:=by rfl)(hj:k+1<=j:=by decide)(bA:(x==("__debug__":ib))=false:=by decide)
  (he:pd (e::es) X.env=(false,xZ e X.env)::pd es X.env:=by exact FL.se rfl) (bj:(yp pos (pd es X.env)).any (·.1)=false:=by exact FL.sp rfl):PVU K X (.Call (.Name x p) (e::es) [] pos) (vF F G fa):=by
 obtain⟨C,f,fd,hm,M,hb,Fk⟩:=m
 exact zsm M Fk (hr.mono hj) hm hb ha hx hg hl bA he bj
end
end
section
noncomputable def zcF(k d:D):R D:=match d with
 | .list xs=>bc (zK (.list xs)&&zK k) (.ok (.bool (!xs.any fun y=>Am y k)))
 | _=>.bad
theorem zsX[Cs](hr:aZ j X.A):bf X (yj .NotIn) (rD X.K zcF):=by
 have hu:=zuE hr
 intro pins s σ H x y v u Q I rx ry h
 obtain⟨dx,dy,d,tx,ty,e,q⟩:=h
 cases dy with
 | list xs =>
  obtain⟨c,e⟩:=gi (show bc _ _=.ok d from e)
  cases e
  rw [yw] at c
  obtain⟨as,ra⟩:=Is.reads I _ y u (ty.is (Bi c.1)) ry
  obtain⟨bs,rb⟩:=Is.reads I _ x v (tx.is (Bi c.2)) rx
  exact SeqAt.notIn_list_reads ra rb (Bi c.1) (Bi c.2) (room_in_shaped c.2 (by omega)) ⟨.bl _,H,I,rfl,q _ H (aM.refl _) (by simp [Fz])⟩
 | _=>exact nomatch (show(R.bad:R D)=.ok d from e)
end
end FL
namespace K09
open PySem FL
noncomputable def zea:SF:=(aG (dF (e1 (fT "int") (eV 0)) (iX (e1 (fT "bool") (eV 0)))))
noncomputable def iR:List D->R D:=bG false 1 1 zea
noncomputable def zil:SF:=(pD (nO 3) (tB (e2 dn (eV 3) (eC (.int 0)))) (eN 2 3 (eV 3) (e2 fP (eV 2) (eV 3))))
noncomputable def zd8:SF:=(aq (eN 2 3 (e1 jq (eV 0)) (e1 jq (eV 1)))
  (aq zil
  (aG (eV 2))))
noncomputable def zdy:List D->R D:=bG false 2 4 zd8
noncomputable def zda:EF:=(fN 1 [] (iE (eV 0)) (gN 0) fq (e2 bD (eV 0) (eC (.tuple [(.int 0),(.int 1)]))))
noncomputable def vg:SF:=(aG (e1 pZ zda))
noncomputable def rB:List D->R D:=bG false 1 1 vg
noncomputable def zd5:SF:=(aq (aH (gN 2) (e2 ay (e2 ay (e2 dQ (e2 ay (e2 fP (eV 0) (e2 ay (e2 c9 (eC (.int 10)) (eC (.int 18))) (eC (.int 9)))) (e2 dQ (eC (.int 7)) (eV 1))) (eC (.int 739108512309184756019283746561))) (e2 dQ (eC (.int 7919)) (eV 1))) (eC (.int 1))))
  (aq (aH (gN 2) (e2 fP (e2 dQ (eV 2) (eV 2)) (e2 ay (e2 c9 (eC (.int 10)) (eC (.int 60))) (eC (.int 7)))))
  (aG (e2 fP (e2 dQ (e2 ay (eV 2) (eC (.int 40503))) (e2 ay (eV 2) (eC (.int 57)))) (e2 ay (e2 c9 (eC (.int 10)) (eC (.int 60))) (eC (.int 7)))))))
noncomputable def zab:List D->R D:=bG false 2 3 zd5
noncomputable def zd2:SF:=(aq (aQ (tB (e2 fc (eV 1) (e1 bR (eV 0)))) (aG (e2 aB (eV 0) (eV 1))) aS)
  (aG (e2 ay (e2 dQ (eC (.int 3)) (eV 1)) (eC (.int 1)))))
noncomputable def uL:List D->R D:=bG false 2 2 zd2
noncomputable def zik:SF:=(pD (nO 3) (tB (e2 dn (eV 3) (eC (.int 0)))) (eN 2 3 (eV 3) (e2 fP (eV 2) (eV 3))))
noncomputable def zd4:SF:=(aq (aH (gN 2) (e1 jq (eV 0)))
  (aq (aH (gN 3) (eV 1))
  (aq zik
  (aG (aE (aa (e2 iY (eV 0) (eV 2)) (aa (e2 iY (eV 1) (eV 2)) ae)))))))
noncomputable def pP:List D->R D:=bG false 2 4 zd4
noncomputable def zhA:EF:=(fN 1 [] (iE (eV 1)) (gN 0) fq (e1 intD (eV 0)))
noncomputable def zd3:SF:=(aq (aH (gN 1) (aV (aa (cH 0 [("NoRow",false),("NoPair",false),("NoCount",false)]) (aa (cH 0 [("NoRow",false),("NoPair",false),("NoCount",true)]) (aa (cH 0 [("NoRow",false),("NoPair",false),("NoCount",false)]) ae)))))
  (aq (aH (gN 1) (e2 ay (eV 1) (aV (aa (cH 0 [("NoRow",false),("NoPair",false),("NoCount",false)]) (aa (cH 0 [("NoRow",false),("NoPair",false),("NoCount",false)]) (aa (cH 0 [("NoRow",false),("NoPair",false),("NoCount",false)]) ae))))))
  (aq (aH (gN 1) (e2 ay (eV 1) (aV (aa (cH 0 [("NoRow",false),("NoPair",false),("NoCount",false)]) (aa (cH 0 [("NoRow",false),("NoPair",false),("NoCount",false)]) (aa (cH 0 [("NoRow",false),("NoPair",true),("NoCount",false)]) ae))))))
  (aq (aH (gN 1) (e2 ay (eV 1) (aV (aa (cH 0 [("NoRow",false),("NoPair",false),("NoCount",false)]) (aa (cH 0 [("NoRow",true),("NoPair",false),("NoCount",false)]) (aa (cH 0 [("NoRow",false),("NoPair",false),("NoCount",false)]) ae))))))
  (aq (aH (gN 1) (e2 ay (eV 1) (aV (aa (cH 0 [("NoRow",false),("NoPair",false),("NoCount",false)]) (aa (cH 0 [("NoRow",false),("NoPair",false),("NoCount",false)]) (aa (cH 0 [("NoRow",false),("NoPair",false),("NoCount",false)]) ae))))))
  (aq (aH (gN 1) (e2 ay (eV 1) (aV (aa (cH 0 [("NoRow",false),("NoPair",false),("NoCount",false)]) (aa (cH 0 [("NoRow",false),("NoPair",false),("NoCount",false)]) (aa (cH 0 [("NoRow",false),("NoPair",false),("NoCount",false)]) ae))))))
  (aq (aH (gN 1) (e2 ay (eV 1) (aV (aa (cH 0 [("NoRow",false),("NoPair",false),("NoCount",false)]) (aa (cH 0 [("NoRow",false),("NoPair",false),("NoCount",false)]) (aa (cH 0 [("NoRow",false),("NoPair",false),("NoCount",false)]) ae))))))
  (aq (aH (gN 1) (e2 ay (eV 1) (aV (aa (cH 0 [("NoRow",false),("NoPair",false),("NoCount",false)]) (aa (cH 0 [("NoRow",false),("NoPair",false),("NoCount",false)]) (aa (cH 0 [("NoRow",false),("NoPair",false),("NoCount",false)]) ae))))))
  (aq (aH (gN 1) (e2 ay (eV 1) (aV (aa (cH 0 [("NoRow",false),("NoPair",false),("NoCount",false)]) (aa (cH 0 [("NoRow",false),("NoPair",false),("NoCount",false)]) (aa (cH 0 [("NoRow",false),("NoPair",false),("NoCount",false)]) ae))))))
  (aq (aQ (FL.bI (FL.bu (tE (cH 0 [("NoRow",true),("NoPair",true),("NoCount",true)]))) (FL.bI (FL.bu (tE (cH 0 [("NoRow",true),("NoPair",true),("NoCount",true)]))) (tB (e2 dn (e1 zh0 zhA) (eC (.int 1)))))) (aG (eC (.str ""))) aS)
  (aq (aH (gN 2) (aV (aa (eC (.str "Broken")) (aa (eC (.str "NoCount")) (aa (eC (.str "NoDeed")) (aa (eC (.str "NoLeast")) (aa (eC (.str "NoLine")) (aa (eC (.str "NoMatch")) (aa (eC (.str "NoName")) (aa (eC (.str "NoNumber")) (aa (eC (.str "NoPair")) ae)))))))))))
  (aq (aH (gN 2) (e2 ay (eV 2) (aV (aa (eC (.str "NoPlace")) (aa (eC (.str "NoRow")) (aa (eC (.str "NoShelf")) (aa (eC (.str "NoSquare")) (aa (eC (.str "NoSum")) (aa (eC (.str "NoText")) (aa (eC (.str "NoTree")) (aa (eC (.str "NoWord")) (aa (eC (.str "NotActing")) ae))))))))))))
  (aq (aH (gN 2) (e2 ay (eV 2) (aV (aa (eC (.str "NotBare")) (aa (eC (.str "NotEaten")) (aa (eC (.str "NotFree")) (aa (eC (.str "NotGap")) (aa (eC (.str "NotKept")) (aa (eC (.str "NotNought")) (aa (eC (.str "NotOne")) (aa (eC (.str "TooDeep")) ae)))))))))))
  (aG (e2 aB (e2 ay (eV 2) (aV (aa (eC (.str "TooLong")) ae))) (e2 zfQ (eV 1) (eC (.bool true))))))))))))))))))
noncomputable def mL:String->List D->R D:=runK 3 zd3
noncomputable def zd9:SF:=(aq (aQ (FL.bI (FL.bu (tE (e1 (fT "tuple") (eV 0)))) (tB (e2 dn (e1 bR (eV 0)) (eC (.int 2))))) (aG (eC (.bool false))) aS)
  (aq (aH (gT [(gN 1),(gN 2)]) (eV 0))
  (aq (aQ (FL.bI (FL.bu (tE (aP iR (aa (eV 1) ae)))) (FL.bI (FL.bu (tE (aP iR (aa (eV 2) ae)))) (tB (e2 fc (eV 2) (eC (.int 1)))))) (aG (eC (.bool false))) aS)
  (aG (e2 bD (aP zdy (aa (eV 1) (aa (eV 2) ae))) (eC (.int 1)))))))
noncomputable def jP:List D->R D:=bG false 1 3 zd9
noncomputable def rS:SF:=(aG (dF (aP iR (aa (eV 0) ae)) (fG i9 fc (eC (.int 0)) (eV 0) (eV 1))))
noncomputable def jQ:List D->R D:=bG false 2 2 rS
noncomputable def zd6:SF:=(aq (aQ (tB (e2 qt (eV 0) (e2 c9 (eC (.int 10)) (eC (.int 18))))) (gE (aV (aa (e2 cv (eV 0) (e2 c9 (eC (.int 10)) (eC (.int 18)))) (aa (eC (.int 0)) (aa (eV 1) ae))))) aS)
  (gE (aV (aa (aP zab (aa (eV 0) (aa (eV 1) ae))) (aa (eC (.int 0)) (aa (e2 ay (e2 fP (eV 0) (e2 ay (e2 c9 (eC (.int 10)) (eC (.int 18))) (eC (.int 9)))) (eV 1)) ae))))))
noncomputable def zac:List D->R D:=bG true 2 2 zd6
noncomputable def zd7:SF:=(aq (aQ (tB (e2 fc (m2 aB 0 (eC (.int 0))) (eV 1))) (aq (setM 0 (e2 ay (m2 aB 0 (eC (.int 1))) (eC (.int 1))) (eC (.int 1)))
  (setM 0 (e2 ay (m2 aB 0 (eC (.int 0))) (e2 dQ (eV 1) (aP zab (aa (m2 aB 0 (eC (.int 2))) (aa (e2 ay (e2 dQ (eC (.int 11)) (m2 aB 0 (eC (.int 1)))) (eC (.int 5))) ae))))) (eC (.int 0)))) aS)
  (aq (aH (gN 2) (e2 fP (m2 aB 0 (eC (.int 0))) (eV 1)))
  (aq (setM 0 (e2 iY (m2 aB 0 (eC (.int 0))) (eV 1)) (eC (.int 0)))
  (aG (eV 2)))))
noncomputable def aX:List D->R (D×List D):=run [true,false] false 3 zd7
noncomputable def qY:EF:=(fN 1 [] (iE (eV 0)) (gN 0) fq (aP jP (aa (eV 0) ae)))
noncomputable def qd:SF:=(aG (dF (e1 (fT "list") (eV 0)) (e1 pZ qY)))
noncomputable def pQ:List D->R D:=bG false 1 1 qd
noncomputable def rV:SF:=(aq (aQ (FL.bI (FL.bu (tE (e1 (fT "tuple") (eV 0)))) (tB (e2 dn (e1 bR (eV 0)) (eC (.int 3))))) (aG (eC (.bool false))) aS)
  (aq (aH (gT [(gN 2),(gN 3),(gN 4)]) (eV 0))
  (aG (dF (aP jQ (aa (eV 2) (aa (eV 1) ae))) (dF (aP jQ (aa (eV 3) (aa (eV 1) ae))) (e2 fc (eV 2) (eV 3)))))))
noncomputable def f9:List D->R D:=bG false 2 5 rV
noncomputable def vc:SF:=(aq (aH (gN 1) (aA aX [.m 0,.v (eC (.int 6))]))
  (aq (aQ (tB (e2 fc (eV 1) (eC (.int 3)))) (aG (e2 aB (aV (pX [(.tuple [(.int 0),(.int 1)]),(.tuple [(.int 1),(.int 1)]),(.tuple [(.int (-1)),(.int 1)])])) (eV 1))) aS)
  (aq (aQ (tB (e2 fc (eV 1) (eC (.int 5)))) (aG (aP pP (aa (e2 cv (aA aX [.m 0,.v (eC (.int 13))]) (eC (.int 6))) (aa (e2 ay (eC (.int 1)) (e2 dQ (aA aX [.m 0,.v (eC (.int 4))]) (e2 cv (eV 1) (eC (.int 3))))) ae)))) aS)
  (aG (aP pP (aa (e2 cv (aA aX [.m 0,.v (e2 ay (e2 dQ (eC (.int 2)) (e2 c9 (eC (.int 10)) (eC (.int 4)))) (eC (.int 1)))]) (e2 c9 (eC (.int 10)) (eC (.int 4)))) (aa (e2 ay (eC (.int 1)) (aA aX [.m 0,.v (eC (.int 30))])) ae)))))))
noncomputable def mM:List D->R (D×List D):=run [true] false 2 vc
noncomputable def zhB:EF:=(fN 1 [3] (jC (aa (e2 ay (eV 3) (eC (.int 1))) (aa (eV 1) ae))) (gN 0) fq (aE (aa (eV 1) (aa (eV 0) ae))))
noncomputable def zie:SF:=(aH (gN 2) (e2 ay (eV 2) zhB))
noncomputable def zdr:SF:=(dH (fS (aa (eV 1) ae)) (gN 3) zie)
noncomputable def uj:EF:=(fN 1 [0] (iE (eV 2)) (gN 0) (tB (e2 lK (aA aX [.m 1,.v (eC (.int 3))]) (eC (.int 0)))) (eV 0))
noncomputable def xg:EF:=(fN 2 [2] (lQ (aa (eV 2) ae)) (gT [(gN 0),(gN 1)]) (tB (e2 zcF (eV 1) (cS (eV 2) cZ (c7 (eV 0))))) (eV 1))
noncomputable def rR:SF:=(aq (aH (gN 2) (aV ae))
  (aq zdr
  (aq (aH (gN 2) (e2 ay uj (cS (eV 2) cZ (c7 (eC (.int 1))))))
  (aG xg))))
noncomputable def rA:List D->R (D×List D):=run [true,false] false 4 rR
noncomputable def vb:SF:=(aq (aH (gN 2) (aA aX [.m 0,.v (eC (.int 5))]))
  (aq (aQ (tB (e2 bD (eV 2) (eC (.int 0)))) (aG (cS (eV 1) cZ (c7 (e1 mw (eC (.int 1)))))) aS)
  (aq (aQ (tB (e2 bD (eV 2) (eC (.int 1)))) (aG (e2 ay (eV 1) (aV (aa (aE (aa (eC (.int 0)) (aa (eC (.int 1)) ae))) ae)))) aS)
  (aq (aQ (tB (e2 bD (eV 2) (eC (.int 2)))) (aG (e2 aB (aV (aa (e1 ft (eV 1)) (aa (eC .none) (aa (eC (.str "0")) (aa (eC (.int 3)) (aa (eC (.bool true)) ae)))))) (aA aX [.m 0,.v (eC (.int 5))]))) aS)
  (aq (aH (gN 3) (aA aX [.m 0,.v (e1 bR (eV 1))]))
  (aq (aH (gN 4) (e2 aB (aV (aa (aE (aa (eC (.int 2)) (aa (eC (.int 4)) ae))) (aa (aE (aa (eC (.int 1)) (aa (eC (.int 0)) ae))) (aa (aE (aa (eC (.int 1)) (aa (e1 mw (eC (.int 1))) ae))) (aa (eC (.int 1)) (aa (eC (.bool true)) (aa (eC .none) (aa (eC (.str "1")) (aa (aE (aa (eC (.int 1)) ae)) (aa (aE (aa (eC (.bool true)) (aa (eC (.int 1)) ae))) (aa (aE (aa (eC (.int 3)) (aa (eC (.int 1)) (aa (eC (.int 1)) ae)))) ae))))))))))) (aA aX [.m 0,.v (eC (.int 10))])))
  (aG (e2 ay (e2 ay (cS (eV 1) cZ (c7 (eV 3))) (aV (aa (eV 4) ae))) (cS (eV 1) (c7 (e2 ay (eV 3) (eC (.int 1)))) cZ)))))))))
noncomputable def pO:List D->R (D×List D):=run [true,false] false 5 vb
noncomputable def va:SF:=(aq (aH (gT [(gN 4),(gN 5),(gN 6)]) (e2 aB (eV 1) (eV 2)))
  (aq (aH (gN 7) (aA aX [.m 0,.v (eC (.int 6))]))
  (aq (aQ (tB (e2 bD (eV 7) (eC (.int 0)))) (aG (aE (aa (eV 5) (aa (eV 4) ae)))) aS)
  (aq (aQ (tB (e2 bD (eV 7) (eC (.int 1)))) (aG (aE (aa (eV 4) (aa (e2 aB (aV (aa (eV 3) (aa (e2 ay (eV 3) (e2 c9 (eC (.int 10)) (eC (.int 9)))) (aa (e2 c9 (eC (.int 10)) (eC (.int 19))) ae)))) (aA aX [.m 0,.v (eC (.int 3))])) ae)))) aS)
  (aq (aQ (tB (e2 bD (eV 7) (eC (.int 2)))) (aG (aE (aa (e2 cv (e1 mw (eC (.int 1))) (aA aX [.m 0,.v (e2 c9 (eC (.int 10)) (eC (.int 3)))])) (aa (eV 5) ae)))) aS)
  (aq (aQ (tB (e2 bD (eV 7) (eC (.int 3)))) (aG (e2 aB (aV (aa (aE (aa (eV 4) (aa (eC .none) ae))) (aa (aE (aa (eC (.str "0")) (aa (eV 5) ae))) (aa (aE (aa (eV 4) (aa (eC (.bool true)) ae))) (aa (aE (aa (eC (.bool false)) (aa (eV 5) ae))) (aa (aE (aa (eV 4) (aa (eV 4) ae))) ae)))))) (aA aX [.m 0,.v (eC (.int 5))]))) aS)
  (aq (aQ (FL.fL (tB (e2 bD (eV 7) (eC (.int 4)))) (tB (e2 lK (eV 2) (eC (.int 0))))) (aq (aH (gN 8) (e2 aB (eV 1) (aA aX [.m 0,.v (eV 2)])))
  (aG (aE (aa (e2 aB (eV 8) (eC (.int 0))) (aa (e2 aB (eV 8) (eC (.int 1))) ae))))) aS)
  (aG (aE (aa (eV 5) (aa (eV 5) ae)))))))))))
noncomputable def kY:List D->R (D×List D):=run [true,false,false,false] false 9 va
noncomputable def ui:EF:=(fN 1 [] (iE (e2 aB (m2 aB 1 (eV 4)) (eC (.int 2)))) (gN 0) fq (aE (aa (eC (.int 0)) (aa (eC (.int 1)) ae))))
noncomputable def rk:SF:=(aQ (FL.fL (tB (e2 bD (cS (m2 aB 1 (eV 4)) cZ (c7 (eC (.int 2)))) (eV 2))) (tB (e2 bD (aA aX [.m 0,.v (eC (.int 2))]) (eC (.int 0))))) (setM 1 (aE (aa (e2 aB (m2 aB 1 (eV 4)) (eC (.int 0))) (aa (e2 aB (m2 aB 1 (eV 4)) (eC (.int 1))) (aa ui ae)))) (eV 4)) aS)
noncomputable def zdq:SF:=(dH (fS (aa (eV 3) ae)) (gN 4) rk)
noncomputable def rQ:SF:=zdq
noncomputable def nU:List D->R (D×List D):=run [true,true,false,false] false 5 rQ
noncomputable def mP:SF:=(aG (dF (aP pQ (aa (eV 0) ae)) (e2 bD (e1 bR (eV 0)) (eV 1))))
noncomputable def ie:List D->R D:=bG false 2 2 mP
noncomputable def u6:SF:=(aq (fo (dZ 2 gJ))
  (aq (dH (qE (lQ (aa (eV 1) ae))) (gK (gT [(gN 3),(gN 4)])) (aq (aQ (jM (FL.bu (tE (aP f9 (aa (eV 4) (aa (eV 0) ae)))))) (kj "NoPair" true (aa (eV 3) ae)) (fo aS))
  (aq (fo (aH (gT [(gN 5),(gN 6),(gN 7)]) (eV 4)))
  (aq (aQ (jM (tB (fV inD (aE (aa (eV 5) (aa (eV 6) ae))) 2))) (kj "NoPair" true (aa (eV 3) ae)) (fo aS))
  (aq (aQ (jM (FL.bu (tE (aP ie (aa (eV 7) (aa (e2 ay (eV 0) (eC (.int 1))) ae)))))) (kj "NoRow" true (aa (eV 3) ae)) (fo aS))
  (fo (gj 2 (aE (aa (eV 5) (aa (eV 6) ae))) (e1 ft (eV 7)))))))))
  dG))
noncomputable def jT:List D->R D:=uv [none,none] true 8 u6
noncomputable def xJ:SF:=(aq (aQ (FL.bu (tE (aP f9 (aa (eV 4) (aa (eV 0) ae))))) dG aS)
  (aq (aH (gT [(gN 5),(gN 6),(gN 7)]) (eV 4))
  (aq (aQ (tB (fV inD (aE (aa (eV 5) (aa (eV 6) ae))) 2)) dG aS)
  (aq (aQ (FL.bu (tE (aP ie (aa (eV 7) (aa (e2 ay (eV 0) (eC (.int 1))) ae))))) dG aS)
  (gj 2 (aE (aa (eV 5) (aa (eV 6) ae))) (e1 ft (eV 7)))))))
noncomputable def xP:SF:=(dH (lQ (aa (eV 1) ae)) (gT [(gN 3),(gN 4)]) xJ)
noncomputable def vi:SF:=(aq (dZ 2 gJ)
  (aq xP
  (jh 2)))
noncomputable def uM:List D->R D:=bG true 2 8 vi
noncomputable def u5:SF:=(aq (aQ (jM (FL.bI (FL.bu (tE (aP iR (aa (eV 1) ae)))) (FL.bu (tB (fG i9 i9 (eC (.int 1)) (eV 1) (eC (.int 6))))))) (kj "NoCount" false (aa (eC (.str "a table has one to six ways")) ae)) (fo aS))
  (aq (uy (aP jT (lq (aa (eV 1) (aa (eV 2) ae)))))
  dG))
noncomputable def oh:List D->R D:=xi 2 4 u5
noncomputable def uh:EF:=(fN 2 [3] (iE (e1 uA (eV 3))) (gT [(gN 0),(gN 1)]) (FL.bu (tE (aP rB (aa (e2 jt (eV 2) (aE (aa (eV 0) (aa (eV 1) ae)))) ae)))) (aE (aa (eV 0) (aa (eV 1) (aa (e2 jt (eV 2) (aE (aa (eV 0) (aa (eV 1) ae)))) ae)))))
noncomputable def u9:AF:=(xm (aQ (FL.bI (FL.bu (tE (aP iR (aa (eV 1) ae)))) (FL.bu (tB (fG i9 i9 (eC (.int 1)) (eV 1) (eC (.int 6)))))) dG aS)
  (xm (aH (gN 3) (aP uM (aa (eV 1) (aa (eV 2) ae))))
  (aa (eV 1) (aa (e1 ft uh) ae))))
noncomputable def rq:List D->R D:=xh 2 4 2 u9
noncomputable def qc:EF:=(vF rq oh (aa (eV 0) (aa (eV 1) ae)))
noncomputable def iQ:List D->R (Option (String×List D)):=runC [none,none] 4 qc
noncomputable def zdb:EF:=(fN 1 [2] (fS (aa (e2 ay (eV 3) (eC (.int 1))) ae)) (gN 0) fq (aA mM [.m 1]))
noncomputable def uG:SF:=(jk 4 iW (aE (aa (eV 5) (aa (eV 6) (aa zdb ae)))))
noncomputable def xN:SF:=(dH (iE (aA rA [.m 2,.v (eV 3)])) (gT [(gN 5),(gN 6)]) uG)
noncomputable def uH:SF:=(aq (dZ 2 (aP zac (aa (eV 1) (aa (eC (.int 9)) ae))))
  (aq (aH (gN 3) (e2 ay (eC (.int 2)) (aA aX [.m 2,.v (eC (.int 5))])))
  (aq (dZ 4 (aV ae))
  (aq xN
  (aq (iJ 4 (aQ (tB (qo iQ (aa (eV 3) (aa (eV 4) ae)))) (aG (eC (.bool false))) aS))
  (aq (aH (gN 7) (aA aX [.m 2,.v (e1 bR (eV 4))]))
  (aq (aH (gT [(gN 5),(gN 6),(gN 8)]) (e2 aB (eV 4) (eV 7)))
  (aq (aH (gN 9) (e2 aB (aV (aa (eC (.str "NoPair")) (aa (eC (.str "NoRow")) ae))) (aA aX [.m 2,.v (eC (.int 2))])))
  (aq (dZ 10 (e1 iG (eV 4)))
  (aq (aQ (tB (e2 bD (eV 9) (eC (.str "NoPair")))) (aq (aH (gT [(gN 5),(gN 6)]) (aA kY [.m 2,.v (eV 4),.v (eV 7),.v (eV 3)]))
  (sE (aA nU [.m 2,.m 10,.v (aE (aa (eV 5) (aa (eV 6) ae))),.v (eV 7)]))) aS)
  (aq (aQ (FL.bI (tB (e2 bD (eV 9) (eC (.str "NoRow")))) (tB (e2 bD (aA aX [.m 2,.v (eC (.int 2))]) (eC (.int 0))))) (aH (gN 8) (aA pO [.m 2,.v (eV 8)])) aS)
  (aq (setM 10 (aE (aa (eV 5) (aa (eV 6) (aa (eV 8) ae)))) (eV 7))
  (aq (aQ (tB (e2 fc (e2 ay (eV 7) (eC (.int 1))) (m1 bR 10))) (aq (aH (gN 11) (e2 ay (e2 ay (eV 7) (eC (.int 1))) (aA aX [.m 2,.v (e2 cv (e2 cv (m1 bR 10) (eV 7)) (eC (.int 1)))])))
  (setM 10 (e2 aB (aV (aa (m2 aB 10 (eV 11)) (aa (aE (aa (eC (.int 1)) (aa (eC (.int 0)) (aa (aV ae) ae)))) (aa (aE (aa (eC (.int 0)) (aa (eC (.int 1)) (aa (aV (aa (aE (aa (eC (.int 2)) (aa (eC (.int 2)) ae))) ae)) ae)))) ae)))) (aA aX [.m 2,.v (eC (.int 3))])) (eV 11))) aS)
  (aq (iJ 10 (q8 12 iQ (aa (eV 3) (aa (eV 10) ae))))
  (aq (aQ (FL.bI (tB (e2 dn (oy 12 mL) (eV 9))) (FL.bI (tB (e2 dn (oz 12 [("NoRow",0),("NoPair",0)]) (eV 7))) (tE (e1 (fT "bool") (oz 12 [("NoRow",0),("NoPair",0)]))))) (aG (eC (.bool false))) aS)
  (aq (aH (gN 13) (aV (aa (eC (.int 0)) (aa (eC (.int 7)) (aa (e2 cv (e1 mw (eC (.int 1))) (aA aX [.m 2,.v (eC (.int 50))])) (aa (e2 ay (eC (.int 7)) (aA aX [.m 2,.v (e2 c9 (eC (.int 10)) (eC (.int 19)))])) (aa (eC (.bool true)) (aa (eC (.bool false)) (aa (eC .none) (aa (eC (.str "3")) ae))))))))))
  (aq (q8 12 iQ (aa (e2 aB (eV 13) (aA aX [.m 2,.v (eC (.int 8))])) (aa (e2 aB (aV (aa (eV 4) (aa (eV 10) (aa (aV ae) ae)))) (aA aX [.m 2,.v (eC (.int 3))])) ae)))
  (aQ (tB (e2 dn (oy 12 mL) (eC (.str "NoCount")))) (aG (eC (.bool false))) aS))))))))))))))))))
noncomputable def xO:SF:=(dH (iE (e2 ay (cS (eV 0) cZ (c7 (eC (.int 6)))) (aV (aa (aP uL (aa (eV 0) (aa (eC (.int 6)) ae))) ae)))) (gN 1) uH)
noncomputable def vh:SF:=(aq xO
  (aG (eC (.bool true))))
noncomputable def rC:List D->R D:=bG false 1 14 vh
end K09
namespace K09
open PySem L2 PySem.Spec FL
open PyProof.Rows hiding St
variable {aJ aK aO bp dS fA fa kA kB kC kE kF kG kH kI kJ kK kL kM kN kO kP kQ kR kT kU kW kr ku kx kz oE:dm}{P:x6}{fd zlp:yq}{mg:ib->Option gV}{rj:yS}{base:xV}{w:x5}
section
noncomputable def top(i:Nat):x8:=PySem.Challenge.pw_swaprest_k09_what_is_no_table.main.body.getD i (.Pass ⟨0,0,0,0⟩)
noncomputable def jZ(i j:Nat):x8:=match top i with
  | .ClassDef _ _ _ b _ _ _ _ _ _ _=>b.getD j (.Pass ⟨0,0,0,0⟩)
  | s=>s
variable [Cs]
structure Cst(mg:ib->Option gV)(rj:yS)(bp:dm):Prop where
  wC:mg "MOST_WAYS"=some (.int 6 rj)
  zcw:mg "NOUGHT"=some (.ref bp)
  zuH:∃ o,Cs.C bp=some (.frz o (.tup [.int 0,.int 1]))
section
variable {K:kb}
abbrev uV:=CT "is_whole" 1 ["one"] 1 false iR
abbrev zdO:=CT "common_divisor" 1 ["one","other"] 2 false zdy
abbrev zdQ:=CT "is_of_noughts" 1 ["row"] 1 false rB
abbrev zan:=CT "_law_mixed" 1 ["_law_cell","_law_k"] 2 false zab
abbrev zdE:=CT "_law_at" 1 ["_law_script","_law_k"] 2 false uL
abbrev zdK:=CT "_law_low" 1 ["_law_top","_law_bottom"] 2 false pP
abbrev zdJ:=CTK "_law_class" 1 ["_law_error"] mL
abbrev zdP:=CT "is_number" 2 ["one"] 1 false jP
abbrev zdS:=CT "is_way" 2 ["one","count"] 2 false jQ
abbrev zdN:=CT "_law_purse" 2 ["_law_cell","_law_k"] 2 true zac
abbrev nZ:=pL "_law_take" 2 ["_law_purse_here","_law_many"] [true,false] false aX
abbrev zdR:=CT "is_row" 3 ["row"] 1 false pQ
abbrev zap:=CT "names_two_ways" 3 ["leaving","count"] 2 false f9
abbrev zdL:=pL "_law_number" 3 ["_law_purse_here"] [true] false mM
abbrev zdM:=pL "_law_pairs" 3 ["_law_purse_here","_law_count"] [true,false] false rA
abbrev zdG:=pL "_law_bad_row" 3 ["_law_purse_here","_law_row"] [true,false] false pO
abbrev zdF:=pL "_law_bad_pair" 3 ["_law_purse_here","_law_leavings","_law_at_here","_law_count"] [true,false,false,false] false kY
abbrev zdH:=pL "_law_blank_one" 3 ["_law_purse_here","_law_bad","_law_pair","_law_at_here"] [true,true,false,false] false nU
abbrev zao:=CT "is_row_of" 4 ["row","width"] 2 false ie
abbrev zdD:=CTX "rows_by_pair" 5 ["count","leavings"] [none,none] true jT
abbrev zdT:=CT "rows_by_pair" 5 ["count","leavings"] 2 true uM
abbrev zam[Cs]:=ziu "Table" "Table" 6 ["self","count","leavings"] 2 rq oh
abbrev ziT[Cs]:=CTI "Table" "Table" 6 ["self","count","leavings"] 2 rq
abbrev zdI:=CTC "_law_caught" 8 ["_law_count","_law_leavings"] [none,none] iQ
variable (B:Blt mg)(C:Cst mg rj bp)
include B C
variable (cR:Ob K "Table" fA ["count","leavings"])
include cR
theorem znl(h:bh K mg "is_whole" (top 31)):uV P w K mg base:=iu ["one"] h fun hr nd=>by
  unfold zea
  exact(bW (qU (qV zoZ B.bS B.wH Bt.int (af 0)) (uc (zr2 (qV zfW B.bS B.wG Bt.bool (af 0))))))
theorem znf(h:bh K mg "common_divisor" (top 32)):zdO P w K mg base:=iu ["one","other","high","low"] h fun hr nd=>by
  unfold zd8 zil
  exact(aR (zc7 2 3 nd (jd zaI B.tJ Bt.abs (af 0)) (jd zaI B.tJ Bt.abs (af 1)))
      (aR (zhv (nO 3) Ez (cO (nM hr) (af 3) ao) (fi (zc7 2 3 nd (af 3) (aL oZ (af 2) (af 3)))))
      (bW (af 2))))
theorem znh(h:bh K mg "is_of_noughts" (top 41)):zdQ P w K mg base:=iu ["row"] h fun hr nd=>by
  unfold vg zda
  exact(bW (jd (zep rfl) B.wF Bt.all (bo.pv (cp ["one"] [] ["one"] (nJ (af 0)) (fun nd=>(bL 0 nd)) qX (xa (gD hr) (af 0) (zrX rfl C.zcw C.zuH (fun _=>by simp [aj,Fz])))))))
theorem zna(h:bh K mg "_law_mixed" (top 55)):zan P w K mg base:=iu ["_law_cell","_law_k","_law_number_here"] h fun hr nd=>by
  unfold zd5
  exact(aR (cF 2 nd (aL bB (aL bB (aL j7 (aL bB (aL oZ (af 0) (aL bB (aL jb ao ao) ao)) (aL j7 ao (af 1))) ao) (aL j7 ao (af 1))) ao))
      (aR (cF 2 nd (aL oZ (aL j7 (af 2) (af 2)) (aL bB (aL jb ao ao) ao)))
      (bW (aL oZ (aL j7 (aL bB (af 2) ao) (aL bB (af 2) ao)) (aL bB (aL jb ao ao) ao)))))
theorem zm3(h:bh K mg "_law_at" (top 58)):zdE P w K mg base:=iu ["_law_script","_law_k"] h fun hr nd=>by
  unfold zd2
  exact(aR (dD (cO (nL hr) (af 1) (jd mQ B.j5 Bt.len (af 0))) (bW (fg cQ (af 0) (af 1))) cN)
      (bW (aL bB (aL j7 ao (af 1)) ao)))
theorem zm9(h:bh K mg "_law_low" (top 59)):zdK P w K mg base:=iu ["_law_top","_law_bottom","_law_one","_law_other"] h fun hr nd=>by
  unfold zd4 zik
  exact(aR (cF 2 nd (jd zaI B.tJ Bt.abs (af 0)))
      (aR (cF 3 nd (af 1))
      (aR (zhv (nO 3) Ez (cO (nM hr) (af 3) ao) (fi (zc7 2 3 nd (af 3) (aL oZ (af 2) (af 3)))))
      (bW (b9 (a2 (aL (zcQ hr) (af 0) (af 2)) (aL (zcQ hr) (af 1) (af 2))))))))
theorem zm8(h:bh K mg "_law_class" (top 64))  (zbQ:mg "Broken"=some (.ref kr)) (za0:∀ p∈([("NoRow",false),("NoPair",false),("NoCount",false)]:List (String×Bool)),bg K (.ref kr) p.1 p.2) (v3:mg "NoCount"=some (.ref aO)) (za1:∀ p∈([("NoRow",false),("NoPair",false),("NoCount",true)]:List (String×Bool)),bg K (.ref aO) p.1 p.2) (zbR:mg "NoDeed"=some (.ref ku)) (za2:∀ p∈([("NoRow",false),("NoPair",false),("NoCount",false)]:List (String×Bool)),bg K (.ref ku) p.1 p.2) (zbS:mg "NoLeast"=some (.ref kx)) (za3:∀ p∈([("NoRow",false),("NoPair",false),("NoCount",false)]:List (String×Bool)),bg K (.ref kx) p.1 p.2) (zbT:mg "NoLine"=some (.ref kz)) (za4:∀ p∈([("NoRow",false),("NoPair",false),("NoCount",false)]:List (String×Bool)),bg K (.ref kz) p.1 p.2) (zbU:mg "NoMatch"=some (.ref kA)) (za5:∀ p∈([("NoRow",false),("NoPair",false),("NoCount",false)]:List (String×Bool)),bg K (.ref kA) p.1 p.2) (zbV:mg "NoName"=some (.ref kB)) (za6:∀ p∈([("NoRow",false),("NoPair",false),("NoCount",false)]:List (String×Bool)),bg K (.ref kB) p.1 p.2) (zbW:mg "NoNumber"=some (.ref kC)) (za7:∀ p∈([("NoRow",false),("NoPair",false),("NoCount",false)]:List (String×Bool)),bg K (.ref kC) p.1 p.2) (v5:mg "NoPair"=some (.ref aJ)) (za8:∀ p∈([("NoRow",false),("NoPair",true),("NoCount",false)]:List (String×Bool)),bg K (.ref aJ) p.1 p.2) (zbX:mg "NoPlace"=some (.ref kE)) (za9:∀ p∈([("NoRow",false),("NoPair",false),("NoCount",false)]:List (String×Bool)),bg K (.ref kE) p.1 p.2) (v7:mg "NoRow"=some (.ref aK)) (zba:∀ p∈([("NoRow",true),("NoPair",false),("NoCount",false)]:List (String×Bool)),bg K (.ref aK) p.1 p.2) (zbY:mg "NoShelf"=some (.ref kF)) (zbb:∀ p∈([("NoRow",false),("NoPair",false),("NoCount",false)]:List (String×Bool)),bg K (.ref kF) p.1 p.2) (zbZ:mg "NoSquare"=some (.ref kG)) (zbc:∀ p∈([("NoRow",false),("NoPair",false),("NoCount",false)]:List (String×Bool)),bg K (.ref kG) p.1 p.2) (zb0:mg "NoSum"=some (.ref kH)) (zbd:∀ p∈([("NoRow",false),("NoPair",false),("NoCount",false)]:List (String×Bool)),bg K (.ref kH) p.1 p.2) (zb1:mg "NoText"=some (.ref kI)) (zbe:∀ p∈([("NoRow",false),("NoPair",false),("NoCount",false)]:List (String×Bool)),bg K (.ref kI) p.1 p.2) (zb2:mg "NoTree"=some (.ref kJ)) (zbf:∀ p∈([("NoRow",false),("NoPair",false),("NoCount",false)]:List (String×Bool)),bg K (.ref kJ) p.1 p.2) (zb3:mg "NoWord"=some (.ref kK)) (zbg:∀ p∈([("NoRow",false),("NoPair",false),("NoCount",false)]:List (String×Bool)),bg K (.ref kK) p.1 p.2) (zb4:mg "NotActing"=some (.ref kL)) (zbh:∀ p∈([("NoRow",false),("NoPair",false),("NoCount",false)]:List (String×Bool)),bg K (.ref kL) p.1 p.2) (zb5:mg "NotBare"=some (.ref kM)) (zbi:∀ p∈([("NoRow",false),("NoPair",false),("NoCount",false)]:List (String×Bool)),bg K (.ref kM) p.1 p.2) (zb6:mg "NotEaten"=some (.ref kN)) (zbj:∀ p∈([("NoRow",false),("NoPair",false),("NoCount",false)]:List (String×Bool)),bg K (.ref kN) p.1 p.2) (zb7:mg "NotFree"=some (.ref kO)) (zbk:∀ p∈([("NoRow",false),("NoPair",false),("NoCount",false)]:List (String×Bool)),bg K (.ref kO) p.1 p.2) (zb8:mg "NotGap"=some (.ref kP)) (zbl:∀ p∈([("NoRow",false),("NoPair",false),("NoCount",false)]:List (String×Bool)),bg K (.ref kP) p.1 p.2) (zb9:mg "NotKept"=some (.ref kQ)) (zbm:∀ p∈([("NoRow",false),("NoPair",false),("NoCount",false)]:List (String×Bool)),bg K (.ref kQ) p.1 p.2) (zca:mg "NotNought"=some (.ref kR)) (zbn:∀ p∈([("NoRow",false),("NoPair",false),("NoCount",false)]:List (String×Bool)),bg K (.ref kR) p.1 p.2) (zcb:mg "NotOne"=some (.ref kT)) (zbo:∀ p∈([("NoRow",false),("NoPair",false),("NoCount",false)]:List (String×Bool)),bg K (.ref kT) p.1 p.2) (zcc:mg "TooDeep"=some (.ref kU)) (zbq:∀ p∈([("NoRow",false),("NoPair",false),("NoCount",false)]:List (String×Bool)),bg K (.ref kU) p.1 p.2) (zcd:mg "TooLong"=some (.ref kW)) (zbr:∀ p∈([("NoRow",false),("NoPair",false),("NoCount",false)]:List (String×Bool)),bg K (.ref kW) p.1 p.2) (qz:mg "SwapError"=some (.ref dS)) (zbp:∀ p∈([("NoRow",true),("NoPair",true),("NoCount",true)]:List (String×Bool)),bg K (.ref dS) p.1 p.2) (zce:mg "ValueError"=none) (zbs:∀ p∈([("NoRow",true),("NoPair",true),("NoCount",true)]:List (String×Bool)),bg K (.ty "ValueError") p.1 p.2):zdJ P w K mg base:=fnK ["_law_error","_law_got","_law_words"] h fun hr nd=>by
  unfold zd3 zhA
  exact(aR (cF 1 nd (bo.pv (cE (a3 (df (y:=.ref kr) 0 [("NoRow",false),("NoPair",false),("NoCount",false)] (fun z=>nomatch z) za0 (cU rfl zbQ rfl) B.bS) (df (y:=.ref aO) 0 [("NoRow",false),("NoPair",false),("NoCount",true)] (fun z=>nomatch z) za1 (cU rfl v3 rfl) B.bS) (df (y:=.ref ku) 0 [("NoRow",false),("NoPair",false),("NoCount",false)] (fun z=>nomatch z) za2 (cU rfl zbR rfl) B.bS)))))
      (aR (cF 1 nd (aL bB (af 1) (bo.pv (cE (a3 (df (y:=.ref kx) 0 [("NoRow",false),("NoPair",false),("NoCount",false)] (fun z=>nomatch z) za3 (cU rfl zbS rfl) B.bS) (df (y:=.ref kz) 0 [("NoRow",false),("NoPair",false),("NoCount",false)] (fun z=>nomatch z) za4 (cU rfl zbT rfl) B.bS) (df (y:=.ref kA) 0 [("NoRow",false),("NoPair",false),("NoCount",false)] (fun z=>nomatch z) za5 (cU rfl zbU rfl) B.bS))))))
      (aR (cF 1 nd (aL bB (af 1) (bo.pv (cE (a3 (df (y:=.ref kB) 0 [("NoRow",false),("NoPair",false),("NoCount",false)] (fun z=>nomatch z) za6 (cU rfl zbV rfl) B.bS) (df (y:=.ref kC) 0 [("NoRow",false),("NoPair",false),("NoCount",false)] (fun z=>nomatch z) za7 (cU rfl zbW rfl) B.bS) (df (y:=.ref aJ) 0 [("NoRow",false),("NoPair",true),("NoCount",false)] (fun z=>nomatch z) za8 (cU rfl v5 rfl) B.bS))))))
      (aR (cF 1 nd (aL bB (af 1) (bo.pv (cE (a3 (df (y:=.ref kE) 0 [("NoRow",false),("NoPair",false),("NoCount",false)] (fun z=>nomatch z) za9 (cU rfl zbX rfl) B.bS) (df (y:=.ref aK) 0 [("NoRow",true),("NoPair",false),("NoCount",false)] (fun z=>nomatch z) zba (cU rfl v7 rfl) B.bS) (df (y:=.ref kF) 0 [("NoRow",false),("NoPair",false),("NoCount",false)] (fun z=>nomatch z) zbb (cU rfl zbY rfl) B.bS))))))
      (aR (cF 1 nd (aL bB (af 1) (bo.pv (cE (a3 (df (y:=.ref kG) 0 [("NoRow",false),("NoPair",false),("NoCount",false)] (fun z=>nomatch z) zbc (cU rfl zbZ rfl) B.bS) (df (y:=.ref kH) 0 [("NoRow",false),("NoPair",false),("NoCount",false)] (fun z=>nomatch z) zbd (cU rfl zb0 rfl) B.bS) (df (y:=.ref kI) 0 [("NoRow",false),("NoPair",false),("NoCount",false)] (fun z=>nomatch z) zbe (cU rfl zb1 rfl) B.bS))))))
      (aR (cF 1 nd (aL bB (af 1) (bo.pv (cE (a3 (df (y:=.ref kJ) 0 [("NoRow",false),("NoPair",false),("NoCount",false)] (fun z=>nomatch z) zbf (cU rfl zb2 rfl) B.bS) (df (y:=.ref kK) 0 [("NoRow",false),("NoPair",false),("NoCount",false)] (fun z=>nomatch z) zbg (cU rfl zb3 rfl) B.bS) (df (y:=.ref kL) 0 [("NoRow",false),("NoPair",false),("NoCount",false)] (fun z=>nomatch z) zbh (cU rfl zb4 rfl) B.bS))))))
      (aR (cF 1 nd (aL bB (af 1) (bo.pv (cE (a3 (df (y:=.ref kM) 0 [("NoRow",false),("NoPair",false),("NoCount",false)] (fun z=>nomatch z) zbi (cU rfl zb5 rfl) B.bS) (df (y:=.ref kN) 0 [("NoRow",false),("NoPair",false),("NoCount",false)] (fun z=>nomatch z) zbj (cU rfl zb6 rfl) B.bS) (df (y:=.ref kO) 0 [("NoRow",false),("NoPair",false),("NoCount",false)] (fun z=>nomatch z) zbk (cU rfl zb7 rfl) B.bS))))))
      (aR (cF 1 nd (aL bB (af 1) (bo.pv (cE (a3 (df (y:=.ref kP) 0 [("NoRow",false),("NoPair",false),("NoCount",false)] (fun z=>nomatch z) zbl (cU rfl zb8 rfl) B.bS) (df (y:=.ref kQ) 0 [("NoRow",false),("NoPair",false),("NoCount",false)] (fun z=>nomatch z) zbm (cU rfl zb9 rfl) B.bS) (df (y:=.ref kR) 0 [("NoRow",false),("NoPair",false),("NoCount",false)] (fun z=>nomatch z) zbn (cU rfl zca rfl) B.bS))))))
      (aR (cF 1 nd (aL bB (af 1) (bo.pv (cE (a3 (df (y:=.ref kT) 0 [("NoRow",false),("NoPair",false),("NoCount",false)] (fun z=>nomatch z) zbo (cU rfl zcb rfl) B.bS) (df (y:=.ref kU) 0 [("NoRow",false),("NoPair",false),("NoCount",false)] (fun z=>nomatch z) zbq (cU rfl zcc rfl) B.bS) (df (y:=.ref kW) 0 [("NoRow",false),("NoPair",false),("NoCount",false)] (fun z=>nomatch z) zbr (cU rfl zcd rfl) B.bS))))))
      (aR (dD (fC.ka (jJ (gU (hJ hW (df (y:=.ref dS) 0 [("NoRow",true),("NoPair",true),("NoCount",true)] (fun z=>nomatch z) zbp (cU rfl qz rfl) B.bS))) (jJ (gU (hJ hW (df (y:=.ty "ValueError") 0 [("NoRow",true),("NoPair",true),("NoCount",true)] (fun z=>nomatch z) zbs (zgY rfl zce rfl) B.bS))) (nK (cO (nM hr) (jd (zjA rfl) B.zcB Bt.sum (bo.pv (cp ["_law_one"] [] ["_law_one"] (nJ (af 1)) (fun nd=>(bL 0 nd)) qX (ud zju B.wH Bt.int (af 0))))) ao))))) (bW bN) cN)
      (aR (cF 2 nd (bo.pv (cE (bO bN (bO bN (bO bN (bO bN (bO bN (bO bN (a3 bN bN bN))))))))))
      (aR (cF 2 nd (aL bB (af 2) (bo.pv (cE (bO bN (bO bN (bO bN (bO bN (bO bN (bO bN (a3 bN bN bN)))))))))))
      (aR (cF 2 nd (aL bB (af 2) (bo.pv (cE (bO bN (bO bN (bO bN (bO bN (bO bN (a3 bN bN bN))))))))))
      (bW (fg cQ (aL bB (af 2) (bo.pv (cE (a1 bN)))) (zrY (af 1) gR))))))))))))))))
theorem zng(h:bh K mg "is_number" (top 33)) (zjt:zdO P w K mg base) (oq:uV P w K mg base):zdP P w K mg base:=iu ["one","top","bottom"] h fun hr nd=>by
  unfold zd9
  exact(aR (dD (fC.ka (jJ (gU (hJ hW (qV kit_tuple B.bS B.nv Bt.tuple (af 0)))) (nK (cO (nM hr) (jd mQ B.j5 Bt.len (af 0)) ao)))) (bW gR) cN)
      (aR (pA (af 0) (jf rfl (dg (bL 1 nd) (dg (bL 2 nd) jg))))
      (aR (dD (fC.ka (jJ (gU (hJ hW (fK oq hr (a1 (af 1))))) (jJ (gU (hJ hW (fK oq hr (a1 (af 2))))) (nK (cO (nL hr) (af 2) ao))))) (bW gR) cN)
      (bW (xa (gD hr) (fK zjt hr (a2 (af 1) (af 2))) ao)))))
theorem znk(h:bh K mg "is_way" (top 46)) (oq:uV P w K mg base):zdS P w K mg base:=iu ["one","count"] h fun hr nd=>by
  unfold rS
  exact(bW (qU (fK oq hr (a1 (af 0))) (uc (zrV (uk hr) (nL hr) ao (af 0) (af 1)))))
theorem znd(h:bh K mg "_law_purse" (top 56)) (zaH:zan P w K mg base):zdN P w K mg base:=iu ["_law_cell","_law_k"] h fun hr nd=>by
  unfold zd6
  exact(aR (dD (cO (zsW hr) (af 0) (aL jb ao ao)) (fi (zhu (cE (a3 (aL nC (af 0) (aL jb ao ao)) ao (af 1))))) cN)
      (fi (zhu (cE (a3 (fK zaH hr (a2 (af 0) (af 1))) ao (aL bB (aL oZ (af 0) (aL bB (aL jb ao ao) ao)) (af 1)))))))
theorem zne(h:bh K mg "_law_take" (top 57)) (zaH:zan P w K mg base):nZ P w K mg base:=oF [true,false] ["_law_purse_here","_law_many","_law_got"] h fun hr nd=>by
  unfold zd7
  exact(aR (dD (cO (nL hr) (je 0 cQ ao) (af 1)) (aR (qW 0 (pv 0) (aL bB (je 0 cQ ao) ao) ao)
      (fi (qW 0 (pv 0) (aL bB (je 0 cQ ao) (aL j7 (af 1) (fK zaH hr (a2 (je 0 cQ ao) (aL bB (aL j7 ao (je 0 cQ ao)) ao))))) ao))) cN)
      (aR (cF 2 nd (aL oZ (je 0 cQ ao) (af 1)))
      (aR (qW 0 (pv 0) (aL (zcQ hr) (je 0 cQ ao) (af 1)) ao)
      (bW (af 2)))))
theorem zni(h:bh K mg "is_row" (top 38)) (zjv:zdP P w K mg base):zdR P w K mg base:=iu ["row"] h fun hr nd=>by
  unfold qd qY
  exact(bW (qU (qV zo0 B.bS B.wI Bt.list (af 0)) (uc (jd (zep rfl) B.wF Bt.all (bo.pv (cp ["one"] [] ["one"] (nJ (af 0)) (fun nd=>(bL 0 nd)) qX (fK zjv hr (a1 (af 0)))))))))
theorem znn(h:bh K mg "names_two_ways" (top 49)) (zer:zdS P w K mg base):zap P w K mg base:=iu ["leaving","count","i","j","row"] h fun hr nd=>by
  unfold rV
  exact(aR (dD (fC.ka (jJ (gU (hJ hW (qV kit_tuple B.bS B.nv Bt.tuple (af 0)))) (nK (cO (nM hr) (jd mQ B.j5 Bt.len (af 0)) ao)))) (bW gR) cN)
      (aR (pA (af 0) (jf rfl (dg (bL 2 nd) (dg (bL 3 nd) (dg (bL 4 nd) jg)))))
      (bW (qU (fK zer hr (a2 (af 2) (af 1))) (qU (fK zer hr (a2 (af 3) (af 1))) (uc (xa (nL hr) (af 2) (af 3))))))))
theorem znb(h:bh K mg "_law_number" (top 63)) (cG:nZ P w K mg base) (zeo:zdK P w K mg base):zdL P w K mg base:=oF [true] ["_law_purse_here","_law_way"] h fun hr nd=>by
  unfold vc
  exact(aR (cF 1 nd (cL cG hr (cC 0 (cB ao cM))))
      (aR (dD (cO (nL hr) (af 1) ao) (bW (fg cQ (bo.pv (zsa rfl)) (af 1))) cN)
      (aR (dD (cO (nL hr) (af 1) ao) (bW (fK zeo hr (a2 (aL nC (cL cG hr (cC 0 (cB ao cM))) ao) (aL bB ao (aL j7 (cL cG hr (cC 0 (cB ao cM))) (aL nC (af 1) ao)))))) cN)
      (bW (fK zeo hr (a2 (aL nC (cL cG hr (cC 0 (cB (aL bB (aL j7 ao (aL jb ao ao)) ao) cM))) (aL jb ao ao)) (aL bB ao (cL cG hr (cC 0 (cB ao cM))))))))))
theorem znc(h:bh K mg "_law_pairs" (top 66)) (cG:nZ P w K mg base):zdM P w K mg base:=oF [true,false] ["_law_purse_here","_law_count","_law_pairs_here","_law_i"] h fun hr nd=>by
  unfold rR xg uj zdr zie zhB
  exact(aR (cF 2 nd (bo.pv (cE pf)))
      (aR (uf (zc4 rfl B.qM (a1 (af 1))) (bL 3 nd) (fi (cF 2 nd (aL bB (af 2) (bo.pv (cp ["_law_j"] [3] ["_law_j","_law_i"] (zr6 rfl B.qM (a2 (aL bB (af 3) ao) (af 1))) (fun nd=>(bL 0 nd)) qX (b9 (a2 (af 1) (af 0)))))))))
      (aR (cF 2 nd (aL bB (bo.pv (cp ["_law_pair"] [0] ["_law_pair","_law_purse_here"] (nJ (af 2)) (fun nd=>(bL 0 nd)) (zc8 (cO (zhD hr) (cL cG hr (cC 1 (cB ao cM))) ao)) (af 0))) (pe pE (af 2) ph (pj ao))))
      (bW (bo.pv (cp ["_law_at_here","_law_pair"] [2] ["_law_at_here","_law_pair","_law_pairs_here"] (zc3 rfl B.tK (a1 (af 2))) (fun nd=>(jf rfl (dg (bL 0 nd) (dg (bL 1 nd) jg)))) (zc8 (cO (zsX hr) (af 1) (pe pE (af 2) ph (pj (af 0))))) (af 1)))))))
theorem zm5(h:bh K mg "_law_bad_row" (top 67)) (cG:nZ P w K mg base):zdG P w K mg base:=oF [true,false] ["_law_purse_here","_law_row","_law_way","_law_at_here","_law_odd"] h fun hr nd=>by
  unfold vb
  exact(aR (cF 2 nd (cL cG hr (cC 0 (cB ao cM))))
      (aR (dD (cO (gD hr) (af 2) ao) (bW (pe pE (af 1) ph (pj (ue uI ao)))) cN)
      (aR (dD (cO (gD hr) (af 2) ao) (bW (aL bB (af 1) (bo.pv (cE (a1 (b9 (a2 ao ao))))))) cN)
      (aR (dD (cO (gD hr) (af 2) ao) (bW (fg cQ (bo.pv (cE (bO (ud vp B.nv Bt.tuple (af 1)) (bO xf (a3 bN ao gR))))) (cL cG hr (cC 0 (cB ao cM))))) cN)
      (aR (cF 3 nd (cL cG hr (cC 0 (cB (jd mQ B.j5 Bt.len (af 1)) cM))))
      (aR (cF 4 nd (fg cQ (bo.pv (cE (bO (b9 (a2 ao ao)) (bO (b9 (a2 ao ao)) (bO (b9 (a2 ao (ue uI ao))) (bO ao (bO gR (bO xf (bO bN (a3 (b9 (a1 ao)) (b9 (a2 gR ao)) (b9 (a3 ao ao ao)))))))))))) (cL cG hr (cC 0 (cB ao cM)))))
      (bW (aL bB (aL bB (pe pE (af 1) ph (pj (af 3))) (bo.pv (cE (a1 (af 4))))) (pe pE (af 1) (pj (aL bB (af 3) ao)) ph)))))))))
theorem zm4(h:bh K mg "_law_bad_pair" (top 68)) (cG:nZ P w K mg base):zdF P w K mg base:=oF [true,false,false,false] ["_law_purse_here","_law_leavings","_law_at_here","_law_count","_law_i","_law_j","_law_row","_law_way","_law_back"] h fun hr nd=>by
  unfold va
  exact(aR (pA (fg cQ (af 1) (af 2)) (jf rfl (dg (bL 4 nd) (dg (bL 5 nd) (dg (bL 6 nd) jg)))))
      (aR (cF 7 nd (cL cG hr (cC 0 (cB ao cM))))
      (aR (dD (cO (gD hr) (af 7) ao) (bW (b9 (a2 (af 5) (af 4)))) cN)
      (aR (dD (cO (gD hr) (af 7) ao) (bW (b9 (a2 (af 4) (fg cQ (bo.pv (cE (a3 (af 3) (aL bB (af 3) (aL jb ao ao)) (aL jb ao ao)))) (cL cG hr (cC 0 (cB ao cM))))))) cN)
      (aR (dD (cO (gD hr) (af 7) ao) (bW (b9 (a2 (aL nC (ue uI ao) (cL cG hr (cC 0 (cB (aL jb ao ao) cM)))) (af 5)))) cN)
      (aR (dD (cO (gD hr) (af 7) ao) (bW (fg cQ (bo.pv (cE (bO (b9 (a2 (af 4) xf)) (bO (b9 (a2 bN (af 5))) (a3 (b9 (a2 (af 4) gR)) (b9 (a2 gR (af 5))) (b9 (a2 (af 4) (af 4)))))))) (cL cG hr (cC 0 (cB ao cM))))) cN)
      (aR (dD (fC.ka (zhy (cO (gD hr) (af 7) ao) (zhz (cO (zhD hr) (af 2) ao)))) (aR (cF 8 nd (fg cQ (af 1) (cL cG hr (cC 0 (cB (af 2) cM)))))
      (bW (b9 (a2 (fg cQ (af 8) ao) (fg cQ (af 8) ao))))) cN)
      (bW (b9 (a2 (af 5) (af 5)))))))))))
theorem zm6(h:bh K mg "_law_blank_one" (top 69)) (cG:nZ P w K mg base):zdH P w K mg base:=oF [true,true,false,false] ["_law_purse_here","_law_bad","_law_pair","_law_at_here","_law_k"] h fun hr nd=>by
  unfold rQ zdq rk ui
  exact(fi (uf (zc4 rfl B.qM (a1 (af 3))) (bL 4 nd) (fi (dD (fC.ka (zhy (cO (gD hr) (pe pE (je 1 cQ (af 4)) ph (pj ao)) (af 2)) (zhz (cO (gD hr) (cL cG hr (cC 0 (cB ao cM))) ao)))) (fi (qW 1 (pv 1) (b9 (a3 (fg cQ (je 1 cQ (af 4)) ao) (fg cQ (je 1 cQ (af 4)) ao) (bo.pv (cp ["_law_number_here"] [] ["_law_number_here"] (nJ (fg cQ (je 1 cQ (af 4)) ao)) (fun nd=>(bL 0 nd)) qX (b9 (a2 ao ao)))))) (af 4))) cN))))
theorem znj(h:bh K mg "is_row_of" (top 39)) (zjx:zdR P w K mg base):zao P w K mg base:=iu ["row","width"] h fun hr nd=>by
  unfold mP
  exact(bW (qU (fK zjx hr (a1 (af 0))) (uc (xa (gD hr) (jd mQ B.j5 Bt.len (af 0)) (af 1)))))
theorem zu0(h:bh K mg "rows_by_pair" (top 50)) (vI:pN P w K mg base "NoPair" "NoPair" "place" 1) (zbB:pN P w K mg base "NoRow" "NoRow" "place" 1) (zaL:zap P w K mg base) (zaK:zao P w K mg base):zdD P w K mg base:=fnE [none,none] true ["count","leavings","held","place","leaving","i","j","row"] h fun hr nd=>by
  unfold u6
  exact(nI (zhd (ug 2 nd zhq))
      (nI (zrz (zc3 rfl B.tK (a1 (af 1))) (jf rfl (dg (bL 3 nd) (dg (bL 4 nd) jg))) (nI (w4 (gU (hJ hW (fK zaL hr (a2 (af 4) (af 0))))) (w8 (zc0 vI hr xF (a1 (af 3)))) (t6 cN))
      (nI (zhd (pA (af 4) (jf rfl (dg (bL 5 nd) (dg (bL 6 nd) (dg (bL 7 nd) jg))))))
      (nI (w4 (zhx 2 (zhE hr) (b9 (a2 (af 5) (af 6)))) (w8 (zc0 vI hr xF (a1 (af 3)))) (t6 cN))
      (nI (w4 (gU (hJ hW (fK zaK hr (a2 (af 7) (aL bB (af 0) ao))))) (w8 (zc0 zbB hr xF (a1 (af 3)))) (t6 cN))
      (t6 (fi (zhr 2 (xK hr) (pv 2) (ud vp B.nv Bt.tuple (af 7)) (b9 (a2 (af 5) (af 6)))))))))))
      zhe))
theorem zno(h:bh K mg "rows_by_pair" (top 50)) (zaL:zap P w K mg base) (zaK:zao P w K mg base):zdT P w K mg base:=iu ["count","leavings","held","place","leaving","i","j","row"] h fun hr nd=>by
  unfold vi xP xJ
  exact(aR (ug 2 nd zhq)
      (aR (uf (zc3 rfl B.tK (a1 (af 1))) (jf rfl (dg (bL 3 nd) (dg (bL 4 nd) jg))) (aR (dD (gU (hJ hW (fK zaL hr (a2 (af 4) (af 0))))) (fi zc5) cN)
      (aR (pA (af 4) (jf rfl (dg (bL 5 nd) (dg (bL 6 nd) (dg (bL 7 nd) jg)))))
      (aR (dD (zhx 2 (zhE hr) (b9 (a2 (af 5) (af 6)))) (fi zc5) cN)
      (aR (dD (gU (hJ hW (fK zaK hr (a2 (af 7) (aL bB (af 0) ao))))) (fi zc5) cN)
      (fi (zhr 2 (xK hr) (pv 2) (ud vp B.nv Bt.tuple (af 7)) (b9 (a2 (af 5) (af 6))))))))))
      (fi (zsh 2 (pv 2)))))
theorem zuZ(sV:∀ c' dq,Cs.O c'=some (fA,dq)->dq.length=2)(hm:mg "Table"=some (.ref fA)) (M:Mk K fA oE) (F:dw K "__init__" "Table.__init__" (jZ 51 0) oE zlp) (zjy:zdT P w K mg base) (oq:uV P w K mg base) (zjw:zdQ P w K mg base) (zbA:zaa K mg "NoCount" "NoCount") (zj6:zdD P w K mg base):zam P w K mg base:=zlw ["self","count","leavings","held"] cR sV hm M F (fun Cc hr nd=>by
  unfold u9 uh
  exact(zhf (dom:=[]) rfl (zrC (fC.ka (jJ (gU (hJ hW (fK oq hr (a1 (af 1))))) (nK (gU (zhw (uk hr) (uk hr) ao (af 1) (zhm (v:=(.int 6)) rfl C.wC ⟨_,rfl⟩ (fun _=>iw _))))))) (zrF zrD) zrE)
      (zhf (dom:=[3]) rfl (zrG 3 nd (bo.pv (zhp zjy hr (a2 (af 1) (af 2)))))
      (zrH (zg2 cR rfl (by decide) (af 1) (zg2 cR rfl (by decide) (ud vp B.nv Bt.tuple (bo.pv (cp ["i","j"] [3] ["i","j","held"] (nJ (zc2 (zhj (zjz rfl) rfl B.zcA Bt.sorted (a1 (af 3))))) (fun nd=>(jf rfl (dg (bL 0 nd) (dg (bL 1 nd) jg)))) (zc8 (gU (hJ hW (fK zjw hr (a1 (fg (zhC hr) (af 2) (b9 (a2 (af 0) (af 1))))))))) (b9 (a3 (af 0) (af 1) (fg (zhC hr) (af 2) (b9 (a2 (af 0) (af 1))))))))) zq5)))))) fun hr nd=>by
  unfold u5
  exact(nI (w4 (fC.ka (jJ (gU (hJ hW (fK oq hr (a1 (af 1))))) (nK (gU (zhw (uk hr) (uk hr) ao (af 1) (zhm (v:=(.int 6)) rfl C.wC ⟨_,rfl⟩ (fun _=>iw _))))))) (w8 (zrA zbA xF (a1 bN))) (t6 cN))
      (nI (zrB 3 nd (zr4 zj6 hr zqH (nF (af 1) (nF (af 2) wU))))
      zhe))
theorem zm2(cx:zam P w K mg base):ziT P w K mg base:=cx.good
theorem zm7(h:bh K mg "_law_caught" (top 65))  (zbN:kX K dS) (qz:mg "SwapError"=some (.ref dS)) (zci:∀ c B ns,Cs.X c=some (B,ns)->zB K (.ref B) (.ref dS)=some true) (zj5:zam P w K mg base):zdI P w K mg base:=fnC 2 3 [none,none] ["_law_count","_law_leavings","_law_error","caught"] h zci fun hr nd=>by
  unfold qc
  exact zjg rfl zbN qz (zsn zj5 hr (a2 (af 0) (af 1))) nd
set_option maxHeartbeats 0 in
theorem znm(h:dw K "law" "law" (top 70) fa fd) (zjs:zdN P w K mg base) (zjr:zdM P w K mg base) (cG:nZ P w K mg base) (zaG:zdI P w K mg base) (zjm:zdE P w K mg base) (zjn:zdF P w K mg base) (zjp:zdH P w K mg base) (zjo:zdG P w K mg base) (zen:zdJ P w K mg base) (zjq:zdL P w K mg base) (vH:∀ p∈([("NoRow",0),("NoPair",0)]:List (String×Nat)),Cs.O p.1=none) (vG:∀ p∈([("NoRow",0),("NoPair",0)]:List (String×Nat)),ErF K "place" p.1 p.2):bU P w K mg base (bE P w) 9 fa fd ["_law_script"] (iM K 1 false rC):=by
  have S:fB ["_law_script","_law_cell","_law_purse_here","_law_count","_law_leavings","_law_i","_law_j","_law_at_here","_law_row","_law_word","_law_bad","_law_other","_law_error","_law_odd"] ["_law_script"] (aU (top 70)):=⟨rfl,rfl,rfl,by decide +kernel,rfl,by decide +kernel,by decide +kernel⟩
  refine bU.pure (zft (xY 1 false) false h S rfl (by decide) fun aw A outer s H E hr=>?_)
  have nd:=S.nd
  refine zc6 ?_
  unfold vh xO uH xN uG zdb
  exact(aR (uf (nJ (aL bB (pe pE (af 0) ph (pj ao)) (bo.pv (cE (a1 (fK zjm hr (a2 (af 0) ao))))))) (bL 1 nd) (aR (ug 2 nd (zhp zjs hr (a2 (af 1) ao)))
      (aR (cF 3 nd (aL bB ao (cL cG hr (cC 2 (cB ao cM)))))
      (aR (ug 4 nd (cE pf))
      (aR (uf (nJ (cL zjr hr (cC 2 (cB (af 3) cM)))) (jf rfl (dg (bL 5 nd) (dg (bL 6 nd) jg))) (fi (zsb 4 rfl (pv 4) (b9 (a3 (af 5) (af 6) (bo.pv (cp ["_law_place"] [2] ["_law_place","_law_purse_here"] (zc4 rfl B.qM (a1 (aL bB (af 3) ao))) (fun nd=>(bL 0 nd)) qX (cL zjq hr (cC 1 cM)))))))))
      (aR (zht 4 (dD (zsl zaG hr (nF (af 3) (nF (af 4) wU))) (bW gR) cN))
      (aR (cF 7 nd (cL cG hr (cC 2 (cB (jd mQ B.j5 Bt.len (af 4)) cM))))
      (aR (pA (fg cQ (af 4) (af 7)) (jf rfl (dg (bL 5 nd) (dg (bL 6 nd) (dg (bL 8 nd) jg)))))
      (aR (cF 9 nd (fg cQ (bo.pv (cE (a2 bN bN))) (cL cG hr (cC 2 (cB ao cM)))))
      (aR (ug 10 nd (zr9 B.wI Bt.list (af 4)))
      (aR (dD (cO (gD hr) (af 9) bN) (aR (pA (cL zjn hr (cC 2 (cB (af 4) (cB (af 7) (cB (af 3) cM))))) (jf rfl (dg (bL 5 nd) (dg (bL 6 nd) jg))))
      (fi (zsc (cL zjp hr (cC 2 (cC 10 (cB (b9 (a2 (af 5) (af 6))) (cB (af 7) cM)))))))) cN)
      (aR (dD (fC.ka (jJ (cO (gD hr) (af 9) bN) (nK (cO (gD hr) (cL cG hr (cC 2 (cB ao cM))) ao)))) (fi (cF 8 nd (cL zjo hr (cC 2 (cB (af 8) cM))))) cN)
      (aR (qW 10 (pv 10) (b9 (a3 (af 5) (af 6) (af 8))) (af 7))
      (aR (dD (cO (nL hr) (aL bB (af 7) ao) (zhn 10 mQ B.j5 Bt.len)) (aR (cF 11 nd (aL bB (aL bB (af 7) ao) (cL cG hr (cC 2 (cB (aL nC (aL nC (zhn 10 mQ B.j5 Bt.len) (af 7)) ao) cM)))))
      (fi (qW 10 (pv 10) (fg cQ (bo.pv (cE (a3 (je 10 cQ (af 11)) (b9 (a3 ao ao (bo.pv (cE pf)))) (b9 (a3 ao ao (bo.pv (cE (a1 (b9 (a2 ao ao)))))))))) (cL cG hr (cC 2 (cB ao cM)))) (af 11)))) cN)
      (aR (zht 10 (zhs 12 nd zaG hr (nF (af 3) (nF (af 10) wU))))
      (aR (dD (fC.ka (jJ (cO (nM hr) (zhk 12 zen hr) (af 9)) (jJ (cO (nM hr) (zhl 12 [("NoRow",0),("NoPair",0)] vH vG) (af 7)) (nK (hJ hW (qV zfW B.bS B.wG Bt.bool (zhl 12 [("NoRow",0),("NoPair",0)] vH vG))))))) (bW gR) cN)
      (aR (cF 13 nd (bo.pv (cE (bO ao (bO ao (bO (aL nC (ue uI ao) (cL cG hr (cC 2 (cB ao cM)))) (bO (aL bB ao (cL cG hr (cC 2 (cB (aL jb ao ao) cM)))) (bO gR (a3 gR xf bN)))))))))
      (aR (zhs 12 nd zaG hr (nF (fg cQ (af 13) (cL cG hr (cC 2 (cB ao cM)))) (nF (fg cQ (bo.pv (cE (a3 (af 4) (af 10) (bo.pv (cE pf))))) (cL cG hr (cC 2 (cB ao cM)))) wU)))
      (fi (dD (cO (nM hr) (zhk 12 zen hr) bN) (bW gR) cN))))))))))))))))))))
      (bW gR))
end
end
variable {vL vM zcK zcL:dm}{loose ztS ztT:List ib}{zdg ztJ ztK ztL zu8 zu9:Array (Option gV)}{l:Ey}{zjQ zjR:Option Bool}{zcG zle zlf:Nat}{zp9 zqa zqb zu4 zu5:gV}{h:xV}{zcN zcO:String}{d:DefRec}{zfk zfl:Array zT}{q:x6}{YP:x5->xV->Prop}{zcT:Option dm}
section
theorem all_mk{K:kb}(X:K.In h)(G:h.Ns yc mg)(hfa:mg "law"=some (.ref fa))
   
     {zcq zcr:yS}
    {zqe zi4:Option dm} {zm0 zku zrm zeD zj3:gV} 
  
   {zql zu7:Option dm} {zpJ zsZ:ib} {zjk ztC:List gV} {zmc ziW:Bool}   {zuQ zuS zuU zuW zuY:Option gV}     
   {zqk zu6:Option dm} {zpI zsY:ib} {zjj ztB:List gV} {zmb ziV:Bool}   {zuP zuR zuT zuV zuX:Option gV}     
    {zqd zi3:Option dm} {zmZ zkt zrl zeC zj2:gV} 
    {zqc zi2:Option dm} {zmY zks zrk zeB zj1:gV} 
  (ziP:bh K mg "is_whole" (top 31))
  (ziJ:bh K mg "common_divisor" (top 32))
  (ziL:bh K mg "is_of_noughts" (top 41))
  (ziE:bh K mg "_law_mixed" (top 55))
  (zix:bh K mg "_law_at" (top 58))
  (ziD:bh K mg "_law_low" (top 59))
  (ziC:bh K mg "_law_class" (top 64))
  (ziK:bh K mg "is_number" (top 33))
  (ziO:bh K mg "is_way" (top 46))
  (ziH:bh K mg "_law_purse" (top 56))
  (ziI:bh K mg "_law_take" (top 57))
  (ziM:bh K mg "is_row" (top 38))
  (ziR:bh K mg "names_two_ways" (top 49))
  (ziF:bh K mg "_law_number" (top 63))
  (ziG:bh K mg "_law_pairs" (top 66))
  (ziz:bh K mg "_law_bad_row" (top 67))
  (ziy:bh K mg "_law_bad_pair" (top 68))
  (ziA:bh K mg "_law_blank_one" (top 69))
  (ziN:bh K mg "is_row_of" (top 39))
  (zdA:bh K mg "rows_by_pair" (top 50))
  (ziB:bh K mg "_law_caught" (top 65))
  (ziQ:bh K mg "law" (top 70))
  (wC:yf K yc "MOST_WAYS"=some (some (.int 6 rj)))
  (zcw:yf K yc "NOUGHT"=some (some (.ref bp)))
  (zo2:K.lookup bp=some ⟨.type "tuple",zcT,.seq #[.int 0 zcq,.int 1 zcr] zcG,zdg⟩)
  (tJ:yf K yc "abs"=some none)
  (bS:yf K yc "isinstance"=some none)
  (wH:yf K yc "int"=some none)
  (wG:yf K yc "bool"=some none)
  (nv:yf K yc "tuple"=some none)
  (wI:yf K yc "list"=some none)
  (zgz:yf K yc "str"=some none)
  (j5:yf K yc "len"=some none)
  (wF:yf K yc "all"=some none)
  (qM:yf K yc "range"=some none)
  (zgA:yf K yc "zip"=some none)
  (tK:yf K yc "enumerate"=some none)
  (zgx:yf K yc "max"=some none)
  (zgy:yf K yc "min"=some none)
  (zcB:yf K yc "sum"=some none)
  (zcA:yf K yc "sorted"=some none)
  (zgw:yf K yc "dict"=some none)
  (zgv:yf K yc "any"=some none)
  (zmM:yf K yc "Table"=some (some (.ref fA)))
  (zmN:E2 K fA Str.empty=true)
  (zmO:B4 K fA=true)
  (zmP:DU K fA=true)
  (zmQ:yD K (.ref fA) "__setattr__"=some (some (.builtin "object.__setattr__")))
  (zny:yD K (.ref fA) "count"=some none)
  (znz:yD K (.ref fA) "leavings"=some none)
  (zmR:DY K fA=true)
  (zmS:yD K (.ref fA) "__init__"=some (some (.ref oE)))
  (zmT:Bv K (.ref oE)=true)
  (zmU:Ai K (.ref fA)=true)
  (zfS:K.lookup oE=some ⟨zqb,zqe,.func (zh "__init__" "Table.__init__" (gk (jZ 51 0)) (b7 (jZ 51 0)) (aU (jZ 51 0)) .none zm0 zku zrm zi4 zeD zj3),ztL⟩)
  (zmK:Az K zeD "Table.__init__"=true)
  (zmL:Ai K (.ref oE)=true)
  (zst:yf K yc "Broken"=some (some (.ref kr)))
  (zsu:yf K yc "NoCount"=some (some (.ref aO)))
  (zsv:yf K yc "NoDeed"=some (some (.ref ku)))
  (zsw:yf K yc "NoLeast"=some (some (.ref kx)))
  (zsx:yf K yc "NoLine"=some (some (.ref kz)))
  (zsy:yf K yc "NoMatch"=some (some (.ref kA)))
  (zsz:yf K yc "NoName"=some (some (.ref kB)))
  (zsA:yf K yc "NoNumber"=some (some (.ref kC)))
  (zsB:yf K yc "NoPair"=some (some (.ref aJ)))
  (zsC:yf K yc "NoPlace"=some (some (.ref kE)))
  (zsD:yf K yc "NoRow"=some (some (.ref aK)))
  (zsE:yf K yc "NoShelf"=some (some (.ref kF)))
  (zsF:yf K yc "NoSquare"=some (some (.ref kG)))
  (zsG:yf K yc "NoSum"=some (some (.ref kH)))
  (zsH:yf K yc "NoText"=some (some (.ref kI)))
  (zsI:yf K yc "NoTree"=some (some (.ref kJ)))
  (zsJ:yf K yc "NoWord"=some (some (.ref kK)))
  (zsK:yf K yc "NotActing"=some (some (.ref kL)))
  (zsL:yf K yc "NotBare"=some (some (.ref kM)))
  (zsM:yf K yc "NotEaten"=some (some (.ref kN)))
  (zsN:yf K yc "NotFree"=some (some (.ref kO)))
  (zsO:yf K yc "NotGap"=some (some (.ref kP)))
  (zsP:yf K yc "NotKept"=some (some (.ref kQ)))
  (zsQ:yf K yc "NotNought"=some (some (.ref kR)))
  (zsR:yf K yc "NotOne"=some (some (.ref kT)))
  (zsT:yf K yc "TooDeep"=some (some (.ref kU)))
  (zsU:yf K yc "TooLong"=some (some (.ref kW)))
  (zsS:yf K yc "SwapError"=some (some (.ref dS)))
  (zsV:yf K yc "ValueError"=some none)
  (zkZ:yD K (.ref aK) "__getattribute__"=some (some (.builtin "BaseException.__getattribute__")))
  (zk2:yD K (.ref aK) "__getattr__"=some none)
  (zk5:yD K (.ref aK) "__class__"=some (some (.builtin "object.__class__")))
  (ze8:zB K (.ref aK) (.type "BaseException")=some true)
  (zk8:Cj K aK (.type "object")=some true)
  (zla:B4 K aK=true)
  (zlc:yD K (.ref aK) "__setattr__"=some (some (.builtin "object.__setattr__")))
  (zaY:K.lookup aK=some (uK aK dS zcL zql zpJ zsZ zjk ztC zmc ziW ztT zjR zuQ zuS zuU zuW zuY zcO))
  (ze1:K.lookup zcL=some ⟨zu5,zu7,.dict zfl zlf,zu9⟩)
  (ze3:yf K zcL "__init__"=some (some (.ref vM)))
  (ze5:(zfl.toList.all fun e=>match e.key with | .str _ _=>true|_=>false)=true)
  (zkW:zcO="ValueError.__new__"\/zcO="Exception.__new__")
  (zkO:Bv K (.ref vM)=true)
  (zeZ:K.lookup vM=some ⟨zqa,zqd,.func (zh "__init__" "NoRow.__init__" (gk (jZ 14 0)) (b7 (jZ 14 0)) (aU (jZ 14 0)) .none zmZ zkt zrl zi3 zeC zj2),ztK⟩)
  (zkQ:Az K zeC "NoRow.__init__"=true)
  (zkS:Ai K (.ref vM)=true)
  (zkU:yD K (.ref aK) "place"=some none)
  (znC:x4 K (.ref aK) (.ref kr)=some false)
  (znF:x4 K (.ref aK) (.ref aO)=some false)
  (znI:x4 K (.ref aK) (.ref ku)=some false)
  (znL:x4 K (.ref aK) (.ref kx)=some false)
  (znO:x4 K (.ref aK) (.ref kz)=some false)
  (znR:x4 K (.ref aK) (.ref kA)=some false)
  (znU:x4 K (.ref aK) (.ref kB)=some false)
  (znX:x4 K (.ref aK) (.ref kC)=some false)
  (zn0:x4 K (.ref aK) (.ref aJ)=some false)
  (zn3:x4 K (.ref aK) (.ref kE)=some false)
  (zn6:x4 K (.ref aK) (.ref aK)=some true)
  (zn9:x4 K (.ref aK) (.ref kF)=some false)
  (zoc:x4 K (.ref aK) (.ref kG)=some false)
  (zof:x4 K (.ref aK) (.ref kH)=some false)
  (zoi:x4 K (.ref aK) (.ref kI)=some false)
  (zol:x4 K (.ref aK) (.ref kJ)=some false)
  (zoo:x4 K (.ref aK) (.ref kK)=some false)
  (zor:x4 K (.ref aK) (.ref kL)=some false)
  (zou:x4 K (.ref aK) (.ref kM)=some false)
  (zox:x4 K (.ref aK) (.ref kN)=some false)
  (zoA:x4 K (.ref aK) (.ref kO)=some false)
  (zoD:x4 K (.ref aK) (.ref kP)=some false)
  (zoG:x4 K (.ref aK) (.ref kQ)=some false)
  (zoJ:x4 K (.ref aK) (.ref kR)=some false)
  (zoM:x4 K (.ref aK) (.ref kT)=some false)
  (zoS:x4 K (.ref aK) (.ref kU)=some false)
  (zoV:x4 K (.ref aK) (.ref kW)=some false)
  (zoP:x4 K (.ref aK) (.ref dS)=some true)
  (zoY:x4 K (.ref aK) (.type "ValueError")=some true)
  (zt1:zB K (.ref aK) (.ref dS)=some true)
  (zkY:yD K (.ref aJ) "__getattribute__"=some (some (.builtin "BaseException.__getattribute__")))
  (zk1:yD K (.ref aJ) "__getattr__"=some none)
  (zk4:yD K (.ref aJ) "__class__"=some (some (.builtin "object.__class__")))
  (ze7:zB K (.ref aJ) (.type "BaseException")=some true)
  (zk7:Cj K aJ (.type "object")=some true)
  (zk9:B4 K aJ=true)
  (zlb:yD K (.ref aJ) "__setattr__"=some (some (.builtin "object.__setattr__")))
  (zaX:K.lookup aJ=some (uK aJ dS zcK zqk zpI zsY zjj ztB zmb ziV ztS zjQ zuP zuR zuT zuV zuX zcN))
  (ze0:K.lookup zcK=some ⟨zu4,zu6,.dict zfk zle,zu8⟩)
  (ze2:yf K zcK "__init__"=some (some (.ref vL)))
  (ze4:(zfk.toList.all fun e=>match e.key with | .str _ _=>true|_=>false)=true)
  (zkV:zcN="ValueError.__new__"\/zcN="Exception.__new__")
  (zkN:Bv K (.ref vL)=true)
  (zeY:K.lookup vL=some ⟨zp9,zqc,.func (zh "__init__" "NoPair.__init__" (gk (jZ 16 0)) (b7 (jZ 16 0)) (aU (jZ 16 0)) .none zmY zks zrk zi2 zeB zj1),ztJ⟩)
  (zkP:Az K zeB "NoPair.__init__"=true)
  (zkR:Ai K (.ref vL)=true)
  (zkT:yD K (.ref aJ) "place"=some none)
  (znB:x4 K (.ref aJ) (.ref kr)=some false)
  (znE:x4 K (.ref aJ) (.ref aO)=some false)
  (znH:x4 K (.ref aJ) (.ref ku)=some false)
  (znK:x4 K (.ref aJ) (.ref kx)=some false)
  (znN:x4 K (.ref aJ) (.ref kz)=some false)
  (znQ:x4 K (.ref aJ) (.ref kA)=some false)
  (znT:x4 K (.ref aJ) (.ref kB)=some false)
  (znW:x4 K (.ref aJ) (.ref kC)=some false)
  (znZ:x4 K (.ref aJ) (.ref aJ)=some true)
  (zn2:x4 K (.ref aJ) (.ref kE)=some false)
  (zn5:x4 K (.ref aJ) (.ref aK)=some false)
  (zn8:x4 K (.ref aJ) (.ref kF)=some false)
  (zob:x4 K (.ref aJ) (.ref kG)=some false)
  (zoe:x4 K (.ref aJ) (.ref kH)=some false)
  (zoh:x4 K (.ref aJ) (.ref kI)=some false)
  (zok:x4 K (.ref aJ) (.ref kJ)=some false)
  (zon:x4 K (.ref aJ) (.ref kK)=some false)
  (zoq:x4 K (.ref aJ) (.ref kL)=some false)
  (zot:x4 K (.ref aJ) (.ref kM)=some false)
  (zow:x4 K (.ref aJ) (.ref kN)=some false)
  (zoz:x4 K (.ref aJ) (.ref kO)=some false)
  (zoC:x4 K (.ref aJ) (.ref kP)=some false)
  (zoF:x4 K (.ref aJ) (.ref kQ)=some false)
  (zoI:x4 K (.ref aJ) (.ref kR)=some false)
  (zoL:x4 K (.ref aJ) (.ref kT)=some false)
  (zoR:x4 K (.ref aJ) (.ref kU)=some false)
  (zoU:x4 K (.ref aJ) (.ref kW)=some false)
  (zoO:x4 K (.ref aJ) (.ref dS)=some true)
  (zoX:x4 K (.ref aJ) (.type "ValueError")=some true)
  (zt0:zB K (.ref aJ) (.ref dS)=some true)
  (zkX:yD K (.ref aO) "__getattribute__"=some (some (.builtin "BaseException.__getattribute__")))
  (zk0:yD K (.ref aO) "__getattr__"=some none)
  (zk3:yD K (.ref aO) "__class__"=some (some (.builtin "object.__class__")))
  (ze6:zB K (.ref aO) (.type "BaseException")=some true)
  (zk6:Cj K aO (.type "object")=some true)
  (zkM:zv K aO dE "Exception.__new__"=true\/zv K aO dE "ValueError.__new__"=true)
  (znA:x4 K (.ref aO) (.ref kr)=some false)
  (znD:x4 K (.ref aO) (.ref aO)=some true)
  (znG:x4 K (.ref aO) (.ref ku)=some false)
  (znJ:x4 K (.ref aO) (.ref kx)=some false)
  (znM:x4 K (.ref aO) (.ref kz)=some false)
  (znP:x4 K (.ref aO) (.ref kA)=some false)
  (znS:x4 K (.ref aO) (.ref kB)=some false)
  (znV:x4 K (.ref aO) (.ref kC)=some false)
  (znY:x4 K (.ref aO) (.ref aJ)=some false)
  (zn1:x4 K (.ref aO) (.ref kE)=some false)
  (zn4:x4 K (.ref aO) (.ref aK)=some false)
  (zn7:x4 K (.ref aO) (.ref kF)=some false)
  (zoa:x4 K (.ref aO) (.ref kG)=some false)
  (zod:x4 K (.ref aO) (.ref kH)=some false)
  (zog:x4 K (.ref aO) (.ref kI)=some false)
  (zoj:x4 K (.ref aO) (.ref kJ)=some false)
  (zom:x4 K (.ref aO) (.ref kK)=some false)
  (zop:x4 K (.ref aO) (.ref kL)=some false)
  (zos:x4 K (.ref aO) (.ref kM)=some false)
  (zov:x4 K (.ref aO) (.ref kN)=some false)
  (zoy:x4 K (.ref aO) (.ref kO)=some false)
  (zoB:x4 K (.ref aO) (.ref kP)=some false)
  (zoE:x4 K (.ref aO) (.ref kQ)=some false)
  (zoH:x4 K (.ref aO) (.ref kR)=some false)
  (zoK:x4 K (.ref aO) (.ref kT)=some false)
  (zoQ:x4 K (.ref aO) (.ref kU)=some false)
  (zoT:x4 K (.ref aO) (.ref kW)=some false)
  (zoN:x4 K (.ref aO) (.ref dS)=some true)
  (zoW:x4 K (.ref aO) (.type "ValueError")=some true)
  (ztZ:zB K (.ref aO) (.ref dS)=some true)
  (zjB:B5 K (.ref dS)=some (.type "type"))
  (zeu:zv K dS dE "Exception.__new__"=true\/zv K dS dE "ValueError.__new__"=true)
  (zew:zB K (.ref dS) (.type "BaseException")=some true) :
  ∃(cl:CL) (ob xb:String->Option (dm×List ib)) (fd:yq),gx cl K/\(∀(s:ir) (v:gV),B7 s fd ⟨[v],[]⟩ [("_law_script",v)])/\∀ base:xV,(az (cl.map (·.1)) K).In base->base.Ns yc mg->bU l.prog w (az (cl.map (·.1)) K) mg base (bE l.prog w) 9 fa fd ["_law_script"] (@iM (qj cl ob xb) (az (cl.map (·.1)) K) 1 false rC):=by
 obtain⟨f,fd,hm,Fl⟩:=id ziQ
 have e:=hfa.symm.trans hm
 cases e
 obtain⟨oc,od,kV,dc,pm,an,cd,ct,sl,rfl,lk,eU⟩:=id Fl.ex
 have hC:gx [(bp,⟨.type "tuple",zcT,.seq #[.int 0 zcq,.int 1 zcr] zcG,zdg⟩,[.int 0,.int 1])] K:=(gx.cons zo2 (.cons ⟨_,rfl⟩ (.cons ⟨_,rfl⟩ (.nil))) (by decide) gx.nil)
 refine⟨_,(fun c=>if c="Table" then some (fA,["count","leavings"]) else none),(fun c=>if c="NoRow" then some (aK,["place"]) else if c="NoPair" then some (aJ,["place"]) else if c="NoCount" then some (aO,[]) else none),zh "law" "law" (gk (top 70)) (b7 (top 70)) (aU (top 70)) .none kV dc pm an cd ct,hC,fun s v=>.of_eq rfl,fun base _ _=>?_⟩
 have B:Blt mg:=⟨zj X G tJ,zj X G bS,zj X G wH,zj X G wG,zj X G nv,zj X G wI,zj X G zgz,zj X G j5,zj X G wF,zj X G qM,zj X G zgA,zj X G tK,zj X G zgx,zj X G zgy,zj X G zcB,zj X G zcA,zj X G zgw,zj X G zgv⟩
 letI:Cs:=qj [(bp,⟨.type "tuple",zcT,.seq #[.int 0 zcq,.int 1 zcr] zcG,zdg⟩,[.int 0,.int 1])] (fun c=>if c="Table" then some (fA,["count","leavings"]) else none) (fun c=>if c="NoRow" then some (aK,["place"]) else if c="NoPair" then some (aJ,["place"]) else if c="NoCount" then some (aO,[]) else none)
 have cR:Ob (az (([bp]:List dm)) K) "Table" fA ["count","leavings"]:=⟨if_pos rfl,mK.cut hC.au ⟨zmN,zmO,zmP,zmQ⟩,fun f hf=>eO.cut hC.au (by
  simp only [yr,BI,or_false] at hf
  rcases hf with rfl|rfl
  ·exact zny
  ·exact znz
  ),by decide +kernel⟩
 have C:Cst mg rj bp:=⟨yz X G wC,yz X G zcw,zl8 (ob:=fun _=>none) hC (List.Mem.head _)⟩
 have zbQ:=yz X G zst
 have v3:=yz X G zsu
 have zbR:=yz X G zsv
 have zbS:=yz X G zsw
 have zbT:=yz X G zsx
 have zbU:=yz X G zsy
 have zbV:=yz X G zsz
 have zbW:=yz X G zsA
 have v5:=yz X G zsB
 have zbX:=yz X G zsC
 have v7:=yz X G zsD
 have zbY:=yz X G zsE
 have zbZ:=yz X G zsF
 have zb0:=yz X G zsG
 have zb1:=yz X G zsH
 have zb2:=yz X G zsI
 have zb3:=yz X G zsJ
 have zb4:=yz X G zsK
 have zb5:=yz X G zsL
 have zb6:=yz X G zsM
 have zb7:=yz X G zsN
 have zb8:=yz X G zsO
 have zb9:=yz X G zsP
 have zca:=yz X G zsQ
 have zcb:=yz X G zsR
 have zcc:=yz X G zsT
 have zcd:=yz X G zsU
 have qz:=yz X G zsS
 have zce:=zj X G zsV
 have cX:fZ (az (([bp]:List dm)) K) aK:=fZ.cut hC.au ⟨zkZ,zk2,zk5,ze8,zk8,vx ze8⟩
 have zfa:iO (az (([bp]:List dm)) K) aK:=⟨cX,qi hC.au zla,qi hC.au (zeI zaY).2,ju hC.au zlc⟩
 have zgC:eO (az (([bp]:List dm)) K) aK "place":=eO.cut hC.au zkU
 have zbB:pN l.prog w (az (([bp]:List dm)) K) mg base "NoRow" "NoRow" "place" 1:=zfj v7 rfl rfl (zgQ zkW (zfm hC.au (zeu.elim (fun z=>vK z zaY ze1 ze5 ze3) fun z=>vK z zaY ze1 ze5 ze3))) (zcm hC.au zeZ (fun _ _ z=>nomatch z) zkO) (dw.cut hC.au (vP zeZ zkQ zkS)) zfa zgC rfl ⟨rfl,rfl,rfl,by decide +kernel,rfl,by decide +kernel,by decide +kernel⟩ (fun _ _ _ _ _ _=>pv _) (fun _ _ _ _ _ _=>pv _) (fun _ _ _ _ _ _ us hl=>match us,hl with | [_,_],_=>rfl)
 have cW:fZ (az (([bp]:List dm)) K) aJ:=fZ.cut hC.au ⟨zkY,zk1,zk4,ze7,zk7,vx ze7⟩
 have ze9:iO (az (([bp]:List dm)) K) aJ:=⟨cW,qi hC.au zk9,qi hC.au (zeI zaX).2,ju hC.au zlb⟩
 have zgB:eO (az (([bp]:List dm)) K) aJ "place":=eO.cut hC.au zkT
 have vI:pN l.prog w (az (([bp]:List dm)) K) mg base "NoPair" "NoPair" "place" 1:=zfj v5 rfl rfl (zgQ zkV (zfm hC.au (zeu.elim (fun z=>vK z zaX ze0 ze4 ze2) fun z=>vK z zaX ze0 ze4 ze2))) (zcm hC.au zeY (fun _ _ z=>nomatch z) zkN) (dw.cut hC.au (vP zeY zkP zkR)) ze9 zgB rfl ⟨rfl,rfl,rfl,by decide +kernel,rfl,by decide +kernel,by decide +kernel⟩ (fun _ _ _ _ _ _=>pv _) (fun _ _ _ _ _ _=>pv _) (fun _ _ _ _ _ _ us hl=>match us,hl with | [_,_],_=>rfl)
 have dh:fZ (az (([bp]:List dm)) K) aO:=fZ.cut hC.au ⟨zkX,zk0,zk3,ze6,zk6,vx ze6⟩
 have zbA:zaa (az (([bp]:List dm)) K) mg "NoCount" "NoCount":=⟨aO,v3,rfl,rfl,zkM.imp (zfn hC.au) (zfn hC.au)⟩
 have zbN:kX (az (([bp]:List dm)) K) dS:=kX.cut hC.au ⟨zjB,vx zew,zew⟩
 have zci:∀ c B ns,Cs.X c=some (B,ns)->zB (az (([bp]:List dm)) K) (.ref B) (.ref dS)=some true:=fun c B ns e=>by
  have e:((fun c=>if c="NoRow" then some (aK,["place"]) else if c="NoPair" then some (aJ,["place"]) else if c="NoCount" then some (aO,[]) else none):String->Option (dm×List ib)) c=some (B,ns):=e
  simp only at e
  split at e
  ·cases e
   exact nQ hC.au zt1
  split at e
  ·cases e
   exact nQ hC.au zt0
  split at e
  ·cases e
   exact nQ hC.au ztZ
  cases e
 have za0:∀ p∈([("NoRow",false),("NoPair",false),("NoCount",false)]:List (String×Bool)),bg (az (([bp]:List dm)) K) (.ref kr) p.1 p.2:=aF ⟨rfl,aK,_,rfl,cX,aI hC.au znC⟩ (aF ⟨rfl,aJ,_,rfl,cW,aI hC.au znB⟩ (aF ⟨rfl,aO,_,rfl,dh,aI hC.au znA⟩ (cI)))
 have za1:∀ p∈([("NoRow",false),("NoPair",false),("NoCount",true)]:List (String×Bool)),bg (az (([bp]:List dm)) K) (.ref aO) p.1 p.2:=aF ⟨rfl,aK,_,rfl,cX,aI hC.au znF⟩ (aF ⟨rfl,aJ,_,rfl,cW,aI hC.au znE⟩ (aF ⟨rfl,aO,_,rfl,dh,aI hC.au znD⟩ (cI)))
 have za2:∀ p∈([("NoRow",false),("NoPair",false),("NoCount",false)]:List (String×Bool)),bg (az (([bp]:List dm)) K) (.ref ku) p.1 p.2:=aF ⟨rfl,aK,_,rfl,cX,aI hC.au znI⟩ (aF ⟨rfl,aJ,_,rfl,cW,aI hC.au znH⟩ (aF ⟨rfl,aO,_,rfl,dh,aI hC.au znG⟩ (cI)))
 have za3:∀ p∈([("NoRow",false),("NoPair",false),("NoCount",false)]:List (String×Bool)),bg (az (([bp]:List dm)) K) (.ref kx) p.1 p.2:=aF ⟨rfl,aK,_,rfl,cX,aI hC.au znL⟩ (aF ⟨rfl,aJ,_,rfl,cW,aI hC.au znK⟩ (aF ⟨rfl,aO,_,rfl,dh,aI hC.au znJ⟩ (cI)))
 have za4:∀ p∈([("NoRow",false),("NoPair",false),("NoCount",false)]:List (String×Bool)),bg (az (([bp]:List dm)) K) (.ref kz) p.1 p.2:=aF ⟨rfl,aK,_,rfl,cX,aI hC.au znO⟩ (aF ⟨rfl,aJ,_,rfl,cW,aI hC.au znN⟩ (aF ⟨rfl,aO,_,rfl,dh,aI hC.au znM⟩ (cI)))
 have za5:∀ p∈([("NoRow",false),("NoPair",false),("NoCount",false)]:List (String×Bool)),bg (az (([bp]:List dm)) K) (.ref kA) p.1 p.2:=aF ⟨rfl,aK,_,rfl,cX,aI hC.au znR⟩ (aF ⟨rfl,aJ,_,rfl,cW,aI hC.au znQ⟩ (aF ⟨rfl,aO,_,rfl,dh,aI hC.au znP⟩ (cI)))
 have za6:∀ p∈([("NoRow",false),("NoPair",false),("NoCount",false)]:List (String×Bool)),bg (az (([bp]:List dm)) K) (.ref kB) p.1 p.2:=aF ⟨rfl,aK,_,rfl,cX,aI hC.au znU⟩ (aF ⟨rfl,aJ,_,rfl,cW,aI hC.au znT⟩ (aF ⟨rfl,aO,_,rfl,dh,aI hC.au znS⟩ (cI)))
 have za7:∀ p∈([("NoRow",false),("NoPair",false),("NoCount",false)]:List (String×Bool)),bg (az (([bp]:List dm)) K) (.ref kC) p.1 p.2:=aF ⟨rfl,aK,_,rfl,cX,aI hC.au znX⟩ (aF ⟨rfl,aJ,_,rfl,cW,aI hC.au znW⟩ (aF ⟨rfl,aO,_,rfl,dh,aI hC.au znV⟩ (cI)))
 have za8:∀ p∈([("NoRow",false),("NoPair",true),("NoCount",false)]:List (String×Bool)),bg (az (([bp]:List dm)) K) (.ref aJ) p.1 p.2:=aF ⟨rfl,aK,_,rfl,cX,aI hC.au zn0⟩ (aF ⟨rfl,aJ,_,rfl,cW,aI hC.au znZ⟩ (aF ⟨rfl,aO,_,rfl,dh,aI hC.au znY⟩ (cI)))
 have za9:∀ p∈([("NoRow",false),("NoPair",false),("NoCount",false)]:List (String×Bool)),bg (az (([bp]:List dm)) K) (.ref kE) p.1 p.2:=aF ⟨rfl,aK,_,rfl,cX,aI hC.au zn3⟩ (aF ⟨rfl,aJ,_,rfl,cW,aI hC.au zn2⟩ (aF ⟨rfl,aO,_,rfl,dh,aI hC.au zn1⟩ (cI)))
 have zba:∀ p∈([("NoRow",true),("NoPair",false),("NoCount",false)]:List (String×Bool)),bg (az (([bp]:List dm)) K) (.ref aK) p.1 p.2:=aF ⟨rfl,aK,_,rfl,cX,aI hC.au zn6⟩ (aF ⟨rfl,aJ,_,rfl,cW,aI hC.au zn5⟩ (aF ⟨rfl,aO,_,rfl,dh,aI hC.au zn4⟩ (cI)))
 have zbb:∀ p∈([("NoRow",false),("NoPair",false),("NoCount",false)]:List (String×Bool)),bg (az (([bp]:List dm)) K) (.ref kF) p.1 p.2:=aF ⟨rfl,aK,_,rfl,cX,aI hC.au zn9⟩ (aF ⟨rfl,aJ,_,rfl,cW,aI hC.au zn8⟩ (aF ⟨rfl,aO,_,rfl,dh,aI hC.au zn7⟩ (cI)))
 have zbc:∀ p∈([("NoRow",false),("NoPair",false),("NoCount",false)]:List (String×Bool)),bg (az (([bp]:List dm)) K) (.ref kG) p.1 p.2:=aF ⟨rfl,aK,_,rfl,cX,aI hC.au zoc⟩ (aF ⟨rfl,aJ,_,rfl,cW,aI hC.au zob⟩ (aF ⟨rfl,aO,_,rfl,dh,aI hC.au zoa⟩ (cI)))
 have zbd:∀ p∈([("NoRow",false),("NoPair",false),("NoCount",false)]:List (String×Bool)),bg (az (([bp]:List dm)) K) (.ref kH) p.1 p.2:=aF ⟨rfl,aK,_,rfl,cX,aI hC.au zof⟩ (aF ⟨rfl,aJ,_,rfl,cW,aI hC.au zoe⟩ (aF ⟨rfl,aO,_,rfl,dh,aI hC.au zod⟩ (cI)))
 have zbe:∀ p∈([("NoRow",false),("NoPair",false),("NoCount",false)]:List (String×Bool)),bg (az (([bp]:List dm)) K) (.ref kI) p.1 p.2:=aF ⟨rfl,aK,_,rfl,cX,aI hC.au zoi⟩ (aF ⟨rfl,aJ,_,rfl,cW,aI hC.au zoh⟩ (aF ⟨rfl,aO,_,rfl,dh,aI hC.au zog⟩ (cI)))
 have zbf:∀ p∈([("NoRow",false),("NoPair",false),("NoCount",false)]:List (String×Bool)),bg (az (([bp]:List dm)) K) (.ref kJ) p.1 p.2:=aF ⟨rfl,aK,_,rfl,cX,aI hC.au zol⟩ (aF ⟨rfl,aJ,_,rfl,cW,aI hC.au zok⟩ (aF ⟨rfl,aO,_,rfl,dh,aI hC.au zoj⟩ (cI)))
 have zbg:∀ p∈([("NoRow",false),("NoPair",false),("NoCount",false)]:List (String×Bool)),bg (az (([bp]:List dm)) K) (.ref kK) p.1 p.2:=aF ⟨rfl,aK,_,rfl,cX,aI hC.au zoo⟩ (aF ⟨rfl,aJ,_,rfl,cW,aI hC.au zon⟩ (aF ⟨rfl,aO,_,rfl,dh,aI hC.au zom⟩ (cI)))
 have zbh:∀ p∈([("NoRow",false),("NoPair",false),("NoCount",false)]:List (String×Bool)),bg (az (([bp]:List dm)) K) (.ref kL) p.1 p.2:=aF ⟨rfl,aK,_,rfl,cX,aI hC.au zor⟩ (aF ⟨rfl,aJ,_,rfl,cW,aI hC.au zoq⟩ (aF ⟨rfl,aO,_,rfl,dh,aI hC.au zop⟩ (cI)))
 have zbi:∀ p∈([("NoRow",false),("NoPair",false),("NoCount",false)]:List (String×Bool)),bg (az (([bp]:List dm)) K) (.ref kM) p.1 p.2:=aF ⟨rfl,aK,_,rfl,cX,aI hC.au zou⟩ (aF ⟨rfl,aJ,_,rfl,cW,aI hC.au zot⟩ (aF ⟨rfl,aO,_,rfl,dh,aI hC.au zos⟩ (cI)))
 have zbj:∀ p∈([("NoRow",false),("NoPair",false),("NoCount",false)]:List (String×Bool)),bg (az (([bp]:List dm)) K) (.ref kN) p.1 p.2:=aF ⟨rfl,aK,_,rfl,cX,aI hC.au zox⟩ (aF ⟨rfl,aJ,_,rfl,cW,aI hC.au zow⟩ (aF ⟨rfl,aO,_,rfl,dh,aI hC.au zov⟩ (cI)))
 have zbk:∀ p∈([("NoRow",false),("NoPair",false),("NoCount",false)]:List (String×Bool)),bg (az (([bp]:List dm)) K) (.ref kO) p.1 p.2:=aF ⟨rfl,aK,_,rfl,cX,aI hC.au zoA⟩ (aF ⟨rfl,aJ,_,rfl,cW,aI hC.au zoz⟩ (aF ⟨rfl,aO,_,rfl,dh,aI hC.au zoy⟩ (cI)))
 have zbl:∀ p∈([("NoRow",false),("NoPair",false),("NoCount",false)]:List (String×Bool)),bg (az (([bp]:List dm)) K) (.ref kP) p.1 p.2:=aF ⟨rfl,aK,_,rfl,cX,aI hC.au zoD⟩ (aF ⟨rfl,aJ,_,rfl,cW,aI hC.au zoC⟩ (aF ⟨rfl,aO,_,rfl,dh,aI hC.au zoB⟩ (cI)))
 have zbm:∀ p∈([("NoRow",false),("NoPair",false),("NoCount",false)]:List (String×Bool)),bg (az (([bp]:List dm)) K) (.ref kQ) p.1 p.2:=aF ⟨rfl,aK,_,rfl,cX,aI hC.au zoG⟩ (aF ⟨rfl,aJ,_,rfl,cW,aI hC.au zoF⟩ (aF ⟨rfl,aO,_,rfl,dh,aI hC.au zoE⟩ (cI)))
 have zbn:∀ p∈([("NoRow",false),("NoPair",false),("NoCount",false)]:List (String×Bool)),bg (az (([bp]:List dm)) K) (.ref kR) p.1 p.2:=aF ⟨rfl,aK,_,rfl,cX,aI hC.au zoJ⟩ (aF ⟨rfl,aJ,_,rfl,cW,aI hC.au zoI⟩ (aF ⟨rfl,aO,_,rfl,dh,aI hC.au zoH⟩ (cI)))
 have zbo:∀ p∈([("NoRow",false),("NoPair",false),("NoCount",false)]:List (String×Bool)),bg (az (([bp]:List dm)) K) (.ref kT) p.1 p.2:=aF ⟨rfl,aK,_,rfl,cX,aI hC.au zoM⟩ (aF ⟨rfl,aJ,_,rfl,cW,aI hC.au zoL⟩ (aF ⟨rfl,aO,_,rfl,dh,aI hC.au zoK⟩ (cI)))
 have zbq:∀ p∈([("NoRow",false),("NoPair",false),("NoCount",false)]:List (String×Bool)),bg (az (([bp]:List dm)) K) (.ref kU) p.1 p.2:=aF ⟨rfl,aK,_,rfl,cX,aI hC.au zoS⟩ (aF ⟨rfl,aJ,_,rfl,cW,aI hC.au zoR⟩ (aF ⟨rfl,aO,_,rfl,dh,aI hC.au zoQ⟩ (cI)))
 have zbr:∀ p∈([("NoRow",false),("NoPair",false),("NoCount",false)]:List (String×Bool)),bg (az (([bp]:List dm)) K) (.ref kW) p.1 p.2:=aF ⟨rfl,aK,_,rfl,cX,aI hC.au zoV⟩ (aF ⟨rfl,aJ,_,rfl,cW,aI hC.au zoU⟩ (aF ⟨rfl,aO,_,rfl,dh,aI hC.au zoT⟩ (cI)))
 have zbp:∀ p∈([("NoRow",true),("NoPair",true),("NoCount",true)]:List (String×Bool)),bg (az (([bp]:List dm)) K) (.ref dS) p.1 p.2:=aF ⟨rfl,aK,_,rfl,cX,aI hC.au zoP⟩ (aF ⟨rfl,aJ,_,rfl,cW,aI hC.au zoO⟩ (aF ⟨rfl,aO,_,rfl,dh,aI hC.au zoN⟩ (cI)))
 have zbs:∀ p∈([("NoRow",true),("NoPair",true),("NoCount",true)]:List (String×Bool)),bg (az (([bp]:List dm)) K) (.ty "ValueError") p.1 p.2:=aF ⟨rfl,aK,_,rfl,cX,aI hC.au zoY⟩ (aF ⟨rfl,aJ,_,rfl,cW,aI hC.au zoX⟩ (aF ⟨rfl,aO,_,rfl,dh,aI hC.au zoW⟩ (cI)))
 have vH:∀ p∈([("NoRow",0),("NoPair",0)]:List (String×Nat)),Cs.O p.1=none:=aF rfl (aF rfl (cI))
 have vG:∀ p∈([("NoRow",0),("NoPair",0)]:List (String×Nat)),ErF (az (([bp]:List dm)) K) "place" p.1 p.2:=aF ⟨aK,_,rfl,rfl,by decide,zfa,zgC⟩ (aF ⟨aJ,_,rfl,rfl,by decide,ze9,zgB⟩ (cI))
 have zaU:=znl (P:=l.prog) (w:=w) (base:=base) B C cR (ziP.cut hC.au)
 have zkh:=znf (P:=l.prog) (w:=w) (base:=base) B C cR (ziJ.cut hC.au)
 have zkl:=znh (P:=l.prog) (w:=w) (base:=base) B C cR (ziL.cut hC.au)
 have zeO:=zna (P:=l.prog) (w:=w) (base:=base) B C cR (ziE.cut hC.au)
 have zj7:=zm3 (P:=l.prog) (w:=w) (base:=base) B C cR (zix.cut hC.au)
 have zkd:=zm9 (P:=l.prog) (w:=w) (base:=base) B C cR (ziD.cut hC.au)
 have zkc:=zm8 (P:=l.prog) (w:=w) (base:=base) B C cR (ziC.cut hC.au) zbQ za0 v3 za1 zbR za2 zbS za3 zbT za4 zbU za5 zbV za6 zbW za7 v5 za8 zbX za9 v7 zba zbY zbb zbZ zbc zb0 zbd zb1 zbe zb2 zbf zb3 zbg zb4 zbh zb5 zbi zb6 zbj zb7 zbk zb8 zbl zb9 zbm zca zbn zcb zbo zcc zbq zcd zbr qz zbp zce zbs
 have zkk:=zng (P:=l.prog) (w:=w) (base:=base) B C cR (ziK.cut hC.au) zkh zaU
 have zkn:=znk (P:=l.prog) (w:=w) (base:=base) B C cR (ziO.cut hC.au) zaU
 have zkg:=znd (P:=l.prog) (w:=w) (base:=base) B C cR (ziH.cut hC.au) zeO
 have qk:=zne (P:=l.prog) (w:=w) (base:=base) B C cR (ziI.cut hC.au) zeO
 have zkm:=zni (P:=l.prog) (w:=w) (base:=base) B C cR (ziM.cut hC.au) zkk
 have zeQ:=znn (P:=l.prog) (w:=w) (base:=base) B C cR (ziR.cut hC.au) zkn
 have zke:=znb (P:=l.prog) (w:=w) (base:=base) B C cR (ziF.cut hC.au) qk zkd
 have zkf:=znc (P:=l.prog) (w:=w) (base:=base) B C cR (ziG.cut hC.au) qk
 have zj9:=zm5 (P:=l.prog) (w:=w) (base:=base) B C cR (ziz.cut hC.au) qk
 have zj8:=zm4 (P:=l.prog) (w:=w) (base:=base) B C cR (ziy.cut hC.au) qk
 have zka:=zm6 (P:=l.prog) (w:=w) (base:=base) B C cR (ziA.cut hC.au) qk
 have zeP:=znj (P:=l.prog) (w:=w) (base:=base) B C cR (ziN.cut hC.au) zkm
 have zkL:=zu0 (P:=l.prog) (w:=w) (base:=base) B C cR (zdA.cut hC.au) vI zbB zeQ zeP
 have zkp:=zno (P:=l.prog) (w:=w) (base:=base) B C cR (zdA.cut hC.au) zeQ zeP
 have zeX:=zuZ (P:=l.prog) (w:=w) (base:=base) B C cR (fun c ns e=>by
  have e:((fun c=>if c="Table" then some (fA,["count","leavings"]) else none):String->Option (dm×List ib)) c=some (fA,ns):=e
  simp only at e
  split at e <;> cases e
  rfl) (yz X G zmM) (Mk.cut hC.au zfS ⟨zmR,zmS,zmT,zmU⟩) (dw.cut hC.au (vP zfS zmK zmL)) zkp zaU zkl zbA zkL
 have zvb:=zm2 (P:=l.prog) (w:=w) (base:=base) B C cR zeX
 have zkb:=zm7 (P:=l.prog) (w:=w) (base:=base) B C cR (ziB.cut hC.au) zbN qz zci zeX
 have zko:=znm (P:=l.prog) (w:=w) (base:=base) B C cR (dw.cut hC.au Fl) zkg zkf qk zkb zj7 zj8 zka zj9 zkc zke vH vG
 exact zko
theorem walk{XP:(ib->Option gV)->xV->Prop}{K:Params->kb}(zbP:∀ ns:List Int,ns.length<=63->rC [.list (ns.map yy)]=.ok (.bool true))(hn:l.most=some 63)(sH:d.params.defaults=[])(hi:importsNone q=true)(sU:l.prog.given.tree=none)
  (hY:∀(w:x5) (h:xV),YP w h->(K w.params).In h)
  (F:∀(w:x5) (mg:ib->Option gV) (fa:dm) (h:xV),(K w.params).In h->h.Ns yc mg->mg d.name=some (.ref fa) ->
   ∃(cl:CL) (ob xb:String->Option (dm×List ib)) (fd:yq),gx cl (K w.params)/\(∀(s:ir) (u:gV),B7 s fd ⟨[u],[]⟩ [("_law_script",u)])/\∀ base:xV,(az (cl.map (·.1)) (K w.params)).In base->base.Ns yc mg->bU l.prog w (az (cl.map (·.1)) (K w.params)) mg base (bE l.prog w) 9 fa fd ["_law_script"] (@iM (qj cl ob xb) (az (cl.map (·.1)) (K w.params)) 1 false rC)) :
  PySem.W.WalkO q loose XP YP l.row.toRowW d [] (fun f vs=>Ee f vs) :=
 zuM (k:=9) (x:="_law_script") zbP hn sH hi sU ⟨rfl,by decide,by decide,rfl⟩ hY F
end
end K09
namespace FL
open PySem
variable {x:Sl}{a b d:D}{i m n:Nat}{j:Int}{ρ:En}{α:Type}{f:EF}{y:D×En}
section
theorem zjh(ns:List Bool):boolsOf (ns.map zo)=some ns:=by
 induction ns with
 | nil=>rfl
 | cons n ns ih=>simp [boolsOf,ih]
theorem zar(bs:List Bool):pZ (.list (bs.map zo))=.ok (.bool (bs.all id)):=by
 show((R.of (boolsOf _)).bind _)=_
 rw [zjh];rfl
theorem zaT(xs:List α)(p:Nat):cut xs none (some (p:Int))=xs.take p:=by
 unfold cut aY
 simp only
 rw [if_neg (by omega),Ad,ED]
 by_cases h:p<=xs.length
 ·rw [show min (p:Int).toNat xs.length=p by omega]
 ·rw [show min (p:Int).toNat xs.length=xs.length by omega,List.take_length,Eg (by omega)]
theorem ztr(lo hi:Int):fj lo hi=((zN (hi-lo).toNat).map fun(i:Nat)=>lo+(i:Int)).map yy:=by
 unfold fj
 rw [zV];rfl
def Pl(n:Nat)(d:D):Prop:=CM d=true/\d.depth<=n
theorem Pl.shaped(h:Pl n d)(hn:n<=64:=by decide):zK d=true:=by
 unfold zK
 rw [h.1,decide_eq_true (yx h.2 hn)];rfl
theorem eL(i:Int):Pl 0 (.int i):=⟨rfl,x9 _⟩
theorem zg7(i:Bool):Pl 0 (.bool i):=⟨rfl,x9 _⟩
theorem zcW{n:Nat}:∀{ds:List D},(∀ d∈ds,Pl n d)->Dw ds=true/\PyData.depthAll ds<=n
 | [],_=>⟨rfl,zr _⟩
 | d::ds,h=>by
  obtain⟨a,b⟩:=zcW fun x m=>h x (yK d m)
  obtain⟨c,e⟩:=h d (yM ..)
  refine⟨by simp only [Dw];rw [c,a];rfl,?_⟩
  simp only [PyData.depthAll]
  omega
theorem zg8{ds:List D}(h:∀ d∈ds,Pl n d):Pl (n+1) (.tuple ds):=by
 obtain⟨a,b⟩:=zcW h
 exact⟨a,by simp only [PyData.depth];omega⟩
theorem zrg{ds:List D}(h:∀ d∈ds,Pl n d):Pl (n+1) (.list ds):=by
 obtain⟨a,b⟩:=zcW h
 exact⟨a,by simp only [PyData.depth];omega⟩
theorem zff{α:Type}[DecidableEq α](f:α->D)(h:∀ a b,Am (f a) (f b)=decide (a=b)):∀ xs ys:List α,CV (xs.map f) (ys.map f)=decide (xs=ys)
 | [],[]=>rfl
 | [],y::ys=>by simp [CV]
 | x::xs,[]=>by simp [CV]
 | x::xs,y::ys=>by
  simp only [yi,CV]
  rw [h,zff f h xs ys]
  by_cases e1:x=y <;> by_cases e2:xs=ys <;> simp [e1,e2]
theorem zbz(a b:Int):Am (.int a) (.int b)=decide (a=b):=by
 show(a==b)=_
 rw [Bool.beq_eq_decide_eq]
abbrev tp(w:List Int):D:=.tuple (w.map yy)
theorem tZ(w:List Int):Pl 1 (tp w):=zg8 fun d m=>by
 obtain⟨i,_,rfl⟩:=zM.mp m
 exact eL i
theorem zfg(a b:List Int):Am (tp a) (tp b)=decide (a=b):=by
 show CV _ _=_
 exact zff _ zbz a b
abbrev cu(ws:List (List Int)):D:=.list (ws.map tp)
theorem zrh(ws:List (List Int)):Pl 2 (cu ws):=zrg fun d m=>by
 obtain⟨i,_,rfl⟩:=zM.mp m
 exact tZ i
theorem zbx(ha:Pl n a)(hb:Pl m b)(hn:n<=64:=by decide)(hm:m<=64:=by decide):bD a b=.ok (.bool (Am a b)):=by
 unfold bD
 rw [ha.shaped hn,hb.shaped hm];rfl
theorem zgF(ha:Pl n a)(hb:Pl m b)(hn:n<=64:=by decide)(hm:m<=64:=by decide):dn a b=.ok (.bool (!Am a b)):=by
 unfold dn
 rw [ha.shaped hn,hb.shaped hm];rfl
theorem zlj(a b:List Int):bD (tp a) (tp b)=.ok (.bool (decide (a=b))):=by rw [zbx (tZ a) (tZ b),zfg]
theorem oB(a b:Int):bD (.int a) (.int b)=.ok (.bool (decide (a=b))):=by rw [zbx (eL a) (eL b),zbz]
theorem zcD(a b:Int):dn (.int a) (.int b)=.ok (.bool (!decide (a=b))):=by rw [zgF (eL a) (eL b),zbz]
theorem oS(i j:Int):fc (.int i) (.int j)=.ok (.bool (decide (i<j))):=rfl
theorem qJ(i j:Int):i9 (.int i) (.int j)=.ok (.bool (decide (i<=j))):=rfl
theorem zhG(h:0<=j)(h2:j<=1000000):jK [.int j]=.ok (fj 0 j):=by
 show bc _ _=_
 refine eD ?_
 unfold mz lim
 simp only [yw,leB_iff]
 omega
theorem zek{m:List (Nat×Sl)}(h:∀ i p d,m.lookup i≠some (.ow p d)):∀(ρ:En) (n:Nat),bQ m n ρ=ρ
 | [],_=>rfl
 | x::r,n=>by
  unfold bQ
  rw [zek h r (n+1)]
  congr 1
  unfold bP
  split
  ·rename_i p d q e h1 h2
   exact absurd h2 (h _ _ _)
  ·rfl
theorem sr{α:Type}{f:α->D}{g:GF}{b:SF}(P:List α->En->Prop):∀(xs:List α) (done:List α) (ρ:En),P done ρ ->
  (∀ pre x post ρ,done++xs=pre++x::post->P pre ρ->∃ ρ' fl,(g (f x) ρ).bind b=.ok (fl,ρ')/\(fl=.nx\/fl=.ct)/\P (pre++[x]) ρ')->∃ ρ',forL g b (xs.map f) ρ=.ok (.nx,ρ')/\P (done++xs) ρ'
 | [],done,ρ,h,_=>⟨ρ,rfl,by simpa using h⟩
 | x::xs,done,ρ,h,hx=>by
  obtain⟨ρ1,fl,e,hf,h1⟩:=hx done x xs ρ rfl h
  obtain⟨ρ2,e2,h2⟩:=sr P xs (done++[x]) ρ1 h1 fun pre y post ρ e=>hx pre y post ρ (by simpa using e)
  refine⟨ρ2,?_,by simpa using h2⟩
  show((g (f x) ρ).bind fun ρ1=>(b ρ1).bind fun y=>match y.1 with
    | .nx | .ct=>forL g b (xs.map f) y.2
    | .bk=>.ok (.nx,y.2)
    | .rt d=>.ok (.rt d,y.2)
    | .rf d=>.ok (.rf d,y.2))=_
  cases e1:g (f x) ρ with
  | ok ρ3 =>
   rw [e1] at e
   rw [av] at e ⊢
   rw [e,av]
   rcases hf with rfl|rfl
   ·exact e2
   ·exact e2
  | bad=>rw [e1] at e;cases e
  | err c fs=>rw [e1] at e;cases e
def Np(x:Sl):Prop:=∀ e,x≠.ow true e
theorem cT:Np .no:=fun _ z=>nomatch z
theorem cK(d:D):Np (.val d):=fun _ z=>nomatch z
theorem zgL(c:String)(ds:List D):Np (.ob c ds):=fun _ z=>nomatch z
theorem zpV(d:D):Np (.ow false d):=fun _ z=>nomatch z
theorem m3(h:ρ[i]?=some x)(n:Np x):gN i d ρ=.ok (ρ.set i (.val d)):=by
 unfold gN
 rw [h]
 cases x with
 | no=>rfl
 | val c=>rfl
 | ob c ds=>rfl
 | ow p c=>cases p with
  | true=>exact absurd rfl (n c)
  | false=>rfl
theorem ztA(hf:f ρ=.ok y)(h:y.2[i]?=some x)(n:Np x):dZ i f ρ=.ok (.nx,y.2.set i (.ow false y.1)):=by
 unfold dZ
 rw [hf,av,h]
 cases x with
 | no=>rfl
 | val c=>rfl
 | ob c ds=>rfl
 | ow p c=>cases p with
  | true=>exact absurd rfl (n c)
  | false=>rfl
theorem iK(hf:f ρ=.ok y)(h:y.2[i]?=some x)(n:Np x):aH (gN i) f ρ=.ok (.nx,y.2.set i (.val y.1)):=by
 unfold aH
 rw [hf,av,m3 h n];rfl
theorem vj{m:List (Nat×Sl)}(h:m.lookup i=none):bP m i x=x:=by
 unfold bP
 rw [h]
 cases x <;> rfl
theorem aD{s t:SF}{ρ1:En}(h:s ρ=.ok (.nx,ρ1)):aq s t ρ=t ρ1:=by
 unfold aq
 rw [h];rfl
end
variable {k l:Nat}{i:Int}
section
noncomputable def zeb:SF:=(aq (aH (gN 2) (e2 ay (e2 ay (e2 dQ (e2 ay (e2 fP (eV 0) (e2 ay (e2 c9 (eC (.int 10)) (eC (.int 18))) (eC (.int 9)))) (e2 dQ (eC (.int 7)) (eV 1))) (eC (.int 739108512309184756019283746561))) (e2 dQ (eC (.int 7919)) (eV 1))) (eC (.int 1))))
  (aq (aH (gN 2) (e2 fP (e2 dQ (eV 2) (eV 2)) (e2 ay (e2 c9 (eC (.int 10)) (eC (.int 60))) (eC (.int 7)))))
  (aG (e2 fP (e2 dQ (e2 ay (eV 2) (eC (.int 40503))) (e2 ay (eV 2) (eC (.int 57)))) (e2 ay (e2 c9 (eC (.int 10)) (eC (.int 60))) (eC (.int 7)))))))
noncomputable def uN:List D->R D:=bG false 2 3 zeb
noncomputable def zat:SF:=(aq (aQ (tB (e2 fc (eV 1) (e1 bR (eV 0)))) (aG (e2 aB (eV 0) (eV 1))) aS)
  (aG (e2 ay (e2 dQ (eC (.int 3)) (eV 1)) (eC (.int 1)))))
noncomputable def zae:List D->R D:=bG false 2 2 zat
noncomputable def zau:SF:=(aq (aQ (tB (e2 qt (eV 0) (e2 c9 (eC (.int 10)) (eC (.int 18))))) (gE (aV (aa (e2 cv (eV 0) (e2 c9 (eC (.int 10)) (eC (.int 18)))) (aa (eC (.int 0)) (aa (eV 1) ae))))) aS)
  (gE (aV (aa (aP uN (aa (eV 0) (aa (eV 1) ae))) (aa (eC (.int 0)) (aa (e2 ay (e2 fP (eV 0) (e2 ay (e2 c9 (eC (.int 10)) (eC (.int 18))) (eC (.int 9)))) (eV 1)) ae))))))
noncomputable def zah:List D->R D:=bG true 2 2 zau
noncomputable def zav:SF:=(aq (aQ (tB (e2 fc (m2 aB 0 (eC (.int 0))) (eV 1))) (aq (setM 0 (e2 ay (m2 aB 0 (eC (.int 1))) (eC (.int 1))) (eC (.int 1)))
  (setM 0 (e2 ay (m2 aB 0 (eC (.int 0))) (e2 dQ (eV 1) (aP uN (aa (m2 aB 0 (eC (.int 2))) (aa (e2 ay (e2 dQ (eC (.int 11)) (m2 aB 0 (eC (.int 1)))) (eC (.int 5))) ae))))) (eC (.int 0)))) aS)
  (aq (aH (gN 2) (e2 fP (m2 aB 0 (eC (.int 0))) (eV 1)))
  (aq (setM 0 (e2 iY (m2 aB 0 (eC (.int 0))) (eV 1)) (eC (.int 0)))
  (aG (eV 2)))))
noncomputable def zai:List D->R (D×List D):=run [true,false] false 3 zav
structure Bd(i:Int)(n:Nat):Prop where
 h:i.natAbs<2^n
theorem Bd.mono(h:Bd i n)(l:n<=m):Bd i m:=⟨zc h.h (Nat.pow_le_pow_right (by decide) l)⟩
theorem Bd.add(h:Bd i n)(k:Bd j m):Bd (i+j) (max n m+1):=by
 constructor
 have a:=(h.mono (Nat.le_max_left n m)).h
 have b:=(k.mono (Nat.le_max_right n m)).h
 have c:=Int.natAbs_add_le i j
 rw [Nat.pow_succ]
 omega
theorem Bd.mul(h:Bd i n)(k:Bd j m):Bd (i*j) (n+m):=by
 constructor
 rw [Int.natAbs_mul,Nat.pow_add]
 have a:=h.h
 have b:=k.h
 exact Nat.mul_lt_mul'' a b
theorem Bd.mod(h:Bd j n)(p:0<j):Bd (i.fmod j) n:=by
 constructor
 have a:=h.h
 have b:=DH i p
 have c:=EE i p
 omega
theorem mulOk_of(h:Bd i n)(k:Bd j m)(l:n+m<=100000000):tH i j=true:=by
 unfold tH
 refine i7 ?_
 have lg:∀{i:Int} {n:Nat},Bd i n->i.natAbs.log2<=n:=by
  intro i n h
  by_cases z:i.natAbs=0
  ·rw [z];exact zr _
  ·exact Ba ((Nat.log2_lt z).mpr h.h)
 have a:=lg h
 have b:=lg k
 omega
theorem mn(h:Bd i n)(k:Bd j m)(l:n+m<=100000000):dQ (.int i) (.int j)=.ok (.int (i*j)):=by
 show bc _ _=_
 exact eD (mulOk_of h k l)
theorem tF(p:0<j):fP (.int i) (.int j)=.ok (.int (i.fmod j)):=by
 show bc _ _=_
 exact eD (by simp;omega)
theorem zlq(p:0<j)(h:Bd j n)(l:n<=8000):iY (.int i) (.int j)=.ok (.int (i.fdiv j)):=by
 show bc _ _=_
 exact eD (by simp;omega)
noncomputable def nE:Int:=1000000000000000000
noncomputable def o5:Int:=1000000000000000009
noncomputable def p60:Int:=1000000000000000000000000000000000000000000000000000000000000
noncomputable def o6:Int:=1000000000000000000000000000000000000000000000000000000000007
noncomputable def pm:Int:=739108512309184756019283746561
theorem zc9:c9 (.int 10) (.int 18)=.ok (.int nE):=rfl
theorem zso:c9 (.int 10) (.int 60)=.ok (.int p60):=rfl
theorem zdV:nE+9=o5:=rfl
theorem ziY:p60+7=o6:=rfl
theorem zcU:0<o5:=by decide
theorem tW:0<o6:=by decide
theorem b18:Bd o5 60:=⟨by decide⟩
theorem b60:Bd o6 200:=⟨by decide⟩
theorem bm:Bd pm 100:=⟨by decide⟩
theorem bF(h:i.natAbs<65536):Bd i 16:=⟨h⟩
noncomputable def oV(c k:Int):Int:=(c.fmod o5+7*k)*pm+7919*k+1
noncomputable def nu(c k:Int):Int:=(oV c k*oV c k).fmod o6
noncomputable def nq(c k:Int):Int:=((nu c k+40503)*(nu c k+57)).fmod o6
theorem zgs(c k:Int):0<=nq c k:=DH _ tW
theorem zpx(c k:Int):Bd (nq c k) 200:=b60.mod tW
theorem zgt(c k:Int)(hk:Bd k n)(hn:n<=1000):uN [.int c,.int k]=.ok (.int (nq c k)):=by
 have a1:=tF (i:=c) zcU
 have a2:Bd (c.fmod o5) 60:=b18.mod zcU
 have a3:=mn (i:=7) (bF (by decide)) hk (by omega)
 have a4:=(bF (i:=7) (by decide)).mul hk
 have a5:=a2.add a4
 have a6:=mn a5 bm (by omega)
 have a7:=mn (i:=7919) (bF (by decide)) hk (by omega)
 have a8:=((a5.mul bm).add ((bF (i:=7919) (by decide)).mul hk)).add (bF (i:=1) (by decide))
 have a9:=mn a8 a8 (by omega)
 have b1:=tF (i:=oV c k*oV c k) tW
 have b2:Bd (nu c k) 200:=b60.mod tW
 have b3:=mn (b2.add (bF (i:=40503) (by decide))) (b2.add (bF (i:=57) (by decide))) (by decide)
 have b4:=tF (i:=(nu c k+40503)*(nu c k+57)) tW
 have hm:(yy 739108512309184756019283746561)=.int pm:=rfl
 have f1:(c.fmod o5+7*k)*pm+7919*k+1=oV c k:=rfl
 have f2:(oV c k*oV c k).fmod o6=nu c k:=rfl
 have f3:((nu c k+40503)*(nu c k+57)).fmod o6=nq c k:=rfl
 rw [f1] at a9
 simp only [uN,bG,FL.run,yg,yB,yP,xY,zeb,aq,aH,FL.e2,eV,slots,yG,if_false,AH,yX,yR,zz0,eC,av,zc9,ay,zdV,a1,zz1,a3,hm,a6,a7,f1,gN,zi,zm,zso,ziY,aG,a9,b1,f2,b3,b4,f3,outs,outD,if_true]
def bK(k:Nat)(d:D):Prop:=∃ n c s,d=.list [.int n,.int c,.int s]/\0<=n/\0<=c/\c<=k
theorem bK.mono(h:bK k d)(hl:k<=l):bK l d:=by
 obtain⟨n,c,s,e,h1,h2,h3⟩:=h
 exact⟨n,c,s,e,h1,h2,by omega⟩
theorem zrO(c k:Int)(hk:k.natAbs<65536):∃ d,zah [.int c,.int k]=.ok d/\bK 0 d:=by
 have a1:=tF (i:=c) zcU
 have hx1:=zgt c k (bF hk) (by decide)
 by_cases h:nE<=c
 ·refine⟨_,?_,c-nE,0,k,rfl,by omega,by decide,by decide⟩
  have hg:qt (.int c) (.int nE)=.ok (.bool true):=by show R.ok (zo (decide (nE<=c)))=_;rw [decide_eq_true h]
  simp only [zah,bG,FL.run,yg,yB,yP,xY,zau,aq,aQ,tB,FL.e2,eV,slots,yG,if_false,zW,yX,yR,zz0,eC,av,zc9,hg,gE,aV,aa,cv,ae,aS,zz1,if_true,aP,ay,outs,outD]
  rfl
 ·refine⟨_,?_,nq c k,0,c.fmod o5+k,rfl,zgs c k,by decide,by decide⟩
  have hg:qt (.int c) (.int nE)=.ok (.bool false):=by show R.ok (zo (decide (nE<=c)))=_;rw [decide_eq_false h]
  simp only [zah,bG,FL.run,yg,yB,yP,xY,zau,aq,aQ,tB,FL.e2,eV,slots,yG,if_false,zW,yX,yR,zz0,eC,av,zc9,hg,gE,aV,aa,cv,ae,aS,zz1,aP,ay,zdV,hx1,a1,outs,outD,if_true]
  rfl
theorem zi7(ns:List Int)(k:Int)(h0:0<=k)(hk:k.natAbs<65536):∃ a,zae [.list (ns.map yy),.int k]=.ok (.int a):=by
 have a3:=mn (i:=3) (bF (by decide)) (bF hk) (by decide)
 have hl:fc (.int k) (.int (ns.length:Int))=.ok (.bool (decide (k<ns.length))):=rfl
 by_cases h:k<ns.length
 ·rw [decide_eq_true h] at hl
  have:∃ a,dJ (ns.map yy) k=some (.int a):=by
   unfold dJ e7
   rw [yn,if_pos h0,if_pos h]
   exact⟨ns[k.toNat]'(by omega),by simp [show k.toNat<ns.length by omega]⟩
  obtain⟨a,ea⟩:=this
  refine⟨a,?_⟩
  simp only [zae,bG,FL.run,yg,yB,yP,xY,zat,aq,aQ,tB,FL.e2,eV,slots,yG,if_false,zW,yX,yR,zz1,zz0,FL.e1,bR,av,yn,hl,aG,aB,R.of,aS,ea,if_true,eC,ay,outs,outD]
 ·rw [decide_eq_false h] at hl
  refine⟨3*k+1,?_⟩
  simp only [zae,bG,FL.run,yg,yB,yP,xY,zat,aq,aQ,tB,FL.e2,eV,slots,yG,if_false,zW,yX,yR,zz1,zz0,FL.e1,bR,av,yn,hl,aG,aB,aS,eC,ay,a3,outs,outD,if_true]
theorem zeL{k:Nat}{ix:List Nat}{g:GF}{t:TF}{f:EF}(P:Nat->List D->En->Prop):∀(items:List D) (i:Nat) (acc:List D) (ρ:En),acc.length+items.length<=lim->acc.length=i->P i acc ρ ->
  (∀ x∈items,∀ j acc ρ,j<i+items.length->P j acc ρ->∃ β y β',g x (cq k ix ρ)=.ok β/\t β=.ok (true,β)/\f β=.ok (y,β')/\P (j+1) (acc++[y]) (back ρ ix (β'.drop k))) ->
  ∃ oi ρ',fF k ix g t f items ρ acc=.ok (oi,ρ')/\oi.length=i+items.length/\P (i+items.length) oi ρ'
 | [],i,acc,ρ,_,e,h,_=>⟨acc,ρ,rfl,e,h⟩
 | x::xs,i,acc,ρ,hl,e,h,hx=>by
  obtain⟨β,y,β',h1,h2,h3,h4⟩:=hx x (yM ..) i acc ρ (by simp) h
  have hl':acc.length+(xs.length+1)<=lim:=hl
  obtain⟨oi,ρ',e1',qm,sd⟩:=zeL P xs (i+1) (acc++[y]) _ (by simp;omega) (by simp;omega) h4 fun x m j acc ρ hj=>hx x (yK _ m) j acc ρ (by rw [yg];omega)
  refine⟨oi,ρ',?_,by simp;omega,by rw [yg,show i+(xs.length+1)=i+1+xs.length by omega];exact sd⟩
  unfold fF
  rw [h1,av,h2,av,if_pos rfl,h3,av,eD (i7 (by omega)),e1']
end
variable {F:List D->R (D×List D)}{i:Nat}{p:Bool}
section
theorem zaA{i:Nat}{x:Sl}:∀(ρ:En) (n:Nat),i<n->bQ [(i,x)] n ρ=ρ
 | [],_,_=>rfl
 | y::r,n,h=>by
  unfold bQ
  rw [vj (by rw [ym,show(n==i)=false from beq_eq_false_iff_ne.mpr (by omega)];rfl),zaA r (n+1) (by omega)]
theorem zaB{d d':D}{p:Bool}:∀(ρ:En) (n i:Nat),ρ[i]?=some (.ow p d)->bQ [(n+i,.ow true d')] n ρ=ρ.set i (.ow p d')
 | [],_,_,h=>by simp at h
 | y::r,n,0,h=>by
  have hy:y=.ow p d:=by simpa using h
  subst hy
  unfold bQ
  rw [Nat.add_zero,zaA r (n+1) (C4 n)]
  have:bP [(n,Sl.ow true d')] n (.ow p d)=.ow p d':=by
   unfold bP
   rw [ym,beq_self_eq_true]
  rw [this]
  rfl
 | y::r,n,i+1,h=>by
  unfold bQ
  rw [vj (by rw [ym,show(n==n+(i+1))=false from beq_eq_false_iff_ne.mpr (by omega)];rfl),show n+(i+1)=n+1+i by omega,zaB r (n+1) i (by simpa using h)]
  rfl
theorem dM{v r d' v':D}(hi:ρ[i]?=some (.ow p d))(hf:f ρ=.ok (v,ρ))(hF:F [d,v]=.ok (r,[d',v'])):aA F [.m i,.v f] ρ=.ok (r,ρ.set i (.ow p d')):=by
 have hm:bt ρ i=.ok d:=by unfold bt;rw [hi]
 unfold aA
 simp only [gf,hm,av,hf,fE,hF]
 have:=zaB (d:=d) (d':=d') (p:=p) ρ 0 i hi
 rw [Ck] at this
 show R.ok (r,bQ [(i,.ow true d')] 0 ρ)=_
 rw [this]
theorem set_same(h:ρ[i]?=some x):ρ.set i x=ρ:=by
 apply DF
 intro j
 by_cases e:i=j
 ·subst e
  rw [yH (yu.mp h).1,h]
 ·rw [yL e]
end
section
noncomputable def zlQ:SF:=(aG (dF (e1 (fT "int") (eV 0)) (iX (e1 (fT "bool") (eV 0)))))
noncomputable def zag:List D->R D:=bG false 1 1 zlQ
noncomputable def zbL:SF:=(pD (nO 3) (tB (e2 dn (eV 3) (eC (.int 0)))) (eN 2 3 (eV 3) (e2 fP (eV 2) (eV 3))))
noncomputable def zbE:SF:=(aq (eN 2 3 (e1 jq (eV 0)) (e1 jq (eV 1)))
  (aq zbL
  (aG (eV 2))))
noncomputable def zaf:List D->R D:=bG false 2 4 zbE
end
variable {a i:Int}{b j:Nat}
section
noncomputable def num(r:Rat):D:=.tuple [.int r.num,.int (r.den:Int)]
theorem zpA{h:Nat}(p:l≠0):fP (.int h) (.int l)=.ok (.int ((h % l:Nat):Int)):=by
 show bc (decide ((l:Int)≠0)) _=_
 rw [eD (by simpa using p)]
 rw [Int.fmod_eq_emod_of_nonneg _ (by omega)]
 rfl
theorem zbH(x0 x1:Sl):∀(n h l:Nat),l<n->pJ (tB (e2 dn (eV 3) (eC (.int 0)))) (eN 2 3 (eV 3) (e2 fP (eV 2) (eV 3))) n [x0,x1,.val (.int h),.val (.int l)]=.ok (.nx,[x0,x1,.val (.int ((CK h l:Nat):Int)),.val (.int 0)])
 | 0,h,l,p=>by omega
 | n+1,h,l,p=>by
  unfold pJ
  by_cases c:l=0
  ·subst c
   have e:dn (.int ((0:Nat):Int)) (.int 0)=.ok (.bool false):=by rw [zcD];rfl
   simp only [tB,FL.e2,eV,zz1,zz0,eC,av,e,eN,gN,yG,if_false,Nat.gcd_zero_right]
   rfl
  ·have e:dn (.int l) (.int 0)=.ok (.bool true):=by
    rw [zcD,decide_eq_false (by omega)];rfl
   simp only [tB,FL.e2,eV,zz1,zz0,eC,av,e,eN,gN,zpA c,zi,zm,if_true]
   have ih:=zbH x0 x1 n l (h % l) (by have:=Nat.mod_lt h (Nat.pos_of_ne_zero c);omega)
   rw [ih,Nat.gcd_comm l,<- Nat.gcd_rec,Nat.gcd_comm]
theorem zdU(i:Int):jq (.int i)=.ok (.int (i.natAbs:Int)):=by
 show R.ok (yy (if i<0 then -i else i))=_
 congr 2
 split <;> omega
theorem zlS(a b:Int):zaf [.int a,.int b]=.ok (.int (zl a b:Int)):=by
 have e1:eN 2 3 (FL.e1 jq (eV 0)) (FL.e1 jq (eV 1)) [.val (.int a),.val (.int b),.no,.no]=.ok (.nx,[.val (.int a),.val (.int b),.val (.int (a.natAbs:Int)),.val (.int (b.natAbs:Int))]):=by
  simp only [eN,FL.e1,eV,zz0,av,zdU,gN,zz1,zi,zm]
 have e2:zbL [.val (.int a),.val (.int b),.val (.int (a.natAbs:Int)),.val (.int (b.natAbs:Int))]=.ok (.nx,[.val (.int a),.val (.int b),.val (.int ((CK a.natAbs b.natAbs:Nat):Int)),.val (.int 0)]):=by
  unfold zbL pD
  have:nO 3 [.val (.int a),.val (.int b),.val (.int (a.natAbs:Int)),.val (.int (b.natAbs:Int))]=b.natAbs+1:=by
   show((b.natAbs:Int)).natAbs+1=_
   simp
  rw [this]
  exact zbH _ _ _ _ _ (by omega)
 show((zbE [.val (.int a),.val (.int b),.no,.no]).bind _).bind _=_
 unfold zbE
 rw [aD e1,aD e2]
 rfl
theorem zfp(hj:j≠0)(hb:j<2^n)(hn:n<=90000000):iY (.int i) (.int j)=.ok (.int (i / (j:Int))):=by
 show bc (decide ((j:Int)≠0)) _=_
 rw [eD (by simpa using hj),Int.fdiv_eq_ediv_of_nonneg _ (by omega)]
theorem zlR(hb:b≠0)(h:b<2^n):zl a (b:Int)≠0/\zl a (b:Int)<2^n:=by
 have h1:0<zl a (b:Int):=Int.gcd_pos_of_ne_zero_right a (by omega)
 have h2:zl a (b:Int)∣b:=by
  have:=Int.gcd_dvd_right a (b:Int)
  exact Int.natCast_dvd_natCast.mp this
 have h3:=Nat.le_of_dvd (Nat.pos_of_ne_zero hb) h2
 omega
end
section
abbrev Sm:=List (List Int×Rat)
noncomputable def kq(w:List Int):KQ:=.inl (w.map .inl)
theorem zfZ:∀ w:List Int,j3 (w.map yy)=some (w.map .inl)
 | []=>rfl
 | x::r=>by simp only [yi,j3,wu,zfZ r,Option.bind_some,zS]
theorem sY(w:List Int):keyOf (tp w)=some (kq w):=by
 show(j3 (w.map yy)).map A7=_
 rw [zfZ];rfl
theorem zfY{v w:List Int}(h:kq v=kq w):v=w:=by
 have:=Sum.inl.inj h
 have:=congrArg (List.map (Sum.elim id fun _=>(0:Int))) this
 simpa [zV,Function.comp_def] using this
theorem zfX(v w:List Int):decide (keyOf (tp v)=some (kq w))=decide (v=w):=by
 rw [sY]
 by_cases c:v=w
 ·subst c;simp
 ·rw [decide_eq_false c,decide_eq_false fun z=>c (zfY (yN z))]
theorem zpZ:(DI [.int 0,.int 1]:D)=num 0:=rfl
end
section
end
variable {b:SF}
section
theorem ki{ds:List D}(hl:ds.length=k)(h:b (slots (xY k false) ds++xY (n-ds.length) .no)=.ok (.rt d,ρ)):bG false k n b ds=.ok d:=by
 unfold bG FL.run
 rw [if_pos (by rw [Bx];exact hl),h]
 rfl
theorem ztu{ds:List D}(hl:ds.length=k)(h:b (slots (xY k false) ds++xY (n-ds.length) .no)=.ok (.rf d,ρ)):bG true k n b ds=.ok d:=by
 unfold bG FL.run
 rw [if_pos (by rw [Bx];exact hl),h]
 rfl
noncomputable def kyS(p:List Int×Rat):WK:=((p.1.length:Int),p.1)
noncomputable def zfI(x:List Int×Rat):Sm->Sm
 | []=>[x]
 | y::r=>if wA (kyS y) (kyS x)=true then y::zfI x r else x::y::r
noncomputable def zhQ:Sm->Sm
 | []=>[]
 | x::r=>zfI x (zhQ r)
noncomputable def tln(p:List Int×Rat):D:=.tuple [tp p.1,num p.2]
end
section
noncomputable def zbM:SF:=(pD (nO 3) (tB (e2 dn (eV 3) (eC (.int 0)))) (eN 2 3 (eV 3) (e2 fP (eV 2) (eV 3))))
noncomputable def zbG:SF:=(aq (aH (gN 2) (e1 jq (eV 0)))
  (aq (aH (gN 3) (eV 1))
  (aq zbM
  (aG (aE (aa (e2 iY (eV 0) (eV 2)) (aa (e2 iY (eV 1) (eV 2)) ae)))))))
noncomputable def zdz:List D->R D:=bG false 2 4 zbG
noncomputable def zbF:SF:=(aq (aQ (FL.bI (FL.bu (tE (e1 (fT "tuple") (eV 0)))) (tB (e2 dn (e1 bR (eV 0)) (eC (.int 2))))) (aG (eC (.bool false))) aS)
  (aq (aH (gT [(gN 1),(gN 2)]) (eV 0))
  (aq (aQ (FL.bI (FL.bu (tE (aP zag (aa (eV 1) ae)))) (FL.bI (FL.bu (tE (aP zag (aa (eV 2) ae)))) (tB (e2 fc (eV 2) (eC (.int 1)))))) (aG (eC (.bool false))) aS)
  (aG (e2 bD (aP zaf (aa (eV 1) (aa (eV 2) ae))) (eC (.int 1)))))))
noncomputable def ziw:List D->R D:=bG false 1 3 zbF
end
variable {b:Nat}
section
theorem zpg(t:Int)(hb:b≠0)(hl:b<2^n)(hn:n<=90000000):zdz [.int t,.int b]=.ok (.tuple [.int (Q1.fr t (b:Int)).1,.int (Q1.fr t (b:Int)).2]):=by
 have gS:=zlR (a:=t) hb hl
 have s1:aH (gN 2) (FL.e1 jq (eV 0)) [.val (.int t),.val (.int b),.no,.no]=.ok (.nx,[.val (.int t),.val (.int b),.val (.int (t.natAbs:Int)),.no]):=by
  simp only [aH,FL.e1,eV,zz0,av,zdU,gN,zz1,zi,zm]
 have s2:aH (gN 3) (eV 1) [.val (.int t),.val (.int b),.val (.int (t.natAbs:Int)),.no]=.ok (.nx,[.val (.int t),.val (.int b),.val (.int (t.natAbs:Int)),.val (.int b)]):=rfl
 have s3:zbM [.val (.int t),.val (.int b),.val (.int (t.natAbs:Int)),.val (.int b)]=.ok (.nx,[.val (.int t),.val (.int b),.val (.int ((zl t (b:Int):Nat):Int)),.val (.int 0)]):=by
  unfold zbM pD
  have:nO 3 [.val (.int t),.val (.int b),.val (.int (t.natAbs:Int)),.val (.int b)]=b+1:=by
   show((b:Int)).natAbs+1=_
   simp
  rw [this]
  exact zbH _ _ _ _ _ (by omega)
 have k1:iY (.int t) (.int ((zl t (b:Int):Nat):Int))=.ok (.int (t / ((zl t (b:Int):Nat):Int))):=zfp gS.1 gS.2 hn
 have k2:iY (.int b) (.int ((zl t (b:Int):Nat):Int))=.ok (.int ((b:Int) / ((zl t (b:Int):Nat):Int))):=zfp gS.1 gS.2 hn
 have l2:leB 2 lim=true:=by decide
 show((zbG [.val (.int t),.val (.int b),.no,.no]).bind _).bind _=_
 unfold zbG
 rw [aD s1,aD s2,aD s3]
 simp only [aG,aE,aa,FL.e2,eV,zz0,av,zz1,k1,ae,k2,yg,yB,yP,eD l2,xY,outs,outD]
 rw [Q1.zfu (by omega)]
theorem zph(t:Int)(hb:b≠0)(hl:b<2^n)(hn:n<=90000000):zdz [.int t,.int b]=.ok (num (Du t b hb)):=by
 rw [zpg t hb hl hn,QR.norm hb]
 rfl
theorem lx0(a b:Int):aB (.tuple [.int a,.int b]) (.int 0)=.ok (.int a):=rfl
theorem lx1(a b:Int):aB (.tuple [.int a,.int b]) (.int 1)=.ok (.int b):=rfl
end
section
noncomputable def told(s:Sm):D:=.list ((zhQ s).map tln)
theorem zmD(r:Rat):ziw [num r]=.ok (.bool true):=by
 have k1:fT "tuple" (num r)=.ok (.bool true):=rfl
 have wh:∀ i:Int,zag [.int i]=.ok (.bool true):=fun _=>rfl
 have k3:fc (.int (r.den:Int)) (.int 1)=.ok (.bool false):=by
  rw [oS];congr 2
  have:=r.den_nz
  exact decide_eq_false (by omega)
 have k4:zaf [.int r.num,.int (r.den:Int)]=.ok (.int 1):=by
  rw [zlS];congr 2
  have:=(QR.low r).cop
  omega
 have k5:dn (.int 2) (.int 2)=.ok (.bool false):=by rw [zcD];rfl
 have k6:bD (.int 1) (.int 1)=.ok (.bool true):=by rw [oB];rfl
 have k7:gT [gN 1,gN 2] (num r) [.val (num r),.no,.no]=.ok [.val (num r),.val (.int r.num),.val (.int (r.den:Int))]:=rfl
 refine ki (ρ:=[.val (num r),.val (.int r.num),.val (.int (r.den:Int))]) rfl ?_
 show zbF [.val (num r),.no,.no]=_
 unfold zbF
 have s1:aQ (FL.bI (FL.bu (tE (FL.e1 (fT "tuple") (eV 0)))) (tB (FL.e2 dn (FL.e1 bR (eV 0)) (eC (.int 2))))) (aG (eC (.bool false))) aS [.val (num r),.no,.no]=.ok (.nx,[.val (num r),.no,.no]):=by
  have l2:bR (num r)=.ok (.int 2):=rfl
  simp only [aQ,FL.bI,FL.bu,tE,tB,FL.e1,FL.e2,eV,eC,aS,av,zz0,k1,l2,k5,dR,zL,yG,if_false,if_true]
 have s2:aH (gT [gN 1,gN 2]) (eV 0) [.val (num r),.no,.no]=.ok (.nx,[.val (num r),.val (.int r.num),.val (.int (r.den:Int))]):=rfl
 rw [aD s1,aD s2]
 simp only [aq,aQ,FL.bI,FL.bu,tE,aP,aa,eV,zz1,zz0,ae,av,wh,dR,zL,tB,FL.e2,eC,yG,k3,if_false,aG,aS,k4,k6]
end
section
noncomputable def cs0:Cs:={ C:=fun _=>none,st:=by simp }
end
section
end
section
noncomputable def ev(f:List Int->Rat)(s:Sm):Rat:=(s.map fun p=>f p.1*p.2).sum
end
section
end
end FL
namespace L2
open PySem PySem.Spec PyProof.Rows
end L2
namespace FL
open PySem L2 PySem.Spec
open PyProof.Rows hiding St
end FL
namespace L2
open PySem PySem.Spec PyProof.Rows
end L2
namespace FL
open PySem PySem.Spec PyProof.Rows L2
end FL
namespace FL
open PySem L2 PySem.Spec
open PyProof.Rows hiding St
section
end
section
end
end FL
namespace FV
open PySem FL
section
end
variable {k:Nat}{cs ρ:En}{ix:List Nat}{f:EF}{w:List Int}{g:GF}{it:IF}{α β:Type}
section
section
noncomputable def gd(f:β->D)(s:List (List Int×β)):D:=.dict (s.map fun p=>(tp p.1,f p.2))
noncomputable def iZ(s:List (List Int×β))(w:List Int):Option β:=(s.find? fun p=>decide (p.1=w)).map (·.2)
noncomputable def m4(s:List (List Int×β))(w:List Int)(q:β):List (List Int×β):=if(s.any fun p=>decide (p.1=w))=true then s.map fun p=>if p.1=w then(p.1,q) else p else s++[(w,q)]
theorem zgc(f:β->D)(w:List Int):∀ s:List (List Int×β),look (s.map fun p=>(tp p.1,f p.2)) (kq w)=(iZ s w).map f
 | []=>rfl
 | p::r=>by
  have ih:=zgc f w r
  unfold look iZ at ih ⊢
  simp only [yi,Bh]
  rw [zfX p.1 w]
  cases decide (p.1=w) with
  | true=>rfl
  | false=>exact ih
theorem zfV(f:β->D):∀ s:List (List Int×β),keysOk true (s.map fun p=>(tp p.1,f p.2))=true
 | []=>rfl
 | p::r=>by
  have ih:=zfV f r
  unfold keysOk at ih ⊢
  rw [yi,Dg,ih,Bool.and_true]
  show(match keyOf (tp p.1) with|some q=>vO q==true|none=>false)=true
  rw [sY];rfl
theorem zeU(f:β->D)(s:List (List Int×β))(w:List Int):dictAt (gd f s) (tp w)=.ok (s.map (fun p=>(tp p.1,f p.2)),kq w):=by
 show(R.of (keyOf (tp w))).bind _=_
 rw [sY]
 exact eD (zfV f s)
theorem zeS(f:β->D)(s:List (List Int×β))(w:List Int):mU (gd f s) (tp w)=.ok ((iZ s w).map f):=by
 unfold mU
 rw [zeU,av,zgc]
theorem wo(f:β->D)(s:List (List Int×β))(w:List Int):inD (tp w) (gd f s)=.ok (.bool (iZ s w).isSome):=by
 unfold inD
 rw [zeS,av]
 cases iZ s w <;> rfl
theorem zkD{f:β->D}{s:List (List Int×β)}{q:β}(h:iZ s w=some q):jt (gd f s) (tp w)=.ok (f q):=by
 unfold jt
 rw [zeS,av,h];rfl
theorem zdY(f:β->D)(w:List Int):∀ s:List (List Int×β),((s.map fun p=>(tp p.1,f p.2)).any fun kv=>decide (keyOf kv.1=some (kq w)))=s.any fun p=>decide (p.1=w)
 | []=>rfl
 | p::r=>by
  simp only [yi,Em,zdY f w r]
  rw [zfX p.1 w]
theorem zrR(f:β->D)(s:List (List Int×β))(w:List Int)(q:β):ua (s.map fun p=>(tp p.1,f p.2)) (tp w) (kq w) (f q)=(m4 s w q).map fun p=>(tp p.1,f p.2):=by
 unfold ua m4
 rw [zdY]
 split
 ·rw [zV,zV]
  refine List.map_congr_left fun p _=>?_
  show(if keyOf (tp p.1)=some (kq w) then(tp p.1,f q) else(tp p.1,f p.2))=(fun p:List Int×β=>(tp p.1,f p.2)) (if p.1=w then(p.1,q) else p)
  by_cases c:p.1=w
  ·rw [if_pos c,if_pos (by rw [sY,c])]
  ·rw [if_neg c,if_neg (fun z=>c (by rw [sY] at z;exact zfY (yN z)))]
 ·rw [Ae];rfl
theorem zeW{f:β->D}{s:List (List Int×β)}{q:β}(h:s.length+1<=lim):ou (gd f s) (tp w) (f q)=.ok (gd f (m4 s w q)):=by
 unfold ou
 rw [zeU,av]
 show bc (leB ((s.map fun p=>(tp p.1,f p.2)).length+1) lim) _=_
 rw [eD (by rw [yn];exact i7 h),zrR];rfl
theorem zbD{s:List (List Int×β)}(h:∀ p∈s,p.1≠w):iZ s w=none:=by
 unfold iZ
 rw [List.find?_eq_none.mpr fun p hp=>by simpa using h p hp];rfl
def Gk(s:List (List Int×β)):Prop:=(s.map (·.1)).Nodup
theorem vR:∀{s:List (List Int×β)} {p:List Int×β},Gk s->p∈s->iZ s p.1=some p.2
 | x::r,p,nk,h=>by
  unfold Gk at nk
  rw [yi,z0] at nk
  unfold iZ
  rw [Bh]
  rcases yr.mp h with rfl|h
  ·simp
  ·have:x.1≠p.1:=fun z=>nk.1 (by rw [z];exact AZ h)
   rw [decide_eq_false this]
   exact vR (s:=r) nk.2 h
theorem zfz{s:List (List Int×β)}{q:β}(h:∀ p∈s,p.1≠w):m4 s w q=s++[(w,q)]:=by
 unfold m4
 rw [if_neg]
 intro z
 obtain⟨p,hp,hw⟩:=List.any_eq_true.mp z
 exact h p hp (by simpa using hw)
end
theorem vE{f0:α->D}{xs:List α}(h:α->D)(hi:it ρ=.ok (xs.map f0,ρ))(hl:xs.length<=lim)
  (hx:∀ x∈xs,∃ β,g (f0 x) (cq k ix ρ)=.ok β/\f β=.ok (h x,β)/\back ρ ix (β.drop k)=ρ):fN k ix it g fq f ρ=.ok (.list (xs.map h),ρ):=by
 have key:∀(xs:List α) (acc:List D),acc.length+xs.length<=lim->(∀ x∈xs,∃ β,g (f0 x) (cq k ix ρ)=.ok β/\f β=.ok (h x,β)/\back ρ ix (β.drop k)=ρ)->fF k ix g fq f (xs.map f0) ρ acc=.ok (acc++xs.map h,ρ):=by
  intro xs
  induction xs with
  | nil=>intro acc _ _;simp [fF]
  | cons x xs ih =>
   intro acc hl hx
   obtain⟨β,h1,h2,h3⟩:=hx x (yM ..)
   simp only [yg] at hl
   rw [yi]
   unfold fF
   rw [h1,av,show fq β=.ok (true,β) from rfl,av,if_pos rfl,h2,av,eD (i7 (by omega)),h3,ih _ (by simp;omega) fun y m=>hx y (yK x m)]
   simp
 unfold fN
 rw [hi,av,key xs [] (by simpa using hl) hx]
 rfl
noncomputable def nY:En->Prop
 | []=>True
 | .ow _ _::_=>False
 | _::r=>nY r
theorem nY.look:∀{ix:List Nat} {cs:En},nY cs->∀ i p d,(ix.zip cs).lookup i≠some (.ow p d)
 | [],_,_,i,p,d,z=>by simp at z
 | _::_,[],_,i,p,d,z=>by simp at z
 | j::ix,c::cs,h,i,p,d,z=>by
  have hr:nY cs:=by cases c <;> first|exact h|exact h.elim
  rw [zu,ym] at z
  split at z
  ·cases z;exact h
  ·exact nY.look hr i p d z
theorem qf(h:nY cs):back ρ ix cs=ρ:=zek (nY.look h) _ _
noncomputable def rL(xs:List Rat):D:=.list (xs.map num)
noncomputable def rT(xs:List Rat):D:=.tuple (xs.map num)
theorem zp0(r s:Rat):bD (num r) (num s)=.ok (.bool (decide (r=s))):=by
 have e:decide (([r.num,(r.den:Int)]:List Int)=[s.num,(s.den:Int)])=decide (r=s):=by
  by_cases c:r=s
  ·subst c;simp
  ·rw [decide_eq_false c,decide_eq_false]
   intro z
   simp only [List.cons.injEq,and_true,Int.natCast_inj] at z
   exact c (Rat.ext z.1 z.2)
 rw [<- e]
 exact zlj [r.num,(r.den:Int)] [s.num,(s.den:Int)]
theorem all_true(xs:List α):pZ (.list (xs.map fun _=>zo true))=.ok (.bool true):=by
 have:=zar (xs.map fun _=>true)
 rw [zV] at this
 rw [show xs.map (fun _=>zo true)=xs.map (zo∘fun _=>true) from rfl,this]
 simp
end
end FV
namespace FL
open PySem
variable {d:D}
theorem zuo{k b:Nat}(h:bK k d)(hk:k<=60000)(m:Int)(m9:1<=m)(iB:Bd m b)(hb:b<=1000):∃ g d',zai [d,.int m]=.ok (.int g,[d',.int m])/\0<=g/\g<m/\bK (k+1) d':=by
 obtain⟨n,c,s,rfl,h1,h2,h3⟩:=h
 have i0:∀ x y z:D,dJ [x,y,z] 0=some x:=fun _ _ _=>rfl
 have i1:∀ x y z:D,dJ [x,y,z] 1=some y:=fun _ _ _=>rfl
 have i2:∀ x y z:D,dJ [x,y,z] 2=some z:=fun _ _ _=>rfl
 have j0:e7 3 0=some 0:=rfl
 have j1:e7 3 1=some 1:=rfl
 have vZ:fc (.int n) (.int m)=.ok (.bool (decide (n<m))):=rfl
 have hd:∀ i:Int,iY (.int i) (.int m)=.ok (.int (i.fdiv m)):=fun i=>zlq (by omega) iB (by omega)
 have hm:∀ i:Int,fP (.int i) (.int m)=.ok (.int (i.fmod m)):=fun i=>tF (by omega)
 have gd:∀ i:Int,0<=i->0<=i.fdiv m:=fun i hi=>Int.fdiv_nonneg hi (by omega)
 by_cases hn:n<m
 ·rw [decide_eq_true hn] at vZ
  have hc:(c+1).natAbs<65536:=by omega
  have x1:=mn (i:=11) (bF (by decide)) (bF hc) (by decide)
  have xb:=((bF (i:=11) (by decide)).mul (bF hc)).add (bF (i:=5) (by decide))
  have x2:=zgt s (11*(c+1)+5) xb (by decide)
  have x3:=mn iB (zpx s (11*(c+1)+5)) (by omega)
  have nn:0<=n+m*nq s (11*(c+1)+5):=Int.add_nonneg h1 (Int.mul_nonneg (by omega) (zgs _ _))
  refine⟨(n+m*nq s (11*(c+1)+5)).fmod m,.list [.int ((n+m*nq s (11*(c+1)+5)).fdiv m),.int (c+1),.int s],?_,DH _ (by omega),EE _ (by omega),_,_,_,rfl,gd _ nn,by omega,by omega⟩
  simp only [zai,zav,FL.run,bG,slots,outs,outD,xY,yg,yB,aG,aq,aQ,aH,sE,aS,dZ,mE,iJ,gE,jh,mD,eN,mB,mC,dG,eC,eV,FL.e1,FL.e2,dF,lG,iX,lF,fG,ae,aa,aE,aV,aP,lH,cZ,c7,cS,bt,e8,m1,m2,fV,lZ,mj,mh,tE,tB,FL.fL,FL.bI,FL.bu,tM,fq,gN,gT,gB,jk,mI,setM,de,iW,av,lr,lu,zz0,zz1,zm,zi,yR,yX,A0,A1,yG,if_false,if_true,zW,AH,yP,reduceCtorEq,ay,cv,aB,iL,bR,dR,iG,ft,aA,gf,fE,gI,dW,bQ,bP,ym,A2,cq,back,zu,AA,AB,yi,zR,A5,Ad,A6,Ak,dH,iE,i6,zL,AG,iD,jD,gJ,lE,me,e3,gj,lC,my,fS,jC,jK,kh,R.of,i0,i1,i2,j0,j1,vZ,x1,x2,x3,hd,hm]
 ·rw [decide_eq_false hn] at vZ
  refine⟨n.fmod m,.list [.int (n.fdiv m),.int c,.int s],?_,DH _ (by omega),EE _ (by omega),_,_,_,rfl,gd _ h1,by omega,by omega⟩
  simp only [zai,zav,FL.run,bG,slots,outs,outD,xY,yg,yB,aG,aq,aQ,aH,sE,aS,dZ,mE,iJ,gE,jh,mD,eN,mB,mC,dG,eC,eV,FL.e1,FL.e2,dF,lG,iX,lF,fG,ae,aa,aE,aV,aP,lH,cZ,c7,cS,bt,e8,m1,m2,fV,lZ,mj,mh,tE,tB,FL.fL,FL.bI,FL.bu,tM,fq,gN,gT,gB,jk,mI,setM,de,iW,av,lr,lu,zz0,zz1,zm,zi,yR,yX,A0,A1,yG,if_false,if_true,zW,AH,yP,reduceCtorEq,ay,cv,aB,iL,bR,dR,iG,ft,aA,gf,fE,gI,dW,bQ,bP,ym,A2,cq,back,zu,AA,AB,yi,zR,A5,Ad,A6,Ak,dH,iE,i6,zL,AG,iD,jD,gJ,lE,me,e3,gj,lC,my,fS,jC,jK,kh,R.of,i0,i1,i2,j0,j1,vZ,hd,hm]
end FL
namespace K09
open PySem FL FV
variable {b i j k:Nat}{xs:List Rat}{h:List Int×List Rat->D}{x y:Sl}{a d:D}{t t':Tb}{c n:Int}{e:List Int×List Rat}{ρ:En}
section
theorem zcM(r:Rat):jP [num r]=.ok (.bool true):=zmD r
theorem et(h:bK k d)(hk:k<=60000)(m:Int)(m9:1<=m)(iB:Bd m b)(hb:b<=1000):∃ g d',aX [d,.int m]=.ok (.int g,[d',.int m])/\0<=g/\g<m/\bK (k+1) d':=zuo h hk m m9 iB hb
theorem zpf(t:Int){n:Nat}(hb:b≠0)(hl:b<2^n)(hn:n<=90000000):pP [.int t,.int b]=.ok (num (Du t b hb)):=zph t hb hl hn
theorem zfO(xs:List Rat)(hl:xs.length<=1000):pQ [rL xs]=.ok (.bool true):=by
 have q:qY [.val (rL xs)]=.ok (.list (xs.map fun _=>zo true),[.val (rL xs)]):=by
  unfold qY
  exact vE (f0:=num) (xs:=xs) (fun _=>zo true) rfl (by show _<=1000000;omega) fun r mr=>⟨[.val (num r)],rfl,by simp only [aP,aa,eV,zz0,ae,av,zcM],qf trivial⟩
 refine ki (ρ:=[.val (rL xs)]) rfl ?_
 show qd [.val (rL xs)]=_
 unfold qd
 have k1:fT "list" (rL xs)=.ok (.bool true):=rfl
 simp only [aG,dF,FL.e1,eV,zz0,av,k1,q,all_true]
theorem zfN(hl:(xs.length:Int)=n)(hn:xs.length<=1000):ie [rL xs,.int n]=.ok (.bool true):=by
 refine ki (ρ:=[.val (rL xs),.val (.int n)]) rfl ?_
 show mP [.val (rL xs),.val (.int n)]=_
 unfold mP
 have k1:bR (rL xs)=.ok (.int n):=by
  show R.ok (yy ((xs.map num).length:Int))=_
  rw [yn,hl]
 simp only [aG,dF,aP,aa,ae,FL.e1,FL.e2,eV,zz1,zz0,av,zfO xs (by omega),k1,oB,decide_true]
theorem zpU(xs:List Rat)(hl:xs.length<=1000):rB [rT xs]=.ok (.bool (xs.all fun x=>decide (x=0))):=by
 refine ki (ρ:=[.val (rT xs)]) rfl ?_
 show vg [.val (rT xs)]=_
 unfold vg zda
 have q:=vE (f0:=num) (k:=1) (ix:=[]) (it:=iE (eV 0)) (g:=gN 0) (f:=e2 bD (eV 0) (eC (.tuple [.int 0,.int 1]))) (ρ:=[.val (rT xs)]) (xs:=xs) (fun x=>zo (decide (x=0))) rfl (by show _<=1000000;omega) fun x mx=>⟨[.val (num x)],rfl,by
  have h:=zp0 x 0
  rw [<- zpZ] at h
  simp only [FL.e2,eV,eC,zz0,av,h],qf trivial⟩
 simp only [aG,FL.e1,q,av]
 have:=zar (xs.map fun x=>decide (x=0))
 rw [zV] at this
 rw [show xs.map (fun x=>zo (decide (x=0)))=xs.map (zo∘fun x=>decide (x=0)) from rfl,this,av]
 rw [List.all_map];rfl
abbrev Tb:=List (List Int×List Rat)
structure di(c:Int)(t:Tb):Prop where
 nk:Gk t
 ky:∀ e∈t,∃ i j:Int,e.1=[i,j]/\0<=i/\i<j/\j<c
 rw:∀ e∈t,(e.2.length:Int)=c+1
theorem di.perm(h:di c t)(p:t'.Perm t):di c t' :=
 ⟨(p.map _).nodup_iff.mpr h.nk,fun e m=>h.ky e (p.subset m),fun e m=>h.rw e (p.subset m)⟩
theorem zg0{α β:Type}(g:α->β):∀{l:List β} {t:List α},l.Perm (t.map g)->∃ t':List α,t'.Perm t/\l=t'.map g
 | [],t,h=>by
  have:=h.symm.eq_nil
  rw [List.map_eq_nil_iff] at this
  subst this
  exact⟨[],.refl _,rfl⟩
 | x::l,t,h=>by
  obtain⟨e,he,rfl⟩:=zM.mp (h.subset (yM ..))
  obtain⟨pre,post,rfl⟩:=List.append_of_mem he
  have h2:(g e::l).Perm (g e::(pre++post).map g):=h.trans (by
   rw [Ae,yi,Ae]
   exact List.perm_middle)
  obtain⟨t',hp,rfl⟩:=zg0 g h2.cons_inv
  exact⟨e::t',(hp.cons e).trans List.perm_middle.symm,rfl⟩
noncomputable def jE(e:List Int×List Rat):WK:=(e.1.getD 0 0,[e.1.getD 1 0])
structure St(t t':Tb):Prop where
 pm:t'.Perm t
 so:t'.Pairwise fun a b=>L2.fU (jE b) (jE a)=false
theorem zg6{h:List Int×List Rat->D}:∀{t:Tb},(∀ e∈t,o8 (h e)=some (jE e))->j8 (t.map h)=some (t.map jE)
 | [],_=>rfl
 | e::t,k=>by
  rw [yi,yi]
  show((o8 (h e)).bind fun k=>(j8 (t.map h)).map (k::·))=_
  rw [k e (yM ..),zg6 fun x m=>k x (yK _ m)];rfl
theorem ztU(hi:zcp d=.ok (t.map h))(hk:∀ e∈t,o8 (h e)=some (jE e))(nd:(t.map jE).Nodup)(hl:t.length<=60):∃ t':Tb,St t t'/\uA d=.ok (.list (t'.map h)):=by
 let g:List Int×List Rat->WK×D:=fun e=>(jE e,h e)
 obtain⟨t',hp,e⟩:=zg0 g (zcn (t.map g))
 refine⟨t',⟨hp,?_⟩,?_⟩
 ·have:=@zco cs0 (t.map g)
  rw [e,DJ] at this
  exact this
 ·unfold uA
  rw [hi,av,eD (by rw [yn];exact i7 (by omega)),zg6 hk]
  show bc (decide (t.map jE).Nodup) _=_
  rw [eD (decide_eq_true nd),List.zip_map',e,zV];rfl
theorem di.nd(h:di c t):(t.map jE).Nodup:=by
 have:(t.map (·.1)).Nodup:=h.nk
 refine DJ.mpr ((DJ.mp this).imp_of_mem fun{a b} ha hb ne z=>ne ?_)
 obtain⟨i,j,ea,_⟩:=h.ky a ha
 obtain⟨i',j',eb,_⟩:=h.ky b hb
 unfold jE at z
 rw [ea,eb] at z ⊢
 have z1:i=i':=(Prod.mk.inj z).1
 have z2:j=j':=(List.cons.inj (Prod.mk.inj z).2).1
 rw [z1,z2]
noncomputable def ag(e:List Int×List Rat):D:=.tuple [.int (e.1.getD 0 0),.int (e.1.getD 1 0),rL e.2]
noncomputable def oU(e:List Int×List Rat):D:=.tuple [.int (e.1.getD 0 0),.int (e.1.getD 1 0),rT e.2]
noncomputable def oR(t:Tb):Tb:=t.filter fun e=>!(e.2.all fun x=>decide (x=0))
theorem zbu{α:Type}(f:α->D):∀(xs:List α) (i:Nat),dY i (xs.map f)=(xs.zipIdx i).map fun q=>.tuple [.int q.2,f q.1]
 | [],_=>rfl
 | x::xs,i=>by simp only [yi,dY,EG,zbu f xs (i+1)]
theorem vS{b:D}(hx:ρ[i]?=some x)(nx:Np x)(hy:(ρ.set i (.val a))[j]?=some y)(ny:Np y):gT [gN i,gN j] (.tuple [a,b]) ρ=.ok ((ρ.set i (.val a)).set j (.val b)):=by
 show(gN i a ρ).bind _=_
 rw [m3 hx nx,av]
 show(gN j b _).bind _=_
 rw [m3 hy ny];rfl
theorem gT3{b c:D}{z:Sl}(hx:ρ[i]?=some x)(nx:Np x)(hy:(ρ.set i (.val a))[j]?=some y)(ny:Np y)(hz:((ρ.set i (.val a)).set j (.val b))[k]?=some z)(nz:Np z):gT [gN i,gN j,gN k] (.tuple [a,b,c]) ρ=.ok (((ρ.set i (.val a)).set j (.val b)).set k (.val c)):=by
 show(gN i a ρ).bind _=_
 rw [m3 hx nx,av]
 show(gN j b _).bind _=_
 rw [m3 hy ny,av]
 show(gN k c _).bind _=_
 rw [m3 hz nz];rfl
theorem zin{i:Int}(h0:0<=i)(h1:i<c):jQ [.int i,.int c]=.ok (.bool true):=by
 have wh:iR [.int i]=.ok (.bool true):=rfl
 simp only [jQ,rS,FL.run,bG,slots,outs,outD,xY,yg,yB,aG,aq,aQ,aH,sE,aS,dZ,mE,iJ,gE,jh,mD,eN,mB,mC,dG,eC,eV,FL.e1,FL.e2,dF,lG,iX,lF,fG,ae,aa,aE,aV,aP,lH,cZ,c7,cS,bt,e8,m1,m2,fV,lZ,mj,mh,tE,tB,FL.fL,FL.bI,FL.bu,tM,fq,gN,gT,gB,jk,mI,setM,de,iW,av,lr,lu,zz0,zz1,zm,zi,yR,yX,A0,A1,yG,if_false,if_true,zW,AH,yP,reduceCtorEq,ay,cv,aB,iL,bR,dR,iG,ft,aA,gf,fE,gI,dW,bQ,bP,ym,A2,cq,back,zu,AA,AB,yi,zR,A5,Ad,A6,Ak,dH,iE,i6,zL,AG,iD,jD,gJ,lE,me,e3,gj,lC,my,fS,jC,jK,kh,wh,qJ,oS,decide_eq_true h0,decide_eq_true h1]
theorem zgE{i j:Int}(he:e.1=[i,j])(h0:0<=i)(h1:i<j)(h2:j<c):f9 [ag e,.int c]=.ok (.bool true):=by
 have hl:ag e=.tuple [.int i,.int j,rL e.2]:=by unfold ag;rw [he];rfl
 rw [hl]
 have t1:fT "tuple" (.tuple [.int i,.int j,rL e.2])=.ok (.bool true):=rfl
 have t3:dn (.int ((0+1+1+1:Nat):Int)) (.int 3)=.ok (.bool false):=rfl
 have w1:=zin (i:=i) (c:=c) h0 (by omega)
 have w2:=zin (i:=j) (c:=c) (by omega) h2
 simp only [f9,rV,FL.run,bG,slots,outs,outD,xY,yg,yB,aG,aq,aQ,aH,sE,aS,dZ,mE,iJ,gE,jh,mD,eN,mB,mC,dG,eC,eV,FL.e1,FL.e2,dF,lG,iX,lF,fG,ae,aa,aE,aV,aP,lH,cZ,c7,cS,bt,e8,m1,m2,fV,lZ,mj,mh,tE,tB,FL.fL,FL.bI,FL.bu,tM,fq,gN,gT,gB,jk,mI,setM,de,iW,av,lr,lu,zz0,zz1,zm,zi,yR,yX,A0,A1,yG,if_false,if_true,zW,AH,yP,reduceCtorEq,ay,cv,aB,iL,bR,dR,iG,ft,aA,gf,fE,gI,dW,bQ,bP,ym,A2,cq,back,zu,AA,AB,yi,zR,A5,Ad,A6,Ak,dH,iE,i6,zL,AG,iD,jD,gJ,lE,me,e3,gj,lC,my,fS,jC,jK,kh,t1,t3,w1,w2,oS,decide_eq_true h1]
theorem zib(xs:List Rat):ft (rL xs)=.ok (rT xs):=rfl
theorem zqF(h:di c t)(c0:0<=c)(c6:c<=6)(hl:t.length<=60):uM [.int c,.list (t.map ag)]=.ok (gd rT t):=by
 generalize hLL:zG (t.map ag)=LL
 have L:=sr (f:=fun q:(List Int×List Rat)×Nat=>.tuple [.int q.2,ag q.1]) (g:=gT [gN 3,gN 4]) (b:=xJ)
  (fun done ρ=>∃(y3 y4 y5 y6 y7:Sl),Np y3/\Np y4/\Np y5/\Np y6/\Np y7/\ρ=[.val (.int c),.val LL,.ow false (gd rT (done.map (·.1))),y3,y4,y5,y6,y7])
  (t.zipIdx 0) [] [.val (.int c),.val LL,.ow false (gd rT []),.no,.no,.no,.no,.no] ⟨_,_,_,_,_,cT,cT,cT,cT,cT,rfl⟩ (by
   rintro pre ⟨e,n⟩ post ρ he ⟨y3,y4,y5,y6,y7,n3,n4,n5,n6,n7,rfl⟩
   rw [yR] at he
   have ht:t=pre.map (·.1)++e::post.map (·.1):=by
    have:=congrArg (List.map (·.1)) he
    simpa using this
   generalize hpm:pre.map (·.1)=pm at ht ⊢
   have em:e∈t:=by rw [ht];simp
   obtain⟨i,j,lI,i0,ij,jc⟩:=h.ky e em
   have rl:=h.rw e em
   have fr:iZ pm [i,j]=none:=zbD fun p hp z=>by
    have nk:=h.nk
    unfold Gk at nk
    rw [ht,Ae,EH] at nk
    exact nk.2.2 p.1 (AZ hp) e.1 (AZ (yM ..)) (by rw [z,lI])
   have hlv:ag e=.tuple [.int i,.int j,rL e.2]:=by unfold ag;rw [lI];rfl
   have nm:=zgE (c:=c) lI i0 ij jc
   have ro:=zfN (xs:=e.2) (n:=c+1) rl (by omega)
   have g1:gT [gN 3,gN 4] (.tuple [.int n,ag e]) [.val (.int c),.val LL,.ow false (gd rT pm),y3,y4,y5,y6,y7]=.ok [.val (.int c),.val LL,.ow false (gd rT pm),.val (.int n),.val (ag e),y5,y6,y7]:=vS rfl n3 rfl n4
   have g2:gT [gN 5,gN 6,gN 7] (.tuple [.int i,.int j,rL e.2]) [.val (.int c),.val LL,.ow false (gd rT pm),.val (.int n),.val (ag e),y5,y6,y7]=.ok [.val (.int c),.val LL,.ow false (gd rT pm),.val (.int n),.val (ag e),.val (.int i),.val (.int j),.val (rL e.2)]:=gT3 rfl n5 rfl n6 rfl n7
   have b1:aQ (FL.bu (tE (aP f9 (aa (eV 4) (aa (eV 0) ae))))) dG aS [.val (.int c),.val LL,.ow false (gd rT pm),.val (.int n),.val (ag e),y5,y6,y7]=.ok (.nx,[.val (.int c),.val LL,.ow false (gd rT pm),.val (.int n),.val (ag e),y5,y6,y7]):=by
    simp only [FL.run,bG,slots,outs,outD,xY,yg,yB,aG,aq,aQ,aH,sE,aS,dZ,mE,iJ,gE,jh,mD,eN,mB,mC,dG,eC,eV,FL.e1,FL.e2,dF,lG,iX,lF,fG,ae,aa,aE,aV,aP,lH,cZ,c7,cS,bt,e8,m1,m2,fV,lZ,mj,mh,tE,tB,FL.fL,FL.bI,FL.bu,tM,fq,gN,gT,gB,jk,mI,setM,de,iW,av,lr,lu,zz0,zz1,zm,zi,yR,yX,A0,A1,yG,if_false,if_true,zW,AH,yP,reduceCtorEq,ay,cv,aB,iL,bR,dR,iG,ft,aA,gf,fE,gI,dW,bQ,bP,ym,A2,cq,back,zu,AA,AB,yi,zR,A5,Ad,A6,Ak,dH,iE,i6,zL,AG,iD,jD,gJ,lE,me,e3,gj,lC,my,fS,jC,jK,kh,nm]
   have b2:aH (gT [gN 5,gN 6,gN 7]) (eV 4) [.val (.int c),.val LL,.ow false (gd rT pm),.val (.int n),.val (ag e),y5,y6,y7]=.ok (.nx,[.val (.int c),.val LL,.ow false (gd rT pm),.val (.int n),.val (ag e),.val (.int i),.val (.int j),.val (rL e.2)]):=by
    unfold aH
    show(gT [gN 5,gN 6,gN 7] (ag e) _).bind _=_
    rw [show gT [gN 5,gN 6,gN 7] (ag e)=gT [gN 5,gN 6,gN 7] (.tuple [.int i,.int j,rL e.2]) by rw [hlv],g2]
    rfl
   have ii:inD (.tuple [.int i,.int j]) (gd rT pm)=.ok (.bool false):=by
    have:=wo rT pm [i,j]
    rw [fr] at this
    exact this
   have l2:leB 2 lim=true:=by decide
   have b3:aQ (tB (fV inD (aE (aa (eV 5) (aa (eV 6) ae))) 2)) dG aS [.val (.int c),.val LL,.ow false (gd rT pm),.val (.int n),.val (ag e),.val (.int i),.val (.int j),.val (rL e.2)]=.ok (.nx,[.val (.int c),.val LL,.ow false (gd rT pm),.val (.int n),.val (ag e),.val (.int i),.val (.int j),.val (rL e.2)]):=by
    simp only [FL.run,bG,slots,outs,outD,xY,yg,yB,aG,aq,aQ,aH,sE,aS,dZ,mE,iJ,gE,jh,mD,eN,mB,mC,dG,eC,eV,FL.e1,FL.e2,dF,lG,iX,lF,fG,ae,aa,aE,aV,aP,lH,cZ,c7,cS,bt,e8,m1,m2,fV,lZ,mj,mh,tE,tB,FL.fL,FL.bI,FL.bu,tM,fq,gN,gT,gB,jk,mI,setM,de,iW,av,lr,lu,zz0,zz1,zm,zi,yR,yX,A0,A1,yG,if_false,if_true,zW,AH,yP,reduceCtorEq,ay,cv,aB,iL,bR,dR,iG,ft,aA,gf,fE,gI,dW,bQ,bP,ym,A2,cq,back,zu,AA,AB,yi,zR,A5,Ad,A6,Ak,dH,iE,i6,zL,AG,iD,jD,gJ,lE,me,e3,gj,lC,my,fS,jC,jK,kh,bc,l2,ii]
   have b4:aQ (FL.bu (tE (aP ie (aa (eV 7) (aa (e2 ay (eV 0) (eC (.int 1))) ae))))) dG aS [.val (.int c),.val LL,.ow false (gd rT pm),.val (.int n),.val (ag e),.val (.int i),.val (.int j),.val (rL e.2)]=.ok (.nx,[.val (.int c),.val LL,.ow false (gd rT pm),.val (.int n),.val (ag e),.val (.int i),.val (.int j),.val (rL e.2)]):=by
    simp only [FL.run,bG,slots,outs,outD,xY,yg,yB,aG,aq,aQ,aH,sE,aS,dZ,mE,iJ,gE,jh,mD,eN,mB,mC,dG,eC,eV,FL.e1,FL.e2,dF,lG,iX,lF,fG,ae,aa,aE,aV,aP,lH,cZ,c7,cS,bt,e8,m1,m2,fV,lZ,mj,mh,tE,tB,FL.fL,FL.bI,FL.bu,tM,fq,gN,gT,gB,jk,mI,setM,de,iW,av,lr,lu,zz0,zz1,zm,zi,yR,yX,A0,A1,yG,if_false,if_true,zW,AH,yP,reduceCtorEq,ay,cv,aB,iL,bR,dR,iG,ft,aA,gf,fE,gI,dW,bQ,bP,ym,A2,cq,back,zu,AA,AB,yi,zR,A5,Ad,A6,Ak,dH,iE,i6,zL,AG,iD,jD,gJ,lE,me,e3,gj,lC,my,fS,jC,jK,kh,ro]
   have dp:ou (gd rT pm) (.tuple [.int i,.int j]) (rT e.2)=.ok (gd rT (m4 pm [i,j] e.2)):=zeW (w:=[i,j]) (yx (show _<=200 by
    have:=congrArg Bw ht
    rw [zH] at this
    omega) (by decide))
   have b5:gj 2 (aE (aa (eV 5) (aa (eV 6) ae))) (e1 ft (eV 7)) [.val (.int c),.val LL,.ow false (gd rT pm),.val (.int n),.val (ag e),.val (.int i),.val (.int j),.val (rL e.2)]=.ok (.nx,[.val (.int c),.val LL,.ow false (gd rT (pm++[e])),.val (.int n),.val (ag e),.val (.int i),.val (.int j),.val (rL e.2)]):=by
    have pn:m4 pm [i,j] e.2=pm++[e]:=by
     rw [zfz fun p hp z=>?_,<- lI]
     have:=vR (s:=t) h.nk (p:=p) (by rw [ht];exact Bm _ hp)
     have nk:=h.nk
     unfold Gk at nk
     rw [ht,Ae,EH] at nk
     exact nk.2.2 p.1 (AZ hp) e.1 (AZ (yM ..)) (by rw [z,lI])
    rw [pn] at dp
    have tr:=zib e.2
    generalize rL e.2=R7 at tr ⊢
    simp only [gj,FL.e1,bt,aE,aa,ae,eV,zz1,zz0,av,bc,l2,if_true,yg,yB,yP,tr,dp,de,zi,zm]
   refine⟨[.val (.int c),.val LL,.ow false (gd rT (pm++[e])),.val (.int n),.val (ag e),.val (.int i),.val (.int j),.val (rL e.2)],.nx,?_,.inl rfl,_,_,_,_,_,cK _,cK _,cK _,cK _,cK _,by rw [Ae,hpm];rfl⟩
   rw [g1,av]
   unfold xJ
   rw [aD b1,aD b2,aD b3,aD b4,b5])
 obtain⟨ρ',e,y3,y4,y5,y6,y7,_,_,_,_,_,rfl⟩:=L
 refine ztu (ρ:=[.val (.int c),.val LL,.ow false (gd rT t),y3,y4,y5,y6,y7]) rfl ?_
 show vi [.val (.int c),.val LL,.no,.no,.no,.no,.no,.no]=_
 have s1:dZ 2 gJ [.val (.int c),.val LL,.no,.no,.no,.no,.no,.no]=.ok (.nx,[.val (.int c),.val LL,.ow false (gd rT []),.no,.no,.no,.no,.no]):=rfl
 have s2:xP [.val (.int c),.val LL,.ow false (gd rT []),.no,.no,.no,.no,.no]=.ok (.nx,[.val (.int c),.val LL,.ow false (gd rT t),y3,y4,y5,y6,y7]):=by
  unfold xP dH
  have hi:lQ (aa (eV 1) ae) [.val (.int c),.val LL,.ow false (gd rT []),.no,.no,.no,.no,.no]=.ok ((t.zipIdx 0).map fun q=>.tuple [.int q.2,ag q.1],[.val (.int c),.val LL,.ow false (gd rT []),.no,.no,.no,.no,.no]):=by
   rw [<- zbu,<- hLL];rfl
  rw [hi,av,e]
  simp
 unfold vi
 rw [aD s1,aD s2]
 rfl
theorem zum(h:di c t)(c1:1<=c)(c6:c<=6)(hl:t.length<=60):∃ t':Tb,St t t'/\rq [.int c,.list (t.map ag)]=.ok (.tuple [.int c,.tuple ((oR t').map oU)]):=by
 obtain⟨t',wc,hs⟩:=ztU (t:=t) (d:=gd rT t) (h:=fun e=>tp e.1) (by show R.ok ((t.map fun p=>(tp p.1,rT p.2)).map (·.1))=_;rw [zV];rfl) (fun e m=>by obtain⟨i,j,eq,_⟩:=h.ky e m;unfold jE;rw [eq];rfl) h.nd hl
 refine⟨t',wc,?_⟩
 have hp:=wc.pm
 have h':=h.perm hp
 have pr:=zqF h (by omega) c6 hl
 generalize zG (t.map ag)=LL at pr ⊢
 have q:uh [.no,.val (.int c),.val LL,.val (gd rT t)]=.ok (.list ((oR t').map oU),[.no,.val (.int c),.val LL,.val (gd rT t)]):=by
  unfold uh fN
  have it:iE (e1 uA (eV 3)) [.no,.val (.int c),.val LL,.val (gd rT t)]=.ok (t'.map fun e=>tp e.1,[.no,.val (.int c),.val LL,.val (gd rT t)]):=by
   simp only [iE,FL.e1,eV,zz1,zz0,av,hs,i6]
  rw [it,av]
  have key:∀(u:Tb) (acc:List D),(∀ e∈u,e∈t')->acc.length+u.length<=60->fF 2 [3] (gT [gN 0,gN 1]) (FL.bu (tE (aP rB (aa (e2 jt (eV 2) (aE (aa (eV 0) (aa (eV 1) ae)))) ae)))) (aE (aa (eV 0) (aa (eV 1) (aa (e2 jt (eV 2) (aE (aa (eV 0) (aa (eV 1) ae)))) ae)))) (u.map fun e=>tp e.1) [.no,.val (.int c),.val LL,.val (gd rT t)] acc=.ok (acc++(oR u).map oU,[.no,.val (.int c),.val LL,.val (gd rT t)]):=by
   intro u
   induction u with
   | nil=>intro acc _ _;simp [fF,oR]
   | cons e u ih =>
    intro acc hu hac
    have em:=hu e (yM ..)
    obtain⟨i,j,lI,i0,ij,jc⟩:=h'.ky e em
    have rl:=h'.rw e em
    rw [yg] at hac
    have dx:jt (gd rT t) (.tuple [.int i,.int j])=.ok (rT e.2):=by
     have:=vR h.nk (hp.subset em)
     rw [lI] at this
     exact zkD (f:=rT) this
    have no:=zpU e.2 (by omega)
    have l2:leB 2 lim=true:=by decide
    have l3:leB 3 lim=true:=by decide
    have hg:gT [gN 0,gN 1] (tp e.1) (cq 2 [3] [.no,.val (.int c),.val LL,.val (gd rT t)])=.ok [.val (.int i),.val (.int j),.val (gd rT t)]:=by rw [lI];rfl
    have ht:(FL.bu (tE (aP rB (aa (e2 jt (eV 2) (aE (aa (eV 0) (aa (eV 1) ae)))) ae)))) [.val (.int i),.val (.int j),.val (gd rT t)]=.ok (!(e.2.all fun x=>decide (x=0)),[.val (.int i),.val (.int j),.val (gd rT t)]):=by
     simp only [FL.bu,tE,aP,aa,ae,FL.e2,aE,eV,zz1,zz0,av,bc,l2,if_true,yg,yB,yP,dx,no,dR]
    have hf:(aE (aa (eV 0) (aa (eV 1) (aa (e2 jt (eV 2) (aE (aa (eV 0) (aa (eV 1) ae)))) ae)))) [.val (.int i),.val (.int j),.val (gd rT t)]=.ok (oU e,[.val (.int i),.val (.int j),.val (gd rT t)]):=by
     have:oU e=.tuple [.int i,.int j,rT e.2]:=by unfold oU;rw [lI];rfl
     rw [this]
     simp only [aa,ae,FL.e2,aE,eV,zz1,zz0,av,bc,l2,l3,if_true,yg,yB,yP,dx]
    have hb:back [.no,.val (.int c),.val LL,.val (gd rT t)] [3] (([.val (.int i),.val (.int j),.val (gd rT t)]:En).drop 2)=[.no,.val (.int c),.val LL,.val (gd rT t)]:=qf trivial
    rw [yi]
    unfold fF
    rw [hg,av,ht,av]
    have hu':∀ e∈u,e∈t':=fun x m=>hu x (yK _ m)
    cases cz:(e.2.all fun x=>decide (x=0)) with
    | true =>
     rw [if_neg (by simp),hb,ih acc hu' (by omega)]
     unfold oR
     rw [FT (by simp [cz])]
    | false =>
     rw [if_pos (by simp),hf,av,eD (i7 (yx (show _<=200 by omega) (by decide))),hb,ih _ hu' (by simp;omega)]
     unfold oR
     rw [FU (by simp [cz])]
     simp
  rw [key t' [] (fun _ m=>m) (by simpa using (by rw [hp.length_eq];exact hl))]
  rfl
 have wh:iR [.int c]=.ok (.bool true):=rfl
 have b1:aQ (FL.bI (FL.bu (tE (aP iR (aa (eV 1) ae)))) (FL.bu (tB (fG i9 i9 (eC (.int 1)) (eV 1) (eC (.int 6)))))) dG aS [.no,.val (.int c),.val LL,.no]=.ok (.nx,[.no,.val (.int c),.val LL,.no]):=by
  simp only [FL.run,bG,slots,outs,outD,xY,yg,yB,aG,aq,aQ,aH,sE,aS,dZ,mE,iJ,gE,jh,mD,eN,mB,mC,dG,eC,eV,FL.e1,FL.e2,dF,lG,iX,lF,fG,ae,aa,aE,aV,aP,lH,cZ,c7,cS,bt,e8,m1,m2,fV,lZ,mj,mh,tE,tB,FL.fL,FL.bI,FL.bu,tM,fq,gN,gT,gB,jk,mI,setM,de,iW,av,lr,lu,zz0,zz1,zm,zi,yR,yX,A0,A1,yG,if_false,if_true,zW,AH,yP,reduceCtorEq,ay,cv,aB,iL,bR,dR,iG,ft,aA,gf,fE,gI,dW,bQ,bP,ym,A2,cq,back,zu,AA,AB,yi,zR,A5,Ad,A6,Ak,dH,iE,i6,zL,AG,iD,jD,gJ,lE,me,e3,gj,lC,my,fS,jC,jK,kh,wh,qJ,decide_eq_true c1,decide_eq_true c6]
 have b2:aH (gN 3) (aP uM (aa (eV 1) (aa (eV 2) ae))) [.no,.val (.int c),.val LL,.no]=.ok (.nx,[.no,.val (.int c),.val LL,.val (gd rT t)]):=by
  simp only [FL.run,bG,slots,outs,outD,xY,yg,yB,aG,aq,aQ,aH,sE,aS,dZ,mE,iJ,gE,jh,mD,eN,mB,mC,dG,eC,eV,FL.e1,FL.e2,dF,lG,iX,lF,fG,ae,aa,aE,aV,aP,lH,cZ,c7,cS,bt,e8,m1,m2,fV,lZ,mj,mh,tE,tB,FL.fL,FL.bI,FL.bu,tM,fq,gN,gT,gB,jk,mI,setM,de,iW,av,lr,lu,zz0,zz1,zm,zi,yR,yX,A0,A1,yG,if_false,if_true,zW,AH,yP,reduceCtorEq,ay,cv,aB,iL,bR,dR,iG,ft,aA,gf,fE,gI,dW,bQ,bP,ym,A2,cq,back,zu,AA,AB,yi,zR,A5,Ad,A6,Ak,dH,iE,i6,zL,AG,iD,jD,gJ,lE,me,e3,gj,lC,my,fS,jC,jK,kh,pr]
 show(u9 [.no,.val (.int c),.val LL,.no]).bind _=_
 unfold u9 xm
 rw [b1,av]
 show((aH _ _ _).bind _).bind _=_
 rw [b2,av]
 have tq:e1 ft uh [.no,.val (.int c),.val LL,.val (gd rT t)]=.ok (.tuple ((oR t').map oU),[.no,.val (.int c),.val LL,.val (gd rT t)]):=by
  unfold FL.e1
  rw [q];rfl
 simp only [aa,ae,eV,zz1,zz0,av,tq]
 rfl
end
variable {s u:SF}{v:Int}{G:List D->R (Option (String×List D))}{r:R (Fl×En)}{f h:EF}{l:List D}{F:List D->R D}{t:TF}{fa:AF}{ρ1 ρ2:En}{b p:Bool}{o y:D}{g:D->D->R D}
section
theorem ixL{i:Int}(h0:0<=i)(h:l[i.toNat]?=some d):aB (.list l) (.int i)=.ok d:=by
 have hl:i.toNat<l.length:=(yu.mp h).1
 show R.of (dJ l i)=_
 unfold dJ e7
 rw [if_pos h0,if_pos (by omega)]
 show R.of (l[i.toNat]?)=_
 rw [h];rfl
theorem zpF{n:Nat}(h:Pl n a)(hn:n<=64:=by decide):dn a a=.ok (.bool false):=by
 rw [zgF h h hn hn,SeqAt.eqv_refl a h.1];rfl
theorem ji{t:SF}(h:s ρ=.ok (.rt d,ρ1)):aq s t ρ=.ok (.rt d,ρ1):=by
 unfold aq
 rw [h];rfl
theorem gW{a b:SF}(h:t ρ=.ok (true,ρ1)):aQ t a b ρ=a ρ1:=by
 unfold aQ
 rw [h];rfl
theorem gw{a b:SF}(h:t ρ=.ok (false,ρ1)):aQ t a b ρ=b ρ1:=by
 unfold aQ
 rw [h];rfl
theorem zej{d d':D}{p p':Bool}:∀(ρ:En) (n i:Nat),ρ[i]?=some (.ow p d)->bQ [(n+i,.ow p' d')] n ρ=ρ.set i (.ow p d')
 | [],n,i,h=>by simp at h
 | x::r,n,0,h=>by
  simp only [zz0,zF] at h
  subst h
  unfold bQ
  rw [zm]
  congr 1
  ·simp [bP,ym]
  ·refine zaA r (n+1) (by omega)
 | x::r,n,i+1,h=>by
  unfold bQ
  rw [zi,show n+(i+1)=(n+1)+i by omega,zej r (n+1) i (by simpa using h)]
  congr 1
  refine vj ?_
  rw [ym]
  have:(n==n+1+i)=false:=by simp;omega
  rw [this]
  rfl
structure Row(n:Nat)(xs:List Rat):Prop where
 l:xs.length=n
 b:∀ x∈xs,QR.Bd 70 x
theorem it3{n:Nat}(hn:(n:Int)=c+1)(c6:c<=6)(h:ρ[3]?=some (.val (.int c))):fS (aa (e2 ay (eV 3) (eC (.int 1))) ae) ρ=.ok (fj 0 (c+1),ρ):=by
 have ad:ay (.int c) (.int 1)=.ok (.int (c+1)):=rfl
 have ev:eV 3 ρ=.ok (.int c,ρ):=by unfold eV;rw [h]
 have r:=zhG (j:=c+1) (by omega) (by omega)
 simp only [fS,aa,ae,FL.e2,ev,eC,av,ad,r]
theorem vm{g:R En}(h:g=.ok ρ1)(k:u ρ1=r):g.bind u=r:=by rw [h];exact k
theorem zdd(hf:f ρ=.ok (d,ρ))(h:ρ[i]?=some x)(n:Np x):dZ i f ρ=.ok (.nx,ρ.set i (.ow false d)):=ztA (y:=(d,ρ)) hf h n
theorem zmE{ds:List D}{p:D->Bool}(hp:∀ d∈ds,jP [d]=.ok (.bool (p d)))(hl:ds.length<=1000):pQ [.list ds]=.ok (.bool (ds.all p)):=by
 have q:qY [.val (.list ds)]=.ok (.list (ds.map fun d=>zo (p d)),[.val (.list ds)]):=by
  unfold qY
  exact vE (f0:=id) (xs:=ds) (fun d=>zo (p d)) (by rw [List.map_id];rfl) (by show _<=1000000;omega) fun r mr=>⟨[.val r],rfl,by simp only [aP,aa,eV,zz0,ae,av,hp r mr],qf trivial⟩
 refine ki (ρ:=[.val (.list ds)]) rfl ?_
 show qd [.val (.list ds)]=_
 have is:fT "list" (.list ds)=.ok (.bool true):=rfl
 have al:=zar (ds.map p)
 rw [zV] at al
 have al':pZ (.list (ds.map fun d=>zo (p d)))=.ok (.bool (ds.all p)):=al.trans (by rw [List.all_map];rfl)
 unfold qd
 simp only [aG,dF,FL.e1,eV,zz0,av,is,dR,if_true,q,al']
theorem zhM{ds:List D}(hd:d=.list ds)(h:pQ [d]=.ok (.bool b)):ie [d,.int n]=.ok (.bool (b&&decide ((ds.length:Int)=n))):=by
 subst hd
 refine ki (ρ:=[.val (.list ds),.val (.int n)]) rfl ?_
 show mP [.val (.list ds),.val (.int n)]=_
 have le:bR (.list ds)=.ok (.int (ds.length:Int)):=rfl
 unfold mP
 cases b with
 | false=>simp only [aG,dF,aP,aa,ae,FL.e1,FL.e2,eV,zz1,zz0,av,h,dR,yG,if_false,Cw]
 | true=>simp only [aG,dF,aP,aa,ae,FL.e1,FL.e2,eV,zz1,zz0,av,h,dR,if_true,le,oB,EI]
theorem zpM(n:Int)(h:∀ ds,d≠.list ds)(h2:∀ ds,d≠.dict ds):ie [d,.int n]=.ok (.bool false):=by
 have e:pQ [d]=.ok (.bool false):=by
  cases d with
  | list ds=>exact absurd rfl (h ds)
  | dict ds=>exact absurd rfl (h2 ds)
  | _=>rfl
 refine ki (ρ:=[.val d,.val (.int n)]) rfl ?_
 show mP [.val d,.val (.int n)]=_
 unfold mP
 simp only [aG,dF,aP,aa,ae,FL.e1,FL.e2,eV,zz1,zz0,av,e,dR,yG,if_false]
theorem zf4(hl:xs.length<=1000)(h:(xs.length:Int)≠n):ie [rL xs,.int n]=.ok (.bool false):=by
 have:=zhM (n:=n) (d:=rL xs) (ds:=xs.map num) rfl (zfO xs hl)
 rw [yn,decide_eq_false h] at this
 exact this
noncomputable def wq(d:D):Bool:=match jP [d] with
 | .ok (.bool b)=>b
 | _=>false
theorem zfL(h:jP [d]=.ok (.bool b)):wq d=b:=by unfold wq;rw [h]
theorem zqf{ys:List Rat}(ho:jP [o]=.ok (.bool false))(hl:xs.length+ys.length<=900):ie [.list (xs.map num++[o]++ys.map num),.int n]=.ok (.bool false):=by
 have hp:∀ d∈xs.map num++[o]++ys.map num,jP [d]=.ok (.bool (wq d)):=fun d m=>by
  have t:∃ b,jP [d]=.ok (.bool b):=by
   rcases Au.mp m with m|m
   ·rcases Au.mp m with m|m
    ·obtain⟨x,_,rfl⟩:=zM.mp m;exact⟨true,zcM x⟩
    ·exact⟨false,by rw [BJ.mp m];exact ho⟩
   ·obtain⟨x,_,rfl⟩:=zM.mp m;exact⟨true,zcM x⟩
  obtain⟨b,hb⟩:=t
  rw [zfL hb]
  exact hb
 have e:=zmE hp (by simp;omega)
 rw [show((xs.map num++[o]++ys.map num).all wq)=false by rw [List.all_append,List.all_append,Dg,zfL ho];simp] at e
 exact(zhM rfl e).trans (by rw [Cw])
def pK(n:Nat)(x:D):Prop:=ie [x,.int n]=.ok (.bool false)
theorem zup(h0:0<=v)(h:v<=xs.length):cut (xs.map num) none (some v)=(xs.take v.toNat).map num:=by
 show((xs.map num).drop 0).take ((if v<0 then(v+((xs.map num).length:Int)).toNat else min v.toNat (xs.map num).length)-0)=_
 rw [if_neg (by omega),Ad,yn,ED,EJ (by omega),Cq]
theorem zkI(h0:0<=v)(h:v<=xs.length):cut (xs.map num) (some v) none=(xs.drop v.toNat).map num:=by
 show((xs.map num).drop (if v<0 then(v+((xs.map num).length:Int)).toNat else min v.toNat (xs.map num).length)).take ((xs.map num).length-(if v<0 then(v+((xs.map num).length:Int)).toNat else min v.toNat (xs.map num).length))=_
 rw [if_neg (by omega),yn,EJ (by omega),Eg (by rw [Dc,yn];omega),List.map_drop]
theorem zgk{ρ':En}(h:f ρ=.ok (o,ρ')):aV (aa f ae) ρ=.ok (.list [o],ρ'):=by
 unfold aV aa
 rw [h]
 rfl
theorem bw{b:D}(h1:f ρ=.ok (a,ρ1))(h2:h ρ1=.ok (b,ρ2))(h3:g a b=.ok d):FL.e2 g f h ρ=.ok (d,ρ2):=by
 unfold FL.e2
 rw [h1,av,h2,av,h3]
 rfl
theorem qg{a:AF}{ds:List D}(h:a ρ=.ok (ds,ρ1))(k:F ds=.ok d):aP F a ρ=.ok (d,ρ1):=by unfold aP;rw [h,av,k];rfl
theorem fX(h:f ρ=.ok (.bool b,ρ1)):tB f ρ=.ok (b,ρ1):=by unfold tB;rw [h];rfl
theorem xD(h:f ρ=.ok (.bool b,ρ1)):tE f ρ=.ok (b,ρ1):=by unfold tE;rw [h];rfl
theorem zcS{u:TF}(h:t ρ=.ok (false,ρ1))(k:u ρ1=.ok (false,ρ2)):FL.bI t u ρ=.ok (false,ρ2):=by unfold FL.bI;rw [h];exact k
theorem zpT(h:t ρ=.ok (true,ρ1)):FL.bu t ρ=.ok (false,ρ1):=by unfold FL.bu;rw [h];rfl
theorem zhO{ds fs:List D}{c:String}(h:fa ρ=.ok (ds,ρ1))(hG:G ds=.ok (some (c,fs)))(hx:ρ1[i]?=some x)(n:Np x):q8 i G fa ρ=.ok (.nx,ρ1.set i (.ob c fs)):=by
 unfold q8
 rw [h,av]
 dsimp only
 rw [hG,av]
 rw [hx]
 cases x with
 | ow p d=>cases p with
  | true=>exact absurd rfl (n d)
  | false=>rfl
 | _=>rfl
theorem zgp{x:D}(h1:ρ[i]?=some (.ow p x))(h2:h ρ=.ok (y,ρ))(h3:g x y=.ok d):m2 g i h ρ=.ok (d,ρ):=by
 have m:bt ρ i=.ok x:=by unfold bt;rw [h1]
 unfold m2
 rw [m,av,h2,av]
 dsimp only
 rw [m,av,h3];rfl
theorem zex{G:String->List D->R D}{c:String}{ds:List D}(h:ρ[i]?=some (.ob c ds))(k:G c ds=.ok d):oy i G ρ=.ok (d,ρ):=by
 unfold oy
 rw [h]
 dsimp only
 rw [k];rfl
theorem ztp{m:Nat}{pre post:List Nat}(e:[]++zN m=pre++j::post):j=pre.length/\j<m:=by
 rw [yR] at e
 have h1:(zN m)[pre.length]?=some j:=by rw [e];simp
 rw [yu] at h1
 obtain⟨q,h⟩:=h1
 rw [List.getElem_range] at h
 rw [Dx] at q
 omega
end
variable {r v x:D}{j w:Int}{E:EF}{ip:Nat}{items:List D}{it:IF}
section
theorem zgj{t b:Int}(hb:1<=b)(tb:t.natAbs<2^70)(bb:b.natAbs<2^70):∃ r,pP [.int t,.int b]=.ok (num r)/\QR.Bd 70 r:=by
 have hb0:b.toNat≠0:=by omega
 have hl:=zpf t (b:=b.toNat) (n:=70) hb0 (by omega) (by decide)
 rw [Er (by omega)] at hl
 refine⟨_,hl,?_⟩
 have h1:=QR.norm (t:=t) hb0
 have h2:=QR.zlF t (b.toNat:Int)
 rw [h1] at h2
 exact⟨Ef h2.1 tb,Ef (by have:=h2.2;omega) (show b.toNat<2^70 by omega)⟩
abbrev NE(d:D)(w:Int):En:=[.ow true d,.val (.int w)]
theorem xG{b:Nat}(h:bK k d)(hk:k<=60000)(m:Int)(hE:E (NE d w)=.ok (.int m,NE d w))(m9:1<=m)(iB:Bd m b)(hb:b<=1000):∃ g d',aA aX [.m 0,.v E] (NE d w)=.ok (.int g,NE d' w)/\0<=g/\g<m/\bK (k+1) d':=by
 obtain⟨g,d',t,g0,g1,p⟩:=et h hk m m9 iB hb
 exact⟨g,d',dM (p:=true) (d:=d) rfl hE t,g0,g1,p⟩
theorem zp1(h:bK k d)(hk:k<=50000):∃(r:Rat) (d':D),mM [d]=.ok (num r,[d'])/\QR.Bd 70 r/\bK (k+3) d':=by
 obtain⟨w,d1,t1,w0,w6,p1⟩:=et h (by omega) 6 (by decide) (bF (by decide)) (by decide)
 have s1:aH (gN 1) (aA aX [.m 0,.v (eC (.int 6))]) [.ow true d,.no]=.ok (.nx,NE d1 w):=iK (y:=(.int w,[.ow true d1,.no])) (dM (p:=true) (d:=d) rfl rfl t1) rfl cT
 have fin:∀{r:Rat} {d':D},vc [.ow true d,.no]=.ok (.rt (num r),NE d' w)->mM [d]=.ok (num r,[d']):=fun{r d'} e=>by
  show((vc [.ow true d,.no]).bind _)=_
  rw [e];rfl
 have tt:∀(m:Int) (d:D),tB (e2 fc (eV 1) (eC (.int m))) (NE d w)=.ok (decide (w<m),NE d w):=fun _ _=>rfl
 by_cases c1:w<3
 ·have c:w=0\/w=1\/w=2:=by omega
  have t3:=tt 3 d1
  rw [decide_eq_true c1] at t3
  rcases c with rfl|rfl|rfl
  ·exact⟨0,d1,fin ((aD s1).trans (ji (gW t3))),⟨by decide,by decide⟩,p1.mono (by omega)⟩
  ·exact⟨1,d1,fin ((aD s1).trans (ji (gW t3))),⟨by decide,by decide⟩,p1.mono (by omega)⟩
  ·exact⟨-1,d1,fin ((aD s1).trans (ji (gW t3))),⟨by decide,by decide⟩,p1.mono (by omega)⟩
 have n3:=gw (a:=aG (e2 aB (aV (pX [(.tuple [(.int 0),(.int 1)]),(.tuple [(.int 1),(.int 1)]),(.tuple [(.int (-1)),(.int 1)])])) (eV 1))) (b:=aS) (by have:=tt 3 d1;rw [decide_eq_false c1] at this;exact this)
 have pw:(2:Nat)^16<2^70:=by decide
 by_cases c5:w<5
 ·have t5:=tt 5 d1
  rw [decide_eq_true c5] at t5
  obtain⟨g,d2,qm,g0,g1,p2⟩:=xG (w:=w) (E:=eC (.int 13)) p1 (by omega) 13 rfl (by decide) (bF (by decide)) (by decide)
  obtain⟨q,d3,sd,q0,q1,p3⟩:=xG (w:=w) (E:=eC (.int 4)) p2 (by omega) 4 rfl (by decide) (bF (by decide)) (by decide)
  have hq:0<=q*(w-3)/\q*(w-3)<=100:=by
   have:w=3\/w=4:=by omega
   rcases this with rfl|rfl <;> omega
  obtain⟨r,er,rb⟩:=zgj (t:=g-6) (b:=1+q*(w-3)) (by omega) (by omega) (by omega)
  have ml:dQ (.int q) (.int (w-3))=.ok (.int (q*(w-3))):=mn (n:=16) (m:=16) (bF (by omega)) (bF (by omega)) (by decide)
  refine⟨r,d3,fin ((aD s1).trans ((aD n3).trans (ji ((gW t5).trans ?_)))),rb,p3⟩
  have a1:e2 cv (aA aX [.m 0,.v (eC (.int 13))]) (eC (.int 6)) (NE d1 w)=.ok (.int (g-6),NE d2 w):=bw qm rfl rfl
  have a2:e2 ay (eC (.int 1)) (e2 dQ (aA aX [.m 0,.v (eC (.int 4))]) (e2 cv (eV 1) (eC (.int 3)))) (NE d2 w)=.ok (.int (1+q*(w-3)),NE d3 w):=bw rfl (bw sd (bw rfl rfl rfl) ml) rfl
  simp only [aG,aP,aa,ae,a1,a2,av,er]
 have n5:=gw (a:=aG (aP pP (aa (e2 cv (aA aX [.m 0,.v (eC (.int 13))]) (eC (.int 6))) (aa (e2 ay (eC (.int 1)) (e2 dQ (aA aX [.m 0,.v (eC (.int 4))]) (e2 cv (eV 1) (eC (.int 3))))) ae)))) (b:=aS) (by have:=tt 5 d1;rw [decide_eq_false c5] at this;exact this)
 obtain⟨g,d2,qm,g0,g1,p2⟩:=xG (w:=w) (E:=e2 ay (e2 dQ (eC (.int 2)) (e2 c9 (eC (.int 10)) (eC (.int 4)))) (eC (.int 1))) p1 (by omega) 20001 rfl (by decide) (bF (by decide)) (by decide)
 obtain⟨q,d3,sd,q0,q1,p3⟩:=xG (w:=w) (E:=eC (.int 30)) p2 (by omega) 30 rfl (by decide) (bF (by decide)) (by decide)
 obtain⟨r,er,rb⟩:=zgj (t:=g-10000) (b:=1+q) (by omega) (by omega) (by omega)
 refine⟨r,d3,fin ((aD s1).trans ((aD n3).trans ((aD n5).trans ?_))),rb,p3⟩
 have a1:e2 cv (aA aX [.m 0,.v (e2 ay (e2 dQ (eC (.int 2)) (e2 c9 (eC (.int 10)) (eC (.int 4)))) (eC (.int 1)))]) (e2 c9 (eC (.int 10)) (eC (.int 4))) (NE d1 w)=.ok (.int (g-10000),NE d2 w):=bw qm rfl rfl
 have a2:e2 ay (eC (.int 1)) (aA aX [.m 0,.v (eC (.int 30))]) (NE d2 w)=.ok (.int (1+q),NE d3 w):=bw rfl sd rfl
 simp only [aG,aP,aa,ae,a1,a2,av,er]
theorem zkG(hi:ρ[ip]?=some (.ow p d))(hp:bK k d)(hit:it ρ=.ok (items,ρ))(hl:items.length<=100)(hk:k+3*items.length<=40000) :
  ∃(xs:List Rat) (d':D),fN 1 [ip] it (gN 0) fq (aA mM [.m 1]) ρ=.ok (rL xs,ρ.set ip (.ow p d'))/\Row items.length xs/\bK (k+3*items.length) d':=by
 obtain⟨acc,ρ',ec,el,xs,d',rfl,hx,dP,rfl⟩:=zeL (k:=1) (ix:=[ip]) (g:=gN 0) (t:=fq) (f:=aA mM [.m 1])
  (fun i acc ρ'=>∃(xs:List Rat) (d':D),acc=xs.map num/\(∀ r∈xs,QR.Bd 70 r)/\bK (k+3*i) d'/\ρ'=ρ.set ip (.ow p d')) items 0 [] ρ (by show 0+_<=1000000;omega) rfl ⟨[],d,rfl,by simp,hp,(set_same hi).symm⟩ (by
   rintro x hx i acc ρ' iA ⟨xs,d1,rfl,wm,hp1,rfl⟩
   obtain⟨r,d2,en,rb,hp2⟩:=zp1 hp1 (by omega)
   have g1:(ρ.set ip (.ow p d1))[ip]?=some (.ow p d1):=by
    rw [yH]
    exact(yu.mp hi).1
   have eb:cq 1 [ip] (ρ.set ip (.ow p d1))=[.no,.ow p d1]:=by
    unfold cq
    rw [yi,zR,g1]
    rfl
   have cm:aA mM [.m 1] [.val x,.ow p d1]=.ok (num r,[.val x,.ow p d2]):=by
    show((mM [d1]).bind fun y=>R.ok (y.1,gI _ _ y.2))=_
    rw [en]
    rfl
   refine⟨[.val x,.ow p d1],num r,[.val x,.ow p d2],by rw [eb];rfl,rfl,cm,xs++[r],d2,by simp,fun z hz=>?_,by rw [show k+3*(i+1)=k+3*i+3 by omega];exact hp2,?_⟩
   ·rcases Au.mp hz with hz|hz
    ·exact wm z hz
    ·rw [BJ.mp hz];exact rb
   ·show bQ [(ip,.ow p d2)] 0 (ρ.set ip (.ow p d1))=_
    have:=zej (d':=d2) (p':=p) (ρ.set ip (.ow p d1)) 0 ip g1
    rw [Ck] at this
    rw [this,List.set_set])
 refine⟨xs,d',?_,⟨by simpa using el,hx⟩,by simpa using dP⟩
 unfold fN
 rw [hit,av,ec]
 rfl
end
variable {n:Nat}
section
abbrev SE(d:D)(xs:List Rat)(y2 y3 y4:Sl):En:=[.ow true d,.val (rL xs),y2,y3,y4]
noncomputable def zgN:List D:=[.tuple [.int 2,.int 4],.tuple [.int 1,.int 0],.tuple [.int 1,.int (-1)],.int 1,.bool true,.none,.str "1",.tuple [.int 1],.tuple [.bool true,.int 1],.tuple [.int 3,.int 1,.int 1]]
theorem zqg{g:Int}(g0:0<=g)(g6:g<10):∃ o,jP [o]=.ok (.bool false)/\aB (.list zgN) (.int g)=.ok o:=by
 have c:g=0\/g=1\/g=2\/g=3\/g=4\/g=5\/g=6\/g=7\/g=8\/g=9:=by omega
 rcases c with rfl|rfl|rfl|rfl|rfl|rfl|rfl|rfl|rfl|rfl
 ·exact⟨_,by kernel_rfl,rfl⟩
 ·exact⟨_,by kernel_rfl,rfl⟩
 ·exact⟨_,by kernel_rfl,rfl⟩
 ·exact⟨_,by kernel_rfl,rfl⟩
 ·exact⟨_,by kernel_rfl,rfl⟩
 ·exact⟨_,by kernel_rfl,rfl⟩
 ·exact⟨_,by kernel_rfl,rfl⟩
 ·exact⟨_,by kernel_rfl,rfl⟩
 ·exact⟨_,by kernel_rfl,rfl⟩
 ·exact⟨_,by kernel_rfl,rfl⟩
theorem zjc(hp:bK k d)(hk:k<=40000)(hl:xs.length=n)(n1:1<=n)(n7:n<=100):∃ x d',pO [d,rL xs]=.ok (x,[d',rL xs])/\pK n x/\bK (k+3) d':=by
 obtain⟨w,d1,t1,w0,w5,p1⟩:=et hp (by omega) 5 (by decide) (bF (by decide)) (by decide)
 have s1:aH (gN 2) (aA aX [.m 0,.v (eC (.int 5))]) (SE d xs .no .no .no)=.ok (.nx,SE d1 xs (.val (.int w)) .no .no):=iK (y:=(.int w,SE d1 xs .no .no .no)) (dM (p:=true) (d:=d) rfl rfl t1) rfl cT
 have fin:∀{x:D} {d':D} {y2 y3 y4:Sl},vb (SE d xs .no .no .no)=.ok (.rt x,SE d' xs y2 y3 y4)->pO [d,rL xs]=.ok (x,[d',rL xs]):=fun{x d' y2 y3 y4} e=>by
  show((vb (SE d xs .no .no .no)).bind _)=_
  rw [e];rfl
 have tt:∀ m:Int,tB (e2 bD (eV 2) (eC (.int m))) (SE d1 xs (.val (.int w)) .no .no)=.ok (decide (w=m),SE d1 xs (.val (.int w)) .no .no):=fun m=>by
  simp only [SE,tB,FL.e2,eV,eC,zz1,zz0,av,oB]
 have add:∀(a b:List D),a.length+b.length<=1000->ay (.list a) (.list b)=.ok (.list (a++b)):=fun a b h=>by
  show bc (leB (a.length+b.length) lim) _=_
  rw [eD (i7 (by show _<=1000000;omega))]
 by_cases c0:w=0
 ·have t0:=tt 0
  rw [decide_eq_true c0] at t0
  have b0:pK n (.list (cut (xs.map num) none (some (-1)))):=by
   have e:cut (xs.map num) none (some (-1))=(xs.take (n-1)).map num:=by
    show((xs.map num).drop 0).take ((if(-1:Int)<0 then(-1+((xs.map num).length:Int)).toNat else min (-1:Int).toNat (xs.map num).length)-0)=_
    rw [if_pos (by decide),Ad,yn,ED,hl,Cq,show(-1+(n:Int)).toNat=n-1 by omega]
   rw [e]
   exact zf4 (xs:=xs.take (n-1)) (by rw [zQ];omega) (by rw [zQ];omega)
  exact⟨_,d1,fin ((aD s1).trans (ji (d:=.list (cut (xs.map num) none (some (-1)))) (ρ1:=SE d1 xs (.val (.int w)) .no .no) ((gW t0).trans rfl))),b0,p1.mono (by omega)⟩
 have n0:=gw (a:=aG (cS (eV 1) cZ (c7 (e1 mw (eC (.int 1)))))) (b:=aS) (by have:=tt 0;rw [decide_eq_false c0] at this;exact this)
 by_cases c1:w=1
 ·have t1':=tt 1
  rw [decide_eq_true c1] at t1'
  have b1:pK n (.list (xs.map num++[.tuple [.int 0,.int 1]])):=by
   have e:(xs.map num++[DI [.int 0,.int 1]]:List D)=(xs++[0]).map num:=by rw [Ae];rfl
   rw [e]
   exact zf4 (xs:=xs++[0]) (by simp;omega) (by simp;omega)
  refine⟨_,d1,fin ((aD s1).trans ((aD n0).trans (ji (ρ1:=SE d1 xs (.val (.int w)) .no .no) ((gW t1').trans ?_)))),b1,p1.mono (by omega)⟩
  unfold aG
  rw [bw (a:=rL xs) rfl (zgk (o:=.tuple [.int 0,.int 1]) rfl) (add (xs.map num) [.tuple [.int 0,.int 1]] (by simp;omega))]
  rfl
 have n1':=gw (a:=aG (e2 ay (eV 1) (aV (aa (aE (aa (eC (.int 0)) (aa (eC (.int 1)) ae))) ae)))) (b:=aS) (by have:=tt 1;rw [decide_eq_false c1] at this;exact this)
 by_cases c2:w=2
 ·have t2':=tt 2
  rw [decide_eq_true c2] at t2'
  obtain⟨g,d2,t2,g0,g6,p2⟩:=et p1 (by omega) 5 (by decide) (bF (by decide)) (by decide)
  have cm:aA aX [.m 0,.v (eC (.int 5))] (SE d1 xs (.val (.int w)) .no .no)=.ok (.int g,SE d2 xs (.val (.int w)) .no .no):=dM (p:=true) (d:=d1) rfl rfl t2
  have ob:∃ x,aB (.list [rT xs,.none,.str "0",.int 3,.bool true]) (.int g)=.ok x/\pK n x:=by
   have c:g=0\/g=1\/g=2\/g=3\/g=4:=by omega
   rcases c with rfl|rfl|rfl|rfl|rfl <;> exact⟨_,rfl,zpM _ (fun _ z=>nomatch z) (fun _ z=>nomatch z)⟩
  obtain⟨x,ex,bx⟩:=ob
  have le:aV (aa (e1 ft (eV 1)) (aa (eC .none) (aa (eC (.str "0")) (aa (eC (.int 3)) (aa (eC (.bool true)) ae))))) (SE d1 xs (.val (.int w)) .no .no)=.ok (.list [rT xs,.none,.str "0",.int 3,.bool true],SE d1 xs (.val (.int w)) .no .no):=rfl
  refine⟨x,d2,fin ((aD s1).trans ((aD n0).trans ((aD n1').trans (ji (d:=x) (ρ1:=SE d2 xs (.val (.int w)) .no .no) ((gW t2').trans ?_))))),bx,p2.mono (by omega)⟩
  unfold aG
  rw [bw le cm ex]
  rfl
 have n2:=gw (a:=aG (e2 aB (aV (aa (e1 ft (eV 1)) (aa (eC .none) (aa (eC (.str "0")) (aa (eC (.int 3)) (aa (eC (.bool true)) ae)))))) (aA aX [.m 0,.v (eC (.int 5))]))) (b:=aS) (by have:=tt 2;rw [decide_eq_false c2] at this;exact this)
 obtain⟨hh,d2,t2,h0,h1,p2⟩:=et p1 (by omega) (n:Int) (by omega) (bF (by omega)) (by decide)
 have ln:e1 bR (eV 1) (SE d1 xs (.val (.int w)) .no .no)=.ok (.int n,SE d1 xs (.val (.int w)) .no .no):=by
  show R.ok (yy ((xs.map num).length:Int),_)=_
  rw [yn,hl]
 have s5:aH (gN 3) (aA aX [.m 0,.v (e1 bR (eV 1))]) (SE d1 xs (.val (.int w)) .no .no)=.ok (.nx,SE d2 xs (.val (.int w)) (.val (.int hh)) .no):=iK (y:=(.int hh,SE d2 xs (.val (.int w)) .no .no)) (dM (p:=true) (d:=d1) rfl ln t2) rfl cT
 obtain⟨g,d3,t3,g0,g6,p3⟩:=et p2 (by omega) 10 (by decide) (bF (by decide)) (by decide)
 have cm:aA aX [.m 0,.v (eC (.int 10))] (SE d2 xs (.val (.int w)) (.val (.int hh)) .no)=.ok (.int g,SE d3 xs (.val (.int w)) (.val (.int hh)) .no):=dM (p:=true) (d:=d2) rfl rfl t3
 obtain⟨o,on,oe⟩:=zqg g0 g6
 have s6:aH (gN 4) (e2 aB (aV (aa (aE (aa (eC (.int 2)) (aa (eC (.int 4)) ae))) (aa (aE (aa (eC (.int 1)) (aa (eC (.int 0)) ae))) (aa (aE (aa (eC (.int 1)) (aa (e1 mw (eC (.int 1))) ae))) (aa (eC (.int 1)) (aa (eC (.bool true)) (aa (eC .none) (aa (eC (.str "1")) (aa (aE (aa (eC (.int 1)) ae)) (aa (aE (aa (eC (.bool true)) (aa (eC (.int 1)) ae))) (aa (aE (aa (eC (.int 3)) (aa (eC (.int 1)) (aa (eC (.int 1)) ae)))) ae))))))))))) (aA aX [.m 0,.v (eC (.int 10))])) (SE d2 xs (.val (.int w)) (.val (.int hh)) .no)=.ok (.nx,SE d3 xs (.val (.int w)) (.val (.int hh)) (.val o)):=iK (y:=(o,SE d3 xs (.val (.int w)) (.val (.int hh)) .no)) (bw (a:=.list zgN) rfl cm oe) rfl cT
 have a1:cS (eV 1) cZ (c7 (eV 3)) (SE d3 xs (.val (.int w)) (.val (.int hh)) (.val o))=.ok (.list ((xs.take hh.toNat).map num),SE d3 xs (.val (.int w)) (.val (.int hh)) (.val o)):=by
  rw [<- zup h0 (by omega)];rfl
 have a3:cS (eV 1) (c7 (e2 ay (eV 3) (eC (.int 1)))) cZ (SE d3 xs (.val (.int w)) (.val (.int hh)) (.val o))=.ok (.list ((xs.drop (hh+1).toNat).map num),SE d3 xs (.val (.int w)) (.val (.int hh)) (.val o)):=by
  rw [<- zkI (v:=hh+1) (by omega) (by omega)];rfl
 refine⟨_,d3,fin ((aD s1).trans ((aD n0).trans ((aD n1').trans ((aD n2).trans ((aD s5).trans ((aD s6).trans (?_:_=R.ok (Fl.rt (.list ((xs.take hh.toNat).map num++[o]++(xs.drop (hh+1).toNat).map num)),SE d3 xs (.val (.int w)) (.val (.int hh)) (.val o))))))))),zqf on (by rw [zQ,Dc];omega),p3⟩
 have x1:=add ((xs.take hh.toNat).map num) [o] (by simp;omega)
 have x2:=add ((xs.take hh.toNat).map num++[o]) ((xs.drop (hh+1).toNat).map num) (by simp;omega)
 unfold aG
 rw [bw (bw a1 (zgk rfl) x1) a3 x2]
 rfl
end
variable {y3 y5 y6 y7:Sl}{xs:List D}{q:D}{w:String}{t:Tb}{i:Int}
section
theorem zlD{g:GF}{b:SF}(e:(g x ρ).bind b=.ok (.nx,ρ1)):forL g b (x::xs) ρ=forL g b xs ρ1:=by
 show((g x ρ).bind fun ρ1=>(b ρ1).bind _)=_
 cases eg:g x ρ with
 | ok ρ2 =>
  rw [eg] at e
  rw [av]
  have e:b ρ2=.ok (.nx,ρ1):=e
  rw [e];rfl
 | _=>rw [eg] at e;cases e
theorem zlE{g:GF}{b:SF}{c:String}{fs:List D}(e:(g x ρ).bind b=.err c fs):forL g b (x::xs) ρ=.err c fs:=by
 show((g x ρ).bind fun ρ1=>(b ρ1).bind _)=_
 cases eg:g x ρ with
 | ok ρ2 =>
  rw [eg] at e
  rw [av]
  have e:b ρ2=.err c fs:=e
  rw [e];rfl
 | err c' dj=>rw [eg] at e;exact e
 | bad=>rw [eg] at e;cases e
theorem zhP{x:Fl×En}(h:s ρ=.ok x):fo s ρ=.ok x:=uq h
theorem wX{t:TF}{a b:SF}(h:t ρ=.ok (true,ρ1)):aQ (jM t) a b ρ=a ρ1:=gW (uq h)
theorem wW{t:TF}{a b:SF}(h:t ρ=.ok (false,ρ1)):aQ (jM t) a b ρ=b ρ1:=gw (uq h)
theorem zgJ{t:TF}(h:t ρ=.ok (b,ρ1)):FL.bu t ρ=.ok (!b,ρ1):=by unfold FL.bu;rw [h];rfl
theorem zpp{i:Nat}{c:D}(h1:f ρ=.ok (x,ρ))(h2:ρ[i]?=some (.ow p c))(h3:g x c=.ok d):fV g f i ρ=.ok (d,ρ):=by
 have m:bt ρ i=.ok c:=by unfold bt;rw [h2]
 unfold fV
 rw [h1,av]
 dsimp only
 rw [m,av,h3];rfl
theorem uw{t:SF}{c:String}{fs:List D}(h:s ρ=.err c fs):aq s t ρ=.err c fs:=by unfold aq;rw [h];rfl
noncomputable def bx1:SF:=aQ (jM (FL.bu (tE (aP f9 (aa (eV 4) (aa (eV 0) ae)))))) (kj "NoPair" true (aa (eV 3) ae)) (fo aS)
noncomputable def bx3:SF:=aQ (jM (tB (fV inD (aE (aa (eV 5) (aa (eV 6) ae))) 2))) (kj "NoPair" true (aa (eV 3) ae)) (fo aS)
noncomputable def bx4:SF:=aQ (jM (FL.bu (tE (aP ie (aa (eV 7) (aa (e2 ay (eV 0) (eC (.int 1))) ae)))))) (kj "NoRow" true (aa (eV 3) ae)) (fo aS)
noncomputable def bx:SF:=aq bx1 (aq (fo (aH (gT [(gN 5),(gN 6),(gN 7)]) (eV 4))) (aq bx3 (aq bx4 (fo (gj 2 (aE (aa (eV 5) (aa (eV 6) ae))) (e1 ft (eV 7)))))))
abbrev PE(c:Int)(LL T:D)(y3 y4 y5 y6 y7:Sl):En:=[.val (.int c),.val LL,.ow false T,y3,y4,y5,y6,y7]
section
variable {k:Int}{LL T p:D}
theorem vn(h:f9 [v,.int c]=.ok (.bool b)):bx1 (PE c LL T (.val (.int k)) (.val v) y5 y6 y7)=if b=true then .ok (.nx,PE c LL T (.val (.int k)) (.val v) y5 y6 y7) else .err "NoPair" [.int k]:=by
 have t:=zgJ (xD (qg (a:=aa (eV 4) (aa (eV 0) ae)) (ρ:=PE c LL T (.val (.int k)) (.val v) y5 y6 y7) rfl h))
 unfold bx1
 cases b with
 | true=>exact(wW t).trans rfl
 | false=>exact(wX t).trans rfl
theorem zaC(n5:Np y5)(n6:Np y6)(n7:Np y7):fo (aH (gT [(gN 5),(gN 6),(gN 7)]) (eV 4)) (PE c LL T (.val (.int k)) (.val (.tuple [p,q,r])) y5 y6 y7)=.ok (.nx,PE c LL T (.val (.int k)) (.val (.tuple [p,q,r])) (.val p) (.val q) (.val r)):=by
 refine zhP ?_
 have g:gT [gN 5,gN 6,gN 7] (.tuple [p,q,r]) (PE c LL T (.val (.int k)) (.val (.tuple [p,q,r])) y5 y6 y7)=.ok (PE c LL T (.val (.int k)) (.val (.tuple [p,q,r])) (.val p) (.val q) (.val r)):=gT3 rfl n5 rfl n6 rfl n7
 show(gT [gN 5,gN 6,gN 7] (.tuple [p,q,r]) (PE c LL T (.val (.int k)) (.val (.tuple [p,q,r])) y5 y6 y7)).bind _=_
 rw [g];rfl
theorem zaD(h:inD (.tuple [p,q]) T=.ok (.bool b)):bx3 (PE c LL T (.val (.int k)) (.val v) (.val p) (.val q) (.val r))=if b=true then .err "NoPair" [.int k] else .ok (.nx,PE c LL T (.val (.int k)) (.val v) (.val p) (.val q) (.val r)):=by
 have t:=fX (zpp (f:=aE (aa (eV 5) (aa (eV 6) ae))) (i:=2) (ρ:=PE c LL T (.val (.int k)) (.val v) (.val p) (.val q) (.val r)) rfl rfl h)
 unfold bx3
 cases b with
 | false=>exact(wW t).trans rfl
 | true=>exact(wX t).trans rfl
theorem zem(h:ie [r,.int (c+1)]=.ok (.bool b)):bx4 (PE c LL T (.val (.int k)) (.val v) (.val p) (.val q) (.val r))=if b=true then .ok (.nx,PE c LL T (.val (.int k)) (.val v) (.val p) (.val q) (.val r)) else .err "NoRow" [.int k]:=by
 have t:=zgJ (xD (qg (a:=aa (eV 7) (aa (e2 ay (eV 0) (eC (.int 1))) ae)) (ρ:=PE c LL T (.val (.int k)) (.val v) (.val p) (.val q) (.val r)) rfl h))
 unfold bx4
 cases b with
 | true=>exact(wW t).trans rfl
 | false=>exact(wX t).trans rfl
end
theorem zjl{k:Int}{LL:D}(he:e.1=[i,j])(i0:0<=i)(ij:i<j)(jc:j<c)(c6:c<=6)(rl:(e.2.length:Int)=c+1)(fr:∀ p∈t,p.1≠e.1)(hl:t.length<=60)(n5:Np y5)(n6:Np y6)(n7:Np y7) :
  bx (PE c LL (gd rT t) (.val (.int k)) (.val (ag e)) y5 y6 y7)=.ok (.nx,PE c LL (gd rT (t++[e])) (.val (.int k)) (.val (ag e)) (.val (.int i)) (.val (.int j)) (.val (rL e.2))):=by
 have hlv:ag e=.tuple [.int i,.int j,rL e.2]:=by unfold ag;rw [he];rfl
 have nm:=zgE (c:=c) he i0 ij jc
 have ro:=zfN (xs:=e.2) (n:=c+1) rl (by omega)
 have ii:inD (.tuple [.int i,.int j]) (gd rT t)=.ok (.bool false):=by
  have:=wo rT t [i,j]
  rw [zbD (by rw [<- he];exact fr)] at this
  exact this
 have dp:ou (gd rT t) (.tuple [.int i,.int j]) (rT e.2)=.ok (gd rT (m4 t [i,j] e.2)):=zeW (w:=[i,j]) (yx (show _<=200 by omega) (by decide))
 rw [zfz (by rw [<- he];exact fr),show(([i,j],e.2):List Int×List Rat)=e by rw [<- he]] at dp
 have b5:gj 2 (aE (aa (eV 5) (aa (eV 6) ae))) (e1 ft (eV 7)) (PE c LL (gd rT t) (.val (.int k)) (.val (ag e)) (.val (.int i)) (.val (.int j)) (.val (rL e.2)))=.ok (.nx,PE c LL (gd rT (t++[e])) (.val (.int k)) (.val (ag e)) (.val (.int i)) (.val (.int j)) (.val (rL e.2))):=by
  have tr:=zib e.2
  have l2:leB 2 lim=true:=by decide
  generalize rL e.2=R7 at tr ⊢
  simp only [PE,gj,FL.e1,bt,aE,aa,ae,eV,zz1,zz0,av,bc,l2,if_true,yg,yB,yP,tr,dp,de,zi,zm]
 have e1:=vn (LL:=LL) (T:=gd rT t) (k:=k) (y5:=y5) (y6:=y6) (y7:=y7) nm
 have e2:=zaC (c:=c) (LL:=LL) (T:=gd rT t) (k:=k) (p:=.int i) (q:=.int j) (r:=rL e.2) n5 n6 n7
 rw [<- hlv] at e2
 exact(aD e1).trans ((aD e2).trans ((aD (zaD ii)).trans ((aD (zem ro)).trans (zhP b5))))
structure jo(c:Int)(t:Tb)(v:D)(w:String):Prop where
 no:∀(LL:D) (k:Int) (y5 y6 y7:Sl),Np y5->Np y6->Np y7->bx (PE c LL (gd rT t) (.val (.int k)) (.val v) y5 y6 y7)=.err w [.int k]
theorem jo.name(h:f9 [v,.int c]=.ok (.bool false)):jo c t v "NoPair":=⟨fun _ _ _ _ _ _ _ _=>uw (vn h)⟩
theorem jo.twice{xs:List Rat}(i0:0<=i)(ij:i<j)(jc:j<c)(h:([i,j],xs)∈t)(nk:Gk t)(hn:f9 [.tuple [.int i,.int j,r],.int c]=.ok (.bool true)):jo c t (.tuple [.int i,.int j,r]) "NoPair":=⟨fun _ _ _ _ _ n5 n6 n7=>by
 have ii:inD (.tuple [.int i,.int j]) (gd rT t)=.ok (.bool true):=by
  have:=wo rT t [i,j]
  rw [show iZ t [i,j]=some xs from vR (p:=([i,j],xs)) nk h] at this
  exact this
 exact(aD (vn hn)).trans ((aD (zaC n5 n6 n7)).trans (uw (zaD ii)))⟩
theorem jo.row(hn:f9 [.tuple [.int i,.int j,r],.int c]=.ok (.bool true))(fr:∀ p∈t,p.1≠[i,j])(hr:ie [r,.int (c+1)]=.ok (.bool false)):jo c t (.tuple [.int i,.int j,r]) "NoRow":=⟨fun _ _ _ _ _ n5 n6 n7=>by
 have ii:inD (.tuple [.int i,.int j]) (gd rT t)=.ok (.bool false):=by
  have:=wo rT t [i,j]
  rw [zbD fr] at this
  exact this
 exact(aD (vn hn)).trans ((aD (zaC n5 n6 n7)).trans ((aD (zaD ii)).trans (uw (zem hr))))⟩
end
variable {L:D}
section
theorem zfd:∀(a b:List D) (n:Nat),dY n (a++b)=dY n a++dY (n+a.length) b
 | [],b,n=>rfl
 | x::a,b,n=>by
  show _::dY (n+1) (a++b)=_
  rw [zfd a b (n+1),yg,show n+1+a.length=n+(a.length+1) by omega];rfl
theorem turns{c:Int}{LL:D}{ds:List D}(c6:c<=6):∀(xs done:Tb) (y3 y4 y5 y6 y7:Sl),di c (done++xs)->(done++xs).length<=60->Np y3->Np y4->Np y5->Np y6->Np y7 ->
  ∃ z3 z4 z5 z6 z7,(Np z3/\Np z4/\Np z5/\Np z6/\Np z7)/\forL (gK (gT [gN 3,gN 4])) bx (dY done.length (xs.map ag)++ds) (PE c LL (gd rT done) y3 y4 y5 y6 y7)=forL (gK (gT [gN 3,gN 4])) bx ds (PE c LL (gd rT (done++xs)) z3 z4 z5 z6 z7)
 | [],done,y3,y4,y5,y6,y7,h,hl,n3,n4,n5,n6,n7=>⟨y3,y4,y5,y6,y7,⟨n3,n4,n5,n6,n7⟩,by rw [zP];rfl⟩
 | e::xs,done,y3,y4,y5,y6,y7,h,hl,n3,n4,n5,n6,n7=>by
  obtain⟨i,j,he,i0,ij,jc⟩:=h.ky e (by simp)
  have fr:∀ p∈done,p.1≠e.1:=fun p hp z=>by
   have nk:=h.nk
   unfold Gk at nk
   rw [Ae,EH] at nk
   exact nk.2.2 p.1 (AZ hp) e.1 (AZ (yM ..)) z
  have hl':done.length+(xs.length+1)<=60:=by simpa using hl
  have g1:gK (gT [gN 3,gN 4]) (.tuple [.int (done.length:Int),ag e]) (PE c LL (gd rT done) y3 y4 y5 y6 y7)=.ok (PE c LL (gd rT done) (.val (.int (done.length:Int))) (.val (ag e)) y5 y6 y7):=uq (vS rfl n3 rfl n4)
  have b1:=zjl (LL:=LL) (t:=done) (k:=(done.length:Int)) (y5:=y5) (y6:=y6) (y7:=y7) he i0 ij jc c6 (h.rw e (by simp)) fr (by omega) n5 n6 n7
  obtain⟨z3,z4,z5,z6,z7,nz,r⟩:=turns (LL:=LL) (ds:=ds) c6 xs (done++[e]) (.val (.int (done.length:Int))) (.val (ag e)) (.val (.int i)) (.val (.int j)) (.val (rL e.2)) (by simpa using h) (by simpa using hl) (cK _) (cK _) (cK _) (cK _) (cK _)
  refine⟨z3,z4,z5,z6,z7,nz,?_⟩
  rw [Ec,zH] at r
  exact(zlD (vm g1 b1)).trans r
theorem zhN{ds:List D}(h:di c t)(c6:c<=6)(hl:t.length<=60):∃ z3 z4 z5 z6 z7,(Np z3/\Np z4/\Np z5/\Np z6/\Np z7)/\jT [.int c,.list (t.map ag++ds)]=(aq (fun ρ=>forL (gK (gT [gN 3,gN 4])) bx (dY t.length ds) ρ) dG (PE c (.list (t.map ag++ds)) (gd rT t) z3 z4 z5 z6 z7)).bind fun x=>match x.1,true with
  | .rt d,false=>.ok d
  | .rf d,true=>.ok d
  | .nx,false=>.ok .none
  | _,_=>.bad:=by
 obtain⟨z3,z4,z5,z6,z7,nz,r⟩:=turns (LL:=.list (t.map ag++ds)) (ds:=dY t.length ds) c6 t [] .no .no .no .no .no h hl cT cT cT cT cT
 refine⟨z3,z4,z5,z6,z7,nz,?_⟩
 have s1:fo (dZ 2 gJ) [.val (.int c),.val (.list (t.map ag++ds)),.no,.no,.no,.no,.no,.no]=.ok (.nx,PE c (.list (t.map ag++ds)) (gd rT []) .no .no .no .no .no):=rfl
 have it:qE (lQ (aa (eV 1) ae)) (PE c (.list (t.map ag++ds)) (gd rT []) .no .no .no .no .no)=.ok (dY 0 (t.map ag)++dY t.length ds,PE c (.list (t.map ag++ds)) (gd rT []) .no .no .no .no .no):=by
  have:=zfd (t.map ag) ds 0
  rw [Ck,yn] at this
  rw [<- this];rfl
 have e:u6 [.val (.int c),.val (.list (t.map ag++ds)),.no,.no,.no,.no,.no,.no]=aq (fun ρ=>forL (gK (gT [gN 3,gN 4])) bx (dY t.length ds) ρ) dG (PE c (.list (t.map ag++ds)) (gd rT t) z3 z4 z5 z6 z7):=by
  show aq (fo (dZ 2 gJ)) (aq (dH (qE (lQ (aa (eV 1) ae))) (gK (gT [gN 3,gN 4])) bx) dG) _=_
  rw [aD s1]
  have f:dH (qE (lQ (aa (eV 1) ae))) (gK (gT [gN 3,gN 4])) bx (PE c (.list (t.map ag++ds)) (gd rT []) .no .no .no .no .no)=forL (gK (gT [gN 3,gN 4])) bx (dY t.length ds) (PE c (.list (t.map ag++ds)) (gd rT t) z3 z4 z5 z6 z7):=by
   unfold dH
   rw [it,av]
   exact r
  unfold aq
  rw [f]
 show(u6 [.val (.int c),.val (.list (t.map ag++ds)),.no,.no,.no,.no,.no,.no]).bind _=_
 rw [e]<;>rfl
theorem ztt{ds:List D}(h:di c t)(c6:c<=6)(hl:t.length<=60)(wr:jo c t v w):jT [.int c,.list (t.map ag++v::ds)]=.err w [.int (t.length:Int)]:=by
 obtain⟨z3,z4,z5,z6,z7,⟨n3,n4,n5,n6,n7⟩,e⟩:=zhN (ds:=v::ds) h c6 hl
 rw [e]
 have g1:gK (gT [gN 3,gN 4]) (.tuple [.int (t.length:Int),v]) (PE c (.list (t.map ag++v::ds)) (gd rT t) z3 z4 z5 z6 z7)=.ok (PE c (.list (t.map ag++v::ds)) (gd rT t) (.val (.int (t.length:Int))) (.val v) z5 z6 z7):=uq (vS rfl n3 rfl n4)
 have f:forL (gK (gT [gN 3,gN 4])) bx (dY t.length (v::ds)) (PE c (.list (t.map ag++v::ds)) (gd rT t) z3 z4 z5 z6 z7)=.err w [.int (t.length:Int)]:=by
  refine zlE ?_
  rw [g1,av]
  exact wr.no _ _ _ _ _ n5 n6 n7
 rw [uw f];rfl
theorem zts(h:di c t)(c6:c<=6)(hl:t.length<=60):jT [.int c,.list (t.map ag)]=.bad:=by
 obtain⟨z3,z4,z5,z6,z7,_,e⟩:=zhN (ds:=[]) h c6 hl
 rw [zP] at e
 rw [e];rfl
noncomputable def cnt:TF:=FL.bI (FL.bu (tE (aP iR (aa (eV 1) ae)))) (FL.bu (tB (fG i9 i9 (eC (.int 1)) (eV 1) (eC (.int 6)))))
theorem zaR(c:Int):cnt [.no,.val (.int c),.val L,.no]=.ok (!(decide (1<=c)&&decide (c<=6)),[.no,.val (.int c),.val L,.no]):=by
 have wh:iR [.int c]=.ok (.bool true):=rfl
 unfold cnt FL.bI FL.bu tE tB fG
 rw [qg (a:=aa (eV 1) ae) rfl wh]
 by_cases c1:1<=c
 ·simp only [av,dR,eC,eV,zz1,zz0,qJ,decide_eq_true c1,zL,yG,if_false,if_true,EI]
 ·simp only [av,dR,eC,eV,zz1,zz0,qJ,decide_eq_false c1,zL,yG,if_false,if_true,Cw]
theorem tableX(h:cnt [.no,.val a,.val L,.no]=.ok (b,[.no,.val a,.val L,.no])):oh [a,L]=if b=true then .err "NoCount" [] else match jT [a,L] with
  | .err c fs=>.err c fs
  | _=>.bad:=by
 show(match u5 [.no,.val a,.val L,.no] with | .err c fs=>_|_=>_)=_
 have e:u5 [.no,.val a,.val L,.no]=if b=true then .err "NoCount" [] else match jT [a,L] with
  | .err c fs=>.err c fs
  | _=>.bad:=by
  show aq (aQ (jM cnt) (kj "NoCount" false (aa (eC (.str "a table has one to six ways")) ae)) (fo aS)) (aq (uy (aP jT (lq (aa (eV 1) (aa (eV 2) ae))))) dG) _=_
  cases b with
  | true=>exact uw ((wX h).trans rfl)
  | false =>
   rw [aD (ρ1:=[.no,.val a,.val L,.no]) ((wW h).trans rfl)]
   unfold aq uy aP
   rw [show lq (aa (eV 1) (aa (eV 2) ae)) [.no,.val a,.val L,.no]=.ok ([a,L],[.no,.val a,.val L,.no]) from rfl,av]
   dsimp only
   cases jT [a,L] <;> rfl
 rw [e]
 cases b with
 | true=>rfl
 | false=>cases jT [a,L] <;> rfl
theorem zeA{c:String}{fs:List D}(h:oh [a,L]=.err c fs):iQ [a,L]=.ok (some (c,fs)):=by
 unfold iQ runC
 refine(if_pos rfl).trans ?_
 have g:qc [.val a,.val L,.no,.no]=.err c fs:=by
  show(match oh [a,L] with | .err c fs=>R.err c fs|_=>_)=_
  rw [h]
 show(match qc [.val a,.val L,.no,.no] with | .ok _=>_ | .err c fs=>_ | .bad=>_)=_
 rw [g]
theorem zjO{ds:List D}(h:di c t)(c1:1<=c)(c6:c<=6)(hl:t.length<=60)(wr:jo c t v w):iQ [.int c,.list (t.map ag++v::ds)]=.ok (some (w,[.int (t.length:Int)])):=by
 refine zeA ?_
 rw [tableX (zaR c),decide_eq_true c1,decide_eq_true c6,ztt h c6 hl wr]
 rfl
theorem zjN(h:di c t)(c1:1<=c)(c6:c<=6)(hl:t.length<=60):iQ [.int c,.list (t.map ag)]=.ok none:=by
 obtain⟨t',_,tb⟩:=zum h c1 c6 hl
 have x:oh [.int c,.list (t.map ag)]=.bad:=by
  rw [tableX (zaR c),decide_eq_true c1,decide_eq_true c6,zts h c6 hl]
  rfl
 unfold iQ runC
 refine(if_pos rfl).trans ?_
 have g:qc [.val (.int c),.val (.list (t.map ag)),.no,.no]=.ok (.none,[.val (.int c),.val (.list (t.map ag)),.no,.no]):=by
  show(match oh [.int c,.list (t.map ag)] with | .err c fs=>R.err c fs|_=>(match rq [.int c,.list (t.map ag)] with | .ok (.tuple _)=>_|_=>_))=_
  rw [x,tb]
 show(match qc [.val (.int c),.val (.list (t.map ag)),.no,.no] with | .ok _=>_ | .err c fs=>_ | .bad=>_)=_
 rw [g]
theorem zjM(h:(∃ c:Int,a=.int c/\(c<1\/6<c))\/(∃ b,a=.bool b)\/a=.none\/∃ s,a=.str s):iQ [a,L]=.ok (some ("NoCount",[])):=by
 refine zeA ?_
 rcases h with⟨c,rfl,h⟩|⟨b,rfl⟩|rfl|⟨s,rfl⟩
 ·rw [tableX (zaR c),if_pos]
  rcases h with h|h
  ·rw [decide_eq_false (show ¬ 1<=c by omega)];rfl
  ·rw [decide_eq_false (show ¬ c<=6 by omega),BP];rfl
 ·exact tableX (b:=true) rfl
 ·exact tableX (b:=true) rfl
 ·exact tableX (b:=true) rfl
end
section
noncomputable def tR(c:Int):List Int->Bool
 | [i,j]=>decide (0<=i)&&decide (i<j)&&decide (j<c)
 | _=>false
theorem zgO:∀{w:List Int},tR c w=true->∃ i j:Int,w=[i,j]/\0<=i/\i<j/\j<c
 | [i,j],h=>by
  simp only [tR,yw,decide_eq_true_eq] at h
  exact⟨i,j,rfl,h.1.1,h.1.2,h.2⟩
abbrev QE(d:D)(c:Int)(x y3:Sl):En:=[.ow true d,.val (.int c),x,y3]
theorem zi1(d:D)(c2:2<=c)(c6:c<=6):∃ ps y3,Np y3/\(ps.all (tR c))=true/\ps≠[]/\ps.length<=15/\zdr (QE d c (.val (.list [])) .no)=.ok (.nx,QE d c (.val (cu ps)) y3):=by
 have:c=2\/c=3\/c=4\/c=5\/c=6:=by omega
 rcases this with rfl|rfl|rfl|rfl|rfl
 ·exact⟨[[0,1]],.val (.int 1),cK _,by decide,by decide,by decide,by kernel_rfl⟩
 ·exact⟨[[0,1],[0,2],[1,2]],.val (.int 2),cK _,by decide,by decide,by decide,by kernel_rfl⟩
 ·exact⟨[[0,1],[0,2],[0,3],[1,2],[1,3],[2,3]],.val (.int 3),cK _,by decide,by decide,by decide,by kernel_rfl⟩
 ·exact⟨[[0,1],[0,2],[0,3],[0,4],[1,2],[1,3],[1,4],[2,3],[2,4],[3,4]],.val (.int 4),cK _,by decide,by decide,by decide,by kernel_rfl⟩
 ·exact⟨[[0,1],[0,2],[0,3],[0,4],[0,5],[1,2],[1,3],[1,4],[1,5],[2,3],[2,4],[2,5],[3,4],[3,5],[4,5]],.val (.int 5),cK _,by decide,by decide,by decide,by kernel_rfl⟩
theorem pick{c:Int}{x y3:Sl}:∀(us:List (List Int)) (acc:List D) (k:Nat) (d:D),bK k d->k+us.length<=50000->acc.length+us.length<=100 ->
  ∃ vs d',fF 1 [0] (gN 0) (tB (e2 lK (aA aX [.m 1,.v (eC (.int 3))]) (eC (.int 0)))) (eV 0) (us.map tp) (QE d c x y3) acc=.ok (acc++vs.map tp,QE d' c x y3)/\List.Sublist vs us/\bK (k+us.length) d'
 | [],acc,k,d,hp,_,_=>⟨[],d,by simp [fF],.refl _,hp⟩
 | u::us,acc,k,d,hp,hk,ha=>by
  rw [yg] at hk ha
  obtain⟨g,d1,tk,g0,g1,p1⟩:=et hp (by omega) 3 (by decide) (bF (by decide)) (by decide)
  have cm:aA aX [.m 1,.v (eC (.int 3))] [.val (tp u),.ow true d]=.ok (.int g,[.val (tp u),.ow true d1]):=dM (i:=1) (p:=true) (d:=d) rfl rfl tk
  have tb:tB (e2 lK (aA aX [.m 1,.v (eC (.int 3))]) (eC (.int 0))) [.val (tp u),.ow true d]=.ok (decide (0<g),[.val (tp u),.ow true d1]):=fX (bw cm rfl rfl)
  generalize decide (0<g)=b at tb
  have e1:gN 0 (tp u) (cq 1 [0] (QE d c x y3))=.ok [.val (tp u),.ow true d]:=rfl
  have bk:back (QE d c x y3) [0] (([.val (tp u),.ow true d1]:En).drop 1)=QE d1 c x y3:=by
   cases x <;> cases y3 <;> rfl
  rw [yi]
  unfold fF
  rw [e1,av,tb,av]
  cases b with
  | true =>
   obtain⟨vs,d',e,sb,p2⟩:=pick (c:=c) (x:=x) (y3:=y3) us (acc++[tp u]) (k+1) d1 p1 (by omega) (by simp;omega)
   refine⟨u::vs,d',?_,sb.cons₂ u,by rw [yg,show k+(us.length+1)=k+1+us.length by omega];exact p2⟩
   rw [if_pos rfl]
   show(bc (leB (acc.length+1) lim) (fF 1 [0] _ _ _ _ (back (QE d c x y3) [0] (([.val (tp u),.ow true d1]:En).drop 1)) _))=_
   rw [eD (i7 (yx (show _<=200 by omega) (by decide))),bk,e]
   simp
  | false =>
   obtain⟨vs,d',e,sb,p2⟩:=pick (c:=c) (x:=x) (y3:=y3) us acc (k+1) d1 p1 (by omega) (by omega)
   refine⟨vs,d',?_,sb.cons u,by rw [yg,show k+(us.length+1)=k+1+us.length by omega];exact p2⟩
   rw [if_neg (by simp),bk,e]
theorem zaS{α:Type}{f0:α->D}{k:Nat}{ix:List Nat}{g:GF}{t:TF}{f:EF}{ρ:En}(P:α->Bool)(h:α->D):∀(xs:List α) (acc:List D),acc.length+xs.length<=lim ->
  (∀ x∈xs,∃ β,g (f0 x) (cq k ix ρ)=.ok β/\t β=.ok (P x,β)/\f β=.ok (h x,β)/\back ρ ix (β.drop k)=ρ)->fF k ix g t f (xs.map f0) ρ acc=.ok (acc++(xs.filter P).map h,ρ)
 | [],acc,_,_=>by simp [fF]
 | x::xs,acc,hl,hx=>by
  obtain⟨β,h1,h2,h3,h4⟩:=hx x (yM ..)
  have rest:=fun y m=>hx y (yK x m)
  rw [yg] at hl
  rw [yi]
  unfold fF
  rw [h1,av,h2,av]
  cases e:P x with
  | true =>
   rw [if_pos rfl]
   show((f β).bind _)=_
   rw [h3,av]
   dsimp only
   rw [eD (i7 (show acc.length+1<=lim by omega)),h4,zaS P h xs (acc++[h x]) (by simp;omega) rest,FU e]
   simp
  | false =>
   rw [if_neg (by simp)]
   dsimp only
   rw [h4,zaS P h xs acc (by omega) rest,FT (by simp [e])]
noncomputable def js(l:List (List Int)):List (List Int):=((l.zipIdx 0).filter fun q=>!(l.take q.2).any fun y=>decide (y=q.1)).map (·.1)
theorem zkz(l:List (List Int)):∀ w∈js l,w∈l:=fun w m=>by
 obtain⟨q,mq,rfl⟩:=zM.mp m
 exact zg (FW.mp (BU.mp mq).1)
theorem zkw(l:List (List Int)):(js l).length<=l.length:=by
 unfold js
 rw [yn]
 exact yx (List.length_filter_le ..) (by rw [List.length_zipIdx];exact x9 _)
theorem zky{l:List (List Int)}(h:l≠[]):js l≠[]:=by
 cases l with
 | nil=>exact absurd rfl h
 | cons x l =>
  intro z
  have:x∈js (x::l):=zM.mpr ⟨(x,0),BU.mpr ⟨by simp [EG],by simp⟩,rfl⟩
  rw [z] at this
  cases this
theorem zit:∀(l:List (List Int)) (n:Nat),(l.zipIdx n).Pairwise fun a b=>a.2<b.2
 | [],_=>.nil
 | x::l,n=>by
  rw [EG]
  refine .cons (fun q m=>?_) (zit l (n+1))
  have:=List.le_snd_of_mem_zipIdx m
  show n<q.2
  omega
theorem zkx(l:List (List Int)):(js l).Nodup:=by
 unfold js
 refine DJ.mpr (((zit l 0).filter _).imp_of_mem fun{a b} ma mb lt z=>?_)
 have h:=(BU.mp mb).2
 have ga:=FW.mp (BU.mp ma).1
 simp only [Dl,List.any_eq_false,decide_eq_true_eq] at h
 refine h a.1 (zg (i:=a.2) ?_) z
 rw [D1 lt]
 exact ga
theorem zqE(hp:bK k d)(hk:k<=40000)(c2:2<=c)(c6:c<=6):∃ ps d',rA [d,.int c]=.ok (cu ps,[d',.int c])/\ps.Nodup/\(∀ w∈ps,tR c w=true)/\ps≠[]/\ps.length<=16/\bK (k+15) d':=by
 obtain⟨ps,y3,n3,ok,ne,hl,e0⟩:=zi1 d c2 c6
 obtain⟨vs,d1,e1,sb,p1⟩:=pick (c:=c) (x:=.val (cu ps)) (y3:=y3) ps [] k d hp (by omega) (by simp;omega)
 rw [yR] at e1
 have vl:=sb.length_le
 have q1:uj (QE d c (.val (cu ps)) y3)=.ok (cu vs,QE d1 c (.val (cu ps)) y3):=by
  unfold uj fN
  rw [show iE (eV 2) (QE d c (.val (cu ps)) y3)=.ok (ps.map tp,QE d c (.val (cu ps)) y3) from rfl,av,e1]
  rfl
 have q2:cS (eV 2) cZ (c7 (eC (.int 1))) (QE d1 c (.val (cu ps)) y3)=.ok (cu (ps.take 1),QE d1 c (.val (cu ps)) y3):=by
  show R.ok (zG (cut (ps.map tp) none (some ((1:Nat):Int))),_)=_
  rw [zaT,<- Cq]
 have ad:ay (cu vs) (cu (ps.take 1))=.ok (cu (vs++ps.take 1)):=by
  show bc (leB ((vs.map tp).length+((ps.take 1).map tp).length) lim) (R.ok (zG (vs.map tp++(ps.take 1).map tp)))=_
  rw [eD (by rw [yn,yn,zQ];exact i7 (yx (show _<=200 by omega) (by decide))),<- Ae]
 generalize hL:vs++ps.take 1=l at ad
 have ll:l.length<=16:=by rw [<- hL,zH,zQ];omega
 have lok:∀ w∈l,tR c w=true:=fun w m=>by
  rw [<- hL] at m
  rcases Au.mp m with m|m
  ·exact An.mp ok w (sb.subset m)
  ·exact An.mp ok w (EK m)
 have lne:l≠[]:=by
  rw [<- hL]
  cases ps with
  | nil=>exact absurd rfl ne
  | cons x r=>simp
 have q3:xg (QE d1 c (.val (cu l)) y3)=.ok (cu (js l),QE d1 c (.val (cu l)) y3):=by
  have it:lQ (aa (eV 2) ae) (QE d1 c (.val (cu l)) y3)=.ok ((l.zipIdx 0).map fun q=>.tuple [.int q.2,tp q.1],QE d1 c (.val (cu l)) y3):=by
   rw [<- zbu];rfl
  unfold xg fN
  rw [it,av,zaS (f0:=fun q:List Int×Nat=>.tuple [.int q.2,tp q.1]) (k:=2) (ix:=[2]) (g:=gT [gN 0,gN 1]) (t:=tB (e2 zcF (eV 1) (cS (eV 2) cZ (c7 (eV 0))))) (f:=eV 1) (ρ:=QE d1 c (.val (cu l)) y3) (fun q=>!(l.take q.2).any fun y=>decide (y=q.1)) (fun q=>tp q.1) (l.zipIdx 0) [] (by rw [List.length_zipIdx];exact yx (show _<=200 by simp;omega) (by decide)) fun q mq=>⟨[.val (.int q.2),.val (tp q.1),.val (cu l)],rfl,?_,rfl,qf trivial⟩]
  ·rw [av,yR]
   unfold js cu
   rw [zV];rfl
  ·have sl:cS (eV 2) cZ (c7 (eV 0)) [.val (.int q.2),.val (tp q.1),.val (cu l)]=.ok (cu (l.take q.2),[.val (.int q.2),.val (tp q.1),.val (cu l)]):=by
    show R.ok (zG (cut (l.map tp) none (some ((q.2:Nat):Int))),_)=_
    rw [zaT,<- Cq]
   refine fX (bw rfl sl ?_)
   show bc (zK (cu (l.take q.2))&&zK (tp q.1)) _=_
   rw [(zrh _).shaped (by decide),(tZ _).shaped (by decide),Bool.and_true,eD rfl,List.any_map]
   congr 4
   funext y
   exact zfg y q.1
 refine⟨js l,d1,?_,zkx l,fun w m=>lok w (zkz l w m),zky lne,yx (zkw l) ll,p1.mono (by omega)⟩
 have e:rR (QE d c .no .no)=.ok (.rt (cu (js l)),QE d1 c (.val (cu l)) y3):=by
  have s1:aH (gN 2) (aV ae) (QE d c .no .no)=.ok (.nx,QE d c (.val (.list [])) .no):=rfl
  have s3:aH (gN 2) (e2 ay uj (cS (eV 2) cZ (c7 (eC (.int 1))))) (QE d c (.val (cu ps)) y3)=.ok (.nx,QE d1 c (.val (cu l)) y3):=iK (y:=(cu l,QE d1 c (.val (cu ps)) y3)) (bw q1 q2 ad) rfl (cK _)
  unfold rR
  rw [aD s1,aD e0,aD s3]
  unfold aG
  rw [q3];rfl
 show((rR (QE d c .no .no)).bind _)=_
 rw [e];rfl
end
variable {a:Nat}{p:D}
section
theorem zds{x:Int}:jQ [.int x,.int c]=.ok (.bool (decide (0<=x)&&decide (x<c))):=by
 refine ki (ρ:=[.val (.int x),.val (.int c)]) rfl ?_
 show rS [.val (.int x),.val (.int c)]=_
 have wh:iR [.int x]=.ok (.bool true):=rfl
 unfold rS
 by_cases h:0<=x
 ·simp only [aG,dF,aP,aa,ae,fG,eV,eC,zz1,zz0,av,wh,dR,if_true,qJ,oS,decide_eq_true h,EI]
 ·simp only [aG,dF,aP,aa,ae,fG,eV,eC,zz1,zz0,av,wh,dR,if_true,qJ,oS,decide_eq_false h,Cw]
theorem zcC{b1 b2 b3:Bool}(h1:jQ [p,.int c]=.ok (.bool b1))(h2:b1=true->jQ [q,.int c]=.ok (.bool b2))(h3:b1=true->b2=true->fc p q=.ok (.bool b3)):f9 [.tuple [p,q,r],.int c]=.ok (.bool (b1&&b2&&b3)):=by
 refine ki (ρ:=[.val (.tuple [p,q,r]),.val (.int c),.val p,.val q,.val r]) rfl ?_
 show rV [.val (.tuple [p,q,r]),.val (.int c),.no,.no,.no]=_
 have n0:aQ (FL.bI (FL.bu (tE (e1 (fT "tuple") (eV 0)))) (tB (e2 dn (e1 bR (eV 0)) (eC (.int 3))))) (aG (eC (.bool false))) aS [.val (.tuple [p,q,r]),.val (.int c),.no,.no,.no]=.ok (.nx,[.val (.tuple [p,q,r]),.val (.int c),.no,.no,.no]):=(gw (zcS (zpT (xD rfl)) (fX (bw (a:=.int 3) rfl rfl rfl)))).trans rfl
 have s1:aH (gT [gN 2,gN 3,gN 4]) (eV 0) [.val (.tuple [p,q,r]),.val (.int c),.no,.no,.no]=.ok (.nx,[.val (.tuple [p,q,r]),.val (.int c),.val p,.val q,.val r]):=rfl
 unfold rV
 rw [aD n0,aD s1]
 unfold aG dF
 rw [qg (a:=aa (eV 2) (aa (eV 1) ae)) rfl h1,av]
 cases b1 with
 | false=>rfl
 | true =>
  dsimp only
  rw [qg (a:=aa (eV 3) (aa (eV 1) ae)) rfl (h2 rfl),av]
  cases b2 with
  | false=>rfl
  | true =>
   dsimp only
   rw [bw (a:=p) (b:=q) rfl rfl (h3 rfl rfl)]
   cases b3 <;> rfl
theorem no1(h:jQ [p,.int c]=.ok (.bool false)):f9 [.tuple [p,q,r],.int c]=.ok (.bool false):=zcC (b2:=false) (b3:=false) h (fun z=>nomatch z) (fun z=>nomatch z)
theorem no2(i0:0<=i)(ic:i<c)(h:jQ [q,.int c]=.ok (.bool false)):f9 [.tuple [.int i,q,r],.int c]=.ok (.bool false):=by
 have w:=zds (x:=i) (c:=c)
 rw [decide_eq_true i0,decide_eq_true ic] at w
 exact zcC (b2:=false) (b3:=false) w (fun _=>h) (fun _ z=>nomatch z)
theorem oY:f9 [.tuple [.int i,.int j,r],.int c]=.ok (.bool (decide (0<=i)&&decide (i<c)&&(decide (0<=j)&&decide (j<c))&&decide (i<j))):=zcC zds (fun _=>zds) (fun _ _=>oS i j)
abbrev BE(d L:D)(a c:Int)(y4 y5 y6 y7 y8:Sl):En:=[.ow true d,.val L,.val (.int a),.val (.int c),y4,y5,y6,y7,y8]
def Odd(c:Int)(t:Tb)(a:Nat)(p q:D):Prop:=(∀ r,f9 [.tuple [p,q,r],.int c]=.ok (.bool false))\/∃ b e i j,b<a/\t[b]?=some e/\e.1=[i,j]/\p=.int i/\q=.int j
theorem wB(h:t[a]?=some e):aB (.list (t.map ag)) (.int a)=.ok (ag e):=ixL (by omega) (by rw [DA,yO,h];rfl)
theorem tm(h:e.1=[i,j]):ag e=.tuple [.int i,.int j,rL e.2]:=by unfold ag;rw [h];rfl
theorem zjb(hp:bK k d)(hk:k<=40000)(h:di c t)(c0:0<=c)(c6:c<=6)(ha:t[a]?=some e)(a6:a<=60) :
  ∃ p q d',kY [d,.list (t.map ag),.int a,.int c]=.ok (.tuple [p,q],[d',.list (t.map ag),.int a,.int c])/\bK (k+2) d'/\(Pl 0 p/\Pl 0 q)/\Odd c t a p q:=by
 obtain⟨i,j,he,i0,ij,jc⟩:=h.ky e (zg ha)
 have ea:=wB ha
 rw [tm he] at ea
 generalize rL e.2=R at ea
 have lat:∀{b:Nat} {e':List Int×List Rat},t[b]?=some e'->aB (.list (t.map ag)) (.int b)=.ok (ag e'):=fun h=>wB h
 generalize hL:zG (t.map ag)=L at ea lat
 obtain⟨w,d1,t1,w0,w6,p1⟩:=et hp (by omega) 6 (by decide) (bF (by decide)) (by decide)
 have s0:aH (gT [gN 4,gN 5,gN 6]) (e2 aB (eV 1) (eV 2)) (BE d L (a:Int) c .no .no .no .no .no)=.ok (.nx,BE d L (a:Int) c (.val (.int i)) (.val (.int j)) (.val R) .no .no):=by
  unfold aH
  rw [bw (a:=L) (b:=.int a) rfl rfl ea];rfl
 have s1:aH (gN 7) (aA aX [.m 0,.v (eC (.int 6))]) (BE d L (a:Int) c (.val (.int i)) (.val (.int j)) (.val R) .no .no)=.ok (.nx,BE d1 L (a:Int) c (.val (.int i)) (.val (.int j)) (.val R) (.val (.int w)) .no):=iK (y:=(.int w,BE d1 L (a:Int) c (.val (.int i)) (.val (.int j)) (.val R) .no .no)) (dM (p:=true) (d:=d) rfl rfl t1) rfl cT
 have fin:∀{x d':D} {y8:Sl},va (BE d L (a:Int) c .no .no .no .no .no)=.ok (.rt x,BE d' L (a:Int) c (.val (.int i)) (.val (.int j)) (.val R) (.val (.int w)) y8)->kY [d,L,.int a,.int c]=.ok (x,[d',L,.int a,.int c]):=fun{x d' y8} e=>by
  show((va (BE d L (a:Int) c .no .no .no .no .no)).bind _)=_
  rw [e];rfl
 have tt:∀ m:Int,tB (e2 bD (eV 7) (eC (.int m))) (BE d1 L (a:Int) c (.val (.int i)) (.val (.int j)) (.val R) (.val (.int w)) .no)=.ok (decide (w=m),BE d1 L (a:Int) c (.val (.int i)) (.val (.int j)) (.val R) (.val (.int w)) .no):=fun m=>fX (bw rfl rfl (oB w m))
 have tn:∀{m:Int} {A:SF},¬ w=m->aQ (tB (e2 bD (eV 7) (eC (.int m)))) A aS (BE d1 L (a:Int) c (.val (.int i)) (.val (.int j)) (.val R) (.val (.int w)) .no)=.ok (.nx,BE d1 L (a:Int) c (.val (.int i)) (.val (.int j)) (.val R) (.val (.int w)) .no):=fun{m A} z=>by
  have:=tt m
  rw [decide_eq_false z] at this
  exact(gw this).trans rfl
 have ty:∀{m:Int} {A:SF},w=m->aQ (tB (e2 bD (eV 7) (eC (.int m)))) A aS (BE d1 L (a:Int) c (.val (.int i)) (.val (.int j)) (.val R) (.val (.int w)) .no)=A (BE d1 L (a:Int) c (.val (.int i)) (.val (.int j)) (.val R) (.val (.int w)) .no):=fun{m A} z=>by
  have:=tt m
  rw [decide_eq_true z] at this
  exact gW this
 have pn:Pl 0 Bj:=⟨rfl,x9 _⟩
 have ps:Pl 0 (PyData.str "0"):=⟨by kernel_rfl,x9 _⟩
 by_cases c0:w=0
 ·exact⟨.int j,.int i,d1,fin ((aD s0).trans ((aD s1).trans (ji ((ty c0).trans rfl)))),p1.mono (by omega),⟨eL _,eL _⟩,.inl fun r=>by rw [oY,decide_eq_false (show ¬ j<i by omega),BP]⟩
 by_cases c1:w=1
 ·obtain⟨g,d2,t2,g0,g3,p2⟩:=et p1 (by omega) 3 (by decide) (bF (by decide)) (by decide)
  have ix:∃ x:Int,aB (.list [.int c,.int (c+1000000000),.int 10000000000000000000]) (.int g)=.ok (.int x)/\c<=x:=by
   rcases show g=0\/g=1\/g=2 by omega with rfl|rfl|rfl
   ·exact⟨_,rfl,by omega⟩
   ·exact⟨_,rfl,by omega⟩
   ·exact⟨_,rfl,by omega⟩
  obtain⟨x,ex,xc⟩:=ix
  have cm:aA aX [.m 0,.v (eC (.int 3))] (BE d1 L (a:Int) c (.val (.int i)) (.val (.int j)) (.val R) (.val (.int w)) .no)=.ok (.int g,BE d2 L (a:Int) c (.val (.int i)) (.val (.int j)) (.val R) (.val (.int w)) .no):=dM (p:=true) (d:=d1) rfl rfl t2
  have ev:e2 aB (aV (aa (eV 3) (aa (e2 ay (eV 3) (e2 c9 (eC (.int 10)) (eC (.int 9)))) (aa (e2 c9 (eC (.int 10)) (eC (.int 19))) ae)))) (aA aX [.m 0,.v (eC (.int 3))]) (BE d1 L (a:Int) c (.val (.int i)) (.val (.int j)) (.val R) (.val (.int w)) .no)=.ok (.int x,BE d2 L (a:Int) c (.val (.int i)) (.val (.int j)) (.val R) (.val (.int w)) .no):=bw (a:=.list [.int c,.int (c+1000000000),.int 10000000000000000000]) rfl cm ex
  refine⟨.int i,.int x,d2,fin (y8:=.no) ((aD s0).trans ((aD s1).trans ((aD (tn c0)).trans (ji ((ty c1).trans ?_))))),p2.mono (by omega),⟨eL _,eL _⟩,.inl fun r=>by rw [oY,decide_eq_false (show ¬ x<c by omega),BP,BP];rfl⟩
  have l2:leB 2 lim=true:=by decide
  simp only [BE] at ev ⊢
  simp only [aG,aE,aa,ae,eV,zz1,zz0,ev,av,bc,l2,if_true,yg,yB,yP]
 by_cases c2:w=2
 ·obtain⟨g,d2,t2,g0,g3,p2⟩:=et p1 (by omega) 1000 (by decide) (bF (by decide)) (by decide)
  have cm:aA aX [.m 0,.v (e2 c9 (eC (.int 10)) (eC (.int 3)))] (BE d1 L (a:Int) c (.val (.int i)) (.val (.int j)) (.val R) (.val (.int w)) .no)=.ok (.int g,BE d2 L (a:Int) c (.val (.int i)) (.val (.int j)) (.val R) (.val (.int w)) .no):=dM (p:=true) (d:=d1) rfl rfl t2
  have ev:e2 cv (e1 mw (eC (.int 1))) (aA aX [.m 0,.v (e2 c9 (eC (.int 10)) (eC (.int 3)))]) (BE d1 L (a:Int) c (.val (.int i)) (.val (.int j)) (.val R) (.val (.int w)) .no)=.ok (.int (-1-g),BE d2 L (a:Int) c (.val (.int i)) (.val (.int j)) (.val R) (.val (.int w)) .no):=bw (a:=.int (-1)) rfl cm rfl
  refine⟨.int (-1-g),.int j,d2,fin (y8:=.no) ((aD s0).trans ((aD s1).trans ((aD (tn c0)).trans ((aD (tn c1)).trans (ji ((ty c2).trans ?_)))))),p2.mono (by omega),⟨eL _,eL _⟩,.inl fun r=>by rw [oY,decide_eq_false (show ¬ 0<=-1-g by omega)];rfl⟩
  have l2:leB 2 lim=true:=by decide
  simp only [BE] at ev ⊢
  simp only [aG,aE,aa,ae,eV,zz1,zz0,ev,av,bc,l2,if_true,yg,yB,yP]
 by_cases c3:w=3
 ·obtain⟨g,d2,t2,g0,g3,p2⟩:=et p1 (by omega) 5 (by decide) (bF (by decide)) (by decide)
  have cm:aA aX [.m 0,.v (eC (.int 5))] (BE d1 L (a:Int) c (.val (.int i)) (.val (.int j)) (.val R) (.val (.int w)) .no)=.ok (.int g,BE d2 L (a:Int) c (.val (.int i)) (.val (.int j)) (.val R) (.val (.int w)) .no):=dM (p:=true) (d:=d1) rfl rfl t2
  have ix:∃ p q,aB (.list [.tuple [.int i,.none],.tuple [.str "0",.int j],.tuple [.int i,.bool true],.tuple [.bool false,.int j],.tuple [.int i,.int i]]) (.int g)=.ok (.tuple [p,q])/\(Pl 0 p/\Pl 0 q)/\∀ r,f9 [.tuple [p,q,r],.int c]=.ok (.bool false):=by
   rcases show g=0\/g=1\/g=2\/g=3\/g=4 by omega with rfl|rfl|rfl|rfl|rfl
   ·exact⟨_,_,rfl,⟨eL _,pn⟩,fun r=>no2 i0 (by omega) rfl⟩
   ·exact⟨_,_,rfl,⟨ps,eL _⟩,fun r=>no1 rfl⟩
   ·exact⟨_,_,rfl,⟨eL _,zg7 _⟩,fun r=>no2 i0 (by omega) rfl⟩
   ·exact⟨_,_,rfl,⟨zg7 _,eL _⟩,fun r=>no1 rfl⟩
   ·exact⟨_,_,rfl,⟨eL _,eL _⟩,fun r=>by rw [oY,decide_eq_false (show ¬ i<i by omega),BP]⟩
  obtain⟨p,q,ex,pq,nn⟩:=ix
  refine⟨p,q,d2,fin (y8:=.no) ((aD s0).trans ((aD s1).trans ((aD (tn c0)).trans ((aD (tn c1)).trans ((aD (tn c2)).trans (ji ((ty c3).trans ?_))))))),p2.mono (by omega),pq,.inl nn⟩
  unfold aG
  rw [bw (a:=.list [.tuple [.int i,.none],.tuple [.str "0",.int j],.tuple [.int i,.bool true],.tuple [.bool false,.int j],.tuple [.int i,.int i]]) rfl cm ex]
  rfl
 have hd4:∀{x d':D} {y8:Sl},aq (aQ (FL.fL (tB (e2 bD (eV 7) (eC (.int 4)))) (tB (e2 lK (eV 2) (eC (.int 0))))) (aq (aH (gN 8) (e2 aB (eV 1) (aA aX [.m 0,.v (eV 2)]))) (aG (aE (aa (e2 aB (eV 8) (eC (.int 0))) (aa (e2 aB (eV 8) (eC (.int 1))) ae))))) aS) (aG (aE (aa (eV 5) (aa (eV 5) ae)))) (BE d1 L (a:Int) c (.val (.int i)) (.val (.int j)) (.val R) (.val (.int w)) .no)=.ok (.rt x,BE d' L (a:Int) c (.val (.int i)) (.val (.int j)) (.val R) (.val (.int w)) y8)->kY [d,L,.int a,.int c]=.ok (x,[d',L,.int a,.int c]):=fun{x d' y8} z =>
  fin (y8:=y8) ((aD s0).trans ((aD s1).trans ((aD (tn c0)).trans ((aD (tn c1)).trans ((aD (tn c2)).trans ((aD (tn c3)).trans z))))))
 have ga:tB (e2 lK (eV 2) (eC (.int 0))) (BE d1 L (a:Int) c (.val (.int i)) (.val (.int j)) (.val R) (.val (.int w)) .no)=.ok (decide (0<(a:Int)),BE d1 L (a:Int) c (.val (.int i)) (.val (.int j)) (.val R) (.val (.int w)) .no):=fX (bw rfl rfl rfl)
 have an:FL.fL (tB (e2 bD (eV 7) (eC (.int 4)))) (tB (e2 lK (eV 2) (eC (.int 0)))) (BE d1 L (a:Int) c (.val (.int i)) (.val (.int j)) (.val R) (.val (.int w)) .no)=.ok (decide (w=4)&&decide (0<(a:Int)),BE d1 L (a:Int) c (.val (.int i)) (.val (.int j)) (.val R) (.val (.int w)) .no):=by
  unfold FL.fL
  rw [tt 4,av]
  cases decide (w=4) with
  | false=>rfl
  | true=>exact ga
 by_cases c4:(decide (w=4)&&decide (0<(a:Int)))=true
 ·rw [c4] at an
  rw [yw,decide_eq_true_eq,decide_eq_true_eq] at c4
  obtain⟨b,d2,t2,b0,ba,p2⟩:=et p1 (by omega) (a:Int) (by omega) (bF (by omega)) (by decide)
  have hb:b.toNat<t.length:=by
   have:=(yu.mp ha).1
   omega
  have gb:t[b.toNat]?=some t[b.toNat]:=yC hb
  generalize t[b.toNat]=e' at gb
  obtain⟨i',j',lM,_⟩:=h.ky e' (zg gb)
  have eb:=lat gb
  rw [tm lM,Er b0] at eb
  have cm:aA aX [.m 0,.v (eV 2)] (BE d1 L (a:Int) c (.val (.int i)) (.val (.int j)) (.val R) (.val (.int w)) .no)=.ok (.int b,BE d2 L (a:Int) c (.val (.int i)) (.val (.int j)) (.val R) (.val (.int w)) .no):=dM (p:=true) (d:=d1) rfl rfl t2
  refine⟨.int i',.int j',d2,hd4 (y8:=.val (.tuple [.int i',.int j',rL e'.2])) (ji ((gW an).trans ((aD (ρ1:=BE d2 L (a:Int) c (.val (.int i)) (.val (.int j)) (.val R) (.val (.int w)) (.val (.tuple [.int i',.int j',rL e'.2]))) (iK (y:=(_,BE d2 L (a:Int) c (.val (.int i)) (.val (.int j)) (.val R) (.val (.int w)) .no)) (bw (a:=L) rfl cm eb) rfl cT)).trans rfl))),p2,⟨eL _,eL _⟩,.inr ⟨b.toNat,e',i',j',by omega,gb,lM,rfl,rfl⟩⟩
 ·rw [Bool.not_eq_true] at c4
  rw [c4] at an
  exact⟨.int j,.int j,d1,hd4 (y8:=.no) ((aD ((gw an).trans rfl)).trans rfl),p1.mono (by omega),⟨eL _,eL _⟩,.inl fun r=>by rw [oY,decide_eq_false (show ¬ j<j by omega),BP]⟩
end
variable {k0:Nat}
section
theorem di.keys(h:di c t)(hk:t'.map (·.1)=t.map (·.1))(hr:∀ e∈t',(e.2.length:Int)=c+1):di c t':=⟨by unfold Gk;rw [hk];exact h.nk,fun e m=>by
 have:e.1∈t.map (·.1):=by rw [<- hk];exact AZ m
 obtain⟨e2,m2,q⟩:=zM.mp this
 obtain⟨i,j,r⟩:=h.ky e2 m2
 exact⟨i,j,by rw [<- q];exact r.1,r.2⟩,hr⟩
abbrev ZE(d L P:D)(a:Int)(y4:Sl):En:=[.ow true d,.ow true L,.val P,.val (.int a),y4]
theorem zpo{P:D}{a k:Int}(h:aB L (.int k)=.ok x):m2 aB 1 (eV 4) (ZE d L P a (.val (.int k)))=.ok (x,ZE d L P a (.val (.int k))):=zgp (x:=L) rfl rfl h
theorem zje{a:Int}(hp:bK k0 d)(hk:k0<=50000)(h:di c t)(c6:c<=6)(hl:t.length<=60)(ht:t[k]?=some e)(pp:Pl 0 p)(pq:Pl 0 q) :
  ∃ d' t',rk (ZE d (.list (t.map ag)) (.tuple [p,q]) a (.val (.int k)))=.ok (.nx,ZE d' (.list (t'.map ag)) (.tuple [p,q]) a (.val (.int k)))/\bK (k0+1) d'/\di c t'/\t'.map (·.1)=t.map (·.1):=by
 have em:=zg ht
 have kl:=(yu.mp ht).1
 obtain⟨i,j,he,i0,ij,jc⟩:=h.ky e em
 have rl:=h.rw e em
 have ex:=wB ht
 rw [tm he] at ex
 have mi:∀ d,m2 aB 1 (eV 4) (ZE d (.list (t.map ag)) (.tuple [p,q]) a (.val (.int k)))=.ok (.tuple [.int i,.int j,rL e.2],ZE d (.list (t.map ag)) (.tuple [p,q]) a (.val (.int k))):=fun d=>zpo ex
 have pr:Pl 1 (.tuple [p,q]):=zg8 fun x m=>by
  simp only [yr,BI,or_false] at m
  rcases m with rfl|rfl
  ·exact pp
  ·exact pq
 have eq:=zbx (tZ [i,j]) pr
 generalize Am (tp [i,j]) (.tuple [p,q])=b at eq
 have sl:cS (m2 aB 1 (eV 4)) cZ (c7 (eC (.int 2))) (ZE d (.list (t.map ag)) (.tuple [p,q]) a (.val (.int k)))=.ok (tp [i,j],ZE d (.list (t.map ag)) (.tuple [p,q]) a (.val (.int k))):=by
  unfold cS
  rw [mi d,av];rfl
 have t1:tB (e2 bD (cS (m2 aB 1 (eV 4)) cZ (c7 (eC (.int 2)))) (eV 2)) (ZE d (.list (t.map ag)) (.tuple [p,q]) a (.val (.int k)))=.ok (b,ZE d (.list (t.map ag)) (.tuple [p,q]) a (.val (.int k))):=fX (bw sl rfl eq)
 cases b with
 | false =>
  refine⟨d,t,?_,hp.mono (by omega),h,rfl⟩
  unfold rk
  refine(gw (ρ1:=ZE d (.list (t.map ag)) (.tuple [p,q]) a (.val (.int k))) ?_).trans rfl
  unfold FL.fL
  rw [t1];rfl
 | true =>
  obtain⟨g,d1,tk,g0,g2,p1⟩:=et hp (by omega) 2 (by decide) (bF (by decide)) (by decide)
  have t2:tB (e2 bD (aA aX [.m 0,.v (eC (.int 2))]) (eC (.int 0))) (ZE d (.list (t.map ag)) (.tuple [p,q]) a (.val (.int k)))=.ok (decide (g=0),ZE d1 (.list (t.map ag)) (.tuple [p,q]) a (.val (.int k))):=fX (bw (dM (p:=true) (d:=d) rfl rfl tk) rfl (oB g 0))
  have an:FL.fL (tB (e2 bD (cS (m2 aB 1 (eV 4)) cZ (c7 (eC (.int 2)))) (eV 2))) (tB (e2 bD (aA aX [.m 0,.v (eC (.int 2))]) (eC (.int 0)))) (ZE d (.list (t.map ag)) (.tuple [p,q]) a (.val (.int k)))=.ok (decide (g=0),ZE d1 (.list (t.map ag)) (.tuple [p,q]) a (.val (.int k))):=by
   unfold FL.fL
   rw [t1,av,if_pos rfl]
   exact t2
  unfold rk
  cases hz:decide (g=0) with
  | false =>
   rw [hz] at an
   exact⟨d1,t,(gw an).trans rfl,p1,h,rfl⟩
  | true =>
   rw [hz] at an
   have q0:ui (ZE d1 (.list (t.map ag)) (.tuple [p,q]) a (.val (.int k)))=.ok (rL (e.2.map fun _=>0),ZE d1 (.list (t.map ag)) (.tuple [p,q]) a (.val (.int k))):=by
    unfold ui
    have it:iE (e2 aB (m2 aB 1 (eV 4)) (eC (.int 2))) (ZE d1 (.list (t.map ag)) (.tuple [p,q]) a (.val (.int k)))=.ok (e.2.map num,ZE d1 (.list (t.map ag)) (.tuple [p,q]) a (.val (.int k))):=by
     unfold iE
     rw [bw (d:=rL e.2) (mi d1) rfl rfl];rfl
    refine(vE (k:=1) (ix:=[]) (g:=gN 0) (f:=aE (aa (eC (.int 0)) (aa (eC (.int 1)) ae))) (f0:=num) (xs:=e.2) (fun _=>DI [.int 0,.int 1]) it (by show _<=1000000;omega) fun x mx=>⟨[.val (num x)],rfl,rfl,qf trivial⟩).trans ?_
    unfold rL
    rw [zV];rfl
   have tu:aE (aa (e2 aB (m2 aB 1 (eV 4)) (eC (.int 0))) (aa (e2 aB (m2 aB 1 (eV 4)) (eC (.int 1))) (aa ui ae))) (ZE d1 (.list (t.map ag)) (.tuple [p,q]) a (.val (.int k)))=.ok (ag (e.1,e.2.map fun _=>0),ZE d1 (.list (t.map ag)) (.tuple [p,q]) a (.val (.int k))):=by
    have l3:leB 3 lim=true:=by decide
    have a1:e2 aB (m2 aB 1 (eV 4)) (eC (.int 0)) (ZE d1 (.list (t.map ag)) (.tuple [p,q]) a (.val (.int k)))=.ok (.int i,ZE d1 (.list (t.map ag)) (.tuple [p,q]) a (.val (.int k))):=bw (mi d1) rfl rfl
    have a2:e2 aB (m2 aB 1 (eV 4)) (eC (.int 1)) (ZE d1 (.list (t.map ag)) (.tuple [p,q]) a (.val (.int k)))=.ok (.int j,ZE d1 (.list (t.map ag)) (.tuple [p,q]) a (.val (.int k))):=bw (mi d1) rfl rfl
    rw [tm (e:=(e.1,e.2.map fun _=>0)) he]
    simp only [aE,aa,ae,a1,a2,q0,av,bc,l3,if_true,yg,yB,yP]
   refine⟨d1,t.set k (e.1,e.2.map fun _=>0),(gW an).trans ?_,p1,?_,?_⟩
   ·unfold setM
    rw [tu,av]
    show((R.of (e7 (t.map ag).length (k:Int))).bind fun n=>R.ok (Fl.nx,de (ZE d1 (.list (t.map ag)) (.tuple [p,q]) a (.val (.int k))) 1 (.list ((t.map ag).set n (ag (e.1,e.2.map fun _=>0))))))=_
    have ixn:e7 (t.map ag).length (k:Int)=some k:=by
     unfold e7
     rw [yn]
     simp [kl]
    rw [ixn,EL];rfl
   ·refine h.keys ?_ fun x m=>?_
    ·rw [EL]
     refine DF fun n=>?_
     by_cases z:k=n
     ·subst z
      rw [yH (by rw [yn];exact kl),yO,ht];rfl
     ·rw [yL z]
    ·rcases List.mem_or_eq_of_mem_set m with m|m
     ·exact h.rw x m
     ·rw [m];show((e.2.map _).length:Int)=_;rw [yn];exact rl
   ·rw [EL]
    refine DF fun n=>?_
    by_cases z:k=n
    ·subst z
     rw [yH (by rw [yn];exact kl),yO,ht];rfl
    ·rw [yL z]
theorem zjd(hp:bK k d)(hk:k<=40000)(h:di c t)(c6:c<=6)(hl:t.length<=60)(ha:a<=t.length)(pp:Pl 0 p)(pq:Pl 0 q) :
  ∃ d' t',nU [d,.list (t.map ag),.tuple [p,q],.int a]=.ok (.none,[d',.list (t'.map ag),.tuple [p,q],.int a])/\bK (k+60) d'/\di c t'/\t'.map (·.1)=t.map (·.1):=by
 obtain⟨ρ',e,d',t',y4,rfl,n4,p',h',k'⟩:=sr (f:=fun j:Nat=>yy (0+(j:Int))) (g:=gN 4) (b:=rk)
  (fun done ρ=>∃ d' t' y4,ρ=ZE d' (.list (t'.map ag)) (.tuple [p,q]) (a:Int) y4/\Np y4/\bK (k+done.length) d'/\di c t'/\t'.map (·.1)=t.map (·.1))
  (zN ((a:Int)-0).toNat) [] (ZE d (.list (t.map ag)) (.tuple [p,q]) (a:Int) .no) ⟨d,t,.no,rfl,cT,hp,h,rfl⟩ (by
   rintro pre j post ρ e ⟨d1,t1,y4,rfl,n4,p1,h1,k1⟩
   obtain⟨ej,jm⟩:=ztp e
   have tl:t1.length=t.length:=by have:=congrArg Bw k1;simpa using this
   have g4:gN 4 (.int (0+(j:Int))) (ZE d1 (.list (t1.map ag)) (.tuple [p,q]) (a:Int) y4)=.ok (ZE d1 (.list (t1.map ag)) (.tuple [p,q]) (a:Int) (.val (.int j))):=by
    rw [Int.zero_add];exact m3 rfl n4
   obtain⟨d2,t2,qm,p2,h2,k2⟩:=zje (a:=(a:Int)) p1 (by omega) h1 c6 (by omega) (yC (show j<t1.length by omega)) pp pq
   exact⟨_,.nx,vm g4 qm,.inl rfl,d2,t2,_,rfl,cK _,by rw [zH,Ed];exact p2,h2,k2.trans k1⟩)
 rw [yR,Dx] at p'
 refine⟨d',t',?_,p'.mono (by omega),h',k'⟩
 have hr:=zhG (j:=(a:Int)) (by omega) (by omega)
 have hi:fS (aa (eV 3) ae) (ZE d (.list (t.map ag)) (.tuple [p,q]) (a:Int) .no)=.ok (fj 0 (a:Int),ZE d (.list (t.map ag)) (.tuple [p,q]) (a:Int) .no):=by
  simp only [ZE,fS,aa,ae,eV,zz1,zz0,av,hr]
 have w:rQ (ZE d (.list (t.map ag)) (.tuple [p,q]) (a:Int) .no)=.ok (.nx,ZE d' (.list (t'.map ag)) (.tuple [p,q]) (a:Int) y4):=by
  unfold rQ zdq dH
  rw [hi,av,ztr,zV]
  exact e
 show((rQ (ZE d (.list (t.map ag)) (.tuple [p,q]) (a:Int) .no)).bind _)=_
 rw [w];rfl
end
variable {S:D}
section
abbrev LE(S:D)(a:Int)(d:D)(c:Int)(y4 y5 y6:Sl)(r:En):En:=.val S::.val (.int a)::.ow false d::.val (.int c)::y4::y5::y6::r
section
variable {a:Int}{r:En}
theorem zo6(hp:bK k d)(hk:k<=30000)(hn:(n:Int)=c+1)(c0:0<=c)(c6:c<=6)(hl:t.length<=60) :
  ∃ d' xs,uG (LE S a d c (.ow false (.list (t.map ag))) (.val (.int i)) (.val (.int j)) r)=.ok (.nx,LE S a d' c (.ow false (.list ((t++[([i,j],xs)]).map ag))) (.val (.int i)) (.val (.int j)) r)/\Row n xs/\bK (k+30) d':=by
 have it:fS (aa (e2 ay (eV 3) (eC (.int 1))) ae) (LE S a d c (.ow false (.list (t.map ag))) (.val (.int i)) (.val (.int j)) r)=.ok (fj 0 (c+1),LE S a d c (.ow false (.list (t.map ag))) (.val (.int i)) (.val (.int j)) r):=it3 hn c6 rfl
 have rl:(fj 0 (c+1)).length=n:=by unfold fj;rw [yn,Dx];omega
 obtain⟨xs,d2,e,hU,p2⟩:=zkG (ρ:=LE S a d c (.ow false (.list (t.map ag))) (.val (.int i)) (.val (.int j)) r) (ip:=2) (p:=false) (d:=d) rfl hp it (by omega) (by omega)
 rw [rl] at hU p2
 have e':zdb (LE S a d c (.ow false (.list (t.map ag))) (.val (.int i)) (.val (.int j)) r)=.ok (rL xs,LE S a d2 c (.ow false (.list (t.map ag))) (.val (.int i)) (.val (.int j)) r):=e
 refine⟨d2,xs,?_,hU,p2.mono (by omega)⟩
 have ap:iW (t.map ag) (.tuple [.int i,.int j,rL xs])=.ok ((t++[([i,j],xs)]).map ag):=by
  show bc (leB ((t.map ag).length+1) lim) _=_
  rw [eD (by rw [yn];exact i7 (yx (show _<=200 by omega) (by decide))),Ae];rfl
 have l3:leB 3 lim=true:=by decide
 generalize (t++[([i,j],xs)]).map ag=Z at ap ⊢
 generalize t.map ag=Y at e' ap ⊢
 generalize rL xs=R at e' ap
 simp only [LE] at e' ⊢
 simp only [uG,jk,e8,aE,aa,ae,eV,zz1,zz0,e',av,bc,l3,if_true,yg,yB,yP,ap,de,zi,zm]
theorem zo7(hp:bK k d)(hk:k<=10000)(c2:2<=c)(c6:c<=6)(n5:Np y5)(n6:Np y6) :
  ∃ d' t z5 z6,xN (LE S a d c (.ow false (.list [])) y5 y6 r)=.ok (.nx,LE S a d' c (.ow false (.list (t.map ag))) z5 z6 r)/\(Np z5/\Np z6)/\di c t/\t≠[]/\t.length<=16/\bK (k+1000) d':=by
 obtain⟨ps,d1,ep,nd,ok,ne,pl,p1⟩:=zqE hp (by omega) c2 c6
 obtain⟨ρ',e,t,d',z5,z6,rfl,m5,m6,jy,hr',p'⟩:=sr (f:=tp) (g:=gT [gN 5,gN 6]) (b:=uG)
  (fun done ρ=>∃ t d' z5 z6,ρ=LE S a d' c (.ow false (.list (t.map ag))) z5 z6 r/\Np z5/\Np z6/\t.map (·.1)=done/\(∀ e∈t,Row (c+1).toNat e.2)/\bK (k+15+30*done.length) d')
  ps [] (LE S a d1 c (.ow false (.list [])) y5 y6 r) ⟨[],d1,y5,y6,rfl,n5,n6,rfl,(fun _ m=>nomatch m),p1⟩ (by
   rintro pre w post ρ he ⟨t,d2,z5,z6,rfl,m5,m6,jy,hr',p2⟩
   rw [yR] at he
   have ll:pre.length+(post.length+1)<=16:=by have:=congrArg Bw he;simp at this;omega
   obtain⟨i,j,rfl,i0,ij,jc⟩:=zgO (ok w (by rw [he];simp))
   have tl:t.length=pre.length:=by have:=congrArg Bw jy;simpa using this
   have g1:gT [gN 5,gN 6] (tp [i,j]) (LE S a d2 c (.ow false (.list (t.map ag))) z5 z6 r)=.ok (LE S a d2 c (.ow false (.list (t.map ag))) (.val (.int i)) (.val (.int j)) r):=vS rfl m5 rfl m6
   obtain⟨d3,xs,e1,rx,p3⟩:=zo6 (S:=S) (a:=a) (r:=r) (i:=i) (j:=j) (n:=(c+1).toNat) p2 (by omega) (by omega) (by omega) c6 (show t.length<=60 by omega)
   refine⟨_,.nx,vm g1 e1,.inl rfl,t++[([i,j],xs)],d3,_,_,rfl,cK _,cK _,by rw [Ae,jy];rfl,fun e m=>?_,by rw [zH,Ed];exact p3.mono (by omega)⟩
   rcases Au.mp m with m|m
   ·exact hr' e m
   ·rw [BJ.mp m];exact rx)
 rw [yR] at jy p'
 have tl:t.length=ps.length:=by have:=congrArg Bw jy;simpa using this
 refine⟨d',t,z5,z6,?_,⟨m5,m6⟩,⟨by unfold Gk;rw [jy];exact nd,fun e m=>zgO (ok e.1 (by rw [<- jy];exact AZ m)),fun e m=>by have:=(hr' e m).l;omega⟩,fun z=>?_,by omega,p'.mono (by omega)⟩
 ·have it:iE (aA rA [.m 2,.v (eV 3)]) (LE S a d c (.ow false (.list [])) y5 y6 r)=.ok (ps.map tp,LE S a d1 c (.ow false (.list [])) y5 y6 r):=by
   unfold iE
   rw [show aA rA [.m 2,.v (eV 3)] (LE S a d c (.ow false (.list [])) y5 y6 r)=.ok (cu ps,LE S a d1 c (.ow false (.list [])) y5 y6 r) from dM (p:=false) (d:=d) rfl rfl ep,av];rfl
  unfold xN dH
  rw [it,av]
  exact e
 ·subst z
  exact ne (List.length_eq_zero_iff.mp tl.symm)
end
end
variable {y10 y11 y12 y13 y8 y9:Sl}{d':D}{z:Int}
section
abbrev VE(S:D)(a:Int)(d:D)(c:Int)(L:D)(y5 y6 y7 y8 y9 y10 y11 y12 y13:Sl):En:=[.val S,.val (.int a),.ow false d,.val (.int c),.val L,y5,y6,y7,y8,y9,y10,y11,y12,y13]
theorem zuI{a:Int}:bQ [(2,.ow true d')] 0 (VE S a d c L y5 y6 y7 y8 y9 y10 y11 y12 y13)=VE S a d' c L y5 y6 y7 y8 y9 y10 y11 y12 y13:=zaB (d:=d) (p:=false) (VE S a d c L y5 y6 y7 y8 y9 y10 y11 y12 y13) 0 2 rfl
theorem zuJ{z M M':D}{a:Int}:bQ [(2,.ow true d'),(10,.ow true M')] 0 (VE S a d c L (.val p) (.val q) (.val x) (.val y) (.val z) (.ow false M) y11 y12 y13)=VE S a d' c L (.val p) (.val q) (.val x) (.val y) (.val z) (.ow false M') y11 y12 y13:=by
 have h:∀(i:Nat) (y:Sl),i≠2->i≠10->bP [(2,.ow true d'),(10,.ow true M')] i y=y:=fun i y h2 h10=>vj (by
  rw [ym,beq_eq_false_iff_ne.mpr h2,ym,beq_eq_false_iff_ne.mpr h10];rfl)
 show _::_::_::_::_::_::_::_::_::_::_::bP _ 11 y11::bP _ 12 y12::bP _ 13 y13::[]=_
 rw [h 11 _ (by decide) (by decide),h 12 _ (by decide) (by decide),h 13 _ (by decide) (by decide)]
 rfl
noncomputable def wd(b:Bool):D:=.str (if b=true then "NoPair" else "NoRow")
noncomputable def qZ:SF:=aQ (tB (e2 bD (eV 9) (eC (.str "NoPair")))) (aq (aH (gT [(gN 5),(gN 6)]) (aA kY [.m 2,.v (eV 4),.v (eV 7),.v (eV 3)]))
  (sE (aA nU [.m 2,.m 10,.v (aE (aa (eV 5) (aa (eV 6) ae))),.v (eV 7)]))) aS
noncomputable def xk:SF:=aQ (FL.bI (tB (e2 bD (eV 9) (eC (.str "NoRow")))) (tB (e2 bD (aA aX [.m 2,.v (eC (.int 2))]) (eC (.int 0))))) (aH (gN 8) (aA pO [.m 2,.v (eV 8)])) aS
theorem znx(h:t'.map (·.1)=t.map (·.1)){b:Nat}(hb:b<a)(he:t[b]?=some e):∃ xs,(e.1,xs)∈t'.take a:=by
 have h1:(t'.map (·.1))[b]?=some e.1:=by rw [h,yO,he];rfl
 rw [yO] at h1
 cases h2:t'[b]? with
 | none=>rw [h2] at h1;cases h1
 | some e2 =>
  rw [h2] at h1
  have z:e2.1=e.1:=yN h1
  refine⟨e2.2,zg (i:=b) ?_⟩
  rw [D1 hb,h2,<- z]
theorem di.take(h:di c t)(a:Nat):di c (t.take a):=⟨((List.take_sublist a t).map fun e:List Int×List Rat=>e.1).nodup h.nk,fun e m=>h.ky e (EK m),fun e m=>h.rw e (EK m)⟩
theorem ztX(b:Bool)(hp:bK k d)(hk:k<=20000)(h:di c t)(c0:0<=c)(c6:c<=6)(hl:t.length<=16)(ha:t[a]?=some e)(he:e.1=[i,j]) :
  ∃ d' t' p q r,(aq qZ xk) (VE S z d c (.list (t.map ag)) (.val (.int i)) (.val (.int j)) (.val (.int a)) (.val (rL e.2)) (.val (wd b)) (.ow false (.list (t.map ag))) y11 y12 y13)=.ok (.nx,VE S z d' c (.list (t.map ag)) (.val p) (.val q) (.val (.int a)) (.val r) (.val (wd b)) (.ow false (.list (t'.map ag))) y11 y12 y13)/\bK (k+100) d'/\di c t'/\t'.length=t.length/\jo c (t'.take a) (.tuple [p,q,r]) (if b=true then "NoPair" else "NoRow"):=by
 have al:=(yu.mp ha).1
 have em:=zg ha
 have rl:=h.rw e em
 obtain⟨i1,j1,sJ,i0,ij,jc⟩:=h.ky e em
 obtain⟨rfl,rfl⟩:i=i1/\j=j1:=by rw [he] at sJ;injection sJ with z1 z2;injection z2 with z2 _;exact⟨z1,z2⟩
 have row:∀{k:Nat} {d L p q w9 y10:D},bK k d->k<=30000->∃ x d',aH (gN 8) (aA pO [.m 2,.v (eV 8)]) (VE S z d c L (.val p) (.val q) (.val (.int a)) (.val (rL e.2)) (.val w9) (.ow false y10) y11 y12 y13)=.ok (.nx,VE S z d' c L (.val p) (.val q) (.val (.int a)) (.val x) (.val w9) (.ow false y10) y11 y12 y13)/\pK e.2.length x/\bK (k+3) d':=fun{k d L p q w9 y10} hp hk=>by
  obtain⟨x,d',ex,bx,px⟩:=zjc (n:=e.2.length) hp (by omega) rfl (by omega) (by omega)
  exact⟨x,d',iK (y:=(x,VE S z d' c L (.val p) (.val q) (.val (.int a)) (.val (rL e.2)) (.val w9) (.ow false y10) y11 y12 y13)) (dM (p:=false) (d:=d) rfl rfl ex) rfl (cK _),bx,px⟩
 have eP:∀ b,bD (wd b) (.str "NoPair")=.ok (.bool b):=fun b=>by cases b <;> kernel_rfl
 have eR:∀ b,bD (wd b) (.str "NoRow")=.ok (.bool !b):=fun b=>by cases b <;> kernel_rfl
 cases b with
 | false =>
  obtain⟨x,d',ex,bx,px⟩:=row (L:=.list (t.map ag)) (p:=.int i) (q:=.int j) (w9:=wd false) (y10:=.list (t.map ag)) hp (by omega)
  refine⟨d',t,.int i,.int j,x,?_,px.mono (by omega),h,rfl,?_⟩
  ·have t1:qZ (VE S z d c (.list (t.map ag)) (.val (.int i)) (.val (.int j)) (.val (.int a)) (.val (rL e.2)) (.val (wd false)) (.ow false (.list (t.map ag))) y11 y12 y13)=.ok (.nx,VE S z d c (.list (t.map ag)) (.val (.int i)) (.val (.int j)) (.val (.int a)) (.val (rL e.2)) (.val (wd false)) (.ow false (.list (t.map ag))) y11 y12 y13):=(gw (fX (bw rfl rfl (eP false)))).trans rfl
   refine(aD t1).trans ((gW (ρ1:=VE S z d c (.list (t.map ag)) (.val (.int i)) (.val (.int j)) (.val (.int a)) (.val (rL e.2)) (.val (wd false)) (.ow false (.list (t.map ag))) y11 y12 y13) ?_).trans ex)
   unfold FL.bI
   rw [fX (bw rfl rfl (eR false))];rfl
  ·refine jo.row ?_ (fun p m z=>?_) ?_
   ·rw [oY,decide_eq_true i0,decide_eq_true (show i<c by omega),decide_eq_true (show 0<=j by omega),decide_eq_true jc,decide_eq_true ij];rfl
   ·obtain⟨n,hn,gn⟩:=Fo m
    rw [zQ] at hn
    rw [List.getElem_take] at gn
    have nk:=h.nk
    unfold Gk at nk
    have:=(DN (i:=n) (j:=a) (h₀:=by rw [yn];omega) (h₁:=by rw [yn];exact al) nk).mp (by
     rw [List.getElem_map,List.getElem_map,gn,(yu.mp ha).2,z,he])
    omega
   ·unfold pK at bx
    rw [rl] at bx
    exact bx
 | true =>
  obtain⟨p,q,d1,ef1,p1,⟨pp,pq⟩,od⟩:=zjb hp (by omega) h c0 c6 ha (by omega)
  obtain⟨d2,t',ef2,p2,h',k'⟩:=zjd (a:=a) p1 (by omega) h c6 (by omega) (by omega) pp pq
  have tl:t'.length=t.length:=by have:=congrArg Bw k';simpa using this
  have b1:aH (gT [gN 5,gN 6]) (aA kY [.m 2,.v (eV 4),.v (eV 7),.v (eV 3)]) (VE S z d c (.list (t.map ag)) (.val (.int i)) (.val (.int j)) (.val (.int a)) (.val (rL e.2)) (.val (wd true)) (.ow false (.list (t.map ag))) y11 y12 y13)=.ok (.nx,VE S z d1 c (.list (t.map ag)) (.val p) (.val q) (.val (.int a)) (.val (rL e.2)) (.val (wd true)) (.ow false (.list (t.map ag))) y11 y12 y13):=by
   unfold aH
   rw [show aA kY [.m 2,.v (eV 4),.v (eV 7),.v (eV 3)] (VE S z d c (.list (t.map ag)) (.val (.int i)) (.val (.int j)) (.val (.int a)) (.val (rL e.2)) (.val (wd true)) (.ow false (.list (t.map ag))) y11 y12 y13)=.ok (.tuple [p,q],VE S z d1 c (.list (t.map ag)) (.val (.int i)) (.val (.int j)) (.val (.int a)) (.val (rL e.2)) (.val (wd true)) (.ow false (.list (t.map ag))) y11 y12 y13) by
    show((kY [d,.list (t.map ag),.int a,.int c]).bind fun y=>R.ok (y.1,gI _ _ y.2))=_
    rw [ef1,av]
    exact congrArg (fun x=>R.ok (DI [p,q],x)) zuI]
   rfl
  have b2:sE (aA nU [.m 2,.m 10,.v (aE (aa (eV 5) (aa (eV 6) ae))),.v (eV 7)]) (VE S z d1 c (.list (t.map ag)) (.val p) (.val q) (.val (.int a)) (.val (rL e.2)) (.val (wd true)) (.ow false (.list (t.map ag))) y11 y12 y13)=.ok (.nx,VE S z d2 c (.list (t.map ag)) (.val p) (.val q) (.val (.int a)) (.val (rL e.2)) (.val (wd true)) (.ow false (.list (t'.map ag))) y11 y12 y13):=by
   unfold sE
   rw [show aA nU [.m 2,.m 10,.v (aE (aa (eV 5) (aa (eV 6) ae))),.v (eV 7)] (VE S z d1 c (.list (t.map ag)) (.val p) (.val q) (.val (.int a)) (.val (rL e.2)) (.val (wd true)) (.ow false (.list (t.map ag))) y11 y12 y13)=.ok (.none,VE S z d2 c (.list (t.map ag)) (.val p) (.val q) (.val (.int a)) (.val (rL e.2)) (.val (wd true)) (.ow false (.list (t'.map ag))) y11 y12 y13) by
    show((nU [d1,.list (t.map ag),.tuple [p,q],.int a]).bind fun y=>R.ok (y.1,gI _ _ y.2))=_
    rw [ef2,av]
    exact congrArg (fun x=>R.ok (Bj,x)) zuJ]
   rfl
  have w1:∀ r,jo c (t'.take a) (.tuple [p,q,r]) "NoPair":=fun r=>by
   rcases od with od|⟨b,e',i',j',ba,eb,lM,rfl,rfl⟩
   ·exact .name (od r)
   ·obtain⟨i2,j2,sL,i20,ij2,jc2⟩:=h.ky e' (zg eb)
    obtain⟨rfl,rfl⟩:i'=i2/\j'=j2:=by rw [lM] at sL;injection sL with z1 z2;injection z2 with z2 _;exact⟨z1,z2⟩
    obtain⟨xs,mx⟩:=znx k' ba eb
    rw [lM] at mx
    refine .twice i20 ij2 jc2 mx (h'.take a).nk ?_
    rw [oY,decide_eq_true i20,decide_eq_true (show i'<c by omega),decide_eq_true (show 0<=j' by omega),decide_eq_true jc2,decide_eq_true ij2];rfl
  have t1:qZ (VE S z d c (.list (t.map ag)) (.val (.int i)) (.val (.int j)) (.val (.int a)) (.val (rL e.2)) (.val (wd true)) (.ow false (.list (t.map ag))) y11 y12 y13)=.ok (.nx,VE S z d2 c (.list (t.map ag)) (.val p) (.val q) (.val (.int a)) (.val (rL e.2)) (.val (wd true)) (.ow false (.list (t'.map ag))) y11 y12 y13):=(gW (fX (bw rfl rfl (eP true)))).trans ((aD b1).trans b2)
  obtain⟨g,d3,tk,g0,g2,p3⟩:=et p2 (by omega) 2 (by decide) (bF (by decide)) (by decide)
  have t2:FL.bI (tB (e2 bD (eV 9) (eC (.str "NoRow")))) (tB (e2 bD (aA aX [.m 2,.v (eC (.int 2))]) (eC (.int 0)))) (VE S z d2 c (.list (t.map ag)) (.val p) (.val q) (.val (.int a)) (.val (rL e.2)) (.val (wd true)) (.ow false (.list (t'.map ag))) y11 y12 y13)=.ok (decide (g=0),VE S z d3 c (.list (t.map ag)) (.val p) (.val q) (.val (.int a)) (.val (rL e.2)) (.val (wd true)) (.ow false (.list (t'.map ag))) y11 y12 y13):=by
   unfold FL.bI
   rw [fX (bw rfl rfl (eR true)),av,if_neg (by simp)]
   exact fX (bw (dM (p:=false) (d:=d2) rfl rfl tk) rfl (oB g 0))
  cases hz:decide (g=0) with
  | false =>
   rw [hz] at t2
   exact⟨d3,t',p,q,rL e.2,(aD t1).trans ((gw t2).trans rfl),p3.mono (by omega),h',tl,w1 _⟩
  | true =>
   rw [hz] at t2
   obtain⟨x,d',ex,bx,px⟩:=row (L:=.list (t.map ag)) (p:=p) (q:=q) (w9:=wd true) (y10:=.list (t'.map ag)) p3 (by omega)
   exact⟨d',t',p,q,x,(aD t1).trans ((gW t2).trans ex),px.mono (by omega),h',tl,w1 _⟩
end
variable {o:Option (String×List D)}
section
theorem zhS{kf:EF}{p:Bool}(hf:f ρ=.ok (x,ρ1))(hs:ρ1[10]?=some (.ow p (.list l)))(hk:kf ρ1=.ok (.int k,ρ1))(kl:k<l.length):setM 10 f kf ρ=.ok (.nx,ρ1.set 10 (.ow p (.list (l.set k x)))):=by
 have la:e8 ρ1 10=.ok l:=by unfold e8;rw [hs]
 have ixn:e7 l.length (k:Int)=some k:=by unfold e7;simp [kl]
 unfold setM
 rw [hf,av]
 dsimp only
 rw [la,av,hk,av]
 dsimp only
 rw [la,av,ixn]
 show R.ok (Fl.nx,de ρ1 10 (.list (l.set k x)))=_
 unfold de
 rw [hs]
noncomputable def xl:SF:=setM 10 (aE (aa (eV 5) (aa (eV 6) (aa (eV 8) ae)))) (eV 7)
noncomputable def s13:SF:=aQ (tB (e2 fc (e2 ay (eV 7) (eC (.int 1))) (m1 bR 10))) (aq (aH (gN 11) (e2 ay (e2 ay (eV 7) (eC (.int 1))) (aA aX [.m 2,.v (e2 cv (e2 cv (m1 bR 10) (eV 7)) (eC (.int 1)))])))
  (setM 10 (e2 aB (aV (aa (m2 aB 10 (eV 11)) (aa (aE (aa (eC (.int 1)) (aa (eC (.int 0)) (aa (aV ae) ae)))) (aa (aE (aa (eC (.int 0)) (aa (eC (.int 1)) (aa (aV (aa (aE (aa (eC (.int 2)) (aa (eC (.int 2)) ae))) ae)) ae)))) ae)))) (aA aX [.m 2,.v (eC (.int 3))])) (eV 11))) aS
theorem zto{w:D}(hp:bK k d)(hk:k<=20000)(al:a<l.length)(hl:l.length<=16)(qL:Np y11) :
  ∃ d' Q y,(aq xl s13) (VE S z d c L (.val p) (.val q) (.val (.int a)) (.val r) (.val w) (.ow false (.list l)) y11 y12 y13)=.ok (.nx,VE S z d' c L (.val p) (.val q) (.val (.int a)) (.val r) (.val w) (.ow false (.list (l.take a++.tuple [p,q,r]::Q))) y y12 y13)/\bK (k+2) d'/\Np y:=by
 have r9:xl (VE S z d c L (.val p) (.val q) (.val (.int a)) (.val r) (.val w) (.ow false (.list l)) y11 y12 y13)=.ok (.nx,VE S z d c L (.val p) (.val q) (.val (.int a)) (.val r) (.val w) (.ow false (.list (l.take a++.tuple [p,q,r]::l.drop (a+1)))) y11 y12 y13):=by
  have so0:l.set a (.tuple [p,q,r])=l.take a++.tuple [p,q,r]::l.drop (a+1):=by rw [List.set_eq_take_append_cons_drop,if_pos al]
  rw [<- so0]
  exact zhS (f:=aE (aa (eV 5) (aa (eV 6) (aa (eV 8) ae)))) (kf:=eV 7) (ρ:=VE S z d c L (.val p) (.val q) (.val (.int a)) (.val r) (.val w) (.ow false (.list l)) y11 y12 y13) (ρ1:=VE S z d c L (.val p) (.val q) (.val (.int a)) (.val r) (.val w) (.ow false (.list l)) y11 y12 y13) (x:=.tuple [p,q,r]) (p:=false) (k:=a) rfl rfl rfl al
 have ml:(l.take a++.tuple [p,q,r]::l.drop (a+1)).length=l.length:=by simp;omega
 have pl:(l.take a).length=a:=by rw [zQ];omega
 generalize hM:l.take a++.tuple [p,q,r]::l.drop (a+1)=M at r9 ml
 have lm:m1 bR 10 (VE S z d c L (.val p) (.val q) (.val (.int a)) (.val r) (.val w) (.ow false (.list M)) y11 y12 y13)=.ok (.int (l.length:Int),VE S z d c L (.val p) (.val q) (.val (.int a)) (.val r) (.val w) (.ow false (.list M)) y11 y12 y13):=by
  rw [<- ml];rfl
 have a1:e2 ay (eV 7) (eC (.int 1)) (VE S z d c L (.val p) (.val q) (.val (.int a)) (.val r) (.val w) (.ow false (.list M)) y11 y12 y13)=.ok (.int ((a:Int)+1),VE S z d c L (.val p) (.val q) (.val (.int a)) (.val r) (.val w) (.ow false (.list M)) y11 y12 y13):=bw rfl rfl rfl
 have tt:tB (e2 fc (e2 ay (eV 7) (eC (.int 1))) (m1 bR 10)) (VE S z d c L (.val p) (.val q) (.val (.int a)) (.val r) (.val w) (.ow false (.list M)) y11 y12 y13)=.ok (decide ((a:Int)+1<(l.length:Int)),VE S z d c L (.val p) (.val q) (.val (.int a)) (.val r) (.val w) (.ow false (.list M)) y11 y12 y13):=fX (bw a1 lm (oS _ _))
 by_cases h:(a:Int)+1<(l.length:Int)
 ·rw [decide_eq_true h] at tt
  obtain⟨g,d1,tk,g0,g1,p1⟩:=et hp (by omega) ((l.length:Int)-(a:Int)-1) (by omega) (bF (by omega)) (by decide)
  have cm:aA aX [.m 2,.v (e2 cv (e2 cv (m1 bR 10) (eV 7)) (eC (.int 1)))] (VE S z d c L (.val p) (.val q) (.val (.int a)) (.val r) (.val w) (.ow false (.list M)) y11 y12 y13)=.ok (.int g,VE S z d1 c L (.val p) (.val q) (.val (.int a)) (.val r) (.val w) (.ow false (.list M)) y11 y12 y13):=dM (p:=false) (d:=d) rfl (bw (bw lm rfl rfl) rfl rfl) tk
  generalize ho:a+1+g.toNat=o
  have og:(a:Int)+1+g=(o:Int):=by omega
  have b1:aH (gN 11) (e2 ay (e2 ay (eV 7) (eC (.int 1))) (aA aX [.m 2,.v (e2 cv (e2 cv (m1 bR 10) (eV 7)) (eC (.int 1)))])) (VE S z d c L (.val p) (.val q) (.val (.int a)) (.val r) (.val w) (.ow false (.list M)) y11 y12 y13)=.ok (.nx,VE S z d1 c L (.val p) (.val q) (.val (.int a)) (.val r) (.val w) (.ow false (.list M)) (.val (.int o)) y12 y13):=by
   rw [<- og]
   exact iK (y:=(.int ((a:Int)+1+g),VE S z d1 c L (.val p) (.val q) (.val (.int a)) (.val r) (.val w) (.ow false (.list M)) y11 y12 y13)) (bw a1 cm rfl) rfl qL
  obtain⟨f,d2,tk2,f0,f3,p2⟩:=et p1 (by omega) 3 (by decide) (bF (by decide)) (by decide)
  have oM:o<M.length:=by omega
  have ixo:aB (.list M) (.int o)=.ok M[o]:=ixL (by omega) (by rw [DA];exact yC oM)
  have mo:m2 aB 10 (eV 11) (VE S z d1 c L (.val p) (.val q) (.val (.int a)) (.val r) (.val w) (.ow false (.list M)) (.val (.int o)) y12 y13)=.ok (M[o],VE S z d1 c L (.val p) (.val q) (.val (.int a)) (.val r) (.val w) (.ow false (.list M)) (.val (.int o)) y12 y13):=zgp (x:=.list M) rfl rfl ixo
  generalize M[o]=X at mo
  have le:aV (aa (m2 aB 10 (eV 11)) (aa (aE (aa (eC (.int 1)) (aa (eC (.int 0)) (aa (aV ae) ae)))) (aa (aE (aa (eC (.int 0)) (aa (eC (.int 1)) (aa (aV (aa (aE (aa (eC (.int 2)) (aa (eC (.int 2)) ae))) ae)) ae)))) ae))) (VE S z d1 c L (.val p) (.val q) (.val (.int a)) (.val r) (.val w) (.ow false (.list M)) (.val (.int o)) y12 y13)=.ok (.list [X,.tuple [.int 1,.int 0,.list []],.tuple [.int 0,.int 1,.list [.tuple [.int 2,.int 2]]]],VE S z d1 c L (.val p) (.val q) (.val (.int a)) (.val r) (.val w) (.ow false (.list M)) (.val (.int o)) y12 y13):=by
   unfold aV aa
   rw [mo];rfl
  have cm2:aA aX [.m 2,.v (eC (.int 3))] (VE S z d1 c L (.val p) (.val q) (.val (.int a)) (.val r) (.val w) (.ow false (.list M)) (.val (.int o)) y12 y13)=.ok (.int f,VE S z d2 c L (.val p) (.val q) (.val (.int a)) (.val r) (.val w) (.ow false (.list M)) (.val (.int o)) y12 y13):=dM (p:=false) (d:=d1) rfl rfl tk2
  have ix:∃ Y,aB (.list [X,.tuple [.int 1,.int 0,.list []],.tuple [.int 0,.int 1,.list [.tuple [.int 2,.int 2]]]]) (.int f)=.ok Y:=by
   rcases show f=0\/f=1\/f=2 by omega with rfl|rfl|rfl <;> exact⟨_,rfl⟩
  obtain⟨Y,eY⟩:=ix
  have b2:=zhS (f:=e2 aB (aV (aa (m2 aB 10 (eV 11)) (aa (aE (aa (eC (.int 1)) (aa (eC (.int 0)) (aa (aV ae) ae)))) (aa (aE (aa (eC (.int 0)) (aa (eC (.int 1)) (aa (aV (aa (aE (aa (eC (.int 2)) (aa (eC (.int 2)) ae))) ae)) ae)))) ae)))) (aA aX [.m 2,.v (eC (.int 3))])) (kf:=eV 11) (p:=false) (k:=o) (l:=M) (bw le cm2 eY) rfl rfl oM
  have so:M.set o Y=l.take a++.tuple [p,q,r]::(l.drop (a+1)).set g.toNat Y:=by
   rw [<- hM,List.set_append_right o Y (by rw [pl];omega),pl,show o-a=g.toNat+1 by omega,zi]
  rw [so] at b2
  exact⟨d2,_,_,(aD r9).trans ((gW tt).trans ((aD b1).trans b2)),p2,cK _⟩
 ·rw [decide_eq_false h] at tt
  refine⟨d,l.drop (a+1),y11,?_,hp.mono (by omega),qL⟩
  rw [hM]
  exact(aD r9).trans ((gw tt).trans rfl)
end
section
theorem zhR{a b c:SF}:aq a (aq b c) ρ=aq (aq a b) c ρ:=by
 unfold aq
 cases a ρ with
 | ok x =>
  obtain⟨f,ρ1⟩:=x
  cases f <;> rfl
 | _=>rfl
theorem zpK{ds:List D}(h:fa ρ=.ok (ds,ρ1))(k:G ds=.ok o):qo G fa ρ=.ok (.bool o.isSome,ρ1):=by unfold qo;rw [h,av,k];rfl
theorem zjU(d:D):mL "NoRow" [d]=.ok (.str "NoRow"):=by kernel_rfl
theorem zjT(d:D):mL "NoPair" [d]=.ok (.str "NoPair"):=by kernel_rfl
theorem zjS:mL "NoCount" []=.ok (.str "NoCount"):=by kernel_rfl
theorem tests{p' q' r' B':Sl}(b:Bool) :
  (FL.bI (tB (e2 dn (oy 12 mL) (eV 9))) (FL.bI (tB (e2 dn (oz 12 [("NoRow",0),("NoPair",0)]) (eV 7))) (tE (e1 (fT "bool") (oz 12 [("NoRow",0),("NoPair",0)]))))) (VE S z d c L p' q' (.val (.int a)) r' (.val (wd b)) B' y11 (.ob (if b=true then "NoPair" else "NoRow") [.int a]) y13)=.ok (false,VE S z d c L p' q' (.val (.int a)) r' (.val (wd b)) B' y11 (.ob (if b=true then "NoPair" else "NoRow") [.int a]) y13):=by
 have ne:∀ b,dn (wd b) (wd b)=.ok (.bool false):=fun b=>by cases b <;> kernel_rfl
 have cl:mL (if b=true then "NoPair" else "NoRow") [.int a]=.ok (wd b):=by
  cases b with
  | true=>exact zjT _
  | false=>exact zjU _
 have fl:oz 12 [("NoRow",0),("NoPair",0)] (VE S z d c L p' q' (.val (.int a)) r' (.val (wd b)) B' y11 (.ob (if b=true then "NoPair" else "NoRow") [.int a]) y13)=.ok (.int a,VE S z d c L p' q' (.val (.int a)) r' (.val (wd b)) B' y11 (.ob (if b=true then "NoPair" else "NoRow") [.int a]) y13):=by
  cases b <;> rfl
 refine zcS (fX (bw (zex rfl cl) rfl (ne b))) (zcS (fX (bw fl rfl (zpF (eL (a:Int))))) (xD ?_))
 unfold FL.e1
 rw [fl];rfl
theorem zjP{y2 y4:Sl}(n2:Np y2)(n3:Np y3)(n4:Np y4)(n5:Np y5)(n6:Np y6)(n7:Np y7)(n8:Np y8)(n9:Np y9)(n10:Np y10)(qL:Np y11)(n12:Np y12)(n13:Np y13) :
  ∃ d c L p q a r w B y od,Np y/\uH [.val S,.val (.int z),y2,y3,y4,y5,y6,y7,y8,y9,y10,y11,y12,y13]=.ok (.nx,VE S z d c L (.val p) (.val q) (.val a) (.val r) (.val w) (.val B) y (.ob "NoCount" []) (.val od)):=by
 obtain⟨d,ep,p0⟩:=zrO z 9 (by decide)
 replace ep:zac [.int z,.int 9]=.ok d:=ep
 obtain⟨g,d1,tk,g0,g1,p1⟩:=et p0 (by decide) 5 (by decide) (bF (by decide)) (by decide)
 generalize hc:2+g=c
 obtain⟨d2,t,z5,z6,el,⟨m5,m6⟩,ht,tne,tl,p2⟩:=zo7 (S:=S) (a:=z) (r:=[y7,y8,y9,y10,y11,y12,y13]) p1 (by decide) (show 2<=c by omega) (by omega) n5 n6
 have cg:=zjN ht (by omega) (by omega) (by omega)
 have t0:1<=t.length:=by
  cases t with
  | nil=>exact absurd rfl tne
  | cons _ _=>simp
 obtain⟨a',d3,t3,a0,a1,p3⟩:=et p2 (by omega) (t.length:Int) (by omega) (bF (by omega)) (by decide)
 obtain⟨a,rfl⟩:∃ a:Nat,a'=(a:Int):=⟨a'.toNat,by omega⟩
 have al:a<t.length:=by omega
 have ga:t[a]?=some t[a]:=yC al
 generalize t[a]=e at ga
 obtain⟨i,j,he,i0,ij,jc⟩:=ht.ky e (zg ga)
 have ea:=wB ga
 rw [tm he] at ea
 obtain⟨f,d4,t4,f0,f1,p4⟩:=et p3 (by omega) 2 (by decide) (bF (by decide)) (by decide)
 have wx:∃ b,aB (.list [.str "NoPair",.str "NoRow"]) (.int f)=.ok (wd b):=by
  rcases show f=0\/f=1 by omega with rfl|rfl
  ·exact⟨true,rfl⟩
  ·exact⟨false,rfl⟩
 obtain⟨b,wx⟩:=wx
 obtain⟨d5,t',p,q,r,e5,p5,wc,tl',wr⟩:=ztX (S:=S) (z:=z) (y11:=y11) (y12:=y12) (y13:=y13) b p4 (by omega) ht (by omega) (by omega) tl ga he
 obtain⟨d6,Q,y,e6,p6,ny⟩:=zto (S:=S) (z:=z) (c:=c) (L:=.list (t.map ag)) (p:=p) (q:=q) (r:=r) (w:=wd b) (y12:=y12) (y13:=y13) (l:=t'.map ag) p5 (by omega) (show a<(t'.map ag).length by rw [yn];omega) (by rw [yn];omega) qL
 rw [<- Cq] at e6
 have cw:=zjO (ds:=Q) (wc.take a) (by omega) (show c<=6 by omega) (by rw [zQ];omega) wr
 rw [zQ,EJ (by omega)] at cw
 generalize zG ((t'.take a).map ag++.tuple [p,q,r]::Q)=B at e6 cw
 generalize zG (t'.map ag)=B0 at e5 e6
 have ln:bR (.list (t.map ag))=.ok (.int (t.length:Int)):=by
  show R.ok (yy ((t.map ag).length:Int))=_
  rw [yn]
 have lc:iG (.list (t.map ag))=.ok (.list (t.map ag)):=rfl
 generalize zG (t.map ag)=L at el cg ea e5 e6 ln lc
 generalize rL e.2=R at ea e5
 obtain⟨h1,d7,t7,h10,h11,p7⟩:=et p6 (by omega) 50 (by decide) (bF (by decide)) (by decide)
 obtain⟨h2,d8,t8,h20,h21,p8⟩:=et p7 (by omega) 10000000000000000000 (by decide) (b:=70) ⟨by decide⟩ (by decide)
 obtain⟨h3,d9,t9,h30,h31,p9⟩:=et p8 (by omega) 8 (by decide) (bF (by decide)) (by decide)
 obtain⟨h4,vB,t10,h40,h41,p10⟩:=et p9 (by omega) 3 (by decide) (bF (by decide)) (by decide)
 have ox:∃ x,aB (.list [.int 0,.int 7,.int (-1-h1),.int (7+h2),.bool true,.bool false,.none,.str "3"]) (.int h3)=.ok x/\((∃ c:Int,x=.int c/\(c<1\/6<c))\/(∃ b,x=.bool b)\/x=.none\/∃ s,x=.str s):=by
  rcases show h3=0\/h3=1\/h3=2\/h3=3\/h3=4\/h3=5\/h3=6\/h3=7 by omega with rfl|rfl|rfl|rfl|rfl|rfl|rfl|rfl
  ·exact⟨_,rfl,.inl ⟨_,rfl,by omega⟩⟩
  ·exact⟨_,rfl,.inl ⟨_,rfl,by omega⟩⟩
  ·exact⟨_,rfl,.inl ⟨_,rfl,by omega⟩⟩
  ·exact⟨_,rfl,.inl ⟨_,rfl,by omega⟩⟩
  ·exact⟨_,rfl,.inr (.inl ⟨_,rfl⟩)⟩
  ·exact⟨_,rfl,.inr (.inl ⟨_,rfl⟩)⟩
  ·exact⟨_,rfl,.inr (.inr (.inl rfl))⟩
  ·exact⟨_,rfl,.inr (.inr (.inr ⟨_,rfl⟩))⟩
 obtain⟨x,ex,cx⟩:=ox
 have lx:∃ Y,aB (.list [L,B,.list []]) (.int h4)=.ok Y:=by
  rcases show h4=0\/h4=1\/h4=2 by omega with rfl|rfl|rfl <;> exact⟨_,rfl⟩
 obtain⟨Y,eY⟩:=lx
 have cc:=zjM (L:=Y) cx
 generalize hO:zG [.int 0,.int 7,.int (-1-h1),.int (7+h2),.bool true,.bool false,.none,.str "3"]=O at ex
 refine⟨vB,c,L,p,q,.int a,r,wd b,B,y,O,ny,?_⟩
 unfold uH
 refine(aD (zdd (d:=d) (qg rfl ep) rfl n2)).trans ?_
 refine(aD (ρ1:=[.val S,.val (.int z),.ow false d1,.val (.int c),y4,y5,y6,y7,y8,y9,y10,y11,y12,y13]) (iK (y:=(.int c,[.val S,.val (.int z),.ow false d1,y3,y4,y5,y6,y7,y8,y9,y10,y11,y12,y13])) (by rw [<- hc];exact bw rfl (dM (p:=false) (d:=d) rfl rfl tk) rfl) rfl n3)).trans ?_
 refine(aD (zdd (d:=.list []) rfl rfl n4)).trans ?_
 refine(aD el).trans ?_
 refine(aD (ρ1:=VE S z d2 c L z5 z6 y7 y8 y9 y10 y11 y12 y13) (show aQ (tB (qo iQ (aa (eV 3) (aa (eV 4) ae)))) (aG (eC (.bool false))) aS (VE S z d2 c L z5 z6 y7 y8 y9 y10 y11 y12 y13)=_ from(gw (fX (zpK rfl cg))).trans rfl)).trans ?_
 refine(aD (ρ1:=VE S z d3 c L z5 z6 (.val (.int a)) y8 y9 y10 y11 y12 y13) (iK (y:=(.int a,VE S z d3 c L z5 z6 y7 y8 y9 y10 y11 y12 y13)) (dM (p:=false) (d:=d2) rfl (by unfold FL.e1;show(bR L).bind _=_;rw [ln];rfl) t3) rfl n7)).trans ?_
 refine(aD (ρ1:=VE S z d3 c L (.val (.int i)) (.val (.int j)) (.val (.int a)) (.val R) y9 y10 y11 y12 y13) (by
  unfold aH
  rw [bw (a:=L) (b:=.int a) rfl rfl ea,av]
  show(gT [gN 5,gN 6,gN 8] (.tuple [.int i,.int j,R]) (VE S z d3 c L z5 z6 (.val (.int a)) y8 y9 y10 y11 y12 y13)).bind _=_
  rw [show gT [gN 5,gN 6,gN 8] (.tuple [.int i,.int j,R]) (VE S z d3 c L z5 z6 (.val (.int a)) y8 y9 y10 y11 y12 y13)=.ok (VE S z d3 c L (.val (.int i)) (.val (.int j)) (.val (.int a)) (.val R) y9 y10 y11 y12 y13) from gT3 rfl m5 rfl m6 rfl n8]
  rfl)).trans ?_
 refine(aD (ρ1:=VE S z d4 c L (.val (.int i)) (.val (.int j)) (.val (.int a)) (.val R) (.val (wd b)) y10 y11 y12 y13) (iK (y:=(wd b,VE S z d4 c L (.val (.int i)) (.val (.int j)) (.val (.int a)) (.val R) y9 y10 y11 y12 y13)) (bw (a:=.list [.str "NoPair",.str "NoRow"]) rfl (dM (p:=false) (d:=d3) rfl rfl t4) wx) rfl n9)).trans ?_
 refine(aD (ρ1:=VE S z d4 c L (.val (.int i)) (.val (.int j)) (.val (.int a)) (.val R) (.val (wd b)) (.ow false L) y11 y12 y13) (zdd (d:=L) (by unfold FL.e1;show(iG L).bind _=_;rw [lc];rfl) rfl n10)).trans ?_
 refine(zhR (a:=qZ) (b:=xk)).trans ((aD e5).trans ?_)
 refine(zhR (a:=xl) (b:=s13)).trans ((aD e6).trans ?_)
 refine(aD (ρ1:=VE S z d6 c L (.val p) (.val q) (.val (.int a)) (.val r) (.val (wd b)) (.val B) y (.ob (if b=true then "NoPair" else "NoRow") [.int a]) y13) (show q8 12 iQ (aa (eV 3) (aa (eV 10) ae)) (VE S z d6 c L (.val p) (.val q) (.val (.int a)) (.val r) (.val (wd b)) (.val B) y y12 y13)=_ from zhO (ρ1:=VE S z d6 c L (.val p) (.val q) (.val (.int a)) (.val r) (.val (wd b)) (.val B) y y12 y13) rfl cw rfl n12)).trans ?_
 refine(aD ((gw (tests b)).trans rfl)).trans ?_
 have A3:e2 cv (e1 mw (eC (.int 1))) (aA aX [.m 2,.v (eC (.int 50))]) (VE S z d6 c L (.val p) (.val q) (.val (.int a)) (.val r) (.val (wd b)) (.val B) y (.ob (if b=true then "NoPair" else "NoRow") [.int a]) y13)=.ok (.int (-1-h1),VE S z d7 c L (.val p) (.val q) (.val (.int a)) (.val r) (.val (wd b)) (.val B) y (.ob (if b=true then "NoPair" else "NoRow") [.int a]) y13):=bw (a:=.int (-1)) rfl (dM (p:=false) (d:=d6) rfl rfl t7) rfl
 have A4:e2 ay (eC (.int 7)) (aA aX [.m 2,.v (e2 c9 (eC (.int 10)) (eC (.int 19)))]) (VE S z d7 c L (.val p) (.val q) (.val (.int a)) (.val r) (.val (wd b)) (.val B) y (.ob (if b=true then "NoPair" else "NoRow") [.int a]) y13)=.ok (.int (7+h2),VE S z d8 c L (.val p) (.val q) (.val (.int a)) (.val r) (.val (wd b)) (.val B) y (.ob (if b=true then "NoPair" else "NoRow") [.int a]) y13):=bw rfl (dM (p:=false) (d:=d7) rfl rfl t8) rfl
 have l8:leB 8 lim=true:=by decide
 refine(aD (ρ1:=VE S z d8 c L (.val p) (.val q) (.val (.int a)) (.val r) (.val (wd b)) (.val B) y (.ob (if b=true then "NoPair" else "NoRow") [.int a]) (.val O)) (iK (y:=(O,VE S z d8 c L (.val p) (.val q) (.val (.int a)) (.val r) (.val (wd b)) (.val B) y (.ob (if b=true then "NoPair" else "NoRow") [.int a]) y13)) (by
  rw [<- hO]
  simp only [aV,aa,ae,eC,A3,A4,av,bc,l8,if_true,yg,yB,yP]) rfl n13)).trans ?_
 have B1:e2 aB (eV 13) (aA aX [.m 2,.v (eC (.int 8))]) (VE S z d8 c L (.val p) (.val q) (.val (.int a)) (.val r) (.val (wd b)) (.val B) y (.ob (if b=true then "NoPair" else "NoRow") [.int a]) (.val O))=.ok (x,VE S z d9 c L (.val p) (.val q) (.val (.int a)) (.val r) (.val (wd b)) (.val B) y (.ob (if b=true then "NoPair" else "NoRow") [.int a]) (.val O)):=bw (a:=O) rfl (dM (p:=false) (d:=d8) rfl rfl t9) ex
 have B2:e2 aB (aV (aa (eV 4) (aa (eV 10) (aa (aV ae) ae)))) (aA aX [.m 2,.v (eC (.int 3))]) (VE S z d9 c L (.val p) (.val q) (.val (.int a)) (.val r) (.val (wd b)) (.val B) y (.ob (if b=true then "NoPair" else "NoRow") [.int a]) (.val O))=.ok (Y,VE S z vB c L (.val p) (.val q) (.val (.int a)) (.val r) (.val (wd b)) (.val B) y (.ob (if b=true then "NoPair" else "NoRow") [.int a]) (.val O)):=bw (a:=.list [L,B,.list []]) rfl (dM (p:=false) (d:=d9) rfl rfl t10) eY
 refine(aD (ρ1:=VE S z vB c L (.val p) (.val q) (.val (.int a)) (.val r) (.val (wd b)) (.val B) y (.ob "NoCount" []) (.val O)) (zhO (ρ1:=VE S z vB c L (.val p) (.val q) (.val (.int a)) (.val r) (.val (wd b)) (.val B) y (.ob (if b=true then "NoPair" else "NoRow") [.int a]) (.val O)) (ds:=[x,Y]) (by simp only [aa,ae,B1,B2,av]) cc rfl (zgL _ _))).trans ?_
 exact(gw (fX (bw (zex rfl zjS) rfl (show dn (.str "NoCount") (.str "NoCount")=.ok (.bool false) by kernel_rfl)))).trans rfl
theorem zo5(ns:List Int)(hl:ns.length<=63):rC [.list (ns.map yy)]=.ok (.bool true):=by
 obtain⟨x,ex⟩:=zi7 ns 6 (by decide) (by decide)
 replace ex:uL [.list (ns.map yy),.int 6]=.ok (.int x):=ex
 generalize hS:zG (ns.map yy)=S at ex
 obtain⟨ρ',e,_⟩:=sr (f:=yy) (g:=gN 1) (b:=uH)
  (fun _ ρ=>∃ y1 y2 y3 y4 y5 y6 y7 y8 y9 y10 y11 y12 y13,(Np y1/\Np y2/\Np y3/\Np y4/\Np y5/\Np y6/\Np y7/\Np y8/\Np y9/\Np y10/\Np y11/\Np y12/\Np y13)/\ρ=[.val S,y1,y2,y3,y4,y5,y6,y7,y8,y9,y10,y11,y12,y13])
  (ns.take 6++[x]) [] (.val S::xY 13 .no) ⟨_,_,_,_,_,_,_,_,_,_,_,_,_,⟨cT,cT,cT,cT,cT,cT,cT,cT,cT,cT,cT,cT,cT⟩,rfl⟩ (by
   rintro pre a post ρ _ ⟨y1,y2,y3,y4,y5,y6,y7,y8,y9,y10,y11,y12,y13,⟨n1,n2,n3,n4,n5,n6,n7,n8,n9,n10,qL,n12,n13⟩,rfl⟩
   obtain⟨d,c,L,p,q,a',r,w,B,y,od,ny,e⟩:=zjP (S:=S) (z:=a) n2 n3 n4 n5 n6 n7 n8 n9 n10 qL n12 n13
   exact⟨_,.nx,vm (m3 rfl n1) e,.inl rfl,_,_,_,_,_,_,_,_,_,_,_,_,_,⟨cK _,zpV _,cK _,cK _,cK _,cK _,cK _,cK _,cK _,cK _,ny,zgL _ _,cK _⟩,rfl⟩)
 have sl:iL S none (some 6)=.ok (.list ((ns.take 6).map yy)):=by
  rw [<- hS]
  show R.ok (zG (cut (ns.map yy) none (some ((6:Nat):Int))))=_
  rw [zaT,Cq]
 have ad:ay (.list ((ns.take 6).map yy)) (.list [.int x])=.ok (.list ((ns.take 6++[x]).map yy)):=by
  show bc (leB (((ns.take 6).map yy).length+1) lim) _=_
  rw [eD (by rw [yn,zQ];exact i7 (yx (show _<=7 by omega) (by decide))),Ae];rfl
 have l1:leB 1 lim=true:=by decide
 have s1:xO (.val S::xY 13 .no)=.ok (.nx,ρ'):=by
  have it:iE (e2 ay (cS (eV 0) cZ (c7 (eC (.int 6)))) (aV (aa (aP uL (aa (eV 0) (aa (eC (.int 6)) ae))) ae))) (.val S::xY 13 .no)=.ok ((ns.take 6++[x]).map yy,.val S::xY 13 .no):=by
   simp only [iE,FL.e2,cS,eV,eC,cZ,c7,aV,aa,ae,aP,zz0,av,sl,ex,bc,l1,if_true,yg,yB,yP,ad,i6]
  unfold xO dH
  rw [it,av]
  exact e
 refine ki (ρ:=ρ') rfl ?_
 show vh (.val S::xY 13 .no)=_
 unfold vh
 rw [aD s1]
 rfl
end
end K09
open PySem PySem.W PyProof.Rows
namespace PySem.W.Fast
theorem tw18099436073564730400:True:=trivial
theorem tw17793500606881292576:True:=trivial
theorem tw13730898838687169120:True:=trivial
theorem tw4867868426235763424:True:=trivial
theorem tw1745537371736132416:True:=trivial
theorem tw16929531614382320576:True:=trivial
theorem tw4402152214227583105:True:=trivial
theorem tw17237751902778149505:True:=trivial
theorem tw3936072523102325473:True:=trivial
theorem tw778711275326498882:True:=trivial
theorem tw777922113451522370:True:=trivial
theorem tw15591192262237928194:True:=trivial
theorem tw6120372958693332802:True:=trivial
theorem tw7982143703652395906:True:=trivial
theorem tw12311232811030813602:True:=trivial
theorem tw10185676425369302978:True:=trivial
theorem tw3659730013785156899:True:=trivial
theorem tw15893698097321299875:True:=trivial
theorem tw3444060923339451460:True:=trivial
theorem tw4854443831725176100:True:=trivial
theorem tw9074374946197401316:True:=trivial
theorem tw17412175219139550052:True:=trivial
theorem tw10607029509948081092:True:=trivial
theorem tw15103793980574202981:True:=trivial
theorem tw3198465347875932485:True:=trivial
theorem tw16807194696505453989:True:=trivial
theorem tw3348068080308418501:True:=trivial
theorem tw15759377779956841542:True:=trivial
theorem tw2961443064659111206:True:=trivial
theorem tw7269711455488238918:True:=trivial
theorem tw2231634342577873414:True:=trivial
theorem tw17300702784835895046:True:=trivial
theorem tw11113223669007583078:True:=trivial
theorem tw9999399014575376423:True:=trivial
theorem tw1077206924903806023:True:=trivial
theorem tw1744092799772589255:True:=trivial
theorem tw11640277107817912519:True:=trivial
theorem tw10442451829734876423:True:=trivial
theorem tw11914921347121593767:True:=trivial
theorem tw14198701812578695975:True:=trivial
theorem tw11389222576528011239:True:=trivial
theorem tw2035517067405814856:True:=trivial
theorem tw17415449950348337384:True:=trivial
theorem tw9802349294356312328:True:=trivial
theorem tw5282485261110886984:True:=trivial
theorem tw1322174857962920776:True:=trivial
theorem tw9002351685671436136:True:=trivial
theorem tw2674272207724545129:True:=trivial
theorem tw6677940566804327689:True:=trivial
theorem tw15694610987998207305:True:=trivial
theorem tw7321997658156433801:True:=trivial
theorem tw12945159767062399465:True:=trivial
theorem tw18122850804638864137:True:=trivial
theorem tw14906518701509916457:True:=trivial
theorem tw2028187692608754698:True:=trivial
theorem tw15535892015042236618:True:=trivial
theorem tw16992209682238123274:True:=trivial
theorem tw405657167361162570:True:=trivial
theorem tw9579791988969068906:True:=trivial
theorem tw13889870796124278154:True:=trivial
theorem tw12012486740643426922:True:=trivial
theorem tw8813792397708537642:True:=trivial
theorem tw13526046283434546058:True:=trivial
theorem tw1631133334188123275:True:=trivial
theorem tw13968793301173357867:True:=trivial
theorem tw9386918294276372779:True:=trivial
theorem tw2476468712534102411:True:=trivial
theorem tw2860474295289578987:True:=trivial
theorem tw16669855953624632811:True:=trivial
theorem tw17698593529399779819:True:=trivial
theorem tw17228449861577988779:True:=trivial
theorem tw15334492287886347532:True:=trivial
theorem tw4421544848904035948:True:=trivial
theorem tw12203573939213617709:True:=trivial
theorem tw1465868352979814957:True:=trivial
theorem tw13136699584915390285:True:=trivial
theorem tw12739851384896576365:True:=trivial
theorem tw12005145024620732622:True:=trivial
theorem tw527036998748103982:True:=trivial
theorem tw675689929775417774:True:=trivial
theorem tw18047467198291432495:True:=trivial
theorem tw17033801690969038063:True:=trivial
theorem tw15159795799637997935:True:=trivial
theorem tw14996101071807338863:True:=trivial
theorem tw14513563270243030128:True:=trivial
theorem tw3796450860757010576:True:=trivial
theorem tw40130733031654608:True:=trivial
theorem tw6550569554837780048:True:=trivial
theorem tw1065348878996760977:True:=trivial
theorem tw7464430008391448594:True:=trivial
theorem tw3047162903823031506:True:=trivial
theorem tw18033837407634778866:True:=trivial
theorem tw11387114724724914130:True:=trivial
theorem tw891743594117581810:True:=trivial
theorem tw12515810412638535666:True:=trivial
theorem tw14212080850197149043:True:=trivial
theorem tw8622895346439935571:True:=trivial
theorem tw13066713110275356371:True:=trivial
theorem tw2681208885557034164:True:=trivial
theorem tw13819271503905192180:True:=trivial
theorem tw15368785364060060116:True:=trivial
theorem tw3883176956786050644:True:=trivial
theorem tw15110238702526146164:True:=trivial
theorem tw5747067124851698580:True:=trivial
theorem tw1693114318505631861:True:=trivial
theorem tw1511902999935477941:True:=trivial
theorem tw11426847230178461589:True:=trivial
theorem tw13968001100948221909:True:=trivial
theorem tw17741801562353995765:True:=trivial
theorem tw3653211616175508502:True:=trivial
theorem tw2978480622378776726:True:=trivial
theorem tw9619744237835726294:True:=trivial
theorem tw9138180022565175798:True:=trivial
theorem tw1994691597834115734:True:=trivial
theorem tw18343237933723879254:True:=trivial
theorem tw16972356104884618487:True:=trivial
theorem tw565808393421328727:True:=trivial
theorem tw4180277278310225527:True:=trivial
theorem tw8509660167019088823:True:=trivial
theorem tw4861331729918274584:True:=trivial
theorem tw15346756623565260984:True:=trivial
theorem tw5711115854990777465:True:=trivial
theorem tw4287981251208631449:True:=trivial
theorem tw11627635500507378969:True:=trivial
theorem tw4855789817653278425:True:=trivial
theorem tw542129083212907257:True:=trivial
theorem tw16511716966401175385:True:=trivial
theorem tw7134228831443334778:True:=trivial
theorem tw8906699027412821914:True:=trivial
theorem tw6252184122958413722:True:=trivial
theorem tw15079261492354285851:True:=trivial
theorem tw17451073827381379707:True:=trivial
theorem tw17259668861003271867:True:=trivial
theorem tw15030169533339040475:True:=trivial
theorem tw3014305477508806716:True:=trivial
theorem tw9273102193098408028:True:=trivial
theorem tw5055352134059345180:True:=trivial
theorem tw12295157090738890973:True:=trivial
theorem tw12632507316165447933:True:=trivial
theorem tw18181344457209824797:True:=trivial
theorem tw2949448333185185309:True:=trivial
theorem tw1536625609949224701:True:=trivial
theorem tw6470782983247318013:True:=trivial
theorem tw3468813451360460926:True:=trivial
theorem tw8651380178364841246:True:=trivial
theorem tw1626944534791226686:True:=trivial
theorem tw9523186929817953694:True:=trivial
theorem tw11767019205553314590:True:=trivial
theorem tw1073926580709515038:True:=trivial
theorem tw6114103545190098015:True:=trivial
theorem tw3060725295937304991:True:=trivial
theorem tw4428211182208170591:True:=trivial
theorem tw14834370567060928511:True:=trivial
theorem tw11529310580359736691:True:=trivial
end PySem.W.Fast
set_option maxRecDepth 100000 in
set_option maxHeartbeats 0 in
theorem PySem.Challenge.cw_swaprest_k09_what_is_no_table_holds : PySem.Challenge.rw_swaprest_k09_what_is_no_table.Holds := by
 w_on; o_law; k_head; (case hw => w_witness2)
 k_fill
 refine K09.walk (l:=PySem.Challenge.rw_swaprest_k09_what_is_no_table) K09.zo5 rfl rfl (by decide +kernel) rfl (fun w h Y => PySem.W.kIn_of Y) ?F
 case F =>
  intro w mg fa h KX G hmg
  refine' K09.all_mk KX G hmg ?oo0 ?oo1 ?oo2 ?oo3 ?oo4 ?oo5 ?oo6 ?oo7 ?oo8 ?oo9 ?oo10 ?oo11 ?oo12 ?oo13 ?oo14 ?oo15 ?oo16 ?oo17 ?oo18 ?oo19 ?oo20 ?oo21 ?oo22 ?oo23 ?oo24 ?oo25 ?oo26 ?oo27 ?oo28 ?oo29 ?oo30 ?oo31 ?oo32 ?oo33 ?oo34 ?oo35 ?oo36 ?oo37 ?oo38 ?oo39 ?oo40 ?oo41 ?oo42 ?oo43 ?oo44 ?oo45 ?oo46 ?oo47 ?oo48 ?oo49 ?oo50 ?oo51 ?oo52 ?oo53 ?oo54 ?oo55 ?oo56 ?oo57 ?oo58 ?oo59 ?oo60 ?oo61 ?oo62 ?oo63 ?oo64 ?oo65 ?oo66 ?oo67 ?oo68 ?oo69 ?oo70 ?oo71 ?oo72 ?oo73 ?oo74 ?oo75 ?oo76 ?oo77 ?oo78 ?oo79 ?oo80 ?oo81 ?oo82 ?oo83 ?oo84 ?oo85 ?oo86 ?oo87 ?oo88 ?oo89 ?oo90 ?oo91 ?oo92 ?oo93 ?oo94 ?oo95 ?oo96 ?oo97 ?oo98 ?oo99 ?oo100 ?oo101 ?oo102 ?oo103 ?oo104 ?oo105 ?oo106 ?oo107 ?oo108 ?oo109 ?oo110 ?oo111 ?oo112 ?oo113 ?oo114 ?oo115 ?oo116 ?oo117 ?oo118 ?oo119 ?oo120 ?oo121 ?oo122 ?oo123 ?oo124 ?oo125 ?oo126 ?oo127 ?oo128 ?oo129 ?oo130 ?oo131 ?oo132 ?oo133 ?oo134 ?oo135 ?oo136 ?oo137 ?oo138 ?oo139 ?oo140 ?oo141 ?oo142 ?oo143 ?oo144 ?oo145 ?oo146 ?oo147 ?oo148 ?oo149 ?oo150 ?oo151 ?oo152 ?oo153 ?oo154 ?oo155 ?oo156 ?oo157 ?oo158 ?oo159 ?oo160 ?oo161 ?oo162 ?oo163 ?oo164 ?oo165 ?oo166 ?oo167 ?oo168 ?oo169 ?oo170 ?oo171 ?oo172 ?oo173 ?oo174 ?oo175 ?oo176 ?oo177 ?oo178 ?oo179 ?oo180 ?oo181 ?oo182 ?oo183 ?oo184 ?oo185 ?oo186 ?oo187 ?oo188 ?oo189 ?oo190 ?oo191 ?oo192 ?oo193 ?oo194 ?oo195 ?oo196 ?oo197 ?oo198 ?oo199 ?oo200 ?oo201 ?oo202 ?oo203 ?oo204 ?oo205 ?oo206 ?oo207 ?oo208 ?oo209 ?oo210 ?oo211 ?oo212 ?oo213 ?oo214 ?oo215 ?oo216 ?oo217 ?oo218
  (case oo0 | oo1 | oo2 | oo3 | oo4 | oo5 | oo6 | oo7 | oo8 | oo9 | oo10 | oo11 | oo12 | oo13 | oo14 | oo15 | oo16 | oo17 | oo18 | oo19 | oo20 | oo21 => refine' FL.zl6 KX G ?Zq ?Zl ?Zc ?Zk; (case Zq => k_is); (case Zl => k_is); (case Zc => k_is); (case Zk => k_is))
  (case oo22 | oo23 | oo24 | oo25 | oo26 | oo27 | oo28 | oo29 | oo30 | oo31 | oo32 | oo33 | oo34 | oo35 | oo36 | oo37 | oo38 | oo39 | oo40 | oo41 | oo42 | oo43 | oo44 | oo45 | oo46 | oo47 | oo48 | oo49 | oo50 | oo51 | oo52 | oo53 | oo54 | oo55 | oo56 | oo57 | oo58 | oo59 | oo60 | oo61 | oo62 | oo63 | oo64 | oo65 | oo66 | oo67 | oo68 | oo69 | oo70 | oo71 | oo72 | oo73 | oo74 | oo75 | oo76 | oo77 | oo78 | oo79 | oo80 | oo81 | oo82 | oo83 | oo84 | oo85 | oo86 | oo87 | oo88 | oo89 | oo90 | oo91 | oo92 | oo93 | oo94 | oo95 | oo98 | oo99 | oo100 | oo101 | oo102 | oo132 | oo133 | oo134 | oo135 | oo136 | oo137 | oo138 | oo139 | oo140 | oo141 | oo142 | oo145 | oo146 | oo147 | oo148 | oo149 | oo179 | oo180 | oo181 | oo182 | oo183 | oo184 | oo215 | oo216 | oo218 => k_is)
  (case oo185 | oo217 => first | exact .inl (by k_exc) | exact .inr (by k_exc))
  (case oo97 | oo144 => first | exact .inl rfl | exact .inr rfl)
  (case oo103 | oo104 | oo105 | oo106 | oo107 | oo108 | oo109 | oo110 | oo111 | oo112 | oo113 | oo114 | oo115 | oo116 | oo117 | oo118 | oo119 | oo120 | oo121 | oo122 | oo123 | oo124 | oo125 | oo126 | oo127 | oo128 | oo129 | oo130 | oo131 | oo150 | oo151 | oo152 | oo153 | oo154 | oo155 | oo156 | oo157 | oo158 | oo159 | oo160 | oo161 | oo162 | oo163 | oo164 | oo165 | oo166 | oo167 | oo168 | oo169 | oo170 | oo171 | oo172 | oo173 | oo174 | oo175 | oo176 | oo177 | oo178 | oo186 | oo187 | oo188 | oo189 | oo190 | oo191 | oo192 | oo193 | oo194 | oo195 | oo196 | oo197 | oo198 | oo199 | oo200 | oo201 | oo202 | oo203 | oo204 | oo205 | oo206 | oo207 | oo208 | oo209 | oo210 | oo211 | oo212 | oo213 | oo214 => kit_is)
  (case oo96 | oo143 => rfl)
