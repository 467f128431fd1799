import PyProof.Rows.All
import Wide.All
import OpenK.AllK
import Wide.FinOn
import Lean
import PyProof.EqAt
import PyProof.EqKinds
import PyProof.TupleCall
import PyProof.EqLayable
import PyProof.StationsW
import PyProof.NsDelKeeps
import PyProof.ExcArgsOwn
import PyProof.ExcAttrAll.ValueError
import PyProof.ZipIter
import PyProof.EnumFor
import PyProof.EnumStmt
import PyProof.EnumMake
import PyProof.ConsumeWalk
import PyProof.Cells
import PyProof.CompUse
import PyProof.DictIter
import PyProof.DictWalks
import PyProof.CollectWalk
import PyProof.WalksS
import PyProof.P3Statements
import PyProof.DictRoadsH
import KE.KSortTup
import PyProof.P3In
import KE.KRevSl
import PyProof.ReprReads
import KE.KMinKey
import PyProof.ReprRoads
import PyProof.Conv_int_bool
import PyProof.AutoListH
import PyProof.StrCalls
import PyProof.StrCalls2
import PyProof.MeetsStr
import PyProof.StrBlock
import PyProof.FString
import PyProof.StrBlockI
import KE.KIntText
import PyProof.StrWalks
import PyProof.TupleIter
import PyProof.AttrMissHeap
import PyProof.InstStoreFacts
import PySem.Challenge.RW_swaprest_k13_loose_tables
set_option Elab.async false
set_option linter.all false
set_option maxRecDepth 100000
set_option maxHeartbeats 4000000
open PySem renaming Addr→dm,Value→gV,Str→ir,Shared→kb,wpAny_bind→yg,Expr→yh,starEach→yi,wpAny→yj,model→ym,Pos→yn,Heap→yo,Obj→yp,wpAny_pure→yt,eval→yu,World→yv,Program→yw,Stmt→yx,Around→yy,sizeLine→yz,mainGlobals→yB,Env→yC,Spec→yD,compareOp→yG,PyData→yI,backTo→yJ,FuncData→yL,Tok→yP,Scope→yT,cLine→zb,bootBuiltins→zj,Sem→zk,wpAny_mono→zo,IsPair→zr,swapsWith→zB,sizeLine_eq→zC,wpAny_holding→zH,foldedSetIterable→zI,wpAny_field→zM,rawInt→zY,binaryOp→zZ,IsZip→z0,assignEach→Ae,NameKind→Af,Builtin→Ah,holding→Ak,wpAny_newObj_type→Al,assign→Au,CmpOp→Av,codeAny→Aw,bindArgs→Ax,standAt→AG,pyNext→AH,sysModules→AW,tupleKind→AX,cellsFrom→A0,wpAny_call_entry→A2,atKey→A6,DictEntry→A7,Paired→A9,behindInMarks→Bc,mem_of_lookup→Be,IsPart→Bh,getItem→Bi,wpAny_standAt→Bo,wpAny_rule→Bz,wpAny_callSpecial?_slot→BA,wpAny_seqItems→BF,wpAny_truthy_bool→BM,swapsWithSole→BO,swappedStores→BP,wpAny_passesOwn→BQ,sliceBounds→BX,callerA→BZ,wpAny_setField→B2,relabel→B5,wpAny_execs_nil→Cm,getMethod→Cq,attributeBase→Cr,BindsTo→Ct,backToKw→Cu,keywordEach→Cv,wpAny_loadPart'→Cw,call_meets→CA,noteFrame→CD,Fin→CF,wpAny_setField_rec→CQ,bindName→CW,PassesOwn→CZ,codeAny_mono→C5,wpAny_Call_Name_kw→C6,wpAny_typeOf→C7,typeIs_int→C9,tupleKind_room_in1→Dg,wpAny_eqBool_int→Ds,builtinsNs→Dt,letOwnedTupleGo→Du,wpAny_loadPart→Dx,concat_meets→DC,subscripted→DK,wpAny_specialOf→DV,wpAny_pyIter_list→DW,wpAny_pyIter_zip→DX,wpAny_attempt→D5,wpAny_typeNameOfWhole_keyiter→D6,wpAny_typeNameOf_keyiter→D7,firstArgMember→D9,wpAny_onRaise→Eh,Within→Er,wpAny_execs_cons→Eu,assignInOrder→Ew,recursionLimit→ED,noFill_tuple_add→EH,seq_tuple_add→EI,call→EX,Comprehension→E7,comprehension→E8,wpAny_dictEntries→Fi,wpAny_dictEpoch→Fj,wpAny_isInstance→Fm,wpAny_newList→Fv,wpAny_updateSeq_pair→Fw,wpAny_binaryOp_repeat_ref→FW,wpAny_letOwnedTupleGo_zip→F5
open PySem.W renaming Frag→yf,nsIn→yF,kitOne→yR,mg_of→yV,fnOf→zD,findIn→zE,mg_none_of→zO,excIn→Ap,clsIn→Aq,keepIn→AJ,subIn→A5,codeIn→Bf,emptyDict→Bp,instObj→Bw,InstAt→BR,kia_one→B1,Looks→B4,kas_rev→Cd,isFn→Cp,plainGet→C1,typeIn→C2,lookIn→Dv,hasDictIn→Dw,looks_findIn→Dy,callWith_K→DA,mroIn→DU,methodObj→Et,plainGet_of→Ez,plainOver→EA,takerIn→EB,makesIn→EC,looks_subIn→E2,OpenLaw→Fq,nsOkIn→Fx,tailIn→Fy,handedIn→FI,methodCall_KW→FJ,cellsFrom_some→FK
open List.Mem renaming tail→yk,head→zW
open List renaming replicate→yq,mem_cons→yH,length_cons→yK,lookup_cons→yN,getElem?_eq_getElem→yO,getElem?_eq_some_iff→yQ,size_toArray→yU,mem_cons_of_mem→yY,getElem?_set_ne→yZ,length_map→za,getElem?_set_self→zg,map_cons→zh,mem_cons_self→zm,getElem?_map→zv,length_nil→zx,zipWith→zG,getElem?_append_left→zK,cons_append→zN,nil_append→zQ,all_eq_true→zR,not_mem_nil→zS,set_cons_zero→zT,set_cons_succ→zU,range→z9,getElem?_replicate→Aa,mem_of_getElem?→Ag,getD_eq_getElem?_getD→Aj,append_nil→Am,mem_map→As,getElem?_append_right→Ay,mem_append_right→AI,nodup_cons→AZ,length_replicate→A1,length_set→A3,toArray→A8,zip_cons_cons→Bg,replicate_succ→Bj,length_append→Br,filterMap_cons→Bx,mem_append→BL,lookup→BU,of_mem_zip→BV,mem_append_left→Ci,flatten_cons→Cz,find?_cons→CG,range'→CM,map_map→CO,mem_range→CV,foldl→Dc,mem_singleton→De,length_range→Dk,pairwise_cons→Dq,length_take→DB,map_nil→DI,forIn_cons→DM,forIn_nil→DS,getD→DZ,getElem?_eq_none→D4,length_zip→Ef,head?_cons→El,getElem?_cons_zero→Ep,mem_filterMap→Ey,take_of_length_le→EY,drop_eq_getElem_cons→E4,ext_getElem→Fo,pairwise_iff_getElem→Fp,eq_of_mem_replicate→Fu,lookup_nil→FD,length_singleton→FU,take_succ_cons→F4,countP_cons_of_neg→Gi,toList_toArray→Gw
open Int renaming gcd→yr,ediv_mul_cancel→Ab,mul_assoc→Bl,natAbs_natCast→BD,gcd_dvd_right→B6,mul_comm→B7,natAbs_mul→B8,ne_of_gt→B9,dvd_trans→Cb,gcd_dvd_left→CH,mul_pos→CI,ediv_neg→Dh,natAbs_ediv_le_natAbs→Di,toNat_natCast→D8,fmod_nonneg_of_pos→Ej,gcd_pos_of_ne_zero_right→Fc,lt_trichotomy→Fd,natAbs_dvd_natAbs→Fe,fmod_lt_of_pos→FA,mul_neg_of_neg_of_pos→F7,eq_of_mul_eq_mul_right→F8,dvd_mul_of_dvd_right→F9
open Nat renaming le_refl→yA,ne_of_lt→yX,lt_of_lt_of_le→zu,le_trans→zA,zero_le→zJ,reduceAdd→zX,le_of_ble_eq_true→Ad,ne_of_gt→AY,reduceSub→BG,lt_irrefl→BJ,le_of_lt→BK,lt_of_le_of_lt→CB,gcd→CJ,zero_add→CK,le_of_eq→C3,lt_succ_self→C4,mul_comm→Dd,le_of_succ_le→Df,le_add_right→DY,not_lt→D0,min_self→Ee,sub_self→Ek,add_comm→EW,lt_succ_of_lt→E9,gcd_comm→Ff,pow_le_pow_right→Fg,pos_of_ne_zero→FC,add_sub_cancel_left→Gh
open PySem.Heap renaming lt_size→yE,get?_push_of_some→yM,get?_push_size→y9,size_push→AK,get?_none_of_le→Bm,SameBut→By,get?_update_other→BW,get?_update_self→C8,ExtBut→E5
open PySem.Value renaming ref→yS,none→yW,bool→AV,int→Bv,str→Ce,type→Cg,notImplemented→FP
open PyProof.Rows renaming envOfC→zc,seqObj→zV,IntsAre→An,IsTup→Ba,AllBare→Bb,slot_tuple_getitem→Cy,callWith_type1→C0,listUpdate_at→Dp,subscriptTail→DJ,get?_update_seq→Ed,assignInOrder_cons→Ex
open Bool renaming and_eq_true→zf,false_eq_true→zy,false_ne_true→zL,not_true→DT,or_eq_true→D1
open PySem.PyData renaming int→zi,bool→AQ,eqv→A4,none→CN,list→CP,canLay0→Dj,eqvAll→Dr,canLayAll0→D3
open Ne renaming symm→zq
open Option.some renaming inj→zt,injEq→Ac
open PySem.Obj renaming mapSeq→zF,data_mapFields→B3,isFreed_of_fields→DQ,mapFields→DR,cls_mapFields→EZ
open False renaming elim→zP
open PySem.NameKind renaming cell→Ai,free→Bs
open PySem.SeqAt renaming shaped→Ao,canLay_of_shaped→AU,EqAt→EG
open Or renaming inr→Az,inl→AO,resolve_right→Ft
open Option renaming map_eq_some_iff→AA,map_some→AB,bind_eq_some_iff→AD,isSome_map→Fb,isSome_iff_exists→FN,isSome_some→F6
open Iff renaming rfl→AR
open True renaming intro→Bq
open PySem.Heap.SameBut renaming update→Bu,refl→F3
open PySem.Str renaming ofString→BC
open PySem.Builtin.SmallTypes renaming nextOf→BE,ownedTupleIsFree→GA
open Sum renaming inl→BH,inr→BI
open Array renaming length_toList→Cj,getElem?_eq_some_iff→DN,getD→Ea,perm_iff_toList_perm→Ec,getElem?_eq_getElem→E6
open ForInStep renaming yield→CC
open PySem.Paired renaming length→CU
open PyProof.Rows.IsTup renaming new→CY
open PySem.F renaming slot_dict_keyiterator_next→Dl,slot_tuple_iterator_next→Eg,slot_zip_next→Ei,slot_tuple_add→EJ,entry_tuple_add→EK,args_tuple_add_2→EL,excBase_ValueError→E1,slot_tuple_mul→Fh,attrBase_ValueError→F0,slot_tuple_rmul→Ga,slot_int_rmul→Gg,entry_dict_keyiterator_next→Gm,args_dict_keyiterator_next_1→Gn,slot_dict_getitem→Gq,entry_tuple_iterator_next→Gy,args_tuple_iterator_next_1→Gz
open PySem.W.KasT renaming kasWp_bind→Dm
open PySem.Around renaming under→Dz,under_plainId→Gs
open Prod renaming ext→DE
open PySem.Builtin.Slice renaming slicePlaces→DF,sliceAdjust→ER,sliceApplied→FQ
open PySem.Builtin.Tuple renaming tupleExact→DH,tupleItemsOf→FR,tupleTooMany→Gb,tupleIsExact→Ge
open PySem.Builtin.Int renaming intBits→DL,intTooBig→FY
open Rat renaming normalize→D2
open Prod.mk renaming inj→Eo
open PySem.Code renaming isFrame→EE
open PySem.Builtin.List renaming listTooLong→EV,listSameRef→Gu,listExtendWith→Gv
open PySem.PassesOwn renaming never→Fs
open PySem.SeqAt.EqAt renaming int_str→FE,str_int→FG,int_int→FO
open PySem.Calls renaming Name_function_global→FH,evalArgs_plain→FT,call_function_entry→Gx
open List.Pairwise renaming nil→FX
open PySem.EntryCells renaming newEntry→FZ
open PySem.Builtin.Dict renaming showsAll→Gj
open PySem.Builtin.Dict_items renaming ownsTuple→Gp
open Array.Perm renaming refl→Gr
set_option bootstrap.genMatcherCode false
noncomputable section
namespace L2
open PySem PySem.Spec PyProof.Rows
section
abbrev Key:=Sum Int ir
noncomputable def qu:Key->gV->Bool
 | .inl k,v=>Value.isInt k v
 | .inr x,v=>Value.isStrOf x v
noncomputable def zq1(w:yv):Key->Int
 | .inl k=>hashInt k
 | .inr x=>hashStr w x
theorem kP:∀{k:Key} {v:gV},qu k v=true->(∃ i t,k=BH i/\v=Bv i t)\/(∃ x t,k=BI x/\v=Ce x t)
 | .inl i,v,h=>by
  obtain⟨t,e⟩:=Value.isInt_shape (k:=i) (v:=v) h;exact .inl ⟨i,t,rfl,e⟩
 | .inr x,v,h=>by
  obtain⟨t,e⟩:=Value.isStrOf_shape (x:=x) (v:=v) h;exact .inr ⟨x,t,rfl,e⟩
theorem zq2(i:Int)(t:yP):qu (.inl i) (.int i t)=true:=by simp[qu,Value.isInt]
theorem zq3(x:ir)(t:yP):qu (.inr x) (.str x t)=true:=by simp[qu,Value.isStrOf]
theorem zq4(a b:Int):decide ((BH a:Key)=BH b)=(a==b):=by
 by_cases e:a=b
 ·subst e;simp
 ·have h:¬ (BH a:Key)=BH b:=fun q=>e (Sum.inl.inj q)
  rw[decide_eq_false h];exact(beq_eq_false_iff_ne.mpr e).symm
theorem zq7(a b:ir):decide ((BI a:Key)=BI b)=decide (a=b):=by
 by_cases e:a=b
 ·subst e;simp
 ·have h:¬ (BI a:Key)=BI b:=fun q=>e (Sum.inr.inj q)
  rw[decide_eq_false h,decide_eq_false e]
theorem zq5(a:Int)(b:ir):decide ((BH a:Key)=BI b)=false:=decide_eq_false (fun q=>nomatch q)
theorem zq6(a:ir)(b:Int):decide ((BI a:Key)=BH b)=false:=decide_eq_false (fun q=>nomatch q)
def gf(prog:yw)(w:yv):PySem.KeyKind prog w Key where
 is:=qu
 hash:=zq1 w
 inj:=fun v a b ha hb=>by
  rcases kP ha with⟨i,t,rfl,rfl⟩|⟨x,t,rfl,rfl⟩
  ·rcases kP hb with⟨j,u,rfl,e⟩|⟨y,u,rfl,e⟩
   ·injection e with e1 _;rw[e1]
   ·exact nomatch e
  ·rcases kP hb with⟨j,u,rfl,e⟩|⟨y,u,rfl,e⟩
   ·exact nomatch e
   ·injection e with e1 _;rw[e1]
 byValue:=fun k v h=>by
  rcases kP h with⟨i,t,rfl,rfl⟩|⟨x,t,rfl,rfl⟩ <;> rfl
 pyHash:=fun hv h=>by
  rcases kP hv with⟨i,t,rfl,rfl⟩|⟨x,t,rfl,rfl⟩
  ·exact wpAny_pyHash_int h
  ·exact wpAny_pyHash_str h
 eqBool:=fun hu hv h=>by
  rcases kP hu with⟨i,t,rfl,rfl⟩|⟨x,t,rfl,rfl⟩
  ·rcases kP hv with⟨j,u,rfl,rfl⟩|⟨y,u,rfl,rfl⟩
   ·rw[zq4]at h;exact Ds h
   ·rw[zq5]at h;exact FE i t y u _ _ _ _ h
  ·rcases kP hv with⟨j,u,rfl,rfl⟩|⟨y,u,rfl,rfl⟩
   ·rw[zq6]at h;exact FG x t j u _ _ _ _ h
   ·rw[zq7]at h;exact wpAny_eqBool_str h
 «strs»:=fun k x t v h=>by
  rcases kP h with⟨i,u,rfl,e⟩|⟨y,u,rfl,e⟩
  ·exact nomatch e
  ·injection e with e1 _
   subst e1;cases v <;> rfl
theorem zsA(prog:yw)(w:yv)(i:Int)(t:yP):(gf prog w).is (.inl i) (.int i t)=true:=zq2 i t
theorem zsB(prog:yw)(w:yv)(x:ir)(t:yP):(gf prog w).is (.inr x) (.str x t)=true:=zq3 x t
end
variable {P:yw}{a b e x:dm}{H H':Hp}{o o' u:HO}{w:yv}{h h':yo}{ob:yp}{us:List gV}{xs:List V}
section
inductive V where
 | non|bl(b:Bool)|int(i:Int)|str(x:ir)|byt(b:Array UInt8)|flt(b:UInt64)|ref(a:dm)|ty(n:String)
 deriving DecidableEq
noncomputable def RelV:V->gV->Prop
 | .non,u=>u=yW
 | .bl b,u=>u=AV b
 | .int i,u=>∃ t,u=Bv i t
 | .str x,u=>∃ t,u=Ce x t
 | .byt b,u=>∃ t,u=Value.bytes b t
 | .flt b,u=>∃ t,u=Value.float b t
 | .ref a,u=>u=yS a
 | .ty n,u=>u=Cg n
abbrev Vals:List V->List gV->Prop:=A9 RelV
theorem Vals.length(r:Vals xs us):xs.length=us.length:=CU r
theorem Vals.get:∀{xs:List V} {us:List gV} {i:Nat} {x:V},Vals xs us->xs[i]?=some x->∃ u,us[i]?=some u/\RelV x u
 | _,_,_,_,.nil,e=>by simp at e
 | _,_,0,_,.cons r _,e=>by simp at e;subst e;exact⟨_,rfl,r⟩
 | _,_,i+1,x,.cons _ t,e=>by
  obtain⟨u,h1,h2⟩:=Vals.get (i:=i) (x:=x) t (by simpa using e);exact⟨u,by simpa using h1,h2⟩
theorem Vals.set{x:V}{u:gV}(r:RelV x u):∀{xs:List V} {us:List gV} (i:Nat),Vals xs us->Vals (xs.set i x) (us.set i u)
 | _,_,_,.nil=>.nil
 | _,_,0,.cons _ t=>.cons r t
 | _,_,i+1,.cons q t=>.cons q (Vals.set r i t)
theorem Vals.append:∀{xs ys:List V} {us ws:List gV},Vals xs us->Vals ys ws->Vals (xs++ys) (us++ws)
 | _,_,_,_,.nil,s=>s
 | _,_,_,_,.cons r t,s=>.cons r (Vals.append t s)
theorem Vals.take:∀{xs:List V} {us:List gV} (n:Nat),Vals xs us->Vals (xs.take n) (us.take n)
 | _,_,0,_=>.nil
 | _,_,_+1,.nil=>.nil
 | _,_,n+1,.cons r t=>.cons r (Vals.take n t)
theorem Vals.drop:∀{xs:List V} {us:List gV} (n:Nat),Vals xs us->Vals (xs.drop n) (us.drop n)
 | _,_,0,r=>r
 | _,_,_+1,.nil=>.nil
 | _,_,n+1,.cons _ t=>Vals.drop n t
def gE:Option V->Option gV->Prop
 | some v,some u=>RelV v u
 | none,none=>True
 | _,_=>False
def KV{κ:Type}:List (κ×V)->List (κ×gV)->Prop:=A9 fun(p:κ×V) (q:κ×gV)=>p.1=q.1/\RelV p.2 q.2
noncomputable def kV:Key->V
 | .inl i=>.int i
 | .inr x=>.str x
inductive HO where
 /-- a list -/
 | lst(xs:List V)
 /-- a tuple(never changes) -/
 | tup(xs:List V)
 /-- a dict whose keys are ints and texts;one whose keys are tuples of ints and texts(the empty one is both) -/
 | dK(ag:List (Key×V))|dT(ag:List (List Key×V))
 /-- a set of ints: its members,its size -/
 | set (S:Int->Bool) (n:Nat)
 /-- an instance of the class at C,its dict at dx,its attributes -/
 | ins (C dx:dm) (fs:List (ir×V))
 /-- the dict of the instance at x -/
 | own (x:dm)
 /-- the dict of an exception -/
 | xd (fs:List (ir×V))
 /-- a bound method,f of x -/
 | met (f x:dm)
 /-- a range object lo,lo+1,.. below hi -/
 | eM (lo hi:Int)
 /-- a thing that is known to the object (the script;a dict while a loop walks it): read,never written while it is so -/
 | frz (o:yp) (u:HO)
 /-- a code object's table -/
 | fg (ps:Array gV)
 /-- any other thing,by what is true of its one object (a def of one's own: SetO a S n:=HO.ext fun h=>..) -/
 | ext (φ:yo->Prop)
abbrev Hp:=dm->Option HO
noncomputable def upd(H:Hp)(a:dm)(o:HO):Hp:=fun b=>if b=a then some o else H b
theorem ck:upd H a o a=some o:=by unfold upd;rw[if_pos rfl]
theorem aN(h:b≠a):upd H a o b=H b:=by unfold upd;rw[if_neg h]
theorem zye:upd (upd H a o) a u=upd H a u:=by
 funext b;unfold upd;split <;> rfl
theorem wK(h:H a=some o)(h':H b=some u)(d:o≠u):a≠b:=by
 intro e;subst e;rw[h]at h';exact d (zt h')
theorem oM(h:H a=some o)(h':H b=none):a≠b:=by
 intro e;subst e;rw[h]at h';cases h'
def dB(H:Hp)(b:dm)(xs:List V):Prop:=H b=some (.tup xs)\/∃ o,H b=some (.frz o (.tup xs))
theorem dB.upd(q:dB H b xs)(n1:∀ ys,H b=some (.tup ys)->b≠a)(n2:∀ o ys,H b=some (.frz o (.tup ys))->b≠a):dB (upd H a u) b xs:=by
 rcases q with q|⟨o,q⟩
 ·left;rw[aN (n1 _ q)];exact q
 ·right;exact⟨o,by rw[aN (n2 _ _ q)];exact q⟩
section
variable (P:yw)(w:yv)
def de(H:Hp)(h:yo)(a:dm):HO->Prop
 | .lst xs=>xs.length<=yz/\∃(its:List gV) (n:Nat),Vals xs its/\h.get? a=some { cls:=.type "list",data:=.seq its.toArray n }
 | .tup xs=>xs.length<=yz/\∃ its:List gV,Vals xs its/\Ba h a its.toArray
 | .dK ag=>ag.length<=yz/\(a==AW)=false/\∃ vs,KV ag vs/\h.DictOf (gf P w) a vs
 | .dT ag=>ag.length<=yz/\(a==AW)=false/\∃ xs:List (List Key×dm×gV),
   A9 (fun(p:List Key×V) (q:List Key×dm×gV)=>p.1=q.1/\dB H q.2.1 (p.1.map kV)/\RelV p.2 q.2.2) ag xs /\
   ∃ o es ep,h.get? a=some o/\o.ExactDict/\o.data=.dict es ep/\es.toList=xs.map (entryOfKey (AX (gf P w)))/\(xs.map (·.1)).Nodup
 | .set S n=>h.SetOf (intKind P w) a S n
 | .ins C dx fs=>H dx=some (.own a)/\fs.length<=1000/\dx≠a/\h.get? a=some (Bw C dx) /\
   ∃ mA,h.Ns1 dx mA/\(∀ f,gE (fs.lookup f) (mA f))/\Er mA (fs.map (·.1))
 | .own _=>∃ o,h.get? a=some o
 | .xd fs=>∃ mA,h.Ns1 a mA/\∀ f,gE (fs.lookup f) (mA f)
 | .eM lo hi=>∃ t u v,h.get? a=some { cls:=.type "range",data:=.fields #[.int lo t,.int hi u,.int 1 v] }
 | .frz o u=>h.get? a=some o/\de H h a u
 | .fg ps=>h.get? a=some { cls:=.none,data:=.fields ps }
 | .met f x=>h.get? a=some (Et (.ref f) (.ref x))
 | .ext φ=>φ h/\(∃ o,h.get? a=some o)/\∀ h1 h2:yo,φ h1->(∀ o,h1.get? a=some o->h2.get? a=some o)->φ h2
def cB(H:Hp)(h:yo):Prop:=∀ a o,H a=some o->de P w H h a o
end
section
theorem de.lt(x:de P w H h a o):a<h.objs.size:=by
 cases o with
 | lst xs=>obtain⟨_,_,_,_,e⟩:=x;exact yE e
 | tup xs=>obtain⟨_,_,_,p⟩:=x;exact p.lt
 | dK ag=>obtain⟨_,_,_,_,o,_,_,e,_⟩:=x;exact yE e
 | dT ag=>obtain⟨_,_,_,_,o,_,_,e,_⟩:=x;exact yE e
 | set S n=>obtain⟨o,_,_,_,e,_⟩:=x;exact yE e
 | ins C dx fs=>obtain⟨_,_,_,e,_⟩:=x;exact yE e
 | own y=>obtain⟨_,e⟩:=x;exact yE e
 | xd fs=>obtain⟨_,⟨_,_,_,e,_⟩,_⟩:=x;exact yE e
 | eM lo hi=>obtain⟨_,_,_,e⟩:=x;exact yE e
 | frz ob u=>obtain⟨e,_⟩:=x;exact yE e
 | fg ps=>exact yE (show h.get? a=some _ from x)
 | met f y=>exact yE (show h.get? a=some _ from x)
 | ext φ=>obtain⟨_,⟨_,e⟩,_⟩:=x;exact yE e
theorem A9.zdy{α β:Type}{F G:α->β->Prop}:∀{l₁:List α} {l₂:List β},A9 F l₁ l₂->(∀ a b,F a b->G a b)->A9 G l₁ l₂
 | _,_,.nil,_=>.nil
 | _,_,.cons r t,f=>.cons (f _ _ r) (A9.zdy t f)
theorem de.jh(x:de P w H h a o)(k:∀ b u,(b=a\/H b=some (.own a))->h.get? b=some u->h'.get? b=some u)
  (ho:∀ b,H b=some (.own a)->H' b=some (.own a))(ht:∀ b xs,dB H b xs->dB H' b xs):de P w H' h' a o:=by
 induction o with
 | lst xs=>obtain⟨z,its,n,r,e⟩:=x;exact⟨z,its,n,r,k _ _ (.inl rfl) e⟩
 | tup xs=>obtain⟨z,its,r,ob,e,c⟩:=x;exact⟨z,its,r,ob,k _ _ (.inl rfl) e,c⟩
 | dK ag=>obtain⟨z,y,vs,r,ob,es,ep,e,c⟩:=x;exact⟨z,y,vs,r,ob,es,ep,k _ _ (.inl rfl) e,c⟩
 | dT ag =>
  obtain⟨z,y,xs,r,ob,es,ep,e,c⟩:=x;exact⟨z,y,xs,A9.zdy r fun p q z=>⟨z.1,ht _ _ z.2.1,z.2.2⟩,ob,es,ep,k _ _ (.inl rfl) e,c⟩
 | set S n=>obtain⟨ob,es,ep,t,e,c⟩:=x;exact⟨ob,es,ep,t,k _ _ (.inl rfl) e,c⟩
 | ins C dx fs =>
  obtain⟨d,z,ne,e,mA,⟨od,es,ep,e2,c⟩,r⟩:=x;exact⟨ho _ d,z,ne,k _ _ (.inl rfl) e,mA,⟨od,es,ep,k _ _ (.inr d) e2,c⟩,r⟩
 | own y=>obtain⟨ob,e⟩:=x;exact⟨ob,k _ _ (.inl rfl) e⟩
 | xd fs=>obtain⟨mA,⟨od,es,ep,e,c⟩,r⟩:=x;exact⟨mA,⟨od,es,ep,k _ _ (.inl rfl) e,c⟩,r⟩
 | eM lo hi=>obtain⟨t,u,v,e⟩:=x;exact⟨t,u,v,k _ _ (.inl rfl) e⟩
 | frz ob u ih=>obtain⟨e,q⟩:=x;exact⟨k _ _ (.inl rfl) e,ih q⟩
 | fg ps =>
  have e:h.get? a=some { cls:=.none,data:=.fields ps }:=x;show h'.get? a=some { cls:=.none,data:=.fields ps };exact k a _ (.inl rfl) e
 | met f y =>
  have e:h.get? a=some (Et (.ref f) (.ref y)):=x;show h'.get? a=some (Et (.ref f) (.ref y));exact k a _ (.inl rfl) e
 | ext φ=>obtain⟨p,⟨o,e⟩,st⟩:=x;exact⟨st _ _ p fun o q=>k _ _ (.inl rfl) q,⟨o,k _ _ (.inl rfl) e⟩,st⟩
theorem cB.lt(x:cB P w H h)(e:H a=some o):a<h.objs.size:=(x a o e).lt
theorem cB.fresh(x:cB P w H h)(e:h.objs.size<=a):H a=none:=by
 cases q:H a with
 | none=>rfl
 | some u=>exact absurd (zu (x.lt q) e) (BJ _)
theorem cB.kept(x:cB P w H h)(k:∀ b u,h.get? b=some u->h'.get? b=some u):cB P w H h':=fun a o e =>
 (x a o e).jh (fun b u _ q=>k b u q) (fun _ q=>q) fun _ _ q=>q
theorem cB.laid(x:cB P w H h)(k:∀ b u,h.get? b=some u->h'.get? b=some u)(hp:h.objs.size<=a)(new:de P w (upd H a o) h' a o):cB P w (upd H a o) h':=fun b u e=>by
 have hn:=x.fresh hp
 by_cases hb:b=a
 ·subst hb;rw[ck]at e;cases e;exact new
 ·rw[aN hb]at e
  exact(x b u e).jh (fun c v _ q=>k c v q) (fun c q=>by rw[aN (oM q hn)];exact q) fun c xs q=>q.upd (fun _ r=>oM r hn) fun _ _ r=>oM r hn
end
def Rd(H:Hp)(a:dm)(u:HO):Prop:=H a=some u\/∃ o,H a=some (.frz o u)
theorem Rd.ok(r:Rd H a u)(x:cB P w H h):de P w H h a u:=by
 rcases r with r|⟨o,r⟩
 ·exact x a u r
 ·obtain⟨_,q⟩:=x a _ r
  exact q
noncomputable def rK:Option HO->Prop
 | some (.lst _)=>True
 | some (.dK _)=>True
 | some (.dT _)=>True
 | some (.set _ _)=>True
 | some (.ins _ _ _)=>True
 | some (.ext _)=>True
 | _=>False
section
theorem cB.write(ok:cB P w H h)(mu:rK (H x))(he:e=x\/H e=some (.own x))(k:∀ b u,b≠e->h.get? b=some u->h'.get? b=some u)(qk:∃ u,h'.get? e=some u)
  (new:de P w (upd H x o') h' x o'):cB P w (upd H x o') h':=fun b u q=>by
 have zjJ:∀ c y,H c=some (.own y)->c≠x:=fun c y r z=>by subst z;rw[r]at mu;exact mu
 have zsX:∀ c xs,H c=some (.tup xs)->c≠x:=fun c xs r z=>by subst z;rw[r]at mu;exact mu
 by_cases hb:b=x
 ·subst hb;rw[ck]at q;cases q;exact new
 ·rw[aN hb]at q
  by_cases i5:b=e
  ·have q':H b=some (.own x):=by
    rcases he with z|z
    ·exact absurd (i5.trans z) hb
    ·rw[i5];exact z
   rw[q]at q';cases q'
   obtain⟨v,hv⟩:=qk;exact⟨v,by rw[i5];exact hv⟩
  ·refine(ok b u q).jh (fun c v hc r=>k c v ?_ r) (fun c r=>by rw[aN (zjJ c b r)];exact r) fun c xs r=>r.upd (fun ys z=>zsX c ys z) fun o ys z e=>by subst e;rw[z]at mu;exact mu
   rcases hc with rfl|hc
   ·exact i5
   ·rintro rfl
    rcases he with z|z
    ·exact zjJ c b hc z
    ·rw[hc]at z;cases z;exact hb rfl
end
structure Un(fs ex:List dm)(H H':Hp)(h h':yo):Prop where
 keep:∀ b o,h.get? b=some o->H b=none->b∉fs->b∉ex->h'.get? b=some o
 slot:∀ b o,h.get? b=some o->H b=none->b∈fs->b∉ex->∃ sl,h'.get? b=some { o with slots:=sl }
 free:∀ b o,h.get? b=some o->H b=none->b∉ex->H' b=none
 there:∀ b o,h.get? b=some o->b∉ex->∃ o',h'.get? b=some o'
 gq:∀ b xs,H b=some (.tup xs)->H' b=some (.tup xs)
 gw:∀ b o u,H b=some (.frz o u)->H' b=some (.frz o u)
 gO:∀ b ps,H b=some (.fg ps)->∃ more,H' b=some (.fg (ps++more))
section
variable {fs fM ex vT:List dm}{H1 H2:Hp}{h1 h2:yo}
theorem Un.any(u:Un fs ex H H1 h h1)(q:h.get? b=some ob)(n:H b=none)(hx:b∉ex):∃ sl,h1.get? b=some { ob with slots:=sl }:=by
 by_cases hb:b∈fs
 ·exact u.slot b ob q n hb hx
 ·exact⟨ob.slots,u.keep b ob q n hb hx⟩
theorem Un.kept(k:∀ b u,h.get? b=some u->h'.get? b=some u):Un fs ex H H h h' :=
 ⟨fun b ob q _ _ _=>k b ob q,fun b ob q _ _ _=>⟨ob.slots,k b ob q⟩,fun _ _ _ n _=>n,fun b ob q _=>⟨ob,k b ob q⟩,fun _ _ q=>q,fun _ _ _ q=>q,fun _ ps q=>⟨#[],by rw[q];simp⟩⟩
theorem Un.refl:Un fs ex H H h h:=Un.kept fun _ _ q=>q
theorem Un.laid(k:∀ b u,h.get? b=some u->h'.get? b=some u)(hp:h.objs.size<=a)(hn:H a=none):Un fs ex H (upd H a o) h h' where
 keep:=fun b u q _ _ _=>k b u q
 slot:=fun b u q _ _ _=>⟨u.slots,k b u q⟩
 free:=fun b u q n _=>by rw[aN (yX (zu (yE q) hp))];exact n
 there:=fun b u q _=>⟨u,k b u q⟩
 gq:=fun b xs q=>by rw[aN (oM q hn)];exact q
 gw:=fun b u xs q=>by rw[aN (oM q hn)];exact q
 gO:=fun b ps q=>⟨#[],by rw[aN (oM q hn),q];simp⟩
theorem Un.write(mu:rK (H x))(he:e=x\/H e=some (.own x))(k:∀ b u,b≠e->h.get? b=some u->h'.get? b=some u)(qk:∃ u,h'.get? e=some u):Un fs ex H (upd H x o) h h':=by
 have hx:∀ b,H b=none->b≠x:=fun b n z=>by subst z;rw[n]at mu;exact mu
 have hb:∀ b,H b=none->b≠e:=fun b n z=>by
  subst z;rcases he with r|r
  ·exact hx b n r
  ·rw[n]at r;cases r
 have hm:∀ b u,H b=some u->¬ rK (some u)->b≠x:=fun b u q nm z=>by subst z;rw[q]at mu;exact nm mu
 refine⟨fun b u q n _ _=>k b u (hb b n) q,fun b u q n _ _=>⟨u.slots,k b u (hb b n) q⟩,fun b u q n _=>by rw[aN (hx b n)];exact n,fun b u q _=>?_,
  fun b xs q=>by rw[aN (hm b _ q fun z=>z)];exact q,fun b u xs q=>by rw[aN (hm b _ q fun z=>z)];exact q,fun b ps q=>⟨#[],by rw[aN (hm b _ q fun z=>z),q];simp⟩⟩
 by_cases i5:b=e
 ·subst i5;exact qk
 ·exact⟨u,k b u i5 q⟩
end
noncomputable def xS(h:yo)(H:Hp):List dm:=(z9 h.objs.size).filter fun a=>(H a).isSome
def kJ(h:yo)(H:Hp):yo:=PySem.W.hideAll h (xS h H)
theorem zpz(h:yo)(H:Hp):(kJ h H).objs.size=h.objs.size:=PySem.W.hideAll_size _ _
theorem zpy{o:yp}(e:h.get? b=some o)(n:H b=none):(kJ h H).get? b=some o :=
 PySem.W.hideAll_get _ e fun hm=>by
  have q:(H b).isSome=true:=(List.mem_filter.mp hm).2;rw[n]at q;simp at q
theorem ztg{o:yp}(e:(kJ h H).get? b=some o):h.get? b=some o/\H b=none:=by
 have e':h.get? b=some o:=PySem.W.of_hideAll (xS h H) e;refine⟨e',?_⟩;cases q:H b with
 | none=>rfl
 | some x =>
  have hm:b∈xS h H:=List.mem_filter.mpr ⟨CV.mpr (yE e'),by simp[q]⟩;have z:(kJ h H).get? b=none:=PySem.W.hideAll_none (xS h H) hm;rw[z]at e;cases e
noncomputable def zmo(g h:yo)(L:dm):List (dm×yp):=(z9 h.objs.size).filterMap fun a=>if a=L\/(g.get? a).isSome=true then none else(h.get? a).map fun o=>(a,o)
def rest(g h:yo)(L d:dm):List (dm×yp):=(zmo g h L).filter fun p=>decide (p.1≠d)
end
variable {i j t':Nat}{s s':kb}{A:yy}{g':Array GenState}{M:Model}{E:gV->kb->Prop}{d':Drawn}{α:Type}{e:yh}{pins zj5:List (dm×yp)}{v:V}{t:TT}{ch:List dm}{o:yp}{σ σ':List (Option V)}{u:gV}{it:dm}{N:List ir}{X:Cx}{Q:Unit->kb->Prop}{x:ir}
section
structure Mod(K:yf)(mg:ir->Option gV)(base:yo):Prop where
 oF:K.In base
 glob:base.Ns yB mg
 blt:∃ mb,base.Ns Dt mb/\∀ x:ir,x ≠ "__name__"->mb x=zj x
 nolimit:base.NoLimit
 seer:base.NoSeer
def zmg(l:List yC):Prop:=∃ env r,l=env::r/\env.scope.isGenerator=false/\env.scope.isCoroutine=false/\env.builtins=Dt/\env.globals=yB
structure Cx where
 prog:yw
 w:yv
 K:yf
 mg:ir->Option gV
 base:yo
 A:yy
 N:List ir
 s₀:kb
 H₀:Hp
 env:yC
 outer:List yC
 stack:List yC
 ex:List dm
 fn:ir->Bool
 calm:Bool
 pn:List (dm×yp)
 xe:gV->kb->Prop
noncomputable def dR(l:List yC):List dm:=l.filterMap (·.frame)
abbrev Cx.fs(X:Cx):List dm:=dR X.outer
def vc(sc:yT)(x:ir):Prop:=sc.names.lookup x=some .local\/sc.names.lookup x=some .cell\/sc.names.lookup x=some .free
def Loc(sc:yT)(x:ir):Prop:=sc.names.lookup x=some .local\/sc.names.lookup x=some .cell
def Look(env:yC)(h:yo)(m:ir->Option gV)(x:ir)(u:gV):Prop :=
 (env.kindOf x=some .local/\m x=some u)\/((env.kindOf x=some .cell\/env.kindOf x=some .free)/\∃ c,env.cells.lookup x=some c/\h.IsCell c (some u))
structure Cx.Ok(X:Cx):Prop where
 mod:Mod X.K X.mg X.base
 kind:X.env.scope.kind=.function
 glob:X.env.globals=yB
 blt:X.env.builtins=Dt
 above:X.s₀.heap.objs.size<=X.env.locals
 inj:∀ x y c,X.env.cells.lookup x=some c->X.env.cells.lookup y=some c->x=y
 has:∀ x,(X.env.kindOf x=some .cell\/X.env.kindOf x=some .free)->∃ c,X.env.cells.lookup x=some c
 lK:∀ x c,X.fn x=true->X.env.cells.lookup x=some c->X.s₀.heap.objs.size<=c
 hd:X.calm=true->X.A.handled=none
 frames:X.A.frames=some X.stack
 pd:X.stack=X.outer\/(X.stack=X.env::X.outer/\X.env.frame=some X.env.locals)
 nW:∀ b∈X.ex,b≠X.env.locals/\∀ x c,X.env.cells.lookup x=some c->c≠b
 bs:∀ b o,X.base.get? b=some o->X.s₀.heap.get? b=some o/\X.H₀ b=none
 jn:X.base.objs.size<=X.s₀.heap.objs.size
 mx:∀ b o,X.base.get? b=some o->b∉X.ex
 lN:∀ b∈X.ex,b∉X.fs
 gx:X.s₀.heap.FunFrames X.base X.outer
 jZ:∀ b∈X.fs,X.H₀ b=none
 tree:X.prog.given.tree=none
 sk:zmg X.stack
structure Inv(X:Cx)(pins:List (dm×yp))(σ:List (Option V))(H:Hp)(s:kb):Prop where
 ok:X.Ok
 os:s.os=X.s₀.os
 bare:Bb s.gens
 base:Un X.fs X.ex X.H₀ H X.s₀.heap s.heap
 loc:∃ m,s.heap.Ns X.env.locals m/\∀(i:Nat) (x:ir) (v:V),X.N[i]?=some x->σ[i]?=some (some v)->vc X.env.scope x->∃ u,RelV v u/\Look X.env s.heap m x u
 cell:∀ x c,X.env.cells.lookup x=some c->∃ v,s.heap.IsCell c v
 free:H X.env.locals=none
 fL:∀ x c,X.env.cells.lookup x=some c->H c=none
 pin:∀ p∈X.pn++pins,s.heap.get? p.1=some p.2/\H p.1=none/\p.1≠X.env.locals/\p.1∉X.fs/\∀ v,p.2.data≠.cell v
 au:cB X.prog X.w H s.heap
 len:σ.length=X.N.length
section
theorem Cx.Ok.zsQ(ok:X.Ok)(e:X.base.get? b=some o):b∉X.fs:=fun hb=>by
 have:=(ok.gx.mem hb).1;rw[e]at this;cases this
theorem Inv.bs(I:Inv X pins σ H s):∀ b o,X.base.get? b=some o->s.heap.get? b=some o/\H b=none:=fun b o e =>
 ⟨I.base.keep b o (I.ok.bs b o e).1 (I.ok.bs b o e).2 (I.ok.zsQ e) (I.ok.mx b o e),I.base.free b o (I.ok.bs b o e).1 (I.ok.bs b o e).2 (I.ok.mx b o e)⟩
theorem Inv.bk(I:Inv X pins σ H s):∀ b o,X.base.get? b=some o->s.heap.get? b=some o:=fun b o e=>(I.bs b o e).1
theorem Inv.mod(I:Inv X pins σ H s):Mod X.K X.mg X.base:=I.ok.mod
theorem Inv.dI(I:Inv X pins σ H s):X.K.In s.heap:=I.ok.mod.oF.keeps I.bk
theorem Inv.nolimit(I:Inv X pins σ H s):s.heap.NoLimit:=I.ok.mod.nolimit.keeps I.bk
theorem Inv.lt(I:Inv X pins σ H s):X.env.locals<s.heap.objs.size:=let⟨_,hn,_⟩:=I.loc;hn.lt
theorem Inv.sz(I:Inv X pins σ H s):X.s₀.heap.objs.size<=s.heap.objs.size:=zA I.ok.above (BK I.lt)
theorem Inv.zjH(I:Inv X pins σ H s)(h:s.heap.objs.size<=a):a∉X.fs:=fun hb=>by
 obtain⟨_,o,ho,_⟩:=I.ok.gx.mem hb;exact absurd (zu (yE ho) (zA I.sz h)) (BJ _)
theorem Inv.ko(I:Inv X pins σ H s):∀ x c,X.env.cells.lookup x=some c->c≠X.env.locals:=fun x c e z=>by
 obtain⟨v,o,ho,hd⟩:=I.cell x c e;obtain⟨m,⟨o',es,ep,eS,iA,_⟩,_⟩:=I.loc;rw[z,eS]at ho;cases ho;rw[iA]at hd;cases hd
theorem Inv.gx(I:Inv X pins σ H s):s.heap.FunFrames X.base X.outer:=by
 have all:∀(l:List yC),(∀ b∈dR l,b∈X.fs)->X.s₀.heap.FunFrames X.base l->s.heap.FunFrames X.base l:=by
  intro l
  induction l with
  | nil=>intro _ _;trivial
  | cons env r ih =>
   intro hs hl;obtain⟨hk,⟨L,o,hf,hn,ho,hd⟩,hr⟩:=hl;have hL:L∈X.fs:=hs L (by unfold dR;rw[Bx,hf];exact zm);obtain⟨sl,e⟩:=I.base.slot L o ho (I.ok.jZ L hL) hL fun z=>I.ok.lN L z hL;exact⟨hk,⟨L,_,hf,hn,e,hd⟩,ih (fun b hb=>hs b (by unfold dR;rw[Bx,hf];exact yY _ hb)) hr⟩
 exact all X.outer (fun _ hb=>hb) I.ok.gx
theorem Inv.stack(I:Inv X pins σ H s):s.heap.FunFrames X.base X.stack:=by
 rcases I.ok.pd with e|⟨e,hf⟩
 ·rw[e];exact I.gx
 ·rw[e]
  obtain⟨m,hn,_⟩:=I.loc;refine .cons (by rw[I.ok.kind];decide) hf hn ?_ I.gx;exact Bm (zA I.ok.jn I.ok.above)
theorem Inv.pe(I:Inv X pins σ H s):∀ b∈dR X.stack,b∈X.env.locals::X.fs:=fun b hb=>by
 rcases I.ok.pd with e|⟨e,hf⟩
 ·rw[e]at hb;exact yY _ hb
 ·rw[e]at hb
  unfold dR at hb;rw[Bx,hf]at hb;exact hb
theorem Inv.uL(I:Inv X pins σ H s):∀ b∈dR X.stack,H b=none:=fun b hb=>by
 rcases yH.mp (I.pe b hb)with e|hb
 ·rw[e];exact I.free
 ·obtain⟨_,o,ho,_⟩:=I.ok.gx.mem hb
  exact I.base.free b o ho (I.ok.jZ b hb) fun z=>I.ok.lN b z hb
theorem Inv.step(I:Inv X pins σ H s)
  (j4:∀ b∈ch,(b∈X.ex\/X.s₀.heap.objs.size<=b)/\b≠X.env.locals/\(∀ x c,X.env.cells.lookup x=some c->c≠b)/\∀ p∈X.pn++pins,p.1≠b)
  (keep:∀ b o,b≠X.env.locals->b∉X.fs->b∉ch->s.heap.get? b=some o->H b=none->h'.get? b=some o)
  (slot:∀ b o,b≠X.env.locals->b∈X.fs->b∉ch->s.heap.get? b=some o->H b=none->∃ sl,h'.get? b=some { o with slots:=sl })(free:∀ b o,b∉ch->s.heap.get? b=some o->H b=none->H' b=none)
  (there:∀ b o,b∉ch->s.heap.get? b=some o->∃ o',h'.get? b=some o')
  (gq:∀ b xs,H b=some (.tup xs)->H' b=some (.tup xs))(gw:∀ b o u,H b=some (.frz o u)->H' b=some (.frz o u))(gO:∀ b ps,H b=some (.fg ps)->∃ more,H' b=some (.fg (ps++more)))
  (ns:∀ m,s.heap.Ns X.env.locals m->h'.Ns X.env.locals m)(au:cB X.prog X.w H' h')(hg:Bb g') :
  Inv X pins σ H' { s with heap:=h',gens:=g',drawn:=d',toks:=t' }:=by
 have qy:∀ b o,X.s₀.heap.get? b=some o->b≠X.env.locals:=fun b o e=>yX (zu (yE e) I.ok.above);have kR:∀ b o,X.s₀.heap.get? b=some o->b∉X.ex->b∉ch:=fun b o e hx hb=>by
  rcases (j4 b hb).1 with z|z
  ·exact hx z
  ·exact absurd (zu (yE e) z) (BJ _)
 have cellK:∀ x c,X.env.cells.lookup x=some c->∀ v,s.heap.IsCell c v->h'.IsCell c v:=fun x c e v ⟨o,ho,hd⟩=>by
  have ud:c∉ch:=fun z=>(j4 c z).2.2.1 x c e rfl
  by_cases hc:c∈X.fs
  ·obtain⟨sl,q⟩:=slot c o (I.ko x c e) hc ud ho (I.fL x c e)
   exact⟨_,q,hd⟩
  ·exact⟨o,keep c o (I.ko x c e) hc ud ho (I.fL x c e),hd⟩
 refine⟨I.ok,I.os,hg,⟨fun b o e n hb hx=>?_,fun b o e n hb hx=>?_,fun b o e n hx=>?_,fun b o e hx=>?_,fun b xs e=>gq b xs (I.base.gq b xs e),fun b o xs e=>gw b o xs (I.base.gw b o xs e),fun b ps e=>?_⟩,?_,fun x c e=>?_,?_,fun x c e=>?_,fun p hp=>?_,au,I.len⟩
 ·exact keep b o (qy b o e) hb (kR b o e hx) (I.base.keep b o e n hb hx) (I.base.free b o e n hx)
 ·obtain⟨sl,e1⟩:=I.base.slot b o e n hb hx
  obtain⟨lz,e2⟩:=slot b _ (qy b o e) hb (kR b o e hx) e1 (I.base.free b o e n hx);exact⟨lz,e2⟩
 ·obtain⟨o',e1⟩:=I.base.there b o e hx
  exact free b o' (kR b o e hx) e1 (I.base.free b o e n hx)
 ·obtain⟨o',e1⟩:=I.base.there b o e hx
  exact there b o' (kR b o e hx) e1
 ·obtain⟨m1,e1⟩:=I.base.gO b ps e
  obtain⟨m2,e2⟩:=gO b _ e1;exact⟨m1++m2,by rw[e2,Array.append_assoc]⟩
 ·obtain⟨m,hn,hl⟩:=I.loc
  refine⟨m,ns m hn,fun i x v e1 e2 e3=>?_⟩;obtain⟨u,r,l⟩:=hl i x v e1 e2 e3;refine⟨u,r,?_⟩;rcases l with l|⟨k,c,e,z⟩
  ·exact .inl l
  ·exact .inr ⟨k,c,e,cellK x c e _ z⟩
 ·obtain⟨v,z⟩:=I.cell x c e
  exact⟨v,cellK x c e v z⟩
 ·obtain⟨m,⟨o,_,_,ho,_⟩,_⟩:=I.loc
  exact free _ o (fun z=>(j4 _ z).2.1 rfl) ho I.free
 ·obtain⟨v,o,ho,hd⟩:=I.cell x c e
  exact free c o (fun z=>(j4 c z).2.2.1 x c e rfl) ho (I.fL x c e)
 ·obtain⟨e,n,ne,nf,d⟩:=I.pin p hp
  have ud:p.1∉ch:=fun z=>(j4 p.1 z).2.2.2 p hp rfl;exact⟨keep p.1 p.2 ne nf ud e n,free p.1 p.2 ud e n,ne,nf,d⟩
theorem Inv.un(I:Inv X pins σ H s)(u:Un X.fs [] H H' s.heap h')(au:cB X.prog X.w H' h'):Inv X pins σ H' { s with heap:=h',toks:=t' }:=by
 obtain⟨m,⟨o,es,ep,ho,r⟩,_⟩:=id I.loc;obtain⟨sl,hL⟩:=u.any ho I.free (by simp);exact I.step (g':=s.gens) (d':=s.drawn) (ch:=[]) (fun _ z=>nomatch z) (fun b o _ hb _ e n=>u.keep b o e n hb (by simp)) (fun b o _ hb _ e n=>u.slot b o e n hb (by simp)) (fun b o _ e n=>u.free b o e n (by simp)) (fun b o _ e=>u.there b o e (by simp)) u.gq u.gw u.gO (fun m' hm=>by
  obtain⟨o',nV,sJ,eS,r'⟩:=hm;rw[ho]at eS;cases eS
  exact⟨_,nV,sJ,hL,r'⟩) au I.bare
theorem Inv.call(I:Inv X pins σ H s)(u:Un (dR X.stack) ch H H' s.heap h')(au:cB X.prog X.w H' h')(hg:Bb g')
  (j4:∀ b∈ch,(b∈X.ex\/X.s₀.heap.objs.size<=b)/\b≠X.env.locals/\(∀ x c,X.env.cells.lookup x=some c->c≠b)/\∀ p∈X.pn++pins,p.1≠b) :
  Inv X pins σ H' { s with heap:=h',gens:=g',drawn:=d',toks:=t' }:=by
 obtain⟨m,⟨o,es,ep,ho,r⟩,_⟩:=id I.loc;obtain⟨sl,hL⟩:=u.any ho I.free fun z=>(j4 _ z).2.1 rfl;exact I.step (ch:=ch) j4 (fun b o hL hb hc e n=>u.keep b o e n (fun z=>(yH.mp (I.pe b z)).elim hL hb) hc) (fun b o _ _ hc e n=>u.any e n hc) (fun b o hc e n=>u.free b o e n hc) (fun b o hc e=>u.there b o e hc) u.gq u.gw u.gO (fun m' hm=>by
  obtain⟨o',nV,sJ,eS,r'⟩:=hm;rw[ho]at eS;cases eS
  exact⟨_,nV,sJ,hL,r'⟩) au hg
theorem Inv.turned(I:Inv X pins σ H s)(k:∀ b o,b≠it->s.heap.get? b=some o->h'.get? b=some o)(hn:H it=none)(hL:it≠X.env.locals)
  (h1:it∈X.ex\/X.s₀.heap.objs.size<=it)(h2:∀ x c,X.env.cells.lookup x=some c->c≠it)(h3:∀ p∈X.pn++pins,p.1≠it):Inv X pins σ H { s with heap:=h',toks:=t' }:=by
 have ue:∀ b u,H b=some u->b≠it:=fun b u e z=>by rw[z,hn]at e;cases e
 refine I.step (g':=s.gens) (d':=s.drawn) (ch:=[it]) (fun b hb=>?_) (fun b o _ _ hc e _=>k b o (fun z=>hc (by simp[z])) e) (fun b o _ _ hc e _=>⟨o.slots,k b o (fun z=>hc (by simp[z])) e⟩) (fun _ _ _ _ n=>n)
  (fun b o hc e=>⟨o,k b o (fun z=>hc (by simp[z])) e⟩) (fun _ _ e=>e) (fun _ _ _ e=>e) (fun b ps e=>⟨#[],by rw[e];simp⟩) (fun m hm=>?_) (fun b u e=>?_) I.bare
 ·have e:b=it:=by simpa using hb
  subst e;exact⟨h1,hL,h2,h3⟩
 ·obtain⟨o,es,ep,ho,r⟩:=hm
  exact⟨o,es,ep,k _ o (zq hL) ho,r⟩
 ·refine(I.au b u e).jh (fun c v hc q=>k c v ?_ q) (fun _ q=>q) fun _ _ q=>q
  rcases hc with z|z
  ·rw[z];exact ue b u e
  ·exact ue c _ z
theorem Inv.tok(I:Inv X pins σ H s)(t:Nat):Inv X pins σ H { s with toks:=t }:=I.un (h':=s.heap) (t':=t) Un.refl I.au
theorem Inv.kept{t':Nat}(I:Inv X pins σ H s)(k:∀ b u,s.heap.get? b=some u->h'.get? b=some u):Inv X pins σ H { s with heap:=h',toks:=t' }:=I.un (Un.kept k) (I.au.kept k)
theorem Inv.laid{a:dm}{o:HO}{t':Nat}(I:Inv X pins σ H s)(k:∀ b u,s.heap.get? b=some u->h'.get? b=some u)(hp:s.heap.objs.size<=a)(new:de X.prog X.w (upd H a o) h' a o) :
  Inv X pins σ (upd H a o) { s with heap:=h',toks:=t' }:=I.un (Un.laid k hp (I.au.fresh hp)) (I.au.laid k hp new)
theorem Inv.write{x e:dm}{o:HO}{t':Nat}(I:Inv X pins σ H s)(mu:rK (H x))(he:e=x\/H e=some (.own x))(k:∀ b u,b≠e->s.heap.get? b=some u->h'.get? b=some u)(qk:∃ u,h'.get? e=some u)
  (new:de X.prog X.w (upd H x o) h' x o):Inv X pins σ (upd H x o) { s with heap:=h',toks:=t' }:=I.un (Un.write mu he k qk) (I.au.write mu he k qk new)
theorem Inv.weak(I:Inv X pins σ H s)(hl:σ'.length=σ.length)(w:∀(i:Nat) v,σ'[i]?=some (some v)->σ[i]?=some (some v)):Inv X pins σ' H s :=
 ⟨I.ok,I.os,I.bare,I.base,let⟨m,hn,lR⟩:=I.loc;⟨m,hn,fun i x v e1 e2 e3=>lR i x v e1 (w i v e2) e3⟩,I.cell,I.free,I.fL,I.pin,I.au,hl.trans I.len⟩
theorem Inv.zj6(I:Inv X pins σ H s)(h:∀ p∈zj5,s.heap.get? p.1=some p.2/\H p.1=none/\p.1≠X.env.locals/\p.1∉X.fs/\∀ v,p.2.data≠.cell v):Inv X zj5 σ H s :=
 ⟨I.ok,I.os,I.bare,I.base,I.loc,I.cell,I.free,I.fL,fun p hp=>(BL.mp hp).elim (fun z=>I.pin p (Ci _ z)) (h p),I.au,I.len⟩
theorem zd1(hN:N.Nodup)(a:N[i]?=some x)(b:N[j]?=some x):i=j:=by
 obtain⟨h1,e1⟩:=yQ.mp a;obtain⟨h2,e2⟩:=yQ.mp b;exact(List.getElem_inj hN).mp (e1.trans e2.symm)
theorem zkY(I:Inv X pins σ H s)(hN:X.N.Nodup)(hi:X.N[i]?=some x)(hx:Loc X.env.scope x)(r:RelV v u)
  (h:∀ s',Inv X pins (σ.set i (some v)) H s'->(∃ a,By a s.heap s'.heap/\(a=X.env.locals\/X.env.cells.lookup x=some a))->Q () s')(hf:X.fn x=true\/X.env.scope.names.lookup x=some .local:=by first|exact .inl rfl|exact .inr rfl|assumption):yj M A (storeName X.env x u) Q E s:=by
 obtain⟨m,hn,hl⟩:=id I.loc;have zpr:(X.env.scope.kind==.class||(X.env.scope.kind==.module&&X.env.locals != X.env.globals))=false:=by rw[I.ok.kind];rfl
 have hiσ:i<σ.length:=by rw[I.len];exact(yQ.mp hi).1
 have ko:=I.ko;have tracked:∀{a:dm} {h':yo},(∃ o,s.heap.get? a=some o/\H a=none)->By a s.heap h'->cB X.prog X.w H h':=fun{a h'} ha hs b ob e=>by
  obtain⟨_,_,ziH⟩:=ha;refine(I.au b ob e).jh (fun c w' hc q=>(hs.2 c ?_).trans q) (fun _ q=>q) fun _ _ q=>q;rintro rfl;rcases hc with rfl|hc
  ·rw[ziH]at e;cases e
  ·rw[ziH]at hc;cases hc
 rcases hx with hk|hk
 ·refine wpAny_storeName_local hk hn (fun h' hn' hs=>?_) zpr
  obtain⟨oL,_,_,oy,_⟩:=id hn;refine h _ ⟨I.ok,I.os,I.bare,⟨fun b o e n hb hx=>?_,fun b o e n hb hx=>?_,I.base.free,fun b o e hx=>?_,I.base.gq,I.base.gw,I.base.gO⟩,⟨_,hn',fun j y v' e1 e2 e3=>?_⟩,fun y c e=>?_,I.free,I.fL,fun p hp=>?_,tracked ⟨oL,oy,I.free⟩ hs,by simpa using I.len⟩ ⟨_,hs,.inl rfl⟩
  ·exact(hs.2 b (yX (zu (yE e) I.ok.above))).trans (I.base.keep b o e n hb hx)
  ·obtain⟨sl,e1⟩:=I.base.slot b o e n hb hx
   exact⟨sl,(hs.2 b (yX (zu (yE e) I.ok.above))).trans e1⟩
  ·obtain⟨o',e1⟩:=I.base.there b o e hx
   exact⟨o',(hs.2 b (yX (zu (yE e) I.ok.above))).trans e1⟩
  ·by_cases hj:j=i
   ·subst hj
    rw[hi]at e1;cases e1
    rw[zg hiσ]at e2;cases e2;exact⟨u,r,.inl ⟨hk,by simp⟩⟩
   ·rw[yZ (zq hj)]at e2
    obtain⟨u',r',q⟩:=hl j y v' e1 e2 e3;refine⟨u',r',?_⟩;rcases q with⟨k,e⟩|⟨k,c,e,z⟩
    ·refine .inl ⟨k,?_⟩
     have:y≠x:=fun e=>hj (zd1 hN e1 (e▸hi));simp[this,e]
    ·exact .inr ⟨k,c,e,z.sameBut hs (ko y c e)⟩
  ·obtain⟨w',z⟩:=I.cell y c e
   exact⟨w',z.sameBut hs (ko y c e)⟩
  ·obtain⟨e,n,ne,nf,d⟩:=I.pin p hp
   exact⟨(hs.2 p.1 ne).trans e,n,ne,nf,d⟩
 ·have hfn:X.fn x=true:=by
   rcases hf with z|z
   ·exact z
   ·rw[z]at hk;cases hk
  obtain⟨c,hc⟩:=I.ok.has x (.inl hk);obtain⟨w',z⟩:=I.cell x c hc;refine wpAny_storeName_cell I.ok.kind hk hc z (fun h' gW hs=>?_);obtain⟨oc,hoc,zpH⟩:=id z;refine h { s with heap:=h' } ⟨I.ok,I.os,I.bare,⟨fun b o e n hb hx=>?_,fun b o e n hb hx=>?_,I.base.free,fun b o e hx=>?_,I.base.gq,I.base.gw,I.base.gO⟩,⟨m,hn.sameBut hs (zq (ko x c hc)),fun j y v' e1 e2 e3=>?_⟩,fun y c' e=>?_,I.free,I.fL,fun p hp=>?_,tracked ⟨oc,hoc,I.fL x c hc⟩ hs,by simpa using I.len⟩ ⟨c,hs,.inr hc⟩
  ·exact(hs.2 b (yX (zu (yE e) (I.ok.lK x c hfn hc)))).trans (I.base.keep b o e n hb hx)
  ·obtain⟨sl,e1⟩:=I.base.slot b o e n hb hx
   exact⟨sl,(hs.2 b (yX (zu (yE e) (I.ok.lK x c hfn hc)))).trans e1⟩
  ·obtain⟨o',e1⟩:=I.base.there b o e hx
   exact⟨o',(hs.2 b (yX (zu (yE e) (I.ok.lK x c hfn hc)))).trans e1⟩
  ·by_cases hj:j=i
   ·subst hj
    rw[hi]at e1;cases e1
    rw[zg hiσ]at e2;cases e2;exact⟨u,r,.inr ⟨.inl hk,c,hc,gW⟩⟩
   ·rw[yZ (zq hj)]at e2
    obtain⟨u',r',q⟩:=hl j y v' e1 e2 e3;refine⟨u',r',?_⟩;rcases q with q|⟨k,c',e,z'⟩
    ·exact .inl q
    ·refine .inr ⟨k,c',e,z'.sameBut hs ?_⟩
     rintro rfl;exact hj (zd1 hN e1 (I.ok.inj _ _ _ e hc▸hi))
  ·by_cases gX:c'=c
   ·subst gX;exact⟨_,gW⟩
   ·obtain⟨w2,z2⟩:=I.cell y c' e
    exact⟨w2,z2.sameBut hs gX⟩
  ·obtain⟨e,n,ne,nf,d⟩:=I.pin p hp
   refine⟨(hs.2 p.1 ?_).trans e,n,ne,nf,d⟩;intro q;rw[q,hoc]at e;have q':oc=p.2:=zt e;exact d w' (by rw[<- q'];exact zpH)
theorem qO(I:Inv X pins σ H s)(hN:X.N.Nodup)(hi:X.N[i]?=some x)(hx:Loc X.env.scope x)(r:RelV v u)
  (h:∀ s',Inv X pins (σ.set i (some v)) H s'->Q () s')(hf:X.fn x=true\/X.env.scope.names.lookup x=some .local:=by first|exact .inl rfl|exact .inr rfl|assumption):yj M A (storeName X.env x u) Q E s :=
 zkY I hN hi hx r (fun s' I' _=>h s' I') hf
theorem Inv.zaV(I:Inv X pins σ H s)(ho:s'.os=s.os)(u:Un (dR X.stack) ch H H' s.heap s'.heap)(au:cB X.prog X.w H' s'.heap)(hg:Bb s'.gens)
  (j4:∀ b∈ch,(b∈X.ex\/X.s₀.heap.objs.size<=b)/\b≠X.env.locals/\(∀ x c,X.env.cells.lookup x=some c->c≠b)/\∀ p∈X.pn++pins,p.1≠b):Inv X pins σ H' s':=by
 obtain⟨h',g',d',t',o'⟩:=s';have e:o'=s.os:=ho;subst e;exact I.call (g':=g') (t':=t') (d':=d') u au hg j4
end
abbrev XK:=gV->Option dm->Hp->Prop
abbrev St:=List (Option V)
abbrev VK:=V->Hp->Prop
abbrev TE:=St->Hp->VK->Prop
abbrev TT:=St->Hp->(Bool->Hp->Prop)->Prop
abbrev TA:=St->Hp->(List V->Hp->Prop)->Prop
structure Ends where
 nx:St->Hp->Prop
 rt:VK
 bk:St->Hp->Prop:=fun _ _=>False
 ct:St->Hp->Prop:=fun _ _=>False
abbrev TS:=Ends->St->Hp->Prop
def EP(X:Cx)(pins:List (dm×yp))(σ:St)(Q:VK)(u:gV)(s':kb):Prop:=∃ v H',Inv X pins σ H' s'/\RelV v u/\Q v H'
def TP(X:Cx)(pins:List (dm×yp))(σ:St)(Q:Bool->Hp->Prop)(b:Bool)(s':kb):Prop:=∃ H',Inv X pins σ H' s'/\Q b H'
def AP(X:Cx)(pins:List (dm×yp))(σ:St)(Q:List V->Hp->Prop)(us:List gV)(s':kb):Prop:=∃ vs H',Inv X pins σ H' s'/\Vals vs us/\Q vs H'
def SP(X:Cx)(pins:List (dm×yp))(D:Ends)(f:Flow)(s':kb):Prop :=
 match f with
 | .next=>∃ σ' H',Inv X pins σ' H' s'/\D.nx σ' H'
 | .brk=>∃ σ' H',Inv X pins σ' H' s'/\D.bk σ' H'
 | .cont=>∃ σ' H',Inv X pins σ' H' s'/\D.ct σ' H'
 | .ret u=>∃ v σ' H',Inv X pins σ' H' s'/\RelV v u/\D.rt v H'
def PE(X:Cx)(e:yh)(t:TE):Prop :=
 ∀(pins:List (dm×yp)) (s:kb) (σ:St) (H:Hp) (Q:VK),Inv X pins σ H s->t σ H Q->yj (ym X.prog X.w) X.A (yu e X.env) (EP X pins σ Q) X.xe s
def PT(X:Cx)(e:yh)(t:TT):Prop :=
 ∀(pins:List (dm×yp)) (s:kb) (σ:St) (H:Hp) (Q:Bool->Hp->Prop),Inv X pins σ H s->t σ H Q->yj (ym X.prog X.w) X.A (isTrue e X.env (yu e X.env)) (TP X pins σ Q) X.xe s
def PW(X:Cx)(e:yh)(t:TT):Prop :=
 ∀(whole:zk gV) (pins:List (dm×yp)) (s:kb) (σ:St) (H:Hp) (Q:Bool->Hp->Prop),Inv X pins σ H s->t σ H Q->yj (ym X.prog X.w) X.A (isTrue e X.env whole) (TP X pins σ Q) X.xe s
theorem PW.pt(h:PW X e t):PT X e t:=h _
def PA(X:Cx)(es:List yh)(t:TA):Prop :=
 ∀(pos:yn) (pins:List (dm×yp)) (s:kb) (σ:St) (H:Hp) (Q:List V->Hp->Prop),Inv X pins σ H s->t σ H Q->yj (ym X.prog X.w) X.A (spliced (yJ pos (yi es X.env))) (AP X pins σ Q) X.xe s
def PS(X:Cx)(st:yx)(t:TS):Prop :=
 ∀(pins:List (dm×yp)) (s:kb) (σ:St) (H:Hp) (D:Ends),Inv X pins σ H s->t D σ H->yj (ym X.prog X.w) X.A (exec st X.env) (SP X pins D) X.xe s
def b9(X:Cx)(st:List yx)(t:TS):Prop :=
 ∀(pins:List (dm×yp)) (s:kb) (σ:St) (H:Hp) (D:Ends),Inv X pins σ H s->t D σ H->yj (ym X.prog X.w) X.A (execs st X.env) (SP X pins D) X.xe s
theorem aI{t:zk α}{Q Q':α->kb->Prop}(h:yj M A t Q E s)(hQ:∀ a s,Q a s->Q' a s):yj M A t Q' E s:=zo h hQ fun _ _ x=>x
end
variable {a c:yh}{pos:yn}{σ:St}{Q:gV->kb->Prop}
section
section
noncomputable def dD(i:Nat):TE:=fun σ H Q=>∃ v,σ[i]?=some (some v)/\Q v H
noncomputable def tC(v:V):TE:=fun _ H Q=>Q v H
theorem zj1(hN:X.N[i]?=some x)(hv:vc X.env.scope x)(hd:(x==("__debug__":ir))=false:=by decide)(gy:(x==("__classdict__":ir))=false:=by decide):PE X (.Name x pos) (dD i):=by
 intro pins s σ H Q I h;obtain⟨v,e,h⟩:=h;obtain⟨m,hn,hl⟩:=I.loc;obtain⟨u,r,l⟩:=hl i x v hN e hv;have fin:EP X pins σ Q u s:=⟨v,H,I,r,h⟩;rcases l with⟨hk,hm⟩|⟨hk,c,hc,ziE⟩
 ·exact wpAny_Name (wpAny_loadName_local I.ok.kind hk hn hm fin) hd
 ·rcases hk with hk|hk
  ·exact wpAny_Name (wpAny_loadName_cell I.ok.kind hk hc ziE fin) hd
  ·exact wpAny_Name (wpAny_loadName_free I.ok.kind hk hc ziE fin gy) hd
theorem ztV{i j pos}:PE X (.Constant (.int i) j pos) (tC (.int i)):=fun _ _ _ H _ I h=>wpAny_Constant_int ⟨.int i,H,I.tok _,⟨_,rfl⟩,h⟩
theorem ztJ{b j pos}:PE X (.Constant (.bool b) j pos) (tC (.bl b)):=fun _ _ _ H _ I h=>Constant_bool ⟨.bl b,H,I,rfl,h⟩
theorem zjY{j pos}:PE X (.Constant .none j pos) (tC .non):=fun _ _ _ H _ I h=>Constant_none ⟨.non,H,I,rfl,h⟩
theorem zt1{x j pos}:PE X (.Constant (.str x) j pos) (tC (.str x)):=fun _ _ _ H _ I h=>Calls.Constant_str ⟨.str x,H,I.tok _,⟨_,rfl⟩,h⟩
def Gl(X:Cx)(x:ir):Prop:=X.env.kindOf x=some .globalImplicit
theorem qw(I:Inv X pins σ H s)(hg:Gl X x)(hm:X.mg x=some u)(h:Q u s)
  (hd:(x==("__debug__":ir))=false:=by decide):yj (ym X.prog X.w) X.A (yu (.Name x pos) X.env) Q E s :=
 FH I.ok.kind hg (Calls.loadGlobal_global (by rw[I.ok.glob];exact I.mod.glob.keeps I.bk) hm h) hd
theorem oH(I:Inv X pins σ H s)(hg:Gl X x)(hm:X.mg x=none)(hv:zj x=some u)(h:Q u s)
  (hn:x ≠ "__name__":=by decide) (hd:(x==("__debug__":ir))=false:=by decide):yj (ym X.prog X.w) X.A (yu (.Name x pos) X.env) Q E s:=by
 obtain⟨mb,h1,h2⟩:=I.mod.blt;exact FH I.ok.kind hg (Calls.loadGlobal_builtin (by rw[I.ok.glob];exact I.mod.glob.keeps I.bk) hm (by rw[I.ok.blt];exact h1.keeps I.bk) ((h2 x hn).trans hv) h) hd
theorem cP(hg:Gl X x)(hm:X.mg x=some u)(r:RelV v u)(hd:(x==("__debug__":ir))=false:=by decide):PE X (.Name x pos) (tC v) :=
 fun _ _ _ H _ I h=>qw I hg hm ⟨v,H,I,r,h⟩ hd
theorem ztK(hg:Gl X x)(hm:X.mg x=none)(hv:zj x=some u)(r:RelV v u)(hn:x ≠ "__name__":=by decide)(hd:(x==("__debug__":ir))=false:=by decide):PE X (.Name x pos) (tC v) :=
 fun _ _ _ H _ I h=>oH I hg hm hv ⟨v,H,I,r,h⟩ hn hd
variable {b:yh}{ta tb:TE}
noncomputable def tB(t:TE):TT:=fun σ H Q=>t σ H fun x H1=>∃ c,x=.bl c/\Q c H1
variable {tA xO:TT}{rest:List yh}
noncomputable def qQ(t u:TT):TT:=fun σ H Q=>t σ H fun c H1=>if c=true then u σ H1 Q else Q false H1
noncomputable def eB(t u:TT):TT:=fun σ H Q=>t σ H fun c H1=>if c=true then Q true H1 else u σ H1 Q
noncomputable def cR(t:TT):TT:=fun σ H Q=>t σ H fun c H1=>Q (!c) H1
theorem zvK(ha:PT X a tA):PW X (.BoolOp .And [a] pos) tA:=by
 intro wh pins s σ H Q I h;refine isTrue_and (aI (ha pins s σ H Q I h) fun c s1 e=>?_);cases c with
 | true=>exact isTrue_and_nil e
 | false=>exact e
theorem zvM(ha:PT X a tA):PW X (.BoolOp .Or [a] pos) tA:=by
 intro wh pins s σ H Q I h;refine isTrue_or (aI (ha pins s σ H Q I h) fun c s1 e=>?_);cases c with
 | false=>exact isTrue_or_nil e
 | true=>exact e
theorem zvJ(ha:PT X a tA)(hb:PW X (.BoolOp .And (b::rest) pos) xO):PW X (.BoolOp .And (a::b::rest) pos) (qQ tA xO):=by
 intro wh pins s σ H Q I h;refine isTrue_and (aI (ha pins s σ H _ I h) fun c s1 ⟨H1,I1,q1⟩=>?_);cases c with
 | true=>exact hb wh pins s1 σ H1 Q I1 q1
 | false=>exact⟨H1,I1,q1⟩
theorem zvL(ha:PT X a tA)(hb:PW X (.BoolOp .Or (b::rest) pos) xO):PW X (.BoolOp .Or (a::b::rest) pos) (eB tA xO):=by
 intro wh pins s σ H Q I h;refine isTrue_or (aI (ha pins s σ H _ I h) fun c s1 ⟨H1,I1,q1⟩=>?_);cases c with
 | true=>exact⟨H1,I1,q1⟩
 | false=>exact hb wh pins s1 σ H1 Q I1 q1
theorem zuW(ha:PT X a tA):PT X (.UnaryOp .Not a pos) (cR tA):=by
 intro pins s σ H Q I h;exact isTrue_not (ha pins s σ H (fun c H1=>Q (!c) H1) I h)
noncomputable def zxd(ta tb:TE):TE:=fun σ H Q=>ta σ H fun x H1=>∃ c,x=.bl c/\if c=true then tb σ H1 Q else Q (.bl false) H1
noncomputable def zxs(ta:TE):TE:=fun σ H Q=>ta σ H fun x H1=>∃ c,x=.bl c/\Q (.bl (!c)) H1
theorem ztZ{op}{t:TE}(h:PE X a t):PE X (.BoolOp op [a] pos) t:=fun pins s σ H Q I hw=>BoolOp_one (h pins s σ H Q I hw)
theorem ztI(ha:PE X a ta)(hb:PE X (.BoolOp .And (b::rest) pos) tb):PE X (.BoolOp .And (a::b::rest) pos) (zxd ta tb):=by
 intro pins s σ H Q I h;refine BoolOp_and (aI (ha pins s σ H _ I h) fun v s1 ⟨x,H1,I1,r1,q1⟩=>?_);obtain⟨c,rfl,q1⟩:=q1;cases r1;refine BM ?_;cases c with
 | true=>exact hb pins s1 σ H1 Q I1 q1
 | false=>exact⟨.bl false,H1,I1,rfl,q1⟩
theorem ztY(ha:PE X a ta):PE X (.UnaryOp .Not a pos) (zxs ta):=by
 intro pins s σ H Q I h;refine UnaryOp_ (aI (ha pins s σ H _ I h) fun v s1 ⟨x,H1,I1,r1,q1⟩=>?_);obtain⟨c,rfl,q1⟩:=q1;cases r1;exact not_of (BM ⟨.bl (!c),H1,I1,rfl,q1⟩)
noncomputable def tIf(t:TT)(ta tb:TE):TE:=fun σ H Q=>t σ H fun c H1=>if c=true then ta σ H1 Q else tb σ H1 Q
theorem ztU(hc:PT X c tA)(ha:PE X a ta)(hb:PE X b tb):PE X (.IfExp c a b pos) (tIf tA ta tb):=by
 intro pins s σ H Q I h;refine wpAny_IfExp (aI (hc pins s σ H _ I h) fun d s1 ⟨H1,I1,q1⟩=>?_);cases d with
 | true=>exact ha pins s1 σ H1 Q I1 q1
 | false=>exact hb pins s1 σ H1 Q I1 q1
end
end
variable {tg:yh}{es:List yh}{k n:Nat}{body:List yx}{tc:TT}{tb:TS}{y:V}{te:TE}{g:TG}{pos':yn}{vs:Array gV}{ta:TA}
section
def bq(K:yf)(H:Hp)(a:dm)(xs:List V):Prop :=
 Rd H a (.lst xs) \/
  ∃(o:yp) (its:Array gV) (n:Nat),K.lookup a=some o/\o.cls=.type "list"/\o.dict=none/\o.data=.seq its n/\its.size<=yz/\Vals xs its.toList
def dO(K:yf)(H:Hp)(a:dm)(xs:List V):Prop :=
 Rd H a (.tup xs) \/
  ∃(o:yp) (its:Array gV) (n:Nat),K.lookup a=some o/\o.cls=.type "tuple"/\o.data=.seq its n/\its.size<=yz/\Vals xs its.toList
noncomputable def zmi:gV->Option V
 | .none=>some .non
 | .bool b=>some (.bl b)
 | .int i _=>some (.int i)
 | .str x _=>some (.str x)
 | .bytes b _=>some (.byt b)
 | .float b _=>some (.flt b)
 | .ref a=>some (.ref a)
 | .type n=>some (.ty n)
 | _=>none
theorem RelV.abs{x:V}(r:RelV x u):zmi u=some x:=by
 cases x with
 | non=>cases r;rfl
 | bl _=>cases r;rfl
 | int _=>obtain⟨t,rfl⟩:=r;rfl
 | str _=>obtain⟨t,rfl⟩:=r;rfl
 | byt _=>obtain⟨t,rfl⟩:=r;rfl
 | flt _=>obtain⟨t,rfl⟩:=r;rfl
 | ref _=>cases r;rfl
 | ty _=>cases r;rfl
theorem RelV.inj{x:V}(r:RelV x u)(q:RelV y u):x=y:=zt (r.abs.symm.trans q.abs)
theorem Vals.inj:∀{xs ys:List V} {us:List gV},Vals xs us->Vals ys us->xs=ys
 | _,_,_,.nil,.nil=>rfl
 | _,_,_,.cons r t,.cons r' t'=>by rw[r.inj r',Vals.inj t t']
section
variable {a:dm}{ys:List V}
theorem bq.of{K:yf}(h:H a=some (.lst xs)):bq K H a xs:=.inl (.inl h)
theorem Inv.list(I:Inv X pins σ H s)(h:bq X.K H a xs):∃ its:List gV,Vals xs its/\PlainL s.heap a its.toArray/\xs.length<=yz:=by
 rcases h with h|⟨o,its,n,hk,hc,hd,hs,hz,r⟩
 ·obtain⟨z,its,n,r,e⟩:=h.ok I.au
  exact⟨its,r,⟨_,n,e,rfl,rfl,rfl⟩,z⟩
 ·refine⟨its.toList,r,⟨o,n,I.dI a o hk,hc,hd,by simpa using hs⟩,?_⟩
  have e:=r.length;simp only[Cj]at e
  omega
theorem Inv.tuple(I:Inv X pins σ H s)(h:dO X.K H a xs):∃ its:List gV,Vals xs its/\Ba s.heap a its.toArray/\xs.length<=yz:=by
 rcases h with h|⟨o,its,n,hk,hc,hs,hz,r⟩
 ·obtain⟨z,its,r,p⟩:=h.ok I.au
  exact⟨its,r,p,z⟩
 ·refine⟨its.toList,r,⟨o,I.dI a o hk,hc,n,by simpa using hs⟩,?_⟩
  have e:=r.length;simp only[Cj]at e
  omega
theorem Inv.tW(I:Inv X pins σ H s)(h:bq X.K H a xs)(h':bq X.K H a ys):xs=ys:=by
 obtain⟨its,r,⟨o,n,e,_,_,d⟩,_⟩:=I.list h;obtain⟨g9,r',⟨o',n',e',_,_,d'⟩,_⟩:=I.list h';rw[e]at e';cases e'
 rw[d]at d';injection d' with d1 _
 have:its=g9:=by simpa using congrArg Array.toList d1
 subst this;exact r.inj r'
theorem Inv.zla(I:Inv X pins σ H s)(h:dO X.K H a xs)(h':dO X.K H a ys):xs=ys:=by
 obtain⟨its,r,⟨o,e,_,n,d⟩,_⟩:=I.tuple h;obtain⟨g9,r',⟨o',e',_,n',d'⟩,_⟩:=I.tuple h';rw[e]at e';cases e'
 rw[d]at d';injection d' with d1 _
 have:its=g9:=by simpa using congrArg Array.toList d1
 subst this;exact r.inj r'
end
abbrev Cx.iR(X:Cx)(E:gV->kb->Prop):Cx:={ X with xe:=E }
abbrev Cx.cO(X:Cx):Cx:=X.iR fun _ _=>False
theorem Cx.Ok.iR(ok:X.Ok)(E:gV->kb->Prop):(X.iR E).Ok :=
 ⟨ok.mod,ok.kind,ok.glob,ok.blt,ok.above,ok.inj,ok.has,ok.lK,ok.hd,ok.frames,ok.pd,ok.nW,ok.bs,ok.jn,ok.mx,ok.lN,ok.gx,ok.jZ,ok.tree,ok.sk⟩
theorem Cx.Ok.jF(ok:(X.iR E).Ok):X.Ok :=
 ⟨ok.mod,ok.kind,ok.glob,ok.blt,ok.above,ok.inj,ok.has,ok.lK,ok.hd,ok.frames,ok.pd,ok.nW,ok.bs,ok.jn,ok.mx,ok.lN,ok.gx,ok.jZ,ok.tree,ok.sk⟩
section
theorem Inv.iR(I:Inv X pins σ H s)(E:gV->kb->Prop):Inv (X.iR E) pins σ H s:=⟨I.ok.iR E,I.os,I.bare,I.base,I.loc,I.cell,I.free,I.fL,I.pin,I.au,I.len⟩
theorem Inv.jF(I:Inv (X.iR E) pins σ H s):Inv X pins σ H s:=⟨I.ok.jF,I.os,I.bare,I.base,I.loc,I.cell,I.free,I.fL,I.pin,I.au,I.len⟩
theorem SP.jF{D:Ends}{f:Flow}{s':kb}(h:SP (X.iR E) pins D f s'):SP X pins D f s':=by
 cases f with
 | next=>obtain⟨σ',H',I,q⟩:=h;exact⟨σ',H',I.jF,q⟩
 | brk=>obtain⟨σ',H',I,q⟩:=h;exact⟨σ',H',I.jF,q⟩
 | cont=>obtain⟨σ',H',I,q⟩:=h;exact⟨σ',H',I.jF,q⟩
 | ret u=>obtain⟨v,σ',H',I,r,q⟩:=h;exact⟨v,σ',H',I.jF,r,q⟩
theorem PT.cO(h:PT X.cO e t):PT X e t:=fun pins s σ H Q I hw =>
 zo (h pins s σ H Q (I.iR _) hw) (fun _ _ ⟨H',I',q⟩=>⟨H',I'.jF,q⟩) fun _ _ z=>zP z
theorem b9.cO{st:List yx}{t:TS}(h:b9 X.cO st t):b9 X st t:=fun pins s σ H D I hw =>
 zo (h pins s σ H D (I.iR _) hw) (fun _ _ q=>q.jF) fun _ _ z=>zP z
end
section
variable {st:yx}{rest:List yx}{t u:TS}
noncomputable def zxq:TS:=fun D σ H=>D.nx σ H
noncomputable def zxx(t u:TS):TS:=fun D σ H=>t { D with nx:=u D } σ H
theorem zeE:b9 X [] zxq:=fun _ _ σ H _ I h=>Cm ⟨σ,H,I,h⟩
theorem qE(h1:PS X st t)(h2:b9 X rest u):b9 X (st::rest) (zxx t u):=by
 intro pins s σ H D I h;refine Eu (aI (h1 pins s σ H { D with nx:=u D } I h) fun f s1 q=>?_);cases f with
 | next =>
  obtain⟨σ',H',I',q⟩:=q;exact h2 pins s1 σ' H' D I' q
 | ret v=>exact q
 | brk=>exact q
 | cont=>exact q
theorem qF(h1:PS X st t):b9 X [st] t:=by
 intro pins s σ H D I h;refine Eu (aI (h1 pins s σ H D I h) fun f s1 q=>?_);cases f with
 | next=>exact Cm q
 | ret v=>exact q
 | brk=>exact q
 | cont=>exact q
theorem Inv.quiet(I:Inv X pins σ H s):interactive X.env=false:=by simp[interactive,I.ok.kind]
noncomputable def zxh(te:TE):TS:=fun D σ H=>te σ H fun _ H1=>D.nx σ H1
theorem zuy(he:PE X e te)(hs:zB e none pos.line X.env=pure false:=by rfl):PS X (.Expr e pos) (zxh te):=by
 intro pins s σ H D I h;exact wpAny_Expr_any (aI (he pins s σ H _ I h) fun v s1 ⟨x,H1,I1,r1,q1⟩=>⟨σ,H1,I1,q1⟩) I.quiet hs
noncomputable def zxw(te:TE):TS:=fun D σ H=>te σ H D.rt
theorem qD(he:PE X e te):PS X (.Return (some e) pos) (zxw te):=by
 intro pins s σ H D I h;exact wpAny_Return_some (aI (he pins s σ H _ I h) fun v s1 ⟨x,H1,I1,r1,q1⟩=>⟨x,σ,H1,I1,r1,q1⟩)
noncomputable def zxm(c:TT)(t u:TS):TS:=fun D σ H=>c σ H fun b H1=>if b=true then t D σ H1 else u D σ H1
theorem wZ{a b:List yx}(hc:PT X c tc)(ha:b9 X a t)(hb:b9 X b u):PS X (.If c a b pos) (zxm tc t u):=by
 intro pins s σ H D I h;refine wpAny_If (aI (hc pins s σ H _ I h) fun d s1 ⟨H1,I1,q1⟩=>?_);cases d with
 | true=>exact ha pins s1 σ H1 D I1 q1
 | false=>exact hb pins s1 σ H1 D I1 q1
noncomputable def zxp:TS:=fun _ _ _=>False
theorem zkc:PS X st zxp:=fun _ _ _ _ _ _ h=>h.elim
end
abbrev TG:=V->St->Hp->(St->Hp->Prop)->Prop
abbrev jl:=List V->St->Hp->(St->Hp->Prop)->Prop
def PG(X:Cx)(target:yh)(t:TG):Prop :=
 ∀(pins:List (dm×yp)) (s:kb) (σ:St) (H:Hp) (v:V) (u:gV) (Q:St->Hp->Prop),Inv X pins σ H s->RelV v u->t v σ H Q ->
  yj (ym X.prog X.w) X.A (Au target X.env u) (fun _ s'=>∃ σ' H',Inv X pins σ' H' s'/\Q σ' H') X.xe s
def jP(X:Cx)(ts:List yh)(t:jl):Prop :=
 ∀(pins:List (dm×yp)) (s:kb) (σ:St) (H:Hp) (vs:List V) (us:List gV) (Q:St->Hp->Prop),Inv X pins σ H s->Vals vs us->t vs σ H Q ->
  yj (ym X.prog X.w) X.A (Ew ((Ae ts X.env).map (·.2)) us) (fun _ s'=>∃ σ' H',Inv X pins σ' H' s'/\Q σ' H') X.xe s
abbrev zao:=V->V->V->Hp->(Hp->Prop)->Prop
def zf3(X:Cx)(t:zao):Prop :=
 ∀(pins:List (dm×yp)) (s:kb) (σ:St) (H:Hp) (o i v:V) (ov iv u:gV) (Q:Hp->Prop),Inv X pins σ H s->RelV o ov->RelV i iv->RelV v u->t o i v H Q ->
  yj (ym X.prog X.w) X.A (setItem ov iv u) (fun _ s'=>∃ H',Inv X pins σ H' s'/\Q H') X.xe s
section
noncomputable def qd(i:Nat):TG:=fun v σ H Q=>Q (σ.set i (some v)) H
theorem zeu(hN:X.N.Nodup)(hi:X.N[i]?=some x)(hx:Loc X.env.scope x)(hf:X.fn x=true\/X.env.scope.names.lookup x=some .local:=by first|exact .inl rfl|exact .inr rfl|assumption):PG X (.Name x pos) (qd i):=by
 intro pins s σ H v u Q I r h;exact wpAny_assign_Name (qO I hN hi hx r (fun s' I'=>⟨_,H,I',h⟩) hf)
noncomputable def zo7:jl:=fun vs σ H Q=>vs=[]/\Q σ H
noncomputable def zo5(t:TG)(u:jl):jl:=fun vs σ H Q=>∃ v r,vs=v::r/\t v σ H fun σ' H'=>u r σ' H' Q
theorem zj4:jP X [] zo7:=by
 intro pins s σ H vs us Q I r h;obtain⟨e,h⟩:=h;subst e;cases r;exact assignInOrder_nil ⟨σ,H,I,h⟩
theorem zew{t:TG}{u:jl}(h1:PG X e t)(h2:jP X es u)
  (hs:(Ae (e::es) X.env).map (·.2)=Au e X.env::(Ae es X.env).map (·.2):=by rfl):jP X (e::es) (zo5 t u):=by
 intro pins s σ H vs us Q I r h;obtain⟨v,vr,e1,h⟩:=h;subst e1;cases r with
 | cons r rr =>
  rw[hs];refine Ex (aI (h1 pins s σ H _ _ _ I r h) fun _ s1 ⟨σ1,H1,I1,q1⟩=>?_);exact h2 pins s1 σ1 H1 _ _ Q I1 rr q1
noncomputable def zo9(K:yf)(n:Nat)(t:jl):TG:=fun v σ H Q=>∃ a xs,v=.ref a/\dO K H a xs/\xs.length=n/\t xs σ H Q
theorem zud{t:jl}(hc:X.calm=true)(h:jP X es t)
  (hn:(Ae es X.env).length=n:=by rfl)(cu:(Ae es X.env).findIdx? (·.1)=none:=by rfl):PG X (.Tuple es k pos) (zo9 X.K n t):=by
 intro pins s σ H v u Q I r hw;obtain⟨a,xs,e1,hq,hl,hw⟩:=hw;subst e1;cases r;obtain⟨its,rv,ht,hz⟩:=I.tuple hq;refine assign_Tuple_tuple (I.ok.hd hc) ht (by simp[hn,<- hl,rv.length]) cu fun h' hx=>?_;have I1:Inv X pins σ H { s with heap:=h' }:=I.kept (t':=s.toks) fun b o e=>hx b o (yX (yE e)) e;exact h pins _ σ H xs _ Q I1 (by simpa using rv) hw
noncomputable def zo8(to ti:TE)(t:zao):TG:=fun v σ H Q=>to σ H fun o H1=>ti σ H1 fun i H2=>t o i v H2 fun H3=>Q σ H3
theorem zuc{o i:yh}{to ti:TE}{t:zao}(ho:PE X o to)(hi:PE X i ti)(hs:zf3 X t)
  (ha:∀ v,Au (.Subscript o i pos) X.env v=(do
   let ov <- Ak [v] (yu o X.env)
   let iv <- Ak [v,ov] (yu i X.env)
   AG pos
   Ak [v,ov,iv] (setItem ov iv v)
   release [v,ov,iv] []):=by intro _;rfl):PG X (.Subscript o i pos) (zo8 to ti t):=by
 intro pins s σ H v u Q I r h;rw[ha];refine yg (zH (aI (ho pins s σ H _ I h) fun ov s1 ⟨x,H1,I1,r1,q1⟩=>?_));refine yg (zH (aI (hi pins s1 σ H1 _ I1 q1) fun iv s2 ⟨y,H2,I2,r2,q2⟩=>?_));refine yg (Bo (yg (zH (aI (hs pins s2 σ H2 x y v ov iv u _ I2 r1 r2 r q2) fun _ s3 ⟨H3,I3,q3⟩=>?_))));exact wpAny_release ⟨σ,H3,I3,q3⟩
noncomputable def qR(te:TE)(g:TG):TS:=fun D σ H=>te σ H fun x H1=>g x σ H1 D.nx
theorem zeB(he:PE X e te)(hg:PG X tg g)(hs:BO [tg] e pos.line X.env=pure false:=by rfl)(hw:BP [tg] e X.env=pure none:=by rfl)
  (h1:(Ae [tg] X.env).map (·.2)=[Au tg X.env]:=by rfl):PS X (.Assign [tg] e pos) (qR te g):=by
 intro pins s σ H D I h;refine wpAny_Assign_stores (aI (he pins s σ H _ I h) fun v s1 ⟨x,H1,I1,r1,q1⟩=>?_) hs hw;rw[h1];exact aI (hg pins s1 σ H1 x v _ I1 r1 q1) fun _ s2 q=>q
theorem w4(hN:X.N.Nodup)(hi:X.N[i]?=some x)(hx:Loc X.env.scope x)(he:PE X e te)(hs:zB e (some (.Name x pos')) pos.line X.env=pure false:=by rfl)(hf:X.fn x=true\/X.env.scope.names.lookup x=some .local:=by first|exact .inl rfl|exact .inr rfl|assumption) :
  PS X (.Assign [.Name x pos'] e pos) (qR te (qd i)):=by
 intro pins s σ H D I h;refine wpAny_Assign_Name (aI (he pins s σ H _ I h) fun v s1 ⟨y,H1,I1,r1,q1⟩=>?_) hs;exact qO I1 hN hi hx r1 (fun s2 I2=>⟨_,H1,I2,q1⟩) hf
noncomputable def zxt(i j:Nat)(ta:TA):TS:=fun D σ H=>ta σ H fun vs H1=>∃ v w,vs=[v,w]/\D.nx ((σ.set i (some v)).set j (some w)) H1
theorem zuC{y:ir}{b:yh}{px py pt:yn}{kt k2 jA}(hc:X.calm=true)(hN:X.N.Nodup)(hi:X.N[i]?=some x)(hj:X.N[j]?=some y)(e7:i≠j)
  (hx:X.env.scope.names.lookup x=some .local)(hy:X.env.scope.names.lookup y=some .local)(ha:PA X [a,b] ta)
  (hw:BP [.Tuple [.Name x px,.Name y py] kt pt] (.Tuple [a,b] k2 jA) X.env=pure (some [x,y]))
  (hs:BO [.Tuple [.Name x px,.Name y py] kt pt] (.Tuple [a,b] k2 jA) pos.line X.env=pure false:=by rfl) :
  PS X (.Assign [.Tuple [.Name x px,.Name y py] kt pt] (.Tuple [a,b] k2 jA) pos) (zxt i j ta):=by
 intro pins s σ H D I h;rw[exec_Assign_arm];refine yg (Bo ?_);rw[hs];refine yg (yt ?_);rw[if_neg (by decide)];refine yg (Tuple_ (aI (ha _ pins s σ H _ I h) fun us s1 ⟨vs,H1,I1,r1,q1⟩=>?_));obtain⟨v,w,e1,q1⟩:=q1;subst e1;obtain⟨u1,u2,rfl,rv,iO⟩:∃ u1 u2,us=[u1,u2]/\RelV v u1/\RelV w u2:=by
  cases r1 with
  | cons p q =>
   cases q with
   | cons p' q' =>
    cases q';exact⟨_,_,rfl,p,p'⟩
 refine Al ?_ (by show 2<=yz;decide);have I2:Inv X pins σ H1 { s1 with heap:=s1.heap.push { cls:=.type "tuple",data:=.seq [u1,u2].toArray } }:=I1.kept (t':=s1.toks) fun b o e=>yM _ e;rw[hw];refine yg (yt ?_);show yj (ym X.prog X.w) X.A (do rule "assign.swapped-stores";let items <- unpackItems (.ref s1.heap.objs.size) 2 none;Ew [fun v=>CW X.env y v,fun v=>CW X.env x v] items.reverse;pure Flow.next) _ _ _;refine yg (Bz (yg (unpackItems_tuple (items:=#[u1,u2]) (I.ok.hd hc) (CY s1.heap _) fun h' hx'=>?_)));have I3:=I2.kept (h':=h') (t':=s1.toks) fun b o e=>hx' b o (yX (yE e)) e;show yj _ _ (Ew [fun v=>CW X.env y v,fun v=>CW X.env x v] [u2,u1] >>= fun _=>pure Flow.next) _ _ _;refine yg (Ex (wpAny_bindName (qO I3 hN hj (.inl hy) iO (fun s2 I4=>?_) (.inr hy))));refine Ex (wpAny_bindName (qO I4 hN hi (.inl hx) rv (fun s3 I5=>assignInOrder_nil (yt ?_)) (.inr hx)));rw[List.set_comm _ _ (zq e7)]at I5;exact⟨_,H1,I5,q1⟩
end
section
noncomputable def zxz(c:TT)(tb:TS):TS:=fun D σ H=>∃ W:Nat->St->Hp->Prop,(∃ m,W m σ H)/\∀ m σ H,W m σ H ->
 c σ H fun b H1=>if b=true then ∃ N:St->Hp->Prop,(∀ σ' H',N σ' H'->∃ m',m'<m/\W m' σ' H')/\tb { D with nx:=N,ct:=N,bk:=D.nx } σ H1 else D.nx σ H1
theorem zuG(hp:CZ (ym X.prog X.w) X.A X.env X.xe)(hc:PT X c tc)(hb:b9 X body tb):PS X (.While c body [] pos) (zxz tc tb):=by
 intro pins s σ H D I h;obtain⟨W,⟨m0,w0⟩,turn⟩:=h;refine wpAny_While (codeAny_whileLoop (fun n s'=>∃ σ' H',Inv X pins σ' H' s'/\W n σ' H') ?_ m0 ⟨σ,H,I,w0⟩);rintro n s1 ⟨σ1,H1,I1,w1⟩;refine BQ hp (aI (hc pins s1 σ1 H1 _ I1 (turn n σ1 H1 w1)) fun b s2 ⟨H2,I2,q2⟩=>?_);cases b with
 | true =>
  obtain⟨N,hN,q2⟩:=q2;rw[if_pos rfl];refine BQ hp (aI (hb pins s2 σ1 H2 _ I2 q2) fun f s3 q3=>?_);cases f with
  | next =>
   obtain⟨σ3,H3,I3,n3⟩:=q3;obtain⟨m',hm,w3⟩:=hN σ3 H3 n3;exact⟨m',hm,σ3,H3,I3,w3⟩
  | cont =>
   obtain⟨σ3,H3,I3,n3⟩:=q3;obtain⟨m',hm,w3⟩:=hN σ3 H3 n3;exact⟨m',hm,σ3,H3,I3,w3⟩
  | brk=>exact q3
  | ret v=>exact q3
 | false =>
  rw[if_neg zL];exact Cm ⟨σ1,H2,I2,q2⟩
end
structure It where
 go:Nat->Hp->Prop
 ya:Nat->Hp->V->Hp->Prop
 stop:Nat->Hp->Prop
def fT(X:Cx)(pins:List (dm×yp))(H:Hp)(b:dm):Prop :=
 H b=none/\b≠X.env.locals/\b∉X.fs/\(b∈X.ex\/X.s₀.heap.objs.size<=b)/\(∀ x c,X.env.cells.lookup x=some c->c≠b)/\∀ p∈X.pn++pins,p.1≠b
theorem Inv.kH(I:Inv X pins σ H s)(hb:s.heap.objs.size<=b)(hn:H' b=none):fT X pins H' b:=by
 refine⟨hn,AY (zu I.lt hb),I.zjH hb,.inr (zA I.sz hb),fun x c e z=>?_,fun p hp z=>?_⟩
 ·obtain⟨v,q⟩:=I.cell x c e
  exact absurd (zu q.lt (by rw[z];exact hb)) (BJ _)
 ·exact absurd (zu (yE (I.pin p hp).1) (by rw[z];exact hb)) (BJ _)
structure Turn(P:yw)(w:yv)(K:yf)(tg:yh)(J:It)(fp:List dm)(it:dm)(tn:Nat->yo->Prop):Prop where
 mem:it∈fp
 obj:∀ i h,tn i h->∀ b∈fp,∃ o,h.get? b=some o/\∀ v,o.data≠.cell v
 keep:∀ i h h',tn i h->(∀ b∈fp,∀ o,h.get? b=some o->h'.get? b=some o)->tn i h'
 item:∀(X:Cx),X.prog=P->X.w=w->X.K=K->X.calm=true->∀(i:Nat) (pins:List (dm×yp)) (s:kb) (σ:St) (H:Hp) (E:gV->kb->Prop),Inv X pins σ H s->(∀ b∈fp,fT X pins H b)->tn i s.heap->J.go i H ->
  yj (ym P w) X.A (AH (.ref it)) (fun r s1=>∃ u,r=some u /\
   yj (ym P w) X.A (Du tg (.ref it) u) (fun _ s2=>∃ x H',Inv X pins σ H' s2/\RelV x u/\J.ya i H x H'/\tn (i+1) s2.heap/\∀ b∈fp,H' b=none) E s1) E s
 done:∀(X:Cx),X.prog=P->X.w=w->X.K=K->X.calm=true->∀(i:Nat) (pins:List (dm×yp)) (s:kb) (σ:St) (H:Hp) (E:gV->kb->Prop),Inv X pins σ H s->(∀ b∈fp,fT X pins H b)->tn i s.heap->J.stop i H ->
  yj (ym P w) X.A (AH (.ref it)) (fun r s1=>r=none/\Inv X pins σ H s1) E s
 self:∀(A:yy) (i:Nat) (s:kb) (Q:gV->kb->Prop) (E:gV->kb->Prop),tn i s.heap->Q (.ref it) s->yj (ym P w) A (pyIter (.ref it)) Q E s
abbrev TI:=St->Hp->(It->Hp->Prop)->Prop
def PIE(X:Cx)(pins:List (dm×yp))(σ:St)(tg:yh)(R:It->Hp->Prop)(wy:gV)(s2:kb):Prop :=
 ∃(it:dm) (fp:List dm) (tn:Nat->yo->Prop) (J:It) (H':Hp),wy=.ref it/\Inv X pins σ H' s2/\Turn X.prog X.w X.K tg J fp it tn/\tn 0 s2.heap/\(∀ b∈fp,fT X pins H' b)/\R J H'
def PI(X:Cx)(tg iter:yh)(wi:TI):Prop :=
 ∀(pins:List (dm×yp)) (s:kb) (σ:St) (H:Hp) (R:It->Hp->Prop),Inv X pins σ H s->wi σ H R ->
  yj (ym X.prog X.w) X.A (yu iter X.env) (fun v s1=>yj (ym X.prog X.w) X.A (pyIter v) (PIE X pins σ tg R) X.xe s1) X.xe s
theorem zb6{n:String}{Q:Unit->kb->Prop}(ho:s.heap.get? it=some o)(hc:o.cls=.type n)(hd:o.data=.fields vs)
    (hn:["enumerate","zip","dict_itemiterator","dict_reverseitemiterator","odict_iterator","itertools.zip_longest","itertools.pairwise"].contains n=false) (hQ:Q () s):yj M A (Du tg (.ref it) u) Q E s:=by
  unfold Du;cases tg <;> first
    | exact yt hQ
    | (cases u <;> first
        | exact yt hQ
        | (refine yg (wpAny_load ho ?_)
           rw[hc,hd];show yj M A (if(["enumerate","zip","dict_itemiterator","dict_reverseitemiterator","odict_iterator","itertools.zip_longest","itertools.pairwise"].contains n&&vs[0]?==some (zY _))=true then _ else _) Q E s;rw[if_neg (by intro h;rw[hn,Bool.false_and]at h;cases h)];exact yt hQ))
noncomputable def Itl(K:yf)(a:dm):It :=
 ⟨fun i H=>∃ xs x,bq K H a xs/\xs[i]?=some x,fun i H x H'=>H'=H/\∀ xs,bq K H a xs->xs[i]?=some x,fun i H=>∃ xs,bq K H a xs/\xs.length<=i⟩
noncomputable def Itt(K:yf)(a:dm):It :=
 ⟨fun i H=>∃ xs x,dO K H a xs/\xs[i]?=some x,fun i H x H'=>H'=H/\∀ xs,dO K H a xs->xs[i]?=some x,fun i H=>∃ xs,dO K H a xs/\xs.length<=i⟩
noncomputable def rG(lo:Int)(n:Nat):It:=⟨fun i _=>i<n,fun i H x H'=>H'=H/\x=.int (lo+i),fun i _=>n<=i⟩
theorem zx0{K:yf}(a it:dm):Turn P w K tg (Itl K a) [it] it (fun i h=>h.IsListIter it a i) where
 mem:=by simp
 obj:=fun i h st b hb=>by
  have e:b=it:=by simpa using hb
  subst e;obtain⟨o,e,c,d⟩:=st;exact⟨o,e,fun v z=>by rw[d]at z;cases z⟩
 keep:=fun i h h' st k=>st.at fun o e=>k it (by simp) o e
 item:=by
  intro X hP hw hK hc i pins s σ H E I hf st hg;subst hP hw hK;obtain⟨xs,x,hq,hx⟩:=hg;obtain⟨its,rv,p,hz⟩:=I.list hq;obtain⟨u,hu,ru⟩:=rv.get hx;obtain⟨f0,f1,f2,f3,f4,f5⟩:=hf it (by simp);refine wpAny_pyNext_list_item st p.isList (x:=u) (by simpa using hu) fun h' iQ sb=>?_;have I1:Inv X pins σ H { s with heap:=h' }:=I.turned (t':=s.toks) (fun b o hb e=>(sb.2 b hb).trans e) f0 f1 f3 f4 f5;obtain⟨o,e,c,d⟩:=id iQ;exact⟨u,rfl,zb6 (s:={ s with heap:=h' }) e c d (by decide) ⟨x,H,I1,ru,⟨rfl,fun ys hy=>by rw[I.tW hy hq];exact hx⟩,iQ,fun b hb=>(hf b hb).1⟩⟩
 done:=by
  intro X hP hw hK hc i pins s σ H E I hf st hg;subst hP hw hK;obtain⟨xs,hq,hx⟩:=hg;obtain⟨its,rv,p,hz⟩:=I.list hq;obtain⟨f0,f1,f2,f3,f4,f5⟩:=hf it (by simp);have hl:=rv.length;exact wpAny_pyNext_list_end (I.ok.hd hc) st p.isList (by simp;omega) fun h' eb=>⟨rfl,I.turned (t':=s.toks) (fun b o hb e=>eb b o hb e) f0 f1 f3 f4 f5⟩
 self:=fun _ _ _ _ _ st h=>wpAny_pyIter_listiter st h
theorem zx3{K:yf}(a it:dm):Turn P w K tg (Itt K a) [it] it (fun i h=>h.IsTupleIter it a i) where
 mem:=by simp
 obj:=fun i h st b hb=>by
  have e:b=it:=by simpa using hb
  subst e;obtain⟨o,e,c,d⟩:=st;exact⟨o,e,fun v z=>by rw[d]at z;cases z⟩
 keep:=fun i h h' st k=>st.at fun o e=>k it (by simp) o e
 item:=by
  intro X hP hw hK hc i pins s σ H E I hf st hg;subst hP hw hK;obtain⟨xs,x,hq,hx⟩:=hg;obtain⟨its,rv,p,hz⟩:=I.tuple hq;obtain⟨u,hu,ru⟩:=rv.get hx;obtain⟨f0,f1,f2,f3,f4,f5⟩:=hf it (by simp);refine wpAny_pyNext_tuple_item st (show s.heap.IsTuple a its.toArray from p) (x:=u) (by simpa using hu) fun h' iQ sb=>?_;have I1:Inv X pins σ H { s with heap:=h' }:=I.turned (t':=s.toks) (fun b o hb e=>(sb.2 b hb).trans e) f0 f1 f3 f4 f5;obtain⟨o,e,c,d⟩:=id iQ;exact⟨u,rfl,zb6 (s:={ s with heap:=h' }) e c d (by decide) ⟨x,H,I1,ru,⟨rfl,fun ys hy=>by rw[I.zla hy hq];exact hx⟩,iQ,fun b hb=>(hf b hb).1⟩⟩
 done:=by
  intro X hP hw hK hc i pins s σ H E I hf st hg;subst hP hw hK;obtain⟨xs,hq,hx⟩:=hg;obtain⟨its,rv,p,hz⟩:=I.tuple hq;obtain⟨f0,f1,f2,f3,f4,f5⟩:=hf it (by simp);have hl:=rv.length;exact wpAny_pyNext_tuple_end (I.ok.hd hc) st (show s.heap.IsTuple a its.toArray from p) (by simp;omega) fun h' eb=>⟨rfl,I.turned (t':=s.toks) (fun b o hb e=>eb b o hb e) f0 f1 f3 f4 f5⟩
 self:=fun _ _ _ _ _ st h=>wpAny_pyIter_tupleiter st h
theorem zx2{K:yf}(it:dm)(lo:Int)(n:Nat):Turn P w K tg (rG lo n) [it] it (fun i h=>IsRangeIter h it (lo+(i:Nat)*1) ((n:Int)-(i:Nat)) 1) where
 mem:=by simp
 obj:=fun i h st b hb=>by
  have e:b=it:=by simpa using hb
  subst e;exact⟨_,st,fun v z=>by
   have z':Data.fields _=Data.cell v:=z;cases z'⟩
 keep:=fun i h h' st k=>k it (by simp) _ st
 item:=by
  intro X hP hw hK hc i pins s σ H E I hf st hg;subst hP hw hK;obtain⟨f0,f1,f2,f3,f4,f5⟩:=hf it (by simp);have W:=Walks.range (prog:=X.prog) (w:=X.w) (I.ok.hd hc) it lo 1 n;refine W.item i s _ _ hg st fun v h' tk hv iQ kk=>?_;obtain⟨t,rfl⟩:=hv;have I1:Inv X pins σ H { s with heap:=h',toks:=tk }:=I.turned (fun b o hb e=>kk b o (by simpa using hb) e) f0 f1 f3 f4 f5;refine⟨_,rfl,zb6 (s:={ s with heap:=h',toks:=tk }) (n:="range_iterator") iQ rfl rfl (by decide) ⟨.int (lo+i),H,I1,⟨t,?_⟩,⟨rfl,rfl⟩,iQ,fun b hb=>(hf b hb).1⟩⟩;rw[Int.mul_one]
 done:=by
  intro X hP hw hK hc i pins s σ H E I hf st hg;subst hP hw hK;obtain⟨f0,f1,f2,f3,f4,f5⟩:=hf it (by simp);exact wpAny_pyNext_range_end (I.ok.hd hc) st (by have:n<=i:=hg;omega) fun h' eb=>⟨rfl,I.turned (t':=s.toks) (fun b o hb e=>eb b o hb e) f0 f1 f3 f4 f5⟩
 self:=fun _ _ _ _ _ st h=>wpAny_pyIter_rangeiter st h
end
variable {fp:List dm}{p:yn}{tk:Nat}{tc:TE}{wi:TI}{iter:yh}
section
section
theorem zkG{R:It->Hp->Prop}{lo hi:Int}{t u v:yP}(I:Inv X pins σ H s)(h1:-(2^62)<=lo)(h2:lo<2^62)(h3:-(2^62)<=hi)(h4:hi<2^62)
  (q:R (rG lo (hi-lo).toNat) H):yj (ym X.prog X.w) X.A (pyIter (.ref s.heap.objs.size)) (PIE X pins σ tg R) E { s with heap:=s.heap.push { cls:=.type "range",data:=.fields #[.int lo t,.int hi u,.int 1 v] },toks:=tk }:=by
 refine wpAny_pyIter_range (IsRange.new ..) (small_one h1 h2 h3 h4) ?_;have I1:Inv X pins σ H { s with heap:=s.heap.push { cls:=.type "range",data:=.fields #[.int lo t,.int hi u,.int 1 v] },toks:=tk }:=I.kept fun b o e=>yM _ e;refine⟨(s.heap.push { cls:=.type "range",data:=.fields #[.int lo t,.int hi u,.int 1 v] }).objs.size,[(s.heap.push { cls:=.type "range",data:=.fields #[.int lo t,.int hi u,.int 1 v] }).objs.size],_,_,H,rfl,
  I1.kept (t':=tk) fun b o e=>yM _ e,zx2 _ lo (hi-lo).toNat,?_,fun b hb=>?_,q⟩
 ·have e1:lo+((0:Nat):Int)*1=lo:=by simp
  have e2:(((hi-lo).toNat:Nat):Int)-((0:Nat):Int)=Builtin.Range.rangeSize lo hi 1:=by rw[rangeSize_one];split <;> omega
  show IsRangeIter _ _ (lo+((0:Nat):Int)*1) ((((hi-lo).toNat:Nat):Int)-((0:Nat):Int)) 1;rw[e1,e2];exact y9 _ rfl
 ·have e:b=(s.heap.push { cls:=.type "range",data:=.fields #[.int lo t,.int hi u,.int 1 v] }).objs.size:=by simpa using hb
  subst e;exact I1.kH (yA _) (I1.au.fresh (yA _))
def zpM(ta:TA):TI:=fun σ H R=>ta σ H fun vs H1=>∃ j:Int,vs=[.int j]/\-(2^62)<=j/\j<2^62/\R (rG 0 j.toNat) H1
def zpN(ta:TA):TI:=fun σ H R=>ta σ H fun vs H1=>∃ i j:Int,vs=[.int i,.int j]/\(-(2^62)<=i/\i<2^62/\-(2^62)<=j/\j<2^62)/\R (rG i (j-i).toNat) H1
theorem zuf(hg:Gl X "range")(hm:X.mg "range"=none)(ha:PA X [a] ta)(hs:yi [a] X.env=[(false,yu a X.env)]:=by rfl):PI X tg (.Call (.Name "range" p) [a] [] pos) (zpM ta):=by
 intro pins s σ H R I h;refine Call_ (oH I hg hm boot_range (C0 (aI (ha pos pins s σ H _ I h) fun us s1 ⟨vs,H1,I1,r1,q1⟩=>?_) hs rfl));obtain⟨j,e,q1,q2,q⟩:=q1;subst e;cases r1 with
 | cons r rr =>
  cases rr;obtain⟨t,rfl⟩:=r;exact call_range_1 (zkG I1 (by omega) (by omega) q1 q2 (by simpa using q))
theorem zug{b:yh}(hg:Gl X "range")(hm:X.mg "range"=none)(ha:PA X [a,b] ta)(hs:yi [a,b] X.env=[(false,yu a X.env),(false,yu b X.env)]:=by rfl)(c7:yi [b] X.env=[(false,yu b X.env)]:=by rfl) :
  PI X tg (.Call (.Name "range" p) [a,b] [] pos) (zpN ta):=by
 intro pins s σ H R I h;refine Call_ (oH I hg hm boot_range (C0 (aI (ha pos pins s σ H _ I h) fun us s1 ⟨vs,H1,I1,r1,q1⟩=>?_) (by rw[hs,c7]) (by rw[c7];rfl)));obtain⟨i,j,e,⟨q1,q2,q3,q4⟩,q⟩:=q1;subst e;cases r1 with
 | cons r rr =>
  cases rr with
  | cons r' rr =>
   cases rr;obtain⟨t,rfl⟩:=r;obtain⟨t',rfl⟩:=r';exact call_range_2 (zkG I1 q1 q2 q3 q4 q)
noncomputable def zxl(wi:TI)(g:TG)(tb:TS):TS:=fun D σ H=>wi σ H fun J H1=>∃ W:Nat->Nat->St->Hp->Prop,(∃ m,W 0 m σ H1)/\∀ i m σ H,W i m σ H ->
 (J.stop i H/\D.nx σ H)\/(J.go i H/\∃ N:St->Hp->Prop,(∀ σ' H',N σ' H'->∃ m',m'<m/\W (i+1) m' σ' H')/\∀ x H',J.ya i H x H'->g x σ H' fun σ2 H2=>tb { D with nx:=N,ct:=N,bk:=D.nx } σ2 H2)
noncomputable def uj(fp:List dm)(h:yo):List (dm×yp):=fp.filterMap fun b=>(h.get? b).map fun o=>(b,o)
theorem wG(hb:b∈fp)(e:h.get? b=some o):(b,o)∈uj fp h:=Ey.mpr ⟨b,hb,by rw[e];rfl⟩
theorem zth{p:dm×yp}(hp:p∈uj fp h):p.1∈fp/\h.get? p.1=some p.2:=by
 obtain⟨b,hb,e⟩:=Ey.mp hp;cases q:h.get? b with
 | none=>rw[q]at e;cases e
 | some o =>
  rw[q]at e;have e':(b,o)=p:=zt e;subst e';exact⟨hb,q⟩
theorem Inv.pinned(I:Inv X pins σ H s)(hf:∀ b∈fp,fT X pins H b)(ho:∀ b∈fp,∃ o,s.heap.get? b=some o/\∀ v,o.data≠.cell v):Inv X (pins++uj fp s.heap) σ H s :=
 I.zj6 fun p hp=>(BL.mp hp).elim (fun z=>I.pin p (AI _ z)) fun z=>by
  obtain⟨hb,e⟩:=zth z;obtain⟨f0,f1,f2,_⟩:=hf p.1 hb;obtain⟨o,e',d⟩:=ho p.1 hb;rw[e]at e';cases e'
  exact⟨e,f0,f1,f2,d⟩
theorem Inv.xZ{pl:List (dm×yp)}(I:Inv X (pins++pl) σ H s):Inv X pins σ H s:=I.zj6 fun p hp=>I.pin p (AI _ (Ci _ hp))
theorem zuA(hp:CZ (ym X.prog X.w) X.A X.env X.xe)(hc:X.calm=true)(hi:PI X tg iter wi)(hg:PG X tg g)(hb:b9 X body tb)
  (hs:∀ x,zI iter X.env x=pure x:=by intro _;rfl):PS X (.For tg iter body [] pos) (zxl wi g tb):=by
 intro pins s σ H D I h;refine wpAny_For (aI (hi pins s σ H _ I h) fun v s1 h1=>aI h1 fun wy s2 h2=>?_) hs;obtain⟨it,fp,tn,J,H2,e,I2,T,cg,f2,W,⟨m0,w0⟩,turn⟩:=h2;subst e;have stat:∀{H':Hp},(∀ b∈fp,H' b=none)->∀ b∈fp,fT X pins H' b:=fun hn b hb=>⟨hn b hb,(f2 b hb).2⟩;refine codeAny_forLoop_any (fun n s'=>∃ i σ' H',Inv X pins σ' H' s'/\tn i s'.heap/\(∀ b∈fp,H' b=none)/\W i n σ' H') ?_ m0 ⟨0,σ,H2,I2,cg,fun b hb=>(f2 b hb).1,w0⟩;rintro n s3 ⟨i,σ3,H3,I3,o9,fr3,w3⟩;rcases turn i n σ3 H3 w3 with⟨stop,qn⟩|⟨go,N,hN,step⟩
 ·refine BQ hp (aI (T.done X rfl rfl rfl hc i pins s3 σ3 H3 X.xe I3 (stat fr3) o9 stop) fun r s4 ⟨hr,I4⟩=>?_)
  subst hr;exact Cm ⟨σ3,H3,I4,qn⟩
 ·refine BQ hp (aI (T.item X rfl rfl rfl hc i pins s3 σ3 H3 X.xe I3 (stat fr3) o9 go) fun r s4 ⟨u,hr,h4⟩=>?_)
  subst hr;refine BQ hp (aI h4 fun _ s5 ⟨x,H5,I5,r5,y5,jD,fr5⟩=>?_);have I5':=I5.pinned (stat fr5) (T.obj _ _ jD);refine BQ hp (aI (hg _ s5 σ3 H5 x u _ I5' r5 (step x H5 y5)) fun _ s6 ⟨σ6,H6,I6,q6⟩=>?_);refine BQ hp (aI (hb _ s6 σ6 H6 _ I6 q6) fun f s7 q7=>?_);have again:∀{σ7:St} {H7:Hp},Inv X (pins++uj fp s5.heap) σ7 H7 s7->N σ7 H7->∃ m,m<n/\∃ i σ' H',Inv X pins σ' H' s7/\tn i s7.heap/\(∀ b∈fp,H' b=none)/\W i m σ' H':=fun{σ7 H7} I7 n7=>by
   obtain⟨m',hm,w7⟩:=hN σ7 H7 n7;refine⟨m',hm,i+1,σ7,H7,I7.xZ,T.keep _ _ _ jD fun b hb o e=>(I7.pin (b,o) (AI _ (AI _ (wG hb e)))).1,fun b hb=>?_,w7⟩;obtain⟨o,e,d⟩:=T.obj _ _ jD b hb;exact(I7.pin (b,o) (AI _ (AI _ (wG hb e)))).2.1
  cases f with
  | next=>obtain⟨σ7,H7,I7,n7⟩:=q7;exact again I7 n7
  | cont=>obtain⟨σ7,H7,I7,n7⟩:=q7;exact again I7 n7
  | brk=>obtain⟨σ7,H7,I7,q7⟩:=q7;exact⟨σ7,H7,I7.xZ,q7⟩
  | ret v=>obtain⟨x7,σ7,H7,I7,r7,q7⟩:=q7;exact⟨x7,σ7,H7,I7.xZ,r7,q7⟩
end
end
variable {gL op:Av}{b:yh}{f:gV->gV->zk gV}{ta tb:TE}{o:Option gV}{g:Int->Int->Int}{r r':R2}{κ:Type}{its:List gV}{C:Int->Int->Prop}
section
abbrev R2:=V->V->Hp->VK->Prop
def aQ(X:Cx)(f:gV->gV->zk gV)(r:R2):Prop :=
 ∀(pins:List (dm×yp)) (s:kb) (σ:St) (H:Hp) (x y:V) (v u:gV) (Q:VK),Inv X pins σ H s->RelV x v->RelV y u->r x y H Q ->
  yj (ym X.prog X.w) X.A (f v u) (EP X pins σ Q) X.xe s
def rS(X:Cx)(f:gV->zk gV)(r:V->Hp->VK->Prop):Prop :=
 ∀(pins:List (dm×yp)) (s:kb) (σ:St) (H:Hp) (x:V) (v:gV) (Q:VK),Inv X pins σ H s->RelV x v->r x H Q ->
  yj (ym X.prog X.w) X.A (f v) (EP X pins σ Q) X.xe s
def gB(X:Cx)(f:gV)(r:List V->Hp->VK->Prop):Prop :=
 ∀(pins:List (dm×yp)) (s:kb) (σ:St) (H:Hp) (xs:List V) (us:List gV) (Q:VK),Inv X pins σ H s->Vals xs us->r xs H Q ->
  yj (ym X.prog X.w) X.A (call f us) (EP X pins σ Q) X.xe s
def zax(X:Cx)(r:V->Hp->(Bool->Hp->Prop)->Prop):Prop :=
 ∀(pins:List (dm×yp)) (s:kb) (σ:St) (H:Hp) (x:V) (v:gV) (Q:Bool->Hp->Prop),Inv X pins σ H s->RelV x v->r x H Q ->
  yj (ym X.prog X.w) X.A (truthy v) (TP X pins σ Q) X.xe s
noncomputable def ph(r:R2)(ta tb:TE):TE:=fun σ H Q=>ta σ H fun x H1=>tb σ H1 fun y H2=>r x y H2 Q
noncomputable def tUn(r:V->Hp->VK->Prop)(ta:TE):TE:=fun σ H Q=>ta σ H fun x H1=>r x H1 Q
noncomputable def rI(C:Int->Int->Prop)(g:Int->Int->V):R2:=fun x y H Q=>∃ i j,x=.int i/\y=.int j/\C i j/\Q (g i j) H
noncomputable def ll(g:Int->Int->V):R2:=fun x y H Q=>∃ i j,x=.int i/\y=.int j/\Q (g i j) H
noncomputable def rU(g:Int->V):V->Hp->VK->Prop:=fun x H Q=>∃ i,x=.int i/\Q (g i) H
section
theorem zaG(ha:PE X a ta)(hb:PE X b tb){R:V->V->Hp->Prop}(I:Inv X pins σ H s)
  (h:ta σ H fun x H1=>tb σ H1 fun y H2=>R x y H2)
  (hf:∀ v u s2 x y H2,Inv X pins σ H2 s2->RelV x v->RelV y u->R x y H2->yj (ym X.prog X.w) X.A (f v u) Q X.xe s2) :
  yj (ym X.prog X.w) X.A (yu a X.env) (fun v s₁=>yj (ym X.prog X.w) X.A (yu b X.env) (fun u s₂=>yj (ym X.prog X.w) X.A (f v u) Q X.xe s₂) X.xe s₁) X.xe s:=by
 refine aI (ha pins s σ H _ I h) fun v s1 ⟨x,H1,I1,r1,q1⟩=>?_;refine aI (hb pins s1 σ H1 _ I1 q1) fun u s2 ⟨y,H2,I2,r2,q2⟩=>?_;exact hf v u s2 x y H2 I2 r1 r2 q2
theorem zjZ{op:Operator}(ho:aQ X (zZ op) r)(ha:PE X a ta)(hb:PE X b tb):PE X (.BinOp a op b pos) (ph r ta tb):=by
 intro pins s σ H Q I h;exact wpAny_BinOp (zaG ha hb I h fun v u s2 x y H2 I2 rx ry q=>ho pins s2 σ H2 x y v u Q I2 rx ry q)
theorem zt7{op:UnaryOp}{r:V->Hp->VK->Prop}(ho:rS X (unaryOp op) r)(ha:PE X a ta):PE X (.UnaryOp op a pos) (tUn r ta):=by
 intro pins s σ H Q I h;exact UnaryOp_ (aI (ha pins s σ H _ I h) fun v s1 ⟨x,H1,I1,r1,q1⟩=>ho pins s1 σ H1 x v Q I1 r1 q1)
theorem opI
  (rule:∀(i j:Int) (t u:yP) (s:kb) (Q:gV->kb->Prop) (E:gV->kb->Prop),C i j->Q (.int (g i j) s.toks) { s with toks:=s.toks+1 }->yj (ym X.prog X.w) X.A (f (.int i t) (.int j u)) Q E s) :
  aQ X f (rI C fun i j=>.int (g i j)):=by
 intro pins s σ H x y v u Q I rx ry h;obtain⟨i,j,rfl,rfl,hc,q⟩:=h;obtain⟨t,rfl⟩:=rx;obtain⟨t',rfl⟩:=ry;exact rule i j t t' s _ _ hc ⟨.int (g i j),H,I.tok _,⟨_,rfl⟩,q⟩
theorem zjN
  (rule:∀(i j:Int) (t u:yP) (s:kb) (Q:gV->kb->Prop) (E:gV->kb->Prop),Q (.int (g i j) s.toks) { s with toks:=s.toks+1 }->yj (ym X.prog X.w) X.A (f (.int i t) (.int j u)) Q E s) :
  aQ X f (ll fun i j=>.int (g i j)):=by
 intro pins s σ H x y v u Q I rx ry h;obtain⟨i,j,rfl,rfl,q⟩:=h;obtain⟨t,rfl⟩:=rx;obtain⟨t',rfl⟩:=ry;exact rule i j t t' s _ _ ⟨.int (g i j),H,I.tok _,⟨_,rfl⟩,q⟩
theorem zd5{g:Int->Int->Bool}
  (rule:∀(i j:Int) (t u:yP) (s:kb) (Q:gV->kb->Prop) (E:gV->kb->Prop),Q (.bool (g i j)) s->yj (ym X.prog X.w) X.A (f (.int i t) (.int j u)) Q E s) :
  aQ X f (ll fun i j=>.bl (g i j)):=by
 intro pins s σ H x y v u Q I rx ry h;obtain⟨i,j,rfl,rfl,q⟩:=h;obtain⟨t,rfl⟩:=rx;obtain⟨t',rfl⟩:=ry;exact rule i j t t' s _ _ ⟨.bl (g i j),H,I,rfl,q⟩
def zfG(i j:Int):Prop:=0<=j/\j<=1000000/\i.natAbs<2^64
theorem ztk:aQ X (zZ .Add) (ll fun i j=>.int (i+j)):=zjN fun _ _ _ _ _ _ _ q=>add_int q
theorem ztz:aQ X (zZ .Sub) (ll fun i j=>.int (i-j)):=zjN fun _ _ _ _ _ _ _ q=>sub_int q
theorem ztu:aQ X (zZ .Mod) (rI (fun _ j=>j≠0) fun i j=>.int (i.fmod j)):=opI fun _ _ _ _ _ _ _ hc q=>mod_int' hc q
theorem ztx:aQ X (zZ .Pow) (rI zfG fun i j=>.int (i^j.toNat)):=opI fun _ _ _ _ _ _ _ hc q=>pow_int_small hc.1 hc.2.1 hc.2.2 q
theorem unI{f:gV->zk gV}{g:Int->Int}
  (rule:∀(i:Int) (t:yP) (s:kb) (Q:gV->kb->Prop) (E:gV->kb->Prop),Q (.int (g i) s.toks) { s with toks:=s.toks+1 }->yj (ym X.prog X.w) X.A (f (.int i t)) Q E s) :
  rS X f (rU fun i=>.int (g i)):=by
 intro pins s σ H x v Q I rx h;obtain⟨i,rfl,q⟩:=h;obtain⟨t,rfl⟩:=rx;exact rule i t s _ _ ⟨.int (g i),H,I.tok _,⟨_,rfl⟩,q⟩
theorem zya:rS X (unaryOp .USub) (rU fun i=>.int (-i)):=unI fun _ _ _ _ _ q=>neg_int q
end
section
theorem zik{Q:VK}{k k':Bool}(I:Inv X pins σ H s)(q:Q (.bl k) H)(e:k=k'):EP X pins σ Q (.bool k') s:=by
 subst e;exact⟨.bl k,H,I,rfl,q⟩
theorem ztt:aQ X (yG .Lt) (ll fun i j=>.bl (decide (i<j))):=zd5 fun _ _ _ _ _ _ _ q=>lt_int q
theorem zts:aQ X (yG .LtE) (ll fun i j=>.bl (decide (i<=j))):=zd5 fun _ _ _ _ _ _ _ q=>le_int q
theorem zto:aQ X (yG .GtE) (ll fun i j=>.bl (decide (j<=i))):=zd5 fun _ _ _ _ _ _ _ q=>ge_int q
theorem ztr:aQ X (yG .Is) (fun x y H Q=>y=.non/\Q (.bl (decide (x=.non))) H):=by
 intro pins s σ H x y v u Q I rx ry h;obtain⟨rfl,q⟩:=h;cases ry;refine is_none_gen (zik I q ?_);cases x <;> first
  | (cases rx;rfl)
  | (obtain⟨t,rfl⟩:=rx;rfl)
theorem zjO:aQ X (yG .IsNot) (fun x y H Q=>y=.non/\Q (.bl (!decide (x=.non))) H):=by
 intro pins s σ H x y v u Q I rx ry h;obtain⟨rfl,q⟩:=h;cases ry;refine isnot_none_gen (zik I q ?_);cases x <;> first
  | (cases rx;rfl)
  | (obtain⟨t,rfl⟩:=rx;rfl)
theorem wO(b:yh)(h:op≠.In:=by decide)(h2:op≠.NotIn:=by decide):Bc op b=false:=by
 have e1:(op==CmpOp.In)=false:=by cases op <;> first|rfl|exact absurd rfl h
 have e2:(op==CmpOp.NotIn)=false:=by cases op <;> first|rfl|exact absurd rfl h2
 cases b <;> simp[Bc,e1,e2]
theorem ztO(ho:aQ X (yG op) r)(ha:PE X a ta)(hb:PE X b tb)(hm:Bc op b=false):PE X (.Compare a [op] [b] pos) (ph r ta tb):=by
 intro pins s σ H Q I h;exact wpAny_Compare1 (zaG ha hb I h fun v u s2 x y H2 I2 rx ry q=>ho pins s2 σ H2 x y v u Q I2 rx ry q) hm
noncomputable def zk5(t:TE):TT:=fun σ H Q=>t σ H fun x H'=>∃ k,x=.bl k/\Q k H'
theorem xg(ho:aQ X (yG op) r)(ha:PE X a ta)(hb:PE X b tb)(hm:Bc op b=false):PT X (.Compare a [op] [b] pos) (zk5 (ph r ta tb)):=by
 intro pins s σ H Q I h;refine wpAny_isTrue_Compare1 (aI (ha pins s σ H _ I h) fun v s1 ⟨x,H1,I1,r1,q1⟩=>aI (hb pins s1 σ H1 _ I1 q1) fun u s2 ⟨y,H2,I2,r2,q2⟩ =>
  aI (ho pins s2 σ H2 x y v u _ I2 r1 r2 q2) fun c s3 ⟨z,H3,I3,r3,k,e,q3⟩=>?_) hm
 subst e;cases r3;exact BM ⟨H3,I3,q3⟩
noncomputable def zfq(r r':R2)(ta tb tc:TE):TE:=fun σ H Q=>ta σ H fun x H1=>tb σ H1 fun y H2=>r x y H2 fun z H3=>∃ k,z=.bl k /\
 (if k=true then tc σ H3 fun w' H4=>r' y w' H4 Q else Q (.bl false) H3)
theorem ztN(ho:aQ X (yG op) r)(eS:aQ X (yG gL) r')(ha:PE X a ta)(hb:PE X b tb)(hc:PE X c tc)
  (hm:lastMarks [op,gL] [b,c]=false:=by with_unfolding_all rfl):PE X (.Compare a [op,gL] [b,c] pos) (zfq r r' ta tb tc):=by
 intro pins s σ H Q I h;refine Compare_chain (aI (ha pins s σ H _ I h) fun v s1 ⟨x,H1,I1,r1,q1⟩=>chain_link (aI (hb pins s1 σ H1 _ I1 q1) fun u s2 ⟨y,H2,I2,r2,q2⟩ =>
  aI (ho pins s2 σ H2 x y v u _ I2 r1 r2 q2) fun d s3 ⟨z,H3,I3,r3,k,e,q3⟩=>?_)) hm
 subst e;cases r3;refine BM ?_;cases k with
 | false=>exact ite_ff ⟨.bl false,H3,I3,rfl,q3⟩
 | true=>exact ite_tt (chain_last (aI (hc pins s3 σ H3 _ I3 q3) fun w' s4 ⟨z',H4,I4,r4,q4⟩=>eS pins s4 σ H4 y z' u w' Q I4 r2 r4 q4))
theorem zuV(ho:aQ X (yG op) r)(eS:aQ X (yG gL) r')(ha:PE X a ta)(hb:PE X b tb)(hc:PE X c tc)
  (hm:lastMarks [op,gL] [b,c]=false:=by with_unfolding_all rfl):PT X (.Compare a [op,gL] [b,c] pos) (zk5 (zfq r r' ta tb tc)):=by
 intro pins s σ H Q I h;refine isTrue_chain (aI (ha pins s σ H _ I h) fun v s1 ⟨x,H1,I1,r1,q1⟩=>test_link (aI (hb pins s1 σ H1 _ I1 q1) fun u s2 ⟨y,H2,I2,r2,q2⟩ =>
  aI (ho pins s2 σ H2 x y v u _ I2 r1 r2 q2) fun d s3 ⟨z,H3,I3,r3,k,e,q3⟩=>?_)) hm
 subst e;cases r3;refine BM ?_;cases k with
 | false =>
  obtain⟨k',e',q'⟩:=q3;cases e';exact ite_ff ⟨H3,I3,q'⟩
 | true =>
  refine ite_tt (test_last (aI (hc pins s3 σ H3 _ I3 q3) fun w' s4 ⟨z',H4,I4,r4,q4⟩=>aI (eS pins s4 σ H4 y z' u w' _ I4 r2 r4 q4) fun d' s5 ⟨z2,H5,I5,r5,k2,e2,q5⟩=>?_));subst e2;cases r5;exact BM ⟨H5,I5,q5⟩
def zmh(K:yf)(x:V)(H:Hp)(k:Bool):Prop :=
 match x with
 | .non=>k=false
 | .bl b=>k=b
 | .int i=>k=(i != 0)
 | .str y=>y.length<=yz/\k=((y.length:Int) != 0)
 | .byt y=>y.size<=yz/\k=((y.size:Int) != 0)
 | .ref p=>(∃ xs,bq K H p xs/\k=!xs.isEmpty)\/(∃ xs,dO K H p xs/\k=!xs.isEmpty)\/∃ ag,H p=some (.dK ag)/\k=!ag.isEmpty
 | _=>False
theorem zpX{ag:List (κ×V)}{vs:List (κ×gV)}(r:KV ag vs):(!vs.isEmpty)=!ag.isEmpty:=by
 cases r <;> rfl
theorem ziO(r:Vals xs its):(!its.toArray.isEmpty)=!xs.isEmpty:=by
 cases r <;> simp
theorem tR:(yz:Nat)<2^63:=by rw[zC];decide
theorem zxV:zax X (fun x H Q=>∃ k,zmh X.K x H k/\Q k H):=by
 intro pins s σ H x v Q I rx h;obtain⟨k,e,q⟩:=h;have hl:=tR;have hs:yz=16777216:=zC;cases x with
 | non =>
  cases rx;have e':k=false:=e;subst e';exact truthy_none ⟨H,I,q⟩
 | bl b =>
  cases rx;have e':k=b:=e;subst e';exact BM ⟨H,I,q⟩
 | int i =>
  obtain⟨t,rfl⟩:=rx;have e':k=(i != 0):=e;subst e';exact PySem.P.truthy_int ⟨H,I,q⟩
 | str y =>
  obtain⟨t,rfl⟩:=rx;obtain⟨hy,e'⟩:y.length<=yz/\k=((y.length:Int) != 0):=e;subst e';exact PySem.P.truthy_str (by omega) ⟨H,I.tok _,q⟩
 | byt y =>
  obtain⟨t,rfl⟩:=rx;obtain⟨hy,e'⟩:y.size<=yz/\k=((y.size:Int) != 0):=e;subst e';exact PySem.W.truthy_bytes (by omega) ⟨H,I.tok _,q⟩
 | ref p =>
  cases rx;have e':(∃ xs,bq X.K H p xs/\k=!xs.isEmpty)\/(∃ xs,dO X.K H p xs/\k=!xs.isEmpty)\/∃ ag,H p=some (.dK ag)/\k=!ag.isEmpty:=e;rcases e' with⟨xs,hx,e'⟩|⟨xs,hx,e'⟩|⟨ag,hx,e'⟩
  ·subst e'
   obtain⟨its,r,pl,hz⟩:=I.list hx;have hlen:=r.length;exact wpAny_truthy_list pl.isList (by simp only[yU];omega) ⟨H,I.tok _,by rw[ziO r];exact q⟩
  ·subst e'
   obtain⟨its,r,pl,hz⟩:=I.tuple hx;have hlen:=r.length;exact truthy_tuple pl (by simp only[yU];omega) ⟨H,I.tok _,by rw[ziO r];exact q⟩
  ·subst e'
   obtain⟨hz,hS,vs,r,m⟩:ag.length<=yz/\(p==AW)=false/\∃ vs,KV ag vs/\s.heap.DictOf (gf X.prog X.w) p vs:=I.au p _ hx;have hlen:ag.length=vs.length:=CU r;exact wpAny_truthy_dict hS m (by omega) ⟨H,I.tok _,by rw[zpX r];exact q⟩
 | _=>exact(show False from e).elim
theorem vals1{x:V}(r:Vals [x] us):∃ u,us=[u]/\RelV x u:=by
 cases r with
 | cons r1 r2=>cases r2;exact⟨_,rfl,r1⟩
theorem vals2{x:V}(r:Vals [x,y] us):∃ u w',us=[u,w']/\RelV x u/\RelV y w':=by
 cases r with
 | cons r1 r2 =>
  cases r2 with
  | cons r3 r4=>cases r4;exact⟨_,_,rfl,r1,r3⟩
theorem zna:gB X (.builtin "abs") (fun xs H Q=>∃ i,xs=[.int i]/\Q (.int (if i<0 then -i else i)) H):=by
 intro pins s σ H xs us Q I r h;obtain⟨i,rfl,q⟩:=h;obtain⟨u,rfl,t,rfl⟩:=vals1 r;exact call_abs_int fun u tk=>⟨.int (if i<0 then -i else i),H,I.tok _,⟨_,rfl⟩,q⟩
end
end
variable {mA:ir->Option gV}{f m name:ir}{C a dx g:dm}{prog:yw}{b expr:Bool}{ns:List ir}{kw:List (ir×gV)}{vs:List gV}{env:yC}{r:List V->Hp->VK->Prop}
section
structure nH(h:yo)(x dx C:dm)(mA:ir->Option gV):Prop where
 obj:h.get? x=some (Bw C dx)
 ns:h.Ns1 dx mA
 ne:dx≠x
theorem zsb(n:h.Ns1 dx mA):∃ od,h.get? dx=some od/\∀ name,Dv name od=some (mA name):=by
 obtain⟨o,es,ep,ho,hd,hk,_,hm⟩:=n;refine⟨o,ho,fun name=>?_⟩;have e:=hm name;unfold nsFind findBy at e;rw[<- Array.find?_toList]at e;unfold Dv;rw[hd];dsimp only
 split
 ·rename_i y q
  rw[q]at e;exact congrArg some e
 ·rename_i q
  rw[q]at e;have a:es.toList.any (·.refKey)=false:=by
   rw[List.any_eq_false];intro y hy;obtain⟨z,t,zpA⟩:=hk y (Array.mem_toList_iff.mp hy);simp[DictEntry.refKey,zpA]
  have a':¬ es.toList.any (·.refKey)=true:=by rw[a];exact zL
  rw[if_neg a'];exact congrArg some e
theorem nH.look{x:dm}(I:nH h x dx C mA):∃ od,BR h x (Bw C dx) C (some od)/\∀ name,Dv name od=some (mA name) :=
 let⟨od,ho,hl⟩:=zsb I.ns
 ⟨od,⟨I.obj,rfl,rfl,ho⟩,hl⟩
section
variable {K:yf}{x f:dm}{v:gV}
theorem get_map(X:K.In s.heap)(I:nH s.heap x dx C mA)(hg:C1 K C name=true)(hh:Dw K C=true)
  (ha:zE K (.ref C) name=some none)(hv:mA name=some v)(hv':FI v=true)(h:Q v { s with toks:=s.toks+1 }) :
  yj (ym prog w) A (getAttr (.ref x) name expr) Q E s:=by
 obtain⟨od,J,hl⟩:=I.look;exact PySem.W.get_value X J (Ez hg).1 (PySem.W.findObj_own hh ha rfl (by rw[hl,hv])) hv' h
theorem zpd{pl:zk Bool}{Q:gV×List gV->kb->Prop}(X:K.In s.heap)(I:nH s.heap x dx C mA)(hg:C1 K C name=true)
  (hf:zE K (.ref C) name=some (some (.ref f)))(ht:Cp K (.ref f)=true)(hv:mA name=none)(h:Q (.ref f,[.ref x]) s) :
  yj (ym prog w) A (Cq (.ref x) name pl) Q E s:=by
 obtain⟨od,J,hl⟩:=I.look;exact PySem.W.method_fn X J (Ez hg).1 (Ez hg).2 hf (beq_iff_eq.mp ht) (by show(Dv name od).map (·.isSome)=some false;rw[hl,hv];rfl) h
theorem zwW{Q:Unit->kb->Prop}(X:K.In s.heap)(I:nH s.heap x dx C mA)
  (hs:zE K (.ref C) "__setattr__"=some (some (.builtin "object.__setattr__"))) (hp:EA K C=true) (ht:EB K C name=some none) (hh:Dw K C=true)
  (hw:Er mA ns) (hsz:ns.length<=yz)
  (h:∀ h',nH h' x dx C (fun y=>if y=name then some v else mA y)->By dx s.heap h'->Q () { s with heap:=h',toks:=s.toks+2 }) :
  yj (ym prog w) A (setAttr (.ref x) name v) Q E s:=by
 obtain⟨od,J,hl⟩:=I.look;refine PySem.W.set_plain X J hs (PySem.W.osa_open (s:={ s with toks:=s.toks+1 }) (r:=none) X J hp ht fun b=>?_);obtain⟨cd,hc,iA⟩:=PySem.W.any_some hh;have hx:s.heap.get? x=some ⟨.ref C,some dx,.plain,#[]⟩:=I.obj;refine yg (yt (yg (yg (Dx hx (yg (PySem.W.Looks.here (s:={ s with toks:=s.toks+1 }) (PySem.W.looks_clsIn X hc) ?_))))));rw[iA];refine yt (a:=some dx) (yg (yt (yg ?_)));refine wpAny_nsSet1 (s:={ s with toks:=s.toks+1 }) I.ns fun h' hn2 c7=>?_;obtain⟨oD,esD,epD,hoD,hdD,hcD⟩:=hn2.count (PySem.Within.cons name v hw);refine yg (wpAny_lookBehind hoD (by rw[hdD];exact pastItsLine_dict (zA hcD (by rw[yK];omega))) ?_);exact yt (h _ ⟨(c7.2 _ (zq I.ne)).trans I.obj,hn2,I.ne⟩ c7)
theorem zsv{R:Result->kb->Prop}(X:K.In s.heap)(hm:EC K C=true)
  (hi:zE K (.ref C) "__init__"=some (some (.ref f))) (hf:C2 K (.ref f)=some (.type "function"))
  (h:Aw (ym prog w) (A.under (.builtin "type.__call__" ⟨.ref C::vs,kw⟩)) (.call (.ref f) ⟨.ref (s.heap.objs.size+1)::vs,kw⟩) (PySem.W.InitBack (s.heap.objs.size+1) R)
   { s with heap:=(s.heap.push Bp).push (Bw C s.heap.objs.size) }) :
  Aw (ym prog w) A (.call (.ref C) ⟨vs,kw⟩) R s:=by
 obtain⟨hh,g,d,t,os⟩:=s;exact PySem.W.make_core (PySem.W.makes_of X hm) (Dy X hi) (fun self=>PySem.W.bind_fn X self hf) (.inl rfl) h
end
noncomputable def fO(f:ir)(v:V):List (ir×V)->List (ir×V)
 | []=>[(f,v)]
 | (g,x)::r=>if g=f then(g,v)::r else(g,x)::fO f v r
theorem zji(f g:ir)(v:V):∀ fs:List (ir×V),(fO f v fs).lookup g=if g=f then some v else fs.lookup g
 | []=>by
  show BU g [(f,v)]=_
  by_cases h:g=f
  ·have hb:(g==f)=true:=beq_iff_eq.mpr h
   simp only[BU,hb,if_pos h]
  ·have hb:(g==f)=false:=beq_eq_false_iff_ne.mpr h
   simp only[BU,hb,if_neg h]
 | (k,x)::r=>by
  have ih:=zji f g v r;rw[show fO f v ((k,x)::r)=(if k=f then(k,v)::r else(k,x)::fO f v r) from rfl]
  by_cases hk:k=f
  ·rw[if_pos hk]
   by_cases h:g=k
   ·have hb:(g==k)=true:=beq_iff_eq.mpr h
    simp only[BU,hb,if_pos (h.trans hk)]
   ·have hb:(g==k)=false:=beq_eq_false_iff_ne.mpr h
    simp only[BU,hb,if_neg (fun e:g=f=>h (e.trans hk.symm))]
  ·rw[if_neg hk]
   by_cases h:g=k
   ·have hb:(g==k)=true:=beq_iff_eq.mpr h
    simp only[BU,hb,if_neg (fun e:g=f=>hk (h.symm.trans e))]
   ·have hb:(g==k)=false:=beq_eq_false_iff_ne.mpr h
    simp only[BU,hb];exact ih
theorem zdt(f:ir)(v:V):∀ fs:List (ir×V),f∈(fO f v fs).map (·.1)/\∀ g,g∈fs.map (·.1)->g∈(fO f v fs).map (·.1)
 | []=>⟨by simp[fO],fun g h=>by simp at h⟩
 | (k,x)::r=>by
  obtain⟨i1,i2⟩:=zdt f v r;rw[show fO f v ((k,x)::r)=(if k=f then(k,v)::r else(k,x)::fO f v r) from rfl]
  by_cases hk:k=f
  ·rw[if_pos hk]
   subst hk;exact⟨by simp,fun g h=>by simpa using h⟩
  ·rw[if_neg hk]
   refine⟨?_,fun g h=>?_⟩
   ·rw[zh]
    exact yY _ i1
   ·rw[zh]at h ⊢
    rcases yH.mp h with e|e
    ·exact yH.mpr (.inl e)
    ·exact yY _ (i2 g e)
theorem zi6(f:ir)(v:V):∀ fs:List (ir×V),(fO f v fs).length<=fs.length+1
 | []=>by simp[fO]
 | (k,x)::r=>by
  have ih:=zi6 f v r;rw[show fO f v ((k,x)::r)=(if k=f then(k,v)::r else(k,x)::fO f v r) from rfl]
  by_cases hk:k=f
  ·rw[if_pos hk,yK,yK];omega
  ·rw[if_neg hk,yK,yK];omega
theorem gE.some_of(r:gE (some v) o):∃ u,o=some u/\RelV v u:=by
 cases o with
 | none=>exact(show False from r).elim
 | some u=>exact⟨u,rfl,r⟩
theorem gE.none_of(r:gE none o):o=none:=by
 cases o with
 | none=>rfl
 | some u=>exact(show False from r).elim
theorem zpm(r:RelV v u):FI u=true:=by
 cases v with
 | non=>cases (show u=yW from r);rfl
 | bl b=>cases (show u=AV b from r);rfl
 | int i=>obtain⟨t,e⟩:=(show ∃ t,u=Bv i t from r);cases e;rfl
 | str x=>obtain⟨t,e⟩:=(show ∃ t,u=Ce x t from r);cases e;rfl
 | byt b=>obtain⟨t,e⟩:=(show ∃ t,u=Value.bytes b t from r);cases e;rfl
 | flt b=>obtain⟨t,e⟩:=(show ∃ t,u=Value.float b t from r);cases e;rfl
 | ref a=>cases (show u=yS a from r);rfl
 | ty n=>cases (show u=Cg n from r);rfl
section
variable {fs fM:List (ir×V)}
theorem zcS(au:cB P w H h)(e:H a=some (.ins C dx fs)):∃ mA,nH h a dx C mA/\(∀ f,gE (fs.lookup f) (mA f))/\Er mA (fs.map (·.1))/\fs.length<=1000/\H dx=some (.own a):=by
 obtain⟨d,z,ne,ob,mA,n,r,q⟩:=(show de P w H h a (.ins C dx fs) from au a _ e);exact⟨mA,⟨ob,n,ne⟩,r,q,z,d⟩
end
structure fG(K:yf)(C:dm):Prop where
 pg:C1 K C Str.empty=true
 hd:Dw K C=true
 po:EA K C=true
 sa:zE K (.ref C) "__setattr__"=some (some (.builtin "object.__setattr__"))
theorem fG.get{K:yf}(c:fG K C)(f:ir):C1 K C f=true:=c.pg
def ik(K:yf)(C:dm)(f:ir):Prop:=zE K (.ref C) f=some none
theorem ik.zxQ{K:yf}(n:ik K C f):EB K C f=some none:=by
 unfold EB;rw[show zE K (.ref C) f=some none from n]
 rfl
structure Meth(K:yf)(C:dm)(m:ir)(f:dm):Prop where
 at_:zE K (.ref C) m=some (some (.ref f))
 fn:Cp K (.ref f)=true
 kp:AJ K (.ref f)=true
section
variable {fs:List (ir×V)}
theorem zpe(I:Inv X pins σ H s)(e:H a=some (.ins C dx fs))(c:fG X.K C)(n:ik X.K C f)(l:fs.lookup f=some v)
  (h:∀ u s',Inv X pins σ H s'->RelV v u->Q u s'):yj (ym X.prog X.w) A (getAttr (.ref a) f b) Q E s:=by
 obtain⟨mA,O,r,_,_,_⟩:=zcS I.au e;obtain⟨u,hu,ru⟩:=gE.some_of (v:=v) (o:=mA f) (by rw[<- l];exact r f);exact get_map I.dI O (c.get f) c.hd n hu (zpm ru) (h u _ (I.tok _) ru)
theorem zit{pl:zk Bool}{Q:gV×List gV->kb->Prop}(I:Inv X pins σ H s)(e:H a=some (.ins C dx fs))(c:fG X.K C)(k:Meth X.K C m g)(l:fs.lookup m=none)
  (h:Q (.ref g,[.ref a]) s):yj (ym X.prog X.w) A (Cq (.ref a) m pl) Q E s:=by
 obtain⟨mA,O,r,_,_,_⟩:=zcS I.au e;have hn:mA m=none:=gE.none_of (by rw[<- l];exact r m);exact zpd I.dI O (c.get m) k.at_ k.fn hn h
theorem zwX{Q:Unit->kb->Prop}(I:Inv X pins σ H s)(e:H a=some (.ins C dx fs))(c:fG X.K C)(n:ik X.K C f)(hl:fs.length<1000)(ry:RelV y u)
  (h:∀ s',Inv X pins σ (upd H a (.ins C dx (fO f y fs))) s'->Q () s'):yj (ym X.prog X.w) A (setAttr (.ref a) f u) Q E s:=by
 obtain⟨mA,O,r,wi,_,ho⟩:=zcS I.au e;have hz:(fs.map (·.1)).length<=yz:=by rw[za,zC];omega
 refine zwW I.dI O c.sa c.po n.zxQ c.hd wi hz fun h' O' sb=>h _ ?_;have hd:∃ o,h'.get? dx=some o:=let⟨o,_,_,e',_⟩:=O'.ns;⟨o,e'⟩
 refine I.write (x:=a) (e:=dx) (by rw[e];exact Bq) (.inr ho) (fun b q hb z=>(sb.2 b hb).trans z) hd ?_;refine⟨by rw[aN O.ne];exact ho,?_,O.ne,O'.obj,_,O'.ns,fun g=>?_,fun g hg=>?_⟩
 ·have:=zi6 f y fs;omega
 ·show gE ((fO f y fs).lookup g) (if g=f then some u else mA g)
  rw[zji]
  by_cases q:g=f
  ·rw[if_pos q,if_pos q];exact ry
  ·rw[if_neg q,if_neg q];exact r g
 ·by_cases q:g=f
  ·rw[q];exact(zdt f y fs).1
  ·refine(zdt f y fs).2 g (wi g fun z=>hg ?_)
   show(if g=f then some u else mA g)=none;rw[if_neg q];exact z
theorem Inv.made(I:Inv X pins σ H s):Inv X pins σ (upd (upd H s.heap.objs.size (.own (s.heap.objs.size+1))) (s.heap.objs.size+1) (.ins C s.heap.objs.size []))
  { s with heap:=(s.heap.push Bp).push (Bw C s.heap.objs.size) }:=by
 have e1:(s.heap.push Bp).get? s.heap.objs.size=some Bp:=y9 s.heap rfl;have e2:((s.heap.push Bp).push (Bw C s.heap.objs.size)).get? (s.heap.objs.size+1)=some (Bw C s.heap.objs.size):=by
  have:=y9 (s.heap.push Bp) (o:=Bw C s.heap.objs.size) rfl
  rwa [AK]at this
 have e3:(s.heap.push Bp).Ns s.heap.objs.size (fun _=>none):=⟨Bp,#[],_,e1,rfl,(fun e he=>absurd he (by simp)),fun _=>rfl⟩;have I1:=I.laid (a:=s.heap.objs.size) (o:=.own (s.heap.objs.size+1)) (h':=s.heap.push Bp) (t':=s.toks) (fun b u q=>yM _ q) (yA _) ⟨_,e1⟩;refine I1.laid (a:=s.heap.objs.size+1) (o:=.ins C s.heap.objs.size []) (t':=s.toks) (fun b u q=>yM _ q) (C3 (AK _ _)) ?_;have ne:s.heap.objs.size≠s.heap.objs.size+1:=yX (C4 _);refine⟨by rw[aN ne,ck],zJ _,ne,e2,fun _=>none,(Heap.Ns1.of_empty e3).at fun o q=>yM _ q,fun _=>Bq,fun y hy=>absurd rfl hy⟩
theorem zmy{f:ir}{s:kb}(hb:Cr e f env (yu e env)=yu e env)
  (h:yj (ym prog w) A (yu e env) (fun o s₁=>yj (ym prog w) A (getAttr o f true) Q E s₁) E s):yj (ym prog w) A (yu (.Attribute e f pos) env) Q E s :=
 Attribute_any_ h (by rw[arm_eval_Attribute,hb])
end
def zxk(K:yf)(ta:TE)(f:ir):TE:=fun σ H Q=>ta σ H fun x H1=>∃ a C dx fs v,x=.ref a/\H1 a=some (.ins C dx fs)/\fG K C/\ik K C f/\fs.lookup f=some v/\Q v H1
def zwP(K:yf)(ta tv:TE)(f:ir):TS:=fun D σ H=>tv σ H fun y H1=>ta σ H1 fun x H2=>∃ a C dx fs,x=.ref a/\H2 a=some (.ins C dx fs)/\fG K C/\ik K C f/\fs.length<1000 /\
 D.nx σ (upd H2 a (.ins C dx (fO f y fs)))
section
variable {o value:yh}{zk9:yn}{tv:TE}
theorem ztS(he:PE X e ta)(hb:Cr e f X.env (yu e X.env)=yu e X.env):PE X (.Attribute e f pos) (zxk X.K ta f):=by
 intro pins s σ H Q I h;refine zmy hb (aI (he pins s σ H _ I h) fun u s1 ⟨x,H1,I1,rx,a,C,dx,fs,v,ex,ea,c,n,l,q⟩=>?_);subst ex;obtain rfl:u=yS a:=rx;exact zpe I1 ea c n l fun u' s2 I2 ru=>⟨v,H1,I2,ru,q⟩
theorem zuz(ha:PE X o ta)(hv:PE X value tv)(hs:zB value (some (.Attribute o f pos')) pos.line X.env=pure false):PS X (.Assign [.Attribute o f pos'] value pos) (zwP X.K ta tv f):=by
 intro pins s σ H D I h;refine plainObj_wpAny_Assign_Attribute (aI (hv pins s σ H _ I h) fun u s1 ⟨y,H1,I1,ry,q⟩=>aI (ha pins s1 σ H1 _ I1 q) fun ov s2 ⟨x,H2,I2,rx,a,C,dx,fs,ex,ea,c,n,l,q2⟩=>?_) hs;subst ex;obtain rfl:ov=yS a:=rx;exact zwX I2 ea c n l ry fun s3 I3=>⟨σ,_,I3,q2⟩
end
end
variable {eQ vs:List V}{E:XK}{base:yo}{sc scope:yT}{CX:iT}{f:dm}{cd:gV}{t:TA}{ps:List ir}{outer:List yC}{params:Arguments}{ja:Array (Option gV)}{qual:ir}{mg:ir->Option gV}{Q:VK}
section
structure aM(k:Nat)(A:yy):Prop where
 hd:A.handled=none
 dp:A.depth+3*k+110<ED
 un:A.units+16*k+200<zb
 gd:A.guards=some []
theorem aM.mono(r:aM k A)(h:j<=k):aM j A:=⟨r.hd,by have:=r.dp;omega,by have:=r.un;omega,r.gd⟩
theorem aM.deeper(r:aM (k+1) A)(env:yC):aM k (A.deeper env) :=
 ⟨r.hd,by have:=r.dp;show A.depth+1+3*k+110<_;omega,by have:=r.un;show A.units+3+16*k+200<_;omega,r.gd⟩
theorem zst:(A.under (.builtin "type.__call__" ⟨.ref C::us,kw⟩)).depth=A.depth+1:=by
 first|rfl|simp[Dz,Code.weight,Code.isCreation,Code.isGuard,Code.isCaller,Code.frames,EE,guardIds]
theorem zsw:(A.under (.builtin "type.__call__" ⟨.ref C::us,kw⟩)).units=A.units+1:=by
 first|rfl|simp[Dz,Code.cUnits,Code.frames,EE]
theorem zsu:(A.under (.builtin "type.__call__" ⟨.ref C::us,kw⟩)).guards=A.guards:=by
 first|rfl|simp[Dz,Code.guards,Code.isGuard,guardIds,pushGuards]
theorem aM.make(r:aM (k+1) A)(C:dm)(us:List gV)(kw:List (ir×gV)):aM k (A.under (.builtin "type.__call__" ⟨.ref C::us,kw⟩)) :=
 ⟨r.hd,by have:=r.dp;rw[zst];omega,by have:=r.un;rw[zsw];omega,by rw[zsu];exact r.gd⟩
theorem aM.depth(r:aM k A):A.depth<ED:=by have:=r.dp;omega
theorem aM.units(r:aM k A):A.units+64<zb:=by have:=r.un;omega
noncomputable def zk4:TA:=fun _ H Q=>Q [] H
noncomputable def zxf(ta:TE)(tr:TA):TA:=fun σ H Q=>ta σ H fun x H1=>tr σ H1 fun xs H2=>Q (x::xs) H2
section
theorem jy:PA X [] zk4:=fun _ _ _ _ H Q I h=>Calls.spliced_nil ⟨[],H,I,.nil,h⟩
theorem gh(ha:PE X e te)(hr:PA X es t)(hs:yi (e::es) X.env=(false,yu e X.env)::yi es X.env:=by rfl):PA X (e::es) (zxf te t):=by
 intro pos pins s σ H Q I h;rw[hs];show yj _ _ (spliced ((false,yu e X.env)::yJ pos (yi es X.env))) _ _ s;refine Calls.spliced_cons (aI (ha pins s σ H _ I h) fun u s1 ⟨x,H1,I1,r1,q1⟩=>?_);exact aI (hr pos pins s1 σ H1 _ I1 q1) fun us s2 ⟨xs,H2,I2,r2,q2⟩=>⟨x::xs,H2,I2,.cons r1 r2,q2⟩
def zxy(t:TA):TE:=fun σ H Q=>t σ H fun xs H1=>xs.length<=yz/\∀ p,H1 p=none->Q (.ref p) (upd H1 p (.tup xs))
def zxn(t:TA):TE:=fun σ H Q=>t σ H fun xs H1=>xs.length<=yz/\∀ p,H1 p=none->Q (.ref p) (upd H1 p (.lst xs))
theorem zt6{x1}(h:PA X es t):PE X (.Tuple es x1 pos) (zxy t):=by
 intro pins s σ H Q I hq;refine wpAny_Tuple_spliced (aI (h pos pins s σ H _ I hq) fun us s1 ⟨xs,H1,I1,r,z,q⟩=>⟨by rw[<- r.length];exact z,?_⟩);have hf:H1 s1.heap.objs.size=none:=I1.au.fresh (yA _);refine⟨.ref s1.heap.objs.size,upd H1 s1.heap.objs.size (.tup xs),I1.laid (t':=s1.toks) (fun b u e=>yM _ e) (yA _) ?_,rfl,q _ hf⟩;exact⟨z,us,r,⟨_,y9 _ rfl,rfl,_,rfl⟩⟩
theorem zet(h:PA X es t):PE X (.List es pos) (zxn t):=by
 intro pins s σ H Q I hq;refine wpAny_List_spliced (aI (h pos pins s σ H _ I hq) fun us s1 ⟨xs,H1,I1,r,z,q⟩=>⟨by rw[<- r.length];exact z,?_⟩);have hf:H1 s1.heap.objs.size=none:=I1.au.fresh (yA _);refine⟨.ref s1.heap.objs.size,upd H1 s1.heap.objs.size (.lst xs),I1.laid (t':=s1.toks) (fun b u e=>yM _ e) (yA _) ?_,rfl,q _ hf⟩;exact⟨z,us,0,r,y9 _ rfl⟩
end
abbrev Sp:=List V->Hp->VK->XK->Prop
abbrev iT:=List yC->Hp->kb->XK->gV->kb->Prop
structure nB(P:yw)(w:yv)(K:yf)(mg:ir->Option gV)(base:yo)(A:yy)(outer:List yC)(s:kb)(H:Hp):Prop where
 frames:A.frames=some outer
 mod:Mod K mg base
 bs:∀ b o,base.get? b=some o->s.heap.get? b=some o/\H b=none
 jn:base.objs.size<=s.heap.objs.size
 gx:s.heap.FunFrames base outer
 jZ:∀ b∈dR outer,H b=none
 au:cB P w H s.heap
 bare:Bb s.gens
 tree:P.given.tree=none
theorem Inv.pyl{σ:List (Option V)}(I:Inv X pins σ H s)(hd:X.A.depth+100<ED):PySem.PylongRoom (ym X.prog X.w) X.A s:=by
 obtain⟨env,r,e,h1,h2,h3,h4⟩:=I.ok.sk;exact PySem.PylongRoom.of I.nolimit hd (PySem.SeerAt.of (I.ok.mod.seer.keeps I.bk) I.ok.tree (I.ok.frames.trans (congrArg some e)) h1 h2 h3 h4)
def CE(outer:List yC)(P:yw)(w:yv)(H:Hp)(s:kb)(Q:VK)(u:gV)(s':kb):Prop :=
 ∃ v H',s'.os=s.os/\Bb s'.gens/\Un (dR outer) [] H H' s.heap s'.heap/\cB P w H' s'.heap/\RelV v u/\Q v H'
def CR(CX:iT)(outer:List yC)(P:yw)(w:yv)(H:Hp)(s:kb)(Q:VK)(E:XK)(r:Result)(s':kb):Prop :=
 match r with
 | .ok (.ret u)=>CE outer P w H s Q u s'
 | .ok _=>False
 | .error e=>CX outer H s E e s'
structure b6(P:yw)(w:yv)(K:yf)(mg:ir->Option gV)(base:yo)(CX:iT)(k:Nat)(f:dm)(fd:yL)(ps:List ir)(sp:Sp):Prop where
 len:∀ vs H Q E,sp vs H Q E->vs.length=ps.length
 run:∀(A:yy) (outer:List yC) (s:kb) (H:Hp) (args:Args) (us:List gV) (vs:List V) (Q:VK) (E:XK),aM k A->nB P w K mg base A outer s H->Ct s fd args (ps.zip us)->Vals vs us->sp vs H Q E ->
  Aw (ym P w) A (.call (.ref f) args) (CR CX outer P w H s Q E) s
theorem b6.imp{K:yf}{fd:yL}{sp sp':Sp}(F:b6 P w K mg base CX k f fd ps sp)
  (h:∀ vs H Q E,sp' vs H Q E->sp vs H Q E):b6 P w K mg base CX k f fd ps sp' :=
 ⟨fun vs H Q E q=>F.len vs H Q E (h _ _ _ _ q),fun A outer s H args us vs Q E hr he hb hv hs=>F.run A outer s H args us vs Q E hr he hb hv (h _ _ _ _ hs)⟩
theorem nB.make{K:yf}(e:nB P w K mg base A outer s H)(C:dm)(us:List gV)(kw:List (ir×gV)) :
  nB P w K mg base (A.under (.builtin "type.__call__" ⟨.ref C::us,kw⟩)) outer s H:=⟨by first|exact e.frames|(simpa[Dz,Code.envs,EE,pushEnvs] using e.frames),e.mod,e.bs,e.jn,e.gx,e.jZ,e.au,e.bare,e.tree⟩
section
theorem Inv.vR(I:Inv X pins σ H s):nB X.prog X.w X.K X.mg X.base X.A X.stack s H :=
 ⟨I.ok.frames,I.ok.mod,I.bs,zA I.ok.jn I.sz,I.stack,I.uL,I.au,I.bare,I.ok.tree⟩
theorem Inv.after(I:Inv X pins σ H s)(h:CE X.stack X.prog X.w H s Q u s'):EP X pins σ Q u s':=by
 obtain⟨v,H',os,bare,un,au,r,q⟩:=h;obtain⟨hh,g,d,t,os'⟩:=s';obtain rfl:os'=s.os:=os;exact⟨v,H',I.call (h':=hh) (g':=g) (d':=d) (t':=t) (ch:=[]) un au bare (fun b z=>absurd z (by simp)),r,q⟩
end
noncomputable def zfp(sp:Sp)(eQ:List V)(E:XK)(t:TA):TE:=fun σ H Q=>t σ H fun vs H1=>sp (vs++eQ) H1 Q E
def zk3(C:dm)(m:ir)(sp:Sp)(eQ:List V)(E:XK)(ta:TE)(t:TA):TE:=fun σ H Q=>ta σ H fun x H1=>∃ a dx fs,x=.ref a/\H1 a=some (.ins C dx fs)/\fs.lookup m=none /\
 t σ H1 fun vs H2=>sp (x::(vs++eQ)) H2 Q E
def zxo(C:dm)(sp:Sp)(eQ:List V)(E:XK)(t:TA):TE:=fun σ H Q=>t σ H fun vs H1=>∀ x dx,H1 x=none->H1 dx=none->dx≠x ->
 sp (.ref x::(vs++eQ)) (upd (upd H1 dx (.own x)) x (.ins C dx [])) (fun v H2=>v=.non/\Q (.ref x) H2) E
def Binds(K:yf)(fd:yL)(ps:List ir)(ds:List gV):Prop :=
 ∀(s:kb) (us:List gV),K.In s.heap->(us++ds).length=ps.length->Ct s fd ⟨us,[]⟩ (ps.zip (us++ds))
theorem Binds.all{K:yf}{fd:yL}(h:∀ us:List gV,us.length=ps.length->Ax fd ⟨us,[]⟩=pure (ps.zip us)):Binds K fd ps []:=fun s us _ hl=>by
 rw[Am]at hl ⊢;exact .of_eq (h us hl)
def Passes(CX:iT)(X:Cx)(E:XK):Prop:=∀(pins:List (dm×yp)) (σ:St) (H:Hp) (s:kb) (e:gV) (s':kb),Inv X pins σ H s->CX X.stack H s E e s'->X.xe e s'
section
variable {fd:yL}{sp:Sp}{ds:List gV}{apos:yn}{o:yh}
theorem zeY(F:b6 X.prog X.w X.K X.mg X.base CX k f fd ps sp)(hr:aM k X.A)(hb:Binds X.K fd ps ds)(hd:Vals eQ ds)(hx:Passes CX X E)
  (I:Inv X pins σ H s)(r:Vals vs us)(h:sp (vs++eQ) H Q E):yj (ym X.prog X.w) X.A (call (.ref f) us) (EP X pins σ Q) X.xe s:=by
 have r2:Vals (vs++eQ) (us++ds):=r.append hd;have hl:(us++ds).length=ps.length:=by rw[<- r2.length];exact F.len _ _ _ _ h
 refine wpAny_call (C5 (F.run X.A X.stack s H ⟨us,[]⟩ (us++ds) (vs++eQ) Q E hr I.vR (hb s us I.dI hl) r2 h) fun r s' hq=>?_);cases r with
 | error e=>exact hx pins σ H s e s' I hq
 | ok fl =>
  cases fl with
  | ret u=>exact I.after hq
  | next=>exact zP hq
  | brk=>exact zP hq
  | cont=>exact zP hq
theorem ztM(F:b6 X.prog X.w X.K X.mg X.base CX k f fd ps sp)(hr:aM k X.A)(hg:Gl X x)(hm:X.mg x=some (.ref f))(hk:AJ X.K (.ref f)=true)(hb:Binds X.K fd ps ds)(hd:Vals eQ ds)(hx:Passes CX X E)
  (ha:PA X (e::es) t)(bp:(x==("__debug__":ir))=false:=by decide) (he:yi (e::es) X.env=(false,yu e X.env)::yi es X.env:=by rfl) (aS:(yJ pos (yi es X.env)).any (·.1)=false:=by rfl) :
  PE X (.Call (.Name x p) (e::es) [] pos) (zfp sp eQ E t):=by
 intro pins s σ H Q I h;refine C6 (qw I hg hm ?_ bp);refine DA (h₀:=X.base) I.ok.mod.oF hk (aI (ha pos pins s σ H _ I h) fun us s1 ⟨vs,H1,I1,r,q⟩=>⟨I1.dI,?_⟩) he aS;exact zeY F hr hb hd hx I1 r q
theorem ztW{pl:zk Bool}(he:PE X o ta)(c:fG X.K C)(hm:Meth X.K C m f)(F:b6 X.prog X.w X.K X.mg X.base CX k f fd ps sp)(hr:aM k X.A)(hb:Binds X.K fd ps ds)(hd:Vals eQ ds)(hx:Passes CX X E)(ha:PA X (e::es) t)
  (cu:yi (e::es) X.env=(false,yu e X.env)::yi es X.env:=by rfl)(aS:(yJ pos (yi es X.env)).any (·.1)=false:=by rfl)
  (ht:yu (.Call (.Attribute o m apos) (e::es) [] pos) X.env=(do
   let ov <- yu o X.env
   AG apos.atName
   let(f,first) <- Ak [ov] (Cq ov m pl)
   callWith pos f first (yJ pos (yi (e::es) X.env)) (Cu pos (Cv [] X.env))):=by rfl) :
  PE X (.Call (.Attribute o m apos) (e::es) [] pos) (zk3 C m sp eQ E ta t):=by
 intro pins s σ H Q I h;refine FJ (pl:=pl) (aI (he pins s σ H _ I h) fun u s1 ⟨x,H1,I1,rx,a,dx,fs,ex,ea,l,q⟩=>?_) ht;subst ex;obtain rfl:u=yS a:=rx;refine zit I1 ea c hm l ?_;refine DA (first:=[.ref a]) (h₀:=X.base) I.ok.mod.oF hm.kp (aI (ha pos pins s1 σ H1 _ I1 q) fun us s2 ⟨vs,H2,I2,r,q2⟩=>⟨I2.dI,?_⟩) cu aS;exact zeY (us:=.ref a::us) (vs:=.ref a::vs) F hr hb hd hx I2 (.cons rfl r) q2
theorem ztX{pl:zk Bool}(he:PE X o ta)(c:fG X.K C)(hm:Meth X.K C m f)(F:b6 X.prog X.w X.K X.mg X.base CX k f fd ps sp)(hr:aM k X.A)(hb:Binds X.K fd ps ds)(hd:Vals eQ ds)(hx:Passes CX X E)
  (ht:yu (.Call (.Attribute o m apos) [] [] pos) X.env=(do
   let ov <- yu o X.env
   AG apos.atName
   let(f,first) <- Ak [ov] (Cq ov m pl)
   callWith pos f first (yJ pos (yi [] X.env)) (Cu pos (Cv [] X.env))):=by rfl) :
  PE X (.Call (.Attribute o m apos) [] [] pos) (zk3 C m sp eQ E ta zk4):=by
 intro pins s σ H Q I h;refine FJ (pl:=pl) (aI (he pins s σ H _ I h) fun u s1 ⟨x,H1,I1,rx,a,dx,fs,ex,ea,l,q⟩=>?_) ht;subst ex;obtain rfl:u=yS a:=rx;refine zit I1 ea c hm l ?_;exact PySem.W.callWith_K0 (first:=[.ref a]) I1.dI hm.kp (zeY (us:=[.ref a]) (vs:=[.ref a]) F hr hb hd hx I1 (.cons rfl .nil) q)
structure Mk(K:yf)(C f:dm):Prop where
 makes:EC K C=true
 init:zE K (.ref C) "__init__"=some (some (.ref f))
 fn:Cp K (.ref f)=true
 kp:AJ K (.ref C)=true
theorem zwO(M:Mk X.K C f)(F:b6 X.prog X.w X.K X.mg X.base CX k f fd ps sp)(hr:aM (k+1) X.A)(hb:Binds X.K fd ps ds)(hd:Vals eQ ds)
  (hx:Passes CX X E)(I:Inv X pins σ H s)(r:Vals vs us)
  (h:∀ x dx,H x=none->H dx=none->dx≠x->sp (.ref x::(vs++eQ)) (upd (upd H dx (.own x)) x (.ins C dx [])) (fun v H2=>v=.non/\Q (.ref x) H2) E) :
  yj (ym X.prog X.w) X.A (call (.ref C) us) (EP X pins σ Q) X.xe s:=by
 have hq:=h (s.heap.objs.size+1) s.heap.objs.size (I.au.fresh (Nat.le_succ _)) (I.au.fresh (yA _)) (yX (C4 _));have I2:=Inv.made (C:=C) I;have r2:Vals (V.ref (s.heap.objs.size+1)::(vs++eQ)) (yS (s.heap.objs.size+1)::(us++ds)):=.cons rfl (r.append hd);have hl:(yS (s.heap.objs.size+1)::us++ds).length=ps.length:=by
  have e:=r2.length;rw[F.len _ _ _ _ hq]at e;exact e.symm
 refine wpAny_call (zsv (f:=f) I.dI M.makes M.init (beq_iff_eq.mp M.fn) (C5 (F.run _ X.stack _ _ ⟨yS (s.heap.objs.size+1)::us,[]⟩ (yS (s.heap.objs.size+1)::(us++ds)) _ _ E (hr.make C us [])
  (I2.vR.make C us []) (hb _ (yS (s.heap.objs.size+1)::us) I2.dI hl) r2 hq) fun r s' tF=>?_))
 cases r with
 | error e=>exact hx pins σ _ _ e s' I2 tF
 | ok fl =>
  cases fl with
  | ret u =>
   obtain⟨v,H',I3,rv,ev,q3⟩:=I2.after tF;subst ev;exact⟨rv,⟨V.ref (s.heap.objs.size+1),H',I3,rfl,q3⟩⟩
  | next=>exact zP tF
  | brk=>exact zP tF
  | cont=>exact zP tF
theorem zjX(M:Mk X.K C f)(F:b6 X.prog X.w X.K X.mg X.base CX k f fd ps sp)(hr:aM (k+1) X.A)(hg:Gl X x)(hm:X.mg x=some (.ref C))(hb:Binds X.K fd ps ds)(hd:Vals eQ ds)(hx:Passes CX X E)
  (ha:PA X (e::es) t)(bp:(x==("__debug__":ir))=false:=by decide) (he:yi (e::es) X.env=(false,yu e X.env)::yi es X.env:=by rfl) (aS:(yJ pos (yi es X.env)).any (·.1)=false:=by rfl) :
  PE X (.Call (.Name x p) (e::es) [] pos) (zxo C sp eQ E t):=by
 intro pins s σ H Q I h;refine C6 (qw I hg hm ?_ bp);refine DA (h₀:=X.base) I.ok.mod.oF M.kp (aI (ha pos pins s σ H _ I h) fun us s1 ⟨vs,H1,I1,r,q⟩=>⟨I1.dI,?_⟩) he aS;exact zwO M F hr hb hd hx I1 r q
end
structure d9(N P:List ir)(sc:yT):Prop where
 kind:sc.kind=.function
 co:sc.isCoroutine=false
 gen:sc.isGenerator=false
 nd:N.Nodup
 pre:N.take P.length=P
 par:∀ x∈P,sc.names.lookup x=some .local\/sc.names.lookup x=some .cell
 zsR:∀ y∈sc.names,y.2≠.free
theorem zhp{kindOf:ir->Option Af}{x:ir}:∀{binds:List (ir×gV)} {m:ir->Option gV},(∀ v,(x,v)∉binds)->bindL kindOf binds m x=m x
 | [],_,_=>rfl
 | (n,v)::r,m,h=>by
  unfold bindL;rw[zhp fun w hw=>h w (yY _ hw)]
  split
  ·have:x≠n:=by rintro rfl;exact h v zm
   simp[this]
  ·rfl
theorem zhn{kindOf:ir->Option Af}{x:ir}:∀{binds:List (ir×gV)} {m:ir->Option gV},(∀ v,(x,v)∉binds)->bindC kindOf binds m x=m x
 | [],_,_=>rfl
 | (n,v)::r,m,h=>by
  unfold bindC;rw[zhn fun w hw=>h w (yY _ hw)]
  split
  ·rfl
  ·have:x≠n:=by rintro rfl;exact h v zm
   simp[this]
theorem zho{kindOf:ir->Option Af}{x:ir}{v:gV}:∀{P:List ir} {vs:List gV} {i:Nat} {m:ir->Option gV},P.Nodup->P[i]?=some x->vs[i]?=some v->kindOf x=some .local ->
  bindL kindOf (P.zip vs) m x=some v
 | [],_,_,_,_,h,_,_=>by simp at h
 | _::_,[],_,_,_,_,h,_=>by simp at h
 | p::P,w::vs,0,m,nd,h1,h2,hk=>by
  simp at h1 h2;subst h1;subst h2
  show bindL kindOf ((p,w)::P.zip vs) m p=_;unfold bindL;rw[zhp fun v hv=>(AZ.mp nd).1 (BV hv).1,if_pos hk];simp
 | p::P,w::vs,i+1,m,nd,h1,h2,hk=>by
  show bindL kindOf ((p,w)::P.zip vs) m x=_;unfold bindL;exact zho (i:=i) (AZ.mp nd).2 (by simpa using h1) (by simpa using h2) hk
theorem zhm{kindOf:ir->Option Af}{x:ir}{v:gV}:∀{P:List ir} {vs:List gV} {i:Nat} {m:ir->Option gV},P.Nodup->P[i]?=some x->vs[i]?=some v->kindOf x≠some .local ->
  bindC kindOf (P.zip vs) m x=some v
 | [],_,_,_,_,h,_,_=>by simp at h
 | _::_,[],_,_,_,_,h,_=>by simp at h
 | p::P,w::vs,0,m,nd,h1,h2,hk=>by
  simp at h1 h2;subst h1;subst h2
  show bindC kindOf ((p,w)::P.zip vs) m p=_;unfold bindC;rw[zhn fun v hv=>(AZ.mp nd).1 (BV hv).1,if_neg hk];simp
 | p::P,w::vs,i+1,m,nd,h1,h2,hk=>by
  show bindC kindOf ((p,w)::P.zip vs) m x=_;unfold bindC;exact zhm (i:=i) (AZ.mp nd).2 (by simpa using h1) (by simpa using h2) hk
noncomputable def start(N:List ir)(vs:List V):St:=vs.map some++yq (N.length-vs.length) none
noncomputable def dw(CX:iT)(P:yw)(w:yv)(K:yf)(mg:ir->Option gV)(base:yo)(N:List ir)(qual:ir)(scope:yT)(f:dm)(cd:gV)(A:yy)(outer:List yC)(s:kb)(H:Hp)(E:XK):Cx where
 prog:=P
 w:=w
 K:=K
 mg:=mg
 base:=base
 A:=A.deeper (zc qual scope s.heap.objs.size f cd)
 N:=N
 s₀:=s
 H₀:=H
 env:=zc qual scope s.heap.objs.size f cd
 outer:=outer
 stack:=zc qual scope s.heap.objs.size f cd::outer
 ex:=[]
 calm:=true
 fn:=fun _=>true
 pn:=[]
 xe:=fun e s'=>yj (ym P w) (A.deeper (zc qual scope s.heap.objs.size f cd)) (leaving (zc qual scope s.heap.objs.size f cd) e) (fun _ gM=>CX outer H s E e gM) (fun e' gM=>CX outer H s E e' gM) s'
theorem zhJ(h:sc.names.lookup x=some .cell):∃ c,(A0 n sc.names []).lookup x=some c:=by
 have q:=FK sc.names n [] (.inl h);exact FN.mp q
theorem zpW{K:yf}{s1:kb}
  (S:d9 N ps scope)(hd:A.handled=none)(e0:nB P w K mg base A outer s H)(hl:vs.length=ps.length)(r:Vals vs us)
  (x:InCallC s s.heap.objs.size (bindL (zc qual scope s.heap.objs.size f cd).kindOf (ps.zip us) fun _=>none) (A0 (s.heap.objs.size+1) scope.names []) (bindC (zc qual scope s.heap.objs.size f cd).kindOf (ps.zip us) fun _=>none) s1) :
  Inv (dw CX P w K mg base N qual scope f cd A outer s H E) [] (start N vs) H s1:=by
 have aS:ps.length<=N.length:=by have:=congrArg List.length S.pre;rw[DB]at this;omega
 obtain⟨h1,tk,rfl,hk⟩:=x.done;have uf:∀ b:dm,b∉(dw CX P w K mg base N qual scope f cd A outer s H E).ex:=fun b z=>absurd (show b∈([]:List dm) from z) (by simp);refine⟨⟨e0.mod,S.kind,rfl,rfl,yA _,fun y z c h1 h2=>?_,fun y hy=>?_,fun y c _ h=>?_,fun _=>hd,Around.frames_deeper e0.frames,.inr ⟨rfl,rfl⟩,fun b z=>absurd z (uf b),e0.bs,e0.jn,fun b _ _=>uf b,fun b z=>absurd z (uf b),e0.gx,e0.jZ,e0.tree,⟨_,_,rfl,S.gen,S.co,rfl,rfl⟩⟩,
  rfl,e0.bare,Un.kept hk,⟨_,x.toInCall.ns,fun i y v h1 h2 h3=>?_⟩,fun y c h=>⟨_,x.cell y c h⟩,e0.au.fresh (yA _),fun y c h=>?_,fun p hp=>absurd (show p∈([]:List (dm×yp)) from hp) (by simp),e0.au.kept hk,?_⟩
 ·exact name_of_addr x.apart (Be h1) (Be h2)
 ·have hy:scope.names.lookup y=some .cell\/scope.names.lookup y=some .free:=hy
  rcases hy with hy|hy
  ·exact zhJ hy
  ·exact absurd rfl (S.zsR _ (Be hy))
 ·exact BK (x.above y c (Be h))
 ·have hi:i<vs.length:=by
   unfold start at h2
   by_cases hi:i<vs.length
   ·exact hi
   ·rw[Ay (by simpa using hi)]at h2
    rw[Aa]at h2
    split at h2 <;> cases h2
  have ha:vs[i]?=some v:=by
   unfold start at h2;rw[zK (by simpa using hi),zv]at h2;cases e:vs[i]? with
   | none=>rw[e]at h2;cases h2
   | some a=>rw[e]at h2;cases h2;rfl
  obtain⟨u,hu,rv⟩:=r.get ha;have hp:ps[i]?=some y:=by
   rw[<- S.pre,List.getElem?_take_of_lt (by omega)];exact h1
  have ndP:ps.Nodup:=by rw[<- S.pre];exact S.nd.sublist (List.take_sublist _ _)
  refine⟨u,rv,?_⟩;rcases S.par y (Ag hp)with k|k
  ·exact .inl ⟨k,zho ndP hp hu k⟩
  ·obtain⟨c,e⟩:=zhJ (n:=s.heap.objs.size+1) k
   refine .inr ⟨.inl k,c,e,?_⟩;have q:=x.cell y c e;rw[zhm ndP hp hu (by show scope.names.lookup y≠_;rw[k];decide)]at q;exact q
 ·exact e0.au.fresh (BK (x.above y c (Be h)))
 ·unfold start
  show _=N.length;rw[Br,za,A1]
  omega
theorem zoM{K:yf}{dV kV doc pm aq ct oc:gV}{an od:Option dm}
  {sp:Sp}(lk:K.lookup f=some ⟨oc,od,.func (zD name qual params body scope dV kV doc pm an aq ct),ja⟩)(gy:Bf K aq qual=true)(S:d9 N ps scope)
  (len:∀ vs H Q E,sp vs H Q E->vs.length=ps.length)
  (zcc:∀(A:yy) (outer:List yC) (s:kb) (H:Hp) (vs:List V) (Q:VK) (E:XK),aM k (A.deeper (zc qual scope s.heap.objs.size f aq))->sp vs H Q E ->
   ∃ t,b9 (dw CX P w K mg base N qual scope f aq A outer s H E) body t/\t { nx:=fun _ H'=>Q .non H',rt:=Q } (start N vs) H) :
  b6 P w K mg base CX (k+1) f (zD name qual params body scope dV kV doc pm an aq ct) ps sp:=by
 refine⟨len,fun A outer s H args us vs Q E hr e0 hb r qp=>?_⟩;have hl:=len _ _ _ _ qp;have KX:K.In s.heap:=e0.mod.oF.keeps fun b o e=>(e0.bs b o e).1;have lim:s.heap.NoLimit:=e0.mod.nolimit.keeps fun b o e=>(e0.bs b o e).1;have zpB:∀ y∈ps.zip us,scope.names.lookup y.1=some .local\/(scope.names.lookup y.1=some .cell/\((A0 (s.heap.objs.size+1) scope.names []).lookup y.1).isSome=true):=fun⟨n,v⟩ hy=>by
  rcases S.par n (BV hy).1 with q|q
  ·exact .inl q
  ·exact .inr ⟨q,FK _ _ _ (.inl q)⟩
 refine codeAny_call_function hr.depth (KX _ _ lk) rfl S.co S.gen rfl (PySem.W.codeRec_of KX gy) (hb _ _ _ _ ?_);refine wpAny_newFunctionEnv_cells S.kind zpB fun env he s1 x=>?_;subst he;refine⟨lim.keeps x.toInCall.keep,codeAny_func ?_⟩;obtain⟨t,ht,hq⟩:=zcc A outer s H vs Q E (hr.deeper _) qp;have I:Inv (dw CX P w K mg base N qual scope f aq A outer s H E) [] (start N vs) H s1:=zpW S hr.hd e0 hl r x;refine zo (ht [] s1 (start N vs) H _ I hq) (fun fl s' hs=>?_) fun e s' hs=>hs;have fin:∀{σ':St} {H':Hp} {v:V} {u:gV},Inv (dw CX P w K mg base N qual scope f aq A outer s H E) [] σ' H' s'->RelV v u->Q v H'->CE outer P w H s Q u s' :=
  fun{σ' H' v u} J rv q=>⟨v,H',J.os,J.bare,J.base,J.au,rv,q⟩
 cases fl with
 | ret u =>
  obtain⟨v,σ',H',J,rv,q⟩:=hs;exact fin J rv q
 | next =>
  obtain⟨σ',H',J,q⟩:=hs;exact fin (v:=V.non) (u:=yW) J rfl q
 | brk =>
  obtain⟨_,_,_,q⟩:=hs;exact zP q
 | cont =>
  obtain⟨_,_,_,q⟩:=hs;exact zP q
end
section
section
variable {id T:String}
noncomputable def tCB(r:List V->Hp->VK->Prop)(t:TA):TE:=fun σ H Q=>t σ H fun vs H1=>r vs H1 Q
theorem zeq(hc:gB X (.builtin id) r)(hg:Gl X x)(hm:X.mg x=none)(hv:zj x=some (.builtin id))(ha:PA X (e::es) t)(hn:x ≠ "__name__":=by decide)(bp:(x==("__debug__":ir))=false:=by decide)
  (he:yi (e::es) X.env=(false,yu e X.env)::yi es X.env:=by rfl) (aS:(yJ pos (yi es X.env)).any (·.1)=false:=by rfl):PE X (.Call (.Name x p) (e::es) [] pos) (tCB r t):=by
 intro pins s σ H Q I h;refine C6 (oH I hg hm hv ?_ hn bp);exact PyProof.Rows.callWith_builtin1 (aI (ha pos pins s σ H _ I h) fun us s1 ⟨vs,H1,I1,r1,q1⟩=>hc pins s1 σ H1 vs us Q I1 r1 q1) he aS
theorem zjV(hc:gB X (.type T) r)(hg:Gl X x)(hm:X.mg x=none)(hv:zj x=some (.type T))(ha:PA X (e::es) t)(hn:x ≠ "__name__":=by decide)(bp:(x==("__debug__":ir))=false:=by decide)
  (he:yi (e::es) X.env=(false,yu e X.env)::yi es X.env:=by rfl) (aS:(yJ pos (yi es X.env)).any (·.1)=false:=by rfl):PE X (.Call (.Name x p) (e::es) [] pos) (tCB r t):=by
 intro pins s σ H Q I h;refine C6 (oH I hg hm hv ?_ hn bp);exact C0 (aI (ha pos pins s σ H _ I h) fun us s1 ⟨vs,H1,I1,r1,q1⟩=>hc pins s1 σ H1 vs us Q I1 r1 q1) he aS
end
end
end L2
namespace HT
open PySem PyProof.Rows
noncomputable def lexLt:List Int->List Int->Bool
 | [],[]=>false
 | [],_::_=>true
 | _::_,[]=>false
 | x::xs,y::ys=>if x=y then lexLt xs ys else decide (x<y)
theorem zr6(x y:Int)(xs ys:List Int):lexLt (x::xs) (y::ys)=if x=y then lexLt xs ys else decide (x<y):=rfl
theorem zr9:lexLt [] []=false:=rfl
theorem zr8(y:Int)(ys:List Int):lexLt [] (y::ys)=true:=rfl
theorem zr7(x:Int)(xs:List Int):lexLt (x::xs) []=false:=rfl
theorem zoq(A:yy)(s:kb)(a:Int)(t:yP)(c:Int)(u:yP):∃ e,EG A s (.int a t) (.int c u) e/\(e=true↔a=c) :=
 ⟨(a==c),FO a t c u,by simp⟩
theorem zwA(A:yy)(s:kb)(a:Int)(t:yP)(c:Int)(u:yP)(prog:yw)(w:yv)(E:gV->kb->Prop)(Q:gV->kb->Prop)(h:Q (.bool (decide (a<c))) s) :
  yj (ym prog w) A (richCompare .Lt (.int a t) (.int c u)) Q E s :=
 (PyProof.Rows.lt_int h:yj (ym prog w) A (yG .Lt (.int a t) (.int c u)) Q E s)
section
open PySem.SeqAt
open PySem.AutoSeq1 (wpAny_loadPart')
open PySem.MeetsSeq PySem.MeetsSeq2 PySem.MeetsSeq3
theorem zxX(l b:dm)(items iD:Array gV)(n n2:Nat)(dd kr:Option dm)(sl kj:Array (Option gV))(ns ms:List Int)(hi:An items.toList ns)(hj:An iD.toList ms) :
  Meets (Ah.«tuple.__lt__» ⟨[.ref l,.ref b],[]⟩)
   (fun _ R s=>s.heap.get? l=some { cls:=.type "tuple",dict:=dd,data:=.seq items n,slots:=sl }/\s.heap.get? b=some { cls:=.type "tuple",dict:=kr,data:=.seq iD n2,slots:=kj } /\
    R (.ok (.ret (.bool (lexLt ns ms)))) s) :=
 .of_wp fun prog w A R s h=>by
  obtain⟨hp,g,d,tk,os⟩:=s;obtain⟨hl,hb,h⟩:=h
  have f2:=AutoSeq1.sub_tuple_tuple;have z1:items.size=ns.length:=by rw[<- hi.length];simp
  have z2:iD.size=ms.length:=by rw[<- hj.length];simp
  wp_walk using Cw hl,Cw hb,wpAny_forIn_list _ (fun rest b s'=>b.1=none/\s'=⟨hp,g,d,tk,os⟩/\∃(vs ws:List gV) (cV qx:List Int),rest=vs.zip ws /\
   An vs cV/\An ws qx/\cV.length+iD.size=qx.length+items.size/\R (.ok (.ret (.bool (lexLt cV qx)))) ⟨hp,g,d,tk,os⟩) _
  case turn =>
   rintro⟨y,x⟩ rest b s' ⟨j3,rfl,vs,ws,cV,qx,hz,hvi,wu,hlen,hR⟩;cases hvi with
   | nil=>rw[List.zip_nil_left]at hz;cases hz
   | cons a t hvi' =>
    cases wu with
    | nil=>rw[List.zip_nil_right]at hz;cases hz
    | cons c u hwi' =>
     rw[Bg]at hz;injection hz with hyx zpJ
     injection hyx with hy hx
     subst hy hx;rw[zr6]at hR;simp only[yK]at hlen;obtain⟨e,he,ziJ⟩:=zoq A.in1 ⟨hp,g,d,tk,os⟩ a t c u;refine yg (he prog w _ _ ?_);cases e with
     | true =>
      rw[if_pos (ziJ.mp rfl)]at hR
      wp_walk
      exact⟨rfl,rfl,_,_,_,_,zpJ,hvi',hwi',by omega,hR⟩
     | false =>
      rw[if_neg (fun q=>absurd (ziJ.mpr q) zL)]at hR;have hri:=zwA A.in1 ⟨hp,g,d,tk,os⟩ a t c u prog w
      wp_walk using hri
      exact⟨_,rfl,by simpa using hR⟩
  case fin =>
   rintro⟨b1,b2⟩ s' ⟨j3,rfl,vs,ws,cV,qx,hz,hvi,wu,hlen,hR⟩;simp only at j3;subst j3;have hv:lexLt cV qx=decide (items.size<iD.size):=by
    cases hvi with
    | nil =>
     cases wu with
     | nil =>
      simp only[zx]at hlen;rw[zr9];exact(decide_eq_false (by omega)).symm
     | cons c u hw =>
      simp only[zx,yK]at hlen;rw[zr8];exact(decide_eq_true (by omega)).symm
    | cons a t hv =>
     cases wu with
     | nil =>
      simp only[zx,yK]at hlen;rw[zr7];exact(decide_eq_false (by omega)).symm
     | cons c u hw =>
      rw[Bg]at hz;cases hz
   rw[hv]at hR
   wp_walk
   exact⟨_,rfl,by simpa[Builtin.Tuple.tupleCompareSizes] using hR⟩
  case h =>
   exact⟨rfl,rfl,items.toList,iD.toList,ns,ms,rfl,hi,hj,by omega,h⟩
end
variable {hi o:Option Int}{w:yv}{v vl vu:gV}{b sl t:dm}{s:kb}{n:Nat}{A:yy}{E Q:gV->kb->Prop}{prog:yw}{items:Array gV}
section
theorem zsk{l:dm}{iD:Array gV}{ns ms:List Int}(hl:Ba s.heap l items)(hb:Ba s.heap b iD)(hi:An items.toList ns)(hj:An iD.toList ms)
  (hu:A.units<zb)(h:Q (.bool (lexLt ns ms)) s):yj (ym prog w) A (yG .Lt (.ref l) (.ref b)) Q E s:=by
 obtain⟨⟨cls,dd,data,sl⟩,ho,hc,n,hd⟩:=id hl;obtain⟨⟨za0,kr,data2,kj⟩,e8,iz,n2,hd2⟩:=id hb;simp only at hc hd iz hd2;subst hc hd iz hd2;exact richCompare_meets_room (op:=.Lt) ⟨_,ho,rfl⟩ ⟨_,e8,rfl⟩ PySem.F.slot_tuple_lt PySem.F.entry_tuple_lt (PySem.F.args_tuple_lt_2 _ _) (zxX l b items iD n n2 dd kr sl kj ns ms hi hj)
  ⟨ho,e8,show AV (lexLt ns ms)≠FP/\Q (.bool (lexLt ns ms)) s from⟨(fun x=>nomatch x),h⟩⟩ hu
theorem zni{vs ws:List gV}(ht:Ba s.heap t vs.toArray)(hb:Ba s.heap b ws.toArray)(hv:vs≠[])
  (h1:ws=[]->Q (.ref t) s)(h2:ws≠[]->Q (.ref s.heap.objs.size) { s with heap:=s.heap.push { cls:=.type "tuple",data:=.seq (vs++ws).toArray } })
  (hsz:vs.length+ws.length<=yz):yj (ym prog w) A (zZ .Add (.ref t) (.ref b)) Q E s:=by
 obtain⟨⟨cls,dd,data,sl⟩,ho,hc,n,hd⟩:=id ht;obtain⟨⟨za0,kr,data2,kj⟩,e8,iz,n2,hd2⟩:=id hb;simp only at hc hd iz hd2;subst hc hd iz hd2;have e:vs.toArray++ws.toArray=(vs++ws).toArray:=by simp
 by_cases hw:ws=[]
 ·exact DC ⟨_,ho,rfl⟩ ⟨_,e8,rfl⟩ EH EI EJ EK (EL _ _)
   (tuple_addW1 t b vs.toArray ws.toArray n n2 dd kr sl kj (by simpa using hv) (by simp[hw])) ⟨ho,e8,h1 hw⟩
 ·refine DC ⟨_,ho,rfl⟩ ⟨_,e8,rfl⟩ EH EI EJ EK (EL _ _)
   (tuple_addW2 t b vs.toArray ws.toArray n n2 dd kr sl kj (by simpa using hv) (by simpa using hw) (by rw[yU,yU];exact hsz)) ⟨ho,e8,?_⟩
  rw[e];exact h2 hw
noncomputable def aR(n d:Nat):Option Int->Nat
 | none=>d
 | some v=>if v<0 then(v+(n:Int)).toNat else min v.toNat n
theorem zwR(n d:Nat)(hd:d<=n)(o:Option Int):aR n d o<=n:=by
 cases o with
 | none=>exact hd
 | some v =>
  show(if v<0 then(v+(n:Int)).toNat else min v.toNat n)<=n
  by_cases hv:v<0
  ·rw[if_pos hv];omega
  ·rw[if_neg hv];exact Nat.min_le_right _ _
theorem zhK(v:Int)(n d:Nat):(if v<0 then max (v+(n:Int)) 0 else min v (n:Int))=((aR n d (some v):Nat):Int):=by
 show(if v<0 then max (v+(n:Int)) 0 else min v (n:Int))=(((if v<0 then(v+(n:Int)).toNat else min v.toNat n):Nat):Int)
 by_cases hv:v<0
 ·simp only[if_pos hv];omega
 ·simp only[if_neg hv];omega
theorem zmm(lo hi:Option Int)(n:Nat):ER lo hi 1 (n:Int)=(((aR n 0 lo:Nat):Int),((aR n n hi:Nat):Int)):=by
 have h1:¬ ((1:Int)<0):=by omega
 unfold ER;simp only[h1,if_false];refine DE ?_ ?_
 ·cases lo with
  | none=>rfl
  | some v=>exact zhK v n 0
 ·cases hi with
  | none=>rfl
  | some v=>exact zhK v n n
theorem zul(i j:Nat):DF (i:Int) (j:Int) 1=j-i:=by
 unfold DF;have h1:(1:Int) > 0:=by omega
 simp only[h1,if_true,Int.ediv_one]
 split <;> omega
theorem zkS{Q:Option Int->kb->Prop}(p:Bh v o)(h:Q o s):yj (ym prog w) A (Builtin.Slice.slicePartIndex v) Q E s:=by
 cases p with
 | none=>exact slicePart_none h
 | int i t=>exact slicePart_int h
theorem zkR{lo:Option Int}{Q:Int×Int×Nat->kb->Prop}(hs:s.heap.IsSliceOf sl vl vu .none)(pl:Bh vl lo)(pu:Bh vu hi)
  (h:Q (((aR n 0 lo:Nat):Int),1,aR n n hi-aR n 0 lo) s):yj (ym prog w) A (FQ (.ref sl) (pure (n:Int))) Q E s:=by
 obtain⟨os,oA,lQ,sZ⟩:=id hs;unfold FQ Builtin.Slice.sliceFields;refine yg (yg (zM oA sZ (x:=vl) rfl (yg (zM oA sZ (x:=vu) rfl (yg (zM oA sZ (x:=.none) rfl (yt ?_)))))));refine yg (slicePart_none ?_);show yj _ _ (if((1:Int)==0)=true then _ else _) _ _ s;rw[if_neg (by decide)];refine yg (zkS pl (yg (zkS pu (yg (yt ?_)))));show yj _ _ (match ER lo hi 1 (n:Int) with|(lo,hi)=>pure (lo,(1:Int),DF lo hi 1)) _ _ s;rw[zmm lo hi n];show yj _ _ (pure (((aR n 0 lo:Nat):Int),(1:Int),DF ((aR n 0 lo:Nat):Int) ((aR n n hi:Nat):Int) 1)) _ _ s;rw[zul];exact yt h
theorem zuj(xs:Array gV)(i k:Nat):((z9 k).filterMap fun(m:Nat)=>xs[((i:Int)+(m:Int)*1).toNat]?).toArray=((xs.toList.drop i).take k).toArray:=by
 have e:(fun(m:Nat)=>xs[((i:Int)+(m:Int)*1).toNat]?)=fun m=>xs[i+m]?:=by
  funext m
  have:((i:Int)+(m:Int)*1).toNat=i+m:=by omega
  rw[this]
 rw[e];have:=pick_run xs i k;rw[List.filterMap_map]at this;have e2:((fun x=>xs[x]?)∘fun x=>i+x)=fun m=>xs[i+m]?:=rfl;rw[e2]at this;rw[this]
theorem zpc{lo:Option Int}(ht:Ba s.heap t items)(hs:s.heap.IsSliceOf sl vl vu .none)(pl:Bh vl lo)(pu:Bh vu hi)
  (hw:¬ (aR items.size 0 lo=0/\aR items.size items.size hi=items.size))
  (h:Q (.ref s.heap.objs.size) { s with heap:=s.heap.push { cls:=.type "tuple",data:=.seq ((items.toList.drop (aR items.size 0 lo)).take (aR items.size items.size hi-aR items.size 0 lo)).toArray } })
  (hsz:items.size<=yz):yj (ym prog w) A (Bi (.ref t) (.ref sl)) Q E s:=by
 have wt:sizeOk (.seq ((items.toList.drop (aR items.size 0 lo)).take (aR items.size items.size hi-aR items.size 0 lo)).toArray):=by
  show((items.toList.drop (aR items.size 0 lo)).take (aR items.size items.size hi-aR items.size 0 lo)).toArray.size<=yz;rw[yU,DB,List.length_drop,Cj]
  omega
 have hj:aR items.size items.size hi<=items.size:=zwR _ _ (yA _) hi;obtain⟨os,oA,lQ,sZ⟩:=id hs;have hTs:s.TypeIs (.ref sl) "slice":=⟨os,oA,lQ⟩;unfold Bi
 try with_reducible refine zH ?_
 first|refine yg (yt ?_)|skip
 refine yg (wpAny_sequenceKey ht.typeIs (by decide) ?_);refine yg (BA (name:=BC "__getitem__") ht.typeIs Cy
  (A2 Cy ht.typeIs entry_tuple_getitem ?_ (args_tuple_getitem _ _)))
 show yj _ _ (FR (.ref t) >>= _) _ _ s;refine yg (tupleItemsOf_ ht ?_);refine yg (C7 hTs ?_);rw[if_pos (by decide)];refine yg (zkR hs pl pu ?_);have hno:¬ ((((aR items.size 0 lo:Nat):Int)==0&&(1:Int)==1&&(aR items.size items.size hi-aR items.size 0 lo)==items.size)=true):=by
  intro q;rw[zf,zf]at q;have q1:((aR items.size 0 lo:Nat):Int)=0:=eq_of_beq q.1.1;have q2:aR items.size items.size hi-aR items.size 0 lo=items.size:=eq_of_beq q.2;exact hw ⟨by omega,by omega⟩
 show yj _ _ (if(((aR items.size 0 lo:Nat):Int)==0&&(1:Int)==1&&(aR items.size items.size hi-aR items.size 0 lo)==items.size)=true then _ else _) _ _ s;rw[if_neg hno,zuj]
 first
  | exact yg (m:=DH _) (Al (yt ⟨_,rfl,yt h⟩) wt)
  | exact yg (m:=DH _) (Al (yg (yt (yt ⟨_,rfl,yt h⟩))) wt)
  | exact yg (yg (m:=DH _) (Al (yt (yt ⟨_,rfl,yt h⟩)) wt))
  | exact yg (yg (m:=DH _) (Al (yt ⟨_,rfl,yt h⟩) wt))
end
end HT
namespace L2
open PySem PySem.Spec PyProof.Rows
variable {te:TE}{pos:yn}{e:yh}{X:Cx}{ns:List Int}{r:V->Option Int->Option Int->Hp->VK->Prop}{us:List gV}{xs:List V}
section
abbrev TO:=St->Hp->(Option Int->Hp->Prop)->Prop
def PO(X:Cx)(e:Option yh)(t:TO):Prop :=
 ∀(pins:List (dm×yp)) (s:kb) (σ:St) (H:Hp) (Q:Option Int->Hp->Prop),Inv X pins σ H s->t σ H Q ->
  yj (ym X.prog X.w) X.A (evalPart e X.env) (fun u s'=>∃ o H',Inv X pins σ H' s'/\Bh u o/\Q o H') X.xe s
noncomputable def zxr:TO:=fun _ H Q=>Q none H
noncomputable def zxu(t:TE):TO:=fun σ H Q=>t σ H fun x H1=>∃ i,x=.int i/\Q (some i) H1
theorem intsAre_of:∀{us:List gV},Vals (ns.map V.int) us->An us ns:=by
 induction ns with
 | nil=>intro us r;rw[DI]at r;cases r;exact .nil
 | cons n ns ih =>
  intro us r;rw[zh]at r;cases r with
  | cons r1 r2 =>
   obtain⟨t,e⟩:=r1;subst e;exact .cons n t (ih r2)
section
variable {lo hi:Option yh}{tl th:TO}{p2:yn}
theorem zut:PO X none zxr:=by
 intro pins s σ H Q I h;rw[evalPart_none];exact yt ⟨none,H,I,.none,h⟩
theorem zuu(h:PE X e te):PO X (some e) (zxu te):=by
 intro pins s σ H Q I hw;rw[evalPart_some];refine aI (h pins s σ H _ I hw) fun u s1 ⟨x,H1,I1,r1,q1⟩=>?_;obtain⟨i,rfl,q⟩:=q1;obtain⟨t,rfl⟩:=r1;exact⟨some i,H1,I1,.int i t,q⟩
def rR(X:Cx)(r:V->Option Int->Option Int->Hp->VK->Prop):Prop :=
 ∀(pins:List (dm×yp)) (s:kb) (σ:St) (H:Hp) (x:V) (v vl vu:gV) (lo hi:Option Int) (sl:dm) (Q:VK),Inv X pins σ H s->RelV x v->s.heap.IsSliceOf sl vl vu .none->Bh vl lo->Bh vu hi->r x lo hi H Q ->
  ∃ T id,typeLookup (.type T) "__getitem__"=pure (some (.builtin id))/\s.TypeIs v T/\yj (ym X.prog X.w) X.A (Bi v (.ref sl)) (EP X pins σ Q) X.xe s
noncomputable def tSl(r:V->Option Int->Option Int->Hp->VK->Prop)(te:TE)(tl th:TO):TE:=fun σ H Q=>te σ H fun x H1=>tl σ H1 fun l H2=>th σ H2 fun u H3=>r x l u H3 Q
theorem zt0(hr:rR X r)(he:PE X e te)(hl:PO X lo tl)(hu:PO X hi th):PE X (.Subscript e (.Slice lo hi none p2) pos) (tSl r te tl th):=by
 intro pins s σ H Q I h;refine Subscript_ (aI (he pins s σ H _ I h) fun v s1 ⟨x,H1,I1,r1,q1⟩=>?_);refine wpAny_Slice (aI (hl pins s1 σ H1 _ I1 q1) fun vl s2 ⟨l,H2,I2,pl,q2⟩=>aI (hu pins s2 σ H2 _ I2 q2) fun vu s3 ⟨u,H3,I3,pu,q3⟩=>?_);rw[evalPart_none];refine yt ?_;have I4:Inv X pins σ H3 { s3 with heap:=s3.heap.push { cls:=.type "slice",data:=.fields #[vl,vu,.none] } }:=I3.kept (t':=s3.toks) fun b ob q=>yM _ q;obtain⟨T,id,hT,ht,hg⟩:=hr pins { s3 with heap:=s3.heap.push { cls:=.type "slice",data:=.fields #[vl,vu,.none] } } σ H3 x v vl vu l u s3.heap.objs.size Q I4 r1 (Heap.IsSliceOf.new ..) pl pu q3;show yj (ym X.prog X.w) X.A (DJ e (.Slice lo hi none p2) v (.ref s3.heap.objs.size)) (EP X pins σ Q) X.xe { s3 with heap:=s3.heap.push { cls:=.type "slice",data:=.fields #[vl,vu,.none] } };exact tail_any (ops:=[.ref s3.heap.objs.size,v]) ht hT hg (by with_unfolding_all rfl)
def kq(xs:List V)(lo hi:Option Int):List V:=(xs.drop (HT.aR xs.length 0 lo)).take (HT.aR xs.length xs.length hi-HT.aR xs.length 0 lo)
theorem zhT(xs:List V)(lo hi:Option Int):(kq xs lo hi).length<=xs.length:=by
 unfold kq;rw[DB,List.length_drop]
 omega
def zww(K:yf):V->Option Int->Option Int->Hp->VK->Prop:=fun x lo hi H Q=>∃ a xs,x=.ref a/\dO K H a xs /\
 ¬ (HT.aR xs.length 0 lo=0/\HT.aR xs.length xs.length hi=xs.length)/\∀ p,H p=none->Q (.ref p) (upd H p (.tup (kq xs lo hi)))
theorem zw3:rR X (zww X.K):=by
 intro pins s σ H x v vl vu lo hi sl Q I rx hs pl pu h;obtain⟨a,xs,rfl,hx,hw,q⟩:=h;cases rx;obtain⟨its,r,ht,hz⟩:=I.tuple hx;have hlen:its.toArray.size=xs.length:=by rw[yU];exact r.length.symm
 refine⟨"tuple",_,Cy.lookup,ht.typeIs,?_⟩;refine HT.zpc ht hs pl pu (by rw[hlen];exact hw) ?_ (by rw[hlen];exact hz);rw[hlen];refine⟨.ref s.heap.objs.size,_,I.laid (t':=s.toks) (o:=.tup (kq xs lo hi)) (fun b ob q=>yM _ q) (yA _) ?_,rfl,q _ (I.au.fresh (yA _))⟩;exact⟨zA (zhT xs lo hi) hz,_,(r.drop (HT.aR xs.length 0 lo)).take (HT.aR xs.length xs.length hi-HT.aR xs.length 0 lo),CY _ _⟩
def zwl(K:yf):R2:=fun x y H Q=>∃ a b xs ys,x=.ref a/\y=.ref b/\dO K H a xs/\dO K H b ys/\xs≠[]/\xs.length+ys.length<=yz /\
 (ys=[]->Q (.ref a) H)/\(ys≠[]->∀ p,H p=none->Q (.ref p) (upd H p (.tup (xs++ys))))
theorem Vals.zdG(r:Vals xs us):us=[]↔xs=[]:=by
 cases r with
 | nil=>simp
 | cons _ _=>simp
theorem ztl:aQ X (zZ .Add) (zwl X.K):=by
 intro pins s σ H x y v u Q I rx ry h;obtain⟨a,b,xs,ys,rfl,rfl,ha,hb,hx,hz,q1,q2⟩:=h;cases rx;cases ry;obtain⟨its,r1,p1,_⟩:=I.tuple ha;obtain⟨lW,r2,p2,_⟩:=I.tuple hb;refine HT.zni p1 p2 (fun z=>hx (r1.zdG.mp z)) (fun z=>⟨.ref a,H,I,rfl,q1 (r2.zdG.mp z)⟩) (fun z=>?_) (by rw[<- r1.length,<- r2.length];exact hz);refine⟨.ref s.heap.objs.size,_,I.laid (t':=s.toks) (o:=.tup (xs++ys)) (fun b ob q=>yM _ q) (yA _) ?_,rfl,q2 (fun w=>z (r2.zdG.mpr w)) _ (I.au.fresh (yA _))⟩;exact⟨by rw[Br];exact hz,_,r1.append r2,CY _ _⟩
end
end
variable {i:Int}{x y:V}{to:TE}{j n:Nat}{α:Type}{p:dm}{name:ir}{g9 its:List gV}{s:kb}{u v:gV}{σ:St}{A:yy}{f:yp->yp}{T:String}{r:V->List V->Hp->VK->Prop}{t:TA}{ys:List V}{es:List yh}{H:Hp}{pins:List (dm×yp)}
section
noncomputable def gz(n:Nat)(i:Int):Option Nat:=if 0<=i then(if i<n then some i.toNat else none) else if -(n:Int)<=i then some (i+n).toNat else none
def dQ{α:Type}(xs:List α)(i:Int):Option α:=(gz xs.length i).bind fun j=>xs[j]?
theorem ziW(h:gz n i=some j):seqIndex? i n=some j/\j<n/\-(n:Int)<=i/\i<n:=by
 unfold gz at h
 by_cases h0:0<=i
 ·rw[if_pos h0]at h
  by_cases h1:i<n
  ·rw[if_pos h1]at h
   have e:i.toNat=j:=zt h;exact⟨by rw[seqIndex_of h0 h1,e],by omega,by omega,h1⟩
  ·rw[if_neg h1]at h;cases h
 ·rw[if_neg h0]at h
  by_cases h1:-(n:Int)<=i
  ·rw[if_pos h1]at h
   have e:(i+n).toNat=j:=zt h;exact⟨by rw[seqIndex_neg (by omega) h1,e],by omega,h1,by omega⟩
  ·rw[if_neg h1]at h;cases h
theorem zgK{xs:List α}{v:α}(h:dQ xs i=some v):∃ j,seqIndex? i xs.length=some j/\xs[j]?=some v/\j<xs.length/\-(xs.length:Int)<=i/\i<xs.length:=by
 unfold dQ at h;cases e:gz xs.length i with
 | none=>rw[e]at h;cases h
 | some j =>
  rw[e]at h;obtain⟨h1,h2,h3,h4⟩:=ziW e;exact⟨j,h1,h,h2,h3,h4⟩
def rQ(b:yh):Prop:=∀ o i,DK b false o i=operate [o,i] (Bi o i)
def jM(X:Cx)(r:R2):Prop :=
 ∀(value slice:yh) (pins:List (dm×yp)) (s:kb) (σ:St) (H:Hp) (x y:V) (v u:gV) (Q:VK),Inv X pins σ H s->RelV x v->RelV y u->r x y H Q ->
  DK slice false v u=operate [v,u] (Bi v u)->yj (ym X.prog X.w) X.A (DJ value slice v u) (EP X pins σ Q) X.xe s
def MtR(X:Cx)(id:String)(r:V->List V->Hp->VK->Prop):Prop :=
 ∀(pins:List (dm×yp)) (s:kb) (σ:St) (H:Hp) (x:V) (xs:List V) (v:gV) (us:List gV) (Q:VK),Inv X pins σ H s->RelV x v->Vals xs us->r x xs H Q ->
  yj (ym X.prog X.w) X.A (call (.builtin id) (v::us)) (EP X pins σ Q) X.xe s
section
variable {a b:yh}{ta tb:TE}
theorem zes{r:R2}(hr:jM X r)(ha:PE X a ta)(hb:PE X b tb)(hs:rQ b):PE X (.Subscript a b pos) (ph r ta tb):=by
 intro pins s σ H Q I h;exact Subscript_ (zaG ha hb I h fun v u s2 x y H2 I2 rx ry q=>hr a b pins s2 σ H2 x y v u Q I2 rx ry q (hs _ _))
def zwq(K:yf):R2:=fun x y H Q=>∃ p xs i v,x=.ref p/\y=.int i/\bq K H p xs/\dQ xs i=some v/\Q v H
def zwr(K:yf):R2:=fun x y H Q=>∃ p xs i v,x=.ref p/\y=.int i/\dO K H p xs/\dQ xs i=some v/\Q v H
theorem zp5:jM X (zwq X.K):=by
 intro value slice pins s σ H x y v u Q I rx ry h hs;obtain⟨p,xs,i,z,rfl,rfl,hq,he,q⟩:=h;cases rx;obtain⟨t,rfl⟩:=ry;obtain⟨its,r,pl,hz⟩:=I.list hq;obtain⟨j,h1,h2,h3,h4,h5⟩:=zgK he;obtain⟨w,ew,iO⟩:=r.get h2;have hl:=r.length;have hn:=tR;have fin:EP X pins σ Q w s:=⟨z,H,I,iO,q⟩
 by_cases h0:0<=i
 ·have hj:i.toNat=j:=by
   rw[seqIndex_of h0 h5]at h1;exact zt h1
  exact item_listR pl.isList h0 (by omega) (by rw[hj];simpa using ew) fin hs
 ·have hj:(i+(its.toArray.size:Int)).toNat=j:=by
   rw[seqIndex_neg (by omega) h4]at h1;rw[yU,<- hl];exact zt h1
  exact subscriptTail_builtinR (x:=w) pl.isList.typeIs slot_list_getitem.lookup
   (wpAny_getItem_list_neg (Q:=fun r s'=>r=w/\EP X pins σ Q r s') pl.isList (by omega) (by rw[yU] <;> omega) (by omega) (by rw[hj];simpa using ew) ⟨rfl,fin⟩) hs
theorem zp6:jM X (zwr X.K):=by
 intro value slice pins s σ H x y v u Q I rx ry h hs;obtain⟨p,xs,i,z,rfl,rfl,hq,he,q⟩:=h;cases rx;obtain⟨t,rfl⟩:=ry;obtain⟨its,r,pl,hz⟩:=I.tuple hq;obtain⟨j,h1,h2,h3,h4,h5⟩:=zgK he;obtain⟨w,ew,iO⟩:=r.get h2;have hl:=r.length;have hn:=tR;have fin:EP X pins σ Q w s:=⟨z,H,I,iO,q⟩;exact subscriptTail_builtinR (x:=w) pl.typeIs slot_tuple_getitem.lookup
  (getItem_tuple (j:=j) (Q:=fun r s'=>r=w/\EP X pins σ Q r s') pl (by omega) (by omega) (by rw[yU,<- hl];exact h1) (by simpa using ew) ⟨rfl,fin⟩) hs
theorem zsy(its:List gV)(n j:Nat)(u:gV):zF (·.setIfInBounds j u) { cls:=.type "list",data:=.seq its.toArray n }={ cls:=.type "list",data:=.seq (its.set j u).toArray n }:=by
 simp[zF]
theorem Inv.lst{pins:List (dm×yp)}{σ:St}{H:Hp}{s:kb}{p:dm}{xs:List V}(I:Inv X pins σ H s)(h:H p=some (.lst xs)) :
  ∃(its:List gV) (n:Nat),Vals xs its/\s.heap.get? p=some { cls:=.type "list",data:=.seq its.toArray n }/\xs.length<=yz:=by
 obtain⟨z,its,n,r,e⟩:=I.au p _ h;exact⟨its,n,r,e,z⟩
theorem Inv.zsi{n':Nat}(I:Inv X pins σ H s)(h:H p=some (.lst xs))
  (ho:s.heap.get? p=some { cls:=.type "list",data:=.seq its.toArray n }) (hf:f { cls:=.type "list",data:=.seq its.toArray n }={ cls:=.type "list",data:=.seq g9.toArray n' }) (r:Vals ys g9) (hz:ys.length<=yz) (t:Nat) :
  Inv X pins σ (upd H p (.lst ys)) { s with heap:=s.heap.update p f,toks:=t }:=by
 have e:(s.heap.update p f).get? p=some { cls:=.type "list",data:=.seq g9.toArray n' }:=by
  rw[C8 f ho (by rw[hf] <;> rfl),hf]
 refine I.write (x:=p) (e:=p) (by rw[h];trivial) (.inl rfl) (fun b u hb q=>(BW _ _ (zq hb)).trans q) ⟨_,e⟩ ?_;exact⟨hz,g9,n',r,e⟩
def zwu:V->V->V->Hp->(Hp->Prop)->Prop:=fun o i v H Q=>∃ p xs k j,o=.ref p/\i=.int k/\H p=some (.lst xs)/\gz xs.length k=some j/\Q (upd H p (.lst (xs.set j v)))
theorem set_list:zf3 X zwu:=by
 intro pins s σ H o i v ov iv u Q I ro ri rv h;obtain⟨p,xs,k,j,rfl,rfl,hp,hj,q⟩:=h;cases ro;obtain⟨t,rfl⟩:=ri;obtain⟨its,n,r,ho,hz⟩:=I.lst hp;obtain⟨h1,h2,h3,h4⟩:=ziW hj;have hl:=r.length;have hn:=tR;have I':Inv X pins σ (upd H p (.lst (xs.set j v))) { s with heap:=s.heap.update p (zF (·.setIfInBounds j u)) } :=
  I.zsi hp ho (zsy its n j u) (r.set rv j) (by rw[A3];exact hz) s.toks
 by_cases h0:0<=k
 ·have hk:k.toNat=j:=by
   rw[seqIndex_of h0 h4]at h1;exact zt h1
  exact PySem.W.ki_setAt ho h0 (by omega) (by rw[yU,<- hl];exact h4) (by rw[hk];exact⟨_,I',q⟩)
 ·have hk:(k+(its.toArray.size:Int)).toNat=j:=by
   rw[seqIndex_neg (by omega) h3]at h1;rw[yU,<- hl];exact zt h1
  exact PySem.W.ki_setBack ho (by omega) (by rw[yU,<- hl];exact h3) (by omega) (by rw[hk];exact⟨_,I',q⟩)
theorem zw5(lo hi:Option Int)(n:Nat):(BX lo hi none n).1=((HT.aR n 0 lo:Nat):Int)/\(BX lo hi none n).2.1=((HT.aR n n hi:Nat):Int)/\(BX lo hi none n).2.2=1:=by
 refine⟨?_,?_,rfl⟩
 ·cases lo with
  | none=>simp[BX,HT.aR]
  | some i =>
   simp only[BX,HT.aR,Option.getD_none,show(1:Int) > 0 by decide,if_true]
   by_cases h:i<0
   ·simp only[h,if_true] <;> omega
   ·simp only[h,if_false] <;> omega
 ·cases hi with
  | none=>simp[BX,HT.aR]
  | some i =>
   simp only[BX,HT.aR,Option.getD_none,show(1:Int) > 0 by decide,if_true]
   by_cases h:i<0
   ·simp only[h,if_true] <;> omega
   ·simp only[h,if_false] <;> omega
theorem zw4(its:List gV)(lo hi:Option Int):slicePick its.toArray lo hi none=((its.drop (HT.aR its.length 0 lo)).take (HT.aR its.length its.length hi-HT.aR its.length 0 lo)).toArray:=by
 obtain⟨h1,h2,h3⟩:=zw5 lo hi its.toArray.size;unfold slicePick;rw[h1,h2,h3];simp only[sliceRange_one,pick_run,yU] <;> rfl
def zwv(K:yf):V->Option Int->Option Int->Hp->VK->Prop:=fun x lo hi H Q=>∃ a xs,x=.ref a/\bq K H a xs/\∀ p,H p=none->Q (.ref p) (upd H p (.lst (kq xs lo hi)))
theorem zw2:rR X (zwv X.K):=by
 intro pins s σ H x v vl vu lo hi sl Q I rx hs pl pu h;obtain⟨a,xs,rfl,hx,q⟩:=h;cases rx;obtain⟨its,r,ht,hz⟩:=I.list hx;have hlen:=r.length;refine⟨"list",_,slot_list_getitem.lookup,ht.isList.typeIs,?_⟩;refine wpAny_getItem_list_slice ht.isList hs pl pu .none (by simp) ?_ (by rw[yU] <;> omega);rw[zw4,<- hlen];refine⟨.ref s.heap.objs.size,_,I.laid (t':=s.toks) (o:=.lst (kq xs lo hi)) (fun b ob q=>yM _ q) (yA _) ?_,rfl,q _ (I.au.fresh (yA _))⟩;exact⟨zA (zhT xs lo hi) hz,_,0,(r.drop (HT.aR xs.length 0 lo)).take (HT.aR xs.length xs.length hi-HT.aR xs.length 0 lo),y9 _ rfl⟩
noncomputable def kG:V->Bool
 | .non=>true
 | .bl _=>true
 | .int _=>true
 | .str _=>true
 | _=>false
noncomputable def lM:V->V->Bool
 | .non,.non=>true
 | .bl a,.bl b=>a==b
 | .bl a,.int b=>(if a then 1 else 0)==b
 | .int a,.bl b=>a==(if b then 1 else 0)
 | .int a,.int b=>a==b
 | .str a,.str b=>a==b
 | _,_=>false
theorem zop(ry:RelV y u)(rx:RelV x v)(fy:kG y=true)(fx:kG x=true):EG A s u v (lM y x):=by
 cases y with
 | non =>
  cases ry;cases x with
  | non=>cases rx;exact SeqAt.EqAt.same _
  | bl b=>cases rx;exact SeqAt.EqAt.none_bool b
  | int b=>obtain⟨t,rfl⟩:=rx;exact SeqAt.EqAt.none_int b t
  | str b=>obtain⟨t,rfl⟩:=rx;exact SeqAt.EqAt.none_str b t
  | _=>exact absurd (show false=true from fx) zL
 | bl a =>
  cases ry;cases x with
  | non=>cases rx;exact SeqAt.EqAt.bool_none a
  | bl b=>cases rx;exact SeqAt.EqAt.bool_bool a b
  | int b=>obtain⟨t,rfl⟩:=rx;exact SeqAt.EqAt.bool_int a b t
  | str b=>obtain⟨t,rfl⟩:=rx;exact SeqAt.EqAt.bool_str a b t
  | _=>exact absurd (show false=true from fx) zL
 | int a =>
  obtain⟨t',rfl⟩:=ry;cases x with
  | non=>cases rx;exact SeqAt.EqAt.int_none a t'
  | bl b=>cases rx;exact SeqAt.EqAt.int_bool a t' b
  | int b=>obtain⟨t,rfl⟩:=rx;exact FO a t' b t
  | str b=>obtain⟨t,rfl⟩:=rx;exact FE a t' b t
  | _=>exact absurd (show false=true from fx) zL
 | str a =>
  obtain⟨t',rfl⟩:=ry;cases x with
  | non=>cases rx;exact SeqAt.EqAt.str_none a t'
  | bl b=>cases rx;exact SeqAt.EqAt.str_bool a t' b
  | int b=>obtain⟨t,rfl⟩:=rx;exact FG a t' b t
  | str b=>obtain⟨t,rfl⟩:=rx;exact SeqAt.EqAt.str_str a t' b t
  | _=>exact absurd (show false=true from fx) zL
 | _=>exact absurd (show false=true from fy) zL
def eqU(x:V)(u:gV):Bool:=match u with
 | .none=>lM .non x
 | .bool b=>lM (.bl b) x
 | .int i _=>lM (.int i) x
 | .str z _=>lM (.str z) x
 | _=>false
theorem zbJ(r:RelV y u)(f:kG y=true):eqU x u=lM y x:=by
 cases y with
 | non=>cases r;rfl
 | bl b=>cases r;rfl
 | int i=>obtain⟨t,rfl⟩:=r;rfl
 | str z=>obtain⟨t,rfl⟩:=r;rfl
 | _=>exact absurd (show false=true from f) zL
theorem zjv{A:yy}{s:kb}{x:V}{v:gV}(rx:RelV x v)(fx:kG x=true):∀{xs:List V} {us:List gV},Vals xs us->xs.all kG=true->∀ u∈us,EG A s u v (eqU x u)
 | _,_,.nil,_=>fun u hu=>by cases hu
 | y::xs,u::us,.cons r t,f=>fun u' hu=>by
  rw[List.all_cons,zf]at f;rcases yH.mp hu with rfl|hu
  ·rw[zbJ r f.1];exact zop r rx f.1 fx
  ·exact zjv rx fx t f.2 u' hu
theorem zhE:gB X (.builtin "len") (fun xs H Q=>∃ p ys,xs=[.ref p]/\(bq X.K H p ys\/dO X.K H p ys)/\Q (.int ys.length) H):=by
 intro pins s σ H xs us Q I r h;obtain⟨p,ys,rfl,hq,q⟩:=h;obtain⟨u,rfl,rx⟩:=vals1 r;cases rx;have hn:=tR;rcases hq with hq|hq
 ·obtain⟨its,r',pl,hz⟩:=I.list hq
  have hlen:=r'.length;exact Calls.call_len_list pl.isList (by simp only[yU] <;> omega) ⟨.int ys.length,H,I.tok _,⟨s.toks+1,by rw[yU,hlen]⟩,q⟩
 ·obtain⟨its,r',pl,hz⟩:=I.tuple hq
  have hlen:=r'.length;exact len_tuple pl (by simp only[yU] <;> omega) ⟨.int ys.length,H,I.tok _,⟨s.toks+1,by rw[yU,hlen]⟩,q⟩
theorem zaX:gB X (.type "list") (fun xs H Q=>∃ p ys,xs=[.ref p]/\(bq X.K H p ys\/dO X.K H p ys)/\∀ l,H l=none->Q (.ref l) (upd H l (.lst ys))):=by
 intro pins s σ H xs us Q I r h;obtain⟨p,ys,rfl,hq,q⟩:=h;obtain⟨u,rfl,rx⟩:=vals1 r;cases rx;have fin:∀(its:List gV),Vals ys its->ys.length<=yz->∀(h':yo) (c':Nat),(∀ b o',s.heap.get? b=some o'->h'.get? b=some o') ->
   h'.get? s.heap.objs.size=some { cls:=.type "list",dict:=none,data:=.seq its.toArray c',slots:=#[] }->EP X pins σ Q (.ref s.heap.objs.size) { s with heap:=h' }:=fun its r' hz h' c' kp e =>
  ⟨.ref s.heap.objs.size,_,I.laid (t':=s.toks) kp (yA _) (show de X.prog X.w _ h' _ (.lst ys) from⟨hz,its,c',r',e⟩),rfl,q _ (I.au.fresh (yA _))⟩
 rcases hq with hq|hq
 ·obtain⟨its,r',pl,hz⟩:=I.list hq
  have hlen:=r'.length;obtain⟨o,ho,hc,n,hd⟩:=pl.isList;exact call_list_seq p (.inl rfl) ho hc hd (fun h' c' kp e=>fin its r' hz h' c' kp e) (by simp only[yU] <;> omega)
 ·obtain⟨its,r',pl,hz⟩:=I.tuple hq
  have hlen:=r'.length;obtain⟨o,ho,hc,n,hd⟩:=pl;exact call_list_seq p (.inr rfl) ho hc hd (fun h' c' kp e=>fin its r' hz h' c' kp e) (by simp only[yU] <;> omega)
theorem zhF:gB X (.type "tuple") (fun xs H Q=>∃ p ys,xs=[.ref p]/\((bq X.K H p ys/\∀ l,H l=none->Q (.ref l) (upd H l (.tup ys)))\/(dO X.K H p ys/\Q (.ref p) H))):=by
 intro pins s σ H xs us Q I r h;obtain⟨p,ys,rfl,h⟩:=h;obtain⟨u,rfl,rx⟩:=vals1 r;cases rx;rcases h with⟨hq,q⟩|⟨hq,q⟩
 ·obtain⟨its,r',pl,hz⟩:=I.list hq
  have hlen:=r'.length;refine call_tuple_list pl.isList (fun h' kp=>?_) (by simp only[yU] <;> omega);have I1:Inv X pins σ H { s with heap:=h' }:=I.kept (t':=s.toks) kp;have I2:Inv X pins σ (upd H h'.objs.size (.tup ys)) { s with heap:=h'.push { cls:=.type "tuple",data:=.seq its.toArray } } :=
   I1.laid (t':=s.toks) (fun b o e=>yM _ e) (yA _) (show de X.prog X.w _ _ _ (.tup ys) from⟨hz,its,r',CY _ _⟩)
  exact⟨.ref h'.objs.size,_,I2,rfl,q _ (I1.au.fresh (yA _))⟩
 ·obtain⟨its,r',pl,hz⟩:=I.tuple hq
  exact call_tuple_same pl ⟨.ref p,H,I,rfl,q⟩
def tyV(K:yf)(T:String)(x:V)(H:Hp):Prop:=match x with
 | .str _=>T="str"
 | .int _=>T="int"
 | .ref p=>(T="list"/\∃ xs,bq K H p xs)\/(T="tuple"/\∃ o,K.lookup p=some o/\o.cls=.type "tuple"/\o.dict=none) \/
   (T="dict"/\((∃ ag,H p=some (.dK ag))\/∃ ag,H p=some (.dT ag)))\/(T="set"/\∃ S n,H p=some (.set S n))
 | _=>False
theorem zx6(I:Inv X pins σ H s)(r:RelV x v)(ty:tyV X.K T x H) :
  s.TypeIs v T/\∀ a,v=.ref a->∃ ob,s.heap.get? a=some ob/\ob.dict=none:=by
 cases x with
 | str z =>
  obtain⟨t,rfl⟩:=r;cases (show T="str" from ty);exact⟨typeIs_str s z t,fun _ e=>nomatch e⟩
 | int i =>
  obtain⟨t,rfl⟩:=r;cases (show T="int" from ty);exact⟨C9 s i t,fun _ e=>nomatch e⟩
 | ref p =>
  cases r;rcases ty with⟨rfl,xs,hq⟩|⟨rfl,o,hk,hc,hd⟩|⟨rfl,hk⟩|⟨rfl,S,n,hk⟩
  ·obtain⟨its,_,pl,_⟩:=I.list hq
   refine⟨pl.isList.typeIs,fun a e=>?_⟩;cases e;obtain⟨o,n,e,c,hd,_⟩:=pl;exact⟨o,e,hd⟩
  ·refine⟨⟨o,I.dI p o hk,hc⟩,fun a e=>?_⟩
   cases e;exact⟨o,I.dI _ o hk,hd⟩
  ·have z:∃ o,s.heap.get? p=some o/\o.ExactDict:=by
    rcases hk with⟨ag,hk⟩|⟨ag,hk⟩
    ·obtain⟨_,_,_,_,o,_,_,e,ex,_⟩:=I.au p _ hk
     exact⟨o,e,ex⟩
    ·obtain⟨_,_,_,_,o,_,_,e,ex,_⟩:=I.au p _ hk
     exact⟨o,e,ex⟩
   obtain⟨o,e,ex⟩:=z;refine⟨⟨o,e,ex.1⟩,fun a e2=>?_⟩;cases e2;exact⟨o,e,ex.2.1⟩
  ·obtain⟨o,_,_,_,e,ex,_⟩:=I.au p _ hk
   refine⟨⟨o,e,ex.1⟩,fun a e2=>?_⟩;cases e2;exact⟨o,e,ex.2.1⟩
 | _=>exact zP ty
noncomputable def tBM(K:yf)(T:String)(r:V->List V->Hp->VK->Prop)(to:TE)(t:TA):TE:=fun σ H Q=>to σ H fun x H1=>tyV K T x H1/\t σ H1 fun xs H2=>r x xs H2 Q
variable {o:yh}{apos dG:yn}{id:String}
theorem ztL(pa:PlainAttrs T)(slot:Slot T name id)(hty:typeOf (.builtin id)=pure (.type "method_descriptor"))(hm:MtR X id r)(ho:PE X o to)(ha:PA X (e::es) t)
  (zcb:Cr o name X.env (yu o X.env)=yu o X.env:=by rfl)
  (zcf:((yJ dG (yi (e::es) X.env)).all (fun x=>!x.1)&&(Cu dG (Cv [] X.env)).all (fun x=>x.1.isSome)
   && decide ((e::es).length+([]:List Keyword).length+(if([]:List Keyword).isEmpty then 0 else 1)<30))=true:=by rfl)
  (zci:(apos.endLine==dG.line)=true:=by rfl) (hs:yi (e::es) X.env=(false,yu e X.env)::yi es X.env:=by rfl) (zcN:(yJ dG (yi es X.env)).any (·.1)=false:=by rfl) :
  PE X (.Call (.Attribute o name apos) (e::es) [] dG) (tBM X.K T r to t):=by
 intro pins s σ H Q I h;refine wpAny_Call_method_late zcb zcf zci rfl (aI (ho pins s σ H _ I h) fun v s1 ⟨x,H1,I1,r1,ty,q1⟩=>?_);obtain⟨h1,h2⟩:=zx6 I1 r1 ty;refine⟨T,id,pa,slot,hty,h1,h2,?_⟩;have hA:=ha dG pins s1 σ H1 _ I1 q1;rw[hs]at hA ⊢;refine Calls.callWith_builtin (by show(false||(yJ dG (yi es X.env)).any (·.1))=false;rw[zcN] <;> rfl) (FT ?_);exact aI hA fun us s2 ⟨vs,H2,I2,r2,q2⟩=>hm pins s2 σ H2 x vs v us Q I2 r1 r2 q2
end
end
variable {t':Nat}{f:Array gV->Array gV}
section
def MtM(X:Cx)(id:String)(r:V->List V->Hp->VK->Prop):Prop :=
 ∀(pins:List (dm×yp)) (s:kb) (σ:St) (H:Hp) (x:V) (xs:List V) (v:gV) (us:List gV) (Q:VK),Inv X pins σ H s->RelV x v->Vals xs us->r x xs H Q ->
  yj (ym X.prog X.w) X.A (call (.builtin id) (v::us)) (EP X pins σ Q) X.xe s
theorem Vals.one:∀{x:V} {us:List gV},Vals [x] us->∃ u,us=[u]/\RelV x u
 | _,_,.cons r .nil=>⟨_,rfl,r⟩
theorem Vals.dropLast(h:Vals xs us):Vals xs.dropLast us.dropLast:=by
 induction h with
 | nil=>exact .nil
 | cons r t ih =>
  cases t with
  | nil=>exact .nil
  | cons q t'=>exact .cons r ih
theorem Vals.rep{xs:List V}{us:List gV}(h:Vals xs us):∀ k:Nat,Vals (yq k xs).flatten (yq k us).flatten
 | 0=>.nil
 | k+1=>by
  rw[Bj,Bj,Cz,Cz];exact Vals.append h (Vals.rep h k)
theorem zyH(l:List α):l.eraseIdx (l.length-1)=l.dropLast:=by
 induction l with
 | nil=>rfl
 | cons a r ih =>
  cases r with
  | nil=>rfl
  | cons b r =>
   have e:(a::b::r).length-1=((b::r).length-1)+1:=by
    have h1:(a::b::r).length=r.length+2:=rfl;have h2:(b::r).length=r.length+1:=rfl
    omega
   rw[e,List.eraseIdx_cons_succ,ih]
   all_goals rfl
theorem foldl_rep(its:List gV):∀(k:Nat) (acc:List gV),
  Dc (fun x1 x2=>x1++x2) acc.toArray (yq k its.toArray)=(acc++(yq k its).flatten).toArray
 | 0,acc=>by simp
 | k+1,acc=>by
  have e:acc.toArray++its.toArray=(acc++its).toArray:=by simp
  have e2:(acc++its)++(yq k its).flatten=acc++(yq (k+1) its).flatten:=by
   rw[Bj,Cz,List.append_assoc]
  rw[<- e2,<- foldl_rep its k (acc++its),<- e,Bj,List.foldl_cons]
section
variable {l b:dm}{zs:List V}
theorem Inv.zsf(I:Inv X pins σ H s)(hH:H l=some (.lst xs))
  (e:s.heap.get? l=some { cls:=.type "list",data:=.seq its.toArray n }) (hf:f its.toArray=g9.toArray) (hv:Vals ys g9) (hz:ys.length<=yz) :
  Inv X pins σ (upd H l (.lst ys)) { s with heap:=s.heap.update l (zF f),toks:=t' }:=by
 have q:=PySem.IsL.update e f;rw[hf]at q;refine I.write (x:=l) (e:=l) (by rw[hH];exact trivial) (.inl rfl) (fun b' u hb hu=>(BW s.heap (zF f) (zq hb)).trans hu) ⟨_,q⟩ ?_;exact⟨hz,g9,_,hv,q⟩
theorem Inv.zjd(I:Inv X pins σ H s)(hv:Vals ys its)(hz:ys.length<=yz) :
  Inv X pins σ (upd H s.heap.objs.size (.lst ys)) { s with heap:=s.heap.push { cls:=.type "list",data:=.seq its.toArray },toks:=t' } :=
 I.laid (fun _ _ q=>yM _ q) (yA _) ⟨hz,its,0,hv,y9 _ rfl⟩
theorem Inv.fresh(I:Inv X pins σ H s):H s.heap.objs.size=none:=I.au.fresh (yA _)
theorem Inv.zjm(I:Inv X pins σ H s)(hH:H l=some (.lst xs)):xs.length<=yz/\∃(its:List gV) (n:Nat),Vals xs its/\xs.length=its.length/\s.heap.get? l=some { cls:=.type "list",data:=.seq its.toArray n }:=by
 obtain⟨z,its,n,r,e⟩:=I.au l _ hH;exact⟨z,its,n,r,r.length,e⟩
theorem zsS(h:n<=yz):EV n=false:=by
 unfold EV;exact decide_eq_false (by omega)
end
section
def zwk:V->List V->Hp->VK->Prop:=fun x vs H Q=>∃ l xs y,x=.ref l/\vs=[y]/\H l=some (.lst xs)/\xs.length<yz/\Q .non (upd H l (.lst (xs++[y])))
theorem zsE:MtM X "list.append" zwk:=by
 intro pins s σ H x vs v us Q I rx rv h;obtain⟨l,xs,y,rfl,rfl,hH,hz,q⟩:=h;cases rx;obtain⟨u,rfl,ru⟩:=rv.one;obtain⟨z,its,n,r,hl,e⟩:=I.zjm hH;refine CA F.slot_list_append ⟨_,e,rfl⟩ F.entry_list_append (F.args_list_append_2 _ _) (PySem.list_append l its.toArray n u (by rw[yU];omega)) ⟨e,?_⟩;refine⟨.non,_,I.zsf (g9:=its++[u]) hH e (by simp) (r.append (.cons ru .nil)) ?_,rfl,q⟩;rw[Br,FU]
 omega
def zwt:R2:=fun x y H Q=>∃ l k xs,x=.ref l/\y=.int k/\H l=some (.lst xs)/\-(2^63)<=k/\k<2^63/\xs.length*k.toNat<=yz /\
 ∀ p,H p=none->Q (.ref p) (upd H p (.lst (yq k.toNat xs).flatten))
theorem len_rep(xs:List α)(k:Nat):(yq k xs).flatten.length=k*xs.length:=by
 induction k with
 | zero=>simp
 | succ k ih=>rw[Bj,Cz,Br,ih,Nat.succ_mul,EW]
theorem zty:aQ X (zZ .Mult) zwt:=by
 intro pins s σ H x y v u Q I rx ry h;obtain⟨l,k,xs,rfl,rfl,hH,h1,h2,hz,q⟩:=h;cases rx;obtain⟨t,rfl⟩:=ry;obtain⟨z,its,n,r,hl,e⟩:=I.zjm hH;have hlen:its.toArray.size*k.toNat<=yz:=by rw[yU,<- hl];exact hz
 have zpq:¬ its.toArray.size*k.toNat > (2^63-1) / 8:=by
  have:(yz:Nat)<=(2^63-1) / 8:=by decide
  omega
 have zps:¬ (!Builtin.List.listFitsIndex k)=true:=by
  rw[fitsIndex_both h1 h2];exact zL
 have zpE:¬ EV (its.toArray.size*k.toNat)=true:=by
  rw[zsS hlen];exact zL
 have zpG:Dc (fun x1 x2=>x1++x2) #[] (yq (if its.toArray.isEmpty=true then 0 else k.toNat) its.toArray)=(yq k.toNat its).flatten.toArray:=by
  have f0:∀ m:Nat,Dc (fun x1 x2=>x1++x2) #[] (yq m its.toArray)=(yq m its).flatten.toArray:=fun m=>by
   have:=foldl_rep its m [];rw[zQ]at this;exact this
  rw[f0];cases its with
  | nil=>simp
  | cons a r'=>rw[if_neg (by simp)]
 refine FW (T:="list") (U:="int") (by decide) ⟨_,e,rfl⟩ (fun s'=>C9 s' k t) noFill_list_mul F.fills_int_mul F.slot_int_rmul repeat_list F.slot_int_index.lookup
  (CA F.slot_int_rmul (C9 s k t) F.entry_int_rmul (F.args_int_rmul_2 _ _) (int___rmul___int_list k t l its.toArray n)
   ⟨e,rfl,⟨_,e,rfl⟩,CA F.slot_list_mul ⟨_,e,rfl⟩ F.entry_list_mul (F.args_list_mul_2 _ _) (AutoListH.list___mul___list_int_3 l its.toArray n k t zps zpq zpE) ⟨e,?_⟩⟩)
 rw[zpG];exact⟨.ref _,_,I.zjd (t':=s.toks) (r.rep k.toNat) (by rw[len_rep,Dd];exact hz),rfl,q _ I.fresh⟩
end
end
end L2
namespace Att
open PySem PySem.W PySem.Calls PyProof.Rows
variable {args:List WData}{h:yo}{l:OpenLaw}{YP:yv->yo->Prop}{q:yw}{n:Nat}{loose:List ir}{P:Params}{d:DefRec}{vals:List gV}
theorem zpU:∀(ns:List Int) (vs:List gV),WellAll P h vs (ns.map WData.int)->An vs ns:=by
 intro ns
 induction ns with
 | nil =>
  intro vs w;rw[DI]at w;cases w;exact .nil
 | cons n ns ih =>
  intro vs w;rw[zh]at w;cases w with
  | cons a b =>
   cases a;exact .cons _ _ (ih _ b)
theorem zwV(hn:l.most=some n)
  (wj:l.row.toRowW.claim.pre args=true)(hwl:WellAll P h vals args) :
  ∃ a vs ns,vals=[yS a]/\args=[WData.list (ns.map WData.int)]/\h.get? a=some { cls:=.type "list",data:=.seq vs.toArray }/\An vs ns/\ns.length<=n:=by
 have hsh:WShape.hasAll [] args [.list .int]=true:=(pre_splitW wj).1;have hc:l.pre.holds [] { args:=args }=true:=(pre_splitW wj).2;obtain⟨d,r,rfl,h1,h2⟩:=hasAllW_cons hsh;obtain rfl:=hasAllW_nil h2;obtain⟨xs,rfl,h3⟩:=hasW_list h1;obtain⟨ns,rfl⟩:=items_int h3;have hlen:ns.length<=n:=by
  unfold OpenLaw.pre at hc;have h4:(WTm.not (.lt (.lit (.int n)) (.len (.arg 0)))).holds [] { args:=[.list (ns.map .int)] }=true:=by
   have h4:=(holds_andW hc).1;rw[hn]at h4;exact h4
  have h5:=condW_of h4 (w_not (w_lt w_lit (w_len_list (w_arg rfl))));rw[za]at h5;refine Nat.le_of_not_lt fun q=>?_;have q':(n:Int)<((ns.length:Nat):Int):=by omega
  first
   | (rw[decide_eq_true q']at h5;exact absurd h5 (by decide))
   | (simp at h5;omega)
 cases hwl with
 | cons w1 w2 =>
  cases w2;cases w1 with
  | list ho hall=>exact⟨_,_,ns,rfl,rfl,ho,zpU ns _ hall,hlen⟩
theorem zuv(l:OpenLaw)(args:List WData):l.row.toRowW.claim.post args (.bool true) args=true :=
 postW_of (r:=l.row.toRowW) (X:=(true==true))
  (show WShape.has [] (.bool true) .bool=true by first|rfl|decide|simp[WShape.has,WShape.arms,WShape.armsAll])
  (show(WTm.eq .res (.lit (.bool true))).value [] { args:=args,res:=some (.bool true),after:=args }=some (.bool (true==true)) from w_eq_bool (w_res rfl) w_lit) rfl
theorem zmx{XP:(ir->Option gV)->yo->Prop}
  (hn:l.most=some n)(sY:d.params.defaults=[])
  (call:∀(w:yv) (s₀ s₁:kb) (mg mb:ir->Option gV) (fa:dm) (o:yp) (pm cd doc:gV) (a:dm) (vs:List gV) (ns:List Int),
   Ground q loose [] XP w s₀ mg mb s₁.heap->YP w s₁.heap ->
   s₁.heap.get? fa=some o->o.data=.func (docDef d.name d.params d.body d.scope pm cd doc)->s₁.heap.CodeRec cd d.name->mg d.name=some (.ref fa) ->
   s₁.heap.get? a=some { cls:=.type "list",data:=.seq vs.toArray }->An vs ns->ns.length<=n->s₁.gens=#[] ->
   Aw (ym l.prog w) BZ (.call (.ref fa) ⟨[.ref a],[]⟩) (fun r s'=>r=.ok (.ret (.bool true))/\OldK s₁.heap s'.heap/\s'.os=s₁.os/\Bb s'.gens) s₁) :
  WalkO q loose XP YP l.row.toRowW d [] (fun f vs=>EX f vs):=by
 intro w s₀ s₁ mg mb G Y fa o pm cd doc dV kV ho hd gy hD hmg hg args vals as wj zyK hrd hwl hlo;obtain rfl:dV=.none:=Dflts.none hD sY;obtain rfl:kV=.none:=Dflts.noKw hD;obtain⟨a,vs,ns,rfl,rfl,zcL,hints,hlen⟩:=zwV hn wj hwl;refine enter_call (C5 (call w s₀ s₁ mg mb fa o pm cd doc a vs ns G Y ho (fd_plain hd) gy hmg zcL hints hlen hg) fun r s' hq=>?_);obtain⟨rfl,h2,h3,h4⟩:=hq;exact⟨.inl ⟨.bool true,.bool true,[],rfl,fun _=>rfl,.bool true,zuv l _,fun _=>⟨FX,fun _ hm=>(nomatch hm)⟩⟩,h2,h3,h4⟩
end Att
namespace L2
open PySem PySem.Spec PyProof.Rows
section
theorem zlm:∀{vs:List gV} {ns:List Int},An vs ns->Vals (ns.map V.int) vs
 | _,_,.nil=>.nil
 | _,_,.cons n t h=>.cons ⟨t,rfl⟩ (zlm h)
end
section
abbrev KOf{K:yf}{h:yo}(_:K.In h):yf:=K
end
variable {P:yw}{A B:Prop}{base:yo}{n:Nat}{f:dm}{ps:List ir}{H:Hp}{oc:gV}{w:yv}{pos:yn}{ja:Array (Option gV)}{qual x:ir}{X:Cx}{mg:ir->Option gV}
section
noncomputable def eY(s:yx):Arguments:=match s with
 | .FunctionDef _ a _ _ _ _ _ _ _ _=>a
 | _=>{ posonlyargs:=[],args:=[],vararg:=none,kwonlyargs:=[],kw_defaults:=[],kwarg:=none,defaults:=[] }
noncomputable def bW(s:yx):List yx:=match s with
 | .FunctionDef _ _ b _ _ _ _ _ _ _=>b
 | _=>[]
noncomputable def aH(s:yx):yT:=match s with
 | .FunctionDef _ _ _ _ _ _ sc _ _ _=>sc
 | _=>{ kind:=.function,names:=[],isGenerator:=false,isCoroutine:=false }
abbrev E0:XK:=fun _ _ _=>False
structure c9(K:yf)(x qual:ir)(st:yx)(f:dm)(fd:yL):Prop where
 ex:∃(oc:gV) (od:Option dm) (kV doc pm:gV) (an:Option dm) (aq ct:gV) (ja:Array (Option gV)),
  fd=zD x qual (eY st) (bW st) (aH st) .none kV doc pm an aq ct/\K.lookup f=some ⟨oc,od,.func fd,ja⟩/\Bf K aq qual=true
 kp:AJ K (.ref f)=true
section
variable {K:yf}
theorem c9.binds{st:yx}{fd:yL}(F:c9 K x qual st f fd)
  (h:∀(kV doc pm:gV) (an:Option dm) (aq ct:gV) (us:List gV),us.length=ps.length->Ax (zD x qual (eY st) (bW st) (aH st) .none kV doc pm an aq ct) ⟨us,[]⟩=pure (ps.zip us)):Binds K fd ps []:=by
 obtain⟨oc,od,kV,doc,pm,an,aq,ct,ja,rfl,lk,gy⟩:=F.ex;exact .all (h kV doc pm an aq ct)
theorem vV{st:yx}{od an:Option dm}{kV doc pm aq ct:gV}(l:K.lookup f=some ⟨oc,od,.func (zD x qual (eY st) (bW st) (aH st) .none kV doc pm an aq ct),ja⟩)
  (c:Bf K aq qual=true)(k:AJ K (.ref f)=true):c9 K x qual st f (zD x qual (eY st) (bW st) (aH st) .none kV doc pm an aq ct):=⟨⟨oc,od,kV,doc,pm,an,aq,ct,ja,rfl,l,c⟩,k⟩
end
theorem zw7(h:n<=1000):n<yz:=CB h (by decide)
section
theorem pv(i:Nat)(hN:X.N[i]?=some x:=by rfl)(hv:vc X.env.scope x:=by first|exact AO rfl|exact Az (AO rfl)|exact Az (Az rfl))(hd:(x==("__debug__":ir))=false:=by decide)
  (gy:(x==("__classdict__":ir))=false:=by decide):PE X (.Name x pos) (dD i):=zj1 hN hv hd gy
end
theorem js(h:B):if false=true then A else B:=by
 rw[if_neg zL];exact h
theorem jt(h:A):if true=true then A else B:=by
 rw[if_pos rfl];exact h
def ay(H H':Hp):Prop:=∀ b o,H b=some o->H' b=some o
theorem ay.refl(H:Hp):ay H H:=fun _ _ h=>h
theorem ay.trans{H1 H2:Hp}(a:ay H H1)(b:ay H1 H2):ay H H2:=fun c o h=>b c o (a c o h)
end
variable {s:kb}{a:Nat}{pins:List (dm×yp)}{σ:St}{k:Int}
section
theorem bits_le(h:k.natAbs<2^a):DL k<=a:=by
 unfold DL
 split
 ·exact zJ _
 ·rename_i h0
  have hp:k.natAbs≠0:=by
   intro z;apply h0;have:k=0:=by omega
   subst this
   rfl
  have:=(Nat.log2_lt hp).mpr h
  omega
theorem mulOk_of{i j:Int}{b:Nat}(hi:i.natAbs<2^a)(hj:j.natAbs<2^b)(h:a+b<=134217728):IntMulOk i j:=by
 have h1:=bits_le hi;have h2:=bits_le hj;have h3:FY ((DL i:Int)+(DL j:Int))=false:=by
  unfold FY;rw[bitsLine_eq];simp
  omega
 unfold IntMulOk;rw[h3];simp
section
theorem ztv:aQ X (zZ .Mult) (rI IntMulOk fun i j=>.int (i*j)):=opI fun _ _ _ _ _ _ _ hc q=>mul_int q hc
end
mutual
/-- the value v is the thing d in the abstract heap -/
def Is(K:yf)(H:Hp):yI->V->Prop
 | .none,v=>v=.non
 | .bool b,v=>v=.bl b
 | .int i,v=>v=.int i
 | .str x,v=>v=.str x
 | .list xs,v=>∃ a vs,v=.ref a/\bq K H a vs/\ig K H xs vs
 | .tuple xs,v=>∃ a vs,v=.ref a/\dO K H a vs/\ig K H xs vs
 | .dict _,_=>False
def ig(K:yf)(H:Hp):List yI->List V->Prop
 | [],vs=>vs=[]
 | d::ds,vs=>∃ v r,vs=v::r/\Is K H d v/\ig K H ds r
end
section
mutual
theorem Is.reads(I:Inv X pins σ H s):∀(d:yI) (v:V) (u:gV),Is X.K H d v->RelV v u->∃ as,Reads s.heap u d as
 | .none,v,u,h,r=>by
  simp only[Is]at h;subst h
  cases (show u=yW from r);exact⟨_,.none⟩
 | .bool b,v,u,h,r=>by
  simp only[Is]at h;subst h
  cases (show u=AV b from r);exact⟨_,.bool b⟩
 | .int i,v,u,h,r=>by
  simp only[Is]at h;subst h
  obtain⟨t,rfl⟩:=(show ∃ t,u=Bv i t from r);exact⟨_,.int i t⟩
 | .str x,v,u,h,r=>by
  simp only[Is]at h;subst h
  obtain⟨t,rfl⟩:=(show ∃ t,u=Ce x t from r);exact⟨_,.str x t⟩
 | .list xs,v,u,h,r=>by
  simp only[Is]at h;obtain⟨a,vs,rfl,h1,h2⟩:=h;cases (show u=yS a from r);obtain⟨its,rv,⟨o,n,ho,hc,_,hd⟩,_⟩:=I.list h1;obtain⟨as,ra⟩:=ig.reads I xs vs its h2 rv;exact⟨_,.list ho hc hd (by simpa using ra)⟩
 | .tuple xs,v,u,h,r=>by
  simp only[Is]at h;obtain⟨a,vs,rfl,h1,h2⟩:=h;cases (show u=yS a from r);obtain⟨its,rv,⟨o,ho,hc,n,hd⟩,_⟩:=I.tuple h1;obtain⟨as,ra⟩:=ig.reads I xs vs its h2 rv;exact⟨_,.tuple ho hc hd (by simpa using ra)⟩
 | .dict _,v,u,h,r=>by simp only[Is]at h
theorem ig.reads(I:Inv X pins σ H s):∀(ds:List yI) (vs:List V) (us:List gV),ig X.K H ds vs->Vals vs us->∃ as,ReadsAll s.heap us ds as
 | [],vs,us,h,r=>by
  simp only[ig]at h;subst h
  cases r;exact⟨_,.nil⟩
 | d::ds,vs,us,h,r=>by
  simp only[ig]at h;obtain⟨v,rr,rfl,h1,h2⟩:=h;cases r with
  | cons r1 r2 =>
   obtain⟨as,q1⟩:=Is.reads I d v _ h1 r1;obtain⟨bs,q2⟩:=ig.reads I ds rr _ h2 r2;exact⟨_,.cons q1 q2⟩
end
end
section
noncomputable def zwm(K:yf):R2:=fun x y H Q=>∃ d e,Is K H d x/\Is K H e y/\Ao d=true/\Ao e=true/\Q (.bl (A4 d e)) H
noncomputable def zws(K:yf):R2:=fun x y H Q=>∃ d e,Is K H d x/\Is K H e y/\Ao d=true/\Ao e=true/\Q (.bl (!A4 d e)) H
theorem ztm(hu:X.A.units+64<zb):aQ X (yG .Eq) (zwm X.K):=by
 intro pins s σ H x y v u Q I rx ry h;obtain⟨d,e,h1,h2,c1,c2,q⟩:=h;obtain⟨as,ra⟩:=Is.reads I d x v h1 rx;obtain⟨bs,rb⟩:=Is.reads I e y u h2 ry;exact SeqAt.compareEq_shaped ra rb c1 c2 hu ⟨.bl _,H,I,rfl,q⟩
theorem ztw(hu:X.A.units+64<zb):aQ X (yG .NotEq) (zws X.K):=by
 intro pins s σ H x y v u Q I rx ry h;obtain⟨d,e,h1,h2,c1,c2,q⟩:=h;obtain⟨as,ra⟩:=Is.reads I d x v h1 rx;obtain⟨bs,rb⟩:=Is.reads I e y u h2 ry;exact SeqAt.compareNe_shaped ra rb c1 c2 hu ⟨.bl _,H,I,rfl,q⟩
end
end
variable {c u:gV}{A:yy}{E Q:gV->kb->Prop}{b:Bool}{y:V}
section
inductive Ty(K:yf)(H:Hp):V->gV->Prop where
 | non:Ty K H .non (.type "NoneType")
 | bl (x:Bool):Ty K H (.bl x) (.type "bool")
 | int (i:Int):Ty K H (.int i) (.type "int")
 | str (x:ir):Ty K H (.str x) (.type "str")
 | lst {a:dm} {xs:List V} (e:bq K H a xs):Ty K H (.ref a) (.type "list")
 | tup {a:dm} {xs:List V} (e:dO K H a xs):Ty K H (.ref a) (.type "tuple")
noncomputable def lL:V->gV
 | .ty n=>.type n
 | .ref a=>.ref a
 | _=>.none
theorem zhN(r:RelV y u)(h:lL y≠.none):u=lL y:=by
 cases y with
 | ty n=>exact r
 | ref a=>exact r
 | _=>exact absurd rfl h
section
theorem zp2{x:V}{t:gV}(I:Inv X pins σ H s)(rx:RelV x u)(ty:Ty X.K H x t)(e:yR X.K t c=some b)(h:∀ tk,Q (.bool b) { s with toks:=tk }) :
  yj (ym X.prog X.w) A (call (.builtin "isinstance") [u,c]) Q E s:=by
 cases ty with
 | non=>cases (show u=yW from rx);exact B1 PySem.W.kitx_none I.dI Bq e (fun z=>nomatch z) h
 | bl y=>cases (show u=AV y from rx);exact B1 PySem.W.kitx_bool I.dI Bq e (fun z=>nomatch z) h
 | int i=>obtain⟨t,q⟩:=(show ∃ t,u=Bv i t from rx);cases q;exact B1 PySem.W.kitx_int I.dI Bq e (fun z=>nomatch z) h
 | str y=>obtain⟨t,q⟩:=(show ∃ t,u=Ce y t from rx);cases q;exact B1 PySem.W.kitx_str I.dI Bq e (fun z=>nomatch z) h
 | @lst a xs ea =>
  cases (show u=yS a from rx);obtain⟨its,_,⟨o,n,ho,hc,_⟩,_⟩:=I.list ea;exact B1 PySem.W.kitx_list I.dI ⟨o,ho,hc⟩ e (fun z=>nomatch z) h
 | @tup a xs ea =>
  cases (show u=yS a from rx);obtain⟨its,_,⟨o,ho,hc,_⟩,_⟩:=I.tuple ea;exact B1 PySem.W.kitx_tuple I.dI ⟨o,ho,hc⟩ e (fun z=>nomatch z) h
def zwo(K:yf):List V->Hp->VK->Prop:=fun xs H Q=>∃ x y t b,xs=[x,y]/\lL y≠.none/\Ty K H x t/\yR K t (lL y)=some b/\Q (.bl b) H
theorem znc:gB X (.builtin "isinstance") (zwo X.K):=by
 intro pins s σ H xs us Q I r h;obtain⟨x,y,t,b,rfl,hy,ty,e,q⟩:=h;obtain⟨u,v,rfl,ru,rv⟩:=vals2 r;cases zhN rv hy;exact zp2 I ru ty e fun tk=>⟨.bl b,H,I.tok tk,rfl,q⟩
theorem zj0{n:String}(hg:Gl X x)(hm:X.mg x=none)(hv:zj x=some (.type n))(hn:x ≠ "__name__":=by decide)(hd:(x==("__debug__":ir))=false:=by decide):PE X (.Name x pos) (tC (.ty n)):=ztK hg hm hv rfl hn hd
theorem zng(hc:X.calm=true):gB X (.builtin "sum") (fun xs H Q=>∃(a:dm) (ns:List Int),xs=[.ref a]/\bq X.K H a (ns.map V.int)/\Q (.int ns.sum) H):=by
 intro pins s σ H xs us Q I r h;obtain⟨a,ns,rfl,hq,q⟩:=h;obtain⟨u,rfl,ru⟩:=vals1 r;cases (show u=yS a from ru);obtain⟨its,rv,p,hz⟩:=I.list hq;have hi:=intsAre_of rv;obtain⟨xs,e⟩:=hi.allInts.items;have en:ns=List.map (fun x=>x.fst) xs.toList:=by
  have h1:=nums_intItems xs;rw[<- e]at h1;rw[<- h1,show its.toArray.toList=its from rfl,hi.numsOf]
 refine sum_intListG (xs:=xs) (I.ok.hd hc) (by rw[<- e];exact p.isList) fun h' tk t' hk=>⟨.int ns.sum,H,I.kept hk,?_,q⟩;refine⟨t',?_⟩;rw[preSum_eq,EY (by simp),en]
def zwn(K:yf):V->List V->Hp->VK->Prop:=fun x vs H Q=>∃(l:dm) (xs:List V) (y z:V) (j:Nat),x=.ref l/\vs=[y]/\bq K H l xs/\kG y=true/\xs.all kG=true /\
 xs[j]?=some z/\lM z y=true/\(∀(m:Nat) (w:V),m<j->xs[m]?=some w->lM w y=false)/\Q (.int j) H
theorem zsF:MtM X "list.index" (zwn X.K):=by
 intro pins s σ H x vs v us Q I rx rv h;obtain⟨l,xs,y,z,j,rfl,rfl,hS,fy,fx,hj,hz,hno,q⟩:=h;cases rx;obtain⟨u,rfl,ru⟩:=rv.one;obtain⟨its,r,⟨o,n,ho,hc,e6,hd⟩,hle⟩:=I.list hS;obtain⟨c,dd,dt,sl⟩:=o;cases hc;cases e6;cases hd;obtain⟨jz,hjz,rz⟩:=r.get hj;have tf:j<its.length:=(yQ.mp hjz).1;have hjx:j<xs.length:=(yQ.mp hj).1;have fz:kG z=true:=zR.mp fx z (Ag hj);refine CA F.slot_list_index ⟨_,ho,rfl⟩ F.entry_list_index (F.args_list_index_2 _ _)
  (SeqAt.list_indexAt l its.toArray n none sl u (eqU y) j (by simpa using tf) (by rw[zC]at hle;omega) ?_ ?_) ⟨ho,?_,?_⟩
 ·have e1:its.toArray[j]'(by simpa using tf)=jz:=by
   have:=yQ.mp hjz;simpa using this.2
  rw[e1,zbJ rz fz];exact hz
 ·intro m hm hmj
  have lS:m<its.length:=by simpa using hm
  have hmx:m<xs.length:=by rw[r.length];exact lS
  obtain⟨um,hum,rm⟩:=r.get (i:=m) (x:=xs[m]) (by simp[hmx]);have e1:its.toArray[m]'hm=um:=by
   have:=yQ.mp hum;simpa using this.2
  have fm:kG xs[m]=true:=zR.mp fx _ (List.getElem_mem hmx);rw[e1,zbJ rm fm];exact hno m xs[m] hmj (by simp[hmx])
 ·intro w hw
  exact zjv ru fy r fx w (by simpa using hw)
 ·exact⟨.int j,H,I.tok _,⟨_,rfl⟩,q⟩
end
end
variable {scope:yT}{env:yC}{Q:Unit->kb->Prop}
section
noncomputable def fj(cells:List (ir×dm)):List (ir×Af)->List (ir×dm)->List (ir×dm)
 | [],acc=>acc
 | (n,k)::r,acc=>if k=.free then(match cells.lookup n with|some a=>fj cells r ((n,a)::acc)|none=>fj cells r acc) else fj cells r acc
theorem vF{cells:List (ir×dm)}:∀{names:List (ir×Af)} {acc:List (ir×dm)},(∀ p∈acc,cells.lookup p.1=some p.2)->∀ p∈fj cells names acc,cells.lookup p.1=some p.2
 | [],acc,h,p,hp=>h p hp
 | (n,k)::r,acc,h,p,hp=>by
  unfold fj at hp
  split at hp
  ·split at hp
   ·rename_i a e
    exact vF (names:=r) (acc:=(n,a)::acc) (fun q hq=>by
     rcases yH.mp hq with rfl|hq
     ·exact e
     ·exact h q hq) p hp
   ·exact vF h p hp
  ·exact vF h p hp
theorem vE{cells:List (ir×dm)}:∀{names:List (ir×Af)} {acc:List (ir×dm)},∀ p∈acc,p∈fj cells names acc
 | [],acc,p,hp=>hp
 | (n,k)::r,acc,p,hp=>by
  unfold fj
  split
  ·split
   ·exact vE p (yY _ hp)
   ·exact vE p hp
  ·exact vE p hp
theorem sd{cells:List (ir×dm)}{x:ir}{a:dm}(e:cells.lookup x=some a):∀{names:List (ir×Af)} {acc:List (ir×dm)},(x,Bs)∈names->(x,a)∈fj cells names acc
 | (n,k)::r,acc,h=>by
  unfold fj;rcases yH.mp h with h|h
  ·cases h
   rw[if_pos rfl,e];exact vE _ (zm ..)
  ·split
   ·split
    ·exact sd e h
    ·exact sd e h
   ·exact sd e h
theorem tX{α:Type}{x:ir}{a:α}:∀{l:List (ir×α)},(x,a)∈l->∃ b,l.lookup x=some b
 | (y,b)::r,h=>by
  by_cases e:(x==y)=true
  ·exact⟨b,by simp[yN,e]⟩
  ·rcases yH.mp h with h|h
   ·cases h
    exact absurd (beq_self_eq_true _) e
   ·obtain⟨c,hc⟩:=tX h
    refine⟨c,?_⟩;have e':(x==y)=false:=by simpa using e
    simp only[yN,e'];exact hc
theorem znl(h:∀ y∈scope.names,y.2=.free->∃ a,env.cells.lookup y.1=some a):closureFor scope env=pure (fj env.cells scope.names []):=by
 have key:∀(names:List (ir×Af)) (acc:List (ir×dm)),(∀ y∈names,y.2=.free->∃ a,env.cells.lookup y.1=some a) ->
   (forIn names acc (fun x r=>match x with
    | (name,kind)=>if(kind==Bs)=true then do let a <- cellOf env name;pure (CC ((name,a)::r)) else pure (CC r)):zk (List (ir×dm)))=pure (fj env.cells names acc):=by
  intro names
  induction names with
  | nil=>intro acc _;rfl
  | cons p r ih =>
   intro acc hh;obtain⟨n,k⟩:=p;rw[DM]
   by_cases hk:k=.free
   ·subst hk
    obtain⟨a,ea⟩:=hh (n,.free) (zm ..) rfl;have e1:cellOf env n=pure a:=by unfold cellOf;rw[ea]
    simp only[beq_self_eq_true,if_true,e1,pure_bind,fj,ea];exact ih _ fun y hy=>hh y (yY _ hy)
   ·have hk':(k==Bs)=false:=by simpa using hk
    simp only[hk',zy,if_false,pure_bind,fj,hk];exact ih _ fun y hy=>hh y (yY _ hy)
 unfold closureFor;exact(bind_pure _).trans (key scope.names [] h)
theorem oZ{scope:yT}{env:yC}{x:ir}{k:Af}:∀{names:List (ir×Af)},
  (names.map fun(n,k)=>if(k==Bs&&env.scope.kind==.function&&env.kindOf n==some .cell) then(n,Ai) else(n,k)).lookup x=some k ->
  ∃ k0,names.lookup x=some k0/\(x,k0)∈names/\(k0=k\/(k0=.free/\k=.cell))
 | [],h=>by simp at h
 | (n,k0)::r,h=>by
  by_cases e:(x==n)=true
  ·have en:x=n:=by simpa using e
   subst en;refine⟨k0,by simp[yN],zm ..,?_⟩;rw[zh]at h
   by_cases hc:(k0==Bs&&env.scope.kind==.function&&env.kindOf x==some .cell)=true
   ·simp only[hc,if_true,yN,beq_self_eq_true]at h
    simp only[zf,beq_iff_eq]at hc;exact .inr ⟨hc.1.1,(zt h).symm⟩
   ·simp only[hc,zy,if_false,yN,beq_self_eq_true]at h
    exact .inl (zt h)
  ·have e':(x==n)=false:=by simpa using e
   rw[zh]at h;have h':(r.map fun(n,k)=>if(k==Bs&&env.scope.kind==.function&&env.kindOf n==some .cell) then(n,Ai) else(n,k)).lookup x=some k:=by
    by_cases hc:(k0==Bs&&env.scope.kind==.function&&env.kindOf n==some .cell)=true
    ·simp only[hc,if_true,yN,e']at h
     exact h
    ·simp only[hc,zy,if_false,yN,e']at h
     exact h
   obtain⟨k1,h1,h2,h3⟩:=oZ (scope:=scope) h';exact⟨k1,by simp only[yN,e'];exact h1,yY _ h2,h3⟩
noncomputable def gG(X:Cx)(ix:List Nat):List ir:=ix.map fun i=>X.N.getD i ""
noncomputable def eO(k:Nat)(ix:List Nat)(σ:St):St:=yq k none++ix.map fun i=>(σ[i]?).getD none
end
variable {c:yh}{t:TT}
section
def gu(X:Cx)(ifs:List yh)(t:TT):Prop :=
 ∀(pins:List (dm×yp)) (s:kb) (σ:St) (H:Hp) (Q:Bool->Hp->Prop),Inv X pins σ H s->t σ H Q ->
  yj (ym X.prog X.w) X.A (forIn ifs true fun c r=>if r=true then do let ok <- isTrue c X.env (yu c X.env);pure (CC ok) else pure (CC r)) (TP X pins σ Q) X.xe s
noncomputable def zxc:TT:=fun _ H Q=>Q true H
theorem zuX:gu X [] zxc:=fun _ _ _ H _ I h=>wpAny_tests_nil ⟨H,I,h⟩
theorem zuY(hc:PT X c t):gu X [c] t:=fun pins s σ H Q I h=>wpAny_tests_one (hc pins s σ H Q I h)
def jL(k:Nat)(g:TG):Prop:=∀ x σ H Q,g x σ H Q->g x σ H fun σ2 H2=>(σ2.length=σ.length/\∀ i:Nat,k<=i->σ2[i]?=σ[i]?)/\Q σ2 H2
end
variable {L T a e:dm}{M:Model}{dd:Option dm}{nx:Bool}{t:TA}{outer:List yC}{cls head:gV}{h h':yo}{oe:yp}{vs:Array gV}{ex:List dm}{k:Nat}
section
def Fl(h:yo)(e:dm)(cls:gV)(dd:Option dm)(T:dm)(fl:gV):Prop :=
 ∃ oe vs oT ts,h.get? e=some oe/\oe.cls=cls/\oe.dict=dd/\oe.data=.fields vs/\vs[1]?=some (.ref T)/\T≠e/\h.get? T=some oT/\oT.data=.fields ts/\ts[3]?=some fl
def Fl0(h:yo)(e:dm)(cls:gV)(dd:Option dm):Prop :=
 ∃ oe vs,h.get? e=some oe/\oe.cls=cls/\oe.dict=dd/\oe.data=.fields vs/\vs[1]?=some .none
def Kp(fs ex:List dm)(h h':yo):Prop:=∀ b o,b∉ex->h.get? b=some o->(b∉fs->h'.get? b=some o)/\∃ sl,h'.get? b=some { o with slots:=sl }
theorem Kp.of{fs:List dm}(k:∀ b o,b∉ex->h.get? b=some o->h'.get? b=some o):Kp fs ex h h':=fun b o hb e=>⟨fun _=>k b o hb e,o.slots,k b o hb e⟩
theorem Kp.trans{fs vT:List dm}{h1 h2:yo}(a:Kp fs ex h h1)(b:Kp fs vT h1 h2)(n:∀ c∈vT,c∈ex\/h.get? c=none):Kp fs ex h h2:=by
 intro c o hc e;obtain⟨a1,sl,a2⟩:=a c o hc e;have gW:c∉vT:=fun z=>by
  rcases n c z with q|q
  ·exact hc q
  ·rw[e]at q;cases q
 obtain⟨b1,lz,b2⟩:=b c _ gW a2;exact⟨fun hf=>(b c _ gW (a1 hf)).1 hf,lz,b2⟩
theorem Kp.all{fs:List dm}(a:Kp [] ex h h'):Kp fs ex h h':=fun b o hb e=>⟨fun _=>(a b o hb e).1 (by simp),(a b o hb e).2⟩
section
theorem vU{fl:gV}(f:Fl s.heap e cls dd T fl)
  (h:∀ h',Kp [] [T] s.heap h'->Fl h' e cls dd T .none->Q () { s with heap:=h' }):yj M A (setFlight (.ref e) none) Q E s:=by
 obtain⟨oe,vs,oT,ts,he,hc,e6,hd,h1,d7,hT,om,h3⟩:=f;have z3:3<ts.size:=(DN.mp h3).1;unfold setFlight;refine yg (zM he hd h1 ?_);rw[if_pos (by simp)];refine B2 hT om z3 (h _ (Kp.of fun b o hb e=>?_) ⟨oe,vs,_,_,?_,hc,e6,hd,h1,d7,C8 _ hT (DQ (B3 om _)),B3 om _,by simp[z3]⟩)
 ·rw[BW _ _ (by intro z;exact hb (by simp[z]))]
  exact e
 ·rw[BW _ _ d7]
  exact he
theorem zn8(o:yp)(f:Array gV->Array gV):(o.mapFields f).dict=o.dict:=by
 obtain⟨c,d,dt,sl⟩:=o;cases dt <;> rfl
theorem zil
  (eh:A.frames=some (env::outer))(hl:s.heap.FunFrames base (env::outer))(hf:env.frame=some L)(he:s.heap.get? e=some oe)(hd:oe.data=.fields vs)(hsz:1<vs.size)
  (h:∀ h' T,Kp (dR (env::outer)) [e] s.heap h'->s.heap.objs.size<=T->Fl h' e oe.cls oe.dict T (zY L)->Q () { s with heap:=h' }) :
  yj M A (do let a <- frameOf env;let pl <- entryPlaceOf L nx;let b <- FZ head a .none (zY L) .none pl;setField (.ref e) 1 b) Q E s:=by
 have ne:e∉dR (env::outer):=fun hm=>by
  obtain⟨_,o,ho,z⟩:=hl.mem hm;rw[he]at ho;cases ho;exact z vs hd
 refine yg (wpAny_frameOf_fun eh hl hf fun h₁ so=>?_);obtain⟨sz,same,slots⟩:=so;refine yg (wpAny_entryPlaceOf fun pl aS=>?_);unfold FZ newFields;refine yg (Al ?_ (aS.sizeOk5 _ _ _ _ _));generalize hO:({ cls:=.type "traceback",dict:=none,data:=.fields ([head,.ref L,.none,zY L,.none]++(if pl.isEmpty then yq 6 yW else pl)).toArray }:yp)=O;have he1:h₁.get? e=some oe:=(same e ne).trans he;have he2:(h₁.push O).get? e=some oe:=yM _ he1;have hTe:h₁.objs.size≠e:=AY (yE he1);refine B2 he2 hd hsz (h _ h₁.objs.size (fun b o hb v5=>?_) (C3 sz.symm) ?_)
 ·have i5:e≠b:=fun z=>hb (by simp[z])
  have go:∀ u,h₁.get? b=some u->((h₁.push O).update e (DR (·.setIfInBounds 1 (yS h₁.objs.size)))).get? b=some u:=fun u q=>by
   rw[BW _ _ i5];exact yM _ q
  refine⟨fun hnf=>go o ((same b hnf).trans v5),?_⟩;obtain⟨sl,q⟩:=slots b o v5;exact⟨sl,go _ q⟩
 ·have hd3:=B3 hd (·.setIfInBounds 1 (yS h₁.objs.size))
  refine⟨_,_,O,_,C8 _ he2 (DQ hd3),EZ _ _,zn8 _ _,hd3,by simp[hsz],hTe,?_,by rw[<- hO],?_⟩
  ·rw[BW _ _ (zq hTe)]
   exact y9 h₁ (by rw[<- hO];rfl)
  ·simp
theorem zim
  (eh:A.frames=some (env::outer))(hl:s.heap.FunFrames base (env::outer))(hf:env.frame=some L)(f:Fl s.heap e cls dd T .none)
  (h:∀ h' T',Kp (dR (env::outer)) [e,T] s.heap h'->s.heap.objs.size<=T'->Fl h' e cls dd T' (zY L)->Q () { s with heap:=h' }):yj M A (CD (.ref e) env) Q E s:=by
 obtain⟨oe,vs,oT,ts,he,hc,e6,hd,h1,d7,hT,om,h3⟩:=f;subst hc e6;unfold CD;simp only[hf];refine yg (zM he hd h1 ?_);rw[if_pos (by simp)];refine yg (zM hT om h3 ?_);rw[if_neg (by simp[zY])];refine yg (B2 hT om (DN.mp h3).1 ?_);have other:∀ b,b≠T->(s.heap.update T (DR (·.setIfInBounds 3 yW))).get? b=s.heap.get? b:=fun b hb=>BW _ _ (zq hb);have nT:∀ b o,s.heap.get? b=some o->(∀ vs,o.data≠.fields vs)->b≠T:=fun b o hb z q=>by
  rw[q,hT]at hb;cases hb;exact z ts om
 refine zil eh (hl.of_keeps fun b o hb z=>⟨o,(other b (nT b o hb z)).trans hb,rfl⟩) hf ((other e (zq d7)).trans he) hd (DN.mp h1).1 fun h' T' k z f'=>h h' T' ?_ ?_ f'
 ·intro b o hb v5
  have hbT:b≠T:=fun q=>hb (by simp[q]);exact k b o (fun q=>hb (by simp at q;simp[q])) ((other b hbT).trans v5)
 ·simpa using z
theorem zoI
  (eh:A.frames=some (env::outer))(hl:s.heap.FunFrames base (env::outer))(hf:env.frame=some L)(f:Fl0 s.heap e cls dd)
  (h:∀ h' T',Kp (dR (env::outer)) [e] s.heap h'->s.heap.objs.size<=T'->Fl h' e cls dd T' (zY L)->Q () { s with heap:=h' }):yj M A (CD (.ref e) env) Q E s:=by
 obtain⟨oe,vs,he,hc,e6,hd,h1⟩:=f;subst hc e6;unfold CD;simp only[hf];refine yg (zM he hd h1 ?_);rw[if_neg (by decide)];exact zil eh hl hf he hd (DN.mp h1).1 h
theorem zoG
  (eh:A.frames=some (env::outer))(hl:s.heap.FunFrames base (env::outer))(hf:env.frame=some L)(f:Fl s.heap e cls dd T .none)
  (h:∀ h' T',Kp (dR (env::outer)) [e,T] s.heap h'->s.heap.objs.size<=T'->Fl h' e cls dd T' .none->Q () { s with heap:=h' }):yj M A (leaving env (.ref e)) Q E s:=by
 unfold leaving;refine yg (zim eh hl hf f fun h1 T' k z f'=>vU f' fun h2 k2 f2=>h h2 T' (k.trans k2.all fun c hc=>.inr ?_) z f2);have:c=T':=by simpa using hc
 subst this;exact Bm z
theorem zoH
  (eh:A.frames=some (env::outer))(hl:s.heap.FunFrames base (env::outer))(hf:env.frame=some L)(f:Fl0 s.heap e cls dd)
  (h:∀ h' T',Kp (dR (env::outer)) [e] s.heap h'->s.heap.objs.size<=T'->Fl h' e cls dd T' .none->Q () { s with heap:=h' }):yj M A (leaving env (.ref e)) Q E s:=by
 unfold leaving;refine yg (zoI eh hl hf f fun h1 T' k z f'=>vU f' fun h2 k2 f2=>h h2 T' (k.trans k2.all fun c hc=>.inr ?_) z f2);have:c=T':=by simpa using hc
 subst this;exact Bm z
end
end
variable {es:List yh}{C b:dm}{fM:List dm}{cd:gV}{h₀:yo}{o:HO}{ta:TA}{N:List ir}{newId:String}{H₀:Hp}{vw:List gV}
section
theorem de.some(x:de P w H h a o):∃ ob,h.get? a=some ob:=by
 cases o with
 | lst xs=>obtain⟨_,_,_,_,e⟩:=x;exact⟨_,e⟩
 | tup xs=>obtain⟨_,_,_,ob,e,_⟩:=x;exact⟨_,e⟩
 | dK ag=>obtain⟨_,_,_,_,ob,_,_,e,_⟩:=x;exact⟨_,e⟩
 | dT ag=>obtain⟨_,_,_,_,ob,_,_,e,_⟩:=x;exact⟨_,e⟩
 | set S n=>obtain⟨ob,_,_,_,e,_⟩:=x;exact⟨_,e⟩
 | ins C dx fs=>obtain⟨_,_,_,e,_⟩:=x;exact⟨_,e⟩
 | own y=>exact x
 | xd fs=>obtain⟨_,⟨od,_,_,e,_⟩,_⟩:=x;exact⟨_,e⟩
 | met f y=>exact⟨_,x⟩
 | eM lo hi=>obtain⟨_,_,_,e⟩:=x;exact⟨_,e⟩
 | frz ob u=>exact⟨_,x.1⟩
 | fg ps=>exact⟨_,x⟩
 | ext φ=>exact x.2.1
section
variable {fs:List dm}
theorem cB.kp(x:cB P w H h)(k:Kp fs ex h h')(hf:∀ b∈fs,H b=none)(he:∀ b∈ex,H b=none):cB P w H h':=fun a o e =>
 (x a o e).jh (fun b u hb q=>by
  have nn:H b≠none:=by
   rcases hb with z|z
   ·rw[z,e];simp
   ·rw[z];simp
  exact(k b u (fun z=>nn (he b z)) q).1 fun z=>nn (hf b z)) (fun _ q=>q) fun _ _ q=>q
theorem Un.kp(u:Un fs [] H₀ H h₀ h)(k:Kp fM ex h h')(hx:∀ b∈ex,h₀.get? b=none)(hs:∀ b∈fM,b∈fs\/h₀.get? b=none):Un fs [] H₀ H h₀ h' where
 keep:=fun b o q n hb hz=>(k b o (fun z=>by rw[hx b z]at q;cases q) (u.keep b o q n hb hz)).1 fun z=>by
  rcases hs b z with y|y
  ·exact hb y
  ·rw[q]at y;cases y
 slot:=fun b o q n hb hz=>by
  obtain⟨sl,e⟩:=u.slot b o q n hb hz;obtain⟨_,lz,e'⟩:=k b _ (fun z=>by rw[hx b z]at q;cases q) e;exact⟨lz,e'⟩
 free:=u.free
 there:=fun b o q hz=>by
  obtain⟨o',e⟩:=u.there b o q hz;obtain⟨_,lz,e'⟩:=k b _ (fun z=>by rw[hx b z]at q;cases q) e;exact⟨_,e'⟩
 gq:=u.gq
 gw:=u.gw
 gO:=u.gO
theorem Un.old(u:Un fs [] H₀ H h₀ h)(n:h.get? b=none):h₀.get? b=none:=by
 cases q:h₀.get? b with
 | none=>rfl
 | some o =>
  obtain⟨o',e⟩:=u.there b o q (by simp);rw[n]at e;cases e
theorem cB.free(x:cB P w H h)(n:h.get? b=none):H b=none:=by
 cases q:H b with
 | none=>rfl
 | some o =>
  have:=(x b o q).some;obtain⟨ob,e⟩:=this;rw[n]at e;cases e
end
def aZ(P:yw)(w:yv):iT:=fun outer H s E ev s'=>∃(e:dm) (cls:gV) (dd:Option dm) (T:dm) (H':Hp),ev=.ref e/\s'.os=s.os/\Bb s'.gens/\Un (dR outer) [] H H' s.heap s'.heap/\cB P w H' s'.heap /\
 Fl s'.heap e cls dd T .none/\H' e=none/\H' T=none/\s.heap.get? e=none/\s.heap.get? T=none/\E cls dd H'
def Throws(X:Cx)(E:XK):Prop:=∀(pins:List (dm×yp)) (σ:St) (H:Hp) (s:kb) (e:dm) (cls:gV) (dd:Option dm),Inv X pins σ H s->Fl0 s.heap e cls dd->H e=none->X.s₀.heap.get? e=none->E cls dd H->X.xe (.ref e) s
theorem kX:Passes (aZ P w) X E0:=fun _ _ _ _ _ _ _ ⟨_,_,_,_,_,_,_,_,_,_,_,_,_,_,_,q⟩=>q.elim
section
variable {K:yf}{E:XK}
theorem zfu:Throws (dw (aZ P w) P w K mg base N qual scope f cd A outer s H E) E:=by
 intro pins σ H1 s1 e cls dd I fl ne le q;have hL:s.heap.objs.size<=s1.heap.objs.size:=I.sz;refine zoH (base:=base) I.ok.frames I.stack rfl fl fun h' T k z f'=>?_;have le1:s.heap.get? T=none:=Bm (zA hL z);have un:Un (dR outer) [] H H1 s.heap s1.heap:=I.base;refine⟨e,cls,dd,T,H1,rfl,I.os,I.bare,un.kp k (fun b hb=>?_) (fun b hb=>?_),I.au.kp k I.uL (fun b hb=>?_),f',ne,I.au.fresh z,le,le1,q⟩
 ·obtain rfl:b=e:=by simpa using hb
  exact le
 ·rcases yH.mp (I.pe b hb)with y|y
  ·exact .inr (Bm (by rw[y];exact yA _))
  ·exact .inl y
 ·obtain rfl:b=e:=by simpa using hb
  exact ne
theorem ztH:Passes (aZ P w) (dw (aZ P w) P w K mg base N qual scope f cd A outer s H E) E:=by
 intro pins σ H1 s1 ev s2 I ⟨e,cls,dd,T,H2,ee,os,bare,un,au,fl,ne,nT,le,lT,q⟩;subst ee;have I2:=I.zaV (ch:=[]) os un au bare fun b z=>absurd z (by simp);have hL:s.heap.objs.size<=s1.heap.objs.size:=I.sz;have hL2:s.heap.objs.size<=s2.heap.objs.size:=I2.sz;refine zoG (base:=base) I2.ok.frames I2.stack rfl fl fun h' T' k z f'=>?_;have un2:Un (dR outer) [] H H2 s.heap s2.heap:=I2.base;have un1:Un (dR outer) [] H H1 s.heap s1.heap:=I.base;refine⟨e,cls,dd,T',H2,rfl,I2.os,I2.bare,un2.kp k (fun b hb=>?_) (fun b hb=>?_),I2.au.kp k I2.uL (fun b hb=>?_),f',ne,I2.au.fresh z,un1.old le,Bm (zA hL2 z),q⟩
 ·rcases (by simpa using hb:b=e\/b=T)with y|y
  ·rw[y];exact un1.old le
  ·rw[y];exact un1.old lT
 ·rcases yH.mp (I2.pe b hb)with y|y
  ·exact .inr (Bm (by rw[y];exact yA _))
  ·exact .inl y
 ·rcases (by simpa using hb:b=e\/b=T)with y|y
  ·rw[y];exact ne
  ·rw[y];exact nT
theorem c9.mz{st:yx}{fd:yL}{sp:Sp}(F:c9 K x qual st f fd)(S:d9 N ps (aH st))(len:∀ vs H Q E,sp vs H Q E->vs.length=ps.length)
  (zcc:∀(aq:gV) (A:yy) (outer:List yC) (s:kb) (H:Hp) (vs:List V) (Q:VK) (E:XK),aM k (A.deeper (zc qual (aH st) s.heap.objs.size f aq))->sp vs H Q E ->
   ∃ t,b9 (dw (aZ P w) P w K mg base N qual (aH st) f aq A outer s H E) (bW st) t/\t { nx:=fun _ H'=>Q .non H',rt:=Q } (start N vs) H):b6 P w K mg base (aZ P w) (k+1) f fd ps sp:=by
 obtain⟨oc,od,kV,doc,pm,an,aq,ct,ja,rfl,lk,gy⟩:=F.ex;exact zoM lk gy S len fun A outer s H vs Q E hr qp=>zcc aq A outer s H vs Q E hr qp
end
section
variable {K:yf}
theorem zoy(X:K.In h)(q:Ap K C vw newId=true):∃ bm N nm q bs hdct sn sub ab col dd k0 k1 k2 k3 k5 mN,h.get? C=some (excClassObj nm q C N bs bm hdct sn sub ab col dd k0 k1 k2 k3 k5 newId)/\h.Ns N mN/\mN "__init__"=none/\OwnTail h vw bm:=by
 unfold Ap at q
 split at q
 ·rename_i dd cd sl ho
  split at q
  ·rename_i C' bm k0 k1 k2 k3 n k5 hm hs
   simp only[zf,beq_iff_eq,Bool.not_eq_true']at q;obtain⟨⟨⟨⟨⟨a1,a2⟩,a3⟩,a4⟩,a5⟩,a6⟩:=q;subst a1 a2;obtain⟨nm,bs,mro,ns,qn,hd,sn,sub,ab,col,del⟩:=cd;subst hm a3;obtain⟨l⟩:=sl;have wm:l=[k0,k1,k2,k3,some (.builtin n),k5]:=hs;subst wm;exact⟨bm,ns,nm,qn,bs,hd,sn,sub,ab,col,dd,k0,k1,k2,k3,k5,_,X _ _ ho,.of_isNs (PySem.W.isNs_of_in X a5),PySem.W.nsMap_none_of_in X a5 a6,PySem.W.tail_of_in X a4⟩
  ·cases q
 ·cases q
end
abbrev jU:List gV:=[.type "ValueError",.type "Exception",.type "BaseException",.type "object"]
section
variable {np dG:yn}{e:yh}{E:XK}
noncomputable def zxv(C:dm)(E:XK)(ta:TA):TS:=fun _ σ H=>ta σ H fun vs H1=>vs.length<=yz/\E (.ref C) none H1
theorem zuD(hc:X.calm=true)(ec:Ap X.K C jU "Exception.__new__"=true\/Ap X.K C jU "ValueError.__new__"=true)(hg:Gl X x)(hm:X.mg x=some (.ref C))(th:Throws X E)(ha:PA X (e::es) ta)
  (hx:X.ex=[]:=by rfl) (hd:(x==("__debug__":ir))=false:=by decide) (he:yi (e::es) X.env=(false,yu e X.env)::yi es X.env:=by rfl) (aS:(yJ dG (yi es X.env)).any (·.1)=false:=by rfl) :
  PS X (.Raise (some (.Call (.Name x np) (e::es) [] dG)) none pos) (zxv C E ta):=by
 intro pins s σ H D I h;have KX:X.K.In X.base:=I.ok.mod.oF;have go:∀{newId Bn inN:String} {bmN:List gV},Ap X.K C jU newId=true->ExcBaseFacts Bn newId inN bmN->jU.contains (.type Bn)=true ->
   yj (ym X.prog X.w) X.A (exec (.Raise (some (.Call (.Name x np) (e::es) [] dG)) none pos) X.env) (SP X pins D) X.xe s:=by
  intro newId Bn inN bmN q Fn hBn;obtain⟨tl,N,nm,qn,bs,hdct,sn,sub,ab,col,dd,k0,k1,k2,k3,k5,mN,hC,hN,hni,T⟩:=zoy KX q;refine wpAny_Raise_call_subU (C:=C) (nm:=nm) (q:=qn) (N:=N) (bs:=bs) (bm:=tl) (hdct:=hdct) (sn:=sn) (sub:=sub) (ab:=ab) (col:=col) (dd:=dd) (k0:=k0) (k1:=k1) (k2:=k2) (k3:=k3) (k5:=k5)
   Fn hBn E1 (mN:=mN) (T.hasType E1.hasBase) (I.ok.hd hc) (by rw[he];show(false||(yJ dG (yi es X.env)).any (·.1))=false;rw[aS];rfl) hni (qw I hg hm ⟨rfl,?_⟩ hd)
  have hw:=ha dG pins s σ H _ I h;rw[he]at hw ⊢;refine FT (aI hw fun us s1 ⟨vs,H1,I1,r,ql,q1⟩=>⟨rfl,?_,I1.bk _ _ hC,hN.keeps I1.bk,T.keeps I1.bk,fun h' ea mk=>?_⟩)
  ·show us.length<=yz
   rw[<- r.length];exact ql
  ·obtain⟨t,ht,_,_⟩:=mk.there
   have I2:Inv X pins σ H1 { s1 with heap:=h',toks:=s1.toks }:=I1.kept (t':=s1.toks) mk.keeps;exact th pins σ H1 _ ea (.ref C) none I2 ⟨_,_,ht,rfl,rfl,rfl,rfl⟩ (I1.au.free mk.new) (by have u:=I1.base;rw[hx]at u;exact u.old mk.new) q1
 rcases ec with q|q
 ·exact go q PySem.F.excBase_Exception (by decide)
 ·exact go q E1 (by decide)
end
end
variable {p pos':yn}{te:TX}{i:Nat}
section
def Nw(X:Cx)(pins:List (dm×yp))(b:dm):Prop :=
 X.s₀.heap.get? b=none/\b≠X.env.locals/\b∉X.fs/\(∀ x c,X.env.cells.lookup x=some c->c≠b)/\∀ p∈X.pn++pins,p.1≠b
section
theorem Inv.nw(I:Inv X pins σ H s)(hx:X.ex=[])(n:s.heap.get? b=none):Nw X pins b:=by
 have u:=I.base;rw[hx]at u;refine⟨u.old n,fun z=>?_,fun z=>?_,fun x c e z=>?_,fun p hp z=>?_⟩
 ·obtain⟨m,⟨o,_,_,ho,_⟩,_⟩:=I.loc
  rw[<- z,n]at ho;cases ho
 ·obtain⟨_,o,ho,_⟩:=I.gx.mem z
  rw[n]at ho;cases ho
 ·obtain⟨v,o,ho,_⟩:=I.cell x c e
  rw[z,n]at ho;cases ho
 ·have:=(I.pin p hp).1
  rw[z,n]at this;cases this
theorem Un.kpx{fs ex0:List dm}(u:Un fs ex0 H₀ H h₀ h)(k:Kp fM ex h h')(hx:∀ b∈ex,h₀.get? b=none)(hs:∀ b∈fM,b∈fs\/h₀.get? b=none):Un fs ex0 H₀ H h₀ h' where
 keep:=fun b o q n hb hz=>(k b o (fun z=>by rw[hx b z]at q;cases q) (u.keep b o q n hb hz)).1 fun z=>by
  rcases hs b z with y|y
  ·exact hb y
  ·rw[q]at y;cases y
 slot:=fun b o q n hb hz=>by
  obtain⟨sl,e⟩:=u.slot b o q n hb hz;obtain⟨_,lz,e'⟩:=k b _ (fun z=>by rw[hx b z]at q;cases q) e;exact⟨lz,e'⟩
 free:=u.free
 there:=fun b o q hz=>by
  obtain⟨o',e⟩:=u.there b o q hz;obtain⟨_,lz,e'⟩:=k b _ (fun z=>by rw[hx b z]at q;cases q) e;exact⟨_,e'⟩
 gq:=u.gq
 gw:=u.gw
 gO:=u.gO
theorem Inv.kp{h':yo}{ex:List dm}{t':Nat}(I:Inv X pins σ H s)(k:Kp (dR X.stack) ex s.heap h')(hx:∀ b∈ex,H b=none/\Nw X pins b):Inv X pins σ H { s with heap:=h',toks:=t' }:=by
 have cellK:∀ x c,X.env.cells.lookup x=some c->∀ v,s.heap.IsCell c v->h'.IsCell c v:=fun x c e v ⟨o,ho,hd⟩=>by
  obtain⟨_,sl,q⟩:=k c o (fun z=>(hx c z).2.2.2.2.1 x c e rfl) ho;exact⟨_,q,hd⟩
 refine⟨I.ok,I.os,I.bare,I.base.kpx k (fun b hb=>(hx b hb).2.1) (fun b hb=>?_),?_,fun x c e=>?_,I.free,I.fL,fun p hp=>?_,I.au.kp k I.uL (fun b hb=>(hx b hb).1),I.len⟩
 ·rcases yH.mp (I.pe b hb)with z|z
  ·exact .inr (Bm (by rw[z];exact I.ok.above))
  ·exact .inl z
 ·obtain⟨m,⟨o,es,ep,ho,r⟩,hl⟩:=I.loc
  obtain⟨_,sl,q⟩:=k _ o (fun z=>(hx _ z).2.2.1 rfl) ho;refine⟨m,⟨_,es,ep,q,r⟩,fun i x v e1 e2 e3=>?_⟩;obtain⟨u,ru,l⟩:=hl i x v e1 e2 e3;refine⟨u,ru,?_⟩;rcases l with l|⟨kd,c,e,z⟩
  ·exact .inl l
  ·exact .inr ⟨kd,c,e,cellK x c e _ z⟩
 ·obtain⟨v,z⟩:=I.cell x c e
  exact⟨v,cellK x c e v z⟩
 ·obtain⟨e,n,ne,nf,d⟩:=I.pin p hp
  refine⟨(k p.1 p.2 (fun z=>(hx p.1 z).2.2.2.2.2 p hp rfl) e).1 fun z=>?_,n,ne,nf,d⟩;rcases yH.mp (I.pe p.1 z)with y|y
  ·exact ne y
  ·exact nf y
theorem Inv.zxU(I:Inv X pins σ H s)(n:H a=none)(nw:Nw X pins a)(new:de X.prog X.w (upd H a o) s.heap a o):Inv X pins σ (upd H a o) s:=by
 have ne:∀ b u,H b=some u->b≠a:=fun b u e z=>by rw[z,n]at e;cases e
 refine⟨I.ok,I.os,I.bare,⟨I.base.keep,I.base.slot,fun b ob e hn hx=>?_,I.base.there,fun b xs e=>?_,fun b ob u e=>?_,fun b ps e=>?_⟩,I.loc,I.cell,?_,fun x c e=>?_,fun p hp=>?_,fun b u e=>?_,I.len⟩
 ·rw[aN (fun z=>by rw[z,nw.1]at e;cases e)]
  exact I.base.free b ob e hn hx
 ·have:=I.base.gq b xs e
  rw[aN (ne _ _ this)];exact this
 ·have:=I.base.gw b ob u e
  rw[aN (ne _ _ this)];exact this
 ·obtain⟨more,z⟩:=I.base.gO b ps e
  exact⟨more,by rw[aN (ne _ _ z)];exact z⟩
 ·rw[aN (zq nw.2.1)]
  exact I.free
 ·rw[aN (nw.2.2.2.1 x c e)]
  exact I.fL x c e
 ·obtain⟨g1,g2,g3,g4,g5⟩:=I.pin p hp
  exact⟨g1,by rw[aN (nw.2.2.2.2 p hp)];exact g2,g3,g4,g5⟩
 ·by_cases hb:b=a
  ·subst hb
   rw[ck]at e;cases e;exact new
  ·rw[aN hb]at e
   exact(I.au b u e).jh (fun _ _ _ q=>q) (fun c q=>by rw[aN (ne _ _ q)];exact q) fun c xs q=>q.upd (fun _ r=>ne _ _ r) fun _ _ r=>ne _ _ r
end
def XP(X:Cx)(pins:List (dm×yp))(σ:St)(E:XK)(ev:gV)(s':kb):Prop :=
 ∃(e:dm) (cls:gV) (dd:Option dm) (T:dm) (H':Hp),ev=.ref e/\Inv X pins σ H' s'/\Fl s'.heap e cls dd T .none/\H' e=none/\H' T=none/\Nw X pins e/\Nw X pins T/\E cls dd H'
abbrev TX:=St->Hp->VK->XK->Prop
def pH(X:Cx)(e:yh)(t:TX):Prop :=
 ∀(pins:List (dm×yp)) (s:kb) (σ:St) (H:Hp) (Q:VK) (E:XK),Inv X pins σ H s->t σ H Q E->yj (ym X.prog X.w) X.A (yu e X.env) (EP X pins σ Q) (XP X pins σ E) s
abbrev va:=Ends->(St->XK)->St->Hp->Prop
def pI(X:Cx)(st:List yx)(t:va):Prop :=
 ∀(pins:List (dm×yp)) (s:kb) (σ:St) (H:Hp) (D:Ends) (E:St->XK),Inv X pins σ H s->t D E σ H->yj (ym X.prog X.w) X.A (execs st X.env) (SP X pins D) (fun ev s'=>∃ σ',XP X pins σ' (E σ') ev s') s
section
variable {fd:yL}{sp:Sp}{e:yh}
noncomputable def zxe(sp:Sp)(t:TA):TX:=fun σ H Q E=>t σ H fun vs H1=>sp vs H1 Q E
theorem zuT(hN:X.N.Nodup)(hi:X.N[i]?=some x)(hx:Loc X.env.scope x)(he:pH X e te)(hs:zB e (some (.Name x pos')) pos.line X.env=pure false:=by rfl)(hf:X.fn x=true\/X.env.scope.names.lookup x=some .local:=by first|exact .inl rfl|exact .inr rfl|assumption) :
  pI X [.Assign [.Name x pos'] e pos] (fun D E σ H=>te σ H (fun v H1=>D.nx (σ.set i (some v)) H1) (E σ)):=by
 intro pins s σ H D E I h;refine Eu (wpAny_Assign_Name (zo (he pins s σ H _ _ I h) (fun v s1 hv=>?_) fun ev s1 q=>⟨σ,q⟩) hs);obtain⟨y,H1,I1,r1,q1⟩:=hv;exact qO I1 hN hi hx r1 (fun s2 I2=>Cm ⟨_,H1,I2,q1⟩) hf
end
noncomputable def km(e C:dm)(dd:Option dm):HO:=.ext fun h=>∃ o vs,h.get? e=some o/\o.cls=.ref C/\o.dict=dd/\o.data=.fields vs
theorem zow{fl:gV}(f:Fl h e (.ref C) dd T fl):de P w H h e (km e C dd):=by
 obtain⟨oe,vs,oT,ts,he,hc,e6,hd,_⟩:=f;refine⟨⟨oe,vs,he,hc,e6,hd⟩,⟨oe,he⟩,fun h1 h2 ⟨o,us,g1,g2⟩ k=>⟨o,us,k o g1,g2⟩⟩
noncomputable def si(X:Cx)(e:dm):Cx:={ X with A:=X.A.mark (some (.ref e)),calm:=false,xe:=fun _ _=>False }
theorem Inv.toH(I:Inv X pins σ H s)(e:dm):Inv (si X e) pins σ H s :=
 ⟨⟨I.ok.mod,I.ok.kind,I.ok.glob,I.ok.blt,I.ok.above,I.ok.inj,I.ok.has,I.ok.lK,(fun z=>(by cases z)),I.ok.frames,I.ok.pd,I.ok.nW,I.ok.bs,I.ok.jn,I.ok.mx,I.ok.lN,I.ok.gx,I.ok.jZ,I.ok.tree,I.ok.sk⟩,I.os,I.bare,I.base,I.loc,I.cell,I.free,I.fL,I.pin,I.au,I.len⟩
theorem Inv.wU(ok:X.Ok)(I:Inv (si X e) pins σ H s):Inv X pins σ H s :=
 ⟨ok,I.os,I.bare,I.base,I.loc,I.cell,I.free,I.fL,I.pin,I.au,I.len⟩
structure kl(K:yf)(C:dm):Prop where
 ty:C2 K (.ref C)=some (.type "type")
 cl:(Aq K C).isSome=true
 be:A5 K (.ref C) (.type "BaseException")=some true
theorem zox{K:yf}{D:dm}{b:Bool}{Q:Bool->kb->Prop}(KX:K.In s.heap)(c:kl K C)(he:s.heap.get? e=some oe)(hc:oe.cls=.ref D)
  (hs:A5 K (.ref D) (.ref C)=some b)(hq:Q b s):yj M A (excMatches (.ref e) (.ref C)) Q E s:=by
 have L1:B4 M s.heap (typeOf (.ref C)) (.type "type"):=PySem.W.looks_typeIn KX c.ty;have L2:B4 M s.heap (isSubtype (.ref C) (.type "BaseException")) true:=E2 KX c.be;have L3:B4 M s.heap (isSubtype (.ref D) (.ref C)) b:=E2 KX hs;have L4:B4 M s.heap (isType (.ref C)) true:=by
  have cl:=c.cl;unfold Aq at cl
  split at cl
  ·rename_i ho
   intro A' Q' E' s' k q;unfold isType loadHead;exact yg (Dx (k _ _ (KX _ _ ho)) (yt q))
  ·cases cl
 have L5:B4 M s.heap (isExcClass (.ref C)) true:=by
  intro A' Q' E' s' k q;unfold isExcClass;refine yg (L4 _ _ _ _ k ?_);rw[if_pos rfl];exact L2 _ _ _ _ k q
 have id:∀ b o,s.heap.get? b=some o->s.heap.get? b=some o:=fun _ _ z=>z;unfold excMatches isInstance;refine yg (yg (L1 _ _ _ _ id ?_));rw[tc_notTuple];refine yt ?_;rw[if_neg zL];refine yg (yt ?_);simp only[DM,DS];refine yg (yg (yg (L5 _ _ _ _ id ?_)));simp only[DT,zy,if_false];refine yt ?_;refine yt ?_;have L6:B4 M s.heap (typeOf (.ref e)) (.ref D):=by
  intro A' Q' E' s' k q;unfold typeOf;refine yg (Dx (k _ _ he) (yt ?_));rw[hc];exact q
 refine yg (L6 _ _ _ _ id ?_);refine yg (yg (yg (L3 _ _ _ _ id ?_)));cases b with
 | true=>exact yt (yt (yt hq))
 | false=>exact yt (yt (yt hq))
end
variable {j:Nat}{tb:va}{te:TE}{ts:TS}{b₀:yx}
section
noncomputable def zon(j:Nat)(D:Ends):Ends:={ nx:=fun σ H=>D.nx (σ.set j none) H,rt:=D.rt,bk:=fun σ H=>D.bk (σ.set j none) H,ct:=fun σ H=>D.ct (σ.set j none) H }
def zxj(K:yf)(C:dm)(j:Nat)(ts:TS)(D:Ends):St->XK:=fun σ cls dd H=>∃ B,cls=.ref B/\A5 K (.ref B) (.ref C)=some true /\
 ∀ e,H e=none->ts (zon j D) (σ.set j (some (.ref e))) (upd H e (km e B dd))
section
variable {cn n:ir}{body zk0:List yx}{cp hp:yn}
theorem name_goes(I:Inv X pins σ H s)(hN:X.N.Nodup)(hj:X.N[j]?=some n)(hl:X.env.scope.names.lookup n=some .local)
  (h:∀ s',Inv X pins (σ.set j none) H s'->Q () s'):yj (ym X.prog X.w) X.A (do CW X.env n .none;unbindBehindTheSuite X.env n hp) Q E s:=by
 obtain⟨m,hn,lk⟩:=I.loc;have hk:(X.env.scope.kind==.class||(X.env.scope.kind==.module&&X.env.locals != X.env.globals))=false:=by rw[I.ok.kind];rfl
 refine wpAny_nameGoes_keeps hl hn hk fun h' v hn' sb=>h _ ?_;have k:∀ b o,b≠X.env.locals->s.heap.get? b=some o->h'.get? b=some o:=fun b o hb e=>sb.extBut b o hb e;have qy:∀ b o,X.s₀.heap.get? b=some o->b≠X.env.locals:=fun b o e=>yX (zu (yE e) I.ok.above);obtain⟨o',nV,sJ,eS,r'⟩:=hn';refine⟨I.ok,I.os,I.bare,⟨fun b o e nn hb hx=>k _ _ (qy b o e) (I.base.keep b o e nn hb hx),fun b o e nn hb hx=>?_,I.base.free,fun b o e hx=>?_,I.base.gq,I.base.gw,I.base.gO⟩,⟨_,⟨o',nV,sJ,eS,r'⟩,fun i x u e1 e2 e3=>?_⟩,fun x c e=>?_,I.free,I.fL,fun p hp=>?_,fun b u e=>?_,?_⟩
 ·obtain⟨sl,z⟩:=I.base.slot b o e nn hb hx
  exact⟨sl,k _ _ (qy b o e) z⟩
 ·obtain⟨o2,z⟩:=I.base.there b o e hx
  exact⟨o2,k _ _ (qy b o e) z⟩
 ·by_cases e7:i=j
  ·subst e7
   rw[List.getElem?_set]at e2
   split at e2
   ·split at e2 <;> cases e2
   ·exact absurd rfl (by assumption)
  ·rw[yZ (zq e7)]at e2
   obtain⟨uu,ru,l⟩:=lk i x u e1 e2 e3;refine⟨uu,ru,?_⟩;have hxn:x≠n:=fun z=>e7 (zd1 hN (by rw[<- z];exact e1) hj);rcases l with⟨l1,l2⟩|⟨kd,c,ec,o3,z1,z2⟩
   ·exact .inl ⟨l1,by show(if x=n then v else m x)=some uu;rw[if_neg hxn];exact l2⟩
   ·exact .inr ⟨kd,c,ec,o3,k _ _ (I.ko x c ec) z1,z2⟩
 ·obtain⟨v,o3,z1,z2⟩:=I.cell x c e
  exact⟨v,o3,k _ _ (I.ko x c e) z1,z2⟩
 ·obtain⟨g1,g2,g3,g4,g5⟩:=I.pin p hp
  exact⟨k _ _ g3 g1,g2,g3,g4,g5⟩
 ·refine(I.au b u e).jh (fun c vv hc q=>k c vv ?_ q) (fun _ q=>q) fun _ _ q=>q
  intro z;rcases hc with y|y
  ·rw[<- y,z,I.free]at e;cases e
  ·rw[z,I.free]at y;cases y
 ·rw[A3];exact I.len
theorem zuF(hc:kl X.K C)(cu:X.stack=X.env::X.outer)(eh:X.env.frame=some X.env.locals)(hb:pI X body tb)(hg:Gl X cn)(hm:X.mg cn=some (.ref C))(hN:X.N.Nodup)(hj:X.N[j]?=some n)
  (hl:X.env.scope.names.lookup n=some .local)(hs:∀ e,b9 (si X e) (b₀::zk0) ts)(hd:(cn==("__debug__":ir))=false:=by decide) :
  PS X (.Try body [.ExceptHandler (some (.Name cn cp)) (some n) (b₀::zk0) hp] [] [] pos) (fun D σ H=>tb D (zxj X.K C j ts D) σ H):=by
 intro pins s σ H D I h;refine wpAny_Try_except (zo (hb pins s σ H D _ I h) (fun f s1 q=>?_) fun ev s1 q=>?_)
 ·cases f with
  | next=>exact Cm q
  | ret v=>exact q
  | brk=>exact q
  | cont=>exact q
 ·obtain⟨σ1,e,cls,dd,T,H1,rfl,I1,fl,ne,nT,we,wT,B,rfl,wq,hsu⟩:=q
  have zpt:X.A.frames=some (X.env::X.outer):=by rw[<- cu];exact I1.ok.frames
  have fun1:s1.heap.FunFrames X.base (X.env::X.outer):=by rw[<- cu];exact I1.stack
  refine zim (base:=X.base) zpt fun1 eh fl fun h2 T2 k2 z2 f2=>vU f2 fun h3 k3 f3=>?_;have oT2:s1.heap.get? T2=none:=Bm z2;have k23:Kp (dR X.stack) [e,T] s1.heap h3:=by
   rw[cu];exact k2.trans k3.all fun c gX=>.inr (by have e9:c=T2:=(by simpa using gX);rw[e9];exact oT2)
  have I3:Inv X pins σ1 H1 { s1 with heap:=h3,toks:=s1.toks }:=I1.kp (t':=s1.toks) k23 fun b sX=>by
   rcases (by simpa using sX:b=e\/b=T)with y|y
   ·rw[y];exact⟨ne,we⟩
   ·rw[y];exact⟨nT,wT⟩
  obtain⟨oe,vs,oT,ts',he,oj,e6,hdt,_⟩:=id f3;refine wpAny_handleBy_cons (codeAny_handlers_test (qw (I3.toH e) hg hm (zox (K:=X.K) I3.dI hc he oj wq ?_) hd)) (by intro q;cases q);dsimp only;refine codeAny_handlers_suite_as (vU f3 fun h4 k4 f4=>?_);have I4:Inv X pins σ1 H1 { s1 with heap:=h4,toks:=s1.toks }:=by
   have nT2:Nw X pins T2:=by
    have i1:=I1;refine⟨?_,?_,?_,?_,?_⟩
    ·cases q:X.s₀.heap.get? T2 with
     | none=>rfl
     | some o =>
      have:=yE q;exact absurd (zu this (zA i1.sz z2)) (BJ _)
    ·exact AY (zu i1.lt z2)
    ·exact i1.zjH z2
    ·intro x c ec z
     obtain⟨v,o,ho,_⟩:=i1.cell x c ec;rw[z,oT2]at ho;cases ho
    ·intro p hpp z
     have:=(i1.pin p hpp).1;rw[z,oT2]at this;cases this
   refine I3.kp (h':=h4) (ex:=[T2]) (t':=s1.toks) k4.all fun b sX=>?_;obtain rfl:b=T2:=by simpa using sX
   exact⟨I1.au.fresh z2,nT2⟩
  have I5:Inv X pins σ1 (upd H1 e (km e B dd)) { s1 with heap:=h4,toks:=s1.toks }:=I4.zxU ne we (zow f4);refine qO I5 hN hj (.inl hl) (v:=.ref e) rfl (fun s6 I6=>?_) (.inr hl);refine zo (hs e pins s6 _ _ _ (I6.toH e) (hsu e ne)) (fun f s7 q=>?_) fun _ _ z=>z.elim;cases f with
  | next =>
   obtain⟨σ7,H7,I7,q7⟩:=q;exact name_goes (I7.wU I1.ok) hN hj hl fun s8 I8=>⟨_,H7,I8,q7⟩
  | brk =>
   obtain⟨σ7,H7,I7,q7⟩:=q;exact name_goes (I7.wU I1.ok) hN hj hl fun s8 I8=>⟨_,H7,I8,q7⟩
  | cont =>
   obtain⟨σ7,H7,I7,q7⟩:=q;exact name_goes (I7.wU I1.ok) hN hj hl fun s8 I8=>⟨_,H7,I8,q7⟩
  | ret v =>
   obtain⟨x7,σ7,H7,I7,r7,q7⟩:=q;exact name_goes (I7.wU I1.ok) hN hj hl fun s8 I8=>⟨x7,_,H7,I8,r7,q7⟩
end
end
variable {prog:yw}{tk:yP}{ox:yp}{od:Option yp}{g:Array GenState}{d:Drawn}{zjG:gV}
section
structure iU(K:yf)(D:dm):Prop where
 ga:zE K (.ref D) "__getattribute__"=some (some (.builtin "BaseException.__getattribute__"))
 gn:zE K (.ref D) "__getattr__"=some none
 cl:zE K (.ref D) "__class__"=some (some (.builtin "object.__class__"))
 be:A5 K (.ref D) (.type "BaseException")=some true
 ob:DU K D (.type "object")=some true
 is:(Aq K D).isSome=true
section
variable {t:Nat}{os:OsState}{K:yf}{x D:dm}
theorem zyu(X:K.In h)(c:iU K D)(I:BR h x ox D od)(hq:Q () ⟨h,g,d,t,os⟩) :
  yj M A (checkBuiltinCall "BaseException.__getattribute__" ⟨[.ref x,zjG],[]⟩) Q E ⟨h,g,d,t,os⟩:=by
 have hk:builtinKind "BaseException.__getattribute__"=some .slot:=by decide +kernel
 have zpK:splitId "BaseException.__getattribute__"=some ("BaseException","__getattribute__"):=by decide +kernel
 have L0:=I.type (M:=M);have L1:B4 M h (isSubtype (.ref D) (.type "BaseException")) true:=E2 X c.be;have ha:=F.args_bexc_ga (.ref x) zjG;simp only[checkBuiltinCall,hk,zpK];unfold isInstance;refine yg (yg (L0.at (L1.at ?_)))
 repeat (any_goals (first|assumption|wp_step))
theorem zyv{Q:Fin->kb->Prop}(X:K.In h)(c:iU K D)(I:BR h x ox D od)(hq:Q (.done (.ret (.ref D))) ⟨h,g,d,t,os⟩) :
  yj (ym prog w) A (Ah.«object.__getattribute__» ⟨[.ref x,.str "__class__" tk],[]⟩) Q E ⟨h,g,d,t,os⟩:=by
 have L0:=I.type (M:=ym prog w);have L1:=Dy (M:=ym prog w) X c.cl;have hT5:(⟨h,g,d,t,os⟩:kb).TypeIs (.builtin "object.__class__") "getset_descriptor":=F.typeOf_object_class;have f5:=F.typeOf_object_class;have f6:=F.slot_gs_get.lookup;have f7:=F.slot_gs_set.lookup
 repeat (any_goals (first|assumption|with_reducible refine L0.at ?_|with_reducible refine L1.at ?_|wp_step))
 refine PySem.W.class_get (s:=⟨h,g,d,t,os⟩) X I c.ob ?_;exact yt hq
theorem zyt{Q:gV->kb->Prop}(X:K.In h)(c:iU K D)(I:BR h x ox D od)(hq:Q (.ref D) ⟨h,g,d,t,os⟩) :
  yj (ym prog w) A (getAttrBy (.ref x) (.str "__class__" tk) false) Q E ⟨h,g,d,t,os⟩:=by
 have L0:=I.type (M:=ym prog w);have L1:=Dy (M:=ym prog w) X c.ga;have L2:=Dy (M:=ym prog w) X c.gn;have f3:=F0.ga.bind (.ref x);have hx2:(Value.builtin "BaseException.__getattribute__" == Value.builtin "object.__getattribute__")=false:=by decide +kernel
 repeat (any_goals (first|assumption|with_reducible refine L0.at ?_|with_reducible refine L1.at ?_|with_reducible refine L2.at ?_|wp_step))
 refine codeAny_call_builtin F0.ga.plain F.entry_bexc_ga (zyu X c I (zyv X c I ?_));exact PySem.W.handed_on rfl hq
theorem zys{Q:Option gV->kb->Prop}(X:K.In h)(c:iU K D)(I:BR h x ox D od)(hq:Q (some (.ref D)) ⟨h,g,d,t+1,os⟩) :
  yj (ym prog w) A (getAttr? (.ref x) "__class__") Q E ⟨h,g,d,t,os⟩:=by
 unfold getAttr? getAttrBy?
 repeat (any_goals (first|assumption|with_reducible apply zyt X c I|wp_step))
end
theorem zrG{K:yf}{x D:dm}(c:iU K D):PySem.W.KitX K (.ref x) (.ref D) (fun h=>∃ ox od,BR h x ox D od) where
 ty:=fun _ _ _ ⟨_,_,I⟩=>I.type
 it:=fun _ _ X _=>by
  have cl:=c.is;unfold Aq at cl
  split at cl
  ·rename_i ho
   intro A' Q' E' s' k q;unfold isType loadHead;exact yg (Dx (k _ _ (X _ _ ho)) (yt q))
  ·cases cl
 ne:=fun h tp dd its n sl X e=>by
  have cl:=c.is;unfold Aq at cl
  split at cl
  ·rename_i ho
   have d7:D≠tp:=fun z=>by
    have:=X _ _ ho;rw[z,e]at this;cases this
   simpa using d7
  ·cases cl
 ca:=fun{prog w A E Q s} X ⟨_,_,I⟩ hq=>by
  obtain⟨h,g,d,t,os⟩:=s;exact zys X c I hq
theorem zpR(I:Inv X pins σ H s)(h:H e=some (km e C dd))(hd:∀ dx,dd=some dx->∃ fs,H dx=some (.xd fs)):∃ ox od,BR s.heap e ox C od:=by
 obtain⟨⟨o,vs,ho,hc,e6,hdt⟩,_⟩:=(show de X.prog X.w H s.heap e (km e C dd) from I.au e _ h);cases dd with
 | none=>exact⟨o,none,ho,hc,by unfold PySem.W.notCls;rw[hdt],by rw[e6];trivial⟩
 | some dx =>
  obtain⟨fs,hx⟩:=hd dx rfl;obtain⟨od,e2⟩:=(I.au dx _ hx).some;exact⟨o,some od,ho,hc,by unfold PySem.W.notCls;rw[hdt],by rw[e6];exact e2⟩
def zwp(K:yf):List V->Hp->VK->Prop:=fun xs H Q=>∃ e y C dd b,xs=[.ref e,y]/\lL y≠.none/\H e=some (km e C dd)/\(∀ dx,dd=some dx->∃ fs,H dx=some (.xd fs))/\iU K C/\yR K (.ref C) (lL y)=some b/\Q (.bl b) H
theorem znd:gB X (.builtin "isinstance") (zwp X.K):=by
 intro pins s σ H xs us Q I r h;obtain⟨e,y,C,dd,b,rfl,hy,he,hd,c,k,q⟩:=h;obtain⟨u,v,rfl,ru,rv⟩:=vals2 r;cases zhN rv hy;cases (show u=yS e from ru);exact B1 (zrG c) I.dI (zpR I he hd) k (fun z=>nomatch z) fun tk=>⟨.bl b,H,I.tok tk,rfl,q⟩
end
variable {e:yh}{σ:List (Option V)}
section
def aE(K:yf)(mg:ir->Option gV)(x:ir)(st:yx):Prop:=∃(f:dm) (fd:yL),mg x=some (.ref f)/\c9 K x x st f fd
def Callee(P:yw)(w:yv)(K:yf)(mg:ir->Option gV)(base:yo)(x:ir)(k:Nat)(ps:List ir)(sp:Sp):Prop :=
 ∃(f:dm) (fd:yL),mg x=some (.ref f)/\AJ K (.ref f)=true/\Binds K fd ps []/\b6 P w K mg base (aZ P w) k f fd ps sp
section
variable {sp:Sp}{E:XK}
theorem qA(c:Callee X.prog X.w X.K X.mg X.base x k ps sp)(hr:aM j X.A)(hg:Gl X x)(hx:Passes (aZ X.prog X.w) X E)(ha:PA X (e::es) t)(hj:k<=j:=by decide)(bp:(x==("__debug__":ir))=false:=by decide)
  (he:yi (e::es) X.env=(false,yu e X.env)::yi es X.env:=by rfl) (aS:(yJ pos (yi es X.env)).any (·.1)=false:=by rfl):PE X (.Call (.Name x p) (e::es) [] pos) (zfp sp [] E t):=by
 obtain⟨f,fd,hm,hk,hb,F⟩:=c;exact ztM F (hr.mono hj) hg hm hk hb .nil hx ha bp he aS
end
end
variable {it l:dm}{items:Array gV}{t:jl}{Q:List gV->kb->Prop}
section
section
theorem zod(d7:l≠it):∀(n i:Nat) (s:kb) (Q:List gV->kb->Prop),s.heap.IsListIter it l i->s.heap.IsList l items->i+n<=items.size ->
  (∀ h',h'.IsListIter it l (i+n)->By it s.heap h'->Q ((items.toList.drop i).take n) { s with heap:=h' })->yj (ym prog w) A (draw (.ref it) n) Q E s:=by
 intro n
 induction n with
 | zero =>
  intro i s Q h1 _ _ q;refine yt ?_;have:=q s.heap h1 (F3 ..);simpa using this
 | succ n ih =>
  intro i s Q h1 h2 hle q;have hi:i<items.size:=by omega
  show yj _ _ (AH (.ref it) >>= _) Q E s;refine yg (wpAny_pyNext_list_item h1 h2 (x:=items[i]) (by simp[hi]) fun h' g1 g2=>?_);have g3:h'.IsList l items:=by
   obtain⟨o,e,r⟩:=h2;exact⟨o,g2.extBut l o d7 e,r⟩
  refine yg (zH (ih (i+1) _ _ g1 g3 (by omega) fun gU k1 k2=>yt ?_));have z:=q gU (by rw[show i+(n+1)=i+1+n by omega];exact k1) (g2.trans k2);rw[E4 (by simpa using hi),F4]at z;simpa using z
theorem zyc(hh:A.handled=none)(hl:s.heap.IsList l items)
  (q:∀ h',E5 s.heap.objs.size s.heap h'->Q items.toList { s with heap:=h' }):yj (ym prog w) A (unpackItems (.ref l) items.size none) Q E s:=by
 have ne:l≠s.heap.objs.size:=by
  obtain⟨o,e,_⟩:=hl;exact yX (yE e)
 unfold unpackItems notIterableAtAll;refine yg (yg (DV hl.typeIs slot_list_iter.lookup (yt ?_)));rw[if_neg (by simp)];refine yg (zH (DW hl ?_));have lR:(s.heap.push { cls:=.type "list_iterator",data:=.fields #[.ref l,.int 0 0] }).IsList l items:=by
  obtain⟨o,e,r⟩:=hl;exact⟨o,yM _ e,r⟩
 refine yg (zH (zod ne items.size 0 _ _ ⟨_,y9 _ rfl,rfl,rfl⟩ lR (by omega) fun h1 g1 g2=>?_));rw[List.drop_zero,EY (by simp),if_neg (by simp)];have tq:h1.IsList l items:=by
  obtain⟨o,e,r⟩:=lR;exact⟨o,g2.extBut l o ne e,r⟩
 refine yg (zH (wpAny_pyNext_list_end hh g1 tq (by simp) fun h2 k=>?_));rw[if_neg (by simp)];refine yt (q h2 fun b o hb e=>?_);exact k b o hb (g2.extBut b o hb (yM _ e))
end
section
noncomputable def zo6(K:yf)(n:Nat)(t:jl):TG:=fun v σ H Q=>∃ a xs,v=.ref a/\bq K H a xs/\xs.length=n/\t xs σ H Q
theorem zub(hc:X.calm=true)(h:jP X es t)
  (hn:(Ae es X.env).length=n:=by rfl)(cu:(Ae es X.env).findIdx? (·.1)=none:=by rfl):PG X (.Tuple es k pos) (zo6 X.K n t):=by
 intro pins s σ H v u Q I r hw;obtain⟨a,xs,rfl,hq,hl,hw⟩:=hw;cases r;obtain⟨its,rv,ht,hz⟩:=I.list hq;rw[assign_Tuple];refine yg (Bo ?_);unfold unpack;have en:(Ae es X.env).length=its.toArray.size:=by simp[hn,<- hl,rv.length]
 rw[en,cu];refine yg (zH (zyc (I.ok.hd hc) ht.isList fun h' hx=>?_));have I1:Inv X pins σ H { s with heap:=h' }:=I.kept (t':=s.toks) fun b o e=>hx b o (yX (yE e)) e;exact h pins _ σ H xs _ Q I1 (by simpa using rv) hw
end
end
section
end
section
theorem ay.upd(h:H l=none):ay H (upd H l o):=fun b u e=>by rw[aN (oM e h)];exact e
end
section
end
section
end
variable {fp:List dm}{t':Nat}{H':Hp}{us:List gV}{xs:List V}{p0:yn}
section
section
theorem Inv.qW(I:Inv X pins σ H s)(k:∀ b o,b∉fp->s.heap.get? b=some o->h'.get? b=some o)(hf:∀ b∈fp,fT X pins H b):Inv X pins σ H { s with heap:=h',toks:=t' }:=by
 have ue:∀ b u,H b=some u->b∉fp:=fun b u e z=>by
  have:=(hf b z).1;rw[e]at this;cases this
 have hL:X.env.locals∉fp:=fun z=>(hf _ z).2.1 rfl;refine I.step (g':=s.gens) (d':=s.drawn) (ch:=fp) (fun b hb=>?_) (fun b o _ _ hc e _=>k b o hc e) (fun b o _ _ hc e _=>⟨o.slots,k b o hc e⟩) (fun _ _ _ _ n=>n)
  (fun b o hc e=>⟨o,k b o hc e⟩) (fun _ _ e=>e) (fun _ _ _ e=>e) (fun b ps e=>⟨#[],by rw[e];simp⟩) (fun m hm=>?_) (fun b u e=>?_) I.bare
 ·obtain⟨_,h1,_,h3,h4,h5⟩:=hf b hb
  exact⟨h3,h1,h4,h5⟩
 ·obtain⟨o,es,ep,ho,r⟩:=hm
  exact⟨o,es,ep,k _ o hL ho,r⟩
 ·refine(I.au b u e).jh (fun c v hc q=>k c v ?_ q) (fun _ q=>q) fun _ _ q=>q
  rcases hc with z|z
  ·rw[z];exact ue b u e
  ·exact ue c _ z
theorem Inv.zfz(I:Inv X pins σ H s)(k:∀ b o,b∉fp->s.heap.get? b=some o->h'.get? b=some o)(hf:∀ b∈fp,fT X pins H b)(v8:∀ b∈fp,b<s.heap.objs.size)
  (ht:h'.get? s.heap.objs.size=some { cls:=.type "tuple",data:=.seq us.toArray n }) (r:Vals xs us) (hz:xs.length<=yz) :
  Inv X pins σ (upd H s.heap.objs.size (.tup xs)) { s with heap:=h',toks:=t' }:=by
 have I1:Inv X pins σ (upd H s.heap.objs.size (.tup xs)) { s with heap:=s.heap.push { cls:=.type "tuple",data:=.seq us.toArray n },toks:=s.toks } :=
  I.laid (t':=s.toks) (fun b u e=>yM _ e) (yA _) ⟨hz,us,r,⟨_,y9 _ rfl,rfl,_,rfl⟩⟩
 refine Inv.qW (s:={ s with heap:=s.heap.push { cls:=.type "tuple",data:=.seq us.toArray n },toks:=s.toks }) (t':=t') (fp:=fp) I1 (fun b o hb e=>?_) fun b hb=>⟨by rw[aN (yX (v8 b hb))];exact(hf b hb).1,(hf b hb).2⟩
 by_cases hbs:b=s.heap.objs.size
 ·subst hbs
  have e':(s.heap.push { cls:=.type "tuple",data:=.seq us.toArray n }).get? s.heap.objs.size=some o:=e;rw[y9 _ rfl]at e';cases e';exact ht
 ·refine k b o hb ?_
  have e':(s.heap.push { cls:=.type "tuple",data:=.seq us.toArray n }).get? b=some o:=e;have lt:b<(s.heap.push { cls:=.type "tuple",data:=.seq us.toArray n }).objs.size:=yE e';rw[AK]at lt;have lt':b<s.heap.objs.size:=Nat.lt_of_le_of_ne (Nat.le_of_lt_succ lt) hbs;unfold Heap.get? at e' ⊢;unfold Heap.push at e';simp only at e';rw[Array.getElem?_push_lt lt']at e';rw[E6 lt'];exact e'
end
def Itz(K:yf)(a b:dm):It :=
 ⟨fun i H=>∃ xs ys x y,bq K H a xs/\bq K H b ys/\xs[i]?=some x/\ys[i]?=some y,
  fun i H x H'=>∃ t u v,x=.ref t/\H t=none/\H'=upd H t (.tup [u,v])/\(∀ xs,bq K H a xs->xs[i]?=some u)/\∀ ys,bq K H b ys->ys[i]?=some v,
  fun i H=>∃ xs ys,bq K H a xs/\bq K H b ys/\(xs.length<=i\/ys.length<=i)⟩
def tnZ(z TI TO i1 i2 a b:dm)(i:Nat)(h:yo):Prop:=z0 h z TI TO .none/\zr h TI (.ref i1) (.ref i2)/\(∃ u v,zr h TO u v)/\h.IsListIter i1 a i/\h.IsListIter i2 b i
theorem zx4{K:yf}(z TI TO i1 i2 a b:dm)(D:ZipApart z TI TO i1 i2 a b):Turn P w K (.Tuple es k pos) (Itz K a b) [z,TI,TO,i1,i2] z (tnZ z TI TO i1 i2 a b) where
 mem:=by simp
 obj:=fun i h st c hc=>by
  obtain⟨h1,h2,⟨u,v,h3⟩,⟨o4,h4,_,d4⟩,⟨o5,h5,_,d5⟩⟩:=st;simp only[yH,zS,or_false]at hc;rcases hc with rfl|rfl|rfl|rfl|rfl
  ·exact⟨_,h1,fun v z=>by cases z⟩
  ·exact⟨_,h2,fun v z=>by cases z⟩
  ·exact⟨_,h3,fun v z=>by cases z⟩
  ·exact⟨_,h4,fun v z=>by rw[d4]at z;cases z⟩
  ·exact⟨_,h5,fun v z=>by rw[d5]at z;cases z⟩
 keep:=fun i h h' st k=>by
  obtain⟨h1,h2,⟨u,v,h3⟩,h4,h5⟩:=st;exact⟨k _ (by simp) _ h1,k _ (by simp) _ h2,⟨u,v,k _ (by simp) _ h3⟩,h4.at fun o e=>k _ (by simp) o e,h5.at fun o e=>k _ (by simp) o e⟩
 item:=by
  intro X hP hw hK hc i pins s σ H E I hf st hg;subst hP hw hK;obtain⟨xs,ys,x,y,gY,kM,hx,hy⟩:=hg;obtain⟨oE,iN,px,_⟩:=I.list gY;obtain⟨tM,lr,py,_⟩:=I.list kM;obtain⟨ux,tK,uF⟩:=iN.get hx;obtain⟨uy,huy,ruy⟩:=lr.get hy;obtain⟨h1,h2,⟨u,v,h3⟩,h4,h5⟩:=id st;have jw:∀ c∈[z,TI,TO,i1,i2],c<s.heap.objs.size:=fun c hc=>by
   obtain⟨o4,e4,_⟩:=id h4;obtain⟨o5,e5,_⟩:=id h5;simp only[yH,zS,or_false]at hc;rcases hc with rfl|rfl|rfl|rfl|rfl
   ·exact yE h1
   ·exact yE h2
   ·exact yE h3
   ·exact yE e4
   ·exact yE e5
  refine wpAny_pyNext_zip_item D h1 h2 h3 h4 h5 px.isList py.isList (by simpa using tK) (by simpa using huy) fun h' a1 a2 a3 a4 a5 a6 hk=>?_;refine⟨_,rfl,F5 a1 fun gU b1 sb=>?_⟩;have uQ:=jw z (by simp);have k2:∀ c o,c∉[z,TI,TO,i1,i2]->s.heap.get? c=some o->gU.get? c=some o:=fun c o hc e=>by
   simp only[yH,zS,or_false,not_or]at hc;exact sb.extBut c o hc.1 (hk c o hc.1 hc.2.2.1 hc.2.2.2.1 hc.2.2.2.2 e)
  have ht:gU.get? s.heap.objs.size=some { cls:=.type "tuple",data:=.seq #[ux,uy] }:=sb.extBut _ _ (AY uQ) a5;refine⟨.ref s.heap.objs.size,_,Inv.zfz (s:=s) (h':=gU) (t':=s.toks) (fp:=[z,TI,TO,i1,i2]) I (xs:=[x,y]) (us:=[ux,uy]) k2 hf jw ht (.cons uF (.cons ruy .nil)) (by rw[zC];show 2<=16777216;decide),rfl,
   ⟨_,x,y,rfl,I.au.fresh (yA _),rfl,fun zs hz=>by rw[I.tW hz gY];exact hx,fun zs hz=>by rw[I.tW hz kM];exact hy⟩,?_,fun c hc=>?_⟩
  ·exact⟨b1,sb.extBut _ _ D.TIz (hk _ _ D.TIz D.TITO D.TIi1 D.TIi2 h2),⟨_,_,sb.extBut _ _ D.TOz a2⟩,a3.extBut sb.extBut D.i1z,a4.extBut sb.extBut D.i2z⟩
  ·rw[aN (yX (jw c hc))]
   exact(hf c hc).1
 done:=by
  intro X hP hw hK hc i pins s σ H E I hf st hg;subst hP hw hK;obtain⟨xs,ys,gY,kM,v7⟩:=hg;obtain⟨oE,iN,px,_⟩:=I.list gY;obtain⟨tM,lr,py,_⟩:=I.list kM;obtain⟨h1,h2,⟨u,v,h3⟩,h4,h5⟩:=id st;have lx:=iN.length;have ly:=lr.length;refine wpAny_pyNext_zip_end (I.ok.hd hc) D h1 h2 h3 h4 h5 px.isList py.isList ?_ fun h' hk=>⟨rfl,I.qW (t':=s.toks) (fun c o hc e=>?_) hf⟩
  ·rcases v7 with h|h
   ·exact .inl (by simp;omega)
   ·exact .inr (by simp;omega)
  ·simp only[yH,zS,or_false,not_or]at hc
   exact hk c o hc.1 hc.2.2.1 hc.2.2.2.1 hc.2.2.2.2 e
 self:=fun _ _ _ _ _ st h=>DX st.1 h
def Ite(K:yf)(a:dm):It :=
 ⟨fun i H=>∃ xs x,bq K H a xs/\xs[i]?=some x,fun i H x H'=>∃ t v,x=.ref t/\H t=none/\H'=upd H t (.tup [.int i,v])/\∀ xs,bq K H a xs->xs[i]?=some v,fun i H=>∃ xs,bq K H a xs/\xs.length<=i⟩
theorem zxZ{K:yf}(e it a:dm)(d7:e≠it):Turn P w K (.Tuple es k pos) (Ite K a) [e,it] e (fun i h=>(∃ old,IsEnum h e it i old)/\h.IsListIter it a i) where
 mem:=by simp
 obj:=fun i h st c hc=>by
  obtain⟨⟨old,h1⟩,⟨o4,h4,_,d4⟩⟩:=st;simp only[yH,zS,or_false]at hc;rcases hc with rfl|rfl
  ·exact⟨_,h1,fun v z=>by cases z⟩
  ·exact⟨_,h4,fun v z=>by rw[d4]at z;cases z⟩
 keep:=fun i h h' st k=>by
  obtain⟨⟨old,h1⟩,h4⟩:=st;exact⟨⟨old,k _ (by simp) _ h1⟩,h4.at fun o e=>k _ (by simp) o e⟩
 item:=by
  intro X hP hw hK hc i pins s σ H E I hf st hg;subst hP hw hK;obtain⟨xs,x,gY,hx⟩:=hg;obtain⟨oE,iN,px,_⟩:=I.list gY;obtain⟨ux,tK,uF⟩:=iN.get hx;obtain⟨⟨old,h1⟩,h4⟩:=id st;have jw:∀ c∈[e,it],c<s.heap.objs.size:=fun c hc=>by
   obtain⟨o4,e4,_⟩:=id h4;simp only[yH,zS,or_false]at hc;rcases hc with rfl|rfl
   ·exact yE h1
   ·exact yE e4
  refine wpAny_pyNext_enum_item h1 h4 px.isList (by simpa using tK) d7 fun h' a1 a3 a5 a6 hk=>?_;refine⟨_,rfl,wpAny_letOwnedTupleGo_enum a1 fun gU b1 sb=>?_⟩;have uQ:=jw e (by simp);have k2:∀ c o,c∉[e,it]->s.heap.get? c=some o->gU.get? c=some o:=fun c o hc g=>by
   simp only[yH,zS,or_false,not_or]at hc;exact sb.extBut c o hc.1 (hk c o hc.1 hc.2 g)
  have ht:gU.get? s.heap.objs.size=some { cls:=.type "tuple",data:=.seq #[.int i s.toks,ux] }:=sb.extBut _ _ (AY uQ) a5;refine⟨.ref s.heap.objs.size,_,Inv.zfz (s:=s) (h':=gU) (t':=s.toks+1) (fp:=[e,it]) I (xs:=[.int i,x]) (us:=[.int i s.toks,ux]) k2 hf jw ht (.cons ⟨_,rfl⟩ (.cons uF .nil)) (by rw[zC];show 2<=16777216;decide),rfl,
   ⟨_,x,rfl,I.au.fresh (yA _),rfl,fun zs hz=>by rw[I.tW hz gY];exact hx⟩,?_,fun c hc=>?_⟩
  ·exact⟨⟨_,b1⟩,a3.extBut sb.extBut (zq d7)⟩
  ·rw[aN (yX (jw c hc))]
   exact(hf c hc).1
 done:=by
  intro X hP hw hK hc i pins s σ H E I hf st hg;subst hP hw hK;obtain⟨xs,gY,v7⟩:=hg;obtain⟨oE,iN,px,_⟩:=I.list gY;obtain⟨⟨old,h1⟩,h4⟩:=id st;have lx:=iN.length;refine wpAny_pyNext_enum_end (I.ok.hd hc) h1 h4 px.isList (by simp;omega) fun h' hk=>⟨rfl,I.qW (t':=s.toks) (fun c o hc g=>?_) hf⟩;simp only[yH,zS,or_false,not_or]at hc;exact hk c o hc.2 g
 self:=fun _ _ _ _ _ st h=>by
  obtain⟨⟨old,h1⟩,_⟩:=st;exact wpAny_pyIter_enum h1 h
section
def zpL(K:yf)(ta:TA):TI:=fun σ H R=>ta σ H fun vs H1=>∃ a,vs=[.ref a]/\(∃ xs,bq K H1 a xs)/\R (Ite K a) H1
theorem zue{a:yh}(hg:Gl X "enumerate")(hm:X.mg "enumerate"=none)(ha:PA X [a] ta)(hs:yi [a] X.env=[(false,yu a X.env)]:=by rfl) :
  PI X (.Tuple es k p0) (.Call (.Name "enumerate" p) [a] [] pos) (zpL X.K ta):=by
 intro pins s σ H R I h;refine Call_ (oH I hg hm (by decide +kernel:zj "enumerate"=some (.type "enumerate")) (C0 (aI (ha pos pins s σ H _ I h) fun us s1 ⟨vs,H1,I1,r1,q1⟩=>?_) hs rfl));obtain⟨l1,e,⟨xs,hx⟩,q⟩:=q1;subst e;cases r1 with
 | cons r rr =>
  cases rr;cases r;obtain⟨oE,iN,px,_⟩:=I1.list hx;refine call_enumerate_list px.isList fun h' g1 g4 g6 hk=>?_;refine wpAny_pyIter_enum g1 ⟨_,[s1.heap.objs.size+1,s1.heap.objs.size],_,_,H1,rfl,I1.kept (t':=s1.toks) hk,zxZ _ _ l1 (Nat.succ_ne_self _),⟨⟨_,g1⟩,g4⟩,fun c hc=>?_,q⟩;have gW:s1.heap.objs.size<=c:=by
   simp only[yH,zS,or_false]at hc;rcases hc with rfl|rfl <;> first|exact DY _ _|exact yA _
  exact I1.kH gW (I1.au.fresh gW)
theorem zmF{bs:List Bool}:∀{us:List gV},Vals (bs.map V.bl) us->us=bs.map AV:=by
 induction bs with
 | nil=>intro us h;cases h;rfl
 | cons b r ih =>
  intro us h;cases h with
  | cons h1 h2 =>
   have:=ih h2;cases h1;rw[this]
   rfl
theorem znb(hc:X.calm=true):gB X (.builtin "all") (fun xs H Q=>∃(a:dm) (bs:List Bool),xs=[.ref a]/\bq X.K H a (bs.map V.bl)/\Q (.bl (bs.all id)) H):=by
 intro pins s σ H xs us Q I r h;obtain⟨a,bs,rfl,hq,q⟩:=h;obtain⟨u,rfl,rx⟩:=vals1 r;cases rx;obtain⟨its,rv,p,hz⟩:=I.list hq;have e:=zmF rv;subst e;have d7:a≠s.heap.objs.size:=by
  obtain⟨o,eo,_⟩:=p.isList;exact yX (yE eo)
 have W:=Walks.list (prog:=X.prog) (w:=X.w) (A:=X.A.in1) (show X.A.in1.handled=none from I.ok.hd hc) s.heap.objs.size a d7 (bs.map AV).toArray;refine call_all_walk (DW p.isList ⟨_,_,_,_,_,_,fun i=>bs.getD i true,rfl,W,⟨⟨_,y9 _ rfl,rfl,rfl⟩,p.isList.push _⟩,?_,fun h' tk hk=>⟨.bl (bs.all id),H,?_,?_,q⟩⟩)
 ·intro i v s' Q' E' hP hQ
  have hP':(bs.map AV)[i]?=some v:=by simpa using hP
  rw[zv]at hP';cases e:bs[i]? with
  | none=>rw[e]at hP';cases hP'
  | some b =>
   rw[e]at hP';cases hP';have:bs.getD i true=b:=by simp[DZ,e]
   have hQ2:Q' (bs.getD i true) s':=hQ;rw[this]at hQ2;exact yt hQ2
 ·refine Inv.qW (s:={ s with heap:=s.heap.push { cls:=.type "list_iterator",data:=.fields #[.ref a,.int 0 0] },toks:=s.toks }) (t':=tk) (fp:=[s.heap.objs.size]) (I.kept (t':=s.toks) fun b o e=>yM _ e) (fun b o hb e=>hk b o hb e) fun b hb=>?_
  have e:b=s.heap.objs.size:=by simpa using hb
  subst e;exact I.kH (yA _) (I.au.fresh (yA _))
 ·show AV _=AV _
  congr 1
  simp only[yU,za];rw[Bool.eq_iff_iff,zR,zR]
  constructor
  ·intro h b hb
   obtain⟨i,hi,e⟩:=List.getElem_of_mem hb;have:=h i (CV.mpr hi);simpa[DZ,hi,e] using this
  ·intro h i hi
   have iB:=CV.mp hi;have:=h bs[i] (List.getElem_mem iB);simpa[DZ,iB] using this
end
end
variable {elt iter tg:yh}{gs:List E7}{tu:TU}{J:It}{W:Nat->Nat->Hp->Prop}{Post:gV->kb->Prop}{o0:HO}{tc:TT}{wi:TI}{outer:yC}{g:TG}{σ:St}{tn:Nat->yo->Prop}{L:List ir}{ob:yp}{d k2 m0:Nat}{cl:List (ir×dm)}{use:Option (gV->zk Unit)}{ix:List Nat}{Q:yC->kb->Prop}{m:ir->Option gV}{k:Key}{globals:dm}{em:Em}{ifs:List yh}
section
theorem nO:∀(names:List (ir×Af)) (n:Nat) (acc:List (ir×dm)),A0 n names acc=A0 n names []++acc
 | [],n,acc=>rfl
 | (x,k)::r,n,acc=>by
  unfold A0
  split
  ·rw[nO r (n+1) ((x,n)::acc),nO r (n+1) [(x,n)]]
   simp
  ·exact nO r n acc
theorem vD:∀(names:List (ir×Af)) (n:Nat) (p:ir×dm),p∈A0 n names []->(p.1,Ai)∈names
 | [],n,p,h=>nomatch h
 | (x,k)::r,n,p,h=>by
  unfold A0 at h
  split at h
  ·rename_i hk
   rw[nO]at h;rcases BL.mp h with h|h
   ·exact yY _ (vD r _ p h)
   ·have e:p=(x,n):=by simpa using h
    have hk':k=.cell:=by simpa using hk
    subst e hk';exact zm ..
  ·exact yY _ (vD r _ p h)
theorem zaZ{x:ir}:∀(names:List (ir×Af)) (n:Nat),(x,Ai)∈names->∃ c,(x,c)∈A0 n names []
 | (y,k)::r,n,h=>by
  unfold A0;rcases yH.mp h with e|h
  ·cases e
   rw[if_pos (by rfl),nO];exact⟨n,AI _ (De.mpr rfl)⟩
  ·split
   ·obtain⟨c,hc⟩:=zaZ r (n+1) h
    exact⟨c,by rw[nO];exact Ci _ hc⟩
   ·exact zaZ r n h
theorem zje{α:Type}{x:ir}{c:α}:∀{l m:List (ir×α)},(l++m).lookup x=some c->l.lookup x=some c\/(l.lookup x=none/\m.lookup x=some c)
 | [],m,h=>.inr ⟨rfl,h⟩
 | (y,b)::r,m,h=>by
  rw[zN,yN]at h;rw[yN]
  split at h
  ·exact .inl h
  ·exact zje h
theorem zjf{α:Type}{x:ir}{c:α}:∀{l m:List (ir×α)},m.lookup x=some c->∃ d,(l++m).lookup x=some d
 | [],m,h=>⟨c,h⟩
 | (y,b)::r,m,h=>by
  rw[zN,yN]
  split
  ·exact⟨_,rfl⟩
  ·exact zjf h
theorem zjg{α:Type}{x:ir}:∀{l m:List (ir×α)},l.lookup x=none->(l++m).lookup x=m.lookup x
 | [],m,h=>rfl
 | (y,b)::r,m,h=>by
  rw[yN]at h;rw[zN,yN]
  split at h
  ·cases h
  ·exact zjg h
theorem zjh{α:Type}{x:ir}:∀{l:List (ir×α)},(∀ p∈l,p.1≠x)->l.lookup x=none
 | [],_=>rfl
 | (y,b)::r,h=>by
  rw[yN];have:(x==y)=false:=by
   have:=h (y,b) (zm ..);simpa using fun e=>this e.symm
  rw[this];exact zjh fun p hp=>h p (yY _ hp)
noncomputable def iJ(C:dm)(scope:yT):List (ir×dm):=A0 (C+1) scope.names []
def bo(X:Cx)(M:List ir)(scope:yT)(C:dm)(s₃:kb)(H₃:Hp)(fp:List dm):Cx :=
 { X with N:=M,s₀:=s₃,H₀:=H₃,env:=compEnvC scope (iJ C scope++fj X.env.cells scope.names []) C X.env,outer:=X.stack,stack:=X.stack,ex:=fp,fn:=fun x=>scope.names.contains (x,Ai),pn:=[],xe:=fun _ _=>False }
structure zaa(X:Cx)(scope:yT)(pU:List ir):Prop where
 kind:scope.kind=.function
 cell:∀ y∈scope.names,y.2=.free->X.env.kindOf y.1=some .cell
 loc:∀ y∈scope.names,y.2=.local->scope.names.lookup y.1=some .local
 pU:∀ x∈pU,scope.names.lookup x≠some .local/\(x,Ai)∉scope.names
 dis:∀ y∈scope.names,y.2=.free->(y.1,Ai)∉scope.names
theorem zsW:∀(names:List (ir×Af)) {h:yo},h.Ns C m->(pushCells h names).Ns C m:=fun names h hn=>by
 obtain⟨o,es,ep,ho,r⟩:=hn;exact⟨o,es,ep,pushCells_keeps names h C o ho,r⟩
section
theorem zpV(S:zaa X scope (gG X ix))(I:Inv X pins σ H s)(hf:∀ b∈fp,fT X pins H b)(v8:∀ b∈fp,b<s.heap.objs.size)
  (ou:∀ i∈ix,i<X.N.length)(hn:h'.Ns s.heap.objs.size fun _=>none)(hk:∀ b u,s.heap.get? b=some u->h'.get? b=some u)(lQ:CellsOk h' (s.heap.objs.size+1) (iJ s.heap.objs.size scope)) :
  Inv (bo X (L++gG X ix) scope s.heap.objs.size s H fp) [] (eO L.length ix σ) H { s with heap:=h',toks:=t' }:=by
 have cl:∀ x c,(fj X.env.cells scope.names []).lookup x=some c->X.env.cells.lookup x=some c:=fun x c e =>
  vF (acc:=[]) (fun p hp=>nomatch hp) (x,c) (Be e)
 have old:∀ x c,X.env.cells.lookup x=some c->c<s.heap.objs.size:=fun x c e=>by
  obtain⟨v,q⟩:=I.cell x c e;exact q.lt
 have own:∀ x c,(iJ s.heap.objs.size scope).lookup x=some c->h'.IsCell c none/\s.heap.objs.size+1<=c/\(x,Ai)∈scope.names:=fun x c e=>by
  have m:=Be e;exact⟨(lQ.empty x c m).1,(lQ.empty x c m).2,vD _ _ _ m⟩
 have al:∀ x c,(iJ s.heap.objs.size scope++fj X.env.cells scope.names []).lookup x=some c->(iJ s.heap.objs.size scope).lookup x=some c\/((iJ s.heap.objs.size scope).lookup x=none/\X.env.cells.lookup x=some c):=fun x c e=>by
  rcases zje e with h|⟨h1,h2⟩
  ·exact .inl h
  ·exact .inr ⟨h1,cl x c h2⟩
 have zjR:∀ x,(x,Ai)∈scope.names->∃ c,(iJ s.heap.objs.size scope).lookup x=some c:=fun x hx=>by
  obtain⟨c,hc⟩:=zaZ scope.names (s.heap.objs.size+1) hx;exact tX hc
 refine⟨⟨I.ok.mod,S.kind,I.ok.glob,I.ok.blt,yA _,fun x y c e1 e2=>?_,fun x hx=>?_,fun x c e1 e2=>?_,I.ok.hd,I.ok.frames,.inl rfl,fun b hb=>⟨yX (v8 b hb),fun x c e=>?_⟩,
  fun b o e=>I.bs b o e,zA I.ok.jn I.sz,fun b o e hb=>?_,fun b hb hz=>?_,I.stack,I.uL,I.ok.tree,I.ok.sk⟩,
  rfl,I.bare,Un.kept hk,⟨_,hn,fun i x v h1 h2 h3=>?_⟩,fun x c e=>?_,I.au.fresh (yA _),fun x c e=>?_,fun p hp=>absurd (show p∈([]:List (dm×yp)) from hp) (by simp),I.au.kept hk,?_⟩
 ·rcases al x c e1 with a1|⟨_,a1⟩ <;> rcases al y c e2 with a2|⟨_,a2⟩
  ·exact name_of_addr lQ.apart (Be a1) (Be a2)
  ·exact absurd (old y c a2) (D0.mpr (Df (own x c a1).2.1))
  ·exact absurd (old x c a1) (D0.mpr (Df (own y c a2).2.1))
  ·exact I.ok.inj x y c a1 a2
 ·have hx':(B5 scope X.env).names.lookup x=some .cell\/(B5 scope X.env).names.lookup x=some .free:=hx
  have fr:(x,Ai)∈scope.names\/(x,Bs)∈scope.names:=by
   rcases hx' with q|q
   ·obtain⟨k0,_,h2,h3⟩:=oZ (scope:=scope) q
    rcases h3 with rfl|⟨rfl,_⟩
    ·exact .inl h2
    ·exact .inr h2
   ·obtain⟨k0,_,h2,h3⟩:=oZ (scope:=scope) q
    rcases h3 with rfl|⟨_,z⟩
    ·exact .inr h2
    ·cases z
  rcases fr with fr|fr
  ·obtain⟨c,hc⟩:=zjR x fr
   show ∃ c,(iJ s.heap.objs.size scope++fj X.env.cells scope.names []).lookup x=some c;exact tX (Ci _ (Be hc))
  ·obtain⟨c,hc⟩:=I.ok.has x (.inl (S.cell _ fr rfl))
   obtain⟨d,hd⟩:=tX (sd (names:=scope.names) (acc:=[]) hc fr);exact zjf hd
 ·have hx:(x,Ai)∈scope.names:=by
   have kz:scope.names.contains (x,Ai)=true:=e1;simpa using kz
  rcases al x c e2 with a1|⟨a1,_⟩
  ·exact Df (own x c a1).2.1
  ·obtain⟨d,hd⟩:=zjR x hx
   rw[a1]at hd;cases hd
 ·rcases al x c e with a1|⟨_,a1⟩
  ·exact AY (zu (v8 b hb) (Df (own x c a1).2.1))
  ·exact(hf b hb).2.2.2.2.1 x c a1
 ·rcases (hf b hb).2.2.2.1 with z|z
  ·exact I.ok.mx b o e z
  ·exact absurd (yE (I.ok.bs b o e).1) (D0.mpr z)
 ·rcases yH.mp (I.pe b hz)with z|z
  ·exact(hf b hb).2.1 z
  ·exact(hf b hb).2.2.1 z
 ·-- a name that is drawn in
  have hi:L.length<=i:=by
   by_cases hi:i<L.length
   ·unfold eO at h2
    rw[zK (by simpa using hi),Aa,if_pos hi]at h2;cases h2
   ·omega
  unfold eO at h2;rw[Ay (by simpa using hi),A1,zv]at h2;have h1':(L++gG X ix)[i]?=some x:=h1;rw[Ay hi]at h1';unfold gG at h1';rw[zv]at h1';cases ej:ix[i-L.length]? with
  | none=>rw[ej]at h1';cases h1'
  | some j =>
   rw[ej]at h1' h2;have hj:j<X.N.length:=ou j (Ag ej);have e1:X.N[j]?=some x:=by
    have:X.N.getD j ""=x:=zt h1';rw[<- this];simp[DZ,hj]
   have e2:σ[j]?=some (some v):=by
    have z:(σ[j]?).getD none=some v:=zt h2;cases q:σ[j]? with
    | none=>rw[q]at z;cases z
    | some o=>rw[q]at z;exact congrArg some z
   have hx:x∈gG X ix:=by
    unfold gG;refine As.mpr ⟨j,Ag ej,?_⟩;exact zt h1'
   have h3':(B5 scope X.env).names.lookup x=some .local\/(B5 scope X.env).names.lookup x=some .cell\/(B5 scope X.env).names.lookup x=some .free:=h3;have fr:(x,Bs)∈scope.names:=by
    rcases h3' with q|q|q
    ·obtain⟨k0,g1,g2,g3⟩:=oZ (scope:=scope) q
     rcases g3 with rfl|⟨_,z⟩
     ·exact absurd g1 (S.pU x hx).1
     ·cases z
    ·obtain⟨k0,_,g2,g3⟩:=oZ (scope:=scope) q
     rcases g3 with rfl|⟨rfl,_⟩
     ·exact absurd g2 (S.pU x hx).2
     ·exact g2
    ·obtain⟨k0,_,g2,g3⟩:=oZ (scope:=scope) q
     rcases g3 with rfl|⟨_,z⟩
     ·exact g2
     ·cases z
   have hc:X.env.kindOf x=some .cell:=S.cell _ fr rfl;obtain⟨m,_,hl⟩:=I.loc;obtain⟨u,ru,lk⟩:=hl j x v e1 e2 (.inr (.inl hc));refine⟨u,ru,?_⟩;rcases lk with⟨z,_⟩|⟨_,c,ec,ic⟩
   ·rw[hc]at z;cases z
   ·have k3:(B5 scope X.env).names.lookup x=some .cell\/(B5 scope X.env).names.lookup x=some .free:=by
     rcases h3' with q|q|q
     ·obtain⟨k0,g1,g2,g3⟩:=oZ (scope:=scope) q
      rcases g3 with rfl|⟨_,z⟩
      ·exact absurd g1 (S.pU x hx).1
      ·cases z
     ·exact .inl q
     ·exact .inr q
    obtain⟨c',vP⟩:=tX (sd (names:=scope.names) (acc:=[]) ec fr);have e3:=cl x c' vP;rw[ec]at e3;cases e3;obtain⟨oc,g1,g2⟩:=ic;have no:(iJ s.heap.objs.size scope).lookup x=none:=zjh fun p hp z=>(S.pU x hx).2 (by rw[<- z];exact vD _ _ _ hp);exact .inr ⟨k3,c,(zjg no).trans vP,oc,hk _ _ g1,g2⟩
 ·rcases al x c e with a1|⟨_,a1⟩
  ·exact⟨none,(own x c a1).1⟩
  ·obtain⟨v,oc,g1,g2⟩:=I.cell x c a1
   exact⟨v,oc,hk _ _ g1,g2⟩
 ·rcases al x c e with a1|⟨_,a1⟩
  ·exact I.au.fresh (Df (own x c a1).2.1)
  ·exact I.fL x c a1
 ·show(eO L.length ix σ).length=(L++gG X ix).length
  unfold eO gG;simp
end
theorem zsL
  (hQ:∀ h',h'.Ns s.heap.objs.size (fun _=>none)->(∀ b u,s.heap.get? b=some u->h'.get? b=some u)->CellsOk h' (s.heap.objs.size+1) (iJ s.heap.objs.size scope) ->
   Q { scope:=scope,locals:=s.heap.objs.size,globals:=globals,cells:=iJ s.heap.objs.size scope++cl,qual:=qual,func:=none,code:=outer.code,frame:=outer.frame,builtins:=outer.builtins } { s with heap:=h' }) :
  yj M A (newFunctionEnv scope globals cl [] qual none .none (some outer)) Q E s:=by
 simp only[newFunctionEnv,F6,if_true];refine yg (wpAny_alloc ?_);refine yg (wpAny_layCells _ (fun name kind cells=>by cases hkc:kind==Ai <;> simp[hkc]) _ _ _ _ ?_);have ok:=cellsFrom_ok scope.names (s.heap.push { cls:=.type "dict",data:=.dict #[] }) (s.heap.objs.size+1) [] ⟨fun _ _ hm=>(nomatch hm),FX⟩ (by rw[AK];exact yA _);rw[AK]at ok;rw[show({ s with heap:=s.heap.push { cls:=.type "dict",data:=.dict #[] } }:kb).heap.objs.size=s.heap.objs.size+1 from AK ..,nO];refine yg ?_;rw[DS];refine yt (yt ?_);exact hQ _ (zsW _ (Heap.Ns.new ..)) (fun b u e=>pushCells_keeps _ _ _ _ (yM _ e)) ok
abbrev Em:=gV->yC->zk CF->zk CF
noncomputable def zbF(elt:yh):Em:=fun acc env k=>do
 let _ <- (do
  let x <- yu elt env
  let _ <- call (.builtin "list.append") [acc,x]
  pure ())
 k
noncomputable def pZ(e:yh)(d:Nat)(iter:yh):Em:=fun acc env k=>do
 let x <- yu iter env
 AG iter.pos
 let x <- zI iter env x
 let it <- Ak [x] (pyIter x)
 let _ <- runOwn (Code.compStart e d it acc env) env
 k
noncomputable def zlb(e:yh)(d:Nat)(target iter:yh)(ifs:List yh)(em:Em)(it acc:gV)(env:yC):zk CF:=do
 AG iter.pos
 let r <- AH it
 match r with
 | none=>pure (.done .next)
 | some v=>do
  Du target it v
  Au target env v
  let ok <- forIn ifs true fun c r=>if r=true then do let ok <- isTrue c env (yu c env);pure (CC ok) else pure (CC r)
  if ok=true then em acc env (again (.compLoop e d it acc env))
  else again (.compLoop e d it acc env)
structure Ck(e:yh)(d:Nat)(tg iter:yh)(ifs:List yh)(em:Em):Prop where
 cl:(clausesOf e)[d]?=some ⟨tg,iter,ifs,0⟩
 tn:∀(it acc:gV) (env:yC),compTurn e d it acc env=zlb e d tg iter ifs em it acc env
 dl:∀(P:yw) (w:yv) (it acc:gV) (env:yC),(ym P w).den (.compLoop e d it acc env)=(compTurn e d it acc env).onRaise (fun x=>do CD x env;theTreesLotGoes x):=by exact fun _ _ _ _ _=>rfl
 ds:∀(P:yw) (w:yv) (it acc:gV) (env:yC),(ym P w).den (.compStart e d it acc env)=(compStart e d it acc env).onRaise (fun x=>do CD x env;AG theWindowsPlace):=by exact fun _ _ _ _ _=>rfl
 ul:∀(A:yy) (it acc:gV) (env:yC),A.under (.compLoop e d it acc env)=A:=by exact fun _ _ _ _=>rfl
 us:∀(A:yy) (it acc:gV) (env:yC),A.under (.compStart e d it acc env)=A:=by exact fun _ _ _ _=>rfl
theorem zkX{R:Result->kb->Prop}{it acc:gV}(k:Ck e d tg iter ifs em)
  (h0:Aw (ym prog w) A (.compLoop e d it acc env) R s)
  (h:yj (ym prog w) A (pyIter it) (fun it' s'=>Aw (ym prog w) A (.compLoop e d it' acc env) R s') (notedBy (ym prog w) A env fun x s'=>R (.error x) s') s) :
  Aw (ym prog w) A (.compStart e d it acc env) R s:=by
 refine codeAny_of_tree ?_;rw[k.ds,k.us];refine wpAny_notedAt ?_;unfold compStart;rw[k.cl];show yj _ _ (ask >>= _) _ _ s;refine yg (wpAny_askSetting (wpAny_ite ?_))
 split
 ·exact yg (yt (yt ⟨rfl,h0⟩))
 ·refine yg (Bz ?_)
  show yj _ _ (AG iter.pos >>= _) _ _ s;exact yg (Bo (yg (zo h (fun it' s' h'=>yt ⟨rfl,h'⟩) fun _ _ x=>x)))
abbrev TU:=dm->St->Hp->(Hp->Prop)->Prop
def PU(X:Cx)(em:Em)(tu:TU):Prop:=∀(pins:List (dm×yp)) (s:kb) (σ:St) (H:Hp) (l:dm) (Q:Hp->Prop) (k:zk CF) (P:CF->kb->Prop) (E:gV->kb->Prop),Inv X pins σ H s->tu l σ H Q ->
 (∀ s' H',Inv X pins σ H' s'->Q H'->yj (ym X.prog X.w) X.A k P E s')->yj (ym X.prog X.w) X.A (em (.ref l) X.env k) P E s
def xT(te:TE):TU:=fun l σ H Q=>te σ H fun v H6=>∃ ys,H6 l=some (.lst ys)/\ys.length<yz/\Q (upd H6 l (.lst (ys++[v])))
def xQ(J:It)(g:TG)(tc:TT)(tu:TU)(l:dm)(σ:St)(Q:Hp->Prop)(W:Nat->Nat->Hp->Prop):Prop:=∀ i m H2,W i m H2 ->
 ((J.stop i H2/\Q H2)\/(J.go i H2/\∀ x H3,J.ya i H2 x H3->g x σ H3 fun σ2 H4=>tc σ2 H4 fun b H5 =>
   if b=true then tu l σ2 H5 fun H6=>∃ m',m'<m/\W (i+1) m' H6 else ∃ m',m'<m/\W (i+1) m' H5))
noncomputable def xU(k:Nat)(wi:TI)(g:TG)(tc:TT)(tu:TU):TU:=fun l σ H Q=>(∀ j,j<k->σ[j]?=some none)/\wi σ H fun J H1=>∃ W:Nat->Nat->Hp->Prop,(∃ m,W 0 m H1)/\xQ J g tc tu l σ Q W
def pf(o0:HO)(k:Nat)(ix:List Nat)(wi:TI)(g:TG)(tc:TT)(tu:TU):TE:=fun σ H Q=>wi σ H fun J H1=>∀ l,H1 l=none ->
 ∃ W:Nat->Nat->Hp->Prop,(∃ m,W 0 m (upd H1 l o0))/\xQ J g tc tu l (eO k ix σ) (fun H2=>Q (.ref l) H2) W
abbrev zfs(k:Nat)(ix:List Nat)(wi:TI)(g:TG)(tc:TT)(tu:TU):TE:=pf (.lst []) k ix wi g tc tu
abbrev zfr(k:Nat)(ix:List Nat)(wi:TI)(g:TG)(tc:TT)(te:TE):TE:=zfs k ix wi g tc (xT te)
section
theorem zeG(hx:X.xe=fun _ _=>False)(he:PE X elt te):PU X (zbF elt) (xT te):=by
 intro pins s σ H l Q k P E I h hk;unfold zbF;refine yg (yg (zo (he pins s σ H _ I h) (fun xv s1 ⟨v,H1,I1,r1,ys,hl,hz,q⟩=>?_) fun _ _ f=>by rw[hx]at f;exact f.elim));refine yg (zo (zsE (X:=X) _ s1 σ H1 (.ref l) [v] (.ref l) [xv] (fun _ Hq=>Hq=upd H1 l (.lst (ys++[v]))) I1 rfl (.cons r1 .nil) ⟨l,ys,v,rfl,rfl,hl,hz,rfl⟩) (fun _ s2 ⟨_,H2,I2,_,e2⟩=>?_) fun _ _ f=>by rw[hx]at f;exact f.elim);subst e2;exact yt (hk s2 _ I2 q)
theorem turns{Q:Hp->Prop}{R:Result->kb->Prop}
  (k:Ck e d tg iter ifs em)(hx:X.xe=fun _ _=>False)(hc:X.calm=true)(hσ:∀ j,j<k2->∀ v,σ[j]?≠some (some v))(T:Turn X.prog X.w X.K tg J fp it tn)(stat:∀{H':Hp},(∀ b∈fp,H' b=none)->∀ b∈fp,fT X pins H' b)
  (hg:PG X tg g)(bP:jL k2 g)(ht:gu X ifs tc)(hu:PU X em tu)(turn:xQ J g tc tu l σ Q W)(stop:∀ H' s',Inv X pins σ H' s'->Q H'->R (.ok .next) s')
  (I:Inv X pins σ H s)(st:tn 0 s.heap)(fr:∀ b∈fp,H b=none)(w0:W 0 m0 H) :
  Aw (ym X.prog X.w) X.A (.compLoop e d (.ref it) (.ref l) X.env) R s:=by
 refine codeAny_loop rfl (fun n s'=>∃ i H',Inv X pins σ H' s'/\tn i s'.heap/\(∀ b∈fp,H' b=none)/\W i n H') (fun n s6 ⟨i,H6,I6,jE,fr6,w6⟩=>?_) m0 ⟨0,H,I,st,fr,w0⟩;rw[k.dl,k.ul];refine wpAny_noted ?_;rw[k.tn];unfold zlb;refine yg (Bo (yg ?_));rcases turn i n H6 w6 with⟨sp,qe⟩|⟨go,step⟩
 ·refine zo (T.done X rfl rfl rfl hc i pins s6 _ H6 (fun _ _=>False) I6 (stat fr6) jE sp) (fun r s7 hr7=>?_) fun _ _ f=>f.elim
  obtain⟨hr,I7⟩:=hr7;subst hr;exact yt (stop H6 s7 I7 qe)
 ·refine zo (T.item X rfl rfl rfl hc i pins s6 _ H6 (fun _ _=>False) I6 (stat fr6) jE go) (fun r s7 hr7=>?_) fun _ _ f=>f.elim
  obtain⟨u,hr,h7⟩:=hr7;subst hr;refine yg (zo h7 (fun _ s8 hr8=>?_) fun _ _ f=>f.elim);obtain⟨x,H8,I8,r8,y8,st8,fr8⟩:=hr8;have I8':=I8.pinned (stat fr8) (T.obj _ _ st8);have stp:=bP _ _ _ _ (step x H8 y8);refine yg (zo (hg _ s8 _ H8 x u _ I8' r8 stp) (fun _ s9 ⟨σ9,H9,I9,⟨k1,k2'⟩,q9⟩=>?_) fun _ _ f=>by rw[hx]at f;exact f.elim);have weak:∀{Hz:Hp} {sz:kb},Inv X (pins++uj fp s8.heap) σ9 Hz sz->Inv X pins σ Hz sz/\tn (i+1) sz.heap/\∀ b∈fp,Hz b=none:=fun{Hz sz} Iz=>by
   refine⟨Iz.xZ.weak k1.symm fun j v e=>?_,T.keep _ _ _ st8 fun b hb o e=>(Iz.pin (b,o) (AI _ (AI _ (wG hb e)))).1,fun b hb=>?_⟩
   ·by_cases hj:k2<=j
    ·rw[k2' j hj];exact e
    ·exact absurd e (hσ j (Nat.lt_of_not_le hj) v)
   ·obtain⟨o,e,d⟩:=T.obj _ _ st8 b hb
    exact(Iz.pin (b,o) (AI _ (AI _ (wG hb e)))).2.1
  refine yg (zo (ht _ s9 σ9 H9 _ I9 q9) (fun ok s10 ⟨H10,I10,q10⟩=>?_) fun _ _ f=>by rw[hx]at f;exact f.elim);cases ok with
  | false =>
   have q10':∃ m',m'<n/\W (i+1) m' H10:=q10;obtain⟨m',lS,w10⟩:=q10';obtain⟨z1,z2,z3⟩:=weak I10;exact yt ⟨rfl,m',lS,i+1,H10,z1,z2,z3,w10⟩
  | true =>
   refine hu _ s10 σ9 H10 l _ _ _ _ I10 q10 fun s' H' Iz ⟨m',lS,w11⟩=>?_;obtain⟨z1,z2,z3⟩:=weak Iz;exact yt ⟨rfl,m',lS,i+1,H',z1,z2,z3,w11⟩
theorem zkh(k:Ck e d tg iter ifs em)(hx:X.xe=fun _ _=>False)(hc:X.calm=true)(hi:PI X tg iter wi)(hg:PG X tg g)(bP:jL k2 g)(ht:gu X ifs tc)
  (hu:PU X em tu)(hs:∀ x,zI iter X.env x=pure x:=by intro _;rfl):PU X (pZ e d iter) (xU k2 wi g tc tu):=by
 intro pins s σ H l Q K P E I ⟨hσ,h⟩ hk;unfold pZ;refine yg (zo (hi pins s σ H _ I h) (fun xv s1 h1=>yg (Bo ?_)) fun _ _ f=>by rw[hx]at f;exact f.elim);rw[hs];refine yg (yt (yg (zH (zo h1 (fun wy s2 h2=>?_) fun _ _ f=>by rw[hx]at f;exact f.elim))));obtain⟨it,fp,tn,J,H2,rfl,I2,T,cg,f2,W,⟨m0,w0⟩,turn⟩:=h2;have key:∀ s5:kb,s5=s2->Aw (ym X.prog X.w) X.A (.compLoop e d (.ref it) (.ref l) X.env)
   (fun r s'=>match r with | .ok f=>yj (ym X.prog X.w) X.A K P E s' | .error e=>cameBackBy (ym X.prog X.w) X.A X.env E e s') s5:=by
  rintro s5 rfl;exact turns k hx hc (fun j hj v z=>by rw[hσ j hj]at z;cases z) T (fun hn b hb=>⟨hn b hb,(f2 b hb).2⟩) hg bP ht hu turn (fun H' s' I' q=>hk s' H' I' q) I2 cg (fun b hb=>(f2 b hb).1) w0
 exact yg (wpAny_runOwn (h:=none) (zkX k (key _ rfl) (T.self _ 0 _ _ _ cg (key _ rfl))))
structure Kd(X:Cx)(nw:zk gV)(ob:yp)(o0:HO):Prop where
 nw:∀{s:kb} {Q:gV->kb->Prop} {E:gV->kb->Prop},Q (.ref s.heap.objs.size) { s with heap:=s.heap.push ob,toks:=s.toks }->yj (ym X.prog X.w) X.A nw Q E s
 ld:∀{pins:List (dm×yp)} {σ:St} {H:Hp} {s:kb},Inv X pins σ H s->Inv X pins σ (upd H s.heap.objs.size o0) { s with heap:=s.heap.push ob,toks:=s.toks }
theorem kdL:Kd X (newList []) { cls:=.type "list",data:=.seq ([]:List gV).toArray } (.lst []) :=
 ⟨fun q=>Al q (by show 0<=yz;exact zJ _),fun{_ _ _ s} I=>I.laid (t':=s.toks) (fun b u e=>yM _ e) (yA _) ⟨by simp,[],0,.nil,y9 _ rfl⟩⟩
theorem zhR{nw:zk gV}
  {Q:VK}(k:Ck e 0 tg iter ifs em)(kd:Kd X nw ob o0)(oj:clausesOf e=⟨tg,iter,ifs,0⟩::gs)(hc:X.calm=true)(S:zaa X scope (gG X ix))(ou:∀ i∈ix,i<X.N.length)(hi:PI X tg iter wi)
  (hg:∀ C s₃ H₃ fp,PG (bo X (L++gG X ix) scope C s₃ H₃ fp) tg g)(bP:jL L.length g)
  (ht:∀ C s₃ H₃ fp,gu (bo X (L++gG X ix) scope C s₃ H₃ fp) ifs tc)(he:∀ C s₃ H₃ fp,PU (bo X (L++gG X ix) scope C s₃ H₃ fp) em tu)
  (hs:∀ x,zI iter X.env x=pure x)(I:Inv X pins σ H s)(h:pf o0 L.length ix wi g tc tu σ H Q)
  (hf:∀ D C m H' s',s'.heap.Ns C m->fT X pins H' C->(∀ h',By C s'.heap h'->Inv X pins σ H' { s' with heap:=h' })->Q (.ref D) H'->compPost (ym X.prog X.w) X.A X.xe use Post (.ref D) C (.ok .next) s') :
  yj (ym X.prog X.w) X.A (E8 e scope X.env pos nw false (yu iter X.env) use) Post X.xe s:=by
 refine wpAny_comprehension_free (use:=use) oj hs (znl fun y hy e=>I.ok.has y.1 (.inl (S.cell y hy e))) S.kind S.loc (aI (hi pins s σ H _ I h) fun xv s1 h1=>aI h1 fun wy s2 h2=>?_);obtain⟨it,fp,tn,J,H2,rfl,I2,T,cg,f2,q⟩:=h2;have nD:H2 s2.heap.objs.size=none:=I2.au.fresh (yA _);obtain⟨W,⟨m0,w0⟩,turn⟩:=q _ nD;have I3:=kd.ld I2;refine kd.nw (zsL (fun h₁ zcK zcP zcd=>?_));generalize hD:s2.heap.objs.size=D at nD w0 turn I3;have fD:∀ b∈fp,b<D:=fun b hb=>by
  obtain⟨o,e,_⟩:=T.obj _ _ cg b hb;rw[<- hD];exact yE e
 have o9:tn 0 (s2.heap.push ob):=T.keep _ _ _ cg fun b hb o e=>yM _ e;generalize hp3:s2.heap.push ob=h3 at I3 o9 zcK zcP zcd;dsimp only at zcK zcP zcd ⊢;have sz3:h3.objs.size=D+1:=by rw[<- hp3,AK,hD]
 have old:∀ b u,h3.get? b=some u->h₁.get? b=some u:=fun b u e=>zcP b u e;have f3:∀ b∈fp,fT X pins (upd H2 D o0) b:=fun b hb=>⟨by rw[aN (yX (fD b hb))];exact(f2 b hb).1,(f2 b hb).2⟩;have I4:=zpV (L:=L) (ix:=ix) (t':=s2.toks) S I3 f3 (fun b hb=>by show b<h3.objs.size;rw[sz3];exact E9 (fD b hb)) ou (h':=h₁) zcK old zcd;have xN:tn 0 h₁:=T.keep _ _ _ o9 fun b hb o e=>old b o e;generalize hC:(bo X (L++gG X ix) scope h3.objs.size { s2 with heap:=h3,toks:=s2.toks } (upd H2 D o0) fp)=Y at I4;have zie:Y.env=compEnvC scope (iJ h3.objs.size scope++fj X.env.cells scope.names []) h3.objs.size X.env:=by rw[<- hC];rfl
 have eP:Y.prog=X.prog:=by rw[<- hC];rfl
 have eW:Y.w=X.w:=by rw[<- hC];rfl
 have eK:Y.K=X.K:=by rw[<- hC];rfl
 have eA:Y.A=X.A:=by rw[<- hC];rfl
 have key:∀ s5:kb,s5={ s2 with heap:=h₁,toks:=s2.toks } ->
   Aw (ym X.prog X.w) X.A (.compLoop e 0 (.ref it) (.ref D) (compEnvC scope (iJ h3.objs.size scope++fj X.env.cells scope.names []) h3.objs.size X.env))
    (compPost (ym X.prog X.w) X.A X.xe use Post (.ref D) h3.objs.size) s5:=by
  rintro s5 rfl;rw[<- zie,<- eP,<- eW,<- eA];refine turns (k2:=L.length) k (by rw[<- hC];rfl) (by rw[<- hC];exact hc) (fun j hj v z=>?_) (by rw[eP,eW,eK];exact T) (fun{H'} hn b hb=>?_) (by rw[<- hC];exact hg _ _ _ _) bP (by rw[<- hC];exact ht _ _ _ _) (by rw[<- hC];exact he _ _ _ _) turn (fun H' s' J' qe=>?_) I4 xN (fun b hb=>(f3 b hb).1) w0
  ·unfold eO at z
   rw[zK (by simpa using hj),Aa,if_pos hj]at z;cases z
  ·have z1:b∈Y.ex:=by rw[<- hC];exact hb
   have zp:Y.pn=[]:=by rw[<- hC];rfl
   refine⟨hn b hb,(I4.ok.nW b z1).1,I4.ok.lN b z1,.inl z1,(I4.ok.nW b z1).2,fun p hp=>?_⟩;rw[zp]at hp;exact absurd hp (by simp)
  ·rw[eP,eW,eA]
   obtain⟨m,hm,_⟩:=J'.loc;have eh:=J'.free;rw[zie]at hm eh;have eh:H' h3.objs.size=none:=eh;refine hf D _ m H' s' hm (I3.kH (yA _) eh) (fun h' sb=>?_) qe;have kR:∀ b u,H' b=some u->b≠h3.objs.size:=fun b u e z=>by rw[z,eh]at e;cases e
   have base:Un (dR X.stack) fp (upd H2 D o0) H' h3 s'.heap:=by
    have:=J'.base;rw[<- hC]at this;exact this
   have to':∀ b o,b≠h3.objs.size->s'.heap.get? b=some o->h'.get? b=some o:=fun b o hb e=>sb.extBut b o hb e;have ju:∀ b o,h3.get? b=some o->b≠h3.objs.size:=fun b o e=>yX (yE e);have un:Un (dR X.stack) fp (upd H2 D o0) H' h3 h' :=
    ⟨fun b o e n hb hx=>to' b o (ju b o e) (base.keep b o e n hb hx),
     fun b o e n hb hx=>by
     obtain⟨sl,z⟩:=base.slot b o e n hb hx;exact⟨sl,to' _ _ (ju b o e) z⟩,
     base.free,
     fun b o e hx=>by
     obtain⟨o',z⟩:=base.there b o e hx;exact⟨o',to' _ _ (ju b o e) z⟩,
     base.gq,base.gw,base.gO⟩
   have au:cB X.prog X.w H' h':=fun b u e=>by
    have z:=J'.au b u e;rw[eP,eW]at z;refine z.jh (fun c v hcv qv=>to' c v ?_ qv) (fun _ qq=>qq) fun _ _ qq=>qq;rcases hcv with zz|zz
    ·rw[zz];exact kR b u e
    ·exact kR c _ zz
   refine I3.zaV (s':={ s' with heap:=h' }) (ch:=fp) ?_ un au J'.bare fun b hb=>?_
   ·have:=J'.os
    rw[<- hC]at this;exact this
   ·obtain⟨_,g1,g2,g3,g4,g5⟩:=f2 b hb
    exact⟨g3,g1,g4,g5⟩
 exact zkX k (key _ rfl) (T.self _ 0 _ _ _ xN (key _ rfl))
noncomputable def gR(sc scope:yT)(N:List ir)(ix:List Nat):Bool :=
 (scope.names.all fun y=>(y.2 != .free||sc.names.lookup y.1==some .cell)&&(y.2 != .local||scope.names.lookup y.1==some .local)&&(y.2 != .free||!(scope.names.contains (y.1,Ai)))) &&
 ((ix.map fun i=>N.getD i "").all fun x=>scope.names.lookup x != some .local&&!(scope.names.contains (x,Ai)))&&ix.all (fun i=>decide (i<N.length))
theorem okC(hk:scope.kind=.function)(hd:gR X.env.scope scope X.N ix=true):zaa X scope (gG X ix)/\∀ i∈ix,i<X.N.length:=by
 unfold gR at hd;simp only[zf,zR,bne_iff_ne,ne_eq,D1,beq_iff_eq,decide_eq_true_eq,Bool.not_eq_true',List.contains_eq_mem,decide_eq_false_iff_not]at hd;obtain⟨⟨d1,d2⟩,d3⟩:=hd;exact⟨⟨hk,fun y hy e=>(d1 y hy).1.1.resolve_left fun z=>z e,fun y hy e=>(d1 y hy).1.2.resolve_left fun z=>z e,fun x hx=>d2 x (by unfold gG at hx;exact hx),fun y hy e=>(d1 y hy).2.resolve_left fun z=>z e⟩,d3⟩
theorem zjW{nw:zk gV}(L:List ir)(ix:List Nat)(M:List ir)
  (ev:yu e X.env=E8 e scope X.env pos nw false (yu iter X.env))(k:Ck e 0 tg iter ifs em)(kd:Kd X nw ob o0)(oj:clausesOf e=⟨tg,iter,ifs,0⟩::gs)(hc:X.calm=true)(hk:scope.kind=.function)
  (hd:gR X.env.scope scope X.N ix=true)(hM:M=L++ix.map fun i=>X.N.getD i "") (hi:PI X tg iter wi)
  (hg:∀ C s₃ H₃ fp,PG (bo X M scope C s₃ H₃ fp) tg g) (bP:jL L.length g)
  (ht:∀ C s₃ H₃ fp,gu (bo X M scope C s₃ H₃ fp) ifs tc) (he:∀ C s₃ H₃ fp,PU (bo X M scope C s₃ H₃ fp) em tu)
  (hs:∀ x,zI iter X.env x=pure x):PE X e (pf o0 L.length ix wi g tc tu):=by
 intro pins s σ H Q I h;rw[ev];subst hM;obtain⟨S,ou⟩:=okC hk hd;exact zhR k kd oj hc S ou hi hg bP ht he hs I h fun D C m H' s' hm _ mk q=>⟨m,hm,fun h' sb=>⟨.ref D,H',mk h' sb,rfl,q⟩⟩
end
end
variable {Q:gV->kb->Prop}
section
section
theorem ztQ(L:List ir)(ix:List Nat)(M:List ir)(hc:X.calm=true)(hk:scope.kind=.function)
  (hd:gR X.env.scope scope X.N ix=true)(hM:M=L++ix.map fun i=>X.N.getD i "") (hi:PI X tg iter wi)
  (hg:∀ C s₃ H₃ fp,PG (bo X M scope C s₃ H₃ fp) tg g) (bP:jL L.length g)
  (ht:∀ C s₃ H₃ fp,gu (bo X M scope C s₃ H₃ fp) ifs tc) (he:∀ C s₃ H₃ fp,PE (bo X M scope C s₃ H₃ fp) elt te)
  (hs:∀ x,zI iter X.env x=pure x:=by intro _;rfl) :
  PE X (.ListComp elt [⟨tg,iter,ifs,0⟩] scope pos) (zfr L.length ix wi g tc te):=by
 exact zjW L ix M rfl { cl:=rfl,tn:=fun _ _ _=>compTurn_list .. } kdL rfl hc hk hd hM hi hg bP ht (fun C s₃ H₃ fp=>zeG rfl (he C s₃ H₃ fp)) hs
end
end
section
end
variable {hZ:yn}{x0:ir}
section
section
theorem zkb{nw:zk gV}(i0:Nat)(L:List ir)(ix:List Nat)(M:List ir)(hN:X.N.Nodup)(kK:X.N[i0]?=some x0)(j6:X.env.scope.names.lookup x0=some .local)
  (jr:zB e (some (.Name x0 pos')) hZ.line X.env=pure true)(ev:evalThenUse e X.env (Au (.Name x0 pos') X.env)=(do let _ <- E8 e scope X.env pos nw false (yu iter X.env) (some (Au (.Name x0 pos') X.env))))
  (k:Ck e 0 tg iter ifs em)(kd:Kd X nw ob o0)(oj:clausesOf e=⟨tg,iter,ifs,0⟩::gs)(hc:X.calm=true)(hk:scope.kind=.function)
  (hd:gR X.env.scope scope X.N ix=true)(hM:M=L++ix.map fun i=>X.N.getD i "") (hi:PI X tg iter wi)
  (hg:∀ C s₃ H₃ fp,PG (bo X M scope C s₃ H₃ fp) tg g) (bP:jL L.length g)
  (ht:∀ C s₃ H₃ fp,gu (bo X M scope C s₃ H₃ fp) ifs tc) (he:∀ C s₃ H₃ fp,PU (bo X M scope C s₃ H₃ fp) em tu)
  (hs:∀ x,zI iter X.env x=pure x):PS X (.Assign [.Name x0 pos'] e hZ) (qR (pf o0 L.length ix wi g tc tu) (qd i0)):=by
 intro pins s σ H Dn I h;have h:pf o0 L.length ix wi g tc tu σ H (fun v H1=>Dn.nx (σ.set i0 (some v)) H1):=h;rw[exec_Assign_Name_used _ _ _ _ jr,ev];subst hM;obtain⟨S,ou⟩:=okC hk hd;refine yg (Bo (yg (yg (zo (zhR (use:=some (Au (.Name x0 pos') X.env)) (Post:=fun _ s'=>SP X pins Dn .next s') k kd oj hc S ou hi hg bP ht he hs I h fun D C m H' s' hm fo mk qe=>?_) (fun _ s' hq=>yt (yt hq)) fun _ _ e=>e))));show yj _ _ (Au (.Name x0 pos') X.env (.ref D)) _ _ s';refine wpAny_assign_Name (zkY (v:=.ref D) (mk s'.heap (F3 ..)) hN kK (.inl j6) rfl (fun gM I6 hh=>?_) (.inr j6));obtain⟨a6,sb6,ha6⟩:=hh;have kR:a6≠C:=by
  rcases ha6 with z|z
  ·rw[z];exact zq fo.2.1
  ·exact fo.2.2.2.2.1 x0 a6 z
 refine⟨m,hm.sameBut sb6 (zq kR),fun gU sb2=>⟨_,H',?_,qe⟩⟩;refine Inv.qW (t':=gM.toks) (fp:=[C]) I6 (fun b o hb e=>sb2.extBut b o (by simpa using hb) e) fun b hb=>?_;have e:b=C:=by simpa using hb
 subst e;exact fo
theorem zuE(i0:Nat)(L:List ir)(ix:List Nat)(M:List ir)(hN:X.N.Nodup)(kK:X.N[i0]?=some x0)(j6:X.env.scope.names.lookup x0=some .local)
  (jr:zB (.ListComp elt [⟨tg,iter,ifs,0⟩] scope pos) (some (.Name x0 pos')) hZ.line X.env=pure true)(hc:X.calm=true)(hk:scope.kind=.function)
  (hd:gR X.env.scope scope X.N ix=true)(hM:M=L++ix.map fun i=>X.N.getD i "") (hi:PI X tg iter wi)
  (hg:∀ C s₃ H₃ fp,PG (bo X M scope C s₃ H₃ fp) tg g) (bP:jL L.length g)
  (ht:∀ C s₃ H₃ fp,gu (bo X M scope C s₃ H₃ fp) ifs tc) (he:∀ C s₃ H₃ fp,PE (bo X M scope C s₃ H₃ fp) elt te)
  (hs:∀ x,zI iter X.env x=pure x:=by intro _;rfl) :
  PS X (.Assign [.Name x0 pos'] (.ListComp elt [⟨tg,iter,ifs,0⟩] scope pos) hZ) (qR (zfr L.length ix wi g tc te) (qd i0)):=by
 exact zkb i0 L ix M hN kK j6 jr rfl { cl:=rfl,tn:=fun _ _ _=>compTurn_list .. } kdL rfl hc hk hd hM hi hg bP ht (fun C s₃ H₃ fp=>zeG rfl (he C s₃ H₃ fp)) hs
end
end
section
end
variable {ks:List Key}{o:Option V}{ag:List (List Key×V)}{ob:HO}{κ:Type}{xs:List (List Key×dm×gV)}
section
section
variable [DecidableEq κ]
noncomputable def jG(ag:List (κ×V))(k:κ):Option V:=(ag.find? fun kv=>decide (kv.1=k)).map (·.2)
noncomputable def putK(ag:List (κ×V))(k:κ)(v:V):List (κ×V) :=
 if(ag.any fun kv=>decide (kv.1=k))=true then ag.map (fun kv=>if kv.1=k then(kv.1,v) else kv) else ag++[(k,v)]
theorem zfC{p:κ×V}{r:List (κ×V)}{k:κ}(e:p.1=k):jG (p::r) k=some p.2:=by simp[jG,CG,e]
theorem zfB{p:κ×V}{r:List (κ×V)}{k:κ}(e:¬ p.1=k):jG (p::r) k=jG r k:=by simp[jG,CG,e]
theorem zlk(k:κ):∀ ag:List (κ×V),(ag.any fun kv=>decide (kv.1=k))=(jG ag k).isSome
 | []=>rfl
 | p::r=>by
  rw[List.any_cons]
  by_cases e:p.1=k
  ·simp only[zfC e,decide_eq_true e,Bool.true_or,F6]
  ·rw[zfB e,decide_eq_false e,Bool.false_or];exact zlk k r
theorem zi7(ag:List (κ×V))(k:κ)(v:V):(putK ag k v).length<=ag.length+1:=by
 unfold putK
 split
 ·rw[za];omega
 ·rw[Br,yK,zx];omega
theorem gE.zcT{u:Option gV}(r:gE o u):o.isSome=u.isSome:=by
 cases o with
 | none=>cases u with
  | none=>rfl
  | some _=>exact(show False from r).elim
 | some _=>cases u with
  | none=>exact(show False from r).elim
  | some _=>rfl
end
theorem zqo(r:RelV (kV k) u):(gf P w).is k u=true:=by
 cases k with
 | inl i=>obtain⟨t,e⟩:=(show ∃ t,u=Bv i t from r);subst e;exact zsA P w i t
 | inr x=>obtain⟨t,e⟩:=(show ∃ t,u=Ce x t from r);subst e;exact zsB P w x t
theorem ziU{P:yw}{w:yv}:∀{ks:List Key} {us:List gV},Vals (ks.map kV) us->ItemsAre (gf P w) ks us
 | [],_,r=>by rw[DI]at r;cases r;exact .nil
 | k::ks,_,r=>by
  rw[zh]at r;cases r with
  | cons h t=>exact .cons (zqo h) (ziU t)
abbrev KT(H:Hp):List (List Key×V)->List (List Key×dm×gV)->Prop:=A9 fun p q=>p.1=q.1/\dB H q.2.1 (p.1.map kV)/\RelV p.2 q.2.2
theorem KT.val(r:KT H ag xs)(k:List Key):gE (jG ag k) ((A6 xs k).map (·.2)):=by
 induction r with
 | nil=>exact Bq
 | @cons p q ps qs h t ih =>
  obtain⟨h1,_,h2⟩:=h
  by_cases e:p.1=k
  ·have e':q.1=k:=h1.symm.trans e
   have b:A6 (q::qs) k=some q.2:=by simp[A6,CG,e']
   rw[zfC e,b];exact h2
  ·have e':¬ q.1=k:=fun z=>e (h1.trans z)
   have b:A6 (q::qs) k=A6 qs k:=by simp[A6,CG,e']
   rw[zfB e,b];exact ih
theorem KT.zwH(r:KT H ag xs)(k:List Key)(ry:RelV y u) :
  KT H (ag.map fun kv=>if kv.1=k then(kv.1,y) else kv) (xs.map (putAt k u)):=by
 induction r with
 | nil=>exact .nil
 | @cons p q ps qs h t ih =>
  rw[zh,zh];refine .cons ?_ ih;obtain⟨h1,h2,h3⟩:=h;unfold putAt
  by_cases e:p.1=k
  ·rw[if_pos e,if_pos (h1.symm.trans e)];exact⟨h1,h2,ry⟩
  ·rw[if_neg e,if_neg (fun z=>e (h1.trans z))];exact⟨h1,h2,h3⟩
theorem KT.put(r:KT H ag xs)(k:List Key)(hb:dB H b (k.map kV))(ry:RelV y u) :
  KT H (putK ag k y) (storedH xs k b u):=by
 have e:(ag.any fun kv=>decide (kv.1=k))=(A6 xs k).isSome:=by
  rw[zlk,(r.val k).zcT,Fb]
 unfold putK storedH;rw[e]
 by_cases q:(A6 xs k).isSome=true
 ·rw[if_pos q,if_pos q];exact r.zwH k ry
 ·rw[if_neg q,if_neg q];exact Paired.snoc r ⟨rfl,hb,ry⟩
theorem KT.keeps(r:KT H ag xs)(ht:∀ b ys,dB H b ys->dB H' b ys):KT H' ag xs :=
 A9.zdy r fun _ _ z=>⟨z.1,ht _ _ z.2.1,z.2.2⟩
section
theorem zwB{u:HO}(ok:cB P w H h)(e:Rd H a u):de P w H h a u:=e.ok ok
theorem lX(ok:cB P w H h)(e:dB H a (ks.map kV)):(AX (gf P w)).is h ks a:=by
 obtain⟨_,its,r,o,h1,h2,n,h3⟩:=(show de P w H h a (.tup (ks.map kV)) from Rd.ok e ok);exact⟨o,its.toArray,n,h1,h2,h3,by simpa using ziU r⟩
theorem sA(ok:cB P w H h)(e:Rd H a (.dT ag)):ag.length<=yz/\(a==AW)=false /\
  ∃ xs,KT H ag xs/\h.DictOfH (AX (gf P w)) a xs:=by
 obtain⟨z,y,xs,r,o,es,ep,h1,h2,h3,h4,h5⟩:=(show de P w H h a (.dT ag) from zwB ok e);refine⟨z,y,xs,r,o,es,ep,h1,h2,h3,h4,fun x hx=>?_,h5⟩;have all:∀{l:List (List Key×V)} {m:List (List Key×dm×gV)},KT H l m->∀ x∈m,(AX (gf P w)).is h x.1 x.2.1:=by
  intro l m q
  induction q with
  | nil=>intro x hx;exact nomatch hx
  | @cons p q ps qs hq t ih =>
   intro x hx;rcases yH.mp hx with e|hx
   ·subst e
    exact lX ok (by rw[<- hq.1];exact hq.2.1)
   ·exact ih x hx
 exact all r x hx
theorem zia(ok:cB P w H h)(e:H a=some (.dT ag)):ag.length<=yz/\(a==AW)=false /\
  ∃ xs,KT H ag xs/\h.DictOfH (AX (gf P w)) a xs:=sA ok (.inl e)
end
def uS(H:Hp)(a:dm)(y:V)(r:Option V):Prop :=
 ∃ ag k b,Rd H a (.dT ag)/\y=.ref b/\dB H b (k.map kV)/\r=jG ag k
def zab(H:Hp)(a:dm)(y v:V)(H':Hp):Prop :=
 ∃ ag k b,H a=some (.dT ag)/\y=.ref b/\dB H b (k.map kV)/\ag.length<yz/\H'=upd H a (.dT (putK ag k v))
section
variable {v:V}{r:gV}
theorem Inv.big(I:Inv X pins σ H s):AW<s.heap.objs.size:=by
 have h:yB<s.heap.objs.size:=(I.mod.glob.keeps I.bk).lt;exact Nat.lt_trans (by decide) h
theorem znN(hu:A.units+1<zb)(I:Inv X pins σ H s)(g:uS H a y (some v))(ry:RelV y u)(h:∀ w' s',Inv X pins σ H s'->RelV v w'->Q w' s') :
  yj (ym X.prog X.w) A (Bi (.ref a) u) Q E s:=by
 obtain⟨ag,k,b,e,ey,eb,l⟩:=g;subst ey;cases (show u=yS b from ry);obtain⟨z,hd,xs,rel,dd⟩:=sA I.au e;obtain⟨w',hw,iO⟩:=gE.some_of (v:=v) (o:=(A6 xs k).map (·.2)) (by rw[l];exact rel.val k);obtain⟨p,hp,tD⟩:=AA.mp hw;refine wpAny_getItem_heap (Dg hu) (lX I.au eb) dd hp ?_;rw[tD];exact h w' _ (I.tok _) iO
theorem znO(hu:A.units+1<zb)(I:Inv X pins σ H s)(g:uS H a y o)(ry:RelV y u)(h:∀ s',Inv X pins σ H s'->Q (.bool o.isSome) s') :
  yj (ym X.prog X.w) A (yG .In u (.ref a)) Q E s:=by
 obtain⟨ag,k,b,e,ey,eb,l⟩:=g;subst ey;cases (show u=yS b from ry);obtain⟨z,hd,xs,rel,dd⟩:=sA I.au e;refine wpAny_in_heap (Dg hu) (lX I.au eb) hd dd ?_;have q:=(rel.val k).zcT;rw[Fb]at q;rw[<- q,<- l];exact h _ (I.tok _)
theorem zh2(I:Inv X pins σ H s)(mu:rK (H a))(hs:By a s.heap h')(he:∃ q,h'.get? a=some q)(new:de X.prog X.w (upd H a ob) h' a ob) :
  Inv X pins σ (upd H a ob) { s with heap:=h',toks:=t' } :=
 I.write (x:=a) (e:=a) mu (.inl rfl) (fun b q hb z=>(hs.2 b hb).trans z) he new
theorem zn1{Q:Unit->kb->Prop}(hu:A.units+1<zb)(I:Inv X pins σ H s)(g:zab H a y v H')(ry:RelV y u)(rv:RelV v r)(h:∀ s',Inv X pins σ H' s'->Q () s') :
  yj (ym X.prog X.w) A (setItem (.ref a) u r) Q E s:=by
 obtain⟨ag,k,b,e,ey,eb,l,eH⟩:=g;subst ey eH;cases (show u=yS b from ry);obtain⟨z,hd,xs,rel,dd⟩:=zia I.au e;have hz:xs.length<=yz:=by rw[<- CU rel];exact z
 have hl:(putK ag k v).length<=yz:=by have:=zi7 ag k v;omega
 refine wpAny_setItem_heap (hsz:=hz) (Dg hu) (lX I.au eb) dd fun h' dd' hs=>h _ ?_;obtain⟨q,es,ep,hq,h2,h3,h4,_,h5⟩:=dd';refine zh2 I (by rw[e];exact Bq) hs ⟨q,hq⟩ ⟨hl,hd,_,(rel.put k eb rv).keeps fun c ys ec=>?_,q,es,ep,hq,h2,h3,h4,h5⟩;exact ec.upd (fun _ z=>wK z e (fun z=>nomatch z)) fun _ _ z=>wK z e (fun z=>nomatch z)
end
theorem zn9(I:Inv X pins σ H s)(g:uS H a y o):s.TypeIs (.ref a) "dict":=by
 obtain⟨ag,k,b,e,_,_,_⟩:=g;obtain⟨_,_,xs,_,dd⟩:=sA I.au e;exact dd.typeIs
theorem zh9(h:yo)(hb:AW<h.objs.size):de P w H (h.push { cls:=.type "dict",data:=.dict #[] }) h.objs.size (.dT []) :=
 ⟨zJ _,beq_eq_false_iff_ne.mpr (zq (yX hb)),[],.nil,_,#[],0,y9 _ rfl,⟨rfl,rfl,rfl⟩,rfl,rfl,List.nodup_nil⟩
def zxg:TE:=fun _ H Q=>∀ p,H p=none->Q (.ref p) (upd H p (.dT []))
section
theorem ztR:PE X (.Dict [] [] pos) zxg:=fun pins s σ H Q I h =>
 wpAny_Dict_empty ⟨.ref s.heap.objs.size,_,I.laid (a:=s.heap.objs.size) (o:=.dT []) (t':=s.toks) (fun _ _ q=>yM _ q) (yA _) (zh9 s.heap I.big),rfl,h _ (I.au.fresh (yA _))⟩
end
def uZ(H:Hp)(a:dm):Prop:=∃ ag,Rd H a (.dT ag)
end
section
end
section
end
section
end
section
end
section
end
section
theorem zll:∀{xs:List V} {us:List gV},xs.length=us.length->(∀(j:Nat) x u,xs[j]?=some x->us[j]?=some u->RelV x u)->Vals xs us
 | [],[],_,_=>.nil
 | x::xs,u::us,l,h=>.cons (h 0 x u rfl rfl) (zll (by simpa using l) fun j y v e1 e2=>h (j+1) y v (by simpa using e1) (by simpa using e2))
end
end L2
namespace Q1
variable {b p q r t:Int}
section
noncomputable def fr(t b:Int):Int×Int:=if b<0 then(t / -(yr t b:Int),b / -(yr t b:Int)) else(t / (yr t b:Int),b / (yr t b:Int))
structure gD(p q:Int):Prop where
 pos:0<q
 nP:yr p q=1
theorem sT(h:b≠0):0<(yr t b:Int):=by
 have:0<yr t b:=Fc _ h
 omega
theorem zoa:((yr t b:Nat):Int)∣t:=CH ..
theorem za7:((yr t b:Nat):Int)∣b:=B6 ..
theorem sg(h:b≠0):yr (t / (yr t b:Int)) (b / (yr t b:Int))=1:=by
 have hp:0<yr t b:=Fc _ h;exact Int.gcd_ediv_gcd_ediv_gcd hp
theorem zoW(h:b≠0):gD (fr t b).1 (fr t b).2:=by
 have hg:=sT (t:=t) h;have c:=sg (t:=t) h;unfold fr
 split
 ·rename_i hb
  refine⟨?_,?_⟩
  ·show 0<b / -(yr t b:Int)
   rw[Dh];have:=Ab (za7 (t:=t) (b:=b));have h1:b / (yr t b:Int)<0:=by
    rcases Fd (b / (yr t b:Int)) 0 with z|z|z
    ·exact z
    ·rw[z]at this;omega
    ·have:=CI z hg;omega
   omega
  ·show yr (t / -(yr t b:Int)) (b / -(yr t b:Int))=1
   rw[Dh,Dh,Int.gcd_neg,Int.neg_gcd];exact c
 ·rename_i hb
  refine⟨?_,c⟩;show 0<b / (yr t b:Int);have:=Ab (za7 (t:=t) (b:=b));rcases Fd (b / (yr t b:Int)) 0 with z|z|z
  ·have:=F7 z hg;omega
  ·rw[z]at this;omega
  ·exact z
theorem zoV(h:b≠0):(fr t b).1*b=t*(fr t b).2:=by
 have e1:=Ab (zoa (t:=t) (b:=b));have e2:=Ab (za7 (t:=t) (b:=b));have key:t / (yr t b:Int)*b=t*(b / (yr t b:Int)):=by
  calc t / (yr t b:Int)*b=t / (yr t b:Int)*(b / (yr t b:Int)*(yr t b:Int)):=by rw[e2]
   _=t / (yr t b:Int)*(yr t b:Int)*(b / (yr t b:Int)):=by rw[Bl,B7 (b / _)]
   _=t*(b / (yr t b:Int)):=by rw[e1]
 unfold fr
 split
 ·show t / -(yr t b:Int)*b=t*(b / -(yr t b:Int))
  rw[Dh,Dh,Int.neg_mul,Int.mul_neg,key]
 ·exact key
theorem sC(h:q∣p*r)(c:yr p q=1):q∣r:=by
 have h1:q.natAbs∣p.natAbs*r.natAbs:=by
  rw[<- B8];exact Fe.mpr h
 have c':Nat.Coprime q.natAbs p.natAbs:=by
  show CJ q.natAbs p.natAbs=1;rw[Ff];exact c
 exact Fe.mp (Nat.Coprime.dvd_of_dvd_mul_left c' h1)
theorem zse{p' q':Int}(a:gD p q)(b:gD p' q')(h:p*q'=p'*q):p=p'/\q=q':=by
 have d1:q∣q':=by
  have:q∣p*q':=⟨p',by rw[h,B7]⟩;exact sC this a.nP
 have d2:q'∣q:=by
  have:q'∣p'*q:=⟨p,by rw[<- h,B7]⟩;exact sC this b.nP
 have e:q=q':=Int.dvd_antisymm (Int.le_of_lt a.pos) (Int.le_of_lt b.pos) d1 d2;refine⟨?_,e⟩;subst e;exact F8 (B9 a.pos) h
theorem zio(hb:b≠0)(l:gD p q)(h:p*b=t*q):fr t b=(p,q):=by
 have e:=zoV (t:=t) hb;have l':=zoW (t:=t) hb;have:(fr t b).1*q=p*(fr t b).2:=by
  have h2:(fr t b).1*q*b=p*(fr t b).2*b:=by
   calc (fr t b).1*q*b=(fr t b).1*b*q:=by rw[Bl,B7 q,Bl]
    _=t*(fr t b).2*q:=by rw[e]
    _=t*q*(fr t b).2:=by rw[Bl,B7 (fr t b).2,Bl]
    _=p*b*(fr t b).2:=by rw[h]
    _=p*(fr t b).2*b:=by rw[Bl,B7 b,Bl]
  exact F8 hb h2
 obtain⟨a1,a2⟩:=zse l' l this;exact DE a1 a2
theorem ziq(h:0<b):fr t b=(t / (yr t b:Int),b / (yr t b:Int)):=by
 unfold fr;rw[if_neg (by omega)]
end
variable {a s:Int}
section
theorem gD.ne(l:gD p q):q≠0:=B9 l.pos
theorem gcd_one(h:∀ d:Int,d∣a->d∣b->d∣1):yr a b=1:=by
 have:=h (yr a b:Int) (CH ..) (B6 ..);have h2:(yr a b)∣1:=by
  have:=Fe.mpr this;simpa using this
 exact Nat.dvd_one.mp h2
theorem dvd_one{d:Int}(h:yr a b=1)(h1:d∣a)(h2:d∣b):d∣1:=by
 have:=Int.dvd_coe_gcd h1 h2;rw[h]at this;exact this
theorem zb1(h:yr a b=1):yr b a=1:=by rw[Int.gcd_comm];exact h
theorem gcd_mul{c:Int}(h1:yr a b=1)(h2:yr a c=1):yr a (b*c)=1:=by
 refine gcd_one fun d da db=>?_;have c1:yr b d=1:=gcd_one fun e e1 e2=>dvd_one h1 (Cb e2 da) e1;exact dvd_one h2 da (sC db c1)
theorem vX{a' b':Int}(h:yr a b=1)(h1:a'∣a)(h2:b'∣b):yr a' b'=1 :=
 gcd_one fun d da db=>dvd_one h (Cb da h1) (Cb db h2)
theorem vQ(h:b∣a):a / b∣a:=by
 obtain⟨c,rfl⟩:=h
 by_cases z:b=0
 ·subst z;simp
 ·rw[Int.mul_ediv_cancel_left _ z];exact⟨b,B7 _ _⟩
theorem uk(h:0<a*b)(hb:0<b):0<a:=by
 rcases Fd a 0 with z|z|z
 ·have:=F7 z hb;omega
 ·subst z;simp at h
 ·exact z
noncomputable def qC(p q r s:Int):Int×Int :=
 let g:=(yr q s:Int)
 let top:=p*(s / g)+r*(q / g)
 let e:=(yr top g:Int)
 (top / e,q / g*(s / e))
noncomputable def xR(p q r s:Int):Int×Int :=
 (p / (yr p s:Int)*(r / (yr r q:Int)),q / (yr r q:Int)*(s / (yr p s:Int)))
theorem zun{g m e top T G:Int}(l1:gD p q)(l2:gD r s)(g0:0<g)(e0:0<e)(hq:q=m*g)(hs:s=t*g)(hmt:yr m t=1)
  (ht:top=p*t+r*m)(hT:top=T*e)(hG:g=G*e)(hTG:yr T G=1):gD T (m*(t*G))/\T*(q*s)=(p*s+r*q)*(m*(t*G)):=by
 have hm:0<m:=uk (by rw[<- hq];exact l1.pos) g0;have htt:0<t:=uk (by rw[<- hs];exact l2.pos) g0;have hGG:0<G:=uk (by rw[<- hG];exact g0) e0;refine⟨⟨CI hm (CI htt hGG),?_⟩,?_⟩
 ·have dT:T∣top:=⟨e,hT⟩
  have c1:yr T m=1:=by
   refine gcd_one fun d da db=>?_;have h1:d∣p*t:=by
    have h2:d∣p*t+r*m:=by rw[<- ht];exact Cb da dT
    exact(Int.dvd_add_left (F9 db)).mp h2
   have h3:yr p d=1:=vX l1.nP (Int.dvd_refl _) (by rw[hq];exact Cb db (Int.dvd_mul_right ..));exact dvd_one hmt db (sC h1 h3)
  have c2:yr T t=1:=by
   refine gcd_one fun d da db=>?_;have h1:d∣r*m:=by
    have h2:d∣p*t+r*m:=by rw[<- ht];exact Cb da dT
    exact(Int.dvd_add_right (F9 db)).mp h2
   have h3:yr r d=1:=vX l2.nP (Int.dvd_refl _) (by rw[hs];exact Cb db (Int.dvd_mul_right ..));exact dvd_one hmt (sC h1 h3) db
  exact gcd_mul c1 (gcd_mul c2 hTG)
 ·have k1:p*s+r*q=top*g:=by
   rw[hq,hs,ht,Int.add_mul,Bl,Bl]
  rw[k1,hT,hq,hs];rw[show m*g*(t*g)=m*(t*G)*(e*g) by rw[show t*g=t*(G*e) by rw[hG]];ac_rfl]
  ac_rfl
theorem zuo(l1:gD p q)(l2:gD r s):qC p q r s=fr (p*s+r*q) (q*s):=by
 have g0:0<(yr q s:Int):=sT l2.ne;have d1:(yr q s:Int)∣q:=CH ..;have d2:(yr q s:Int)∣s:=B6 ..;have e0:0<(yr (p*(s / (yr q s:Int))+r*(q / (yr q s:Int))) (yr q s:Int):Int):=sT (B9 g0);have d3:=CH (a:=p*(s / (yr q s:Int))+r*(q / (yr q s:Int))) (b:=(yr q s:Int));have d4:=B6 (a:=p*(s / (yr q s:Int))+r*(q / (yr q s:Int))) (b:=(yr q s:Int));have core:=zun l1 l2 g0 e0 (Ab d1).symm (Ab d2).symm (sg l2.ne) rfl (Ab d3).symm (Ab d4).symm (sg (B9 g0));have e:qC p q r s=(_,_):=rfl;have hs:s / (yr (p*(s / (yr q s:Int))+r*(q / (yr q s:Int))) (yr q s:Int):Int)=s / (yr q s:Int)*((yr q s:Int) / (yr (p*(s / (yr q s:Int))+r*(q / (yr q s:Int))) (yr q s:Int):Int)):=by
  refine Int.ediv_eq_of_eq_mul_left (B9 e0) ?_;rw[Bl,Ab d4,Ab d2]
 symm
 refine zio (B9 (CI l1.pos l2.pos)) (p:=(qC p q r s).1) (q:=(qC p q r s).2) ?_ ?_
 ·have:(qC p q r s).2=_:=rfl
  rw[this];show gD _ (q / (yr q s:Int)*(s / _));rw[hs];exact core.1
 ·show _*(q*s)=_*(q / (yr q s:Int)*(s / _))
  rw[hs];exact core.2
theorem zxS(l1:gD p q)(l2:gD r s):xR p q r s=fr (p*r) (q*s):=by
 have m0:0<(yr p s:Int):=sT l2.ne;have i0:0<(yr r q:Int):=sT l1.ne;have a1:(yr p s:Int)∣p:=CH ..;have a2:(yr p s:Int)∣s:=B6 ..;have b1:(yr r q:Int)∣r:=CH ..;have b2:(yr r q:Int)∣q:=B6 ..
 symm
 refine zio (B9 (CI l1.pos l2.pos)) (p:=(xR p q r s).1) (q:=(xR p q r s).2) ⟨?_,?_⟩ ?_
 ·refine CI ?_ ?_
  ·exact uk (by rw[Ab b2];exact l1.pos) i0
  ·exact uk (by rw[Ab a2];exact l2.pos) m0
 ·show yr (p / _*(r / _)) (q / _*(s / _))=1
  have x1:yr (p / (yr p s:Int)) (q / (yr r q:Int))=1:=vX l1.nP (vQ a1) (vQ b2);have x2:yr (p / (yr p s:Int)) (s / (yr p s:Int))=1:=sg l2.ne;have x3:yr (r / (yr r q:Int)) (q / (yr r q:Int))=1:=sg l1.ne;have x4:yr (r / (yr r q:Int)) (s / (yr p s:Int))=1:=vX l2.nP (vQ b1) (vQ a2);exact zb1 (gcd_mul (zb1 (gcd_mul x1 x2)) (zb1 (gcd_mul x3 x4)))
 ·show p / (yr p s:Int)*(r / (yr r q:Int))*(q*s)=p*r*(q / (yr r q:Int)*(s / (yr p s:Int)))
  have y1:=Ab a1;have y2:=Ab a2;have y3:=Ab b1;have y4:=Ab b2;generalize (yr p s:Int)=m at *;generalize (yr r q:Int)=i at *;generalize p / m=P at *;generalize s / m=S at *;generalize r / i=R at *;generalize q / i=Q at *;rw[<- y1,<- y2,<- y3,<- y4]
  ac_rfl
end
end Q1
namespace QR
open Q1
variable {d m n:Nat}{r:Rat}{t:Int}
theorem low(r:Rat):gD r.num r.den:=⟨by have:=r.den_nz;omega,by
 have:=r.reduced;unfold Nat.Coprime at this;show CJ r.num.natAbs (r.den:Int).natAbs=1;simpa using this⟩
theorem zpb(t:Int)(d:Nat):(yr t (d:Int))=CJ t.natAbs d:=by
 show CJ t.natAbs (d:Int).natAbs=_;simp
theorem norm(h:d≠0):fr t (d:Int)=((D2 t d h).num,((D2 t d h).den:Int)):=by
 rw[ziq (by omega),Rat.normalize_eq,zpb];simp
theorem add(r s:Rat):fr (r.num*s.den+s.num*r.den) ((r.den:Int)*s.den)=((r+s).num,((r+s).den:Int)):=by
 rw[Rat.add_def,<- norm]
 congr 1
theorem mul(r s:Rat):fr (r.num*s.num) ((r.den:Int)*s.den)=((r*s).num,((r*s).den:Int)):=by
 rw[Rat.mul_def,<- norm]
 congr 1
def Bd(n:Nat)(r:Rat):Prop:=r.num.natAbs<2^n/\r.den<2^n
theorem Bd.mono(h:Bd n r)(k:n<=m):Bd m r:=⟨zu h.1 (Fg (by decide) k),zu h.2 (Fg (by decide) k)⟩
theorem zbP(t b:Int):(fr t b).1.natAbs<=t.natAbs/\(fr t b).2.natAbs<=b.natAbs:=by
 unfold fr
 split
 ·exact⟨Di _ _,Di _ _⟩
 ·exact⟨Di _ _,Di _ _⟩
theorem t8{a b:Nat}(h1:a<2^n)(h2:b<2^m):a*b<2^(n+m):=by
 rw[Nat.pow_add];exact Nat.mul_lt_mul'' h1 h2
theorem Bd.add{n m:Nat}{r s:Rat}(h:Bd n r)(k:Bd m s):Bd (n+m+1) (r+s):=by
 have e:=QR.add r s;have l:=zbP (r.num*s.den+s.num*r.den) ((r.den:Int)*s.den);rw[e]at l;simp only at l;have a1:r.num.natAbs*s.den<2^(n+m):=t8 h.1 k.2;have a2:s.num.natAbs*r.den<2^(n+m):=by rw[Dd,Dd];rw[EW];exact t8 k.1 h.2
 have a3:r.den*s.den<2^(n+m):=t8 h.2 k.2;have p2:2^(n+m+1)=2^(n+m)+2^(n+m):=by rw[Nat.pow_succ];omega
 refine⟨?_,?_⟩
 ·refine CB l.1 (CB (Int.natAbs_add_le _ _) ?_)
  rw[B8,B8,BD,BD,p2]
  omega
 ·have:=l.2
  rw[B8,BD,BD,BD]at this;rw[p2]
  omega
theorem Bd.mul{n m:Nat}{r s:Rat}(h:Bd n r)(k:Bd m s):Bd (n+m) (r*s):=by
 have e:=QR.mul r s;have l:=zbP (r.num*s.num) ((r.den:Int)*s.den);rw[e]at l;simp only at l;refine⟨?_,?_⟩
 ·refine CB l.1 ?_
  rw[B8];exact t8 h.1 k.1
 ·have:=l.2
  rw[B8,BD,BD,BD]at this;exact CB this (t8 h.2 k.2)
noncomputable def part(xs ys:List Rat):Nat->Rat
 | 0=>0
 | i+1=>part xs ys i+xs.getD i 0*ys.getD i 0
end QR
namespace KC
open PySem L2 PySem.Spec PyProof.Rows
section
namespace Bt
theorem isinstance:zj "isinstance"=some (.builtin "isinstance"):=by decide +kernel
end Bt
noncomputable def isInt:yI->Bool
 | .int _ | .bool _=>true|_=>false
noncomputable def cU(T c:String):Option Bool:=if(Cg T==Cg c)=true then some true else if PySem.W.kitMeta c=true then(fastBuiltinMro T).map (·.contains (.type c)) else none
end
section
end
section
end
end KC
namespace FL
variable {a b i:Nat}{α:Type}{c:Bool}
theorem zz0  {a:α}{l:List α}:(a::l)[0]?=some a:=rfl
theorem zz1  {a:α}{l:List α} :(a::l)[i + 1]?=l[i]?:=rfl
open PySem
abbrev D:=yI
inductive R(α:Type) where
 | bad
 | err(c:String)(fs:List D)
 | ok(a:α)
noncomputable def R.bind{α β:Type}(r:R α)(k:α->R β):R β:=match r with
 | .bad=>.bad
 | .err c f=>.err c f
 | .ok a=>k a
theorem aA{β:Type}(a:α)(k:α->R β):(R.ok a).bind k=k a:=rfl
noncomputable def aY{α:Type}(c:Bool)(r:R α):R α:=if c=true then r else .bad
theorem eI{r:R α}(h:c=true):aY c r=r:=if_pos h
inductive Sl where
 | no
 | val(d:D)
 | ow(p:Bool)(d:D)
 /-- a thing of an own class,which stays: its class,its fields -/
 | ob (c:String) (ds:List D)
abbrev En:=List Sl
inductive Fl where
 | nx|bk|ct
 | rt(d:D)
 | rf(d:D)
abbrev EF:=En->R (D×En)
abbrev TF:=En->R (Bool×En)
abbrev AF:=En->R (List D×En)
abbrev SF:=En->R (Fl×En)
abbrev GF:=D->En->R En
noncomputable def zfA:D->String
 | .none=>"NoneType" | .bool _=>"bool" | .int _=>"int" | .str _=>"str" | .list _=>"list" | .tuple _=>"tuple" | .dict _=>"dict"
def cJ(T:String)(d:D):Bool:=match d with
 | .bool _=>T == "bool" || T == "int"
 | d=>zfA d==T
noncomputable def lim:Nat:=1000000
noncomputable def intsOf:List D->Option (List Int)
 | []=>some []
 | .int i::r=>(intsOf r).map (i::·)
 | _::_=>none
noncomputable def boolsOf:List D->Option (List Bool)
 | []=>some []
 | .bool i::r=>(boolsOf r).map (i::·)
 | _::_=>none
noncomputable def R.of{α:Type}:Option α->R α
 | none=>.bad
 | some a=>.ok a
noncomputable def leB(a b:Nat):Bool:=Nat.ble a b
theorem leB_iff:leB a b=true↔a<=b:=Iff.of_eq Nat.ble_eq
theorem tQ(h:a<=b):leB a b=true:=leB_iff.mpr h
theorem lY(h:leB a b=true):a<=b:=leB_iff.mp h
def t7(i j:Int):Bool:=leB (i.natAbs.log2+j.natAbs.log2+2) 134217728
def aG:D->D->R D
 | .int i,.int j=>.ok (.int (i+j))
 | .list a,.list b=>aY (leB (a.length+b.length) lim) (.ok (.list (a++b)))
 | .tuple a,.tuple b=>aY (leB (a.length+b.length) lim) (.ok (.tuple (a++b)))
 | _,_=>.bad
noncomputable def dN:D->D->R D
 | .int i,.int j=>.ok (.int (i-j))
 | _,_=>.bad
def bV:D->D->R D
 | .int i,.int j=>aY (t7 i j) (.ok (.int (i*j)))
 | .tuple a,.int k=>aY (!a.isEmpty&&leB 2 k.toNat&&leB k.toNat 1000000&&leB (a.length*k.toNat) lim) (.ok (.tuple (yq k.toNat a).flatten))
 | _,_=>.bad
def bK:D->D->R D
 | .int i,.int j=>aY (decide (j≠0)) (.ok (.int (i.fdiv j)))
 | _,_=>.bad
def fA:D->D->R D
 | .int i,.int j=>aY (decide (j≠0)) (.ok (.int (i.fmod j)))
 | _,_=>.bad
def dA:D->D->R D
 | .int i,.int j=>aY (decide (0<=j)&&leB j.toNat 1000000&&leB i.natAbs 18446744073709551615) (.ok (.int (i^j.toNat)))
 | _,_=>.bad
noncomputable def oN:D->R D
 | .int i=>.ok (.int (-i))
 | _=>.bad
def cy(a b:D):R D:=aY (Ao a&&Ao b) (.ok (.bool (A4 a b)))
def eL(a b:D):R D:=aY (Ao a&&Ao b) (.ok (.bool (!A4 a b)))
def lexLt:List Int->List Int->Bool
 | [],[]=>false
 | [],_::_=>true
 | _::_,[]=>false
 | x::xs,y::ys=>if x=y then lexLt xs ys else decide (x<y)
def zhQ(p:Int->Int->Bool)(q:List Int->List Int->Bool):D->D->R D
 | .int i,.int j=>.ok (.bool (p i j))
 | .tuple a,.tuple b=>(R.of (intsOf a)).bind fun x=>(R.of (intsOf b)).bind fun y=>.ok (.bool (q x y))
 | _,_=>.bad
def ft:D->D->R D:=zhQ (fun i j=>decide (i<j)) lexLt
noncomputable def vG(p:Int->Int->Bool):D->D->R D
 | .int i,.int j=>.ok (.bool (p i j))
 | _,_=>.bad
def j8:D->D->R D:=vG fun i j=>decide (i<=j)
def gtD:D->D->R D:=vG fun i j=>decide (j<i)
def oh:D->D->R D:=vG fun i j=>decide (j<=i)
noncomputable def zpY:D->R D
 | .none=>.ok (.bool true)
 | _=>.ok (.bool false)
noncomputable def zsT:D->R D
 | .none=>.ok (.bool false)
 | _=>.ok (.bool true)
def isD(a b:D):R D:=match b with
 | .none=>zpY a
 | _=>.bad
def zdH(a b:D):R D:=match b with
 | .none=>zsT a
 | _=>.bad
noncomputable def gz(n:Nat)(i:Int):Option Nat:=if 0<=i then(if i<n then some i.toNat else none) else if -(n:Int)<=i then some (i+n).toNat else none
def dQ{α:Type}(xs:List α)(i:Int):Option α:=(gz xs.length i).bind fun j=>xs[j]?
def aw:D->D->R D
 | .list a,.int i=>R.of (dQ a i)
 | .tuple a,.int i=>R.of (dQ a i)
 | _,_=>.bad
noncomputable def aR(n d:Nat):Option Int->Nat
 | none=>d
 | some v=>if v<0 then(v+(n:Int)).toNat else min v.toNat n
def cut{α:Type}(xs:List α)(lo hi:Option Int):List α:=(xs.drop (aR xs.length 0 lo)).take (aR xs.length xs.length hi-aR xs.length 0 lo)
def ze4(d:D)(lo hi:Option Int):R D:=match d with
 | .list a=>.ok (.list (cut a lo hi))
 | .tuple a=>.ok (.tuple (cut a lo hi))
 | _=>.bad
noncomputable def pj:D->R Bool
 | .none=>.ok false
 | .bool b=>.ok b
 | .int i=>.ok (i != 0)
 | .list a=>.ok (!a.isEmpty)
 | .tuple a=>.ok (!a.isEmpty)
 | _=>.bad
noncomputable def hJ:D->R D
 | .list a=>.ok (.int a.length)
 | .tuple a=>.ok (.int a.length)
 | _=>.bad
noncomputable def jm:D->R D
 | .int i=>.ok (.int (if i<0 then -i else i))
 | _=>.bad
def zk1:D->R D
 | .list a=>(R.of (intsOf a)).bind fun x=>.ok (.int x.sum)
 | _=>.bad
def pO:D->R D
 | .list a=>(R.of (boolsOf a)).bind fun x=>.ok (.bool (x.all id))
 | _=>.bad
noncomputable def tU:D->R D
 | .list a=>.ok (.list a)
 | .tuple a=>.ok (.list a)
 | _=>.bad
noncomputable def qV:D->R D
 | .list a=>.ok (.tuple a)
 | .tuple a=>.ok (.tuple a)
 | _=>.bad
noncomputable def zlc(d:D):Bool:=match d with
 | .dict _=>false
 | _=>true
def gZ(T:String)(d:D):R D:=aY (zlc d) (.ok (.bool (cJ T d)))
noncomputable def one(g:D->R D):List D->R D
 | [d]=>g d
 | _=>.bad
noncomputable def two(g:D->D->R D):List D->R D
 | [d,e]=>g d e
 | _=>.bad
noncomputable def ziS:D->R (List D)
 | .list a=>.ok a
 | .tuple a=>.ok a
 | _=>.bad
noncomputable def eM(lo hi:Int):List D:=(z9 (hi-lo).toNat).map fun(i:Nat)=>.int (lo+(i:Int))
def lq(i:Int):Bool:=leB i.natAbs 1000000000
def xu:List D->R (List D)
 | [.int j]=>aY (lq j&&leB j.toNat lim) (.ok (eM 0 j))
 | _=>.bad
def zwx:List D->R (List D)
 | [.int i,.int j]=>aY (lq i&&lq j&&leB (j-i).toNat lim) (.ok (eM i j))
 | _=>.bad
noncomputable def eC(d:D):EF:=fun ρ=>.ok (d,ρ)
noncomputable def eV(i:Nat):EF:=fun ρ=>match ρ[i]? with
 | some (.val d)=>.ok (d,ρ)
 | _=>.bad
def e1(g:D->R D)(f:EF):EF:=fun ρ=>(f ρ).bind fun x=>(g x.1).bind fun d=>.ok (d,x.2)
def e2(g:D->D->R D)(f h:EF):EF:=fun ρ=>(f ρ).bind fun x=>(h x.2).bind fun y=>(g x.1 y.1).bind fun d=>.ok (d,y.2)
def i3(f h:EF):EF:=fun ρ=>(f ρ).bind fun x=>match x.1 with
 | .bool true=>h x.2
 | .bool false=>.ok (.bool false,x.2)
 | _=>.bad
def zbb(f:EF):EF:=fun ρ=>(f ρ).bind fun x=>match x.1 with
 | .bool b=>.ok (.bool (!b),x.2)
 | _=>.bad
def sF(t:TF)(f h:EF):EF:=fun ρ=>(t ρ).bind fun c=>if c.1=true then f c.2 else h c.2
def nR(g h:D->D->R D)(f1 f2 f3:EF):EF:=fun ρ=>(f1 ρ).bind fun x=>(f2 x.2).bind fun y=>(g x.1 y.1).bind fun c=>match c with
 | .bool true=>(f3 y.2).bind fun z=>(h y.1 z.1).bind fun d=>.ok (d,z.2)
 | .bool false=>.ok (.bool false,y.2)
 | _=>.bad
noncomputable def af:AF:=fun ρ=>.ok ([],ρ)
def aa(f:EF)(a:AF):AF:=fun ρ=>(f ρ).bind fun x=>(a x.2).bind fun y=>.ok (x.1::y.1,y.2)
def bg(a:AF):EF:=fun ρ=>(a ρ).bind fun x=>aY (leB x.1.length lim) (.ok (.tuple x.1,x.2))
def bf(a:AF):EF:=fun ρ=>(a ρ).bind fun x=>aY (leB x.1.length lim) (.ok (.list x.1,x.2))
def av(G:List D->R D)(a:AF):EF:=fun ρ=>(a ρ).bind fun x=>(G x.1).bind fun d=>.ok (d,x.2)
abbrev OF:=En->R (Option Int×En)
noncomputable def kT:OF:=fun ρ=>.ok (none,ρ)
def kU(f:EF):OF:=fun ρ=>(f ρ).bind fun x=>match x.1 with
 | .int i=>.ok (some i,x.2)
 | _=>.bad
def kA(f:EF)(lo hi:OF):EF:=fun ρ=>(f ρ).bind fun x=>(lo x.2).bind fun l=>(hi l.2).bind fun u=>(ze4 x.1 l.1 u.1).bind fun d=>.ok (d,u.2)
noncomputable def cv(ρ:En)(i:Nat):R D:=match ρ[i]? with
 | some (.ow _ d)=>.ok d
 | _=>.bad
noncomputable def lZ(ρ:En)(i:Nat):R (List D):=match ρ[i]? with
 | some (.ow _ (.list a))=>.ok a
 | _=>.bad
def m1(g:D->R D)(i:Nat):EF:=fun ρ=>(cv ρ i).bind fun c=>(g c).bind fun d=>.ok (d,ρ)
def m2(g:D->D->R D)(i:Nat)(h:EF):EF:=fun ρ=>(cv ρ i).bind fun _=>(h ρ).bind fun y=>(cv y.2 i).bind fun c=>(g c y.1).bind fun d=>.ok (d,y.2)
def wC(g:D->D->R D)(f:EF)(i:Nat):EF:=fun ρ=>(f ρ).bind fun x=>(cv x.2 i).bind fun c=>(g x.1 c).bind fun d=>.ok (d,x.2)
inductive Ar where
 | v(f:EF)
 | m(i:Nat)
 | t(f:EF)
inductive Itm where
 | vd(d:D)
 | mi(i:Nat)
 | td(d:D)
def gF:List Ar->En->R (List Itm×En)
 | [],ρ=>.ok ([],ρ)
 | .v f::r,ρ=>(f ρ).bind fun x=>(gF r x.2).bind fun y=>.ok (.vd x.1::y.1,y.2)
 | .m i::r,ρ=>(cv ρ i).bind fun _=>(gF r ρ).bind fun y=>.ok (.mi i::y.1,y.2)
 | .t f::r,ρ=>(f ρ).bind fun x=>(gF r x.2).bind fun y=>.ok (.td x.1::y.1,y.2)
def fK(ρ:En):List Itm->R (List D)
 | []=>.ok []
 | .vd d::r=>(fK ρ r).bind fun ds=>.ok (d::ds)
 | .mi i::r=>(cv ρ i).bind fun d=>(fK ρ r).bind fun ds=>.ok (d::ds)
 | .td d::r=>(fK ρ r).bind fun ds=>.ok (d::ds)
noncomputable def iK(ρ:En)(i:Nat)(d:D):En:=match ρ[i]? with
 | some (.ow p _)=>ρ.set i (.ow p d)
 | _=>ρ
noncomputable def eX:List Itm->List D->List (Nat×Sl)
 | .mi i::r,d::ds=>(i,.ow true d)::eX r ds
 | .vd _::r,_::ds=>eX r ds
 | .td _::r,_::ds=>eX r ds
 | _,_=>[]
noncomputable def df(m:List (Nat×Sl))(i:Nat)(x:Sl):Sl:=match x,m.lookup i with
 | .ow p _,some (.ow _ d)=>.ow p d
 | x,_=>x
def cN(m:List (Nat×Sl)):Nat->En->En
 | _,[]=>[]
 | n,x::r=>df m n x::cN m (n+1) r
def lI(ρ:En)(a:List Itm)(os:List D):En:=cN (eX a os) 0 ρ
def bO(F:List D->R (D×List D))(a:List Ar):EF:=fun ρ=>(gF a ρ).bind fun x=>(fK x.2 x.1).bind fun ds=>(F ds).bind fun y=>.ok (y.1,lI x.2 x.1 y.2)
def tE(f:EF):TF:=fun ρ=>(f ρ).bind fun x=>(pj x.1).bind fun b=>.ok (b,x.2)
def tB(f:EF):TF:=fun ρ=>(f ρ).bind fun x=>match x.1 with
 | .bool b=>.ok (b,x.2)
 | _=>.bad
def qQ(t u:TF):TF:=fun ρ=>(t ρ).bind fun c=>if c.1=true then u c.2 else .ok (false,c.2)
def eB(t u:TF):TF:=fun ρ=>(t ρ).bind fun c=>if c.1=true then .ok (true,c.2) else u c.2
def cR(t:TF):TF:=fun ρ=>(t ρ).bind fun c=>.ok (!c.1,c.2)
noncomputable def dW:TF:=fun ρ=>.ok (true,ρ)
abbrev IF:=En->R (List D×En)
def iE(f:EF):IF:=fun ρ=>(f ρ).bind fun x=>(ziS x.1).bind fun l=>.ok (l,x.2)
def gI(a:AF):IF:=fun ρ=>(a ρ).bind fun x=>(xu x.1).bind fun l=>.ok (l,x.2)
def iR2(a:AF):IF:=fun ρ=>(a ρ).bind fun x=>(zwx x.1).bind fun l=>.ok (l,x.2)
noncomputable def jo:Nat->List D->List D
 | _,[]=>[]
 | n,d::r=>.tuple [.int n,d]::jo (n+1) r
noncomputable def fS:List D->List D->List D
 | a::r,b::s=>.tuple [a,b]::fS r s
 | _,_=>[]
noncomputable def gN(i:Nat):GF:=fun d ρ=>match ρ[i]? with
 | some (.ow true _)=>.bad
 | some _=>.ok (ρ.set i (.val d))
 | none=>.bad
def n9:List GF->List D->En->R En
 | [],[],ρ=>.ok ρ
 | g::r,d::ds,ρ=>(g d ρ).bind fun ρ1=>n9 r ds ρ1
 | _,_,_=>.bad
def gT(gs:List GF):GF:=fun d ρ=>match d with
 | .tuple ds=>n9 gs ds ρ
 | _=>.bad
noncomputable def dg(k:Nat)(ix:List Nat)(ρ:En):En:=yq k .no++ix.map fun i=>(ρ[i]?).getD .no
def back(ρ:En)(ix:List Nat)(cs:En):En:=cN (ix.zip cs) 0 ρ
def iZ(k:Nat)(ix:List Nat)(g:GF)(t:TF)(f:EF):List D->En->List D->R (List D×En)
 | [],ρ,acc=>.ok (acc,ρ)
 | x::xs,ρ,acc=>(g x (dg k ix ρ)).bind fun β=>(t β).bind fun c =>
   if c.1=true then(f c.2).bind fun y=>aY (leB (acc.length+1) lim) (iZ k ix g t f xs (back ρ ix (y.2.drop k)) (acc++[y.1]))
   else iZ k ix g t f xs (back ρ ix (c.2.drop k)) acc
def d6(k:Nat)(ix:List Nat)(it:IF)(g:GF)(t:TF)(f:EF):EF:=fun ρ=>(it ρ).bind fun x=>(iZ k ix g t f x.1 x.2 []).bind fun y=>.ok (.list y.1,y.2)
noncomputable def aT:SF:=fun ρ=>.ok (.nx,ρ)
def ak(s t:SF):SF:=fun ρ=>(s ρ).bind fun x=>match x.1 with
 | .nx=>t x.2
 | _=>.ok x
def sE(f:EF):SF:=fun ρ=>(f ρ).bind fun x=>.ok (.nx,x.2)
def aF(g:GF)(f:EF):SF:=fun ρ=>(f ρ).bind fun x=>(g x.1 x.2).bind fun ρ1=>.ok (.nx,ρ1)
def eN(i:Nat)(f:EF):SF:=fun ρ=>(f ρ).bind fun x=>match x.2[i]? with
 | some (.ow true _)=>.bad
 | some _=>.ok (.nx,x.2.set i (.ow false x.1))
 | none=>.bad
def uH(i:Nat)(s:SF):SF:=fun ρ=>(s ρ).bind fun x=>match x.1 with
 | .nx=>(match x.2[i]? with
  | some (.ow false d)=>.ok (.nx,x.2.set i (.val d))
  | _=>.bad)
 | _=>.ok x
def eU(i j:Nat)(f h:EF):SF:=fun ρ=>(f ρ).bind fun x=>(h x.2).bind fun y=>(gN i x.1 y.2).bind fun ρ1=>(gN j y.1 ρ1).bind fun ρ2=>.ok (.nx,ρ2)
def pX(f n:EF):EF:=fun ρ=>(f ρ).bind fun x=>(n x.2).bind fun y=>match y.1 with
 | .int k=>aY (decide (0<=k)&&leB k.toNat 1000000) (.ok (.list (yq k.toNat x.1),y.2))
 | _=>.bad
noncomputable def xG(i:Nat)(s:SF):SF:=fun ρ=>match ρ[i]? with
 | some (.ow false d)=>s (ρ.set i (.val d))
 | _=>.bad
def aD(f:EF):SF:=fun ρ=>(f ρ).bind fun x=>.ok (.rt x.1,x.2)
def jg(f:EF):SF:=fun ρ=>(f ρ).bind fun x=>.ok (.rf x.1,x.2)
noncomputable def uG(i:Nat):SF:=fun ρ=>match ρ[i]? with
 | some (.ow false d)=>.ok (.rf d,ρ)
 | _=>.bad
def aP(t:TF)(a b:SF):SF:=fun ρ=>(t ρ).bind fun c=>if c.1=true then a c.2 else b c.2
noncomputable def je:SF:=fun _=>.bad
def forL(g:GF)(b:SF):List D->En->R (Fl×En)
 | [],ρ=>.ok (.nx,ρ)
 | x::xs,ρ=>(g x ρ).bind fun ρ1=>(b ρ1).bind fun y=>match y.1 with
  | .nx | .ct=>forL g b xs y.2
  | .bk=>.ok (.nx,y.2)
  | .rt d=>.ok (.rt d,y.2)
  | .rf d=>.ok (.rf d,y.2)
def gk(it:IF)(g:GF)(b:SF):SF:=fun ρ=>(it ρ).bind fun x=>forL g b x.1 x.2
def pB(t:TF)(b:SF):Nat->En->R (Fl×En)
 | 0,_=>.bad
 | n+1,ρ=>(t ρ).bind fun c=>if c.1=true then(b c.2).bind fun y=>match y.1 with
   | .nx | .ct=>pB t b n y.2
   | .bk=>.ok (.nx,y.2)
   | .rt d=>.ok (.rt d,y.2)
   | .rf d=>.ok (.rf d,y.2)
  else .ok (.nx,c.2)
def o6(fuel:En->Nat)(t:TF)(b:SF):SF:=fun ρ=>pB t b (fuel ρ) ρ
def setM(i:Nat)(f k:EF):SF:=fun ρ=>(f ρ).bind fun x=>(lZ x.2 i).bind fun _=>(k x.2).bind fun y=>(lZ y.2 i).bind fun c=>match y.1 with
 | .int j=>(R.of (gz c.length j)).bind fun n=>.ok (.nx,iK y.2 i (.list (c.set n x.1)))
 | _=>.bad
noncomputable def slots:List Bool->List D->En
 | m::ms,d::ds=>(if m=true then .ow true d else .val d)::slots ms ds
 | _,_=>[]
noncomputable def outD(m:Bool)(d:D)(x:Option Sl):D:=match m,x with
 | true,some (.ow _ d')=>d'
 | _,_=>d
def outs:List Bool->List D->En->List D
 | m::ms,d::ds,ρ=>outD m d ρ.head?::outs ms ds ρ.tail
 | _,_,_=>[]
def run(ms:List Bool)(fr:Bool)(n:Nat)(b:SF)(ds:List D):R (D×List D) :=
 if ds.length=ms.length then(b (slots ms ds++yq (n-ds.length) .no)).bind fun x=>match x.1,fr with
  | .rt d,false=>.ok (d,outs ms ds x.2)
  | .rf d,true=>.ok (d,outs ms ds x.2)
  | .nx,false=>.ok (.none,outs ms ds x.2)
  | _,_=>.bad
 else .bad
def bh(fr:Bool)(k n:Nat)(b:SF)(ds:List D):R D:=(run (yq k false) fr n b ds).bind fun x=>.ok x.1
end FL
namespace FL
open PySem L2 PySem.Spec
open PyProof.Rows hiding St
variable {P:List gV->Prop}{es:List yh}{a:dm}{v:V}{H H' H1:Hp}{o:HO}{pos:yn}{σ:St}{i:Nat}{ρ:En}{env:yC}{d:yI}{xs:List V}
section
theorem kC(h:∀ a,P [a]):∀ us:List gV,us.length=1->P us
 | [a],_=>h a
theorem kE(h:∀ a b,P [a,b]):∀ us:List gV,us.length=2->P us
 | [a,b],_=>h a b
theorem kF(h:∀ a b c,P [a,b,c]):∀ us:List gV,us.length=3->P us
 | [a,b,c],_=>h a b c
theorem pY(h:∀ a b c d,P [a,b,c,d]):∀ us:List gV,us.length=4->P us
 | [a,b,c,d],_=>h a b c d
class Cs where
 C:Hp
 st:∀ a u,C a=some u->∃ o xs,u=.frz o (.tup xs)
 /-- the own classes: where each stands,its fields' names -/
 O:String->Option (dm×List ir):=fun _=>none
 /-- the own error classes -/
 X:String->Option (dm×List ir):=fun _=>none
def jK(K:yf)(H:Hp)(a:dm)(xs:List V):Prop:=(∃ o,H a=some (.frz o (.lst xs))) \/
 ∃(o:yp) (its:Array gV) (n:Nat),K.lookup a=some o/\o.cls=.type "list"/\o.dict=none/\o.data=.seq its n/\its.size<=yz/\Vals xs its.toList
noncomputable def kD:Key->yI
 | .inl i=>.int i
 | .inr x=>.str x
def j7(k:List Key):yI:=.tuple (k.map kD)
mutual
def Fz(K:yf)(H:Hp):yI->V->Prop
 | .none,v=>v=.non
 | .bool b,v=>v=.bl b
 | .int i,v=>v=.int i
 | .str x,v=>v=.str x
 | .list xs,v=>∃ a vs,v=.ref a/\jK K H a vs/\ah K H xs vs
 | .tuple xs,v=>∃ a vs,v=.ref a/\dB H a vs/\ah K H xs vs
 | .dict ag,v=>∃ a o,v=.ref a/\∃ kk,H a=some (.frz o (.dT kk))/\aX K H ag kk
def ah(K:yf)(H:Hp):List yI->List V->Prop
 | [],vs=>vs=[]
 | d::ds,vs=>∃ v r,vs=v::r/\Fz K H d v/\ah K H ds r
def aX(K:yf)(H:Hp):List (yI×yI)->List (List Key×V)->Prop
 | [],kk=>kk=[]
 | (k,d)::r,kk=>∃ q v t,kk=(q,v)::t/\k=j7 q/\Fz K H d v/\aX K H r t
end
noncomputable def pL:HO->Prop
 | .tup _=>True
 | .frz _ _=>True
 | .ins _ _ _=>True
 | .ext _=>True
 | .xd _=>True
 | _=>False
def ax(H H':Hp):Prop:=∀ a o,H a=some o->pL o->H' a=some o
theorem ax.refl(H:Hp):ax H H:=fun _ _ h _=>h
theorem ax.trans{H2:Hp}(a:ax H H1)(b:ax H1 H2):ax H H2:=fun c o h s=>b c o (a c o h s) s
theorem ax.of(s:ay H H'):ax H H':=fun a o h _=>s a o h
section
variable {K:yf}
theorem ax.o7(e:ax H H')(h:dB H a xs):dB H' a xs:=by
 rcases h with h|⟨o,h⟩
 ·exact .inl (e _ _ h trivial)
 ·exact .inr ⟨o,e _ _ h trivial⟩
theorem ax.gm(e:ax H H')(h:jK K H a xs):jK K H' a xs:=by
 rcases h with⟨o,h⟩|h
 ·exact .inl ⟨o,e _ _ h trivial⟩
 ·exact .inr h
theorem jK.sq(h:jK K H a xs):bq K H a xs:=by
 rcases h with⟨o,h⟩|h
 ·exact .inl (.inr ⟨o,h⟩)
 ·exact .inr h
mutual
theorem Fz.mono(e:ax H H'):∀(d:yI) (v:V),Fz K H d v->Fz K H' d v
 | .none,v,h=>by simp only[Fz]at h ⊢;exact h
 | .bool b,v,h=>by simp only[Fz]at h ⊢;exact h
 | .int i,v,h=>by simp only[Fz]at h ⊢;exact h
 | .str x,v,h=>by simp only[Fz]at h ⊢;exact h
 | .list xs,v,h=>by
  simp only[Fz]at h ⊢;obtain⟨a,vs,e1,h1,h2⟩:=h;exact⟨a,vs,e1,e.gm h1,ah.mono e xs vs h2⟩
 | .tuple xs,v,h=>by
  simp only[Fz]at h ⊢;obtain⟨a,vs,e1,h1,h2⟩:=h;exact⟨a,vs,e1,e.o7 h1,ah.mono e xs vs h2⟩
 | .dict ag,v,h=>by
  simp only[Fz]at h ⊢;obtain⟨a,o,e1,h⟩:=h;obtain⟨kk,h1,h2⟩:=h;exact⟨a,o,e1,⟨kk,e _ _ h1 trivial,aX.mono e ag kk h2⟩⟩
theorem ah.mono(e:ax H H'):∀(ds:List yI) (vs:List V),ah K H ds vs->ah K H' ds vs
 | [],vs,h=>by simp only[ah]at h ⊢;exact h
 | d::ds,vs,h=>by
  simp only[ah]at h ⊢;obtain⟨v,r,e1,h1,h2⟩:=h;exact⟨v,r,e1,Fz.mono e d v h1,ah.mono e ds r h2⟩
theorem aX.mono(e:ax H H'):∀(ag:List (yI×yI)) (kk:List (List Key×V)),aX K H ag kk->aX K H' ag kk
 | [],kk,h=>by simp only[aX]at h ⊢;exact h
 | (k,d)::r,kk,h=>by
  simp only[aX]at h ⊢;obtain⟨q,v,t,e1,e2,h1,h2⟩:=h;exact⟨q,v,t,e1,e2,Fz.mono e d v h1,aX.mono e r t h2⟩
end
theorem ah.len:∀{ds:List yI} {vs:List V},ah K H ds vs->vs.length=ds.length
 | [],vs,h=>by simp only[ah]at h;subst h;rfl
 | d::ds,vs,h=>by
  simp only[ah]at h;obtain⟨v,r,rfl,_,h2⟩:=h;simp[ah.len h2]
theorem ah.get:∀{ds:List yI} {vs:List V} {i:Nat} {d:yI},ah K H ds vs->ds[i]?=some d->∃ v,vs[i]?=some v/\Fz K H d v
 | [],vs,i,d,h,e=>by simp at e
 | d0::ds,vs,i,d,h,e=>by
  simp only[ah]at h;obtain⟨v,r,rfl,h1,h2⟩:=h;cases i with
  | zero=>simp at e;subst e;exact⟨v,by simp,h1⟩
  | succ i =>
   obtain⟨w,e1,f⟩:=ah.get h2 (by simpa using e);exact⟨w,by simpa using e1,f⟩
theorem ah.app:∀{ds es:List yI} {vs ws:List V},ah K H ds vs->ah K H es ws->ah K H (ds++es) (vs++ws)
 | [],es,vs,ws,h,g=>by simp only[ah]at h;subst h;exact g
 | d::ds,es,vs,ws,h,g=>by
  simp only[ah]at h;obtain⟨v,r,rfl,h1,h2⟩:=h;simp only[zN,ah];exact⟨v,r++ws,rfl,h1,ah.app h2 g⟩
theorem ah.take:∀{ds:List yI} {vs:List V} (n:Nat),ah K H ds vs->ah K H (ds.take n) (vs.take n)
 | ds,vs,0,h=>by simp[ah]
 | [],vs,n+1,h=>by simp only[ah]at h;subst h;simp[ah]
 | d::ds,vs,n+1,h=>by
  simp only[ah]at h;obtain⟨v,r,rfl,h1,h2⟩:=h;simp only[F4,ah];exact⟨v,_,rfl,h1,ah.take n h2⟩
theorem ah.drop:∀{ds:List yI} {vs:List V} (n:Nat),ah K H ds vs->ah K H (ds.drop n) (vs.drop n)
 | ds,vs,0,h=>by simpa using h
 | [],vs,n+1,h=>by simp only[ah]at h;subst h;simp[ah]
 | d::ds,vs,n+1,h=>by
  simp only[ah]at h;obtain⟨v,r,rfl,h1,h2⟩:=h;simpa using ah.drop n h2
theorem ah.set:∀{ds:List yI} {vs:List V} {d:yI} {v:V} (n:Nat),ah K H ds vs->Fz K H d v->ah K H (ds.set n d) (vs.set n v)
 | [],vs,d,v,n,h,f=>by simp only[ah]at h;subst h;simp[ah]
 | d0::ds,vs,d,v,n,h,f=>by
  simp only[ah]at h;obtain⟨v0,r,rfl,h1,h2⟩:=h;cases n with
  | zero=>simp only[zT,ah];exact⟨v,r,rfl,f,h2⟩
  | succ n=>simp only[zU,ah];exact⟨v0,_,rfl,h1,ah.set n h2 f⟩
theorem ah.rep{ds:List yI}{vs:List V}(h:ah K H ds vs):∀ k:Nat,ah K H (yq k ds).flatten (yq k vs).flatten
 | 0=>by simp[ah]
 | k+1=>by simp only[Bj,Cz];exact ah.app h (ah.rep h k)
theorem ah.ints:∀{ds:List yI} {vs:List V} {ns:List Int},ah K H ds vs->intsOf ds=some ns->vs=ns.map V.int/\ds=ns.map zi
 | [],vs,ns,h,e=>by simp only[ah]at h;simp only[intsOf,Ac]at e;subst h;subst e;exact⟨rfl,rfl⟩
 | d::ds,vs,ns,h,e=>by
  simp only[ah]at h;obtain⟨v,r,rfl,h1,h2⟩:=h;cases d with
  | int i =>
   simp only[intsOf,AA]at e;obtain⟨ms,e1,rfl⟩:=e;obtain⟨a,b⟩:=ah.ints h2 e1;simp only[Fz]at h1;subst h1;subst a;subst b
   exact⟨rfl,rfl⟩
  | _=>simp[intsOf]at e
theorem ah.bools:∀{ds:List yI} {vs:List V} {ns:List Bool},ah K H ds vs->boolsOf ds=some ns->vs=ns.map V.bl/\ds=ns.map AQ
 | [],vs,ns,h,e=>by simp only[ah]at h;simp only[boolsOf,Ac]at e;subst h;subst e;exact⟨rfl,rfl⟩
 | d::ds,vs,ns,h,e=>by
  simp only[ah]at h;obtain⟨v,r,rfl,h1,h2⟩:=h;cases d with
  | bool i =>
   simp only[boolsOf,AA]at e;obtain⟨ms,e1,rfl⟩:=e;obtain⟨a,b⟩:=ah.bools h2 e1;simp only[Fz]at h1;subst h1;subst a;subst b
   exact⟨rfl,rfl⟩
  | _=>simp[boolsOf]at e
theorem ah.ofInts:∀(ns:List Int),ah K H (ns.map zi) (ns.map V.int)
 | []=>by simp[ah]
 | i::r=>by simp only[zh,ah];exact⟨_,_,rfl,by simp[Fz],ah.ofInts r⟩
end
def cC(K:yf)(H:Hp)(a:dm):yI->Prop
 | .list ds=>∃ vs,H a=some (.lst vs)/\ah K H ds vs
 | .dict ag=>∃ kk,H a=some (.dT kk)/\aX K H ag kk
 | _=>False
def Tp(K:yf)(H:Hp):yI->V->Prop
 | .list ds,v=>∃ a vs,v=.ref a/\bq K H a vs/\ah K H ds vs
 | .dict ag,v=>∃ a,v=.ref a/\∃ kk,Rd H a (.dT kk)/\aX K H ag kk
 | d,v=>Fz K H d v
section
variable {K:yf}
theorem Fz.tp(h:Fz K H d v):Tp K H d v:=by
 cases d with
 | list ds =>
  simp only[Fz]at h;obtain⟨a,vs,e,h1,h2⟩:=h;exact⟨a,vs,e,h1.sq,h2⟩
 | dict ag =>
  simp only[Fz]at h;obtain⟨a,o,e,h⟩:=h;obtain⟨kk,h1,h2⟩:=h;exact⟨a,e,⟨kk,.inr ⟨o,h1⟩,h2⟩⟩
 | _=>exact h
theorem cC.tp(h:cC K H a d):Tp K H d (.ref a):=by
 cases d with
 | list ds =>
  obtain⟨vs,h1,h2⟩:=h;exact⟨a,vs,rfl,bq.of h1,h2⟩
 | dict ag =>
  obtain⟨kk,h1,h2⟩:=h;exact⟨a,rfl,⟨kk,.inl h1,h2⟩⟩
 | _=>exact h.elim
noncomputable def Own:HO->Prop
 | .lst _=>True
 | .dT _=>True
 | .dK _=>True
 | _=>False
theorem cC.own(h:cC K H a d):∃ o,H a=some o/\Own o:=by
 cases d with
 | list ds=>obtain⟨vs,h1,_⟩:=h;exact⟨_,h1,trivial⟩
 | dict ag =>
  obtain⟨kk,h1,h2⟩:=h;exact⟨_,h1,trivial⟩
 | _=>exact h.elim
theorem Own.iI(h:Own o):¬ pL o:=by cases o <;> first|exact fun z=>z|exact h.elim
theorem cC.mono{d:yI}{a:dm}(e:ax H H')(k:H' a=H a)(h:cC K H a d):cC K H' a d:=by
 cases d with
 | list ds=>obtain⟨vs,h1,h2⟩:=h;exact⟨vs,by rw[k];exact h1,h2.mono e⟩
 | dict ag =>
  obtain⟨kk,h1,h2⟩:=h;exact⟨kk,by rw[k];exact h1,h2.mono e⟩
 | _=>exact h.elim
end
def jN[Cs](K:yf)(H:Hp)(a:dm)(c:String)(ds:List D):Prop:=∃ C ns dx vs,Cs.O c=some (C,ns)/\H a=some (.ins C dx (ns.zip vs))/\vs.length=ns.length/\ah K H ds vs
noncomputable def ErD(H:Hp)(ns:List ir)(vs:List V):Option dm->Prop
 | none=>ns=[]
 | some dx=>H dx=some (.xd (ns.zip vs))
def rh[Cs](K:yf)(H:Hp)(c:String)(ds:List D)(C:dm)(dd:Option dm):Prop:=Cs.O c=none/\∃ ns vs,Cs.X c=some (C,ns)/\vs.length=ns.length/\ErD H ns vs dd/\ah K H ds vs
def rg[Cs](K:yf)(H:Hp)(a:dm)(c:String)(ds:List D):Prop:=∃ C dd,H a=some (km a C dd)/\rh K H c ds C dd
def dF[Cs](K:yf)(H:Hp):Sl->Option V->Prop
 | .no,_=>True
 | .val d,some v=>Fz K H d v
 | .ow _ d,some (.ref a)=>cC K H a d
 | .ob c ds,some (.ref a)=>jN K H a c ds\/rg K H a c ds
 | _,_=>False
def At(ρ:En)(σ:St)(i:Nat)(a:dm):Prop:=(∃ p d,ρ[i]?=some (.ow p d))/\σ[i]?=some (some (.ref a))
def fi[Cs](H:Hp):Prop:=∀ a u,Cs.C a=some u->H a=some u
theorem fi.mono[Cs](h:fi H)(e:ax H H'):fi H':=fun a u q=>e a u (h a u q) (by
 obtain⟨o,xs,rfl⟩:=Cs.st a u q
 trivial)
structure Rel[Cs](K:yf)(ρ:En)(σ:St)(H:Hp):Prop where
 len:ρ.length=σ.length
 ok:∀(i:Nat) x v,ρ[i]?=some x->σ[i]?=some v->dF K H x v
 sep:∀ i j a,At ρ σ i a->At ρ σ j a->i=j
 cst:fi H
variable [Cs]
def MA(ρ:En)(σ:St)(a:dm):Prop:=∃ i,At ρ σ i a
structure cM(ρ ρ':En)(σ:St)(H H':Hp):Prop where
 md:∀(i:Nat) p,(∃ d,ρ[i]?=some (.ow p d))↔∃ d,ρ'[i]?=some (.ow p d)
 kp:∀ a o,H a=some o->¬ MA ρ σ a->H' a=some o
section
variable {K:yf}{ρ' ρ'':En}{iV:Hp}
theorem Rel.zmw(r:Rel K ρ σ H)(h:At ρ σ i a):∃ p d,ρ[i]?=some (.ow p d)/\cC K H a d:=by
 obtain⟨⟨p,d,e⟩,e2⟩:=h;exact⟨p,d,e,r.ok i _ _ e e2⟩
theorem Rel.et(r:Rel K ρ σ H)(h:MA ρ σ a):∃ o,H a=some o/\Own o:=by
 obtain⟨i,h⟩:=h;obtain⟨p,d,_,m⟩:=r.zmw h;exact m.own
theorem cM.refl:cM ρ ρ σ H H:=⟨fun _ _=>AR,fun _ _ h _=>h⟩
theorem cM.ma(s:cM ρ ρ' σ H H'):MA ρ σ a↔MA ρ' σ a:=by
 constructor
 ·rintro⟨i,⟨p,h⟩,e⟩;exact⟨i,⟨p,(s.md i p).mp h⟩,e⟩
 ·rintro⟨i,⟨p,h⟩,e⟩;exact⟨i,⟨p,(s.md i p).mpr h⟩,e⟩
theorem cM.trans(a:cM ρ ρ' σ H H')(b:cM ρ' ρ'' σ H' iV):cM ρ ρ'' σ H iV :=
 ⟨fun i p=>(a.md i p).trans (b.md i p),fun c o h n=>b.kp c o (a.kp c o h n) fun z=>n (a.ma.mpr z)⟩
theorem cM.of(s:ay H H'):cM ρ ρ σ H H':=⟨fun _ _=>AR,fun a o h _=>s a o h⟩
theorem cM.cD(s:cM ρ ρ' σ H H')(r:Rel K ρ σ H):ax H H':=fun a o h st=>s.kp a o h fun m=>by
 obtain⟨o',e,w⟩:=r.et m;rw[h]at e;cases e;exact w.iI st
theorem jN.mono{a:dm}{c:String}{ds:List D}(f:ax H H')(h:jN K H a c ds):jN K H' a c ds:=by
 obtain⟨C,ns,dx,vs,h1,h2,h3,h4⟩:=h;exact⟨C,ns,dx,vs,h1,f _ _ h2 trivial,h3,h4.mono f⟩
theorem rh.mono{c:String}{ds:List D}{C:dm}{dd:Option dm}(f:ax H H')(h:rh K H c ds C dd):rh K H' c ds C dd:=by
 obtain⟨n,ns,vs,h1,h2,h3,h4⟩:=h;refine⟨n,ns,vs,h1,h2,?_,h4.mono f⟩;cases dd with
 | none=>exact h3
 | some dx=>exact f _ _ h3 trivial
theorem rg.mono{a:dm}{c:String}{ds:List D}(f:ax H H')(h:rg K H a c ds):rg K H' a c ds:=by
 obtain⟨C,dd,h1,h2⟩:=h;exact⟨C,dd,f _ _ h1 trivial,h2.mono f⟩
theorem dF.mono{x:Sl}{v:Option V}(f:ax H H')(k:∀ a,v=some (.ref a)->(∃ p d,x=.ow p d)->H' a=H a)(h:dF K H x v):dF K H' x v:=by
 cases x with
 | no=>trivial
 | val d=>cases v with
  | none=>exact h.elim
  | some v=>exact Fz.mono f d v h
 | ow p d=>cases v with
  | none=>exact h.elim
  | some v=>cases v with
   | ref a=>exact cC.mono f (k a rfl ⟨p,d,rfl⟩) h
   | _=>exact h.elim
 | ob c ds=>cases v with
  | none=>exact h.elim
  | some v=>cases v with
   | ref a=>exact Or.imp (jN.mono f) (rg.mono f) h
   | _=>exact h.elim
theorem Rel.same(r:Rel K ρ σ H)(s:ay H H'):Rel K ρ σ H':=by
 refine⟨r.len,fun i x v e1 e2=>(r.ok i x v e1 e2).mono (ax.of s) fun a e3 ⟨p,d,e4⟩=>?_,r.sep,r.cst.mono (ax.of s)⟩;subst e3;subst e4
 obtain⟨o,e,_⟩:=r.et ⟨i,⟨p,d,e1⟩,e2⟩;rw[e,s a o e]
theorem Rel.put(r:Rel K ρ σ H)(n:¬ MA ρ σ a)(ns:∀ u,H a=some u->¬ pL u):Rel K ρ σ (upd H a o):=by
 have f:ax H (upd H a o):=fun b u e st=>by
  rw[aN fun z=>by subst z;exact ns u e st];exact e
 refine⟨r.len,fun i x v e1 e2=>(r.ok i x v e1 e2).mono f fun b e3 ⟨p,d,e4⟩=>?_,r.sep,r.cst.mono f⟩;subst e3;subst e4
 exact aN fun z=>n ⟨i,⟨p,d,e1⟩,z▸e2⟩
end
noncomputable def wQ:yh->Bool
 | .Starred _ _=>false
 | _=>true
theorem se{a:yh}(h:wQ a=true):yi (a::es) env=(false,yu a env)::yi es env:=by
 cases a <;> first|rfl|cases h
theorem sp(h:es.all wQ=true):(yJ pos (yi es env)).any (·.1)=false:=by
 induction es with
 | nil=>rfl
 | cons a es ih =>
  rw[List.all_cons,zf]at h;rw[se h.1];exact ih h.2
end
variable {c:Bool}{p p2:yn}{s:kb}{g g':D->D->R D}{gL op:Av}{β:Type}{b e:yh}{S:Bool->Hp->Prop}{f h:EF}{t:TF}{pins:List (dm×yp)}{w:gV}{te:TE}{t':TT}{σ:L2.St}{u:HO}{G:List D->R D}{ρ1:En}{i:Int}{fa:AF}{X:Cx}{T:String}{r:List V->Hp->VK->Prop}{d:D}{Q:VK}{x:ir}
section
variable [Cs]
section
theorem zbQ{o:yp}(I:Inv X pins σ H s)(hd:H a=some u)(ow:Own u)(ho:s.heap.get? a=some o):Inv X pins σ (upd H a (.frz o u)) s:=by
 have ne:∀ b w,H b=some w->¬ Own w->b≠a:=fun b w e n z=>by
  subst z;rw[e]at hd;cases hd;exact n ow
 refine Inv.step (s:=s) (h':=s.heap) (H':=upd H a (.frz o u)) (g':=s.gens) (t':=s.toks) (d':=s.drawn) (ch:=[]) I (fun _ z=>nomatch z) (fun b o _ _ _ e _=>e) (fun b o _ _ _ e _=>⟨o.slots,e⟩) (fun b _ _ _ n=>?_) (fun b o _ e=>⟨o,e⟩)
  (fun b xs e=>?_) (fun b o u e=>?_) (fun b ps e=>⟨#[],?_⟩) (fun m hm=>hm) (fun b w e=>?_) I.bare
 ·rw[aN fun z=>by subst z;rw[n]at hd;cases hd];exact n
 ·rw[aN (ne b _ e fun z=>z)];exact e
 ·rw[aN (ne b _ e fun z=>z)];exact e
 ·rw[aN (ne b _ e fun z=>z),e];simp
 ·have st:∀(b:dm) (w:HO),de X.prog X.w H s.heap b w->de X.prog X.w (upd H a (.frz o u)) s.heap b w:=fun b w k =>
   k.jh (fun _ _ _ q=>q) (fun b' q=>by rw[aN (ne b' _ q fun z=>z)];exact q) (fun b' xs q=>q.upd (fun _ r=>ne b' _ r fun z=>z) fun _ _ r=>ne b' _ r fun z=>z)
  by_cases c:b=a
  ·subst c
   rw[ck]at e;cases e;exact⟨ho,st b u (I.au b u hd)⟩
  ·rw[aN c]at e
   exact st b w (I.au b w e)
theorem zih(h:EP X pins σ (fun v H1=>∃ a u,v=.ref a/\H1 a=some u/\Own u/\∀ o,Q v (upd H1 a (.frz o u))) w s):EP X pins σ Q w s:=by
 obtain⟨v,H1,I,r,a,u,e,e1,ow,q⟩:=h;obtain⟨o,ho⟩:=(I.au a u e1).some;exact⟨v,_,zbQ I e1 ow ho,r,q o⟩
def tFz(t:TE):TE:=fun σ H Q=>t σ H fun v H1=>∃ a u,v=.ref a/\H1 a=some u/\Own u/\∀ o,Q v (upd H1 a (.frz o u))
theorem ztT{t:TE}(h:PE X e t):PE X e (tFz t):=fun pins s σ H Q I q=>aI (h pins s σ H _ I q) fun _ _ z=>zih z
end
def Good{β:Type}(K:yf)(ρ:En)(σ:L2.St)(H:Hp)(r:R (β×En))(P:β->En->Hp->Prop):Prop:=match r with
 | .ok x=>∀ H',Rel K x.2 σ H'->cM ρ x.2 σ H H'->P x.1 x.2 H'
 | _=>False
noncomputable def tV(K:yf)(f:EF):TE:=fun σ H Q=>∃ ρ,Rel K ρ σ H/\Good K ρ σ H (f ρ) fun d _ H'=>∀ v,Fz K H' d v->Q v H'
noncomputable def tT(K:yf)(f:TF):TT:=fun σ H Q=>∃ ρ,Rel K ρ σ H/\Good K ρ σ H (f ρ) fun b _ H'=>Q b H'
noncomputable def tA(K:yf)(f:AF):TA:=fun σ H Q=>∃ ρ,Rel K ρ σ H/\Good K ρ σ H (f ρ) fun ds _ H'=>∀ vs,ah K H' ds vs->Q vs H'
noncomputable def tO(K:yf)(f:OF):TO:=fun σ H Q=>∃ ρ,Rel K ρ σ H/\Good K ρ σ H (f ρ) fun o _ H'=>Q o H'
def tN(K:yf)(f:EF):TE:=fun σ H Q=>∃ ρ,Rel K ρ σ H/\Good K ρ σ H (f ρ) fun d ρ' H'=>∀ a,H a=none->cC K H' a d->Q (.ref a) H'
structure PV(K:yf)(X:Cx)(e:yh)(f:EF):Prop where
 run:X.K=K->PE X e (tV K f)
instance {K:yf}{X:Cx}{e:yh}{f:EF}:CoeFun (PV K X e f) fun _=>X.K=K->PE X e (tV K f):=⟨PV.run⟩
structure dY(K:yf)(X:Cx)(e:yh)(f:TF):Prop where
 run:X.K=K->PT X e (tT K f)
instance {K:yf}{X:Cx}{e:yh}{f:TF}:CoeFun (dY K X e f) fun _=>X.K=K->PT X e (tT K f):=⟨dY.run⟩
structure eE(K:yf)(X:Cx)(e:yh)(f:TF):Prop where
 run:X.K=K->PW X e (tT K f)
instance {K:yf}{X:Cx}{e:yh}{f:TF}:CoeFun (eE K X e f) fun _=>X.K=K->PW X e (tT K f):=⟨eE.run⟩
structure cY(K:yf)(X:Cx)(es:List yh)(f:AF):Prop where
 run:X.K=K->PA X es (tA K f)
instance {K:yf}{X:Cx}{es:List yh}{f:AF}:CoeFun (cY K X es f) fun _=>X.K=K->PA X es (tA K f):=⟨cY.run⟩
structure pK(K:yf)(X:Cx)(e:Option yh)(f:OF):Prop where
 run:X.K=K->PO X e (tO K f)
instance {K:yf}{X:Cx}{e:Option yh}{f:OF}:CoeFun (pK K X e f) fun _=>X.K=K->PO X e (tO K f):=⟨pK.run⟩
structure aO(K:yf)(X:Cx)(e:yh)(f:EF):Prop where
 run:X.K=K->PE X e (tN K f)
instance {K:yf}{X:Cx}{e:yh}{f:EF}:CoeFun (aO K X e f) fun _=>X.K=K->PE X e (tN K f):=⟨aO.run⟩
theorem _root_.L2.PE.weak{t t':TE}(h:PE X e t)(w:∀ σ H Q,t' σ H Q->t σ H Q):PE X e t':=fun pins s σ H Q I q=>h pins s σ H Q I (w σ H Q q)
theorem _root_.L2.PT.weak{t:TT}(h:PT X e t)(w:∀ σ H Q,t' σ H Q->t σ H Q):PT X e t':=fun pins s σ H Q I q=>h pins s σ H Q I (w σ H Q q)
theorem _root_.L2.PW.weak{t:TT}(h:PW X e t)(w:∀ σ H Q,t' σ H Q->t σ H Q):PW X e t':=fun wh pins s σ H Q I q=>h wh pins s σ H Q I (w σ H Q q)
theorem _root_.L2.PA.weak{e:List yh}{t t':TA}(h:PA X e t)(w:∀ σ H Q,t' σ H Q->t σ H Q):PA X e t':=fun pos pins s σ H Q I q=>h pos pins s σ H Q I (w σ H Q q)
theorem _root_.L2.PO.weak{e:Option yh}{t t':TO}(h:PO X e t)(w:∀ σ H Q,t' σ H Q->t σ H Q):PO X e t':=fun pins s σ H Q I q=>h pins s σ H Q I (w σ H Q q)
section
variable {K:yf}{γ:Type}
theorem Good.step{r:R (β×En)}{P:β->En->Hp->Prop}(st:cM ρ ρ1 σ H H1)(g:Good K ρ σ H r P):Good K ρ1 σ H1 r P:=by
 cases r with
 | ok x=>exact fun H' rel s=>g H' rel (st.trans s)
 | _=>exact g
theorem Good.bt{r:R (β×En)}{k:β×En->R (γ×En)}{P:γ->En->Hp->Prop}(g:Good K ρ σ H (r.bind k) P):∃ x,r=.ok x/\Good K ρ σ H (k x) P:=by
 cases r with
 | ok x=>exact⟨x,rfl,g⟩
 | _=>exact g.elim
theorem Good.cE{r:R β}{k:β->R (γ×En)}{P:γ->En->Hp->Prop}(g:Good K ρ σ H (r.bind k) P):∃ x,r=.ok x/\Good K ρ σ H (k x) P:=by
 cases r with
 | ok x=>exact⟨x,rfl,g⟩
 | _=>exact g.elim
theorem Good.aY{r:R (γ×En)}{P:γ->En->Hp->Prop}(g:Good K ρ σ H (aY c r) P):c=true/\Good K ρ σ H r P:=by
 cases c with
 | true=>exact⟨rfl,g⟩
 | false=>exact g.elim
theorem Good.now{x:β}{P:β->En->Hp->Prop}(g:Good K ρ σ H (.ok (x,ρ)) P)(rel:Rel K ρ σ H):P x ρ H:=g H rel .refl
theorem Good.new{x:β}{P:β->En->Hp->Prop}(g:Good K ρ σ H (.ok (x,ρ)) P)(rel:Rel K ρ σ H)(s:ay H H1):P x ρ H1:=g H1 (rel.same s) (.of s)
theorem dS{k:D×En->R (β×En)}{S:VK}{P:β->En->Hp->Prop}(rel:Rel K ρ σ H)(g:Good K ρ σ H ((f ρ).bind k) P)
  (h:∀ d ρ1 v H1,Rel K ρ1 σ H1->cM ρ ρ1 σ H H1->Fz K H1 d v->Good K ρ1 σ H1 (k (d,ρ1)) P->S v H1):tV K f σ H S:=by
 obtain⟨x,e,g1⟩:=g.bt;refine⟨ρ,rel,?_⟩;rw[e];exact fun H' r s v fz=>h x.1 x.2 v H' r s fz (g1.step s)
theorem vZ{f:TF}{k:Bool×En->R (β×En)}{P:β->En->Hp->Prop}(rel:Rel K ρ σ H)(g:Good K ρ σ H ((f ρ).bind k) P)
  (h:∀ b ρ1 H1,Rel K ρ1 σ H1->cM ρ ρ1 σ H H1->Good K ρ1 σ H1 (k (b,ρ1)) P->S b H1):tT K f σ H S:=by
 obtain⟨x,e,g1⟩:=g.bt;refine⟨ρ,rel,?_⟩;rw[e];exact fun H' r s=>h x.1 x.2 H' r s (g1.step s)
theorem lP{f:AF}{k:List D×En->R (β×En)}{S:List V->Hp->Prop}{P:β->En->Hp->Prop}(rel:Rel K ρ σ H)(g:Good K ρ σ H ((f ρ).bind k) P)
  (h:∀ ds ρ1 vs H1,Rel K ρ1 σ H1->cM ρ ρ1 σ H H1->ah K H1 ds vs->Good K ρ1 σ H1 (k (ds,ρ1)) P->S vs H1):tA K f σ H S:=by
 obtain⟨x,e,g1⟩:=g.bt;refine⟨ρ,rel,?_⟩;rw[e];exact fun H' r s vs fz=>h x.1 x.2 vs H' r s fz (g1.step s)
theorem goO{f:OF}{k:Option Int×En->R (β×En)}{S:Option Int->Hp->Prop}{P:β->En->Hp->Prop}(rel:Rel K ρ σ H)(g:Good K ρ σ H ((f ρ).bind k) P)
  (h:∀ b ρ1 H1,Rel K ρ1 σ H1->cM ρ ρ1 σ H H1->Good K ρ1 σ H1 (k (b,ρ1)) P->S b H1):tO K f σ H S:=by
 obtain⟨x,e,g1⟩:=g.bt;refine⟨ρ,rel,?_⟩;rw[e];exact fun H' r s=>h x.1 x.2 H' r s (g1.step s)
end
def rD(K:yf)(g:D->D->R D):R2:=fun x y H Q=>∃ dx dy d,Tp K H dx x/\Tp K H dy y/\g dx dy=.ok d/\∀ v H',ay H H'->Fz K H' d v->Q v H'
def rD1(K:yf)(g:D->R D):V->Hp->VK->Prop:=fun x H Q=>∃ dx d,Tp K H dx x/\g dx=.ok d/\∀ v H',ay H H'->Fz K H' d v->Q v H'
noncomputable def uD(K:yf)(G:List D->R D):List V->Hp->VK->Prop:=fun xs H Q=>∃ ds d,ah K H ds xs/\G ds=.ok d/\∀ v H',ay H H'->Fz K H' d v->Q v H'
def rD0(K:yf)(g:D->R D):List V->Hp->VK->Prop:=fun xs H Q=>∃ x dx d,xs=[x]/\Tp K H dx x/\g dx=.ok d/\∀ v H',ay H H'->Fz K H' d v->Q v H'
section
variable {K:yf}{a c:yh}{k:EF}
theorem ae(i:Nat)(hN:X.N[i]?=some x:=by rfl)(hv:vc X.env.scope x:=by first|exact AO rfl|exact Az (AO rfl)|exact Az (Az rfl))(hd:(x==("__debug__":ir))=false:=by decide)
  (gy:(x==("__classdict__":ir))=false:=by decide):PV K X (.Name x pos) (eV i):=.mk fun _=>(zj1 hN hv hd gy).weak fun σ H Q=>by
 rintro⟨ρ,rel,g⟩;unfold eV at g;cases e:ρ[i]? with
 | none=>rw[e]at g;exact g.elim
 | some x =>
  rw[e]at g;cases x with
  | val d =>
   have hl:i<σ.length:=by rw[<- rel.len];exact(yQ.mp e).1
   have o:=rel.ok i _ _ e (yO hl);cases es:σ[i] with
   | none=>rw[es]at o;exact o.elim
   | some v =>
    rw[es]at o;exact⟨v,by rw[yO hl,es],g.now rel v o⟩
  | _=>exact g.elim
theorem uo(h:PE X e (tC v))(hv:∀ H,Fz K H d v):PV K X e (eC d):=.mk fun _=>h.weak fun σ H Q=>by
 rintro⟨ρ,rel,g⟩;exact g.now rel v (hv H)
theorem ao{j}:PV K X (.Constant (.int i) j pos) (eC (.int i)):=uo ztV fun _=>by simp[Fz]
theorem mE{i:Bool}{j}:PV K X (.Constant (.bool i) j pos) (eC (.bool i)):=uo ztJ fun _=>by simp[Fz]
theorem qH{j}:PV K X (.Constant .none j pos) (eC .none):=uo zjY fun _=>by simp[Fz]
theorem cQ{i:ir}{j}:PV K X (.Constant (.str i) j pos) (eC (.str i)):=uo zt1 fun _=>by simp[Fz]
theorem zkl{u:gV}(hg:Gl X x)(hm:X.mg x=some u)(r:RelV v u)(hv:∀ H,Fz K H d v)(hd:(x==("__debug__":ir))=false:=by decide):PV K X (.Name x pos) (eC d):=uo (cP hg hm r hd) hv
theorem vY{r:R2}(ho:∀ x y H Q,rD K g x y H Q->r x y H Q)(σ:L2.St)(H:Hp)(Q:VK)(q:tV K (e2 g f h) σ H Q):ph r (tV K f) (tV K h) σ H Q:=by
 obtain⟨ρ,rel,q⟩:=q;refine dS rel q fun dx ρ1 x H1 aj aB fx q1=>dS aj q1 fun dy ρ2 y H2 bY cg fy q2=>?_;obtain⟨d,ed,q3⟩:=q2.cE;exact ho _ _ _ _ ⟨dx,dy,d,(fx.mono (cg.cD aj)).tp,fy.tp,ed,fun v H' s fz=>q3.new bY s v fz⟩
theorem az{op:Operator}(ho:aQ X (zZ op) (rD X.K g))(ha:PV K X a f)(hb:PV K X b h):PV K X (.BinOp a op b pos) (e2 g f h):=.mk fun hK=>by
 subst hK;exact(zjZ ho (ha rfl) (hb rfl)).weak fun σ H Q q=>vY (fun _ _ _ _ z=>z) σ H Q q
theorem cf(ho:jM X (rD X.K g))(ha:PV K X a f)(hb:PV K X b h)(hs:rQ b:=by exact fun _ _=>rfl):PV K X (.Subscript a b pos) (e2 g f h):=.mk fun hK=>by
 subst hK;exact(zes ho (ha rfl) (hb rfl) hs).weak fun σ H Q q=>vY (fun _ _ _ _ z=>z) σ H Q q
theorem zu9(ho:aQ X (yG op) (rD X.K g))(ha:PV K X a f)(hb:PV K X b h)(hm:Bc op b=false):PV K X (.Compare a [op] [b] pos) (e2 g f h):=.mk fun hK=>by
 subst hK;exact(ztO ho (ha rfl) (hb rfl) hm).weak fun σ H Q q=>vY (fun _ _ _ _ z=>z) σ H Q q
theorem xj{op:UnaryOp}{g:D->R D}(ho:rS X (unaryOp op) (rD1 X.K g))(ha:PV K X a f):PV K X (.UnaryOp op a pos) (e1 g f):=.mk fun hK=>by
 subst hK;exact(zt7 ho (ha rfl)).weak fun σ H Q=>by
  rintro⟨ρ,rel,q⟩;refine dS rel q fun dx ρ1 x H1 aj aB fx q1=>?_;obtain⟨d,ed,q3⟩:=q1.cE;exact⟨dx,d,fx.tp,ed,fun v H' s fz=>q3.new aj s v fz⟩
theorem ziu(σ:L2.St)(H:Hp)(Q:VK)(q:tV K (nR g g' f h k) σ H Q):zfq (rD K g) (rD K g') (tV K f) (tV K h) (tV K k) σ H Q:=by
 obtain⟨ρ,rel,q⟩:=q;refine dS rel q fun dx ρ1 x H1 aj aB fx q1=>dS aj q1 fun dy ρ2 y H2 bY cg fy q2=>?_;obtain⟨d,ed,q3⟩:=q2.cE;refine⟨dx,dy,d,(fx.mono (cg.cD aj)).tp,fy.tp,ed,fun v H' s fz=>?_⟩;cases d with
 | bool bb =>
  simp only[Fz]at fz;subst fz;have iL:=bY.same s;have q4:=q3.step (.of s);cases bb with
  | true =>
   refine⟨true,rfl,jt ?_⟩;refine dS iL q4 fun dz ρ3 z H3 zeV xN fzz q5=>?_;obtain⟨d2,sH,q6⟩:=q5.cE;exact⟨dy,dz,d2,((fy.mono (ax.of s)).mono (xN.cD iL)).tp,fzz.tp,sH,fun v H' s fz=>q6.new zeV s v fz⟩
  | false=>exact⟨false,rfl,js (q4.now iL _ (by simp[Fz]))⟩
 | _=>exact q3.elim
theorem zu8(ho:aQ X (yG op) (rD X.K g))(eS:aQ X (yG gL) (rD X.K g'))(ha:PV K X a f)(hb:PV K X b h)(hc:PV K X c k)
  (hm:lastMarks [op,gL] [b,c]=false:=by with_unfolding_all rfl):PV K X (.Compare a [op,gL] [b,c] pos) (nR g g' f h k):=.mk fun hK=>by
 subst hK;exact(ztN ho eS (ha rfl) (hb rfl) (hc rfl) hm).weak fun σ H Q q=>ziu σ H Q q
theorem ur{op}(ha:PV K X a f):PV K X (.BoolOp op [a] pos) f:=.mk fun hK=>ztZ (ha hK)
theorem qG{rest:List yh}(ha:PV K X a f)(hb:PV K X (.BoolOp .And (b::rest) pos) h):PV K X (.BoolOp .And (a::b::rest) pos) (i3 f h):=.mk fun hK=>(ztI (ha hK) (hb hK)).weak fun σ H Q=>by
 rintro⟨ρ,rel,q⟩;refine dS rel q fun dx ρ1 x H1 aj aB fx q1=>?_;cases dx with
 | bool bb =>
  simp only[Fz]at fx;subst fx;cases bb with
  | true=>exact⟨true,rfl,jt ⟨ρ1,aj,q1⟩⟩
  | false=>exact⟨false,rfl,js (q1.now aj _ (by simp[Fz]))⟩
 | _=>exact q1.elim
theorem zvg(ha:PV K X a f):PV K X (.UnaryOp .Not a pos) (zbb f):=.mk fun hK=>(ztY (ha hK)).weak fun σ H Q=>by
 rintro⟨ρ,rel,q⟩;refine dS rel q fun dx ρ1 x H1 aj aB fx q1=>?_;cases dx with
 | bool bb =>
  simp only[Fz]at fx;subst fx;exact⟨bb,rfl,q1.now aj _ (by simp[Fz])⟩
 | _=>exact q1.elim
theorem zkm(hc:dY K X c t)(ha:PV K X a f)(hb:PV K X b h):PV K X (.IfExp c a b pos) (sF t f h):=.mk fun hK=>(ztU (hc hK) (ha hK) (hb hK)).weak fun σ H Q=>by
 rintro⟨ρ,rel,q⟩;refine vZ rel q fun cb ρ1 H1 aj aB q1=>?_;cases cb with
 | true=>exact jt ⟨ρ1,aj,q1⟩
 | false=>exact js ⟨ρ1,aj,q1⟩
theorem qI:cY K X [] af:=.mk fun _=>jy.weak fun σ H Q=>by
 rintro⟨ρ,rel,q⟩;exact q.now rel [] (by simp[ah])
theorem dJ(ha:PV K X a f)(hr:cY K X es fa)(hs:yi (a::es) X.env=(false,yu a X.env)::yi es X.env:=by exact FL.se rfl):cY K X (a::es) (aa f fa):=.mk fun hK=>(gh (ha hK) (hr hK) hs).weak fun σ H Q=>by
 rintro⟨ρ,rel,q⟩;refine dS rel q fun dx ρ1 x H1 aj aB fx q1=>lP aj q1 fun ds ρ2 vs H2 bY cg fs q2=>?_;exact q2.now bY _ (by simp only[ah];exact⟨x,vs,rfl,fx.mono (cg.cD aj),fs⟩)
theorem oI:lim<=yz:=by rw[zC];decide
theorem cK{x1}(h:cY K X es fa):PV K X (.Tuple es x1 pos) (bg fa):=.mk fun hK=>(zt6 (h hK)).weak fun σ H Q=>by
 rintro⟨ρ,rel,q⟩;refine lP rel q fun ds ρ1 vs H1 aj aB fs q1=>?_;obtain⟨c,q2⟩:=q1.aY;refine⟨by rw[fs.len];exact zA (lY c) oI,fun p hp=>?_⟩;have s:ay H1 (upd H1 p (.tup vs)):=ay.upd hp;refine q2.new aj s _ ?_;simp only[Fz];exact⟨p,vs,rfl,.inl ck,fs.mono (ax.of s)⟩
theorem dq(h:cY K X es fa):aO K X (.List es pos) (bf fa):=.mk fun hK=>(zet (h hK)).weak fun σ H Q=>by
 rintro⟨ρ,rel,q⟩;refine lP rel q fun ds ρ1 vs H1 aj aB fs q1=>?_;obtain⟨c,q2⟩:=q1.aY;refine⟨by rw[fs.len];exact zA (lY c) oI,fun p hp=>?_⟩;have s:ay H1 (upd H1 p (.lst vs)):=ay.upd hp;refine q2.new aj s p ?_ ?_
 ·cases e:H p with
  | none=>rfl
  | some o =>
   by_cases m:MA ρ σ p
   ·obtain⟨o',e',_⟩:=aj.et (aB.ma.mp m)
    rw[hp]at e';cases e'
   ·rw[aB.kp p o e m]at hp;cases hp
 ·exact⟨vs,ck,fs.mono (ax.of s)⟩
theorem aO.pv{f:EF}(h:aO K X e f):PV K X e f:=.mk fun hK=>(ztT (h hK)).weak fun σ H Q=>by
 rintro⟨ρ,rel,q⟩;refine⟨ρ,rel,?_⟩;cases e:f ρ with
 | ok x =>
  rw[e]at q;intro H' uE st a ha m;obtain⟨u,e1,ow⟩:=m.own;refine⟨a,u,rfl,e1,ow,fun o=>?_⟩;have fB:¬ MA ρ σ a:=fun z=>by
   obtain⟨o',e',_⟩:=rel.et z;rw[ha]at e';cases e'
  have nma':¬ MA x.2 σ a:=fun z=>fB (st.ma.mpr z);have fz:ax H' (upd H' a (.frz o u)):=fun b w e2 sy=>by
   rw[aN fun z=>by subst z;rw[e1]at e2;cases e2;exact ow.iI sy];exact e2
  refine q _ (uE.put nma' fun u' e2=>by rw[e1]at e2;cases e2;exact ow.iI) ⟨st.md,fun b w e2 n=>?_⟩ _ ?_
  ·rw[aN fun z=>by subst z;rw[ha]at e2;cases e2]
   exact st.kp b w e2 n
  ·obtain⟨d,ρ'⟩:=x
   cases d with
   | list ds =>
    obtain⟨vs,h1,h2⟩:=m;rw[e1]at h1;cases h1;simp only[Fz];exact⟨a,vs,rfl,.inl ⟨o,ck⟩,h2.mono fz⟩
   | dict ag =>
    simp only[Fz];obtain⟨kk,h1,h2⟩:=m;rw[e1]at h1;cases h1;exact⟨a,o,rfl,⟨kk,ck,h2.mono fz⟩⟩
   | _=>exact m.elim
 | _=>rw[e]at q;exact q.elim
theorem goC(hr:∀ xs H Q,uD K G xs H Q->r xs H Q)(σ:L2.St)(H:Hp)(Q:VK)(q:tV K (av G fa) σ H Q):tCB r (tA K fa) σ H Q:=by
 obtain⟨ρ,rel,q⟩:=q;refine lP rel q fun ds ρ1 vs H1 aj aB fs q1=>?_;obtain⟨d,ed,q2⟩:=q1.cE;exact hr _ _ _ ⟨ds,d,fs,ed,fun v H' s fz=>q2.new aj s v fz⟩
theorem zkk{id:String}(hc:gB X (.builtin id) (uD X.K G))(hg:Gl X x)(hm:X.mg x=none)(hv:zj x=some (.builtin id))(ha:cY K X (e::es) fa)(hn:x ≠ "__name__":=by decide)(bp:(x==("__debug__":ir))=false:=by decide)
  (he:yi (e::es) X.env=(false,yu e X.env)::yi es X.env:=by exact FL.se rfl) (aS:(yJ pos (yi es X.env)).any (·.1)=false:=by exact FL.sp rfl):PV K X (.Call (.Name x p) (e::es) [] pos) (av G fa):=.mk fun hK=>by
 subst hK;exact(zeq hc hg hm hv (ha rfl) hn bp he aS).weak fun σ H Q q=>goC (fun _ _ _ z=>z) σ H Q q
theorem zu7(hc:gB X (.type T) (uD X.K G))(hg:Gl X x)(hm:X.mg x=none)(hv:zj x=some (.type T))(ha:cY K X (e::es) fa)(hn:x ≠ "__name__":=by decide)(bp:(x==("__debug__":ir))=false:=by decide)
  (he:yi (e::es) X.env=(false,yu e X.env)::yi es X.env:=by exact FL.se rfl) (aS:(yJ pos (yi es X.env)).any (·.1)=false:=by exact FL.sp rfl):PV K X (.Call (.Name x p) (e::es) [] pos) (av G fa):=.mk fun hK=>by
 subst hK;exact(zjV hc hg hm hv (ha rfl) hn bp he aS).weak fun σ H Q q=>goC (fun _ _ _ z=>z) σ H Q q
variable {lo hi:Option yh}{fl fh:OF}
theorem xl:pK K X none kT:=.mk fun _=>zut.weak fun σ H Q=>by
 rintro⟨ρ,rel,q⟩;exact q.now rel
theorem xm(h:PV K X a f):pK K X (some a) (kU f):=.mk fun hK=>(zuu (h hK)).weak fun σ H Q=>by
 rintro⟨ρ,rel,q⟩;refine dS rel q fun dx ρ1 x H1 aj aB fx q1=>?_;cases dx with
 | int i =>
  simp only[Fz]at fx;exact⟨i,fx,q1.now aj⟩
 | _=>exact q1.elim
def zkF(K:yf):V->Option Int->Option Int->Hp->VK->Prop:=fun x lo hi H Q=>∃ dx d,Tp K H dx x/\ze4 dx lo hi=.ok d/\∀ v H',ay H H'->Fz K H' d v->Q v H'
theorem xi(hr:rR X (zkF X.K))(he:PV K X a f)(hl:pK K X lo fl)(hu:pK K X hi fh):PV K X (.Subscript a (.Slice lo hi none p2) pos) (kA f fl fh):=.mk fun hK=>by
 subst hK;exact(zt0 hr (he rfl) (hl rfl) (hu rfl)).weak fun σ H Q=>by
  rintro⟨ρ,rel,q⟩;refine dS rel q fun dx ρ1 x H1 aj aB fx q1=>goO aj q1 fun l ρ2 H2 bY cg q2=>goO bY q2 fun u ρ3 H3 iL o9 q3=>?_;obtain⟨d,ed,q4⟩:=q3.cE;exact⟨dx,d,((fx.mono (cg.cD aj)).mono (o9.cD bY)).tp,ed,fun v H' s fz=>q4.new iL s v fz⟩
variable {u:TF}
theorem fP(hv:zax X (fun x H Q=>∃ d k,Tp X.K H d x/\pj d=.ok k/\Q k H))(h:PV K X a f)(he:∀ whole,isTrue a X.env whole=(do let v <- whole;AG a.pos;Ak [v] (truthy v)):=by intro _;rfl):dY K X a (tE f):=.mk fun hK=>by
 subst hK;intro pins s σ H Q I q;rw[he];obtain⟨ρ,rel,q⟩:=q;refine yg (aI (h rfl pins s σ H (fun x H'=>∃ d k,Tp X.K H' d x/\pj d=.ok k/\Q k H') I ?_) fun v s1 ⟨x,H1,I1,r1,q1⟩=>yg (Bo (zH (hv pins s1 σ H1 x v Q I1 r1 q1))));refine dS rel q fun dx ρ1 x H1 aj aB fx q1=>?_;obtain⟨d,ed,q2⟩:=q1.cE;exact⟨dx,d,fx.tp,ed,q2.now aj⟩
theorem sV(hw:∀ σ H Q,tV K f σ H Q->te σ H Q)(σ:L2.St)(H:Hp)(Q:Bool->Hp->Prop)(q:tT K (tB f) σ H Q):te σ H fun x H'=>∃ k,x=.bl k/\Q k H':=by
 obtain⟨ρ,rel,q⟩:=q;refine hw σ H _ (dS rel q fun dx ρ1 x H1 aj aB fx q1=>?_);cases dx with
 | bool bb =>
  simp only[Fz]at fx;exact⟨bb,fx,q1.now aj⟩
 | _=>exact q1.elim
theorem zvD(ho:aQ X (yG op) (rD X.K g))(ha:PV K X a f)(hb:PV K X b h)(hm:Bc op b=false):dY K X (.Compare a [op] [b] pos) (tB (e2 g f h)):=.mk fun hK=>by
 subst hK;exact(xg ho (ha rfl) (hb rfl) hm).weak fun σ H Q q=>sV (fun σ H Q z=>vY (fun _ _ _ _ z=>z) σ H Q z) σ H Q q
theorem zeQ(ha:dY K X a t):eE K X (.BoolOp .And [a] pos) t:=.mk fun hK=>zvK (ha hK)
theorem lh(ha:dY K X a t):eE K X (.BoolOp .Or [a] pos) t:=.mk fun hK=>zvM (ha hK)
theorem zeP{rest:List yh}(ha:dY K X a t)(hb:eE K X (.BoolOp .And (b::rest) pos) u):eE K X (.BoolOp .And (a::b::rest) pos) (FL.qQ t u):=.mk fun hK=>(zvJ (ha hK) (hb hK)).weak fun σ H Q=>by
 rintro⟨ρ,rel,q⟩;refine vZ rel q fun cb ρ1 H1 aj aB q1=>?_;cases cb with
 | true=>exact jt ⟨ρ1,aj,q1⟩
 | false=>exact js (q1.now aj)
theorem jd{rest:List yh}(ha:dY K X a t)(hb:eE K X (.BoolOp .Or (b::rest) pos) u):eE K X (.BoolOp .Or (a::b::rest) pos) (FL.eB t u):=.mk fun hK=>(zvL (ha hK) (hb hK)).weak fun σ H Q=>by
 rintro⟨ρ,rel,q⟩;refine vZ rel q fun cb ρ1 H1 aj aB q1=>?_;cases cb with
 | true=>exact jt (q1.now aj)
 | false=>exact js ⟨ρ1,aj,q1⟩
theorem eE.jb(h:eE K X a t):dY K X a t:=.mk fun hK=>(h hK).pt
theorem fe(ha:dY K X a t):dY K X (.UnaryOp .Not a pos) (FL.cR t):=.mk fun hK=>(zuW (ha hK)).weak fun σ H Q=>by
 rintro⟨ρ,rel,q⟩;exact vZ rel q fun cb ρ1 H1 aj aB q1=>q1.now aj
theorem zeO(ho:aQ X (yG op) (rD X.K g))(eS:aQ X (yG gL) (rD X.K g'))(ha:PV K X a f)(hb:PV K X b h)(hc:PV K X c k)
  (hm:lastMarks [op,gL] [b,c]=false:=by with_unfolding_all rfl):dY K X (.Compare a [op,gL] [b,c] pos) (tB (nR g g' f h k)):=.mk fun hK=>by
 subst hK;exact(zuV ho eS (ha rfl) (hb rfl) (hc rfl) hm).weak fun σ H Q q=>sV (fun σ H Q z=>ziu σ H Q z) σ H Q q
end
end
variable {p:Int->Int->Bool}{G:D->D->R D}
section
variable [Cs]
theorem zyP(A:yy)(s:kb)(a:Int)(t:yP)(c:Int)(u:yP)(prog:yw)(w:yv)(E:gV->kb->Prop)(Q:gV->kb->Prop)(h:Q (.bool (decide (a<=c))) s) :
  yj (ym prog w) A (richCompare .LtE (.int a t) (.int c u)) Q E s :=
 (PyProof.Rows.le_int h:yj (ym prog w) A (yG .LtE (.int a t) (.int c u)) Q E s)
end
variable {c:Int->Int->Bool}{α:Type}{g:Int->Int->Int}{vs:List V}{k:Nat}{q:List Int->List Int->Bool}{C:Int->Int->Prop}
section
variable [Cs]
section
variable {K:yf}
mutual
theorem Fz.is:∀(d:yI) (v:V),Dj d=true->Fz K H d v->Is K H d v
 | .none,v,_,h=>by simp only[Fz]at h;simp only[Is];exact h
 | .bool b,v,_,h=>by simp only[Fz]at h;simp only[Is];exact h
 | .int i,v,_,h=>by simp only[Fz]at h;simp only[Is];exact h
 | .str x,v,_,h=>by simp only[Fz]at h;simp only[Is];exact h
 | .list xs,v,c,h=>by
  simp only[Fz]at h;simp only[Is]
  obtain⟨a,vs,e1,h1,h2⟩:=h;exact⟨a,vs,e1,h1.sq,ah.is xs vs c h2⟩
 | .tuple xs,v,c,h=>by
  simp only[Fz]at h;simp only[Is]
  obtain⟨a,vs,e1,h1,h2⟩:=h;exact⟨a,vs,e1,.inl h1,ah.is xs vs c h2⟩
 | .dict ag,v,c,h=>by simp[Dj]at c
theorem ah.is:∀(ds:List yI) (vs:List V),D3 ds=true->ah K H ds vs->ig K H ds vs
 | [],vs,_,h=>by simp only[ah]at h;simp only[ig];exact h
 | d::ds,vs,c,h=>by
  simp only[D3,zf]at c;simp only[ah]at h;simp only[ig]
  obtain⟨v,r,e1,h1,h2⟩:=h;exact⟨v,r,e1,Fz.is d v c.1 h1,ah.is ds r c.2 h2⟩
end
theorem Tp.is{d:yI}{v:V}(c:Dj d=true)(h:Tp K H d v):Is K H d v:=by
 cases d with
 | list ds =>
  obtain⟨a,vs,e,h1,h2⟩:=h;simp only[Is];exact⟨a,vs,e,h1,ah.is ds vs c h2⟩
 | dict ag=>simp[Dj]at c
 | none=>exact Fz.is _ _ c h
 | bool b=>exact Fz.is _ _ c h
 | int b=>exact Fz.is _ _ c h
 | str b=>exact Fz.is _ _ c h
 | tuple b=>exact Fz.is _ _ c h
theorem Tp.int(h:Tp K H (.int i) v):v=.int i:=by simpa[Tp,Fz] using h
theorem Tp.bool{i:Bool}(h:Tp K H (.bool i) v):v=.bl i:=by simpa[Tp,Fz] using h
theorem Tp.none(h:Tp K H .none v):v=.non:=by simpa[Tp,Fz] using h
theorem Tp.zxW{ds:List yI}(h:Tp K H (.tuple ds) v):∃ a vs,v=.ref a/\dB H a vs/\ah K H ds vs:=by simpa[Tp,Fz] using h
theorem Tp.tup{ds:List yI}{v:V}(h:Tp K H (.tuple ds) v):∃ a vs,v=.ref a/\dO K H a vs/\ah K H ds vs :=
 let⟨a,vs,x,y,z⟩:=Tp.zxW h
 ⟨a,vs,x,.inl y,z⟩
theorem Tp.lst{ds:List yI}{v:V}(h:Tp K H (.list ds) v):∃ a vs,v=.ref a/\bq K H a vs/\ah K H ds vs:=h
theorem cm(i:Int):Fz K H (.int i) (.int i):=by simp[Fz]
theorem iy(i:Bool):Fz K H (.bool i) (.bl i):=by simp[Fz]
theorem fY{ds:List yI}(h:dB H a vs)(f:ah K H ds vs):Fz K H (.tuple ds) (.ref a):=by simp only[Fz];exact⟨a,vs,rfl,h,f⟩
theorem ah.dQ{ds:List yI}{vs:List V}{i:Int}{d:yI}(h:ah K H ds vs)(e:FL.dQ ds i=some d):∃ v,L2.dQ vs i=some v/\Fz K H d v:=by
 unfold FL.dQ at e;cases en:FL.gz ds.length i with
 | none=>rw[en]at e;cases e
 | some j =>
  rw[en]at e;obtain⟨v,e1,f⟩:=h.get (show ds[j]?=some d from e);refine⟨v,?_,f⟩;unfold L2.dQ;rw[h.len,show L2.gz ds.length i=some j from en];exact e1
theorem ah.cut{ds:List yI}{vs:List V}(h:ah K H ds vs)(lo hi:Option Int):ah K H (FL.cut ds lo hi) (kq vs lo hi):=by
 unfold FL.cut kq;rw[h.len];exact(h.drop _).take _
end
theorem fX{c:Bool}{r:R α}{d:α}(h:aY c r=.ok d):c=true/\r=.ok d:=by
 cases c with
 | true=>exact⟨rfl,h⟩
 | false=>exact nomatch (show(R.bad:R α)=.ok d from h)
section
theorem sL{ds:List D}(f:ah X.K H ds vs)(q:∀ v H',ay H H'->Fz X.K H' (.list ds) v->Q v H')
  (h:EP X pins σ (fun v H1=>∃ p,v=.ref p/\H p=none/\H1=upd H p (.lst vs)) w s):EP X pins σ Q w s:=by
 obtain⟨v,H1,I,r,p,rfl,hp,rfl⟩:=h;refine zih ⟨.ref p,_,I,r,p,.lst vs,rfl,ck,trivial,fun o=>?_⟩;rw[zye];refine q _ _ (ay.upd hp) ?_;simp only[Fz];exact⟨p,vs,rfl,.inl ⟨o,ck⟩,f.mono (ax.of (ay.upd hp))⟩
theorem bQ:aQ X (zZ .Add) (rD X.K aG):=by
 intro pins s σ H x y v u Q I rx ry h;obtain⟨dx,dy,d,tx,ty,e,q⟩:=h;cases dx with
 | int i =>
  cases dy with
  | int j=>cases e;exact ztk pins s σ H x y v u Q I rx ry ⟨i,j,tx.int,ty.int,q _ H (ay.refl _) (cm _)⟩
  | _=>exact nomatch (show(R.bad:R D)=.ok d from e)
 | list a =>
  cases dy with
  | list b =>
   obtain⟨c,e⟩:=fX (show aY (leB (a.length+b.length) lim) (.ok (.list (a++b)))=.ok d from e)
   ·cases e
    obtain⟨l,xs,rfl,sx,fx⟩:=tx.lst;obtain⟨m,ys,rfl,sy,fy⟩:=ty.lst;cases rx;cases ry;obtain⟨its,r1,⟨o,n,ho,hc,hdn,hd⟩,z1⟩:=I.list sx;obtain⟨lW,r2,⟨o2,n2,e8,iz,ziG,hd2⟩,z2⟩:=I.list sy;obtain⟨cls,dd,data,sl⟩:=o;obtain⟨za0,kr,data2,kj⟩:=o2;simp only at hc hd iz hd2 hdn ziG;subst hc hd iz hd2 hdn ziG;have hz:its.length+lW.length<=yz:=by
     have:=lY c;have l0:=oI;rw[<- r1.length,<- r2.length,fx.len,fy.len]
     omega
    refine aI (DC (Q:=EP X pins σ fun v H1=>∃ p,v=.ref p/\H p=none/\H1=upd H p (.lst (xs++ys))) ⟨_,ho,rfl⟩ ⟨_,e8,rfl⟩ PySem.noFill_list_add PySem.seq_list_add PySem.F.slot_list_add PySem.F.entry_list_add (PySem.F.args_list_add_2 _ _)
     (list_addW l m its.toArray lW.toArray n n2 none none sl kj (by rw[yU,yU];exact hz)) ⟨ho,e8,?_⟩) fun _ _ z=>sL (fx.app fy) q z
    have ea:its.toArray++lW.toArray=(its++lW).toArray:=by simp
    rw[ea];exact⟨.ref _,_,I.zjd (t':=s.toks) (r1.append r2) (by rw[Br,r1.length,r2.length];exact hz),rfl,_,rfl,I.fresh,rfl⟩
  | _=>exact nomatch (show(R.bad:R D)=.ok d from e)
 | tuple a =>
  cases dy with
  | tuple b =>
   obtain⟨c,e⟩:=fX (show aY (leB (a.length+b.length) lim) (.ok (.tuple (a++b)))=.ok d from e)
   ·cases e
    obtain⟨l,xs,rfl,sx,fx⟩:=tx.tup;obtain⟨m,ys,rfl,sy,fy⟩:=ty.tup;have hz:xs.length+ys.length<=yz:=by
     have:=lY c;have l0:=oI;rw[fx.len,fy.len]
     omega
    by_cases x0:xs=[]
    ·subst x0
     have a0:a=[]:=by have:=fx.len;cases a with|nil=>rfl|cons _ _=>simp at this
     subst a0;cases rx;cases ry;obtain⟨its,r1,p1,z1⟩:=I.tuple sx;obtain⟨lW,r2,p2,z2⟩:=I.tuple sy;cases r1;obtain⟨⟨cls,dd,data,sl⟩,ho,hc,n,hd⟩:=id p1;obtain⟨⟨za0,kr,data2,kj⟩,e8,iz,n2,hd2⟩:=id p2;simp only at hc hd iz hd2;subst hc hd iz hd2;exact DC ⟨_,ho,rfl⟩ ⟨_,e8,rfl⟩ EH EI EJ EK (EL _ _)
      (tuple_addW0 l m #[] lW.toArray n n2 dd kr sl kj rfl) ⟨ho,e8,⟨.ref m,H,I.tok _,rfl,q _ H (ay.refl _) ty⟩⟩
    ·exact ztl pins s σ H _ _ v u Q I rx ry ⟨l,m,xs,ys,rfl,rfl,sx,sy,x0,hz,fun y0=>by
      subst y0;have b0:b=[]:=by have:=fy.len;cases b with|nil=>rfl|cons _ _=>simp at this
      subst b0;rw[Am]at q;exact q _ H (ay.refl _) tx,fun _ p hp=>q _ _ (ay.upd hp) (fY (.inl ck) ((fx.app fy).mono (ax.of (ay.upd hp))))⟩
  | _=>exact nomatch (show(R.bad:R D)=.ok d from e)
 | _=>exact nomatch (show(R.bad:R D)=.ok d from e)
theorem wR{f:gV->gV->zk gV}(ho:aQ X f (rI C fun i j=>.int (g i j)))(hC:∀ i j,c i j=true->C i j)
  (hG:∀ dx dy d,G dx dy=.ok d->∃ i j,dx=.int i/\dy=.int j/\c i j=true/\d=.int (g i j)):aQ X f (rD X.K G):=by
 intro pins s σ H x y v u Q I rx ry h;obtain⟨dx,dy,d,tx,ty,e,q⟩:=h;obtain⟨i,j,rfl,rfl,cc,rfl⟩:=hG _ _ _ e;exact ho pins s σ H x y v u Q I rx ry ⟨i,j,tx.int,ty.int,hC i j cc,q _ H (ay.refl _) (cm _)⟩
theorem vW(h:∀ i j,G (.int i) (.int j)=aY (c i j) (.ok (.int (g i j))))(h0:∀ dx dy,(¬ ∃ i j,dx=.int i/\dy=.int j)->G dx dy=.bad) :
  ∀ dx dy d,G dx dy=.ok d->∃ i j,dx=.int i/\dy=.int j/\c i j=true/\d=.int (g i j):=by
 intro dx dy d e
 by_cases k:∃ i j,dx=.int i/\dy=.int j
 ·obtain⟨i,j,rfl,rfl⟩:=k
  rw[h]at e;obtain⟨cc,e⟩:=fX e;cases e;exact⟨i,j,rfl,rfl,cc,rfl⟩
 ·rw[h0 _ _ k]at e;cases e
theorem wN{dx dy:D}(hb:∀ dx dy,(∀ i,dx≠.int i)->G dx dy=.bad)(hb2:∀ i dy,(∀ j,dy≠.int j)->G (.int i) dy=.bad)(h:¬ ∃ i j,dx=.int i/\dy=.int j):G dx dy=.bad:=by
 cases dx with
 | int i=>exact hb2 i dy fun j e=>h ⟨i,j,rfl,e⟩
 | _=>exact hb _ _ fun i e=>nomatch e
theorem kW:aQ X (zZ .Sub) (rD X.K dN):=wR (C:=fun _ _=>True) (c:=fun _ _=>true) (g:=fun i j=>i-j)
 (fun pins s σ H x y v u Q I rx ry ⟨i,j,e1,e2,_,q⟩=>ztz pins s σ H x y v u Q I rx ry ⟨i,j,e1,e2,q⟩) (fun _ _ _=>trivial)
 (vW (fun _ _=>rfl) fun dx dy h=>wN (fun dx dy h=>by cases dx <;> first|rfl|exact absurd rfl (h _)) (fun i dy h=>by cases dy <;> first|rfl|exact absurd rfl (h _)) h)
theorem zsG{j:Int}(h:t7 i j=true):IntMulOk i j:=by
 have:=lY h;have b:∀ k:Int,k.natAbs<2^(k.natAbs.log2+1):=fun k=>Nat.lt_log2_self;exact mulOk_of (a:=i.natAbs.log2+1) (b:=j.natAbs.log2+1) (b i) (b j) (by omega)
theorem ztn(hr:aM k X.A):aQ X (zZ .FloorDiv) (rI (fun _ j=>j≠0) fun i j=>.int (i.fdiv j)):=by
 intro pins s σ H x y v u Q I rx ry h;obtain⟨i,j,rfl,rfl,hc,q⟩:=h;obtain⟨t,rfl⟩:=rx;obtain⟨t',rfl⟩:=ry;exact floordiv_int hc ⟨.int (i.fdiv j),H,I.tok _,⟨_,rfl⟩,q⟩ (.inr (I.pyl (by have:=hr.dp;omega)))
theorem jx(hr:aM k X.A):aQ X (zZ .FloorDiv) (rD X.K bK):=wR (C:=fun _ j=>j≠0) (c:=fun i j=>decide (j≠0)) (g:=fun i j=>i.fdiv j) (ztn hr) (fun i j h=>by simpa using h)
 (vW (fun _ _=>rfl) fun dx dy h=>wN (fun dx dy h=>by cases dx <;> first|rfl|exact absurd rfl (h _)) (fun i dy h=>by cases dy <;> first|rfl|exact absurd rfl (h _)) h)
theorem oO:aQ X (zZ .Mod) (rD X.K fA):=wR (C:=fun _ j=>j≠0) (c:=fun i j=>decide (j≠0)) (g:=fun i j=>i.fmod j) ztu (fun i j h=>by simpa using h)
 (vW (fun _ _=>rfl) fun dx dy h=>wN (fun dx dy h=>by cases dx <;> first|rfl|exact absurd rfl (h _)) (fun i dy h=>by cases dy <;> first|rfl|exact absurd rfl (h _)) h)
theorem i9:aQ X (zZ .Pow) (rD X.K dA):=wR (C:=zfG) (c:=fun i j=>decide (0<=j)&&leB j.toNat 1000000&&leB i.natAbs 18446744073709551615) (g:=fun i j=>i^j.toNat) ztx (fun i j h=>by simp only[zf,decide_eq_true_eq,leB_iff]at h;exact⟨h.1.1,by omega,by omega⟩)
 (vW (fun _ _=>rfl) fun dx dy h=>wN (fun dx dy h=>by cases dx <;> first|rfl|exact absurd rfl (h _)) (fun i dy h=>by cases dy <;> first|rfl|exact absurd rfl (h _)) h)
theorem xX:rS X (unaryOp .USub) (rD1 X.K oN):=by
 intro pins s σ H x v Q I rx h;obtain⟨dx,d,tx,e,q⟩:=h;cases dx with
 | int i=>cases e;exact zya pins s σ H x v Q I rx ⟨i,tx.int,q _ H (ay.refl _) (cm _)⟩
 | _=>exact nomatch (show(R.bad:R D)=.ok d from e)
theorem zs2(hu:X.A.units+64<zb):aQ X (yG .Eq) (rD X.K cy):=by
 intro pins s σ H x y v u Q I rx ry h;obtain⟨dx,dy,d,tx,ty,e,q⟩:=h;obtain⟨c,e⟩:=fX e
 ·cases e
  simp only[zf]at c;exact ztm hu pins s σ H x y v u Q I rx ry ⟨dx,dy,tx.is (AU c.1),ty.is (AU c.2),c.1,c.2,q _ H (ay.refl _) (iy _)⟩
theorem zs7(hu:X.A.units+64<zb):aQ X (yG .NotEq) (rD X.K eL):=by
 intro pins s σ H x y v u Q I rx ry h;obtain⟨dx,dy,d,tx,ty,e,q⟩:=h;obtain⟨c,e⟩:=fX e
 ·cases e
  simp only[zf]at c;exact ztw hu pins s σ H x y v u Q I rx ry ⟨dx,dy,tx.is (AU c.1),ty.is (AU c.2),c.1,c.2,q _ H (ay.refl _) (iy _)⟩
theorem zdu:∀ a b,FL.lexLt a b=HT.lexLt a b
 | [],[]=>rfl
 | [],_::_=>rfl
 | _::_,[]=>rfl
 | x::xs,y::ys=>by unfold FL.lexLt HT.lexLt;rw[zdu xs ys]
theorem zs1(hi:aQ X (yG op) (ll fun i j=>.bl (p i j)))
  (ht:∀{s:kb} {l b:dm} {items iD:Array gV} {ns ms:List Int} {Q:gV->kb->Prop},Ba s.heap l items->Ba s.heap b iD->An items.toList ns->An iD.toList ms ->
   Q (.bool (q ns ms)) s->yj (ym X.prog X.w) X.A (yG op (.ref l) (.ref b)) Q X.xe s):aQ X (yG op) (rD X.K (zhQ p q)):=by
 intro pins s σ H x y v u Q I rx ry h;obtain⟨dx,dy,d,tx,ty,e,k⟩:=h;cases dx with
 | int i =>
  cases dy with
  | int j=>cases e;exact hi pins s σ H x y v u Q I rx ry ⟨i,j,tx.int,ty.int,k _ H (ay.refl _) (iy _)⟩
  | _=>exact nomatch (show(R.bad:R D)=.ok d from e)
 | tuple a =>
  cases dy with
  | tuple b =>
   replace e:((R.of (intsOf a)).bind fun x=>(R.of (intsOf b)).bind fun y=>R.ok (AQ (q x y)))=.ok d:=e;cases ea:intsOf a with
   | none=>rw[ea]at e;cases e
   | some ns =>
    cases eb:intsOf b with
    | none=>rw[ea,eb]at e;cases e
    | some ms =>
     rw[ea,eb]at e;cases e;obtain⟨l,xs,rfl,sx,fx⟩:=tx.tup;obtain⟨m,ys,rfl,sy,fy⟩:=ty.tup;cases rx;cases ry;obtain⟨rfl,_⟩:=fx.ints ea;obtain⟨rfl,_⟩:=fy.ints eb;obtain⟨its,r1,p1,_⟩:=I.tuple sx;obtain⟨lW,r2,p2,_⟩:=I.tuple sy;exact ht p1 p2 (intsAre_of r1) (intsAre_of r2) ⟨.bl (q ns ms),H,I,rfl,k _ H (ay.refl _) (iy _)⟩
  | _=>exact nomatch (show(R.bad:R D)=.ok d from e)
 | _=>exact nomatch (show(R.bad:R D)=.ok d from e)
theorem zs6(hu:X.A.units+64<zb):aQ X (yG .Lt) (rD X.K ft):=zs1 ztt fun p1 p2 i1 i2 h=>HT.zsk p1 p2 i1 i2 (by omega) (by rw[<- zdu];exact h)
theorem zjM(hi:aQ X (yG op) (ll fun i j=>.bl (p i j))):aQ X (yG op) (rD X.K (vG p)):=by
 intro pins s σ H x y v u Q I rx ry h;obtain⟨dx,dy,d,tx,ty,e,k⟩:=h;cases dx with
 | int i =>
  cases dy with
  | int j=>cases e;exact hi pins s σ H x y v u Q I rx ry ⟨i,j,tx.int,ty.int,k _ H (ay.refl _) (iy _)⟩
  | _=>exact nomatch (show(R.bad:R D)=.ok d from e)
 | _=>exact nomatch (show(R.bad:R D)=.ok d from e)
theorem zs5(hu:X.A.units+64<zb):aQ X (yG .LtE) (rD X.K j8):=zjM zts
theorem zs3(hu:X.A.units+64<zb):aQ X (yG .GtE) (rD X.K oh):=zjM zto
theorem zs4:aQ X (yG .Is) (rD X.K isD):=by
 intro pins s σ H x y v u Q I rx ry h;obtain⟨dx,dy,d,tx,ty,e,q⟩:=h;cases dy with
 | none =>
  refine ztr pins s σ H x y v u Q I rx ry ⟨ty.none,?_⟩;have:d=.bool (decide (x=.non)):=by
   cases dx with
   | none=>have:=tx.none;subst this;cases e;rfl
   | bool b=>have:=tx.bool;subst this;cases e;rfl
   | int b=>have:=tx.int;subst this;cases e;rfl
   | str b =>
    have:x=.str b:=by simpa[Tp,Fz] using tx
    subst this;cases e;rfl
   | list b=>obtain⟨_,_,rfl,_⟩:=tx.lst;cases e;rfl
   | tuple b=>obtain⟨_,_,rfl,_⟩:=tx.tup;cases e;rfl
   | dict b=>obtain⟨_,rfl,_⟩:=tx;cases e;rfl
  subst this;exact q _ H (ay.refl _) (iy _)
 | _=>exact nomatch (show(R.bad:R D)=.ok d from e)
theorem zs9:aQ X (yG .IsNot) (rD X.K zdH):=by
 intro pins s σ H x y v u Q I rx ry h;obtain⟨dx,dy,d,tx,ty,e,q⟩:=h;cases dy with
 | none =>
  refine zjO pins s σ H x y v u Q I rx ry ⟨ty.none,?_⟩;have:d=.bool (!decide (x=.non)):=by
   cases dx with
   | none=>have:=tx.none;subst this;cases e;rfl
   | bool b=>have:=tx.bool;subst this;cases e;rfl
   | int b=>have:=tx.int;subst this;cases e;rfl
   | str b =>
    have:x=.str b:=by simpa[Tp,Fz] using tx
    subst this;cases e;rfl
   | list b=>obtain⟨_,_,rfl,_⟩:=tx.lst;cases e;rfl
   | tuple b=>obtain⟨_,_,rfl,_⟩:=tx.tup;cases e;rfl
   | dict b=>obtain⟨_,rfl,_⟩:=tx;cases e;rfl
  subst this;exact q _ H (ay.refl _) (iy _)
 | _=>exact nomatch (show(R.bad:R D)=.ok d from e)
theorem bZ:jM X (rD X.K aw):=by
 intro value slice pins s σ H x y v u Q I rx ry h hs;obtain⟨dx,dy,d,tx,ty,e,q⟩:=h;cases dx with
 | list a =>
  cases dy with
  | int i =>
   replace e:R.of (FL.dQ a i)=.ok d:=e;cases ea:FL.dQ a i with
   | none=>rw[ea]at e;cases e
   | some d' =>
    rw[ea]at e;cases e;obtain⟨l,xs,rfl,sx,fx⟩:=tx.lst;obtain⟨w,ew,fw⟩:=fx.dQ ea;exact zp5 value slice pins s σ H _ y v u Q I rx ry ⟨l,xs,i,w,rfl,ty.int,sx,ew,q _ H (ay.refl _) fw⟩ hs
  | _=>exact nomatch (show(R.bad:R D)=.ok d from e)
 | tuple a =>
  cases dy with
  | int i =>
   replace e:R.of (FL.dQ a i)=.ok d:=e;cases ea:FL.dQ a i with
   | none=>rw[ea]at e;cases e
   | some d' =>
    rw[ea]at e;cases e;obtain⟨l,xs,rfl,sx,fx⟩:=tx.tup;obtain⟨w,ew,fw⟩:=fx.dQ ea;exact zp6 value slice pins s σ H _ y v u Q I rx ry ⟨l,xs,i,w,rfl,ty.int,sx,ew,q _ H (ay.refl _) fw⟩ hs
  | _=>exact nomatch (show(R.bad:R D)=.ok d from e)
 | _=>exact nomatch (show(R.bad:R D)=.ok d from e)
theorem fR:zax X (fun x H Q=>∃ d k,Tp X.K H d x/\pj d=.ok k/\Q k H):=by
 intro pins s σ H x v Q I rx h;obtain⟨d,k,tx,e,q⟩:=h;refine zxV pins s σ H x v Q I rx ⟨k,?_,q⟩;cases d with
 | none=>have:=tx.none;subst this;cases e;rfl
 | bool b=>have:=tx.bool;subst this;cases e;rfl
 | int b=>have:=tx.int;subst this;cases e;rfl
 | list b =>
  obtain⟨a,vs,rfl,sx,fx⟩:=tx.lst;cases e;refine .inl ⟨vs,sx,?_⟩;have:=fx.len;cases b <;> cases vs <;> simp_all
 | tuple b =>
  obtain⟨a,vs,rfl,sx,fx⟩:=tx.tup;cases e;refine .inr (.inl ⟨vs,sx,?_⟩);have:=fx.len;cases b <;> cases vs <;> simp_all
 | _=>exact nomatch (show(R.bad:R Bool)=.ok k from e)
end
end
variable {hi:Option Int}{A:yy}{E Q:gV->kb->Prop}{prog:yw}{items:Array gV}{v:Option V}{w:yv}{g:D->R D}{k:D×En->R (Fl×En)}
section
variable [Cs]
theorem zsN:fillsNumberSlot (.type "tuple") "mul"=pure false :=
 PySem.fillsNumberSlot_seq (id:="tuple.__mul__") (r:=some (.builtin "tuple.__rmul__")) Fh.lookup (by decide +kernel) Ga.lookup (by decide +kernel)
theorem zwG:seqRepeat? (.type "tuple")=pure (some (.builtin "tuple.__mul__")):=by
 unfold seqRepeat?;rw[PySem.seqSlot_of (T:="tuple") (name:="__mul__") (id:="tuple.__mul__") Fh.lookup (by decide +kernel),PySem.seqSlot_of (T:="tuple") (name:="__rmul__") (id:="tuple.__rmul__") Ga.lookup (by decide +kernel)]
 rfl
section
open PySem.SeqAt
open PySem.AutoSeq1 (wpAny_loadPart')
open PySem.MeetsSeq PySem.MeetsSeq2 PySem.MeetsSeq3
theorem zpS(a:Int)(t:yP)(l:dm)(items:Array gV)(n:Nat)(dd:Option dm)(sl:Array (Option gV)) :
  Meets (Ah.«int.__rmul__» ⟨[.int a t,.ref l],[]⟩) (fun _ R s=>s.heap.get? l=some { cls:=.type "tuple",dict:=dd,data:=.seq items n,slots:=sl }/\R (.ok (.ret FP)) s) :=
 .of_wp fun prog w A R s h=>by obtain⟨hp,g,d,tk,os⟩:=s;obtain⟨hl,h⟩:=h;wp_walk;exact⟨_,rfl,h⟩
theorem zxY(l:dm)(items:Array gV)(n:Nat)(dd:Option dm)(sl:Array (Option gV))(k:Int)(t:yP)(h0:items.isEmpty=false)(h1:2<=k)(h2:k<2^62)(h3:items.size*k.toNat<=yz) :
  Meets (Ah.«tuple.__mul__» ⟨[.ref l,.int k t],[]⟩) (fun _ R s=>s.heap.get? l=some { cls:=.type "tuple",dict:=dd,data:=.seq items n,slots:=sl } /\
   R (.ok (.ret (.ref s.heap.objs.size))) { s with heap:=s.heap.push { cls:=.type "tuple",data:=.seq ((yq k.toNat items).foldl (·++·) #[]) } }) :=
 .of_wp fun prog w A R s h=>by
  obtain⟨hp,g,d,tk,os⟩:=s;obtain⟨hl,h⟩:=h
  have f1:=AutoSeq1.idx_int;have i0:(items.size:Int)*k<=(yz:Int):=by
   have e:((items.size*k.toNat:Nat):Int)=(items.size:Int)*k:=by rw[Int.natCast_mul,Int.toNat_of_nonneg (by omega)]
   rw[<- e];exact Int.ofNat_le.mpr h3
  have hA:¬ (decide (k < -2^63)||decide (k ≥ 2^63))=true:=by
   simp only[D1,decide_eq_true_eq,not_or]
   constructor <;> omega
  have hB:¬ (items.isEmpty||k==1)=true:=by
   rw[h0];simp only[Bool.false_or,beq_iff_eq]
   omega
  have hC:¬ (decide (k<=0)||items.isEmpty)=true:=by
   rw[h0];simp only[Bool.or_false,decide_eq_true_eq]
   omega
  have sz:(yz:Int)<=16777216:=by rw[zC];decide
  have hD:¬ (items.size:Int)*k > (2^63-1) / 8:=by omega
  have hE:¬ Gb ((items.size:Int)*k)=true:=by
   unfold Gb;simp only[decide_eq_true_eq]
   omega
  have hs:sizeOk (.seq (Dc (fun x1 x2=>x1++x2) #[] (yq k.toNat items))):=by
   obtain⟨its⟩:=items;have:=foldl_rep its k.toNat [];rw[zQ]at this;rw[this];show(yq k.toNat its).flatten.toArray.size<=yz;rw[yU,len_rep,Dd];exact h3
  wp_walk
  rw[if_neg hA]
  wp_walk using Cw hl
  rw[if_neg hB]
  wp_walk
  rw[if_neg hC]
  wp_walk
  rw[if_neg hD]
  wp_walk
  rw[if_neg (show ¬ (Dc (fun x1 x2=>x1++x2) #[] (yq k.toNat items)).size > yz from D0.mpr hs)]
  wp_walk
  exact⟨_,rfl,h⟩
end
section
theorem zw6{t sl:dm}{vl vu:gV}{lo:Option Int}(ht:Ba s.heap t items)(hs:s.heap.IsSliceOf sl vl vu .none)(pl:Bh vl lo)(pu:Bh vu hi)
  (hw:HT.aR items.size 0 lo=0/\HT.aR items.size items.size hi=items.size)(h:Q (.ref t) s):yj (ym prog w) A (Bi (.ref t) (.ref sl)) Q E s:=by
 obtain⟨os,oA,lQ,sZ⟩:=id hs;have hTs:s.TypeIs (.ref sl) "slice":=⟨os,oA,lQ⟩;unfold Bi
 try with_reducible refine zH ?_
 first|refine yg (yt ?_)|skip
 refine yg (wpAny_sequenceKey ht.typeIs (by decide) ?_);refine yg (BA (name:=BC "__getitem__") ht.typeIs Cy
  (A2 Cy ht.typeIs entry_tuple_getitem ?_ (args_tuple_getitem _ _)))
 show yj _ _ (FR (.ref t) >>= _) _ _ s;refine yg (tupleItemsOf_ ht ?_);refine yg (C7 hTs ?_);rw[if_pos (by decide)];refine yg (HT.zkR hs pl pu ?_);show yj _ _ (if(((HT.aR items.size 0 lo:Nat):Int)==0&&(1:Int)==1&&(HT.aR items.size items.size hi-HT.aR items.size 0 lo)==items.size)=true then _ else _) _ _ s;rw[hw.1,hw.2,if_pos (by simp)];refine yg (m:=Ge _) ?_;unfold Ge;refine yg (C7 ht.typeIs (yt ?_));rw[if_pos (by decide)];exact yg (Bz (yg (yt (yt ⟨_,rfl,yt h⟩))))
end
section
theorem gK:aQ X (zZ .Mult) (rD X.K bV):=by
 intro pins s σ H x y v u Q I rx ry h;obtain⟨dx,dy,d,tx,ty,e,q⟩:=h;cases dx with
 | int i =>
  cases dy with
  | int j =>
   obtain⟨c,e⟩:=fX (show aY (t7 i j) (.ok (.int (i*j)))=.ok d from e);cases e;exact ztv pins s σ H x y v u Q I rx ry ⟨i,j,tx.int,ty.int,zsG c,q _ H (ay.refl _) (cm _)⟩
  | _=>exact nomatch (show(R.bad:R D)=.ok d from e)
 | tuple a =>
  cases dy with
  | int k =>
   obtain⟨c,e⟩:=fX (show aY (!a.isEmpty&&leB 2 k.toNat&&leB k.toNat 1000000&&leB (a.length*k.toNat) lim) (.ok (.tuple (yq k.toNat a).flatten))=.ok d from e);cases e;simp only[zf,leB_iff]at c;obtain⟨⟨⟨c0,c1⟩,c2⟩,c3⟩:=c;obtain⟨l,xs,rfl,sx,fx⟩:=tx.tup;have:=ty.int;subst this;cases rx;obtain⟨t,rfl⟩:=ry;obtain⟨its,r1,p1,z1⟩:=I.tuple sx;obtain⟨⟨cls,dd,data,sl⟩,ho,hc,n,hd⟩:=id p1;simp only at hc hd;subst hc hd;have hl:its.length=a.length:=by rw[<- r1.length,fx.len]
   have hz:its.length*k.toNat<=yz:=by rw[hl];exact zA c3 oI
   have he:its.toArray.isEmpty=false:=by
    cases its with
    | nil=>simp only[zx]at hl;cases a with|nil=>simp at c0|cons _ _=>simp at hl
    | cons _ _=>rfl
   refine FW (T:="tuple") (U:="int") (by decide) ⟨_,ho,rfl⟩ (fun s'=>C9 s' k t) zsN PySem.F.fills_int_mul Gg zwG PySem.F.slot_int_index.lookup
    (CA Gg (C9 s k t) PySem.F.entry_int_rmul (PySem.F.args_int_rmul_2 _ _) (zpS k t l its.toArray n dd sl)
     ⟨ho,rfl,⟨_,ho,rfl⟩,CA Fh ⟨_,ho,rfl⟩ PySem.F.entry_tuple_mul (PySem.F.args_tuple_mul_2 _ _) (zxY l its.toArray n dd sl k t he (by omega) (by omega) (by rw[yU];exact hz)) ⟨ho,?_⟩⟩)
   have en:=foldl_rep its k.toNat [];rw[zQ]at en;rw[en];have hp:H s.heap.objs.size=none:=I.au.fresh (yA _);refine⟨.ref s.heap.objs.size,_,I.laid (t':=s.toks) (o:=.tup (yq k.toNat xs).flatten) (fun b ob q=>yM _ q) (yA _) ⟨by rw[len_rep,Dd,r1.length];exact hz,_,r1.rep k.toNat,CY _ _⟩,rfl,
    q _ _ (ay.upd hp) (fY (.inl ck) ((fx.rep k.toNat).mono (ax.of (ay.upd hp))))⟩
  | _=>exact nomatch (show(R.bad:R D)=.ok d from e)
 | _=>exact nomatch (show(R.bad:R D)=.ok d from e)
theorem znu{ds:List α}{lo:Option Int}(h1:FL.aR ds.length 0 lo=0)(h2:FL.aR ds.length ds.length hi=ds.length):FL.cut ds lo hi=ds:=by
 unfold FL.cut;rw[h1,h2];simp
theorem xI:rR X (zkF X.K):=by
 intro pins s σ H x v vl vu lo hi sl Q I rx hs pl pu h;obtain⟨dx,d,tx,e,q⟩:=h;cases dx with
 | list a =>
  cases e;obtain⟨l,xs,rfl,sx,fx⟩:=tx.lst;obtain⟨T,id,h1,h2,h3⟩:=zw2 pins s σ H _ v vl vu lo hi sl (fun v H1=>∃ p,v=.ref p/\H p=none/\H1=upd H p (.lst (kq xs lo hi))) I rx hs pl pu ⟨l,xs,rfl,sx,fun p hp=>⟨p,rfl,hp,rfl⟩⟩;exact⟨T,id,h1,h2,aI h3 fun _ _ z=>sL (fx.cut lo hi) q z⟩
 | tuple a =>
  cases e;obtain⟨l,xs,rfl,sx,fx⟩:=tx.tup
  by_cases w:HT.aR xs.length 0 lo=0/\HT.aR xs.length xs.length hi=xs.length
  ·cases rx
   obtain⟨its,r,ht,hz⟩:=I.tuple sx;have hlen:its.toArray.size=xs.length:=by rw[yU];exact r.length.symm
   refine⟨"tuple",_,Cy.lookup,ht.typeIs,zw6 ht hs pl pu (by rw[hlen];exact w) ⟨.ref l,H,I,rfl,q _ H (ay.refl _) ?_⟩⟩;rw[fx.len]at w;rw[znu w.1 w.2];exact tx
  ·exact zw3 pins s σ H _ v vl vu lo hi sl Q I rx hs pl pu ⟨l,xs,rfl,sx,w,fun p hp=>q _ _ (ay.upd hp) (fY (.inl ck) ((fx.cut lo hi).mono (ax.of (ay.upd hp))))⟩
 | _=>exact nomatch (show(R.bad:R D)=.ok d from e)
end
end
variable {p:yn}{s:SF}{E:XK}{tn:ir}{Q:Hp->Prop}
section
variable [Cs]
section
def ib(X:Cx)(f:gV)(g:D->R D):Prop:=gB X f (rD0 X.K g)
theorem ib.ds{f:gV}{g:D->R D}(h:ib X f g):gB X f (uD X.K (one g)):=fun pins s σ H xs us Q I r ⟨ds,d,fz,e,q⟩=>by
 cases ds with
 | nil=>exact nomatch (show(R.bad:R D)=.ok d from e)
 | cons d0 r0 =>
  cases r0 with
  | nil =>
   simp only[ah]at fz;obtain⟨v,r',rfl,fv,e2⟩:=fz;subst e2;exact h pins s σ H _ us Q I r ⟨v,d0,d,rfl,fv.tp,e,q⟩
  | cons _ _=>exact nomatch (show(R.bad:R D)=.ok d from e)
theorem r6:ib X (.builtin "len") hJ:=by
 intro pins s σ H xs us Q I r h;obtain⟨x,dx,d,rfl,tx,e,q⟩:=h;cases dx with
 | list a=>obtain⟨p,vs,rfl,sx,fx⟩:=tx.lst;cases e;exact zhE pins s σ H _ us Q I r ⟨p,vs,rfl,.inl sx,by rw[fx.len];exact q _ H (ay.refl _) (cm _)⟩
 | tuple a=>obtain⟨p,vs,rfl,sx,fx⟩:=tx.tup;cases e;exact zhE pins s σ H _ us Q I r ⟨p,vs,rfl,.inr sx,by rw[fx.len];exact q _ H (ay.refl _) (cm _)⟩
 | _=>exact nomatch (show(R.bad:R D)=.ok d from e)
theorem zaP:ib X (.builtin "abs") jm:=by
 intro pins s σ H xs us Q I r h;obtain⟨x,dx,d,rfl,tx,e,q⟩:=h;cases dx with
 | int i=>have:=tx.int;subst this;cases e;exact zna pins s σ H _ us Q I r ⟨i,rfl,q _ H (ay.refl _) (cm _)⟩
 | _=>exact nomatch (show(R.bad:R D)=.ok d from e)
theorem zm4(hc:X.calm=true):ib X (.builtin "sum") zk1:=by
 intro pins s σ H xs us Q I r h;obtain⟨x,dx,d,rfl,tx,e,q⟩:=h;cases dx with
 | list a =>
  obtain⟨p,vs,rfl,sx,fx⟩:=tx.lst;replace e:((R.of (intsOf a)).bind fun x=>R.ok (zi x.sum))=.ok d:=e;cases ea:intsOf a with
  | none=>rw[ea]at e;cases e
  | some ns =>
   rw[ea]at e;cases e;obtain⟨rfl,_⟩:=fx.ints ea;exact zng hc pins s σ H _ us Q I r ⟨p,ns,rfl,sx,q _ H (ay.refl _) (cm _)⟩
 | _=>exact nomatch (show(R.bad:R D)=.ok d from e)
theorem zhx(hc:X.calm=true):ib X (.builtin "all") pO:=by
 intro pins s σ H xs us Q I r h;obtain⟨x,dx,d,rfl,tx,e,q⟩:=h;cases dx with
 | list a =>
  obtain⟨p,vs,rfl,sx,fx⟩:=tx.lst;replace e:((R.of (boolsOf a)).bind fun x=>R.ok (AQ (x.all id)))=.ok d:=e;cases ea:boolsOf a with
  | none=>rw[ea]at e;cases e
  | some ns =>
   rw[ea]at e;cases e;obtain⟨rfl,_⟩:=fx.bools ea;exact znb hc pins s σ H _ us Q I r ⟨p,ns,rfl,sx,q _ H (ay.refl _) (iy _)⟩
 | _=>exact nomatch (show(R.bad:R D)=.ok d from e)
theorem zmW:ib X (.type "list") tU:=by
 intro pins s σ H xs us Q I r h;obtain⟨x,dx,d,rfl,tx,e,q⟩:=h;cases dx with
 | list a =>
  obtain⟨p,vs,rfl,sx,fx⟩:=tx.lst;cases e;exact aI (zaX pins s σ H _ us (fun v H1=>∃ p,v=.ref p/\H p=none/\H1=upd H p (.lst vs)) I r ⟨p,vs,rfl,.inl sx,fun l hl=>⟨l,rfl,hl,rfl⟩⟩) fun _ _ z=>sL fx q z
 | tuple a =>
  obtain⟨p,vs,rfl,sx,fx⟩:=tx.tup;cases e;exact aI (zaX pins s σ H _ us (fun v H1=>∃ p,v=.ref p/\H p=none/\H1=upd H p (.lst vs)) I r ⟨p,vs,rfl,.inr sx,fun l hl=>⟨l,rfl,hl,rfl⟩⟩) fun _ _ z=>sL fx q z
 | _=>exact nomatch (show(R.bad:R D)=.ok d from e)
theorem vB:ib X (.type "tuple") qV:=by
 intro pins s σ H xs us Q I r h;obtain⟨x,dx,d,rfl,tx,e,q⟩:=h;cases dx with
 | list a =>
  obtain⟨p,vs,rfl,sx,fx⟩:=tx.lst;cases e;exact zhF pins s σ H _ us Q I r ⟨p,vs,rfl,.inl ⟨sx,fun l hl=>q _ _ (ay.upd hl) (fY (.inl ck) (fx.mono (ax.of (ay.upd hl))))⟩⟩
 | tuple a =>
  obtain⟨p,vs,rfl,sx,fx⟩:=tx.tup;cases e;exact zhF pins s σ H _ us Q I r ⟨p,vs,rfl,.inr ⟨sx,q _ H (ay.refl _) tx⟩⟩
 | _=>exact nomatch (show(R.bad:R D)=.ok d from e)
end
theorem Tp.ty{K:yf}{x:V}(c:zlc d=true)(h:Tp K H d x):Ty K H x (.type (zfA d)):=by
 cases d with
 | none=>have:=h.none;subst this;exact .non
 | bool b=>have:=h.bool;subst this;exact .bl b
 | int b=>have:=h.int;subst this;exact .int b
 | str b =>
  have:x=.str b:=by simpa[Tp,Fz] using h
  subst this;exact .str b
 | list b=>obtain⟨_,_,rfl,s,_⟩:=h.lst;exact .lst s
 | tuple b=>obtain⟨_,_,rfl,s,_⟩:=h.tup;exact .tup s
 | dict b=>cases c
def nF(T:String):Prop:=∀(K:yf) (d:D),yR K (.type (zfA d)) (.type T)=some (cJ T d)
theorem wz(h0:KC.cU "NoneType" T=some (cJ T .none))(h1:∀ b,KC.cU "bool" T=some (cJ T (.bool b)))(h2:∀ b,KC.cU "int" T=some (cJ T (.int b)))(h3:∀ b,KC.cU "str" T=some (cJ T (.str b)))(h4:∀ b,KC.cU "list" T=some (cJ T (.list b)))
  (h5:∀ b,KC.cU "tuple" T=some (cJ T (.tuple b))) (h6:∀ b,KC.cU "dict" T=some (cJ T (.dict b))):nF T:=fun K d=>by
 cases d with
 | none=>exact h0
 | bool b=>exact h1 b
 | int b=>exact h2 b
 | str b=>exact h3 b
 | list b=>exact h4 b
 | tuple b=>exact h5 b
 | dict b=>exact h6 b
theorem zrE:nF "int":=wz (by decide +kernel) (fun _=>(by decide +kernel:KC.cU "bool" "int"=some (cJ "int" (.bool true)))) (fun _=>(by decide +kernel:KC.cU "int" "int"=some (cJ "int" (.int 0)))) (fun _=>(by decide +kernel:KC.cU "str" "int"=some (cJ "int" (.str "")))) (fun _=>(by decide +kernel:KC.cU "list" "int"=some (cJ "int" (.list [])))) (fun _=>(by decide +kernel:KC.cU "tuple" "int"=some (cJ "int" (.tuple [])))) (fun _=>(by decide +kernel:KC.cU "dict" "int"=some (cJ "int" (.dict []))))
theorem zrD:nF "bool":=wz (by decide +kernel) (fun _=>(by decide +kernel:KC.cU "bool" "bool"=some (cJ "bool" (.bool true)))) (fun _=>(by decide +kernel:KC.cU "int" "bool"=some (cJ "bool" (.int 0)))) (fun _=>(by decide +kernel:KC.cU "str" "bool"=some (cJ "bool" (.str "")))) (fun _=>(by decide +kernel:KC.cU "list" "bool"=some (cJ "bool" (.list [])))) (fun _=>(by decide +kernel:KC.cU "tuple" "bool"=some (cJ "bool" (.tuple [])))) (fun _=>(by decide +kernel:KC.cU "dict" "bool"=some (cJ "bool" (.dict []))))
theorem kit_tuple:nF "tuple":=wz (by decide +kernel) (fun _=>(by decide +kernel:KC.cU "bool" "tuple"=some (cJ "tuple" (.bool true)))) (fun _=>(by decide +kernel:KC.cU "int" "tuple"=some (cJ "tuple" (.int 0)))) (fun _=>(by decide +kernel:KC.cU "str" "tuple"=some (cJ "tuple" (.str "")))) (fun _=>(by decide +kernel:KC.cU "list" "tuple"=some (cJ "tuple" (.list [])))) (fun _=>(by decide +kernel:KC.cU "tuple" "tuple"=some (cJ "tuple" (.tuple [])))) (fun _=>(by decide +kernel:KC.cU "dict" "tuple"=some (cJ "tuple" (.dict []))))
theorem zrF:nF "list":=wz (by decide +kernel) (fun _=>(by decide +kernel:KC.cU "bool" "list"=some (cJ "list" (.bool true)))) (fun _=>(by decide +kernel:KC.cU "int" "list"=some (cJ "list" (.int 0)))) (fun _=>(by decide +kernel:KC.cU "str" "list"=some (cJ "list" (.str "")))) (fun _=>(by decide +kernel:KC.cU "list" "list"=some (cJ "list" (.list [])))) (fun _=>(by decide +kernel:KC.cU "tuple" "list"=some (cJ "list" (.tuple [])))) (fun _=>(by decide +kernel:KC.cU "dict" "list"=some (cJ "list" (.dict []))))
section
variable {K:yf}{a:yh}
theorem zvc(kt:nF T)(hg:Gl X "isinstance")(hm:X.mg "isinstance"=none)(oq:Gl X tn)(kL:X.mg tn=none)(hv2:zj tn=some (.type T))(ha:PV K X a f)(hn:tn ≠ "__name__":=by decide)(hd:(tn==("__debug__":ir))=false:=by decide)
  (kN:yi [a,.Name tn p2] X.env=(false,yu a X.env)::yi [.Name tn p2] X.env:=by exact FL.se rfl) (c7:yi [.Name tn p2] X.env=(false,yu (.Name tn p2) X.env)::yi [] X.env:=by exact FL.se rfl) (aS:(yJ pos (yi [.Name tn p2] X.env)).any (·.1)=false:=by exact FL.sp rfl) :
  PV K X (.Call (.Name "isinstance" p) [a,.Name tn p2] [] pos) (e1 (gZ T) f):=.mk fun hK=>by
 subst hK;refine(zeq (x:="isinstance") (id:="isinstance") znc hg hm KC.Bt.isinstance (gh (ha rfl) (gh (zj0 oq kL hv2 hn hd) jy c7) kN) (by decide) (by decide) kN aS).weak fun σ H Q=>?_;rintro⟨ρ,rel,q⟩;refine dS rel q fun dx ρ1 x H1 aj aB fx q1=>?_;obtain⟨d,ed,q3⟩:=q1.cE;obtain⟨c,ed⟩:=fX ed;cases ed;exact⟨x,.ty T,_,_,rfl,(fun z=>nomatch z),fx.tp.ty c,kt X.K dx,q3.now aj _ (iy _)⟩
theorem zeI{f:EF}(h:PV K X e (av (one g) (aa f af))):PV K X e (e1 g f):=.mk fun hK=>(h hK).weak fun σ H Q=>by
 rintro⟨ρ,rel,q⟩;refine⟨ρ,rel,?_⟩;have:av (one g) (aa f af) ρ=e1 g f ρ:=by
  unfold av aa af e1;cases f ρ with
  | ok x=>rfl
  | _=>rfl
 rw[this];exact q
end
end
variable {y:ir}{g:D->D->R D}{py:yn}{i:Nat}{r:R2}
section
variable [Cs]
section
variable {K:yf}
theorem zdA(h:cv ρ i=.ok d):∃ p,ρ[i]?=some (.ow p d):=by
 unfold cv at h;cases e:ρ[i]? with
 | none=>rw[e]at h;cases h
 | some x =>
  rw[e]at h;cases x with
  | ow p c=>cases h;exact⟨p,rfl⟩
  | _=>cases h
theorem Rel.j9(r:Rel K ρ σ H)(h:cv ρ i=.ok d):∃ a,At ρ σ i a/\cC K H a d:=by
 obtain⟨p,e⟩:=zdA h;have hl:i<σ.length:=by rw[<- r.len];exact(yQ.mp e).1
 have o:=r.ok i _ _ e (yO hl);cases es:σ[i] with
 | none=>rw[es]at o;exact o.elim
 | some v =>
  rw[es]at o;cases v with
  | ref a=>exact⟨a,⟨⟨p,d,e⟩,by rw[yO hl,es]⟩,o⟩
  | _=>exact o.elim
theorem Rel.again(r:Rel K ρ1 σ H1)(h:cv ρ1 i=.ok d)(bI:At ρ σ i a):cC K H1 a d:=by
 obtain⟨b,ab,m⟩:=r.j9 h;have:=bI.2.symm.trans ab.2;cases this;exact m
theorem Rel.zu2(r:Rel K ρ σ H)(bI:At ρ σ i a)(m:cC K (upd H a o) a d):Rel K (iK ρ i d) σ (upd H a o):=by
 obtain⟨⟨p,c,e⟩,es⟩:=bI;have hp:iK ρ i d=ρ.set i (.ow p d):=by unfold iK;rw[e]
 obtain⟨u,hu,ow⟩:=r.et ⟨i,⟨p,c,e⟩,es⟩;have f:ax H (upd H a o):=fun b w eb st=>by
  rw[aN fun z=>by subst z;rw[hu]at eb;cases eb;exact ow.iI st];exact eb
 have hl:i<ρ.length:=(yQ.mp e).1;rw[hp];refine⟨by rw[A3];exact r.len,fun j x v e1 e2=>?_,fun j k b h1 h2=>?_,r.cst.mono f⟩
 ·by_cases c:i=j
  ·subst c
   rw[zg hl]at e1;cases e1;rw[es]at e2;cases e2;exact m
  ·rw[yZ c]at e1
   refine(r.ok j x v e1 e2).mono f fun b e3 ⟨q,dd,e4⟩=>?_;subst e3;subst e4
   refine aN fun z=>?_;subst z;exact c (r.sep i j b ⟨⟨p,_,e⟩,es⟩ ⟨⟨q,dd,e1⟩,e2⟩)
 ·have w:∀ j b,At (ρ.set i (.ow p d)) σ j b->At ρ σ j b:=fun j b ⟨⟨q,dd,e1⟩,e2⟩=>by
   by_cases c:i=j
   ·subst c;exact⟨⟨p,_,e⟩,e2⟩
   ·rw[yZ c]at e1;exact⟨⟨q,dd,e1⟩,e2⟩
  exact r.sep j k b (w _ _ h1) (w _ _ h2)
theorem zkZ(bI:At ρ σ i a):cM ρ (iK ρ i d) σ H (upd H a o):=by
 obtain⟨⟨p,c,e⟩,es⟩:=bI;have hp:iK ρ i d=ρ.set i (.ow p d):=by unfold iK;rw[e]
 have hl:i<ρ.length:=(yQ.mp e).1;rw[hp];refine⟨fun j q=>?_,fun b w eb n=>?_⟩
 ·by_cases c:i=j
  ·subst c
   rw[zg hl,e]
   constructor
   ·rintro⟨_,z⟩;cases z;exact⟨_,rfl⟩
   ·rintro⟨_,z⟩;cases z;exact⟨_,rfl⟩
  ·rw[yZ c]
 ·rw[aN fun z=>by subst z;exact n ⟨i,⟨p,c,e⟩,es⟩]
  exact eb
end
section
variable {K:yf}{a c:yh}{k:EF}
theorem zpj(hr:∀ x y H Q,rD K g x y H Q->r x y H Q)(σ:L2.St)(H:Hp)(Q:VK)(q:tV K (m2 g i h) σ H Q):ph r (dD i) (tV K h) σ H Q:=by
 obtain⟨ρ,rel,q⟩:=q;obtain⟨d,ed,q1⟩:=q.cE;obtain⟨ad,bI,m⟩:=rel.j9 ed;refine⟨.ref ad,bI.2,dS rel q1 fun dy ρ1 y H1 aj aB fy q2=>?_⟩;obtain⟨d2,sH,q3⟩:=q2.cE;obtain⟨x,ex,q4⟩:=q3.cE;exact hr _ _ _ _ ⟨d2,dy,x,(aj.again sH bI).tp,fy.tp,ex,fun v H' s fz=>q4.new aj s v fz⟩
theorem zve(i:Nat)(ho:jM X (rD X.K g))(ha:PE X (.Name y py) (dD i))(hb:PV K X b h)(hs:rQ b:=by exact fun _ _=>rfl):PV K X (.Subscript (.Name y py) b pos) (m2 g i h):=.mk fun hK=>by
 subst hK;exact(zes ho ha (hb rfl) hs).weak fun σ H Q q=>zpj (fun _ _ _ _ z=>z) σ H Q q
theorem zpk(hr:∀ x y H Q,rD K g x y H Q->r x y H Q)(σ:L2.St)(H:Hp)(Q:VK)(q:tV K (wC g f i) σ H Q):ph r (tV K f) (dD i) σ H Q:=by
 obtain⟨ρ,rel,q⟩:=q;refine dS rel q fun dx ρ1 x H1 aj aB fx q2=>?_;obtain⟨d2,sH,q3⟩:=q2.cE;obtain⟨x,ex,q4⟩:=q3.cE;obtain⟨ad,bI,m⟩:=aj.j9 sH;exact⟨.ref ad,bI.2,hr _ _ _ _ ⟨dx,d2,x,fx.tp,m.tp,ex,fun v H' s fz=>q4.new aj s v fz⟩⟩
theorem zvF(i:Nat)(ho:aQ X (yG op) (rD X.K g))(ha:PV K X a f)(hb:PE X (.Name y py) (dD i))(hm:Bc op (.Name y py)=false):dY K X (.Compare a [op] [.Name y py] pos) (tB (wC g f i)):=.mk fun hK=>by
 subst hK;exact(xg ho (ha rfl) hb hm).weak fun σ H Q q=>sV (fun σ H Q z=>zpk (fun _ _ _ _ z=>z) σ H Q z) σ H Q q
end
end
variable {c:List D}{ke tg:yh}{gs:List GF}{dom:List Nat}{b:SF}{tc:TF}{g:GF}{pos':yn}{r:R (Fl×En)}{C:SC}
section
variable [Cs]
structure SC where
 H₀:Hp
 σ₀:L2.St
 ρ₀:En
structure bc(K:yf)(C:SC)(ρ:En)(σ:L2.St)(H:Hp):Prop where
 rel:Rel K ρ σ H
 keep:∀ a o,C.H₀ a=some o->¬ MA C.ρ₀ C.σ₀ a->H a=some o
 own:∀(i:Nat) a d,ρ[i]?=some (.ow false d)->σ[i]?=some (some (.ref a))->C.H₀ a=none
 pin:∀(i:Nat),(∃ d,ρ[i]?=some (.ow true d))↔∃ d,C.ρ₀[i]?=some (.ow true d)
 fix:∀(i:Nat) d,ρ[i]?=some (.ow true d)->σ[i]?=C.σ₀[i]?
 kY:∀(i:Nat) p d,C.ρ₀[i]?=some (.ow p d)->p=true
section
variable {K:yf}{σ1:L2.St}
theorem bc.wM(r:bc K C ρ σ H)(e:C.H₀ a=some o)(n:¬ MA C.ρ₀ C.σ₀ a):¬ MA ρ σ a:=by
 rintro⟨i,⟨p,d,e1⟩,e2⟩;cases p with
 | false=>rw[r.own i a d e1 e2]at e;cases e
 | true =>
  obtain⟨d0,e0⟩:=(r.pin i).mp ⟨d,e1⟩;exact n ⟨i,⟨true,d0,e0⟩,by rw[<- r.fix i d e1];exact e2⟩
theorem bc.step(r:bc K C ρ σ H)(rel:Rel K ρ1 σ H1)(st:cM ρ ρ1 σ H H1):bc K C ρ1 σ H1 where
 rel:=rel
 keep:=fun a o e n=>st.kp a o (r.keep a o e n) (r.wM e n)
 own:=fun i a d e1 e2=>by
  obtain⟨d',e'⟩:=(st.md i false).mpr ⟨d,e1⟩;exact r.own i a d' e' e2
 pin:=fun i=>(st.md i true).symm.trans (r.pin i)
 fix:=fun i d e=>by
  obtain⟨d',e'⟩:=(st.md i true).mpr ⟨d,e⟩;exact r.fix i d' e'
 kY:=r.kY
def jH(dom:List Nat)(ρ ρ1:En)(σ σ1:L2.St):Prop:=σ1.length=σ.length/\∀(i:Nat),(ρ1[i]?=ρ[i]?/\σ1[i]?=σ[i]?)\/(i∈dom/\(∃ d,ρ1[i]?=some (.val d))/\∀ e,ρ[i]?≠some (.ow true e))
theorem jH.refl:jH dom ρ ρ σ σ:=⟨rfl,fun _=>.inl ⟨rfl,rfl⟩⟩
theorem jH.trans{d1 d2:List Nat}{ρ2:En}{σ2:L2.St}(a:jH d1 ρ ρ1 σ σ1)(b:jH d2 ρ1 ρ2 σ1 σ2):jH (d1++d2) ρ ρ2 σ σ2:=⟨b.1.trans a.1,fun i=>by
 rcases b.2 i with⟨b1,b2⟩|⟨bm,b1,b2⟩
 ·rcases a.2 i with⟨a1,a2⟩|⟨am,a1,a2⟩
  ·exact .inl ⟨b1.trans a1,b2.trans a2⟩
  ·exact .inr ⟨Ci _ am,by rw[b1];exact a1,a2⟩
 ·rcases a.2 i with⟨a1,a2⟩|⟨am,a1,a2⟩
  ·exact .inr ⟨AI _ bm,b1,fun e z=>b2 e (by rw[a1];exact z)⟩
  ·exact .inr ⟨Ci _ am,b1,a2⟩⟩
theorem bc.chg(r:bc K C ρ σ H)(rel:Rel K ρ1 σ1 H)(c:jH dom ρ ρ1 σ σ1):bc K C ρ1 σ1 H where
 rel:=rel
 keep:=r.keep
 own:=fun i a d e1 e2=>by
  rcases c.2 i with⟨c1,c2⟩|⟨_,⟨d',c1⟩,c2⟩
  ·exact r.own i a d (by rw[<- c1];exact e1) (by rw[<- c2];exact e2)
  ·rw[c1]at e1;cases e1
 pin:=fun i=>by
  rcases c.2 i with⟨c1,c2⟩|⟨_,⟨d',c1⟩,c2⟩
  ·rw[c1];exact r.pin i
  ·rw[c1,<- r.pin i]
   constructor
   ·rintro⟨_,z⟩;cases z
   ·rintro⟨d,z⟩;exact absurd z (c2 d)
 fix:=fun i d e=>by
  rcases c.2 i with⟨c1,c2⟩|⟨_,⟨d',c1⟩,c2⟩
  ·rw[c2];exact r.fix i d (by rw[<- c1];exact e)
  ·rw[c1]at e;cases e
 kY:=r.kY
theorem bc.fresh(r:bc K C ρ σ H)(ha:H a=none):C.H₀ a=none:=by
 cases e0:C.H₀ a with
 | none=>rfl
 | some o =>
  by_cases k:MA C.ρ₀ C.σ₀ a
  ·obtain⟨i,⟨p,d0,e1⟩,e2⟩:=k
   have:=r.kY i p d0 e1;subst this;obtain⟨d2,e3⟩:=(r.pin i).mpr ⟨d0,e1⟩;obtain⟨o',e',_⟩:=r.rel.et ⟨i,⟨true,d2,e3⟩,by rw[r.fix i d2 e3];exact e2⟩;rw[ha]at e';cases e'
  ·rw[r.keep a o e0 k]at ha;cases ha
def cS(K:yf)(C:SC)(H:Hp)(r:R (Fl×En))(Dn:Ends):Prop:=match r with
 | .ok x=>match x.1 with
  | .nx=>∀ σ' H',bc K C x.2 σ' H'->ax H H'->Dn.nx σ' H'
  | .bk=>∀ σ' H',bc K C x.2 σ' H'->ax H H'->Dn.bk σ' H'
  | .ct=>∀ σ' H',bc K C x.2 σ' H'->ax H H'->Dn.ct σ' H'
  | .rt d=>∀ v σ' H',bc K C x.2 σ' H'->Fz K H' d v->Dn.rt v H'
  | .rf d=>∀ a σ' H',bc K C x.2 σ' H'->C.H₀ a=none->cC K H' a d->Dn.rt (.ref a) H'
 | _=>False
theorem cS.step{Dn:Ends}(f:ax H H1)(g:cS K C H r Dn):cS K C H1 r Dn:=by
 cases r with
 | ok x =>
  obtain⟨fl,ρ⟩:=x;cases fl with
  | nx=>exact fun σ' H' r z=>g σ' H' r (f.trans z)
  | bk=>exact fun σ' H' r z=>g σ' H' r (f.trans z)
  | ct=>exact fun σ' H' r z=>g σ' H' r (f.trans z)
  | rt d=>exact g
  | rf d=>exact g
 | _=>exact g
theorem cS.bt{r:R β}{k:β->R (Fl×En)}{Dn:Ends}(g:cS K C H (r.bind k) Dn):∃ x,r=.ok x/\cS K C H (k x) Dn:=by
 cases r with
 | ok x=>exact⟨x,rfl,g⟩
 | _=>exact g.elim
noncomputable def tS(K:yf)(C:SC)(f:SF):TS:=fun Dn σ H=>∃ ρ,bc K C ρ σ H/\cS K C H (f ρ) Dn
theorem jq{S:VK}{Dn:Ends}(rel:bc K C ρ σ H)(g:cS K C H ((f ρ).bind k) Dn)
  (h:∀ d ρ1 v H1,bc K C ρ1 σ H1->cM ρ ρ1 σ H H1->Fz K H1 d v->cS K C H1 (k (d,ρ1)) Dn->S v H1):tV K f σ H S:=by
 obtain⟨x,e,g1⟩:=g.bt;refine⟨ρ,rel.rel,?_⟩;rw[e];exact fun H' r s v fz=>h x.1 x.2 v H' (rel.step r s) s fz (g1.step (s.cD rel.rel))
theorem zb5{f:TF}{k:Bool×En->R (Fl×En)}{Dn:Ends}(rel:bc K C ρ σ H)(g:cS K C H ((f ρ).bind k) Dn)
  (h:∀ b ρ1 H1,bc K C ρ1 σ H1->ax H H1->cS K C H1 (k (b,ρ1)) Dn->S b H1):tT K f σ H S:=by
 obtain⟨x,e,g1⟩:=g.bt;refine⟨ρ,rel.rel,?_⟩;rw[e];exact fun H' r s=>h x.1 x.2 H' (rel.step r s) (s.cD rel.rel) (g1.step (s.cD rel.rel))
theorem zix{S:VK}{Dn:Ends}(rel:bc K C ρ σ H)(g:cS K C H ((f ρ).bind k) Dn)
  (h:∀ d ρ1 a H1,bc K C ρ1 σ H1->ax H H1->H a=none->¬ MA ρ1 σ a->cC K H1 a d->cS K C H1 (k (d,ρ1)) Dn->S (.ref a) H1):tN K f σ H S:=by
 obtain⟨x,e,g1⟩:=g.bt;refine⟨ρ,rel.rel,?_⟩;rw[e];refine fun H' r s a ha m=>h x.1 x.2 a H' (rel.step r s) (s.cD rel.rel) ha (fun z=>?_) m (g1.step (s.cD rel.rel));obtain⟨o',e',_⟩:=rel.rel.et (s.ma.mpr z);rw[ha]at e';cases e'
end
structure cH(K:yf)(X:Cx)(st:yx)(f:SF):Prop where
 run:X.K=K->∀ C,PS X st (tS K C f)
instance {K:yf}{X:Cx}{st:yx}{f:SF}:CoeFun (cH K X st f) fun _=>X.K=K->∀ C,PS X st (tS K C f):=⟨cH.run⟩
structure dE(K:yf)(X:Cx)(st:List yx)(f:SF):Prop where
 run:X.K=K->∀ C,b9 X st (tS K C f)
instance {K:yf}{X:Cx}{st:List yx}{f:SF}:CoeFun (dE K X st f) fun _=>X.K=K->∀ C,b9 X st (tS K C f):=⟨dE.run⟩
theorem _root_.L2.PS.weak{e:yx}{t t':TS}(h:PS X e t)(w:∀ Dn σ H,t' Dn σ H->t Dn σ H):PS X e t':=fun pins s σ H Dn I q=>h pins s σ H Dn I (w Dn σ H q)
theorem _root_.L2.b9.weak{e:List yx}{t t':TS}(h:b9 X e t)(w:∀ Dn σ H,t' Dn σ H->t Dn σ H):b9 X e t':=fun pins s σ H Dn I q=>h pins s σ H Dn I (w Dn σ H q)
noncomputable def tG(K:yf)(dom:List Nat)(g:GF):TG:=fun v σ H Q=>∃ ρ d ρ1,Rel K ρ σ H/\Fz K H d v/\g d ρ=.ok ρ1/\∀ σ1,Rel K ρ1 σ1 H->jH dom ρ ρ1 σ σ1->Q σ1 H
def tGs(K:yf)(dom:List Nat)(gs:List GF):jl:=fun vs σ H Q=>∃ ρ ds ρ1,Rel K ρ σ H/\ah K H ds vs/\n9 gs ds ρ=.ok ρ1/\∀ σ1,Rel K ρ1 σ1 H->jH dom ρ ρ1 σ σ1->Q σ1 H
structure fU(K:yf)(X:Cx)(dom:List Nat)(e:yh)(g:GF):Prop where
 run:X.K=K->PG X e (tG K dom g)
instance {K:yf}{X:Cx}{dom:List Nat}{e:yh}{g:GF}:CoeFun (fU K X dom e g) fun _=>X.K=K->PG X e (tG K dom g):=⟨fU.run⟩
structure pJ(K:yf)(X:Cx)(dom:List Nat)(e:List yh)(g:List GF):Prop where
 run:X.K=K->jP X e (tGs K dom g)
instance {K:yf}{X:Cx}{dom:List Nat}{e:List yh}{g:List GF}:CoeFun (pJ K X dom e g) fun _=>X.K=K->jP X e (tGs K dom g):=⟨pJ.run⟩
theorem _root_.L2.PG.weak{t t':TG}(h:PG X e t)(w:∀ v σ H Q,t' v σ H Q->t v σ H Q):PG X e t':=fun pins s σ H v u Q I r q=>h pins s σ H v u Q I r (w v σ H Q q)
theorem _root_.L2.jP.weak{e:List yh}{t t':jl}(h:jP X e t)(w:∀ v σ H Q,t' v σ H Q->t v σ H Q):jP X e t':=fun pins s σ H v u Q I r q=>h pins s σ H v u Q I r (w v σ H Q q)
theorem Rel.set{K:yf}{ρ:En}{σ:L2.St}{H:Hp}{i:Nat}{x:Sl}{v:Option V}(r:Rel K ρ σ H)(o:dF K H x v)(s:∀ a p d,x=.ow p d->v=some (.ref a)->¬ MA ρ σ a):Rel K (ρ.set i x) (σ.set i v) H:=by
 refine⟨by rw[A3,A3];exact r.len,fun j y w e1 e2=>?_,fun j k b h1 h2=>?_,r.cst⟩
 ·by_cases c:i=j
  ·subst c
   by_cases hl:i<ρ.length
   ·rw[zg hl]at e1
    rw[zg (by rw[<- r.len];exact hl)]at e2;cases e1;cases e2
    exact o
   ·rw[D4 (by rw[A3];omega)]at e1;cases e1
  ·rw[yZ c]at e1 e2
   exact r.ok j y w e1 e2
 ·have w:∀ j b,At (ρ.set i x) (σ.set i v) j b->(j=i/\(∃ p d,x=.ow p d)/\v=some (.ref b))\/(j≠i/\At ρ σ j b):=fun j b ⟨⟨q,dd,e1⟩,e2⟩=>by
   by_cases c:i=j
   ·subst c
    have hl:i<ρ.length:=by
     have:=(yQ.mp e1).1
     rwa [A3]at this
    rw[zg hl]at e1;rw[zg (by rw[<- r.len];exact hl)]at e2;cases e1;cases e2
    exact .inl ⟨rfl,⟨q,dd,rfl⟩,rfl⟩
   ·rw[yZ c]at e1 e2
    exact .inr ⟨fun z=>c z.symm,⟨q,dd,e1⟩,e2⟩
  rcases w j b h1 with⟨rfl,⟨p,d,e⟩,e'⟩|⟨n1,a1⟩
  ·rcases w k b h2 with⟨rfl,_,_⟩|⟨n2,a2⟩
   ·rfl
   ·exact absurd ⟨k,a2⟩ (s b p d e e')
  ·rcases w k b h2 with⟨rfl,⟨p,d,e⟩,e'⟩|⟨n2,a2⟩
   ·exact absurd ⟨j,a1⟩ (s b p d e e')
   ·exact r.sep j k b a1 a2
section
variable {K:yf}
theorem sQ(h:gN i d ρ=.ok ρ1):ρ1=ρ.set i (.val d)/\(∀ e,ρ[i]?≠some (.ow true e))/\i<ρ.length:=by
 unfold gN at h;cases e:ρ[i]? with
 | none=>rw[e]at h;cases h
 | some x =>
  rw[e]at h;have hl:i<ρ.length:=(yQ.mp e).1;cases x with
  | no=>cases h;exact⟨rfl,(fun _ z=>nomatch z),hl⟩
  | val c=>cases h;exact⟨rfl,(fun _ z=>nomatch z),hl⟩
  | ob c ds=>cases h;exact⟨rfl,(fun _ z=>nomatch z),hl⟩
  | ow p c =>
   cases p with
   | true=>cases h
   | false=>cases h;exact⟨rfl,(fun _ z=>nomatch z),hl⟩
theorem r9(n:∀ e,ρ[i]?≠some (.ow true e))(hl:i<ρ.length):jH [i] ρ (ρ.set i (.val d)) σ (σ.set i v):=⟨A3,fun j=>by
 by_cases c:i=j
 ·subst c
  exact .inr ⟨De.mpr rfl,⟨d,zg hl⟩,n⟩
 ·exact .inl ⟨yZ c,yZ c⟩⟩
theorem zvi(hN:X.N.Nodup)(hi:X.N[i]?=some x)(hx:Loc X.env.scope x)(hf:X.fn x=true\/X.env.scope.names.lookup x=some .local:=by first|exact .inl rfl|exact .inr rfl|assumption):fU K X [i] (.Name x pos) (gN i):=.mk fun _=>(zeu hN hi hx hf).weak fun v σ H Q=>by
 rintro⟨ρ,d,ρ1,rel,fz,e,q⟩;obtain⟨rfl,n,hl⟩:=sQ e;exact q _ (rel.set fz fun _ _ _ z=>nomatch z) (r9 n hl)
theorem fE:pJ K X [] [] []:=.mk fun _=>zj4.weak fun vs σ H Q=>by
 rintro⟨ρ,ds,ρ1,rel,fz,e,q⟩;cases ds with
 | nil =>
  cases e;simp only[ah]at fz;exact⟨fz,q _ rel .refl⟩
 | cons _ _=>cases e
theorem bj{α β:Type}{r:R α}{k:α->R β}{b:β}(h:r.bind k=.ok b):∃ a,r=.ok a/\k a=.ok b:=by
 cases r with
 | ok a=>exact⟨a,rfl,h⟩
 | _=>cases h
theorem bJ{d1 d2:List Nat}(h1:fU K X d1 e g)(h2:pJ K X d2 es gs)
  (hs:(Ae (e::es) X.env).map (·.2)=Au e X.env::(Ae es X.env).map (·.2):=by rfl):pJ K X (d1++d2) (e::es) (g::gs):=.mk fun hK=>(zew (h1 hK) (h2 hK) hs).weak fun vs σ H Q=>by
 rintro⟨ρ,ds,ρ1,rel,fz,e,q⟩;cases ds with
 | nil=>cases e
 | cons d ds =>
  simp only[ah]at fz;obtain⟨v,r,rfl,f1,f2⟩:=fz;obtain⟨ρ2,e2,e3⟩:=bj (show(g d ρ).bind (fun ρ1=>n9 gs ds ρ1)=.ok ρ1 from e);exact⟨v,r,rfl,ρ,d,ρ2,rel,f1,e2,fun σ1 aj c1=>⟨ρ2,ds,ρ1,aj,f2,e3,fun σ2 bY c2=>q σ2 bY (c1.trans c2)⟩⟩
theorem zis:∀{gs:List GF} {ds:List D} {ρ ρ1:En},n9 gs ds ρ=.ok ρ1->ds.length=gs.length
 | [],[],_,_,_=>rfl
 | [],_::_,_,_,e=>by cases e
 | _::_,[],_,_,e=>by cases e
 | g::gs,d::ds,ρ,ρ1,e=>by
  obtain⟨ρ2,e2,e3⟩:=bj (show(g d ρ).bind (fun ρ1=>n9 gs ds ρ1)=.ok ρ1 from e);simp[zis e3]
theorem fC{k:Nat}(hc:X.calm=true)(h:pJ K X dom es gs)
  (hn:(Ae es X.env).length=gs.length:=by rfl)(cu:(Ae es X.env).findIdx? (·.1)=none:=by rfl):fU K X dom (.Tuple es k pos) (gT gs):=.mk fun hK=>by
 subst hK;refine(zud hc (h rfl) hn cu).weak fun v σ H Q=>?_;rintro⟨ρ,d,ρ1,rel,fz,e,q⟩;cases d with
 | tuple ds =>
  simp only[Fz]at fz;obtain⟨a,vs,rfl,s,f⟩:=fz;replace e:n9 gs ds ρ=.ok ρ1:=e;exact⟨a,vs,rfl,.inl s,by rw[f.len,zis e],ρ,ds,ρ1,rel,f,e,q⟩
 | _=>cases e
variable {st:yx}{rest:List yx}{t:SF}
theorem cW:dE K X [] aT:=.mk fun _ C=>zeE.weak fun Dn σ H=>by
 rintro⟨ρ,rel,g⟩;exact g σ H rel (ax.refl H)
theorem aJ(h1:cH K X st s)(h2:dE K X rest t):dE K X (st::rest) (ak s t):=.mk fun hK C=>(qE (h1 hK C) (h2 hK C)).weak fun Dn σ H=>by
 rintro⟨ρ,rel,g⟩;refine⟨ρ,rel,?_⟩;obtain⟨x,ex,g1⟩:=g.bt;rw[ex];obtain⟨fl,ρ1⟩:=x;cases fl with
 | nx=>exact fun σ' H' r z=>⟨ρ1,r,g1.step z⟩
 | bk=>exact g1
 | ct=>exact g1
 | rt d=>exact g1
 | rf d=>exact g1
theorem cX(h1:cH K X st s):dE K X [st] s:=.mk fun hK C=>qF (h1 hK C)
theorem qJ:cH K X st je:=.mk fun _ C=>zkc.weak fun Dn σ H=>by
 rintro⟨ρ,rel,g⟩;exact g.elim
theorem zvs(he:PV K X e f)(hs:zB e none pos.line X.env=pure false:=by rfl):cH K X (.Expr e pos) (sE f):=.mk fun hK C=>(zuy (he hK) hs).weak fun Dn σ H=>by
 rintro⟨ρ,rel,g⟩;exact jq rel g fun d ρ1 v H1 aj aB fz g1=>g1 σ H1 aj (ax.refl H1)
theorem zvz(he:PV K X e f):cH K X (.Return (some e) pos) (aD f):=.mk fun hK C=>(qD (he hK)).weak fun Dn σ H=>by
 rintro⟨ρ,rel,g⟩;exact jq rel g fun d ρ1 v H1 aj aB fz g1=>g1 v σ H1 aj fz
theorem uA(he:aO K X e f):cH K X (.Return (some e) pos) (jg f):=.mk fun hK C=>(qD (he hK)).weak fun Dn σ H=>by
 rintro⟨ρ,rel,g⟩;exact zix rel g fun d ρ1 a H1 aj fz ha n m g1=>g1 a σ H1 aj (rel.fresh ha) m
theorem zeM(i:Nat)(ha:PE X (.Name y py) (dD i)):cH K X (.Return (some (.Name y py)) pos) (uG i):=.mk fun hK C=>(qD ha).weak fun Dn σ H=>by
 rintro⟨ρ,rel,g⟩;unfold uG at g;cases e:ρ[i]? with
 | none=>rw[e]at g;exact g.elim
 | some x =>
  rw[e]at g;cases x with
  | ow p d =>
   cases p with
   | false =>
    obtain⟨a,bI,m⟩:=rel.rel.j9 (d:=d) (show cv ρ i=.ok d by unfold cv;rw[e]);exact⟨.ref a,bI.2,g a σ H rel (rel.own i a d e bI.2) m⟩
   | true=>exact g.elim
  | _=>exact g.elim
theorem dM{c:yh}{a b:List yx}(hc:dY K X c tc)(ha:dE K X a s)(hb:dE K X b t):cH K X (.If c a b pos) (aP tc s t):=.mk fun hK C=>(wZ (hc hK) (ha hK C) (hb hK C)).weak fun Dn σ H=>by
 rintro⟨ρ,rel,g⟩;refine zb5 rel g fun cb ρ1 H1 aj fz g1=>?_;cases cb with
 | true=>exact jt ⟨ρ1,aj,g1⟩
 | false=>exact js ⟨ρ1,aj,g1⟩
theorem uw(he:PV K X e f)(hg:fU K X dom tg g)(hs:BO [tg] e pos.line X.env=pure false:=by rfl)(hw:BP [tg] e X.env=pure none:=by rfl)
  (h1:(Ae [tg] X.env).map (·.2)=[Au tg X.env]:=by rfl):cH K X (.Assign [tg] e pos) (aF g f):=.mk fun hK C=>(zeB (he hK) (hg hK) hs hw h1).weak fun Dn σ H=>by
 rintro⟨ρ,rel,q⟩;refine jq rel q fun d ρ1 v H1 aj aB fz q1=>?_;obtain⟨ρ2,e2,q2⟩:=q1.bt;exact⟨ρ1,d,ρ2,aj.rel,fz,e2,fun σ1 bY c=>q2 σ1 H1 (aj.chg bY c) (ax.refl H1)⟩
theorem zvA(hN:X.N.Nodup)(hi:X.N[i]?=some x)(hx:Loc X.env.scope x)(he:PV K X e f)(hs:zB e (some (.Name x pos')) pos.line X.env=pure false:=by rfl)(hf:X.fn x=true\/X.env.scope.names.lookup x=some .local:=by first|exact .inl rfl|exact .inr rfl|assumption) :
  cH K X (.Assign [.Name x pos'] e pos) (aF (gN i) f):=.mk fun hK C=>(w4 hN hi hx (he hK) hs hf).weak fun Dn σ H=>by
 rintro⟨ρ,rel,q⟩;refine jq rel q fun d ρ1 v H1 aj aB fz q1=>?_;obtain⟨ρ2,e2,q2⟩:=q1.bt;obtain⟨rfl,n,hl⟩:=sQ e2;exact q2 _ H1 (aj.chg (aj.rel.set fz fun _ _ _ z=>nomatch z) (r9 n hl)) (ax.refl H1)
theorem zb4(Dn:Ends)(σ:L2.St)(H:Hp)(q0:tS K C (eN i f) Dn σ H):qR (tN K f) (qd i) Dn σ H:=by
 revert q0
 rintro⟨ρ,rel,q⟩;refine zix rel q fun d ρ1 a H1 aj fz ha n m q1=>?_;have hf:=rel.fresh ha;replace q1:cS K C H1 (match ρ1[i]? with|some (.ow true _)=>.bad|some _=>.ok (.nx,ρ1.set i (.ow false d))|none=>.bad) Dn:=q1;have fin:(∀ e,ρ1[i]?≠some (.ow true e))->i<ρ1.length->bc K C (ρ1.set i (.ow false d)) (σ.set i (some (.ref a))) H1:=fun np hl=>by
  have hls:i<σ.length:=by rw[<- aj.rel.len];exact hl
  refine⟨aj.rel.set (show dF K H1 (.ow false d) (some (.ref a)) from m) fun b p c e1 e2=>by cases e2;exact n,aj.keep,fun j b c e1 e2=>?_,fun j=>?_,fun j c e1=>?_,aj.kY⟩
  ·by_cases k:i=j
   ·subst k
    rw[zg hls]at e2;cases e2;exact hf
   ·rw[yZ k]at e1 e2
    exact aj.own j b c e1 e2
  ·by_cases k:i=j
   ·subst k
    rw[zg hl,<- aj.pin i]
    constructor
    ·rintro⟨_,z⟩;cases z
    ·rintro⟨c,z⟩;exact absurd z (np c)
   ·rw[yZ k];exact aj.pin j
  ·by_cases k:i=j
   ·subst k
    rw[zg hl]at e1;cases e1
   ·rw[yZ k]at e1 ⊢
    exact aj.fix j c e1
 cases e1:ρ1[i]? with
 | none=>rw[e1]at q1;exact q1.elim
 | some y =>
  have hl:i<ρ1.length:=(yQ.mp e1).1;rw[e1]at q1;cases y with
  | no=>exact q1 _ H1 (fin (fun e z=>by rw[e1]at z;cases z) hl) (ax.refl H1)
  | val c=>exact q1 _ H1 (fin (fun e z=>by rw[e1]at z;cases z) hl) (ax.refl H1)
  | ob c ds=>exact q1 _ H1 (fin (fun e z=>by rw[e1]at z;cases z) hl) (ax.refl H1)
  | ow p c =>
   cases p with
   | true=>exact q1.elim
   | false=>exact q1 _ H1 (fin (fun e z=>by rw[e1]at z;cases z) hl) (ax.refl H1)
theorem zvv(hN:X.N.Nodup)(hi:X.N[i]?=some x)(hx:Loc X.env.scope x)(he:aO K X e f)(hs:zB e (some (.Name x pos')) pos.line X.env=pure false:=by rfl)(hf:X.fn x=true\/X.env.scope.names.lookup x=some .local:=by first|exact .inl rfl|exact .inr rfl|assumption) :
  cH K X (.Assign [.Name x pos'] e pos) (eN i f):=.mk fun hK C=>(w4 hN hi hx (he hK) hs hf).weak fun Dn σ H q=>zb4 Dn σ H q
theorem zvu(i:Nat)(h:cH K X st s):cH K X st (xG i s):=.mk fun hK C=>by
 have h1:PS X st (fun Dn σ H=>∃ a u,H a=some u/\Own u/\∀ o,tS K C s Dn σ (upd H a (.frz o u))):=fun pins sh σ H Dn I ⟨a,u,e,ow,q⟩=>by
  obtain⟨o,ho⟩:=(I.au a u e).some;exact h hK C pins sh σ _ Dn (zbQ I e ow ho) (q o)
 refine h1.weak fun Dn σ H=>?_;rintro⟨ρ,rel,g⟩;unfold xG at g;cases e:ρ[i]? with
 | none=>rw[e]at g;exact g.elim
 | some x =>
  rw[e]at g;cases x with
  | ow p d =>
   cases p with
   | true=>exact g.elim
   | false =>
    obtain⟨a,bI,m⟩:=rel.rel.j9 (d:=d) (show cv ρ i=.ok d by unfold cv;rw[e]);obtain⟨u,e1,ow⟩:=m.own;refine⟨a,u,e1,ow,fun o=>⟨ρ.set i (.val d),?_,g.step ?_⟩⟩
    ·have hl:i<ρ.length:=(yQ.mp e).1
     have eh:=rel.own i a d e bI.2;have fz:ax H (upd H a (.frz o u)):=fun b w e2 sy=>by
      rw[aN fun z=>by subst z;rw[e1]at e2;cases e2;exact ow.iI sy];exact e2
     have fd:Fz K (upd H a (.frz o u)) d (.ref a):=by
      cases d with
      | list ds =>
       obtain⟨vs,h1,h2⟩:=m;rw[e1]at h1;cases h1;simp only[Fz];exact⟨a,vs,rfl,.inl ⟨o,ck⟩,h2.mono fz⟩
      | dict ag =>
       simp only[Fz];obtain⟨kk,h1,h2⟩:=m;rw[e1]at h1;cases h1;exact⟨a,o,rfl,⟨kk,ck,h2.mono fz⟩⟩
      | _=>exact m.elim
     have rY:∀ j b,At (ρ.set i (.val d)) σ j b->j≠i/\At ρ σ j b:=fun j b ⟨⟨q,dd,e1⟩,e2⟩=>by
      by_cases c:i=j
      ·subst c
       rw[zg hl]at e1;cases e1
      ·rw[yZ c]at e1
       exact⟨fun z=>c z.symm,⟨q,dd,e1⟩,e2⟩
     refine⟨⟨by rw[A3];exact rel.rel.len,fun j y w e2 e3=>?_,fun j k b h1 h2=>rel.rel.sep j k b (rY j b h1).2 (rY k b h2).2,rel.rel.cst.mono fz⟩,fun b w e2 n=>?_,fun j b c e2 e3=>?_,fun j=>?_,fun j c e2=>?_,rel.kY⟩
     ·by_cases c:i=j
      ·subst c
       rw[zg hl]at e2;cases e2;rw[bI.2]at e3;cases e3;exact fd
      ·rw[yZ c]at e2
       refine(rel.rel.ok j y w e2 e3).mono fz fun b e4 ⟨p,dd,e5⟩=>?_;subst e4;subst e5
       refine aN fun z=>?_;subst z;exact c (rel.rel.sep i j b bI ⟨⟨p,dd,e2⟩,e3⟩)
     ·rw[aN fun z=>by subst z;rw[eh]at e2;cases e2]
      exact rel.keep b w e2 n
     ·by_cases c:i=j
      ·subst c
       rw[zg hl]at e2;cases e2
      ·rw[yZ c]at e2
       exact rel.own j b _ e2 e3
     ·by_cases c:i=j
      ·subst c
       rw[zg hl,<- rel.pin i,e]
       constructor
       ·rintro⟨_,z⟩;cases z
       ·rintro⟨_,z⟩;cases z
      ·rw[yZ c];exact rel.pin j
     ·by_cases k:i=j
      ·subst k
       rw[zg hl]at e2;cases e2
      ·rw[yZ k]at e2
       exact rel.fix j c e2
    ·exact fun b w e2 sy=>by
      rw[aN fun z=>by subst z;rw[e1]at e2;cases e2;exact ow.iI sy];exact e2
  | _=>exact g.elim
theorem zsh(h:lZ ρ i=.ok c):∃ p,ρ[i]?=some (.ow p (.list c)):=by
 unfold lZ at h;cases e:ρ[i]? with
 | none=>rw[e]at h;cases h
 | some x =>
  rw[e]at h;cases x with
  | ow p d =>
   cases d with
   | list a=>cases h;exact⟨p,rfl⟩
   | _=>cases h
  | _=>cases h
theorem Rel.zjl(r:Rel K ρ σ H)(h:lZ ρ i=.ok c):∃ a vs,At ρ σ i a/\H a=some (.lst vs)/\ah K H c vs:=by
 obtain⟨p,e⟩:=zsh h;obtain⟨a,bI,m⟩:=r.j9 (d:=.list c) (show cv ρ i=.ok (.list c) by unfold cv;rw[e]);obtain⟨vs,h1,h2⟩:=m;exact⟨a,vs,bI,h1,h2⟩
theorem Rel.zsg(r:Rel K ρ1 σ H1)(h:lZ ρ1 i=.ok c)(bI:At ρ σ i a):∃ vs,At ρ1 σ i a/\H1 a=some (.lst vs)/\ah K H1 c vs:=by
 obtain⟨b,vs,ab,h1,h2⟩:=r.zjl h;have:=bI.2.symm.trans ab.2;cases this;exact⟨vs,ab,h1,h2⟩
theorem ziA{Dn:Ends}(rel:bc K C ρ σ H)(bI:At ρ σ i a)(m:cC K (upd H a o) a d)(g:cS K C H (.ok (.nx,iK ρ i d)) Dn):Dn.nx σ (upd H a o):=by
 have st:cM ρ (iK ρ i d) σ H (upd H a o):=zkZ bI;exact g σ _ (rel.step (rel.rel.zu2 bI m) st) (st.cD rel.rel)
theorem zo2(rel:bc K C ρ σ H)(bI:At ρ σ i a):ax H (upd H a o):=(zkZ (d:=.none) bI).cD rel.rel
theorem zeN{ka:yn}{k:EF}(i:Nat)(ha:PE X (.Name y py) (dD i))(he:PV K X e f)(hk:PV K X ke k)
  (has:∀ v,Au (.Subscript (.Name y py) ke ka) X.env v=(do
   let ov <- Ak [v] (yu (.Name y py) X.env)
   let iv <- Ak [v,ov] (yu ke X.env)
   AG ka
   Ak [v,ov,iv] (setItem ov iv v)
   release [v,ov,iv] []):=by intro _;rfl)
  (hs:BO [.Subscript (.Name y py) ke ka] e pos.line X.env=pure false:=by rfl)(hw:BP [.Subscript (.Name y py) ke ka] e X.env=pure none:=by rfl)
  (h1:(Ae [.Subscript (.Name y py) ke ka] X.env).map (·.2)=[Au (.Subscript (.Name y py) ke ka) X.env]:=by rfl):cH K X (.Assign [.Subscript (.Name y py) ke ka] e pos) (setM i f k):=.mk fun hK C=>by
 subst hK;refine(zeB (he rfl) (zuc ha (hk rfl) set_list has) hs hw h1).weak fun Dn σ H=>?_;rintro⟨ρ,rel,g⟩;refine jq rel g fun dx ρ1 v H1 aj aB fz g1=>?_;obtain⟨d,ed,g2⟩:=g1.bt;obtain⟨a,vs0,bI,h0,_⟩:=aj.rel.zjl ed;refine⟨.ref a,bI.2,jq aj g2 fun dk ρ2 kv H2 bY cg fk g3=>?_⟩;obtain⟨c,ec,g4⟩:=g3.bt;obtain⟨vs,at1,h1,h2⟩:=bY.rel.zsg ec bI;cases dk with
 | int j =>
  obtain⟨n,en,g5⟩:=(show cS X.K C H2 ((R.of (FL.gz c.length j)).bind fun n=>.ok (.nx,iK ρ2 i (.list (c.set n dx)))) Dn from g4).bt;simp only[Fz]at fk;subst fk;refine⟨a,vs,j,n,rfl,rfl,h1,?_,ziA (d:=.list (c.set n dx)) bY at1 ⟨_,ck,(h2.set n (fz.mono (cg.cD aj.rel))).mono (zo2 bY at1)⟩ g5⟩;rw[h2.len];cases e2:FL.gz c.length j with
  | none=>rw[e2]at en;cases en
  | some m=>rw[e2]at en;cases en;exact e2
 | _=>exact g4.elim
end
end
variable {c l:yh}{tl:TE}{items:List D}{β:En}{body:List yx}{it:IF}
section
variable [Cs]
def Walk(K:yf)(J:It)(items:List D)(H:Hp):Prop :=
 (∀ i d H',ax H H'->items[i]?=some d->J.go i H'/\∀ x iV,J.ya i H' x iV->ay H' iV/\Fz K iV d x)/\∀ i H',ax H H'->items.length<=i->J.stop i H'
noncomputable def tI(K:yf)(it:IF):TI:=fun σ H R=>∃ ρ,Rel K ρ σ H/\Good K ρ σ H (it ρ) fun items _ H'=>∀ J,Walk K J items H'->R J H'
structure fV(K:yf)(X:Cx)(tg e:yh)(it:IF):Prop where
 run:X.K=K->PI X tg e (tI K it)
instance {K:yf}{X:Cx}{tg e:yh}{it:IF}:CoeFun (fV K X tg e it) fun _=>X.K=K->PI X tg e (tI K it):=⟨fV.run⟩
theorem _root_.L2.PI.weak{t t':TI}(h:PI X tg e t)(w:∀ σ H R,t' σ H R->t σ H R):PI X tg e t':=fun pins s σ H R I q=>h pins s σ H R I (w σ H R q)
section
variable {K:yf}
theorem zuh(hl:PE X l tl):PI X tg l (fun σ H R=>tl σ H fun x H1=>∃ a,x=.ref a/\(((∃ xs,bq X.K H1 a xs)/\R (Itl X.K a) H1)\/((∃ xs,dO X.K H1 a xs)/\R (Itt X.K a) H1))):=by
 intro pins s σ H R I h;refine aI (hl pins s σ H _ I h) fun v s1 ⟨x,H1,I1,r1,q1⟩=>?_;obtain⟨a,e,q1⟩:=q1;subst e;cases r1;rcases q1 with⟨⟨xs,hq⟩,q⟩|⟨⟨xs,hq⟩,q⟩
 ·obtain⟨its,rv,p,hz⟩:=I1.list hq
  refine DW p.isList ?_;refine⟨s1.heap.objs.size,[s1.heap.objs.size],_,_,H1,rfl,I1.kept (t':=s1.toks) fun b o e=>yM _ e,zx0 a _,⟨_,y9 _ rfl,rfl,rfl⟩,fun b hb=>?_,q⟩;have e:b=s1.heap.objs.size:=by simpa using hb
  subst e;exact I1.kH (yA _) (I1.au.fresh (yA _))
 ·obtain⟨its,rv,p,hz⟩:=I1.tuple hq
  refine wpAny_pyIter_tuple (show s1.heap.IsTuple a its.toArray from p) ?_;refine⟨s1.heap.objs.size,[s1.heap.objs.size],_,_,H1,rfl,I1.kept (t':=s1.toks) fun b o e=>yM _ e,zx3 a _,⟨_,y9 _ rfl,rfl,rfl⟩,fun b hb=>?_,q⟩;have e:b=s1.heap.objs.size:=by simpa using hb
  subst e;exact I1.kH (yA _) (I1.au.fresh (yA _))
theorem zyh(h:jK K H a vs)(f:ah K H items vs):Walk K (Itl K a) items H:=by
 refine⟨fun i d H' fz e=>?_,fun i H' fz e=>⟨vs,(fz.gm h).sq,by rw[f.len];exact e⟩⟩;obtain⟨v,ev,_⟩:=f.get e;refine⟨⟨vs,v,(fz.gm h).sq,ev⟩,fun x iV y=>?_⟩;obtain⟨rfl,y⟩:=y;have ex:=y vs (fz.gm h).sq;obtain⟨v',sM,fv⟩:=(f.mono fz).get e;rw[ex]at sM;cases sM;exact⟨ay.refl _,fv⟩
theorem zyj(h:dB H a vs)(f:ah K H items vs):Walk K (Itt K a) items H:=by
 refine⟨fun i d H' fz e=>?_,fun i H' fz e=>⟨vs,.inl (fz.o7 h),by rw[f.len];exact e⟩⟩;obtain⟨v,ev,_⟩:=f.get e;refine⟨⟨vs,v,.inl (fz.o7 h),ev⟩,fun x iV y=>?_⟩;obtain⟨rfl,y⟩:=y;have ex:=y vs (.inl (fz.o7 h));obtain⟨v',sM,fv⟩:=(f.mono fz).get e;rw[ex]at sM;cases sM;exact⟨ay.refl _,fv⟩
theorem hW(he:PV K X e f):fV K X tg e (iE f):=.mk fun hK=>by
 subst hK;refine(zuh (he rfl)).weak fun σ H R=>?_;rintro⟨ρ,rel,q⟩;refine dS rel q fun dx ρ1 x H1 aj aB fx q1=>?_;obtain⟨items,ei,q2⟩:=q1.cE;cases dx with
 | list a =>
  cases ei;simp only[Fz]at fx;obtain⟨l,vs,rfl,sx,f⟩:=fx;exact⟨l,rfl,.inl ⟨⟨vs,sx.sq⟩,q2.now aj _ (zyh sx f)⟩⟩
 | tuple a =>
  cases ei;simp only[Fz]at fx;obtain⟨l,vs,rfl,sx,f⟩:=fx;exact⟨l,rfl,.inr ⟨⟨vs,.inl sx⟩,q2.now aj _ (zyj sx f)⟩⟩
 | _=>cases ei
theorem p62:(2:Int)^62=4611686018427387904:=by decide
theorem zwM{lo hi:Int}(h:(eM lo hi)[i]?=some d):i<(hi-lo).toNat/\d=.int (lo+i):=by
 unfold eM at h;rw[zv]at h
 by_cases c:i<(hi-lo).toNat
 ·rw[List.getElem?_range c]at h
  cases h;exact⟨c,rfl⟩
 ·rw[D4 (by rw[Dk];omega)]at h;cases h
theorem zlx(lo hi:Int):Walk K (rG lo (hi-lo).toNat) (eM lo hi) H:=by
 refine⟨fun i d H' fz e=>?_,fun i H' fz e=>?_⟩
 ·obtain⟨c,rfl⟩:=zwM e
  refine⟨c,fun x iV y=>?_⟩;obtain⟨rfl,rfl⟩:=y;exact⟨ay.refl _,cm _⟩
 ·show(hi-lo).toNat<=i
  simpa[eM] using e
theorem kZ{a:yh}(hg:Gl X "range")(hm:X.mg "range"=none)(ha:cY K X [a] fa)(hs:yi [a] X.env=[(false,yu a X.env)]:=by exact FL.se rfl):fV K X tg (.Call (.Name "range" p) [a] [] pos) (gI fa):=.mk fun hK=>(zuf hg hm (ha hK) hs).weak fun σ H R=>by
 rintro⟨ρ,rel,q⟩;refine lP rel q fun ds ρ1 vs H1 aj aB fs q1=>?_;obtain⟨items,ei,q2⟩:=q1.cE;cases ds with
 | nil=>cases ei
 | cons d r =>
  cases r with
  | cons _ _=>cases d <;> cases ei
  | nil =>
   cases d with
   | int j =>
    obtain⟨c,ei⟩:=fX (show aY (lq j&&leB j.toNat lim) (.ok (eM 0 j))=.ok items from ei);cases ei;simp only[ah,Fz]at fs;obtain⟨_,_,rfl,rfl,rfl⟩:=fs;simp only[lq,zf,leB_iff]at c;have:=zlx (K:=K) (H:=H1) 0 j;rw[Int.sub_zero]at this;have e62:=p62;exact⟨j,rfl,by omega,by omega,q2.now aj _ this⟩
   | _=>cases ei
theorem zko{a b:yh}(hg:Gl X "range")(hm:X.mg "range"=none)(ha:cY K X [a,b] fa)(hs:yi [a,b] X.env=[(false,yu a X.env),(false,yu b X.env)]:=by rfl)(c7:yi [b] X.env=[(false,yu b X.env)]:=by exact FL.se rfl) :
  fV K X tg (.Call (.Name "range" p) [a,b] [] pos) (iR2 fa):=.mk fun hK=>(zug hg hm (ha hK) hs c7).weak fun σ H R=>by
 rintro⟨ρ,rel,q⟩;refine lP rel q fun ds ρ1 vs H1 aj aB fs q1=>?_;obtain⟨items,ei,q2⟩:=q1.cE;have key:∃ i j,ds=[.int i,.int j]:=by
  cases ds with
  | nil=>cases ei
  | cons d r =>
   cases d with
   | int i =>
    cases r with
    | nil=>cases ei
    | cons d2 r =>
     cases d2 with
     | int j =>
      cases r with
      | nil=>exact⟨i,j,rfl⟩
      | cons _ _=>cases ei
     | _=>cases ei
   | _=>cases ei
 obtain⟨i,j,rfl⟩:=key;obtain⟨c,ei⟩:=fX (show aY (lq i&&lq j&&leB (j-i).toNat lim) (.ok (eM i j))=.ok items from ei);cases ei;simp only[ah,Fz]at fs;obtain⟨_,_,rfl,rfl,_,_,rfl,rfl,rfl⟩:=fs;simp only[lq,zf,leB_iff]at c;have e62:=p62;exact⟨i,j,rfl,⟨by omega,by omega,by omega,by omega⟩,q2.now aj _ (zlx i j)⟩
variable {t:SF}
theorem zvt(hp:CZ (ym X.prog X.w) X.A X.env X.xe)(hc:X.calm=true)(hi:fV K X tg e it)(hg:fU K X dom tg g)(hb:dE K X body b)(hs:∀ x,zI e X.env x=pure x:=by intro _;rfl):cH K X (.For tg e body [] pos) (gk it g b):=.mk fun hK C =>
 (zuA hp hc (hi hK) (hg hK) (hb hK C) hs).weak fun Dn σ0 H0=>by
 rintro⟨ρ0,oY,q⟩;obtain⟨x,ex,q⟩:=q.bt;refine⟨ρ0,oY.rel,?_⟩;rw[ex];intro Hs r st J wk;have aj:=oY.step r st;have q1:=q.step (st.cD oY.rel);obtain⟨items,ρs⟩:=x;refine⟨fun i m σ H=>m=items.length-i/\i<=items.length/\∃ ρ,bc K C ρ σ H/\ax Hs H/\cS K C H (forL g b (items.drop i) ρ) Dn,⟨items.length,by simp,zJ _,ρs,aj,ax.refl _,q1⟩,?_⟩;rintro i m σ H ⟨rfl,hi,ρ,rel,fz,gd⟩
 by_cases c:i<items.length
 ·have ed:=E4 c
  rw[ed]at gd;obtain⟨bP,hy⟩:=wk.1 i items[i] H fz (yO c);refine .inr ⟨bP,fun σ' H'=>∃ ρ,bc K C ρ σ' H'/\ax Hs H'/\cS K C H' (forL g b (items.drop (i+1)) ρ) Dn,fun σ' H' n=>⟨items.length-(i+1),by omega,rfl,c,n⟩,fun x H3 y=>?_⟩;obtain⟨sm,fx⟩:=hy x H3 y;have iL:bc K C ρ σ H3:=rel.step (rel.rel.same sm) (.of sm);obtain⟨ρ1,e1,gd1⟩:=gd.bt;refine⟨ρ,items[i],ρ1,iL.rel,fx,e1,fun σ1 zeV chg=>⟨ρ1,iL.chg zeV chg,?_⟩⟩;obtain⟨y,ey,og⟩:=gd1.bt;rw[ey];have sU:=og.step (ax.of sm);have fz3:=fz.trans (ax.of sm);obtain⟨fl,ρ2⟩:=y;cases fl with
  | nx=>exact fun σ' H' r z=>⟨ρ2,r,fz3.trans z,sU.step z⟩
  | ct=>exact fun σ' H' r z=>⟨ρ2,r,fz3.trans z,sU.step z⟩
  | bk=>exact sU
  | rt d=>exact sU
  | rf d=>exact sU
 ·have e:i=items.length:=by omega
  subst e;rw[List.drop_length]at gd;exact .inl ⟨wk.2 _ H fz (yA _),gd σ H rel (ax.refl _)⟩
theorem zks(fuel:En->Nat)(hp:CZ (ym X.prog X.w) X.A X.env X.xe)(hc:dY K X c tc)(hb:dE K X body b):cH K X (.While c body [] pos) (o6 fuel tc b):=.mk fun hK C =>
 (zuG hp (hc hK) (hb hK C)).weak fun Dn σ0 H0=>by
 rintro⟨ρ0,oY,q⟩;refine⟨fun m σ H=>∃ ρ,bc K C ρ σ H/\cS K C H (pB tc b m ρ) Dn,⟨fuel ρ0,ρ0,oY,q⟩,?_⟩;rintro m σ H ⟨ρ,rel,gd⟩;cases m with
 | zero=>exact gd.elim
 | succ n =>
  refine zb5 rel gd fun cb ρ1 H1 aj fz g1=>?_;cases cb with
  | false=>exact js (g1 σ H1 aj (ax.refl _))
  | true =>
   refine jt ⟨fun σ' H'=>∃ ρ,bc K C ρ σ' H'/\cS K C H' (pB tc b n ρ) Dn,fun σ' H' z=>⟨n,C4 _,z⟩,ρ1,aj,?_⟩;obtain⟨y,ey,og⟩:=(show cS K C H1 ((b ρ1).bind fun y=>match y.1 with
   | .nx | .ct=>pB tc b n y.2
   | .bk=>.ok (.nx,y.2)
   | .rt d=>.ok (.rt d,y.2)
   | .rf d=>.ok (.rf d,y.2)) Dn from g1).bt
   rw[ey];obtain⟨fl,ρ2⟩:=y;cases fl with
   | nx=>exact fun σ' H' r z=>⟨ρ2,r,og.step z⟩
   | ct=>exact fun σ' H' r z=>⟨ρ2,r,og.step z⟩
   | bk=>exact og
   | rt d=>exact og
   | rf d=>exact og
end
end
variable {j k k2:Nat}{cs:En}{tu:TU}{l:dm}{J:It}{M:dm->D->Hp->Prop}{F:D->En->R (D×En)}{cz:IF}{o0:HO}{g2:GF}{σβ:L2.St}{H0:Hp}{gH ix:List Nat}{scope:yT}{d0:D}{elt iter:yh}{t2:TF}{ifs:List yh}
section
variable [Cs]
section
variable {K:yf}
theorem zhs(h:j<k):(dg k ix ρ)[j]?=some .no:=by
 unfold dg;rw[zK (by simpa using h),Aa,if_pos h]
theorem vt(j:Nat):(dg k ix ρ)[k+j]?=(ix[j]?).map fun i=>(ρ[i]?).getD .no:=by
 unfold dg;rw[Ay (by simp),A1,Gh,zv]
theorem zaY(j:Nat):(eO k ix σ)[k+j]?=(ix[j]?).map fun i=>(σ[i]?).getD none:=by
 unfold eO;rw[Ay (by simp),A1,Gh,zv]
theorem rZ(h:At (dg k ix ρ) (eO k ix σ) j a):∃ j' i,j=k+j'/\ix[j']?=some i/\At ρ σ i a:=by
 obtain⟨⟨p,d,e1⟩,e2⟩:=h
 by_cases c:j<k
 ·rw[zhs c]at e1;cases e1
 ·obtain⟨j',rfl⟩:∃ j',j=k+j':=⟨j-k,by omega⟩
  rw[vt]at e1;rw[zaY]at e2;cases ei:ix[j']? with
  | none=>rw[ei]at e1;cases e1
  | some i =>
   rw[ei]at e1 e2;refine⟨j',i,rfl,ei,⟨p,d,?_⟩,?_⟩
   ·simp only[AB,Ac]at e1
    cases er:ρ[i]? with
    | none=>rw[er]at e1;cases e1
    | some x=>rw[er]at e1;simpa using e1
   ·simp only[AB,Ac]at e2
    cases es:σ[i]? with
    | none=>rw[es]at e2;cases e2
    | some x=>rw[es]at e2;simpa using e2
theorem zsP{l:List Nat}(h:l.Nodup){x:Nat}(a:l[i]?=some x)(b:l[j]?=some x):i=j:=by
 obtain⟨h1,e1⟩:=yQ.mp a;obtain⟨h2,e2⟩:=yQ.mp b;exact(List.getElem_inj h).mp (e1.trans e2.symm)
theorem zmD(nd:ix.Nodup)(r:Rel K ρ σ H):Rel K (dg k ix ρ) (eO k ix σ) H:=by
 refine⟨by simp[dg,eO],fun j x v e1 e2=>?_,fun i j a h1 h2=>?_,r.cst⟩
 ·by_cases c:j<k
  ·rw[zhs c]at e1;cases e1;trivial
  ·obtain⟨j',rfl⟩:∃ j',j=k+j':=⟨j-k,by omega⟩
   rw[vt]at e1;rw[zaY]at e2;cases ei:ix[j']? with
   | none=>rw[ei]at e1;cases e1
   | some i =>
    rw[ei]at e1 e2;simp only[AB,Ac]at e1 e2;cases er:ρ[i]? with
    | none=>rw[er]at e1;cases e1;trivial
    | some y =>
     have hl:i<σ.length:=by rw[<- r.len];exact(yQ.mp er).1
     rw[er]at e1;rw[yO hl]at e2;cases e1;cases e2
     exact r.ok i _ _ er (yO hl)
 ·obtain⟨i',x,rfl,e1,a1⟩:=rZ h1
  obtain⟨j',y,rfl,e2,a2⟩:=rZ h2;have:=r.sep x y a a1 a2;subst this;rw[zsP nd e1 e2]
theorem zaI{m:List (Nat×Sl)}:∀(ρ:En) (n i:Nat),(cN m n ρ)[i]?=(ρ[i]?).map (df m (n+i))
 | [],n,i=>by simp[cN]
 | x::r,n,0=>by simp[cN]
 | x::r,n,i+1=>by
  simp only[cN,zz1];rw[zaI r (n+1) i,show n+1+i=n+(i+1) by omega]
theorem zhj(i:Nat):(back ρ ix cs)[i]?=(ρ[i]?).map (df (ix.zip cs) i):=by
 unfold back;rw[zaI,CK]
theorem zaJ{m:List (Nat×Sl)}:∀(ρ:En) (n:Nat),(cN m n ρ).length=ρ.length
 | [],n=>rfl
 | x::r,n=>by simp[cN,zaJ r]
theorem zlB:∀{ix:List Nat} {cs:En} {i:Nat} {c:Sl},(ix.zip cs).lookup i=some c->∃ j:Nat,ix[j]?=some i/\cs[j]?=some c
 | [],cs,i,c,h=>by simp at h
 | x::r,[],i,c,h=>by simp at h
 | x::r,y::s,i,c,h=>by
  rw[Bg,yN]at h
  by_cases e:i=x
  ·subst e
   simp only[beq_self_eq_true]at h;cases h;exact⟨0,rfl,rfl⟩
  ·rw[beq_false_of_ne e]at h
   obtain⟨j,h1,h2⟩:=zlB h;exact⟨j+1,by simpa using h1,by simpa using h2⟩
theorem zlC:∀{ix:List Nat} {cs:En} {i j:Nat} {c:Sl},ix.Nodup->ix[j]?=some i->cs[j]?=some c->(ix.zip cs).lookup i=some c
 | [],cs,i,j,c,_,h1,_=>by simp at h1
 | x::r,[],i,j,c,_,_,h2=>by simp at h2
 | x::r,y::s,i,j,c,nd,h1,h2=>by
  rw[Bg,yN];cases j with
  | zero =>
   simp at h1 h2;subst h1;subst h2
   simp
  | succ j =>
   simp at h1 h2;have:i≠x:=fun z=>by
    subst z;exact(AZ.mp nd).1 (Ag h1)
   rw[beq_false_of_ne this];exact zlC (AZ.mp nd).2 h1 h2
theorem zmz(nd:ix.Nodup)(r:Rel K ρ σ H)(hs:∀ j,σβ[k+j]?=(eO k ix σ)[k+j]?)(rb:Rel K β σβ H')
  (md:∀ j p,(∃ d,β[k+j]?=some (.ow p d))↔∃ d,(dg k ix ρ)[k+j]?=some (.ow p d))(kp:∀ a o,H a=some o->¬ MA (dg k ix ρ) (eO k ix σ) a->H' a=some o) :
  Rel K (back ρ ix (β.drop k)) σ H'/\cM ρ (back ρ ix (β.drop k)) σ H H':=by
 have hm:∀ a,MA (dg k ix ρ) (eO k ix σ) a->MA ρ σ a:=fun a ⟨j,h⟩=>by
  obtain⟨_,i,_,_,h⟩:=rZ h;exact⟨i,h⟩
 have fz:ax H H':=fun a o h st=>kp a o h fun m=>by
  obtain⟨o',e,w⟩:=r.et (hm a m);rw[h]at e;cases e;exact w.iI st
 have tZ:∀(i:Nat) p,(∃ d,ρ[i]?=some (.ow p d))↔∃ d,(back ρ ix (β.drop k))[i]?=some (.ow p d):=fun i p=>by
  rw[zhj]
  constructor
  ·rintro⟨d,e⟩
   rw[e];simp only[AB,df]
   split
   ·rename_i p' d1 q' d2 h1 h2;cases h1;exact⟨_,rfl⟩
   ·exact⟨_,rfl⟩
  ·rintro⟨d,e⟩
   cases er:ρ[i]? with
   | none=>rw[er]at e;cases e
   | some x =>
    rw[er]at e;simp only[AB,Ac,df]at e
    split at e
    ·cases e;exact⟨_,rfl⟩
    ·subst e;exact⟨_,rfl⟩
 have rX:∀ i a,At (back ρ ix (β.drop k)) σ i a->At ρ σ i a:=fun i a ⟨⟨p,d,e1⟩,e2⟩=>⟨⟨p,(tZ i p).mpr ⟨d,e1⟩⟩,e2⟩;refine⟨⟨by rw[show(back ρ ix (β.drop k)).length=ρ.length from zaJ _ _];exact r.len,fun i x v e1 e2=>?_,fun i j a h1 h2=>r.sep i j a (rX i a h1) (rX j a h2),r.cst.mono fz⟩,⟨tZ,fun a o h n=>kp a o h fun m=>n (hm a m)⟩⟩;rw[zhj]at e1;cases er:ρ[i]? with
 | none=>rw[er]at e1;cases e1
 | some y =>
  rw[er]at e1;simp only[AB,Ac]at e1;have o:=r.ok i y v er e2;cases y with
  | no=>simp only[df]at e1;subst e1;trivial
  | val d =>
   simp only[df]at e1;subst e1;exact o.mono fz fun a _ ⟨p,d',z⟩=>nomatch z
  | ob c ds =>
   simp only[df]at e1;subst e1;exact o.mono fz fun a _ ⟨p,d',z⟩=>nomatch z
  | ow p d =>
   cases v with
   | none=>exact o.elim
   | some v =>
    cases v with
    | ref a =>
     have ai:At ρ σ i a:=⟨⟨p,d,er⟩,e2⟩;cases el:(ix.zip (β.drop k)).lookup i with
     | none =>
      simp only[df,el]at e1;subst e1;refine o.mono fz fun b e3 _=>?_;cases e3;obtain⟨u,hu,_⟩:=r.et ⟨i,ai⟩;rw[hu];refine kp a u hu fun⟨j,h⟩=>?_;obtain⟨j',i',rfl,ej,h'⟩:=rZ h;have:=r.sep i i' a ai h';subst this;have hb:β[k+j']?≠none:=fun z=>by
       have:∃ d,β[k+j']?=some (.ow p d):=(md j' p).mpr ⟨d,by rw[vt,ej];simp[er]⟩;obtain⟨_,w⟩:=this;rw[z]at w;cases w
      cases i5:β[k+j']? with
      | none=>exact hb i5
      | some c =>
       have:(β.drop k)[j']?=some c:=by rw[List.getElem?_drop];exact i5
       rw[zlC nd ej this]at el;cases el
     | some c =>
      obtain⟨j,hj,hc⟩:=zlB el;rw[List.getElem?_drop]at hc;have bm:(dg k ix ρ)[k+j]?=some (.ow p d):=by rw[vt,hj];simp[er]
      obtain⟨d',iA⟩:=(md j p).mpr ⟨d,bm⟩;rw[hc]at iA;cases iA;simp only[df,el]at e1;subst e1;have es:σβ[k+j]?=some (some (.ref a)):=by rw[hs j,zaY,hj];simp[e2]
      exact rb.ok (k+j) _ _ hc es
    | _=>exact o.elim
end
theorem qg{K:yf}(hd:dom.all (fun i=>decide (i<k))=true):jL k (tG K dom g):=fun x σ H Q=>by
 rintro⟨ρ,d,ρ1,rel,fz,e,q⟩;refine⟨ρ,d,ρ1,rel,fz,e,fun σ1 aj c=>⟨⟨c.1,fun i hi=>?_⟩,q σ1 aj c⟩⟩;rcases c.2 i with⟨_,c2⟩|⟨m,_⟩
 ·exact c2
 ·have:=of_decide_eq_true (zR.mp hd i m)
  omega
structure iW(K:yf)(X:Cx)(ifs:List yh)(t:TF):Prop where
 run:X.K=K->gu X ifs (tT K t)
instance {K:yf}{X:Cx}{ifs:List yh}{t:TF}:CoeFun (iW K X ifs t) fun _=>X.K=K->gu X ifs (tT K t):=⟨iW.run⟩
theorem _root_.L2.gu.weak{e:List yh}{t:TT}(h:gu X e t)(w:∀ σ H Q,t' σ H Q->t σ H Q):gu X e t':=fun pins s σ H Q I q=>h pins s σ H Q I (w σ H Q q)
theorem fQ{K:yf}:iW K X [] dW:=.mk fun _=>zuX.weak fun σ H Q=>by
 rintro⟨ρ,rel,q⟩;exact q.now rel
theorem zvH{K:yf}(h:dY K X c t):iW K X [c] t:=.mk fun hK=>zuY (h hK)
section
variable {K:yf}
theorem znh(h:∀ j,j<k->σ[j]?=some none):eO k (CM k (σ.length-k)) σ=σ:=by
 have hk:k<=σ.length:=by
  cases k with
  | zero=>exact zJ _
  | succ k =>
   have:=h k (C4 k);exact(yQ.mp this).1
 apply List.ext_getElem?;intro i;unfold eO
 by_cases hi:i<k
 ·rw[zK (by simpa using hi),Aa,if_pos hi,h i hi]
 ·rw[Ay (by simpa using Nat.le_of_not_lt hi),A1,zv]
  by_cases hl:i<σ.length
  ·rw[List.getElem?_range' (by omega)]
   simp only[AB,Nat.one_mul];rw[show k+(i-k)=i by omega,yO hl]
   rfl
  ·rw[D4 (by simp;omega),D4 (by omega)]
   rfl
theorem zyd{x y:HO}(h:H l=some y):upd (upd H l x) l y=H:=by
 funext a
 by_cases e:a=l
 ·subst e;rw[ck,h]
 ·rw[aN e,aN e]
def fq(k:Nat)(ix:List Nat)(g:GF)(t:TF)(F:D->En->R (D×En)):List D->En->D->R (D×En)
 | [],ρ,acc=>.ok (acc,ρ)
 | x::xs,ρ,acc=>(g x (dg k ix ρ)).bind fun β=>(t β).bind fun c =>
   if c.1=true then(F acc c.2).bind fun y=>fq k ix g t F xs (back ρ ix (y.2.drop k)) y.1
   else fq k ix g t F xs (back ρ ix (c.2.drop k)) acc
def vg(f:EF):D->En->R (D×En):=fun acc β=>match acc with
 | .list a=>(f β).bind fun y=>aY (leB (a.length+1) lim) (.ok (.list (a++[y.1]),y.2))
 | _=>.bad
def pN(k2:Nat)(cz:IF)(g2:GF)(t2:TF)(F:D->En->R (D×En)):D->En->R (D×En):=fun acc β=>(cz β).bind fun z=>fq k2 (CM k2 (z.2.length-k2)) g2 t2 F z.1 z.2 acc
theorem vH{k:Nat}{ix:List Nat}{g:GF}{t:TF}{f:EF}:∀(xs:List D) (ρ:En) (a:List D),((iZ k ix g t f xs ρ a).bind fun y=>.ok ((.list y.1:D),y.2))=fq k ix g t (vg f) xs ρ (.list a)
 | [],ρ,a=>rfl
 | x::xs,ρ,a=>by
  unfold iZ fq;cases g x (dg k ix ρ) with
  | ok β =>
   simp only[aA];cases t β with
   | ok c =>
    obtain⟨b,β2⟩:=c;simp only[aA];cases b with
    | true =>
     simp only[if_true,vg];cases f β2 with
     | ok y =>
      simp only[aA,aY]
      split
      ·exact vH xs _ _
      ·rfl
     | _=>rfl
    | false=>exact vH xs _ _
   | _=>rfl
  | _=>rfl
section
variable {K:yf}
structure MOk(M:dm->D->Hp->Prop):Prop where
 own:∀{l d H},M l d H->∃ o,H l=some o/\Own o
 mono:∀{l d H H'},M l d H->ax H H'->H' l=H l->M l d H'
theorem mok:MOk fun l d H=>cC K H l d:=⟨fun h=>h.own,fun h f e=>h.mono f e⟩
abbrev Md(β β':En):Prop:=∀(i:Nat) p,(∃ d,β[i]?=some (.ow p d))↔∃ d,β'[i]?=some (.ow p d)
abbrev Kp(β:En)(σ:L2.St)(l:dm)(H H':Hp):Prop:=∀ a o,a≠l->H a=some o->¬ MA β σ a->H' a=some o
def Act(K:yf)(M:dm->D->Hp->Prop)(k2:Nat)(tu:TU)(F:D->En->R (D×En)):Prop:=∀{β β':En} {σ:L2.St} {H:Hp} {l:dm} {acc dP:D} {Q:Hp->Prop},Rel K β σ H->(∀ j,j<k2->σ[j]?=some none)->F acc β=.ok (dP,β')->M l acc H->¬ MA β σ l ->
 (∀ H',Rel K β' σ H'->Md β β'->Kp β σ l H H'->ax H H'->M l dP H'->Q H')->tu l σ H Q
theorem wW(h:Own o):¬ pL o:=by cases o <;> simp[Own,pL]at h ⊢
theorem ziz{g:GF}{t:TF}{dom:List Nat}{β0 β':En}{zay dP:D}(mo:MOk M)(nd:ix.Nodup)(bP:dom.all (fun i=>decide (k2<=i)&&decide (i<k))=true)(hk:k2<=k)(A:Act K M k2 tu F)
  (rel:Rel K β0 σ H0)(mu:M l zay H0)(fB:¬ MA β0 σ l)(wk:Walk K J items H0)(ec:fq k ix g t F items β0 zay=.ok (dP,β'))
  (q:∀ H',Rel K β' σ H'->Md β0 β'->Kp β0 σ l H0 H'->ax H0 H'->M l dP H'->Q H'):∃ W:Nat->Nat->Hp->Prop,(∃ m,W 0 m H0)/\xQ J (tG K dom g) (tT K t) tu l (eO k ix σ) Q W:=by
 have zce:∀ i∈dom,k2<=i/\i<k:=fun i m=>by
  have:=zR.mp bP i m;simpa using this
 refine⟨fun i m H2=>m=items.length-i/\i<=items.length/\∃ β2 lH,M l lH H2/\Rel K β2 σ H2/\Md β0 β2/\Kp β0 σ l H0 H2/\ax H0 H2/\fq k ix g t F (items.drop i) β2 lH=.ok (dP,β'),
  ⟨items.length,by simp,zJ _,β0,zay,mu,rel,fun _ _=>AR,fun _ _ _ h _=>h,.refl _,ec⟩,?_⟩
 rintro i m H2 ⟨rfl,hi,β2,lH,wI,bY,md2,kp2,qc,ec⟩;obtain⟨ob,hly,own⟩:=mo.own wI;have maE:∀ a,MA β2 σ a->MA β0 σ a:=fun a ⟨j,⟨p,h⟩,e⟩=>⟨j,⟨p,(md2 j p).mpr h⟩,e⟩
 by_cases c:i<items.length
 ·rw[E4 c]at ec
  obtain⟨zpu,hy⟩:=wk.1 i items[i] H2 qc (yO c);refine .inr ⟨zpu,fun x H3 y=>?_⟩;obtain⟨sm,fx⟩:=hy x H3 y;have iL:Rel K β2 σ H3:=bY.same sm;obtain⟨β1,e1,ec⟩:=bj (show(g items[i] (dg k ix β2)).bind _=.ok (dP,β') from ec);obtain⟨c1,ecc,ec⟩:=bj ec;refine⟨dg k ix β2,items[i],β1,zmD nd iL,fx,e1,fun σ1 zkJ chg=>⟨β1,zkJ,?_⟩⟩;rw[ecc];intro H5 zkI jD;have hσ:∀ j,σ1[k+j]?=(eO k ix σ)[k+j]?:=fun j=>by
   rcases chg.2 (k+j) with⟨_,c2⟩|⟨m,_⟩
   ·exact c2
   ·have:=zce _ m
    omega
  have hβ:∀ j,β1[k+j]?=(dg k ix β2)[k+j]?:=fun j=>by
   rcases chg.2 (k+j) with⟨c2,_⟩|⟨m,_⟩
   ·exact c2
   ·have:=zce _ m
    omega
  have zpF:∀ j,j<k2->σ1[j]?=some none:=fun j hj=>by
   rcases chg.2 j with⟨_,c2⟩|⟨m,_⟩
   ·rw[c2]
    unfold eO;rw[zK (by simp;omega),Aa,if_pos (by omega)]
   ·have:=zce _ m
    omega
  have hMA:∀ a,MA β1 σ1 a->MA (dg k ix β2) (eO k ix σ) a:=fun a ⟨j,⟨p,d,z1⟩,z2⟩=>by
   rcases chg.2 j with⟨c1,c2⟩|⟨_,⟨d',c1⟩,_⟩
   ·exact⟨j,⟨p,d,by rw[<- c1];exact z1⟩,by rw[<- c2];exact z2⟩
   ·rw[c1]at z1;cases z1
  have nm2:¬ MA β2 σ l:=fun z=>fB (maE l z);have h3l:H3 l=some ob:=sm l _ hly;have n1:¬ MA β1 σ1 l:=fun z=>by
   obtain⟨j,h⟩:=hMA l z;obtain⟨_,i',_,_,h⟩:=rZ h;exact nm2 ⟨i',h⟩
  have h5l:H5 l=some ob:=jD.kp l _ h3l n1;have fz5:ax H2 H5:=(ax.of sm).trans (jD.cD zkJ);obtain⟨cb,β3⟩:=c1;have fin:∀{β4:En} {rV:D} {H':Hp},Rel K β4 σ1 H'->Md β3 β4->Kp β3 σ1 l H5 H'->ax H5 H'->M l rV H'->fq k ix g t F (items.drop (i+1)) (back β2 ix (β4.drop k)) rV=.ok (dP,β') ->
    ∃ m',m'<items.length-i/\m'=items.length-(i+1)/\i+1<=items.length/\∃ β2 lH,M l lH H'/\Rel K β2 σ H'/\Md β0 β2/\Kp β0 σ l H0 H'/\ax H0 H'/\fq k ix g t F (items.drop (i+1)) β2 lH=.ok (dP,β'):=fun{β4 rV H'} uE wF kp' fz' wH ew=>by
   obtain⟨ob',lR,ztB⟩:=mo.own wH;have n2:¬ MA β3 σ1 l:=fun z=>n1 (jD.ma.mpr z);have n3:¬ MA β4 σ1 l:=fun⟨j,⟨p,h⟩,e⟩=>n2 ⟨j,⟨p,(wF j p).mpr h⟩,e⟩;have zwF:Rel K β4 σ1 (upd H' l ob):=uE.put n3 (fun u e=>by rw[lR]at e;cases e;exact wW ztB);obtain⟨rb,sb⟩:=zmz (k:=k) nd iL hσ zwF (fun j p=>by rw[<- hβ j];exact((jD.md (k+j) p).trans (wF (k+j) p)).symm) (fun a o h n=>by
    by_cases e:a=l
    ·subst e;rw[ck];rw[h3l]at h;exact h
    ·rw[aN e]
     have h5:=jD.kp a o h fun z=>n (hMA a z);exact kp' a o e h5 fun z=>n (hMA a (jD.ma.mpr z)))
   have nmb:¬ MA (back β2 ix (β4.drop k)) σ l:=fun z=>nm2 (sb.ma.mpr z);have rf:Rel K (back β2 ix (β4.drop k)) σ H':=by
    have:=rb.put (o:=ob') nmb (fun u e=>by rw[ck]at e;cases e;exact wW own);rw[zyd lR]at this;exact this
   refine⟨items.length-(i+1),by omega,rfl,c,back β2 ix (β4.drop k),rV,wH,rf,fun j p=>(md2 j p).trans (sb.md j p),fun a o d7 h n=>?_,qc.trans (fz5.trans fz'),ew⟩;have:=sb.kp a o (sm a o (kp2 a o d7 h n)) fun z=>n (maE a z);rw[aN d7]at this;exact this
  cases cb with
  | true =>
   refine jt ?_;obtain⟨y2,ey,ew⟩:=bj (show(F lH β3).bind _=.ok (dP,β') from ec);obtain⟨rV,β4⟩:=y2;exact A zkI zpF ey (mo.mono wI fz5 (by rw[h5l,hly])) (fun z=>n1 (jD.ma.mpr z)) fun H' uE wF kp' fz' wH=>fin uE wF kp' fz' wH ew
  | false=>exact js (fin zkI (fun _ _=>AR) (fun _ _ _ h _=>h) (.refl _) (mo.mono wI fz5 (by rw[h5l,hly])) ec)
 ·have e:i=items.length:=by omega
  subst e;rw[List.drop_length]at ec;have vP:R.ok (lH,β2)=R.ok (dP,β'):=ec;cases vP;exact .inl ⟨wk.2 _ H2 qc (yA _),q H2 bY md2 kp2 qc wI⟩
theorem zgF{dom:List Nat}(h:dom.all (fun i=>decide (i<k))=true):dom.all (fun i=>decide (0<=i)&&decide (i<k))=true:=zR.mpr fun i m=>by simpa using zR.mp h i m
theorem zgC(mo:MOk M)(bP:gH.all (fun i=>decide (i<k2))=true)(A:Act K M 0 tu F):Act K M k2 (xU k2 (tI K cz) (tG K gH g2) (tT K t2) tu) (pN k2 cz g2 t2 F):=fun{β β' σ H l acc dP Q} rel hσ e mu fB q=>by
 obtain⟨z,ez,ec⟩:=bj (show(cz β).bind _=.ok (dP,β') from e);refine⟨hσ,β,rel,?_⟩;rw[ez];intro H1 aj aB J wk;obtain⟨items,βs⟩:=z;obtain⟨o,eo,_⟩:=mo.own mu;have tq:H1 l=H l:=by rw[eo];exact aB.kp l _ eo fB
 obtain⟨W,w,tt⟩:=ziz (Q:=Q) (dom:=gH) mo List.nodup_range' (zgF bP) (zJ _) A aj (mo.mono mu (aB.cD rel) tq) (fun z=>fB (aB.ma.mpr z)) wk ec fun H' r md kp fz m=>q H' r (fun i p=>(aB.md i p).trans (md i p)) (fun a o d7 h n=>kp a o d7 (aB.kp a o h n) fun z=>n (aB.ma.mpr z)) ((aB.cD rel).trans fz) m;rw[show βs.length=σ.length from aj.len,znh hσ]at tt;exact⟨W,w,tt⟩
theorem zgB{f:EF}:Act K (fun l d H=>cC K H l d) k2 (xT (tV K f)) (vg f):=fun{β β' σ H l acc dP Q} rel _ e mu fB q=>by
 cases acc with
 | list a =>
  obtain⟨ys,hl,fa⟩:=mu;obtain⟨y,ey,e⟩:=bj (show(f β).bind _=.ok (dP,β') from e);obtain⟨cc,e⟩:=fX e;cases e;refine⟨β,rel,?_⟩;rw[ey];intro H6 xx jE v fv;have h6l:=jE.kp l _ hl fB;have sP:ax H6 (upd H6 l (.lst (ys++[v]))):=fun b u e s=>by
   rw[aN fun z=>by subst z;rw[h6l]at e;cases e;exact s];exact e
  refine⟨ys,h6l,?_,q _ (xx.put (fun z=>fB (jE.ma.mpr z)) (fun u e=>by rw[h6l]at e;cases e;exact fun z=>z)) jE.md (fun a o d7 h n=>by rw[aN d7];exact jE.kp a o h n) ((jE.cD rel).trans sP) ⟨_,ck,((fa.mono (jE.cD rel)).mono sP).app (by simp only[ah];exact⟨v,[],rfl,fv.mono sP,rfl⟩)⟩⟩;have:=lY cc;have l0:=oI;rw[fa.len];omega
 | _=>cases e
theorem zb3{it:IF}{g:GF}{t:TF}{dom:List Nat}{e:EF}(A:Act K (fun l d H=>cC K H l d) k2 tu F)(he:∀ ρ,e ρ=(it ρ).bind fun x=>fq k ix g t F x.1 x.2 d0)(hd:∀{H:Hp} {l:dm},cC K (upd H l o0) l d0)
  (nd:ix.Nodup)(bP:dom.all (fun i=>decide (k2<=i)&&decide (i<k))=true)(hk:k2<=k)(σ:L2.St)(H:Hp)(Q:VK)(q:tN K e σ H Q):pf o0 k ix (tI K it) (tG K dom g) (tT K t) tu σ H Q:=by
 obtain⟨ρ0,oY,q⟩:=q;rw[he]at q;obtain⟨x,ex,q⟩:=q.bt;refine⟨ρ0,oY,?_⟩;rw[ex];intro H1 aj aB J wk l hl;obtain⟨items,ρs⟩:=x;have tm:H l=none:=by
  cases e:H l with
  | none=>rfl
  | some o =>
   by_cases m:MA ρ0 σ l
   ·obtain⟨o',e',_⟩:=aj.et (aB.ma.mp m)
    rw[hl]at e';cases e'
   ·rw[aB.kp l o e m]at hl;cases hl
 have sl:ay H1 (upd H1 l o0):=ay.upd hl;have q:Good K ρ0 σ H (fq k ix g t F items ρs d0) _:=q;cases ey:fq k ix g t F items ρs d0 with
 | ok y =>
  rw[ey]at q;exact ziz (Q:=fun H'=>Q (.ref l) H') mok nd bP hk A (aj.same sl) hd (fun z=>by
   obtain⟨o',e',_⟩:=aj.et z;rw[hl]at e';cases e') ⟨fun i d H' f=>wk.1 i d H' ((ax.of sl).trans f),fun i H' f=>wk.2 i H' ((ax.of sl).trans f)⟩ ey fun H' r md kp fz m=>q H' r ⟨fun i p=>(aB.md i p).trans (md i p),fun a o h n=>kp a o (fun z=>by subst z;rw[tm]at h;cases h) (sl a o (aB.kp a o h n)) fun z=>n (aB.ma.mpr z)⟩ l tm m
 | _=>rw[ey]at q;exact q.elim
theorem zjA:cC K (upd H l (.lst [])) l (.list []):=⟨[],ck,by simp[ah]⟩
end
theorem ziv(nd:ix.Nodup)(bP:dom.all (fun i=>decide (i<k))=true)(σ:L2.St)(H:Hp)(Q:VK)(q:tN K (d6 k ix it g t f) σ H Q):zfr k ix (tI K it) (tG K dom g) (tT K t) (tV K f) σ H Q :=
 zb3 (k2:=0) (d0:=.list []) zgB (fun ρ=>by unfold d6;cases it ρ with
  | ok x=>exact vH _ _ _
  | _=>rfl) zjA nd (zgF bP) (zJ _) σ H Q q
theorem zvn(L:List ir)(ix:List Nat)(M:List ir)(hc:X.calm=true)(hk:scope.kind=.function)(hd:gR X.env.scope scope X.N ix=true)(hM:M=L++ix.map fun i=>X.N.getD i "")(nd:ix.Nodup)(hi:fV K X tg iter it)
  (hg:∀ C s₃ H₃ fp,fU K (bo X M scope C s₃ H₃ fp) dom tg g) (bP:dom.all (fun i=>decide (i<L.length))=true)
  (ht:∀ C s₃ H₃ fp,iW K (bo X M scope C s₃ H₃ fp) ifs t) (he:∀ C s₃ H₃ fp,PV K (bo X M scope C s₃ H₃ fp) elt f)
  (hs:∀ x,zI iter X.env x=pure x:=by intro _;rfl) :
  aO K X (.ListComp elt [⟨tg,iter,ifs,0⟩] scope pos) (d6 L.length ix it g t f):=.mk fun hK=>by
 refine(ztQ L ix M hc hk hd hM (hi hK) (fun C s₃ H₃ fp=>hg C s₃ H₃ fp hK) (qg bP) (fun C s₃ H₃ fp=>ht C s₃ H₃ fp hK) (fun C s₃ H₃ fp=>he C s₃ H₃ fp hK) hs).weak fun σ H Q q=>ziv nd bP σ H Q q
end
end
variable {P:yw}{l:List Itm}{base:yo}{n:Nat}{N ps:List ir}{mg:ir->Option gV}{ms:List Bool}
section
variable [Cs]
def lA(K:yf)(ms:List Bool)(fr:Bool)(F:List D->R (D×List D)):Sp:=fun vs H Q _=>∃ ds,vs.length=ms.length/\ds.length=ms.length/\Rel K (slots ms ds) (vs.map some) H /\
 ∃ d os,F ds=.ok (d,os)/\∀ v H',Rel K (slots ms os) (vs.map some) H'->(∀ a o,H a=some o->¬ MA (slots ms ds) (vs.map some) a->H' a=some o) ->
  (if fr=true then ∃ a,v=.ref a/\H a=none/\cC K H' a d else Fz K H' d v)->Q v H'
def iP(K:yf)(n:Nat)(fr:Bool)(G:List D->R D):Sp:=fun vs H Q _=>∃ ds,vs.length=n/\fi H/\ah K H ds vs/\∃ d,G ds=.ok d/\∀ v H',ay H H'->(if fr=true then ∃ a,v=.ref a/\H a=none/\cC K H' a d else Fz K H' d v)->Q v H'
theorem mH:∀{ms:List Bool} {ds:List D} {i:Nat},ds.length=ms.length->(slots ms ds)[i]?=(ms[i]?).bind fun m=>(ds[i]?).map fun d=>if m=true then Sl.ow true d else Sl.val d
 | [],[],i,_=>by simp[slots]
 | [],_::_,i,h=>by simp at h
 | _::_,[],i,h=>by simp at h
 | m::ms,d::ds,0,_=>by simp[slots]
 | m::ms,d::ds,i+1,h=>by
  simp only[slots,zz1];exact mH (by simpa using h)
theorem uI:∀{ms:List Bool} {ds:List D},ds.length=ms.length->(slots ms ds).length=ms.length
 | [],[],_=>rfl
 | [],_::_,h=>by simp at h
 | _::_,[],h=>by simp at h
 | m::ms,d::ds,h=>by simp only[slots,yK];rw[uI (by simpa using h)]
theorem uh:∀{ms:List Bool} {ds:List D} {ρ:En},ds.length=ms.length->(outs ms ds ρ).length=ms.length
 | [],[],_,_=>rfl
 | [],_::_,_,h=>by simp at h
 | _::_,[],_,h=>by simp at h
 | m::ms,d::ds,ρ,h=>by simp only[outs,yK];rw[uh (by simpa using h)]
theorem zjQ:∀{ms:List Bool} {ds:List D} {ρ:En} {i:Nat} {m:Bool} {d:D},ms[i]?=some m->ds[i]?=some d->(outs ms ds ρ)[i]?=some (outD m d ρ[i]?)
 | m0::ms,d0::ds,ρ,0,m,d,h1,h2=>by
  simp at h1 h2;subst h1;subst h2
  simp[outs,List.head?_eq_getElem?]
 | m0::ms,d0::ds,ρ,i+1,m,d,h1,h2=>by
  simp at h1 h2;simp only[outs,zz1];rw[zjQ h1 h2,List.getElem?_tail]
 | [],_,_,_,_,_,h,_=>by simp at h
 | _::_,[],_,_,_,_,_,h=>by simp at h
section
variable {K:yf}
theorem Rel.pad(r:Rel K ρ σ H)(n:Nat):Rel K (ρ++yq n .no) (σ++yq n none) H:=by
 have w:∀ i a,At (ρ++yq n .no) (σ++yq n none) i a->At ρ σ i a:=fun i a ⟨⟨p,d,e1⟩,e2⟩=>by
  by_cases c:i<ρ.length
  ·rw[zK c]at e1
   rw[zK (by rw[<- r.len];exact c)]at e2;exact⟨⟨p,d,e1⟩,e2⟩
  ·rw[Ay (by omega),Aa]at e1
   split at e1 <;> cases e1
 refine⟨by simp[r.len],fun i x v e1 e2=>?_,fun i j a h1 h2=>r.sep i j a (w i a h1) (w j a h2),r.cst⟩
 by_cases c:i<ρ.length
 ·rw[zK c]at e1
  rw[zK (by rw[<- r.len];exact c)]at e2;exact r.ok i x v e1 e2
 ·rw[Ay (by omega),Aa]at e1
  split at e1
  ·cases e1;trivial
  ·cases e1
theorem zss(hl:ρ.length=σ.length):MA (ρ++yq n .no) (σ++yq n none) a↔MA ρ σ a:=by
 constructor
 ·rintro⟨i,⟨p,d,e1⟩,e2⟩
  by_cases c:i<ρ.length
  ·rw[zK c]at e1
   rw[zK (by rw[<- hl];exact c)]at e2;exact⟨i,⟨p,d,e1⟩,e2⟩
  ·rw[Ay (by omega),Aa]at e1
   split at e1 <;> cases e1
 ·rintro⟨i,⟨p,d,e1⟩,e2⟩
  have c:=(yQ.mp e1).1;exact⟨i,⟨p,d,by rw[zK c];exact e1⟩,by rw[zK (by rw[<- hl];exact c)];exact e2⟩
end
theorem xJ{ds:List D}{p:Bool}(hl:ds.length=ms.length)(e:(slots ms ds)[i]?=some (.ow p d)):p=true/\ms[i]?=some true/\ds[i]?=some d:=by
 rw[mH hl]at e;cases em:ms[i]? with
 | none=>rw[em]at e;cases e
 | some m =>
  cases ed:ds[i]? with
  | none=>rw[em,ed]at e;cases e
  | some d' =>
   rw[em,ed]at e;cases m with
   | true=>simp at e;exact⟨e.1,rfl,by rw[e.2]⟩
   | false=>simp at e
section
variable {K:yf}
theorem zin{st:yx}{f:dm}{fd:yL}(ms:List Bool)(fr:Bool)(h:c9 K x x st f fd)(S:d9 N ps (aH st))(c5:ps.length=ms.length)(cZ:ps.length<=N.length)
  (hb:∀(aq:gV) (A:yy) (outer:List yC) (s:kb) (H:Hp) (E:XK),aM k (A.deeper (zc x (aH st) s.heap.objs.size f aq))->dE K (dw (aZ P w) P w K mg base N x (aH st) f aq A outer s H E) (bW st) b) :
  b6 P w K mg base (aZ P w) (k+1) f fd ps (lA K ms fr (run ms fr N.length b)):=by
 refine h.mz S (fun vs H Q E ⟨ds,e,_⟩=>by rw[e,c5]) fun aq A outer s H vs Q E hr hq=>?_;obtain⟨ds,hv,hd,rel,d,os,hF,q⟩:=hq;have cu:L2.start N vs=vs.map some++yq (N.length-ds.length) none:=by unfold L2.start;rw[hv,hd]
 refine⟨tS K ⟨H,L2.start N vs,slots ms ds++yq (N.length-ds.length) .no⟩ b,hb aq A outer s H E hr rfl _,slots ms ds++yq (N.length-ds.length) .no,?_,?_⟩
 ·have tru:∀(i:Nat) p d,(slots ms ds++yq (N.length-ds.length) .no)[i]?=some (.ow p d)->p=true:=fun i p d e=>by
   by_cases c:i<(slots ms ds).length
   ·rw[zK c]at e
    exact(xJ hd e).1
   ·rw[Ay (by omega),Aa]at e
    split at e <;> cases e
  refine⟨?_,fun a o e _=>e,fun i a d e _=>absurd (tru i false d e) zL,fun i=>AR,fun i d e=>rfl,tru⟩;rw[cu];exact rel.pad _
 ·unfold run at hF
  rw[if_pos hd]at hF;obtain⟨y,ey,hF⟩:=bj hF;rw[ey];have fin:∀(ρ':En) (σ':L2.St) (H':Hp),bc K ⟨H,L2.start N vs,slots ms ds++yq (N.length-ds.length) .no⟩ ρ' σ' H' ->
    Rel K (slots ms (outs ms ds ρ')) (vs.map some) H'/\(∀ a o,H a=some o->¬ MA (slots ms ds) (vs.map some) a->H' a=some o):=fun ρ' σ' H' r=>by
   have tm:(slots ms ds).length=(vs.map some).length:=by rw[uI hd,za,hv]
   have kp:∀ a o,H a=some o->¬ MA (slots ms ds) (vs.map some) a->H' a=some o:=fun a o e n=>r.keep a o e fun z=>n (by
    have z':MA (slots ms ds++yq (N.length-ds.length) .no) (L2.start N vs) a:=z;rw[cu]at z';exact(zss tm).mp z')
   have fz:ax H H':=fun a o e sy=>kp a o e fun m=>by
    obtain⟨o',e',ow⟩:=rel.et m;rw[e]at e';cases e';exact ow.iI sy
   refine⟨?_,kp⟩;have pinned:∀(i:Nat) d0,ms[i]?=some true->ds[i]?=some d0->∃ d',ρ'[i]?=some (.ow true d')/\σ'[i]?=(vs.map some)[i]?:=fun i d0 em ed=>by
    have hi:i<(slots ms ds).length:=by rw[uI hd];exact(yQ.mp em).1
    have e0:(slots ms ds++yq (N.length-ds.length) .no)[i]?=some (.ow true d0):=by
     rw[zK hi,mH hd,em,ed];rfl
    obtain⟨d',e'⟩:=(r.pin i).mpr ⟨d0,e0⟩;refine⟨d',e',?_⟩;rw[r.fix i d' e'];show(L2.start N vs)[i]?=_;rw[cu,zK (by rw[<- tm];exact hi)]
   have ho:(outs ms ds ρ').length=ms.length:=uh hd;refine⟨by rw[uI ho,za,hv],fun i x v e1 e2=>?_,fun i j a h1 h2=>?_,rel.cst.mono fz⟩
   ·rw[mH ho]at e1
    cases em:ms[i]? with
    | none=>rw[em]at e1;cases e1
    | some m =>
     have hi:i<ds.length:=by rw[hd];exact(yQ.mp em).1
     have ed:=yO hi;rw[em,zjQ em ed]at e1;cases m with
     | true =>
      obtain⟨d',e3,e4⟩:=pinned i _ em ed;rw[e3]at e1;cases e1;rw[<- e4]at e2;exact r.rel.ok i _ _ e3 e2
     | false =>
      cases e1;have e5:(slots ms ds)[i]?=some (.val ds[i]):=by rw[mH hd,em,ed];rfl
      exact(rel.ok i _ _ e5 e2).mono fz fun a _ ⟨p,d',z⟩=>nomatch z
   ·have w:∀ i a,At (slots ms (outs ms ds ρ')) (vs.map some) i a->At (slots ms ds) (vs.map some) i a:=fun i a ⟨⟨p,d0,e1⟩,e2⟩=>by
     obtain⟨rfl,em,_⟩:=xJ ho e1;have hi:i<ds.length:=by rw[hd];exact(yQ.mp em).1
     have ed:=yO hi;exact⟨⟨true,ds[i],by rw[mH hd,em,ed];rfl⟩,e2⟩
    exact rel.sep i j a (w i a h1) (w j a h2)
  obtain⟨fl,ρ'⟩:=y;cases fr with
  | false =>
   cases fl with
   | rt dr =>
    cases hF;exact fun v σ' H' r fz=>q v H' (fin ρ' σ' H' r).1 (fin ρ' σ' H' r).2 fz
   | nx =>
    cases hF;exact fun σ' H' r fz=>q .non H' (fin ρ' σ' H' r).1 (fin ρ' σ' H' r).2 (by show Fz K H' .none .non;simp[Fz])
   | _=>cases hF
  | true =>
   cases fl with
   | rf dr =>
    cases hF;exact fun a σ' H' r ha m=>q (.ref a) H' (fin ρ' σ' H' r).1 (fin ρ' σ' H' r).2 ⟨a,rfl,ha,m⟩
   | _=>cases hF
theorem zoN{st:yx}(ms:List Bool)(fr:Bool)(h:aE K mg x st)(S:d9 N ps (aH st))(c5:ps.length=ms.length)(cZ:ps.length<=N.length)
  (eR:∀(kV doc pm:gV) (an:Option dm) (aq ct:gV) (us:List gV),us.length=ps.length->Ax (zD x x (eY st) (bW st) (aH st) .none kV doc pm an aq ct) ⟨us,[]⟩=pure (ps.zip us))
  (hb:∀(f:dm) (aq:gV) (A:yy) (outer:List yC) (s:kb) (H:Hp) (E:XK),aM k (A.deeper (zc x (aH st) s.heap.objs.size f aq))->dE K (dw (aZ P w) P w K mg base N x (aH st) f aq A outer s H E) (bW st) b) :
  Callee P w K mg base x (k+1) ps (lA K ms fr (run ms fr N.length b)):=by
 obtain⟨f,fd,hm,F⟩:=h;exact⟨f,fd,hm,F.kp,F.binds eR,zin ms fr F S c5 cZ (hb f)⟩
end
end
variable {a:List Ar}{G:List D->R D}{m:Nat}
section
variable [Cs]
theorem ze5:∀{n:Nat} {ds:List D},ds.length=n->slots (yq n false) ds=ds.map Sl.val
 | 0,[],_=>rfl
 | n+1,d::ds,h=>by
  simp only[Bj,slots,zh];rw[ze5 (by simpa using h)]
  rfl
 | 0,_::_,h=>by simp at h
 | n+1,[],h=>by simp at h
theorem xA{K:yf}:∀{ds:List D} {vs:List V},fi H->ah K H ds vs->Rel K (ds.map Sl.val) (vs.map some) H:=fun{ds vs} cst f=>by
 refine⟨by simp[f.len],fun i x v e1 e2=>?_,fun i j a ⟨⟨p,d,e⟩,_⟩=>?_,cst⟩
 ·rw[zv]at e1 e2
  cases ed:ds[i]? with
  | none=>rw[ed]at e1;cases e1
  | some d =>
   obtain⟨u,eu,fu⟩:=f.get ed;rw[ed]at e1;rw[eu]at e2;cases e1;cases e2
   exact fu
 ·rw[zv]at e
  cases ed:ds[i]? with
  | none=>rw[ed]at e;cases e
  | some d=>rw[ed]at e;cases e
theorem zsO{ds:List D}{a:dm}:¬ MA (ds.map Sl.val) σ a:=by
 rintro⟨i,⟨p,d,e⟩,_⟩;rw[zv]at e;cases ed:ds[i]? with
 | none=>rw[ed]at e;cases e
 | some d=>rw[ed]at e;cases e
section
variable {K:yf}
theorem b6.pure{f:dm}{fd:yL}{fr:Bool}(F:b6 P w K mg base (aZ P w) k f fd ps (lA K (yq n false) fr (run (yq n false) fr m b))):b6 P w K mg base (aZ P w) k f fd ps (iP K n fr (bh fr n m b)):=by
 refine F.imp fun vs H Q E=>?_;rintro⟨ds,hv,cst,f,d,e,q⟩;have hd:ds.length=n:=by rw[<- f.len,hv]
 obtain⟨y,ey,e⟩:=bj e;cases e;refine⟨ds,by simpa using hv,by simpa using hd,by rw[ze5 hd];exact xA cst f,y.1,y.2,by rw[ey],fun v H' r kp fin=>q v H' (fun a o e=>kp a o e (by rw[ze5 hd];exact zsO)) fin⟩
theorem Callee.pure{n m:Nat}{fr:Bool}{b:SF}(c:Callee P w K mg base x k ps (lA K (yq n false) fr (run (yq n false) fr m b))):Callee P w K mg base x k ps (iP K n fr (bh fr n m b)):=by
 obtain⟨f,fd,h1,h2,h3,F⟩:=c;exact⟨f,fd,h1,h2,h3,b6.pure F⟩
end
def iS(fa:AF)(n:Nat):Prop:=∀ ρ y,fa ρ=.ok y->y.1.length=n
theorem nK:iS af 0:=fun ρ y h=>by cases h;rfl
theorem nJ{a:AF}(h:iS a n):iS (aa f a) (n+1):=fun ρ y e=>by
 obtain⟨x,_,e⟩:=bj (show(f ρ).bind _=.ok y from e);obtain⟨z,e2,e⟩:=bj e;cases e;simp[h _ _ e2]
section
variable {K:yf}
theorem zu4(c:Callee X.prog X.w X.K X.mg X.base x k ps (iP X.K n false G))(hr:aM j X.A)(hg:Gl X x)(hx:Passes (aZ X.prog X.w) X E)(ha:cY K X (e::es) fa)(hl:iS fa n)(hj:k<=j:=by decide)(bp:(x==("__debug__":ir))=false:=by decide)
  (he:yi (e::es) X.env=(false,yu e X.env)::yi es X.env:=by exact FL.se rfl) (aS:(yJ pos (yi es X.env)).any (·.1)=false:=by exact FL.sp rfl):PV K X (.Call (.Name x p) (e::es) [] pos) (av G fa):=.mk fun hK=>by
 subst hK;refine(qA c hr hg hx (ha rfl) hj bp he aS).weak fun σ H Q=>?_;rintro⟨ρ,rel,q⟩;obtain⟨y,ey,q0⟩:=q.bt;have hy:=hl ρ y ey;refine⟨ρ,rel,?_⟩;rw[ey];intro H1 aj aB vs fs;obtain⟨d,ed,q2⟩:=(q0.step aB).cE;rw[Am];exact⟨y.1,by rw[fs.len,hy],aj.cst,fs,d,ed,fun v H' s fin=>q2.new aj s v fin⟩
theorem zvk(c:Callee X.prog X.w X.K X.mg X.base x k ps (iP X.K n true G))(hr:aM j X.A)(hg:Gl X x)(hx:Passes (aZ X.prog X.w) X E)(ha:cY K X (e::es) fa)(hl:iS fa n)(hj:k<=j:=by decide)(bp:(x==("__debug__":ir))=false:=by decide)
  (he:yi (e::es) X.env=(false,yu e X.env)::yi es X.env:=by exact FL.se rfl) (aS:(yJ pos (yi es X.env)).any (·.1)=false:=by exact FL.sp rfl):aO K X (.Call (.Name x p) (e::es) [] pos) (av G fa):=.mk fun hK=>by
 subst hK;refine(qA c hr hg hx (ha rfl) hj bp he aS).weak fun σ H Q=>?_;rintro⟨ρ,rel,q⟩;obtain⟨y,ey,q0⟩:=q.bt;have hy:=hl ρ y ey;refine⟨ρ,rel,?_⟩;rw[ey];intro H1 aj aB vs fs;obtain⟨d,ed,q2⟩:=(q0.step aB).cE;rw[Am];refine⟨y.1,by rw[fs.len,hy],aj.cst,fs,d,ed,fun v H' s fin=>?_⟩;obtain⟨a,rfl,ha,m⟩:=fin;refine q2.new aj s a ?_ m;cases e0:H a with
 | none=>rfl
 | some o =>
  by_cases mm:MA ρ σ a
  ·obtain⟨o',e',_⟩:=aj.et (aB.ma.mp mm)
   rw[ha]at e';cases e'
  ·rw[aB.kp a o e0 mm]at ha;cases ha
def fJ(K:yf)(σ:L2.St)(H₀ H:Hp):List Itm->List V->Prop
 | [],vs=>vs=[]
 | .vd d::r,vs=>∃ v t,vs=v::t/\Fz K H d v/\fJ K σ H₀ H r t
 | .mi i::r,vs=>∃ v t,vs=v::t/\σ[i]?=some (some v)/\fJ K σ H₀ H r t
 | .td d::r,vs=>∃ a t,vs=.ref a::t/\cC K H a d/\H₀ a=none/\fJ K σ H₀ H r t
theorem cM.old(st:cM ρ ρ1 σ H H1)(aj:Rel K ρ1 σ H1){a:dm}(ha:H1 a=none):H a=none:=by
 cases e0:H a with
 | none=>rfl
 | some o =>
  by_cases mm:MA ρ σ a
  ·obtain⟨o',e',_⟩:=aj.et (st.ma.mp mm)
   rw[ha]at e';cases e'
  ·rw[st.kp a o e0 mm]at ha;cases ha
theorem fJ.back{σ:L2.St}{H H1 H2:Hp}(h:∀ a,H1 a=none->H a=none):∀{l:List Itm} {vs:List V},fJ K σ H1 H2 l vs->fJ K σ H H2 l vs
 | [],vs,z=>z
 | .vd d::r,vs,z=>by
  obtain⟨v,t,e,f,z⟩:=z;exact⟨v,t,e,f,fJ.back h z⟩
 | .mi i::r,vs,z=>by
  obtain⟨v,t,e,f,z⟩:=z;exact⟨v,t,e,f,fJ.back h z⟩
 | .td d::r,vs,z=>by
  obtain⟨v,t,e,f,g,z⟩:=z;exact⟨v,t,e,f,h _ g,fJ.back h z⟩
def tAr(K:yf)(a:List Ar):TA:=fun σ H Q=>∃ ρ,Rel K ρ σ H/\Good K ρ σ H (gF a ρ) fun l _ H'=>∀ vs,fJ K σ H H' l vs->Q vs H'
structure jk(K:yf)(X:Cx)(es:List yh)(a:List Ar):Prop where
 run:X.K=K->PA X es (tAr K a)
instance {K:yf}{X:Cx}{es:List yh}{a:List Ar}:CoeFun (jk K X es a) fun _=>X.K=K->PA X es (tAr K a):=⟨jk.run⟩
theorem hV:jk K X [] []:=.mk fun _=>jy.weak fun σ H Q=>by
 rintro⟨ρ,rel,q⟩;exact q.now rel [] rfl
theorem jC(he:PV K X e f)(hr:jk K X es a)(hs:yi (e::es) X.env=(false,yu e X.env)::yi es X.env:=by exact FL.se rfl):jk K X (e::es) (.v f::a):=.mk fun hK=>(gh (he hK) (hr hK) hs).weak fun σ H Q=>by
 rintro⟨ρ,rel,q⟩;refine dS rel q fun dx ρ1 x H1 aj aB fx q1=>?_;obtain⟨y,ey,q2⟩:=q1.bt;refine⟨ρ1,aj,?_⟩;rw[ey];exact fun H2 bY cg vs it=>(q2.step cg).now bY _ ⟨x,vs,rfl,fx.mono (cg.cD aj),it.back fun a ha=>aB.old aj ha⟩
theorem zvh(i:Nat)(ha:PE X (.Name y py) (dD i))(hr:jk K X es a)(hs:yi (.Name y py::es) X.env=(false,yu (.Name y py) X.env)::yi es X.env:=by exact FL.se rfl):jk K X (.Name y py::es) (.m i::a):=.mk fun hK=>(gh ha (hr hK) hs).weak fun σ H Q=>by
 rintro⟨ρ,rel,q⟩;obtain⟨d,ed,q1⟩:=(show Good K ρ σ H ((cv ρ i).bind fun _=>(gF a ρ).bind fun y=>.ok (.mi i::y.1,y.2)) _ from q).cE;obtain⟨ad,bI,_⟩:=rel.j9 ed;obtain⟨y,ey,q2⟩:=q1.bt;refine⟨.ref ad,bI.2,ρ,rel,?_⟩;rw[ey];exact fun H2 bY cg vs it=>(q2.step cg).now bY _ ⟨.ref ad,vs,rfl,bI.2,it⟩
noncomputable def jT:List Ar->List Bool
 | []=>[]
 | .v _::r=>false::jT r
 | .m _::r=>true::jT r
 | .t _::r=>true::jT r
noncomputable def nL:List Ar->List Nat
 | []=>[]
 | .v _::r=>nL r
 | .m i::r=>i::nL r
 | .t _::r=>nL r
noncomputable def nM:List Ar->Nat
 | []=>0
 | .v _::r=>nM r
 | .m _::r=>nM r
 | .t _::r=>nM r+1
noncomputable def wx:Itm->Bool
 | .vd _=>false
 | _=>true
noncomputable def uO:Itm->Option Nat
 | .mi i=>some i
 | _=>none
noncomputable def kO:Itm->Bool
 | .td _=>true
 | _=>false
theorem vh:∀{a:List Ar} {ρ:En} {y:List Itm×En},gF a ρ=.ok y->y.1.map wx=jT a/\y.1.filterMap uO=nL a/\y.1.countP kO=nM a
 | [],ρ,y,h=>by cases h;exact⟨rfl,rfl,rfl⟩
 | .v f::r,ρ,y,h=>by
  obtain⟨x,_,h⟩:=bj (show(f ρ).bind _=.ok y from h);obtain⟨z,e,h⟩:=bj h;cases h;obtain⟨h1,h2,h3⟩:=vh e;simp only[zh,Bx];exact⟨by rw[h1];rfl,h2,by rw[Gi (by simp[kO])];exact h3⟩
 | .m i::r,ρ,y,h=>by
  obtain⟨_,_,h⟩:=bj (show(cv ρ i).bind _=.ok y from h);obtain⟨z,e,h⟩:=bj h;cases h;obtain⟨h1,h2,h3⟩:=vh e;simp only[zh,Bx];exact⟨by rw[h1];rfl,by rw[h2];rfl,by rw[Gi (by simp[kO])];exact h3⟩
 | .t f::r,ρ,y,h=>by
  obtain⟨x,_,h⟩:=bj (show(f ρ).bind _=.ok y from h);obtain⟨z,e,h⟩:=bj h;cases h;obtain⟨h1,h2,h3⟩:=vh e;simp only[zh,Bx];exact⟨by rw[h1];rfl,h2,by rw[List.countP_cons_of_pos (by simp[kO]),h3];rfl⟩
theorem pP{ρ:En}:∀{l:List Itm} {ds:List D},fK ρ l=.ok ds->ds.length=l.length/\∀(j:Nat) z,l[j]?=some z->∃ d,ds[j]?=some d/\(match z with | .vd d'=>d=d' | .mi i=>cv ρ i=.ok d | .td d'=>d=d')
 | [],ds,h=>by cases h;exact⟨rfl,fun j z e=>by simp at e⟩
 | .vd d::r,ds,h=>by
  obtain⟨vM,e,h⟩:=bj (show(fK ρ r).bind _=.ok ds from h);cases h;obtain⟨h1,h2⟩:=pP e;refine⟨by simp[h1],fun j z ez=>?_⟩;cases j with
  | zero=>simp at ez;subst ez;exact⟨d,rfl,rfl⟩
  | succ j=>obtain⟨d',h3,h4⟩:=h2 j z (by simpa using ez);exact⟨d',by simpa using h3,h4⟩
 | .td d::r,ds,h=>by
  obtain⟨vM,e,h⟩:=bj (show(fK ρ r).bind _=.ok ds from h);cases h;obtain⟨h1,h2⟩:=pP e;refine⟨by simp[h1],fun j z ez=>?_⟩;cases j with
  | zero=>simp at ez;subst ez;exact⟨d,rfl,rfl⟩
  | succ j=>obtain⟨d',h3,h4⟩:=h2 j z (by simpa using ez);exact⟨d',by simpa using h3,h4⟩
 | .mi i::r,ds,h=>by
  obtain⟨d,e0,h⟩:=bj (show(cv ρ i).bind _=.ok ds from h);obtain⟨vM,e,h⟩:=bj h;cases h;obtain⟨h1,h2⟩:=pP e;refine⟨by simp[h1],fun j z ez=>?_⟩;cases j with
  | zero=>simp at ez;subst ez;exact⟨d,rfl,e0⟩
  | succ j=>obtain⟨d',h3,h4⟩:=h2 j z (by simpa using ez);exact⟨d',by simpa using h3,h4⟩
theorem fJ.get{σ:L2.St}{H₀ H:Hp}:∀{l:List Itm} {vs:List V},fJ K σ H₀ H l vs->vs.length=l.length/\∀(j:Nat) z,l[j]?=some z->∃ v,vs[j]?=some v/\(match z with | .vd d=>Fz K H d v | .mi i=>σ[i]?=some (some v) | .td d=>∃ a,v=.ref a/\cC K H a d/\H₀ a=none)
 | [],vs,h=>by cases (show vs=[] from h);exact⟨rfl,fun j z e=>by simp at e⟩
 | .vd d::r,vs,h=>by
  obtain⟨v,t,rfl,f,h⟩:=h;obtain⟨h1,h2⟩:=fJ.get h;refine⟨by simp[h1],fun j z ez=>?_⟩;cases j with
  | zero=>simp at ez;subst ez;exact⟨v,rfl,f⟩
  | succ j=>obtain⟨d',h3,h4⟩:=h2 j z (by simpa using ez);exact⟨d',by simpa using h3,h4⟩
 | .mi i::r,vs,h=>by
  obtain⟨v,t,rfl,f,h⟩:=h;obtain⟨h1,h2⟩:=fJ.get h;refine⟨by simp[h1],fun j z ez=>?_⟩;cases j with
  | zero=>simp at ez;subst ez;exact⟨v,rfl,f⟩
  | succ j=>obtain⟨d',h3,h4⟩:=h2 j z (by simpa using ez);exact⟨d',by simpa using h3,h4⟩
 | .td d::r,vs,h=>by
  obtain⟨v,t,rfl,f,g,h⟩:=h;obtain⟨h1,h2⟩:=fJ.get h;refine⟨by simp[h1],fun j z ez=>?_⟩;cases j with
  | zero=>simp at ez;subst ez;exact⟨_,rfl,v,rfl,f,g⟩
  | succ j=>obtain⟨d',h3,h4⟩:=h2 j z (by simpa using ez);exact⟨d',by simpa using h3,h4⟩
end
end
variable {F:List D->R (D×List D)}
section
variable [Cs]
section
variable {K:yf}
theorem ztA{m:List (Nat×Sl)}(r:Rel K ρ σ H)(hA:∀ i c,m.lookup i=some c->∀ a,At ρ σ i a->∃ q d,c=.ow q d/\cC K H' a d)(hB:∀ i a,At ρ σ i a->m.lookup i=none->H' a=H a)(fz:ax H H') :
  Rel K (cN m 0 ρ) σ H'/\∀(i:Nat) p,(∃ d,ρ[i]?=some (.ow p d))↔∃ d,(cN m 0 ρ)[i]?=some (.ow p d):=by
 have gt:∀ i:Nat,(cN m 0 ρ)[i]?=(ρ[i]?).map (df m i):=fun i=>by rw[zaI,CK]
 have tZ:∀(i:Nat) p,(∃ d,ρ[i]?=some (.ow p d))↔∃ d,(cN m 0 ρ)[i]?=some (.ow p d):=fun i p=>by
  rw[gt]
  constructor
  ·rintro⟨d,e⟩
   rw[e];simp only[AB,df]
   split
   ·rename_i p' d1 q' d2 h1 h2;cases h1;exact⟨_,rfl⟩
   ·exact⟨_,rfl⟩
  ·rintro⟨d,e⟩
   cases er:ρ[i]? with
   | none=>rw[er]at e;cases e
   | some x =>
    rw[er]at e;simp only[AB,Ac,df]at e
    split at e
    ·cases e;exact⟨_,rfl⟩
    ·subst e;exact⟨_,rfl⟩
 have rX:∀ i a,At (cN m 0 ρ) σ i a->At ρ σ i a:=fun i a ⟨⟨p,d,e1⟩,e2⟩=>⟨⟨p,(tZ i p).mpr ⟨d,e1⟩⟩,e2⟩;refine⟨⟨by rw[zaJ];exact r.len,fun i x v e1 e2=>?_,fun i j a h1 h2=>r.sep i j a (rX i a h1) (rX j a h2),r.cst.mono fz⟩,tZ⟩;rw[gt]at e1;cases er:ρ[i]? with
 | none=>rw[er]at e1;cases e1
 | some y =>
  rw[er]at e1;simp only[AB,Ac]at e1;have o:=r.ok i y v er e2;cases y with
  | no=>simp only[df]at e1;subst e1;trivial
  | val d =>
   simp only[df]at e1;subst e1;exact o.mono fz fun a _ ⟨p,d',z⟩=>nomatch z
  | ob c ds =>
   simp only[df]at e1;subst e1;exact o.mono fz fun a _ ⟨p,d',z⟩=>nomatch z
  | ow p d =>
   cases v with
   | none=>exact o.elim
   | some v =>
    cases v with
    | ref a =>
     have ai:At ρ σ i a:=⟨⟨p,d,er⟩,e2⟩;cases el:m.lookup i with
     | none =>
      simp only[df,el]at e1;subst e1;exact o.mono fz fun b e3 _=>by cases e3;exact hB i a ai el
     | some c =>
      obtain⟨q,d',rfl,mm⟩:=hA i c el a ai;simp only[df,el]at e1;subst e1;exact mm
    | _=>exact o.elim
end
theorem zjx:∀{l:List Itm} {j j' i:Nat},(l.filterMap uO).Nodup->l[j]?=some (.mi i)->l[j']?=some (.mi i)->j=j'
 | [],j,j',i,_,h,_=>by simp at h
 | z::r,j,j',i,nd,h1,h2=>by
  have rest:(r.filterMap uO).Nodup:=by
   rw[Bx]at nd;cases z with
   | mi k=>exact(AZ.mp nd).2
   | _=>exact nd
  have mem:∀{j:Nat},r[j]?=some (.mi i)->i∈r.filterMap uO:=fun h=>Ey.mpr ⟨.mi i,Ag h,rfl⟩;have hd:z=.mi i->∀{j:Nat},r[j]?≠some (.mi i):=fun e j h=>by
   subst e;rw[Bx]at nd;exact(AZ.mp nd).1 (mem h)
  cases j with
  | zero =>
   cases j' with
   | zero=>rfl
   | succ j'=>exact absurd (by simpa using h2) (hd (by simpa using h1) (j:=j'))
  | succ j =>
   cases j' with
   | zero=>exact absurd (by simpa using h1) (hd (by simpa using h2) (j:=j))
   | succ j' =>
    have:=zjx (l:=r) rest (by simpa using h1) (by simpa using h2);rw[this]
theorem zk8:∀{l:List Itm} {j j':Nat} {d d':D},l.countP kO<=1->l[j]?=some (.td d)->l[j']?=some (.td d')->j=j'
 | [],j,j',d,d',_,h,_=>by simp at h
 | z::r,j,j',d,d',c,h1,h2=>by
  have rest:r.countP kO<=1:=by
   rw[List.countP_cons]at c;omega
  have none:kO z=true->∀{j:Nat} {d:D},r[j]?≠some (.td d):=fun e j d h=>by
   rw[List.countP_cons,if_pos e]at c;have:0<r.countP kO:=List.countP_pos_iff.mpr ⟨_,Ag h,rfl⟩
   omega
  cases j with
  | zero =>
   cases j' with
   | zero=>rfl
   | succ j' =>
    have e:z=.td d:=by simpa using h1
    subst e;exact absurd (by simpa using h2) (none rfl (j:=j'))
  | succ j =>
   cases j' with
   | zero =>
    have e:z=.td d':=by simpa using h2
    subst e;exact absurd (by simpa using h1) (none rfl (j:=j))
   | succ j' =>
    have:=zk8 (l:=r) rest (by simpa using h1) (by simpa using h2);rw[this]
theorem vj:∀{l:List Itm} {os:List D} {i:Nat} {c:Sl},(eX l os).lookup i=some c->∃(j:Nat) (d:D),l[j]?=some (.mi i)/\os[j]?=some d/\c=.ow true d
 | [],os,i,c,h=>by simp[eX]at h
 | z::r,[],i,c,h=>by cases z <;> simp[eX]at h
 | .vd d::r,o::os,i,c,h=>by
  obtain⟨j,d',h1,h2,h3⟩:=vj (l:=r) (os:=os) (by simpa[eX] using h);exact⟨j+1,d',by simpa using h1,by simpa using h2,h3⟩
 | .td d::r,o::os,i,c,h=>by
  obtain⟨j,d',h1,h2,h3⟩:=vj (l:=r) (os:=os) (by simpa[eX] using h);exact⟨j+1,d',by simpa using h1,by simpa using h2,h3⟩
 | .mi k::r,o::os,i,c,h=>by
  simp only[eX]at h;rw[yN]at h
  by_cases e:i=k
  ·subst e
   simp only[beq_self_eq_true]at h;cases h;exact⟨0,o,rfl,rfl,rfl⟩
  ·rw[beq_false_of_ne e]at h
   obtain⟨j,d',h1,h2,h3⟩:=vj (l:=r) (os:=os) h;exact⟨j+1,d',by simpa using h1,by simpa using h2,h3⟩
theorem vi:∀{l:List Itm} {os:List D} {i j:Nat} {d:D},l[j]?=some (.mi i)->os[j]?=some d->∃ c,(eX l os).lookup i=some c
 | [],os,i,j,d,h,_=>by simp at h
 | z::r,[],i,j,d,_,h=>by simp at h
 | .vd _::r,o::os,i,j,d,h1,h2=>by
  cases j with
  | zero=>simp at h1
  | succ j =>
   simp only[eX];exact vi (l:=r) (by simpa using h1) (by simpa using h2)
 | .td _::r,o::os,i,j,d,h1,h2=>by
  cases j with
  | zero=>simp at h1
  | succ j =>
   simp only[eX];exact vi (l:=r) (by simpa using h1) (by simpa using h2)
 | .mi k::r,o::os,i,j,d,h1,h2=>by
  simp only[eX];rw[yN]
  by_cases e:i=k
  ·subst e
   simp
  ·rw[beq_false_of_ne e]
   cases j with
   | zero=>simp at h1;exact absurd h1.symm e
   | succ j=>exact vi (l:=r) (by simpa using h1) (by simpa using h2)
section
variable {K:yf}{ρ0:En}{ds os:List D}
theorem pQ(rel:Rel K ρ σ H)(it:fJ K σ H0 H l vs)(hi:fK ρ l=.ok ds)(hm:l.map wx=ms){a:dm}(hd:ds.length=ms.length)(h:At (slots ms ds) (vs.map some) j a):(∃ i,l[j]?=some (.mi i)/\At ρ σ i a)\/∃ d,l[j]?=some (.td d)/\H0 a=none:=by
 obtain⟨v1,v2⟩:=it.get;obtain⟨d1,d2⟩:=pP hi;obtain⟨⟨p,d,e1⟩,e2⟩:=h;obtain⟨rfl,em,ed⟩:=xJ hd e1;rw[<- hm,zv]at em;cases el:l[j]? with
 | none=>rw[el]at em;cases em
 | some z =>
  rw[el]at em;obtain⟨v,ev,es⟩:=v2 j _ el;obtain⟨d',kB,sI⟩:=d2 j _ el;rw[zv,ev]at e2;cases e2;cases z with
  | vd _=>cases em
  | mi i =>
   obtain⟨q,eq⟩:=zdA sI;exact .inl ⟨i,rfl,⟨q,d',eq⟩,es⟩
  | td d0 =>
   obtain⟨b,eb,_,hb⟩:=es;cases eb;exact .inr ⟨d0,rfl,hb⟩
theorem zmu(r0:Rel K ρ0 σ H0)(st:cM ρ0 ρ σ H0 H)(rel:Rel K ρ σ H)(it:fJ K σ H0 H l vs)(hi:fK ρ l=.ok ds)(hm:l.map wx=ms)(nd:(l.filterMap uO).Nodup)(ct:l.countP kO<=1):ds.length=ms.length/\vs.length=ms.length/\Rel K (slots ms ds) (vs.map some) H:=by
 obtain⟨v1,v2⟩:=it.get;obtain⟨d1,d2⟩:=pP hi;have hl:ms.length=l.length:=by rw[<- hm,za]
 have hd:ds.length=ms.length:=by rw[d1,hl]
 have hv:vs.length=ms.length:=by rw[v1,hl]
 have apart:∀{i:Nat} {a:dm},At ρ σ i a->H0 a=none->False:=fun h1 h2=>by
  obtain⟨o',e',_⟩:=r0.et (st.ma.mpr ⟨_,h1⟩);rw[h2]at e';cases e'
 refine⟨hd,hv,⟨by rw[uI hd,za,hv],fun j x v e1 e2=>?_,fun j j' a h1 h2=>?_,rel.cst⟩⟩
 ·rw[mH hd]at e1
  cases em:ms[j]? with
  | none=>rw[em]at e1;cases e1
  | some m =>
   cases ed:ds[j]? with
   | none=>rw[em,ed]at e1;cases e1
   | some d =>
    rw[em,ed]at e1;rw[<- hm,zv]at em;cases el:l[j]? with
    | none=>rw[el]at em;cases em
    | some z =>
     rw[el]at em;obtain⟨u,eu,es⟩:=v2 j z el;obtain⟨d',kB,sI⟩:=d2 j z el;rw[ed]at kB;cases kB;rw[zv,eu]at e2;cases e2;cases z with
     | vd dz =>
      cases em;cases e1;cases sI;exact es
     | mi i =>
      cases em;cases e1;obtain⟨q,eq⟩:=zdA sI;have o:=rel.ok i _ _ eq es;show dF K H (.ow true d) (some u);cases u with
      | ref a=>exact o
      | _=>exact o.elim
     | td dz =>
      cases em;cases e1;cases sI;obtain⟨b,rfl,mb,_⟩:=es;exact mb
 ·rcases pQ rel it hi hm hd h1 with⟨i,e1,a1⟩|⟨d,e1,a1⟩
  ·rcases pQ rel it hi hm hd h2 with⟨i',e2,a2⟩|⟨d,e2,a2⟩
   ·have:=rel.sep i i' a a1 a2
    subst this;exact zjx nd e1 e2
   ·exact(apart a1 a2).elim
  ·rcases pQ rel it hi hm hd h2 with⟨i',e2,a2⟩|⟨d,e2,a2⟩
   ·exact(apart a2 a1).elim
   ·exact zk8 ct e1 e2
theorem zmt(r0:Rel K ρ0 σ H0)(st:cM ρ0 ρ σ H0 H)(rel:Rel K ρ σ H)(it:fJ K σ H0 H l vs)(hi:fK ρ l=.ok ds)(hm:l.map wx=ms)(hd:ds.length=ms.length)(ho:os.length=ms.length)(ra:Rel K (slots ms os) (vs.map some) H')(hC:∀ a o,H a=some o->¬ MA (slots ms ds) (vs.map some) a->H' a=some o) :
  Rel K (lI ρ l os) σ H'/\cM ρ0 (lI ρ l os) σ H0 H':=by
 obtain⟨v1,v2⟩:=it.get;obtain⟨d1,d2⟩:=pP hi;have hl:ms.length=l.length:=by rw[<- hm,za]
 have apart:∀{i:Nat} {a:dm},At ρ σ i a->H0 a=none->False:=fun h1 h2=>by
  obtain⟨o',e',_⟩:=r0.et (st.ma.mpr ⟨_,h1⟩);rw[h2]at e';cases e'
 have kp0:∀ a o,H0 a=some o->¬ MA ρ0 σ a->H' a=some o:=fun a o e n=>hC a o (st.kp a o e n) fun⟨j,h⟩=>by
  rcases pQ rel it hi hm hd h with⟨i,_,a1⟩|⟨d,_,a1⟩
  ·exact n (st.ma.mpr ⟨i,a1⟩)
  ·rw[e]at a1;cases a1
 have fz:ax H H':=fun a o e sy=>hC a o e fun⟨j,h⟩=>by
  obtain⟨⟨p,d,e1⟩,e2⟩:=id h;obtain⟨rfl,em,ed⟩:=xJ hd e1;rcases pQ rel it hi hm hd h with⟨i,_,a1⟩|⟨d,el,a1⟩
  ·obtain⟨o',e',ow⟩:=rel.et ⟨i,a1⟩
   rw[e]at e';cases e';exact ow.iI sy
  ·obtain⟨v,ev,b,eb,mb,_⟩:=v2 j _ el
   rw[zv,ev]at e2;cases e2;cases eb;obtain⟨o',e',ow⟩:=mb.own;rw[e]at e';cases e';exact ow.iI sy
 have key:=ztA (H:=H) (H':=H') (m:=eX l os) rel (fun i c e a bI=>by
  obtain⟨j,d,e1,e2,rfl⟩:=vj e;obtain⟨v,ev,es⟩:=v2 j _ e1;replace es:σ[i]?=some (some v):=es;rw[bI.2]at es;cases es;refine⟨true,d,rfl,?_⟩;have em:ms[j]?=some true:=by rw[<- hm,zv,e1];rfl
  exact ra.ok j (.ow true d) (some (.ref a)) (by rw[mH ho,em,e2];rfl) (by rw[zv,ev];rfl)) (fun i a bI e=>by
  obtain⟨u,hu,_⟩:=rel.et ⟨i,bI⟩;rw[hu];refine hC a u hu fun⟨j,h⟩=>?_;rcases pQ rel it hi hm hd h with⟨i',el,a1⟩|⟨d,_,a1⟩
  ·have:=rel.sep i i' a bI a1
   subst this;have hj:j<os.length:=by rw[ho,hl];exact(yQ.mp el).1
   obtain⟨c,ec⟩:=vi el (yO hj);rw[ec]at e;cases e
  ·exact apart bI a1) fz
 exact⟨key.1,⟨fun i p=>(st.md i p).trans (key.2 i p),kp0⟩⟩
end
section
variable {K:yf}
def u6(F:List D->R (D×List D))(n:Nat):Prop:=∀ ds y,F ds=.ok y->y.2.length=n
theorem ztj{fr:Bool}:u6 (run ms fr m b) ms.length:=fun ds y h=>by
 unfold run at h
 split at h
 ·rename_i hd
  obtain⟨z,_,h⟩:=bj h;obtain⟨fl,ρ⟩:=z;cases fr with
  | false =>
   cases fl with
   | rt d=>cases h;exact uh hd
   | nx=>cases h;exact uh hd
   | _=>cases h
  | true =>
   cases fl with
   | rf d=>cases h;exact uh hd
   | _=>cases h
 ·cases h
theorem zpg{fr:Bool}(ho:u6 F (jT a).length)(nd:(nL a).Nodup)(ct:nM a<=1)(σ:L2.St)(H:Hp)(Q:VK)(ρ:En)(rel:Rel K ρ σ H)
  (q:Good K ρ σ H (bO F a ρ) fun d ρ' H'=>∀ v,(if fr=true then ∃ a,v=.ref a/\H a=none/\cC K H' a d else Fz K H' d v)->Q v H'):zfp (lA K (jT a) fr F) [] E (tAr K a) σ H Q:=by
 obtain⟨y,ey,q0⟩:=q.bt;obtain⟨h1,h2,h3⟩:=vh ey;refine⟨ρ,rel,?_⟩;rw[ey];intro H1 aj aB vs it;obtain⟨ds,ed,q1⟩:=q0.cE;obtain⟨z,ez,q2⟩:=q1.cE;obtain⟨hd,hv,ra⟩:=zmu rel aB aj it ed h1 (by rw[h2];exact nd) (by rw[h3];exact ct);rw[Am];refine⟨ds,hv,hd,ra,z.1,z.2,ez,fun v H' rb kp fin=>?_⟩;obtain⟨r2,s2⟩:=zmt rel aB aj it ed h1 hd (ho ds z ez) rb kp;refine q2 H' r2 s2 v ?_;cases fr with
 | false=>exact fin
 | true =>
  obtain⟨ad,rfl,ha,m⟩:=fin;exact⟨ad,rfl,aB.old aj ha,m⟩
theorem zu6(c:Callee X.prog X.w X.K X.mg X.base x k ps (lA X.K (jT a) false F))(ho:u6 F (jT a).length)(nd:(nL a).Nodup)(ct:nM a<=1)(hr:aM j X.A)(hg:Gl X x)(hx:Passes (aZ X.prog X.w) X E)(ha:jk K X (e::es) a)(hj:k<=j:=by decide)(bp:(x==("__debug__":ir))=false:=by decide)
  (he:yi (e::es) X.env=(false,yu e X.env)::yi es X.env:=by exact FL.se rfl) (aS:(yJ pos (yi es X.env)).any (·.1)=false:=by exact FL.sp rfl):PV K X (.Call (.Name x p) (e::es) [] pos) (bO F a):=.mk fun hK=>by
 subst hK;refine(qA c hr hg hx (ha rfl) hj bp he aS).weak fun σ H Q=>?_;rintro⟨ρ,rel,q⟩;exact zpg (fr:=false) ho nd ct σ H Q ρ rel q
end
end
variable {a b:yh}{x0:ir}
section
variable [Cs]
section
variable {K:yf}{st:yx}
theorem zoX(rel:bc K C ρ σ H)(e:ρ[i]?=some (.ow false d)):∃ a u,H a=some u/\Own u/\∀ o,bc K C (ρ.set i (.val d)) σ (upd H a (.frz o u))/\ax H (upd H a (.frz o u)):=by
 obtain⟨a,bI,m⟩:=rel.rel.j9 (d:=d) (show cv ρ i=.ok d by unfold cv;rw[e]);obtain⟨u,e1,ow⟩:=m.own;refine⟨a,u,e1,ow,fun o=>?_⟩;have hl:i<ρ.length:=(yQ.mp e).1;have eh:=rel.own i a d e bI.2;have fz:ax H (upd H a (.frz o u)):=fun b w e2 sy=>by
  rw[aN fun z=>by subst z;rw[e1]at e2;cases e2;exact ow.iI sy];exact e2
 refine⟨?_,fz⟩;have fd:Fz K (upd H a (.frz o u)) d (.ref a):=by
  cases d with
  | list ds =>
   obtain⟨vs,h1,h2⟩:=m;rw[e1]at h1;cases h1;simp only[Fz];exact⟨a,vs,rfl,.inl ⟨o,ck⟩,h2.mono fz⟩
  | dict ag =>
   simp only[Fz];obtain⟨kk,h1,h2⟩:=m;rw[e1]at h1;cases h1;exact⟨a,o,rfl,⟨kk,ck,h2.mono fz⟩⟩
  | _=>exact m.elim
 have rY:∀ j b,At (ρ.set i (.val d)) σ j b->j≠i/\At ρ σ j b:=fun j b ⟨⟨q,dd,e1⟩,e2⟩=>by
  by_cases c:i=j
  ·subst c
   rw[zg hl]at e1;cases e1
  ·rw[yZ c]at e1
   exact⟨fun z=>c z.symm,⟨q,dd,e1⟩,e2⟩
 refine⟨⟨by rw[A3];exact rel.rel.len,fun j y w e2 e3=>?_,fun j k b h1 h2=>rel.rel.sep j k b (rY j b h1).2 (rY k b h2).2,rel.rel.cst.mono fz⟩,fun b w e2 n=>?_,fun j b c e2 e3=>?_,fun j=>?_,fun j c e2=>?_,rel.kY⟩
 ·by_cases c:i=j
  ·subst c
   rw[zg hl]at e2;cases e2;rw[bI.2]at e3;cases e3;exact fd
  ·rw[yZ c]at e2
   refine(rel.rel.ok j y w e2 e3).mono fz fun b e4 ⟨p,dd,e5⟩=>?_;subst e4;subst e5
   refine aN fun z=>?_;subst z;exact c (rel.rel.sep i j b bI ⟨⟨p,dd,e2⟩,e3⟩)
 ·rw[aN fun z=>by subst z;rw[eh]at e2;cases e2]
  exact rel.keep b w e2 n
 ·by_cases c:i=j
  ·subst c
   rw[zg hl]at e2;cases e2
  ·rw[yZ c]at e2
   exact rel.own j b _ e2 e3
 ·by_cases c:i=j
  ·subst c
   rw[zg hl,<- rel.pin i,e]
   constructor
   ·rintro⟨_,z⟩;cases z
   ·rintro⟨_,z⟩;cases z
  ·rw[yZ c];exact rel.pin j
 ·by_cases k:i=j
  ·subst k
   rw[zg hl]at e2;cases e2
  ·rw[yZ k]at e2
   exact rel.fix j c e2
theorem zkr(i:Nat)(hh:cH K X st s):cH K X st (uH i s):=.mk fun hK C=>by
 have h1:PS X st (fun Dn σ H=>tS K C s { Dn with nx:=fun σ H=>∃ a u,H a=some u/\Own u/\∀ o,Dn.nx σ (upd H a (.frz o u)) } σ H):=fun pins sh σ H Dn I q=>by
  refine aI (hh hK C pins sh σ H _ I q) fun fl s1 z=>?_;cases fl with
  | next =>
   obtain⟨σ',H',I',a,u,e,ow,q⟩:=z;obtain⟨o,ho⟩:=(I'.au a u e).some;exact⟨σ',_,zbQ I' e ow ho,q o⟩
  | brk=>exact z
  | cont=>exact z
  | ret v=>exact z
 refine h1.weak fun Dn σ H=>?_;rintro⟨ρ,rel,g⟩;refine⟨ρ,rel,?_⟩;obtain⟨x,ex,g1⟩:=g.bt;rw[ex];obtain⟨fl,ρ1⟩:=x;cases fl with
 | nx =>
  replace g1:cS K C H (match ρ1[i]? with|some (.ow false d)=>.ok (.nx,ρ1.set i (.val d))|_=>.bad) Dn:=g1;cases e:ρ1[i]? with
  | none=>rw[e]at g1;exact g1.elim
  | some y =>
   rw[e]at g1;cases y with
   | ow p d =>
    cases p with
    | true=>exact g1.elim
    | false =>
     intro σ' H' r z;obtain⟨a,u,e1,ow,k⟩:=zoX r e;exact⟨a,u,e1,ow,fun o=>g1 σ' _ (k o).1 (z.trans (k o).2)⟩
   | _=>exact g1.elim
 | bk=>exact g1
 | ct=>exact g1
 | rt d=>exact g1
 | rf d=>exact g1
theorem zvy{px pt:yn}{kt k2 jA}(hc:X.calm=true)(hN:X.N.Nodup)(hi:X.N[i]?=some x)(hj:X.N[j]?=some y)(e7:i≠j)
  (hx:X.env.scope.names.lookup x=some .local)(hy:X.env.scope.names.lookup y=some .local)(ha:PV K X a f)(hb:PV K X b h)
  (hw:BP [.Tuple [.Name x px,.Name y py] kt pt] (.Tuple [a,b] k2 jA) X.env=pure (some [x,y]))
  (hs:BO [.Tuple [.Name x px,.Name y py] kt pt] (.Tuple [a,b] k2 jA) pos.line X.env=pure false:=by rfl)(kN:yi [a,b] X.env=(false,yu a X.env)::yi [b] X.env:=by exact FL.se rfl)(c7:yi [b] X.env=(false,yu b X.env)::yi [] X.env:=by exact FL.se rfl) :
  cH K X (.Assign [.Tuple [.Name x px,.Name y py] kt pt] (.Tuple [a,b] k2 jA) pos) (eU i j f h):=.mk fun hK C=>(zuC hc hN hi hj e7 hx hy (gh (ha hK) (gh (hb hK) jy c7) kN) hw hs).weak fun Dn σ H=>by
 rintro⟨ρ,rel,g⟩;refine jq rel g fun d ρ1 v H1 aj aB fz g1=>jq aj g1 fun d2 ρ2 v2 H2 bY cg qc g2=>?_;obtain⟨ρ3,e3,g3⟩:=g2.bt;obtain⟨ρ4,e4,g4⟩:=g3.bt;obtain⟨rfl,n1,l1⟩:=sQ e3;obtain⟨rfl,n2,l2⟩:=sQ e4;have f1:=fz.mono (cg.cD aj.rel);have r3:=bY.chg (bY.rel.set (i:=i) (x:=.val d) (v:=some v) f1 fun _ _ _ z=>nomatch z) (r9 n1 l1);have r4:=r3.chg (r3.rel.set (i:=j) (x:=.val d2) (v:=some v2) qc fun _ _ _ z=>nomatch z) (r9 n2 l2);exact⟨v,v2,rfl,g4 _ H2 r4 (ax.refl _)⟩
theorem zeK{pl:yn}(ha:PV K X a f)(hb:PV K X b h)(hs:yi [a] X.env=(false,yu a X.env)::yi [] X.env:=by exact FL.se rfl):aO K X (.BinOp (.List [a] pl) .Mult b pos) (pX f h):=.mk fun hK=>(zjZ zty (zet (gh (ha hK) jy hs)) (hb hK)).weak fun σ H Q=>by
 rintro⟨ρ,rel,q⟩;refine dS rel q fun dx ρ1 x H1 aj aB fx q1=>⟨by show 1<=yz;rw[zC];decide,fun l hl=>?_⟩;have s0:ay H1 (upd H1 l (.lst [x])):=ay.upd hl;have fB:¬ MA ρ1 σ l:=fun z=>by
  obtain⟨o',e',_⟩:=aj.et z;rw[hl]at e';cases e'
 refine dS (aj.same s0) (q1.step (.of s0)) fun dy ρ2 y H2 bY cg fy q2=>?_;have j5:H2 l=some (.lst [x]):=cg.kp l _ ck fB;cases dy with
 | int k =>
  obtain⟨c,q3⟩:=Good.aY (c:=decide (0<=k)&&leB k.toNat 1000000) q2;simp only[Fz]at fy;subst fy;simp only[zf,decide_eq_true_eq,leB_iff]at c;have el:∀{α:Type} (z:α) (n:Nat),(yq n [z]).flatten=yq n z:=fun z n=>by
   induction n with
   | zero=>rfl
   | succ n ih=>rw[Bj,Cz,ih];rfl
  refine⟨l,k,[x],rfl,rfl,j5,by omega,by omega,?_,fun p hp=>?_⟩
  ·rw[zC,FU];omega
  ·rw[el]
   have s2:ay H2 (upd H2 p (.lst (yq k.toNat x))):=ay.upd hp;have fx2:Fz K (upd H2 p (.lst (yq k.toNat x))) dx x:=((fx.mono (ax.of s0)).mono (cg.cD (aj.same s0))).mono (ax.of s2);refine q3.new bY s2 p ?_ ⟨_,ck,?_⟩
   ·cases e0:H p with
    | none=>rfl
    | some o =>
     by_cases mm:MA ρ σ p
     ·obtain⟨o',e',_⟩:=bY.et (cg.ma.mp (aB.ma.mp mm))
      rw[hp]at e';cases e'
     ·have e1:=s0 p o (aB.kp p o e0 mm)
      rw[cg.kp p o e1 fun z=>mm (aB.ma.mpr z)]at hp;cases hp
   ·have:∀ n:Nat,ah K (upd H2 p (.lst (yq k.toNat x))) (yq n dx) (yq n x):=fun n=>by
     induction n with
     | zero=>simp[ah]
     | succ n ih=>rw[Bj,Bj];simp only[ah];exact⟨x,_,rfl,fx2,ih⟩
    exact this _
 | _=>exact q2.elim
theorem zvw{hZ:yn}(i0:Nat)(L:List ir)(ix:List Nat)(M:List ir)(hN:X.N.Nodup)(kK:X.N[i0]?=some x0)(j6:X.env.scope.names.lookup x0=some .local)
  (jr:zB (.ListComp elt [⟨tg,iter,ifs,0⟩] scope pos) (some (.Name x0 pos')) hZ.line X.env=pure true)(hc:X.calm=true)(hk:scope.kind=.function)
  (hd:gR X.env.scope scope X.N ix=true)(hM:M=L++ix.map fun i=>X.N.getD i "") (nd:ix.Nodup) (hi:fV K X tg iter it)
  (hg:∀ C s₃ H₃ fp,fU K (bo X M scope C s₃ H₃ fp) dom tg g) (bP:dom.all (fun i=>decide (i<L.length))=true)
  (ht:∀ C s₃ H₃ fp,iW K (bo X M scope C s₃ H₃ fp) ifs t) (he:∀ C s₃ H₃ fp,PV K (bo X M scope C s₃ H₃ fp) elt f)
  (hs:∀ x,zI iter X.env x=pure x:=by intro _;rfl) :
  cH K X (.Assign [.Name x0 pos'] (.ListComp elt [⟨tg,iter,ifs,0⟩] scope pos) hZ) (eN i0 (d6 L.length ix it g t f)):=.mk fun hK C =>
 (zuE i0 L ix M hN kK j6 jr hc hk hd hM (hi hK) (fun C s₃ H₃ fp=>hg C s₃ H₃ fp hK) (qg bP) (fun C s₃ H₃ fp=>ht C s₃ H₃ fp hK) (fun C s₃ H₃ fp=>he C s₃ H₃ fp hK) hs).weak fun Dn σ H q=>ziv nd bP σ H _ (zb4 Dn σ H q)
end
end
variable {f:SF}
section
variable [Cs]
structure Blt(mg:ir->Option gV):Prop where
 t9:mg "abs"=none
 cA:mg "isinstance"=none
 ub:mg "int"=none
 zdB:mg "bool"=none
 mw:mg "tuple"=none
 uc:mg "list"=none
 zjF:mg "str"=none
 oK:mg "len"=none
 wJ:mg "all"=none
 iH:mg "range"=none
 zdE:mg "zip"=none
 ua:mg "enumerate"=none
 zjD:mg "max"=none
 zjE:mg "min"=none
 zdD:mg "sum"=none
 zdC:mg "sorted"=none
 zjC:mg "dict"=none
 zjB:mg "any"=none
namespace Bt
theorem abs:zj "abs"=some (.builtin "abs"):=by decide +kernel
theorem len:zj "len"=some (.builtin "len"):=by decide +kernel
theorem all:zj "all"=some (.builtin "all"):=by decide +kernel
theorem sum:zj "sum"=some (.builtin "sum"):=by decide +kernel
theorem sorted:zj "sorted"=some (.builtin "sorted"):=by decide +kernel
theorem int:zj "int"=some (.type "int"):=by decide +kernel
theorem bool:zj "bool"=some (.type "bool"):=by decide +kernel
theorem tuple:zj "tuple"=some (.type "tuple"):=by decide +kernel
theorem list:zj "list"=some (.type "list"):=by decide +kernel
end Bt
theorem qK{K:yf}{st:List yx}(h:dE K X.cO st f):dE K X st f:=.mk fun hK C=>b9.cO (h hK C)
theorem zr1{K:yf}{G:List D->R D}{H:Hp}{a:dm}{ns:List Int}(h:G [.list (ns.map zi)]=.ok (.bool true))(hO:∀ b xs,H b≠some (.lst xs))(hC:fi H)(hS:bq K H a (ns.map V.int)):iP K 1 false G [.ref a] H (fun v _=>v=.bl true) fun _ _ _=>False:=by
 refine⟨[.list (ns.map zi)],rfl,hC,?_,.bool true,h,fun v H' _ fz=>by simpa[Fz] using fz⟩;simp only[ah,Fz];refine⟨.ref a,[],rfl,⟨a,ns.map V.int,rfl,?_,ah.ofInts ns⟩,rfl⟩;rcases hS with(hS|⟨o,hS⟩)|hS
 ·exact absurd hS (hO a _)
 ·exact .inl ⟨o,hS⟩
 ·exact .inr hS
end
end FL
namespace FL
open PySem
def sf(k:Nat)(ix:List Nat)(g:GF)(t:TF)(k2:Nat)(cz:IF)(g2:GF)(t2:TF)(f:EF):List D->En->List D->R (List D×En)
 | [],ρ,acc=>.ok (acc,ρ)
 | x::xs,ρ,acc=>(g x (dg k ix ρ)).bind fun β=>(t β).bind fun c =>
   if c.1=true then(cz c.2).bind fun z=>(iZ k2 (CM k2 (z.2.length-k2)) g2 t2 f z.1 z.2 acc).bind fun y=>sf k ix g t k2 cz g2 t2 f xs (back ρ ix (y.2.drop k)) y.1
   else sf k ix g t k2 cz g2 t2 f xs (back ρ ix (c.2.drop k)) acc
def sD(k:Nat)(ix:List Nat)(it:IF)(g:GF)(t:TF)(k2:Nat)(cz:IF)(g2:GF)(t2:TF)(f:EF):EF:=fun ρ=>(it ρ).bind fun x=>(sf k ix g t k2 cz g2 t2 f x.1 x.2 []).bind fun y=>.ok (.list y.1,y.2)
end FL
namespace L2
open PySem PySem.Spec PyProof.Rows
variable {elt i0 i1 t0 t1:yh}{wi:TI}{tu:TU}{c0 c1:List yh}{tc:TT}{pos:yn}{scope:yT}{g:TG}{X:Cx}
section
theorem ck0:Ck (.ListComp elt [⟨t0,i0,c0,0⟩,⟨t1,i1,c1,0⟩] scope pos) 0 t0 i0 c0 (pZ (.ListComp elt [⟨t0,i0,c0,0⟩,⟨t1,i1,c1,0⟩] scope pos) 1 i1):={ cl:=rfl,tn:=fun _ _ _=>rfl }
theorem ck1:Ck (.ListComp elt [⟨t0,i0,c0,0⟩,⟨t1,i1,c1,0⟩] scope pos) 1 t1 i1 c1 (zbF elt):={ cl:=rfl,tn:=fun _ _ _=>rfl }
section
theorem ztP{tg iter:yh}{ifs:List yh}(L:List ir)(ix:List Nat)(M:List ir)(hc:X.calm=true)(hk:scope.kind=.function)
  (hd:gR X.env.scope scope X.N ix=true)(hM:M=L++ix.map fun i=>X.N.getD i "") (hi:PI X tg iter wi)
  (hg:∀ C s₃ H₃ fp,PG (bo X M scope C s₃ H₃ fp) tg g) (bP:jL L.length g)
  (ht:∀ C s₃ H₃ fp,gu (bo X M scope C s₃ H₃ fp) ifs tc) (he:∀ C s₃ H₃ fp,PU (bo X M scope C s₃ H₃ fp) (pZ (.ListComp elt [⟨tg,iter,ifs,0⟩,⟨t1,i1,c1,0⟩] scope pos) 1 i1) tu)
  (hs:∀ x,zI iter X.env x=pure x:=by intro _;rfl) :
  PE X (.ListComp elt [⟨tg,iter,ifs,0⟩,⟨t1,i1,c1,0⟩] scope pos) (zfs L.length ix wi g tc tu):=by
 exact zjW L ix M rfl ck0 kdL rfl hc hk hd hM hi hg bP ht he hs
end
end
section
end
end L2
namespace FL
open PySem L2 PySem.Spec
open PyProof.Rows hiding St
variable [Cs]
variable {cz it:IF}{pos:yn}{dom gH ix:List Nat}{scope:yT}{g g2:GF}{X:Cx}{f:EF}{t t2:TF}
section
variable {K:yf}
variable {elt tg iter t1 i1:yh}{ifs c1:List yh}
theorem za2{k k2:Nat}{ix:List Nat}:∀(xs:List D) (ρ:En) (a:List D),((sf k ix g t k2 cz g2 t2 f xs ρ a).bind fun y=>.ok ((.list y.1:D),y.2))=fq k ix g t (pN k2 cz g2 t2 (vg f)) xs ρ (.list a)
 | [],ρ,a=>rfl
 | x::xs,ρ,a=>by
  unfold sf fq;cases g x (dg k ix ρ) with
  | ok β =>
   simp only[aA];cases t β with
   | ok c =>
    obtain⟨b,β2⟩:=c;simp only[aA];cases b with
    | true =>
     simp only[if_true,pN];cases cz β2 with
     | ok z =>
      simp only[aA];rw[<- vH];cases iZ k2 (CM k2 (z.2.length-k2)) g2 t2 f z.1 z.2 a with
      | ok y=>exact za2 xs _ _
      | _=>rfl
     | _=>rfl
    | false=>exact za2 xs _ _
   | _=>rfl
  | _=>rfl
theorem zph{k k2:Nat}(nd:ix.Nodup)(bP:dom.all (fun i=>decide (k2<=i)&&decide (i<k))=true)(kI:gH.all (fun i=>decide (i<k2))=true)(hk:k2<=k)(σ:L2.St)(H:Hp)(Q:VK)(q:tN K (sD k ix it g t k2 cz g2 t2 f) σ H Q) :
  zfs k ix (tI K it) (tG K dom g) (tT K t) (xU k2 (tI K cz) (tG K gH g2) (tT K t2) (xT (tV K f))) σ H Q :=
 zb3 (d0:=.list []) (zgC mok kI zgB) (fun ρ=>by unfold sD;cases it ρ with
  | ok x=>exact za2 _ _ _
  | _=>rfl) zjA nd bP hk σ H Q q
theorem zkp(k2:Nat)(L:List ir)(ix:List Nat)(M:List ir)(hc:X.calm=true)(hk:scope.kind=.function)(hd:gR X.env.scope scope X.N ix=true)(hM:M=L++ix.map fun i=>X.N.getD i "")(nd:ix.Nodup)(hi:fV K X tg iter it)
  (hg:∀ C s₃ H₃ fp,fU K (bo X M scope C s₃ H₃ fp) dom tg g) (bP:dom.all (fun i=>decide (k2<=i)&&decide (i<L.length))=true)
  (ht:∀ C s₃ H₃ fp,iW K (bo X M scope C s₃ H₃ fp) ifs t)
  (hi2:∀ C s₃ H₃ fp,fV K (bo X M scope C s₃ H₃ fp) t1 i1 cz) (oq:∀ C s₃ H₃ fp,fU K (bo X M scope C s₃ H₃ fp) gH t1 g2) (kI:gH.all (fun i=>decide (i<k2))=true)
  (ht2:∀ C s₃ H₃ fp,iW K (bo X M scope C s₃ H₃ fp) c1 t2) (he:∀ C s₃ H₃ fp,PV K (bo X M scope C s₃ H₃ fp) elt f) (wa:k2<=L.length)
  (hs:∀ x,zI iter X.env x=pure x:=by intro _;rfl) (c7:∀ C s₃ H₃ fp x,zI i1 (bo X M scope C s₃ H₃ fp).env x=pure x:=by intro _ _ _ _ _;rfl) :
  aO K X (.ListComp elt [⟨tg,iter,ifs,0⟩,⟨t1,i1,c1,0⟩] scope pos) (sD L.length ix it g t k2 cz g2 t2 f):=.mk fun hK=>by
 have zcg:dom.all (fun i=>decide (i<L.length))=true:=zR.mpr fun i m=>by
  have:=zR.mp bP i m;simp only[zf]at this;exact this.2
 refine(ztP L ix M hc hk hd hM (hi hK) (fun C s₃ H₃ fp=>hg C s₃ H₃ fp hK) (qg zcg) (fun C s₃ H₃ fp=>ht C s₃ H₃ fp hK) (fun C s₃ H₃ fp=>zkh ck1 rfl hc (hi2 C s₃ H₃ fp hK) (oq C s₃ H₃ fp hK) (qg kI) (ht2 C s₃ H₃ fp hK) (zeG rfl (he C s₃ H₃ fp hK)) (c7 C s₃ H₃ fp)) hs).weak fun σ H Q q=>zph nd bP kI wa σ H Q q
end
end FL
namespace FL
open PySem
abbrev K1:=Int ⊕ ir
abbrev KQ:=List K1 ⊕ K1
noncomputable def kOf:D->Option K1
 | .int i=>some (.inl i)
 | .str x=>some (.inr x)
 | _=>none
def oG:List D->Option (List K1)
 | []=>some []
 | d::r=>(kOf d).bind fun k=>(oG r).map fun ks=>k::ks
def keyOf:D->Option KQ
 | .tuple xs=>(oG xs).map .inl
 | _=>none
noncomputable def zbO:KQ->Bool
 | .inl _=>true
 | .inr _=>false
def keysOk(f:Bool)(ag:List (D×D)):Bool:=ag.all fun kv=>match keyOf kv.1 with
 | some q=>zbO q==f
 | none=>false
def look(ag:List (D×D))(q:KQ):Option D:=(ag.find? fun kv=>decide (keyOf kv.1=some q)).map (·.2)
def zeH(ag:List (D×D))(k:D)(q:KQ)(v:D):List (D×D) :=
 if(ag.any fun kv=>decide (keyOf kv.1=some q))=true then ag.map fun kv=>if keyOf kv.1=some q then(kv.1,v) else kv else ag++[(k,v)]
def dictAt(d k:D):R (List (D×D)×KQ):=match d with
 | .dict ag=>(R.of (keyOf k)).bind fun q=>aY (keysOk (zbO q) ag) (.ok (ag,q))
 | _=>.bad
def ku(d k:D):R (Option D):=(dictAt d k).bind fun x=>.ok (look x.1 x.2)
def inD(k d:D):R D:=(ku d k).bind fun o=>.ok (.bool o.isSome)
def wL(k d:D):R D:=(ku d k).bind fun o=>.ok (.bool (!o.isSome))
def jW(d k:D):R D:=(ku d k).bind fun o=>R.of o
def sv(d k v:D):R D:=(dictAt d k).bind fun x=>aY (leB (x.1.length+1) lim) (.ok (.dict (zeH x.1 k x.2 v)))
def e3(g:D->D->D->R D)(d k x:EF):EF:=fun ρ=>(d ρ).bind fun c=>(k c.2).bind fun a=>(x a.2).bind fun b=>(g c.1 a.1 b.1).bind fun r=>.ok (r,b.2)
def vK(i:Nat)(k f:EF):SF:=fun ρ=>(f ρ).bind fun v=>(cv v.2 i).bind fun _=>(k v.2).bind fun a=>(cv a.2 i).bind fun c=>(sv c a.1 v.1).bind fun d=>.ok (.nx,iK a.2 i d)
noncomputable def zid:EF:=fun ρ=>.ok (.dict [],ρ)
end FL
namespace PySem
open Spec
end PySem
namespace L2
open PySem PySem.Spec PyProof.Rows
end L2
namespace PySem
open Spec
variable {es:Array A7}{ep i:Nat}{Q:Option gV->kb->Prop}{w:yv}{A:yy}{E:gV->kb->Prop}{d it:dm}{s:kb}{prog:yw}
section
structure gP(h:yo)(d:dm)(es:Array A7)(ep:Nat):Prop where
 ex:∃ o,h.get? d=some o/\o.ExactDict/\o.data=.dict es ep
theorem gP.typ(x:gP s.heap d es ep):s.TypeIs (.ref d) "dict":=by
 obtain⟨o,ho,hc,_⟩:=x.ex;exact⟨o,ho,hc.1⟩
theorem zp3{Q:gV->kb->Prop}(hd:(d==AW)=false)(x:gP s.heap d es ep)
  (hQ:Q (.ref s.heap.objs.size) { s with heap:=s.heap.push { cls:=.type "dict_keyiterator",data:=.fields #[.ref d,.int 0 0,.int es.size 0,.int ep 0] } }):yj (ym prog w) A (pyIter (.ref d)) Q E s:=by
 obtain⟨o,ho,hc,ziF⟩:=x.ex;have hT:=x.typ;refine wpAny_pyIter_slot hT F.slot_dict_iter (A2 F.slot_dict_iter hT F.entry_dict_iter ?_ (F.args_dict_iter_1 _));unfold Ah.«dict.__iter__» Builtin.Dict.dictSlotNone;refine yg (yg (wpAny_notOrdered_dict hT ?_));show yj _ _ (pure (yS d)) _ _ s;refine yt ?_;show yj _ _ (Gj d >>= _) _ _ s;unfold Gj;rw[if_neg (by rw[hd];exact zL)];refine yg (yt (yg (Fi ho ziF (yg (Fj ho ziF ?_)))));refine yg (Al (yt ⟨_,rfl,"dict_keyiterator",_,⟨_,y9 _ rfl,rfl⟩,Dl.lookup,?_⟩));simpa[zY] using hQ
theorem zsM(hit:s.heap.IsKeyIter it d i es.size ep)(x:gP s.heap d es ep)(hi:i<es.size)
  (hQ:∀ h',h'.IsKeyIter it d (i+1) es.size ep->By it s.heap h'->Q (some es[i].key) { s with heap:=h' }):yj (ym prog w) A (AH (.ref it)) Q E s:=by
 obtain⟨o,ho,hc,hd⟩:=id hit;obtain⟨od,oz,gy,e6⟩:=x.ex;unfold AH;refine yg (D5 (BA (name:=BC "__next__") hit.typeIs Dl (A2 Dl hit.typeIs Gm ?_ (Gn _))));refine yg (yt (yg (yg ?_)))
 first|refine yg (D6 hit.typeIs (yt ?_))|refine yg (D7 hit.typeIs (yt ?_))
 refine yg (wpAny_fieldsOf ho hd ?_);have zcM:Gp "dict_keyiterator"=false:=by decide
 simp only[zcM,zy,if_false];show yj _ _ (if(yS d==yW)=true then _ else _) _ _ s;rw[if_neg (show ¬ ((yS d==yW)=true) from zL)];refine yg (yt (yg (Fi oz e6 ?_)));rw[if_neg (by simp)];refine yg (yt (yg (Fj oz e6 ?_)));rw[if_neg (by simp)];refine yt ?_;simp only[show ¬ ((i:Int)<0) from by omega,if_false,D8,E6 hi];refine yg ?_
 first|refine yg (D6 hit.typeIs (yt ?_))|refine yg (D7 hit.typeIs (yt ?_))
 refine yg (wpAny_isOneOf_keyiter hit.typeIs ?_);show yj _ _ (setField (.ref it) 1 (zY ((i:Int)+1)) >>= _) _ _ s;refine yg (B2 ho hd (by simp) ?_);have v9:(s.heap.update it (DR (·.setIfInBounds 1 (zY ((i:Int)+1))))).IsKeyIter it d (i+1) es.size ep :=
  ⟨_,C8 _ ho (DQ (B3 hd _)),(EZ ..).trans hc,by rw[B3 hd];simp[zY]⟩
 refine yg (zH (yg (wpAny_isOneOf_keyiter (s:={ s with heap:=s.heap.update it (DR (·.setIfInBounds 1 (zY ((i:Int)+1)))) }) v9.typeIs ?_)));show yj _ _ (pure es[i].key) _ _ _;exact yt (yt ⟨_,rfl,yt (hQ _ v9 (Bu ..))⟩)
theorem zbH(hh:A.handled=none)(hit:s.heap.IsKeyIter it d i es.size ep)(x:gP s.heap d es ep)(hge:es.size<=i)
  (hQ:∀ h',E5 it s.heap h'->Q none { s with heap:=h' }):yj (ym prog w) A (AH (.ref it)) Q E s:=by
 obtain⟨o,ho,hc,hd⟩:=id hit;obtain⟨od,oz,gy,e6⟩:=x.ex;unfold AH;refine yg (D5 (BA (name:=BC "__next__") hit.typeIs Dl (A2 Dl hit.typeIs Gm ?_ (Gn _))));refine yg (yt (yg (yg ?_)))
 first|refine yg (D6 hit.typeIs (yt ?_))|refine yg (D7 hit.typeIs (yt ?_))
 refine yg (wpAny_fieldsOf ho hd ?_);have zcM:Gp "dict_keyiterator"=false:=by decide
 simp only[zcM,zy,if_false];show yj _ _ (if(yS d==yW)=true then _ else _) _ _ s;rw[if_neg (show ¬ ((yS d==yW)=true) from zL)];refine yg (yt (yg (Fi oz e6 ?_)));rw[if_neg (by simp)];refine yg (yt (yg (Fj oz e6 ?_)));rw[if_neg (by simp)];refine yt ?_;simp only[show ¬ ((i:Int)<0) from by omega,if_false,D8,Array.getElem?_eq_none hge];refine yg ?_
 first|refine yg (D6 hit.typeIs (yt ?_))|refine yg (D7 hit.typeIs (yt ?_))
 show yj _ _ (setField (.ref it) 0 .none >>= _) _ _ s;refine yg (B2 ho hd (by simp) ?_);show yj _ _ (newExc (.type "StopIteration") [] >>= _) _ _ _;refine yg ?_;simp only[newExc,newTuple];refine yg (Al ?_ (by size_fits));refine yg (m:=D9 _ _) (wpAny_of_eq (a:=yW) (by first|rfl|(simp only[D9];rfl)) ?_);refine Al ?_ (by size_fits);simp only[raiseNew];refine yg (wpAny_handled ?_);rw[show A.in1.handled=none from hh];refine yg (yt (wpAny_throw ?_));refine yg (Fm (T:="StopIteration") (b:=true) ⟨_,y9 _ rfl,rfl⟩ isSubtype_stop ?_);exact yt (hQ _ (((Bu ..).extBut.push _).push _))
end
end PySem
namespace L2
open PySem PySem.Spec PyProof.Rows
section
end
variable {o:Option V}{s:kb}{X:Cx}{σ:St}{A:yy}{H H':Hp}{a:dm}{Q:Unit->kb->Prop}{E:gV->kb->Prop}{pins:List (dm×yp)}
section
def DG(H:Hp)(a:dm)(y:V)(r:Option V):Prop :=
 uS H a y r
section
variable {y v d:V}{u r:gV}
theorem zn7{Q:gV->kb->Prop}(hu:A.units+1<zb)(I:Inv X pins σ H s)(g:DG H a y o)(ry:RelV y u)(h:∀ s',Inv X pins σ H s'->Q (.bool o.isSome) s') :
  yj (ym X.prog X.w) A (yG .In u (.ref a)) Q E s:=by
 exact znO hu I g ry h
def DP(H:Hp)(a:dm)(y v:V)(H':Hp):Prop :=
 zab H a y v H'
theorem zoc(hu:A.units+1<zb)(I:Inv X pins σ H s)(g:DP H a y v H')(ry:RelV y u)(rv:RelV v r)(h:∀ s',Inv X pins σ H' s'->Q () s') :
  yj (ym X.prog X.w) A (setItem (.ref a) u r) Q E s:=by
 exact zn1 hu I g ry rv h
end
section
variable {o i e f value:yh}{apos dG pos pos':yn}{td ty tx tv:TE}
noncomputable def zwQ(td ty tv:TE):TS:=fun D σ H=>tv σ H fun v H1=>td σ H1 fun x H2=>ty σ H2 fun y H3=>∃ a H4,x=.ref a/\DP H3 a y v H4/\D.nx σ H4
theorem zuB(hu:X.A.units+1<zb)(ho:PE X o td)(hi:PE X i ty)(hv:PE X value tv)(hs:zB value (some (.Subscript o i pos')) pos.line X.env=pure false) :
  PS X (.Assign [.Subscript o i pos'] value pos) (zwQ td ty tv):=by
 intro pins s σ H D I h;refine wpAny_Assign_Subscript (aI (hv pins s σ H _ I h) fun r s1 ⟨v,H1,I1,rv,q1⟩=>aI (ho pins s1 σ H1 _ I1 q1) fun u s2 ⟨x,H2,I2,rx,q2⟩=>aI (hi pins s2 σ H2 _ I2 q2) fun iv s3 ⟨y,H3,I3,ry,a,H4,ex,g,q3⟩=>?_) hs;subst ex;obtain rfl:u=yS a:=rx;exact zoc hu I3 g ry rv fun s4 I4=>⟨σ,H4,I4,q3⟩
end
end
end L2
namespace FL
open PySem L2 PySem.Spec
open PyProof.Rows hiding St
variable {o:Option D}{v y:V}{α:Type}{a b:dm}{ag:List (D×D)}{ks:List Key}{d:D}{kk:List (List Key×V)}{x:List (D×D)×KQ}{k:Key}{q:KQ}
section
variable [Cs]
theorem wV{o:Option α}{a:α}(h:R.of o=.ok a):o=some a:=by
 cases o with
 | none=>cases h
 | some b=>cases h;rfl
theorem zqk(k:Key):kOf (kD k)=some k:=by cases k <;> rfl
theorem zi3:∀ ks:List Key,oG (ks.map kD)=some ks
 | []=>rfl
 | k::r=>by simp only[zh,oG,zqk,Option.bind_some,zi3 r,AB]
theorem tP(q:List Key):keyOf (j7 q)=some (.inl q):=by simp only[j7,keyOf,zi3,AB]
theorem zqj(h:kOf d=some k):d=kD k:=by
 cases d with
 | int i=>cases h;rfl
 | str i=>cases h;rfl
 | _=>cases h
theorem zi2:∀{ds:List D} {ks:List Key},oG ds=some ks->ds=ks.map kD
 | [],ks,h=>by simp only[oG,Ac]at h;subst h;rfl
 | d::r,ks,h=>by
  simp only[oG,AD,AA]at h;obtain⟨k,e,ks',e',rfl⟩:=h;rw[zqj e,zi2 e'];rfl
section
variable {K:yf}{H H':Hp}
theorem zo0:Fz K H (kD k) (kV k):=by cases k <;> simp[kD,kV,Fz]
theorem zqi(h:Fz K H (kD k) v):v=kV k:=by cases k <;> simpa[kD,kV,Fz] using h
theorem zir:∀ ks:List Key,ah K H (ks.map kD) (ks.map kV)
 | []=>by simp[ah]
 | k::r=>by simp only[zh,ah];exact⟨_,_,rfl,zo0,zir r⟩
theorem ziY:∀{ks:List Key} {vs:List V},ah K H (ks.map kD) vs->vs=ks.map kV
 | [],vs,h=>by simpa[ah] using h
 | k::r,vs,h=>by
  simp only[zh,ah]at h;obtain⟨v,t,rfl,h1,h2⟩:=h;rw[zqi h1,ziY h2];rfl
theorem zo1(h:dB H b (ks.map kV)):Fz K H (j7 ks) (.ref b):=by
 simp only[j7,Fz];exact⟨b,_,rfl,h,zir ks⟩
theorem zfw{k:D}(f:Tp K H k v)(e:keyOf k=some q):∃ ks b,q=.inl ks/\k=j7 ks/\v=.ref b/\dB H b (ks.map kV):=by
 cases k with
 | tuple xs =>
  simp only[keyOf,AA]at e;obtain⟨ks,e1,rfl⟩:=e;have:=zi2 e1;subst this;obtain⟨b,vs,rfl,tb,fa⟩:=(show ∃ a vs,v=.ref a/\dB H a vs/\ah K H (ks.map kD) vs by simpa[Tp,Fz] using f);rw[ziY fa]at tb;exact⟨ks,b,rfl,rfl,rfl,tb⟩
 | _=>cases e
theorem wA:∀{ag:List (D×D)} {kk:List (List Key×V)},aX K H ag kk->∀ q:List Key,(look ag (.inl q)=none/\jG kk q=none)\/∃ d v,look ag (.inl q)=some d/\jG kk q=some v/\Fz K H d v
 | [],kk,h,q=>by simp only[aX]at h;subst h;exact .inl ⟨rfl,rfl⟩
 | (k,d)::r,kk,h,q=>by
  simp only[aX]at h;obtain⟨q',v,t,rfl,rfl,f,h2⟩:=h
  by_cases c:q'=q
  ·subst c
   exact .inr ⟨d,v,by simp[look,CG,tP],zfC rfl,f⟩
  ·have e1:look ((j7 q',d)::r) (.inl q)=look r (.inl q):=by simp[look,CG,tP,c]
   rw[e1,zfB (p:=(q',v)) c];exact wA h2 q
theorem za6{k:D}(h:dictAt d k=.ok x):d=.dict x.1/\keyOf k=some x.2/\keysOk (zbO x.2) x.1=true:=by
 cases d with
 | dict ag =>
  obtain⟨q,e1,h⟩:=bj (show(R.of (keyOf k)).bind _=.ok x from h);obtain⟨c,h⟩:=fX h;cases h;exact⟨rfl,wV e1,c⟩
 | _=>cases h
theorem zh5{k:D}{x:V}(t:Tp K H d x)(f:Tp K H k y)(e:ku d k=.ok o) :
  ∃ a r,x=.ref a/\uZ H a/\DG H a y r/\((o=none/\r=none)\/∃ d v,o=some d/\r=some v/\Fz K H d v):=by
 obtain⟨⟨ag,q⟩,e1,e⟩:=bj (show(dictAt d k).bind _=.ok o from e);cases e;obtain⟨rfl,ek,c⟩:=za6 e1;obtain⟨a,ea,kk,rd,h⟩:=(show ∃ a,x=.ref a/\∃ kk,Rd H a (.dT kk)/\aX K H ag kk from t);subst ea;obtain⟨ks,b,rfl,rfl,rfl,tb⟩:=zfw f ek;refine⟨a,jG kk ks,rfl,⟨kk,rd⟩,⟨kk,ks,b,rd,rfl,tb,rfl⟩,?_⟩;rcases wA h ks with⟨z1,z2⟩|⟨d,v,z1,z2,z3⟩
 ·exact .inl ⟨z1,z2⟩
 ·exact .inr ⟨d,v,z1,z2,z3⟩
theorem zgH:∀{ag:List (D×D)} {kk:List (List Key×V)},aX K H ag kk->∀ q:List Key,(ag.any fun kv=>decide (keyOf kv.1=some (.inl q)))=kk.any fun kv=>decide (kv.1=q)
 | [],kk,h,q=>by simp only[aX]at h;subst h;rfl
 | (k,d)::r,kk,h,q=>by
  simp only[aX]at h;obtain⟨q',v,t,rfl,rfl,f,h2⟩:=h;simp only[List.any_cons,zgH h2 q,tP,Ac,Sum.inl.injEq]
theorem zkK{d:D}{v:V}(f:Fz K H d v):∀{ag:List (D×D)} {kk:List (List Key×V)},aX K H ag kk->∀ q:List Key,aX K H (ag.map fun kv=>if keyOf kv.1=some (.inl q) then(kv.1,d) else kv) (kk.map fun kv=>if kv.1=q then(kv.1,v) else kv)
 | [],kk,h,q=>by simp only[aX]at h;subst h;simp[aX]
 | (k,d0)::r,kk,h,q=>by
  simp only[aX]at h;obtain⟨q',v0,t,rfl,rfl,f0,h2⟩:=h;have ih:=zkK f h2 q
  by_cases c:q'=q
  ·subst c
   simp only[zh,tP,if_true,aX];exact⟨q',v,_,rfl,rfl,f,ih⟩
  ·simp only[zh,tP,Ac,Sum.inl.injEq,if_neg c,aX]
   exact⟨q',v0,_,rfl,rfl,f0,ih⟩
theorem zgI{d:D}{v:V}(f:Fz K H d v)(q:List Key):∀{ag:List (D×D)} {kk:List (List Key×V)},aX K H ag kk->aX K H (ag++[(j7 q,d)]) (kk++[(q,v)])
 | [],kk,h=>by simp only[aX]at h;subst h;simp only[zQ,aX];exact⟨q,v,[],rfl,rfl,f,rfl⟩
 | (k,d0)::r,kk,h=>by
  simp only[aX]at h;obtain⟨q',v0,t,rfl,rfl,f0,h2⟩:=h;simp only[zN,aX];exact⟨q',v0,_,rfl,rfl,f0,zgI f q h2⟩
theorem zu3(h:aX K H ag kk)(f:Fz K H d v)(q:List Key):aX K H (zeH ag (j7 q) (.inl q) d) (putK kk q v):=by
 unfold zeH putK;rw[zgH h q]
 split
 ·exact zkK f h q
 ·exact zgI f q h
theorem aX.len:∀{ag:List (D×D)} {kk:List (List Key×V)},aX K H ag kk->kk.length=ag.length
 | [],kk,h=>by simp only[aX]at h;subst h;rfl
 | (k,d0)::r,kk,h=>by
  simp only[aX]at h;obtain⟨q',v0,t,rfl,rfl,f0,h2⟩:=h;simp[h2.len]
theorem zo3{u o:HO}(e:H a=some u)(ow:Own u):ax H (upd H a o):=fun b w eb st=>by
 rw[aN fun z=>by subst z;rw[e]at eb;cases eb;exact ow.iI st];exact eb
theorem zh7{c k dv d':D}(m:cC K H a c)(f:Fz K H k y)(g:Fz K H dv v)(e:sv c k dv=.ok d'):∃ o,DP H a y v (upd H a o)/\cC K (upd H a o) a d':=by
 obtain⟨⟨ag,q⟩,e1,e⟩:=bj (show(dictAt c k).bind _=.ok d' from e);obtain⟨l,e⟩:=fX e;cases e;obtain⟨rfl,ek,c⟩:=za6 e1;have hl:ag.length+1<=yz:=zA (lY l) oI;obtain⟨kk,rd,h⟩:=(show ∃ kk,H a=some (.dT kk)/\aX K H ag kk from m);have fz:∀ o,ax H (upd H a o):=fun o=>zo3 rd trivial;obtain⟨ks,b,rfl,rfl,rfl,tb⟩:=zfw f.tp ek;exact⟨.dT (putK kk ks v),⟨kk,ks,b,rd,rfl,tb,by rw[h.len];omega,rfl⟩,⟨_,ck,(zu3 h g ks).mono (fz _)⟩⟩
end
end
variable {y:ir}{X:Cx}{k:EF}{ke:yh}
section
variable [Cs]
section
theorem ztp(hu:X.A.units+1<zb):aQ X (yG .In) (rD X.K inD):=by
 intro pins s σ H x y v u Q I rx ry h;obtain⟨dx,dy,d,tx,ty,e,q⟩:=h;obtain⟨o,e1,e⟩:=bj (show(ku dy dx).bind _=.ok d from e);cases e;obtain⟨a,r,rfl,_,g,rel⟩:=zh5 ty tx e1;cases ry;have hb:o.isSome=r.isSome:=by
  rcases rel with⟨rfl,rfl⟩|⟨_,_,rfl,rfl,_⟩ <;> rfl
 exact zn7 hu I g rx fun s3 I3=>⟨.bl r.isSome,H,I3,rfl,q _ H (ay.refl _) (by rw[hb];simp[Fz])⟩
theorem zp4(hu:X.A.units+1<zb):jM X (rD X.K jW):=by
 intro value slice pins s σ H x y v u Q I rx ry h hs;obtain⟨dx,dy,d,tx,ty,e,q⟩:=h;obtain⟨o,e1,e⟩:=bj (show(ku dx dy).bind _=.ok d from e);have eo:=wV e;subst eo;obtain⟨a,r,rfl,_,g,rel⟩:=zh5 tx ty e1;cases rx;rcases rel with⟨z,_⟩|⟨d',w,z,rfl,fz⟩
 ·cases z
 cases z;have hT:=zn9 I g;have h2:yj (ym X.prog X.w) X.A (Bi (.ref a) u) (EP X pins σ Q) X.xe s:=znN hu I g ry fun w' s3 I3 iO=>⟨w,H,I3,iO,q w H (ay.refl _) fz⟩;unfold DJ;refine yg ?_;rw[getitemInPython_of_ne hT.not_modules];refine yg (DV hT Gq.lookup ?_);have fin:yj (ym X.prog X.w) X.A (DK slice false (.ref a) u) (fun r s₃=>yj (ym X.prog X.w) X.A (letTemporaryGo value (.ref a) r >>= fun _=>pure r) (EP X pins σ Q) X.xe s₃) X.xe s:=by
  rw[hs];exact wpAny_operating (zo h2 (fun r s₃ h₃=>yg (wpAny_letTemporaryGo (yt h₃))) fun _ _ x=>x)
 first
  | exact yt (yg fin)
  | exact yg (yt (yg fin))
  | exact yg fin
end
section
variable {K:yf}{o e e':yh}{fd fk fx f:EF}{apos dG pos:yn}
theorem zeL{py ka:yn}(i:Nat)(hu:X.A.units+1<zb)(ha:PE X (.Name y py) (dD i))(he:PV K X e f)(hk:PV K X ke k)
  (hs:zB e (some (.Subscript (.Name y py) ke ka)) pos.line X.env=pure false:=by rfl):cH K X (.Assign [.Subscript (.Name y py) ke ka] e pos) (vK i k f):=.mk fun hK C=>by
 subst hK;refine(zuB hu ha (hk rfl) (he rfl) hs).weak fun Dn σ H=>?_;rintro⟨ρ,rel,g⟩;refine jq rel g fun dv ρ1 v H1 aj aB fv g1=>?_;obtain⟨d,ed,g2⟩:=g1.bt;obtain⟨a,bI,m0⟩:=aj.rel.j9 ed;refine⟨.ref a,bI.2,jq aj g2 fun dk ρ2 kv H2 bY cg fk g3=>?_⟩;obtain⟨c,ec,g4⟩:=g3.bt;obtain⟨d',kB,g5⟩:=g4.bt;obtain⟨o,dp,mm⟩:=zh7 (bY.rel.again ec bI) fk (fv.mono (cg.cD aj.rel)) kB;obtain⟨a2,at2,_⟩:=bY.rel.j9 ec;have:=bI.2.symm.trans at2.2;cases this;exact⟨a,_,rfl,dp,ziA bY at2 mm g5⟩
theorem zvo:aO K X (.Dict [] [] pos) zid:=.mk fun hK=>ztR.weak fun σ H Q=>by
 rintro⟨ρ,rel,q⟩ p hp;exact q.new rel (ay.upd hp) p hp ⟨[],ck,by simp[aX]⟩
end
end
end FL
namespace FL
open PySem
noncomputable def mG(i:Nat)(ρ:En):Nat:=match ρ[i]? with
 | some (.val (.int n))=>n.natAbs+1
 | _=>0
abbrev WK:=Int×List Int
def wB(p q:WK):Bool:=if p.1=q.1 then lexLt p.2 q.2 else decide (p.1<q.1)
def lU(x:WK×D):List (WK×D)->List (WK×D)
 | []=>[x]
 | y::r=>if wB y.1 x.1=true then y::lU x r else x::y::r
def lV:List (WK×D)->List (WK×D)
 | []=>[]
 | x::r=>lU x (lV r)
theorem zcR(x:WK×D):∀ l,(lU x l).Perm (x::l)
 | []=>.refl _
 | y::r=>by
  unfold lU
  split
  ·exact((zcR x r).cons y).trans (.swap x y r)
  ·exact .refl _
theorem ziQ:∀ l:List (WK×D),(lV l).Perm l
 | []=>.refl _
 | x::r=>(zcR x _).trans ((ziQ r).cons x)
noncomputable def insI(x:Int):List Int->List Int
 | []=>[x]
 | y::r=>if y<x then y::insI x r else x::y::r
def zcU:List Int->List Int
 | []=>[]
 | x::r=>insI x (zcU r)
def zyV:D->R D
 | .list a=>(R.of (intsOf a)).bind fun ns=>aY (leB (ns.length+1) 64) (.ok (.list ((zcU ns).map .int)))
 | .tuple a=>(R.of (intsOf a)).bind fun ns=>aY (leB (ns.length+1) 64) (.ok (.list ((zcU ns).map .int)))
 | _=>.bad
def zcQ(k d:D):R D:=match d with
 | .list xs=>aY (Ao (.list xs)&&Ao k) (.ok (.bool (xs.any fun y=>A4 y k)))
 | .tuple xs=>aY (Ao (.tuple xs)&&Ao k) (.ok (.bool (xs.any fun y=>A4 y k)))
 | _=>.bad
end FL
namespace L2
open PySem PySem.Spec PyProof.Rows PySem.W
variable {p:Array Nat}
abbrev gp(p:Array Nat)(i:Nat):Nat:=p.getD i 0
theorem sW{q:Array Nat}{i j:Nat}(h:p[i]?=q[j]?):gp p i=gp q j:=by
 simp only[gp,Array.getD_eq_getD_getElem?,h]
variable {a b m n:Nat}{Q:Nat×Array Nat->kb->Prop}{cmp:Nat->Nat->(Bool->kb->Prop)->kb->Prop}{s:kb}{P:kb->Prop}
section
variable {lt:Nat->Nat->Bool}
structure Ord(lt:Nat->Nat->Bool):Prop where
 tr:∀ i j k,lt j i=false->lt k j=false->lt k i=false
 as:∀ i j,lt i j=true->lt j i=false
def lD(lt:Nat->Nat->Bool)(n:Nat)(P:kb->Prop)(cmp:Nat->Nat->(Bool->kb->Prop)->kb->Prop):Prop :=
 ∀ i j (C:Bool->kb->Prop) s,i<n->j<n->P s->(∀ s',P s'->C (lt i j) s')->cmp i j C s
theorem Ord.refl(o:Ord lt)(i:Nat):lt i i=false:=by
 cases h:lt i i with
 | false=>rfl
 | true=>exact h.symm.trans (o.as i i h)
def Up(lt:Nat->Nat->Bool)(p:Array Nat)(m:Nat):Prop:=∀ i j,i<=j->j<m->lt (gp p j) (gp p i)=false
def Dn(lt:Nat->Nat->Bool)(p:Array Nat)(m:Nat):Prop:=∀ i j,i<=j->j<m->lt (gp p i) (gp p j)=false
def Eb(lt:Nat->Nat->Bool)(p:Array Nat)(a b:Nat):Prop:=∀ i j,a<=i->i<b->a<=j->j<b->lt (gp p i) (gp p j)=false
structure Arr(n:Nat)(p:Array Nat):Prop where
 sz:p.size=n
 pm:p.Perm (A8 (z9 n))
theorem Arr.lim(h:Arr n p)(hn:0<n)(i:Nat):gp p i<n:=by
 by_cases c:i<p.size
 ·have e:gp p i=p[i]:=by simp[gp,Ea,c]
  rw[e];have m:p[i]∈p.toList:=Array.getElem_mem_toList c;have m2:=(Ec.mp h.pm).mem_iff.mp m;simpa using m2
 ·have e:gp p i=0:=by simp[gp,Ea,c]
  rw[e];exact hn
theorem Up.next(o:Ord lt)(h:Up lt p m)(hm:1<=m)(e:lt (gp p m) (gp p (m-1))=false):Up lt p (m+1):=fun i j e7 hj=>by
 by_cases c:j<m
 ·exact h i j e7 c
 ·have:j=m:=by omega
  subst this
  by_cases c2:i=j
  ·subst c2;exact o.refl _
  ·exact o.tr _ _ _ (h i (j-1) (by omega) (by omega)) e
theorem Dn.next(o:Ord lt)(h:Dn lt p m)(hm:1<=m)(e:lt (gp p (m-1)) (gp p m)=false):Dn lt p (m+1):=fun i j e7 hj=>by
 by_cases c:j<m
 ·exact h i j e7 c
 ·have:j=m:=by omega
  subst this
  by_cases c2:i=j
  ·subst c2;exact o.refl _
  ·exact o.tr _ _ _ e (h i (j-1) (by omega) (by omega))
theorem qi(hb:b<=p.size)(k:Nat):gp (Cd p a b) k=if a<=k/\k<b then gp p (a+b-1-k) else gp p k:=by
 have e:=getElem?_mirror_all (xs:=p) (i:=a) hb k;unfold Cd
 split
 ·rename_i c;rw[if_pos c]at e;exact sW e
 ·rename_i c;rw[if_neg c]at e;exact sW e
theorem Arr.rev(h:Arr n p)(a b:Nat):Arr n (Cd p a b):=⟨by unfold Cd;rw[mirror_size];exact h.sz,(mirror_perm _ _ _ _).trans h.pm⟩
theorem Dn.rev(o:Ord lt)(hb:b<=p.size)(h:Dn lt p m)(e:Eb lt p a b)(hbm:b<=m):Dn lt (Cd p a b) m:=fun i j e7 hj=>by
 rw[qi hb,qi hb]
 split
 ·rename_i c1
  split
  ·rename_i c2;exact e _ _ (by omega) (by omega) (by omega) (by omega)
  ·rename_i c2;exact h _ _ (by omega) (by omega)
 ·rename_i c1
  split
  ·rename_i c2;exact h _ _ (by omega) (by omega)
  ·exact h _ _ e7 hj
theorem zaz(o:Ord lt)(hc:lD lt n P cmp)(hn:0<n){p:Array Nat}(ar:Arr n p):∀(f m:Nat) {Q:Nat->kb->Prop} {s:kb},1<=m->Up lt p m->P s ->
  (∀ m' s',P s'->m<=m'->m'<=m+f->Up lt p m'->(m'=m+f\/lt (gp p m') (gp p (m'-1))=true)->Q m' s')->(kas_asc p f m).kasWp cmp Q s
 | 0,m,Q,s,h1,hu,hp,h=>h m s hp (yA _) (yA _) hu (.inl rfl)
 | f+1,m,Q,s,h1,hu,hp,h=>by
  refine hc _ _ _ s (ar.lim hn _) (ar.lim hn _) hp fun s' dU=>?_;cases e:lt (p.getD m 0) (p.getD (m-1) 0) with
  | true=>exact h m s' dU (yA _) (by omega) hu (.inr e)
  | false =>
   refine zaz o hc hn ar f (m+1) (by omega) (hu.next o h1 e) dU fun m' gM oB a b c d=>h m' gM oB (by omega) (by omega) c ?_;rcases d with d|d
   ·exact .inl (by omega)
   ·exact .inr d
theorem vL(o:Ord lt)(hc:lD lt n P cmp)(hn:0<n):∀(f:Nat) (p:Array Nat) (m q:Nat) {Q:Array Nat×Nat×Nat->kb->Prop} {s:kb},Arr n p->q+1<=m->m+f<=n->Dn lt p m->Eb lt p (m-(q+1)) m->P s ->
  (∀ p' m' q' s',P s'->Arr n p'->m<=m'->m'<=n->q'+1<=m'->Dn lt p' m'->Eb lt p' (m'-(q'+1)) m'->Q (p',m',q') s')->(kas_desc f p m q).kasWp cmp Q s
 | 0,p,m,q,Q,s,ar,h1,h2,hd,he,hp,h=>h p m q s hp ar (yA _) (by omega) h1 hd he
 | f+1,p,m,q,Q,s,ar,h1,h2,hd,he,hp,h=>by
  refine hc _ _ _ s (ar.lim hn _) (ar.lim hn _) hp fun s' dU=>?_;cases e:lt (p.getD m 0) (p.getD (m-1) 0) with
  | true =>
   have hd2:Dn lt p (m+1):=hd.next o (by omega) (o.as _ _ e);show(if q > 0 then kas_desc f (Cd p (m-(q+1)) m) (m+1) 0 else kas_desc f p (m+1) 0).kasWp cmp Q s'
   split
   ·refine vL o hc hn f _ (m+1) 0 (ar.rev _ _) (by omega) (by omega) (hd2.rev o (by rw[ar.sz];omega) he (by omega)) (fun i j a b c d=>?_) dU fun p' m' q' gM a b c=>h p' m' q' gM a b (by omega)
    have e1:i=m:=by omega
    have e2:j=m:=by omega
    subst e1;subst e2;exact o.refl _
   ·refine vL o hc hn f _ (m+1) 0 ar (by omega) (by omega) hd2 (fun i j a b c d=>?_) dU fun p' m' q' gM a b c=>h p' m' q' gM a b (by omega)
    have e1:i=m:=by omega
    have e2:j=m:=by omega
    subst e1;subst e2;exact o.refl _
  | false =>
   refine hc _ _ _ s' (ar.lim hn _) (ar.lim hn _) dU fun gM oB=>?_;cases e2:lt (p.getD (m-1) 0) (p.getD m 0) with
   | true=>exact h p m q gM oB ar (yA _) (by omega) h1 hd he
   | false =>
    refine vL o hc hn f p (m+1) (q+1) ar (by omega) (by omega) (hd.next o (by omega) e2) (fun i j a b c d=>?_) oB fun p' m' q' s3 a b c=>h p' m' q' s3 a b (by omega);have eq1:∀ x,m-(q+1)<=x->x<m->lt (gp p m) (gp p x)=false/\lt (gp p x) (gp p m)=false:=fun x x1 x2 =>
     ⟨o.tr _ _ _ (he (m-1) x (by omega) (by omega) x1 x2) e,o.tr _ _ _ e2 (he x (m-1) x1 x2 (by omega) (by omega))⟩
    by_cases c1:i=m
    ·by_cases c2:j=m
     ·subst c1;subst c2;exact o.refl _
     ·subst c1;exact(eq1 j (by omega) (by omega)).1
    ·by_cases c2:j=m
     ·subst c2;exact(eq1 i (by omega) (by omega)).2
     ·exact he i j (by omega) (by omega) (by omega) (by omega)
theorem zk6(o:Ord lt)(hc:lD lt n P cmp)(hn:0<n)(ar:Arr n p)(h1:1<=m)(hm:m<=n)(hd:Dn lt p m)(hp:P s)
  (h:∀ m' p' s',P s'->Arr n p'->1<=m'->m'<=n->Up lt p' m'->Q (m',p') s'):(kas_tail3 m n p).kasWp cmp Q s:=by
 unfold kas_tail3;rw[Dm];refine zaz o hc hn (ar.rev 0 m) (n-m) m h1 (fun i j e7 hj=>?_) hp fun m' s' dU a b c _=>h m' _ s' dU (ar.rev 0 m) (by omega) (by omega) c;rw[qi (by rw[ar.sz];exact hm),qi (by rw[ar.sz];exact hm),if_pos (by omega),if_pos (by omega)];exact hd _ _ (by omega) (by omega)
theorem zh3(o:Ord lt)(hc:lD lt n P cmp)(hn:0<n)(ar:Arr n p)(hm:m+1<=n)(hd:Dn lt p (m+1))(hp:P s)
  (h:∀ m' p' s',P s'->Arr n p'->1<=m'->m'<=n->Up lt p' m'->Q (m',p') s'):(kas_descPart m n p).kasWp cmp Q s:=by
 unfold kas_descPart;rw[Dm];refine vL o hc hn _ p (m+1) 0 ar (by omega) (by omega) hd (fun i j a b c d=>?_) hp fun p' m' q' s' dU ar' a b c iA he'=>?_
 ·have e1:i=m:=by omega
  have e2:j=m:=by omega
  subst e1;subst e2;exact o.refl _
 ·show(if q' > 0 then kas_tail3 m' n (Cd p' (m'-(q'+1)) m') else kas_tail3 m' n p').kasWp cmp Q s'
  split
  ·exact zk6 o hc hn (ar'.rev _ _) (by omega) b (iA.rev o (by rw[ar'.sz];exact b) he' (yA _)) dU h
  ·exact zk6 o hc hn ar' (by omega) b iA dU h
theorem znp(o:Ord lt)(hc:lD lt n P cmp)(hn:0<n)(ar:Arr n p)(hp:P s)
  (h:∀ m' p' s',P s'->Arr n p'->1<=m'->m'<=n->Up lt p' m'->Q (m',p') s'):(kas_count n p).kasWp cmp Q s:=by
 unfold kas_count;rw[Dm];refine zaz o hc hn ar (n-1) 1 (yA _) (fun i j a b=>?_) hp fun m s' dU a b hu hl=>?_
 ·have e1:i=0:=by omega
  have e2:j=0:=by omega
  subst e1;subst e2;exact o.refl _
 by_cases c:m=n
 ·subst c
  rw[if_pos (by simp)];exact h m p s' dU ar a (yA _) hu
 ·rw[if_neg (by simpa using c)]
  have j5:lt (gp p m) (gp p (m-1))=true:=by
   rcases hl with hl|hl
   ·omega
   ·exact hl
  by_cases c1:m > 1
  ·rw[if_pos c1]
   refine hc _ _ _ s' (ar.lim hn _) (ar.lim hn _) dU fun gM oB=>?_;cases e:lt (p.getD 0 0) (p.getD (m-1) 0) with
   | true=>exact h m p gM oB ar a (by omega) hu
   | false =>
    have hs:m<=p.size:=by rw[ar.sz];omega
    have all:∀ i j,i<m->j<m->lt (gp p i) (gp p j)=false:=fun i j hi hj =>
     o.tr _ _ _ (hu j (m-1) (by omega) (by omega)) (o.tr _ _ _ e (hu 0 i (zJ _) hi))
    refine zh3 o hc hn (ar.rev 0 m) (by omega) (fun i j e7 hj=>?_) oB h;rw[qi hs,qi hs]
    by_cases cj:j<m
    ·rw[if_pos (by omega),if_pos (by omega)]
     exact all _ _ (by omega) (by omega)
    ·have ej:j=m:=by omega
     subst ej;rw[if_neg (by omega:¬ (0<=j/\j<j))]
     split
     ·exact o.tr _ _ _ (o.as _ _ j5) (all _ _ (by omega) (by omega))
     ·have ei:i=j:=by omega
      subst ei;exact o.refl _
  ·rw[if_neg c1]
   have e1:m=1:=by omega
   subst e1;refine zh3 o hc hn ar (by omega) ?_ dU h;refine Dn.next o (fun i j e7 hj=>?_) (yA _) (o.as _ _ j5);have e1:i=0:=by omega
   have e2:j=0:=by omega
   subst e1;subst e2;exact o.refl _
theorem zey(o:Ord lt)(hc:lD lt n P cmp)(hn:0<n){p:Array Nat}(ar:Arr n p){k:Nat}(hu:Up lt p k):∀(f l r:Nat) {Q:Nat->kb->Prop} {s:kb},l<=r->r<=k->r-l<=f ->
  (∀ i,i<l->lt (gp p k) (gp p i)=false)->(∀ i,r<=i->i<k->lt (gp p i) (gp p k)=false)->P s ->
  (∀ l' s',P s'->l'<=k->(∀ i,i<l'->lt (gp p k) (gp p i)=false)->(∀ i,l'<=i->i<k->lt (gp p i) (gp p k)=false)->Q l' s')->(kas_place p k f l r).kasWp cmp Q s
 | 0,l,r,Q,s,h1,h2,h3,a,b,hp,h=>h l s hp (by omega) a (by
   have:l=r:=by omega
   subst this;exact b)
 | f+1,l,r,Q,s,h1,h2,h3,a,b,hp,h=>by
  unfold kas_place
  by_cases c:l ≥ r
  ·rw[if_pos c]
   have:l=r:=by omega
   subst this;exact h l s hp h2 a b
  ·rw[if_neg c]
   refine hc _ _ _ s (ar.lim hn _) (ar.lim hn _) hp fun s' dU=>?_;cases e:lt (p.getD k 0) (p.getD ((l+r) / 2) 0) with
   | true =>
    refine zey o hc hn ar hu f l ((l+r) / 2) (by omega) (by omega) (by omega) a (fun i i1 i2=>?_) dU h;exact o.tr _ _ _ (o.as _ _ e) (hu _ _ i1 i2)
   | false =>
    refine zey o hc hn ar hu f ((l+r) / 2+1) r (by omega) h2 (by omega) (fun i i1=>?_) b dU h;exact o.tr _ _ _ (hu i ((l+r) / 2) (by omega) (by omega)) e
theorem zhl(o:Ord lt)(hc:lD lt n P cmp)(hn:0<n):∀(f:Nat) (p:Array Nat) (k:Nat) {Q:Array Nat->kb->Prop} {s:kb},Arr n p->k+f=n->Up lt p k->P s ->
  (∀ p' s',P s'->Arr n p'->Up lt p' n->Q p' s')->(kas_bin f p k).kasWp cmp Q s
 | 0,p,k,Q,s,ar,h1,hu,hp,h=>h p s hp ar (by
  have:k=n:=by omega
  subst this;exact hu)
 | f+1,p,k,Q,s,ar,h1,hu,hp,h=>by
  unfold kas_bin;rw[Dm];refine zey o hc hn ar hu k 0 k (zJ _) (yA _) (by omega) (fun i hi=>by omega) (fun i a b=>by omega) hp fun l s' dU hl ha hb=>?_;have hk:k<p.size:=by rw[ar.sz];omega
  have gb:∀ i,gp (bubble p k (k-l)) i=if i=l then gp p k else if l<i/\i<=k then gp p (i-1) else gp p i:=fun i=>by
   have e:=getElem?_bubble hk (k-l) (by omega) i;rw[show k-(k-l)=l by omega]at e
   by_cases c1:i=l
   ·rw[if_pos c1]at e ⊢;exact sW e
   ·rw[if_neg c1]at e ⊢
    by_cases c2:l<i/\i<=k
    ·rw[if_pos c2]at e ⊢;exact sW e
    ·rw[if_neg c2]at e ⊢;exact sW e
  refine zhl o hc hn f _ (k+1) ⟨by rw[bubble_size];exact ar.sz,(bubble_perm _ _ _).trans ar.pm⟩ (by omega) (fun i j e7 hj=>?_) dU h;rw[gb i,gb j]
  by_cases c1:i=l
  ·rw[if_pos c1]
   by_cases c2:j=l
   ·rw[if_pos c2];exact o.refl _
   ·rw[if_neg c2,if_pos (by omega)]
    exact hb _ (by omega) (by omega)
  ·rw[if_neg c1]
   by_cases c2:j=l
   ·rw[if_pos c2,if_neg (by omega)]
    exact ha _ (by omega)
   ·rw[if_neg c2]
    by_cases c3:l<i/\i<=k
    ·rw[if_pos c3,if_pos (by omega)]
     exact hu _ _ (by omega) (by omega)
    ·rw[if_neg c3]
     split
     ·exact hu _ _ (by omega) (by omega)
     ·exact hu _ _ (by omega) (by omega)
theorem zw9(o:Ord lt)(hc:lD lt n P cmp)(hn:0<n){Q:Array Nat->kb->Prop}(hp:P s)(h:∀ p s',P s'->Arr n p->Up lt p n->Q p s'):(kas_sort n).kasWp cmp Q s:=by
 unfold kas_sort;rw[Dm];refine znp o hc hn ⟨by simp,Gr _⟩ hp fun m p s' dU ar h1 h2 hu=>?_;show(if m<n then kas_bin (n-max m 1) p (max m 1) else KasT.ret p).kasWp cmp Q s'
 split
 ·have e:max m 1=m:=by omega
  rw[e];exact zhl o hc hn _ p m ar (by omega) hu dU h
 ·have:m=n:=by omega
  subst this;exact h p s' dU ar hu
end
end L2
namespace PySem
open Spec PyProof.Rows
variable {es:Array A7}{Q:List gV->kb->Prop}{w:yv}{A:yy}{E:gV->kb->Prop}{s:kb}{ep:Nat}{d:dm}{prog:yw}
section
theorem gP.at{h h':yo}(x:gP h d es ep)(k:∀ o,h.get? d=some o->h'.get? d=some o):gP h' d es ep:=by
 obtain⟨o,e,r⟩:=x.ex;exact⟨o,k o e,r⟩
theorem zym(hh:A.handled=none)(I d:dm)(d7:d≠I)(es:Array A7)(ep:Nat) :
  Walks prog w A I [I,d] [I] es.size (fun i v=>∃ h:i<es.size,v=es[i].key) (fun i h=>h.IsKeyIter I d i es.size ep/\gP h d es ep) where
 sub:=fun b hb=>by simp at hb;simp[hb]
 frame:=fun _ _ _ st hk=>⟨st.1.at fun o e=>hk I (by simp) o e,st.2.at fun o e=>hk d (by simp) o e⟩
 item:=fun i s Q E hi st hQ=>by
  refine zsM st.1 st.2 hi fun h' v9 wm=>?_;exact hQ _ h' s.toks ⟨hi,rfl⟩ ⟨v9,st.2.at fun o e=>wm.extBut d o d7 e⟩ fun b o hb e=>wm.extBut b o (fun h=>hb (by simp[h])) e
 done:=fun s Q E st hQ=>zbH hh st.1 st.2 (yA _) fun h' he'=>hQ h' s.toks fun b o hb e=>he' b o (fun h=>hb (by simp[h])) e
 self:=fun _ _ _ _ st hQ=>wpAny_pyIter_keyiter st.1 hQ
theorem zno(hh:A.handled=none)(sy:(d==AW)=false)(hm:gP s.heap d es ep)(hn:es.size<=1000)
  (hQ:∀ s' (acc:Array gV),(∀ b o,s.heap.get? b=some o->s'.heap.get? b=some o)->s'.gens=s.gens->s'.drawn=s.drawn->s'.os=s.os->s.heap.objs.size<=s'.heap.objs.size->ItemsOf (fun i v=>∃ h:i<es.size,v=es[i].key) acc es.size->Q acc.toList s') :
  yj (ym prog w) A (collect (.ref d)) Q E s:=by
 obtain⟨od,oz,hxd,e6⟩:=hm.ex;have dl:=yE oz;unfold collect;refine yg (wpAny_runValue (codeAny_builtin F.entry_proto_collect ?_));rw[Gs F.plain_proto_collect _];show yj _ A.in1 (newList [] >>= fun l=>again (.builtin "list.__iadd__" ⟨[l,.ref d],[]⟩)) _ _ s;refine yg (Al ?_);refine yt ⟨plainId_quiet F.plain_list_iadd _,codeAny_builtin F.entry_list_iadd ?_⟩;rw[Gs F.plain_list_iadd _];have wd:gP (s.heap.push { cls:=.type "list",data:=.seq ([]:List gV).toArray }) d es ep:=hm.at fun o e=>yM _ e;have hSd:s.heap.objs.size≠d:=AY dl;have h1:Gu (.ref s.heap.objs.size) (.ref d)=false:=by simp[Gu,hSd]
 show yj _ A.in1 (Gv (.ref s.heap.objs.size) (.ref d) (.ref s.heap.objs.size)) _ _ _;unfold Gv;refine yg (C7 (s:={ s with heap:=s.heap.push { cls:=.type "list",data:=.seq ([]:List gV).toArray } }) wd.typ ?_);rw[if_neg (by rw[h1];decide)];refine yg (zp3 (s:={ s with heap:=s.heap.push { cls:=.type "list",data:=.seq ([]:List gV).toArray } }) sy wd ?_);refine yg (zH ?_);have I2:s.heap.objs.size+1=(s.heap.push { cls:=.type "list",data:=.seq ([]:List gV).toArray }).objs.size:=(AK ..).symm;have kL:gP ((s.heap.push { cls:=.type "list",data:=.seq ([]:List gV).toArray }).push { cls:=.type "dict_keyiterator",data:=.fields #[.ref d,.int 0 0,.int es.size 0,.int ep 0] }) d es ep:=wd.at fun o e=>yM _ e;have ty2:=gP.typ (s:={ s with heap:=(s.heap.push { cls:=.type "list",data:=.seq ([]:List gV).toArray }).push { cls:=.type "dict_keyiterator",data:=.fields #[.ref d,.int 0 0,.int es.size 0,.int ep 0] } }) kL;unfold Builtin.List.listLengthHint;refine yg (DV ty2 F.slot_dict_len.lookup ?_);generalize hid:("dict.__len__":String)=id0
 wp_delta
 rw[show splitId id0=some ("dict","__len__") from by subst hid;decide +kernel];subst hid;refine yg (Fm (b:=true) ty2 (by rw[isSubtype_type];kernel_rfl) ?_);rw[if_neg (by decide)];dsimp only;rw[if_pos (by decide +kernel)];refine yg (C7 ty2 ?_);refine yt ?_;rw[if_pos (by decide +kernel)];refine yg (Bz ?_);unfold Builtin.List.listTouch;have hS0:((s.heap.push { cls:=.type "list",data:=.seq ([]:List gV).toArray }).push { cls:=.type "dict_keyiterator",data:=.fields #[.ref d,.int 0 0,.int es.size 0,.int ep 0] }).get? s.heap.objs.size=some (zV "list" #[] 0):=yM _ (y9 _ rfl);refine yg (yg (Dp hS0 rfl ?_ (zJ _) (by show 1<=yz+1;omega)));have hS1:=Ed hS0 (·.push .none);refine Dp hS1 rfl ?_ (by show 1<=yz;rw[zC];decide) (by show 0<=yz+1;omega);have hS2:=Ed hS1 (·.pop);have up:∀ b o,b≠s.heap.objs.size->((s.heap.push { cls:=.type "list",data:=.seq ([]:List gV).toArray }).push { cls:=.type "dict_keyiterator",data:=.fields #[.ref d,.int 0 0,.int es.size 0,.int ep 0] }).get? b=some o ->
   ((((s.heap.push { cls:=.type "list",data:=.seq ([]:List gV).toArray }).push { cls:=.type "dict_keyiterator",data:=.fields #[.ref d,.int 0 0,.int es.size 0,.int ep 0] }).update s.heap.objs.size (zF fun x=>x.push yW)).update s.heap.objs.size (zF fun x=>x.pop)).get? b=some o:=fun b o hb e =>
  (((Bu ..).2 b hb).trans ((Bu ..).2 b hb)).trans e
 have hI:((s.heap.push { cls:=.type "list",data:=.seq ([]:List gV).toArray }).push { cls:=.type "dict_keyiterator",data:=.fields #[.ref d,.int 0 0,.int es.size 0,.int ep 0] }).get? (s.heap.push { cls:=.type "list",data:=.seq ([]:List gV).toArray }).objs.size=some { cls:=.type "dict_keyiterator",data:=.fields #[.ref d,.int 0 0,.int es.size 0,.int ep 0] }:=y9 _ rfl;have neI:(s.heap.push { cls:=.type "list",data:=.seq ([]:List gV).toArray }).objs.size≠s.heap.objs.size:=by rw[<- I2];omega
 have old:∀ b o,s.heap.get? b=some o->((s.heap.push { cls:=.type "list",data:=.seq ([]:List gV).toArray }).push { cls:=.type "dict_keyiterator",data:=.fields #[.ref d,.int 0 0,.int es.size 0,.int ep 0] }).get? b=some o:=fun b o e=>yM _ (yM _ e);generalize ((((s.heap.push { cls:=.type "list",data:=.seq ([]:List gV).toArray }).push { cls:=.type "dict_keyiterator",data:=.fields #[.ref d,.int 0 0,.int es.size 0,.int ep 0] }).update s.heap.objs.size (zF fun x=>x.push yW)).update s.heap.objs.size (zF fun x=>x.pop))=h5 at hS2 up ⊢;have st:h5.IsKeyIter (s.heap.push { cls:=.type "list",data:=.seq ([]:List gV).toArray }).objs.size d 0 es.size ep:=⟨_,up _ _ neI hI,rfl,rfl⟩;have da:gP h5 d es ep:=kL.at fun o e=>up d o (zq hSd) e;generalize hIa:(s.heap.push { cls:=.type "list",data:=.seq ([]:List gV).toArray }).objs.size=Ia at st neI hI ⊢;have ia:Ia=s.heap.objs.size+1:=by rw[<- hIa];exact I2.symm
 have ne:d≠Ia:=by rw[ia];exact yX (E9 dl)
 have nS:s.heap.objs.size∉[Ia,d]:=fun h=>by
  rcases yH.mp h with c|c
  ·exact neI c.symm
  ·exact hSd (De.mp c)
 have W:=(zym (prog:=prog) (w:=w) (A:=A.in1) hh Ia d ne es ep).toS;refine yt ⟨plainId_quiet F.plain_extend_loop _,codeAny_extend_loopS W (by rw[zC];omega) s.heap.objs.size nS _ es.size 0 _ _ _ rfl (zJ _) ⟨st,da⟩ hS2 (ItemsOf.nil _) fun s' dP c' mv hS' v3=>?_⟩;show yj _ A (load s.heap.objs.size >>= _) _ _ s';refine yg (wpAny_load hS' ?_);refine yt (hQ s' dP (fun b o e=>?_) mv.gens mv.drawn mv.os (BK (yE hS')) v3);have lt:=yE e;have b1:b≠s.heap.objs.size:=yX lt;have b2:b≠Ia:=by rw[ia];exact yX (E9 lt)
 refine mv.heap b o (fun h=>?_) (up b o b1 (old b o e));rcases yH.mp h with c|c
 ·exact b1 c
 ·exact b2 (De.mp c)
end
end PySem
namespace L2
open PySem PySem.Spec PyProof.Rows PySem.W
variable {σ:L2.St}{s:kb}{H:Hp}{X:Cx}{pins:List (dm×yp)}
section
noncomputable def Cx.in1(X:Cx):Cx:={ X with A:=X.A.in1 }
section
theorem Cx.Ok.in1(o:X.Ok):X.in1.Ok:=⟨o.mod,o.kind,o.glob,o.blt,o.above,o.inj,o.has,o.lK,o.hd,o.frames,o.pd,o.nW,o.bs,o.jn,o.mx,o.lN,o.gx,o.jZ,o.tree,o.sk⟩
theorem Cx.Ok.qz(o:X.in1.Ok):X.Ok:=⟨o.mod,o.kind,o.glob,o.blt,o.above,o.inj,o.has,o.lK,o.hd,o.frames,o.pd,o.nW,o.bs,o.jn,o.mx,o.lN,o.gx,o.jZ,o.tree,o.sk⟩
theorem Inv.in1(I:Inv X pins σ H s):Inv X.in1 pins σ H s:=⟨I.ok.in1,I.os,I.bare,I.base,I.loc,I.cell,I.free,I.fL,I.pin,I.au,I.len⟩
theorem Inv.qz(I:Inv X.in1 pins σ H s):Inv X pins σ H s:=⟨I.ok.qz,I.os,I.bare,I.base,I.loc,I.cell,I.free,I.fL,I.pin,I.au,I.len⟩
end
end
section
theorem zja:∀ a b c:List Int,HT.lexLt b a=false->HT.lexLt c b=false->HT.lexLt c a=false
 | [],_,[],_,_=>rfl
 | [],[],_::_,_,_=>rfl
 | [],_::_,_::_,_,_=>rfl
 | _::_,[],_,h,_=>by cases h
 | _::_,_::_,[],_,h=>by cases h
 | x::xs,y::ys,z::zs,h1,h2=>by
  simp only[HT.lexLt]at h1 h2 ⊢
  by_cases c1:y=x
  ·subst c1
   rw[if_pos rfl]at h1
   by_cases c2:z=y
   ·subst c2;rw[if_pos rfl]at h2 ⊢;exact zja xs ys zs h1 h2
   ·rw[if_neg c2]at h2 ⊢;exact h2
  ·rw[if_neg c1]at h1
   have h1':=of_decide_eq_false h1
   by_cases c2:z=y
   ·subst c2;rw[if_neg c1];exact h1
   ·rw[if_neg c2]at h2
    have h2':=of_decide_eq_false h2;rw[if_neg (by omega)];exact decide_eq_false (by omega)
theorem zi8:∀ a b:List Int,HT.lexLt a b=true->HT.lexLt b a=false
 | [],[],h=>by cases h
 | [],_::_,_=>rfl
 | _::_,[],h=>by cases h
 | x::xs,y::ys,h=>by
  simp only[HT.lexLt]at h ⊢
  by_cases c:x=y
  ·subst c;rw[if_pos rfl]at h ⊢;exact zi8 xs ys h
  ·rw[if_neg c]at h
   have h':=of_decide_eq_true h;rw[if_neg (by omega)];exact decide_eq_false (by omega)
abbrev WK:=Int×List Int
def f9(p q:WK):Bool:=if p.1=q.1 then HT.lexLt p.2 q.2 else decide (p.1<q.1)
theorem zjo(a b c:WK)(h1:f9 b a=false)(h2:f9 c b=false):f9 c a=false:=by
 unfold f9 at h1 h2 ⊢
 by_cases c1:b.1=a.1
 ·rw[if_pos c1]at h1
  by_cases c2:c.1=b.1
  ·rw[if_pos c2]at h2;rw[if_pos (c2.trans c1)];exact zja _ _ _ h1 h2
  ·rw[if_neg c2]at h2;rw[if_neg (by rw[<- c1];exact c2),<- c1];exact h2
 ·rw[if_neg c1]at h1
  have h1':=of_decide_eq_false h1
  by_cases c2:c.1=b.1
  ·rw[c2,if_neg c1];exact h1
  ·rw[if_neg c2]at h2
   have h2':=of_decide_eq_false h2;rw[if_neg (by omega)];exact decide_eq_false (by omega)
theorem zjn(a b:WK)(h:f9 a b=true):f9 b a=false:=by
 unfold f9 at h ⊢
 by_cases c:a.1=b.1
 ·rw[if_pos c]at h;rw[if_pos c.symm];exact zi8 _ _ h
 ·rw[if_neg c]at h
  have h':=of_decide_eq_true h;rw[if_neg (by omega)];exact decide_eq_false (by omega)
def jv(kd:List WK)(i j:Nat):Bool:=f9 (kd.getD i (0,[])) (kd.getD j (0,[]))
theorem zjP(kd:List WK):Ord (jv kd):=⟨fun _ _ _ h1 h2=>zjo _ _ _ h1 h2,fun _ _ h=>zjn _ _ h⟩
end
variable {o:HO}{a f:dm}{Q:kb->Prop}{h':yo}{E:gV->kb->Prop}{t':Nat}{oa:yp}{H0:Hp}
section
section
theorem Inv.adopt(I:Inv X pins σ H s)(k:∀ b u,b≠a->s.heap.get? b=some u->h'.get? b=some u)(hf:fT X pins H a)(new:de X.prog X.w (upd H a o) h' a o) :
  Inv X pins σ (upd H a o) { s with heap:=h',toks:=t' }:=by
 obtain⟨hn,hL,hfs,h1,h2,h3⟩:=hf;have ne:∀ b u,H b=some u->b≠a:=fun b u e z=>by rw[z,hn]at e;cases e
 refine I.step (g':=s.gens) (d':=s.drawn) (ch:=[a]) (fun b hb=>?_) (fun b o _ _ hc e _=>k b o (fun z=>hc (by simp[z])) e) (fun b o _ _ hc e _=>⟨o.slots,k b o (fun z=>hc (by simp[z])) e⟩) (fun b o hc _ n=>?_)
  (fun b o hc e=>⟨o,k b o (fun z=>hc (by simp[z])) e⟩) (fun b xs e=>?_) (fun b o u e=>?_) (fun b ps e=>⟨#[],?_⟩) (fun m hm=>?_) (fun b u e=>?_) I.bare
 ·have e:b=a:=by simpa using hb
  subst e;exact⟨h1,hL,h2,h3⟩
 ·rw[aN fun z=>hc (by simp[z])];exact n
 ·rw[aN (ne b _ e)];exact e
 ·rw[aN (ne b _ e)];exact e
 ·rw[aN (ne b _ e),e];simp
 ·obtain⟨o,es,ep,ho,r⟩:=hm
  exact⟨o,es,ep,k _ o (zq hL) ho,r⟩
 ·by_cases c:b=a
  ·subst c
   rw[ck]at e;cases e;exact new
  ·rw[aN c]at e
   refine(I.au b u e).jh (fun d v hc q=>k d v ?_ q) (fun b' q=>by rw[aN (ne b' _ q)];exact q) fun b' xs q=>q.upd (fun _ r=>ne b' _ r) fun _ _ r=>ne b' _ r;rcases hc with z|z
   ·rw[z];exact ne b u e
   ·exact ne d _ z
variable {kS:dm}
theorem zln:∀{xs:List V} {us:List gV} (p:List Nat),Vals xs us->(∀ i∈p,i<us.length)->Vals (p.map fun i=>xs.getD i .non) (p.map fun i=>us.getD i yW)
 | xs,us,[],_,_=>.nil
 | xs,us,i::p,r,h=>by
  refine .cons ?_ (zln p r fun j hj=>h j (yY _ hj));have hi:=h i (zm ..);have hl:=r.length;obtain⟨w,ew,iO⟩:=r.get (i:=i) (x:=xs[i]) (yO (by omega));have e1:xs.getD i .non=xs[i]:=by simp[Aj,yO (show i<xs.length by omega)]
  have e2:us.getD i yW=w:=by rw[Aj,ew];rfl
  show RelV (xs.getD i .non) (us.getD i yW);rw[e1,e2];exact iO
theorem zgJ(n:Nat):Arr n (A8 (z9 n)):=⟨by simp,Gr _⟩
end
end
variable {Q:List gV->kb->Prop}{A:yy}
section
def u3(H:Hp):List (List Key×V)->List V->Prop
 | [],xs=>xs=[]
 | kv::r,xs=>∃ b t,xs=.ref b::t/\dB H b (kv.1.map kV)/\u3 H r t
def q8(H:Hp)(d:dm)(xs:List V):Prop:=∃ ag,Rd H d (.dT ag)/\u3 H ag xs
section
variable {d:dm}
theorem zi5:∀{ag:List (List Key×V)} {ys:List (List Key×dm×gV)},KT H ag ys->u3 H ag (ys.map fun y=>V.ref y.2.1)
 | [],_,.nil=>rfl
 | kv::r,_,.cons h t=>⟨_,_,rfl,h.2.1,zi5 t⟩
theorem znn(hh:A.handled=none)(I:Inv X pins σ H s)(rd:uZ H d)(hn:∀ xs,q8 H d xs->xs.length<64)
  (hQ:∀ xs us s',q8 H d xs->Vals xs us->Inv X pins σ H s'->Q us s'):yj (ym X.prog X.w) A (collect (.ref d)) Q E s:=by
 have fin:∀(s':kb),(∀ b o,s.heap.get? b=some o->s'.heap.get? b=some o)->s'.gens=s.gens->s'.drawn=s.drawn->s'.os=s.os->Inv X pins σ H s':=fun s' k g dr os=>by
  obtain⟨h,g',dr',tk,os'⟩:=s';simp only at g dr os;subst g;subst dr;subst os
  exact I.kept (t':=tk) k
 obtain⟨ag,rd⟩:=rd;obtain⟨z,sy,ys,kt,o,es,ep,e',r1,r2,r3,r4⟩:=sA I.au rd;have ks:=zi5 kt;have lk:=hn _ ⟨ag,rd,ks⟩;have ly:ag.length=ys.length:=CU kt;have hsz:es.size=ys.length:=size_of_entries r3;rw[za]at lk;refine zno hh sy ⟨o,e',r1,r2⟩ (by omega) fun s' acc hk hg hd ho hs v3=>hQ _ _ s' ⟨ag,rd,ks⟩ ?_ (fin s' hk hg hd ho);have la:acc.toList.length=es.size:=by rw[Cj];exact v3.1
 refine zll (by rw[za];omega) fun j x v ex ev=>?_;rw[Array.getElem?_toList]at ev;obtain⟨hj,rfl⟩:=v3.2 j v ev;have lj:j<ys.length:=by omega
 rw[zv,yO lj]at ex;cases ex;have:=entry_at r3 j;rw[yO lj,E6 hj]at this;simp only[AB,Ac]at this;rw[this]
 rfl
end
end
end L2
namespace FL
open PySem L2 PySem.Spec
open PyProof.Rows hiding St
variable [Cs]
variable {p:Array Nat}{ks:List D}{l:List (WK×D)}{ws:List WK}
theorem zjp(p q:WK):wB p q=L2.f9 p q:=by
 unfold wB L2.f9;rw[zdu]
theorem zi9:∀ a b:List Int,HT.lexLt a b=false->HT.lexLt b a=false->a=b
 | [],[],_,_=>rfl
 | [],_::_,h,_=>by cases h
 | _::_,[],_,h=>by cases h
 | x::xs,y::ys,h1,h2=>by
  simp only[HT.lexLt]at h1 h2
  by_cases c:x=y
  ·subst c
   rw[if_pos rfl]at h1 h2;rw[zi9 xs ys h1 h2]
  ·rw[if_neg c]at h1
   rw[if_neg (zq c)]at h2;have a1:=of_decide_eq_false h1;have a2:=of_decide_eq_false h2
   omega
theorem zsj(p q:WK)(h1:L2.f9 p q=false)(h2:L2.f9 q p=false):p=q:=by
 unfold L2.f9 at h1 h2
 by_cases c:p.1=q.1
 ·rw[if_pos c]at h1
  rw[if_pos c.symm]at h2;exact DE c (zi9 _ _ h1 h2)
 ·rw[if_neg c]at h1
  rw[if_neg (zq c)]at h2;have a1:=of_decide_eq_false h1;have a2:=of_decide_eq_false h2
  omega
def u5(x y:WK×D):Prop:=L2.f9 y.1 x.1=false
theorem zpP{x z:WK×D}(h:z∈lU x l):z=x\/z∈l:=by
 have:=(zcR x l).mem_iff.mp h;simpa using this
theorem ziN(x:WK×D):∀ l:List (WK×D),l.Pairwise u5->(lU x l).Pairwise u5
 | [],_=>by simp[lU]
 | y::r,h=>by
  unfold lU;rw[Dq]at h
  split
  ·rename_i c
   rw[zjp]at c;rw[Dq];refine⟨fun z hz=>?_,ziN x r h.2⟩;rcases zpP hz with rfl|hz
   ·exact zjn _ _ c
   ·exact h.1 z hz
  ·rename_i c
   rw[zjp]at c;have c':L2.f9 y.1 x.1=false:=by simpa using c
   rw[Dq];refine⟨fun z hz=>?_,Dq.mpr h⟩;rcases yH.mp hz with rfl|hz
   ·exact c'
   ·exact zjo _ _ _ c' (h.1 z hz)
theorem ziR:∀ l:List (WK×D),(lV l).Pairwise u5
 | []=>.nil
 | x::r=>ziN x _ (ziR r)
theorem zj2{α:Type}{le:α->α->Prop}:∀{l1 l2:List α},l1.Perm l2->l1.Pairwise le->l2.Pairwise le->(∀ a∈l1,∀ b∈l1,le a b->le b a->a=b)->l1=l2
 | [],l2,h,_,_,_=>(List.nil_perm.mp h).symm
 | a::r1,[],h,_,_,_=>by have:=h.length_eq;simp at this
 | a::r1,b::r2,h,p1,p2,an=>by
  rw[Dq]at p1 p2;have e:a=b:=by
   have ha:a∈b::r2:=h.mem_iff.mp (zm ..);have hb:b∈a::r1:=h.mem_iff.mpr (zm ..);rcases yH.mp ha with e|ha'
   ·exact e
   rcases yH.mp hb with e|j3
   ·exact e.symm
   exact an a (zm ..) b (yY _ j3) (p1.1 b j3) (p2.1 a ha')
  subst e;rw[zj2 ((List.perm_cons a).mp h) p1.2 p2.2 fun x hx y hy=>an x (yY _ hx) y (yY _ hy)]
theorem zlA:∀{ws:List WK} {ks:List D} {x y:WK×D},ws.Nodup->x∈ws.zip ks->y∈ws.zip ks->x.1=y.1->x=y
 | [],ks,x,y,_,h,_,_=>by simp at h
 | _::_,[],x,y,_,h,_,_=>by simp at h
 | w::ws,k::ks,x,y,nd,h1,h2,e=>by
  rw[AZ]at nd;rw[Bg]at h1 h2;rcases yH.mp h1 with rfl|h1
  ·rcases yH.mp h2 with rfl|h2
   ·rfl
   ·exact absurd (by rw[show w=y.1 from e];exact(BV h2).1) nd.1
  ·rcases yH.mp h2 with rfl|h2
   ·exact absurd (by rw[show w=x.1 from e.symm];exact(BV h1).1) nd.1
   ·exact zlA nd.2 h1 h2 e
theorem zwy(ws:List WK)(ks:List D)(h:ws.length=ks.length):(z9 ks.length).map (fun i=>(ws.getD i (0,[]),ks.getD i CN))=ws.zip ks:=by
 apply Fo
 ·simp[h]
 ·intro i h1 h2
  have hi:i<ks.length:=by simpa using h1
  have iB:i<ws.length:=by omega
  simp[Aj,yO hi,yO iB]
theorem zw8(hl:ws.length=ks.length)(nd:ws.Nodup)(ar:Arr ks.length p)(up:Up (jv ws) p ks.length):p.toList.map (fun i=>ks.getD i CN)=(lV (ws.zip ks)).map (·.2):=by
 have hp:(p.toList.map fun i=>(ws.getD i (0,[]),ks.getD i CN)).Perm (ws.zip ks):=by
  have:=(Ec.mp ar.pm).map fun i=>(ws.getD i (0,[]),ks.getD i CN);rw[Gw,zwy ws ks hl]at this;exact this
 have e:(p.toList.map fun i=>(ws.getD i (0,[]),ks.getD i CN))=lV (ws.zip ks):=by
  refine zj2 (hp.trans (ziQ _).symm) ?_ (ziR _) fun x hx y hy h1 h2=>?_
  ·rw[Fp]
   intro i j hi hj e7;have iB:i<p.size:=by simpa using hi
   have iC:j<p.size:=by simpa using hj
   have:=up i j (BK e7) (by rw[<- ar.sz];exact iC);rw[show gp p i=p[i] by simp[gp,Ea,iB],show gp p j=p[j] by simp[gp,Ea,iC]]at this;simpa[u5,jv] using this
  ·exact zlA nd (hp.mem_iff.mp hx) (hp.mem_iff.mp hy) (zsj _ _ h2 h1)
 rw[<- e,CO]
 rfl
variable {ag:List (D×D)}{H:Hp}{X:Cx}{d:dm}{xs:List V}
section
variable {K:yf}
theorem zi4:∀{ag:List (D×D)} {kk:List (List Key×V)} {xs:List V},aX K H ag kk->u3 H kk xs->ah K H (ag.map (·.1)) xs
 | [],kk,xs,h,t=>by
  simp only[aX]at h;subst h;have:xs=[]:=t;subst this;simp[ah]
 | (k,d)::r,kk,xs,h,t=>by
  simp only[aX]at h;obtain⟨q,v,t',rfl,rfl,f,h2⟩:=h;obtain⟨b,u,rfl,tb,t2⟩:=t;simp only[zh,ah];exact⟨_,_,rfl,zo1 tb,zi4 h2 t2⟩
theorem za8(h:Fz K H (.dict ag) (.ref d))(t:q8 H d xs):ah K H (ag.map (·.1)) xs:=by
 simp only[Fz]at h;obtain⟨a,o,e,h⟩:=h;cases e;obtain⟨kk,h1,h2⟩:=h;obtain⟨kk',rd,t⟩:=t;have:kk'=kk:=by
  rcases rd with z|⟨o',z⟩
  ·rw[h1]at z;cases z
  ·rw[h1]at z;cases z;rfl
 subst this;exact zi4 h2 t
theorem zoZ(h:Fz K H (.dict ag) (.ref d)):uZ H d:=by
 simp only[Fz]at h;obtain⟨a,o,e,h⟩:=h;cases e;obtain⟨kk,h1,h2⟩:=h;exact⟨kk,.inr ⟨o,h1⟩⟩
theorem ah.pick{ds:List D}{xs:List V}(h:ah K H ds xs):∀(p:List Nat),(∀ i∈p,i<ds.length)->ah K H (p.map fun i=>ds.getD i CN) (p.map fun i=>xs.getD i .non)
 | [],_=>by simp[ah]
 | i::p,hp=>by
  simp only[zh,ah];have hi:=hp i (zm ..);obtain⟨v,ev,fv⟩:=h.get (yO hi);refine⟨_,_,rfl,?_,ah.pick h p fun j hj=>hp j (yY _ hj)⟩;rw[Aj,Aj,ev,yO hi];exact fv
end
end FL
namespace L2
open PySem PySem.Spec PyProof.Rows PySem.W
end L2
namespace FL
open PySem L2 PySem.Spec
open PyProof.Rows hiding St
variable {pos:yn}{X:Cx}
section
variable [Cs]
section
variable {K:yf}{e ke ve:yh}{f k v:EF}{p2:yn}
theorem ztq(hu:X.A.units+80<zb):aQ X (yG .In) (rD X.K zcQ):=by
 intro pins s σ H x y v u Q I rx ry h;obtain⟨dx,dy,d,tx,ty,e,q⟩:=h;cases dy with
 | list xs =>
  obtain⟨c,e⟩:=fX (show aY _ _=.ok d from e);cases e;rw[zf]at c;obtain⟨as,ra⟩:=Is.reads I _ y u (ty.is (AU c.1)) ry;obtain⟨bs,rb⟩:=Is.reads I _ x v (tx.is (AU c.2)) rx;exact SeqAt.in_list_reads ra rb (AU c.1) (AU c.2) (room_in_shaped c.2 (by omega)) ⟨.bl _,H,I,rfl,q _ H (ay.refl _) (by simp[Fz])⟩
 | tuple xs =>
  obtain⟨c,e⟩:=fX (show aY _ _=.ok d from e);cases e;rw[zf]at c;obtain⟨as,ra⟩:=Is.reads I _ y u (ty.is (AU c.1)) ry;obtain⟨bs,rb⟩:=Is.reads I _ x v (tx.is (AU c.2)) rx;exact SeqAt.in_tuple_reads ra rb (AU c.1) (AU c.2) (room_in_shaped c.2 (by omega)) ⟨.bl _,H,I,rfl,q _ H (ay.refl _) (by simp[Fz])⟩
 | _=>exact nomatch (show(R.bad:R D)=.ok d from e)
end
end
variable {o:yp}{cl:CL}{w:yv}{h:yo}{s₁:kb}{a b f:dm}{CX:iT}{cs:List dm}{P:yw}{mg:ir->Option gV}{ns:List Int}{u:HO}{cd:gV}{l:Fq}{YP:yv->yo->Prop}{d:DefRec}{q x:ir}{k:Nat}{loose:List ir}{G:List D->R D}{vs:List gV}
section
noncomputable def aC(cs:List dm)(K:yf):yf:=K.filter fun p=>!cs.contains p.1
theorem vJ(cs:List dm):∀(K:yf) (b:dm),(aC cs K).lookup b=if cs.contains b=true then none else K.lookup b
 | [],b=>by simp[aC]
 | (c,o)::K,b=>by
  have ih:=vJ cs K b;unfold aC at ih ⊢;rw[List.filter_cons]
  by_cases hc:cs.contains c=true
  ·rw[if_neg (by simp only[hc];decide),ih]
   by_cases hb:cs.contains b=true
   ·rw[if_pos hb,if_pos hb]
   ·have ne:b≠c:=fun z=>by rw[z]at hb;exact hb hc
    rw[if_neg hb,if_neg hb];simp[yN,show(b==c)=false from by simpa using ne]
  ·have gW:cs.contains c=false:=by simpa using hc
   rw[if_pos (by simp only[gW];decide)]
   by_cases e:b=c
   ·subst e
    rw[if_neg hc];simp[yN]
   ·have e':(b==c)=false:=by simpa using e
    rw[yN,yN,e'];exact ih
theorem zhU{K:yf}(x:K.In h):(aC cs K).In h:=fun a o e=>by
 rw[vJ]at e
 split at e
 ·cases e
 ·exact x a o e
def cI(cs:List dm)(K:yf):Prop:=∀ c∈cs,∃ o its n,K.lookup c=some o/\o.data=Data.seq its n
theorem gv{K:yf}(s:cI cs K)(e:K.lookup b=some o)(n:∀ its m,o.data≠.seq its m):(aC cs K).lookup b=some o:=by
 rw[vJ,if_neg,e];intro c;obtain⟨o',its,m,e',d⟩:=s b (by simpa using c);rw[e]at e';cases e';exact n _ _ d
theorem znm{K:yf}(s:cI cs K)(h:Bf K cd q=true):Bf (aC cs K) cd q=true:=by
 cases cd with
 | ref c =>
  unfold Bf at h ⊢;cases e:K.lookup c with
  | none=>simp only[e]at h;cases h
  | some o =>
   obtain⟨oc,od,data,sl⟩:=o;cases data with
   | fields vs =>
    simp only[e]at h;simp only[gv s e fun _ _ z=>nomatch z];exact h
   | _=>simp only[e]at h;cases h
 | _=>cases h
theorem c9.cut{K:yf}(s:cI cs K){st:yx}{fd:yL}(F:c9 K x q st f fd):c9 (aC cs K) x q st f fd:=by
 obtain⟨⟨oc,od,kV,doc,pm,an,aq,ct,ja,e,l,c⟩,kp⟩:=F;have l':=gv s l fun _ _ z=>nomatch z;refine⟨⟨oc,od,kV,doc,pm,an,aq,ct,ja,e,l',znm s c⟩,?_⟩;unfold AJ;simp only[l']
theorem aE.cut{cs:List dm}{K:yf}{mg:ir->Option gV}(s:cI cs K){x:ir}{st:yx}(h:aE K mg x st):aE (aC cs K) mg x st:=by
 obtain⟨f,fd,hm,F⟩:=h;exact⟨f,fd,hm,c9.cut s F⟩
abbrev CL:=List (dm×yp×List V)
noncomputable def fZ(cl:CL):Hp:=fun b=>(cl.lookup b).map fun p=>.frz p.1 (.tup p.2)
theorem zpp(cl:CL)(a:dm)(u:HO)(h:fZ cl a=some u):∃ o xs,u=.frz o (.tup xs):=by
 unfold fZ at h;rw[AA]at h;obtain⟨p,_,rfl⟩:=h;exact⟨_,_,rfl⟩
@[reducible] def pV(cl:CL)(ob:String->Option (dm×List ir):=fun _=>none)(xb:String->Option (dm×List ir):=fun _=>none):Cs:={ C:=fZ cl,st:=zpp cl,O:=ob,X:=xb }
def cG(cl:CL)(K:yf):Prop:=∀ p∈cl,K.lookup p.1=some p.2.1/\p.2.1.cls=.type "tuple"/\p.2.2.length<=yz/\∃(its:Array gV) (n:Nat),p.2.1.data=.seq its n/\Vals p.2.2 its.toList
theorem cG.nil{K:yf}:cG [] K:=fun p hp=>by simp at hp
theorem cG.cons{K:yf}{a:dm}{od:Option dm}{its:Array gV}{n:Nat}{sl:Array (Option gV)}{xs:List V}{cl:CL}(e:K.lookup a=some ⟨.type "tuple",od,.seq its n,sl⟩)(hv:Vals xs its.toList)(hl:xs.length<=1000)(r:cG cl K):cG ((a,⟨.type "tuple",od,.seq its n,sl⟩,xs)::cl) K:=fun p hp=>by
 rcases yH.mp hp with rfl|hp
 ·exact⟨e,rfl,BK (zw7 hl),its,n,rfl,hv⟩
 ·exact r p hp
theorem cG.aK{K:yf}(h:cG cl K):cI (cl.map (·.1)) K:=fun c hc=>by
 obtain⟨p,hp,rfl⟩:=As.mp hc;obtain⟨e,_,_,its,n,d,_⟩:=h p hp;exact⟨_,its,n,e,d⟩
theorem mem_of_lookup{α:Type}:∀{l:List (dm×α)} {a:dm} {x:α},l.lookup a=some x->(a,x)∈l
 | [],a,x,h=>by simp at h
 | (b,y)::r,a,x,h=>by
  rw[yN]at h;cases e:a==b with
  | true =>
   rw[e]at h;cases h;have:=eq_of_beq e;subst this;exact zm ..
  | false =>
   rw[e]at h;exact yY _ (mem_of_lookup h)
theorem qj{K:yf}(h:cG cl K)(e:fZ cl b=some u):(aC (cl.map (·.1)) K).lookup b=none/\∃(o:yp) (xs:List V) (its:Array gV) (n:Nat),u=.frz o (.tup xs)/\K.lookup b=some o/\o.cls=.type "tuple"/\o.data=.seq its n/\xs.length<=yz/\Vals xs its.toList:=by
 unfold fZ at e;rw[AA]at e;obtain⟨⟨o,xs⟩,el,rfl⟩:=e;have m:=mem_of_lookup el;obtain⟨h1,h2,h3,its,n,h4,h5⟩:=h _ m;refine⟨?_,o,xs,its,n,rfl,h1,h2,h4,h3,h5⟩;rw[vJ,if_pos];have:b∈cl.map (·.1):=As.mpr ⟨_,m,rfl⟩;simpa using this
theorem zr0{K:yf}{mb:ir->Option gV}{fa:dm}{fd:yL}{sp:Sp}
  (KX:K.In s₁.heap)(hC:cG cl K)(qo:s₁.heap.Ns yB mg)(hb:s₁.heap.Ns Dt mb)(sX:∀ x:ir,x ≠ "__name__"->mb x=zj x) (zpD:s₁.heap.NoLimit) (wo:s₁.heap.NoSeer) (tH:P.given.tree=none) (hg:s₁.gens=#[])
  (ha:s₁.heap.get? a=some { cls:=.type "list",data:=.seq vs.toArray }) (hi:An vs ns) (hl:ns.length<=yz) (hr:aM k BZ)
  (F:∀ base:yo,(aC (cl.map (·.1)) K).In base->base.Ns yB mg->b6 P w (aC (cl.map (·.1)) K) mg base CX k fa fd [x] sp) (zpo:∀(s:kb) (u:gV),Ct s fd ⟨[u],[]⟩ [(x,u)])
  (qp:∀ H:Hp,(∀ b xs,H b≠some (.lst xs))->(∀ b u,fZ cl b=some u->H b=some u)->bq (aC (cl.map (·.1)) K) H a (ns.map V.int)->sp [.ref a] H (fun v _=>v=.bl true) fun _ _ _=>False)
  (hCX:∀ H e s',CX [] H s₁ (fun _ _ _=>False) e s'->False) :
  Aw (ym P w) BZ (.call (.ref fa) ⟨[.ref a],[]⟩) (fun r s'=>r=.ok (.ret (.bool true))/\OldK s₁.heap s'.heap/\s'.os=s₁.os/\Bb s'.gens) s₁:=by
 have rv:=zlm hi;have zr4:=hi.length;have core:∀ H:Hp,(∀ b u,H b=some u->∃ o v,u=.frz o v/\o.cls≠.type "module"/\∀ es ep,o.data≠.dict es ep)->(∀ b xs,H b≠some (.lst xs))->(∀ b u,fZ cl b=some u->H b=some u)->bq (aC (cl.map (·.1)) K) H a (ns.map V.int)->cB P w H s₁.heap->(∀ b,H b≠none->(aC (cl.map (·.1)) K).lookup b=none) ->
   Aw (ym P w) BZ (.call (.ref fa) ⟨[.ref a],[]⟩) (fun r s'=>r=.ok (.ret (.bool true))/\OldK s₁.heap s'.heap/\s'.os=s₁.os/\Bb s'.gens) s₁:=by
  intro H hO hL gX hS au hK;have zaF:∀{b:dm} {o:yp},s₁.heap.get? b=some o->H b=none->(kJ s₁.heap H).get? b=some o:=fun e n=>zpy e n;have uf:∀{b:dm} {o:yp} {es:Array A7} {ep:Nat},s₁.heap.get? b=some o->o.data=.dict es ep->H b=none:=fun{b o es ep} e d=>by
   cases q:H b with
   | none=>rfl
   | some u =>
    obtain⟨o',v,rfl,_,nd⟩:=hO b u q;obtain⟨e',_⟩:=au b _ q;rw[e]at e';cases e';exact absurd d (nd es ep)
  have noM:∀{b:dm} {o:yp},s₁.heap.get? b=some o->o.cls=.type "module"->H b=none:=fun{b o} e d=>by
   cases q:H b with
   | none=>rfl
   | some u =>
    obtain⟨o',v,rfl,nd,_⟩:=hO b u q;obtain⟨e',_⟩:=au b _ q;rw[e]at e';cases e';exact absurd d nd
  have my:∀{b:dm} {m:ir->Option gV},s₁.heap.Ns b m->(kJ s₁.heap H).Ns b m:=fun{b m} ⟨o,es,ep,e,d,r⟩=>⟨o,es,ep,zaF e (uf e d),d,r⟩;have hKb:(aC (cl.map (·.1)) K).In (kJ s₁.heap H):=fun b o e=>zaF (zhU KX b o e) (by
   cases q:H b with
   | none=>rfl
   | some u=>rw[hK b (by rw[q];simp)]at e;cases e)
  have hM:Mod (aC (cl.map (·.1)) K) mg (kJ s₁.heap H):=⟨hKb,my qo,⟨mb,my hb,sX⟩,let⟨mc,h1,h2⟩:=zpD;⟨mc,my h1,h2⟩,(let⟨mc,h1,h2⟩:=wo.statics;⟨mc,my h1,h2⟩),(let⟨mc,h1,h2⟩:=wo.mods;⟨mc,my h1,h2⟩),(let⟨mc,h1,h2⟩:=wo.imp;⟨mc,my h1,h2⟩),(let⟨mg,bm,ob,h1,h2,h3,h4,h5⟩:=wo.main;⟨mg,bm,ob,my h1,h2,zaF h3 (noM h3 h4),h4,h5⟩)⟩;have e0:nB P w (aC (cl.map (·.1)) K) mg (kJ s₁.heap H) BZ [] s₁ H:=⟨rfl,hM,fun b o e=>ztg e,C3 (zpz _ _),trivial,fun b hb=>absurd (show b∈([]:List dm) from hb) (by simp),au,.of_eq hg,tH⟩;refine C5 ((F _ hKb (my qo)).run BZ [] s₁ H ⟨[.ref a],[]⟩ [.ref a] [.ref a] _ _ hr e0 (zpo s₁ (.ref a)) (.cons rfl .nil) (qp H hL gX hS)) fun r s' h=>?_;cases r with
  | error e=>exact(hCX H e s' h).elim
  | ok fl =>
   cases fl with
   | next=>exact zP h
   | brk=>exact zP h
   | cont=>exact zP h
   | ret u =>
    obtain⟨v,H',os,bare,un,zpI,r',q⟩:=h;have q':v=.bl true:=q;subst q';obtain rfl:u=AV true:=r';refine⟨rfl,OldK.of_keep fun b o e=>?_,os,bare⟩;cases q:H b with
    | none=>exact un.keep b o e q (by intro z;exact absurd (show b∈([]:List dm) from z) (by simp)) (by simp)
    | some u =>
     obtain⟨ob,v,rfl,_,_⟩:=hO b u q;have z2:=un.gw b ob _ q;obtain⟨e1,_⟩:=au b _ q;obtain⟨e2,_⟩:=zpI b _ z2;rw[e]at e1;cases e1
     exact e2
 have cok:∀{H:Hp} {b:dm} {u:HO},fZ cl b=some u->de P w H s₁.heap b u:=fun{H b u} e=>by
  obtain⟨_,o,xs,its,n,rfl,h1,h2,h3,h4,h5⟩:=qj hC e;have hg:=KX b o h1;exact⟨hg,h4,its.toList,h5,o,hg,h2,n,by simpa using h3⟩
 have cfr:∀{b:dm} {u:HO},fZ cl b=some u->∃ o v,u=.frz o v/\o.cls≠.type "module"/\∀ es ep,o.data≠.dict es ep:=fun{b u} e=>by
  obtain⟨_,o,xs,its,n,rfl,h1,h2,h3,h4,h5⟩:=qj hC e;exact⟨o,_,rfl,by rw[h2];simp,fun es ep z=>by rw[h3]at z;cases z⟩
 have zhP:∀{b:dm} {xs:List V},fZ cl b≠some (.lst xs):=fun{b xs} e=>by
  obtain⟨_,o,xs,its,n,z,_⟩:=qj hC e;cases z
 cases hk:(aC (cl.map (·.1)) K).lookup a with
 | some o =>
  have e:=zhU KX a o hk;rw[ha]at e;cases e;exact core (fZ cl) (fun b u e=>cfr e) (fun b xs e=>zhP e) (fun _ _ e=>e) (.inr ⟨_,vs.toArray,_,hk,rfl,rfl,rfl,by rw[yU,zr4];exact hl,by simpa using rv⟩) (fun b u z=>cok z) fun b hb=>by
   cases q:fZ cl b with
   | none=>exact absurd q hb
   | some u=>exact(qj hC q).1
 | none =>
  have na:∀ u,fZ cl a≠some u:=fun u z=>by
   obtain⟨_,o,xs,its,n,rfl,h1,h2,h3,h4,h5⟩:=qj hC z;have:=KX a o h1;rw[ha]at this;cases this;simp at h2
  refine core (fun b=>if b=a then some (.frz { cls:=.type "list",data:=.seq vs.toArray } (.lst (ns.map V.int))) else fZ cl b) (fun b u e=>?_) (fun b xs e=>?_) (fun b u e=>?_) (.inl (.inr ⟨{ cls:=.type "list",data:=.seq vs.toArray },if_pos rfl⟩)) (fun b u z=>?_) fun b hb=>?_
  ·split at e
   ·cases e;exact⟨_,_,rfl,by simp,fun es ep z=>nomatch z⟩
   ·exact cfr e
  ·split at e
   ·cases e
   ·exact zhP e
  ·have:b≠a:=fun z=>by subst z;exact na u e
   simp only[if_neg this];exact e
  ·simp only at z
   split at z
   ·rename_i c
    cases z;subst c;exact⟨ha,by rw[za];exact hl,vs,_,rv,ha⟩
   ·exact cok z
  ·by_cases c:b=a
   ·subst c;exact hk
   ·simp only[if_neg c]at hb
    cases q:fZ cl b with
    | none=>exact absurd q hb
    | some u=>exact(qj hC q).1
theorem zyi{q:yw}{XP:(ir->Option gV)->yo->Prop}{K:Params->yf}
  (zch:∀ ns:List Int,ns.length<=63->G [.list (ns.map zi)]=.ok (.bool true))(hn:l.most=some 63)(sY:d.params.defaults=[])(hi:importsNone q=true)(tH:l.prog.given.tree=none)(hr:aM k BZ)
  (hY:∀(w:yv) (h:yo),YP w h->(K w.params).In h)
  (F:∀(w:yv) (mg:ir->Option gV) (fa:dm) (h:yo),(K w.params).In h->h.Ns yB mg->mg d.name=some (.ref fa) ->
   ∃(cl:CL) (ob xb:String->Option (dm×List ir)) (fd:yL),cG cl (K w.params)/\(∀(s:kb) (u:gV),Ct s fd ⟨[u],[]⟩ [(x,u)]) /\
    ∀ base:yo,(aC (cl.map (·.1)) (K w.params)).In base->base.Ns yB mg->b6 l.prog w (aC (cl.map (·.1)) (K w.params)) mg base (aZ l.prog w) k fa fd [x] (@iP (pV cl ob xb) (aC (cl.map (·.1)) (K w.params)) 1 false G)) :
  PySem.W.WalkO q loose XP YP l.row.toRowW d [] (fun f vs=>EX f vs):=by
 refine Att.zmx hn sY fun w s₀ s₁ mg mb fa o pm cd doc a vs ns GG Y ho hd gy hmg zcL hints hlen hg=>?_;have KX:=hY w _ Y;obtain⟨cl,ob,xb,fd,hC,hb,hF⟩:=F w mg fa _ KX GG.T.g hmg;refine zr0 KX hC GG.T.g GG.T.b GG.T.builtins GG.T.nolimit (GG.T.seer hi) tH hg zcL hints (zA hlen (by decide)) hr hF hb (fun H hO gX hS=>@zr1 (pV cl ob xb) _ G H a ns (zch ns hlen) hO gX hS) fun H e s' ⟨_,_,_,_,_,_,_,_,_,_,_,_,_,_,_,z⟩=>z
variable [Cs]
theorem mF{K:yf}{ds:List D}{vs:List V}(hg:Gl X x)(hm:X.mg x=some (.ref a))(hc:∃ o,Cs.C a=some (.frz o (.tup vs)))(hf:∀ H,ah K H ds vs)(hd:(x==("__debug__":ir))=false:=by decide) :
  PV K X (.Name x pos) (eC (.tuple ds)):=.mk fun _=>(cP hg hm (v:=.ref a) rfl hd).weak fun σ H Q=>by
 rintro⟨ρ,rel,g⟩;obtain⟨o,hc⟩:=hc;refine g.now rel (.ref a) ?_;simp only[Fz];exact⟨a,vs,rfl,.inr ⟨o,rel.cst _ _ hc⟩,hf H⟩
end
variable {oc u:gV}{ja:Array (Option gV)}{A:yy}{ob:String->Option (dm×List ir)}{xs:List V}
section
theorem mI(hr:aM k A):A.units+1<zb:=by have:=hr.un;omega
theorem zyb(hr:aM k A):A.units+80<zb:=by have:=hr.un;omega
theorem zwE{x y:V}(h1:L2.RelV x u)(h2:L2.RelV y u):x=y:=by
 cases x <;> cases y <;> simp only[L2.RelV]at h1 h2 <;> first
  | (subst h1;cases h2;rfl;done)
  | (subst h1;obtain⟨t',h2⟩:=h2;cases h2;done)
  | (obtain⟨t,rfl⟩:=h1;obtain⟨t',h2⟩:=h2;cases h2;rfl;done)
  | (obtain⟨t,rfl⟩:=h1;obtain⟨t',h2⟩:=h2;cases h2;done)
  | (subst h1;cases h2;done)
  | (obtain⟨t,rfl⟩:=h1;cases h2;done)
theorem zlo:∀{xs ys:List V} {us:List gV},Vals xs us->Vals ys us->xs=ys
 | _,_,_,.nil,.nil=>rfl
 | _,_,_,.cons r1 t1,.cons r2 t2=>by rw[zwE r1 r2,zlo t1 t2]
theorem lookup_mem{α:Type}:∀{l:List (dm×α)} {a:dm} {x:α},(a,x)∈l->∃ y,l.lookup a=some y
 | [],a,x,h=>by simp at h
 | (b,y)::r,a,x,h=>by
  rw[yN];cases e:a==b with
  | true=>exact⟨y,rfl⟩
  | false =>
   rcases yH.mp h with z|z
   ·cases z;simp at e
   ·exact lookup_mem z
theorem fN{K:yf}(h:cG cl K)(m:(a,o,xs)∈cl):∃ o',(pV cl ob).C a=some (.frz o' (.tup xs)):=by
 obtain⟨⟨o2,ys⟩,el⟩:=lookup_mem m;obtain⟨h1,_,_,its,n,h2,h3⟩:=h _ m;obtain⟨g1,_,_,g9,n',g2,g3⟩:=h _ (mem_of_lookup el);simp only at h1 h2 h3 g1 g2 g3;rw[h1]at g1;cases g1;rw[h2]at g2;cases g2;refine⟨o,?_⟩;show fZ cl a=_;unfold fZ;rw[el,zlo h3 g3]
 rfl
theorem zpn{K:yf}{st:yx}{od an:Option dm}{kV doc pm aq ct:gV}(X:K.In h)(G:h.Ns yB mg)(q:yF K yB x=some (some (.ref f)))
  (l:K.lookup f=some ⟨oc,od,.func (zD x x (eY st) (bW st) (aH st) .none kV doc pm an aq ct),ja⟩)(c:Bf K aq x=true)(k:AJ K (.ref f)=true):aE K mg x st:=⟨f,_,yV X G q,vV (st:=st) l c k⟩
theorem _root_.L2.aE.cut{cs:List dm}{K:yf}{mg:ir->Option gV}{x:ir}{st:yx}(h:aE K mg x st)(s:cI cs K):aE (aC cs K) mg x st:=FL.aE.cut s h
end
end FL
namespace FL
open PySem
def enD:List D->R (List D)
 | [.list l]=>.ok (jo 0 l)
 | _=>.bad
def tL(a:AF):IF:=fun ρ=>(a ρ).bind fun x=>(enD x.1).bind fun l=>.ok (l,x.2)
def pW(k:Nat)(ix:List Nat)(g:GF)(t:TF)(kf vf:EF):List D->En->D->R (D×En)
 | [],ρ,acc=>.ok (acc,ρ)
 | x::xs,ρ,acc=>(g x (dg k ix ρ)).bind fun β=>(t β).bind fun c =>
   if c.1=true then(kf c.2).bind fun y=>(vf y.2).bind fun z=>(sv acc y.1 z.1).bind fun d=>pW k ix g t kf vf xs (back ρ ix (z.2.drop k)) d
   else pW k ix g t kf vf xs (back ρ ix (c.2.drop k)) acc
end FL
namespace L2
open PySem PySem.Spec PyProof.Rows
variable {σ:St}{a:dm}{Q:Unit->kb->Prop}{A:yy}{E:gV->kb->Prop}{s:kb}{H H':Hp}{X:Cx}{pins:List (dm×yp)}
section
variable {y v:V}{u r:gV}
theorem znM(hu:A.units+1<zb)(I:Inv X pins σ H s)(g:zab H a y v H')(ry:RelV y u)(rv:RelV v r)(h:∀ s',Inv X pins σ H' s'->Q () s') :
  yj (ym X.prog X.w) A (dictSet a u r) Q E s:=by
 obtain⟨ag,k,b,e,ey,eb,l,eH⟩:=g;subst ey eH;cases (show u=yS b from ry);obtain⟨z,hd,xs,rel,dd⟩:=zia I.au e;have hz:xs.length<=yz:=by rw[<- CU rel];exact z
 have hl:(putK ag k v).length<=yz:=by have:=zi7 ag k v;omega
 refine wpAny_dictSet_heap (hsz:=hz) (show A.units<zb from Nat.lt_of_succ_lt hu) (lX I.au eb) dd fun h' dd' hs=>h _ ?_;obtain⟨q,es,ep,hq,h2,h3,h4,_,h5⟩:=dd';refine zh2 I (by rw[e];exact Bq) hs ⟨q,hq⟩ ⟨hl,hd,_,(rel.put k eb rv).keeps fun c ys ec=>?_,q,es,ep,hq,h2,h3,h4,h5⟩;exact ec.upd (fun _ z=>wK z e (fun z=>nomatch z)) fun _ _ z=>wK z e (fun z=>nomatch z)
theorem zob(hu:A.units+1<zb)(I:Inv X pins σ H s)(g:DP H a y v H')(ry:RelV y u)(rv:RelV v r)(h:∀ s',Inv X pins σ H' s'->Q () s') :
  yj (ym X.prog X.w) A (dictSet a u r) Q E s:=by
 exact znM hu I g ry rv h
end
noncomputable def zbG(kx vx:yh):Em:=fun acc env k=>do
 let _ <- (do
  let kv <- yu kx env
  let vv <- Ak [kv] (yu vx env)
  match acc with
  | .ref d=>do
   AG { kx.pos with endLine:=vx.pos.endLine,endCol:=vx.pos.endCol }
   Ak [kv,vv] (dictSet d kv vv)
  | _=>unsupported "internal:dictcomp")
 k
noncomputable def zfx(tk tv:TE):TU:=fun l σ H Q=>tk σ H fun y H1=>tv σ H1 fun v H2=>∃ H3,DP H2 l y v H3/\Q H3
abbrev zk2(k:Nat)(ix:List Nat)(wi:TI)(g:TG)(tc:TT)(tu:TU):TE:=pf (.dT []) k ix wi g tc tu
section
theorem zuZ{kx vx:yh}{tk tv:TE}(hu:X.A.units+1<zb)(hx:X.xe=fun _ _=>False)(hk:PE X kx tk)(hv:PE X vx tv):PU X (zbG kx vx) (zfx tk tv):=by
 intro pins s σ H l Q k P E I h hq;unfold zbG;refine yg (yg (zo (hk pins s σ H _ I h) (fun kv s1 ⟨y,H1,I1,r1,h1⟩=>?_) fun _ _ f=>by rw[hx]at f;exact f.elim));refine yg (zH (zo (hv pins s1 σ H1 _ I1 h1) (fun vv s2 ⟨v,H2,I2,r2,H3,g,q⟩=>?_) fun _ _ f=>by rw[hx]at f;exact f.elim));refine yg (Bo (zH (zob hu I2 g r1 r2 fun s3 I3=>?_)));exact hq s3 H3 I3 q
theorem kdD:Kd X newDict { cls:=.type "dict",data:=.dict #[] } (.dT []) :=
 ⟨fun q=>Al q (by show 0<=yz+1;exact zJ _),fun{_ _ _ s} I=>I.laid (t':=s.toks) (fun b u e=>yM _ e) (yA _) (zh9 s.heap I.big)⟩
end
end L2
namespace FL
open PySem L2 PySem.Spec
open PyProof.Rows hiding St
theorem zig:∀(i:Nat) (l:List D),(jo i l).length=l.length
 | _,[]=>rfl
 | i,d::r=>by rw[jo,yK,yK,zig]
theorem zif:∀{i:Nat} {l:List D} {j:Nat} {x:D},(jo i l)[j]?=some x->∃ d,l[j]?=some d/\x=.tuple [.int ((i+j:Nat):Int),d]
 | _,[],_,_,h=>by simp[jo]at h
 | i,d::r,0,x,h=>by
  simp only[jo,zz0,Ac]at h;exact⟨d,rfl,h.symm⟩
 | i,d::r,j+1,x,h=>by
  simp only[jo,zz1]at h;obtain⟨d',h1,h2⟩:=zif h;refine⟨d',by simpa using h1,?_⟩;rw[h2,Nat.add_assoc,EW 1 j]
theorem zfE:∀{l m:List D} {j:Nat} {x:D},(fS l m)[j]?=some x->∃ a b,l[j]?=some a/\m[j]?=some b/\x=.tuple [a,b]
 | [],_,_,_,h=>by simp[fS]at h
 | _::_,[],_,_,h=>by simp[fS]at h
 | a::r,b::s,0,x,h=>by
  simp only[fS,zz0,Ac]at h;exact⟨a,b,rfl,rfl,h.symm⟩
 | a::r,b::s,j+1,x,h=>by
  simp only[fS,zz1]at h;obtain⟨a',b',h1,h2,h3⟩:=zfE h;exact⟨a',b',by simpa using h1,by simpa using h2,h3⟩
theorem zfF:∀(l m:List D),(fS l m).length=min l.length m.length
 | [],_=>by simp[fS]
 | _::_,[]=>by simp[fS]
 | a::r,b::s=>by simp only[fS,yK,zfF r s];omega
variable {fa:AF}{pos:yn}{X:Cx}{a t:dm}{es:List yh}{k:Nat}{H:Hp}{vs:List V}{items:List D}
section
variable [Cs]{K:yf}{e e':yh}{p0 p:yn}
theorem zbT{a b:D}{u v:V}(h0:H t=none)(fa:Fz K H a u)(fb:Fz K H b v):Fz K (upd H t (.tup [u,v])) (.tuple [a,b]) (.ref t):=by
 have m:ax H (upd H t (.tup [u,v])):=ax.of (ay.upd h0);simp only[Fz,ah];exact⟨t,[u,v],rfl,.inl ck,u,[v],rfl,fa.mono m,v,[],rfl,fb.mono m,rfl⟩
theorem zyg(h:jK K H a vs)(f:ah K H items vs):Walk K (Ite K a) (jo 0 items) H:=by
 refine⟨fun i d H' fz e=>?_,fun i H' fz e=>⟨vs,(fz.gm h).sq,by rw[f.len,<- zig 0];exact e⟩⟩;obtain⟨d',e',rfl⟩:=zif e;obtain⟨v,ev,fv⟩:=(f.mono fz).get e';refine⟨⟨vs,v,(fz.gm h).sq,ev⟩,fun x iV y=>?_⟩;obtain⟨t,v',rfl,ht,rfl,hv⟩:=y;have ex:=hv vs (fz.gm h).sq;rw[ev]at ex;cases ex;refine⟨ay.upd ht,?_⟩;rw[CK];exact zbT ht (cm _) fv
theorem zyk{b:dm}{ws:List V}{l m:List D}(h:jK K H a vs)(f:ah K H l vs)(h':jK K H b ws)(f':ah K H m ws):Walk K (Itz K a b) (fS l m) H:=by
 refine⟨fun i d H' fz e=>?_,fun i H' fz e=>⟨vs,ws,(fz.gm h).sq,(fz.gm h').sq,?_⟩⟩
 ·obtain⟨x,y,e1,e2,rfl⟩:=zfE e
  obtain⟨u,eu,fu⟩:=(f.mono fz).get e1;obtain⟨v,ev,fv⟩:=(f'.mono fz).get e2;refine⟨⟨vs,ws,u,v,(fz.gm h).sq,(fz.gm h').sq,eu,ev⟩,fun x iV y=>?_⟩;obtain⟨t,u',v',rfl,ht,rfl,hu,hv⟩:=y;have ex:=hu vs (fz.gm h).sq;rw[eu]at ex;cases ex;have ex:=hv ws (fz.gm h').sq;rw[ev]at ex;cases ex;exact⟨ay.upd ht,zbT ht fu fv⟩
 ·rw[zfF]at e
  rw[f.len,f'.len]
  omega
theorem zeJ(hg:Gl X "enumerate")(hm:X.mg "enumerate"=none)(ha:cY K X [e] fa)(hs:yi [e] X.env=[(false,yu e X.env)]:=by exact FL.se rfl):fV K X (.Tuple es k p0) (.Call (.Name "enumerate" p) [e] [] pos) (tL fa):=.mk fun hK=>by
 subst hK;refine(zue hg hm (ha rfl) hs).weak fun σ H R=>?_;rintro⟨ρ,rel,q⟩;refine lP rel q fun ds ρ1 vs H1 aj aB fs q1=>?_;obtain⟨items,ei,q2⟩:=q1.cE;cases ds with
 | nil=>cases ei
 | cons d r =>
  cases r with
  | cons _ _=>cases d <;> cases ei
  | nil =>
   cases d with
   | list a =>
    cases ei;simp only[ah,Fz]at fs;obtain⟨_,_,rfl,⟨l,vs,rfl,sx,f⟩,rfl⟩:=fs;exact⟨l,rfl,⟨vs,sx.sq⟩,q2.now aj _ (zyg sx f)⟩
   | _=>cases ei
end
variable {it:IF}{k2:Nat}{scope:yT}{g:GF}{dom:List Nat}{ifs:List yh}{l:dm}{t:TF}
section
variable [Cs]{K:yf}{ke ve tg iter:yh}{kf vf:EF}
def rW(kf vf:EF):D->En->R (D×En):=fun acc β=>(kf β).bind fun y=>(vf y.2).bind fun z=>(sv acc y.1 z.1).bind fun d=>.ok (d,z.2)
theorem za5{k:Nat}{ix:List Nat}:∀(xs:List D) (ρ:En) (a:D),pW k ix g t kf vf xs ρ a=fq k ix g t (rW kf vf) xs ρ a
 | [],ρ,a=>rfl
 | x::xs,ρ,a=>by
  unfold pW fq;cases g x (dg k ix ρ) with
  | ok β =>
   simp only[aA];cases t β with
   | ok c =>
    obtain⟨b,β2⟩:=c;simp only[aA];cases b with
    | true =>
     simp only[if_true,rW];cases kf β2 with
     | ok y =>
      simp only[aA];cases vf y.2 with
      | ok z =>
       simp only[aA];cases sv a y.1 z.1 with
       | ok d=>exact za5 xs _ _
       | _=>rfl
      | _=>rfl
     | _=>rfl
    | false=>exact za5 xs _ _
   | _=>rfl
  | _=>rfl
theorem zmj:Act K (fun l d H=>cC K H l d) k2 (zfx (tV K kf) (tV K vf)) (rW kf vf):=fun{β β' σ H l acc dP Q} rel _ e mu fB q=>by
 obtain⟨y,ey,e⟩:=bj (show(kf β).bind _=.ok (dP,β') from e);obtain⟨z,ez,e⟩:=bj e;obtain⟨d',kB,e⟩:=bj e;cases e;refine⟨β,rel,?_⟩;rw[ey];intro H6 xx jE v fv;refine⟨y.2,xx,?_⟩;rw[ez];intro H7 zwD st7 v2 fv2;have st:=jE.trans st7;obtain⟨ob,hl,own⟩:=mu.own;have h7l:=st.kp l _ hl fB;obtain⟨o',dp,zsH⟩:=zh7 (mu.mono (st.cD rel) (by rw[h7l,hl])) (fv.mono (st7.cD xx)) fv2 kB;have sP:ax H7 (upd H7 l o'):=fun b u e s=>by
  rw[aN fun z=>by subst z;rw[h7l]at e;cases e;exact wW own s];exact e
 exact⟨_,dp,q _ (zwD.put (fun z=>fB (st.ma.mpr z)) (fun u e=>by rw[h7l]at e;cases e;exact wW own)) st.md (fun a o d7 h n=>by rw[aN d7];exact st.kp a o h n) ((st.cD rel).trans sP) zsH⟩
theorem zsI:cC K (upd H l (.dT [])) l (.dict []):=⟨[],ck,by simp[aX]⟩
end
end FL
namespace L2
open PySem PySem.Spec PyProof.Rows
end L2
namespace FL
open PySem L2 PySem.Spec
open PyProof.Rows hiding St
end FL
namespace PySem
open Spec
end PySem
namespace FL
open PySem L2 PySem.Spec
open PyProof.Rows hiding St
section
end
section
end
end FL
namespace L2
open PySem PySem.Spec PyProof.Rows
open PySem.SeqAt
open PySem.AutoSeq1 (wpAny_loadPart')
open PySem.MeetsSeq PySem.MeetsSeq2 PySem.MeetsSeq3
end L2
namespace FL
open PySem L2 PySem.Spec
open PyProof.Rows hiding St
end FL
namespace FL
open PySem
noncomputable def intD:D->R D
 | .bool b=>.ok (.int (if b then 1 else 0))
 | .int i=>.ok (.int i)
 | _=>.bad
end FL
namespace L2
open PySem PySem.Spec PyProof.Rows PySem.W
end L2
namespace FL
open PySem L2 PySem.Spec
open PyProof.Rows hiding St
variable {h:EF}{pos:yn}{b:yh}{X:Cx}
section
variable [Cs]
section
variable {K:yf}
theorem zhz:ib X (.type "int") intD:=by
 intro pins s σ H xs us Q I r h;obtain⟨x,dx,d,rfl,tx,e,q⟩:=h;obtain⟨u,rfl,ru⟩:=vals1 r;cases dx with
 | bool c =>
  have tx:Fz X.K H (.bool c) x:=tx;simp only[Fz]at tx;subst tx;cases e;cases ru;exact PySem.call_int_bool ⟨.int _,H,I.tok _,⟨_,rfl⟩,q _ H (ay.refl _) (by simp[Fz])⟩
 | int i =>
  have tx:Fz X.K H (.int i) x:=tx;simp only[Fz]at tx;subst tx;cases e;obtain⟨t,rfl⟩:=ru;exact PySem.call_int_int ⟨.int i,H,I,⟨t,rfl⟩,q _ H (ay.refl _) (by simp[Fz])⟩
 | _=>exact nomatch (show(R.bad:R D)=.ok d from e)
end
end
variable {F:List D->R (D×List D)}{w:yv}{gg:GF}{fa:AF}{it:IF}{scope:yT}{g:D->R D}{bb:SF}{tg:yh}{k n:Nat}{P:yw}{mg:ir->Option gV}{ar:List Ar}{dom:List Nat}{tn x z:ir}{es ifs:List yh}{T:String}{body:List yx}{p2 py pz:yn}{t:TF}{ps:List ir}{G:List D->R D}{op:Av}{base:yo}
section
variable [Cs]
section
variable {K:yf}{st:yx}{b:SF}{fr:Bool}
theorem sN(ms:List Bool)(N:List ir)(h:aE K mg x st)
  (hb:∀{f:dm} {aq:gV} {A:yy} {outer:List yC} {s:kb} {H:Hp} {E:XK},aM k (A.deeper (zc x (aH st) s.heap.objs.size f aq))->N.Nodup->dE K (dw (aZ P w) P w K mg base N x (aH st) f aq A outer s H E).cO (bW st) b)
  (S:d9 N ps (aH st):=by exact⟨rfl,rfl,rfl,by decide +kernel,rfl,by decide +kernel,by decide +kernel⟩)(c5:ps.length=ms.length:=by rfl)(cZ:ps.length<=N.length:=by decide)
  (eR:∀(kV doc pm:gV) (an:Option dm) (aq ct:gV) (us:List gV),us.length=ps.length->Ax (zD x x (eY st) (bW st) (aH st) .none kV doc pm an aq ct) ⟨us,[]⟩=pure (ps.zip us):=by
   first
    | exact fun _ _ _ _ _ _=>kC fun _=>rfl
    | exact fun _ _ _ _ _ _=>kE fun _ _=>rfl
    | exact fun _ _ _ _ _ _=>kF fun _ _ _=>rfl
    | exact fun _ _ _ _ _ _=>pY fun _ _ _ _=>rfl
    | exact fun _ _ _ _ _ _=>el5 fun _ _ _ _ _=>rfl):Callee P w K mg base x (k+1) ps (lA K ms fr (FL.run ms fr N.length b)) :=
 zoN ms fr h S c5 cZ eR fun f aq A outer s H E hr=>qK (hb hr S.nd)
theorem dH(N:List ir)(h:aE K mg x st)
  (hb:∀{f:dm} {aq:gV} {A:yy} {outer:List yC} {s:kb} {H:Hp} {E:XK},aM k (A.deeper (zc x (aH st) s.heap.objs.size f aq))->N.Nodup->dE K (dw (aZ P w) P w K mg base N x (aH st) f aq A outer s H E).cO (bW st) b)
  (S:d9 N ps (aH st):=by exact⟨rfl,rfl,rfl,by decide +kernel,rfl,by decide +kernel,by decide +kernel⟩)(cZ:ps.length<=N.length:=by decide)
  (eR:∀(kV doc pm:gV) (an:Option dm) (aq ct:gV) (us:List gV),us.length=ps.length->Ax (zD x x (eY st) (bW st) (aH st) .none kV doc pm an aq ct) ⟨us,[]⟩=pure (ps.zip us):=by
   first
    | exact fun _ _ _ _ _ _=>kC fun _=>rfl
    | exact fun _ _ _ _ _ _=>kE fun _ _=>rfl
    | exact fun _ _ _ _ _ _=>kF fun _ _ _=>rfl
    | exact fun _ _ _ _ _ _=>pY fun _ _ _ _=>rfl
    | exact fun _ _ _ _ _ _=>el5 fun _ _ _ _ _=>rfl):Callee P w K mg base x (k+1) ps (iP K ps.length fr (bh fr ps.length N.length b)) :=
 Callee.pure (sN (yq ps.length false) N h hb S (by simp) cZ eR)
end
section
variable {K:yf}{a c e:yh}{f g1 g2:EF}{p:yn}{j:Nat}
theorem a1(ha:PV K X a f)(hs:yi [a] X.env=(false,yu a X.env)::yi [] X.env:=by exact FL.se rfl):cY K X [a] (aa f af):=dJ ha qI hs
theorem a2(ha:PV K X a f)(hb:PV K X b h)(hs:yi [a,b] X.env=(false,yu a X.env)::yi [b] X.env:=by exact FL.se rfl)(c7:yi [b] X.env=(false,yu b X.env)::yi [] X.env:=by exact FL.se rfl):cY K X [a,b] (aa f (aa h af)):=dJ ha (a1 hb c7) hs
theorem a3(ha:PV K X a f)(hb:PV K X b h)(hc:PV K X c g1)(hs:yi [a,b,c] X.env=(false,yu a X.env)::yi [b,c] X.env:=by exact FL.se rfl)(c7:yi [b,c] X.env=(false,yu b X.env)::yi [c] X.env:=by exact FL.se rfl)(hs3:yi [c] X.env=(false,yu c X.env)::yi [] X.env:=by exact FL.se rfl):cY K X [a,b,c] (aa f (aa h (aa g1 af))):=dJ ha (a2 hb hc c7 hs3) hs
variable {y:ir}
theorem bX(cc:Callee X.prog X.w X.K X.mg X.base x k ps (iP X.K n false G))(hr:aM j X.A)(ha:cY K X (e::es) fa)(hl:iS fa n:=by repeat (first|exact nK|refine nJ ?_))(hg:Gl X x:=by rfl)(hj:k<=j:=by decide)(bp:(x==("__debug__":ir))=false:=by decide)
  (he:yi (e::es) X.env=(false,yu e X.env)::yi es X.env:=by exact FL.se rfl) (aS:(yJ pos (yi es X.env)).any (·.1)=false:=by exact FL.sp rfl):PV K X (.Call (.Name x p) (e::es) [] pos) (av G fa):=zu4 cc hr hg kX ha hl hj bp he aS
theorem uv(cc:Callee X.prog X.w X.K X.mg X.base x k ps (iP X.K n true G))(hr:aM j X.A)(ha:cY K X (e::es) fa)(hl:iS fa n:=by repeat (first|exact nK|refine nJ ?_))(hg:Gl X x:=by rfl)(hj:k<=j:=by decide)(bp:(x==("__debug__":ir))=false:=by decide)
  (he:yi (e::es) X.env=(false,yu e X.env)::yi es X.env:=by exact FL.se rfl) (aS:(yJ pos (yi es X.env)).any (·.1)=false:=by exact FL.sp rfl):aO K X (.Call (.Name x p) (e::es) [] pos) (av G fa):=zvk cc hr hg kX ha hl hj bp he aS
theorem hU(cc:Callee X.prog X.w X.K X.mg X.base x k ps (lA X.K (jT ar) false F))(hr:aM j X.A)(ha:jk K X (e::es) ar)(ho:u6 F (jT ar).length:=by exact ztj)(nd:(nL ar).Nodup:=by decide)(ct:nM ar<=1:=by decide)(hg:Gl X x:=by rfl)(hj:k<=j:=by decide)(bp:(x==("__debug__":ir))=false:=by decide)
  (he:yi (e::es) X.env=(false,yu e X.env)::yi es X.env:=by exact FL.se rfl) (aS:(yJ pos (yi es X.env)).any (·.1)=false:=by exact FL.sp rfl):PV K X (.Call (.Name x p) (e::es) [] pos) (bO F ar):=zu6 cc ho nd ct hr hg kX ha hj bp he aS
theorem gQ(i:Nat)(h:jk K X es ar)(ha:PE X (.Name y py) (dD i):=by exact pv _)(hs:yi (.Name y py::es) X.env=(false,yu (.Name y py) X.env)::yi es X.env:=by exact FL.se rfl):jk K X (.Name y py::es) (.m i::ar):=zvh i ha h hs
theorem jB{id:String}(hc:ib X (.builtin id) g)(hm:X.mg x=none)(hv:zj x=some (.builtin id))(ha:PV K X e f)(hg:Gl X x:=by rfl)(hn:x ≠ "__name__":=by decide)(bp:(x==("__debug__":ir))=false:=by decide)
  (he:yi [e] X.env=(false,yu e X.env)::yi [] X.env:=by exact FL.se rfl) (aS:(yJ pos (yi [] X.env)).any (·.1)=false:=by exact FL.sp rfl):PV K X (.Call (.Name x p) [e] [] pos) (e1 g f):=zeI (zkk (ib.ds hc) hg hm hv (a1 ha he) hn bp he aS)
theorem oU(hc:ib X (.type T) g)(hm:X.mg x=none)(hv:zj x=some (.type T))(ha:PV K X e f)(hg:Gl X x:=by rfl)(hn:x ≠ "__name__":=by decide)(bp:(x==("__debug__":ir))=false:=by decide)
  (he:yi [e] X.env=(false,yu e X.env)::yi [] X.env:=by exact FL.se rfl) (aS:(yJ pos (yi [] X.env)).any (·.1)=false:=by exact FL.sp rfl):PV K X (.Call (.Name x p) [e] [] pos) (e1 g f):=zeI (zu7 (ib.ds hc) hg hm hv (a1 ha he) hn bp he aS)
theorem uq(kt:nF T)(hm:X.mg "isinstance"=none)(kL:X.mg tn=none)(hv2:zj tn=some (.type T))(ha:PV K X a f)(hg:Gl X "isinstance":=by rfl)(oq:Gl X tn:=by rfl)(hn:tn ≠ "__name__":=by decide)(hd:(tn==("__debug__":ir))=false:=by decide)
  (kN:yi [a,.Name tn p2] X.env=(false,yu a X.env)::yi [.Name tn p2] X.env:=by exact FL.se rfl) (c7:yi [.Name tn p2] X.env=(false,yu (.Name tn p2) X.env)::yi [] X.env:=by exact FL.se rfl) (aS:(yJ pos (yi [.Name tn p2] X.env)).any (·.1)=false:=by exact FL.sp rfl) :
  PV K X (.Call (.Name "isinstance" p) [a,.Name tn p2] [] pos) (e1 (gZ T) f):=zvc kt hg hm oq kL hv2 ha hn hd kN c7 aS
theorem gj(hr:aM j X.A):aQ X (yG .Eq) (rD X.K cy):=zs2 hr.units
theorem oX(hr:aM j X.A):aQ X (yG .NotEq) (rD X.K eL):=zs7 hr.units
theorem oW(hr:aM j X.A):aQ X (yG .Lt) (rD X.K ft):=zs6 hr.units
theorem oV(hr:aM j X.A):aQ X (yG .LtE) (rD X.K j8):=zs5 hr.units
theorem zwh(hr:aM j X.A):aQ X (yG .GtE) (rD X.K oh):=zs3 hr.units
theorem zwi(hr:aM j X.A):aQ X (yG .In) (rD X.K inD):=ztp (mI hr)
theorem zwj(hr:aM j X.A):aQ X (yG .In) (rD X.K zcQ):=ztq (zyb hr)
theorem uC(hr:aM j X.A):jM X (rD X.K jW):=zp4 (mI hr)
variable {g:D->D->R D}
theorem oR(ho:aQ X (yG op) (rD X.K g))(ha:PV K X a f)(hb:PV K X b h)(hm:Bc op b=false:=by first|exact wO _|rfl):PV K X (.Compare a [op] [b] pos) (e2 g f h):=zu9 ho ha hb hm
theorem dC(ho:aQ X (yG op) (rD X.K g))(ha:PV K X a f)(hb:PV K X b h)(hm:Bc op b=false:=by first|exact wO _|rfl):dY K X (.Compare a [op] [b] pos) (tB (e2 g f h)):=zvD ho ha hb hm
theorem zvE(i:Nat)(ho:aQ X (yG op) (rD X.K g))(hb:PV K X a f)(ha:PE X (.Name y py) (dD i):=by exact pv _)(hm:Bc op (.Name y py)=false:=by first|exact wO _|rfl):dY K X (.Compare a [op] [.Name y py] pos) (tB (wC g f i)):=zvF i ho hb ha hm
theorem oS(i:Nat)(ho:jM X (rD X.K g))(hb:PV K X b h)(ha:PE X (.Name y py) (dD i):=by exact pv _)(hs:rQ b:=by exact fun _ _=>rfl):PV K X (.Subscript (.Name y py) b pos) (m2 g i h):=zve i ho ha hb hs
theorem bR(he:PV K X e f):dE K X [.Return (some e) pos] (aD f):=cX (zvz he)
theorem cw(i:Nat)(hN:X.N.Nodup)(he:PV K X e f)(hi:X.N[i]?=some x:=by rfl)(hx:Loc X.env.scope x:=by first|exact AO rfl|exact Az rfl)(hs:zB e (some (.Name x py)) pos.line X.env=pure false:=by rfl)(hf:X.fn x=true\/X.env.scope.names.lookup x=some .local:=by first|exact .inl rfl|exact .inr rfl|assumption):cH K X (.Assign [.Name x py] e pos) (aF (gN i) f):=zvA hN hi hx he hs hf
theorem xn(i:Nat)(hN:X.N.Nodup)(he:aO K X e f)(hi:X.N[i]?=some x:=by rfl)(hx:Loc X.env.scope x:=by first|exact AO rfl|exact Az rfl)(hs:zB e (some (.Name x py)) pos.line X.env=pure false:=by rfl)(hf:X.fn x=true\/X.env.scope.names.lookup x=some .local:=by first|exact .inl rfl|exact .inr rfl|assumption):cH K X (.Assign [.Name x py] e pos) (eN i f):=zvv hN hi hx he hs hf
theorem aU(i:Nat)(hN:X.N.Nodup)(hi:X.N[i]?=some x:=by rfl)(hx:Loc X.env.scope x:=by first|exact AO rfl|exact Az rfl)(hf:X.fn x=true\/X.env.scope.names.lookup x=some .local:=by first|exact .inl rfl|exact .inr rfl|assumption):fU K X [i] (.Name x pos) (gN i):=zvi hN hi hx hf
theorem uz(i j:Nat){kt k2:Nat}{px pt jA:yn}(nd:X.N.Nodup)(ha:PV K X a f)(hb:PV K X b h)(hc:X.calm=true:=by rfl)(hi:X.N[i]?=some x:=by rfl)(hj:X.N[j]?=some y:=by rfl)(ij:i≠j:=by decide)(l1:X.env.scope.names.lookup x=some .local:=by rfl)(l2:X.env.scope.names.lookup y=some .local:=by rfl)
  (sw:BP [.Tuple [.Name x px,.Name y py] kt pt] (.Tuple [a,b] k2 jA) X.env=pure (some [x,y]):=by rfl)(s1:BO [.Tuple [.Name x px,.Name y py] kt pt] (.Tuple [a,b] k2 jA) pos.line X.env=pure false:=by rfl)(s2:yi [a,b] X.env=(false,yu a X.env)::yi [b] X.env:=by exact FL.se rfl)(s3:yi [b] X.env=(false,yu b X.env)::yi [] X.env:=by exact FL.se rfl) :
  cH K X (.Assign [.Tuple [.Name x px,.Name y py] kt pt] (.Tuple [a,b] k2 jA) pos) (eU i j f h):=zvy hc nd hi hj ij l1 l2 ha hb sw s1 s2 s3
theorem ki(hi:fV K X tg e it)(hg:fU K X dom tg gg)(hb:dE K X body bb)(hp:CZ (ym X.prog X.w) X.A X.env X.xe:=by exact Fs)(hc:X.calm=true:=by rfl)(hs:∀ v,zI e X.env v=pure v:=by intro _;rfl):cH K X (.For tg e body [] pos) (gk it gg bb):=zvt hp hc hi hg hb hs
variable {elt iter ke ve:yh}{kf vf:EF}
theorem cp(L:List ir)(ix:List Nat)(M:List ir)(hi:fV K X tg iter it)(hg:∀{C:dm} {s₃:kb} {H₃:Hp} {fp:List dm},M.Nodup->fU K (bo X M scope C s₃ H₃ fp) dom tg gg)(ht:∀{C:dm} {s₃:kb} {H₃:Hp} {fp:List dm},iW K (bo X M scope C s₃ H₃ fp) ifs t)(he:∀{C:dm} {s₃:kb} {H₃:Hp} {fp:List dm},PV K (bo X M scope C s₃ H₃ fp) elt f)
  (hc:X.calm=true:=by rfl)(hk:scope.kind=.function:=by rfl)(ho:gR X.env.scope scope X.N ix=true:=by kernel_rfl)(hM:M=L++ix.map (fun i=>X.N.getD i ""):=by rfl) (nd:ix.Nodup:=by decide) (hMn:M.Nodup:=by decide +kernel) (hd:(dom.all fun i=>decide (i<L.length))=true:=by decide) (hs:∀ v,zI iter X.env v=pure v:=by intro _;rfl) :
  aO K X (.ListComp elt [⟨tg,iter,ifs,0⟩] scope pos) (d6 L.length ix it gg t f):=zvn L ix M hc hk ho hM nd hi (fun _ _ _ _=>hg hMn) hd (fun _ _ _ _=>ht) (fun _ _ _ _=>he) hs
theorem cpS(i0:Nat)(L:List ir)(ix:List Nat)(M:List ir)(hN:X.N.Nodup)(hi:fV K X tg iter it)(hg:∀{C:dm} {s₃:kb} {H₃:Hp} {fp:List dm},M.Nodup->fU K (bo X M scope C s₃ H₃ fp) dom tg gg)(ht:∀{C:dm} {s₃:kb} {H₃:Hp} {fp:List dm},iW K (bo X M scope C s₃ H₃ fp) ifs t)(he:∀{C:dm} {s₃:kb} {H₃:Hp} {fp:List dm},PV K (bo X M scope C s₃ H₃ fp) elt f)
  (h0:X.N[i0]?=some x:=by rfl)(hl:X.env.scope.names.lookup x=some .local:=by rfl)(jr:zB (.ListComp elt [⟨tg,iter,ifs,0⟩] scope pos) (some (.Name x py)) p.line X.env=pure true:=by rfl)(hc:X.calm=true:=by rfl)(hk:scope.kind=.function:=by rfl)(ho:gR X.env.scope scope X.N ix=true:=by kernel_rfl)(hM:M=L++ix.map (fun i=>X.N.getD i ""):=by rfl) (nd:ix.Nodup:=by decide) (hMn:M.Nodup:=by decide +kernel) (hd:(dom.all fun i=>decide (i<L.length))=true:=by decide) (hs:∀ v,zI iter X.env v=pure v:=by intro _;rfl) :
  cH K X (.Assign [.Name x py] (.ListComp elt [⟨tg,iter,ifs,0⟩] scope pos) p) (eN i0 (d6 L.length ix it gg t f)):=zvw i0 L ix M hN h0 hl jr hc hk ho hM nd hi (fun _ _ _ _=>hg hMn) hd (fun _ _ _ _=>ht) (fun _ _ _ _=>he) hs
end
abbrev CT(x:ir)(k:Nat)(ps:List ir)(n:Nat)(fr:Bool)(G:List D->R D)(P:yw)(w:yv)(K:yf)(mg:ir->Option gV)(base:yo):Prop:=Callee P w K mg base x k ps (iP K n fr G)
abbrev uR(x:ir)(k:Nat)(ps:List ir)(ms:List Bool)(fr:Bool)(F:List D->R (D×List D))(P:yw)(w:yv)(K:yf)(mg:ir->Option gV)(base:yo):Prop:=Callee P w K mg base x k ps (lA K ms fr F)
end
end FL
namespace FL
open PySem
noncomputable def jR(ds:List D):AF:=fun ρ=>.ok (ds,ρ)
end FL
namespace L2
open PySem PySem.Spec
variable {X:Cx}
end L2
namespace FL
open PySem L2 PySem.Spec
open PyProof.Rows hiding St
section
variable [Cs]
end
section
variable [Cs]
theorem cM.none{K:yf}{ρ ρ':En}{σ:L2.St}{H H':Hp}{a:dm}(s:cM ρ ρ' σ H H')(r:Rel K ρ' σ H')(h:H' a=none):H a=none:=by
 cases e:H a with
 | none=>rfl
 | some o =>
  by_cases m:MA ρ σ a
  ·obtain⟨o',e',_⟩:=r.et (s.ma.mp m)
   rw[h]at e';cases e'
  ·rw[s.kp a o e m]at h;cases h
end
variable {i:Nat}{c e:yh}{pos py:yn}{s:SF}{X:Cx}{v:Option V}{σ:L2.St}{dom:List Nat}{f:EF}{tc:TF}{x:ir}
section
variable [Cs]
def nC(dom:List Nat)(σ σ':L2.St):Prop:=∀ i,i∉dom->σ'[i]?=σ[i]?
theorem nC.refl:nC dom σ σ:=fun _ _=>rfl
theorem nC.set(h:i∈dom):nC dom σ (σ.set i v):=fun j hj=>yZ fun z=>hj (by subst z;exact h)
noncomputable def EFr(dom:List Nat)(σ:L2.St)(Dn:Ends):Ends:={ nx:=fun σ' H'=>nC dom σ σ'->Dn.nx σ' H',rt:=Dn.rt,bk:=fun σ' H'=>nC dom σ σ'->Dn.bk σ' H',ct:=fun σ' H'=>nC dom σ σ'->Dn.ct σ' H' }
def tSf(K:yf)(C:SC)(dom:List Nat)(f:SF):TS:=fun Dn σ H=>tS K C f (EFr dom σ Dn) σ H
def rN(K:yf)(X:Cx)(dom:List Nat)(st:yx)(f:SF):Prop:=X.K=K->∀ C,PS X st (tSf K C dom f)
def u9(K:yf)(X:Cx)(dom:List Nat)(st:List yx)(f:SF):Prop:=X.K=K->∀ C,b9 X st (tSf K C dom f)
section
variable {K:yf}{st:yx}{rest:List yx}{t:SF}
theorem zuK:u9 K X dom [] aT:=fun _ C=>zeE.weak fun Dn σ H=>by
 rintro⟨ρ,rel,g⟩;exact g σ H rel (ax.refl H) .refl
theorem zuL(h1:rN K X dom st s):u9 K X dom [st] s:=fun hK C=>qF (h1 hK C)
theorem zuI{a b:List yx}(hc:dY K X c tc)(ha:u9 K X dom a s)(hb:u9 K X dom b t):rN K X dom (.If c a b pos) (aP tc s t):=fun hK C=>(wZ (hc hK) (ha hK C) (hb hK C)).weak fun Dn σ H=>by
 rintro⟨ρ,rel,g⟩;refine zb5 rel g fun cb ρ1 H1 aj fz g1=>?_;cases cb with
 | true=>exact jt ⟨ρ1,aj,g1⟩
 | false=>exact js ⟨ρ1,aj,g1⟩
theorem zuM(i:Nat)(hN:X.N.Nodup)(he:PV K X e f)(hd:i∈dom:=by decide)(hi:X.N[i]?=some x:=by rfl)(hx:Loc X.env.scope x:=by first|exact AO rfl|exact Az rfl)(hs:zB e (some (.Name x py)) pos.line X.env=pure false:=by rfl)(hf:X.fn x=true\/X.env.scope.names.lookup x=some .local:=by first|exact .inl rfl|exact .inr rfl|assumption) :
  rN K X dom (.Assign [.Name x py] e pos) (aF (gN i) f):=fun hK C=>(w4 hN hi hx (he hK) hs hf).weak fun Dn σ H=>by
 rintro⟨ρ,rel,q⟩;refine jq rel q fun d ρ1 v H1 aj aB fz q1=>?_;obtain⟨ρ2,e2,q2⟩:=q1.bt;obtain⟨rfl,n,hl⟩:=sQ e2;exact q2 _ H1 (aj.chg (aj.rel.set fz fun _ _ _ z=>nomatch z) (r9 n hl)) (ax.refl H1) (.set hd)
end
open Classical in
noncomputable def zyX(Z:dm->Prop)(H:Hp):Hp:=fun b=>if Z b then(match H b with|some (.frz _ u)=>some u|z=>z) else H b
end
variable {w:yv}{fa:AF}{c:String}{N ns ps:List ir}{base:yo}{j k:Nat}{b:SF}{p px:yn}{P:yw}{mg:ir->Option gV}{ks:List (Option String)}{d:D}{H H':Hp}{es:List yh}{a:yh}{E:XK}{q:ir}{G:List D->R D}{vs:List V}{C:dm}
section
def eZ(i:Nat)(c:String)(j:Nat):EF:=fun ρ=>match ρ[i]? with
 | some (.ob c' ds)=>if c'=c then(R.of ds[j]?).bind fun d=>.ok (d,ρ) else .bad
 | _=>.bad
def d8:Option String->D->Sl
 | none,d=>.val d
 | some c,.tuple fs=>.ob c fs
 | some _,_=>.no
def iM(ks:List (Option String))(fr:Bool)(n:Nat)(b:SF)(ds:List D):R D :=
 if ds.length=ks.length then(b (zG d8 ks ds++yq (n-ds.length) .no)).bind fun x=>match x.1,fr with
  | .rt d,false=>.ok d
  | .rf d,true=>.ok d
  | .nx,false=>.ok .none
  | _,_=>.bad
 else .bad
def iY(i:Nat)(c:String)(fa:AF):AF:=fun ρ=>match ρ[i]? with
 | some (.ob c' ds)=>if c'=c then(fa ρ).bind fun x=>.ok (.tuple ds::x.1,x.2) else .bad
 | _=>.bad
section
variable [Cs]{K:yf}
def ie(K:yf)(H:Hp):List (Option String)->List D->List V->Prop
 | [],[],vs=>vs=[]
 | k::ks,d::ds,vs=>∃ v r,vs=v::r/\dF K H (d8 k d) (some v)/\ie K H ks ds r
 | _,_,_=>False
theorem zwY(k:Option String)(d:D)(p:Bool)(e:D):d8 k d≠.ow p e:=by
 unfold d8
 split <;> exact fun z=>nomatch z
theorem ie.len:∀{ks:List (Option String)} {ds:List D} {vs:List V},ie K H ks ds vs->vs.length=ks.length/\ds.length=ks.length
 | [],[],vs,h=>by cases h;exact⟨rfl,rfl⟩
 | k::ks,d::ds,vs,h=>by
  obtain⟨v,r,rfl,s,t⟩:=h;have:=ie.len t;simp[this.1,this.2]
 | [],_::_,_,h=>h.elim
 | _::_,[],_,h=>h.elim
theorem ie.get:∀{ks:List (Option String)} {ds:List D} {vs:List V} {i:Nat} {x:Sl} {v:Option V},ie K H ks ds vs->(zG d8 ks ds)[i]?=some x->(vs.map some)[i]?=some v->dF K H x v
 | [],[],vs,i,x,v,h,e,_=>by simp at e
 | k::ks,d::ds,vs,0,x,v,h,e1,e2=>by
  obtain⟨u,r,rfl,s,t⟩:=h;simp at e1 e2;subst e1;subst e2
  exact s
 | k::ks,d::ds,vs,i+1,x,v,h,e1,e2=>by
  obtain⟨u,r,rfl,s,t⟩:=h;simp only[List.zipWith_cons_cons,zz1,zh]at e1 e2;exact ie.get t e1 e2
 | [],_::_,_,_,_,_,h,_,_=>h.elim
 | _::_,[],_,_,_,_,h,_,_=>h.elim
theorem yb{ds:List D}{p:Bool}:(zG d8 ks ds)[i]?≠some (.ow p d):=fun e=>by
 rw[List.getElem?_zipWith]at e
 split at e
 ·exact zwY _ _ _ _ (zt e)
 ·cases e
theorem zjj:∀{ns:List ir} {vs:List V} {j:Nat} {f:ir} {v:V},ns.Nodup->ns[j]?=some f->vs[j]?=some v->(ns.zip vs).lookup f=some v
 | n::ns,u::vs,0,f,v,_,h1,h2=>by
  simp at h1 h2;subst h1;subst h2
  simp[yN]
 | n::ns,u::vs,j+1,f,v,hn,h1,h2=>by
  simp only[zz1]at h1 h2;rw[AZ]at hn;have ne:(f==n)=false:=by
   simp only[beq_eq_false_iff_ne];exact fun z=>hn.1 (z▸Ag h1)
  rw[Bg,yN,ne];exact zjj hn.2 h1 h2
 | [],_,_,_,_,_,h,_=>by simp at h
 | _::_,[],_,_,_,_,_,h=>by simp at h
theorem zeW{ds:List D}(cst:fi H)(f:ie K H ks ds vs):Rel K (zG d8 ks ds) (vs.map some) H :=
 ⟨by rw[List.length_zipWith,za,f.len.1,f.len.2,Ee],fun i x v e1 e2=>f.get e1 e2,fun i j a ⟨⟨p,d,e⟩,_⟩=>absurd e yb,cst⟩
def o8(K:yf)(ks:List (Option String))(fr:Bool)(G:List D->R D):Sp:=fun vs H Q _=>∃ ds,fi H/\ie K H ks ds vs/\∃ d,G ds=.ok d/\∀ v H',ay H H'->(if fr=true then ∃ a,v=.ref a/\H a=none/\cC K H' a d else Fz K H' d v)->Q v H'
theorem zva{f:ir}(ho:Cs.O c=some (C,ns))(hj:ns[j]?=some f)(hn:ns.Nodup)(hc:fG K C)(na:ik K C f)(hv:PE X (.Name x px) (dD i))(hb:Cr (.Name x px) f X.env (yu (.Name x px) X.env)=yu (.Name x px) X.env:=by rfl) :
  PV K X (.Attribute (.Name x px) f pos) (eZ i c j):=.mk fun hK=>by
 subst hK;refine(ztS hv hb).weak fun σ H Q=>?_;rintro⟨ρ,rel,g⟩;unfold eZ at g;cases e:ρ[i]? with
 | none=>rw[e]at g;exact g.elim
 | some y =>
  rw[e]at g;cases y with
  | ob c' ds =>
   dsimp only at g
   split at g
   ·rename_i gX
    subst gX;obtain⟨d,ed,g⟩:=g.cE;have hl:i<σ.length:=by rw[<- rel.len];exact(yQ.mp e).1
    have o:=rel.ok i _ _ e (yO hl);cases es:σ[i] with
    | none=>rw[es]at o;exact o.elim
    | some v =>
     rw[es]at o;cases v with
     | ref a =>
      obtain⟨C',cV,dx,vs,h1,h2,h3,h4⟩:=Ft o fun⟨_,_,_,z,_⟩=>by rw[ho]at z;cases z
      rw[ho]at h1;cases h1;have kB:ds[j]?=some d:=by
       cases q:ds[j]? with
       | none=>rw[q]at ed;cases ed
       | some z=>rw[q]at ed;cases ed;rfl
      obtain⟨v,ev,fv⟩:=h4.get kB;refine⟨.ref a,by rw[yO hl,es],a,C,dx,ns.zip vs,v,rfl,h2,hc,na,?_,g.now rel v fv⟩;exact zjj hn hj ev
     | _=>exact o.elim
   ·exact g.elim
  | _=>exact g.elim
def tAO(K:yf)(ks:List (Option String))(f:AF):TA:=fun σ H Q=>∃ ρ,Rel K ρ σ H/\Good K ρ σ H (f ρ) fun ds _ H'=>∀ vs,ie K H' ks ds vs->Q vs H'
def jO(K:yf)(X:Cx)(ks:List (Option String))(es:List yh)(f:AF):Prop:=X.K=K->PA X es (tAO K ks f)
theorem zjT:jO K X [] [] af:=fun _=>jy.weak fun σ H Q=>by
 rintro⟨ρ,rel,q⟩;exact q.now rel [] rfl
theorem zjU(ha:PV K X a f)(hr:jO K X ks es fa)(hs:yi (a::es) X.env=(false,yu a X.env)::yi es X.env:=by exact FL.se rfl):jO K X (none::ks) (a::es) (aa f fa):=fun hK=>(gh (ha hK) (hr hK) hs).weak fun σ H Q=>by
 rintro⟨ρ,rel,q⟩;refine dS rel q fun dx ρ1 x H1 aj aB fx q1=>?_;obtain⟨y,ey,q2⟩:=q1.bt;refine⟨ρ1,aj,?_⟩;rw[ey];intro H2 bY cg vs fs;exact(q2.step cg).now bY _ ⟨x,vs,rfl,fx.mono (cg.cD aj),fs⟩
theorem ztG(hv:PE X (.Name x px) (dD i))(hr:jO K X ks es fa)(hs:yi (.Name x px::es) X.env=(false,yu (.Name x px) X.env)::yi es X.env:=by exact FL.se rfl):jO K X (some c::ks) (.Name x px::es) (iY i c fa):=fun hK=>(gh hv (hr hK) hs).weak fun σ H Q=>by
 rintro⟨ρ,rel,g⟩;unfold iY at g;cases e:ρ[i]? with
 | none=>rw[e]at g;exact g.elim
 | some y =>
  rw[e]at g;cases y with
  | ob c' ds =>
   dsimp only at g
   split at g
   ·rename_i gX
    subst gX;have hl:i<σ.length:=by rw[<- rel.len];exact(yQ.mp e).1
    have o:=rel.ok i _ _ e (yO hl);cases es:σ[i] with
    | none=>rw[es]at o;exact o.elim
    | some v =>
     rw[es]at o;refine⟨v,by rw[yO hl,es],?_⟩;obtain⟨y,ey,q2⟩:=g.bt;refine⟨ρ,rel,?_⟩;rw[ey];intro H2 bY cg vs fs;refine(q2.step cg).now bY _ ⟨v,vs,rfl,?_,fs⟩;exact dF.mono (x:=.ob c' ds) (cg.cD rel) (fun a _ ⟨p,d',z⟩=>nomatch z) o
   ·exact g.elim
  | _=>exact g.elim
theorem zvl(c:Callee X.prog X.w X.K X.mg X.base x k ps (o8 X.K ks true G))(hr:aM j X.A)(hg:Gl X x)(hx:Passes (aZ X.prog X.w) X E)(ha:jO K X ks (e::es) fa)(hj:k<=j:=by decide)(bp:(x==("__debug__":ir))=false:=by decide)
  (he:yi (e::es) X.env=(false,yu e X.env)::yi es X.env:=by exact FL.se rfl) (aS:(yJ pos (yi es X.env)).any (·.1)=false:=by exact FL.sp rfl):aO K X (.Call (.Name x p) (e::es) [] pos) (av G fa):=.mk fun hK=>by
 subst hK;refine(qA c hr hg hx (ha rfl) hj bp he aS).weak fun σ H Q=>?_;rintro⟨ρ,rel,q⟩;obtain⟨y,ey,q0⟩:=q.bt;refine⟨ρ,rel,?_⟩;rw[ey];intro H1 aj aB vs fs;obtain⟨d,ed,q2⟩:=(q0.step aB).cE;rw[Am];refine⟨y.1,aj.cst,fs,d,ed,fun v H' s fin=>?_⟩;obtain⟨a,rfl,ha,m⟩:=fin;exact q2.new aj s a (aB.none aj ha) m
end
section
variable [Cs]{K:yf}
theorem zbM{st:yx}{f:dm}{fd:yL}(ks:List (Option String))(fr:Bool)(h:c9 K x q st f fd)(S:d9 N ps (aH st))(c5:ps.length=ks.length)(cZ:ps.length<=N.length)
  (hb:∀(aq:gV) (A:yy) (outer:List yC) (s:kb) (H:Hp) (E:XK),aM k (A.deeper (zc q (aH st) s.heap.objs.size f aq))->dE K (dw (aZ P w) P w K mg base N q (aH st) f aq A outer s H E) (bW st) b) :
  b6 P w K mg base (aZ P w) (k+1) f fd ps (o8 K ks fr (iM ks fr N.length b)):=by
 refine h.mz S (fun vs H Q E ⟨ds,_,e,_⟩=>by rw[e.len.1,c5]) fun aq A outer s H vs Q E hr hq=>?_;obtain⟨ds,cst,fa,d,hF,q⟩:=hq;obtain⟨hv,hd⟩:=fa.len;have cu:L2.start N vs=vs.map some++yq (N.length-ds.length) none:=by unfold L2.start;rw[hv,hd]
 have no:∀(i:Nat) p d,(zG d8 ks ds++yq (N.length-ds.length) .no)[i]?≠some (.ow p d):=fun i p d e=>by
  by_cases c:i<(zG d8 ks ds).length
  ·rw[zK c]at e
   exact yb e
  ·rw[Ay (by omega),Aa]at e
   split at e <;> cases e
 refine⟨tS K ⟨H,L2.start N vs,zG d8 ks ds++yq (N.length-ds.length) .no⟩ b,hb aq A outer s H E hr rfl _,zG d8 ks ds++yq (N.length-ds.length) .no,?_,?_⟩
 ·refine⟨?_,fun a o e _=>e,fun i a d e _=>absurd e (no i false d),fun i=>AR,fun i d e=>rfl,fun i p d e=>absurd e (no i p d)⟩
  rw[cu];exact(zeW cst fa).pad _
 ·unfold iM at hF
  rw[if_pos hd]at hF;obtain⟨z,ez,ey⟩:=bj hF;rw[ez];obtain⟨fl,ρ'⟩:=z;have kp:∀(ρ':En) (σ':L2.St) (H':Hp),bc K ⟨H,L2.start N vs,zG d8 ks ds++yq (N.length-ds.length) .no⟩ ρ' σ' H'->ay H H':=fun ρ' σ' H' r b o e=>r.keep b o e fun⟨i,⟨p,d,z⟩,_⟩=>no i p d z;cases fr with
  | false =>
   cases fl with
   | rt dr=>cases ey;exact fun v σ' H' r fz=>q v H' (kp _ _ _ r) fz
   | nx=>cases ey;exact fun σ' H' r fz=>q .non H' (kp _ _ _ r) (by show Fz K H' .none .non;simp[Fz])
   | _=>cases ey
  | true =>
   cases fl with
   | rf dr=>cases ey;exact fun a σ' H' r ha m=>q (.ref a) H' (kp _ _ _ r) ⟨a,rfl,ha,m⟩
   | _=>cases ey
end
end
variable {β:Type}{n:Nat}{ρ:En}
section
def vO(G:List D->R D)(a:AF):EF:=fun ρ=>(a ρ).bind fun x=>(G x.1).bind fun d=>match d with
 | .tuple fs=>.ok (.tuple fs,x.2)
 | _=>.bad
def sOb(i:Nat)(c:String)(f:EF):SF:=fun ρ=>(f ρ).bind fun x=>match x.1 with
 | .tuple fs=>match x.2[i]? with
  | some (.ow true _)=>.bad
  | some _=>.ok (.nx,x.2.set i (.ob c fs))
  | none=>.bad
 | _=>.bad
section
variable [Cs]{K:yf}
theorem zdv:∀{ns:List ir} {vs:List V} {m:ir},m∉ns->(ns.zip vs).lookup m=none
 | [],_,m,_=>rfl
 | _::_,[],m,_=>rfl
 | n::ns,v::vs,m,h=>by
  have ne:(m==n)=false:=by
   simp only[beq_eq_false_iff_ne];exact fun z=>h (by rw[z];exact zm ..)
  rw[Bg,yN,ne];exact zdv fun z=>h (yY _ z)
theorem ziy{k:List D×En->R (β×En)}{P:β->En->Hp->Prop}(rel:Rel K ρ σ H)(g:Good K ρ σ H ((iY i c fa ρ).bind k) P) :
  ∃ a ds y,ρ[i]?=some (.ob c ds)/\σ[i]?=some (some (.ref a))/\dF K H (.ob c ds) (some (.ref a))/\fa ρ=.ok y/\Good K ρ σ H (k (.tuple ds::y.1,y.2)) P:=by
 obtain⟨x,ex,g⟩:=g.bt;unfold iY at ex;cases e:ρ[i]? with
 | none=>rw[e]at ex;cases ex
 | some y =>
  rw[e]at ex;cases y with
  | ob c' ds =>
   dsimp only at ex
   split at ex
   ·rename_i gX
    subst gX;have hl:i<σ.length:=by rw[<- rel.len];exact(yQ.mp e).1
    have o:=rel.ok i _ _ e (yO hl);cases es:σ[i] with
    | none=>rw[es]at o;exact o.elim
    | some v =>
     rw[es]at o;cases v with
     | ref a =>
      obtain⟨y,ey,ex⟩:=bj ex;cases ex;exact⟨a,ds,y,rfl,by rw[yO hl,es],o,ey,g⟩
     | _=>exact o.elim
   ·cases ex
  | _=>cases ex
section
variable {m:ir}{apos:yn}{f:dm}{fd:yL}
def xK(K:yf)(c:String)(C:dm)(n:Nat)(G:List D->R D):Sp:=fun vs H Q _=>∃ a dx us ds fs,vs=.ref a::us/\us.length=n/\H a=some (.ins C dx [])/\fi H/\ah K H ds us/\G ds=.ok (.tuple fs) /\
 ∀ H',(∀ b o,b≠a->H b=some o->H' b=some o)->jN K H' a c fs->Q .non H'
def tOb(K:yf)(c:String)(f:EF):TE:=fun σ H Q=>∃ ρ,Rel K ρ σ H/\Good K ρ σ H (f ρ) fun d _ H'=>∀ a fs,d=.tuple fs->jN K H' a c fs->Q (.ref a) H'
def PVB(K:yf)(X:Cx)(c:String)(e:yh)(f:EF):Prop:=X.K=K->PE X e (tOb K c f)
theorem zvr(M:Mk X.K C f)(F:b6 X.prog X.w X.K X.mg X.base (aZ X.prog X.w) k f fd ps (xK X.K c C n G))(hr:aM (k+1) X.A)(hg:Gl X x)(hm:X.mg x=some (.ref C))(hb:Binds X.K fd ps [])(hx:Passes (aZ X.prog X.w) X E)(ha:cY K X (e::es) fa)(hl:iS fa n:=by repeat (first|exact nK|refine nJ ?_))
  (bp:(x==("__debug__":ir))=false:=by decide) (he:yi (e::es) X.env=(false,yu e X.env)::yi es X.env:=by exact FL.se rfl) (aS:(yJ pos (yi es X.env)).any (·.1)=false:=by exact FL.sp rfl) :
  PVB K X c (.Call (.Name x p) (e::es) [] pos) (vO G fa):=fun hK=>by
 subst hK;refine(zjX M F hr hg hm hb .nil hx (ha rfl) bp he aS).weak fun σ H Q=>?_;rintro⟨ρ,rel,q⟩;obtain⟨y,ey,q0⟩:=q.bt;have hy:=hl ρ y ey;refine⟨ρ,rel,?_⟩;rw[ey];intro H1 aj aB vs fs a dx na ndx ne;obtain⟨d,ed,q2⟩:=(q0.step aB).cE;cases d with
 | tuple fds =>
  have s1:ay H1 (upd (upd H1 dx (.own a)) a (.ins C dx [])):=(ay.upd ndx).trans (ay.upd (by rw[aN (zq ne)];exact na));rw[Am];refine⟨a,dx,vs,y.1,fds,rfl,by rw[fs.len,hy],ck,aj.cst.mono (ax.of s1),fs.mono (ax.of s1),ed,fun H' kp ob=>⟨rfl,?_⟩⟩;have s2:ay H1 H':=fun b o eb=>kp b o (fun z=>by subst z;rw[na]at eb;cases eb) (s1 b o eb);exact q2.new aj s2 a fds rfl ob
 | _=>exact q2.elim
end
end
end
variable {sts:List yx}{g:AF}{Ca:dm}{C:SC}
section
noncomputable def Tf:HO->Prop
 | .tup _=>True
 | .frz _ _=>True
 | _=>False
def pG(H H':Hp):Prop:=∀ a o,H a=some o->Tf o->H' a=some o
section
variable {K:yf}
mutual
theorem Fz.gJ(e:pG H H'):∀(d:yI) (v:V),Fz K H d v->Fz K H' d v
 | .none,v,h=>by simp only[Fz]at h ⊢;exact h
 | .bool b,v,h=>by simp only[Fz]at h ⊢;exact h
 | .int i,v,h=>by simp only[Fz]at h ⊢;exact h
 | .str x,v,h=>by simp only[Fz]at h ⊢;exact h
 | .list xs,v,h=>by
  simp only[Fz]at h ⊢;obtain⟨a,vs,e1,h1,h2⟩:=h;refine⟨a,vs,e1,?_,ah.gJ e xs vs h2⟩;rcases h1 with⟨o,h1⟩|h1
  ·exact .inl ⟨o,e _ _ h1 trivial⟩
  ·exact .inr h1
 | .tuple xs,v,h=>by
  simp only[Fz]at h ⊢;obtain⟨a,vs,e1,h1,h2⟩:=h;refine⟨a,vs,e1,?_,ah.gJ e xs vs h2⟩;rcases h1 with h1|⟨o,h1⟩
  ·exact .inl (e _ _ h1 trivial)
  ·exact .inr ⟨o,e _ _ h1 trivial⟩
 | .dict ag,v,h=>by
  simp only[Fz]at h ⊢;obtain⟨a,o,e1,h⟩:=h;obtain⟨kk,h1,h2⟩:=h;exact⟨a,o,e1,⟨kk,e _ _ h1 trivial,aX.gJ e ag kk h2⟩⟩
theorem ah.gJ(e:pG H H'):∀(ds:List yI) (vs:List V),ah K H ds vs->ah K H' ds vs
 | [],vs,h=>by simp only[ah]at h ⊢;exact h
 | d::ds,vs,h=>by
  simp only[ah]at h ⊢;obtain⟨v,r,e1,h1,h2⟩:=h;exact⟨v,r,e1,Fz.gJ e d v h1,ah.gJ e ds r h2⟩
theorem aX.gJ(e:pG H H'):∀(ag:List (yI×yI)) (kk:List (List Key×V)),aX K H ag kk->aX K H' ag kk
 | [],kk,h=>by simp only[aX]at h ⊢;exact h
 | (k,d)::r,kk,h=>by
  simp only[aX]at h ⊢;obtain⟨q,v,t,e1,e2,h1,h2⟩:=h;exact⟨q,v,t,e1,e2,Fz.gJ e d v h1,aX.gJ e r t h2⟩
end
end
section
variable [Cs]{K:yf}{ρ':En}
theorem zo4{a dx:dm}{fs fM:List (ir×V)}(h:H a=some (.ins Ca dx fs)):pG H (upd H a (.ins Ca dx fM)):=fun b o e t=>by
 rw[aN fun z=>by subst z;rw[h]at e;cases e;exact t];exact e
def Part(Ca:dm)(n:Nat):Prop:=∀ c ns,Cs.O c=some (Ca,ns)->n<ns.length
theorem Rel.ins{a Ca dx:dm}{fs fM:List (ir×V)}(r:Rel K ρ σ H)(h:H a=some (.ins Ca dx fs))(np:Part Ca fs.length):Rel K ρ σ (upd H a (.ins Ca dx fM)):=by
 have fw:pG H (upd H a (.ins Ca dx fM)):=zo4 h;refine⟨r.len,fun i x v e1 e2=>?_,r.sep,fun b u e=>?_⟩
 ·have o:=r.ok i x v e1 e2
  cases x with
  | no=>trivial
  | val d=>cases v with
   | none=>exact o.elim
   | some v=>exact Fz.gJ fw d v o
  | ow p d=>cases v with
   | none=>exact o.elim
   | some v=>cases v with
    | ref b =>
     have ne:b≠a:=fun z=>by
      obtain⟨u,hu,ow⟩:=cC.own o;subst z;rw[h]at hu;cases hu;exact ow
     cases d with
     | list ds=>obtain⟨vs,h1,h2⟩:=o;exact⟨vs,by rw[aN ne];exact h1,ah.gJ fw _ _ h2⟩
     | dict ag =>
      obtain⟨kk,h1,h2⟩:=o;exact⟨kk,by rw[aN ne];exact h1,aX.gJ fw _ _ h2⟩
     | _=>exact o.elim
    | _=>exact o.elim
  | ob c ds=>cases v with
   | none=>exact o.elim
   | some v=>cases v with
    | ref b =>
     rcases o with⟨C',ns,dx',vs,h1,h2,h3,h4⟩|⟨C',dd,h2,hO,ns,vs,h1,h3,h5,h4⟩
     ·have ne:b≠a:=fun z=>by
       subst z;rw[h]at h2;cases h2;have:=np c ns h1;rw[Ef,h3,Ee]at this;exact BJ _ this
      exact .inl ⟨C',ns,dx',vs,h1,by rw[aN ne];exact h2,h3,ah.gJ fw _ _ h4⟩
     ·have ne:∀ b u,H b=some u->(∀ C dx fs,u≠.ins C dx fs)->b≠a:=fun b u q z y=>by
       subst y;rw[h]at q;cases q;exact z _ _ _ rfl
      refine .inr ⟨C',dd,by rw[aN (ne _ _ h2 (fun _ _ _ z=>nomatch z))];exact h2,hO,ns,vs,h1,h3,?_,ah.gJ fw _ _ h4⟩;cases dd with
      | none=>exact h5
      | some dx'=>exact(aN (ne _ _ h5 (fun _ _ _ z=>nomatch z))).trans h5
    | _=>exact o.elim
 ·obtain⟨o,xs,rfl⟩:=Cs.st b u e
  exact fw b _ (r.cst b _ e) trivial
def qS(K:yf)(Ca:dm)(i:Nat)(ns:List ir)(fa:AF):TS:=fun Dn σ H=>∃ ρ a dx fs ds ρ',Rel K ρ σ H/\σ[i]?=some (some (.ref a))/\H a=some (.ins Ca dx fs)/\(∀ n∈ns,fs.lookup n=none)/\ns.Nodup/\fs.length+ns.length<1000/\(∀ c cV,Cs.O c=some (Ca,cV)->cV.length=fs.length+ns.length)/\fa ρ=.ok (ds,ρ') /\
 ∀ σ' H' vs,ah K H' ds vs->H' a=some (.ins Ca dx (fs++ns.zip vs))->(∀ b o,b≠a->H b=some o->¬ MA ρ σ b->H' b=some o)->Dn.nx σ' H'
theorem zki{f:ir}{v:V}:∀{fs:List (ir×V)},fs.lookup f=none->fO f v fs=fs++[(f,v)]
 | [],_=>rfl
 | (g,x)::r,h=>by
  rw[yN]at h;have ne:(f==g)=false:=by
   cases q:f==g with
   | false=>rfl
   | true=>rw[q]at h;cases h
  rw[ne]at h;unfold fO;rw[if_neg fun z=>by subst z;simp at ne,zki h]
  rfl
theorem zua:b9 X [] (qS K Ca i [] af):=zeE.weak fun Dn σ H=>by
 rintro⟨ρ,a,dx,fs,ds,ρ',rel,hs,ha,_,_,_,_,ef,q⟩;cases ef;exact q σ H [] (by simp[ah]) (by simpa using ha) fun b o _ e _=>e
theorem zt9{n self:ir}{rest:List yx}{pa:yn}(hK:X.K=K)(hc:fG K Ca)(na:ik K Ca n)(hv:PE X (.Name self px) (dD i))(he:PV K X e f)(hr:b9 X rest (qS K Ca i ns fa))(hs:zB e (some (.Attribute (.Name self px) n pa)) pos.line X.env=pure false:=by rfl) :
  b9 X (.Assign [.Attribute (.Name self px) n pa] e pos::rest) (qS K Ca i (n::ns) (aa f fa)):=by
 subst hK;refine(qE (zuz hv (he rfl) hs) hr).weak fun Dn σ H=>?_;rintro⟨ρ,a,dx,fs,ds,ρ',rel,hsg,ha,hn,nd,hlen,hO,ef,q⟩;obtain⟨x,ex,ef⟩:=bj (show(f ρ).bind _=_ from ef);obtain⟨y,ey,ef⟩:=bj ef;cases ef;obtain⟨d,ρ1⟩:=x;refine⟨ρ,rel,?_⟩;rw[ex];intro H1 aj aB v fz;have fB:∀ b o,H b=some o->pL o->¬ MA ρ σ b:=fun b o e s m=>by
  obtain⟨u,hu,ow⟩:=rel.et m;rw[e]at hu;cases hu;exact ow.iI s
 have ha1:H1 a=some (.ins Ca dx fs):=aB.kp a _ ha (fB a _ ha trivial);have ln:fs.lookup n=none:=hn n (zm ..);have hp:=zki (v:=v) ln;rw[AZ]at nd;rw[yK]at hlen;refine⟨.ref a,hsg,a,Ca,dx,fs,rfl,ha1,hc,na,by omega,?_⟩;rw[hp];have part:Part Ca fs.length:=fun c cV e=>by
  have:=hO c cV e;rw[yK]at this
  omega
 refine⟨ρ1,a,dx,fs++[(n,v)],y.1,y.2,aj.ins ha1 part,hsg,ck,fun m hm=>?_,nd.2,by rw[Br];simp;omega,fun c cV e=>?_,ey,fun σ' H' vs fv ea kp=>?_⟩
 ·have ne:(m==n)=false:=by
   simp only[beq_eq_false_iff_ne];exact fun z=>nd.1 (z▸hm)
  rw[List.lookup_append,hn m (yY _ hm)];simp[yN,ne]
 ·rw[hO c cV e,Br];simp;omega
 ·have k1:∀ b o,b≠a->H1 b=some o->¬ MA ρ1 σ b->H' b=some o:=fun b o ne e n=>kp b o ne (by rw[aN ne];exact e) n
  have fw:pG H1 H':=fun b o e t=>k1 b o (fun z=>by subst z;rw[ha1]at e;cases e;exact t) e fun m=>by
   obtain⟨u,hu,ow⟩:=aj.et m;rw[e]at hu;cases hu;cases o <;> first|exact ow|exact t
  refine q σ' H' (v::vs) (by simp only[ah];exact⟨v,vs,rfl,Fz.gJ fw d v fz,fv⟩) ?_ fun b o ne e nm=>k1 b o ne (aB.kp b o e nm) fun m=>nm (aB.ma.mpr m);rw[ea,Bg,List.append_assoc]
  rfl
def sIn(s:SF)(g:AF):AF:=fun ρ=>(s ρ).bind fun x=>match x.1 with
 | .nx=>g x.2
 | _=>.bad
noncomputable def qT(K:yf)(C:SC)(Ca:dm)(ns:List ir)(g:AF):TS:=fun Dn σ H=>∃ ρ a dx ds ρ',bc K C ρ σ H/\σ[0]?=some (some (.ref a))/\C.H₀ a=some (.ins Ca dx [])/\¬ MA C.ρ₀ C.σ₀ a/\ns.Nodup/\ns.length<1000/\(∀ c cV,Cs.O c=some (Ca,cV)->cV.length=ns.length)/\g ρ=.ok (ds,ρ') /\
 ∀ σ' H' vs,ah K H' ds vs->H' a=some (.ins Ca dx (ns.zip vs))->(∀ b o,b≠a->C.H₀ b=some o->¬ MA C.ρ₀ C.σ₀ b->H' b=some o)->Dn.nx σ' H'
theorem zuN(h:b9 X sts (qS K Ca 0 ns fa)):b9 X sts (qT K C Ca ns fa):=h.weak fun Dn σ H=>by
 rintro⟨ρ,a,dx,ds,ρ',rel,hs,ha,nm,nd,hl,hO,eg,q⟩;refine⟨ρ,a,dx,[],ds,ρ',rel.rel,hs,rel.keep a _ ha nm,fun n _=>rfl,nd,by simpa using hl,fun c cV e=>by simpa using hO c cV e,eg,fun σ' H' vs fv ea kp=>q σ' H' vs fv (by simpa using ea) fun b o ne e n=>?_⟩;exact kp b o ne (rel.keep b o e n) (rel.wM e n)
theorem zke{st:yx}{rest:List yx}(hK:X.K=K)(h1:rN K X dom st s)(h2:b9 X rest (qT K C Ca ns g))(hd:0∉dom:=by decide):b9 X (st::rest) (qT K C Ca ns (sIn s g)):=(qE (h1 hK C) h2).weak fun Dn σ H=>by
 rintro⟨ρ,a,dx,ds,ρ',rel,hs,ha,nm,nd,hl,hO,eg,q⟩;obtain⟨x,ex,eg⟩:=bj (show(s ρ).bind _=_ from eg);obtain⟨fl,ρ1⟩:=x;cases fl with
 | nx =>
  refine⟨ρ,rel,?_⟩;rw[ex];intro σ' H' r fz fm;exact⟨ρ1,a,dx,ds,ρ',r,(fm 0 hd).trans hs,ha,nm,nd,hl,hO,eg,q⟩
 | _=>cases eg
end
def xC(n N m:Nat)(g:AF)(ds:List D):R D :=
 if ds.length=n then(g (.no::(ds.map Sl.val++yq (N-n-1) .no))).bind fun y=>aY (y.1.length==m) (.ok (.tuple y.1)) else .bad
section
variable [Cs]{K:yf}
theorem zoP{st:yx}{f:dm}{fd:yL}(ho:Cs.O c=some (Ca,ns))(tJ:∀ c' cV,Cs.O c'=some (Ca,cV)->cV.length=ns.length)(nd:ns.Nodup)(qo:ns.length<1000)(h:c9 K x q st f fd)(S:d9 N ps (aH st))(c5:ps.length=n+1)(cZ:ps.length<=N.length)
  (hb:∀(C:SC) (aq:gV) (A:yy) (outer:List yC) (s:kb) (H:Hp) (E:XK),aM k (A.deeper (zc q (aH st) s.heap.objs.size f aq))->b9 (dw (aZ P w) P w K mg base N q (aH st) f aq A outer s H E) (bW st) (qT K C Ca ns g)) :
  b6 P w K mg base (aZ P w) (k+1) f fd ps (xK K c Ca n (xC n N.length ns.length g)):=by
 refine h.mz S (fun vs H Q E ⟨a,dx,us,ds,fs,e,hl,_⟩=>by rw[e,yK,hl,c5]) fun aq A outer s H vs Q E hr hq=>?_;obtain⟨a,dx,us,ds,fs,rfl,hl,ha,cst,fa,hF,q⟩:=hq;have hd:ds.length=n:=by rw[<- fa.len,hl]
 unfold xC at hF;rw[if_pos hd]at hF;obtain⟨y,ey,hF⟩:=bj hF;have hy:y.1.length=ns.length/\y.1=fs:=by
  unfold aY at hF
  split at hF
  ·rename_i hh
   cases hF;exact⟨beq_iff_eq.mp hh,rfl⟩
  ·cases hF
 obtain⟨hyl,rfl⟩:=hy;obtain⟨vM,ρ'⟩:=y;have cu:L2.start N (.ref a::us)=some (.ref a)::(us.map some++yq (N.length-n-1) none):=by
  unfold L2.start;rw[yK,hl,zh,zN,show N.length-(n+1)=N.length-n-1 by omega]
 have no:∀(i:Nat) p d,(Sl.no::(ds.map Sl.val++yq (N.length-n-1) .no))[i]?≠some (.ow p d):=fun i p d e=>by
  rcases yH.mp (Ag e)with m|m
  ·cases m
  ·rcases BL.mp m with m|m
   ·obtain⟨_,_,z⟩:=As.mp m;cases z
   ·have:=Fu m;cases this
 have fB:∀ σ b,¬ MA (Sl.no::(ds.map Sl.val++yq (N.length-n-1) .no)) σ b:=fun σ b ⟨i,⟨p,d,z⟩,_⟩=>no i p d z;have r0:=(xA cst fa).pad (N.length-n-1);refine⟨qT K ⟨H,L2.start N (.ref a::us),Sl.no::(ds.map Sl.val++yq (N.length-n-1) .no)⟩ Ca ns g,hb _ aq A outer s H E hr,Sl.no::(ds.map Sl.val++yq (N.length-n-1) .no),a,dx,vM,ρ',?_,by rw[cu];rfl,ha,fB _ a,nd,qo,tJ,ey,fun σ' H' vs fv e kp=>?_⟩
 ·refine⟨?_,fun a o e _=>e,fun i a d e _=>absurd e (no i false d),fun i=>AR,fun i d e=>rfl,fun i p d e=>absurd e (no i p d)⟩
  rw[cu];refine⟨by simpa using r0.len,fun i x v e1 e2=>?_,fun i j b ⟨⟨p,d,z⟩,_⟩=>absurd z (no i p d),cst⟩;cases i with
  | zero=>simp at e1;subst e1;trivial
  | succ i=>exact r0.ok i x v (by simpa using e1) (by simpa using e2)
 ·refine q H' (fun b o ne e=>kp b o ne e (fB _ b)) ⟨Ca,ns,dx,vs,ho,e,?_,fv⟩
  rw[fv.len];exact hyl
end
end
end FL
namespace L2
open PySem PySem.Spec
open PySem.Builtin.Str (strSub)
variable {X:Cx}
end L2
namespace FL
open PySem L2 PySem.Spec
open PyProof.Rows hiding St
section
variable [Cs]
end
section
variable [Cs]
end
end FL
namespace L2
open PySem PySem.Spec
variable {X:Cx}{e:yh}{te:TE}{pos:yn}
end L2
namespace FL
open PySem L2 PySem.Spec
open PyProof.Rows hiding St
variable [Cs]
end FL
namespace L2
open PySem PySem.Spec
variable {X:Cx}
end L2
namespace FL
open PySem L2 PySem.Spec
open PyProof.Rows hiding St
section
variable [Cs]
end
section
variable [Cs]
end
end FL
namespace L2
open PySem PySem.Spec PyProof.Rows
end L2
namespace FL
open PySem L2 PySem.Spec
open PyProof.Rows hiding St
end FL
namespace L2
open PySem PySem.Spec PyProof.Rows PySem.W
end L2
namespace FL
open PySem L2 PySem.Spec
open PyProof.Rows hiding St
end FL
namespace L2
open PySem PySem.Spec PyProof.Rows PySem.W
variable {w:yv}{s:kb}{X:Cx}{v:V}{σ:L2.St}{A:yy}{u:gV}{prog:yw}{C Q:Bool->kb->Prop}{E:gV->kb->Prop}{k:WK}{H:Hp}{pins:List (dm×yp)}
section
def rP(H:Hp)(k:WK)(v:V):Prop:=∃ b j ws,v=.ref b/\k.2=[j]/\dB H b (.int k.1::.int j::ws)
noncomputable def iX(H:Hp):List WK->List V->Prop
 | [],vs=>vs=[]
 | k::ks,vs=>∃ v t,vs=v::t/\rP H k v/\iX H ks t
theorem iX.len{H:Hp}:∀{ks:List WK} {vs:List V},iX H ks vs->vs.length=ks.length
 | [],vs,h=>by have:vs=[]:=h;subst this;rfl
 | k::ks,vs,h=>by obtain⟨v,t,rfl,_,h2⟩:=h;simp[iX.len h2]
theorem iX.get{H:Hp}:∀{ks:List WK} {vs:List V} {i:Nat} {v:V},iX H ks vs->vs[i]?=some v->rP H (ks.getD i (0,[])) v
 | [],vs,i,v,h,e=>by have:vs=[]:=h;subst this;simp at e
 | k::ks,vs,i,v,h,e=>by
  obtain⟨u,t,rfl,h1,h2⟩:=h;cases i with
  | zero=>simp at e;subst e;exact h1
  | succ i=>simpa using iX.get h2 (i:=i) (by simpa using e)
section
variable {b fin:Bool}
theorem zor(p:gV)(h:Q true s):yj (ym prog w) A (eqBool p p) Q E s:=by
 unfold eqBool;refine zH ?_;rw[if_pos (beq_self_eq_true p)];exact yg (Bz (yt h))
theorem ziZ(h:Q fin s):∀(l:List gV) (i:Nat),KatLex prog w A b fin Q (l.zip l) i s
 | [],_=>kat_nil h
 | p::r,i=>kat_cons (zor p (kat_yes (ziZ h r (i+1))))
end
section
theorem zep(I:Inv X pins σ H s)(h:rP H k v)(r:RelV v u) :
  ∃ b o n0 j,∃(tk tj:yP) (rest:List gV),v=.ref b/\u=.ref b/\s.heap.get? b=some o/\o.cls=.type "tuple"/\o.data=.seq (.int k.1 tk::.int j tj::rest).toArray n0/\k.2=[j]:=by
 obtain⟨b,j,ws,rfl,hj,h1⟩:=h;cases r;obtain⟨its,rv,⟨o,ho,hc,n,hd⟩,_⟩:=I.tuple (.inl h1);cases rv with
 | cons r1 rv =>
  cases rv with
  | cons r2 rv =>
   obtain⟨tk,rfl⟩:=r1;obtain⟨tj,rfl⟩:=r2;exact⟨b,o,n,j,tk,tj,_,rfl,rfl,ho,hc,hd,hj⟩
theorem ztD(I:Inv X pins σ H s){k':WK}{v':V}{u':gV}(h:rP H k v)(h':rP H k' v')(r:RelV v u)(r':RelV v' u')(hu:k=k'->v=v')
  (q:C (f9 k k') s):yj (ym X.prog X.w) X.A (keyLt' (tuples' true) u u') C E s:=by
 obtain⟨b,o,n0,j,tk,tj,rest,hv,rfl,ho,hc,hd,hj⟩:=zep I h r;obtain⟨b',o',n0',j',tk',tj',zwI,hv',rfl,eS,gW,iA,iC⟩:=zep I h' r';refine kat_lt ho hd eS iA ?_;unfold f9 at q
 by_cases e1:k.1=k'.1
 ·rw[if_pos e1,hj,iC]at q
  by_cases e2:j=j'
  ·have ek:k=k':=by
    obtain⟨x,y⟩:=k;obtain⟨x',y'⟩:=k';simp only at e1 hj iC;rw[e1,hj,iC,e2]
   have ev:=hu ek;rw[hv,hv']at ev;cases ev;rw[ho]at eS;cases eS;rw[hd]at iA;have el:(Bv k.1 tk::.int j tj::rest)=(.int k'.1 tk'::.int j' tj'::zwI):=by
    injection iA with h1 h2
    simpa using h1
   rw[<- el];rw[show HT.lexLt [j] [j']=false by rw[e2];simp[HT.lexLt]]at q;refine ziZ ?_ _ _;simpa using q
  ·rw[show HT.lexLt [j] [j']=decide (j<j') by simp[HT.lexLt,e2]]at q
   refine kat_cons (Ds ?_);rw[show(k.1==k'.1)=true from by simpa using e1];refine kat_yes (kat_cons (Ds ?_));rw[show(j==j')=false from by simpa using e2];exact kat_no (kat_one _ _ (lt_int q))
 ·rw[if_neg e1]at q
  refine kat_cons (Ds ?_);rw[show(k.1==k'.1)=false from by simpa using e1];exact kat_no (oneLt_int q)
end
end
variable {α:Type}{kd:List WK}{P:CF->kb->Prop}{n0:Nat}{d:dm}{us:List gV}{xs:List V}
section
theorem zsJ{l:List α}(h:l.Nodup){i j:Nat}(hi:i<l.length)(hj:j<l.length)(e:l[i]=l[j]):i=j:=by
 rcases Nat.lt_trichotomy i j with c|c|c
 ·exact absurd e (Fp.mp h i j hi hj c)
 ·exact c
 ·exact absurd e.symm (Fp.mp h j i hj hi c)
section
variable {a:dm}
theorem zkU(I:Inv X pins σ H s)(ho:s.heap.get? a=some (zV "list" us.toArray n0))(hf:fT X pins H a)(rv:Vals xs us)(hl:us.length<64)(pk:iX H kd xs)(nd:kd.Nodup)
  (hQ:∀(p:Array Nat) (s':kb),Arr us.length p->Up (jv kd) p us.length->Inv X pins σ (upd H a (.lst (p.toList.map fun i=>xs.getD i .non))) s'->P (.done (.ret .none)) s') :
  yj (ym X.prog X.w) X.A (Ah.«list.sort» ⟨[.ref a],[]⟩) P E s:=by
 have qt:=rv.length;have wa:=pk.len;have s1:=Bu s.heap a (zF fun _=>(#[]:Array gV));obtain⟨e1,ho1⟩:∃ e1,(s.heap.update a (zF fun _=>(#[]:Array gV))).get? a=some (zV "list" #[] e1):=⟨_,Ed ho fun _=>#[]⟩;rw[list_sort_plain];refine yg (listItems_at ho rfl ?_);refine yg (Dp ho rfl ?_ (by rw[yU,zC];omega) (zJ _));refine yg (seqEpoch_at ho1 rfl ?_);refine yg (wpAny_newTuple ?_ (by show us.length<=_;rw[zC];omega));refine yg (Fv ?_ (zJ _));refine zH ?_;have I1:Inv X pins σ H { s with heap:=s.heap.update a (zF fun _=>(#[]:Array gV)) }:=I.turned (t':=s.toks) (fun b o hb e=>(s1.2 b hb).trans e) hf.1 hf.2.1 hf.2.2.2.1 hf.2.2.2.2.1 hf.2.2.2.2.2;have k2:∀ b u,(s.heap.update a (zF fun _=>(#[]:Array gV))).get? b=some u->(((s.heap.update a (zF fun _=>(#[]:Array gV))).push (zV "tuple" us.toArray 0)).push (zV "list" #[] 0)).get? b=some u:=fun b u e=>yM _ (yM _ e);have I2:Inv X pins σ H { s with heap:=((s.heap.update a (zF fun _=>(#[]:Array gV))).push (zV "tuple" us.toArray 0)).push (zV "list" #[] 0) }:=I1.kept (t':=s.toks) k2;have e8:=k2 a _ ho1;generalize (((s.heap.update a (zF fun _=>(#[]:Array gV))).push (zV "tuple" us.toArray 0)).push (zV "list" #[] 0))=h2' at I2 e8 ⊢;have fin:∀ p:Array Nat,Arr us.length p->Up (jv kd) p us.length->P (.done (.ret .none)) { s with heap:=h2'.update a (zF fun _=>A8 (p.toList.map fun i=>us.getD i yW)) }:=fun p ar up=>by
  have t2:=Bu h2' a (zF fun _=>A8 (p.toList.map fun i=>us.getD i yW));obtain⟨c2,iz⟩:∃ c2,(h2'.update a (zF fun _=>A8 (p.toList.map fun i=>us.getD i yW))).get? a=some (zV "list" (A8 (p.toList.map fun i=>us.getD i yW)) c2):=⟨_,Ed e8 fun _=>A8 (p.toList.map fun i=>us.getD i yW)⟩;have c5:p.size=us.length:=ar.sz;refine hQ p _ ar up (I2.adopt (t':=s.toks) (fun b u hb e=>(t2.2 b hb).trans e) hf ?_);have mem:∀ i∈p.toList,i<us.length:=fun i hi=>by
   have:=(Ec.mp ar.pm).mem_iff.mp hi;simpa using this
  exact⟨by rw[za,Cj,c5,zC];omega,p.toList.map fun i=>us.getD i yW,c2,zln p.toList rv mem,iz⟩
 have osz:∀ p:Array Nat,Arr us.length p->(A8 (p.toList.map fun i=>us.getD i yW)).size=us.length:=fun p ar=>by rw[yU,za,Cj,ar.sz]
 dsimp only
 by_cases h2:us.toArray.size<2
 ·rw[if_pos h2,if_pos h2]
  rw[yU]at h2;refine yg (yt ?_);rw[StateT.run_pure];refine yg (yt ?_);dsimp only;have up:Up (jv kd) (A8 (z9 us.length)) us.length:=fun i j e7 hj=>by
   have:i=j:=by omega
   subst this;exact(zjP kd).refl _
  have har:(arrOf (SortSt.mk' general' (us.toArray.zip us.toArray) #[] 7 none)).map (·.2)=A8 ((A8 (z9 us.length)).toList.map fun i=>us.getD i yW):=by
   show((us.toArray.zip us.toArray).map (·.2))=_;apply Array.toList_inj.mp;rw[Array.toList_map,ksk_zip];simp only[Gw];rw[List.map_snd_zip (by omega)];apply Fo (by simp);intro i h3 h4;simp[Aj,yO h3]
  rw[har];refine yg (seqEpoch_at e8 rfl ?_);refine yg (Dp e8 rfl ?_ (zJ _) (zA (C3 (osz _ (zgJ _))) (by rw[zC];omega)));simp only[bne_self_eq_false,zy,if_false];exact yt (fin _ (zgJ _) up)
 ·rw[if_neg h2,if_neg h2]
  rw[yU]at h2;have gq:∀{ks:List WK} {kv:List V} {ds:List gV},iX H ks kv->Vals kv ds->∃ fs:List gV,KatTups h2' ds fs/\fs.length=ds.length/\∀ v∈fs,∃ i t,v=Bv i t:=by
   intro ks
   induction ks with
   | nil=>intro kv ds h r;have:kv=[]:=h;subst this;cases r;exact⟨[],.nil,rfl,fun v hv=>by simp at hv⟩
   | cons k r0 ih =>
    intro kv ds h r;obtain⟨v,t,rfl,h1,h2⟩:=h;cases r with
    | cons r1 r2 =>
     obtain⟨fs,t1,t2,t3⟩:=ih h2 r2;obtain⟨b,o,n0,j,tk,tj,rest,_,rfl,g1,g2,g3,_⟩:=zep I2 h1 r1;refine⟨.int k.1 tk::fs,.cons g1 g2 g3 rfl t1,by simp[t2],fun v hv=>?_⟩;rcases yH.mp hv with rfl|hv
     ·exact⟨_,_,rfl⟩
     ·exact t3 v hv
  obtain⟨fs,kt,lfs,hfs⟩:=gq pk rv;refine yg (kat_kind (T:=.type "int") kt (by omega) (fun v hv=>by obtain⟨i,t,rfl⟩:=hfs v hv;exact Looks.of_pure rfl) (by decide) ?_);rw[show((Cg "int" != Cg "tuple"):Bool)=true from by decide];refine yg (zo (kat_run (E:=E) (vs:=us) (ks:=us) (κ:=tuples' true) (Q:=fun iQ s2=>s2={ s with heap:=h2' }/\∃ p:Array Nat,Arr us.length p/\Up (jv kd) p us.length/\arrOf iQ=p.map (kas_item (us.toArray.zip us.toArray))/\failedOf iQ=none) rfl (by omega) hl
   (G:=fun p s2=>s2={ s with heap:=h2' }/\Arr us.length p/\Up (jv kd) p us.length) (fun p iQ s2 a1 a2 a3 a4=>⟨a4.1,p,a4.2.1,a4.2.2,a2,a3⟩) ?_) ?_ fun _ _ z=>z)
  ·refine zw9 (P:=fun s2=>s2={ s with heap:=h2' }) (zjP kd) (fun i j C s2 hi hj es hC=>?_) (by omega) rfl fun p s2 es ar up=>⟨es,ar,up⟩
   subst es;have ziI:∀ i,i<us.length->∃ v u,xs[i]?=some v/\RelV v u/\us.getD i yW=u:=fun i hi=>by
    have iB:i<xs.length:=by omega
    obtain⟨u,eu,ru⟩:=rv.get (yO iB);exact⟨_,u,yO iB,ru,by rw[Aj,eu];rfl⟩
   obtain⟨v,u,g1,g2,g3⟩:=ziI i hi;obtain⟨v',u',g1',g2',g3'⟩:=ziI j hj;show yj _ _ (keyLt' (tuples' true) (us.getD i yW) (us.getD j yW)) _ _ _;rw[g3,g3'];refine ztD I2 (pk.get g1) (pk.get g1') g2 g2' (fun ek=>?_) (hC _ rfl);have iB:i<kd.length:=by omega
   have iC:j<kd.length:=by omega
   rw[Aj,Aj,yO iB,yO iC]at ek;have:i=j:=zsJ nd iB iC ek;subst this;rw[g1]at g1';exact zt g1'
  ·rintro⟨⟨⟩,iQ⟩ s2 ⟨es,p,ar,up,har,hfl⟩
   have nV:s2={ s with heap:=h2' }:=es;subst nV;dsimp only;rw[kat_snds rfl har];refine yg (seqEpoch_at e8 rfl ?_);refine yg (Dp e8 rfl ?_ (zJ _) (zA (C3 (osz p ar)) (by rw[zC];omega)));rw[hfl];simp only[bne_self_eq_false,zy,if_false];exact yt (fin p ar up)
end
end
variable {Q:VK}
section
section
theorem znf(I:Inv X pins σ H s)(sq:bq X.K H d xs)(hn:xs.length<64)(pk:iX H kd xs)(nd:kd.Nodup)
  (hq:∀(p:Array Nat) (a:dm),Arr xs.length p->Up (jv kd) p xs.length->H a=none->Q (.ref a) (upd H a (.lst (p.toList.map fun i=>xs.getD i .non)))) :
  yj (ym X.prog X.w) X.A (call (.builtin "sorted") [.ref d]) (EP X pins σ Q) E s:=by
 obtain⟨us,rv,p,hz⟩:=I.list sq;have qt:=rv.length;refine Gx kind_sorted plain_sorted entry_sorted (args_sorted1 _) ?_;unfold Ah.«sorted»;refine yg (m:=checkCount "sorted" 1 1 _) (yt ?_);refine yg (collect_list p.isList ?_ (by rw[<- rv.length];exact hz));have keep:∀ b o,s.heap.get? b=some o->((s.heap.push (zV "list" #[] 0)).update s.heap.objs.size (zF (·++us.toArray))).get? b=some o:=fun b o e =>
  ((Bu ..).2 b (yX (yE e))).trans (yM _ e)
 generalize (s.heap.push (zV "list" #[] 0)).update s.heap.objs.size (zF (·++us.toArray))=h1 at keep ⊢;have I1:Inv X pins σ H { s with heap:=h1 }:=I.kept (t':=s.toks) keep;refine yg (Fv ?_ (by rw[zC];omega));have oy:(h1.push (zV "list" us.toArray 0)).get? h1.objs.size=some (zV "list" us.toArray 0):=y9 _ rfl;have I2:Inv X pins σ H { s with heap:=h1.push (zV "list" us.toArray 0) }:=I1.kept (s:={ s with heap:=h1 }) (t':=s.toks) fun b u e=>yM _ e;have fa:fT X pins H h1.objs.size:=I1.kH (yA _) (I1.au.fresh (yA _));refine yg (zH (A2 slot_list_sort ⟨_,oy,rfl⟩ entry_list_sort ?body (args_list_sort _)))
 case body =>
  show yj (ym X.prog X.w) X.in1.in1.A (Ah.«list.sort» ⟨[.ref h1.objs.size],[]⟩) _ _ _;refine zkU (X:=X.in1.in1) I2.in1.in1 oy fa rv (by omega) pk nd fun p s' ar up I3=>⟨_,rfl,?_⟩;exact yt ⟨_,rfl,.ref h1.objs.size,_,I3.qz.qz,rfl,hq p _ (by rw[qt];exact ar) (by rw[qt];exact up) fa.1⟩
theorem zne(hc:X.calm=true)(I:Inv X pins σ H s)(rd:uZ H d)(hn:∀ xs,q8 H d xs->xs.length<64)
  (h:∀ xs,q8 H d xs->∃ kd,iX H kd xs/\kd.Nodup/\∀(p:Array Nat) (a:dm),Arr xs.length p->Up (jv kd) p xs.length->H a=none->Q (.ref a) (upd H a (.lst (p.toList.map fun i=>xs.getD i .non)))) :
  yj (ym X.prog X.w) X.A (call (.builtin "sorted") [.ref d]) (EP X pins σ Q) E s:=by
 refine Gx kind_sorted plain_sorted entry_sorted (args_sorted1 _) ?_;unfold Ah.«sorted»;refine yg (m:=checkCount "sorted" 1 1 _) (yt ?_);refine yg (znn (show X.A.in1.handled=none from I.ok.hd hc) I rd hn fun xs us s1 dk rv I1=>?_);have hx:=hn xs dk;have qt:=rv.length;obtain⟨kd,pk,nd,hq⟩:=h xs dk;refine yg (Fv ?_ (by rw[zC];omega));have oy:(s1.heap.push (zV "list" us.toArray 0)).get? s1.heap.objs.size=some (zV "list" us.toArray 0):=y9 _ rfl;have I2:Inv X pins σ H { s1 with heap:=s1.heap.push (zV "list" us.toArray 0) }:=I1.kept (t':=s1.toks) fun b u e=>yM _ e;have fa:fT X pins H s1.heap.objs.size:=I1.kH (yA _) (I1.au.fresh (yA _));refine yg (zH (A2 slot_list_sort ⟨_,oy,rfl⟩ entry_list_sort ?body (args_list_sort _)))
 case body =>
  show yj (ym X.prog X.w) X.in1.in1.A (Ah.«list.sort» ⟨[.ref s1.heap.objs.size],[]⟩) _ _ _;refine zkU (X:=X.in1.in1) I2.in1.in1 oy fa rv (by omega) pk nd fun p s' ar up I3=>⟨_,rfl,?_⟩;exact yt ⟨_,rfl,.ref s1.heap.objs.size,_,I3.qz.qz,rfl,hq p _ (by rw[qt];exact ar) (by rw[qt];exact up) fa.1⟩
end
end
end L2
namespace FL
open PySem L2 PySem.Spec
open PyProof.Rows hiding St
variable {H:Hp}{X:Cx}
section
noncomputable def wX:D->Option WK
 | .tuple (.int i::.int j::_)=>some (i,[j])
 | _=>none
def mD:List D->Option (List WK)
 | []=>some []
 | d::r=>(wX d).bind fun k=>(mD r).map (k::·)
noncomputable def ziT:D->R (List D)
 | .list l=>.ok l
 | .dict ag=>.ok (ag.map (·.1))
 | _=>.bad
def zkT(d:D):R D:=(ziT d).bind fun ks=>aY (leB (ks.length+1) 64) ((R.of (mD ks)).bind fun ws=>aY (decide ws.Nodup) (.ok (.list ((lV (ws.zip ks)).map (·.2)))))
section
variable [Cs]{K:yf}
theorem zj7:∀{ks:List D} {ws:List WK},mD ks=some ws->ws.length=ks.length
 | [],ws,h=>by cases h;rfl
 | d::r,ws,h=>by
  unfold mD at h;cases e:wX d with
  | none=>rw[e]at h;cases h
  | some k =>
   rw[e]at h;cases e2:mD r with
   | none=>rw[e2]at h;cases h
   | some t=>rw[e2]at h;cases h;simp[zj7 e2]
theorem zeA:∀{ks:List D} {ws:List WK} {xs:List V},mD ks=some ws->ah K H ks xs->iX H ws xs
 | [],ws,xs,h,f=>by cases h;simp only[ah]at f;exact f
 | d::r,ws,xs,h,f=>by
  unfold mD at h;cases e:wX d with
  | none=>rw[e]at h;cases h
  | some k =>
   rw[e]at h;cases e2:mD r with
   | none=>rw[e2]at h;cases h
   | some t =>
    rw[e2]at h;cases h;simp only[ah]at f;obtain⟨v,xr,rfl,fv,fr⟩:=f;refine⟨v,xr,rfl,?_,zeA e2 fr⟩;unfold wX at e
    split at e
    ·cases e
     simp only[Fz,ah]at fv;obtain⟨b,vs,rfl,tb,v1,r1,rfl,rfl,v2,r2,rfl,rfl,_⟩:=fv;exact⟨b,_,r2,rfl,rfl,tb⟩
    ·cases e
theorem zm3(hc:X.calm=true):gB X (.builtin "sorted") (uD X.K (one zkT)):=by
 intro pins s σ H xs us Q I r h;obtain⟨ds,d,fa,e,q⟩:=h
 match ds,fa,e with
 | [x],fa,e =>
  simp only[ah]at fa;obtain⟨v,_,rfl,fv,rfl⟩:=fa;obtain⟨u,rfl,ru⟩:=vals1 r;obtain⟨ks,ek,e⟩:=bj (show(ziT x).bind _=.ok d from e);obtain⟨cl,e⟩:=fX e;obtain⟨ws,ew,e⟩:=bj e;obtain⟨cn,e⟩:=fX e;cases e;have ew':=wV ew;have hlen:=lY cl;have nd:ws.Nodup:=of_decide_eq_true cn;have wl:=zj7 ew';have fin:∀(ys:List V),ah X.K H ks ys->∀(p:Array Nat) (a:dm),Arr ys.length p->Up (jv ws) p ys.length->H a=none->∃ b vs,V.ref a=.ref b/\H b=none/\upd H a (.lst (p.toList.map fun i=>ys.getD i .non))=upd H b (.lst vs)/\ah X.K H ((lV (ws.zip ks)).map (·.2)) vs:=fun ys fy p a ar up ha=>by
   have yl:=fy.len;refine⟨a,_,rfl,ha,rfl,?_⟩;rw[<- zw8 wl nd (by rw[<- yl];exact ar) (by rw[<- yl];exact up)];refine fy.pick p.toList fun i hi=>?_;have:=(Ec.mp ar.pm).mem_iff.mp hi;rw[<- yl];simpa using this
  have go:yj (ym X.prog X.w) X.A (call (.builtin "sorted") [u]) (EP X pins σ fun v H1=>∃ b vs,v=.ref b/\H b=none/\H1=upd H b (.lst vs)/\ah X.K H ((lV (ws.zip ks)).map (·.2)) vs) X.xe s:=by
   cases x with
   | list l =>
    cases ek;simp only[Fz]at fv;obtain⟨a,ys,rfl,sx,fy⟩:=fv;cases ru;exact znf I sx.sq (by rw[fy.len];omega) (zeA ew' fy) nd (fin ys fy)
   | dict ag =>
    cases ek;have fv':=fv;simp only[Fz]at fv';obtain⟨a,o,rfl,_⟩:=fv';cases ru;exact zne hc I (zoZ fv) (fun ys dk=>by rw[(za8 fv dk).len];exact hlen) fun ys dk=>⟨ws,zeA ew' (za8 fv dk),nd,fin ys (za8 fv dk)⟩
   | _=>cases ek
  refine aI go fun w s' z=>?_;obtain⟨v,H1,I1,rv,b,vs,rfl,hb,rfl,fz⟩:=z;exact sL fz q ⟨_,_,I1,rv,b,rfl,hb,rfl⟩
 | [],_,e=>exact nomatch (show(R.bad:R D)=.ok d from e)
 | _::_::_,_,e=>exact nomatch (show(R.bad:R D)=.ok d from e)
end
end
section
end
end FL
namespace FL
open PySem L2 PySem.Spec PySem.W
variable {C ns:dm}{f n name:ir}{p:ClassData->Bool}{c t:gV}{r:Option gV}{cs:List dm}
section
section
variable {K:yf}
theorem zd2(s:cI cs K)(e:nsIn K ns name=some r):nsIn (aC cs K) ns name=some r:=by
 unfold nsIn at e ⊢
 split at e
 ·rename_i c d es n sl ho
  rw[gv s ho fun _ _ z=>nomatch z];exact e
 ·cases e
theorem ztC(s:cI cs K)(e:ownIn K name c=some r):ownIn (aC cs K) name c=some r:=by
 cases c with
 | ref a =>
  unfold ownIn at e ⊢;simp only at e ⊢
  split at e
  ·rename_i x y cd sl ho
   rw[gv s ho fun _ _ z=>nomatch z];exact zd2 s e
  ·cases e
 | _=>exact e
theorem zgG(s:cI cs K){name:ir}:∀{l:List gV} {r:Option gV},alongIn K name l=some r->alongIn (aC cs K) name l=some r
 | [],r,e=>e
 | c::l,r,e=>by
  unfold alongIn at e ⊢;cases h:ownIn K name c with
  | none=>rw[h]at e;cases e
  | some o =>
   rw[h]at e;rw[ztC s h];cases o with
   | some v=>exact e
   | none=>exact zgG s e
theorem jY(s:cI cs K)(e:findIn K t name=some r):findIn (aC cs K) t name=some r:=by
 cases t with
 | ref a =>
  unfold findIn at e ⊢;simp only at e ⊢
  split at e
  ·rename_i x y cd sl ho
   rw[gv s ho fun _ _ z=>nomatch z];exact zgG s e
  ·cases e
 | _=>exact e
theorem zum(s:cI cs K)(e:plainGet K C n=true):plainGet (aC cs K) C n=true:=by
 unfold plainGet at e ⊢;rw[zf]at e ⊢;exact⟨by rw[jY s (eq_of_beq e.1)];decide,by rw[jY s (eq_of_beq e.2)];rfl⟩
theorem zhL(s:cI cs K)(e:(clsIn K C).any p=true):(clsIn (aC cs K) C).any p=true:=by
 unfold clsIn at e ⊢
 split at e
 ·rename_i x y cd sl ho
  rw[gv s ho fun _ _ z=>nomatch z];exact e
 ·cases e
theorem fG.cut(s:cI cs K)(h:fG K C):fG (aC cs K) C:=⟨zum s h.pg,zhL s h.hd,zhL s h.po,jY s h.sa⟩
theorem ik.cut(s:cI cs K)(h:ik K C f):ik (aC cs K) C f:=jY s h
end
end
variable {b oc:gV}{o:yp}{a f:dm}{m:ir}{od:Option dm}{sl:Array (Option gV)}
section
section
variable {K:yf}
theorem xV(s:cI cs K)(l:K.lookup a=some o)(n:∀ its m,o.data≠.seq its m)(e:typeIn K (.ref a)=some t):typeIn (aC cs K) (.ref a)=some t:=by
 unfold typeIn at e ⊢;simp only at e ⊢;rw[gv s l n];rw[l]at e;exact e
theorem zkW(s:cI cs K)(l:K.lookup a=some o)(n:∀ its m,o.data≠.seq its m)(e:specialIn K (.ref a) name=some r):specialIn (aC cs K) (.ref a) name=some r:=by
 obtain⟨t,e1,e2⟩:=AD.mp e;exact AD.mpr ⟨t,xV s l n e1,jY s e2⟩
theorem qP(s:cI cs K){r:Bool}(e:subIn K t b=some r):subIn (aC cs K) t b=some r:=by
 cases t with
 | ref D =>
  unfold subIn mroIn at e ⊢;simp only at e ⊢;obtain⟨cd,e1,e2⟩:=AD.mp e;refine AD.mpr ⟨cd,?_,e2⟩;unfold clsIn at e1 ⊢
  split at e1
  ·rename_i x y cd' sl ho
   rw[gv s ho fun _ _ z=>nomatch z];exact e1
  ·cases e1
 | _=>exact e
theorem zpQ(s:cI cs K)(l:K.lookup a=some o)(n:∀ its m,o.data≠.seq its m){r:Bool}(e:instIn K (.ref a) b=some r):instIn (aC cs K) (.ref a) b=some r:=by
 obtain⟨t,e1,e2⟩:=AD.mp e;exact AD.mpr ⟨t,xV s l n e1,qP s e2⟩
theorem ziP(s:cI cs K)(l:K.lookup f=some o)(n:∀ its m,o.data≠.seq its m)(e:isFn K (.ref f)=true):isFn (aC cs K) (.ref f)=true:=by
 unfold isFn at e ⊢;rw[xV s l n (eq_of_beq e)]
 decide
theorem zi1(s:cI cs K)(e:keepIn K (.ref f)=true):keepIn (aC cs K) (.ref f)=true:=by
 unfold keepIn at e ⊢;simp only at e ⊢
 split at e
 ·rename_i ho
  rw[gv s ho fun _ _ z=>nomatch z]
 ·rename_i ho
  rw[gv s ho fun _ _ z=>nomatch z];simp only;rw[zkW s ho (fun _ _ z=>nomatch z) (eq_of_beq e)]
  decide
 ·cases e
theorem Meth.cut(s:cI cs K){fd:yL}(l:K.lookup f=some ⟨oc,od,.func fd,sl⟩)(h:Meth K C m f):Meth (aC cs K) C m f :=
 ⟨jY s h.at_,ziP s l (fun _ _ z=>nomatch z) h.fn,zi1 s h.kp⟩
theorem zsx(s:cI cs K)(e:makesIn K C=true):makesIn (aC cs K) C=true:=by
 unfold makesIn at e ⊢
 split at e
 ·rename_i x y cd sl ho
  rw[gv s ho fun _ _ z=>nomatch z];simp only[zf]at e ⊢;obtain⟨⟨e1,e2⟩,e3⟩:=e;refine⟨⟨e1,?_⟩,?_⟩
  ·rw[zkW s ho (fun _ _ z=>nomatch z) (eq_of_beq e2)];decide
  ·rw[zpQ s ho (fun _ _ z=>nomatch z) (eq_of_beq e3)];decide
 ·cases e
theorem Mk.cut(s:cI cs K){fd:yL}(l:K.lookup f=some ⟨oc,od,.func fd,sl⟩)(h:Mk K C f):Mk (aC cs K) C f :=
 ⟨zsx s h.makes,jY s h.init,ziP s l (fun _ _ z=>nomatch z) h.fn,zi1 s h.kp⟩
end
end
end FL
namespace FL
open PySem L2 PySem.Spec
open PyProof.Rows hiding St
section
def zlE(ρ0 ρ1:En)(d:D)(it j:Nat)(dead dom:List Nat):Prop :=
 (∀(i:Nat) x,ρ1[i]?=some x->i=it\/i=j\/i∈dead\/x=.no\/(∃ c,x=.val c/\ρ0[i]?=some (.val c)/\i∉dom)\/∃(p:Bool) (ns:List Int),x=.ow p (.list (ns.map zi))) /\
 (∀(i:Nat) p c,i=it\/i=j\/i∈dead->ρ1[i]?≠some (.ow p c))/\j<ρ1.length/\(∀ i∈dead,i<ρ1.length) /\
 ∃ rows:List (List (List Int)),d=.list (rows.map fun r=>.list (r.map fun q=>.tuple (q.map zi)))
noncomputable def kill(ks:List Nat)(ρ:En):En:=ρ.mapIdx fun i x=>if i∈ks then .no else x
def zbH(ρ:En)(d:D)(it j:Nat)(dead:List Nat):En:=(kill (it::dead) ρ).set j (.val d)
open Classical in
noncomputable def zyQ(f:EF)(it j:Nat)(dead dom:List Nat)(t:SF)(ρ0:En):SF:=fun ρ=>(f ρ).bind fun y=>if zlE ρ0 y.2 y.1 it j dead dom then t (zbH y.2 y.1 it j dead) else .bad
def LL(d:D):Prop:=∃ rows:List (List D),d=.list (rows.map CP)
open Classical in
noncomputable def zyT(it:Nat)(f:EF)(g:En->SF):SF:=fun ρ=>(f ρ).bind fun y=>if LL y.1 then(gN it y.1 y.2).bind fun ρ1=>g ρ ρ1 else .bad
variable [Cs]
end
variable {p pos:yn}{e:yh}{X:Cx}{f:EF}{x:ir}
section
variable [Cs]
section
variable {K:yf}
theorem zvp(hm:X.mg x=none)(hv:zj x=some (.type "list"))(ha:PV K X e f)(hg:Gl X x:=by rfl)(hn:x ≠ "__name__":=by decide)(bp:(x==("__debug__":ir))=false:=by decide)
  (he:yi [e] X.env=(false,yu e X.env)::yi [] X.env:=by exact FL.se rfl) (aS:(yJ pos (yi [] X.env)).any (·.1)=false:=by exact FL.sp rfl):aO K X (.Call (.Name x p) [e] [] pos) (e1 tU f):=.mk fun hK=>by
 subst hK;refine(zjV zaX hg hm hv (gh (ha rfl) jy he) hn bp he aS).weak fun σ H Q=>?_;rintro⟨ρ,rel,q⟩;refine dS rel q fun dx ρ1 v H1 aj aB fx q1=>?_;obtain⟨d,ed,q2⟩:=q1.cE;have key:∃ a ys l,v=.ref a/\(bq X.K H1 a ys\/dO X.K H1 a ys)/\ah X.K H1 l ys/\d=.list l:=by
  cases dx with
  | list l =>
   obtain⟨a,ys,e1,e2,e3⟩:=fx.tp.lst;cases ed;exact⟨a,ys,l,e1,.inl e2,e3,rfl⟩
  | tuple l =>
   obtain⟨a,ys,e1,e2,e3⟩:=fx.tp.tup;cases ed;exact⟨a,ys,l,e1,.inr e2,e3,rfl⟩
  | _=>exact nomatch (show(R.bad:R D)=.ok d from ed)
 obtain⟨a,ys,l,rfl,hs,fa,rfl⟩:=key;exact⟨a,ys,rfl,hs,fun b hb=>q2.new aj (ay.upd hb) b (aB.none aj hb) ⟨ys,ck,fa.mono (ax.of (ay.upd hb))⟩⟩
end
end
variable {i k n:Nat}{w:yv}{fa g:AF}{c:String}{n' self:ir}{base:yo}{b:SF}{P:yw}{mg:ir->Option gV}{dom:List Nat}{nr ns ps:List ir}{ks:List (Option String)}{es:List yh}{pa:yn}{G:List D->R D}{C:dm}
section
structure Ob[Cs](K:yf)(c:String)(C:dm)(ns:List ir):Prop where
 o:Cs.O c=some (C,ns)
 c:fG K C
 na:∀ f∈ns,ik K C f
 nd:ns.Nodup
def Maker[Cs](P:yw)(w:yv)(K:yf)(mg:ir->Option gV)(base:yo)(x:ir)(c:String)(k:Nat)(ps:List ir)(n:Nat)(G:List D->R D):Prop :=
 ∃(C f:dm) (fd:yL),mg x=some (.ref C)/\Mk K C f/\Binds K fd ps []/\b6 P w K mg base (aZ P w) k f fd ps (xK K c C n G)
section
variable [Cs]{K:yf}{f:ir}{px pos':yn}{j:Nat}
theorem kh(i j:Nat)(B:Ob K c C ns)(hj:ns[j]?=some f:=by rfl)(hv:PE X (.Name x px) (dD i):=by exact pv _)(hb:Cr (.Name x px) f X.env (yu (.Name x px) X.env)=yu (.Name x px) X.env:=by rfl):PV K X (.Attribute (.Name x px) f pos) (eZ i c j) :=
 zva B.o hj B.nd B.c (B.na f (Ag hj)) hv hb
theorem ztF(i:Nat)(hr:jO K X ks es fa)(hv:PE X (.Name x px) (dD i):=by exact pv _)(hs:yi (.Name x px::es) X.env=(false,yu (.Name x px) X.env)::yi es X.env:=by exact FL.se rfl):jO K X (some c::ks) (.Name x px::es) (iY i c fa):=ztG hv hr hs
theorem zvm(cc:Callee X.prog X.w X.K X.mg X.base x k ps (o8 X.K ks true G))(hr:aM j X.A)(ha:jO K X ks (e::es) fa)(hg:Gl X x:=by rfl)(hj:k<=j:=by decide)(bp:(x==("__debug__":ir))=false:=by decide)
  (he:yi (e::es) X.env=(false,yu e X.env)::yi es X.env:=by exact FL.se rfl) (aS:(yJ pos (yi es X.env)).any (·.1)=false:=by exact FL.sp rfl):aO K X (.Call (.Name x p) (e::es) [] pos) (av G fa):=zvl cc hr hg kX ha hj bp he aS
theorem zkq(m:Maker X.prog X.w X.K X.mg X.base x c k ps n G)(hr:aM j X.A)(ha:cY K X (e::es) fa)(hl:iS fa n:=by repeat (first|exact nK|refine nJ ?_))(hg:Gl X x:=by rfl)(hj:k+1<=j:=by decide)(bp:(x==("__debug__":ir))=false:=by decide)
  (he:yi (e::es) X.env=(false,yu e X.env)::yi es X.env:=by exact FL.se rfl) (aS:(yJ pos (yi es X.env)).any (·.1)=false:=by exact FL.sp rfl):PVB K X c (.Call (.Name x p) (e::es) [] pos) (vO G fa):=by
 obtain⟨C,f,fd,hm,M,hb,F⟩:=m;exact zvr M F (hr.mono hj) hg hm hb kX ha hl bp he aS
theorem zuJ{st:yx}:rN K X dom st je:=fun _ C=>zkc.weak fun Dn σ H=>by
 rintro⟨ρ,rel,g⟩;exact g.elim
theorem zj3{f:EF}{rest:List yx}(B:Ob K c C ns)(hK:X.K=K)(hn:n'∈ns)(he:PV K X e f)(hr:b9 X rest (qS K C i nr fa))(hv:PE X (.Name self px) (dD i):=by exact pv _)(hs:zB e (some (.Attribute (.Name self px) n' pa)) pos.line X.env=pure false:=by rfl) :
  b9 X (.Assign [.Attribute (.Name self px) n' pa] e pos::rest) (qS K C i (n'::nr) (aa f fa)):=zt9 hK B.c (B.na n' hn) hv he hr hs
end
abbrev CTO[Cs](x:ir)(k:Nat)(ps:List ir)(ks:List (Option String))(fr:Bool)(G:List D->R D)(P:yw)(w:yv)(K:yf)(mg:ir->Option gV)(base:yo):Prop:=Callee P w K mg base x k ps (o8 K ks fr G)
abbrev CTI[Cs](x:ir)(c:String)(k:Nat)(ps:List ir)(n:Nat)(G:List D->R D)(P:yw)(w:yv)(K:yf)(mg:ir->Option gV)(base:yo):Prop:=Maker P w K mg base x c k ps n G
section
variable [Cs]{K:yf}{q:ir}{st:yx}{f:dm}{fd:yL}
theorem fnO(ks:List (Option String))(fr:Bool)(N:List ir)(h:aE K mg x st)
  (hb:∀{f:dm} {aq:gV} {A:yy} {outer:List yC} {s:kb} {H:Hp} {E:XK},aM k (A.deeper (zc x (aH st) s.heap.objs.size f aq))->N.Nodup->dE K (dw (aZ P w) P w K mg base N x (aH st) f aq A outer s H E).cO (bW st) b)
  (S:d9 N ps (aH st):=by exact⟨rfl,rfl,rfl,by decide +kernel,rfl,by decide +kernel,by decide +kernel⟩)(c5:ps.length=ks.length:=by rfl)(cZ:ps.length<=N.length:=by decide)
  (eR:∀(kV doc pm:gV) (an:Option dm) (aq ct:gV) (us:List gV),us.length=ps.length->Ax (zD x x (eY st) (bW st) (aH st) .none kV doc pm an aq ct) ⟨us,[]⟩=pure (ps.zip us):=by
   first
    | exact fun _ _ _ _ _ _=>kC fun _=>rfl
    | exact fun _ _ _ _ _ _=>kE fun _ _=>rfl
    | exact fun _ _ _ _ _ _=>kF fun _ _ _=>rfl
    | exact fun _ _ _ _ _ _=>pY fun _ _ _ _=>rfl
    | exact fun _ _ _ _ _ _=>el5 fun _ _ _ _ _=>rfl):Callee P w K mg base x (k+1) ps (o8 K ks fr (iM ks fr N.length b)):=by
 obtain⟨f,fd,hm,F⟩:=h;exact⟨f,fd,hm,F.kp,F.binds eR,zbM ks fr F S c5 cZ fun aq A outer s H E hr=>qK (hb hr S.nd)⟩
end
end
variable {i:Int}
section
variable [Cs]{K:yf}
end
variable {d:D}
section
noncomputable def vz:yh->Option Int
 | .Constant (.int i) _ _=>some i
 | .UnaryOp .USub (.Constant (.int i) _ _) _=>some (-i)
 | _=>none
def zaM:List yh->Option (List D)
 | []=>some []
 | e::r=>(vz e).bind fun i=>(zaM r).map (.int i::·)
def cTu:yh->Option D
 | .Tuple es _ _=>(zaM es).bind fun l=>if leB l.length lim=true then some (.tuple l) else none
 | e=>(vz e).map .int
def zaN:List yh->Option (List D)
 | []=>some []
 | e::r=>(cTu e).bind fun d=>(zaN r).map (d::·)
variable [Cs]{K:yf}
theorem zaQ(h:vz e=some i):PV K X e (eC (.int i))/\wQ e=true:=by
 unfold vz at h
 split at h
 ·cases h;exact⟨ao,rfl⟩
 ·cases h;exact⟨xj xX ao,rfl⟩
 ·cases h
theorem zhy:∀{es:List yh} {ds:List D},zaM es=some ds->cY K X es (jR ds)
 | [],ds,h=>by cases h;exact qI
 | e::r,ds,h=>by
  obtain⟨i,h1,h⟩:=AD.mp h;obtain⟨l,h2,rfl⟩:=AA.mp h;exact dJ (zaQ h1).1 (zhy h2) (se (zaQ (K:=K) (X:=X) h1).2)
theorem zhB(h:cTu e=some d):PV K X e (eC d)/\wQ e=true:=by
 unfold cTu at h
 split at h
 ·obtain⟨l,h1,h⟩:=AD.mp h
  split at h
  ·rename_i c
   cases h;refine⟨?_,rfl⟩;have e:bg (jR l)=eC (.tuple l):=by
    funext ρ
    show(R.ok (l,ρ)).bind _=_;rw[aA,eI c];rfl
   rw[<- e];exact cK (zhy h1)
  ·cases h
 ·obtain⟨i,h1,rfl⟩:=AA.mp h
  exact zaQ h1
theorem zhC:∀{es:List yh} {ds:List D},zaN es=some ds->cY K X es (jR ds)
 | [],ds,h=>by cases h;exact qI
 | e::r,ds,h=>by
  obtain⟨d,h1,h⟩:=AD.mp h;obtain⟨l,h2,rfl⟩:=AA.mp h;exact dJ (zhB h1).1 (zhC h2) (se (zhB (K:=K) (X:=X) h1).2)
theorem xk{ds:List D}(h:zaN es=some ds):aO K X (.List es pos) (bf (jR ds)):=dq (zhC h)
end
end FL
namespace L2
open PySem PySem.Spec PyProof.Rows
variable {i k:Nat}{a b x y:gV}{w:yv}{i1 i2 it l t z:dm}{s:kb}{A:yy}{xs ys:Array gV}{E Q:gV->kb->Prop}{prog:yw}
section
theorem zs0(hi:s.heap.IsTupleIter it t i)(ht:s.heap.IsTuple t ys)(hy:ys[i]?=some y)
  (q:∀ h',h'.IsTupleIter it t (i+1)->By it s.heap h'->Q y { s with heap:=h' }):yj (ym prog w) A (BE (.ref it)) Q E s:=by
 obtain⟨oi,e1,c1,d1⟩:=id hi;obtain⟨ot,e2,_,m,d2⟩:=ht;unfold BE;refine yg (BA (name:=BC "__next__") hi.typeIs Eg (A2 Eg hi.typeIs Gy ?_ (Gz _)));show yj _ _ (field (.ref it) 0 >>= _) _ _ s;refine yg (zM e1 d1 (x:=.ref t) rfl ?_);rw[if_neg (show ¬ ((yS t==yW)=true) from zL)];refine yg (zM e1 d1 (x:=.int i 0) rfl ?_);refine yg (BF e2 d2 ?_);simp only[D8,hy];refine yg (B2 e1 d1 (by simp) (yt ⟨y,rfl,yt (q _ ⟨_,C8 _ e1 (DQ (B3 d1 _)),(EZ ..).trans c1,?_⟩ (Bu ..))⟩));rw[B3 d1];simp[zY]
theorem zom(hh:A.handled=none)(hi:s.heap.IsTupleIter it t i)(ht:s.heap.IsTuple t ys)(hy:ys[i]?=none)
  (q:∀ h' e,E5 it s.heap h'->(∃ o,h'.get? e=some o/\o.cls=.type "StopIteration")->E (.ref e) { s with heap:=h' }):yj (ym prog w) A (BE (.ref it)) Q E s:=by
 obtain⟨oi,e1,c1,d1⟩:=id hi;obtain⟨ot,e2,_,m,d2⟩:=ht;unfold BE;refine yg (BA (name:=BC "__next__") hi.typeIs Eg (A2 Eg hi.typeIs Gy ?_ (Gz _)));show yj _ _ (field (.ref it) 0 >>= _) _ _ s;refine yg (zM e1 d1 (x:=.ref t) rfl ?_);rw[if_neg (show ¬ ((yS t==yW)=true) from zL)];refine yg (zM e1 d1 (x:=.int i 0) rfl ?_);refine yg (BF e2 d2 ?_);simp only[D8,hy];refine yg (Bz (yg (B2 e1 d1 (by simp) ?_)));refine yg ?_;simp only[newExc,newTuple]
 refine yg ?_;refine Al ?_ (by size_fits)
 refine yg (m:=D9 _ _) ?_;refine wpAny_of_eq (a:=yW) (by first|rfl|(simp only[D9];rfl)) ?_
 refine Al ?_ (by size_fits);simp only[raiseNew]
 refine yg (wpAny_handled ?_);rw[show A.in1.handled=none from hh]
 exact yg (yt (wpAny_throw (q _ _ (((Bu ..).extBut.push _).push _) ⟨_,y9 _ rfl,rfl⟩)))
abbrev ZA:=ZipApart
theorem zyA{TI TO:dm}(D:ZA z TI TO i1 i2 l t)(zz:z0 s.heap z TI TO .none)(pi:zr s.heap TI (.ref i1) (.ref i2))(po:zr s.heap TO a b)
  (t1:s.heap.IsListIter i1 l k)(t2:s.heap.IsTupleIter i2 t k)(u1:s.heap.IsList l xs)(u2:s.heap.IsTuple t ys)(ex:xs[k]?=some x)(ey:ys[k]?=some y)
  (q:∀ h',z0 h' z TI TO (zY s.heap.objs.size)->zr h' TO x y->h'.IsListIter i1 l (k+1)->h'.IsTupleIter i2 t (k+1)->zr h' s.heap.objs.size x y ->
   (∀ c o,c≠z->c≠TO->c≠i1->c≠i2->s.heap.get? c=some o->h'.get? c=some o)->Q (.ref s.heap.objs.size) { s with heap:=h' }) :
  yj (ym prog w) A (Ah.«zip.__next__» ⟨[.ref z],[]⟩) (fun f s'=>∃ v,f=.done (.ret v)/\Q v s') E s:=by
 show yj _ _ (field (.ref z) 2 >>= _) _ _ _;refine yg (zM zz rfl (x:=.bool false) rfl ?_);refine yg (zM zz rfl (x:=.ref TI) rfl ?_);refine yg (BF pi rfl ?_);refine yg ?_;unfold GA
 refine yg (zM zz rfl (x:=.none) rfl (yt ?_));simp only[if_true]
 refine yg (Bz ?_);refine yg (zM zz rfl (x:=.ref TO) rfl ?_)
 refine yg (CQ zz (by simp) fun g1 z1 b1=>?_);replace z1:z0 g1 z TI TO .ellipsis:=z1;refine yg ?_;simp only[List.zipIdx_cons,List.zipIdx_nil,DM,DS]
 refine yg (yg (Eh ?_));show yj _ _ (BE (.ref i1) >>= _) _ _ _
 refine yg (wpAny_nextOf_list_item (t1.extBut b1.extBut D.i1z) (u1.extBut b1.extBut D.l1z) ex fun g2 r2 b2=>yt ?_);have o2:zr g2 TO a b:=b2.extBut _ _ D.TOi1 (b1.extBut _ _ D.TOz po);refine yg (BF o2 rfl ?_);refine yg (Fw o2 fun g3 o3 b3=>?_);replace o3:zr g3 TO x b:=o3;refine yg (wpAny_letGo (yt ?_));refine yg (yg (Eh ?_))
 show yj _ _ (BE (.ref i2) >>= _) _ _ _;refine yg (zs0 (((t2.extBut b1.extBut D.i2z).extBut b2.extBut D.i12.symm).extBut b3.extBut D.TOi2.symm) (((u2.extBut b1.extBut D.l2z).extBut b2.extBut D.l2i1).extBut b3.extBut D.l2TO) ey fun g4 r4 b4=>yt ?_);have o4:zr g4 TO x b:=b4.extBut _ _ D.TOi2 o3;refine yg (BF o4 rfl ?_);refine yg (Fw o4 fun g5 o5 b5=>?_);replace o5:zr g5 TO x y:=o5;refine yg (wpAny_letGo (yt (yt ?_)));refine yg (BF o5 rfl ?_);refine yg (wpAny_newTuple ?_)
 have sz:g5.objs.size=s.heap.objs.size:=by rw[b5.1,b4.1,b3.1,b2.1,b1.1]
 have z5:z0 g5 z TI TO .ellipsis:=b5.extBut _ _ D.TOz.symm (b4.extBut _ _ D.i2z.symm (b3.extBut _ _ D.TOz.symm (b2.extBut _ _ D.i1z.symm z1)));have k5:∀ c o,c≠z->c≠TO->c≠i1->c≠i2->s.heap.get? c=some o->g5.get? c=some o:=fun c o c1 c2 c3 c4 e=>b5.extBut _ _ c2 (b4.extBut _ _ c4 (b3.extBut _ _ c2 (b2.extBut _ _ c3 (b1.extBut _ _ c1 e))));have r15:g5.IsListIter i1 l (k+1):=((r2.extBut b3.extBut D.TOi1.symm).extBut b4.extBut D.i12).extBut b5.extBut D.TOi1.symm;have r25:g5.IsTupleIter i2 t (k+1):=r4.extBut b5.extBut D.TOi2.symm;have zl:z<g5.objs.size:=yE z5;refine yg ?_;unfold Builtin.SmallTypes.ownedTupleHandOut
 have z6:z0 (g5.push { cls:=.type "tuple",data:=.seq #[x,y] }) z TI TO .ellipsis:=yM _ z5;refine yg (CQ z6 (by simp) fun g7 z7 b7=>?_);replace z7:z0 g7 z TI TO (zY g5.objs.size):=z7;refine CQ z7 (by simp) fun g8 z8 b8=>?_;replace z8:z0 g8 z TI TO (zY g5.objs.size):=z8;have up:∀ c o,c≠z->g5.get? c=some o->g8.get? c=some o:=fun c o c1 e=>b8.extBut _ _ c1 (b7.extBut _ _ c1 (yM _ e));have p8:zr g8 g5.objs.size x y:=b8.extBut _ _ (AY zl) (b7.extBut _ _ (AY zl) (y9 _ rfl));rw[sz]at z8 p8;refine yt ⟨_,rfl,?_⟩;show Q (.ref g5.objs.size) _;rw[sz]
 refine q g8 z8 (up _ _ D.TOz o5) ?_ ?_ p8 fun c o c1 c2 c3 c4 e=>up c o c1 (k5 c o c1 c2 c3 c4 e)
 ·exact r15.at fun o e=>up _ o D.i1z e
 ·obtain⟨o,e,r⟩:=r25
  exact⟨o,up _ o D.i2z e,r⟩
theorem zyz{TI TO:dm}{Q:Fin->kb->Prop}(hh:A.handled=none)(D:ZA z TI TO i1 i2 l t)(zz:z0 s.heap z TI TO .none)(pi:zr s.heap TI (.ref i1) (.ref i2))(po:zr s.heap TO a b)
  (t1:s.heap.IsListIter i1 l k)(t2:s.heap.IsTupleIter i2 t k)(u1:s.heap.IsList l xs)(u2:s.heap.IsTuple t ys)(en:xs[k]?=none\/ys[k]?=none)
  (q:∀ h' e,(∀ c o,c≠z->c≠TO->c≠i1->c≠i2->s.heap.get? c=some o->h'.get? c=some o)->(∃ o,h'.get? e=some o/\o.cls=.type "StopIteration")->E (.ref e) { s with heap:=h' }) :
  yj (ym prog w) A (Ah.«zip.__next__» ⟨[.ref z],[]⟩) Q E s:=by
 show yj _ _ (field (.ref z) 2 >>= _) _ _ _;refine yg (zM zz rfl (x:=.bool false) rfl ?_);refine yg (zM zz rfl (x:=.ref TI) rfl ?_);refine yg (BF pi rfl ?_);refine yg ?_;unfold GA
 refine yg (zM zz rfl (x:=.none) rfl (yt ?_));simp only[if_true]
 refine yg (Bz ?_);refine yg (zM zz rfl (x:=.ref TO) rfl ?_)
 refine yg (CQ zz (by simp) fun g1 z1 b1=>?_);replace z1:z0 g1 z TI TO .ellipsis:=z1;refine yg ?_;simp only[List.zipIdx_cons,List.zipIdx_nil,DM,DS]
 refine yg (yg (Eh ?_));show yj _ _ (BE (.ref i1) >>= _) _ _ _
 cases ex:xs[k]? with
 | none =>
  refine yg (wpAny_nextOf_list_end hh (t1.extBut b1.extBut D.i1z) (u1.extBut b1.extBut D.l1z) ex fun g2 e b2 he=>?_);obtain⟨oe,e1,e2⟩:=he;have z2:z0 g2 z TI TO .ellipsis:=b2 _ _ D.i1z.symm z1;have ne:e≠z:=fun x=>by subst x;rw[z2]at e1;cases e1;simp at e2
  exact CQ z2 (by simp) fun g3 _ b3=>q g3 e (fun c o c1 _ c3 _ x=>b3.extBut _ _ c1 (b2 _ _ c3 (b1.extBut _ _ c1 x))) ⟨oe,b3.extBut _ _ ne e1,e2⟩
 | some x =>
  have ey:ys[k]?=none:=en.resolve_left fun z=>by rw[ex]at z;cases z
  refine yg (wpAny_nextOf_list_item (t1.extBut b1.extBut D.i1z) (u1.extBut b1.extBut D.l1z) ex fun g2 r2 b2=>yt ?_);have o2:zr g2 TO a b:=b2.extBut _ _ D.TOi1 (b1.extBut _ _ D.TOz po);refine yg (BF o2 rfl ?_);refine yg (Fw o2 fun g3 o3 b3=>?_);refine yg (wpAny_letGo (yt ?_));refine yg (yg (Eh ?_))
  show yj _ _ (BE (.ref i2) >>= _) _ _ _;refine yg (zom hh (((t2.extBut b1.extBut D.i2z).extBut b2.extBut D.i12.symm).extBut b3.extBut D.TOi2.symm) (((u2.extBut b1.extBut D.l2z).extBut b2.extBut D.l2i1).extBut b3.extBut D.l2TO) ey fun g4 e b4 he=>?_);obtain⟨oe,e1,e2⟩:=he;have z4:z0 g4 z TI TO .ellipsis:=b4 _ _ D.i2z.symm (b3.extBut _ _ D.TOz.symm (b2.extBut _ _ D.i1z.symm z1));have ne:e≠z:=fun x=>by subst x;rw[z4]at e1;cases e1;simp at e2
  exact CQ z4 (by simp) fun g5 _ b5=>q g5 e (fun c o c1 c2 c3 c4 x=>b5.extBut _ _ c1 (b4 _ _ c4 (b3.extBut _ _ c2 (b2.extBut _ _ c3 (b1.extBut _ _ c1 x))))) ⟨oe,b5.extBut _ _ ne e1,e2⟩
theorem zyD{TI TO:dm}{Q:Option gV->kb->Prop}(D:ZA z TI TO i1 i2 l t)(zz:z0 s.heap z TI TO .none)(pi:zr s.heap TI (.ref i1) (.ref i2))(po:zr s.heap TO a b)
  (t1:s.heap.IsListIter i1 l k)(t2:s.heap.IsTupleIter i2 t k)(u1:s.heap.IsList l xs)(u2:s.heap.IsTuple t ys)(ex:xs[k]?=some x)(ey:ys[k]?=some y)
  (q:∀ h',z0 h' z TI TO (zY s.heap.objs.size)->zr h' TO x y->h'.IsListIter i1 l (k+1)->h'.IsTupleIter i2 t (k+1)->zr h' s.heap.objs.size x y ->
   (∀ c o,c≠z->c≠TO->c≠i1->c≠i2->s.heap.get? c=some o->h'.get? c=some o)->Q (some (.ref s.heap.objs.size)) { s with heap:=h' }):yj (ym prog w) A (AH (.ref z)) Q E s:=by
 have ty:s.TypeIs (.ref z) "zip":=⟨_,zz,rfl⟩;unfold AH;exact yg (D5 (BA (name:=BC "__next__") ty Ei (A2 Ei ty F.entry_zip_next (zyA D zz pi po t1 t2 u1 u2 ex ey fun h' a1 a2 a3 a4 a5 a6=>yt (q h' a1 a2 a3 a4 a5 a6)) (F.args_zip_next_1 _))))
theorem zyC{TI TO:dm}{Q:Option gV->kb->Prop}(hh:A.handled=none)(D:ZA z TI TO i1 i2 l t)(zz:z0 s.heap z TI TO .none)(pi:zr s.heap TI (.ref i1) (.ref i2))(po:zr s.heap TO a b)
  (t1:s.heap.IsListIter i1 l k)(t2:s.heap.IsTupleIter i2 t k)(u1:s.heap.IsList l xs)(u2:s.heap.IsTuple t ys)(en:xs[k]?=none\/ys[k]?=none)
  (q:∀ h',(∀ c o,c≠z->c≠TO->c≠i1->c≠i2->s.heap.get? c=some o->h'.get? c=some o)->Q none { s with heap:=h' }):yj (ym prog w) A (AH (.ref z)) Q E s:=by
 have ty:s.TypeIs (.ref z) "zip":=⟨_,zz,rfl⟩;unfold AH;refine yg (D5 (BA (name:=BC "__next__") ty Ei (A2 Ei ty F.entry_zip_next (zyz hh D zz pi po t1 t2 u1 u2 en fun h' e k1 ⟨o,ho,hc⟩=>?_) (F.args_zip_next_1 _))));exact yg (Fm (T:="StopIteration") (b:=true) ⟨o,ho,hc⟩ isSubtype_stop (yt (q _ k1)))
end
abbrev yc(h:yo)(l t:dm):yo:=(zipH1 h l).push { cls:=.type "tuple_iterator",data:=.fields #[.ref t,.int 0 0] }
abbrev yd(h:yo)(l t:dm):yo:=(yc h l t).push { cls:=.type "tuple",data:=.seq #[.ref h.objs.size,.ref (zipH1 h l).objs.size] }
abbrev ye(h:yo)(l t:dm):yo:=(yd h l t).push { cls:=.type "tuple",data:=.seq #[.none,.none] }
abbrev qZ(h:yo)(l t:dm):yo:=(ye h l t).push { cls:=.type "zip",data:=.fields #[.none,.bool false,.bool false,.ref (yc h l t).objs.size,.ref (yd h l t).objs.size] }
theorem zyB(l t:dm)(xs ys:Array gV):Meets (Ah.«zip.__new__» ⟨[.type "zip",.ref l,.ref t],[]⟩) (fun _ R s=>s.heap.IsList l xs/\s.heap.IsTuple t ys/\R (.ok (.ret (.ref (ye s.heap l t).objs.size))) { s with heap:=qZ s.heap l t }) :=
 .of_wp fun prog w A R s h=>by
  obtain⟨hp,g,d,tk,os⟩:=s;obtain⟨a1,a2,h⟩:=h
  have wq:=sub_zip;have b1:Heap.IsList (Shared.heap ⟨hp,g,d,tk,os⟩) l xs:=a1;have b2:Heap.IsTuple (Shared.heap ⟨hp.push { cls:=.type "list_iterator",data:=.fields #[.ref l,.int 0 0] },g,d,tk,os⟩) t ys:=Heap.IsTuple.push a2 _
  wp_walk using DW b1,wpAny_pyIter_tuple b2
  exact⟨_,rfl,h⟩
variable {pos:yn}{P:yw}{es:List yh}
section
theorem zyy(u1:s.heap.IsList l xs)(u2:s.heap.IsTuple t ys)
  (q:∀ h',z0 h' (s.heap.objs.size+4) (s.heap.objs.size+2) (s.heap.objs.size+3) .none->zr h' (s.heap.objs.size+2) (.ref s.heap.objs.size) (.ref (s.heap.objs.size+1)) ->
   zr h' (s.heap.objs.size+3) .none .none->h'.IsListIter s.heap.objs.size l 0->h'.IsTupleIter (s.heap.objs.size+1) t 0 ->
   (∀ c o,s.heap.get? c=some o->h'.get? c=some o)->Q (.ref (s.heap.objs.size+4)) { s with heap:=h' }):yj (ym prog w) A (call (.type "zip") [.ref l,.ref t]) Q E s:=by
 refine callType_new F.called_zip (by decide) (F.typeCall_zip_2 _ _) (F.newCall_zip_2 _ _) (fun obj=>F.args_object_init_3 obj _ _) F.entry_zip_new (zyB l t xs ys) ⟨u1,u2,?_⟩;have n1:(zipH1 s.heap l).objs.size=s.heap.objs.size+1:=AK ..;have n2:(yc s.heap l t).objs.size=s.heap.objs.size+2:=by rw[AK,n1]
 have n3:(yd s.heap l t).objs.size=s.heap.objs.size+3:=by rw[AK,n2]
 have n4:(ye s.heap l t).objs.size=s.heap.objs.size+4:=by rw[AK,n3]
 have up:∀{h:yo} {c:dm} {o u:yp},h.get? c=some o->(h.push u).get? c=some o:=fun e=>yM _ e;have g5:(qZ s.heap l t).get? (ye s.heap l t).objs.size=some _:=y9 _ rfl;have g4:(qZ s.heap l t).get? (yd s.heap l t).objs.size=some _:=up (y9 _ rfl);have g3:(qZ s.heap l t).get? (yc s.heap l t).objs.size=some _:=up (up (y9 _ rfl));have g2:(qZ s.heap l t).get? (zipH1 s.heap l).objs.size=some _:=up (up (up (y9 _ rfl)));have g1:(qZ s.heap l t).get? s.heap.objs.size=some _:=up (up (up (up (y9 _ rfl))));show _/\_;rw[n2,n3,n4]at g5;rw[n1,n2]at g3;rw[n3]at g4;rw[n1]at g2;rw[n4];exact⟨⟨_,g5,rfl⟩,q _ g5 g3 g4 ⟨_,g1,rfl,rfl⟩ ⟨_,g2,rfl,rfl⟩ fun c o x=>up (up (up (up (up x))))⟩
end
def zam(K:yf)(a b:dm):It :=
 ⟨fun i H=>∃ xs ys x y,bq K H a xs/\dO K H b ys/\xs[i]?=some x/\ys[i]?=some y,
  fun i H x H'=>∃ t u v,x=.ref t/\H t=none/\H'=upd H t (.tup [u,v])/\(∀ xs,bq K H a xs->xs[i]?=some u)/\∀ ys,dO K H b ys->ys[i]?=some v,
  fun i H=>∃ xs ys,bq K H a xs/\dO K H b ys/\(xs.length<=i\/ys.length<=i)⟩
def tnT(z TI TO i1 i2 a b:dm)(i:Nat)(h:yo):Prop:=z0 h z TI TO .none/\zr h TI (.ref i1) (.ref i2)/\(∃ u v,zr h TO u v)/\h.IsListIter i1 a i/\h.IsTupleIter i2 b i
theorem zx5{K:yf}(z TI TO i1 i2 a b:dm)(D:ZA z TI TO i1 i2 a b):Turn P w K (.Tuple es k pos) (zam K a b) [z,TI,TO,i1,i2] z (tnT z TI TO i1 i2 a b) where
 mem:=by simp
 obj:=fun i h st c hc=>by
  obtain⟨h1,h2,⟨u,v,h3⟩,⟨o4,h4,_,d4⟩,⟨o5,h5,_,d5⟩⟩:=st;simp only[yH,zS,or_false]at hc;rcases hc with rfl|rfl|rfl|rfl|rfl
  ·exact⟨_,h1,fun v z=>by cases z⟩
  ·exact⟨_,h2,fun v z=>by cases z⟩
  ·exact⟨_,h3,fun v z=>by cases z⟩
  ·exact⟨_,h4,fun v z=>by rw[d4]at z;cases z⟩
  ·exact⟨_,h5,fun v z=>by rw[d5]at z;cases z⟩
 keep:=fun i h h' st k=>by
  obtain⟨h1,h2,⟨u,v,h3⟩,h4,o,h5,r⟩:=st;exact⟨k _ (by simp) _ h1,k _ (by simp) _ h2,⟨u,v,k _ (by simp) _ h3⟩,h4.at fun o e=>k _ (by simp) o e,o,k _ (by simp) o h5,r⟩
 item:=by
  intro X hP hw hK hc i pins s σ H E I hf st hg;subst hP hw hK;obtain⟨xs,ys,x,y,gY,kM,hx,hy⟩:=hg;obtain⟨oE,iN,px,_⟩:=I.list gY;obtain⟨tM,lr,py,_⟩:=I.tuple kM;obtain⟨ux,tK,uF⟩:=iN.get hx;obtain⟨uy,huy,ruy⟩:=lr.get hy;obtain⟨h1,h2,⟨u,v,h3⟩,h4,h5⟩:=id st;have jw:∀ c∈[z,TI,TO,i1,i2],c<s.heap.objs.size:=fun c hc=>by
   obtain⟨o4,e4,_⟩:=id h4;obtain⟨o5,e5,_⟩:=id h5;simp only[yH,zS,or_false]at hc;rcases hc with rfl|rfl|rfl|rfl|rfl
   ·exact yE h1
   ·exact yE h2
   ·exact yE h3
   ·exact yE e4
   ·exact yE e5
  refine zyD D h1 h2 h3 h4 h5 px.isList py (by simpa using tK) (by simpa using huy) fun h' a1 a2 a3 a4 a5 hk=>?_;refine⟨_,rfl,F5 a1 fun gU b1 sb=>?_⟩;have uQ:=jw z (by simp);have k2:∀ c o,c∉[z,TI,TO,i1,i2]->s.heap.get? c=some o->gU.get? c=some o:=fun c o hc e=>by
   simp only[yH,zS,or_false,not_or]at hc;exact sb.extBut c o hc.1 (hk c o hc.1 hc.2.2.1 hc.2.2.2.1 hc.2.2.2.2 e)
  have ht:gU.get? s.heap.objs.size=some { cls:=.type "tuple",data:=.seq #[ux,uy] }:=sb.extBut _ _ (AY uQ) a5;refine⟨.ref s.heap.objs.size,_,Inv.zfz (s:=s) (h':=gU) (t':=s.toks) (fp:=[z,TI,TO,i1,i2]) I (xs:=[x,y]) (us:=[ux,uy]) k2 hf jw ht (.cons uF (.cons ruy .nil)) (by rw[zC];show 2<=16777216;decide),rfl,
   ⟨_,x,y,rfl,I.au.fresh (yA _),rfl,fun zs hz=>by rw[I.tW hz gY];exact hx,fun zs hz=>by rw[I.zla hz kM];exact hy⟩,?_,fun c hc=>?_⟩
  ·obtain⟨o,e,r⟩:=a4
   exact⟨b1,sb.extBut _ _ D.TIz (hk _ _ D.TIz D.TITO D.TIi1 D.TIi2 h2),⟨_,_,sb.extBut _ _ D.TOz a2⟩,a3.extBut sb.extBut D.i1z,o,sb.extBut _ _ D.i2z e,r⟩
  ·rw[aN (yX (jw c hc))]
   exact(hf c hc).1
 done:=by
  intro X hP hw hK hc i pins s σ H E I hf st hg;subst hP hw hK;obtain⟨xs,ys,gY,kM,v7⟩:=hg;obtain⟨oE,iN,px,_⟩:=I.list gY;obtain⟨tM,lr,py,_⟩:=I.tuple kM;obtain⟨h1,h2,⟨u,v,h3⟩,h4,h5⟩:=id st;have lx:=iN.length;have ly:=lr.length;refine zyC (I.ok.hd hc) D h1 h2 h3 h4 h5 px.isList py ?_ fun h' hk=>⟨rfl,I.qW (t':=s.toks) (fun c o hc e=>?_) hf⟩
  ·rcases v7 with h|h
   ·exact .inl (by simp;omega)
   ·exact .inr (by simp;omega)
  ·simp only[yH,zS,or_false,not_or]at hc
   exact hk c o hc.1 hc.2.2.1 hc.2.2.2.1 hc.2.2.2.2 e
 self:=fun _ _ _ _ _ st h=>DX st.1 h
variable {ta:TA}{X:Cx}{p0:yn}
section
def zpO(K:yf)(ta:TA):TI:=fun σ H R=>ta σ H fun vs H1=>∃ a b,vs=[.ref a,.ref b]/\(∃ xs,bq K H1 a xs)/\(((∃ ys,bq K H1 b ys)/\R (Itz K a b) H1)\/((∃ ys,dO K H1 b ys)/\R (zam K a b) H1))
theorem zui{a b:yh}{p:yn}(hg:Gl X "zip")(hm:X.mg "zip"=none)(ha:PA X [a,b] ta)(hs:yi [a,b] X.env=[(false,yu a X.env),(false,yu b X.env)]:=by rfl)(c7:yi [b] X.env=[(false,yu b X.env)]:=by rfl) :
  PI X (.Tuple es k p0) (.Call (.Name "zip" p) [a,b] [] pos) (zpO X.K ta):=by
 intro pins s σ H R I h;refine Call_ (oH I hg hm (by decide +kernel:zj "zip"=some (.type "zip")) (C0 (aI (ha pos pins s σ H _ I h) fun us s1 ⟨vs,H1,I1,r1,q1⟩=>?_) (by rw[hs,c7]) (by rw[c7];rfl)));obtain⟨l1,l2,e,⟨xs,hx⟩,q⟩:=q1;subst e;cases r1 with
 | cons r rr =>
  cases rr with
  | cons r' rr =>
   cases rr;cases r;cases r';obtain⟨oE,iN,px,_⟩:=I1.list hx;have tq:Nat.lt l1 s1.heap.objs.size:=by obtain⟨o,e,_⟩:=px.isList;exact yE e
   have q1:∀ n:Nat,l1≠s1.heap.objs.size+n:=fun n=>yX (zu tq (DY _ _));have fin:∀ c∈[s1.heap.objs.size+4,s1.heap.objs.size+2,s1.heap.objs.size+3,s1.heap.objs.size,s1.heap.objs.size+1],fT X pins H1 c:=fun c hc=>by
    have gW:s1.heap.objs.size<=c:=by
     simp only[yH,zS,or_false]at hc;rcases hc with rfl|rfl|rfl|rfl|rfl <;> first|exact DY _ _|exact yA _
    exact I1.kH gW (I1.au.fresh gW)
   have apt:∀ l2,Nat.lt l2 s1.heap.objs.size->ZA (s1.heap.objs.size+4) (s1.heap.objs.size+2) (s1.heap.objs.size+3) s1.heap.objs.size (s1.heap.objs.size+1) l1 l2:=fun l2 j5=>by
    have q2:∀ n:Nat,l2≠s1.heap.objs.size+n:=fun n=>yX (zu j5 (DY _ _))
    constructor <;> first|exact q1 _|exact q2 _|exact q1 0|exact q2 0|exact yX (by omega)|exact AY (by omega)
   rcases q with⟨⟨ys,hy⟩,q⟩|⟨⟨ys,hy⟩,q⟩
   ·obtain⟨tM,lr,py,_⟩:=I1.list hy
    have j5:Nat.lt l2 s1.heap.objs.size:=by obtain⟨o,e,_⟩:=py.isList;exact yE e
    refine call_zip_2 px.isList py.isList fun h' g1 g2 g3 g4 g5 g6 hk=>?_;exact DX g1 ⟨_,[s1.heap.objs.size+4,s1.heap.objs.size+2,s1.heap.objs.size+3,s1.heap.objs.size,s1.heap.objs.size+1],_,_,H1,rfl,I1.kept (t':=s1.toks) hk,zx4 _ _ _ _ _ l1 l2 (apt l2 j5),⟨g1,g2,⟨_,_,g3⟩,g4,g5⟩,fin,q⟩
   ·obtain⟨tM,lr,py,_⟩:=I1.tuple hy
    have j5:Nat.lt l2 s1.heap.objs.size:=by obtain⟨o,e,_⟩:=py;exact yE e
    refine zyy px.isList py fun h' g1 g2 g3 g4 g5 hk=>?_;exact DX g1 ⟨_,[s1.heap.objs.size+4,s1.heap.objs.size+2,s1.heap.objs.size+3,s1.heap.objs.size,s1.heap.objs.size+1],_,_,H1,rfl,I1.kept (t':=s1.toks) hk,zx5 _ _ _ _ _ l1 l2 (apt l2 j5),⟨g1,g2,⟨_,_,g3⟩,g4,g5⟩,fin,q⟩
end
end L2
namespace FL
open PySem L2 PySem.Spec
open PyProof.Rows hiding St
variable {es:List yh}{fa:AF}{k:Nat}{H:Hp}{pos:yn}{X:Cx}
section
def zyx:List D->R (List D)
 | [.list l,.list m]=>.ok (fS l m)
 | [.list l,.tuple m]=>.ok (fS l m)
 | _=>.bad
def ziK(fa:AF):IF:=fun ρ=>(fa ρ).bind fun x=>(zyx x.1).bind fun l=>.ok (l,x.2)
section
variable [Cs]{K:yf}{e e':yh}{p0 p:yn}
theorem zyl{a b:dm}{vs ws:List V}{l m:List D}(h:jK K H a vs)(f:ah K H l vs)(h':dB H b ws)(f':ah K H m ws):Walk K (zam K a b) (fS l m) H:=by
 refine⟨fun i d H' fz e=>?_,fun i H' fz e=>⟨vs,ws,(fz.gm h).sq,.inl (fz.o7 h'),?_⟩⟩
 ·obtain⟨x,y,e1,e2,rfl⟩:=zfE e
  obtain⟨u,eu,fu⟩:=(f.mono fz).get e1;obtain⟨v,ev,fv⟩:=(f'.mono fz).get e2;refine⟨⟨vs,ws,u,v,(fz.gm h).sq,.inl (fz.o7 h'),eu,ev⟩,fun x iV y=>?_⟩;obtain⟨t,u',v',rfl,ht,rfl,hu,hv⟩:=y;have ex:=hu vs (fz.gm h).sq;rw[eu]at ex;cases ex;have ex:=hv ws (.inl (fz.o7 h'));rw[ev]at ex;cases ex;exact⟨ay.upd ht,zbT ht fu fv⟩
 ·rw[zfF]at e
  rw[f.len,f'.len]
  omega
theorem zvj(hg:Gl X "zip")(hm:X.mg "zip"=none)(ha:cY K X [e,e'] fa)(hs:yi [e,e'] X.env=[(false,yu e X.env),(false,yu e' X.env)]:=by rfl)(c7:yi [e'] X.env=[(false,yu e' X.env)]:=by exact FL.se rfl):fV K X (.Tuple es k p0) (.Call (.Name "zip" p) [e,e'] [] pos) (ziK fa):=.mk fun hK=>by
 subst hK;refine(zui hg hm (ha rfl) hs c7).weak fun σ H R=>?_;rintro⟨ρ,rel,q⟩;refine lP rel q fun ds ρ1 vs H1 aj aB fs q1=>?_;obtain⟨items,ei,q2⟩:=q1.cE
 match ds,ei,fs with
 | [.list a,.list b],ei,fs =>
  cases ei;simp only[ah,Fz]at fs;obtain⟨_,_,rfl,⟨l,vs,rfl,sx,f⟩,_,_,rfl,⟨l',pA,rfl,uM,f'⟩,rfl⟩:=fs;exact⟨l,l',rfl,⟨vs,sx.sq⟩,.inl ⟨⟨pA,uM.sq⟩,q2.now aj _ (zyk sx f uM f')⟩⟩
 | [.list a,.tuple b],ei,fs =>
  cases ei;simp only[ah,Fz]at fs;obtain⟨_,_,rfl,⟨l,vs,rfl,sx,f⟩,_,_,rfl,⟨l',pA,rfl,uM,f'⟩,rfl⟩:=fs;exact⟨l,l',rfl,⟨vs,sx.sq⟩,.inr ⟨⟨pA,.inl uM⟩,q2.now aj _ (zyl sx f uM f')⟩⟩
end
end
section
end
end FL
namespace FL
open PySem
end FL
namespace L2
open PySem PySem.Spec PyProof.Rows
end L2
namespace FL
open PySem L2 PySem.Spec
open PyProof.Rows hiding St
variable [Cs]
end FL
namespace L2
open PySem PySem.Spec PyProof.Rows
end L2
namespace FL
open PySem L2 PySem.Spec
open PyProof.Rows hiding St
section
variable [Cs]
end
variable {w:yv}{c:String}{base:yo}{b:SF}{P:yw}{mg:ir->Option gV}{ns ps:List ir}{f:dm}{q x:ir}{k:Nat}
section
def zan[Cs](P:yw)(w:yv)(K:yf)(mg:ir->Option gV)(base:yo)(c:String)(m:ir)(k:Nat)(ps:List ir)(ks:List (Option String))(G:List D->R D):Prop :=
 ∃(C f:dm) (ns:List ir) (fd:yL),Cs.O c=some (C,ns)/\m∉ns/\fG K C/\Meth K C m f/\Binds K fd ps []/\b6 P w K mg base (aZ P w) k f fd ps (o8 K (some c::ks) false G)
abbrev CTm[Cs](c:String)(m:ir)(k:Nat)(ps:List ir)(ks:List (Option String))(G:List D->R D)(P:yw)(w:yv)(K:yf)(mg:ir->Option gV)(base:yo):Prop:=zan P w K mg base c m k ps ks G
section
variable [Cs]{K:yf}{st:yx}{n:Nat}{C:dm}{fd:yL}
theorem fnT(ks:List (Option String))(N:List ir)(B:Ob K c C ns)(M:Meth K C x f)(F:c9 K x q st f fd)
  (hb:∀{f:dm} {aq:gV} {A:yy} {outer:List yC} {s:kb} {H:Hp} {E:XK},aM k (A.deeper (zc q (aH st) s.heap.objs.size f aq))->N.Nodup->dE K (dw (aZ P w) P w K mg base N q (aH st) f aq A outer s H E).cO (bW st) b)
  (hx:x∉ns:=by decide)(S:d9 N ps (aH st):=by exact⟨rfl,rfl,rfl,by decide +kernel,rfl,by decide +kernel,by decide +kernel⟩)(c5:ps.length=ks.length+1:=by rfl)(cZ:ps.length<=N.length:=by decide)
  (eR:∀(kV doc pm:gV) (an:Option dm) (aq ct:gV) (us:List gV),us.length=ps.length->Ax (zD x q (eY st) (bW st) (aH st) .none kV doc pm an aq ct) ⟨us,[]⟩=pure (ps.zip us):=by
   first
    | exact fun _ _ _ _ _ _=>kC fun _=>rfl
    | exact fun _ _ _ _ _ _=>kE fun _ _=>rfl
    | exact fun _ _ _ _ _ _=>kF fun _ _ _=>rfl):zan P w K mg base c x (k+1) ps ks (iM (some c::ks) false N.length b) :=
 ⟨C,f,ns,fd,B.o,hx,B.c,M,F.binds eR,zbM (some c::ks) false F S (by rw[c5];rfl) cZ fun aq A outer s H E hr=>qK (hb hr S.nd)⟩
end
end
section
noncomputable def zfI(dom:List Nat):Nat->En->En->Prop
 | _,[],[]=>True
 | k,x0::r0,x::r=>((k∈dom/\∀ p c,x≠.ow p c)\/(x=x0/\∀ p c,x≠.ow p c)\/(k∉dom/\∃(p:Bool) (ns:List Int),x=.ow p (.list (ns.map zi))))/\zfI dom (k+1) r0 r
 | _,_,_=>False
open Classical in
noncomputable def zyS(dom:List Nat)(ρ0:En):SF:=fun ρ=>if zfI dom 0 ρ0 ρ/\∀ k∈dom,k<ρ.length then .ok (.nx,kill dom ρ) else .bad
def LL2(d:D):Prop:=∃ rows:List (List D),rows.length<=1000/\d=.list (rows.map CP)
open Classical in
noncomputable def zyU(i:Nat)(f:EF)(t:SF):SF:=fun ρ=>(f ρ).bind fun y=>if LL2 y.1 then(gN i y.1 y.2).bind t else .bad
variable [Cs]
end
section
mutual
def flat:D->Bool
 | .list _=>false
 | .dict _=>false
 | .tuple xs=>zbL xs
 | _=>true
def zbL:List D->Bool
 | []=>true
 | d::r=>flat d&&zbL r
end
noncomputable def zoJ:Sl->Bool
 | .val d=>flat d
 | .ob _ ds=>zbL ds
 | _=>false
noncomputable def zjI:Sl->Bool
 | .ow _ _=>false
 | _=>true
def zpT:Sl->Bool
 | .ow _ (.list l)=>(intsOf l).isSome
 | _=>false
def E3(dead dom:List Nat):Nat->En->En->Prop
 | _,[],[]=>True
 | k,x0::r0,x::r=>((k∈dead/\zjI x=true)\/(k∉dead/\(x=.no\/(x=x0/\k∉dom/\zjI x=true)\/zoJ x=true\/zpT x=true)))/\E3 dead dom (k+1) r0 r
 | _,_,_=>False
open Classical in
noncomputable def zyR(dead dom:List Nat)(t:SF)(ρ0:En):SF:=fun ρ=>if E3 dead dom 0 ρ0 ρ/\∀ k∈dead,k<ρ.length then t (kill dead ρ) else .bad
variable [Cs]
end
variable {β:Type}{fa:AF}{pos:yn}{g:EF}{e:yh}{s:SF}{X:Cx}{ks:List (Option String)}{r:R (Fl×En)}{es:List yh}{H:Hp}{G:List D->R D}{C:SC}
section
def jf(s:SF):SF:=fun ρ=>(s ρ).bind fun x=>match x.1 with
 | .nx=>.ok x
 | _=>.bad
def ze2(f:EF):SF:=fun ρ=>(f ρ).bind fun x=>.ok (.rt x.1,x.2)
def xF(ks:List (Option String))(n:Nat)(b:SF)(ds:List D):R D :=
 if ds.length=ks.length then(b (zG d8 ks ds++yq (n-ds.length) .no)).bind fun x=>match x.1 with
  | .rt (.tuple fs)=>.ok (.tuple fs)
  | _=>.bad
 else .bad
section
variable [Cs]{K:yf}
def nE(K:yf)(C:SC)(c:String)(H:Hp)(r:R (Fl×En))(Dn:Ends):Prop:=match r with
 | .ok x=>match x.1 with
  | .nx=>∀ σ' H',bc K C x.2 σ' H'->ax H H'->Dn.nx σ' H'
  | .rt d=>∀ a fs σ' H',d=.tuple fs->bc K C x.2 σ' H'->jN K H' a c fs->Dn.rt (.ref a) H'
  | _=>False
 | _=>False
theorem nE.step{H1:Hp}{Dn:Ends}(f:ax H H1)(g:nE K C c H r Dn):nE K C c H1 r Dn:=by
 cases r with
 | ok x =>
  obtain⟨fl,ρ⟩:=x;cases fl with
  | nx=>exact fun σ' H' r z=>g σ' H' r (f.trans z)
  | _=>exact g
 | _=>exact g
theorem nE.bt{r:R β}{k:β->R (Fl×En)}{Dn:Ends}(g:nE K C c H (r.bind k) Dn):∃ x,r=.ok x/\nE K C c H (k x) Dn:=by
 cases r with
 | ok x=>exact⟨x,rfl,g⟩
 | _=>exact g.elim
noncomputable def tST(K:yf)(C:SC)(c:String)(f:SF):TS:=fun Dn σ H=>∃ ρ,bc K C ρ σ H/\nE K C c H (f ρ) Dn
structure rO(K:yf)(X:Cx)(c:String)(st:yx)(f:SF):Prop where
 run:X.K=K->∀ C,PS X st (tST K C c f)
structure jQ(K:yf)(X:Cx)(c:String)(st:List yx)(f:SF):Prop where
 run:X.K=K->∀ C,b9 X st (tST K C c f)
variable {st:yx}{rest:List yx}{t:SF}
theorem zeF(h:cH K X st s):rO K X c st (jf s):=.mk fun hK C=>(h hK C).weak fun Dn σ H=>by
 rintro⟨ρ,rel,g⟩;refine⟨ρ,rel,?_⟩;obtain⟨x,ex,g1⟩:=g.bt;rw[ex];obtain⟨fl,ρ1⟩:=x;cases fl with
 | nx=>exact g1
 | _=>exact g1.elim
theorem xf(h1:rO K X c st s)(h2:jQ K X c rest t):jQ K X c (st::rest) (ak s t):=.mk fun hK C=>(qE (h1.run hK C) (h2.run hK C)).weak fun Dn σ H=>by
 rintro⟨ρ,rel,g⟩;refine⟨ρ,rel,?_⟩;obtain⟨x,ex,g1⟩:=g.bt;rw[ex];obtain⟨fl,ρ1⟩:=x;cases fl with
 | nx=>exact fun σ' H' r z=>⟨ρ1,r,g1.step z⟩
 | rt d=>exact g1
 | _=>exact g1.elim
theorem zkg(h1:rO K X c st s):jQ K X c [st] s:=.mk fun hK C=>qF (h1.run hK C)
theorem zkf{f:EF}(he:PVB K X c e f):rO K X c (.Return (some e) pos) (ze2 f):=.mk fun hK C=>(qD (he hK)).weak fun Dn σ H=>by
 rintro⟨ρ,rel,g⟩;obtain⟨x,ex,g1⟩:=g.bt;refine⟨ρ,rel.rel,?_⟩;rw[ex];intro H1 r1 aB a fs efs ob;exact g1 a fs σ H1 efs (rel.step r1 aB) ob
end
section
variable [Cs]{K:yf}
def spT(K:yf)(ks:List (Option String))(c:String)(G:List D->R D):Sp:=fun vs H Q _=>∃ ds,fi H/\ie K H ks ds vs/\∃ fs,G ds=.ok (.tuple fs)/\∀ a H',ay H H'->jN K H' a c fs->Q (.ref a) H'
theorem zoT{st:yx}{fd:yL}{N:List ir}(ks:List (Option String))(h:c9 K x q st f fd)(S:d9 N ps (aH st))(c5:ps.length=ks.length)(cZ:ps.length<=N.length)
  (hb:∀(aq:gV) (A:yy) (outer:List yC) (s:kb) (H:Hp) (E:XK),aM k (A.deeper (zc q (aH st) s.heap.objs.size f aq))->jQ K (dw (aZ P w) P w K mg base N q (aH st) f aq A outer s H E) c (bW st) b) :
  b6 P w K mg base (aZ P w) (k+1) f fd ps (spT K ks c (xF ks N.length b)):=by
 refine h.mz S (fun vs H Q E ⟨ds,_,e,_⟩=>by rw[e.len.1,c5]) fun aq A outer s H vs Q E hr hq=>?_;obtain⟨ds,cst,fa,fs,hF,q⟩:=hq;obtain⟨hv,hd⟩:=fa.len;have cu:L2.start N vs=vs.map some++yq (N.length-ds.length) none:=by unfold L2.start;rw[hv,hd]
 have no:∀(i:Nat) p d,(zG d8 ks ds++yq (N.length-ds.length) .no)[i]?≠some (.ow p d):=fun i p d e=>by
  by_cases c:i<(zG d8 ks ds).length
  ·rw[zK c]at e
   exact yb e
  ·rw[Ay (by omega),Aa]at e
   split at e <;> cases e
 refine⟨tST K ⟨H,L2.start N vs,zG d8 ks ds++yq (N.length-ds.length) .no⟩ c b,(hb aq A outer s H E hr).run rfl _,zG d8 ks ds++yq (N.length-ds.length) .no,?_,?_⟩
 ·refine⟨?_,fun a o e _=>e,fun i a d e _=>absurd e (no i false d),fun i=>AR,fun i d e=>rfl,fun i p d e=>absurd e (no i p d)⟩
  rw[cu];exact(zeW cst fa).pad _
 ·unfold xF at hF
  rw[if_pos hd]at hF;obtain⟨z,ez,ey⟩:=bj hF;rw[ez];obtain⟨fl,ρ'⟩:=z;have kp:∀(ρ':En) (σ':L2.St) (H':Hp),bc K ⟨H,L2.start N vs,zG d8 ks ds++yq (N.length-ds.length) .no⟩ ρ' σ' H'->ay H H':=fun ρ' σ' H' r b o e=>r.keep b o e fun⟨i,⟨p,d,z⟩,_⟩=>no i p d z;cases fl with
  | rt dr =>
   cases dr with
   | tuple gs =>
    cases ey;intro a hs σ' H' e r ob;cases e;exact q a H' (kp _ _ _ r) ob
   | _=>cases ey
  | _=>cases ey
end
section
variable [Cs]{K:yf}{f:ir}{p:yn}{C:dm}{j:Nat}
theorem zuR{st:List yx}(h:jQ K X.cO c st s):jQ K X c st s:=.mk fun hK C=>b9.cO (h.run hK C)
end
abbrev CTT[Cs](x:ir)(k:Nat)(ps:List ir)(ks:List (Option String))(c:String)(G:List D->R D)(P:yw)(w:yv)(K:yf)(mg:ir->Option gV)(base:yo):Prop:=Callee P w K mg base x k ps (spT K ks c G)
section
variable [Cs]{K:yf}{st:yx}
theorem fnB(ks:List (Option String))(N:List ir)(h:aE K mg x st)
  (hb:∀{f:dm} {aq:gV} {A:yy} {outer:List yC} {s:kb} {H:Hp} {E:XK},aM k (A.deeper (zc x (aH st) s.heap.objs.size f aq))->N.Nodup->jQ K (dw (aZ P w) P w K mg base N x (aH st) f aq A outer s H E).cO c (bW st) b)
  (S:d9 N ps (aH st):=by exact⟨rfl,rfl,rfl,by decide +kernel,rfl,by decide +kernel,by decide +kernel⟩)(c5:ps.length=ks.length:=by rfl)(cZ:ps.length<=N.length:=by decide)
  (eR:∀(kV doc pm:gV) (an:Option dm) (aq ct:gV) (us:List gV),us.length=ps.length->Ax (zD x x (eY st) (bW st) (aH st) .none kV doc pm an aq ct) ⟨us,[]⟩=pure (ps.zip us):=by
   first
    | exact fun _ _ _ _ _ _=>kC fun _=>rfl
    | exact fun _ _ _ _ _ _=>kE fun _ _=>rfl
    | exact fun _ _ _ _ _ _=>kF fun _ _ _=>rfl
    | exact fun _ _ _ _ _ _=>pY fun _ _ _ _=>rfl):Callee P w K mg base x (k+1) ps (spT K ks c (xF ks N.length b)):=by
 obtain⟨f,fd,hm,F⟩:=h;exact⟨f,fd,hm,F.kp,F.binds eR,zoT ks F S c5 cZ fun aq A outer s H E hr=>zuR (hb hr S.nd)⟩
end
end
end FL
namespace L2
open PySem PySem.Spec PyProof.Rows
end L2
namespace L2
open PySem PySem.Spec PyProof.Rows
open Builtin Builtin.ObjectAttr
end L2
namespace L2
open PySem PySem.Spec PyProof.Rows
section
end
section
end
variable {es:List yh}{X:Cx}{t:TA}
section
theorem PA.cO(h:PA X.cO es t):PA X es t:=fun pos pins s σ H Q I hw =>
 zo (h pos pins s σ H Q (I.iR _) hw) (fun _ _ ⟨v,H',I',r,q⟩=>⟨v,H',I'.jF,r,q⟩) fun _ _ z=>zP z
end
end L2
namespace FL
open PySem L2 PySem.Spec
open PyProof.Rows hiding St
variable {β:Type}{c:yh}{pos:yn}{X:Cx}{H H1:Hp}{r:R (Fl×En)}{tc:TF}{E:XK}{k:Fl×En->R (Fl×En)}{C:SC}
section
noncomputable def xt{α:Type}:R α->R α
 | .ok a=>.ok a
 | _=>.bad
def qM(f:SF):SF:=fun ρ=>xt (f ρ)
def uN(f:TF):TF:=fun ρ=>xt (f ρ)
def aPl(f:AF):AF:=fun ρ=>xt (f ρ)
def xH(c:String)(b:Bool)(fa:AF):SF:=fun ρ=>(aPl fa ρ).bind fun x=>match b,x.1 with
 | true,[d]=>.err c [d]
 | false,[_]=>.err c []
 | _,_=>.bad
section
variable [Cs]{K:yf}
def Kc(C:SC)(H':Hp):Prop:=∀ a o,C.H₀ a=some o->¬ MA C.ρ₀ C.σ₀ a->H' a=some o
def Wn(K:yf)(E:XK)(c:String)(fs:List D)(H':Hp):Prop:=∀ C dd,rh K H' c fs C dd->E (.ref C) dd H'
def ji(K:yf)(C:SC)(E:XK)(H:Hp)(r:R (Fl×En))(Dn:Ends):Prop:=match r with
 | .err c fs=>∀ H',Kc C H'->Wn K E c fs H'
 | .ok x=>cS K C H (.ok x) Dn
 | .bad=>False
noncomputable def xP(K:yf)(C:SC)(E:XK)(f:SF):TS:=fun Dn σ H=>∃ ρ,bc K C ρ σ H/\ji K C E H (f ρ) Dn
structure rM(K:yf)(X:Cx)(E:XK)(st:yx)(f:SF):Prop where
 run:X.K=K->∀ C,PS X st (xP K C E f)
structure jj(K:yf)(X:Cx)(E:XK)(st:List yx)(f:SF):Prop where
 run:X.K=K->∀ C,b9 X st (xP K C E f)
section
variable {Dn:Ends}
theorem ji.step(f:ax H H1)(g:ji K C E H r Dn):ji K C E H1 r Dn:=by
 cases r with
 | ok x=>exact cS.step (r:=.ok x) f (show cS K C H (.ok x) Dn from g)
 | err c fs=>exact g
 | bad=>exact g
theorem ji.pl{r:R β}{k:β->R (Fl×En)}(g:ji K C E H ((xt r).bind k) Dn):∃ x,r=.ok x/\ji K C E H (k x) Dn:=by
 cases r with
 | ok x=>exact⟨x,rfl,g⟩
 | _=>exact g.elim
theorem ji.bd{r:R (Fl×En)}(g:ji K C E H (r.bind k) Dn):(∃ x,r=.ok x/\ji K C E H (k x) Dn)\/∃ c fs,r=.err c fs/\∀ H',Kc C H'->Wn K E c fs H':=by
 cases r with
 | ok x=>exact .inl ⟨x,rfl,g⟩
 | err c fs=>exact .inr ⟨c,fs,rfl,g⟩
 | bad=>exact g.elim
end
variable {st:yx}{rest:List yx}{s t:SF}
theorem xc{st:List yx}(h:dE K X.cO st s):jj K X E st (qM s):=.mk fun hK C=>(b9.cO (h hK C)).weak fun Dn σ H=>by
 rintro⟨ρ,rel,g⟩;refine⟨ρ,rel,?_⟩;unfold qM at g;cases e:s ρ with
 | ok x=>rw[e]at g;exact g
 | _=>rw[e]at g;exact g.elim
theorem w9(h1:rM K X E st s)(h2:jj K X E rest t):jj K X E (st::rest) (ak s t):=.mk fun hK C=>(qE (h1.run hK C) (h2.run hK C)).weak fun Dn σ H=>by
 rintro⟨ρ,rel,g⟩;refine⟨ρ,rel,?_⟩;rcases g.bd with⟨x,ex,g1⟩|⟨c,fs,ex,g1⟩
 ·rw[ex]
  obtain⟨fl,ρ1⟩:=x;cases fl with
  | nx=>exact fun σ' H' r z=>⟨ρ1,r,g1.step z⟩
  | bk=>exact g1
  | ct=>exact g1
  | rt d=>exact g1
  | rf d=>exact g1
 ·rw[ex]
  exact g1
theorem xa(h1:rM K X E st s):jj K X E [st] s:=.mk fun hK C=>qF (h1.run hK C)
theorem w8{a b:List yx}(hc:dY K X.cO c tc)(ha:jj K X E a s)(hb:jj K X E b t):rM K X E (.If c a b pos) (aP (uN tc) s t):=.mk fun hK C=>(wZ (hc hK).cO (ha.run hK C) (hb.run hK C)).weak fun Dn σ H=>by
 rintro⟨ρ,rel,g⟩;obtain⟨x,ex,g1⟩:=g.pl;refine⟨ρ,rel.rel,?_⟩;rw[ex];intro H' r sx;have g2:=g1.step (sx.cD rel.rel);obtain⟨cb,ρ1⟩:=x;cases cb with
 | true=>exact jt ⟨ρ1,rel.step r sx,g2⟩
 | false=>exact js ⟨ρ1,rel.step r sx,g2⟩
end
end
variable {w:yv}{fa:AF}{c:String}{base:yo}{b:SF}{e:yh}{P:yw}{mg:ir->Option gV}{σ:L2.St}{f:dm}{es:List yh}{x:ir}{k:Nat}
section
def uT[Cs](K:yf)(mg:ir->Option gV)(x:ir)(c:String):Prop :=
 ∃ C:dm,mg x=some (.ref C)/\Cs.O c=none/\Cs.X c=some (C,[])/\(Ap K C jU "Exception.__new__"=true\/Ap K C jU "ValueError.__new__"=true)
section
variable [Cs]{K:yf}{f:ir}{np dG:yn}{j:Nat}
theorem zkn(h:cY K X.cO es fa):cY K X es fa:=.mk fun hK=>(h hK).cO
theorem zi0{ρ ρ1:En}{H2:Hp}(rel:bc K C ρ σ H)(st:cM ρ ρ1 σ H H1)(k:∀ a o,H1 a=some o->¬ MA ρ σ a->H2 a=some o):Kc C H2:=fun a o e n=>k a o (st.kp a o (rel.keep a o e n) (rel.wM e n)) (rel.wM e n)
theorem zeC(I:uT X.K X.mg x c)(th:Throws X E)(ha:cY K X.cO [e] fa)(hc:X.calm=true:=by rfl)(hg:Gl X x:=by rfl)(hx:X.ex=[]:=by rfl)(hd:(x==("__debug__":ir))=false:=by decide)
  (he:yi [e] X.env=(false,yu e X.env)::yi [] X.env:=by exact FL.se rfl):rM K X E (.Raise (some (.Call (.Name x np) [e] [] dG)) none pos) (xH c false fa):=.mk fun hK C=>by
 subst hK;obtain⟨Ca,hm,hO,hX,ec⟩:=I;refine(zuD hc ec hg hm th ((zkn ha) rfl) hx hd he rfl).weak fun Dn σ H=>?_;rintro⟨ρ,rel,g⟩;obtain⟨y,ey,g1⟩:=g.pl;obtain⟨ds,ρ1⟩:=y;refine⟨ρ,rel.rel,?_⟩;rw[ey];intro H' r sx vs fs;cases ds with
 | nil=>exact g1.elim
 | cons d rr =>
  cases rr with
  | cons _ _=>exact g1.elim
  | nil =>
   obtain⟨v,r',rfl,fv,e'⟩:=fs;obtain rfl:r'=[]:=e';refine⟨by rw[zC];show 1<=_;omega,g1 _ (zi0 rel sx fun a o q _=>q) _ _ ⟨hO,[],[],hX,rfl,rfl,rfl⟩⟩
def xM(K:yf)(ks:List (Option String))(fr:Bool)(G:List D->R D):Sp:=fun vs H Q E=>∃ ds,fi H/\ie K H ks ds vs /\
 ((∃ d,G ds=.ok d/\∀ v H',ay H H'->(if fr=true then ∃ a,v=.ref a/\H a=none/\cC K H' a d else Fz K H' d v)->Q v H') \/
  ∃ c fs,G ds=.err c fs/\∀ H',ay H H'->Wn K E c fs H')
end
section
variable [Cs]{K:yf}
theorem zoO{q:ir}{st:yx}{fd:yL}{N ps:List ir}(ks:List (Option String))(fr:Bool)(h:c9 K x q st f fd)(S:d9 N ps (aH st))(c5:ps.length=ks.length)(cZ:ps.length<=N.length)
  (hb:∀(aq:gV) (A:yy) (outer:List yC) (s:kb) (H:Hp) (E:XK),aM k (A.deeper (zc q (aH st) s.heap.objs.size f aq))->jj K (dw (aZ P w) P w K mg base N q (aH st) f aq A outer s H E) E (bW st) b) :
  b6 P w K mg base (aZ P w) (k+1) f fd ps (xM K ks fr (iM ks fr N.length b)):=by
 refine h.mz S (fun vs H Q E ⟨ds,_,e,_⟩=>by rw[e.len.1,c5]) fun aq A outer s H vs Q E hr hq=>?_;obtain⟨ds,cst,fa,q⟩:=hq;obtain⟨hv,hd⟩:=fa.len;have cu:L2.start N vs=vs.map some++yq (N.length-ds.length) none:=by unfold L2.start;rw[hv,hd]
 have no:∀(i:Nat) p d,(zG d8 ks ds++yq (N.length-ds.length) .no)[i]?≠some (.ow p d):=fun i p d e=>by
  by_cases c:i<(zG d8 ks ds).length
  ·rw[zK c]at e
   exact yb e
  ·rw[Ay (by omega),Aa]at e
   split at e <;> cases e
 refine⟨xP K ⟨H,L2.start N vs,zG d8 ks ds++yq (N.length-ds.length) .no⟩ E b,(hb aq A outer s H E hr).run rfl _,zG d8 ks ds++yq (N.length-ds.length) .no,?_,?_⟩
 ·refine⟨?_,fun a o e _=>e,fun i a d e _=>absurd e (no i false d),fun i=>AR,fun i d e=>rfl,fun i p d e=>absurd e (no i p d)⟩
  rw[cu];exact(zeW cst fa).pad _
 ·have kp:∀(ρ':En) (σ':L2.St) (H':Hp),bc K ⟨H,L2.start N vs,zG d8 ks ds++yq (N.length-ds.length) .no⟩ ρ' σ' H'->ay H H':=fun ρ' σ' H' r b o e=>r.keep b o e fun⟨i,⟨p,d,z⟩,_⟩=>no i p d z
  rcases q with⟨d,hF,q⟩|⟨c,fs,hF,q⟩
  ·unfold iM at hF
   rw[if_pos hd]at hF;obtain⟨z,ez,ey⟩:=bj hF;rw[ez];obtain⟨fl,ρ'⟩:=z;cases fr with
   | false =>
    cases fl with
    | rt dr=>cases ey;exact fun v σ' H' r fz=>q v H' (kp _ _ _ r) fz
    | nx=>cases ey;exact fun σ' H' r fz=>q .non H' (kp _ _ _ r) (by show Fz K H' .none .non;simp[Fz])
    | _=>cases ey
   | true =>
    cases fl with
    | rf dr=>cases ey;exact fun a σ' H' r ha m=>q (.ref a) H' (kp _ _ _ r) ⟨a,rfl,ha,m⟩
    | _=>cases ey
  ·unfold iM at hF
   rw[if_pos hd]at hF;cases ez:b (zG d8 ks ds++yq (N.length-ds.length) .no) with
   | ok z =>
    rw[ez]at hF;obtain⟨fl,ρ'⟩:=z;cases fr <;> cases fl <;> cases hF
   | bad=>rw[ez]at hF;cases hF
   | err c' fM =>
    rw[ez]at hF;cases hF;exact fun H' kc=>q H' fun a o e=>kc a o e fun⟨i,⟨p,d,z⟩,_⟩=>no i p d z
end
end
end FL
namespace L2
open PySem PySem.Spec PyProof.Rows
end L2
namespace FL
open PySem L2 PySem.Spec
open PyProof.Rows hiding St
variable {e:yh}{X:Cx}{E:XK}
section
section
variable [Cs]{K:yf}
theorem _root_.L2.pH.weak{t t':TX}(h:pH X e t)(w:∀ σ H Q E,t' σ H Q E->t σ H Q E):pH X e t':=fun pins s σ H Q E I q=>h pins s σ H Q E I (w σ H Q E q)
end
end
variable {i k:Nat}{y:Sl}{w:yv}{c:String}{p pos px:yn}{N ns ps:List ir}{base:yo}{b:SF}{ρ:En}{P:yw}{mg:ir->Option gV}{v:Option V}{σ:L2.St}{n0 q x:ir}{C f:dm}{H:Hp}{G:String->List D->R D}
section
def zyG(i:Nat)(tb:List (String×Nat)):EF:=fun ρ=>match ρ[i]? with
 | some (.ob c ds)=>(R.of (tb.lookup c)).bind fun j=>(R.of ds[j]?).bind fun d=>.ok (d,ρ)
 | _=>.bad
def cT(i:Nat)(tb:List (String×Bool)):EF:=fun ρ=>match ρ[i]? with
 | some (.ob c _)=>(R.of (tb.lookup c)).bind fun b=>.ok (.bool b,ρ)
 | _=>.bad
def nQ(i:Nat)(G:String->List D->R D):EF:=fun ρ=>match ρ[i]? with
 | some (.ob c ds)=>(G c ds).bind fun d=>.ok (d,ρ)
 | _=>.bad
def runK(n:Nat)(b:SF)(c:String)(fs:List D):R D:=(b (.ob c fs::yq (n-1) .no)).bind fun x=>match x.1 with
 | .rt d=>.ok d
 | _=>.bad
section
variable [Cs]{K:yf}
theorem bc.xh{C:SC}(r:bc K C ρ σ H)(np:∀ e,ρ[i]?≠some (.ow true e))(hl:i<ρ.length)(o:dF K H y v)(hy:∀ p d,y≠.ow p d):bc K C (ρ.set i y) (σ.set i v) H:=by
 refine⟨r.rel.set o fun _ _ _ z=>absurd z (hy _ _),r.keep,fun j b c' e1 e2=>?_,fun j=>?_,fun j c' e1=>?_,r.kY⟩
 ·by_cases k:i=j
  ·subst k
   rw[zg hl]at e1;exact absurd (zt e1) (hy _ _)
  ·rw[yZ k]at e1 e2
   exact r.own j b c' e1 e2
 ·by_cases k:i=j
  ·subst k
   rw[zg hl,<- r.pin i]
   constructor
   ·rintro⟨_,z⟩;exact absurd (zt z) (hy _ _)
   ·rintro⟨c',z⟩;exact absurd z (np c')
  ·rw[yZ k];exact r.pin j
 ·by_cases k:i=j
  ·subst k
   rw[zg hl]at e1;exact absurd (zt e1) (hy _ _)
  ·rw[yZ k]at e1 ⊢
   exact r.fix j c' e1
theorem zd4{ds:List D}(rel:Rel K ρ σ H)(e:ρ[i]?=some (.ob c ds)):∃ a,σ[i]?=some (some (.ref a))/\dF K H (.ob c ds) (some (.ref a)):=by
 have hl:i<σ.length:=by rw[<- rel.len];exact(yQ.mp e).1
 have o:=rel.ok i _ _ e (yO hl);cases es:σ[i] with
 | none=>rw[es]at o;exact o.elim
 | some v =>
  rw[es]at o;cases v with
  | ref a=>exact⟨a,by rw[yO hl,es],o⟩
  | _=>exact o.elim
theorem zov{ds:List D}(ho:Cs.O c=none)(hX:Cs.X c=some (C,ns))(rel:Rel K ρ σ H)(e:ρ[i]?=some (.ob c ds)):∃ a dd vs,σ[i]?=some (some (.ref a))/\H a=some (km a C dd)/\vs.length=ns.length/\ErD H ns vs dd/\ah K H ds vs:=by
 obtain⟨a,h1,h2⟩:=zd4 rel e;obtain⟨C',dd,z1,_,cV,vs,z2,z3,z4,z5⟩:=Or.resolve_left h2 fun⟨_,_,_,_,z,_⟩=>by rw[ho]at z;cases z
 rw[hX]at z2;cases z2;exact⟨a,dd,vs,h1,z1,z3,z4,z5⟩
theorem zjw{α:Type}{c:String}{j:α}:∀{tb:List (String×α)},tb.lookup c=some j->(c,j)∈tb
 | [],h=>by cases h
 | (a,b)::r,h=>by
  rw[yN]at h
  split at h
  ·rename_i q
   rw[eq_of_beq q];cases h;exact zm ..
  ·exact yY _ (zjw h)
def aV(K:yf)(y:V)(c:String)(b:Bool):Prop:=Cs.O c=none/\∃ B ns,Cs.X c=some (B,ns)/\iU K B/\yR K (.ref B) (lL y)=some b
theorem dn{tn:ir}{p2:yn}{y:V}(i:Nat)(tb:List (String×Bool))(hy:lL y≠.none)(hE:∀ p∈tb,aV X.K y p.1 p.2)(hT:PE X (.Name tn p2) (tC y))(hm:X.mg "isinstance"=none)(hg:Gl X "isinstance":=by rfl)(hv:PE X (.Name x px) (dD i):=by exact pv _)
  (kN:yi [.Name x px,.Name tn p2] X.env=(false,yu (.Name x px) X.env)::yi [.Name tn p2] X.env:=by exact FL.se rfl) (c7:yi [.Name tn p2] X.env=(false,yu (.Name tn p2) X.env)::yi [] X.env:=by exact FL.se rfl) (aS:(yJ pos (yi [.Name tn p2] X.env)).any (·.1)=false:=by exact FL.sp rfl) :
  PV K X (.Call (.Name "isinstance" p) [.Name x px,.Name tn p2] [] pos) (cT i tb):=.mk fun hK=>by
 subst hK;refine(zeq (x:="isinstance") (id:="isinstance") znd hg hm KC.Bt.isinstance (gh hv (gh hT jy c7) kN) (by decide) (by decide) kN aS).weak fun σ H Q=>?_;rintro⟨ρ,rel,g⟩;unfold cT at g;cases e:ρ[i]? with
 | none=>rw[e]at g;exact g.elim
 | some z =>
  rw[e]at g;cases z with
  | ob c ds =>
   obtain⟨b,eb,g⟩:=g.cE;have eb':(c,b)∈tb:=by
    cases q:tb.lookup c with
    | none=>rw[q]at eb;cases eb
    | some z=>rw[q]at eb;cases eb;exact zjw q
   obtain⟨hO,B,ns,hX,ek,kt⟩:=hE _ eb';obtain⟨a,dd,vs,h1,h2,h3,h4,h5⟩:=zov hO hX rel e;refine⟨.ref a,h1,?_⟩;refine⟨a,y,B,dd,b,rfl,hy,h2,fun dx ed=>?_,ek,kt,g.now rel _ (iy _)⟩;subst ed;exact⟨_,h4⟩
  | _=>exact g.elim
def spK(K:yf)(G:String->List D->R D):Sp:=fun vs H Q _=>∃ a c fs d,vs=[.ref a]/\fi H/\dF K H (.ob c fs) (some (.ref a))/\G c fs=.ok d/\∀ v H',ay H H'->Fz K H' d v->Q v H'
theorem zu5{j:Nat}{nm:ir}(i:Nat)(cc:Callee X.prog X.w X.K X.mg X.base nm k ps (spK X.K G))(hr:aM j X.A)(hv:PE X (.Name x px) (dD i):=by exact pv _)(hg:Gl X nm:=by rfl)(hj:k<=j:=by decide)(bp:(nm==("__debug__":ir))=false:=by decide)
  (he:yi [.Name x px] X.env=(false,yu (.Name x px) X.env)::yi [] X.env:=by exact FL.se rfl) (aS:(yJ pos (yi [] X.env)).any (·.1)=false:=by exact FL.sp rfl) :
  PV K X (.Call (.Name nm p) [.Name x px] [] pos) (nQ i G):=.mk fun hK=>by
 subst hK;refine(qA cc hr hg kX (gh hv jy he) hj bp he aS).weak fun σ H Q=>?_;rintro⟨ρ,rel,g⟩;unfold nQ at g;cases e:ρ[i]? with
 | none=>rw[e]at g;exact g.elim
 | some z =>
  rw[e]at g;cases z with
  | ob c ds =>
   obtain⟨d,ed,g⟩:=g.cE;obtain⟨a,h1,h2⟩:=zd4 rel e;exact⟨.ref a,h1,a,c,ds,d,rfl,rel.cst,h2,ed,fun v H' s fz=>g.new rel s v fz⟩
  | _=>exact g.elim
end
section
variable [Cs]{K:yf}
theorem zoR{st:yx}{fd:yL}(h:c9 K x q st f fd)(S:d9 N [n0] (aH st))(cZ:1<=N.length)
  (hb:∀(aq:gV) (A:yy) (outer:List yC) (s:kb) (H:Hp) (E:XK),aM k (A.deeper (zc q (aH st) s.heap.objs.size f aq))->dE K (dw (aZ P w) P w K mg base N q (aH st) f aq A outer s H E) (bW st) b) :
  b6 P w K mg base (aZ P w) (k+1) f fd [n0] (spK K (runK N.length b)):=by
 refine h.mz S (fun vs H Q E ⟨_,_,_,_,e,_⟩=>by rw[e];rfl) fun aq A outer s H vs Q E hr hq=>?_;obtain⟨a,c,fs,d,rfl,cst,sl,hF,q⟩:=hq;have no:∀(i:Nat) p d,(Sl.ob c fs::yq (N.length-1) .no)[i]?≠some (.ow p d):=fun i p d e=>by
  cases i with
  | zero=>cases e
  | succ i =>
   rw[zz1,Aa]at e
   split at e <;> cases e
 have cu:L2.start N [V.ref a]=some (V.ref a)::yq (N.length-1) none:=by unfold L2.start;rfl
 refine⟨tS K ⟨H,L2.start N [.ref a],.ob c fs::yq (N.length-1) .no⟩ b,hb aq A outer s H E hr rfl _,.ob c fs::yq (N.length-1) .no,?_,?_⟩
 ·refine⟨?_,fun a o e _=>e,fun i a d e _=>absurd e (no i false d),fun i=>AR,fun i d e=>rfl,fun i p d e=>absurd e (no i p d)⟩
  rw[cu];have r0:Rel K [Sl.ob c fs] [some (V.ref a)] H:=by
   refine⟨rfl,fun i x v e1 e2=>?_,fun i j a z _=>?_,cst⟩
   ·cases i with
    | zero=>cases e1;cases e2;exact sl
    | succ i=>cases e1
   ·obtain⟨⟨p,d,z⟩,_⟩:=z
    cases i with
    | zero=>cases z
    | succ i=>cases z
  exact r0.pad (N.length-1)
 ·unfold runK at hF
  obtain⟨z,ez,ey⟩:=bj hF;rw[ez];obtain⟨fl,ρ'⟩:=z;cases fl with
  | rt dr=>cases ey;exact fun v σ' H' r fz=>q v H' (fun b o e=>r.keep b o e fun⟨i,⟨p,d,z⟩,_⟩=>no i p d z) fz
  | _=>cases ey
end
end
section
noncomputable def oC(b:Bool):List Bool->Option Nat
 | []=>none
 | a::r=>if a=b then some 0 else(oC b r).map (·+1)
def ziV:D->D->R D
 | .list ds,.bool b=>(R.of (boolsOf ds)).bind fun bs=>(R.of (oC b bs)).bind fun j=>.ok (.int j)
 | _,_=>.bad
theorem ziL{b:Bool}:∀{bs:List Bool} {j:Nat},oC b bs=some j->bs[j]?=some b/\∀(m:Nat) a,m<j->bs[m]?=some a->a≠b
 | [],j,h=>by cases h
 | a::r,j,h=>by
  unfold oC at h
  split at h
  ·rename_i e
   cases h;exact⟨by rw[e];rfl,fun m a hm=>absurd hm (Nat.not_lt_zero _)⟩
  ·rename_i e
   obtain⟨i,hi,rfl⟩:=AA.mp h;obtain⟨h1,h2⟩:=ziL hi;refine⟨h1,fun m a' hm hg=>?_⟩;cases m with
   | zero=>cases hg;exact e
   | succ m=>exact h2 m a' (by omega) hg
section
variable [Cs]{K:yf}{o:yh}{f h:EF}
theorem zvb{apos dG:yn}(ho:PV K X o f)(he:PV K X e h)
  (zcb:Cr o "index" X.env (yu o X.env)=yu o X.env:=by rfl)
  (zcf:((yJ dG (yi [e] X.env)).all (fun x=>!x.1)&&(Cu dG (Cv [] X.env)).all (fun x=>x.1.isSome)&&decide ([e].length+([]:List Keyword).length+(if([]:List Keyword).isEmpty then 0 else 1)<30))=true:=by rfl)
  (zci:(apos.endLine==dG.line)=true:=by rfl) (cu:yi [e] X.env=(false,yu e X.env)::yi [] X.env:=by exact FL.se rfl) (zcN:(yJ dG (yi [] X.env)).any (·.1)=false:=by exact FL.sp rfl) :
  PV K X (.Call (.Attribute o "index" apos) [e] [] dG) (e2 ziV f h):=.mk fun hK=>by
 subst hK;refine(ztL PySem.F.plainAttrs_list PySem.F.slot_list_index PySem.F.type_list_index zsF (ho rfl) (gh (he rfl) jy cu) zcb zcf zci cu zcN).weak fun σ H Q q=>?_;obtain⟨ρ,rel,q⟩:=q;refine dS rel q fun dx ρ1 x H1 aj aB fx q1=>?_;cases dx with
 | list ds =>
  simp only[Fz]at fx;obtain⟨l,vs,rfl,sx,fs⟩:=fx;refine⟨.inl ⟨rfl,vs,sx.sq⟩,dS aj q1 fun dy ρ2 y H2 bY cg fy q3=>?_⟩;obtain⟨d,ed,q4⟩:=q3.cE;cases dy with
  | bool b =>
   simp only[Fz]at fy;subst fy;obtain⟨bs,eb,ed⟩:=bj (show((R.of (boolsOf ds)).bind fun bs=>(R.of (oC b bs)).bind fun j=>.ok (.int j))=.ok d from ed);obtain⟨j,ej,ed⟩:=bj ed;cases ed;have eb':boolsOf ds=some bs:=by
    cases z:boolsOf ds with
    | none=>rw[z]at eb;cases eb
    | some z'=>rw[z]at eb;cases eb;rfl
   have ej':oC b bs=some j:=by
    cases z:oC b bs with
    | none=>rw[z]at ej;cases ej
    | some z'=>rw[z]at ej;cases ej;rfl
   obtain⟨rfl,_⟩:=fs.bools eb';obtain⟨h1,h2⟩:=ziL ej';refine⟨l,bs.map V.bl,.bl b,.bl b,j,rfl,rfl,(ax.gm (cg.cD aj) sx).sq,rfl,?_,by rw[zv,h1];rfl,?_,fun m w hm hw=>?_,q4.now bY _ (cm _)⟩
   ·rw[zR]
    intro z hz;obtain⟨z',_,rfl⟩:=As.mp hz
    rfl
   ·cases b <;> rfl
   ·rw[zv]at hw
    obtain⟨a,ha,rfl⟩:=AA.mp hw;have:=h2 m a hm ha;cases a <;> cases b <;> first|rfl|exact absurd rfl this
  | _=>cases ed
 | _ =>
  obtain⟨y,ey,q2⟩:=q1.bt;obtain⟨d,ed,_⟩:=q2.cE;cases ed
end
end
variable {N:dm}{n:String}{cs:List dm}{cd:ClassData}{r:Bool}{t:gV}
section
section
variable {K:yf}
theorem zhM(s:cI cs K)(e:Aq K C=some cd):Aq (aC cs K) C=some cd:=by
 unfold Aq at e ⊢
 split at e
 ·rename_i x y cd' sl ho
  rw[gv s ho fun _ _ z=>nomatch z];exact e
 ·cases e
theorem zsD(s:cI cs K){b:gV}(e:DU K C b=some r):DU (aC cs K) C b=some r:=by
 obtain⟨cd,e1,e2⟩:=AD.mp e;exact AD.mpr ⟨cd,zhM s e1,e2⟩
theorem za1(s:cI cs K)(e:(Aq K C).isSome=true):(Aq (aC cs K) C).isSome=true:=by
 obtain⟨cd,e1⟩:=FN.mp e;rw[zhM s e1];rfl
theorem zld(s:cI cs K)(c:(Aq K C).isSome=true)(e:C2 K (.ref C)=some t):C2 (aC cs K) (.ref C)=some t:=by
 unfold Aq at c
 split at c
 ·rename_i x y cd' sl ho
  exact xV s ho (fun _ _ z=>nomatch z) e
 ·cases c
theorem iU.cut(s:cI cs K)(h:iU K C):iU (aC cs K) C:=⟨jY s h.ga,jY s h.gn,jY s h.cl,qP s h.be,zsD s h.ob,za1 s h.is⟩
theorem kl.cut(s:cI cs K)(h:kl K C):kl (aC cs K) C:=⟨zld s h.cl h.ty,za1 s h.cl,qP s h.be⟩
theorem zjK(s:cI cs K)(e:Fx K N=true):Fx (aC cs K) N=true:=by
 unfold Fx at e ⊢
 split at e
 ·rename_i ho
  rw[gv s ho fun _ _ z=>nomatch z];exact e
 ·cases e
theorem zk7(s:cI cs K){bm:List gV}:∀{l:List gV},Fy K bm l=true->Fy (aC cs K) bm l=true
 | [],e=>e
 | v::r,e=>by
  unfold Fy at e ⊢;rcases Bool.or_eq_true_iff.mp e with q|q
  ·rw[q,Bool.true_or]
  ·rw[D1]
   right
   split at q
   ·split at q
    ·rename_i ho
     simp only[zf]at q;rw[gv s ho fun _ _ z=>nomatch z];simp only[zf];exact⟨⟨zjK s q.1.1,by rw[zd2 s (eq_of_beq q.1.2)];rfl⟩,zk7 s q.2⟩
    ·cases q
   ·cases q
theorem zij(s:cI cs K){bm:List gV}(e:Ap K C bm n=true):Ap (aC cs K) C bm n=true:=by
 unfold Ap at e ⊢
 split at e
 ·rename_i ho
  rw[gv s ho fun _ _ z=>nomatch z]
  split at e
  ·rename_i hm hs
   simp only[zf]at e;simp only[hm,hs,zf];exact⟨⟨⟨e.1.1.1,zk7 s e.1.1.2⟩,zjK s e.1.2⟩,by rw[zd2 s (eq_of_beq e.2)];rfl⟩
  ·cases e
 ·cases e
theorem dj(s:cI cs K){c:gV}(e:yR K t c=some r):yR (aC cs K) t c=some r:=by
 unfold yR at e ⊢
 split at e
 ·rename_i h;rw[if_pos h];exact e
 ·rename_i h
  rw[if_neg h];unfold PySem.W.kitCls at e ⊢;cases c with
  | ref C =>
   simp only at e ⊢
   split at e
   ·rename_i z
    simp only[zf]at z;rw[if_pos (by simp only[zf];exact⟨za1 s z.1,by rw[zld s z.1 (eq_of_beq z.2)];decide⟩)];exact qP s e
   ·cases e
  | type T =>
   simp only at e ⊢
   split at e
   ·rename_i z
    rw[if_pos z];exact qP s e
   ·cases e
  | _=>cases e
end
end
variable {g:EF}
section
section
variable [Cs]{K:yf}
theorem zkd{st:List yx}:jj K X E st je:=.mk fun _ C=>fun _ _ _ _ _ _ ⟨_,_,g⟩=>g.elim
end
abbrev CTX[Cs](x:ir)(k:Nat)(ps:List ir)(ks:List (Option String))(fr:Bool)(G:List D->R D)(P:yw)(w:yv)(K:yf)(mg:ir->Option gV)(base:yo):Prop:=Callee P w K mg base x k ps (xM K ks fr G)
abbrev CTK[Cs](x:ir)(k:Nat)(ps:List ir)(G:String->List D->R D)(P:yw)(w:yv)(K:yf)(mg:ir->Option gV)(base:yo):Prop:=Callee P w K mg base x k ps (spK K G)
section
variable [Cs]{K:yf}{st:yx}{n:Nat}{fd:yL}
theorem fnE(ks:List (Option String))(fr:Bool)(N:List ir)(h:aE K mg x st)
  (hb:∀{f:dm} {aq:gV} {A:yy} {outer:List yC} {s:kb} {H:Hp} {E:XK},aM k (A.deeper (zc x (aH st) s.heap.objs.size f aq))->N.Nodup->jj K (dw (aZ P w) P w K mg base N x (aH st) f aq A outer s H E) E (bW st) b)
  (S:d9 N ps (aH st):=by exact⟨rfl,rfl,rfl,by decide +kernel,rfl,by decide +kernel,by decide +kernel⟩)(c5:ps.length=ks.length:=by rfl)(cZ:ps.length<=N.length:=by decide)
  (eR:∀(kV doc pm:gV) (an:Option dm) (aq ct:gV) (us:List gV),us.length=ps.length->Ax (zD x x (eY st) (bW st) (aH st) .none kV doc pm an aq ct) ⟨us,[]⟩=pure (ps.zip us):=by
   first
    | exact fun _ _ _ _ _ _=>kC fun _=>rfl
    | exact fun _ _ _ _ _ _=>kE fun _ _=>rfl
    | exact fun _ _ _ _ _ _=>kF fun _ _ _=>rfl
    | exact fun _ _ _ _ _ _=>pY fun _ _ _ _=>rfl):CTX x (k+1) ps ks fr (iM ks fr N.length b) P w K mg base:=by
 obtain⟨f,fd,hm,F⟩:=h;exact⟨f,fd,hm,F.kp,F.binds eR,zoO ks fr F S c5 cZ fun aq A outer s H E hr=>hb hr S.nd⟩
theorem fnK(N:List ir)(h:aE K mg x st)
  (hb:∀{f:dm} {aq:gV} {A:yy} {outer:List yC} {s:kb} {H:Hp} {E:XK},aM k (A.deeper (zc x (aH st) s.heap.objs.size f aq))->N.Nodup->dE K (dw (aZ P w) P w K mg base N x (aH st) f aq A outer s H E).cO (bW st) b)
  (S:d9 N [n0] (aH st):=by exact⟨rfl,rfl,rfl,by decide +kernel,rfl,by decide +kernel,by decide +kernel⟩)(cZ:1<=N.length:=by decide)
  (eR:∀(kV doc pm:gV) (an:Option dm) (aq ct:gV) (us:List gV),us.length=[n0].length->Ax (zD x x (eY st) (bW st) (aH st) .none kV doc pm an aq ct) ⟨us,[]⟩=pure ([n0].zip us):=by
   exact fun _ _ _ _ _ _=>kC fun _=>rfl):CTK x (k+1) [n0] (runK N.length b) P w K mg base:=by
 obtain⟨f,fd,hm,F⟩:=h;exact⟨f,fd,hm,F.kp,F.binds eR,zoR F S cZ fun aq A outer s H E hr=>qK (hb hr S.nd)⟩
end
end
end FL
namespace L2
open PySem PySem.Spec PyProof.Rows
variable {es:List yh}{p pos:yn}{x:ir}{e:yh}{X:Cx}{t:TA}{ps:List ir}
section
theorem pI.weak{st:List yx}{t t':va}(h:pI X st t)(w:∀ D E σ H,t' D E σ H->t D E σ H):pI X st t':=fun pins s σ H D E I q=>h pins s σ H D E I (w D E σ H q)
theorem zt8{k k' j:Nat}{uJ uK:Sp}(c1:Callee X.prog X.w X.K X.mg X.base x k ps uJ)(c2:Callee X.prog X.w X.K X.mg X.base x k' ps uK)(hr:aM j X.A)(hx:X.ex=[])(hg:Gl X x)(ha:PA X.cO (e::es) t)(hj:k<=j)(iC:k'<=j)(bp:(x==("__debug__":ir))=false)
  (he:yi (e::es) X.env=(false,yu e X.env)::yi es X.env) (aS:(yJ pos (yi es X.env)).any (·.1)=false):pH X (.Call (.Name x p) (e::es) [] pos) (zxe (fun vs H Q E=>uJ vs H Q E\/uK vs H Q E) t):=by
 obtain⟨f,fd,hm,hk,hb,F1⟩:=c1;obtain⟨f',fd',lS,_,j3,F2⟩:=c2;rw[hm]at lS;cases lS;intro pins s σ H Q E I h;refine C6 (qw I hg hm ?_ bp);refine DA (h₀:=X.base) I.ok.mod.oF hk (zo (ha pos pins s σ H _ (I.iR _) h) (fun us s1 hh=>?_) fun _ _ z=>z.elim) he aS;obtain⟨vs,H1,I1',r,q⟩:=hh;have I1:=I1'.jF;refine⟨I1.dI,?_⟩;have hl:us.length=ps.length:=by rw[<- r.length];exact q.elim (F1.len _ _ _ _) (F2.len _ _ _ _)
 have go:Aw (ym X.prog X.w) X.A (.call (.ref f) ⟨us,[]⟩) (CR (aZ X.prog X.w) X.stack X.prog X.w H1 s1 Q E) s1:=by
  rcases q with q|q
  ·exact F1.run X.A X.stack s1 H1 ⟨us,[]⟩ (us++[]) vs Q E (hr.mono hj) I1.vR (hb s1 us I1.dI (by rw[Am];exact hl)) (by rw[Am];exact r) q
  ·exact F2.run X.A X.stack s1 H1 ⟨us,[]⟩ (us++[]) vs Q E (hr.mono iC) I1.vR (j3 s1 us I1.dI (by rw[Am];exact hl)) (by rw[Am];exact r) q
 refine wpAny_call (C5 go fun r s' hq=>?_);cases r with
 | ok fl =>
  cases fl with
  | ret u=>exact I1.after hq
  | next=>exact zP hq
  | brk=>exact zP hq
  | cont=>exact zP hq
 | error ev =>
  obtain⟨ea,cls,dd,T,H',e1,os,bare,un,au,fl,ne,nT,oe,oT,qe⟩:=hq;exact⟨ea,cls,dd,T,H',e1,I1.zaV (ch:=[]) os un au bare (fun b z=>absurd z (by simp)),fl,ne,nT,I1.nw hx oe,I1.nw hx oT,qe⟩
end
end L2
namespace FL
open PySem L2 PySem.Spec
open PyProof.Rows hiding St
variable {i:Nat}{pos:yn}{p:Bool}{ρ:En}{X:Cx}{Ca:dm}{f:SF}{body:List yx}{d:D}
section
noncomputable def ug(ρ:En):Bool:=ρ.all fun x=>match x with
 | .ow _ _=>false
 | _=>true
def ze3(j y:Nat)(f:SF):SF:=fun ρ=>match f ρ with
 | .ok x=>.ok x
 | .err c fs=>if ug ρ=true/\j<ρ.length/\y<ρ.length then .ok (.nx,(ρ.set y (.ob c fs)).set j .no) else .bad
 | .bad=>.bad
section
variable [Cs]{K:yf}
theorem zbS{H:Hp}:∀{ds:List D} {vs:List V},ah K H ds vs->ie K H (yq ds.length none) ds vs
 | [],vs,h=>h
 | d::ds,vs,h=>by
  obtain⟨v,r,rfl,h1,h2⟩:=(show ∃ v r,vs=v::r/\Fz K H d v/\ah K H ds r from h);exact⟨v,r,rfl,h1,zbS h2⟩
def zfY(K:yf)(C:SC)(E:XK)(ρ:En)(σ:L2.St)(H:Hp)(r:R (Fl×En))(Dn:Ends):Prop:=match r with
 | .err c fs=>∀ H',(∀ a o,H a=some o->¬ MA ρ σ a->H' a=some o)->Wn K E c fs H'
 | .ok x=>cS K C H (.ok x) Dn
 | .bad=>False
noncomputable def tSX(K:yf)(C:SC)(f:SF):va:=fun D E σ H=>∃ ρ,bc K C ρ σ H/\zfY K C (E σ) ρ σ H (f ρ) D
structure zf2(K:yf)(X:Cx)(body:List yx)(f:SF):Prop where
 run:X.K=K->∀ C,pI X body (tSX K C f)
theorem zd0(h:ug ρ=true):ρ[i]?≠some (.ow p d):=fun e=>by
 have:=zR.mp h _ (Ag e);cases this
theorem zvB{xe cn n:ir}{p5 p6 p7 p8 p9:yn}(j y:Nat)(hN:X.N.Nodup)(hCa:kl X.K Ca)(hm:X.mg cn=some (.ref Ca))(wq:∀ c B ns,Cs.X c=some (B,ns)->A5 X.K (.ref B) (.ref Ca)=some true)(hb:zf2 K X body f)
  (hj:X.N[j]?=some n:=by rfl)(hy:X.N[y]?=some xe:=by rfl)(hjy:j≠y:=by decide)(hl:X.env.scope.names.lookup n=some .local:=by rfl)(hxe:Loc X.env.scope xe:=by exact AO rfl)(hf:X.fn xe=true\/X.env.scope.names.lookup xe=some .local:=by first|exact .inl rfl|exact .inr rfl)(hg:Gl X cn:=by rfl)(cu:X.stack=X.env::X.outer:=by rfl)(eh:X.env.frame=some X.env.locals:=by rfl)
  (hvj:∀ e,PE (si X e) (.Name n p7) (dD j):=by intro _;exact pv _)(hd:(cn==("__debug__":ir))=false:=by decide) (c7:zB (.Name n p7) (some (.Name xe p6)) p8.line X.env=pure false:=by rfl) :
  cH K X (.Try body [.ExceptHandler (some (.Name cn p5)) (some n) [.Assign [.Name xe p6] (.Name n p7) p8] p9] [] [] pos) (ze3 j y f):=.mk fun hK C =>
 (zuF hCa cu eh (hb.run hK C) hg hm hN hj hl (fun e=>qF (w4 (X:=si X e) hN hy hxe (hvj e) c7 hf)) hd).weak fun Dn σ H=>by
 subst hK;rintro⟨ρ,rel,g⟩;refine⟨ρ,rel,?_⟩;unfold ze3 at g;cases ef:f ρ with
 | ok x=>rw[ef]at g;exact g
 | bad=>rw[ef]at g;exact g.elim
 | err c fs =>
  rw[ef]at g
  by_cases hc:ug ρ=true/\j<ρ.length/\y<ρ.length
  ·replace g:cS X.K C H (if ug ρ=true/\j<ρ.length/\y<ρ.length then .ok (.nx,(ρ.set y (.ob c fs)).set j .no) else .bad) Dn:=g
   rw[if_pos hc]at g;obtain⟨no,tf,hyl⟩:=hc;have hls:σ.length=ρ.length:=rel.rel.len.symm;intro H' kp B dd er;have s1:ay H H':=fun a o e=>kp a o e fun⟨i,⟨p,d,z⟩,_⟩=>zd0 no z;obtain⟨_,ns,_,hX,_⟩:=id er;refine⟨B,rfl,wq c B ns hX,fun e ne=>⟨.ref e,zg (by rw[hls];exact tf),?_⟩⟩;have s2:ay H' (upd H' e (km e B dd)):=ay.upd ne;have s3:=s1.trans s2;show Dn.nx (((σ.set j (some (.ref e))).set y (some (.ref e))).set j none) _;rw[List.set_comm _ _ hjy,List.set_set];refine g _ _ ?_ (ax.of s3);have r1:=(rel.step (rel.rel.same s3) (.of s3)).xh (i:=y) (y:=.ob c fs) (v:=some (.ref e)) (fun d=>zd0 no) hyl (.inr ⟨B,dd,ck,er.mono (ax.of s2)⟩) fun _ _ z=>nomatch z;refine r1.xh (i:=j) (y:=.no) (v:=none) (fun d z=>?_) (by rw[A3];exact tf) trivial fun _ _ z=>nomatch z;rw[yZ (zq hjy)]at z;exact zd0 no z
  ·replace g:cS X.K C H (if ug ρ=true/\j<ρ.length/\y<ρ.length then .ok (.nx,(ρ.set y (.ob c fs)).set j .no) else .bad) Dn:=g
   rw[if_neg hc]at g;exact g.elim
end
end
variable {w:yv}{fa:AF}{c:String}{G:List D->R D}{b:SF}{e:yh}{P:yw}{mg:ir->Option gV}{ns ps:List ir}{ks:List (Option String)}{C:dm}{es:List yh}{x:ir}{k:Nat}{base:yo}
section
def zf1[Cs](P:yw)(w:yv)(K:yf)(mg:ir->Option gV)(base:yo)(c:String)(m:ir)(k:Nat)(ps:List ir)(ks:List (Option String))(G:List D->R D):Prop :=
 ∃(C f:dm) (ns:List ir) (fd:yL),Cs.O c=some (C,ns)/\m∉ns/\fG K C/\Meth K C m f/\Binds K fd ps []/\b6 P w K mg base (aZ P w) k f fd ps (o8 K (some c::ks) true G)
abbrev zfH[Cs](c:String)(m:ir)(k:Nat)(ps:List ir)(ks:List (Option String))(G:List D->R D)(P:yw)(w:yv)(K:yf)(mg:ir->Option gV)(base:yo):Prop:=zf1 P w K mg base c m k ps ks G
section
variable [Cs]{K:yf}{m:ir}{px apos:yn}{j:Nat}
theorem zvq{pl:zk Bool}(i:Nat)(M:zf1 X.prog X.w X.K X.mg X.base c m k ps ks G)(hr:aM j X.A)(ha:jO K X ks (e::es) fa)(hv:PE X (.Name x px) (dD i):=by exact pv _)(hj:k<=j:=by decide)
  (cu:yi (e::es) X.env=(false,yu e X.env)::yi es X.env:=by exact FL.se rfl)(aS:(yJ pos (yi es X.env)).any (·.1)=false:=by exact FL.sp rfl)
  (ht:yu (.Call (.Attribute (.Name x px) m apos) (e::es) [] pos) X.env=(do
   let ov <- yu (.Name x px) X.env
   AG apos.atName
   let(f,first) <- Ak [ov] (Cq ov m pl)
   callWith pos f first (yJ pos (yi (e::es) X.env)) (Cu pos (Cv [] X.env))):=by rfl) :
  aO K X (.Call (.Attribute (.Name x px) m apos) (e::es) [] pos) (av G (iY i c fa)):=.mk fun hK=>by
 subst hK;obtain⟨C,f,ns,fd,ho,hm,hc,me,hb,F⟩:=M;refine(ztW hv hc me F (hr.mono hj) hb .nil (kX (X:=X)) (ha rfl) cu aS ht).weak fun σ H Q=>?_;rintro⟨ρ,rel,q⟩;obtain⟨a,ds,y,e1,e2,o,ey,q0⟩:=ziy rel q;obtain⟨C',cV,dx,pA,h1,h2,h3,h4⟩:=Ft o fun⟨_,_,_,z,_⟩=>by rw[ho]at z;cases z
 rw[ho]at h1;cases h1;refine⟨.ref a,e2,a,dx,ns.zip pA,rfl,h2,zdv hm,ρ,rel,?_⟩;rw[ey];intro H1 aj aB vs fs;obtain⟨d,ed,q2⟩:=(q0.step aB).cE;rw[Am];refine⟨.tuple ds::y.1,aj.cst,⟨.ref a,vs,rfl,dF.mono (x:=.ob c ds) (aB.cD rel) (fun a _ ⟨p,d',z⟩=>nomatch z) o,fs⟩,d,ed,fun v H' s fin=>?_⟩;obtain⟨b,rfl,j3,m'⟩:=fin;exact q2.new aj s b (aB.none aj j3) m'
end
section
variable [Cs]{K:yf}{q:ir}{st:yx}{n:Nat}{f:dm}{fd:yL}
theorem zoL(ks:List (Option String))(N:List ir)(B:Ob K c C ns)(M:Meth K C x f)(F:c9 K x q st f fd)
  (hb:∀{f:dm} {aq:gV} {A:yy} {outer:List yC} {s:kb} {H:Hp} {E:XK},aM k (A.deeper (zc q (aH st) s.heap.objs.size f aq))->N.Nodup->dE K (dw (aZ P w) P w K mg base N q (aH st) f aq A outer s H E).cO (bW st) b)
  (hx:x∉ns:=by decide)(S:d9 N ps (aH st):=by exact⟨rfl,rfl,rfl,by decide +kernel,rfl,by decide +kernel,by decide +kernel⟩)(c5:ps.length=ks.length+1:=by rfl)(cZ:ps.length<=N.length:=by decide)
  (eR:∀(kV doc pm:gV) (an:Option dm) (aq ct:gV) (us:List gV),us.length=ps.length->Ax (zD x q (eY st) (bW st) (aH st) .none kV doc pm an aq ct) ⟨us,[]⟩=pure (ps.zip us):=by
   first
    | exact fun _ _ _ _ _ _=>kC fun _=>rfl
    | exact fun _ _ _ _ _ _=>kE fun _ _=>rfl
    | exact fun _ _ _ _ _ _=>kF fun _ _ _=>rfl):zfH c x (k+1) ps ks (iM (some c::ks) true N.length b) P w K mg base :=
 ⟨C,f,ns,fd,B.o,hx,B.c,M,F.binds eR,zbM (some c::ks) true F S (by rw[c5];rfl) cZ fun aq A outer s H E hr=>qK (hb hr S.nd)⟩
end
end
variable {α:Type}{es:Array A7}
section
theorem di{Φ:α->Prop}{a:α}{l:List α}(h:Φ a)(t:∀ p∈l,Φ p):∀ p∈a::l,Φ p:=List.forall_mem_cons.mpr ⟨h,t⟩
theorem dh{Φ:α->Prop}:∀ p∈([]:List α),Φ p:=fun _ z=>nomatch z
end
variable {b c1:gV}{ep:Nat}{r:Bool}{sn:List ir}{s1:Array (Option gV)}{col:Option Bool}
section
section
variable {K:yf}{S fI ns:dm}{oo d1:Option dm}{nm qn:ir}{bs sub:List gV}{hd ab:Bool}{k0 k1 k2 k3 k5:Option gV}{nw n':String}
theorem zhO(e:A5 K (.ref C) b=some r):(Aq K C).isSome=true:=by
 obtain⟨cd,e1,_⟩:=AD.mp (show(Aq K C).bind _=some r from e);rw[e1];rfl
end
end
end FL
namespace L2
open PySem PySem.Spec PyProof.Rows
variable {es:List yh}{w:yv}{x:ir}{e:yh}{k:Nat}{CX:iT}{X:Cx}{P:yw}{mg:ir->Option gV}{t:TA}{ps:List ir}{base:yo}
section
variable {f C:dm}{fd:yL}{sp:Sp}{p pos:yn}
theorem b6.or{K:yf}{uJ uK:Sp}(F1:b6 P w K mg base CX k f fd ps uJ)(F2:b6 P w K mg base CX k f fd ps uK):b6 P w K mg base CX k f fd ps (fun vs H Q E=>uJ vs H Q E\/uK vs H Q E) :=
 ⟨fun vs H Q E h=>h.elim (F1.len vs H Q E) (F2.len vs H Q E),fun A st s H kw us vs Q E hr h0 hb r h=>h.elim (F1.run A st s H kw us vs Q E hr h0 hb r) (F2.run A st s H kw us vs Q E hr h0 hb r)⟩
end
end L2
namespace FL
open PySem L2 PySem.Spec
open PyProof.Rows hiding St
variable {w:yv}{base:yo}{b:SF}{k n:Nat}{X:Cx}{P:yw}{mg:ir->Option gV}{f:dm}{ps:List ir}{q x:ir}{E:XK}
section
def sXo(g:EF):SF:=fun ρ=>match g ρ with
 | .err c fs=>.err c fs
 | _=>.bad
def xD(n m:Nat)(b:SF)(ds:List D):R D:=if ds.length=n then(match b (Sl.no::(ds.map Sl.val++yq (m-n-1) .no)) with
 | .err c fs=>.err c fs
 | _=>.bad) else .bad
section
variable [Cs]{K:yf}
def zkV(K:yf)(C:dm)(n:Nat)(G:List D->R D):Sp:=fun vs H Q E=>∃ a dx us ds c fs,vs=.ref a::us/\us.length=n/\H a=some (.ins C dx [])/\fi H/\ah K H ds us/\G ds=.err c fs/\∀ H',ay H H'->Wn K E c fs H'
def zxa(K:yf)(c:String)(C:dm)(n:Nat)(F G:List D->R D):Sp:=fun vs H Q E=>xK K c C n F vs H Q E\/zkV K C n G vs H Q E
end
section
variable [Cs]{K:yf}
theorem zoQ{st:yx}{Ca:dm}{fd:yL}{N:List ir}(h:c9 K x q st f fd)(S:d9 N ps (aH st))(c5:ps.length=n+1)(cZ:ps.length<=N.length)
  (hb:∀(aq:gV) (A:yy) (outer:List yC) (s:kb) (H:Hp) (E:XK),aM k (A.deeper (zc q (aH st) s.heap.objs.size f aq))->jj K (dw (aZ P w) P w K mg base N q (aH st) f aq A outer s H E) E (bW st) b) :
  b6 P w K mg base (aZ P w) (k+1) f fd ps (zkV K Ca n (xD n N.length b)):=by
 refine h.mz S (fun vs H Q E ⟨a,dx,us,ds,c,fs,e,hl,_⟩=>by rw[e,yK,hl,c5]) fun aq A outer s H vs Q E hr hq=>?_;obtain⟨a,dx,us,ds,c,fs,rfl,hl,ha,cst,fa,hF,q⟩:=hq;have hd:ds.length=n:=by rw[<- fa.len,hl]
 unfold xD at hF;rw[if_pos hd]at hF;have cu:L2.start N (.ref a::us)=some (.ref a)::(us.map some++yq (N.length-n-1) none):=by
  unfold L2.start;rw[yK,hl,zh,zN,show N.length-(n+1)=N.length-n-1 by omega]
 have no:∀(i:Nat) p d,(Sl.no::(ds.map Sl.val++yq (N.length-n-1) .no))[i]?≠some (.ow p d):=fun i p d e=>by
  rcases yH.mp (Ag e)with m|m
  ·cases m
  ·rcases BL.mp m with m|m
   ·obtain⟨_,_,z⟩:=As.mp m;cases z
   ·have:=Fu m;cases this
 have r0:=(xA cst fa).pad (N.length-n-1);refine⟨xP K ⟨H,L2.start N (.ref a::us),Sl.no::(ds.map Sl.val++yq (N.length-n-1) .no)⟩ E b,(hb aq A outer s H E hr).run rfl _,Sl.no::(ds.map Sl.val++yq (N.length-n-1) .no),?_,?_⟩
 ·refine⟨?_,fun a o e _=>e,fun i a d e _=>absurd e (no i false d),fun i=>AR,fun i d e=>rfl,fun i p d e=>absurd e (no i p d)⟩
  rw[cu];refine⟨by simpa using r0.len,fun i x v e1 e2=>?_,fun i j b ⟨⟨p,d,z⟩,_⟩=>absurd z (no i p d),cst⟩;cases i with
  | zero=>simp at e1;subst e1;trivial
  | succ i=>exact r0.ok i x v (by simpa using e1) (by simpa using e2)
 ·cases ez:b (Sl.no::(ds.map Sl.val++yq (N.length-n-1) .no)) with
  | err c' fM =>
   rw[ez]at hF;cases hF;exact fun H' kc=>q H' fun a o e=>kc a o e fun⟨i,⟨p,d,z⟩,_⟩=>no i p d z
  | _=>rw[ez]at hF;cases hF
end
end
section
end
variable {c:String}{g:AF}{ns:List ir}
section
def rJ[Cs](P:yw)(w:yv)(K:yf)(mg:ir->Option gV)(base:yo)(x:ir)(c:String)(k:Nat)(ps:List ir)(n:Nat)(F G:List D->R D):Prop :=
 ∃(C f:dm) (fd:yL),mg x=some (.ref C)/\Mk K C f/\Binds K fd ps []/\b6 P w K mg base (aZ P w) k f fd ps (zxa K c C n F G)
abbrev zlD[Cs](x:ir)(c:String)(k:Nat)(ps:List ir)(n:Nat)(F G:List D->R D)(P:yw)(w:yv)(K:yf)(mg:ir->Option gV)(base:yo):Prop:=rJ P w K mg base x c k ps n F G
section
variable [Cs]{K:yf}{st:yx}{C:dm}{fd:yL}{G1 G2:List D->R D}
theorem rJ.good(m:rJ P w K mg base x c k ps n G1 G2):Maker P w K mg base x c k ps n G1:=by
 obtain⟨C,f,fd,h1,h2,h3,h4⟩:=m;exact⟨C,f,fd,h1,h2,h3,h4.imp fun _ _ _ _ h=>.inl h⟩
theorem zoK(N:List ir)(B:Ob K c C ns)(tJ:∀ c' cV,Cs.O c'=some (C,cV)->cV.length=ns.length)(hm:mg x=some (.ref C))(M:Mk K C f)(F:c9 K "__init__" q st f fd)
  (hb:∀{aq:gV} {A:yy} {outer:List yC} {s:kb} {H:Hp} {E:XK} (Cc:SC),aM k (A.deeper (zc q (aH st) s.heap.objs.size f aq))->N.Nodup->b9 (dw (aZ P w) P w K mg base N q (aH st) f aq A outer s H E).cO (bW st) (qT K Cc C ns g))
  (hbx:∀{aq:gV} {A:yy} {outer:List yC} {s:kb} {H:Hp} {E:XK},aM k (A.deeper (zc q (aH st) s.heap.objs.size f aq))->N.Nodup->jj K (dw (aZ P w) P w K mg base N q (aH st) f aq A outer s H E) E (bW st) b)
  (S:d9 N ps (aH st):=by exact⟨rfl,rfl,rfl,by decide +kernel,rfl,by decide +kernel,by decide +kernel⟩) (c5:ps.length=n+1:=by rfl) (cZ:ps.length<=N.length:=by decide) (qo:ns.length<1000:=by decide)
  (eR:∀(kV doc pm:gV) (an:Option dm) (aq ct:gV) (us:List gV),us.length=ps.length->Ax (zD "__init__" q (eY st) (bW st) (aH st) .none kV doc pm an aq ct) ⟨us,[]⟩=pure (ps.zip us):=by
   first
    | exact fun _ _ _ _ _ _=>kE fun _ _=>rfl
    | exact fun _ _ _ _ _ _=>kF fun _ _ _=>rfl
    | exact fun _ _ _ _ _ _=>pY fun _ _ _ _=>rfl):rJ P w K mg base x c (k+1) ps n (xC n N.length ns.length g) (xD n N.length b) :=
 ⟨C,f,fd,hm,M,F.binds eR,(zoP B.o tJ B.nd qo F S c5 cZ fun Cc aq A outer s H E hr=>b9.cO (hb Cc hr S.nd)).or (zoQ F S c5 cZ fun aq A outer s H E hr=>hbx hr S.nd)⟩
end
end
section
end
end FL
namespace FL
open PySem
def su(k:Nat)(ix:List Nat)(g:GF)(t:TF)(k2:Nat)(cz:IF)(g2:GF)(t2:TF)(kf vf:EF):List D->En->D->R (D×En)
 | [],ρ,acc=>.ok (acc,ρ)
 | x::xs,ρ,acc=>(g x (dg k ix ρ)).bind fun β=>(t β).bind fun c =>
   if c.1=true then(cz c.2).bind fun z=>(pW k2 (CM k2 (z.2.length-k2)) g2 t2 kf vf z.1 z.2 acc).bind fun y=>su k ix g t k2 cz g2 t2 kf vf xs (back ρ ix (y.2.drop k)) y.1
   else su k ix g t k2 cz g2 t2 kf vf xs (back ρ ix (c.2.drop k)) acc
def vN(k:Nat)(ix:List Nat)(it:IF)(g:GF)(t:TF)(k2:Nat)(cz:IF)(g2:GF)(t2:TF)(kf vf:EF):EF:=fun ρ=>(it ρ).bind fun x=>(su k ix g t k2 cz g2 t2 kf vf x.1 x.2 (.dict [])).bind fun y=>.ok (y.1,y.2)
end FL
namespace L2
open PySem PySem.Spec PyProof.Rows
variable {i0 i1 kx t0 t1 vx:yh}{c0 c1:List yh}{pos:yn}{scope:yT}
theorem dk0:Ck (.DictComp kx vx [⟨t0,i0,c0,0⟩,⟨t1,i1,c1,0⟩] scope pos) 0 t0 i0 c0 (pZ (.DictComp kx vx [⟨t0,i0,c0,0⟩,⟨t1,i1,c1,0⟩] scope pos) 1 i1):={ cl:=rfl,tn:=fun _ _ _=>rfl }
theorem dk1:Ck (.DictComp kx vx [⟨t0,i0,c0,0⟩,⟨t1,i1,c1,0⟩] scope pos) 1 t1 i1 c1 (zbG kx vx):={ cl:=rfl,tn:=fun _ _ _=>rfl }
end L2
namespace FL
open PySem L2 PySem.Spec
open PyProof.Rows hiding St
variable {cz it:IF}{pos:yn}{dom gH ix:List Nat}{scope:yT}{g g2:GF}{X:Cx}{t t2:TF}
section
variable [Cs]{K:yf}{kf vf:EF}
variable {ke ve tg iter t1 i1:yh}{ifs c1:List yh}
theorem za4{k k2:Nat}{ix:List Nat}:∀(xs:List D) (ρ:En) (a:D),su k ix g t k2 cz g2 t2 kf vf xs ρ a=fq k ix g t (pN k2 cz g2 t2 (rW kf vf)) xs ρ a
 | [],ρ,a=>rfl
 | x::xs,ρ,a=>by
  unfold su fq;cases g x (dg k ix ρ) with
  | ok β =>
   simp only[aA];cases t β with
   | ok c =>
    obtain⟨b,β2⟩:=c;simp only[aA];cases b with
    | true =>
     simp only[if_true,pN];cases cz β2 with
     | ok z =>
      simp only[aA];rw[<- za5];cases pW k2 (CM k2 (z.2.length-k2)) g2 t2 kf vf z.1 z.2 a with
      | ok y=>exact za4 xs _ _
      | _=>rfl
     | _=>rfl
    | false=>exact za4 xs _ _
   | _=>rfl
  | _=>rfl
theorem zpi{k k2:Nat}(nd:ix.Nodup)(bP:dom.all (fun i=>decide (k2<=i)&&decide (i<k))=true)(kI:gH.all (fun i=>decide (i<k2))=true)(hk:k2<=k)(σ:L2.St)(H:Hp)(Q:VK)(q:tN K (vN k ix it g t k2 cz g2 t2 kf vf) σ H Q) :
  zk2 k ix (tI K it) (tG K dom g) (tT K t) (xU k2 (tI K cz) (tG K gH g2) (tT K t2) (zfx (tV K kf) (tV K vf))) σ H Q :=
 zb3 (d0:=.dict []) (zgC mok kI zmj) (fun ρ=>by unfold vN;cases it ρ with
  | ok x=>simp only[aA];rw[za4];cases fq k ix g t (pN k2 cz g2 t2 (rW kf vf)) x.1 x.2 (.dict []) <;> rfl
  | _=>rfl) zsI nd bP hk σ H Q q
end
end FL
namespace L2
open PySem PySem.Spec PyProof.Rows
variable {wi:TI}{tu:TU}{x0:ir}{tc:TT}{pos:yn}{scope:yT}{g:TG}{X:Cx}
section
theorem zux{kx vx tg iter t1 i1:yh}{ifs c1:List yh}{pos' hZ:yn}(i0:Nat)(L:List ir)(ix:List Nat)(M:List ir)(hN:X.N.Nodup)(kK:X.N[i0]?=some x0)(j6:X.env.scope.names.lookup x0=some .local)
  (jr:zB (.DictComp kx vx [⟨tg,iter,ifs,0⟩,⟨t1,i1,c1,0⟩] scope pos) (some (.Name x0 pos')) hZ.line X.env=pure true)(hc:X.calm=true)(hk:scope.kind=.function)
  (hd:gR X.env.scope scope X.N ix=true)(hM:M=L++ix.map fun i=>X.N.getD i "") (hi:PI X tg iter wi)
  (hg:∀ C s₃ H₃ fp,PG (bo X M scope C s₃ H₃ fp) tg g) (bP:jL L.length g)
  (ht:∀ C s₃ H₃ fp,gu (bo X M scope C s₃ H₃ fp) ifs tc) (he:∀ C s₃ H₃ fp,PU (bo X M scope C s₃ H₃ fp) (pZ (.DictComp kx vx [⟨tg,iter,ifs,0⟩,⟨t1,i1,c1,0⟩] scope pos) 1 i1) tu)
  (hs:∀ x,zI iter X.env x=pure x:=by intro _;rfl) :
  PS X (.Assign [.Name x0 pos'] (.DictComp kx vx [⟨tg,iter,ifs,0⟩,⟨t1,i1,c1,0⟩] scope pos) hZ) (qR (zk2 L.length ix wi g tc tu) (qd i0)):=by
 exact zkb i0 L ix M hN kK j6 jr rfl dk0 kdD rfl hc hk hd hM hi hg bP ht he hs
end
end L2
namespace FL
open PySem PySem.Spec PyProof.Rows L2
variable {cz it:IF}{pos:yn}{scope:yT}{g g2:GF}{dom gH:List Nat}{x0:ir}{X:Cx}{t t2:TF}
section
variable [Cs]{K:yf}{kf vf:EF}
theorem zvx{ke ve tg iter t1 i1:yh}{ifs c1:List yh}{pos' hZ:yn}(i0:Nat)(k2:Nat)(L:List ir)(ix:List Nat)(M:List ir)(hN:X.N.Nodup)(hu:X.A.units+1<zb)(kK:X.N[i0]?=some x0)(j6:X.env.scope.names.lookup x0=some .local)
  (jr:zB (.DictComp ke ve [⟨tg,iter,ifs,0⟩,⟨t1,i1,c1,0⟩] scope pos) (some (.Name x0 pos')) hZ.line X.env=pure true)(hc:X.calm=true)(hk:scope.kind=.function)
  (hd:gR X.env.scope scope X.N ix=true)(hM:M=L++ix.map fun i=>X.N.getD i "") (nd:ix.Nodup) (hi:fV K X tg iter it)
  (hg:∀ C s₃ H₃ fp,fU K (bo X M scope C s₃ H₃ fp) dom tg g) (bP:dom.all (fun i=>decide (k2<=i)&&decide (i<L.length))=true)
  (ht:∀ C s₃ H₃ fp,iW K (bo X M scope C s₃ H₃ fp) ifs t)
  (hi2:∀ C s₃ H₃ fp,fV K (bo X M scope C s₃ H₃ fp) t1 i1 cz) (oq:∀ C s₃ H₃ fp,fU K (bo X M scope C s₃ H₃ fp) gH t1 g2) (kI:gH.all (fun i=>decide (i<k2))=true)
  (ht2:∀ C s₃ H₃ fp,iW K (bo X M scope C s₃ H₃ fp) c1 t2) (hke:∀ C s₃ H₃ fp,PV K (bo X M scope C s₃ H₃ fp) ke kf) (he:∀ C s₃ H₃ fp,PV K (bo X M scope C s₃ H₃ fp) ve vf) (wa:k2<=L.length)
  (hs:∀ x,zI iter X.env x=pure x:=by intro _;rfl) (c7:∀ C s₃ H₃ fp x,zI i1 (bo X M scope C s₃ H₃ fp).env x=pure x:=by intro _ _ _ _ _;rfl) :
  cH K X (.Assign [.Name x0 pos'] (.DictComp ke ve [⟨tg,iter,ifs,0⟩,⟨t1,i1,c1,0⟩] scope pos) hZ) (eN i0 (vN L.length ix it g t k2 cz g2 t2 kf vf)):=.mk fun hK C=>by
 have zcg:dom.all (fun i=>decide (i<L.length))=true:=zR.mpr fun i m=>by
  have:=zR.mp bP i m;simp only[zf]at this;exact this.2
 exact(zux i0 L ix M hN kK j6 jr hc hk hd hM (hi hK) (fun C s₃ H₃ fp=>hg C s₃ H₃ fp hK) (qg zcg) (fun C s₃ H₃ fp=>ht C s₃ H₃ fp hK) (fun C s₃ H₃ fp=>zkh dk1 rfl hc (hi2 C s₃ H₃ fp hK) (oq C s₃ H₃ fp hK) (qg kI) (ht2 C s₃ H₃ fp hK) (zuZ hu rfl (hke C s₃ H₃ fp hK) (he C s₃ H₃ fp hK)) (c7 C s₃ H₃ fp)) hs).weak fun Dn σ H q=>zpi nd bP kI wa σ H _ (zb4 Dn σ H q)
end
end FL
namespace FL
open PySem L2 PySem.Spec
open PyProof.Rows hiding St
structure nA[Cs](K:yf)(a:dm)(ag:List (D×D)):Prop where
 ns:(a==AW)=false
 of:∀(P:yw) (w:yv),∃(xs:List (List Key×dm×gV)) (kk:List (List Key×V)) (o:yp) (es:Array A7) (ep:Nat),K.lookup a=some o/\o.ExactDict/\o.data=.dict es ep/\es.toList=xs.map (entryOfKey (AX (gf P w)))/\(xs.map (·.1)).Nodup/\∀ H,fi H->KT H kk xs/\aX K H ag kk
def rC[Cs](K:yf)(a:dm)(g:D->R D):R2:=fun x y H Q=>y=.ref a/\fi H/\∃ dx d,Tp K H dx x/\g dx=.ok d/\∀ v H',ay H H'->Fz K H' d v->Q v H'
variable {o:Option D}{p pos:yn}{g:D->R D}{j:Nat}{e:yh}{s:kb}{X:Cx}{v:V}{σ:L2.St}{ag:List (D×D)}{f:EF}{d k:D}{a:dm}{Q:VK}{x:ir}{H:Hp}{q:List Key}{pins:List (dm×yp)}{vs:List V}
section
variable [Cs]{K:yf}
theorem zh6(L:nA X.K a ag)(I:Inv X pins σ H s)(c:fi H):∃ xs kk,KT H kk xs/\s.heap.DictOfH (AX (gf X.prog X.w)) a xs/\aX X.K H ag kk:=by
 obtain⟨xs,kk,o,es,ep,h1,h2,h3,h4,h5,h6⟩:=L.of X.prog X.w;obtain⟨kt,fk⟩:=h6 H c;refine⟨xs,kk,kt,⟨o,es,ep,I.dI a o h1,h2,h3,h4,?_,h5⟩,fk⟩;have all:∀{l:List (List Key×V)} {m:List (List Key×dm×gV)},KT H l m->∀ x∈m,(AX (gf X.prog X.w)).is s.heap x.1 x.2.1:=by
  intro l m q
  induction q with
  | nil=>intro x hx;exact nomatch hx
  | @cons p q ps qs hq t ih =>
   intro x hx;rcases yH.mp hx with e|hx
   ·subst e
    exact lX I.au (by rw[<- hq.1];exact hq.2.1)
   ·exact ih x hx
 exact fun x hx=>all kt x hx
theorem zh4(tx:Tp K H k v)(e:ku (.dict ag) k=.ok o):∃ ks b,v=.ref b/\dB H b (ks.map kV)/\look ag (.inl ks)=o:=by
 obtain⟨⟨zyN,q⟩,e2,e⟩:=bj (show(dictAt (.dict ag) k).bind _=.ok o from e);cases e;obtain⟨z,ek,c⟩:=za6 e2;cases z;obtain⟨ks,b,rfl,rfl,rfl,tb⟩:=zfw tx ek;exact⟨ks,b,rfl,tb,rfl⟩
theorem zs8(hu:X.A.units+1<zb)(L:nA X.K a ag):aQ X (yG .NotIn) (rC X.K a fun k=>wL k (.dict ag)):=by
 intro pins s σ H x y v u Q I rx ry h;obtain⟨rfl,cs,dx,d,tx,e,q⟩:=h;obtain⟨o,e1,e⟩:=bj (show(ku (.dict ag) dx).bind _=.ok d from e);cases e;obtain⟨ks,b,rfl,tb,rfl⟩:=zh4 tx e1;obtain⟨xs,kk,kt,dd,fk⟩:=zh6 L I cs;cases (show u=yS a from ry);cases (show v=yS b from rx);refine wpAny_notIn_heap (Dg hu) (lX I.au tb) L.ns dd ?_;have q2:=(kt.val ks).zcT;rw[Fb]at q2;have hb:(look ag (.inl ks)).isSome=(A6 xs ks).isSome:=by
  rw[<- q2];rcases wA fk ks with⟨z1,z2⟩|⟨_,_,z1,z2,_⟩ <;> rw[z1,z2] <;> rfl
 exact⟨.bl _,H,I.tok _,rfl,q _ H (ay.refl _) (by rw[hb];exact iy _)⟩
theorem zyq(hu:X.A.units+1<zb)(L:nA X.K a ag):jM X fun x y H Q=>rC X.K a (fun k=>jW (.dict ag) k) y x H Q:=by
 intro value slice pins s σ H x y v u Q I rx ry h hs;obtain⟨rfl,cs,dx,d,tx,e,q⟩:=h;obtain⟨o,e1,e⟩:=bj (show(ku (.dict ag) dx).bind _=.ok d from e);have eo:=wV e;subst eo;obtain⟨ks,b,rfl,tb,el⟩:=zh4 tx e1;obtain⟨xs,kk,kt,dd,fk⟩:=zh6 L I cs;cases (show v=yS a from rx);cases (show u=yS b from ry);rcases wA fk ks with⟨z,_⟩|⟨d',w,z1,z2,fz⟩
 ·rw[z]at el;cases el
 rw[z1]at el;cases el;have hT:s.TypeIs (.ref a) "dict":=dd.typeIs;have h2:yj (ym X.prog X.w) X.A (Bi (.ref a) (.ref b)) (EP X pins σ Q) X.xe s:=by
  obtain⟨w',hw,iO⟩:=gE.some_of (v:=w) (o:=(A6 xs ks).map (·.2)) (by rw[<- z2];exact kt.val ks);obtain⟨p,hp,tD⟩:=AA.mp hw;refine wpAny_getItem_heap (Dg hu) (lX I.au tb) dd hp ?_;rw[tD];exact⟨w,H,I.tok _,iO,q w H (ay.refl _) fz⟩
 unfold DJ;refine yg ?_;rw[getitemInPython_of_ne hT.not_modules];refine yg (DV hT Gq.lookup ?_);have fin:yj (ym X.prog X.w) X.A (DK slice false (.ref a) (.ref b)) (fun r s₃=>yj (ym X.prog X.w) X.A (letTemporaryGo value (.ref a) r >>= fun _=>pure r) (EP X pins σ Q) X.xe s₃) X.xe s:=by
  rw[hs];exact wpAny_operating (zo h2 (fun r s₃ h₃=>yg (wpAny_letTemporaryGo (yt h₃))) fun _ _ x=>x)
 first
  | exact yt (yg fin)
  | exact yg (yt (yg fin))
  | exact yg fin
theorem gA{a:dm}(h:∃ o,Cs.C a=some (.frz o (.tup vs)))(c:fi H):dB H a vs:=.inr ⟨_,c _ _ h.choose_spec⟩
theorem iw:ah K H [] []:=rfl
theorem cF{ds:List D}(h:Fz K H d v)(r:ah K H ds vs):ah K H (d::ds) (v::vs):=⟨v,vs,rfl,h,r⟩
theorem zoY:aX K H [] []:=rfl
theorem zbR{ds:List (D×D)}{vs:List (List Key×V)}(h:Fz K H d v)(r:aX K H ds vs):aX K H ((j7 q,d)::ds) ((q,v)::vs):=⟨q,v,vs,rfl,rfl,h,r⟩
section
theorem ziw(q:tV K (e1 g f) σ H Q):tV K f σ H fun x H1=>rC K a g x (.ref a) H1 Q:=by
 obtain⟨ρ,rel,q⟩:=q;refine dS rel q fun dx ρ1 x H1 aj aB fx q1=>?_;obtain⟨d,ed,q3⟩:=q1.cE;exact⟨rfl,aj.cst,dx,d,fx.tp,ed,fun v H' s fz=>q3.new aj s v fz⟩
theorem zkt(hm:X.mg x=some (.ref a))(L:nA K a ag)(hr:aM j X.A)(he:PV K X e f)(hg:Gl X x:=by rfl)(hd:(x==("__debug__":ir))=false:=by decide):dY K X (.Compare e [.NotIn] [.Name x p] pos) (tB (e1 (fun k=>wL k (.dict ag)) f)):=.mk fun hK=>by
 subst hK;exact(xg (zs8 (mI hr) L) (he rfl) (cP hg hm (v:=.ref a) rfl hd) rfl).weak fun σ H Q q=>sV (fun σ H Q z=>ziw z) σ H Q q
theorem zvd(hm:X.mg x=some (.ref a))(L:nA K a ag)(hr:aM j X.A)(he:PV K X e f)(hg:Gl X x:=by rfl)(hd:(x==("__debug__":ir))=false:=by decide)(hs:rQ e:=by exact fun _ _=>rfl):PV K X (.Subscript (.Name x p) e pos) (e1 (fun k=>jW (.dict ag) k) f):=.mk fun hK=>by
 subst hK;exact(zes (zyq (mI hr) L) (cP hg hm (v:=.ref a) rfl hd) (he rfl) hs).weak fun σ H Q q=>ziw q
end
end
variable {F G:List D->R D}{fa:AF}{c:String}{pos':yn}{s t:SF}{k n:Nat}{ps:List ir}{tc:TF}{es:List yh}{E:XK}
section
variable [Cs]{K:yf}
theorem zuS{st:List yx}(h:dE K X st s):jQ K X c st (jf s):=.mk fun hK C=>(h hK C).weak fun Dn σ H=>by
 rintro⟨ρ,rel,g⟩;refine⟨ρ,rel,?_⟩;obtain⟨x,ex,g1⟩:=g.bt;rw[ex];obtain⟨fl,ρ1⟩:=x;cases fl with
 | nx=>exact g1
 | _=>exact g1.elim
theorem zuQ{a b:List yx}(hc:dY K X e tc)(ha:jQ K X c a s)(hb:jQ K X c b t):rO K X c (.If e a b pos) (aP tc s t):=.mk fun hK C=>(wZ (hc hK) (ha.run hK C) (hb.run hK C)).weak fun Dn σ H=>by
 rintro⟨ρ,rel,g⟩;obtain⟨x,ex,g1⟩:=g.bt;refine⟨ρ,rel.rel,?_⟩;rw[ex];intro H' r sx;have g2:=g1.step (sx.cD rel.rel);obtain⟨cb,ρ1⟩:=x;cases cb with
 | true=>exact jt ⟨ρ1,rel.step r sx,g2⟩
 | false=>exact js ⟨ρ1,rel.step r sx,g2⟩
def sXm(G:List D->R D)(fa:AF):SF:=fun ρ=>match fa ρ with
 | .ok y=>match G y.1 with
  | .err c fs=>.err c fs
  | _=>.bad
 | _=>.bad
theorem zuH(m:rJ X.prog X.w X.K X.mg X.base x c k ps n F G)(hr:aM j X.A)(hx:Passes (aZ X.prog X.w) X E)(ha:cY K X.cO (e::es) fa)(hl:iS fa n:=by repeat (first|exact nK|refine nJ ?_))(hg:Gl X x:=by rfl)(hj:k+1<=j:=by decide)(bp:(x==("__debug__":ir))=false:=by decide)
  (he:yi (e::es) X.env=(false,yu e X.env)::yi es X.env:=by exact FL.se rfl) (aS:(yJ pos (yi es X.env)).any (·.1)=false:=by exact FL.sp rfl):rM K X E (.Return (some (.Call (.Name x p) (e::es) [] pos)) pos') (sXm G fa):=.mk fun hK C=>by
 subst hK;obtain⟨Ca,f,fd,hm,M,hb,Fk⟩:=m;refine(qD (zjX M Fk (hr.mono hj) hg hm hb .nil hx ((zkn ha) rfl) bp he aS)).weak fun Dn σ H=>?_;rintro⟨ρ,rel,g⟩;refine⟨ρ,rel.rel,?_⟩;unfold sXm at g;cases ey:fa ρ with
 | ok y =>
  rw[ey]at g;intro H1 aj aB vs fs a dx na ndx ne;replace g:ji X.K C E H (match G y.1 with
   | .err c fs=>.err c fs
   | _=>.bad) Dn:=g
  have s1:ay H1 (upd (upd H1 dx (.own a)) a (.ins Ca dx [])):=(ay.upd ndx).trans (ay.upd (by rw[aN (zq ne)];exact na));cases eG:G y.1 with
  | err c' fM =>
   rw[eG]at g;rw[Am];exact .inr ⟨a,dx,vs,y.1,c',fM,rfl,by rw[fs.len,hl ρ y ey],ck,aj.cst.mono (ax.of s1),fs.mono (ax.of s1),eG,fun H' s2=>g H' (zi0 rel aB fun b o q _=>s2 b o (s1 b o q))⟩
  | _=>rw[eG]at g;exact g.elim
 | _=>rw[ey]at g;exact g.elim
end
variable {g:EF}
section
variable [Cs]{K:yf}
def zfZ(K:yf)(c:String)(E:XK)(ρ:En)(σ:L2.St)(H:Hp)(r:R (D×En))(Q:VK):Prop:=match r with
 | .ok x=>∀ H',Rel K x.2 σ H'->cM ρ x.2 σ H H'->∀ a fs,x.1=.tuple fs->jN K H' a c fs->Q (.ref a) H'
 | .err c fs=>∀ H',(∀ a o,H a=some o->¬ MA ρ σ a->H' a=some o)->Wn K E c fs H'
 | .bad=>False
structure PXB(K:yf)(X:Cx)(c:String)(e:yh)(f:EF):Prop where
 run:X.K=K->pH X e fun σ H Q E=>∃ ρ,Rel K ρ σ H/\zfZ K c E ρ σ H (f ρ) Q
def za9(F G:List D->R D)(fa:AF):EF:=fun ρ=>match fa ρ with
 | .ok y=>match F y.1 with
  | .ok (.tuple fs)=>.ok (.tuple fs,y.2)
  | .ok _=>.bad
  | _=>match G y.1 with
   | .err c fs=>.err c fs
   | _=>.bad
 | _=>.bad
theorem zvN{k':Nat}{ks ks':List (Option String)}(c1:Callee X.prog X.w X.K X.mg X.base x k ps (spT X.K ks' c F))(c2:Callee X.prog X.w X.K X.mg X.base x k' ps (xM X.K ks false G))(hr:aM j X.A)(ha:cY K X.cO (e::es) fa)(hal:iS fa n:=by repeat (first|exact nK|refine nJ ?_))(hks:ks=yq n none:=by rfl)(zpC:ks'=yq n none:=by rfl)(hx:X.ex=[]:=by rfl)(hg:Gl X x:=by rfl)(hj:k<=j:=by decide)(iC:k'<=j:=by decide)(bp:(x==("__debug__":ir))=false:=by decide)
  (he:yi (e::es) X.env=(false,yu e X.env)::yi es X.env:=by exact FL.se rfl) (aS:(yJ pos (yi es X.env)).any (·.1)=false:=by exact FL.sp rfl):PXB K X c (.Call (.Name x p) (e::es) [] pos) (za9 F G fa):=.mk fun hK=>by
 subst hK;refine(zt8 c1 c2 hr hx hg (ha rfl) hj iC bp he aS).weak fun σ H Q E=>?_;rintro⟨ρ,rel,g⟩;unfold za9 at g;cases ey:fa ρ with
 | ok y =>
  refine⟨ρ,rel,?_⟩;rw[ey]at g ⊢;intro H1 aj aB vs fs;have hl:y.1.length=n:=hal ρ y ey;dsimp only at g;have bad:(∀ d,F y.1≠.ok d)->zfZ X.K c E ρ σ H (match G y.1 with | .err c fs=>.err c fs|_=>.bad) Q->xM X.K ks false G vs H1 Q E:=fun _ g=>by
   cases eG:G y.1 with
   | err c' fM =>
    rw[eG]at g;exact⟨y.1,aj.cst,by rw[hks,<- hl];exact zbS fs,.inr ⟨c',fM,eG,fun H' s=>g H' fun a o q n=>s a o (aB.kp a o q n)⟩⟩
   | _=>rw[eG]at g;exact g.elim
  cases eF:F y.1 with
  | ok d =>
   rw[eF]at g;cases d with
   | tuple gs=>exact .inl ⟨y.1,aj.cst,by rw[zpC,<- hl];exact zbS fs,gs,eF,fun a H' s ob=>g H' (aj.same s) (aB.trans (.of s)) a gs rfl ob⟩
   | _=>exact g.elim
  | _=>rw[eF]at g;exact .inr (bad (fun d z=>by rw[eF]at z;cases z) g)
 | _=>rw[ey]at g;exact g.elim
theorem zuU(i:Nat)(hN:X.N.Nodup)(he:PXB K X c e g)(hi:X.N[i]?=some x:=by rfl)(hx:Loc X.env.scope x:=by first|exact AO rfl|exact Az rfl)(hs:zB e (some (.Name x pos')) pos.line X.env=pure false:=by rfl)(hf:X.fn x=true\/X.env.scope.names.lookup x=some .local:=by first|exact .inl rfl|exact .inr rfl|assumption) :
  zf2 K X [.Assign [.Name x pos'] e pos] (sOb i c g):=.mk fun hK C=>(zuT hN hi hx (he.run hK) hs hf).weak fun D E σ H=>by
 rintro⟨ρ,rel,q⟩;refine⟨ρ,rel.rel,?_⟩;unfold sOb at q;cases ef:g ρ with
 | ok y =>
  rw[ef]at q;intro H' r st a fs efs ob;obtain⟨d,ρ1⟩:=y;cases efs;have aj:=rel.step r st;replace q:zfY K C (E σ) ρ σ H (match ρ1[i]? with|some (.ow true _)=>.bad|some _=>.ok (.nx,ρ1.set i (.ob c fs))|none=>.bad) D:=q;have fin:(∀ d,ρ1[i]?≠some (.ow true d))->i<ρ1.length->bc K C (ρ1.set i (.ob c fs)) (σ.set i (some (.ref a))) H':=fun np hl=>aj.xh np hl (show dF K H' (.ob c fs) (some (.ref a)) from .inl ob) fun _ _ z=>nomatch z;cases e1:ρ1[i]? with
  | none=>rw[e1]at q;exact q.elim
  | some y =>
   have hl:i<ρ1.length:=(yQ.mp e1).1;rw[e1]at q;have go:(∀ d,y≠.ow true d)->cS K C H (.ok (.nx,ρ1.set i (.ob c fs))) D->D.nx (σ.set i (some (.ref a))) H':=fun np q=>q _ H' (fin (fun d z=>by rw[e1]at z;exact np d (zt z)) hl) (st.cD rel.rel);cases y with
   | no=>exact go (fun _ z=>nomatch z) q
   | val c=>exact go (fun _ z=>nomatch z) q
   | ob c ds=>exact go (fun _ z=>nomatch z) q
   | ow p c =>
    cases p with
    | true=>exact q.elim
    | false=>exact go (fun _ z=>nomatch z) q
 | err c' fs=>rw[ef]at q;exact q
 | bad=>rw[ef]at q;exact q.elim
end
noncomputable def gi:Sl->Bool
 | .val _=>true
 | .ob _ _=>true
 | _=>false
def xE(n m i j:Nat)(b:SF)(ds:List D):R (Sl×Sl):=if ds.length=n then(b (ds.map Sl.val++yq (m-n) .no)).bind fun x=>match x.1,x.2[i]?,x.2[j]? with
 | .nx,some s,some t=>if gi s=true/\gi t=true then .ok (s,t) else .bad
 | _,_,_=>.bad else .bad
variable {i:Nat}{y:ir}{px py:yn}{r:R (Fl×En)}{C:SC}
section
variable [Cs]{K:yf}
def lG(K:yf)(C:SC)(i j:Nat)(H:Hp)(r:R (Fl×En))(Dn:Ends):Prop:=match r with
 | .ok x=>match x.1,x.2[i]?,x.2[j]? with
  | .nx,some s,some t=>gi s=true/\gi t=true/\∀ a v u σ' H',bc K C x.2 σ' H'->dF K H' s (some v)->dF K H' t (some u)->ax H H'->H' a=none->Dn.rt (.ref a) (upd H' a (.lst [v,u]))
  | _,_,_=>False
 | _=>False
noncomputable def tSQ(K:yf)(C:SC)(i j:Nat)(f:SF):TS:=fun Dn σ H=>∃ ρ,bc K C ρ σ H/\lG K C i j H (f ρ) Dn
structure nI(K:yf)(X:Cx)(i j:Nat)(st:List yx)(f:SF):Prop where
 run:X.K=K->∀ C,b9 X st (tSQ K C i j f)
variable {st:yx}{rest:List yx}
theorem lG.step{H1:Hp}{Dn:Ends}(f:ax H H1)(g:lG K C i j H r Dn):lG K C i j H1 r Dn:=by
 cases r with
 | ok x =>
  obtain⟨fl,ρ⟩:=x;cases fl with
  | nx =>
   unfold lG at g ⊢;dsimp only at g ⊢;cases e1:ρ[i]? with
   | none=>simp only[e1]at g
   | some s =>
    cases e2:ρ[j]? with
    | none=>simp only[e1,e2]at g
    | some t =>
     simp only[e1,e2]at g ⊢;exact⟨g.1,g.2.1,fun a v u σ' H' r o p z=>g.2.2 a v u σ' H' r o p (f.trans z)⟩
  | _=>exact g
 | _=>exact g
theorem zeD(h1:cH K X st s)(h2:nI K X i j rest t):nI K X i j (st::rest) (ak (jf s) t):=.mk fun hK C=>(qE (h1 hK C) (h2.run hK C)).weak fun Dn σ H=>by
 rintro⟨ρ,rel,g⟩;refine⟨ρ,rel,?_⟩;cases es:s ρ with
 | ok x =>
  obtain⟨fl,ρ1⟩:=x;unfold ak jf at g;rw[es]at g;cases fl with
  | nx=>exact fun σ' H' r z=>⟨ρ1,r,lG.step z g⟩
  | _=>exact g.elim
 | _ =>
  unfold ak jf at g;rw[es]at g;exact g.elim
theorem zuP(hx:PE X (.Name x px) (dD i))(hy:PE X (.Name y py) (dD j)):nI K X i j [.Return (some (.List [.Name x px,.Name y py] pos')) pos] aT:=.mk fun hK C=>(qF (qD (zet (gh hx (gh hy jy (by exact FL.se rfl)) (by exact FL.se rfl))))).weak fun Dn σ H=>by
 rintro⟨ρ,rel,g⟩;unfold lG aT at g;dsimp only at g;cases e1:ρ[i]? with
 | none=>simp only[e1]at g
 | some s =>
  cases e2:ρ[j]? with
  | none=>simp only[e1,e2]at g
  | some t =>
   simp only[e1,e2]at g;obtain⟨p1,p2,g⟩:=g;have at_:∀{k:Nat} {s:Sl},ρ[k]?=some s->gi s=true->∃ v,σ[k]?=some (some v)/\dF K H s (some v):=fun{k s} e p=>by
    have hl:k<σ.length:=by rw[<- rel.rel.len];exact(yQ.mp e).1
    have o:=rel.rel.ok k _ _ e (yO hl);cases es:σ[k] with
    | none=>rw[es]at o;cases s <;> first|exact o.elim|cases p
    | some v=>rw[es]at o;exact⟨v,by rw[yO hl,es],o⟩
   obtain⟨v,h1,o1⟩:=at_ e1 p1;obtain⟨u,h2,o2⟩:=at_ e2 p2;exact⟨v,h1,u,h2,by rw[zC];show 2<=_;omega,fun a na=>g a v u σ H rel o1 o2 (ax.refl _) na⟩
theorem zuO{st:List yx}{s:SF}(h:nI K X.cO i j st s):nI K X i j st s:=.mk fun hK C=>b9.cO (h.run hK C)
end
variable {w:yv}{base:yo}{b:SF}{P:yw}{mg:ir->Option gV}{f:dm}
section
variable [Cs]{K:yf}
def spQ(K:yf)(n:Nat)(G:List D->R (Sl×Sl)):Sp:=fun vs H Q _=>∃ ds,fi H/\ah K H ds vs/\vs.length=n/\∃ s t,G ds=.ok (s,t)/\∀ a v u H' H2,ay H H'->dF K H' s (some v)->dF K H' t (some u)->H' a=none->H2=upd H' a (.lst [v,u])->Q (.ref a) H2
theorem zoS{q:ir}{st:yx}{fd:yL}{N:List ir}(h:c9 K x q st f fd)(S:d9 N ps (aH st))(cZ:ps.length<=N.length)
  (hb:∀(aq:gV) (A:yy) (outer:List yC) (s:kb) (H:Hp) (E:XK),aM k (A.deeper (zc q (aH st) s.heap.objs.size f aq))->nI K (dw (aZ P w) P w K mg base N q (aH st) f aq A outer s H E) i j (bW st) b) :
  b6 P w K mg base (aZ P w) (k+1) f fd ps (spQ K ps.length (xE ps.length N.length i j b)):=by
 refine h.mz S (fun vs H Q E ⟨ds,_,_,e,_⟩=>e) fun aq A outer s H vs Q E hr hq=>?_;obtain⟨ds,cst,fa,hv,s1,t1,hF,q⟩:=hq;have hd:ds.length=ps.length:=by rw[<- fa.len,hv]
 have cu:L2.start N vs=vs.map some++yq (N.length-ps.length) none:=by unfold L2.start;rw[hv]
 have no:∀(i:Nat) p d,(ds.map Sl.val++yq (N.length-ps.length) .no)[i]?≠some (.ow p d):=fun i p d e=>by
  rcases BL.mp (Ag e)with m|m
  ·obtain⟨_,_,z⟩:=As.mp m;cases z
  ·have:=Fu m;cases this
 refine⟨tSQ K ⟨H,L2.start N vs,ds.map Sl.val++yq (N.length-ps.length) .no⟩ i j b,(hb aq A outer s H E hr).run rfl _,ds.map Sl.val++yq (N.length-ps.length) .no,?_,?_⟩
 ·refine⟨?_,fun a o e _=>e,fun i a d e _=>absurd e (no i false d),fun i=>AR,fun i d e=>rfl,fun i p d e=>absurd e (no i p d)⟩
  rw[cu];exact(xA cst fa).pad _
 ·unfold xE at hF
  rw[if_pos hd]at hF;obtain⟨z,ez,ey⟩:=bj hF;rw[ez];obtain⟨fl,ρ'⟩:=z;have kp:∀(ρ':En) (σ':L2.St) (H':Hp),bc K ⟨H,L2.start N vs,ds.map Sl.val++yq (N.length-ps.length) .no⟩ ρ' σ' H'->ay H H':=fun ρ' σ' H' r b o e=>r.keep b o e fun⟨i,⟨p,d,z⟩,_⟩=>no i p d z;unfold lG;cases fl with
  | nx =>
   dsimp only at ey ⊢;cases e1:ρ'[i]? with
   | none=>simp only[e1]at ey;cases ey
   | some s =>
    cases e2:ρ'[j]? with
    | none=>simp only[e1,e2]at ey;cases ey
    | some t =>
     simp only[e1,e2]at ey ⊢
     split at ey
     ·rename_i c
      cases ey;exact⟨c.1,c.2,fun a v u σ' H' r o p _ na=>q a v u H' _ (kp _ _ _ r) o p na rfl⟩
     ·cases ey
  | _=>cases ey
abbrev CTQ[Cs](x:ir)(k:Nat)(ps:List ir)(G:List D->R (Sl×Sl))(P:yw)(w:yv)(K:yf)(mg:ir->Option gV)(base:yo):Prop:=Callee P w K mg base x k ps (spQ K ps.length G)
theorem fnQ{st:yx}(N:List ir)(h:aE K mg x st)
  (hb:∀{f:dm} {aq:gV} {A:yy} {outer:List yC} {s:kb} {H:Hp} {E:XK},aM k (A.deeper (zc x (aH st) s.heap.objs.size f aq))->N.Nodup->nI K (dw (aZ P w) P w K mg base N x (aH st) f aq A outer s H E).cO i j (bW st) b)
  (S:d9 N ps (aH st):=by exact⟨rfl,rfl,rfl,by decide +kernel,rfl,by decide +kernel,by decide +kernel⟩)(cZ:ps.length<=N.length:=by decide)
  (eR:∀(kV doc pm:gV) (an:Option dm) (aq ct:gV) (us:List gV),us.length=ps.length->Ax (zD x x (eY st) (bW st) (aH st) .none kV doc pm an aq ct) ⟨us,[]⟩=pure (ps.zip us):=by
   first
    | exact fun _ _ _ _ _ _=>kC fun _=>rfl
    | exact fun _ _ _ _ _ _=>kE fun _ _=>rfl
    | exact fun _ _ _ _ _ _=>kF fun _ _ _=>rfl):CTQ x (k+1) ps (xE ps.length N.length i j b) P w K mg base:=by
 obtain⟨f,fd,hm,F⟩:=h;exact⟨f,fd,hm,F.kp,F.binds eR,zoS F S cZ fun aq A outer s H E hr=>zuO (hb hr S.nd)⟩
end
variable {s:Sl}{j2 m:Nat}
section
variable [Cs]{K:yf}
noncomputable def kg(ρ:En)(i:Nat)(s:Sl):R En:=match ρ[i]? with
 | some (.ow true _)=>.bad
 | some _=>.ok (ρ.set i s)
 | none=>.bad
def qN(i j:Nat)(G:List D->R (Sl×Sl))(fa:AF):SF:=fun ρ=>(fa ρ).bind fun y=>(G y.1).bind fun st=>if gi st.1=true/\gi st.2=true then(kg y.2 i st.1).bind fun ρ1=>(kg ρ1 j st.2).bind fun ρ2=>.ok (.nx,ρ2) else .bad
theorem zkj{ρ ρ1:En}(e:kg ρ i s=.ok ρ1)(p:gi s=true)(r:bc K C ρ σ H)(o:dF K H s (some v)):bc K C ρ1 (σ.set i (some v)) H:=by
 unfold kg at e;cases e1:ρ[i]? with
 | none=>rw[e1]at e;cases e
 | some y =>
  have hl:i<ρ.length:=(yQ.mp e1).1;rw[e1]at e;have go:(∀ d,y≠.ow true d)->ρ1=ρ.set i s->bc K C ρ1 (σ.set i (some v)) H:=fun np z=>by
   subst z;exact r.xh (fun d z=>by rw[e1]at z;exact np d (zt z)) hl o fun _ _ z=>by rw[z]at p;cases p
  cases y with
  | no=>cases e;exact go (fun _ z=>nomatch z) rfl
  | val c=>cases e;exact go (fun _ z=>nomatch z) rfl
  | ob c ds=>cases e;exact go (fun _ z=>nomatch z) rfl
  | ow p c =>
   cases p with
   | true=>cases e
   | false=>cases e;exact go (fun _ z=>nomatch z) rfl
theorem zkQ{H':Hp}(p:gi s=true)(f:ax H H')(o:dF K H s (some v)):dF K H' s (some v):=dF.mono (x:=s) f (fun a _ ⟨p',d',z⟩=>by rw[z]at p;cases p) o
theorem zvC{l:Nat}{f:ir}{wY:yn}{G:List D->R (Sl×Sl)}(i j:Nat)(hN:X.N.Nodup)(c:Callee X.prog X.w X.K X.mg X.base f k ps (spQ X.K n G))(hr:aM l X.A)(ha:cY K X (e::es) fa)(hal:iS fa n:=by repeat (first|exact nK|refine nJ ?_))
  (hi:X.N[i]?=some x:=by rfl)(hj:X.N[j]?=some y:=by rfl)(hx:Loc X.env.scope x:=by first|exact AO rfl|exact Az rfl)(hy:Loc X.env.scope y:=by first|exact AO rfl|exact Az rfl)(hfx:X.fn x=true\/X.env.scope.names.lookup x=some .local:=by first|exact .inl rfl|exact .inr rfl|assumption)(hfy:X.fn y=true\/X.env.scope.names.lookup y=some .local:=by first|exact .inl rfl|exact .inr rfl|assumption)
  (hg:Gl X f:=by rfl)(hk:k<=l:=by decide)(bp:(f==("__debug__":ir))=false:=by decide) (hc:X.calm=true:=by rfl)
  (he:yi (e::es) X.env=(false,yu e X.env)::yi es X.env:=by exact FL.se rfl) (aS:(yJ wY (yi es X.env)).any (·.1)=false:=by exact FL.sp rfl)
  (hs:BO [.Tuple [.Name x px,.Name y py] m pos'] (.Call (.Name f p) (e::es) [] wY) pos.line X.env=pure false:=by rfl) (hw:BP [.Tuple [.Name x px,.Name y py] m pos'] (.Call (.Name f p) (e::es) [] wY) X.env=pure none:=by rfl) :
  cH K X (.Assign [.Tuple [.Name x px,.Name y py] m pos'] (.Call (.Name f p) (e::es) [] wY) pos) (qN i j G fa):=.mk fun hK C=>by
 subst hK;refine(zeB (qA c hr hg kX (ha rfl) hk bp he aS) (zub (n:=2) hc (zew (zeu hN hi hx hfx) (zew (zeu hN hj hy hfy) zj4))) hs hw).weak fun Dn σ H=>?_;rintro⟨ρ,rel,q⟩;obtain⟨z,ez,q0⟩:=q.bt;refine⟨ρ,rel.rel,?_⟩;rw[ez];intro H1 r1 aB vs fs;have aj:=rel.step r1 aB;obtain⟨⟨s,t⟩,eg,q1⟩:=(q0.step (aB.cD rel.rel)).bt;rw[Am];refine⟨z.1,r1.cst,fs,by rw[fs.len,hal ρ z ez],s,t,eg,fun a v u H' H2 sm o1 o2 na e2=>?_⟩
 by_cases pc:gi s=true/\gi t=true
 ·replace q1:cS X.K C H1 (if gi s=true/\gi t=true then(kg z.2 i s).bind fun ρ1=>(kg ρ1 j t).bind fun ρ2=>.ok (.nx,ρ2) else .bad) Dn:=q1
  rw[if_pos pc]at q1;obtain⟨ρ1,e1,q2⟩:=q1.bt;obtain⟨ρ2,e3,q3⟩:=q2.bt;have s2:ay H' H2:=by rw[e2];exact ay.upd na
  have s3:=sm.trans s2;have bY:=aj.step (aj.rel.same s3) (.of s3);have iL:=zkj e3 pc.2 (zkj e1 pc.1 bY (zkQ pc.1 (ax.of s2) o1)) (zkQ pc.2 (ax.of s2) o2);refine⟨a,[v,u],rfl,.inl (.inl (by rw[e2];exact ck)),rfl,v,[u],rfl,u,[],rfl,rfl,?_⟩;exact q3 _ H2 iL (ax.of s3)
 ·replace q1:cS X.K C H1 (if gi s=true/\gi t=true then(kg z.2 i s).bind fun ρ1=>(kg ρ1 j t).bind fun ρ2=>.ok (.nx,ρ2) else .bad) Dn:=q1
  rw[if_neg pc]at q1;exact q1.elim
noncomputable def sG(i:Nat):EF:=fun ρ=>match ρ[i]? with
 | some (.val .none)=>.ok (.bool false,ρ)
 | some (.ob _ _)=>.ok (.bool true,ρ)
 | _=>.bad
theorem zpl(g:tV K (sG i) σ H Q):∃ v,σ[i]?=some (some v)/\V.non=V.non/\Q (.bl (!decide (v=.non))) H:=by
 obtain⟨ρ,rel,g⟩:=g;unfold sG at g;cases e:ρ[i]? with
 | none=>rw[e]at g;exact g.elim
 | some y =>
  rw[e]at g;cases y with
  | ob c ds =>
   obtain⟨a,h1,_⟩:=zd4 rel e;exact⟨.ref a,h1,rfl,g.now rel _ (iy _)⟩
  | val d =>
   have hl:i<σ.length:=by rw[<- rel.len];exact(yQ.mp e).1
   have o:=rel.ok i _ _ e (yO hl);cases es:σ[i] with
   | none=>rw[es]at o;exact o.elim
   | some v =>
    rw[es]at o;cases d with
    | none =>
     have hv:v=.non:=by simpa[dF,Fz] using o
     exact⟨v,by rw[yO hl,es],rfl,by rw[hv];exact g.now rel _ (iy _)⟩
    | _=>exact g.elim
  | _=>exact g.elim
theorem zvG{p2:yn}(i:Nat)(hv:PE X (.Name x px) (dD i):=by exact pv _):dY K X (.Compare (.Name x px) [.IsNot] [.Constant .none j2 p2] pos) (FL.tB (sG i)):=.mk fun hK=>by
 subst hK;exact(xg zjO hv zjY (wO _)).weak fun σ H Q q=>sV (fun σ H Q z=>zpl z) σ H Q q
theorem zvf{pl:zk Bool}{m:ir}{apos:yn}(i:Nat)(M:zan X.prog X.w X.K X.mg X.base c m k ps [] G)(hr:aM j X.A)(hv:PE X (.Name x px) (dD i):=by exact pv _)(hj:k<=j:=by decide)
  (ht:yu (.Call (.Attribute (.Name x px) m apos) [] [] pos) X.env=(do
   let ov <- yu (.Name x px) X.env
   AG apos.atName
   let(f,first) <- Ak [ov] (Cq ov m pl)
   callWith pos f first (yJ pos (yi [] X.env)) (Cu pos (Cv [] X.env))):=by rfl) :
  PV K X (.Call (.Attribute (.Name x px) m apos) [] [] pos) (av G (iY i c af)):=.mk fun hK=>by
 subst hK;obtain⟨C,f,ns,fd,ho,hm,hc,me,hb,F⟩:=M;refine(ztX hv hc me F (hr.mono hj) hb .nil kX ht).weak fun σ H Q=>?_;rintro⟨ρ,rel,q⟩;obtain⟨a,ds,y,e1,e2,o,ey,q0⟩:=ziy rel q;cases ey;obtain⟨C',cV,dx,pA,h1,h2,h3,h4⟩:=Ft o fun⟨_,_,_,z,_⟩=>by rw[ho]at z;cases z
 rw[ho]at h1;cases h1;refine⟨.ref a,e2,a,dx,ns.zip pA,rfl,h2,zdv hm,?_⟩;obtain⟨d,ed,q2⟩:=q0.cE;exact⟨[.tuple ds],rel.cst,⟨.ref a,[],rfl,o,rfl⟩,d,ed,fun v H' s fin=>q2.new rel s v fin⟩
end
end FL
namespace K13
open PySem FL
noncomputable def rH:List (D×D):=[((.tuple [(.int 2),(.int 2)]),(.tuple [(.int 3),(.tuple [(.tuple [(.int 0),(.int 1),(.int 2)])])])),((.tuple [(.int 2),(.int 3)]),(.tuple [(.int 5),(.tuple [(.tuple [(.int 0),(.int 1),(.int 2)]),(.tuple [(.int 0),(.int 2),(.int 3)]),(.tuple [(.int 1),(.int 2),(.int 4)])])])),((.tuple [(.int 3),(.int 2)]),(.tuple [(.int 6),(.tuple [(.tuple [(.int 0),(.int 1),(.int 3)]),(.tuple [(.int 0),(.int 2),(.int 4)]),(.tuple [(.int 1),(.int 2),(.int 5)])])]))]
def zg6:SF:=(aD (i3 (e1 (gZ "int") (eV 0)) (zbb (e1 (gZ "bool") (eV 0)))))
def jI:List D->R D:=bh false 1 1 zg6
def zlr:SF:=(o6 (mG 3) (tB (e2 eL (eV 3) (eC (.int 0)))) (eU 2 3 (eV 3) (e2 fA (eV 2) (eV 3))))
def zgZ:SF:=(ak (eU 2 3 (e1 jm (eV 0)) (e1 jm (eV 1)))
  (ak zlr
  (aD (eV 2))))
def pF:List D->R D:=bh false 2 4 zgZ
def zkE:EF:=(d6 1 [0] (gI (aa (eV 1) af)) (gN 0) dW (sF (tB (e2 cy (eV 0) (eV 1))) (eC (.tuple [(.int 1),(.int 1)])) (eC (.tuple [(.int 0),(.int 1)]))))
def zhi:SF:=(aD zkE)
def zfV:List D->R D:=bh false 2 2 zhi
def zky:EF:=(d6 1 [] (iE (eV 0)) (gN 0) dW (e2 cy (eV 0) (eC (.tuple [(.int 0),(.int 1)]))))
def zg2:SF:=(aD (e1 pO zky))
def zah:List D->R D:=bh false 1 1 zg2
def zkx:EF:=(d6 2 [] (iE (eV 0)) (gT [(gN 0),(gN 1)]) dW (bg (aa (e1 oN (eV 0)) (aa (eV 1) af))))
def zg0:SF:=(jg zkx)
def zfL:List D->R D:=bh true 1 1 zg0
def zkC:EF:=(sD 2 [0] (gI (aa (eV 0) af)) (gN 1) dW 1 (iR2 (aa (e2 aG (eV 1) (eC (.int 1))) (aa (eV 2) af))) (gN 0) dW (bg (aa (eV 1) (aa (eV 0) af))))
def zhb:SF:=(aD zkC)
def zfR:List D->R D:=bh false 1 1 zhb
def zgU:SF:=(ak (aF (gN 2) (e2 aG (e2 aG (e2 bV (e2 aG (e2 fA (eV 0) (e2 aG (e2 dA (eC (.int 10)) (eC (.int 18))) (eC (.int 9)))) (e2 bV (eC (.int 7)) (eV 1))) (eC (.int 739108512309184756019283746561))) (e2 bV (eC (.int 7919)) (eV 1))) (eC (.int 1))))
  (ak (aF (gN 2) (e2 fA (e2 bV (eV 2) (eV 2)) (e2 aG (e2 dA (eC (.int 10)) (eC (.int 60))) (eC (.int 7)))))
  (aD (e2 fA (e2 bV (e2 aG (eV 2) (eC (.int 40503))) (e2 aG (eV 2) (eC (.int 57)))) (e2 aG (e2 dA (eC (.int 10)) (eC (.int 60))) (eC (.int 7)))))))
def zae:List D->R D:=bh false 2 3 zgU
def zgQ:SF:=(ak (aP (tB (e2 ft (eV 1) (e1 hJ (eV 0)))) (aD (e2 aw (eV 0) (eV 1))) aT)
  (aD (e2 aG (e2 bV (eC (.int 3)) (eV 1)) (eC (.int 1)))))
def uV:List D->R D:=bh false 2 2 zgQ
def zlq:SF:=(o6 (mG 3) (tB (e2 eL (eV 3) (eC (.int 0)))) (eU 2 3 (eV 3) (e2 fA (eV 2) (eV 3))))
def zgT:SF:=(ak (aF (gN 2) (e1 jm (eV 0)))
  (ak (aF (gN 3) (eV 1))
  (ak zlq
  (aD (bg (aa (e2 bK (eV 0) (eV 2)) (aa (e2 bK (eV 1) (eV 2)) af)))))))
def zfJ:List D->R D:=bh false 2 4 zgT
def zkw:EF:=(d6 1 [1] (gI (aa (eV 0) af)) (gN 0) dW (bg (aa (e1 intD (e2 cy (eV 0) (eV 1))) (aa (eC (.int 1)) af))))
def zgY:SF:=(aD zkw)
def zfK:List D->R D:=bh false 2 2 zgY
def zeS:EF:=(d6 1 [] (gI (aa (eV 0) af)) (gN 0) dW (bg (aa (eC (.int 0)) (aa (eC (.int 1)) af))))
def vm:SF:=(aD zeS)
def pD:List D->R D:=bh false 1 1 vm
def zkv:EF:=(d6 1 [] (iE (eV 1)) (gN 0) dW (e1 intD (eV 0)))
def zgR:SF:=(ak (aF (gN 1) (bf (aa (cT 0 [("NoCount",false)]) (aa (cT 0 [("NoCount",true)]) (aa (cT 0 [("NoCount",false)]) af)))))
  (ak (aF (gN 1) (e2 aG (eV 1) (bf (aa (cT 0 [("NoCount",false)]) (aa (cT 0 [("NoCount",false)]) (aa (cT 0 [("NoCount",false)]) af))))))
  (ak (aF (gN 1) (e2 aG (eV 1) (bf (aa (cT 0 [("NoCount",false)]) (aa (cT 0 [("NoCount",false)]) (aa (cT 0 [("NoCount",false)]) af))))))
  (ak (aF (gN 1) (e2 aG (eV 1) (bf (aa (cT 0 [("NoCount",false)]) (aa (cT 0 [("NoCount",false)]) (aa (cT 0 [("NoCount",false)]) af))))))
  (ak (aF (gN 1) (e2 aG (eV 1) (bf (aa (cT 0 [("NoCount",false)]) (aa (cT 0 [("NoCount",false)]) (aa (cT 0 [("NoCount",false)]) af))))))
  (ak (aF (gN 1) (e2 aG (eV 1) (bf (aa (cT 0 [("NoCount",false)]) (aa (cT 0 [("NoCount",false)]) (aa (cT 0 [("NoCount",false)]) af))))))
  (ak (aF (gN 1) (e2 aG (eV 1) (bf (aa (cT 0 [("NoCount",false)]) (aa (cT 0 [("NoCount",false)]) (aa (cT 0 [("NoCount",false)]) af))))))
  (ak (aF (gN 1) (e2 aG (eV 1) (bf (aa (cT 0 [("NoCount",false)]) (aa (cT 0 [("NoCount",false)]) (aa (cT 0 [("NoCount",false)]) af))))))
  (ak (aF (gN 1) (e2 aG (eV 1) (bf (aa (cT 0 [("NoCount",false)]) (aa (cT 0 [("NoCount",false)]) (aa (cT 0 [("NoCount",false)]) af))))))
  (ak (aP (FL.eB (FL.cR (tE (cT 0 [("NoCount",true)]))) (FL.eB (FL.cR (tE (cT 0 [("NoCount",true)]))) (tB (e2 eL (e1 zk1 zkv) (eC (.int 1)))))) (aD (eC (.str ""))) aT)
  (ak (aF (gN 2) (bf (aa (eC (.str "Broken")) (aa (eC (.str "NoCount")) (aa (eC (.str "NoDeed")) (aa (eC (.str "NoLeast")) (aa (eC (.str "NoLine")) (aa (eC (.str "NoMatch")) (aa (eC (.str "NoName")) (aa (eC (.str "NoNumber")) (aa (eC (.str "NoPair")) af)))))))))))
  (ak (aF (gN 2) (e2 aG (eV 2) (bf (aa (eC (.str "NoPlace")) (aa (eC (.str "NoRow")) (aa (eC (.str "NoShelf")) (aa (eC (.str "NoSquare")) (aa (eC (.str "NoSum")) (aa (eC (.str "NoText")) (aa (eC (.str "NoTree")) (aa (eC (.str "NoWord")) (aa (eC (.str "NotActing")) af))))))))))))
  (ak (aF (gN 2) (e2 aG (eV 2) (bf (aa (eC (.str "NotBare")) (aa (eC (.str "NotEaten")) (aa (eC (.str "NotFree")) (aa (eC (.str "NotGap")) (aa (eC (.str "NotKept")) (aa (eC (.str "NotNought")) (aa (eC (.str "NotOne")) (aa (eC (.str "TooDeep")) af)))))))))))
  (aD (e2 aw (e2 aG (eV 2) (bf (aa (eC (.str "TooLong")) af))) (e2 ziV (eV 1) (eC (.bool true))))))))))))))))))
def rj:String->List D->R D:=runK 3 zgR
def zgS:SF:=(ak (aP (FL.qQ (tB (e2 cy (eV 1) (eC (.int 1)))) (tB (nR j8 j8 (eC (.int 1)) (eV 0) (eC (.int 6))))) (aD (bf (aa (eV 0) (aa (bf af) af)))) aT)
  (ak (aP (FL.qQ (tB (e2 cy (eV 0) (eC (.int 2)))) (tB (e2 zcQ (eV 1) (bf (aa (eC (.int 2)) (aa (eC (.int 3)) af)))))) (aD (bf (aa (e2 aw (bf (aa (eC (.int 3)) (aa (eC (.int 5)) af))) (e2 dN (eV 1) (eC (.int 2)))) (aa (kA (bf (jR [(.tuple [(.int 0),(.int 1),(.int 2)]),(.tuple [(.int 0),(.int 2),(.int 3)]),(.tuple [(.int 1),(.int 2),(.int 4)])])) kT (kU (e2 dN (e2 bV (eC (.int 2)) (eV 1)) (eC (.int 3))))) af)))) aT)
  (ak (aP (FL.qQ (tB (e2 cy (eV 0) (eC (.int 3)))) (tB (e2 cy (eV 1) (eC (.int 2))))) (aD (bf (aa (eC (.int 6)) (aa (bf (jR [(.tuple [(.int 0),(.int 1),(.int 3)]),(.tuple [(.int 0),(.int 2),(.int 4)]),(.tuple [(.int 1),(.int 2),(.int 5)])])) af)))) aT)
  (aD (eC .none)))))
def rk:List D->R D:=bh false 2 2 zgS
def zg1:SF:=(ak (aP (FL.eB (FL.cR (tE (e1 (gZ "tuple") (eV 0)))) (tB (e2 eL (e1 hJ (eV 0)) (eC (.int 2))))) (aD (eC (.bool false))) aT)
  (ak (aF (gT [(gN 1),(gN 2)]) (eV 0))
  (ak (aP (FL.eB (FL.cR (tE (av jI (aa (eV 1) af)))) (FL.eB (FL.cR (tE (av jI (aa (eV 2) af)))) (tB (e2 ft (eV 2) (eC (.int 1)))))) (aD (eC (.bool false))) aT)
  (aD (e2 cy (av pF (aa (eV 1) (aa (eV 2) af))) (eC (.int 1)))))))
def zfM:List D->R D:=bh false 1 3 zg1
def zhc:SF:=(ak (aF (gN 2) (av pF (aa (e2 aw (eV 0) (eC (.int 1))) (aa (e2 aw (eV 1) (eC (.int 1))) af))))
  (ak (eU 3 4 (e2 bK (e2 aw (eV 0) (eC (.int 1))) (eV 2)) (e2 bK (e2 aw (eV 1) (eC (.int 1))) (eV 2)))
  (ak (aF (gN 5) (e2 aG (e2 bV (e2 aw (eV 0) (eC (.int 0))) (eV 4)) (e2 bV (e2 aw (eV 1) (eC (.int 0))) (eV 3))))
  (ak (aF (gN 6) (av pF (aa (eV 5) (aa (eV 2) af))))
  (aD (bg (aa (e2 bK (eV 5) (eV 6)) (aa (e2 bV (eV 3) (e2 bK (e2 aw (eV 1) (eC (.int 1))) (eV 6))) af))))))))
def rB:List D->R D:=bh false 2 7 zhc
def zhg:SF:=(ak (eU 2 3 (av pF (aa (e2 aw (eV 0) (eC (.int 0))) (aa (e2 aw (eV 1) (eC (.int 1))) af))) (av pF (aa (e2 aw (eV 1) (eC (.int 0))) (aa (e2 aw (eV 0) (eC (.int 1))) af))))
  (aD (bg (aa (e2 bV (e2 bK (e2 aw (eV 0) (eC (.int 0))) (eV 2)) (e2 bK (e2 aw (eV 1) (eC (.int 0))) (eV 3))) (aa (e2 bV (e2 bK (e2 aw (eV 0) (eC (.int 1))) (eV 3)) (e2 bK (e2 aw (eV 1) (eC (.int 1))) (eV 2))) af)))))
def jJ:List D->R D:=bh false 2 4 zhg
def zg5:SF:=(aD (i3 (av jI (aa (eV 0) af)) (nR j8 ft (eC (.int 0)) (eV 0) (eV 1))))
def zai:List D->R D:=bh false 2 2 zg5
def zkD:EF:=(sD 3 [0] (iE (av zfR (aa (eV 0) af))) (gT [(gN 1),(gN 2)]) dW 1 (iR2 (aa (e2 aG (eV 2) (eC (.int 1))) (aa (eV 3) af))) (gN 0) dW (bg (aa (eV 1) (aa (eV 2) (aa (eV 0) af)))))
def zhh:SF:=(aD zkD)
def zfU:List D->R D:=bh false 1 1 zhh
def zkA:EF:=(vN 2 [0,1] (gI (aa (eZ 0 "Table" 0) af)) (gN 1) dW 1 (gI (aa (eZ 2 "Table" 0) af)) (gN 0) dW (bg (aa (eV 1) (aa (eV 0) af))) (eV 3))
def zlf:SF:=(ak (vK 2 (bg (aa (eV 3) (aa (eV 4) af))) (e1 tU (eV 5)))
  (vK 2 (bg (aa (eV 4) (aa (eV 3) af))) (av zfL (aa (eV 5) af))))
def zls:SF:=(gk (iE (eZ 0 "Table" 1)) (gT [(gN 3),(gN 4),(gN 5)]) zlf)
def zg8:SF:=(ak (aF (gN 1) (pX (eC (.tuple [(.int 0),(.int 1)])) (e2 aG (eZ 0 "Table" 0) (eC (.int 1)))))
  (ak (eN 2 zkA)
  (ak zls
  (uG 2))))
def zfO:List D->R D:=iM [some "Table"] true 6 zg8
def zgW:SF:=(ak (aP (tB (e2 oh (eV 0) (e2 dA (eC (.int 10)) (eC (.int 18))))) (jg (bf (aa (e2 dN (eV 0) (e2 dA (eC (.int 10)) (eC (.int 18)))) (aa (eC (.int 0)) (aa (eV 1) af))))) aT)
  (jg (bf (aa (av zae (aa (eV 0) (aa (eV 1) af))) (aa (eC (.int 0)) (aa (e2 aG (e2 fA (eV 0) (e2 aG (e2 dA (eC (.int 10)) (eC (.int 18))) (eC (.int 9)))) (eV 1)) af))))))
def zag:List D->R D:=bh true 2 2 zgW
def zgX:SF:=(ak (aP (tB (e2 ft (m2 aw 0 (eC (.int 0))) (eV 1))) (ak (setM 0 (e2 aG (m2 aw 0 (eC (.int 1))) (eC (.int 1))) (eC (.int 1)))
  (setM 0 (e2 aG (m2 aw 0 (eC (.int 0))) (e2 bV (eV 1) (av zae (aa (m2 aw 0 (eC (.int 2))) (aa (e2 aG (e2 bV (eC (.int 11)) (m2 aw 0 (eC (.int 1)))) (eC (.int 5))) af))))) (eC (.int 0)))) aT)
  (ak (aF (gN 2) (e2 fA (m2 aw 0 (eC (.int 0))) (eV 1)))
  (ak (setM 0 (e2 bK (m2 aw 0 (eC (.int 0))) (eV 1)) (eC (.int 0)))
  (aD (eV 2)))))
def fH:List D->R (D×List D):=run [true,false] false 3 zgX
def vp:SF:=(aD (av rB (aa (eV 0) (aa (bg (aa (e1 oN (e2 aw (eV 1) (eC (.int 0)))) (aa (e2 aw (eV 1) (eC (.int 1))) af))) af))))
def rA:List D->R D:=bh false 2 2 vp
def zkz:EF:=(d6 1 [] (iE (eV 0)) (gN 0) dW (av zfM (aa (eV 0) af)))
def zg3:SF:=(aD (i3 (e1 (gZ "list") (eV 0)) (e1 pO zkz)))
def zfN:List D->R D:=bh false 1 1 zg3
def xq:EF:=(d6 2 [1] (ziK (aa (eV 0) (aa (eV 2) af))) (gT [(gN 0),(gN 1)]) dW (sF (tB (e2 cy (eV 1) (eC (.tuple [(.int 0),(.int 1)])))) (eV 0) (av rB (aa (eV 0) (aa (av jJ (aa (eV 2) (aa (eV 1) af))) af)))))
def pS:SF:=(ak (aP (tB (e2 cy (eV 1) (eC (.tuple [(.int 0),(.int 1)])))) (jg (e1 tU (eV 0))) aT)
  (jg xq))
def rF:List D->R D:=bh true 3 3 pS
def zha:SF:=(ak (aP (FL.eB (FL.cR (tE (e1 (gZ "tuple") (eV 0)))) (tB (e2 eL (e1 hJ (eV 0)) (eC (.int 3))))) (aD (eC (.bool false))) aT)
  (ak (aF (gT [(gN 2),(gN 3),(gN 4)]) (eV 0))
  (aD (i3 (av zai (aa (eV 2) (aa (eV 1) af))) (i3 (av zai (aa (eV 3) (aa (eV 1) af))) (e2 ft (eV 2) (eV 3)))))))
def zfQ:List D->R D:=bh false 2 5 zha
def zgV:SF:=(ak (aF (gN 1) (bO fH [.m 0,.v (eC (.int 5))]))
  (ak (aP (tB (e2 ft (eV 1) (eC (.int 3)))) (aD (e2 aw (bf (jR [(.tuple [(.int 0),(.int 1)]),(.tuple [(.int 1),(.int 1)]),(.tuple [(.int (-1)),(.int 1)])])) (eV 1))) aT)
  (ak (aP (tB (e2 cy (eV 1) (eC (.int 3)))) (aD (bg (aa (e2 dN (bO fH [.m 0,.v (eC (.int 13))]) (eC (.int 6))) (aa (eC (.int 1)) af)))) aT)
  (aD (av zfJ (aa (e2 dN (bO fH [.m 0,.v (e2 aG (e2 bV (eC (.int 2)) (e2 dA (eC (.int 10)) (eC (.int 3)))) (eC (.int 1)))]) (e2 dA (eC (.int 10)) (eC (.int 3)))) (aa (e2 aG (eC (.int 1)) (bO fH [.m 0,.v (eC (.int 9))])) af)))))))
def zaf:List D->R (D×List D):=run [true] false 2 zgV
def vn:SF:=(ak (aF (gN 1) (e2 dN (bO fH [.m 0,.v (eC (.int 9))]) (eC (.int 1))))
  (ak (aF (gN 2) (e2 dN (bO fH [.m 0,.v (eC (.int 6))]) (eC (.int 1))))
  (ak (aP (tB (e2 cy (bO fH [.m 0,.v (eC (.int 2))]) (eC (.int 0)))) (aF (gT [(gN 1),(gN 2)]) (e2 aw (bf (jR [(.tuple [(.int 2),(.int 2)]),(.tuple [(.int 2),(.int 3)]),(.tuple [(.int 3),(.int 2)]),(.tuple [(.int 6),(.int 1)])])) (bO fH [.m 0,.v (eC (.int 4))]))) aT)
  (ak (aF (gN 3) (bO fH [.m 0,.v (eC (.int 14))]))
  (ak (aP (tB (e2 ft (eV 3) (eC (.int 4)))) (ak (aF (gN 1) (e2 aG (eV 1) (e2 aw (bf (aa (e2 dA (eC (.int 10)) (eC (.int 9))) (aa (eC (.int 0)) (aa (e2 dN (eC (.int 0)) (e2 dA (eC (.int 10)) (eC (.int 9)))) (aa (eC (.int 0)) af))))) (eV 3))))
  (aF (gN 2) (e2 aG (eV 2) (e2 aw (bf (aa (eC (.int 0)) (aa (e2 dA (eC (.int 10)) (eC (.int 9))) (aa (eC (.int 0)) (aa (e2 dN (eC (.int 0)) (e2 dA (eC (.int 10)) (eC (.int 9)))) af))))) (eV 3))))) aT)
  (aD (bg (aa (eV 1) (aa (eV 2) af)))))))))
def pE:List D->R (D×List D):=run [true] false 4 vn
def zg4:SF:=(aD (i3 (av zfN (aa (eV 0) af)) (e2 cy (e1 hJ (eV 0)) (eV 1))))
def uW:List D->R D:=bh false 2 2 zg4
def zlg:SF:=(aF (gN 4) (av rF (aa (eV 4) (aa (eV 9) (aa (e2 jW (eV 0) (bg (aa (eV 5) (aa (eV 8) af)))) af)))))
def zlu:SF:=(gk (tL (aa (kA (e2 jW (eV 0) (bg (aa (eV 6) (aa (eV 7) af)))) kT (kU (e1 oN (eC (.int 1))))) af)) (gT [(gN 8),(gN 9)]) zlg)
def zlh:SF:=zlu
def zlv:SF:=(gk (iE (bg (aa (bg (aa (eV 1) (aa (eV 2) (aa (eV 3) af)))) (aa (bg (aa (eV 2) (aa (eV 3) (aa (eV 1) af)))) (aa (bg (aa (eV 3) (aa (eV 1) (aa (eV 2) af)))) af))))) (gT [(gN 5),(gN 6),(gN 7)]) zlh)
def zhe:SF:=(ak (aF (gN 4) (pX (eC (.tuple [(.int 0),(.int 1)])) (e1 hJ (e2 jW (eV 0) (bg (aa (eV 1) (aa (eV 2) af)))))))
  (ak zlv
  (aD (eV 4))))
def zfS:List D->R D:=bh false 4 10 zhe
def xY:SF:=(aP (FL.cR (tE (av uW (aa (eV 3) (aa (eV 1) af))))) je aT)
def x9:SF:=(gk (tL (aa (eV 0) af)) (gT [(gN 2),(gN 3)]) xY)
def zhd:SF:=x9
def rE:List D->R D:=bh false 2 4 zhd
def zli:SF:=(ak (aP (FL.cR (tE (av zfQ (aa (eV 4) (aa (eV 0) af))))) je aT)
  (ak (aF (gT [(gN 5),(gN 6),(gN 7)]) (eV 4))
  (ak (aP (tB (wC inD (bg (aa (eV 5) (aa (eV 6) af))) 2)) je aT)
  (ak (aP (FL.cR (tE (av uW (aa (eV 7) (aa (e2 aG (eV 0) (eC (.int 1))) af))))) je aT)
  (vK 2 (bg (aa (eV 5) (aa (eV 6) af))) (e1 qV (eV 7)))))))
def zlw:SF:=(gk (tL (aa (eV 1) af)) (gT [(gN 3),(gN 4)]) zli)
def zhf:SF:=(ak (eN 2 zid)
  (ak zlw
  (uG 2)))
def zfT:List D->R D:=bh true 2 8 zhf
def zle:SF:=(ak (aF (gN 5) (av zfS (aa (eV 1) (aa (eV 2) (aa (eV 3) (aa (eV 4) af))))))
  (aP (FL.cR (tE (av zah (aa (eV 5) af)))) (aD (bg (aa (eV 2) (aa (eV 3) (aa (eV 4) (aa (eV 5) af)))))) aT))
def zlp:SF:=(gk (iE (av zfU (aa (eZ 0 "Table" 0) af))) (gT [(gN 2),(gN 3),(gN 4)]) zle)
def zgO:SF:=(ak (aF (gN 1) (av zfO (iY 0 "Table" af)))
  (ak zlp
  (aD (eC .none))))
def zac:List D->R D:=iM [some "Table"] false 6 zgO
def zgL:SF:=(ak (aP (uN (FL.eB (FL.cR (tE (av jI (aa (eV 1) af)))) (FL.cR (tB (nR j8 j8 (eC (.int 1)) (eV 1) (eC (.int 6))))))) (xH "NoCount" false (aa (eC (.str "a table has one to six ways")) af)) (qM aT))
  je)
def zgy:List D->R D:=xD 2 4 zgL
def zku:EF:=(d6 2 [3] (iE (e1 zkT (eV 3))) (gT [(gN 0),(gN 1)]) (FL.cR (tE (av zah (aa (e2 jW (eV 2) (bg (aa (eV 0) (aa (eV 1) af)))) af)))) (bg (aa (eV 0) (aa (eV 1) (aa (e2 jW (eV 2) (bg (aa (eV 0) (aa (eV 1) af)))) af)))))
def zgN:AF:=(sIn (aP (FL.eB (FL.cR (tE (av jI (aa (eV 1) af)))) (FL.cR (tB (nR j8 j8 (eC (.int 1)) (eV 1) (eC (.int 6)))))) je aT)
  (sIn (aF (gN 3) (av zfT (aa (eV 1) (aa (eV 2) af))))
  (aa (eV 1) (aa (e1 qV zku) af))))
def uU:List D->R D:=xC 2 4 2 zgN
def xW:SF:=(ak (aF (gN 7) (av rA (aa (av jJ (aa (e2 aw (eV 1) (eV 4)) (aa (e2 aw (eV 2) (eV 5)) af))) (aa (av jJ (aa (e2 aw (eV 1) (eV 5)) (aa (e2 aw (eV 2) (eV 4)) af))) af))))
  (xG 3 (eN 3 (av rF (aa (eV 3) (aa (eV 7) (aa (eV 6) af)))))))
def x5:SF:=(gk (iE (eZ 0 "Table" 1)) (gT [(gN 4),(gN 5),(gN 6)]) xW)
def vk:SF:=(ak (sE (av rE (aa (bf (aa (eV 1) (aa (eV 2) af))) (aa (e2 aG (eZ 0 "Table" 0) (eC (.int 1))) af))))
  (ak (eN 3 (pX (eC (.tuple [(.int 0),(.int 1)])) (e2 aG (eZ 0 "Table" 0) (eC (.int 1)))))
  (ak x5
  (uG 3))))
def zad:List D->R D:=iM [some "Table",none,none] true 8 vk
def zgM:SF:=(ak (aP (uN (FL.eB (FL.cR (tE (av jI (aa (eV 0) af)))) (FL.cR (tE (av jI (aa (eV 1) af)))))) (xH "NoCount" false (aa (eC (.str "letters and depth are whole numbers")) af)) (qM aT))
  (ak (aP (uN (tB (e2 cy (eV 1) (eC (.int 1))))) (sXm zgy (aa (eV 0) (aa (bf af) af))) (qM aT))
  (ak (aP (uN (tB (e1 (fun k=>wL k (.dict rH)) (bg (aa (eV 0) (aa (eV 1) af)))))) (xH "NoCount" false (aa (eC (.str "there is no loose table of so many letters and this depth here")) af)) (qM aT))
  je)))
def zgz:List D->R D:=iM [none,none] false 4 zgM
def zkB:EF:=(d6 3 [2] (iE (eV 3)) (gT [(gN 0),(gN 1),(gN 2)]) dW (bg (aa (eV 0) (aa (eV 1) (aa (av zfV (aa (eV 2) (aa (e2 aG (eV 3) (eC (.int 1))) af))) af)))))
def zg9:SF:=(ak (jf (aP (FL.eB (FL.cR (tE (av jI (aa (eV 0) af)))) (FL.cR (tE (av jI (aa (eV 1) af))))) je aT))
  (ak (aP (tB (e2 cy (eV 1) (eC (.int 1)))) (ze2 (vO uU (aa (eV 0) (aa (bf af) af)))) (jf aT))
  (ak (jf (aP (tB (e1 (fun k=>wL k (.dict rH)) (bg (aa (eV 0) (aa (eV 1) af))))) je aT))
  (ak (jf (aF (gT [(gN 2),(gN 3)]) (e1 (fun k=>jW (.dict rH) k) (bg (aa (eV 0) (aa (eV 1) af))))))
  (ze2 (vO uU (aa (eV 2) (aa zkB af))))))))
def zfP:List D->R D:=xF [none,none] 4 zg9
def zgP:SF:=(ak (jf (aF (gN 2) (eC .none)))
  (ak (jf (aF (gN 3) (eC .none)))
  (ak (jf (ze3 4 2 (sOb 3 "Table" (za9 zfP zgz (aa (eV 0) (aa (eV 1) af))))))
  aT)))
def pC:List D->R (Sl×Sl):=xE 2 5 3 2 zgP
def zeT:EF:=(d6 3 [3] (iE (e2 aw (eV 3) (eC (.int 1)))) (gT [(gN 0),(gN 1),(gN 2)]) dW (bg (aa (eV 0) (aa (eV 1) (aa (e1 qV (av zfK (aa (e2 aG (e2 aw (eV 3) (eC (.int 0))) (eC (.int 1))) (aa (eV 2) af)))) af)))))
def uB:EF:=(d6 1 [0] (gI (aa (e2 aG (e2 aw (eV 3) (eC (.int 0))) (eC (.int 1))) af)) (gN 0) dW (bO zaf [.m 1]))
def xo:EF:=(d6 1 [0] (gI (aa (e2 aG (e2 aw (eV 3) (eC (.int 0))) (eC (.int 1))) af)) (gN 0) dW (bO zaf [.m 1]))
def qX:SF:=(aF (gN 7) (av zad (iY 4 "Table" (aa xo (aa (eV 7) af)))))
def x6:SF:=(gk (gI (aa (eV 2) af)) (gN 8) qX)
def zaA:SF:=(ak (aF (gN 3) (av rk (aa (eV 1) (aa (eV 2) af))))
  (ak (qN 4 5 pC (aa (eV 1) (aa (eV 2) af)))
  (ak (aP (tB (e2 isD (eV 3) (eC .none))) (aD (e2 cy (nQ 5 rj) (eC (.str "NoCount")))) aT)
  (ak (uH 6 (eN 6 zeT))
  (ak (aP (FL.eB (FL.tB (sG 5)) (FL.eB (tB (e2 eL (eZ 4 "Table" 0) (e2 aw (eV 3) (eC (.int 0))))) (tB (e2 eL (eZ 4 "Table" 1) (e1 qV (eV 6)))))) (aD (eC (.bool false))) aT)
  (ak (aP (tB (e2 zdH (av zac (iY 4 "Table" af)) (eC .none))) (aD (eC (.bool false))) aT)
  (ak (uH 7 (eN 7 uB))
  (ak x6
  (aD (e2 cy (eV 7) (av pD (aa (e2 aG (e2 aw (eV 3) (eC (.int 0))) (eC (.int 1))) af))))))))))))
def rp:List D->R (D×List D):=run [true,false,false] false 9 zaA
def qY:SF:=(aP (FL.cR (tE (bO rp [.m 2,.v (eV 4),.v (eV 5)]))) (aD (eC (.bool false))) aT)
def zfD:SF:=(gk (iE (e2 aG (eV 3) (kA (eV 3) kT (kU (eC (.int 1)))))) (gT [(gN 4),(gN 5)]) qY)
def uP:SF:=(ak (eN 2 (av zag (aa (eV 1) (aa (eC (.int 15)) af))))
  (ak (aF (gN 3) (bf (aa (bO pE [.m 2]) (aa (bO pE [.m 2]) af))))
  zfD))
def x8:SF:=(gk (iE (e2 aG (kA (eV 0) kT (kU (eC (.int 8)))) (bf (aa (av uV (aa (eV 0) (aa (eC (.int 2)) af))) af)))) (gN 1) uP)
def vo:SF:=(ak x8
  (aD (eC (.bool true))))
def rq:List D->R D:=bh false 1 6 vo
end K13
namespace K13
open PySem L2 PySem.Spec FL
open PyProof.Rows hiding St
variable {aL bG bH dX fF fa jS m6 m7 m8 m9 mJ mK mL mM mO mP mQ mR mS mU mV mW mX mY mZ nX nY nZ nc nh ni nj nq nu nv:dm}{P:yw}{w:yv}{zoA zoB zoC:yL}{qU:yP}{mg:ir->Option gV}{base:yo}
section
noncomputable def top(i:Nat):yx:=PySem.Challenge.pw_swaprest_k13_loose_tables.main.body.getD i (.Pass ⟨0,0,0,0⟩)
def i6(i j:Nat):yx:=match top i with
  | .ClassDef _ _ _ b _ _ _ _ _ _ _=>b.getD j (.Pass ⟨0,0,0,0⟩)
  | s=>s
variable [Cs]
structure Cst(K:yf)(mg:ir->Option gV)(qU:yP)(bG:dm)(bH:dm)(jS:dm):Prop where
  wD:mg "MOST_WAYS"=some (.int 6 qU)
  kQ:mg "NOUGHT"=some (.ref bG)
  pq:∃ o,Cs.C bG=some (.frz o (.tup [.int 0,.int 1]))
  zdx:mg "ONE"=some (.ref bH)
  zyf:∃ o,Cs.C bH=some (.frz o (.tup [.int 1,.int 1]))
  tY:mg "LOOSE"=some (.ref jS)
  sj:nA K jS rH
section
variable {K:yf}
abbrev pM:=CT "is_whole" 1 ["one"] 1 false jI
abbrev vb:=CT "common_divisor" 1 ["one","other"] 2 false pF
abbrev zgw:=CT "unit_row" 1 ["place","width"] 2 false zfV
abbrev zas:=CT "is_of_noughts" 1 ["row"] 1 false zah
abbrev zgj:=CT "contrary" 1 ["row"] 1 true zfL
abbrev zgr:=CT "pairs_of" 1 ["count"] 1 false zfR
abbrev zaq:=CT "_law_mixed" 1 ["_law_cell","_law_k"] 2 false zae
abbrev zf9:=CT "_law_at" 1 ["_law_script","_law_k"] 2 false uV
abbrev zgd:=CT "_law_low" 1 ["_law_top","_law_bottom"] 2 false zfJ
abbrev zgi:=CT "_law_unit" 1 ["_law_width","_law_at_here"] 2 false zfK
abbrev zga:=CT "_law_blank" 1 ["_law_width"] 1 false pD
abbrev zgb:=CTK "_law_class" 1 ["_law_error"] rj
abbrev zgc:=CT "_law_due" 1 ["_law_letters","_law_depth"] 2 false rk
abbrev zgk:=CT "is_number" 2 ["one"] 1 false zfM
abbrev zau:=CT "plus" 2 ["one","other"] 2 false rB
abbrev zav:=CT "times" 2 ["one","other"] 2 false jJ
abbrev zgm:=CT "is_way" 2 ["one","count"] 2 false zai
abbrev zgv:=CT "triples_of" 2 ["count"] 1 false zfU
abbrev zgn:=CTO "left_by_ways" 2 ["table"] [some "Table"] true zfO
abbrev zgg:=CT "_law_purse" 2 ["_law_cell","_law_k"] 2 true zag
abbrev zar:=uR "_law_take" 2 ["_law_purse_here","_law_many"] [true,false] false fH
abbrev zgo:=CT "less" 3 ["one","other"] 2 false rA
abbrev zgl:=CT "is_row" 3 ["row"] 1 false zfN
abbrev zaw:=CT "with_times" 3 ["row","weight","other"] 3 true rF
abbrev zgq:=CT "names_two_ways" 3 ["leaving","count"] 2 false zfQ
abbrev zge:=uR "_law_number" 3 ["_law_purse_here"] [true] false zaf
abbrev zgf:=uR "_law_pair" 3 ["_law_purse_here"] [true] false pE
abbrev zat:=CT "is_row_of" 4 ["row","width"] 2 false uW
abbrev zgt:=CT "round_sum" 4 ["by_ways","i","j","k"] 4 false zfS
abbrev zgs:=CT "refuse_rows" 5 ["rows","width"] 2 false rE
abbrev zgu:=CT "rows_by_pair" 5 ["count","leavings"] 2 true zfT
abbrev zf6:=CTm "Table" "breaks" 5 ["self"] [] zac
abbrev zap[Cs]:=zlD "Table" "Table" 6 ["self","count","leavings"] 2 uU zgy
abbrev zf5[Cs]:=CTI "Table" "Table" 6 ["self","count","leavings"] 2 uU
abbrev zf7:=zfH "Table" "left" 6 ["self","one","other"] [none,none] zad
abbrev zf4:=CTX "loose" 8 ["letters","depth"] [none,none] false zgz
abbrev zgp[Cs]:=CTT "loose" 8 ["letters","depth"] [none,none] "Table" zfP
abbrev zf8[Cs]:=CTQ "_law_asked" 9 ["_law_letters","_law_depth"] pC
abbrev zgh:=uR "_law_right" 10 ["_law_purse_here","_law_letters","_law_depth"] [true,false,false] false rp
variable (B:Blt mg)(C:Cst K mg qU bG bH jS)
include B C
variable (aW:Ob K "Table" dX ["count","leavings"])
include aW
theorem zqM(h:aE K mg "is_whole" (top 32)):pM P w K mg base:=dH ["one"] h fun hr nd=>by
  unfold zg6;exact(bR (qG (uq zrE B.cA B.ub Bt.int (ae 0)) (ur (zvg (uq zrD B.cA B.zdB Bt.bool (ae 0))))))
theorem zqF(h:aE K mg "common_divisor" (top 33)):vb P w K mg base:=dH ["one","other","high","low"] h fun hr nd=>by
  unfold zgZ zlr;exact(aJ (uz 2 3 nd (jB zaP B.t9 Bt.abs (ae 0)) (jB zaP B.t9 Bt.abs (ae 1)))
      (aJ (zks (mG 3) Fs (dC (oX hr) (ae 3) ao) (cX (uz 2 3 nd (ae 3) (az oO (ae 2) (ae 3)))))
      (bR (ae 2))))
theorem zqZ(h:aE K mg "unit_row" (top 42)):zgw P w K mg base:=dH ["place","width"] h fun hr nd=>by
  unfold zhi zkE;exact(bR (aO.pv (cp ["at"] [0] ["at","place"] (kZ rfl B.iH (a1 (ae 1))) (fun nd=>(aU 0 nd)) fQ (zkm (dC (gj hr) (ae 0) (ae 1)) (mF rfl C.zdx C.zyf (fun _=>by simp[ah,Fz])) (mF rfl C.kQ C.pq (fun _=>by simp[ah,Fz]))))))
theorem zqI(h:aE K mg "is_of_noughts" (top 43)):zas P w K mg base:=dH ["row"] h fun hr nd=>by
  unfold zg2 zky;exact(bR (jB (zhx rfl) B.wJ Bt.all (aO.pv (cp ["one"] [] ["one"] (hW (ae 0)) (fun nd=>(aU 0 nd)) fQ (oR (gj hr) (ae 0) (mF rfl C.kQ C.pq (fun _=>by simp[ah,Fz])))))))
theorem zqG(h:aE K mg "contrary" (top 44)):zgj P w K mg base:=dH ["row"] h fun hr nd=>by
  unfold zg0 zkx;exact(cX (uA (cp ["top","bottom"] [] ["top","bottom"] (hW (ae 0)) (fun nd=>(fC rfl (bJ (aU 0 nd) (bJ (aU 1 nd) fE)))) fQ (cK (a2 (xj xX (ae 0)) (ae 1))))))
theorem zqS(h:aE K mg "pairs_of" (top 49)):zgr P w K mg base:=dH ["count"] h fun hr nd=>by
  unfold zhb zkC;exact(bR (aO.pv (zkp 1 ["j","i"] [0] ["j","i","count"] rfl rfl (by kernel_rfl) rfl (by decide) (kZ rfl B.iH (a1 (ae 0))) (fun _ _ _ _=>(aU 1 (show(["j","i","count"]:List ir).Nodup by decide +kernel))) (by decide) (fun _ _ _ _=>fQ) (fun _ _ _ _=>(zko rfl B.iH (a2 (az bQ (ae 1) ao) (ae 2)))) (fun _ _ _ _=>(aU 0 (show(["j","i","count"]:List ir).Nodup by decide +kernel))) (by decide) (fun _ _ _ _=>fQ) (fun _ _ _ _=>(cK (a2 (ae 1) (ae 0)))) (by decide))))
theorem zqy(h:aE K mg "_law_mixed" (top 60)):zaq P w K mg base:=dH ["_law_cell","_law_k","_law_number_here"] h fun hr nd=>by
  unfold zgU;exact(aJ (cw 2 nd (az bQ (az bQ (az gK (az bQ (az oO (ae 0) (az bQ (az i9 ao ao) ao)) (az gK ao (ae 1))) ao) (az gK ao (ae 1))) ao))
      (aJ (cw 2 nd (az oO (az gK (ae 2) (ae 2)) (az bQ (az i9 ao ao) ao)))
      (bR (az oO (az gK (az bQ (ae 2) ao) (az bQ (ae 2) ao)) (az bQ (az i9 ao ao) ao)))))
theorem zqt(h:aE K mg "_law_at" (top 63)):zf9 P w K mg base:=dH ["_law_script","_law_k"] h fun hr nd=>by
  unfold zgQ;exact(aJ (dM (dC (oW hr) (ae 1) (jB r6 B.oK Bt.len (ae 0))) (bR (cf bZ (ae 0) (ae 1))) cW)
      (bR (az bQ (az gK ao (ae 1)) ao)))
theorem zqx(h:aE K mg "_law_low" (top 64)):zgd P w K mg base:=dH ["_law_top","_law_bottom","_law_one","_law_other"] h fun hr nd=>by
  unfold zgT zlq;exact(aJ (cw 2 nd (jB zaP B.t9 Bt.abs (ae 0)))
      (aJ (cw 3 nd (ae 1))
      (aJ (zks (mG 3) Fs (dC (oX hr) (ae 3) ao) (cX (uz 2 3 nd (ae 3) (az oO (ae 2) (ae 3)))))
      (bR (cK (a2 (az (jx hr) (ae 0) (ae 2)) (az (jx hr) (ae 1) (ae 2))))))))
theorem zqE(h:aE K mg "_law_unit" (top 72)):zgi P w K mg base:=dH ["_law_width","_law_at_here"] h fun hr nd=>by
  unfold zgY zkw;exact(bR (aO.pv (cp ["_law_place"] [1] ["_law_place","_law_at_here"] (kZ rfl B.iH (a1 (ae 0))) (fun nd=>(aU 0 nd)) fQ (cK (a2 (oU zhz B.ub Bt.int (oR (gj hr) (ae 0) (ae 1))) ao)))))
theorem zqu(h:aE K mg "_law_blank" (top 73)):zga P w K mg base:=dH ["_law_width"] h fun hr nd=>by
  unfold vm zeS;exact(bR (aO.pv (cp ["_law_place"] [] ["_law_place"] (kZ rfl B.iH (a1 (ae 0))) (fun nd=>(aU 0 nd)) fQ (cK (a2 ao ao)))))
theorem zqv(h:aE K mg "_law_class" (top 75))  (zcj:mg "Broken"=some (.ref mJ))(zbc:∀ p∈([("NoCount",false)]:List (String×Bool)),aV K (.ref mJ) p.1 p.2)(wg:mg "NoCount"=some (.ref aL))(zbd:∀ p∈([("NoCount",true)]:List (String×Bool)),aV K (.ref aL) p.1 p.2)(zck:mg "NoDeed"=some (.ref mK))(zbe:∀ p∈([("NoCount",false)]:List (String×Bool)),aV K (.ref mK) p.1 p.2)(zcl:mg "NoLeast"=some (.ref mL))(zbf:∀ p∈([("NoCount",false)]:List (String×Bool)),aV K (.ref mL) p.1 p.2)(zcm:mg "NoLine"=some (.ref mM))(zbg:∀ p∈([("NoCount",false)]:List (String×Bool)),aV K (.ref mM) p.1 p.2)(zcn:mg "NoMatch"=some (.ref mO))(zbh:∀ p∈([("NoCount",false)]:List (String×Bool)),aV K (.ref mO) p.1 p.2)(zco:mg "NoName"=some (.ref mP))(zbi:∀ p∈([("NoCount",false)]:List (String×Bool)),aV K (.ref mP) p.1 p.2)(zcp:mg "NoNumber"=some (.ref mQ))(zbj:∀ p∈([("NoCount",false)]:List (String×Bool)),aV K (.ref mQ) p.1 p.2)(zcq:mg "NoPair"=some (.ref mR))(zbk:∀ p∈([("NoCount",false)]:List (String×Bool)),aV K (.ref mR) p.1 p.2)(zcr:mg "NoPlace"=some (.ref mS))(zbl:∀ p∈([("NoCount",false)]:List (String×Bool)),aV K (.ref mS) p.1 p.2)(zcs:mg "NoRow"=some (.ref mU))(zbm:∀ p∈([("NoCount",false)]:List (String×Bool)),aV K (.ref mU) p.1 p.2)(zct:mg "NoShelf"=some (.ref mV))(zbn:∀ p∈([("NoCount",false)]:List (String×Bool)),aV K (.ref mV) p.1 p.2)(zcu:mg "NoSquare"=some (.ref mW))(zbo:∀ p∈([("NoCount",false)]:List (String×Bool)),aV K (.ref mW) p.1 p.2)(zcv:mg "NoSum"=some (.ref mX))(zbp:∀ p∈([("NoCount",false)]:List (String×Bool)),aV K (.ref mX) p.1 p.2)(zcw:mg "NoText"=some (.ref mY))(zbq:∀ p∈([("NoCount",false)]:List (String×Bool)),aV K (.ref mY) p.1 p.2)(zcx:mg "NoTree"=some (.ref mZ))(zbr:∀ p∈([("NoCount",false)]:List (String×Bool)),aV K (.ref mZ) p.1 p.2)(zcy:mg "NoWord"=some (.ref m6))(zbs:∀ p∈([("NoCount",false)]:List (String×Bool)),aV K (.ref m6) p.1 p.2)(zcz:mg "NotActing"=some (.ref m7))(zbt:∀ p∈([("NoCount",false)]:List (String×Bool)),aV K (.ref m7) p.1 p.2)(zcA:mg "NotBare"=some (.ref m8))(zbu:∀ p∈([("NoCount",false)]:List (String×Bool)),aV K (.ref m8) p.1 p.2)(zcB:mg "NotEaten"=some (.ref m9))(zbv:∀ p∈([("NoCount",false)]:List (String×Bool)),aV K (.ref m9) p.1 p.2)(zcC:mg "NotFree"=some (.ref nc))(zbw:∀ p∈([("NoCount",false)]:List (String×Bool)),aV K (.ref nc) p.1 p.2)(zcD:mg "NotGap"=some (.ref nh))(zbx:∀ p∈([("NoCount",false)]:List (String×Bool)),aV K (.ref nh) p.1 p.2)(zcE:mg "NotKept"=some (.ref ni))(zby:∀ p∈([("NoCount",false)]:List (String×Bool)),aV K (.ref ni) p.1 p.2)(zcF:mg "NotNought"=some (.ref nj))(zbz:∀ p∈([("NoCount",false)]:List (String×Bool)),aV K (.ref nj) p.1 p.2)(zcG:mg "NotOne"=some (.ref nq))(zbA:∀ p∈([("NoCount",false)]:List (String×Bool)),aV K (.ref nq) p.1 p.2)(zcH:mg "TooDeep"=some (.ref nu))(zbC:∀ p∈([("NoCount",false)]:List (String×Bool)),aV K (.ref nu) p.1 p.2)(zcI:mg "TooLong"=some (.ref nv))(zbD:∀ p∈([("NoCount",false)]:List (String×Bool)),aV K (.ref nv) p.1 p.2)(qm:mg "SwapError"=some (.ref fF))(zbB:∀ p∈([("NoCount",true)]:List (String×Bool)),aV K (.ref fF) p.1 p.2)(zcJ:mg "ValueError"=none)(zbE:∀ p∈([("NoCount",true)]:List (String×Bool)),aV K (.ty "ValueError") p.1 p.2):zgb P w K mg base:=fnK ["_law_error","_law_got","_law_words"] h fun hr nd=>by
  unfold zgR zkv;exact(aJ (cw 1 nd (aO.pv (dq (a3 (dn (y:=.ref mJ) 0 [("NoCount",false)] (fun z=>nomatch z) zbc (cP rfl zcj rfl) B.cA) (dn (y:=.ref aL) 0 [("NoCount",true)] (fun z=>nomatch z) zbd (cP rfl wg rfl) B.cA) (dn (y:=.ref mK) 0 [("NoCount",false)] (fun z=>nomatch z) zbe (cP rfl zck rfl) B.cA)))))
      (aJ (cw 1 nd (az bQ (ae 1) (aO.pv (dq (a3 (dn (y:=.ref mL) 0 [("NoCount",false)] (fun z=>nomatch z) zbf (cP rfl zcl rfl) B.cA) (dn (y:=.ref mM) 0 [("NoCount",false)] (fun z=>nomatch z) zbg (cP rfl zcm rfl) B.cA) (dn (y:=.ref mO) 0 [("NoCount",false)] (fun z=>nomatch z) zbh (cP rfl zcn rfl) B.cA))))))
      (aJ (cw 1 nd (az bQ (ae 1) (aO.pv (dq (a3 (dn (y:=.ref mP) 0 [("NoCount",false)] (fun z=>nomatch z) zbi (cP rfl zco rfl) B.cA) (dn (y:=.ref mQ) 0 [("NoCount",false)] (fun z=>nomatch z) zbj (cP rfl zcp rfl) B.cA) (dn (y:=.ref mR) 0 [("NoCount",false)] (fun z=>nomatch z) zbk (cP rfl zcq rfl) B.cA))))))
      (aJ (cw 1 nd (az bQ (ae 1) (aO.pv (dq (a3 (dn (y:=.ref mS) 0 [("NoCount",false)] (fun z=>nomatch z) zbl (cP rfl zcr rfl) B.cA) (dn (y:=.ref mU) 0 [("NoCount",false)] (fun z=>nomatch z) zbm (cP rfl zcs rfl) B.cA) (dn (y:=.ref mV) 0 [("NoCount",false)] (fun z=>nomatch z) zbn (cP rfl zct rfl) B.cA))))))
      (aJ (cw 1 nd (az bQ (ae 1) (aO.pv (dq (a3 (dn (y:=.ref mW) 0 [("NoCount",false)] (fun z=>nomatch z) zbo (cP rfl zcu rfl) B.cA) (dn (y:=.ref mX) 0 [("NoCount",false)] (fun z=>nomatch z) zbp (cP rfl zcv rfl) B.cA) (dn (y:=.ref mY) 0 [("NoCount",false)] (fun z=>nomatch z) zbq (cP rfl zcw rfl) B.cA))))))
      (aJ (cw 1 nd (az bQ (ae 1) (aO.pv (dq (a3 (dn (y:=.ref mZ) 0 [("NoCount",false)] (fun z=>nomatch z) zbr (cP rfl zcx rfl) B.cA) (dn (y:=.ref m6) 0 [("NoCount",false)] (fun z=>nomatch z) zbs (cP rfl zcy rfl) B.cA) (dn (y:=.ref m7) 0 [("NoCount",false)] (fun z=>nomatch z) zbt (cP rfl zcz rfl) B.cA))))))
      (aJ (cw 1 nd (az bQ (ae 1) (aO.pv (dq (a3 (dn (y:=.ref m8) 0 [("NoCount",false)] (fun z=>nomatch z) zbu (cP rfl zcA rfl) B.cA) (dn (y:=.ref m9) 0 [("NoCount",false)] (fun z=>nomatch z) zbv (cP rfl zcB rfl) B.cA) (dn (y:=.ref nc) 0 [("NoCount",false)] (fun z=>nomatch z) zbw (cP rfl zcC rfl) B.cA))))))
      (aJ (cw 1 nd (az bQ (ae 1) (aO.pv (dq (a3 (dn (y:=.ref nh) 0 [("NoCount",false)] (fun z=>nomatch z) zbx (cP rfl zcD rfl) B.cA) (dn (y:=.ref ni) 0 [("NoCount",false)] (fun z=>nomatch z) zby (cP rfl zcE rfl) B.cA) (dn (y:=.ref nj) 0 [("NoCount",false)] (fun z=>nomatch z) zbz (cP rfl zcF rfl) B.cA))))))
      (aJ (cw 1 nd (az bQ (ae 1) (aO.pv (dq (a3 (dn (y:=.ref nq) 0 [("NoCount",false)] (fun z=>nomatch z) zbA (cP rfl zcG rfl) B.cA) (dn (y:=.ref nu) 0 [("NoCount",false)] (fun z=>nomatch z) zbC (cP rfl zcH rfl) B.cA) (dn (y:=.ref nv) 0 [("NoCount",false)] (fun z=>nomatch z) zbD (cP rfl zcI rfl) B.cA))))))
      (aJ (dM (eE.jb (jd (fe (fP fR (dn (y:=.ref fF) 0 [("NoCount",true)] (fun z=>nomatch z) zbB (cP rfl qm rfl) B.cA))) (jd (fe (fP fR (dn (y:=.ty "ValueError") 0 [("NoCount",true)] (fun z=>nomatch z) zbE (zj0 rfl zcJ rfl) B.cA))) (lh (dC (oX hr) (jB (zm4 rfl) B.zdD Bt.sum (aO.pv (cp ["_law_one"] [] ["_law_one"] (hW (ae 1)) (fun nd=>(aU 0 nd)) fQ (oU zhz B.ub Bt.int (ae 0))))) ao))))) (bR cQ) cW)
      (aJ (cw 2 nd (aO.pv (dq (dJ cQ (dJ cQ (dJ cQ (dJ cQ (dJ cQ (dJ cQ (a3 cQ cQ cQ))))))))))
      (aJ (cw 2 nd (az bQ (ae 2) (aO.pv (dq (dJ cQ (dJ cQ (dJ cQ (dJ cQ (dJ cQ (dJ cQ (a3 cQ cQ cQ)))))))))))
      (aJ (cw 2 nd (az bQ (ae 2) (aO.pv (dq (dJ cQ (dJ cQ (dJ cQ (dJ cQ (dJ cQ (a3 cQ cQ cQ))))))))))
      (bR (cf bZ (az bQ (ae 2) (aO.pv (dq (a1 cQ)))) (zvb (ae 1) mE))))))))))))))))
theorem zqw(h:aE K mg "_law_due" (top 77)):zgc P w K mg base:=dH ["_law_letters","_law_depth"] h fun hr nd=>by
  unfold zgS;exact(aJ (dM (eE.jb (zeP (dC (gj hr) (ae 1) ao) (zeQ (zeO (oV hr) (oV hr) ao (ae 0) ao)))) (bR (aO.pv (dq (a2 (ae 0) (aO.pv (dq qI)))))) cW)
      (aJ (dM (eE.jb (zeP (dC (gj hr) (ae 0) ao) (zeQ (dC (zwj hr) (ae 1) (aO.pv (dq (a2 ao ao))))))) (bR (aO.pv (dq (a2 (cf bZ (aO.pv (dq (a2 ao ao))) (az kW (ae 1) ao)) (xi xI (aO.pv (xk rfl)) xl (xm (az kW (az gK ao (ae 1)) ao))))))) cW)
      (aJ (dM (eE.jb (zeP (dC (gj hr) (ae 0) ao) (zeQ (dC (gj hr) (ae 1) ao)))) (bR (aO.pv (dq (a2 ao (aO.pv (xk rfl)))))) cW)
      (bR qH))))
theorem zqH(h:aE K mg "is_number" (top 34))(nN:vb P w K mg base)(iq:pM P w K mg base):zgk P w K mg base:=dH ["one","top","bottom"] h fun hr nd=>by
  unfold zg1;exact(aJ (dM (eE.jb (jd (fe (fP fR (uq kit_tuple B.cA B.mw Bt.tuple (ae 0)))) (lh (dC (oX hr) (jB r6 B.oK Bt.len (ae 0)) ao)))) (bR mE) cW)
      (aJ (uw (ae 0) (fC rfl (bJ (aU 1 nd) (bJ (aU 2 nd) fE))))
      (aJ (dM (eE.jb (jd (fe (fP fR (bX iq hr (a1 (ae 1))))) (jd (fe (fP fR (bX iq hr (a1 (ae 2))))) (lh (dC (oW hr) (ae 2) ao))))) (bR mE) cW)
      (bR (oR (gj hr) (bX nN hr (a2 (ae 1) (ae 2))) ao)))))
theorem zqT(h:aE K mg "plus" (top 35))(nN:vb P w K mg base):zau P w K mg base:=dH ["one","other","shared","mine","its","top","again"] h fun hr nd=>by
  unfold zhc;exact(aJ (cw 2 nd (bX nN hr (a2 (cf bZ (ae 0) ao) (cf bZ (ae 1) ao))))
      (aJ (uz 3 4 nd (az (jx hr) (cf bZ (ae 0) ao) (ae 2)) (az (jx hr) (cf bZ (ae 1) ao) (ae 2)))
      (aJ (cw 5 nd (az bQ (az gK (cf bZ (ae 0) ao) (ae 4)) (az gK (cf bZ (ae 1) ao) (ae 3))))
      (aJ (cw 6 nd (bX nN hr (a2 (ae 5) (ae 2))))
      (bR (cK (a2 (az (jx hr) (ae 5) (ae 6)) (az gK (ae 3) (az (jx hr) (cf bZ (ae 1) ao) (ae 6))))))))))
theorem zqX(h:aE K mg "times" (top 37))(nN:vb P w K mg base):zav P w K mg base:=dH ["one","other","mine","its"] h fun hr nd=>by
  unfold zhg;exact(aJ (uz 2 3 nd (bX nN hr (a2 (cf bZ (ae 0) ao) (cf bZ (ae 1) ao))) (bX nN hr (a2 (cf bZ (ae 1) ao) (cf bZ (ae 0) ao))))
      (bR (cK (a2 (az gK (az (jx hr) (cf bZ (ae 0) ao) (ae 2)) (az (jx hr) (cf bZ (ae 1) ao) (ae 3))) (az gK (az (jx hr) (cf bZ (ae 0) ao) (ae 3)) (az (jx hr) (cf bZ (ae 1) ao) (ae 2)))))))
theorem zqL(h:aE K mg "is_way" (top 48))(iq:pM P w K mg base):zgm P w K mg base:=dH ["one","count"] h fun hr nd=>by
  unfold zg5;exact(bR (qG (bX iq hr (a1 (ae 0))) (ur (zu8 (oV hr) (oW hr) ao (ae 0) (ae 1)))))
theorem zqY(h:aE K mg "triples_of" (top 50))(zmZ:zgr P w K mg base):zgv P w K mg base:=dH ["count"] h fun hr nd=>by
  unfold zhh zkD;exact(bR (aO.pv (zkp 1 ["k","i","j"] [0] ["k","i","j","count"] rfl rfl (by kernel_rfl) rfl (by decide) (hW (bX zmZ hr (a1 (ae 0)))) (fun _ _ _ _=>(fC rfl (bJ (aU 1 (show(["k","i","j","count"]:List ir).Nodup by decide +kernel)) (bJ (aU 2 (show(["k","i","j","count"]:List ir).Nodup by decide +kernel)) fE)))) (by decide) (fun _ _ _ _=>fQ) (fun _ _ _ _=>(zko rfl B.iH (a2 (az bQ (ae 2) ao) (ae 3)))) (fun _ _ _ _=>(aU 0 (show(["k","i","j","count"]:List ir).Nodup by decide +kernel))) (by decide) (fun _ _ _ _=>fQ) (fun _ _ _ _=>(cK (a3 (ae 1) (ae 2) (ae 0)))) (by decide))))
theorem zqO(h:aE K mg "left_by_ways" (top 54))(zmR:zgj P w K mg base):zgn P w K mg base:=fnO [some "Table"] true ["table","nothing","by_ways","i","j","row"] h fun hr nd=>by
  unfold zg8 zls zlf zkA;exact(aJ (cw 1 nd (aO.pv (zeK (mF rfl C.kQ C.pq (fun _=>by simp[ah,Fz])) (az bQ (kh 0 0 aW) ao))))
      (aJ (zvx 2 1 ["j","i"] [0,1] ["j","i","table","nothing"] nd (mI hr) rfl rfl rfl rfl rfl (by kernel_rfl) rfl (by decide) (kZ rfl B.iH (a1 (kh 0 0 aW))) (fun _ _ _ _=>(aU 1 (show(["j","i","table","nothing"]:List ir).Nodup by decide +kernel))) (by decide) (fun _ _ _ _=>fQ) (fun _ _ _ _=>(kZ rfl B.iH (a1 (kh 2 0 aW)))) (fun _ _ _ _=>(aU 0 (show(["j","i","table","nothing"]:List ir).Nodup by decide +kernel))) (by decide) (fun _ _ _ _=>fQ) (fun _ _ _ _=>(cK (a2 (ae 1) (ae 0)))) (fun _ _ _ _=>(ae 3)) (by decide))
      (aJ (ki (hW (kh 0 1 aW)) (fC rfl (bJ (aU 3 nd) (bJ (aU 4 nd) (bJ (aU 5 nd) fE)))) (aJ (zeL 2 (mI hr) (pv 2) (oU zmW B.uc Bt.list (ae 5)) (cK (a2 (ae 3) (ae 4))))
      (cX (zeL 2 (mI hr) (pv 2) (aO.pv (uv zmR hr (a1 (ae 5)))) (cK (a2 (ae 4) (ae 3)))))))
      (cX (zeM 2 (pv 2))))))
theorem zqB(h:aE K mg "_law_purse" (top 61))(zaO:zaq P w K mg base):zgg P w K mg base:=dH ["_law_cell","_law_k"] h fun hr nd=>by
  unfold zgW;exact(aJ (dM (dC (zwh hr) (ae 0) (az i9 ao ao)) (cX (uA (dq (a3 (az kW (ae 0) (az i9 ao ao)) ao (ae 1))))) cW)
      (cX (uA (dq (a3 (bX zaO hr (a2 (ae 0) (ae 1))) ao (az bQ (az oO (ae 0) (az bQ (az i9 ao ao) ao)) (ae 1)))))))
theorem zqD(h:aE K mg "_law_take" (top 62))(zaO:zaq P w K mg base):zar P w K mg base:=sN [true,false] ["_law_purse_here","_law_many","_law_got"] h fun hr nd=>by
  unfold zgX;exact(aJ (dM (dC (oW hr) (oS 0 bZ ao) (ae 1)) (aJ (zeN 0 (pv 0) (az bQ (oS 0 bZ ao) ao) ao)
      (cX (zeN 0 (pv 0) (az bQ (oS 0 bZ ao) (az gK (ae 1) (bX zaO hr (a2 (oS 0 bZ ao) (az bQ (az gK ao (oS 0 bZ ao)) ao))))) ao))) cW)
      (aJ (cw 2 nd (az oO (oS 0 bZ ao) (ae 1)))
      (aJ (zeN 0 (pv 0) (az (jx hr) (oS 0 bZ ao) (ae 1)) ao)
      (bR (ae 2)))))
theorem zqP(h:aE K mg "less" (top 36))(zaT:zau P w K mg base):zgo P w K mg base:=dH ["one","other"] h fun hr nd=>by
  unfold vp;exact(bR (bX zaT hr (a2 (ae 0) (cK (a2 (xj xX (cf bZ (ae 1) ao)) (cf bZ (ae 1) ao))))))
theorem zqJ(h:aE K mg "is_row" (top 39))(zmS:zgk P w K mg base):zgl P w K mg base:=dH ["row"] h fun hr nd=>by
  unfold zg3 zkz;exact(bR (qG (uq zrF B.cA B.uc Bt.list (ae 0)) (ur (jB (zhx rfl) B.wJ Bt.all (aO.pv (cp ["one"] [] ["one"] (hW (ae 0)) (fun nd=>(aU 0 nd)) fQ (bX zmS hr (a1 (ae 0)))))))))
theorem zq0(h:aE K mg "with_times" (top 45))(zaT:zau P w K mg base)(vA:zav P w K mg base):zaw P w K mg base:=dH ["row","weight","other"] h fun hr nd=>by
  unfold pS xq;exact(aJ (dM (dC (gj hr) (ae 1) (mF rfl C.kQ C.pq (fun _=>by simp[ah,Fz]))) (cX (uA (zvp B.uc Bt.list (ae 0)))) cW)
      (cX (uA (cp ["mine","its"] [1] ["mine","its","weight"] (zvj rfl B.zdE (a2 (ae 0) (ae 2))) (fun nd=>(fC rfl (bJ (aU 0 nd) (bJ (aU 1 nd) fE)))) fQ (zkm (dC (gj hr) (ae 1) (mF rfl C.kQ C.pq (fun _=>by simp[ah,Fz]))) (ae 0) (bX zaT hr (a2 (ae 0) (bX vA hr (a2 (ae 2) (ae 1))))))))))
theorem zqR(h:aE K mg "names_two_ways" (top 51))(zhA:zgm P w K mg base):zgq P w K mg base:=dH ["leaving","count","i","j","row"] h fun hr nd=>by
  unfold zha;exact(aJ (dM (eE.jb (jd (fe (fP fR (uq kit_tuple B.cA B.mw Bt.tuple (ae 0)))) (lh (dC (oX hr) (jB r6 B.oK Bt.len (ae 0)) ao)))) (bR mE) cW)
      (aJ (uw (ae 0) (fC rfl (bJ (aU 2 nd) (bJ (aU 3 nd) (bJ (aU 4 nd) fE)))))
      (bR (qG (bX zhA hr (a2 (ae 2) (ae 1))) (qG (bX zhA hr (a2 (ae 3) (ae 1))) (ur (oR (oW hr) (ae 2) (ae 3))))))))
theorem zqz(h:aE K mg "_law_number" (top 68))(jV:zar P w K mg base)(zmN:zgd P w K mg base):zge P w K mg base:=sN [true] ["_law_purse_here","_law_way"] h fun hr nd=>by
  unfold zgV;exact(aJ (cw 1 nd (hU jV hr (gQ 0 (jC ao hV))))
      (aJ (dM (dC (oW hr) (ae 1) ao) (bR (cf bZ (aO.pv (xk rfl)) (ae 1))) cW)
      (aJ (dM (dC (gj hr) (ae 1) ao) (bR (cK (a2 (az kW (hU jV hr (gQ 0 (jC ao hV))) ao) ao))) cW)
      (bR (bX zmN hr (a2 (az kW (hU jV hr (gQ 0 (jC (az bQ (az gK ao (az i9 ao ao)) ao) hV))) (az i9 ao ao)) (az bQ ao (hU jV hr (gQ 0 (jC ao hV))))))))))
theorem zqA(h:aE K mg "_law_pair" (top 78))(jV:zar P w K mg base):zgf P w K mg base:=sN [true] ["_law_purse_here","_law_letters","_law_depth","_law_far"] h fun hr nd=>by
  unfold vn;exact(aJ (cw 1 nd (az kW (hU jV hr (gQ 0 (jC ao hV))) ao))
      (aJ (cw 2 nd (az kW (hU jV hr (gQ 0 (jC ao hV))) ao))
      (aJ (dM (dC (gj hr) (hU jV hr (gQ 0 (jC ao hV))) ao) (cX (uw (cf bZ (aO.pv (xk rfl)) (hU jV hr (gQ 0 (jC ao hV)))) (fC rfl (bJ (aU 1 nd) (bJ (aU 2 nd) fE))))) cW)
      (aJ (cw 3 nd (hU jV hr (gQ 0 (jC ao hV))))
      (aJ (dM (dC (oW hr) (ae 3) ao) (aJ (cw 1 nd (az bQ (ae 1) (cf bZ (aO.pv (dq (dJ (az i9 ao ao) (a3 ao (az kW ao (az i9 ao ao)) ao)))) (ae 3))))
      (cX (cw 2 nd (az bQ (ae 2) (cf bZ (aO.pv (dq (dJ ao (a3 (az i9 ao ao) ao (az kW ao (az i9 ao ao)))))) (ae 3)))))) cW)
      (bR (cK (a2 (ae 1) (ae 2)))))))))
theorem zqK(h:aE K mg "is_row_of" (top 40))(zmT:zgl P w K mg base):zat P w K mg base:=dH ["row","width"] h fun hr nd=>by
  unfold zg4;exact(bR (qG (bX zmT hr (a1 (ae 0))) (ur (oR (gj hr) (jB r6 B.oK Bt.len (ae 0)) (ae 1)))))
theorem zqV(h:aE K mg "round_sum" (top 55))(zaU:zaw P w K mg base):zgt P w K mg base:=dH ["by_ways","i","j","k","total","one","first","second","way","weight"] h fun hr nd=>by
  unfold zhe zlv zlh zlu zlg;exact(aJ (cw 4 nd (aO.pv (zeK (mF rfl C.kQ C.pq (fun _=>by simp[ah,Fz])) (jB r6 B.oK Bt.len (cf (uC hr) (ae 0) (cK (a2 (ae 1) (ae 2))))))))
      (aJ (ki (hW (cK (a3 (cK (a3 (ae 1) (ae 2) (ae 3))) (cK (a3 (ae 2) (ae 3) (ae 1))) (cK (a3 (ae 3) (ae 1) (ae 2)))))) (fC rfl (bJ (aU 5 nd) (bJ (aU 6 nd) (bJ (aU 7 nd) fE)))) (cX (ki (zeJ rfl B.ua (a1 (xi xI (cf (uC hr) (ae 0) (cK (a2 (ae 6) (ae 7)))) xl (xm (xj xX ao))))) (fC rfl (bJ (aU 8 nd) (bJ (aU 9 nd) fE))) (cX (cw 4 nd (aO.pv (uv zaU hr (a3 (ae 4) (ae 9) (cf (uC hr) (ae 0) (cK (a2 (ae 5) (ae 8))))))))))))
      (bR (ae 4))))
theorem zqU(h:aE K mg "refuse_rows" (top 41))(zaS:zat P w K mg base):zgs P w K mg base:=dH ["rows","width","place","row"] h fun hr nd=>by
  unfold zhd x9 xY;exact(cX (ki (zeJ rfl B.ua (a1 (ae 0))) (fC rfl (bJ (aU 2 nd) (bJ (aU 3 nd) fE))) (cX (dM (fe (fP fR (bX zaS hr (a2 (ae 3) (ae 1))))) (cX qJ) cW))))
theorem zqW(h:aE K mg "rows_by_pair" (top 52))(zmY:zgq P w K mg base)(zaS:zat P w K mg base):zgu P w K mg base:=dH ["count","leavings","held","place","leaving","i","j","row"] h fun hr nd=>by
  unfold zhf zlw zli;exact(aJ (xn 2 nd zvo)
      (aJ (ki (zeJ rfl B.ua (a1 (ae 1))) (fC rfl (bJ (aU 3 nd) (bJ (aU 4 nd) fE))) (aJ (dM (fe (fP fR (bX zmY hr (a2 (ae 4) (ae 0))))) (cX qJ) cW)
      (aJ (uw (ae 4) (fC rfl (bJ (aU 5 nd) (bJ (aU 6 nd) (bJ (aU 7 nd) fE)))))
      (aJ (dM (zvE 2 (zwi hr) (cK (a2 (ae 5) (ae 6)))) (cX qJ) cW)
      (aJ (dM (fe (fP fR (bX zaS hr (a2 (ae 7) (az bQ (ae 0) ao))))) (cX qJ) cW)
      (cX (zeL 2 (mI hr) (pv 2) (oU vB B.mw Bt.tuple (ae 7)) (cK (a2 (ae 5) (ae 6))))))))))
      (cX (zeM 2 (pv 2)))))
theorem zqq(M:Meth K dX "breaks" nY)(F:c9 K "breaks" "Table.breaks" (i6 53 2) nY zoB)(zmU:zgn P w K mg base)(zm5:zgv P w K mg base)(zm1:zgt P w K mg base)(zaR:zas P w K mg base):zf6 P w K mg base:=fnT [] ["self","by_ways","i","j","k","row"] aW M F fun hr nd=>by
  unfold zgO zlp zle;exact(aJ (cw 1 nd (aO.pv (zvm zmU hr (ztF 0 zjT))))
      (aJ (ki (hW (bX zm5 hr (a1 (kh 0 0 aW)))) (fC rfl (bJ (aU 2 nd) (bJ (aU 3 nd) (bJ (aU 4 nd) fE)))) (aJ (cw 5 nd (bX zm1 hr (dJ (ae 1) (a3 (ae 2) (ae 3) (ae 4)))))
      (cX (dM (fe (fP fR (bX zaR hr (a1 (ae 5))))) (bR (cK (dJ (ae 2) (a3 (ae 3) (ae 4) (ae 5))))) cW))))
      (bR qH)))
theorem zyp(tJ:∀ c' cV,Cs.O c'=some (dX,cV)->cV.length=2)(hm:mg "Table"=some (.ref dX))(M:Mk K dX nX)(F:c9 K "__init__" "Table.__init__" (i6 53 0) nX zoA)(zm2:zgu P w K mg base)(iq:pM P w K mg base)(zaR:zas P w K mg base)(nU:uT K mg "NoCount" "NoCount"):zap P w K mg base:=zoK ["self","count","leavings","held"] aW tJ hm M F (fun Cc hr nd=>by
  unfold zgN zku;exact(zke (dom:=[]) rfl (zuI (eE.jb (jd (fe (fP fR (bX iq hr (a1 (ae 1))))) (lh (fe (zeO (oV hr) (oV hr) ao (ae 1) (zkl (v:=(.int 6)) rfl C.wD ⟨_,rfl⟩ (fun _=>cm _))))))) (zuL zuJ) zuK)
      (zke (dom:=[3]) rfl (zuM 3 nd (aO.pv (uv zm2 hr (a2 (ae 1) (ae 2)))))
      (zuN (zj3 aW rfl (by decide) (ae 1) (zj3 aW rfl (by decide) (oU vB B.mw Bt.tuple (aO.pv (cp ["i","j"] [3] ["i","j","held"] (hW (zeI (zkk (zm3 rfl) rfl B.zdC Bt.sorted (a1 (ae 3))))) (fun nd=>(fC rfl (bJ (aU 0 nd) (bJ (aU 1 nd) fE)))) (zvH (fe (fP fR (bX zaR hr (a1 (cf (uC hr) (ae 2) (cK (a2 (ae 0) (ae 1))))))))) (cK (a3 (ae 0) (ae 1) (cf (uC hr) (ae 2) (cK (a2 (ae 0) (ae 1))))))))) zua)))))) fun hr nd=>by
  unfold zgL;exact(w9 (w8 (eE.jb (jd (fe (fP fR (bX iq hr (a1 (ae 1))))) (lh (fe (zeO (oV hr) (oV hr) ao (ae 1) (zkl (v:=(.int 6)) rfl C.wD ⟨_,rfl⟩ (fun _=>cm _))))))) (xa (zeC nU zfu (a1 cQ))) (xc cW))
      zkd)
theorem zqp(cx:zap P w K mg base):zf5 P w K mg base:=cx.good
theorem zqr(M:Meth K dX "left" nZ)(F:c9 K "left" "Table.left" (i6 53 1) nZ zoC)(zm0:zgs P w K mg base)(zmV:zgo P w K mg base)(zaU:zaw P w K mg base)(vA:zav P w K mg base):zf7 P w K mg base:=zoL [none,none] ["self","one","other","total","i","j","row","weight"] aW M F fun hr nd=>by
  unfold vk x5 xW;exact(aJ (zvs (bX zm0 hr (a2 (aO.pv (dq (a2 (ae 1) (ae 2)))) (az bQ (kh 0 0 aW) ao))))
      (aJ (xn 3 nd (zeK (mF rfl C.kQ C.pq (fun _=>by simp[ah,Fz])) (az bQ (kh 0 0 aW) ao)))
      (aJ (ki (hW (kh 0 1 aW)) (fC rfl (bJ (aU 4 nd) (bJ (aU 5 nd) (bJ (aU 6 nd) fE)))) (aJ (cw 7 nd (bX zmV hr (a2 (bX vA hr (a2 (cf bZ (ae 1) (ae 4)) (cf bZ (ae 2) (ae 5)))) (bX vA hr (a2 (cf bZ (ae 1) (ae 5)) (cf bZ (ae 2) (ae 4)))))))
      (cX (zvu 3 (xn 3 nd (uv zaU hr (a3 (ae 3) (ae 7) (ae 6))))))))
      (cX (zeM 3 (pv 3))))))
theorem zyr(h:aE K mg "loose" (top 58))(nU:uT K mg "NoCount" "NoCount")(iq:pM P w K mg base)(znv:zap P w K mg base):zf4 P w K mg base:=fnE [none,none] false ["letters","depth","count","told"] h fun hr nd=>by
  unfold zgM;exact(w9 (w8 (eE.jb (jd (fe (fP fR (bX iq hr (a1 (ae 0))))) (lh (fe (fP fR (bX iq hr (a1 (ae 1)))))))) (xa (zeC nU zfu (a1 cQ))) (xc cW))
      (w9 (w8 (dC (gj hr) (ae 1) ao) (xa (zuH znv hr ztH (a2 (ae 0) (aO.pv (dq qI))))) (xc cW))
      (w9 (w8 (zkt C.tY C.sj hr (cK (a2 (ae 0) (ae 1)))) (xa (zeC nU zfu (a1 cQ))) (xc cW))
      zkd)))
theorem zqQ(h:aE K mg "loose" (top 58))(zhu:zf5 P w K mg base)(iq:pM P w K mg base)(zm6:zgw P w K mg base):zgp P w K mg base:=fnB [none,none] ["letters","depth","count","told"] h fun hr nd=>by
  unfold zg9 zkB;exact(xf (zeF (dM (eE.jb (jd (fe (fP fR (bX iq hr (a1 (ae 0))))) (lh (fe (fP fR (bX iq hr (a1 (ae 1)))))))) (cX qJ) cW))
      (xf (zuQ (dC (gj hr) (ae 1) ao) (zkg (zkf (zkq zhu hr (a2 (ae 0) (aO.pv (dq qI)))))) (zuS cW))
      (xf (zeF (dM (zkt C.tY C.sj hr (cK (a2 (ae 0) (ae 1)))) (cX qJ) cW))
      (xf (zeF (uw (zvd C.tY C.sj hr (cK (a2 (ae 0) (ae 1)))) (fC rfl (bJ (aU 2 nd) (bJ (aU 3 nd) fE)))))
      (zkg (zkf (zkq zhu hr (a2 (ae 2) (aO.pv (cp ["i","j","way"] [2] ["i","j","way","count"] (hW (ae 3)) (fun nd=>(fC rfl (bJ (aU 0 nd) (bJ (aU 1 nd) (bJ (aU 2 nd) fE))))) fQ (cK (a3 (ae 0) (ae 1) (bX zm6 hr (a2 (ae 2) (az bQ (ae 3) ao)))))))))))))))
theorem zqs(h:aE K mg "_law_asked" (top 76))(zmX:zgp P w K mg base)  (zca:kl K fF)(qm:mg "SwapError"=some (.ref fF))(zcO:∀ c B ns,Cs.X c=some (B,ns)->A5 K (.ref B) (.ref fF)=some true)(znw:zf4 P w K mg base):zf8 P w K mg base:=fnQ ["_law_letters","_law_depth","_law_error","_law_table","caught"] h fun hr nd=>by
  unfold zgP;exact(zeD (cw 2 nd qH)
      (zeD (cw 3 nd qH)
      (zeD (zvB 4 2 nd zca qm zcO (zuU 3 nd (zvN (n:=2) zmX znw hr (a2 (ae 0) (ae 1)))))
      (zuP (pv 3) (pv 2)))))
theorem zqC(h:aE K mg "_law_right" (top 79))(zmM:zgc P w K mg base)(zmI:zf8 P w K mg base)(zmG:zf6 P w K mg base)(zhv:zge P w K mg base)(zmH:zf7 P w K mg base)(zmK:zga P w K mg base)(zmL:zgb P w K mg base)(zmQ:zgi P w K mg base):zgh P w K mg base:=sN [true,false,false] ["_law_purse_here","_law_letters","_law_depth","_law_due_here","_law_table","_law_error","_law_leavings","_law_row","_law_turn"] h fun hr nd=>by
  unfold zaA x6 qX xo uB zeT;exact(aJ (cw 3 nd (bX zmM hr (a2 (ae 1) (ae 2))))
      (aJ (zvC 4 5 nd zmI hr (a2 (ae 1) (ae 2)))
      (aJ (dM (dC zs4 (ae 3) qH) (bR (oR (gj hr) (zu5 5 zmL hr) cQ)) cW)
      (aJ (zkr 6 (cpS 6 ["_law_i","_law_j","_law_way"] [3] ["_law_i","_law_j","_law_way","_law_due_here"] nd (hW (cf bZ (ae 3) ao)) (fun nd=>(fC rfl (bJ (aU 0 nd) (bJ (aU 1 nd) (bJ (aU 2 nd) fE))))) fQ (cK (a3 (ae 0) (ae 1) (oU vB B.mw Bt.tuple (bX zmQ hr (a2 (az bQ (cf bZ (ae 3) ao) ao) (ae 2))))))))
      (aJ (dM (eE.jb (jd (zvG 5) (jd (dC (oX hr) (kh 4 0 aW) (cf bZ (ae 3) ao)) (lh (dC (oX hr) (kh 4 1 aW) (oU vB B.mw Bt.tuple (ae 6))))))) (bR mE) cW)
      (aJ (dM (dC zs9 (zvf 4 zmG hr) qH) (bR mE) cW)
      (aJ (zkr 7 (cpS 7 ["_law_place"] [0] ["_law_place","_law_purse_here"] nd (kZ rfl B.iH (a1 (az bQ (cf bZ (ae 3) ao) ao))) (fun nd=>(aU 0 nd)) fQ (hU zhv hr (gQ 1 hV))))
      (aJ (ki (kZ rfl B.iH (a1 (ae 2))) (aU 8 nd) (cX (cw 7 nd (aO.pv (zvq 4 zmH hr (zjU (aO.pv (cp ["_law_place"] [0] ["_law_place","_law_purse_here"] (kZ rfl B.iH (a1 (az bQ (cf bZ (ae 3) ao) ao))) (fun nd=>(aU 0 nd)) fQ (hU zhv hr (gQ 1 hV)))) (zjU (ae 7) zjT)))))))
      (bR (oR (gj hr) (ae 7) (bX zmK hr (a1 (az bQ (cf bZ (ae 3) ao) ao)))))))))))))
set_option maxHeartbeats 0 in
theorem zqN{fd:yL}(h:c9 K "law" "law" (top 80) fa fd)(zmO:zgg P w K mg base)(zmJ:zf9 P w K mg base)(zhw:zgf P w K mg base)(zmP:zgh P w K mg base):b6 P w K mg base (aZ P w) 11 fa fd ["_law_script"] (iP K 1 false rq):=by
  have S:d9 ["_law_script","_law_cell","_law_purse_here","_law_pairs","_law_letters","_law_depth"] ["_law_script"] (aH (top 80)):=⟨rfl,rfl,rfl,by decide +kernel,rfl,by decide +kernel,by decide +kernel⟩;refine b6.pure (zin (yq 1 false) false h S rfl (by decide) fun aq A outer s H E hr=>?_);have nd:=S.nd;refine qK ?_;unfold vo x8 uP zfD qY;exact(aJ (ki (hW (az bQ (xi xI (ae 0) xl (xm ao)) (aO.pv (dq (a1 (bX zmJ hr (a2 (ae 0) ao))))))) (aU 1 nd) (aJ (xn 2 nd (uv zmO hr (a2 (ae 1) ao)))
      (aJ (cw 3 nd (aO.pv (dq (a2 (hU zhw hr (gQ 2 hV)) (hU zhw hr (gQ 2 hV))))))
      (cX (ki (hW (az bQ (ae 3) (xi xI (ae 3) xl (xm ao)))) (fC rfl (bJ (aU 4 nd) (bJ (aU 5 nd) fE))) (cX (dM (fe (fP fR (hU zmP hr (gQ 2 (jC (ae 4) (jC (ae 5) hV)))))) (bR mE) cW)))))))
      (bR mE))
end
end
variable {zd6 zd7 zd8 zd9 zea zeb zec zed zee zef zeg zeh zei zej zek zel zem zen:Option dm}{bA bB bC bD bE bF bL bM bN bS bT bU bu bw bx bz:dm}{zdI zdJ zdK zdL zdM zdN zdO zdP zdQ zdR zdS zdT zdU zdV zdW zdX zdY zdZ zoo:Nat}{ze6 ze7 ze8 ze9 zfa zfb zfc zfd zfe zff zfg zfh zfi zfj zfk zfl zfm zfn zw0 zw1 zwZ:Array (Option gV)}{l:Fq}{zta ztb ztc:gV}{zc0 zc4 zcY:yP}{h:yo}{YP:yv->yo->Prop}{d:DefRec}{q:yw}{loose:List ir}
section
theorem all_mk{K:yf}(X:K.In h)(G:h.Ns yB mg)(hfa:mg "law"=some (.ref fa))
     
     {zc8 zdk:yP}
     {zc9 zdl:yP}
   {ziB ziC ziD:Int}
      {zcV zda:yP}
      {zcZ zdd zdm:yP}
     
      
      {zcW zdb:yP}
      {zc1 zde zdn:yP}
      {zc2 zdf zdo:yP}
      {zc3 zdg zdp:yP}
     
      
      {zcX zdc:yP}
      {zc5 zdh zdq:yP}
      {zc6 zdi zdr:yP}
      {zc7 zdj zds:yP}
     
      
    {ztf zms:Option dm} {zqn zn6 zus zhI zns:gV} 
    {zte zmr:Option dm} {zqm zn5 zur zhH znr:gV} 
    {ztd zmq:Option dm} {zql zn4 zuq zhG znq:gV} 
  
  (zl2:aE K mg "is_whole" (top 32))
  (zlV:aE K mg "common_divisor" (top 33))
  (zme:aE K mg "unit_row" (top 42))
  (zlY:aE K mg "is_of_noughts" (top 43))
  (zlW:aE K mg "contrary" (top 44))
  (zl7:aE K mg "pairs_of" (top 49))
  (zlO:aE K mg "_law_mixed" (top 60))
  (zlJ:aE K mg "_law_at" (top 63))
  (zlN:aE K mg "_law_low" (top 64))
  (zlU:aE K mg "_law_unit" (top 72))
  (zlK:aE K mg "_law_blank" (top 73))
  (zlL:aE K mg "_law_class" (top 75))
  (zlM:aE K mg "_law_due" (top 77))
  (zlX:aE K mg "is_number" (top 34))
  (zl8:aE K mg "plus" (top 35))
  (zmc:aE K mg "times" (top 37))
  (zl1:aE K mg "is_way" (top 48))
  (zmd:aE K mg "triples_of" (top 50))
  (zl4:aE K mg "left_by_ways" (top 54))
  (zlR:aE K mg "_law_purse" (top 61))
  (zlT:aE K mg "_law_take" (top 62))
  (zl5:aE K mg "less" (top 36))
  (zlZ:aE K mg "is_row" (top 39))
  (zmf:aE K mg "with_times" (top 45))
  (zl6:aE K mg "names_two_ways" (top 51))
  (zlP:aE K mg "_law_number" (top 68))
  (zlQ:aE K mg "_law_pair" (top 78))
  (zl0:aE K mg "is_row_of" (top 40))
  (zma:aE K mg "round_sum" (top 55))
  (zl9:aE K mg "refuse_rows" (top 41))
  (zmb:aE K mg "rows_by_pair" (top 52))
  (zf0:aE K mg "loose" (top 58))
  (zlI:aE K mg "_law_asked" (top 76))
  (zlS:aE K mg "_law_right" (top 79))
  (zl3:aE K mg "law" (top 80))
  (wD:yF K yB "MOST_WAYS"=some (some (.int 6 qU)))
  (kQ:yF K yB "NOUGHT"=some (some (.ref bG)))
  (zrY:K.lookup bG=some ⟨.type "tuple",zem,.seq #[.int 0 zc8,.int 1 zdk] zdY,zfm⟩)
  (zdx:yF K yB "ONE"=some (some (.ref bH)))
  (zrZ:K.lookup bH=some ⟨.type "tuple",zen,.seq #[.int 1 zc9,.int 1 zdl] zdZ,zfn⟩)
  (tY:yF K yB "LOOSE"=some (some (.ref jS)))
  (zrH:K.lookup jS=some ⟨.type "dict",none,.dict #[⟨ziB,.ref bS,.ref bL⟩,⟨ziC,.ref bT,.ref bM⟩,⟨ziD,.ref bU,.ref bN⟩] zoo,#[]⟩)
  (zwU:(jS==AW)=false)
  (zpv:∀(P:yw) (w:yv),(AX (gf P w)).hash [.inl 2,.inl 2]=ziB)
  (zpw:∀(P:yw) (w:yv),(AX (gf P w)).hash [.inl 2,.inl 3]=ziC)
  (zpx:∀(P:yw) (w:yv),(AX (gf P w)).hash [.inl 3,.inl 2]=ziD)
  (zrT:K.lookup bN=some ⟨.type "tuple",zeh,.seq #[.int 6 zc4,.ref bC] zdT,zfh⟩)
  (zrU:K.lookup bC=some ⟨.type "tuple",zei,.seq #[.ref bD,.ref bE,.ref bF] zdU,zfi⟩)
  (zrX:K.lookup bF=some ⟨.type "tuple",zel,.seq #[.int 1 zc7,.int 2 zdj,.int 5 zds] zdX,zfl⟩)
  (zrW:K.lookup bE=some ⟨.type "tuple",zek,.seq #[.int 0 zc6,.int 2 zdi,.int 4 zdr] zdW,zfk⟩)
  (zrV:K.lookup bD=some ⟨.type "tuple",zej,.seq #[.int 0 zc5,.int 1 zdh,.int 3 zdq] zdV,zfj⟩)
  (zrK:K.lookup bU=some ⟨.type "tuple",zd8,.seq #[.int 3 zcX,.int 2 zdc] zdK,ze8⟩)
  (zrO:K.lookup bM=some ⟨.type "tuple",zec,.seq #[.int 5 zc0,.ref bx] zdO,zfc⟩)
  (zrP:K.lookup bx=some ⟨.type "tuple",zed,.seq #[.ref bz,.ref bA,.ref bB] zdP,zfd⟩)
  (zrS:K.lookup bB=some ⟨.type "tuple",zeg,.seq #[.int 1 zc3,.int 2 zdg,.int 4 zdp] zdS,zfg⟩)
  (zrR:K.lookup bA=some ⟨.type "tuple",zef,.seq #[.int 0 zc2,.int 2 zdf,.int 3 zdo] zdR,zff⟩)
  (zrQ:K.lookup bz=some ⟨.type "tuple",zee,.seq #[.int 0 zc1,.int 1 zde,.int 2 zdn] zdQ,zfe⟩)
  (zrJ:K.lookup bT=some ⟨.type "tuple",zd7,.seq #[.int 2 zcW,.int 3 zdb] zdJ,ze7⟩)
  (zrL:K.lookup bL=some ⟨.type "tuple",zd9,.seq #[.int 3 zcY,.ref bu] zdL,ze9⟩)
  (zrM:K.lookup bu=some ⟨.type "tuple",zea,.seq #[.ref bw] zdM,zfa⟩)
  (zrN:K.lookup bw=some ⟨.type "tuple",zeb,.seq #[.int 0 zcZ,.int 1 zdd,.int 2 zdm] zdN,zfb⟩)
  (zrI:K.lookup bS=some ⟨.type "tuple",zd6,.seq #[.int 2 zcV,.int 2 zda] zdI,ze6⟩)
  (t9:yF K yB "abs"=some none)
  (cA:yF K yB "isinstance"=some none)
  (ub:yF K yB "int"=some none)
  (zdB:yF K yB "bool"=some none)
  (mw:yF K yB "tuple"=some none)
  (uc:yF K yB "list"=some none)
  (zjF:yF K yB "str"=some none)
  (oK:yF K yB "len"=some none)
  (wJ:yF K yB "all"=some none)
  (iH:yF K yB "range"=some none)
  (zdE:yF K yB "zip"=some none)
  (ua:yF K yB "enumerate"=some none)
  (zjD:yF K yB "max"=some none)
  (zjE:yF K yB "min"=some none)
  (zdD:yF K yB "sum"=some none)
  (zdC:yF K yB "sorted"=some none)
  (zjC:yF K yB "dict"=some none)
  (zjB:yF K yB "any"=some none)
  (zp9:yF K yB "Table"=some (some (.ref dX)))
  (zqa:C1 K dX Str.empty=true)
  (zqb:Dw K dX=true)
  (zqc:EA K dX=true)
  (zqd:zE K (.ref dX) "__setattr__"=some (some (.builtin "object.__setattr__")))
  (zq8:zE K (.ref dX) "count"=some none)
  (zq9:zE K (.ref dX) "leavings"=some none)
  (zqe:EC K dX=true)
  (zqf:zE K (.ref dX) "__init__"=some (some (.ref nX)))
  (zqg:Cp K (.ref nX)=true)
  (zqh:AJ K (.ref dX)=true)
  (ziX:K.lookup nX=some ⟨zta,ztd,.func (zD "__init__" "Table.__init__" (eY (i6 53 0)) (bW (i6 53 0)) (aH (i6 53 0)) .none zql zn4 zuq zmq zhG znq),zwZ⟩)
  (zp7:Bf K zhG "Table.__init__"=true)
  (zp8:AJ K (.ref nX)=true)
  (zsn:zE K (.ref dX) "left"=some (some (.ref nZ)))
  (zsp:Cp K (.ref nZ)=true)
  (zjs:AJ K (.ref nZ)=true)
  (zju:K.lookup nZ=some ⟨ztc,ztf,.func (zD "left" "Table.left" (eY (i6 53 1)) (bW (i6 53 1)) (aH (i6 53 1)) .none zqn zn6 zus zms zhI zns),zw1⟩)
  (zsr:Bf K zhI "Table.left"=true)
  (zsm:zE K (.ref dX) "breaks"=some (some (.ref nY)))
  (zso:Cp K (.ref nY)=true)
  (zjr:AJ K (.ref nY)=true)
  (zjt:K.lookup nY=some ⟨ztb,zte,.func (zD "breaks" "Table.breaks" (eY (i6 53 2)) (bW (i6 53 2)) (aH (i6 53 2)) .none zqm zn5 zur zmr zhH znr),zw0⟩)
  (zsq:Bf K zhH "Table.breaks"=true)
  (zvO:yF K yB "Broken"=some (some (.ref mJ)))
  (zvP:yF K yB "NoCount"=some (some (.ref aL)))
  (zvQ:yF K yB "NoDeed"=some (some (.ref mK)))
  (zvR:yF K yB "NoLeast"=some (some (.ref mL)))
  (zvS:yF K yB "NoLine"=some (some (.ref mM)))
  (zvT:yF K yB "NoMatch"=some (some (.ref mO)))
  (zvU:yF K yB "NoName"=some (some (.ref mP)))
  (zvV:yF K yB "NoNumber"=some (some (.ref mQ)))
  (zvW:yF K yB "NoPair"=some (some (.ref mR)))
  (zvX:yF K yB "NoPlace"=some (some (.ref mS)))
  (zvY:yF K yB "NoRow"=some (some (.ref mU)))
  (zvZ:yF K yB "NoShelf"=some (some (.ref mV)))
  (zv0:yF K yB "NoSquare"=some (some (.ref mW)))
  (zv1:yF K yB "NoSum"=some (some (.ref mX)))
  (zv2:yF K yB "NoText"=some (some (.ref mY)))
  (zv3:yF K yB "NoTree"=some (some (.ref mZ)))
  (zv4:yF K yB "NoWord"=some (some (.ref m6)))
  (zv5:yF K yB "NotActing"=some (some (.ref m7)))
  (zv6:yF K yB "NotBare"=some (some (.ref m8)))
  (zv7:yF K yB "NotEaten"=some (some (.ref m9)))
  (zv8:yF K yB "NotFree"=some (some (.ref nc)))
  (zv9:yF K yB "NotGap"=some (some (.ref nh)))
  (zwa:yF K yB "NotKept"=some (some (.ref ni)))
  (zwb:yF K yB "NotNought"=some (some (.ref nj)))
  (zwc:yF K yB "NotOne"=some (some (.ref nq)))
  (zwe:yF K yB "TooDeep"=some (some (.ref nu)))
  (zwf:yF K yB "TooLong"=some (some (.ref nv)))
  (zwd:yF K yB "SwapError"=some (some (.ref fF)))
  (zwg:yF K yB "ValueError"=some none)
  (zoi:zE K (.ref aL) "__getattribute__"=some (some (.builtin "BaseException.__getattribute__")))
  (zoj:zE K (.ref aL) "__getattr__"=some none)
  (zok:zE K (.ref aL) "__class__"=some (some (.builtin "object.__class__")))
  (zic:A5 K (.ref aL) (.type "BaseException")=some true)
  (zol:DU K aL (.type "object")=some true)
  (zoh:Ap K aL jU "Exception.__new__"=true\/Ap K aL jU "ValueError.__new__"=true)
  (zra:yR K (.ref aL) (.ref mJ)=some false)
  (zrb:yR K (.ref aL) (.ref aL)=some true)
  (zrc:yR K (.ref aL) (.ref mK)=some false)
  (zrd:yR K (.ref aL) (.ref mL)=some false)
  (zre:yR K (.ref aL) (.ref mM)=some false)
  (zrf:yR K (.ref aL) (.ref mO)=some false)
  (zrg:yR K (.ref aL) (.ref mP)=some false)
  (zrh:yR K (.ref aL) (.ref mQ)=some false)
  (zri:yR K (.ref aL) (.ref mR)=some false)
  (zrj:yR K (.ref aL) (.ref mS)=some false)
  (zrk:yR K (.ref aL) (.ref mU)=some false)
  (zrl:yR K (.ref aL) (.ref mV)=some false)
  (zrm:yR K (.ref aL) (.ref mW)=some false)
  (zrn:yR K (.ref aL) (.ref mX)=some false)
  (zro:yR K (.ref aL) (.ref mY)=some false)
  (zrp:yR K (.ref aL) (.ref mZ)=some false)
  (zrq:yR K (.ref aL) (.ref m6)=some false)
  (zrr:yR K (.ref aL) (.ref m7)=some false)
  (zrs:yR K (.ref aL) (.ref m8)=some false)
  (zrt:yR K (.ref aL) (.ref m9)=some false)
  (zru:yR K (.ref aL) (.ref nc)=some false)
  (zrv:yR K (.ref aL) (.ref nh)=some false)
  (zrw:yR K (.ref aL) (.ref ni)=some false)
  (zrx:yR K (.ref aL) (.ref nj)=some false)
  (zry:yR K (.ref aL) (.ref nq)=some false)
  (zrA:yR K (.ref aL) (.ref nu)=some false)
  (zrB:yR K (.ref aL) (.ref nv)=some false)
  (zrz:yR K (.ref aL) (.ref fF)=some true)
  (zrC:yR K (.ref aL) (.type "ValueError")=some true)
  (zxb:A5 K (.ref aL) (.ref fF)=some true)
  (zm7:C2 K (.ref fF)=some (.type "type"))
  (zyE:Ap K fF jU "Exception.__new__"=true\/Ap K fF jU "ValueError.__new__"=true)
  (zhD:A5 K (.ref fF) (.type "BaseException")=some true) :
  ∃(cl:CL) (ob xb:String->Option (dm×List ir)) (fd:yL),cG cl K/\(∀(s:kb) (v:gV),Ct s fd ⟨[v],[]⟩ [("_law_script",v)])/\∀ base:yo,(aC (cl.map (·.1)) K).In base->base.Ns yB mg->b6 l.prog w (aC (cl.map (·.1)) K) mg base (aZ l.prog w) 11 fa fd ["_law_script"] (@iP (pV cl ob xb) (aC (cl.map (·.1)) K) 1 false rq):=by
 obtain⟨f,fd,hm,Fl⟩:=id zl3;have e:=hfa.symm.trans hm;cases e;obtain⟨oc,od,kV,dc,pm,an,cd,ct,sl,rfl,lk,gy⟩:=id Fl.ex;have hC:cG [(bG,⟨.type "tuple",zem,.seq #[.int 0 zc8,.int 1 zdk] zdY,zfm⟩,[.int 0,.int 1]),(bH,⟨.type "tuple",zen,.seq #[.int 1 zc9,.int 1 zdl] zdZ,zfn⟩,[.int 1,.int 1]),(bS,⟨.type "tuple",zd6,.seq #[.int 2 zcV,.int 2 zda] zdI,ze6⟩,[.int 2,.int 2]),(bw,⟨.type "tuple",zeb,.seq #[.int 0 zcZ,.int 1 zdd,.int 2 zdm] zdN,zfb⟩,[.int 0,.int 1,.int 2]),(bu,⟨.type "tuple",zea,.seq #[.ref bw] zdM,zfa⟩,[.ref bw]),(bL,⟨.type "tuple",zd9,.seq #[.int 3 zcY,.ref bu] zdL,ze9⟩,[.int 3,.ref bu]),(bT,⟨.type "tuple",zd7,.seq #[.int 2 zcW,.int 3 zdb] zdJ,ze7⟩,[.int 2,.int 3]),(bz,⟨.type "tuple",zee,.seq #[.int 0 zc1,.int 1 zde,.int 2 zdn] zdQ,zfe⟩,[.int 0,.int 1,.int 2]),(bA,⟨.type "tuple",zef,.seq #[.int 0 zc2,.int 2 zdf,.int 3 zdo] zdR,zff⟩,[.int 0,.int 2,.int 3]),(bB,⟨.type "tuple",zeg,.seq #[.int 1 zc3,.int 2 zdg,.int 4 zdp] zdS,zfg⟩,[.int 1,.int 2,.int 4]),(bx,⟨.type "tuple",zed,.seq #[.ref bz,.ref bA,.ref bB] zdP,zfd⟩,[.ref bz,.ref bA,.ref bB]),(bM,⟨.type "tuple",zec,.seq #[.int 5 zc0,.ref bx] zdO,zfc⟩,[.int 5,.ref bx]),(bU,⟨.type "tuple",zd8,.seq #[.int 3 zcX,.int 2 zdc] zdK,ze8⟩,[.int 3,.int 2]),(bD,⟨.type "tuple",zej,.seq #[.int 0 zc5,.int 1 zdh,.int 3 zdq] zdV,zfj⟩,[.int 0,.int 1,.int 3]),(bE,⟨.type "tuple",zek,.seq #[.int 0 zc6,.int 2 zdi,.int 4 zdr] zdW,zfk⟩,[.int 0,.int 2,.int 4]),(bF,⟨.type "tuple",zel,.seq #[.int 1 zc7,.int 2 zdj,.int 5 zds] zdX,zfl⟩,[.int 1,.int 2,.int 5]),(bC,⟨.type "tuple",zei,.seq #[.ref bD,.ref bE,.ref bF] zdU,zfi⟩,[.ref bD,.ref bE,.ref bF]),(bN,⟨.type "tuple",zeh,.seq #[.int 6 zc4,.ref bC] zdT,zfh⟩,[.int 6,.ref bC])] K:=(cG.cons zrY (.cons ⟨_,rfl⟩ (.cons ⟨_,rfl⟩ (.nil))) (by decide) (cG.cons zrZ (.cons ⟨_,rfl⟩ (.cons ⟨_,rfl⟩ (.nil))) (by decide) (cG.cons zrI (.cons ⟨_,rfl⟩ (.cons ⟨_,rfl⟩ (.nil))) (Ad rfl) (cG.cons zrN (.cons ⟨_,rfl⟩ (.cons ⟨_,rfl⟩ (.cons ⟨_,rfl⟩ (.nil)))) (Ad rfl) (cG.cons zrM (.cons rfl (.nil)) (Ad rfl) (cG.cons zrL (.cons ⟨_,rfl⟩ (.cons rfl (.nil))) (Ad rfl) (cG.cons zrJ (.cons ⟨_,rfl⟩ (.cons ⟨_,rfl⟩ (.nil))) (Ad rfl) (cG.cons zrQ (.cons ⟨_,rfl⟩ (.cons ⟨_,rfl⟩ (.cons ⟨_,rfl⟩ (.nil)))) (Ad rfl) (cG.cons zrR (.cons ⟨_,rfl⟩ (.cons ⟨_,rfl⟩ (.cons ⟨_,rfl⟩ (.nil)))) (Ad rfl) (cG.cons zrS (.cons ⟨_,rfl⟩ (.cons ⟨_,rfl⟩ (.cons ⟨_,rfl⟩ (.nil)))) (Ad rfl) (cG.cons zrP (.cons rfl (.cons rfl (.cons rfl (.nil)))) (Ad rfl) (cG.cons zrO (.cons ⟨_,rfl⟩ (.cons rfl (.nil))) (Ad rfl) (cG.cons zrK (.cons ⟨_,rfl⟩ (.cons ⟨_,rfl⟩ (.nil))) (Ad rfl) (cG.cons zrV (.cons ⟨_,rfl⟩ (.cons ⟨_,rfl⟩ (.cons ⟨_,rfl⟩ (.nil)))) (Ad rfl) (cG.cons zrW (.cons ⟨_,rfl⟩ (.cons ⟨_,rfl⟩ (.cons ⟨_,rfl⟩ (.nil)))) (Ad rfl) (cG.cons zrX (.cons ⟨_,rfl⟩ (.cons ⟨_,rfl⟩ (.cons ⟨_,rfl⟩ (.nil)))) (Ad rfl) (cG.cons zrU (.cons rfl (.cons rfl (.cons rfl (.nil)))) (Ad rfl) (cG.cons zrT (.cons ⟨_,rfl⟩ (.cons rfl (.nil))) (Ad rfl) cG.nil))))))))))))))))));refine⟨_,(fun c=>if c="Table" then some (dX,["count","leavings"]) else none),(fun c=>if c="NoCount" then some (aL,[]) else none),zD "law" "law" (eY (top 80)) (bW (top 80)) (aH (top 80)) .none kV dc pm an cd ct,hC,fun s v=>.of_eq rfl,fun base _ _=>?_⟩
 have B:Blt mg:=⟨zO X G t9,zO X G cA,zO X G ub,zO X G zdB,zO X G mw,zO X G uc,zO X G zjF,zO X G oK,zO X G wJ,zO X G iH,zO X G zdE,zO X G ua,zO X G zjD,zO X G zjE,zO X G zdD,zO X G zdC,zO X G zjC,zO X G zjB⟩
 letI:Cs:=pV [(bG,⟨.type "tuple",zem,.seq #[.int 0 zc8,.int 1 zdk] zdY,zfm⟩,[.int 0,.int 1]),(bH,⟨.type "tuple",zen,.seq #[.int 1 zc9,.int 1 zdl] zdZ,zfn⟩,[.int 1,.int 1]),(bS,⟨.type "tuple",zd6,.seq #[.int 2 zcV,.int 2 zda] zdI,ze6⟩,[.int 2,.int 2]),(bw,⟨.type "tuple",zeb,.seq #[.int 0 zcZ,.int 1 zdd,.int 2 zdm] zdN,zfb⟩,[.int 0,.int 1,.int 2]),(bu,⟨.type "tuple",zea,.seq #[.ref bw] zdM,zfa⟩,[.ref bw]),(bL,⟨.type "tuple",zd9,.seq #[.int 3 zcY,.ref bu] zdL,ze9⟩,[.int 3,.ref bu]),(bT,⟨.type "tuple",zd7,.seq #[.int 2 zcW,.int 3 zdb] zdJ,ze7⟩,[.int 2,.int 3]),(bz,⟨.type "tuple",zee,.seq #[.int 0 zc1,.int 1 zde,.int 2 zdn] zdQ,zfe⟩,[.int 0,.int 1,.int 2]),(bA,⟨.type "tuple",zef,.seq #[.int 0 zc2,.int 2 zdf,.int 3 zdo] zdR,zff⟩,[.int 0,.int 2,.int 3]),(bB,⟨.type "tuple",zeg,.seq #[.int 1 zc3,.int 2 zdg,.int 4 zdp] zdS,zfg⟩,[.int 1,.int 2,.int 4]),(bx,⟨.type "tuple",zed,.seq #[.ref bz,.ref bA,.ref bB] zdP,zfd⟩,[.ref bz,.ref bA,.ref bB]),(bM,⟨.type "tuple",zec,.seq #[.int 5 zc0,.ref bx] zdO,zfc⟩,[.int 5,.ref bx]),(bU,⟨.type "tuple",zd8,.seq #[.int 3 zcX,.int 2 zdc] zdK,ze8⟩,[.int 3,.int 2]),(bD,⟨.type "tuple",zej,.seq #[.int 0 zc5,.int 1 zdh,.int 3 zdq] zdV,zfj⟩,[.int 0,.int 1,.int 3]),(bE,⟨.type "tuple",zek,.seq #[.int 0 zc6,.int 2 zdi,.int 4 zdr] zdW,zfk⟩,[.int 0,.int 2,.int 4]),(bF,⟨.type "tuple",zel,.seq #[.int 1 zc7,.int 2 zdj,.int 5 zds] zdX,zfl⟩,[.int 1,.int 2,.int 5]),(bC,⟨.type "tuple",zei,.seq #[.ref bD,.ref bE,.ref bF] zdU,zfi⟩,[.ref bD,.ref bE,.ref bF]),(bN,⟨.type "tuple",zeh,.seq #[.int 6 zc4,.ref bC] zdT,zfh⟩,[.int 6,.ref bC])] (fun c=>if c="Table" then some (dX,["count","leavings"]) else none) (fun c=>if c="NoCount" then some (aL,[]) else none)
 have aW:Ob (aC (([bG,bH,bS,bw,bu,bL,bT,bz,bA,bB,bx,bM,bU,bD,bE,bF,bC,bN]:List dm)) K) "Table" dX ["count","leavings"]:=⟨if_pos rfl,fG.cut hC.aK ⟨zqa,zqb,zqc,zqd⟩,fun f hf=>ik.cut hC.aK (by
  simp only[yH,zS,or_false]at hf;rcases hf with rfl|rfl
  ·exact zq8
  ·exact zq9
  ),by decide +kernel⟩
 have zxA:∃ o,Cs.C bS=some (.frz o (.tup [.int 2,.int 2])):=fN (ob:=fun _=>none) hC (yk _ (yk _ (zW _)));have zxF:∃ o,Cs.C bw=some (.frz o (.tup [.int 0,.int 1,.int 2])):=fN (ob:=fun _=>none) hC (yk _ (yk _ (yk _ (zW _))));have zxE:∃ o,Cs.C bu=some (.frz o (.tup [.ref bw])):=fN (ob:=fun _=>none) hC (yk _ (yk _ (yk _ (yk _ (zW _)))));have zxD:∃ o,Cs.C bL=some (.frz o (.tup [.int 3,.ref bu])):=fN (ob:=fun _=>none) hC (yk _ (yk _ (yk _ (yk _ (yk _ (zW _))))));have zxB:∃ o,Cs.C bT=some (.frz o (.tup [.int 2,.int 3])):=fN (ob:=fun _=>none) hC (yk _ (yk _ (yk _ (yk _ (yk _ (yk _ (zW _)))))));have zxI:∃ o,Cs.C bz=some (.frz o (.tup [.int 0,.int 1,.int 2])):=fN (ob:=fun _=>none) hC (yk _ (yk _ (yk _ (yk _ (yk _ (yk _ (yk _ (zW _))))))));have zxJ:∃ o,Cs.C bA=some (.frz o (.tup [.int 0,.int 2,.int 3])):=fN (ob:=fun _=>none) hC (yk _ (yk _ (yk _ (yk _ (yk _ (yk _ (yk _ (yk _ (zW _)))))))));have zxK:∃ o,Cs.C bB=some (.frz o (.tup [.int 1,.int 2,.int 4])):=fN (ob:=fun _=>none) hC (yk _ (yk _ (yk _ (yk _ (yk _ (yk _ (yk _ (yk _ (yk _ (zW _))))))))));have zxH:∃ o,Cs.C bx=some (.frz o (.tup [.ref bz,.ref bA,.ref bB])):=fN (ob:=fun _=>none) hC (yk _ (yk _ (yk _ (yk _ (yk _ (yk _ (yk _ (yk _ (yk _ (yk _ (zW _)))))))))));have zxG:∃ o,Cs.C bM=some (.frz o (.tup [.int 5,.ref bx])):=fN (ob:=fun _=>none) hC (yk _ (yk _ (yk _ (yk _ (yk _ (yk _ (yk _ (yk _ (yk _ (yk _ (yk _ (zW _))))))))))));have zxC:∃ o,Cs.C bU=some (.frz o (.tup [.int 3,.int 2])):=fN (ob:=fun _=>none) hC (yk _ (yk _ (yk _ (yk _ (yk _ (yk _ (yk _ (yk _ (yk _ (yk _ (yk _ (yk _ (zW _)))))))))))));have zxN:∃ o,Cs.C bD=some (.frz o (.tup [.int 0,.int 1,.int 3])):=fN (ob:=fun _=>none) hC (yk _ (yk _ (yk _ (yk _ (yk _ (yk _ (yk _ (yk _ (yk _ (yk _ (yk _ (yk _ (yk _ (zW _))))))))))))));have zxO:∃ o,Cs.C bE=some (.frz o (.tup [.int 0,.int 2,.int 4])):=fN (ob:=fun _=>none) hC (yk _ (yk _ (yk _ (yk _ (yk _ (yk _ (yk _ (yk _ (yk _ (yk _ (yk _ (yk _ (yk _ (yk _ (zW _)))))))))))))));have zxP:∃ o,Cs.C bF=some (.frz o (.tup [.int 1,.int 2,.int 5])):=fN (ob:=fun _=>none) hC (yk _ (yk _ (yk _ (yk _ (yk _ (yk _ (yk _ (yk _ (yk _ (yk _ (yk _ (yk _ (yk _ (yk _ (yk _ (zW _))))))))))))))));have zxM:∃ o,Cs.C bC=some (.frz o (.tup [.ref bD,.ref bE,.ref bF])):=fN (ob:=fun _=>none) hC (yk _ (yk _ (yk _ (yk _ (yk _ (yk _ (yk _ (yk _ (yk _ (yk _ (yk _ (yk _ (yk _ (yk _ (yk _ (yk _ (zW _)))))))))))))))));have zxL:∃ o,Cs.C bN=some (.frz o (.tup [.int 6,.ref bC])):=fN (ob:=fun _=>none) hC (yk _ (yk _ (yk _ (yk _ (yk _ (yk _ (yk _ (yk _ (yk _ (yk _ (yk _ (yk _ (yk _ (yk _ (yk _ (yk _ (yk _ (zW _))))))))))))))))));have sj:nA (aC (([bG,bH,bS,bw,bu,bL,bT,bz,bA,bB,bx,bM,bU,bD,bE,bF,bC,bN]:List dm)) K) jS rH:=⟨zwU,fun P w=>⟨[([.inl 2,.inl 2],bS,.ref bL),([.inl 2,.inl 3],bT,.ref bM),([.inl 3,.inl 2],bU,.ref bN)],[([.inl 2,.inl 2],.ref bL),([.inl 2,.inl 3],.ref bM),([.inl 3,.inl 2],.ref bN)],_,_,_,gv hC.aK zrH (fun _ _ z=>nomatch z),⟨rfl,rfl,rfl⟩,rfl,by rw[<- zpv P w,<- zpw P w,<- zpx P w];rfl,by show([[.inl 2,.inl 2],[.inl 2,.inl 3],[.inl 3,.inl 2]]:List (List Key)).Nodup;decide,fun H c=>⟨(.cons ⟨rfl,gA zxA c,rfl⟩ (.cons ⟨rfl,gA zxB c,rfl⟩ (.cons ⟨rfl,gA zxC c,rfl⟩ .nil))),(zbR (q:=[.inl 2,.inl 2]) (fY (gA zxD c) (cF (cm _) (cF (fY (gA zxE c) (cF (fY (gA zxF c) (cF (cm _) (cF (cm _) (cF (cm _) iw)))) iw)) iw))) (zbR (q:=[.inl 2,.inl 3]) (fY (gA zxG c) (cF (cm _) (cF (fY (gA zxH c) (cF (fY (gA zxI c) (cF (cm _) (cF (cm _) (cF (cm _) iw)))) (cF (fY (gA zxJ c) (cF (cm _) (cF (cm _) (cF (cm _) iw)))) (cF (fY (gA zxK c) (cF (cm _) (cF (cm _) (cF (cm _) iw)))) iw)))) iw))) (zbR (q:=[.inl 3,.inl 2]) (fY (gA zxL c) (cF (cm _) (cF (fY (gA zxM c) (cF (fY (gA zxN c) (cF (cm _) (cF (cm _) (cF (cm _) iw)))) (cF (fY (gA zxO c) (cF (cm _) (cF (cm _) (cF (cm _) iw)))) (cF (fY (gA zxP c) (cF (cm _) (cF (cm _) (cF (cm _) iw)))) iw)))) iw))) zoY)))⟩⟩⟩
 have C:Cst (aC (([bG,bH,bS,bw,bu,bL,bT,bz,bA,bB,bx,bM,bU,bD,bE,bF,bC,bN]:List dm)) K) mg qU bG bH jS:=⟨yV X G wD,yV X G kQ,fN (ob:=fun _=>none) hC (zW _),yV X G zdx,fN (ob:=fun _=>none) hC (yk _ (zW _)),yV X G tY,sj⟩;have zcj:=yV X G zvO;have wg:=yV X G zvP;have zck:=yV X G zvQ;have zcl:=yV X G zvR;have zcm:=yV X G zvS;have zcn:=yV X G zvT;have zco:=yV X G zvU;have zcp:=yV X G zvV;have zcq:=yV X G zvW;have zcr:=yV X G zvX;have zcs:=yV X G zvY;have zct:=yV X G zvZ;have zcu:=yV X G zv0;have zcv:=yV X G zv1;have zcw:=yV X G zv2;have zcx:=yV X G zv3;have zcy:=yV X G zv4;have zcz:=yV X G zv5;have zcA:=yV X G zv6;have zcB:=yV X G zv7;have zcC:=yV X G zv8;have zcD:=yV X G zv9;have zcE:=yV X G zwa;have zcF:=yV X G zwb;have zcG:=yV X G zwc;have zcH:=yV X G zwe;have zcI:=yV X G zwf;have qm:=yV X G zwd;have zcJ:=zO X G zwg;have du:iU (aC (([bG,bH,bS,bw,bu,bL,bT,bz,bA,bB,bx,bM,bU,bD,bE,bF,bC,bN]:List dm)) K) aL:=iU.cut hC.aK ⟨zoi,zoj,zok,zic,zol,zhO zic⟩;have nU:uT (aC (([bG,bH,bS,bw,bu,bL,bT,bz,bA,bB,bx,bM,bU,bD,bE,bF,bC,bN]:List dm)) K) mg "NoCount" "NoCount":=⟨aL,wg,rfl,rfl,zoh.imp (zij hC.aK) (zij hC.aK)⟩;have zca:kl (aC (([bG,bH,bS,bw,bu,bL,bT,bz,bA,bB,bx,bM,bU,bD,bE,bF,bC,bN]:List dm)) K) fF:=kl.cut hC.aK ⟨zm7,zhO zhD,zhD⟩;have zcO:∀ c B ns,Cs.X c=some (B,ns)->A5 (aC (([bG,bH,bS,bw,bu,bL,bT,bz,bA,bB,bx,bM,bU,bD,bE,bF,bC,bN]:List dm)) K) (.ref B) (.ref fF)=some true:=fun c B ns e=>by
  have e:((fun c=>if c="NoCount" then some (aL,[]) else none):String->Option (dm×List ir)) c=some (B,ns):=e;simp only at e
  split at e
  ·cases e
   exact qP hC.aK zxb
  cases e
 have zbc:∀ p∈([("NoCount",false)]:List (String×Bool)),aV (aC (([bG,bH,bS,bw,bu,bL,bT,bz,bA,bB,bx,bM,bU,bD,bE,bF,bC,bN]:List dm)) K) (.ref mJ) p.1 p.2:=di ⟨rfl,aL,_,rfl,du,dj hC.aK zra⟩ (dh);have zbd:∀ p∈([("NoCount",true)]:List (String×Bool)),aV (aC (([bG,bH,bS,bw,bu,bL,bT,bz,bA,bB,bx,bM,bU,bD,bE,bF,bC,bN]:List dm)) K) (.ref aL) p.1 p.2:=di ⟨rfl,aL,_,rfl,du,dj hC.aK zrb⟩ (dh);have zbe:∀ p∈([("NoCount",false)]:List (String×Bool)),aV (aC (([bG,bH,bS,bw,bu,bL,bT,bz,bA,bB,bx,bM,bU,bD,bE,bF,bC,bN]:List dm)) K) (.ref mK) p.1 p.2:=di ⟨rfl,aL,_,rfl,du,dj hC.aK zrc⟩ (dh);have zbf:∀ p∈([("NoCount",false)]:List (String×Bool)),aV (aC (([bG,bH,bS,bw,bu,bL,bT,bz,bA,bB,bx,bM,bU,bD,bE,bF,bC,bN]:List dm)) K) (.ref mL) p.1 p.2:=di ⟨rfl,aL,_,rfl,du,dj hC.aK zrd⟩ (dh);have zbg:∀ p∈([("NoCount",false)]:List (String×Bool)),aV (aC (([bG,bH,bS,bw,bu,bL,bT,bz,bA,bB,bx,bM,bU,bD,bE,bF,bC,bN]:List dm)) K) (.ref mM) p.1 p.2:=di ⟨rfl,aL,_,rfl,du,dj hC.aK zre⟩ (dh);have zbh:∀ p∈([("NoCount",false)]:List (String×Bool)),aV (aC (([bG,bH,bS,bw,bu,bL,bT,bz,bA,bB,bx,bM,bU,bD,bE,bF,bC,bN]:List dm)) K) (.ref mO) p.1 p.2:=di ⟨rfl,aL,_,rfl,du,dj hC.aK zrf⟩ (dh);have zbi:∀ p∈([("NoCount",false)]:List (String×Bool)),aV (aC (([bG,bH,bS,bw,bu,bL,bT,bz,bA,bB,bx,bM,bU,bD,bE,bF,bC,bN]:List dm)) K) (.ref mP) p.1 p.2:=di ⟨rfl,aL,_,rfl,du,dj hC.aK zrg⟩ (dh);have zbj:∀ p∈([("NoCount",false)]:List (String×Bool)),aV (aC (([bG,bH,bS,bw,bu,bL,bT,bz,bA,bB,bx,bM,bU,bD,bE,bF,bC,bN]:List dm)) K) (.ref mQ) p.1 p.2:=di ⟨rfl,aL,_,rfl,du,dj hC.aK zrh⟩ (dh);have zbk:∀ p∈([("NoCount",false)]:List (String×Bool)),aV (aC (([bG,bH,bS,bw,bu,bL,bT,bz,bA,bB,bx,bM,bU,bD,bE,bF,bC,bN]:List dm)) K) (.ref mR) p.1 p.2:=di ⟨rfl,aL,_,rfl,du,dj hC.aK zri⟩ (dh);have zbl:∀ p∈([("NoCount",false)]:List (String×Bool)),aV (aC (([bG,bH,bS,bw,bu,bL,bT,bz,bA,bB,bx,bM,bU,bD,bE,bF,bC,bN]:List dm)) K) (.ref mS) p.1 p.2:=di ⟨rfl,aL,_,rfl,du,dj hC.aK zrj⟩ (dh);have zbm:∀ p∈([("NoCount",false)]:List (String×Bool)),aV (aC (([bG,bH,bS,bw,bu,bL,bT,bz,bA,bB,bx,bM,bU,bD,bE,bF,bC,bN]:List dm)) K) (.ref mU) p.1 p.2:=di ⟨rfl,aL,_,rfl,du,dj hC.aK zrk⟩ (dh);have zbn:∀ p∈([("NoCount",false)]:List (String×Bool)),aV (aC (([bG,bH,bS,bw,bu,bL,bT,bz,bA,bB,bx,bM,bU,bD,bE,bF,bC,bN]:List dm)) K) (.ref mV) p.1 p.2:=di ⟨rfl,aL,_,rfl,du,dj hC.aK zrl⟩ (dh);have zbo:∀ p∈([("NoCount",false)]:List (String×Bool)),aV (aC (([bG,bH,bS,bw,bu,bL,bT,bz,bA,bB,bx,bM,bU,bD,bE,bF,bC,bN]:List dm)) K) (.ref mW) p.1 p.2:=di ⟨rfl,aL,_,rfl,du,dj hC.aK zrm⟩ (dh);have zbp:∀ p∈([("NoCount",false)]:List (String×Bool)),aV (aC (([bG,bH,bS,bw,bu,bL,bT,bz,bA,bB,bx,bM,bU,bD,bE,bF,bC,bN]:List dm)) K) (.ref mX) p.1 p.2:=di ⟨rfl,aL,_,rfl,du,dj hC.aK zrn⟩ (dh);have zbq:∀ p∈([("NoCount",false)]:List (String×Bool)),aV (aC (([bG,bH,bS,bw,bu,bL,bT,bz,bA,bB,bx,bM,bU,bD,bE,bF,bC,bN]:List dm)) K) (.ref mY) p.1 p.2:=di ⟨rfl,aL,_,rfl,du,dj hC.aK zro⟩ (dh);have zbr:∀ p∈([("NoCount",false)]:List (String×Bool)),aV (aC (([bG,bH,bS,bw,bu,bL,bT,bz,bA,bB,bx,bM,bU,bD,bE,bF,bC,bN]:List dm)) K) (.ref mZ) p.1 p.2:=di ⟨rfl,aL,_,rfl,du,dj hC.aK zrp⟩ (dh)
 have zbs:∀ p∈([("NoCount",false)]:List (String×Bool)),aV (aC (([bG,bH,bS,bw,bu,bL,bT,bz,bA,bB,bx,bM,bU,bD,bE,bF,bC,bN]:List dm)) K) (.ref m6) p.1 p.2:=di ⟨rfl,aL,_,rfl,du,dj hC.aK zrq⟩ (dh);have zbt:∀ p∈([("NoCount",false)]:List (String×Bool)),aV (aC (([bG,bH,bS,bw,bu,bL,bT,bz,bA,bB,bx,bM,bU,bD,bE,bF,bC,bN]:List dm)) K) (.ref m7) p.1 p.2:=di ⟨rfl,aL,_,rfl,du,dj hC.aK zrr⟩ (dh);have zbu:∀ p∈([("NoCount",false)]:List (String×Bool)),aV (aC (([bG,bH,bS,bw,bu,bL,bT,bz,bA,bB,bx,bM,bU,bD,bE,bF,bC,bN]:List dm)) K) (.ref m8) p.1 p.2:=di ⟨rfl,aL,_,rfl,du,dj hC.aK zrs⟩ (dh);have zbv:∀ p∈([("NoCount",false)]:List (String×Bool)),aV (aC (([bG,bH,bS,bw,bu,bL,bT,bz,bA,bB,bx,bM,bU,bD,bE,bF,bC,bN]:List dm)) K) (.ref m9) p.1 p.2:=di ⟨rfl,aL,_,rfl,du,dj hC.aK zrt⟩ (dh);have zbw:∀ p∈([("NoCount",false)]:List (String×Bool)),aV (aC (([bG,bH,bS,bw,bu,bL,bT,bz,bA,bB,bx,bM,bU,bD,bE,bF,bC,bN]:List dm)) K) (.ref nc) p.1 p.2:=di ⟨rfl,aL,_,rfl,du,dj hC.aK zru⟩ (dh);have zbx:∀ p∈([("NoCount",false)]:List (String×Bool)),aV (aC (([bG,bH,bS,bw,bu,bL,bT,bz,bA,bB,bx,bM,bU,bD,bE,bF,bC,bN]:List dm)) K) (.ref nh) p.1 p.2:=di ⟨rfl,aL,_,rfl,du,dj hC.aK zrv⟩ (dh);have zby:∀ p∈([("NoCount",false)]:List (String×Bool)),aV (aC (([bG,bH,bS,bw,bu,bL,bT,bz,bA,bB,bx,bM,bU,bD,bE,bF,bC,bN]:List dm)) K) (.ref ni) p.1 p.2:=di ⟨rfl,aL,_,rfl,du,dj hC.aK zrw⟩ (dh);have zbz:∀ p∈([("NoCount",false)]:List (String×Bool)),aV (aC (([bG,bH,bS,bw,bu,bL,bT,bz,bA,bB,bx,bM,bU,bD,bE,bF,bC,bN]:List dm)) K) (.ref nj) p.1 p.2:=di ⟨rfl,aL,_,rfl,du,dj hC.aK zrx⟩ (dh);have zbA:∀ p∈([("NoCount",false)]:List (String×Bool)),aV (aC (([bG,bH,bS,bw,bu,bL,bT,bz,bA,bB,bx,bM,bU,bD,bE,bF,bC,bN]:List dm)) K) (.ref nq) p.1 p.2:=di ⟨rfl,aL,_,rfl,du,dj hC.aK zry⟩ (dh);have zbC:∀ p∈([("NoCount",false)]:List (String×Bool)),aV (aC (([bG,bH,bS,bw,bu,bL,bT,bz,bA,bB,bx,bM,bU,bD,bE,bF,bC,bN]:List dm)) K) (.ref nu) p.1 p.2:=di ⟨rfl,aL,_,rfl,du,dj hC.aK zrA⟩ (dh);have zbD:∀ p∈([("NoCount",false)]:List (String×Bool)),aV (aC (([bG,bH,bS,bw,bu,bL,bT,bz,bA,bB,bx,bM,bU,bD,bE,bF,bC,bN]:List dm)) K) (.ref nv) p.1 p.2:=di ⟨rfl,aL,_,rfl,du,dj hC.aK zrB⟩ (dh);have zbB:∀ p∈([("NoCount",true)]:List (String×Bool)),aV (aC (([bG,bH,bS,bw,bu,bL,bT,bz,bA,bB,bx,bM,bU,bD,bE,bF,bC,bN]:List dm)) K) (.ref fF) p.1 p.2:=di ⟨rfl,aL,_,rfl,du,dj hC.aK zrz⟩ (dh);have zbE:∀ p∈([("NoCount",true)]:List (String×Bool)),aV (aC (([bG,bH,bS,bw,bu,bL,bT,bz,bA,bB,bx,bM,bU,bD,bE,bF,bC,bN]:List dm)) K) (.ty "ValueError") p.1 p.2:=di ⟨rfl,aL,_,rfl,du,dj hC.aK zrC⟩ (dh);have sr:=zqM (P:=l.prog) (w:=w) (base:=base) B C aW (zl2.cut hC.aK);have za3:=zqF (P:=l.prog) (w:=w) (base:=base) B C aW (zlV.cut hC.aK);have zn3:=zqZ (P:=l.prog) (w:=w) (base:=base) B C aW (zme.cut hC.aK);have zhX:=zqI (P:=l.prog) (w:=w) (base:=base) B C aW (zlY.cut hC.aK);have znL:=zqG (P:=l.prog) (w:=w) (base:=base) B C aW (zlW.cut hC.aK);have znX:=zqS (P:=l.prog) (w:=w) (base:=base) B C aW (zl7.cut hC.aK);have zhV:=zqy (P:=l.prog) (w:=w) (base:=base) B C aW (zlO.cut hC.aK);have znB:=zqt (P:=l.prog) (w:=w) (base:=base) B C aW (zlJ.cut hC.aK)
 have znF:=zqx (P:=l.prog) (w:=w) (base:=base) B C aW (zlN.cut hC.aK);have znK:=zqE (P:=l.prog) (w:=w) (base:=base) B C aW (zlU.cut hC.aK);have znC:=zqu (P:=l.prog) (w:=w) (base:=base) B C aW (zlK.cut hC.aK);have znD:=zqv (P:=l.prog) (w:=w) (base:=base) B C aW (zlL.cut hC.aK) zcj zbc wg zbd zck zbe zcl zbf zcm zbg zcn zbh zco zbi zcp zbj zcq zbk zcr zbl zcs zbm zct zbn zcu zbo zcv zbp zcw zbq zcx zbr zcy zbs zcz zbt zcA zbu zcB zbv zcC zbw zcD zbx zcE zby zcF zbz zcG zbA zcH zbC zcI zbD qm zbB zcJ zbE;have znE:=zqw (P:=l.prog) (w:=w) (base:=base) B C aW (zlM.cut hC.aK);have znP:=zqH (P:=l.prog) (w:=w) (base:=base) B C aW (zlX.cut hC.aK) za3 sr;have zhZ:=zqT (P:=l.prog) (w:=w) (base:=base) B C aW (zl8.cut hC.aK) za3;have zh0:=zqX (P:=l.prog) (w:=w) (base:=base) B C aW (zmc.cut hC.aK) za3;have znR:=zqL (P:=l.prog) (w:=w) (base:=base) B C aW (zl1.cut hC.aK) sr;have zn2:=zqY (P:=l.prog) (w:=w) (base:=base) B C aW (zmd.cut hC.aK) znX;have znT:=zqO (P:=l.prog) (w:=w) (base:=base) B C aW (zl4.cut hC.aK) znL;have znI:=zqB (P:=l.prog) (w:=w) (base:=base) B C aW (zlR.cut hC.aK) zhV;have zhW:=zqD (P:=l.prog) (w:=w) (base:=base) B C aW (zlT.cut hC.aK) zhV;have znU:=zqP (P:=l.prog) (w:=w) (base:=base) B C aW (zl5.cut hC.aK) zhZ;have znQ:=zqJ (P:=l.prog) (w:=w) (base:=base) B C aW (zlZ.cut hC.aK) znP;have zh1:=zq0 (P:=l.prog) (w:=w) (base:=base) B C aW (zmf.cut hC.aK) zhZ zh0;have znW:=zqR (P:=l.prog) (w:=w) (base:=base) B C aW (zl6.cut hC.aK) znR;have znG:=zqz (P:=l.prog) (w:=w) (base:=base) B C aW (zlP.cut hC.aK) zhW znF;have znH:=zqA (P:=l.prog) (w:=w) (base:=base) B C aW (zlQ.cut hC.aK) zhW;have zhY:=zqK (P:=l.prog) (w:=w) (base:=base) B C aW (zl0.cut hC.aK) znQ;have znZ:=zqV (P:=l.prog) (w:=w) (base:=base) B C aW (zma.cut hC.aK) zh1;have znY:=zqU (P:=l.prog) (w:=w) (base:=base) B C aW (zl9.cut hC.aK) zhY;have zn0:=zqW (P:=l.prog) (w:=w) (base:=base) B C aW (zmb.cut hC.aK) znW zhY;have zny:=zqq (P:=l.prog) (w:=w) (base:=base) B C aW (Meth.cut hC.aK zjt ⟨zsm,zso,zjr⟩) (c9.cut hC.aK (vV zjt zsq zjr)) znT zn2 znZ zhX;have zib:=zyp (P:=l.prog) (w:=w) (base:=base) B C aW (fun c ns e=>by
  have e:((fun c=>if c="Table" then some (dX,["count","leavings"]) else none):String->Option (dm×List ir)) c=some (dX,ns):=e;simp only at e
  split at e <;> cases e
  rfl) (yV X G zp9) (Mk.cut hC.aK ziX ⟨zqe,zqf,zqg,zqh⟩) (c9.cut hC.aK (vV ziX zp7 zp8)) zn0 sr zhX nU
 have znx:=zqp (P:=l.prog) (w:=w) (base:=base) B C aW zib;have znz:=zqr (P:=l.prog) (w:=w) (base:=base) B C aW (Meth.cut hC.aK zju ⟨zsn,zsp,zjs⟩) (c9.cut hC.aK (vV zju zsr zjs)) znY znU zh1 zh0;have zog:=zyr (P:=l.prog) (w:=w) (base:=base) B C aW (zf0.cut hC.aK) nU sr zib;have znV:=zqQ (P:=l.prog) (w:=w) (base:=base) B C aW (zf0.cut hC.aK) znx sr zn3;have znA:=zqs (P:=l.prog) (w:=w) (base:=base) B C aW (zlI.cut hC.aK) znV zca qm zcO zog;have znJ:=zqC (P:=l.prog) (w:=w) (base:=base) B C aW (zlS.cut hC.aK) znE znA zny znG znz znC znD znK;have znS:=zqN (P:=l.prog) (w:=w) (base:=base) B C aW (c9.cut hC.aK Fl) znI znB znH znJ;exact znS
theorem walk{XP:(ir->Option gV)->yo->Prop}{K:Params->yf}(zch:∀ ns:List Int,ns.length<=63->rq [.list (ns.map zi)]=.ok (.bool true))(hn:l.most=some 63)(sY:d.params.defaults=[])(hi:importsNone q=true)(tH:l.prog.given.tree=none)
  (hY:∀(w:yv) (h:yo),YP w h->(K w.params).In h)
  (F:∀(w:yv) (mg:ir->Option gV) (fa:dm) (h:yo),(K w.params).In h->h.Ns yB mg->mg d.name=some (.ref fa) ->
   ∃(cl:CL) (ob xb:String->Option (dm×List ir)) (fd:yL),cG cl (K w.params)/\(∀(s:kb) (u:gV),Ct s fd ⟨[u],[]⟩ [("_law_script",u)])/\∀ base:yo,(aC (cl.map (·.1)) (K w.params)).In base->base.Ns yB mg->b6 l.prog w (aC (cl.map (·.1)) (K w.params)) mg base (aZ l.prog w) 11 fa fd ["_law_script"] (@iP (pV cl ob xb) (aC (cl.map (·.1)) (K w.params)) 1 false rq)) :
  PySem.W.WalkO q loose XP YP l.row.toRowW d [] (fun f vs=>EX f vs) :=
 zyi (k:=11) (x:="_law_script") zch hn sY hi tH ⟨rfl,by decide,by decide,rfl⟩ hY F
end
end K13
namespace FL
open PySem
variable {i m n:Nat}{y:D×En}{j:Int}{α:Type}{a b d:D}{ρ:En}{f:EF}{x:Sl}
section
theorem zmE(ns:List Bool):boolsOf (ns.map AQ)=some ns:=by
 induction ns with
 | nil=>rfl
 | cons n ns ih=>simp[boolsOf,ih]
theorem zmn(bs:List Bool):pO (.list (bs.map AQ))=.ok (.bool (bs.all id)):=by
 show((R.of (boolsOf _)).bind _)=_;rw[zmE];rfl
theorem znt(xs:List α)(p:Nat):cut xs none (some (p:Int))=xs.take p:=by
 unfold cut aR;simp only;rw[if_neg (by omega),List.drop_zero,Nat.sub_zero]
 by_cases h:p<=xs.length
 ·rw[show min (p:Int).toNat xs.length=p by omega]
 ·rw[show min (p:Int).toNat xs.length=xs.length by omega,List.take_length,EY (by omega)]
theorem zeX(lo hi:Int):eM lo hi=((z9 (hi-lo).toNat).map fun(i:Nat)=>lo+(i:Int)).map zi:=by
 unfold eM;rw[CO];rfl
def Pl(n:Nat)(d:D):Prop:=Dj d=true/\d.depth<=n
theorem Pl.shaped(h:Pl n d)(hn:n<=64:=by decide):Ao d=true:=by
 unfold Ao;rw[h.1,decide_eq_true (zA h.2 hn)];rfl
theorem qB(i:Int):Pl 0 (.int i):=⟨rfl,yA _⟩
theorem zex{n:Nat}:∀{ds:List D},(∀ d∈ds,Pl n d)->D3 ds=true/\PyData.depthAll ds<=n
 | [],_=>⟨rfl,zJ _⟩
 | d::ds,h=>by
  obtain⟨a,b⟩:=zex fun x m=>h x (yY d m);obtain⟨c,e⟩:=h d (zm ..);refine⟨by simp only[D3];rw[c,a];rfl,?_⟩;simp only[PyData.depthAll]
  omega
theorem zka{ds:List D}(h:∀ d∈ds,Pl n d):Pl (n+1) (.tuple ds):=by
 obtain⟨a,b⟩:=zex h;exact⟨a,by simp only[PyData.depth];omega⟩
theorem zuk{ds:List D}(h:∀ d∈ds,Pl n d):Pl (n+1) (.list ds):=by
 obtain⟨a,b⟩:=zex h;exact⟨a,by simp only[PyData.depth];omega⟩
theorem zii{α:Type}[DecidableEq α](f:α->D)(h:∀ a b,A4 (f a) (f b)=decide (a=b)):∀ xs ys:List α,Dr (xs.map f) (ys.map f)=decide (xs=ys)
 | [],[]=>rfl
 | [],y::ys=>by simp[Dr]
 | x::xs,[]=>by simp[Dr]
 | x::xs,y::ys=>by
  simp only[zh,Dr];rw[h,zii f h xs ys]
  by_cases e1:x=y <;> by_cases e2:xs=ys <;> simp[e1,e2]
theorem zbK(a b:Int):A4 (.int a) (.int b)=decide (a=b):=by
 show(a==b)=_;rw[Bool.beq_eq_decide_eq]
abbrev tp(w:List Int):D:=.tuple (w.map zi)
theorem zj9(w:List Int):Pl 1 (tp w):=zka fun d m=>by
 obtain⟨i,_,rfl⟩:=As.mp m;exact qB i
theorem zou(a b:List Int):A4 (tp a) (tp b)=decide (a=b):=by
 show Dr _ _=_;exact zii _ zbK a b
theorem zbI(ha:Pl n a)(hb:Pl m b)(hn:n<=64:=by decide)(hm:m<=64:=by decide):cy a b=.ok (.bool (A4 a b)):=by
 unfold cy;rw[ha.shaped hn,hb.shaped hm];rfl
theorem zsK(ha:Pl n a)(hb:Pl m b)(hn:n<=64:=by decide)(hm:m<=64:=by decide):eL a b=.ok (.bool (!A4 a b)):=by
 unfold eL;rw[ha.shaped hn,hb.shaped hm];rfl
theorem zos(a b:List Int):cy (tp a) (tp b)=.ok (.bool (decide (a=b))):=by rw[zbI (zj9 a) (zj9 b),zou]
theorem vS(a b:Int):cy (.int a) (.int b)=.ok (.bool (decide (a=b))):=by rw[zbI (qB a) (qB b),zbK]
theorem zdF(a b:Int):eL (.int a) (.int b)=.ok (.bool (!decide (a=b))):=by rw[zsK (qB a) (qB b),zbK]
theorem zyJ(i j:Int):gtD (.int i) (.int j)=.ok (.bool (decide (j<i))):=rfl
theorem zdw(i j:Int):ft (.int i) (.int j)=.ok (.bool (decide (i<j))):=rfl
theorem zyO(i j:Int):j8 (.int i) (.int j)=.ok (.bool (decide (i<=j))):=rfl
theorem zyI(i j:Int):oh (.int i) (.int j)=.ok (.bool (decide (j<=i))):=rfl
theorem zeU(h:0<=j)(h2:j<=1000000):xu [.int j]=.ok (eM 0 j):=by
 show aY _ _=_;refine eI ?_;unfold lq lim;simp only[zf,leB_iff]
 omega
theorem zhr{m:List (Nat×Sl)}(h:∀ i p d,m.lookup i≠some (.ow p d)):∀(ρ:En) (n:Nat),cN m n ρ=ρ
 | [],_=>rfl
 | x::r,n=>by
  unfold cN;rw[zhr h r (n+1)]
  congr 1
  unfold df
  split
  ·rename_i p d q e h1 h2
   exact absurd h2 (h _ _ _)
  ·rfl
theorem zbN{α:Type}{f:α->D}{g:GF}{b:SF}(P:List α->En->Prop):∀(xs:List α) (done:List α) (ρ:En),P done ρ ->
  (∀ pre x post ρ,done++xs=pre++x::post->P pre ρ->∃ ρ' fl,(g (f x) ρ).bind b=.ok (fl,ρ')/\(fl=.nx\/fl=.ct)/\P (pre++[x]) ρ')->∃ ρ',forL g b (xs.map f) ρ=.ok (.nx,ρ')/\P (done++xs) ρ'
 | [],done,ρ,h,_=>⟨ρ,rfl,by simpa using h⟩
 | x::xs,done,ρ,h,hx=>by
  obtain⟨ρ1,fl,e,hf,h1⟩:=hx done x xs ρ rfl h;obtain⟨ρ2,e2,h2⟩:=zbN P xs (done++[x]) ρ1 h1 fun pre y post ρ e=>hx pre y post ρ (by simpa using e);refine⟨ρ2,?_,by simpa using h2⟩;show((g (f x) ρ).bind fun ρ1=>(b ρ1).bind fun y=>match y.1 with
    | .nx | .ct=>forL g b (xs.map f) y.2
    | .bk=>.ok (.nx,y.2)
    | .rt d=>.ok (.rt d,y.2)
    | .rf d=>.ok (.rf d,y.2))=_
  cases e1:g (f x) ρ with
  | ok ρ3 =>
   rw[e1]at e;rw[aA]at e ⊢;rw[e,aA];rcases hf with rfl|rfl
   ·exact e2
   ·exact e2
  | bad=>rw[e1]at e;cases e
  | err c fs=>rw[e1]at e;cases e
def Np(x:Sl):Prop:=∀ e,x≠.ow true e
theorem fc:Np .no:=fun _ z=>nomatch z
theorem eT(d:D):Np (.val d):=fun _ z=>nomatch z
theorem zsV(d:D):Np (.ow false d):=fun _ z=>nomatch z
theorem lO(h:ρ[i]?=some x)(n:Np x):gN i d ρ=.ok (ρ.set i (.val d)):=by
 unfold gN;rw[h];cases x with
 | no=>rfl
 | val c=>rfl
 | ob c ds=>rfl
 | ow p c=>cases p with
  | true=>exact absurd rfl (n c)
  | false=>rfl
theorem zkO(hf:f ρ=.ok y)(h:y.2[i]?=some x)(n:Np x):eN i f ρ=.ok (.nx,y.2.set i (.ow false y.1)):=by
 unfold eN;rw[hf,aA,h];cases x with
 | no=>rfl
 | val c=>rfl
 | ob c ds=>rfl
 | ow p c=>cases p with
  | true=>exact absurd rfl (n c)
  | false=>rfl
theorem lu(hf:f ρ=.ok y)(h:y.2[i]?=some x)(n:Np x):aF (gN i) f ρ=.ok (.nx,y.2.set i (.val y.1)):=by
 unfold aF;rw[hf,aA,lO h n];rfl
theorem zaH{m:List (Nat×Sl)}(h:m.lookup i=none):df m i x=x:=by
 unfold df;rw[h];cases x <;> rfl
theorem cL{s t:SF}{ρ1:En}(h:s ρ=.ok (.nx,ρ1)):ak s t ρ=t ρ1:=by
 unfold ak;rw[h];rfl
end
variable {i:Int}{k l:Nat}
section
def zg7:SF:=(ak (aF (gN 2) (e2 aG (e2 aG (e2 bV (e2 aG (e2 fA (eV 0) (e2 aG (e2 dA (eC (.int 10)) (eC (.int 18))) (eC (.int 9)))) (e2 bV (eC (.int 7)) (eV 1))) (eC (.int 739108512309184756019283746561))) (e2 bV (eC (.int 7919)) (eV 1))) (eC (.int 1))))
  (ak (aF (gN 2) (e2 fA (e2 bV (eV 2) (eV 2)) (e2 aG (e2 dA (eC (.int 10)) (eC (.int 60))) (eC (.int 7)))))
  (aD (e2 fA (e2 bV (e2 aG (eV 2) (eC (.int 40503))) (e2 aG (eV 2) (eC (.int 57)))) (e2 aG (e2 dA (eC (.int 10)) (eC (.int 60))) (eC (.int 7)))))))
def uX:List D->R D:=bh false 2 3 zg7
def zaB:SF:=(ak (aP (tB (e2 ft (eV 1) (e1 hJ (eV 0)))) (aD (e2 aw (eV 0) (eV 1))) aT)
  (aD (e2 aG (e2 bV (eC (.int 3)) (eV 1)) (eC (.int 1)))))
def zaj:List D->R D:=bh false 2 2 zaB
def zaC:SF:=(ak (aP (tB (e2 oh (eV 0) (e2 dA (eC (.int 10)) (eC (.int 18))))) (jg (bf (aa (e2 dN (eV 0) (e2 dA (eC (.int 10)) (eC (.int 18)))) (aa (eC (.int 0)) (aa (eV 1) af))))) aT)
  (jg (bf (aa (av uX (aa (eV 0) (aa (eV 1) af))) (aa (eC (.int 0)) (aa (e2 aG (e2 fA (eV 0) (e2 aG (e2 dA (eC (.int 10)) (eC (.int 18))) (eC (.int 9)))) (eV 1)) af))))))
def uY:List D->R D:=bh true 2 2 zaC
def zaD:SF:=(ak (aP (tB (e2 ft (m2 aw 0 (eC (.int 0))) (eV 1))) (ak (setM 0 (e2 aG (m2 aw 0 (eC (.int 1))) (eC (.int 1))) (eC (.int 1)))
  (setM 0 (e2 aG (m2 aw 0 (eC (.int 0))) (e2 bV (eV 1) (av uX (aa (m2 aw 0 (eC (.int 2))) (aa (e2 aG (e2 bV (eC (.int 11)) (m2 aw 0 (eC (.int 1)))) (eC (.int 5))) af))))) (eC (.int 0)))) aT)
  (ak (aF (gN 2) (e2 fA (m2 aw 0 (eC (.int 0))) (eV 1)))
  (ak (setM 0 (e2 bK (m2 aw 0 (eC (.int 0))) (eV 1)) (eC (.int 0)))
  (aD (eV 2)))))
def lF:List D->R (D×List D):=run [true,false] false 3 zaD
structure Bd(i:Int)(n:Nat):Prop where
 h:i.natAbs<2^n
theorem Bd.mono(h:Bd i n)(l:n<=m):Bd i m:=⟨zu h.h (Fg (by decide) l)⟩
theorem Bd.add(h:Bd i n)(k:Bd j m):Bd (i+j) (max n m+1):=by
 constructor
 have a:=(h.mono (Nat.le_max_left n m)).h;have b:=(k.mono (Nat.le_max_right n m)).h;have c:=Int.natAbs_add_le i j;rw[Nat.pow_succ]
 omega
theorem Bd.mul(h:Bd i n)(k:Bd j m):Bd (i*j) (n+m):=by
 constructor
 rw[B8,Nat.pow_add];have a:=h.h;have b:=k.h;exact Nat.mul_lt_mul'' a b
theorem Bd.mod(h:Bd j n)(p:0<j):Bd (i.fmod j) n:=by
 constructor
 have a:=h.h;have b:=Ej i p;have c:=FA i p
 omega
theorem mulOk_of(h:Bd i n)(k:Bd j m)(l:n+m<=100000000):t7 i j=true:=by
 unfold t7;refine tQ ?_;have lg:∀{i:Int} {n:Nat},Bd i n->i.natAbs.log2<=n:=by
  intro i n h
  by_cases z:i.natAbs=0
  ·rw[z];exact zJ _
  ·exact BK ((Nat.log2_lt z).mpr h.h)
 have a:=lg h;have b:=lg k
 omega
theorem iG(h:Bd i n)(k:Bd j m)(l:n+m<=100000000):bV (.int i) (.int j)=.ok (.int (i*j)):=by
 show aY _ _=_;exact eI (mulOk_of h k l)
theorem t6(p:0<j):fA (.int i) (.int j)=.ok (.int (i.fmod j)):=by
 show aY _ _=_;exact eI (by simp;omega)
theorem zoE(p:0<j)(h:Bd j n)(l:n<=8000):bK (.int i) (.int j)=.ok (.int (i.fdiv j)):=by
 show aY _ _=_;exact eI (by simp;omega)
noncomputable def mC:Int:=1000000000000000000
noncomputable def oP:Int:=1000000000000000009
noncomputable def p60:Int:=1000000000000000000000000000000000000000000000000000000000000
noncomputable def oQ:Int:=1000000000000000000000000000000000000000000000000000000000007
noncomputable def pm:Int:=739108512309184756019283746561
theorem zeR:dA (.int 10) (.int 18)=.ok (.int mC):=rfl
theorem zvI:dA (.int 10) (.int 60)=.ok (.int p60):=rfl
theorem zgD:mC+9=oP:=rfl
theorem zmk:p60+7=oQ:=rfl
theorem zeo:0<oP:=by decide
theorem ui:0<oQ:=by decide
theorem b18:Bd oP 60:=⟨by decide⟩
theorem b60:Bd oQ 200:=⟨by decide⟩
theorem bm:Bd pm 100:=⟨by decide⟩
theorem fW(h:i.natAbs<65536):Bd i 16:=⟨h⟩
def oJ(c k:Int):Int:=(c.fmod oP+7*k)*pm+7919*k+1
def mn(c k:Int):Int:=(oJ c k*oJ c k).fmod oQ
def mj(c k:Int):Int:=((mn c k+40503)*(mn c k+57)).fmod oQ
theorem zjy(c k:Int):0<=mj c k:=Ej _ ui
theorem zsz(c k:Int):Bd (mj c k) 200:=b60.mod ui
theorem zjz(c k:Int)(hk:Bd k n)(hn:n<=1000):uX [.int c,.int k]=.ok (.int (mj c k)):=by
 have a1:=t6 (i:=c) zeo;have a2:Bd (c.fmod oP) 60:=b18.mod zeo;have a3:=iG (i:=7) (fW (by decide)) hk (by omega);have a4:=(fW (i:=7) (by decide)).mul hk;have a5:=a2.add a4;have a6:=iG a5 bm (by omega);have a7:=iG (i:=7919) (fW (by decide)) hk (by omega);have a8:=((a5.mul bm).add ((fW (i:=7919) (by decide)).mul hk)).add (fW (i:=1) (by decide));have a9:=iG a8 a8 (by omega);have b1:=t6 (i:=oJ c k*oJ c k) ui;have b2:Bd (mn c k) 200:=b60.mod ui;have b3:=iG (b2.add (fW (i:=40503) (by decide))) (b2.add (fW (i:=57) (by decide))) (by decide);have b4:=t6 (i:=(mn c k+40503)*(mn c k+57)) ui;have hm:(zi 739108512309184756019283746561)=.int pm:=rfl;have f1:(c.fmod oP+7*k)*pm+7919*k+1=oJ c k:=rfl;have f2:(oJ c k*oJ c k).fmod oQ=mn c k:=rfl;have f3:((mn c k+40503)*(mn c k+57)).fmod oQ=mj c k:=rfl;rw[f1]at a9;simp only[uX,bh,FL.run,yK,zx,zX,yq,zg7,ak,aF,FL.e2,eV,slots,zy,if_false,BG,zN,zQ,zz0,eC,aA,zeR,aG,zgD,a1,zz1,a3,hm,a6,a7,f1,gN,zU,zT,zvI,zmk,aD,a9,b1,f2,b3,b4,f3,outs,outD,if_true]
def dZ(k:Nat)(d:D):Prop:=∃ n c s,d=.list [.int n,.int c,.int s]/\0<=n/\0<=c/\c<=k
theorem dZ.mono(h:dZ k d)(hl:k<=l):dZ l d:=by
 obtain⟨n,c,s,e,h1,h2,h3⟩:=h;exact⟨n,c,s,e,h1,h2,by omega⟩
theorem zu1(c k:Int)(hk:k.natAbs<65536):∃ d,uY [.int c,.int k]=.ok d/\dZ 0 d:=by
 have a1:=t6 (i:=c) zeo;have hx1:=zjz c k (fW hk) (by decide)
 by_cases h:mC<=c
 ·refine⟨_,?_,c-mC,0,k,rfl,by omega,by decide,by decide⟩
  have hg:oh (.int c) (.int mC)=.ok (.bool true):=by show R.ok (AQ (decide (mC<=c)))=_;rw[decide_eq_true h]
  simp only[uY,bh,FL.run,yK,zx,zX,yq,zaC,ak,aP,tB,FL.e2,eV,slots,zy,if_false,Ek,zN,zQ,zz0,eC,aA,zeR,hg,jg,bf,aa,dN,af,aT,zz1,if_true,av,aG,outs,outD]
  rfl
 ·refine⟨_,?_,mj c k,0,c.fmod oP+k,rfl,zjy c k,by decide,by decide⟩
  have hg:oh (.int c) (.int mC)=.ok (.bool false):=by show R.ok (AQ (decide (mC<=c)))=_;rw[decide_eq_false h]
  simp only[uY,bh,FL.run,yK,zx,zX,yq,zaC,ak,aP,tB,FL.e2,eV,slots,zy,if_false,Ek,zN,zQ,zz0,eC,aA,zeR,hg,jg,bf,aa,dN,af,aT,zz1,av,aG,zgD,hx1,a1,outs,outD,if_true]
  rfl
theorem lC(h:dZ k d)(hk:k<=60000)(m:Int)(wd:1<=m)(kL:m.natAbs<65536):∃ g d',lF [d,.int m]=.ok (.int g,[d',.int m])/\0<=g/\g<m/\dZ (k+1) d':=by
 obtain⟨n,c,s,rfl,h1,h2,h3⟩:=h;have i0:∀ x y z:D,dQ [x,y,z] 0=some x:=fun _ _ _=>rfl;have i1:∀ x y z:D,dQ [x,y,z] 1=some y:=fun _ _ _=>rfl;have i2:∀ x y z:D,dQ [x,y,z] 2=some z:=fun _ _ _=>rfl;have j0:gz 3 0=some 0:=rfl;have j1:gz 3 1=some 1:=rfl;have wc:ft (.int n) (.int m)=.ok (.bool (decide (n<m))):=rfl;have hd:∀ i:Int,bK (.int i) (.int m)=.ok (.int (i.fdiv m)):=fun i=>zoE (by omega) (fW kL) (by decide);have hm:∀ i:Int,fA (.int i) (.int m)=.ok (.int (i.fmod m)):=fun i=>t6 (by omega);have gd:∀ i:Int,0<=i->0<=i.fdiv m:=fun i hi=>Int.fdiv_nonneg hi (by omega)
 by_cases hn:n<m
 ·rw[decide_eq_true hn]at wc
  have hc:(c+1).natAbs<65536:=by omega
  have x1:=iG (i:=11) (fW (by decide)) (fW hc) (by decide);have xb:=((fW (i:=11) (by decide)).mul (fW hc)).add (fW (i:=5) (by decide));have x2:=zjz s (11*(c+1)+5) xb (by decide);have x3:=iG (fW kL) (zsz s (11*(c+1)+5)) (by decide);have nn:0<=n+m*mj s (11*(c+1)+5):=Int.add_nonneg h1 (Int.mul_nonneg (by omega) (zjy _ _));refine⟨(n+m*mj s (11*(c+1)+5)).fmod m,.list [.int ((n+m*mj s (11*(c+1)+5)).fdiv m),.int (c+1),.int s],?_,Ej _ (by omega),FA _ (by omega),_,_,_,rfl,gd _ nn,by omega,by omega⟩;simp only[lF,FL.run,yK,zx,zX,zaD,ak,aP,tB,FL.e2,m2,cv,slots,if_true,zy,if_false,BG,yq,zN,zQ,zz0,eC,aw,R.of,aA,i0,eV,zz1,wc,setM,aG,lZ,iK,av,aa,af,aT,i1,zT,j1,zU,i2,x1,x2,x3,j0,aF,gN,aD,hm,hd,outs,outD,El]
 ·rw[decide_eq_false hn]at wc
  refine⟨n.fmod m,.list [.int (n.fdiv m),.int c,.int s],?_,Ej _ (by omega),FA _ (by omega),_,_,_,rfl,gd _ h1,by omega,by omega⟩;simp only[lF,FL.run,yK,zx,zX,zaD,ak,aP,tB,FL.e2,m2,cv,slots,if_true,zy,if_false,BG,yq,zN,zQ,zz0,eC,aw,R.of,aA,i0,eV,zz1,wc,setM,aG,lZ,iK,av,aa,af,aT,i1,zT,j1,zU,i2,aF,gN,aD,hm,hd,j0,outs,outD,El]
theorem zmv(ns:List Int)(k:Int)(h0:0<=k)(hk:k.natAbs<65536):∃ a,zaj [.list (ns.map zi),.int k]=.ok (.int a):=by
 have a3:=iG (i:=3) (fW (by decide)) (fW hk) (by decide);have hl:ft (.int k) (.int (ns.length:Int))=.ok (.bool (decide (k<ns.length))):=rfl
 by_cases h:k<ns.length
 ·rw[decide_eq_true h]at hl
  have:∃ a,dQ (ns.map zi) k=some (.int a):=by
   unfold dQ gz;rw[za,if_pos h0,if_pos h];exact⟨ns[k.toNat]'(by omega),by simp[show k.toNat<ns.length by omega]⟩
  obtain⟨a,ea⟩:=this;refine⟨a,?_⟩;simp only[zaj,bh,FL.run,yK,zx,zX,yq,zaB,ak,aP,tB,FL.e2,eV,slots,zy,if_false,Ek,zN,zQ,zz1,zz0,FL.e1,hJ,aA,za,hl,aD,aw,R.of,aT,ea,if_true,eC,aG,outs,outD]
 ·rw[decide_eq_false h]at hl
  refine⟨3*k+1,?_⟩;simp only[zaj,bh,FL.run,yK,zx,zX,yq,zaB,ak,aP,tB,FL.e2,eV,slots,zy,if_false,Ek,zN,zQ,zz1,zz0,FL.e1,hJ,aA,za,hl,aD,aw,aT,eC,aG,a3,outs,outD,if_true]
theorem zhS{k:Nat}{ix:List Nat}{g:GF}{t:TF}{f:EF}(P:Nat->List D->En->Prop):∀(items:List D) (i:Nat) (acc:List D) (ρ:En),acc.length+items.length<=lim->acc.length=i->P i acc ρ ->
  (∀ x∈items,∀ j acc ρ,j<i+items.length->P j acc ρ->∃ β y β',g x (dg k ix ρ)=.ok β/\t β=.ok (true,β)/\f β=.ok (y,β')/\P (j+1) (acc++[y]) (back ρ ix (β'.drop k))) ->
  ∃ dP ρ',iZ k ix g t f items ρ acc=.ok (dP,ρ')/\dP.length=i+items.length/\P (i+items.length) dP ρ'
 | [],i,acc,ρ,_,e,h,_=>⟨acc,ρ,rfl,e,h⟩
 | x::xs,i,acc,ρ,hl,e,h,hx=>by
  obtain⟨β,y,β',h1,h2,h3,h4⟩:=hx x (zm ..) i acc ρ (by simp) h;have lR:acc.length+(xs.length+1)<=lim:=hl;obtain⟨dP,ρ',kz,e2',e3'⟩:=zhS P xs (i+1) (acc++[y]) _ (by simp;omega) (by simp;omega) h4 fun x m j acc ρ hj=>hx x (yY _ m) j acc ρ (by rw[yK];omega);refine⟨dP,ρ',?_,by simp;omega,by rw[yK,show i+(xs.length+1)=i+1+xs.length by omega];exact e3'⟩;unfold iZ;rw[h1,aA,h2,aA,if_pos rfl,h3,aA,eI (tQ (by omega)),kz]
end
variable {F:List D->R (D×List D)}{i:Nat}{d' v v':D}{p:Bool}
section
theorem zaK{i:Nat}{x:Sl}:∀(ρ:En) (n:Nat),i<n->cN [(i,x)] n ρ=ρ
 | [],_,_=>rfl
 | y::r,n,h=>by
  unfold cN;rw[zaH (by rw[yN,show(n==i)=false from beq_eq_false_iff_ne.mpr (by omega)];rfl),zaK r (n+1) (by omega)]
theorem zaL{d d':D}{p:Bool}:∀(ρ:En) (n i:Nat),ρ[i]?=some (.ow p d)->cN [(n+i,.ow true d')] n ρ=ρ.set i (.ow p d')
 | [],_,_,h=>by simp at h
 | y::r,n,0,h=>by
  have hy:y=.ow p d:=by simpa using h
  subst hy;unfold cN;rw[Nat.add_zero,zaK r (n+1) (C4 n)];have:df [(n,Sl.ow true d')] n (.ow p d)=.ow p d':=by
   unfold df;rw[yN,beq_self_eq_true]
  rw[this]
  rfl
 | y::r,n,i+1,h=>by
  unfold cN;rw[zaH (by rw[yN,show(n==n+(i+1))=false from beq_eq_false_iff_ne.mpr (by omega)];rfl),show n+(i+1)=n+1+i by omega,zaL r (n+1) i (by simpa using h)]
  rfl
theorem pT{r:D}(hi:ρ[i]?=some (.ow p d))(hf:f ρ=.ok (v,ρ))(hF:F [d,v]=.ok (r,[d',v'])):bO F [.m i,.v f] ρ=.ok (r,ρ.set i (.ow p d')):=by
 have hm:cv ρ i=.ok d:=by unfold cv;rw[hi]
 unfold bO;simp only[gF,hm,aA,hf,fK,hF];have:=zaL (d:=d) (d':=d') (p:=p) ρ 0 i hi;rw[CK]at this;show R.ok (r,cN [(i,.ow true d')] 0 ρ)=_;rw[this]
theorem set_same(h:ρ[i]?=some x):ρ.set i x=ρ:=by
 apply List.ext_getElem?;intro j
 by_cases e:i=j
 ·subst e
  rw[zg (yQ.mp h).1,h]
 ·rw[yZ e]
end
section
def zpa:SF:=(aD (i3 (e1 (gZ "int") (eV 0)) (zbb (e1 (gZ "bool") (eV 0)))))
def zak:List D->R D:=bh false 1 1 zpa
def zb8:SF:=(o6 (mG 3) (tB (e2 eL (eV 3) (eC (.int 0)))) (eU 2 3 (eV 3) (e2 fA (eV 2) (eV 3))))
def zbU:SF:=(ak (eU 2 3 (e1 jm (eV 0)) (e1 jm (eV 1)))
  (ak zb8
  (aD (eV 2))))
def gC:List D->R D:=bh false 2 4 zbU
def zbZ:SF:=(ak (aF (gN 2) (av gC (aa (e2 aw (eV 0) (eC (.int 1))) (aa (e2 aw (eV 1) (eC (.int 1))) af))))
  (ak (eU 3 4 (e2 bK (e2 aw (eV 0) (eC (.int 1))) (eV 2)) (e2 bK (e2 aw (eV 1) (eC (.int 1))) (eV 2)))
  (ak (aF (gN 5) (e2 aG (e2 bV (e2 aw (eV 0) (eC (.int 0))) (eV 4)) (e2 bV (e2 aw (eV 1) (eC (.int 0))) (eV 3))))
  (ak (aF (gN 6) (av gC (aa (eV 5) (aa (eV 2) af))))
  (aD (bg (aa (e2 bK (eV 5) (eV 6)) (aa (e2 bV (eV 3) (e2 bK (e2 aw (eV 1) (eC (.int 1))) (eV 6))) af))))))))
def zlG:List D->R D:=bh false 2 7 zbZ
def zb0:SF:=(ak (eU 2 3 (av gC (aa (e2 aw (eV 0) (eC (.int 0))) (aa (e2 aw (eV 1) (eC (.int 1))) af))) (av gC (aa (e2 aw (eV 1) (eC (.int 0))) (aa (e2 aw (eV 0) (eC (.int 1))) af))))
  (aD (bg (aa (e2 bV (e2 bK (e2 aw (eV 0) (eC (.int 0))) (eV 2)) (e2 bK (e2 aw (eV 1) (eC (.int 0))) (eV 3))) (aa (e2 bV (e2 bK (e2 aw (eV 0) (eC (.int 1))) (eV 3)) (e2 bK (e2 aw (eV 1) (eC (.int 1))) (eV 2))) af)))))
def zlH:List D->R D:=bh false 2 4 zb0
end
variable {a i:Int}{b j:Nat}{r s:Rat}
section
noncomputable def num(r:Rat):D:=.tuple [.int r.num,.int (r.den:Int)]
theorem zsC{h:Nat}(p:l≠0):fA (.int h) (.int l)=.ok (.int ((h % l:Nat):Int)):=by
 show aY (decide ((l:Int)≠0)) _=_;rw[eI (by simpa using p)];rw[Int.fmod_eq_emod_of_nonneg _ (by omega)]
 rfl
theorem zb2(x0 x1:Sl):∀(n h l:Nat),l<n->pB (tB (e2 eL (eV 3) (eC (.int 0)))) (eU 2 3 (eV 3) (e2 fA (eV 2) (eV 3))) n [x0,x1,.val (.int h),.val (.int l)]=.ok (.nx,[x0,x1,.val (.int ((CJ h l:Nat):Int)),.val (.int 0)])
 | 0,h,l,p=>by omega
 | n+1,h,l,p=>by
  unfold pB
  by_cases c:l=0
  ·subst c
   have e:eL (.int ((0:Nat):Int)) (.int 0)=.ok (.bool false):=by rw[zdF];rfl
   simp only[tB,FL.e2,eV,zz1,zz0,eC,aA,e,eU,gN,zy,if_false,Nat.gcd_zero_right]
   rfl
  ·have e:eL (.int l) (.int 0)=.ok (.bool true):=by
    rw[zdF,decide_eq_false (by omega)];rfl
   simp only[tB,FL.e2,eV,zz1,zz0,eC,aA,e,eU,gN,zsC c,zU,zT,if_true];have ih:=zb2 x0 x1 n l (h % l) (by have:=Nat.mod_lt h (FC c);omega);rw[ih,Ff l,<- Nat.gcd_rec,Ff]
theorem zgA(i:Int):jm (.int i)=.ok (.int (i.natAbs:Int)):=by
 show R.ok (zi (if i<0 then -i else i))=_
 congr 2
 split <;> omega
theorem sS(a b:Int):gC [.int a,.int b]=.ok (.int (yr a b:Int)):=by
 have e1:eU 2 3 (FL.e1 jm (eV 0)) (FL.e1 jm (eV 1)) [.val (.int a),.val (.int b),.no,.no]=.ok (.nx,[.val (.int a),.val (.int b),.val (.int (a.natAbs:Int)),.val (.int (b.natAbs:Int))]):=by
  simp only[eU,FL.e1,eV,zz0,aA,zgA,gN,zz1,zU,zT]
 have e2:zb8 [.val (.int a),.val (.int b),.val (.int (a.natAbs:Int)),.val (.int (b.natAbs:Int))]=.ok (.nx,[.val (.int a),.val (.int b),.val (.int ((CJ a.natAbs b.natAbs:Nat):Int)),.val (.int 0)]):=by
  unfold zb8 o6;have:mG 3 [.val (.int a),.val (.int b),.val (.int (a.natAbs:Int)),.val (.int (b.natAbs:Int))]=b.natAbs+1:=by
   show((b.natAbs:Int)).natAbs+1=_;simp
  rw[this];exact zb2 _ _ _ _ _ (by omega)
 show((zbU [.val (.int a),.val (.int b),.no,.no]).bind _).bind _=_;unfold zbU;rw[cL e1,cL e2]
 rfl
theorem jX(hj:j≠0)(hb:j<2^n)(hn:n<=90000000):bK (.int i) (.int j)=.ok (.int (i / (j:Int))):=by
 show aY (decide ((j:Int)≠0)) _=_;rw[eI (by simpa using hj),Int.fdiv_eq_ediv_of_nonneg _ (by omega)]
theorem vq(h:QR.Bd n r):Bd r.num n/\Bd (r.den:Int) n:=⟨⟨h.1⟩,⟨by simpa using h.2⟩⟩
theorem lJ(h:Bd i n):Bd (i / (j:Int)) n:=⟨CB (Di i (j:Int)) h.h⟩
theorem sR(hb:b≠0)(h:b<2^n):yr a (b:Int)≠0/\yr a (b:Int)<2^n:=by
 have h1:0<yr a (b:Int):=Fc a (by omega);have h2:yr a (b:Int)∣b:=by
  have:=B6 a (b:Int);exact Int.natCast_dvd_natCast.mp this
 have h3:=Nat.le_of_dvd (FC hb) h2
 omega
theorem zup(hr:QR.Bd n r)(hs:QR.Bd n s)(hn:n<=40000000):zlG [num r,num s]=.ok (num (r+s)):=by
 have gS:=sR (a:=(r.den:Int)) s.den_nz hs.2;generalize hg:yr (r.den:Int) (s.den:Int)=g at gS;have k1:gC [.int (r.den:Int),.int (s.den:Int)]=.ok (.int g):=by rw[sS,hg]
 have k2:bK (.int (r.den:Int)) (.int g)=.ok (.int ((r.den:Int) / (g:Int))):=jX gS.1 gS.2 (by omega);have k3:bK (.int (s.den:Int)) (.int g)=.ok (.int ((s.den:Int) / (g:Int))):=jX gS.1 gS.2 (by omega);have br:=vq hr;have bs:=vq hs;have k4:bV (.int r.num) (.int ((s.den:Int) / (g:Int)))=.ok (.int (r.num*((s.den:Int) / (g:Int)))):=iG br.1 (lJ bs.2) (by omega);have k5:bV (.int s.num) (.int ((r.den:Int) / (g:Int)))=.ok (.int (s.num*((r.den:Int) / (g:Int)))):=iG bs.1 (lJ br.2) (by omega);generalize ht:r.num*((s.den:Int) / (g:Int))+s.num*((r.den:Int) / (g:Int))=top;have gT:=sR (a:=top) gS.1 gS.2;generalize he:yr top (g:Int)=e at gT;have k6:gC [.int top,.int g]=.ok (.int e):=by rw[sS,he]
 have k7:bK (.int top) (.int e)=.ok (.int (top / (e:Int))):=jX gT.1 gT.2 (by omega);have k8:bK (.int (s.den:Int)) (.int e)=.ok (.int ((s.den:Int) / (e:Int))):=jX gT.1 gT.2 (by omega);have k9:bV (.int ((r.den:Int) / (g:Int))) (.int ((s.den:Int) / (e:Int)))=.ok (.int (((r.den:Int) / (g:Int))*((s.den:Int) / (e:Int)))):=iG (lJ br.2) (lJ bs.2) (by omega);have x0:∀(a b:Int),aw (.tuple [.int a,.int b]) (.int 0)=.ok (.int a):=fun a b=>rfl;have x1:∀(a b:Int),aw (.tuple [.int a,.int b]) (.int 1)=.ok (.int b):=fun a b=>rfl;have l2:leB 2 lim=true:=by decide
 have ad:∀(a b:Int),aG (.int a) (.int b)=.ok (.int (a+b)):=fun _ _=>rfl;have fin:num (r+s)=.tuple [.int (top / (e:Int)),.int (((r.den:Int) / (g:Int))*((s.den:Int) / (e:Int)))]:=by
  have h1:=Q1.zuo (QR.low r) (QR.low s);rw[QR.add]at h1;unfold Q1.qC at h1;simp only[hg,ht,he]at h1;unfold num;rw[<- (Eo h1).1,<- (Eo h1).2]
 have s1:aF (gN 2) (av gC (aa (e2 aw (eV 0) (eC (.int 1))) (aa (e2 aw (eV 1) (eC (.int 1))) af))) [.val (num r),.val (num s),.no,.no,.no,.no,.no]=.ok (.nx,[.val (num r),.val (num s),.val (.int g),.no,.no,.no,.no]):=by
  unfold num;simp only[aF,av,aa,FL.e2,eV,zz0,eC,aA,x1,af,zz1,k1,gN,zU,zT]
 have s2:eU 3 4 (e2 bK (e2 aw (eV 0) (eC (.int 1))) (eV 2)) (e2 bK (e2 aw (eV 1) (eC (.int 1))) (eV 2)) [.val (num r),.val (num s),.val (.int g),.no,.no,.no,.no]=.ok (.nx,[.val (num r),.val (num s),.val (.int g),.val (.int ((r.den:Int) / (g:Int))),.val (.int ((s.den:Int) / (g:Int))),.no,.no]):=by
  unfold num;simp only[eU,FL.e2,eV,zz0,eC,aA,x1,zz1,k2,gN,k3,zU,zT]
 have s3:aF (gN 5) (e2 aG (e2 bV (e2 aw (eV 0) (eC (.int 0))) (eV 4)) (e2 bV (e2 aw (eV 1) (eC (.int 0))) (eV 3))) [.val (num r),.val (num s),.val (.int g),.val (.int ((r.den:Int) / (g:Int))),.val (.int ((s.den:Int) / (g:Int))),.no,.no]=.ok (.nx,[.val (num r),.val (num s),.val (.int g),.val (.int ((r.den:Int) / (g:Int))),.val (.int ((s.den:Int) / (g:Int))),.val (.int top),.no]):=by
  unfold num;simp only[aF,FL.e2,eV,zz0,eC,aA,x0,zz1,k4,k5,ad,ht,gN,zU,zT]
 have s4:aF (gN 6) (av gC (aa (eV 5) (aa (eV 2) af))) [.val (num r),.val (num s),.val (.int g),.val (.int ((r.den:Int) / (g:Int))),.val (.int ((s.den:Int) / (g:Int))),.val (.int top),.no]=.ok (.nx,[.val (num r),.val (num s),.val (.int g),.val (.int ((r.den:Int) / (g:Int))),.val (.int ((s.den:Int) / (g:Int))),.val (.int top),.val (.int e)]):=by
  simp only[aF,av,aa,eV,zz1,zz0,af,aA,k6,gN,zU,zT]
 have s5:aD (bg (aa (e2 bK (eV 5) (eV 6)) (aa (e2 bV (eV 3) (e2 bK (e2 aw (eV 1) (eC (.int 1))) (eV 6))) af))) [.val (num r),.val (num s),.val (.int g),.val (.int ((r.den:Int) / (g:Int))),.val (.int ((s.den:Int) / (g:Int))),.val (.int top),.val (.int e)]=.ok (.rt (num (r+s)),[.val (num r),.val (num s),.val (.int g),.val (.int ((r.den:Int) / (g:Int))),.val (.int ((s.den:Int) / (g:Int))),.val (.int top),.val (.int e)]):=by
  rw[fin];unfold num;simp only[aD,bg,aa,FL.e2,eV,zz1,zz0,aA,k7,eC,af,x1,k8,k9,yK,zx,zX,eI l2]
 show((zbZ [.val (num r),.val (num s),.no,.no,.no,.no,.no]).bind _).bind _=_;unfold zbZ;rw[cL s1,cL s2,cL s3,cL s4,s5]
 rfl
theorem zxT(hr:QR.Bd n r)(hs:QR.Bd n s)(hn:n<=40000000):zlH [num r,num s]=.ok (num (r*s)):=by
 have gS:=sR (a:=r.num) s.den_nz hs.2;generalize hg:yr r.num (s.den:Int)=g at gS;have gT:=sR (a:=s.num) r.den_nz hr.2;generalize he:yr s.num (r.den:Int)=e at gT;have k1:gC [.int r.num,.int (s.den:Int)]=.ok (.int g):=by rw[sS,hg]
 have k2:gC [.int s.num,.int (r.den:Int)]=.ok (.int e):=by rw[sS,he]
 have k3:bK (.int r.num) (.int g)=.ok (.int (r.num / (g:Int))):=jX gS.1 gS.2 (by omega);have k4:bK (.int s.num) (.int e)=.ok (.int (s.num / (e:Int))):=jX gT.1 gT.2 (by omega);have k5:bK (.int (r.den:Int)) (.int e)=.ok (.int ((r.den:Int) / (e:Int))):=jX gT.1 gT.2 (by omega);have k6:bK (.int (s.den:Int)) (.int g)=.ok (.int ((s.den:Int) / (g:Int))):=jX gS.1 gS.2 (by omega);have br:=vq hr;have bs:=vq hs;have k7:bV (.int (r.num / (g:Int))) (.int (s.num / (e:Int)))=.ok (.int (r.num / (g:Int)*(s.num / (e:Int)))):=iG (lJ br.1) (lJ bs.1) (by omega);have k8:bV (.int ((r.den:Int) / (e:Int))) (.int ((s.den:Int) / (g:Int)))=.ok (.int ((r.den:Int) / (e:Int)*((s.den:Int) / (g:Int)))):=iG (lJ br.2) (lJ bs.2) (by omega);have x0:∀(a b:Int),aw (.tuple [.int a,.int b]) (.int 0)=.ok (.int a):=fun a b=>rfl;have x1:∀(a b:Int),aw (.tuple [.int a,.int b]) (.int 1)=.ok (.int b):=fun a b=>rfl;have l2:leB 2 lim=true:=by decide
 have fin:num (r*s)=.tuple [.int (r.num / (g:Int)*(s.num / (e:Int))),.int ((r.den:Int) / (e:Int)*((s.den:Int) / (g:Int)))]:=by
  have h1:=Q1.zxS (QR.low r) (QR.low s);rw[QR.mul]at h1;unfold Q1.xR at h1;simp only[hg,he]at h1;unfold num;rw[<- (Eo h1).1,<- (Eo h1).2]
 have s1:eU 2 3 (av gC (aa (e2 aw (eV 0) (eC (.int 0))) (aa (e2 aw (eV 1) (eC (.int 1))) af))) (av gC (aa (e2 aw (eV 1) (eC (.int 0))) (aa (e2 aw (eV 0) (eC (.int 1))) af))) [.val (num r),.val (num s),.no,.no]=.ok (.nx,[.val (num r),.val (num s),.val (.int g),.val (.int e)]):=by
  unfold num;simp only[eU,av,aa,FL.e2,eV,zz0,eC,aA,x0,af,zz1,x1,k1,gN,k2,zU,zT]
 have s5:aD (bg (aa (e2 bV (e2 bK (e2 aw (eV 0) (eC (.int 0))) (eV 2)) (e2 bK (e2 aw (eV 1) (eC (.int 0))) (eV 3))) (aa (e2 bV (e2 bK (e2 aw (eV 0) (eC (.int 1))) (eV 3)) (e2 bK (e2 aw (eV 1) (eC (.int 1))) (eV 2))) af))) [.val (num r),.val (num s),.val (.int g),.val (.int e)]=.ok (.rt (num (r*s)),[.val (num r),.val (num s),.val (.int g),.val (.int e)]):=by
  rw[fin];unfold num;simp only[aD,bg,aa,FL.e2,eV,zz0,eC,aA,x0,zz1,k3,k4,k7,af,x1,k5,k6,k8,yK,zx,zX,eI l2]
 show((zb0 [.val (num r),.val (num s),.no,.no]).bind _).bind _=_;unfold zb0;rw[cL s1,s5]
 rfl
end
variable {r:D}
section
abbrev Sm:=List (List Int×Rat)
theorem zd3:(PyData.tuple [.int 0,.int 1]:D)=num 0:=rfl
end
variable {i:Nat}
section
theorem zm9{h:EF}{u u':D}(hi:ρ[i]?=some (.ow p d))(hf:f ρ=.ok (v,ρ))(hh:h ρ=.ok (u,ρ))(hF:F [d,v,u]=.ok (r,[d',v',u'])):bO F [.m i,.v f,.v h] ρ=.ok (r,ρ.set i (.ow p d')):=by
 have hm:cv ρ i=.ok d:=by unfold cv;rw[hi]
 unfold bO;simp only[gF,hm,aA,hf,hh,fK,hF];have:=zaL (d:=d) (d':=d') (p:=p) ρ 0 i hi;rw[CK]at this;show R.ok (r,cN [(i,.ow true d')] 0 ρ)=_;rw[this]
end
variable {b:SF}
section
theorem qL{ds:List D}(hl:ds.length=k)(h:b (slots (yq k false) ds++yq (n-ds.length) .no)=.ok (.rt d,ρ)):bh false k n b ds=.ok d:=by
 unfold bh FL.run;rw[if_pos (by rw[A1];exact hl),h]
 rfl
theorem zkN{ds:List D}(hl:ds.length=k)(h:b (slots (yq k false) ds++yq (n-ds.length) .no)=.ok (.rf d,ρ)):bh true k n b ds=.ok d:=by
 unfold bh FL.run;rw[if_pos (by rw[A1];exact hl),h]
 rfl
theorem zwN{ds:List D}(hl:ds.length=k)(h:b (slots (yq k false) ds++yq (n-ds.length) .no)=.ok (.nx,ρ)):bh false k n b ds=.ok .none:=by
 unfold bh FL.run;rw[if_pos (by rw[A1];exact hl),h]
 rfl
noncomputable def kyS(p:List Int×Rat):WK:=((p.1.length:Int),p.1)
def ziM(x:List Int×Rat):Sm->Sm
 | []=>[x]
 | y::r=>if wB (kyS y) (kyS x)=true then y::ziM x r else x::y::r
def zkP:Sm->Sm
 | []=>[]
 | x::r=>ziM x (zkP r)
def tln(p:List Int×Rat):D:=.tuple [tp p.1,num p.2]
end
section
def zb9:SF:=(o6 (mG 3) (tB (e2 eL (eV 3) (eC (.int 0)))) (eU 2 3 (eV 3) (e2 fA (eV 2) (eV 3))))
def zbY:SF:=(ak (aF (gN 2) (e1 jm (eV 0)))
  (ak (aF (gN 3) (eV 1))
  (ak zb9
  (aD (bg (aa (e2 bK (eV 0) (eV 2)) (aa (e2 bK (eV 1) (eV 2)) af)))))))
def zal:List D->R D:=bh false 2 4 zbY
def zbV:SF:=(ak (aP (FL.eB (FL.cR (tE (e1 (gZ "tuple") (eV 0)))) (tB (e2 eL (e1 hJ (eV 0)) (eC (.int 2))))) (aD (eC (.bool false))) aT)
  (ak (aF (gT [(gN 1),(gN 2)]) (eV 0))
  (ak (aP (FL.eB (FL.cR (tE (av zak (aa (eV 1) af)))) (FL.eB (FL.cR (tE (av zak (aa (eV 2) af)))) (tB (e2 ft (eV 2) (eC (.int 1)))))) (aD (eC (.bool false))) aT)
  (aD (e2 cy (av gC (aa (eV 1) (aa (eV 2) af))) (eC (.int 1)))))))
def zfW:List D->R D:=bh false 1 3 zbV
def qf:SF:=(ak (aF (gN 1) (bO lF [.m 0,.v (eC (.int 5))]))
  (ak (aP (tB (e2 ft (eV 1) (eC (.int 3)))) (aD (e2 aw (bf (aa (bg (aa (eC (.int 0)) (aa (eC (.int 1)) af))) (aa (bg (aa (eC (.int 1)) (aa (eC (.int 1)) af))) (aa (bg (aa (e1 oN (eC (.int 1))) (aa (eC (.int 1)) af))) af)))) (eV 1))) aT)
  (ak (aP (tB (e2 cy (eV 1) (eC (.int 3)))) (aD (bg (aa (e2 dN (bO lF [.m 0,.v (eC (.int 13))]) (eC (.int 6))) (aa (eC (.int 1)) af)))) aT)
  (aD (av zal (aa (e2 dN (bO lF [.m 0,.v (e2 aG (e2 bV (eC (.int 2)) (e2 dA (eC (.int 10)) (eC (.int 3)))) (eC (.int 1)))]) (e2 dA (eC (.int 10)) (eC (.int 3)))) (aa (e2 aG (eC (.int 1)) (bO lF [.m 0,.v (eC (.int 9))])) af)))))))
def lE:List D->R (D×List D):=run [true] false 2 qf
end
variable {b:Nat}
section
theorem zsc(t:Int)(hb:b≠0)(hl:b<2^n)(hn:n<=90000000):zal [.int t,.int b]=.ok (.tuple [.int (Q1.fr t (b:Int)).1,.int (Q1.fr t (b:Int)).2]):=by
 have gS:=sR (a:=t) hb hl;have s1:aF (gN 2) (FL.e1 jm (eV 0)) [.val (.int t),.val (.int b),.no,.no]=.ok (.nx,[.val (.int t),.val (.int b),.val (.int (t.natAbs:Int)),.no]):=by
  simp only[aF,FL.e1,eV,zz0,aA,zgA,gN,zz1,zU,zT]
 have s2:aF (gN 3) (eV 1) [.val (.int t),.val (.int b),.val (.int (t.natAbs:Int)),.no]=.ok (.nx,[.val (.int t),.val (.int b),.val (.int (t.natAbs:Int)),.val (.int b)]):=rfl;have s3:zb9 [.val (.int t),.val (.int b),.val (.int (t.natAbs:Int)),.val (.int b)]=.ok (.nx,[.val (.int t),.val (.int b),.val (.int ((yr t (b:Int):Nat):Int)),.val (.int 0)]):=by
  unfold zb9 o6;have:mG 3 [.val (.int t),.val (.int b),.val (.int (t.natAbs:Int)),.val (.int b)]=b+1:=by
   show((b:Int)).natAbs+1=_;simp
  rw[this];exact zb2 _ _ _ _ _ (by omega)
 have k1:bK (.int t) (.int ((yr t (b:Int):Nat):Int))=.ok (.int (t / ((yr t (b:Int):Nat):Int))):=jX gS.1 gS.2 hn;have k2:bK (.int b) (.int ((yr t (b:Int):Nat):Int))=.ok (.int ((b:Int) / ((yr t (b:Int):Nat):Int))):=jX gS.1 gS.2 hn;have l2:leB 2 lim=true:=by decide
 show((zbY [.val (.int t),.val (.int b),.no,.no]).bind _).bind _=_;unfold zbY;rw[cL s1,cL s2,cL s3];simp only[aD,bg,aa,FL.e2,eV,zz0,aA,zz1,k1,af,k2,yK,zx,zX,eI l2,yq,outs,outD];rw[Q1.ziq (by omega)]
theorem zsd(t:Int)(hb:b≠0)(hl:b<2^n)(hn:n<=90000000):zal [.int t,.int b]=.ok (num (D2 t b hb)):=by
 rw[zsc t hb hl hn,QR.norm hb]
 rfl
theorem lx0(a b:Int):aw (.tuple [.int a,.int b]) (.int 0)=.ok (.int a):=rfl
theorem lx1(a b:Int):aw (.tuple [.int a,.int b]) (.int 1)=.ok (.int b):=rfl
end
section
def told(s:Sm):D:=.list ((zkP s).map tln)
theorem zpZ(r:Rat):zfW [num r]=.ok (.bool true):=by
 have k1:gZ "tuple" (num r)=.ok (.bool true):=rfl;have wh:∀ i:Int,zak [.int i]=.ok (.bool true):=fun _=>rfl;have k3:ft (.int (r.den:Int)) (.int 1)=.ok (.bool false):=by
  rw[zdw];congr 2
  have:=r.den_nz;exact decide_eq_false (by omega)
 have k4:gC [.int r.num,.int (r.den:Int)]=.ok (.int 1):=by
  rw[sS];congr 2
  have:=(QR.low r).nP
  omega
 have k5:eL (.int 2) (.int 2)=.ok (.bool false):=by rw[zdF];rfl
 have k6:cy (.int 1) (.int 1)=.ok (.bool true):=by rw[vS];rfl
 have k7:gT [gN 1,gN 2] (num r) [.val (num r),.no,.no]=.ok [.val (num r),.val (.int r.num),.val (.int (r.den:Int))]:=rfl;refine qL (ρ:=[.val (num r),.val (.int r.num),.val (.int (r.den:Int))]) rfl ?_;show zbV [.val (num r),.no,.no]=_;unfold zbV;have s1:aP (FL.eB (FL.cR (tE (FL.e1 (gZ "tuple") (eV 0)))) (tB (FL.e2 eL (FL.e1 hJ (eV 0)) (eC (.int 2))))) (aD (eC (.bool false))) aT [.val (num r),.no,.no]=.ok (.nx,[.val (num r),.no,.no]):=by
  have l2:hJ (num r)=.ok (.int 2):=rfl;simp only[aP,FL.eB,FL.cR,tE,tB,FL.e1,FL.e2,eV,eC,aT,aA,zz0,k1,l2,k5,pj,DT,zy,if_false,if_true]
 have s2:aF (gT [gN 1,gN 2]) (eV 0) [.val (num r),.no,.no]=.ok (.nx,[.val (num r),.val (.int r.num),.val (.int (r.den:Int))]):=rfl;rw[cL s1,cL s2];simp only[ak,aP,FL.eB,FL.cR,tE,av,aa,eV,zz1,zz0,af,aA,wh,pj,DT,tB,FL.e2,eC,zy,k3,if_false,aD,aT,k4,k6]
end
section
noncomputable def vI:Cs:={ C:=fun _=>none,st:=by simp }
end
section
theorem zwz(i:Int)(h:i.natAbs<2^n)(hn:0<n):num (i:Rat)=.tuple [.int i,.int 1]/\QR.Bd n (i:Rat):=by
 refine⟨rfl,?_,?_⟩
 ·simpa using h
 ·show 1<2^n
  exact Nat.one_lt_two_pow (by omega)
theorem zsZ(h:dZ k d)(hk:k<=50000):∃(r:Rat) (d':D),lE [d]=.ok (num r,[d'])/\QR.Bd 14 r/\dZ (k+3) d':=by
 obtain⟨w,d1,t1,w0,w5,p1⟩:=lC h (by omega) 5 (by decide) (by decide);have ju:ft (.int w) (.int 3)=.ok (.bool (decide (w<3))):=zdw _ _;have eq3:cy (.int w) (.int 3)=.ok (.bool (decide (w=3))):=vS _ _
 by_cases c1:w<3
 ·have l3:leB 3 lim=true:=by decide
  have l2:leB 2 lim=true:=by decide
  have ng:oN (.int 1)=.ok (.int (-1)):=rfl;have c:w=0\/w=1\/w=2:=by omega
  rw[decide_eq_true c1]at ju;rcases c with rfl|rfl|rfl
  ·refine⟨0,d1,?_,⟨by decide,by decide⟩,p1.mono (by omega)⟩
   simp only[lE,FL.run,yK,zx,zX,qf,ak,aF,bO,gF,cv,slots,if_true,BG,yq,zN,zQ,zz0,eC,aA,lI,fK,cN,df,t1,eX,yN,FD,gN,zz1,zU,zT,aP,tB,FL.e2,eV,aD,bf,aa,bg,af,eI l2,FL.e1,ng,eI l3,aT,dN,av,ju,outs,outD]
   rfl
  ·refine⟨1,d1,?_,⟨by decide,by decide⟩,p1.mono (by omega)⟩
   simp only[lE,FL.run,yK,zx,zX,qf,ak,aF,bO,gF,cv,slots,if_true,BG,yq,zN,zQ,zz0,eC,aA,lI,fK,cN,df,t1,eX,yN,FD,gN,zz1,zU,zT,aP,tB,FL.e2,eV,aD,bf,aa,bg,af,eI l2,FL.e1,ng,eI l3,aT,dN,av,ju,outs,outD]
   rfl
  ·refine⟨-1,d1,?_,⟨by decide,by decide⟩,p1.mono (by omega)⟩
   simp only[lE,FL.run,yK,zx,zX,qf,ak,aF,bO,gF,cv,slots,if_true,BG,yq,zN,zQ,zz0,eC,aA,lI,fK,cN,df,t1,eX,yN,FD,gN,zz1,zU,zT,aP,tB,FL.e2,eV,aD,bf,aa,bg,af,eI l2,FL.e1,ng,eI l3,aT,dN,av,ju,outs,outD]
   rfl
 ·rw[decide_eq_false c1]at ju
  by_cases c2:w=3
  ·rw[decide_eq_true c2]at eq3
   obtain⟨v,d2,t2,v0,v1,p2⟩:=lC p1 (by omega) 13 (by decide) (by decide);obtain⟨rn,rb⟩:=zwz (v-6) (n:=14) (by omega) (by decide);refine⟨((v-6:Int):Rat),d2,?_,rb,p2.mono (by omega)⟩;rw[rn];have l2:leB 2 lim=true:=by decide
   have sb:dN (.int v) (.int 6)=.ok (.int (v-6)):=rfl;simp only[lE,FL.run,yK,zx,zX,qf,ak,aF,bO,gF,cv,slots,if_true,BG,yq,zN,zQ,zz0,eC,aA,lI,fK,cN,df,t1,eX,yN,beq_self_eq_true,gN,zz1,zU,zT,aP,tB,FL.e2,eV,aD,bf,aa,bg,af,eI l2,FL.e1,aT,dN,av,ju,zy,if_false,eq3,t2,outs,outD,El]
  ·rw[decide_eq_false c2]at eq3
   obtain⟨v,d2,t2,v0,v1,p2⟩:=lC p1 (by omega) 2001 (by decide) (by decide);obtain⟨u,d3,t3,u0,u1,p3⟩:=lC p2 (by omega) 9 (by decide) (by decide);have hb:(1+u).toNat≠0:=by omega
   have hl:=zsd (v-1000) (b:=(1+u).toNat) (n:=14) hb (by omega) (by decide);rw[show(((1+u).toNat:Nat):Int)=1+u by omega]at hl;refine⟨D2 (v-1000) (1+u).toNat hb,d3,?_,?_,p3⟩
   ·have pw:dA (.int 10) (.int 3)=.ok (.int 1000):=rfl
    have ml:bV (.int 2) (.int 1000)=.ok (.int 2000):=rfl;have ad:aG (.int 2000) (.int 1)=.ok (.int 2001):=rfl;have ad2:aG (.int 1) (.int u)=.ok (.int (1+u)):=rfl;have sb:dN (.int v) (.int 1000)=.ok (.int (v-1000)):=rfl;simp only[lE,FL.run,yK,zx,zX,qf,ak,aF,bO,gF,cv,slots,if_true,BG,yq,zN,zQ,zz0,eC,aA,lI,fK,cN,df,t1,eX,yN,beq_self_eq_true,gN,zz1,zU,zT,aP,tB,FL.e2,eV,aD,bf,aa,bg,af,FL.e1,aT,dN,av,pw,ml,ad,ju,zy,if_false,eq3,t2,t3,ad2,hl,outs,outD,El]
   ·have h1:=QR.norm (t:=v-1000) hb
    have h2:=QR.zbP (v-1000) ((1+u).toNat:Int);rw[h1]at h2;exact⟨by have:=h2.1;omega,by have:=h2.2;omega⟩
theorem zaW(hi:ρ[i]?=some (.ow p d))(hF:F [d]=.ok (r,[d'])):bO F [.m i] ρ=.ok (r,ρ.set i (.ow p d')):=by
 have h:=pT (F:=fun l=>match l with | [a,b]=>(F [a]).bind fun y=>.ok (y.1,y.2++[b])|_=>.bad) (f:=eC .none) (v:=.none) (v':=.none) (r:=r) (d':=d') hi rfl (by show(F [d]).bind _=_;rw[hF];rfl);have hm:cv ρ i=.ok d:=by unfold cv;rw[hi]
 unfold bO at h ⊢;simp only[gF,hm,aA,eC,fK,hF]at h ⊢;exact h
end
section
noncomputable def ev(f:List Int->Rat)(s:Sm):Rat:=(s.map fun p=>f p.1*p.2).sum
end
end FL
namespace FV
open PySem FL
section
def zb7:EF:=(d6 1 [] (iE (eV 0)) (gN 0) dW (av zfW (aa (eV 0) af)))
def zbW:SF:=(aD (i3 (e1 (gZ "list") (eV 0)) (e1 pO zb7)))
def zfX:List D->R D:=bh false 1 1 zbW
def zbX:SF:=(aD (i3 (av zfX (aa (eV 0) af)) (e2 cy (e1 hJ (eV 0)) (eV 1))))
def zlF:List D->R D:=bh false 2 2 zbX
end
variable {α β:Type}{it:IF}{g:GF}{n:Int}{cs ρ:En}{ix:List Nat}{f:EF}{k:Nat}{xs:List Rat}
section
section
noncomputable def gd(f:β->D)(s:List (List Int×β)):D:=.dict (s.map fun p=>(tp p.1,f p.2))
def Gk(s:List (List Int×β)):Prop:=(s.map (·.1)).Nodup
end
theorem zba{f0:α->D}{xs:List α}(h:α->D)(hi:it ρ=.ok (xs.map f0,ρ))(hl:xs.length<=lim)
  (hx:∀ x∈xs,∃ β,g (f0 x) (dg k ix ρ)=.ok β/\f β=.ok (h x,β)/\back ρ ix (β.drop k)=ρ):d6 k ix it g dW f ρ=.ok (.list (xs.map h),ρ):=by
 have key:∀(xs:List α) (acc:List D),acc.length+xs.length<=lim->(∀ x∈xs,∃ β,g (f0 x) (dg k ix ρ)=.ok β/\f β=.ok (h x,β)/\back ρ ix (β.drop k)=ρ)->iZ k ix g dW f (xs.map f0) ρ acc=.ok (acc++xs.map h,ρ):=by
  intro xs
  induction xs with
  | nil=>intro acc _ _;simp[iZ]
  | cons x xs ih =>
   intro acc hl hx;obtain⟨β,h1,h2,h3⟩:=hx x (zm ..);simp only[yK]at hl;rw[zh];unfold iZ;rw[h1,aA,show dW β=.ok (true,β) from rfl,aA,if_pos rfl,h2,aA,eI (tQ (by omega)),h3,ih _ (by simp;omega) fun y m=>hx y (yY x m)];simp
 unfold d6;rw[hi,aA,key xs [] (by simpa using hl) hx]
 rfl
noncomputable def nG:En->Prop
 | []=>True
 | .ow _ _::_=>False
 | _::r=>nG r
theorem nG.look:∀{ix:List Nat} {cs:En},nG cs->∀ i p d,(ix.zip cs).lookup i≠some (.ow p d)
 | [],_,_,i,p,d,z=>by simp at z
 | _::_,[],_,i,p,d,z=>by simp at z
 | j::ix,c::cs,h,i,p,d,z=>by
  have hr:nG cs:=by cases c <;> first|exact h|exact h.elim
  rw[Bg,yN]at z
  split at z
  ·cases z;exact h
  ·exact nG.look hr i p d z
theorem zaE(h:nG cs):back ρ ix cs=ρ:=zhr (nG.look h) _ _
def rL(xs:List Rat):D:=.list (xs.map num)
def rT(xs:List Rat):D:=.tuple (xs.map num)
theorem zjL(r s:Rat):cy (num r) (num s)=.ok (.bool (decide (r=s))):=by
 have e:decide (([r.num,(r.den:Int)]:List Int)=[s.num,(s.den:Int)])=decide (r=s):=by
  by_cases c:r=s
  ·subst c;simp
  ·rw[decide_eq_false c,decide_eq_false]
   intro z;simp only[List.cons.injEq,and_true,Int.natCast_inj]at z;exact c (Rat.ext z.1 z.2)
 rw[<- e];exact zos [r.num,(r.den:Int)] [s.num,(s.den:Int)]
theorem all_true(xs:List α):pO (.list (xs.map fun _=>AQ true))=.ok (.bool true):=by
 have:=zmn (xs.map fun _=>true);rw[CO]at this;rw[show xs.map (fun _=>AQ true)=xs.map (AQ∘fun _=>true) from rfl,this];simp
theorem zp1(xs:List Rat)(hl:xs.length<=1000):zfX [rL xs]=.ok (.bool true):=by
 have q:zb7 [.val (rL xs)]=.ok (.list (xs.map fun _=>AQ true),[.val (rL xs)]):=by
  unfold zb7;exact zba (f0:=num) (xs:=xs) (fun _=>AQ true) rfl (by show _<=1000000;omega) fun r mr=>⟨[.val (num r)],rfl,by simp only[av,aa,eV,Ep,af,aA,zpZ],zaE trivial⟩
 refine qL (ρ:=[.val (rL xs)]) rfl ?_;show zbW [.val (rL xs)]=_;unfold zbW;have k1:gZ "list" (rL xs)=.ok (.bool true):=rfl;simp only[aD,i3,FL.e1,eV,Ep,aA,k1,q,all_true]
theorem zp0(hl:(xs.length:Int)=n)(hn:xs.length<=1000):zlF [rL xs,.int n]=.ok (.bool true):=by
 refine qL (ρ:=[.val (rL xs),.val (.int n)]) rfl ?_;show zbX [.val (rL xs),.val (.int n)]=_;unfold zbX;have k1:hJ (rL xs)=.ok (.int n):=by
  show R.ok (zi ((xs.map num).length:Int))=_;rw[za,hl]
 simp only[aD,i3,av,aa,af,FL.e1,FL.e2,eV,List.getElem?_cons_succ,Ep,aA,zp1 xs (by omega),k1,vS,decide_true]
end
variable {ip:Nat}{p:Bool}{d:D}{items:List D}
section
abbrev Tb:=List (List Int×List Rat)
theorem zhq{d d':D}{p p':Bool}:∀(ρ:En) (n i:Nat),ρ[i]?=some (.ow p d)->cN [(n+i,.ow p' d')] n ρ=ρ.set i (.ow p d')
 | [],n,i,h=>by simp at h
 | x::r,n,0,h=>by
  simp only[Ep,Ac]at h;subst h;unfold cN;rw[zT]
  congr 1
  ·simp[df,yN]
  ·refine zaK r (n+1) (by omega)
 | x::r,n,i+1,h=>by
  unfold cN;rw[zU,show n+(i+1)=(n+1)+i by omega,zhq r (n+1) i (by simpa using h)]
  congr 1
  refine zaH ?_;rw[yN];have:(n==n+1+i)=false:=by simp;omega
  rw[this]
  rfl
theorem zoe(hi:ρ[ip]?=some (.ow p d))(hp:dZ k d)(hit:it ρ=.ok (items,ρ))(hl:items.length<=100)(hk:k+3*items.length<=4000) :
  ∃(xs:List Rat) (d':D),d6 1 [ip] it (gN 0) dW (bO lE [.m 1]) ρ=.ok (rL xs,ρ.set ip (.ow p d'))/\xs.length=items.length/\(∀ r∈xs,QR.Bd 14 r)/\dZ (k+3*items.length) d':=by
 obtain⟨acc,ρ',ec,el,xs,d',rfl,hx,dU,rfl⟩:=zhS (k:=1) (ix:=[ip]) (g:=gN 0) (t:=dW) (f:=bO lE [.m 1])
  (fun i acc ρ'=>∃(xs:List Rat) (d':D),acc=xs.map num/\(∀ r∈xs,QR.Bd 14 r)/\dZ (k+3*i) d'/\ρ'=ρ.set ip (.ow p d')) items 0 [] ρ (by show 0+_<=1000000;omega) rfl ⟨[],d,rfl,by simp,hp,(set_same hi).symm⟩ (by
   rintro x hx i acc ρ' iB ⟨xs,d1,rfl,hxs,hp1,rfl⟩;obtain⟨r,d2,en,rb,tD⟩:=zsZ hp1 (by omega);have g1:(ρ.set ip (.ow p d1))[ip]?=some (.ow p d1):=by
    rw[zg];exact(yQ.mp hi).1
   have eb:dg 1 [ip] (ρ.set ip (.ow p d1))=[.no,.ow p d1]:=by
    unfold dg;rw[zh,DI,g1]
    rfl
   refine⟨[.val x,.ow p d1],num r,[.val x,.ow p d2],by rw[eb];rfl,rfl,zaW (i:=1) rfl en,xs++[r],d2,by simp,fun z hz=>?_,by rw[show k+3*(i+1)=k+3*i+3 by omega];exact tD,?_⟩
   ·rcases BL.mp hz with hz|hz
    ·exact hxs z hz
    ·rw[De.mp hz];exact rb
   ·show cN [(ip,.ow p d2)] 0 (ρ.set ip (.ow p d1))=_
    have:=zhq (d':=d2) (p':=p) (ρ.set ip (.ow p d1)) 0 ip g1;rw[CK]at this;rw[this,List.set_set])
 refine⟨xs,d',?_,by simpa using el,hx,by simpa using dU⟩;unfold d6;rw[hit,aA,ec]
 rfl
structure zgx(c:Int)(t:Tb):Prop where
 nk:Gk t
 ky:∀ e∈t,∃ i j:Int,e.1=[i,j]/\0<=i/\i<j/\j<c
 rw:∀ e∈t,(e.2.length:Int)=c+1/\∀ x∈e.2,QR.Bd 14 x
end
variable {i j:Nat}{x y:Sl}{a b:D}
section
def mh(e:List Int×List Rat):D:=.tuple [.int (e.1.getD 0 0),.int (e.1.getD 1 0),rT e.2]
theorem gT2(hx:ρ[i]?=some x)(nx:Np x)(hy:(ρ.set i (.val a))[j]?=some y)(ny:Np y):gT [gN i,gN j] (.tuple [a,b]) ρ=.ok ((ρ.set i (.val a)).set j (.val b)):=by
 show(gN i a ρ).bind _=_;rw[lO hx nx,aA];show(gN j b _).bind _=_;rw[lO hy ny];rfl
theorem gT3{c:D}{z:Sl}(hx:ρ[i]?=some x)(nx:Np x)(hy:(ρ.set i (.val a))[j]?=some y)(ny:Np y)(hz:((ρ.set i (.val a)).set j (.val b))[k]?=some z)(nz:Np z):gT [gN i,gN j,gN k] (.tuple [a,b,c]) ρ=.ok (((ρ.set i (.val a)).set j (.val b)).set k (.val c)):=by
 show(gN i a ρ).bind _=_;rw[lO hx nx,aA];show(gN j b _).bind _=_;rw[lO hy ny,aA];show(gN k c _).bind _=_;rw[lO hz nz];rfl
end
end FV
namespace K13
open PySem FL FV
variable {F:List D->R D}{i:Nat}{ρ ρ1 ρ2:En}{g:D->D->R D}{b:Bool}{f:EF}{a u:SF}{r:R (Fl×En)}{t:TF}{d:D}{x:Sl}
section
theorem ze0{b:SF}(h:t ρ=.ok (true,ρ1)):aP t a b ρ=a ρ1:=by
 unfold aP;rw[h];rfl
theorem zeZ{b:SF}(h:t ρ=.ok (false,ρ1)):aP t a b ρ=b ρ1:=by
 unfold aP;rw[h];rfl
theorem zwT(hf:f ρ=.ok (d,ρ))(h:ρ[i]?=some x)(n:Np x):aF (gN i) f ρ=.ok (.nx,ρ.set i (.val d)):=lu (y:=(d,ρ)) hf h n
theorem vy{g:R En}(h:g=.ok ρ1)(k:u ρ1=r):g.bind u=r:=by rw[h];exact k
theorem ze1(hf:f ρ=.ok (d,ρ))(h:ρ[i]?=some x)(n:Np x):eN i f ρ=.ok (.nx,ρ.set i (.ow false d)):=zkO (y:=(d,ρ)) hf h n
theorem iu{h:EF}{a b:D}(h1:f ρ=.ok (a,ρ1))(h2:h ρ1=.ok (b,ρ2))(h3:g a b=.ok d):FL.e2 g f h ρ=.ok (d,ρ2):=by
 unfold FL.e2;rw[h1,aA,h2,aA,h3]
 rfl
theorem vC{a:AF}{ds:List D}(h:a ρ=.ok (ds,ρ1))(k:F ds=.ok d):av F a ρ=.ok (d,ρ1):=by unfold av;rw[h,aA,k];rfl
theorem zfo(h:f ρ=.ok (.bool b,ρ1)):tB f ρ=.ok (b,ρ1):=by unfold tB;rw[h];rfl
theorem zxi(h:f ρ=.ok (.bool b,ρ1)):tE f ρ=.ok (b,ρ1):=by unfold tE;rw[h];rfl
theorem zsU(h:t ρ=.ok (true,ρ1)):FL.cR t ρ=.ok (false,ρ1):=by unfold FL.cR;rw[h];rfl
theorem sO{g:GF}{b:SF}{r:List D}{x:R (Fl×En)}(h1:g d ρ=.ok ρ1)(h2:b ρ1=.ok (.nx,ρ2))(h3:forL g b r ρ2=x):forL g b (d::r) ρ=x:=by
 rw[<- h3];show(g d ρ).bind _=_;rw[h1,aA,h2];rfl
end
variable {i:Int}{r s w:Rat}{a b xs:List Rat}{A B n:Nat}{l:List D}
section
theorem zfv(hr:QR.Bd n r)(hs:QR.Bd n s)(hn:n<=40000000):jJ [num r,num s]=.ok (num (r*s)):=zxT hr hs hn
theorem zj8(hr:QR.Bd n r)(hs:QR.Bd n s)(hn:n<=40000000):rB [num r,num s]=.ok (num (r+s)):=zup hr hs hn
theorem ixL(h0:0<=i)(h:l[i.toNat]?=some d):aw (.list l) (.int i)=.ok d:=by
 have hl:i.toNat<l.length:=(yQ.mp h).1;show R.of (dQ l i)=_;unfold dQ gz;rw[if_pos h0,if_pos (by omega)];show R.of (l[i.toNat]?)=_;rw[h];rfl
theorem zsY(s:Rat):num (-s)=.tuple [.int (-s.num),.int (s.den:Int)]:=by
 unfold num;rw[Rat.neg_num,Rat.neg_den]
theorem zhk(h:QR.Bd n s):QR.Bd n (-s):=⟨by rw[Rat.neg_num,Int.natAbs_neg];exact h.1,by rw[Rat.neg_den];exact h.2⟩
theorem zr5(hr:QR.Bd n r)(hs:QR.Bd n s)(hn:n<=40000000):rA [num r,num s]=.ok (num (r-s)):=by
 have h:=zj8 hr (zhk hs) hn;rw[<- Rat.sub_eq_add_neg,zsY]at h;refine qL (ρ:=[.val (num r),.val (num s)]) rfl ?_;show vp [.val (num r),.val (num s)]=_;have x0:aw (num s) (.int 0)=.ok (.int s.num):=rfl;have x1:aw (num s) (.int 1)=.ok (.int (s.den:Int)):=rfl;have l2:leB 2 lim=true:=by decide
 unfold vp;simp only[aD,av,aa,af,bg,FL.e1,FL.e2,eV,eC,oN,zz1,zz0,aA,x0,x1,aY,l2,if_true,yK,zx,zX,h]
theorem zlz:∀(xs ys:List Rat),fS (xs.map num) (ys.map num)=(xs.zip ys).map fun q=>.tuple [num q.1,num q.2]
 | [],_=>by simp[fS]
 | _::_,[]=>by simp[fS]
 | x::xs,y::ys=>by simp only[zh,fS,Bg,zlz xs ys]
noncomputable def eD(n:Nat):List Rat:=yq n 0
theorem zyo{ys:List Rat}(hl:xs.length<=1000)(hx:∀ x∈xs,QR.Bd n x)(hy:∀ y∈ys,QR.Bd n y)(hw:QR.Bd n w)(hn:n<=10000000)(he:xs.length=ys.length):rF [rL xs,num w,rT ys]=.ok (rL ((xs.zip ys).map fun q=>q.1+w*q.2)):=by
 have e0:=zjL w 0;rw[<- zd3]at e0
 by_cases c:w=0
 ·subst c
  rw[decide_eq_true rfl]at e0;have hz:(xs.zip ys).map (fun q=>q.1+0*q.2)=xs:=by
   have:(fun q:Rat×Rat=>q.1+0*q.2)=Prod.fst:=by funext q;rw[Rat.zero_mul,Rat.add_zero]
   rw[this];exact List.map_fst_zip (by omega)
  rw[hz];refine zkN (ρ:=[.val (rL xs),.val (num 0),.val (rT ys)]) rfl ?_;show pS [.val (rL xs),.val (num 0),.val (rT ys)]=_;have li:tU (rL xs)=.ok (rL xs):=rfl;unfold pS;simp only[ak,aP,tB,FL.e1,FL.e2,eV,eC,zz1,zz0,aA,e0,if_true,jg,li]
 ·rw[decide_eq_false c]at e0
  refine zkN (ρ:=[.val (rL xs),.val (num w),.val (rT ys)]) rfl ?_;show pS [.val (rL xs),.val (num w),.val (rT ys)]=_;have q:xq [.val (rL xs),.val (num w),.val (rT ys)]=.ok (rL ((xs.zip ys).map fun q=>q.1+w*q.2),[.val (rL xs),.val (num w),.val (rT ys)]):=by
   unfold xq rL;rw[CO];refine zba (f0:=fun q:Rat×Rat=>.tuple [num q.1,num q.2]) (xs:=xs.zip ys) (fun q=>num (q.1+w*q.2)) ?_ (by rw[Ef];show _<=1000000;omega) fun q mq=>?_
   ·rw[<- zlz];rfl
   ·have m1:=BV (a:=q.1) (b:=q.2) mq
    refine⟨[.val (num q.1),.val (num q.2),.val (num w)],rfl,?_,zaE trivial⟩;have kz:=zjL q.2 0;rw[<- zd3]at kz;have t1:jJ [num w,num q.2]=_:=zfv hw (hy _ m1.2) (by omega);have p1:rB [num q.1,num (w*q.2)]=_:=zj8 ((hx _ m1.1).mono (show n<=n+n by omega)) (hw.mul (hy _ m1.2)) (by omega)
    by_cases cq:q.2=0
    ·rw[decide_eq_true cq]at kz
     have:q.1+w*q.2=q.1:=by rw[cq,Rat.mul_zero,Rat.add_zero]
     rw[this];simp only[sF,tB,FL.e2,eV,eC,zz1,zz0,aA,kz,if_true]
    ·rw[decide_eq_false cq]at kz
     simp only[sF,tB,FL.e2,eV,eC,av,aa,af,zz1,zz0,aA,kz,if_false,zy,t1,p1]
  unfold pS;simp only[ak,aP,tB,FL.e2,eV,eC,zz1,zz0,aA,e0,if_false,zy,aT,jg,q]
noncomputable def gr(a b:List Rat)(w:List Int):Rat:=a.getD (w.getD 0 0).toNat 0*b.getD (w.getD 1 0).toNat 0-a.getD (w.getD 1 0).toNat 0*b.getD (w.getD 0 0).toNat 0
noncomputable def il(s:List Rat)(w:Rat)(r:List Rat):List Rat:=(s.zip r).map fun q=>q.1+w*q.2
def eJ(n:Nat)(a b:List Rat)(t:Tb):List Rat:=t.foldl (fun s e=>il s (gr a b e.1) e.2) (eD n)
theorem zsa(n:Nat)(a b:List Rat)(t:Tb)(e:List Int×List Rat):eJ n a b (t++[e])=il (eJ n a b t) (gr a b e.1) e.2:=by unfold eJ;rw[List.foldl_append];rfl
theorem zjc{c:Int}:∀(t:Tb),(∀ e∈t,e.2.length=n)->(eJ n a b t).length=n:=by
 intro t;unfold eJ;have:∀(t:Tb) (s:List Rat),s.length=n->(∀ e∈t,e.2.length=n)->(t.foldl (fun s e=>il s (gr a b e.1) e.2) s).length=n:=by
  intro t
  induction t with
  | nil=>exact fun s h _=>h
  | cons e t ih=>exact fun s h k=>ih _ (by unfold il;rw[za,Ef,h,k e (zm ..),Ee]) fun x m=>k x (yY _ m)
 exact this t _ (by unfold eD;rw[A1])
theorem pR{b:Nat}(h:∀ x∈a,QR.Bd (b+1) x)(i:Nat):QR.Bd (b+1) (a.getD i 0):=by
 rw[Aj];cases e:a[i]? with
 | none=>exact⟨FC (by simp),by show 1<2^(b+1);exact Nat.one_lt_two_pow (by omega)⟩
 | some x=>exact h x (Ag e)
theorem zly(ha:∀ x∈a,QR.Bd (A+1) x)(hb:∀ x∈b,QR.Bd (B+1) x)(w:List Int):QR.Bd (2*(A+1+(B+1))+1) (gr a b w):=by
 unfold gr;rw[Rat.sub_eq_add_neg];exact(((pR ha _).mul (pR hb _)).add (zhk ((pR ha _).mul (pR hb _)))).mono (by omega)
theorem zjb{n:Nat}{C:Nat}(ha:∀ x∈a,QR.Bd (A+1) x)(hb:∀ x∈b,QR.Bd (B+1) x):∀(t:Tb) (s:List Rat) (m:Nat),(∀ x∈s,QR.Bd (m+1) x)->(∀ e∈t,∀ x∈e.2,QR.Bd C x)->∀ x∈t.foldl (fun s e=>il s (gr a b e.1) e.2) s,QR.Bd (m+1+(2*(A+1+(B+1))+2+C)*t.length) x:=by
 intro t
 induction t with
 | nil=>exact fun s m h _ x hx=>h x hx
 | cons e t ih =>
  intro s m h k x hx;have:=ih (il s (gr a b e.1) e.2) (m+(2*(A+1+(B+1))+2+C)) (fun y hy=>?_) (fun e' me=>k e' (yY _ me)) x hx
  ·exact this.mono (by rw[yK,Nat.mul_succ];omega)
  ·unfold il at hy
   obtain⟨q,mq,rfl⟩:=As.mp hy;have m1:=BV (a:=q.1) (b:=q.2) mq;exact((h _ m1.1).add ((zly ha hb e.1).mul (k e (zm ..) _ m1.2))).mono (by omega)
end
variable {c l:Int}{rs:List (List Rat)}{s:Int×Int}{r:List Rat}{t:Tb}
section
theorem zkH{n:Int}{X:D}(hn:n<=1000):∀(rs:List (List Rat)) (k:Nat) (y2 y3:Sl),Np y2->Np y3->(∀ x∈rs,(x.length:Int)=n)->∃ z2 z3,forL (gT [gN 2,gN 3]) xY (jo k (rs.map rL)) [.val X,.val (.int n),y2,y3]=.ok (.nx,[.val X,.val (.int n),z2,z3])
 | [],k,y2,y3,_,_,_=>⟨y2,y3,rfl⟩
 | x::rs,k,y2,y3,n2,n3,h=>by
  have hx:uW [rL x,.int n]=.ok (.bool true):=zp0 (h x (zm ..)) (by have:=h x (zm ..);omega);obtain⟨z2,z3,e⟩:=zkH hn rs (k+1) (.val (.int k)) (.val (rL x)) (eT _) (eT _) fun y hy=>h y (yY _ hy);refine⟨z2,z3,sO (ρ1:=[.val X,.val (.int n),.val (.int k),.val (rL x)]) (ρ2:=[.val X,.val (.int n),.val (.int k),.val (rL x)]) (FV.gT2 rfl n2 rfl n3) ?_ e⟩;unfold xY;simp only[aP,FL.cR,tE,av,aa,af,eV,zz1,zz0,aA,hx,pj,DT,zy,if_false,aT]
theorem zwC{n:Int}(hl:rs.length<=1000)(h:∀ x∈rs,(x.length:Int)=n)(hn:n<=1000):rE [.list (rs.map rL),.int n]=.ok .none:=by
 obtain⟨z2,z3,e⟩:=zkH (X:=.list (rs.map rL)) hn rs 0 .no .no fc fc h;refine zwN (ρ:=[.val (.list (rs.map rL)),.val (.int n),z2,z3]) rfl ?_;show x9 [.val (.list (rs.map rL)),.val (.int n),.no,.no]=_;unfold x9 gk;rw[show tL (aa (eV 0) af) [.val (.list (rs.map rL)),.val (.int n),.no,.no]=.ok (jo 0 (rs.map rL),[.val (.list (rs.map rL)),.val (.int n),.no,.no]) from rfl,aA];exact e
abbrev LE(c:Int)(T A B:D)(y3 y4 y5 y6 y7:Sl):En:=[.ob "Table" [.int c,T],.val A,.val B,y3,y4,y5,y6,y7]
theorem xB(h0:0<=i)(h:i.toNat<a.length):aw (rL a) (.int i)=.ok (num (a.getD i.toNat 0)):=by
 refine ixL h0 ?_;rw[zv,yO h,Aj,yO h]
 rfl
theorem zr3{A' B' M:Nat}(h:zgx c t)(ht:t.length<=10)(hn:(n:Int)=c+1)(c0:0<=c)(c6:c<=6)(la:a.length=n)(lb:b.length=n)(ba:∀ x∈a,QR.Bd (A'+1) x)(bb:∀ x∈b,QR.Bd (B'+1) x)(hM:1+1+(2*(A'+1+(B'+1))+2+14)*10<=M)(M1:M<=10000000) :
  zad [.tuple [.int c,.tuple (t.map mh)],rL a,rL b]=.ok (rL (eJ n a b t)):=by
 generalize hA:rL a=A;generalize hB:rL b=B;generalize hT:PyData.tuple (t.map mh)=T;have ad:aG (.int c) (.int 1)=.ok (.int (c+1)):=rfl;have rf:rE [.list [A,B],.int (c+1)]=.ok .none:=by
  rw[<- hA,<- hB];exact zwC (rs:=[a,b]) (by simp) (fun x hx=>by simp only[yH,zS,or_false]at hx;rcases hx with rfl|rfl <;> omega) (by omega)
 have l2:leB 2 lim=true:=by decide
 have s1:sE (av rE (aa (bf (aa (eV 1) (aa (eV 2) af))) (aa (e2 aG (eZ 0 "Table" 0) (eC (.int 1))) af))) (LE c T A B .no .no .no .no .no)=.ok (.nx,LE c T A B .no .no .no .no .no):=by
  have f0:eZ 0 "Table" 0 (LE c T A B .no .no .no .no .no)=.ok (.int c,LE c T A B .no .no .no .no .no):=rfl;simp only[LE]at f0 ⊢;simp only[sE,av,aa,af,bf,FL.e2,eV,eC,zz1,zz0,aA,aY,l2,if_true,yK,zx,zX,f0,ad,rf]
 have s2:eN 3 (pX (eC (.tuple [.int 0,.int 1])) (e2 aG (eZ 0 "Table" 0) (eC (.int 1)))) (LE c T A B .no .no .no .no .no)=.ok (.nx,LE c T A B (.ow false (rL (eD n))) .no .no .no .no):=by
  have hz:(CP (yq (c+1).toNat (.tuple [.int 0,.int 1])):D)=rL (eD n):=by
   unfold rL eD;rw[List.map_replicate,<- zd3,show(c+1).toNat=n by omega]
  have e:pX (eC (.tuple [.int 0,.int 1])) (e2 aG (eZ 0 "Table" 0) (eC (.int 1))) (LE c T A B .no .no .no .no .no)=.ok (rL (eD n),LE c T A B .no .no .no .no .no):=by
   show aY (decide (0<=c+1)&&leB (c+1).toNat 1000000) (R.ok (CP (yq (c+1).toNat (.tuple [.int 0,.int 1])),LE c T A B .no .no .no .no .no))=_;rw[eI (by rw[decide_eq_true (by omega),tQ (by omega)];rfl),hz]
  exact ze1 e rfl fc
 have L:=zbN (f:=mh) (g:=gT [gN 4,gN 5,gN 6]) (b:=xW)
  (fun done ρ=>∃ y4 y5 y6 y7:Sl,Np y4/\Np y5/\Np y6/\Np y7/\ρ=LE c T A B (.ow false (rL (eJ n a b done))) y4 y5 y6 y7)
  t [] (LE c T A B (.ow false (rL (eD n))) .no .no .no .no) ⟨_,_,_,_,fc,fc,fc,fc,rfl⟩ (by
   rintro pre e post ρ he ⟨y4,y5,y6,y7,n4,n5,n6,n7,rfl⟩;rw[zQ]at he;have em:e∈t:=by rw[he];simp
   obtain⟨i,j,eij,i0,ij,jc⟩:=h.ky e em;have lv:mh e=.tuple [.int i,.int j,rT e.2]:=by unfold mh;rw[eij];rfl
   have g1:gT [gN 4,gN 5,gN 6] (mh e) (LE c T A B (.ow false (rL (eJ n a b pre))) y4 y5 y6 y7)=.ok (LE c T A B (.ow false (rL (eJ n a b pre))) (.val (.int i)) (.val (.int j)) (.val (rT e.2)) y7):=by
    rw[lv];exact gT3 rfl n4 rfl n5 rfl n6
   have x1:=xB (a:=a) i0 (by omega);have x2:=xB (a:=b) (i:=j) (by omega) (by omega);have x3:=xB (a:=a) (i:=j) (by omega) (by omega);have x4:=xB (a:=b) i0 (by omega);rw[hA]at x1 x3;rw[hB]at x2 x4;have qa:=fun m:Nat=>pR ba m;have qb:=fun m:Nat=>pR bb m;have mA:A'+1<=A'+1+(B'+1):=by omega
   have mB:B'+1<=A'+1+(B'+1):=by omega
   have t1:jJ [_,_]=_:=zfv ((qa i.toNat).mono mA) ((qb j.toNat).mono mB) (by omega);have t2:jJ [_,_]=_:=zfv ((qa j.toNat).mono mA) ((qb i.toNat).mono mB) (by omega);have ls:rA [_,_]=_:=zr5 ((qa i.toNat).mul (qb j.toNat)) ((qa j.toNat).mul (qb i.toNat)) (by omega);have hw:gr a b e.1=a.getD i.toNat 0*b.getD j.toNat 0-a.getD j.toNat 0*b.getD i.toNat 0:=by unfold gr;rw[eij];rfl
   have b1:aF (gN 7) (av rA (aa (av jJ (aa (e2 aw (eV 1) (eV 4)) (aa (e2 aw (eV 2) (eV 5)) af))) (aa (av jJ (aa (e2 aw (eV 1) (eV 5)) (aa (e2 aw (eV 2) (eV 4)) af))) af))) (LE c T A B (.ow false (rL (eJ n a b pre))) (.val (.int i)) (.val (.int j)) (.val (rT e.2)) y7)=.ok (.nx,LE c T A B (.ow false (rL (eJ n a b pre))) (.val (.int i)) (.val (.int j)) (.val (rT e.2)) (.val (num (gr a b e.1)))):=by
    refine zwT (x:=y7) ?_ rfl n7;rw[hw];simp only[LE,av,aa,af,FL.e2,eV,zz1,zz0,aA,x1,x2,x3,x4,t1,t2,ls]
   have hl:(eJ n a b pre).length=n:=zjc (c:=c) pre fun x m=>by have:=(h.rw x (by rw[he];simp[m])).1;omega
   have rl:=(h.rw e em).1;have lp:pre.length<=10:=by have:=congrArg List.length he;rw[Br]at this;omega
   have bd:∀ x∈eJ n a b pre,QR.Bd M x:=fun x hx=>by
    have:=zjb (n:=n) ba bb pre (eD n) 1 (fun y hy=>by unfold eD at hy;rw[(List.mem_replicate.mp hy).2];exact⟨by decide,by decide⟩) (fun e' m=>(h.rw e' (by rw[he];simp[m])).2) x hx;exact this.mono (zA (Nat.add_le_add_left (Nat.mul_le_mul_left (2*(A'+1+(B'+1))+2+14) lp) _) hM)
   have w:=zyo (xs:=eJ n a b pre) (ys:=e.2) (w:=gr a b e.1) (n:=M) (by omega) bd (fun y hy=>((h.rw e em).2 y hy).mono (by omega)) ((zly ba bb e.1).mono (by omega)) (by omega) (by omega);have b2:xG 3 (eN 3 (av rF (aa (eV 3) (aa (eV 7) (aa (eV 6) af))))) (LE c T A B (.ow false (rL (eJ n a b pre))) (.val (.int i)) (.val (.int j)) (.val (rT e.2)) (.val (num (gr a b e.1))))=.ok (.nx,LE c T A B (.ow false (rL (eJ n a b (pre++[e])))) (.val (.int i)) (.val (.int j)) (.val (rT e.2)) (.val (num (gr a b e.1)))):=by
    rw[zsa];show eN 3 _ (LE c T A B (.val (rL (eJ n a b pre))) (.val (.int i)) (.val (.int j)) (.val (rT e.2)) (.val (num (gr a b e.1))))=_;refine ze1 (x:=.val (rL (eJ n a b pre))) ?_ rfl (eT _);simp only[LE,av,aa,af,eV,zz1,zz0,aA,w,il]
   have b3:=vy (u:=xW) g1 ((cL b1).trans b2);exact⟨_,.nx,b3,.inl rfl,_,_,_,_,eT _,eT _,eT _,eT _,rfl⟩)
 obtain⟨ρ',e,y4,y5,y6,y7,_,_,_,_,rfl⟩:=L;rw[zQ]at e;have s3:x5 (LE c T A B (.ow false (rL (eD n))) .no .no .no .no)=.ok (.nx,LE c T A B (.ow false (rL (eJ n a b t))) y4 y5 y6 y7):=by
  unfold x5 gk;rw[show iE (eZ 0 "Table" 1) (LE c T A B (.ow false (rL (eD n))) .no .no .no .no)=.ok (t.map mh,LE c T A B (.ow false (rL (eD n))) .no .no .no .no) by rw[<- hT];rfl,aA];exact e
 show((vk (LE c T A B .no .no .no .no .no)).bind _)=_;unfold vk;rw[cL s1,cL s2,cL s3]
 rfl
end
variable {d:Int}{es:Es}{k:Nat}{iF:Nat->Nat}
section
noncomputable def un(n w:Nat):List Rat:=(z9 n).map fun i=>if i=w then 1 else 0
abbrev Es:=List (Nat×Nat×Nat)
def fg(n:Nat)(es:Es):Tb:=es.map fun e=>([(e.1:Int),(e.2.1:Int)],un n e.2.2)
theorem zlj(n w:Nat):(un n w).length=n:=by unfold un;rw[za,Dk]
theorem zx9(n w:Nat):∀ x∈un n w,QR.Bd 14 x:=fun x hx=>by
 obtain⟨i,_,rfl⟩:=As.mp hx
 split <;> exact⟨by decide,by decide⟩
theorem zx8{w p:Nat}(h:p≠w):(un n w).getD p 0=0:=by
 unfold un;rw[Aj,zv];cases e:(z9 n)[p]? with
 | none=>rfl
 | some q =>
  obtain⟨h1,h2⟩:=yQ.mp e;rw[List.getElem_range]at h2;show(if q=w then(1:Rat) else 0)=0;rw[if_neg (by omega)]
theorem zgE(w:Rat):∀{s r:List Rat},s.length=r.length->∀ p:Nat,(il s w r).getD p 0=s.getD p 0+w*r.getD p 0
 | [],[],_,p=>by show(0:Rat)=0+w*0;grind
 | a::s,b::r,h,0=>rfl
 | a::s,b::r,h,p+1=>zgE w (s:=s) (r:=r) (by simpa using h) p
theorem zml{s:List Rat}(h:s.length=r.length):(il s w r).length=s.length:=by unfold il;rw[za,Ef,h,Ee]
section
theorem zyn(i j:Nat):gr a b [(i:Int),(j:Int)]=a.getD i 0*b.getD j 0-a.getD j 0*b.getD i 0:=rfl
theorem zjq(h1:∀ p,1<=iF p)(hb:∀ p,iF p<=k->b.getD p 0=0):∀(es:Es) (s:List Rat),(∀ e∈es,iF e.2.2=iF e.1+iF e.2.1)->s.length=n->(∀ p,iF p<=k+1->s.getD p 0=0)->∀ p,iF p<=k+1->((fg n es).foldl (fun s e=>il s (gr a b e.1) e.2) s).getD p 0=0
 | [],s,_,_,hs,p,hp=>hs p hp
 | e::es,s,he,hl,hs,p,hp=>by
  have le:s.length=(un n e.2.2).length:=by rw[zlj,hl]
  refine zjq h1 hb es (il s (gr a b [(e.1:Int),(e.2.1:Int)]) (un n e.2.2)) (fun x m=>he x (yY _ m)) (by rw[zml le,hl]) (fun q hq=>?_) p hp;rw[zgE _ le,hs q hq]
  by_cases c:q=e.2.2
  ·have z:=he e (zm ..)
   have:=h1 e.1;have:=h1 e.2.1;rw[zyn,hb e.1 (by subst c;omega),hb e.2.1 (by subst c;omega)]
   grind
  ·rw[zx8 c]
   grind
theorem zsl(es:Es)(h1:∀ p,1<=iF p)(he:∀ e∈es,iF e.2.2=iF e.1+iF e.2.1)(hb:∀ p,iF p<=k->b.getD p 0=0):∀ p,iF p<=k+1->(eJ n a b (fg n es)).getD p 0=0 :=
 zjq h1 hb es (eD n) he (by unfold eD;rw[A1]) fun p _=>by
  unfold eD;rw[Aj,Aa]
  split <;> rfl
end
theorem zyw(hl:xs.length=n)(h:∀ p,xs.getD p 0=0):xs=eD n:=by
 refine Fo (by unfold eD;rw[A1,hl]) fun i h1 h2=>?_;have:=h i;rw[Aj,yO h1]at this;have z:(eD n)[i]?=some 0:=by unfold eD;rw[Aa,if_pos (by omega)]
 rw[yO h2]at z;exact this.trans (zt z).symm
theorem zxR(hk:(es.map fun e=>[(e.1:Int),(e.2.1:Int)]).Nodup)(he:∀ e∈es,e.1<e.2.1/\e.2.1<n):zgx (n:Int) (fg (n+1) es) where
 nk:=by unfold Gk fg;rw[CO];exact hk
 ky:=fun e m=>by
  obtain⟨x,hx,rfl⟩:=As.mp m;have:=he x hx;exact⟨x.1,x.2.1,rfl,by omega,by omega,by omega⟩
 rw:=fun e m=>by
  obtain⟨x,hx,rfl⟩:=As.mp m;exact⟨by show((un (n+1) x.2.2).length:Int)=_;rw[zlj];omega,zx9 _ _⟩
noncomputable def sh:List (Int×Int):=[(0,0),(1000000000,0),(0,1000000000),(-1000000000,0),(0,-1000000000)]
def kn:List (Int×Int):=(z9 9).flatMap fun(a:Nat)=>(z9 6).flatMap fun(b:Nat)=>sh.map fun s=>((a:Int)-1+s.1,(b:Int)-1+s.2)
noncomputable def qh:List ((Int×Int)×Nat×Es×List Nat×Nat):=[((1,1),1,[],[1,1],1),((2,1),2,[],[1,1,1],1),((3,1),3,[],[1,1,1,1],1),((4,1),4,[],[1,1,1,1,1],1),((5,1),5,[],[1,1,1,1,1,1],1),((6,1),6,[],[1,1,1,1,1,1,1],1),
 ((2,2),3,[(0,1,2)],[1,1,2,1],2),((2,3),5,[(0,1,2),(0,2,3),(1,2,4)],[1,1,2,3,3,1],3),((3,2),6,[(0,1,3),(0,2,4),(1,2,5)],[1,1,1,2,2,2,1],2)]
def bad(l d:Int):Bool:=match rk [.int l,.int d],pC [.int l,.int d] with
 | .ok .none,.ok (.val .none,.ob c [])=>decide (c="NoCount")
 | _,_=>false
theorem zmp:(kn.all fun q=>(qh.any fun g=>decide (g.1=q))||bad q.1 q.2)=true:=by kernel_rfl
theorem znk:rj "NoCount" []=.ok (.str "NoCount"):=by kernel_rfl
theorem zmA(h:bad l d=true):rk [.int l,.int d]=.ok .none/\pC [.int l,.int d]=.ok (.val .none,.ob "NoCount" []):=by
 unfold bad at h
 split at h
 ·rename_i e1 e2
  have:=of_decide_eq_true h;subst this;exact⟨e1,e2⟩
 ·cases h
end
variable {c:Nat}{n:Int}{a:AF}
section
abbrev RE(p:D)(l d:Int)(y3 y4 y5 y6 y7 y8:Sl):En:=[.ow true p,.val (.int l),.val (.int d),y3,y4,y5,y6,y7,y8]
def zez(t:SF):SF:=(ak (aF (gN 3) (av rk (aa (eV 1) (aa (eV 2) af))))
  (ak (qN 4 5 pC (aa (eV 1) (aa (eV 2) af)))
  (ak (aP (tB (e2 isD (eV 3) (eC .none))) (aD (e2 cy (nQ 5 rj) (eC (.str "NoCount")))) aT)
  (ak (uH 6 (eN 6 zeT))
  (ak (aP (FL.eB (FL.tB (sG 5)) (FL.eB (tB (e2 eL (eZ 4 "Table" 0) (e2 aw (eV 3) (eC (.int 0))))) (tB (e2 eL (eZ 4 "Table" 1) (e1 qV (eV 6)))))) (aD (eC (.bool false))) aT)
  (ak (aP (tB (e2 zdH (av zac (iY 4 "Table" af)) (eC .none))) (aD (eC (.bool false))) aT) t))))))
def zft:SF:=(ak (uH 7 (eN 7 uB))
  (ak x6
  (aD (e2 cy (eV 7) (av pD (aa (e2 aG (e2 aw (eV 3) (eC (.int 0))) (eC (.int 1))) af))))))
theorem zht:zaA=zez zft:=rfl
abbrev zof(n:Nat)(es:Es):D:=.list [.int n,.list (es.map fun e=>.tuple [.int e.1,.int (e.2.1:Int),.int (e.2.2:Int)])]
abbrev lvs(n:Nat)(es:Es):List D:=(fg (n+1) es).map mh
abbrev RG(g:(Int×Int)×Nat×Es×List Nat×Nat)(p:D)(y7 y8:Sl):En:=RE p g.1.1 g.1.2 (.val (zof g.2.1 g.2.2.1)) (.ob "Table" [.int (g.2.1:Int),.tuple (lvs g.2.1 g.2.2.1)]) (.val .none) (.val (.list (lvs g.2.1 g.2.2.1))) y7 y8
theorem zuw:∀ g∈qh,∀(p:D) (t:SF),zez t (RE p g.1.1 g.1.2 .no .no .no .no .no .no)=t (RG g p .no .no):=fun g m=>by
 simp only[qh,yH,zS,or_false]at m;rcases m with rfl|rfl|rfl|rfl|rfl|rfl|rfl|rfl|rfl
 ·intro p t;kernel_rfl
 ·intro p t;kernel_rfl
 ·intro p t;kernel_rfl
 ·intro p t;kernel_rfl
 ·intro p t;kernel_rfl
 ·intro p t;kernel_rfl
 ·intro p t;kernel_rfl
 ·intro p t;kernel_rfl
 ·intro p t;kernel_rfl
end
variable {o p p':D}{F:String->List D->R D}{g:Gd}{b:SF}{y8:Sl}
section
abbrev Gd:=(Int×Int)×Nat×Es×List Nat×Nat
noncomputable def i7(g:Gd)(p:Nat):Nat:=g.2.2.2.1.getD p 1
def okG(g:Gd):Bool:=decide (1<=g.2.1)&&decide (g.2.1<=6)&&decide (g.1.2=(g.2.2.2.2:Int))&&decide (1<=g.2.2.2.2)&&decide (g.2.2.2.2<=3)&&decide (g.2.2.1.length<=10)&&decide (g.2.2.1.map fun e=>[(e.1:Int),(e.2.1:Int)]).Nodup&&(g.2.2.1.all fun e=>decide (e.1<e.2.1/\e.2.1<g.2.1)&&decide (i7 g e.2.2=i7 g e.1+i7 g e.2.1))&&g.2.2.2.1.all fun v=>decide (1<=v)&&decide (v<=g.2.2.2.2)
theorem zti:qh.all okG=true:=by kernel_rfl
structure Gf(g:Gd):Prop where
 n1:1<=g.2.1
 n6:g.2.1<=6
 dd:g.1.2=(g.2.2.2.2:Int)
 d1:1<=g.2.2.2.2
 d3:g.2.2.2.2<=3
 el:g.2.2.1.length<=10
 nd:(g.2.2.1.map fun e=>[(e.1:Int),(e.2.1:Int)]).Nodup
 ij:∀ e∈g.2.2.1,e.1<e.2.1/\e.2.1<g.2.1
 lv:∀ e∈g.2.2.1,i7 g e.2.2=i7 g e.1+i7 g e.2.1
 l1:∀ p,1<=i7 g p
 l2:∀ p,i7 g p<=g.2.2.2.2
theorem zpf(m:g∈qh):Gf g:=by
 have h:=zR.mp zti g m;simp only[okG,zf,decide_eq_true_eq,zR]at h;obtain⟨⟨⟨⟨⟨⟨⟨⟨h1,h2⟩,h3⟩,h4⟩,h5⟩,h6⟩,h7⟩,h8⟩,h9⟩:=h;have hp:∀ p,1<=i7 g p/\i7 g p<=g.2.2.2.2:=fun p=>by
  unfold i7;rw[Aj];cases e:g.2.2.2.1[p]? with
  | none=>exact⟨yA _,h4⟩
  | some v=>exact h9 v (Ag e)
 exact⟨h1,h2,h3,h4,h5,h6,h7,fun e m=>(h8 e m).1,fun e m=>(h8 e m).2,fun p=>(hp p).1,fun p=>(hp p).2⟩
noncomputable def Bk:Nat->Nat
 | 0=>14
 | k+1=>1+1+(2*(14+Bk k)+2+14)*10
theorem zmB:∀ k,∃ b,Bk k=b+1
 | 0=>⟨13,rfl⟩
 | k+1=>⟨1+(2*(14+Bk k)+2+14)*10,by show 1+1+_=_;omega⟩
structure St(g:Gd)(c k:Nat)(p:D)(r:List Rat):Prop where
 ln:r.length=g.2.1+1
 bd:∀ x∈r,QR.Bd (Bk k) x
 ze:∀ i,i7 g i<=k->r.getD i 0=0
 pu:dZ (c+21*(k+1)) p
theorem zh8(G:Gf g){y7:Sl}(hp:dZ c p)(hc:c<=3500):∃(xs:List Rat) (p':D),uB (RG g p y7 y8)=.ok (rL xs,RG g p' y7 y8)/\xs.length=g.2.1+1/\(∀ r∈xs,QR.Bd 14 r)/\dZ (c+21) p':=by
 have h6:=G.n6;have hr:xu [.int ((g.2.1:Int)+1)]=.ok (eM 0 ((g.2.1:Int)+1)):=zeU (by omega) (by show _<=1000000;omega);have hl:(eM 0 ((g.2.1:Int)+1)).length=g.2.1+1:=by
  rw[zeX,za,za,Dk];omega
 have it:gI (aa (e2 aG (e2 aw (eV 3) (eC (.int 0))) (eC (.int 1))) af) (RG g p y7 y8)=.ok (eM 0 ((g.2.1:Int)+1),RG g p y7 y8):=by
  unfold gI;have a:aa (e2 aG (e2 aw (eV 3) (eC (.int 0))) (eC (.int 1))) af (RG g p y7 y8)=.ok ([.int ((g.2.1:Int)+1)],RG g p y7 y8):=rfl;rw[a,aA,hr]
  rfl
 obtain⟨xs,p',e,el,eb,ep⟩:=FV.zoe (ρ:=RG g p y7 y8) (ip:=0) (p:=true) (d:=p) rfl hp it (by omega) (by omega);exact⟨xs,p',e,by omega,eb,ep.mono (by omega)⟩
theorem zx1(G:Gf g)(x:D)(n8:Np y8)(S:St g c k p r)(hk:k<=2)(hc:c<=3000) :
  ∃(r':List Rat) (p':D),(gN 8 x (RG g p (.val (rL r)) y8)).bind qX=.ok (.nx,RG g p' (.val (rL r')) (.val x))/\St g c (k+1) p' r':=by
 have h6:=G.n6;obtain⟨xs,p',e,el,eb,ep⟩:=zh8 G (y7:=.val (rL r)) (y8:=.val x) S.pu (by omega);obtain⟨b,hb⟩:=zmB k;have T:=zxR G.nd G.ij;have tl:(fg (g.2.1+1) g.2.2.1).length<=10:=by unfold fg;rw[za];exact G.el
 have M1:Bk (k+1)<=10000000:=by
  match k,hk with
  | 0,_=>decide
  | 1,_=>decide
  | 2,_=>decide
 have bb:∀ y∈r,QR.Bd (b+1) y:=fun y hy=>by rw[<- hb];exact S.bd y hy
 have ba:∀ y∈xs,QR.Bd (13+1) y:=eb;have L:=zr3 (c:=(g.2.1:Int)) (t:=fg (g.2.1+1) g.2.2.1) (n:=g.2.1+1) (a:=xs) (b:=r) (A':=13) (B':=b) (M:=Bk (k+1)) T tl (by omega) (by omega) (by omega) el S.ln ba bb (by show _<=1+1+(2*(14+Bk k)+2+14)*10;rw[hb];omega) M1;refine⟨eJ (g.2.1+1) xs r (fg (g.2.1+1) g.2.2.1),p',?_,zjc (c:=(g.2.1:Int)) _ fun z m=>by have:=(T.rw z m).1;omega,fun y hy=>?_,zsl _ G.l1 G.lv S.ze,ep.mono (by omega)⟩
 ·refine vy (lO rfl n8) ?_
  show qX (RG g p (.val (rL r)) (.val x))=_;unfold qX;refine lu (y:=(rL (eJ (g.2.1+1) xs r (fg (g.2.1+1) g.2.2.1)),RG g p' (.val (rL r)) (.val x))) ?_ rfl (eT _);refine vC (ds:=[.tuple [.int (g.2.1:Int),.tuple (lvs g.2.1 g.2.2.1)],rL xs,rL r]) ?_ L;have q2:xo (RG g p (.val (rL r)) (.val x))=_:=e;unfold iY;show(aa xo (aa (eV 7) af) (RG g p (.val (rL r)) (.val x))).bind _=_;unfold aa;rw[q2]
  rfl
 ·have:=zjb (n:=g.2.1+1) (C:=14) ba bb (fg (g.2.1+1) g.2.2.1) (eD (g.2.1+1)) 1 (fun y hy=>by unfold eD at hy;rw[(List.mem_replicate.mp hy).2];exact⟨by decide,by decide⟩) (fun e' m=>(T.rw e' m).2) y hy
  refine this.mono ?_;show _<=1+1+(2*(14+Bk k)+2+14)*10;rw[hb];exact Nat.add_le_add_left (Nat.mul_le_mul_left _ tl) _
theorem zjk{g:Gd}(G:Gf g){c:Nat}(hc:c<=3000):∀(items:List D) (k:Nat) (p:D) (r:List Rat) (y8:Sl),Np y8->St g c k p r->k+items.length<=3 ->
  ∃(r':List Rat) (p':D) (z8:Sl),forL (gN 8) qX items (RG g p (.val (rL r)) y8)=.ok (.nx,RG g p' (.val (rL r')) z8)/\St g c (k+items.length) p' r'
 | [],k,p,r,y8,_,S,_=>⟨r,p,y8,rfl,S⟩
 | x::items,k,p,r,y8,n8,S,hk=>by
  rw[yK]at hk;obtain⟨r1,p1,er,S1⟩:=zx1 G x n8 S (by omega) hc;obtain⟨r2,p2,z8,es,S2⟩:=zjk G hc items (k+1) p1 r1 (.val x) (eT _) S1 (by omega);refine⟨r2,p2,z8,?_,by rw[yK,show k+(items.length+1)=k+1+items.length by omega];exact S2⟩;obtain⟨ρ1,h1,h2⟩:=@bj vI _ _ _ _ _ er;exact sO h1 h2 es
theorem zkM{l d:D}(h:b [.ow true p,.val l,.val d,.no,.no,.no,.no,.no,.no]=.ok (.rt o,ρ))(h0:ρ[0]?=some (.ow true p')):run [true,false,false] false 9 b [p,l,d]=.ok (o,[p',l,d]):=by
 show((b [.ow true p,.val l,.val d,.no,.no,.no,.no,.no,.no]).bind _)=_;rw[h];show R.ok (o,outs [true,false,false] [p,l,d] ρ)=_;cases ρ with
 | nil=>cases h0
 | cons x ρ=>cases h0;rfl
theorem zot(xs:List Rat):cy (rL xs) (rL xs)=.ok (.bool true):=by
 have pl:Pl 2 (rL xs):=zuk fun d h=>by
  obtain⟨r,_,rfl⟩:=As.mp h;exact zka fun d h=>by
   simp only[yH,zS,or_false]at h;rcases h with rfl|rfl <;> exact qB _
 rw[zbI pl pl,SeqAt.eqv_refl _ pl.1]
theorem zmC(h0:0<=n)(hn:n<=1000):pD [.int n]=.ok (rL (yq n.toNat 0)):=by
 refine qL (ρ:=[.val (.int n)]) rfl ?_;show vm [.val (.int n)]=_;unfold vm aD zeS;have it:gI (aa (eV 0) af) [.val (.int n)]=.ok ((z9 n.toNat).map (fun i:Nat=>zi i),[.val (.int n)]):=by
  simp only[gI,aa,af,eV,zz0,aA];rw[zeU (by omega) (by omega),aA,zeX,CO];simp
 rw[zba (f0:=fun i:Nat=>.int i) (xs:=z9 n.toNat) (fun _=>num 0) it (by rw[Dk];show _<=1000000;omega) fun p mp=>?_]
 ·rw[aA]
  unfold rL;simp[List.map_const']
 ·exact⟨[.val (.int p)],rfl,rfl,zaE trivial⟩
theorem zwK(m:g∈qh)(hp:dZ c p)(hc:c<=3000):∃ p',rp [p,.int g.1.1,.int g.1.2]=.ok (.bool true,[p',.int g.1.1,.int g.1.2])/\dZ (c+84) p':=by
 have G:=zpf m;have h6:=G.n6;have hd:=G.dd;have hd1:=G.d1;have hd3:=G.d3;obtain⟨r,p1,er,rl,rb,q1⟩:=zh8 G (y7:=.no) (y8:=.no) hp (by omega);have S0:St g c 0 p1 r:=⟨rl,rb,fun i hi=>by have:=G.l1 i;omega,q1.mono (by omega)⟩;have hr:xu [.int g.1.2]=.ok (eM 0 g.1.2):=zeU (by omega) (by show _<=1000000;omega);have hl:(eM 0 g.1.2).length=g.2.2.2.2:=by
  rw[zeX,za,za,Dk];omega
 obtain⟨r2,p2,z8,es,S2⟩:=zjk G hc (eM 0 g.1.2) 0 p1 r .no fc S0 (by omega);have rz:r2=eD (g.2.1+1):=zyw S2.ln fun i=>S2.ze i (by have:=G.l2 i;omega);have bl:pD [.int ((g.2.1:Int)+1)]=.ok (rL (eD (g.2.1+1))):=by
  have:=zmC (n:=(g.2.1:Int)+1) (by omega) (by omega);rw[show((g.2.1:Int)+1).toNat=g.2.1+1 by omega]at this;exact this
 refine⟨p2,zkM (ρ:=RG g p2 (.val (rL r2)) z8) ?_ rfl,S2.pu.mono (by omega)⟩;rw[zht];refine(zuw g m p zft).trans ?_;unfold zft;refine(cL (ρ1:=RG g p1 (.val (rL r)) .no) ?_).trans ?_
 ·show(eN 7 uB (RG g p .no .no)).bind _=_
  rw[zkO (y:=(rL r,RG g p1 .no .no)) er rfl fc]
  rfl
 refine(cL (ρ1:=RG g p2 (.val (rL r2)) z8) ?_).trans ?_
 ·have a:aa (eV 2) af (RG g p1 (.val (rL r)) .no)=.ok ([.int g.1.2],RG g p1 (.val (rL r)) .no):=rfl
  unfold x6 gk gI;rw[a,aA,hr,aA];exact es
 ·have ev:FL.e2 cy (eV 7) (av pD (aa (e2 aG (e2 aw (eV 3) (eC (.int 0))) (eC (.int 1))) af)) (RG g p2 (.val (rL r2)) z8)=.ok (.bool true,RG g p2 (.val (rL r2)) z8) :=
   iu rfl (vC (ds:=[.int ((g.2.1:Int)+1)]) rfl bl) (by rw[rz];exact zot _)
  unfold aD;rw[ev]
  rfl
end
variable {i:Nat}{v:Int}
section
theorem zwS{s t:SF}{d:D}(h:s ρ=.ok (.rt d,ρ1)):ak s t ρ=.ok (.rt d,ρ1):=by
 unfold ak;rw[h];rfl
theorem zm8{c:String}{ds:List D}{d:D}(h:ρ[i]?=some (.ob c ds))(k:F c ds=.ok d):nQ i F ρ=.ok (d,ρ):=by
 unfold nQ;rw[h];dsimp only;rw[k];rfl
theorem zx7{F:List D->R (Sl×Sl)}{ds:List D}{s t:Sl}{j:Nat}{y:Sl}(ha:a ρ=.ok (ds,ρ))(h:F ds=.ok (s,t))(ps:gi s=true)(pt:gi t=true)(hx:ρ[i]?=some x)(nx:Np x)(hy:(ρ.set i s)[j]?=some y)(ny:Np y):qN i j F a ρ=.ok (.nx,(ρ.set i s).set j t):=by
 have put:∀{ρ:En} {i:Nat} {x s:Sl},ρ[i]?=some x->Np x->kg ρ i s=.ok (ρ.set i s):=fun{ρ i x s} h n=>by
  unfold kg;rw[h];cases x with
  | ow p d =>
   cases p with
   | true=>exact absurd rfl (n d)
   | false=>rfl
  | _=>rfl
 unfold qN;rw[ha,aA,h,aA,if_pos ⟨ps,pt⟩,put hx nx,aA,put hy ny]
 rfl
theorem zwJ(h:bad l d=true)(p:D):rp [p,.int l,.int d]=.ok (.bool true,[p,.int l,.int d]):=by
 obtain⟨hd,ha⟩:=zmA h;have s2:qN 4 5 pC (aa (eV 1) (aa (eV 2) af)) (RE p l d (.val .none) .no .no .no .no .no)=.ok (.nx,RE p l d (.val .none) (.val .none) (.ob "NoCount" []) .no .no .no):=by
  exact zx7 (x:=.no) (y:=.no) rfl ha rfl rfl rfl fc rfl fc
 have ec:nQ 5 rj (RE p l d (.val .none) (.val .none) (.ob "NoCount" []) .no .no .no)=.ok (.str "NoCount",RE p l d (.val .none) (.val .none) (.ob "NoCount" []) .no .no .no):=by
  exact zm8 rfl znk
 have eq:cy (.str "NoCount") (.str "NoCount")=.ok (.bool true):=by kernel_rfl
 refine zkM (ρ:=RE p l d (.val .none) (.val .none) (.ob "NoCount" []) .no .no .no) ?_ rfl;rw[zht];unfold zez;refine(cL (ρ1:=RE p l d (.val .none) .no .no .no .no .no) (lu (y:=(.none,RE p l d .no .no .no .no .no .no)) (vC rfl hd) rfl fc)).trans ((cL s2).trans (zwS ?_));refine(ze0 (zfo (iu rfl rfl rfl))).trans ?_;unfold aD;rw[iu ec rfl eq]
 rfl
theorem zyW:fH=lF:=rfl
theorem zdz(h1:-1<=l)(h2:l<=7)(h3:-1<=d)(h4:d<=4)(hs:s∈sh):(l+s.1,d+s.2)∈kn:=by
 refine List.mem_flatMap.mpr ⟨(l+1).toNat,CV.mpr (by omega),List.mem_flatMap.mpr ⟨(d+1).toNat,CV.mpr (by omega),As.mpr ⟨s,hs,?_⟩⟩⟩;exact DE (by show((l+1).toNat:Int)-1+s.1=_;omega) (by show((d+1).toNat:Int)-1+s.2=_;omega)
abbrev PE(p:D)(y1 y2 y3:Sl):En:=[.ow true p,y1,y2,y3]
noncomputable def four:D:=.list [.tuple [.int 2,.int 2],.tuple [.int 2,.int 3],.tuple [.int 3,.int 2],.tuple [.int 6,.int 1]]
theorem zoU(h0:0<=v)(h1:v<4):∃ l d:Int,aw four (.int v)=.ok (.tuple [.int l,.int d])/\-1<=l/\l<=7/\-1<=d/\d<=4:=by
 have:v=0\/v=1\/v=2\/v=3:=by omega
 rcases this with rfl|rfl|rfl|rfl
 ·exact⟨2,2,rfl,by decide,by decide,by decide,by decide⟩
 ·exact⟨2,3,rfl,by decide,by decide,by decide,by decide⟩
 ·exact⟨3,2,rfl,by decide,by decide,by decide,by decide⟩
 ·exact⟨6,1,rfl,by decide,by decide,by decide,by decide⟩
noncomputable def fl:D:=.list [.int 1000000000,.int 0,.int (-1000000000),.int 0]
noncomputable def fd:D:=.list [.int 0,.int 1000000000,.int 0,.int (-1000000000)]
theorem zoz(h0:0<=v)(h1:v<4):∃ s∈sh,aw fl (.int v)=.ok (.int s.1)/\aw fd (.int v)=.ok (.int s.2):=by
 have:v=0\/v=1\/v=2\/v=3:=by omega
 rcases this with rfl|rfl|rfl|rfl
 ·exact⟨(1000000000,0),by decide,rfl,rfl⟩
 ·exact⟨(0,1000000000),by decide,rfl,rfl⟩
 ·exact⟨(-1000000000,0),by decide,rfl,rfl⟩
 ·exact⟨(0,-1000000000),by decide,rfl,rfl⟩
theorem zoF(ρ:En):bf (aa (e2 dA (eC (.int 10)) (eC (.int 9))) (aa (eC (.int 0)) (aa (e2 dN (eC (.int 0)) (e2 dA (eC (.int 10)) (eC (.int 9)))) (aa (eC (.int 0)) af)))) ρ=.ok (fl,ρ):=rfl
theorem zoD(ρ:En):bf (aa (eC (.int 0)) (aa (e2 dA (eC (.int 10)) (eC (.int 9))) (aa (eC (.int 0)) (aa (e2 dN (eC (.int 0)) (e2 dA (eC (.int 10)) (eC (.int 9)))) af)))) ρ=.ok (fd,ρ):=rfl
theorem zkL(h:b (PE p .no .no .no)=.ok (.rt o,ρ))(h0:ρ[0]?=some (.ow true p')):run [true] false 4 b [p]=.ok (o,[p']):=by
 show((b (PE p .no .no .no)).bind _)=_;rw[h];show R.ok (o,outs [true] [p] ρ)=_;cases ρ with
 | nil=>cases h0
 | cons x ρ=>cases h0;rfl
theorem zjS(hp:dZ c p)(hc:c<=50000):∃(l d:Int) (p':D),pE [p]=.ok (.tuple [.int l,.int d],[p'])/\(l,d)∈kn/\dZ (c+5) p':=by
 obtain⟨a,p1,t1,a0,a1,q1⟩:=lC hp (by omega) 9 (by decide) (by decide);obtain⟨b,p2,t2,b0,b1,q2⟩:=lC q1 (by omega) 6 (by decide) (by decide);obtain⟨w,p3,t3,w0,w1,q3⟩:=lC q2 (by omega) 2 (by decide) (by decide);have s1:aF (gN 1) (e2 dN (bO fH [.m 0,.v (eC (.int 9))]) (eC (.int 1))) (PE p .no .no .no)=.ok (.nx,PE p1 (.val (.int (a-1))) .no .no) :=
  lu (y:=(.int (a-1),PE p1 .no .no .no)) (iu (a:=.int a) (b:=.int 1) (pT (p:=true) (d:=p) (v:=.int 9) rfl rfl t1) rfl rfl) rfl fc
 have s2:aF (gN 2) (e2 dN (bO fH [.m 0,.v (eC (.int 6))]) (eC (.int 1))) (PE p1 (.val (.int (a-1))) .no .no)=.ok (.nx,PE p2 (.val (.int (a-1))) (.val (.int (b-1))) .no) :=
  lu (y:=(.int (b-1),PE p2 (.val (.int (a-1))) .no .no)) (iu (a:=.int b) (b:=.int 1) (pT (p:=true) (d:=p1) (v:=.int 6) rfl rfl t2) rfl rfl) rfl fc
 have tt:tB (FL.e2 cy (bO fH [.m 0,.v (eC (.int 2))]) (eC (.int 0))) (PE p2 (.val (.int (a-1))) (.val (.int (b-1))) .no)=.ok (decide (w=0),PE p3 (.val (.int (a-1))) (.val (.int (b-1))) .no):=zfo (iu (a:=.int w) (b:=.int 0) (pT (p:=true) (d:=p2) (v:=.int 2) rfl rfl t3) rfl (vS w 0));obtain⟨l,d,p4,s3,h1,h2,h3,h4,q4⟩:∃(l d:Int) (p4:D),aP (tB (e2 cy (bO fH [.m 0,.v (eC (.int 2))]) (eC (.int 0)))) (aF (gT [gN 1,gN 2]) (e2 aw (bf (jR [.tuple [.int 2,.int 2],.tuple [.int 2,.int 3],.tuple [.int 3,.int 2],.tuple [.int 6,.int 1]])) (bO fH [.m 0,.v (eC (.int 4))]))) aT (PE p2 (.val (.int (a-1))) (.val (.int (b-1))) .no)=.ok (.nx,PE p4 (.val (.int l)) (.val (.int d)) .no)/\-1<=l/\l<=7/\-1<=d/\d<=4/\dZ (c+4) p4:=by
  by_cases hw:w=0
  ·rw[decide_eq_true hw]at tt
   obtain⟨v,p4,t4,v0,v1,q4⟩:=lC q3 (by omega) 4 (by decide) (by decide);obtain⟨l,d,e4,h1,h2,h3,h4⟩:=zoU v0 v1;refine⟨l,d,p4,(ze0 tt).trans ?_,h1,h2,h3,h4,q4⟩;have ex:FL.e2 aw (bf (jR [.tuple [.int 2,.int 2],.tuple [.int 2,.int 3],.tuple [.int 3,.int 2],.tuple [.int 6,.int 1]])) (bO fH [.m 0,.v (eC (.int 4))]) (PE p3 (.val (.int (a-1))) (.val (.int (b-1))) .no)=.ok (.tuple [.int l,.int d],PE p4 (.val (.int (a-1))) (.val (.int (b-1))) .no):=iu (a:=four) (b:=.int v) rfl (pT (p:=true) (d:=p3) (v:=.int 4) rfl rfl t4) e4;unfold aF;rw[ex,aA];show(gT [gN 1,gN 2] (.tuple [.int l,.int d]) (PE p4 (.val (.int (a-1))) (.val (.int (b-1))) .no)).bind _=_;rw[FV.gT2 (x:=.val (.int (a-1))) (y:=.val (.int (b-1))) rfl (eT _) rfl (eT _)]
   rfl
  ·rw[decide_eq_false hw]at tt
   exact⟨a-1,b-1,p3,(zeZ tt).trans rfl,by omega,by omega,by omega,by omega,q3.mono (by omega)⟩
 obtain⟨f,p5,t5,f0,f1,q5⟩:=lC q4 (by omega) 14 (by decide) (by decide);have s4:aF (gN 3) (bO fH [.m 0,.v (eC (.int 14))]) (PE p4 (.val (.int l)) (.val (.int d)) .no)=.ok (.nx,PE p5 (.val (.int l)) (.val (.int d)) (.val (.int f))) :=
  lu (y:=(.int f,PE p5 (.val (.int l)) (.val (.int d)) .no)) (pT (p:=true) (d:=p4) (v:=.int 14) rfl rfl t5) rfl fc
 have fin:∀(l' d':Int) (t:SF),(l',d')∈kn->t (PE p5 (.val (.int l)) (.val (.int d)) (.val (.int f)))=.ok (.nx,PE p5 (.val (.int l')) (.val (.int d')) (.val (.int f)))->ak t (aD (bg (aa (eV 1) (aa (eV 2) af)))) (PE p5 (.val (.int l)) (.val (.int d)) (.val (.int f)))=.ok (.rt (.tuple [.int l',.int d']),PE p5 (.val (.int l')) (.val (.int d')) (.val (.int f))):=fun l' d' t _ e=>(cL e).trans rfl;have t2':tB (FL.e2 ft (eV 3) (eC (.int 4))) (PE p5 (.val (.int l)) (.val (.int d)) (.val (.int f)))=.ok (decide (f<4),PE p5 (.val (.int l)) (.val (.int d)) (.val (.int f))):=zfo (iu (a:=.int f) (b:=.int 4) rfl rfl (zdw f 4))
 by_cases hf:f<4
 ·rw[decide_eq_true hf]at t2'
  obtain⟨s,hs,x1,x2⟩:=zoz f0 hf;refine⟨l+s.1,d+s.2,p5,zkL (ρ:=PE p5 (.val (.int (l+s.1))) (.val (.int (d+s.2))) (.val (.int f))) ?_ rfl,zdz h1 h2 h3 h4 hs,q5⟩;unfold vn;refine(cL s1).trans ((cL s2).trans ((cL s3).trans ((cL s4).trans (fin _ _ _ (zdz h1 h2 h3 h4 hs) ((ze0 t2').trans ((cL (ρ1:=PE p5 (.val (.int (l+s.1))) (.val (.int d)) (.val (.int f))) ?_).trans ?_))))))
  ·exact lu (y:=(.int (l+s.1),PE p5 (.val (.int l)) (.val (.int d)) (.val (.int f)))) (iu (a:=.int l) (b:=.int s.1) rfl (iu (zoF _) rfl x1) rfl) rfl (eT _)
  ·exact lu (y:=(.int (d+s.2),PE p5 (.val (.int (l+s.1))) (.val (.int d)) (.val (.int f)))) (iu (a:=.int d) (b:=.int s.2) rfl (iu (zoD _) rfl x2) rfl) rfl (eT _)
 ·rw[decide_eq_false hf]at t2'
  have m:(l,d)∈kn:=by
   have:=zdz h1 h2 h3 h4 (s:=(0,0)) (by decide)
   rwa [Int.add_zero,Int.add_zero]at this
  refine⟨l,d,p5,zkL (ρ:=PE p5 (.val (.int l)) (.val (.int d)) (.val (.int f))) ?_ rfl,m,q5⟩;unfold vn;exact(cL s1).trans ((cL s2).trans ((cL s3).trans ((cL s4).trans (fin _ _ _ m ((zeZ t2').trans rfl)))))
theorem zwL(m:(l,d)∈kn)(hp:dZ c p)(hc:c<=3000):∃ p',rp [p,.int l,.int d]=.ok (.bool true,[p',.int l,.int d])/\dZ (c+84) p':=by
 have h:=zR.mp zmp _ m;rw[D1,List.any_eq_true]at h;rcases h with⟨g,mg,e⟩|h
 ·have e:=of_decide_eq_true e
  have:=zwK mg hp hc;rw[e]at this;exact this
 ·exact⟨p,zwJ h p,hp.mono (by omega)⟩
end
variable {P S:D}{y4 y5:Sl}{a:Int}
section
abbrev CE(S a p P:D)(y4 y5:Sl):En:=[.val S,.val a,.ow false p,.val P,y4,y5]
theorem zfy{a:D}(m:(l,d)∈kn)(hp:dZ c p)(hc:c<=3000)(n4:Np y4)(n5:Np y5):∃ p',(gT [gN 4,gN 5] (.tuple [.int l,.int d]) (CE S a p P y4 y5)).bind qY=.ok (.nx,CE S a p' P (.val (.int l)) (.val (.int d)))/\dZ (c+84) p':=by
 obtain⟨p',e,q⟩:=zwL m hp hc;refine⟨p',vy (FV.gT2 rfl n4 rfl n5) ?_,q⟩;show qY (CE S a p P (.val (.int l)) (.val (.int d)))=_;unfold qY;exact(zeZ (zsU (zxi (zm9 (p:=false) (d:=p) (v:=.int l) (u:=.int d) rfl rfl rfl e)))).trans rfl
theorem ztE{a:D}{l1 d1 l2 d2:Int}(m1:(l1,d1)∈kn)(m2:(l2,d2)∈kn)(hp:dZ c p)(hc:c<=2000)(n4:Np y4)(n5:Np y5) :
  ∃ p',forL (gT [gN 4,gN 5]) qY [.tuple [.int l1,.int d1],.tuple [.int l2,.int d2],.tuple [.int l1,.int d1]] (CE S a p P y4 y5)=.ok (.nx,CE S a p' P (.val (.int l1)) (.val (.int d1))):=by
 obtain⟨p1,er1,q1⟩:=zfy (S:=S) (a:=a) (P:=P) m1 hp (by omega) n4 n5;obtain⟨p2,er2,q2⟩:=zfy (S:=S) (a:=a) (P:=P) m2 q1 (by omega) (eT (.int l1)) (eT (.int d1));obtain⟨p3,er3,q3⟩:=zfy (S:=S) (a:=a) (P:=P) m1 q2 (by omega) (eT (.int l2)) (eT (.int d2));obtain⟨z1,g1,h1⟩:=@bj vI _ _ _ _ _ er1;obtain⟨z2,g2,h2⟩:=@bj vI _ _ _ _ _ er2;obtain⟨z3,g3,h3⟩:=@bj vI _ _ _ _ _ er3;exact⟨p3,sO g1 h1 (sO g2 h2 (sO g3 h3 rfl))⟩
theorem zu0:zag=uY:=rfl
theorem znj{y2 y3:Sl}(n2:Np y2)(n3:Np y3)(n4:Np y4)(n5:Np y5):∃ z2 z3 z4 z5,Np z2/\Np z3/\Np z4/\Np z5/\uP [.val S,.val (.int a),y2,y3,y4,y5]=.ok (.nx,[.val S,.val (.int a),z2,z3,z4,z5]):=by
 obtain⟨p,ep,q⟩:=zu1 a 15 (by decide);rw[<- zu0]at ep;obtain⟨l1,d1,p1,x1,m1,q1⟩:=zjS q (by omega);obtain⟨l2,d2,p2,x2,m2,q2⟩:=zjS q1 (by omega);obtain⟨p3,er⟩:=ztE (S:=S) (a:=.int a) (P:=.list [.tuple [.int l1,.int d1],.tuple [.int l2,.int d2]]) m1 m2 q2 (by omega) n4 n5;refine⟨.ow false p3,.val (.list [.tuple [.int l1,.int d1],.tuple [.int l2,.int d2]]),.val (.int l1),.val (.int d1),zsV _,eT _,eT _,eT _,?_⟩;have l2':leB 2 lim=true:=by decide
 have l3:leB 3 lim=true:=by decide
 unfold uP;refine(cL (ρ1:=[.val S,.val (.int a),.ow false p,y3,y4,y5]) (ze1 (vC rfl ep) rfl n2)).trans ?_;refine(cL (ρ1:=CE S (.int a) p2 (.list [.tuple [.int l1,.int d1],.tuple [.int l2,.int d2]]) y4 y5) ?_).trans ?_
 ·refine lu (y:=(.list [.tuple [.int l1,.int d1],.tuple [.int l2,.int d2]],[.val S,.val (.int a),.ow false p2,y3,y4,y5])) ?_ rfl n3
  have c1:bO pE [.m 2] [.val S,.val (.int a),.ow false p,y3,y4,y5]=.ok (.tuple [.int l1,.int d1],[.val S,.val (.int a),.ow false p1,y3,y4,y5]):=zaW (p:=false) (d:=p) rfl x1;have c2:bO pE [.m 2] [.val S,.val (.int a),.ow false p1,y3,y4,y5]=.ok (.tuple [.int l2,.int d2],[.val S,.val (.int a),.ow false p2,y3,y4,y5]):=zaW (p:=false) (d:=p1) rfl x2;unfold bf aa;rw[c1,aA];dsimp only;rw[c2,aA]
  rfl
 ·have it:iE (FL.e2 aG (eV 3) (kA (eV 3) kT (kU (eC (.int 1))))) (CE S (.int a) p2 (.list [.tuple [.int l1,.int d1],.tuple [.int l2,.int d2]]) y4 y5)=.ok ([.tuple [.int l1,.int d1],.tuple [.int l2,.int d2],.tuple [.int l1,.int d1]],CE S (.int a) p2 (.list [.tuple [.int l1,.int d1],.tuple [.int l2,.int d2]]) y4 y5):=by
   have sl:kA (eV 3) kT (kU (eC (.int 1))) (CE S (.int a) p2 (.list [.tuple [.int l1,.int d1],.tuple [.int l2,.int d2]]) y4 y5)=.ok (.list [.tuple [.int l1,.int d1]],CE S (.int a) p2 (.list [.tuple [.int l1,.int d1],.tuple [.int l2,.int d2]]) y4 y5):=rfl;unfold iE;rw[iu (g:=aG) (f:=eV 3) (a:=.list [.tuple [.int l1,.int d1],.tuple [.int l2,.int d2]]) rfl sl (show _=R.ok (.list [.tuple [.int l1,.int d1],.tuple [.int l2,.int d2],.tuple [.int l1,.int d1]]) from eI l3)]
   rfl
  unfold zfD gk;rw[it,aA];exact er
theorem zr2(ns:List Int)(hl:ns.length<=63):rq [.list (ns.map zi)]=.ok (.bool true):=by
 obtain⟨x,ex⟩:=zmv ns 2 (by decide) (by decide);replace ex:uV [.list (ns.map zi),.int 2]=.ok (.int x):=ex;generalize hS:CP (ns.map zi)=S at ex;obtain⟨ρ',e,_⟩:=zbN (f:=zi) (g:=gN 1) (b:=uP)
  (fun _ ρ=>∃ y1 y2 y3 y4 y5,(Np y1/\Np y2/\Np y3/\Np y4/\Np y5)/\ρ=[.val S,y1,y2,y3,y4,y5])
  (ns.take 8++[x]) [] (.val S::yq 5 .no) ⟨_,_,_,_,_,⟨fc,fc,fc,fc,fc⟩,rfl⟩ (by
   rintro pre a post ρ _ ⟨y1,y2,y3,y4,y5,⟨n1,n2,n3,n4,n5⟩,rfl⟩;obtain⟨z2,z3,z4,z5,m2,m3,m4,m5,e⟩:=znj (S:=S) (a:=a) n2 n3 n4 n5;exact⟨_,.nx,vy (lO rfl n1) e,.inl rfl,_,_,_,_,_,⟨eT _,m2,m3,m4,m5⟩,rfl⟩)
 have sl:ze4 S none (some 8)=.ok (.list ((ns.take 8).map zi)):=by
  rw[<- hS];show R.ok (CP (cut (ns.map zi) none (some ((8:Nat):Int))))=_;rw[znt,List.map_take]
 have ad:aG (.list ((ns.take 8).map zi)) (.list [.int x])=.ok (.list ((ns.take 8++[x]).map zi)):=by
  show aY (leB (((ns.take 8).map zi).length+1) lim) _=_;rw[eI (by rw[za,DB];exact tQ (zA (show _<=9 by omega) (by decide))),List.map_append];rfl
 have l1:leB 1 lim=true:=by decide
 have s1:x8 (.val S::yq 5 .no)=.ok (.nx,ρ'):=by
  have it:iE (FL.e2 aG (kA (eV 0) kT (kU (eC (.int 8)))) (bf (aa (av uV (aa (eV 0) (aa (eC (.int 2)) af))) af))) (.val S::yq 5 .no)=.ok ((ns.take 8++[x]).map zi,.val S::yq 5 .no):=by
   simp only[iE,FL.e2,kA,eV,eC,kT,kU,bf,aa,af,av,zz0,aA,sl,ex,aY,l1,if_true,yK,zx,zX,ad,ziS]
  unfold x8 gk;rw[it,aA];exact e
 refine qL (ρ:=ρ') rfl ?_;show vo (.val S::yq 5 .no)=_;unfold vo;rw[cL s1]
 rfl
end
end K13
open PySem PySem.W PyProof.Rows
namespace PySem.W.Fast
theorem tw5170281427730406400:True:=trivial
theorem tw17867707729136780608:True:=trivial
theorem tw2507229324867622400:True:=trivial
theorem tw9656031501806909088:True:=trivial
theorem tw14746458181231598240:True:=trivial
theorem tw2774478813920153376:True:=trivial
theorem tw9039625563217078273:True:=trivial
theorem tw13082757183928578081:True:=trivial
theorem tw8536454956106835361:True:=trivial
theorem tw15022848338112834465:True:=trivial
theorem tw273740635079568353:True:=trivial
theorem tw2644735181660339330:True:=trivial
theorem tw14304400760640789730:True:=trivial
theorem tw200345391897683682:True:=trivial
theorem tw225409101195505699:True:=trivial
theorem tw18332587205387299139:True:=trivial
theorem tw10305119846828560259:True:=trivial
theorem tw363286368038273955:True:=trivial
theorem tw13413679203433273251:True:=trivial
theorem tw1848912589667513508:True:=trivial
theorem tw6153997802854066372:True:=trivial
theorem tw14343659277646942404:True:=trivial
theorem tw1727710961459788036:True:=trivial
theorem tw10391301156069513700:True:=trivial
theorem tw219949602308251396:True:=trivial
theorem tw12325416951041079365:True:=trivial
theorem tw8566651578334230629:True:=trivial
theorem tw9576185245934880357:True:=trivial
theorem tw7386928580600028901:True:=trivial
theorem tw17541295327817676613:True:=trivial
theorem tw10963300435116084101:True:=trivial
theorem tw4339567827919152294:True:=trivial
theorem tw11245277086001886662:True:=trivial
theorem tw6509656358249955814:True:=trivial
theorem tw11548293625096352486:True:=trivial
theorem tw6437340370717447014:True:=trivial
theorem tw18418469096374993798:True:=trivial
theorem tw475312117155239878:True:=trivial
theorem tw2613178533783620647:True:=trivial
theorem tw16989111478017583207:True:=trivial
theorem tw8270454357716655463:True:=trivial
theorem tw13553389376141718151:True:=trivial
theorem tw7870637808412138279:True:=trivial
theorem tw15131564529239674791:True:=trivial
theorem tw11722707457112414728:True:=trivial
theorem tw15427657385017501256:True:=trivial
theorem tw3714172695264667560:True:=trivial
theorem tw16258535444596340841:True:=trivial
theorem tw17570081915543591305:True:=trivial
theorem tw17828225444181164489:True:=trivial
theorem tw8246554782396805897:True:=trivial
theorem tw16705459232297222089:True:=trivial
theorem tw12038850771097526538:True:=trivial
theorem tw17223962633082686954:True:=trivial
theorem tw17170752410963456554:True:=trivial
theorem tw11998550024036160106:True:=trivial
theorem tw7669826845902113546:True:=trivial
theorem tw15759035983391137578:True:=trivial
theorem tw11025461206125173642:True:=trivial
theorem tw2381438988508605354:True:=trivial
theorem tw3975298572484686955:True:=trivial
theorem tw8836583406831860171:True:=trivial
theorem tw2648588463340625515:True:=trivial
theorem tw17714889383381206699:True:=trivial
theorem tw11332300200784190283:True:=trivial
theorem tw12329791534938057932:True:=trivial
theorem tw12610480644897556876:True:=trivial
theorem tw9641246599405552236:True:=trivial
theorem tw9034692745591904044:True:=trivial
theorem tw6873755096140135244:True:=trivial
theorem tw1146893973357472620:True:=trivial
theorem tw14186075272458042284:True:=trivial
theorem tw11279731916242838925:True:=trivial
theorem tw8185737325347870221:True:=trivial
theorem tw8765309866914780877:True:=trivial
theorem tw12026806239553267469:True:=trivial
theorem tw9423838004950915949:True:=trivial
theorem tw1125399285416640622:True:=trivial
theorem tw9900993059417218446:True:=trivial
theorem tw3718837912435127886:True:=trivial
theorem tw13617014996268899918:True:=trivial
theorem tw2412607925058730702:True:=trivial
theorem tw11061191449202578222:True:=trivial
theorem tw9210715593743058287:True:=trivial
theorem tw9998205757170237007:True:=trivial
theorem tw6669246451121132175:True:=trivial
theorem tw16455283481363303279:True:=trivial
theorem tw13657530402336302959:True:=trivial
theorem tw1178384750088803215:True:=trivial
theorem tw10879822325687629840:True:=trivial
theorem tw2856119703668099120:True:=trivial
theorem tw10325977778651791600:True:=trivial
theorem tw14585769655366205296:True:=trivial
theorem tw12076243505685904304:True:=trivial
theorem tw7803863060528848848:True:=trivial
theorem tw12653557863178427601:True:=trivial
theorem tw14242442726635989201:True:=trivial
theorem tw16319670816128207249:True:=trivial
theorem tw5266737842074678001:True:=trivial
theorem tw17461822568324796850:True:=trivial
theorem tw4062391590880005554:True:=trivial
theorem tw15738518580763438994:True:=trivial
theorem tw8943407837123571795:True:=trivial
theorem tw929226198408017043:True:=trivial
theorem tw14858289719870679379:True:=trivial
theorem tw5757500709338475987:True:=trivial
theorem tw4263483565285531571:True:=trivial
theorem tw13348907553518490900:True:=trivial
theorem tw8655505110961586516:True:=trivial
theorem tw14474517576036500884:True:=trivial
theorem tw10440607618970523412:True:=trivial
theorem tw2848081090030950421:True:=trivial
theorem tw3867061939482594357:True:=trivial
theorem tw16114704523360011349:True:=trivial
theorem tw10384057180168433749:True:=trivial
theorem tw8086546227970545205:True:=trivial
theorem tw7807602099784891989:True:=trivial
theorem tw6654093544844661558:True:=trivial
theorem tw8664771365456057142:True:=trivial
theorem tw7588351060113616023:True:=trivial
theorem tw7435861554170304983:True:=trivial
theorem tw6900909759037933335:True:=trivial
theorem tw5398817831565043671:True:=trivial
theorem tw409572609210731479:True:=trivial
theorem tw13990326108067220504:True:=trivial
theorem tw9802302901086547256:True:=trivial
theorem tw17860294177096745336:True:=trivial
theorem tw7162325660946299256:True:=trivial
theorem tw10935572364698969464:True:=trivial
theorem tw1362998926819353144:True:=trivial
theorem tw3578019453248222297:True:=trivial
theorem tw11602999275069454713:True:=trivial
theorem tw11388866161562013113:True:=trivial
theorem tw11986011581578280441:True:=trivial
theorem tw12622117070698226393:True:=trivial
theorem tw13002600515862828314:True:=trivial
theorem tw15397896072229935610:True:=trivial
theorem tw14604381043084619322:True:=trivial
theorem tw1515704981092106906:True:=trivial
theorem tw2144271176157203258:True:=trivial
theorem tw5841360799122340762:True:=trivial
theorem tw3214854905400137690:True:=trivial
theorem tw14805375273893324923:True:=trivial
theorem tw3545033262011246939:True:=trivial
theorem tw10503944073186233787:True:=trivial
theorem tw6129311984981010043:True:=trivial
theorem tw7148754252719824571:True:=trivial
theorem tw18072479810867105659:True:=trivial
theorem tw13163045589633856636:True:=trivial
theorem tw10915655259678138524:True:=trivial
theorem tw16386149302242076220:True:=trivial
theorem tw8417445331021147708:True:=trivial
theorem tw16628914198461858716:True:=trivial
theorem tw10889936280085426108:True:=trivial
theorem tw15997039247713572860:True:=trivial
theorem tw4730162766402324541:True:=trivial
theorem tw15565153357767337021:True:=trivial
theorem tw7060786746518243517:True:=trivial
theorem tw11779038940258162109:True:=trivial
theorem tw5797890127809800893:True:=trivial
theorem tw883975134872806237:True:=trivial
theorem tw4403970123310864253:True:=trivial
theorem tw14786973364295859101:True:=trivial
theorem tw14843161504023608510:True:=trivial
theorem tw18029149374641420638:True:=trivial
theorem tw14679776177044128126:True:=trivial
theorem tw669068130510790046:True:=trivial
theorem tw12883489781377886878:True:=trivial
theorem tw3163385488219556766:True:=trivial
theorem tw8217750225715659742:True:=trivial
theorem tw10185345618622325823:True:=trivial
theorem tw2111346391138375807:True:=trivial
theorem tw18071058980277261503:True:=trivial
theorem tw10644121838792075519:True:=trivial
theorem tw6109580210234982815:True:=trivial
theorem tw8359193096199944639:True:=trivial
theorem tw1006287151056103935:True:=trivial
theorem tw9115631823131968095:True:=trivial
theorem tw14906138193932290847:True:=trivial
theorem tw14349843436146039615:True:=trivial
end PySem.W.Fast
set_option maxRecDepth 100000 in
set_option maxHeartbeats 0 in
theorem PySem.Challenge.cw_swaprest_k13_loose_tables_holds : PySem.Challenge.rw_swaprest_k13_loose_tables.Holds := by
 w_on; o_law; k_head; (case hw => w_witness2)
 k_fill
 refine K13.walk (l:=PySem.Challenge.rw_swaprest_k13_loose_tables) K13.zr2 rfl rfl (by decide +kernel) rfl (fun w h Y => PySem.W.kIn_of Y) ?F
 case F =>
  intro w mg fa h KX G hmg
  refine' K13.all_mk KX G hmg ?oo0 ?oo1 ?oo2 ?oo3 ?oo4 ?oo5 ?oo6 ?oo7 ?oo8 ?oo9 ?oo10 ?oo11 ?oo12 ?oo13 ?oo14 ?oo15 ?oo16 ?oo17 ?oo18 ?oo19 ?oo20 ?oo21 ?oo22 ?oo23 ?oo24 ?oo25 ?oo26 ?oo27 ?oo28 ?oo29 ?oo30 ?oo31 ?oo32 ?oo33 ?oo34 ?oo35 ?oo36 ?oo37 ?oo38 ?oo39 ?oo40 ?oo41 ?oo42 ?oo43 ?oo44 ?oo45 ?oo46 ?oo47 ?oo48 ?oo49 ?oo50 ?oo51 ?oo52 ?oo53 ?oo54 ?oo55 ?oo56 ?oo57 ?oo58 ?oo59 ?oo60 ?oo61 ?oo62 ?oo63 ?oo64 ?oo65 ?oo66 ?oo67 ?oo68 ?oo69 ?oo70 ?oo71 ?oo72 ?oo73 ?oo74 ?oo75 ?oo76 ?oo77 ?oo78 ?oo79 ?oo80 ?oo81 ?oo82 ?oo83 ?oo84 ?oo85 ?oo86 ?oo87 ?oo88 ?oo89 ?oo90 ?oo91 ?oo92 ?oo93 ?oo94 ?oo95 ?oo96 ?oo97 ?oo98 ?oo99 ?oo100 ?oo101 ?oo102 ?oo103 ?oo104 ?oo105 ?oo106 ?oo107 ?oo108 ?oo109 ?oo110 ?oo111 ?oo112 ?oo113 ?oo114 ?oo115 ?oo116 ?oo117 ?oo118 ?oo119 ?oo120 ?oo121 ?oo122 ?oo123 ?oo124 ?oo125 ?oo126 ?oo127 ?oo128 ?oo129 ?oo130 ?oo131 ?oo132 ?oo133 ?oo134 ?oo135 ?oo136 ?oo137 ?oo138 ?oo139 ?oo140 ?oo141 ?oo142 ?oo143 ?oo144 ?oo145 ?oo146 ?oo147 ?oo148 ?oo149 ?oo150 ?oo151 ?oo152 ?oo153 ?oo154 ?oo155 ?oo156 ?oo157 ?oo158 ?oo159 ?oo160 ?oo161 ?oo162 ?oo163 ?oo164 ?oo165 ?oo166 ?oo167 ?oo168 ?oo169 ?oo170 ?oo171
  (case oo0 | oo1 | oo2 | oo3 | oo4 | oo5 | oo6 | oo7 | oo8 | oo9 | oo10 | oo11 | oo12 | oo13 | oo14 | oo15 | oo16 | oo17 | oo18 | oo19 | oo20 | oo21 | oo22 | oo23 | oo24 | oo25 | oo26 | oo27 | oo28 | oo29 | oo30 | oo31 | oo32 | oo33 | oo34 => refine' FL.zpn KX G ?Zq ?Zl ?Zc ?Zk; (case Zq => k_is); (case Zl => k_is); (case Zc => k_is); (case Zk => k_is))
  (case oo35 | oo36 | oo37 | oo38 | oo39 | oo40 | oo41 | oo46 | oo47 | oo48 | oo49 | oo50 | oo51 | oo52 | oo53 | oo54 | oo55 | oo56 | oo57 | oo58 | oo59 | oo60 | oo61 | oo62 | oo63 | oo64 | oo65 | oo66 | oo67 | oo68 | oo69 | oo70 | oo71 | oo72 | oo73 | oo74 | oo75 | oo76 | oo77 | oo78 | oo79 | oo80 | oo81 | oo82 | oo83 | oo84 | oo85 | oo86 | oo87 | oo88 | oo89 | oo90 | oo91 | oo92 | oo93 | oo94 | oo95 | oo96 | oo97 | oo98 | oo99 | oo100 | oo101 | oo102 | oo103 | oo104 | oo105 | oo106 | oo107 | oo108 | oo109 | oo110 | oo111 | oo112 | oo113 | oo114 | oo115 | oo116 | oo117 | oo118 | oo119 | oo120 | oo121 | oo122 | oo123 | oo124 | oo125 | oo126 | oo127 | oo128 | oo129 | oo130 | oo131 | oo132 | oo133 | oo134 | oo135 | oo136 | oo137 | oo168 | oo169 | oo171 => k_is)
  (case oo43 | oo44 | oo45 => (intro _ _; kernel_rfl))
  (case oo42 => decide)
  (case oo138 | oo170 => first | exact .inl (by k_exc) | exact .inr (by k_exc))
  (case oo139 | oo140 | oo141 | oo142 | oo143 | oo144 | oo145 | oo146 | oo147 | oo148 | oo149 | oo150 | oo151 | oo152 | oo153 | oo154 | oo155 | oo156 | oo157 | oo158 | oo159 | oo160 | oo161 | oo162 | oo163 | oo164 | oo165 | oo166 | oo167 => kit_is)
