import PyProof.Rows.All
import Wide.All
import OpenK.AllK
import Wide.FinOn
import Lean
import PyProof.EqAt
import PyProof.EqKinds
import PyProof.TupleCall
import PyProof.EqLayable
import PyProof.StationsW
import PyProof.NsDelKeeps
import PyProof.ExcArgsOwn
import PyProof.ExcAttrAll.ValueError
import PyProof.ZipIter
import PyProof.EnumFor
import PyProof.EnumStmt
import PyProof.EnumMake
import PyProof.ConsumeWalk
import PyProof.Cells
import PyProof.CompUse
import PyProof.DictIter
import PyProof.DictWalks
import PyProof.CollectWalk
import PyProof.WalksS
import PyProof.P3Statements
import PyProof.DictRoadsH
import KE.KSortTup
import PyProof.P3In
import KE.KRevSl
import PyProof.ReprReads
import KE.KMinKey
import PyProof.ReprRoads
import PyProof.Conv_int_bool
import PyProof.AutoListH
import PyProof.StrCalls
import PyProof.StrCalls2
import PyProof.MeetsStr
import PyProof.StrBlock
import PyProof.FString
import PyProof.StrBlockI
import KE.KIntText
import PyProof.StrWalks
import PyProof.InstStoreFacts
import PyProof.TupleIter
import PyProof.AttrMissHeap
import PyProof.CallStr
import PyProof.StrLawsTight
import PyProof.Rows.StrJoinMade
import PyProof.Rows.StrDigitsNeg
import PyProof.Rows.StrJoin2
import PyProof.Rows.CatFin
import PySem.Challenge.RW_swaprest_k80_sum_texts_that_are_none
set_option Elab.async false
set_option linter.all false
set_option maxRecDepth 100000
set_option maxHeartbeats 4000000
open PySem renaming Str→dm,Addr→gV,Value→ir,Shared→kb,wpAny_bind→yV,Expr→yW,starEach→yX,wpAny→yY,model→yZ,Obj→zb,Pos→zc,Heap→zh,wpAny_pure→zi,eval→zk,World→zq,sizeLine→zt,Program→zu,mainGlobals→zv,Around→zx,Stmt→zy,Env→zC,Spec→zD,compareOp→zF,backTo→zK,PyData→zN,Tok→zQ,wpAny_mono→z8,bootBuiltins→Ad,cLine→Ae,FuncData→Ah,Scope→Al,sizeLine_eq→AR,swapsWith→AW,binaryOp→A2,NameKind→A7,wpAny_holding→Bc,foldedSetIterable→Be,assign→Bk,Builtin→Bo,assignEach→Bv,rawInt→Bw,CmpOp→By,behindInMarks→Bz,codeAny→BA,DictEntry→BG,wpAny_newObj_type→BK,cellsFrom→BL,IsPart→BQ,Paired→BW,wpAny_standAt→BZ,mem_of_lookup→B1,Keyword→B3,sysModules→B7,Model→B8,getItem→B9,call_meets→Cb,atKey→Cm,holding→Cv,attributeBase→Cw,bindArgs→Cy,standAt→CO,PassesOwn→CP,wpAny_passesOwn→CQ,pyNext→CU,wpAny_field→CY,typeIs_str→CZ,sliceBounds→C1,callerA→C3,relabel→C5,Fin→C6,ExcBaseFacts→Dc,stripLo→De,wpAny_truthy_bool→Di,wpAny_execs_nil→Dk,swapsWithSole→Dl,swappedStores→Dm,BindsTo→Dq,codeAny_mono→Dr,wpAny_loadPart'→Ds,wpAny_typeOf→Du,noteFrame→Dy,excClassObj→DH,tupleKind→DQ,bindName→DT,wpAny_rule→DU,wpAny_call→DW,wpAny_Call_Name_kw→DX,wpAny_call_entry→D1,backToKw→D3,keywordEach→D4,wpAny_setField→D7,wpAny_loadPart_at→El,builtinsNs→Ex,letOwnedTupleGo→Ey,concat_meets→EA,wpAny_callSpecial?_slot→EC,wpAny_loadPart→EK,isInstance→EL,wpAny_typeNameOfWhole_keyiter→E8,wpAny_typeNameOf_keyiter→E9,wpAny_execs_cons→Fu,assignInOrder→Fv,recursionLimit→FC,noFill_tuple_add→FH,seq_tuple_add→FI,call→FR,codeAny_call_builtin→FY,Comprehension→FZ,comprehension→F0,tupleKind_room_in1→F6,wpAny_dictEntries→Gb,wpAny_dictEpoch→Gd,wpAny_attempt→Ge
open PySem.W renaming Frag→yU,nsIn→zA,kitOne→zT,mg_of→zY,mg_none_of→AV,clsIn→A1,fnOf→A8,findIn→Bl,subIn→BR,Looks→Cg,InstAt→Ci,codeIn→Cz,keepIn→CV,kia_one→C4,kas_rev→C8,looks_findIn→DA,tailIn→DI,nsOkIn→DJ,typeIn→D9,excIn→Eo,mroIn→ER,notCls→EW,isFn→Ff,methodObj→Ft,lookIn→FA,looks_subIn→FW,OpenLaw→Gi,handedIn→GN,callWith_K→GO,cellsFrom_some→GP,handed_on→G1,hasDictIn→Hm,any_some→Hn,looks_clsIn→Ho
open PySem.PyData renaming str→zg,int→zH,eqv→A0,bool→Bb,none→Cq,eqvAll→DM,canLay0→Ee,tuple→Es,canLayAll0→E6,list→Gq,canLay0→HB
open PySem.Str renaming ofString→zj,join→Ak,empty→Ax
open Bool renaming false_eq_true→zm,and_eq_true→zX,not_true→Aa,not_false→Aq,false_ne_true→AJ,not_eq_true'→DC,eq_iff_iff→Ec,or_eq_true→E1
open List renaming replicate→zo,length_cons→zB,map_cons→zE,length_nil→zG,lookup_cons→zJ,length_map→zL,set_cons_zero→zO,set_cons_succ→zP,mem_cons→zS,size_toArray→zW,mem_map→zZ,mem_cons_of_mem→z0,getElem?_set_ne→z9,getElem?_eq_getElem→Af,getElem?_eq_some_iff→Am,getElem?_set_self→An,cons_append→Ap,mem_cons_self→Au,nil_append→Aw,getElem?_map→AH,mem_append→AI,mem_append_right→AK,length_append→AO,zip_cons_cons→AQ,getElem?_append_left→AY,all_eq_true→A3,range→A4,map_map→A5,zip_nil_left→Bf,map_nil→Bg,nodup_cons→Bm,length_set→Bp,drop_succ_cons→Br,drop_zero→Bs,lookup_nil→Bu,append_nil→BC,head?_cons→BH,getElem?_replicate→BM,mem_of_getElem?→BO,zip_nil_right→BP,toArray→BU,zipWith→BV,getElem?_append_right→B2,tail_cons→B5,mem_singleton→Cj,filterMap_cons→Ct,length_drop→CA,not_mem_nil→CB,find?_cons→CC,mem_append_left→CN,length_replicate→CW,replicate_succ→C2,getD_eq_getElem?_getD→C9,append_assoc→Dv,map_append→DL,mem_range→DR,of_mem_zip→DY,length_take→DZ,flatten_cons→D5,length_singleton→D6,pairwise_cons→Ej,map_congr_left→Er,count_append→Eu,take_of_length_le→EG,getElem_mem→EH,getD→EY,nodup_nil→E2,drop_eq_getElem_cons→E7,take_append_drop→Fm,mem_of_mem_take→Fo,mem_filterMap→Fy,length→FE,all_cons→FQ,forIn_cons→FU,forIn_nil→FX,any_cons→F4,getElem?_eq_none→F8,drop_length→F9,toList_toArray→Gg,mem_of_mem_drop→GH,contains_eq_mem→G3,countP_cons_of_neg→G8,filter_cons_of_pos→Hv,filter_cons_of_neg→Hw,filter_eq_self→Hx,length_eq_zero_iff→HD,takeWhile_cons→HE,takeWhile_prefix→HF,eq_nil_of_length_eq_zero→HJ,eq_append_cons_of_mem→HK
open Nat renaming le_refl→zr,reduceAdd→Ab,ne_of_lt→Ao,lt_of_lt_of_le→AA,le_trans→AB,zero_le→AU,sub_self→Bj,reduceSub→Bq,lt_trans→Cp,zero_add→CD,le_of_lt→CM,toDigits→Dd,lt_irrefl→Dh,ne_of_gt→Dp,le_of_succ_le→Ed,eq_zero_or_pos→Et,not_lt→EZ,digitChar→Fi,log2_lt→FT,lt_succ_of_lt→F3,add_sub_cancel_left→Ga,toDigits_of_lt_base→Gz,reduceBEq→GB,toDigits_append_toDigits→Ht,pow_le_pow_right→Hy
open PySem.Heap renaming get?_push_of_some→zI,lt_size→zM,get?_push_size→AG,get?_none_of_le→Cu,get?_update_other→C0,size_push→DB,SameBut→DS,get?_update_self→D2,MadeExcOf→Gr,get?_update_ne→Hr
open Int renaming gcd→zR,fmod_nonneg_of_pos→DN,toNat_natCast→Eg,fmod_lt_of_pos→Ep,natAbs_ediv_le_natAbs→E5,one_mul→Fs,natCast_nonneg→GA
open PyProof.Rows renaming seqObj→zU,envOfC→AX,IntsAre→A9,IsTup→BJ,AllBare→BX,slot_tuple_getitem→Dt,listUpdate_at→DF,get?_update_seq→Ei,assignInOrder_cons→Fw,callWith_type1→Fx,subscriptTail→FP,signs_ofString→Hu,len_partsBetween→HH,slice_from_eq→HI
open PySem.Txt renaming split→zV,slice→Ay,startswith→Ek,join→Fe,stripChars→Fg,stripBy→Fj
open PySem.Value renaming ref→Ac,none→Aj,bool→BI,str→Cr,int→CJ,type→Df,builtin→Ea,notImplemented→GU
open PySem.Obj renaming mapSeq→Ai,data_mapFields→D8,mapFields→EJ,isFreed_of_fields→FV
open False renaming elim→Av
open Option.some renaming inj→Az,injEq→Bh
open Ne renaming symm→AD
open PySem.SeqAt renaming shaped→AZ,canLay_of_shaped→BF,EqAt→FG
open Sum renaming inl→A6,inr→CK
open PySem.NameKind renaming cell→Ba,free→Ce
open Option renaming map_some→Bi,getD_none→BD,map_eq_some_iff→BE,getD_some→B6,bind_eq_some_iff→DE,isSome_map→F5,isSome_iff_exists→GQ,isSome_some→G2,map_eq_none_iff→HA
open PySem.Builtin.Str renaming occurrences→Bx,strSliceIndices→Fq,partsBetween→Gk,strKind→Hk,strSub→HG
open Or renaming inr→B4,inl→Cd
open PySem.Heap.SameBut renaming update→CF
open PySem.F renaming slot_str_split→CG,type_str_split→CH,slot_dict_keyiterator_next→Ef,attrBase_ValueError→EV,slot_tuple_add→FJ,entry_tuple_add→FK,args_tuple_add_2→FN,slot_tuple_mul→F7,slot_str_split→Gm,entry_str_split→Gn,args_str_split_2→Gp,excBase_ValueError→Gs,slot_str_join→Gv,type_str_join→Gw,slot_str_partition→Gx,type_str_partition→Gy,slot_tuple_rmul→G4,slot_int_rmul→G7,entry_dict_keyiterator_next→Ha,args_dict_keyiterator_next_1→Hb,plainAttrs_list→Hj,plainAttrs_str→Hl
open Iff renaming rfl→C7
open Array renaming length_toList→Dj,getElem?_eq_some_iff→EI,getElem?_eq_getElem→EX,getD→Fb,perm_iff_toList_perm→Fc,getElem?_toList→Fd,getElem?_eq_none→Gf,toList_inj→Gh,all_toList→Gu,find?_toList→GL,forIn_toList→Hi
open True renaming intro→Dw
open ForInStep renaming yield→Dx
open PySem.StrLaws renaming join_split→DK,split_free→Fp
open PyProof.Rows.IsTup renaming new→DV
open PySem.W.KasT renaming kasWp_bind→Eh
open PySem.Paired renaming length→Ew
open PySem.Around renaming under→Ez,under_plainId→He
open PySem.Builtin.Slice renaming slicePlaces→EB,sliceAdjust→FO,sliceApplied→GV
open PySem.Builtin.Tuple renaming tupleExact→ED,tupleItemsOf→GW,tupleTooMany→G5,tupleIsExact→G6
open PySem.Builtin.Int renaming intBits→EE,intTooBig→GZ
open Rat renaming normalize→E4
open List.cons renaming injEq→Fh,inj→GD
open PySem.Code renaming isFrame→FD
open PySem.PassesOwn renaming never→Gj
open Classical renaming byContradiction→GC
open PySem.SeqAt.EqAt renaming int_str→GI,str_int→GJ,int_int→GR
open PySem.Calls renaming Name_function_global→GK,evalArgs_plain→GX
open List.Pairwise renaming nil→GY
open PySem.EntryCells renaming newEntry→G0
open PySem.Builtin.Dict renaming showsAll→G9
open PySem.Builtin.Dict_items renaming ownsTuple→Hc
open Array.Perm renaming refl→Hd
open PySem.Builtin.List renaming listSameRef→Hf,listExtendWith→Hg
open Function renaming comp_def→Hh
open PySem.W.KIN renaming num_reads→HC
set_option bootstrap.genMatcherCode false
noncomputable section
namespace L2
open PySem PySem.Spec PyProof.Rows
section
abbrev Key:=Sum Int dm
noncomputable def rO:Key->ir->Bool
 | .inl k,v=>Value.isInt k v
 | .inr x,v=>Value.isStrOf x v
noncomputable def zn0(w:zq):Key->Int
 | .inl k=>hashInt k
 | .inr x=>hashStr w x
theorem mF:∀{k:Key} {v:ir},rO k v=true->(∃ i t,k=A6 i/\v=CJ i t)\/(∃ x t,k=CK x/\v=Cr x t)
 | .inl i,v,h=>by
  obtain⟨t,e⟩:=Value.isInt_shape (k:=i) (v:=v) h;exact .inl ⟨i,t,rfl,e⟩
 | .inr x,v,h=>by
  obtain⟨t,e⟩:=Value.isStrOf_shape (x:=x) (v:=v) h;exact .inr ⟨x,t,rfl,e⟩
theorem zn1(i:Int)(t:zQ):rO (.inl i) (.int i t)=true:=by simp[rO,Value.isInt]
theorem zn2(x:dm)(t:zQ):rO (.inr x) (.str x t)=true:=by simp[rO,Value.isStrOf]
theorem zn3(a b:Int):decide ((A6 a:Key)=A6 b)=(a==b):=by
 by_cases e:a=b
 ·subst e;simp
 ·have h:¬ (A6 a:Key)=A6 b:=fun q=>e (Sum.inl.inj q)
  rw[decide_eq_false h];exact(beq_eq_false_iff_ne.mpr e).symm
theorem zn7(a b:dm):decide ((CK a:Key)=CK b)=decide (a=b):=by
 by_cases e:a=b
 ·subst e;simp
 ·have h:¬ (CK a:Key)=CK b:=fun q=>e (Sum.inr.inj q)
  rw[decide_eq_false h,decide_eq_false e]
theorem zn4(a:Int)(b:dm):decide ((A6 a:Key)=CK b)=false:=decide_eq_false (fun q=>nomatch q)
theorem zn6(a:dm)(b:Int):decide ((CK a:Key)=A6 b)=false:=decide_eq_false (fun q=>nomatch q)
def j3(prog:zu)(w:zq):PySem.KeyKind prog w Key where
 is:=rO
 hash:=zn0 w
 inj:=fun v a b ha hb=>by
  rcases mF ha with⟨i,t,rfl,rfl⟩|⟨x,t,rfl,rfl⟩
  ·rcases mF hb with⟨j,u,rfl,e⟩|⟨y,u,rfl,e⟩
   ·injection e with e1 _;rw[e1]
   ·exact nomatch e
  ·rcases mF hb with⟨j,u,rfl,e⟩|⟨y,u,rfl,e⟩
   ·exact nomatch e
   ·injection e with e1 _;rw[e1]
 byValue:=fun k v h=>by
  rcases mF h with⟨i,t,rfl,rfl⟩|⟨x,t,rfl,rfl⟩ <;> rfl
 pyHash:=fun hv h=>by
  rcases mF hv with⟨i,t,rfl,rfl⟩|⟨x,t,rfl,rfl⟩
  ·exact wpAny_pyHash_int h
  ·exact wpAny_pyHash_str h
 eqBool:=fun hu hv h=>by
  rcases mF hu with⟨i,t,rfl,rfl⟩|⟨x,t,rfl,rfl⟩
  ·rcases mF hv with⟨j,u,rfl,rfl⟩|⟨y,u,rfl,rfl⟩
   ·rw[zn3]at h;exact wpAny_eqBool_int h
   ·rw[zn4]at h;exact GI i t y u _ _ _ _ h
  ·rcases mF hv with⟨j,u,rfl,rfl⟩|⟨y,u,rfl,rfl⟩
   ·rw[zn6]at h;exact GJ x t j u _ _ _ _ h
   ·rw[zn7]at h;exact wpAny_eqBool_str h
 «strs»:=fun k x t v h=>by
  rcases mF h with⟨i,u,rfl,e⟩|⟨y,u,rfl,e⟩
  ·exact nomatch e
  ·injection e with e1 _
   subst e1;cases v <;> rfl
theorem zpa(prog:zu)(w:zq)(i:Int)(t:zQ):(j3 prog w).is (.inl i) (.int i t)=true:=zn1 i t
theorem zpb(prog:zu)(w:zq)(x:dm)(t:zQ):(j3 prog w).is (.inr x) (.str x t)=true:=zn2 x t
end
variable {xs:List V}{w:zq}{H H':Hp}{a b e x:gV}{P:zu}{o o' u:HO}{h h':zh}{ob:zb}{us:List ir}
section
inductive V where
 | non|bl(b:Bool)|int(i:Int)|str(x:dm)|byt(b:Array UInt8)|flt(b:UInt64)|ref(a:gV)|ty(n:String)
 deriving DecidableEq
noncomputable def RelV:V->ir->Prop
 | .non,u=>u=Aj
 | .bl b,u=>u=BI b
 | .int i,u=>∃ t,u=CJ i t
 | .str x,u=>∃ t,u=Cr x t
 | .byt b,u=>∃ t,u=Value.bytes b t
 | .flt b,u=>∃ t,u=Value.float b t
 | .ref a,u=>u=Ac a
 | .ty n,u=>u=Df n
abbrev Vals:List V->List ir->Prop:=BW RelV
theorem Vals.length(r:Vals xs us):xs.length=us.length:=Ew r
theorem Vals.get:∀{xs:List V} {us:List ir} {i:Nat} {x:V},Vals xs us->xs[i]?=some x->∃ u,us[i]?=some u/\RelV x u
 | _,_,_,_,.nil,e=>by simp at e
 | _,_,0,_,.cons r _,e=>by simp at e;subst e;exact⟨_,rfl,r⟩
 | _,_,i+1,x,.cons _ t,e=>by
  obtain⟨u,h1,h2⟩:=Vals.get (i:=i) (x:=x) t (by simpa using e);exact⟨u,by simpa using h1,h2⟩
theorem Vals.set{x:V}{u:ir}(r:RelV x u):∀{xs:List V} {us:List ir} (i:Nat),Vals xs us->Vals (xs.set i x) (us.set i u)
 | _,_,_,.nil=>.nil
 | _,_,0,.cons _ t=>.cons r t
 | _,_,i+1,.cons q t=>.cons q (Vals.set r i t)
theorem Vals.append:∀{xs ys:List V} {us ws:List ir},Vals xs us->Vals ys ws->Vals (xs++ys) (us++ws)
 | _,_,_,_,.nil,s=>s
 | _,_,_,_,.cons r t,s=>.cons r (Vals.append t s)
theorem Vals.take:∀{xs:List V} {us:List ir} (n:Nat),Vals xs us->Vals (xs.take n) (us.take n)
 | _,_,0,_=>.nil
 | _,_,_+1,.nil=>.nil
 | _,_,n+1,.cons r t=>.cons r (Vals.take n t)
theorem Vals.drop:∀{xs:List V} {us:List ir} (n:Nat),Vals xs us->Vals (xs.drop n) (us.drop n)
 | _,_,0,r=>r
 | _,_,_+1,.nil=>.nil
 | _,_,n+1,.cons _ t=>Vals.drop n t
def jM:Option V->Option ir->Prop
 | some v,some u=>RelV v u
 | none,none=>True
 | _,_=>False
def KV{κ:Type}:List (κ×V)->List (κ×ir)->Prop:=BW fun(p:κ×V) (q:κ×ir)=>p.1=q.1/\RelV p.2 q.2
noncomputable def kV:Key->V
 | .inl i=>.int i
 | .inr x=>.str x
inductive HO where
 /-- a list -/
 | lst(xs:List V)
 /-- a tuple(never changes) -/
 | tup(xs:List V)
 /-- a dict whose keys are ints and texts;one whose keys are tuples of ints and texts(the empty one is both) -/
 | dK(aj:List (Key×V))|dT(aj:List (List Key×V))
 /-- a set of ints: its members,its size -/
 | set (S:Int->Bool) (n:Nat)
 /-- an instance of the class at C,its dict at dx,its attributes -/
 | ins (C dx:gV) (fs:List (dm×V))
 /-- the dict of the instance at x -/
 | own (x:gV)
 /-- the dict of an exception -/
 | xd (fs:List (dm×V))
 /-- a bound method,f of x -/
 | met (f x:gV)
 /-- a range object lo,lo+1,.. below hi -/
 | dP (lo hi:Int)
 /-- a thing that is known to the object (the script;a dict while a loop walks it): read,never written while it is so -/
 | frz (o:zb) (u:HO)
 /-- a code object's table -/
 | tbl (ps:Array ir)
 /-- any other thing,by what is true of its one object (a def of one's own: SetO a S n:=HO.ext fun h=>..) -/
 | ext (φ:zh->Prop)
abbrev Hp:=gV->Option HO
noncomputable def upd(H:Hp)(a:gV)(o:HO):Hp:=fun b=>if b=a then some o else H b
theorem bU:upd H a o a=some o:=by unfold upd;rw[if_pos rfl]
theorem aU(h:b≠a):upd H a o b=H b:=by unfold upd;rw[if_neg h]
theorem zun:upd (upd H a o) a u=upd H a u:=by
 funext b;unfold upd;split <;> rfl
theorem zhn(h:H a=some o)(h':H b=some u)(d:o≠u):a≠b:=by
 intro e;subst e;rw[h]at h';exact d (Az h')
theorem pY(h:H a=some o)(h':H b=none):a≠b:=by
 intro e;subst e;rw[h]at h';cases h'
def cT(H:Hp)(b:gV)(xs:List V):Prop:=H b=some (.tup xs)\/∃ o,H b=some (.frz o (.tup xs))
theorem cT.upd(q:cT H b xs)(n1:∀ ys,H b=some (.tup ys)->b≠a)(n2:∀ o ys,H b=some (.frz o (.tup ys))->b≠a):cT (upd H a u) b xs:=by
 rcases q with q|⟨o,q⟩
 ·left;rw[aU (n1 _ q)];exact q
 ·right;exact⟨o,by rw[aU (n2 _ _ q)];exact q⟩
section
variable (P:zu)(w:zq)
def cD(H:Hp)(h:zh)(a:gV):HO->Prop
 | .lst xs=>xs.length<=zt/\∃(its:List ir) (n:Nat),Vals xs its/\h.get? a=some { cls:=.type "list",data:=.seq its.toArray n }
 | .tup xs=>xs.length<=zt/\∃ its:List ir,Vals xs its/\BJ h a its.toArray
 | .dK aj=>aj.length<=zt/\(a==B7)=false/\∃ vs,KV aj vs/\h.DictOf (j3 P w) a vs
 | .dT aj=>aj.length<=zt/\(a==B7)=false/\∃ xs:List (List Key×gV×ir),
   BW (fun(p:List Key×V) (q:List Key×gV×ir)=>p.1=q.1/\cT H q.2.1 (p.1.map kV)/\RelV p.2 q.2.2) aj xs /\
   ∃ o es ep,h.get? a=some o/\o.ExactDict/\o.data=.dict es ep/\es.toList=xs.map (entryOfKey (DQ (j3 P w)))/\(xs.map (·.1)).Nodup
 | .set S n=>h.SetOf (intKind P w) a S n
 | .ins C dx fs=>H dx=some (.own a)/\fs.length<=1000/\dx≠a/\h.get? a=some (PySem.W.instObj C dx) /\
   ∃ mA,h.Ns1 dx mA/\(∀ f,jM (fs.lookup f) (mA f))/\PySem.Within mA (fs.map (·.1))
 | .own _=>∃ o,h.get? a=some o
 | .xd fs=>∃ mA,h.Ns1 a mA/\∀ f,jM (fs.lookup f) (mA f)
 | .dP lo hi=>∃ t u v,h.get? a=some { cls:=.type "range",data:=.fields #[.int lo t,.int hi u,.int 1 v] }
 | .frz o u=>h.get? a=some o/\cD H h a u
 | .tbl ps=>h.get? a=some { cls:=.none,data:=.fields ps }
 | .met f x=>h.get? a=some (Ft (.ref f) (.ref x))
 | .ext φ=>φ h/\(∃ o,h.get? a=some o)/\∀ h1 h2:zh,φ h1->(∀ o,h1.get? a=some o->h2.get? a=some o)->φ h2
def cu(H:Hp)(h:zh):Prop:=∀ a o,H a=some o->cD P w H h a o
end
section
theorem cD.lt(x:cD P w H h a o):a<h.objs.size:=by
 cases o with
 | lst xs=>obtain⟨_,_,_,_,e⟩:=x;exact zM e
 | tup xs=>obtain⟨_,_,_,p⟩:=x;exact p.lt
 | dK aj=>obtain⟨_,_,_,_,o,_,_,e,_⟩:=x;exact zM e
 | dT aj=>obtain⟨_,_,_,_,o,_,_,e,_⟩:=x;exact zM e
 | set S n=>obtain⟨o,_,_,_,e,_⟩:=x;exact zM e
 | ins C dx fs=>obtain⟨_,_,_,e,_⟩:=x;exact zM e
 | own y=>obtain⟨_,e⟩:=x;exact zM e
 | xd fs=>obtain⟨_,⟨_,_,_,e,_⟩,_⟩:=x;exact zM e
 | dP lo hi=>obtain⟨_,_,_,e⟩:=x;exact zM e
 | frz ob u=>obtain⟨e,_⟩:=x;exact zM e
 | tbl ps=>exact zM (show h.get? a=some _ from x)
 | met f y=>exact zM (show h.get? a=some _ from x)
 | ext φ=>obtain⟨_,⟨_,e⟩,_⟩:=x;exact zM e
theorem BW.zcF{α β:Type}{F G:α->β->Prop}:∀{l₁:List α} {l₂:List β},BW F l₁ l₂->(∀ a b,F a b->G a b)->BW G l₁ l₂
 | _,_,.nil,_=>.nil
 | _,_,.cons r t,f=>.cons (f _ _ r) (BW.zcF t f)
theorem cD.iQ(x:cD P w H h a o)(k:∀ b u,(b=a\/H b=some (.own a))->h.get? b=some u->h'.get? b=some u)
  (ho:∀ b,H b=some (.own a)->H' b=some (.own a))(ht:∀ b xs,cT H b xs->cT H' b xs):cD P w H' h' a o:=by
 induction o with
 | lst xs=>obtain⟨z,its,n,r,e⟩:=x;exact⟨z,its,n,r,k _ _ (.inl rfl) e⟩
 | tup xs=>obtain⟨z,its,r,ob,e,c⟩:=x;exact⟨z,its,r,ob,k _ _ (.inl rfl) e,c⟩
 | dK aj=>obtain⟨z,y,vs,r,ob,es,ep,e,c⟩:=x;exact⟨z,y,vs,r,ob,es,ep,k _ _ (.inl rfl) e,c⟩
 | dT aj =>
  obtain⟨z,y,xs,r,ob,es,ep,e,c⟩:=x;exact⟨z,y,xs,BW.zcF r fun p q z=>⟨z.1,ht _ _ z.2.1,z.2.2⟩,ob,es,ep,k _ _ (.inl rfl) e,c⟩
 | set S n=>obtain⟨ob,es,ep,t,e,c⟩:=x;exact⟨ob,es,ep,t,k _ _ (.inl rfl) e,c⟩
 | ins C dx fs =>
  obtain⟨d,z,ne,e,mA,⟨od,es,ep,e2,c⟩,r⟩:=x;exact⟨ho _ d,z,ne,k _ _ (.inl rfl) e,mA,⟨od,es,ep,k _ _ (.inr d) e2,c⟩,r⟩
 | own y=>obtain⟨ob,e⟩:=x;exact⟨ob,k _ _ (.inl rfl) e⟩
 | xd fs=>obtain⟨mA,⟨od,es,ep,e,c⟩,r⟩:=x;exact⟨mA,⟨od,es,ep,k _ _ (.inl rfl) e,c⟩,r⟩
 | dP lo hi=>obtain⟨t,u,v,e⟩:=x;exact⟨t,u,v,k _ _ (.inl rfl) e⟩
 | frz ob u ih=>obtain⟨e,q⟩:=x;exact⟨k _ _ (.inl rfl) e,ih q⟩
 | tbl ps =>
  have e:h.get? a=some { cls:=.none,data:=.fields ps }:=x;show h'.get? a=some { cls:=.none,data:=.fields ps };exact k a _ (.inl rfl) e
 | met f y =>
  have e:h.get? a=some (Ft (.ref f) (.ref y)):=x;show h'.get? a=some (Ft (.ref f) (.ref y));exact k a _ (.inl rfl) e
 | ext φ=>obtain⟨p,⟨o,e⟩,st⟩:=x;exact⟨st _ _ p fun o q=>k _ _ (.inl rfl) q,⟨o,k _ _ (.inl rfl) e⟩,st⟩
theorem cu.lt(x:cu P w H h)(e:H a=some o):a<h.objs.size:=(x a o e).lt
theorem cu.fresh(x:cu P w H h)(e:h.objs.size<=a):H a=none:=by
 cases q:H a with
 | none=>rfl
 | some u=>exact absurd (AA (x.lt q) e) (Dh _)
theorem cu.kept(x:cu P w H h)(k:∀ b u,h.get? b=some u->h'.get? b=some u):cu P w H h':=fun a o e =>
 (x a o e).iQ (fun b u _ q=>k b u q) (fun _ q=>q) fun _ _ q=>q
theorem cu.laid(x:cu P w H h)(k:∀ b u,h.get? b=some u->h'.get? b=some u)(hp:h.objs.size<=a)(new:cD P w (upd H a o) h' a o):cu P w (upd H a o) h':=fun b u e=>by
 have hn:=x.fresh hp
 by_cases hb:b=a
 ·subst hb;rw[bU]at e;cases e;exact new
 ·rw[aU hb]at e
  exact(x b u e).iQ (fun c v _ q=>k c v q) (fun c q=>by rw[aU (pY q hn)];exact q) fun c xs q=>q.upd (fun _ r=>pY r hn) fun _ _ r=>pY r hn
end
def Rd(H:Hp)(a:gV)(u:HO):Prop:=H a=some u\/∃ o,H a=some (.frz o u)
theorem Rd.ok(r:Rd H a u)(x:cu P w H h):cD P w H h a u:=by
 rcases r with r|⟨o,r⟩
 ·exact x a u r
 ·obtain⟨_,q⟩:=x a _ r
  exact q
noncomputable def tq:Option HO->Prop
 | some (.lst _)=>True
 | some (.dK _)=>True
 | some (.dT _)=>True
 | some (.set _ _)=>True
 | some (.ins _ _ _)=>True
 | some (.ext _)=>True
 | _=>False
section
theorem cu.write(ok:cu P w H h)(mu:tq (H x))(he:e=x\/H e=some (.own x))(k:∀ b u,b≠e->h.get? b=some u->h'.get? b=some u)(rB:∃ u,h'.get? e=some u)
  (new:cD P w (upd H x o') h' x o'):cu P w (upd H x o') h':=fun b u q=>by
 have zhr:∀ c y,H c=some (.own y)->c≠x:=fun c y r z=>by subst z;rw[r]at mu;exact mu
 have zpA:∀ c xs,H c=some (.tup xs)->c≠x:=fun c xs r z=>by subst z;rw[r]at mu;exact mu
 by_cases hb:b=x
 ·subst hb;rw[bU]at q;cases q;exact new
 ·rw[aU hb]at q
  by_cases ju:b=e
  ·have q':H b=some (.own x):=by
    rcases he with z|z
    ·exact absurd (ju.trans z) hb
    ·rw[ju];exact z
   rw[q]at q';cases q'
   obtain⟨v,hv⟩:=rB;exact⟨v,by rw[ju];exact hv⟩
  ·refine(ok b u q).iQ (fun c v hc r=>k c v ?_ r) (fun c r=>by rw[aU (zhr c b r)];exact r) fun c xs r=>r.upd (fun ys z=>zpA c ys z) fun o ys z e=>by subst e;rw[z]at mu;exact mu
   rcases hc with rfl|hc
   ·exact ju
   ·rintro rfl
    rcases he with z|z
    ·exact zhr c b hc z
    ·rw[hc]at z;cases z;exact hb rfl
end
structure Un(fs ex:List gV)(H H':Hp)(h h':zh):Prop where
 keep:∀ b o,h.get? b=some o->H b=none->b∉fs->b∉ex->h'.get? b=some o
 slot:∀ b o,h.get? b=some o->H b=none->b∈fs->b∉ex->∃ sl,h'.get? b=some { o with slots:=sl }
 free:∀ b o,h.get? b=some o->H b=none->b∉ex->H' b=none
 there:∀ b o,h.get? b=some o->b∉ex->∃ o',h'.get? b=some o'
 gv:∀ b xs,H b=some (.tup xs)->H' b=some (.tup xs)
 gA:∀ b o u,H b=some (.frz o u)->H' b=some (.frz o u)
 gX:∀ b ps,H b=some (.tbl ps)->∃ more,H' b=some (.tbl (ps++more))
section
variable {fs kI ex w8:List gV}{H1 H2:Hp}{h1 h2:zh}
theorem Un.any(u:Un fs ex H H1 h h1)(q:h.get? b=some ob)(n:H b=none)(hx:b∉ex):∃ sl,h1.get? b=some { ob with slots:=sl }:=by
 by_cases hb:b∈fs
 ·exact u.slot b ob q n hb hx
 ·exact⟨ob.slots,u.keep b ob q n hb hx⟩
theorem Un.kept(k:∀ b u,h.get? b=some u->h'.get? b=some u):Un fs ex H H h h' :=
 ⟨fun b ob q _ _ _=>k b ob q,fun b ob q _ _ _=>⟨ob.slots,k b ob q⟩,fun _ _ _ n _=>n,fun b ob q _=>⟨ob,k b ob q⟩,fun _ _ q=>q,fun _ _ _ q=>q,fun _ ps q=>⟨#[],by rw[q];simp⟩⟩
theorem Un.refl:Un fs ex H H h h:=Un.kept fun _ _ q=>q
theorem Un.laid(k:∀ b u,h.get? b=some u->h'.get? b=some u)(hp:h.objs.size<=a)(hn:H a=none):Un fs ex H (upd H a o) h h' where
 keep:=fun b u q _ _ _=>k b u q
 slot:=fun b u q _ _ _=>⟨u.slots,k b u q⟩
 free:=fun b u q n _=>by rw[aU (Ao (AA (zM q) hp))];exact n
 there:=fun b u q _=>⟨u,k b u q⟩
 gv:=fun b xs q=>by rw[aU (pY q hn)];exact q
 gA:=fun b u xs q=>by rw[aU (pY q hn)];exact q
 gX:=fun b ps q=>⟨#[],by rw[aU (pY q hn),q];simp⟩
theorem Un.write(mu:tq (H x))(he:e=x\/H e=some (.own x))(k:∀ b u,b≠e->h.get? b=some u->h'.get? b=some u)(rB:∃ u,h'.get? e=some u):Un fs ex H (upd H x o) h h':=by
 have hx:∀ b,H b=none->b≠x:=fun b n z=>by subst z;rw[n]at mu;exact mu
 have hb:∀ b,H b=none->b≠e:=fun b n z=>by
  subst z;rcases he with r|r
  ·exact hx b n r
  ·rw[n]at r;cases r
 have hm:∀ b u,H b=some u->¬ tq (some u)->b≠x:=fun b u q nm z=>by subst z;rw[q]at mu;exact nm mu
 refine⟨fun b u q n _ _=>k b u (hb b n) q,fun b u q n _ _=>⟨u.slots,k b u (hb b n) q⟩,fun b u q n _=>by rw[aU (hx b n)];exact n,fun b u q _=>?_,
  fun b xs q=>by rw[aU (hm b _ q fun z=>z)];exact q,fun b u xs q=>by rw[aU (hm b _ q fun z=>z)];exact q,fun b ps q=>⟨#[],by rw[aU (hm b _ q fun z=>z),q];simp⟩⟩
 by_cases ju:b=e
 ·subst ju;exact rB
 ·exact⟨u,k b u ju q⟩
end
noncomputable def yK(h:zh)(H:Hp):List gV:=(A4 h.objs.size).filter fun a=>(H a).isSome
def mh(h:zh)(H:Hp):zh:=PySem.W.hideAll h (yK h H)
theorem zmS(h:zh)(H:Hp):(mh h H).objs.size=h.objs.size:=PySem.W.hideAll_size _ _
theorem zmR{o:zb}(e:h.get? b=some o)(n:H b=none):(mh h H).get? b=some o :=
 PySem.W.hideAll_get _ e fun hm=>by
  have q:(H b).isSome=true:=(List.mem_filter.mp hm).2;rw[n]at q;simp at q
theorem zpO{o:zb}(e:(mh h H).get? b=some o):h.get? b=some o/\H b=none:=by
 have e':h.get? b=some o:=PySem.W.of_hideAll (yK h H) e;refine⟨e',?_⟩;cases q:H b with
 | none=>rfl
 | some x =>
  have hm:b∈yK h H:=List.mem_filter.mpr ⟨DR.mpr (zM e'),by simp[q]⟩;have z:(mh h H).get? b=none:=PySem.W.hideAll_none (yK h H) hm;rw[z]at e;cases e
noncomputable def zjT(g h:zh)(L:gV):List (gV×zb):=(A4 h.objs.size).filterMap fun a=>if a=L\/(g.get? a).isSome=true then none else(h.get? a).map fun o=>(a,o)
def rest(g h:zh)(L d:gV):List (gV×zb):=(zjT g h L).filter fun p=>decide (p.1≠d)
end
variable {X:Cx}{i j t':Nat}{α:Type}{x:dm}{pins sr:List (gV×zb)}{it:gV}{Q:Unit->kb->Prop}{e:yW}{o:zb}{g':Array GenState}{A:zx}{M:B8}{s s':kb}{E:ir->kb->Prop}{v:V}{u:ir}{N:List dm}{σ σ':List (Option V)}{d':Drawn}{ch:List gV}{t:TT}
section
structure Mod(K:yU)(mg:dm->Option ir)(base:zh):Prop where
 uM:K.In base
 glob:base.Ns zv mg
 blt:∃ mb,base.Ns Ex mb/\∀ x:dm,x ≠ "__name__"->mb x=Ad x
 nolimit:base.NoLimit
 seer:base.NoSeer
def zjM(l:List zC):Prop:=∃ env r,l=env::r/\env.scope.isGenerator=false/\env.scope.isCoroutine=false/\env.builtins=Ex/\env.globals=zv
structure Cx where
 prog:zu
 w:zq
 K:yU
 mg:dm->Option ir
 base:zh
 A:zx
 N:List dm
 s₀:kb
 H₀:Hp
 env:zC
 outer:List zC
 stack:List zC
 ex:List gV
 fn:dm->Bool
 calm:Bool
 pn:List (gV×zb)
 xe:ir->kb->Prop
noncomputable def eM(l:List zC):List gV:=l.filterMap (·.frame)
abbrev Cx.fs(X:Cx):List gV:=eM X.outer
def wa(sc:Al)(x:dm):Prop:=sc.names.lookup x=some .local\/sc.names.lookup x=some .cell\/sc.names.lookup x=some .free
def Loc(sc:Al)(x:dm):Prop:=sc.names.lookup x=some .local\/sc.names.lookup x=some .cell
def Look(env:zC)(h:zh)(m:dm->Option ir)(x:dm)(u:ir):Prop :=
 (env.kindOf x=some .local/\m x=some u)\/((env.kindOf x=some .cell\/env.kindOf x=some .free)/\∃ c,env.cells.lookup x=some c/\h.IsCell c (some u))
structure Cx.Ok(X:Cx):Prop where
 mod:Mod X.K X.mg X.base
 kind:X.env.scope.kind=.function
 glob:X.env.globals=zv
 blt:X.env.builtins=Ex
 above:X.s₀.heap.objs.size<=X.env.locals
 inj:∀ x y c,X.env.cells.lookup x=some c->X.env.cells.lookup y=some c->x=y
 has:∀ x,(X.env.kindOf x=some .cell\/X.env.kindOf x=some .free)->∃ c,X.env.cells.lookup x=some c
 nv:∀ x c,X.fn x=true->X.env.cells.lookup x=some c->X.s₀.heap.objs.size<=c
 hd:X.calm=true->X.A.handled=none
 frames:X.A.frames=some X.stack
 qx:X.stack=X.outer\/(X.stack=X.env::X.outer/\X.env.frame=some X.env.locals)
 pK:∀ b∈X.ex,b≠X.env.locals/\∀ x c,X.env.cells.lookup x=some c->c≠b
 bs:∀ b o,X.base.get? b=some o->X.s₀.heap.get? b=some o/\X.H₀ b=none
 jO:X.base.objs.size<=X.s₀.heap.objs.size
 nY:∀ b o,X.base.get? b=some o->b∉X.ex
 nH:∀ b∈X.ex,b∉X.fs
 gO:X.s₀.heap.FunFrames X.base X.outer
 kH:∀ b∈X.fs,X.H₀ b=none
 tree:X.prog.given.tree=none
 sk:zjM X.stack
structure Inv(X:Cx)(pins:List (gV×zb))(σ:List (Option V))(H:Hp)(s:kb):Prop where
 ok:X.Ok
 os:s.os=X.s₀.os
 bare:BX s.gens
 base:Un X.fs X.ex X.H₀ H X.s₀.heap s.heap
 loc:∃ m,s.heap.Ns X.env.locals m/\∀(i:Nat) (x:dm) (v:V),X.N[i]?=some x->σ[i]?=some (some v)->wa X.env.scope x->∃ u,RelV v u/\Look X.env s.heap m x u
 cell:∀ x c,X.env.cells.lookup x=some c->∃ v,s.heap.IsCell c v
 free:H X.env.locals=none
 fU:∀ x c,X.env.cells.lookup x=some c->H c=none
 pin:∀ p∈X.pn++pins,s.heap.get? p.1=some p.2/\H p.1=none/\p.1≠X.env.locals/\p.1∉X.fs/\∀ v,p.2.data≠.cell v
 aC:cu X.prog X.w H s.heap
 len:σ.length=X.N.length
section
theorem Cx.Ok.zpv(ok:X.Ok)(e:X.base.get? b=some o):b∉X.fs:=fun hb=>by
 have:=(ok.gO.mem hb).1;rw[e]at this;cases this
theorem Inv.bs(I:Inv X pins σ H s):∀ b o,X.base.get? b=some o->s.heap.get? b=some o/\H b=none:=fun b o e =>
 ⟨I.base.keep b o (I.ok.bs b o e).1 (I.ok.bs b o e).2 (I.ok.zpv e) (I.ok.nY b o e),I.base.free b o (I.ok.bs b o e).1 (I.ok.bs b o e).2 (I.ok.nY b o e)⟩
theorem Inv.bk(I:Inv X pins σ H s):∀ b o,X.base.get? b=some o->s.heap.get? b=some o:=fun b o e=>(I.bs b o e).1
theorem Inv.mod(I:Inv X pins σ H s):Mod X.K X.mg X.base:=I.ok.mod
theorem Inv.eO(I:Inv X pins σ H s):X.K.In s.heap:=I.ok.mod.uM.keeps I.bk
theorem Inv.nolimit(I:Inv X pins σ H s):s.heap.NoLimit:=I.ok.mod.nolimit.keeps I.bk
theorem Inv.lt(I:Inv X pins σ H s):X.env.locals<s.heap.objs.size:=let⟨_,hn,_⟩:=I.loc;hn.lt
theorem Inv.sz(I:Inv X pins σ H s):X.s₀.heap.objs.size<=s.heap.objs.size:=AB I.ok.above (CM I.lt)
theorem Inv.zhp(I:Inv X pins σ H s)(h:s.heap.objs.size<=a):a∉X.fs:=fun hb=>by
 obtain⟨_,o,ho,_⟩:=I.ok.gO.mem hb;exact absurd (AA (zM ho) (AB I.sz h)) (Dh _)
theorem Inv.lQ(I:Inv X pins σ H s):∀ x c,X.env.cells.lookup x=some c->c≠X.env.locals:=fun x c e z=>by
 obtain⟨v,o,ho,hd⟩:=I.cell x c e;obtain⟨m,⟨o',es,ep,ig,eN,_⟩,_⟩:=I.loc;rw[z,ig]at ho;cases ho;rw[eN]at hd;cases hd
theorem Inv.gO(I:Inv X pins σ H s):s.heap.FunFrames X.base X.outer:=by
 have all:∀(l:List zC),(∀ b∈eM l,b∈X.fs)->X.s₀.heap.FunFrames X.base l->s.heap.FunFrames X.base l:=by
  intro l
  induction l with
  | nil=>intro _ _;trivial
  | cons env r ih =>
   intro hs hl;obtain⟨hk,⟨L,o,hf,hn,ho,hd⟩,hr⟩:=hl;have hL:L∈X.fs:=hs L (by unfold eM;rw[Ct,hf];exact Au);obtain⟨sl,e⟩:=I.base.slot L o ho (I.ok.kH L hL) hL fun z=>I.ok.nH L z hL;exact⟨hk,⟨L,_,hf,hn,e,hd⟩,ih (fun b hb=>hs b (by unfold eM;rw[Ct,hf];exact z0 _ hb)) hr⟩
 exact all X.outer (fun _ hb=>hb) I.ok.gO
theorem Inv.stack(I:Inv X pins σ H s):s.heap.FunFrames X.base X.stack:=by
 rcases I.ok.qx with e|⟨e,hf⟩
 ·rw[e];exact I.gO
 ·rw[e]
  obtain⟨m,hn,_⟩:=I.loc;refine .cons (by rw[I.ok.kind];decide) hf hn ?_ I.gO;exact Cu (AB I.ok.jO I.ok.above)
theorem Inv.sJ(I:Inv X pins σ H s):∀ b∈eM X.stack,b∈X.env.locals::X.fs:=fun b hb=>by
 rcases I.ok.qx with e|⟨e,hf⟩
 ·rw[e]at hb;exact z0 _ hb
 ·rw[e]at hb
  unfold eM at hb;rw[Ct,hf]at hb;exact hb
theorem Inv.yG(I:Inv X pins σ H s):∀ b∈eM X.stack,H b=none:=fun b hb=>by
 rcases zS.mp (I.sJ b hb)with e|hb
 ·rw[e];exact I.free
 ·obtain⟨_,o,ho,_⟩:=I.ok.gO.mem hb
  exact I.base.free b o ho (I.ok.kH b hb) fun z=>I.ok.nH b z hb
theorem Inv.step(I:Inv X pins σ H s)
  (jv:∀ b∈ch,(b∈X.ex\/X.s₀.heap.objs.size<=b)/\b≠X.env.locals/\(∀ x c,X.env.cells.lookup x=some c->c≠b)/\∀ p∈X.pn++pins,p.1≠b)
  (keep:∀ b o,b≠X.env.locals->b∉X.fs->b∉ch->s.heap.get? b=some o->H b=none->h'.get? b=some o)
  (slot:∀ b o,b≠X.env.locals->b∈X.fs->b∉ch->s.heap.get? b=some o->H b=none->∃ sl,h'.get? b=some { o with slots:=sl })(free:∀ b o,b∉ch->s.heap.get? b=some o->H b=none->H' b=none)
  (there:∀ b o,b∉ch->s.heap.get? b=some o->∃ o',h'.get? b=some o')
  (gv:∀ b xs,H b=some (.tup xs)->H' b=some (.tup xs))(gA:∀ b o u,H b=some (.frz o u)->H' b=some (.frz o u))(gX:∀ b ps,H b=some (.tbl ps)->∃ more,H' b=some (.tbl (ps++more)))
  (ns:∀ m,s.heap.Ns X.env.locals m->h'.Ns X.env.locals m)(aC:cu X.prog X.w H' h')(hg:BX g') :
  Inv X pins σ H' { s with heap:=h',gens:=g',drawn:=d',toks:=t' }:=by
 have sd:∀ b o,X.s₀.heap.get? b=some o->b≠X.env.locals:=fun b o e=>Ao (AA (zM e) I.ok.above);have mH:∀ b o,X.s₀.heap.get? b=some o->b∉X.ex->b∉ch:=fun b o e hx hb=>by
  rcases (jv b hb).1 with z|z
  ·exact hx z
  ·exact absurd (AA (zM e) z) (Dh _)
 have cellK:∀ x c,X.env.cells.lookup x=some c->∀ v,s.heap.IsCell c v->h'.IsCell c v:=fun x c e v ⟨o,ho,hd⟩=>by
  have uV:c∉ch:=fun z=>(jv c z).2.2.1 x c e rfl
  by_cases hc:c∈X.fs
  ·obtain⟨sl,q⟩:=slot c o (I.lQ x c e) hc uV ho (I.fU x c e)
   exact⟨_,q,hd⟩
  ·exact⟨o,keep c o (I.lQ x c e) hc uV ho (I.fU x c e),hd⟩
 refine⟨I.ok,I.os,hg,⟨fun b o e n hb hx=>?_,fun b o e n hb hx=>?_,fun b o e n hx=>?_,fun b o e hx=>?_,fun b xs e=>gv b xs (I.base.gv b xs e),fun b o xs e=>gA b o xs (I.base.gA b o xs e),fun b ps e=>?_⟩,?_,fun x c e=>?_,?_,fun x c e=>?_,fun p hp=>?_,aC,I.len⟩
 ·exact keep b o (sd b o e) hb (mH b o e hx) (I.base.keep b o e n hb hx) (I.base.free b o e n hx)
 ·obtain⟨sl,e1⟩:=I.base.slot b o e n hb hx
  obtain⟨mR,e2⟩:=slot b _ (sd b o e) hb (mH b o e hx) e1 (I.base.free b o e n hx);exact⟨mR,e2⟩
 ·obtain⟨o',e1⟩:=I.base.there b o e hx
  exact free b o' (mH b o e hx) e1 (I.base.free b o e n hx)
 ·obtain⟨o',e1⟩:=I.base.there b o e hx
  exact there b o' (mH b o e hx) e1
 ·obtain⟨m1,e1⟩:=I.base.gX b ps e
  obtain⟨m2,e2⟩:=gX b _ e1;exact⟨m1++m2,by rw[e2,Array.append_assoc]⟩
 ·obtain⟨m,hn,hl⟩:=I.loc
  refine⟨m,ns m hn,fun i x v e1 e2 e3=>?_⟩;obtain⟨u,r,l⟩:=hl i x v e1 e2 e3;refine⟨u,r,?_⟩;rcases l with l|⟨k,c,e,z⟩
  ·exact .inl l
  ·exact .inr ⟨k,c,e,cellK x c e _ z⟩
 ·obtain⟨v,z⟩:=I.cell x c e
  exact⟨v,cellK x c e v z⟩
 ·obtain⟨m,⟨o,_,_,ho,_⟩,_⟩:=I.loc
  exact free _ o (fun z=>(jv _ z).2.1 rfl) ho I.free
 ·obtain⟨v,o,ho,hd⟩:=I.cell x c e
  exact free c o (fun z=>(jv c z).2.2.1 x c e rfl) ho (I.fU x c e)
 ·obtain⟨e,n,ne,nf,d⟩:=I.pin p hp
  have uV:p.1∉ch:=fun z=>(jv p.1 z).2.2.2 p hp rfl;exact⟨keep p.1 p.2 ne nf uV e n,free p.1 p.2 uV e n,ne,nf,d⟩
theorem Inv.un(I:Inv X pins σ H s)(u:Un X.fs [] H H' s.heap h')(aC:cu X.prog X.w H' h'):Inv X pins σ H' { s with heap:=h',toks:=t' }:=by
 obtain⟨m,⟨o,es,ep,ho,r⟩,_⟩:=id I.loc;obtain⟨sl,hL⟩:=u.any ho I.free (by simp);exact I.step (g':=s.gens) (d':=s.drawn) (ch:=[]) (fun _ z=>nomatch z) (fun b o _ hb _ e n=>u.keep b o e n hb (by simp)) (fun b o _ hb _ e n=>u.slot b o e n hb (by simp)) (fun b o _ e n=>u.free b o e n (by simp)) (fun b o _ e=>u.there b o e (by simp)) u.gv u.gA u.gX (fun m' hm=>by
  obtain⟨o',nG,ue,ig,r'⟩:=hm;rw[ho]at ig;cases ig
  exact⟨_,nG,ue,hL,r'⟩) aC I.bare
theorem Inv.call(I:Inv X pins σ H s)(u:Un (eM X.stack) ch H H' s.heap h')(aC:cu X.prog X.w H' h')(hg:BX g')
  (jv:∀ b∈ch,(b∈X.ex\/X.s₀.heap.objs.size<=b)/\b≠X.env.locals/\(∀ x c,X.env.cells.lookup x=some c->c≠b)/\∀ p∈X.pn++pins,p.1≠b) :
  Inv X pins σ H' { s with heap:=h',gens:=g',drawn:=d',toks:=t' }:=by
 obtain⟨m,⟨o,es,ep,ho,r⟩,_⟩:=id I.loc;obtain⟨sl,hL⟩:=u.any ho I.free fun z=>(jv _ z).2.1 rfl;exact I.step (ch:=ch) jv (fun b o hL hb hc e n=>u.keep b o e n (fun z=>(zS.mp (I.sJ b z)).elim hL hb) hc) (fun b o _ _ hc e n=>u.any e n hc) (fun b o hc e n=>u.free b o e n hc) (fun b o hc e=>u.there b o e hc) u.gv u.gA u.gX (fun m' hm=>by
  obtain⟨o',nG,ue,ig,r'⟩:=hm;rw[ho]at ig;cases ig
  exact⟨_,nG,ue,hL,r'⟩) aC hg
theorem Inv.turned(I:Inv X pins σ H s)(k:∀ b o,b≠it->s.heap.get? b=some o->h'.get? b=some o)(hn:H it=none)(hL:it≠X.env.locals)
  (h1:it∈X.ex\/X.s₀.heap.objs.size<=it)(h2:∀ x c,X.env.cells.lookup x=some c->c≠it)(h3:∀ p∈X.pn++pins,p.1≠it):Inv X pins σ H { s with heap:=h',toks:=t' }:=by
 have uX:∀ b u,H b=some u->b≠it:=fun b u e z=>by rw[z,hn]at e;cases e
 refine I.step (g':=s.gens) (d':=s.drawn) (ch:=[it]) (fun b hb=>?_) (fun b o _ _ hc e _=>k b o (fun z=>hc (by simp[z])) e) (fun b o _ _ hc e _=>⟨o.slots,k b o (fun z=>hc (by simp[z])) e⟩) (fun _ _ _ _ n=>n)
  (fun b o hc e=>⟨o,k b o (fun z=>hc (by simp[z])) e⟩) (fun _ _ e=>e) (fun _ _ _ e=>e) (fun b ps e=>⟨#[],by rw[e];simp⟩) (fun m hm=>?_) (fun b u e=>?_) I.bare
 ·have e:b=it:=by simpa using hb
  subst e;exact⟨h1,hL,h2,h3⟩
 ·obtain⟨o,es,ep,ho,r⟩:=hm
  exact⟨o,es,ep,k _ o (AD hL) ho,r⟩
 ·refine(I.aC b u e).iQ (fun c v hc q=>k c v ?_ q) (fun _ q=>q) fun _ _ q=>q
  rcases hc with z|z
  ·rw[z];exact uX b u e
  ·exact uX c _ z
theorem Inv.tok(I:Inv X pins σ H s)(t:Nat):Inv X pins σ H { s with toks:=t }:=I.un (h':=s.heap) (t':=t) Un.refl I.aC
theorem Inv.kept{t':Nat}(I:Inv X pins σ H s)(k:∀ b u,s.heap.get? b=some u->h'.get? b=some u):Inv X pins σ H { s with heap:=h',toks:=t' }:=I.un (Un.kept k) (I.aC.kept k)
theorem Inv.laid{a:gV}{o:HO}{t':Nat}(I:Inv X pins σ H s)(k:∀ b u,s.heap.get? b=some u->h'.get? b=some u)(hp:s.heap.objs.size<=a)(new:cD X.prog X.w (upd H a o) h' a o) :
  Inv X pins σ (upd H a o) { s with heap:=h',toks:=t' }:=I.un (Un.laid k hp (I.aC.fresh hp)) (I.aC.laid k hp new)
theorem Inv.write{x e:gV}{o:HO}{t':Nat}(I:Inv X pins σ H s)(mu:tq (H x))(he:e=x\/H e=some (.own x))(k:∀ b u,b≠e->s.heap.get? b=some u->h'.get? b=some u)(rB:∃ u,h'.get? e=some u)
  (new:cD X.prog X.w (upd H x o) h' x o):Inv X pins σ (upd H x o) { s with heap:=h',toks:=t' }:=I.un (Un.write mu he k rB) (I.aC.write mu he k rB new)
theorem Inv.weak(I:Inv X pins σ H s)(hl:σ'.length=σ.length)(w:∀(i:Nat) v,σ'[i]?=some (some v)->σ[i]?=some (some v)):Inv X pins σ' H s :=
 ⟨I.ok,I.os,I.bare,I.base,let⟨m,hn,rF⟩:=I.loc;⟨m,hn,fun i x v e1 e2 e3=>rF i x v e1 (w i v e2) e3⟩,I.cell,I.free,I.fU,I.pin,I.aC,hl.trans I.len⟩
theorem Inv.yc(I:Inv X pins σ H s)(h:∀ p∈sr,s.heap.get? p.1=some p.2/\H p.1=none/\p.1≠X.env.locals/\p.1∉X.fs/\∀ v,p.2.data≠.cell v):Inv X sr σ H s :=
 ⟨I.ok,I.os,I.bare,I.base,I.loc,I.cell,I.free,I.fU,fun p hp=>(AI.mp hp).elim (fun z=>I.pin p (CN _ z)) (h p),I.aC,I.len⟩
theorem zcS(hN:N.Nodup)(a:N[i]?=some x)(b:N[j]?=some x):i=j:=by
 obtain⟨h1,e1⟩:=Am.mp a;obtain⟨h2,e2⟩:=Am.mp b;exact(List.getElem_inj hN).mp (e1.trans e2.symm)
theorem zio(I:Inv X pins σ H s)(hN:X.N.Nodup)(hi:X.N[i]?=some x)(hx:Loc X.env.scope x)(r:RelV v u)
  (h:∀ s',Inv X pins (σ.set i (some v)) H s'->(∃ a,DS a s.heap s'.heap/\(a=X.env.locals\/X.env.cells.lookup x=some a))->Q () s')(hf:X.fn x=true\/X.env.scope.names.lookup x=some .local:=by first|exact .inl rfl|exact .inr rfl|assumption):yY M A (storeName X.env x u) Q E s:=by
 obtain⟨m,hn,hl⟩:=id I.loc;have zmL:(X.env.scope.kind==.class||(X.env.scope.kind==.module&&X.env.locals != X.env.globals))=false:=by rw[I.ok.kind];rfl
 have hiσ:i<σ.length:=by rw[I.len];exact(Am.mp hi).1
 have lQ:=I.lQ;have tracked:∀{a:gV} {h':zh},(∃ o,s.heap.get? a=some o/\H a=none)->DS a s.heap h'->cu X.prog X.w H h':=fun{a h'} ha hs b ob e=>by
  obtain⟨_,_,zgi⟩:=ha;refine(I.aC b ob e).iQ (fun c w' hc q=>(hs.2 c ?_).trans q) (fun _ q=>q) fun _ _ q=>q;rintro rfl;rcases hc with rfl|hc
  ·rw[zgi]at e;cases e
  ·rw[zgi]at hc;cases hc
 rcases hx with hk|hk
 ·refine wpAny_storeName_local hk hn (fun h' rH hs=>?_) zmL
  obtain⟨oL,_,_,xx,_⟩:=id hn;refine h _ ⟨I.ok,I.os,I.bare,⟨fun b o e n hb hx=>?_,fun b o e n hb hx=>?_,I.base.free,fun b o e hx=>?_,I.base.gv,I.base.gA,I.base.gX⟩,⟨_,rH,fun j y v' e1 e2 e3=>?_⟩,fun y c e=>?_,I.free,I.fU,fun p hp=>?_,tracked ⟨oL,xx,I.free⟩ hs,by simpa using I.len⟩ ⟨_,hs,.inl rfl⟩
  ·exact(hs.2 b (Ao (AA (zM e) I.ok.above))).trans (I.base.keep b o e n hb hx)
  ·obtain⟨sl,e1⟩:=I.base.slot b o e n hb hx
   exact⟨sl,(hs.2 b (Ao (AA (zM e) I.ok.above))).trans e1⟩
  ·obtain⟨o',e1⟩:=I.base.there b o e hx
   exact⟨o',(hs.2 b (Ao (AA (zM e) I.ok.above))).trans e1⟩
  ·by_cases hj:j=i
   ·subst hj
    rw[hi]at e1;cases e1
    rw[An hiσ]at e2;cases e2;exact⟨u,r,.inl ⟨hk,by simp⟩⟩
   ·rw[z9 (AD hj)]at e2
    obtain⟨u',r',q⟩:=hl j y v' e1 e2 e3;refine⟨u',r',?_⟩;rcases q with⟨k,e⟩|⟨k,c,e,z⟩
    ·refine .inl ⟨k,?_⟩
     have:y≠x:=fun e=>hj (zcS hN e1 (e▸hi));simp[this,e]
    ·exact .inr ⟨k,c,e,z.sameBut hs (lQ y c e)⟩
  ·obtain⟨w',z⟩:=I.cell y c e
   exact⟨w',z.sameBut hs (lQ y c e)⟩
  ·obtain⟨e,n,ne,nf,d⟩:=I.pin p hp
   exact⟨(hs.2 p.1 ne).trans e,n,ne,nf,d⟩
 ·have hfn:X.fn x=true:=by
   rcases hf with z|z
   ·exact z
   ·rw[z]at hk;cases hk
  obtain⟨c,hc⟩:=I.ok.has x (.inl hk);obtain⟨w',z⟩:=I.cell x c hc;refine wpAny_storeName_cell I.ok.kind hk hc z (fun h' jV hs=>?_);obtain⟨oc,hoc,zmX⟩:=id z;refine h { s with heap:=h' } ⟨I.ok,I.os,I.bare,⟨fun b o e n hb hx=>?_,fun b o e n hb hx=>?_,I.base.free,fun b o e hx=>?_,I.base.gv,I.base.gA,I.base.gX⟩,⟨m,hn.sameBut hs (AD (lQ x c hc)),fun j y v' e1 e2 e3=>?_⟩,fun y c' e=>?_,I.free,I.fU,fun p hp=>?_,tracked ⟨oc,hoc,I.fU x c hc⟩ hs,by simpa using I.len⟩ ⟨c,hs,.inr hc⟩
  ·exact(hs.2 b (Ao (AA (zM e) (I.ok.nv x c hfn hc)))).trans (I.base.keep b o e n hb hx)
  ·obtain⟨sl,e1⟩:=I.base.slot b o e n hb hx
   exact⟨sl,(hs.2 b (Ao (AA (zM e) (I.ok.nv x c hfn hc)))).trans e1⟩
  ·obtain⟨o',e1⟩:=I.base.there b o e hx
   exact⟨o',(hs.2 b (Ao (AA (zM e) (I.ok.nv x c hfn hc)))).trans e1⟩
  ·by_cases hj:j=i
   ·subst hj
    rw[hi]at e1;cases e1
    rw[An hiσ]at e2;cases e2;exact⟨u,r,.inr ⟨.inl hk,c,hc,jV⟩⟩
   ·rw[z9 (AD hj)]at e2
    obtain⟨u',r',q⟩:=hl j y v' e1 e2 e3;refine⟨u',r',?_⟩;rcases q with q|⟨k,c',e,z'⟩
    ·exact .inl q
    ·refine .inr ⟨k,c',e,z'.sameBut hs ?_⟩
     rintro rfl;exact hj (zcS hN e1 (I.ok.inj _ _ _ e hc▸hi))
  ·by_cases kK:c'=c
   ·subst kK;exact⟨_,jV⟩
   ·obtain⟨w2,z2⟩:=I.cell y c' e
    exact⟨w2,z2.sameBut hs kK⟩
  ·obtain⟨e,n,ne,nf,d⟩:=I.pin p hp
   refine⟨(hs.2 p.1 ?_).trans e,n,ne,nf,d⟩;intro q;rw[q,hoc]at e;have q':oc=p.2:=Az e;exact d w' (by rw[<- q'];exact zmX)
theorem sL(I:Inv X pins σ H s)(hN:X.N.Nodup)(hi:X.N[i]?=some x)(hx:Loc X.env.scope x)(r:RelV v u)
  (h:∀ s',Inv X pins (σ.set i (some v)) H s'->Q () s')(hf:X.fn x=true\/X.env.scope.names.lookup x=some .local:=by first|exact .inl rfl|exact .inr rfl|assumption):yY M A (storeName X.env x u) Q E s :=
 zio I hN hi hx r (fun s' I' _=>h s' I') hf
theorem Inv.zeZ(I:Inv X pins σ H s)(ho:s'.os=s.os)(u:Un (eM X.stack) ch H H' s.heap s'.heap)(aC:cu X.prog X.w H' s'.heap)(hg:BX s'.gens)
  (jv:∀ b∈ch,(b∈X.ex\/X.s₀.heap.objs.size<=b)/\b≠X.env.locals/\(∀ x c,X.env.cells.lookup x=some c->c≠b)/\∀ p∈X.pn++pins,p.1≠b):Inv X pins σ H' s':=by
 obtain⟨h',g',d',t',o'⟩:=s';have e:o'=s.os:=ho;subst e;exact I.call (g':=g') (t':=t') (d':=d') u aC hg jv
end
abbrev XK:=ir->Option gV->Hp->Prop
abbrev St:=List (Option V)
abbrev VK:=V->Hp->Prop
abbrev TE:=St->Hp->VK->Prop
abbrev TT:=St->Hp->(Bool->Hp->Prop)->Prop
abbrev TA:=St->Hp->(List V->Hp->Prop)->Prop
structure Ends where
 nx:St->Hp->Prop
 rt:VK
 bk:St->Hp->Prop:=fun _ _=>False
 ct:St->Hp->Prop:=fun _ _=>False
abbrev TS:=Ends->St->Hp->Prop
def EP(X:Cx)(pins:List (gV×zb))(σ:St)(Q:VK)(u:ir)(s':kb):Prop:=∃ v H',Inv X pins σ H' s'/\RelV v u/\Q v H'
def TP(X:Cx)(pins:List (gV×zb))(σ:St)(Q:Bool->Hp->Prop)(b:Bool)(s':kb):Prop:=∃ H',Inv X pins σ H' s'/\Q b H'
def AP(X:Cx)(pins:List (gV×zb))(σ:St)(Q:List V->Hp->Prop)(us:List ir)(s':kb):Prop:=∃ vs H',Inv X pins σ H' s'/\Vals vs us/\Q vs H'
def SP(X:Cx)(pins:List (gV×zb))(D:Ends)(f:Flow)(s':kb):Prop :=
 match f with
 | .next=>∃ σ' H',Inv X pins σ' H' s'/\D.nx σ' H'
 | .brk=>∃ σ' H',Inv X pins σ' H' s'/\D.bk σ' H'
 | .cont=>∃ σ' H',Inv X pins σ' H' s'/\D.ct σ' H'
 | .ret u=>∃ v σ' H',Inv X pins σ' H' s'/\RelV v u/\D.rt v H'
def PE(X:Cx)(e:yW)(t:TE):Prop :=
 ∀(pins:List (gV×zb)) (s:kb) (σ:St) (H:Hp) (Q:VK),Inv X pins σ H s->t σ H Q->yY (yZ X.prog X.w) X.A (zk e X.env) (EP X pins σ Q) X.xe s
def PT(X:Cx)(e:yW)(t:TT):Prop :=
 ∀(pins:List (gV×zb)) (s:kb) (σ:St) (H:Hp) (Q:Bool->Hp->Prop),Inv X pins σ H s->t σ H Q->yY (yZ X.prog X.w) X.A (isTrue e X.env (zk e X.env)) (TP X pins σ Q) X.xe s
def PW(X:Cx)(e:yW)(t:TT):Prop :=
 ∀(whole:Sem ir) (pins:List (gV×zb)) (s:kb) (σ:St) (H:Hp) (Q:Bool->Hp->Prop),Inv X pins σ H s->t σ H Q->yY (yZ X.prog X.w) X.A (isTrue e X.env whole) (TP X pins σ Q) X.xe s
theorem PW.pt(h:PW X e t):PT X e t:=h _
def PA(X:Cx)(es:List yW)(t:TA):Prop :=
 ∀(pos:zc) (pins:List (gV×zb)) (s:kb) (σ:St) (H:Hp) (Q:List V->Hp->Prop),Inv X pins σ H s->t σ H Q->yY (yZ X.prog X.w) X.A (spliced (zK pos (yX es X.env))) (AP X pins σ Q) X.xe s
def PS(X:Cx)(st:zy)(t:TS):Prop :=
 ∀(pins:List (gV×zb)) (s:kb) (σ:St) (H:Hp) (D:Ends),Inv X pins σ H s->t D σ H->yY (yZ X.prog X.w) X.A (exec st X.env) (SP X pins D) X.xe s
def eE(X:Cx)(st:List zy)(t:TS):Prop :=
 ∀(pins:List (gV×zb)) (s:kb) (σ:St) (H:Hp) (D:Ends),Inv X pins σ H s->t D σ H->yY (yZ X.prog X.w) X.A (execs st X.env) (SP X pins D) X.xe s
theorem aT{t:Sem α}{Q Q':α->kb->Prop}(h:yY M A t Q E s)(hQ:∀ a s,Q a s->Q' a s):yY M A t Q' E s:=z8 h hQ fun _ _ x=>x
end
variable {a c:yW}{pos:zc}{Q:ir->kb->Prop}{σ:St}
section
section
noncomputable def dA(i:Nat):TE:=fun σ H Q=>∃ v,σ[i]?=some (some v)/\Q v H
noncomputable def tC(v:V):TE:=fun _ H Q=>Q v H
theorem zhK(hN:X.N[i]?=some x)(hv:wa X.env.scope x)(hd:(x==("__debug__":dm))=false:=by decide)(eZ:(x==("__classdict__":dm))=false:=by decide):PE X (.Name x pos) (dA i):=by
 intro pins s σ H Q I h;obtain⟨v,e,h⟩:=h;obtain⟨m,hn,hl⟩:=I.loc;obtain⟨u,r,l⟩:=hl i x v hN e hv;have fin:EP X pins σ Q u s:=⟨v,H,I,r,h⟩;rcases l with⟨hk,hm⟩|⟨hk,c,hc,zge⟩
 ·exact wpAny_Name (wpAny_loadName_local I.ok.kind hk hn hm fin) hd
 ·rcases hk with hk|hk
  ·exact wpAny_Name (wpAny_loadName_cell I.ok.kind hk hc zge fin) hd
  ·exact wpAny_Name (wpAny_loadName_free I.ok.kind hk hc zge fin eZ) hd
theorem zqo{i j pos}:PE X (.Constant (.int i) j pos) (tC (.int i)):=fun _ _ _ H _ I h=>wpAny_Constant_int ⟨.int i,H,I.tok _,⟨_,rfl⟩,h⟩
theorem zqe{b j pos}:PE X (.Constant (.bool b) j pos) (tC (.bl b)):=fun _ _ _ H _ I h=>Constant_bool ⟨.bl b,H,I,rfl,h⟩
theorem zhJ{j pos}:PE X (.Constant .none j pos) (tC .non):=fun _ _ _ H _ I h=>Constant_none ⟨.non,H,I,rfl,h⟩
theorem zqu{x j pos}:PE X (.Constant (.str x) j pos) (tC (.str x)):=fun _ _ _ H _ I h=>Calls.Constant_str ⟨.str x,H,I.tok _,⟨_,rfl⟩,h⟩
def Gl(X:Cx)(x:dm):Prop:=X.env.kindOf x=some .globalImplicit
theorem rT(I:Inv X pins σ H s)(hg:Gl X x)(hm:X.mg x=some u)(h:Q u s)
  (hd:(x==("__debug__":dm))=false:=by decide):yY (yZ X.prog X.w) X.A (zk (.Name x pos) X.env) Q E s :=
 GK I.ok.kind hg (Calls.loadGlobal_global (by rw[I.ok.glob];exact I.mod.glob.keeps I.bk) hm h) hd
theorem rQ(I:Inv X pins σ H s)(hg:Gl X x)(hm:X.mg x=none)(hv:Ad x=some u)(h:Q u s)
  (hn:x ≠ "__name__":=by decide) (hd:(x==("__debug__":dm))=false:=by decide):yY (yZ X.prog X.w) X.A (zk (.Name x pos) X.env) Q E s:=by
 obtain⟨mb,h1,h2⟩:=I.mod.blt;exact GK I.ok.kind hg (Calls.loadGlobal_builtin (by rw[I.ok.glob];exact I.mod.glob.keeps I.bk) hm (by rw[I.ok.blt];exact h1.keeps I.bk) ((h2 x hn).trans hv) h) hd
theorem cW(hg:Gl X x)(hm:X.mg x=some u)(r:RelV v u)(hd:(x==("__debug__":dm))=false:=by decide):PE X (.Name x pos) (tC v) :=
 fun _ _ _ H _ I h=>rT I hg hm ⟨v,H,I,r,h⟩ hd
theorem zqf(hg:Gl X x)(hm:X.mg x=none)(hv:Ad x=some u)(r:RelV v u)(hn:x ≠ "__name__":=by decide)(hd:(x==("__debug__":dm))=false:=by decide):PE X (.Name x pos) (tC v) :=
 fun _ _ _ H _ I h=>rQ I hg hm hv ⟨v,H,I,r,h⟩ hn hd
variable {b:yW}{ta tb:TE}
noncomputable def tB(t:TE):TT:=fun σ H Q=>t σ H fun x H1=>∃ c,x=.bl c/\Q c H1
variable {tA yI:TT}{rest:List yW}
noncomputable def bT(t u:TT):TT:=fun σ H Q=>t σ H fun c H1=>if c=true then u σ H1 Q else Q false H1
noncomputable def aB(t u:TT):TT:=fun σ H Q=>t σ H fun c H1=>if c=true then Q true H1 else u σ H1 Q
noncomputable def bI(t:TT):TT:=fun σ H Q=>t σ H fun c H1=>Q (!c) H1
theorem zrP(ha:PT X a tA):PW X (.BoolOp .And [a] pos) tA:=by
 intro wh pins s σ H Q I h;refine isTrue_and (aT (ha pins s σ H Q I h) fun c s1 e=>?_);cases c with
 | true=>exact isTrue_and_nil e
 | false=>exact e
theorem zrR(ha:PT X a tA):PW X (.BoolOp .Or [a] pos) tA:=by
 intro wh pins s σ H Q I h;refine isTrue_or (aT (ha pins s σ H Q I h) fun c s1 e=>?_);cases c with
 | false=>exact isTrue_or_nil e
 | true=>exact e
theorem zrO(ha:PT X a tA)(hb:PW X (.BoolOp .And (b::rest) pos) yI):PW X (.BoolOp .And (a::b::rest) pos) (bT tA yI):=by
 intro wh pins s σ H Q I h;refine isTrue_and (aT (ha pins s σ H _ I h) fun c s1 ⟨H1,I1,q1⟩=>?_);cases c with
 | true=>exact hb wh pins s1 σ H1 Q I1 q1
 | false=>exact⟨H1,I1,q1⟩
theorem zrQ(ha:PT X a tA)(hb:PW X (.BoolOp .Or (b::rest) pos) yI):PW X (.BoolOp .Or (a::b::rest) pos) (aB tA yI):=by
 intro wh pins s σ H Q I h;refine isTrue_or (aT (ha pins s σ H _ I h) fun c s1 ⟨H1,I1,q1⟩=>?_);cases c with
 | true=>exact⟨H1,I1,q1⟩
 | false=>exact hb wh pins s1 σ H1 Q I1 q1
theorem zq8(ha:PT X a tA):PT X (.UnaryOp .Not a pos) (bI tA):=by
 intro pins s σ H Q I h;exact isTrue_not (ha pins s σ H (fun c H1=>Q (!c) H1) I h)
noncomputable def ztw(ta tb:TE):TE:=fun σ H Q=>ta σ H fun x H1=>∃ c,x=.bl c/\if c=true then tb σ H1 Q else Q (.bl false) H1
noncomputable def ztK(ta:TE):TE:=fun σ H Q=>ta σ H fun x H1=>∃ c,x=.bl c/\Q (.bl (!c)) H1
theorem zqr{op}{t:TE}(h:PE X a t):PE X (.BoolOp op [a] pos) t:=fun pins s σ H Q I hw=>BoolOp_one (h pins s σ H Q I hw)
theorem zqd(ha:PE X a ta)(hb:PE X (.BoolOp .And (b::rest) pos) tb):PE X (.BoolOp .And (a::b::rest) pos) (ztw ta tb):=by
 intro pins s σ H Q I h;refine BoolOp_and (aT (ha pins s σ H _ I h) fun v s1 ⟨x,H1,I1,r1,q1⟩=>?_);obtain⟨c,rfl,q1⟩:=q1;cases r1;refine Di ?_;cases c with
 | true=>exact hb pins s1 σ H1 Q I1 q1
 | false=>exact⟨.bl false,H1,I1,rfl,q1⟩
theorem zqq(ha:PE X a ta):PE X (.UnaryOp .Not a pos) (ztK ta):=by
 intro pins s σ H Q I h;refine UnaryOp_ (aT (ha pins s σ H _ I h) fun v s1 ⟨x,H1,I1,r1,q1⟩=>?_);obtain⟨c,rfl,q1⟩:=q1;cases r1;exact not_of (Di ⟨.bl (!c),H1,I1,rfl,q1⟩)
noncomputable def tIf(t:TT)(ta tb:TE):TE:=fun σ H Q=>t σ H fun c H1=>if c=true then ta σ H1 Q else tb σ H1 Q
theorem zqn(hc:PT X c tA)(ha:PE X a ta)(hb:PE X b tb):PE X (.IfExp c a b pos) (tIf tA ta tb):=by
 intro pins s σ H Q I h;refine wpAny_IfExp (aT (hc pins s σ H _ I h) fun d s1 ⟨H1,I1,q1⟩=>?_);cases d with
 | true=>exact ha pins s1 σ H1 Q I1 q1
 | false=>exact hb pins s1 σ H1 Q I1 q1
end
end
variable {g:TG}{tg:yW}{te:TE}{pos':zc}{vs:Array ir}{tc:TT}{es:List yW}{body:List zy}{k n:Nat}{ta:TA}{y:V}
section
def cw(K:yU)(H:Hp)(a:gV)(xs:List V):Prop :=
 Rd H a (.lst xs) \/
  ∃(o:zb) (its:Array ir) (n:Nat),K.lookup a=some o/\o.cls=.type "list"/\o.dict=none/\o.data=.seq its n/\its.size<=zt/\Vals xs its.toList
def fP(K:yU)(H:Hp)(a:gV)(xs:List V):Prop :=
 Rd H a (.tup xs) \/
  ∃(o:zb) (its:Array ir) (n:Nat),K.lookup a=some o/\o.cls=.type "tuple"/\o.data=.seq its n/\its.size<=zt/\Vals xs its.toList
noncomputable def zjO:ir->Option V
 | .none=>some .non
 | .bool b=>some (.bl b)
 | .int i _=>some (.int i)
 | .str x _=>some (.str x)
 | .bytes b _=>some (.byt b)
 | .float b _=>some (.flt b)
 | .ref a=>some (.ref a)
 | .type n=>some (.ty n)
 | _=>none
theorem RelV.abs{x:V}(r:RelV x u):zjO u=some x:=by
 cases x with
 | non=>cases r;rfl
 | bl _=>cases r;rfl
 | int _=>obtain⟨t,rfl⟩:=r;rfl
 | str _=>obtain⟨t,rfl⟩:=r;rfl
 | byt _=>obtain⟨t,rfl⟩:=r;rfl
 | flt _=>obtain⟨t,rfl⟩:=r;rfl
 | ref _=>cases r;rfl
 | ty _=>cases r;rfl
theorem RelV.inj{x:V}(r:RelV x u)(q:RelV y u):x=y:=Az (r.abs.symm.trans q.abs)
theorem Vals.inj:∀{xs ys:List V} {us:List ir},Vals xs us->Vals ys us->xs=ys
 | _,_,_,.nil,.nil=>rfl
 | _,_,_,.cons r t,.cons r' t'=>by rw[r.inj r',Vals.inj t t']
section
variable {a:gV}{ys:List V}
theorem cw.of{K:yU}(h:H a=some (.lst xs)):cw K H a xs:=.inl (.inl h)
theorem Inv.list(I:Inv X pins σ H s)(h:cw X.K H a xs):∃ its:List ir,Vals xs its/\PlainL s.heap a its.toArray/\xs.length<=zt:=by
 rcases h with h|⟨o,its,n,hk,hc,hd,hs,hz,r⟩
 ·obtain⟨z,its,n,r,e⟩:=h.ok I.aC
  exact⟨its,r,⟨_,n,e,rfl,rfl,rfl⟩,z⟩
 ·refine⟨its.toList,r,⟨o,n,I.eO a o hk,hc,hd,by simpa using hs⟩,?_⟩
  have e:=r.length;simp only[Dj]at e
  omega
theorem Inv.tuple(I:Inv X pins σ H s)(h:fP X.K H a xs):∃ its:List ir,Vals xs its/\BJ s.heap a its.toArray/\xs.length<=zt:=by
 rcases h with h|⟨o,its,n,hk,hc,hs,hz,r⟩
 ·obtain⟨z,its,r,p⟩:=h.ok I.aC
  exact⟨its,r,p,z⟩
 ·refine⟨its.toList,r,⟨o,I.eO a o hk,hc,n,by simpa using hs⟩,?_⟩
  have e:=r.length;simp only[Dj]at e
  omega
theorem Inv.zgV(I:Inv X pins σ H s)(h:cw X.K H a xs)(h':cw X.K H a ys):xs=ys:=by
 obtain⟨its,r,⟨o,n,e,_,_,d⟩,_⟩:=I.list h;obtain⟨gP,r',⟨o',n',e',_,_,d'⟩,_⟩:=I.list h';rw[e]at e';cases e'
 rw[d]at d';injection d' with d1 _
 have:its=gP:=by simpa using congrArg Array.toList d1
 subst this;exact r.inj r'
theorem Inv.zt5(I:Inv X pins σ H s)(h:fP X.K H a xs)(h':fP X.K H a ys):xs=ys:=by
 obtain⟨its,r,⟨o,e,_,n,d⟩,_⟩:=I.tuple h;obtain⟨gP,r',⟨o',e',_,n',d'⟩,_⟩:=I.tuple h';rw[e]at e';cases e'
 rw[d]at d';injection d' with d1 _
 have:its=gP:=by simpa using congrArg Array.toList d1
 subst this;exact r.inj r'
end
abbrev Cx.iR(X:Cx)(E:ir->kb->Prop):Cx:={ X with xe:=E }
abbrev Cx.cV(X:Cx):Cx:=X.iR fun _ _=>False
theorem Cx.Ok.iR(ok:X.Ok)(E:ir->kb->Prop):(X.iR E).Ok :=
 ⟨ok.mod,ok.kind,ok.glob,ok.blt,ok.above,ok.inj,ok.has,ok.nv,ok.hd,ok.frames,ok.qx,ok.pK,ok.bs,ok.jO,ok.nY,ok.nH,ok.gO,ok.kH,ok.tree,ok.sk⟩
theorem Cx.Ok.jG(ok:(X.iR E).Ok):X.Ok :=
 ⟨ok.mod,ok.kind,ok.glob,ok.blt,ok.above,ok.inj,ok.has,ok.nv,ok.hd,ok.frames,ok.qx,ok.pK,ok.bs,ok.jO,ok.nY,ok.nH,ok.gO,ok.kH,ok.tree,ok.sk⟩
section
theorem Inv.iR(I:Inv X pins σ H s)(E:ir->kb->Prop):Inv (X.iR E) pins σ H s:=⟨I.ok.iR E,I.os,I.bare,I.base,I.loc,I.cell,I.free,I.fU,I.pin,I.aC,I.len⟩
theorem Inv.jG(I:Inv (X.iR E) pins σ H s):Inv X pins σ H s:=⟨I.ok.jG,I.os,I.bare,I.base,I.loc,I.cell,I.free,I.fU,I.pin,I.aC,I.len⟩
theorem SP.jG{D:Ends}{f:Flow}{s':kb}(h:SP (X.iR E) pins D f s'):SP X pins D f s':=by
 cases f with
 | next=>obtain⟨σ',H',I,q⟩:=h;exact⟨σ',H',I.jG,q⟩
 | brk=>obtain⟨σ',H',I,q⟩:=h;exact⟨σ',H',I.jG,q⟩
 | cont=>obtain⟨σ',H',I,q⟩:=h;exact⟨σ',H',I.jG,q⟩
 | ret u=>obtain⟨v,σ',H',I,r,q⟩:=h;exact⟨v,σ',H',I.jG,r,q⟩
theorem PT.cV(h:PT X.cV e t):PT X e t:=fun pins s σ H Q I hw =>
 z8 (h pins s σ H Q (I.iR _) hw) (fun _ _ ⟨H',I',q⟩=>⟨H',I'.jG,q⟩) fun _ _ z=>Av z
theorem eE.cV{st:List zy}{t:TS}(h:eE X.cV st t):eE X st t:=fun pins s σ H D I hw =>
 z8 (h pins s σ H D (I.iR _) hw) (fun _ _ q=>q.jG) fun _ _ z=>Av z
end
section
variable {st:zy}{rest:List zy}{t u:TS}
noncomputable def ztI:TS:=fun D σ H=>D.nx σ H
noncomputable def ztP(t u:TS):TS:=fun D σ H=>t { D with nx:=u D } σ H
theorem zq4:eE X [] ztI:=fun _ _ σ H _ I h=>Dk ⟨σ,H,I,h⟩
theorem zhS(h1:PS X st t)(h2:eE X rest u):eE X (st::rest) (ztP t u):=by
 intro pins s σ H D I h;refine Fu (aT (h1 pins s σ H { D with nx:=u D } I h) fun f s1 q=>?_);cases f with
 | next =>
  obtain⟨σ',H',I',q⟩:=q;exact h2 pins s1 σ' H' D I' q
 | ret v=>exact q
 | brk=>exact q
 | cont=>exact q
theorem yg(h1:PS X st t):eE X [st] t:=by
 intro pins s σ H D I h;refine Fu (aT (h1 pins s σ H D I h) fun f s1 q=>?_);cases f with
 | next=>exact Dk q
 | ret v=>exact q
 | brk=>exact q
 | cont=>exact q
theorem Inv.quiet(I:Inv X pins σ H s):interactive X.env=false:=by simp[interactive,I.ok.kind]
noncomputable def ztB(te:TE):TS:=fun D σ H=>te σ H fun _ H1=>D.nx σ H1
theorem zqP(he:PE X e te)(hs:AW e none pos.line X.env=pure false:=by rfl):PS X (.Expr e pos) (ztB te):=by
 intro pins s σ H D I h;exact wpAny_Expr_any (aT (he pins s σ H _ I h) fun v s1 ⟨x,H1,I1,r1,q1⟩=>⟨σ,H1,I1,q1⟩) I.quiet hs
noncomputable def ztO(te:TE):TS:=fun D σ H=>te σ H D.rt
theorem zhQ(he:PE X e te):PS X (.Return (some e) pos) (ztO te):=by
 intro pins s σ H D I h;exact wpAny_Return_some (aT (he pins s σ H _ I h) fun v s1 ⟨x,H1,I1,r1,q1⟩=>⟨x,σ,H1,I1,r1,q1⟩)
noncomputable def ztF(c:TT)(t u:TS):TS:=fun D σ H=>c σ H fun b H1=>if b=true then t D σ H1 else u D σ H1
theorem zhP{a b:List zy}(hc:PT X c tc)(ha:eE X a t)(hb:eE X b u):PS X (.If c a b pos) (ztF tc t u):=by
 intro pins s σ H D I h;refine wpAny_If (aT (hc pins s σ H _ I h) fun d s1 ⟨H1,I1,q1⟩=>?_);cases d with
 | true=>exact ha pins s1 σ H1 D I1 q1
 | false=>exact hb pins s1 σ H1 D I1 q1
noncomputable def ztH:TS:=fun _ _ _=>False
theorem zqS:PS X st ztH:=fun _ _ _ _ _ _ h=>h.elim
end
abbrev TG:=V->St->Hp->(St->Hp->Prop)->Prop
abbrev lL:=List V->St->Hp->(St->Hp->Prop)->Prop
def PG(X:Cx)(target:yW)(t:TG):Prop :=
 ∀(pins:List (gV×zb)) (s:kb) (σ:St) (H:Hp) (v:V) (u:ir) (Q:St->Hp->Prop),Inv X pins σ H s->RelV v u->t v σ H Q ->
  yY (yZ X.prog X.w) X.A (Bk target X.env u) (fun _ s'=>∃ σ' H',Inv X pins σ' H' s'/\Q σ' H') X.xe s
def lK(X:Cx)(ts:List yW)(t:lL):Prop :=
 ∀(pins:List (gV×zb)) (s:kb) (σ:St) (H:Hp) (vs:List V) (us:List ir) (Q:St->Hp->Prop),Inv X pins σ H s->Vals vs us->t vs σ H Q ->
  yY (yZ X.prog X.w) X.A (Fv ((Bv ts X.env).map (·.2)) us) (fun _ s'=>∃ σ' H',Inv X pins σ' H' s'/\Q σ' H') X.xe s
abbrev zaj:=V->V->V->Hp->(Hp->Prop)->Prop
def zdS(X:Cx)(t:zaj):Prop :=
 ∀(pins:List (gV×zb)) (s:kb) (σ:St) (H:Hp) (o i v:V) (ov iv u:ir) (Q:Hp->Prop),Inv X pins σ H s->RelV o ov->RelV i iv->RelV v u->t o i v H Q ->
  yY (yZ X.prog X.w) X.A (setItem ov iv u) (fun _ s'=>∃ H',Inv X pins σ H' s'/\Q H') X.xe s
section
noncomputable def uk(i:Nat):TG:=fun v σ H Q=>Q (σ.set i (some v)) H
theorem zqy(hN:X.N.Nodup)(hi:X.N[i]?=some x)(hx:Loc X.env.scope x)(hf:X.fn x=true\/X.env.scope.names.lookup x=some .local:=by first|exact .inl rfl|exact .inr rfl|assumption):PG X (.Name x pos) (uk i):=by
 intro pins s σ H v u Q I r h;exact wpAny_assign_Name (sL I hN hi hx r (fun s' I'=>⟨_,H,I',h⟩) hf)
noncomputable def zmr:lL:=fun vs σ H Q=>vs=[]/\Q σ H
noncomputable def zmq(t:TG)(u:lL):lL:=fun vs σ H Q=>∃ v r,vs=v::r/\t v σ H fun σ' H'=>u r σ' H' Q
theorem zqC:lK X [] zmr:=by
 intro pins s σ H vs us Q I r h;obtain⟨e,h⟩:=h;subst e;cases r;exact assignInOrder_nil ⟨σ,H,I,h⟩
theorem zqB{t:TG}{u:lL}(h1:PG X e t)(h2:lK X es u)
  (hs:(Bv (e::es) X.env).map (·.2)=Bk e X.env::(Bv es X.env).map (·.2):=by rfl):lK X (e::es) (zmq t u):=by
 intro pins s σ H vs us Q I r h;obtain⟨v,vr,e1,h⟩:=h;subst e1;cases r with
 | cons r rr =>
  rw[hs];refine Fw (aT (h1 pins s σ H _ _ _ I r h) fun _ s1 ⟨σ1,H1,I1,q1⟩=>?_);exact h2 pins s1 σ1 H1 _ _ Q I1 rr q1
noncomputable def zmt(K:yU)(n:Nat)(t:lL):TG:=fun v σ H Q=>∃ a xs,v=.ref a/\fP K H a xs/\xs.length=n/\t xs σ H Q
theorem zqA{t:lL}(hc:X.calm=true)(h:lK X es t)
  (hn:(Bv es X.env).length=n:=by rfl)(cq:(Bv es X.env).findIdx? (·.1)=none:=by rfl):PG X (.Tuple es k pos) (zmt X.K n t):=by
 intro pins s σ H v u Q I r hw;obtain⟨a,xs,e1,hq,hl,hw⟩:=hw;subst e1;cases r;obtain⟨its,rv,ht,hz⟩:=I.tuple hq;refine assign_Tuple_tuple (I.ok.hd hc) ht (by simp[hn,<- hl,rv.length]) cq fun h' hx=>?_;have I1:Inv X pins σ H { s with heap:=h' }:=I.kept (t':=s.toks) fun b o e=>hx b o (Ao (zM e)) e;exact h pins _ σ H xs _ Q I1 (by simpa using rv) hw
noncomputable def zms(to ti:TE)(t:zaj):TG:=fun v σ H Q=>to σ H fun o H1=>ti σ H1 fun i H2=>t o i v H2 fun H3=>Q σ H3
theorem zqz{o i:yW}{to ti:TE}{t:zaj}(ho:PE X o to)(hi:PE X i ti)(hs:zdS X t)
  (ha:∀ v,Bk (.Subscript o i pos) X.env v=(do
   let ov <- Cv [v] (zk o X.env)
   let iv <- Cv [v,ov] (zk i X.env)
   CO pos
   Cv [v,ov,iv] (setItem ov iv v)
   release [v,ov,iv] []):=by intro _;rfl):PG X (.Subscript o i pos) (zms to ti t):=by
 intro pins s σ H v u Q I r h;rw[ha];refine yV (Bc (aT (ho pins s σ H _ I h) fun ov s1 ⟨x,H1,I1,r1,q1⟩=>?_));refine yV (Bc (aT (hi pins s1 σ H1 _ I1 q1) fun iv s2 ⟨y,H2,I2,r2,q2⟩=>?_));refine yV (BZ (yV (Bc (aT (hs pins s2 σ H2 x y v ov iv u _ I2 r1 r2 r q2) fun _ s3 ⟨H3,I3,q3⟩=>?_))));exact wpAny_release ⟨σ,H3,I3,q3⟩
noncomputable def vC(te:TE)(g:TG):TS:=fun D σ H=>te σ H fun x H1=>g x σ H1 D.nx
theorem zhN(he:PE X e te)(hg:PG X tg g)(hs:Dl [tg] e pos.line X.env=pure false:=by rfl)(hw:Dm [tg] e X.env=pure none:=by rfl)
  (h1:(Bv [tg] X.env).map (·.2)=[Bk tg X.env]:=by rfl):PS X (.Assign [tg] e pos) (vC te g):=by
 intro pins s σ H D I h;refine wpAny_Assign_stores (aT (he pins s σ H _ I h) fun v s1 ⟨x,H1,I1,r1,q1⟩=>?_) hs hw;rw[h1];exact aT (hg pins s1 σ H1 x v _ I1 r1 q1) fun _ s2 q=>q
theorem zc7(hN:X.N.Nodup)(hi:X.N[i]?=some x)(hx:Loc X.env.scope x)(he:PE X e te)(hs:AW e (some (.Name x pos')) pos.line X.env=pure false:=by rfl)(hf:X.fn x=true\/X.env.scope.names.lookup x=some .local:=by first|exact .inl rfl|exact .inr rfl|assumption) :
  PS X (.Assign [.Name x pos'] e pos) (vC te (uk i)):=by
 intro pins s σ H D I h;refine wpAny_Assign_Name (aT (he pins s σ H _ I h) fun v s1 ⟨y,H1,I1,r1,q1⟩=>?_) hs;exact sL I1 hN hi hx r1 (fun s2 I2=>⟨_,H1,I2,q1⟩) hf
noncomputable def ztL(i j:Nat)(ta:TA):TS:=fun D σ H=>ta σ H fun vs H1=>∃ v w,vs=[v,w]/\D.nx ((σ.set i (some v)).set j (some w)) H1
theorem zqT{y:dm}{b:yW}{px py pt:zc}{kt k2 j6}(hc:X.calm=true)(hN:X.N.Nodup)(hi:X.N[i]?=some x)(hj:X.N[j]?=some y)(eh:i≠j)
  (hx:X.env.scope.names.lookup x=some .local)(hy:X.env.scope.names.lookup y=some .local)(ha:PA X [a,b] ta)
  (hw:Dm [.Tuple [.Name x px,.Name y py] kt pt] (.Tuple [a,b] k2 j6) X.env=pure (some [x,y]))
  (hs:Dl [.Tuple [.Name x px,.Name y py] kt pt] (.Tuple [a,b] k2 j6) pos.line X.env=pure false:=by rfl) :
  PS X (.Assign [.Tuple [.Name x px,.Name y py] kt pt] (.Tuple [a,b] k2 j6) pos) (ztL i j ta):=by
 intro pins s σ H D I h;rw[exec_Assign_arm];refine yV (BZ ?_);rw[hs];refine yV (zi ?_);rw[if_neg (by decide)];refine yV (Tuple_ (aT (ha _ pins s σ H _ I h) fun us s1 ⟨vs,H1,I1,r1,q1⟩=>?_));obtain⟨v,w,e1,q1⟩:=q1;subst e1;obtain⟨u1,u2,rfl,rv,je⟩:∃ u1 u2,us=[u1,u2]/\RelV v u1/\RelV w u2:=by
  cases r1 with
  | cons p q =>
   cases q with
   | cons p' q' =>
    cases q';exact⟨_,_,rfl,p,p'⟩
 refine BK ?_ (by show 2<=zt;decide);have I2:Inv X pins σ H1 { s1 with heap:=s1.heap.push { cls:=.type "tuple",data:=.seq [u1,u2].toArray } }:=I1.kept (t':=s1.toks) fun b o e=>zI _ e;rw[hw];refine yV (zi ?_);show yY (yZ X.prog X.w) X.A (do rule "assign.swapped-stores";let items <- unpackItems (.ref s1.heap.objs.size) 2 none;Fv [fun v=>DT X.env y v,fun v=>DT X.env x v] items.reverse;pure Flow.next) _ _ _;refine yV (DU (yV (unpackItems_tuple (items:=#[u1,u2]) (I.ok.hd hc) (DV s1.heap _) fun h' hx'=>?_)));have I3:=I2.kept (h':=h') (t':=s1.toks) fun b o e=>hx' b o (Ao (zM e)) e;show yY _ _ (Fv [fun v=>DT X.env y v,fun v=>DT X.env x v] [u2,u1] >>= fun _=>pure Flow.next) _ _ _;refine yV (Fw (wpAny_bindName (sL I3 hN hj (.inl hy) je (fun s2 I4=>?_) (.inr hy))));refine Fw (wpAny_bindName (sL I4 hN hi (.inl hx) rv (fun s3 I5=>assignInOrder_nil (zi ?_)) (.inr hx)));rw[List.set_comm _ _ (AD eh)]at I5;exact⟨_,H1,I5,q1⟩
end
section
noncomputable def ztR(c:TT)(tb:TS):TS:=fun D σ H=>∃ W:Nat->St->Hp->Prop,(∃ m,W m σ H)/\∀ m σ H,W m σ H ->
 c σ H fun b H1=>if b=true then ∃ N:St->Hp->Prop,(∀ σ' H',N σ' H'->∃ m',m'<m/\W m' σ' H')/\tb { D with nx:=N,ct:=N,bk:=D.nx } σ H1 else D.nx σ H1
theorem zqX{tb:TS}(hp:CP (yZ X.prog X.w) X.A X.env X.xe)(hc:PT X c tc)(hb:eE X body tb):PS X (.While c body [] pos) (ztR tc tb):=by
 intro pins s σ H D I h;obtain⟨W,⟨m0,w0⟩,turn⟩:=h;refine wpAny_While (codeAny_whileLoop (fun n s'=>∃ σ' H',Inv X pins σ' H' s'/\W n σ' H') ?_ m0 ⟨σ,H,I,w0⟩);rintro n s1 ⟨σ1,H1,I1,w1⟩;refine CQ hp (aT (hc pins s1 σ1 H1 _ I1 (turn n σ1 H1 w1)) fun b s2 ⟨H2,I2,q2⟩=>?_);cases b with
 | true =>
  obtain⟨N,hN,q2⟩:=q2;rw[if_pos rfl];refine CQ hp (aT (hb pins s2 σ1 H2 _ I2 q2) fun f s3 q3=>?_);cases f with
  | next =>
   obtain⟨σ3,H3,I3,n3⟩:=q3;obtain⟨m',hm,w3⟩:=hN σ3 H3 n3;exact⟨m',hm,σ3,H3,I3,w3⟩
  | cont =>
   obtain⟨σ3,H3,I3,n3⟩:=q3;obtain⟨m',hm,w3⟩:=hN σ3 H3 n3;exact⟨m',hm,σ3,H3,I3,w3⟩
  | brk=>exact q3
  | ret v=>exact q3
 | false =>
  rw[if_neg AJ];exact Dk ⟨σ1,H2,I2,q2⟩
end
structure It where
 go:Nat->Hp->Prop
 yT:Nat->Hp->V->Hp->Prop
 stop:Nat->Hp->Prop
def ft(X:Cx)(pins:List (gV×zb))(H:Hp)(b:gV):Prop :=
 H b=none/\b≠X.env.locals/\b∉X.fs/\(b∈X.ex\/X.s₀.heap.objs.size<=b)/\(∀ x c,X.env.cells.lookup x=some c->c≠b)/\∀ p∈X.pn++pins,p.1≠b
theorem Inv.lX(I:Inv X pins σ H s)(hb:s.heap.objs.size<=b)(hn:H' b=none):ft X pins H' b:=by
 refine⟨hn,Dp (AA I.lt hb),I.zhp hb,.inr (AB I.sz hb),fun x c e z=>?_,fun p hp z=>?_⟩
 ·obtain⟨v,q⟩:=I.cell x c e
  exact absurd (AA q.lt (by rw[z];exact hb)) (Dh _)
 ·exact absurd (AA (zM (I.pin p hp).1) (by rw[z];exact hb)) (Dh _)
structure Turn(P:zu)(w:zq)(K:yU)(tg:yW)(J:It)(fp:List gV)(it:gV)(tn:Nat->zh->Prop):Prop where
 mem:it∈fp
 obj:∀ i h,tn i h->∀ b∈fp,∃ o,h.get? b=some o/\∀ v,o.data≠.cell v
 keep:∀ i h h',tn i h->(∀ b∈fp,∀ o,h.get? b=some o->h'.get? b=some o)->tn i h'
 item:∀(X:Cx),X.prog=P->X.w=w->X.K=K->X.calm=true->∀(i:Nat) (pins:List (gV×zb)) (s:kb) (σ:St) (H:Hp) (E:ir->kb->Prop),Inv X pins σ H s->(∀ b∈fp,ft X pins H b)->tn i s.heap->J.go i H ->
  yY (yZ P w) X.A (CU (.ref it)) (fun r s1=>∃ u,r=some u /\
   yY (yZ P w) X.A (Ey tg (.ref it) u) (fun _ s2=>∃ x H',Inv X pins σ H' s2/\RelV x u/\J.yT i H x H'/\tn (i+1) s2.heap/\∀ b∈fp,H' b=none) E s1) E s
 done:∀(X:Cx),X.prog=P->X.w=w->X.K=K->X.calm=true->∀(i:Nat) (pins:List (gV×zb)) (s:kb) (σ:St) (H:Hp) (E:ir->kb->Prop),Inv X pins σ H s->(∀ b∈fp,ft X pins H b)->tn i s.heap->J.stop i H ->
  yY (yZ P w) X.A (CU (.ref it)) (fun r s1=>r=none/\Inv X pins σ H s1) E s
 self:∀(A:zx) (i:Nat) (s:kb) (Q:ir->kb->Prop) (E:ir->kb->Prop),tn i s.heap->Q (.ref it) s->yY (yZ P w) A (pyIter (.ref it)) Q E s
abbrev TI:=St->Hp->(It->Hp->Prop)->Prop
def PIE(X:Cx)(pins:List (gV×zb))(σ:St)(tg:yW)(R:It->Hp->Prop)(itv:ir)(s2:kb):Prop :=
 ∃(it:gV) (fp:List gV) (tn:Nat->zh->Prop) (J:It) (H':Hp),itv=.ref it/\Inv X pins σ H' s2/\Turn X.prog X.w X.K tg J fp it tn/\tn 0 s2.heap/\(∀ b∈fp,ft X pins H' b)/\R J H'
def PI(X:Cx)(tg iter:yW)(wi:TI):Prop :=
 ∀(pins:List (gV×zb)) (s:kb) (σ:St) (H:Hp) (R:It->Hp->Prop),Inv X pins σ H s->wi σ H R ->
  yY (yZ X.prog X.w) X.A (zk iter X.env) (fun v s1=>yY (yZ X.prog X.w) X.A (pyIter v) (PIE X pins σ tg R) X.xe s1) X.xe s
theorem xj{n:String}{Q:Unit->kb->Prop}(ho:s.heap.get? it=some o)(hc:o.cls=.type n)(hd:o.data=.fields vs)
    (hn:["enumerate","zip","dict_itemiterator","dict_reverseitemiterator","odict_iterator","itertools.zip_longest","itertools.pairwise"].contains n=false) (hQ:Q () s):yY M A (Ey tg (.ref it) u) Q E s:=by
  unfold Ey;cases tg <;> first
    | exact zi hQ
    | (cases u <;> first
        | exact zi hQ
        | (refine yV (wpAny_load ho ?_)
           rw[hc,hd];show yY M A (if(["enumerate","zip","dict_itemiterator","dict_reverseitemiterator","odict_iterator","itertools.zip_longest","itertools.pairwise"].contains n&&vs[0]?==some (Bw _))=true then _ else _) Q E s;rw[if_neg (by intro h;rw[hn,Bool.false_and]at h;cases h)];exact zi hQ))
noncomputable def Itl(K:yU)(a:gV):It :=
 ⟨fun i H=>∃ xs x,cw K H a xs/\xs[i]?=some x,fun i H x H'=>H'=H/\∀ xs,cw K H a xs->xs[i]?=some x,fun i H=>∃ xs,cw K H a xs/\xs.length<=i⟩
noncomputable def Itt(K:yU)(a:gV):It :=
 ⟨fun i H=>∃ xs x,fP K H a xs/\xs[i]?=some x,fun i H x H'=>H'=H/\∀ xs,fP K H a xs->xs[i]?=some x,fun i H=>∃ xs,fP K H a xs/\xs.length<=i⟩
noncomputable def vX(lo:Int)(n:Nat):It:=⟨fun i _=>i<n,fun i H x H'=>H'=H/\x=.int (lo+i),fun i _=>n<=i⟩
theorem zt9{K:yU}(a it:gV):Turn P w K tg (Itl K a) [it] it (fun i h=>h.IsListIter it a i) where
 mem:=by simp
 obj:=fun i h st b hb=>by
  have e:b=it:=by simpa using hb
  subst e;obtain⟨o,e,c,d⟩:=st;exact⟨o,e,fun v z=>by rw[d]at z;cases z⟩
 keep:=fun i h h' st k=>st.at fun o e=>k it (by simp) o e
 item:=by
  intro X hP hw hK hc i pins s σ H E I hf st hg;subst hP hw hK;obtain⟨xs,x,hq,hx⟩:=hg;obtain⟨its,rv,p,hz⟩:=I.list hq;obtain⟨u,hu,ru⟩:=rv.get hx;obtain⟨f0,f1,f2,f3,f4,f5⟩:=hf it (by simp);refine wpAny_pyNext_list_item st p.isList (x:=u) (by simpa using hu) fun h' gJ sb=>?_;have I1:Inv X pins σ H { s with heap:=h' }:=I.turned (t':=s.toks) (fun b o hb e=>(sb.2 b hb).trans e) f0 f1 f3 f4 f5;obtain⟨o,e,c,d⟩:=id gJ;exact⟨u,rfl,xj (s:={ s with heap:=h' }) e c d (by decide) ⟨x,H,I1,ru,⟨rfl,fun ys hy=>by rw[I.zgV hy hq];exact hx⟩,gJ,fun b hb=>(hf b hb).1⟩⟩
 done:=by
  intro X hP hw hK hc i pins s σ H E I hf st hg;subst hP hw hK;obtain⟨xs,hq,hx⟩:=hg;obtain⟨its,rv,p,hz⟩:=I.list hq;obtain⟨f0,f1,f2,f3,f4,f5⟩:=hf it (by simp);have hl:=rv.length;exact wpAny_pyNext_list_end (I.ok.hd hc) st p.isList (by simp;omega) fun h' eb=>⟨rfl,I.turned (t':=s.toks) (fun b o hb e=>eb b o hb e) f0 f1 f3 f4 f5⟩
 self:=fun _ _ _ _ _ st h=>wpAny_pyIter_listiter st h
theorem zud{K:yU}(a it:gV):Turn P w K tg (Itt K a) [it] it (fun i h=>h.IsTupleIter it a i) where
 mem:=by simp
 obj:=fun i h st b hb=>by
  have e:b=it:=by simpa using hb
  subst e;obtain⟨o,e,c,d⟩:=st;exact⟨o,e,fun v z=>by rw[d]at z;cases z⟩
 keep:=fun i h h' st k=>st.at fun o e=>k it (by simp) o e
 item:=by
  intro X hP hw hK hc i pins s σ H E I hf st hg;subst hP hw hK;obtain⟨xs,x,hq,hx⟩:=hg;obtain⟨its,rv,p,hz⟩:=I.tuple hq;obtain⟨u,hu,ru⟩:=rv.get hx;obtain⟨f0,f1,f2,f3,f4,f5⟩:=hf it (by simp);refine wpAny_pyNext_tuple_item st (show s.heap.IsTuple a its.toArray from p) (x:=u) (by simpa using hu) fun h' gJ sb=>?_;have I1:Inv X pins σ H { s with heap:=h' }:=I.turned (t':=s.toks) (fun b o hb e=>(sb.2 b hb).trans e) f0 f1 f3 f4 f5;obtain⟨o,e,c,d⟩:=id gJ;exact⟨u,rfl,xj (s:={ s with heap:=h' }) e c d (by decide) ⟨x,H,I1,ru,⟨rfl,fun ys hy=>by rw[I.zt5 hy hq];exact hx⟩,gJ,fun b hb=>(hf b hb).1⟩⟩
 done:=by
  intro X hP hw hK hc i pins s σ H E I hf st hg;subst hP hw hK;obtain⟨xs,hq,hx⟩:=hg;obtain⟨its,rv,p,hz⟩:=I.tuple hq;obtain⟨f0,f1,f2,f3,f4,f5⟩:=hf it (by simp);have hl:=rv.length;exact wpAny_pyNext_tuple_end (I.ok.hd hc) st (show s.heap.IsTuple a its.toArray from p) (by simp;omega) fun h' eb=>⟨rfl,I.turned (t':=s.toks) (fun b o hb e=>eb b o hb e) f0 f1 f3 f4 f5⟩
 self:=fun _ _ _ _ _ st h=>wpAny_pyIter_tupleiter st h
theorem zub{K:yU}(it:gV)(lo:Int)(n:Nat):Turn P w K tg (vX lo n) [it] it (fun i h=>IsRangeIter h it (lo+(i:Nat)*1) ((n:Int)-(i:Nat)) 1) where
 mem:=by simp
 obj:=fun i h st b hb=>by
  have e:b=it:=by simpa using hb
  subst e;exact⟨_,st,fun v z=>by
   have z':Data.fields _=Data.cell v:=z;cases z'⟩
 keep:=fun i h h' st k=>k it (by simp) _ st
 item:=by
  intro X hP hw hK hc i pins s σ H E I hf st hg;subst hP hw hK;obtain⟨f0,f1,f2,f3,f4,f5⟩:=hf it (by simp);have W:=Walks.range (prog:=X.prog) (w:=X.w) (I.ok.hd hc) it lo 1 n;refine W.item i s _ _ hg st fun v h' tk hv gJ kk=>?_;obtain⟨t,rfl⟩:=hv;have I1:Inv X pins σ H { s with heap:=h',toks:=tk }:=I.turned (fun b o hb e=>kk b o (by simpa using hb) e) f0 f1 f3 f4 f5;refine⟨_,rfl,xj (s:={ s with heap:=h',toks:=tk }) (n:="range_iterator") gJ rfl rfl (by decide) ⟨.int (lo+i),H,I1,⟨t,?_⟩,⟨rfl,rfl⟩,gJ,fun b hb=>(hf b hb).1⟩⟩;rw[Int.mul_one]
 done:=by
  intro X hP hw hK hc i pins s σ H E I hf st hg;subst hP hw hK;obtain⟨f0,f1,f2,f3,f4,f5⟩:=hf it (by simp);exact wpAny_pyNext_range_end (I.ok.hd hc) st (by have:n<=i:=hg;omega) fun h' eb=>⟨rfl,I.turned (t':=s.toks) (fun b o hb e=>eb b o hb e) f0 f1 f3 f4 f5⟩
 self:=fun _ _ _ _ _ st h=>wpAny_pyIter_rangeiter st h
end
variable {fp:List gV}{iter:yW}{p:zc}{tc:TE}{tk:Nat}{wi:TI}
section
section
theorem zsE{R:It->Hp->Prop}{lo hi:Int}{t u v:zQ}(I:Inv X pins σ H s)(h1:-(2^62)<=lo)(h2:lo<2^62)(h3:-(2^62)<=hi)(h4:hi<2^62)
  (q:R (vX lo (hi-lo).toNat) H):yY (yZ X.prog X.w) X.A (pyIter (.ref s.heap.objs.size)) (PIE X pins σ tg R) E { s with heap:=s.heap.push { cls:=.type "range",data:=.fields #[.int lo t,.int hi u,.int 1 v] },toks:=tk }:=by
 refine wpAny_pyIter_range (IsRange.new ..) (small_one h1 h2 h3 h4) ?_;have I1:Inv X pins σ H { s with heap:=s.heap.push { cls:=.type "range",data:=.fields #[.int lo t,.int hi u,.int 1 v] },toks:=tk }:=I.kept fun b o e=>zI _ e;refine⟨(s.heap.push { cls:=.type "range",data:=.fields #[.int lo t,.int hi u,.int 1 v] }).objs.size,[(s.heap.push { cls:=.type "range",data:=.fields #[.int lo t,.int hi u,.int 1 v] }).objs.size],_,_,H,rfl,
  I1.kept (t':=tk) fun b o e=>zI _ e,zub _ lo (hi-lo).toNat,?_,fun b hb=>?_,q⟩
 ·have e1:lo+((0:Nat):Int)*1=lo:=by simp
  have e2:(((hi-lo).toNat:Nat):Int)-((0:Nat):Int)=Builtin.Range.rangeSize lo hi 1:=by rw[rangeSize_one];split <;> omega
  show IsRangeIter _ _ (lo+((0:Nat):Int)*1) ((((hi-lo).toNat:Nat):Int)-((0:Nat):Int)) 1;rw[e1,e2];exact AG _ rfl
 ·have e:b=(s.heap.push { cls:=.type "range",data:=.fields #[.int lo t,.int hi u,.int 1 v] }).objs.size:=by simpa using hb
  subst e;exact I1.lX (zr _) (I1.aC.fresh (zr _))
def zm3(ta:TA):TI:=fun σ H R=>ta σ H fun vs H1=>∃ j:Int,vs=[.int j]/\-(2^62)<=j/\j<2^62/\R (vX 0 j.toNat) H1
theorem zqE(hg:Gl X "range")(hm:X.mg "range"=none)(ha:PA X [a] ta)(hs:yX [a] X.env=[(false,zk a X.env)]:=by rfl):PI X tg (.Call (.Name "range" p) [a] [] pos) (zm3 ta):=by
 intro pins s σ H R I h;refine Call_ (rQ I hg hm boot_range (Fx (aT (ha pos pins s σ H _ I h) fun us s1 ⟨vs,H1,I1,r1,q1⟩=>?_) hs rfl));obtain⟨j,e,q1,q2,q⟩:=q1;subst e;cases r1 with
 | cons r rr =>
  cases rr;obtain⟨t,rfl⟩:=r;exact call_range_1 (zsE I1 (by omega) (by omega) q1 q2 (by simpa using q))
noncomputable def ztE(wi:TI)(g:TG)(tb:TS):TS:=fun D σ H=>wi σ H fun J H1=>∃ W:Nat->Nat->St->Hp->Prop,(∃ m,W 0 m σ H1)/\∀ i m σ H,W i m σ H ->
 (J.stop i H/\D.nx σ H)\/(J.go i H/\∃ N:St->Hp->Prop,(∀ σ' H',N σ' H'->∃ m',m'<m/\W (i+1) m' σ' H')/\∀ x H',J.yT i H x H'->g x σ H' fun σ2 H2=>tb { D with nx:=N,ct:=N,bk:=D.nx } σ2 H2)
noncomputable def vg(fp:List gV)(h:zh):List (gV×zb):=fp.filterMap fun b=>(h.get? b).map fun o=>(b,o)
theorem xS(hb:b∈fp)(e:h.get? b=some o):(b,o)∈vg fp h:=Fy.mpr ⟨b,hb,by rw[e];rfl⟩
theorem zpP{p:gV×zb}(hp:p∈vg fp h):p.1∈fp/\h.get? p.1=some p.2:=by
 obtain⟨b,hb,e⟩:=Fy.mp hp;cases q:h.get? b with
 | none=>rw[q]at e;cases e
 | some o =>
  rw[q]at e;have e':(b,o)=p:=Az e;subst e';exact⟨hb,q⟩
theorem Inv.pinned(I:Inv X pins σ H s)(hf:∀ b∈fp,ft X pins H b)(ho:∀ b∈fp,∃ o,s.heap.get? b=some o/\∀ v,o.data≠.cell v):Inv X (pins++vg fp s.heap) σ H s :=
 I.yc fun p hp=>(AI.mp hp).elim (fun z=>I.pin p (AK _ z)) fun z=>by
  obtain⟨hb,e⟩:=zpP z;obtain⟨f0,f1,f2,_⟩:=hf p.1 hb;obtain⟨o,e',d⟩:=ho p.1 hb;rw[e]at e';cases e'
  exact⟨e,f0,f1,f2,d⟩
theorem Inv.sW{pl:List (gV×zb)}(I:Inv X (pins++pl) σ H s):Inv X pins σ H s:=I.yc fun p hp=>I.pin p (AK _ (CN _ hp))
theorem zhO{tb:TS}(hp:CP (yZ X.prog X.w) X.A X.env X.xe)(hc:X.calm=true)(hi:PI X tg iter wi)(hg:PG X tg g)(hb:eE X body tb)
  (hs:∀ x,Be iter X.env x=pure x:=by intro _;rfl):PS X (.For tg iter body [] pos) (ztE wi g tb):=by
 intro pins s σ H D I h;refine wpAny_For (aT (hi pins s σ H _ I h) fun v s1 h1=>aT h1 fun itv s2 h2=>?_) hs;obtain⟨it,fp,tn,J,H2,e,I2,T,dh,f2,W,⟨m0,w0⟩,turn⟩:=h2;subst e;have stat:∀{H':Hp},(∀ b∈fp,H' b=none)->∀ b∈fp,ft X pins H' b:=fun hn b hb=>⟨hn b hb,(f2 b hb).2⟩;refine codeAny_forLoop_any (fun n s'=>∃ i σ' H',Inv X pins σ' H' s'/\tn i s'.heap/\(∀ b∈fp,H' b=none)/\W i n σ' H') ?_ m0 ⟨0,σ,H2,I2,dh,fun b hb=>(f2 b hb).1,w0⟩;rintro n s3 ⟨i,σ3,H3,I3,qw,fr3,w3⟩;rcases turn i n σ3 H3 w3 with⟨stop,qn⟩|⟨go,N,hN,step⟩
 ·refine CQ hp (aT (T.done X rfl rfl rfl hc i pins s3 σ3 H3 X.xe I3 (stat fr3) qw stop) fun r s4 ⟨hr,I4⟩=>?_)
  subst hr;exact Dk ⟨σ3,H3,I4,qn⟩
 ·refine CQ hp (aT (T.item X rfl rfl rfl hc i pins s3 σ3 H3 X.xe I3 (stat fr3) qw go) fun r s4 ⟨u,hr,h4⟩=>?_)
  subst hr;refine CQ hp (aT h4 fun _ s5 ⟨x,H5,I5,r5,y5,kj,fr5⟩=>?_);have I5':=I5.pinned (stat fr5) (T.obj _ _ kj);refine CQ hp (aT (hg _ s5 σ3 H5 x u _ I5' r5 (step x H5 y5)) fun _ s6 ⟨σ6,H6,I6,q6⟩=>?_);refine CQ hp (aT (hb _ s6 σ6 H6 _ I6 q6) fun f s7 q7=>?_);have again:∀{σ7:St} {H7:Hp},Inv X (pins++vg fp s5.heap) σ7 H7 s7->N σ7 H7->∃ m,m<n/\∃ i σ' H',Inv X pins σ' H' s7/\tn i s7.heap/\(∀ b∈fp,H' b=none)/\W i m σ' H':=fun{σ7 H7} I7 n7=>by
   obtain⟨m',hm,w7⟩:=hN σ7 H7 n7;refine⟨m',hm,i+1,σ7,H7,I7.sW,T.keep _ _ _ kj fun b hb o e=>(I7.pin (b,o) (AK _ (AK _ (xS hb e)))).1,fun b hb=>?_,w7⟩;obtain⟨o,e,d⟩:=T.obj _ _ kj b hb;exact(I7.pin (b,o) (AK _ (AK _ (xS hb e)))).2.1
  cases f with
  | next=>obtain⟨σ7,H7,I7,n7⟩:=q7;exact again I7 n7
  | cont=>obtain⟨σ7,H7,I7,n7⟩:=q7;exact again I7 n7
  | brk=>obtain⟨σ7,H7,I7,q7⟩:=q7;exact⟨σ7,H7,I7.sW,q7⟩
  | ret v=>obtain⟨x7,σ7,H7,I7,r7,q7⟩:=q7;exact⟨x7,σ7,H7,I7.sW,r7,q7⟩
end
end
variable {g:Int->Int->Int}{f:ir->ir->Sem ir}{b:yW}{o:Option ir}{r:R2}{ta:TE}{its:List ir}{C:Int->Int->Prop}{op:By}{κ:Type}
section
abbrev R2:=V->V->Hp->VK->Prop
def aW(X:Cx)(f:ir->ir->Sem ir)(r:R2):Prop :=
 ∀(pins:List (gV×zb)) (s:kb) (σ:St) (H:Hp) (x y:V) (v u:ir) (Q:VK),Inv X pins σ H s->RelV x v->RelV y u->r x y H Q ->
  yY (yZ X.prog X.w) X.A (f v u) (EP X pins σ Q) X.xe s
def tJ(X:Cx)(f:ir->Sem ir)(r:V->Hp->VK->Prop):Prop :=
 ∀(pins:List (gV×zb)) (s:kb) (σ:St) (H:Hp) (x:V) (v:ir) (Q:VK),Inv X pins σ H s->RelV x v->r x H Q ->
  yY (yZ X.prog X.w) X.A (f v) (EP X pins σ Q) X.xe s
def gL(X:Cx)(f:ir)(r:List V->Hp->VK->Prop):Prop :=
 ∀(pins:List (gV×zb)) (s:kb) (σ:St) (H:Hp) (xs:List V) (us:List ir) (Q:VK),Inv X pins σ H s->Vals xs us->r xs H Q ->
  yY (yZ X.prog X.w) X.A (call f us) (EP X pins σ Q) X.xe s
def zaq(X:Cx)(r:V->Hp->(Bool->Hp->Prop)->Prop):Prop :=
 ∀(pins:List (gV×zb)) (s:kb) (σ:St) (H:Hp) (x:V) (v:ir) (Q:Bool->Hp->Prop),Inv X pins σ H s->RelV x v->r x H Q ->
  yY (yZ X.prog X.w) X.A (truthy v) (TP X pins σ Q) X.xe s
noncomputable def qy(r:R2)(ta tb:TE):TE:=fun σ H Q=>ta σ H fun x H1=>tb σ H1 fun y H2=>r x y H2 Q
noncomputable def tUn(r:V->Hp->VK->Prop)(ta:TE):TE:=fun σ H Q=>ta σ H fun x H1=>r x H1 Q
noncomputable def rI(C:Int->Int->Prop)(g:Int->Int->V):R2:=fun x y H Q=>∃ i j,x=.int i/\y=.int j/\C i j/\Q (g i j) H
noncomputable def k7(g:Int->Int->V):R2:=fun x y H Q=>∃ i j,x=.int i/\y=.int j/\Q (g i j) H
noncomputable def rU(g:Int->V):V->Hp->VK->Prop:=fun x H Q=>∃ i,x=.int i/\Q (g i) H
section
variable {tb:TE}
theorem zaB(ha:PE X a ta)(hb:PE X b tb){R:V->V->Hp->Prop}(I:Inv X pins σ H s)
  (h:ta σ H fun x H1=>tb σ H1 fun y H2=>R x y H2)
  (hf:∀ v u s2 x y H2,Inv X pins σ H2 s2->RelV x v->RelV y u->R x y H2->yY (yZ X.prog X.w) X.A (f v u) Q X.xe s2) :
  yY (yZ X.prog X.w) X.A (zk a X.env) (fun v s₁=>yY (yZ X.prog X.w) X.A (zk b X.env) (fun u s₂=>yY (yZ X.prog X.w) X.A (f v u) Q X.xe s₂) X.xe s₁) X.xe s:=by
 refine aT (ha pins s σ H _ I h) fun v s1 ⟨x,H1,I1,r1,q1⟩=>?_;refine aT (hb pins s1 σ H1 _ I1 q1) fun u s2 ⟨y,H2,I2,r2,q2⟩=>?_;exact hf v u s2 x y H2 I2 r1 r2 q2
theorem zqs{op:Operator}(ho:aW X (A2 op) r)(ha:PE X a ta)(hb:PE X b tb):PE X (.BinOp a op b pos) (qy r ta tb):=by
 intro pins s σ H Q I h;exact wpAny_BinOp (zaB ha hb I h fun v u s2 x y H2 I2 rx ry q=>ho pins s2 σ H2 x y v u Q I2 rx ry q)
theorem zqw{op:UnaryOp}{r:V->Hp->VK->Prop}(ho:tJ X (unaryOp op) r)(ha:PE X a ta):PE X (.UnaryOp op a pos) (tUn r ta):=by
 intro pins s σ H Q I h;exact UnaryOp_ (aT (ha pins s σ H _ I h) fun v s1 ⟨x,H1,I1,r1,q1⟩=>ho pins s1 σ H1 x v Q I1 r1 q1)
theorem opI
  (rule:∀(i j:Int) (t u:zQ) (s:kb) (Q:ir->kb->Prop) (E:ir->kb->Prop),C i j->Q (.int (g i j) s.toks) { s with toks:=s.toks+1 }->yY (yZ X.prog X.w) X.A (f (.int i t) (.int j u)) Q E s) :
  aW X f (rI C fun i j=>.int (g i j)):=by
 intro pins s σ H x y v u Q I rx ry h;obtain⟨i,j,rfl,rfl,hc,q⟩:=h;obtain⟨t,rfl⟩:=rx;obtain⟨t',rfl⟩:=ry;exact rule i j t t' s _ _ hc ⟨.int (g i j),H,I.tok _,⟨_,rfl⟩,q⟩
theorem zhy
  (rule:∀(i j:Int) (t u:zQ) (s:kb) (Q:ir->kb->Prop) (E:ir->kb->Prop),Q (.int (g i j) s.toks) { s with toks:=s.toks+1 }->yY (yZ X.prog X.w) X.A (f (.int i t) (.int j u)) Q E s) :
  aW X f (k7 fun i j=>.int (g i j)):=by
 intro pins s σ H x y v u Q I rx ry h;obtain⟨i,j,rfl,rfl,q⟩:=h;obtain⟨t,rfl⟩:=rx;obtain⟨t',rfl⟩:=ry;exact rule i j t t' s _ _ ⟨.int (g i j),H,I.tok _,⟨_,rfl⟩,q⟩
theorem xY{g:Int->Int->Bool}
  (rule:∀(i j:Int) (t u:zQ) (s:kb) (Q:ir->kb->Prop) (E:ir->kb->Prop),Q (.bool (g i j)) s->yY (yZ X.prog X.w) X.A (f (.int i t) (.int j u)) Q E s) :
  aW X f (k7 fun i j=>.bl (g i j)):=by
 intro pins s σ H x y v u Q I rx ry h;obtain⟨i,j,rfl,rfl,q⟩:=h;obtain⟨t,rfl⟩:=rx;obtain⟨t',rfl⟩:=ry;exact rule i j t t' s _ _ ⟨.bl (g i j),H,I,rfl,q⟩
def zdL(i j:Int):Prop:=0<=j/\j<=1000000/\i.natAbs<2^64
theorem zpR:aW X (A2 .Add) (k7 fun i j=>.int (i+j)):=zhy fun _ _ _ _ _ _ _ q=>add_int q
theorem zp5:aW X (A2 .Sub) (k7 fun i j=>.int (i-j)):=zhy fun _ _ _ _ _ _ _ q=>sub_int q
theorem zp1:aW X (A2 .Mod) (rI (fun _ j=>j≠0) fun i j=>.int (i.fmod j)):=opI fun _ _ _ _ _ _ _ hc q=>mod_int' hc q
theorem zp4:aW X (A2 .Pow) (rI zdL fun i j=>.int (i^j.toNat)):=opI fun _ _ _ _ _ _ _ hc q=>pow_int_small hc.1 hc.2.1 hc.2.2 q
theorem unI{f:ir->Sem ir}{g:Int->Int}
  (rule:∀(i:Int) (t:zQ) (s:kb) (Q:ir->kb->Prop) (E:ir->kb->Prop),Q (.int (g i) s.toks) { s with toks:=s.toks+1 }->yY (yZ X.prog X.w) X.A (f (.int i t)) Q E s) :
  tJ X f (rU fun i=>.int (g i)):=by
 intro pins s σ H x v Q I rx h;obtain⟨i,rfl,q⟩:=h;obtain⟨t,rfl⟩:=rx;exact rule i t s _ _ ⟨.int (g i),H,I.tok _,⟨_,rfl⟩,q⟩
theorem zuk:tJ X (unaryOp .USub) (rU fun i=>.int (-i)):=unI fun _ _ _ _ _ q=>neg_int q
end
section
variable {tb:TE}
theorem zfT{Q:VK}{k k':Bool}(I:Inv X pins σ H s)(q:Q (.bl k) H)(e:k=k'):EP X pins σ Q (.bool k') s:=by
 subst e;exact⟨.bl k,H,I,rfl,q⟩
theorem zp0:aW X (zF .Lt) (k7 fun i j=>.bl (decide (i<j))):=xY fun _ _ _ _ _ _ _ q=>lt_int q
theorem zpZ:aW X (zF .LtE) (k7 fun i j=>.bl (decide (i<=j))):=xY fun _ _ _ _ _ _ _ q=>le_int q
theorem zpW:aW X (zF .Gt) (k7 fun i j=>.bl (decide (j<i))):=xY fun _ _ _ _ _ _ _ q=>gt_int q
theorem zpV:aW X (zF .GtE) (k7 fun i j=>.bl (decide (j<=i))):=xY fun _ _ _ _ _ _ _ q=>ge_int q
theorem zpY:aW X (zF .In) (fun x y H Q=>∃ i j,x=.str i/\y=.str j/\Q (.bl (!(Bx j i 0 j.length 1).isEmpty)) H):=by
 intro pins s σ H x y v u Q I rx ry h;obtain⟨i,j,rfl,rfl,q⟩:=h;obtain⟨t,rfl⟩:=rx;obtain⟨t',rfl⟩:=ry;exact in_str (zfT I q rfl)
theorem zhA:aW X (zF .Is) (fun x y H Q=>y=.non/\Q (.bl (decide (x=.non))) H):=by
 intro pins s σ H x y v u Q I rx ry h;obtain⟨rfl,q⟩:=h;cases ry;refine is_none_gen (zfT I q ?_);cases x <;> first
  | (cases rx;rfl)
  | (obtain⟨t,rfl⟩:=rx;rfl)
theorem u5(b:yW)(h:op≠.In:=by decide)(h2:op≠.NotIn:=by decide):Bz op b=false:=by
 have e1:(op==CmpOp.In)=false:=by cases op <;> first|rfl|exact absurd rfl h
 have e2:(op==CmpOp.NotIn)=false:=by cases op <;> first|rfl|exact absurd rfl h2
 cases b <;> simp[Bz,e1,e2]
theorem zc2(ho:aW X (zF op) r)(ha:PE X a ta)(hb:PE X b tb)(hm:Bz op b=false):PE X (.Compare a [op] [b] pos) (qy r ta tb):=by
 intro pins s σ H Q I h;exact wpAny_Compare1 (zaB ha hb I h fun v u s2 x y H2 I2 rx ry q=>ho pins s2 σ H2 x y v u Q I2 rx ry q) hm
noncomputable def ziy(t:TE):TT:=fun σ H Q=>t σ H fun x H'=>∃ k,x=.bl k/\Q k H'
theorem zhT(ho:aW X (zF op) r)(ha:PE X a ta)(hb:PE X b tb)(hm:Bz op b=false):PT X (.Compare a [op] [b] pos) (ziy (qy r ta tb)):=by
 intro pins s σ H Q I h;refine wpAny_isTrue_Compare1 (aT (ha pins s σ H _ I h) fun v s1 ⟨x,H1,I1,r1,q1⟩=>aT (hb pins s1 σ H1 _ I1 q1) fun u s2 ⟨y,H2,I2,r2,q2⟩ =>
  aT (ho pins s2 σ H2 x y v u _ I2 r1 r2 q2) fun c s3 ⟨z,H3,I3,r3,k,e,q3⟩=>?_) hm
 subst e;cases r3;exact Di ⟨H3,I3,q3⟩
noncomputable def ziv(r r':R2)(ta tb tc:TE):TE:=fun σ H Q=>ta σ H fun x H1=>tb σ H1 fun y H2=>r x y H2 fun z H3=>∃ k,z=.bl k /\
 (if k=true then tc σ H3 fun w' H4=>r' y w' H4 Q else Q (.bl false) H3)
theorem zq7{qb:By}{r':R2}(ho:aW X (zF op) r)(ig:aW X (zF qb) r')(ha:PE X a ta)(hb:PE X b tb)(hc:PE X c tc)
  (hm:lastMarks [op,qb] [b,c]=false:=by with_unfolding_all rfl):PT X (.Compare a [op,qb] [b,c] pos) (ziy (ziv r r' ta tb tc)):=by
 intro pins s σ H Q I h;refine isTrue_chain (aT (ha pins s σ H _ I h) fun v s1 ⟨x,H1,I1,r1,q1⟩=>test_link (aT (hb pins s1 σ H1 _ I1 q1) fun u s2 ⟨y,H2,I2,r2,q2⟩ =>
  aT (ho pins s2 σ H2 x y v u _ I2 r1 r2 q2) fun d s3 ⟨z,H3,I3,r3,k,e,q3⟩=>?_)) hm
 subst e;cases r3;refine Di ?_;cases k with
 | false =>
  obtain⟨k',e',q'⟩:=q3;cases e';exact ite_ff ⟨H3,I3,q'⟩
 | true =>
  refine ite_tt (test_last (aT (hc pins s3 σ H3 _ I3 q3) fun w' s4 ⟨z',H4,I4,r4,q4⟩=>aT (ig pins s4 σ H4 y z' u w' _ I4 r2 r4 q4) fun d' s5 ⟨z2,H5,I5,r5,k2,e2,q5⟩=>?_));subst e2;cases r5;exact Di ⟨H5,I5,q5⟩
def zei(K:yU)(x:V)(H:Hp)(k:Bool):Prop :=
 match x with
 | .non=>k=false
 | .bl b=>k=b
 | .int i=>k=(i != 0)
 | .str y=>y.length<=zt/\k=((y.length:Int) != 0)
 | .byt y=>y.size<=zt/\k=((y.size:Int) != 0)
 | .ref p=>(∃ xs,cw K H p xs/\k=!xs.isEmpty)\/(∃ xs,fP K H p xs/\k=!xs.isEmpty)\/∃ aj,H p=some (.dK aj)/\k=!aj.isEmpty
 | _=>False
theorem zne{aj:List (κ×V)}{vs:List (κ×ir)}(r:KV aj vs):(!vs.isEmpty)=!aj.isEmpty:=by
 cases r <;> rfl
theorem zgu(r:Vals xs its):(!its.toArray.isEmpty)=!xs.isEmpty:=by
 cases r <;> simp
theorem pV:(zt:Nat)<2^63:=by rw[AR];decide
theorem ziL:zaq X (fun x H Q=>∃ k,zei X.K x H k/\Q k H):=by
 intro pins s σ H x v Q I rx h;obtain⟨k,e,q⟩:=h;have hl:=pV;have hs:zt=16777216:=AR;cases x with
 | non =>
  cases rx;have e':k=false:=e;subst e';exact truthy_none ⟨H,I,q⟩
 | bl b =>
  cases rx;have e':k=b:=e;subst e';exact Di ⟨H,I,q⟩
 | int i =>
  obtain⟨t,rfl⟩:=rx;have e':k=(i != 0):=e;subst e';exact PySem.P.truthy_int ⟨H,I,q⟩
 | str y =>
  obtain⟨t,rfl⟩:=rx;obtain⟨hy,e'⟩:y.length<=zt/\k=((y.length:Int) != 0):=e;subst e';exact PySem.P.truthy_str (by omega) ⟨H,I.tok _,q⟩
 | byt y =>
  obtain⟨t,rfl⟩:=rx;obtain⟨hy,e'⟩:y.size<=zt/\k=((y.size:Int) != 0):=e;subst e';exact PySem.W.truthy_bytes (by omega) ⟨H,I.tok _,q⟩
 | ref p =>
  cases rx;have e':(∃ xs,cw X.K H p xs/\k=!xs.isEmpty)\/(∃ xs,fP X.K H p xs/\k=!xs.isEmpty)\/∃ aj,H p=some (.dK aj)/\k=!aj.isEmpty:=e;rcases e' with⟨xs,hx,e'⟩|⟨xs,hx,e'⟩|⟨aj,hx,e'⟩
  ·subst e'
   obtain⟨its,r,pl,hz⟩:=I.list hx;have hlen:=r.length;exact wpAny_truthy_list pl.isList (by simp only[zW];omega) ⟨H,I.tok _,by rw[zgu r];exact q⟩
  ·subst e'
   obtain⟨its,r,pl,hz⟩:=I.tuple hx;have hlen:=r.length;exact truthy_tuple pl (by simp only[zW];omega) ⟨H,I.tok _,by rw[zgu r];exact q⟩
  ·subst e'
   obtain⟨hz,hS,vs,r,m⟩:aj.length<=zt/\(p==B7)=false/\∃ vs,KV aj vs/\s.heap.DictOf (j3 X.prog X.w) p vs:=I.aC p _ hx;have hlen:aj.length=vs.length:=Ew r;exact wpAny_truthy_dict hS m (by omega) ⟨H,I.tok _,by rw[zne r];exact q⟩
 | _=>exact(show False from e).elim
theorem vals1{x:V}(r:Vals [x] us):∃ u,us=[u]/\RelV x u:=by
 cases r with
 | cons r1 r2=>cases r2;exact⟨_,rfl,r1⟩
theorem vals2{x:V}(r:Vals [x,y] us):∃ u w',us=[u,w']/\RelV x u/\RelV y w':=by
 cases r with
 | cons r1 r2 =>
  cases r2 with
  | cons r3 r4=>cases r4;exact⟨_,_,rfl,r1,r3⟩
theorem zkF:gL X (.builtin "abs") (fun xs H Q=>∃ i,xs=[.int i]/\Q (.int (if i<0 then -i else i)) H):=by
 intro pins s σ H xs us Q I r h;obtain⟨i,rfl,q⟩:=h;obtain⟨u,rfl,t,rfl⟩:=vals1 r;exact call_abs_int fun u tk=>⟨.int (if i<0 then -i else i),H,I.tok _,⟨_,rfl⟩,q⟩
theorem zkK(hc:X.calm=true):gL X (.builtin "max") (fun xs H Q=>∃ i j,xs=[.int i,.int j]/\Q (.int (if j > i then j else i)) H):=by
 intro pins s σ H xs us Q I r h;obtain⟨i,j,rfl,q⟩:=h;obtain⟨u,w',rfl,⟨t,rfl⟩,⟨t',rfl⟩⟩:=vals2 r;refine max_two_ints (I.ok.hd hc) fun h' tk k=>⟨_,H,I.kept k,?_,q⟩
 by_cases hj:j > i
 ·rw[if_pos hj,if_pos hj];exact⟨_,rfl⟩
 ·rw[if_neg hj,if_neg hj];exact⟨_,rfl⟩
end
end
variable {f:dm}{C dx:gV}{env:zC}{r:List V->Hp->VK->Prop}{prog:zu}{mA:dm->Option ir}
section
theorem zoT(n:h.Ns1 dx mA):∃ od,h.get? dx=some od/\∀ name,FA name od=some (mA name):=by
 obtain⟨o,es,ep,ho,hd,hk,_,hm⟩:=n;refine⟨o,ho,fun name=>?_⟩;have e:=hm name;unfold nsFind findBy at e;rw[<- GL]at e;unfold FA;rw[hd];dsimp only
 split
 ·rename_i y q
  rw[q]at e;exact congrArg some e
 ·rename_i q
  rw[q]at e;have a:es.toList.any (·.refKey)=false:=by
   rw[List.any_eq_false];intro y hy;obtain⟨z,t,zmT⟩:=hk y (Array.mem_toList_iff.mp hy);simp[DictEntry.refKey,zmT]
  have a':¬ es.toList.any (·.refKey)=true:=by rw[a];exact AJ
  rw[if_neg a'];exact congrArg some e
theorem jM.some_of(r:jM (some v) o):∃ u,o=some u/\RelV v u:=by
 cases o with
 | none=>exact(show False from r).elim
 | some u=>exact⟨u,rfl,r⟩
theorem zmG(r:RelV v u):GN u=true:=by
 cases v with
 | non=>cases (show u=Aj from r);rfl
 | bl b=>cases (show u=BI b from r);rfl
 | int i=>obtain⟨t,e⟩:=(show ∃ t,u=CJ i t from r);cases e;rfl
 | str x=>obtain⟨t,e⟩:=(show ∃ t,u=Cr x t from r);cases e;rfl
 | byt b=>obtain⟨t,e⟩:=(show ∃ t,u=Value.bytes b t from r);cases e;rfl
 | flt b=>obtain⟨t,e⟩:=(show ∃ t,u=Value.float b t from r);cases e;rfl
 | ref a=>cases (show u=Ac a from r);rfl
 | ty n=>cases (show u=Df n from r);rfl
def jj(K:yU)(C:gV)(f:dm):Prop:=Bl K (.ref C) f=some none
section
variable {a:gV}{fs:List (dm×V)}
theorem zj7{f:dm}{s:kb}(hb:Cw e f env (zk e env)=zk e env)
  (h:yY (yZ prog w) A (zk e env) (fun o s₁=>yY (yZ prog w) A (getAttr o f true) Q E s₁) E s):yY (yZ prog w) A (zk (.Attribute e f pos) env) Q E s :=
 Attribute_any_ h (by rw[arm_eval_Attribute,hb])
end
end
variable {params:Arguments}{fd:Ah}{f:gV}{nE vs:List V}{mg:dm->Option ir}{ps:List dm}{Q:VK}{CX:jg}{kw:List (dm×ir)}{cd:ir}{outer:List zC}{sc scope:Al}{gR:Array (Option ir)}{E:XK}{base:zh}{qual:dm}{t:TA}
section
structure aZ(k:Nat)(A:zx):Prop where
 hd:A.handled=none
 dp:A.depth+3*k+110<FC
 un:A.units+16*k+200<Ae
 gd:A.guards=some []
theorem aZ.mono(r:aZ k A)(h:j<=k):aZ j A:=⟨r.hd,by have:=r.dp;omega,by have:=r.un;omega,r.gd⟩
theorem aZ.deeper(r:aZ (k+1) A)(env:zC):aZ k (A.deeper env) :=
 ⟨r.hd,by have:=r.dp;show A.depth+1+3*k+110<_;omega,by have:=r.un;show A.units+3+16*k+200<_;omega,r.gd⟩
theorem aZ.in1(r:aZ (k+1) A):aZ k A.in1 :=
 ⟨r.hd,by have:=r.dp;show A.depth+3*k+110<_;omega,by have:=r.un;show A.units+1+16*k+200<_;omega,r.gd⟩
theorem zo5:(A.under (.builtin "type.__call__" ⟨.ref C::us,kw⟩)).depth=A.depth+1:=by
 first|rfl|simp[Ez,Code.weight,Code.isCreation,Code.isGuard,Code.isCaller,Code.frames,FD,guardIds]
theorem zo7:(A.under (.builtin "type.__call__" ⟨.ref C::us,kw⟩)).units=A.units+1:=by
 first|rfl|simp[Ez,Code.cUnits,Code.frames,FD]
theorem zo6:(A.under (.builtin "type.__call__" ⟨.ref C::us,kw⟩)).guards=A.guards:=by
 first|rfl|simp[Ez,Code.guards,Code.isGuard,guardIds,pushGuards]
theorem aZ.make(r:aZ (k+1) A)(C:gV)(us:List ir)(kw:List (dm×ir)):aZ k (A.under (.builtin "type.__call__" ⟨.ref C::us,kw⟩)) :=
 ⟨r.hd,by have:=r.dp;rw[zo5];omega,by have:=r.un;rw[zo7];omega,by rw[zo6];exact r.gd⟩
theorem aZ.depth(r:aZ k A):A.depth<FC:=by have:=r.dp;omega
theorem aZ.units(r:aZ k A):A.units+64<Ae:=by have:=r.un;omega
noncomputable def zix:TA:=fun _ H Q=>Q [] H
noncomputable def ziw(ta:TE)(tr:TA):TA:=fun σ H Q=>ta σ H fun x H1=>tr σ H1 fun xs H2=>Q (x::xs) H2
section
theorem jE:PA X [] zix:=fun _ _ _ _ H Q I h=>Calls.spliced_nil ⟨[],H,I,.nil,h⟩
theorem gq(ha:PE X e te)(hr:PA X es t)(hs:yX (e::es) X.env=(false,zk e X.env)::yX es X.env:=by rfl):PA X (e::es) (ziw te t):=by
 intro pos pins s σ H Q I h;rw[hs];show yY _ _ (spliced ((false,zk e X.env)::zK pos (yX es X.env))) _ _ s;refine Calls.spliced_cons (aT (ha pins s σ H _ I h) fun u s1 ⟨x,H1,I1,r1,q1⟩=>?_);exact aT (hr pos pins s1 σ H1 _ I1 q1) fun us s2 ⟨xs,H2,I2,r2,q2⟩=>⟨x::xs,H2,I2,.cons r1 r2,q2⟩
def ztQ(t:TA):TE:=fun σ H Q=>t σ H fun xs H1=>xs.length<=zt/\∀ p,H1 p=none->Q (.ref p) (upd H1 p (.tup xs))
def ztG(t:TA):TE:=fun σ H Q=>t σ H fun xs H1=>xs.length<=zt/\∀ p,H1 p=none->Q (.ref p) (upd H1 p (.lst xs))
theorem zqv{x1}(h:PA X es t):PE X (.Tuple es x1 pos) (ztQ t):=by
 intro pins s σ H Q I hq;refine wpAny_Tuple_spliced (aT (h pos pins s σ H _ I hq) fun us s1 ⟨xs,H1,I1,r,z,q⟩=>⟨by rw[<- r.length];exact z,?_⟩);have hf:H1 s1.heap.objs.size=none:=I1.aC.fresh (zr _);refine⟨.ref s1.heap.objs.size,upd H1 s1.heap.objs.size (.tup xs),I1.laid (t':=s1.toks) (fun b u e=>zI _ e) (zr _) ?_,rfl,q _ hf⟩;exact⟨z,us,r,⟨_,AG _ rfl,rfl,_,rfl⟩⟩
theorem zqp(h:PA X es t):PE X (.List es pos) (ztG t):=by
 intro pins s σ H Q I hq;refine wpAny_List_spliced (aT (h pos pins s σ H _ I hq) fun us s1 ⟨xs,H1,I1,r,z,q⟩=>⟨by rw[<- r.length];exact z,?_⟩);have hf:H1 s1.heap.objs.size=none:=I1.aC.fresh (zr _);refine⟨.ref s1.heap.objs.size,upd H1 s1.heap.objs.size (.lst xs),I1.laid (t':=s1.toks) (fun b u e=>zI _ e) (zr _) ?_,rfl,q _ hf⟩;exact⟨z,us,0,r,AG _ rfl⟩
end
abbrev Sp:=List V->Hp->VK->XK->Prop
abbrev jg:=List zC->Hp->kb->XK->ir->kb->Prop
structure pg(P:zu)(w:zq)(K:yU)(mg:dm->Option ir)(base:zh)(A:zx)(outer:List zC)(s:kb)(H:Hp):Prop where
 frames:A.frames=some outer
 mod:Mod K mg base
 bs:∀ b o,base.get? b=some o->s.heap.get? b=some o/\H b=none
 jO:base.objs.size<=s.heap.objs.size
 gO:s.heap.FunFrames base outer
 kH:∀ b∈eM outer,H b=none
 aC:cu P w H s.heap
 bare:BX s.gens
 tree:P.given.tree=none
theorem Inv.pyl{σ:List (Option V)}(I:Inv X pins σ H s)(hd:X.A.depth+100<FC):PySem.PylongRoom (yZ X.prog X.w) X.A s:=by
 obtain⟨env,r,e,h1,h2,h3,h4⟩:=I.ok.sk;exact PySem.PylongRoom.of I.nolimit hd (PySem.SeerAt.of (I.ok.mod.seer.keeps I.bk) I.ok.tree (I.ok.frames.trans (congrArg some e)) h1 h2 h3 h4)
def CE(outer:List zC)(P:zu)(w:zq)(H:Hp)(s:kb)(Q:VK)(u:ir)(s':kb):Prop :=
 ∃ v H',s'.os=s.os/\BX s'.gens/\Un (eM outer) [] H H' s.heap s'.heap/\cu P w H' s'.heap/\RelV v u/\Q v H'
def CR(CX:jg)(outer:List zC)(P:zu)(w:zq)(H:Hp)(s:kb)(Q:VK)(E:XK)(r:Result)(s':kb):Prop :=
 match r with
 | .ok (.ret u)=>CE outer P w H s Q u s'
 | .ok _=>False
 | .error e=>CX outer H s E e s'
structure dJ(P:zu)(w:zq)(K:yU)(mg:dm->Option ir)(base:zh)(CX:jg)(k:Nat)(f:gV)(fd:Ah)(ps:List dm)(sp:Sp):Prop where
 len:∀ vs H Q E,sp vs H Q E->vs.length=ps.length
 run:∀(A:zx) (outer:List zC) (s:kb) (H:Hp) (args:Args) (us:List ir) (vs:List V) (Q:VK) (E:XK),aZ k A->pg P w K mg base A outer s H->Dq s fd args (ps.zip us)->Vals vs us->sp vs H Q E ->
  BA (yZ P w) A (.call (.ref f) args) (CR CX outer P w H s Q E) s
theorem dJ.imp{K:yU}{sp sp':Sp}(F:dJ P w K mg base CX k f fd ps sp)
  (h:∀ vs H Q E,sp' vs H Q E->sp vs H Q E):dJ P w K mg base CX k f fd ps sp' :=
 ⟨fun vs H Q E q=>F.len vs H Q E (h _ _ _ _ q),fun A outer s H args us vs Q E hr he hb hv hs=>F.run A outer s H args us vs Q E hr he hb hv (h _ _ _ _ hs)⟩
theorem pg.make{K:yU}(e:pg P w K mg base A outer s H)(C:gV)(us:List ir)(kw:List (dm×ir)) :
  pg P w K mg base (A.under (.builtin "type.__call__" ⟨.ref C::us,kw⟩)) outer s H:=⟨by first|exact e.frames|(simpa[Ez,Code.envs,FD,pushEnvs] using e.frames),e.mod,e.bs,e.jO,e.gO,e.kH,e.aC,e.bare,e.tree⟩
section
theorem Inv.ud(I:Inv X pins σ H s):pg X.prog X.w X.K X.mg X.base X.A X.stack s H :=
 ⟨I.ok.frames,I.ok.mod,I.bs,AB I.ok.jO I.sz,I.stack,I.yG,I.aC,I.bare,I.ok.tree⟩
theorem Inv.after(I:Inv X pins σ H s)(h:CE X.stack X.prog X.w H s Q u s'):EP X pins σ Q u s':=by
 obtain⟨v,H',os,bare,un,aC,r,q⟩:=h;obtain⟨hh,g,d,t,os'⟩:=s';obtain rfl:os'=s.os:=os;exact⟨v,H',I.call (h':=hh) (g':=g) (d':=d) (t':=t) (ch:=[]) un aC bare (fun b z=>absurd z (by simp)),r,q⟩
end
noncomputable def zdA(sp:Sp)(nE:List V)(E:XK)(t:TA):TE:=fun σ H Q=>t σ H fun vs H1=>sp (vs++nE) H1 Q E
def Binds(K:yU)(fd:Ah)(ps:List dm)(ds:List ir):Prop :=
 ∀(s:kb) (us:List ir),K.In s.heap->(us++ds).length=ps.length->Dq s fd ⟨us,[]⟩ (ps.zip (us++ds))
theorem Binds.all{K:yU}(h:∀ us:List ir,us.length=ps.length->Cy fd ⟨us,[]⟩=pure (ps.zip us)):Binds K fd ps []:=fun s us _ hl=>by
 rw[BC]at hl ⊢;exact .of_eq (h us hl)
def Passes(CX:jg)(X:Cx)(E:XK):Prop:=∀(pins:List (gV×zb)) (σ:St) (H:Hp) (s:kb) (e:ir) (s':kb),Inv X pins σ H s->CX X.stack H s E e s'->X.xe e s'
section
variable {sp:Sp}{ds:List ir}{m:dm}{apos:zc}{o:yW}
theorem zsW(F:dJ X.prog X.w X.K X.mg X.base CX k f fd ps sp)(hr:aZ k X.A)(hb:Binds X.K fd ps ds)(hd:Vals nE ds)(hx:Passes CX X E)
  (I:Inv X pins σ H s)(r:Vals vs us)(h:sp (vs++nE) H Q E):yY (yZ X.prog X.w) X.A (call (.ref f) us) (EP X pins σ Q) X.xe s:=by
 have r2:Vals (vs++nE) (us++ds):=r.append hd;have hl:(us++ds).length=ps.length:=by rw[<- r2.length];exact F.len _ _ _ _ h
 refine DW (Dr (F.run X.A X.stack s H ⟨us,[]⟩ (us++ds) (vs++nE) Q E hr I.ud (hb s us I.eO hl) r2 h) fun r s' hq=>?_);cases r with
 | error e=>exact hx pins σ H s e s' I hq
 | ok fl =>
  cases fl with
  | ret u=>exact I.after hq
  | next=>exact Av hq
  | brk=>exact Av hq
  | cont=>exact Av hq
theorem zqg(F:dJ X.prog X.w X.K X.mg X.base CX k f fd ps sp)(hr:aZ k X.A)(hg:Gl X x)(hm:X.mg x=some (.ref f))(hk:CV X.K (.ref f)=true)(hb:Binds X.K fd ps ds)(hd:Vals nE ds)(hx:Passes CX X E)
  (ha:PA X (e::es) t)(bN:(x==("__debug__":dm))=false:=by decide) (he:yX (e::es) X.env=(false,zk e X.env)::yX es X.env:=by rfl) (bu:(zK pos (yX es X.env)).any (·.1)=false:=by rfl) :
  PE X (.Call (.Name x p) (e::es) [] pos) (zdA sp nE E t):=by
 intro pins s σ H Q I h;refine DX (rT I hg hm ?_ bN);refine GO (h₀:=X.base) I.ok.mod.uM hk (aT (ha pos pins s σ H _ I h) fun us s1 ⟨vs,H1,I1,r,q⟩=>⟨I1.eO,?_⟩) he bu;exact zsW F hr hb hd hx I1 r q
end
structure gZ(N P:List dm)(sc:Al):Prop where
 kind:sc.kind=.function
 co:sc.isCoroutine=false
 gen:sc.isGenerator=false
 nd:N.Nodup
 pre:N.take P.length=P
 par:∀ x∈P,sc.names.lookup x=some .local\/sc.names.lookup x=some .cell
 zpw:∀ y∈sc.names,y.2≠.free
theorem zeP{kindOf:dm->Option A7}{x:dm}:∀{binds:List (dm×ir)} {m:dm->Option ir},(∀ v,(x,v)∉binds)->bindL kindOf binds m x=m x
 | [],_,_=>rfl
 | (n,v)::r,m,h=>by
  unfold bindL;rw[zeP fun w hw=>h w (z0 _ hw)]
  split
  ·have:x≠n:=by rintro rfl;exact h v Au
   simp[this]
  ·rfl
theorem zeN{kindOf:dm->Option A7}{x:dm}:∀{binds:List (dm×ir)} {m:dm->Option ir},(∀ v,(x,v)∉binds)->bindC kindOf binds m x=m x
 | [],_,_=>rfl
 | (n,v)::r,m,h=>by
  unfold bindC;rw[zeN fun w hw=>h w (z0 _ hw)]
  split
  ·rfl
  ·have:x≠n:=by rintro rfl;exact h v Au
   simp[this]
theorem zeO{kindOf:dm->Option A7}{x:dm}{v:ir}:∀{P:List dm} {vs:List ir} {i:Nat} {m:dm->Option ir},P.Nodup->P[i]?=some x->vs[i]?=some v->kindOf x=some .local ->
  bindL kindOf (P.zip vs) m x=some v
 | [],_,_,_,_,h,_,_=>by simp at h
 | _::_,[],_,_,_,_,h,_=>by simp at h
 | p::P,w::vs,0,m,nd,h1,h2,hk=>by
  simp at h1 h2;subst h1;subst h2
  show bindL kindOf ((p,w)::P.zip vs) m p=_;unfold bindL;rw[zeP fun v hv=>(Bm.mp nd).1 (DY hv).1,if_pos hk];simp
 | p::P,w::vs,i+1,m,nd,h1,h2,hk=>by
  show bindL kindOf ((p,w)::P.zip vs) m x=_;unfold bindL;exact zeO (i:=i) (Bm.mp nd).2 (by simpa using h1) (by simpa using h2) hk
theorem zeM{kindOf:dm->Option A7}{x:dm}{v:ir}:∀{P:List dm} {vs:List ir} {i:Nat} {m:dm->Option ir},P.Nodup->P[i]?=some x->vs[i]?=some v->kindOf x≠some .local ->
  bindC kindOf (P.zip vs) m x=some v
 | [],_,_,_,_,h,_,_=>by simp at h
 | _::_,[],_,_,_,_,h,_=>by simp at h
 | p::P,w::vs,0,m,nd,h1,h2,hk=>by
  simp at h1 h2;subst h1;subst h2
  show bindC kindOf ((p,w)::P.zip vs) m p=_;unfold bindC;rw[zeN fun v hv=>(Bm.mp nd).1 (DY hv).1,if_neg hk];simp
 | p::P,w::vs,i+1,m,nd,h1,h2,hk=>by
  show bindC kindOf ((p,w)::P.zip vs) m x=_;unfold bindC;exact zeM (i:=i) (Bm.mp nd).2 (by simpa using h1) (by simpa using h2) hk
noncomputable def start(N:List dm)(vs:List V):St:=vs.map some++zo (N.length-vs.length) none
noncomputable def fF(CX:jg)(P:zu)(w:zq)(K:yU)(mg:dm->Option ir)(base:zh)(N:List dm)(qual:dm)(scope:Al)(f:gV)(cd:ir)(A:zx)(outer:List zC)(s:kb)(H:Hp)(E:XK):Cx where
 prog:=P
 w:=w
 K:=K
 mg:=mg
 base:=base
 A:=A.deeper (AX qual scope s.heap.objs.size f cd)
 N:=N
 s₀:=s
 H₀:=H
 env:=AX qual scope s.heap.objs.size f cd
 outer:=outer
 stack:=AX qual scope s.heap.objs.size f cd::outer
 ex:=[]
 calm:=true
 fn:=fun _=>true
 pn:=[]
 xe:=fun e s'=>yY (yZ P w) (A.deeper (AX qual scope s.heap.objs.size f cd)) (leaving (AX qual scope s.heap.objs.size f cd) e) (fun _ fM=>CX outer H s E e fM) (fun e' fM=>CX outer H s E e' fM) s'
theorem ze6(h:sc.names.lookup x=some .cell):∃ c,(BL n sc.names []).lookup x=some c:=by
 have q:=GP sc.names n [] (.inl h);exact GQ.mp q
theorem znd{K:yU}{s1:kb}
  (S:gZ N ps scope)(hd:A.handled=none)(e0:pg P w K mg base A outer s H)(hl:vs.length=ps.length)(r:Vals vs us)
  (x:InCallC s s.heap.objs.size (bindL (AX qual scope s.heap.objs.size f cd).kindOf (ps.zip us) fun _=>none) (BL (s.heap.objs.size+1) scope.names []) (bindC (AX qual scope s.heap.objs.size f cd).kindOf (ps.zip us) fun _=>none) s1) :
  Inv (fF CX P w K mg base N qual scope f cd A outer s H E) [] (start N vs) H s1:=by
 have bu:ps.length<=N.length:=by have:=congrArg FE S.pre;rw[DZ]at this;omega
 obtain⟨h1,tk,rfl,hk⟩:=x.done;have uY:∀ b:gV,b∉(fF CX P w K mg base N qual scope f cd A outer s H E).ex:=fun b z=>absurd (show b∈([]:List gV) from z) (by simp);refine⟨⟨e0.mod,S.kind,rfl,rfl,zr _,fun y z c h1 h2=>?_,fun y hy=>?_,fun y c _ h=>?_,fun _=>hd,Around.frames_deeper e0.frames,.inr ⟨rfl,rfl⟩,fun b z=>absurd z (uY b),e0.bs,e0.jO,fun b _ _=>uY b,fun b z=>absurd z (uY b),e0.gO,e0.kH,e0.tree,⟨_,_,rfl,S.gen,S.co,rfl,rfl⟩⟩,
  rfl,e0.bare,Un.kept hk,⟨_,x.toInCall.ns,fun i y v h1 h2 h3=>?_⟩,fun y c h=>⟨_,x.cell y c h⟩,e0.aC.fresh (zr _),fun y c h=>?_,fun p hp=>absurd (show p∈([]:List (gV×zb)) from hp) (by simp),e0.aC.kept hk,?_⟩
 ·exact name_of_addr x.apart (B1 h1) (B1 h2)
 ·have hy:scope.names.lookup y=some .cell\/scope.names.lookup y=some .free:=hy
  rcases hy with hy|hy
  ·exact ze6 hy
  ·exact absurd rfl (S.zpw _ (B1 hy))
 ·exact CM (x.above y c (B1 h))
 ·have hi:i<vs.length:=by
   unfold start at h2
   by_cases hi:i<vs.length
   ·exact hi
   ·rw[B2 (by simpa using hi)]at h2
    rw[BM]at h2
    split at h2 <;> cases h2
  have ha:vs[i]?=some v:=by
   unfold start at h2;rw[AY (by simpa using hi),AH]at h2;cases e:vs[i]? with
   | none=>rw[e]at h2;cases h2
   | some a=>rw[e]at h2;cases h2;rfl
  obtain⟨u,hu,rv⟩:=r.get ha;have hp:ps[i]?=some y:=by
   rw[<- S.pre,List.getElem?_take_of_lt (by omega)];exact h1
  have ndP:ps.Nodup:=by rw[<- S.pre];exact S.nd.sublist (List.take_sublist _ _)
  refine⟨u,rv,?_⟩;rcases S.par y (BO hp)with k|k
  ·exact .inl ⟨k,zeO ndP hp hu k⟩
  ·obtain⟨c,e⟩:=ze6 (n:=s.heap.objs.size+1) k
   refine .inr ⟨.inl k,c,e,?_⟩;have q:=x.cell y c e;rw[zeM ndP hp hu (by show scope.names.lookup y≠_;rw[k];decide)]at q;exact q
 ·exact e0.aC.fresh (CM (x.above y c (B1 h)))
 ·unfold start
  show _=N.length;rw[AO,zL,CW]
  omega
theorem zfW{K:yU}{name:dm}{dV kV doc pm aG ct oc:ir}{an od:Option gV}
  {sp:Sp}(lk:K.lookup f=some ⟨oc,od,.func (A8 name qual params body scope dV kV doc pm an aG ct),gR⟩)(eZ:Cz K aG qual=true)(S:gZ N ps scope)
  (len:∀ vs H Q E,sp vs H Q E->vs.length=ps.length)
  (ur:∀(A:zx) (outer:List zC) (s:kb) (H:Hp) (vs:List V) (Q:VK) (E:XK),aZ k (A.deeper (AX qual scope s.heap.objs.size f aG))->sp vs H Q E ->
   ∃ t,eE (fF CX P w K mg base N qual scope f aG A outer s H E) body t/\t { nx:=fun _ H'=>Q .non H',rt:=Q } (start N vs) H) :
  dJ P w K mg base CX (k+1) f (A8 name qual params body scope dV kV doc pm an aG ct) ps sp:=by
 refine⟨len,fun A outer s H args us vs Q E hr e0 hb r nN=>?_⟩;have hl:=len _ _ _ _ nN;have KX:K.In s.heap:=e0.mod.uM.keeps fun b o e=>(e0.bs b o e).1;have lim:s.heap.NoLimit:=e0.mod.nolimit.keeps fun b o e=>(e0.bs b o e).1;have zmU:∀ y∈ps.zip us,scope.names.lookup y.1=some .local\/(scope.names.lookup y.1=some .cell/\((BL (s.heap.objs.size+1) scope.names []).lookup y.1).isSome=true):=fun⟨n,v⟩ hy=>by
  rcases S.par n (DY hy).1 with q|q
  ·exact .inl q
  ·exact .inr ⟨q,GP _ _ _ (.inl q)⟩
 refine codeAny_call_function hr.depth (KX _ _ lk) rfl S.co S.gen rfl (PySem.W.codeRec_of KX eZ) (hb _ _ _ _ ?_);refine wpAny_newFunctionEnv_cells S.kind zmU fun env he s1 x=>?_;subst he;refine⟨lim.keeps x.toInCall.keep,codeAny_func ?_⟩;obtain⟨t,ht,hq⟩:=ur A outer s H vs Q E (hr.deeper _) nN;have I:Inv (fF CX P w K mg base N qual scope f aG A outer s H E) [] (start N vs) H s1:=znd S hr.hd e0 hl r x;refine z8 (ht [] s1 (start N vs) H _ I hq) (fun fl s' hs=>?_) fun e s' hs=>hs;have fin:∀{σ':St} {H':Hp} {v:V} {u:ir},Inv (fF CX P w K mg base N qual scope f aG A outer s H E) [] σ' H' s'->RelV v u->Q v H'->CE outer P w H s Q u s' :=
  fun{σ' H' v u} J rv q=>⟨v,H',J.os,J.bare,J.base,J.aC,rv,q⟩
 cases fl with
 | ret u =>
  obtain⟨v,σ',H',J,rv,q⟩:=hs;exact fin J rv q
 | next =>
  obtain⟨σ',H',J,q⟩:=hs;exact fin (v:=V.non) (u:=Aj) J rfl q
 | brk =>
  obtain⟨_,_,_,q⟩:=hs;exact Av q
 | cont =>
  obtain⟨_,_,_,q⟩:=hs;exact Av q
end
section
section
variable {id T:String}
noncomputable def yJ(r:List V->Hp->VK->Prop)(t:TA):TE:=fun σ H Q=>t σ H fun vs H1=>r vs H1 Q
theorem vb(hc:gL X (.builtin id) r)(hg:Gl X x)(hm:X.mg x=none)(hv:Ad x=some (.builtin id))(ha:PA X (e::es) t)(hn:x ≠ "__name__":=by decide)(bN:(x==("__debug__":dm))=false:=by decide)
  (he:yX (e::es) X.env=(false,zk e X.env)::yX es X.env:=by rfl) (bu:(zK pos (yX es X.env)).any (·.1)=false:=by rfl):PE X (.Call (.Name x p) (e::es) [] pos) (yJ r t):=by
 intro pins s σ H Q I h;refine DX (rQ I hg hm hv ?_ hn bN);exact PyProof.Rows.callWith_builtin1 (aT (ha pos pins s σ H _ I h) fun us s1 ⟨vs,H1,I1,r1,q1⟩=>hc pins s1 σ H1 vs us Q I1 r1 q1) he bu
theorem zqh(hc:gL X (.type T) r)(hg:Gl X x)(hm:X.mg x=none)(hv:Ad x=some (.type T))(ha:PA X (e::es) t)(hn:x ≠ "__name__":=by decide)(bN:(x==("__debug__":dm))=false:=by decide)
  (he:yX (e::es) X.env=(false,zk e X.env)::yX es X.env:=by rfl) (bu:(zK pos (yX es X.env)).any (·.1)=false:=by rfl):PE X (.Call (.Name x p) (e::es) [] pos) (yJ r t):=by
 intro pins s σ H Q I h;refine DX (rQ I hg hm hv ?_ hn bN);exact Fx (aT (ha pos pins s σ H _ I h) fun us s1 ⟨vs,H1,I1,r1,q1⟩=>hc pins s1 σ H1 vs us Q I1 r1 q1) he bu
end
end
end L2
namespace HT
open PySem PyProof.Rows
noncomputable def lexLt:List Int->List Int->Bool
 | [],[]=>false
 | [],_::_=>true
 | _::_,[]=>false
 | x::xs,y::ys=>if x=y then lexLt xs ys else decide (x<y)
theorem zoN(x y:Int)(xs ys:List Int):lexLt (x::xs) (y::ys)=if x=y then lexLt xs ys else decide (x<y):=rfl
theorem zoQ:lexLt [] []=false:=rfl
theorem zoP(y:Int)(ys:List Int):lexLt [] (y::ys)=true:=rfl
theorem zoO(x:Int)(xs:List Int):lexLt (x::xs) []=false:=rfl
theorem zlY(A:zx)(s:kb)(a:Int)(t:zQ)(c:Int)(u:zQ):∃ e,FG A s (.int a t) (.int c u) e/\(e=true↔a=c) :=
 ⟨(a==c),GR a t c u,by simp⟩
theorem zsG(A:zx)(s:kb)(a:Int)(t:zQ)(c:Int)(u:zQ)(prog:zu)(w:zq)(E:ir->kb->Prop)(Q:ir->kb->Prop)(h:Q (.bool (decide (a<c))) s) :
  yY (yZ prog w) A (richCompare .Lt (.int a t) (.int c u)) Q E s :=
 (PyProof.Rows.lt_int h:yY (yZ prog w) A (zF .Lt (.int a t) (.int c u)) Q E s)
section
open PySem.SeqAt
open PySem.AutoSeq1 (wpAny_loadPart')
open PySem.MeetsSeq PySem.MeetsSeq2 PySem.MeetsSeq3
theorem zt6(l b:gV)(items ja:Array ir)(n n2:Nat)(dd lS:Option gV)(sl lz:Array (Option ir))(ns ms:List Int)(hi:A9 items.toList ns)(hj:A9 ja.toList ms) :
  Meets (Bo.«tuple.__lt__» ⟨[.ref l,.ref b],[]⟩)
   (fun _ R s=>s.heap.get? l=some { cls:=.type "tuple",dict:=dd,data:=.seq items n,slots:=sl }/\s.heap.get? b=some { cls:=.type "tuple",dict:=lS,data:=.seq ja n2,slots:=lz } /\
    R (.ok (.ret (.bool (lexLt ns ms)))) s) :=
 .of_wp fun prog w A R s h=>by
  obtain⟨hp,g,d,tk,os⟩:=s;obtain⟨hl,hb,h⟩:=h
  have f2:=AutoSeq1.sub_tuple_tuple;have z1:items.size=ns.length:=by rw[<- hi.length];simp
  have z2:ja.size=ms.length:=by rw[<- hj.length];simp
  wp_walk using Ds hl,Ds hb,wpAny_forIn_list _ (fun rest b s'=>b.1=none/\s'=⟨hp,g,d,tk,os⟩/\∃(vs ws:List ir) (pZ rY:List Int),rest=vs.zip ws /\
   A9 vs pZ/\A9 ws rY/\pZ.length+ja.size=rY.length+items.size/\R (.ok (.ret (.bool (lexLt pZ rY)))) ⟨hp,g,d,tk,os⟩) _
  case turn =>
   rintro⟨y,x⟩ rest b s' ⟨kJ,rfl,vs,ws,pZ,rY,hz,hvi,xF,hlen,hR⟩;cases hvi with
   | nil=>rw[Bf]at hz;cases hz
   | cons a t hvi' =>
    cases xF with
    | nil=>rw[BP]at hz;cases hz
    | cons c u hwi' =>
     rw[AQ]at hz;injection hz with hyx hrest
     injection hyx with hy hx
     subst hy hx;rw[zoN]at hR;simp only[zB]at hlen;obtain⟨e,he,zgj⟩:=zlY A.in1 ⟨hp,g,d,tk,os⟩ a t c u;refine yV (he prog w _ _ ?_);cases e with
     | true =>
      rw[if_pos (zgj.mp rfl)]at hR
      wp_walk
      exact⟨rfl,rfl,_,_,_,_,hrest,hvi',hwi',by omega,hR⟩
     | false =>
      rw[if_neg (fun q=>absurd (zgj.mpr q) AJ)]at hR;have hri:=zsG A.in1 ⟨hp,g,d,tk,os⟩ a t c u prog w
      wp_walk using hri
      exact⟨_,rfl,by simpa using hR⟩
  case fin =>
   rintro⟨b1,b2⟩ s' ⟨kJ,rfl,vs,ws,pZ,rY,hz,hvi,xF,hlen,hR⟩;simp only at kJ;subst kJ;have hv:lexLt pZ rY=decide (items.size<ja.size):=by
    cases hvi with
    | nil =>
     cases xF with
     | nil =>
      simp only[zG]at hlen;rw[zoQ];exact(decide_eq_false (by omega)).symm
     | cons c u hw =>
      simp only[zG,zB]at hlen;rw[zoP];exact(decide_eq_true (by omega)).symm
    | cons a t hv =>
     cases xF with
     | nil =>
      simp only[zG,zB]at hlen;rw[zoO];exact(decide_eq_false (by omega)).symm
     | cons c u hw =>
      rw[AQ]at hz;cases hz
   rw[hv]at hR
   wp_walk
   exact⟨_,rfl,by simpa[Builtin.Tuple.tupleCompareSizes] using hR⟩
  case h =>
   exact⟨rfl,rfl,items.toList,ja.toList,ns,ms,rfl,hi,hj,by omega,h⟩
end
variable {s:kb}{v vl vu:ir}{E Q:ir->kb->Prop}{n:Nat}{prog:zu}{A:zx}{b t:gV}{hi o:Option Int}{items:Array ir}{w:zq}
section
theorem zhb{l:gV}{ja:Array ir}{ns ms:List Int}(hl:BJ s.heap l items)(hb:BJ s.heap b ja)(hi:A9 items.toList ns)(hj:A9 ja.toList ms)
  (hu:A.units<Ae)(h:Q (.bool (lexLt ns ms)) s):yY (yZ prog w) A (zF .Lt (.ref l) (.ref b)) Q E s:=by
 obtain⟨⟨cls,dd,data,sl⟩,ho,hc,n,hd⟩:=id hl;obtain⟨⟨zaO,lS,data2,lz⟩,ik,i7,n2,hd2⟩:=id hb;simp only at hc hd i7 hd2;subst hc hd i7 hd2;exact richCompare_meets_room (op:=.Lt) ⟨_,ho,rfl⟩ ⟨_,ik,rfl⟩ PySem.F.slot_tuple_lt PySem.F.entry_tuple_lt (PySem.F.args_tuple_lt_2 _ _) (zt6 l b items ja n n2 dd lS sl lz ns ms hi hj)
  ⟨ho,ik,show BI (lexLt ns ms)≠GU/\Q (.bool (lexLt ns ms)) s from⟨(fun x=>nomatch x),h⟩⟩ hu
theorem zkO{vs ws:List ir}(ht:BJ s.heap t vs.toArray)(hb:BJ s.heap b ws.toArray)(hv:vs≠[])
  (h1:ws=[]->Q (.ref t) s)(h2:ws≠[]->Q (.ref s.heap.objs.size) { s with heap:=s.heap.push { cls:=.type "tuple",data:=.seq (vs++ws).toArray } })
  (hsz:vs.length+ws.length<=zt):yY (yZ prog w) A (A2 .Add (.ref t) (.ref b)) Q E s:=by
 obtain⟨⟨cls,dd,data,sl⟩,ho,hc,n,hd⟩:=id ht;obtain⟨⟨zaO,lS,data2,lz⟩,ik,i7,n2,hd2⟩:=id hb;simp only at hc hd i7 hd2;subst hc hd i7 hd2;have e:vs.toArray++ws.toArray=(vs++ws).toArray:=by simp
 by_cases hw:ws=[]
 ·exact EA ⟨_,ho,rfl⟩ ⟨_,ik,rfl⟩ FH FI FJ FK (FN _ _)
   (tuple_addW1 t b vs.toArray ws.toArray n n2 dd lS sl lz (by simpa using hv) (by simp[hw])) ⟨ho,ik,h1 hw⟩
 ·refine EA ⟨_,ho,rfl⟩ ⟨_,ik,rfl⟩ FH FI FJ FK (FN _ _)
   (tuple_addW2 t b vs.toArray ws.toArray n n2 dd lS sl lz (by simpa using hv) (by simpa using hw) (by rw[zW,zW];exact hsz)) ⟨ho,ik,?_⟩
  rw[e];exact h2 hw
noncomputable def aX(n d:Nat):Option Int->Nat
 | none=>d
 | some v=>if v<0 then(v+(n:Int)).toNat else min v.toNat n
theorem zs0(n d:Nat)(hd:d<=n)(o:Option Int):aX n d o<=n:=by
 cases o with
 | none=>exact hd
 | some v =>
  show(if v<0 then(v+(n:Int)).toNat else min v.toNat n)<=n
  by_cases hv:v<0
  ·rw[if_pos hv];omega
  ·rw[if_neg hv];exact Nat.min_le_right _ _
theorem ze7(v:Int)(n d:Nat):(if v<0 then max (v+(n:Int)) 0 else min v (n:Int))=((aX n d (some v):Nat):Int):=by
 show(if v<0 then max (v+(n:Int)) 0 else min v (n:Int))=(((if v<0 then(v+(n:Int)).toNat else min v.toNat n):Nat):Int)
 by_cases hv:v<0
 ·simp only[if_pos hv];omega
 ·simp only[if_neg hv];omega
theorem zjR(lo hi:Option Int)(n:Nat):FO lo hi 1 (n:Int)=(((aX n 0 lo:Nat):Int),((aX n n hi:Nat):Int)):=by
 have h1:¬ ((1:Int)<0):=by omega
 unfold FO;simp only[h1,if_false];refine Prod.ext ?_ ?_
 ·cases lo with
  | none=>rfl
  | some v=>exact ze7 v n 0
 ·cases hi with
  | none=>rfl
  | some v=>exact ze7 v n n
theorem zqJ(i j:Nat):EB (i:Int) (j:Int) 1=j-i:=by
 unfold EB;have h1:(1:Int) > 0:=by omega
 simp only[h1,if_true,Int.ediv_one]
 split <;> omega
theorem zik{Q:Option Int->kb->Prop}(p:BQ v o)(h:Q o s):yY (yZ prog w) A (Builtin.Slice.slicePartIndex v) Q E s:=by
 cases p with
 | none=>exact slicePart_none h
 | int i t=>exact slicePart_int h
theorem zij{sl:gV}{lo:Option Int}{Q:Int×Int×Nat->kb->Prop}(hs:s.heap.IsSliceOf sl vl vu .none)(pl:BQ vl lo)(pu:BQ vu hi)
  (h:Q (((aX n 0 lo:Nat):Int),1,aX n n hi-aX n 0 lo) s):yY (yZ prog w) A (GV (.ref sl) (pure (n:Int))) Q E s:=by
 obtain⟨os,pP,nK,uw⟩:=id hs;unfold GV Builtin.Slice.sliceFields;refine yV (yV (CY pP uw (x:=vl) rfl (yV (CY pP uw (x:=vu) rfl (yV (CY pP uw (x:=.none) rfl (zi ?_)))))));refine yV (slicePart_none ?_);show yY _ _ (if((1:Int)==0)=true then _ else _) _ _ s;rw[if_neg (by decide)];refine yV (zik pl (yV (zik pu (yV (zi ?_)))));show yY _ _ (match FO lo hi 1 (n:Int) with|(lo,hi)=>pure (lo,(1:Int),EB lo hi 1)) _ _ s;rw[zjR lo hi n];show yY _ _ (pure (((aX n 0 lo:Nat):Int),(1:Int),EB ((aX n 0 lo:Nat):Int) ((aX n n hi:Nat):Int) 1)) _ _ s;rw[zqJ];exact zi h
theorem zqH(xs:Array ir)(i k:Nat):((A4 k).filterMap fun(m:Nat)=>xs[((i:Int)+(m:Int)*1).toNat]?).toArray=((xs.toList.drop i).take k).toArray:=by
 have e:(fun(m:Nat)=>xs[((i:Int)+(m:Int)*1).toNat]?)=fun m=>xs[i+m]?:=by
  funext m
  have:((i:Int)+(m:Int)*1).toNat=i+m:=by omega
  rw[this]
 rw[e];have:=pick_run xs i k;rw[List.filterMap_map]at this;have e2:((fun x=>xs[x]?)∘fun x=>i+x)=fun m=>xs[i+m]?:=rfl;rw[e2]at this;rw[this]
theorem zmy{sl:gV}{lo:Option Int}(ht:BJ s.heap t items)(hs:s.heap.IsSliceOf sl vl vu .none)(pl:BQ vl lo)(pu:BQ vu hi)
  (hw:¬ (aX items.size 0 lo=0/\aX items.size items.size hi=items.size))
  (h:Q (.ref s.heap.objs.size) { s with heap:=s.heap.push { cls:=.type "tuple",data:=.seq ((items.toList.drop (aX items.size 0 lo)).take (aX items.size items.size hi-aX items.size 0 lo)).toArray } })
  (hsz:items.size<=zt):yY (yZ prog w) A (B9 (.ref t) (.ref sl)) Q E s:=by
 have xE:sizeOk (.seq ((items.toList.drop (aX items.size 0 lo)).take (aX items.size items.size hi-aX items.size 0 lo)).toArray):=by
  show((items.toList.drop (aX items.size 0 lo)).take (aX items.size items.size hi-aX items.size 0 lo)).toArray.size<=zt;rw[zW,DZ,CA,Dj]
  omega
 have hj:aX items.size items.size hi<=items.size:=zs0 _ _ (zr _) hi;obtain⟨os,pP,nK,uw⟩:=id hs;have hTs:s.TypeIs (.ref sl) "slice":=⟨os,pP,nK⟩;unfold B9
 try with_reducible refine Bc ?_
 first|refine yV (zi ?_)|skip
 refine yV (wpAny_sequenceKey ht.typeIs (by decide) ?_);refine yV (EC (name:=zj "__getitem__") ht.typeIs Dt
  (D1 Dt ht.typeIs entry_tuple_getitem ?_ (args_tuple_getitem _ _)))
 show yY _ _ (GW (.ref t) >>= _) _ _ s;refine yV (tupleItemsOf_ ht ?_);refine yV (Du hTs ?_);rw[if_pos (by decide)];refine yV (zij hs pl pu ?_);have hno:¬ ((((aX items.size 0 lo:Nat):Int)==0&&(1:Int)==1&&(aX items.size items.size hi-aX items.size 0 lo)==items.size)=true):=by
  intro q;rw[zX,zX]at q;have q1:((aX items.size 0 lo:Nat):Int)=0:=eq_of_beq q.1.1;have q2:aX items.size items.size hi-aX items.size 0 lo=items.size:=eq_of_beq q.2;exact hw ⟨by omega,by omega⟩
 show yY _ _ (if(((aX items.size 0 lo:Nat):Int)==0&&(1:Int)==1&&(aX items.size items.size hi-aX items.size 0 lo)==items.size)=true then _ else _) _ _ s;rw[if_neg hno,zqH]
 first
  | exact yV (m:=ED _) (BK (zi ⟨_,rfl,zi h⟩) xE)
  | exact yV (m:=ED _) (BK (yV (zi (zi ⟨_,rfl,zi h⟩))) xE)
  | exact yV (yV (m:=ED _) (BK (zi (zi ⟨_,rfl,zi h⟩)) xE))
  | exact yV (yV (m:=ED _) (BK (zi ⟨_,rfl,zi h⟩) xE))
end
end HT
namespace L2
open PySem PySem.Spec PyProof.Rows
variable {X:Cx}{xs:List V}{r:V->Option Int->Option Int->Hp->VK->Prop}{e:yW}{pos:zc}{us:List ir}{ns:List Int}{te:TE}
section
abbrev TO:=St->Hp->(Option Int->Hp->Prop)->Prop
def PO(X:Cx)(e:Option yW)(t:TO):Prop :=
 ∀(pins:List (gV×zb)) (s:kb) (σ:St) (H:Hp) (Q:Option Int->Hp->Prop),Inv X pins σ H s->t σ H Q ->
  yY (yZ X.prog X.w) X.A (evalPart e X.env) (fun u s'=>∃ o H',Inv X pins σ H' s'/\BQ u o/\Q o H') X.xe s
noncomputable def ztJ:TO:=fun _ H Q=>Q none H
noncomputable def ztM(t:TE):TO:=fun σ H Q=>t σ H fun x H1=>∃ i,x=.int i/\Q (some i) H1
theorem intsAre_of:∀{us:List ir},Vals (ns.map V.int) us->A9 us ns:=by
 induction ns with
 | nil=>intro us r;rw[Bg]at r;cases r;exact .nil
 | cons n ns ih =>
  intro us r;rw[zE]at r;cases r with
  | cons r1 r2 =>
   obtain⟨t,e⟩:=r1;subst e;exact .cons n t (ih r2)
section
variable {lo hi:Option yW}{tl th:TO}{p2:zc}
theorem zqL:PO X none ztJ:=by
 intro pins s σ H Q I h;rw[evalPart_none];exact zi ⟨none,H,I,.none,h⟩
theorem zqM(h:PE X e te):PO X (some e) (ztM te):=by
 intro pins s σ H Q I hw;rw[evalPart_some];refine aT (h pins s σ H _ I hw) fun u s1 ⟨x,H1,I1,r1,q1⟩=>?_;obtain⟨i,rfl,q⟩:=q1;obtain⟨t,rfl⟩:=r1;exact⟨some i,H1,I1,.int i t,q⟩
def qL(X:Cx)(r:V->Option Int->Option Int->Hp->VK->Prop):Prop :=
 ∀(pins:List (gV×zb)) (s:kb) (σ:St) (H:Hp) (x:V) (v vl vu:ir) (lo hi:Option Int) (sl:gV) (Q:VK),Inv X pins σ H s->RelV x v->s.heap.IsSliceOf sl vl vu .none->BQ vl lo->BQ vu hi->r x lo hi H Q ->
  ∃ T id,typeLookup (.type T) "__getitem__"=pure (some (.builtin id))/\s.TypeIs v T/\yY (yZ X.prog X.w) X.A (B9 v (.ref sl)) (EP X pins σ Q) X.xe s
noncomputable def tSl(r:V->Option Int->Option Int->Hp->VK->Prop)(te:TE)(tl th:TO):TE:=fun σ H Q=>te σ H fun x H1=>tl σ H1 fun l H2=>th σ H2 fun u H3=>r x l u H3 Q
theorem zqt(hr:qL X r)(he:PE X e te)(hl:PO X lo tl)(hu:PO X hi th):PE X (.Subscript e (.Slice lo hi none p2) pos) (tSl r te tl th):=by
 intro pins s σ H Q I h;refine Subscript_ (aT (he pins s σ H _ I h) fun v s1 ⟨x,H1,I1,r1,q1⟩=>?_);refine wpAny_Slice (aT (hl pins s1 σ H1 _ I1 q1) fun vl s2 ⟨l,H2,I2,pl,q2⟩=>aT (hu pins s2 σ H2 _ I2 q2) fun vu s3 ⟨u,H3,I3,pu,q3⟩=>?_);rw[evalPart_none];refine zi ?_;have I4:Inv X pins σ H3 { s3 with heap:=s3.heap.push { cls:=.type "slice",data:=.fields #[vl,vu,.none] } }:=I3.kept (t':=s3.toks) fun b ob q=>zI _ q;obtain⟨T,id,hT,ht,hg⟩:=hr pins { s3 with heap:=s3.heap.push { cls:=.type "slice",data:=.fields #[vl,vu,.none] } } σ H3 x v vl vu l u s3.heap.objs.size Q I4 r1 (Heap.IsSliceOf.new ..) pl pu q3;show yY (yZ X.prog X.w) X.A (FP e (.Slice lo hi none p2) v (.ref s3.heap.objs.size)) (EP X pins σ Q) X.xe { s3 with heap:=s3.heap.push { cls:=.type "slice",data:=.fields #[vl,vu,.none] } };exact tail_any (ops:=[.ref s3.heap.objs.size,v]) ht hT hg (by with_unfolding_all rfl)
def lR(xs:List V)(lo hi:Option Int):List V:=(xs.drop (HT.aX xs.length 0 lo)).take (HT.aX xs.length xs.length hi-HT.aX xs.length 0 lo)
theorem zfg(xs:List V)(lo hi:Option Int):(lR xs lo hi).length<=xs.length:=by
 unfold lR;rw[DZ,CA]
 omega
def zsA(K:yU):V->Option Int->Option Int->Hp->VK->Prop:=fun x lo hi H Q=>∃ a xs,x=.ref a/\fP K H a xs /\
 ¬ (HT.aX xs.length 0 lo=0/\HT.aX xs.length xs.length hi=xs.length)/\∀ p,H p=none->Q (.ref p) (upd H p (.tup (lR xs lo hi)))
theorem zth:qL X (zsA X.K):=by
 intro pins s σ H x v vl vu lo hi sl Q I rx hs pl pu h;obtain⟨a,xs,rfl,hx,hw,q⟩:=h;cases rx;obtain⟨its,r,ht,hz⟩:=I.tuple hx;have hlen:its.toArray.size=xs.length:=by rw[zW];exact r.length.symm
 refine⟨"tuple",_,Dt.lookup,ht.typeIs,?_⟩;refine HT.zmy ht hs pl pu (by rw[hlen];exact hw) ?_ (by rw[hlen];exact hz);rw[hlen];refine⟨.ref s.heap.objs.size,_,I.laid (t':=s.toks) (o:=.tup (lR xs lo hi)) (fun b ob q=>zI _ q) (zr _) ?_,rfl,q _ (I.aC.fresh (zr _))⟩;exact⟨AB (zfg xs lo hi) hz,_,(r.drop (HT.aX xs.length 0 lo)).take (HT.aX xs.length xs.length hi-HT.aX xs.length 0 lo),DV _ _⟩
def zsn(K:yU):R2:=fun x y H Q=>∃ a b xs ys,x=.ref a/\y=.ref b/\fP K H a xs/\fP K H b ys/\xs≠[]/\xs.length+ys.length<=zt /\
 (ys=[]->Q (.ref a) H)/\(ys≠[]->∀ p,H p=none->Q (.ref p) (upd H p (.tup (xs++ys))))
theorem Vals.zcO(r:Vals xs us):us=[]↔xs=[]:=by
 cases r with
 | nil=>simp
 | cons _ _=>simp
theorem zpS:aW X (A2 .Add) (zsn X.K):=by
 intro pins s σ H x y v u Q I rx ry h;obtain⟨a,b,xs,ys,rfl,rfl,ha,hb,hx,hz,q1,q2⟩:=h;cases rx;cases ry;obtain⟨its,r1,p1,_⟩:=I.tuple ha;obtain⟨nP,r2,p2,_⟩:=I.tuple hb;refine HT.zkO p1 p2 (fun z=>hx (r1.zcO.mp z)) (fun z=>⟨.ref a,H,I,rfl,q1 (r2.zcO.mp z)⟩) (fun z=>?_) (by rw[<- r1.length,<- r2.length];exact hz);refine⟨.ref s.heap.objs.size,_,I.laid (t':=s.toks) (o:=.tup (xs++ys)) (fun b ob q=>zI _ q) (zr _) ?_,rfl,q2 (fun w=>z (r2.zcO.mpr w)) _ (I.aC.fresh (zr _))⟩;exact⟨by rw[AO];exact hz,_,r1.append r2,DV _ _⟩
end
end
variable {s:kb}{u v:ir}{i:Int}{pins:List (gV×zb)}{gP its:List ir}{x y:V}{name:dm}{j n:Nat}{σ:St}{A:zx}{r:V->List V->Hp->VK->Prop}{H:Hp}{α:Type}{ys:List V}{p:gV}{f:zb->zb}{es:List yW}{to:TE}{t:TA}
section
noncomputable def fJ(n:Nat)(i:Int):Option Nat:=if 0<=i then(if i<n then some i.toNat else none) else if -(n:Int)<=i then some (i+n).toNat else none
def bX{α:Type}(xs:List α)(i:Int):Option α:=(fJ xs.length i).bind fun j=>xs[j]?
theorem zgA(h:fJ n i=some j):seqIndex? i n=some j/\j<n/\-(n:Int)<=i/\i<n:=by
 unfold fJ at h
 by_cases h0:0<=i
 ·rw[if_pos h0]at h
  by_cases h1:i<n
  ·rw[if_pos h1]at h
   have e:i.toNat=j:=Az h;exact⟨by rw[seqIndex_of h0 h1,e],by omega,by omega,h1⟩
  ·rw[if_neg h1]at h;cases h
 ·rw[if_neg h0]at h
  by_cases h1:-(n:Int)<=i
  ·rw[if_pos h1]at h
   have e:(i+n).toNat=j:=Az h;exact⟨by rw[seqIndex_neg (by omega) h1,e],by omega,h1,by omega⟩
  ·rw[if_neg h1]at h;cases h
theorem zax{xs:List α}{v:α}(h:bX xs i=some v):∃ j,seqIndex? i xs.length=some j/\xs[j]?=some v/\j<xs.length/\-(xs.length:Int)<=i/\i<xs.length:=by
 unfold bX at h;cases e:fJ xs.length i with
 | none=>rw[e]at h;cases h
 | some j =>
  rw[e]at h;obtain⟨h1,h2,h3,h4⟩:=zgA e;exact⟨j,h1,h,h2,h3,h4⟩
def v3(b:yW):Prop:=∀ o i,subscripted b false o i=operate [o,i] (B9 o i)
def jK(X:Cx)(r:R2):Prop :=
 ∀(value slice:yW) (pins:List (gV×zb)) (s:kb) (σ:St) (H:Hp) (x y:V) (v u:ir) (Q:VK),Inv X pins σ H s->RelV x v->RelV y u->r x y H Q ->
  subscripted slice false v u=operate [v,u] (B9 v u)->yY (yZ X.prog X.w) X.A (FP value slice v u) (EP X pins σ Q) X.xe s
def iC(X:Cx)(id:String)(r:V->List V->Hp->VK->Prop):Prop :=
 ∀(pins:List (gV×zb)) (s:kb) (σ:St) (H:Hp) (x:V) (xs:List V) (v:ir) (us:List ir) (Q:VK),Inv X pins σ H s->RelV x v->Vals xs us->r x xs H Q ->
  yY (yZ X.prog X.w) X.A (call (.builtin id) (v::us)) (EP X pins σ Q) X.xe s
section
variable {a b:yW}{ta tb:TE}
theorem zhI{r:R2}(hr:jK X r)(ha:PE X a ta)(hb:PE X b tb)(hs:v3 b):PE X (.Subscript a b pos) (qy r ta tb):=by
 intro pins s σ H Q I h;exact Subscript_ (zaB ha hb I h fun v u s2 x y H2 I2 rx ry q=>hr a b pins s2 σ H2 x y v u Q I2 rx ry q (hs _ _))
def zst(K:yU):R2:=fun x y H Q=>∃ p xs i v,x=.ref p/\y=.int i/\cw K H p xs/\bX xs i=some v/\Q v H
def zsv(K:yU):R2:=fun x y H Q=>∃ p xs i v,x=.ref p/\y=.int i/\fP K H p xs/\bX xs i=some v/\Q v H
def zsu:R2:=fun x y H Q=>∃ z i c,x=.str z/\y=.int i/\z.length<=zt/\bX z.cps.toList i=some c/\Q (.str ⟨#[c]⟩) H
theorem znl:jK X (zst X.K):=by
 intro value slice pins s σ H x y v u Q I rx ry h hs;obtain⟨p,xs,i,z,rfl,rfl,hq,he,q⟩:=h;cases rx;obtain⟨t,rfl⟩:=ry;obtain⟨its,r,pl,hz⟩:=I.list hq;obtain⟨j,h1,h2,h3,h4,h5⟩:=zax he;obtain⟨w,ew,je⟩:=r.get h2;have hl:=r.length;have hn:=pV;have fin:EP X pins σ Q w s:=⟨z,H,I,je,q⟩
 by_cases h0:0<=i
 ·have hj:i.toNat=j:=by
   rw[seqIndex_of h0 h5]at h1;exact Az h1
  exact item_listR pl.isList h0 (by omega) (by rw[hj];simpa using ew) fin hs
 ·have hj:(i+(its.toArray.size:Int)).toNat=j:=by
   rw[seqIndex_neg (by omega) h4]at h1;rw[zW,<- hl];exact Az h1
  exact subscriptTail_builtinR (x:=w) pl.isList.typeIs slot_list_getitem.lookup
   (wpAny_getItem_list_neg (Q:=fun r s'=>r=w/\EP X pins σ Q r s') pl.isList (by omega) (by rw[zW] <;> omega) (by omega) (by rw[hj];simpa using ew) ⟨rfl,fin⟩) hs
theorem znn:jK X (zsv X.K):=by
 intro value slice pins s σ H x y v u Q I rx ry h hs;obtain⟨p,xs,i,z,rfl,rfl,hq,he,q⟩:=h;cases rx;obtain⟨t,rfl⟩:=ry;obtain⟨its,r,pl,hz⟩:=I.tuple hq;obtain⟨j,h1,h2,h3,h4,h5⟩:=zax he;obtain⟨w,ew,je⟩:=r.get h2;have hl:=r.length;have hn:=pV;have fin:EP X pins σ Q w s:=⟨z,H,I,je,q⟩;exact subscriptTail_builtinR (x:=w) pl.typeIs slot_tuple_getitem.lookup
  (getItem_tuple (j:=j) (Q:=fun r s'=>r=w/\EP X pins σ Q r s') pl (by omega) (by omega) (by rw[zW,<- hl];exact h1) (by simpa using ew) ⟨rfl,fin⟩) hs
theorem znm:jK X zsu:=by
 intro value slice pins s σ H x y v u Q I rx ry h hs;obtain⟨z,i,c,rfl,rfl,hz,he,q⟩:=h;obtain⟨t,rfl⟩:=rx;obtain⟨t',rfl⟩:=ry;obtain⟨j,h1,h2,h3,h4,h5⟩:=zax he;have hl:z.cps.toList.length=z.length:=by simp[Str.length]
 rw[hl]at h1 h4 h5;have hn:=pV;exact tail_any (CZ s z t) slot_str_getitem.lookup (getItem_str (c:=c) (by
  have e1:decide (i < -(2^63:Int))=false:=decide_eq_false (by omega);have e2:decide (i ≥ 2^63)=false:=decide_eq_false (by omega);rw[e1,e2,Bool.or_false]) (by rw[h1];simpa using h2) ⟨.str ⟨#[c]⟩,H,I.tok _,⟨_,rfl⟩,q⟩) hs
theorem zo8(its:List ir)(n j:Nat)(u:ir):Ai (·.setIfInBounds j u) { cls:=.type "list",data:=.seq its.toArray n }={ cls:=.type "list",data:=.seq (its.set j u).toArray n }:=by
 simp[Ai]
theorem Inv.lst{pins:List (gV×zb)}{σ:St}{H:Hp}{s:kb}{p:gV}{xs:List V}(I:Inv X pins σ H s)(h:H p=some (.lst xs)) :
  ∃(its:List ir) (n:Nat),Vals xs its/\s.heap.get? p=some { cls:=.type "list",data:=.seq its.toArray n }/\xs.length<=zt:=by
 obtain⟨z,its,n,r,e⟩:=I.aC p _ h;exact⟨its,n,r,e,z⟩
theorem Inv.zoY{n':Nat}(I:Inv X pins σ H s)(h:H p=some (.lst xs))
  (ho:s.heap.get? p=some { cls:=.type "list",data:=.seq its.toArray n }) (hf:f { cls:=.type "list",data:=.seq its.toArray n }={ cls:=.type "list",data:=.seq gP.toArray n' }) (r:Vals ys gP) (hz:ys.length<=zt) (t:Nat) :
  Inv X pins σ (upd H p (.lst ys)) { s with heap:=s.heap.update p f,toks:=t }:=by
 have e:(s.heap.update p f).get? p=some { cls:=.type "list",data:=.seq gP.toArray n' }:=by
  rw[D2 f ho (by rw[hf] <;> rfl),hf]
 refine I.write (x:=p) (e:=p) (by rw[h];trivial) (.inl rfl) (fun b u hb q=>(C0 _ _ (AD hb)).trans q) ⟨_,e⟩ ?_;exact⟨hz,gP,n',r,e⟩
def zsx:V->V->V->Hp->(Hp->Prop)->Prop:=fun o i v H Q=>∃ p xs k j,o=.ref p/\i=.int k/\H p=some (.lst xs)/\fJ xs.length k=some j/\Q (upd H p (.lst (xs.set j v)))
theorem set_list:zdS X zsx:=by
 intro pins s σ H o i v ov iv u Q I ro ri rv h;obtain⟨p,xs,k,j,rfl,rfl,hp,hj,q⟩:=h;cases ro;obtain⟨t,rfl⟩:=ri;obtain⟨its,n,r,ho,hz⟩:=I.lst hp;obtain⟨h1,h2,h3,h4⟩:=zgA hj;have hl:=r.length;have hn:=pV;have I':Inv X pins σ (upd H p (.lst (xs.set j v))) { s with heap:=s.heap.update p (Ai (·.setIfInBounds j u)) } :=
  I.zoY hp ho (zo8 its n j u) (r.set rv j) (by rw[Bp];exact hz) s.toks
 by_cases h0:0<=k
 ·have hk:k.toNat=j:=by
   rw[seqIndex_of h0 h4]at h1;exact Az h1
  exact PySem.W.ki_setAt ho h0 (by omega) (by rw[zW,<- hl];exact h4) (by rw[hk];exact⟨_,I',q⟩)
 ·have hk:(k+(its.toArray.size:Int)).toNat=j:=by
   rw[seqIndex_neg (by omega) h3]at h1;rw[zW,<- hl];exact Az h1
  exact PySem.W.ki_setBack ho (by omega) (by rw[zW,<- hl];exact h3) (by omega) (by rw[hk];exact⟨_,I',q⟩)
theorem ztj(lo hi:Option Int)(n:Nat):(C1 lo hi none n).1=((HT.aX n 0 lo:Nat):Int)/\(C1 lo hi none n).2.1=((HT.aX n n hi:Nat):Int)/\(C1 lo hi none n).2.2=1:=by
 refine⟨?_,?_,rfl⟩
 ·cases lo with
  | none=>simp[C1,HT.aX]
  | some i =>
   simp only[C1,HT.aX,BD,show(1:Int) > 0 by decide,if_true]
   by_cases h:i<0
   ·simp only[h,if_true] <;> omega
   ·simp only[h,if_false] <;> omega
 ·cases hi with
  | none=>simp[C1,HT.aX]
  | some i =>
   simp only[C1,HT.aX,BD,show(1:Int) > 0 by decide,if_true]
   by_cases h:i<0
   ·simp only[h,if_true] <;> omega
   ·simp only[h,if_false] <;> omega
theorem zti(its:List ir)(lo hi:Option Int):slicePick its.toArray lo hi none=((its.drop (HT.aX its.length 0 lo)).take (HT.aX its.length its.length hi-HT.aX its.length 0 lo)).toArray:=by
 obtain⟨h1,h2,h3⟩:=ztj lo hi its.toArray.size;unfold slicePick;rw[h1,h2,h3];simp only[sliceRange_one,pick_run,zW] <;> rfl
def zsz(K:yU):V->Option Int->Option Int->Hp->VK->Prop:=fun x lo hi H Q=>∃ a xs,x=.ref a/\cw K H a xs/\∀ p,H p=none->Q (.ref p) (upd H p (.lst (lR xs lo hi)))
theorem ztf:qL X (zsz X.K):=by
 intro pins s σ H x v vl vu lo hi sl Q I rx hs pl pu h;obtain⟨a,xs,rfl,hx,q⟩:=h;cases rx;obtain⟨its,r,ht,hz⟩:=I.list hx;have hlen:=r.length;refine⟨"list",_,slot_list_getitem.lookup,ht.isList.typeIs,?_⟩;refine wpAny_getItem_list_slice ht.isList hs pl pu .none (by simp) ?_ (by rw[zW] <;> omega);rw[zti,<- hlen];refine⟨.ref s.heap.objs.size,_,I.laid (t':=s.toks) (o:=.lst (lR xs lo hi)) (fun b ob q=>zI _ q) (zr _) ?_,rfl,q _ (I.aC.fresh (zr _))⟩;exact⟨AB (zfg xs lo hi) hz,_,0,(r.drop (HT.aX xs.length 0 lo)).take (HT.aX xs.length xs.length hi-HT.aX xs.length 0 lo),AG _ rfl⟩
noncomputable def lW:V->Bool
 | .non=>true
 | .bl _=>true
 | .int _=>true
 | .str _=>true
 | _=>false
noncomputable def nF:V->V->Bool
 | .non,.non=>true
 | .bl a,.bl b=>a==b
 | .bl a,.int b=>(if a then 1 else 0)==b
 | .int a,.bl b=>a==(if b then 1 else 0)
 | .int a,.int b=>a==b
 | .str a,.str b=>a==b
 | _,_=>false
theorem zlX(ry:RelV y u)(rx:RelV x v)(fy:lW y=true)(fx:lW x=true):FG A s u v (nF y x):=by
 cases y with
 | non =>
  cases ry;cases x with
  | non=>cases rx;exact SeqAt.EqAt.same _
  | bl b=>cases rx;exact SeqAt.EqAt.none_bool b
  | int b=>obtain⟨t,rfl⟩:=rx;exact SeqAt.EqAt.none_int b t
  | str b=>obtain⟨t,rfl⟩:=rx;exact SeqAt.EqAt.none_str b t
  | _=>exact absurd (show false=true from fx) AJ
 | bl a =>
  cases ry;cases x with
  | non=>cases rx;exact SeqAt.EqAt.bool_none a
  | bl b=>cases rx;exact SeqAt.EqAt.bool_bool a b
  | int b=>obtain⟨t,rfl⟩:=rx;exact SeqAt.EqAt.bool_int a b t
  | str b=>obtain⟨t,rfl⟩:=rx;exact SeqAt.EqAt.bool_str a b t
  | _=>exact absurd (show false=true from fx) AJ
 | int a =>
  obtain⟨t',rfl⟩:=ry;cases x with
  | non=>cases rx;exact SeqAt.EqAt.int_none a t'
  | bl b=>cases rx;exact SeqAt.EqAt.int_bool a t' b
  | int b=>obtain⟨t,rfl⟩:=rx;exact GR a t' b t
  | str b=>obtain⟨t,rfl⟩:=rx;exact GI a t' b t
  | _=>exact absurd (show false=true from fx) AJ
 | str a =>
  obtain⟨t',rfl⟩:=ry;cases x with
  | non=>cases rx;exact SeqAt.EqAt.str_none a t'
  | bl b=>cases rx;exact SeqAt.EqAt.str_bool a t' b
  | int b=>obtain⟨t,rfl⟩:=rx;exact GJ a t' b t
  | str b=>obtain⟨t,rfl⟩:=rx;exact SeqAt.EqAt.str_str a t' b t
  | _=>exact absurd (show false=true from fx) AJ
 | _=>exact absurd (show false=true from fy) AJ
def eqU(x:V)(u:ir):Bool:=match u with
 | .none=>nF .non x
 | .bool b=>nF (.bl b) x
 | .int i _=>nF (.int i) x
 | .str z _=>nF (.str z) x
 | _=>false
theorem zbu(r:RelV y u)(f:lW y=true):eqU x u=nF y x:=by
 cases y with
 | non=>cases r;rfl
 | bl b=>cases r;rfl
 | int i=>obtain⟨t,rfl⟩:=r;rfl
 | str z=>obtain⟨t,rfl⟩:=r;rfl
 | _=>exact absurd (show false=true from f) AJ
theorem zhc{A:zx}{s:kb}{x:V}{v:ir}(rx:RelV x v)(fx:lW x=true):∀{xs:List V} {us:List ir},Vals xs us->xs.all lW=true->∀ u∈us,FG A s u v (eqU x u)
 | _,_,.nil,_=>fun u hu=>by cases hu
 | y::xs,u::us,.cons r t,f=>fun u' hu=>by
  rw[FQ,zX]at f;rcases zS.mp hu with rfl|hu
  ·rw[zbu r f.1];exact zlX r rx f.1 fx
  ·exact zhc rx fx t f.2 u' hu
theorem ze3:gL X (.builtin "len") (fun xs H Q=>∃ p ys,xs=[.ref p]/\(cw X.K H p ys\/fP X.K H p ys)/\Q (.int ys.length) H):=by
 intro pins s σ H xs us Q I r h;obtain⟨p,ys,rfl,hq,q⟩:=h;obtain⟨u,rfl,rx⟩:=vals1 r;cases rx;have hn:=pV;rcases hq with hq|hq
 ·obtain⟨its,r',pl,hz⟩:=I.list hq
  have hlen:=r'.length;exact Calls.call_len_list pl.isList (by simp only[zW] <;> omega) ⟨.int ys.length,H,I.tok _,⟨s.toks+1,by rw[zW,hlen]⟩,q⟩
 ·obtain⟨its,r',pl,hz⟩:=I.tuple hq
  have hlen:=r'.length;exact len_tuple pl (by simp only[zW] <;> omega) ⟨.int ys.length,H,I.tok _,⟨s.toks+1,by rw[zW,hlen]⟩,q⟩
theorem zkJ:gL X (.builtin "len") (fun xs H Q=>∃ z,xs=[.str z]/\z.length<=zt/\Q (.int z.length) H):=by
 intro pins s σ H xs us Q I r h;obtain⟨z,rfl,hz,q⟩:=h;obtain⟨u,rfl,t,rfl⟩:=vals1 r;have hn:=pV;exact len_str (by omega) ⟨.int z.length,H,I.tok _,⟨_,rfl⟩,q⟩
theorem ze4:gL X (.type "tuple") (fun xs H Q=>∃ p ys,xs=[.ref p]/\((cw X.K H p ys/\∀ l,H l=none->Q (.ref l) (upd H l (.tup ys)))\/(fP X.K H p ys/\Q (.ref p) H))):=by
 intro pins s σ H xs us Q I r h;obtain⟨p,ys,rfl,h⟩:=h;obtain⟨u,rfl,rx⟩:=vals1 r;cases rx;rcases h with⟨hq,q⟩|⟨hq,q⟩
 ·obtain⟨its,r',pl,hz⟩:=I.list hq
  have hlen:=r'.length;refine call_tuple_list pl.isList (fun h' kp=>?_) (by simp only[zW] <;> omega);have I1:Inv X pins σ H { s with heap:=h' }:=I.kept (t':=s.toks) kp;have I2:Inv X pins σ (upd H h'.objs.size (.tup ys)) { s with heap:=h'.push { cls:=.type "tuple",data:=.seq its.toArray } } :=
   I1.laid (t':=s.toks) (fun b o e=>zI _ e) (zr _) (show cD X.prog X.w _ _ _ (.tup ys) from⟨hz,its,r',DV _ _⟩)
  exact⟨.ref h'.objs.size,_,I2,rfl,q _ (I1.aC.fresh (zr _))⟩
 ·obtain⟨its,r',pl,hz⟩:=I.tuple hq
  exact call_tuple_same pl ⟨.ref p,H,I,rfl,q⟩
def tyV(K:yU)(T:String)(x:V)(H:Hp):Prop:=match x with
 | .str _=>T="str"
 | .int _=>T="int"
 | .ref p=>(T="list"/\∃ xs,cw K H p xs)\/(T="tuple"/\∃ o,K.lookup p=some o/\o.cls=.type "tuple"/\o.dict=none) \/
   (T="dict"/\((∃ aj,H p=some (.dK aj))\/∃ aj,H p=some (.dT aj)))\/(T="set"/\∃ S n,H p=some (.set S n))
 | _=>False
theorem zui{T:String}(I:Inv X pins σ H s)(r:RelV x v)(ty:tyV X.K T x H) :
  s.TypeIs v T/\∀ a,v=.ref a->∃ ob,s.heap.get? a=some ob/\ob.dict=none:=by
 cases x with
 | str z =>
  obtain⟨t,rfl⟩:=r;cases (show T="str" from ty);exact⟨CZ s z t,fun _ e=>nomatch e⟩
 | int i =>
  obtain⟨t,rfl⟩:=r;cases (show T="int" from ty);exact⟨typeIs_int s i t,fun _ e=>nomatch e⟩
 | ref p =>
  cases r;rcases ty with⟨rfl,xs,hq⟩|⟨rfl,o,hk,hc,hd⟩|⟨rfl,hk⟩|⟨rfl,S,n,hk⟩
  ·obtain⟨its,_,pl,_⟩:=I.list hq
   refine⟨pl.isList.typeIs,fun a e=>?_⟩;cases e;obtain⟨o,n,e,c,hd,_⟩:=pl;exact⟨o,e,hd⟩
  ·refine⟨⟨o,I.eO p o hk,hc⟩,fun a e=>?_⟩
   cases e;exact⟨o,I.eO _ o hk,hd⟩
  ·have z:∃ o,s.heap.get? p=some o/\o.ExactDict:=by
    rcases hk with⟨aj,hk⟩|⟨aj,hk⟩
    ·obtain⟨_,_,_,_,o,_,_,e,ex,_⟩:=I.aC p _ hk
     exact⟨o,e,ex⟩
    ·obtain⟨_,_,_,_,o,_,_,e,ex,_⟩:=I.aC p _ hk
     exact⟨o,e,ex⟩
   obtain⟨o,e,ex⟩:=z;refine⟨⟨o,e,ex.1⟩,fun a e2=>?_⟩;cases e2;exact⟨o,e,ex.2.1⟩
  ·obtain⟨o,_,_,_,e,ex,_⟩:=I.aC p _ hk
   refine⟨⟨o,e,ex.1⟩,fun a e2=>?_⟩;cases e2;exact⟨o,e,ex.2.1⟩
 | _=>exact Av ty
noncomputable def tBM(K:yU)(T:String)(r:V->List V->Hp->VK->Prop)(to:TE)(t:TA):TE:=fun σ H Q=>to σ H fun x H1=>tyV K T x H1/\t σ H1 fun xs H2=>r x xs H2 Q
variable {o:yW}{apos bC:zc}{T id:String}
theorem yb(pa:PlainAttrs T)(slot:Slot T name id)(uG:typeOf (.builtin id)=pure (.type "method_descriptor"))(hm:iC X id r)(ho:PE X o to)(ha:PA X (e::es) t)
  (i6:Cw o name X.env (zk o X.env)=zk o X.env:=by rfl)
  (me:((zK bC (yX (e::es) X.env)).all (fun x=>!x.1)&&(D3 bC (D4 [] X.env)).all (fun x=>x.1.isSome)
   && decide ((e::es).length+([]:List B3).length+(if([]:List B3).isEmpty then 0 else 1)<30))=true:=by rfl)
  (mq:(apos.endLine==bC.line)=true:=by rfl) (hs:yX (e::es) X.env=(false,zk e X.env)::yX es X.env:=by rfl) (jW:(zK bC (yX es X.env)).any (·.1)=false:=by rfl) :
  PE X (.Call (.Attribute o name apos) (e::es) [] bC) (tBM X.K T r to t):=by
 intro pins s σ H Q I h;refine wpAny_Call_method_late i6 me mq rfl (aT (ho pins s σ H _ I h) fun v s1 ⟨x,H1,I1,r1,ty,q1⟩=>?_);obtain⟨h1,h2⟩:=zui I1 r1 ty;refine⟨T,id,pa,slot,uG,h1,h2,?_⟩;have hA:=ha bC pins s1 σ H1 _ I1 q1;rw[hs]at hA ⊢;refine Calls.callWith_builtin (by show(false||(zK bC (yX es X.env)).any (·.1))=false;rw[jW] <;> rfl) (GX ?_);exact aT hA fun us s2 ⟨vs,H2,I2,r2,q2⟩=>hm pins s2 σ H2 x vs v us Q I2 r1 r2 q2
end
end
variable {t':Nat}{f:Array ir->Array ir}
section
def MtM(X:Cx)(id:String)(r:V->List V->Hp->VK->Prop):Prop :=
 ∀(pins:List (gV×zb)) (s:kb) (σ:St) (H:Hp) (x:V) (xs:List V) (v:ir) (us:List ir) (Q:VK),Inv X pins σ H s->RelV x v->Vals xs us->r x xs H Q ->
  yY (yZ X.prog X.w) X.A (call (.builtin id) (v::us)) (EP X pins σ Q) X.xe s
theorem Vals.one:∀{x:V} {us:List ir},Vals [x] us->∃ u,us=[u]/\RelV x u
 | _,_,.cons r .nil=>⟨_,rfl,r⟩
theorem Vals.dropLast(h:Vals xs us):Vals xs.dropLast us.dropLast:=by
 induction h with
 | nil=>exact .nil
 | cons r t ih =>
  cases t with
  | nil=>exact .nil
  | cons q t'=>exact .cons r ih
theorem Vals.rep{xs:List V}{us:List ir}(h:Vals xs us):∀ k:Nat,Vals (zo k xs).flatten (zo k us).flatten
 | 0=>.nil
 | k+1=>by
  rw[C2,C2,D5,D5];exact Vals.append h (Vals.rep h k)
theorem zuP(l:List α):l.eraseIdx (l.length-1)=l.dropLast:=by
 induction l with
 | nil=>rfl
 | cons a r ih =>
  cases r with
  | nil=>rfl
  | cons b r =>
   have e:(a::b::r).length-1=((b::r).length-1)+1:=by
    have h1:(a::b::r).length=r.length+2:=rfl;have h2:(b::r).length=r.length+1:=rfl
    omega
   rw[e,List.eraseIdx_cons_succ,ih]
   all_goals rfl
theorem foldl_rep(its:List ir):∀(k:Nat) (acc:List ir),
  List.foldl (fun x1 x2=>x1++x2) acc.toArray (zo k its.toArray)=(acc++(zo k its).flatten).toArray
 | 0,acc=>by simp
 | k+1,acc=>by
  have e:acc.toArray++its.toArray=(acc++its).toArray:=by simp
  have e2:(acc++its)++(zo k its).flatten=acc++(zo (k+1) its).flatten:=by
   rw[C2,D5,Dv]
  rw[<- e2,<- foldl_rep its k (acc++its),<- e,C2,List.foldl_cons]
section
variable {l b:gV}{zs:List V}
theorem Inv.zg5(I:Inv X pins σ H s)(hH:H l=some (.lst xs))
  (e:s.heap.get? l=some { cls:=.type "list",data:=.seq its.toArray n }) (hf:f its.toArray=gP.toArray) (hv:Vals ys gP) (hz:ys.length<=zt) :
  Inv X pins σ (upd H l (.lst ys)) { s with heap:=s.heap.update l (Ai f),toks:=t' }:=by
 have q:=PySem.IsL.update e f;rw[hf]at q;refine I.write (x:=l) (e:=l) (by rw[hH];exact trivial) (.inl rfl) (fun b' u hb hu=>(C0 s.heap (Ai f) (AD hb)).trans hu) ⟨_,q⟩ ?_;exact⟨hz,gP,_,hv,q⟩
theorem Inv.zcx(I:Inv X pins σ H s)(hv:Vals ys its)(hz:ys.length<=zt) :
  Inv X pins σ (upd H s.heap.objs.size (.lst ys)) { s with heap:=s.heap.push { cls:=.type "list",data:=.seq its.toArray },toks:=t' } :=
 I.laid (fun _ _ q=>zI _ q) (zr _) ⟨hz,its,0,hv,AG _ rfl⟩
theorem Inv.fresh(I:Inv X pins σ H s):H s.heap.objs.size=none:=I.aC.fresh (zr _)
theorem Inv.zg7(I:Inv X pins σ H s)(hH:H l=some (.lst xs)):xs.length<=zt/\∃(its:List ir) (n:Nat),Vals xs its/\xs.length=its.length/\s.heap.get? l=some { cls:=.type "list",data:=.seq its.toArray n }:=by
 obtain⟨z,its,n,r,e⟩:=I.aC l _ hH;exact⟨z,its,n,r,r.length,e⟩
end
section
def zsm:V->List V->Hp->VK->Prop:=fun x vs H Q=>∃ l xs y,x=.ref l/\vs=[y]/\H l=some (.lst xs)/\xs.length<zt/\Q .non (upd H l (.lst (xs++[y])))
theorem zpe:MtM X "list.append" zsm:=by
 intro pins s σ H x vs v us Q I rx rv h;obtain⟨l,xs,y,rfl,rfl,hH,hz,q⟩:=h;cases rx;obtain⟨u,rfl,ru⟩:=rv.one;obtain⟨z,its,n,r,hl,e⟩:=I.zg7 hH;refine Cb F.slot_list_append ⟨_,e,rfl⟩ F.entry_list_append (F.args_list_append_2 _ _) (PySem.list_append l its.toArray n u (by rw[zW];omega)) ⟨e,?_⟩;refine⟨.non,_,I.zg5 (gP:=its++[u]) hH e (by simp) (r.append (.cons ru .nil)) ?_,rfl,q⟩;rw[AO,D6]
 omega
theorem len_rep(xs:List α)(k:Nat):(zo k xs).flatten.length=k*xs.length:=by
 induction k with
 | zero=>simp
 | succ k ih=>rw[C2,D5,AO,ih,Nat.succ_mul,Nat.add_comm]
end
end
end L2
namespace Att
open PySem PySem.W PySem.Calls PyProof.Rows
variable {h:zh}{q:zu}{loose:List dm}{vals:List ir}{args:List WData}{YP:zq->zh->Prop}{P:Params}{d:DefRec}{l:OpenLaw}{n:Nat}
theorem znb:∀(ns:List Int) (vs:List ir),WellAll P h vs (ns.map WData.int)->A9 vs ns:=by
 intro ns
 induction ns with
 | nil =>
  intro vs w;rw[Bg]at w;cases w;exact .nil
 | cons n ns ih =>
  intro vs w;rw[zE]at w;cases w with
  | cons a b =>
   cases a;exact .cons _ _ (ih _ b)
theorem zs8(hn:l.most=some n)
  (xA:l.row.toRowW.claim.pre args=true)(hwl:WellAll P h vals args) :
  ∃ a vs ns,vals=[Ac a]/\args=[WData.list (ns.map WData.int)]/\h.get? a=some { cls:=.type "list",data:=.seq vs.toArray }/\A9 vs ns/\ns.length<=n:=by
 have hsh:WShape.hasAll [] args [.list .int]=true:=(pre_splitW xA).1;have hc:l.pre.holds [] { args:=args }=true:=(pre_splitW xA).2;obtain⟨d,r,rfl,h1,h2⟩:=hasAllW_cons hsh;obtain rfl:=hasAllW_nil h2;obtain⟨xs,rfl,h3⟩:=hasW_list h1;obtain⟨ns,rfl⟩:=items_int h3;have hlen:ns.length<=n:=by
  unfold OpenLaw.pre at hc;have h4:(WTm.not (.lt (.lit (.int n)) (.len (.arg 0)))).holds [] { args:=[.list (ns.map .int)] }=true:=by
   have h4:=(holds_andW hc).1;rw[hn]at h4;exact h4
  have h5:=condW_of h4 (w_not (w_lt w_lit (w_len_list (w_arg rfl))));rw[zL]at h5;refine Nat.le_of_not_lt fun q=>?_;have q':(n:Int)<((ns.length:Nat):Int):=by omega
  first
   | (rw[decide_eq_true q']at h5;exact absurd h5 (by decide))
   | (simp at h5;omega)
 cases hwl with
 | cons w1 w2 =>
  cases w2;cases w1 with
  | list ho hall=>exact⟨_,_,ns,rfl,rfl,ho,znb ns _ hall,hlen⟩
theorem zqN(l:OpenLaw)(args:List WData):l.row.toRowW.claim.post args (.bool true) args=true :=
 postW_of (r:=l.row.toRowW) (X:=(true==true))
  (show WShape.has [] (.bool true) .bool=true by first|rfl|decide|simp[WShape.has,WShape.arms,WShape.armsAll])
  (show(WTm.eq .res (.lit (.bool true))).value [] { args:=args,res:=some (.bool true),after:=args }=some (.bool (true==true)) from w_eq_bool (w_res rfl) w_lit) rfl
theorem zj6{XP:(dm->Option ir)->zh->Prop}
  (hn:l.most=some n)(uv:d.params.defaults=[])
  (call:∀(w:zq) (s₀ s₁:kb) (mg mb:dm->Option ir) (fa:gV) (o:zb) (pm cd doc:ir) (a:gV) (vs:List ir) (ns:List Int),
   Ground q loose [] XP w s₀ mg mb s₁.heap->YP w s₁.heap ->
   s₁.heap.get? fa=some o->o.data=.func (docDef d.name d.params d.body d.scope pm cd doc)->s₁.heap.CodeRec cd d.name->mg d.name=some (.ref fa) ->
   s₁.heap.get? a=some { cls:=.type "list",data:=.seq vs.toArray }->A9 vs ns->ns.length<=n->s₁.gens=#[] ->
   BA (yZ l.prog w) C3 (.call (.ref fa) ⟨[.ref a],[]⟩) (fun r s'=>r=.ok (.ret (.bool true))/\OldK s₁.heap s'.heap/\s'.os=s₁.os/\BX s'.gens) s₁) :
  WalkO q loose XP YP l.row.toRowW d [] (fun f vs=>FR f vs):=by
 intro w s₀ s₁ mg mb G Y fa o pm cd doc dV kV ho hd eZ hD hmg hg args vals as xA zuR hrd hwl hlo;obtain rfl:dV=.none:=Dflts.none hD uv;obtain rfl:kV=.none:=Dflts.noKw hD;obtain⟨a,vs,ns,rfl,rfl,zci,hints,hlen⟩:=zs8 hn xA hwl;refine enter_call (Dr (call w s₀ s₁ mg mb fa o pm cd doc a vs ns G Y ho (fd_plain hd) eZ hmg zci hints hlen hg) fun r s' hq=>?_);obtain⟨rfl,h2,h3,h4⟩:=hq;exact⟨.inl ⟨.bool true,.bool true,[],rfl,fun _=>rfl,.bool true,zqN l _,fun _=>⟨GY,fun _ hm=>(nomatch hm)⟩⟩,h2,h3,h4⟩
end Att
namespace L2
open PySem PySem.Spec PyProof.Rows
section
theorem ziW:∀{vs:List ir} {ns:List Int},A9 vs ns->Vals (ns.map V.int) vs
 | _,_,.nil=>.nil
 | _,_,.cons n t h=>.cons ⟨t,rfl⟩ (ziW h)
end
section
abbrev KOf{K:yU}{h:zh}(_:K.In h):yU:=K
end
variable {X:Cx}{w:zq}{H:Hp}{qual x:dm}{fd:Ah}{f:gV}{pos:zc}{P:zu}{N ps:List dm}{mg:dm->Option ir}{oc:ir}{A B:Prop}{k n:Nat}{gR:Array (Option ir)}{base:zh}
section
noncomputable def i3(s:zy):Arguments:=match s with
 | .FunctionDef _ a _ _ _ _ _ _ _ _=>a
 | _=>{ posonlyargs:=[],args:=[],vararg:=none,kwonlyargs:=[],kw_defaults:=[],kwarg:=none,defaults:=[] }
noncomputable def dU(s:zy):List zy:=match s with
 | .FunctionDef _ _ b _ _ _ _ _ _ _=>b
 | _=>[]
noncomputable def bB(s:zy):Al:=match s with
 | .FunctionDef _ _ _ _ _ _ sc _ _ _=>sc
 | _=>{ kind:=.function,names:=[],isGenerator:=false,isCoroutine:=false }
abbrev lG:jg:=fun _ _ _ _ _ _=>False
abbrev E0:XK:=fun _ _ _=>False
structure fA(K:yU)(x qual:dm)(st:zy)(f:gV)(fd:Ah):Prop where
 ex:∃(oc:ir) (od:Option gV) (kV doc pm:ir) (an:Option gV) (aG ct:ir) (gR:Array (Option ir)),
  fd=A8 x qual (i3 st) (dU st) (bB st) .none kV doc pm an aG ct/\K.lookup f=some ⟨oc,od,.func fd,gR⟩/\Cz K aG qual=true
 kp:CV K (.ref f)=true
section
variable {K:yU}
theorem fA.ok{st:zy}{sp:Sp}(F:fA K x qual st f fd)(S:gZ N ps (bB st))(len:∀ vs H Q E,sp vs H Q E->vs.length=ps.length)
  (ur:∀(aG:ir) (A:zx) (outer:List zC) (s:kb) (H:Hp) (vs:List V) (Q:VK) (E:XK),aZ k (A.deeper (AX qual (bB st) s.heap.objs.size f aG))->sp vs H Q E ->
   ∃ t,eE (fF lG P w K mg base N qual (bB st) f aG A outer s H E).cV (dU st) t/\t { nx:=fun _ H'=>Q .non H',rt:=Q } (start N vs) H):dJ P w K mg base lG (k+1) f fd ps sp:=by
 obtain⟨oc,od,kV,doc,pm,an,aG,ct,gR,rfl,lk,eZ⟩:=F.ex;refine zfW lk eZ S len fun A outer s H vs Q E hr nN=>?_;obtain⟨t,h,q⟩:=ur aG A outer s H vs Q E hr nN;exact⟨t,h.cV,q⟩
theorem fA.binds{st:zy}(F:fA K x qual st f fd)
  (h:∀(kV doc pm:ir) (an:Option gV) (aG ct:ir) (us:List ir),us.length=ps.length->Cy (A8 x qual (i3 st) (dU st) (bB st) .none kV doc pm an aG ct) ⟨us,[]⟩=pure (ps.zip us)):Binds K fd ps []:=by
 obtain⟨oc,od,kV,doc,pm,an,aG,ct,gR,rfl,lk,eZ⟩:=F.ex;exact .all (h kV doc pm an aG ct)
theorem zfY{st:zy}{od an:Option gV}{kV doc pm aG ct:ir}(l:K.lookup f=some ⟨oc,od,.func (A8 x qual (i3 st) (dU st) (bB st) .none kV doc pm an aG ct),gR⟩)
  (c:Cz K aG qual=true)(k:CV K (.ref f)=true):fA K x qual st f (A8 x qual (i3 st) (dU st) (bB st) .none kV doc pm an aG ct):=⟨⟨oc,od,kV,doc,pm,an,aG,ct,gR,rfl,l,c⟩,k⟩
end
theorem ztl(h:n<=1000):n<zt:=Nat.lt_of_le_of_lt h (by decide)
section
theorem pv(i:Nat)(hN:X.N[i]?=some x:=by rfl)(hv:wa X.env.scope x:=by first|exact Cd rfl|exact B4 (Cd rfl)|exact B4 (B4 rfl))(hd:(x==("__debug__":dm))=false:=by decide)
  (eZ:(x==("__classdict__":dm))=false:=by decide):PE X (.Name x pos) (dA i):=zhK hN hv hd eZ
end
theorem mC(h:B):if false=true then A else B:=by
 rw[if_neg AJ];exact h
theorem mD(h:A):if true=true then A else B:=by
 rw[if_pos rfl];exact h
def aA(H H':Hp):Prop:=∀ b o,H b=some o->H' b=some o
theorem aA.refl(H:Hp):aA H H:=fun _ _ h=>h
theorem aA.trans{H1 H2:Hp}(a:aA H H1)(b:aA H1 H2):aA H H2:=fun c o h=>b c o (a c o h)
end
variable {pins:List (gV×zb)}{s:kb}{σ:St}{a:Nat}
section
theorem bits_le{k:Int}(h:k.natAbs<2^a):EE k<=a:=by
 unfold EE
 split
 ·exact AU _
 ·rename_i h0
  have hp:k.natAbs≠0:=by
   intro z;apply h0;have:k=0:=by omega
   subst this
   rfl
  have:=(FT hp).mpr h
  omega
theorem mulOk_of{i j:Int}{b:Nat}(hi:i.natAbs<2^a)(hj:j.natAbs<2^b)(h:a+b<=134217728):IntMulOk i j:=by
 have h1:=bits_le hi;have h2:=bits_le hj;have h3:GZ ((EE i:Int)+(EE j:Int))=false:=by
  unfold GZ;rw[bitsLine_eq];simp
  omega
 unfold IntMulOk;rw[h3];simp
section
theorem zp2:aW X (A2 .Mult) (rI IntMulOk fun i j=>.int (i*j)):=opI fun _ _ _ _ _ _ _ hc q=>mul_int q hc
end
mutual
/-- the value v is the thing d in the abstract heap -/
def Is(K:yU)(H:Hp):zN->V->Prop
 | .none,v=>v=.non
 | .bool b,v=>v=.bl b
 | .int i,v=>v=.int i
 | .str x,v=>v=.str x
 | .list xs,v=>∃ a vs,v=.ref a/\cw K H a vs/\iV K H xs vs
 | .tuple xs,v=>∃ a vs,v=.ref a/\fP K H a vs/\iV K H xs vs
 | .dict _,_=>False
def iV(K:yU)(H:Hp):List zN->List V->Prop
 | [],vs=>vs=[]
 | d::ds,vs=>∃ v r,vs=v::r/\Is K H d v/\iV K H ds r
end
section
mutual
theorem Is.reads(I:Inv X pins σ H s):∀(d:zN) (v:V) (u:ir),Is X.K H d v->RelV v u->∃ as,Reads s.heap u d as
 | .none,v,u,h,r=>by
  simp only[Is]at h;subst h
  cases (show u=Aj from r);exact⟨_,.none⟩
 | .bool b,v,u,h,r=>by
  simp only[Is]at h;subst h
  cases (show u=BI b from r);exact⟨_,.bool b⟩
 | .int i,v,u,h,r=>by
  simp only[Is]at h;subst h
  obtain⟨t,rfl⟩:=(show ∃ t,u=CJ i t from r);exact⟨_,.int i t⟩
 | .str x,v,u,h,r=>by
  simp only[Is]at h;subst h
  obtain⟨t,rfl⟩:=(show ∃ t,u=Cr x t from r);exact⟨_,.str x t⟩
 | .list xs,v,u,h,r=>by
  simp only[Is]at h;obtain⟨a,vs,rfl,h1,h2⟩:=h;cases (show u=Ac a from r);obtain⟨its,rv,⟨o,n,ho,hc,_,hd⟩,_⟩:=I.list h1;obtain⟨as,ra⟩:=iV.reads I xs vs its h2 rv;exact⟨_,.list ho hc hd (by simpa using ra)⟩
 | .tuple xs,v,u,h,r=>by
  simp only[Is]at h;obtain⟨a,vs,rfl,h1,h2⟩:=h;cases (show u=Ac a from r);obtain⟨its,rv,⟨o,ho,hc,n,hd⟩,_⟩:=I.tuple h1;obtain⟨as,ra⟩:=iV.reads I xs vs its h2 rv;exact⟨_,.tuple ho hc hd (by simpa using ra)⟩
 | .dict _,v,u,h,r=>by simp only[Is]at h
theorem iV.reads(I:Inv X pins σ H s):∀(ds:List zN) (vs:List V) (us:List ir),iV X.K H ds vs->Vals vs us->∃ as,ReadsAll s.heap us ds as
 | [],vs,us,h,r=>by
  simp only[iV]at h;subst h
  cases r;exact⟨_,.nil⟩
 | d::ds,vs,us,h,r=>by
  simp only[iV]at h;obtain⟨v,rr,rfl,h1,h2⟩:=h;cases r with
  | cons r1 r2 =>
   obtain⟨as,q1⟩:=Is.reads I d v _ h1 r1;obtain⟨bs,q2⟩:=iV.reads I ds rr _ h2 r2;exact⟨_,.cons q1 q2⟩
end
end
section
noncomputable def zso(K:yU):R2:=fun x y H Q=>∃ d e,Is K H d x/\Is K H e y/\AZ d=true/\AZ e=true/\Q (.bl (A0 d e)) H
noncomputable def zsw(K:yU):R2:=fun x y H Q=>∃ d e,Is K H d x/\Is K H e y/\AZ d=true/\AZ e=true/\Q (.bl (!A0 d e)) H
theorem zpT(hu:X.A.units+64<Ae):aW X (zF .Eq) (zso X.K):=by
 intro pins s σ H x y v u Q I rx ry h;obtain⟨d,e,h1,h2,c1,c2,q⟩:=h;obtain⟨as,ra⟩:=Is.reads I d x v h1 rx;obtain⟨bs,rb⟩:=Is.reads I e y u h2 ry;exact SeqAt.compareEq_shaped ra rb c1 c2 hu ⟨.bl _,H,I,rfl,q⟩
theorem zp3(hu:X.A.units+64<Ae):aW X (zF .NotEq) (zsw X.K):=by
 intro pins s σ H x y v u Q I rx ry h;obtain⟨d,e,h1,h2,c1,c2,q⟩:=h;obtain⟨as,ra⟩:=Is.reads I d x v h1 rx;obtain⟨bs,rb⟩:=Is.reads I e y u h2 ry;exact SeqAt.compareNe_shaped ra rb c1 c2 hu ⟨.bl _,H,I,rfl,q⟩
end
end
variable {c u:ir}{b:Bool}{E Q:ir->kb->Prop}{A:zx}{y:V}
section
inductive Ty(K:yU)(H:Hp):V->ir->Prop where
 | non:Ty K H .non (.type "NoneType")
 | bl (x:Bool):Ty K H (.bl x) (.type "bool")
 | int (i:Int):Ty K H (.int i) (.type "int")
 | str (x:dm):Ty K H (.str x) (.type "str")
 | lst {a:gV} {xs:List V} (e:cw K H a xs):Ty K H (.ref a) (.type "list")
 | tup {a:gV} {xs:List V} (e:fP K H a xs):Ty K H (.ref a) (.type "tuple")
noncomputable def nA:V->ir
 | .ty n=>.type n
 | .ref a=>.ref a
 | _=>.none
theorem zfa(r:RelV y u)(h:nA y≠.none):u=nA y:=by
 cases y with
 | ty n=>exact r
 | ref a=>exact r
 | _=>exact absurd rfl h
section
theorem zni{x:V}{t:ir}(I:Inv X pins σ H s)(rx:RelV x u)(ty:Ty X.K H x t)(e:zT X.K t c=some b)(h:∀ tk,Q (.bool b) { s with toks:=tk }) :
  yY (yZ X.prog X.w) A (call (.builtin "isinstance") [u,c]) Q E s:=by
 cases ty with
 | non=>cases (show u=Aj from rx);exact C4 PySem.W.kitx_none I.eO Dw e (fun z=>nomatch z) h
 | bl y=>cases (show u=BI y from rx);exact C4 PySem.W.kitx_bool I.eO Dw e (fun z=>nomatch z) h
 | int i=>obtain⟨t,q⟩:=(show ∃ t,u=CJ i t from rx);cases q;exact C4 PySem.W.kitx_int I.eO Dw e (fun z=>nomatch z) h
 | str y=>obtain⟨t,q⟩:=(show ∃ t,u=Cr y t from rx);cases q;exact C4 PySem.W.kitx_str I.eO Dw e (fun z=>nomatch z) h
 | @lst a xs ea =>
  cases (show u=Ac a from rx);obtain⟨its,_,⟨o,n,ho,hc,_⟩,_⟩:=I.list ea;exact C4 PySem.W.kitx_list I.eO ⟨o,ho,hc⟩ e (fun z=>nomatch z) h
 | @tup a xs ea =>
  cases (show u=Ac a from rx);obtain⟨its,_,⟨o,ho,hc,_⟩,_⟩:=I.tuple ea;exact C4 PySem.W.kitx_tuple I.eO ⟨o,ho,hc⟩ e (fun z=>nomatch z) h
def zsr(K:yU):List V->Hp->VK->Prop:=fun xs H Q=>∃ x y t b,xs=[x,y]/\nA y≠.none/\Ty K H x t/\zT K t (nA y)=some b/\Q (.bl b) H
theorem ze2:gL X (.builtin "isinstance") (zsr X.K):=by
 intro pins s σ H xs us Q I r h;obtain⟨x,y,t,b,rfl,hy,ty,e,q⟩:=h;obtain⟨u,v,rfl,ru,rv⟩:=vals2 r;cases zfa rv hy;exact zni I ru ty e fun tk=>⟨.bl b,H,I.tok tk,rfl,q⟩
theorem zc3{n:String}(hg:Gl X x)(hm:X.mg x=none)(hv:Ad x=some (.type n))(hn:x ≠ "__name__":=by decide)(hd:(x==("__debug__":dm))=false:=by decide):PE X (.Name x pos) (tC (.ty n)):=zqf hg hm hv rfl hn hd
theorem zkM(hc:X.calm=true):gL X (.builtin "sum") (fun xs H Q=>∃(a:gV) (ns:List Int),xs=[.ref a]/\cw X.K H a (ns.map V.int)/\Q (.int ns.sum) H):=by
 intro pins s σ H xs us Q I r h;obtain⟨a,ns,rfl,hq,q⟩:=h;obtain⟨u,rfl,ru⟩:=vals1 r;cases (show u=Ac a from ru);obtain⟨its,rv,p,hz⟩:=I.list hq;have hi:=intsAre_of rv;obtain⟨xs,e⟩:=hi.allInts.items;have en:ns=List.map (fun x=>x.fst) xs.toList:=by
  have h1:=nums_intItems xs;rw[<- e]at h1;rw[<- h1,show its.toArray.toList=its from rfl,hi.numsOf]
 refine sum_intListG (xs:=xs) (I.ok.hd hc) (by rw[<- e];exact p.isList) fun h' tk t' hk=>⟨.int ns.sum,H,I.kept hk,?_,q⟩;refine⟨t',?_⟩;rw[preSum_eq,EG (by simp),en]
def zsp(K:yU):V->List V->Hp->VK->Prop:=fun x vs H Q=>∃(l:gV) (xs:List V) (y z:V) (j:Nat),x=.ref l/\vs=[y]/\cw K H l xs/\lW y=true/\xs.all lW=true /\
 xs[j]?=some z/\nF z y=true/\(∀(m:Nat) (w:V),m<j->xs[m]?=some w->nF w y=false)/\Q (.int j) H
theorem zpf:MtM X "list.index" (zsp X.K):=by
 intro pins s σ H x vs v us Q I rx rv h;obtain⟨l,xs,y,z,j,rfl,rfl,hS,fy,fx,hj,hz,hno,q⟩:=h;cases rx;obtain⟨u,rfl,ru⟩:=rv.one;obtain⟨its,r,⟨o,n,ho,hc,fG,hd⟩,hle⟩:=I.list hS;obtain⟨c,dd,dt,sl⟩:=o;cases hc;cases fG;cases hd;obtain⟨jz,hjz,rz⟩:=r.get hj;have uD:j<its.length:=(Am.mp hjz).1;have hjx:j<xs.length:=(Am.mp hj).1;have fz:lW z=true:=A3.mp fx z (BO hj);refine Cb F.slot_list_index ⟨_,ho,rfl⟩ F.entry_list_index (F.args_list_index_2 _ _)
  (SeqAt.list_indexAt l its.toArray n none sl u (eqU y) j (by simpa using uD) (by rw[AR]at hle;omega) ?_ ?_) ⟨ho,?_,?_⟩
 ·have e1:its.toArray[j]'(by simpa using uD)=jz:=by
   have:=Am.mp hjz;simpa using this.2
  rw[e1,zbu rz fz];exact hz
 ·intro m hm hmj
  have nL:m<its.length:=by simpa using hm
  have hmx:m<xs.length:=by rw[r.length];exact nL
  obtain⟨um,hum,rm⟩:=r.get (i:=m) (x:=xs[m]) (by simp[hmx]);have e1:its.toArray[m]'hm=um:=by
   have:=Am.mp hum;simpa using this.2
  have fm:lW xs[m]=true:=A3.mp fx _ (EH hmx);rw[e1,zbu rm fm];exact hno m xs[m] hmj (by simp[hmx])
 ·intro w hw
  exact zhc ru fy r fx w (by simpa using hw)
 ·exact⟨.int j,H,I.tok _,⟨_,rfl⟩,q⟩
end
end
variable {env:zC}{Q:Unit->kb->Prop}{scope:Al}
section
noncomputable def fR(cells:List (dm×gV)):List (dm×A7)->List (dm×gV)->List (dm×gV)
 | [],acc=>acc
 | (n,k)::r,acc=>if k=.free then(match cells.lookup n with|some a=>fR cells r ((n,a)::acc)|none=>fR cells r acc) else fR cells r acc
theorem wL{cells:List (dm×gV)}:∀{names:List (dm×A7)} {acc:List (dm×gV)},(∀ p∈acc,cells.lookup p.1=some p.2)->∀ p∈fR cells names acc,cells.lookup p.1=some p.2
 | [],acc,h,p,hp=>h p hp
 | (n,k)::r,acc,h,p,hp=>by
  unfold fR at hp
  split at hp
  ·split at hp
   ·rename_i a e
    exact wL (names:=r) (acc:=(n,a)::acc) (fun q hq=>by
     rcases zS.mp hq with rfl|hq
     ·exact e
     ·exact h q hq) p hp
   ·exact wL h p hp
  ·exact wL h p hp
theorem wK{cells:List (dm×gV)}:∀{names:List (dm×A7)} {acc:List (dm×gV)},∀ p∈acc,p∈fR cells names acc
 | [],acc,p,hp=>hp
 | (n,k)::r,acc,p,hp=>by
  unfold fR
  split
  ·split
   ·exact wK p (z0 _ hp)
   ·exact wK p hp
  ·exact wK p hp
theorem t7{cells:List (dm×gV)}{x:dm}{a:gV}(e:cells.lookup x=some a):∀{names:List (dm×A7)} {acc:List (dm×gV)},(x,Ce)∈names->(x,a)∈fR cells names acc
 | (n,k)::r,acc,h=>by
  unfold fR;rcases zS.mp h with h|h
  ·cases h
   rw[if_pos rfl,e];exact wK _ (Au ..)
  ·split
   ·split
    ·exact t7 e h
    ·exact t7 e h
   ·exact t7 e h
theorem uN{α:Type}{x:dm}{a:α}:∀{l:List (dm×α)},(x,a)∈l->∃ b,l.lookup x=some b
 | (y,b)::r,h=>by
  by_cases e:(x==y)=true
  ·exact⟨b,by simp[zJ,e]⟩
  ·rcases zS.mp h with h|h
   ·cases h
    exact absurd (beq_self_eq_true _) e
   ·obtain⟨c,hc⟩:=uN h
    refine⟨c,?_⟩;have e':(x==y)=false:=by simpa using e
    simp only[zJ,e'];exact hc
theorem zkR(h:∀ y∈scope.names,y.2=.free->∃ a,env.cells.lookup y.1=some a):closureFor scope env=pure (fR env.cells scope.names []):=by
 have key:∀(names:List (dm×A7)) (acc:List (dm×gV)),(∀ y∈names,y.2=.free->∃ a,env.cells.lookup y.1=some a) ->
   (forIn names acc (fun x r=>match x with
    | (name,kind)=>if(kind==Ce)=true then do let a <- cellOf env name;pure (Dx ((name,a)::r)) else pure (Dx r)):Sem (List (dm×gV)))=pure (fR env.cells names acc):=by
  intro names
  induction names with
  | nil=>intro acc _;rfl
  | cons p r ih =>
   intro acc hh;obtain⟨n,k⟩:=p;rw[FU]
   by_cases hk:k=.free
   ·subst hk
    obtain⟨a,ea⟩:=hh (n,.free) (Au ..) rfl;have e1:cellOf env n=pure a:=by unfold cellOf;rw[ea]
    simp only[beq_self_eq_true,if_true,e1,pure_bind,fR,ea];exact ih _ fun y hy=>hh y (z0 _ hy)
   ·have hk':(k==Ce)=false:=by simpa using hk
    simp only[hk',zm,if_false,pure_bind,fR,hk];exact ih _ fun y hy=>hh y (z0 _ hy)
 unfold closureFor;exact(bind_pure _).trans (key scope.names [] h)
theorem qj{scope:Al}{env:zC}{x:dm}{k:A7}:∀{names:List (dm×A7)},
  (names.map fun(n,k)=>if(k==Ce&&env.scope.kind==.function&&env.kindOf n==some .cell) then(n,Ba) else(n,k)).lookup x=some k ->
  ∃ k0,names.lookup x=some k0/\(x,k0)∈names/\(k0=k\/(k0=.free/\k=.cell))
 | [],h=>by simp at h
 | (n,k0)::r,h=>by
  by_cases e:(x==n)=true
  ·have en:x=n:=by simpa using e
   subst en;refine⟨k0,by simp[zJ],Au ..,?_⟩;rw[zE]at h
   by_cases hc:(k0==Ce&&env.scope.kind==.function&&env.kindOf x==some .cell)=true
   ·simp only[hc,if_true,zJ,beq_self_eq_true]at h
    simp only[zX,beq_iff_eq]at hc;exact .inr ⟨hc.1.1,(Az h).symm⟩
   ·simp only[hc,zm,if_false,zJ,beq_self_eq_true]at h
    exact .inl (Az h)
  ·have e':(x==n)=false:=by simpa using e
   rw[zE]at h;have h':(r.map fun(n,k)=>if(k==Ce&&env.scope.kind==.function&&env.kindOf n==some .cell) then(n,Ba) else(n,k)).lookup x=some k:=by
    by_cases hc:(k0==Ce&&env.scope.kind==.function&&env.kindOf n==some .cell)=true
    ·simp only[hc,if_true,zJ,e']at h
     exact h
    ·simp only[hc,zm,if_false,zJ,e']at h
     exact h
   obtain⟨k1,h1,h2,h3⟩:=qj (scope:=scope) h';exact⟨k1,by simp only[zJ,e'];exact h1,z0 _ h2,h3⟩
noncomputable def hW(X:Cx)(ix:List Nat):List dm:=ix.map fun i=>X.N.getD i ""
noncomputable def fQ(k:Nat)(ix:List Nat)(σ:St):St:=zo k none++ix.map fun i=>(σ[i]?).getD none
end
section
def jk(X:Cx)(ifs:List yW)(t:TT):Prop :=
 ∀(pins:List (gV×zb)) (s:kb) (σ:St) (H:Hp) (Q:Bool->Hp->Prop),Inv X pins σ H s->t σ H Q ->
  yY (yZ X.prog X.w) X.A (forIn ifs true fun c r=>if r=true then do let ok <- isTrue c X.env (zk c X.env);pure (Dx ok) else pure (Dx r)) (TP X pins σ Q) X.xe s
noncomputable def ztv:TT:=fun _ H Q=>Q true H
theorem zq9:jk X [] ztv:=fun _ _ _ H _ I h=>wpAny_tests_nil ⟨H,I,h⟩
def pq(k:Nat)(g:TG):Prop:=∀ x σ H Q,g x σ H Q->g x σ H fun σ2 H2=>(σ2.length=σ.length/\∀ i:Nat,k<=i->σ2[i]?=σ[i]?)/\Q σ2 H2
end
variable {nx:Bool}{cls fl head:ir}{vs:Array ir}{L a e:gV}{dd:Option gV}{h h':zh}{outer:List zC}{M:B8}{oe:zb}
section
def Fl(h:zh)(e:gV)(cls:ir)(dd:Option gV)(T:gV)(fl:ir):Prop :=
 ∃ oe vs oT ts,h.get? e=some oe/\oe.cls=cls/\oe.dict=dd/\oe.data=.fields vs/\vs[1]?=some (.ref T)/\T≠e/\h.get? T=some oT/\oT.data=.fields ts/\ts[3]?=some fl
def Fl0(h:zh)(e:gV)(cls:ir)(dd:Option gV):Prop :=
 ∃ oe vs,h.get? e=some oe/\oe.cls=cls/\oe.dict=dd/\oe.data=.fields vs/\vs[1]?=some .none
def Kp(fs ex:List gV)(h h':zh):Prop:=∀ b o,b∉ex->h.get? b=some o->(b∉fs->h'.get? b=some o)/\∃ sl,h'.get? b=some { o with slots:=sl }
theorem Kp.of{fs ex:List gV}(k:∀ b o,b∉ex->h.get? b=some o->h'.get? b=some o):Kp fs ex h h':=fun b o hb e=>⟨fun _=>k b o hb e,o.slots,k b o hb e⟩
theorem Kp.trans{fs ex w8:List gV}{h1 h2:zh}(a:Kp fs ex h h1)(b:Kp fs w8 h1 h2)(n:∀ c∈w8,c∈ex\/h.get? c=none):Kp fs ex h h2:=by
 intro c o hc e;obtain⟨a1,sl,a2⟩:=a c o hc e;have jV:c∉w8:=fun z=>by
  rcases n c z with q|q
  ·exact hc q
  ·rw[e]at q;cases q
 obtain⟨b1,mR,b2⟩:=b c _ jV a2;exact⟨fun hf=>(b c _ jV (a1 hf)).1 hf,mR,b2⟩
theorem Kp.all{fs ex:List gV}(a:Kp [] ex h h'):Kp fs ex h h':=fun b o hb e=>⟨fun _=>(a b o hb e).1 (by simp),(a b o hb e).2⟩
section
theorem zbx{T:gV}(f:Fl s.heap e cls dd T fl)
  (h:∀ h',Kp [] [T] s.heap h'->Fl h' e cls dd T .none->Q () { s with heap:=h' }):yY M A (setFlight (.ref e) none) Q E s:=by
 obtain⟨oe,vs,oT,ts,he,hc,fG,hd,h1,cB,hT,pN,h3⟩:=f;have z3:3<ts.size:=(EI.mp h3).1;unfold setFlight;refine yV (CY he hd h1 ?_);rw[if_pos (by simp)];refine D7 hT pN z3 (h _ (Kp.of fun b o hb e=>?_) ⟨oe,vs,_,_,?_,hc,fG,hd,h1,cB,D2 _ hT (FV (D8 pN _)),D8 pN _,by simp[z3]⟩)
 ·rw[C0 _ _ (by intro z;exact hb (by simp[z]))]
  exact e
 ·rw[C0 _ _ cB]
  exact he
theorem zlx(o:zb)(f:Array ir->Array ir):(o.mapFields f).dict=o.dict:=by
 obtain⟨c,d,dt,sl⟩:=o;cases dt <;> rfl
theorem zfU
  (e6:A.frames=some (env::outer))(hl:s.heap.FunFrames base (env::outer))(hf:env.frame=some L)(he:s.heap.get? e=some oe)(hd:oe.data=.fields vs)(hsz:1<vs.size)
  (h:∀ h' T,Kp (eM (env::outer)) [e] s.heap h'->s.heap.objs.size<=T->Fl h' e oe.cls oe.dict T (Bw L)->Q () { s with heap:=h' }) :
  yY M A (do let a <- frameOf env;let pl <- entryPlaceOf L nx;let b <- G0 head a .none (Bw L) .none pl;setField (.ref e) 1 b) Q E s:=by
 have ne:e∉eM (env::outer):=fun hm=>by
  obtain⟨_,o,ho,z⟩:=hl.mem hm;rw[he]at ho;cases ho;exact z vs hd
 refine yV (wpAny_frameOf_fun e6 hl hf fun h₁ so=>?_);obtain⟨sz,same,slots⟩:=so;refine yV (wpAny_entryPlaceOf fun pl bu=>?_);unfold G0 newFields;refine yV (BK ?_ (bu.sizeOk5 _ _ _ _ _));generalize hO:({ cls:=.type "traceback",dict:=none,data:=.fields ([head,.ref L,.none,Bw L,.none]++(if pl.isEmpty then zo 6 Aj else pl)).toArray }:zb)=O;have he1:h₁.get? e=some oe:=(same e ne).trans he;have he2:(h₁.push O).get? e=some oe:=zI _ he1;have hTe:h₁.objs.size≠e:=Dp (zM he1);refine D7 he2 hd hsz (h _ h₁.objs.size (fun b o hb xo=>?_) (Nat.le_of_eq sz.symm) ?_)
 ·have ju:e≠b:=fun z=>hb (by simp[z])
  have go:∀ u,h₁.get? b=some u->((h₁.push O).update e (EJ (·.setIfInBounds 1 (Ac h₁.objs.size)))).get? b=some u:=fun u q=>by
   rw[C0 _ _ ju];exact zI _ q
  refine⟨fun hnf=>go o ((same b hnf).trans xo),?_⟩;obtain⟨sl,q⟩:=slots b o xo;exact⟨sl,go _ q⟩
 ·have hd3:=D8 hd (·.setIfInBounds 1 (Ac h₁.objs.size))
  refine⟨_,_,O,_,D2 _ he2 (FV hd3),Obj.cls_mapFields _ _,zlx _ _,hd3,by simp[hsz],hTe,?_,by rw[<- hO],?_⟩
  ·rw[C0 _ _ (AD hTe)]
   exact AG h₁ (by rw[<- hO];rfl)
  ·simp
theorem zma{T:gV}
  (e6:A.frames=some (env::outer))(hl:s.heap.FunFrames base (env::outer))(hf:env.frame=some L)(f:Fl s.heap e cls dd T .none)
  (h:∀ h' T',Kp (eM (env::outer)) [e,T] s.heap h'->s.heap.objs.size<=T'->Fl h' e cls dd T' (Bw L)->Q () { s with heap:=h' }):yY M A (Dy (.ref e) env) Q E s:=by
 obtain⟨oe,vs,oT,ts,he,hc,fG,hd,h1,cB,hT,pN,h3⟩:=f;subst hc fG;unfold Dy;simp only[hf];refine yV (CY he hd h1 ?_);rw[if_pos (by simp)];refine yV (CY hT pN h3 ?_);rw[if_neg (by simp[Bw])];refine yV (D7 hT pN (EI.mp h3).1 ?_);have other:∀ b,b≠T->(s.heap.update T (EJ (·.setIfInBounds 3 Aj))).get? b=s.heap.get? b:=fun b hb=>C0 _ _ (AD hb);have nT:∀ b o,s.heap.get? b=some o->(∀ vs,o.data≠.fields vs)->b≠T:=fun b o hb z q=>by
  rw[q,hT]at hb;cases hb;exact z ts pN
 refine zfU e6 (hl.of_keeps fun b o hb z=>⟨o,(other b (nT b o hb z)).trans hb,rfl⟩) hf ((other e (AD cB)).trans he) hd (EI.mp h1).1 fun h' T' k z f'=>h h' T' ?_ ?_ f'
 ·intro b o hb xo
  have hbT:b≠T:=fun q=>hb (by simp[q]);exact k b o (fun q=>hb (by simp at q;simp[q])) ((other b hbT).trans xo)
 ·simpa using z
theorem zmb
  (e6:A.frames=some (env::outer))(hl:s.heap.FunFrames base (env::outer))(hf:env.frame=some L)(f:Fl0 s.heap e cls dd)
  (h:∀ h' T',Kp (eM (env::outer)) [e] s.heap h'->s.heap.objs.size<=T'->Fl h' e cls dd T' (Bw L)->Q () { s with heap:=h' }):yY M A (Dy (.ref e) env) Q E s:=by
 obtain⟨oe,vs,he,hc,fG,hd,h1⟩:=f;subst hc fG;unfold Dy;simp only[hf];refine yV (CY he hd h1 ?_);rw[if_neg (by decide)];exact zfU e6 hl hf he hd (EI.mp h1).1 h
theorem zl9
  (e6:A.frames=some (env::outer))(hl:s.heap.FunFrames base (env::outer))(hf:env.frame=some L)(f:Fl0 s.heap e cls dd)
  (h:∀ h' T',Kp (eM (env::outer)) [e] s.heap h'->s.heap.objs.size<=T'->Fl h' e cls dd T' .none->Q () { s with heap:=h' }):yY M A (leaving env (.ref e)) Q E s:=by
 unfold leaving;refine yV (zmb e6 hl hf f fun h1 T' k z f'=>zbx f' fun h2 k2 f2=>h h2 T' (k.trans k2.all fun c hc=>.inr ?_) z f2);have:c=T':=by simpa using hc
 subst this;exact Cu z
end
end
variable {H₀:Hp}{h₀:zh}{b:gV}{o:HO}{cd:ir}{kI:List gV}{L:List dm}
section
theorem cD.some(x:cD P w H h a o):∃ ob,h.get? a=some ob:=by
 cases o with
 | lst xs=>obtain⟨_,_,_,_,e⟩:=x;exact⟨_,e⟩
 | tup xs=>obtain⟨_,_,_,ob,e,_⟩:=x;exact⟨_,e⟩
 | dK aj=>obtain⟨_,_,_,_,ob,_,_,e,_⟩:=x;exact⟨_,e⟩
 | dT aj=>obtain⟨_,_,_,_,ob,_,_,e,_⟩:=x;exact⟨_,e⟩
 | set S n=>obtain⟨ob,_,_,_,e,_⟩:=x;exact⟨_,e⟩
 | ins C dx fs=>obtain⟨_,_,_,e,_⟩:=x;exact⟨_,e⟩
 | own y=>exact x
 | xd fs=>obtain⟨_,⟨od,_,_,e,_⟩,_⟩:=x;exact⟨_,e⟩
 | met f y=>exact⟨_,x⟩
 | dP lo hi=>obtain⟨_,_,_,e⟩:=x;exact⟨_,e⟩
 | frz ob u=>exact⟨_,x.1⟩
 | tbl ps=>exact⟨_,x⟩
 | ext φ=>exact x.2.1
section
variable {fs ex:List gV}
theorem cu.kp(x:cu P w H h)(k:Kp fs ex h h')(hf:∀ b∈fs,H b=none)(he:∀ b∈ex,H b=none):cu P w H h':=fun a o e =>
 (x a o e).iQ (fun b u hb q=>by
  have nn:H b≠none:=by
   rcases hb with z|z
   ·rw[z,e];simp
   ·rw[z];simp
  exact(k b u (fun z=>nn (he b z)) q).1 fun z=>nn (hf b z)) (fun _ q=>q) fun _ _ q=>q
theorem Un.kp(u:Un fs [] H₀ H h₀ h)(k:Kp kI ex h h')(hx:∀ b∈ex,h₀.get? b=none)(hs:∀ b∈kI,b∈fs\/h₀.get? b=none):Un fs [] H₀ H h₀ h' where
 keep:=fun b o q n hb hz=>(k b o (fun z=>by rw[hx b z]at q;cases q) (u.keep b o q n hb hz)).1 fun z=>by
  rcases hs b z with y|y
  ·exact hb y
  ·rw[q]at y;cases y
 slot:=fun b o q n hb hz=>by
  obtain⟨sl,e⟩:=u.slot b o q n hb hz;obtain⟨_,mR,e'⟩:=k b _ (fun z=>by rw[hx b z]at q;cases q) e;exact⟨mR,e'⟩
 free:=u.free
 there:=fun b o q hz=>by
  obtain⟨o',e⟩:=u.there b o q hz;obtain⟨_,mR,e'⟩:=k b _ (fun z=>by rw[hx b z]at q;cases q) e;exact⟨_,e'⟩
 gv:=u.gv
 gA:=u.gA
 gX:=u.gX
theorem Un.old(u:Un fs [] H₀ H h₀ h)(n:h.get? b=none):h₀.get? b=none:=by
 cases q:h₀.get? b with
 | none=>rfl
 | some o =>
  obtain⟨o',e⟩:=u.there b o q (by simp);rw[n]at e;cases e
theorem cu.free(x:cu P w H h)(n:h.get? b=none):H b=none:=by
 cases q:H b with
 | none=>rfl
 | some o =>
  have:=(x b o q).some;obtain⟨ob,e⟩:=this;rw[n]at e;cases e
end
def cR(P:zu)(w:zq):jg:=fun outer H s E ev s'=>∃(e:gV) (cls:ir) (dd:Option gV) (T:gV) (H':Hp),ev=.ref e/\s'.os=s.os/\BX s'.gens/\Un (eM outer) [] H H' s.heap s'.heap/\cu P w H' s'.heap /\
 Fl s'.heap e cls dd T .none/\H' e=none/\H' T=none/\s.heap.get? e=none/\s.heap.get? T=none/\E cls dd H'
def Throws(X:Cx)(E:XK):Prop:=∀(pins:List (gV×zb)) (σ:St) (H:Hp) (s:kb) (e:gV) (cls:ir) (dd:Option gV),Inv X pins σ H s->Fl0 s.heap e cls dd->H e=none->X.s₀.heap.get? e=none->E cls dd H->X.xe (.ref e) s
theorem va:Passes (cR P w) X E0:=fun _ _ _ _ _ _ _ ⟨_,_,_,_,_,_,_,_,_,_,_,_,_,_,_,q⟩=>q.elim
section
variable {K:yU}{E:XK}
theorem ztY:Throws (fF (cR P w) P w K mg base N qual scope f cd A outer s H E) E:=by
 intro pins σ H1 s1 e cls dd I fl ne le q;have hL:s.heap.objs.size<=s1.heap.objs.size:=I.sz;refine zl9 (base:=base) I.ok.frames I.stack rfl fl fun h' T k z f'=>?_;have le1:s.heap.get? T=none:=Cu (AB hL z);have un:Un (eM outer) [] H H1 s.heap s1.heap:=I.base;refine⟨e,cls,dd,T,H1,rfl,I.os,I.bare,un.kp k (fun b hb=>?_) (fun b hb=>?_),I.aC.kp k I.yG (fun b hb=>?_),f',ne,I.aC.fresh z,le,le1,q⟩
 ·obtain rfl:b=e:=by simpa using hb
  exact le
 ·rcases zS.mp (I.sJ b hb)with y|y
  ·exact .inr (Cu (by rw[y];exact zr _))
  ·exact .inl y
 ·obtain rfl:b=e:=by simpa using hb
  exact ne
theorem fA.okE{st:zy}{sp:Sp}(F:fA K x qual st f fd)(S:gZ N ps (bB st))(len:∀ vs H Q E,sp vs H Q E->vs.length=ps.length)
  (ur:∀(aG:ir) (A:zx) (outer:List zC) (s:kb) (H:Hp) (vs:List V) (Q:VK) (E:XK),aZ k (A.deeper (AX qual (bB st) s.heap.objs.size f aG))->sp vs H Q E ->
   ∃ t,eE (fF (cR P w) P w K mg base N qual (bB st) f aG A outer s H E) (dU st) t/\t { nx:=fun _ H'=>Q .non H',rt:=Q } (start N vs) H):dJ P w K mg base (cR P w) (k+1) f fd ps sp:=by
 obtain⟨oc,od,kV,doc,pm,an,aG,ct,gR,rfl,lk,eZ⟩:=F.ex;exact zfW lk eZ S len fun A outer s H vs Q E hr nN=>ur aG A outer s H vs Q E hr nN
end
abbrev gh:List ir:=[.type "ValueError",.type "Exception",.type "BaseException",.type "object"]
end
variable {p pos':zc}{te:TX}{es:List yW}{i:Nat}{C:gV}{t:TA}
section
def Nw(X:Cx)(pins:List (gV×zb))(b:gV):Prop :=
 X.s₀.heap.get? b=none/\b≠X.env.locals/\b∉X.fs/\(∀ x c,X.env.cells.lookup x=some c->c≠b)/\∀ p∈X.pn++pins,p.1≠b
section
theorem Inv.nw(I:Inv X pins σ H s)(hx:X.ex=[])(n:s.heap.get? b=none):Nw X pins b:=by
 have u:=I.base;rw[hx]at u;refine⟨u.old n,fun z=>?_,fun z=>?_,fun x c e z=>?_,fun p hp z=>?_⟩
 ·obtain⟨m,⟨o,_,_,ho,_⟩,_⟩:=I.loc
  rw[<- z,n]at ho;cases ho
 ·obtain⟨_,o,ho,_⟩:=I.gO.mem z
  rw[n]at ho;cases ho
 ·obtain⟨v,o,ho,_⟩:=I.cell x c e
  rw[z,n]at ho;cases ho
 ·have:=(I.pin p hp).1
  rw[z,n]at this;cases this
theorem Un.kpx{fs ex ex0:List gV}(u:Un fs ex0 H₀ H h₀ h)(k:Kp kI ex h h')(hx:∀ b∈ex,h₀.get? b=none)(hs:∀ b∈kI,b∈fs\/h₀.get? b=none):Un fs ex0 H₀ H h₀ h' where
 keep:=fun b o q n hb hz=>(k b o (fun z=>by rw[hx b z]at q;cases q) (u.keep b o q n hb hz)).1 fun z=>by
  rcases hs b z with y|y
  ·exact hb y
  ·rw[q]at y;cases y
 slot:=fun b o q n hb hz=>by
  obtain⟨sl,e⟩:=u.slot b o q n hb hz;obtain⟨_,mR,e'⟩:=k b _ (fun z=>by rw[hx b z]at q;cases q) e;exact⟨mR,e'⟩
 free:=u.free
 there:=fun b o q hz=>by
  obtain⟨o',e⟩:=u.there b o q hz;obtain⟨_,mR,e'⟩:=k b _ (fun z=>by rw[hx b z]at q;cases q) e;exact⟨_,e'⟩
 gv:=u.gv
 gA:=u.gA
 gX:=u.gX
theorem Inv.kp{h':zh}{ex:List gV}{t':Nat}(I:Inv X pins σ H s)(k:Kp (eM X.stack) ex s.heap h')(hx:∀ b∈ex,H b=none/\Nw X pins b):Inv X pins σ H { s with heap:=h',toks:=t' }:=by
 have cellK:∀ x c,X.env.cells.lookup x=some c->∀ v,s.heap.IsCell c v->h'.IsCell c v:=fun x c e v ⟨o,ho,hd⟩=>by
  obtain⟨_,sl,q⟩:=k c o (fun z=>(hx c z).2.2.2.2.1 x c e rfl) ho;exact⟨_,q,hd⟩
 refine⟨I.ok,I.os,I.bare,I.base.kpx k (fun b hb=>(hx b hb).2.1) (fun b hb=>?_),?_,fun x c e=>?_,I.free,I.fU,fun p hp=>?_,I.aC.kp k I.yG (fun b hb=>(hx b hb).1),I.len⟩
 ·rcases zS.mp (I.sJ b hb)with z|z
  ·exact .inr (Cu (by rw[z];exact I.ok.above))
  ·exact .inl z
 ·obtain⟨m,⟨o,es,ep,ho,r⟩,hl⟩:=I.loc
  obtain⟨_,sl,q⟩:=k _ o (fun z=>(hx _ z).2.2.1 rfl) ho;refine⟨m,⟨_,es,ep,q,r⟩,fun i x v e1 e2 e3=>?_⟩;obtain⟨u,ru,l⟩:=hl i x v e1 e2 e3;refine⟨u,ru,?_⟩;rcases l with l|⟨kd,c,e,z⟩
  ·exact .inl l
  ·exact .inr ⟨kd,c,e,cellK x c e _ z⟩
 ·obtain⟨v,z⟩:=I.cell x c e
  exact⟨v,cellK x c e v z⟩
 ·obtain⟨e,n,ne,nf,d⟩:=I.pin p hp
  refine⟨(k p.1 p.2 (fun z=>(hx p.1 z).2.2.2.2.2 p hp rfl) e).1 fun z=>?_,n,ne,nf,d⟩;rcases zS.mp (I.sJ p.1 z)with y|y
  ·exact ne y
  ·exact nf y
theorem Inv.ziK(I:Inv X pins σ H s)(n:H a=none)(nw:Nw X pins a)(new:cD X.prog X.w (upd H a o) s.heap a o):Inv X pins σ (upd H a o) s:=by
 have ne:∀ b u,H b=some u->b≠a:=fun b u e z=>by rw[z,n]at e;cases e
 refine⟨I.ok,I.os,I.bare,⟨I.base.keep,I.base.slot,fun b ob e hn hx=>?_,I.base.there,fun b xs e=>?_,fun b ob u e=>?_,fun b ps e=>?_⟩,I.loc,I.cell,?_,fun x c e=>?_,fun p hp=>?_,fun b u e=>?_,I.len⟩
 ·rw[aU (fun z=>by rw[z,nw.1]at e;cases e)]
  exact I.base.free b ob e hn hx
 ·have:=I.base.gv b xs e
  rw[aU (ne _ _ this)];exact this
 ·have:=I.base.gA b ob u e
  rw[aU (ne _ _ this)];exact this
 ·obtain⟨more,z⟩:=I.base.gX b ps e
  exact⟨more,by rw[aU (ne _ _ z)];exact z⟩
 ·rw[aU (AD nw.2.1)]
  exact I.free
 ·rw[aU (nw.2.2.2.1 x c e)]
  exact I.fU x c e
 ·obtain⟨g1,g2,g3,g4,g5⟩:=I.pin p hp
  exact⟨g1,by rw[aU (nw.2.2.2.2 p hp)];exact g2,g3,g4,g5⟩
 ·by_cases hb:b=a
  ·subst hb
   rw[bU]at e;cases e;exact new
  ·rw[aU hb]at e
   exact(I.aC b u e).iQ (fun _ _ _ q=>q) (fun c q=>by rw[aU (ne _ _ q)];exact q) fun c xs q=>q.upd (fun _ r=>ne _ _ r) fun _ _ r=>ne _ _ r
end
def XP(X:Cx)(pins:List (gV×zb))(σ:St)(E:XK)(ev:ir)(s':kb):Prop :=
 ∃(e:gV) (cls:ir) (dd:Option gV) (T:gV) (H':Hp),ev=.ref e/\Inv X pins σ H' s'/\Fl s'.heap e cls dd T .none/\H' e=none/\H' T=none/\Nw X pins e/\Nw X pins T/\E cls dd H'
abbrev TX:=St->Hp->VK->XK->Prop
def qH(X:Cx)(e:yW)(t:TX):Prop :=
 ∀(pins:List (gV×zb)) (s:kb) (σ:St) (H:Hp) (Q:VK) (E:XK),Inv X pins σ H s->t σ H Q E->yY (yZ X.prog X.w) X.A (zk e X.env) (EP X pins σ Q) (XP X pins σ E) s
abbrev v8:=Ends->(St->XK)->St->Hp->Prop
def qI(X:Cx)(st:List zy)(t:v8):Prop :=
 ∀(pins:List (gV×zb)) (s:kb) (σ:St) (H:Hp) (D:Ends) (E:St->XK),Inv X pins σ H s->t D E σ H->yY (yZ X.prog X.w) X.A (execs st X.env) (SP X pins D) (fun ev s'=>∃ σ',XP X pins σ' (E σ') ev s') s
section
variable {sp:Sp}{e:yW}
noncomputable def zty(sp:Sp)(t:TA):TX:=fun σ H Q E=>t σ H fun vs H1=>sp vs H1 Q E
theorem zq5(hN:X.N.Nodup)(hi:X.N[i]?=some x)(hx:Loc X.env.scope x)(he:qH X e te)(hs:AW e (some (.Name x pos')) pos.line X.env=pure false:=by rfl)(hf:X.fn x=true\/X.env.scope.names.lookup x=some .local:=by first|exact .inl rfl|exact .inr rfl|assumption) :
  qI X [.Assign [.Name x pos'] e pos] (fun D E σ H=>te σ H (fun v H1=>D.nx (σ.set i (some v)) H1) (E σ)):=by
 intro pins s σ H D E I h;refine Fu (wpAny_Assign_Name (z8 (he pins s σ H _ _ I h) (fun v s1 hv=>?_) fun ev s1 q=>⟨σ,q⟩) hs);obtain⟨y,H1,I1,r1,q1⟩:=hv;exact sL I1 hN hi hx r1 (fun s2 I2=>Dk ⟨_,H1,I2,q1⟩) hf
end
noncomputable def jh(e C:gV)(dd:Option gV):HO:=.ext fun h=>∃ o vs,h.get? e=some o/\o.cls=.ref C/\o.dict=dd/\o.data=.fields vs
theorem zl3{T:gV}(f:Fl h e (.ref C) dd T fl):cD P w H h e (jh e C dd):=by
 obtain⟨oe,vs,oT,ts,he,hc,fG,hd,_⟩:=f;refine⟨⟨oe,vs,he,hc,fG,hd⟩,⟨oe,he⟩,fun h1 h2 ⟨o,us,g1,g2⟩ k=>⟨o,us,k o g1,g2⟩⟩
noncomputable def t8(X:Cx)(e:gV):Cx:={ X with A:=X.A.mark (some (.ref e)),calm:=false,xe:=fun _ _=>False }
theorem Inv.toH(I:Inv X pins σ H s)(e:gV):Inv (t8 X e) pins σ H s :=
 ⟨⟨I.ok.mod,I.ok.kind,I.ok.glob,I.ok.blt,I.ok.above,I.ok.inj,I.ok.has,I.ok.nv,(fun z=>(by cases z)),I.ok.frames,I.ok.qx,I.ok.pK,I.ok.bs,I.ok.jO,I.ok.nY,I.ok.nH,I.ok.gO,I.ok.kH,I.ok.tree,I.ok.sk⟩,I.os,I.bare,I.base,I.loc,I.cell,I.free,I.fU,I.pin,I.aC,I.len⟩
theorem Inv.xX(ok:X.Ok)(I:Inv (t8 X e) pins σ H s):Inv X pins σ H s :=
 ⟨ok,I.os,I.bare,I.base,I.loc,I.cell,I.free,I.fU,I.pin,I.aC,I.len⟩
structure lH(K:yU)(C:gV):Prop where
 ty:D9 K (.ref C)=some (.type "type")
 cl:(A1 K C).isSome=true
 be:BR K (.ref C) (.type "BaseException")=some true
theorem zl4{K:yU}{D:gV}{b:Bool}{Q:Bool->kb->Prop}(KX:K.In s.heap)(c:lH K C)(he:s.heap.get? e=some oe)(hc:oe.cls=.ref D)
  (hs:BR K (.ref D) (.ref C)=some b)(hq:Q b s):yY M A (excMatches (.ref e) (.ref C)) Q E s:=by
 have L1:Cg M s.heap (typeOf (.ref C)) (.type "type"):=PySem.W.looks_typeIn KX c.ty;have L2:Cg M s.heap (isSubtype (.ref C) (.type "BaseException")) true:=FW KX c.be;have L3:Cg M s.heap (isSubtype (.ref D) (.ref C)) b:=FW KX hs;have L4:Cg M s.heap (isType (.ref C)) true:=by
  have cl:=c.cl;unfold A1 at cl
  split at cl
  ·rename_i ho
   intro A' Q' E' s' k q;unfold isType loadHead;exact yV (EK (k _ _ (KX _ _ ho)) (zi q))
  ·cases cl
 have L5:Cg M s.heap (isExcClass (.ref C)) true:=by
  intro A' Q' E' s' k q;unfold isExcClass;refine yV (L4 _ _ _ _ k ?_);rw[if_pos rfl];exact L2 _ _ _ _ k q
 have id:∀ b o,s.heap.get? b=some o->s.heap.get? b=some o:=fun _ _ z=>z;unfold excMatches EL;refine yV (yV (L1 _ _ _ _ id ?_));rw[tc_notTuple];refine zi ?_;rw[if_neg AJ];refine yV (zi ?_);simp only[FU,FX];refine yV (yV (yV (L5 _ _ _ _ id ?_)));simp only[Aa,zm,if_false];refine zi ?_;refine zi ?_;have L6:Cg M s.heap (typeOf (.ref e)) (.ref D):=by
  intro A' Q' E' s' k q;unfold typeOf;refine yV (EK (k _ _ he) (zi ?_));rw[hc];exact q
 refine yV (L6 _ _ _ _ id ?_);refine yV (yV (yV (L3 _ _ _ _ id ?_)));cases b with
 | true=>exact zi (zi (zi hq))
 | false=>exact zi (zi (zi hq))
end
variable {j:Nat}{ts:TS}{te:TE}{b₀:zy}
section
noncomputable def zlV(j:Nat)(D:Ends):Ends:={ nx:=fun σ H=>D.nx (σ.set j none) H,rt:=D.rt,bk:=fun σ H=>D.bk (σ.set j none) H,ct:=fun σ H=>D.ct (σ.set j none) H }
def ztC(K:yU)(C:gV)(j:Nat)(ts:TS)(D:Ends):St->XK:=fun σ cls dd H=>∃ B,cls=.ref B/\BR K (.ref B) (.ref C)=some true /\
 ∀ e,H e=none->ts (zlV j D) (σ.set j (some (.ref e))) (upd H e (jh e B dd))
section
variable {cn n:dm}{body zit:List zy}{cp hp:zc}{tb:v8}
theorem name_goes(I:Inv X pins σ H s)(hN:X.N.Nodup)(hj:X.N[j]?=some n)(hl:X.env.scope.names.lookup n=some .local)
  (h:∀ s',Inv X pins (σ.set j none) H s'->Q () s'):yY (yZ X.prog X.w) X.A (do DT X.env n .none;unbindBehindTheSuite X.env n hp) Q E s:=by
 obtain⟨m,hn,lk⟩:=I.loc;have hk:(X.env.scope.kind==.class||(X.env.scope.kind==.module&&X.env.locals != X.env.globals))=false:=by rw[I.ok.kind];rfl
 refine wpAny_nameGoes_keeps hl hn hk fun h' v rH sb=>h _ ?_;have k:∀ b o,b≠X.env.locals->s.heap.get? b=some o->h'.get? b=some o:=fun b o hb e=>sb.extBut b o hb e;have sd:∀ b o,X.s₀.heap.get? b=some o->b≠X.env.locals:=fun b o e=>Ao (AA (zM e) I.ok.above);obtain⟨o',nG,ue,ig,r'⟩:=rH;refine⟨I.ok,I.os,I.bare,⟨fun b o e nn hb hx=>k _ _ (sd b o e) (I.base.keep b o e nn hb hx),fun b o e nn hb hx=>?_,I.base.free,fun b o e hx=>?_,I.base.gv,I.base.gA,I.base.gX⟩,⟨_,⟨o',nG,ue,ig,r'⟩,fun i x u e1 e2 e3=>?_⟩,fun x c e=>?_,I.free,I.fU,fun p hp=>?_,fun b u e=>?_,?_⟩
 ·obtain⟨sl,z⟩:=I.base.slot b o e nn hb hx
  exact⟨sl,k _ _ (sd b o e) z⟩
 ·obtain⟨o2,z⟩:=I.base.there b o e hx
  exact⟨o2,k _ _ (sd b o e) z⟩
 ·by_cases eh:i=j
  ·subst eh
   rw[List.getElem?_set]at e2
   split at e2
   ·split at e2 <;> cases e2
   ·exact absurd rfl (by assumption)
  ·rw[z9 (AD eh)]at e2
   obtain⟨uu,ru,l⟩:=lk i x u e1 e2 e3;refine⟨uu,ru,?_⟩;have hxn:x≠n:=fun z=>eh (zcS hN (by rw[<- z];exact e1) hj);rcases l with⟨l1,l2⟩|⟨kd,c,ec,o3,z1,z2⟩
   ·exact .inl ⟨l1,by show(if x=n then v else m x)=some uu;rw[if_neg hxn];exact l2⟩
   ·exact .inr ⟨kd,c,ec,o3,k _ _ (I.lQ x c ec) z1,z2⟩
 ·obtain⟨v,o3,z1,z2⟩:=I.cell x c e
  exact⟨v,o3,k _ _ (I.lQ x c e) z1,z2⟩
 ·obtain⟨g1,g2,g3,g4,g5⟩:=I.pin p hp
  exact⟨k _ _ g3 g1,g2,g3,g4,g5⟩
 ·refine(I.aC b u e).iQ (fun c vv hc q=>k c vv ?_ q) (fun _ q=>q) fun _ _ q=>q
  intro z;rcases hc with y|y
  ·rw[<- y,z,I.free]at e;cases e
  ·rw[z,I.free]at y;cases y
 ·rw[Bp];exact I.len
theorem zqW(hc:lH X.K C)(cq:X.stack=X.env::X.outer)(e6:X.env.frame=some X.env.locals)(hb:qI X body tb)(hg:Gl X cn)(hm:X.mg cn=some (.ref C))(hN:X.N.Nodup)(hj:X.N[j]?=some n)
  (hl:X.env.scope.names.lookup n=some .local)(hs:∀ e,eE (t8 X e) (b₀::zit) ts)(hd:(cn==("__debug__":dm))=false:=by decide) :
  PS X (.Try body [.ExceptHandler (some (.Name cn cp)) (some n) (b₀::zit) hp] [] [] pos) (fun D σ H=>tb D (ztC X.K C j ts D) σ H):=by
 intro pins s σ H D I h;refine wpAny_Try_except (z8 (hb pins s σ H D _ I h) (fun f s1 q=>?_) fun ev s1 q=>?_)
 ·cases f with
  | next=>exact Dk q
  | ret v=>exact q
  | brk=>exact q
  | cont=>exact q
 ·obtain⟨σ1,e,cls,dd,T,H1,rfl,I1,fl,ne,nT,we,wT,B,rfl,zcm,hsu⟩:=q
  have zmP:X.A.frames=some (X.env::X.outer):=by rw[<- cq];exact I1.ok.frames
  have fun1:s1.heap.FunFrames X.base (X.env::X.outer):=by rw[<- cq];exact I1.stack
  refine zma (base:=X.base) zmP fun1 e6 fl fun h2 T2 k2 z2 f2=>zbx f2 fun h3 k3 f3=>?_;have oT2:s1.heap.get? T2=none:=Cu z2;have k23:Kp (eM X.stack) [e,T] s1.heap h3:=by
   rw[cq];exact k2.trans k3.all fun c kK=>.inr (by have e9:c=T2:=(by simpa using kK);rw[e9];exact oT2)
  have I3:Inv X pins σ1 H1 { s1 with heap:=h3,toks:=s1.toks }:=I1.kp (t':=s1.toks) k23 fun b uq=>by
   rcases (by simpa using uq:b=e\/b=T)with y|y
   ·rw[y];exact⟨ne,we⟩
   ·rw[y];exact⟨nT,wT⟩
  obtain⟨oe,vs,oT,ts',he,pM,fG,hdt,_⟩:=id f3;refine wpAny_handleBy_cons (codeAny_handlers_test (rT (I3.toH e) hg hm (zl4 (K:=X.K) I3.eO hc he pM zcm ?_) hd)) (by intro q;cases q);dsimp only;refine codeAny_handlers_suite_as (zbx f3 fun h4 k4 f4=>?_);have I4:Inv X pins σ1 H1 { s1 with heap:=h4,toks:=s1.toks }:=by
   have nT2:Nw X pins T2:=by
    have i1:=I1;refine⟨?_,?_,?_,?_,?_⟩
    ·cases q:X.s₀.heap.get? T2 with
     | none=>rfl
     | some o =>
      have:=zM q;exact absurd (AA this (AB i1.sz z2)) (Dh _)
    ·exact Dp (AA i1.lt z2)
    ·exact i1.zhp z2
    ·intro x c ec z
     obtain⟨v,o,ho,_⟩:=i1.cell x c ec;rw[z,oT2]at ho;cases ho
    ·intro p hpp z
     have:=(i1.pin p hpp).1;rw[z,oT2]at this;cases this
   refine I3.kp (h':=h4) (ex:=[T2]) (t':=s1.toks) k4.all fun b uq=>?_;obtain rfl:b=T2:=by simpa using uq
   exact⟨I1.aC.fresh z2,nT2⟩
  have I5:Inv X pins σ1 (upd H1 e (jh e B dd)) { s1 with heap:=h4,toks:=s1.toks }:=I4.ziK ne we (zl3 f4);refine sL I5 hN hj (.inl hl) (v:=.ref e) rfl (fun s6 I6=>?_) (.inr hl);refine z8 (hs e pins s6 _ _ _ (I6.toH e) (hsu e ne)) (fun f s7 q=>?_) fun _ _ z=>z.elim;cases f with
  | next =>
   obtain⟨σ7,H7,I7,q7⟩:=q;exact name_goes (I7.xX I1.ok) hN hj hl fun s8 I8=>⟨_,H7,I8,q7⟩
  | brk =>
   obtain⟨σ7,H7,I7,q7⟩:=q;exact name_goes (I7.xX I1.ok) hN hj hl fun s8 I8=>⟨_,H7,I8,q7⟩
  | cont =>
   obtain⟨σ7,H7,I7,q7⟩:=q;exact name_goes (I7.xX I1.ok) hN hj hl fun s8 I8=>⟨_,H7,I8,q7⟩
  | ret v =>
   obtain⟨x7,σ7,H7,I7,r7,q7⟩:=q;exact name_goes (I7.xX I1.ok) hN hj hl fun s8 I8=>⟨x7,_,H7,I8,r7,q7⟩
end
end
variable {g:Array GenState}{zhm:ir}{ox:zb}{d:Drawn}{od:Option zb}{prog:zu}{tk:zQ}
section
structure iS(K:yU)(D:gV):Prop where
 ga:Bl K (.ref D) "__getattribute__"=some (some (.builtin "BaseException.__getattribute__"))
 gn:Bl K (.ref D) "__getattr__"=some none
 cl:Bl K (.ref D) "__class__"=some (some (.builtin "object.__class__"))
 be:BR K (.ref D) (.type "BaseException")=some true
 ob:ER K D (.type "object")=some true
 is:(A1 K D).isSome=true
section
variable {t:Nat}{os:OsState}{K:yU}{x D:gV}
theorem zi7(X:K.In h)(c:iS K D)(I:Ci h x ox D od)(hq:Q () ⟨h,g,d,t,os⟩) :
  yY M A (checkBuiltinCall "BaseException.__getattribute__" ⟨[.ref x,zhm],[]⟩) Q E ⟨h,g,d,t,os⟩:=by
 have hk:builtinKind "BaseException.__getattribute__"=some .slot:=by decide +kernel
 have zm0:splitId "BaseException.__getattribute__"=some ("BaseException","__getattribute__"):=by decide +kernel
 have L0:=I.type (M:=M);have L1:Cg M h (isSubtype (.ref D) (.type "BaseException")) true:=FW X c.be;have ha:=F.args_bexc_ga (.ref x) zhm;simp only[checkBuiltinCall,hk,zm0];unfold EL;refine yV (yV (L0.at (L1.at ?_)))
 repeat (any_goals (first|assumption|wp_step))
theorem zuK{Q:Fin->kb->Prop}(X:K.In h)(c:iS K D)(I:Ci h x ox D od)(hq:Q (.done (.ret (.ref D))) ⟨h,g,d,t,os⟩) :
  yY (yZ prog w) A (Bo.«object.__getattribute__» ⟨[.ref x,.str "__class__" tk],[]⟩) Q E ⟨h,g,d,t,os⟩:=by
 have L0:=I.type (M:=yZ prog w);have L1:=DA (M:=yZ prog w) X c.cl;have hT5:(⟨h,g,d,t,os⟩:kb).TypeIs (.builtin "object.__class__") "getset_descriptor":=F.typeOf_object_class;have f5:=F.typeOf_object_class;have f6:=F.slot_gs_get.lookup;have f7:=F.slot_gs_set.lookup
 repeat (any_goals (first|assumption|with_reducible refine L0.at ?_|with_reducible refine L1.at ?_|wp_step))
 refine PySem.W.class_get (s:=⟨h,g,d,t,os⟩) X I c.ob ?_;exact zi hq
theorem zuJ{Q:ir->kb->Prop}(X:K.In h)(c:iS K D)(I:Ci h x ox D od)(hq:Q (.ref D) ⟨h,g,d,t,os⟩) :
  yY (yZ prog w) A (getAttrBy (.ref x) (.str "__class__" tk) false) Q E ⟨h,g,d,t,os⟩:=by
 have L0:=I.type (M:=yZ prog w);have L1:=DA (M:=yZ prog w) X c.ga;have L2:=DA (M:=yZ prog w) X c.gn;have f3:=EV.ga.bind (.ref x);have hx2:(Ea "BaseException.__getattribute__" == Ea "object.__getattribute__")=false:=by decide +kernel
 repeat (any_goals (first|assumption|with_reducible refine L0.at ?_|with_reducible refine L1.at ?_|with_reducible refine L2.at ?_|wp_step))
 refine FY EV.ga.plain F.entry_bexc_ga (zi7 X c I (zuK X c I ?_));exact G1 rfl hq
theorem zuI{Q:Option ir->kb->Prop}(X:K.In h)(c:iS K D)(I:Ci h x ox D od)(hq:Q (some (.ref D)) ⟨h,g,d,t+1,os⟩) :
  yY (yZ prog w) A (getAttr? (.ref x) "__class__") Q E ⟨h,g,d,t,os⟩:=by
 unfold getAttr? getAttrBy?
 repeat (any_goals (first|assumption|with_reducible apply zuJ X c I|wp_step))
end
theorem zoE{K:yU}{x D:gV}(c:iS K D):PySem.W.KitX K (.ref x) (.ref D) (fun h=>∃ ox od,Ci h x ox D od) where
 ty:=fun _ _ _ ⟨_,_,I⟩=>I.type
 it:=fun _ _ X _=>by
  have cl:=c.is;unfold A1 at cl
  split at cl
  ·rename_i ho
   intro A' Q' E' s' k q;unfold isType loadHead;exact yV (EK (k _ _ (X _ _ ho)) (zi q))
  ·cases cl
 ne:=fun h tp dd its n sl X e=>by
  have cl:=c.is;unfold A1 at cl
  split at cl
  ·rename_i ho
   have cB:D≠tp:=fun z=>by
    have:=X _ _ ho;rw[z,e]at this;cases this
   simpa using cB
  ·cases cl
 ca:=fun{prog w A E Q s} X ⟨_,_,I⟩ hq=>by
  obtain⟨h,g,d,t,os⟩:=s;exact zuI X c I hq
theorem zm7(I:Inv X pins σ H s)(h:H e=some (jh e C dd))(hd:∀ dx,dd=some dx->∃ fs,H dx=some (.xd fs)):∃ ox od,Ci s.heap e ox C od:=by
 obtain⟨⟨o,vs,ho,hc,fG,hdt⟩,_⟩:=(show cD X.prog X.w H s.heap e (jh e C dd) from I.aC e _ h);cases dd with
 | none=>exact⟨o,none,ho,hc,by unfold EW;rw[hdt],by rw[fG];trivial⟩
 | some dx =>
  obtain⟨fs,hx⟩:=hd dx rfl;obtain⟨od,e2⟩:=(I.aC dx _ hx).some;exact⟨o,some od,ho,hc,by unfold EW;rw[hdt],by rw[fG];exact e2⟩
def zss(K:yU):List V->Hp->VK->Prop:=fun xs H Q=>∃ e y C dd b,xs=[.ref e,y]/\nA y≠.none/\H e=some (jh e C dd)/\(∀ dx,dd=some dx->∃ fs,H dx=some (.xd fs))/\iS K C/\zT K (.ref C) (nA y)=some b/\Q (.bl b) H
theorem zkI:gL X (.builtin "isinstance") (zss X.K):=by
 intro pins s σ H xs us Q I r h;obtain⟨e,y,C,dd,b,rfl,hy,he,hd,c,k,q⟩:=h;obtain⟨u,v,rfl,ru,rv⟩:=vals2 r;cases zfa rv hy;cases (show u=Ac e from ru);exact C4 (zoE c) I.eO (zm7 I he hd) k (fun z=>nomatch z) fun tk=>⟨.bl b,H,I.tok tk,rfl,q⟩
end
variable {e:yW}{σ:List (Option V)}
section
def aP(K:yU)(mg:dm->Option ir)(x:dm)(st:zy):Prop:=∃(f:gV) (fd:Ah),mg x=some (.ref f)/\fA K x x st f fd
def Callee(P:zu)(w:zq)(K:yU)(mg:dm->Option ir)(base:zh)(x:dm)(k:Nat)(ps:List dm)(sp:Sp):Prop :=
 ∃(f:gV) (fd:Ah),mg x=some (.ref f)/\CV K (.ref f)=true/\Binds K fd ps []/\dJ P w K mg base (cR P w) k f fd ps sp
section
variable {sp:Sp}{E:XK}
theorem vc(c:Callee X.prog X.w X.K X.mg X.base x k ps sp)(hr:aZ j X.A)(hg:Gl X x)(hx:Passes (cR X.prog X.w) X E)(ha:PA X (e::es) t)(hj:k<=j:=by decide)(bN:(x==("__debug__":dm))=false:=by decide)
  (he:yX (e::es) X.env=(false,zk e X.env)::yX es X.env:=by rfl) (bu:(zK pos (yX es X.env)).any (·.1)=false:=by rfl):PE X (.Call (.Name x p) (e::es) [] pos) (zdA sp [] E t):=by
 obtain⟨f,fd,hm,hk,hb,F⟩:=c;exact zqg F (hr.mono hj) hg hm hk hb .nil hx ha bN he bu
end
end
section
end
section
end
variable {l:gV}
section
theorem aA.upd(h:H l=none):aA H (upd H l o):=fun b u e=>by rw[aU (pY e h)];exact e
end
section
end
section
end
variable {fp:List gV}{p0:zc}{xs:List V}{H':Hp}{t':Nat}{ta:TA}{us:List ir}
section
section
theorem Inv.yL(I:Inv X pins σ H s)(k:∀ b o,b∉fp->s.heap.get? b=some o->h'.get? b=some o)(hf:∀ b∈fp,ft X pins H b):Inv X pins σ H { s with heap:=h',toks:=t' }:=by
 have uX:∀ b u,H b=some u->b∉fp:=fun b u e z=>by
  have:=(hf b z).1;rw[e]at this;cases this
 have hL:X.env.locals∉fp:=fun z=>(hf _ z).2.1 rfl;refine I.step (g':=s.gens) (d':=s.drawn) (ch:=fp) (fun b hb=>?_) (fun b o _ _ hc e _=>k b o hc e) (fun b o _ _ hc e _=>⟨o.slots,k b o hc e⟩) (fun _ _ _ _ n=>n)
  (fun b o hc e=>⟨o,k b o hc e⟩) (fun _ _ e=>e) (fun _ _ _ e=>e) (fun b ps e=>⟨#[],by rw[e];simp⟩) (fun m hm=>?_) (fun b u e=>?_) I.bare
 ·obtain⟨_,h1,_,h3,h4,h5⟩:=hf b hb
  exact⟨h3,h1,h4,h5⟩
 ·obtain⟨o,es,ep,ho,r⟩:=hm
  exact⟨o,es,ep,k _ o hL ho,r⟩
 ·refine(I.aC b u e).iQ (fun c v hc q=>k c v ?_ q) (fun _ q=>q) fun _ _ q=>q
  rcases hc with z|z
  ·rw[z];exact uX b u e
  ·exact uX c _ z
theorem Inv.zue(I:Inv X pins σ H s)(k:∀ b o,b∉fp->s.heap.get? b=some o->h'.get? b=some o)(hf:∀ b∈fp,ft X pins H b)(xq:∀ b∈fp,b<s.heap.objs.size)
  (ht:h'.get? s.heap.objs.size=some { cls:=.type "tuple",data:=.seq us.toArray n }) (r:Vals xs us) (hz:xs.length<=zt) :
  Inv X pins σ (upd H s.heap.objs.size (.tup xs)) { s with heap:=h',toks:=t' }:=by
 have I1:Inv X pins σ (upd H s.heap.objs.size (.tup xs)) { s with heap:=s.heap.push { cls:=.type "tuple",data:=.seq us.toArray n },toks:=s.toks } :=
  I.laid (t':=s.toks) (fun b u e=>zI _ e) (zr _) ⟨hz,us,r,⟨_,AG _ rfl,rfl,_,rfl⟩⟩
 refine Inv.yL (s:={ s with heap:=s.heap.push { cls:=.type "tuple",data:=.seq us.toArray n },toks:=s.toks }) (t':=t') (fp:=fp) I1 (fun b o hb e=>?_) fun b hb=>⟨by rw[aU (Ao (xq b hb))];exact(hf b hb).1,(hf b hb).2⟩
 by_cases hbs:b=s.heap.objs.size
 ·subst hbs
  have e':(s.heap.push { cls:=.type "tuple",data:=.seq us.toArray n }).get? s.heap.objs.size=some o:=e;rw[AG _ rfl]at e';cases e';exact ht
 ·refine k b o hb ?_
  have e':(s.heap.push { cls:=.type "tuple",data:=.seq us.toArray n }).get? b=some o:=e;have lt:b<(s.heap.push { cls:=.type "tuple",data:=.seq us.toArray n }).objs.size:=zM e';rw[DB]at lt;have lt':b<s.heap.objs.size:=Nat.lt_of_le_of_ne (Nat.le_of_lt_succ lt) hbs;unfold Heap.get? at e' ⊢;unfold Heap.push at e';simp only at e';rw[Array.getElem?_push_lt lt']at e';rw[EX lt'];exact e'
end
def Ite(K:yU)(a:gV):It :=
 ⟨fun i H=>∃ xs x,cw K H a xs/\xs[i]?=some x,fun i H x H'=>∃ t v,x=.ref t/\H t=none/\H'=upd H t (.tup [.int i,v])/\∀ xs,cw K H a xs->xs[i]?=some v,fun i H=>∃ xs,cw K H a xs/\xs.length<=i⟩
theorem zt8{K:yU}(e it a:gV)(cB:e≠it):Turn P w K (.Tuple es k pos) (Ite K a) [e,it] e (fun i h=>(∃ old,IsEnum h e it i old)/\h.IsListIter it a i) where
 mem:=by simp
 obj:=fun i h st c hc=>by
  obtain⟨⟨old,h1⟩,⟨o4,h4,_,d4⟩⟩:=st;simp only[zS,CB,or_false]at hc;rcases hc with rfl|rfl
  ·exact⟨_,h1,fun v z=>by cases z⟩
  ·exact⟨_,h4,fun v z=>by rw[d4]at z;cases z⟩
 keep:=fun i h h' st k=>by
  obtain⟨⟨old,h1⟩,h4⟩:=st;exact⟨⟨old,k _ (by simp) _ h1⟩,h4.at fun o e=>k _ (by simp) o e⟩
 item:=by
  intro X hP hw hK hc i pins s σ H E I hf st hg;subst hP hw hK;obtain⟨xs,x,xB,hx⟩:=hg;obtain⟨itx,yy,px,_⟩:=I.list xB;obtain⟨ux,hux,rux⟩:=yy.get hx;obtain⟨⟨old,h1⟩,h4⟩:=id st;have lts:∀ c∈[e,it],c<s.heap.objs.size:=fun c hc=>by
   obtain⟨o4,e4,_⟩:=id h4;simp only[zS,CB,or_false]at hc;rcases hc with rfl|rfl
   ·exact zM h1
   ·exact zM e4
  refine wpAny_pyNext_enum_item h1 h4 px.isList (by simpa using hux) cB fun h' a1 a3 a5 a6 hk=>?_;refine⟨_,rfl,wpAny_letOwnedTupleGo_enum a1 fun xm b1 sb=>?_⟩;have zlt:=lts e (by simp);have k2:∀ c o,c∉[e,it]->s.heap.get? c=some o->xm.get? c=some o:=fun c o hc g=>by
   simp only[zS,CB,or_false,not_or]at hc;exact sb.extBut c o hc.1 (hk c o hc.1 hc.2 g)
  have ht:xm.get? s.heap.objs.size=some { cls:=.type "tuple",data:=.seq #[.int i s.toks,ux] }:=sb.extBut _ _ (Dp zlt) a5;refine⟨.ref s.heap.objs.size,_,Inv.zue (s:=s) (h':=xm) (t':=s.toks+1) (fp:=[e,it]) I (xs:=[.int i,x]) (us:=[.int i s.toks,ux]) k2 hf lts ht (.cons ⟨_,rfl⟩ (.cons rux .nil)) (by rw[AR];show 2<=16777216;decide),rfl,
   ⟨_,x,rfl,I.aC.fresh (zr _),rfl,fun zs hz=>by rw[I.zgV hz xB];exact hx⟩,?_,fun c hc=>?_⟩
  ·exact⟨⟨_,b1⟩,a3.extBut sb.extBut (AD cB)⟩
  ·rw[aU (Ao (lts c hc))]
   exact(hf c hc).1
 done:=by
  intro X hP hw hK hc i pins s σ H E I hf st hg;subst hP hw hK;obtain⟨xs,xB,zuQ⟩:=hg;obtain⟨itx,yy,px,_⟩:=I.list xB;obtain⟨⟨old,h1⟩,h4⟩:=id st;have lx:=yy.length;refine wpAny_pyNext_enum_end (I.ok.hd hc) h1 h4 px.isList (by simp;omega) fun h' hk=>⟨rfl,I.yL (t':=s.toks) (fun c o hc g=>?_) hf⟩;simp only[zS,CB,or_false,not_or]at hc;exact hk c o hc.2 g
 self:=fun _ _ _ _ _ st h=>by
  obtain⟨⟨old,h1⟩,_⟩:=st;exact wpAny_pyIter_enum h1 h
section
def zm2(K:yU)(ta:TA):TI:=fun σ H R=>ta σ H fun vs H1=>∃ a,vs=[.ref a]/\(∃ xs,cw K H1 a xs)/\R (Ite K a) H1
theorem zqD{a:yW}(hg:Gl X "enumerate")(hm:X.mg "enumerate"=none)(ha:PA X [a] ta)(hs:yX [a] X.env=[(false,zk a X.env)]:=by rfl) :
  PI X (.Tuple es k p0) (.Call (.Name "enumerate" p) [a] [] pos) (zm2 X.K ta):=by
 intro pins s σ H R I h;refine Call_ (rQ I hg hm (by decide +kernel:Ad "enumerate"=some (.type "enumerate")) (Fx (aT (ha pos pins s σ H _ I h) fun us s1 ⟨vs,H1,I1,r1,q1⟩=>?_) hs rfl));obtain⟨l1,e,⟨xs,hx⟩,q⟩:=q1;subst e;cases r1 with
 | cons r rr =>
  cases rr;cases r;obtain⟨itx,yy,px,_⟩:=I1.list hx;refine call_enumerate_list px.isList fun h' g1 g4 g6 hk=>?_;refine wpAny_pyIter_enum g1 ⟨_,[s1.heap.objs.size+1,s1.heap.objs.size],_,_,H1,rfl,I1.kept (t':=s1.toks) hk,zt8 _ _ l1 (Nat.succ_ne_self _),⟨⟨_,g1⟩,g4⟩,fun c hc=>?_,q⟩;have jV:s1.heap.objs.size<=c:=by
   simp only[zS,CB,or_false]at hc;rcases hc with rfl|rfl <;> first|exact Nat.le_add_right _ _|exact zr _
  exact I1.lX jV (I1.aC.fresh jV)
theorem zkb{bs:List Bool}:∀{us:List ir},Vals (bs.map V.bl) us->us=bs.map BI:=by
 induction bs with
 | nil=>intro us h;cases h;rfl
 | cons b r ih =>
  intro us h;cases h with
  | cons h1 h2 =>
   have:=ih h2;cases h1;rw[this]
   rfl
theorem zkG(hc:X.calm=true):gL X (.builtin "all") (fun xs H Q=>∃(a:gV) (bs:List Bool),xs=[.ref a]/\cw X.K H a (bs.map V.bl)/\Q (.bl (bs.all id)) H):=by
 intro pins s σ H xs us Q I r h;obtain⟨a,bs,rfl,hq,q⟩:=h;obtain⟨u,rfl,rx⟩:=vals1 r;cases rx;obtain⟨its,rv,p,hz⟩:=I.list hq;have e:=zkb rv;subst e;have cB:a≠s.heap.objs.size:=by
  obtain⟨o,eo,_⟩:=p.isList;exact Ao (zM eo)
 have W:=Walks.list (prog:=X.prog) (w:=X.w) (A:=X.A.in1) (show X.A.in1.handled=none from I.ok.hd hc) s.heap.objs.size a cB (bs.map BI).toArray;refine call_all_walk (wpAny_pyIter_list p.isList ⟨_,_,_,_,_,_,fun i=>bs.getD i true,rfl,W,⟨⟨_,AG _ rfl,rfl,rfl⟩,p.isList.push _⟩,?_,fun h' tk hk=>⟨.bl (bs.all id),H,?_,?_,q⟩⟩)
 ·intro i v s' Q' E' hP hQ
  have hP':(bs.map BI)[i]?=some v:=by simpa using hP
  rw[AH]at hP';cases e:bs[i]? with
  | none=>rw[e]at hP';cases hP'
  | some b =>
   rw[e]at hP';cases hP';have:bs.getD i true=b:=by simp[EY,e]
   have hQ2:Q' (bs.getD i true) s':=hQ;rw[this]at hQ2;exact zi hQ2
 ·refine Inv.yL (s:={ s with heap:=s.heap.push { cls:=.type "list_iterator",data:=.fields #[.ref a,.int 0 0] },toks:=s.toks }) (t':=tk) (fp:=[s.heap.objs.size]) (I.kept (t':=s.toks) fun b o e=>zI _ e) (fun b o hb e=>hk b o hb e) fun b hb=>?_
  have e:b=s.heap.objs.size:=by simpa using hb
  subst e;exact I.lX (zr _) (I.aC.fresh (zr _))
 ·show BI _=BI _
  congr 1
  simp only[zW,zL];rw[Ec,A3,A3]
  constructor
  ·intro h b hb
   obtain⟨i,hi,e⟩:=List.getElem_of_mem hb;have:=h i (DR.mpr hi);simpa[EY,hi,e] using this
  ·intro h i hi
   have hi':=DR.mp hi;have:=h bs[i] (EH hi');simpa[EY,hi'] using this
end
end
variable {ix:List Nat}{J:It}{globals:gV}{g:TG}{use:Option (ir->Sem Unit)}{gs:List FZ}{elt iter tg:yW}{o0:HO}{d m0:Nat}{W:Nat->Nat->Hp->Prop}{Post:ir->kb->Prop}{tc:TT}{Q:zC->kb->Prop}{ifs:List yW}{m:dm->Option ir}{tn:Nat->zh->Prop}{tu:TU}{outer:zC}{k:Key}{ob:zb}{σ:St}{cl:List (dm×gV)}{em:Em}{wi:TI}
section
theorem pH:∀(names:List (dm×A7)) (n:Nat) (acc:List (dm×gV)),BL n names acc=BL n names []++acc
 | [],n,acc=>rfl
 | (x,k)::r,n,acc=>by
  unfold BL
  split
  ·rw[pH r (n+1) ((x,n)::acc),pH r (n+1) [(x,n)]]
   simp
  ·exact pH r n acc
theorem wI:∀(names:List (dm×A7)) (n:Nat) (p:dm×gV),p∈BL n names []->(p.1,Ba)∈names
 | [],n,p,h=>nomatch h
 | (x,k)::r,n,p,h=>by
  unfold BL at h
  split at h
  ·rename_i hk
   rw[pH]at h;rcases AI.mp h with h|h
   ·exact z0 _ (wI r _ p h)
   ·have e:p=(x,n):=by simpa using h
    have hk':k=.cell:=by simpa using hk
    subst e hk';exact Au ..
  ·exact z0 _ (wI r _ p h)
theorem zaN{x:dm}:∀(names:List (dm×A7)) (n:Nat),(x,Ba)∈names->∃ c,(x,c)∈BL n names []
 | (y,k)::r,n,h=>by
  unfold BL;rcases zS.mp h with e|h
  ·cases e
   rw[if_pos (by rfl),pH];exact⟨n,AK _ (Cj.mpr rfl)⟩
  ·split
   ·obtain⟨c,hc⟩:=zaN r (n+1) h
    exact⟨c,by rw[pH];exact CN _ hc⟩
   ·exact zaN r n h
theorem zgY{α:Type}{x:dm}{c:α}:∀{l m:List (dm×α)},(l++m).lookup x=some c->l.lookup x=some c\/(l.lookup x=none/\m.lookup x=some c)
 | [],m,h=>.inr ⟨rfl,h⟩
 | (y,b)::r,m,h=>by
  rw[Ap,zJ]at h;rw[zJ]
  split at h
  ·exact .inl h
  ·exact zgY h
theorem zgZ{α:Type}{x:dm}{c:α}:∀{l m:List (dm×α)},m.lookup x=some c->∃ d,(l++m).lookup x=some d
 | [],m,h=>⟨c,h⟩
 | (y,b)::r,m,h=>by
  rw[Ap,zJ]
  split
  ·exact⟨_,rfl⟩
  ·exact zgZ h
theorem zg0{α:Type}{x:dm}:∀{l m:List (dm×α)},l.lookup x=none->(l++m).lookup x=m.lookup x
 | [],m,h=>rfl
 | (y,b)::r,m,h=>by
  rw[zJ]at h;rw[Ap,zJ]
  split at h
  ·cases h
  ·exact zg0 h
theorem zg1{α:Type}{x:dm}:∀{l:List (dm×α)},(∀ p∈l,p.1≠x)->l.lookup x=none
 | [],_=>rfl
 | (y,b)::r,h=>by
  rw[zJ];have:(x==y)=false:=by
   have:=h (y,b) (Au ..);simpa using fun e=>this e.symm
  rw[this];exact zg1 fun p hp=>h p (z0 _ hp)
noncomputable def jc(C:gV)(scope:Al):List (dm×gV):=BL (C+1) scope.names []
def c7(X:Cx)(M:List dm)(scope:Al)(C:gV)(s₃:kb)(H₃:Hp)(fp:List gV):Cx :=
 { X with N:=M,s₀:=s₃,H₀:=H₃,env:=compEnvC scope (jc C scope++fR X.env.cells scope.names []) C X.env,outer:=X.stack,stack:=X.stack,ex:=fp,fn:=fun x=>scope.names.contains (x,Ba),pn:=[],xe:=fun _ _=>False }
structure zaa(X:Cx)(scope:Al)(qV:List dm):Prop where
 kind:scope.kind=.function
 cell:∀ y∈scope.names,y.2=.free->X.env.kindOf y.1=some .cell
 loc:∀ y∈scope.names,y.2=.local->scope.names.lookup y.1=some .local
 qV:∀ x∈qV,scope.names.lookup x≠some .local/\(x,Ba)∉scope.names
 dis:∀ y∈scope.names,y.2=.free->(y.1,Ba)∉scope.names
theorem zpy:∀(names:List (dm×A7)) {h:zh},h.Ns C m->(pushCells h names).Ns C m:=fun names h hn=>by
 obtain⟨o,es,ep,ho,r⟩:=hn;exact⟨o,es,ep,pushCells_keeps names h C o ho,r⟩
section
theorem znc(S:zaa X scope (hW X ix))(I:Inv X pins σ H s)(hf:∀ b∈fp,ft X pins H b)(xq:∀ b∈fp,b<s.heap.objs.size)
  (pO:∀ i∈ix,i<X.N.length)(hn:h'.Ns s.heap.objs.size fun _=>none)(hk:∀ b u,s.heap.get? b=some u->h'.get? b=some u)(nK:CellsOk h' (s.heap.objs.size+1) (jc s.heap.objs.size scope)) :
  Inv (c7 X (L++hW X ix) scope s.heap.objs.size s H fp) [] (fQ L.length ix σ) H { s with heap:=h',toks:=t' }:=by
 have cl:∀ x c,(fR X.env.cells scope.names []).lookup x=some c->X.env.cells.lookup x=some c:=fun x c e =>
  wL (acc:=[]) (fun p hp=>nomatch hp) (x,c) (B1 e)
 have old:∀ x c,X.env.cells.lookup x=some c->c<s.heap.objs.size:=fun x c e=>by
  obtain⟨v,q⟩:=I.cell x c e;exact q.lt
 have own:∀ x c,(jc s.heap.objs.size scope).lookup x=some c->h'.IsCell c none/\s.heap.objs.size+1<=c/\(x,Ba)∈scope.names:=fun x c e=>by
  have m:=B1 e;exact⟨(nK.empty x c m).1,(nK.empty x c m).2,wI _ _ _ m⟩
 have al:∀ x c,(jc s.heap.objs.size scope++fR X.env.cells scope.names []).lookup x=some c->(jc s.heap.objs.size scope).lookup x=some c\/((jc s.heap.objs.size scope).lookup x=none/\X.env.cells.lookup x=some c):=fun x c e=>by
  rcases zgY e with h|⟨h1,h2⟩
  ·exact .inl h
  ·exact .inr ⟨h1,cl x c h2⟩
 have zhD:∀ x,(x,Ba)∈scope.names->∃ c,(jc s.heap.objs.size scope).lookup x=some c:=fun x hx=>by
  obtain⟨c,hc⟩:=zaN scope.names (s.heap.objs.size+1) hx;exact uN hc
 refine⟨⟨I.ok.mod,S.kind,I.ok.glob,I.ok.blt,zr _,fun x y c e1 e2=>?_,fun x hx=>?_,fun x c e1 e2=>?_,I.ok.hd,I.ok.frames,.inl rfl,fun b hb=>⟨Ao (xq b hb),fun x c e=>?_⟩,
  fun b o e=>I.bs b o e,AB I.ok.jO I.sz,fun b o e hb=>?_,fun b hb hz=>?_,I.stack,I.yG,I.ok.tree,I.ok.sk⟩,
  rfl,I.bare,Un.kept hk,⟨_,hn,fun i x v h1 h2 h3=>?_⟩,fun x c e=>?_,I.aC.fresh (zr _),fun x c e=>?_,fun p hp=>absurd (show p∈([]:List (gV×zb)) from hp) (by simp),I.aC.kept hk,?_⟩
 ·rcases al x c e1 with a1|⟨_,a1⟩ <;> rcases al y c e2 with a2|⟨_,a2⟩
  ·exact name_of_addr nK.apart (B1 a1) (B1 a2)
  ·exact absurd (old y c a2) (EZ.mpr (Ed (own x c a1).2.1))
  ·exact absurd (old x c a1) (EZ.mpr (Ed (own y c a2).2.1))
  ·exact I.ok.inj x y c a1 a2
 ·have hx':(C5 scope X.env).names.lookup x=some .cell\/(C5 scope X.env).names.lookup x=some .free:=hx
  have fr:(x,Ba)∈scope.names\/(x,Ce)∈scope.names:=by
   rcases hx' with q|q
   ·obtain⟨k0,_,h2,h3⟩:=qj (scope:=scope) q
    rcases h3 with rfl|⟨rfl,_⟩
    ·exact .inl h2
    ·exact .inr h2
   ·obtain⟨k0,_,h2,h3⟩:=qj (scope:=scope) q
    rcases h3 with rfl|⟨_,z⟩
    ·exact .inr h2
    ·cases z
  rcases fr with fr|fr
  ·obtain⟨c,hc⟩:=zhD x fr
   show ∃ c,(jc s.heap.objs.size scope++fR X.env.cells scope.names []).lookup x=some c;exact uN (CN _ (B1 hc))
  ·obtain⟨c,hc⟩:=I.ok.has x (.inl (S.cell _ fr rfl))
   obtain⟨d,hd⟩:=uN (t7 (names:=scope.names) (acc:=[]) hc fr);exact zgZ hd
 ·have hx:(x,Ba)∈scope.names:=by
   have pI:scope.names.contains (x,Ba)=true:=e1;simpa using pI
  rcases al x c e2 with a1|⟨a1,_⟩
  ·exact Ed (own x c a1).2.1
  ·obtain⟨d,hd⟩:=zhD x hx
   rw[a1]at hd;cases hd
 ·rcases al x c e with a1|⟨_,a1⟩
  ·exact Dp (AA (xq b hb) (Ed (own x c a1).2.1))
  ·exact(hf b hb).2.2.2.2.1 x c a1
 ·rcases (hf b hb).2.2.2.1 with z|z
  ·exact I.ok.nY b o e z
  ·exact absurd (zM (I.ok.bs b o e).1) (EZ.mpr z)
 ·rcases zS.mp (I.sJ b hz)with z|z
  ·exact(hf b hb).2.1 z
  ·exact(hf b hb).2.2.1 z
 ·-- a name that is drawn in
  have hi:L.length<=i:=by
   by_cases hi:i<L.length
   ·unfold fQ at h2
    rw[AY (by simpa using hi),BM,if_pos hi]at h2;cases h2
   ·omega
  unfold fQ at h2;rw[B2 (by simpa using hi),CW,AH]at h2;have h1':(L++hW X ix)[i]?=some x:=h1;rw[B2 hi]at h1';unfold hW at h1';rw[AH]at h1';cases ej:ix[i-L.length]? with
  | none=>rw[ej]at h1';cases h1'
  | some j =>
   rw[ej]at h1' h2;have hj:j<X.N.length:=pO j (BO ej);have e1:X.N[j]?=some x:=by
    have:X.N.getD j ""=x:=Az h1';rw[<- this];simp[EY,hj]
   have e2:σ[j]?=some (some v):=by
    have z:(σ[j]?).getD none=some v:=Az h2;cases q:σ[j]? with
    | none=>rw[q]at z;cases z
    | some o=>rw[q]at z;exact congrArg some z
   have hx:x∈hW X ix:=by
    unfold hW;refine zZ.mpr ⟨j,BO ej,?_⟩;exact Az h1'
   have h3':(C5 scope X.env).names.lookup x=some .local\/(C5 scope X.env).names.lookup x=some .cell\/(C5 scope X.env).names.lookup x=some .free:=h3;have fr:(x,Ce)∈scope.names:=by
    rcases h3' with q|q|q
    ·obtain⟨k0,g1,g2,g3⟩:=qj (scope:=scope) q
     rcases g3 with rfl|⟨_,z⟩
     ·exact absurd g1 (S.qV x hx).1
     ·cases z
    ·obtain⟨k0,_,g2,g3⟩:=qj (scope:=scope) q
     rcases g3 with rfl|⟨rfl,_⟩
     ·exact absurd g2 (S.qV x hx).2
     ·exact g2
    ·obtain⟨k0,_,g2,g3⟩:=qj (scope:=scope) q
     rcases g3 with rfl|⟨_,z⟩
     ·exact g2
     ·cases z
   have hc:X.env.kindOf x=some .cell:=S.cell _ fr rfl;obtain⟨m,_,hl⟩:=I.loc;obtain⟨u,ru,lk⟩:=hl j x v e1 e2 (.inr (.inl hc));refine⟨u,ru,?_⟩;rcases lk with⟨z,_⟩|⟨_,c,ec,ic⟩
   ·rw[hc]at z;cases z
   ·have k3:(C5 scope X.env).names.lookup x=some .cell\/(C5 scope X.env).names.lookup x=some .free:=by
     rcases h3' with q|q|q
     ·obtain⟨k0,g1,g2,g3⟩:=qj (scope:=scope) q
      rcases g3 with rfl|⟨_,z⟩
      ·exact absurd g1 (S.qV x hx).1
      ·cases z
     ·exact .inl q
     ·exact .inr q
    obtain⟨c',lT⟩:=uN (t7 (names:=scope.names) (acc:=[]) ec fr);have e3:=cl x c' lT;rw[ec]at e3;cases e3;obtain⟨oc,g1,g2⟩:=ic;have no:(jc s.heap.objs.size scope).lookup x=none:=zg1 fun p hp z=>(S.qV x hx).2 (by rw[<- z];exact wI _ _ _ hp);exact .inr ⟨k3,c,(zg0 no).trans lT,oc,hk _ _ g1,g2⟩
 ·rcases al x c e with a1|⟨_,a1⟩
  ·exact⟨none,(own x c a1).1⟩
  ·obtain⟨v,oc,g1,g2⟩:=I.cell x c a1
   exact⟨v,oc,hk _ _ g1,g2⟩
 ·rcases al x c e with a1|⟨_,a1⟩
  ·exact I.aC.fresh (Ed (own x c a1).2.1)
  ·exact I.fU x c a1
 ·show(fQ L.length ix σ).length=(L++hW X ix).length
  unfold fQ hW;simp
end
theorem zpo
  (hQ:∀ h',h'.Ns s.heap.objs.size (fun _=>none)->(∀ b u,s.heap.get? b=some u->h'.get? b=some u)->CellsOk h' (s.heap.objs.size+1) (jc s.heap.objs.size scope) ->
   Q { scope:=scope,locals:=s.heap.objs.size,globals:=globals,cells:=jc s.heap.objs.size scope++cl,qual:=qual,func:=none,code:=outer.code,frame:=outer.frame,builtins:=outer.builtins } { s with heap:=h' }) :
  yY M A (newFunctionEnv scope globals cl [] qual none .none (some outer)) Q E s:=by
 simp only[newFunctionEnv,G2,if_true];refine yV (wpAny_alloc ?_);refine yV (wpAny_layCells _ (fun name kind cells=>by cases hkc:kind==Ba <;> simp[hkc]) _ _ _ _ ?_);have ok:=cellsFrom_ok scope.names (s.heap.push { cls:=.type "dict",data:=.dict #[] }) (s.heap.objs.size+1) [] ⟨fun _ _ hm=>(nomatch hm),GY⟩ (by rw[DB];exact zr _);rw[DB]at ok;rw[show({ s with heap:=s.heap.push { cls:=.type "dict",data:=.dict #[] } }:kb).heap.objs.size=s.heap.objs.size+1 from DB ..,pH];refine yV ?_;rw[FX];refine zi (zi ?_);exact hQ _ (zpy _ (Heap.Ns.new ..)) (fun b u e=>pushCells_keeps _ _ _ _ (zI _ e)) ok
abbrev Em:=ir->zC->Sem C6->Sem C6
noncomputable def zfF(elt:yW):Em:=fun acc env k=>do
 let _ <- (do
  let x <- zk elt env
  let _ <- call (.builtin "list.append") [acc,x]
  pure ())
 k
noncomputable def ziM(e:yW)(d:Nat)(target iter:yW)(ifs:List yW)(em:Em)(it acc:ir)(env:zC):Sem C6:=do
 CO iter.pos
 let r <- CU it
 match r with
 | none=>pure (.done .next)
 | some v=>do
  Ey target it v
  Bk target env v
  let ok <- forIn ifs true fun c r=>if r=true then do let ok <- isTrue c env (zk c env);pure (Dx ok) else pure (Dx r)
  if ok=true then em acc env (again (.compLoop e d it acc env))
  else again (.compLoop e d it acc env)
structure Ck(e:yW)(d:Nat)(tg iter:yW)(ifs:List yW)(em:Em):Prop where
 cl:(clausesOf e)[d]?=some ⟨tg,iter,ifs,0⟩
 tn:∀(it acc:ir) (env:zC),compTurn e d it acc env=ziM e d tg iter ifs em it acc env
 dl:∀(P:zu) (w:zq) (it acc:ir) (env:zC),(yZ P w).den (.compLoop e d it acc env)=(compTurn e d it acc env).onRaise (fun x=>do Dy x env;theTreesLotGoes x):=by exact fun _ _ _ _ _=>rfl
 ds:∀(P:zu) (w:zq) (it acc:ir) (env:zC),(yZ P w).den (.compStart e d it acc env)=(compStart e d it acc env).onRaise (fun x=>do Dy x env;CO theWindowsPlace):=by exact fun _ _ _ _ _=>rfl
 ul:∀(A:zx) (it acc:ir) (env:zC),A.under (.compLoop e d it acc env)=A:=by exact fun _ _ _ _=>rfl
 us:∀(A:zx) (it acc:ir) (env:zC),A.under (.compStart e d it acc env)=A:=by exact fun _ _ _ _=>rfl
theorem ztq{R:Result->kb->Prop}{it acc:ir}(k:Ck e d tg iter ifs em)
  (h0:BA (yZ prog w) A (.compLoop e d it acc env) R s)
  (h:yY (yZ prog w) A (pyIter it) (fun it' s'=>BA (yZ prog w) A (.compLoop e d it' acc env) R s') (notedBy (yZ prog w) A env fun x s'=>R (.error x) s') s) :
  BA (yZ prog w) A (.compStart e d it acc env) R s:=by
 refine codeAny_of_tree ?_;rw[k.ds,k.us];refine wpAny_notedAt ?_;unfold compStart;rw[k.cl];show yY _ _ (ask >>= _) _ _ s;refine yV (wpAny_askSetting (wpAny_ite ?_))
 split
 ·exact yV (zi (zi ⟨rfl,h0⟩))
 ·refine yV (DU ?_)
  show yY _ _ (CO iter.pos >>= _) _ _ s;exact yV (BZ (yV (z8 h (fun it' s' h'=>zi ⟨rfl,h'⟩) fun _ _ x=>x)))
abbrev TU:=gV->St->Hp->(Hp->Prop)->Prop
def PU(X:Cx)(em:Em)(tu:TU):Prop:=∀(pins:List (gV×zb)) (s:kb) (σ:St) (H:Hp) (l:gV) (Q:Hp->Prop) (k:Sem C6) (P:C6->kb->Prop) (E:ir->kb->Prop),Inv X pins σ H s->tu l σ H Q ->
 (∀ s' H',Inv X pins σ H' s'->Q H'->yY (yZ X.prog X.w) X.A k P E s')->yY (yZ X.prog X.w) X.A (em (.ref l) X.env k) P E s
def zdE(te:TE):TU:=fun l σ H Q=>te σ H fun v H6=>∃ ys,H6 l=some (.lst ys)/\ys.length<zt/\Q (upd H6 l (.lst (ys++[v])))
def zdC(J:It)(g:TG)(tc:TT)(tu:TU)(l:gV)(σ:St)(Q:Hp->Prop)(W:Nat->Nat->Hp->Prop):Prop:=∀ i m H2,W i m H2 ->
 ((J.stop i H2/\Q H2)\/(J.go i H2/\∀ x H3,J.yT i H2 x H3->g x σ H3 fun σ2 H4=>tc σ2 H4 fun b H5 =>
   if b=true then tu l σ2 H5 fun H6=>∃ m',m'<m/\W (i+1) m' H6 else ∃ m',m'<m/\W (i+1) m' H5))
def sN(o0:HO)(k:Nat)(ix:List Nat)(wi:TI)(g:TG)(tc:TT)(tu:TU):TE:=fun σ H Q=>wi σ H fun J H1=>∀ l,H1 l=none ->
 ∃ W:Nat->Nat->Hp->Prop,(∃ m,W 0 m (upd H1 l o0))/\zdC J g tc tu l (fQ k ix σ) (fun H2=>Q (.ref l) H2) W
abbrev ztz(k:Nat)(ix:List Nat)(wi:TI)(g:TG)(tc:TT)(tu:TU):TE:=sN (.lst []) k ix wi g tc tu
abbrev zdB(k:Nat)(ix:List Nat)(wi:TI)(g:TG)(tc:TT)(te:TE):TE:=ztz k ix wi g tc (zdE te)
section
theorem zhU(hx:X.xe=fun _ _=>False)(he:PE X elt te):PU X (zfF elt) (zdE te):=by
 intro pins s σ H l Q k P E I h hk;unfold zfF;refine yV (yV (z8 (he pins s σ H _ I h) (fun xv s1 ⟨v,H1,I1,r1,ys,hl,hz,q⟩=>?_) fun _ _ f=>by rw[hx]at f;exact f.elim));refine yV (z8 (zpe (X:=X) _ s1 σ H1 (.ref l) [v] (.ref l) [xv] (fun _ Hq=>Hq=upd H1 l (.lst (ys++[v]))) I1 rfl (.cons r1 .nil) ⟨l,ys,v,rfl,rfl,hl,hz,rfl⟩) (fun _ s2 ⟨_,H2,I2,_,e2⟩=>?_) fun _ _ f=>by rw[hx]at f;exact f.elim);subst e2;exact zi (hk s2 _ I2 q)
theorem turns{k2:Nat}{it:gV}{Q:Hp->Prop}{R:Result->kb->Prop}
  (k:Ck e d tg iter ifs em)(hx:X.xe=fun _ _=>False)(hc:X.calm=true)(hσ:∀ j,j<k2->∀ v,σ[j]?≠some (some v))(T:Turn X.prog X.w X.K tg J fp it tn)(stat:∀{H':Hp},(∀ b∈fp,H' b=none)->∀ b∈fp,ft X pins H' b)
  (hg:PG X tg g)(dC:pq k2 g)(ht:jk X ifs tc)(hu:PU X em tu)(turn:zdC J g tc tu l σ Q W)(stop:∀ H' s',Inv X pins σ H' s'->Q H'->R (.ok .next) s')
  (I:Inv X pins σ H s)(st:tn 0 s.heap)(fr:∀ b∈fp,H b=none)(w0:W 0 m0 H) :
  BA (yZ X.prog X.w) X.A (.compLoop e d (.ref it) (.ref l) X.env) R s:=by
 refine codeAny_loop rfl (fun n s'=>∃ i H',Inv X pins σ H' s'/\tn i s'.heap/\(∀ b∈fp,H' b=none)/\W i n H') (fun n s6 ⟨i,H6,I6,mU,fr6,w6⟩=>?_) m0 ⟨0,H,I,st,fr,w0⟩;rw[k.dl,k.ul];refine wpAny_noted ?_;rw[k.tn];unfold ziM;refine yV (BZ (yV ?_));rcases turn i n H6 w6 with⟨sp,qe⟩|⟨go,step⟩
 ·refine z8 (T.done X rfl rfl rfl hc i pins s6 _ H6 (fun _ _=>False) I6 (stat fr6) mU sp) (fun r s7 hr7=>?_) fun _ _ f=>f.elim
  obtain⟨hr,I7⟩:=hr7;subst hr;exact zi (stop H6 s7 I7 qe)
 ·refine z8 (T.item X rfl rfl rfl hc i pins s6 _ H6 (fun _ _=>False) I6 (stat fr6) mU go) (fun r s7 hr7=>?_) fun _ _ f=>f.elim
  obtain⟨u,hr,h7⟩:=hr7;subst hr;refine yV (z8 h7 (fun _ s8 hr8=>?_) fun _ _ f=>f.elim);obtain⟨x,H8,I8,r8,y8,st8,fr8⟩:=hr8;have I8':=I8.pinned (stat fr8) (T.obj _ _ st8);have stp:=dC _ _ _ _ (step x H8 y8);refine yV (z8 (hg _ s8 _ H8 x u _ I8' r8 stp) (fun _ s9 ⟨σ9,H9,I9,⟨k1,k2'⟩,q9⟩=>?_) fun _ _ f=>by rw[hx]at f;exact f.elim);have weak:∀{Hz:Hp} {sz:kb},Inv X (pins++vg fp s8.heap) σ9 Hz sz->Inv X pins σ Hz sz/\tn (i+1) sz.heap/\∀ b∈fp,Hz b=none:=fun{Hz sz} Iz=>by
   refine⟨Iz.sW.weak k1.symm fun j v e=>?_,T.keep _ _ _ st8 fun b hb o e=>(Iz.pin (b,o) (AK _ (AK _ (xS hb e)))).1,fun b hb=>?_⟩
   ·by_cases hj:k2<=j
    ·rw[k2' j hj];exact e
    ·exact absurd e (hσ j (Nat.lt_of_not_le hj) v)
   ·obtain⟨o,e,d⟩:=T.obj _ _ st8 b hb
    exact(Iz.pin (b,o) (AK _ (AK _ (xS hb e)))).2.1
  refine yV (z8 (ht _ s9 σ9 H9 _ I9 q9) (fun ok s10 ⟨H10,I10,q10⟩=>?_) fun _ _ f=>by rw[hx]at f;exact f.elim);cases ok with
  | false =>
   have q10':∃ m',m'<n/\W (i+1) m' H10:=q10;obtain⟨m',nL,w10⟩:=q10';obtain⟨z1,z2,z3⟩:=weak I10;exact zi ⟨rfl,m',nL,i+1,H10,z1,z2,z3,w10⟩
  | true =>
   refine hu _ s10 σ9 H10 l _ _ _ _ I10 q10 fun s' H' Iz ⟨m',nL,w11⟩=>?_;obtain⟨z1,z2,z3⟩:=weak Iz;exact zi ⟨rfl,m',nL,i+1,H',z1,z2,z3,w11⟩
structure Kd(X:Cx)(nw:Sem ir)(ob:zb)(o0:HO):Prop where
 nw:∀{s:kb} {Q:ir->kb->Prop} {E:ir->kb->Prop},Q (.ref s.heap.objs.size) { s with heap:=s.heap.push ob,toks:=s.toks }->yY (yZ X.prog X.w) X.A nw Q E s
 ld:∀{pins:List (gV×zb)} {σ:St} {H:Hp} {s:kb},Inv X pins σ H s->Inv X pins σ (upd H s.heap.objs.size o0) { s with heap:=s.heap.push ob,toks:=s.toks }
theorem kdL:Kd X (newList []) { cls:=.type "list",data:=.seq ([]:List ir).toArray } (.lst []) :=
 ⟨fun q=>BK q (by show 0<=zt;exact AU _),fun{_ _ _ s} I=>I.laid (t':=s.toks) (fun b u e=>zI _ e) (zr _) ⟨by simp,[],0,.nil,AG _ rfl⟩⟩
theorem zfe{nw:Sem ir}
  {Q:VK}(k:Ck e 0 tg iter ifs em)(kd:Kd X nw ob o0)(pM:clausesOf e=⟨tg,iter,ifs,0⟩::gs)(hc:X.calm=true)(S:zaa X scope (hW X ix))(pO:∀ i∈ix,i<X.N.length)(hi:PI X tg iter wi)
  (hg:∀ C s₃ H₃ fp,PG (c7 X (L++hW X ix) scope C s₃ H₃ fp) tg g)(dC:pq L.length g)
  (ht:∀ C s₃ H₃ fp,jk (c7 X (L++hW X ix) scope C s₃ H₃ fp) ifs tc)(he:∀ C s₃ H₃ fp,PU (c7 X (L++hW X ix) scope C s₃ H₃ fp) em tu)
  (hs:∀ x,Be iter X.env x=pure x)(I:Inv X pins σ H s)(h:sN o0 L.length ix wi g tc tu σ H Q)
  (hf:∀ D C m H' s',s'.heap.Ns C m->ft X pins H' C->(∀ h',DS C s'.heap h'->Inv X pins σ H' { s' with heap:=h' })->Q (.ref D) H'->compPost (yZ X.prog X.w) X.A X.xe use Post (.ref D) C (.ok .next) s') :
  yY (yZ X.prog X.w) X.A (F0 e scope X.env pos nw false (zk iter X.env) use) Post X.xe s:=by
 refine wpAny_comprehension_free (use:=use) pM hs (zkR fun y hy e=>I.ok.has y.1 (.inl (S.cell y hy e))) S.kind S.loc (aT (hi pins s σ H _ I h) fun xv s1 h1=>aT h1 fun itv s2 h2=>?_);obtain⟨it,fp,tn,J,H2,rfl,I2,T,dh,f2,q⟩:=h2;have nD:H2 s2.heap.objs.size=none:=I2.aC.fresh (zr _);obtain⟨W,⟨m0,w0⟩,turn⟩:=q _ nD;have I3:=kd.ld I2;refine kd.nw (zpo (fun h₁ zch zcl zbN=>?_));generalize hD:s2.heap.objs.size=D at nD w0 turn I3;have fD:∀ b∈fp,b<D:=fun b hb=>by
  obtain⟨o,e,_⟩:=T.obj _ _ dh b hb;rw[<- hD];exact zM e
 have qw:tn 0 (s2.heap.push ob):=T.keep _ _ _ dh fun b hb o e=>zI _ e;generalize hp3:s2.heap.push ob=h3 at I3 qw zch zcl zbN;dsimp only at zch zcl zbN ⊢;have sz3:h3.objs.size=D+1:=by rw[<- hp3,DB,hD]
 have old:∀ b u,h3.get? b=some u->h₁.get? b=some u:=fun b u e=>zcl b u e;have f3:∀ b∈fp,ft X pins (upd H2 D o0) b:=fun b hb=>⟨by rw[aU (Ao (fD b hb))];exact(f2 b hb).1,(f2 b hb).2⟩;have I4:=znc (L:=L) (ix:=ix) (t':=s2.toks) S I3 f3 (fun b hb=>by show b<h3.objs.size;rw[sz3];exact F3 (fD b hb)) pO (h':=h₁) zch old zbN;have yF:tn 0 h₁:=T.keep _ _ _ qw fun b hb o e=>old b o e;generalize hC:(c7 X (L++hW X ix) scope h3.objs.size { s2 with heap:=h3,toks:=s2.toks } (upd H2 D o0) fp)=Y at I4;have zfD:Y.env=compEnvC scope (jc h3.objs.size scope++fR X.env.cells scope.names []) h3.objs.size X.env:=by rw[<- hC];rfl
 have eP:Y.prog=X.prog:=by rw[<- hC];rfl
 have eW:Y.w=X.w:=by rw[<- hC];rfl
 have eK:Y.K=X.K:=by rw[<- hC];rfl
 have eA:Y.A=X.A:=by rw[<- hC];rfl
 have key:∀ s5:kb,s5={ s2 with heap:=h₁,toks:=s2.toks } ->
   BA (yZ X.prog X.w) X.A (.compLoop e 0 (.ref it) (.ref D) (compEnvC scope (jc h3.objs.size scope++fR X.env.cells scope.names []) h3.objs.size X.env))
    (compPost (yZ X.prog X.w) X.A X.xe use Post (.ref D) h3.objs.size) s5:=by
  rintro s5 rfl;rw[<- zfD,<- eP,<- eW,<- eA];refine turns (k2:=L.length) k (by rw[<- hC];rfl) (by rw[<- hC];exact hc) (fun j hj v z=>?_) (by rw[eP,eW,eK];exact T) (fun{H'} hn b hb=>?_) (by rw[<- hC];exact hg _ _ _ _) dC (by rw[<- hC];exact ht _ _ _ _) (by rw[<- hC];exact he _ _ _ _) turn (fun H' s' J' qe=>?_) I4 yF (fun b hb=>(f3 b hb).1) w0
  ·unfold fQ at z
   rw[AY (by simpa using hj),BM,if_pos hj]at z;cases z
  ·have z1:b∈Y.ex:=by rw[<- hC];exact hb
   have zp:Y.pn=[]:=by rw[<- hC];rfl
   refine⟨hn b hb,(I4.ok.pK b z1).1,I4.ok.nH b z1,.inl z1,(I4.ok.pK b z1).2,fun p hp=>?_⟩;rw[zp]at hp;exact absurd hp (by simp)
  ·rw[eP,eW,eA]
   obtain⟨m,hm,_⟩:=J'.loc;have e6:=J'.free;rw[zfD]at hm e6;have e6:H' h3.objs.size=none:=e6;refine hf D _ m H' s' hm (I3.lX (zr _) e6) (fun h' sb=>?_) qe;have mH:∀ b u,H' b=some u->b≠h3.objs.size:=fun b u e z=>by rw[z,e6]at e;cases e
   have base:Un (eM X.stack) fp (upd H2 D o0) H' h3 s'.heap:=by
    have:=J'.base;rw[<- hC]at this;exact this
   have to':∀ b o,b≠h3.objs.size->s'.heap.get? b=some o->h'.get? b=some o:=fun b o hb e=>sb.extBut b o hb e;have gQ:∀ b o,h3.get? b=some o->b≠h3.objs.size:=fun b o e=>Ao (zM e);have un:Un (eM X.stack) fp (upd H2 D o0) H' h3 h' :=
    ⟨fun b o e n hb hx=>to' b o (gQ b o e) (base.keep b o e n hb hx),
     fun b o e n hb hx=>by
     obtain⟨sl,z⟩:=base.slot b o e n hb hx;exact⟨sl,to' _ _ (gQ b o e) z⟩,
     base.free,
     fun b o e hx=>by
     obtain⟨o',z⟩:=base.there b o e hx;exact⟨o',to' _ _ (gQ b o e) z⟩,
     base.gv,base.gA,base.gX⟩
   have aC:cu X.prog X.w H' h':=fun b u e=>by
    have z:=J'.aC b u e;rw[eP,eW]at z;refine z.iQ (fun c v hcv qv=>to' c v ?_ qv) (fun _ qq=>qq) fun _ _ qq=>qq;rcases hcv with zz|zz
    ·rw[zz];exact mH b u e
    ·exact mH c _ zz
   refine I3.zeZ (s':={ s' with heap:=h' }) (ch:=fp) ?_ un aC J'.bare fun b hb=>?_
   ·have:=J'.os
    rw[<- hC]at this;exact this
   ·obtain⟨_,g1,g2,g3,g4,g5⟩:=f2 b hb
    exact⟨g3,g1,g4,g5⟩
 exact ztq k (key _ rfl) (T.self _ 0 _ _ _ yF (key _ rfl))
noncomputable def kA(sc scope:Al)(N:List dm)(ix:List Nat):Bool :=
 (scope.names.all fun y=>(y.2 != .free||sc.names.lookup y.1==some .cell)&&(y.2 != .local||scope.names.lookup y.1==some .local)&&(y.2 != .free||!(scope.names.contains (y.1,Ba)))) &&
 ((ix.map fun i=>N.getD i "").all fun x=>scope.names.lookup x != some .local&&!(scope.names.contains (x,Ba)))&&ix.all (fun i=>decide (i<N.length))
theorem okC(hk:scope.kind=.function)(hd:kA X.env.scope scope X.N ix=true):zaa X scope (hW X ix)/\∀ i∈ix,i<X.N.length:=by
 unfold kA at hd;simp only[zX,A3,bne_iff_ne,ne_eq,E1,beq_iff_eq,decide_eq_true_eq,DC,G3,decide_eq_false_iff_not]at hd;obtain⟨⟨d1,d2⟩,d3⟩:=hd;exact⟨⟨hk,fun y hy e=>(d1 y hy).1.1.resolve_left fun z=>z e,fun y hy e=>(d1 y hy).1.2.resolve_left fun z=>z e,fun x hx=>d2 x (by unfold hW at hx;exact hx),fun y hy e=>(d1 y hy).2.resolve_left fun z=>z e⟩,d3⟩
theorem zqi{nw:Sem ir}(L:List dm)(ix:List Nat)(M:List dm)
  (ev:zk e X.env=F0 e scope X.env pos nw false (zk iter X.env))(k:Ck e 0 tg iter ifs em)(kd:Kd X nw ob o0)(pM:clausesOf e=⟨tg,iter,ifs,0⟩::gs)(hc:X.calm=true)(hk:scope.kind=.function)
  (hd:kA X.env.scope scope X.N ix=true)(hM:M=L++ix.map fun i=>X.N.getD i "") (hi:PI X tg iter wi)
  (hg:∀ C s₃ H₃ fp,PG (c7 X M scope C s₃ H₃ fp) tg g) (dC:pq L.length g)
  (ht:∀ C s₃ H₃ fp,jk (c7 X M scope C s₃ H₃ fp) ifs tc) (he:∀ C s₃ H₃ fp,PU (c7 X M scope C s₃ H₃ fp) em tu)
  (hs:∀ x,Be iter X.env x=pure x):PE X e (sN o0 L.length ix wi g tc tu):=by
 intro pins s σ H Q I h;rw[ev];subst hM;obtain⟨S,pO⟩:=okC hk hd;exact zfe k kd pM hc S pO hi hg dC ht he hs I h fun D C m H' s' hm _ mk q=>⟨m,hm,fun h' sb=>⟨.ref D,H',mk h' sb,rfl,q⟩⟩
end
end
variable {Q:ir->kb->Prop}
section
section
theorem zqj(L:List dm)(ix:List Nat)(M:List dm)(hc:X.calm=true)(hk:scope.kind=.function)
  (hd:kA X.env.scope scope X.N ix=true)(hM:M=L++ix.map fun i=>X.N.getD i "") (hi:PI X tg iter wi)
  (hg:∀ C s₃ H₃ fp,PG (c7 X M scope C s₃ H₃ fp) tg g) (dC:pq L.length g)
  (ht:∀ C s₃ H₃ fp,jk (c7 X M scope C s₃ H₃ fp) ifs tc) (he:∀ C s₃ H₃ fp,PE (c7 X M scope C s₃ H₃ fp) elt te)
  (hs:∀ x,Be iter X.env x=pure x:=by intro _;rfl) :
  PE X (.ListComp elt [⟨tg,iter,ifs,0⟩] scope pos) (zdB L.length ix wi g tc te):=by
 exact zqi L ix M rfl { cl:=rfl,tn:=fun _ _ _=>compTurn_list .. } kdL rfl hc hk hd hM hi hg dC ht (fun C s₃ H₃ fp=>zhU rfl (he C s₃ H₃ fp)) hs
end
end
section
end
variable {oC:zc}{x0:dm}
section
section
theorem zqO{nw:Sem ir}(i0:Nat)(L:List dm)(ix:List Nat)(M:List dm)(hN:X.N.Nodup)(uC:X.N[i0]?=some x0)(rJ:X.env.scope.names.lookup x0=some .local)
  (pR:AW e (some (.Name x0 pos')) oC.line X.env=pure true)(ev:evalThenUse e X.env (Bk (.Name x0 pos') X.env)=(do let _ <- F0 e scope X.env pos nw false (zk iter X.env) (some (Bk (.Name x0 pos') X.env))))
  (k:Ck e 0 tg iter ifs em)(kd:Kd X nw ob o0)(pM:clausesOf e=⟨tg,iter,ifs,0⟩::gs)(hc:X.calm=true)(hk:scope.kind=.function)
  (hd:kA X.env.scope scope X.N ix=true)(hM:M=L++ix.map fun i=>X.N.getD i "") (hi:PI X tg iter wi)
  (hg:∀ C s₃ H₃ fp,PG (c7 X M scope C s₃ H₃ fp) tg g) (dC:pq L.length g)
  (ht:∀ C s₃ H₃ fp,jk (c7 X M scope C s₃ H₃ fp) ifs tc) (he:∀ C s₃ H₃ fp,PU (c7 X M scope C s₃ H₃ fp) em tu)
  (hs:∀ x,Be iter X.env x=pure x):PS X (.Assign [.Name x0 pos'] e oC) (vC (sN o0 L.length ix wi g tc tu) (uk i0)):=by
 intro pins s σ H Dn I h;have h:sN o0 L.length ix wi g tc tu σ H (fun v H1=>Dn.nx (σ.set i0 (some v)) H1):=h;rw[exec_Assign_Name_used _ _ _ _ pR,ev];subst hM;obtain⟨S,pO⟩:=okC hk hd;refine yV (BZ (yV (yV (z8 (zfe (use:=some (Bk (.Name x0 pos') X.env)) (Post:=fun _ s'=>SP X pins Dn .next s') k kd pM hc S pO hi hg dC ht he hs I h fun D C m H' s' hm fo mk qe=>?_) (fun _ s' hq=>zi (zi hq)) fun _ _ e=>e))));show yY _ _ (Bk (.Name x0 pos') X.env (.ref D)) _ _ s';refine wpAny_assign_Name (zio (v:=.ref D) (mk s'.heap (Heap.SameBut.refl ..)) hN uC (.inl rJ) rfl (fun fM I6 hh=>?_) (.inr rJ));obtain⟨a6,sb6,ha6⟩:=hh;have mH:a6≠C:=by
  rcases ha6 with z|z
  ·rw[z];exact AD fo.2.1
  ·exact fo.2.2.2.2.1 x0 a6 z
 refine⟨m,hm.sameBut sb6 (AD mH),fun xm vy=>⟨_,H',?_,qe⟩⟩;refine Inv.yL (t':=fM.toks) (fp:=[C]) I6 (fun b o hb e=>vy.extBut b o (by simpa using hb) e) fun b hb=>?_;have e:b=C:=by simpa using hb
 subst e;exact fo
theorem zqV(i0:Nat)(L:List dm)(ix:List Nat)(M:List dm)(hN:X.N.Nodup)(uC:X.N[i0]?=some x0)(rJ:X.env.scope.names.lookup x0=some .local)
  (pR:AW (.ListComp elt [⟨tg,iter,ifs,0⟩] scope pos) (some (.Name x0 pos')) oC.line X.env=pure true)(hc:X.calm=true)(hk:scope.kind=.function)
  (hd:kA X.env.scope scope X.N ix=true)(hM:M=L++ix.map fun i=>X.N.getD i "") (hi:PI X tg iter wi)
  (hg:∀ C s₃ H₃ fp,PG (c7 X M scope C s₃ H₃ fp) tg g) (dC:pq L.length g)
  (ht:∀ C s₃ H₃ fp,jk (c7 X M scope C s₃ H₃ fp) ifs tc) (he:∀ C s₃ H₃ fp,PE (c7 X M scope C s₃ H₃ fp) elt te)
  (hs:∀ x,Be iter X.env x=pure x:=by intro _;rfl) :
  PS X (.Assign [.Name x0 pos'] (.ListComp elt [⟨tg,iter,ifs,0⟩] scope pos) oC) (vC (zdB L.length ix wi g tc te) (uk i0)):=by
 exact zqO i0 L ix M hN uC rJ pR rfl { cl:=rfl,tn:=fun _ _ _=>compTurn_list .. } kdL rfl hc hk hd hM hi hg dC ht (fun C s₃ H₃ fp=>zhU rfl (he C s₃ H₃ fp)) hs
end
end
section
end
variable {xs:List (List Key×gV×ir)}{o:Option V}{ob:HO}{κ:Type}{ks:List Key}{aj:List (List Key×V)}
section
section
variable [DecidableEq κ]
noncomputable def kl(aj:List (κ×V))(k:κ):Option V:=(aj.find? fun kv=>decide (kv.1=k)).map (·.2)
noncomputable def putK(aj:List (κ×V))(k:κ)(v:V):List (κ×V) :=
 if(aj.any fun kv=>decide (kv.1=k))=true then aj.map (fun kv=>if kv.1=k then(kv.1,v) else kv) else aj++[(k,v)]
theorem zdH{p:κ×V}{r:List (κ×V)}{k:κ}(e:p.1=k):kl (p::r) k=some p.2:=by simp[kl,CC,e]
theorem zdG{p:κ×V}{r:List (κ×V)}{k:κ}(e:¬ p.1=k):kl (p::r) k=kl r k:=by simp[kl,CC,e]
theorem ziU(k:κ):∀ aj:List (κ×V),(aj.any fun kv=>decide (kv.1=k))=(kl aj k).isSome
 | []=>rfl
 | p::r=>by
  rw[F4]
  by_cases e:p.1=k
  ·simp only[zdH e,decide_eq_true e,Bool.true_or,G2]
  ·rw[zdG e,decide_eq_false e,Bool.false_or];exact ziU k r
theorem zoM(aj:List (κ×V))(k:κ)(v:V):(putK aj k v).length<=aj.length+1:=by
 unfold putK
 split
 ·rw[zL];omega
 ·rw[AO,zB,zG];omega
theorem jM.zgv{u:Option ir}(r:jM o u):o.isSome=u.isSome:=by
 cases o with
 | none=>cases u with
  | none=>rfl
  | some _=>exact(show False from r).elim
 | some _=>cases u with
  | none=>exact(show False from r).elim
  | some _=>rfl
end
theorem zns(r:RelV (kV k) u):(j3 P w).is k u=true:=by
 cases k with
 | inl i=>obtain⟨t,e⟩:=(show ∃ t,u=CJ i t from r);subst e;exact zpa P w i t
 | inr x=>obtain⟨t,e⟩:=(show ∃ t,u=Cr x t from r);subst e;exact zpb P w x t
theorem zgy{P:zu}{w:zq}:∀{ks:List Key} {us:List ir},Vals (ks.map kV) us->ItemsAre (j3 P w) ks us
 | [],_,r=>by rw[Bg]at r;cases r;exact .nil
 | k::ks,_,r=>by
  rw[zE]at r;cases r with
  | cons h t=>exact .cons (zns h) (zgy t)
abbrev KT(H:Hp):List (List Key×V)->List (List Key×gV×ir)->Prop:=BW fun p q=>p.1=q.1/\cT H q.2.1 (p.1.map kV)/\RelV p.2 q.2.2
theorem KT.val(r:KT H aj xs)(k:List Key):jM (kl aj k) ((Cm xs k).map (·.2)):=by
 induction r with
 | nil=>exact Dw
 | @cons p q ps qs h t ih =>
  obtain⟨h1,_,h2⟩:=h
  by_cases e:p.1=k
  ·have e':q.1=k:=h1.symm.trans e
   have b:Cm (q::qs) k=some q.2:=by simp[Cm,CC,e']
   rw[zdH e,b];exact h2
  ·have e':¬ q.1=k:=fun z=>e (h1.trans z)
   have b:Cm (q::qs) k=Cm qs k:=by simp[Cm,CC,e']
   rw[zdG e,b];exact ih
theorem KT.zsP(r:KT H aj xs)(k:List Key)(ry:RelV y u) :
  KT H (aj.map fun kv=>if kv.1=k then(kv.1,y) else kv) (xs.map (putAt k u)):=by
 induction r with
 | nil=>exact .nil
 | @cons p q ps qs h t ih =>
  rw[zE,zE];refine .cons ?_ ih;obtain⟨h1,h2,h3⟩:=h;unfold putAt
  by_cases e:p.1=k
  ·rw[if_pos e,if_pos (h1.symm.trans e)];exact⟨h1,h2,ry⟩
  ·rw[if_neg e,if_neg (fun z=>e (h1.trans z))];exact⟨h1,h2,h3⟩
theorem KT.put(r:KT H aj xs)(k:List Key)(hb:cT H b (k.map kV))(ry:RelV y u) :
  KT H (putK aj k y) (storedH xs k b u):=by
 have e:(aj.any fun kv=>decide (kv.1=k))=(Cm xs k).isSome:=by
  rw[ziU,(r.val k).zgv,F5]
 unfold putK storedH;rw[e]
 by_cases q:(Cm xs k).isSome=true
 ·rw[if_pos q,if_pos q];exact r.zsP k ry
 ·rw[if_neg q,if_neg q];exact Paired.snoc r ⟨rfl,hb,ry⟩
theorem KT.keeps(r:KT H aj xs)(ht:∀ b ys,cT H b ys->cT H' b ys):KT H' aj xs :=
 BW.zcF r fun _ _ z=>⟨z.1,ht _ _ z.2.1,z.2.2⟩
section
theorem zsH{u:HO}(ok:cu P w H h)(e:Rd H a u):cD P w H h a u:=e.ok ok
theorem rP(ok:cu P w H h)(e:cT H a (ks.map kV)):(DQ (j3 P w)).is h ks a:=by
 obtain⟨_,its,r,o,h1,h2,n,h3⟩:=(show cD P w H h a (.tup (ks.map kV)) from Rd.ok e ok);exact⟨o,its.toArray,n,h1,h2,h3,by simpa using zgy r⟩
theorem t9(ok:cu P w H h)(e:Rd H a (.dT aj)):aj.length<=zt/\(a==B7)=false /\
  ∃ xs,KT H aj xs/\h.DictOfH (DQ (j3 P w)) a xs:=by
 obtain⟨z,y,xs,r,o,es,ep,h1,h2,h3,h4,h5⟩:=(show cD P w H h a (.dT aj) from zsH ok e);refine⟨z,y,xs,r,o,es,ep,h1,h2,h3,h4,fun x hx=>?_,h5⟩;have all:∀{l:List (List Key×V)} {m:List (List Key×gV×ir)},KT H l m->∀ x∈m,(DQ (j3 P w)).is h x.1 x.2.1:=by
  intro l m q
  induction q with
  | nil=>intro x hx;exact nomatch hx
  | @cons p q ps qs hq t ih =>
   intro x hx;rcases zS.mp hx with e|hx
   ·subst e
    exact rP ok (by rw[<- hq.1];exact hq.2.1)
   ·exact ih x hx
 exact all r x hx
theorem zlG(ok:cu P w H h)(e:H a=some (.dT aj)):aj.length<=zt/\(a==B7)=false /\
  ∃ xs,KT H aj xs/\h.DictOfH (DQ (j3 P w)) a xs:=t9 ok (.inl e)
end
def vI(H:Hp)(a:gV)(y:V)(r:Option V):Prop :=
 ∃ aj k b,Rd H a (.dT aj)/\y=.ref b/\cT H b (k.map kV)/\r=kl aj k
def zdM(H:Hp)(a:gV)(y v:V)(H':Hp):Prop :=
 ∃ aj k b,H a=some (.dT aj)/\y=.ref b/\cT H b (k.map kV)/\aj.length<zt/\H'=upd H a (.dT (putK aj k v))
section
variable {v:V}{r:ir}
theorem Inv.big(I:Inv X pins σ H s):B7<s.heap.objs.size:=by
 have h:zv<s.heap.objs.size:=(I.mod.glob.keeps I.bk).lt;exact Cp (by decide) h
theorem zlh(hu:A.units+1<Ae)(I:Inv X pins σ H s)(g:vI H a y (some v))(ry:RelV y u)(h:∀ w' s',Inv X pins σ H s'->RelV v w'->Q w' s') :
  yY (yZ X.prog X.w) A (B9 (.ref a) u) Q E s:=by
 obtain⟨aj,k,b,e,ey,eb,l⟩:=g;subst ey;cases (show u=Ac b from ry);obtain⟨z,hd,xs,rel,dd⟩:=t9 I.aC e;obtain⟨w',hw,je⟩:=jM.some_of (v:=v) (o:=(Cm xs k).map (·.2)) (by rw[l];exact rel.val k);obtain⟨p,hp,hp2⟩:=BE.mp hw;refine wpAny_getItem_heap (F6 hu) (rP I.aC eb) dd hp ?_;rw[hp2];exact h w' _ (I.tok _) je
theorem zli(hu:A.units+1<Ae)(I:Inv X pins σ H s)(g:vI H a y o)(ry:RelV y u)(h:∀ s',Inv X pins σ H s'->Q (.bool o.isSome) s') :
  yY (yZ X.prog X.w) A (zF .In u (.ref a)) Q E s:=by
 obtain⟨aj,k,b,e,ey,eb,l⟩:=g;subst ey;cases (show u=Ac b from ry);obtain⟨z,hd,xs,rel,dd⟩:=t9 I.aC e;refine wpAny_in_heap (F6 hu) (rP I.aC eb) hd dd ?_;have q:=(rel.val k).zgv;rw[F5]at q;rw[<- q,<- l];exact h _ (I.tok _)
theorem zls(I:Inv X pins σ H s)(mu:tq (H a))(hs:DS a s.heap h')(he:∃ q,h'.get? a=some q)(new:cD X.prog X.w (upd H a ob) h' a ob) :
  Inv X pins σ (upd H a ob) { s with heap:=h',toks:=t' } :=
 I.write (x:=a) (e:=a) mu (.inl rfl) (fun b q hb z=>(hs.2 b hb).trans z) he new
theorem zlp{Q:Unit->kb->Prop}(hu:A.units+1<Ae)(I:Inv X pins σ H s)(g:zdM H a y v H')(ry:RelV y u)(rv:RelV v r)(h:∀ s',Inv X pins σ H' s'->Q () s') :
  yY (yZ X.prog X.w) A (setItem (.ref a) u r) Q E s:=by
 obtain⟨aj,k,b,e,ey,eb,l,eH⟩:=g;subst ey eH;cases (show u=Ac b from ry);obtain⟨z,hd,xs,rel,dd⟩:=zlG I.aC e;have hz:xs.length<=zt:=by rw[<- Ew rel];exact z
 have hl:(putK aj k v).length<=zt:=by have:=zoM aj k v;omega
 refine wpAny_setItem_heap (hsz:=hz) (F6 hu) (rP I.aC eb) dd fun h' dd' hs=>h _ ?_;obtain⟨q,es,ep,hq,h2,h3,h4,_,h5⟩:=dd';refine zls I (by rw[e];exact Dw) hs ⟨q,hq⟩ ⟨hl,hd,_,(rel.put k eb rv).keeps fun c ys ec=>?_,q,es,ep,hq,h2,h3,h4,h5⟩;exact ec.upd (fun _ z=>zhn z e (fun z=>nomatch z)) fun _ _ z=>zhn z e (fun z=>nomatch z)
end
theorem zly(I:Inv X pins σ H s)(g:vI H a y o):s.TypeIs (.ref a) "dict":=by
 obtain⟨aj,k,b,e,_,_,_⟩:=g;obtain⟨_,_,xs,_,dd⟩:=t9 I.aC e;exact dd.typeIs
theorem zlF(h:zh)(hb:B7<h.objs.size):cD P w H (h.push { cls:=.type "dict",data:=.dict #[] }) h.objs.size (.dT []) :=
 ⟨AU _,beq_eq_false_iff_ne.mpr (AD (Ao hb)),[],.nil,_,#[],0,AG _ rfl,⟨rfl,rfl,rfl⟩,rfl,rfl,E2⟩
def ztA:TE:=fun _ H Q=>∀ p,H p=none->Q (.ref p) (upd H p (.dT []))
section
theorem zqk:PE X (.Dict [] [] pos) ztA:=fun pins s σ H Q I h =>
 wpAny_Dict_empty ⟨.ref s.heap.objs.size,_,I.laid (a:=s.heap.objs.size) (o:=.dT []) (t':=s.toks) (fun _ _ q=>zI _ q) (zr _) (zlF s.heap I.big),rfl,h _ (I.aC.fresh (zr _))⟩
end
def vW(H:Hp)(a:gV):Prop:=∃ aj,Rd H a (.dT aj)
end
section
end
section
end
section
end
section
end
section
end
section
theorem ziV:∀{xs:List V} {us:List ir},xs.length=us.length->(∀(j:Nat) x u,xs[j]?=some x->us[j]?=some u->RelV x u)->Vals xs us
 | [],[],_,_=>.nil
 | x::xs,u::us,l,h=>.cons (h 0 x u rfl rfl) (ziV (by simpa using l) fun j y v e1 e2=>h (j+1) y v (by simpa using e1) (by simpa using e2))
end
end L2
namespace Q1
section
noncomputable def fr(t b:Int):Int×Int:=if b<0 then(t / -(zR t b:Int),b / -(zR t b:Int)) else(t / (zR t b:Int),b / (zR t b:Int))
theorem zbA{t b:Int}(h:0<b):fr t b=(t / (zR t b:Int),b / (zR t b:Int)):=by
 unfold fr;rw[if_neg (by omega)]
end
section
end
end Q1
namespace QR
open Q1
variable {d:Nat}{t:Int}
theorem zmw(t:Int)(d:Nat):(zR t (d:Int))=Nat.gcd t.natAbs d:=by
 show Nat.gcd t.natAbs (d:Int).natAbs=_;simp
theorem norm(h:d≠0):fr t (d:Int)=((E4 t d h).num,((E4 t d h).den:Int)):=by
 rw[zbA (by omega),Rat.normalize_eq,zmw];simp
def Bd(n:Nat)(r:Rat):Prop:=r.num.natAbs<2^n/\r.den<2^n
theorem zmg(t b:Int):(fr t b).1.natAbs<=t.natAbs/\(fr t b).2.natAbs<=b.natAbs:=by
 unfold fr
 split
 ·exact⟨E5 _ _,E5 _ _⟩
 ·exact⟨E5 _ _,E5 _ _⟩
noncomputable def part(xs ys:List Rat):Nat->Rat
 | 0=>0
 | i+1=>part xs ys i+xs.getD i 0*ys.getD i 0
end QR
namespace KC
open PySem L2 PySem.Spec PyProof.Rows
section
namespace Bt
theorem isinstance:Ad "isinstance"=some (.builtin "isinstance"):=by decide +kernel
end Bt
noncomputable def isInt:zN->Bool
 | .int _ | .bool _=>true|_=>false
noncomputable def cN(T c:String):Option Bool:=if(Df T==Df c)=true then some true else if PySem.W.kitMeta c=true then(fastBuiltinMro T).map (·.contains (.type c)) else none
end
section
end
section
end
end KC
namespace FL
variable {α β:Type}{c:Bool}{a b i:Nat}
theorem zz0  {a:α}{l:List α}:(a::l)[0]?=some a:=rfl
theorem zz1  {a:α}{l:List α} :(a::l)[i + 1]?=l[i]?:=rfl
open PySem
abbrev D:=zN
inductive R(α:Type) where
 | bad
 | err(c:String)(fs:List D)
 | ok(a:α)
noncomputable def R.bind{α β:Type}(r:R α)(k:α->R β):R β:=match r with
 | .bad=>.bad
 | .err c f=>.err c f
 | .ok a=>k a
theorem ah(a:α)(k:α->R β):(R.ok a).bind k=k a:=rfl
theorem ky(k:α->R β):(R.bad:R α).bind k=.bad:=rfl
theorem kz(c:String)(f:List D)(k:α->R β):(R.err c f:R α).bind k=.err c f:=rfl
noncomputable def aN{α:Type}(c:Bool)(r:R α):R α:=if c=true then r else .bad
theorem aR{r:R α}(h:c=true):aN c r=r:=if_pos h
inductive Sl where
 | no
 | val(d:D)
 | ow(p:Bool)(d:D)
 /-- a thing of an own class,which stays: its class,its fields -/
 | ob (c:String) (ds:List D)
abbrev En:=List Sl
inductive Fl where
 | nx|bk|ct
 | rt(d:D)
 | rf(d:D)
abbrev EF:=En->R (D×En)
abbrev TF:=En->R (Bool×En)
abbrev AF:=En->R (List D×En)
abbrev SF:=En->R (Fl×En)
abbrev GF:=D->En->R En
noncomputable def zdF:D->String
 | .none=>"NoneType" | .bool _=>"bool" | .int _=>"int" | .str _=>"str" | .list _=>"list" | .tuple _=>"tuple" | .dict _=>"dict"
def cC(T:String)(d:D):Bool:=match d with
 | .bool _=>T == "bool" || T == "int"
 | d=>zdF d==T
noncomputable def lim:Nat:=1000000
noncomputable def intsOf:List D->Option (List Int)
 | []=>some []
 | .int i::r=>(intsOf r).map (i::·)
 | _::_=>none
noncomputable def boolsOf:List D->Option (List Bool)
 | []=>some []
 | .bool i::r=>(boolsOf r).map (i::·)
 | _::_=>none
noncomputable def R.of{α:Type}:Option α->R α
 | none=>.bad
 | some a=>.ok a
noncomputable def leB(a b:Nat):Bool:=Nat.ble a b
theorem leB_iff:leB a b=true↔a<=b:=Iff.of_eq Nat.ble_eq
theorem jY(h:a<=b):leB a b=true:=leB_iff.mpr h
theorem dX(h:leB a b=true):a<=b:=leB_iff.mp h
def uQ(i j:Int):Bool:=leB (i.natAbs.log2+j.natAbs.log2+2) 134217728
def aH:D->D->R D
 | .int i,.int j=>.ok (.int (i+j))
 | .list a,.list b=>aN (leB (a.length+b.length) lim) (.ok (.list (a++b)))
 | .tuple a,.tuple b=>aN (leB (a.length+b.length) lim) (.ok (.tuple (a++b)))
 | _,_=>.bad
noncomputable def dI:D->D->R D
 | .int i,.int j=>.ok (.int (i-j))
 | _,_=>.bad
def cP:D->D->R D
 | .int i,.int j=>aN (uQ i j) (.ok (.int (i*j)))
 | .tuple a,.int k=>aN (!a.isEmpty&&leB 2 k.toNat&&leB k.toNat 1000000&&leB (a.length*k.toNat) lim) (.ok (.tuple (zo k.toNat a).flatten))
 | _,_=>.bad
def i5:D->D->R D
 | .int i,.int j=>aN (decide (j≠0)) (.ok (.int (i.fdiv j)))
 | _,_=>.bad
def fc:D->D->R D
 | .int i,.int j=>aN (decide (j≠0)) (.ok (.int (i.fmod j)))
 | _,_=>.bad
def fW:D->D->R D
 | .int i,.int j=>aN (decide (0<=j)&&leB j.toNat 1000000&&leB i.natAbs 18446744073709551615) (.ok (.int (i^j.toNat)))
 | _,_=>.bad
noncomputable def iN:D->R D
 | .int i=>.ok (.int (-i))
 | _=>.bad
def aK(a b:D):R D:=aN (AZ a&&AZ b) (.ok (.bool (A0 a b)))
def bR(a b:D):R D:=aN (AZ a&&AZ b) (.ok (.bool (!A0 a b)))
def lexLt:List Int->List Int->Bool
 | [],[]=>false
 | [],_::_=>true
 | _::_,[]=>false
 | x::xs,y::ys=>if x=y then lexLt xs ys else decide (x<y)
def zfd(p:Int->Int->Bool)(q:List Int->List Int->Bool):D->D->R D
 | .int i,.int j=>.ok (.bool (p i j))
 | .tuple a,.tuple b=>(R.of (intsOf a)).bind fun x=>(R.of (intsOf b)).bind fun y=>.ok (.bool (q x y))
 | _,_=>.bad
def dD:D->D->R D:=zfd (fun i j=>decide (i<j)) lexLt
noncomputable def wM(p:Int->Int->Bool):D->D->R D
 | .int i,.int j=>.ok (.bool (p i j))
 | _,_=>.bad
def jb:D->D->R D:=wM fun i j=>decide (i<=j)
def gC:D->D->R D:=wM fun i j=>decide (j<i)
def jt:D->D->R D:=wM fun i j=>decide (j<=i)
noncomputable def zng:D->R D
 | .none=>.ok (.bool true)
 | _=>.ok (.bool false)
def eI(a b:D):R D:=match b with
 | .none=>zng a
 | _=>.bad
noncomputable def fJ(n:Nat)(i:Int):Option Nat:=if 0<=i then(if i<n then some i.toNat else none) else if -(n:Int)<=i then some (i+n).toNat else none
def bX{α:Type}(xs:List α)(i:Int):Option α:=(fJ xs.length i).bind fun j=>xs[j]?
def aD:D->D->R D
 | .list a,.int i=>R.of (bX a i)
 | .tuple a,.int i=>R.of (bX a i)
 | _,_=>.bad
noncomputable def aX(n d:Nat):Option Int->Nat
 | none=>d
 | some v=>if v<0 then(v+(n:Int)).toNat else min v.toNat n
def cut{α:Type}(xs:List α)(lo hi:Option Int):List α:=(xs.drop (aX xs.length 0 lo)).take (aX xs.length xs.length hi-aX xs.length 0 lo)
def iw(d:D)(lo hi:Option Int):R D:=match d with
 | .list a=>.ok (.list (cut a lo hi))
 | .tuple a=>.ok (.tuple (cut a lo hi))
 | _=>.bad
noncomputable def cH:D->R Bool
 | .none=>.ok false
 | .bool b=>.ok b
 | .int i=>.ok (i != 0)
 | .list a=>.ok (!a.isEmpty)
 | .tuple a=>.ok (!a.isEmpty)
 | _=>.bad
noncomputable def bz:D->R D
 | .list a=>.ok (.int a.length)
 | .tuple a=>.ok (.int a.length)
 | _=>.bad
noncomputable def jN:D->R D
 | .int i=>.ok (.int (if i<0 then -i else i))
 | _=>.bad
noncomputable def xQ:D->D->R D
 | .int i,.int j=>.ok (.int (if j > i then j else i))
 | _,_=>.bad
def ziu:D->R D
 | .list a=>(R.of (intsOf a)).bind fun x=>.ok (.int x.sum)
 | _=>.bad
def tP:D->R D
 | .list a=>(R.of (boolsOf a)).bind fun x=>.ok (.bool (x.all id))
 | _=>.bad
noncomputable def kO:D->R D
 | .list a=>.ok (.list a)
 | .tuple a=>.ok (.list a)
 | _=>.bad
noncomputable def gu:D->R D
 | .list a=>.ok (.tuple a)
 | .tuple a=>.ok (.tuple a)
 | _=>.bad
noncomputable def ziP(d:D):Bool:=match d with
 | .dict _=>false
 | _=>true
def jy(T:String)(d:D):R D:=aN (ziP d) (.ok (.bool (cC T d)))
noncomputable def one(g:D->R D):List D->R D
 | [d]=>g d
 | _=>.bad
noncomputable def two(g:D->D->R D):List D->R D
 | [d,e]=>g d e
 | _=>.bad
noncomputable def gE:D->R (List D)
 | .list a=>.ok a
 | .tuple a=>.ok a
 | _=>.bad
noncomputable def dP(lo hi:Int):List D:=(A4 (hi-lo).toNat).map fun(i:Nat)=>.int (lo+(i:Int))
def sH(i:Int):Bool:=leB i.natAbs 1000000000
def k8:List D->R (List D)
 | [.int j]=>aN (sH j&&leB j.toNat lim) (.ok (dP 0 j))
 | _=>.bad
def sG:List D->R (List D)
 | [.int i,.int j]=>aN (sH i&&sH j&&leB (j-i).toNat lim) (.ok (dP i j))
 | _=>.bad
noncomputable def eC(d:D):EF:=fun ρ=>.ok (d,ρ)
noncomputable def eV(i:Nat):EF:=fun ρ=>match ρ[i]? with
 | some (.val d)=>.ok (d,ρ)
 | _=>.bad
def e1(g:D->R D)(f:EF):EF:=fun ρ=>(f ρ).bind fun x=>(g x.1).bind fun d=>.ok (d,x.2)
def e2(g:D->D->R D)(f h:EF):EF:=fun ρ=>(f ρ).bind fun x=>(h x.2).bind fun y=>(g x.1 y.1).bind fun d=>.ok (d,y.2)
def gi(f h:EF):EF:=fun ρ=>(f ρ).bind fun x=>match x.1 with
 | .bool true=>h x.2
 | .bool false=>.ok (.bool false,x.2)
 | _=>.bad
def kE(f h:EF):EF:=fun ρ=>(f ρ).bind fun x=>match x.1 with
 | .bool true=>.ok (.bool true,x.2)
 | .bool false=>h x.2
 | _=>.bad
def iJ(f:EF):EF:=fun ρ=>(f ρ).bind fun x=>match x.1 with
 | .bool b=>.ok (.bool (!b),x.2)
 | _=>.bad
def fT(t:TF)(f h:EF):EF:=fun ρ=>(t ρ).bind fun c=>if c.1=true then f c.2 else h c.2
def fS(g h:D->D->R D)(f1 f2 f3:EF):EF:=fun ρ=>(f1 ρ).bind fun x=>(f2 x.2).bind fun y=>(g x.1 y.1).bind fun c=>match c with
 | .bool true=>(f3 y.2).bind fun z=>(h y.1 z.1).bind fun d=>.ok (d,z.2)
 | .bool false=>.ok (.bool false,y.2)
 | _=>.bad
noncomputable def af:AF:=fun ρ=>.ok ([],ρ)
def aa(f:EF)(a:AF):AF:=fun ρ=>(f ρ).bind fun x=>(a x.2).bind fun y=>.ok (x.1::y.1,y.2)
def bq(a:AF):EF:=fun ρ=>(a ρ).bind fun x=>aN (leB x.1.length lim) (.ok (.tuple x.1,x.2))
def bc(a:AF):EF:=fun ρ=>(a ρ).bind fun x=>aN (leB x.1.length lim) (.ok (.list x.1,x.2))
def az(G:List D->R D)(a:AF):EF:=fun ρ=>(a ρ).bind fun x=>(G x.1).bind fun d=>.ok (d,x.2)
abbrev OF:=En->R (Option Int×En)
noncomputable def bK:OF:=fun ρ=>.ok (none,ρ)
def bL(f:EF):OF:=fun ρ=>(f ρ).bind fun x=>match x.1 with
 | .int i=>.ok (some i,x.2)
 | _=>.bad
def kG(f:EF)(lo hi:OF):EF:=fun ρ=>(f ρ).bind fun x=>(lo x.2).bind fun l=>(hi l.2).bind fun u=>(iw x.1 l.1 u.1).bind fun d=>.ok (d,u.2)
noncomputable def bg(ρ:En)(i:Nat):R D:=match ρ[i]? with
 | some (.ow _ d)=>.ok d
 | _=>.bad
noncomputable def eB(ρ:En)(i:Nat):R (List D):=match ρ[i]? with
 | some (.ow _ (.list a))=>.ok a
 | _=>.bad
def m1(g:D->R D)(i:Nat):EF:=fun ρ=>(bg ρ i).bind fun c=>(g c).bind fun d=>.ok (d,ρ)
def m2(g:D->D->R D)(i:Nat)(h:EF):EF:=fun ρ=>(bg ρ i).bind fun _=>(h ρ).bind fun y=>(bg y.2 i).bind fun c=>(g c y.1).bind fun d=>.ok (d,y.2)
def e8(g:D->D->R D)(f:EF)(i:Nat):EF:=fun ρ=>(f ρ).bind fun x=>(bg x.2 i).bind fun c=>(g x.1 c).bind fun d=>.ok (d,x.2)
def kP(g:D->D->R D)(i j:Nat):EF:=fun ρ=>(bg ρ i).bind fun c=>(bg ρ j).bind fun e=>(g c e).bind fun d=>.ok (d,ρ)
def kT(i:Nat)(lo hi:OF):EF:=fun ρ=>(bg ρ i).bind fun _=>(lo ρ).bind fun l=>(hi l.2).bind fun u=>(bg u.2 i).bind fun c=>(iw c l.1 u.1).bind fun d=>.ok (d,u.2)
def kR(g:D->D->R D)(i:Nat)(h:EF):EF:=fun ρ=>(bg ρ i).bind fun _=>(h ρ).bind fun y=>(bg y.2 i).bind fun c=>(g (.list [c]) y.1).bind fun d=>.ok (d,y.2)
inductive Ar where
 | v(f:EF)
 | m(i:Nat)
 | t(f:EF)
inductive Itm where
 | vd(d:D)
 | mi(i:Nat)
 | td(d:D)
def eT:List Ar->En->R (List Itm×En)
 | [],ρ=>.ok ([],ρ)
 | .v f::r,ρ=>(f ρ).bind fun x=>(eT r x.2).bind fun y=>.ok (.vd x.1::y.1,y.2)
 | .m i::r,ρ=>(bg ρ i).bind fun _=>(eT r ρ).bind fun y=>.ok (.mi i::y.1,y.2)
 | .t f::r,ρ=>(f ρ).bind fun x=>(eT r x.2).bind fun y=>.ok (.td x.1::y.1,y.2)
def d7(ρ:En):List Itm->R (List D)
 | []=>.ok []
 | .vd d::r=>(d7 ρ r).bind fun ds=>.ok (d::ds)
 | .mi i::r=>(bg ρ i).bind fun d=>(d7 ρ r).bind fun ds=>.ok (d::ds)
 | .td d::r=>(d7 ρ r).bind fun ds=>.ok (d::ds)
noncomputable def dE(ρ:En)(i:Nat)(d:D):En:=match ρ[i]? with
 | some (.ow p _)=>ρ.set i (.ow p d)
 | _=>ρ
noncomputable def dS:List Itm->List D->List (Nat×Sl)
 | .mi i::r,d::ds=>(i,.ow true d)::dS r ds
 | .vd _::r,_::ds=>dS r ds
 | .td _::r,_::ds=>dS r ds
 | _,_=>[]
noncomputable def cf(m:List (Nat×Sl))(i:Nat)(x:Sl):Sl:=match x,m.lookup i with
 | .ow p _,some (.ow _ d)=>.ow p d
 | x,_=>x
def bY(m:List (Nat×Sl)):Nat->En->En
 | _,[]=>[]
 | n,x::r=>cf m n x::bY m (n+1) r
def iZ(ρ:En)(a:List Itm)(os:List D):En:=bY (dS a os) 0 ρ
def aQ(F:List D->R (D×List D))(a:List Ar):EF:=fun ρ=>(eT a ρ).bind fun x=>(d7 x.2 x.1).bind fun ds=>(F ds).bind fun y=>.ok (y.1,iZ x.2 x.1 y.2)
def tE(f:EF):TF:=fun ρ=>(f ρ).bind fun x=>(cH x.1).bind fun b=>.ok (b,x.2)
def tB(f:EF):TF:=fun ρ=>(f ρ).bind fun x=>match x.1 with
 | .bool b=>.ok (b,x.2)
 | _=>.bad
def bT(t u:TF):TF:=fun ρ=>(t ρ).bind fun c=>if c.1=true then u c.2 else .ok (false,c.2)
def aB(t u:TF):TF:=fun ρ=>(t ρ).bind fun c=>if c.1=true then .ok (true,c.2) else u c.2
def bI(t:TF):TF:=fun ρ=>(t ρ).bind fun c=>.ok (!c.1,c.2)
def tM(i:Nat):TF:=fun ρ=>(bg ρ i).bind fun c=>(cH c).bind fun b=>.ok (b,ρ)
noncomputable def du:TF:=fun ρ=>.ok (true,ρ)
abbrev IF:=En->R (List D×En)
def iE(f:EF):IF:=fun ρ=>(f ρ).bind fun x=>(gE x.1).bind fun l=>.ok (l,x.2)
def fH(a:AF):IF:=fun ρ=>(a ρ).bind fun x=>(k8 x.1).bind fun l=>.ok (l,x.2)
def kL(a:AF):IF:=fun ρ=>(a ρ).bind fun x=>(sG x.1).bind fun l=>.ok (l,x.2)
noncomputable def eY:Nat->List D->List D
 | _,[]=>[]
 | n,d::r=>.tuple [.int n,d]::eY (n+1) r
noncomputable def gN(i:Nat):GF:=fun d ρ=>match ρ[i]? with
 | some (.ow true _)=>.bad
 | some _=>.ok (ρ.set i (.val d))
 | none=>.bad
def ee:List GF->List D->En->R En
 | [],[],ρ=>.ok ρ
 | g::r,d::ds,ρ=>(g d ρ).bind fun ρ1=>ee r ds ρ1
 | _,_,_=>.bad
def gT(gs:List GF):GF:=fun d ρ=>match d with
 | .tuple ds=>ee gs ds ρ
 | _=>.bad
noncomputable def cg(k:Nat)(ix:List Nat)(ρ:En):En:=zo k .no++ix.map fun i=>(ρ[i]?).getD .no
def back(ρ:En)(ix:List Nat)(cs:En):En:=bY (ix.zip cs) 0 ρ
def iH(k:Nat)(ix:List Nat)(g:GF)(t:TF)(f:EF):List D->En->List D->R (List D×En)
 | [],ρ,acc=>.ok (acc,ρ)
 | x::xs,ρ,acc=>(g x (cg k ix ρ)).bind fun β=>(t β).bind fun c =>
   if c.1=true then(f c.2).bind fun y=>aN (leB (acc.length+1) lim) (iH k ix g t f xs (back ρ ix (y.2.drop k)) (acc++[y.1]))
   else iH k ix g t f xs (back ρ ix (c.2.drop k)) acc
def dB(k:Nat)(ix:List Nat)(it:IF)(g:GF)(t:TF)(f:EF):EF:=fun ρ=>(it ρ).bind fun x=>(iH k ix g t f x.1 x.2 []).bind fun y=>.ok (.list y.1,y.2)
noncomputable def aw:SF:=fun ρ=>.ok (.nx,ρ)
def ag(s t:SF):SF:=fun ρ=>(s ρ).bind fun x=>match x.1 with
 | .nx=>t x.2
 | _=>.ok x
def sE(f:EF):SF:=fun ρ=>(f ρ).bind fun x=>.ok (.nx,x.2)
def ax(g:GF)(f:EF):SF:=fun ρ=>(f ρ).bind fun x=>(g x.1 x.2).bind fun ρ1=>.ok (.nx,ρ1)
def bx(i:Nat)(f:EF):SF:=fun ρ=>(f ρ).bind fun x=>match x.2[i]? with
 | some (.ow true _)=>.bad
 | some _=>.ok (.nx,x.2.set i (.ow false x.1))
 | none=>.bad
def fj(i:Nat)(s:SF):SF:=fun ρ=>(s ρ).bind fun x=>match x.1 with
 | .nx=>(match x.2[i]? with
  | some (.ow false d)=>.ok (.nx,x.2.set i (.val d))
  | _=>.bad)
 | _=>.ok x
def dq(i j:Nat)(f h:EF):SF:=fun ρ=>(f ρ).bind fun x=>(h x.2).bind fun y=>(gN i x.1 y.2).bind fun ρ1=>(gN j y.1 ρ1).bind fun ρ2=>.ok (.nx,ρ2)
def kF(f n:EF):EF:=fun ρ=>(f ρ).bind fun x=>(n x.2).bind fun y=>match y.1 with
 | .int k=>aN (decide (0<=k)&&leB k.toNat 1000000) (.ok (.list (zo k.toNat x.1),y.2))
 | _=>.bad
noncomputable def fN(i:Nat)(s:SF):SF:=fun ρ=>match ρ[i]? with
 | some (.ow false d)=>s (ρ.set i (.val d))
 | _=>.bad
def ak(f:EF):SF:=fun ρ=>(f ρ).bind fun x=>.ok (.rt x.1,x.2)
def cX(f:EF):SF:=fun ρ=>(f ρ).bind fun x=>.ok (.rf x.1,x.2)
noncomputable def lr(i:Nat):SF:=fun ρ=>match ρ[i]? with
 | some (.ow false d)=>.ok (.rf d,ρ)
 | _=>.bad
noncomputable def lu:SF:=fun ρ=>.ok (.rt .none,ρ)
def ao(t:TF)(a b:SF):SF:=fun ρ=>(t ρ).bind fun c=>if c.1=true then a c.2 else b c.2
noncomputable def iu:SF:=fun _=>.bad
noncomputable def lh:SF:=fun ρ=>.ok (.bk,ρ)
noncomputable def lq:SF:=fun ρ=>.ok (.ct,ρ)
def forL(g:GF)(b:SF):List D->En->R (Fl×En)
 | [],ρ=>.ok (.nx,ρ)
 | x::xs,ρ=>(g x ρ).bind fun ρ1=>(b ρ1).bind fun y=>match y.1 with
  | .nx | .ct=>forL g b xs y.2
  | .bk=>.ok (.nx,y.2)
  | .rt d=>.ok (.rt d,y.2)
  | .rf d=>.ok (.rf d,y.2)
def dZ(it:IF)(g:GF)(b:SF):SF:=fun ρ=>(it ρ).bind fun x=>forL g b x.1 x.2
def qA(t:TF)(b:SF):Nat->En->R (Fl×En)
 | 0,_=>.bad
 | n+1,ρ=>(t ρ).bind fun c=>if c.1=true then(b c.2).bind fun y=>match y.1 with
   | .nx | .ct=>qA t b n y.2
   | .bk=>.ok (.nx,y.2)
   | .rt d=>.ok (.rt d,y.2)
   | .rf d=>.ok (.rf d,y.2)
  else .ok (.nx,c.2)
def qp(fuel:En->Nat)(t:TF)(b:SF):SF:=fun ρ=>qA t b (fuel ρ) ρ
def lC(i:Nat)(u:List D->D->R (List D))(f:EF):SF:=fun ρ=>(eB ρ i).bind fun _=>(f ρ).bind fun x=>(eB x.2 i).bind fun c=>(u c x.1).bind fun c'=>.ok (.nx,dE x.2 i (.list c'))
def ku(a:List D)(d:D):R (List D):=aN (leB (a.length+1) lim) (.ok (a++[d]))
def lD(i:Nat)(u:List D->R (List D)):SF:=fun ρ=>(eB ρ i).bind fun c=>(u c).bind fun c'=>.ok (.nx,dE ρ i (.list c'))
def setM(i:Nat)(f k:EF):SF:=fun ρ=>(f ρ).bind fun x=>(eB x.2 i).bind fun _=>(k x.2).bind fun y=>(eB y.2 i).bind fun c=>match y.1 with
 | .int j=>(R.of (fJ c.length j)).bind fun n=>.ok (.nx,dE y.2 i (.list (c.set n x.1)))
 | _=>.bad
noncomputable def slots:List Bool->List D->En
 | m::ms,d::ds=>(if m=true then .ow true d else .val d)::slots ms ds
 | _,_=>[]
noncomputable def outD(m:Bool)(d:D)(x:Option Sl):D:=match m,x with
 | true,some (.ow _ d')=>d'
 | _,_=>d
def outs:List Bool->List D->En->List D
 | m::ms,d::ds,ρ=>outD m d ρ.head?::outs ms ds ρ.tail
 | _,_,_=>[]
def run(ms:List Bool)(fr:Bool)(n:Nat)(b:SF)(ds:List D):R (D×List D) :=
 if ds.length=ms.length then(b (slots ms ds++zo (n-ds.length) .no)).bind fun x=>match x.1,fr with
  | .rt d,false=>.ok (d,outs ms ds x.2)
  | .rf d,true=>.ok (d,outs ms ds x.2)
  | .nx,false=>.ok (.none,outs ms ds x.2)
  | _,_=>.bad
 else .bad
def bo(fr:Bool)(k n:Nat)(b:SF)(ds:List D):R D:=(run (zo k false) fr n b ds).bind fun x=>.ok x.1
end FL
namespace FL
open PySem L2 PySem.Spec
open PyProof.Rows hiding St
variable {xs:List V}{H H' H1:Hp}{pos:zc}{P:List ir->Prop}{env:zC}{d:zN}{o:HO}{es:List yW}{ρ:En}{v:V}{i:Nat}{σ:St}{a:gV}
section
theorem wX(h:∀ a,P [a]):∀ us:List ir,us.length=1->P us
 | [a],_=>h a
theorem wY(h:∀ a b,P [a,b]):∀ us:List ir,us.length=2->P us
 | [a,b],_=>h a b
theorem el3(h:∀ a b c,P [a,b,c]):∀ us:List ir,us.length=3->P us
 | [a,b,c],_=>h a b c
class Cs where
 C:Hp
 st:∀ a u,C a=some u->∃ o xs,u=.frz o (.tup xs)
 /-- the own classes: where each stands,its fields' names -/
 O:String->Option (gV×List dm):=fun _=>none
 /-- the own error classes -/
 X:String->Option (gV×List dm):=fun _=>none
def pk(K:yU)(H:Hp)(a:gV)(xs:List V):Prop:=(∃ o,H a=some (.frz o (.lst xs))) \/
 ∃(o:zb) (its:Array ir) (n:Nat),K.lookup a=some o/\o.cls=.type "list"/\o.dict=none/\o.data=.seq its n/\its.size<=zt/\Vals xs its.toList
noncomputable def kD:Key->zN
 | .inl i=>.int i
 | .inr x=>.str x
def mG(k:List Key):zN:=.tuple (k.map kD)
mutual
def Fz(K:yU)(H:Hp):zN->V->Prop
 | .none,v=>v=.non
 | .bool b,v=>v=.bl b
 | .int i,v=>v=.int i
 | .str x,v=>v=.str x
 | .list xs,v=>∃ a vs,v=.ref a/\pk K H a vs/\aq K H xs vs
 | .tuple xs,v=>∃ a vs,v=.ref a/\cT H a vs/\aq K H xs vs
 | .dict aj,v=>∃ a o,v=.ref a/\∃ kk,H a=some (.frz o (.dT kk))/\bJ K H aj kk
def aq(K:yU)(H:Hp):List zN->List V->Prop
 | [],vs=>vs=[]
 | d::ds,vs=>∃ v r,vs=v::r/\Fz K H d v/\aq K H ds r
def bJ(K:yU)(H:Hp):List (zN×zN)->List (List Key×V)->Prop
 | [],kk=>kk=[]
 | (k,d)::r,kk=>∃ q v t,kk=(q,v)::t/\k=mG q/\Fz K H d v/\bJ K H r t
end
noncomputable def tF:HO->Prop
 | .tup _=>True
 | .frz _ _=>True
 | .ins _ _ _=>True
 | .ext _=>True
 | .xd _=>True
 | _=>False
def aF(H H':Hp):Prop:=∀ a o,H a=some o->tF o->H' a=some o
theorem aF.refl(H:Hp):aF H H:=fun _ _ h _=>h
theorem aF.trans{H2:Hp}(a:aF H H1)(b:aF H1 H2):aF H H2:=fun c o h s=>b c o (a c o h s) s
theorem aF.of(s:aA H H'):aF H H':=fun a o h _=>s a o h
section
variable {K:yU}
theorem aF.yC(e:aF H H')(h:cT H a xs):cT H' a xs:=by
 rcases h with h|⟨o,h⟩
 ·exact .inl (e _ _ h trivial)
 ·exact .inr ⟨o,e _ _ h trivial⟩
theorem aF.oy(e:aF H H')(h:pk K H a xs):pk K H' a xs:=by
 rcases h with⟨o,h⟩|h
 ·exact .inl ⟨o,e _ _ h trivial⟩
 ·exact .inr h
theorem pk.sq(h:pk K H a xs):cw K H a xs:=by
 rcases h with⟨o,h⟩|h
 ·exact .inl (.inr ⟨o,h⟩)
 ·exact .inr h
mutual
theorem Fz.mono(e:aF H H'):∀(d:zN) (v:V),Fz K H d v->Fz K H' d v
 | .none,v,h=>by simp only[Fz]at h ⊢;exact h
 | .bool b,v,h=>by simp only[Fz]at h ⊢;exact h
 | .int i,v,h=>by simp only[Fz]at h ⊢;exact h
 | .str x,v,h=>by simp only[Fz]at h ⊢;exact h
 | .list xs,v,h=>by
  simp only[Fz]at h ⊢;obtain⟨a,vs,e1,h1,h2⟩:=h;exact⟨a,vs,e1,e.oy h1,aq.mono e xs vs h2⟩
 | .tuple xs,v,h=>by
  simp only[Fz]at h ⊢;obtain⟨a,vs,e1,h1,h2⟩:=h;exact⟨a,vs,e1,e.yC h1,aq.mono e xs vs h2⟩
 | .dict aj,v,h=>by
  simp only[Fz]at h ⊢;obtain⟨a,o,e1,h⟩:=h;obtain⟨kk,h1,h2⟩:=h;exact⟨a,o,e1,⟨kk,e _ _ h1 trivial,bJ.mono e aj kk h2⟩⟩
theorem aq.mono(e:aF H H'):∀(ds:List zN) (vs:List V),aq K H ds vs->aq K H' ds vs
 | [],vs,h=>by simp only[aq]at h ⊢;exact h
 | d::ds,vs,h=>by
  simp only[aq]at h ⊢;obtain⟨v,r,e1,h1,h2⟩:=h;exact⟨v,r,e1,Fz.mono e d v h1,aq.mono e ds r h2⟩
theorem bJ.mono(e:aF H H'):∀(aj:List (zN×zN)) (kk:List (List Key×V)),bJ K H aj kk->bJ K H' aj kk
 | [],kk,h=>by simp only[bJ]at h ⊢;exact h
 | (k,d)::r,kk,h=>by
  simp only[bJ]at h ⊢;obtain⟨q,v,t,e1,e2,h1,h2⟩:=h;exact⟨q,v,t,e1,e2,Fz.mono e d v h1,bJ.mono e r t h2⟩
end
theorem aq.len:∀{ds:List zN} {vs:List V},aq K H ds vs->vs.length=ds.length
 | [],vs,h=>by simp only[aq]at h;subst h;rfl
 | d::ds,vs,h=>by
  simp only[aq]at h;obtain⟨v,r,rfl,_,h2⟩:=h;simp[aq.len h2]
theorem aq.get:∀{ds:List zN} {vs:List V} {i:Nat} {d:zN},aq K H ds vs->ds[i]?=some d->∃ v,vs[i]?=some v/\Fz K H d v
 | [],vs,i,d,h,e=>by simp at e
 | d0::ds,vs,i,d,h,e=>by
  simp only[aq]at h;obtain⟨v,r,rfl,h1,h2⟩:=h;cases i with
  | zero=>simp at e;subst e;exact⟨v,by simp,h1⟩
  | succ i =>
   obtain⟨w,e1,f⟩:=aq.get h2 (by simpa using e);exact⟨w,by simpa using e1,f⟩
theorem aq.app:∀{ds es:List zN} {vs ws:List V},aq K H ds vs->aq K H es ws->aq K H (ds++es) (vs++ws)
 | [],es,vs,ws,h,g=>by simp only[aq]at h;subst h;exact g
 | d::ds,es,vs,ws,h,g=>by
  simp only[aq]at h;obtain⟨v,r,rfl,h1,h2⟩:=h;simp only[Ap,aq];exact⟨v,r++ws,rfl,h1,aq.app h2 g⟩
theorem aq.take:∀{ds:List zN} {vs:List V} (n:Nat),aq K H ds vs->aq K H (ds.take n) (vs.take n)
 | ds,vs,0,h=>by simp[aq]
 | [],vs,n+1,h=>by simp only[aq]at h;subst h;simp[aq]
 | d::ds,vs,n+1,h=>by
  simp only[aq]at h;obtain⟨v,r,rfl,h1,h2⟩:=h;simp only[List.take_succ_cons,aq];exact⟨v,_,rfl,h1,aq.take n h2⟩
theorem aq.drop:∀{ds:List zN} {vs:List V} (n:Nat),aq K H ds vs->aq K H (ds.drop n) (vs.drop n)
 | ds,vs,0,h=>by simpa using h
 | [],vs,n+1,h=>by simp only[aq]at h;subst h;simp[aq]
 | d::ds,vs,n+1,h=>by
  simp only[aq]at h;obtain⟨v,r,rfl,h1,h2⟩:=h;simpa using aq.drop n h2
theorem aq.set:∀{ds:List zN} {vs:List V} {d:zN} {v:V} (n:Nat),aq K H ds vs->Fz K H d v->aq K H (ds.set n d) (vs.set n v)
 | [],vs,d,v,n,h,f=>by simp only[aq]at h;subst h;simp[aq]
 | d0::ds,vs,d,v,n,h,f=>by
  simp only[aq]at h;obtain⟨v0,r,rfl,h1,h2⟩:=h;cases n with
  | zero=>simp only[zO,aq];exact⟨v,r,rfl,f,h2⟩
  | succ n=>simp only[zP,aq];exact⟨v0,_,rfl,h1,aq.set n h2 f⟩
theorem aq.rep{ds:List zN}{vs:List V}(h:aq K H ds vs):∀ k:Nat,aq K H (zo k ds).flatten (zo k vs).flatten
 | 0=>by simp[aq]
 | k+1=>by simp only[C2,D5];exact aq.app h (aq.rep h k)
theorem aq.ints:∀{ds:List zN} {vs:List V} {ns:List Int},aq K H ds vs->intsOf ds=some ns->vs=ns.map V.int/\ds=ns.map zH
 | [],vs,ns,h,e=>by simp only[aq]at h;simp only[intsOf,Bh]at e;subst h;subst e;exact⟨rfl,rfl⟩
 | d::ds,vs,ns,h,e=>by
  simp only[aq]at h;obtain⟨v,r,rfl,h1,h2⟩:=h;cases d with
  | int i =>
   simp only[intsOf,BE]at e;obtain⟨ms,e1,rfl⟩:=e;obtain⟨a,b⟩:=aq.ints h2 e1;simp only[Fz]at h1;subst h1;subst a;subst b
   exact⟨rfl,rfl⟩
  | _=>simp[intsOf]at e
theorem aq.bools:∀{ds:List zN} {vs:List V} {ns:List Bool},aq K H ds vs->boolsOf ds=some ns->vs=ns.map V.bl/\ds=ns.map Bb
 | [],vs,ns,h,e=>by simp only[aq]at h;simp only[boolsOf,Bh]at e;subst h;subst e;exact⟨rfl,rfl⟩
 | d::ds,vs,ns,h,e=>by
  simp only[aq]at h;obtain⟨v,r,rfl,h1,h2⟩:=h;cases d with
  | bool i =>
   simp only[boolsOf,BE]at e;obtain⟨ms,e1,rfl⟩:=e;obtain⟨a,b⟩:=aq.bools h2 e1;simp only[Fz]at h1;subst h1;subst a;subst b
   exact⟨rfl,rfl⟩
  | _=>simp[boolsOf]at e
theorem aq.ofInts:∀(ns:List Int),aq K H (ns.map zH) (ns.map V.int)
 | []=>by simp[aq]
 | i::r=>by simp only[zE,aq];exact⟨_,_,rfl,by simp[Fz],aq.ofInts r⟩
end
def cv(K:yU)(H:Hp)(a:gV):zN->Prop
 | .list ds=>∃ vs,H a=some (.lst vs)/\aq K H ds vs
 | .dict aj=>∃ kk,H a=some (.dT kk)/\bJ K H aj kk
 | _=>False
def Tp(K:yU)(H:Hp):zN->V->Prop
 | .list ds,v=>∃ a vs,v=.ref a/\cw K H a vs/\aq K H ds vs
 | .dict aj,v=>∃ a,v=.ref a/\∃ kk,Rd H a (.dT kk)/\bJ K H aj kk
 | d,v=>Fz K H d v
section
variable {K:yU}
theorem Fz.tp(h:Fz K H d v):Tp K H d v:=by
 cases d with
 | list ds =>
  simp only[Fz]at h;obtain⟨a,vs,e,h1,h2⟩:=h;exact⟨a,vs,e,h1.sq,h2⟩
 | dict aj =>
  simp only[Fz]at h;obtain⟨a,o,e,h⟩:=h;obtain⟨kk,h1,h2⟩:=h;exact⟨a,e,⟨kk,.inr ⟨o,h1⟩,h2⟩⟩
 | _=>exact h
theorem cv.tp(h:cv K H a d):Tp K H d (.ref a):=by
 cases d with
 | list ds =>
  obtain⟨vs,h1,h2⟩:=h;exact⟨a,vs,rfl,cw.of h1,h2⟩
 | dict aj =>
  obtain⟨kk,h1,h2⟩:=h;exact⟨a,rfl,⟨kk,.inl h1,h2⟩⟩
 | _=>exact h.elim
noncomputable def Own:HO->Prop
 | .lst _=>True
 | .dT _=>True
 | .dK _=>True
 | _=>False
theorem cv.own(h:cv K H a d):∃ o,H a=some o/\Own o:=by
 cases d with
 | list ds=>obtain⟨vs,h1,_⟩:=h;exact⟨_,h1,trivial⟩
 | dict aj =>
  obtain⟨kk,h1,h2⟩:=h;exact⟨_,h1,trivial⟩
 | _=>exact h.elim
theorem Own.jB(h:Own o):¬ tF o:=by cases o <;> first|exact fun z=>z|exact h.elim
theorem cv.mono{d:zN}{a:gV}(e:aF H H')(k:H' a=H a)(h:cv K H a d):cv K H' a d:=by
 cases d with
 | list ds=>obtain⟨vs,h1,h2⟩:=h;exact⟨vs,by rw[k];exact h1,h2.mono e⟩
 | dict aj =>
  obtain⟨kk,h1,h2⟩:=h;exact⟨kk,by rw[k];exact h1,h2.mono e⟩
 | _=>exact h.elim
end
def tD[Cs](K:yU)(H:Hp)(a:gV)(c:String)(ds:List D):Prop:=∃ C ns dx vs,Cs.O c=some (C,ns)/\H a=some (.ins C dx (ns.zip vs))/\vs.length=ns.length/\aq K H ds vs
noncomputable def ErD(H:Hp)(ns:List dm)(vs:List V):Option gV->Prop
 | none=>ns=[]
 | some dx=>H dx=some (.xd (ns.zip vs))
def sZ[Cs](K:yU)(H:Hp)(c:String)(ds:List D)(C:gV)(dd:Option gV):Prop:=Cs.O c=none/\∃ ns vs,Cs.X c=some (C,ns)/\vs.length=ns.length/\ErD H ns vs dd/\aq K H ds vs
def sY[Cs](K:yU)(H:Hp)(a:gV)(c:String)(ds:List D):Prop:=∃ C dd,H a=some (jh a C dd)/\sZ K H c ds C dd
def iY[Cs](K:yU)(H:Hp):Sl->Option V->Prop
 | .no,_=>True
 | .val d,some v=>Fz K H d v
 | .ow _ d,some (.ref a)=>cv K H a d
 | .ob c ds,some (.ref a)=>tD K H a c ds\/sY K H a c ds
 | _,_=>False
def At(ρ:En)(σ:St)(i:Nat)(a:gV):Prop:=(∃ p d,ρ[i]?=some (.ow p d))/\σ[i]?=some (some (.ref a))
def jI[Cs](H:Hp):Prop:=∀ a u,Cs.C a=some u->H a=some u
theorem jI.mono[Cs](h:jI H)(e:aF H H'):jI H':=fun a u q=>e a u (h a u q) (by
 obtain⟨o,xs,rfl⟩:=Cs.st a u q
 trivial)
structure Rel[Cs](K:yU)(ρ:En)(σ:St)(H:Hp):Prop where
 len:ρ.length=σ.length
 ok:∀(i:Nat) x v,ρ[i]?=some x->σ[i]?=some v->iY K H x v
 sep:∀ i j a,At ρ σ i a->At ρ σ j a->i=j
 cst:jI H
variable [Cs]
def MA(ρ:En)(σ:St)(a:gV):Prop:=∃ i,At ρ σ i a
structure cA(ρ ρ':En)(σ:St)(H H':Hp):Prop where
 md:∀(i:Nat) p,(∃ d,ρ[i]?=some (.ow p d))↔∃ d,ρ'[i]?=some (.ow p d)
 kp:∀ a o,H a=some o->¬ MA ρ σ a->H' a=some o
section
variable {K:yU}{ρ' ρ'':En}{f9:Hp}
theorem Rel.zj5(r:Rel K ρ σ H)(h:At ρ σ i a):∃ p d,ρ[i]?=some (.ow p d)/\cv K H a d:=by
 obtain⟨⟨p,d,e⟩,e2⟩:=h;exact⟨p,d,e,r.ok i _ _ e e2⟩
theorem Rel.fV(r:Rel K ρ σ H)(h:MA ρ σ a):∃ o,H a=some o/\Own o:=by
 obtain⟨i,h⟩:=h;obtain⟨p,d,_,m⟩:=r.zj5 h;exact m.own
theorem cA.refl:cA ρ ρ σ H H:=⟨fun _ _=>C7,fun _ _ h _=>h⟩
theorem cA.ma(s:cA ρ ρ' σ H H'):MA ρ σ a↔MA ρ' σ a:=by
 constructor
 ·rintro⟨i,⟨p,h⟩,e⟩;exact⟨i,⟨p,(s.md i p).mp h⟩,e⟩
 ·rintro⟨i,⟨p,h⟩,e⟩;exact⟨i,⟨p,(s.md i p).mpr h⟩,e⟩
theorem cA.trans(a:cA ρ ρ' σ H H')(b:cA ρ' ρ'' σ H' f9):cA ρ ρ'' σ H f9 :=
 ⟨fun i p=>(a.md i p).trans (b.md i p),fun c o h n=>b.kp c o (a.kp c o h n) fun z=>n (a.ma.mpr z)⟩
theorem cA.of(s:aA H H'):cA ρ ρ σ H H':=⟨fun _ _=>C7,fun a o h _=>s a o h⟩
theorem cA.d9(s:cA ρ ρ' σ H H')(r:Rel K ρ σ H):aF H H':=fun a o h st=>s.kp a o h fun m=>by
 obtain⟨o',e,w⟩:=r.fV m;rw[h]at e;cases e;exact w.jB st
theorem tD.mono{a:gV}{c:String}{ds:List D}(f:aF H H')(h:tD K H a c ds):tD K H' a c ds:=by
 obtain⟨C,ns,dx,vs,h1,h2,h3,h4⟩:=h;exact⟨C,ns,dx,vs,h1,f _ _ h2 trivial,h3,h4.mono f⟩
theorem sZ.mono{c:String}{ds:List D}{C:gV}{dd:Option gV}(f:aF H H')(h:sZ K H c ds C dd):sZ K H' c ds C dd:=by
 obtain⟨n,ns,vs,h1,h2,h3,h4⟩:=h;refine⟨n,ns,vs,h1,h2,?_,h4.mono f⟩;cases dd with
 | none=>exact h3
 | some dx=>exact f _ _ h3 trivial
theorem sY.mono{a:gV}{c:String}{ds:List D}(f:aF H H')(h:sY K H a c ds):sY K H' a c ds:=by
 obtain⟨C,dd,h1,h2⟩:=h;exact⟨C,dd,f _ _ h1 trivial,h2.mono f⟩
theorem iY.mono{x:Sl}{v:Option V}(f:aF H H')(k:∀ a,v=some (.ref a)->(∃ p d,x=.ow p d)->H' a=H a)(h:iY K H x v):iY K H' x v:=by
 cases x with
 | no=>trivial
 | val d=>cases v with
  | none=>exact h.elim
  | some v=>exact Fz.mono f d v h
 | ow p d=>cases v with
  | none=>exact h.elim
  | some v=>cases v with
   | ref a=>exact cv.mono f (k a rfl ⟨p,d,rfl⟩) h
   | _=>exact h.elim
 | ob c ds=>cases v with
  | none=>exact h.elim
  | some v=>cases v with
   | ref a=>exact Or.imp (tD.mono f) (sY.mono f) h
   | _=>exact h.elim
theorem Rel.same(r:Rel K ρ σ H)(s:aA H H'):Rel K ρ σ H':=by
 refine⟨r.len,fun i x v e1 e2=>(r.ok i x v e1 e2).mono (aF.of s) fun a e3 ⟨p,d,e4⟩=>?_,r.sep,r.cst.mono (aF.of s)⟩;subst e3;subst e4
 obtain⟨o,e,_⟩:=r.fV ⟨i,⟨p,d,e1⟩,e2⟩;rw[e,s a o e]
theorem Rel.put(r:Rel K ρ σ H)(n:¬ MA ρ σ a)(ns:∀ u,H a=some u->¬ tF u):Rel K ρ σ (upd H a o):=by
 have f:aF H (upd H a o):=fun b u e st=>by
  rw[aU fun z=>by subst z;exact ns u e st];exact e
 refine⟨r.len,fun i x v e1 e2=>(r.ok i x v e1 e2).mono f fun b e3 ⟨p,d,e4⟩=>?_,r.sep,r.cst.mono f⟩;subst e3;subst e4
 exact aU fun z=>n ⟨i,⟨p,d,e1⟩,z▸e2⟩
end
noncomputable def nst:yW->Bool
 | .Starred _ _=>false
 | _=>true
theorem se{a:yW}(h:nst a=true):yX (a::es) env=(false,zk a env)::yX es env:=by
 cases a <;> first|rfl|cases h
theorem sp(h:es.all nst=true):(zK pos (yX es env)).any (·.1)=false:=by
 induction es with
 | nil=>rfl
 | cons a es ih =>
  rw[FQ,zX]at h;rw[se h.1];exact ih h.2
end
variable {X:Cx}{c:Bool}{g g':D->D->R D}{w:ir}{x:dm}{f h:EF}{p:zc}{ρ1:En}{te:TE}{pins:List (gV×zb)}{t':TT}{b e:yW}{Q:VK}{d:D}{S:Bool->Hp->Prop}{r:List V->Hp->VK->Prop}{β:Type}{s:kb}{i:Int}{u:HO}{op:By}{σ:L2.St}{fa:AF}{G:List D->R D}{t:TF}
section
variable [Cs]
section
theorem zbC{o:zb}(I:Inv X pins σ H s)(hd:H a=some u)(ow:Own u)(ho:s.heap.get? a=some o):Inv X pins σ (upd H a (.frz o u)) s:=by
 have ne:∀ b w,H b=some w->¬ Own w->b≠a:=fun b w e n z=>by
  subst z;rw[e]at hd;cases hd;exact n ow
 refine Inv.step (s:=s) (h':=s.heap) (H':=upd H a (.frz o u)) (g':=s.gens) (t':=s.toks) (d':=s.drawn) (ch:=[]) I (fun _ z=>nomatch z) (fun b o _ _ _ e _=>e) (fun b o _ _ _ e _=>⟨o.slots,e⟩) (fun b _ _ _ n=>?_) (fun b o _ e=>⟨o,e⟩)
  (fun b xs e=>?_) (fun b o u e=>?_) (fun b ps e=>⟨#[],?_⟩) (fun m hm=>hm) (fun b w e=>?_) I.bare
 ·rw[aU fun z=>by subst z;rw[n]at hd;cases hd];exact n
 ·rw[aU (ne b _ e fun z=>z)];exact e
 ·rw[aU (ne b _ e fun z=>z)];exact e
 ·rw[aU (ne b _ e fun z=>z),e];simp
 ·have st:∀(b:gV) (w:HO),cD X.prog X.w H s.heap b w->cD X.prog X.w (upd H a (.frz o u)) s.heap b w:=fun b w k =>
   k.iQ (fun _ _ _ q=>q) (fun b' q=>by rw[aU (ne b' _ q fun z=>z)];exact q) (fun b' xs q=>q.upd (fun _ r=>ne b' _ r fun z=>z) fun _ _ r=>ne b' _ r fun z=>z)
  by_cases c:b=a
  ·subst c
   rw[bU]at e;cases e;exact⟨ho,st b u (I.aC b u hd)⟩
  ·rw[aU c]at e
   exact st b w (I.aC b w e)
theorem zfI(h:EP X pins σ (fun v H1=>∃ a u,v=.ref a/\H1 a=some u/\Own u/\∀ o,Q v (upd H1 a (.frz o u))) w s):EP X pins σ Q w s:=by
 obtain⟨v,H1,I,r,a,u,e,e1,ow,q⟩:=h;obtain⟨o,ho⟩:=(I.aC a u e1).some;exact⟨v,_,zbC I e1 ow ho,r,q o⟩
def tFz(t:TE):TE:=fun σ H Q=>t σ H fun v H1=>∃ a u,v=.ref a/\H1 a=some u/\Own u/\∀ o,Q v (upd H1 a (.frz o u))
theorem zqm{t:TE}(h:PE X e t):PE X e (tFz t):=fun pins s σ H Q I q=>aT (h pins s σ H _ I q) fun _ _ z=>zfI z
end
def Good{β:Type}(K:yU)(ρ:En)(σ:L2.St)(H:Hp)(r:R (β×En))(P:β->En->Hp->Prop):Prop:=match r with
 | .ok x=>∀ H',Rel K x.2 σ H'->cA ρ x.2 σ H H'->P x.1 x.2 H'
 | _=>False
noncomputable def tV(K:yU)(f:EF):TE:=fun σ H Q=>∃ ρ,Rel K ρ σ H/\Good K ρ σ H (f ρ) fun d _ H'=>∀ v,Fz K H' d v->Q v H'
noncomputable def tT(K:yU)(f:TF):TT:=fun σ H Q=>∃ ρ,Rel K ρ σ H/\Good K ρ σ H (f ρ) fun b _ H'=>Q b H'
noncomputable def tA(K:yU)(f:AF):TA:=fun σ H Q=>∃ ρ,Rel K ρ σ H/\Good K ρ σ H (f ρ) fun ds _ H'=>∀ vs,aq K H' ds vs->Q vs H'
noncomputable def tO(K:yU)(f:OF):TO:=fun σ H Q=>∃ ρ,Rel K ρ σ H/\Good K ρ σ H (f ρ) fun o _ H'=>Q o H'
def tN(K:yU)(f:EF):TE:=fun σ H Q=>∃ ρ,Rel K ρ σ H/\Good K ρ σ H (f ρ) fun d ρ' H'=>∀ a,H a=none->cv K H' a d->Q (.ref a) H'
structure PV(K:yU)(X:Cx)(e:yW)(f:EF):Prop where
 run:X.K=K->PE X e (tV K f)
instance {K:yU}{X:Cx}{e:yW}{f:EF}:CoeFun (PV K X e f) fun _=>X.K=K->PE X e (tV K f):=⟨PV.run⟩
structure fC(K:yU)(X:Cx)(e:yW)(f:TF):Prop where
 run:X.K=K->PT X e (tT K f)
instance {K:yU}{X:Cx}{e:yW}{f:TF}:CoeFun (fC K X e f) fun _=>X.K=K->PT X e (tT K f):=⟨fC.run⟩
structure cI(K:yU)(X:Cx)(e:yW)(f:TF):Prop where
 run:X.K=K->PW X e (tT K f)
instance {K:yU}{X:Cx}{e:yW}{f:TF}:CoeFun (cI K X e f) fun _=>X.K=K->PW X e (tT K f):=⟨cI.run⟩
structure eJ(K:yU)(X:Cx)(es:List yW)(f:AF):Prop where
 run:X.K=K->PA X es (tA K f)
instance {K:yU}{X:Cx}{es:List yW}{f:AF}:CoeFun (eJ K X es f) fun _=>X.K=K->PA X es (tA K f):=⟨eJ.run⟩
structure qK(K:yU)(X:Cx)(e:Option yW)(f:OF):Prop where
 run:X.K=K->PO X e (tO K f)
instance {K:yU}{X:Cx}{e:Option yW}{f:OF}:CoeFun (qK K X e f) fun _=>X.K=K->PO X e (tO K f):=⟨qK.run⟩
structure bw(K:yU)(X:Cx)(e:yW)(f:EF):Prop where
 run:X.K=K->PE X e (tN K f)
instance {K:yU}{X:Cx}{e:yW}{f:EF}:CoeFun (bw K X e f) fun _=>X.K=K->PE X e (tN K f):=⟨bw.run⟩
theorem _root_.L2.PE.weak{t t':TE}(h:PE X e t)(w:∀ σ H Q,t' σ H Q->t σ H Q):PE X e t':=fun pins s σ H Q I q=>h pins s σ H Q I (w σ H Q q)
theorem _root_.L2.PT.weak{t:TT}(h:PT X e t)(w:∀ σ H Q,t' σ H Q->t σ H Q):PT X e t':=fun pins s σ H Q I q=>h pins s σ H Q I (w σ H Q q)
theorem _root_.L2.PW.weak{t:TT}(h:PW X e t)(w:∀ σ H Q,t' σ H Q->t σ H Q):PW X e t':=fun wh pins s σ H Q I q=>h wh pins s σ H Q I (w σ H Q q)
theorem _root_.L2.PA.weak{e:List yW}{t t':TA}(h:PA X e t)(w:∀ σ H Q,t' σ H Q->t σ H Q):PA X e t':=fun pos pins s σ H Q I q=>h pos pins s σ H Q I (w σ H Q q)
theorem _root_.L2.PO.weak{e:Option yW}{t t':TO}(h:PO X e t)(w:∀ σ H Q,t' σ H Q->t σ H Q):PO X e t':=fun pins s σ H Q I q=>h pins s σ H Q I (w σ H Q q)
section
variable {K:yU}{γ:Type}
theorem Good.step{r:R (β×En)}{P:β->En->Hp->Prop}(st:cA ρ ρ1 σ H H1)(g:Good K ρ σ H r P):Good K ρ1 σ H1 r P:=by
 cases r with
 | ok x=>exact fun H' rel s=>g H' rel (st.trans s)
 | _=>exact g
theorem Good.ck{r:R (β×En)}{k:β×En->R (γ×En)}{P:γ->En->Hp->Prop}(g:Good K ρ σ H (r.bind k) P):∃ x,r=.ok x/\Good K ρ σ H (k x) P:=by
 cases r with
 | ok x=>exact⟨x,rfl,g⟩
 | _=>exact g.elim
theorem Good.bV{r:R β}{k:β->R (γ×En)}{P:γ->En->Hp->Prop}(g:Good K ρ σ H (r.bind k) P):∃ x,r=.ok x/\Good K ρ σ H (k x) P:=by
 cases r with
 | ok x=>exact⟨x,rfl,g⟩
 | _=>exact g.elim
theorem Good.aN{r:R (γ×En)}{P:γ->En->Hp->Prop}(g:Good K ρ σ H (aN c r) P):c=true/\Good K ρ σ H r P:=by
 cases c with
 | true=>exact⟨rfl,g⟩
 | false=>exact g.elim
theorem Good.now{x:β}{P:β->En->Hp->Prop}(g:Good K ρ σ H (.ok (x,ρ)) P)(rel:Rel K ρ σ H):P x ρ H:=g H rel .refl
theorem Good.new{x:β}{P:β->En->Hp->Prop}(g:Good K ρ σ H (.ok (x,ρ)) P)(rel:Rel K ρ σ H)(s:aA H H1):P x ρ H1:=g H1 (rel.same s) (.of s)
theorem dO{k:D×En->R (β×En)}{S:VK}{P:β->En->Hp->Prop}(rel:Rel K ρ σ H)(g:Good K ρ σ H ((f ρ).bind k) P)
  (h:∀ d ρ1 v H1,Rel K ρ1 σ H1->cA ρ ρ1 σ H H1->Fz K H1 d v->Good K ρ1 σ H1 (k (d,ρ1)) P->S v H1):tV K f σ H S:=by
 obtain⟨x,e,g1⟩:=g.ck;refine⟨ρ,rel,?_⟩;rw[e];exact fun H' r s v fz=>h x.1 x.2 v H' r s fz (g1.step s)
theorem xi{f:TF}{k:Bool×En->R (β×En)}{P:β->En->Hp->Prop}(rel:Rel K ρ σ H)(g:Good K ρ σ H ((f ρ).bind k) P)
  (h:∀ b ρ1 H1,Rel K ρ1 σ H1->cA ρ ρ1 σ H H1->Good K ρ1 σ H1 (k (b,ρ1)) P->S b H1):tT K f σ H S:=by
 obtain⟨x,e,g1⟩:=g.ck;refine⟨ρ,rel,?_⟩;rw[e];exact fun H' r s=>h x.1 x.2 H' r s (g1.step s)
theorem rl{f:AF}{k:List D×En->R (β×En)}{S:List V->Hp->Prop}{P:β->En->Hp->Prop}(rel:Rel K ρ σ H)(g:Good K ρ σ H ((f ρ).bind k) P)
  (h:∀ ds ρ1 vs H1,Rel K ρ1 σ H1->cA ρ ρ1 σ H H1->aq K H1 ds vs->Good K ρ1 σ H1 (k (ds,ρ1)) P->S vs H1):tA K f σ H S:=by
 obtain⟨x,e,g1⟩:=g.ck;refine⟨ρ,rel,?_⟩;rw[e];exact fun H' r s vs fz=>h x.1 x.2 vs H' r s fz (g1.step s)
theorem goO{f:OF}{k:Option Int×En->R (β×En)}{S:Option Int->Hp->Prop}{P:β->En->Hp->Prop}(rel:Rel K ρ σ H)(g:Good K ρ σ H ((f ρ).bind k) P)
  (h:∀ b ρ1 H1,Rel K ρ1 σ H1->cA ρ ρ1 σ H H1->Good K ρ1 σ H1 (k (b,ρ1)) P->S b H1):tO K f σ H S:=by
 obtain⟨x,e,g1⟩:=g.ck;refine⟨ρ,rel,?_⟩;rw[e];exact fun H' r s=>h x.1 x.2 H' r s (g1.step s)
end
def rD(K:yU)(g:D->D->R D):R2:=fun x y H Q=>∃ dx dy d,Tp K H dx x/\Tp K H dy y/\g dx dy=.ok d/\∀ v H',aA H H'->Fz K H' d v->Q v H'
def rD1(K:yU)(g:D->R D):V->Hp->VK->Prop:=fun x H Q=>∃ dx d,Tp K H dx x/\g dx=.ok d/\∀ v H',aA H H'->Fz K H' d v->Q v H'
noncomputable def vw(K:yU)(G:List D->R D):List V->Hp->VK->Prop:=fun xs H Q=>∃ ds d,aq K H ds xs/\G ds=.ok d/\∀ v H',aA H H'->Fz K H' d v->Q v H'
def rD0(K:yU)(g:D->R D):List V->Hp->VK->Prop:=fun xs H Q=>∃ x dx d,xs=[x]/\Tp K H dx x/\g dx=.ok d/\∀ v H',aA H H'->Fz K H' d v->Q v H'
section
variable {K:yU}{a c:yW}{k:EF}
theorem ae(i:Nat)(hN:X.N[i]?=some x:=by rfl)(hv:wa X.env.scope x:=by first|exact Cd rfl|exact B4 (Cd rfl)|exact B4 (B4 rfl))(hd:(x==("__debug__":dm))=false:=by decide)
  (eZ:(x==("__classdict__":dm))=false:=by decide):PV K X (.Name x pos) (eV i):=.mk fun _=>(zhK hN hv hd eZ).weak fun σ H Q=>by
 rintro⟨ρ,rel,g⟩;unfold eV at g;cases e:ρ[i]? with
 | none=>rw[e]at g;exact g.elim
 | some x =>
  rw[e]at g;cases x with
  | val d =>
   have hl:i<σ.length:=by rw[<- rel.len];exact(Am.mp e).1
   have o:=rel.ok i _ _ e (Af hl);cases es:σ[i] with
   | none=>rw[es]at o;exact o.elim
   | some v =>
    rw[es]at o;exact⟨v,by rw[Af hl,es],g.now rel v o⟩
  | _=>exact g.elim
theorem vo(h:PE X e (tC v))(hv:∀ H,Fz K H d v):PV K X e (eC d):=.mk fun _=>h.weak fun σ H Q=>by
 rintro⟨ρ,rel,g⟩;exact g.now rel v (hv H)
theorem ay{j}:PV K X (.Constant (.int i) j pos) (eC (.int i)):=vo zqo fun _=>by simp[Fz]
theorem vn{i:Bool}{j}:PV K X (.Constant (.bool i) j pos) (eC (.bool i)):=vo zqe fun _=>by simp[Fz]
theorem dj{j}:PV K X (.Constant .none j pos) (eC .none):=vo zhJ fun _=>by simp[Fz]
theorem aI{i:dm}{j}:PV K X (.Constant (.str i) j pos) (eC (.str i)):=vo zqu fun _=>by simp[Fz]
theorem sA{u:ir}(hg:Gl X x)(hm:X.mg x=some u)(r:RelV v u)(hv:∀ H,Fz K H d v)(hd:(x==("__debug__":dm))=false:=by decide):PV K X (.Name x pos) (eC d):=vo (cW hg hm r hd) hv
theorem xh{r:R2}(ho:∀ x y H Q,rD K g x y H Q->r x y H Q)(σ:L2.St)(H:Hp)(Q:VK)(q:tV K (e2 g f h) σ H Q):qy r (tV K f) (tV K h) σ H Q:=by
 obtain⟨ρ,rel,q⟩:=q;refine dO rel q fun dx ρ1 x H1 au aY fx q1=>dO au q1 fun dy ρ2 y H2 bP dh fy q2=>?_;obtain⟨d,ed,q3⟩:=q2.bV;exact ho _ _ _ _ ⟨dx,dy,d,(fx.mono (dh.d9 au)).tp,fy.tp,ed,fun v H' s fz=>q3.new bP s v fz⟩
theorem aJ{op:Operator}(ho:aW X (A2 op) (rD X.K g))(ha:PV K X a f)(hb:PV K X b h):PV K X (.BinOp a op b pos) (e2 g f h):=.mk fun hK=>by
 subst hK;exact(zqs ho (ha rfl) (hb rfl)).weak fun σ H Q q=>xh (fun _ _ _ _ z=>z) σ H Q q
theorem cQ(ho:jK X (rD X.K g))(ha:PV K X a f)(hb:PV K X b h)(hs:v3 b:=by exact fun _ _=>rfl):PV K X (.Subscript a b pos) (e2 g f h):=.mk fun hK=>by
 subst hK;exact(zhI ho (ha rfl) (hb rfl) hs).weak fun σ H Q q=>xh (fun _ _ _ _ z=>z) σ H Q q
theorem zrk(ho:aW X (zF op) (rD X.K g))(ha:PV K X a f)(hb:PV K X b h)(hm:Bz op b=false):PV K X (.Compare a [op] [b] pos) (e2 g f h):=.mk fun hK=>by
 subst hK;exact(zc2 ho (ha rfl) (hb rfl) hm).weak fun σ H Q q=>xh (fun _ _ _ _ z=>z) σ H Q q
theorem yk{op:UnaryOp}{g:D->R D}(ho:tJ X (unaryOp op) (rD1 X.K g))(ha:PV K X a f):PV K X (.UnaryOp op a pos) (e1 g f):=.mk fun hK=>by
 subst hK;exact(zqw ho (ha rfl)).weak fun σ H Q=>by
  rintro⟨ρ,rel,q⟩;refine dO rel q fun dx ρ1 x H1 au aY fx q1=>?_;obtain⟨d,ed,q3⟩:=q1.bV;exact⟨dx,d,fx.tp,ed,fun v H' s fz=>q3.new au s v fz⟩
theorem zmB(σ:L2.St)(H:Hp)(Q:VK)(q:tV K (fS g g' f h k) σ H Q):ziv (rD K g) (rD K g') (tV K f) (tV K h) (tV K k) σ H Q:=by
 obtain⟨ρ,rel,q⟩:=q;refine dO rel q fun dx ρ1 x H1 au aY fx q1=>dO au q1 fun dy ρ2 y H2 bP dh fy q2=>?_;obtain⟨d,ed,q3⟩:=q2.bV;refine⟨dx,dy,d,(fx.mono (dh.d9 au)).tp,fy.tp,ed,fun v H' s fz=>?_⟩;cases d with
 | bool bb =>
  simp only[Fz]at fz;subst fz;have iO:=bP.same s;have q4:=q3.step (.of s);cases bb with
  | true =>
   refine⟨true,rfl,mD ?_⟩;refine dO iO q4 fun dz ρ3 z H3 vx yF fzz q5=>?_;obtain⟨d2,ub,q6⟩:=q5.bV;exact⟨dy,dz,d2,((fy.mono (aF.of s)).mono (yF.d9 iO)).tp,fzz.tp,ub,fun v H' s fz=>q6.new vx s v fz⟩
  | false=>exact⟨false,rfl,mC (q4.now iO _ (by simp[Fz]))⟩
 | _=>exact q3.elim
theorem zc8{op}(ha:PV K X a f):PV K X (.BoolOp op [a] pos) f:=.mk fun hK=>zqr (ha hK)
theorem vm{rest:List yW}(ha:PV K X a f)(hb:PV K X (.BoolOp .And (b::rest) pos) h):PV K X (.BoolOp .And (a::b::rest) pos) (gi f h):=.mk fun hK=>(zqd (ha hK) (hb hK)).weak fun σ H Q=>by
 rintro⟨ρ,rel,q⟩;refine dO rel q fun dx ρ1 x H1 au aY fx q1=>?_;cases dx with
 | bool bb =>
  simp only[Fz]at fx;subst fx;cases bb with
  | true=>exact⟨true,rfl,mD ⟨ρ1,au,q1⟩⟩
  | false=>exact⟨false,rfl,mC (q1.now au _ (by simp[Fz]))⟩
 | _=>exact q1.elim
theorem zh0(ha:PV K X a f):PV K X (.UnaryOp .Not a pos) (iJ f):=.mk fun hK=>(zqq (ha hK)).weak fun σ H Q=>by
 rintro⟨ρ,rel,q⟩;refine dO rel q fun dx ρ1 x H1 au aY fx q1=>?_;cases dx with
 | bool bb =>
  simp only[Fz]at fx;subst fx;exact⟨bb,rfl,q1.now au _ (by simp[Fz])⟩
 | _=>exact q1.elim
theorem zrl(hc:fC K X c t)(ha:PV K X a f)(hb:PV K X b h):PV K X (.IfExp c a b pos) (fT t f h):=.mk fun hK=>(zqn (hc hK) (ha hK) (hb hK)).weak fun σ H Q=>by
 rintro⟨ρ,rel,q⟩;refine xi rel q fun cb ρ1 H1 au aY q1=>?_;cases cb with
 | true=>exact mD ⟨ρ1,au,q1⟩
 | false=>exact mC ⟨ρ1,au,q1⟩
theorem mO:eJ K X [] af:=.mk fun _=>jE.weak fun σ H Q=>by
 rintro⟨ρ,rel,q⟩;exact q.now rel [] (by simp[aq])
theorem bW(ha:PV K X a f)(hr:eJ K X es fa)(hs:yX (a::es) X.env=(false,zk a X.env)::yX es X.env:=by exact FL.se rfl):eJ K X (a::es) (aa f fa):=.mk fun hK=>(gq (ha hK) (hr hK) hs).weak fun σ H Q=>by
 rintro⟨ρ,rel,q⟩;refine dO rel q fun dx ρ1 x H1 au aY fx q1=>rl au q1 fun ds ρ2 vs H2 bP dh fs q2=>?_;exact q2.now bP _ (by simp only[aq];exact⟨x,vs,rfl,fx.mono (dh.d9 au),fs⟩)
theorem gF:lim<=zt:=by rw[AR];decide
theorem gH{x1}(h:eJ K X es fa):PV K X (.Tuple es x1 pos) (bq fa):=.mk fun hK=>(zqv (h hK)).weak fun σ H Q=>by
 rintro⟨ρ,rel,q⟩;refine rl rel q fun ds ρ1 vs H1 au aY fs q1=>?_;obtain⟨c,q2⟩:=q1.aN;refine⟨by rw[fs.len];exact AB (dX c) gF,fun p hp=>?_⟩;have s:aA H1 (upd H1 p (.tup vs)):=aA.upd hp;refine q2.new au s _ ?_;simp only[Fz];exact⟨p,vs,rfl,.inl bU,fs.mono (aF.of s)⟩
theorem df(h:eJ K X es fa):bw K X (.List es pos) (bc fa):=.mk fun hK=>(zqp (h hK)).weak fun σ H Q=>by
 rintro⟨ρ,rel,q⟩;refine rl rel q fun ds ρ1 vs H1 au aY fs q1=>?_;obtain⟨c,q2⟩:=q1.aN;refine⟨by rw[fs.len];exact AB (dX c) gF,fun p hp=>?_⟩;have s:aA H1 (upd H1 p (.lst vs)):=aA.upd hp;refine q2.new au s p ?_ ?_
 ·cases e:H p with
  | none=>rfl
  | some o =>
   by_cases m:MA ρ σ p
   ·obtain⟨o',e',_⟩:=au.fV (aY.ma.mp m)
    rw[hp]at e';cases e'
   ·rw[aY.kp p o e m]at hp;cases hp
 ·exact⟨vs,bU,fs.mono (aF.of s)⟩
theorem bw.pv{f:EF}(h:bw K X e f):PV K X e f:=.mk fun hK=>(zqm (h hK)).weak fun σ H Q=>by
 rintro⟨ρ,rel,q⟩;refine⟨ρ,rel,?_⟩;cases e:f ρ with
 | ok x =>
  rw[e]at q;intro H' qi st a ha m;obtain⟨u,e1,ow⟩:=m.own;refine⟨a,u,rfl,e1,ow,fun o=>?_⟩;have sf:¬ MA ρ σ a:=fun z=>by
   obtain⟨o',e',_⟩:=rel.fV z;rw[ha]at e';cases e'
  have nma':¬ MA x.2 σ a:=fun z=>sf (st.ma.mpr z);have fz:aF H' (upd H' a (.frz o u)):=fun b w e2 sy=>by
   rw[aU fun z=>by subst z;rw[e1]at e2;cases e2;exact ow.jB sy];exact e2
  refine q _ (qi.put nma' fun u' e2=>by rw[e1]at e2;cases e2;exact ow.jB) ⟨st.md,fun b w e2 n=>?_⟩ _ ?_
  ·rw[aU fun z=>by subst z;rw[ha]at e2;cases e2]
   exact st.kp b w e2 n
  ·obtain⟨d,ρ'⟩:=x
   cases d with
   | list ds =>
    obtain⟨vs,h1,h2⟩:=m;rw[e1]at h1;cases h1;simp only[Fz];exact⟨a,vs,rfl,.inl ⟨o,bU⟩,h2.mono fz⟩
   | dict aj =>
    simp only[Fz];obtain⟨kk,h1,h2⟩:=m;rw[e1]at h1;cases h1;exact⟨a,o,rfl,⟨kk,bU,h2.mono fz⟩⟩
   | _=>exact m.elim
 | _=>rw[e]at q;exact q.elim
theorem goC(hr:∀ xs H Q,vw K G xs H Q->r xs H Q)(σ:L2.St)(H:Hp)(Q:VK)(q:tV K (az G fa) σ H Q):yJ r (tA K fa) σ H Q:=by
 obtain⟨ρ,rel,q⟩:=q;refine rl rel q fun ds ρ1 vs H1 au aY fs q1=>?_;obtain⟨d,ed,q2⟩:=q1.bV;exact hr _ _ _ ⟨ds,d,fs,ed,fun v H' s fz=>q2.new au s v fz⟩
theorem zhW{id:String}(hc:gL X (.builtin id) (vw X.K G))(hg:Gl X x)(hm:X.mg x=none)(hv:Ad x=some (.builtin id))(ha:eJ K X (e::es) fa)(hn:x ≠ "__name__":=by decide)(bN:(x==("__debug__":dm))=false:=by decide)
  (he:yX (e::es) X.env=(false,zk e X.env)::yX es X.env:=by exact FL.se rfl) (bu:(zK pos (yX es X.env)).any (·.1)=false:=by exact FL.sp rfl):PV K X (.Call (.Name x p) (e::es) [] pos) (az G fa):=.mk fun hK=>by
 subst hK;exact(vb hc hg hm hv (ha rfl) hn bN he bu).weak fun σ H Q q=>goC (fun _ _ _ z=>z) σ H Q q
theorem zri{T:String}(hc:gL X (.type T) (vw X.K G))(hg:Gl X x)(hm:X.mg x=none)(hv:Ad x=some (.type T))(ha:eJ K X (e::es) fa)(hn:x ≠ "__name__":=by decide)(bN:(x==("__debug__":dm))=false:=by decide)
  (he:yX (e::es) X.env=(false,zk e X.env)::yX es X.env:=by exact FL.se rfl) (bu:(zK pos (yX es X.env)).any (·.1)=false:=by exact FL.sp rfl):PV K X (.Call (.Name x p) (e::es) [] pos) (az G fa):=.mk fun hK=>by
 subst hK;exact(zqh hc hg hm hv (ha rfl) hn bN he bu).weak fun σ H Q q=>goC (fun _ _ _ z=>z) σ H Q q
variable {lo hi:Option yW}{fl fh:OF}
theorem mP:qK K X none bK:=.mk fun _=>zqL.weak fun σ H Q=>by
 rintro⟨ρ,rel,q⟩;exact q.now rel
theorem mQ(h:PV K X a f):qK K X (some a) (bL f):=.mk fun hK=>(zqM (h hK)).weak fun σ H Q=>by
 rintro⟨ρ,rel,q⟩;refine dO rel q fun dx ρ1 x H1 au aY fx q1=>?_;cases dx with
 | int i =>
  simp only[Fz]at fx;exact⟨i,fx,q1.now au⟩
 | _=>exact q1.elim
def zsy(K:yU):V->Option Int->Option Int->Hp->VK->Prop:=fun x lo hi H Q=>∃ dx d,Tp K H dx x/\iw dx lo hi=.ok d/\∀ v H',aA H H'->Fz K H' d v->Q v H'
variable {u:TF}
theorem kY(hv:zaq X (fun x H Q=>∃ d k,Tp X.K H d x/\cH d=.ok k/\Q k H))(h:PV K X a f)(he:∀ whole,isTrue a X.env whole=(do let v <- whole;CO a.pos;Cv [v] (truthy v)):=by intro _;rfl):fC K X a (tE f):=.mk fun hK=>by
 subst hK;intro pins s σ H Q I q;rw[he];obtain⟨ρ,rel,q⟩:=q;refine yV (aT (h rfl pins s σ H (fun x H'=>∃ d k,Tp X.K H' d x/\cH d=.ok k/\Q k H') I ?_) fun v s1 ⟨x,H1,I1,r1,q1⟩=>yV (BZ (Bc (hv pins s1 σ H1 x v Q I1 r1 q1))));refine dO rel q fun dx ρ1 x H1 au aY fx q1=>?_;obtain⟨d,ed,q2⟩:=q1.bV;exact⟨dx,d,fx.tp,ed,q2.now au⟩
theorem goB(hw:∀ σ H Q,tV K f σ H Q->te σ H Q)(σ:L2.St)(H:Hp)(Q:Bool->Hp->Prop)(q:tT K (tB f) σ H Q):te σ H fun x H'=>∃ k,x=.bl k/\Q k H':=by
 obtain⟨ρ,rel,q⟩:=q;refine hw σ H _ (dO rel q fun dx ρ1 x H1 au aY fx q1=>?_);cases dx with
 | bool bb =>
  simp only[Fz]at fx;exact⟨bb,fx,q1.now au⟩
 | _=>exact q1.elim
theorem zrK(ho:aW X (zF op) (rD X.K g))(ha:PV K X a f)(hb:PV K X b h)(hm:Bz op b=false):fC K X (.Compare a [op] [b] pos) (tB (e2 g f h)):=.mk fun hK=>by
 subst hK;exact(zhT ho (ha rfl) (hb rfl) hm).weak fun σ H Q q=>goB (fun σ H Q z=>xh (fun _ _ _ _ z=>z) σ H Q z) σ H Q q
theorem yt(ha:fC K X a t):cI K X (.BoolOp .And [a] pos) t:=.mk fun hK=>zrP (ha hK)
theorem gI(ha:fC K X a t):cI K X (.BoolOp .Or [a] pos) t:=.mk fun hK=>zrR (ha hK)
theorem yr{rest:List yW}(ha:fC K X a t)(hb:cI K X (.BoolOp .And (b::rest) pos) u):cI K X (.BoolOp .And (a::b::rest) pos) (FL.bT t u):=.mk fun hK=>(zrO (ha hK) (hb hK)).weak fun σ H Q=>by
 rintro⟨ρ,rel,q⟩;refine xi rel q fun cb ρ1 H1 au aY q1=>?_;cases cb with
 | true=>exact mD ⟨ρ1,au,q1⟩
 | false=>exact mC (q1.now au)
theorem dg{rest:List yW}(ha:fC K X a t)(hb:cI K X (.BoolOp .Or (b::rest) pos) u):cI K X (.BoolOp .Or (a::b::rest) pos) (FL.aB t u):=.mk fun hK=>(zrQ (ha hK) (hb hK)).weak fun σ H Q=>by
 rintro⟨ρ,rel,q⟩;refine xi rel q fun cb ρ1 H1 au aY q1=>?_;cases cb with
 | true=>exact mD (q1.now au)
 | false=>exact mC ⟨ρ1,au,q1⟩
theorem cI.fi(h:cI K X a t):fC K X a t:=.mk fun hK=>(h hK).pt
theorem j7(ha:fC K X a t):fC K X (.UnaryOp .Not a pos) (FL.bI t):=.mk fun hK=>(zq8 (ha hK)).weak fun σ H Q=>by
 rintro⟨ρ,rel,q⟩;exact xi rel q fun cb ρ1 H1 au aY q1=>q1.now au
theorem zrJ{qb:By}(ho:aW X (zF op) (rD X.K g))(ig:aW X (zF qb) (rD X.K g'))(ha:PV K X a f)(hb:PV K X b h)(hc:PV K X c k)
  (hm:lastMarks [op,qb] [b,c]=false:=by with_unfolding_all rfl):fC K X (.Compare a [op,qb] [b,c] pos) (tB (fS g g' f h k)):=.mk fun hK=>by
 subst hK;exact(zq7 ho ig (ha rfl) (hb rfl) (hc rfl) hm).weak fun σ H Q q=>goB (fun σ H Q z=>zmB σ H Q z) σ H Q q
end
end
variable {p:Int->Int->Bool}{G:D->D->R D}
section
variable [Cs]
theorem zuT(A:zx)(s:kb)(a:Int)(t:zQ)(c:Int)(u:zQ)(prog:zu)(w:zq)(E:ir->kb->Prop)(Q:ir->kb->Prop)(h:Q (.bool (decide (a<=c))) s) :
  yY (yZ prog w) A (richCompare .LtE (.int a t) (.int c u)) Q E s :=
 (PyProof.Rows.le_int h:yY (yZ prog w) A (zF .LtE (.int a t) (.int c u)) Q E s)
end
variable {c:Int->Int->Bool}{g:Int->Int->Int}{α:Type}{f:ir->ir->Sem ir}{q:List Int->List Int->Bool}{vs:List V}{k:Nat}{C:Int->Int->Prop}
section
variable [Cs]
section
variable {K:yU}
mutual
theorem Fz.is:∀(d:zN) (v:V),Ee d=true->Fz K H d v->Is K H d v
 | .none,v,_,h=>by simp only[Fz]at h;simp only[Is];exact h
 | .bool b,v,_,h=>by simp only[Fz]at h;simp only[Is];exact h
 | .int i,v,_,h=>by simp only[Fz]at h;simp only[Is];exact h
 | .str x,v,_,h=>by simp only[Fz]at h;simp only[Is];exact h
 | .list xs,v,c,h=>by
  simp only[Fz]at h;simp only[Is]
  obtain⟨a,vs,e1,h1,h2⟩:=h;exact⟨a,vs,e1,h1.sq,aq.is xs vs c h2⟩
 | .tuple xs,v,c,h=>by
  simp only[Fz]at h;simp only[Is]
  obtain⟨a,vs,e1,h1,h2⟩:=h;exact⟨a,vs,e1,.inl h1,aq.is xs vs c h2⟩
 | .dict aj,v,c,h=>by simp[Ee]at c
theorem aq.is:∀(ds:List zN) (vs:List V),E6 ds=true->aq K H ds vs->iV K H ds vs
 | [],vs,_,h=>by simp only[aq]at h;simp only[iV];exact h
 | d::ds,vs,c,h=>by
  simp only[E6,zX]at c;simp only[aq]at h;simp only[iV]
  obtain⟨v,r,e1,h1,h2⟩:=h;exact⟨v,r,e1,Fz.is d v c.1 h1,aq.is ds r c.2 h2⟩
end
theorem Tp.is{d:zN}{v:V}(c:Ee d=true)(h:Tp K H d v):Is K H d v:=by
 cases d with
 | list ds =>
  obtain⟨a,vs,e,h1,h2⟩:=h;simp only[Is];exact⟨a,vs,e,h1,aq.is ds vs c h2⟩
 | dict aj=>simp[Ee]at c
 | none=>exact Fz.is _ _ c h
 | bool b=>exact Fz.is _ _ c h
 | int b=>exact Fz.is _ _ c h
 | str b=>exact Fz.is _ _ c h
 | tuple b=>exact Fz.is _ _ c h
theorem Tp.int(h:Tp K H (.int i) v):v=.int i:=by simpa[Tp,Fz] using h
theorem Tp.bool{i:Bool}(h:Tp K H (.bool i) v):v=.bl i:=by simpa[Tp,Fz] using h
theorem Tp.none(h:Tp K H .none v):v=.non:=by simpa[Tp,Fz] using h
theorem Tp.zt4{ds:List zN}(h:Tp K H (.tuple ds) v):∃ a vs,v=.ref a/\cT H a vs/\aq K H ds vs:=by simpa[Tp,Fz] using h
theorem Tp.tup{ds:List zN}{v:V}(h:Tp K H (.tuple ds) v):∃ a vs,v=.ref a/\fP K H a vs/\aq K H ds vs :=
 let⟨a,vs,x,y,z⟩:=Tp.zt4 h
 ⟨a,vs,x,.inl y,z⟩
theorem Tp.lst{ds:List zN}{v:V}(h:Tp K H (.list ds) v):∃ a vs,v=.ref a/\cw K H a vs/\aq K H ds vs:=h
theorem iK(i:Int):Fz K H (.int i) (.int i):=by simp[Fz]
theorem js(i:Bool):Fz K H (.bool i) (.bl i):=by simp[Fz]
theorem xc{ds:List zN}(h:cT H a vs)(f:aq K H ds vs):Fz K H (.tuple ds) (.ref a):=by simp only[Fz];exact⟨a,vs,rfl,h,f⟩
theorem aq.bX{ds:List zN}{vs:List V}{i:Int}{d:zN}(h:aq K H ds vs)(e:FL.bX ds i=some d):∃ v,L2.bX vs i=some v/\Fz K H d v:=by
 unfold FL.bX at e;cases en:FL.fJ ds.length i with
 | none=>rw[en]at e;cases e
 | some j =>
  rw[en]at e;obtain⟨v,e1,f⟩:=h.get (show ds[j]?=some d from e);refine⟨v,?_,f⟩;unfold L2.bX;rw[h.len,show L2.fJ ds.length i=some j from en];exact e1
theorem aq.cut{ds:List zN}{vs:List V}(h:aq K H ds vs)(lo hi:Option Int):aq K H (FL.cut ds lo hi) (lR vs lo hi):=by
 unfold FL.cut lR;rw[h.len];exact(h.drop _).take _
end
theorem cJ{c:Bool}{r:R α}{d:α}(h:aN c r=.ok d):c=true/\r=.ok d:=by
 cases c with
 | true=>exact⟨rfl,h⟩
 | false=>exact nomatch (show(R.bad:R α)=.ok d from h)
section
theorem zbt{ds:List D}(f:aq X.K H ds vs)(q:∀ v H',aA H H'->Fz X.K H' (.list ds) v->Q v H')
  (h:EP X pins σ (fun v H1=>∃ p,v=.ref p/\H p=none/\H1=upd H p (.lst vs)) w s):EP X pins σ Q w s:=by
 obtain⟨v,H1,I,r,p,rfl,hp,rfl⟩:=h;refine zfI ⟨.ref p,_,I,r,p,.lst vs,rfl,bU,trivial,fun o=>?_⟩;rw[zun];refine q _ _ (aA.upd hp) ?_;simp only[Fz];exact⟨p,vs,rfl,.inl ⟨o,bU⟩,f.mono (aF.of (aA.upd hp))⟩
theorem bS:aW X (A2 .Add) (rD X.K aH):=by
 intro pins s σ H x y v u Q I rx ry h;obtain⟨dx,dy,d,tx,ty,e,q⟩:=h;cases dx with
 | int i =>
  cases dy with
  | int j=>cases e;exact zpR pins s σ H x y v u Q I rx ry ⟨i,j,tx.int,ty.int,q _ H (aA.refl _) (iK _)⟩
  | _=>exact nomatch (show(R.bad:R D)=.ok d from e)
 | list a =>
  cases dy with
  | list b =>
   obtain⟨c,e⟩:=cJ (show aN (leB (a.length+b.length) lim) (.ok (.list (a++b)))=.ok d from e)
   ·cases e
    obtain⟨l,xs,rfl,sx,fx⟩:=tx.lst;obtain⟨m,ys,rfl,sy,fy⟩:=ty.lst;cases rx;cases ry;obtain⟨its,r1,⟨o,n,ho,hc,hdn,hd⟩,z1⟩:=I.list sx;obtain⟨nP,r2,⟨o2,n2,ik,i7,zgg,hd2⟩,z2⟩:=I.list sy;obtain⟨cls,dd,data,sl⟩:=o;obtain⟨zaO,lS,data2,lz⟩:=o2;simp only at hc hd i7 hd2 hdn zgg;subst hc hd i7 hd2 hdn zgg;have hz:its.length+nP.length<=zt:=by
     have:=dX c;have l0:=gF;rw[<- r1.length,<- r2.length,fx.len,fy.len]
     omega
    refine aT (EA (Q:=EP X pins σ fun v H1=>∃ p,v=.ref p/\H p=none/\H1=upd H p (.lst (xs++ys))) ⟨_,ho,rfl⟩ ⟨_,ik,rfl⟩ PySem.noFill_list_add PySem.seq_list_add PySem.F.slot_list_add PySem.F.entry_list_add (PySem.F.args_list_add_2 _ _)
     (list_addW l m its.toArray nP.toArray n n2 none none sl lz (by rw[zW,zW];exact hz)) ⟨ho,ik,?_⟩) fun _ _ z=>zbt (fx.app fy) q z
    have ea:its.toArray++nP.toArray=(its++nP).toArray:=by simp
    rw[ea];exact⟨.ref _,_,I.zcx (t':=s.toks) (r1.append r2) (by rw[AO,r1.length,r2.length];exact hz),rfl,_,rfl,I.fresh,rfl⟩
  | _=>exact nomatch (show(R.bad:R D)=.ok d from e)
 | tuple a =>
  cases dy with
  | tuple b =>
   obtain⟨c,e⟩:=cJ (show aN (leB (a.length+b.length) lim) (.ok (.tuple (a++b)))=.ok d from e)
   ·cases e
    obtain⟨l,xs,rfl,sx,fx⟩:=tx.tup;obtain⟨m,ys,rfl,sy,fy⟩:=ty.tup;have hz:xs.length+ys.length<=zt:=by
     have:=dX c;have l0:=gF;rw[fx.len,fy.len]
     omega
    by_cases x0:xs=[]
    ·subst x0
     have a0:a=[]:=by have:=fx.len;cases a with|nil=>rfl|cons _ _=>simp at this
     subst a0;cases rx;cases ry;obtain⟨its,r1,p1,z1⟩:=I.tuple sx;obtain⟨nP,r2,p2,z2⟩:=I.tuple sy;cases r1;obtain⟨⟨cls,dd,data,sl⟩,ho,hc,n,hd⟩:=id p1;obtain⟨⟨zaO,lS,data2,lz⟩,ik,i7,n2,hd2⟩:=id p2;simp only at hc hd i7 hd2;subst hc hd i7 hd2;exact EA ⟨_,ho,rfl⟩ ⟨_,ik,rfl⟩ FH FI FJ FK (FN _ _)
      (tuple_addW0 l m #[] nP.toArray n n2 dd lS sl lz rfl) ⟨ho,ik,⟨.ref m,H,I.tok _,rfl,q _ H (aA.refl _) ty⟩⟩
    ·exact zpS pins s σ H _ _ v u Q I rx ry ⟨l,m,xs,ys,rfl,rfl,sx,sy,x0,hz,fun y0=>by
      subst y0;have b0:b=[]:=by have:=fy.len;cases b with|nil=>rfl|cons _ _=>simp at this
      subst b0;rw[BC]at q;exact q _ H (aA.refl _) tx,fun _ p hp=>q _ _ (aA.upd hp) (xc (.inl bU) ((fx.app fy).mono (aF.of (aA.upd hp))))⟩
  | _=>exact nomatch (show(R.bad:R D)=.ok d from e)
 | _=>exact nomatch (show(R.bad:R D)=.ok d from e)
theorem xW(ho:aW X f (rI C fun i j=>.int (g i j)))(hC:∀ i j,c i j=true->C i j)
  (hG:∀ dx dy d,G dx dy=.ok d->∃ i j,dx=.int i/\dy=.int j/\c i j=true/\d=.int (g i j)):aW X f (rD X.K G):=by
 intro pins s σ H x y v u Q I rx ry h;obtain⟨dx,dy,d,tx,ty,e,q⟩:=h;obtain⟨i,j,rfl,rfl,cc,rfl⟩:=hG _ _ _ e;exact ho pins s σ H x y v u Q I rx ry ⟨i,j,tx.int,ty.int,hC i j cc,q _ H (aA.refl _) (iK _)⟩
theorem xg(h:∀ i j,G (.int i) (.int j)=aN (c i j) (.ok (.int (g i j))))(h0:∀ dx dy,(¬ ∃ i j,dx=.int i/\dy=.int j)->G dx dy=.bad) :
  ∀ dx dy d,G dx dy=.ok d->∃ i j,dx=.int i/\dy=.int j/\c i j=true/\d=.int (g i j):=by
 intro dx dy d e
 by_cases k:∃ i j,dx=.int i/\dy=.int j
 ·obtain⟨i,j,rfl,rfl⟩:=k
  rw[h]at e;obtain⟨cc,e⟩:=cJ e;cases e;exact⟨i,j,rfl,rfl,cc,rfl⟩
 ·rw[h0 _ _ k]at e;cases e
theorem u3{dx dy:D}(hb:∀ dx dy,(∀ i,dx≠.int i)->G dx dy=.bad)(nJ:∀ i dy,(∀ j,dy≠.int j)->G (.int i) dy=.bad)(h:¬ ∃ i j,dx=.int i/\dy=.int j):G dx dy=.bad:=by
 cases dx with
 | int i=>exact nJ i dy fun j e=>h ⟨i,j,rfl,e⟩
 | _=>exact hb _ _ fun i e=>nomatch e
theorem qa:aW X (A2 .Sub) (rD X.K dI):=xW (C:=fun _ _=>True) (c:=fun _ _=>true) (g:=fun i j=>i-j)
 (fun pins s σ H x y v u Q I rx ry ⟨i,j,e1,e2,_,q⟩=>zp5 pins s σ H x y v u Q I rx ry ⟨i,j,e1,e2,q⟩) (fun _ _ _=>trivial)
 (xg (fun _ _=>rfl) fun dx dy h=>u3 (fun dx dy h=>by cases dx <;> first|rfl|exact absurd rfl (h _)) (fun i dy h=>by cases dy <;> first|rfl|exact absurd rfl (h _)) h)
theorem zpk{j:Int}(h:uQ i j=true):IntMulOk i j:=by
 have:=dX h;have b:∀ k:Int,k.natAbs<2^(k.natAbs.log2+1):=fun k=>Nat.lt_log2_self;exact mulOk_of (a:=i.natAbs.log2+1) (b:=j.natAbs.log2+1) (b i) (b j) (by omega)
theorem zpU(hr:aZ k X.A):aW X (A2 .FloorDiv) (rI (fun _ j=>j≠0) fun i j=>.int (i.fdiv j)):=by
 intro pins s σ H x y v u Q I rx ry h;obtain⟨i,j,rfl,rfl,hc,q⟩:=h;obtain⟨t,rfl⟩:=rx;obtain⟨t',rfl⟩:=ry;exact floordiv_int hc ⟨.int (i.fdiv j),H,I.tok _,⟨_,rfl⟩,q⟩ (.inr (I.pyl (by have:=hr.dp;omega)))
theorem zcX(hr:aZ k X.A):aW X (A2 .FloorDiv) (rD X.K i5):=xW (C:=fun _ j=>j≠0) (c:=fun i j=>decide (j≠0)) (g:=fun i j=>i.fdiv j) (zpU hr) (fun i j h=>by simpa using h)
 (xg (fun _ _=>rfl) fun dx dy h=>u3 (fun dx dy h=>by cases dx <;> first|rfl|exact absurd rfl (h _)) (fun i dy h=>by cases dy <;> first|rfl|exact absurd rfl (h _)) h)
theorem og:aW X (A2 .Mod) (rD X.K fc):=xW (C:=fun _ j=>j≠0) (c:=fun i j=>decide (j≠0)) (g:=fun i j=>i.fmod j) zp1 (fun i j h=>by simpa using h)
 (xg (fun _ _=>rfl) fun dx dy h=>u3 (fun dx dy h=>by cases dx <;> first|rfl|exact absurd rfl (h _)) (fun i dy h=>by cases dy <;> first|rfl|exact absurd rfl (h _)) h)
theorem mJ:aW X (A2 .Pow) (rD X.K fW):=xW (C:=zdL) (c:=fun i j=>decide (0<=j)&&leB j.toNat 1000000&&leB i.natAbs 18446744073709551615) (g:=fun i j=>i^j.toNat) zp4 (fun i j h=>by simp only[zX,decide_eq_true_eq,leB_iff]at h;exact⟨h.1.1,by omega,by omega⟩)
 (xg (fun _ _=>rfl) fun dx dy h=>u3 (fun dx dy h=>by cases dx <;> first|rfl|exact absurd rfl (h _)) (fun i dy h=>by cases dy <;> first|rfl|exact absurd rfl (h _)) h)
theorem yO:tJ X (unaryOp .USub) (rD1 X.K iN):=by
 intro pins s σ H x v Q I rx h;obtain⟨dx,d,tx,e,q⟩:=h;cases dx with
 | int i=>cases e;exact zuk pins s σ H x v Q I rx ⟨i,tx.int,q _ H (aA.refl _) (iK _)⟩
 | _=>exact nomatch (show(R.bad:R D)=.ok d from e)
theorem zpD(hu:X.A.units+64<Ae):aW X (zF .Eq) (rD X.K aK):=by
 intro pins s σ H x y v u Q I rx ry h;obtain⟨dx,dy,d,tx,ty,e,q⟩:=h;obtain⟨c,e⟩:=cJ e
 ·cases e
  simp only[zX]at c;exact zpT hu pins s σ H x y v u Q I rx ry ⟨dx,dy,tx.is (BF c.1),ty.is (BF c.2),c.1,c.2,q _ H (aA.refl _) (js _)⟩
theorem zpJ(hu:X.A.units+64<Ae):aW X (zF .NotEq) (rD X.K bR):=by
 intro pins s σ H x y v u Q I rx ry h;obtain⟨dx,dy,d,tx,ty,e,q⟩:=h;obtain⟨c,e⟩:=cJ e
 ·cases e
  simp only[zX]at c;exact zp3 hu pins s σ H x y v u Q I rx ry ⟨dx,dy,tx.is (BF c.1),ty.is (BF c.2),c.1,c.2,q _ H (aA.refl _) (js _)⟩
theorem zcv:∀ a b,FL.lexLt a b=HT.lexLt a b
 | [],[]=>rfl
 | [],_::_=>rfl
 | _::_,[]=>rfl
 | x::xs,y::ys=>by unfold FL.lexLt HT.lexLt;rw[zcv xs ys]
theorem zpC(hi:aW X (zF op) (k7 fun i j=>.bl (p i j)))
  (ht:∀{s:kb} {l b:gV} {items ja:Array ir} {ns ms:List Int} {Q:ir->kb->Prop},BJ s.heap l items->BJ s.heap b ja->A9 items.toList ns->A9 ja.toList ms ->
   Q (.bool (q ns ms)) s->yY (yZ X.prog X.w) X.A (zF op (.ref l) (.ref b)) Q X.xe s):aW X (zF op) (rD X.K (zfd p q)):=by
 intro pins s σ H x y v u Q I rx ry h;obtain⟨dx,dy,d,tx,ty,e,k⟩:=h;cases dx with
 | int i =>
  cases dy with
  | int j=>cases e;exact hi pins s σ H x y v u Q I rx ry ⟨i,j,tx.int,ty.int,k _ H (aA.refl _) (js _)⟩
  | _=>exact nomatch (show(R.bad:R D)=.ok d from e)
 | tuple a =>
  cases dy with
  | tuple b =>
   replace e:((R.of (intsOf a)).bind fun x=>(R.of (intsOf b)).bind fun y=>R.ok (Bb (q x y)))=.ok d:=e;cases ea:intsOf a with
   | none=>rw[ea]at e;cases e
   | some ns =>
    cases eb:intsOf b with
    | none=>rw[ea,eb]at e;cases e
    | some ms =>
     rw[ea,eb]at e;cases e;obtain⟨l,xs,rfl,sx,fx⟩:=tx.tup;obtain⟨m,ys,rfl,sy,fy⟩:=ty.tup;cases rx;cases ry;obtain⟨rfl,_⟩:=fx.ints ea;obtain⟨rfl,_⟩:=fy.ints eb;obtain⟨its,r1,p1,_⟩:=I.tuple sx;obtain⟨nP,r2,p2,_⟩:=I.tuple sy;exact ht p1 p2 (intsAre_of r1) (intsAre_of r2) ⟨.bl (q ns ms),H,I,rfl,k _ H (aA.refl _) (js _)⟩
  | _=>exact nomatch (show(R.bad:R D)=.ok d from e)
 | _=>exact nomatch (show(R.bad:R D)=.ok d from e)
theorem zpI(hu:X.A.units+64<Ae):aW X (zF .Lt) (rD X.K dD):=zpC zp0 fun p1 p2 i1 i2 h=>HT.zhb p1 p2 i1 i2 (by omega) (by rw[<- zcv];exact h)
theorem zcW(hi:aW X (zF op) (k7 fun i j=>.bl (p i j))):aW X (zF op) (rD X.K (wM p)):=by
 intro pins s σ H x y v u Q I rx ry h;obtain⟨dx,dy,d,tx,ty,e,k⟩:=h;cases dx with
 | int i =>
  cases dy with
  | int j=>cases e;exact hi pins s σ H x y v u Q I rx ry ⟨i,j,tx.int,ty.int,k _ H (aA.refl _) (js _)⟩
  | _=>exact nomatch (show(R.bad:R D)=.ok d from e)
 | _=>exact nomatch (show(R.bad:R D)=.ok d from e)
theorem zpH(hu:X.A.units+64<Ae):aW X (zF .LtE) (rD X.K jb):=zcW zpZ
theorem zpF(hu:X.A.units+64<Ae):aW X (zF .Gt) (rD X.K gC):=zcW zpW
theorem zpE(hu:X.A.units+64<Ae):aW X (zF .GtE) (rD X.K jt):=zcW zpV
theorem j5:aW X (zF .Is) (rD X.K eI):=by
 intro pins s σ H x y v u Q I rx ry h;obtain⟨dx,dy,d,tx,ty,e,q⟩:=h;cases dy with
 | none =>
  refine zhA pins s σ H x y v u Q I rx ry ⟨ty.none,?_⟩;have:d=.bool (decide (x=.non)):=by
   cases dx with
   | none=>have:=tx.none;subst this;cases e;rfl
   | bool b=>have:=tx.bool;subst this;cases e;rfl
   | int b=>have:=tx.int;subst this;cases e;rfl
   | str b =>
    have:x=.str b:=by simpa[Tp,Fz] using tx
    subst this;cases e;rfl
   | list b=>obtain⟨_,_,rfl,_⟩:=tx.lst;cases e;rfl
   | tuple b=>obtain⟨_,_,rfl,_⟩:=tx.tup;cases e;rfl
   | dict b=>obtain⟨_,rfl,_⟩:=tx;cases e;rfl
  subst this;exact q _ H (aA.refl _) (js _)
 | _=>exact nomatch (show(R.bad:R D)=.ok d from e)
theorem cy:jK X (rD X.K aD):=by
 intro value slice pins s σ H x y v u Q I rx ry h hs;obtain⟨dx,dy,d,tx,ty,e,q⟩:=h;cases dx with
 | list a =>
  cases dy with
  | int i =>
   replace e:R.of (FL.bX a i)=.ok d:=e;cases ea:FL.bX a i with
   | none=>rw[ea]at e;cases e
   | some d' =>
    rw[ea]at e;cases e;obtain⟨l,xs,rfl,sx,fx⟩:=tx.lst;obtain⟨w,ew,fw⟩:=fx.bX ea;exact znl value slice pins s σ H _ y v u Q I rx ry ⟨l,xs,i,w,rfl,ty.int,sx,ew,q _ H (aA.refl _) fw⟩ hs
  | _=>exact nomatch (show(R.bad:R D)=.ok d from e)
 | tuple a =>
  cases dy with
  | int i =>
   replace e:R.of (FL.bX a i)=.ok d:=e;cases ea:FL.bX a i with
   | none=>rw[ea]at e;cases e
   | some d' =>
    rw[ea]at e;cases e;obtain⟨l,xs,rfl,sx,fx⟩:=tx.tup;obtain⟨w,ew,fw⟩:=fx.bX ea;exact znn value slice pins s σ H _ y v u Q I rx ry ⟨l,xs,i,w,rfl,ty.int,sx,ew,q _ H (aA.refl _) fw⟩ hs
  | _=>exact nomatch (show(R.bad:R D)=.ok d from e)
 | _=>exact nomatch (show(R.bad:R D)=.ok d from e)
theorem lE:zaq X (fun x H Q=>∃ d k,Tp X.K H d x/\cH d=.ok k/\Q k H):=by
 intro pins s σ H x v Q I rx h;obtain⟨d,k,tx,e,q⟩:=h;refine ziL pins s σ H x v Q I rx ⟨k,?_,q⟩;cases d with
 | none=>have:=tx.none;subst this;cases e;rfl
 | bool b=>have:=tx.bool;subst this;cases e;rfl
 | int b=>have:=tx.int;subst this;cases e;rfl
 | list b =>
  obtain⟨a,vs,rfl,sx,fx⟩:=tx.lst;cases e;refine .inl ⟨vs,sx,?_⟩;have:=fx.len;cases b <;> cases vs <;> simp_all
 | tuple b =>
  obtain⟨a,vs,rfl,sx,fx⟩:=tx.tup;cases e;refine .inr (.inl ⟨vs,sx,?_⟩);have:=fx.len;cases b <;> cases vs <;> simp_all
 | _=>exact nomatch (show(R.bad:R Bool)=.ok k from e)
end
end
variable {g:Int->Int->D}{w:zq}{f:EF}{hi:Option Int}{E Q:ir->kb->Prop}{items:Array ir}{A:zx}{k:D×En->R (Fl×En)}{v:Option V}{prog:zu}
section
variable [Cs]
theorem zps:fillsNumberSlot (.type "tuple") "mul"=pure false :=
 PySem.fillsNumberSlot_seq (id:="tuple.__mul__") (r:=some (.builtin "tuple.__rmul__")) F7.lookup (by decide +kernel) G4.lookup (by decide +kernel)
theorem zsO:seqRepeat? (.type "tuple")=pure (some (.builtin "tuple.__mul__")):=by
 unfold seqRepeat?;rw[PySem.seqSlot_of (T:="tuple") (name:="__mul__") (id:="tuple.__mul__") F7.lookup (by decide +kernel),PySem.seqSlot_of (T:="tuple") (name:="__rmul__") (id:="tuple.__rmul__") G4.lookup (by decide +kernel)]
 rfl
section
open PySem.SeqAt
open PySem.AutoSeq1 (wpAny_loadPart')
open PySem.MeetsSeq PySem.MeetsSeq2 PySem.MeetsSeq3
theorem zm8(a:Int)(t:zQ)(l:gV)(items:Array ir)(n:Nat)(dd:Option gV)(sl:Array (Option ir)) :
  Meets (Bo.«int.__rmul__» ⟨[.int a t,.ref l],[]⟩) (fun _ R s=>s.heap.get? l=some { cls:=.type "tuple",dict:=dd,data:=.seq items n,slots:=sl }/\R (.ok (.ret GU)) s) :=
 .of_wp fun prog w A R s h=>by obtain⟨hp,g,d,tk,os⟩:=s;obtain⟨hl,h⟩:=h;wp_walk;exact⟨_,rfl,h⟩
theorem zt7(l:gV)(items:Array ir)(n:Nat)(dd:Option gV)(sl:Array (Option ir))(k:Int)(t:zQ)(h0:items.isEmpty=false)(h1:2<=k)(h2:k<2^62)(h3:items.size*k.toNat<=zt) :
  Meets (Bo.«tuple.__mul__» ⟨[.ref l,.int k t],[]⟩) (fun _ R s=>s.heap.get? l=some { cls:=.type "tuple",dict:=dd,data:=.seq items n,slots:=sl } /\
   R (.ok (.ret (.ref s.heap.objs.size))) { s with heap:=s.heap.push { cls:=.type "tuple",data:=.seq ((zo k.toNat items).foldl (·++·) #[]) } }) :=
 .of_wp fun prog w A R s h=>by
  obtain⟨hp,g,d,tk,os⟩:=s;obtain⟨hl,h⟩:=h
  have f1:=AutoSeq1.idx_int;have i0:(items.size:Int)*k<=(zt:Int):=by
   have e:((items.size*k.toNat:Nat):Int)=(items.size:Int)*k:=by rw[Int.natCast_mul,Int.toNat_of_nonneg (by omega)]
   rw[<- e];exact Int.ofNat_le.mpr h3
  have hA:¬ (decide (k < -2^63)||decide (k ≥ 2^63))=true:=by
   simp only[E1,decide_eq_true_eq,not_or]
   constructor <;> omega
  have hB:¬ (items.isEmpty||k==1)=true:=by
   rw[h0];simp only[Bool.false_or,beq_iff_eq]
   omega
  have hC:¬ (decide (k<=0)||items.isEmpty)=true:=by
   rw[h0];simp only[Bool.or_false,decide_eq_true_eq]
   omega
  have sz:(zt:Int)<=16777216:=by rw[AR];decide
  have hD:¬ (items.size:Int)*k > (2^63-1) / 8:=by omega
  have hE:¬ G5 ((items.size:Int)*k)=true:=by
   unfold G5;simp only[decide_eq_true_eq]
   omega
  have hs:sizeOk (.seq (List.foldl (fun x1 x2=>x1++x2) #[] (zo k.toNat items))):=by
   obtain⟨its⟩:=items;have:=foldl_rep its k.toNat [];rw[Aw]at this;rw[this];show(zo k.toNat its).flatten.toArray.size<=zt;rw[zW,len_rep,Nat.mul_comm];exact h3
  wp_walk
  rw[if_neg hA]
  wp_walk using Ds hl
  rw[if_neg hB]
  wp_walk
  rw[if_neg hC]
  wp_walk
  rw[if_neg hD]
  wp_walk
  rw[if_neg (show ¬ (List.foldl (fun x1 x2=>x1++x2) #[] (zo k.toNat items)).size > zt from EZ.mpr hs)]
  wp_walk
  exact⟨_,rfl,h⟩
end
section
theorem ztk{t sl:gV}{vl vu:ir}{lo:Option Int}(ht:BJ s.heap t items)(hs:s.heap.IsSliceOf sl vl vu .none)(pl:BQ vl lo)(pu:BQ vu hi)
  (hw:HT.aX items.size 0 lo=0/\HT.aX items.size items.size hi=items.size)(h:Q (.ref t) s):yY (yZ prog w) A (B9 (.ref t) (.ref sl)) Q E s:=by
 obtain⟨os,pP,nK,uw⟩:=id hs;have hTs:s.TypeIs (.ref sl) "slice":=⟨os,pP,nK⟩;unfold B9
 try with_reducible refine Bc ?_
 first|refine yV (zi ?_)|skip
 refine yV (wpAny_sequenceKey ht.typeIs (by decide) ?_);refine yV (EC (name:=zj "__getitem__") ht.typeIs Dt
  (D1 Dt ht.typeIs entry_tuple_getitem ?_ (args_tuple_getitem _ _)))
 show yY _ _ (GW (.ref t) >>= _) _ _ s;refine yV (tupleItemsOf_ ht ?_);refine yV (Du hTs ?_);rw[if_pos (by decide)];refine yV (HT.zij hs pl pu ?_);show yY _ _ (if(((HT.aX items.size 0 lo:Nat):Int)==0&&(1:Int)==1&&(HT.aX items.size items.size hi-HT.aX items.size 0 lo)==items.size)=true then _ else _) _ _ s;rw[hw.1,hw.2,if_pos (by simp)];refine yV (m:=G6 _) ?_;unfold G6;refine yV (Du ht.typeIs (zi ?_));rw[if_pos (by decide)];exact yV (DU (yV (zi (zi ⟨_,rfl,zi h⟩))))
end
section
theorem jD:aW X (A2 .Mult) (rD X.K cP):=by
 intro pins s σ H x y v u Q I rx ry h;obtain⟨dx,dy,d,tx,ty,e,q⟩:=h;cases dx with
 | int i =>
  cases dy with
  | int j =>
   obtain⟨c,e⟩:=cJ (show aN (uQ i j) (.ok (.int (i*j)))=.ok d from e);cases e;exact zp2 pins s σ H x y v u Q I rx ry ⟨i,j,tx.int,ty.int,zpk c,q _ H (aA.refl _) (iK _)⟩
  | _=>exact nomatch (show(R.bad:R D)=.ok d from e)
 | tuple a =>
  cases dy with
  | int k =>
   obtain⟨c,e⟩:=cJ (show aN (!a.isEmpty&&leB 2 k.toNat&&leB k.toNat 1000000&&leB (a.length*k.toNat) lim) (.ok (.tuple (zo k.toNat a).flatten))=.ok d from e);cases e;simp only[zX,leB_iff]at c;obtain⟨⟨⟨c0,c1⟩,c2⟩,c3⟩:=c;obtain⟨l,xs,rfl,sx,fx⟩:=tx.tup;have:=ty.int;subst this;cases rx;obtain⟨t,rfl⟩:=ry;obtain⟨its,r1,p1,z1⟩:=I.tuple sx;obtain⟨⟨cls,dd,data,sl⟩,ho,hc,n,hd⟩:=id p1;simp only at hc hd;subst hc hd;have hl:its.length=a.length:=by rw[<- r1.length,fx.len]
   have hz:its.length*k.toNat<=zt:=by rw[hl];exact AB c3 gF
   have he:its.toArray.isEmpty=false:=by
    cases its with
    | nil=>simp only[zG]at hl;cases a with|nil=>simp at c0|cons _ _=>simp at hl
    | cons _ _=>rfl
   refine wpAny_binaryOp_repeat_ref (T:="tuple") (U:="int") (by decide) ⟨_,ho,rfl⟩ (fun s'=>typeIs_int s' k t) zps PySem.F.fills_int_mul G7 zsO PySem.F.slot_int_index.lookup
    (Cb G7 (typeIs_int s k t) PySem.F.entry_int_rmul (PySem.F.args_int_rmul_2 _ _) (zm8 k t l its.toArray n dd sl)
     ⟨ho,rfl,⟨_,ho,rfl⟩,Cb F7 ⟨_,ho,rfl⟩ PySem.F.entry_tuple_mul (PySem.F.args_tuple_mul_2 _ _) (zt7 l its.toArray n dd sl k t he (by omega) (by omega) (by rw[zW];exact hz)) ⟨ho,?_⟩⟩)
   have en:=foldl_rep its k.toNat [];rw[Aw]at en;rw[en];have hp:H s.heap.objs.size=none:=I.aC.fresh (zr _);refine⟨.ref s.heap.objs.size,_,I.laid (t':=s.toks) (o:=.tup (zo k.toNat xs).flatten) (fun b ob q=>zI _ q) (zr _) ⟨by rw[len_rep,Nat.mul_comm,r1.length];exact hz,_,r1.rep k.toNat,DV _ _⟩,rfl,
    q _ _ (aA.upd hp) (xc (.inl bU) ((fx.rep k.toNat).mono (aF.of (aA.upd hp))))⟩
  | _=>exact nomatch (show(R.bad:R D)=.ok d from e)
 | _=>exact nomatch (show(R.bad:R D)=.ok d from e)
theorem zkZ{ds:List α}{lo:Option Int}(h1:FL.aX ds.length 0 lo=0)(h2:FL.aX ds.length ds.length hi=ds.length):FL.cut ds lo hi=ds:=by
 unfold FL.cut;rw[h1,h2];simp
theorem zs5:qL X (zsy X.K):=by
 intro pins s σ H x v vl vu lo hi sl Q I rx hs pl pu h;obtain⟨dx,d,tx,e,q⟩:=h;cases dx with
 | list a =>
  cases e;obtain⟨l,xs,rfl,sx,fx⟩:=tx.lst;obtain⟨T,id,h1,h2,h3⟩:=ztf pins s σ H _ v vl vu lo hi sl (fun v H1=>∃ p,v=.ref p/\H p=none/\H1=upd H p (.lst (lR xs lo hi))) I rx hs pl pu ⟨l,xs,rfl,sx,fun p hp=>⟨p,rfl,hp,rfl⟩⟩;exact⟨T,id,h1,h2,aT h3 fun _ _ z=>zbt (fx.cut lo hi) q z⟩
 | tuple a =>
  cases e;obtain⟨l,xs,rfl,sx,fx⟩:=tx.tup
  by_cases w:HT.aX xs.length 0 lo=0/\HT.aX xs.length xs.length hi=xs.length
  ·cases rx
   obtain⟨its,r,ht,hz⟩:=I.tuple sx;have hlen:its.toArray.size=xs.length:=by rw[zW];exact r.length.symm
   refine⟨"tuple",_,Dt.lookup,ht.typeIs,ztk ht hs pl pu (by rw[hlen];exact w) ⟨.ref l,H,I,rfl,q _ H (aA.refl _) ?_⟩⟩;rw[fx.len]at w;rw[zkZ w.1 w.2];exact tx
  ·exact zth pins s σ H _ v vl vu lo hi sl Q I rx hs pl pu ⟨l,xs,rfl,sx,w,fun p hp=>q _ _ (aA.upd hp) (xc (.inl bU) ((fx.cut lo hi).mono (aF.of (aA.upd hp))))⟩
 | _=>exact nomatch (show(R.bad:R D)=.ok d from e)
end
end
variable {p p2:zc}{Q:Hp->Prop}{tn:dm}{s:SF}{E:XK}
section
variable [Cs]
theorem zuf(hg:∀ i j,G (.int i) (.int j)=.ok (g i j))(h0:∀ dx dy,(¬ ∃ i j,dx=.int i/\dy=.int j)->G dx dy=.bad){ds:List D}(e:two G ds=.ok d):∃ i j,ds=[.int i,.int j]/\d=g i j:=by
 cases ds with
 | nil=>exact nomatch (show(R.bad:R D)=.ok d from e)
 | cons x r =>
  cases r with
  | nil=>exact nomatch (show(R.bad:R D)=.ok d from e)
  | cons y r =>
   cases r with
   | nil =>
    replace e:G x y=.ok d:=e
    by_cases k:∃ i j,x=.int i/\y=.int j
    ·obtain⟨i,j,rfl,rfl⟩:=k
     rw[hg]at e;cases e;exact⟨i,j,rfl,rfl⟩
    ·rw[h0 _ _ k]at e;cases e
   | cons _ _=>exact nomatch (show(R.bad:R D)=.ok d from e)
theorem zug{ds:List D}(e:two xQ ds=.ok d):∃ i j,ds=[.int i,.int j]/\d=.int (if j > i then j else i) :=
 zuf (fun _ _=>rfl) (fun dx dy h=>u3 (fun dx dy h=>by cases dx <;> first|rfl|exact absurd rfl (h _)) (fun i dy h=>by cases dy <;> first|rfl|exact absurd rfl (h _)) h) e
section
def gw(X:Cx)(f:ir)(g:D->R D):Prop:=gL X f (rD0 X.K g)
theorem gw.ds{f:ir}{g:D->R D}(h:gw X f g):gL X f (vw X.K (one g)):=fun pins s σ H xs us Q I r ⟨ds,d,fz,e,q⟩=>by
 cases ds with
 | nil=>exact nomatch (show(R.bad:R D)=.ok d from e)
 | cons d0 r0 =>
  cases r0 with
  | nil =>
   simp only[aq]at fz;obtain⟨v,r',rfl,fv,e2⟩:=fz;subst e2;exact h pins s σ H _ us Q I r ⟨v,d0,d,rfl,fv.tp,e,q⟩
  | cons _ _=>exact nomatch (show(R.bad:R D)=.ok d from e)
theorem jm:gw X (.builtin "len") bz:=by
 intro pins s σ H xs us Q I r h;obtain⟨x,dx,d,rfl,tx,e,q⟩:=h;cases dx with
 | list a=>obtain⟨p,vs,rfl,sx,fx⟩:=tx.lst;cases e;exact ze3 pins s σ H _ us Q I r ⟨p,vs,rfl,.inl sx,by rw[fx.len];exact q _ H (aA.refl _) (iK _)⟩
 | tuple a=>obtain⟨p,vs,rfl,sx,fx⟩:=tx.tup;cases e;exact ze3 pins s σ H _ us Q I r ⟨p,vs,rfl,.inr sx,by rw[fx.len];exact q _ H (aA.refl _) (iK _)⟩
 | _=>exact nomatch (show(R.bad:R D)=.ok d from e)
theorem zaI:gw X (.builtin "abs") jN:=by
 intro pins s σ H xs us Q I r h;obtain⟨x,dx,d,rfl,tx,e,q⟩:=h;cases dx with
 | int i=>have:=tx.int;subst this;cases e;exact zkF pins s σ H _ us Q I r ⟨i,rfl,q _ H (aA.refl _) (iK _)⟩
 | _=>exact nomatch (show(R.bad:R D)=.ok d from e)
theorem zkx(hc:X.calm=true):gw X (.builtin "sum") ziu:=by
 intro pins s σ H xs us Q I r h;obtain⟨x,dx,d,rfl,tx,e,q⟩:=h;cases dx with
 | list a =>
  obtain⟨p,vs,rfl,sx,fx⟩:=tx.lst;replace e:((R.of (intsOf a)).bind fun x=>R.ok (zH x.sum))=.ok d:=e;cases ea:intsOf a with
  | none=>rw[ea]at e;cases e
  | some ns =>
   rw[ea]at e;cases e;obtain⟨rfl,_⟩:=fx.ints ea;exact zkM hc pins s σ H _ us Q I r ⟨p,ns,rfl,sx,q _ H (aA.refl _) (iK _)⟩
 | _=>exact nomatch (show(R.bad:R D)=.ok d from e)
theorem zkq(hc:X.calm=true):gw X (.builtin "all") tP:=by
 intro pins s σ H xs us Q I r h;obtain⟨x,dx,d,rfl,tx,e,q⟩:=h;cases dx with
 | list a =>
  obtain⟨p,vs,rfl,sx,fx⟩:=tx.lst;replace e:((R.of (boolsOf a)).bind fun x=>R.ok (Bb (x.all id)))=.ok d:=e;cases ea:boolsOf a with
  | none=>rw[ea]at e;cases e
  | some ns =>
   rw[ea]at e;cases e;obtain⟨rfl,_⟩:=fx.bools ea;exact zkG hc pins s σ H _ us Q I r ⟨p,ns,rfl,sx,q _ H (aA.refl _) (js _)⟩
 | _=>exact nomatch (show(R.bad:R D)=.ok d from e)
theorem zaL:gw X (.type "tuple") gu:=by
 intro pins s σ H xs us Q I r h;obtain⟨x,dx,d,rfl,tx,e,q⟩:=h;cases dx with
 | list a =>
  obtain⟨p,vs,rfl,sx,fx⟩:=tx.lst;cases e;exact ze4 pins s σ H _ us Q I r ⟨p,vs,rfl,.inl ⟨sx,fun l hl=>q _ _ (aA.upd hl) (xc (.inl bU) (fx.mono (aF.of (aA.upd hl))))⟩⟩
 | tuple a =>
  obtain⟨p,vs,rfl,sx,fx⟩:=tx.tup;cases e;exact ze4 pins s σ H _ us Q I r ⟨p,vs,rfl,.inr ⟨sx,q _ H (aA.refl _) tx⟩⟩
 | _=>exact nomatch (show(R.bad:R D)=.ok d from e)
theorem zkt(hc:X.calm=true):gL X (.builtin "max") (vw X.K (two xQ)):=by
 intro pins s σ H xs us Q I r h;obtain⟨ds,d,fz,e,q⟩:=h;obtain⟨i,j,rfl,e2⟩:=zug e
 ·simp only[aq,Fz]at fz
  obtain⟨_,_,rfl,rfl,_,_,rfl,rfl,rfl⟩:=fz;cases e2;exact zkK hc pins s σ H _ us Q I r ⟨i,j,rfl,q _ H (aA.refl _) (iK _)⟩
end
theorem Tp.ty{K:yU}{x:V}(c:ziP d=true)(h:Tp K H d x):Ty K H x (.type (zdF d)):=by
 cases d with
 | none=>have:=h.none;subst this;exact .non
 | bool b=>have:=h.bool;subst this;exact .bl b
 | int b=>have:=h.int;subst this;exact .int b
 | str b =>
  have:x=.str b:=by simpa[Tp,Fz] using h
  subst this;exact .str b
 | list b=>obtain⟨_,_,rfl,s,_⟩:=h.lst;exact .lst s
 | tuple b=>obtain⟨_,_,rfl,s,_⟩:=h.tup;exact .tup s
 | dict b=>cases c
def mY(T:String):Prop:=∀(K:yU) (d:D),zT K (.type (zdF d)) (.type T)=some (cC T d)
theorem xM{T:String}(h0:KC.cN "NoneType" T=some (cC T .none))(h1:∀ b,KC.cN "bool" T=some (cC T (.bool b)))(h2:∀ b,KC.cN "int" T=some (cC T (.int b)))(h3:∀ b,KC.cN "str" T=some (cC T (.str b)))(h4:∀ b,KC.cN "list" T=some (cC T (.list b)))
  (h5:∀ b,KC.cN "tuple" T=some (cC T (.tuple b))) (h6:∀ b,KC.cN "dict" T=some (cC T (.dict b))):mY T:=fun K d=>by
 cases d with
 | none=>exact h0
 | bool b=>exact h1 b
 | int b=>exact h2 b
 | str b=>exact h3 b
 | list b=>exact h4 b
 | tuple b=>exact h5 b
 | dict b=>exact h6 b
theorem zoC:mY "int":=xM (by decide +kernel) (fun _=>(by decide +kernel:KC.cN "bool" "int"=some (cC "int" (.bool true)))) (fun _=>(by decide +kernel:KC.cN "int" "int"=some (cC "int" (.int 0)))) (fun _=>(by decide +kernel:KC.cN "str" "int"=some (cC "int" (.str "")))) (fun _=>(by decide +kernel:KC.cN "list" "int"=some (cC "int" (.list [])))) (fun _=>(by decide +kernel:KC.cN "tuple" "int"=some (cC "int" (.tuple [])))) (fun _=>(by decide +kernel:KC.cN "dict" "int"=some (cC "int" (.dict []))))
theorem zgJ:mY "bool":=xM (by decide +kernel) (fun _=>(by decide +kernel:KC.cN "bool" "bool"=some (cC "bool" (.bool true)))) (fun _=>(by decide +kernel:KC.cN "int" "bool"=some (cC "bool" (.int 0)))) (fun _=>(by decide +kernel:KC.cN "str" "bool"=some (cC "bool" (.str "")))) (fun _=>(by decide +kernel:KC.cN "list" "bool"=some (cC "bool" (.list [])))) (fun _=>(by decide +kernel:KC.cN "tuple" "bool"=some (cC "bool" (.tuple [])))) (fun _=>(by decide +kernel:KC.cN "dict" "bool"=some (cC "bool" (.dict []))))
theorem kit_tuple:mY "tuple":=xM (by decide +kernel) (fun _=>(by decide +kernel:KC.cN "bool" "tuple"=some (cC "tuple" (.bool true)))) (fun _=>(by decide +kernel:KC.cN "int" "tuple"=some (cC "tuple" (.int 0)))) (fun _=>(by decide +kernel:KC.cN "str" "tuple"=some (cC "tuple" (.str "")))) (fun _=>(by decide +kernel:KC.cN "list" "tuple"=some (cC "tuple" (.list [])))) (fun _=>(by decide +kernel:KC.cN "tuple" "tuple"=some (cC "tuple" (.tuple [])))) (fun _=>(by decide +kernel:KC.cN "dict" "tuple"=some (cC "tuple" (.dict []))))
theorem zoD:mY "list":=xM (by decide +kernel) (fun _=>(by decide +kernel:KC.cN "bool" "list"=some (cC "list" (.bool true)))) (fun _=>(by decide +kernel:KC.cN "int" "list"=some (cC "list" (.int 0)))) (fun _=>(by decide +kernel:KC.cN "str" "list"=some (cC "list" (.str "")))) (fun _=>(by decide +kernel:KC.cN "list" "list"=some (cC "list" (.list [])))) (fun _=>(by decide +kernel:KC.cN "tuple" "list"=some (cC "list" (.tuple [])))) (fun _=>(by decide +kernel:KC.cN "dict" "list"=some (cC "list" (.dict []))))
section
variable {K:yU}{a:yW}
theorem zro{T:String}(kt:mY T)(hg:Gl X "isinstance")(hm:X.mg "isinstance"=none)(uA:Gl X tn)(gk:X.mg tn=none)(uH:Ad tn=some (.type T))(ha:PV K X a f)(hn:tn ≠ "__name__":=by decide)(hd:(tn==("__debug__":dm))=false:=by decide)
  (jx:yX [a,.Name tn p2] X.env=(false,zk a X.env)::yX [.Name tn p2] X.env:=by exact FL.se rfl) (il:yX [.Name tn p2] X.env=(false,zk (.Name tn p2) X.env)::yX [] X.env:=by exact FL.se rfl) (bu:(zK pos (yX [.Name tn p2] X.env)).any (·.1)=false:=by exact FL.sp rfl) :
  PV K X (.Call (.Name "isinstance" p) [a,.Name tn p2] [] pos) (e1 (jy T) f):=.mk fun hK=>by
 subst hK;refine(vb (x:="isinstance") (id:="isinstance") ze2 hg hm KC.Bt.isinstance (gq (ha rfl) (gq (zc3 uA gk uH hn hd) jE il) jx) (by decide) (by decide) jx bu).weak fun σ H Q=>?_;rintro⟨ρ,rel,q⟩;refine dO rel q fun dx ρ1 x H1 au aY fx q1=>?_;obtain⟨d,ed,q3⟩:=q1.bV;obtain⟨c,ed⟩:=cJ ed;cases ed;exact⟨x,.ty T,_,_,rfl,(fun z=>nomatch z),fx.tp.ty c,kt X.K dx,q3.now au _ (js _)⟩
theorem zh1{g:D->R D}{f:EF}(h:PV K X e (az (one g) (aa f af))):PV K X e (e1 g f):=.mk fun hK=>(h hK).weak fun σ H Q=>by
 rintro⟨ρ,rel,q⟩;refine⟨ρ,rel,?_⟩;have:az (one g) (aa f af) ρ=e1 g f ρ:=by
  unfold az aa af e1;cases f ρ with
  | ok x=>rfl
  | _=>rfl
 rw[this];exact q
end
end
variable {g:D->D->R D}{i:Nat}{y:dm}{py:zc}
section
variable [Cs]
section
variable {K:yU}
theorem zcJ(h:bg ρ i=.ok d):∃ p,ρ[i]?=some (.ow p d):=by
 unfold bg at h;cases e:ρ[i]? with
 | none=>rw[e]at h;cases h
 | some x =>
  rw[e]at h;cases x with
  | ow p c=>cases h;exact⟨p,rfl⟩
  | _=>cases h
theorem Rel.j4(r:Rel K ρ σ H)(h:bg ρ i=.ok d):∃ a,At ρ σ i a/\cv K H a d:=by
 obtain⟨p,e⟩:=zcJ h;have hl:i<σ.length:=by rw[<- r.len];exact(Am.mp e).1
 have o:=r.ok i _ _ e (Af hl);cases es:σ[i] with
 | none=>rw[es]at o;exact o.elim
 | some v =>
  rw[es]at o;cases v with
  | ref a=>exact⟨a,⟨⟨p,d,e⟩,by rw[Af hl,es]⟩,o⟩
  | _=>exact o.elim
theorem Rel.again(r:Rel K ρ1 σ H1)(h:bg ρ1 i=.ok d)(bA:At ρ σ i a):cv K H1 a d:=by
 obtain⟨b,ab,m⟩:=r.j4 h;have:=bA.2.symm.trans ab.2;cases this;exact m
theorem Rel.zrc(r:Rel K ρ σ H)(bA:At ρ σ i a)(m:cv K (upd H a o) a d):Rel K (dE ρ i d) σ (upd H a o):=by
 obtain⟨⟨p,c,e⟩,es⟩:=bA;have hp:dE ρ i d=ρ.set i (.ow p d):=by unfold dE;rw[e]
 obtain⟨u,hu,ow⟩:=r.fV ⟨i,⟨p,c,e⟩,es⟩;have f:aF H (upd H a o):=fun b w eb st=>by
  rw[aU fun z=>by subst z;rw[hu]at eb;cases eb;exact ow.jB st];exact eb
 have hl:i<ρ.length:=(Am.mp e).1;rw[hp];refine⟨by rw[Bp];exact r.len,fun j x v e1 e2=>?_,fun j k b h1 h2=>?_,r.cst.mono f⟩
 ·by_cases c:i=j
  ·subst c
   rw[An hl]at e1;cases e1;rw[es]at e2;cases e2;exact m
  ·rw[z9 c]at e1
   refine(r.ok j x v e1 e2).mono f fun b e3 ⟨q,dd,e4⟩=>?_;subst e3;subst e4
   refine aU fun z=>?_;subst z;exact c (r.sep i j b ⟨⟨p,_,e⟩,es⟩ ⟨⟨q,dd,e1⟩,e2⟩)
 ·have w:∀ j b,At (ρ.set i (.ow p d)) σ j b->At ρ σ j b:=fun j b ⟨⟨q,dd,e1⟩,e2⟩=>by
   by_cases c:i=j
   ·subst c;exact⟨⟨p,_,e⟩,e2⟩
   ·rw[z9 c]at e1;exact⟨⟨q,dd,e1⟩,e2⟩
  exact r.sep j k b (w _ _ h1) (w _ _ h2)
theorem ziq(bA:At ρ σ i a):cA ρ (dE ρ i d) σ H (upd H a o):=by
 obtain⟨⟨p,c,e⟩,es⟩:=bA;have hp:dE ρ i d=ρ.set i (.ow p d):=by unfold dE;rw[e]
 have hl:i<ρ.length:=(Am.mp e).1;rw[hp];refine⟨fun j q=>?_,fun b w eb n=>?_⟩
 ·by_cases c:i=j
  ·subst c
   rw[An hl,e]
   constructor
   ·rintro⟨_,z⟩;cases z;exact⟨_,rfl⟩
   ·rintro⟨_,z⟩;cases z;exact⟨_,rfl⟩
  ·rw[z9 c]
 ·rw[aU fun z=>by subst z;exact n ⟨i,⟨p,c,e⟩,es⟩]
  exact eb
end
section
variable {K:yU}{a c:yW}{k:EF}
theorem zmD{g:D->R D}(hr:∀ xs H Q,rD0 K g xs H Q->r xs H Q)(σ:L2.St)(H:Hp)(Q:VK)(q:tV K (m1 g i) σ H Q):yJ r (ziw (dA i) zix) σ H Q:=by
 obtain⟨ρ,rel,q⟩:=q;obtain⟨d,ed,q1⟩:=q.bV;obtain⟨x,ex,q2⟩:=q1.bV;obtain⟨ad,bA,m⟩:=rel.j4 ed;exact⟨.ref ad,bA.2,hr _ _ _ ⟨.ref ad,d,x,rfl,m.tp,ex,fun v H' s fz=>q2.new rel s v fz⟩⟩
theorem zrq{id:String}{g:D->R D}(i:Nat)(hc:gw X (.builtin id) g)(hg:Gl X x)(hm:X.mg x=none)(hv:Ad x=some (.builtin id))(ha:PE X (.Name y py) (dA i))(hn:x ≠ "__name__":=by decide)(bN:(x==("__debug__":dm))=false:=by decide) :
  PV K X (.Call (.Name x p) [.Name y py] [] pos) (m1 g i):=.mk fun hK=>by
 subst hK;exact(vb hc hg hm hv (gq ha jE) hn bN).weak fun σ H Q q=>zmD (fun _ _ _ z=>z) σ H Q q
theorem zf9{r:R2}(hr:∀ x y H Q,rD K g x y H Q->r x y H Q)(σ:L2.St)(H:Hp)(Q:VK)(q:tV K (m2 g i h) σ H Q):qy r (dA i) (tV K h) σ H Q:=by
 obtain⟨ρ,rel,q⟩:=q;obtain⟨d,ed,q1⟩:=q.bV;obtain⟨ad,bA,m⟩:=rel.j4 ed;refine⟨.ref ad,bA.2,dO rel q1 fun dy ρ1 y H1 au aY fy q2=>?_⟩;obtain⟨d2,ub,q3⟩:=q2.bV;obtain⟨x,ex,q4⟩:=q3.bV;exact hr _ _ _ _ ⟨d2,dy,x,(au.again ub bA).tp,fy.tp,ex,fun v H' s fz=>q4.new au s v fz⟩
theorem zrr(i:Nat)(ho:aW X (zF op) (rD X.K g))(ha:PE X (.Name y py) (dA i))(hb:PV K X b h)(hm:Bz op b=false):PV K X (.Compare (.Name y py) [op] [b] pos) (m2 g i h):=.mk fun hK=>by
 subst hK;exact(zc2 ho ha (hb rfl) hm).weak fun σ H Q q=>zf9 (fun _ _ _ _ z=>z) σ H Q q
theorem zrs(i:Nat)(ho:jK X (rD X.K g))(ha:PE X (.Name y py) (dA i))(hb:PV K X b h)(hs:v3 b:=by exact fun _ _=>rfl):PV K X (.Subscript (.Name y py) b pos) (m2 g i h):=.mk fun hK=>by
 subst hK;exact(zhI ho ha (hb rfl) hs).weak fun σ H Q q=>zf9 (fun _ _ _ _ z=>z) σ H Q q
theorem zmE{r:R2}(hr:∀ x y H Q,rD K g x y H Q->r x y H Q)(σ:L2.St)(H:Hp)(Q:VK)(q:tV K (e8 g f i) σ H Q):qy r (tV K f) (dA i) σ H Q:=by
 obtain⟨ρ,rel,q⟩:=q;refine dO rel q fun dx ρ1 x H1 au aY fx q2=>?_;obtain⟨d2,ub,q3⟩:=q2.bV;obtain⟨x,ex,q4⟩:=q3.bV;obtain⟨ad,bA,m⟩:=au.j4 ub;exact⟨.ref ad,bA.2,hr _ _ _ _ ⟨dx,d2,x,fx.tp,m.tp,ex,fun v H' s fz=>q4.new au s v fz⟩⟩
theorem zrL(i:Nat)(ho:aW X (zF op) (rD X.K g))(ha:PV K X a f)(hb:PE X (.Name y py) (dA i))(hm:Bz op (.Name y py)=false):fC K X (.Compare a [op] [.Name y py] pos) (tB (e8 g f i)):=.mk fun hK=>by
 subst hK;exact(zhT ho (ha rfl) hb hm).weak fun σ H Q q=>goB (fun σ H Q z=>zmE (fun _ _ _ _ z=>z) σ H Q z) σ H Q q
theorem zrp{T:String}(i:Nat)(kt:mY T)(hg:Gl X "isinstance")(hm:X.mg "isinstance"=none)(uA:Gl X tn)(gk:X.mg tn=none)(uH:Ad tn=some (.type T))(ha:PE X (.Name y py) (dA i))(hn:tn ≠ "__name__":=by decide)(hd:(tn==("__debug__":dm))=false:=by decide)
  (jx:yX [.Name y py,.Name tn p2] X.env=(false,zk (.Name y py) X.env)::yX [.Name tn p2] X.env:=by exact FL.se rfl) (il:yX [.Name tn p2] X.env=(false,zk (.Name tn p2) X.env)::yX [] X.env:=by exact FL.se rfl) (bu:(zK pos (yX [.Name tn p2] X.env)).any (·.1)=false:=by exact FL.sp rfl) :
  PV K X (.Call (.Name "isinstance" p) [.Name y py,.Name tn p2] [] pos) (m1 (jy T) i):=.mk fun hK=>by
 subst hK;refine(vb (x:="isinstance") (id:="isinstance") ze2 hg hm KC.Bt.isinstance (gq ha (gq (zc3 uA gk uH hn hd) jE il) jx) (by decide) (by decide) jx bu).weak fun σ H Q=>?_;rintro⟨ρ,rel,q⟩;obtain⟨d,ed,q1⟩:=q.bV;obtain⟨x,ex,q2⟩:=q1.bV;obtain⟨ad,bA,m⟩:=rel.j4 ed;obtain⟨c,ex⟩:=cJ ex;cases ex;exact⟨.ref ad,bA.2,.ref ad,.ty T,_,_,rfl,(fun z=>nomatch z),m.tp.ty c,kt X.K d,q2.now rel _ (js _)⟩
end
end
variable {c:List D}{g:GF}{gs:List GF}{aL:List Nat}{ke tg:yW}{pos':zc}{b:SF}{tc:TF}{r:R (Fl×En)}{C:SC}
section
variable [Cs]
structure SC where
 H₀:Hp
 σ₀:L2.St
 ρ₀:En
structure bH(K:yU)(C:SC)(ρ:En)(σ:L2.St)(H:Hp):Prop where
 rel:Rel K ρ σ H
 keep:∀ a o,C.H₀ a=some o->¬ MA C.ρ₀ C.σ₀ a->H a=some o
 own:∀(i:Nat) a d,ρ[i]?=some (.ow false d)->σ[i]?=some (some (.ref a))->C.H₀ a=none
 pin:∀(i:Nat),(∃ d,ρ[i]?=some (.ow true d))↔∃ d,C.ρ₀[i]?=some (.ow true d)
 fix:∀(i:Nat) d,ρ[i]?=some (.ow true d)->σ[i]?=C.σ₀[i]?
 mL:∀(i:Nat) p d,C.ρ₀[i]?=some (.ow p d)->p=true
section
variable {K:yU}{σ1:L2.St}
theorem bH.zcQ(r:bH K C ρ σ H)(e:C.H₀ a=some o)(n:¬ MA C.ρ₀ C.σ₀ a):¬ MA ρ σ a:=by
 rintro⟨i,⟨p,d,e1⟩,e2⟩;cases p with
 | false=>rw[r.own i a d e1 e2]at e;cases e
 | true =>
  obtain⟨d0,e0⟩:=(r.pin i).mp ⟨d,e1⟩;exact n ⟨i,⟨true,d0,e0⟩,by rw[<- r.fix i d e1];exact e2⟩
theorem bH.step(r:bH K C ρ σ H)(rel:Rel K ρ1 σ H1)(st:cA ρ ρ1 σ H H1):bH K C ρ1 σ H1 where
 rel:=rel
 keep:=fun a o e n=>st.kp a o (r.keep a o e n) (r.zcQ e n)
 own:=fun i a d e1 e2=>by
  obtain⟨d',e'⟩:=(st.md i false).mpr ⟨d,e1⟩;exact r.own i a d' e' e2
 pin:=fun i=>(st.md i true).symm.trans (r.pin i)
 fix:=fun i d e=>by
  obtain⟨d',e'⟩:=(st.md i true).mpr ⟨d,e⟩;exact r.fix i d' e'
 mL:=r.mL
def km(aL:List Nat)(ρ ρ1:En)(σ σ1:L2.St):Prop:=σ1.length=σ.length/\∀(i:Nat),(ρ1[i]?=ρ[i]?/\σ1[i]?=σ[i]?)\/(i∈aL/\(∃ d,ρ1[i]?=some (.val d))/\∀ e,ρ[i]?≠some (.ow true e))
theorem km.refl:km aL ρ ρ σ σ:=⟨rfl,fun _=>.inl ⟨rfl,rfl⟩⟩
theorem km.trans{d1 d2:List Nat}{ρ2:En}{σ2:L2.St}(a:km d1 ρ ρ1 σ σ1)(b:km d2 ρ1 ρ2 σ1 σ2):km (d1++d2) ρ ρ2 σ σ2:=⟨b.1.trans a.1,fun i=>by
 rcases b.2 i with⟨b1,b2⟩|⟨bm,b1,b2⟩
 ·rcases a.2 i with⟨a1,a2⟩|⟨am,a1,a2⟩
  ·exact .inl ⟨b1.trans a1,b2.trans a2⟩
  ·exact .inr ⟨CN _ am,by rw[b1];exact a1,a2⟩
 ·rcases a.2 i with⟨a1,a2⟩|⟨am,a1,a2⟩
  ·exact .inr ⟨AK _ bm,b1,fun e z=>b2 e (by rw[a1];exact z)⟩
  ·exact .inr ⟨CN _ am,b1,a2⟩⟩
theorem bH.chg(r:bH K C ρ σ H)(rel:Rel K ρ1 σ1 H)(c:km aL ρ ρ1 σ σ1):bH K C ρ1 σ1 H where
 rel:=rel
 keep:=r.keep
 own:=fun i a d e1 e2=>by
  rcases c.2 i with⟨c1,c2⟩|⟨_,⟨d',c1⟩,c2⟩
  ·exact r.own i a d (by rw[<- c1];exact e1) (by rw[<- c2];exact e2)
  ·rw[c1]at e1;cases e1
 pin:=fun i=>by
  rcases c.2 i with⟨c1,c2⟩|⟨_,⟨d',c1⟩,c2⟩
  ·rw[c1];exact r.pin i
  ·rw[c1,<- r.pin i]
   constructor
   ·rintro⟨_,z⟩;cases z
   ·rintro⟨d,z⟩;exact absurd z (c2 d)
 fix:=fun i d e=>by
  rcases c.2 i with⟨c1,c2⟩|⟨_,⟨d',c1⟩,c2⟩
  ·rw[c2];exact r.fix i d (by rw[<- c1];exact e)
  ·rw[c1]at e;cases e
 mL:=r.mL
theorem bH.fresh(r:bH K C ρ σ H)(ha:H a=none):C.H₀ a=none:=by
 cases e0:C.H₀ a with
 | none=>rfl
 | some o =>
  by_cases k:MA C.ρ₀ C.σ₀ a
  ·obtain⟨i,⟨p,d0,e1⟩,e2⟩:=k
   have:=r.mL i p d0 e1;subst this;obtain⟨d2,e3⟩:=(r.pin i).mpr ⟨d0,e1⟩;obtain⟨o',e',_⟩:=r.rel.fV ⟨i,⟨true,d2,e3⟩,by rw[r.fix i d2 e3];exact e2⟩;rw[ha]at e';cases e'
  ·rw[r.keep a o e0 k]at ha;cases ha
def cS(K:yU)(C:SC)(H:Hp)(r:R (Fl×En))(Dn:Ends):Prop:=match r with
 | .ok x=>match x.1 with
  | .nx=>∀ σ' H',bH K C x.2 σ' H'->aF H H'->Dn.nx σ' H'
  | .bk=>∀ σ' H',bH K C x.2 σ' H'->aF H H'->Dn.bk σ' H'
  | .ct=>∀ σ' H',bH K C x.2 σ' H'->aF H H'->Dn.ct σ' H'
  | .rt d=>∀ v σ' H',bH K C x.2 σ' H'->Fz K H' d v->Dn.rt v H'
  | .rf d=>∀ a σ' H',bH K C x.2 σ' H'->C.H₀ a=none->cv K H' a d->Dn.rt (.ref a) H'
 | _=>False
theorem cS.step{Dn:Ends}(f:aF H H1)(g:cS K C H r Dn):cS K C H1 r Dn:=by
 cases r with
 | ok x =>
  obtain⟨fl,ρ⟩:=x;cases fl with
  | nx=>exact fun σ' H' r z=>g σ' H' r (f.trans z)
  | bk=>exact fun σ' H' r z=>g σ' H' r (f.trans z)
  | ct=>exact fun σ' H' r z=>g σ' H' r (f.trans z)
  | rt d=>exact g
  | rf d=>exact g
 | _=>exact g
theorem cS.ck{r:R β}{k:β->R (Fl×En)}{Dn:Ends}(g:cS K C H (r.bind k) Dn):∃ x,r=.ok x/\cS K C H (k x) Dn:=by
 cases r with
 | ok x=>exact⟨x,rfl,g⟩
 | _=>exact g.elim
noncomputable def tS(K:yU)(C:SC)(f:SF):TS:=fun Dn σ H=>∃ ρ,bH K C ρ σ H/\cS K C H (f ρ) Dn
theorem jT{S:VK}{Dn:Ends}(rel:bH K C ρ σ H)(g:cS K C H ((f ρ).bind k) Dn)
  (h:∀ d ρ1 v H1,bH K C ρ1 σ H1->cA ρ ρ1 σ H H1->Fz K H1 d v->cS K C H1 (k (d,ρ1)) Dn->S v H1):tV K f σ H S:=by
 obtain⟨x,e,g1⟩:=g.ck;refine⟨ρ,rel.rel,?_⟩;rw[e];exact fun H' r s v fz=>h x.1 x.2 v H' (rel.step r s) s fz (g1.step (s.d9 rel.rel))
theorem zgb{f:TF}{k:Bool×En->R (Fl×En)}{Dn:Ends}(rel:bH K C ρ σ H)(g:cS K C H ((f ρ).bind k) Dn)
  (h:∀ b ρ1 H1,bH K C ρ1 σ H1->aF H H1->cS K C H1 (k (b,ρ1)) Dn->S b H1):tT K f σ H S:=by
 obtain⟨x,e,g1⟩:=g.ck;refine⟨ρ,rel.rel,?_⟩;rw[e];exact fun H' r s=>h x.1 x.2 H' (rel.step r s) (s.d9 rel.rel) (g1.step (s.d9 rel.rel))
theorem zga{S:VK}{Dn:Ends}(rel:bH K C ρ σ H)(g:cS K C H ((f ρ).bind k) Dn)
  (h:∀ d ρ1 a H1,bH K C ρ1 σ H1->aF H H1->H a=none->¬ MA ρ1 σ a->cv K H1 a d->cS K C H1 (k (d,ρ1)) Dn->S (.ref a) H1):tN K f σ H S:=by
 obtain⟨x,e,g1⟩:=g.ck;refine⟨ρ,rel.rel,?_⟩;rw[e];refine fun H' r s a ha m=>h x.1 x.2 a H' (rel.step r s) (s.d9 rel.rel) ha (fun z=>?_) m (g1.step (s.d9 rel.rel));obtain⟨o',e',_⟩:=rel.rel.fV (s.ma.mpr z);rw[ha]at e';cases e'
end
structure cZ(K:yU)(X:Cx)(st:zy)(f:SF):Prop where
 run:X.K=K->∀ C,PS X st (tS K C f)
instance {K:yU}{X:Cx}{st:zy}{f:SF}:CoeFun (cZ K X st f) fun _=>X.K=K->∀ C,PS X st (tS K C f):=⟨cZ.run⟩
structure eR(K:yU)(X:Cx)(st:List zy)(f:SF):Prop where
 run:X.K=K->∀ C,eE X st (tS K C f)
instance {K:yU}{X:Cx}{st:List zy}{f:SF}:CoeFun (eR K X st f) fun _=>X.K=K->∀ C,eE X st (tS K C f):=⟨eR.run⟩
theorem _root_.L2.PS.weak{e:zy}{t t':TS}(h:PS X e t)(w:∀ Dn σ H,t' Dn σ H->t Dn σ H):PS X e t':=fun pins s σ H Dn I q=>h pins s σ H Dn I (w Dn σ H q)
theorem _root_.L2.eE.weak{e:List zy}{t t':TS}(h:eE X e t)(w:∀ Dn σ H,t' Dn σ H->t Dn σ H):eE X e t':=fun pins s σ H Dn I q=>h pins s σ H Dn I (w Dn σ H q)
noncomputable def tG(K:yU)(aL:List Nat)(g:GF):TG:=fun v σ H Q=>∃ ρ d ρ1,Rel K ρ σ H/\Fz K H d v/\g d ρ=.ok ρ1/\∀ σ1,Rel K ρ1 σ1 H->km aL ρ ρ1 σ σ1->Q σ1 H
def tGs(K:yU)(aL:List Nat)(gs:List GF):lL:=fun vs σ H Q=>∃ ρ ds ρ1,Rel K ρ σ H/\aq K H ds vs/\ee gs ds ρ=.ok ρ1/\∀ σ1,Rel K ρ1 σ1 H->km aL ρ ρ1 σ σ1->Q σ1 H
structure hJ(K:yU)(X:Cx)(aL:List Nat)(e:yW)(g:GF):Prop where
 run:X.K=K->PG X e (tG K aL g)
instance {K:yU}{X:Cx}{aL:List Nat}{e:yW}{g:GF}:CoeFun (hJ K X aL e g) fun _=>X.K=K->PG X e (tG K aL g):=⟨hJ.run⟩
structure qJ(K:yU)(X:Cx)(aL:List Nat)(e:List yW)(g:List GF):Prop where
 run:X.K=K->lK X e (tGs K aL g)
instance {K:yU}{X:Cx}{aL:List Nat}{e:List yW}{g:List GF}:CoeFun (qJ K X aL e g) fun _=>X.K=K->lK X e (tGs K aL g):=⟨qJ.run⟩
theorem _root_.L2.PG.weak{t t':TG}(h:PG X e t)(w:∀ v σ H Q,t' v σ H Q->t v σ H Q):PG X e t':=fun pins s σ H v u Q I r q=>h pins s σ H v u Q I r (w v σ H Q q)
theorem _root_.L2.lK.weak{e:List yW}{t t':lL}(h:lK X e t)(w:∀ v σ H Q,t' v σ H Q->t v σ H Q):lK X e t':=fun pins s σ H v u Q I r q=>h pins s σ H v u Q I r (w v σ H Q q)
theorem Rel.set{K:yU}{ρ:En}{σ:L2.St}{H:Hp}{i:Nat}{x:Sl}{v:Option V}(r:Rel K ρ σ H)(o:iY K H x v)(s:∀ a p d,x=.ow p d->v=some (.ref a)->¬ MA ρ σ a):Rel K (ρ.set i x) (σ.set i v) H:=by
 refine⟨by rw[Bp,Bp];exact r.len,fun j y w e1 e2=>?_,fun j k b h1 h2=>?_,r.cst⟩
 ·by_cases c:i=j
  ·subst c
   by_cases hl:i<ρ.length
   ·rw[An hl]at e1
    rw[An (by rw[<- r.len];exact hl)]at e2;cases e1;cases e2
    exact o
   ·rw[F8 (by rw[Bp];omega)]at e1;cases e1
  ·rw[z9 c]at e1 e2
   exact r.ok j y w e1 e2
 ·have w:∀ j b,At (ρ.set i x) (σ.set i v) j b->(j=i/\(∃ p d,x=.ow p d)/\v=some (.ref b))\/(j≠i/\At ρ σ j b):=fun j b ⟨⟨q,dd,e1⟩,e2⟩=>by
   by_cases c:i=j
   ·subst c
    have hl:i<ρ.length:=by
     have:=(Am.mp e1).1
     rwa [Bp]at this
    rw[An hl]at e1;rw[An (by rw[<- r.len];exact hl)]at e2;cases e1;cases e2
    exact .inl ⟨rfl,⟨q,dd,rfl⟩,rfl⟩
   ·rw[z9 c]at e1 e2
    exact .inr ⟨fun z=>c z.symm,⟨q,dd,e1⟩,e2⟩
  rcases w j b h1 with⟨rfl,⟨p,d,e⟩,e'⟩|⟨n1,a1⟩
  ·rcases w k b h2 with⟨rfl,_,_⟩|⟨n2,a2⟩
   ·rfl
   ·exact absurd ⟨k,a2⟩ (s b p d e e')
  ·rcases w k b h2 with⟨rfl,⟨p,d,e⟩,e'⟩|⟨n2,a2⟩
   ·exact absurd ⟨j,a1⟩ (s b p d e e')
   ·exact r.sep j k b a1 a2
section
variable {K:yU}
theorem xf(h:gN i d ρ=.ok ρ1):ρ1=ρ.set i (.val d)/\(∀ e,ρ[i]?≠some (.ow true e))/\i<ρ.length:=by
 unfold gN at h;cases e:ρ[i]? with
 | none=>rw[e]at h;cases h
 | some x =>
  rw[e]at h;have hl:i<ρ.length:=(Am.mp e).1;cases x with
  | no=>cases h;exact⟨rfl,(fun _ z=>nomatch z),hl⟩
  | val c=>cases h;exact⟨rfl,(fun _ z=>nomatch z),hl⟩
  | ob c ds=>cases h;exact⟨rfl,(fun _ z=>nomatch z),hl⟩
  | ow p c =>
   cases p with
   | true=>cases h
   | false=>cases h;exact⟨rfl,(fun _ z=>nomatch z),hl⟩
theorem wJ(n:∀ e,ρ[i]?≠some (.ow true e))(hl:i<ρ.length):km [i] ρ (ρ.set i (.val d)) σ (σ.set i v):=⟨Bp,fun j=>by
 by_cases c:i=j
 ·subst c
  exact .inr ⟨Cj.mpr rfl,⟨d,An hl⟩,n⟩
 ·exact .inl ⟨z9 c,z9 c⟩⟩
theorem zrv(hN:X.N.Nodup)(hi:X.N[i]?=some x)(hx:Loc X.env.scope x)(hf:X.fn x=true\/X.env.scope.names.lookup x=some .local:=by first|exact .inl rfl|exact .inr rfl|assumption):hJ K X [i] (.Name x pos) (gN i):=.mk fun _=>(zqy hN hi hx hf).weak fun v σ H Q=>by
 rintro⟨ρ,d,ρ1,rel,fz,e,q⟩;obtain⟨rfl,n,hl⟩:=xf e;exact q _ (rel.set fz fun _ _ _ z=>nomatch z) (wJ n hl)
theorem oq:qJ K X [] [] []:=.mk fun _=>zqC.weak fun vs σ H Q=>by
 rintro⟨ρ,ds,ρ1,rel,fz,e,q⟩;cases ds with
 | nil =>
  cases e;simp only[aq]at fz;exact⟨fz,q _ rel .refl⟩
 | cons _ _=>cases e
theorem bM{r:R α}{k:α->R β}{b:β}(h:r.bind k=.ok b):∃ a,r=.ok a/\k a=.ok b:=by
 cases r with
 | ok a=>exact⟨a,rfl,h⟩
 | _=>cases h
theorem fY{d1 d2:List Nat}(h1:hJ K X d1 e g)(h2:qJ K X d2 es gs)
  (hs:(Bv (e::es) X.env).map (·.2)=Bk e X.env::(Bv es X.env).map (·.2):=by rfl):qJ K X (d1++d2) (e::es) (g::gs):=.mk fun hK=>(zqB (h1 hK) (h2 hK) hs).weak fun vs σ H Q=>by
 rintro⟨ρ,ds,ρ1,rel,fz,e,q⟩;cases ds with
 | nil=>cases e
 | cons d ds =>
  simp only[aq]at fz;obtain⟨v,r,rfl,f1,f2⟩:=fz;obtain⟨ρ2,e2,e3⟩:=bM (show(g d ρ).bind (fun ρ1=>ee gs ds ρ1)=.ok ρ1 from e);exact⟨v,r,rfl,ρ,d,ρ2,rel,f1,e2,fun σ1 au c1=>⟨ρ2,ds,ρ1,au,f2,e3,fun σ2 bP c2=>q σ2 bP (c1.trans c2)⟩⟩
theorem zf2:∀{gs:List GF} {ds:List D} {ρ ρ1:En},ee gs ds ρ=.ok ρ1->ds.length=gs.length
 | [],[],_,_,_=>rfl
 | [],_::_,_,_,e=>by cases e
 | _::_,[],_,_,e=>by cases e
 | g::gs,d::ds,ρ,ρ1,e=>by
  obtain⟨ρ2,e2,e3⟩:=bM (show(g d ρ).bind (fun ρ1=>ee gs ds ρ1)=.ok ρ1 from e);simp[zf2 e3]
theorem om{k:Nat}(hc:X.calm=true)(h:qJ K X aL es gs)
  (hn:(Bv es X.env).length=gs.length:=by rfl)(cq:(Bv es X.env).findIdx? (·.1)=none:=by rfl):hJ K X aL (.Tuple es k pos) (gT gs):=.mk fun hK=>by
 subst hK;refine(zqA hc (h rfl) hn cq).weak fun v σ H Q=>?_;rintro⟨ρ,d,ρ1,rel,fz,e,q⟩;cases d with
 | tuple ds =>
  simp only[Fz]at fz;obtain⟨a,vs,rfl,s,f⟩:=fz;replace e:ee gs ds ρ=.ok ρ1:=e;exact⟨a,vs,rfl,.inl s,by rw[f.len,zf2 e],ρ,ds,ρ1,rel,f,e,q⟩
 | _=>cases e
variable {st:zy}{rest:List zy}{t:SF}
theorem bQ:eR K X [] aw:=.mk fun _ C=>zq4.weak fun Dn σ H=>by
 rintro⟨ρ,rel,g⟩;exact g σ H rel (aF.refl H)
theorem aE(h1:cZ K X st s)(h2:eR K X rest t):eR K X (st::rest) (ag s t):=.mk fun hK C=>(zhS (h1 hK C) (h2 hK C)).weak fun Dn σ H=>by
 rintro⟨ρ,rel,g⟩;refine⟨ρ,rel,?_⟩;obtain⟨x,ex,g1⟩:=g.ck;rw[ex];obtain⟨fl,ρ1⟩:=x;cases fl with
 | nx=>exact fun σ' H' r z=>⟨ρ1,r,g1.step z⟩
 | bk=>exact g1
 | ct=>exact g1
 | rt d=>exact g1
 | rf d=>exact g1
theorem dF(h1:cZ K X st s):eR K X [st] s:=.mk fun hK C=>yg (h1 hK C)
theorem zrD:cZ K X st iu:=.mk fun _ C=>zqS.weak fun Dn σ H=>by
 rintro⟨ρ,rel,g⟩;exact g.elim
theorem zdd(he:PV K X e f):cZ K X (.Return (some e) pos) (ak f):=.mk fun hK C=>(zhQ (he hK)).weak fun Dn σ H=>by
 rintro⟨ρ,rel,g⟩;exact jT rel g fun d ρ1 v H1 au aY fz g1=>g1 v σ H1 au fz
theorem qf(he:bw K X e f):cZ K X (.Return (some e) pos) (cX f):=.mk fun hK C=>(zhQ (he hK)).weak fun Dn σ H=>by
 rintro⟨ρ,rel,g⟩;exact zga rel g fun d ρ1 a H1 au fz ha n m g1=>g1 a σ H1 au (rel.fresh ha) m
theorem bO{c:yW}{a b:List zy}(hc:fC K X c tc)(ha:eR K X a s)(hb:eR K X b t):cZ K X (.If c a b pos) (ao tc s t):=.mk fun hK C=>(zhP (hc hK) (ha hK C) (hb hK C)).weak fun Dn σ H=>by
 rintro⟨ρ,rel,g⟩;refine zgb rel g fun cb ρ1 H1 au fz g1=>?_;cases cb with
 | true=>exact mD ⟨ρ1,au,g1⟩
 | false=>exact mC ⟨ρ1,au,g1⟩
theorem yn(he:PV K X e f)(hg:hJ K X aL tg g)(hs:Dl [tg] e pos.line X.env=pure false:=by rfl)(hw:Dm [tg] e X.env=pure none:=by rfl)
  (h1:(Bv [tg] X.env).map (·.2)=[Bk tg X.env]:=by rfl):cZ K X (.Assign [tg] e pos) (ax g f):=.mk fun hK C=>(zhN (he hK) (hg hK) hs hw h1).weak fun Dn σ H=>by
 rintro⟨ρ,rel,q⟩;refine jT rel q fun d ρ1 v H1 au aY fz q1=>?_;obtain⟨ρ2,e2,q2⟩:=q1.ck;exact⟨ρ1,d,ρ2,au.rel,fz,e2,fun σ1 bP c=>q2 σ1 H1 (au.chg bP c) (aF.refl H1)⟩
theorem zrH(hN:X.N.Nodup)(hi:X.N[i]?=some x)(hx:Loc X.env.scope x)(he:PV K X e f)(hs:AW e (some (.Name x pos')) pos.line X.env=pure false:=by rfl)(hf:X.fn x=true\/X.env.scope.names.lookup x=some .local:=by first|exact .inl rfl|exact .inr rfl|assumption) :
  cZ K X (.Assign [.Name x pos'] e pos) (ax (gN i) f):=.mk fun hK C=>(zc7 hN hi hx (he hK) hs hf).weak fun Dn σ H=>by
 rintro⟨ρ,rel,q⟩;refine jT rel q fun d ρ1 v H1 au aY fz q1=>?_;obtain⟨ρ2,e2,q2⟩:=q1.ck;obtain⟨rfl,n,hl⟩:=xf e2;exact q2 _ H1 (au.chg (au.rel.set fz fun _ _ _ z=>nomatch z) (wJ n hl)) (aF.refl H1)
theorem zbI(Dn:Ends)(σ:L2.St)(H:Hp)(q0:tS K C (bx i f) Dn σ H):vC (tN K f) (uk i) Dn σ H:=by
 revert q0
 rintro⟨ρ,rel,q⟩;refine zga rel q fun d ρ1 a H1 au fz ha n m q1=>?_;have hf:=rel.fresh ha;replace q1:cS K C H1 (match ρ1[i]? with|some (.ow true _)=>.bad|some _=>.ok (.nx,ρ1.set i (.ow false d))|none=>.bad) Dn:=q1;have fin:(∀ e,ρ1[i]?≠some (.ow true e))->i<ρ1.length->bH K C (ρ1.set i (.ow false d)) (σ.set i (some (.ref a))) H1:=fun np hl=>by
  have hls:i<σ.length:=by rw[<- au.rel.len];exact hl
  refine⟨au.rel.set (show iY K H1 (.ow false d) (some (.ref a)) from m) fun b p c e1 e2=>by cases e2;exact n,au.keep,fun j b c e1 e2=>?_,fun j=>?_,fun j c e1=>?_,au.mL⟩
  ·by_cases k:i=j
   ·subst k
    rw[An hls]at e2;cases e2;exact hf
   ·rw[z9 k]at e1 e2
    exact au.own j b c e1 e2
  ·by_cases k:i=j
   ·subst k
    rw[An hl,<- au.pin i]
    constructor
    ·rintro⟨_,z⟩;cases z
    ·rintro⟨c,z⟩;exact absurd z (np c)
   ·rw[z9 k];exact au.pin j
  ·by_cases k:i=j
   ·subst k
    rw[An hl]at e1;cases e1
   ·rw[z9 k]at e1 ⊢
    exact au.fix j c e1
 cases e1:ρ1[i]? with
 | none=>rw[e1]at q1;exact q1.elim
 | some y =>
  have hl:i<ρ1.length:=(Am.mp e1).1;rw[e1]at q1;cases y with
  | no=>exact q1 _ H1 (fin (fun e z=>by rw[e1]at z;cases z) hl) (aF.refl H1)
  | val c=>exact q1 _ H1 (fin (fun e z=>by rw[e1]at z;cases z) hl) (aF.refl H1)
  | ob c ds=>exact q1 _ H1 (fin (fun e z=>by rw[e1]at z;cases z) hl) (aF.refl H1)
  | ow p c =>
   cases p with
   | true=>exact q1.elim
   | false=>exact q1 _ H1 (fin (fun e z=>by rw[e1]at z;cases z) hl) (aF.refl H1)
theorem zrE(hN:X.N.Nodup)(hi:X.N[i]?=some x)(hx:Loc X.env.scope x)(he:bw K X e f)(hs:AW e (some (.Name x pos')) pos.line X.env=pure false:=by rfl)(hf:X.fn x=true\/X.env.scope.names.lookup x=some .local:=by first|exact .inl rfl|exact .inr rfl|assumption) :
  cZ K X (.Assign [.Name x pos'] e pos) (bx i f):=.mk fun hK C=>(zc7 hN hi hx (he hK) hs hf).weak fun Dn σ H q=>zbI Dn σ H q
theorem yp(i:Nat)(h:cZ K X st s):cZ K X st (fN i s):=.mk fun hK C=>by
 have h1:PS X st (fun Dn σ H=>∃ a u,H a=some u/\Own u/\∀ o,tS K C s Dn σ (upd H a (.frz o u))):=fun pins sh σ H Dn I ⟨a,u,e,ow,q⟩=>by
  obtain⟨o,ho⟩:=(I.aC a u e).some;exact h hK C pins sh σ _ Dn (zbC I e ow ho) (q o)
 refine h1.weak fun Dn σ H=>?_;rintro⟨ρ,rel,g⟩;unfold fN at g;cases e:ρ[i]? with
 | none=>rw[e]at g;exact g.elim
 | some x =>
  rw[e]at g;cases x with
  | ow p d =>
   cases p with
   | true=>exact g.elim
   | false =>
    obtain⟨a,bA,m⟩:=rel.rel.j4 (d:=d) (show bg ρ i=.ok d by unfold bg;rw[e]);obtain⟨u,e1,ow⟩:=m.own;refine⟨a,u,e1,ow,fun o=>⟨ρ.set i (.val d),?_,g.step ?_⟩⟩
    ·have hl:i<ρ.length:=(Am.mp e).1
     have e6:=rel.own i a d e bA.2;have fz:aF H (upd H a (.frz o u)):=fun b w e2 sy=>by
      rw[aU fun z=>by subst z;rw[e1]at e2;cases e2;exact ow.jB sy];exact e2
     have fd:Fz K (upd H a (.frz o u)) d (.ref a):=by
      cases d with
      | list ds =>
       obtain⟨vs,h1,h2⟩:=m;rw[e1]at h1;cases h1;simp only[Fz];exact⟨a,vs,rfl,.inl ⟨o,bU⟩,h2.mono fz⟩
      | dict aj =>
       simp only[Fz];obtain⟨kk,h1,h2⟩:=m;rw[e1]at h1;cases h1;exact⟨a,o,rfl,⟨kk,bU,h2.mono fz⟩⟩
      | _=>exact m.elim
     have tW:∀ j b,At (ρ.set i (.val d)) σ j b->j≠i/\At ρ σ j b:=fun j b ⟨⟨q,dd,e1⟩,e2⟩=>by
      by_cases c:i=j
      ·subst c
       rw[An hl]at e1;cases e1
      ·rw[z9 c]at e1
       exact⟨fun z=>c z.symm,⟨q,dd,e1⟩,e2⟩
     refine⟨⟨by rw[Bp];exact rel.rel.len,fun j y w e2 e3=>?_,fun j k b h1 h2=>rel.rel.sep j k b (tW j b h1).2 (tW k b h2).2,rel.rel.cst.mono fz⟩,fun b w e2 n=>?_,fun j b c e2 e3=>?_,fun j=>?_,fun j c e2=>?_,rel.mL⟩
     ·by_cases c:i=j
      ·subst c
       rw[An hl]at e2;cases e2;rw[bA.2]at e3;cases e3;exact fd
      ·rw[z9 c]at e2
       refine(rel.rel.ok j y w e2 e3).mono fz fun b e4 ⟨p,dd,e5⟩=>?_;subst e4;subst e5
       refine aU fun z=>?_;subst z;exact c (rel.rel.sep i j b bA ⟨⟨p,dd,e2⟩,e3⟩)
     ·rw[aU fun z=>by subst z;rw[e6]at e2;cases e2]
      exact rel.keep b w e2 n
     ·by_cases c:i=j
      ·subst c
       rw[An hl]at e2;cases e2
      ·rw[z9 c]at e2
       exact rel.own j b _ e2 e3
     ·by_cases c:i=j
      ·subst c
       rw[An hl,<- rel.pin i,e]
       constructor
       ·rintro⟨_,z⟩;cases z
       ·rintro⟨_,z⟩;cases z
      ·rw[z9 c];exact rel.pin j
     ·by_cases k:i=j
      ·subst k
       rw[An hl]at e2;cases e2
      ·rw[z9 k]at e2
       exact rel.fix j c e2
    ·exact fun b w e2 sy=>by
      rw[aU fun z=>by subst z;rw[e1]at e2;cases e2;exact ow.jB sy];exact e2
  | _=>exact g.elim
theorem zoX(h:eB ρ i=.ok c):∃ p,ρ[i]?=some (.ow p (.list c)):=by
 unfold eB at h;cases e:ρ[i]? with
 | none=>rw[e]at h;cases h
 | some x =>
  rw[e]at h;cases x with
  | ow p d =>
   cases d with
   | list a=>cases h;exact⟨p,rfl⟩
   | _=>cases h
  | _=>cases h
theorem Rel.zcy(r:Rel K ρ σ H)(h:eB ρ i=.ok c):∃ a vs,At ρ σ i a/\H a=some (.lst vs)/\aq K H c vs:=by
 obtain⟨p,e⟩:=zoX h;obtain⟨a,bA,m⟩:=r.j4 (d:=.list c) (show bg ρ i=.ok (.list c) by unfold bg;rw[e]);obtain⟨vs,h1,h2⟩:=m;exact⟨a,vs,bA,h1,h2⟩
theorem Rel.zg6(r:Rel K ρ1 σ H1)(h:eB ρ1 i=.ok c)(bA:At ρ σ i a):∃ vs,At ρ1 σ i a/\H1 a=some (.lst vs)/\aq K H1 c vs:=by
 obtain⟨b,vs,ab,h1,h2⟩:=r.zcy h;have:=bA.2.symm.trans ab.2;cases this;exact⟨vs,ab,h1,h2⟩
theorem zbJ{Dn:Ends}(rel:bH K C ρ σ H)(bA:At ρ σ i a)(m:cv K (upd H a o) a d)(g:cS K C H (.ok (.nx,dE ρ i d)) Dn):Dn.nx σ (upd H a o):=by
 have st:cA ρ (dE ρ i d) σ H (upd H a o):=ziq bA;exact g σ _ (rel.step (rel.rel.zrc bA m) st) (st.d9 rel.rel)
theorem zf1(rel:bH K C ρ σ H)(bA:At ρ σ i a):aF H (upd H a o):=(ziq (d:=.none) bA).d9 rel.rel
theorem yq{eQ:zc}{k:EF}(i:Nat)(ha:PE X (.Name y py) (dA i))(he:PV K X e f)(hk:PV K X ke k)
  (has:∀ v,Bk (.Subscript (.Name y py) ke eQ) X.env v=(do
   let ov <- Cv [v] (zk (.Name y py) X.env)
   let iv <- Cv [v,ov] (zk ke X.env)
   CO eQ
   Cv [v,ov,iv] (setItem ov iv v)
   release [v,ov,iv] []):=by intro _;rfl)
  (hs:Dl [.Subscript (.Name y py) ke eQ] e pos.line X.env=pure false:=by rfl)(hw:Dm [.Subscript (.Name y py) ke eQ] e X.env=pure none:=by rfl)
  (h1:(Bv [.Subscript (.Name y py) ke eQ] X.env).map (·.2)=[Bk (.Subscript (.Name y py) ke eQ) X.env]:=by rfl):cZ K X (.Assign [.Subscript (.Name y py) ke eQ] e pos) (setM i f k):=.mk fun hK C=>by
 subst hK;refine(zhN (he rfl) (zqz ha (hk rfl) set_list has) hs hw h1).weak fun Dn σ H=>?_;rintro⟨ρ,rel,g⟩;refine jT rel g fun dx ρ1 v H1 au aY fz g1=>?_;obtain⟨d,ed,g2⟩:=g1.ck;obtain⟨a,vs0,bA,h0,_⟩:=au.rel.zcy ed;refine⟨.ref a,bA.2,jT au g2 fun dk ρ2 kv H2 bP dh fk g3=>?_⟩;obtain⟨c,ec,g4⟩:=g3.ck;obtain⟨vs,at1,h1,h2⟩:=bP.rel.zg6 ec bA;cases dk with
 | int j =>
  obtain⟨n,en,g5⟩:=(show cS X.K C H2 ((R.of (FL.fJ c.length j)).bind fun n=>.ok (.nx,dE ρ2 i (.list (c.set n dx)))) Dn from g4).ck;simp only[Fz]at fk;subst fk;refine⟨a,vs,j,n,rfl,rfl,h1,?_,zbJ (d:=.list (c.set n dx)) bP at1 ⟨_,bU,(h2.set n (fz.mono (dh.d9 au.rel))).mono (zf1 bP at1)⟩ g5⟩;rw[h2.len];cases e2:FL.fJ c.length j with
  | none=>rw[e2]at en;cases en
  | some m=>rw[e2]at en;cases en;exact e2
 | _=>exact g4.elim
end
end
variable {c l:yW}{it:IF}{items:List D}{body:List zy}{tl:TE}
section
variable [Cs]
def Walk(K:yU)(J:It)(items:List D)(H:Hp):Prop :=
 (∀ i d H',aF H H'->items[i]?=some d->J.go i H'/\∀ x f9,J.yT i H' x f9->aA H' f9/\Fz K f9 d x)/\∀ i H',aF H H'->items.length<=i->J.stop i H'
noncomputable def tI(K:yU)(it:IF):TI:=fun σ H R=>∃ ρ,Rel K ρ σ H/\Good K ρ σ H (it ρ) fun items _ H'=>∀ J,Walk K J items H'->R J H'
structure iF(K:yU)(X:Cx)(tg e:yW)(it:IF):Prop where
 run:X.K=K->PI X tg e (tI K it)
instance {K:yU}{X:Cx}{tg e:yW}{it:IF}:CoeFun (iF K X tg e it) fun _=>X.K=K->PI X tg e (tI K it):=⟨iF.run⟩
theorem _root_.L2.PI.weak{t t':TI}(h:PI X tg e t)(w:∀ σ H R,t' σ H R->t σ H R):PI X tg e t':=fun pins s σ H R I q=>h pins s σ H R I (w σ H R q)
section
variable {K:yU}
theorem zqF(hl:PE X l tl):PI X tg l (fun σ H R=>tl σ H fun x H1=>∃ a,x=.ref a/\(((∃ xs,cw X.K H1 a xs)/\R (Itl X.K a) H1)\/((∃ xs,fP X.K H1 a xs)/\R (Itt X.K a) H1))):=by
 intro pins s σ H R I h;refine aT (hl pins s σ H _ I h) fun v s1 ⟨x,H1,I1,r1,q1⟩=>?_;obtain⟨a,e,q1⟩:=q1;subst e;cases r1;rcases q1 with⟨⟨xs,hq⟩,q⟩|⟨⟨xs,hq⟩,q⟩
 ·obtain⟨its,rv,p,hz⟩:=I1.list hq
  refine wpAny_pyIter_list p.isList ?_;refine⟨s1.heap.objs.size,[s1.heap.objs.size],_,_,H1,rfl,I1.kept (t':=s1.toks) fun b o e=>zI _ e,zt9 a _,⟨_,AG _ rfl,rfl,rfl⟩,fun b hb=>?_,q⟩;have e:b=s1.heap.objs.size:=by simpa using hb
  subst e;exact I1.lX (zr _) (I1.aC.fresh (zr _))
 ·obtain⟨its,rv,p,hz⟩:=I1.tuple hq
  refine wpAny_pyIter_tuple (show s1.heap.IsTuple a its.toArray from p) ?_;refine⟨s1.heap.objs.size,[s1.heap.objs.size],_,_,H1,rfl,I1.kept (t':=s1.toks) fun b o e=>zI _ e,zud a _,⟨_,AG _ rfl,rfl,rfl⟩,fun b hb=>?_,q⟩;have e:b=s1.heap.objs.size:=by simpa using hb
  subst e;exact I1.lX (zr _) (I1.aC.fresh (zr _))
theorem zup(h:pk K H a vs)(f:aq K H items vs):Walk K (Itl K a) items H:=by
 refine⟨fun i d H' fz e=>?_,fun i H' fz e=>⟨vs,(fz.oy h).sq,by rw[f.len];exact e⟩⟩;obtain⟨v,ev,_⟩:=f.get e;refine⟨⟨vs,v,(fz.oy h).sq,ev⟩,fun x f9 y=>?_⟩;obtain⟨rfl,y⟩:=y;have ex:=y vs (fz.oy h).sq;obtain⟨v',uf,fv⟩:=(f.mono fz).get e;rw[ex]at uf;cases uf;exact⟨aA.refl _,fv⟩
theorem zut(h:cT H a vs)(f:aq K H items vs):Walk K (Itt K a) items H:=by
 refine⟨fun i d H' fz e=>?_,fun i H' fz e=>⟨vs,.inl (fz.yC h),by rw[f.len];exact e⟩⟩;obtain⟨v,ev,_⟩:=f.get e;refine⟨⟨vs,v,.inl (fz.yC h),ev⟩,fun x f9 y=>?_⟩;obtain⟨rfl,y⟩:=y;have ex:=y vs (.inl (fz.yC h));obtain⟨v',uf,fv⟩:=(f.mono fz).get e;rw[ex]at uf;cases uf;exact⟨aA.refl _,fv⟩
theorem kX(he:PV K X e f):iF K X tg e (iE f):=.mk fun hK=>by
 subst hK;refine(zqF (he rfl)).weak fun σ H R=>?_;rintro⟨ρ,rel,q⟩;refine dO rel q fun dx ρ1 x H1 au aY fx q1=>?_;obtain⟨items,ei,q2⟩:=q1.bV;cases dx with
 | list a =>
  cases ei;simp only[Fz]at fx;obtain⟨l,vs,rfl,sx,f⟩:=fx;exact⟨l,rfl,.inl ⟨⟨vs,sx.sq⟩,q2.now au _ (zup sx f)⟩⟩
 | tuple a =>
  cases ei;simp only[Fz]at fx;obtain⟨l,vs,rfl,sx,f⟩:=fx;exact⟨l,rfl,.inr ⟨⟨vs,.inl sx⟩,q2.now au _ (zut sx f)⟩⟩
 | _=>cases ei
theorem p62:(2:Int)^62=4611686018427387904:=by decide
theorem zsT{lo hi:Int}(h:(dP lo hi)[i]?=some d):i<(hi-lo).toNat/\d=.int (lo+i):=by
 unfold dP at h;rw[AH]at h
 by_cases c:i<(hi-lo).toNat
 ·rw[List.getElem?_range c]at h
  cases h;exact⟨c,rfl⟩
 ·rw[F8 (by rw[List.length_range];omega)]at h;cases h
theorem zur(lo hi:Int):Walk K (vX lo (hi-lo).toNat) (dP lo hi) H:=by
 refine⟨fun i d H' fz e=>?_,fun i H' fz e=>?_⟩
 ·obtain⟨c,rfl⟩:=zsT e
  refine⟨c,fun x f9 y=>?_⟩;obtain⟨rfl,rfl⟩:=y;exact⟨aA.refl _,iK _⟩
 ·show(hi-lo).toNat<=i
  simpa[dP] using e
theorem zda{a:yW}(hg:Gl X "range")(hm:X.mg "range"=none)(ha:eJ K X [a] fa)(hs:yX [a] X.env=[(false,zk a X.env)]:=by exact FL.se rfl):iF K X tg (.Call (.Name "range" p) [a] [] pos) (fH fa):=.mk fun hK=>(zqE hg hm (ha hK) hs).weak fun σ H R=>by
 rintro⟨ρ,rel,q⟩;refine rl rel q fun ds ρ1 vs H1 au aY fs q1=>?_;obtain⟨items,ei,q2⟩:=q1.bV;cases ds with
 | nil=>cases ei
 | cons d r =>
  cases r with
  | cons _ _=>cases d <;> cases ei
  | nil =>
   cases d with
   | int j =>
    obtain⟨c,ei⟩:=cJ (show aN (sH j&&leB j.toNat lim) (.ok (dP 0 j))=.ok items from ei);cases ei;simp only[aq,Fz]at fs;obtain⟨_,_,rfl,rfl,rfl⟩:=fs;simp only[sH,zX,leB_iff]at c;have:=zur (K:=K) (H:=H1) 0 j;rw[Int.sub_zero]at this;have e62:=p62;exact⟨j,rfl,by omega,by omega,q2.now au _ this⟩
   | _=>cases ei
variable {t:SF}
theorem zrC(hp:CP (yZ X.prog X.w) X.A X.env X.xe)(hc:X.calm=true)(hi:iF K X tg e it)(hg:hJ K X aL tg g)(hb:eR K X body b)(hs:∀ x,Be e X.env x=pure x:=by intro _;rfl):cZ K X (.For tg e body [] pos) (dZ it g b):=.mk fun hK C =>
 (zhO hp hc (hi hK) (hg hK) (hb hK C) hs).weak fun Dn σ0 H0=>by
 rintro⟨ρ0,j9,q⟩;obtain⟨x,ex,q⟩:=q.ck;refine⟨ρ0,j9.rel,?_⟩;rw[ex];intro Hs r st J wk;have au:=j9.step r st;have q1:=q.step (st.d9 j9.rel);obtain⟨items,ρs⟩:=x;refine⟨fun i m σ H=>m=items.length-i/\i<=items.length/\∃ ρ,bH K C ρ σ H/\aF Hs H/\cS K C H (forL g b (items.drop i) ρ) Dn,⟨items.length,by simp,AU _,ρs,au,aF.refl _,q1⟩,?_⟩;rintro i m σ H ⟨rfl,hi,ρ,rel,fz,gd⟩
 by_cases c:i<items.length
 ·have ed:=E7 c
  rw[ed]at gd;obtain⟨dC,hy⟩:=wk.1 i items[i] H fz (Af c);refine .inr ⟨dC,fun σ' H'=>∃ ρ,bH K C ρ σ' H'/\aF Hs H'/\cS K C H' (forL g b (items.drop (i+1)) ρ) Dn,fun σ' H' n=>⟨items.length-(i+1),by omega,rfl,c,n⟩,fun x H3 y=>?_⟩;obtain⟨sm,fx⟩:=hy x H3 y;have iO:bH K C ρ σ H3:=rel.step (rel.rel.same sm) (.of sm);obtain⟨ρ1,e1,gd1⟩:=gd.ck;refine⟨ρ,items[i],ρ1,iO.rel,fx,e1,fun σ1 vx chg=>⟨ρ1,iO.chg vx chg,?_⟩⟩;obtain⟨y,ey,jR⟩:=gd1.ck;rw[ey];have jS:=jR.step (aF.of sm);have uj:=fz.trans (aF.of sm);obtain⟨fl,ρ2⟩:=y;cases fl with
  | nx=>exact fun σ' H' r z=>⟨ρ2,r,uj.trans z,jS.step z⟩
  | ct=>exact fun σ' H' r z=>⟨ρ2,r,uj.trans z,jS.step z⟩
  | bk=>exact jS
  | rt d=>exact jS
  | rf d=>exact jS
 ·have e:i=items.length:=by omega
  subst e;rw[F9]at gd;exact .inl ⟨wk.2 _ H fz (zr _),gd σ H rel (aF.refl _)⟩
theorem zh4(fuel:En->Nat)(hp:CP (yZ X.prog X.w) X.A X.env X.xe)(hc:fC K X c tc)(hb:eR K X body b):cZ K X (.While c body [] pos) (qp fuel tc b):=.mk fun hK C =>
 (zqX hp (hc hK) (hb hK C)).weak fun Dn σ0 H0=>by
 rintro⟨ρ0,j9,q⟩;refine⟨fun m σ H=>∃ ρ,bH K C ρ σ H/\cS K C H (qA tc b m ρ) Dn,⟨fuel ρ0,ρ0,j9,q⟩,?_⟩;rintro m σ H ⟨ρ,rel,gd⟩;cases m with
 | zero=>exact gd.elim
 | succ n =>
  refine zgb rel gd fun cb ρ1 H1 au fz g1=>?_;cases cb with
  | false=>exact mC (g1 σ H1 au (aF.refl _))
  | true =>
   refine mD ⟨fun σ' H'=>∃ ρ,bH K C ρ σ' H'/\cS K C H' (qA tc b n ρ) Dn,fun σ' H' z=>⟨n,Nat.lt_succ_self _,z⟩,ρ1,au,?_⟩;obtain⟨y,ey,jR⟩:=(show cS K C H1 ((b ρ1).bind fun y=>match y.1 with
   | .nx | .ct=>qA tc b n y.2
   | .bk=>.ok (.nx,y.2)
   | .rt d=>.ok (.rt d,y.2)
   | .rf d=>.ok (.rf d,y.2)) Dn from g1).ck
   rw[ey];obtain⟨fl,ρ2⟩:=y;cases fl with
   | nx=>exact fun σ' H' r z=>⟨ρ2,r,jR.step z⟩
   | ct=>exact fun σ' H' r z=>⟨ρ2,r,jR.step z⟩
   | bk=>exact jR
   | rt d=>exact jR
   | rf d=>exact jR
end
end
variable {ix:List Nat}{J:It}{j k k2:Nat}{elt iter:yW}{o0:HO}{ifs:List yW}{H0:Hp}{tu:TU}{cs β:En}{scope:Al}{M:gV->D->Hp->Prop}{σβ:L2.St}{l:gV}{F:D->En->R (D×En)}{d0:D}
section
variable [Cs]
section
variable {K:yU}
theorem zeS(h:j<k):(cg k ix ρ)[j]?=some .no:=by
 unfold cg;rw[AY (by simpa using h),BM,if_pos h]
theorem wF(j:Nat):(cg k ix ρ)[k+j]?=(ix[j]?).map fun i=>(ρ[i]?).getD .no:=by
 unfold cg;rw[B2 (by simp),CW,Ga,AH]
theorem zaM(j:Nat):(fQ k ix σ)[k+j]?=(ix[j]?).map fun i=>(σ[i]?).getD none:=by
 unfold fQ;rw[B2 (by simp),CW,Ga,AH]
theorem t5(h:At (cg k ix ρ) (fQ k ix σ) j a):∃ j' i,j=k+j'/\ix[j']?=some i/\At ρ σ i a:=by
 obtain⟨⟨p,d,e1⟩,e2⟩:=h
 by_cases c:j<k
 ·rw[zeS c]at e1;cases e1
 ·obtain⟨j',rfl⟩:∃ j',j=k+j':=⟨j-k,by omega⟩
  rw[wF]at e1;rw[zaM]at e2;cases ei:ix[j']? with
  | none=>rw[ei]at e1;cases e1
  | some i =>
   rw[ei]at e1 e2;refine⟨j',i,rfl,ei,⟨p,d,?_⟩,?_⟩
   ·simp only[Bi,Bh]at e1
    cases er:ρ[i]? with
    | none=>rw[er]at e1;cases e1
    | some x=>rw[er]at e1;simpa using e1
   ·simp only[Bi,Bh]at e2
    cases es:σ[i]? with
    | none=>rw[es]at e2;cases e2
    | some x=>rw[es]at e2;simpa using e2
theorem zpu{l:List Nat}(h:l.Nodup){x:Nat}(a:l[i]?=some x)(b:l[j]?=some x):i=j:=by
 obtain⟨h1,e1⟩:=Am.mp a;obtain⟨h2,e2⟩:=Am.mp b;exact(List.getElem_inj h).mp (e1.trans e2.symm)
theorem zj9(nd:ix.Nodup)(r:Rel K ρ σ H):Rel K (cg k ix ρ) (fQ k ix σ) H:=by
 refine⟨by simp[cg,fQ],fun j x v e1 e2=>?_,fun i j a h1 h2=>?_,r.cst⟩
 ·by_cases c:j<k
  ·rw[zeS c]at e1;cases e1;trivial
  ·obtain⟨j',rfl⟩:∃ j',j=k+j':=⟨j-k,by omega⟩
   rw[wF]at e1;rw[zaM]at e2;cases ei:ix[j']? with
   | none=>rw[ei]at e1;cases e1
   | some i =>
    rw[ei]at e1 e2;simp only[Bi,Bh]at e1 e2;cases er:ρ[i]? with
    | none=>rw[er]at e1;cases e1;trivial
    | some y =>
     have hl:i<σ.length:=by rw[<- r.len];exact(Am.mp er).1
     rw[er]at e1;rw[Af hl]at e2;cases e1;cases e2
     exact r.ok i _ _ er (Af hl)
 ·obtain⟨i',x,rfl,e1,a1⟩:=t5 h1
  obtain⟨j',y,rfl,e2,a2⟩:=t5 h2;have:=r.sep x y a a1 a2;subst this;rw[zpu nd e1 e2]
theorem zaD{m:List (Nat×Sl)}:∀(ρ:En) (n i:Nat),(bY m n ρ)[i]?=(ρ[i]?).map (cf m (n+i))
 | [],n,i=>by simp[bY]
 | x::r,n,0=>by simp[bY]
 | x::r,n,i+1=>by
  simp only[bY,zz1];rw[zaD r (n+1) i,show n+1+i=n+(i+1) by omega]
theorem zeK(i:Nat):(back ρ ix cs)[i]?=(ρ[i]?).map (cf (ix.zip cs) i):=by
 unfold back;rw[zaD,CD]
theorem zaE{m:List (Nat×Sl)}:∀(ρ:En) (n:Nat),(bY m n ρ).length=ρ.length
 | [],n=>rfl
 | x::r,n=>by simp[bY,zaE r]
theorem zi9:∀{ix:List Nat} {cs:En} {i:Nat} {c:Sl},(ix.zip cs).lookup i=some c->∃ j:Nat,ix[j]?=some i/\cs[j]?=some c
 | [],cs,i,c,h=>by simp at h
 | x::r,[],i,c,h=>by simp at h
 | x::r,y::s,i,c,h=>by
  rw[AQ,zJ]at h
  by_cases e:i=x
  ·subst e
   simp only[beq_self_eq_true]at h;cases h;exact⟨0,rfl,rfl⟩
  ·rw[beq_false_of_ne e]at h
   obtain⟨j,h1,h2⟩:=zi9 h;exact⟨j+1,by simpa using h1,by simpa using h2⟩
theorem zja:∀{ix:List Nat} {cs:En} {i j:Nat} {c:Sl},ix.Nodup->ix[j]?=some i->cs[j]?=some c->(ix.zip cs).lookup i=some c
 | [],cs,i,j,c,_,h1,_=>by simp at h1
 | x::r,[],i,j,c,_,_,h2=>by simp at h2
 | x::r,y::s,i,j,c,nd,h1,h2=>by
  rw[AQ,zJ];cases j with
  | zero =>
   simp at h1 h2;subst h1;subst h2
   simp
  | succ j =>
   simp at h1 h2;have:i≠x:=fun z=>by
    subst z;exact(Bm.mp nd).1 (BO h1)
   rw[beq_false_of_ne this];exact zja (Bm.mp nd).2 h1 h2
theorem zj8(nd:ix.Nodup)(r:Rel K ρ σ H)(hs:∀ j,σβ[k+j]?=(fQ k ix σ)[k+j]?)(rb:Rel K β σβ H')
  (md:∀ j p,(∃ d,β[k+j]?=some (.ow p d))↔∃ d,(cg k ix ρ)[k+j]?=some (.ow p d))(kp:∀ a o,H a=some o->¬ MA (cg k ix ρ) (fQ k ix σ) a->H' a=some o) :
  Rel K (back ρ ix (β.drop k)) σ H'/\cA ρ (back ρ ix (β.drop k)) σ H H':=by
 have hm:∀ a,MA (cg k ix ρ) (fQ k ix σ) a->MA ρ σ a:=fun a ⟨j,h⟩=>by
  obtain⟨_,i,_,_,h⟩:=t5 h;exact⟨i,h⟩
 have fz:aF H H':=fun a o h st=>kp a o h fun m=>by
  obtain⟨o',e,w⟩:=r.fV (hm a m);rw[h]at e;cases e;exact w.jB st
 have uP:∀(i:Nat) p,(∃ d,ρ[i]?=some (.ow p d))↔∃ d,(back ρ ix (β.drop k))[i]?=some (.ow p d):=fun i p=>by
  rw[zeK]
  constructor
  ·rintro⟨d,e⟩
   rw[e];simp only[Bi,cf]
   split
   ·rename_i p' d1 q' d2 h1 h2;cases h1;exact⟨_,rfl⟩
   ·exact⟨_,rfl⟩
  ·rintro⟨d,e⟩
   cases er:ρ[i]? with
   | none=>rw[er]at e;cases e
   | some x =>
    rw[er]at e;simp only[Bi,Bh,cf]at e
    split at e
    ·cases e;exact⟨_,rfl⟩
    ·subst e;exact⟨_,rfl⟩
 have tQ:∀ i a,At (back ρ ix (β.drop k)) σ i a->At ρ σ i a:=fun i a ⟨⟨p,d,e1⟩,e2⟩=>⟨⟨p,(uP i p).mpr ⟨d,e1⟩⟩,e2⟩;refine⟨⟨by rw[show(back ρ ix (β.drop k)).length=ρ.length from zaE _ _];exact r.len,fun i x v e1 e2=>?_,fun i j a h1 h2=>r.sep i j a (tQ i a h1) (tQ j a h2),r.cst.mono fz⟩,⟨uP,fun a o h n=>kp a o h fun m=>n (hm a m)⟩⟩;rw[zeK]at e1;cases er:ρ[i]? with
 | none=>rw[er]at e1;cases e1
 | some y =>
  rw[er]at e1;simp only[Bi,Bh]at e1;have o:=r.ok i y v er e2;cases y with
  | no=>simp only[cf]at e1;subst e1;trivial
  | val d =>
   simp only[cf]at e1;subst e1;exact o.mono fz fun a _ ⟨p,d',z⟩=>nomatch z
  | ob c ds =>
   simp only[cf]at e1;subst e1;exact o.mono fz fun a _ ⟨p,d',z⟩=>nomatch z
  | ow p d =>
   cases v with
   | none=>exact o.elim
   | some v =>
    cases v with
    | ref a =>
     have ai:At ρ σ i a:=⟨⟨p,d,er⟩,e2⟩;cases el:(ix.zip (β.drop k)).lookup i with
     | none =>
      simp only[cf,el]at e1;subst e1;refine o.mono fz fun b e3 _=>?_;cases e3;obtain⟨u,hu,_⟩:=r.fV ⟨i,ai⟩;rw[hu];refine kp a u hu fun⟨j,h⟩=>?_;obtain⟨j',i',rfl,ej,h'⟩:=t5 h;have:=r.sep i i' a ai h';subst this;have hb:β[k+j']?≠none:=fun z=>by
       have:∃ d,β[k+j']?=some (.ow p d):=(md j' p).mpr ⟨d,by rw[wF,ej];simp[er]⟩;obtain⟨_,w⟩:=this;rw[z]at w;cases w
      cases ju:β[k+j']? with
      | none=>exact hb ju
      | some c =>
       have:(β.drop k)[j']?=some c:=by rw[List.getElem?_drop];exact ju
       rw[zja nd ej this]at el;cases el
     | some c =>
      obtain⟨j,hj,hc⟩:=zi9 el;rw[List.getElem?_drop]at hc;have bm:(cg k ix ρ)[k+j]?=some (.ow p d):=by rw[wF,hj];simp[er]
      obtain⟨d',eN⟩:=(md j p).mpr ⟨d,bm⟩;rw[hc]at eN;cases eN;simp only[cf,el]at e1;subst e1;have es:σβ[k+j]?=some (some (.ref a)):=by rw[hs j,zaM,hj];simp[e2]
      exact rb.ok (k+j) _ _ hc es
    | _=>exact o.elim
end
theorem zgc{K:yU}(hd:aL.all (fun i=>decide (i<k))=true):pq k (tG K aL g):=fun x σ H Q=>by
 rintro⟨ρ,d,ρ1,rel,fz,e,q⟩;refine⟨ρ,d,ρ1,rel,fz,e,fun σ1 au c=>⟨⟨c.1,fun i hi=>?_⟩,q σ1 au c⟩⟩;rcases c.2 i with⟨_,c2⟩|⟨m,_⟩
 ·exact c2
 ·have:=of_decide_eq_true (A3.mp hd i m)
  omega
structure pE(K:yU)(X:Cx)(ifs:List yW)(t:TF):Prop where
 run:X.K=K->jk X ifs (tT K t)
instance {K:yU}{X:Cx}{ifs:List yW}{t:TF}:CoeFun (pE K X ifs t) fun _=>X.K=K->jk X ifs (tT K t):=⟨pE.run⟩
theorem _root_.L2.jk.weak{e:List yW}{t:TT}(h:jk X e t)(w:∀ σ H Q,t' σ H Q->t σ H Q):jk X e t':=fun pins s σ H Q I q=>h pins s σ H Q I (w σ H Q q)
theorem j8{K:yU}:pE K X [] du:=.mk fun _=>zq9.weak fun σ H Q=>by
 rintro⟨ρ,rel,q⟩;exact q.now rel
section
variable {K:yU}
theorem zum{x y:HO}(h:H l=some y):upd (upd H l x) l y=H:=by
 funext a
 by_cases e:a=l
 ·subst e;rw[bU,h]
 ·rw[aU e,aU e]
def jQ(k:Nat)(ix:List Nat)(g:GF)(t:TF)(F:D->En->R (D×En)):List D->En->D->R (D×En)
 | [],ρ,acc=>.ok (acc,ρ)
 | x::xs,ρ,acc=>(g x (cg k ix ρ)).bind fun β=>(t β).bind fun c =>
   if c.1=true then(F acc c.2).bind fun y=>jQ k ix g t F xs (back ρ ix (y.2.drop k)) y.1
   else jQ k ix g t F xs (back ρ ix (c.2.drop k)) acc
def zas(f:EF):D->En->R (D×En):=fun acc β=>match acc with
 | .list a=>(f β).bind fun y=>aN (leB (a.length+1) lim) (.ok (.list (a++[y.1]),y.2))
 | _=>.bad
theorem zaR{k:Nat}{ix:List Nat}{g:GF}{t:TF}{f:EF}:∀(xs:List D) (ρ:En) (a:List D),((iH k ix g t f xs ρ a).bind fun y=>.ok ((.list y.1:D),y.2))=jQ k ix g t (zas f) xs ρ (.list a)
 | [],ρ,a=>rfl
 | x::xs,ρ,a=>by
  unfold iH jQ;cases g x (cg k ix ρ) with
  | ok β =>
   simp only[ah];cases t β with
   | ok c =>
    obtain⟨b,β2⟩:=c;simp only[ah];cases b with
    | true =>
     simp only[if_true,zas];cases f β2 with
     | ok y =>
      simp only[ah,aN]
      split
      ·exact zaR xs _ _
      ·rfl
     | _=>rfl
    | false=>exact zaR xs _ _
   | _=>rfl
  | _=>rfl
section
variable {K:yU}
structure MOk(M:gV->D->Hp->Prop):Prop where
 own:∀{l d H},M l d H->∃ o,H l=some o/\Own o
 mono:∀{l d H H'},M l d H->aF H H'->H' l=H l->M l d H'
theorem mok:MOk fun l d H=>cv K H l d:=⟨fun h=>h.own,fun h f e=>h.mono f e⟩
abbrev Md(β β':En):Prop:=∀(i:Nat) p,(∃ d,β[i]?=some (.ow p d))↔∃ d,β'[i]?=some (.ow p d)
abbrev Kp(β:En)(σ:L2.St)(l:gV)(H H':Hp):Prop:=∀ a o,a≠l->H a=some o->¬ MA β σ a->H' a=some o
def Act(K:yU)(M:gV->D->Hp->Prop)(k2:Nat)(tu:TU)(F:D->En->R (D×En)):Prop:=∀{β β':En} {σ:L2.St} {H:Hp} {l:gV} {acc eS:D} {Q:Hp->Prop},Rel K β σ H->(∀ j,j<k2->σ[j]?=some none)->F acc β=.ok (eS,β')->M l acc H->¬ MA β σ l ->
 (∀ H',Rel K β' σ H'->Md β β'->Kp β σ l H H'->aF H H'->M l eS H'->Q H')->tu l σ H Q
theorem zhE(h:Own o):¬ tF o:=by cases o <;> simp[Own,tF]at h ⊢
theorem zmF{g:GF}{t:TF}{aL:List Nat}{β0 β':En}{zar eS:D}(mo:MOk M)(nd:ix.Nodup)(dC:aL.all (fun i=>decide (k2<=i)&&decide (i<k))=true)(hk:k2<=k)(A:Act K M k2 tu F)
  (rel:Rel K β0 σ H0)(mu:M l zar H0)(sf:¬ MA β0 σ l)(wk:Walk K J items H0)(ec:jQ k ix g t F items β0 zar=.ok (eS,β'))
  (q:∀ H',Rel K β' σ H'->Md β0 β'->Kp β0 σ l H0 H'->aF H0 H'->M l eS H'->Q H'):∃ W:Nat->Nat->Hp->Prop,(∃ m,W 0 m H0)/\zdC J (tG K aL g) (tT K t) tu l (fQ k ix σ) Q W:=by
 have zbO:∀ i∈aL,k2<=i/\i<k:=fun i m=>by
  have:=A3.mp dC i m;simpa using this
 refine⟨fun i m H2=>m=items.length-i/\i<=items.length/\∃ β2 mZ,M l mZ H2/\Rel K β2 σ H2/\Md β0 β2/\Kp β0 σ l H0 H2/\aF H0 H2/\jQ k ix g t F (items.drop i) β2 mZ=.ok (eS,β'),
  ⟨items.length,by simp,AU _,β0,zar,mu,rel,fun _ _=>C7,fun _ _ _ h _=>h,.refl _,ec⟩,?_⟩
 rintro i m H2 ⟨rfl,hi,β2,mZ,xU,bP,md2,kp2,rh,ec⟩;obtain⟨ob,hly,own⟩:=mo.own xU;have maE:∀ a,MA β2 σ a->MA β0 σ a:=fun a ⟨j,⟨p,h⟩,e⟩=>⟨j,⟨p,(md2 j p).mpr h⟩,e⟩
 by_cases c:i<items.length
 ·rw[E7 c]at ec
  obtain⟨zmQ,hy⟩:=wk.1 i items[i] H2 rh (Af c);refine .inr ⟨zmQ,fun x H3 y=>?_⟩;obtain⟨sm,fx⟩:=hy x H3 y;have iO:Rel K β2 σ H3:=bP.same sm;obtain⟨β1,e1,ec⟩:=bM (show(g items[i] (cg k ix β2)).bind _=.ok (eS,β') from ec);obtain⟨c1,ecc,ec⟩:=bM ec;refine⟨cg k ix β2,items[i],β1,zj9 nd iO,fx,e1,fun σ1 zic chg=>⟨β1,zic,?_⟩⟩;rw[ecc];intro H5 zib kj;have hσ:∀ j,σ1[k+j]?=(fQ k ix σ)[k+j]?:=fun j=>by
   rcases chg.2 (k+j) with⟨_,c2⟩|⟨m,_⟩
   ·exact c2
   ·have:=zbO _ m
    omega
  have hβ:∀ j,β1[k+j]?=(cg k ix β2)[k+j]?:=fun j=>by
   rcases chg.2 (k+j) with⟨c2,_⟩|⟨m,_⟩
   ·exact c2
   ·have:=zbO _ m
    omega
  have zmW:∀ j,j<k2->σ1[j]?=some none:=fun j hj=>by
   rcases chg.2 j with⟨_,c2⟩|⟨m,_⟩
   ·rw[c2]
    unfold fQ;rw[AY (by simp;omega),BM,if_pos (by omega)]
   ·have:=zbO _ m
    omega
  have hMA:∀ a,MA β1 σ1 a->MA (cg k ix β2) (fQ k ix σ) a:=fun a ⟨j,⟨p,d,z1⟩,z2⟩=>by
   rcases chg.2 j with⟨c1,c2⟩|⟨_,⟨d',c1⟩,_⟩
   ·exact⟨j,⟨p,d,by rw[<- c1];exact z1⟩,by rw[<- c2];exact z2⟩
   ·rw[c1]at z1;cases z1
  have nm2:¬ MA β2 σ l:=fun z=>sf (maE l z);have h3l:H3 l=some ob:=sm l _ hly;have n1:¬ MA β1 σ1 l:=fun z=>by
   obtain⟨j,h⟩:=hMA l z;obtain⟨_,i',_,_,h⟩:=t5 h;exact nm2 ⟨i',h⟩
  have h5l:H5 l=some ob:=kj.kp l _ h3l n1;have fz5:aF H2 H5:=(aF.of sm).trans (kj.d9 zic);obtain⟨cb,β3⟩:=c1;have fin:∀{β4:En} {tK:D} {H':Hp},Rel K β4 σ1 H'->Md β3 β4->Kp β3 σ1 l H5 H'->aF H5 H'->M l tK H'->jQ k ix g t F (items.drop (i+1)) (back β2 ix (β4.drop k)) tK=.ok (eS,β') ->
    ∃ m',m'<items.length-i/\m'=items.length-(i+1)/\i+1<=items.length/\∃ β2 mZ,M l mZ H'/\Rel K β2 σ H'/\Md β0 β2/\Kp β0 σ l H0 H'/\aF H0 H'/\jQ k ix g t F (items.drop (i+1)) β2 mZ=.ok (eS,β'):=fun{β4 tK H'} qi xR kp' fz' xT ew=>by
   obtain⟨ob',rF,zqa⟩:=mo.own xT;have n2:¬ MA β3 σ1 l:=fun z=>n1 (kj.ma.mpr z);have n3:¬ MA β4 σ1 l:=fun⟨j,⟨p,h⟩,e⟩=>n2 ⟨j,⟨p,(xR j p).mpr h⟩,e⟩;have zsN:Rel K β4 σ1 (upd H' l ob):=qi.put n3 (fun u e=>by rw[rF]at e;cases e;exact zhE zqa);obtain⟨rb,sb⟩:=zj8 (k:=k) nd iO hσ zsN (fun j p=>by rw[<- hβ j];exact((kj.md (k+j) p).trans (xR (k+j) p)).symm) (fun a o h n=>by
    by_cases e:a=l
    ·subst e;rw[bU];rw[h3l]at h;exact h
    ·rw[aU e]
     have h5:=kj.kp a o h fun z=>n (hMA a z);exact kp' a o e h5 fun z=>n (hMA a (kj.ma.mpr z)))
   have nmb:¬ MA (back β2 ix (β4.drop k)) σ l:=fun z=>nm2 (sb.ma.mpr z);have rf:Rel K (back β2 ix (β4.drop k)) σ H':=by
    have:=rb.put (o:=ob') nmb (fun u e=>by rw[bU]at e;cases e;exact zhE own);rw[zum rF]at this;exact this
   refine⟨items.length-(i+1),by omega,rfl,c,back β2 ix (β4.drop k),tK,xT,rf,fun j p=>(md2 j p).trans (sb.md j p),fun a o cB h n=>?_,rh.trans (fz5.trans fz'),ew⟩;have:=sb.kp a o (sm a o (kp2 a o cB h n)) fun z=>n (maE a z);rw[aU cB]at this;exact this
  cases cb with
  | true =>
   refine mD ?_;obtain⟨y2,ey,ew⟩:=bM (show(F mZ β3).bind _=.ok (eS,β') from ec);obtain⟨tK,β4⟩:=y2;exact A zib zmW ey (mo.mono xU fz5 (by rw[h5l,hly])) (fun z=>n1 (kj.ma.mpr z)) fun H' qi xR kp' fz' xT=>fin qi xR kp' fz' xT ew
  | false=>exact mC (fin zib (fun _ _=>C7) (fun _ _ _ h _=>h) (.refl _) (mo.mono xU fz5 (by rw[h5l,hly])) ec)
 ·have e:i=items.length:=by omega
  subst e;rw[F9]at ec;have lT:R.ok (mZ,β2)=R.ok (eS,β'):=ec;cases lT;exact .inl ⟨wk.2 _ H2 rh (zr _),q H2 bP md2 kp2 rh xU⟩
theorem zjS{aL:List Nat}(h:aL.all (fun i=>decide (i<k))=true):aL.all (fun i=>decide (0<=i)&&decide (i<k))=true:=A3.mpr fun i m=>by simpa using A3.mp h i m
theorem zjP{f:EF}:Act K (fun l d H=>cv K H l d) k2 (zdE (tV K f)) (zas f):=fun{β β' σ H l acc eS Q} rel _ e mu sf q=>by
 cases acc with
 | list a =>
  obtain⟨ys,hl,fa⟩:=mu;obtain⟨y,ey,e⟩:=bM (show(f β).bind _=.ok (eS,β') from e);obtain⟨cc,e⟩:=cJ e;cases e;refine⟨β,rel,?_⟩;rw[ey];intro H6 zsJ mU v fv;have h6l:=mU.kp l _ hl sf;have fz7:aF H6 (upd H6 l (.lst (ys++[v]))):=fun b u e s=>by
   rw[aU fun z=>by subst z;rw[h6l]at e;cases e;exact s];exact e
  refine⟨ys,h6l,?_,q _ (zsJ.put (fun z=>sf (mU.ma.mpr z)) (fun u e=>by rw[h6l]at e;cases e;exact fun z=>z)) mU.md (fun a o cB h n=>by rw[aU cB];exact mU.kp a o h n) ((mU.d9 rel).trans fz7) ⟨_,bU,((fa.mono (mU.d9 rel)).mono fz7).app (by simp only[aq];exact⟨v,[],rfl,fv.mono fz7,rfl⟩)⟩⟩;have:=dX cc;have l0:=gF;rw[fa.len];omega
 | _=>cases e
theorem zmC{it:IF}{g:GF}{t:TF}{aL:List Nat}{e:EF}(A:Act K (fun l d H=>cv K H l d) k2 tu F)(he:∀ ρ,e ρ=(it ρ).bind fun x=>jQ k ix g t F x.1 x.2 d0)(hd:∀{H:Hp} {l:gV},cv K (upd H l o0) l d0)
  (nd:ix.Nodup)(dC:aL.all (fun i=>decide (k2<=i)&&decide (i<k))=true)(hk:k2<=k)(σ:L2.St)(H:Hp)(Q:VK)(q:tN K e σ H Q):sN o0 k ix (tI K it) (tG K aL g) (tT K t) tu σ H Q:=by
 obtain⟨ρ0,j9,q⟩:=q;rw[he]at q;obtain⟨x,ex,q⟩:=q.ck;refine⟨ρ0,j9,?_⟩;rw[ex];intro H1 au aY J wk l hl;obtain⟨items,ρs⟩:=x;have uE:H l=none:=by
  cases e:H l with
  | none=>rfl
  | some o =>
   by_cases m:MA ρ0 σ l
   ·obtain⟨o',e',_⟩:=au.fV (aY.ma.mp m)
    rw[hl]at e';cases e'
   ·rw[aY.kp l o e m]at hl;cases hl
 have sl:aA H1 (upd H1 l o0):=aA.upd hl;have q:Good K ρ0 σ H (jQ k ix g t F items ρs d0) _:=q;cases ey:jQ k ix g t F items ρs d0 with
 | ok y =>
  rw[ey]at q;exact zmF (Q:=fun H'=>Q (.ref l) H') mok nd dC hk A (au.same sl) hd (fun z=>by
   obtain⟨o',e',_⟩:=au.fV z;rw[hl]at e';cases e') ⟨fun i d H' f=>wk.1 i d H' ((aF.of sl).trans f),fun i H' f=>wk.2 i H' ((aF.of sl).trans f)⟩ ey fun H' r md kp fz m=>q H' r ⟨fun i p=>(aY.md i p).trans (md i p),fun a o h n=>kp a o (fun z=>by subst z;rw[uE]at h;cases h) (sl a o (aY.kp a o h n)) fun z=>n (aY.ma.mpr z)⟩ l uE m
 | _=>rw[ey]at q;exact q.elim
theorem zpl:cv K (upd H l (.lst [])) l (.list []):=⟨[],bU,by simp[aq]⟩
end
theorem zf8(nd:ix.Nodup)(dC:aL.all (fun i=>decide (i<k))=true)(σ:L2.St)(H:Hp)(Q:VK)(q:tN K (dB k ix it g t f) σ H Q):zdB k ix (tI K it) (tG K aL g) (tT K t) (tV K f) σ H Q :=
 zmC (k2:=0) (d0:=.list []) zjP (fun ρ=>by unfold dB;cases it ρ with
  | ok x=>exact zaR _ _ _
  | _=>rfl) zpl nd (zjS dC) (AU _) σ H Q q
theorem zrA(L:List dm)(ix:List Nat)(M:List dm)(hc:X.calm=true)(hk:scope.kind=.function)(hd:kA X.env.scope scope X.N ix=true)(hM:M=L++ix.map fun i=>X.N.getD i "")(nd:ix.Nodup)(hi:iF K X tg iter it)
  (hg:∀ C s₃ H₃ fp,hJ K (c7 X M scope C s₃ H₃ fp) aL tg g) (dC:aL.all (fun i=>decide (i<L.length))=true)
  (ht:∀ C s₃ H₃ fp,pE K (c7 X M scope C s₃ H₃ fp) ifs t) (he:∀ C s₃ H₃ fp,PV K (c7 X M scope C s₃ H₃ fp) elt f)
  (hs:∀ x,Be iter X.env x=pure x:=by intro _;rfl) :
  bw K X (.ListComp elt [⟨tg,iter,ifs,0⟩] scope pos) (dB L.length ix it g t f):=.mk fun hK=>by
 refine(zqj L ix M hc hk hd hM (hi hK) (fun C s₃ H₃ fp=>hg C s₃ H₃ fp hK) (zgc dC) (fun C s₃ H₃ fp=>ht C s₃ H₃ fp hK) (fun C s₃ H₃ fp=>he C s₃ H₃ fp hK) hs).weak fun σ H Q q=>zf8 nd dC σ H Q q
end
end
variable {ms:List Bool}{fd:Ah}{P:zu}{N ps:List dm}{mg:dm->Option ir}{base:zh}{n:Nat}{l:List Itm}
section
variable [Cs]
def ki(K:yU)(ms:List Bool)(fr:Bool)(F:List D->R (D×List D)):Sp:=fun vs H Q _=>∃ ds,vs.length=ms.length/\ds.length=ms.length/\Rel K (slots ms ds) (vs.map some) H /\
 ∃ d os,F ds=.ok (d,os)/\∀ v H',Rel K (slots ms os) (vs.map some) H'->(∀ a o,H a=some o->¬ MA (slots ms ds) (vs.map some) a->H' a=some o) ->
  (if fr=true then ∃ a,v=.ref a/\H a=none/\cv K H' a d else Fz K H' d v)->Q v H'
def gW(K:yU)(n:Nat)(fr:Bool)(G:List D->R D):Sp:=fun vs H Q _=>∃ ds,vs.length=n/\jI H/\aq K H ds vs/\∃ d,G ds=.ok d/\∀ v H',aA H H'->(if fr=true then ∃ a,v=.ref a/\H a=none/\cv K H' a d else Fz K H' d v)->Q v H'
theorem oB:∀{ms:List Bool} {ds:List D} {i:Nat},ds.length=ms.length->(slots ms ds)[i]?=(ms[i]?).bind fun m=>(ds[i]?).map fun d=>if m=true then Sl.ow true d else Sl.val d
 | [],[],i,_=>by simp[slots]
 | [],_::_,i,h=>by simp at h
 | _::_,[],i,h=>by simp at h
 | m::ms,d::ds,0,_=>by simp[slots]
 | m::ms,d::ds,i+1,h=>by
  simp only[slots,zz1];exact oB (by simpa using h)
theorem vz:∀{ms:List Bool} {ds:List D},ds.length=ms.length->(slots ms ds).length=ms.length
 | [],[],_=>rfl
 | [],_::_,h=>by simp at h
 | _::_,[],h=>by simp at h
 | m::ms,d::ds,h=>by simp only[slots,zB];rw[vz (by simpa using h)]
theorem u6:∀{ms:List Bool} {ds:List D} {ρ:En},ds.length=ms.length->(outs ms ds ρ).length=ms.length
 | [],[],_,_=>rfl
 | [],_::_,_,h=>by simp at h
 | _::_,[],_,h=>by simp at h
 | m::ms,d::ds,ρ,h=>by simp only[outs,zB];rw[u6 (by simpa using h)]
theorem zhC:∀{ms:List Bool} {ds:List D} {ρ:En} {i:Nat} {m:Bool} {d:D},ms[i]?=some m->ds[i]?=some d->(outs ms ds ρ)[i]?=some (outD m d ρ[i]?)
 | m0::ms,d0::ds,ρ,0,m,d,h1,h2=>by
  simp at h1 h2;subst h1;subst h2
  simp[outs,List.head?_eq_getElem?]
 | m0::ms,d0::ds,ρ,i+1,m,d,h1,h2=>by
  simp at h1 h2;simp only[outs,zz1];rw[zhC h1 h2,List.getElem?_tail]
 | [],_,_,_,_,_,h,_=>by simp at h
 | _::_,[],_,_,_,_,_,h=>by simp at h
section
variable {K:yU}
theorem Rel.pad(r:Rel K ρ σ H)(n:Nat):Rel K (ρ++zo n .no) (σ++zo n none) H:=by
 have w:∀ i a,At (ρ++zo n .no) (σ++zo n none) i a->At ρ σ i a:=fun i a ⟨⟨p,d,e1⟩,e2⟩=>by
  by_cases c:i<ρ.length
  ·rw[AY c]at e1
   rw[AY (by rw[<- r.len];exact c)]at e2;exact⟨⟨p,d,e1⟩,e2⟩
  ·rw[B2 (by omega),BM]at e1
   split at e1 <;> cases e1
 refine⟨by simp[r.len],fun i x v e1 e2=>?_,fun i j a h1 h2=>r.sep i j a (w i a h1) (w j a h2),r.cst⟩
 by_cases c:i<ρ.length
 ·rw[AY c]at e1
  rw[AY (by rw[<- r.len];exact c)]at e2;exact r.ok i x v e1 e2
 ·rw[B2 (by omega),BM]at e1
  split at e1
  ·cases e1;trivial
  ·cases e1
theorem zo4(hl:ρ.length=σ.length):MA (ρ++zo n .no) (σ++zo n none) a↔MA ρ σ a:=by
 constructor
 ·rintro⟨i,⟨p,d,e1⟩,e2⟩
  by_cases c:i<ρ.length
  ·rw[AY c]at e1
   rw[AY (by rw[<- hl];exact c)]at e2;exact⟨i,⟨p,d,e1⟩,e2⟩
  ·rw[B2 (by omega),BM]at e1
   split at e1 <;> cases e1
 ·rintro⟨i,⟨p,d,e1⟩,e2⟩
  have c:=(Am.mp e1).1;exact⟨i,⟨p,d,by rw[AY c];exact e1⟩,by rw[AY (by rw[<- hl];exact c)];exact e2⟩
end
theorem yD{ds:List D}{p:Bool}(hl:ds.length=ms.length)(e:(slots ms ds)[i]?=some (.ow p d)):p=true/\ms[i]?=some true/\ds[i]?=some d:=by
 rw[oB hl]at e;cases em:ms[i]? with
 | none=>rw[em]at e;cases e
 | some m =>
  cases ed:ds[i]? with
  | none=>rw[em,ed]at e;cases e
  | some d' =>
   rw[em,ed]at e;cases m with
   | true=>simp at e;exact⟨e.1,rfl,by rw[e.2]⟩
   | false=>simp at e
section
variable {K:yU}
theorem zfX{st:zy}{f:gV}(ms:List Bool)(fr:Bool)(h:fA K x x st f fd)(S:gZ N ps (bB st))(iL:ps.length=ms.length)(jw:ps.length<=N.length)
  (hb:∀(aG:ir) (A:zx) (outer:List zC) (s:kb) (H:Hp) (E:XK),aZ k (A.deeper (AX x (bB st) s.heap.objs.size f aG))->eR K (fF (cR P w) P w K mg base N x (bB st) f aG A outer s H E) (dU st) b) :
  dJ P w K mg base (cR P w) (k+1) f fd ps (ki K ms fr (run ms fr N.length b)):=by
 refine h.okE S (fun vs H Q E ⟨ds,e,_⟩=>by rw[e,iL]) fun aG A outer s H vs Q E hr hq=>?_;obtain⟨ds,hv,hd,rel,d,os,hF,q⟩:=hq;have cq:L2.start N vs=vs.map some++zo (N.length-ds.length) none:=by unfold L2.start;rw[hv,hd]
 refine⟨tS K ⟨H,L2.start N vs,slots ms ds++zo (N.length-ds.length) .no⟩ b,hb aG A outer s H E hr rfl _,slots ms ds++zo (N.length-ds.length) .no,?_,?_⟩
 ·have tru:∀(i:Nat) p d,(slots ms ds++zo (N.length-ds.length) .no)[i]?=some (.ow p d)->p=true:=fun i p d e=>by
   by_cases c:i<(slots ms ds).length
   ·rw[AY c]at e
    exact(yD hd e).1
   ·rw[B2 (by omega),BM]at e
    split at e <;> cases e
  refine⟨?_,fun a o e _=>e,fun i a d e _=>absurd (tru i false d e) AJ,fun i=>C7,fun i d e=>rfl,tru⟩;rw[cq];exact rel.pad _
 ·unfold run at hF
  rw[if_pos hd]at hF;obtain⟨y,ey,hF⟩:=bM hF;rw[ey];have fin:∀(ρ':En) (σ':L2.St) (H':Hp),bH K ⟨H,L2.start N vs,slots ms ds++zo (N.length-ds.length) .no⟩ ρ' σ' H' ->
    Rel K (slots ms (outs ms ds ρ')) (vs.map some) H'/\(∀ a o,H a=some o->¬ MA (slots ms ds) (vs.map some) a->H' a=some o):=fun ρ' σ' H' r=>by
   have uE:(slots ms ds).length=(vs.map some).length:=by rw[vz hd,zL,hv]
   have kp:∀ a o,H a=some o->¬ MA (slots ms ds) (vs.map some) a->H' a=some o:=fun a o e n=>r.keep a o e fun z=>n (by
    have z':MA (slots ms ds++zo (N.length-ds.length) .no) (L2.start N vs) a:=z;rw[cq]at z';exact(zo4 uE).mp z')
   have fz:aF H H':=fun a o e sy=>kp a o e fun m=>by
    obtain⟨o',e',ow⟩:=rel.fV m;rw[e]at e';cases e';exact ow.jB sy
   refine⟨?_,kp⟩;have pinned:∀(i:Nat) d0,ms[i]?=some true->ds[i]?=some d0->∃ d',ρ'[i]?=some (.ow true d')/\σ'[i]?=(vs.map some)[i]?:=fun i d0 em ed=>by
    have hi:i<(slots ms ds).length:=by rw[vz hd];exact(Am.mp em).1
    have e0:(slots ms ds++zo (N.length-ds.length) .no)[i]?=some (.ow true d0):=by
     rw[AY hi,oB hd,em,ed];rfl
    obtain⟨d',e'⟩:=(r.pin i).mpr ⟨d0,e0⟩;refine⟨d',e',?_⟩;rw[r.fix i d' e'];show(L2.start N vs)[i]?=_;rw[cq,AY (by rw[<- uE];exact hi)]
   have ho:(outs ms ds ρ').length=ms.length:=u6 hd;refine⟨by rw[vz ho,zL,hv],fun i x v e1 e2=>?_,fun i j a h1 h2=>?_,rel.cst.mono fz⟩
   ·rw[oB ho]at e1
    cases em:ms[i]? with
    | none=>rw[em]at e1;cases e1
    | some m =>
     have hi:i<ds.length:=by rw[hd];exact(Am.mp em).1
     have ed:=Af hi;rw[em,zhC em ed]at e1;cases m with
     | true =>
      obtain⟨d',e3,e4⟩:=pinned i _ em ed;rw[e3]at e1;cases e1;rw[<- e4]at e2;exact r.rel.ok i _ _ e3 e2
     | false =>
      cases e1;have e5:(slots ms ds)[i]?=some (.val ds[i]):=by rw[oB hd,em,ed];rfl
      exact(rel.ok i _ _ e5 e2).mono fz fun a _ ⟨p,d',z⟩=>nomatch z
   ·have w:∀ i a,At (slots ms (outs ms ds ρ')) (vs.map some) i a->At (slots ms ds) (vs.map some) i a:=fun i a ⟨⟨p,d0,e1⟩,e2⟩=>by
     obtain⟨rfl,em,_⟩:=yD ho e1;have hi:i<ds.length:=by rw[hd];exact(Am.mp em).1
     have ed:=Af hi;exact⟨⟨true,ds[i],by rw[oB hd,em,ed];rfl⟩,e2⟩
    exact rel.sep i j a (w i a h1) (w j a h2)
  obtain⟨fl,ρ'⟩:=y;cases fr with
  | false =>
   cases fl with
   | rt dr =>
    cases hF;exact fun v σ' H' r fz=>q v H' (fin ρ' σ' H' r).1 (fin ρ' σ' H' r).2 fz
   | nx =>
    cases hF;exact fun σ' H' r fz=>q .non H' (fin ρ' σ' H' r).1 (fin ρ' σ' H' r).2 (by show Fz K H' .none .non;simp[Fz])
   | _=>cases hF
  | true =>
   cases fl with
   | rf dr =>
    cases hF;exact fun a σ' H' r ha m=>q (.ref a) H' (fin ρ' σ' H' r).1 (fin ρ' σ' H' r).2 ⟨a,rfl,ha,m⟩
   | _=>cases hF
theorem zmd{st:zy}(ms:List Bool)(fr:Bool)(h:aP K mg x st)(S:gZ N ps (bB st))(iL:ps.length=ms.length)(jw:ps.length<=N.length)
  (jU:∀(kV doc pm:ir) (an:Option gV) (aG ct:ir) (us:List ir),us.length=ps.length->Cy (A8 x x (i3 st) (dU st) (bB st) .none kV doc pm an aG ct) ⟨us,[]⟩=pure (ps.zip us))
  (hb:∀(f:gV) (aG:ir) (A:zx) (outer:List zC) (s:kb) (H:Hp) (E:XK),aZ k (A.deeper (AX x (bB st) s.heap.objs.size f aG))->eR K (fF (cR P w) P w K mg base N x (bB st) f aG A outer s H E) (dU st) b) :
  Callee P w K mg base x (k+1) ps (ki K ms fr (run ms fr N.length b)):=by
 obtain⟨f,fd,hm,F⟩:=h;exact⟨f,fd,hm,F.kp,F.binds jU,zfX ms fr F S iL jw (hb f)⟩
end
end
variable {m:Nat}{G:List D->R D}{a:List Ar}
section
variable [Cs]
theorem zds:∀{n:Nat} {ds:List D},ds.length=n->slots (zo n false) ds=ds.map Sl.val
 | 0,[],_=>rfl
 | n+1,d::ds,h=>by
  simp only[C2,slots,zE];rw[zds (by simpa using h)]
  rfl
 | 0,_::_,h=>by simp at h
 | n+1,[],h=>by simp at h
theorem zsM{K:yU}:∀{ds:List D} {vs:List V},jI H->aq K H ds vs->Rel K (ds.map Sl.val) (vs.map some) H:=fun{ds vs} cst f=>by
 refine⟨by simp[f.len],fun i x v e1 e2=>?_,fun i j a ⟨⟨p,d,e⟩,_⟩=>?_,cst⟩
 ·rw[AH]at e1 e2
  cases ed:ds[i]? with
  | none=>rw[ed]at e1;cases e1
  | some d =>
   obtain⟨u,eu,fu⟩:=f.get ed;rw[ed]at e1;rw[eu]at e2;cases e1;cases e2
   exact fu
 ·rw[AH]at e
  cases ed:ds[i]? with
  | none=>rw[ed]at e;cases e
  | some d=>rw[ed]at e;cases e
theorem zpt{ds:List D}{a:gV}:¬ MA (ds.map Sl.val) σ a:=by
 rintro⟨i,⟨p,d,e⟩,_⟩;rw[AH]at e;cases ed:ds[i]? with
 | none=>rw[ed]at e;cases e
 | some d=>rw[ed]at e;cases e
section
variable {K:yU}
theorem dJ.pure{f:gV}{fr:Bool}(F:dJ P w K mg base (cR P w) k f fd ps (ki K (zo n false) fr (run (zo n false) fr m b))):dJ P w K mg base (cR P w) k f fd ps (gW K n fr (bo fr n m b)):=by
 refine F.imp fun vs H Q E=>?_;rintro⟨ds,hv,cst,f,d,e,q⟩;have hd:ds.length=n:=by rw[<- f.len,hv]
 obtain⟨y,ey,e⟩:=bM e;cases e;refine⟨ds,by simpa using hv,by simpa using hd,by rw[zds hd];exact zsM cst f,y.1,y.2,by rw[ey],fun v H' r kp fin=>q v H' (fun a o e=>kp a o e (by rw[zds hd];exact zpt)) fin⟩
theorem Callee.pure{n m:Nat}{fr:Bool}{b:SF}(c:Callee P w K mg base x k ps (ki K (zo n false) fr (run (zo n false) fr m b))):Callee P w K mg base x k ps (gW K n fr (bo fr n m b)):=by
 obtain⟨f,fd,h1,h2,h3,F⟩:=c;exact⟨f,fd,h1,h2,h3,dJ.pure F⟩
end
def mV(fa:AF)(n:Nat):Prop:=∀ ρ y,fa ρ=.ok y->y.1.length=n
theorem zau:mV af 0:=fun ρ y h=>by cases h;rfl
theorem zat{a:AF}(h:mV a n):mV (aa f a) (n+1):=fun ρ y e=>by
 obtain⟨x,_,e⟩:=bM (show(f ρ).bind _=.ok y from e);obtain⟨z,e2,e⟩:=bM e;cases e;simp[h _ _ e2]
section
variable {K:yU}
theorem zrf(c:Callee X.prog X.w X.K X.mg X.base x k ps (gW X.K n false G))(hr:aZ j X.A)(hg:Gl X x)(hx:Passes (cR X.prog X.w) X E)(ha:eJ K X (e::es) fa)(hl:mV fa n)(hj:k<=j:=by decide)(bN:(x==("__debug__":dm))=false:=by decide)
  (he:yX (e::es) X.env=(false,zk e X.env)::yX es X.env:=by exact FL.se rfl) (bu:(zK pos (yX es X.env)).any (·.1)=false:=by exact FL.sp rfl):PV K X (.Call (.Name x p) (e::es) [] pos) (az G fa):=.mk fun hK=>by
 subst hK;refine(vc c hr hg hx (ha rfl) hj bN he bu).weak fun σ H Q=>?_;rintro⟨ρ,rel,q⟩;obtain⟨y,ey,q0⟩:=q.ck;have hy:=hl ρ y ey;refine⟨ρ,rel,?_⟩;rw[ey];intro H1 au aY vs fs;obtain⟨d,ed,q2⟩:=(q0.step aY).bV;rw[BC];exact⟨y.1,by rw[fs.len,hy],au.cst,fs,d,ed,fun v H' s fin=>q2.new au s v fin⟩
theorem zry(c:Callee X.prog X.w X.K X.mg X.base x k ps (gW X.K n true G))(hr:aZ j X.A)(hg:Gl X x)(hx:Passes (cR X.prog X.w) X E)(ha:eJ K X (e::es) fa)(hl:mV fa n)(hj:k<=j:=by decide)(bN:(x==("__debug__":dm))=false:=by decide)
  (he:yX (e::es) X.env=(false,zk e X.env)::yX es X.env:=by exact FL.se rfl) (bu:(zK pos (yX es X.env)).any (·.1)=false:=by exact FL.sp rfl):bw K X (.Call (.Name x p) (e::es) [] pos) (az G fa):=.mk fun hK=>by
 subst hK;refine(vc c hr hg hx (ha rfl) hj bN he bu).weak fun σ H Q=>?_;rintro⟨ρ,rel,q⟩;obtain⟨y,ey,q0⟩:=q.ck;have hy:=hl ρ y ey;refine⟨ρ,rel,?_⟩;rw[ey];intro H1 au aY vs fs;obtain⟨d,ed,q2⟩:=(q0.step aY).bV;rw[BC];refine⟨y.1,by rw[fs.len,hy],au.cst,fs,d,ed,fun v H' s fin=>?_⟩;obtain⟨a,rfl,ha,m⟩:=fin;refine q2.new au s a ?_ m;cases e0:H a with
 | none=>rfl
 | some o =>
  by_cases mm:MA ρ σ a
  ·obtain⟨o',e',_⟩:=au.fV (aY.ma.mp mm)
   rw[ha]at e';cases e'
  ·rw[aY.kp a o e0 mm]at ha;cases ha
def gf(K:yU)(σ:L2.St)(H₀ H:Hp):List Itm->List V->Prop
 | [],vs=>vs=[]
 | .vd d::r,vs=>∃ v t,vs=v::t/\Fz K H d v/\gf K σ H₀ H r t
 | .mi i::r,vs=>∃ v t,vs=v::t/\σ[i]?=some (some v)/\gf K σ H₀ H r t
 | .td d::r,vs=>∃ a t,vs=.ref a::t/\cv K H a d/\H₀ a=none/\gf K σ H₀ H r t
theorem cA.old(st:cA ρ ρ1 σ H H1)(au:Rel K ρ1 σ H1){a:gV}(ha:H1 a=none):H a=none:=by
 cases e0:H a with
 | none=>rfl
 | some o =>
  by_cases mm:MA ρ σ a
  ·obtain⟨o',e',_⟩:=au.fV (st.ma.mp mm)
   rw[ha]at e';cases e'
  ·rw[st.kp a o e0 mm]at ha;cases ha
theorem gf.back{σ:L2.St}{H H1 H2:Hp}(h:∀ a,H1 a=none->H a=none):∀{l:List Itm} {vs:List V},gf K σ H1 H2 l vs->gf K σ H H2 l vs
 | [],vs,z=>z
 | .vd d::r,vs,z=>by
  obtain⟨v,t,e,f,z⟩:=z;exact⟨v,t,e,f,gf.back h z⟩
 | .mi i::r,vs,z=>by
  obtain⟨v,t,e,f,z⟩:=z;exact⟨v,t,e,f,gf.back h z⟩
 | .td d::r,vs,z=>by
  obtain⟨v,t,e,f,g,z⟩:=z;exact⟨v,t,e,f,h _ g,gf.back h z⟩
def tAr(K:yU)(a:List Ar):TA:=fun σ H Q=>∃ ρ,Rel K ρ σ H/\Good K ρ σ H (eT a ρ) fun l _ H'=>∀ vs,gf K σ H H' l vs->Q vs H'
structure iX(K:yU)(X:Cx)(es:List yW)(a:List Ar):Prop where
 run:X.K=K->PA X es (tAr K a)
instance {K:yU}{X:Cx}{es:List yW}{a:List Ar}:CoeFun (iX K X es a) fun _=>X.K=K->PA X es (tAr K a):=⟨iX.run⟩
theorem fe:iX K X [] []:=.mk fun _=>jE.weak fun σ H Q=>by
 rintro⟨ρ,rel,q⟩;exact q.now rel [] rfl
theorem fg(he:PV K X e f)(hr:iX K X es a)(hs:yX (e::es) X.env=(false,zk e X.env)::yX es X.env:=by exact FL.se rfl):iX K X (e::es) (.v f::a):=.mk fun hK=>(gq (he hK) (hr hK) hs).weak fun σ H Q=>by
 rintro⟨ρ,rel,q⟩;refine dO rel q fun dx ρ1 x H1 au aY fx q1=>?_;obtain⟨y,ey,q2⟩:=q1.ck;refine⟨ρ1,au,?_⟩;rw[ey];exact fun H2 bP dh vs it=>(q2.step dh).now bP _ ⟨x,vs,rfl,fx.mono (dh.d9 au),it.back fun a ha=>aY.old au ha⟩
theorem zru(i:Nat)(ha:PE X (.Name y py) (dA i))(hr:iX K X es a)(hs:yX (.Name y py::es) X.env=(false,zk (.Name y py) X.env)::yX es X.env:=by exact FL.se rfl):iX K X (.Name y py::es) (.m i::a):=.mk fun hK=>(gq ha (hr hK) hs).weak fun σ H Q=>by
 rintro⟨ρ,rel,q⟩;obtain⟨d,ed,q1⟩:=(show Good K ρ σ H ((bg ρ i).bind fun _=>(eT a ρ).bind fun y=>.ok (.mi i::y.1,y.2)) _ from q).bV;obtain⟨ad,bA,_⟩:=rel.j4 ed;obtain⟨y,ey,q2⟩:=q1.ck;refine⟨.ref ad,bA.2,ρ,rel,?_⟩;rw[ey];exact fun H2 bP dh vs it=>(q2.step dh).now bP _ ⟨.ref ad,vs,rfl,bA.2,it⟩
noncomputable def iG:List Ar->List Bool
 | []=>[]
 | .v _::r=>false::iG r
 | .m _::r=>true::iG r
 | .t _::r=>true::iG r
noncomputable def lN:List Ar->List Nat
 | []=>[]
 | .v _::r=>lN r
 | .m i::r=>i::lN r
 | .t _::r=>lN r
noncomputable def lO:List Ar->Nat
 | []=>0
 | .v _::r=>lO r
 | .m _::r=>lO r
 | .t _::r=>lO r+1
noncomputable def xJ:Itm->Bool
 | .vd _=>false
 | _=>true
noncomputable def vF:Itm->Option Nat
 | .mi i=>some i
 | _=>none
noncomputable def mz:Itm->Bool
 | .td _=>true
 | _=>false
theorem wd:∀{a:List Ar} {ρ:En} {y:List Itm×En},eT a ρ=.ok y->y.1.map xJ=iG a/\y.1.filterMap vF=lN a/\y.1.countP mz=lO a
 | [],ρ,y,h=>by cases h;exact⟨rfl,rfl,rfl⟩
 | .v f::r,ρ,y,h=>by
  obtain⟨x,_,h⟩:=bM (show(f ρ).bind _=.ok y from h);obtain⟨z,e,h⟩:=bM h;cases h;obtain⟨h1,h2,h3⟩:=wd e;simp only[zE,Ct];exact⟨by rw[h1];rfl,h2,by rw[G8 (by simp[mz])];exact h3⟩
 | .m i::r,ρ,y,h=>by
  obtain⟨_,_,h⟩:=bM (show(bg ρ i).bind _=.ok y from h);obtain⟨z,e,h⟩:=bM h;cases h;obtain⟨h1,h2,h3⟩:=wd e;simp only[zE,Ct];exact⟨by rw[h1];rfl,by rw[h2];rfl,by rw[G8 (by simp[mz])];exact h3⟩
 | .t f::r,ρ,y,h=>by
  obtain⟨x,_,h⟩:=bM (show(f ρ).bind _=.ok y from h);obtain⟨z,e,h⟩:=bM h;cases h;obtain⟨h1,h2,h3⟩:=wd e;simp only[zE,Ct];exact⟨by rw[h1];rfl,h2,by rw[List.countP_cons_of_pos (by simp[mz]),h3];rfl⟩
theorem qM{ρ:En}:∀{l:List Itm} {ds:List D},d7 ρ l=.ok ds->ds.length=l.length/\∀(j:Nat) z,l[j]?=some z->∃ d,ds[j]?=some d/\(match z with | .vd d'=>d=d' | .mi i=>bg ρ i=.ok d | .td d'=>d=d')
 | [],ds,h=>by cases h;exact⟨rfl,fun j z e=>by simp at e⟩
 | .vd d::r,ds,h=>by
  obtain⟨ds',e,h⟩:=bM (show(d7 ρ r).bind _=.ok ds from h);cases h;obtain⟨h1,h2⟩:=qM e;refine⟨by simp[h1],fun j z ez=>?_⟩;cases j with
  | zero=>simp at ez;subst ez;exact⟨d,rfl,rfl⟩
  | succ j=>obtain⟨d',h3,h4⟩:=h2 j z (by simpa using ez);exact⟨d',by simpa using h3,h4⟩
 | .td d::r,ds,h=>by
  obtain⟨ds',e,h⟩:=bM (show(d7 ρ r).bind _=.ok ds from h);cases h;obtain⟨h1,h2⟩:=qM e;refine⟨by simp[h1],fun j z ez=>?_⟩;cases j with
  | zero=>simp at ez;subst ez;exact⟨d,rfl,rfl⟩
  | succ j=>obtain⟨d',h3,h4⟩:=h2 j z (by simpa using ez);exact⟨d',by simpa using h3,h4⟩
 | .mi i::r,ds,h=>by
  obtain⟨d,e0,h⟩:=bM (show(bg ρ i).bind _=.ok ds from h);obtain⟨ds',e,h⟩:=bM h;cases h;obtain⟨h1,h2⟩:=qM e;refine⟨by simp[h1],fun j z ez=>?_⟩;cases j with
  | zero=>simp at ez;subst ez;exact⟨d,rfl,e0⟩
  | succ j=>obtain⟨d',h3,h4⟩:=h2 j z (by simpa using ez);exact⟨d',by simpa using h3,h4⟩
theorem gf.get{σ:L2.St}{H₀ H:Hp}:∀{l:List Itm} {vs:List V},gf K σ H₀ H l vs->vs.length=l.length/\∀(j:Nat) z,l[j]?=some z->∃ v,vs[j]?=some v/\(match z with | .vd d=>Fz K H d v | .mi i=>σ[i]?=some (some v) | .td d=>∃ a,v=.ref a/\cv K H a d/\H₀ a=none)
 | [],vs,h=>by cases (show vs=[] from h);exact⟨rfl,fun j z e=>by simp at e⟩
 | .vd d::r,vs,h=>by
  obtain⟨v,t,rfl,f,h⟩:=h;obtain⟨h1,h2⟩:=gf.get h;refine⟨by simp[h1],fun j z ez=>?_⟩;cases j with
  | zero=>simp at ez;subst ez;exact⟨v,rfl,f⟩
  | succ j=>obtain⟨d',h3,h4⟩:=h2 j z (by simpa using ez);exact⟨d',by simpa using h3,h4⟩
 | .mi i::r,vs,h=>by
  obtain⟨v,t,rfl,f,h⟩:=h;obtain⟨h1,h2⟩:=gf.get h;refine⟨by simp[h1],fun j z ez=>?_⟩;cases j with
  | zero=>simp at ez;subst ez;exact⟨v,rfl,f⟩
  | succ j=>obtain⟨d',h3,h4⟩:=h2 j z (by simpa using ez);exact⟨d',by simpa using h3,h4⟩
 | .td d::r,vs,h=>by
  obtain⟨v,t,rfl,f,g,h⟩:=h;obtain⟨h1,h2⟩:=gf.get h;refine⟨by simp[h1],fun j z ez=>?_⟩;cases j with
  | zero=>simp at ez;subst ez;exact⟨_,rfl,v,rfl,f,g⟩
  | succ j=>obtain⟨d',h3,h4⟩:=h2 j z (by simpa using ez);exact⟨d',by simpa using h3,h4⟩
end
end
variable {F:List D->R (D×List D)}
section
variable [Cs]
section
variable {K:yU}
theorem zp9{m:List (Nat×Sl)}(r:Rel K ρ σ H)(hA:∀ i c,m.lookup i=some c->∀ a,At ρ σ i a->∃ q d,c=.ow q d/\cv K H' a d)(hB:∀ i a,At ρ σ i a->m.lookup i=none->H' a=H a)(fz:aF H H') :
  Rel K (bY m 0 ρ) σ H'/\∀(i:Nat) p,(∃ d,ρ[i]?=some (.ow p d))↔∃ d,(bY m 0 ρ)[i]?=some (.ow p d):=by
 have gt:∀ i:Nat,(bY m 0 ρ)[i]?=(ρ[i]?).map (cf m i):=fun i=>by rw[zaD,CD]
 have uP:∀(i:Nat) p,(∃ d,ρ[i]?=some (.ow p d))↔∃ d,(bY m 0 ρ)[i]?=some (.ow p d):=fun i p=>by
  rw[gt]
  constructor
  ·rintro⟨d,e⟩
   rw[e];simp only[Bi,cf]
   split
   ·rename_i p' d1 q' d2 h1 h2;cases h1;exact⟨_,rfl⟩
   ·exact⟨_,rfl⟩
  ·rintro⟨d,e⟩
   cases er:ρ[i]? with
   | none=>rw[er]at e;cases e
   | some x =>
    rw[er]at e;simp only[Bi,Bh,cf]at e
    split at e
    ·cases e;exact⟨_,rfl⟩
    ·subst e;exact⟨_,rfl⟩
 have tQ:∀ i a,At (bY m 0 ρ) σ i a->At ρ σ i a:=fun i a ⟨⟨p,d,e1⟩,e2⟩=>⟨⟨p,(uP i p).mpr ⟨d,e1⟩⟩,e2⟩;refine⟨⟨by rw[zaE];exact r.len,fun i x v e1 e2=>?_,fun i j a h1 h2=>r.sep i j a (tQ i a h1) (tQ j a h2),r.cst.mono fz⟩,uP⟩;rw[gt]at e1;cases er:ρ[i]? with
 | none=>rw[er]at e1;cases e1
 | some y =>
  rw[er]at e1;simp only[Bi,Bh]at e1;have o:=r.ok i y v er e2;cases y with
  | no=>simp only[cf]at e1;subst e1;trivial
  | val d =>
   simp only[cf]at e1;subst e1;exact o.mono fz fun a _ ⟨p,d',z⟩=>nomatch z
  | ob c ds =>
   simp only[cf]at e1;subst e1;exact o.mono fz fun a _ ⟨p,d',z⟩=>nomatch z
  | ow p d =>
   cases v with
   | none=>exact o.elim
   | some v =>
    cases v with
    | ref a =>
     have ai:At ρ σ i a:=⟨⟨p,d,er⟩,e2⟩;cases el:m.lookup i with
     | none =>
      simp only[cf,el]at e1;subst e1;exact o.mono fz fun b e3 _=>by cases e3;exact hB i a ai el
     | some c =>
      obtain⟨q,d',rfl,mm⟩:=hA i c el a ai;simp only[cf,el]at e1;subst e1;exact mm
    | _=>exact o.elim
end
theorem zhd:∀{l:List Itm} {j j' i:Nat},(l.filterMap vF).Nodup->l[j]?=some (.mi i)->l[j']?=some (.mi i)->j=j'
 | [],j,j',i,_,h,_=>by simp at h
 | z::r,j,j',i,nd,h1,h2=>by
  have rest:(r.filterMap vF).Nodup:=by
   rw[Ct]at nd;cases z with
   | mi k=>exact(Bm.mp nd).2
   | _=>exact nd
  have mem:∀{j:Nat},r[j]?=some (.mi i)->i∈r.filterMap vF:=fun h=>Fy.mpr ⟨.mi i,BO h,rfl⟩;have hd:z=.mi i->∀{j:Nat},r[j]?≠some (.mi i):=fun e j h=>by
   subst e;rw[Ct]at nd;exact(Bm.mp nd).1 (mem h)
  cases j with
  | zero =>
   cases j' with
   | zero=>rfl
   | succ j'=>exact absurd (by simpa using h2) (hd (by simpa using h1) (j:=j'))
  | succ j =>
   cases j' with
   | zero=>exact absurd (by simpa using h1) (hd (by simpa using h2) (j:=j))
   | succ j' =>
    have:=zhd (l:=r) rest (by simpa using h1) (by simpa using h2);rw[this]
theorem ziE:∀{l:List Itm} {j j':Nat} {d d':D},l.countP mz<=1->l[j]?=some (.td d)->l[j']?=some (.td d')->j=j'
 | [],j,j',d,d',_,h,_=>by simp at h
 | z::r,j,j',d,d',c,h1,h2=>by
  have rest:r.countP mz<=1:=by
   rw[List.countP_cons]at c;omega
  have none:mz z=true->∀{j:Nat} {d:D},r[j]?≠some (.td d):=fun e j d h=>by
   rw[List.countP_cons,if_pos e]at c;have:0<r.countP mz:=List.countP_pos_iff.mpr ⟨_,BO h,rfl⟩
   omega
  cases j with
  | zero =>
   cases j' with
   | zero=>rfl
   | succ j' =>
    have e:z=.td d:=by simpa using h1
    subst e;exact absurd (by simpa using h2) (none rfl (j:=j'))
  | succ j =>
   cases j' with
   | zero =>
    have e:z=.td d':=by simpa using h2
    subst e;exact absurd (by simpa using h1) (none rfl (j:=j))
   | succ j' =>
    have:=ziE (l:=r) rest (by simpa using h1) (by simpa using h2);rw[this]
theorem wj:∀{l:List Itm} {os:List D} {i:Nat} {c:Sl},(dS l os).lookup i=some c->∃(j:Nat) (d:D),l[j]?=some (.mi i)/\os[j]?=some d/\c=.ow true d
 | [],os,i,c,h=>by simp[dS]at h
 | z::r,[],i,c,h=>by cases z <;> simp[dS]at h
 | .vd d::r,o::os,i,c,h=>by
  obtain⟨j,d',h1,h2,h3⟩:=wj (l:=r) (os:=os) (by simpa[dS] using h);exact⟨j+1,d',by simpa using h1,by simpa using h2,h3⟩
 | .td d::r,o::os,i,c,h=>by
  obtain⟨j,d',h1,h2,h3⟩:=wj (l:=r) (os:=os) (by simpa[dS] using h);exact⟨j+1,d',by simpa using h1,by simpa using h2,h3⟩
 | .mi k::r,o::os,i,c,h=>by
  simp only[dS]at h;rw[zJ]at h
  by_cases e:i=k
  ·subst e
   simp only[beq_self_eq_true]at h;cases h;exact⟨0,o,rfl,rfl,rfl⟩
  ·rw[beq_false_of_ne e]at h
   obtain⟨j,d',h1,h2,h3⟩:=wj (l:=r) (os:=os) h;exact⟨j+1,d',by simpa using h1,by simpa using h2,h3⟩
theorem wg:∀{l:List Itm} {os:List D} {i j:Nat} {d:D},l[j]?=some (.mi i)->os[j]?=some d->∃ c,(dS l os).lookup i=some c
 | [],os,i,j,d,h,_=>by simp at h
 | z::r,[],i,j,d,_,h=>by simp at h
 | .vd _::r,o::os,i,j,d,h1,h2=>by
  cases j with
  | zero=>simp at h1
  | succ j =>
   simp only[dS];exact wg (l:=r) (by simpa using h1) (by simpa using h2)
 | .td _::r,o::os,i,j,d,h1,h2=>by
  cases j with
  | zero=>simp at h1
  | succ j =>
   simp only[dS];exact wg (l:=r) (by simpa using h1) (by simpa using h2)
 | .mi k::r,o::os,i,j,d,h1,h2=>by
  simp only[dS];rw[zJ]
  by_cases e:i=k
  ·subst e
   simp
  ·rw[beq_false_of_ne e]
   cases j with
   | zero=>simp at h1;exact absurd h1.symm e
   | succ j=>exact wg (l:=r) (by simpa using h1) (by simpa using h2)
section
variable {K:yU}{ρ0:En}{ds os:List D}
theorem qN(rel:Rel K ρ σ H)(it:gf K σ H0 H l vs)(hi:d7 ρ l=.ok ds)(hm:l.map xJ=ms){a:gV}(hd:ds.length=ms.length)(h:At (slots ms ds) (vs.map some) j a):(∃ i,l[j]?=some (.mi i)/\At ρ σ i a)\/∃ d,l[j]?=some (.td d)/\H0 a=none:=by
 obtain⟨v1,v2⟩:=it.get;obtain⟨d1,d2⟩:=qM hi;obtain⟨⟨p,d,e1⟩,e2⟩:=h;obtain⟨rfl,em,ed⟩:=yD hd e1;rw[<- hm,AH]at em;cases el:l[j]? with
 | none=>rw[el]at em;cases em
 | some z =>
  rw[el]at em;obtain⟨v,ev,es⟩:=v2 j _ el;obtain⟨d',pJ,uc⟩:=d2 j _ el;rw[AH,ev]at e2;cases e2;cases z with
  | vd _=>cases em
  | mi i =>
   obtain⟨q,eq⟩:=zcJ uc;exact .inl ⟨i,rfl,⟨q,d',eq⟩,es⟩
  | td d0 =>
   obtain⟨b,eb,_,hb⟩:=es;cases eb;exact .inr ⟨d0,rfl,hb⟩
theorem zjY(r0:Rel K ρ0 σ H0)(st:cA ρ0 ρ σ H0 H)(rel:Rel K ρ σ H)(it:gf K σ H0 H l vs)(hi:d7 ρ l=.ok ds)(hm:l.map xJ=ms)(nd:(l.filterMap vF).Nodup)(ct:l.countP mz<=1):ds.length=ms.length/\vs.length=ms.length/\Rel K (slots ms ds) (vs.map some) H:=by
 obtain⟨v1,v2⟩:=it.get;obtain⟨d1,d2⟩:=qM hi;have hl:ms.length=l.length:=by rw[<- hm,zL]
 have hd:ds.length=ms.length:=by rw[d1,hl]
 have hv:vs.length=ms.length:=by rw[v1,hl]
 have apart:∀{i:Nat} {a:gV},At ρ σ i a->H0 a=none->False:=fun h1 h2=>by
  obtain⟨o',e',_⟩:=r0.fV (st.ma.mpr ⟨_,h1⟩);rw[h2]at e';cases e'
 refine⟨hd,hv,⟨by rw[vz hd,zL,hv],fun j x v e1 e2=>?_,fun j j' a h1 h2=>?_,rel.cst⟩⟩
 ·rw[oB hd]at e1
  cases em:ms[j]? with
  | none=>rw[em]at e1;cases e1
  | some m =>
   cases ed:ds[j]? with
   | none=>rw[em,ed]at e1;cases e1
   | some d =>
    rw[em,ed]at e1;rw[<- hm,AH]at em;cases el:l[j]? with
    | none=>rw[el]at em;cases em
    | some z =>
     rw[el]at em;obtain⟨u,eu,es⟩:=v2 j z el;obtain⟨d',pJ,uc⟩:=d2 j z el;rw[ed]at pJ;cases pJ;rw[AH,eu]at e2;cases e2;cases z with
     | vd dz =>
      cases em;cases e1;cases uc;exact es
     | mi i =>
      cases em;cases e1;obtain⟨q,eq⟩:=zcJ uc;have o:=rel.ok i _ _ eq es;show iY K H (.ow true d) (some u);cases u with
      | ref a=>exact o
      | _=>exact o.elim
     | td dz =>
      cases em;cases e1;cases uc;obtain⟨b,rfl,mb,_⟩:=es;exact mb
 ·rcases qN rel it hi hm hd h1 with⟨i,e1,a1⟩|⟨d,e1,a1⟩
  ·rcases qN rel it hi hm hd h2 with⟨i',e2,a2⟩|⟨d,e2,a2⟩
   ·have:=rel.sep i i' a a1 a2
    subst this;exact zhd nd e1 e2
   ·exact(apart a1 a2).elim
  ·rcases qN rel it hi hm hd h2 with⟨i',e2,a2⟩|⟨d,e2,a2⟩
   ·exact(apart a2 a1).elim
   ·exact ziE ct e1 e2
theorem zjX(r0:Rel K ρ0 σ H0)(st:cA ρ0 ρ σ H0 H)(rel:Rel K ρ σ H)(it:gf K σ H0 H l vs)(hi:d7 ρ l=.ok ds)(hm:l.map xJ=ms)(hd:ds.length=ms.length)(ho:os.length=ms.length)(ra:Rel K (slots ms os) (vs.map some) H')(hC:∀ a o,H a=some o->¬ MA (slots ms ds) (vs.map some) a->H' a=some o) :
  Rel K (iZ ρ l os) σ H'/\cA ρ0 (iZ ρ l os) σ H0 H':=by
 obtain⟨v1,v2⟩:=it.get;obtain⟨d1,d2⟩:=qM hi;have hl:ms.length=l.length:=by rw[<- hm,zL]
 have apart:∀{i:Nat} {a:gV},At ρ σ i a->H0 a=none->False:=fun h1 h2=>by
  obtain⟨o',e',_⟩:=r0.fV (st.ma.mpr ⟨_,h1⟩);rw[h2]at e';cases e'
 have kp0:∀ a o,H0 a=some o->¬ MA ρ0 σ a->H' a=some o:=fun a o e n=>hC a o (st.kp a o e n) fun⟨j,h⟩=>by
  rcases qN rel it hi hm hd h with⟨i,_,a1⟩|⟨d,_,a1⟩
  ·exact n (st.ma.mpr ⟨i,a1⟩)
  ·rw[e]at a1;cases a1
 have fz:aF H H':=fun a o e sy=>hC a o e fun⟨j,h⟩=>by
  obtain⟨⟨p,d,e1⟩,e2⟩:=id h;obtain⟨rfl,em,ed⟩:=yD hd e1;rcases qN rel it hi hm hd h with⟨i,_,a1⟩|⟨d,el,a1⟩
  ·obtain⟨o',e',ow⟩:=rel.fV ⟨i,a1⟩
   rw[e]at e';cases e';exact ow.jB sy
  ·obtain⟨v,ev,b,eb,mb,_⟩:=v2 j _ el
   rw[AH,ev]at e2;cases e2;cases eb;obtain⟨o',e',ow⟩:=mb.own;rw[e]at e';cases e';exact ow.jB sy
 have key:=zp9 (H:=H) (H':=H') (m:=dS l os) rel (fun i c e a bA=>by
  obtain⟨j,d,e1,e2,rfl⟩:=wj e;obtain⟨v,ev,es⟩:=v2 j _ e1;replace es:σ[i]?=some (some v):=es;rw[bA.2]at es;cases es;refine⟨true,d,rfl,?_⟩;have em:ms[j]?=some true:=by rw[<- hm,AH,e1];rfl
  exact ra.ok j (.ow true d) (some (.ref a)) (by rw[oB ho,em,e2];rfl) (by rw[AH,ev];rfl)) (fun i a bA e=>by
  obtain⟨u,hu,_⟩:=rel.fV ⟨i,bA⟩;rw[hu];refine hC a u hu fun⟨j,h⟩=>?_;rcases qN rel it hi hm hd h with⟨i',el,a1⟩|⟨d,_,a1⟩
  ·have:=rel.sep i i' a bA a1
   subst this;have hj:j<os.length:=by rw[ho,hl];exact(Am.mp el).1
   obtain⟨c,ec⟩:=wg el (Af hj);rw[ec]at e;cases e
  ·exact apart bA a1) fz
 exact⟨key.1,⟨fun i p=>(st.md i p).trans (key.2 i p),kp0⟩⟩
end
section
variable {K:yU}
def qG(F:List D->R (D×List D))(n:Nat):Prop:=∀ ds y,F ds=.ok y->y.2.length=n
theorem zhw{fr:Bool}:qG (run ms fr m b) ms.length:=fun ds y h=>by
 unfold run at h
 split at h
 ·rename_i hd
  obtain⟨z,_,h⟩:=bM h;obtain⟨fl,ρ⟩:=z;cases fr with
  | false =>
   cases fl with
   | rt d=>cases h;exact u6 hd
   | nx=>cases h;exact u6 hd
   | _=>cases h
  | true =>
   cases fl with
   | rf d=>cases h;exact u6 hd
   | _=>cases h
 ·cases h
theorem zf7{fr:Bool}(ho:qG F (iG a).length)(nd:(lN a).Nodup)(ct:lO a<=1)(σ:L2.St)(H:Hp)(Q:VK)(ρ:En)(rel:Rel K ρ σ H)
  (q:Good K ρ σ H (aQ F a ρ) fun d ρ' H'=>∀ v,(if fr=true then ∃ a,v=.ref a/\H a=none/\cv K H' a d else Fz K H' d v)->Q v H'):zdA (ki K (iG a) fr F) [] E (tAr K a) σ H Q:=by
 obtain⟨y,ey,q0⟩:=q.ck;obtain⟨h1,h2,h3⟩:=wd ey;refine⟨ρ,rel,?_⟩;rw[ey];intro H1 au aY vs it;obtain⟨ds,ed,q1⟩:=q0.bV;obtain⟨z,ez,q2⟩:=q1.bV;obtain⟨hd,hv,ra⟩:=zjY rel aY au it ed h1 (by rw[h2];exact nd) (by rw[h3];exact ct);rw[BC];refine⟨ds,hv,hd,ra,z.1,z.2,ez,fun v H' rb kp fin=>?_⟩;obtain⟨r2,s2⟩:=zjX rel aY au it ed h1 hd (ho ds z ez) rb kp;refine q2 H' r2 s2 v ?_;cases fr with
 | false=>exact fin
 | true =>
  obtain⟨ad,rfl,ha,m⟩:=fin;exact⟨ad,rfl,aY.old au ha,m⟩
theorem zrh(c:Callee X.prog X.w X.K X.mg X.base x k ps (ki X.K (iG a) false F))(ho:qG F (iG a).length)(nd:(lN a).Nodup)(ct:lO a<=1)(hr:aZ j X.A)(hg:Gl X x)(hx:Passes (cR X.prog X.w) X E)(ha:iX K X (e::es) a)(hj:k<=j:=by decide)(bN:(x==("__debug__":dm))=false:=by decide)
  (he:yX (e::es) X.env=(false,zk e X.env)::yX es X.env:=by exact FL.se rfl) (bu:(zK pos (yX es X.env)).any (·.1)=false:=by exact FL.sp rfl):PV K X (.Call (.Name x p) (e::es) [] pos) (aQ F a):=.mk fun hK=>by
 subst hK;refine(vc c hr hg hx (ha rfl) hj bN he bu).weak fun σ H Q=>?_;rintro⟨ρ,rel,q⟩;exact zf7 (fr:=false) ho nd ct σ H Q ρ rel q
theorem zrz(c:Callee X.prog X.w X.K X.mg X.base x k ps (ki X.K (iG a) true F))(ho:qG F (iG a).length)(nd:(lN a).Nodup)(ct:lO a<=1)(hr:aZ j X.A)(hg:Gl X x)(hx:Passes (cR X.prog X.w) X E)(ha:iX K X (e::es) a)(hj:k<=j:=by decide)(bN:(x==("__debug__":dm))=false:=by decide)
  (he:yX (e::es) X.env=(false,zk e X.env)::yX es X.env:=by exact FL.se rfl) (bu:(zK pos (yX es X.env)).any (·.1)=false:=by exact FL.sp rfl):bw K X (.Call (.Name x p) (e::es) [] pos) (aQ F a):=.mk fun hK=>by
 subst hK;refine(vc c hr hg hx (ha rfl) hj bN he bu).weak fun σ H Q=>?_;rintro⟨ρ,rel,q⟩;refine zf7 (fr:=true) ho nd ct σ H Q ρ rel ?_;cases e0:aQ F a ρ with
 | ok y =>
  rw[e0]at q;exact fun H' r s v ⟨ad,hv,ha,m⟩=>by subst hv;exact q H' r s ad ha m
 | _=>rw[e0]at q;exact q.elim
end
end
variable {x0:dm}
section
variable [Cs]
section
variable {K:yU}{st:zy}
theorem zmk(rel:bH K C ρ σ H)(e:ρ[i]?=some (.ow false d)):∃ a u,H a=some u/\Own u/\∀ o,bH K C (ρ.set i (.val d)) σ (upd H a (.frz o u))/\aF H (upd H a (.frz o u)):=by
 obtain⟨a,bA,m⟩:=rel.rel.j4 (d:=d) (show bg ρ i=.ok d by unfold bg;rw[e]);obtain⟨u,e1,ow⟩:=m.own;refine⟨a,u,e1,ow,fun o=>?_⟩;have hl:i<ρ.length:=(Am.mp e).1;have e6:=rel.own i a d e bA.2;have fz:aF H (upd H a (.frz o u)):=fun b w e2 sy=>by
  rw[aU fun z=>by subst z;rw[e1]at e2;cases e2;exact ow.jB sy];exact e2
 refine⟨?_,fz⟩;have fd:Fz K (upd H a (.frz o u)) d (.ref a):=by
  cases d with
  | list ds =>
   obtain⟨vs,h1,h2⟩:=m;rw[e1]at h1;cases h1;simp only[Fz];exact⟨a,vs,rfl,.inl ⟨o,bU⟩,h2.mono fz⟩
  | dict aj =>
   simp only[Fz];obtain⟨kk,h1,h2⟩:=m;rw[e1]at h1;cases h1;exact⟨a,o,rfl,⟨kk,bU,h2.mono fz⟩⟩
  | _=>exact m.elim
 have tW:∀ j b,At (ρ.set i (.val d)) σ j b->j≠i/\At ρ σ j b:=fun j b ⟨⟨q,dd,e1⟩,e2⟩=>by
  by_cases c:i=j
  ·subst c
   rw[An hl]at e1;cases e1
  ·rw[z9 c]at e1
   exact⟨fun z=>c z.symm,⟨q,dd,e1⟩,e2⟩
 refine⟨⟨by rw[Bp];exact rel.rel.len,fun j y w e2 e3=>?_,fun j k b h1 h2=>rel.rel.sep j k b (tW j b h1).2 (tW k b h2).2,rel.rel.cst.mono fz⟩,fun b w e2 n=>?_,fun j b c e2 e3=>?_,fun j=>?_,fun j c e2=>?_,rel.mL⟩
 ·by_cases c:i=j
  ·subst c
   rw[An hl]at e2;cases e2;rw[bA.2]at e3;cases e3;exact fd
  ·rw[z9 c]at e2
   refine(rel.rel.ok j y w e2 e3).mono fz fun b e4 ⟨p,dd,e5⟩=>?_;subst e4;subst e5
   refine aU fun z=>?_;subst z;exact c (rel.rel.sep i j b bA ⟨⟨p,dd,e2⟩,e3⟩)
 ·rw[aU fun z=>by subst z;rw[e6]at e2;cases e2]
  exact rel.keep b w e2 n
 ·by_cases c:i=j
  ·subst c
   rw[An hl]at e2;cases e2
  ·rw[z9 c]at e2
   exact rel.own j b _ e2 e3
 ·by_cases c:i=j
  ·subst c
   rw[An hl,<- rel.pin i,e]
   constructor
   ·rintro⟨_,z⟩;cases z
   ·rintro⟨_,z⟩;cases z
  ·rw[z9 c];exact rel.pin j
 ·by_cases k:i=j
  ·subst k
   rw[An hl]at e2;cases e2
  ·rw[z9 k]at e2
   exact rel.fix j c e2
theorem zde(i:Nat)(hh:cZ K X st s):cZ K X st (fj i s):=.mk fun hK C=>by
 have h1:PS X st (fun Dn σ H=>tS K C s { Dn with nx:=fun σ H=>∃ a u,H a=some u/\Own u/\∀ o,Dn.nx σ (upd H a (.frz o u)) } σ H):=fun pins sh σ H Dn I q=>by
  refine aT (hh hK C pins sh σ H _ I q) fun fl s1 z=>?_;cases fl with
  | next =>
   obtain⟨σ',H',I',a,u,e,ow,q⟩:=z;obtain⟨o,ho⟩:=(I'.aC a u e).some;exact⟨σ',_,zbC I' e ow ho,q o⟩
  | brk=>exact z
  | cont=>exact z
  | ret v=>exact z
 refine h1.weak fun Dn σ H=>?_;rintro⟨ρ,rel,g⟩;refine⟨ρ,rel,?_⟩;obtain⟨x,ex,g1⟩:=g.ck;rw[ex];obtain⟨fl,ρ1⟩:=x;cases fl with
 | nx =>
  replace g1:cS K C H (match ρ1[i]? with|some (.ow false d)=>.ok (.nx,ρ1.set i (.val d))|_=>.bad) Dn:=g1;cases e:ρ1[i]? with
  | none=>rw[e]at g1;exact g1.elim
  | some y =>
   rw[e]at g1;cases y with
   | ow p d =>
    cases p with
    | true=>exact g1.elim
    | false =>
     intro σ' H' r z;obtain⟨a,u,e1,ow,k⟩:=zmk r e;exact⟨a,u,e1,ow,fun o=>g1 σ' _ (k o).1 (z.trans (k o).2)⟩
   | _=>exact g1.elim
 | bk=>exact g1
 | ct=>exact g1
 | rt d=>exact g1
 | rf d=>exact g1
theorem zrG{a b:yW}{px pt:zc}{kt k2 j6}(hc:X.calm=true)(hN:X.N.Nodup)(hi:X.N[i]?=some x)(hj:X.N[j]?=some y)(eh:i≠j)
  (hx:X.env.scope.names.lookup x=some .local)(hy:X.env.scope.names.lookup y=some .local)(ha:PV K X a f)(hb:PV K X b h)
  (hw:Dm [.Tuple [.Name x px,.Name y py] kt pt] (.Tuple [a,b] k2 j6) X.env=pure (some [x,y]))
  (hs:Dl [.Tuple [.Name x px,.Name y py] kt pt] (.Tuple [a,b] k2 j6) pos.line X.env=pure false:=by rfl)(jx:yX [a,b] X.env=(false,zk a X.env)::yX [b] X.env:=by exact FL.se rfl)(il:yX [b] X.env=(false,zk b X.env)::yX [] X.env:=by exact FL.se rfl) :
  cZ K X (.Assign [.Tuple [.Name x px,.Name y py] kt pt] (.Tuple [a,b] k2 j6) pos) (dq i j f h):=.mk fun hK C=>(zqT hc hN hi hj eh hx hy (gq (ha hK) (gq (hb hK) jE il) jx) hw hs).weak fun Dn σ H=>by
 rintro⟨ρ,rel,g⟩;refine jT rel g fun d ρ1 v H1 au aY fz g1=>jT au g1 fun d2 ρ2 v2 H2 bP dh rh g2=>?_;obtain⟨ρ3,e3,g3⟩:=g2.ck;obtain⟨ρ4,e4,g4⟩:=g3.ck;obtain⟨rfl,n1,l1⟩:=xf e3;obtain⟨rfl,n2,l2⟩:=xf e4;have f1:=fz.mono (dh.d9 au.rel);have r3:=bP.chg (bP.rel.set (i:=i) (x:=.val d) (v:=some v) f1 fun _ _ _ z=>nomatch z) (wJ n1 l1);have r4:=r3.chg (r3.rel.set (i:=j) (x:=.val d2) (v:=some v2) rh fun _ _ _ z=>nomatch z) (wJ n2 l2);exact⟨v,v2,rfl,g4 _ H2 r4 (aF.refl _)⟩
theorem zrF{oC:zc}(i0:Nat)(L:List dm)(ix:List Nat)(M:List dm)(hN:X.N.Nodup)(uC:X.N[i0]?=some x0)(rJ:X.env.scope.names.lookup x0=some .local)
  (pR:AW (.ListComp elt [⟨tg,iter,ifs,0⟩] scope pos) (some (.Name x0 pos')) oC.line X.env=pure true)(hc:X.calm=true)(hk:scope.kind=.function)
  (hd:kA X.env.scope scope X.N ix=true)(hM:M=L++ix.map fun i=>X.N.getD i "") (nd:ix.Nodup) (hi:iF K X tg iter it)
  (hg:∀ C s₃ H₃ fp,hJ K (c7 X M scope C s₃ H₃ fp) aL tg g) (dC:aL.all (fun i=>decide (i<L.length))=true)
  (ht:∀ C s₃ H₃ fp,pE K (c7 X M scope C s₃ H₃ fp) ifs t) (he:∀ C s₃ H₃ fp,PV K (c7 X M scope C s₃ H₃ fp) elt f)
  (hs:∀ x,Be iter X.env x=pure x:=by intro _;rfl) :
  cZ K X (.Assign [.Name x0 pos'] (.ListComp elt [⟨tg,iter,ifs,0⟩] scope pos) oC) (bx i0 (dB L.length ix it g t f)):=.mk fun hK C =>
 (zqV i0 L ix M hN uC rJ pR hc hk hd hM (hi hK) (fun C s₃ H₃ fp=>hg C s₃ H₃ fp hK) (zgc dC) (fun C s₃ H₃ fp=>ht C s₃ H₃ fp hK) (fun C s₃ H₃ fp=>he C s₃ H₃ fp hK) hs).weak fun Dn σ H q=>zf8 nd dC σ H _ (zbI Dn σ H q)
end
end
variable {f:SF}
section
variable [Cs]
structure Blt(mg:dm->Option ir):Prop where
 uR:mg "abs"=none
 bZ:mg "isinstance"=none
 rZ:mg "int"=none
 xV:mg "bool"=none
 r9:mg "tuple"=none
 zcL:mg "list"=none
 r6:mg "str"=none
 gm:mg "len"=none
 zcK:mg "all"=none
 uT:mg "range"=none
 zhk:mg "zip"=none
 uS:mg "enumerate"=none
 zcM:mg "max"=none
 zhj:mg "min"=none
 zcN:mg "sum"=none
 uU:mg "sorted"=none
 zhi:mg "dict"=none
 zhh:mg "any"=none
namespace Bt
theorem abs:Ad "abs"=some (.builtin "abs"):=by decide +kernel
theorem len:Ad "len"=some (.builtin "len"):=by decide +kernel
theorem all:Ad "all"=some (.builtin "all"):=by decide +kernel
theorem max:Ad "max"=some (.builtin "max"):=by decide +kernel
theorem sum:Ad "sum"=some (.builtin "sum"):=by decide +kernel
theorem int:Ad "int"=some (.type "int"):=by decide +kernel
theorem bool:Ad "bool"=some (.type "bool"):=by decide +kernel
theorem tuple:Ad "tuple"=some (.type "tuple"):=by decide +kernel
theorem list:Ad "list"=some (.type "list"):=by decide +kernel
theorem str:Ad "str"=some (.type "str"):=by decide +kernel
end Bt
theorem zdc{K:yU}{st:List zy}(h:eR K X.cV st f):eR K X st f:=.mk fun hK C=>eE.cV (h hK C)
theorem zoI{K:yU}{G:List D->R D}{H:Hp}{a:gV}{ns:List Int}(h:G [.list (ns.map zH)]=.ok (.bool true))(hO:∀ b xs,H b≠some (.lst xs))(hC:jI H)(hS:cw K H a (ns.map V.int)):gW K 1 false G [.ref a] H (fun v _=>v=.bl true) fun _ _ _=>False:=by
 refine⟨[.list (ns.map zH)],rfl,hC,?_,.bool true,h,fun v H' _ fz=>by simpa[Fz] using fz⟩;simp only[aq,Fz];refine⟨.ref a,[],rfl,⟨a,ns.map V.int,rfl,?_,aq.ofInts ns⟩,rfl⟩;rcases hS with(hS|⟨o,hS⟩)|hS
 ·exact absurd hS (hO a _)
 ·exact .inl ⟨o,hS⟩
 ·exact .inr hS
end
end FL
namespace FL
open PySem
end FL
namespace L2
open PySem PySem.Spec PyProof.Rows
section
end
section
end
end L2
namespace FL
open PySem L2 PySem.Spec
open PyProof.Rows hiding St
variable [Cs]
end FL
namespace FL
open PySem
abbrev K1:=Int ⊕ dm
abbrev KQ:=List K1 ⊕ K1
noncomputable def xK:D->Option K1
 | .int i=>some (.inl i)
 | .str x=>some (.inr x)
 | _=>none
def kM:List D->Option (List K1)
 | []=>some []
 | d::r=>(xK d).bind fun k=>(kM r).map fun ks=>k::ks
def keyOf:D->Option KQ
 | .tuple xs=>(kM xs).map .inl
 | _=>none
noncomputable def xa:KQ->Bool
 | .inl _=>true
 | .inr _=>false
def keysOk(f:Bool)(aj:List (D×D)):Bool:=aj.all fun kv=>match keyOf kv.1 with
 | some q=>xa q==f
 | none=>false
def look(aj:List (D×D))(q:KQ):Option D:=(aj.find? fun kv=>decide (keyOf kv.1=some q)).map (·.2)
def vj(aj:List (D×D))(k:D)(q:KQ)(v:D):List (D×D) :=
 if(aj.any fun kv=>decide (keyOf kv.1=some q))=true then aj.map fun kv=>if keyOf kv.1=some q then(kv.1,v) else kv else aj++[(k,v)]
def zlD(aj:List (D×D))(q:KQ):List (D×D):=aj.filter fun kv=>decide (keyOf kv.1≠some q)
def dictAt(d k:D):R (List (D×D)×KQ):=match d with
 | .dict aj=>(R.of (keyOf k)).bind fun q=>aN (keysOk (xa q) aj) (.ok (aj,q))
 | _=>.bad
def nC(d k:D):R (Option D):=(dictAt d k).bind fun x=>.ok (look x.1 x.2)
def zmx(d k x:D):R D:=(nC d k).bind fun o=>.ok (o.getD x)
def inD(k d:D):R D:=(nC d k).bind fun o=>.ok (.bool o.isSome)
def h8(d k:D):R D:=(nC d k).bind fun o=>R.of o
def qY(d k v:D):R D:=(dictAt d k).bind fun x=>aN (leB (x.1.length+1) lim) (.ok (.dict (vj x.1 k x.2 v)))
def zlv(d k:D):R D:=(dictAt d k).bind fun x=>aN (look x.1 x.2).isSome (.ok (.dict (zlD x.1 x.2)))
noncomputable def ip:D->R (List D)
 | .dict aj=>.ok (aj.map (·.1))
 | _=>.bad
def kQ(i:Nat)(k x:EF):EF:=fun ρ=>(bg ρ i).bind fun c0=>(ip c0).bind fun _=>(k ρ).bind fun a=>(x a.2).bind fun b=>(bg b.2 i).bind fun c=>(zmx c a.1 b.1).bind fun d=>.ok (d,b.2)
def e3(g:D->D->D->R D)(d k x:EF):EF:=fun ρ=>(d ρ).bind fun c=>(k c.2).bind fun a=>(x a.2).bind fun b=>(g c.1 a.1 b.1).bind fun r=>.ok (r,b.2)
def eL(i:Nat)(k f:EF):SF:=fun ρ=>(f ρ).bind fun v=>(bg v.2 i).bind fun _=>(k v.2).bind fun a=>(bg a.2 i).bind fun c=>(qY c a.1 v.1).bind fun d=>.ok (.nx,dE a.2 i d)
def kB(i:Nat)(k:EF):SF:=fun ρ=>(bg ρ i).bind fun _=>(k ρ).bind fun a=>(bg a.2 i).bind fun c=>(zlv c a.1).bind fun d=>.ok (.nx,dE a.2 i d)
def iD(f:EF):IF:=fun ρ=>(f ρ).bind fun x=>(ip x.1).bind fun l=>.ok (l,x.2)
def kC(k v:EF):EF:=fun ρ=>(k ρ).bind fun x=>(v x.2).bind fun y=>(qY (.dict []) x.1 y.1).bind fun d=>.ok (d,y.2)
noncomputable def gj:EF:=fun ρ=>.ok (.dict [],ρ)
end FL
namespace PySem
open Spec
end PySem
namespace L2
open PySem PySem.Spec PyProof.Rows
end L2
namespace PySem
open Spec
variable {s:kb}{prog:zu}{A:zx}{es:Array BG}{ep i:Nat}{E:ir->kb->Prop}{Q:Option ir->kb->Prop}{d it:gV}{w:zq}
section
structure iA(h:zh)(d:gV)(es:Array BG)(ep:Nat):Prop where
 ex:∃ o,h.get? d=some o/\o.ExactDict/\o.data=.dict es ep
theorem iA.typ(x:iA s.heap d es ep):s.TypeIs (.ref d) "dict":=by
 obtain⟨o,ho,hc,_⟩:=x.ex;exact⟨o,ho,hc.1⟩
theorem znj{Q:ir->kb->Prop}(hd:(d==B7)=false)(x:iA s.heap d es ep)
  (hQ:Q (.ref s.heap.objs.size) { s with heap:=s.heap.push { cls:=.type "dict_keyiterator",data:=.fields #[.ref d,.int 0 0,.int es.size 0,.int ep 0] } }):yY (yZ prog w) A (pyIter (.ref d)) Q E s:=by
 obtain⟨o,ho,hc,zgf⟩:=x.ex;have hT:=x.typ;refine wpAny_pyIter_slot hT F.slot_dict_iter (D1 F.slot_dict_iter hT F.entry_dict_iter ?_ (F.args_dict_iter_1 _));unfold Bo.«dict.__iter__» Builtin.Dict.dictSlotNone;refine yV (yV (wpAny_notOrdered_dict hT ?_));show yY _ _ (pure (Ac d)) _ _ s;refine zi ?_;show yY _ _ (G9 d >>= _) _ _ s;unfold G9;rw[if_neg (by rw[hd];exact AJ)];refine yV (zi (yV (Gb ho zgf (yV (Gd ho zgf ?_)))));refine yV (BK (zi ⟨_,rfl,"dict_keyiterator",_,⟨_,AG _ rfl,rfl⟩,Ef.lookup,?_⟩));simpa[Bw] using hQ
theorem zpp(hit:s.heap.IsKeyIter it d i es.size ep)(x:iA s.heap d es ep)(hi:i<es.size)
  (hQ:∀ h',h'.IsKeyIter it d (i+1) es.size ep->DS it s.heap h'->Q (some es[i].key) { s with heap:=h' }):yY (yZ prog w) A (CU (.ref it)) Q E s:=by
 obtain⟨o,ho,hc,hd⟩:=id hit;obtain⟨od,mw,eZ,fG⟩:=x.ex;unfold CU;refine yV (Ge (EC (name:=zj "__next__") hit.typeIs Ef (D1 Ef hit.typeIs Ha ?_ (Hb _))));refine yV (zi (yV (yV ?_)))
 first|refine yV (E8 hit.typeIs (zi ?_))|refine yV (E9 hit.typeIs (zi ?_))
 refine yV (wpAny_fieldsOf ho hd ?_);have zcj:Hc "dict_keyiterator"=false:=by decide
 simp only[zcj,zm,if_false];show yY _ _ (if(Ac d==Aj)=true then _ else _) _ _ s;rw[if_neg (show ¬ ((Ac d==Aj)=true) from AJ)];refine yV (zi (yV (Gb mw fG ?_)));rw[if_neg (by simp)];refine yV (zi (yV (Gd mw fG ?_)));rw[if_neg (by simp)];refine zi ?_;simp only[show ¬ ((i:Int)<0) from by omega,if_false,Eg,EX hi];refine yV ?_
 first|refine yV (E8 hit.typeIs (zi ?_))|refine yV (E9 hit.typeIs (zi ?_))
 refine yV (wpAny_isOneOf_keyiter hit.typeIs ?_);show yY _ _ (setField (.ref it) 1 (Bw ((i:Int)+1)) >>= _) _ _ s;refine yV (D7 ho hd (by simp) ?_);have xt:(s.heap.update it (EJ (·.setIfInBounds 1 (Bw ((i:Int)+1))))).IsKeyIter it d (i+1) es.size ep :=
  ⟨_,D2 _ ho (FV (D8 hd _)),(Obj.cls_mapFields ..).trans hc,by rw[D8 hd];simp[Bw]⟩
 refine yV (Bc (yV (wpAny_isOneOf_keyiter (s:={ s with heap:=s.heap.update it (EJ (·.setIfInBounds 1 (Bw ((i:Int)+1)))) }) xt.typeIs ?_)));show yY _ _ (pure es[i].key) _ _ _;exact zi (zi ⟨_,rfl,zi (hQ _ xt (CF ..))⟩)
theorem zbs(hh:A.handled=none)(hit:s.heap.IsKeyIter it d i es.size ep)(x:iA s.heap d es ep)(rC:es.size<=i)
  (hQ:∀ h',Heap.ExtBut it s.heap h'->Q none { s with heap:=h' }):yY (yZ prog w) A (CU (.ref it)) Q E s:=by
 obtain⟨o,ho,hc,hd⟩:=id hit;obtain⟨od,mw,eZ,fG⟩:=x.ex;unfold CU;refine yV (Ge (EC (name:=zj "__next__") hit.typeIs Ef (D1 Ef hit.typeIs Ha ?_ (Hb _))));refine yV (zi (yV (yV ?_)))
 first|refine yV (E8 hit.typeIs (zi ?_))|refine yV (E9 hit.typeIs (zi ?_))
 refine yV (wpAny_fieldsOf ho hd ?_);have zcj:Hc "dict_keyiterator"=false:=by decide
 simp only[zcj,zm,if_false];show yY _ _ (if(Ac d==Aj)=true then _ else _) _ _ s;rw[if_neg (show ¬ ((Ac d==Aj)=true) from AJ)];refine yV (zi (yV (Gb mw fG ?_)));rw[if_neg (by simp)];refine yV (zi (yV (Gd mw fG ?_)));rw[if_neg (by simp)];refine zi ?_;simp only[show ¬ ((i:Int)<0) from by omega,if_false,Eg,Gf rC];refine yV ?_
 first|refine yV (E8 hit.typeIs (zi ?_))|refine yV (E9 hit.typeIs (zi ?_))
 show yY _ _ (setField (.ref it) 0 .none >>= _) _ _ s;refine yV (D7 ho hd (by simp) ?_);show yY _ _ (newExc (.type "StopIteration") [] >>= _) _ _ _;refine yV ?_;simp only[newExc,newTuple];refine yV (BK ?_ (by size_fits));refine yV (m:=firstArgMember _ _) (wpAny_of_eq (a:=Aj) (by first|rfl|(simp only[firstArgMember];rfl)) ?_);refine BK ?_ (by size_fits);simp only[raiseNew];refine yV (wpAny_handled ?_);rw[show A.in1.handled=none from hh];refine yV (zi (wpAny_throw ?_));refine yV (wpAny_isInstance (T:="StopIteration") (b:=true) ⟨_,AG _ rfl,rfl⟩ isSubtype_stop ?_);exact zi (hQ _ (((CF ..).extBut.push _).push _))
end
end PySem
namespace L2
open PySem PySem.Spec PyProof.Rows
section
end
variable {s:kb}{E:ir->kb->Prop}{X:Cx}{pins:List (gV×zb)}{H H':Hp}{σ:St}{A:zx}{Q:Unit->kb->Prop}{o:Option V}{a:gV}
section
def DG(H:Hp)(a:gV)(y:V)(r:Option V):Prop :=
 vI H a y r
section
variable {y v d:V}{u r:ir}
theorem zlw{Q:ir->kb->Prop}(hu:A.units+1<Ae)(I:Inv X pins σ H s)(g:DG H a y o)(ry:RelV y u)(h:∀ s',Inv X pins σ H s'->Q (.bool o.isSome) s') :
  yY (yZ X.prog X.w) A (zF .In u (.ref a)) Q E s:=by
 exact zli hu I g ry h
def DP(H:Hp)(a:gV)(y v:V)(H':Hp):Prop :=
 zdM H a y v H'
theorem zlB(hu:A.units+1<Ae)(I:Inv X pins σ H s)(g:DP H a y v H')(ry:RelV y u)(rv:RelV v r)(h:∀ s',Inv X pins σ H' s'->Q () s') :
  yY (yZ X.prog X.w) A (setItem (.ref a) u r) Q E s:=by
 exact zlp hu I g ry rv h
end
section
variable {o i e f value:yW}{apos bC pos pos':zc}{td ty tx tv:TE}
noncomputable def zsZ(td ty tv:TE):TS:=fun D σ H=>tv σ H fun v H1=>td σ H1 fun x H2=>ty σ H2 fun y H3=>∃ a H4,x=.ref a/\DP H3 a y v H4/\D.nx σ H4
theorem zqR(hu:X.A.units+1<Ae)(ho:PE X o td)(hi:PE X i ty)(hv:PE X value tv)(hs:AW value (some (.Subscript o i pos')) pos.line X.env=pure false) :
  PS X (.Assign [.Subscript o i pos'] value pos) (zsZ td ty tv):=by
 intro pins s σ H D I h;refine wpAny_Assign_Subscript (aT (hv pins s σ H _ I h) fun r s1 ⟨v,H1,I1,rv,q1⟩=>aT (ho pins s1 σ H1 _ I1 q1) fun u s2 ⟨x,H2,I2,rx,q2⟩=>aT (hi pins s2 σ H2 _ I2 q2) fun iv s3 ⟨y,H3,I3,ry,a,H4,ex,g,q3⟩=>?_) hs;subst ex;obtain rfl:u=Ac a:=rx;exact zlB hu I3 g ry rv fun s4 I4=>⟨σ,H4,I4,q3⟩
end
end
end L2
namespace FL
open PySem L2 PySem.Spec
open PyProof.Rows hiding St
variable {v y:V}{kk:List (List Key×V)}{a b:gV}{α:Type}{x:List (D×D)×KQ}{k:Key}{d:D}{o:Option D}{q:KQ}{ks:List Key}{aj:List (D×D)}
section
variable [Cs]
theorem si{o:Option α}{a:α}(h:R.of o=.ok a):o=some a:=by
 cases o with
 | none=>cases h
 | some b=>cases h;rfl
theorem znq(k:Key):xK (kD k)=some k:=by cases k <;> rfl
theorem zgO:∀ ks:List Key,kM (ks.map kD)=some ks
 | []=>rfl
 | k::r=>by simp only[zE,kM,znq,Option.bind_some,zgO r,Bi]
theorem uK(q:List Key):keyOf (mG q)=some (.inl q):=by simp only[mG,keyOf,zgO,Bi]
theorem znp(h:xK d=some k):d=kD k:=by
 cases d with
 | int i=>cases h;rfl
 | str i=>cases h;rfl
 | _=>cases h
theorem zgN:∀{ds:List D} {ks:List Key},kM ds=some ks->ds=ks.map kD
 | [],ks,h=>by simp only[kM,Bh]at h;subst h;rfl
 | d::r,ks,h=>by
  simp only[kM,DE,BE]at h;obtain⟨k,e,ks',e',rfl⟩:=h;rw[znp e,zgN e'];rfl
section
variable {K:yU}{H H':Hp}
theorem zmm:Fz K H (kD k) (kV k):=by cases k <;> simp[kD,kV,Fz]
theorem zno(h:Fz K H (kD k) v):v=kV k:=by cases k <;> simpa[kD,kV,Fz] using h
theorem zfZ:∀ ks:List Key,aq K H (ks.map kD) (ks.map kV)
 | []=>by simp[aq]
 | k::r=>by simp only[zE,aq];exact⟨_,_,rfl,zmm,zfZ r⟩
theorem zgD:∀{ks:List Key} {vs:List V},aq K H (ks.map kD) vs->vs=ks.map kV
 | [],vs,h=>by simpa[aq] using h
 | k::r,vs,h=>by
  simp only[zE,aq]at h;obtain⟨v,t,rfl,h1,h2⟩:=h;rw[zno h1,zgD h2];rfl
theorem zmn(h:cT H b (ks.map kV)):Fz K H (mG ks) (.ref b):=by
 simp only[mG,Fz];exact⟨b,_,rfl,h,zfZ ks⟩
theorem ziH{k:D}(f:Tp K H k v)(e:keyOf k=some q):∃ ks b,q=.inl ks/\k=mG ks/\v=.ref b/\cT H b (ks.map kV):=by
 cases k with
 | tuple xs =>
  simp only[keyOf,BE]at e;obtain⟨ks,e1,rfl⟩:=e;have:=zgN e1;subst this;obtain⟨b,vs,rfl,tb,fa⟩:=(show ∃ a vs,v=.ref a/\cT H a vs/\aq K H (ks.map kD) vs by simpa[Tp,Fz] using f);rw[zgD fa]at tb;exact⟨ks,b,rfl,rfl,rfl,tb⟩
 | _=>cases e
theorem zgW:∀{aj:List (D×D)} {kk:List (List Key×V)},bJ K H aj kk->∀ q:List Key,(look aj (.inl q)=none/\kl kk q=none)\/∃ d v,look aj (.inl q)=some d/\kl kk q=some v/\Fz K H d v
 | [],kk,h,q=>by simp only[bJ]at h;subst h;exact .inl ⟨rfl,rfl⟩
 | (k,d)::r,kk,h,q=>by
  simp only[bJ]at h;obtain⟨q',v,t,rfl,rfl,f,h2⟩:=h
  by_cases c:q'=q
  ·subst c
   exact .inr ⟨d,v,by simp[look,CC,uK],zdH rfl,f⟩
  ·have e1:look ((mG q',d)::r) (.inl q)=look r (.inl q):=by simp[look,CC,uK,c]
   rw[e1,zdG (p:=(q',v)) c];exact zgW h2 q
theorem zfu{k:D}(h:dictAt d k=.ok x):d=.dict x.1/\keyOf k=some x.2/\keysOk (xa x.2) x.1=true:=by
 cases d with
 | dict aj =>
  obtain⟨q,e1,h⟩:=bM (show(R.of (keyOf k)).bind _=.ok x from h);obtain⟨c,h⟩:=cJ h;cases h;exact⟨rfl,si e1,c⟩
 | _=>cases h
theorem zfs{k:D}{x:V}(t:Tp K H d x)(f:Tp K H k y)(e:nC d k=.ok o) :
  ∃ a r,x=.ref a/\vW H a/\DG H a y r/\((o=none/\r=none)\/∃ d v,o=some d/\r=some v/\Fz K H d v):=by
 obtain⟨⟨aj,q⟩,e1,e⟩:=bM (show(dictAt d k).bind _=.ok o from e);cases e;obtain⟨rfl,ek,c⟩:=zfu e1;obtain⟨a,ea,kk,rd,h⟩:=(show ∃ a,x=.ref a/\∃ kk,Rd H a (.dT kk)/\bJ K H aj kk from t);subst ea;obtain⟨ks,b,rfl,rfl,rfl,tb⟩:=ziH f ek;refine⟨a,kl kk ks,rfl,⟨kk,rd⟩,⟨kk,ks,b,rd,rfl,tb,rfl⟩,?_⟩;rcases zgW h ks with⟨z1,z2⟩|⟨d,v,z1,z2,z3⟩
 ·exact .inl ⟨z1,z2⟩
 ·exact .inr ⟨d,v,z1,z2,z3⟩
theorem zeo:∀{aj:List (D×D)} {kk:List (List Key×V)},bJ K H aj kk->∀ q:List Key,(aj.any fun kv=>decide (keyOf kv.1=some (.inl q)))=kk.any fun kv=>decide (kv.1=q)
 | [],kk,h,q=>by simp only[bJ]at h;subst h;rfl
 | (k,d)::r,kk,h,q=>by
  simp only[bJ]at h;obtain⟨q',v,t,rfl,rfl,f,h2⟩:=h;simp only[F4,zeo h2 q,uK,Bh,Sum.inl.injEq]
theorem zid{d:D}{v:V}(f:Fz K H d v):∀{aj:List (D×D)} {kk:List (List Key×V)},bJ K H aj kk->∀ q:List Key,bJ K H (aj.map fun kv=>if keyOf kv.1=some (.inl q) then(kv.1,d) else kv) (kk.map fun kv=>if kv.1=q then(kv.1,v) else kv)
 | [],kk,h,q=>by simp only[bJ]at h;subst h;simp[bJ]
 | (k,d0)::r,kk,h,q=>by
  simp only[bJ]at h;obtain⟨q',v0,t,rfl,rfl,f0,h2⟩:=h;have ih:=zid f h2 q
  by_cases c:q'=q
  ·subst c
   simp only[zE,uK,if_true,bJ];exact⟨q',v,_,rfl,rfl,f,ih⟩
  ·simp only[zE,uK,Bh,Sum.inl.injEq,if_neg c,bJ]
   exact⟨q',v0,_,rfl,rfl,f0,ih⟩
theorem zeq{d:D}{v:V}(f:Fz K H d v)(q:List Key):∀{aj:List (D×D)} {kk:List (List Key×V)},bJ K H aj kk->bJ K H (aj++[(mG q,d)]) (kk++[(q,v)])
 | [],kk,h=>by simp only[bJ]at h;subst h;simp only[Aw,bJ];exact⟨q,v,[],rfl,rfl,f,rfl⟩
 | (k,d0)::r,kk,h=>by
  simp only[bJ]at h;obtain⟨q',v0,t,rfl,rfl,f0,h2⟩:=h;simp only[Ap,bJ];exact⟨q',v0,_,rfl,rfl,f0,zeq f q h2⟩
theorem zrd(h:bJ K H aj kk)(f:Fz K H d v)(q:List Key):bJ K H (vj aj (mG q) (.inl q) d) (putK kk q v):=by
 unfold vj putK;rw[zeo h q]
 split
 ·exact zid f h q
 ·exact zeq f q h
theorem bJ.len:∀{aj:List (D×D)} {kk:List (List Key×V)},bJ K H aj kk->kk.length=aj.length
 | [],kk,h=>by simp only[bJ]at h;subst h;rfl
 | (k,d0)::r,kk,h=>by
  simp only[bJ]at h;obtain⟨q',v0,t,rfl,rfl,f0,h2⟩:=h;simp[h2.len]
theorem zmp{u o:HO}(e:H a=some u)(ow:Own u):aF H (upd H a o):=fun b w eb st=>by
 rw[aU fun z=>by subst z;rw[e]at eb;cases eb;exact ow.jB st];exact eb
theorem zlA{c k dv d':D}(m:cv K H a c)(f:Fz K H k y)(g:Fz K H dv v)(e:qY c k dv=.ok d'):∃ o,DP H a y v (upd H a o)/\cv K (upd H a o) a d':=by
 obtain⟨⟨aj,q⟩,e1,e⟩:=bM (show(dictAt c k).bind _=.ok d' from e);obtain⟨l,e⟩:=cJ e;cases e;obtain⟨rfl,ek,c⟩:=zfu e1;have hl:aj.length+1<=zt:=AB (dX l) gF;obtain⟨kk,rd,h⟩:=(show ∃ kk,H a=some (.dT kk)/\bJ K H aj kk from m);have fz:∀ o,aF H (upd H a o):=fun o=>zmp rd trivial;obtain⟨ks,b,rfl,rfl,rfl,tb⟩:=ziH f.tp ek;exact⟨.dT (putK kk ks v),⟨kk,ks,b,rd,rfl,tb,by rw[h.len];omega,rfl⟩,⟨_,bU,(zrd h g ks).mono (fz _)⟩⟩
end
end
variable {X:Cx}{y:dm}{k:EF}{ke:yW}
section
variable [Cs]
section
theorem zpX(hu:X.A.units+1<Ae):aW X (zF .In) (rD X.K inD):=by
 intro pins s σ H x y v u Q I rx ry h;obtain⟨dx,dy,d,tx,ty,e,q⟩:=h;obtain⟨o,e1,e⟩:=bM (show(nC dy dx).bind _=.ok d from e);cases e;obtain⟨a,r,rfl,_,g,rel⟩:=zfs ty tx e1;cases ry;have hb:o.isSome=r.isSome:=by
  rcases rel with⟨rfl,rfl⟩|⟨_,_,rfl,rfl,_⟩ <;> rfl
 exact zlw hu I g rx fun s3 I3=>⟨.bl r.isSome,H,I3,rfl,q _ H (aA.refl _) (by rw[hb];simp[Fz])⟩
theorem znk(hu:X.A.units+1<Ae):jK X (rD X.K h8):=by
 intro value slice pins s σ H x y v u Q I rx ry h hs;obtain⟨dx,dy,d,tx,ty,e,q⟩:=h;obtain⟨o,e1,e⟩:=bM (show(nC dx dy).bind _=.ok d from e);have eo:=si e;subst eo;obtain⟨a,r,rfl,_,g,rel⟩:=zfs tx ty e1;cases rx;rcases rel with⟨z,_⟩|⟨d',w,z,rfl,fz⟩
 ·cases z
 cases z;have hT:=zly I g;have h2:yY (yZ X.prog X.w) X.A (B9 (.ref a) u) (EP X pins σ Q) X.xe s:=zlh hu I g ry fun w' s3 I3 je=>⟨w,H,I3,je,q w H (aA.refl _) fz⟩;unfold FP;refine yV ?_;rw[getitemInPython_of_ne hT.not_modules];refine yV (wpAny_specialOf hT PySem.F.slot_dict_getitem.lookup ?_);have fin:yY (yZ X.prog X.w) X.A (subscripted slice false (.ref a) u) (fun r s₃=>yY (yZ X.prog X.w) X.A (letTemporaryGo value (.ref a) r >>= fun _=>pure r) (EP X pins σ Q) X.xe s₃) X.xe s:=by
  rw[hs];exact wpAny_operating (z8 h2 (fun r s₃ h₃=>yV (wpAny_letTemporaryGo (zi h₃))) fun _ _ x=>x)
 first
  | exact zi (yV fin)
  | exact yV (zi (yV fin))
  | exact yV fin
end
section
variable {K:yU}{o e e':yW}{fd fk fx f:EF}{apos bC pos:zc}
theorem yo{py eQ:zc}(i:Nat)(hu:X.A.units+1<Ae)(ha:PE X (.Name y py) (dA i))(he:PV K X e f)(hk:PV K X ke k)
  (hs:AW e (some (.Subscript (.Name y py) ke eQ)) pos.line X.env=pure false:=by rfl):cZ K X (.Assign [.Subscript (.Name y py) ke eQ] e pos) (eL i k f):=.mk fun hK C=>by
 subst hK;refine(zqR hu ha (hk rfl) (he rfl) hs).weak fun Dn σ H=>?_;rintro⟨ρ,rel,g⟩;refine jT rel g fun dv ρ1 v H1 au aY fv g1=>?_;obtain⟨d,ed,g2⟩:=g1.ck;obtain⟨a,bA,m0⟩:=au.rel.j4 ed;refine⟨.ref a,bA.2,jT au g2 fun dk ρ2 kv H2 bP dh fk g3=>?_⟩;obtain⟨c,ec,g4⟩:=g3.ck;obtain⟨d',pJ,g5⟩:=g4.ck;obtain⟨o,dp,mm⟩:=zlA (bP.rel.again ec bA) fk (fv.mono (dh.d9 au.rel)) pJ;obtain⟨a2,at2,_⟩:=bP.rel.j4 ec;have:=bA.2.symm.trans at2.2;cases this;exact⟨a,_,rfl,dp,zbJ bP at2 mm g5⟩
theorem ym:bw K X (.Dict [] [] pos) gj:=.mk fun hK=>zqk.weak fun σ H Q=>by
 rintro⟨ρ,rel,q⟩ p hp;exact q.new rel (aA.upd hp) p hp ⟨[],bU,by simp[bJ]⟩
end
end
end FL
namespace FL
open PySem
noncomputable def oA(i:Nat)(ρ:En):Nat:=match ρ[i]? with
 | some (.val (.int n))=>n.natAbs+1
 | _=>0
abbrev WK:=Int×List Int
def yS:D->Option WK
 | .tuple [.int n,.tuple xs]=>(intsOf xs).map fun w=>(n,w)
 | _=>none
def pU(G:List D->R D):List D->R (List WK)
 | []=>.ok []
 | d::r=>(G [d]).bind fun k=>(R.of (yS k)).bind fun w=>(pU G r).bind fun ws=>.ok (w::ws)
def uO(p q:WK):Bool:=if p.1=q.1 then lexLt p.2 q.2 else decide (p.1<q.1)
def jX(x:WK×D):List (WK×D)->List (WK×D)
 | []=>[x]
 | y::r=>if uO y.1 x.1=true then y::jX x r else x::y::r
def nO:List (WK×D)->List (WK×D)
 | []=>[]
 | x::r=>jX x (nO r)
def mS(G:List D->R D)(d:D):R D:=(ip d).bind fun ks=>aN (leB (ks.length+1) 64) ((pU G ks).bind fun ws=>aN (decide ws.Nodup) (.ok (.list ((nO (ws.zip ks)).map (·.2)))))
theorem zco(x:WK×D):∀ l,(jX x l).Perm (x::l)
 | []=>.refl _
 | y::r=>by
  unfold jX
  split
  ·exact((zco x r).cons y).trans (.swap x y r)
  ·exact .refl _
theorem zgw:∀ l:List (WK×D),(nO l).Perm l
 | []=>.refl _
 | x::r=>(zco x _).trans ((zgw r).cons x)
noncomputable def insI(x:Int):List Int->List Int
 | []=>[x]
 | y::r=>if y<x then y::insI x r else x::y::r
def zcp:List Int->List Int
 | []=>[]
 | x::r=>insI x (zcp r)
def zu0:D->R D
 | .list a=>(R.of (intsOf a)).bind fun ns=>aN (leB (ns.length+1) 64) (.ok (.list ((zcp ns).map .int)))
 | .tuple a=>(R.of (intsOf a)).bind fun ns=>aN (leB (ns.length+1) 64) (.ok (.list ((zcp ns).map .int)))
 | _=>.bad
noncomputable def k9:D->R D
 | .list a=>.ok (.list a.reverse)
 | _=>.bad
def i9(k d:D):R D:=match d with
 | .list xs=>aN (AZ (.list xs)&&AZ k) (.ok (.bool (xs.any fun y=>A0 y k)))
 | .tuple xs=>aN (AZ (.tuple xs)&&AZ k) (.ok (.bool (xs.any fun y=>A0 y k)))
 | _=>.bad
end FL
namespace L2
open PySem PySem.Spec PyProof.Rows PySem.W
variable {p:Array Nat}
abbrev gp(p:Array Nat)(i:Nat):Nat:=p.getD i 0
theorem uo{q:Array Nat}{i j:Nat}(h:p[i]?=q[j]?):gp p i=gp q j:=by
 simp only[gp,Array.getD_eq_getD_getElem?,h]
variable {s:kb}{cmp:Nat->Nat->(Bool->kb->Prop)->kb->Prop}{a b m n:Nat}{P:kb->Prop}{Q:Nat×Array Nat->kb->Prop}
section
variable {lt:Nat->Nat->Bool}
structure Ord(lt:Nat->Nat->Bool):Prop where
 tr:∀ i j k,lt j i=false->lt k j=false->lt k i=false
 as:∀ i j,lt i j=true->lt j i=false
def mW(lt:Nat->Nat->Bool)(n:Nat)(P:kb->Prop)(cmp:Nat->Nat->(Bool->kb->Prop)->kb->Prop):Prop :=
 ∀ i j (C:Bool->kb->Prop) s,i<n->j<n->P s->(∀ s',P s'->C (lt i j) s')->cmp i j C s
theorem Ord.refl(o:Ord lt)(i:Nat):lt i i=false:=by
 cases h:lt i i with
 | false=>rfl
 | true=>exact h.symm.trans (o.as i i h)
def Up(lt:Nat->Nat->Bool)(p:Array Nat)(m:Nat):Prop:=∀ i j,i<=j->j<m->lt (gp p j) (gp p i)=false
def Dn(lt:Nat->Nat->Bool)(p:Array Nat)(m:Nat):Prop:=∀ i j,i<=j->j<m->lt (gp p i) (gp p j)=false
def Eb(lt:Nat->Nat->Bool)(p:Array Nat)(a b:Nat):Prop:=∀ i j,a<=i->i<b->a<=j->j<b->lt (gp p i) (gp p j)=false
structure Arr(n:Nat)(p:Array Nat):Prop where
 sz:p.size=n
 pm:p.Perm (BU (A4 n))
theorem Arr.lim(h:Arr n p)(hn:0<n)(i:Nat):gp p i<n:=by
 by_cases c:i<p.size
 ·have e:gp p i=p[i]:=by simp[gp,Fb,c]
  rw[e];have m:p[i]∈p.toList:=Array.getElem_mem_toList c;have m2:=(Fc.mp h.pm).mem_iff.mp m;simpa using m2
 ·have e:gp p i=0:=by simp[gp,Fb,c]
  rw[e];exact hn
theorem Up.next(o:Ord lt)(h:Up lt p m)(hm:1<=m)(e:lt (gp p m) (gp p (m-1))=false):Up lt p (m+1):=fun i j eh hj=>by
 by_cases c:j<m
 ·exact h i j eh c
 ·have:j=m:=by omega
  subst this
  by_cases c2:i=j
  ·subst c2;exact o.refl _
  ·exact o.tr _ _ _ (h i (j-1) (by omega) (by omega)) e
theorem Dn.next(o:Ord lt)(h:Dn lt p m)(hm:1<=m)(e:lt (gp p (m-1)) (gp p m)=false):Dn lt p (m+1):=fun i j eh hj=>by
 by_cases c:j<m
 ·exact h i j eh c
 ·have:j=m:=by omega
  subst this
  by_cases c2:i=j
  ·subst c2;exact o.refl _
  ·exact o.tr _ _ _ e (h i (j-1) (by omega) (by omega))
theorem rp(hb:b<=p.size)(k:Nat):gp (C8 p a b) k=if a<=k/\k<b then gp p (a+b-1-k) else gp p k:=by
 have e:=getElem?_mirror_all (xs:=p) (i:=a) hb k;unfold C8
 split
 ·rename_i c;rw[if_pos c]at e;exact uo e
 ·rename_i c;rw[if_neg c]at e;exact uo e
theorem Arr.rev(h:Arr n p)(a b:Nat):Arr n (C8 p a b):=⟨by unfold C8;rw[mirror_size];exact h.sz,(mirror_perm _ _ _ _).trans h.pm⟩
theorem Dn.rev(o:Ord lt)(hb:b<=p.size)(h:Dn lt p m)(e:Eb lt p a b)(hbm:b<=m):Dn lt (C8 p a b) m:=fun i j eh hj=>by
 rw[rp hb,rp hb]
 split
 ·rename_i c1
  split
  ·rename_i c2;exact e _ _ (by omega) (by omega) (by omega) (by omega)
  ·rename_i c2;exact h _ _ (by omega) (by omega)
 ·rename_i c1
  split
  ·rename_i c2;exact h _ _ (by omega) (by omega)
  ·exact h _ _ eh hj
theorem zaw(o:Ord lt)(hc:mW lt n P cmp)(hn:0<n){p:Array Nat}(ar:Arr n p):∀(f m:Nat) {Q:Nat->kb->Prop} {s:kb},1<=m->Up lt p m->P s ->
  (∀ m' s',P s'->m<=m'->m'<=m+f->Up lt p m'->(m'=m+f\/lt (gp p m') (gp p (m'-1))=true)->Q m' s')->(kas_asc p f m).kasWp cmp Q s
 | 0,m,Q,s,h1,hu,hp,h=>h m s hp (zr _) (zr _) hu (.inl rfl)
 | f+1,m,Q,s,h1,hu,hp,h=>by
  refine hc _ _ _ s (ar.lim hn _) (ar.lim hn _) hp fun s' dW=>?_;cases e:lt (p.getD m 0) (p.getD (m-1) 0) with
  | true=>exact h m s' dW (zr _) (by omega) hu (.inr e)
  | false =>
   refine zaw o hc hn ar f (m+1) (by omega) (hu.next o h1 e) dW fun m' fM pQ a b c d=>h m' fM pQ (by omega) (by omega) c ?_;rcases d with d|d
   ·exact .inl (by omega)
   ·exact .inr d
theorem wQ(o:Ord lt)(hc:mW lt n P cmp)(hn:0<n):∀(f:Nat) (p:Array Nat) (m q:Nat) {Q:Array Nat×Nat×Nat->kb->Prop} {s:kb},Arr n p->q+1<=m->m+f<=n->Dn lt p m->Eb lt p (m-(q+1)) m->P s ->
  (∀ p' m' q' s',P s'->Arr n p'->m<=m'->m'<=n->q'+1<=m'->Dn lt p' m'->Eb lt p' (m'-(q'+1)) m'->Q (p',m',q') s')->(kas_desc f p m q).kasWp cmp Q s
 | 0,p,m,q,Q,s,ar,h1,h2,hd,he,hp,h=>h p m q s hp ar (zr _) (by omega) h1 hd he
 | f+1,p,m,q,Q,s,ar,h1,h2,hd,he,hp,h=>by
  refine hc _ _ _ s (ar.lim hn _) (ar.lim hn _) hp fun s' dW=>?_;cases e:lt (p.getD m 0) (p.getD (m-1) 0) with
  | true =>
   have hd2:Dn lt p (m+1):=hd.next o (by omega) (o.as _ _ e);show(if q > 0 then kas_desc f (C8 p (m-(q+1)) m) (m+1) 0 else kas_desc f p (m+1) 0).kasWp cmp Q s'
   split
   ·refine wQ o hc hn f _ (m+1) 0 (ar.rev _ _) (by omega) (by omega) (hd2.rev o (by rw[ar.sz];omega) he (by omega)) (fun i j a b c d=>?_) dW fun p' m' q' fM a b c=>h p' m' q' fM a b (by omega)
    have e1:i=m:=by omega
    have e2:j=m:=by omega
    subst e1;subst e2;exact o.refl _
   ·refine wQ o hc hn f _ (m+1) 0 ar (by omega) (by omega) hd2 (fun i j a b c d=>?_) dW fun p' m' q' fM a b c=>h p' m' q' fM a b (by omega)
    have e1:i=m:=by omega
    have e2:j=m:=by omega
    subst e1;subst e2;exact o.refl _
  | false =>
   refine hc _ _ _ s' (ar.lim hn _) (ar.lim hn _) dW fun fM pQ=>?_;cases e2:lt (p.getD (m-1) 0) (p.getD m 0) with
   | true=>exact h p m q fM pQ ar (zr _) (by omega) h1 hd he
   | false =>
    refine wQ o hc hn f p (m+1) (q+1) ar (by omega) (by omega) (hd.next o (by omega) e2) (fun i j a b c d=>?_) pQ fun p' m' q' s3 a b c=>h p' m' q' s3 a b (by omega);have eq1:∀ x,m-(q+1)<=x->x<m->lt (gp p m) (gp p x)=false/\lt (gp p x) (gp p m)=false:=fun x x1 x2 =>
     ⟨o.tr _ _ _ (he (m-1) x (by omega) (by omega) x1 x2) e,o.tr _ _ _ e2 (he x (m-1) x1 x2 (by omega) (by omega))⟩
    by_cases c1:i=m
    ·by_cases c2:j=m
     ·subst c1;subst c2;exact o.refl _
     ·subst c1;exact(eq1 j (by omega) (by omega)).1
    ·by_cases c2:j=m
     ·subst c2;exact(eq1 i (by omega) (by omega)).2
     ·exact he i j (by omega) (by omega) (by omega) (by omega)
theorem ziz(o:Ord lt)(hc:mW lt n P cmp)(hn:0<n)(ar:Arr n p)(h1:1<=m)(hm:m<=n)(hd:Dn lt p m)(hp:P s)
  (h:∀ m' p' s',P s'->Arr n p'->1<=m'->m'<=n->Up lt p' m'->Q (m',p') s'):(kas_tail3 m n p).kasWp cmp Q s:=by
 unfold kas_tail3;rw[Eh];refine zaw o hc hn (ar.rev 0 m) (n-m) m h1 (fun i j eh hj=>?_) hp fun m' s' dW a b c _=>h m' _ s' dW (ar.rev 0 m) (by omega) (by omega) c;rw[rp (by rw[ar.sz];exact hm),rp (by rw[ar.sz];exact hm),if_pos (by omega),if_pos (by omega)];exact hd _ _ (by omega) (by omega)
theorem zfq(o:Ord lt)(hc:mW lt n P cmp)(hn:0<n)(ar:Arr n p)(hm:m+1<=n)(hd:Dn lt p (m+1))(hp:P s)
  (h:∀ m' p' s',P s'->Arr n p'->1<=m'->m'<=n->Up lt p' m'->Q (m',p') s'):(kas_descPart m n p).kasWp cmp Q s:=by
 unfold kas_descPart;rw[Eh];refine wQ o hc hn _ p (m+1) 0 ar (by omega) (by omega) hd (fun i j a b c d=>?_) hp fun p' m' q' s' dW ar' a b c eN he'=>?_
 ·have e1:i=m:=by omega
  have e2:j=m:=by omega
  subst e1;subst e2;exact o.refl _
 ·show(if q' > 0 then kas_tail3 m' n (C8 p' (m'-(q'+1)) m') else kas_tail3 m' n p').kasWp cmp Q s'
  split
  ·exact ziz o hc hn (ar'.rev _ _) (by omega) b (eN.rev o (by rw[ar'.sz];exact b) he' (zr _)) dW h
  ·exact ziz o hc hn ar' (by omega) b eN dW h
theorem zkW(o:Ord lt)(hc:mW lt n P cmp)(hn:0<n)(ar:Arr n p)(hp:P s)
  (h:∀ m' p' s',P s'->Arr n p'->1<=m'->m'<=n->Up lt p' m'->Q (m',p') s'):(kas_count n p).kasWp cmp Q s:=by
 unfold kas_count;rw[Eh];refine zaw o hc hn ar (n-1) 1 (zr _) (fun i j a b=>?_) hp fun m s' dW a b hu hl=>?_
 ·have e1:i=0:=by omega
  have e2:j=0:=by omega
  subst e1;subst e2;exact o.refl _
 by_cases c:m=n
 ·subst c
  rw[if_pos (by simp)];exact h m p s' dW ar a (zr _) hu
 ·rw[if_neg (by simpa using c)]
  have hl2:lt (gp p m) (gp p (m-1))=true:=by
   rcases hl with hl|hl
   ·omega
   ·exact hl
  by_cases c1:m > 1
  ·rw[if_pos c1]
   refine hc _ _ _ s' (ar.lim hn _) (ar.lim hn _) dW fun fM pQ=>?_;cases e:lt (p.getD 0 0) (p.getD (m-1) 0) with
   | true=>exact h m p fM pQ ar a (by omega) hu
   | false =>
    have hs:m<=p.size:=by rw[ar.sz];omega
    have all:∀ i j,i<m->j<m->lt (gp p i) (gp p j)=false:=fun i j hi hj =>
     o.tr _ _ _ (hu j (m-1) (by omega) (by omega)) (o.tr _ _ _ e (hu 0 i (AU _) hi))
    refine zfq o hc hn (ar.rev 0 m) (by omega) (fun i j eh hj=>?_) pQ h;rw[rp hs,rp hs]
    by_cases cj:j<m
    ·rw[if_pos (by omega),if_pos (by omega)]
     exact all _ _ (by omega) (by omega)
    ·have ej:j=m:=by omega
     subst ej;rw[if_neg (by omega:¬ (0<=j/\j<j))]
     split
     ·exact o.tr _ _ _ (o.as _ _ hl2) (all _ _ (by omega) (by omega))
     ·have ei:i=j:=by omega
      subst ei;exact o.refl _
  ·rw[if_neg c1]
   have e1:m=1:=by omega
   subst e1;refine zfq o hc hn ar (by omega) ?_ dW h;refine Dn.next o (fun i j eh hj=>?_) (zr _) (o.as _ _ hl2);have e1:i=0:=by omega
   have e2:j=0:=by omega
   subst e1;subst e2;exact o.refl _
theorem zc6(o:Ord lt)(hc:mW lt n P cmp)(hn:0<n){p:Array Nat}(ar:Arr n p){k:Nat}(hu:Up lt p k):∀(f l r:Nat) {Q:Nat->kb->Prop} {s:kb},l<=r->r<=k->r-l<=f ->
  (∀ i,i<l->lt (gp p k) (gp p i)=false)->(∀ i,r<=i->i<k->lt (gp p i) (gp p k)=false)->P s ->
  (∀ l' s',P s'->l'<=k->(∀ i,i<l'->lt (gp p k) (gp p i)=false)->(∀ i,l'<=i->i<k->lt (gp p i) (gp p k)=false)->Q l' s')->(kas_place p k f l r).kasWp cmp Q s
 | 0,l,r,Q,s,h1,h2,h3,a,b,hp,h=>h l s hp (by omega) a (by
   have:l=r:=by omega
   subst this;exact b)
 | f+1,l,r,Q,s,h1,h2,h3,a,b,hp,h=>by
  unfold kas_place
  by_cases c:l ≥ r
  ·rw[if_pos c]
   have:l=r:=by omega
   subst this;exact h l s hp h2 a b
  ·rw[if_neg c]
   refine hc _ _ _ s (ar.lim hn _) (ar.lim hn _) hp fun s' dW=>?_;cases e:lt (p.getD k 0) (p.getD ((l+r) / 2) 0) with
   | true =>
    refine zc6 o hc hn ar hu f l ((l+r) / 2) (by omega) (by omega) (by omega) a (fun i i1 i2=>?_) dW h;exact o.tr _ _ _ (o.as _ _ e) (hu _ _ i1 i2)
   | false =>
    refine zc6 o hc hn ar hu f ((l+r) / 2+1) r (by omega) h2 (by omega) (fun i i1=>?_) b dW h;exact o.tr _ _ _ (hu i ((l+r) / 2) (by omega) (by omega)) e
theorem zeL(o:Ord lt)(hc:mW lt n P cmp)(hn:0<n):∀(f:Nat) (p:Array Nat) (k:Nat) {Q:Array Nat->kb->Prop} {s:kb},Arr n p->k+f=n->Up lt p k->P s ->
  (∀ p' s',P s'->Arr n p'->Up lt p' n->Q p' s')->(kas_bin f p k).kasWp cmp Q s
 | 0,p,k,Q,s,ar,h1,hu,hp,h=>h p s hp ar (by
  have:k=n:=by omega
  subst this;exact hu)
 | f+1,p,k,Q,s,ar,h1,hu,hp,h=>by
  unfold kas_bin;rw[Eh];refine zc6 o hc hn ar hu k 0 k (AU _) (zr _) (by omega) (fun i hi=>by omega) (fun i a b=>by omega) hp fun l s' dW hl ha hb=>?_;have hk:k<p.size:=by rw[ar.sz];omega
  have gb:∀ i,gp (bubble p k (k-l)) i=if i=l then gp p k else if l<i/\i<=k then gp p (i-1) else gp p i:=fun i=>by
   have e:=getElem?_bubble hk (k-l) (by omega) i;rw[show k-(k-l)=l by omega]at e
   by_cases c1:i=l
   ·rw[if_pos c1]at e ⊢;exact uo e
   ·rw[if_neg c1]at e ⊢
    by_cases c2:l<i/\i<=k
    ·rw[if_pos c2]at e ⊢;exact uo e
    ·rw[if_neg c2]at e ⊢;exact uo e
  refine zeL o hc hn f _ (k+1) ⟨by rw[bubble_size];exact ar.sz,(bubble_perm _ _ _).trans ar.pm⟩ (by omega) (fun i j eh hj=>?_) dW h;rw[gb i,gb j]
  by_cases c1:i=l
  ·rw[if_pos c1]
   by_cases c2:j=l
   ·rw[if_pos c2];exact o.refl _
   ·rw[if_neg c2,if_pos (by omega)]
    exact hb _ (by omega) (by omega)
  ·rw[if_neg c1]
   by_cases c2:j=l
   ·rw[if_pos c2,if_neg (by omega)]
    exact ha _ (by omega)
   ·rw[if_neg c2]
    by_cases c3:l<i/\i<=k
    ·rw[if_pos c3,if_pos (by omega)]
     exact hu _ _ (by omega) (by omega)
    ·rw[if_neg c3]
     split
     ·exact hu _ _ (by omega) (by omega)
     ·exact hu _ _ (by omega) (by omega)
theorem ztp(o:Ord lt)(hc:mW lt n P cmp)(hn:0<n){Q:Array Nat->kb->Prop}(hp:P s)(h:∀ p s',P s'->Arr n p->Up lt p n->Q p s'):(kas_sort n).kasWp cmp Q s:=by
 unfold kas_sort;rw[Eh];refine zkW o hc hn ⟨by simp,Hd _⟩ hp fun m p s' dW ar h1 h2 hu=>?_;show(if m<n then kas_bin (n-max m 1) p (max m 1) else KasT.ret p).kasWp cmp Q s'
 split
 ·have e:max m 1=m:=by omega
  rw[e];exact zeL o hc hn _ p m ar (by omega) hu dW h
 ·have:m=n:=by omega
  subst this;exact h p s' dW ar hu
end
end L2
namespace PySem
open Spec PyProof.Rows
variable {s:kb}{prog:zu}{A:zx}{es:Array BG}{E:ir->kb->Prop}{Q:List ir->kb->Prop}{d:gV}{ep:Nat}{w:zq}
section
theorem iA.at{h h':zh}(x:iA h d es ep)(k:∀ o,h.get? d=some o->h'.get? d=some o):iA h' d es ep:=by
 obtain⟨o,e,r⟩:=x.ex;exact⟨o,k o e,r⟩
theorem zuu(hh:A.handled=none)(I d:gV)(cB:d≠I)(es:Array BG)(ep:Nat) :
  Walks prog w A I [I,d] [I] es.size (fun i v=>∃ h:i<es.size,v=es[i].key) (fun i h=>h.IsKeyIter I d i es.size ep/\iA h d es ep) where
 sub:=fun b hb=>by simp at hb;simp[hb]
 frame:=fun _ _ _ st hk=>⟨st.1.at fun o e=>hk I (by simp) o e,st.2.at fun o e=>hk d (by simp) o e⟩
 item:=fun i s Q E hi st hQ=>by
  refine zpp st.1 st.2 hi fun h' xt xC=>?_;exact hQ _ h' s.toks ⟨hi,rfl⟩ ⟨xt,st.2.at fun o e=>xC.extBut d o cB e⟩ fun b o hb e=>xC.extBut b o (fun h=>hb (by simp[h])) e
 done:=fun s Q E st hQ=>zbs hh st.1 st.2 (zr _) fun h' he'=>hQ h' s.toks fun b o hb e=>he' b o (fun h=>hb (by simp[h])) e
 self:=fun _ _ _ _ st hQ=>wpAny_pyIter_keyiter st.1 hQ
theorem zkV(hh:A.handled=none)(sy:(d==B7)=false)(hm:iA s.heap d es ep)(hn:es.size<=1000)
  (hQ:∀ s' (acc:Array ir),(∀ b o,s.heap.get? b=some o->s'.heap.get? b=some o)->s'.gens=s.gens->s'.drawn=s.drawn->s'.os=s.os->s.heap.objs.size<=s'.heap.objs.size->ItemsOf (fun i v=>∃ h:i<es.size,v=es[i].key) acc es.size->Q acc.toList s') :
  yY (yZ prog w) A (collect (.ref d)) Q E s:=by
 obtain⟨od,mw,hxd,fG⟩:=hm.ex;have dl:=zM mw;unfold collect;refine yV (wpAny_runValue (codeAny_builtin F.entry_proto_collect ?_));rw[He F.plain_proto_collect _];show yY _ A.in1 (newList [] >>= fun l=>again (.builtin "list.__iadd__" ⟨[l,.ref d],[]⟩)) _ _ s;refine yV (BK ?_);refine zi ⟨plainId_quiet F.plain_list_iadd _,codeAny_builtin F.entry_list_iadd ?_⟩;rw[He F.plain_list_iadd _];have mr:iA (s.heap.push { cls:=.type "list",data:=.seq ([]:List ir).toArray }) d es ep:=hm.at fun o e=>zI _ e;have hSd:s.heap.objs.size≠d:=Dp dl;have h1:Hf (.ref s.heap.objs.size) (.ref d)=false:=by simp[Hf,hSd]
 show yY _ A.in1 (Hg (.ref s.heap.objs.size) (.ref d) (.ref s.heap.objs.size)) _ _ _;unfold Hg;refine yV (Du (s:={ s with heap:=s.heap.push { cls:=.type "list",data:=.seq ([]:List ir).toArray } }) mr.typ ?_);rw[if_neg (by rw[h1];decide)];refine yV (znj (s:={ s with heap:=s.heap.push { cls:=.type "list",data:=.seq ([]:List ir).toArray } }) sy mr ?_);refine yV (Bc ?_);have I2:s.heap.objs.size+1=(s.heap.push { cls:=.type "list",data:=.seq ([]:List ir).toArray }).objs.size:=(DB ..).symm;have gk:iA ((s.heap.push { cls:=.type "list",data:=.seq ([]:List ir).toArray }).push { cls:=.type "dict_keyiterator",data:=.fields #[.ref d,.int 0 0,.int es.size 0,.int ep 0] }) d es ep:=mr.at fun o e=>zI _ e;have ty2:=iA.typ (s:={ s with heap:=(s.heap.push { cls:=.type "list",data:=.seq ([]:List ir).toArray }).push { cls:=.type "dict_keyiterator",data:=.fields #[.ref d,.int 0 0,.int es.size 0,.int ep 0] } }) gk;unfold Builtin.List.listLengthHint;refine yV (wpAny_specialOf ty2 F.slot_dict_len.lookup ?_);generalize hid:("dict.__len__":String)=id0
 wp_delta
 rw[show splitId id0=some ("dict","__len__") from by subst hid;decide +kernel];subst hid;refine yV (wpAny_isInstance (b:=true) ty2 (by rw[isSubtype_type];kernel_rfl) ?_);rw[if_neg (by decide)];dsimp only;rw[if_pos (by decide +kernel)];refine yV (Du ty2 ?_);refine zi ?_;rw[if_pos (by decide +kernel)];refine yV (DU ?_);unfold Builtin.List.listTouch;have hS0:((s.heap.push { cls:=.type "list",data:=.seq ([]:List ir).toArray }).push { cls:=.type "dict_keyiterator",data:=.fields #[.ref d,.int 0 0,.int es.size 0,.int ep 0] }).get? s.heap.objs.size=some (zU "list" #[] 0):=zI _ (AG _ rfl);refine yV (yV (DF hS0 rfl ?_ (AU _) (by show 1<=zt+1;omega)));have hS1:=Ei hS0 (·.push .none);refine DF hS1 rfl ?_ (by show 1<=zt;rw[AR];decide) (by show 0<=zt+1;omega);have hS2:=Ei hS1 (·.pop);have up:∀ b o,b≠s.heap.objs.size->((s.heap.push { cls:=.type "list",data:=.seq ([]:List ir).toArray }).push { cls:=.type "dict_keyiterator",data:=.fields #[.ref d,.int 0 0,.int es.size 0,.int ep 0] }).get? b=some o ->
   ((((s.heap.push { cls:=.type "list",data:=.seq ([]:List ir).toArray }).push { cls:=.type "dict_keyiterator",data:=.fields #[.ref d,.int 0 0,.int es.size 0,.int ep 0] }).update s.heap.objs.size (Ai fun x=>x.push Aj)).update s.heap.objs.size (Ai fun x=>x.pop)).get? b=some o:=fun b o hb e =>
  (((CF ..).2 b hb).trans ((CF ..).2 b hb)).trans e
 have hI:((s.heap.push { cls:=.type "list",data:=.seq ([]:List ir).toArray }).push { cls:=.type "dict_keyiterator",data:=.fields #[.ref d,.int 0 0,.int es.size 0,.int ep 0] }).get? (s.heap.push { cls:=.type "list",data:=.seq ([]:List ir).toArray }).objs.size=some { cls:=.type "dict_keyiterator",data:=.fields #[.ref d,.int 0 0,.int es.size 0,.int ep 0] }:=AG _ rfl;have neI:(s.heap.push { cls:=.type "list",data:=.seq ([]:List ir).toArray }).objs.size≠s.heap.objs.size:=by rw[<- I2];omega
 have old:∀ b o,s.heap.get? b=some o->((s.heap.push { cls:=.type "list",data:=.seq ([]:List ir).toArray }).push { cls:=.type "dict_keyiterator",data:=.fields #[.ref d,.int 0 0,.int es.size 0,.int ep 0] }).get? b=some o:=fun b o e=>zI _ (zI _ e);generalize ((((s.heap.push { cls:=.type "list",data:=.seq ([]:List ir).toArray }).push { cls:=.type "dict_keyiterator",data:=.fields #[.ref d,.int 0 0,.int es.size 0,.int ep 0] }).update s.heap.objs.size (Ai fun x=>x.push Aj)).update s.heap.objs.size (Ai fun x=>x.pop))=h5 at hS2 up ⊢;have st:h5.IsKeyIter (s.heap.push { cls:=.type "list",data:=.seq ([]:List ir).toArray }).objs.size d 0 es.size ep:=⟨_,up _ _ neI hI,rfl,rfl⟩;have da:iA h5 d es ep:=gk.at fun o e=>up d o (AD hSd) e;generalize hIa:(s.heap.push { cls:=.type "list",data:=.seq ([]:List ir).toArray }).objs.size=Ia at st neI hI ⊢;have ia:Ia=s.heap.objs.size+1:=by rw[<- hIa];exact I2.symm
 have ne:d≠Ia:=by rw[ia];exact Ao (F3 dl)
 have nS:s.heap.objs.size∉[Ia,d]:=fun h=>by
  rcases zS.mp h with c|c
  ·exact neI c.symm
  ·exact hSd (Cj.mp c)
 have W:=(zuu (prog:=prog) (w:=w) (A:=A.in1) hh Ia d ne es ep).toS;refine zi ⟨plainId_quiet F.plain_extend_loop _,codeAny_extend_loopS W (by rw[AR];omega) s.heap.objs.size nS _ es.size 0 _ _ _ rfl (AU _) ⟨st,da⟩ hS2 (ItemsOf.nil _) fun s' eS c' mv hS' xn=>?_⟩;show yY _ A (load s.heap.objs.size >>= _) _ _ s';refine yV (wpAny_load hS' ?_);refine zi (hQ s' eS (fun b o e=>?_) mv.gens mv.drawn mv.os (CM (zM hS')) xn);have lt:=zM e;have b1:b≠s.heap.objs.size:=Ao lt;have b2:b≠Ia:=by rw[ia];exact Ao (F3 lt)
 refine mv.heap b o (fun h=>?_) (up b o b1 (old b o e));rcases zS.mp h with c|c
 ·exact b1 c
 ·exact b2 (Cj.mp c)
end
end PySem
namespace L2
open PySem PySem.Spec PyProof.Rows PySem.W
variable {s:kb}{X:Cx}{pins:List (gV×zb)}{σ:L2.St}{H:Hp}
section
noncomputable def Cx.in1(X:Cx):Cx:={ X with A:=X.A.in1 }
section
theorem Cx.Ok.in1(o:X.Ok):X.in1.Ok:=⟨o.mod,o.kind,o.glob,o.blt,o.above,o.inj,o.has,o.nv,o.hd,o.frames,o.qx,o.pK,o.bs,o.jO,o.nY,o.nH,o.gO,o.kH,o.tree,o.sk⟩
theorem Cx.Ok.xZ(o:X.in1.Ok):X.Ok:=⟨o.mod,o.kind,o.glob,o.blt,o.above,o.inj,o.has,o.nv,o.hd,o.frames,o.qx,o.pK,o.bs,o.jO,o.nY,o.nH,o.gO,o.kH,o.tree,o.sk⟩
theorem Inv.in1(I:Inv X pins σ H s):Inv X.in1 pins σ H s:=⟨I.ok.in1,I.os,I.bare,I.base,I.loc,I.cell,I.free,I.fU,I.pin,I.aC,I.len⟩
theorem Inv.xZ(I:Inv X.in1 pins σ H s):Inv X pins σ H s:=⟨I.ok.xZ,I.os,I.bare,I.base,I.loc,I.cell,I.free,I.fU,I.pin,I.aC,I.len⟩
end
end
variable {v:V}{E:ir->kb->Prop}{C:Bool->kb->Prop}{u:ir}{xs:List V}{b c:gV}{k:WK}{w:List Int}
section
theorem zgU:∀ a b c:List Int,HT.lexLt b a=false->HT.lexLt c b=false->HT.lexLt c a=false
 | [],_,[],_,_=>rfl
 | [],[],_::_,_,_=>rfl
 | [],_::_,_::_,_,_=>rfl
 | _::_,[],_,h,_=>by cases h
 | _::_,_::_,[],_,h=>by cases h
 | x::xs,y::ys,z::zs,h1,h2=>by
  simp only[HT.lexLt]at h1 h2 ⊢
  by_cases c1:y=x
  ·subst c1
   rw[if_pos rfl]at h1
   by_cases c2:z=y
   ·subst c2;rw[if_pos rfl]at h2 ⊢;exact zgU xs ys zs h1 h2
   ·rw[if_neg c2]at h2 ⊢;exact h2
  ·rw[if_neg c1]at h1
   have h1':=of_decide_eq_false h1
   by_cases c2:z=y
   ·subst c2;rw[if_neg c1];exact h1
   ·rw[if_neg c2]at h2
    have h2':=of_decide_eq_false h2;rw[if_neg (by omega)];exact decide_eq_false (by omega)
theorem zcw:∀ a b:List Int,HT.lexLt a b=true->HT.lexLt b a=false
 | [],[],h=>by cases h
 | [],_::_,_=>rfl
 | _::_,[],h=>by cases h
 | x::xs,y::ys,h=>by
  simp only[HT.lexLt]at h ⊢
  by_cases c:x=y
  ·subst c;rw[if_pos rfl]at h ⊢;exact zcw xs ys h
  ·rw[if_neg c]at h
   have h':=of_decide_eq_true h;rw[if_neg (by omega)];exact decide_eq_false (by omega)
abbrev WK:=Int×List Int
def gG(p q:WK):Bool:=if p.1=q.1 then HT.lexLt p.2 q.2 else decide (p.1<q.1)
theorem zg9(a b c:WK)(h1:gG b a=false)(h2:gG c b=false):gG c a=false:=by
 unfold gG at h1 h2 ⊢
 by_cases c1:b.1=a.1
 ·rw[if_pos c1]at h1
  by_cases c2:c.1=b.1
  ·rw[if_pos c2]at h2;rw[if_pos (c2.trans c1)];exact zgU _ _ _ h1 h2
  ·rw[if_neg c2]at h2;rw[if_neg (by rw[<- c1];exact c2),<- c1];exact h2
 ·rw[if_neg c1]at h1
  have h1':=of_decide_eq_false h1
  by_cases c2:c.1=b.1
  ·rw[c2,if_neg c1];exact h1
  ·rw[if_neg c2]at h2
   have h2':=of_decide_eq_false h2;rw[if_neg (by omega)];exact decide_eq_false (by omega)
theorem zg8(a b:WK)(h:gG a b=true):gG b a=false:=by
 unfold gG at h ⊢
 by_cases c:a.1=b.1
 ·rw[if_pos c]at h;rw[if_pos c.symm];exact zcw _ _ h
 ·rw[if_neg c]at h
  have h':=of_decide_eq_true h;rw[if_neg (by omega)];exact decide_eq_false (by omega)
def nV(kd:List WK)(i j:Nat):Bool:=gG (kd.getD i (0,[])) (kd.getD j (0,[]))
theorem zhB(kd:List WK):Ord (nV kd):=⟨fun _ _ _ h1 h2=>zg9 _ _ _ h1 h2,fun _ _ h=>zg8 _ _ h⟩
def iW(H:Hp)(k:WK)(v:V):Prop:=∃ b c,v=.ref b/\cT H b [.int k.1,.ref c]/\cT H c (k.2.map V.int)
noncomputable def fB(H:Hp):List WK->List V->Prop
 | [],vs=>vs=[]
 | k::r,vs=>∃ v t,vs=v::t/\iW H k v/\fB H r t
theorem cT.same{H':Hp}(s:aA H H')(h:cT H b xs):cT H' b xs:=by
 rcases h with h|⟨o,h⟩
 ·exact .inl (s _ _ h)
 ·exact .inr ⟨o,s _ _ h⟩
theorem iW.same{H H':Hp}{k:WK}{v:V}(s:aA H H')(h:iW H k v):iW H' k v:=by
 obtain⟨b,c,e,h1,h2⟩:=h;exact⟨b,c,e,h1.same s,h2.same s⟩
theorem fB.same{H H':Hp}(s:aA H H'):∀{ks:List WK} {vs:List V},fB H ks vs->fB H' ks vs
 | [],vs,h=>h
 | k::r,vs,h=>by
  obtain⟨v,t,e,h1,h2⟩:=h;exact⟨v,t,e,h1.same s,fB.same s h2⟩
theorem fB.snoc{H:Hp}{k:WK}{v:V}(h:iW H k v):∀{ks:List WK} {vs:List V},fB H ks vs->fB H (ks++[k]) (vs++[v])
 | [],vs,e=>by
  have:vs=[]:=e;subst this;exact⟨v,[],rfl,h,rfl⟩
 | k0::r,vs,e=>by
  obtain⟨v0,t,rfl,h1,h2⟩:=e;exact⟨v0,t++[v],rfl,h1,fB.snoc h h2⟩
theorem fB.len{H:Hp}:∀{ks:List WK} {vs:List V},fB H ks vs->vs.length=ks.length
 | [],vs,e=>by
  have:vs=[]:=e;subst this;rfl
 | k0::r,vs,e=>by
  obtain⟨v0,t,rfl,h1,h2⟩:=e;simp[fB.len h2]
theorem fB.get{H:Hp}:∀{ks:List WK} {vs:List V} {i:Nat} {v:V},fB H ks vs->vs[i]?=some v->iW H (ks.getD i (0,[])) v
 | [],vs,i,v,e,h=>by
  have:vs=[]:=e;subst this;simp at h
 | k0::r,vs,i,v,e,h=>by
  obtain⟨v0,t,rfl,h1,h2⟩:=e;cases i with
  | zero=>simp at h;subst h;exact h1
  | succ i=>simpa using fB.get h2 (i:=i) (by simpa using h)
section
theorem zcu(I:Inv X pins σ H s)(h:iW H k v)(r:RelV v u) :
  ∃ b o n0 c,∃ tk:zQ,u=.ref b/\s.heap.get? b=some o/\o.cls=.type "tuple"/\o.data=.seq #[.int k.1 tk,.ref c] n0/\cT H c (k.2.map V.int):=by
 obtain⟨b,c,rfl,h1,h2⟩:=h;cases r;obtain⟨its,rv,⟨o,ho,hc,n,hd⟩,_⟩:=I.tuple (.inl h1);cases rv with
 | cons r1 rv =>
  cases rv with
  | cons r2 rv =>
   cases rv;obtain⟨tk,rfl⟩:=r1;cases r2;exact⟨b,o,n,c,tk,rfl,ho,hc,hd,h2⟩
theorem zgF(I:Inv X pins σ H s)(h:cT H c (w.map V.int)):∃ its:Array ir,BJ s.heap c its/\A9 its.toList w:=by
 obtain⟨its,rv,p,_⟩:=I.tuple (.inl h);exact⟨its.toArray,p,by simpa using intsAre_of rv⟩
theorem map_inl(w:List Int):(w.map (A6 (β:=dm))).map kV=w.map V.int:=by simp[kV]
theorem zn5(hu:X.A.units+1<Ae)(I:Inv X pins σ H s){k':WK}{v':V}{u':ir}(h:iW H k v)(h':iW H k' v')(r:RelV v u)(r':RelV v' u')
  (q:C (gG k k') s):yY (yZ X.prog X.w) X.A (keyLt' (tuples' true) u u') C E s:=by
 obtain⟨b,o,n0,c,tk,rfl,ho,hc,hd,hw⟩:=zcu I h r;obtain⟨b',o',n0',c',tk',rfl,ig,jV,eN,hw'⟩:=zcu I h' r';refine kat_lt ho hd ig eN ?_;refine kat_cons (wpAny_eqBool_int ?_);unfold gG at q
 by_cases e1:k.1=k'.1
 ·rw[if_pos e1]at q
  rw[show(k.1==k'.1)=true from by simpa using e1];refine kat_yes (kat_cons ?_);have i1:=rP (ks:=k.2.map (A6 (β:=dm))) I.aC (by rw[map_inl];exact hw);have i2:=rP (ks:=k'.2.map (A6 (β:=dm))) I.aC (by rw[map_inl];exact hw');refine wpAny_eqBool_tuple (by omega) i1 i2 ?_
  by_cases e2:k.2=k'.2
  ·rw[show decide (k.2.map (A6 (β:=dm))=k'.2.map A6)=true from by rw[e2];simp]
   refine kat_yes (kat_nil ?_);rw[e2]at q;have z:HT.lexLt k'.2 k'.2=false:=by
    cases hz:HT.lexLt k'.2 k'.2 with
    | false=>rfl
    | true=>exact hz.symm.trans (zcw _ _ hz)
   rw[z]at q;simpa using q
  ·rw[show decide (k.2.map (A6 (β:=dm))=k'.2.map A6)=false from decide_eq_false fun z=>e2 (by
    have:=congrArg (List.map (Sum.elim id fun _=>(0:Int))) z;simpa[A5,Hh] using this)]
   refine kat_no ?_;obtain⟨its,p1,j1⟩:=zgF I hw;obtain⟨gP,p2,j2⟩:=zgF I hw';exact kat_one _ _ (HT.zhb p1 p2 j1 j2 (by omega) q)
 ·rw[if_neg e1]at q
  rw[show(k.1==k'.1)=false from by simpa using e1];exact kat_no (oneLt_int q)
end
end
variable {H0:Hp}{n0 t':Nat}{h':zh}{kd:List WK}{oa:zb}{Q:kb->Prop}{a f:gV}{o:HO}{P:C6->kb->Prop}{us:List ir}
section
section
theorem Inv.adopt(I:Inv X pins σ H s)(k:∀ b u,b≠a->s.heap.get? b=some u->h'.get? b=some u)(hf:ft X pins H a)(new:cD X.prog X.w (upd H a o) h' a o) :
  Inv X pins σ (upd H a o) { s with heap:=h',toks:=t' }:=by
 obtain⟨hn,hL,hfs,h1,h2,h3⟩:=hf;have ne:∀ b u,H b=some u->b≠a:=fun b u e z=>by rw[z,hn]at e;cases e
 refine I.step (g':=s.gens) (d':=s.drawn) (ch:=[a]) (fun b hb=>?_) (fun b o _ _ hc e _=>k b o (fun z=>hc (by simp[z])) e) (fun b o _ _ hc e _=>⟨o.slots,k b o (fun z=>hc (by simp[z])) e⟩) (fun b o hc _ n=>?_)
  (fun b o hc e=>⟨o,k b o (fun z=>hc (by simp[z])) e⟩) (fun b xs e=>?_) (fun b o u e=>?_) (fun b ps e=>⟨#[],?_⟩) (fun m hm=>?_) (fun b u e=>?_) I.bare
 ·have e:b=a:=by simpa using hb
  subst e;exact⟨h1,hL,h2,h3⟩
 ·rw[aU fun z=>hc (by simp[z])];exact n
 ·rw[aU (ne b _ e)];exact e
 ·rw[aU (ne b _ e)];exact e
 ·rw[aU (ne b _ e),e];simp
 ·obtain⟨o,es,ep,ho,r⟩:=hm
  exact⟨o,es,ep,k _ o (AD hL) ho,r⟩
 ·by_cases c:b=a
  ·subst c
   rw[bU]at e;cases e;exact new
  ·rw[aU c]at e
   refine(I.aC b u e).iQ (fun d v hc q=>k d v ?_ q) (fun b' q=>by rw[aU (ne b' _ q)];exact q) fun b' xs q=>q.upd (fun _ r=>ne b' _ r) fun _ _ r=>ne b' _ r;rcases hc with z|z
   ·rw[z];exact ne b u e
   ·exact ne d _ z
variable {kS:gV}
def KCall(X:Cx)(σ:L2.St)(H0:Hp)(f:gV)(x:V)(kk:WK):Prop:=∀(u:ir) (sr:List (gV×zb)) (H':Hp) (s':kb),RelV x u->aA H0 H'->Inv X sr σ H' s' ->
 yY (yZ X.prog X.w) X.A (call (.ref f) [u]) (EP X sr σ fun k f9=>aA H' f9/\iW f9 kk k) (fun _ _=>False) s'
noncomputable def qF(X:Cx)(σ:L2.St)(H0:Hp)(f:gV):List V->List WK->Prop
 | [],kd=>kd=[]
 | x::r,kd=>∃ k t,kd=k::t/\KCall X σ H0 f x k/\qF X σ H0 f r t
theorem zii{H1 H2 H3:Hp}(a:aA H1 H2)(b:aA H2 H3):aA H1 H3:=fun c o e=>b c o (a c o e)
theorem zgG{body:ir->PUnit->Sem (ForInStep PUnit)}
  (hb:∀(x:ir) (s:kb) (C:kb->Prop),yY (yZ X.prog X.w) X.A (call (.ref f) [x]) (fun k s'=>yY (yZ X.prog X.w) X.A (Builtin.List.listUpdate (.ref kS) (·.push k)) (fun _ fM=>C fM) E s') (fun _ _=>False) s ->
   yY (yZ X.prog X.w) X.A (body x ⟨⟩) (fun r fM=>r=.yield ⟨⟩/\C fM) E s) :
  ∀(us:List ir) (xs:List V) (kd:List WK) (done:List ir) (aj:List V) (dk:List WK) (e:Nat) (H:Hp) (s:kb),Vals xs us->done.length+us.length<64->Inv X (pins++[(a,oa)]) σ H s->aA H0 H ->
   ft X (pins++[(a,oa)]) H kS->s.heap.get? kS=some (zU "list" done.toArray e)->Vals aj done->fB H dk aj->qF X σ H0 f xs kd ->
   (∀ H' s' zfw zgR e',Inv X (pins++[(a,oa)]) σ H' s'->aA H0 H'->ft X (pins++[(a,oa)]) H' kS->s'.heap.get? kS=some (zU "list" (BU zfw) e')->Vals zgR zfw->fB H' (dk++kd) zgR->Q s') ->
   yY (yZ X.prog X.w) X.A (forIn us PUnit.unit body) (fun _ s'=>Q s') E s
 | [],xs,kd,done,aj,dk,e,H,s,rv,hl,I,sm,fp,hk,rk,ks,kc,fin=>by
  rw[FX];cases rv;have:kd=[]:=kc;subst this;refine zi (fin H s done aj e I sm fp hk rk ?_);rw[BC];exact ks
 | u::us,xs,kd,done,aj,dk,e,H,s,rv,hl,I,sm,fp,hk,rk,ks,kc,fin=>by
  rw[FU];cases rv with
  | @cons x _ xr _ rx rv =>
   obtain⟨k,t,rfl,c1,kc⟩:=kc;rw[zB]at hl;have I2:Inv X ((pins++[(a,oa)])++[(kS,zU "list" done.toArray e)]) σ H s:=I.yc fun p hp=>by
    rcases AI.mp hp with z|z
    ·exact I.pin p (AK _ z)
    ·have e:p=(kS,zU "list" done.toArray e):=by simpa using z
     subst e;exact⟨hk,fp.1,fp.2.1,fp.2.2.1,fun v z=>nomatch z⟩
   refine yV (z8 (hb u s (fun s2=>∃ H2 k2 v2 e2,Inv X (pins++[(a,oa)]) σ H2 s2/\aA H H2/\ft X (pins++[(a,oa)]) H2 kS/\s2.heap.get? kS=some (zU "list" (done++[k2]).toArray e2)/\RelV v2 k2/\iW H2 k v2) ?_) (fun r s2 ⟨er,H2,k2,v2,e2,I5,qt,fp2,hk2,rk2,ka⟩=>?_) fun _ _ z=>z)
   ·refine z8 (c1 u _ H s rx sm I2) (fun k2 s3 ⟨v2,H3,I3,r3,sm3,ka⟩=>?_) fun _ _ z=>z
    obtain⟨p1,p2,_⟩:=I3.pin (kS,zU "list" done.toArray e) (AK _ (AK _ (by simp)));have hlen:done.toArray.size<64:=by rw[zW];omega
    have ea:(done.toArray).push k2=(done++[k2]).toArray:=by simp
    refine DF p1 rfl ?_ (by rw[AR];omega) (by rw[Array.size_push,AR];omega);have I4:=I3.sW;refine⟨H3,k2,v2,(if((done.toArray).push k2).size==done.toArray.size then e else e+1),I4.turned (t':=s3.toks) (fun b o hb e=>((CF ..).2 b hb).trans e) p2 fp.2.1 fp.2.2.2.1 fp.2.2.2.2.1 fp.2.2.2.2.2,sm3,⟨p2,fp.2⟩,?_,r3,ka⟩;rw[<- ea];exact Ei p1 (·.push k2)
   ·subst er
    show yY _ _ (forIn us PUnit.unit body) _ _ s2;refine zgG hb us xr t (done++[k2]) (aj++[v2]) (dk++[k]) e2 H2 s2 rv (by rw[AO,D6];omega) I5 (zii sm qt) fp2 hk2 (rk.append (.cons rk2 .nil)) (fB.snoc ka (ks.same qt)) kc fun H' s' d' kv' e' a1 a2 a3 a4 a5 a6=>fin H' s' d' kv' e' a1 a2 a3 a4 a5 ?_;rw[Dv]at a6;exact a6
theorem ziX:∀{xs:List V} {us:List ir} (p:List Nat),Vals xs us->(∀ i∈p,i<us.length)->Vals (p.map fun i=>xs.getD i .non) (p.map fun i=>us.getD i Aj)
 | xs,us,[],_,_=>.nil
 | xs,us,i::p,r,h=>by
  refine .cons ?_ (ziX p r fun j hj=>h j (z0 _ hj));have hi:=h i (Au ..);have hl:=r.length;obtain⟨w,ew,je⟩:=r.get (i:=i) (x:=xs[i]) (Af (by omega));have e1:xs.getD i .non=xs[i]:=by simp[C9,Af (show i<xs.length by omega)]
  have e2:us.getD i Aj=w:=by rw[C9,ew];rfl
  show RelV (xs.getD i .non) (us.getD i Aj);rw[e1,e2];exact je
theorem zjZ(n:Nat):Arr n (BU (A4 n)):=⟨by simp,Hd _⟩
theorem ztn(hu:X.A.units+1<Ae)(I:Inv X pins σ H s)(ho:s.heap.get? a=some (zU "list" us.toArray n0))(hf:ft X pins H a)(rv:Vals xs us)(hl:us.length<64)
  (hc:qF X σ H f xs kd)
  (hQ:∀(p:Array Nat) (H':Hp) (s':kb),Arr us.length p->Up (nV kd) p us.length->aA H H'->H' a=none->Inv X pins σ (upd H' a (.lst (p.toList.map fun i=>xs.getD i .non))) s'->P (.done (.ret .none)) s') :
  yY (yZ X.prog X.w) X.A (ksk_tree a (.ref f) false) P E s:=by
 have hk:∀{xs:List V} {kd:List WK},qF X σ H f xs kd->kd.length=xs.length:=by
  intro xs
  induction xs with
  | nil=>intro kd h;have:kd=[]:=h;subst this;rfl
  | cons x r ih=>intro kd h;obtain⟨k,t,rfl,_,h2⟩:=h;simp[ih h2]
 have hkl:=hk hc;have xG:=rv.length;have s1:=CF s.heap a (Ai fun _=>(#[]:Array ir));obtain⟨e1,ho1⟩:∃ e1,(s.heap.update a (Ai fun _=>(#[]:Array ir))).get? a=some (zU "list" #[] e1):=⟨_,Ei ho fun _=>#[]⟩;unfold ksk_tree;refine yV (listItems_at ho rfl ?_);refine yV (DF ho rfl ?_ (by rw[zW,AR];omega) (AU _));refine yV (seqEpoch_at ho1 rfl ?_);refine yV (wpAny_newTuple ?_ (by show us.length<=_;rw[AR];omega));refine yV (wpAny_newList ?_ (AU _));refine Bc ?_;have I1:Inv X pins σ H { s with heap:=s.heap.update a (Ai fun _=>(#[]:Array ir)) }:=I.turned (t':=s.toks) (fun b o hb e=>(s1.2 b hb).trans e) hf.1 hf.2.1 hf.2.2.2.1 hf.2.2.2.2.1 hf.2.2.2.2.2;have k2:∀ b u,(s.heap.update a (Ai fun _=>(#[]:Array ir))).get? b=some u->(((s.heap.update a (Ai fun _=>(#[]:Array ir))).push (zU "tuple" us.toArray 0)).push (zU "list" #[] 0)).get? b=some u:=fun b u e=>zI _ (zI _ e);have I2:Inv X pins σ H { s with heap:=((s.heap.update a (Ai fun _=>(#[]:Array ir))).push (zU "tuple" us.toArray 0)).push (zU "list" #[] 0) }:=I1.kept (t':=s.toks) k2;have ik:=k2 a _ ho1;have hkS:(((s.heap.update a (Ai fun _=>(#[]:Array ir))).push (zU "tuple" us.toArray 0)).push (zU "list" #[] 0)).get? ((s.heap.update a (Ai fun _=>(#[]:Array ir))).push (zU "tuple" us.toArray 0)).objs.size=some (zU "list" ([]:List ir).toArray 0):=AG _ rfl;have rC:s.heap.objs.size<=((s.heap.update a (Ai fun _=>(#[]:Array ir))).push (zU "tuple" us.toArray 0)).objs.size:=by rw[size_push',Heap.size_update];omega
 have I3:Inv X (pins++[(a,zU "list" #[] e1)]) σ H { s with heap:=((s.heap.update a (Ai fun _=>(#[]:Array ir))).push (zU "tuple" us.toArray 0)).push (zU "list" #[] 0) }:=I2.yc fun p hp=>by
  rcases AI.mp hp with z|z
  ·exact I2.pin p (AK _ z)
  ·have e:p=(a,zU "list" #[] e1):=by simpa using z
   subst e;exact⟨ik,hf.1,hf.2.1,hf.2.2.1,fun v z=>nomatch z⟩
 have fkS:ft X (pins++[(a,zU "list" #[] e1)]) H ((s.heap.update a (Ai fun _=>(#[]:Array ir))).push (zU "tuple" us.toArray 0)).objs.size:=by
  obtain⟨f0,f1,f2,f3,f4,f5⟩:=I.lX rC (I.aC.fresh rC);refine⟨f0,f1,f2,f3,f4,fun p hp=>?_⟩;rw[<- Dv]at hp;rcases AI.mp hp with z|z
  ·exact f5 p z
  ·have e:p=(a,zU "list" #[] e1):=by simpa using z
   subst e;exact Ao (AA (zM ho) rC)
 generalize hks:((s.heap.update a (Ai fun _=>(#[]:Array ir))).push (zU "tuple" us.toArray 0)).objs.size=kS at hkS fkS ⊢;have nka:kS≠a:=fun z=>fkS.2.2.2.2.2 (a,zU "list" #[] e1) (AK _ (AK _ (by simp))) z.symm
 clear rC hks k2 I2 I1
 unfold ksk_rest;refine yV (DU ?_)
 first
  | rw[List.forIn_toArray]
  | (rw[<- Hi];simp only[Gg])
  | rw[<- Hi]
 refine yV (z8 (zgG (E:=E) (H0:=H) (a:=a) (oa:=zU "list" #[] e1) (kS:=kS) (f:=f) (Q:=fun s'=>∃ H' done aj e',Inv X (pins++[(a,zU "list" #[] e1)]) σ H' s'/\aA H H'/\ft X (pins++[(a,zU "list" #[] e1)]) H' kS/\s'.heap.get? kS=some (zU "list" (BU done) e')/\Vals aj done/\fB H' kd aj)
  (fun x s' C hx=>?_) us xs kd [] [] [] 0 H _ rv (by simpa using hl) I3 (aA.refl _) fkS hkS .nil rfl hc fun H' s' d' kv' e' a1 a2 a3 a4 a5 a6=>⟨H',d',kv',e',a1,a2,a3,a4,a5,a6⟩) (fun _ s' hd=>?_) fun _ _ z=>z)
 ·refine yV (Ge (z8 hx (fun k fM hk=>?_) fun _ _ hF=>hF.elim))
  try dsimp only
  exact yV (z8 hk (fun _ s3 h3=>zi ⟨rfl,h3⟩) fun _ _ z=>z)
 ·obtain⟨H',done,aj,e',I4,sm,fk,hk4,rk,ks⟩:=hd
  try dsimp only
  refine yV (listItems_at hk4 rfl ?_);have hdl:done.length=us.length:=by rw[<- rk.length,ks.len,hkl,xG]
  obtain⟨pa1,pa2,_⟩:=I4.pin (a,zU "list" #[] e1) (AK _ (AK _ (by simp)));have tail:∀(st:SortSt) (p:Array Nat),Arr us.length p->Up (nV kd) p us.length->(arrOf st).map (·.2)=BU (p.toList.map fun i=>us.getD i Aj)->failedOf st=none ->
    yY (yZ X.prog X.w) X.A (ksk_tail a false e1 (.ref kS) st) P E s':=fun st p ar up har hfl=>by
   have iL:p.size=us.length:=ar.sz;have zmZ:(BU (p.toList.map fun i=>us.getD i Aj)).size=us.length:=by rw[zW,zL,Dj,iL]
   have t1:=CF s'.heap kS (Ai fun _=>(#[]:Array ir));have na1:(s'.heap.update kS (Ai fun _=>(#[]:Array ir))).get? a=some (zU "list" #[] e1):=(t1.2 a nka.symm).trans pa1;have t2:=CF (s'.heap.update kS (Ai fun _=>(#[]:Array ir))) a (Ai fun _=>BU (p.toList.map fun i=>us.getD i Aj));obtain⟨c2,i7⟩:∃ c2,((s'.heap.update kS (Ai fun _=>(#[]:Array ir))).update a (Ai fun _=>BU (p.toList.map fun i=>us.getD i Aj))).get? a=some (zU "list" (BU (p.toList.map fun i=>us.getD i Aj)) c2) :=
    ⟨_,Ei na1 fun _=>BU (p.toList.map fun i=>us.getD i Aj)⟩
   unfold ksk_tail
   try dsimp only
   rw[har];refine yV (DF hk4 rfl ?_ (by rw[zW,AR];omega) (AU _));refine yV (wpAny_letGo ?_);refine yV (seqEpoch_at na1 rfl ?_);refine yV (DF na1 rfl ?_ (AU _) (by simp only[zm,if_false];rw[zmZ,AR];omega));rw[hfl];simp only[bne_self_eq_false,zm,if_false];have I5:=I4.turned (t':=s'.toks) (fun b o hb e=>(t1.2 b hb).trans e) fk.1 fk.2.1 fk.2.2.2.1 fk.2.2.2.2.1 fk.2.2.2.2.2;have I6:Inv X pins σ H' { s' with heap:=s'.heap.update kS (Ai fun _=>(#[]:Array ir)) }:=I5.sW;refine zi (hQ p H' _ ar up sm pa2 (I6.adopt (t':=s'.toks) (fun b u hb e=>(t2.2 b hb).trans e) ⟨pa2,hf.2⟩ ?_));have mem:∀ i∈p.toList,i<us.length:=fun i hi=>by
    have:=(Fc.mp ar.pm).mem_iff.mp hi;simpa using this
   exact⟨by rw[zL,Dj,iL,AR];omega,p.toList.map fun i=>us.getD i Aj,c2,ziX p.toList rv mem,i7⟩
  unfold ksk_end
  try dsimp only
  simp only[zm,if_false]
  by_cases h2:us.toArray.size<2
  ·rw[if_pos h2,if_pos h2]
   rw[zW]at h2;refine yV (zi ?_);rw[StateT.run_pure];refine yV (zi ?_)
   try dsimp only
   refine tail _ (BU (A4 us.length)) (zjZ _) (fun i j eh hj=>?_) ?_ rfl
   ·have:i=j:=by omega
    subst this;exact(zhB kd).refl _
   ·show((done.toArray.zip us.toArray).map (·.2))=_
    apply Gh.mp;rw[Array.toList_map,ksk_zip];simp only[Gg];rw[List.map_snd_zip (by omega)];apply List.ext_getElem (by simp);intro i h3 h4;simp[C9,Af h3]
  ·rw[if_neg h2,if_neg h2]
   rw[zW]at h2;have gv:∀{ks:List WK} {kv:List V} {ds:List ir},fB H' ks kv->Vals kv ds->∃ fs:List ir,KatTups s'.heap ds fs/\fs.length=ds.length/\∀ v∈fs,∃ i t,v=CJ i t:=by
    intro ks
    induction ks with
    | nil=>intro kv ds h r;have:kv=[]:=h;subst this;cases r;exact⟨[],.nil,rfl,fun v hv=>by simp at hv⟩
    | cons k r0 ih =>
     intro kv ds h r;obtain⟨v,t,rfl,h1,h2⟩:=h;cases r with
     | cons r1 r2 =>
      obtain⟨fs,t1,t2,t3⟩:=ih h2 r2;obtain⟨b,o,n0,c,tk,rfl,g1,g2,g3,_⟩:=zcu I4 h1 r1;refine⟨.int k.1 tk::fs,.cons g1 g2 g3 rfl t1,by simp[t2],fun v hv=>?_⟩;rcases zS.mp hv with rfl|hv
      ·exact⟨_,_,rfl⟩
      ·exact t3 v hv
   obtain⟨fs,kt,lfs,hfs⟩:=gv ks rk;refine yV (kat_kind (T:=.type "int") kt (by omega) (fun v hv=>by obtain⟨i,t,rfl⟩:=hfs v hv;exact Looks.of_pure rfl) (by decide) ?_);rw[show((Df "int" != Df "tuple"):Bool)=true from by decide];refine yV (z8 (kat_run (E:=E) (vs:=us) (ks:=done) (κ:=tuples' true) (Q:=fun gJ s2=>s2=s'/\∃ p:Array Nat,Arr us.length p/\Up (nV kd) p us.length/\arrOf gJ=p.map (kas_item (done.toArray.zip us.toArray))/\failedOf gJ=none) hdl (by omega) hl
    (G:=fun p s2=>s2=s'/\Arr us.length p/\Up (nV kd) p us.length) (fun p gJ s2 a1 a2 a3 a4=>⟨a4.1,p,a4.2.1,a4.2.2,a2,a3⟩) ?_) ?_ fun _ _ z=>z)
   ·refine ztp (P:=fun s2=>s2=s') (zhB kd) (fun i j C s2 hi hj es hC=>?_) (by omega) rfl fun p s2 es ar up=>⟨es,ar,up⟩
    subst es;have uB:∀ i,i<us.length->∃ v u,aj[i]?=some v/\RelV v u/\done.getD i Aj=u:=fun i hi=>by
     have hi':i<aj.length:=by rw[rk.length];omega
     obtain⟨u,eu,ru⟩:=rk.get (Af hi');exact⟨_,u,Af hi',ru,by rw[C9,eu];rfl⟩
    obtain⟨v,u,g1,g2,g3⟩:=uB i hi;obtain⟨v',u',g1',g2',g3'⟩:=uB j hj;show yY _ _ (keyLt' (tuples' true) (done.getD i Aj) (done.getD j Aj)) _ _ _;rw[g3,g3'];exact zn5 hu I4 (ks.get g1) (ks.get g1') g2 g2' (hC _ rfl)
   ·rintro⟨⟨⟩,gJ⟩ s2 ⟨es,p,ar,up,har,hfl⟩
    have nG:s2=s':=es;subst nG
    try dsimp only
    exact tail gJ p ar up (kat_snds hdl har) hfl
end
end
variable {A:zx}{Q:List ir->kb->Prop}
section
def vY(H:Hp):List (List Key×V)->List V->Prop
 | [],xs=>xs=[]
 | kv::r,xs=>∃ b t,xs=.ref b::t/\cT H b (kv.1.map kV)/\vY H r t
def sX(H:Hp)(d:gV)(xs:List V):Prop:=∃ aj,Rd H d (.dT aj)/\vY H aj xs
section
variable {d:gV}
theorem zgQ:∀{aj:List (List Key×V)} {ys:List (List Key×gV×ir)},KT H aj ys->vY H aj (ys.map fun y=>V.ref y.2.1)
 | [],_,.nil=>rfl
 | kv::r,_,.cons h t=>⟨_,_,rfl,h.2.1,zgQ t⟩
theorem zkU(hh:A.handled=none)(I:Inv X pins σ H s)(rd:vW H d)(hn:∀ xs,sX H d xs->xs.length<64)
  (hQ:∀ xs us s',sX H d xs->Vals xs us->Inv X pins σ H s'->Q us s'):yY (yZ X.prog X.w) A (collect (.ref d)) Q E s:=by
 have fin:∀(s':kb),(∀ b o,s.heap.get? b=some o->s'.heap.get? b=some o)->s'.gens=s.gens->s'.drawn=s.drawn->s'.os=s.os->Inv X pins σ H s':=fun s' k g dr os=>by
  obtain⟨h,g',dr',tk,os'⟩:=s';simp only at g dr os;subst g;subst dr;subst os
  exact I.kept (t':=tk) k
 obtain⟨aj,rd⟩:=rd;obtain⟨z,sy,ys,kt,o,es,ep,e',r1,r2,r3,r4⟩:=t9 I.aC rd;have ks:=zgQ kt;have lk:=hn _ ⟨aj,rd,ks⟩;have ly:aj.length=ys.length:=Ew kt;have hsz:es.size=ys.length:=size_of_entries r3;rw[zL]at lk;refine zkV hh sy ⟨o,e',r1,r2⟩ (by omega) fun s' acc hk hg hd ho hs xn=>hQ _ _ s' ⟨aj,rd,ks⟩ ?_ (fin s' hk hg hd ho);have la:acc.toList.length=es.size:=by rw[Dj];exact xn.1
 refine ziV (by rw[zL];omega) fun j x v ex ev=>?_;rw[Fd]at ev;obtain⟨hj,rfl⟩:=xn.2 j v ev;have lj:j<ys.length:=by omega
 rw[AH,Af lj]at ex;cases ex;have:=entry_at r3 j;rw[Af lj,EX hj]at this;simp only[Bi,Bh]at this;rw[this]
 rfl
theorem zkL{Q:VK}(hu:X.A.units+3<Ae)(hc:X.calm=true)(I:Inv X pins σ H s)(rd:vW H d)(hn:∀ xs,sX H d xs->xs.length<64)
  (h:∀ xs,sX H d xs->∃ kd,qF X.in1.in1 σ H f xs kd/\∀(p:Array Nat) (a:gV) (H':Hp),Arr xs.length p->Up (nV kd) p xs.length->aA H H'->H' a=none->Q (.ref a) (upd H' a (.lst (p.toList.map fun i=>xs.getD i .non)))) :
  yY (yZ X.prog X.w) X.A (call (.builtin "sorted") [.ref d] [(zj "key",.ref f)]) (EP X pins σ Q) E s:=by
 refine call_function_entry_kw kind_sorted plain_sorted entry_sorted (ksk_s1 _ _) ?_;unfold Bo.«sorted»;refine yV (m:=checkCount "sorted" 1 1 _) (zi ?_);refine yV (zkU (show X.A.in1.handled=none from I.ok.hd hc) I rd hn fun xs us s1 dk rv I1=>?_);have hx:=hn xs dk;have xG:=rv.length;obtain⟨kd,kc,hq⟩:=h xs dk;refine yV (wpAny_newList ?_ (by rw[AR];omega));have xx:(s1.heap.push (zU "list" us.toArray 0)).get? s1.heap.objs.size=some (zU "list" us.toArray 0):=AG _ rfl;have I2:Inv X pins σ H { s1 with heap:=s1.heap.push (zU "list" us.toArray 0) }:=I1.kept (t':=s1.toks) fun b u e=>zI _ e;have fa:ft X pins H s1.heap.objs.size:=I1.lX (zr _) (I1.aC.fresh (zr _));refine yV (Bc (wpAny_call_entry_kw slot_list_sort ⟨_,xx,rfl⟩ entry_list_sort ?body (ksk_l1 _ _)))
 case body =>
  show yY (yZ X.prog X.w) X.in1.in1.A (Bo.«list.sort» ⟨[.ref s1.heap.objs.size],[(zj "key",.ref f)]⟩) _ _ _;rw[ksk_t1];refine ztn (X:=X.in1.in1) (by show X.A.units+1+1+1<Ae;omega) I2.in1.in1 xx fa rv (by omega) kc fun p H' s' ar up sm ha I3=>⟨_,rfl,?_⟩;refine zi ⟨_,rfl,.ref s1.heap.objs.size,_,I3.xZ.xZ,rfl,hq p _ H' (by rw[xG];exact ar) (by rw[xG];exact up) sm ha⟩
end
end
end L2
namespace FL
open PySem L2 PySem.Spec
open PyProof.Rows hiding St
variable [Cs]
variable {l:List (WK×D)}{ws:List WK}{p:Array Nat}{ks:List D}
theorem zha(p q:WK):uO p q=L2.gG p q:=by
 unfold uO L2.gG;rw[zcv]
theorem zgT:∀ a b:List Int,HT.lexLt a b=false->HT.lexLt b a=false->a=b
 | [],[],_,_=>rfl
 | [],_::_,h,_=>by cases h
 | _::_,[],_,h=>by cases h
 | x::xs,y::ys,h1,h2=>by
  simp only[HT.lexLt]at h1 h2
  by_cases c:x=y
  ·subst c
   rw[if_pos rfl]at h1 h2;rw[zgT xs ys h1 h2]
  ·rw[if_neg c]at h1
   rw[if_neg (AD c)]at h2;have a1:=of_decide_eq_false h1;have a2:=of_decide_eq_false h2
   omega
theorem zo0(p q:WK)(h1:L2.gG p q=false)(h2:L2.gG q p=false):p=q:=by
 unfold L2.gG at h1 h2
 by_cases c:p.1=q.1
 ·rw[if_pos c]at h1
  rw[if_pos c.symm]at h2;exact Prod.ext c (zgT _ _ h1 h2)
 ·rw[if_neg c]at h1
  rw[if_neg (AD c)]at h2;have a1:=of_decide_eq_false h1;have a2:=of_decide_eq_false h2
  omega
def vZ(x y:WK×D):Prop:=L2.gG y.1 x.1=false
theorem zm6{x z:WK×D}(h:z∈jX x l):z=x\/z∈l:=by
 have:=(zco x l).mem_iff.mp h;simpa using this
theorem zgq(x:WK×D):∀ l:List (WK×D),l.Pairwise vZ->(jX x l).Pairwise vZ
 | [],_=>by simp[jX]
 | y::r,h=>by
  unfold jX;rw[Ej]at h
  split
  ·rename_i c
   rw[zha]at c;rw[Ej];refine⟨fun z hz=>?_,zgq x r h.2⟩;rcases zm6 hz with rfl|hz
   ·exact zg8 _ _ c
   ·exact h.1 z hz
  ·rename_i c
   rw[zha]at c;have c':L2.gG y.1 x.1=false:=by simpa using c
   rw[Ej];refine⟨fun z hz=>?_,Ej.mpr h⟩;rcases zS.mp hz with rfl|hz
   ·exact c'
   ·exact zg9 _ _ _ c' (h.1 z hz)
theorem zgx:∀ l:List (WK×D),(nO l).Pairwise vZ
 | []=>.nil
 | x::r=>zgq x _ (zgx r)
theorem zhL{α:Type}{le:α->α->Prop}:∀{l1 l2:List α},l1.Perm l2->l1.Pairwise le->l2.Pairwise le->(∀ a∈l1,∀ b∈l1,le a b->le b a->a=b)->l1=l2
 | [],l2,h,_,_,_=>(List.nil_perm.mp h).symm
 | a::r1,[],h,_,_,_=>by have:=h.length_eq;simp at this
 | a::r1,b::r2,h,p1,p2,an=>by
  rw[Ej]at p1 p2;have e:a=b:=by
   have ha:a∈b::r2:=h.mem_iff.mp (Au ..);have hb:b∈a::r1:=h.mem_iff.mpr (Au ..);rcases zS.mp ha with e|ha'
   ·exact e
   rcases zS.mp hb with e|kJ
   ·exact e.symm
   exact an a (Au ..) b (z0 _ kJ) (p1.1 b kJ) (p2.1 a ha')
  subst e;rw[zhL ((List.perm_cons a).mp h) p1.2 p2.2 fun x hx y hy=>an x (z0 _ hx) y (z0 _ hy)]
theorem zi8:∀{ws:List WK} {ks:List D} {x y:WK×D},ws.Nodup->x∈ws.zip ks->y∈ws.zip ks->x.1=y.1->x=y
 | [],ks,x,y,_,h,_,_=>by simp at h
 | _::_,[],x,y,_,h,_,_=>by simp at h
 | w::ws,k::ks,x,y,nd,h1,h2,e=>by
  rw[Bm]at nd;rw[AQ]at h1 h2;rcases zS.mp h1 with rfl|h1
  ·rcases zS.mp h2 with rfl|h2
   ·rfl
   ·exact absurd (by rw[show w=y.1 from e];exact(DY h2).1) nd.1
  ·rcases zS.mp h2 with rfl|h2
   ·exact absurd (by rw[show w=x.1 from e.symm];exact(DY h1).1) nd.1
   ·exact zi8 nd.2 h1 h2 e
theorem zsF(ws:List WK)(ks:List D)(h:ws.length=ks.length):(A4 ks.length).map (fun i=>(ws.getD i (0,[]),ks.getD i Cq))=ws.zip ks:=by
 apply List.ext_getElem
 ·simp[h]
 ·intro i h1 h2
  have hi:i<ks.length:=by simpa using h1
  have hi':i<ws.length:=by omega
  simp[C9,Af hi,Af hi']
theorem zto(hl:ws.length=ks.length)(nd:ws.Nodup)(ar:Arr ks.length p)(up:Up (nV ws) p ks.length):p.toList.map (fun i=>ks.getD i Cq)=(nO (ws.zip ks)).map (·.2):=by
 have hp:(p.toList.map fun i=>(ws.getD i (0,[]),ks.getD i Cq)).Perm (ws.zip ks):=by
  have:=(Fc.mp ar.pm).map fun i=>(ws.getD i (0,[]),ks.getD i Cq);rw[Gg,zsF ws ks hl]at this;exact this
 have e:(p.toList.map fun i=>(ws.getD i (0,[]),ks.getD i Cq))=nO (ws.zip ks):=by
  refine zhL (hp.trans (zgw _).symm) ?_ (zgx _) fun x hx y hy h1 h2=>?_
  ·rw[List.pairwise_iff_getElem]
   intro i j hi hj eh;have hi':i<p.size:=by simpa using hi
   have rE:j<p.size:=by simpa using hj
   have:=up i j (CM eh) (by rw[<- ar.sz];exact rE);rw[show gp p i=p[i] by simp[gp,Fb,hi'],show gp p j=p[j] by simp[gp,Fb,rE]]at this;simpa[vZ,nV] using this
  ·exact zi8 nd (hp.mem_iff.mp hx) (hp.mem_iff.mp hy) (zo0 _ _ h2 h1)
 rw[<- e,A5]
 rfl
variable {v:V}{X:Cx}{xs:List V}{H:Hp}{kd:D}{d:gV}{e:yW}{f:EF}{G:List D->R D}{aj:List (D×D)}{w:WK}
section
variable {K:yU}
theorem zgP:∀{aj:List (D×D)} {kk:List (List Key×V)} {xs:List V},bJ K H aj kk->vY H kk xs->aq K H (aj.map (·.1)) xs
 | [],kk,xs,h,t=>by
  simp only[bJ]at h;subst h;have:xs=[]:=t;subst this;simp[aq]
 | (k,d)::r,kk,xs,h,t=>by
  simp only[bJ]at h;obtain⟨q,v,t',rfl,rfl,f,h2⟩:=h;obtain⟨b,u,rfl,tb,t2⟩:=t;simp only[zE,aq];exact⟨_,_,rfl,zmn tb,zgP h2 t2⟩
theorem zaV(h:Fz K H (.dict aj) (.ref d))(t:sX H d xs):aq K H (aj.map (·.1)) xs:=by
 simp only[Fz]at h;obtain⟨a,o,e,h⟩:=h;cases e;obtain⟨kk,h1,h2⟩:=h;obtain⟨kk',rd,t⟩:=t;have:kk'=kk:=by
  rcases rd with z|⟨o',z⟩
  ·rw[h1]at z;cases z
  ·rw[h1]at z;cases z;rfl
 subst this;exact zgP h2 t
theorem zml(h:Fz K H (.dict aj) (.ref d)):vW H d:=by
 simp only[Fz]at h;obtain⟨a,o,e,h⟩:=h;cases e;obtain⟨kk,h1,h2⟩:=h;exact⟨kk,.inr ⟨o,h1⟩⟩
theorem zuz(e:yS kd=some w)(f:Fz K H kd v):iW H w v:=by
 unfold yS at e
 split at e
 ·rename_i n xs
  rw[BE]at e;obtain⟨w0,e0,rfl⟩:=e;simp only[Fz,aq]at f;obtain⟨b,vs,rfl,tb,v1,r1,rfl,rfl,v2,r2,rfl,⟨c,ws,rfl,tc,fw⟩,rfl⟩:=f;obtain⟨rfl,_⟩:=aq.ints fw e0;exact⟨b,c,rfl,tb,tc⟩
 ·cases e
theorem zgE{p1:dm}{k:Nat}{f:gV}{fd:Ah}{G:List D->R D}{σ:L2.St}(hr:aZ k X.A)(hb:Binds X.K fd [p1] [])(F:dJ X.prog X.w X.K X.mg X.base (cR X.prog X.w) k f fd [p1] (gW X.K 1 false G))(cst:jI H) :
  ∀{ds:List D} {xs:List V} {ws:List WK},aq X.K H ds xs->pU G ds=.ok ws->qF X σ H f xs ws
 | [],xs,ws,h,e=>by
  simp only[aq]at h;subst h;cases e
  rfl
 | d::ds,xs,ws,h,e=>by
  simp only[aq]at h;obtain⟨v,r,rfl,h1,h2⟩:=h;obtain⟨kd,e1,e⟩:=bM (show(G [d]).bind _=.ok ws from e);obtain⟨w,e2,e⟩:=bM e;obtain⟨ws',e3,e⟩:=bM e;cases e;refine⟨w,ws',rfl,fun u sr H' s' ru sm I=>?_,zgE hr hb F cst h2 e3⟩;have hl:([u]++([]:List ir)).length=[p1].length:=rfl;refine DW (Dr (F.run X.A X.stack s' H' ⟨[u],[]⟩ ([u]++[]) [v] (fun k f9=>aA H' f9/\iW f9 w k) (fun _ _ _=>False) hr I.ud (hb s' [u] I.eO hl) (.cons ru .nil) ?_) fun r s2 hq=>?_)
  ·refine⟨[d],rfl,cst.mono (aF.of sm),?_,kd,e1,fun k f9 qt fz=>⟨qt,zuz (si e2) fz⟩⟩
   simp only[aq];exact⟨v,[],rfl,h1.mono (aF.of sm),rfl⟩
  ·cases r with
   | error ev =>
    obtain⟨_,_,_,_,_,_,_,_,_,_,_,_,_,_,_,z⟩:=(show cR X.prog X.w X.stack H' s' (fun _ _ _=>False) ev s2 from hq);exact z.elim
   | ok fl =>
    cases fl with
    | ret u=>exact I.after hq
    | next=>exact Av hq
    | brk=>exact Av hq
    | cont=>exact Av hq
theorem aq.pick{ds:List D}{xs:List V}(h:aq K H ds xs):∀(p:List Nat),(∀ i∈p,i<ds.length)->aq K H (p.map fun i=>ds.getD i Cq) (p.map fun i=>xs.getD i .non)
 | [],_=>by simp[aq]
 | i::p,hp=>by
  simp only[zE,aq];have hi:=hp i (Au ..);obtain⟨v,ev,fv⟩:=h.get (Af hi);refine⟨_,_,rfl,?_,aq.pick h p fun j hj=>hp j (z0 _ hj)⟩;rw[C9,C9,ev,Af hi];exact fv
theorem zdb{x p1:dm}{k j:Nat}{p px kp pos:zc}(c:Callee X.prog X.w X.K X.mg X.base x k [p1] (gW X.K 1 false G))(hr:aZ j X.A)(hc:X.calm=true)(hgs:Gl X "sorted")(hms:X.mg "sorted"=none)(hgx:Gl X x)(he:PV K X e f)(hj:k+2<=j:=by decide)
  (hv:Ad "sorted"=some (.builtin "sorted"):=by decide +kernel) (hdx:(x==("__debug__":dm))=false:=by decide) (hs:yX [e] X.env=(false,zk e X.env)::yX [] X.env:=by exact FL.se rfl)
  (cq:zK pos (yX [e] X.env)=(false,zk e X.env)::zK pos (yX [] X.env):=by rfl) (bu:(zK pos (yX [e] X.env)).any (·.1)=false:=by exact FL.sp rfl) :
  bw K X (.Call (.Name "sorted" p) [e] [⟨some "key",.Name x px,kp⟩] pos) (e1 (mS G) f):=.mk fun hK=>by
 subst hK;obtain⟨fa,fd,hm,hkp,hb,F⟩:=c;intro pins s σ H Q I h;obtain⟨ρ,rel,q⟩:=h;have q0:(tA X.K (aa f af)) σ H fun vs H1=>∃ dd v ρ1,vs=[v]/\Rel X.K ρ1 σ H1/\cA ρ ρ1 σ H H1/\Fz X.K H1 dd v/\Good X.K ρ1 σ H1 ((mS G dd).bind fun d=>.ok (d,ρ1)) fun d ρ' H'=>∀ a,H a=none->cv X.K H' a d->Q (.ref a) H':=by
  obtain⟨y,ey,q⟩:=q.ck;refine⟨ρ,rel,?_⟩;show Good X.K ρ σ H ((f ρ).bind fun x=>(af x.2).bind fun y=>.ok (x.1::y.1,y.2)) _;rw[ey];intro H1 au aY vs fs;simp only[aq]at fs;obtain⟨v,r,rfl,fv,rfl⟩:=fs;exact⟨y.1,v,y.2,rfl,au,aY,fv,q.step aY⟩
 refine DX (rQ I hgs hms hv ?_);refine callWith_kw (aT ((bW he mO hs rfl) pos pins s σ H _ I q0) fun us s1 ⟨vs,H1,I1,r1,dd,v,ρ1,evs,au,aY,fv,q1⟩=>?_) cq bu rfl rfl;subst evs;cases r1 with
 | cons ru rn =>
  cases rn;refine kws_cons (rT I1 hgx hm (kws_nil ?_) hdx);obtain⟨dr,lU,q2⟩:=q1.bV;obtain⟨ks,e1,lU⟩:=bM (show(ip dd).bind _=.ok dr from lU);obtain⟨cl,lU⟩:=cJ lU;obtain⟨ws,e2,lU⟩:=bM lU;obtain⟨cn,lU⟩:=cJ lU;cases lU;cases dd with
  | dict aj =>
   cases e1;have hd:∃ d,v=.ref d:=by
    simp only[Fz]at fv;obtain⟨a,_,e,_⟩:=fv;exact⟨a,e⟩
   obtain⟨d,rfl⟩:=hd;cases ru;have hlen:(aj.map (·.1)).length<64:=dX cl;have hu:=hr.un;have hu:X.A.units+3<Ae:=by omega
   have rr:aZ k X.in1.in1.A:=((hr.mono hj:aZ (k+1+1) X.A).in1).in1;have zuA:∀{ds:List D} {ws:List WK},pU G ds=.ok ws->ws.length=ds.length:=by
    intro ds
    induction ds with
    | nil=>intro ws h;cases h;rfl
    | cons d0 r0 ih =>
     intro ws h;obtain⟨_,_,h⟩:=bM (show(G [d0]).bind _=.ok ws from h);obtain⟨_,_,h⟩:=bM h;obtain⟨ws',e3,h⟩:=bM h;cases h;simp[ih e3]
   have wl:=zuA e2;refine zkL (f:=fa) hu hc I1 (zml fv) (fun xs dk=>by rw[(zaV fv dk).len];exact hlen) fun xs dk=>⟨ws,zgE (X:=X.in1.in1) rr hb F au.cst (zaV fv dk) e2,fun pp a H' ar up sm ha=>?_⟩;have fx:=zaV fv dk;rw[fx.len]at ar up;have su:=zto wl (of_decide_eq_true cn) ar up;have qt:aA H1 (upd H' a (.lst (pp.toList.map fun i=>xs.getD i .non))):=zii sm (aA.upd ha);refine q2.new au qt a ?_ ?_
   ·have h1a:H1 a=none:=by
     cases e0:H1 a with
     | none=>rfl
     | some o=>rw[sm a o e0]at ha;cases ha
    exact aY.old au h1a
   ·refine⟨_,bU,?_⟩
    rw[<- su];refine(fx.mono (aF.of qt)).pick pp.toList fun i hi=>?_;have:=(Fc.mp ar.pm).mem_iff.mp hi;simpa using this
  | _=>cases e1
end
end FL
namespace L2
open PySem PySem.Spec PyProof.Rows PySem.W
end L2
namespace FL
open PySem L2 PySem.Spec
open PyProof.Rows hiding St
variable {X:Cx}{pos:zc}
section
variable [Cs]
section
variable {K:yU}{e ke ve:yW}{f k v:EF}{p2:zc}
theorem zhz(hu:X.A.units+80<Ae):aW X (zF .In) (rD X.K i9):=by
 intro pins s σ H x y v u Q I rx ry h;obtain⟨dx,dy,d,tx,ty,e,q⟩:=h;cases dy with
 | list xs =>
  obtain⟨c,e⟩:=cJ (show aN _ _=.ok d from e);cases e;rw[zX]at c;obtain⟨as,ra⟩:=Is.reads I _ y u (ty.is (BF c.1)) ry;obtain⟨bs,rb⟩:=Is.reads I _ x v (tx.is (BF c.2)) rx;exact SeqAt.in_list_reads ra rb (BF c.1) (BF c.2) (room_in_shaped c.2 (by omega)) ⟨.bl _,H,I,rfl,q _ H (aA.refl _) (by simp[Fz])⟩
 | tuple xs =>
  obtain⟨c,e⟩:=cJ (show aN _ _=.ok d from e);cases e;rw[zX]at c;obtain⟨as,ra⟩:=Is.reads I _ y u (ty.is (BF c.1)) ry;obtain⟨bs,rb⟩:=Is.reads I _ x v (tx.is (BF c.2)) rx;exact SeqAt.in_tuple_reads ra rb (BF c.1) (BF c.2) (room_in_shaped c.2 (by omega)) ⟨.bl _,H,I,rfl,q _ H (aA.refl _) (by simp[Fz])⟩
 | _=>exact nomatch (show(R.bad:R D)=.ok d from e)
end
end
variable {loose:List dm}{u:HO}{vs:List ir}{YP:zq->zh->Prop}{a b f:gV}{l:Gi}{s₁:kb}{q x:dm}{mg:dm->Option ir}{k:Nat}{cs:List gV}{cl:CL}{CX:jg}{fd:Ah}{d:DefRec}{h:zh}{o:zb}{P:zu}{cd:ir}{G:List D->R D}{ns:List Int}{w:zq}
section
noncomputable def aO(cs:List gV)(K:yU):yU:=K.filter fun p=>!cs.contains p.1
theorem wN(cs:List gV):∀(K:yU) (b:gV),(aO cs K).lookup b=if cs.contains b=true then none else K.lookup b
 | [],b=>by simp[aO]
 | (c,o)::K,b=>by
  have ih:=wN cs K b;unfold aO at ih ⊢;rw[List.filter_cons]
  by_cases hc:cs.contains c=true
  ·rw[if_neg (by simp only[hc];decide),ih]
   by_cases hb:cs.contains b=true
   ·rw[if_pos hb,if_pos hb]
   ·have ne:b≠c:=fun z=>by rw[z]at hb;exact hb hc
    rw[if_neg hb,if_neg hb];simp[zJ,show(b==c)=false from by simpa using ne]
  ·have jV:cs.contains c=false:=by simpa using hc
   rw[if_pos (by simp only[jV];decide)]
   by_cases e:b=c
   ·subst e
    rw[if_neg hc];simp[zJ]
   ·have e':(b==c)=false:=by simpa using e
    rw[zJ,zJ,e'];exact ih
theorem zfi{K:yU}(x:K.In h):(aO cs K).In h:=fun a o e=>by
 rw[wN]at e
 split at e
 ·cases e
 ·exact x a o e
def dQ(cs:List gV)(K:yU):Prop:=∀ c∈cs,∃ o its n,K.lookup c=some o/\o.data=Data.seq its n
theorem jr{K:yU}(s:dQ cs K)(e:K.lookup b=some o)(n:∀ its m,o.data≠.seq its m):(aO cs K).lookup b=some o:=by
 rw[wN,if_neg,e];intro c;obtain⟨o',its,m,e',d⟩:=s b (by simpa using c);rw[e]at e';cases e';exact n _ _ d
theorem zkT{K:yU}(s:dQ cs K)(h:Cz K cd q=true):Cz (aO cs K) cd q=true:=by
 cases cd with
 | ref c =>
  unfold Cz at h ⊢;cases e:K.lookup c with
  | none=>simp only[e]at h;cases h
  | some o =>
   obtain⟨oc,od,data,sl⟩:=o;cases data with
   | fields vs =>
    simp only[e]at h;simp only[jr s e fun _ _ z=>nomatch z];exact h
   | _=>simp only[e]at h;cases h
 | _=>cases h
theorem fA.cut{K:yU}(s:dQ cs K){st:zy}(F:fA K x q st f fd):fA (aO cs K) x q st f fd:=by
 obtain⟨⟨oc,od,kV,doc,pm,an,aG,ct,gR,e,l,c⟩,kp⟩:=F;have l':=jr s l fun _ _ z=>nomatch z;refine⟨⟨oc,od,kV,doc,pm,an,aG,ct,gR,e,l',zkT s c⟩,?_⟩;unfold CV;simp only[l']
theorem aP.cut{cs:List gV}{K:yU}{mg:dm->Option ir}(s:dQ cs K){x:dm}{st:zy}(h:aP K mg x st):aP (aO cs K) mg x st:=by
 obtain⟨f,fd,hm,F⟩:=h;exact⟨f,fd,hm,fA.cut s F⟩
abbrev CL:=List (gV×zb×List V)
noncomputable def gD(cl:CL):Hp:=fun b=>(cl.lookup b).map fun p=>.frz p.1 (.tup p.2)
theorem zmK(cl:CL)(a:gV)(u:HO)(h:gD cl a=some u):∃ o xs,u=.frz o (.tup xs):=by
 unfold gD at h;rw[BE]at h;obtain⟨p,_,rfl⟩:=h;exact⟨_,_,rfl⟩
@[reducible] def qW(cl:CL)(ob:String->Option (gV×List dm):=fun _=>none)(xb:String->Option (gV×List dm):=fun _=>none):Cs:={ C:=gD cl,st:=zmK cl,O:=ob,X:=xb }
def gK(cl:CL)(K:yU):Prop:=∀ p∈cl,K.lookup p.1=some p.2.1/\p.2.1.cls=.type "tuple"/\p.2.2.length<=zt/\∃(its:Array ir) (n:Nat),p.2.1.data=.seq its n/\Vals p.2.2 its.toList
theorem gK.nil{K:yU}:gK [] K:=fun p hp=>by simp at hp
theorem gK.cons{K:yU}{a:gV}{od:Option gV}{its:Array ir}{n:Nat}{sl:Array (Option ir)}{xs:List V}{cl:CL}(e:K.lookup a=some ⟨.type "tuple",od,.seq its n,sl⟩)(hv:Vals xs its.toList)(hl:xs.length<=1000)(r:gK cl K):gK ((a,⟨.type "tuple",od,.seq its n,sl⟩,xs)::cl) K:=fun p hp=>by
 rcases zS.mp hp with rfl|hp
 ·exact⟨e,rfl,CM (ztl hl),its,n,rfl,hv⟩
 ·exact r p hp
theorem gK.aV{K:yU}(h:gK cl K):dQ (cl.map (·.1)) K:=fun c hc=>by
 obtain⟨p,hp,rfl⟩:=zZ.mp hc;obtain⟨e,_,_,its,n,d,_⟩:=h p hp;exact⟨_,its,n,e,d⟩
theorem mem_of_lookup{α:Type}:∀{l:List (gV×α)} {a:gV} {x:α},l.lookup a=some x->(a,x)∈l
 | [],a,x,h=>by simp at h
 | (b,y)::r,a,x,h=>by
  rw[zJ]at h;cases e:a==b with
  | true =>
   rw[e]at h;cases h;have:=eq_of_beq e;subst this;exact Au ..
  | false =>
   rw[e]at h;exact z0 _ (mem_of_lookup h)
theorem rA{K:yU}(h:gK cl K)(e:gD cl b=some u):(aO (cl.map (·.1)) K).lookup b=none/\∃(o:zb) (xs:List V) (its:Array ir) (n:Nat),u=.frz o (.tup xs)/\K.lookup b=some o/\o.cls=.type "tuple"/\o.data=.seq its n/\xs.length<=zt/\Vals xs its.toList:=by
 unfold gD at e;rw[BE]at e;obtain⟨⟨o,xs⟩,el,rfl⟩:=e;have m:=mem_of_lookup el;obtain⟨h1,h2,h3,its,n,h4,h5⟩:=h _ m;refine⟨?_,o,xs,its,n,rfl,h1,h2,h4,h3,h5⟩;rw[wN,if_pos];have:b∈cl.map (·.1):=zZ.mpr ⟨_,m,rfl⟩;simpa using this
theorem zoG{K:yU}{mb:dm->Option ir}{fa:gV}{sp:Sp}
  (KX:K.In s₁.heap)(hC:gK cl K)(hns:s₁.heap.Ns zv mg)(hb:s₁.heap.Ns Ex mb)(uq:∀ x:dm,x ≠ "__name__"->mb x=Ad x) (zmV:s₁.heap.NoLimit) (xD:s₁.heap.NoSeer) (uF:P.given.tree=none) (hg:s₁.gens=#[])
  (ha:s₁.heap.get? a=some { cls:=.type "list",data:=.seq vs.toArray }) (hi:A9 vs ns) (hl:ns.length<=zt) (hr:aZ k C3)
  (F:∀ base:zh,(aO (cl.map (·.1)) K).In base->base.Ns zv mg->dJ P w (aO (cl.map (·.1)) K) mg base CX k fa fd [x] sp) (zmI:∀(s:kb) (u:ir),Dq s fd ⟨[u],[]⟩ [(x,u)])
  (nN:∀ H:Hp,(∀ b xs,H b≠some (.lst xs))->(∀ b u,gD cl b=some u->H b=some u)->cw (aO (cl.map (·.1)) K) H a (ns.map V.int)->sp [.ref a] H (fun v _=>v=.bl true) fun _ _ _=>False)
  (hCX:∀ H e s',CX [] H s₁ (fun _ _ _=>False) e s'->False) :
  BA (yZ P w) C3 (.call (.ref fa) ⟨[.ref a],[]⟩) (fun r s'=>r=.ok (.ret (.bool true))/\OldK s₁.heap s'.heap/\s'.os=s₁.os/\BX s'.gens) s₁:=by
 have rv:=ziW hi;have zoL:=hi.length;have core:∀ H:Hp,(∀ b u,H b=some u->∃ o v,u=.frz o v/\o.cls≠.type "module"/\∀ es ep,o.data≠.dict es ep)->(∀ b xs,H b≠some (.lst xs))->(∀ b u,gD cl b=some u->H b=some u)->cw (aO (cl.map (·.1)) K) H a (ns.map V.int)->cu P w H s₁.heap->(∀ b,H b≠none->(aO (cl.map (·.1)) K).lookup b=none) ->
   BA (yZ P w) C3 (.call (.ref fa) ⟨[.ref a],[]⟩) (fun r s'=>r=.ok (.ret (.bool true))/\OldK s₁.heap s'.heap/\s'.os=s₁.os/\BX s'.gens) s₁:=by
  intro H hO hL kK hS aC hK;have zaA:∀{b:gV} {o:zb},s₁.heap.get? b=some o->H b=none->(mh s₁.heap H).get? b=some o:=fun e n=>zmR e n;have uY:∀{b:gV} {o:zb} {es:Array BG} {ep:Nat},s₁.heap.get? b=some o->o.data=.dict es ep->H b=none:=fun{b o es ep} e d=>by
   cases q:H b with
   | none=>rfl
   | some u =>
    obtain⟨o',v,rfl,_,nd⟩:=hO b u q;obtain⟨e',_⟩:=aC b _ q;rw[e]at e';cases e';exact absurd d (nd es ep)
  have noM:∀{b:gV} {o:zb},s₁.heap.get? b=some o->o.cls=.type "module"->H b=none:=fun{b o} e d=>by
   cases q:H b with
   | none=>rfl
   | some u =>
    obtain⟨o',v,rfl,nd,_⟩:=hO b u q;obtain⟨e',_⟩:=aC b _ q;rw[e]at e';cases e';exact absurd d nd
  have nZ:∀{b:gV} {m:dm->Option ir},s₁.heap.Ns b m->(mh s₁.heap H).Ns b m:=fun{b m} ⟨o,es,ep,e,d,r⟩=>⟨o,es,ep,zaA e (uY e d),d,r⟩;have hKb:(aO (cl.map (·.1)) K).In (mh s₁.heap H):=fun b o e=>zaA (zfi KX b o e) (by
   cases q:H b with
   | none=>rfl
   | some u=>rw[hK b (by rw[q];simp)]at e;cases e)
  have hM:Mod (aO (cl.map (·.1)) K) mg (mh s₁.heap H):=⟨hKb,nZ hns,⟨mb,nZ hb,uq⟩,let⟨mc,h1,h2⟩:=zmV;⟨mc,nZ h1,h2⟩,(let⟨mc,h1,h2⟩:=xD.statics;⟨mc,nZ h1,h2⟩),(let⟨mc,h1,h2⟩:=xD.mods;⟨mc,nZ h1,h2⟩),(let⟨mc,h1,h2⟩:=xD.imp;⟨mc,nZ h1,h2⟩),(let⟨mg,bm,ob,h1,h2,h3,h4,h5⟩:=xD.main;⟨mg,bm,ob,nZ h1,h2,zaA h3 (noM h3 h4),h4,h5⟩)⟩;have e0:pg P w (aO (cl.map (·.1)) K) mg (mh s₁.heap H) C3 [] s₁ H:=⟨rfl,hM,fun b o e=>zpO e,Nat.le_of_eq (zmS _ _),trivial,fun b hb=>absurd (show b∈([]:List gV) from hb) (by simp),aC,.of_eq hg,uF⟩;refine Dr ((F _ hKb (nZ hns)).run C3 [] s₁ H ⟨[.ref a],[]⟩ [.ref a] [.ref a] _ _ hr e0 (zmI s₁ (.ref a)) (.cons rfl .nil) (nN H hL kK hS)) fun r s' h=>?_;cases r with
  | error e=>exact(hCX H e s' h).elim
  | ok fl =>
   cases fl with
   | next=>exact Av h
   | brk=>exact Av h
   | cont=>exact Av h
   | ret u =>
    obtain⟨v,H',os,bare,un,zmY,r',q⟩:=h;have q':v=.bl true:=q;subst q';obtain rfl:u=BI true:=r';refine⟨rfl,OldK.of_keep fun b o e=>?_,os,bare⟩;cases q:H b with
    | none=>exact un.keep b o e q (by intro z;exact absurd (show b∈([]:List gV) from z) (by simp)) (by simp)
    | some u =>
     obtain⟨ob,v,rfl,_,_⟩:=hO b u q;have z2:=un.gA b ob _ q;obtain⟨e1,_⟩:=aC b _ q;obtain⟨e2,_⟩:=zmY b _ z2;rw[e]at e1;cases e1
     exact e2
 have cok:∀{H:Hp} {b:gV} {u:HO},gD cl b=some u->cD P w H s₁.heap b u:=fun{H b u} e=>by
  obtain⟨_,o,xs,its,n,rfl,h1,h2,h3,h4,h5⟩:=rA hC e;have hg:=KX b o h1;exact⟨hg,h4,its.toList,h5,o,hg,h2,n,by simpa using h3⟩
 have cfr:∀{b:gV} {u:HO},gD cl b=some u->∃ o v,u=.frz o v/\o.cls≠.type "module"/\∀ es ep,o.data≠.dict es ep:=fun{b u} e=>by
  obtain⟨_,o,xs,its,n,rfl,h1,h2,h3,h4,h5⟩:=rA hC e;exact⟨o,_,rfl,by rw[h2];simp,fun es ep z=>by rw[h3]at z;cases z⟩
 have zfc:∀{b:gV} {xs:List V},gD cl b≠some (.lst xs):=fun{b xs} e=>by
  obtain⟨_,o,xs,its,n,z,_⟩:=rA hC e;cases z
 cases hk:(aO (cl.map (·.1)) K).lookup a with
 | some o =>
  have e:=zfi KX a o hk;rw[ha]at e;cases e;exact core (gD cl) (fun b u e=>cfr e) (fun b xs e=>zfc e) (fun _ _ e=>e) (.inr ⟨_,vs.toArray,_,hk,rfl,rfl,rfl,by rw[zW,zoL];exact hl,by simpa using rv⟩) (fun b u z=>cok z) fun b hb=>by
   cases q:gD cl b with
   | none=>exact absurd q hb
   | some u=>exact(rA hC q).1
 | none =>
  have na:∀ u,gD cl a≠some u:=fun u z=>by
   obtain⟨_,o,xs,its,n,rfl,h1,h2,h3,h4,h5⟩:=rA hC z;have:=KX a o h1;rw[ha]at this;cases this;simp at h2
  refine core (fun b=>if b=a then some (.frz { cls:=.type "list",data:=.seq vs.toArray } (.lst (ns.map V.int))) else gD cl b) (fun b u e=>?_) (fun b xs e=>?_) (fun b u e=>?_) (.inl (.inr ⟨{ cls:=.type "list",data:=.seq vs.toArray },if_pos rfl⟩)) (fun b u z=>?_) fun b hb=>?_
  ·split at e
   ·cases e;exact⟨_,_,rfl,by simp,fun es ep z=>nomatch z⟩
   ·exact cfr e
  ·split at e
   ·cases e
   ·exact zfc e
  ·have:b≠a:=fun z=>by subst z;exact na u e
   simp only[if_neg this];exact e
  ·simp only at z
   split at z
   ·rename_i c
    cases z;subst c;exact⟨ha,by rw[zL];exact hl,vs,_,rv,ha⟩
   ·exact cok z
  ·by_cases c:b=a
   ·subst c;exact hk
   ·simp only[if_neg c]at hb
    cases q:gD cl b with
    | none=>exact absurd q hb
    | some u=>exact(rA hC q).1
theorem zuq{q:zu}{XP:(dm->Option ir)->zh->Prop}{K:Params->yU}
  (zbP:∀ ns:List Int,ns.length<=63->G [.list (ns.map zH)]=.ok (.bool true))(hn:l.most=some 63)(uv:d.params.defaults=[])(hi:importsNone q=true)(uF:l.prog.given.tree=none)(hr:aZ k C3)
  (hY:∀(w:zq) (h:zh),YP w h->(K w.params).In h)
  (F:∀(w:zq) (mg:dm->Option ir) (fa:gV) (h:zh),(K w.params).In h->h.Ns zv mg->mg d.name=some (.ref fa) ->
   ∃(cl:CL) (ob xb:String->Option (gV×List dm)) (fd:Ah),gK cl (K w.params)/\(∀(s:kb) (u:ir),Dq s fd ⟨[u],[]⟩ [(x,u)]) /\
    ∀ base:zh,(aO (cl.map (·.1)) (K w.params)).In base->base.Ns zv mg->dJ l.prog w (aO (cl.map (·.1)) (K w.params)) mg base (cR l.prog w) k fa fd [x] (@gW (qW cl ob xb) (aO (cl.map (·.1)) (K w.params)) 1 false G)) :
  PySem.W.WalkO q loose XP YP l.row.toRowW d [] (fun f vs=>FR f vs):=by
 refine Att.zj6 hn uv fun w s₀ s₁ mg mb fa o pm cd doc a vs ns GG Y ho hd eZ hmg zci hints hlen hg=>?_;have KX:=hY w _ Y;obtain⟨cl,ob,xb,fd,hC,hb,hF⟩:=F w mg fa _ KX GG.T.g hmg;refine zoG KX hC GG.T.g GG.T.b GG.T.builtins GG.T.nolimit (GG.T.seer hi) uF hg zci hints (AB hlen (by decide)) hr hF hb (fun H hO kK hS=>@zoI (qW cl ob xb) _ G H a ns (zbP ns hlen) hO kK hS) fun H e s' ⟨_,_,_,_,_,_,_,_,_,_,_,_,_,_,_,z⟩=>z
variable [Cs]
theorem zhX{K:yU}{ds:List D}{vs:List V}(hg:Gl X x)(hm:X.mg x=some (.ref a))(hc:∃ o,Cs.C a=some (.frz o (.tup vs)))(hf:∀ H,aq K H ds vs)(hd:(x==("__debug__":dm))=false:=by decide) :
  PV K X (.Name x pos) (eC (.tuple ds)):=.mk fun _=>(cW hg hm (v:=.ref a) rfl hd).weak fun σ H Q=>by
 rintro⟨ρ,rel,g⟩;obtain⟨o,hc⟩:=hc;refine g.now rel (.ref a) ?_;simp only[Fz];exact⟨a,vs,rfl,.inr ⟨o,rel.cst _ _ hc⟩,hf H⟩
end
variable {ob:String->Option (gV×List dm)}{oc u:ir}{A:zx}{xs:List V}{gR:Array (Option ir)}
section
theorem sV(hr:aZ k A):A.units+1<Ae:=by have:=hr.un;omega
theorem ziS(hr:aZ k A):A.units+80<Ae:=by have:=hr.un;omega
theorem zsK{x y:V}(h1:L2.RelV x u)(h2:L2.RelV y u):x=y:=by
 cases x <;> cases y <;> simp only[L2.RelV]at h1 h2 <;> first
  | (subst h1;cases h2;rfl;done)
  | (subst h1;obtain⟨t',h2⟩:=h2;cases h2;done)
  | (obtain⟨t,rfl⟩:=h1;obtain⟨t',h2⟩:=h2;cases h2;rfl;done)
  | (obtain⟨t,rfl⟩:=h1;obtain⟨t',h2⟩:=h2;cases h2;done)
  | (subst h1;cases h2;done)
  | (obtain⟨t,rfl⟩:=h1;cases h2;done)
theorem zi0:∀{xs ys:List V} {us:List ir},Vals xs us->Vals ys us->xs=ys
 | _,_,_,.nil,.nil=>rfl
 | _,_,_,.cons r1 t1,.cons r2 t2=>by rw[zsK r1 r2,zi0 t1 t2]
theorem lookup_mem{α:Type}:∀{l:List (gV×α)} {a:gV} {x:α},(a,x)∈l->∃ y,l.lookup a=some y
 | [],a,x,h=>by simp at h
 | (b,y)::r,a,x,h=>by
  rw[zJ];cases e:a==b with
  | true=>exact⟨y,rfl⟩
  | false =>
   rcases zS.mp h with z|z
   ·cases z;simp at e
   ·exact lookup_mem z
theorem zmJ{K:yU}(h:gK cl K)(m:(a,o,xs)∈cl):∃ o',(qW cl ob).C a=some (.frz o' (.tup xs)):=by
 obtain⟨⟨o2,ys⟩,el⟩:=lookup_mem m;obtain⟨h1,_,_,its,n,h2,h3⟩:=h _ m;obtain⟨g1,_,_,gP,n',g2,g3⟩:=h _ (mem_of_lookup el);simp only at h1 h2 h3 g1 g2 g3;rw[h1]at g1;cases g1;rw[h2]at g2;cases g2;refine⟨o,?_⟩;show gD cl a=_;unfold gD;rw[el,zi0 h3 g3]
 rfl
theorem zmH{K:yU}{st:zy}{od an:Option gV}{kV doc pm aG ct:ir}(X:K.In h)(G:h.Ns zv mg)(q:zA K zv x=some (some (.ref f)))
  (l:K.lookup f=some ⟨oc,od,.func (A8 x x (i3 st) (dU st) (bB st) .none kV doc pm an aG ct),gR⟩)(c:Cz K aG x=true)(k:CV K (.ref f)=true):aP K mg x st:=⟨f,_,zY X G q,zfY (st:=st) l c k⟩
theorem _root_.L2.aP.cut{cs:List gV}{K:yU}{mg:dm->Option ir}{x:dm}{st:zy}(h:aP K mg x st)(s:dQ cs K):aP (aO cs K) mg x st:=FL.aP.cut s h
end
end FL
namespace FL
open PySem
def enD:List D->R (List D)
 | [.list l]=>.ok (eY 0 l)
 | _=>.bad
def mx(a:AF):IF:=fun ρ=>(a ρ).bind fun x=>(enD x.1).bind fun l=>.ok (l,x.2)
end FL
namespace L2
open PySem PySem.Spec PyProof.Rows
end L2
namespace FL
open PySem L2 PySem.Spec
open PyProof.Rows hiding St
theorem zfH:∀(i:Nat) (l:List D),(eY i l).length=l.length
 | _,[]=>rfl
 | i,d::r=>by rw[eY,zB,zB,zfH]
theorem zfG:∀{i:Nat} {l:List D} {j:Nat} {x:D},(eY i l)[j]?=some x->∃ d,l[j]?=some d/\x=.tuple [.int ((i+j:Nat):Int),d]
 | _,[],_,_,h=>by simp[eY]at h
 | i,d::r,0,x,h=>by
  simp only[eY,zz0,Bh]at h;exact⟨d,rfl,h.symm⟩
 | i,d::r,j+1,x,h=>by
  simp only[eY,zz1]at h;obtain⟨d',h1,h2⟩:=zfG h;refine⟨d',by simpa using h1,?_⟩;rw[h2,Nat.add_assoc,Nat.add_comm 1 j]
variable {vs:List V}{pos:zc}{es:List yW}{X:Cx}{k:Nat}{items:List D}{H:Hp}{a t:gV}{fa:AF}
section
variable [Cs]{K:yU}{e e':yW}{p0 p:zc}
theorem zmo{a b:D}{u v:V}(h0:H t=none)(fa:Fz K H a u)(fb:Fz K H b v):Fz K (upd H t (.tup [u,v])) (.tuple [a,b]) (.ref t):=by
 have m:aF H (upd H t (.tup [u,v])):=aF.of (aA.upd h0);simp only[Fz,aq];exact⟨t,[u,v],rfl,.inl bU,u,[v],rfl,fa.mono m,v,[],rfl,fb.mono m,rfl⟩
theorem zuo(h:pk K H a vs)(f:aq K H items vs):Walk K (Ite K a) (eY 0 items) H:=by
 refine⟨fun i d H' fz e=>?_,fun i H' fz e=>⟨vs,(fz.oy h).sq,by rw[f.len,<- zfH 0];exact e⟩⟩;obtain⟨d',e',rfl⟩:=zfG e;obtain⟨v,ev,fv⟩:=(f.mono fz).get e';refine⟨⟨vs,v,(fz.oy h).sq,ev⟩,fun x f9 y=>?_⟩;obtain⟨t,v',rfl,ht,rfl,hv⟩:=y;have ex:=hv vs (fz.oy h).sq;rw[ev]at ex;cases ex;refine⟨aA.upd ht,?_⟩;rw[CD];exact zmo ht (iK _) fv
theorem zc9(hg:Gl X "enumerate")(hm:X.mg "enumerate"=none)(ha:eJ K X [e] fa)(hs:yX [e] X.env=[(false,zk e X.env)]:=by exact FL.se rfl):iF K X (.Tuple es k p0) (.Call (.Name "enumerate" p) [e] [] pos) (mx fa):=.mk fun hK=>by
 subst hK;refine(zqD hg hm (ha rfl) hs).weak fun σ H R=>?_;rintro⟨ρ,rel,q⟩;refine rl rel q fun ds ρ1 vs H1 au aY fs q1=>?_;obtain⟨items,ei,q2⟩:=q1.bV;cases ds with
 | nil=>cases ei
 | cons d r =>
  cases r with
  | cons _ _=>cases d <;> cases ei
  | nil =>
   cases d with
   | list a =>
    cases ei;simp only[aq,Fz]at fs;obtain⟨_,_,rfl,⟨l,vs,rfl,sx,f⟩,rfl⟩:=fs;exact⟨l,rfl,⟨vs,sx.sq⟩,q2.now au _ (zuo sx f)⟩
   | _=>cases ei
end
end FL
namespace L2
open PySem PySem.Spec PyProof.Rows
end L2
namespace FL
open PySem L2 PySem.Spec
open PyProof.Rows hiding St
end FL
namespace PySem
open Spec
end PySem
namespace FL
open PySem L2 PySem.Spec
open PyProof.Rows hiding St
section
end
section
end
end FL
namespace L2
open PySem PySem.Spec PyProof.Rows
open PySem.SeqAt
open PySem.AutoSeq1 (wpAny_loadPart')
open PySem.MeetsSeq PySem.MeetsSeq2 PySem.MeetsSeq3
end L2
namespace FL
open PySem L2 PySem.Spec
open PyProof.Rows hiding St
end FL
namespace FL
open PySem
noncomputable def intD:D->R D
 | .bool b=>.ok (.int (if b then 1 else 0))
 | .int i=>.ok (.int i)
 | _=>.bad
end FL
namespace L2
open PySem PySem.Spec PyProof.Rows PySem.W
end L2
namespace FL
open PySem L2 PySem.Spec
open PyProof.Rows hiding St
variable {X:Cx}{b:yW}{h:EF}{pos:zc}
section
variable [Cs]
section
variable {K:yU}
theorem zeV:gw X (.type "int") intD:=by
 intro pins s σ H xs us Q I r h;obtain⟨x,dx,d,rfl,tx,e,q⟩:=h;obtain⟨u,rfl,ru⟩:=vals1 r;cases dx with
 | bool c =>
  have tx:Fz X.K H (.bool c) x:=tx;simp only[Fz]at tx;subst tx;cases e;cases ru;exact PySem.call_int_bool ⟨.int _,H,I.tok _,⟨_,rfl⟩,q _ H (aA.refl _) (by simp[Fz])⟩
 | int i =>
  have tx:Fz X.K H (.int i) x:=tx;simp only[Fz]at tx;subst tx;cases e;obtain⟨t,rfl⟩:=ru;exact PySem.call_int_int ⟨.int i,H,I,⟨t,rfl⟩,q _ H (aA.refl _) (by simp[Fz])⟩
 | _=>exact nomatch (show(R.bad:R D)=.ok d from e)
end
end
variable {tn x z:dm}{base:zh}{it:IF}{k n:Nat}{op:By}{body:List zy}{g:D->R D}{scope:Al}{t:TF}{mg:dm->Option ir}{ps:List dm}{p2 py pz:zc}{aL:List Nat}{tg:yW}{fa:AF}{ar:List Ar}{F:List D->R (D×List D)}{es ifs:List yW}{bb:SF}{P:zu}{G:List D->R D}{gg:GF}{w:zq}
section
variable [Cs]
section
variable {K:yU}{st:zy}{b:SF}{fr:Bool}
theorem uh(ms:List Bool)(N:List dm)(h:aP K mg x st)
  (hb:∀{f:gV} {aG:ir} {A:zx} {outer:List zC} {s:kb} {H:Hp} {E:XK},aZ k (A.deeper (AX x (bB st) s.heap.objs.size f aG))->N.Nodup->eR K (fF (cR P w) P w K mg base N x (bB st) f aG A outer s H E).cV (dU st) b)
  (S:gZ N ps (bB st):=by exact⟨rfl,rfl,rfl,by decide +kernel,rfl,by decide +kernel,by decide +kernel⟩)(iL:ps.length=ms.length:=by rfl)(jw:ps.length<=N.length:=by decide)
  (jU:∀(kV doc pm:ir) (an:Option gV) (aG ct:ir) (us:List ir),us.length=ps.length->Cy (A8 x x (i3 st) (dU st) (bB st) .none kV doc pm an aG ct) ⟨us,[]⟩=pure (ps.zip us):=by
   first
    | exact fun _ _ _ _ _ _=>wX fun _=>rfl
    | exact fun _ _ _ _ _ _=>wY fun _ _=>rfl
    | exact fun _ _ _ _ _ _=>el3 fun _ _ _=>rfl
    | exact fun _ _ _ _ _ _=>el4 fun _ _ _ _=>rfl
    | exact fun _ _ _ _ _ _=>el5 fun _ _ _ _ _=>rfl):Callee P w K mg base x (k+1) ps (ki K ms fr (FL.run ms fr N.length b)) :=
 zmd ms fr h S iL jw jU fun f aG A outer s H E hr=>zdc (hb hr S.nd)
theorem dN(N:List dm)(h:aP K mg x st)
  (hb:∀{f:gV} {aG:ir} {A:zx} {outer:List zC} {s:kb} {H:Hp} {E:XK},aZ k (A.deeper (AX x (bB st) s.heap.objs.size f aG))->N.Nodup->eR K (fF (cR P w) P w K mg base N x (bB st) f aG A outer s H E).cV (dU st) b)
  (S:gZ N ps (bB st):=by exact⟨rfl,rfl,rfl,by decide +kernel,rfl,by decide +kernel,by decide +kernel⟩)(jw:ps.length<=N.length:=by decide)
  (jU:∀(kV doc pm:ir) (an:Option gV) (aG ct:ir) (us:List ir),us.length=ps.length->Cy (A8 x x (i3 st) (dU st) (bB st) .none kV doc pm an aG ct) ⟨us,[]⟩=pure (ps.zip us):=by
   first
    | exact fun _ _ _ _ _ _=>wX fun _=>rfl
    | exact fun _ _ _ _ _ _=>wY fun _ _=>rfl
    | exact fun _ _ _ _ _ _=>el3 fun _ _ _=>rfl
    | exact fun _ _ _ _ _ _=>el4 fun _ _ _ _=>rfl
    | exact fun _ _ _ _ _ _=>el5 fun _ _ _ _ _=>rfl):Callee P w K mg base x (k+1) ps (gW K ps.length fr (bo fr ps.length N.length b)) :=
 Callee.pure (uh (zo ps.length false) N h hb S (by simp) jw jU)
end
section
variable {K:yU}{a c e:yW}{f g1 g2:EF}{p:zc}{j:Nat}
theorem a1(ha:PV K X a f)(hs:yX [a] X.env=(false,zk a X.env)::yX [] X.env:=by exact FL.se rfl):eJ K X [a] (aa f af):=bW ha mO hs
theorem a2(ha:PV K X a f)(hb:PV K X b h)(hs:yX [a,b] X.env=(false,zk a X.env)::yX [b] X.env:=by exact FL.se rfl)(il:yX [b] X.env=(false,zk b X.env)::yX [] X.env:=by exact FL.se rfl):eJ K X [a,b] (aa f (aa h af)):=bW ha (a1 hb il) hs
theorem a3(ha:PV K X a f)(hb:PV K X b h)(hc:PV K X c g1)(hs:yX [a,b,c] X.env=(false,zk a X.env)::yX [b,c] X.env:=by exact FL.se rfl)(il:yX [b,c] X.env=(false,zk b X.env)::yX [c] X.env:=by exact FL.se rfl)(hs3:yX [c] X.env=(false,zk c X.env)::yX [] X.env:=by exact FL.se rfl):eJ K X [a,b,c] (aa f (aa h (aa g1 af))):=bW ha (a2 hb hc il hs3) hs
variable {y:dm}
theorem cG(cc:Callee X.prog X.w X.K X.mg X.base x k ps (gW X.K n false G))(hr:aZ j X.A)(ha:eJ K X (e::es) fa)(hl:mV fa n:=by repeat (first|exact zau|refine zat ?_))(hg:Gl X x:=by rfl)(hj:k<=j:=by decide)(bN:(x==("__debug__":dm))=false:=by decide)
  (he:yX (e::es) X.env=(false,zk e X.env)::yX es X.env:=by exact FL.se rfl) (bu:(zK pos (yX es X.env)).any (·.1)=false:=by exact FL.sp rfl):PV K X (.Call (.Name x p) (e::es) [] pos) (az G fa):=zrf cc hr hg va ha hl hj bN he bu
theorem zh2(cc:Callee X.prog X.w X.K X.mg X.base x k ps (gW X.K n true G))(hr:aZ j X.A)(ha:eJ K X (e::es) fa)(hl:mV fa n:=by repeat (first|exact zau|refine zat ?_))(hg:Gl X x:=by rfl)(hj:k<=j:=by decide)(bN:(x==("__debug__":dm))=false:=by decide)
  (he:yX (e::es) X.env=(false,zk e X.env)::yX es X.env:=by exact FL.se rfl) (bu:(zK pos (yX es X.env)).any (·.1)=false:=by exact FL.sp rfl):bw K X (.Call (.Name x p) (e::es) [] pos) (az G fa):=zry cc hr hg va ha hl hj bN he bu
theorem fL(cc:Callee X.prog X.w X.K X.mg X.base x k ps (ki X.K (iG ar) false F))(hr:aZ j X.A)(ha:iX K X (e::es) ar)(ho:qG F (iG ar).length:=by exact zhw)(nd:(lN ar).Nodup:=by decide)(ct:lO ar<=1:=by decide)(hg:Gl X x:=by rfl)(hj:k<=j:=by decide)(bN:(x==("__debug__":dm))=false:=by decide)
  (he:yX (e::es) X.env=(false,zk e X.env)::yX es X.env:=by exact FL.se rfl) (bu:(zK pos (yX es X.env)).any (·.1)=false:=by exact FL.sp rfl):PV K X (.Call (.Name x p) (e::es) [] pos) (aQ F ar):=zrh cc ho nd ct hr hg va ha hj bN he bu
theorem zrx(cc:Callee X.prog X.w X.K X.mg X.base x k ps (ki X.K (iG ar) true F))(hr:aZ j X.A)(ha:iX K X (e::es) ar)(ho:qG F (iG ar).length:=by exact zhw)(nd:(lN ar).Nodup:=by decide)(ct:lO ar<=1:=by decide)(hg:Gl X x:=by rfl)(hj:k<=j:=by decide)(bN:(x==("__debug__":dm))=false:=by decide)
  (he:yX (e::es) X.env=(false,zk e X.env)::yX es X.env:=by exact FL.se rfl) (bu:(zK pos (yX es X.env)).any (·.1)=false:=by exact FL.sp rfl):bw K X (.Call (.Name x p) (e::es) [] pos) (aQ F ar):=zrz cc ho nd ct hr hg va ha hj bN he bu
theorem eU(i:Nat)(h:iX K X es ar)(ha:PE X (.Name y py) (dA i):=by exact pv _)(hs:yX (.Name y py::es) X.env=(false,zk (.Name y py) X.env)::yX es X.env:=by exact FL.se rfl):iX K X (.Name y py::es) (.m i::ar):=zru i ha h hs
theorem fX{id:String}(hc:gw X (.builtin id) g)(hm:X.mg x=none)(hv:Ad x=some (.builtin id))(ha:PV K X e f)(hg:Gl X x:=by rfl)(hn:x ≠ "__name__":=by decide)(bN:(x==("__debug__":dm))=false:=by decide)
  (he:yX [e] X.env=(false,zk e X.env)::yX [] X.env:=by exact FL.se rfl) (bu:(zK pos (yX [] X.env)).any (·.1)=false:=by exact FL.sp rfl):PV K X (.Call (.Name x p) [e] [] pos) (e1 g f):=zh1 (zhW (gw.ds hc) hg hm hv (a1 ha he) hn bN he bu)
theorem kW{T:String}(hc:gw X (.type T) g)(hm:X.mg x=none)(hv:Ad x=some (.type T))(ha:PV K X e f)(hg:Gl X x:=by rfl)(hn:x ≠ "__name__":=by decide)(bN:(x==("__debug__":dm))=false:=by decide)
  (he:yX [e] X.env=(false,zk e X.env)::yX [] X.env:=by exact FL.se rfl) (bu:(zK pos (yX [] X.env)).any (·.1)=false:=by exact FL.sp rfl):PV K X (.Call (.Name x p) [e] [] pos) (e1 g f):=zh1 (zri (gw.ds hc) hg hm hv (a1 ha he) hn bN he bu)
theorem zhZ{id:String}(i:Nat)(hc:gw X (.builtin id) g)(hm:X.mg x=none)(hv:Ad x=some (.builtin id))(hg:Gl X x:=by rfl)(ha:PE X (.Name y py) (dA i):=by exact pv _)(hn:x ≠ "__name__":=by decide)(bN:(x==("__debug__":dm))=false:=by decide):PV K X (.Call (.Name x p) [.Name y py] [] pos) (m1 g i):=zrq i hc hg hm hv ha hn bN
theorem yj{T:String}(kt:mY T)(hm:X.mg "isinstance"=none)(gk:X.mg tn=none)(uH:Ad tn=some (.type T))(ha:PV K X a f)(hg:Gl X "isinstance":=by rfl)(uA:Gl X tn:=by rfl)(hn:tn ≠ "__name__":=by decide)(hd:(tn==("__debug__":dm))=false:=by decide)
  (jx:yX [a,.Name tn p2] X.env=(false,zk a X.env)::yX [.Name tn p2] X.env:=by exact FL.se rfl) (il:yX [.Name tn p2] X.env=(false,zk (.Name tn p2) X.env)::yX [] X.env:=by exact FL.se rfl) (bu:(zK pos (yX [.Name tn p2] X.env)).any (·.1)=false:=by exact FL.sp rfl) :
  PV K X (.Call (.Name "isinstance" p) [a,.Name tn p2] [] pos) (e1 (jy T) f):=zro kt hg hm uA gk uH ha hn hd jx il bu
theorem dG(hr:aZ j X.A):aW X (zF .Eq) (rD X.K aK):=zpD hr.units
theorem kZ(hr:aZ j X.A):aW X (zF .NotEq) (rD X.K bR):=zpJ hr.units
theorem ot(hr:aZ j X.A):aW X (zF .Lt) (rD X.K dD):=zpI hr.units
theorem zh7(hr:aZ j X.A):aW X (zF .LtE) (rD X.K jb):=zpH hr.units
theorem yx(hr:aZ j X.A):aW X (zF .Gt) (rD X.K gC):=zpF hr.units
theorem zdj(hr:aZ j X.A):aW X (zF .GtE) (rD X.K jt):=zpE hr.units
theorem zdk(hr:aZ j X.A):aW X (zF .In) (rD X.K inD):=zpX (sV hr)
theorem zdl(hr:aZ j X.A):aW X (zF .In) (rD X.K i9):=zhz (ziS hr)
theorem zdi(hr:aZ j X.A):jK X (rD X.K h8):=znk (sV hr)
variable {g:D->D->R D}
theorem yi(ho:aW X (zF op) (rD X.K g))(ha:PV K X a f)(hb:PV K X b h)(hm:Bz op b=false:=by first|exact u5 _|rfl):PV K X (.Compare a [op] [b] pos) (e2 g f h):=zrk ho ha hb hm
theorem bh(ho:aW X (zF op) (rD X.K g))(ha:PV K X a f)(hb:PV K X b h)(hm:Bz op b=false:=by first|exact u5 _|rfl):fC K X (.Compare a [op] [b] pos) (tB (e2 g f h)):=zrK ho ha hb hm
theorem zrj(i:Nat)(ho:aW X (zF op) (rD X.K g))(hb:PV K X b h)(ha:PE X (.Name y py) (dA i):=by exact pv _)(hm:Bz op b=false:=by first|exact u5 _|rfl):PV K X (.Compare (.Name y py) [op] [b] pos) (m2 g i h):=zrr i ho ha hb hm
theorem zdf(i:Nat)(ho:aW X (zF op) (rD X.K g))(hb:PV K X a f)(ha:PE X (.Name y py) (dA i):=by exact pv _)(hm:Bz op (.Name y py)=false:=by first|exact u5 _|rfl):fC K X (.Compare a [op] [.Name y py] pos) (tB (e8 g f i)):=zrL i ho hb ha hm
theorem oj(i:Nat)(ho:jK X (rD X.K g))(hb:PV K X b h)(ha:PE X (.Name y py) (dA i):=by exact pv _)(hs:v3 b:=by exact fun _ _=>rfl):PV K X (.Subscript (.Name y py) b pos) (m2 g i h):=zrs i ho ha hb hs
theorem bp(he:PV K X e f):eR K X [.Return (some e) pos] (ak f):=dF (zdd he)
theorem bF(i:Nat)(hN:X.N.Nodup)(he:PV K X e f)(hi:X.N[i]?=some x:=by rfl)(hx:Loc X.env.scope x:=by first|exact Cd rfl|exact B4 rfl)(hs:AW e (some (.Name x py)) pos.line X.env=pure false:=by rfl)(hf:X.fn x=true\/X.env.scope.names.lookup x=some .local:=by first|exact .inl rfl|exact .inr rfl|assumption):cZ K X (.Assign [.Name x py] e pos) (ax (gN i) f):=zrH hN hi hx he hs hf
theorem sC(i:Nat)(hN:X.N.Nodup)(he:bw K X e f)(hi:X.N[i]?=some x:=by rfl)(hx:Loc X.env.scope x:=by first|exact Cd rfl|exact B4 rfl)(hs:AW e (some (.Name x py)) pos.line X.env=pure false:=by rfl)(hf:X.fn x=true\/X.env.scope.names.lookup x=some .local:=by first|exact .inl rfl|exact .inr rfl|assumption):cZ K X (.Assign [.Name x py] e pos) (bx i f):=zrE hN hi hx he hs hf
theorem cF(i:Nat)(hN:X.N.Nodup)(hi:X.N[i]?=some x:=by rfl)(hx:Loc X.env.scope x:=by first|exact Cd rfl|exact B4 rfl)(hf:X.fn x=true\/X.env.scope.names.lookup x=some .local:=by first|exact .inl rfl|exact .inr rfl|assumption):hJ K X [i] (.Name x pos) (gN i):=zrv hN hi hx hf
theorem vq(i j:Nat){kt k2:Nat}{px pt j6:zc}(nd:X.N.Nodup)(ha:PV K X a f)(hb:PV K X b h)(hc:X.calm=true:=by rfl)(hi:X.N[i]?=some x:=by rfl)(hj:X.N[j]?=some y:=by rfl)(ij:i≠j:=by decide)(l1:X.env.scope.names.lookup x=some .local:=by rfl)(l2:X.env.scope.names.lookup y=some .local:=by rfl)
  (sw:Dm [.Tuple [.Name x px,.Name y py] kt pt] (.Tuple [a,b] k2 j6) X.env=pure (some [x,y]):=by rfl)(s1:Dl [.Tuple [.Name x px,.Name y py] kt pt] (.Tuple [a,b] k2 j6) pos.line X.env=pure false:=by rfl)(s2:yX [a,b] X.env=(false,zk a X.env)::yX [b] X.env:=by exact FL.se rfl)(s3:yX [b] X.env=(false,zk b X.env)::yX [] X.env:=by exact FL.se rfl) :
  cZ K X (.Assign [.Tuple [.Name x px,.Name y py] kt pt] (.Tuple [a,b] k2 j6) pos) (dq i j f h):=zrG hc nd hi hj ij l1 l2 ha hb sw s1 s2 s3
theorem vp(hi:iF K X tg e it)(hg:hJ K X aL tg gg)(hb:eR K X body bb)(hp:CP (yZ X.prog X.w) X.A X.env X.xe:=by exact Gj)(hc:X.calm=true:=by rfl)(hs:∀ v,Be e X.env v=pure v:=by intro _;rfl):cZ K X (.For tg e body [] pos) (dZ it gg bb):=zrC hp hc hi hg hb hs
variable {elt iter ke ve:yW}{kf vf:EF}
theorem cp(L:List dm)(ix:List Nat)(M:List dm)(hi:iF K X tg iter it)(hg:∀{C:gV} {s₃:kb} {H₃:Hp} {fp:List gV},M.Nodup->hJ K (c7 X M scope C s₃ H₃ fp) aL tg gg)(ht:∀{C:gV} {s₃:kb} {H₃:Hp} {fp:List gV},pE K (c7 X M scope C s₃ H₃ fp) ifs t)(he:∀{C:gV} {s₃:kb} {H₃:Hp} {fp:List gV},PV K (c7 X M scope C s₃ H₃ fp) elt f)
  (hc:X.calm=true:=by rfl)(hk:scope.kind=.function:=by rfl)(ho:kA X.env.scope scope X.N ix=true:=by kernel_rfl)(hM:M=L++ix.map (fun i=>X.N.getD i ""):=by rfl) (nd:ix.Nodup:=by decide) (hMn:M.Nodup:=by decide +kernel) (hd:(aL.all fun i=>decide (i<L.length))=true:=by decide) (hs:∀ v,Be iter X.env v=pure v:=by intro _;rfl) :
  bw K X (.ListComp elt [⟨tg,iter,ifs,0⟩] scope pos) (dB L.length ix it gg t f):=zrA L ix M hc hk ho hM nd hi (fun _ _ _ _=>hg hMn) hd (fun _ _ _ _=>ht) (fun _ _ _ _=>he) hs
theorem cpS(i0:Nat)(L:List dm)(ix:List Nat)(M:List dm)(hN:X.N.Nodup)(hi:iF K X tg iter it)(hg:∀{C:gV} {s₃:kb} {H₃:Hp} {fp:List gV},M.Nodup->hJ K (c7 X M scope C s₃ H₃ fp) aL tg gg)(ht:∀{C:gV} {s₃:kb} {H₃:Hp} {fp:List gV},pE K (c7 X M scope C s₃ H₃ fp) ifs t)(he:∀{C:gV} {s₃:kb} {H₃:Hp} {fp:List gV},PV K (c7 X M scope C s₃ H₃ fp) elt f)
  (h0:X.N[i0]?=some x:=by rfl)(hl:X.env.scope.names.lookup x=some .local:=by rfl)(pR:AW (.ListComp elt [⟨tg,iter,ifs,0⟩] scope pos) (some (.Name x py)) p.line X.env=pure true:=by rfl)(hc:X.calm=true:=by rfl)(hk:scope.kind=.function:=by rfl)(ho:kA X.env.scope scope X.N ix=true:=by kernel_rfl)(hM:M=L++ix.map (fun i=>X.N.getD i ""):=by rfl) (nd:ix.Nodup:=by decide) (hMn:M.Nodup:=by decide +kernel) (hd:(aL.all fun i=>decide (i<L.length))=true:=by decide) (hs:∀ v,Be iter X.env v=pure v:=by intro _;rfl) :
  cZ K X (.Assign [.Name x py] (.ListComp elt [⟨tg,iter,ifs,0⟩] scope pos) p) (bx i0 (dB L.length ix it gg t f)):=zrF i0 L ix M hN h0 hl pR hc hk ho hM nd hi (fun _ _ _ _=>hg hMn) hd (fun _ _ _ _=>ht) (fun _ _ _ _=>he) hs
end
abbrev CT(x:dm)(k:Nat)(ps:List dm)(n:Nat)(fr:Bool)(G:List D->R D)(P:zu)(w:zq)(K:yU)(mg:dm->Option ir)(base:zh):Prop:=Callee P w K mg base x k ps (gW K n fr G)
abbrev vH(x:dm)(k:Nat)(ps:List dm)(ms:List Bool)(fr:Bool)(F:List D->R (D×List D))(P:zu)(w:zq)(K:yU)(mg:dm->Option ir)(base:zh):Prop:=Callee P w K mg base x k ps (ki K ms fr F)
end
end FL
namespace FL
open PySem
def zgn(a:List D)(k d:D):R (List D):=match k with
 | .int j=>aN (decide (0<=j)&&leB j.toNat a.length&&leB (a.length+1) lim) (.ok (a.take j.toNat++d::a.drop j.toNat))
 | _=>.bad
def my(i:Nat)(k f:EF):SF:=fun ρ=>(eB ρ i).bind fun _=>(k ρ).bind fun y=>(f y.2).bind fun x=>(eB x.2 i).bind fun c=>(zgn c y.1 x.1).bind fun c'=>.ok (.nx,dE x.2 i (.list c'))
end FL
namespace L2
open PySem PySem.Spec
variable {X:Cx}
def zsq:V->List V->Hp->VK->Prop:=fun x vs H Q=>∃ l xs i y,x=.ref l/\vs=[.int i,y]/\H l=some (.lst xs)/\xs.length<zt/\0<=i/\i.toNat<=xs.length/\Q .non (upd H l (.lst (xs.take i.toNat++y::xs.drop i.toNat)))
theorem zpg:MtM X "list.insert" zsq:=by
 intro pins s σ H x vs v us Q I rx rv h;obtain⟨l,xs,i,y,rfl,rfl,hH,hz,i0,i1,q⟩:=h;cases rx;obtain⟨a,b,rfl,ra,rb⟩:∃ a b,us=[a,b]/\RelV (.int i) a/\RelV y b:=by
  cases rv with
  | cons h t=>cases t with
   | cons h2 t2=>cases t2;exact⟨_,_,rfl,h,h2⟩
 obtain⟨t,rfl⟩:=ra;obtain⟨z,its,n,r,hl,e⟩:=I.zg7 hH;have hlen:its.length=xs.length:=r.length.symm;have sl:zt<2^63:=by decide
 refine Cb F.slot_list_insert ⟨_,e,rfl⟩ F.entry_list_insert (F.args_list_insert_3 _ _ _) (PySem.AutoListH.list_insert_list_int_val_1 l its.toArray n i t b (by unfold Builtin.List.listFitsIndex;simp;omega) (by rw[zW];omega)) ⟨e,?_⟩;refine⟨.non,_,I.zg5 (gP:=its.take i.toNat++b::its.drop i.toNat) hH e ?_ ((r.take _).append (.cons rb (r.drop _))) ?_,rfl,q⟩
 ·show((its.toArray.extract 0 (if i<0 then(i+((its.toArray.size:Nat):Int)).toNat else min i.toNat its.toArray.size)).push b++its.toArray.extract (if i<0 then(i+((its.toArray.size:Nat):Int)).toNat else min i.toNat its.toArray.size))=_
  rw[if_neg (by omega),zW,Nat.min_eq_left (by omega)];apply Gh.mp;simp[List.extract];rw[EG (by rw[CA];omega)]
 ·simp;omega
end L2
namespace FL
open PySem L2 PySem.Spec
open PyProof.Rows hiding St
variable {pos:zc}{X:Cx}
section
variable [Cs]
section
variable {K:yU}{e ke:yW}{f k:EF}
theorem zh3{y name:dm}{py apos bC:zc}(i:Nat)(hnm:name="insert")(ha:PE X (.Name y py) (dA i))(hk:PV K X ke k)(he:PV K X e f)
  (i6:Cw (.Name y py) name X.env (zk (.Name y py) X.env)=zk (.Name y py) X.env:=by rfl)
  (me:((zK bC (yX [ke,e] X.env)).all (fun x=>!x.1)&&(D3 bC (D4 [] X.env)).all (fun x=>x.1.isSome)&&decide ([ke,e].length+([]:List B3).length+(if([]:List B3).isEmpty then 0 else 1)<30))=true:=by rfl)
  (mq:(apos.endLine==bC.line)=true:=by rfl) (cq:yX [ke,e] X.env=(false,zk ke X.env)::yX [e] X.env:=by exact FL.se rfl) (zm1:yX [e] X.env=(false,zk e X.env)::yX [] X.env:=by exact FL.se rfl) (jW:(zK bC (yX [e] X.env)).any (·.1)=false:=by exact FL.sp rfl)
  (hs:AW (.Call (.Attribute (.Name y py) name apos) [ke,e] [] bC) none pos.line X.env=pure false:=by rfl):cZ K X (.Expr (.Call (.Attribute (.Name y py) name apos) [ke,e] [] bC) pos) (my i k f):=.mk fun hK C=>by
 subst hK;subst hnm;refine(zqP (yb Hj PySem.F.slot_list_insert PySem.F.type_list_insert zpg ha (gq (hk rfl) (gq (he rfl) jE zm1) cq) i6 me mq cq jW) hs).weak fun Dn σ H=>?_;rintro⟨ρ,rel,g⟩;obtain⟨d,ed,g1⟩:=g.ck;obtain⟨a,vs0,bA,h0,_⟩:=rel.rel.zcy ed;refine⟨.ref a,bA.2,.inl ⟨rfl,vs0,cw.of h0⟩,jT rel g1 fun dk ρ1 vk H1 au aY fzk g2=>jT au g2 fun dx ρ2 v H2 bP dh fz g3=>?_⟩;obtain⟨c,ec,g4⟩:=g3.ck;obtain⟨c',lT,g5⟩:=g4.ck;obtain⟨vs,at2,h1,h2⟩:=bP.rel.zg6 ec bA;cases dk with
 | int j =>
  simp only[Fz]at fzk;subst fzk;obtain⟨cc,lT⟩:=cJ lT;cases lT;simp only[zX,decide_eq_true_eq]at cc;obtain⟨⟨j0,j1⟩,j2⟩:=cc;have j1:=dX j1;have j2:=dX j2;have l0:=gF;have lv:=h2.len;refine⟨a,vs,j,v,rfl,rfl,h1,by omega,j0,by omega,zbJ (d:=.list (c.take j.toNat++dx::c.drop j.toNat)) bP at2 ⟨_,bU,((h2.take _).app ?_).mono (zf1 bP at2)⟩ g5⟩;simp only[aq];exact⟨v,_,rfl,fz,h2.drop _⟩
 | _=>exact nomatch (show(R.bad:R (List D))=.ok c' from lT)
end
end
section
variable [Cs]
theorem cA.none{K:yU}{ρ ρ':En}{σ:L2.St}{H H':Hp}{a:gV}(s:cA ρ ρ' σ H H')(r:Rel K ρ' σ H')(h:H' a=none):H a=none:=by
 cases e:H a with
 | none=>rfl
 | some o =>
  by_cases m:MA ρ σ a
  ·obtain⟨o',e',_⟩:=r.fV (s.ma.mp m)
   rw[h]at e';cases e'
  ·rw[s.kp a o e m]at h;cases h
end
section
variable [Cs]
open Classical in
noncomputable def zu1(Z:gV->Prop)(H:Hp):Hp:=fun b=>if Z b then(match H b with|some (.frz _ u)=>some u|z=>z) else H b
end
variable {vs:List V}{p:Bool}{i:Nat}{ks:List (Option String)}{d:D}
section
def iP:Option String->D->Sl
 | none,d=>.val d
 | some c,.tuple fs=>.ob c fs
 | some _,_=>.no
def qk(ks:List (Option String))(fr:Bool)(n:Nat)(b:SF)(ds:List D):R D :=
 if ds.length=ks.length then(b (BV iP ks ds++zo (n-ds.length) .no)).bind fun x=>match x.1,fr with
  | .rt d,false=>.ok d
  | .rf d,true=>.ok d
  | .nx,false=>.ok .none
  | _,_=>.bad
 else .bad
section
variable [Cs]{K:yU}{H H':Hp}
def kr(K:yU)(H:Hp):List (Option String)->List D->List V->Prop
 | [],[],vs=>vs=[]
 | k::ks,d::ds,vs=>∃ v r,vs=v::r/\iY K H (iP k d) (some v)/\kr K H ks ds r
 | _,_,_=>False
theorem ztd(k:Option String)(d:D)(p:Bool)(e:D):iP k d≠.ow p e:=by
 unfold iP
 split <;> exact fun z=>nomatch z
theorem kr.len:∀{ks:List (Option String)} {ds:List D} {vs:List V},kr K H ks ds vs->vs.length=ks.length/\ds.length=ks.length
 | [],[],vs,h=>by cases h;exact⟨rfl,rfl⟩
 | k::ks,d::ds,vs,h=>by
  obtain⟨v,r,rfl,s,t⟩:=h;have:=kr.len t;simp[this.1,this.2]
 | [],_::_,_,h=>h.elim
 | _::_,[],_,h=>h.elim
theorem kr.get:∀{ks:List (Option String)} {ds:List D} {vs:List V} {i:Nat} {x:Sl} {v:Option V},kr K H ks ds vs->(BV iP ks ds)[i]?=some x->(vs.map some)[i]?=some v->iY K H x v
 | [],[],vs,i,x,v,h,e,_=>by simp at e
 | k::ks,d::ds,vs,0,x,v,h,e1,e2=>by
  obtain⟨u,r,rfl,s,t⟩:=h;simp at e1 e2;subst e1;subst e2
  exact s
 | k::ks,d::ds,vs,i+1,x,v,h,e1,e2=>by
  obtain⟨u,r,rfl,s,t⟩:=h;simp only[List.zipWith_cons_cons,zz1,zE]at e1 e2;exact kr.get t e1 e2
 | [],_::_,_,_,_,_,h,_,_=>h.elim
 | _::_,[],_,_,_,_,h,_,_=>h.elim
theorem zjb{ds:List D}:(BV iP ks ds)[i]?≠some (.ow p d):=fun e=>by
 rw[List.getElem?_zipWith]at e
 split at e
 ·exact ztd _ _ _ _ (Az e)
 ·cases e
theorem zg2:∀{ns:List dm} {vs:List V} {j:Nat} {f:dm} {v:V},ns.Nodup->ns[j]?=some f->vs[j]?=some v->(ns.zip vs).lookup f=some v
 | n::ns,u::vs,0,f,v,_,h1,h2=>by
  simp at h1 h2;subst h1;subst h2
  simp[zJ]
 | n::ns,u::vs,j+1,f,v,hn,h1,h2=>by
  simp only[zz1]at h1 h2;rw[Bm]at hn;have ne:(f==n)=false:=by
   simp only[beq_eq_false_iff_ne];exact fun z=>hn.1 (z▸BO h1)
  rw[AQ,zJ,ne];exact zg2 hn.2 h1 h2
 | [],_,_,_,_,_,h,_=>by simp at h
 | _::_,[],_,_,_,_,_,h=>by simp at h
theorem zsL{ds:List D}(cst:jI H)(f:kr K H ks ds vs):Rel K (BV iP ks ds) (vs.map some) H :=
 ⟨by rw[List.length_zipWith,zL,f.len.1,f.len.2,Nat.min_self],fun i x v e1 e2=>f.get e1 e2,fun i j a ⟨⟨p,d,e⟩,_⟩=>absurd e zjb,cst⟩
end
end
section
end
section
end
end FL
namespace L2
open PySem PySem.Spec
open PySem.Builtin.Str (strSub)
variable {X:Cx}
theorem zpj:iC X "str.startswith" (fun x vs H Q=>∃ a b,x=.str a/\vs=[.str b]/\Q (.bl (Ek a b)) H):=by
 intro pins s σ H x vs v us Q I rx rv h;obtain⟨a,b,rfl,rfl,q⟩:=h;obtain⟨t,rfl⟩:=rx;obtain⟨u,rfl,ru⟩:=rv.one;obtain⟨t2,rfl⟩:=ru;exact PySem.SC.startswith ⟨.bl _,H,I,rfl,q⟩
theorem ziY:∀(n:Nat) (xs:List dm),Vals (xs.map V.str) (strsFrom n xs)
 | _,[]=>.nil
 | n,x::r=>.cons ⟨n,rfl⟩ (ziY (n+1) r)
theorem zhf:iC X "str.split" (fun x vs H Q=>∃ a b,x=.str a/\vs=[.str b]/\(b.length==0)=false/\a.length<zt/\(zV a b).length<=zt/\(Gk a (Bx a b 0 a.length (a.length+1)) b.length).length<=zt/\∀ l,H l=none->Q (.ref l) (upd H l (.lst ((zV a b).map V.str)))):=by
 intro pins s σ H x vs v us Q I rx rv h;obtain⟨a,b,rfl,rfl,hy,hz,hz2,hz3,q⟩:=h;obtain⟨t,rfl⟩:=rx;obtain⟨w,rfl,ru⟩:=rv.one;obtain⟨u,rfl⟩:=ru;have one:zV a b=[a]->EP X pins σ Q (.ref s.heap.objs.size) { s with heap:=s.heap.push { cls:=.type "list",data:=.seq [Cr a t].toArray },toks:=s.toks }:=fun e=>by
  refine⟨.ref _,_,I.zcx (t':=s.toks) (ys:=(zV a b).map V.str) (its:=[Cr a t]) ?_ (by rw[zL];exact hz2),rfl,q _ I.fresh⟩;rw[e];exact .cons ⟨t,rfl⟩ .nil
 cases h1:(decide (a.length<b.length)||decide (Hk a<Hk b))
 ·cases hf:(Bx a b 0 a.length (a.length+1)).isEmpty
  ·refine Cb Gm (CZ _ _ _) Gn (Gp _ _) (meets_str_split_sep a b t u h1 hy hf (by omega) hz3) ?_
   refine⟨.ref _,_,I.zcx (ys:=(zV a b).map V.str) (its:=strsFrom s.toks _) ?_ (by rw[zL];exact hz2),rfl,q _ I.fresh⟩;rw[show zV a b=_ from(if_neg (ne_true_of_eq_false h1)).trans (if_neg (ne_true_of_eq_false hf))];exact ziY _ _
  ·exact Cb Gm (CZ _ _ _) Gn (Gp _ _) (meets_str_split_not_found a b t u h1 hy hf) (one ((if_neg (ne_true_of_eq_false h1)).trans (if_pos hf)))
 ·exact Cb Gm (CZ _ _ _) Gn (Gp _ _) (meets_str_split_cannot_occur a b t u h1) (one (if_pos h1))
noncomputable def oi(a b:dm):List dm:=match Bx a b 0 a.length 1 with
 | i::_=>[strSub a 0 i,b,strSub a (i+b.length) a.length]
 | []=>[a,Ax,Ax]
theorem zpi:iC X "str.partition" (fun x vs H Q=>∃ a b,x=.str a/\vs=[.str b]/\(b.length==0)=false/\a.length<=zt/\∀ l,H l=none->Q (.ref l) (upd H l (.tup ((oi a b).map V.str)))):=by
 intro pins s σ H x vs v us Q I rx rv h;obtain⟨a,b,rfl,rfl,hy,hz,q⟩:=h;obtain⟨t,rfl⟩:=rx;obtain⟨w,rfl,ru⟩:=rv.one;obtain⟨u,rfl⟩:=ru;refine Cb F.slot_str_partition (CZ _ _ _) F.entry_str_partition (F.args_str_partition_2 _ _) (meets_str_partition a b t u hy hz) ?_;have l3:(3:Nat)<=zt:=by rw[AR];decide
 have hq:=q _ I.fresh;unfold oi at hq
 revert hq
 cases Bx a b 0 a.length 1 with
 | nil=>exact fun hq=>⟨.ref _,_,I.laid (a:=s.heap.objs.size) (o:=.tup ([a,Ax,Ax].map V.str)) (fun _ _ e=>zI _ e) (zr _) ⟨l3,[.str a t,.str Ax s.toks,.str Ax s.toks],.cons ⟨_,rfl⟩ (.cons ⟨_,rfl⟩ (.cons ⟨_,rfl⟩ .nil)),⟨_,AG _ rfl,rfl,_,rfl⟩⟩,rfl,hq⟩
 | cons i r=>exact fun hq=>⟨.ref _,_,I.laid (a:=s.heap.objs.size) (o:=.tup ([strSub a 0 i,b,strSub a (i+b.length) a.length].map V.str)) (fun _ _ e=>zI _ e) (zr _) ⟨l3,[.str (strSub a 0 i) s.toks,.str b u,.str (strSub a (i+b.length) a.length) (s.toks+1)],.cons ⟨_,rfl⟩ (.cons ⟨_,rfl⟩ (.cons ⟨_,rfl⟩ .nil)),⟨_,AG _ rfl,rfl,_,rfl⟩⟩,rfl,hq⟩
theorem ziZ:∀{xs:List dm} {its:List ir},Vals (xs.map V.str) its->∃ ls:List (dm×zQ),strValues ls=its/\ls.map (·.1)=xs
 | [],_,h=>by cases h;exact⟨[],rfl,rfl⟩
 | x::xs,_,h=>by
  cases h with
  | cons h1 h2 =>
   obtain⟨t,rfl⟩:=h1;obtain⟨ls,e1,e2⟩:=ziZ h2;exact⟨(x,t)::ls,by rw[<- e1];rfl,by rw[zE,e2]⟩
theorem zph:iC X "str.join" (fun x vs H Q=>∃ a l xs,x=.str a/\vs=[.ref l]/\cw X.K H l (xs.map V.str)/\JoinOk a xs=true/\Q (.str (Fe a xs)) H):=by
 intro pins s σ H x vs v us Q I rx rv h;obtain⟨a,l,xs,rfl,rfl,hl,ok,q⟩:=h;obtain⟨t,rfl⟩:=rx;obtain⟨w,rfl,ru⟩:=rv.one;cases ru;obtain⟨its,r,pl,z⟩:=I.list hl;obtain⟨ls,e1,e2⟩:∃ ls:List (dm×zQ),strValues ls=its/\ls.map (·.1)=xs:=ziZ r;subst e1;refine PySem.SC.join (l:=ls) ?_ e2 ok fun t' k=>⟨.str _,H,I.tok _,⟨_,rfl⟩,q⟩;obtain⟨o,n,h1,h2,h3,h4⟩:=pl;exact⟨o,h1,h2,n,h4⟩
end L2
namespace FL
open PySem L2 PySem.Spec
open PyProof.Rows hiding St
variable {pos:zc}{g:dm->D->R D}{X:Cx}{name:dm}
section
noncomputable def strOf:D->R dm
 | .str a=>.ok a
 | _=>.bad
def bt(g:dm->D->R D)(f h:EF):EF:=fun ρ=>(f ρ).bind fun x=>(strOf x.1).bind fun a=>(h x.2).bind fun y=>(g a y.1).bind fun d=>.ok (d,y.2)
noncomputable def zdx(a:dm):D->R D
 | .str b=>.ok (.bool (Ek a b))
 | _=>.bad
noncomputable def strsOf:List D->Option (List dm)
 | []=>some []
 | .str a::r=>(strsOf r).map (a::·)
 | _::_=>none
def eD(a:dm):D->R D
 | .str b=>aN (!(b.length==0)&&leB (a.length+1) lim&&leB (zV a b).length lim&&leB (Gk a (Bx a b 0 a.length (a.length+1)) b.length).length lim) (.ok (.list ((zV a b).map .str)))
 | _=>.bad
def kU(a:dm):D->R D
 | .str b=>aN (!(b.length==0)&&leB a.length lim) (.ok (.tuple ((oi a b).map .str)))
 | _=>.bad
def uJ(a:dm):D->R D
 | .list ds=>(R.of (strsOf ds)).bind fun xs=>aN (JoinOk a xs) (.ok (.str (Fe a xs)))
 | _=>.bad
variable [Cs]
section
variable {K:yU}{o e:yW}{f h:EF}
noncomputable def rS(K:yU)(g:dm->D->R D):V->List V->Hp->VK->Prop:=fun x vs H Q=>∃ a dy d y,x=.str a/\vs=[y]/\Fz K H dy y/\g a dy=.ok d/\∀ v H',aA H H'->Fz K H' d v->Q v H'
theorem iq{id:String}{apos bC:zc}(slot:Slot "str" name id)(uG:typeOf (.builtin id)=pure (.type "method_descriptor"))(hm:iC X id (rS X.K g))(ho:PV K X o f)(he:PV K X e h)
  (i6:Cw o name X.env (zk o X.env)=zk o X.env:=by rfl)
  (me:((zK bC (yX [e] X.env)).all (fun x=>!x.1)&&(D3 bC (D4 [] X.env)).all (fun x=>x.1.isSome)&&decide ([e].length+([]:List B3).length+(if([]:List B3).isEmpty then 0 else 1)<30))=true:=by rfl)
  (mq:(apos.endLine==bC.line)=true:=by rfl) (cq:yX [e] X.env=(false,zk e X.env)::yX [] X.env:=by exact FL.se rfl) (jW:(zK bC (yX [] X.env)).any (·.1)=false:=by exact FL.sp rfl) :
  PV K X (.Call (.Attribute o name apos) [e] [] bC) (bt g f h):=.mk fun hK=>by
 subst hK;refine(yb Hl slot uG hm (ho rfl) (gq (he rfl) jE cq) i6 me mq cq jW).weak fun σ H Q q=>?_;obtain⟨ρ,rel,q⟩:=q;refine dO rel q fun dx ρ1 x H1 au aY fx q1=>?_;obtain⟨a,ea,q2⟩:=q1.bV;cases dx with
 | str a' =>
  cases ea;simp only[Fz]at fx;subst fx;refine⟨?_,dO au q2 fun dy ρ2 y H2 bP dh fy q3=>?_⟩
  ·rfl
  ·obtain⟨d,ed,q4⟩:=q3.bV
   exact⟨a,dy,d,y,rfl,rfl,fy,ed,fun v H' s fz=>q4.new bP s v fz⟩
 | _=>exact nomatch (show(R.bad:R dm)=.ok a from ea)
theorem zo3:iC X "str.startswith" (rS X.K zdx):=by
 intro pins s σ H x vs v us Q I rx rv h;obtain⟨a,dy,d,y,rfl,rfl,fy,e,q⟩:=h;cases dy with
 | str b =>
  cases e;simp only[Fz]at fy;subst fy;exact zpj pins s σ H _ _ v us Q I rx rv ⟨a,b,rfl,rfl,q _ H (aA.refl _) (by simp[Fz])⟩
 | _=>exact nomatch (show(R.bad:R D)=.ok d from e)
theorem aq.ofStrs{H:Hp}:∀(xs:List dm),aq K H (xs.map zg) (xs.map V.str)
 | []=>rfl
 | x::xs=>⟨_,_,rfl,by simp[Fz],aq.ofStrs xs⟩
theorem aq.strs{H:Hp}:∀{ds:List D} {vs:List V} {xs:List dm},aq K H ds vs->strsOf ds=some xs->vs=xs.map V.str
 | [],vs,xs,h,e=>by cases e;exact h
 | d::ds,vs,xs,h,e=>by
  simp only[aq]at h;obtain⟨v,r,rfl,h1,h2⟩:=h;cases d with
  | str a =>
   obtain⟨ys,e1,rfl⟩:=BE.mp (show(strsOf ds).map (a::·)=some xs from e);simp only[Fz]at h1;rw[h1,aq.strs h2 e1]
   rfl
  | _=>exact nomatch (show none=some xs from e)
theorem zcD:iC X "str.join" (rS X.K uJ):=by
 intro pins s σ H x vs v us Q I rx rv h;obtain⟨a,dy,d,y,rfl,rfl,fy,e,q⟩:=h;cases dy with
 | list ds =>
  obtain⟨xs,pI,e⟩:=bM (show(R.of (strsOf ds)).bind _=.ok d from e);obtain⟨c,e⟩:=cJ e;cases e;simp only[Fz]at fy;obtain⟨l,ws,rfl,fl,fa⟩:=fy;have ew:=aq.strs fa (si pI);subst ew;exact zph pins s σ H _ _ v us Q I rx rv ⟨a,l,xs,rfl,rfl,fl.sq,c,q _ H (aA.refl _) (by simp[Fz])⟩
 | _=>exact nomatch (show(R.bad:R D)=.ok d from e)
theorem m_split:iC X "str.split" (rS X.K eD):=by
 intro pins s σ H x vs v us Q I rx rv h;obtain⟨a,dy,d,y,rfl,rfl,fy,e,q⟩:=h;cases dy with
 | str b =>
  obtain⟨c,e⟩:=cJ (show aN _ _=.ok d from e);cases e;simp only[Fz]at fy;subst fy;simp only[zX,DC]at c;have l0:=gF;refine aT (zhf pins s σ H _ _ v us (fun v H1=>∃ p,v=.ref p/\H p=none/\H1=upd H p (.lst ((zV a b).map V.str))) I rx rv ⟨a,b,rfl,rfl,c.1.1.1,?_,?_,?_,fun l hl=>⟨l,rfl,hl,rfl⟩⟩) fun _ _ z=>zbt (aq.ofStrs _) q z
  ·have:=dX c.1.1.2;omega
  ·have:=dX c.1.2;omega
  ·have:=dX c.2;omega
 | _=>exact nomatch (show(R.bad:R D)=.ok d from e)
theorem zcE:iC X "str.partition" (rS X.K kU):=by
 intro pins s σ H x vs v us Q I rx rv h;obtain⟨a,dy,d,y,rfl,rfl,fy,e,q⟩:=h;cases dy with
 | str b =>
  obtain⟨c,e⟩:=cJ (show aN _ _=.ok d from e);cases e;simp only[Fz]at fy;subst fy;simp only[zX,DC]at c;have l0:=gF;refine zpi pins s σ H _ _ v us Q I rx rv ⟨a,b,rfl,rfl,c.1,by have:=dX c.2;omega,fun l hl=>q _ _ (fun z o hz=>by rw[aU (fun w=>by subst w;rw[hl]at hz;cases hz)];exact hz) ?_⟩;simp only[Fz];exact⟨l,_,rfl,.inl bU,aq.ofStrs _⟩
 | _=>exact nomatch (show(R.bad:R D)=.ok d from e)
end
end
section
def c5:D->D->R D
 | .str a,.str b=>aN (leB (a.length+b.length) lim) (.ok (.str (a++b)))
 | x,y=>aH x y
def e7:D->R D
 | .str a=>aN (leB a.length lim) (.ok (.int (a.length:Int)))
 | x=>bz x
def rL(k d:D):R D:=match k,d with
 | .str a,.str b=>.ok (.bool (!(Bx b a 0 b.length 1).isEmpty))
 | _,_=>i9 k d
def iM:D->D->R D
 | .str a,.int i=>aN (leB a.length lim) ((R.of (FL.bX a.cps.toList i)).bind fun c=>.ok (.str ⟨#[c]⟩))
 | x,y=>aD x y
variable [Cs]
section
variable {K:yU}
theorem mI:aW X (A2 .Add) (rD X.K c5):=by
 intro pins s σ H x y v u Q I rx ry h;obtain⟨dx,dy,d,tx,ty,e,q⟩:=h;have old:c5 dx dy=aH dx dy->_:=fun z=>bS pins s σ H x y v u Q I rx ry ⟨dx,dy,d,tx,ty,z▸e,q⟩;cases dx with
 | str a =>
  cases dy with
  | str b =>
   obtain⟨c,e⟩:=cJ (show aN _ _=.ok d from e);cases e;have hx:x=.str a:=by simpa[Tp,Fz] using tx
   have hy:y=.str b:=by simpa[Tp,Fz] using ty
   subst hx hy;obtain⟨t,rfl⟩:=rx;obtain⟨t2,rfl⟩:=ry;have l0:=gF;exact PySem.SB.add (fun t' k=>⟨.str _,H,I.tok _,⟨_,rfl⟩,q _ H (aA.refl _) (by simp[Fz])⟩) (by have:=dX c;omega)
  | _=>exact old rfl
 | _=>exact old rfl
theorem t6:gw X (.builtin "len") e7:=by
 intro pins s σ H xs us Q I r h;obtain⟨x,dx,d,rfl,tx,e,q⟩:=h;have old:e7 dx=bz dx->_:=fun z=>jm pins s σ H [x] us Q I r ⟨x,dx,d,rfl,tx,z▸e,q⟩;cases dx with
 | str a =>
  obtain⟨c,e⟩:=cJ (show aN _ _=.ok d from e);cases e;have hx:x=.str a:=by simpa[Tp,Fz] using tx
  subst hx;have l0:=gF;exact zkJ pins s σ H _ us Q I r ⟨a,rfl,by have:=dX c;omega,q _ H (aA.refl _) (by simp[Fz])⟩
 | _=>exact old rfl
theorem zpG(hu:X.A.units+80<Ae):aW X (zF .In) (rD X.K rL):=by
 intro pins s σ H x y v u Q I rx ry h;obtain⟨dx,dy,d,tx,ty,e,q⟩:=h;have old:rL dx dy=i9 dx dy->_:=fun z=>zhz hu pins s σ H x y v u Q I rx ry ⟨dx,dy,d,tx,ty,z▸e,q⟩;cases dx with
 | str a =>
  cases dy with
  | str b =>
   cases (show R.ok _=.ok d from e);have hx:x=.str a:=by simpa[Tp,Fz] using tx
   have hy:y=.str b:=by simpa[Tp,Fz] using ty
   subst hx hy;exact zpY pins s σ H _ _ v u Q I rx ry ⟨a,b,rfl,rfl,q _ H (aA.refl _) (by simp[Fz])⟩
  | _=>exact old rfl
 | _=>exact old rfl
theorem zcY:jK X (rD X.K iM):=by
 intro value slice pins s σ H x y v u Q I rx ry h hs;obtain⟨dx,dy,d,tx,ty,e,q⟩:=h;have old:iM dx dy=aD dx dy->_:=fun z=>cy value slice pins s σ H x y v u Q I rx ry ⟨dx,dy,d,tx,ty,z▸e,q⟩ hs;cases dx with
 | str a =>
  cases dy with
  | int i =>
   obtain⟨c,e⟩:=cJ (show aN _ _=.ok d from e);obtain⟨w,ew,e⟩:=bM e;cases e;have hx:x=.str a:=by simpa[Tp,Fz] using tx
   have hy:y=.int i:=by simpa[Tp,Fz] using ty
   subst hx hy;have l0:=gF;exact znm value slice pins s σ H _ _ v u Q I rx ry ⟨a,i,w,rfl,rfl,by have:=dX c;omega,si ew,q _ H (aA.refl _) (by simp[Fz])⟩ hs
  | _=>exact old rfl
 | _=>exact old rfl
end
end
end FL
namespace L2
open PySem PySem.Spec
variable {X:Cx}{e:yW}{te:TE}{pos:zc}
end L2
namespace FL
open PySem L2 PySem.Spec
open PyProof.Rows hiding St
variable [Cs]
end FL
namespace L2
open PySem PySem.Spec
variable {X:Cx}
variable {o:Option Int}{v:ir}
theorem zhG(h:BQ v o):∃ l:Option (Int×zQ),v=partValue l/\o=l.map (·.1):=by
 cases h with
 | none=>exact⟨none,rfl,rfl⟩
 | _=>exact⟨some (_,_),rfl,rfl⟩
theorem ztg:qL X (fun x lo hi H Q=>∃ z:dm,x=.str z/\z.length<=zt/\Q (.str (Ay z lo hi)) H):=by
 intro pins s σ H x v vl vu lo hi sl Q I rx hs pl pu h;obtain⟨z,rfl,hz,q⟩:=h;obtain⟨t,rfl⟩:=rx;refine⟨"str",_,F.slot_str_getitem.lookup,CZ _ _ _,?_⟩;have fin:EP X pins σ Q (.str (Ay z lo hi) t) s/\∀ t' k,EP X pins σ Q (.str (Ay z lo hi) t') { s with toks:=k }:=⟨⟨.str _,H,I,⟨_,rfl⟩,q⟩,fun t' k=>⟨.str _,H,I.tok _,⟨_,rfl⟩,q⟩⟩;obtain⟨l,rfl,rfl⟩:=zhG pl;obtain⟨u,rfl,rfl⟩:=zhG pu;exact wpAny_getItem_str_slice (l:=l) (u:=u) (st:=none) hs rfl (post_val_or_str ⟨AB (Txt.slice_le z _ _) hz,fin.2⟩)
end L2
namespace FL
open PySem L2 PySem.Spec
open PyProof.Rows hiding St
variable {f:EF}{p2 pos:zc}{X:Cx}{a:yW}
section
def oz(d:D)(lo hi:Option Int):R D:=match d with
 | .str a=>aN (leB a.length lim) (.ok (.str (Ay a lo hi)))
 | _=>iw d lo hi
def cE(f:EF)(lo hi:OF):EF:=fun ρ=>(f ρ).bind fun x=>(lo x.2).bind fun l=>(hi l.2).bind fun u=>(oz x.1 l.1 u.1).bind fun d=>.ok (d,u.2)
variable [Cs]
section
variable {K:yU}{lo hi:Option yW}{fl fh:OF}
def zsB(K:yU):V->Option Int->Option Int->Hp->VK->Prop:=fun x lo hi H Q=>∃ dx d,Tp K H dx x/\oz dx lo hi=.ok d/\∀ v H',aA H H'->Fz K H' d v->Q v H'
theorem zs6:qL X (zsB X.K):=by
 intro pins s σ H x v vl vu lo hi sl Q I rx hs pl pu h;obtain⟨dx,d,tx,e,q⟩:=h;have old:oz dx lo hi=iw dx lo hi->_:=fun z=>zs5 pins s σ H x v vl vu lo hi sl Q I rx hs pl pu ⟨dx,d,tx,z▸e,q⟩;cases dx with
 | str z =>
  obtain⟨c,e⟩:=cJ (show aN _ _=.ok d from e);cases e;have hx:x=.str z:=by simpa[Tp,Fz] using tx
  subst hx;have l0:=gF;exact ztg pins s σ H _ v vl vu lo hi sl Q I rx hs pl pu ⟨z,rfl,by have:=dX c;omega,q _ H (aA.refl _) (by simp[Fz])⟩
 | _=>exact old rfl
theorem mM(he:PV K X a f)(hl:qK K X lo fl)(hu:qK K X hi fh):PV K X (.Subscript a (.Slice lo hi none p2) pos) (cE f fl fh):=.mk fun hK=>by
 subst hK;exact(zqt zs6 (he rfl) (hl rfl) (hu rfl)).weak fun σ H Q=>by
  rintro⟨ρ,rel,q⟩;refine dO rel q fun dx ρ1 x H1 au aY fx q1=>goO au q1 fun l ρ2 H2 bP dh q2=>goO bP q2 fun u ρ3 H3 iO qw q3=>?_;obtain⟨d,ed,q4⟩:=q3.bV;exact⟨dx,d,((fx.mono (dh.d9 au)).mono (qw.d9 bP)).tp,ed,fun v H' s fz=>q4.new iO s v fz⟩
end
end
section
def rN:D->R D
 | .str a=>aN (leB a.length 640) ((R.of (PySem.intText? a)).bind fun n=>.ok (.int n))
 | x=>intD x
variable [Cs]
section
theorem zeW:gw X (.type "int") rN:=by
 intro pins s σ H xs us Q I r h;obtain⟨x,dx,d,rfl,tx,e,q⟩:=h;have old:rN dx=intD dx->_:=fun z=>zeV pins s σ H [x] us Q I r ⟨x,dx,d,rfl,tx,z▸e,q⟩;cases dx with
 | str a =>
  obtain⟨c,e⟩:=cJ (show aN _ _=.ok d from e);obtain⟨n,en,e⟩:=bM e;cases e;have hx:x=.str a:=by simpa[Tp,Fz] using tx
  subst hx;obtain⟨u,rfl,ru⟩:=vals1 r;obtain⟨t,rfl⟩:=ru;exact PySem.W.KIN.call_text (si en) (dX c) ⟨.int n,H,I.tok _,⟨_,rfl⟩,q _ H (aA.refl _) (by simp[Fz])⟩
 | _=>exact old rfl
end
end
end FL
namespace L2
open PySem PySem.Spec PyProof.Rows
variable {tg:yW}{X:Cx}{P:zu}{tl:TE}{w:zq}
noncomputable def gy(c:Nat):dm:=⟨#[c]⟩
def Its(x:dm):It:=⟨fun i _=>i<x.cps.size,fun i H v H'=>H'=H/\∃ c,x.cps[i]?=some c/\v=.str (gy c),fun i _=>x.cps.size<=i⟩
theorem zuc{K:yU}(x:dm)(t:zQ)(it:gV):Turn P w K tg (Its x) [it] it (fun i h=>h.IsStrIter it "str_ascii_iterator" x t i) where
 mem:=by simp
 obj:=fun i h st b hb=>by
  have e:b=it:=by simpa using hb
  subst e;obtain⟨o,e,c,d⟩:=st;exact⟨o,e,fun v z=>by rw[d]at z;cases z⟩
 keep:=fun i h h' st k=>let⟨o,ho,r⟩:=st;⟨o,k it (by simp) o ho,r⟩
 item:=by
  intro X hP hw hK hc i pins s σ H E I hf st hg;subst hP hw hK;obtain⟨f0,f1,f2,f3,f4,f5⟩:=hf it (by simp);have hx:x.cps[i]?=some (x.cps[i]'hg):=EX hg;refine wpAny_pyNext_ascii_item st hx fun h' gJ sb=>?_;have I1:Inv X pins σ H { s with heap:=h',toks:=s.toks+1 }:=I.turned (t':=s.toks+1) (fun b o hb e=>(sb.2 b hb).trans e) f0 f1 f3 f4 f5;obtain⟨o,e,c,d⟩:=id gJ;exact⟨_,rfl,xj (s:={ s with heap:=h',toks:=s.toks+1 }) e c d (by decide) ⟨.str (gy (x.cps[i]'hg)),H,I1,⟨_,rfl⟩,⟨rfl,_,hx,rfl⟩,gJ,fun b hb=>(hf b hb).1⟩⟩
 done:=by
  intro X hP hw hK hc i pins s σ H E I hf st hg;subst hP hw hK;obtain⟨f0,f1,f2,f3,f4,f5⟩:=hf it (by simp);exact wpAny_pyNext_ascii_end (I.ok.hd hc) st (Gf hg) fun h' eb=>⟨rfl,I.turned (t':=s.toks) (fun b o hb e=>eb b o hb e) f0 f1 f3 f4 f5⟩
 self:=fun _ _ _ _ _ st h=>wpAny_pyIter_striter_ascii st h
theorem zqG{l:yW}(hl:PE X l tl):PI X tg l (fun σ H R=>tl σ H fun v H1=>∃ x,v=.str x/\x.cps.all (·<128)=true/\R (Its x) H1):=by
 intro pins s σ H R I h;refine aT (hl pins s σ H _ I h) fun v s1 ⟨v0,H1,I1,r1,q1⟩=>?_;obtain⟨x,rfl,ha,q⟩:=q1;obtain⟨t,rfl⟩:=r1;refine wpAny_pyIter_ascii ha ?_;refine⟨s1.heap.objs.size,[s1.heap.objs.size],_,_,H1,rfl,I1.kept (t':=s1.toks) fun b o e=>zI _ e,zuc x t _,⟨_,AG _ rfl,rfl,rfl⟩,fun b hb=>?_,q⟩;have e:b=s1.heap.objs.size:=by simpa using hb
 subst e;exact I1.lX (zr _) (I1.aC.fresh (zr _))
end L2
namespace FL
open PySem L2 PySem.Spec
open PyProof.Rows hiding St
def zdr:D->R (List D)
 | .str x=>aN (x.cps.all (·<128)) (.ok (x.cps.toList.map fun c=>.str (gy c)))
 | _=>.bad
def iT(f:EF):IF:=fun ρ=>(f ρ).bind fun x=>(zdr x.1).bind fun l=>.ok (l,x.2)
variable {f:EF}{X:Cx}{H:Hp}
section
variable [Cs]{K:yU}{tg e:yW}
theorem zus(x:dm):Walk K (Its x) (x.cps.toList.map fun c=>.str (gy c)) H:=by
 refine⟨fun i d H' _ e=>?_,fun i H' _ h=>show x.cps.size<=i by simpa using h⟩;rw[AH,BE]at e;obtain⟨c,e1,rfl⟩:=e;rw[Fd]at e1;have hi:i<x.cps.size:=by
  rcases Nat.lt_or_ge i x.cps.size with h|h
  ·exact h
  ·rw[Gf h]at e1;cases e1
 refine⟨hi,fun v f9 y=>?_⟩;obtain⟨rfl,c',e2,rfl⟩:=y;rw[e1]at e2;cases e2;exact⟨aA.refl _,by simp[Fz]⟩
theorem zrw(he:PV K X e f):iF K X tg e (iT f):=.mk fun hK=>by
 subst hK;refine(zqG (he rfl)).weak fun σ H R=>?_;rintro⟨ρ,rel,q⟩;refine dO rel q fun dx ρ1 x H1 au aY fx q1=>?_;obtain⟨items,ei,q2⟩:=q1.bV;cases dx with
 | str a =>
  obtain⟨c,ei⟩:=cJ (show aN (a.cps.all (·<128)) (.ok (a.cps.toList.map fun c=>.str (gy c)))=.ok items from ei);cases ei;simp only[Fz]at fx;exact⟨a,fx,c,q2.now au _ (zus a)⟩
 | _=>cases ei
end
end FL
namespace L2
open PySem PySem.Spec PyProof.Rows PySem.W
end L2
namespace FL
open PySem L2 PySem.Spec
open PyProof.Rows hiding St
end FL
namespace L2
open PySem PySem.Spec PyProof.Rows PySem.W
section
end
section
end
section
end
end L2
namespace FL
open PySem L2 PySem.Spec
open PyProof.Rows hiding St
section
end
section
end
end FL
namespace FL
open PySem L2 PySem.Spec PySem.W
variable {p:ClassData->Bool}{f name:dm}{c t:ir}{cs:List gV}{r:Option ir}{C ns:gV}
section
section
variable {K:yU}
theorem zcT(s:dQ cs K)(e:nsIn K ns name=some r):nsIn (aO cs K) ns name=some r:=by
 unfold nsIn at e ⊢
 split at e
 ·rename_i c d es n sl ho
  rw[jr s ho fun _ _ z=>nomatch z];exact e
 ·cases e
theorem zqb(s:dQ cs K)(e:ownIn K name c=some r):ownIn (aO cs K) name c=some r:=by
 cases c with
 | ref a =>
  unfold ownIn at e ⊢;simp only at e ⊢
  split at e
  ·rename_i x y cd sl ho
   rw[jr s ho fun _ _ z=>nomatch z];exact zcT s e
  ·cases e
 | _=>exact e
theorem zen(s:dQ cs K){name:dm}:∀{l:List ir} {r:Option ir},alongIn K name l=some r->alongIn (aO cs K) name l=some r
 | [],r,e=>e
 | c::l,r,e=>by
  unfold alongIn at e ⊢;cases h:ownIn K name c with
  | none=>rw[h]at e;cases e
  | some o =>
   rw[h]at e;rw[zqb s h];cases o with
   | some v=>exact e
   | none=>exact zen s e
theorem ug(s:dQ cs K)(e:findIn K t name=some r):findIn (aO cs K) t name=some r:=by
 cases t with
 | ref a =>
  unfold findIn at e ⊢;simp only at e ⊢
  split at e
  ·rename_i x y cd sl ho
   rw[jr s ho fun _ _ z=>nomatch z];exact zen s e
  ·cases e
 | _=>exact e
theorem ze8(s:dQ cs K)(e:(clsIn K C).any p=true):(clsIn (aO cs K) C).any p=true:=by
 unfold clsIn at e ⊢
 split at e
 ·rename_i x y cd sl ho
  rw[jr s ho fun _ _ z=>nomatch z];exact e
 ·cases e
theorem jj.cut(s:dQ cs K)(h:jj K C f):jj (aO cs K) C f:=ug s h
end
end
variable {a f:gV}{o:zb}{r:Bool}
section
section
variable {K:yU}
theorem ziR(s:dQ cs K)(l:K.lookup a=some o)(n:∀ its m,o.data≠.seq its m)(e:typeIn K (.ref a)=some t):typeIn (aO cs K) (.ref a)=some t:=by
 unfold typeIn at e ⊢;simp only at e ⊢;rw[jr s l n];rw[l]at e;exact e
theorem vB(s:dQ cs K){b:ir}(e:subIn K t b=some r):subIn (aO cs K) t b=some r:=by
 cases t with
 | ref D =>
  unfold subIn mroIn at e ⊢;simp only at e ⊢;obtain⟨cd,e1,e2⟩:=DE.mp e;refine DE.mpr ⟨cd,?_,e2⟩;unfold clsIn at e1 ⊢
  split at e1
  ·rename_i x y cd' sl ho
   rw[jr s ho fun _ _ z=>nomatch z];exact e1
  ·cases e1
 | _=>exact e
theorem znf(s:dQ cs K)(l:K.lookup f=some o)(n:∀ its m,o.data≠.seq its m)(e:isFn K (.ref f)=true):isFn (aO cs K) (.ref f)=true:=by
 unfold isFn at e ⊢;rw[ziR s l n (eq_of_beq e)]
 decide
end
end
end FL
namespace FL
open PySem L2 PySem.Spec
open PyProof.Rows hiding St
section
def zjc(ρ0 ρ1:En)(d:D)(it j:Nat)(dead aL:List Nat):Prop :=
 (∀(i:Nat) x,ρ1[i]?=some x->i=it\/i=j\/i∈dead\/x=.no\/(∃ c,x=.val c/\ρ0[i]?=some (.val c)/\i∉aL)\/∃(p:Bool) (ns:List Int),x=.ow p (.list (ns.map zH))) /\
 (∀(i:Nat) p c,i=it\/i=j\/i∈dead->ρ1[i]?≠some (.ow p c))/\j<ρ1.length/\(∀ i∈dead,i<ρ1.length) /\
 ∃ rows:List (List (List Int)),d=.list (rows.map fun r=>.list (r.map fun q=>.tuple (q.map zH)))
noncomputable def kill(ks:List Nat)(ρ:En):En:=ρ.mapIdx fun i x=>if i∈ks then .no else x
def zbs(ρ:En)(d:D)(it j:Nat)(dead:List Nat):En:=(kill (it::dead) ρ).set j (.val d)
open Classical in
noncomputable def zuU(f:EF)(it j:Nat)(dead aL:List Nat)(t:SF)(ρ0:En):SF:=fun ρ=>(f ρ).bind fun y=>if zjc ρ0 y.2 y.1 it j dead aL then t (zbs y.2 y.1 it j dead) else .bad
def LL(d:D):Prop:=∃ rows:List (List D),d=.list (rows.map Gq)
open Classical in
noncomputable def zuY(it:Nat)(f:EF)(g:En->SF):SF:=fun ρ=>(f ρ).bind fun y=>if LL y.1 then(gN it y.1 y.2).bind fun ρ1=>g ρ ρ1 else .bad
variable [Cs]
end
section
variable [Cs]
end
section
end
section
end
end FL
namespace L2
open PySem PySem.Spec PyProof.Rows
variable {s:kb}{E:ir->kb->Prop}{col:Option Bool}{dd:Option gV}{ab hdct:Bool}{prog:zu}{A:zx}{g:Array GenState}{qT:List ir}{args:List yW}{sn:List dm}{env:zC}{M:B8}{t:Nat}{x:Sem ir}{Q:Flow->kb->Prop}{d:Drawn}{h:zh}{fI:gV}{mN:dm->Option ir}{oI:zb}{w:zq}
section
variable {nm q:dm}{C N:gV}{bs bm hV:List ir}{sub:List ir}{k0 k1 k2 k3 k5:Option ir}{B Bn newId nid zcn rK:String}
theorem zsD(i6:bm.contains (.type "BaseException")=true)(hh:A.handled=none)
  (h:yY M A x (fun v s₁=>∃ e o,v=.ref e/\s₁.heap.get? C=some (DH nm q C N bs bm hdct sn sub ab col dd k0 k1 k2 k3 k5 newId)/\s₁.heap.get? e=some o/\o.cls=.ref C/\(∃ vs,o.data=.fields vs/\vs[1]?=some .none)/\E (.ref e) s₁) E s) :
  yY M A (raiseStmt env (some x) none) Q E s:=by
 have hcB:(Ac C::bm).contains (.type "BaseException")=true:=by rw[List.contains_cons,i6,Bool.or_true]
 unfold raiseStmt;refine yV (z8 h (fun v s₁ h₁=>?_) fun _ _ x=>x);obtain⟨e,o,rfl,hC,he,hc,⟨vs,hd,hv⟩,hE⟩:=h₁;obtain⟨c0,d0,dat,sl⟩:=o;simp only at hc hd;subst hc hd;obtain⟨hp,g,d,tk,os⟩:=s₁
 repeat (first|with_reducible refine El he ?_|with_reducible refine El hC ?_|(with_reducible refine wpAny_isSubtype_exc hC ?_;rw[hcB])|wp_step)
 rw[hv];refine zi ?_;rw[if_neg (by decide)];exact zi (wpAny_raiseNew_none hh hE)
section
variable {os:OsState}
theorem zuj(Fn:Dc Bn newId rK qT)(nI:hV.contains (.type Bn)=true)(F:Dc B nid zcn hV)(T:OwnTail h hV bm){rest:List ir}{Q:C6->kb->Prop}
  (hC:h.get? C=some (DH nm q C N bs bm hdct sn sub ab col dd k0 k1 k2 k3 k5 newId))(hn:h.Ns N mN)(hi:mN "__init__"=some (.ref fI)) (uy:h.get? fI=some oI) (uz:oI.cls=.type "function")
  (hq:∀ h' e,Gr h h' e (.ref C) rest->yY (yZ prog w) A (call (.ref fI) (.ref e::rest)) (fun r s'=>r=.none/\Q (.done (.ret (.ref e))) s') E ⟨h',g,d,t,os⟩) (hrest:rest.length<=zt:=by size_fits) :
  yY (yZ prog w) A (Bo.«type.__call__» ⟨.ref C::rest,[]⟩) Q E ⟨h,g,d,t,os⟩:=by
 repeat (first|with_reducible refine El hC ?_|with_reducible refine wpAny_madeBy_exc hC ?_|wp_step)
 refine codeAny_call_builtin_code (Code.quiet_builtin _ Fn.quiet) (wpAny_check_new_subU Fn nI T hC ?_);refine codeAny_exc_new_subU Fn nI F T hC ?_ hrest;show yY _ _ _ _ _ _;have hC₁:=zI { cls:=.ref C,data:=.fields #[.ref h.objs.size,.none,.none,.none,.bool false,.none] }
  (zI { cls:=.type "tuple",data:=.seq rest.toArray } hC)
 have zmO:=zI { cls:=.ref C,data:=.fields #[.ref h.objs.size,.none,.none,.none,.bool false,.none] }
  (zI { cls:=.type "tuple",data:=.seq rest.toArray } uy)
 have hn₁:((h.push { cls:=.type "tuple",data:=.seq rest.toArray }).push { cls:=.ref C,data:=.fields #[.ref h.objs.size,.none,.none,.none,.bool false,.none] }).Ns N mN :=
  let⟨o,es,ep,e,r⟩:=hn;⟨o,es,ep,zI _ (zI _ e),r⟩
 have uB:((h.push { cls:=.type "tuple",data:=.seq rest.toArray }).push
   { cls:=.ref C,data:=.fields #[.ref h.objs.size,.none,.none,.none,.bool false,.none] }).get? (h.objs.size+1)=some
   { cls:=.ref C,data:=.fields #[.ref h.objs.size,.none,.none,.none,.bool false,.none] }:=by heap_get
 have hcC:(Ac C::bm).contains (.ref C)=true:=by simp
 have T₁:=T.keeps (h':=(h.push { cls:=.type "tuple",data:=.seq rest.toArray }).push { cls:=.ref C,data:=.fields #[.ref h.objs.size,.none,.none,.none,.bool false,.none] })
  fun b o e=>zI _ (zI _ e)
 unfold EL
 repeat (first|with_reducible refine El uB ?_|(with_reducible refine wpAny_isSubtype_exc hC₁ ?_;rw[hcC])|wp_step)
 show yY _ _ (typeLookup (.ref C) _) _ _ _;refine wpAny_typeLookup_tail hC₁ hn₁ T₁ F.mroIs F.init.lookup ?_;rw[hi];refine Bc (yV ?_);unfold bindSpecial;refine yV (Du (T:="function") ⟨_,zmO,uz⟩ ?_);rw[if_pos (by decide)];refine zi (yV (z8 (hq _ (h.objs.size+1) ⟨fun b o hb=>zI _ (zI _ hb),Cu (Nat.le_succ _),h.objs.size,uB,Cu (zr _),?_⟩) (fun r s' hr=>?_) fun _ _ x=>x))
 ·exact zI _ (Heap.get?_push_at rfl rfl)
 ·obtain⟨rfl,hQ⟩:=hr
  wp_walk
  exact hQ
theorem zkH(Fn:Dc Bn newId rK qT)(nI:hV.contains (.type Bn)=true)(F:Dc B nid zcn hV)(T:OwnTail h hV bm){rest:List ir}{Q:ir->kb->Prop}
  (hC:h.get? C=some (DH nm q C N bs bm hdct sn sub ab col dd k0 k1 k2 k3 k5 newId))(hn:h.Ns N mN)(hi:mN "__init__"=some (.ref fI)) (uy:h.get? fI=some oI) (uz:oI.cls=.type "function")
  (hq:∀ h' e,Gr h h' e (.ref C) rest->yY (yZ prog w) (A.under (.builtin "type.__call__" ⟨.ref C::rest,[]⟩)) (call (.ref fI) (.ref e::rest)) (fun r s'=>r=.none/\Q (.ref e) s') E ⟨h',g,d,t,os⟩) (hrest:rest.length<=zt:=by size_fits) :
  yY (yZ prog w) A (call (.ref C) rest) Q E ⟨h,g,d,t,os⟩:=by
 have f1:=tc_lookup;have f2:=tc_bind (.ref C);have hT:(⟨h,g,d,t,os⟩:kb).TypeIs (.ref C) "type":=⟨_,hC,rfl⟩;refine DW (codeAny_of_tree ?_);show yY _ _ (callAny (.ref C) _) _ _ _
 repeat (any_goals (first|assumption|with_reducible refine El hC ?_|wp_step))
 refine⟨rfl,?_⟩;refine codeAny_call_builtin_at (Code.quiet_builtin _ (by decide +kernel)) entry_typeCall (wpAny_check_type_call_sub hC (zuj (hrest:=hrest) Fn nI F T hC hn hi uy uz fun h' e hm=>?_));exact hq h' e hm
end
theorem zsC(Fn:Dc Bn newId rK qT)(nI:hV.contains (.type Bn)=true)(F:Dc B nid zcn hV){x:dm}{np bC pos:zc}
  (i6:bm.contains (.type "BaseException")=true) (hh:A.handled=none) (jW:(zK bC (yX args env)).any (·.1)=false) (hi:mN "__init__"=some (.ref fI)) (uz:oI.cls=.type "function")
  (h:yY (yZ prog w) A (zk (.Name x np) env) (fun f s₁=>f=.ref C/\yY (yZ prog w) A (evalArgs (.ref C) true (zK bC (yX args env)) [])
   (fun a s₂=>a.kw=[]/\a.pos.length<=zt/\s₂.heap.get? C=some (DH nm q C N bs bm hdct sn sub ab col dd k0 k1 k2 k3 k5 newId)/\s₂.heap.Ns N mN/\OwnTail s₂.heap hV bm/\s₂.heap.get? fI=some oI /\
    ∀ h' e,Gr s₂.heap h' e (.ref C) a.pos->yY (yZ prog w) (A.under (.builtin "type.__call__" ⟨.ref C::a.pos,[]⟩)) (call (.ref fI) (.ref e::a.pos)) (fun r s'=>r=.none/\s'.heap.get? C=some (DH nm q C N bs bm hdct sn sub ab col dd k0 k1 k2 k3 k5 newId)/\(∃ o,s'.heap.get? e=some o/\o.cls=.ref C/\∃ vs,o.data=.fields vs/\vs[1]?=some .none)/\E (.ref e) s') E { s₂ with heap:=h' }) E s₁) E s) :
  yY (yZ prog w) A (exec (.Raise (some (.Call (.Name x np) args [] bC)) none pos) env) Q E s:=by
 rw[arm_exec_Raise];refine yV (BZ (zsD (C:=C) (nm:=nm) (q:=q) (N:=N) (bs:=bs) (bm:=bm) (hdct:=hdct) (sn:=sn) (sub:=sub) (ab:=ab) (col:=col) (dd:=dd) (k0:=k0) (k1:=k1) (k2:=k2) (k3:=k3) (k5:=k5) (newId:=newId) i6 hh (yV (z8 (wpAny_Call_ofName (z8 h (fun f s₁ h₁=>?_) fun _ _ x=>x)) (fun v s₃ h₃=>yV (BZ (zi h₃))) fun _ _ x=>x))));obtain⟨rfl,h₁⟩:=h₁;unfold callWith;refine yV (Bc (z8 h₁ (fun a s₂ h₂=>yV (BZ ?_)) fun _ _ x=>x));obtain⟨apos,akw⟩:=a;obtain⟨hkw,hlen,hC,hn,T,uy,h₂⟩:=h₂;obtain rfl:akw=[]:=hkw;obtain⟨hp,g,d,tk,os⟩:=s₂;simp only[jW];refine yV (wpAny_keeperOf_exc hC ?_);refine yV (zkH (hrest:=hlen) Fn nI F T hC hn hi uy uz fun h' e hm=>z8 (h₂ h' e hm) (fun r s' z=>⟨z.1,yV (Bc (wpAny_point (zi ?_)))⟩) fun _ _ z=>z);obtain⟨_,z1,⟨o,z2,z3,z4⟩,z5⟩:=z;exact⟨e,o,rfl,z1,z2,z3,z4,z5⟩
end
end L2
namespace L2
open PySem PySem.Spec PyProof.Rows
open Builtin Builtin.ObjectAttr
noncomputable def sj:List ir->Bool
 | [.type a,.type b,.type c,.type d]=>a == "ValueError" && b == "Exception" && c == "BaseException" && d == "object"
 | .ref _::r=>sj r
 | _=>false
theorem zia(self:ir):∀{l:List ir},sj l=true->refuseLoop self "__setattr__" l=pure ()
 | [.type a,.type b,.type c,.type d],e=>by
  unfold sj at e;simp only[zX,beq_iff_eq]at e;obtain⟨⟨⟨rfl,rfl⟩,rfl⟩,rfl⟩:=e;exact PySem.F.store_ValueError.passes self
 | .ref c::r,e=>by rw[refuseLoop_ref];exact zia self (by unfold sj at e;exact e)
structure jJ(K:yU)(C:gV):Prop extends iS K C where
 hd:Hm K C=true
 po:((A1 K C).any fun cd=>sj cd.mro)=true
 sa:Bl K (.ref C) "__setattr__"=some (some (.builtin "object.__setattr__"))
variable {vs:Array ir}{s:kb}{prog:zu}{A:zx}{E:ir->kb->Prop}{v:ir}{expr:Bool}{tk:zQ}{Q:Unit->kb->Prop}{ox:zb}{name:dm}{w:zq}{od:Option zb}
section
variable {K:yU}{x C:gV}
theorem zp8{R:Result->kb->Prop}(X:K.In s.heap)(I:Ci s.heap x ox C od)(c:jJ K C)(ht:Bl K (.ref C) name=some none)
  (h:yY (yZ prog w) A.in1 (storeInOwnDict (.ref x) (.ref C) (.str name tk) name v false) (fun fin s'=>match fin with | .done f=>R (.ok f) s' | .again c'=>c'.quiet=true/\BA (yZ prog w) A c' R s') (fun e s'=>R (.error e) s') s) :
  BA (yZ prog w) A (.call (.builtin "object.__setattr__") ⟨[.ref x,.str name tk,v],[]⟩) R s:=by
 have SF:=PySem.F.store_object;obtain⟨cd,hc,ho⟩:=Hn c.po;have sub:Cg (yZ prog w) s.heap (EL (.ref x) (.type "object")) true:=I.type.andThen (PySem.W.looks_mroIn X c.ob);refine FY SF.slot.plain SF.entry (@PySem.W.check_slot (yZ prog w) _ _ s "object.__setattr__" "object" "__setattr__" (.ref x) [.str name tk,v] [] _ SF.kind SF.split sub (SF.args (.ref x) (.str name tk) v) ?_);have hm:Cg (yZ prog w) s.heap (mroOf (.ref C)) cd.mro:=(Ho X hc).andThen .now;rw[PySem.W.osa_eq,refuse_eq];refine yV (yV (I.type.here (yV (hm.here ?_))));rw[zia _ ho];exact zi (yV (I.type.here (yV ((DA X ht).here (yV (zi h))))))
theorem zs9(X:K.In s.heap)(c:jJ K C)(ht:Bl K (.ref C) name=some none)(hx:s.heap.get? x=some ox)(hc:ox.cls=.ref C)(hd:ox.dict=none)(hv:ox.data=.fields vs)
  (h:∀ h',h'.Ns1 s.heap.objs.size (fun y=>if y=name then some v else none)->h'.get? x=some { ox with dict:=some s.heap.objs.size }->(∀ b o,b≠x->s.heap.get? b=some o->h'.get? b=some o)->Q () { s with heap:=h',toks:=s.toks+2 }) :
  yY (yZ prog w) A (setAttr (.ref x) name v) Q E s:=by
 have I:Ci s.heap x ox C none:=⟨hx,hc,by unfold EW;rw[hv],by rw[hd];trivial⟩;refine PySem.W.set_plain X I c.sa (zp8 (s:={ s with toks:=s.toks+1 }) X I c ht ?_);obtain⟨cd,eZ,eN⟩:=Hn c.hd;obtain⟨oc,odi,oda,gR⟩:=ox;dsimp only at hc hd hv;subst hc hd hv;refine yV (zi (yV (yV (EK hx (yV (PySem.W.Looks.here (s:={ s with toks:=s.toks+1 }) (Ho X eZ) ?_))))));rw[eN];have hx₁:(s.heap.push { cls:=.type "dict",data:=.dict #[] }).get? x=some { cls:=.ref C,dict:=none,data:=.fields vs,slots:=gR }:=zI _ hx;have hxs:x≠s.heap.objs.size:=Ao (zM hx);refine yV (wpAny_alloc' ?_);refine yV (wpAny_update' hx₁ ?_);refine zi ?_;have hgd:((s.heap.push { cls:=.type "dict",data:=.dict #[] }).update x fun o=>{ cls:=o.cls,dict:=some s.heap.objs.size,data:=o.data,slots:=o.slots }).get? s.heap.objs.size=some { cls:=.type "dict",data:=.dict #[] } :=
  (Hr _ _ _ _ hxs.symm).trans (Heap.get?_push_at rfl rfl)
 have hnd:((s.heap.push { cls:=.type "dict",data:=.dict #[] }).update x fun o=>{ cls:=o.cls,dict:=some s.heap.objs.size,data:=o.data,slots:=o.slots }).Ns s.heap.objs.size (fun _=>none) :=
  ⟨_,#[],_,hgd,rfl,fun e he=>absurd he (by simp),fun _=>rfl⟩
 show yY _ _ (storeInDict s.heap.objs.size (.str name _) name v) _ _ _;unfold storeInDict newKeyGuard;refine yV (zi (yV (wpAny_nsSet1 (Heap.Ns1.of_empty hnd) fun h' rH hs=>?_)));obtain⟨oD,esD,epD,hoD,hdD,hcD⟩:=rH.count (Within.cons name v Within.nil);refine yV (wpAny_lookBehind hoD (by rw[hdD];exact pastItsLine_dict (AB hcD (by rw[zB,zG,AR];omega))) ?_);refine zi (h h' rH ?_ fun b ob hbx hb=>?_)
 ·exact(hs.2 x hxs).trans (D2 _ hx₁ rfl)
 ·exact(hs.2 b (Ao (zM hb))).trans ((Hr _ _ _ _ hbx).trans (zI _ hb))
theorem zmz{od:zb}{Q:ir->kb->Prop}(X:K.In s.heap)(c:jJ K C)(I:Ci s.heap x ox C (some od))(ht:Bl K (.ref C) name=some none)(hl:FA name od=some (some v))(hv:GN v=true)
  (h:Q v { s with toks:=s.toks+1 }):yY (yZ prog w) A (getAttr (.ref x) name expr) Q E s:=by
 obtain⟨hh,g,d,t,os⟩:=s;have L0:=I.type (M:=yZ prog w);have L1:=DA (M:=yZ prog w) X c.ga;have L2:=DA (M:=yZ prog w) X c.gn;have L3:=PySem.W.looks_find (M:=yZ prog w) X I (PySem.W.findObj_own c.hd ht rfl hl);have f3:=EV.ga.bind (.ref x);have hx2:(Ea "BaseException.__getattribute__" == Ea "object.__getattribute__")=false:=by decide +kernel
 unfold getAttr getAttrBy
 repeat (any_goals (first|assumption|with_reducible refine L0.at ?_|with_reducible refine L1.at ?_|with_reducible refine L2.at ?_|wp_step))
 rw[if_neg (by rw[show onTheHeap (Ea "BaseException.__getattribute__")=false from rfl,Bool.and_false];exact AJ)]
 repeat (any_goals (first|assumption|wp_step))
 refine FY EV.ga.plain F.entry_bexc_ga (zi7 X c.toiS I ?_);unfold Bo.«object.__getattribute__»
 repeat (any_goals (first|assumption|with_reducible refine L0.at ?_|with_reducible refine L3.at ?_|wp_step))
 exact G1 hv h
end
end L2
namespace L2
open PySem PySem.Spec PyProof.Rows
variable {s:kb}{v y:V}{E:ir->kb->Prop}{X:Cx}{C a dx e:gV}{φ:zh->Prop}{pins:List (gV×zb)}{u:ir}{dd:Option gV}{vs:Array ir}{σ:St}{A:zx}{b:Bool}{H:Hp}{Q:Unit->kb->Prop}{h:zh}{f:dm}{pos:zc}{o:zb}{P:zu}{w:zq}
section
noncomputable def iB(e C:gV)(dd:Option gV)(vs:Array ir):HO:=.ext fun h=>∃ o,h.get? e=some o/\o.cls=.ref C/\o.dict=dd/\o.data=.fields vs
theorem zfP(he:h.get? e=some o)(hc:o.cls=.ref C)(hd:o.dict=dd)(hv:o.data=.fields vs):cD P w H h e (iB e C dd vs) :=
 ⟨⟨o,he,hc,hd,hv⟩,⟨o,he⟩,fun h1 h2 ⟨o,g,r⟩ k=>⟨o,k o g,r⟩⟩
section
theorem Inv.zul(I:Inv X pins σ (upd H a (.ext φ)) s)(n:H a=none):Inv X pins σ H s:=by
 have g:∀ b u,upd H a (.ext φ) b=some u->(∀ ψ,u≠.ext ψ)->H b=some u:=fun b u e z=>by
  by_cases q:b=a
  ·rw[q,bU]at e;cases e;exact absurd rfl (z φ)
  ·rw[aU q]at e;exact e
 have f0:∀ b,upd H a (.ext φ) b=none->H b=none:=fun b e=>by
  by_cases q:b=a
  ·rw[q];exact n
  ·rw[aU q]at e;exact e
 refine⟨I.ok,I.os,I.bare,⟨I.base.keep,I.base.slot,fun b o e hn hx=>f0 _ (I.base.free b o e hn hx),I.base.there,fun b xs e=>g _ _ (I.base.gv b xs e) (fun _ z=>by cases z),fun b o u e=>g _ _ (I.base.gA b o u e) (fun _ z=>by cases z),fun b ps e=>?_⟩,I.loc,I.cell,f0 _ I.free,fun x c e=>f0 _ (I.fU x c e),fun p hp=>?_,fun b u e=>?_,I.len⟩
 ·obtain⟨more,z⟩:=I.base.gX b ps e
  exact⟨more,g _ _ z (fun _ z=>by cases z)⟩
 ·obtain⟨g1,g2,g3,g4,g5⟩:=I.pin p hp
  exact⟨g1,f0 _ g2,g3,g4,g5⟩
 ·have nb:b≠a:=fun z=>by rw[z,n]at e;cases e
  refine(I.aC b u (by rw[aU nb];exact e)).iQ (fun _ _ _ q=>q) (fun c q=>g _ _ q (fun _ z=>by cases z)) fun c xs q=>?_;rcases q with q|⟨o,q⟩
  ·exact .inl (g _ _ q (fun _ z=>by cases z))
  ·exact .inr ⟨o,g _ _ q (fun _ z=>by cases z)⟩
theorem zta(I:Inv X pins σ H s)(he:H e=some (iB e C none vs))(c:jJ X.K C)(n:jj X.K C f)(ry:RelV y u)
  (h:∀ dx s',H dx=none->dx≠e->Inv X pins σ (upd (upd H dx (.xd [(f,y)])) e (iB e C (some dx) vs)) s'->Q () s'):yY (yZ X.prog X.w) A (setAttr (.ref e) f u) Q E s:=by
 obtain⟨⟨o,ho,hc,hd,hv⟩,_⟩:=(show cD X.prog X.w H s.heap e (iB e C none vs) from I.aC e _ he);refine zs9 I.eO c n ho hc hd hv fun h' hn hx k=>?_;have nd:H s.heap.objs.size=none:=I.aC.fresh (zr _);have ne:s.heap.objs.size≠e:=fun z=>by rw[z,he]at nd;cases nd
 have e1:∀ b u,H b=some u->(∀ ψ,u≠.ext ψ)->b≠e/\b≠s.heap.objs.size:=fun b u q z=>⟨fun y=>(by rw[y,he]at q;cases q;exact absurd rfl (z _)),fun y=>(by rw[y,nd]at q;cases q)⟩;have e2:∀ b u,H b=some u->(∀ ψ,u≠.ext ψ)->upd (upd H s.heap.objs.size (.xd [(f,y)])) e (iB e C (some s.heap.objs.size) vs) b=some u:=fun b u q z=>by rw[aU (e1 b u q z).1,aU (e1 b u q z).2];exact q
 have kk:∀ b o,s.heap.get? b=some o->H b=none->h'.get? b=some o:=fun b o q z=>k b o (fun y=>by rw[y,he]at z;cases z) q;refine h _ _ nd ne (I.un (H':=upd (upd H s.heap.objs.size (.xd [(f,y)])) e (iB e C (some s.heap.objs.size) vs)) ⟨fun b o q z _ _=>kk b o q z,fun b o q z _ _=>⟨o.slots,kk b o q z⟩,fun b o q z _=>?_,fun b o q _=>?_,fun b xs q=>e2 _ _ q (fun _ z=>by cases z),fun b o u q=>e2 _ _ q (fun _ z=>by cases z),fun b ps q=>⟨#[],by rw[Array.append_empty];exact e2 _ _ q (fun _ z=>by cases z)⟩⟩ fun b u q=>?_)
 ·rw[aU (fun y=>by rw[y,he]at z;cases z),aU (Ao (zM q))]
  exact z
 ·by_cases hb:b=e
  ·exact⟨_,by rw[hb];exact hx⟩
  ·exact⟨o,k b o hb q⟩
 ·by_cases hb:b=e
  ·rw[hb,bU]at q
   cases q;rw[hb];exact zfP hx hc rfl hv
  ·rw[aU hb]at q
   by_cases nJ:b=s.heap.objs.size
   ·rw[nJ,bU]at q
    cases q;rw[nJ];refine⟨_,hn,fun g=>?_⟩
    by_cases hg:g=f
    ·rw[if_pos hg,hg]
     show jM (List.lookup f [(f,y)]) (some u);rw[List.lookup_cons_self];exact ry
    ·rw[if_neg hg]
     show jM (List.lookup g [(f,y)]) none;rw[zJ,show(g==f)=false from beq_eq_false_iff_ne.mpr hg]
     trivial
   ·rw[aU nJ]at q
    refine(I.aC b u q).iQ (fun c v kK z=>k c v ?_ z) (fun c z=>e2 _ _ z (fun _ z=>by cases z)) fun c xs z=>?_
    ·rcases kK with z1|z1
     ·rw[z1];exact hb
     ·exact(e1 _ _ z1 (fun _ z=>by cases z)).1
    ·rcases z with z|⟨o,z⟩
     ·exact .inl (e2 _ _ z (fun _ z=>by cases z))
     ·exact .inr ⟨o,e2 _ _ z (fun _ z=>by cases z)⟩
theorem zmA{fs:List (dm×V)}{Q:ir->kb->Prop}(I:Inv X pins σ H s)(he:H e=some (jh e C (some dx)))(hx:H dx=some (.xd fs))(c:jJ X.K C)(n:jj X.K C f)(l:fs.lookup f=some v)
  (h:∀ u s',Inv X pins σ H s'->RelV v u->Q u s'):yY (yZ X.prog X.w) A (getAttr (.ref e) f b) Q E s:=by
 obtain⟨⟨o,vs,ho,hc,hd,hv⟩,_⟩:=(show cD X.prog X.w H s.heap e (jh e C (some dx)) from I.aC e _ he);obtain⟨mA,hn,r⟩:=(show cD X.prog X.w H s.heap dx (.xd fs) from I.aC dx _ hx);obtain⟨od,mw,hl⟩:=zoT hn;obtain⟨u,hu,ru⟩:=jM.some_of (v:=v) (o:=mA f) (by rw[<- l];exact r f);exact zmz (od:=od) I.eO c ⟨ho,hc,by unfold EW;rw[hv],by rw[hd];exact mw⟩ n (by rw[hl,hu]) (zmG ru) (h u _ (I.tok _) ru)
end
section
variable {o value:yW}{ta tv:TE}{pos':zc}
def zsX(K:yU)(ta tv:TE)(f:dm):TS:=fun D σ H=>tv σ H fun y H1=>ta σ H1 fun x H2=>∃ a C vs,x=.ref a/\H2 a=some (iB a C none vs)/\jJ K C/\jj K C f /\
 ∀ dx,H2 dx=none->dx≠a->D.nx σ (upd (upd H2 dx (.xd [(f,y)])) a (iB a C (some dx) vs))
theorem zqQ(ha:PE X o ta)(hv:PE X value tv)(hs:AW value (some (.Attribute o f pos')) pos.line X.env=pure false):PS X (.Assign [.Attribute o f pos'] value pos) (zsX X.K ta tv f):=by
 intro pins s σ H D I h;refine plainObj_wpAny_Assign_Attribute (aT (hv pins s σ H _ I h) fun u s1 ⟨y,H1,I1,ry,q⟩=>aT (ha pins s1 σ H1 _ I1 q) fun ov s2 ⟨x,H2,I2,rx,a,C,vs,ex,ea,c,n,q2⟩=>?_) hs;subst ex;obtain rfl:ov=Ac a:=rx;exact zta I2 ea c n ry fun dx s3 z1 z2 I3=>⟨σ,_,I3,q2 dx z1 z2⟩
def ztD(K:yU)(ta:TE)(f:dm):TE:=fun σ H Q=>ta σ H fun x H1=>∃ a C dx fs v,x=.ref a/\H1 a=some (jh a C (some dx))/\H1 dx=some (.xd fs)/\jJ K C/\jj K C f/\fs.lookup f=some v/\Q v H1
theorem zql(ha:PE X o ta)(hb:Cw o f X.env (zk o X.env)=zk o X.env:=by rfl):PE X (.Attribute o f pos) (ztD X.K ta f):=by
 intro pins s σ H Q I h;refine zj7 hb (aT (ha pins s σ H _ I h) fun ov s1 ⟨x,H1,I1,rx,a,C,dx,fs,v,ex,ea,ed,c,n,l,q⟩=>?_);subst ex;obtain rfl:ov=Ac a:=rx;exact zmA I1 ea ed c n l fun u s2 I2 ru=>⟨v,H1,I2,ru,q⟩
end
end
variable {v:ir}{E:XK}{n:dm}{N fI:gV}{newId:String}{mg:dm->Option ir}{ps:List dm}{k:Nat}{fd:Ah}{e:yW}{hV:List ir}{es:List yW}{ta:TA}
section
noncomputable def gz(K:yU)(C fI:gV)(hV:List ir)(newId:String):Bool:=match K.lookup C with
 | some ⟨.type "type",_,.cls cd,sl⟩=>(match cd.mro,sl.toList with
  | .ref C'::bm,[_,_,_,_,some (.builtin n),_]=>C'==C&&n==newId&&!cd.hasDel&&DI K hV bm&&DJ K cd.ns&&zA K cd.ns "__init__" == some (some (.ref fI))
  | _,_=>false)
 | _=>false
section
variable {K:yU}
theorem zpz(X:K.In h)(G:h.Ns N mg)(e:zA K N n=some (some v)):mg n=some v:=by
 obtain⟨o,es,ep,ho,hd,_,hf⟩:=G;unfold zA at e
 split at e
 ·rename_i c d nG n' sl q
  have:=X _ _ q;rw[ho]at this;cases this;cases hd
  split at e
  ·rename_i he
   rw[<- hf];unfold nsFind findBy;rw[<- GL,he];cases e
   rfl
  ·split at e <;> cases e
 ·cases e
theorem zl5(X:K.In h)(q:gz K C fI hV newId=true):∃ bm N nm q bs hdct sn sub ab col dd k0 k1 k2 k3 k5 mN,h.get? C=some (DH nm q C N bs bm hdct sn sub ab col dd k0 k1 k2 k3 k5 newId)/\h.Ns N mN/\mN "__init__"=some (.ref fI)/\OwnTail h hV bm:=by
 unfold gz at q
 split at q
 ·rename_i dd cd sl ho
  split at q
  ·rename_i C' bm k0 k1 k2 k3 n k5 hm hs
   simp only[zX,beq_iff_eq,DC]at q;obtain⟨⟨⟨⟨⟨a1,a2⟩,a3⟩,a4⟩,a5⟩,a6⟩:=q;subst a1 a2;obtain⟨nm,bs,mro,ns,qn,hd,sn,sub,ab,col,del⟩:=cd;subst hm a3;obtain⟨l⟩:=sl;have xC:l=[k0,k1,k2,k3,some (.builtin n),k5]:=hs;subst xC;have G:h.Ns ns (h.nsMap ns):=.of_isNs (PySem.W.isNs_of_in X a5);exact⟨bm,ns,nm,qn,bs,hd,sn,sub,ab,col,dd,k0,k1,k2,k3,k5,_,X _ _ ho,G,zpz X G a6,PySem.W.tail_of_in X a4⟩
  ·cases q
 ·cases q
end
def yE(C:gV)(f:dm):Sp:=fun vs H Q _=>∃ e v ws,vs=[.ref e,v]/\H e=some (iB e C none ws)/\∀ dx,H dx=none->dx≠e->Q .non (upd (upd H dx (.xd [(f,v)])) e (iB e C (some dx) ws))
section
variable {x:dm}{np bC:zc}
def ztN(C:gV)(f:dm)(E:XK)(ta:TA):TS:=fun _ σ H=>ta σ H fun vs H1=>∃ v,vs=[v]/\∀ dx,H1 dx=none->E (.ref C) (some dx) (upd H1 dx (.xd [(f,v)]))
theorem zqU(hc:X.calm=true)(ec:gz X.K C fI gh "ValueError.__new__"=true\/gz X.K C fI gh "Exception.__new__"=true)(hf:Ff X.K (.ref fI)=true){lo:zb}(lk:X.K.lookup fI=some lo)
  (F:dJ X.prog X.w X.K X.mg X.base lG k fI fd ps (yE C f)) (hr:aZ (k+1) X.A) (hb:Binds X.K fd ps []) (hg:Gl X x) (hm:X.mg x=some (.ref C)) (th:Throws X E) (ha:PA X (e::es) ta)
  (hx:X.ex=[]:=by rfl) (hd:(x==("__debug__":dm))=false:=by decide) (he:yX (e::es) X.env=(false,zk e X.env)::yX es X.env:=by rfl) (bu:(zK bC (yX es X.env)).any (·.1)=false:=by rfl) :
  PS X (.Raise (some (.Call (.Name x np) (e::es) [] bC)) none pos) (ztN C f E ta):=by
 intro pins s σ H D I h;have KX:X.K.In X.base:=I.ok.mod.uM;have hlo:lo.cls=.type "function":=by
  have:=beq_iff_eq.mp hf;unfold D9 at this;simp only[lk]at this;exact Az this
 have go:∀{newId Bn rK:String} {qT:List ir},gz X.K C fI gh newId=true->Dc Bn newId rK qT->gh.contains (.type Bn)=true ->
   yY (yZ X.prog X.w) X.A (exec (.Raise (some (.Call (.Name x np) (e::es) [] bC)) none pos) X.env) (SP X pins D) X.xe s:=by
  intro newId Bn rK qT q Fn nI;obtain⟨tl,N,nm,qn,bs,hdct,sn,sub,ab,col,dd,k0,k1,k2,k3,k5,mN,hC,hN,hni,T⟩:=zl5 KX q;refine zsC (C:=C) (nm:=nm) (q:=qn) (N:=N) (bs:=bs) (bm:=tl) (hdct:=hdct) (sn:=sn) (sub:=sub) (ab:=ab) (col:=col) (dd:=dd) (k0:=k0) (k1:=k1) (k2:=k2) (k3:=k3) (k5:=k5)
   Fn nI Gs (mN:=mN) (fI:=fI) (oI:=lo) (T.hasType Gs.hasBase) (I.ok.hd hc) (by rw[he];show(false||(zK bC (yX es X.env)).any (·.1))=false;rw[bu];rfl) hni hlo (rT I hg hm ⟨rfl,?_⟩ hd)
  have hw:=ha bC pins s σ H _ I h;rw[he]at hw ⊢;refine GX (aT hw fun us s1 ⟨vs,H1,I1,r,v,ql,q1⟩=>⟨rfl,?_,I1.bk _ _ hC,hN.keeps I1.bk,T.keeps I1.bk,I1.eO _ _ lk,fun h' ea mk=>?_⟩)
  ·show us.length<=zt
   rw[<- r.length,ql,AR];show 1<=_
   omega
  ·subst ql
   obtain⟨t,ht,_,_⟩:=mk.there;have I2:Inv X pins σ H1 { s1 with heap:=h',toks:=s1.toks }:=I1.kept (t':=s1.toks) mk.keeps;have ne:H1 ea=none:=I1.aC.free mk.new;have I3:=I2.ziK (o:=iB ea C none _) ne (I1.nw hx mk.new) (zfP ht rfl rfl rfl);have hq:yE C f [.ref ea,v] (upd H1 ea (iB ea C none #[.ref t,.none,.none,.none,.bool false,.none])) (fun u H2=>u=.non/\∃ dx,H1 dx=none/\dx≠ea/\H2=upd (upd H1 dx (.xd [(f,v)])) ea (iB ea C (some dx) #[.ref t,.none,.none,.none,.bool false,.none])) E :=
    ⟨ea,v,_,rfl,bU,fun dx z1 z2=>⟨rfl,dx,by rw[aU z2]at z1;exact z1,z2,by
     funext b
     unfold upd
     by_cases hb:b=ea
     ·simp only[hb,if_true]
     ·simp only[hb,if_false]⟩⟩
   have r2:Vals [V.ref ea,v] (Ac ea::(us++[])):=.cons rfl (by rw[BC];exact r);have hl:(Ac ea::us++[]).length=ps.length:=by
    have e9:=r2.length;rw[F.len _ _ _ _ hq]at e9;exact e9.symm
   have nJ:=hb _ (Ac ea::us) I3.eO hl;rw[Ap]at nJ;refine DW (Dr (F.run _ X.stack _ _ ⟨Ac ea::us,[]⟩ (Ac ea::(us++[])) _ _ E (hr.make C us []) (I3.ud.make C us []) nJ r2 hq) fun r s' nM=>?_);cases r with
   | error e=>exact Av nM
   | ok fl =>
    cases fl with
    | ret u =>
     obtain⟨v',H',I4,rv,ev,dx,z1,z2,z3⟩:=I3.after nM;subst ev z3;have n2:upd H1 dx (.xd [(f,v)]) ea=none:=by rw[aU (AD z2)];exact ne
     obtain⟨⟨o,ho,oc,od,ov⟩,_⟩:=(show cD X.prog X.w _ s'.heap ea (iB ea C (some dx) _) from I4.aC ea _ bU);refine⟨rv,I4.bk _ _ hC,⟨o,ho,oc,_,ov,rfl⟩,?_⟩;exact th pins σ _ s' ea (.ref C) (some dx) (I4.zul n2) ⟨o,_,ho,oc,od,ov,rfl⟩ n2 (by have u:=I1.base;rw[hx]at u;exact u.old mk.new) (q1 dx z1)
    | next=>exact Av nM
    | brk=>exact Av nM
    | cont=>exact Av nM
 rcases ec with q|q
 ·exact go q Gs (by decide)
 ·exact go q PySem.F.excBase_Exception (by decide)
end
end
variable {t:TA}
section
theorem PS.cV{st:zy}{t:TS}(h:PS X.cV st t):PS X st t:=fun pins s σ H D I hw =>
 z8 (h pins s σ H D (I.iR _) hw) (fun _ _ q=>q.jG) fun _ _ z=>Av z
theorem PA.cV(h:PA X.cV es t):PA X es t:=fun pos pins s σ H Q I hw =>
 z8 (h pos pins s σ H Q (I.iR _) hw) (fun _ _ ⟨v,H',I',r,q⟩=>⟨v,H',I'.jG,r,q⟩) fun _ _ z=>Av z
end
end L2
namespace FL
open PySem L2 PySem.Spec
open PyProof.Rows hiding St
variable {E:XK}{X:Cx}{it:IF}{C:SC}{c e:yW}{g:GF}{b:SF}{tc:TF}{r:R (Fl×En)}{α β:Type}{H H1:Hp}{k:Fl×En->R (Fl×En)}{aL:List Nat}{pos:zc}{body:List zy}
section
noncomputable def qh{α:Type}:R α->R α
 | .ok a=>.ok a
 | _=>.bad
theorem ou{r:R α}{a:α}(h:r=.ok a):qh r=.ok a:=by rw[h];rfl
def gU(f:SF):SF:=fun ρ=>qh (f ρ)
def vD(f:TF):TF:=fun ρ=>qh (f ρ)
def aPl(f:AF):AF:=fun ρ=>qh (f ρ)
def xH(f:IF):IF:=fun ρ=>qh (f ρ)
def lY(g:GF):GF:=fun d ρ=>qh (g d ρ)
def yA(c:String)(b:Bool)(fa:AF):SF:=fun ρ=>(aPl fa ρ).bind fun x=>match b,x.1 with
 | true,[d]=>.err c [d]
 | false,[_]=>.err c []
 | _,_=>.bad
section
variable [Cs]{K:yU}
def Kc(C:SC)(H':Hp):Prop:=∀ a o,C.H₀ a=some o->¬ MA C.ρ₀ C.σ₀ a->H' a=some o
def Wn(K:yU)(E:XK)(c:String)(fs:List D)(H':Hp):Prop:=∀ C dd,sZ K H' c fs C dd->E (.ref C) dd H'
def ji(K:yU)(C:SC)(E:XK)(H:Hp)(r:R (Fl×En))(Dn:Ends):Prop:=match r with
 | .err c fs=>∀ H',Kc C H'->Wn K E c fs H'
 | .ok x=>cS K C H (.ok x) Dn
 | .bad=>False
noncomputable def tSE(K:yU)(C:SC)(E:XK)(f:SF):TS:=fun Dn σ H=>∃ ρ,bH K C ρ σ H/\ji K C E H (f ρ) Dn
structure pD(K:yU)(X:Cx)(E:XK)(st:zy)(f:SF):Prop where
 run:X.K=K->∀ C,PS X st (tSE K C E f)
structure jL(K:yU)(X:Cx)(E:XK)(st:List zy)(f:SF):Prop where
 run:X.K=K->∀ C,eE X st (tSE K C E f)
section
variable {Dn:Ends}
theorem ji.step(f:aF H H1)(g:ji K C E H r Dn):ji K C E H1 r Dn:=by
 cases r with
 | ok x=>exact cS.step (r:=.ok x) f (show cS K C H (.ok x) Dn from g)
 | err c fs=>exact g
 | bad=>exact g
theorem ji.pl{r:R β}{k:β->R (Fl×En)}(g:ji K C E H ((qh r).bind k) Dn):∃ x,r=.ok x/\ji K C E H (k x) Dn:=by
 cases r with
 | ok x=>exact⟨x,rfl,g⟩
 | _=>exact g.elim
theorem ji.bd{r:R (Fl×En)}(g:ji K C E H (r.bind k) Dn):(∃ x,r=.ok x/\ji K C E H (k x) Dn)\/∃ c fs,r=.err c fs/\∀ H',Kc C H'->Wn K E c fs H':=by
 cases r with
 | ok x=>exact .inl ⟨x,rfl,g⟩
 | err c fs=>exact .inr ⟨c,fs,rfl,g⟩
 | bad=>exact g.elim
end
variable {st:zy}{rest:List zy}{s t:SF}
theorem yf(h:cZ K X.cV st s):pD K X E st (gU s):=.mk fun hK C=>(h hK C).cV.weak fun Dn σ H=>by
 rintro⟨ρ,rel,g⟩;refine⟨ρ,rel,?_⟩;unfold gU at g;cases e:s ρ with
 | ok x=>rw[e]at g;exact g
 | _=>rw[e]at g;exact g.elim
theorem zhR{st:List zy}(h:eR K X.cV st s):jL K X E st (gU s):=.mk fun hK C=>(eE.cV (h hK C)).weak fun Dn σ H=>by
 rintro⟨ρ,rel,g⟩;refine⟨ρ,rel,?_⟩;unfold gU at g;cases e:s ρ with
 | ok x=>rw[e]at g;exact g
 | _=>rw[e]at g;exact g.elim
theorem sv(h1:pD K X E st s)(h2:jL K X E rest t):jL K X E (st::rest) (ag s t):=.mk fun hK C=>(zhS (h1.run hK C) (h2.run hK C)).weak fun Dn σ H=>by
 rintro⟨ρ,rel,g⟩;refine⟨ρ,rel,?_⟩;rcases g.bd with⟨x,ex,g1⟩|⟨c,fs,ex,g1⟩
 ·rw[ex]
  obtain⟨fl,ρ1⟩:=x;cases fl with
  | nx=>exact fun σ' H' r z=>⟨ρ1,r,g1.step z⟩
  | bk=>exact g1
  | ct=>exact g1
  | rt d=>exact g1
  | rf d=>exact g1
 ·rw[ex]
  exact g1
theorem zq3(h1:pD K X E st s):jL K X E [st] s:=.mk fun hK C=>yg (h1.run hK C)
theorem zq0{a b:List zy}(hc:fC K X.cV c tc)(ha:jL K X E a s)(hb:jL K X E b t):pD K X E (.If c a b pos) (ao (vD tc) s t):=.mk fun hK C=>(zhP (hc hK).cV (ha.run hK C) (hb.run hK C)).weak fun Dn σ H=>by
 rintro⟨ρ,rel,g⟩;obtain⟨x,ex,g1⟩:=g.pl;refine⟨ρ,rel.rel,?_⟩;rw[ex];intro H' r sx;have g2:=g1.step (sx.d9 rel.rel);obtain⟨cb,ρ1⟩:=x;cases cb with
 | true=>exact mD ⟨ρ1,rel.step r sx,g2⟩
 | false=>exact mC ⟨ρ1,rel.step r sx,g2⟩
theorem zqY{tg:yW}(hp:CP (yZ X.prog X.w) X.A X.env X.xe)(hc:X.calm=true)(hi:iF K X tg e it)(hg:hJ K X aL tg g)(hb:jL K X E body b)(hs:∀ x,Be e X.env x=pure x:=by intro _;rfl) :
  pD K X E (.For tg e body [] pos) (dZ (xH it) (lY g) b):=.mk fun hK C=>(zhO hp hc (hi hK) (hg hK) (hb.run hK C) hs).weak fun Dn σ0 H0=>by
 rintro⟨ρ0,j9,q⟩;obtain⟨x,ex,q⟩:=q.pl;refine⟨ρ0,j9.rel,?_⟩;rw[ex];intro Hs r st J wk;have au:=j9.step r st;have q1:=q.step (st.d9 j9.rel);obtain⟨items,ρs⟩:=x;refine⟨fun i m σ H=>m=items.length-i/\i<=items.length/\∃ ρ,bH K C ρ σ H/\aF Hs H/\ji K C E H (forL (lY g) b (items.drop i) ρ) Dn,⟨items.length,by simp,AU _,ρs,au,aF.refl _,q1⟩,?_⟩;rintro i m σ H ⟨rfl,hi,ρ,rel,fz,gd⟩
 by_cases c:i<items.length
 ·have ed:=E7 c
  rw[ed]at gd;obtain⟨dC,hy⟩:=wk.1 i items[i] H fz (Af c);refine .inr ⟨dC,fun σ' H'=>∃ ρ,bH K C ρ σ' H'/\aF Hs H'/\ji K C E H' (forL (lY g) b (items.drop (i+1)) ρ) Dn,fun σ' H' n=>⟨items.length-(i+1),by omega,rfl,c,n⟩,fun x H3 y=>?_⟩;obtain⟨sm,fx⟩:=hy x H3 y;have iO:bH K C ρ σ H3:=rel.step (rel.rel.same sm) (.of sm);obtain⟨ρ1,e1,gd1⟩:=gd.pl;refine⟨ρ,items[i],ρ1,iO.rel,fx,e1,fun σ1 vx chg=>⟨ρ1,iO.chg vx chg,?_⟩⟩;rcases gd1.bd with⟨y,ey,jR⟩|⟨cc,fs,ey,jR⟩
  ·rw[ey]
   have jS:=jR.step (aF.of sm);have uj:=fz.trans (aF.of sm);obtain⟨fl,ρ2⟩:=y;cases fl with
   | nx=>exact fun σ' H' r z=>⟨ρ2,r,uj.trans z,jS.step z⟩
   | ct=>exact fun σ' H' r z=>⟨ρ2,r,uj.trans z,jS.step z⟩
   | bk=>exact jS
   | rt d=>exact jS
   | rf d=>exact jS
  ·rw[ey]
   exact jR
 ·have e:i=items.length:=by omega
  subst e;rw[F9]at gd;exact .inl ⟨wk.2 _ H fz (zr _),gd σ H rel (aF.refl _)⟩
end
end
variable {base:zh}{c:String}{σ:L2.St}{w:zq}{x:dm}{mg:dm->Option ir}{k:Nat}{fd:Ah}{fa:AF}{f:gV}{es:List yW}{P:zu}
section
def vJ[Cs](P:zu)(w:zq)(K:yU)(mg:dm->Option ir)(base:zh)(x:dm)(c:String)(f:dm)(k:Nat):Prop :=
 ∃(C fI:gV) (fd:Ah) (ps:List dm) (lo:zb),mg x=some (.ref C)/\Cs.O c=none/\Cs.X c=some (C,[f])/\(gz K C fI gh "ValueError.__new__"=true\/gz K C fI gh "Exception.__new__"=true)/\Ff K (.ref fI)=true/\K.lookup fI=some lo /\
  dJ P w K mg base lG k fI fd ps (yE C f)/\Binds K fd ps []
section
variable [Cs]{K:yU}{f:dm}{np bC:zc}{j:Nat}
theorem zrt(h:eJ K X.cV es fa):eJ K X es fa:=.mk fun hK=>(h hK).cV
theorem znZ{ρ ρ1:En}{H2:Hp}(rel:bH K C ρ σ H)(st:cA ρ ρ1 σ H H1)(k:∀ a o,H1 a=some o->¬ MA ρ σ a->H2 a=some o):Kc C H2:=fun a o e n=>k a o (st.kp a o (rel.keep a o e n) (rel.zcQ e n)) (rel.zcQ e n)
theorem zq1(I:vJ X.prog X.w X.K X.mg X.base x c f k)(hr:aZ j X.A)(th:Throws X E)(ha:eJ K X.cV [e] fa)(hj:k+1<=j:=by decide)(hc:X.calm=true:=by rfl)(hg:Gl X x:=by rfl)(hx:X.ex=[]:=by rfl)(hd:(x==("__debug__":dm))=false:=by decide)
  (he:yX [e] X.env=(false,zk e X.env)::yX [] X.env:=by exact FL.se rfl):pD K X E (.Raise (some (.Call (.Name x np) [e] [] bC)) none pos) (yA c true fa):=.mk fun hK C=>by
 subst hK;obtain⟨Ca,fI,fd,ps,lo,hm,hO,hX,ec,hf,lk,F,hb⟩:=I;refine(zqU hc ec hf lk F (hr.mono hj) hb hg hm th ((zrt ha) rfl) hx hd he rfl).weak fun Dn σ H=>?_;rintro⟨ρ,rel,g⟩;obtain⟨y,ey,g1⟩:=g.pl;obtain⟨ds,ρ1⟩:=y;refine⟨ρ,rel.rel,?_⟩;rw[ey];intro H' r sx vs fs;cases ds with
 | nil=>exact g1.elim
 | cons d rr =>
  cases rr with
  | cons _ _=>exact g1.elim
  | nil =>
   obtain⟨v,r',rfl,fv,e'⟩:=fs;obtain rfl:r'=[]:=e';refine⟨v,rfl,fun dx nd=>g1 _ (znZ rel sx fun a o q _=>?_) _ _ ⟨hO,[f],[v],hX,rfl,bU,?_⟩⟩
   ·rw[aU fun z=>by rw[z,nd]at q;cases q];exact q
   ·exact aq.mono (aF.of (aA.upd nd)) _ _ ⟨v,[],rfl,fv,rfl⟩
def spX(K:yU)(ks:List (Option String))(fr:Bool)(G:List D->R D):Sp:=fun vs H Q E=>∃ ds,jI H/\kr K H ks ds vs /\
 ((∃ d,G ds=.ok d/\∀ v H',aA H H'->(if fr=true then ∃ a,v=.ref a/\H a=none/\cv K H' a d else Fz K H' d v)->Q v H') \/
  ∃ c fs,G ds=.err c fs/\∀ H',aA H H'->Wn K E c fs H')
def zje(K:yU)(E:XK)(fr:Bool)(ρ:En)(σ:L2.St)(H:Hp)(r:R (D×En))(Q:VK):Prop:=match r with
 | .ok x=>∀ H',Rel K x.2 σ H'->cA ρ x.2 σ H H'->∀ v,(if fr=true then ∃ a,v=.ref a/\H a=none/\cv K H' a x.1 else Fz K H' x.1 v)->Q v H'
 | .err c fs=>∀ H',(∀ a o,H a=some o->¬ MA ρ σ a->H' a=some o)->Wn K E c fs H'
 | .bad=>False
end
section
variable [Cs]{K:yU}
theorem zme{q:dm}{st:zy}{N ps:List dm}(ks:List (Option String))(fr:Bool)(h:fA K x q st f fd)(S:gZ N ps (bB st))(iL:ps.length=ks.length)(jw:ps.length<=N.length)
  (hb:∀(aG:ir) (A:zx) (outer:List zC) (s:kb) (H:Hp) (E:XK),aZ k (A.deeper (AX q (bB st) s.heap.objs.size f aG))->jL K (fF (cR P w) P w K mg base N q (bB st) f aG A outer s H E) E (dU st) b) :
  dJ P w K mg base (cR P w) (k+1) f fd ps (spX K ks fr (qk ks fr N.length b)):=by
 refine h.okE S (fun vs H Q E ⟨ds,_,e,_⟩=>by rw[e.len.1,iL]) fun aG A outer s H vs Q E hr hq=>?_;obtain⟨ds,cst,fa,q⟩:=hq;obtain⟨hv,hd⟩:=fa.len;have cq:L2.start N vs=vs.map some++zo (N.length-ds.length) none:=by unfold L2.start;rw[hv,hd]
 have no:∀(i:Nat) p d,(BV iP ks ds++zo (N.length-ds.length) .no)[i]?≠some (.ow p d):=fun i p d e=>by
  by_cases c:i<(BV iP ks ds).length
  ·rw[AY c]at e
   exact zjb e
  ·rw[B2 (by omega),BM]at e
   split at e <;> cases e
 refine⟨tSE K ⟨H,L2.start N vs,BV iP ks ds++zo (N.length-ds.length) .no⟩ E b,(hb aG A outer s H E hr).run rfl _,BV iP ks ds++zo (N.length-ds.length) .no,?_,?_⟩
 ·refine⟨?_,fun a o e _=>e,fun i a d e _=>absurd e (no i false d),fun i=>C7,fun i d e=>rfl,fun i p d e=>absurd e (no i p d)⟩
  rw[cq];exact(zsL cst fa).pad _
 ·have kp:∀(ρ':En) (σ':L2.St) (H':Hp),bH K ⟨H,L2.start N vs,BV iP ks ds++zo (N.length-ds.length) .no⟩ ρ' σ' H'->aA H H':=fun ρ' σ' H' r b o e=>r.keep b o e fun⟨i,⟨p,d,z⟩,_⟩=>no i p d z
  rcases q with⟨d,hF,q⟩|⟨c,fs,hF,q⟩
  ·unfold qk at hF
   rw[if_pos hd]at hF;obtain⟨z,ez,ey⟩:=bM hF;rw[ez];obtain⟨fl,ρ'⟩:=z;cases fr with
   | false =>
    cases fl with
    | rt dr=>cases ey;exact fun v σ' H' r fz=>q v H' (kp _ _ _ r) fz
    | nx=>cases ey;exact fun σ' H' r fz=>q .non H' (kp _ _ _ r) (by show Fz K H' .none .non;simp[Fz])
    | _=>cases ey
   | true =>
    cases fl with
    | rf dr=>cases ey;exact fun a σ' H' r ha m=>q (.ref a) H' (kp _ _ _ r) ⟨a,rfl,ha,m⟩
    | _=>cases ey
  ·unfold qk at hF
   rw[if_pos hd]at hF;cases ez:b (BV iP ks ds++zo (N.length-ds.length) .no) with
   | ok z =>
    rw[ez]at hF;obtain⟨fl,ρ'⟩:=z;cases fr <;> cases fl <;> cases hF
   | bad=>rw[ez]at hF;cases hF
   | err c' kI =>
    rw[ez]at hF;cases hF;exact fun H' kc=>q H' fun a o e=>kc a o e fun⟨i,⟨p,d,z⟩,_⟩=>no i p d z
end
end
end FL
namespace L2
open PySem PySem.Spec PyProof.Rows
variable {mg:dm->Option ir}{P:zu}{base:zh}{fd:Ah}{w:zq}
section
variable {K:yU}
theorem zl1{C fI:gV}{q sn n1 f:dm}{st:zy}{p0 p1 p2 p3:zc}(hC:jJ K C)(na:jj K C f)(h:fA K "__init__" q st fI fd)(cq:dU st=[.Assign [.Attribute (.Name sn p0) f p1] (.Name n1 p2) p3])(S:gZ [sn,n1] [sn,n1] (bB st))
  (h0:∀(aG:ir) (A:zx) (outer:List zC) (s:kb) (H:Hp) (E:XK),PE (fF lG P w K mg base [sn,n1] q (bB st) fI aG A outer s H E).cV (.Name sn p0) (dA 0))
  (h1:∀(aG:ir) (A:zx) (outer:List zC) (s:kb) (H:Hp) (E:XK),PE (fF lG P w K mg base [sn,n1] q (bB st) fI aG A outer s H E).cV (.Name n1 p2) (dA 1))
  (hs:∀ env,AW (.Name n1 p2) (some (.Attribute (.Name sn p0) f p1)) p3.line env=pure false:=by intro _;rfl):dJ P w K mg base lG 1 fI fd [sn,n1] (yE C f):=by
 refine h.ok (k:=0) S (fun vs H Q E ⟨e,v,ws,z,_⟩=>by rw[z];rfl) fun aG A outer s H vs Q E hr hq=>?_;obtain⟨e,v,ws,rfl,he,q⟩:=hq;refine⟨_,by rw[cq];exact yg (zqQ (h0 aG A outer s H E) (h1 aG A outer s H E) (hs _)),?_⟩;exact⟨v,rfl,.ref e,rfl,e,C,ws,rfl,he,hC,na,fun dx z1 z2=>q dx z1 z2⟩
end
end L2
namespace FL
open PySem L2 PySem.Spec
open PyProof.Rows hiding St
variable {E:XK}{X:Cx}{e:yW}
section
section
variable [Cs]{K:yU}
def tVX(K:yU)(fr:Bool)(f:EF):TX:=fun σ H Q E=>∃ ρ,Rel K ρ σ H/\zje K E fr ρ σ H (f ρ) Q
structure PVX(K:yU)(X:Cx)(fr:Bool)(e:yW)(f:EF):Prop where
 run:X.K=K->qH X e (tVX K fr f)
theorem _root_.L2.qH.weak{t t':TX}(h:qH X e t)(w:∀ σ H Q E,t' σ H Q E->t σ H Q E):qH X e t':=fun pins s σ H Q E I q=>h pins s σ H Q E I (w σ H Q E q)
end
end
variable {ρ:En}{p pos px:zc}{i k:Nat}{v:Option V}{y:Sl}{base:zh}{C f:gV}{N ns ps:List dm}{σ:L2.St}{c:String}{w:zq}{b:SF}{H:Hp}{x:dm}{mg:dm->Option ir}{fd:Ah}{P:zu}{G:String->List D->R D}
section
def ua(i:Nat)(tb:List (String×Nat)):EF:=fun ρ=>match ρ[i]? with
 | some (.ob c ds)=>(R.of (tb.lookup c)).bind fun j=>(R.of ds[j]?).bind fun d=>.ok (d,ρ)
 | _=>.bad
def cK(i:Nat)(tb:List (String×Bool)):EF:=fun ρ=>match ρ[i]? with
 | some (.ob c _)=>(R.of (tb.lookup c)).bind fun b=>.ok (.bool b,ρ)
 | _=>.bad
def wU(i:Nat)(G:String->List D->R D):EF:=fun ρ=>match ρ[i]? with
 | some (.ob c ds)=>(G c ds).bind fun d=>.ok (d,ρ)
 | _=>.bad
def runK(n:Nat)(b:SF)(c:String)(fs:List D):R D:=(b (.ob c fs::zo (n-1) .no)).bind fun x=>match x.1 with
 | .rt d=>.ok d
 | _=>.bad
section
variable [Cs]{K:yU}
theorem bH.zhV{C:SC}(r:bH K C ρ σ H)(np:∀ e,ρ[i]?≠some (.ow true e))(hl:i<ρ.length)(o:iY K H y v)(hy:∀ p d,y≠.ow p d):bH K C (ρ.set i y) (σ.set i v) H:=by
 refine⟨r.rel.set o fun _ _ _ z=>absurd z (hy _ _),r.keep,fun j b c' e1 e2=>?_,fun j=>?_,fun j c' e1=>?_,r.mL⟩
 ·by_cases k:i=j
  ·subst k
   rw[An hl]at e1;exact absurd (Az e1) (hy _ _)
  ·rw[z9 k]at e1 e2
   exact r.own j b c' e1 e2
 ·by_cases k:i=j
  ·subst k
   rw[An hl,<- r.pin i]
   constructor
   ·rintro⟨_,z⟩;exact absurd (Az z) (hy _ _)
   ·rintro⟨c',z⟩;exact absurd z (np c')
  ·rw[z9 k];exact r.pin j
 ·by_cases k:i=j
  ·subst k
   rw[An hl]at e1;exact absurd (Az e1) (hy _ _)
  ·rw[z9 k]at e1 ⊢
   exact r.fix j c' e1
def ErF(K:yU)(f:dm)(c:String)(j:Nat):Prop:=∃ C ns,Cs.X c=some (C,ns)/\ns[j]?=some f/\ns.Nodup/\jJ K C/\jj K C f
theorem zcZ{ds:List D}(rel:Rel K ρ σ H)(e:ρ[i]?=some (.ob c ds)):∃ a,σ[i]?=some (some (.ref a))/\iY K H (.ob c ds) (some (.ref a)):=by
 have hl:i<σ.length:=by rw[<- rel.len];exact(Am.mp e).1
 have o:=rel.ok i _ _ e (Af hl);cases es:σ[i] with
 | none=>rw[es]at o;exact o.elim
 | some v =>
  rw[es]at o;cases v with
  | ref a=>exact⟨a,by rw[Af hl,es],o⟩
  | _=>exact o.elim
theorem zfM{ds:List D}(ho:Cs.O c=none)(hX:Cs.X c=some (C,ns))(rel:Rel K ρ σ H)(e:ρ[i]?=some (.ob c ds)):∃ a dd vs,σ[i]?=some (some (.ref a))/\H a=some (jh a C dd)/\vs.length=ns.length/\ErD H ns vs dd/\aq K H ds vs:=by
 obtain⟨a,h1,h2⟩:=zcZ rel e;obtain⟨C',dd,z1,_,pZ,vs,z2,z3,z4,z5⟩:=Or.resolve_left h2 fun⟨_,_,_,_,z,_⟩=>by rw[ho]at z;cases z
 rw[hX]at z2;cases z2;exact⟨a,dd,vs,h1,z1,z3,z4,z5⟩
theorem zcG{α:Type}{c:String}{j:α}:∀{tb:List (String×α)},tb.lookup c=some j->(c,j)∈tb
 | [],h=>by cases h
 | (a,b)::r,h=>by
  rw[zJ]at h
  split at h
  ·rename_i q
   rw[eq_of_beq q];cases h;exact Au ..
  ·exact z0 _ (zcG h)
theorem zhY{f:dm}(i:Nat)(tb:List (String×Nat))(hO:∀ p∈tb,Cs.O p.1=none)(hE:∀ p∈tb,ErF K f p.1 p.2)(hv:PE X (.Name x px) (dA i):=by exact pv _)(hb:Cw (.Name x px) f X.env (zk (.Name x px) X.env)=zk (.Name x px) X.env:=by rfl) :
  PV K X (.Attribute (.Name x px) f pos) (ua i tb):=.mk fun hK=>by
 subst hK;refine(zql hv hb).weak fun σ H Q=>?_;rintro⟨ρ,rel,g⟩;unfold ua at g;cases e:ρ[i]? with
 | none=>rw[e]at g;exact g.elim
 | some y =>
  rw[e]at g;cases y with
  | ob c ds =>
   obtain⟨j,ej,g⟩:=g.bV;obtain⟨d,ed,g⟩:=g.bV;have ej':(c,j)∈tb:=by
    cases q:tb.lookup c with
    | none=>rw[q]at ej;cases ej
    | some z=>rw[q]at ej;cases ej;exact zcG q
   have pJ:ds[j]?=some d:=by
    cases q:ds[j]? with
    | none=>rw[q]at ed;cases ed
    | some z=>rw[q]at ed;cases ed;rfl
   obtain⟨C,ns,hX,hj,nd,ec,na⟩:=hE _ ej';obtain⟨a,dd,vs,h1,h2,h3,h4,h5⟩:=zfM (hO _ ej') hX rel e;obtain⟨v,ev,fv⟩:=h5.get pJ;cases dd with
   | none =>
    have hn:ns=[]:=h4;rw[hn]at hj;cases hj
   | some dx=>exact⟨.ref a,h1,a,C,dx,ns.zip vs,v,rfl,h2,h4,ec,na,zg2 nd hj ev,g.now rel v fv⟩
  | _=>exact g.elim
def bj(K:yU)(y:V)(c:String)(b:Bool):Prop:=Cs.O c=none/\∃ B ns,Cs.X c=some (B,ns)/\iS K B/\zT K (.ref B) (nA y)=some b
theorem de{tn:dm}{p2:zc}{y:V}(i:Nat)(tb:List (String×Bool))(hy:nA y≠.none)(hE:∀ p∈tb,bj X.K y p.1 p.2)(hT:PE X (.Name tn p2) (tC y))(hm:X.mg "isinstance"=none)(hg:Gl X "isinstance":=by rfl)(hv:PE X (.Name x px) (dA i):=by exact pv _)
  (jx:yX [.Name x px,.Name tn p2] X.env=(false,zk (.Name x px) X.env)::yX [.Name tn p2] X.env:=by exact FL.se rfl) (il:yX [.Name tn p2] X.env=(false,zk (.Name tn p2) X.env)::yX [] X.env:=by exact FL.se rfl) (bu:(zK pos (yX [.Name tn p2] X.env)).any (·.1)=false:=by exact FL.sp rfl) :
  PV K X (.Call (.Name "isinstance" p) [.Name x px,.Name tn p2] [] pos) (cK i tb):=.mk fun hK=>by
 subst hK;refine(vb (x:="isinstance") (id:="isinstance") zkI hg hm KC.Bt.isinstance (gq hv (gq hT jE il) jx) (by decide) (by decide) jx bu).weak fun σ H Q=>?_;rintro⟨ρ,rel,g⟩;unfold cK at g;cases e:ρ[i]? with
 | none=>rw[e]at g;exact g.elim
 | some z =>
  rw[e]at g;cases z with
  | ob c ds =>
   obtain⟨b,eb,g⟩:=g.bV;have eb':(c,b)∈tb:=by
    cases q:tb.lookup c with
    | none=>rw[q]at eb;cases eb
    | some z=>rw[q]at eb;cases eb;exact zcG q
   obtain⟨hO,B,ns,hX,ek,kt⟩:=hE _ eb';obtain⟨a,dd,vs,h1,h2,h3,h4,h5⟩:=zfM hO hX rel e;refine⟨.ref a,h1,?_⟩;refine⟨a,y,B,dd,b,rfl,hy,h2,fun dx ed=>?_,ek,kt,g.now rel _ (js _)⟩;subst ed;exact⟨_,h4⟩
  | _=>exact g.elim
def spK(K:yU)(G:String->List D->R D):Sp:=fun vs H Q _=>∃ a c fs d,vs=[.ref a]/\jI H/\iY K H (.ob c fs) (some (.ref a))/\G c fs=.ok d/\∀ v H',aA H H'->Fz K H' d v->Q v H'
theorem zrg{j:Nat}{nm:dm}(i:Nat)(cc:Callee X.prog X.w X.K X.mg X.base nm k ps (spK X.K G))(hr:aZ j X.A)(hv:PE X (.Name x px) (dA i):=by exact pv _)(hg:Gl X nm:=by rfl)(hj:k<=j:=by decide)(bN:(nm==("__debug__":dm))=false:=by decide)
  (he:yX [.Name x px] X.env=(false,zk (.Name x px) X.env)::yX [] X.env:=by exact FL.se rfl) (bu:(zK pos (yX [] X.env)).any (·.1)=false:=by exact FL.sp rfl) :
  PV K X (.Call (.Name nm p) [.Name x px] [] pos) (wU i G):=.mk fun hK=>by
 subst hK;refine(vc cc hr hg va (gq hv jE he) hj bN he bu).weak fun σ H Q=>?_;rintro⟨ρ,rel,g⟩;unfold wU at g;cases e:ρ[i]? with
 | none=>rw[e]at g;exact g.elim
 | some z =>
  rw[e]at g;cases z with
  | ob c ds =>
   obtain⟨d,ed,g⟩:=g.bV;obtain⟨a,h1,h2⟩:=zcZ rel e;exact⟨.ref a,h1,a,c,ds,d,rfl,rel.cst,h2,ed,fun v H' s fz=>g.new rel s v fz⟩
  | _=>exact g.elim
end
section
variable [Cs]{K:yU}
theorem zmf{q n0:dm}{st:zy}(h:fA K x q st f fd)(S:gZ N [n0] (bB st))(jw:1<=N.length)
  (hb:∀(aG:ir) (A:zx) (outer:List zC) (s:kb) (H:Hp) (E:XK),aZ k (A.deeper (AX q (bB st) s.heap.objs.size f aG))->eR K (fF (cR P w) P w K mg base N q (bB st) f aG A outer s H E) (dU st) b) :
  dJ P w K mg base (cR P w) (k+1) f fd [n0] (spK K (runK N.length b)):=by
 refine h.okE S (fun vs H Q E ⟨_,_,_,_,e,_⟩=>by rw[e];rfl) fun aG A outer s H vs Q E hr hq=>?_;obtain⟨a,c,fs,d,rfl,cst,sl,hF,q⟩:=hq;have no:∀(i:Nat) p d,(Sl.ob c fs::zo (N.length-1) .no)[i]?≠some (.ow p d):=fun i p d e=>by
  cases i with
  | zero=>cases e
  | succ i =>
   rw[zz1,BM]at e
   split at e <;> cases e
 have cq:L2.start N [V.ref a]=some (V.ref a)::zo (N.length-1) none:=by unfold L2.start;rfl
 refine⟨tS K ⟨H,L2.start N [.ref a],.ob c fs::zo (N.length-1) .no⟩ b,hb aG A outer s H E hr rfl _,.ob c fs::zo (N.length-1) .no,?_,?_⟩
 ·refine⟨?_,fun a o e _=>e,fun i a d e _=>absurd e (no i false d),fun i=>C7,fun i d e=>rfl,fun i p d e=>absurd e (no i p d)⟩
  rw[cq];have r0:Rel K [Sl.ob c fs] [some (V.ref a)] H:=by
   refine⟨rfl,fun i x v e1 e2=>?_,fun i j a z _=>?_,cst⟩
   ·cases i with
    | zero=>cases e1;cases e2;exact sl
    | succ i=>cases e1
   ·obtain⟨⟨p,d,z⟩,_⟩:=z
    cases i with
    | zero=>cases z
    | succ i=>cases z
  exact r0.pad (N.length-1)
 ·unfold runK at hF
  obtain⟨z,ez,ey⟩:=bM hF;rw[ez];obtain⟨fl,ρ'⟩:=z;cases fl with
  | rt dr=>cases ey;exact fun v σ' H' r fz=>q v H' (fun b o e=>r.keep b o e fun⟨i,⟨p,d,z⟩,_⟩=>no i p d z) fz
  | _=>cases ey
end
end
section
noncomputable def pS(b:Bool):List Bool->Option Nat
 | []=>none
 | a::r=>if a=b then some 0 else(pS b r).map (·+1)
def zgz:D->D->R D
 | .list ds,.bool b=>(R.of (boolsOf ds)).bind fun bs=>(R.of (pS b bs)).bind fun j=>.ok (.int j)
 | _,_=>.bad
theorem zgk{b:Bool}:∀{bs:List Bool} {j:Nat},pS b bs=some j->bs[j]?=some b/\∀(m:Nat) a,m<j->bs[m]?=some a->a≠b
 | [],j,h=>by cases h
 | a::r,j,h=>by
  unfold pS at h
  split at h
  ·rename_i e
   cases h;exact⟨by rw[e];rfl,fun m a hm=>absurd hm (Nat.not_lt_zero _)⟩
  ·rename_i e
   obtain⟨i,hi,rfl⟩:=BE.mp h;obtain⟨h1,h2⟩:=zgk hi;refine⟨h1,fun m a' hm hg=>?_⟩;cases m with
   | zero=>cases hg;exact e
   | succ m=>exact h2 m a' (by omega) hg
section
variable [Cs]{K:yU}{o:yW}{f h:EF}
theorem zrm{apos bC:zc}(ho:PV K X o f)(he:PV K X e h)
  (i6:Cw o "index" X.env (zk o X.env)=zk o X.env:=by rfl)
  (me:((zK bC (yX [e] X.env)).all (fun x=>!x.1)&&(D3 bC (D4 [] X.env)).all (fun x=>x.1.isSome)&&decide ([e].length+([]:List B3).length+(if([]:List B3).isEmpty then 0 else 1)<30))=true:=by rfl)
  (mq:(apos.endLine==bC.line)=true:=by rfl) (cq:yX [e] X.env=(false,zk e X.env)::yX [] X.env:=by exact FL.se rfl) (jW:(zK bC (yX [] X.env)).any (·.1)=false:=by exact FL.sp rfl) :
  PV K X (.Call (.Attribute o "index" apos) [e] [] bC) (e2 zgz f h):=.mk fun hK=>by
 subst hK;refine(yb Hj PySem.F.slot_list_index PySem.F.type_list_index zpf (ho rfl) (gq (he rfl) jE cq) i6 me mq cq jW).weak fun σ H Q q=>?_;obtain⟨ρ,rel,q⟩:=q;refine dO rel q fun dx ρ1 x H1 au aY fx q1=>?_;cases dx with
 | list ds =>
  simp only[Fz]at fx;obtain⟨l,vs,rfl,sx,fs⟩:=fx;refine⟨.inl ⟨rfl,vs,sx.sq⟩,dO au q1 fun dy ρ2 y H2 bP dh fy q3=>?_⟩;obtain⟨d,ed,q4⟩:=q3.bV;cases dy with
  | bool b =>
   simp only[Fz]at fy;subst fy;obtain⟨bs,eb,ed⟩:=bM (show((R.of (boolsOf ds)).bind fun bs=>(R.of (pS b bs)).bind fun j=>.ok (.int j))=.ok d from ed);obtain⟨j,ej,ed⟩:=bM ed;cases ed;have eb':boolsOf ds=some bs:=by
    cases z:boolsOf ds with
    | none=>rw[z]at eb;cases eb
    | some z'=>rw[z]at eb;cases eb;rfl
   have ej':pS b bs=some j:=by
    cases z:pS b bs with
    | none=>rw[z]at ej;cases ej
    | some z'=>rw[z]at ej;cases ej;rfl
   obtain⟨rfl,_⟩:=fs.bools eb';obtain⟨h1,h2⟩:=zgk ej';refine⟨l,bs.map V.bl,.bl b,.bl b,j,rfl,rfl,(aF.oy (dh.d9 au) sx).sq,rfl,?_,by rw[AH,h1];rfl,?_,fun m w hm hw=>?_,q4.now bP _ (iK _)⟩
   ·rw[A3]
    intro z hz;obtain⟨z',_,rfl⟩:=zZ.mp hz
    rfl
   ·cases b <;> rfl
   ·rw[AH]at hw
    obtain⟨a,ha,rfl⟩:=BE.mp hw;have:=h2 m a hm ha;cases a <;> cases b <;> first|rfl|exact absurd rfl this
  | _=>cases ed
 | _ =>
  obtain⟨y,ey,q2⟩:=q1.ck;obtain⟨d,ed,_⟩:=q2.bV;cases ed
end
end
variable {n:String}{N:gV}{b t:ir}{r:Bool}{cs:List gV}{cd:ClassData}
section
section
variable {K:yU}
theorem ze9(s:dQ cs K)(e:A1 K C=some cd):A1 (aO cs K) C=some cd:=by
 unfold A1 at e ⊢
 split at e
 ·rename_i x y cd' sl ho
  rw[jr s ho fun _ _ z=>nomatch z];exact e
 ·cases e
theorem zpd(s:dQ cs K)(e:ER K C b=some r):ER (aO cs K) C b=some r:=by
 obtain⟨cd,e1,e2⟩:=DE.mp e;exact DE.mpr ⟨cd,ze9 s e1,e2⟩
theorem zaP(s:dQ cs K)(e:(A1 K C).isSome=true):(A1 (aO cs K) C).isSome=true:=by
 obtain⟨cd,e1⟩:=GQ.mp e;rw[ze9 s e1];rfl
theorem ziQ(s:dQ cs K)(c:(A1 K C).isSome=true)(e:D9 K (.ref C)=some t):D9 (aO cs K) (.ref C)=some t:=by
 unfold A1 at c
 split at c
 ·rename_i x y cd' sl ho
  exact ziR s ho (fun _ _ z=>nomatch z) e
 ·cases c
theorem iS.cut(s:dQ cs K)(h:iS K C):iS (aO cs K) C:=⟨ug s h.ga,ug s h.gn,ug s h.cl,vB s h.be,zpd s h.ob,zaP s h.is⟩
theorem lH.cut(s:dQ cs K)(h:lH K C):lH (aO cs K) C:=⟨ziQ s h.cl h.ty,zaP s h.cl,vB s h.be⟩
theorem zhs(s:dQ cs K)(e:DJ K N=true):DJ (aO cs K) N=true:=by
 unfold DJ at e ⊢
 split at e
 ·rename_i ho
  rw[jr s ho fun _ _ z=>nomatch z];exact e
 ·cases e
theorem ziA(s:dQ cs K){bm:List ir}:∀{l:List ir},DI K bm l=true->DI (aO cs K) bm l=true
 | [],e=>e
 | v::r,e=>by
  unfold DI at e ⊢;rcases Bool.or_eq_true_iff.mp e with q|q
  ·rw[q,Bool.true_or]
  ·rw[E1]
   right
   split at q
   ·split at q
    ·rename_i ho
     simp only[zX]at q;rw[jr s ho fun _ _ z=>nomatch z];simp only[zX];exact⟨⟨zhs s q.1.1,by rw[zcT s (eq_of_beq q.1.2)];rfl⟩,ziA s q.2⟩
    ·cases q
   ·cases q
theorem zl2(s:dQ cs K){fI:gV}{bm:List ir}(e:gz K C fI bm n=true):gz (aO cs K) C fI bm n=true:=by
 unfold gz at e ⊢
 split at e
 ·rename_i ho
  rw[jr s ho fun _ _ z=>nomatch z]
  split at e
  ·rename_i hm hs
   simp only[zX]at e;simp only[hm,hs,zX];exact⟨⟨⟨e.1.1.1,ziA s e.1.1.2⟩,zhs s e.1.2⟩,by rw[zcT s (eq_of_beq e.2)];exact beq_self_eq_true _⟩
  ·cases e
 ·cases e
theorem c9(s:dQ cs K){c:ir}(e:zT K t c=some r):zT (aO cs K) t c=some r:=by
 unfold zT at e ⊢
 split at e
 ·rename_i h;rw[if_pos h];exact e
 ·rename_i h
  rw[if_neg h];unfold PySem.W.kitCls at e ⊢;cases c with
  | ref C =>
   simp only at e ⊢
   split at e
   ·rename_i z
    simp only[zX]at z;rw[if_pos (by simp only[zX];exact⟨zaP s z.1,by rw[ziQ s z.1 (eq_of_beq z.2)];decide⟩)];exact vB s e
   ·cases e
  | type T =>
   simp only at e ⊢
   split at e
   ·rename_i z
    rw[if_pos z];exact vB s e
   ·cases e
  | _=>cases e
end
end
section
variable [Cs]{K:yU}
end
section
variable [Cs]{K:yU}
end
end FL
namespace L2
open PySem PySem.Spec PyProof.Rows
end L2
namespace FL
open PySem L2 PySem.Spec
open PyProof.Rows hiding St
section
end
section
end
end FL
namespace FL
open PySem
end FL
namespace L2
open PySem PySem.Spec PyProof.Rows
end L2
namespace FL
open PySem L2 PySem.Spec
open PyProof.Rows hiding St
variable [Cs]
end FL
namespace L2
open PySem PySem.Spec PyProof.Rows
end L2
namespace FL
open PySem L2 PySem.Spec
open PyProof.Rows hiding St
section
variable [Cs]
end
section
noncomputable def zdN(aL:List Nat):Nat->En->En->Prop
 | _,[],[]=>True
 | k,x0::r0,x::r=>((k∈aL/\∀ p c,x≠.ow p c)\/(x=x0/\∀ p c,x≠.ow p c)\/(k∉aL/\∃(p:Bool) (ns:List Int),x=.ow p (.list (ns.map zH))))/\zdN aL (k+1) r0 r
 | _,_,_=>False
open Classical in
noncomputable def zuW(aL:List Nat)(ρ0:En):SF:=fun ρ=>if zdN aL 0 ρ0 ρ/\∀ k∈aL,k<ρ.length then .ok (.nx,kill aL ρ) else .bad
def LL2(d:D):Prop:=∃ rows:List (List D),rows.length<=1000/\d=.list (rows.map Gq)
open Classical in
noncomputable def zuZ(i:Nat)(f:EF)(t:SF):SF:=fun ρ=>(f ρ).bind fun y=>if LL2 y.1 then(gN i y.1 y.2).bind t else .bad
variable [Cs]
end
section
mutual
def flat:D->Bool
 | .list _=>false
 | .dict _=>false
 | .tuple xs=>zby xs
 | _=>true
def zby:List D->Bool
 | []=>true
 | d::r=>flat d&&zby r
end
noncomputable def zmc:Sl->Bool
 | .val d=>flat d
 | .ob _ ds=>zby ds
 | _=>false
noncomputable def zhq:Sl->Bool
 | .ow _ _=>false
 | _=>true
def zna:Sl->Bool
 | .ow _ (.list l)=>(intsOf l).isSome
 | _=>false
def E3(dead aL:List Nat):Nat->En->En->Prop
 | _,[],[]=>True
 | k,x0::r0,x::r=>((k∈dead/\zhq x=true)\/(k∉dead/\(x=.no\/(x=x0/\k∉aL/\zhq x=true)\/zmc x=true\/zna x=true)))/\E3 dead aL (k+1) r0 r
 | _,_,_=>False
open Classical in
noncomputable def zuV(dead aL:List Nat)(t:SF)(ρ0:En):SF:=fun ρ=>if E3 dead aL 0 ρ0 ρ/\∀ k∈dead,k<ρ.length then t (kill dead ρ) else .bad
variable [Cs]
end
variable {E:XK}{X:Cx}{it:IF}{base:zh}{n0:dm}{g:EF}{c:String}{b:SF}{mg:dm->Option ir}{ns ps:List dm}{fd:Ah}{aL:List Nat}{pos:zc}{P:zu}{body:List zy}{w:zq}
section
section
variable [Cs]{K:yU}
theorem zq2{st:List zy}:jL K X E st iu:=.mk fun _ C=>fun _ _ _ _ _ _ ⟨_,_,g⟩=>g.elim
theorem zqZ{tg e:yW}{g:GF}(hi:iF K X tg e it)(hg:hJ K X aL tg g)(hb:jL K X E body b)(hp:CP (yZ X.prog X.w) X.A X.env X.xe:=by exact PassesOwn.leaving)(hc:X.calm=true:=by rfl)(hs:∀ x,Be e X.env x=pure x:=by intro _;rfl) :
  pD K X E (.For tg e body [] pos) (dZ (xH it) (lY g) b):=zqY hp hc hi hg hb hs
end
abbrev CTX[Cs](x:dm)(k:Nat)(ps:List dm)(ks:List (Option String))(fr:Bool)(G:List D->R D)(P:zu)(w:zq)(K:yU)(mg:dm->Option ir)(base:zh):Prop:=Callee P w K mg base x k ps (spX K ks fr G)
abbrev CTK[Cs](x:dm)(k:Nat)(ps:List dm)(G:String->List D->R D)(P:zu)(w:zq)(K:yU)(mg:dm->Option ir)(base:zh):Prop:=Callee P w K mg base x k ps (spK K G)
section
variable [Cs]{K:yU}{x q:dm}{st:zy}{k n:Nat}{C f:gV}
theorem fnE(ks:List (Option String))(fr:Bool)(N:List dm)(h:aP K mg x st)
  (hb:∀{f:gV} {aG:ir} {A:zx} {outer:List zC} {s:kb} {H:Hp} {E:XK},aZ k (A.deeper (AX x (bB st) s.heap.objs.size f aG))->N.Nodup->jL K (fF (cR P w) P w K mg base N x (bB st) f aG A outer s H E) E (dU st) b)
  (S:gZ N ps (bB st):=by exact⟨rfl,rfl,rfl,by decide +kernel,rfl,by decide +kernel,by decide +kernel⟩)(iL:ps.length=ks.length:=by rfl)(jw:ps.length<=N.length:=by decide)
  (jU:∀(kV doc pm:ir) (an:Option gV) (aG ct:ir) (us:List ir),us.length=ps.length->Cy (A8 x x (i3 st) (dU st) (bB st) .none kV doc pm an aG ct) ⟨us,[]⟩=pure (ps.zip us):=by
   first
    | exact fun _ _ _ _ _ _=>wX fun _=>rfl
    | exact fun _ _ _ _ _ _=>wY fun _ _=>rfl
    | exact fun _ _ _ _ _ _=>el3 fun _ _ _=>rfl
    | exact fun _ _ _ _ _ _=>el4 fun _ _ _ _=>rfl):CTX x (k+1) ps ks fr (qk ks fr N.length b) P w K mg base:=by
 obtain⟨f,fd,hm,F⟩:=h;exact⟨f,fd,hm,F.kp,F.binds jU,zme ks fr F S iL jw fun aG A outer s H E hr=>hb hr S.nd⟩
theorem fnK(N:List dm)(h:aP K mg x st)
  (hb:∀{f:gV} {aG:ir} {A:zx} {outer:List zC} {s:kb} {H:Hp} {E:XK},aZ k (A.deeper (AX x (bB st) s.heap.objs.size f aG))->N.Nodup->eR K (fF (cR P w) P w K mg base N x (bB st) f aG A outer s H E).cV (dU st) b)
  (S:gZ N [n0] (bB st):=by exact⟨rfl,rfl,rfl,by decide +kernel,rfl,by decide +kernel,by decide +kernel⟩)(jw:1<=N.length:=by decide)
  (jU:∀(kV doc pm:ir) (an:Option gV) (aG ct:ir) (us:List ir),us.length=[n0].length->Cy (A8 x x (i3 st) (dU st) (bB st) .none kV doc pm an aG ct) ⟨us,[]⟩=pure ([n0].zip us):=by
   exact fun _ _ _ _ _ _=>wX fun _=>rfl):CTK x (k+1) [n0] (runK N.length b) P w K mg base:=by
 obtain⟨f,fd,hm,F⟩:=h;exact⟨f,fd,hm,F.kp,F.binds jU,zmf F S jw fun aG A outer s H E hr=>zdc (hb hr S.nd)⟩
end
end
end FL
namespace L2
open PySem PySem.Spec PyProof.Rows
variable {p pos:zc}{ps:List dm}{x:dm}{es:List yW}{X:Cx}{e:yW}{t:TA}
section
theorem qI.weak{st:List zy}{t t':v8}(h:qI X st t)(w:∀ D E σ H,t' D E σ H->t D E σ H):qI X st t':=fun pins s σ H D E I q=>h pins s σ H D E I (w D E σ H q)
theorem zqx{k k' j:Nat}{sp1 sp2:Sp}(c1:Callee X.prog X.w X.K X.mg X.base x k ps sp1)(c2:Callee X.prog X.w X.K X.mg X.base x k' ps sp2)(hr:aZ j X.A)(hx:X.ex=[])(hg:Gl X x)(ha:PA X.cV (e::es) t)(hj:k<=j)(rE:k'<=j)(bN:(x==("__debug__":dm))=false)
  (he:yX (e::es) X.env=(false,zk e X.env)::yX es X.env) (bu:(zK pos (yX es X.env)).any (·.1)=false):qH X (.Call (.Name x p) (e::es) [] pos) (zty (fun vs H Q E=>sp1 vs H Q E\/sp2 vs H Q E) t):=by
 obtain⟨f,fd,hm,hk,hb,F1⟩:=c1;obtain⟨f',fd',nL,_,kJ,F2⟩:=c2;rw[hm]at nL;cases nL;intro pins s σ H Q E I h;refine DX (rT I hg hm ?_ bN);refine GO (h₀:=X.base) I.ok.mod.uM hk (z8 (ha pos pins s σ H _ (I.iR _) h) (fun us s1 hh=>?_) fun _ _ z=>z.elim) he bu;obtain⟨vs,H1,I1',r,q⟩:=hh;have I1:=I1'.jG;refine⟨I1.eO,?_⟩;have hl:us.length=ps.length:=by rw[<- r.length];exact q.elim (F1.len _ _ _ _) (F2.len _ _ _ _)
 have go:BA (yZ X.prog X.w) X.A (.call (.ref f) ⟨us,[]⟩) (CR (cR X.prog X.w) X.stack X.prog X.w H1 s1 Q E) s1:=by
  rcases q with q|q
  ·exact F1.run X.A X.stack s1 H1 ⟨us,[]⟩ (us++[]) vs Q E (hr.mono hj) I1.ud (hb s1 us I1.eO (by rw[BC];exact hl)) (by rw[BC];exact r) q
  ·exact F2.run X.A X.stack s1 H1 ⟨us,[]⟩ (us++[]) vs Q E (hr.mono rE) I1.ud (kJ s1 us I1.eO (by rw[BC];exact hl)) (by rw[BC];exact r) q
 refine DW (Dr go fun r s' hq=>?_);cases r with
 | ok fl =>
  cases fl with
  | ret u=>exact I1.after hq
  | next=>exact Av hq
  | brk=>exact Av hq
  | cont=>exact Av hq
 | error ev =>
  obtain⟨ea,cls,dd,T,H',e1,os,bare,un,aC,fl,ne,nT,oe,oT,qe⟩:=hq;exact⟨ea,cls,dd,T,H',e1,I1.zeZ (ch:=[]) os un aC bare (fun b z=>absurd z (by simp)),fl,ne,nT,I1.nw hx oe,I1.nw hx oT,qe⟩
end
end L2
namespace FL
open PySem L2 PySem.Spec
open PyProof.Rows hiding St
variable {ρ:En}{Ca:gV}{i j2:Nat}{X:Cx}{p2 pos pos':zc}{g:EF}{ps:List dm}{x:dm}{d:D}{e:yW}{fa:AF}{p:Bool}{f:SF}{es:List yW}{ks:List (Option String)}{body:List zy}
section
noncomputable def uZ(ρ:En):Bool:=ρ.all fun x=>match x with
 | .ow _ _=>false
 | _=>true
def qo(j y:Nat)(f:SF):SF:=fun ρ=>match f ρ with
 | .ok x=>.ok x
 | .err c fs=>if uZ ρ=true/\j<ρ.length/\y<ρ.length then .ok (.nx,(ρ.set y (.ob c fs)).set j .no) else .bad
 | .bad=>.bad
noncomputable def zuX(c:TF)(a b:SF):SF:=fun ρ=>match c ρ with
 | .ok x=>if x.1=true then a x.2 else b x.2
 | _=>.bad
section
variable [Cs]{K:yU}
def jP(F G:List D->R D)(fa:AF):EF:=fun ρ=>match fa ρ with
 | .ok y=>match F y.1 with
  | .ok d=>.ok (d,y.2)
  | _=>match G y.1 with
   | .err c fs=>.err c fs
   | _=>.bad
 | _=>.bad
theorem zf0{H:Hp}:∀{ds:List D} {vs:List V},aq K H ds vs->kr K H (zo ds.length none) ds vs
 | [],vs,h=>h
 | d::ds,vs,h=>by
  obtain⟨v,r,rfl,h1,h2⟩:=(show ∃ v r,vs=v::r/\Fz K H d v/\aq K H ds r from h);exact⟨v,r,rfl,h1,zf0 h2⟩
theorem zrM{k k' j n:Nat}{p:zc}{F G:List D->R D}{fr:Bool}(c1:Callee X.prog X.w X.K X.mg X.base x k ps (gW X.K n fr F))(c2:Callee X.prog X.w X.K X.mg X.base x k' ps (spX X.K ks fr G))(hr:aZ j X.A)(ha:eJ K X.cV (e::es) fa)(hal:mV fa n:=by repeat (first|exact zau|refine zat ?_))(hks:ks=zo n none:=by rfl)(hx:X.ex=[]:=by rfl)(hg:Gl X x:=by rfl)(hj:k<=j:=by decide)(rE:k'<=j:=by decide)(bN:(x==("__debug__":dm))=false:=by decide)
  (he:yX (e::es) X.env=(false,zk e X.env)::yX es X.env:=by exact FL.se rfl) (bu:(zK pos (yX es X.env)).any (·.1)=false:=by exact FL.sp rfl):PVX K X fr (.Call (.Name x p) (e::es) [] pos) (jP F G fa):=.mk fun hK=>by
 subst hK;refine(zqx c1 c2 hr hx hg (ha rfl) hj rE bN he bu).weak fun σ H Q E=>?_;rintro⟨ρ,rel,g⟩;unfold jP at g;cases ey:fa ρ with
 | ok y =>
  refine⟨ρ,rel,?_⟩;rw[ey]at g ⊢;intro H1 au aY vs fs;have hl:y.1.length=n:=hal ρ y ey
  ·dsimp only at g
   cases eF:F y.1 with
   | ok d =>
    rw[eF]at g;refine .inl ⟨y.1,by rw[fs.len,hl],au.cst,fs,d,eF,fun v H' s fin=>g H' (au.same s) (aY.trans (.of s)) v ?_⟩;cases fr with
    | false=>exact fin
    | true =>
     obtain⟨a,e1,e2,e3⟩:=fin;exact⟨a,e1,aY.none au e2,e3⟩
   | _ =>
    rw[eF]at g;dsimp only at g;cases eG:G y.1 with
    | err c kI =>
     rw[eG]at g;exact .inr ⟨y.1,au.cst,by rw[hks,<- hl];exact zf0 fs,.inr ⟨c,kI,eG,fun H' s=>g H' fun a o q n=>s a o (aY.kp a o q n)⟩⟩
    | _=>rw[eG]at g;exact g.elim
 | _=>rw[ey]at g;exact g.elim
def zjf(K:yU)(C:SC)(E:XK)(ρ:En)(σ:L2.St)(H:Hp)(r:R (Fl×En))(Dn:Ends):Prop:=match r with
 | .err c fs=>∀ H',(∀ a o,H a=some o->¬ MA ρ σ a->H' a=some o)->Wn K E c fs H'
 | .ok x=>cS K C H (.ok x) Dn
 | .bad=>False
noncomputable def tSX(K:yU)(C:SC)(f:SF):v8:=fun D E σ H=>∃ ρ,bH K C ρ σ H/\zjf K C (E σ) ρ σ H (f ρ) D
structure zdR(K:yU)(X:Cx)(body:List zy)(f:SF):Prop where
 run:X.K=K->∀ C,qI X body (tSX K C f)
theorem zq6(i:Nat)(hN:X.N.Nodup)(he:PVX K X true e g)(hi:X.N[i]?=some x:=by rfl)(hx:Loc X.env.scope x:=by first|exact Cd rfl|exact B4 rfl)(hs:AW e (some (.Name x pos')) pos.line X.env=pure false:=by rfl)(hf:X.fn x=true\/X.env.scope.names.lookup x=some .local:=by first|exact .inl rfl|exact .inr rfl|assumption) :
  zdR K X [.Assign [.Name x pos'] e pos] (bx i g):=.mk fun hK C=>(zq5 hN hi hx (he.run hK) hs hf).weak fun D E σ H=>by
 rintro⟨ρ,rel,q⟩;cases ef:g ρ with
 | ok y =>
  have q':cS K C H (bx i g ρ) D:=by
   cases eo:bx i g ρ with
   | ok z=>rw[eo]at q;exact q
   | err c fs =>
    unfold bx at eo;rw[ef,ah]at eo
    split at eo <;> cases eo
   | bad=>rw[eo]at q;exact q.elim
  obtain⟨ρ',qi,gd⟩:=zbI D σ H ⟨ρ,rel,q'⟩;refine⟨ρ',qi,?_⟩;cases eg:g ρ' with
  | ok x=>rw[eg]at gd;exact fun H' r st v ⟨a,e1,e2,e3⟩=>by subst e1;exact gd H' r st a e2 e3
  | _=>rw[eg]at gd;exact gd.elim
 | err c fs =>
  refine⟨ρ,rel.rel,?_⟩;rw[show bx i g ρ=.err c fs by unfold bx;rw[ef];rfl]at q;rw[ef];exact q
 | bad =>
  rw[show bx i g ρ=.bad by unfold bx;rw[ef];rfl]at q;exact q.elim
theorem zcR(h:uZ ρ=true):ρ[i]?≠some (.ow p d):=fun e=>by
 have:=A3.mp h _ (BO e);cases this
theorem zrI{xe cn n:dm}{p5 p6 p7 p8 p9:zc}(j y:Nat)(hN:X.N.Nodup)(hCa:lH X.K Ca)(hm:X.mg cn=some (.ref Ca))(zcm:∀ c B ns,Cs.X c=some (B,ns)->BR X.K (.ref B) (.ref Ca)=some true)(hb:zdR K X body f)
  (hj:X.N[j]?=some n:=by rfl)(hy:X.N[y]?=some xe:=by rfl)(hjy:j≠y:=by decide)(hl:X.env.scope.names.lookup n=some .local:=by rfl)(hxe:Loc X.env.scope xe:=by exact Cd rfl)(hf:X.fn xe=true\/X.env.scope.names.lookup xe=some .local:=by first|exact .inl rfl|exact .inr rfl)(hg:Gl X cn:=by rfl)(cq:X.stack=X.env::X.outer:=by rfl)(e6:X.env.frame=some X.env.locals:=by rfl)
  (hvj:∀ e,PE (t8 X e) (.Name n p7) (dA j):=by intro _;exact pv _)(hd:(cn==("__debug__":dm))=false:=by decide) (il:AW (.Name n p7) (some (.Name xe p6)) p8.line X.env=pure false:=by rfl) :
  cZ K X (.Try body [.ExceptHandler (some (.Name cn p5)) (some n) [.Assign [.Name xe p6] (.Name n p7) p8] p9] [] [] pos) (qo j y f):=.mk fun hK C =>
 (zqW hCa cq e6 (hb.run hK C) hg hm hN hj hl (fun e=>yg (zc7 (X:=t8 X e) hN hy hxe (hvj e) il hf)) hd).weak fun Dn σ H=>by
 subst hK;rintro⟨ρ,rel,g⟩;refine⟨ρ,rel,?_⟩;unfold qo at g;cases ef:f ρ with
 | ok x=>rw[ef]at g;exact g
 | bad=>rw[ef]at g;exact g.elim
 | err c fs =>
  rw[ef]at g
  by_cases hc:uZ ρ=true/\j<ρ.length/\y<ρ.length
  ·replace g:cS X.K C H (if uZ ρ=true/\j<ρ.length/\y<ρ.length then .ok (.nx,(ρ.set y (.ob c fs)).set j .no) else .bad) Dn:=g
   rw[if_pos hc]at g;obtain⟨no,uD,hyl⟩:=hc;have hls:σ.length=ρ.length:=rel.rel.len.symm;intro H' kp B dd er;have s1:aA H H':=fun a o e=>kp a o e fun⟨i,⟨p,d,z⟩,_⟩=>zcR no z;obtain⟨_,ns,_,hX,_⟩:=id er;refine⟨B,rfl,zcm c B ns hX,fun e ne=>⟨.ref e,An (by rw[hls];exact uD),?_⟩⟩;have s2:aA H' (upd H' e (jh e B dd)):=aA.upd ne;have s3:=s1.trans s2;show Dn.nx (((σ.set j (some (.ref e))).set y (some (.ref e))).set j none) _;rw[List.set_comm _ _ hjy,List.set_set];refine g _ _ ?_ (aF.of s3);have r1:=(rel.step (rel.rel.same s3) (.of s3)).zhV (i:=y) (y:=.ob c fs) (v:=some (.ref e)) (fun d=>zcR no) hyl (.inr ⟨B,dd,bU,er.mono (aF.of s2)⟩) fun _ _ z=>nomatch z;refine r1.zhV (i:=j) (y:=.no) (v:=none) (fun d z=>?_) (by rw[Bp];exact uD) trivial fun _ _ z=>nomatch z;rw[z9 (AD hjy)]at z;exact zcR no z
  ·replace g:cS X.K C H (if uZ ρ=true/\j<ρ.length/\y<ρ.length then .ok (.nx,(ρ.set y (.ob c fs)).set j .no) else .bad) Dn:=g
   rw[if_neg hc]at g;exact g.elim
noncomputable def wV(i:Nat):EF:=fun ρ=>match ρ[i]? with
 | some (.val .none)=>.ok (.bool true,ρ)
 | some (.ob _ _)=>.ok (.bool false,ρ)
 | _=>.bad
theorem zrn{px:zc}(i:Nat)(hv:PE X (.Name x px) (dA i):=by exact pv _):PV K X (.Compare (.Name x px) [.Is] [.Constant .none j2 p2] pos) (wV i):=.mk fun hK=>by
 subst hK;refine(zc2 zhA hv zhJ (u5 _)).weak fun σ H Q=>?_;rintro⟨ρ,rel,g⟩;unfold wV at g;cases e:ρ[i]? with
 | none=>rw[e]at g;exact g.elim
 | some y =>
  rw[e]at g;cases y with
  | ob c ds =>
   obtain⟨a,h1,_⟩:=zcZ rel e;exact⟨.ref a,h1,rfl,g.now rel _ (js _)⟩
  | val d =>
   have hl:i<σ.length:=by rw[<- rel.len];exact(Am.mp e).1
   have o:=rel.ok i _ _ e (Af hl);cases es:σ[i] with
   | none=>rw[es]at o;exact o.elim
   | some v =>
    rw[es]at o;cases d with
    | none =>
     have hv:v=.non:=by simpa[iY,Fz] using o
     exact⟨v,by rw[Af hl,es],rfl,by rw[hv];exact g.now rel _ (js _)⟩
    | _=>exact g.elim
  | _=>exact g.elim
end
end
variable {name:dm}{g:dm->D->R D}{f:EF}{es:Array BG}
section
def yH(a:dm):D->R D
 | .str b=>aN (leB a.length lim) (.ok (.str (Fg a b)))
 | _=>.bad
theorem m_strip[Cs]:iC X "str.strip" (rS X.K yH):=by
 intro pins s σ H x vs v us Q I rx rv h;obtain⟨a,dy,d,y,rfl,rfl,fy,e,q⟩:=h;cases dy with
 | str b =>
  obtain⟨c,e⟩:=cJ (show aN _ _=.ok d from e);cases e;simp only[Fz]at fy;subst fy;obtain⟨t,rfl⟩:=rx;obtain⟨u,rfl,ru⟩:=rv.one;obtain⟨t2,rfl⟩:=ru;have l0:=gF;exact PySem.SC.stripChars (fun t' k=>⟨.str _,H,I.kept (t':=k) fun _ _ e=>e,⟨t',rfl⟩,q _ H (aA.refl _) (by simp[Fz])⟩) (by have:=dX c;omega)
 | _=>exact nomatch (show(R.bad:R D)=.ok d from e)
def rSN[Cs](K:yU)(g:dm->D->R D):V->List V->Hp->VK->Prop:=fun x vs H Q=>∃ a dy d y,x=.str a/\vs=[y]/\Fz K H dy y/\g a dy=.ok d/\∀ p H',H p=none->aA H H'->cv K H' p d->Q (.ref p) H'
theorem zo2[Cs]:iC X "str.split" (rSN X.K eD):=by
 intro pins s σ H x vs v us Q I rx rv h;obtain⟨a,dy,d,y,rfl,rfl,fy,e,q⟩:=h;cases dy with
 | str b =>
  obtain⟨c,e⟩:=cJ (show aN _ _=.ok d from e);cases e;simp only[Fz]at fy;subst fy;simp only[zX,DC]at c;have l0:=gF;refine zhf pins s σ H _ _ v us Q I rx rv ⟨a,b,rfl,rfl,c.1.1.1,?_,?_,?_,fun l hl=>q l _ hl (aA.upd hl) ⟨_,bU,aq.ofStrs _⟩⟩
  ·have:=dX c.1.1.2;omega
  ·have:=dX c.1.2;omega
  ·have:=dX c.2;omega
 | _=>exact nomatch (show(R.bad:R D)=.ok d from e)
theorem zrB[Cs]{K:yU}{o:yW}{h:EF}{id:String}{apos bC:zc}(slot:Slot "str" name id)(uG:typeOf (.builtin id)=pure (.type "method_descriptor"))(hm:iC X id (rSN X.K g))(ho:PV K X o f)(he:PV K X e h)
  (i6:Cw o name X.env (zk o X.env)=zk o X.env:=by rfl)
  (me:((zK bC (yX [e] X.env)).all (fun x=>!x.1)&&(D3 bC (D4 [] X.env)).all (fun x=>x.1.isSome)&&decide ([e].length+([]:List B3).length+(if([]:List B3).isEmpty then 0 else 1)<30))=true:=by rfl)
  (mq:(apos.endLine==bC.line)=true:=by rfl) (cq:yX [e] X.env=(false,zk e X.env)::yX [] X.env:=by exact FL.se rfl) (jW:(zK bC (yX [] X.env)).any (·.1)=false:=by exact FL.sp rfl) :
  bw K X (.Call (.Attribute o name apos) [e] [] bC) (bt g f h):=.mk fun hK=>by
 subst hK;refine(yb Hl slot uG hm (ho rfl) (gq (he rfl) jE cq) i6 me mq cq jW).weak fun σ H Q q=>?_;obtain⟨ρ,rel,q⟩:=q;refine dO rel q fun dx ρ1 x H1 au aY fx q1=>?_;obtain⟨a,ea,q2⟩:=q1.bV;cases dx with
 | str a' =>
  cases ea;simp only[Fz]at fx;subst fx;refine⟨?_,dO au q2 fun dy ρ2 y H2 bP dh fy q3=>?_⟩
  ·rfl
  ·obtain⟨d,ed,q4⟩:=q3.bV
   exact⟨a,dy,d,y,rfl,rfl,fy,ed,fun p H' hp s m=>q4 H' (bP.same s) (.of s) p (aY.none au (dh.none bP hp)) m⟩
 | _=>exact nomatch (show(R.bad:R dm)=.ok a from ea)
end
variable {a:yW}
section
def sM:D->R D
 | .int i=>aN (leB (i.natAbs.log2+1) 1920) (.ok (.str (toString i)))
 | _=>.bad
def zdD:D->R Bool
 | .str a=>aN (leB a.length lim) (.ok ((a.length:Int) != 0))
 | _=>.bad
def tX(f:EF):TF:=fun ρ=>(f ρ).bind fun x=>(zdD x.1).bind fun b=>.ok (b,x.2)
section
variable [Cs]{K:yU}
theorem wH:gw X (.type "str") sM:=by
 intro pins s σ H xs us Q I r h;obtain⟨x,dx,d,rfl,tx,e,q⟩:=h;cases dx with
 | int i =>
  obtain⟨c,e⟩:=cJ (show aN _ _=.ok d from e);cases e;have hx:=tx.int;subst hx;obtain⟨u,rfl,ru⟩:=vals1 r;obtain⟨t,rfl⟩:=ru;exact PySem.P.str_of_int (by have:=dX c;omega) ⟨.str (toString i),H,I.tok _,⟨_,rfl⟩,q _ H (aA.refl _) (by simp[Fz])⟩
 | _=>exact nomatch (show(R.bad:R D)=.ok d from e)
theorem zh5(h:PV K X a f)(he:∀ whole,isTrue a X.env whole=(do let v <- whole;CO a.pos;Cv [v] (truthy v)):=by intro _;rfl):fC K X a (tX f):=.mk fun hK=>by
 subst hK;intro pins s σ H Q I q;rw[he];obtain⟨ρ,rel,q⟩:=q;refine yV (aT (h rfl pins s σ H (fun x H'=>∃ k,zei X.K x H' k/\Q k H') I ?_) fun v s1 ⟨x,H1,I1,r1,q1⟩=>yV (BZ (Bc (ziL pins s1 σ H1 x v Q I1 r1 q1))));refine dO rel q fun dx ρ1 x H1 au aY fx q1=>?_;obtain⟨d,ed,q2⟩:=q1.bV;cases dx with
 | str y =>
  obtain⟨c,e⟩:=cJ (show aN _ _=.ok d from ed);cases e;simp only[Fz]at fx;subst fx;exact⟨_,⟨AB (dX c) gF,rfl⟩,q2.now au⟩
 | _=>exact nomatch (show(R.bad:R Bool)=.ok d from ed)
end
end
section
end
section
end
variable {base:zh}{C fI:gV}{c:String}{α:Type}{mg:dm->Option ir}{fd:Ah}{P:zu}{w:zq}
section
theorem zl0[Cs]{K:yU}{q sn n1 f:dm}{st:zy}{p0 p1 p3:zc}(hm:mg x=some (.ref C))(hO:Cs.O c=none)(hX:Cs.X c=some (C,[f]))
  (ec:gz K C fI gh "ValueError.__new__"=true\/gz K C fI gh "Exception.__new__"=true) (hf:Ff K (.ref fI)=true) (F:fA K "__init__" q st fI fd) (hC:jJ K C) (na:jj K C f)
  (cq:dU st=[.Assign [.Attribute (.Name sn p0) f p1] (.Name n1 p2) p3]) (S:gZ [sn,n1] [sn,n1] (bB st))
  (h0:∀(aG:ir) (A:zx) (outer:List zC) (s:kb) (H:Hp) (E:XK),PE (fF lG P w K mg base [sn,n1] q (bB st) fI aG A outer s H E).cV (.Name sn p0) (dA 0))
  (h1:∀(aG:ir) (A:zx) (outer:List zC) (s:kb) (H:Hp) (E:XK),PE (fF lG P w K mg base [sn,n1] q (bB st) fI aG A outer s H E).cV (.Name n1 p2) (dA 1))
  (jU:∀(kV doc pm:ir) (an:Option gV) (aG ct:ir) (us:List ir),us.length=[sn,n1].length->Cy (A8 "__init__" q (i3 st) (dU st) (bB st) .none kV doc pm an aG ct) ⟨us,[]⟩=pure ([sn,n1].zip us)):vJ P w K mg base x c f 1:=by
 obtain⟨oc,od,kV,doc,pm,an,aG,ct,gR,e,lk,eZ⟩:=id F.ex;exact⟨C,fI,fd,[sn,n1],_,hm,hO,hX,ec,hf,lk,zl1 hC na F cq S h0 h1,F.binds jU⟩
theorem cM{Φ:α->Prop}{a:α}{l:List α}(h:Φ a)(t:∀ p∈l,Φ p):∀ p∈a::l,Φ p:=List.forall_mem_cons.mpr ⟨h,t⟩
theorem cL{Φ:α->Prop}:∀ p∈([]:List α),Φ p:=fun _ z=>nomatch z
end
variable {col:Option Bool}{b c1:ir}{sn:List dm}{r:Bool}{s1:Array (Option ir)}{ep:Nat}
section
section
variable {K:yU}{S ns:gV}{oo d1:Option gV}{nm qn:dm}{bs sub:List ir}{hd ab:Bool}{k0 k1 k2 k3 k5:Option ir}{nw n':String}
abbrev ErO(C S ns:gV)(oo:Option gV)(nm qn:dm)(bs sub:List ir)(hd ab:Bool)(sn:List dm)(col:Option Bool)(k0 k1 k2 k3 k5:Option ir)(nw:String):zb :=
 ⟨.type "type",oo,.cls ⟨nm,bs,[.ref C,.ref S,.type "ValueError",.type "Exception",.type "BaseException",.type "object"],ns,qn,hd,sn,sub,ab,col,false⟩,#[k0,k1,k2,k3,some (.builtin nw),k5]⟩
theorem ztS(h:Eo K S gh n'=true):DI K gh (.ref S::gh)=true:=by
 unfold Eo at h;unfold DI;rw[E1]
 right
 split at h
 ·rename_i ho
  split at h
  ·simp only[zX]at h
   dsimp only;rw[ho];simp only[zX];exact⟨⟨h.1.2,h.2⟩,rfl⟩
  ·cases h
 ·cases h
theorem zfO(hS:Eo K S gh n'=true)(lk:K.lookup C=some (ErO C S ns oo nm qn bs sub hd ab sn col k0 k1 k2 k3 k5 nw))(ln:K.lookup ns=some ⟨c1,d1,.dict es ep,s1⟩)(hes:(es.toList.all fun e=>match e.key with | .str _ _=>true|_=>false)=true)(hi:zA K ns "__init__"=some (some (.ref fI))):gz K C fI gh nw=true:=by
 unfold gz;rw[lk];have h1:DJ K ns=true:=by unfold DJ;rw[ln];exact(Gu (p:=fun e:BG=>match e.key with | .str _ _=>true|_=>false)).symm.trans hes
 simp only[zX,h1,hi,ztS hS,beq_self_eq_true,Aq,and_self]
theorem zkS(lk:K.lookup C=some (ErO C S ns oo nm qn bs sub hd ab sn col k0 k1 k2 k3 k5 nw)):(A1 K C).isSome=true/\((A1 K C).any fun cd=>sj cd.mro)=true:=by
 unfold A1;rw[lk];exact⟨rfl,rfl⟩
theorem zfb(e:BR K (.ref C) b=some r):(A1 K C).isSome=true:=by
 obtain⟨cd,e1,_⟩:=DE.mp (show(A1 K C).bind _=some r from e);rw[e1];rfl
theorem zp6(h:nw="ValueError.__new__"\/nw="Exception.__new__")(e:gz K C fI gh nw=true):gz K C fI gh "ValueError.__new__"=true\/gz K C fI gh "Exception.__new__"=true:=by
 rcases h with rfl|rfl
 ·exact .inl e
 ·exact .inr e
end
end
end FL
namespace K80
open PySem FL
def zeE:SF:=(ak (gi (e1 (jy "int") (eV 0)) (iJ (e1 (jy "bool") (eV 0)))))
def vQ:List D->R D:=bo false 1 1 zeE
def zi2:SF:=(qp (oA 3) (tB (e2 bR (eV 3) (eC (.int 0)))) (dq 2 3 (eV 3) (e2 fc (eV 2) (eV 3))))
def zeD:SF:=(ag (dq 2 3 (e1 jN (eV 0)) (e1 jN (eV 1)))
  (ag zi2
  (ak (eV 2))))
def zag:List D->R D:=bo false 2 4 zeD
def zeJ:SF:=(ak (bq (aa (e1 bz (eV 0)) (aa (eV 0) af))))
def zdO:List D->R D:=bo false 1 1 zeJ
def qg:EF:=(dB 1 [] (iT (eV 0)) (gN 0) du (e2 rL (eV 0) (eC (.str "0123456789"))))
def qR:SF:=(ag (ao (FL.aB (FL.bI (tB (fS jb jb (eC (.int 1)) (e1 e7 (eV 0)) (eC (.int 9))))) (FL.bI (tE (e1 tP qg)))) (ak (eC .none)) aw)
  (ag (ao (FL.bT (tB (e2 aK (e2 iM (eV 0) (eC (.int 0))) (eC (.str "0")))) (tB (e2 bR (eV 0) (eC (.str "0"))))) (ak (eC .none)) aw)
  (ak (e1 rN (eV 0)))))
def ko:List D->R D:=bo false 1 1 qR
def zew:SF:=(ag (ax (gN 2) (e2 aH (e2 aH (e2 cP (e2 aH (e2 fc (eV 0) (e2 aH (e2 fW (eC (.int 10)) (eC (.int 18))) (eC (.int 9)))) (e2 cP (eC (.int 7)) (eV 1))) (eC (.int 739108512309184756019283746561))) (e2 cP (eC (.int 7919)) (eV 1))) (eC (.int 1))))
  (ag (ax (gN 2) (e2 fc (e2 cP (eV 2) (eV 2)) (e2 aH (e2 fW (eC (.int 10)) (eC (.int 60))) (eC (.int 7)))))
  (ak (e2 fc (e2 cP (e2 aH (eV 2) (eC (.int 40503))) (e2 aH (eV 2) (eC (.int 57)))) (e2 aH (e2 fW (eC (.int 10)) (eC (.int 60))) (eC (.int 7)))))))
def zac:List D->R D:=bo false 2 3 zew
def zes:SF:=(ag (ao (tB (e2 dD (eV 1) (e1 bz (eV 0)))) (ak (e2 aD (eV 0) (eV 1))) aw)
  (ak (e2 aH (e2 cP (eC (.int 3)) (eV 1)) (eC (.int 1)))))
def vK:List D->R D:=bo false 2 2 zes
def zi1:SF:=(qp (oA 3) (tB (e2 bR (eV 3) (eC (.int 0)))) (dq 2 3 (eV 3) (e2 fc (eV 2) (eV 3))))
def zeu:SF:=(ag (ax (gN 2) (e1 jN (eV 0)))
  (ag (ax (gN 3) (eV 1))
  (ag zi1
  (ak (bq (aa (e2 i5 (eV 0) (eV 2)) (aa (e2 i5 (eV 1) (eV 2)) af)))))))
def lI:List D->R D:=bo false 2 4 zeu
def yw:EF:=(dB 1 [] (iE (eV 0)) (gN 0) du (e1 sM (eV 0)))
def wA:SF:=(ag (ao (tB (e2 aK (eV 0) (bq af))) (ak (eC (.str "e"))) aw)
  (ak (bt uJ (eC (.str ".")) yw)))
def zaf:List D->R D:=bo false 1 1 wA
def zez:SF:=(ak (bq (aa (e1 bz (eV 0)) (aa (eV 0) af))))
def vM:List D->R D:=bo false 1 1 zez
def zh6:EF:=(dB 1 [] (iE (eV 1)) (gN 0) du (e1 intD (eV 0)))
def zet:SF:=(ag (ax (gN 1) (bc (aa (cK 0 [("NoText",false)]) (aa (cK 0 [("NoText",false)]) (aa (cK 0 [("NoText",false)]) af)))))
  (ag (ax (gN 1) (e2 aH (eV 1) (bc (aa (cK 0 [("NoText",false)]) (aa (cK 0 [("NoText",false)]) (aa (cK 0 [("NoText",false)]) af))))))
  (ag (ax (gN 1) (e2 aH (eV 1) (bc (aa (cK 0 [("NoText",false)]) (aa (cK 0 [("NoText",false)]) (aa (cK 0 [("NoText",false)]) af))))))
  (ag (ax (gN 1) (e2 aH (eV 1) (bc (aa (cK 0 [("NoText",false)]) (aa (cK 0 [("NoText",false)]) (aa (cK 0 [("NoText",false)]) af))))))
  (ag (ax (gN 1) (e2 aH (eV 1) (bc (aa (cK 0 [("NoText",false)]) (aa (cK 0 [("NoText",false)]) (aa (cK 0 [("NoText",true)]) af))))))
  (ag (ax (gN 1) (e2 aH (eV 1) (bc (aa (cK 0 [("NoText",false)]) (aa (cK 0 [("NoText",false)]) (aa (cK 0 [("NoText",false)]) af))))))
  (ag (ax (gN 1) (e2 aH (eV 1) (bc (aa (cK 0 [("NoText",false)]) (aa (cK 0 [("NoText",false)]) (aa (cK 0 [("NoText",false)]) af))))))
  (ag (ax (gN 1) (e2 aH (eV 1) (bc (aa (cK 0 [("NoText",false)]) (aa (cK 0 [("NoText",false)]) (aa (cK 0 [("NoText",false)]) af))))))
  (ag (ax (gN 1) (e2 aH (eV 1) (bc (aa (cK 0 [("NoText",false)]) (aa (cK 0 [("NoText",false)]) (aa (cK 0 [("NoText",false)]) af))))))
  (ag (ao (FL.aB (FL.bI (tE (cK 0 [("NoText",true)]))) (FL.aB (FL.bI (tE (cK 0 [("NoText",true)]))) (tB (e2 bR (e1 ziu zh6) (eC (.int 1)))))) (ak (eC (.str ""))) aw)
  (ag (ax (gN 2) (bc (aa (eC (.str "Broken")) (aa (eC (.str "NoCount")) (aa (eC (.str "NoDeed")) (aa (eC (.str "NoLeast")) (aa (eC (.str "NoLine")) (aa (eC (.str "NoMatch")) (aa (eC (.str "NoName")) (aa (eC (.str "NoNumber")) (aa (eC (.str "NoPair")) af)))))))))))
  (ag (ax (gN 2) (e2 aH (eV 2) (bc (aa (eC (.str "NoPlace")) (aa (eC (.str "NoRow")) (aa (eC (.str "NoShelf")) (aa (eC (.str "NoSquare")) (aa (eC (.str "NoSum")) (aa (eC (.str "NoText")) (aa (eC (.str "NoTree")) (aa (eC (.str "NoWord")) (aa (eC (.str "NotActing")) af))))))))))))
  (ag (ax (gN 2) (e2 aH (eV 2) (bc (aa (eC (.str "NotBare")) (aa (eC (.str "NotEaten")) (aa (eC (.str "NotFree")) (aa (eC (.str "NotGap")) (aa (eC (.str "NotKept")) (aa (eC (.str "NotNought")) (aa (eC (.str "NotOne")) (aa (eC (.str "TooDeep")) af)))))))))))
  (ak (e2 aD (e2 aH (eV 2) (bc (aa (eC (.str "TooLong")) af))) (e2 zgz (eV 1) (eC (.bool true))))))))))))))))))
def zab:String->List D->R D:=runK 3 zet
def qO:SF:=(ag (ao (FL.aB (tB (e2 dD (e1 e7 (eV 0)) (eC (.int 1)))) (FL.aB (tB (e2 gC (e1 e7 (eV 0)) (eC (.int 9)))) (tB (e2 bR (bt yH (eV 0) (eC (.str "0123456789"))) (eC (.str "")))))) (ak (eC .none)) aw)
  (ag (ao (FL.bT (tB (e2 bR (eV 0) (eC (.str "0")))) (tB (e2 aK (e2 iM (eV 0) (eC (.int 0))) (eC (.str "0"))))) (ak (eC .none)) aw)
  (ak (e1 rN (eV 0)))))
def qB:List D->R D:=bo false 1 1 qO
def wq:SF:=(ag (ao (tB (e2 aK (e2 aD (eV 0) (eC (.int 1))) (eC (.int 1)))) (ak (e1 sM (e2 aD (eV 0) (eC (.int 0))))) aw)
  (ak (e2 c5 (e2 c5 (e1 sM (e2 aD (eV 0) (eC (.int 0)))) (eC (.str "/"))) (e1 sM (e2 aD (eV 0) (eC (.int 1)))))))
def zad:List D->R D:=bo false 1 1 wq
def zex:SF:=(ag (ax (gN 1) (bc (aa (eC (.str "")) (aa (eC (.str "0")) (aa (eC (.str "1")) (aa (eC (.str "e")) (aa (eC (.str "1:")) (aa (eC (.str ":e")) (aa (eC (.str "0:e")) (aa (eC (.str "1:e")) (aa (eC (.str "01:e")) (aa (eC (.str "1/1:e")) (aa (eC (.str "2/4:e")) (aa (eC (.str "-0:e")) (aa (eC (.str "+1:e")) (aa (eC (.str "1:e.0")) af))))))))))))))))
  (ag (ax (gN 1) (e2 aH (eV 1) (bc (aa (eC (.str "1:0.")) (aa (eC (.str "1:.0")) (aa (eC (.str "1:00")) (aa (eC (.str "1:9")) (aa (eC (.str "1:0:0")) (aa (eC (.str "1/0:0")) (aa (eC (.str "--1:0")) (aa (eC (.str "1000000000:0")) (aa (eC (.str "1:0.0.0.0.0.0")) af))))))))))))
  (ak (e2 aD (e2 aH (eV 1) (bc (aa (eC (.str "1/-2:0")) af))) (e2 fc (eV 0) (eC (.int 24)))))))
def tf:List D->R D:=bo false 1 2 zex
def wB:SF:=(ag (ao (FL.aB (FL.bI (tE (e1 (jy "tuple") (eV 0)))) (tB (e2 bR (e1 bz (eV 0)) (eC (.int 2))))) (ak (eC (.bool false))) aw)
  (ag (ax (gT [(gN 1),(gN 2)]) (eV 0))
  (ag (ao (FL.aB (FL.bI (tE (az vQ (aa (eV 1) af)))) (FL.aB (FL.bI (tE (az vQ (aa (eV 2) af)))) (tB (e2 dD (eV 2) (eC (.int 1)))))) (ak (eC (.bool false))) aw)
  (ak (e2 aK (az zag (aa (eV 1) (aa (eV 2) af))) (eC (.int 1)))))))
def vP:List D->R D:=bo false 1 3 wB
def qQ:SF:=(ag (ao (FL.bI (tE (bt zdx (eV 0) (eC (.str "-"))))) (ak (az ko (aa (eV 0) af))) aw)
  (ag (ax (gN 1) (az ko (aa (cE (eV 0) (bL (eC (.int 1))) bK) af)))
  (ag (ao (FL.aB (tB (e2 eI (eV 1) (eC .none))) (tB (e2 aK (eV 1) (eC (.int 0))))) (ak (eC .none)) aw)
  (ak (e1 iN (eV 1))))))
def qE:List D->R D:=bo false 1 2 qQ
def zeG:SF:=(ag (ax (gN 2) (az ko (aa (eV 0) af)))
  (ag (ao (FL.aB (tB (e2 eI (eV 2) (eC .none))) (tB (e2 jt (eV 2) (eV 1)))) (ak (eC .none)) aw)
  (ak (eV 2))))
def zah:List D->R D:=bo false 2 3 zeG
def zey:SF:=(ag (ao (tB (e2 jt (eV 0) (e2 fW (eC (.int 10)) (eC (.int 18))))) (cX (bc (aa (e2 dI (eV 0) (e2 fW (eC (.int 10)) (eC (.int 18)))) (aa (eC (.int 0)) (aa (eV 1) af))))) aw)
  (cX (bc (aa (az zac (aa (eV 0) (aa (eV 1) af))) (aa (eC (.int 0)) (aa (e2 aH (e2 fc (eV 0) (e2 aH (e2 fW (eC (.int 10)) (eC (.int 18))) (eC (.int 9)))) (eV 1)) af))))))
def vL:List D->R D:=bo true 2 2 zey
def zeA:SF:=(ag (ao (tB (e2 dD (m2 aD 0 (eC (.int 0))) (eV 1))) (ag (setM 0 (e2 aH (m2 aD 0 (eC (.int 1))) (eC (.int 1))) (eC (.int 1)))
  (setM 0 (e2 aH (m2 aD 0 (eC (.int 0))) (e2 cP (eV 1) (az zac (aa (m2 aD 0 (eC (.int 2))) (aa (e2 aH (e2 cP (eC (.int 11)) (m2 aD 0 (eC (.int 1)))) (eC (.int 5))) af))))) (eC (.int 0)))) aw)
  (ag (ax (gN 2) (e2 fc (m2 aD 0 (eC (.int 0))) (eV 1)))
  (ag (setM 0 (e2 i5 (m2 aD 0 (eC (.int 0))) (eV 1)) (eC (.int 0)))
  (ak (eV 2)))))
def bD:List D->R (D×List D):=run [true,false] false 3 zeA
def yv:EF:=(dB 2 [] (iE (eV 0)) (gT [(gN 0),(gN 1)]) du (e2 c5 (e2 c5 (az zad (aa (eV 1) af)) (eC (.str ":"))) (az zaf (aa (eV 0) af))))
def wz:SF:=(ag (ao (tB (e2 aK (eV 0) (bc af))) (ak (eC (.str "0"))) aw)
  (ak (bt uJ (eC (.str " ")) yv)))
def vO:List D->R D:=bo false 1 1 wz
def sD:EF:=(dB 1 [] (iE (eV 2)) (gN 0) du (az qB (aa (eV 0) af)))
def wo:SF:=(ag (ax (gN 1) (eC (.int 1)))
  (ag (ao (tB (e2 aK (cE (eV 0) bK (bL (eC (.int 1)))) (eC (.str "-")))) (ag (ax (gN 1) (e1 iN (eC (.int 1))))
  (ax (gN 0) (cE (eV 0) (bL (eC (.int 1))) bK))) aw)
  (ag (ax (gN 2) (bt eD (eV 0) (eC (.str "/"))))
  (ag (fj 3 (bx 3 sD))
  (ag (ao (FL.aB (tB (e2 i9 (eC .none) (eV 3))) (FL.aB (tB (e2 gC (e1 bz (eV 3)) (eC (.int 2)))) (FL.bT (tB (e2 aK (eV 1) (e1 iN (eC (.int 1))))) (tB (e2 aK (e2 aD (eV 3) (eC (.int 0))) (eC (.int 0))))))) (ak (eC .none)) aw)
  (ag (ao (tB (e2 aK (e1 bz (eV 3)) (eC (.int 1)))) (ak (bq (aa (e2 cP (eV 1) (e2 aD (eV 3) (eC (.int 0)))) (aa (eC (.int 1)) af)))) aw)
  (ag (ao (FL.aB (tB (e2 dD (e2 aD (eV 3) (eC (.int 1))) (eC (.int 2)))) (tB (e2 bR (az lI (aa (e2 aD (eV 3) (eC (.int 0))) (aa (e2 aD (eV 3) (eC (.int 1))) af))) (bq (aa (e2 aD (eV 3) (eC (.int 0))) (aa (e2 aD (eV 3) (eC (.int 1))) af)))))) (ak (eC .none)) aw)
  (ak (bq (aa (e2 cP (eV 1) (e2 aD (eV 3) (eC (.int 0)))) (aa (e2 aD (eV 3) (eC (.int 1))) af)))))))))))
def ph:List D->R D:=bo false 1 4 wo
def zeB:SF:=(ag (ax (gN 2) (az qB (aa (eV 0) af)))
  (ag (ao (FL.aB (tB (e2 eI (eV 2) (eC .none))) (tB (e2 jt (eV 2) (eV 1)))) (ak (eC .none)) aw)
  (ak (eV 2))))
def zae:List D->R D:=bo false 2 3 zeB
def kx:SF:=(ag (ax (gT [(gN 1),(gN 2),(gN 3)]) (bt kU (eV 0) (eC (.str "/"))))
  (ag (ax (gN 4) (az qE (aa (eV 1) af)))
  (ag (ax (gN 5) (fT (tX (eV 2)) (az ko (aa (eV 3) af)) (eC (.int 1))))
  (ag (ao (FL.aB (tB (e2 eI (eV 4) (eC .none))) (FL.aB (tB (e2 eI (eV 5) (eC .none))) (FL.aB (FL.bT (tX (eV 2)) (tB (e2 aK (eV 5) (eC (.int 1))))) (FL.bI (tE (az vP (aa (bq (aa (eV 4) (aa (eV 5) af))) af))))))) (ak (eC .none)) aw)
  (ak (bq (aa (eV 4) (aa (eV 5) af))))))))
def iU:List D->R D:=bo false 1 6 kx
def zdm:EF:=(dB 1 [1] (iE (bt eD (eV 0) (eC (.str ".")))) (gN 0) du (az zah (aa (eV 0) (aa (eV 1) af))))
def zeH:SF:=(ag (ao (tB (e2 aK (eV 0) (eC (.str "e")))) (ak (bq af)) aw)
  (ag (fj 2 (bx 2 zdm))
  (ag (ao (FL.aB (tB (e2 i9 (eC .none) (eV 2))) (tB (e2 gC (e1 bz (eV 2)) (eC (.int 5))))) (ak (eC .none)) aw)
  (ak (e1 gu (eV 2))))))
def pj:List D->R D:=bo false 2 3 zeH
def pF:SF:=(ag (ax (gN 1) (aQ bD [.m 0,.v (eC (.int 6))]))
  (ag (ao (tB (e2 dD (eV 1) (eC (.int 3)))) (ak (e2 aD (bc (aa (bq (aa (eC (.int 0)) (aa (eC (.int 1)) af))) (aa (bq (aa (eC (.int 1)) (aa (eC (.int 1)) af))) (aa (bq (aa (e1 iN (eC (.int 1))) (aa (eC (.int 1)) af))) af)))) (eV 1))) aw)
  (ag (ao (tB (e2 dD (eV 1) (eC (.int 5)))) (ak (az lI (aa (e2 dI (aQ bD [.m 0,.v (eC (.int 39))]) (eC (.int 19))) (aa (e2 aH (eC (.int 1)) (e2 cP (aQ bD [.m 0,.v (eC (.int 12))]) (e2 dI (eV 1) (eC (.int 3))))) af)))) aw)
  (ak (az lI (aa (e2 aH (e2 dI (aQ bD [.m 0,.v (e2 dI (e2 cP (eC (.int 2)) (e2 fW (eC (.int 10)) (eC (.int 9)))) (eC (.int 1)))]) (e2 fW (eC (.int 10)) (eC (.int 9)))) (eC (.int 1))) (aa (e2 aH (eC (.int 1)) (aQ bD [.m 0,.v (e2 dI (e2 fW (eC (.int 10)) (eC (.int 9))) (eC (.int 1)))])) af)))))))
def lJ:List D->R (D×List D):=run [true] false 2 pF
def zdh:EF:=(dB 1 [1] (iE (bt eD (eV 0) (eC (.str ".")))) (gN 0) du (az zae (aa (eV 0) (aa (eV 1) af))))
def zeC:SF:=(ag (ao (tB (e2 aK (eV 0) (eC (.str "e")))) (ak (bq af)) aw)
  (ag (fj 2 (bx 2 zdh))
  (ag (ao (FL.aB (tB (e2 i9 (eC .none) (eV 2))) (tB (e2 gC (e1 bz (eV 2)) (eC (.int 5))))) (ak (eC .none)) aw)
  (ak (e1 gu (eV 2))))))
def qD:List D->R D:=bo false 2 3 zeC
def lP:SF:=(ag (ax (gN 2) (aQ bD [.m 1,.v (eC (.int 6))]))
  (ag (ao (tB (e2 dD (eV 2) (eC (.int 3)))) (ag (ax (gN 3) (aQ bD [.m 1,.v (e2 aH (e1 e7 (eV 0)) (eC (.int 1)))]))
  (ag (ax (gN 4) (eC (.str " 0123456789:.-/+e*~")))
  (ag (ax (gN 5) (e2 iM (eV 4) (aQ bD [.m 1,.v (e1 e7 (eV 4))])))
  (ak (e2 aD (bc (aa (e2 c5 (e2 c5 (cE (eV 0) bK (bL (eV 3))) (eV 5)) (cE (eV 0) (bL (eV 3)) bK)) (aa (e2 c5 (cE (eV 0) bK (bL (eV 3))) (cE (eV 0) (bL (e2 aH (eV 3) (eC (.int 1)))) bK)) (aa (e2 c5 (e2 c5 (cE (eV 0) bK (bL (eV 3))) (eV 5)) (cE (eV 0) (bL (e2 aH (eV 3) (eC (.int 1)))) bK)) af)))) (eV 2)))))) aw)
  (ag (bx 6 (bt eD (eV 0) (eC (.str " "))))
  (ag (ax (gN 3) (aQ bD [.m 1,.v (m1 bz 6)]))
  (ag (ax (gN 7) (az tf (aa (aQ bD [.m 1,.v (eC (.int 24))]) af)))
  (ag (ao (tB (e2 aK (eV 2) (eC (.int 3)))) (my 6 (e2 aH (eV 3) (aQ bD [.m 1,.v (eC (.int 2))])) (eV 7)) (ao (tB (e2 aK (eV 2) (eC (.int 4)))) (setM 6 (eV 7) (eV 3)) (my 6 (aQ bD [.m 1,.v (e2 aH (m1 bz 6) (eC (.int 1)))]) (m2 aD 6 (eV 3)))))
  (fN 6 (ak (bt uJ (eC (.str " ")) (eV 6))))))))))
def mX:List D->R (D×List D):=run [false,true] false 8 lP
def zh8:EF:=(dB 1 [0] (iE (e1 (mS zdO) (eV 0))) (gN 0) du (bq (aa (eV 0) (aa (e2 h8 (eV 1) (eV 0)) af))))
def zeI:SF:=(cX zh8)
def vR:List D->R D:=bo true 1 1 zeI
def vt:EF:=(dB 1 [0,1] (fH (aa (aQ bD [.m 0,.v (eC (.int 6))]) af)) (gN 0) du (aQ bD [.m 1,.v (eV 2)]))
def vG:SF:=(ag (ax (gN 5) (e1 gu vt))
  (ag (ax (gN 6) (aQ lJ [.m 0]))
  (ao (tB (e2 bR (e2 aD (eV 6) (eC (.int 0))) (eC (.int 0)))) (eL 3 (eV 5) (eV 6)) aw)))
def yP:SF:=(dZ (fH (aa (aQ bD [.m 0,.v (e2 aH (eV 2) (eC (.int 1)))]) af)) (gN 4) vG)
def sF:EF:=(dB 1 [3] (iE (e1 (mS vM) (eV 3))) (gN 0) du (bq (aa (eV 0) (aa (e2 h8 (eV 1) (eV 0)) af))))
def wu:SF:=(ag (bx 3 gj)
  (ag yP
  (fN 3 (cX sF))))
def vN:List D->R (D×List D):=run [true,false,false] true 7 wu
def lA:SF:=(ag (ax (gN 5) (bt eD (eV 4) (eC (.str ":"))))
  (ag (ao (tB (e2 bR (e1 bz (eV 5)) (eC (.int 2)))) (ak (bc (aa (eC (.str "text")) (aa (eV 3) af)))) aw)
  (ag (ax (gN 6) (az ph (aa (e2 aD (eV 5) (eC (.int 0))) af)))
  (ag (ax (gN 7) (az qD (aa (e2 aD (eV 5) (eC (.int 1))) (aa (eV 1) af))))
  (ag (ao (FL.aB (tB (e2 eI (eV 6) (eC .none))) (FL.aB (tB (e2 aK (e2 aD (eV 6) (eC (.int 0))) (eC (.int 0)))) (FL.aB (tB (e2 eI (eV 7) (eC .none))) (tB (e8 inD (eV 7) 2))))) (ak (bc (aa (eC (.str "text")) (aa (eV 3) af)))) aw)
  (eL 2 (eV 7) (eV 6)))))))
def zdI:SF:=(dZ (mx (aa (bt eD (eV 0) (eC (.str " "))) af)) (gT [(gN 3),(gN 4)]) lA)
def yu:EF:=(dB 1 [2] (iE (e1 (mS vM) (eV 2))) (gN 0) du (bq (aa (eV 0) (aa (e2 h8 (eV 1) (eV 0)) af))))
def nj:SF:=(ag (ao (tB (e2 aK (eV 0) (eC (.str "0")))) (ak (bc (aa (eC (.str "sum")) (aa (bc af) af)))) aw)
  (ag (bx 2 gj)
  (ag zdI
  (fN 2 (ak (bc (aa (eC (.str "sum")) (aa yu af))))))))
def qC:List D->R D:=bo false 2 8 nj
def wm:SF:=(ag (gU (ao (tB (e2 aK (eV 0) (eC (.str "0")))) (cX (bc af)) aw))
  (ag (gU (bx 2 gj))
  (ag (dZ (xH (mx (aa (bt eD (eV 0) (eC (.str " "))) af))) (lY (gT [(gN 3),(gN 4)])) (ag (gU (ax (gT [(gN 5),(gN 6),(gN 7)]) (bt kU (eV 4) (eC (.str ":")))))
  (ag (gU (dq 8 9 (az iU (aa (eV 5) af)) (az pj (aa (eV 7) (aa (eV 1) af)))))
  (ag (ao (vD (FL.aB (tB (e2 eI (eV 8) (eC .none))) (FL.aB (tB (e2 aK (eV 8) (eC (.tuple [(.int 0),(.int 1)])))) (FL.aB (tB (e2 eI (eV 9) (eC .none))) (tB (e8 inD (eV 9) 2)))))) (yA "NoText" true (aa (eV 3) af)) (gU aw))
  (gU (eL 2 (eV 9) (eV 8)))))))
  iu)))
def lM:List D->R D:=qk [none,none] true 10 wm
def lB:SF:=(ag (ax (gT [(gN 5),(gN 6),(gN 7)]) (bt kU (eV 4) (eC (.str ":"))))
  (ag (dq 8 9 (az iU (aa (eV 5) af)) (az pj (aa (eV 7) (aa (eV 1) af))))
  (ag (ao (FL.aB (tB (e2 eI (eV 8) (eC .none))) (FL.aB (tB (e2 aK (eV 8) (eC (.tuple [(.int 0),(.int 1)])))) (FL.aB (tB (e2 eI (eV 9) (eC .none))) (tB (e8 inD (eV 9) 2))))) iu aw)
  (eL 2 (eV 9) (eV 8)))))
def zdK:SF:=(dZ (mx (aa (bt eD (eV 0) (eC (.str " "))) af)) (gT [(gN 3),(gN 4)]) lB)
def nu:SF:=(ag (ao (tB (e2 aK (eV 0) (eC (.str "0")))) (cX (bc af)) aw)
  (ag (bx 2 gj)
  (ag zdK
  (fN 2 (cX (az vR (aa (eV 2) af)))))))
def kn:List D->R D:=bo true 2 10 nu
def qP:SF:=(ag (ax (gN 2) (az qC (aa (eV 0) (aa (eV 1) af))))
  (ag (ax (gN 3) (eC .none))
  (ag (ax (gN 4) (eC .none))
  (ag (qo 5 3 (bx 4 (jP kn lM (aa (eV 0) (aa (eV 1) af)))))
  (ag (ao (tB (e2 aK (e2 aD (eV 2) (eC (.int 0))) (eC (.str "text")))) (ak (gi (e2 aK (wU 3 zab) (eC (.str "NoText"))) (gi (iJ (e1 (jy "bool") (ua 3 [("NoText",0)]))) (e2 aK (ua 3 [("NoText",0)]) (e2 aD (eV 2) (eC (.int 1))))))) aw)
  (ak (gi (wV 3) (gi (m1 (jy "list") 4) (m2 aK 4 (e2 aD (eV 2) (eC (.int 1))))))))))))
def tj:List D->R D:=bo false 2 6 qP
def yN:SF:=(ao (FL.aB (FL.bI (tE (az tj (aa (eV 6) (aa (eV 3) af))))) (FL.bI (tE (az tj (aa (eV 6) (aa (az (two xQ) (aa (eC (.int 1)) (aa (e2 dI (eV 3) (eC (.int 1))) af))) af)))))) (ak (eC (.bool false))) aw)
def zdJ:SF:=(dZ (iE (bc (aa (eV 5) (aa (eV 4) af)))) (gN 6) yN)
def sU:SF:=(ag (bx 2 (az vL (aa (az vK (aa (eV 0) (aa (eV 1) af))) (aa (e2 aH (eC (.int 80)) (eV 1)) af))))
  (ag (ax (gN 3) (e2 aH (eC (.int 1)) (aQ bD [.m 2,.v (eC (.int 6))])))
  (ag (ax (gN 4) (az vO (aa (aQ vN [.m 2,.v (eV 3),.v (eC (.int 6))]) af)))
  (ag (ax (gN 5) (aQ mX [.v (eV 4),.m 2]))
  (ag (ao (tB (e2 aK (aQ bD [.m 2,.v (eC (.int 3))]) (eC (.int 1)))) (ax (gN 5) (aQ mX [.v (eV 5),.m 2])) aw)
  zdJ)))))
def yQ:SF:=(dZ (fH (aa (eC (.int 16)) af)) (gN 1) sU)
def wC:SF:=(ag yQ
  (ak (eC (.bool true))))
def tm:List D->R D:=bo false 1 7 wC
end K80
namespace K80
open PySem L2 PySem.Spec FL
open PyProof.Rows hiding St
variable {sO sP sQ sR sS:zQ}{aM bG fO fa o5 o6 o7 o8 o9 oF oG oH oJ oK oM oN oO oP oQ oR oS oU oV oW oX oY oZ pd pe pf:gV}{fd:Ah}{P:zu}{mg:dm->Option ir}{base:zh}{w:zq}
section
noncomputable def top(i:Nat):zy:=PySem.Challenge.pw_swaprest_k80_sum_texts_that_are_none.main.body.getD i (.Pass ⟨0,0,0,0⟩)
def inC(i j:Nat):zy:=match top i with
  | .ClassDef _ _ _ b _ _ _ _ _ _ _=>b.getD j (.Pass ⟨0,0,0,0⟩)
  | s=>s
variable [Cs]
structure Cst(mg:dm->Option ir)(sO:zQ)(sP:zQ)(sQ:zQ)(sR:zQ)(sS:zQ)(bG:gV):Prop where
  zcz:mg "ALONE"=some (.str "e" sO)
  zcA:mg "FIGURES"=some (.str "0123456789" sP)
  zcB:mg "MOST_FIGURES"=some (.int 9 sQ)
  zcC:mg "MOST_LONG"=some (.int 5 sR)
  xO:mg "NOTHING"=some (.str "0" sS)
  xP:mg "NOUGHT"=some (.ref bG)
  ziT:∃ o,Cs.C bG=some (.frz o (.tup [.int 0,.int 1]))
section
variable {K:yU}
abbrev zeb:=CT "is_whole" 1 ["one"] 1 false vQ
abbrev zd9:=CT "common_divisor" 1 ["one","other"] 2 false zag
abbrev zeg:=CT "word_order" 1 ["word"] 1 false zdO
abbrev v9:=CT "read_whole" 1 ["text"] 1 false ko
abbrev zam:=CT "_law_mixed" 1 ["_law_cell","_law_k"] 2 false zac
abbrev zdU:=CT "_law_at" 1 ["_law_script","_law_k"] 2 false vK
abbrev zal:=CT "_law_low" 1 ["_law_top","_law_bottom"] 2 false lI
abbrev zd8:=CT "_law_word_text" 1 ["_law_word"] 1 false zaf
abbrev zan:=CT "_law_rank" 1 ["_law_word"] 1 false vM
abbrev zdV:=CTK "_law_class" 1 ["_law_error"] zab
abbrev zak:=CT "_law_figures" 1 ["_law_text"] 1 false qB
abbrev zdY:=CT "_law_number_text" 1 ["_law_number"] 1 false zad
abbrev zdZ:=CT "_law_odd" 1 ["_law_number"] 1 false tf
abbrev zea:=CT "is_number" 2 ["one"] 1 false vP
abbrev zed:=CT "read_top" 2 ["text"] 1 false qE
abbrev zee:=CT "read_way" 2 ["text","count"] 2 false zah
abbrev zd0:=CT "_law_purse" 2 ["_law_cell","_law_k"] 2 true vL
abbrev tH:=vH "_law_take" 2 ["_law_purse_here","_law_many"] [true,false] false bD
abbrev zd5:=CT "_law_sum_text" 2 ["_law_total"] 1 false vO
abbrev zdX:=CT "_law_number_in" 2 ["_law_text"] 1 false ph
abbrev zd6:=CT "_law_way_in" 2 ["_law_text","_law_count"] 2 false zae
abbrev zao:=CT "read_number" 3 ["text"] 1 false iU
abbrev zap:=CT "read_word" 3 ["text","count"] 2 false pj
abbrev zdW:=vH "_law_nine" 3 ["_law_purse_here"] [true] false lJ
abbrev zd7:=CT "_law_word_in" 3 ["_law_text","_law_count"] 2 false qD
abbrev zd3:=vH "_law_spoilt" 3 ["_law_text","_law_purse_here"] [false,true] false mX
abbrev zef:=CT "told_sum" 4 ["held"] 1 true vR
abbrev zd4:=vH "_law_sum" 4 ["_law_purse_here","_law_count","_law_most"] [true,false,false] true vN
abbrev zd1:=CT "_law_read" 4 ["_law_text","_law_count"] 2 false qC
abbrev zdT:=CTX "read_sum" 5 ["text","count"] [none,none] true lM
abbrev zec:=CT "read_sum" 5 ["text","count"] 2 true kn
abbrev zd2:=CT "_law_right" 6 ["_law_text","_law_count"] 2 false tj
variable (B:Blt mg)(C:Cst mg sO sP sQ sR sS bG)
include B C
theorem znP(h:aP K mg "is_whole" (top 31)):zeb P w K mg base:=dN ["one"] h fun hr nd=>by
  unfold zeE;exact(bp (vm (yj zoC B.bZ B.rZ Bt.int (ae 0)) (zc8 (zh0 (yj zgJ B.bZ B.xV Bt.bool (ae 0))))))
theorem znN(h:aP K mg "common_divisor" (top 32)):zd9 P w K mg base:=dN ["one","other","high","low"] h fun hr nd=>by
  unfold zeD zi2;exact(aE (vq 2 3 nd (fX zaI B.uR Bt.abs (ae 0)) (fX zaI B.uR Bt.abs (ae 1)))
      (aE (zh4 (oA 3) Gj (bh (kZ hr) (ae 3) ay) (dF (vq 2 3 nd (ae 3) (aJ og (ae 2) (ae 3)))))
      (bp (ae 2))))
theorem znY(h:aP K mg "word_order" (top 36)):zeg P w K mg base:=dN ["word"] h fun hr nd=>by
  unfold zeJ;exact(bp (gH (a2 (fX jm B.gm Bt.len (ae 0)) (ae 0))))
theorem znV(h:aP K mg "read_whole" (top 43)):v9 P w K mg base:=dN ["text"] h fun hr nd=>by
  unfold qR qg;exact(aE (bO (cI.fi (dg (j7 (zrJ (zh7 hr) (zh7 hr) ay (fX t6 B.gm Bt.len (ae 0)) (sA (v:=(.int 9)) rfl C.zcB ⟨_,rfl⟩ (fun _=>iK _)))) (gI (j7 (kY lE (fX (zkq rfl) B.zcK Bt.all (bw.pv (cp ["sign"] [] ["sign"] (zrw (ae 0)) (fun nd=>(cF 0 nd)) j8 (yi (zpG (ziS hr)) (ae 0) (sA (v:=(.str "0123456789")) rfl C.zcA ⟨_,rfl⟩ (fun _=>by simp[Fz]))))))))))) (bp dj) bQ)
      (aE (bO (cI.fi (yr (bh (dG hr) (cQ zcY (ae 0) ay) aI) (yt (bh (kZ hr) (ae 0) aI)))) (bp dj) bQ)
      (bp (kW zeW B.rZ Bt.int (ae 0)))))
theorem znx(h:aP K mg "_law_mixed" (top 50)):zam P w K mg base:=dN ["_law_cell","_law_k","_law_number"] h fun hr nd=>by
  unfold zew;exact(aE (bF 2 nd (aJ bS (aJ bS (aJ jD (aJ bS (aJ og (ae 0) (aJ bS (aJ mJ ay ay) ay)) (aJ jD ay (ae 1))) ay) (aJ jD ay (ae 1))) ay))
      (aE (bF 2 nd (aJ og (aJ jD (ae 2) (ae 2)) (aJ bS (aJ mJ ay ay) ay)))
      (bp (aJ og (aJ jD (aJ bS (ae 2) ay) (aJ bS (ae 2) ay)) (aJ bS (aJ mJ ay ay) ay)))))
theorem znt(h:aP K mg "_law_at" (top 53)):zdU P w K mg base:=dN ["_law_script","_law_k"] h fun hr nd=>by
  unfold zes;exact(aE (bO (bh (ot hr) (ae 1) (fX jm B.gm Bt.len (ae 0))) (bp (cQ cy (ae 0) (ae 1))) bQ)
      (bp (aJ bS (aJ jD ay (ae 1)) ay)))
theorem znw(h:aP K mg "_law_low" (top 54)):zal P w K mg base:=dN ["_law_top","_law_bottom","_law_one","_law_other"] h fun hr nd=>by
  unfold zeu zi1;exact(aE (bF 2 nd (fX zaI B.uR Bt.abs (ae 0)))
      (aE (bF 3 nd (ae 1))
      (aE (zh4 (oA 3) Gj (bh (kZ hr) (ae 3) ay) (dF (vq 2 3 nd (ae 3) (aJ og (ae 2) (ae 3)))))
      (bp (gH (a2 (aJ (zcX hr) (ae 0) (ae 2)) (aJ (zcX hr) (ae 1) (ae 2))))))))
theorem znM(h:aP K mg "_law_word_text" (top 59)):zd8 P w K mg base:=dN ["_law_word"] h fun hr nd=>by
  unfold wA yw;exact(aE (bO (bh (dG hr) (ae 0) (gH mO)) (bp aI) bQ)
      (bp (iq Gv Gw zcD aI (bw.pv (cp ["_law_way"] [] ["_law_way"] (kX (ae 0)) (fun nd=>(cF 0 nd)) j8 (kW wH B.r6 Bt.str (ae 0)))))))
theorem znD(h:aP K mg "_law_rank" (top 60)):zan P w K mg base:=dN ["_law_word"] h fun hr nd=>by
  unfold zez;exact(bp (gH (a2 (fX jm B.gm Bt.len (ae 0)) (ae 0))))
theorem znu(h:aP K mg "_law_class" (top 63))  (zbQ:mg "Broken"=some (.ref oF))(zaZ:∀ p∈([("NoText",false)]:List (String×Bool)),bj K (.ref oF) p.1 p.2)(zbR:mg "NoCount"=some (.ref oG))(za0:∀ p∈([("NoText",false)]:List (String×Bool)),bj K (.ref oG) p.1 p.2)(zbS:mg "NoDeed"=some (.ref oH))(za1:∀ p∈([("NoText",false)]:List (String×Bool)),bj K (.ref oH) p.1 p.2)(zbT:mg "NoLeast"=some (.ref oJ))(za2:∀ p∈([("NoText",false)]:List (String×Bool)),bj K (.ref oJ) p.1 p.2)(zbU:mg "NoLine"=some (.ref oK))(za3:∀ p∈([("NoText",false)]:List (String×Bool)),bj K (.ref oK) p.1 p.2)(zbV:mg "NoMatch"=some (.ref oM))(za4:∀ p∈([("NoText",false)]:List (String×Bool)),bj K (.ref oM) p.1 p.2)(zbW:mg "NoName"=some (.ref oN))(za5:∀ p∈([("NoText",false)]:List (String×Bool)),bj K (.ref oN) p.1 p.2)(zbX:mg "NoNumber"=some (.ref oO))(za6:∀ p∈([("NoText",false)]:List (String×Bool)),bj K (.ref oO) p.1 p.2)(zbY:mg "NoPair"=some (.ref oP))(za7:∀ p∈([("NoText",false)]:List (String×Bool)),bj K (.ref oP) p.1 p.2)(zbZ:mg "NoPlace"=some (.ref oQ))(za8:∀ p∈([("NoText",false)]:List (String×Bool)),bj K (.ref oQ) p.1 p.2)(zb0:mg "NoRow"=some (.ref oR))(za9:∀ p∈([("NoText",false)]:List (String×Bool)),bj K (.ref oR) p.1 p.2)(zb1:mg "NoShelf"=some (.ref oS))(zba:∀ p∈([("NoText",false)]:List (String×Bool)),bj K (.ref oS) p.1 p.2)(zb2:mg "NoSquare"=some (.ref oU))(zbb:∀ p∈([("NoText",false)]:List (String×Bool)),bj K (.ref oU) p.1 p.2)(zb3:mg "NoSum"=some (.ref oV))(zbc:∀ p∈([("NoText",false)]:List (String×Bool)),bj K (.ref oV) p.1 p.2)(xu:mg "NoText"=some (.ref aM))(zbd:∀ p∈([("NoText",true)]:List (String×Bool)),bj K (.ref aM) p.1 p.2)(zb4:mg "NoTree"=some (.ref oW))(zbe:∀ p∈([("NoText",false)]:List (String×Bool)),bj K (.ref oW) p.1 p.2)(zb5:mg "NoWord"=some (.ref oX))(zbf:∀ p∈([("NoText",false)]:List (String×Bool)),bj K (.ref oX) p.1 p.2)(zb6:mg "NotActing"=some (.ref oY))(zbg:∀ p∈([("NoText",false)]:List (String×Bool)),bj K (.ref oY) p.1 p.2)(zb7:mg "NotBare"=some (.ref oZ))(zbh:∀ p∈([("NoText",false)]:List (String×Bool)),bj K (.ref oZ) p.1 p.2)(zb8:mg "NotEaten"=some (.ref o5))(zbi:∀ p∈([("NoText",false)]:List (String×Bool)),bj K (.ref o5) p.1 p.2)(zb9:mg "NotFree"=some (.ref o6))(zbj:∀ p∈([("NoText",false)]:List (String×Bool)),bj K (.ref o6) p.1 p.2)(zca:mg "NotGap"=some (.ref o7))(zbk:∀ p∈([("NoText",false)]:List (String×Bool)),bj K (.ref o7) p.1 p.2)(zcb:mg "NotKept"=some (.ref o8))(zbl:∀ p∈([("NoText",false)]:List (String×Bool)),bj K (.ref o8) p.1 p.2)(zcc:mg "NotNought"=some (.ref o9))(zbm:∀ p∈([("NoText",false)]:List (String×Bool)),bj K (.ref o9) p.1 p.2)(zcd:mg "NotOne"=some (.ref pd))(zbn:∀ p∈([("NoText",false)]:List (String×Bool)),bj K (.ref pd) p.1 p.2)(zce:mg "TooDeep"=some (.ref pe))(zbp:∀ p∈([("NoText",false)]:List (String×Bool)),bj K (.ref pe) p.1 p.2)(zcf:mg "TooLong"=some (.ref pf))(zbq:∀ p∈([("NoText",false)]:List (String×Bool)),bj K (.ref pf) p.1 p.2)(rG:mg "SwapError"=some (.ref fO))(zbo:∀ p∈([("NoText",true)]:List (String×Bool)),bj K (.ref fO) p.1 p.2)(zcg:mg "ValueError"=none)(zbr:∀ p∈([("NoText",true)]:List (String×Bool)),bj K (.ty "ValueError") p.1 p.2):zdV P w K mg base:=fnK ["_law_error","_law_got","_law_words"] h fun hr nd=>by
  unfold zet zh6;exact(aE (bF 1 nd (bw.pv (df (a3 (de (y:=.ref oF) 0 [("NoText",false)] (fun z=>nomatch z) zaZ (cW rfl zbQ rfl) B.bZ) (de (y:=.ref oG) 0 [("NoText",false)] (fun z=>nomatch z) za0 (cW rfl zbR rfl) B.bZ) (de (y:=.ref oH) 0 [("NoText",false)] (fun z=>nomatch z) za1 (cW rfl zbS rfl) B.bZ)))))
      (aE (bF 1 nd (aJ bS (ae 1) (bw.pv (df (a3 (de (y:=.ref oJ) 0 [("NoText",false)] (fun z=>nomatch z) za2 (cW rfl zbT rfl) B.bZ) (de (y:=.ref oK) 0 [("NoText",false)] (fun z=>nomatch z) za3 (cW rfl zbU rfl) B.bZ) (de (y:=.ref oM) 0 [("NoText",false)] (fun z=>nomatch z) za4 (cW rfl zbV rfl) B.bZ))))))
      (aE (bF 1 nd (aJ bS (ae 1) (bw.pv (df (a3 (de (y:=.ref oN) 0 [("NoText",false)] (fun z=>nomatch z) za5 (cW rfl zbW rfl) B.bZ) (de (y:=.ref oO) 0 [("NoText",false)] (fun z=>nomatch z) za6 (cW rfl zbX rfl) B.bZ) (de (y:=.ref oP) 0 [("NoText",false)] (fun z=>nomatch z) za7 (cW rfl zbY rfl) B.bZ))))))
      (aE (bF 1 nd (aJ bS (ae 1) (bw.pv (df (a3 (de (y:=.ref oQ) 0 [("NoText",false)] (fun z=>nomatch z) za8 (cW rfl zbZ rfl) B.bZ) (de (y:=.ref oR) 0 [("NoText",false)] (fun z=>nomatch z) za9 (cW rfl zb0 rfl) B.bZ) (de (y:=.ref oS) 0 [("NoText",false)] (fun z=>nomatch z) zba (cW rfl zb1 rfl) B.bZ))))))
      (aE (bF 1 nd (aJ bS (ae 1) (bw.pv (df (a3 (de (y:=.ref oU) 0 [("NoText",false)] (fun z=>nomatch z) zbb (cW rfl zb2 rfl) B.bZ) (de (y:=.ref oV) 0 [("NoText",false)] (fun z=>nomatch z) zbc (cW rfl zb3 rfl) B.bZ) (de (y:=.ref aM) 0 [("NoText",true)] (fun z=>nomatch z) zbd (cW rfl xu rfl) B.bZ))))))
      (aE (bF 1 nd (aJ bS (ae 1) (bw.pv (df (a3 (de (y:=.ref oW) 0 [("NoText",false)] (fun z=>nomatch z) zbe (cW rfl zb4 rfl) B.bZ) (de (y:=.ref oX) 0 [("NoText",false)] (fun z=>nomatch z) zbf (cW rfl zb5 rfl) B.bZ) (de (y:=.ref oY) 0 [("NoText",false)] (fun z=>nomatch z) zbg (cW rfl zb6 rfl) B.bZ))))))
      (aE (bF 1 nd (aJ bS (ae 1) (bw.pv (df (a3 (de (y:=.ref oZ) 0 [("NoText",false)] (fun z=>nomatch z) zbh (cW rfl zb7 rfl) B.bZ) (de (y:=.ref o5) 0 [("NoText",false)] (fun z=>nomatch z) zbi (cW rfl zb8 rfl) B.bZ) (de (y:=.ref o6) 0 [("NoText",false)] (fun z=>nomatch z) zbj (cW rfl zb9 rfl) B.bZ))))))
      (aE (bF 1 nd (aJ bS (ae 1) (bw.pv (df (a3 (de (y:=.ref o7) 0 [("NoText",false)] (fun z=>nomatch z) zbk (cW rfl zca rfl) B.bZ) (de (y:=.ref o8) 0 [("NoText",false)] (fun z=>nomatch z) zbl (cW rfl zcb rfl) B.bZ) (de (y:=.ref o9) 0 [("NoText",false)] (fun z=>nomatch z) zbm (cW rfl zcc rfl) B.bZ))))))
      (aE (bF 1 nd (aJ bS (ae 1) (bw.pv (df (a3 (de (y:=.ref pd) 0 [("NoText",false)] (fun z=>nomatch z) zbn (cW rfl zcd rfl) B.bZ) (de (y:=.ref pe) 0 [("NoText",false)] (fun z=>nomatch z) zbp (cW rfl zce rfl) B.bZ) (de (y:=.ref pf) 0 [("NoText",false)] (fun z=>nomatch z) zbq (cW rfl zcf rfl) B.bZ))))))
      (aE (bO (cI.fi (dg (j7 (kY lE (de (y:=.ref fO) 0 [("NoText",true)] (fun z=>nomatch z) zbo (cW rfl rG rfl) B.bZ))) (dg (j7 (kY lE (de (y:=.ty "ValueError") 0 [("NoText",true)] (fun z=>nomatch z) zbr (zc3 rfl zcg rfl) B.bZ))) (gI (bh (kZ hr) (fX (zkx rfl) B.zcN Bt.sum (bw.pv (cp ["_law_one"] [] ["_law_one"] (kX (ae 1)) (fun nd=>(cF 0 nd)) j8 (kW zeV B.rZ Bt.int (ae 0))))) ay))))) (bp aI) bQ)
      (aE (bF 2 nd (bw.pv (df (bW aI (bW aI (bW aI (bW aI (bW aI (bW aI (a3 aI aI aI))))))))))
      (aE (bF 2 nd (aJ bS (ae 2) (bw.pv (df (bW aI (bW aI (bW aI (bW aI (bW aI (bW aI (a3 aI aI aI)))))))))))
      (aE (bF 2 nd (aJ bS (ae 2) (bw.pv (df (bW aI (bW aI (bW aI (bW aI (bW aI (a3 aI aI aI))))))))))
      (bp (cQ cy (aJ bS (ae 2) (bw.pv (df (a1 aI)))) (zrm (ae 1) vn))))))))))))))))
theorem znv(h:aP K mg "_law_figures" (top 64)):zak P w K mg base:=dN ["_law_text"] h fun hr nd=>by
  unfold qO;exact(aE (bO (cI.fi (dg (bh (ot hr) (fX t6 B.gm Bt.len (ae 0)) ay) (dg (bh (yx hr) (fX t6 B.gm Bt.len (ae 0)) ay) (gI (bh (kZ hr) (iq PySem.F.slot_str_strip PySem.F.type_str_strip m_strip (ae 0) aI) aI))))) (bp dj) bQ)
      (aE (bO (cI.fi (yr (bh (kZ hr) (ae 0) aI) (yt (bh (dG hr) (cQ zcY (ae 0) ay) aI)))) (bp dj) bQ)
      (bp (kW zeW B.rZ Bt.int (ae 0)))))
theorem znA(h:aP K mg "_law_number_text" (top 67)):zdY P w K mg base:=dN ["_law_number"] h fun hr nd=>by
  unfold wq;exact(aE (bO (bh (dG hr) (cQ cy (ae 0) ay) ay) (bp (kW wH B.r6 Bt.str (cQ cy (ae 0) ay))) bQ)
      (bp (aJ mI (aJ mI (kW wH B.r6 Bt.str (cQ cy (ae 0) ay)) aI) (kW wH B.r6 Bt.str (cQ cy (ae 0) ay)))))
theorem znB(h:aP K mg "_law_odd" (top 70)):zdZ P w K mg base:=dN ["_law_number","_law_some"] h fun hr nd=>by
  unfold zex;exact(aE (bF 1 nd (bw.pv (df (bW aI (bW aI (bW aI (bW aI (bW aI (bW aI (bW aI (bW aI (bW aI (bW aI (bW aI (a3 aI aI aI)))))))))))))))
      (aE (bF 1 nd (aJ bS (ae 1) (bw.pv (df (bW aI (bW aI (bW aI (bW aI (bW aI (bW aI (a3 aI aI aI)))))))))))
      (bp (cQ cy (aJ bS (ae 1) (bw.pv (df (a1 aI)))) (aJ og (ae 0) ay)))))
theorem znO(h:aP K mg "is_number" (top 33))(zkr:zd9 P w K mg base)(zeX:zeb P w K mg base):zea P w K mg base:=dN ["one","top","bottom"] h fun hr nd=>by
  unfold wB;exact(aE (bO (cI.fi (dg (j7 (kY lE (yj kit_tuple B.bZ B.r9 Bt.tuple (ae 0)))) (gI (bh (kZ hr) (fX jm B.gm Bt.len (ae 0)) ay)))) (bp vn) bQ)
      (aE (yn (ae 0) (om rfl (fY (cF 1 nd) (fY (cF 2 nd) oq))))
      (aE (bO (cI.fi (dg (j7 (kY lE (cG zeX hr (a1 (ae 1))))) (dg (j7 (kY lE (cG zeX hr (a1 (ae 2))))) (gI (bh (ot hr) (ae 2) ay))))) (bp vn) bQ)
      (bp (yi (dG hr) (cG zkr hr (a2 (ae 1) (ae 2))) ay)))))
theorem znT(h:aP K mg "read_top" (top 44))(qU:v9 P w K mg base):zed P w K mg base:=dN ["text","whole"] h fun hr nd=>by
  unfold qQ;exact(aE (bO (j7 (kY lE (iq PySem.F.slot_str_startswith PySem.F.type_str_startswith zo3 (ae 0) aI))) (bp (cG qU hr (a1 (ae 0)))) bQ)
      (aE (bF 1 nd (cG qU hr (a1 (mM (ae 0) (mQ ay) mP))))
      (aE (bO (cI.fi (dg (bh j5 (ae 1) dj) (gI (bh (dG hr) (ae 1) ay)))) (bp dj) bQ)
      (bp (yk yO (ae 1))))))
theorem znU(h:aP K mg "read_way" (top 46))(qU:v9 P w K mg base):zee P w K mg base:=dN ["text","count","way"] h fun hr nd=>by
  unfold zeG;exact(aE (bF 2 nd (cG qU hr (a1 (ae 0))))
      (aE (bO (cI.fi (dg (bh j5 (ae 2) dj) (gI (bh (zdj hr) (ae 2) (ae 1))))) (bp dj) bQ)
      (bp (ae 2))))
theorem znC(h:aP K mg "_law_purse" (top 51))(zaG:zam P w K mg base):zd0 P w K mg base:=dN ["_law_cell","_law_k"] h fun hr nd=>by
  unfold zey;exact(aE (bO (bh (zdj hr) (ae 0) (aJ mJ ay ay)) (dF (qf (df (a3 (aJ qa (ae 0) (aJ mJ ay ay)) ay (ae 1))))) bQ)
      (dF (qf (df (a3 (cG zaG hr (a2 (ae 0) (ae 1))) ay (aJ bS (aJ og (ae 0) (aJ bS (aJ mJ ay ay) ay)) (ae 1)))))))
theorem znJ(h:aP K mg "_law_take" (top 52))(zaG:zam P w K mg base):tH P w K mg base:=uh [true,false] ["_law_purse_here","_law_many","_law_got"] h fun hr nd=>by
  unfold zeA;exact(aE (bO (bh (ot hr) (oj 0 cy ay) (ae 1)) (aE (yq 0 (pv 0) (aJ bS (oj 0 cy ay) ay) ay)
      (dF (yq 0 (pv 0) (aJ bS (oj 0 cy ay) (aJ jD (ae 1) (cG zaG hr (a2 (oj 0 cy ay) (aJ bS (aJ jD ay (oj 0 cy ay)) ay))))) ay))) bQ)
      (aE (bF 2 nd (aJ og (oj 0 cy ay) (ae 1)))
      (aE (yq 0 (pv 0) (aJ (zcX hr) (oj 0 cy ay) (ae 1)) ay)
      (bp (ae 2)))))
theorem znI(h:aP K mg "_law_sum_text" (top 61))(zkp:zd8 P w K mg base)(zkh:zdY P w K mg base):zd5 P w K mg base:=dN ["_law_total"] h fun hr nd=>by
  unfold wz yv;exact(aE (bO (bh (dG hr) (ae 0) (bw.pv (df mO))) (bp aI) bQ)
      (bp (iq Gv Gw zcD aI (bw.pv (cp ["_law_word","_law_number"] [] ["_law_word","_law_number"] (kX (ae 0)) (fun nd=>(om rfl (fY (cF 0 nd) (fY (cF 1 nd) oq)))) j8 (aJ mI (aJ mI (cG zkh hr (a1 (ae 1))) aI) (cG zkp hr (a1 (ae 0)))))))))
theorem znz(h:aP K mg "_law_number_in" (top 65))(zaF:zak P w K mg base)(wG:zal P w K mg base):zdX P w K mg base:=dN ["_law_text","_law_sign","_law_parts","_law_numbers"] h fun hr nd=>by
  unfold wo sD;exact(aE (bF 1 nd ay)
      (aE (bO (bh (dG hr) (mM (ae 0) mP (mQ ay)) aI) (aE (bF 1 nd (yk yO ay))
      (dF (bF 0 nd (mM (ae 0) (mQ ay) mP)))) bQ)
      (aE (bF 2 nd (iq CG CH m_split (ae 0) aI))
      (aE (zde 3 (cpS 3 ["_law_part"] [] ["_law_part"] nd (kX (ae 2)) (fun nd=>(cF 0 nd)) j8 (cG zaF hr (a1 (ae 0)))))
      (aE (bO (cI.fi (dg (bh (zdl hr) dj (ae 3)) (dg (bh (yx hr) (fX jm B.gm Bt.len (ae 3)) ay) (gI (cI.fi (yr (bh (dG hr) (ae 1) (yk yO ay)) (yt (bh (dG hr) (cQ cy (ae 3) ay) ay)))))))) (bp dj) bQ)
      (aE (bO (bh (dG hr) (fX jm B.gm Bt.len (ae 3)) ay) (bp (gH (a2 (aJ jD (ae 1) (cQ cy (ae 3) ay)) ay))) bQ)
      (aE (bO (cI.fi (dg (bh (ot hr) (cQ cy (ae 3) ay) ay) (gI (bh (kZ hr) (cG wG hr (a2 (cQ cy (ae 3) ay) (cQ cy (ae 3) ay))) (gH (a2 (cQ cy (ae 3) ay) (cQ cy (ae 3) ay))))))) (bp dj) bQ)
      (bp (gH (a2 (aJ jD (ae 1) (cQ cy (ae 3) ay)) (cQ cy (ae 3) ay)))))))))))
theorem znK(h:aP K mg "_law_way_in" (top 66))(zaF:zak P w K mg base):zd6 P w K mg base:=dN ["_law_text","_law_count","_law_number"] h fun hr nd=>by
  unfold zeB;exact(aE (bF 2 nd (cG zaF hr (a1 (ae 0))))
      (aE (bO (cI.fi (dg (bh j5 (ae 2) dj) (gI (bh (zdj hr) (ae 2) (ae 1))))) (bp dj) bQ)
      (bp (ae 2))))
theorem znR(h:aP K mg "read_number" (top 45))(zkv:zed P w K mg base)(qU:v9 P w K mg base)(zks:zea P w K mg base):zao P w K mg base:=dN ["text","above","stroke","below","top","bottom"] h fun hr nd=>by
  unfold kx;exact(aE (yn (iq Gx Gy zcE (ae 0) aI) (om rfl (fY (cF 1 nd) (fY (cF 2 nd) (fY (cF 3 nd) oq)))))
      (aE (bF 4 nd (cG zkv hr (a1 (ae 1))))
      (aE (bF 5 nd (zrl (zh5 (ae 2)) (cG qU hr (a1 (ae 3))) ay))
      (aE (bO (cI.fi (dg (bh j5 (ae 4) dj) (dg (bh j5 (ae 5) dj) (dg (cI.fi (yr (zh5 (ae 2)) (yt (bh (dG hr) (ae 5) ay)))) (gI (j7 (kY lE (cG zks hr (a1 (gH (a2 (ae 4) (ae 5)))))))))))) (bp dj) bQ)
      (bp (gH (a2 (ae 4) (ae 5))))))))
theorem znW(h:aP K mg "read_word" (top 47))(zkw:zee P w K mg base):zap P w K mg base:=dN ["text","count","ways"] h fun hr nd=>by
  unfold zeH zdm;exact(aE (bO (bh (dG hr) (ae 0) (sA (v:=(.str "e")) rfl C.zcz ⟨_,rfl⟩ (fun _=>by simp[Fz]))) (bp (gH mO)) bQ)
      (aE (zde 2 (cpS 2 ["part"] [1] ["part","count"] nd (kX (iq CG CH m_split (ae 0) aI)) (fun nd=>(cF 0 nd)) j8 (cG zkw hr (a2 (ae 0) (ae 1)))))
      (aE (bO (cI.fi (dg (bh (zdl hr) dj (ae 2)) (gI (bh (yx hr) (fX jm B.gm Bt.len (ae 2)) (sA (v:=(.int 5)) rfl C.zcC ⟨_,rfl⟩ (fun _=>iK _)))))) (bp dj) bQ)
      (bp (kW zaL B.r9 Bt.tuple (ae 2))))))
theorem zny(h:aP K mg "_law_nine" (top 58))(fE:tH P w K mg base)(wG:zal P w K mg base):zdW P w K mg base:=uh [true] ["_law_purse_here","_law_way"] h fun hr nd=>by
  unfold pF;exact(aE (bF 1 nd (fL fE hr (eU 0 (fg ay fe))))
      (aE (bO (bh (ot hr) (ae 1) ay) (bp (cQ cy (bw.pv (df (a3 (gH (a2 ay ay)) (gH (a2 ay ay)) (gH (a2 (yk yO ay) ay))))) (ae 1))) bQ)
      (aE (bO (bh (ot hr) (ae 1) ay) (bp (cG wG hr (a2 (aJ qa (fL fE hr (eU 0 (fg ay fe))) ay) (aJ bS ay (aJ jD (fL fE hr (eU 0 (fg ay fe))) (aJ qa (ae 1) ay)))))) bQ)
      (bp (cG wG hr (a2 (aJ bS (aJ qa (fL fE hr (eU 0 (fg (aJ qa (aJ jD ay (aJ mJ ay ay)) ay) fe))) (aJ mJ ay ay)) ay) (aJ bS ay (fL fE hr (eU 0 (fg (aJ qa (aJ mJ ay ay) ay) fe))))))))))
theorem znL(h:aP K mg "_law_word_in" (top 68))(zkn:zd6 P w K mg base):zd7 P w K mg base:=dN ["_law_text","_law_count","_law_ways"] h fun hr nd=>by
  unfold zeC zdh;exact(aE (bO (bh (dG hr) (ae 0) aI) (bp (gH mO)) bQ)
      (aE (zde 2 (cpS 2 ["_law_part"] [1] ["_law_part","_law_count"] nd (kX (iq CG CH m_split (ae 0) aI)) (fun nd=>(cF 0 nd)) j8 (cG zkn hr (a2 (ae 0) (ae 1)))))
      (aE (bO (cI.fi (dg (bh (zdl hr) dj (ae 2)) (gI (bh (yx hr) (fX jm B.gm Bt.len (ae 2)) ay)))) (bp dj) bQ)
      (bp (kW zaL B.r9 Bt.tuple (ae 2))))))
theorem znG(h:aP K mg "_law_spoilt" (top 71))(fE:tH P w K mg base)(zki:zdZ P w K mg base):zd3 P w K mg base:=uh [false,true] ["_law_text","_law_purse_here","_law_way","_law_at_here","_law_signs","_law_sign","_law_words","_law_odd_here"] h fun hr nd=>by
  unfold lP;exact(aE (bF 2 nd (fL fE hr (eU 1 (fg ay fe))))
      (aE (bO (bh (ot hr) (ae 2) ay) (aE (bF 3 nd (fL fE hr (eU 1 (fg (aJ bS (fX t6 B.gm Bt.len (ae 0)) ay) fe))))
      (aE (bF 4 nd aI)
      (aE (bF 5 nd (cQ zcY (ae 4) (fL fE hr (eU 1 (fg (fX t6 B.gm Bt.len (ae 4)) fe)))))
      (bp (cQ cy (bw.pv (df (a3 (aJ mI (aJ mI (mM (ae 0) mP (mQ (ae 3))) (ae 5)) (mM (ae 0) (mQ (ae 3)) mP)) (aJ mI (mM (ae 0) mP (mQ (ae 3))) (mM (ae 0) (mQ (aJ bS (ae 3) ay)) mP)) (aJ mI (aJ mI (mM (ae 0) mP (mQ (ae 3))) (ae 5)) (mM (ae 0) (mQ (aJ bS (ae 3) ay)) mP))))) (ae 2)))))) bQ)
      (aE (sC 6 nd (zrB CG CH zo2 (ae 0) aI))
      (aE (bF 3 nd (fL fE hr (eU 1 (fg (zhZ 6 jm B.gm Bt.len) fe))))
      (aE (bF 7 nd (cG zki hr (a1 (fL fE hr (eU 1 (fg ay fe))))))
      (aE (bO (bh (dG hr) (ae 2) ay) (dF (zh3 6 rfl (pv 6) (aJ bS (ae 3) (fL fE hr (eU 1 (fg ay fe)))) (ae 7))) (dF (bO (bh (dG hr) (ae 2) ay) (dF (yq 6 (pv 6) (ae 7) (ae 3))) (dF (zh3 6 rfl (pv 6) (fL fE hr (eU 1 (fg (aJ bS (zhZ 6 jm B.gm Bt.len) ay) fe))) (oj 6 cy (ae 3)))))))
      (dF (yp 6 (zdd (iq Gv Gw zcD aI (ae 6)))))))))))
theorem znX(h:aP K mg "told_sum" (top 37))(zkz:zeg P w K mg base):zef P w K mg base:=dN ["held"] h fun hr nd=>by
  unfold zeI zh8;exact(dF (qf (cp ["word"] [0] ["word","held"] (kX (bw.pv (zdb zkz hr rfl rfl B.uU rfl (ae 0)))) (fun nd=>(cF 0 nd)) j8 (gH (a2 (ae 0) (cQ (zdi hr) (ae 1) (ae 0)))))))
theorem znH(h:aP K mg "_law_sum" (top 62))(zaH:zan P w K mg base)(fE:tH P w K mg base)(zkf:zdW P w K mg base):zd4 P w K mg base:=uh [true,false,false] ["_law_purse_here","_law_count","_law_most","_law_numbers","_law_turn","_law_word","_law_number"] h fun hr nd=>by
  unfold wu sF yP vG vt;exact(aE (sC 3 nd ym)
      (aE (vp (zda rfl B.uT (a1 (fL fE hr (eU 0 (fg (aJ bS (ae 2) ay) fe))))) (cF 4 nd) (aE (bF 5 nd (kW zaL B.r9 Bt.tuple (bw.pv (cp ["_law_k"] [0,1] ["_law_k","_law_purse_here","_law_count"] (zda rfl B.uT (a1 (fL fE hr (eU 0 (fg ay fe))))) (fun nd=>(cF 0 nd)) j8 (fL fE hr (eU 1 (fg (ae 2) fe)))))))
      (aE (bF 6 nd (fL zkf hr (eU 0 fe)))
      (dF (bO (bh (kZ hr) (cQ cy (ae 6) ay) ay) (dF (yo 3 (sV hr) (pv 3) (ae 6) (ae 5))) bQ)))))
      (dF (yp 3 (qf (cp ["_law_word"] [3] ["_law_word","_law_numbers"] (kX (bw.pv (zdb zaH hr rfl rfl B.uU rfl (ae 3)))) (fun nd=>(cF 0 nd)) j8 (gH (a2 (ae 0) (cQ (zdi hr) (ae 1) (ae 0))))))))))
theorem znE(h:aP K mg "_law_read" (top 69))(zaH:zan P w K mg base)(zkg:zdX P w K mg base)(zko:zd7 P w K mg base):zd1 P w K mg base:=dN ["_law_text","_law_count","_law_numbers","_law_at_here","_law_term","_law_parts","_law_number","_law_word"] h fun hr nd=>by
  unfold nj yu zdI lA;exact(aE (bO (bh (dG hr) (ae 0) aI) (bp (bw.pv (df (a2 aI (bw.pv (df mO)))))) bQ)
      (aE (sC 2 nd ym)
      (aE (vp (zc9 rfl B.uS (a1 (iq CG CH m_split (ae 0) aI))) (om rfl (fY (cF 3 nd) (fY (cF 4 nd) oq))) (aE (bF 5 nd (iq CG CH m_split (ae 4) aI))
      (aE (bO (bh (kZ hr) (fX jm B.gm Bt.len (ae 5)) ay) (bp (bw.pv (df (a2 aI (ae 3))))) bQ)
      (aE (bF 6 nd (cG zkg hr (a1 (cQ cy (ae 5) ay))))
      (aE (bF 7 nd (cG zko hr (a2 (cQ cy (ae 5) ay) (ae 1))))
      (aE (bO (cI.fi (dg (bh j5 (ae 6) dj) (dg (bh (dG hr) (cQ cy (ae 6) ay) ay) (dg (bh j5 (ae 7) dj) (gI (zdf 2 (zdk hr) (ae 7))))))) (bp (bw.pv (df (a2 aI (ae 3))))) bQ)
      (dF (yo 2 (sV hr) (pv 2) (ae 6) (ae 7)))))))))
      (dF (yp 2 (zdd (bw.pv (df (a2 aI (bw.pv (cp ["_law_word"] [2] ["_law_word","_law_numbers"] (kX (bw.pv (zdb zaH hr rfl rfl B.uU rfl (ae 2)))) (fun nd=>(cF 0 nd)) j8 (gH (a2 (ae 0) (cQ (zdi hr) (ae 1) (ae 0)))))))))))))))
theorem zuH(h:aP K mg "read_sum" (top 48))(zbw:vJ P w K mg base "NoText" "NoText" "at" 1)(zaJ:zao P w K mg base)(zaK:zap P w K mg base):zdT P w K mg base:=fnE [none,none] true ["text","count","held","at","term","above","colon","below","number","word"] h fun hr nd=>by
  unfold wm;exact(sv (yf (bO (bh (dG hr) (ae 0) (sA (v:=(.str "0")) rfl C.xO ⟨_,rfl⟩ (fun _=>by simp[Fz]))) (dF (qf (df mO))) bQ))
      (sv (yf (sC 2 nd ym))
      (sv (zqZ (zc9 rfl B.uS (a1 (iq CG CH m_split (ae 0) aI))) (om rfl (fY (cF 3 nd) (fY (cF 4 nd) oq))) (sv (yf (yn (iq Gx Gy zcE (ae 4) aI) (om rfl (fY (cF 5 nd) (fY (cF 6 nd) (fY (cF 7 nd) oq))))))
      (sv (yf (vq 8 9 nd (cG zaJ hr (a1 (ae 5))) (cG zaK hr (a2 (ae 7) (ae 1)))))
      (sv (zq0 (cI.fi (dg (bh j5 (ae 8) dj) (dg (bh (dG hr) (ae 8) (zhX rfl C.xP C.ziT (fun _=>by simp[aq,Fz]))) (dg (bh j5 (ae 9) dj) (gI (zdf 2 (zdk hr) (ae 9))))))) (zq3 (zq1 zbw hr ztY (a1 (ae 3)))) (zhR bQ))
      (zhR (dF (yo 2 (sV hr) (pv 2) (ae 8) (ae 9))))))))
      zq2)))
theorem znS(h:aP K mg "read_sum" (top 48))(zky:zef P w K mg base)(zaJ:zao P w K mg base)(zaK:zap P w K mg base):zec P w K mg base:=dN ["text","count","held","at","term","above","colon","below","number","word"] h fun hr nd=>by
  unfold nu zdK lB;exact(aE (bO (bh (dG hr) (ae 0) (sA (v:=(.str "0")) rfl C.xO ⟨_,rfl⟩ (fun _=>by simp[Fz]))) (dF (qf (df mO))) bQ)
      (aE (sC 2 nd ym)
      (aE (vp (zc9 rfl B.uS (a1 (iq CG CH m_split (ae 0) aI))) (om rfl (fY (cF 3 nd) (fY (cF 4 nd) oq))) (aE (yn (iq Gx Gy zcE (ae 4) aI) (om rfl (fY (cF 5 nd) (fY (cF 6 nd) (fY (cF 7 nd) oq)))))
      (aE (vq 8 9 nd (cG zaJ hr (a1 (ae 5))) (cG zaK hr (a2 (ae 7) (ae 1))))
      (aE (bO (cI.fi (dg (bh j5 (ae 8) dj) (dg (bh (dG hr) (ae 8) (zhX rfl C.xP C.ziT (fun _=>by simp[aq,Fz]))) (dg (bh j5 (ae 9) dj) (gI (zdf 2 (zdk hr) (ae 9))))))) (dF zrD) bQ)
      (dF (yo 2 (sV hr) (pv 2) (ae 8) (ae 9)))))))
      (dF (yp 2 (qf (zh2 zky hr (a1 (ae 2)))))))))
theorem znF(h:aP K mg "_law_right" (top 72))(zkk:zd1 P w K mg base)(zku:zec P w K mg base)(zke:zdV P w K mg base)  (zbM:lH K fO)(rG:mg "SwapError"=some (.ref fO))(zck:∀ c B ns,Cs.X c=some (B,ns)->BR K (.ref B) (.ref fO)=some true)(wZ:∀ p∈([("NoText",0)]:List (String×Nat)),Cs.O p.1=none)(wW:∀ p∈([("NoText",0)]:List (String×Nat)),ErF K "at" p.1 p.2)(zk0:zdT P w K mg base):zd2 P w K mg base:=dN ["_law_text","_law_count","_law_due","_law_error","_law_told","caught"] h fun hr nd=>by
  unfold qP;exact(aE (bF 2 nd (cG zkk hr (a2 (ae 0) (ae 1))))
      (aE (bF 3 nd dj)
      (aE (bF 4 nd dj)
      (aE (zrI 5 3 nd zbM rG zck (zq6 4 nd (zrM zku zk0 hr (a2 (ae 0) (ae 1)))))
      (aE (bO (bh (dG hr) (cQ cy (ae 2) ay) aI) (bp (vm (yi (dG hr) (zrg 3 zke hr) aI) (vm (zh0 (yj zgJ B.bZ B.xV Bt.bool (zhY 3 [("NoText",0)] wZ wW))) (zc8 (yi (dG hr) (zhY 3 [("NoText",0)] wZ wW) (cQ cy (ae 2) ay)))))) bQ)
      (bp (vm (zrn 3) (vm (zrp 4 zoD rfl B.bZ rfl B.zcL Bt.list (pv 4)) (zc8 (zrj 4 (dG hr) (cQ cy (ae 2) ay)))))))))))
set_option maxHeartbeats 0 in
theorem znQ(h:fA K "law" "law" (top 73) fa fd)(zkj:zd0 P w K mg base)(zkm:zd5 P w K mg base)(zeU:zd3 P w K mg base)(zkd:zdU P w K mg base)(fE:tH P w K mg base)(zkl:zd4 P w K mg base)(zeT:zd2 P w K mg base):dJ P w K mg base (cR P w) 7 fa fd ["_law_script"] (gW K 1 false tm):=by
  have S:gZ ["_law_script","_law_k","_law_purse_here","_law_count","_law_text","_law_odd_here","_law_one"] ["_law_script"] (bB (top 73)):=⟨rfl,rfl,rfl,by decide +kernel,rfl,by decide +kernel,by decide +kernel⟩;refine dJ.pure (zfX (zo 1 false) false h S rfl (by decide) fun aG A outer s H E hr=>?_);have nd:=S.nd;refine zdc ?_;unfold wC yQ sU zdJ yN;exact(aE (vp (zda rfl B.uT (a1 ay)) (cF 1 nd) (aE (sC 2 nd (zh2 zkj hr (a2 (cG zkd hr (a2 (ae 0) (ae 1))) (aJ bS ay (ae 1)))))
      (aE (bF 3 nd (aJ bS ay (fL fE hr (eU 2 (fg ay fe)))))
      (aE (bF 4 nd (cG zkm hr (a1 (bw.pv (zrx zkl hr (eU 2 (fg (ae 3) (fg ay fe))))))))
      (aE (bF 5 nd (fL zeU hr (fg (ae 4) (eU 2 fe))))
      (aE (bO (bh (dG hr) (fL fE hr (eU 2 (fg ay fe))) ay) (dF (bF 5 nd (fL zeU hr (fg (ae 5) (eU 2 fe))))) bQ)
      (dF (vp (kX (bw.pv (df (a2 (ae 5) (ae 4))))) (cF 6 nd) (dF (bO (cI.fi (dg (j7 (kY lE (cG zeT hr (a2 (ae 6) (ae 3))))) (gI (j7 (kY lE (cG zeT hr (a2 (ae 6) (zhW (zkt rfl) rfl B.zcM Bt.max (a2 ay (aJ qa (ae 3) ay)))))))))) (bp vn) bQ))))))))))
      (bp vn))
end
end
variable {loose ztm:List dm}{w9 zcU:gV}{zcP zlW:Nat}{q:zu}{zdy zte zuN:Array (Option ir)}{zpK zuL:ir}{zfN:Array BG}{d:DefRec}{zc0:Option gV}{YP:zq->zh->Prop}{zcV:String}{h:zh}{zkP:Option Bool}{l:Gi}
section
theorem all_mk{K:yU}(X:K.In h)(G:h.Ns zv mg)(hfa:mg "law"=some (.ref fa))
       
     {zcs zct:zQ}
  
   {zpQ zuM:Option gV} {zpr zsl:dm} {zkc zs7:List ir} {zmM zjN:Bool}   {zuC zuD zuE zuF zuG:Option ir}     
    {zpL zjV:Option gV} {znr zlu zqK ze5 zkX:ir} 
  (zjC:aP K mg "is_whole" (top 31))
  (zjA:aP K mg "common_divisor" (top 32))
  (zjK:aP K mg "word_order" (top 36))
  (zjH:aP K mg "read_whole" (top 43))
  (zjk:aP K mg "_law_mixed" (top 50))
  (zjg:aP K mg "_law_at" (top 53))
  (zjj:aP K mg "_law_low" (top 54))
  (zjz:aP K mg "_law_word_text" (top 59))
  (zjq:aP K mg "_law_rank" (top 60))
  (zjh:aP K mg "_law_class" (top 63))
  (zji:aP K mg "_law_figures" (top 64))
  (zjn:aP K mg "_law_number_text" (top 67))
  (zjo:aP K mg "_law_odd" (top 70))
  (zjB:aP K mg "is_number" (top 33))
  (zjF:aP K mg "read_top" (top 44))
  (zjG:aP K mg "read_way" (top 46))
  (zjp:aP K mg "_law_purse" (top 51))
  (zjw:aP K mg "_law_take" (top 52))
  (zjv:aP K mg "_law_sum_text" (top 61))
  (zjm:aP K mg "_law_number_in" (top 65))
  (zjx:aP K mg "_law_way_in" (top 66))
  (zjE:aP K mg "read_number" (top 45))
  (zjI:aP K mg "read_word" (top 47))
  (zjl:aP K mg "_law_nine" (top 58))
  (zjy:aP K mg "_law_word_in" (top 68))
  (zjt:aP K mg "_law_spoilt" (top 71))
  (zjJ:aP K mg "told_sum" (top 37))
  (zju:aP K mg "_law_sum" (top 62))
  (zjr:aP K mg "_law_read" (top 69))
  (zdQ:aP K mg "read_sum" (top 48))
  (zjs:aP K mg "_law_right" (top 72))
  (zjD:aP K mg "law" (top 73))
  (zcz:zA K zv "ALONE"=some (some (.str "e" sO)))
  (zcA:zA K zv "FIGURES"=some (some (.str "0123456789" sP)))
  (zcB:zA K zv "MOST_FIGURES"=some (some (.int 9 sQ)))
  (zcC:zA K zv "MOST_LONG"=some (some (.int 5 sR)))
  (xO:zA K zv "NOTHING"=some (some (.str "0" sS)))
  (xP:zA K zv "NOUGHT"=some (some (.ref bG)))
  (zoF:K.lookup bG=some ⟨.type "tuple",zc0,.seq #[.int 0 zcs,.int 1 zct] zcP,zdy⟩)
  (uR:zA K zv "abs"=some none)
  (bZ:zA K zv "isinstance"=some none)
  (rZ:zA K zv "int"=some none)
  (xV:zA K zv "bool"=some none)
  (r9:zA K zv "tuple"=some none)
  (zcL:zA K zv "list"=some none)
  (r6:zA K zv "str"=some none)
  (gm:zA K zv "len"=some none)
  (zcK:zA K zv "all"=some none)
  (uT:zA K zv "range"=some none)
  (zhk:zA K zv "zip"=some none)
  (uS:zA K zv "enumerate"=some none)
  (zcM:zA K zv "max"=some none)
  (zhj:zA K zv "min"=some none)
  (zcN:zA K zv "sum"=some none)
  (uU:zA K zv "sorted"=some none)
  (zhi:zA K zv "dict"=some none)
  (zhh:zA K zv "any"=some none)
  (zrS:zA K zv "Broken"=some (some (.ref oF)))
  (zrT:zA K zv "NoCount"=some (some (.ref oG)))
  (zrU:zA K zv "NoDeed"=some (some (.ref oH)))
  (zrV:zA K zv "NoLeast"=some (some (.ref oJ)))
  (zrW:zA K zv "NoLine"=some (some (.ref oK)))
  (zrX:zA K zv "NoMatch"=some (some (.ref oM)))
  (zrY:zA K zv "NoName"=some (some (.ref oN)))
  (zrZ:zA K zv "NoNumber"=some (some (.ref oO)))
  (zr0:zA K zv "NoPair"=some (some (.ref oP)))
  (zr1:zA K zv "NoPlace"=some (some (.ref oQ)))
  (zr2:zA K zv "NoRow"=some (some (.ref oR)))
  (zr3:zA K zv "NoShelf"=some (some (.ref oS)))
  (zr4:zA K zv "NoSquare"=some (some (.ref oU)))
  (zr5:zA K zv "NoSum"=some (some (.ref oV)))
  (zr6:zA K zv "NoText"=some (some (.ref aM)))
  (zr7:zA K zv "NoTree"=some (some (.ref oW)))
  (zr8:zA K zv "NoWord"=some (some (.ref oX)))
  (zr9:zA K zv "NotActing"=some (some (.ref oY)))
  (zsa:zA K zv "NotBare"=some (some (.ref oZ)))
  (zsb:zA K zv "NotEaten"=some (some (.ref o5)))
  (zsc:zA K zv "NotFree"=some (some (.ref o6)))
  (zsd:zA K zv "NotGap"=some (some (.ref o7)))
  (zse:zA K zv "NotKept"=some (some (.ref o8)))
  (zsf:zA K zv "NotNought"=some (some (.ref o9)))
  (zsg:zA K zv "NotOne"=some (some (.ref pd)))
  (zsi:zA K zv "TooDeep"=some (some (.ref pe)))
  (zsj:zA K zv "TooLong"=some (some (.ref pf)))
  (zsh:zA K zv "SwapError"=some (some (.ref fO)))
  (zsk:zA K zv "ValueError"=some none)
  (zlN:Bl K (.ref aM) "__getattribute__"=some (some (.builtin "BaseException.__getattribute__")))
  (zlO:Bl K (.ref aM) "__getattr__"=some none)
  (zlP:Bl K (.ref aM) "__class__"=some (some (.builtin "object.__class__")))
  (zfC:BR K (.ref aM) (.type "BaseException")=some true)
  (zlQ:ER K aM (.type "object")=some true)
  (zlR:Hm K aM=true)
  (zlS:Bl K (.ref aM) "__setattr__"=some (some (.builtin "object.__setattr__")))
  (zaW:K.lookup aM=some (ErO aM fO zcU zpQ zpr zsl zkc zs7 zmM zjN ztm zkP zuC zuD zuE zuF zuG zcV))
  (zfz:K.lookup zcU=some ⟨zuL,zuM,.dict zfN zlW,zuN⟩)
  (zfA:zA K zcU "__init__"=some (some (.ref w9)))
  (zfB:(zfN.toList.all fun e=>match e.key with | .str _ _=>true|_=>false)=true)
  (zlM:zcV="ValueError.__new__"\/zcV="Exception.__new__")
  (zlI:Ff K (.ref w9)=true)
  (zfy:K.lookup w9=some ⟨zpK,zpL,.func (A8 "__init__" "NoText.__init__" (i3 (inC 25 0)) (dU (inC 25 0)) (bB (inC 25 0)) .none znr zlu zqK zjV ze5 zkX),zte⟩)
  (zlJ:Cz K ze5 "NoText.__init__"=true)
  (zlK:CV K (.ref w9)=true)
  (zlL:Bl K (.ref aM) "at"=some none)
  (zn9:zT K (.ref aM) (.ref oF)=some false)
  (zoa:zT K (.ref aM) (.ref oG)=some false)
  (zob:zT K (.ref aM) (.ref oH)=some false)
  (zoc:zT K (.ref aM) (.ref oJ)=some false)
  (zod:zT K (.ref aM) (.ref oK)=some false)
  (zoe:zT K (.ref aM) (.ref oM)=some false)
  (zof:zT K (.ref aM) (.ref oN)=some false)
  (zog:zT K (.ref aM) (.ref oO)=some false)
  (zoh:zT K (.ref aM) (.ref oP)=some false)
  (zoi:zT K (.ref aM) (.ref oQ)=some false)
  (zoj:zT K (.ref aM) (.ref oR)=some false)
  (zok:zT K (.ref aM) (.ref oS)=some false)
  (zol:zT K (.ref aM) (.ref oU)=some false)
  (zom:zT K (.ref aM) (.ref oV)=some false)
  (zon:zT K (.ref aM) (.ref aM)=some true)
  (zoo:zT K (.ref aM) (.ref oW)=some false)
  (zop:zT K (.ref aM) (.ref oX)=some false)
  (zoq:zT K (.ref aM) (.ref oY)=some false)
  (zor:zT K (.ref aM) (.ref oZ)=some false)
  (zos:zT K (.ref aM) (.ref o5)=some false)
  (zot:zT K (.ref aM) (.ref o6)=some false)
  (zou:zT K (.ref aM) (.ref o7)=some false)
  (zov:zT K (.ref aM) (.ref o8)=some false)
  (zow:zT K (.ref aM) (.ref o9)=some false)
  (zox:zT K (.ref aM) (.ref pd)=some false)
  (zoz:zT K (.ref aM) (.ref pe)=some false)
  (zoA:zT K (.ref aM) (.ref pf)=some false)
  (zoy:zT K (.ref aM) (.ref fO)=some true)
  (zoB:zT K (.ref aM) (.type "ValueError")=some true)
  (ztu:BR K (.ref aM) (.ref fO)=some true)
  (zkA:D9 K (.ref fO)=some (.type "type"))
  (zkB:Eo K fO gh "Exception.__new__"=true\/Eo K fO gh "ValueError.__new__"=true)
  (zeY:BR K (.ref fO) (.type "BaseException")=some true) :
  ∃(cl:CL) (ob xb:String->Option (gV×List dm)) (fd:Ah),gK cl K/\(∀(s:kb) (v:ir),Dq s fd ⟨[v],[]⟩ [("_law_script",v)])/\∀ base:zh,(aO (cl.map (·.1)) K).In base->base.Ns zv mg->dJ l.prog w (aO (cl.map (·.1)) K) mg base (cR l.prog w) 7 fa fd ["_law_script"] (@gW (qW cl ob xb) (aO (cl.map (·.1)) K) 1 false tm):=by
 obtain⟨f,fd,hm,Fl⟩:=id zjD;have e:=hfa.symm.trans hm;cases e;obtain⟨oc,od,kV,dc,pm,an,cd,ct,sl,rfl,lk,eZ⟩:=id Fl.ex;have hC:gK [(bG,⟨.type "tuple",zc0,.seq #[.int 0 zcs,.int 1 zct] zcP,zdy⟩,[.int 0,.int 1])] K:=(gK.cons zoF (.cons ⟨_,rfl⟩ (.cons ⟨_,rfl⟩ (.nil))) (by decide) gK.nil);refine⟨_,(fun c=>none),(fun c=>if c="NoText" then some (aM,["at"]) else none),A8 "law" "law" (i3 (top 73)) (dU (top 73)) (bB (top 73)) .none kV dc pm an cd ct,hC,fun s v=>.of_eq rfl,fun base _ _=>?_⟩;have B:Blt mg:=⟨AV X G uR,AV X G bZ,AV X G rZ,AV X G xV,AV X G r9,AV X G zcL,AV X G r6,AV X G gm,AV X G zcK,AV X G uT,AV X G zhk,AV X G uS,AV X G zcM,AV X G zhj,AV X G zcN,AV X G uU,AV X G zhi,AV X G zhh⟩
 letI:Cs:=qW [(bG,⟨.type "tuple",zc0,.seq #[.int 0 zcs,.int 1 zct] zcP,zdy⟩,[.int 0,.int 1])] (fun c=>none) (fun c=>if c="NoText" then some (aM,["at"]) else none)
 have C:Cst mg sO sP sQ sR sS bG:=⟨zY X G zcz,zY X G zcA,zY X G zcB,zY X G zcC,zY X G xO,zY X G xP,zmJ (ob:=fun _=>none) hC (List.Mem.head _)⟩;have zbQ:=zY X G zrS;have zbR:=zY X G zrT;have zbS:=zY X G zrU;have zbT:=zY X G zrV;have zbU:=zY X G zrW;have zbV:=zY X G zrX;have zbW:=zY X G zrY;have zbX:=zY X G zrZ;have zbY:=zY X G zr0;have zbZ:=zY X G zr1;have zb0:=zY X G zr2;have zb1:=zY X G zr3;have zb2:=zY X G zr4;have zb3:=zY X G zr5;have xu:=zY X G zr6;have zb4:=zY X G zr7;have zb5:=zY X G zr8;have zb6:=zY X G zr9;have zb7:=zY X G zsa;have zb8:=zY X G zsb;have zb9:=zY X G zsc;have zca:=zY X G zsd;have zcb:=zY X G zse;have zcc:=zY X G zsf;have zcd:=zY X G zsg;have zce:=zY X G zsi;have zcf:=zY X G zsj;have rG:=zY X G zsh;have zcg:=AV X G zsk;have cY:iS (aO (([bG]:List gV)) K) aM:=iS.cut hC.aV ⟨zlN,zlO,zlP,zfC,zlQ,zfb zfC⟩;have zfE:jJ (aO (([bG]:List gV)) K) aM:=⟨cY,ze8 hC.aV zlR,ze8 hC.aV (zkS zaW).2,ug hC.aV zlS⟩;have zhl:jj (aO (([bG]:List gV)) K) aM "at":=jj.cut hC.aV zlL;have zbw:vJ l.prog w (aO (([bG]:List gV)) K) mg base "NoText" "NoText" "at" 1:=zl0 xu rfl rfl (zp6 zlM (zl2 hC.aV (zkB.elim (fun z=>zfO z zaW zfz zfB zfA) fun z=>zfO z zaW zfz zfB zfA))) (znf hC.aV zfy (fun _ _ z=>nomatch z) zlI) (fA.cut hC.aV (zfY zfy zlJ zlK)) zfE zhl rfl ⟨rfl,rfl,rfl,by decide +kernel,rfl,by decide +kernel,by decide +kernel⟩ (fun _ _ _ _ _ _=>pv _) (fun _ _ _ _ _ _=>pv _) (fun _ _ _ _ _ _=>wY fun _ _=>rfl);have zbM:lH (aO (([bG]:List gV)) K) fO:=lH.cut hC.aV ⟨zkA,zfb zeY,zeY⟩;have zck:∀ c B ns,Cs.X c=some (B,ns)->BR (aO (([bG]:List gV)) K) (.ref B) (.ref fO)=some true:=fun c B ns e=>by
  have e:((fun c=>if c="NoText" then some (aM,["at"]) else none):String->Option (gV×List dm)) c=some (B,ns):=e;simp only at e
  split at e
  ·cases e
   exact vB hC.aV ztu
  cases e
 have zaZ:∀ p∈([("NoText",false)]:List (String×Bool)),bj (aO (([bG]:List gV)) K) (.ref oF) p.1 p.2:=cM ⟨rfl,aM,_,rfl,cY,c9 hC.aV zn9⟩ (cL);have za0:∀ p∈([("NoText",false)]:List (String×Bool)),bj (aO (([bG]:List gV)) K) (.ref oG) p.1 p.2:=cM ⟨rfl,aM,_,rfl,cY,c9 hC.aV zoa⟩ (cL);have za1:∀ p∈([("NoText",false)]:List (String×Bool)),bj (aO (([bG]:List gV)) K) (.ref oH) p.1 p.2:=cM ⟨rfl,aM,_,rfl,cY,c9 hC.aV zob⟩ (cL);have za2:∀ p∈([("NoText",false)]:List (String×Bool)),bj (aO (([bG]:List gV)) K) (.ref oJ) p.1 p.2:=cM ⟨rfl,aM,_,rfl,cY,c9 hC.aV zoc⟩ (cL);have za3:∀ p∈([("NoText",false)]:List (String×Bool)),bj (aO (([bG]:List gV)) K) (.ref oK) p.1 p.2:=cM ⟨rfl,aM,_,rfl,cY,c9 hC.aV zod⟩ (cL);have za4:∀ p∈([("NoText",false)]:List (String×Bool)),bj (aO (([bG]:List gV)) K) (.ref oM) p.1 p.2:=cM ⟨rfl,aM,_,rfl,cY,c9 hC.aV zoe⟩ (cL);have za5:∀ p∈([("NoText",false)]:List (String×Bool)),bj (aO (([bG]:List gV)) K) (.ref oN) p.1 p.2:=cM ⟨rfl,aM,_,rfl,cY,c9 hC.aV zof⟩ (cL);have za6:∀ p∈([("NoText",false)]:List (String×Bool)),bj (aO (([bG]:List gV)) K) (.ref oO) p.1 p.2:=cM ⟨rfl,aM,_,rfl,cY,c9 hC.aV zog⟩ (cL);have za7:∀ p∈([("NoText",false)]:List (String×Bool)),bj (aO (([bG]:List gV)) K) (.ref oP) p.1 p.2:=cM ⟨rfl,aM,_,rfl,cY,c9 hC.aV zoh⟩ (cL);have za8:∀ p∈([("NoText",false)]:List (String×Bool)),bj (aO (([bG]:List gV)) K) (.ref oQ) p.1 p.2:=cM ⟨rfl,aM,_,rfl,cY,c9 hC.aV zoi⟩ (cL);have za9:∀ p∈([("NoText",false)]:List (String×Bool)),bj (aO (([bG]:List gV)) K) (.ref oR) p.1 p.2:=cM ⟨rfl,aM,_,rfl,cY,c9 hC.aV zoj⟩ (cL);have zba:∀ p∈([("NoText",false)]:List (String×Bool)),bj (aO (([bG]:List gV)) K) (.ref oS) p.1 p.2:=cM ⟨rfl,aM,_,rfl,cY,c9 hC.aV zok⟩ (cL);have zbb:∀ p∈([("NoText",false)]:List (String×Bool)),bj (aO (([bG]:List gV)) K) (.ref oU) p.1 p.2:=cM ⟨rfl,aM,_,rfl,cY,c9 hC.aV zol⟩ (cL);have zbc:∀ p∈([("NoText",false)]:List (String×Bool)),bj (aO (([bG]:List gV)) K) (.ref oV) p.1 p.2:=cM ⟨rfl,aM,_,rfl,cY,c9 hC.aV zom⟩ (cL);have zbd:∀ p∈([("NoText",true)]:List (String×Bool)),bj (aO (([bG]:List gV)) K) (.ref aM) p.1 p.2:=cM ⟨rfl,aM,_,rfl,cY,c9 hC.aV zon⟩ (cL);have zbe:∀ p∈([("NoText",false)]:List (String×Bool)),bj (aO (([bG]:List gV)) K) (.ref oW) p.1 p.2:=cM ⟨rfl,aM,_,rfl,cY,c9 hC.aV zoo⟩ (cL);have zbf:∀ p∈([("NoText",false)]:List (String×Bool)),bj (aO (([bG]:List gV)) K) (.ref oX) p.1 p.2:=cM ⟨rfl,aM,_,rfl,cY,c9 hC.aV zop⟩ (cL);have zbg:∀ p∈([("NoText",false)]:List (String×Bool)),bj (aO (([bG]:List gV)) K) (.ref oY) p.1 p.2:=cM ⟨rfl,aM,_,rfl,cY,c9 hC.aV zoq⟩ (cL);have zbh:∀ p∈([("NoText",false)]:List (String×Bool)),bj (aO (([bG]:List gV)) K) (.ref oZ) p.1 p.2:=cM ⟨rfl,aM,_,rfl,cY,c9 hC.aV zor⟩ (cL);have zbi:∀ p∈([("NoText",false)]:List (String×Bool)),bj (aO (([bG]:List gV)) K) (.ref o5) p.1 p.2:=cM ⟨rfl,aM,_,rfl,cY,c9 hC.aV zos⟩ (cL);have zbj:∀ p∈([("NoText",false)]:List (String×Bool)),bj (aO (([bG]:List gV)) K) (.ref o6) p.1 p.2:=cM ⟨rfl,aM,_,rfl,cY,c9 hC.aV zot⟩ (cL);have zbk:∀ p∈([("NoText",false)]:List (String×Bool)),bj (aO (([bG]:List gV)) K) (.ref o7) p.1 p.2:=cM ⟨rfl,aM,_,rfl,cY,c9 hC.aV zou⟩ (cL)
 have zbl:∀ p∈([("NoText",false)]:List (String×Bool)),bj (aO (([bG]:List gV)) K) (.ref o8) p.1 p.2:=cM ⟨rfl,aM,_,rfl,cY,c9 hC.aV zov⟩ (cL);have zbm:∀ p∈([("NoText",false)]:List (String×Bool)),bj (aO (([bG]:List gV)) K) (.ref o9) p.1 p.2:=cM ⟨rfl,aM,_,rfl,cY,c9 hC.aV zow⟩ (cL);have zbn:∀ p∈([("NoText",false)]:List (String×Bool)),bj (aO (([bG]:List gV)) K) (.ref pd) p.1 p.2:=cM ⟨rfl,aM,_,rfl,cY,c9 hC.aV zox⟩ (cL);have zbp:∀ p∈([("NoText",false)]:List (String×Bool)),bj (aO (([bG]:List gV)) K) (.ref pe) p.1 p.2:=cM ⟨rfl,aM,_,rfl,cY,c9 hC.aV zoz⟩ (cL);have zbq:∀ p∈([("NoText",false)]:List (String×Bool)),bj (aO (([bG]:List gV)) K) (.ref pf) p.1 p.2:=cM ⟨rfl,aM,_,rfl,cY,c9 hC.aV zoA⟩ (cL);have zbo:∀ p∈([("NoText",true)]:List (String×Bool)),bj (aO (([bG]:List gV)) K) (.ref fO) p.1 p.2:=cM ⟨rfl,aM,_,rfl,cY,c9 hC.aV zoy⟩ (cL);have zbr:∀ p∈([("NoText",true)]:List (String×Bool)),bj (aO (([bG]:List gV)) K) (.ty "ValueError") p.1 p.2:=cM ⟨rfl,aM,_,rfl,cY,c9 hC.aV zoB⟩ (cL);have wZ:∀ p∈([("NoText",0)]:List (String×Nat)),Cs.O p.1=none:=cM rfl (cL);have wW:∀ p∈([("NoText",0)]:List (String×Nat)),ErF (aO (([bG]:List gV)) K) "at" p.1 p.2:=cM ⟨aM,_,rfl,rfl,by decide,zfE,zhl⟩ (cL);have zlk:=znP (P:=l.prog) (w:=w) (base:=base) B C (zjC.cut hC.aV);have zlg:=znN (P:=l.prog) (w:=w) (base:=base) B C (zjA.cut hC.aV);have zlr:=znY (P:=l.prog) (w:=w) (base:=base) B C (zjK.cut hC.aV);have zaU:=znV (P:=l.prog) (w:=w) (base:=base) B C (zjH.cut hC.aV);have zfm:=znx (P:=l.prog) (w:=w) (base:=base) B C (zjk.cut hC.aV);have zk1:=znt (P:=l.prog) (w:=w) (base:=base) B C (zjg.cut hC.aV);have zfl:=znw (P:=l.prog) (w:=w) (base:=base) B C (zjj.cut hC.aV);have zlf:=znM (P:=l.prog) (w:=w) (base:=base) B C (zjz.cut hC.aV);have zfn:=znD (P:=l.prog) (w:=w) (base:=base) B C (zjq.cut hC.aV);have zk2:=znu (P:=l.prog) (w:=w) (base:=base) B C (zjh.cut hC.aV) zbQ zaZ zbR za0 zbS za1 zbT za2 zbU za3 zbV za4 zbW za5 zbX za6 zbY za7 zbZ za8 zb0 za9 zb1 zba zb2 zbb zb3 zbc xu zbd zb4 zbe zb5 zbf zb6 zbg zb7 zbh zb8 zbi zb9 zbj zca zbk zcb zbl zcc zbm zcd zbn zce zbp zcf zbq rG zbo zcg zbr;have zfk:=znv (P:=l.prog) (w:=w) (base:=base) B C (zji.cut hC.aV);have zk5:=znA (P:=l.prog) (w:=w) (base:=base) B C (zjn.cut hC.aV);have zk6:=znB (P:=l.prog) (w:=w) (base:=base) B C (zjo.cut hC.aV);have zlj:=znO (P:=l.prog) (w:=w) (base:=base) B C (zjB.cut hC.aV) zlg zlk;have zln:=znT (P:=l.prog) (w:=w) (base:=base) B C (zjF.cut hC.aV) zaU;have zlo:=znU (P:=l.prog) (w:=w) (base:=base) B C (zjG.cut hC.aV) zaU;have zk7:=znC (P:=l.prog) (w:=w) (base:=base) B C (zjp.cut hC.aV) zfm;have wO:=znJ (P:=l.prog) (w:=w) (base:=base) B C (zjw.cut hC.aV) zfm;have zlc:=znI (P:=l.prog) (w:=w) (base:=base) B C (zjv.cut hC.aV) zlf zk5;have zk4:=znz (P:=l.prog) (w:=w) (base:=base) B C (zjm.cut hC.aV) zfk zfl;have zld:=znK (P:=l.prog) (w:=w) (base:=base) B C (zjx.cut hC.aV) zfk;have zfo:=znR (P:=l.prog) (w:=w) (base:=base) B C (zjE.cut hC.aV) zln zaU zlj;have zfp:=znW (P:=l.prog) (w:=w) (base:=base) B C (zjI.cut hC.aV) zlo;have zk3:=zny (P:=l.prog) (w:=w) (base:=base) B C (zjl.cut hC.aV) wO zfl
 have zle:=znL (P:=l.prog) (w:=w) (base:=base) B C (zjy.cut hC.aV) zld;have zla:=znG (P:=l.prog) (w:=w) (base:=base) B C (zjt.cut hC.aV) wO zk6;have zlq:=znX (P:=l.prog) (w:=w) (base:=base) B C (zjJ.cut hC.aV) zlr;have zlb:=znH (P:=l.prog) (w:=w) (base:=base) B C (zju.cut hC.aV) zfn wO zk3;have zk8:=znE (P:=l.prog) (w:=w) (base:=base) B C (zjr.cut hC.aV) zfn zk4 zle;have zlH:=zuH (P:=l.prog) (w:=w) (base:=base) B C (zdQ.cut hC.aV) zbw zfo zfp;have zlm:=znS (P:=l.prog) (w:=w) (base:=base) B C (zdQ.cut hC.aV) zlq zfo zfp;have zk9:=znF (P:=l.prog) (w:=w) (base:=base) B C (zjs.cut hC.aV) zk8 zlm zk2 zbM rG zck wZ wW zlH;have zll:=znQ (P:=l.prog) (w:=w) (base:=base) B C (fA.cut hC.aV Fl) zk7 zlc zla zk1 wO zlb zk9;exact zll
theorem walk{XP:(dm->Option ir)->zh->Prop}{K:Params->yU}(zbP:∀ ns:List Int,ns.length<=63->tm [.list (ns.map zH)]=.ok (.bool true))(hn:l.most=some 63)(uv:d.params.defaults=[])(hi:importsNone q=true)(uF:l.prog.given.tree=none)
  (hY:∀(w:zq) (h:zh),YP w h->(K w.params).In h)
  (F:∀(w:zq) (mg:dm->Option ir) (fa:gV) (h:zh),(K w.params).In h->h.Ns zv mg->mg d.name=some (.ref fa) ->
   ∃(cl:CL) (ob xb:String->Option (gV×List dm)) (fd:Ah),gK cl (K w.params)/\(∀(s:kb) (u:ir),Dq s fd ⟨[u],[]⟩ [("_law_script",u)])/\∀ base:zh,(aO (cl.map (·.1)) (K w.params)).In base->base.Ns zv mg->dJ l.prog w (aO (cl.map (·.1)) (K w.params)) mg base (cR l.prog w) 7 fa fd ["_law_script"] (@gW (qW cl ob xb) (aO (cl.map (·.1)) (K w.params)) 1 false tm)) :
  PySem.W.WalkO q loose XP YP l.row.toRowW d [] (fun f vs=>FR f vs) :=
 zuq (k:=7) (x:="_law_script") zbP hn uv hi uF ⟨rfl,by decide,by decide,rfl⟩ hY F
end
end K80
namespace TX
open PySem PySem.StrLaws Builtin Builtin.Str L2
variable {c n:Nat}{a b x:dm}{ps:List dm}{i:Int}
abbrev cp(x:dm):List Nat:=x.cps.toList
theorem ext(h:cp a=cp b):a=b:=Str.ext' (Gh.mp h)
theorem bE(a b:dm):cp (a++b)=cp a++cp b:=by simp[cp,Str.cps_append]
theorem cO(a:dm):a.length=(cp a).length:=by simp[cp,Str.length]
abbrev one(c:Nat):dm:=⟨#[c]⟩
theorem zfj{c:Nat}:∀{a b x y:List Nat},c∉a->c∉b->a++c::x=b++c::y->a=b/\x=y
 | [],[],x,y,_,_,h=>by simp at h;exact⟨rfl,h⟩
 | [],d::b,x,y,_,hb,h=>by simp at h;exact absurd (by simp[h.1]) hb
 | d::a,[],x,y,ha,_,h=>by simp at h;exact absurd (by simp[h.1]) ha
 | d::a,e::b,x,y,ha,hb,h=>by
  simp only[Ap,Fh]at h;obtain⟨rfl,h⟩:=h;obtain⟨rfl,rfl⟩:=zfj (fun z=>ha (z0 _ z)) (fun z=>hb (z0 _ z)) h;exact⟨rfl,rfl⟩
theorem mE(s p q:dm)(r:List dm):Ak s (p::q::r)=p++s++Ak s (q::r):=rfl
theorem zgB{c:Nat}:∀{ps qs:List dm},ps≠[]->qs≠[]->(∀ p∈ps,c∉cp p)->(∀ p∈qs,c∉cp p)->Ak (one c) ps=Ak (one c) qs->ps=qs
 | [],_,h,_,_,_,_=>absurd rfl h
 | _::_,[],_,h,_,_,_=>absurd rfl h
 | [p],[q],_,_,_,_,h=>by rw[show p=q from h]
 | [p],q::q'::r,_,_,hp,_,h=>by
  have h1:=congrArg cp h;rw[mE,bE,bE]at h1;refine absurd ?_ (hp p (Au ..));rw[show cp p=_ from h1];simp
 | p::p'::r,[q],_,_,_,hq,h=>by
  have h1:=congrArg cp h;rw[mE,bE,bE]at h1;refine absurd ?_ (hq q (Au ..));rw[show cp q=_ from h1.symm];simp
 | p::p'::r,q::q'::t,_,_,hp,hq,h=>by
  have h1:=congrArg cp h;rw[mE,mE,bE,bE,bE,bE,Dv,Dv]at h1;obtain⟨e1,e2⟩:=zfj (hp p (Au ..)) (hq q (Au ..)) (show cp p++c::cp (Ak (one c) (p'::r))=cp q++c::cp (Ak (one c) (q'::t)) from h1);rw[ext e1,zgB (by simp) (by simp) (fun x hx=>hp x (z0 _ hx)) (fun x hx=>hq x (z0 _ hx)) (ext e2)]
theorem vA(x:dm)(c:Nat):zV x (one c)≠[]:=by
 intro h;have:=PyProof.Rows.split_pos x (one c);rw[h]at this;exact absurd this (by decide)
theorem zdu(h:ps≠[])(hp:∀ p∈ps,c∉cp p):zV (Ak (one c) ps) (one c)=ps :=
 zgB (vA _ c) h (split_free _ c) hp (DK _ _)
theorem tU{i:Nat}:At x (one c) x.length i↔(cp x)[i]?=some c:=subAt_one x c i
theorem zhF(h:c∉cp a):oi a (one c)=[a,Ax,Ax]:=by
 unfold oi;rcases occ_head a (one c) 1 (zr _) with⟨e,_⟩|⟨i,r,e,hi,_⟩
 ·rw[e]
 ·exact absurd (BO (tU.mp hi)) h
theorem zlE(A B:List Nat)(c:Nat):((A++c::B).drop (A.length+1)).take ((A++c::B).length-(A.length+1))=B:=by
 rw[show A++c::B=(A++[c])++B by simp,show A.length+1=(A++[c]).length by simp,List.drop_left,AO,Ga,List.take_length]
theorem zhH(h:c∉cp a):oi (a++one c++b) (one c)=[a,one c,b]:=by
 have hx:cp (a++one c++b)=cp a++c::cp b:=by rw[bE,bE,Dv];rfl
 have hA:(cp (a++one c++b))[(cp a).length]?=some c:=by rw[hx];simp
 have ie:∀ i,i<(cp a).length->(cp (a++one c++b))[i]?≠some c:=fun i hi z=>by
  rw[hx,AY hi]at z;exact h (BO z)
 unfold oi;rcases occ_head (a++one c++b) (one c) 1 (zr _) with⟨_,n⟩|⟨i,r,e,hi,n⟩
 ·exact absurd (tU.mpr hA) (n _)
 ·rw[e]
  have h1:=tU.mp hi;have ei:i=(cp a).length:=by
   rcases Nat.lt_trichotomy i (cp a).length with l|l|l
   ·exact absurd h1 (ie i l)
   ·exact l
   ·exact absurd (tU.mpr hA) (n _ l)
  subst ei;have l1:(one c).length=1:=rfl;have s1:strSub (a++one c++b) 0 (cp a).length=a:=ext (by show(strSub _ _ _).cps.toList=_;rw[strSub_toList];show((cp (a++one c++b)).drop 0).take _=_;rw[hx];simp);have s2:strSub (a++one c++b) ((cp a).length+(one c).length) (a++one c++b).length=b:=ext (by
   show(strSub _ _ _).cps.toList=_;rw[strSub_toList];show((cp (a++one c++b)).drop _).take _=_;rw[cO (a++one c++b),hx,l1];exact zlE _ _ _)
  show [strSub _ 0 _,_,strSub _ _ _]=_;rw[s1,s2]
abbrev T(i:Int):dm:=zj (toString i)
theorem nB(n:Nat):cp (T (n:Int))=(Dd 10 n).map Char.toNat:=PySem.W.KIN.signs_num n
theorem wR(n:Nat):∀ c∈cp (T (n:Int)),48<=c/\c<=57:=by
 intro c hc;rw[nB]at hc;obtain⟨ch,jv,rfl⟩:=zZ.mp hc;have:=Nat.isDigit_of_mem_toDigits (b:=10) (by decide) (by decide) jv;unfold Char.isDigit at this;simp only[zX,decide_eq_true_eq]at this;exact⟨this.1,this.2⟩
theorem ne_T(n:Nat):cp (T (n:Int))≠[]:=by
 rw[nB];intro e;have:(Dd 10 n).length=0:=by rw[List.map_eq_nil_iff.mp e];rfl
 have h2:=@Nat.length_toDigits_pos 10 n
 omega
theorem zgh(h:0<n):∀ c r,cp (T (n:Int))=c::r->c≠48:=by
 induction n using Nat.strongRecOn with
 | _ m ih =>
  intro c r e
  by_cases hm:m<10
  ·rw[nB,Gz hm]at e
   simp only[zE,Bg,Fh]at e;have:∀ d:Nat,d<10->0<d->(Fi d).toNat≠48:=by decide
   rw[<- e.1];exact this m hm h
  ·have t:Dd 10 (m / 10)++Dd 10 (m % 10)=Dd 10 (10*(m / 10)+m % 10):=Ht (by decide) (by omega) (Nat.mod_lt m (by decide))
   rw[Nat.div_add_mod]at t;rw[nB,<- t,DL]at e;have i2:=ih (m / 10) (by omega) (by omega);rw[nB]at i2;cases hd:(Dd 10 (m / 10)).map Char.toNat with
   | nil=>exact absurd hd (by have:=ne_T (m / 10);rw[nB]at this;exact this)
   | cons c' r' =>
    rw[hd]at e i2;simp only[Ap,Fh]at e;rw[<- e.1];exact i2 c' r' rfl
theorem len_T{k:Nat}(hk:0<k)(h:n<10^k):(T (n:Int)).length<=k:=PyProof.Rows.toString_length_le (GA n) hk (by exact_mod_cast h)
theorem zpn(h:i<0):T i=one 45++T (0-i):=by
 show zj (toString i)=_;rw[PyProof.Rows.toString_neg h];refine ext ?_;rw[bE];show(zj _).cps.toList=_;rw[Hu];show _=[45]++(zj (toString (0-i))).cps.toList;rw[Hu];simp
theorem pL(c:Nat)(hc:c≠45/\(c<48\/57<c))(i:Int):c∉cp (T i):=PyProof.Rows.int_text_free' c hc i
end TX
namespace FL
open PySem
variable {ρ:En}{i k m n:Nat}{it:IF}{y:D×En}{ix:List Nat}{j:Int}{g:GF}{a b d:D}{x:Sl}{items:List D}{f:EF}{t:TF}
section
theorem zaS{k:Nat}{ix:List Nat}{g:GF}{t:TF}{f:EF}{ρ:En}(P:D->Bool)(h:D->D):∀(items:List D) (acc:List D),acc.length+items.length<=lim ->
  (∀ x∈items,∃ β,g x (cg k ix ρ)=.ok β/\t β=.ok (P x,β)/\(P x=true->f β=.ok (h x,β))/\back ρ ix (β.drop k)=ρ)->iH k ix g t f items ρ acc=.ok (acc++(items.filter P).map h,ρ)
 | [],acc,_,_=>by simp[iH]
 | x::xs,acc,hl,hx=>by
  obtain⟨β,h1,h2,h3,h4⟩:=hx x (Au ..);have rest:=fun y m=>hx y (z0 x m);simp only[zB]at hl;unfold iH;rw[h1,ah,h2,ah];cases c:P x with
  | true =>
   rw[if_pos rfl,h3 c,ah,aR (jY (by omega)),h4,zaS P h xs _ (by simp;omega) rest,Hv c];simp
  | false =>
   rw[if_neg (by simp),h4,zaS P h xs acc (by omega) rest,Hw (by simp[c])]
theorem zlU(P:D->Bool)(h:D->D)(hi:it ρ=.ok (items,ρ))(hl:items.length<=lim)
  (hx:∀ x∈items,∃ β,g x (cg k ix ρ)=.ok β/\t β=.ok (P x,β)/\(P x=true->f β=.ok (h x,β))/\back ρ ix (β.drop k)=ρ):dB k ix it g t f ρ=.ok (.list ((items.filter P).map h),ρ):=by
 unfold dB;rw[hi,ah,zaS P h items [] (by simpa using hl) hx]
 rfl
theorem zaY(h:D->D)(hi:it ρ=.ok (items,ρ))(hl:items.length<=lim)
  (hx:∀ x∈items,∃ β,g x (cg k ix ρ)=.ok β/\f β=.ok (h x,β)/\back ρ ix (β.drop k)=ρ):dB k ix it g du f ρ=.ok (.list (items.map h),ρ):=by
 rw[zlU (fun _=>true) h hi hl fun x m=>by
  obtain⟨β,h1,h2,h3⟩:=hx x m;exact⟨β,h1,rfl,fun _=>h2,h3⟩]
 rw[Hx.mpr (fun _ _=>rfl)]
theorem zm9(ns:List Int):intsOf (ns.map zH)=some ns:=by
 induction ns with
 | nil=>rfl
 | cons n ns ih=>simp[intsOf,ih]
theorem zka(ns:List Bool):boolsOf (ns.map Bb)=some ns:=by
 induction ns with
 | nil=>rfl
 | cons n ns ih=>simp[boolsOf,ih]
theorem zem(bs:List Bool):tP (.list (bs.map Bb))=.ok (.bool (bs.all id)):=by
 show((R.of (boolsOf _)).bind _)=_;rw[zka];rfl
theorem zdo(lo hi:Int):dP lo hi=((A4 (hi-lo).toNat).map fun(i:Nat)=>lo+(i:Int)).map zH:=by
 unfold dP;rw[A5];rfl
def Pl(n:Nat)(d:D):Prop:=Ee d=true/\d.depth<=n
theorem Pl.shaped(h:Pl n d)(hn:n<=64:=by decide):AZ d=true:=by
 unfold AZ;rw[h.1,decide_eq_true (AB h.2 hn)];rfl
theorem mK(i:Int):Pl 0 (.int i):=⟨rfl,zr _⟩
theorem zc4{n:Nat}:∀{ds:List D},(∀ d∈ds,Pl n d)->E6 ds=true/\PyData.depthAll ds<=n
 | [],_=>⟨rfl,AU _⟩
 | d::ds,h=>by
  obtain⟨a,b⟩:=zc4 fun x m=>h x (z0 d m);obtain⟨c,e⟩:=h d (Au ..);refine⟨by simp only[E6];rw[c,a];rfl,?_⟩;simp only[PyData.depthAll]
  omega
theorem ye{ds:List D}(h:∀ d∈ds,Pl n d):Pl (n+1) (.tuple ds):=by
 obtain⟨a,b⟩:=zc4 h;exact⟨a,by simp only[PyData.depth];omega⟩
theorem yd{ds:List D}(h:∀ d∈ds,Pl n d):Pl (n+1) (.list ds):=by
 obtain⟨a,b⟩:=zc4 h;exact⟨a,by simp only[PyData.depth];omega⟩
theorem zfJ{α:Type}[DecidableEq α](f:α->D)(h:∀ a b,A0 (f a) (f b)=decide (a=b)):∀ xs ys:List α,DM (xs.map f) (ys.map f)=decide (xs=ys)
 | [],[]=>rfl
 | [],y::ys=>by simp[DM]
 | x::xs,[]=>by simp[DM]
 | x::xs,y::ys=>by
  simp only[zE,DM];rw[h,zfJ f h xs ys]
  by_cases e1:x=y <;> by_cases e2:xs=ys <;> simp[e1,e2]
theorem zbv(a b:Int):A0 (.int a) (.int b)=decide (a=b):=by
 show(a==b)=_;rw[Bool.beq_eq_decide_eq]
abbrev tp(w:List Int):D:=.tuple (w.map zH)
theorem vi(w:List Int):Pl 1 (tp w):=ye fun d m=>by
 obtain⟨i,_,rfl⟩:=zZ.mp m;exact mK i
theorem zfL(a b:List Int):A0 (tp a) (tp b)=decide (a=b):=by
 show DM _ _=_;exact zfJ _ zbv a b
theorem rg(ha:Pl n a)(hb:Pl m b)(hn:n<=64:=by decide)(hm:m<=64:=by decide):aK a b=.ok (.bool (A0 a b)):=by
 unfold aK;rw[ha.shaped hn,hb.shaped hm];rfl
theorem uW(ha:Pl n a)(hb:Pl m b)(hn:n<=64:=by decide)(hm:m<=64:=by decide):bR a b=.ok (.bool (!A0 a b)):=by
 unfold bR;rw[ha.shaped hn,hb.shaped hm];rfl
theorem zlZ(a b:List Int):aK (tp a) (tp b)=.ok (.bool (decide (a=b))):=by rw[rg (vi a) (vi b),zfL]
theorem zpm(a b:List Int):bR (tp a) (tp b)=.ok (.bool (!decide (a=b))):=by rw[uW (vi a) (vi b),zfL]
theorem gM(a b:Int):aK (.int a) (.int b)=.ok (.bool (decide (a=b))):=by rw[rg (mK a) (mK b),zbv]
theorem pX(a b:Int):bR (.int a) (.int b)=.ok (.bool (!decide (a=b))):=by rw[uW (mK a) (mK b),zbv]
theorem rq(i j:Int):gC (.int i) (.int j)=.ok (.bool (decide (j<i))):=rfl
theorem nU(i j:Int):dD (.int i) (.int j)=.ok (.bool (decide (i<j))):=rfl
theorem rV(i j:Int):jb (.int i) (.int j)=.ok (.bool (decide (i<=j))):=rfl
theorem zf4(i j:Int):jt (.int i) (.int j)=.ok (.bool (decide (j<=i))):=rfl
theorem zdn(h:0<=j)(h2:j<=1000000):k8 [.int j]=.ok (dP 0 j):=by
 show aN _ _=_;refine aR ?_;unfold sH lim;simp only[zX,leB_iff]
 omega
theorem tZ{m:List (Nat×Sl)}(h:∀ i p d,m.lookup i≠some (.ow p d)):∀(ρ:En) (n:Nat),bY m n ρ=ρ
 | [],_=>rfl
 | x::r,n=>by
  unfold bY;rw[tZ h r (n+1)]
  congr 1
  unfold cf
  split
  ·rename_i p d q e h1 h2
   exact absurd h2 (h _ _ _)
  ·rfl
theorem zbz{α:Type}{f:α->D}{g:GF}{b:SF}(P:List α->En->Prop):∀(xs:List α) (done:List α) (ρ:En),P done ρ ->
  (∀ pre x post ρ,done++xs=pre++x::post->P pre ρ->∃ ρ' fl,(g (f x) ρ).bind b=.ok (fl,ρ')/\(fl=.nx\/fl=.ct)/\P (pre++[x]) ρ')->∃ ρ',forL g b (xs.map f) ρ=.ok (.nx,ρ')/\P (done++xs) ρ'
 | [],done,ρ,h,_=>⟨ρ,rfl,by simpa using h⟩
 | x::xs,done,ρ,h,hx=>by
  obtain⟨ρ1,fl,e,hf,h1⟩:=hx done x xs ρ rfl h;obtain⟨ρ2,e2,h2⟩:=zbz P xs (done++[x]) ρ1 h1 fun pre y post ρ e=>hx pre y post ρ (by simpa using e);refine⟨ρ2,?_,by simpa using h2⟩;show((g (f x) ρ).bind fun ρ1=>(b ρ1).bind fun y=>match y.1 with
    | .nx | .ct=>forL g b (xs.map f) y.2
    | .bk=>.ok (.nx,y.2)
    | .rt d=>.ok (.rt d,y.2)
    | .rf d=>.ok (.rf d,y.2))=_
  cases e1:g (f x) ρ with
  | ok ρ3 =>
   rw[e1]at e;rw[ah]at e ⊢;rw[e,ah];rcases hf with rfl|rfl
   ·exact e2
   ·exact e2
  | bad=>rw[e1]at e;cases e
  | err c fs=>rw[e1]at e;cases e
def Np(x:Sl):Prop:=∀ e,x≠.ow true e
theorem di:Np .no:=fun _ z=>nomatch z
theorem dY(d:D):Np (.val d):=fun _ z=>nomatch z
theorem zpx(d:D):Np (.ow false d):=fun _ z=>nomatch z
theorem gB(h:ρ[i]?=some x)(n:Np x):gN i d ρ=.ok (ρ.set i (.val d)):=by
 unfold gN;rw[h];cases x with
 | no=>rfl
 | val c=>rfl
 | ob c ds=>rfl
 | ow p c=>cases p with
  | true=>exact absurd rfl (n c)
  | false=>rfl
theorem zdq(hf:f ρ=.ok y)(h:y.2[i]?=some x)(n:Np x):bx i f ρ=.ok (.nx,y.2.set i (.ow false y.1)):=by
 unfold bx;rw[hf,ah,h];cases x with
 | no=>rfl
 | val c=>rfl
 | ob c ds=>rfl
 | ow p c=>cases p with
  | true=>exact absurd rfl (n c)
  | false=>rfl
theorem kg(hf:f ρ=.ok y)(h:y.2[i]?=some x)(n:Np x):ax (gN i) f ρ=.ok (.nx,y.2.set i (.val y.1)):=by
 unfold ax;rw[hf,ah,gB h n];rfl
theorem zaC{m:List (Nat×Sl)}(h:m.lookup i=none):cf m i x=x:=by
 unfold cf;rw[h];cases x <;> rfl
theorem aS{s t:SF}{ρ1:En}(h:s ρ=.ok (.nx,ρ1)):ag s t ρ=t ρ1:=by
 unfold ag;rw[h];rfl
end
variable {i:Int}{l:Nat}
section
def zeF:SF:=(ag (ax (gN 2) (e2 aH (e2 aH (e2 cP (e2 aH (e2 fc (eV 0) (e2 aH (e2 fW (eC (.int 10)) (eC (.int 18))) (eC (.int 9)))) (e2 cP (eC (.int 7)) (eV 1))) (eC (.int 739108512309184756019283746561))) (e2 cP (eC (.int 7919)) (eV 1))) (eC (.int 1))))
  (ag (ax (gN 2) (e2 fc (e2 cP (eV 2) (eV 2)) (e2 aH (e2 fW (eC (.int 10)) (eC (.int 60))) (eC (.int 7)))))
  (ak (e2 fc (e2 cP (e2 aH (eV 2) (eC (.int 40503))) (e2 aH (eV 2) (eC (.int 57)))) (e2 aH (e2 fW (eC (.int 10)) (eC (.int 60))) (eC (.int 7)))))))
def vT:List D->R D:=bo false 2 3 zeF
def zay:SF:=(ag (ao (tB (e2 dD (eV 1) (e1 bz (eV 0)))) (ak (e2 aD (eV 0) (eV 1))) aw)
  (ak (e2 aH (e2 cP (eC (.int 3)) (eV 1)) (eC (.int 1)))))
def vS:List D->R D:=bo false 2 2 zay
def zaz:SF:=(ag (ao (tB (e2 jt (eV 0) (e2 fW (eC (.int 10)) (eC (.int 18))))) (cX (bc (aa (e2 dI (eV 0) (e2 fW (eC (.int 10)) (eC (.int 18)))) (aa (eC (.int 0)) (aa (eV 1) af))))) aw)
  (cX (bc (aa (az vT (aa (eV 0) (aa (eV 1) af))) (aa (eC (.int 0)) (aa (e2 aH (e2 fc (eV 0) (e2 aH (e2 fW (eC (.int 10)) (eC (.int 18))) (eC (.int 9)))) (eV 1)) af))))))
def vU:List D->R D:=bo true 2 2 zaz
def tY:SF:=(ag (ao (tB (e2 dD (m2 aD 0 (eC (.int 0))) (eV 1))) (ag (setM 0 (e2 aH (m2 aD 0 (eC (.int 1))) (eC (.int 1))) (eC (.int 1)))
  (setM 0 (e2 aH (m2 aD 0 (eC (.int 0))) (e2 cP (eV 1) (az vT (aa (m2 aD 0 (eC (.int 2))) (aa (e2 aH (e2 cP (eC (.int 11)) (m2 aD 0 (eC (.int 1)))) (eC (.int 5))) af))))) (eC (.int 0)))) aw)
  (ag (ax (gN 2) (e2 fc (m2 aD 0 (eC (.int 0))) (eV 1)))
  (ag (setM 0 (e2 i5 (m2 aD 0 (eC (.int 0))) (eV 1)) (eC (.int 0)))
  (ak (eV 2)))))
def pA:List D->R (D×List D):=run [true,false] false 3 tY
structure Bd(i:Int)(n:Nat):Prop where
 h:i.natAbs<2^n
theorem Bd.mono(h:Bd i n)(l:n<=m):Bd i m:=⟨AA h.h (Hy (by decide) l)⟩
theorem Bd.add(h:Bd i n)(k:Bd j m):Bd (i+j) (max n m+1):=by
 constructor
 have a:=(h.mono (Nat.le_max_left n m)).h;have b:=(k.mono (Nat.le_max_right n m)).h;have c:=Int.natAbs_add_le i j;rw[Nat.pow_succ]
 omega
theorem Bd.mul(h:Bd i n)(k:Bd j m):Bd (i*j) (n+m):=by
 constructor
 rw[Int.natAbs_mul,Nat.pow_add];have a:=h.h;have b:=k.h;exact Nat.mul_lt_mul'' a b
theorem Bd.mod(h:Bd j n)(p:0<j):Bd (i.fmod j) n:=by
 constructor
 have a:=h.h;have b:=DN i p;have c:=Ep i p
 omega
theorem mulOk_of(h:Bd i n)(k:Bd j m)(l:n+m<=100000000):uQ i j=true:=by
 unfold uQ;refine jY ?_;have lg:∀{i:Int} {n:Nat},Bd i n->i.natAbs.log2<=n:=by
  intro i n h
  by_cases z:i.natAbs=0
  ·rw[z];exact AU _
  ·exact CM ((FT z).mpr h.h)
 have a:=lg h;have b:=lg k
 omega
theorem jA(h:Bd i n)(k:Bd j m)(l:n+m<=100000000):cP (.int i) (.int j)=.ok (.int (i*j)):=by
 show aN _ _=_;exact aR (mulOk_of h k l)
theorem rX(p:0<j):fc (.int i) (.int j)=.ok (.int (i.fmod j)):=by
 show aN _ _=_;exact aR (by simp;omega)
theorem zfQ(p:0<j)(h:Bd j n)(l:n<=8000):i5 (.int i) (.int j)=.ok (.int (i.fdiv j)):=by
 show aN _ _=_;exact aR (by simp;omega)
noncomputable def oh:Int:=1000000000000000000
noncomputable def qc:Int:=1000000000000000009
noncomputable def p60:Int:=1000000000000000000000000000000000000000000000000000000000000
noncomputable def qd:Int:=1000000000000000000000000000000000000000000000000000000000007
noncomputable def pm:Int:=739108512309184756019283746561
theorem zdg:fW (.int 10) (.int 18)=.ok (.int oh):=rfl
theorem zrN:fW (.int 10) (.int 60)=.ok (.int p60):=rfl
theorem zel:oh+9=qc:=rfl
theorem zjQ:p60+7=qd:=rfl
theorem zc1:0<qc:=by decide
theorem u9:0<qd:=by decide
theorem b18:Bd qc 60:=⟨by decide⟩
theorem b60:Bd qd 200:=⟨by decide⟩
theorem bm:Bd pm 100:=⟨by decide⟩
theorem d8(h:i.natAbs<65536):Bd i 16:=⟨h⟩
def pW(c k:Int):Int:=(c.fmod qc+7*k)*pm+7919*k+1
def nX(c k:Int):Int:=(pW c k*pW c k).fmod qd
def jZ(c k:Int):Int:=((nX c k+40503)*(nX c k+57)).fmod qd
theorem zcH(c k:Int):0<=jZ c k:=DN _ u9
theorem zhe(c k:Int):Bd (jZ c k) 200:=b60.mod u9
theorem zcI(c k:Int)(hk:Bd k n)(hn:n<=1000):vT [.int c,.int k]=.ok (.int (jZ c k)):=by
 have a1:=rX (i:=c) zc1;have a2:Bd (c.fmod qc) 60:=b18.mod zc1;have a3:=jA (i:=7) (d8 (by decide)) hk (by omega);have a4:=(d8 (i:=7) (by decide)).mul hk;have a5:=a2.add a4;have a6:=jA a5 bm (by omega);have a7:=jA (i:=7919) (d8 (by decide)) hk (by omega);have a8:=((a5.mul bm).add ((d8 (i:=7919) (by decide)).mul hk)).add (d8 (i:=1) (by decide));have a9:=jA a8 a8 (by omega);have b1:=rX (i:=pW c k*pW c k) u9;have b2:Bd (nX c k) 200:=b60.mod u9;have b3:=jA (b2.add (d8 (i:=40503) (by decide))) (b2.add (d8 (i:=57) (by decide))) (by decide);have b4:=rX (i:=(nX c k+40503)*(nX c k+57)) u9;have hm:(zH 739108512309184756019283746561)=.int pm:=rfl;have f1:(c.fmod qc+7*k)*pm+7919*k+1=pW c k:=rfl;have f2:(pW c k*pW c k).fmod qd=nX c k:=rfl;have f3:((nX c k+40503)*(nX c k+57)).fmod qd=jZ c k:=rfl;rw[f1]at a9;simp only[vT,bo,FL.run,zB,zG,Ab,zo,zeF,ag,ax,FL.e2,eV,slots,zm,if_false,Bq,Ap,Aw,zz0,eC,ah,zdg,aH,zel,a1,zz1,a3,hm,a6,a7,f1,gN,zP,zO,zrN,zjQ,ak,a9,b1,f2,b3,b4,f3,outs,outD,if_true]
def dM(k:Nat)(d:D):Prop:=∃ n c s,d=.list [.int n,.int c,.int s]/\0<=n/\0<=c/\c<=k
theorem dM.mono(h:dM k d)(hl:k<=l):dM l d:=by
 obtain⟨n,c,s,e,h1,h2,h3⟩:=h;exact⟨n,c,s,e,h1,h2,by omega⟩
theorem zrb(c k:Int)(hk:k.natAbs<65536):∃ d,vU [.int c,.int k]=.ok d/\dM 0 d:=by
 have a1:=rX (i:=c) zc1;have hx1:=zcI c k (d8 hk) (by decide)
 by_cases h:oh<=c
 ·refine⟨_,?_,c-oh,0,k,rfl,by omega,by decide,by decide⟩
  have hg:jt (.int c) (.int oh)=.ok (.bool true):=by show R.ok (Bb (decide (oh<=c)))=_;rw[decide_eq_true h]
  simp only[vU,bo,FL.run,zB,zG,Ab,zo,zaz,ag,ao,tB,FL.e2,eV,slots,zm,if_false,Bj,Ap,Aw,zz0,eC,ah,zdg,hg,cX,bc,aa,dI,af,aw,zz1,if_true,az,aH,outs,outD]
  rfl
 ·refine⟨_,?_,jZ c k,0,c.fmod qc+k,rfl,zcH c k,by decide,by decide⟩
  have hg:jt (.int c) (.int oh)=.ok (.bool false):=by show R.ok (Bb (decide (oh<=c)))=_;rw[decide_eq_false h]
  simp only[vU,bo,FL.run,zB,zG,Ab,zo,zaz,ag,ao,tB,FL.e2,eV,slots,zm,if_false,Bj,Ap,Aw,zz0,eC,ah,zdg,hg,cX,bc,aa,dI,af,aw,zz1,az,aH,zel,hx1,a1,outs,outD,if_true]
  rfl
theorem ztW(h:dM k d)(hk:k<=60000)(m:Int)(mr:1<=m)(gk:m.natAbs<65536):∃ g d',pA [d,.int m]=.ok (.int g,[d',.int m])/\0<=g/\g<m/\dM (k+1) d':=by
 obtain⟨n,c,s,rfl,h1,h2,h3⟩:=h;have i0:∀ x y z:D,bX [x,y,z] 0=some x:=fun _ _ _=>rfl;have i1:∀ x y z:D,bX [x,y,z] 1=some y:=fun _ _ _=>rfl;have i2:∀ x y z:D,bX [x,y,z] 2=some z:=fun _ _ _=>rfl;have j0:fJ 3 0=some 0:=rfl;have j1:fJ 3 1=some 1:=rfl;have ie:dD (.int n) (.int m)=.ok (.bool (decide (n<m))):=rfl;have hd:∀ i:Int,i5 (.int i) (.int m)=.ok (.int (i.fdiv m)):=fun i=>zfQ (by omega) (d8 gk) (by decide);have hm:∀ i:Int,fc (.int i) (.int m)=.ok (.int (i.fmod m)):=fun i=>rX (by omega);have gd:∀ i:Int,0<=i->0<=i.fdiv m:=fun i hi=>Int.fdiv_nonneg hi (by omega)
 by_cases hn:n<m
 ·rw[decide_eq_true hn]at ie
  have hc:(c+1).natAbs<65536:=by omega
  have x1:=jA (i:=11) (d8 (by decide)) (d8 hc) (by decide);have xb:=((d8 (i:=11) (by decide)).mul (d8 hc)).add (d8 (i:=5) (by decide));have x2:=zcI s (11*(c+1)+5) xb (by decide);have x3:=jA (d8 gk) (zhe s (11*(c+1)+5)) (by decide);have nn:0<=n+m*jZ s (11*(c+1)+5):=Int.add_nonneg h1 (Int.mul_nonneg (by omega) (zcH _ _));refine⟨(n+m*jZ s (11*(c+1)+5)).fmod m,.list [.int ((n+m*jZ s (11*(c+1)+5)).fdiv m),.int (c+1),.int s],?_,DN _ (by omega),Ep _ (by omega),_,_,_,rfl,gd _ nn,by omega,by omega⟩;simp only[pA,FL.run,zB,zG,Ab,tY,ag,ao,tB,FL.e2,m2,bg,slots,if_true,zm,if_false,Bq,zo,Ap,Aw,zz0,eC,aD,R.of,ah,i0,eV,zz1,ie,setM,aH,eB,dE,az,aa,af,aw,i1,zO,j1,zP,i2,x1,x2,x3,j0,ax,gN,ak,hm,hd,outs,outD,BH]
 ·rw[decide_eq_false hn]at ie
  refine⟨n.fmod m,.list [.int (n.fdiv m),.int c,.int s],?_,DN _ (by omega),Ep _ (by omega),_,_,_,rfl,gd _ h1,by omega,by omega⟩;simp only[pA,FL.run,zB,zG,Ab,tY,ag,ao,tB,FL.e2,m2,bg,slots,if_true,zm,if_false,Bq,zo,Ap,Aw,zz0,eC,aD,R.of,ah,i0,eV,zz1,ie,setM,aH,eB,dE,az,aa,af,aw,i1,zO,j1,zP,i2,ax,gN,ak,hm,hd,j0,outs,outD,BH]
theorem zj4(ns:List Int)(k:Int)(h0:0<=k)(hk:k.natAbs<65536):∃ a,vS [.list (ns.map zH),.int k]=.ok (.int a):=by
 have a3:=jA (i:=3) (d8 (by decide)) (d8 hk) (by decide);have hl:dD (.int k) (.int (ns.length:Int))=.ok (.bool (decide (k<ns.length))):=rfl
 by_cases h:k<ns.length
 ·rw[decide_eq_true h]at hl
  have:∃ a,bX (ns.map zH) k=some (.int a):=by
   unfold bX fJ;rw[zL,if_pos h0,if_pos h];exact⟨ns[k.toNat]'(by omega),by simp[show k.toNat<ns.length by omega]⟩
  obtain⟨a,ea⟩:=this;refine⟨a,?_⟩;simp only[vS,bo,FL.run,zB,zG,Ab,zo,zay,ag,ao,tB,FL.e2,eV,slots,zm,if_false,Bj,Ap,Aw,zz1,zz0,FL.e1,bz,ah,zL,hl,ak,aD,R.of,aw,ea,if_true,eC,aH,outs,outD]
 ·rw[decide_eq_false h]at hl
  refine⟨3*k+1,?_⟩;simp only[vS,bo,FL.run,zB,zG,Ab,zo,zay,ag,ao,tB,FL.e2,eV,slots,zm,if_false,Bj,Ap,Aw,zz1,zz0,FL.e1,bz,ah,zL,hl,ak,aD,aw,eC,aH,a3,outs,outD,if_true]
theorem zff{k:Nat}{ix:List Nat}{g:GF}{t:TF}{f:EF}(P:Nat->List D->En->Prop):∀(items:List D) (i:Nat) (acc:List D) (ρ:En),acc.length+items.length<=lim->acc.length=i->P i acc ρ ->
  (∀ x∈items,∀ j acc ρ,j<i+items.length->P j acc ρ->∃ β y β',g x (cg k ix ρ)=.ok β/\t β=.ok (true,β)/\f β=.ok (y,β')/\P (j+1) (acc++[y]) (back ρ ix (β'.drop k))) ->
  ∃ eS ρ',iH k ix g t f items ρ acc=.ok (eS,ρ')/\eS.length=i+items.length/\P (i+items.length) eS ρ'
 | [],i,acc,ρ,_,e,h,_=>⟨acc,ρ,rfl,e,h⟩
 | x::xs,i,acc,ρ,hl,e,h,hx=>by
  obtain⟨β,y,β',h1,h2,h3,h4⟩:=hx x (Au ..) i acc ρ (by simp) h;have rF:acc.length+(xs.length+1)<=lim:=hl;obtain⟨eS,ρ',pI,qZ,e3'⟩:=zff P xs (i+1) (acc++[y]) _ (by simp;omega) (by simp;omega) h4 fun x m j acc ρ hj=>hx x (z0 _ m) j acc ρ (by rw[zB];omega);refine⟨eS,ρ',?_,by simp;omega,by rw[zB,show i+(xs.length+1)=i+1+xs.length by omega];exact e3'⟩;unfold iH;rw[h1,ah,h2,ah,if_pos rfl,h3,ah,aR (jY (by omega)),pI]
end
variable {d' r v v':D}{p:Bool}{F:List D->R (D×List D)}
section
theorem zeR{i:Nat}{x:Sl}:∀(ρ:En) (n:Nat),i<n->bY [(i,x)] n ρ=ρ
 | [],_,_=>rfl
 | y::r,n,h=>by
  unfold bY;rw[zaC (by rw[zJ,show(n==i)=false from beq_eq_false_iff_ne.mpr (by omega)];rfl),zeR r (n+1) (by omega)]
theorem wD{d d':D}{p:Bool}:∀(ρ:En) (n i:Nat),ρ[i]?=some (.ow p d)->bY [(n+i,.ow true d')] n ρ=ρ.set i (.ow p d')
 | [],_,_,h=>by simp at h
 | y::r,n,0,h=>by
  have hy:y=.ow p d:=by simpa using h
  subst hy;unfold bY;rw[Nat.add_zero,zeR r (n+1) (Nat.lt_succ_self n)];have:cf [(n,Sl.ow true d')] n (.ow p d)=.ow p d':=by
   unfold cf;rw[zJ,beq_self_eq_true]
  rw[this]
  rfl
 | y::r,n,i+1,h=>by
  unfold bY;rw[zaC (by rw[zJ,show(n==n+(i+1))=false from beq_eq_false_iff_ne.mpr (by omega)];rfl),show n+(i+1)=n+1+i by omega,wD r (n+1) i (by simpa using h)]
  rfl
theorem jq{i:Nat}(hi:ρ[i]?=some (.ow p d))(hf:f ρ=.ok (v,ρ))(hF:F [d,v]=.ok (r,[d',v'])):aQ F [.m i,.v f] ρ=.ok (r,ρ.set i (.ow p d')):=by
 have hm:bg ρ i=.ok d:=by unfold bg;rw[hi]
 unfold aQ;simp only[eT,hm,ah,hf,d7,hF];have:=wD (d:=d) (d':=d') (p:=p) ρ 0 i hi;rw[CD]at this;show R.ok (r,bY [(i,.ow true d')] 0 ρ)=_;rw[this]
end
section
def zbK:SF:=(qp (oA 3) (tB (e2 bR (eV 3) (eC (.int 0)))) (dq 2 3 (eV 3) (e2 fc (eV 2) (eV 3))))
def zbD:SF:=(ag (dq 2 3 (e1 jN (eV 0)) (e1 jN (eV 1)))
  (ag zbK
  (ak (eV 2))))
def zjd:List D->R D:=bo false 2 4 zbD
def zbG:SF:=(ak (bq (aa (e1 bz (eV 0)) (aa (eV 0) af))))
def pB:List D->R D:=bo false 1 1 zbG
def xk:EF:=(dB 1 [0] (iE (e1 (mS pB) (eV 0))) (gN 0) du (bq (aa (eV 0) (aa (e2 h8 (eV 1) (eV 0)) af))))
def lZ:SF:=(ak xk)
def vV:List D->R D:=bo false 1 1 lZ
end
variable {b j:Nat}{a:Int}
section
noncomputable def num(r:Rat):D:=.tuple [.int r.num,.int (r.den:Int)]
theorem zpc{h:Nat}(p:l≠0):fc (.int h) (.int l)=.ok (.int ((h % l:Nat):Int)):=by
 show aN (decide ((l:Int)≠0)) _=_;rw[aR (by simpa using p)];rw[Int.fmod_eq_emod_of_nonneg _ (by omega)]
 rfl
theorem zbH(x0 x1:Sl):∀(n h l:Nat),l<n->qA (tB (e2 bR (eV 3) (eC (.int 0)))) (dq 2 3 (eV 3) (e2 fc (eV 2) (eV 3))) n [x0,x1,.val (.int h),.val (.int l)]=.ok (.nx,[x0,x1,.val (.int ((Nat.gcd h l:Nat):Int)),.val (.int 0)])
 | 0,h,l,p=>by omega
 | n+1,h,l,p=>by
  unfold qA
  by_cases c:l=0
  ·subst c
   have e:bR (.int ((0:Nat):Int)) (.int 0)=.ok (.bool false):=by rw[pX];rfl
   simp only[tB,FL.e2,eV,zz1,zz0,eC,ah,e,dq,gN,zm,if_false,Nat.gcd_zero_right]
   rfl
  ·have e:bR (.int l) (.int 0)=.ok (.bool true):=by
    rw[pX,decide_eq_false (by omega)];rfl
   simp only[tB,FL.e2,eV,zz1,zz0,eC,ah,e,dq,gN,zpc c,zP,zO,if_true];have ih:=zbH x0 x1 n l (h % l) (by have:=Nat.mod_lt h (Nat.pos_of_ne_zero c);omega);rw[ih,Nat.gcd_comm l,<- Nat.gcd_rec,Nat.gcd_comm]
theorem zej(i:Int):jN (.int i)=.ok (.int (i.natAbs:Int)):=by
 show R.ok (zH (if i<0 then -i else i))=_
 congr 2
 split <;> omega
theorem zmv(a b:Int):zjd [.int a,.int b]=.ok (.int (zR a b:Int)):=by
 have e1:dq 2 3 (FL.e1 jN (eV 0)) (FL.e1 jN (eV 1)) [.val (.int a),.val (.int b),.no,.no]=.ok (.nx,[.val (.int a),.val (.int b),.val (.int (a.natAbs:Int)),.val (.int (b.natAbs:Int))]):=by
  simp only[dq,FL.e1,eV,zz0,ah,zej,gN,zz1,zP,zO]
 have e2:zbK [.val (.int a),.val (.int b),.val (.int (a.natAbs:Int)),.val (.int (b.natAbs:Int))]=.ok (.nx,[.val (.int a),.val (.int b),.val (.int ((Nat.gcd a.natAbs b.natAbs:Nat):Int)),.val (.int 0)]):=by
  unfold zbK qp;have:oA 3 [.val (.int a),.val (.int b),.val (.int (a.natAbs:Int)),.val (.int (b.natAbs:Int))]=b.natAbs+1:=by
   show((b.natAbs:Int)).natAbs+1=_;simp
  rw[this];exact zbH _ _ _ _ _ (by omega)
 show((zbD [.val (.int a),.val (.int b),.no,.no]).bind _).bind _=_;unfold zbD;rw[aS e1,aS e2]
 rfl
theorem zfR(hj:j≠0)(hb:j<2^n)(hn:n<=90000000):i5 (.int i) (.int j)=.ok (.int (i / (j:Int))):=by
 show aN (decide ((j:Int)≠0)) _=_;rw[aR (by simpa using hj),Int.fdiv_eq_ediv_of_nonneg _ (by omega)]
theorem zmu(hb:b≠0)(h:b<2^n):zR a (b:Int)≠0/\zR a (b:Int)<2^n:=by
 have h1:0<zR a (b:Int):=Int.gcd_pos_of_ne_zero_right a (by omega);have h2:zR a (b:Int)∣b:=by
  have:=Int.gcd_dvd_right a (b:Int);exact Int.natCast_dvd_natCast.mp this
 have h3:=Nat.le_of_dvd (Nat.pos_of_ne_zero hb) h2
 omega
end
variable {s:Sm}{w:List Int}{q:Rat}
section
abbrev Sm:=List (List Int×Rat)
def ent(p:List Int×Rat):D×D:=(tp p.1,num p.2)
def av(s:Sm):D:=.dict (s.map ent)
noncomputable def kq(w:List Int):KQ:=.inl (w.map .inl)
theorem zgM:∀ w:List Int,kM (w.map zH)=some (w.map .inl)
 | []=>rfl
 | x::r=>by simp only[zE,kM,xK,zgM r,Option.bind_some,Bi]
theorem uL(w:List Int):keyOf (tp w)=some (kq w):=by
 show(kM (w.map zH)).map A6=_;rw[zgM];rfl
theorem zgL{v:List Int}(h:kq v=kq w):v=w:=by
 have:=Sum.inl.inj h;have:=congrArg (List.map (Sum.elim id fun _=>(0:Int))) this;simpa[A5,Hh] using this
theorem zgK(v w:List Int):decide (keyOf (tp v)=some (kq w))=decide (v=w):=by
 rw[uL]
 by_cases c:v=w
 ·subst c;simp
 ·rw[decide_eq_false c,decide_eq_false fun z=>c (zgL (Az z))]
noncomputable def fZ(s:Sm)(w:List Int):Option Rat:=(s.find? fun p=>decide (p.1=w)).map (·.2)
noncomputable def jf(s:Sm)(w:List Int)(q:Rat):Sm:=if(s.any fun p=>decide (p.1=w))=true then s.map fun p=>if p.1=w then(p.1,q) else p else s++[(w,q)]
theorem zgX(w:List Int):∀ s:Sm,look (s.map ent) (kq w)=(fZ s w).map num
 | []=>rfl
 | p::r=>by
  have ih:=zgX w r;unfold look fZ at ih ⊢;simp only[zE,CC];have e:decide (keyOf (ent p).1=some (kq w))=decide (p.1=w):=zgK p.1 w;rw[e];cases decide (p.1=w) with
  | true=>rfl
  | false=>exact ih
theorem zgI:∀ s:Sm,keysOk true (s.map ent)=true
 | []=>rfl
 | p::r=>by
  have ih:=zgI r;unfold keysOk at ih ⊢;rw[zE,FQ,ih,Bool.and_true];show(match keyOf (tp p.1) with|some q=>xa q==true|none=>false)=true;rw[uL];rfl
theorem zft(s:Sm)(w:List Int):dictAt (av s) (tp w)=.ok (s.map ent,kq w):=by
 show(R.of (keyOf (tp w))).bind _=_;rw[uL];exact aR (zgI s)
theorem zfr(s:Sm)(w:List Int):nC (av s) (tp w)=.ok ((fZ s w).map num):=by
 unfold nC;rw[zft,ah,zgX]
theorem zm4(s:Sm)(w:List Int):inD (tp w) (av s)=.ok (.bool (fZ s w).isSome):=by
 unfold inD;rw[zfr,ah];cases fZ s w <;> rfl
theorem qX(h:fZ s w=some q):h8 (av s) (tp w)=.ok (num q):=by
 unfold h8;rw[zfr,ah,h];rfl
theorem zep(w:List Int):∀ s:Sm,((s.map ent).any fun kv=>decide (keyOf kv.1=some (kq w)))=s.any fun p=>decide (p.1=w)
 | []=>rfl
 | p::r=>by
  simp only[zE,F4,zep w r];rw[show decide (keyOf (ent p).1=some (kq w))=decide (p.1=w) from zgK p.1 w]
theorem zre(s:Sm)(w:List Int)(q:Rat):vj (s.map ent) (tp w) (kq w) (num q)=(jf s w q).map ent:=by
 unfold vj jf;rw[zep]
 split
 ·rw[A5,A5]
  refine Er fun p _=>?_;show(if keyOf (tp p.1)=some (kq w) then((ent p).1,num q) else ent p)=ent (if p.1=w then(p.1,q) else p)
  by_cases c:p.1=w
  ·rw[if_pos c,if_pos (by rw[uL,c])];rfl
  ·rw[if_neg c,if_neg (fun z=>c (by rw[uL]at z;exact zgL (Az z)))]
 ·rw[DL];rfl
theorem zfx(h:s.length+1<=lim):qY (av s) (tp w) (num q)=.ok (av (jf s w q)):=by
 unfold qY;rw[zft,ah];show aN (leB ((s.map ent).length+1) lim) _=_;rw[aR (by rw[zL];exact jY h),zre];rfl
theorem zpB(r s:Rat):bR (num r) (num s)=.ok (.bool (!decide (r=s))):=by
 have e:decide (([r.num,(r.den:Int)]:List Int)=[s.num,(s.den:Int)])=decide (r=s):=by
  by_cases c:r=s
  ·subst c;simp
  ·rw[decide_eq_false c,decide_eq_false]
   intro z;simp only[Fh,and_true,Int.natCast_inj]at z;exact c (Rat.ext z.1 z.2)
 rw[<- e];exact zpm [r.num,(r.den:Int)] [s.num,(s.den:Int)]
def Nk(s:Sm):Prop:=(s.map (·.1)).Nodup
theorem qm:∀{s:Sm} {p:List Int×Rat},Nk s->p∈s->fZ s p.1=some p.2
 | [],p,_,h=>by simp at h
 | a::r,p,nk,h=>by
  unfold Nk at nk;rw[zE,Bm]at nk;unfold fZ;rw[CC];rcases zS.mp h with rfl|h
  ·simp
  ·have:a.1≠p.1:=fun z=>nk.1 (by rw[z];exact zZ.mpr ⟨p,h,rfl⟩)
   rw[decide_eq_false this];exact qm (s:=r) nk.2 h
theorem zsY(h:fZ s w=none):∀ p∈s,p.1≠w:=fun p hp z=>by
 unfold fZ at h;rw[HA,List.find?_eq_none]at h;exact h p hp (by simpa using z)
theorem zjW(s:Sm)(w:List Int):(s.any fun p=>decide (p.1=w))=(fZ s w).isSome:=by
 unfold fZ;rw[F5,List.isSome_find?]
theorem zs1(nk:Nk s):Nk (jf s w q):=by
 unfold jf;rw[zjW]
 split
 ·unfold Nk
  rw[A5];have:(fun p:List Int×Rat=>p.1)∘(fun p=>if p.1=w then(p.1,q) else p)=fun p=>p.1:=by
   funext p
   show(if p.1=w then(p.1,q) else p).1=p.1
   split <;> rfl
  rw[this];exact nk
 ·rename_i c
  have c':fZ s w=none:=by simpa using c
  unfold Nk;rw[DL,List.nodup_append];refine⟨nk,by simp,fun a ha b hb=>?_⟩;have:b=w:=by simpa using hb
  subst this;obtain⟨p,hp,rfl⟩:=zZ.mp ha;exact zsY c' p hp
theorem zs3{p:List Int×Rat}(h:p∈jf s w q):p∈s\/p=(w,q):=by
 unfold jf at h
 split at h
 ·obtain⟨x,hx,rfl⟩:=zZ.mp h
  by_cases c:x.1=w
  ·rw[if_pos c];right;rw[c]
  ·rw[if_neg c];exact .inl hx
 ·rcases AI.mp h with h|h
  ·exact .inl h
  ·exact .inr (by simpa using h)
theorem zs2(s:Sm)(w:List Int)(q:Rat):(jf s w q).length<=s.length+1:=by
 unfold jf
 split
 ·rw[zL];omega
 ·rw[AO];simp
end
variable {i:Nat}
section
theorem zkE{h:EF}{u u':D}(hi:ρ[i]?=some (.ow p d))(hf:f ρ=.ok (v,ρ))(hh:h ρ=.ok (u,ρ))(hF:F [d,v,u]=.ok (r,[d',v',u'])):aQ F [.m i,.v f,.v h] ρ=.ok (r,ρ.set i (.ow p d')):=by
 have hm:bg ρ i=.ok d:=by unfold bg;rw[hi]
 unfold aQ;simp only[eT,hm,ah,hf,hh,d7,hF];have:=wD (d:=d) (d':=d') (p:=p) ρ 0 i hi;rw[CD]at this;show R.ok (r,bY [(i,.ow true d')] 0 ρ)=_;rw[this]
theorem zn8(t:Sm):ip (av t)=.ok (t.map fun p=>tp p.1):=by
 show R.ok ((t.map ent).map (·.1))=_;rw[A5];rfl
end
variable {b:SF}
section
theorem dH{ds:List D}(hl:ds.length=k)(h:b (slots (zo k false) ds++zo (n-ds.length) .no)=.ok (.rt d,ρ)):bo false k n b ds=.ok d:=by
 unfold bo FL.run;rw[if_pos (by rw[CW];exact hl),h]
 rfl
theorem zdp{ds:List D}(hl:ds.length=k)(h:b (slots (zo k false) ds++zo (n-ds.length) .no)=.ok (.rf d,ρ)):bo true k n b ds=.ok d:=by
 unfold bo FL.run;rw[if_pos (by rw[CW];exact hl),h]
 rfl
noncomputable def kN(p:List Int×Rat):WK:=((p.1.length:Int),p.1)
def rM(x:List Int×Rat):Sm->Sm
 | []=>[x]
 | y::r=>if uO (kN y) (kN x)=true then y::rM x r else x::y::r
def gr:Sm->Sm
 | []=>[]
 | x::r=>rM x (gr r)
def nR(p:List Int×Rat):WK×D:=(kN p,tp p.1)
theorem zgo(x:List Int×Rat):∀ l:Sm,jX (nR x) (l.map nR)=(rM x l).map nR
 | []=>rfl
 | y::r=>by
  rw[zE];unfold jX rM;show(if uO (kN y) (kN x)=true then _ else _)=_
  split
  ·rw[zgo x r];rfl
  ·rfl
theorem zih:∀ l:Sm,nO (l.map nR)=(gr l).map nR
 | []=>rfl
 | x::r=>by
  show jX (nR x) (nO (r.map nR))=_;rw[zih r,zgo]
  rfl
theorem zgp(x:List Int×Rat):∀ l:Sm,(rM x l).Perm (x::l)
 | []=>.refl _
 | y::r=>by
  unfold rM
  split
  ·exact((zgp x r).cons y).trans (.swap x y r)
  ·exact .refl _
theorem kh:∀ l:Sm,(gr l).Perm l
 | []=>.refl _
 | x::r=>(zgp x _).trans ((kh r).cons x)
theorem zp7(w:List Int):pB [tp w]=.ok (.tuple [.int (w.length:Int),tp w]):=by
 have l2:leB 2 lim=true:=by decide
 have e:bz (tp w)=.ok (.int (w.length:Int)):=by
  show R.ok (zH ((w.map zH).length:Int))=_;rw[zL]
 have e3:zbG [.val (tp w)]=.ok (.rt (.tuple [.int (w.length:Int),tp w]),[.val (tp w)]):=by
  unfold zbG;simp only[ak,bq,aa,af,FL.e1,eV,ah,zz0,e,zB,zG,aR l2]
 exact dH (k:=1) (n:=1) (ds:=[tp w]) rfl e3
theorem zgH:∀ s:Sm,pU pB (s.map fun p=>tp p.1)=.ok (s.map kN)
 | []=>rfl
 | p::r=>by
  rw[zE];unfold pU;rw[zp7,ah];have:yS (.tuple [.int (p.1.length:Int),tp p.1])=some (kN p):=by
   show(intsOf (p.1.map zH)).map _=_;rw[zm9];rfl
  rw[this];show(pU pB (r.map fun p=>tp p.1)).bind _=_;rw[zgH r];rfl
theorem zdt(nk:Nk s)(hl:s.length<64):mS pB (av s)=.ok (.list ((gr s).map fun p=>tp p.1)):=by
 unfold mS;rw[zn8,ah,aR (jY (by rw[zL];exact hl)),zgH,ah];have nd:(s.map kN).Nodup:=by
  have h:∀ l:Sm,Nk l->(l.map kN).Nodup:=by
   intro l
   induction l with
   | nil=>intro _;exact E2
   | cons p r ih =>
    intro h;unfold Nk at h;rw[zE,Bm]at h;rw[zE,Bm];refine⟨fun z=>h.1 ?_,ih h.2⟩;obtain⟨q,hq,e⟩:=zZ.mp z;exact zZ.mpr ⟨q,hq,(Prod.mk.inj e).2⟩
  exact h s nk
 rw[aR (decide_eq_true nd)];have hz:(s.map kN).zip (s.map fun p=>tp p.1)=s.map nR:=by
  rw[List.zip_map'];rfl
 rw[hz,zih,A5]
 rfl
def gY(p:List Int×Rat):D:=.tuple [tp p.1,num p.2]
noncomputable def rj:R D->D
 | .ok d=>d
 | _=>.none
theorem zt2(nk:Nk s)(hl:s.length<64):vV [av s]=.ok (.list ((gr s).map gY)):=by
 have so:=zdt nk hl;have hlen:(gr s).length=s.length:=(kh s).length_eq;have q:xk [.val (av s)]=.ok (.list ((gr s).map gY),[.val (av s)]):=by
  unfold xk;rw[zaY (items:=(gr s).map fun p=>tp p.1) (fun x=>.tuple [x,rj (h8 (av s) x)])]
  ·rw[A5]
   congr 2
   congr 1
   refine Er fun p hp=>?_;have mp:p∈s:=(kh s).mem_iff.mp hp;show Es [tp p.1,rj (h8 (av s) (tp p.1))]=_;rw[qX (qm nk mp)];rfl
  ·simp only[iE,FL.e1,eV,ah,zz0,so,gE]
  ·rw[zL,hlen];unfold lim;omega
  ·intro x hx
   obtain⟨p,hp,rfl⟩:=zZ.mp hx;have mp:p∈s:=(kh s).mem_iff.mp hp;have d1:=qX (qm nk mp);have l2:leB 2 lim=true:=by decide
   refine⟨[.val (tp p.1),.val (av s)],rfl,?_,?_⟩
   ·simp only[bq,aa,af,FL.e2,eV,ah,zz0,zz1,d1,zB,zG,aR l2]
    rfl
   ·exact tZ (fun i p d e=>by
     revert e
     simp only[Br,Bs,AQ,Bf,zJ,Bu]
     split <;> (intro e;cases e)) _ 0
 show((lZ [.val (av s)]).bind _).bind _=_;unfold lZ ak;rw[q]
 rfl
end
section
def zbL:SF:=(qp (oA 3) (tB (e2 bR (eV 3) (eC (.int 0)))) (dq 2 3 (eV 3) (e2 fc (eV 2) (eV 3))))
def zbE:SF:=(ag (ax (gN 2) (e1 jN (eV 0)))
  (ag (ax (gN 3) (eV 1))
  (ag zbL
  (ak (bq (aa (e2 i5 (eV 0) (eV 2)) (aa (e2 i5 (eV 1) (eV 2)) af)))))))
def zai:List D->R D:=bo false 2 4 zbE
def zgd:EF:=(dB 1 [0] (iE (e1 (mS pB) (eV 0))) (gN 0) du (bq (aa (eV 0) (aa (e2 h8 (eV 1) (eV 0)) af))))
def zbF:SF:=(cX zgd)
def zdP:List D->R D:=bo true 1 1 zbF
end
variable {b:Nat}
section
theorem zg3(t:Int)(hb:b≠0)(hl:b<2^n)(hn:n<=90000000):zai [.int t,.int b]=.ok (.tuple [.int (Q1.fr t (b:Int)).1,.int (Q1.fr t (b:Int)).2]):=by
 have gS:=zmu (a:=t) hb hl;have s1:ax (gN 2) (FL.e1 jN (eV 0)) [.val (.int t),.val (.int b),.no,.no]=.ok (.nx,[.val (.int t),.val (.int b),.val (.int (t.natAbs:Int)),.no]):=by
  simp only[ax,FL.e1,eV,zz0,ah,zej,gN,zz1,zP,zO]
 have s2:ax (gN 3) (eV 1) [.val (.int t),.val (.int b),.val (.int (t.natAbs:Int)),.no]=.ok (.nx,[.val (.int t),.val (.int b),.val (.int (t.natAbs:Int)),.val (.int b)]):=rfl;have s3:zbL [.val (.int t),.val (.int b),.val (.int (t.natAbs:Int)),.val (.int b)]=.ok (.nx,[.val (.int t),.val (.int b),.val (.int ((zR t (b:Int):Nat):Int)),.val (.int 0)]):=by
  unfold zbL qp;have:oA 3 [.val (.int t),.val (.int b),.val (.int (t.natAbs:Int)),.val (.int b)]=b+1:=by
   show((b:Int)).natAbs+1=_;simp
  rw[this];exact zbH _ _ _ _ _ (by omega)
 have k1:i5 (.int t) (.int ((zR t (b:Int):Nat):Int))=.ok (.int (t / ((zR t (b:Int):Nat):Int))):=zfR gS.1 gS.2 hn;have k2:i5 (.int b) (.int ((zR t (b:Int):Nat):Int))=.ok (.int ((b:Int) / ((zR t (b:Int):Nat):Int))):=zfR gS.1 gS.2 hn;have l2:leB 2 lim=true:=by decide
 show((zbE [.val (.int t),.val (.int b),.no,.no]).bind _).bind _=_;unfold zbE;rw[aS s1,aS s2,aS s3];simp only[ak,bq,aa,FL.e2,eV,zz0,ah,zz1,k1,af,k2,zB,zG,Ab,aR l2,zo,outs,outD];rw[Q1.zbA (by omega)]
theorem zoV(t:Int)(hb:b≠0)(hl:b<2^n)(hn:n<=90000000):zai [.int t,.int b]=.ok (num (E4 t b hb)):=by
 rw[zg3 t hb hl hn,QR.norm hb]
 rfl
theorem lx0(a b:Int):aD (.tuple [.int a,.int b]) (.int 0)=.ok (.int a):=rfl
theorem lx1(a b:Int):aD (.tuple [.int a,.int b]) (.int 1)=.ok (.int b):=rfl
end
section
def told(s:Sm):D:=.list ((gr s).map gY)
theorem ztZ(nk:Nk s)(hl:s.length<64):zdP [av s]=.ok (told s):=by
 have h:=zt2 nk hl;cases e:xk [.val (av s)] with
 | bad =>
  have:vV [av s]=.bad:=by
   show((lZ [.val (av s)]).bind _).bind _=_;unfold lZ ak;rw[e];rfl
  rw[h]at this;cases this
 | err c f =>
  have:vV [av s]=.err c f:=by
   show((lZ [.val (av s)]).bind _).bind _=_;unfold lZ ak;rw[e];rfl
  rw[h]at this;cases this
 | ok x =>
  obtain⟨d,ρ'⟩:=x;have:vV [av s]=.ok d:=by
   show((lZ [.val (av s)]).bind _).bind _=_;unfold lZ ak;rw[e];rfl
  rw[h]at this;cases this;refine zdp (ρ:=ρ') rfl ?_;show zbF [.val (av s)]=_;unfold zbF cX;rw[show zgd [.val (av s)]=.ok _ from e]
  rfl
theorem zs4(h:∀ p∈s,p.1≠w):jf s w q=s++[(w,q)]:=by
 unfold jf;rw[if_neg];simp only[List.any_eq_true,decide_eq_true_eq,not_exists,not_and];exact h
end
section
structure Wok(c:Int)(p:List Int×Rat):Prop where
 ln:p.1.length<=5
 lt:∀ x∈p.1,0<=x/\x<c
 nz:p.2≠0
end
section
theorem zkD(hi:ρ[i]?=some (.ow p d))(hF:F [d]=.ok (r,[d'])):aQ F [.m i] ρ=.ok (r,ρ.set i (.ow p d')):=by
 have h:=jq (F:=fun l=>match l with | [a,b]=>(F [a]).bind fun y=>.ok (y.1,y.2++[b])|_=>.bad) (f:=eC .none) (v:=.none) (v':=.none) (r:=r) (d':=d') hi rfl (by show(F [d]).bind _=_;rw[hF];rfl);have hm:bg ρ i=.ok d:=by unfold bg;rw[hi]
 unfold aQ at h ⊢;simp only[eT,hm,ah,eC,d7,hF]at h ⊢;exact h
end
end FL
namespace K80
open PySem FL TX
variable {c n:Nat}{q:Rat}{x:dm}{i:Int}
def As(x:dm):Prop:=∀ c∈cp x,c<128
theorem As.app{a b:dm}(ha:As a)(hb:As b):As (a++b):=fun c hc=>by
 rw[bE]at hc;exact(AI.mp hc).elim (ha c) (hb c)
theorem eX(h:c<128):As (one c):=fun d hd=>by
 have:d=c:=by simpa[TX.cp] using hd
 subst this;exact h
theorem nh(i:Int):As (T i):=fun c hc=>by
 refine Nat.lt_of_not_le fun h=>pL c ⟨by omega,.inr (by omega)⟩ i hc
theorem zav{s:dm}(hs:As s):∀{l:List dm},(∀ x∈l,As x)->As (Ak s l)
 | [],_=>fun c hc=>absurd (show c∈([]:List Nat) from hc) (by simp)
 | [x],h=>h x (by simp)
 | x::y::r,h=>by
  rw[mE];exact((h x (by simp)).app hs).app (zav hs fun z hz=>h z (z0 _ hz))
theorem As.all(h:As x):x.cps.all (·<128)=true:=by
 rw[<- Gu];exact A3.mpr fun c hc=>decide_eq_true (h c hc)
theorem As.pl(h:As x):Pl 0 (.str x):=⟨by
 show HB (.str x)=true;unfold HB;show x.cps.all (·<0x110000)=true;rw[<- Gu];exact A3.mpr fun c hc=>decide_eq_true (Cp (h c hc) (by decide)),zr _⟩
theorem zfK(a b:dm):A0 (.str a) (.str b)=decide (a=b):=by
 have:A0 (.str a) (.str b)=(a==b):=by unfold A0;rfl
 rw[this]
 by_cases h:a=b
 ·subst h;simp
 ·simp[h]
def jC(q:Rat):dm:=if q.den=1 then T q.num else T q.num++one 47++T (q.den:Int)
def lF(w:List Int):dm:=if w=[] then one 101 else Ak (one 46) (w.map T)
def jF(p:List Int×Rat):dm:=jC p.2++one 58++lF p.1
def fq(l:Sm):dm:=if l=[] then one 48 else Ak (one 32) (l.map jF)
structure NB(q:Rat):Prop where
 top:q.num.natAbs<10^60
 bot:q.den<10^60
theorem zoS(h:n<10^60):leB (n.log2+1) 1920=true:=jY (by
 rcases Et n with z|z
 ·subst z;decide
 ·have:=(FT (by omega:n≠0)).mpr (AA h (by decide:10^60<=2^200))
  omega)
theorem str_int(h:i.natAbs<10^60):sM (.int i)=.ok (.str (T i)):=aR (zoS h)
theorem rW(h:i.natAbs<10^60):(T i).length<=61:=by
 by_cases c:i<0
 ·rw[zpn c,show(one 45++T (0-i)).length=1+(T (0-i)).length by rw[cO,bE,AO,<- cO,<- cO];rfl]
  obtain⟨n,e⟩:∃ n:Nat,0-i=(n:Int):=⟨(0-i).toNat,by omega⟩;rw[e];have:=len_T (n:=n) (k:=60) (by decide) (by omega)
  omega
 ·obtain⟨n,rfl⟩:∃ n:Nat,i=(n:Int):=⟨i.toNat,by omega⟩
  have:=len_T (n:=n) (k:=60) (by decide) (by omega)
  omega
theorem len_app(a b:dm):(a++b).length=a.length+b.length:=by rw[cO,bE,AO,<- cO,<- cO]
theorem len_num(h:NB q):(jC q).length<=123:=by
 unfold jC;have h1:=rW h.top
 split
 ·omega
 ·have h2:=rW (i:=(q.den:Int)) (by have:=h.bot;omega)
  rw[len_app,len_app];show _+1+_<=_
  omega
theorem zj0(q:Rat):As (jC q):=by
 unfold jC
 split
 ·exact nh _
 ·exact((nh _).app (eX (by decide))).app (nh _)
theorem cU(h:n<=1000000):leB n lim=true:=jY h
theorem zoR(h:NB q):zad [num q]=.ok (.str (jC q)):=by
 have f1:=str_int h.top;have f2:=str_int (i:=(q.den:Int)) (by have:=h.bot;omega);have l1:=rW h.top;have l2:=rW (i:=(q.den:Int)) (by have:=h.bot;omega);have e1:aK (.int (q.den:Int)) (.int 1)=.ok (.bool (decide ((q.den:Int)=1))):=gM _ _;have i0:aD (num q) (.int 0)=.ok (.int q.num):=rfl;have i1:aD (num q) (.int 1)=.ok (.int (q.den:Int)):=rfl;refine dH (ρ:=[.val (num q)]) rfl ?_;show wq [.val (num q)]=_;unfold wq jC
 by_cases c:q.den=1
 ·rw[decide_eq_true (by omega)]at e1
  rw[if_pos c];simp only[ag,ao,ak,tB,FL.e1,FL.e2,eV,eC,ah,zz0,i0,i1,e1,f1,if_true]
 ·rw[decide_eq_false (by omega)]at e1
  rw[if_neg c];have a1:c5 (.str (T q.num)) (.str (zj "/"))=.ok (.str (T q.num++one 47)):=aR (cU (by show _+1<=_;omega));have a2:c5 (.str (T q.num++one 47)) (.str (T (q.den:Int)))=.ok (.str (T q.num++one 47++T (q.den:Int))):=aR (cU (by rw[len_app];show _+1+_<=_;omega));simp only[ag,ao,ak,aw,tB,FL.e1,FL.e2,eV,eC,ah,zz0,i0,i1,e1,f1,f2,a1,a2,zm,if_false]
end K80
namespace FL
open PySem
end FL
namespace MD
section
abbrev Rw:=Nat->Int
noncomputable def ex(f:List Nat->Int)(w:Rw):List Nat->List Nat->Int
 | _,[]=>0
 | pre,c::cs=>w c*f (pre++cs)-ex f w (pre++[c]) cs
noncomputable def Sp:List Rw->Rw->Prop
 | [],v=>∀ j,v j=0
 | w::ws,v=>∃(a:Int) (z:Rw),Sp ws z/\∀ j,v j=a*w j+z j
end
section
noncomputable def fn(xs:List Int):Rw:=fun j=>xs.getD j 0
end
section
abbrev zjL:=List (Nat×List Int)
end
section
end
section
end
section
end
end MD
namespace FL
open PySem MD
variable {f:EF}{cs ρ:En}{α:Type}{g:GF}{k:Nat}{it:IF}{ix:List Nat}{t:TF}
theorem zaQ{α:Type}{f0:α->D}{k:Nat}{ix:List Nat}{g:GF}{t:TF}{f:EF}{ρ:En}(P:α->Bool)(h:α->D):∀(xs:List α) (acc:List D),acc.length+xs.length<=lim ->
  (∀ x∈xs,∃ β,g (f0 x) (cg k ix ρ)=.ok β/\t β=.ok (P x,β)/\(P x=true->f β=.ok (h x,β))/\back ρ ix (β.drop k)=ρ)->iH k ix g t f (xs.map f0) ρ acc=.ok (acc++(xs.filter P).map h,ρ)
 | [],acc,_,_=>by simp[iH]
 | x::xs,acc,hl,hx=>by
  obtain⟨β,h1,h2,h3,h4⟩:=hx x (Au ..);have rest:=fun y m=>hx y (z0 x m);simp only[zB]at hl;rw[zE];unfold iH;rw[h1,ah,h2,ah];cases c:P x with
  | true =>
   rw[if_pos rfl,h3 c,ah,aR (jY (by omega)),h4,zaQ P h xs _ (by simp;omega) rest,Hv c];simp
  | false =>
   rw[if_neg (by simp),h4,zaQ P h xs acc (by omega) rest,Hw (by simp[c])]
theorem zlT{f0:α->D}{xs:List α}(P:α->Bool)(h:α->D)(hi:it ρ=.ok (xs.map f0,ρ))(hl:xs.length<=lim)
  (hx:∀ x∈xs,∃ β,g (f0 x) (cg k ix ρ)=.ok β/\t β=.ok (P x,β)/\(P x=true->f β=.ok (h x,β))/\back ρ ix (β.drop k)=ρ):dB k ix it g t f ρ=.ok (.list ((xs.filter P).map h),ρ):=by
 unfold dB;rw[hi,ah,zaQ P h xs [] (by simpa using hl) hx]
 rfl
theorem q8{f0:α->D}{xs:List α}(h:α->D)(hi:it ρ=.ok (xs.map f0,ρ))(hl:xs.length<=lim)
  (hx:∀ x∈xs,∃ β,g (f0 x) (cg k ix ρ)=.ok β/\f β=.ok (h x,β)/\back ρ ix (β.drop k)=ρ):dB k ix it g du f ρ=.ok (.list (xs.map h),ρ):=by
 rw[zlT (fun _=>true) h hi hl fun x m=>by
  obtain⟨β,h1,h2,h3⟩:=hx x m;exact⟨β,h1,rfl,fun _=>h2,h3⟩]
 rw[Hx.mpr (fun _ _=>rfl)]
noncomputable def pC:En->Prop
 | []=>True
 | .ow _ _::_=>False
 | _::r=>pC r
theorem pC.look:∀{ix:List Nat} {cs:En},pC cs->∀ i p d,(ix.zip cs).lookup i≠some (.ow p d)
 | [],_,_,i,p,d,z=>by simp at z
 | _::_,[],_,i,p,d,z=>by simp at z
 | j::ix,c::cs,h,i,p,d,z=>by
  have hr:pC cs:=by cases c <;> first|exact h|exact h.elim
  rw[AQ,zJ]at z
  split at z
  ·cases z;exact h
  ·exact pC.look hr i p d z
theorem qS(h:pC cs):back ρ ix cs=ρ:=tZ (pC.look h) _ _
noncomputable def IR(xs:List Int):D:=.list (xs.map zH)
def zmN(e:Nat×List Int):D×D:=(.int e.1,IR e.2)
def hD(held:zjL):D:=.dict (held.map zmN)
end FL
namespace K80
open PySem FL TX
variable {p:List Int×Rat}{B c:Nat}{l:List dm}{w:List Int}
section
theorem zdz{B:Nat}:∀{l:List Nat},(∀ x∈l,x<=B)->l.sum<=l.length*B
 | [],_=>by simp
 | x::r,h=>by
  have:=zdz fun y hy=>h y (z0 _ hy);have h0:=h x (by simp);rw[List.sum_cons,zB,Nat.add_mul]
  omega
theorem zis:∀ l:List dm,strsOf (l.map zg)=some l
 | []=>rfl
 | x::r=>by simp only[zE,strsOf,zis r,Bi]
theorem zcr(h:∀ x∈l,x.length<=B)(hl:l.length<=1000)(hB:B<=10000):uJ (one c) (.list (l.map zg))=.ok (.str (Ak (one c) l)):=by
 show(R.of (strsOf (l.map zg))).bind _=_;rw[zis];have s:=zdz (B:=B) (l:=l.map (·.length)) fun x hx=>by
  obtain⟨y,hy,rfl⟩:=zZ.mp hx;exact h y hy
 rw[zL]at s;have m:l.length*B<=1000*10000:=Nat.mul_le_mul hl hB;have j:JoinOk (one c) l=true:=PyProof.Rows.joinOk_of (by show _+l.length*1<=_;omega);show aN (JoinOk (one c) l) (R.ok (zg (Fe (one c) l)))=_;rw[aR j,show Fe (one c) l=Ak (one c) l from StrLaws.glued_eq_join _ _]
theorem zgC(h:∀ x∈l,x.length<=B)(hl:l.length<=1000)(hB:B<=10000):(Ak (one c) l).length<=l.length*(B+1):=by
 have s:=zdz (B:=B) (l:=l.map (·.length)) fun x hx=>by
  obtain⟨y,hy,rfl⟩:=zZ.mp hx;exact h y hy
 rw[zL]at s;have:=StrLaws.join_length_le (one c) l;rw[Nat.mul_add];have e:l.length*(one c).length=l.length*1:=rfl
 omega
structure WB(w:List Int):Prop where
 len:w.length<=5
 ltr:∀ x∈w,0<=x/\x<6
theorem WB.big(h:WB w):∀ x∈w,x.natAbs<10^60:=fun x hx=>by
 have:=h.ltr x hx;have:x.natAbs<6:=by omega
 exact Cp this (by decide)
theorem zj2(w:List Int):As (lF w):=by
 unfold lF
 split
 ·exact eX (by decide)
 ·exact zav (eX (by decide)) fun x hx=>by
   obtain⟨i,_,rfl⟩:=zZ.mp hx;exact nh i
theorem zi5(h:WB w):(lF w).length<=310:=by
 unfold lF
 split
 ·show 1<=310;decide
 ·have:=zgC (c:=46) (B:=61) (l:=w.map T) (fun x hx=>by
   obtain⟨i,hi,rfl⟩:=zZ.mp hx;exact rW (h.big i hi)) (by rw[zL];have:=h.len;omega) (by decide)
  rw[zL]at this;have m:w.length*(61+1)<=5*62:=Nat.mul_le_mul h.len (zr _)
  omega
theorem zo1(h:WB w):zaf [tp w]=.ok (.str (lF w)):=by
 refine dH (ρ:=[.val (tp w)]) rfl ?_;show wA [.val (tp w)]=_;unfold wA lF;have l0:leB 0 lim=true:=by decide
 cases w with
 | nil=>rfl
 | cons x r =>
  rw[if_neg (by simp)];have e1:aK (tp (x::r)) (.tuple [])=.ok (.bool false):=by
   have:=zlZ (x::r) [];rw[decide_eq_false (by simp)]at this;exact this
  have q:yw [.val (tp (x::r))]=.ok (.list (((x::r).map T).map zg),[.val (tp (x::r))]):=by
   unfold yw;rw[q8 (f0:=zH) (xs:=x::r) (fun i=>.str (T i)) rfl (by have:=h.len;show _<=1000000;omega) fun i mi=>?_]
   ·rw[A5];rfl
   ·exact⟨[.val (.int i)],rfl,by simp only[FL.e1,eV,zz0,ah,str_int (h.big i mi)],qS trivial⟩
  have jn:=zcr (c:=46) (B:=61) (l:=(x::r).map T) (fun y hy=>by
   obtain⟨i,hi,rfl⟩:=zZ.mp hy;exact rW (h.big i hi)) (by rw[zL];have:=h.len;omega) (by decide)
  have so:strOf (.str (zj "."))=.ok (one 46):=rfl;simp only[ag,ao,ak,aw,tB,FL.e2,bq,af,bt,eV,eC,zz0,ah,zG,aR l0,e1,zm,if_false,so,q,jn]
theorem vh(r:Rat):Pl 1 (num r):=ye fun d h=>by
 simp only[zS,CB,or_false]at h;rcases h with rfl|rfl <;> exact mK _
theorem zqI(p:List Int×Rat):Pl 2 (gY p):=ye fun d m=>by
 simp only[zS,CB,or_false]at m;rcases m with rfl|rfl
 ·exact vi _
 ·exact vh _
theorem zc5(l:Sm):Pl 3 (.list (l.map gY)):=yd fun d m=>by
 obtain⟨p,_,rfl⟩:=zZ.mp m;exact zqI p
structure TB(p:List Int×Rat):Prop where
 w:WB p.1
 n:NB p.2
theorem ziF(h:TB p):(jF p).length<=434:=by
 unfold jF;rw[len_app,len_app];have h1:=len_num h.n;have h2:=zi5 h.w;show _+1+_<=_
 omega
theorem zj1(p:List Int×Rat):As (jF p):=((zj0 _).app (eX (by decide))).app (zj2 _)
theorem zoZ{l:Sm}(h:∀ p∈l,TB p)(hl:l.length<=100):vO [.list (l.map gY)]=.ok (.str (fq l)):=by
 refine dH (ρ:=[.val (.list (l.map gY))]) rfl ?_;show wz [.val (.list (l.map gY))]=_;unfold wz fq;have l0:leB 0 lim=true:=by decide
 cases l with
 | nil=>rfl
 | cons p r =>
  rw[if_neg (by simp)];have e1:aK (.list ((p::r).map gY)) (.list [])=.ok (.bool false):=(rg (zc5 (p::r)) (zc5 [])).trans rfl;have q:yv [.val (.list ((p::r).map gY))]=.ok (.list (((p::r).map jF).map zg),[.val (.list ((p::r).map gY))]):=by
   unfold yv;rw[q8 (f0:=gY) (xs:=p::r) (fun i=>.str (jF i)) rfl (by show _<=1000000;omega) fun i mi=>?_]
   ·rw[A5];rfl
   ·refine⟨[.val (tp i.1),.val (num i.2)],rfl,?_,qS trivial⟩
    have nt:=zoR (h i mi).n;have wt:=zo1 (h i mi).w;have l1:=len_num (h i mi).n;have l2:=zi5 (h i mi).w;have a1:c5 (.str (jC i.2)) (.str (zj ":"))=.ok (.str (jC i.2++one 58)):=aR (cU (by show _+1<=_;omega));have a2:c5 (.str (jC i.2++one 58)) (.str (lF i.1))=.ok (.str (jF i)):=aR (cU (by rw[len_app];show _+1+_<=_;omega));simp only[FL.e2,az,aa,af,eV,eC,ah,zz0,zz1,nt,wt,a1,a2]
  have jn:=zcr (c:=32) (B:=434) (l:=(p::r).map jF) (fun y hy=>by
   obtain⟨i,hi,rfl⟩:=zZ.mp hy;exact ziF (h i hi)) (by rw[zL];omega) (by decide)
  have so:strOf (.str (zj " "))=.ok (one 32):=rfl;simp only[ag,ao,tB,FL.e2,bc,af,ak,aw,bt,eV,eC,zz0,ah,zG,aR l0,e1,zm,if_false,so,q,jn]
end
variable {α:Type}{q:Rat}{i n:Nat}{a b:dm}
section
theorem zgl(h:48<=c/\c<=57):rL (.str (L2.gy c)) (.str (zj "0123456789"))=.ok (.bool true):=by
 have key:(Bx (zj "0123456789") (L2.gy c) 0 (zj "0123456789").length 1).isEmpty=false:=by
  rcases StrLaws.occ_head (zj "0123456789") (one c) 1 (zr _) with⟨_,n⟩|⟨i,r,e,_⟩
  ·refine absurd (tU.mpr ?_) (n (c-48))
   have:c=48\/c=49\/c=50\/c=51\/c=52\/c=53\/c=54\/c=55\/c=56\/c=57:=by omega
   rcases this with z|z|z|z|z|z|z|z|z|z <;> subst z <;> rfl
  ·show(Bx (zj "0123456789") (one c) 0 (zj "0123456789").length 1).isEmpty=false
   rw[e];rfl
 show R.ok (Bb (!_))=_;rw[key]
 rfl
theorem eq_str(ha:As a)(hb:As b):aK (.str a) (.str b)=.ok (.bool (decide (a=b))):=by rw[rg ha.pl hb.pl,zfK]
theorem ne_str(ha:As a)(hb:As b):bR (.str a) (.str b)=.ok (.bool (!decide (a=b))):=by rw[uW ha.pl hb.pl,zfK]
theorem zeh:T 0=one 48:=by
 refine ext ?_;have:=nB 0;rw[show((0:Nat):Int)=0 from rfl]at this;rw[this]
 rfl
theorem ni{xs:List α}(h:i<xs.length):bX xs (i:Int)=xs[i]?:=by
 unfold bX fJ;rw[if_pos (by omega),if_pos (by omega)];simp
theorem read_whole(h:n<10^9):ko [.str (T (n:Int))]=.ok (.int n):=by
 have l9:=len_T (n:=n) (k:=9) (by decide) h;have l1:1<=(T (n:Int)).length:=by
  rw[cO];cases e:cp (T (n:Int)) with
  | nil=>exact absurd e (ne_T n)
  | cons _ _=>simp
 have ll:e7 (.str (T (n:Int)))=.ok (.int ((T (n:Int)).length:Int)):=aR (cU (by omega));have c1:jb (.int 1) (.int ((T (n:Int)).length:Int))=.ok (.bool true):=by rw[rV,decide_eq_true (by omega)]
 have c2:jb (.int ((T (n:Int)).length:Int)) (.int 9)=.ok (.bool true):=by rw[rV,decide_eq_true (by omega)]
 have sg:zdr (.str (T (n:Int)))=.ok ((cp (T (n:Int))).map fun c=>.str (L2.gy c)):=aR (nh _).all;have q:qg [.val (.str (T (n:Int)))]=.ok (.list ((cp (T (n:Int))).map fun _=>Bb true),[.val (.str (T (n:Int)))]):=by
  unfold qg;rw[q8 (f0:=fun c=>zg (L2.gy c)) (xs:=cp (T (n:Int))) (fun _=>.bool true) (by simp only[iT,eV,zz0,ah,sg]) (by rw[<- cO];show _<=1000000;omega) fun c mc=>?_];exact⟨[.val (.str (L2.gy c))],rfl,by simp only[FL.e2,eV,eC,zz0,ah,zgl (wR n c mc)],qS trivial⟩
 have al:tP (.list ((cp (T (n:Int))).map fun _=>Bb true))=.ok (.bool true):=by
  have:=zem ((cp (T (n:Int))).map fun _=>true);rw[A5]at this;rw[show(cp (T (n:Int))).map (fun _=>Bb true)=(cp (T (n:Int))).map (Bb∘fun _=>true) from rfl,this];simp
 obtain⟨c0,r0,e0⟩:∃ c r,cp (T (n:Int))=c::r:=by
  cases e:cp (T (n:Int)) with
  | nil=>exact absurd e (ne_T n)
  | cons c r=>exact⟨c,r,rfl⟩
 have hc0:=wR n c0 (by rw[e0];simp);have ix:iM (.str (T (n:Int))) (.int 0)=.ok (.str (one c0)):=by
  show aN _ _=_;rw[aR (cU (by omega)),show(T (n:Int)).cps.toList=c0::r0 from e0,show FL.bX (c0::r0) 0=some c0 from(ni (xs:=c0::r0) (i:=0) (by simp)).trans rfl]
  rfl
 have q1:=eq_str (a:=one c0) (b:=one 48) (eX (by omega)) (eX (by decide));have q2:=ne_str (a:=T (n:Int)) (b:=one 48) (nh _) (eX (by decide));have iv:rN (.str (T (n:Int)))=.ok (.int n):=by
  show aN _ _=_;rw[aR (jY (by omega)),HC (GA n) (by have:n<10^10:=Cp h (by decide);omega)]
  rfl
 refine dH (ρ:=[.val (.str (T (n:Int)))]) rfl ?_;show qR [.val (.str (T (n:Int)))]=_;have s1:ao (FL.aB (FL.bI (tB (fS jb jb (eC (.int 1)) (e1 e7 (eV 0)) (eC (.int 9))))) (FL.bI (tE (e1 tP qg)))) (ak (eC .none)) aw [.val (.str (T (n:Int)))]=.ok (.nx,[.val (.str (T (n:Int)))]):=by
  simp only[ao,FL.aB,FL.bI,tB,tE,fS,FL.e1,eV,eC,aw,ah,zz0,ll,c1,c2,q,al,cH,Aa,zm,if_false,if_true]
 have s2:ao (FL.bT (tB (e2 aK (e2 iM (eV 0) (eC (.int 0))) (eC (.str (zj "0"))))) (tB (e2 bR (eV 0) (eC (.str (zj "0")))))) (ak (eC .none)) aw [.val (.str (T (n:Int)))]=.ok (.nx,[.val (.str (T (n:Int)))]):=by
  have o1:zj "0"=one 48:=rfl;rw[o1];rcases Et n with z|z
  ·subst z
   have t0:T ((0:Nat):Int)=one 48:=zeh;rw[t0,decide_eq_true rfl]at q2;rw[t0]at e0 ix;have:c0=48:=by
    have e1:[48]=c0::r0:=e0;cases e1;rfl
   subst this;rw[decide_eq_true rfl]at q1;rw[t0];simp only[ao,FL.bT,tB,FL.e2,eV,eC,aw,ah,zz0,ix,q1,q2,Aa,zm,if_false,if_true]
  ·have cB:=zgh z c0 r0 e0
   rw[decide_eq_false (fun z=>cB (by have:=congrArg TX.cp z;simpa[TX.cp] using this))]at q1;simp only[ao,FL.bT,tB,FL.e2,eV,eC,aw,ah,zz0,ix,q1,zm,if_false]
 unfold qR;rw[aS s1];refine(aS s2).trans ?_;simp only[ak,FL.e1,eV,ah,zz0,iv]
theorem ztr(x:dm)(c:Nat):Ek x (one c)=decide ((TX.cp x)[0]?=some c):=by
 rw[Ec,decide_eq_true_iff,<- StrLaws.subAt_one x c 0];unfold Ek;rw[zX,decide_eq_true_iff]
theorem mB{i:Int}:eI (.int i) .none=.ok (.bool false):=rfl
structure NS(q:Rat):Prop where
 top:q.num.natAbs<10^9
 bot:q.den<10^9
theorem NS.nb(h:NS q):NB q:=⟨Cp h.top (by decide),Cp h.bot (by decide)⟩
end
section
theorem zbB{c:Nat}{s:dm}(hs:c∉TX.cp s):∀{l:List dm},(∀ x∈l,c∉TX.cp x)->c∉TX.cp (Ak s l)
 | [],_=>fun z=>absurd (show c∈([]:List Nat) from z) (by simp)
 | [x],h=>h x (by simp)
 | x::y::r,h=>by
  rw[mE,bE,bE];intro z;rcases AI.mp z with z|z
  ·rcases AI.mp z with z|z
   ·exact h x (by simp) z
   ·exact hs z
  ·exact zbB hs (fun w hw=>h w (z0 _ hw)) z
theorem ui{d:Nat}(h:c≠d):c∉TX.cp (one d):=by
 intro z;exact h (by simpa[TX.cp] using z)
theorem zmj(hc:c≠45/\(c<48\/57<c))(h1:c≠46)(h2:c≠101):c∉TX.cp (lF w):=by
 unfold lF
 split
 ·exact ui h2
 ·exact zbB (ui h1) fun x hx=>by
   obtain⟨i,_,rfl⟩:=zZ.mp hx;exact pL c hc i
theorem zmh(hc:c≠45/\(c<48\/57<c))(h1:c≠47):c∉TX.cp (jC q):=by
 unfold jC
 split
 ·exact pL c hc _
 ·rw[bE,bE]
  intro z;rcases AI.mp z with z|z
  ·rcases AI.mp z with z|z
   ·exact pL c hc _ z
   ·exact ui h1 z
  ·exact pL c hc _ z
theorem zmi(hc:c≠45/\(c<48\/57<c))(h1:c≠46)(h2:c≠101)(h3:c≠47)(h4:c≠58):c∉TX.cp (jF p):=by
 unfold jF;rw[bE,bE];intro z;rcases AI.mp z with z|z
 ·rcases AI.mp z with z|z
  ·exact zmh hc h3 z
  ·exact ui h4 z
 ·exact zmj hc h1 h2 z
end
variable {ρ:En}{c:Int}{x y:Sl}{a b:D}{j:Nat}
section
theorem gT2(hx:ρ[i]?=some x)(hy:ρ[j]?=some y)(eh:i≠j)(nx:Np x)(ny:Np y):gT [gN i,gN j] (.tuple [a,b]) ρ=.ok ((ρ.set i (.val a)).set j (.val b)):=by
 show((gN i a ρ).bind fun ρ1=>(gN j b ρ1).bind fun ρ2=>.ok ρ2)=_;rw[gB hx nx,ah,gB (x:=y) (by rw[z9 eh];exact hy) ny]
 rfl
theorem gT3{k:Nat}{c:D}{z:Sl}(hx:ρ[i]?=some x)(hy:ρ[j]?=some y)(hz:ρ[k]?=some z)(eh:i≠j)(hik:i≠k)(hjk:j≠k)(nx:Np x)(ny:Np y)(nz:Np z):gT [gN i,gN j,gN k] (.tuple [a,b,c]) ρ=.ok (((ρ.set i (.val a)).set j (.val b)).set k (.val c)):=by
 show((gN i a ρ).bind fun ρ1=>(gN j b ρ1).bind fun ρ2=>(gN k c ρ2).bind fun ρ3=>.ok ρ3)=_;rw[gB hx nx,ah,gB (x:=y) (by rw[z9 eh];exact hy) ny,ah,gB (x:=z) (by rw[z9 hjk,z9 hik];exact hz) nz]
 rfl
structure RT(c:Int)(p:List Int×Rat):Prop where
 ok:Wok c p
 ns:NS p.2
theorem RT.wb(h:RT c p)(hc:c<=6):WB p.1:=⟨h.ok.ln,fun x hx=>⟨(h.ok.lt x hx).1,by have:=(h.ok.lt x hx).2;omega⟩⟩
theorem RT.tb(h:RT c p)(hc:c<=6):TB p:=⟨h.wb hc,h.ns.nb⟩
theorem zt1:vR=zdP:=rfl
end
variable {d:D}
section
theorem eq_self(h:Pl n d)(hn:n<=64:=by decide):aK d d=.ok (.bool true):=by
 rw[rg h h hn hn,SeqAt.eqv_refl d h.1]
theorem znh(l:List D):jy "list" (.list l)=.ok (.bool true):=rfl
end
end K80
namespace FL
open PySem
variable {d:D}
theorem ztV{k b:Nat}(h:dM k d)(hk:k<=60000)(m:Int)(mr:1<=m)(gk:Bd m b)(hb:b<=1000):∃ g d',pA [d,.int m]=.ok (.int g,[d',.int m])/\0<=g/\g<m/\dM (k+1) d':=by
 obtain⟨n,c,s,rfl,h1,h2,h3⟩:=h;have i0:∀ x y z:D,bX [x,y,z] 0=some x:=fun _ _ _=>rfl;have i1:∀ x y z:D,bX [x,y,z] 1=some y:=fun _ _ _=>rfl;have i2:∀ x y z:D,bX [x,y,z] 2=some z:=fun _ _ _=>rfl;have j0:fJ 3 0=some 0:=rfl;have j1:fJ 3 1=some 1:=rfl;have ie:dD (.int n) (.int m)=.ok (.bool (decide (n<m))):=rfl;have hd:∀ i:Int,i5 (.int i) (.int m)=.ok (.int (i.fdiv m)):=fun i=>zfQ (by omega) gk (by omega);have hm:∀ i:Int,fc (.int i) (.int m)=.ok (.int (i.fmod m)):=fun i=>rX (by omega);have gd:∀ i:Int,0<=i->0<=i.fdiv m:=fun i hi=>Int.fdiv_nonneg hi (by omega)
 by_cases hn:n<m
 ·rw[decide_eq_true hn]at ie
  have hc:(c+1).natAbs<65536:=by omega
  have x1:=jA (i:=11) (d8 (by decide)) (d8 hc) (by decide);have xb:=((d8 (i:=11) (by decide)).mul (d8 hc)).add (d8 (i:=5) (by decide));have x2:=zcI s (11*(c+1)+5) xb (by decide);have x3:=jA gk (zhe s (11*(c+1)+5)) (by omega);have nn:0<=n+m*jZ s (11*(c+1)+5):=Int.add_nonneg h1 (Int.mul_nonneg (by omega) (zcH _ _));refine⟨(n+m*jZ s (11*(c+1)+5)).fmod m,.list [.int ((n+m*jZ s (11*(c+1)+5)).fdiv m),.int (c+1),.int s],?_,DN _ (by omega),Ep _ (by omega),_,_,_,rfl,gd _ nn,by omega,by omega⟩;simp only[pA,tY,FL.run,bo,slots,outs,outD,zo,zB,zG,ak,ag,ao,ax,sE,aw,bx,fj,fN,cX,lr,lu,dq,lh,lq,iu,eC,eV,FL.e1,FL.e2,gi,kE,iJ,fT,fS,af,aa,bq,bc,az,kF,bK,bL,kG,bg,eB,m1,m2,e8,kP,kT,kR,tE,tB,FL.bT,FL.aB,FL.bI,tM,du,gN,gT,ee,lC,lD,setM,dE,ku,ah,ky,kz,zz0,zz1,zO,zP,Aw,Ap,BH,B5,zm,if_false,if_true,Bj,Bq,Ab,reduceCtorEq,aH,dI,aD,iw,bz,cH,kO,gu,aQ,eT,d7,iZ,dS,bY,cf,zJ,Bu,cg,back,AQ,Bf,BP,zE,Bg,Br,Bs,B6,BD,dZ,iE,gE,Aa,Aq,iD,ip,gj,kC,kQ,e3,eL,kB,k9,fH,kL,k8,sG,R.of,i0,i1,i2,j0,j1,ie,x1,x2,x3,hd,hm]
 ·rw[decide_eq_false hn]at ie
  refine⟨n.fmod m,.list [.int (n.fdiv m),.int c,.int s],?_,DN _ (by omega),Ep _ (by omega),_,_,_,rfl,gd _ h1,by omega,by omega⟩;simp only[pA,tY,FL.run,bo,slots,outs,outD,zo,zB,zG,ak,ag,ao,ax,sE,aw,bx,fj,fN,cX,lr,lu,dq,lh,lq,iu,eC,eV,FL.e1,FL.e2,gi,kE,iJ,fT,fS,af,aa,bq,bc,az,kF,bK,bL,kG,bg,eB,m1,m2,e8,kP,kT,kR,tE,tB,FL.bT,FL.aB,FL.bI,tM,du,gN,gT,ee,lC,lD,setM,dE,ku,ah,ky,kz,zz0,zz1,zO,zP,Aw,Ap,BH,B5,zm,if_false,if_true,Bj,Bq,Ab,reduceCtorEq,aH,dI,aD,iw,bz,cH,kO,gu,aQ,eT,d7,iZ,dS,bY,cf,zJ,Bu,cg,back,AQ,Bf,BP,zE,Bg,Br,Bs,B6,BD,dZ,iE,gE,Aa,Aq,iD,ip,gj,kC,kQ,e3,eL,kB,k9,fH,kL,k8,sG,R.of,i0,i1,i2,j0,j1,ie,hd,hm]
end FL
namespace K80
open PySem FL TX
variable {b c:Int}{k:Nat}{d:D}
section
theorem ziD:bD=pA:=rfl
theorem zoU:lI=zai:=rfl
theorem iy(h:dM k d)(hk:k<=60000)(m:Int)(mr:1<=m)(gk:m.natAbs<65536):∃ g d',bD [d,.int m]=.ok (.int g,[d',.int m])/\0<=g/\g<m/\dM (k+1) d':=by
 rw[ziD];exact ztW h hk m mr gk
theorem ziC{b:Nat}(h:dM k d)(hk:k<=60000)(m:Int)(mr:1<=m)(gk:Bd m b)(hb:b<=1000):∃ g d',bD [d,.int m]=.ok (.int g,[d',.int m])/\0<=g/\g<m/\dM (k+1) d':=by
 rw[ziD];exact ztV h hk m mr gk hb
theorem zg4(t:Int)(hb:1<=b)(hl:b<2^300):∃ r:Rat,lI [.int t,.int b]=.ok (num r)/\r.num.natAbs<=t.natAbs/\r.den<=b.toNat/\(t≠0->r≠0):=by
 have b0:b.toNat≠0:=by omega
 have e:((b.toNat:Nat):Int)=b:=by omega
 have h1:=QR.norm (t:=t) b0;have h2:=QR.zmg t (b.toNat:Int);rw[h1]at h2;refine⟨E4 t b.toNat b0,?_,h2.1,h2.2,fun h z=>h ?_⟩
 ·rw[zoU,<- zoV t b0 (n:=300) (by omega) (by decide),e]
 ·exact(Rat.normalize_eq_zero b0).mp z
theorem nine(h:dM k d)(hk:k<=50000):∃(r:Rat) (d':D),lJ [d]=.ok (num r,[d'])/\NS r/\dM (k+3) d':=by
 obtain⟨w,d1,t1,w0,w5,p1⟩:=iy h (by omega) 6 (by decide) (by decide);have gQ:dD (.int w) (.int 3)=.ok (.bool (decide (w<3))):=nU _ _;have xN:dD (.int w) (.int 5)=.ok (.bool (decide (w<5))):=nU _ _
 by_cases c1:w<3
 ·have l3:leB 3 lim=true:=by decide
  have l2:leB 2 lim=true:=by decide
  have ng:iN (.int 1)=.ok (.int (-1)):=rfl;have c:w=0\/w=1\/w=2:=by omega
  rw[decide_eq_true c1]at gQ;rcases c with rfl|rfl|rfl
  ·refine⟨0,d1,?_,⟨by decide,by decide⟩,p1.mono (by omega)⟩
   simp only[lJ,pF,FL.run,bo,slots,outs,outD,zo,zB,zG,ak,ag,ao,ax,sE,aw,bx,fj,fN,cX,lr,lu,dq,lh,lq,iu,eC,eV,FL.e1,FL.e2,gi,kE,iJ,fT,fS,af,aa,bq,bc,az,kF,bK,bL,kG,bg,eB,m1,m2,e8,kP,kT,kR,tE,tB,FL.bT,FL.aB,FL.bI,tM,du,gN,gT,ee,lC,lD,setM,dE,ku,ah,ky,kz,zz0,zz1,zO,zP,Aw,Ap,BH,B5,zm,if_false,if_true,Bj,Bq,Ab,reduceCtorEq,dI,iw,bz,cH,kO,gu,aQ,eT,d7,iZ,dS,bY,cf,zJ,Bu,cg,back,AQ,Bf,BP,zE,Bg,Br,Bs,B6,BD,dZ,iE,gE,Aa,Aq,iD,ip,gj,kC,kQ,e3,eL,kB,k9,fH,kL,t1,gQ,ng,aR l2,aR l3,zB,zG]
   rfl
  ·refine⟨1,d1,?_,⟨by decide,by decide⟩,p1.mono (by omega)⟩
   simp only[lJ,pF,FL.run,bo,slots,outs,outD,zo,zB,zG,ak,ag,ao,ax,sE,aw,bx,fj,fN,cX,lr,lu,dq,lh,lq,iu,eC,eV,FL.e1,FL.e2,gi,kE,iJ,fT,fS,af,aa,bq,bc,az,kF,bK,bL,kG,bg,eB,m1,m2,e8,kP,kT,kR,tE,tB,FL.bT,FL.aB,FL.bI,tM,du,gN,gT,ee,lC,lD,setM,dE,ku,ah,ky,kz,zz0,zz1,zO,zP,Aw,Ap,BH,B5,zm,if_false,if_true,Bj,Bq,Ab,reduceCtorEq,dI,iw,bz,cH,kO,gu,aQ,eT,d7,iZ,dS,bY,cf,zJ,Bu,cg,back,AQ,Bf,BP,zE,Bg,Br,Bs,B6,BD,dZ,iE,gE,Aa,Aq,iD,ip,gj,kC,kQ,e3,eL,kB,k9,fH,kL,t1,gQ,ng,aR l2,aR l3,zB,zG]
   rfl
  ·refine⟨-1,d1,?_,⟨by decide,by decide⟩,p1.mono (by omega)⟩
   simp only[lJ,pF,FL.run,bo,slots,outs,outD,zo,zB,zG,ak,ag,ao,ax,sE,aw,bx,fj,fN,cX,lr,lu,dq,lh,lq,iu,eC,eV,FL.e1,FL.e2,gi,kE,iJ,fT,fS,af,aa,bq,bc,az,kF,bK,bL,kG,bg,eB,m1,m2,e8,kP,kT,kR,tE,tB,FL.bT,FL.aB,FL.bI,tM,du,gN,gT,ee,lC,lD,setM,dE,ku,ah,ky,kz,zz0,zz1,zO,zP,Aw,Ap,BH,B5,zm,if_false,if_true,Bj,Bq,Ab,reduceCtorEq,dI,iw,bz,cH,kO,gu,aQ,eT,d7,iZ,dS,bY,cf,zJ,Bu,cg,back,AQ,Bf,BP,zE,Bg,Br,Bs,B6,BD,dZ,iE,gE,Aa,Aq,iD,ip,gj,kC,kQ,e3,eL,kB,k9,fH,kL,t1,gQ,ng,aR l2,aR l3,zB,zG]
   rfl
 ·rw[decide_eq_false c1]at gQ
  by_cases c2:w<5
  ·rw[decide_eq_true c2]at xN
   obtain⟨v,d2,t2,v0,v1,p2⟩:=iy p1 (by omega) 39 (by decide) (by decide);obtain⟨u,d3,t3,u0,u1,p3⟩:=iy p2 (by omega) 12 (by decide) (by decide);have pr:0<=u*(w-3)/\u*(w-3)<=11:=by
    have:w-3=0\/w-3=1:=by omega
    rcases this with z|z <;> rw[z] <;> omega
   obtain⟨r,hl,b1,b2,_⟩:=zg4 (v-19) (b:=1+u*(w-3)) (by omega) (by omega);refine⟨r,d3,?_,⟨by omega,by omega⟩,p3⟩;have sb:dI (.int v) (.int 19)=.ok (.int (v-19)):=rfl;have vy:dI (.int w) (.int 3)=.ok (.int (w-3)):=rfl;have ml:cP (.int u) (.int (w-3))=.ok (.int (u*(w-3))):=jA (n:=16) (m:=16) (d8 (by omega)) (d8 (by omega)) (by decide);have ad2:aH (.int 1) (.int (u*(w-3)))=.ok (.int (1+u*(w-3))):=rfl;simp only[lJ,pF,FL.run,bo,slots,outs,outD,zo,zB,zG,ak,ag,ao,ax,sE,aw,bx,fj,fN,cX,lr,lu,dq,lh,lq,iu,eC,eV,FL.e1,FL.e2,gi,kE,iJ,fT,fS,af,aa,bq,bc,az,kF,bK,bL,kG,bg,eB,m1,m2,e8,kP,kT,kR,tE,tB,FL.bT,FL.aB,FL.bI,tM,du,gN,gT,ee,lC,lD,setM,dE,ku,ah,ky,kz,zz0,zz1,zO,zP,Aw,Ap,BH,B5,zm,if_false,if_true,Bj,Bq,Ab,reduceCtorEq,dI,iw,bz,cH,kO,gu,aQ,eT,d7,iZ,dS,bY,cf,zJ,Bu,cg,back,AQ,Bf,BP,zE,Bg,Br,Bs,B6,BD,dZ,iE,gE,Aa,Aq,iD,ip,gj,kC,kQ,e3,eL,kB,k9,fH,kL,t1,t2,t3,gQ,xN,sb,vy,ml,ad2,hl,beq_self_eq_true,GB]
  ·rw[decide_eq_false c2]at xN
   obtain⟨v,d2,t2,v0,v1,p2⟩:=ziC (b:=40) p1 (by omega) 1999999999 (by decide) ⟨by decide⟩ (by decide);obtain⟨u,d3,t3,u0,u1,p3⟩:=ziC (b:=40) p2 (by omega) 999999999 (by decide) ⟨by decide⟩ (by decide);obtain⟨r,hl,b1,b2,_⟩:=zg4 (v-1000000000+1) (b:=1+u) (by omega) (by omega);refine⟨r,d3,?_,⟨by omega,by omega⟩,p3⟩;have pw:fW (.int 10) (.int 9)=.ok (.int 1000000000):=rfl;have ml:cP (.int 2) (.int 1000000000)=.ok (.int 2000000000):=rfl;have sb:dI (.int 2000000000) (.int 1)=.ok (.int 1999999999):=rfl;have sb1:dI (.int 1000000000) (.int 1)=.ok (.int 999999999):=rfl;have vy:dI (.int v) (.int 1000000000)=.ok (.int (v-1000000000)):=rfl;have ad:aH (.int (v-1000000000)) (.int 1)=.ok (.int (v-1000000000+1)):=rfl;have ad2:aH (.int 1) (.int u)=.ok (.int (1+u)):=rfl;simp only[lJ,pF,FL.run,bo,slots,outs,outD,zo,zB,zG,ak,ag,ao,ax,sE,aw,bx,fj,fN,cX,lr,lu,dq,lh,lq,iu,eC,eV,FL.e1,FL.e2,gi,kE,iJ,fT,fS,af,aa,bq,bc,az,kF,bK,bL,kG,bg,eB,m1,m2,e8,kP,kT,kR,tE,tB,FL.bT,FL.aB,FL.bI,tM,du,gN,gT,ee,lC,lD,setM,dE,ku,ah,ky,kz,zz0,zz1,zO,zP,Aw,Ap,BH,B5,zm,if_false,if_true,Bj,Bq,Ab,reduceCtorEq,dI,iw,bz,cH,kO,gu,aQ,eT,d7,iZ,dS,bY,cf,zJ,Bu,cg,back,AQ,Bf,BP,zE,Bg,Br,Bs,B6,BD,dZ,iE,gE,Aa,Aq,iD,ip,gj,kC,kQ,e3,eL,kB,k9,fH,kL,t1,t2,t3,gQ,xN,pw,ml,Int.reduceSub,vy,ad,ad2,hl,beq_self_eq_true,GB]
theorem zeQ{m:List (Nat×Sl)}:∀(R:En) (n:Nat),(∀ i,n<=i->m.lookup i=none)->bY m n R=R
 | [],_,_=>rfl
 | x::r,n,h=>by
  unfold bY;rw[zaC (h n (zr _)),zeQ r (n+1) fun i hi=>h i (by omega)]
theorem zlC(R:En)(hd:dM k d)(hk:k<=50000)(c1:1<=c)(c6:c<=6) :
  ∃(w:List Int) (d':D),vt (.ow true d::.val (.int c)::R)=.ok (.list (w.map zH),.ow true d'::.val (.int c)::R)/\w.length<=5/\(∀ x∈w,0<=x/\x<c)/\dM (k+6) d':=by
 obtain⟨n,d0,t0,n0,n1,hp0⟩:=iy hd (by omega) 6 (by omega) (by omega);have hr:k8 [.int n]=.ok (dP 0 n):=zdn (by omega) (by omega);have hlen:(dP 0 n).length=n.toNat:=by rw[zdo];simp
 have CI:=zff (k:=1) (ix:=[0,1]) (g:=gN 0) (t:=du) (f:=aQ bD [.m 1,.v (eV 2)])
  (fun i acc ρ=>∃(w:List Int) (d':D),acc=w.map zH/\(∀ x∈w,0<=x/\x<c)/\dM (k+1+i) d'/\ρ=.ow true d'::.val (.int c)::R)
 obtain⟨acc,ρ',ec,el,hp⟩:=CI (dP 0 n) 0 [] (.ow true d0::.val (.int c)::R) (by rw[hlen];unfold lim;simp;omega) rfl
  ⟨[],d0,rfl,by simp,hp0,rfl⟩ (by
   intro x hx i acc ρ hi hP;rw[hlen]at hi;obtain⟨w,d1,rfl,hw,hp,rfl⟩:=hP;obtain⟨g,d2,et,g0,g1,hp2⟩:=iy hp (by omega) c c1 (by omega);refine⟨[.val x,.ow true d1,.val (.int c)],.int g,[.val x,.ow true d2,.val (.int c)],?_,?_,?_,?_⟩
   ·simp only[FL.run,bo,slots,outs,outD,zo,zB,zG,ak,ag,ao,ax,sE,aw,bx,fj,fN,cX,lr,lu,dq,lh,lq,iu,eC,eV,FL.e1,FL.e2,gi,kE,iJ,fT,fS,af,aa,bq,bc,az,kF,bK,bL,kG,bg,eB,m1,m2,e8,kP,kT,kR,tE,tB,FL.bT,FL.aB,FL.bI,tM,du,gN,gT,ee,lC,lD,setM,dE,ku,ah,ky,kz,zz0,zz1,zO,zP,Aw,Ap,BH,B5,zm,if_false,if_true,Bj,Bq,Ab,reduceCtorEq,aH,dI,aD,iw,bz,cH,kO,gu,aQ,eT,d7,iZ,dS,bY,cf,zJ,Bu,cg,back,AQ,Bf,BP,zE,Bg,Br,Bs,B6,BD,dZ,iE,gE,Aa,Aq,iD,ip,gj,kC,kQ,e3,eL,kB,k9,fH,kL,k8,sG]
   ·simp only[FL.run,bo,slots,outs,outD,zo,zB,zG,ak,ag,ao,ax,sE,aw,bx,fj,fN,cX,lr,lu,dq,lh,lq,iu,eC,eV,FL.e1,FL.e2,gi,kE,iJ,fT,fS,af,aa,bq,bc,az,kF,bK,bL,kG,bg,eB,m1,m2,e8,kP,kT,kR,tE,tB,FL.bT,FL.aB,FL.bI,tM,du,gN,gT,ee,lC,lD,setM,dE,ku,ah,ky,kz,zz0,zz1,zO,zP,Aw,Ap,BH,B5,zm,if_false,if_true,Bj,Bq,Ab,reduceCtorEq,aH,dI,aD,iw,bz,cH,kO,gu,aQ,eT,d7,iZ,dS,bY,cf,zJ,Bu,cg,back,AQ,Bf,BP,zE,Bg,Br,Bs,B6,BD,dZ,iE,gE,Aa,Aq,iD,ip,gj,kC,kQ,e3,eL,kB,k9,fH,kL,k8,sG]
   ·simp only[FL.run,bo,slots,outs,outD,zo,zB,zG,ak,ag,ao,ax,sE,aw,bx,fj,fN,cX,lr,lu,dq,lh,lq,iu,eC,eV,FL.e1,FL.e2,gi,kE,iJ,fT,fS,af,aa,bq,bc,az,kF,bK,bL,kG,bg,eB,m1,m2,e8,kP,kT,kR,tE,tB,FL.bT,FL.aB,FL.bI,tM,du,gN,gT,ee,lC,lD,setM,dE,ku,ah,ky,kz,zz0,zz1,zO,zP,Aw,Ap,BH,B5,zm,if_false,if_true,Bj,Bq,Ab,reduceCtorEq,aH,dI,aD,iw,bz,cH,kO,gu,aQ,eT,d7,iZ,dS,bY,cf,zJ,Bu,cg,back,AQ,Bf,BP,zE,Bg,Br,Bs,B6,BD,dZ,iE,gE,Aa,Aq,iD,ip,gj,kC,kQ,e3,eL,kB,k9,fH,kL,k8,sG,et,CD,beq_self_eq_true,GB]
   ·refine⟨w++[g],d2,by simp,?_,hp2,?_⟩
    ·intro z hz
     rcases AI.mp hz with hz|hz
     ·exact hw z hz
     ·have:z=g:=by simpa using hz
      subst this;exact⟨g0,g1⟩
    ·show cf _ 0 _::cf _ 1 _::bY [(0,Sl.ow true d2),(1,Sl.val (.int c))] 2 R=_
     rw[zeQ R 2 fun i hi=>?_]
     ·rfl
     ·obtain⟨j,rfl⟩:∃ j,i=j+2:=⟨i-2,by omega⟩
      rfl)
 obtain⟨w,d',rfl,hw,dW,rfl⟩:=hp;rw[CD,hlen]at el;have el':w.length=n.toNat:=by simpa using el
 refine⟨w,d',?_,by omega,hw,dW.mono (by rw[hlen];omega)⟩;unfold vt dB;have hi:(fH (aa (aQ bD [.m 0,.v (eC (.int 6))]) af)) (.ow true d::.val (.int c)::R)=.ok (dP 0 n,.ow true d0::.val (.int c)::R):=by
  have cm:(aQ bD [.m 0,.v (eC (.int 6))]) (.ow true d::.val (.int c)::R)=.ok (.int n,.ow true d0::.val (.int c)::R):=jq (p:=true) (d:=d) rfl rfl t0;simp only[fH,aa,af,ah,cm,hr]
 rw[hi,ah];show(iH _ _ _ _ _ (dP 0 n) (.ow true d0::.val (.int c)::R) []).bind _=_;rw[ec]
 rfl
end
variable {s:Sm}
section
structure Dz(c:Int)(n:Nat)(s:Sm):Prop where
 nk:Nk s
 rt:∀ p∈s,RT c p
 ln:s.length<=n
theorem zh9:vM=pB:=rfl
theorem zt0(nk:Nk s)(hl:s.length<64)(a b c x4 x5 x6:Sl):sF [a,b,c,.val (av s),x4,x5,x6]=.ok (.list ((gr s).map gY),[a,b,c,.val (av s),x4,x5,x6]):=by
 have so:=zdt nk hl;have hlen:(gr s).length=s.length:=(kh s).length_eq;unfold sF;rw[zh9,zaY (items:=(gr s).map fun p=>tp p.1) (fun x=>.tuple [x,rj (h8 (av s) x)])]
 ·rw[A5]
  congr 2
  congr 1
  refine Er fun p hp=>?_;have mp:p∈s:=(kh s).mem_iff.mp hp;show Es [tp p.1,rj (h8 (av s) (tp p.1))]=_;rw[qX (qm nk mp)];rfl
 ·simp only[iE,FL.e1,eV,ah,zz0,zz1,so,gE]
 ·rw[zL,hlen];unfold lim;omega
 ·intro x hx
  obtain⟨p,hp,rfl⟩:=zZ.mp hx;have mp:p∈s:=(kh s).mem_iff.mp hp;have d1:=qX (qm nk mp);have l2:leB 2 lim=true:=by decide
  refine⟨[.val (tp p.1),.val (av s)],rfl,?_,?_⟩
  ·simp only[bq,aa,af,FL.e2,eV,ah,zz0,zz1,d1,zB,zG,aR l2]
   rfl
  ·exact tZ (fun i p d e=>by
    revert e
    simp only[Br,Bs,AQ,Bf,zJ,Bu]
    split <;> (intro e;cases e)) _ 0
theorem zoJ(hd:dM k d)(hk:k<=1000)(c1:1<=c)(c6:c<=6) :
  ∃(s:Sm) (d':D),vN [d,.int c,.int 6]=.ok (.list ((gr s).map gY),[d',.int c,.int 6])/\Dz c 6 s/\dM (k+100) d':=by
 obtain⟨n,d0,t0,n0,n1,hp0⟩:=iy hd (by omega) 7 (by decide) (by decide);have hr:k8 [.int n]=.ok (dP 0 n):=zdn (by omega) (by omega);have hlen:(dP 0 n).length=n.toNat:=by rw[zdo];simp
 have L:=zbz (f:=fun x:D=>x) (g:=gN 4) (b:=vG)
  (fun done ρ=>∃(s:Sm) (d':D) (y4 y5 y6:Sl),Np y4/\Np y5/\Np y6/\ρ=[.ow true d',.val (.int c),.val (.int 6),.ow false (av s),y4,y5,y6]/\Dz c done.length s/\dM (k+1+9*done.length) d')
  (dP 0 n) [] [.ow true d0,.val (.int c),.val (.int 6),.ow false (av []),.no,.no,.no] ⟨[],d0,.no,.no,.no,di,di,di,rfl,⟨E2,fun _ h=>by simp at h,AU _⟩,hp0⟩ (by
   intro pre x post ρ e hP;obtain⟨s,d1,y4,y5,y6,h4,h5,h6,rfl,dr,pp⟩:=hP;rw[Aw]at e;have bu:pre.length+1<=n.toNat:=by rw[<- hlen,e];simp
   have gx:gN 4 x [.ow true d1,.val (.int c),.val (.int 6),.ow false (av s),y4,y5,y6]=.ok [.ow true d1,.val (.int c),.val (.int 6),.ow false (av s),.val x,y5,y6]:=gB rfl h4;obtain⟨w,d2,tw,wl,wx,pw⟩:=zlC [.val (.int 6),.ow false (av s),.val x,y5,y6] pp (by omega) c1 c6;obtain⟨r,d3,tn,rb,pn⟩:=nine pw (by omega);have s1:ax (gN 5) (FL.e1 gu vt) [.ow true d1,.val (.int c),.val (.int 6),.ow false (av s),.val x,y5,y6]=.ok (.nx,[.ow true d2,.val (.int c),.val (.int 6),.ow false (av s),.val x,.val (tp w),y6]):=kg (y:=(tp w,[.ow true d2,.val (.int c),.val (.int 6),.ow false (av s),.val x,y5,y6])) (by unfold FL.e1;rw[tw];rfl) rfl h5;have s2:ax (gN 6) (aQ lJ [.m 0]) [.ow true d2,.val (.int c),.val (.int 6),.ow false (av s),.val x,.val (tp w),y6]=.ok (.nx,[.ow true d3,.val (.int c),.val (.int 6),.ow false (av s),.val x,.val (tp w),.val (num r)]):=kg (y:=(num r,[.ow true d3,.val (.int c),.val (.int 6),.ow false (av s),.val x,.val (tp w),y6])) (zkD (p:=true) (d:=d2) rfl tn) rfl h6;have tt:tB (e2 bR (e2 aD (eV 6) (eC (.int 0))) (eC (.int 0))) [.ow true d3,.val (.int c),.val (.int 6),.ow false (av s),.val x,.val (tp w),.val (num r)]=.ok (!decide (r=0),[.ow true d3,.val (.int c),.val (.int 6),.ow false (av s),.val x,.val (tp w),.val (num r)]):=by
    have i0:aD (num r) (.int 0)=.ok (.int r.num):=rfl;have n0:bR (.int r.num) (.int 0)=.ok (.bool (!decide (r=0))):=by
     rw[pX];congr 3;rw[decide_eq_decide];exact Rat.num_eq_zero
    simp only[tB,FL.e2,eV,eC,ah,zz0,zz1,i0,n0]
   by_cases cz:r=0
   ·refine⟨[.ow true d3,.val (.int c),.val (.int 6),.ow false (av s),.val x,.val (tp w),.val (num r)],.nx,?_,.inl rfl,s,d3,_,_,_,dY _,dY _,dY _,rfl,⟨dr.nk,dr.rt,by rw[AO];have:=dr.ln;simp;omega⟩,pn.mono (by simp;omega)⟩
    rw[gx,ah];unfold vG;rw[aS s1,aS s2];unfold ao;rw[tt,ah,if_neg (by simpa using cz)]
    rfl
   ·have wk:RT c (w,r):=⟨⟨wl,wx,cz⟩,rb⟩
    refine⟨[.ow true d3,.val (.int c),.val (.int 6),.ow false (av (jf s w r)),.val x,.val (tp w),.val (num r)],.nx,?_,.inl rfl,jf s w r,d3,_,_,_,dY _,dY _,dY _,rfl,⟨zs1 dr.nk,fun p hp=>?_,?_⟩,pn.mono (by simp;omega)⟩
    ·rw[gx,ah]
     unfold vG;rw[aS s1,aS s2];unfold ao;rw[tt,ah,if_pos (by simpa using cz)];have dp:=zfx (s:=s) (w:=w) (q:=r) (by have:=dr.ln;unfold lim;omega);simp only[eL,eV,bg,ah,zz0,zz1,dp]
     rfl
    ·rcases zs3 hp with h|h
     ·exact dr.rt p h
     ·subst h;exact wk
    ·rw[AO,D6]
     have:=zs2 s w r;have:=dr.ln
     omega)
 obtain⟨ρ',e,s,d',y4,y5,y6,h4,h5,h6,rfl,dr,pp⟩:=L;simp only[Aw,hlen,List.map_id']at e dr pp;have dn:s.length<=6:=by have:=dr.ln;omega
 refine⟨s,d',?_,⟨dr.nk,dr.rt,dn⟩,pp.mono (by omega)⟩;have hi:(fH (aa (aQ bD [.m 0,.v (e2 aH (eV 2) (eC (.int 1)))]) af)) [.ow true d,.val (.int c),.val (.int 6),.ow false (av []),.no,.no,.no]=.ok (dP 0 n,[.ow true d0,.val (.int c),.val (.int 6),.ow false (av []),.no,.no,.no]):=by
  have cm:(aQ bD [.m 0,.v (e2 aH (eV 2) (eC (.int 1)))]) [.ow true d,.val (.int c),.val (.int 6),.ow false (av []),.no,.no,.no]=.ok (.int n,[.ow true d0,.val (.int c),.val (.int 6),.ow false (av []),.no,.no,.no]):=jq (p:=true) (d:=d) rfl rfl t0;simp only[fH,aa,af,ah,cm,hr]
 have s1:bx 3 gj [.ow true d,.val (.int c),.val (.int 6),.no,.no,.no,.no]=.ok (.nx,[.ow true d,.val (.int c),.val (.int 6),.ow false (av []),.no,.no,.no]):=rfl;have s2:yP [.ow true d,.val (.int c),.val (.int 6),.ow false (av []),.no,.no,.no]=.ok (.nx,[.ow true d',.val (.int c),.val (.int 6),.ow false (av s),y4,y5,y6]):=by
  unfold yP dZ;rw[hi,ah];exact e
 have s3:fN 3 (cX sF) [.ow true d',.val (.int c),.val (.int 6),.ow false (av s),y4,y5,y6]=.ok (.rf (.list ((gr s).map gY)),[.ow true d',.val (.int c),.val (.int 6),.val (av s),y4,y5,y6]):=by
  show cX sF [.ow true d',.val (.int c),.val (.int 6),.val (av s),y4,y5,y6]=_;unfold cX;rw[zt0 dr.nk (by omega)]
  rfl
 show((wu [.ow true d,.val (.int c),.val (.int 6),.no,.no,.no,.no]).bind _)=_;unfold wu;rw[aS s1,aS s2,s3]
 rfl
end
variable {s:Bool}{c:Nat}{x:dm}
section
abbrev Dg(l:List Nat):Prop:=∀ c∈l,48<=c/\c<=57
theorem zfv:∀ d:Nat,d<10->(Fi d).toNat=48+d:=by decide
theorem zkN:∀(k:Nat) (l:List Nat),l.length=k->Dg l->l≠[]->(∀ r,l=48::r->r=[])->∃ n:Nat,(Dd 10 n).map Char.toNat=l/\n<10^l.length:=by
 intro k
 induction k with
 | zero=>intro l h _ cB;exact absurd (HD.mp h) cB
 | succ k ih =>
  intro l hl hd cB h0;have mn:=List.dropLast_concat_getLast cB;generalize hi:l.dropLast=i at mn;generalize hc:l.getLast cB=c at mn;have hcm:48<=c/\c<=57:=hd c (by rw[<- mn];simp);have hil:i.length=k:=by rw[<- hi,List.length_dropLast,hl];rfl
  by_cases hie:i=[]
  ·subst hie
   refine⟨c-48,?_,?_⟩
   ·rw[Gz (by omega),<- mn]
    show [(Fi (c-48)).toNat]=_;rw[zfv _ (by omega)];show [48+(c-48)]=[c]
    congr 1;omega
   ·rw[<- mn];simp;omega
  ·obtain⟨m,em,hm⟩:=ih i hil (fun x hx=>hd x (by rw[<- mn];exact CN _ hx)) hie (fun r er=>by
    exfalso;have:=h0 (r++[c]) (by rw[<- mn,er];rfl);simp at this)
   have mp:0<m:=by
    rcases Et m with z|z
    ·subst z
     have e1:i=[48]:=em.symm;have:=h0 [c] (by rw[<- mn,e1];rfl);cases this
    ·exact z
   refine⟨10*m+(c-48),?_,?_⟩
   ·rw[<- Ht (by decide) mp (by omega),DL,em,Gz (by omega:c-48<10),<- mn]
    show i++[(Fi (c-48)).toNat]=_;rw[zfv _ (by omega)]
    congr 2;omega
   ·rw[hl]
    rw[hil]at hm;rw[Nat.pow_succ]
    omega
theorem canon(hd:Dg (TX.cp x))(cB:TX.cp x≠[])(h0:∀ r,TX.cp x=48::r->r=[]):∃ n:Nat,x=T (n:Int)/\n<10^x.length:=by
 obtain⟨n,e,h⟩:=zkN _ (TX.cp x) rfl hd cB h0;exact⟨n,ext (by rw[nB];exact e.symm),by rw[cO];exact h⟩
def Wh(x:dm):Prop:=∃ n:Nat,x=T (n:Int)/\n<10^9
theorem zho(h:¬ Wh x)(hl:1<=x.length)(h9:x.length<=9)(hd:Dg (TX.cp x)):∃ r,TX.cp x=48::r/\r≠[]:=by
 refine GC fun z=>h ?_;obtain⟨n,e,hn⟩:=canon hd (by intro e;rw[cO,e]at hl;simp at hl) fun r er=>GC fun q=>z ⟨r,er,q⟩;exact⟨n,e,AA hn (Hy (by decide) h9)⟩
theorem zm5(hc:c<128)(h:¬ (48<=c/\c<=57)):rL (.str (L2.gy c)) (.str (zj "0123456789"))=.ok (.bool false):=by
 have key:(Bx (zj "0123456789") (L2.gy c) 0 (zj "0123456789").length 1).isEmpty=true:=by
  have:∀ c:Nat,c<128->¬ (48<=c/\c<=57)->(Bx (zj "0123456789") (L2.gy c) 0 (zj "0123456789").length 1).isEmpty=true:=by decide +kernel
  exact this c hc h
 show R.ok (Bb (!_))=_;rw[key]
 rfl
end
variable {p:Nat->Bool}
section
theorem yM{p:Nat->Bool}:∀ l:List Nat,(l.takeWhile p).length=l.length↔∀ c∈l,p c=true
 | []=>by simp
 | c::r=>by
  rw[HE];cases h:p c with
  | true =>
   simp only[if_true,zB,Nat.add_right_cancel_iff,zS,forall_eq_or_imp,h,true_and];exact yM r
  | false=>simp[h]
theorem ziN{p:Nat->Bool}:∀ l:List Nat,∀ c∈l.takeWhile p,p c=true
 | [],c,h=>by simp at h
 | d::r,c,h=>by
  rw[HE]at h;cases e:p d with
  | true =>
   rw[e]at h;rcases zS.mp h with z|z
   ·rw[z];exact e
   ·exact ziN r c z
  | false=>rw[e]at h;simp at h
theorem ziO(l:List Nat):(l.takeWhile p).length<=l.length:=(HF p).length_le
theorem zl6(c:Nat):(zj "0123456789").cps.contains c=decide (48<=c/\c<=57):=by
 have e:(zj "0123456789").cps=#[48,49,50,51,52,53,54,55,56,57]:=rfl;rw[e,Ec,Array.contains_iff_mem,decide_eq_true_iff];simp
 omega
theorem ztt(x:dm):(Fg x (zj "0123456789")=Ax)↔Dg (TX.cp x):=by
 have hp:(fun c=>(zj "0123456789").cps.contains c)=fun c=>decide (48<=c/\c<=57):=funext zl6;have emp:∀ a:dm,a=Ax↔TX.cp a=[]:=fun a=>⟨fun h=>by rw[h];rfl,fun h=>ext (by rw[h];rfl)⟩;have dgw:Dg (TX.cp x)↔((TX.cp x).takeWhile fun c=>decide (48<=c/\c<=57)).length=(TX.cp x).length:=by
  rw[yM];exact⟨fun h c hc=>decide_eq_true (h c hc),fun h c hc=>of_decide_eq_true (h c hc)⟩
 have sub:∀ i j,TX.cp (HG x i j)=((TX.cp x).drop i).take (j-i):=fun i j=>by
  show(x.cps.extract i j).toList=_;simp[TX.cp]
 have lo:De (zj "0123456789").cps.contains true x=((TX.cp x).takeWhile fun c=>decide (48<=c/\c<=57)).length:=by
  show(x.cps.toList.takeWhile _).length=_;rw[show(zj "0123456789").cps.contains=fun c=>decide (48<=c/\c<=57) from hp]
 have hi:∀ k,stripHi (zj "0123456789").cps.contains true x k=x.length-(((TX.cp x).drop k).reverse.takeWhile fun c=>decide (48<=c/\c<=57)).length:=fun k=>by
  show x.length-((x.cps.toList.drop k).reverse.takeWhile _).length=_;rw[show(zj "0123456789").cps.contains=fun c=>decide (48<=c/\c<=57) from hp]
 generalize hL:((TX.cp x).takeWhile fun c=>decide (48<=c/\c<=57)).length=L at *;have hLl:L<=(TX.cp x).length:=by rw[<- hL];exact ziO _
 have xl:=cO x;show(Fj _ true true x=_)↔_;unfold Fj
 by_cases hd:Dg (TX.cp x)
 ·refine⟨fun _=>hd,fun _=>?_⟩
  have hLe:=dgw.mp hd
  split
  ·rename_i h
   unfold stripSame at h;rw[lo]at h;simp only[zX,beq_iff_eq]at h;rw[emp];exact HD.mp (by omega)
  ·rw[emp]
   unfold stripped;rw[sub,lo,List.drop_eq_nil_of_le (by omega)];exact List.take_nil
 ·refine⟨fun h=>?_,fun h=>absurd h hd⟩
  have ie:L<(TX.cp x).length:=Nat.lt_of_le_of_ne hLl fun z=>hd (dgw.mpr z);exfalso;have hh:De (zj "0123456789").cps.contains true x<stripHi (zj "0123456789").cps.contains true x L:=by
   rw[lo,hi];have e:=E7 ie;have nt:¬ (((TX.cp x).drop L).reverse.takeWhile fun c=>decide (48<=c/\c<=57)).length=((TX.cp x).drop L).reverse.length:=fun z=>by
    have al:=(yM _).mp z;refine hd (dgw.mpr ?_);have:∀ c∈TX.cp x,(decide (48<=c/\c<=57))=true:=fun c hc=>by
     rw[<- Fm L (TX.cp x)]at hc;rcases AI.mp hc with m|m
     ·have tk:(TX.cp x).take L=(TX.cp x).takeWhile fun c=>decide (48<=c/\c<=57):=by
       obtain⟨t,ht⟩:=HF (l:=TX.cp x) fun c=>decide (48<=c/\c<=57)
       conv=>lhs;rw[<- ht]
       rw[<- hL,List.take_left']
       rfl
      rw[tk]at m;exact ziN _ c m
     ·exact al c (by simpa using m)
    rw[<- hL];exact(yM _).mpr this
   have le:=ziO (p:=fun c=>decide (48<=c/\c<=57)) ((TX.cp x).drop L).reverse;rw[List.length_reverse,CA]at le nt
   omega
  split at h
  ·rw[emp]at h
   rw[h]at ie;simp at ie
  ·rw[emp]at h
   unfold stripped at h;rw[sub,lo]at h;rw[lo]at hh;have:=congrArg FE h;rw[DZ,CA]at this;have hhi:=hi L;simp only[zG]at this
   omega
theorem zuy(hx:As x)(hl:x.length<=100000):qg [.val (.str x)]=.ok (.list (((TX.cp x).map fun c=>decide (48<=c/\c<=57)).map Bb),[.val (.str x)]):=by
 have sg:zdr (.str x)=.ok ((TX.cp x).map fun c=>.str (L2.gy c)):=aR hx.all;unfold qg;rw[q8 (f0:=fun c=>zg (L2.gy c)) (xs:=TX.cp x) (fun c=>.bool (decide (48<=c/\c<=57))) (by simp only[iT,eV,zz0,ah,sg]) (by rw[<- cO];show _<=1000000;omega) fun c mc=>?_,A5]
 ·rfl
 ·refine⟨[.val (.str (L2.gy c))],rfl,?_,qS trivial⟩
  have:rL (.str (L2.gy c)) (.str (zj "0123456789"))=.ok (.bool (decide (48<=c/\c<=57))):=by
   by_cases h:48<=c/\c<=57
   ·rw[zgl h,decide_eq_true h]
   ·rw[zm5 (hx c mc) h,decide_eq_false h]
  simp only[FL.e2,eV,eC,zz0,ah,this]
theorem zjU(x:dm):(((TX.cp x).map fun c=>decide (48<=c/\c<=57)).all id)=decide (Dg (TX.cp x)):=by
 rw[Ec,decide_eq_true_iff,A3];simp only[zZ,id];exact⟨fun h c hc=>of_decide_eq_true (h _ ⟨c,hc,rfl⟩),fun h b ⟨c,hc,e⟩=>by rw[<- e];exact decide_eq_true (h c hc)⟩
theorem zux(hx:As x)(hl:x.length<=100000)(h:¬ Wh x):ko [.str x]=.ok .none:=by
 have ll:e7 (.str x)=.ok (.int (x.length:Int)):=aR (cU (by omega));have q:=zuy hx hl;have al:=zem ((TX.cp x).map fun c=>decide (48<=c/\c<=57));rw[zjU]at al;refine dH (ρ:=[.val (.str x)]) rfl ?_;show qR [.val (.str x)]=_;unfold qR
 by_cases a1:1<=x.length
 ·have c1:jb (.int 1) (.int (x.length:Int))=.ok (.bool true):=by rw[rV,decide_eq_true (by omega)]
  by_cases a2:x.length<=9
  ·have c2:jb (.int (x.length:Int)) (.int 9)=.ok (.bool true):=by rw[rV,decide_eq_true (by omega)]
   by_cases a3:Dg (TX.cp x)
   ·rw[decide_eq_true a3]at al
    obtain⟨r,er,nr⟩:=zho h a1 a2 a3;have ix:iM (.str x) (.int 0)=.ok (.str (one 48)):=by
     show aN _ _=_;rw[aR (cU (by omega)),show x.cps.toList=48::r from er,show FL.bX (48::r) 0=some 48 from(ni (xs:=48::r) (i:=0) (by simp)).trans rfl]
     rfl
    have o1:zj "0"=one 48:=rfl;have q1:=eq_str (a:=one 48) (b:=one 48) (eX (by decide)) (eX (by decide));have q2:=ne_str (a:=x) (b:=one 48) hx (eX (by decide));rw[decide_eq_true rfl]at q1;rw[decide_eq_false (fun z=>nr (by
     have:=congrArg TX.cp z;rw[er]at this;have e2:48::r=[48]:=this;exact(GD e2).2))]at q2
    rw[o1];simp only[ag,ao,FL.aB,FL.bT,FL.bI,tB,tE,fS,FL.e1,FL.e2,eV,eC,aw,ak,ah,zz0,ll,c1,c2,q,al,ix,q1,q2,cH,Aa,Aq,zm,if_false,if_true]
   ·rw[decide_eq_false a3]at al
    simp only[ag,ao,FL.aB,FL.bT,FL.bI,tB,tE,fS,FL.e1,FL.e2,eV,eC,aw,ak,ah,zz0,ll,c1,c2,q,al,cH,Aa,Aq,zm,if_false,if_true]
  ·have c2:jb (.int (x.length:Int)) (.int 9)=.ok (.bool false):=by rw[rV,decide_eq_false (by omega)]
   simp only[ag,ao,FL.aB,FL.bT,FL.bI,tB,tE,fS,FL.e1,FL.e2,eV,eC,aw,ak,ah,zz0,ll,c1,c2,cH,Aa,Aq,zm,if_false,if_true]
 ·have c1:jb (.int 1) (.int (x.length:Int))=.ok (.bool false):=by rw[rV,decide_eq_false (by omega)]
  simp only[ag,ao,FL.aB,FL.bT,FL.bI,tB,tE,fS,FL.e1,FL.e2,eV,eC,aw,ak,ah,zz0,ll,c1,cH,Aa,Aq,zm,if_false,if_true]
theorem zer:As Ax:=fun c h=>absurd (show c∈([]:List Nat) from h) (by simp)
theorem zts(hx:As x)(y:dm):As (Fg x y):=by
 show As (Fj _ _ _ _);unfold Fj
 split
 ·exact hx
 ·intro c hc
  unfold stripped at hc;refine hx c ?_;have:TX.cp (HG x (De y.cps.contains true x) (stripHi y.cps.contains true x (De y.cps.contains true x)))=((TX.cp x).drop (De y.cps.contains true x)).take (stripHi y.cps.contains true x (De y.cps.contains true x)-De y.cps.contains true x):=by
   show(x.cps.extract _ _).toList=_;simp[TX.cp]
  rw[this]at hc;exact GH (Fo hc)
theorem zir(hx:As x)(hl:x.length<=100000):∃ z,yH x (.str (zj "0123456789"))=.ok z/\bR z (.str (zj ""))=.ok (.bool (!decide (Dg (TX.cp x)))):=by
 have s:yH x (.str (zj "0123456789"))=.ok (.str (Fg x (zj "0123456789"))):=aR (cU (by omega));refine⟨_,s,?_⟩;rw[show zj ""=Ax from rfl,ne_str (zts hx _) zer]
 congr 3
 rw[decide_eq_decide];exact ztt x
end
variable {n:Nat}{p:D}
section
theorem zl7(hx:As x)(hl:x.length<=100000)(h:¬ Wh x):qB [.str x]=.ok .none:=by
 have ll:e7 (.str x)=.ok (.int (x.length:Int)):=aR (cU (by omega));have so:strOf (.str x)=.ok x:=rfl;obtain⟨z,s1,s2⟩:=zir hx hl;refine dH (ρ:=[.val (.str x)]) rfl ?_;show qO [.val (.str x)]=_;unfold qO
 by_cases a1:x.length<1
 ·have c1:dD (.int (x.length:Int)) (.int 1)=.ok (.bool true):=by rw[nU,decide_eq_true (by omega)]
  simp only[ag,ao,FL.aB,tB,FL.e1,FL.e2,eV,eC,aw,ak,ah,zz0,ll,c1,zm,if_false,if_true]
 ·have c1:dD (.int (x.length:Int)) (.int 1)=.ok (.bool false):=by rw[nU,decide_eq_false (by omega)]
  by_cases a2:9<x.length
  ·have c2:gC (.int (x.length:Int)) (.int 9)=.ok (.bool true):=by rw[rq,decide_eq_true (by omega)]
   simp only[ag,ao,FL.aB,tB,FL.e1,FL.e2,eV,eC,aw,ak,ah,zz0,ll,c1,c2,zm,if_false,if_true]
  ·have c2:gC (.int (x.length:Int)) (.int 9)=.ok (.bool false):=by rw[rq,decide_eq_false (by omega)]
   by_cases a3:Dg (TX.cp x)
   ·rw[decide_eq_true a3]at s2
    obtain⟨r,er,nr⟩:=zho h (by omega) (by omega) a3;have ix:iM (.str x) (.int 0)=.ok (.str (one 48)):=by
     show aN _ _=_;rw[aR (cU (by omega)),show x.cps.toList=48::r from er,show FL.bX (48::r) 0=some 48 from(ni (xs:=48::r) (i:=0) (by simp)).trans rfl]
     rfl
    have q1:aK (.str (one 48)) (.str (zj "0"))=.ok (.bool true):=by
     have:=eq_str (a:=one 48) (b:=one 48) (eX (by decide)) (eX (by decide));rw[decide_eq_true rfl]at this;exact this
    have q2:bR (.str x) (.str (zj "0"))=.ok (.bool true):=by
     have:=ne_str (a:=x) (b:=one 48) hx (eX (by decide));rw[decide_eq_false (fun z=>nr (by
      have:=congrArg TX.cp z;rw[er]at this;have e2:48::r=[48]:=this;exact(GD e2).2))]at this
     exact this
    simp only[ag,ao,FL.aB,FL.bT,tB,FL.e1,FL.e2,bt,eV,eC,aw,ak,ah,zz0,ll,c1,c2,so,s1,s2,ix,q1,q2,Aa,zm,if_false,if_true]
   ·rw[decide_eq_false a3]at s2
    simp only[ag,ao,FL.aB,FL.bT,tB,FL.e1,FL.e2,bt,eV,eC,aw,ak,ah,zz0,ll,c1,c2,so,s1,s2,Aq,zm,if_false,if_true]
theorem zl8(h:n<10^9):qB [.str (T (n:Int))]=.ok (.int n):=by
 have l9:=len_T (n:=n) (k:=9) (by decide) h;have ll:e7 (.str (T (n:Int)))=.ok (.int ((T (n:Int)).length:Int)):=aR (cU (by omega));have so:strOf (.str (T (n:Int)))=.ok (T (n:Int)):=rfl;obtain⟨z,s1,s2⟩:=zir (nh (n:Int)) (by omega);rw[decide_eq_true (fun c hc=>wR n c hc)]at s2;obtain⟨c0,r0,e0⟩:∃ c r,TX.cp (T (n:Int))=c::r:=by
  cases e:TX.cp (T (n:Int)) with
  | nil=>exact absurd e (ne_T n)
  | cons c r=>exact⟨c,r,rfl⟩
 have l1:1<=(T (n:Int)).length:=by rw[cO,e0];simp
 have c1:dD (.int ((T (n:Int)).length:Int)) (.int 1)=.ok (.bool false):=by rw[nU,decide_eq_false (by omega)]
 have c2:gC (.int ((T (n:Int)).length:Int)) (.int 9)=.ok (.bool false):=by rw[rq,decide_eq_false (by omega)]
 have hc0:=wR n c0 (by rw[e0];simp);have ix:iM (.str (T (n:Int))) (.int 0)=.ok (.str (one c0)):=by
  show aN _ _=_;rw[aR (cU (by omega)),show(T (n:Int)).cps.toList=c0::r0 from e0,show FL.bX (c0::r0) 0=some c0 from(ni (xs:=c0::r0) (i:=0) (by simp)).trans rfl]
  rfl
 have q1:aK (.str (one c0)) (.str (zj "0"))=.ok (.bool (decide (one c0=one 48))):=eq_str (eX (by omega)) (eX (by decide));have q2:bR (.str (T (n:Int))) (.str (zj "0"))=.ok (.bool (!decide (T (n:Int)=one 48))):=ne_str (nh _) (eX (by decide));have iv:rN (.str (T (n:Int)))=.ok (.int n):=by
  show aN _ _=_;rw[aR (jY (by omega)),HC (GA n) (by have:n<10^10:=Cp h (by decide);omega)]
  rfl
 refine dH (ρ:=[.val (.str (T (n:Int)))]) rfl ?_;show qO [.val (.str (T (n:Int)))]=_;unfold qO;rcases Et n with z|z
 ·subst z
  rw[decide_eq_true (show T ((0:Nat):Int)=one 48 from zeh)]at q2;simp only[ag,ao,FL.aB,FL.bT,tB,FL.e1,FL.e2,bt,eV,eC,aw,ak,ah,zz0,ll,c1,c2,so,s1,s2,q2,iv,Aa,Aq,zm,if_false,if_true]
 ·have cB:=zgh z c0 r0 e0
  rw[decide_eq_false (fun z=>cB (by have:=congrArg TX.cp z;simpa[TX.cp] using this))]at q1
  by_cases c3:T (n:Int)=one 48
  ·rw[decide_eq_true c3]at q2
   simp only[ag,ao,FL.aB,FL.bT,tB,FL.e1,FL.e2,bt,eV,eC,aw,ak,ah,zz0,ll,c1,c2,so,s1,s2,q2,iv,Aa,Aq,zm,if_false,if_true]
  ·rw[decide_eq_false c3]at q2
   simp only[ag,ao,FL.aB,FL.bT,tB,FL.e1,FL.e2,bt,eV,eC,aw,ak,ah,zz0,ll,c1,c2,so,s1,s2,q2,ix,q1,iv,Aa,Aq,zm,if_false,if_true]
noncomputable def wh(x:dm):D:=open Classical in if h:Wh x then .int (h.choose:Int) else .none
theorem jH(x:dm):(∃ n:Nat,x=T (n:Int)/\n<10^9/\wh x=.int n)\/(¬ Wh x/\wh x=.none):=by
 unfold wh
 by_cases h:Wh x
 ·rw[dif_pos h];exact .inl ⟨h.choose,h.choose_spec.1,h.choose_spec.2,rfl⟩
 ·rw[dif_neg h];exact .inr ⟨h,rfl⟩
theorem yR(hx:As x)(hl:x.length<=100000):ko [.str x]=.ok (wh x):=by
 rcases jH x with⟨n,e,hn,w⟩|⟨h,w⟩
 ·rw[w,e];exact read_whole hn
 ·rw[w];exact zux hx hl h
theorem zfS(hx:As x)(hl:x.length<=100000):qB [.str x]=.ok (wh x):=by
 rcases jH x with⟨n,e,hn,w⟩|⟨h,w⟩
 ·rw[w,e];exact zl8 hn
 ·rw[w];exact zl7 hx hl h
noncomputable def wy(c:Int)(x:dm):D:=match wh x with
 | .int n=>if n<c then .int n else .none
 | _=>.none
theorem is_none:eI .none .none=.ok (.bool true):=rfl
theorem zi3(hx:As x)(hl:x.length<=100000)(c:Int):zah [.str x,.int c]=.ok (wy c x)/\zae [.str x,.int c]=.ok (wy c x):=by
 have h1:=yR hx hl;have h2:=zfS hx hl;have key:∀{F:List D->R D},F [.str x]=.ok (wh x)->(ag (ax (gN 2) (az F (aa (eV 0) af))) (ag (ao (FL.aB (tB (e2 eI (eV 2) (eC .none))) (tB (e2 jt (eV 2) (eV 1)))) (ak (eC .none)) aw) (ak (eV 2)))) [.val (.str x),.val (.int c),.no]=.ok (.rt (wy c x),[.val (.str x),.val (.int c),.val (wh x)]):=fun{F} hF=>by
  unfold wy;rcases jH x with⟨n,e,hn,w⟩|⟨h,w⟩
  ·rw[w]at hF ⊢
   by_cases k:(n:Int)<c
   ·have ge:jt (.int n) (.int c)=.ok (.bool false):=by rw[zf4,decide_eq_false (by omega)]
    simp only[ag,ax,ao,FL.aB,tB,gN,az,aa,af,FL.e2,eV,eC,ak,aw,ah,zz0,zz1,zO,zP,hF,mB,ge,zm,if_false,if_pos k]
   ·have ge:jt (.int n) (.int c)=.ok (.bool true):=by rw[zf4,decide_eq_true (by omega)]
    simp only[ag,ax,ao,FL.aB,tB,gN,az,aa,af,FL.e2,eV,eC,ak,aw,ah,zz0,zz1,zO,zP,hF,mB,ge,zm,if_false,if_true,if_neg k]
  ·rw[w]at hF ⊢
   simp only[ag,ax,ao,FL.aB,tB,gN,az,aa,af,FL.e2,eV,eC,ak,aw,ah,zz0,zz1,zO,zP,hF,is_none,zm,if_false,if_true]
 exact⟨dH rfl (key h1),dH rfl (key h2)⟩
end
section
theorem zcq{s:dm}:∀{l:List dm} {p:dm},p∈l->∃ A B,TX.cp (Ak s l)=A++TX.cp p++B
 | [x],p,h=>⟨[],[],by rw[Cj.mp h];simp;rfl⟩
 | x::y::r,p,h=>by
  rw[mE,bE,bE];rcases zS.mp h with e|h
  ·exact⟨[],TX.cp s++TX.cp (Ak s (y::r)),by rw[e];simp⟩
  ·obtain⟨A,B,e⟩:=zcq (s:=s) h
   exact⟨TX.cp x++TX.cp s++A,B,by rw[e];simp⟩
structure Spl(x:dm)(c:Nat)(l:List dm):Prop where
 sp:eD x (.str (one c))=.ok (.list (l.map zg))
 ln:l.length<=x.length+2
 ne:l≠[]
 as:∀ p∈l,As p
 le:∀ p∈l,p.length<=x.length
 fr:∀ p∈l,c∉TX.cp p
 jn:Ak (one c) l=x
theorem qu(hx:As x)(hl:x.length<=100000)(c:Nat):Spl x c (zV x (one c)):=by
 have oc:=StrLaws.occ_length_le x (one c) 0 x.length (x.length+1);have jn:Ak (one c) (zV x (one c))=x:=DK _ _;have ln:(zV x (one c)).length<=x.length+2:=by
  unfold zV
  split
  ·simp
  ·split
   ·simp
   ·rw[HH];omega
 have k4:leB (Gk x (Bx x (one c) 0 x.length (x.length+1)) (one c).length).length lim=true:=cU (by
  rw[HH];omega)
 refine⟨aR ?_,ln,vA x c,fun p hp=>?_,fun p hp=>?_,fun p hp=>Fp x c p hp,jn⟩
 ·rw[k4,cU (by omega:x.length+1<=1000000),cU (by omega:(zV x (one c)).length<=1000000)]
  rfl
 ·obtain⟨A,B,e⟩:=zcq (s:=one c) hp
  rw[jn]at e;exact fun d hd=>hx d (by rw[e];simp[hd])
 ·obtain⟨A,B,e⟩:=zcq (s:=one c) hp
  rw[jn]at e;rw[cO,cO x,e];simp
  omega
theorem zuB(c:Int)(x:dm):(∃ n:Nat,wy c x=.int n/\(n:Int)<c)\/wy c x=.none:=by
 unfold wy;rcases jH x with⟨n,_,_,w⟩|⟨_,w⟩
 ·rw[w]
  by_cases k:(n:Int)<c
  ·exact .inl ⟨n,if_pos k,k⟩
  ·exact .inr (if_neg k)
 ·rw[w];exact .inr rfl
theorem zhM:Pl n Cq:=⟨rfl,AU _⟩
theorem zi4(hx:As x)(hl:x.length<=100000)(c:Int):∃ d:D,pj [.str x,.int c]=.ok d/\qD [.str x,.int c]=.ok d/\(d=.none\/∃ w:List Int,d=tp w/\w.length<=5/\∀ i∈w,0<=i/\i<c)/\(x≠one 101->(∃ p∈zV x (one 46),wy c p=.none)->d=.none):=by
 have lV:=eq_str hx (eX (c:=101) (by decide));have l0:leB 0 lim=true:=cU (by omega)
 by_cases h1:x=one 101
 ·rw[decide_eq_true h1]at lV
  have eq:aK (.str x) (.str (zj "e"))=.ok (.bool true):=lV;have key:∀{q:EF},(ag (ao (tB (e2 aK (eV 0) (eC (.str (zj "e"))))) (ak (bq af)) aw) (ag (fj 2 (bx 2 q)) (ag (ao (FL.aB (tB (e2 i9 (eC .none) (eV 2))) (tB (e2 gC (e1 bz (eV 2)) (eC (.int 5))))) (ak (eC .none)) aw) (ak (e1 gu (eV 2)))))) [.val (.str x),.val (.int c),.no]=.ok (.rt (tp []),[.val (.str x),.val (.int c),.no]):=fun{q}=>by
   simp only[ag,ao,tB,FL.e2,eV,eC,ak,bq,af,ah,zz0,eq,if_true,zG,l0,aR]
   rfl
  exact⟨tp [],dH rfl key,dH rfl key,.inr ⟨[],rfl,by simp,fun i h=>by simp at h⟩,fun z=>absurd h1 z⟩
 ·rw[decide_eq_false h1]at lV
  have eq:aK (.str x) (.str (zj "e"))=.ok (.bool false):=lV;have S:=qu hx hl 46;generalize zV x (one 46)=l at S;have so:strOf (.str x)=.ok x:=rfl;have sp:eD x (.str (zj "."))=.ok (.list (l.map zg)):=S.sp;have hq:∀{F:List D->R D},(∀ p∈l,F [.str p,.int c]=.ok (wy c p))->dB 1 [1] (iE (bt eD (eV 0) (eC (.str (zj "."))))) (gN 0) du (az F (aa (eV 0) (aa (eV 1) af))) [.val (.str x),.val (.int c),.no]=.ok (.list (l.map (wy c)),[.val (.str x),.val (.int c),.no]):=fun{F} hF=>by
   rw[q8 (f0:=zg) (xs:=l) (wy c) (by simp only[iE,bt,eV,eC,zz0,ah,so,sp,gE]) (by have:=S.ln;show _<=1000000;omega) fun p mp=>?_];exact⟨[.val (.str p),.val (.int c)],rfl,by simp only[az,aa,af,eV,zz0,zz1,ah,hF p mp],qS trivial⟩
  have q1:zdm [.val (.str x),.val (.int c),.no]=_:=hq fun p mp=>(zi3 (S.as p mp) (by have:=S.le p mp;omega) c).1;have q2:zdh [.val (.str x),.val (.int c),.no]=_:=hq fun p mp=>(zi3 (S.as p mp) (by have:=S.le p mp;omega) c).2;have wc:=fun p=>zuB c p;have xI:∃ b,i9 .none (.list (l.map (wy c)))=.ok (.bool b)/\(b=false->∀ p∈l,wy c p≠.none):=by
   have sh:AZ (.list (l.map (wy c)))=true:=Pl.shaped (n:=1) (yd fun d m=>by
    obtain⟨p,_,rfl⟩:=zZ.mp m;rcases wc p with⟨n,e,_⟩|e
    ·rw[e];exact mK _
    ·rw[e];exact zhM)
   have sn:AZ Cq=true:=rfl;refine⟨_,aR (by rw[sh,sn];rfl),fun hb p hp e=>?_⟩;rw[List.any_eq_false]at hb;have:=hb (wy c p) (zZ.mpr ⟨p,hp,rfl⟩);rw[e]at this;simp[A0]at this
  obtain⟨b,ib,hb⟩:=xI;have ll:bz (.list (l.map (wy c)))=.ok (.int (l.length:Int)):=by
   show R.ok (zH ((l.map (wy c)).length:Int))=_;rw[zL]
  have gt:gC (.int (l.length:Int)) (.int 5)=.ok (.bool (decide ((5:Int)<(l.length:Int)))):=rq ..;have tu:gu (.list (l.map (wy c)))=.ok (.tuple (l.map (wy c))):=rfl;have key:∀{q:EF},q [.val (.str x),.val (.int c),.no]=.ok (.list (l.map (wy c)),[.val (.str x),.val (.int c),.no])->(ag (ao (tB (e2 aK (eV 0) (eC (.str (zj "e"))))) (ak (bq af)) aw) (ag (fj 2 (bx 2 q)) (ag (ao (FL.aB (tB (e2 i9 (eC .none) (eV 2))) (tB (e2 gC (e1 bz (eV 2)) (eC (.int 5))))) (ak (eC .none)) aw) (ak (e1 gu (eV 2)))))) [.val (.str x),.val (.int c),.no]=.ok (.rt (if b=true\/5<l.length then .none else .tuple (l.map (wy c))),[.val (.str x),.val (.int c),.val (.list (l.map (wy c)))]):=fun{q} hq=>by
   have s1:fj 2 (bx 2 q) [.val (.str x),.val (.int c),.no]=.ok (.nx,[.val (.str x),.val (.int c),.val (.list (l.map (wy c)))]):=by
    unfold fj;rw[zdq (i:=2) (x:=.no) hq rfl di]
    rfl
   have s0:ao (tB (e2 aK (eV 0) (eC (.str (zj "e"))))) (ak (bq af)) aw [.val (.str x),.val (.int c),.no]=.ok (.nx,[.val (.str x),.val (.int c),.no]):=by
    simp only[ao,tB,FL.e2,eV,eC,aw,ah,zz0,eq,zm,if_false]
   refine(aS s0).trans ((aS s1).trans ?_);cases b with
   | true =>
    rw[if_pos (.inl rfl)];simp only[ag,ao,FL.aB,tB,FL.e2,eV,eC,ak,aw,ah,zz0,zz1,ib,if_true]
   | false =>
    by_cases h5:5<l.length
    ·rw[if_pos (.inr h5)]
     have gt':=gt;rw[decide_eq_true (by omega)]at gt';simp only[ag,ao,FL.aB,tB,FL.e1,FL.e2,eV,eC,ak,aw,ah,zz0,zz1,ib,ll,gt',zm,if_false,if_true]
    ·rw[if_neg (fun z=>z.elim (fun z=>by cases z) h5)]
     have gt':=gt;rw[decide_eq_false (by omega)]at gt';simp only[ag,ao,FL.aB,tB,FL.e1,FL.e2,eV,eC,ak,aw,ah,zz0,zz1,ib,ll,gt',tu,zm,if_false]
  refine⟨_,dH rfl (key q1),dH rfl (key q2),?_,fun _ z=>if_pos (.inl (by
   cases b with
   | true=>rfl
   | false=>obtain⟨p,mp,e⟩:=z;exact absurd e (hb rfl p mp)))⟩
  by_cases hc:b=true\/5<l.length
  ·rw[if_pos hc];exact .inl rfl
  ·rw[if_neg hc]
   refine .inr ?_;have bf:b=false:=by
    cases b with
    | false=>rfl
    | true=>exact absurd (.inl rfl) hc
   have nn:=hb bf;have hw:∀ p∈l,∃ i:Int,wy c p=.int i/\0<=i/\i<c:=fun p hp=>by
    rcases wc p with⟨n,e,hn⟩|e
    ·exact⟨n,e,by omega,hn⟩
    ·exact absurd e (nn p hp)
   have ex:∀ m:List dm,(∀ p∈m,∃ i:Int,wy c p=.int i/\0<=i/\i<c)->∃ w:List Int,m.map (wy c)=w.map zH/\w.length=m.length/\∀ i∈w,0<=i/\i<c:=by
    intro m
    induction m with
    | nil=>exact fun _=>⟨[],rfl,rfl,fun i h=>nomatch h⟩
    | cons p r ih =>
     intro h;obtain⟨i,e,hi⟩:=h p (by simp);obtain⟨w,e1,e2,e3⟩:=ih fun p' hp=>h p' (z0 _ hp);exact⟨i::w,by rw[zE,zE,e,e1],by simp[e2],fun k hk=>by
      rcases zS.mp hk with rfl|hk
      ·exact hi
      ·exact e3 k hk⟩
   obtain⟨w,e1,e2,e3⟩:=ex l hw;exact⟨w,by rw[e1],by omega,e3⟩
end
variable {y:dm}
section
theorem zf6(p:Int)(n:Nat):vP [.tuple [.int p,.int n]]=.ok (.bool (decide (1<=n/\zR p (n:Int)=1))):=by
 have k1:jy "tuple" (.tuple [.int p,.int n])=.ok (.bool true):=rfl;have wh:∀ i:Int,vQ [.int i]=.ok (.bool true):=fun _=>rfl;have k3:dD (.int n) (.int 1)=.ok (.bool (decide ((n:Int)<1))):=nU ..;have k4:zag [.int p,.int n]=.ok (.int (zR p (n:Int):Int)):=zmv _ _;have k5:bR (.int 2) (.int 2)=.ok (.bool false):=by rw[pX];rfl
 have k6:aK (.int (zR p (n:Int):Int)) (.int 1)=.ok (.bool (decide ((zR p (n:Int):Int)=1))):=gM ..;have l2:bz (.tuple [.int p,.int n])=.ok (.int 2):=rfl;have s1:ao (FL.aB (FL.bI (tE (FL.e1 (jy "tuple") (eV 0)))) (tB (FL.e2 bR (FL.e1 bz (eV 0)) (eC (.int 2))))) (ak (eC (.bool false))) aw [.val (.tuple [.int p,.int n]),.no,.no]=.ok (.nx,[.val (.tuple [.int p,.int n]),.no,.no]):=by
  simp only[ao,FL.aB,FL.bI,tE,tB,FL.e1,FL.e2,eV,eC,aw,ah,zz0,k1,l2,k5,cH,Aa,zm,if_false,if_true]
 have s2:ax (gT [gN 1,gN 2]) (eV 0) [.val (.tuple [.int p,.int n]),.no,.no]=.ok (.nx,[.val (.tuple [.int p,.int n]),.val (.int p),.val (.int n)]):=rfl;refine dH (ρ:=[.val (.tuple [.int p,.int n]),.val (.int p),.val (.int n)]) rfl ?_;show wB [.val (.tuple [.int p,.int n]),.no,.no]=_;unfold wB;rw[aS s1,aS s2]
 by_cases h:1<=n
 ·rw[decide_eq_false (by omega)]at k3
  have e:decide ((zR p (n:Int):Int)=1)=decide (1<=n/\zR p (n:Int)=1):=by
   rw[decide_eq_decide];constructor
   ·intro z;exact⟨h,by omega⟩
   ·intro z;have:=z.2;omega
  rw[e]at k6;simp only[ag,ao,FL.aB,FL.bI,tE,az,aa,eV,zz1,zz0,af,ah,wh,cH,Aa,tB,FL.e2,eC,zm,k3,if_false,ak,aw,k4,k6]
 ·rw[decide_eq_true (by omega)]at k3
  rw[decide_eq_false (fun z=>h z.1)];simp only[ag,ao,FL.aB,FL.bI,tE,az,aa,eV,zz1,zz0,af,ah,wh,cH,Aa,tB,FL.e2,eC,zm,k3,if_false,if_true,ak,aw]
theorem zoW(m n:Nat)(h:1<=n)(hn:n<10^9):∃ z,lI [.int m,.int n]=.ok z/\bR z (.tuple [.int m,.int n])=.ok (.bool (!decide (zR (m:Int) (n:Int)=1))):=by
 refine⟨_,zg3 (m:Int) (b:=n) (n:=60) (by omega) (Cp hn (by decide)) (by decide),?_⟩;have pl:∀ a b:Int,Pl 1 (.tuple [.int a,.int b]):=fun a b=>ye fun d h=>by
  simp only[zS,CB,or_false]at h;rcases h with rfl|rfl <;> exact mK _
 rw[uW (pl _ _) (pl _ _)]
 congr 3
 rw[Ec,decide_eq_true_iff];have f:Q1.fr (m:Int) (n:Int)=((m:Int) / (zR (m:Int) (n:Int):Int),(n:Int) / (zR (m:Int) (n:Int):Int)):=Q1.zbA (by omega);rw[f];simp only[A0,DM,Bool.and_true,zX,beq_iff_eq,decide_eq_true_eq];have gp:0<zR (m:Int) (n:Int):=by
  rcases Et (zR (m:Int) (n:Int))with z|z
  ·have:=(Int.gcd_eq_zero_iff.mp z).2;omega
  ·exact z
 constructor
 ·rintro⟨_,e2⟩
  by_cases g1:zR (m:Int) (n:Int)=1
  ·exact g1
  ·have:(n:Int) / (zR (m:Int) (n:Int):Int)<(n:Int):=Int.ediv_lt_self_of_pos_of_ne_one (by omega) (by omega)
   omega
 ·intro g
  rw[g];simp
structure hU(x:dm)(s:Bool)(y:dm):Prop where
 eq:TX.cp x=if s=true then 45::TX.cp y else TX.cp y
 no:s=false->(TX.cp x)[0]?≠some 45
theorem sgn(x:dm):∃ s y,hU x s y:=by
 cases e:TX.cp x with
 | nil=>exact⟨false,x,by simp,fun _=>by rw[e];simp⟩
 | cons c r =>
  by_cases h:c=45
  ·refine⟨true,⟨r.toArray⟩,?_,fun z=>by cases z⟩
   rw[e,h];simp[TX.cp]
  ·exact⟨false,x,by simp,fun _=>by rw[e];simpa using h⟩
theorem hU.as(h:hU x s y)(hx:As x):As y:=fun c hc=>hx c (by rw[h.eq];split <;> simp[hc])
theorem hU.le(h:hU x s y):y.length<=x.length:=by
 rw[cO,cO x,h.eq]
 split <;> simp
theorem hU.st(h:hU x s y):zdx x (.str (zj "-"))=.ok (.bool s):=by
 show R.ok (Bb (Ek x (one 45)))=_;rw[ztr]
 congr 2
 cases s with
 | true=>rw[h.eq];simp
 | false=>exact decide_eq_false (h.no rfl)
theorem hU.sl(h:hU x true y)(hl:x.length<=100000):oz (.str x) (some 1) none=.ok (.str y):=by
 have hcp:=h.eq;rw[if_pos rfl]at hcp;show aN _ _=_;rw[aR (cU (by omega)),HI (x:=x) (i:=1) (b:=(x.length:Int)) (by decide) (by rw[cO,hcp];simp;omega) rfl]
 congr 2
 refine ext ?_;show(((TX.cp x).drop 1).take _)=_;rw[cO,hcp];simp;exact EG (by simp[TX.cp])
end
variable {r:SF}{l:List dm}
section
theorem zaT(x:dm):TX.cp (Ay x none (some 1))=(TX.cp x).take 1:=by
 have e:Fq none (some 1) 1 x.length=if x.length=0 then [] else [0]:=by
  by_cases h:x.length=0
  ·rw[if_pos h,h];rfl
  ·rw[if_neg h]
   have:Fq none (some 1) 1 x.length=Fq none (some 1) 1 1:=by
    have m:max (0:Int) (min 1 (x.length:Int))=1:=by omega
    show sliceRange 0 (max 0 (min 1 (x.length:Int))) 1=_;rw[m];rfl
   rw[this];rfl
 unfold Ay;rw[e]
 by_cases h:x.length=0
 ·rw[if_pos h,if_pos (by rw[h];rfl)]
  have:TX.cp x=[]:=HJ (by rw[<- cO,h]);rw[this];rfl
 ·rw[if_neg h]
  have hl:(TX.cp x).length=x.length:=(cO x).symm;cases hc:TX.cp x with
  | nil=>rw[hc]at hl;exact absurd hl.symm h
  | cons c r =>
   have hg:x.cps[0]?=some c:=by
    rw[<- Fd];show(TX.cp x)[0]?=_;rw[hc];rfl
   split
   ·rename_i k
    have:r=[]:=by
     rw[hc]at hl;simp at k hl;exact HJ (by omega)
    rw[hc,this];rfl
   ·show([0].filterMap fun i=>x.cps[i]?)=_
    simp[hg]
theorem hU.cut(h:hU x s y)(hx:As x)(hl:x.length<=100000):∃ z,oz (.str x) none (some 1)=.ok z/\aK z (.str (zj "-"))=.ok (.bool s):=by
 refine⟨_,aR (cU (by omega)),?_⟩;have ha:As (Ay x none (some 1)):=fun c hc=>hx c (Fo (by rw[zaT]at hc;exact hc));refine(eq_str (b:=one 45) ha (eX (by decide))).trans ?_
 congr 2
 have k:Ay x none (some 1)=one 45↔(TX.cp x)[0]?=some 45:=by
  constructor
  ·intro z
   have:=congrArg TX.cp z;rw[zaT]at this;cases hc:TX.cp x with
   | nil=>rw[hc]at this;simp[TX.cp]at this
   | cons c r =>
    rw[hc]at this;have e2:[c]=[45]:=this;rw[(GD e2).1];rfl
  ·intro z
   refine ext ?_;rw[zaT];cases hc:TX.cp x with
   | nil=>rw[hc]at z;simp at z
   | cons c r =>
    rw[hc]at z;have:c=45:=by simpa using z
    rw[this];rfl
 cases s with
 | true=>exact decide_eq_true (k.mpr (by rw[h.eq];rfl))
 | false=>exact decide_eq_false fun z=>h.no rfl (k.mp z)
noncomputable def sT(s:Bool)(d:D):D:=match d with
 | .int n=>if s=true then(if n=0 then .none else .int (-n)) else .int n
 | _=>.none
theorem ziG(h:hU x s y)(hx:As x)(hl:x.length<=100000):qE [.str x]=.ok (sT s (wh y)):=by
 have so:strOf (.str x)=.ok x:=rfl;have st:=h.st;cases s with
 | false =>
  have e:x=y:=ext (by rw[h.eq];simp);have w:ko [.str x]=.ok (sT false (wh y)):=by
   rw[yR hx hl,e];rcases jH y with⟨n,_,_,w⟩|⟨_,w⟩ <;> rw[w] <;> rfl
  refine dH (ρ:=[.val (.str x),.no]) rfl ?_;show qQ [.val (.str x),.no]=_;unfold qQ;simp only[ag,ao,FL.bI,tE,bt,az,aa,af,eV,eC,ak,aw,ah,zz0,so,st,w,cH,Aq,if_true]
 | true =>
  have sl:=h.sl hl;have w:=yR (h.as hx) (by have:=h.le;omega:y.length<=100000);refine dH (ρ:=[.val (.str x),.val (wh y)]) rfl ?_;show qQ [.val (.str x),.no]=_;unfold qQ;rcases jH y with⟨n,_,_,e⟩|⟨_,e⟩
  ·rw[e]at w ⊢
   have e0:aK (.int n) (.int 0)=.ok (.bool (decide ((n:Int)=0))):=gM ..;have ng:iN (.int n)=.ok (.int (-(n:Int))):=rfl
   by_cases k:(n:Int)=0
   ·rw[decide_eq_true k]at e0
    rw[show sT true (.int n)=.none from if_pos k];simp only[ag,ao,FL.bI,FL.aB,tE,tB,bt,ax,gN,az,aa,af,cE,bL,bK,FL.e1,FL.e2,eV,eC,ak,aw,ah,zz0,zz1,zO,zP,so,st,sl,w,mB,e0,cH,Aa,zm,if_false,if_true]
   ·rw[decide_eq_false k]at e0
    rw[show sT true (.int n)=.int (-(n:Int)) from if_neg k];simp only[ag,ao,FL.bI,FL.aB,tE,tB,bt,ax,gN,az,aa,af,cE,bL,bK,FL.e1,FL.e2,eV,eC,ak,aw,ah,zz0,zz1,zO,zP,so,st,sl,w,mB,e0,ng,cH,Aa,zm,if_false]
  ·rw[e]at w ⊢
   simp only[ag,ao,FL.bI,FL.aB,tE,tB,bt,ax,gN,az,aa,af,cE,bL,bK,FL.e1,FL.e2,eV,eC,ak,aw,ah,zz0,zz1,zO,zP,so,st,sl,w,is_none,cH,Aa,zm,if_false,if_true]
   rfl
abbrev sg(s:Bool):Int:=if s=true then -1 else 1
theorem zoH(h:hU x s y)(hx:As x)(hl:x.length<=100000)(hs:Spl y 47 l):(ag (ax (gN 1) (eC (.int 1))) (ag (ao (tB (e2 aK (cE (eV 0) bK (bL (eC (.int 1)))) (eC (.str (zj "-"))))) (ag (ax (gN 1) (e1 iN (eC (.int 1)))) (ax (gN 0) (cE (eV 0) (bL (eC (.int 1))) bK))) aw) (ag (ax (gN 2) (bt eD (eV 0) (eC (.str (zj "/"))))) (ag (fj 3 (bx 3 sD)) r)))) [.val (.str x),.no,.no,.no]=r [.val (.str y),.val (.int (sg s)),.val (.list (l.map zg)),.val (.list (l.map wh))]:=by
 obtain⟨z,c1,c2⟩:=h.cut hx hl;have s1:ax (gN 1) (eC (.int 1)) [.val (.str x),.no,.no,.no]=.ok (.nx,[.val (.str x),.val (.int 1),.no,.no]):=rfl;have s2:ao (tB (e2 aK (cE (eV 0) bK (bL (eC (.int 1)))) (eC (.str (zj "-"))))) (ag (ax (gN 1) (e1 iN (eC (.int 1)))) (ax (gN 0) (cE (eV 0) (bL (eC (.int 1))) bK))) aw [.val (.str x),.val (.int 1),.no,.no]=.ok (.nx,[.val (.str y),.val (.int (sg s)),.no,.no]):=by
  have ng:iN (.int 1)=.ok (.int (-1)):=rfl;cases s with
  | true =>
   have sl:=h.sl hl;simp only[ao,tB,FL.e2,FL.e1,cE,bK,bL,eV,eC,ag,ax,gN,ah,zz0,zz1,zO,zP,c1,c2,ng,sl,if_true]
   rfl
  | false =>
   have e:x=y:=ext (by rw[h.eq];simp);subst e;simp only[ao,tB,FL.e2,FL.e1,cE,bK,bL,eV,eC,aw,ah,zz0,c1,c2,zm,if_false]
   rfl
 have so:strOf (.str y)=.ok y:=rfl;have sp:eD y (.str (zj "/"))=.ok (.list (l.map zg)):=hs.sp;have s3:ax (gN 2) (bt eD (eV 0) (eC (.str (zj "/")))) [.val (.str y),.val (.int (sg s)),.no,.no]=.ok (.nx,[.val (.str y),.val (.int (sg s)),.val (.list (l.map zg)),.no]):=by
  simp only[ax,gN,bt,eV,eC,ah,zz0,zz1,zO,zP,so,sp]
 have yl:=h.le;have q:sD [.val (.str y),.val (.int (sg s)),.val (.list (l.map zg)),.no]=.ok (.list (l.map wh),[.val (.str y),.val (.int (sg s)),.val (.list (l.map zg)),.no]):=by
  unfold sD;rw[q8 (f0:=zg) (xs:=l) wh (by simp only[iE,eV,zz0,zz1,ah,gE]) (by have:=hs.ln;show _<=1000000;omega) fun p mp=>?_];exact⟨[.val (.str p)],rfl,by simp only[az,aa,af,eV,zz0,zz1,ah,zfS (hs.as p mp) (by have:=hs.le p mp;omega:p.length<=100000)],qS trivial⟩
 have s4:fj 3 (bx 3 sD) [.val (.str y),.val (.int (sg s)),.val (.list (l.map zg)),.no]=.ok (.nx,[.val (.str y),.val (.int (sg s)),.val (.list (l.map zg)),.val (.list (l.map wh))]):=by
  unfold fj;rw[zdq (i:=3) (x:=.no) q rfl di]
  rfl
 rw[aS s1,aS s2,aS s3,aS s4]
end
variable {ρ:En}{r:List dm}{q:dm}{a:D}
section
abbrev nW:SF:=(ag (ao (FL.aB (tB (e2 i9 (eC .none) (eV 3))) (FL.aB (tB (e2 gC (e1 bz (eV 3)) (eC (.int 2)))) (FL.bT (tB (e2 aK (eV 1) (e1 iN (eC (.int 1))))) (tB (e2 aK (e2 aD (eV 3) (eC (.int 0))) (eC (.int 0))))))) (ak (eC .none)) aw)
  (ag (ao (tB (e2 aK (e1 bz (eV 3)) (eC (.int 1)))) (ak (bq (aa (e2 cP (eV 1) (e2 aD (eV 3) (eC (.int 0)))) (aa (eC (.int 1)) af)))) aw)
  (ag (ao (FL.aB (tB (e2 dD (e2 aD (eV 3) (eC (.int 1))) (eC (.int 2)))) (tB (e2 bR (az lI (aa (e2 aD (eV 3) (eC (.int 0))) (aa (e2 aD (eV 3) (eC (.int 1))) af))) (bq (aa (e2 aD (eV 3) (eC (.int 0))) (aa (e2 aD (eV 3) (eC (.int 1))) af)))))) (ak (eC .none)) aw)
  (ak (bq (aa (e2 cP (eV 1) (e2 aD (eV 3) (eC (.int 0)))) (aa (e2 aD (eV 3) (eC (.int 1))) af)))))))
abbrev fK(y:dm)(s:Bool)(p:D)(ds:List D):En:=[.val (.str y),.val (.int (sg s)),.val p,.val (.list ds)]
theorem zgS{x y:dm}{s:Bool}(h:hU x s y)(hx:As x)(hl:x.length<=100000){l:List dm}(hs:Spl y 47 l){d:D}{ρ:En}(ht:nW (fK y s (.list (l.map zg)) (l.map wh))=.ok (.rt d,ρ)):ph [.str x]=.ok d:=by
 refine dH (ρ:=ρ) rfl ?_;show wo [.val (.str x),.no,.no,.no]=_;unfold wo;exact(zoH h hx hl hs).trans ht
theorem nQ{l:List D}:aD (.list (a::l)) (.int 0)=.ok a:=by
 show R.of (bX (a::l) ((0:Nat):Int))=_;rw[ni (by simp)];rfl
theorem uI{b:D}{l:List D}:aD (.list (a::b::l)) (.int 1)=.ok b:=by
 show R.of (bX (a::b::l) ((1:Nat):Int))=_;rw[ni (by simp)];rfl
theorem zhg(s:Bool)(h:n<10^9):cP (.int (sg s)) (.int n)=.ok (.int (sg s*(n:Int))):=by
 have h1:Bd (sg s) 1:=⟨by cases s <;> decide⟩;have h2:Bd (n:Int) 60:=⟨by
  have:n<2^60:=Cp h (by decide)
  omega⟩
 exact jA h1 h2 (by decide)
theorem zgm(l:List dm):∃ b,i9 .none (.list (l.map wh))=.ok (.bool b)/\(b=true↔∃ p∈l,wh p=.none):=by
 have sh:AZ (.list (l.map wh))=true:=Pl.shaped (n:=1) (yd fun d m=>by
  obtain⟨p,_,rfl⟩:=zZ.mp m;rcases jH p with⟨n,_,_,e⟩|⟨_,e⟩
  ·rw[e];exact mK _
  ·rw[e];exact zhM)
 have sn:AZ Cq=true:=rfl;refine⟨_,aR (by rw[sh,sn];rfl),?_⟩;rw[List.any_eq_true]
 constructor
 ·rintro⟨d,m,e⟩
  obtain⟨p,mp,rfl⟩:=zZ.mp m;rcases jH p with⟨n,_,_,w⟩|⟨_,w⟩
  ·rw[w]at e;simp[A0]at e
  ·exact⟨p,mp,w⟩
 ·rintro⟨p,mp,w⟩
  exact⟨wh p,zZ.mpr ⟨p,mp,rfl⟩,by rw[w];rfl⟩
theorem vE(h:(∃ p∈l,wh p=.none)\/2<l.length\/(s=true/\∃ p r,l=p::r/\wh p=.int 0)):nW (fK y s p (l.map wh))=.ok (.rt .none,fK y s p (l.map wh)):=by
 obtain⟨b,ib,hb⟩:=zgm l;have ll:bz (.list (l.map wh))=.ok (.int (l.length:Int)):=by
  show R.ok (zH ((l.map wh).length:Int))=_;rw[zL]
 have gt:gC (.int (l.length:Int)) (.int 2)=.ok (.bool (decide ((2:Int)<(l.length:Int)))):=rq ..;cases b with
 | true=>simp only[nW,fK,ag,ao,FL.aB,tB,FL.e2,eV,eC,ak,aw,ah,zz0,zz1,ib,if_true]
 | false =>
  have h':=h.resolve_left fun z=>by have:=hb.mpr z;cases this
  by_cases h2:2<l.length
  ·rw[decide_eq_true (by omega)]at gt
   simp only[nW,fK,ag,ao,FL.aB,tB,FL.e1,FL.e2,eV,eC,ak,aw,ah,zz0,zz1,ib,ll,gt,zm,if_false,if_true]
  ·rw[decide_eq_false (by omega)]at gt
   obtain⟨rfl,q,r,rfl,w⟩:=h'.resolve_left h2;have e1:aK (.int (sg true)) (.int (-1))=.ok (.bool true):=by rw[gM];rfl
   have ng:iN (.int 1)=.ok (.int (-1)):=rfl;have ix:aD (.list ((q::r).map wh)) (.int 0)=.ok (.int 0):=by
    rw[zE,w];exact nQ
   have e0:aK (.int 0) (.int 0)=.ok (.bool true):=by rw[gM];rfl
   simp only[nW,fK,ag,ao,FL.aB,FL.bT,tB,FL.e1,FL.e2,eV,eC,ak,aw,ah,zz0,zz1,ib,ll,gt,ng,e1,ix,e0,zm,if_false,if_true]
theorem ziB(hl:l=q::r)(hr:r.length<=1)(hq:wh q=.int n)(hn:∀ p∈l,wh p≠.none)(hs:s=true->n≠0)(ht:(ag (ao (tB (e2 aK (e1 bz (eV 3)) (eC (.int 1)))) (ak (bq (aa (e2 cP (eV 1) (e2 aD (eV 3) (eC (.int 0)))) (aa (eC (.int 1)) af)))) aw)
  (ag (ao (FL.aB (tB (e2 dD (e2 aD (eV 3) (eC (.int 1))) (eC (.int 2)))) (tB (e2 bR (az lI (aa (e2 aD (eV 3) (eC (.int 0))) (aa (e2 aD (eV 3) (eC (.int 1))) af))) (bq (aa (e2 aD (eV 3) (eC (.int 0))) (aa (e2 aD (eV 3) (eC (.int 1))) af)))))) (ak (eC .none)) aw)
  (ak (bq (aa (e2 cP (eV 1) (e2 aD (eV 3) (eC (.int 0)))) (aa (e2 aD (eV 3) (eC (.int 1))) af)))))) (fK y s p (l.map wh))=.ok (.rt d,ρ)):nW (fK y s p (l.map wh))=.ok (.rt d,ρ):=by
 obtain⟨b,ib,hb⟩:=zgm l;have bf:b=false:=by
  cases b with
  | false=>rfl
  | true=>obtain⟨p,mp,w⟩:=hb.mp rfl;exact absurd w (hn p mp)
 rw[bf]at ib;have ll:bz (.list (l.map wh))=.ok (.int (l.length:Int)):=by
  show R.ok (zH ((l.map wh).length:Int))=_;rw[zL]
 have gt:gC (.int (l.length:Int)) (.int 2)=.ok (.bool false):=by
  rw[rq,decide_eq_false (by rw[hl];simp;omega)]
 have ng:iN (.int 1)=.ok (.int (-1)):=rfl;have ix:aD (.list (l.map wh)) (.int 0)=.ok (.int n):=by
  rw[hl,zE,hq];exact nQ
 have e0:aK (.int n) (.int 0)=.ok (.bool (decide ((n:Int)=0))):=gM ..;have s1:ao (FL.aB (tB (e2 i9 (eC .none) (eV 3))) (FL.aB (tB (e2 gC (e1 bz (eV 3)) (eC (.int 2)))) (FL.bT (tB (e2 aK (eV 1) (e1 iN (eC (.int 1))))) (tB (e2 aK (e2 aD (eV 3) (eC (.int 0))) (eC (.int 0))))))) (ak (eC .none)) aw (fK y s p (l.map wh))=.ok (.nx,fK y s p (l.map wh)):=by
  cases s with
  | false =>
   have e1:aK (.int (sg false)) (.int (-1))=.ok (.bool false):=by rw[gM];rfl
   simp only[fK,ao,FL.aB,FL.bT,tB,FL.e1,FL.e2,eV,eC,aw,ah,zz0,zz1,ib,ll,gt,ng,e1,zm,if_false]
  | true =>
   have e1:aK (.int (sg true)) (.int (-1))=.ok (.bool true):=by rw[gM];rfl
   rw[decide_eq_false (by have:=hs rfl;omega)]at e0;simp only[fK,ao,FL.aB,FL.bT,tB,FL.e1,FL.e2,eV,eC,aw,ah,zz0,zz1,ib,ll,gt,ng,e1,ix,e0,zm,if_false,if_true]
 exact(aS s1).trans ht
theorem l2:leB 2 lim=true:=by decide
theorem ztT(hq:wh q=.int n)(hn9:n<10^9)(hs:s=true->n≠0):nW (fK y s p ([q].map wh))=.ok (.rt (.tuple [.int (sg s*(n:Int)),.int 1]),fK y s p ([q].map wh)):=by
 refine ziB (q:=q) (r:=[]) rfl (by simp) hq (fun p mp=>by rw[Cj.mp mp,hq];simp) hs ?_;have ll:bz (.list ([q].map wh))=.ok (.int 1):=rfl;have e1:aK (.int 1) (.int 1)=.ok (.bool true):=by rw[gM];rfl
 have ix:aD (.list ([q].map wh)) (.int 0)=.ok (.int n):=by rw[zE,hq];exact nQ
 have mu:cP (.int (sg s)) (.int n)=.ok (.int (sg s*(n:Int))):=zhg s hn9;simp only[fK,ag,ao,tB,FL.e1,FL.e2,eV,eC,ak,aw,bq,aa,af,ah,zz0,zz1,ll,e1,ix,mu,if_true,zB,zG,Ab,aR l2]
theorem ztU{q':dm}{m:Nat}(hq:wh q=.int m)(nM:wh q'=.int n)(hs:s=true->m≠0)(hm:m<10^9)(hn:n<10^9):nW (fK y s p ([q,q'].map wh))=.ok (.rt (if 2<=n/\zR (m:Int) (n:Int)=1 then .tuple [.int (sg s*(m:Int)),.int n] else .none),fK y s p ([q,q'].map wh)):=by
 refine ziB (q:=q) (r:=[q']) rfl (by simp) hq (fun p mp=>by
  rcases zS.mp mp with rfl|mp
  ·rw[hq];simp
  ·rw[Cj.mp mp,nM];simp) hs ?_
 have ll:bz (.list ([q,q'].map wh))=.ok (.int 2):=rfl;have e1:aK (.int 2) (.int 1)=.ok (.bool false):=by rw[gM];rfl
 have dd:[q,q'].map wh=[.int m,.int n]:=by rw[zE,zE,hq,nM];rfl
 have ix:aD (.list ([q,q'].map wh)) (.int 0)=.ok (.int m):=by rw[dd];exact nQ
 have pT:aD (.list ([q,q'].map wh)) (.int 1)=.ok (.int n):=by rw[dd];exact uI
 have mu:cP (.int (sg s)) (.int m)=.ok (.int (sg s*(m:Int))):=zhg s hm;have lt:dD (.int n) (.int 2)=.ok (.bool (decide ((n:Int)<2))):=nU ..
 by_cases h2:2<=n
 ·rw[decide_eq_false (by omega)]at lt
  obtain⟨z,z1,z2⟩:=zoW m n (by omega) hn
  by_cases g:zR (m:Int) (n:Int)=1
  ·rw[decide_eq_true g]at z2
   rw[if_pos ⟨h2,g⟩];simp only[fK,ag,ao,FL.aB,tB,FL.e1,FL.e2,eV,eC,ak,aw,bq,az,aa,af,ah,zz0,zz1,ll,e1,ix,pT,mu,lt,z1,z2,Aa,zm,if_false,zB,zG,Ab,aR l2]
  ·rw[decide_eq_false g]at z2
   rw[if_neg (fun z=>g z.2)];simp only[fK,ag,ao,FL.aB,tB,FL.e1,FL.e2,eV,eC,ak,aw,bq,az,aa,af,ah,zz0,zz1,ll,e1,ix,pT,mu,lt,z1,z2,Aq,zm,if_false,if_true,zB,zG,Ab,aR l2]
 ·rw[decide_eq_true (by omega)]at lt
  rw[if_neg (fun z=>h2 z.1)];simp only[fK,ag,ao,FL.aB,tB,FL.e1,FL.e2,eV,eC,ak,aw,ah,zz0,zz1,ll,e1,pT,lt,zm,if_false,if_true]
end
variable {i:Int}{a b m:dm}{r:En}{q:Rat}
section
theorem zil(h:c∉TX.cp a):zV (a++one c++b) (one c)=a::zV b (one c):=by
 have ne:=vA b c;have jn:Ak (one c) (zV b (one c))=b:=DK _ _;have fr:∀ p∈zV b (one c),c∉TX.cp p:=fun p hp=>Fp b c p hp;generalize zV b (one c)=l at ne jn fr;cases l with
 | nil=>exact absurd rfl ne
 | cons p r =>
  have:=zdu (c:=c) (ps:=a::p::r) (by simp) fun x hx=>by
   rcases zS.mp hx with rfl|hx
   ·exact h
   ·exact fr x hx
  rw[mE,jn]at this;exact this
theorem sI(h:c∉TX.cp b):zV b (one c)=[b]:=by
 have:=zdu (c:=c) (ps:=[b]) (by simp) fun x hx=>by rw[Cj.mp hx];exact h
 exact this
theorem zim(h:c∈TX.cp b):2<=(zV b (one c)).length:=by
 have ne:=vA b c;have jn:Ak (one c) (zV b (one c))=b:=DK _ _;have fr:∀ p∈zV b (one c),c∉TX.cp p:=fun p hp=>Fp b c p hp;generalize zV b (one c)=l at ne jn fr
 match l,ne,jn,fr with
 | [],ne,_,_=>exact absurd rfl ne
 | [p],_,jn,fr =>
  have:p=b:=jn;exact absurd h (by rw[<- this];exact fr p (by simp))
 | _::_::_,_,_,_=>simp
theorem ya(hl:x.length<=100000)(h:L2.oi x (one c)=[a,m,b]):kU x (.str (one c))=.ok (.tuple [.str a,.str m,.str b]):=by
 have b1:(!((one c).length==0)&&leB x.length lim)=true:=by
  rw[cU (by omega:x.length<=1000000)];rfl
 refine(aR b1).trans ?_;rw[h];rfl
theorem zsR(hl:x.length<=100000)(h:(47:Nat)∉TX.cp x):(qE [.str x]=.ok .none->iU [.str x]=.ok .none)/\∀ i:Int,qE [.str x]=.ok (.int i)->iU [.str x]=.ok (.tuple [.int i,.int 1]):=by
 have so:strOf (.str x)=.ok x:=rfl;have pt:kU x (.str (zj "/"))=.ok (.tuple [.str x,.str Ax,.str Ax]):=ya hl (zhF h);have tx:zdD (.str Ax)=.ok false:=rfl
 constructor
 ·intro rt
  refine dH (ρ:=[.val (.str x),.val (.str x),.val (.str Ax),.val (.str Ax),.val .none,.val (.int 1)]) rfl ?_;show kx [.val (.str x),.no,.no,.no,.no,.no]=_;unfold kx;simp only[ag,ax,ao,FL.bI,FL.aB,FL.bT,tE,tB,tX,fT,bt,gT,ee,gN,az,bq,aa,af,FL.e1,FL.e2,eV,eC,ak,aw,ah,zz0,zz1,zO,zP,so,pt,rt,tx,is_none,zm,if_false,if_true]
 ·intro i rt
  have is':=zf6 i 1;rw[decide_eq_true ⟨zr 1,Int.gcd_one_right _⟩]at is';have is2:vP [.tuple [.int i,.int 1]]=.ok (.bool true):=is';refine dH (ρ:=[.val (.str x),.val (.str x),.val (.str Ax),.val (.str Ax),.val (.int i),.val (.int 1)]) rfl ?_;show kx [.val (.str x),.no,.no,.no,.no,.no]=_;unfold kx;simp only[ag,ax,ao,FL.bI,FL.aB,FL.bT,tE,tB,tX,fT,bt,gT,ee,gN,az,bq,aa,af,FL.e1,FL.e2,eV,eC,ak,aw,ah,zz0,zz1,zO,zP,so,pt,rt,tx,mB,is2,cH,zB,zG,Ab,aR l2,Aa,zm,if_false,if_true]
theorem zsS(hl:(a++one 47++b).length<=100000)(h:(47:Nat)∉TX.cp a){da db:D}(ha:qE [.str a]=.ok da)(hb:ko [.str b]=.ok db):(da=.none->iU [.str (a++one 47++b)]=.ok .none)/\∀ i:Int,da=.int i->(db=.none->iU [.str (a++one 47++b)]=.ok .none)/\∀ n:Nat,db=.int n->iU [.str (a++one 47++b)]=.ok (if 2<=n/\zR i (n:Int)=1 then .tuple [.int i,.int n] else .none):=by
 have so:strOf (.str (a++one 47++b))=.ok (a++one 47++b):=rfl;have pt:kU (a++one 47++b) (.str (zj "/"))=.ok (.tuple [.str a,.str (one 47),.str b]):=ya hl (zhH h);have tx:zdD (.str (one 47))=.ok true:=rfl;have go:∀ d:D,kx [.val (.str (a++one 47++b)),.no,.no,.no,.no,.no]=.ok (.rt d,[.val (.str (a++one 47++b)),.val (.str a),.val (.str (one 47)),.val (.str b),.val da,.val db])->iU [.str (a++one 47++b)]=.ok d:=fun d z=>dH rfl z;generalize a++one 47++b=x at so pt go;refine⟨fun e=>go _ ?_,fun i e=>⟨fun e'=>go _ ?_,fun n e'=>go _ ?_⟩⟩
 ·subst e
  unfold kx;simp only[ag,ax,ao,FL.aB,tB,tX,fT,bt,gT,ee,gN,az,aa,af,FL.e2,eV,eC,ak,aw,ah,zz0,zz1,zO,zP,so,pt,ha,hb,tx,is_none,zm,if_false,if_true]
 ·subst e e'
  unfold kx;simp only[ag,ax,ao,FL.aB,tB,tX,fT,bt,gT,ee,gN,az,aa,af,FL.e2,eV,eC,ak,aw,ah,zz0,zz1,zO,zP,so,pt,ha,hb,tx,is_none,mB,zm,if_false,if_true]
 ·subst e e'
  have is':=zf6 i n;have eq1:aK (.int n) (.int 1)=.ok (.bool (decide ((n:Int)=1))):=gM ..;unfold kx
  by_cases k:n=1
  ·rw[decide_eq_true (by omega)]at eq1
   rw[if_neg (fun z=>by have:=z.1;omega)];simp only[ag,ax,ao,FL.aB,FL.bT,tB,tX,fT,bt,gT,ee,gN,az,aa,af,FL.e2,eV,eC,ak,aw,ah,zz0,zz1,zO,zP,so,pt,ha,hb,tx,mB,eq1,zm,if_false,if_true]
  ·rw[decide_eq_false (by omega)]at eq1
   by_cases g:2<=n/\zR i (n:Int)=1
   ·rw[decide_eq_true ⟨by have:=g.1;omega,g.2⟩]at is'
    rw[if_pos g];simp only[ag,ax,ao,FL.bI,FL.aB,FL.bT,tE,tB,tX,fT,bt,gT,ee,gN,az,bq,aa,af,FL.e1,FL.e2,eV,eC,ak,aw,ah,zz0,zz1,zO,zP,so,pt,ha,hb,tx,mB,eq1,is',cH,zB,zG,Ab,aR l2,Aa,zm,if_false,if_true]
   ·rw[decide_eq_false (fun z=>g ⟨by have:=z.1;omega,z.2⟩)]at is'
    rw[if_neg g];simp only[ag,ax,ao,FL.bI,FL.aB,FL.bT,tE,tB,tX,fT,bt,gT,ee,gN,az,bq,aa,af,FL.e1,FL.e2,eV,eC,ak,aw,ah,zz0,zz1,zO,zP,so,pt,ha,hb,tx,mB,eq1,is',cH,zB,zG,Ab,aR l2,Aq,zm,if_false,if_true]
theorem zht(hi:i.natAbs<10^9)(hn:n<10^9)(h1:1<=n)(g:zR i (n:Int)=1):∃ q,Es [.int i,.int n]=num q/\NS q:=⟨{ num:=i,den:=n,den_nz:=by omega,reduced:=g },rfl,⟨hi,hn⟩⟩
theorem ziJ(s:Bool)(n:Nat)(h:s=true->n≠0):sT s (.int n)=.int (sg s*(n:Int)):=by
 cases s with
 | false=>show zH n=.int (1*(n:Int));rw[Fs]
 | true=>rw[show sT true (.int n)=.int (-(n:Int)) from if_neg (by have:=h rfl;omega),show sg true*(n:Int)=-(n:Int) from(Int.neg_mul 1 _).trans (by rw[Fs])]
theorem zf3(s:Bool)(m n:Int):zR (sg s*m) n=zR m n:=by
 cases s with
 | false=>show zR (1*m) n=_;rw[Fs]
 | true=>show zR (-1*m) n=_;rw[Int.neg_mul,Fs,Int.neg_gcd]
theorem zek(s:Bool)(h:n<10^9):(sg s*(n:Int)).natAbs<10^9:=by
 cases s with
 | false=>show(1*(n:Int)).natAbs<_;omega
 | true=>show(-1*(n:Int)).natAbs<_;omega
theorem zuw(h:b=T (n:Int)):(47:Nat)∉TX.cp b:=by
 rw[h];exact pL 47 (by decide) _
theorem zhu(hx:As x)(hl:x.length<=100000):∃ d:D,iU [.str x]=.ok d/\ph [.str x]=.ok d/\(d=.none\/∃ q,d=num q/\NS q):=by
 by_cases h:(47:Nat)∈TX.cp x
 ·obtain⟨A,B,e,hA⟩:=HK h
  obtain⟨a,b,rfl,ha⟩:∃ a b:dm,x=a++one 47++b/\(47:Nat)∉TX.cp a:=⟨⟨A.toArray⟩,⟨B.toArray⟩,ext (by
   rw[bE,bE,e];simp[TX.cp]),by simpa[TX.cp] using hA⟩
  obtain⟨s,a',ga⟩:=sgn a;have gx:hU (a++one 47++b) s (a'++one 47++b):=⟨by
   rw[bE,bE,bE,bE,ga.eq]
   split <;> rfl,fun z=>by
   have:=ga.no z;rw[bE,bE];cases ea:TX.cp a with
   | nil=>simp[TX.cp]
   | cons c r=>rw[ea]at this;simpa using this⟩
  have as:As a:=fun c hc=>hx c (by rw[bE,bE];simp[hc]);have bs:As b:=fun c hc=>hx c (by rw[bE,bE];simp[hc]);have la:a.length<=100000:=by rw[len_app,len_app]at hl;omega
  have lb:b.length<=100000:=by rw[len_app,len_app]at hl;omega
  have rt:=ziG ga as la;have rb:=yR bs lb;have R:=zsS hl ha rt rb;have a4:(47:Nat)∉TX.cp a':=fun z=>ha (by rw[ga.eq];split <;> simp[z]);have S:=qu (gx.as hx) (by have:=gx.le;omega) 47;rw[zil a4]at S;have L:=@zgS _ _ s gx hx hl _ S;rcases jH a' with⟨n,_,hn,w⟩|⟨_,w⟩
  ·by_cases k:s=true/\n=0
   ·refine⟨.none,R.1 ?_,L (vE (.inr (.inr ⟨k.1,a',_,rfl,by rw[w,k.2];rfl⟩))),.inl rfl⟩
    rw[w,k.1,k.2];rfl
   ·have hs:s=true->n≠0:=fun z e=>k ⟨z,e⟩
    have tv:=ziJ s n hs;rw[w]at R;rcases jH b with⟨m,eb,hm,v⟩|⟨_,v⟩
    ·have sb:=sI (zuw eb)
     rw[sb]at S L;have R2:=(R.2 _ tv).2 m v;rw[zf3]at R2;refine⟨_,R2,L (ztU w v hs hn hm),?_⟩
     by_cases g:2<=m/\zR (n:Int) (m:Int)=1
     ·rw[if_pos g]
      exact .inr (zht (zek s hn) hm (by have:=g.1;omega) (by rw[zf3];exact g.2))
     ·rw[if_neg g];exact .inl rfl
    ·refine⟨.none,(R.2 _ tv).1 v,L (vE ?_),.inl rfl⟩
     by_cases hb:(47:Nat)∈TX.cp b
     ·exact .inr (.inl (by have:=zim hb;rw[zB];omega))
     ·rw[sI hb]
      exact .inl ⟨b,by simp,v⟩
  ·refine⟨.none,R.1 (by rw[w];rfl),L (vE (.inl ⟨a',by simp,w⟩)),.inl rfl⟩
 ·obtain⟨s,y,gx⟩:=sgn x
  have rt:=ziG gx hx hl;have R:=zsR hl h;have y4:(47:Nat)∉TX.cp y:=fun z=>h (by rw[gx.eq];split <;> simp[z]);have S:=qu (gx.as hx) (by have:=gx.le;omega) 47;rw[sI y4]at S;have L:=@zgS _ _ s gx hx hl _ S;rcases jH y with⟨n,_,hn,w⟩|⟨_,w⟩
  ·rw[w]at rt
   by_cases k:s=true/\n=0
   ·refine⟨.none,R.1 ?_,L (vE (.inr (.inr ⟨k.1,y,_,rfl,by rw[w,k.2];rfl⟩))),.inl rfl⟩
    rw[rt,k.1,k.2];rfl
   ·have hs:s=true->n≠0:=fun z e=>k ⟨z,e⟩
    rw[ziJ s n hs]at rt;exact⟨_,R.2 _ rt,L (ztT w hn hs),.inr (zht (n:=1) (zek s hn) (by decide) (by decide) (Int.gcd_one_right _))⟩
  ·rw[w]at rt
   exact⟨.none,R.1 rt,L (vE (.inl ⟨y,by simp,w⟩)),.inl rfl⟩
end
variable {i:Nat}{c:Int}{p:dm}
section
structure TmB(c:Int)(p a m b:dm)(l:List dm)(dn dw:D):Prop where
 pt:kU p (.str (zj ":"))=.ok (.tuple [.str a,.str m,.str b])
 rn:iU [.str a]=.ok dn
 je:pj [.str b,.int c]=.ok dw
 sp:eD p (.str (zj ":"))=.ok (.list (l.map zg))
 nn:dn=.none\/∃ q,dn=num q/\NS q
 ww:dw=.none\/∃ w:List Int,dw=tp w/\w.length<=5/\∀ i∈w,0<=i/\i<c
 or:(l.length≠2/\dw=.none)\/(l=[a,b]/\ph [.str a]=.ok dn/\qD [.str b,.int c]=.ok dw)
theorem zi6(h:¬ Wh x):wy c x=.none:=by
 unfold wy;rcases jH x with⟨n,e,hn,_⟩|⟨_,w⟩
 ·exact absurd ⟨n,e,hn⟩ h
 ·rw[w]
theorem zuv{d:Nat}(hd:d≠45/\(d<48\/57<d))(h:d∈TX.cp x):¬ Wh x:=fun⟨n,e,_⟩=>by
 rw[e]at h;exact pL d hd _ h
theorem ztX(hp:As p)(hl:p.length<=100000)(c:Int):∃ a m b l dn dw,TmB c p a m b l dn dw:=by
 have S:=qu hp hl 58
 by_cases h:(58:Nat)∈TX.cp p
 ·obtain⟨A,B,e,hA⟩:=HK h
  obtain⟨a,b,rfl,ha⟩:∃ a b:dm,p=a++one 58++b/\(58:Nat)∉TX.cp a:=⟨⟨A.toArray⟩,⟨B.toArray⟩,ext (by
   rw[bE,bE,e];simp[TX.cp]),by simpa[TX.cp] using hA⟩
  have as:As a:=fun d hd=>hp d (by rw[bE,bE];simp[hd]);have bs:As b:=fun d hd=>hp d (by rw[bE,bE];simp[hd]);have la:a.length<=100000:=by rw[len_app,len_app]at hl;omega
  have lb:b.length<=100000:=by rw[len_app,len_app]at hl;omega
  obtain⟨dn,n1,n2,n3⟩:=zhu as la;obtain⟨dw,w1,w2,w3,w4⟩:=zi4 bs lb c;rw[zil ha]at S;refine⟨a,one 58,b,_,dn,dw,ya hl (zhH ha),n1,w1,S.sp,n3,w3,?_⟩
  by_cases hb:(58:Nat)∈TX.cp b
  ·refine .inl ⟨by have:=zim hb;rw[zB];omega,w4 (fun z=>by rw[z]at hb;simp[TX.cp]at hb) ?_⟩
   have jn:Ak (one 46) (zV b (one 46))=b:=DK _ _;refine GC fun z=>?_;refine absurd hb ?_;rw[<- jn];exact zbB (ui (by decide)) fun q hq hc=>z ⟨q,hq,zi6 (zuv (by decide) hc)⟩
  ·rw[sI hb]
   exact .inr ⟨rfl,n2,w2⟩
 ·obtain⟨dn,n1,n2,n3⟩:=zhu hp hl
  obtain⟨dw,w1,w2,w3,w4⟩:=zi4 zer (by decide:Ax.length<=100000) c;rw[sI h]at S;refine⟨p,Ax,Ax,_,dn,dw,ya hl (zhF h),n1,w1,S.sp,n3,w3,.inl ⟨by simp,w4 (fun z=>by have:=congrArg Str.length z;cases this) ⟨Ax,?_,?_⟩⟩⟩
  ·rw[sI (fun z=>absurd (show(46:Nat)∈([]:List Nat) from z) (by simp))];simp
  ·exact zi6 fun⟨n,e,_⟩=>ne_T n (by rw[<- e];rfl)
end
variable {s:Sm}{L:D}{w:List Int}{y5 y6:Sl}{ρ1:En}{t:SF}
section
abbrev oE:TF:=(FL.aB (tB (e2 eI (eV 8) (eC .none))) (FL.aB (tB (e2 aK (eV 8) (eC (.tuple [(.int 0),(.int 1)])))) (FL.aB (tB (e2 eI (eV 9) (eC .none))) (tB (e8 inD (eV 9) 2)))))
abbrev qz:TF:=(FL.aB (tB (e2 eI (eV 6) (eC .none))) (FL.aB (tB (e2 aK (e2 aD (eV 6) (eC (.int 0))) (eC (.int 0)))) (FL.aB (tB (e2 eI (eV 7) (eC .none))) (tB (e8 inD (eV 7) 2)))))
theorem zig{s:SF}(h:s ρ=.bad):ag s t ρ=.bad:=by unfold ag;rw[h];rfl
theorem zif{s:SF}{c:String}{fs:List D}(h:s ρ=.err c fs):ag s t ρ=.err c fs:=by unfold ag;rw[h];rfl
theorem yB{s:SF}(h:s ρ=.ok (.rt d,ρ1)):ag s t ρ=.ok (.rt d,ρ1):=by unfold ag;rw[h];rfl
theorem zf5(h:fZ s w=none):∀ p∈s,p.1≠w:=by
 unfold fZ at h;rw[HA,List.find?_eq_none]at h;exact fun p hp e=>h p hp (by simpa using e)
theorem test{dn dw:D}(H:TmB c p a m b l dn dw)(s:Sm):∃ β:Bool,(β=false->∃ w q,dn=num q/\dw=tp w/\RT c (w,q)/\fZ s w=none)/\(dw=.none->β=true) /\
  (∀ x0 x1 x3 x4 x5 x6 x7,oE [x0,x1,.ow false (av s),x3,x4,x5,x6,x7,.val dn,.val dw]=.ok (β,[x0,x1,.ow false (av s),x3,x4,x5,x6,x7,.val dn,.val dw])) /\
  (∀ x0 x1 x3 x4 x5,qz [x0,x1,.ow false (av s),x3,x4,x5,.val dn,.val dw]=.ok (β,[x0,x1,.ow false (av s),x3,x4,x5,.val dn,.val dw])):=by
 rcases H.nn with rfl|⟨q,rfl,nq⟩
 ·refine⟨true,fun z=>(by cases z),fun _=>rfl,fun _ _ _ _ _ _ _=>?_,fun _ _ _ _ _=>?_⟩
  ·simp only[oE,FL.aB,tB,FL.e2,eV,eC,ah,zz0,zz1,is_none,if_true]
  ·simp only[qz,FL.aB,tB,FL.e2,eV,eC,ah,zz0,zz1,is_none,if_true]
 ·have i1:eI (num q) .none=.ok (.bool false):=rfl
  have e1:aK (num q) (.tuple [.int 0,.int 1])=.ok (.bool (decide (q=0))):=by
   rw[show(Es [.int 0,.int 1])=num 0 from rfl];have h:=zpB q 0;rw[uW (vh _) (vh _)]at h;have h:=PyData.bool.inj (R.ok.inj h);rw[rg (vh _) (vh _)]
   congr 2
   revert h
   cases A0 (num q) (num 0) <;> cases decide (q=0) <;> simp
  have ix:aD (num q) (.int 0)=.ok (.int q.num):=rfl;have qZ:aK (.int q.num) (.int 0)=.ok (.bool (decide (q=0))):=by
   rw[gM];congr 2;rw[decide_eq_decide];exact Rat.num_eq_zero
  by_cases q0:q=0
  ·rw[decide_eq_true q0]at e1 qZ
   refine⟨true,fun z=>(by cases z),fun _=>rfl,fun _ _ _ _ _ _ _=>?_,fun _ _ _ _ _=>?_⟩
   ·simp only[oE,FL.aB,tB,FL.e2,eV,eC,ah,zz0,zz1,i1,e1,zm,if_false,if_true]
   ·simp only[qz,FL.aB,tB,FL.e2,eV,eC,ah,zz0,zz1,i1,ix,qZ,zm,if_false,if_true]
  ·rw[decide_eq_false q0]at e1 qZ
   rcases H.ww with rfl|⟨w,rfl,wl,wx⟩
   ·refine⟨true,fun z=>(by cases z),fun _=>rfl,fun _ _ _ _ _ _ _=>?_,fun _ _ _ _ _=>?_⟩
    ·simp only[oE,FL.aB,tB,FL.e2,eV,eC,ah,zz0,zz1,i1,e1,is_none,zm,if_false,if_true]
    ·simp only[qz,FL.aB,tB,FL.e2,eV,eC,ah,zz0,zz1,i1,ix,qZ,is_none,zm,if_false,if_true]
   ·have i2:eI (tp w) .none=.ok (.bool false):=rfl
    have xI:=zm4 s w;refine⟨(fZ s w).isSome,fun z=>⟨w,q,rfl,rfl,⟨⟨wl,wx,q0⟩,nq⟩,by simpa using z⟩,fun z=>(by cases z),fun _ _ _ _ _ _ _=>?_,fun _ _ _ _ _=>?_⟩
    ·simp only[oE,FL.aB,tB,FL.e2,e8,bg,eV,eC,ah,zz0,zz1,i1,i2,e1,xI,zm,if_false]
    ·simp only[qz,FL.aB,tB,FL.e2,e8,bg,eV,eC,ah,zz0,zz1,i1,i2,ix,qZ,xI,zm,if_false]
abbrev pG:SF:=(ag (gU (ax (gT [(gN 5),(gN 6),(gN 7)]) (bt kU (eV 4) (eC (.str (zj ":"))))))
  (ag (gU (dq 8 9 (az iU (aa (eV 5) af)) (az pj (aa (eV 7) (aa (eV 1) af)))))
  (ag (ao (vD (FL.aB (tB (e2 eI (eV 8) (eC .none))) (FL.aB (tB (e2 aK (eV 8) (eC (.tuple [(.int 0),(.int 1)])))) (FL.aB (tB (e2 eI (eV 9) (eC .none))) (tB (e8 inD (eV 9) 2)))))) (yA "NoText" true (aa (eV 3) af)) (gU aw))
  (gU (eL 2 (eV 9) (eV 8))))))
section
variable {y7 y8 y9:Sl}
theorem turn(hp:As p)(hl:p.length<=100000)(hs:s.length<=1000)(n5:Np y5)(n6:Np y6)(n7:Np y7)(n8:Np y8)(n9:Np y9){z5 z6 z7:Sl}(m5:Np z5)(m6:Np z6)(m7:Np z7) :
  ((∃ ρ,lA [.val L,.val (.int c),.ow false (av s),.val (.int i),.val (.str p),z5,z6,z7]=.ok (.rt (.list [.str (zj "text"),.int i]),ρ))/\lB [.val L,.val (.int c),.ow false (av s),.val (.int i),.val (.str p),y5,y6,y7,y8,y9]=.bad/\pG [.val L,.val (.int c),.ow false (av s),.val (.int i),.val (.str p),y5,y6,y7,y8,y9]=.err "NoText" [.int i]) \/
  (∃ w q v5 v6 v7 a5 a6 a7 a8 a9,RT c (w,q)/\fZ s w=none/\lA [.val L,.val (.int c),.ow false (av s),.val (.int i),.val (.str p),z5,z6,z7]=.ok (.nx,[.val L,.val (.int c),.ow false (av (s++[(w,q)])),.val (.int i),.val (.str p),.val v5,.val v6,.val v7]) /\
   (∀ u,u=lB\/u=pG->u [.val L,.val (.int c),.ow false (av s),.val (.int i),.val (.str p),y5,y6,y7,y8,y9]=.ok (.nx,[.val L,.val (.int c),.ow false (av (s++[(w,q)])),.val (.int i),.val (.str p),.val a5,.val a6,.val a7,.val a8,.val a9]))):=by
 obtain⟨a,m,b,l,dn,dw,H⟩:=ztX hp hl c;obtain⟨β,t0,t1,tR,tL⟩:=test H s;have so:strOf (.str p)=.ok p:=rfl;have s1:ax (gT [(gN 5),(gN 6),(gN 7)]) (bt kU (eV 4) (eC (.str (zj ":")))) [.val L,.val (.int c),.ow false (av s),.val (.int i),.val (.str p),y5,y6,y7,y8,y9]=.ok (.nx,[.val L,.val (.int c),.ow false (av s),.val (.int i),.val (.str p),.val (.str a),.val (.str m),.val (.str b),y8,y9]):=by
  have g:=gT3 (ρ:=[.val L,.val (.int c),.ow false (av s),.val (.int i),.val (.str p),y5,y6,y7,y8,y9]) (i:=5) (j:=6) (k:=7) (a:=.str a) (b:=.str m) (c:=.str b) rfl rfl rfl (by decide) (by decide) (by decide) n5 n6 n7;simp only[ax,bt,eV,eC,ah,zz0,zz1,so,H.pt,g]
  rfl
 have s2:dq 8 9 (az iU (aa (eV 5) af)) (az pj (aa (eV 7) (aa (eV 1) af))) [.val L,.val (.int c),.ow false (av s),.val (.int i),.val (.str p),.val (.str a),.val (.str m),.val (.str b),y8,y9]=.ok (.nx,[.val L,.val (.int c),.ow false (av s),.val (.int i),.val (.str p),.val (.str a),.val (.str m),.val (.str b),.val dn,.val dw]):=by
  have g8:=gB (ρ:=[.val L,.val (.int c),.ow false (av s),.val (.int i),.val (.str p),.val (.str a),.val (.str m),.val (.str b),y8,y9]) (i:=8) (d:=dn) rfl n8;have g9:=gB (ρ:=[.val L,.val (.int c),.ow false (av s),.val (.int i),.val (.str p),.val (.str a),.val (.str m),.val (.str b),.val dn,y9]) (i:=9) (d:=dw) rfl n9;simp only[dq,az,aa,af,eV,ah,zz0,zz1,H.rn,H.je,g8,zP,zO,g9]
 have q1:ax (gN 5) (bt eD (eV 4) (eC (.str (zj ":")))) [.val L,.val (.int c),.ow false (av s),.val (.int i),.val (.str p),z5,z6,z7]=.ok (.nx,[.val L,.val (.int c),.ow false (av s),.val (.int i),.val (.str p),.val (.list (l.map zg)),z6,z7]):=by
  have g:=gB (ρ:=[.val L,.val (.int c),.ow false (av s),.val (.int i),.val (.str p),z5,z6,z7]) (i:=5) (d:=.list (l.map zg)) rfl m5;simp only[ax,bt,eV,eC,ah,zz0,zz1,so,H.sp,g,zP,zO]
 have ll:bz (.list (l.map zg))=.ok (.int (l.length:Int)):=by
  show R.ok (zH ((l.map zg).length:Int))=_;rw[zL]
 have l2:leB 2 lim=true:=by decide
 have ne2:bR (.int (l.length:Int)) (.int 2)=.ok (.bool (!decide ((l.length:Int)=2))):=pX ..;have rR:∀ β',β=β'->(lB [.val L,.val (.int c),.ow false (av s),.val (.int i),.val (.str p),y5,y6,y7,y8,y9]=if β'=true then .bad else eL 2 (eV 9) (eV 8) [.val L,.val (.int c),.ow false (av s),.val (.int i),.val (.str p),.val (.str a),.val (.str m),.val (.str b),.val dn,.val dw])/\pG [.val L,.val (.int c),.ow false (av s),.val (.int i),.val (.str p),y5,y6,y7,y8,y9]=if β'=true then .err "NoText" [.int i] else gU (eL 2 (eV 9) (eV 8)) [.val L,.val (.int c),.ow false (av s),.val (.int i),.val (.str p),.val (.str a),.val (.str m),.val (.str b),.val dn,.val dw]:=fun β' e=>by
  rw[e]at tR
  constructor
  ·unfold lB
   refine(aS s1).trans ((aS s2).trans ?_);have k:ao oE iu aw [.val L,.val (.int c),.ow false (av s),.val (.int i),.val (.str p),.val (.str a),.val (.str m),.val (.str b),.val dn,.val dw]=if β'=true then .bad else .ok (.nx,[.val L,.val (.int c),.ow false (av s),.val (.int i),.val (.str p),.val (.str a),.val (.str m),.val (.str b),.val dn,.val dw]):=by
    unfold ao;rw[tR,ah];cases β' <;> rfl
   cases β' with
   | true=>exact zig k
   | false=>exact aS k
  ·refine(aS (ou s1)).trans ((aS (ou s2)).trans ?_)
   have k:ao (vD oE) (yA "NoText" true (aa (eV 3) af)) (gU aw) [.val L,.val (.int c),.ow false (av s),.val (.int i),.val (.str p),.val (.str a),.val (.str m),.val (.str b),.val dn,.val dw]=if β'=true then .err "NoText" [.int i] else .ok (.nx,[.val L,.val (.int c),.ow false (av s),.val (.int i),.val (.str p),.val (.str a),.val (.str m),.val (.str b),.val dn,.val dw]):=by
    unfold ao;rw[show vD oE [.val L,.val (.int c),.ow false (av s),.val (.int i),.val (.str p),.val (.str a),.val (.str m),.val (.str b),.val dn,.val dw]=_ from ou (tR _ _ _ _ _ _ _),ah];cases β' <;> rfl
   cases β' with
   | true=>exact zif k
   | false=>exact aS k
 cases hβ:β with
 | true =>
  refine .inl ⟨?_,(rR true hβ).1,(rR true hβ).2⟩;rcases H.or with⟨h2,_⟩|⟨rfl,ln,lw⟩
  ·rw[decide_eq_false (by omega)]at ne2
   refine⟨[.val L,.val (.int c),.ow false (av s),.val (.int i),.val (.str p),.val (.list (l.map zg)),z6,z7],?_⟩;unfold lA;refine(aS q1).trans ?_;simp only[ag,ao,tB,FL.e2,FL.e1,eV,eC,ak,bc,aa,af,ah,zz0,zz1,ll,ne2,Aq,if_true,zB,zG,Ab,aR l2]
  ·have ix0:aD (.list ([a,b].map zg)) (.int 0)=.ok (.str a):=nQ
   have pT:aD (.list ([a,b].map zg)) (.int 1)=.ok (.str b):=uI;have g6:=gB (ρ:=[.val L,.val (.int c),.ow false (av s),.val (.int i),.val (.str p),.val (.list ([a,b].map zg)),z6,z7]) (i:=6) (d:=dn) rfl m6;have g7:=gB (ρ:=[.val L,.val (.int c),.ow false (av s),.val (.int i),.val (.str p),.val (.list ([a,b].map zg)),.val dn,z7]) (i:=7) (d:=dw) rfl m7;have ne3:bR (.int (([a,b]:List dm).length:Int)) (.int 2)=.ok (.bool false):=by rw[pX];rfl
   refine⟨[.val L,.val (.int c),.ow false (av s),.val (.int i),.val (.str p),.val (.list ([a,b].map zg)),.val dn,.val dw],?_⟩;unfold lA;refine(aS q1).trans ?_;have s3:ao (tB (e2 bR (e1 bz (eV 5)) (eC (.int 2)))) (ak (bc (aa (eC (.str (zj "text"))) (aa (eV 3) af)))) aw [.val L,.val (.int c),.ow false (av s),.val (.int i),.val (.str p),.val (.list ([a,b].map zg)),z6,z7]=.ok (.nx,[.val L,.val (.int c),.ow false (av s),.val (.int i),.val (.str p),.val (.list ([a,b].map zg)),z6,z7]):=by
    simp only[ao,tB,FL.e2,FL.e1,eV,eC,aw,ah,zz0,zz1,ll,ne3,zm,if_false]
   have s4:ax (gN 6) (az ph (aa (e2 aD (eV 5) (eC (.int 0))) af)) [.val L,.val (.int c),.ow false (av s),.val (.int i),.val (.str p),.val (.list ([a,b].map zg)),z6,z7]=.ok (.nx,[.val L,.val (.int c),.ow false (av s),.val (.int i),.val (.str p),.val (.list ([a,b].map zg)),.val dn,z7]):=by
    simp only[ax,az,aa,af,FL.e2,eV,eC,ah,zz0,zz1,ix0,ln,g6,zP,zO]
   have s5:ax (gN 7) (az qD (aa (e2 aD (eV 5) (eC (.int 1))) (aa (eV 1) af))) [.val L,.val (.int c),.ow false (av s),.val (.int i),.val (.str p),.val (.list ([a,b].map zg)),.val dn,z7]=.ok (.nx,[.val L,.val (.int c),.ow false (av s),.val (.int i),.val (.str p),.val (.list ([a,b].map zg)),.val dn,.val dw]):=by
    simp only[ax,az,aa,af,FL.e2,eV,eC,ah,zz0,zz1,pT,lw,g7,zP,zO]
   refine(aS s3).trans ((aS s4).trans ((aS s5).trans ?_));rw[hβ]at tL;have r:(bc (aa (eC (.str (zj "text"))) (aa (eV 3) af))) [.val L,.val (.int c),.ow false (av s),.val (.int i),.val (.str p),.val (.list ([a,b].map zg)),.val dn,.val dw]=.ok (.list [.str (zj "text"),.int i],[.val L,.val (.int c),.ow false (av s),.val (.int i),.val (.str p),.val (.list ([a,b].map zg)),.val dn,.val dw]):=by
    simp only[bc,aa,af,eC,eV,ah,zz0,zz1,zB,zG,Ab,aR l2]
   have k:ao qz (ak (bc (aa (eC (.str (zj "text"))) (aa (eV 3) af)))) aw [.val L,.val (.int c),.ow false (av s),.val (.int i),.val (.str p),.val (.list ([a,b].map zg)),.val dn,.val dw]=.ok (.rt (.list [.str (zj "text"),.int i]),[.val L,.val (.int c),.ow false (av s),.val (.int i),.val (.str p),.val (.list ([a,b].map zg)),.val dn,.val dw]):=by
    unfold ao;rw[tL,ah,if_pos rfl];unfold ak;rw[r];rfl
   exact yB k
 | false =>
  obtain⟨w,q,rfl,rfl,rt,gn⟩:=t0 hβ;have dp:qY (av s) (tp w) (num q)=.ok (av (s++[(w,q)])):=by
   rw[zfx (by unfold lim;omega),zs4 (zf5 gn)]
  have dR:eL 2 (eV 9) (eV 8) [.val L,.val (.int c),.ow false (av s),.val (.int i),.val (.str p),.val (.str a),.val (.str m),.val (.str b),.val (num q),.val (tp w)]=.ok (.nx,[.val L,.val (.int c),.ow false (av (s++[(w,q)])),.val (.int i),.val (.str p),.val (.str a),.val (.str m),.val (.str b),.val (num q),.val (tp w)]):=by
   simp only[eL,bg,eV,ah,zz0,zz1,dp]
   rfl
  rcases H.or with⟨_,h2⟩|⟨rfl,ln,lw⟩
  ·cases h2
  refine .inr ⟨w,q,.list ([a,b].map zg),num q,tp w,.str a,.str m,.str b,num q,tp w,rt,gn,?_,fun u hu=>?_⟩
  ·have ix0:aD (.list ([a,b].map zg)) (.int 0)=.ok (.str a):=nQ
   have pT:aD (.list ([a,b].map zg)) (.int 1)=.ok (.str b):=uI;have g6:=gB (ρ:=[.val L,.val (.int c),.ow false (av s),.val (.int i),.val (.str p),.val (.list ([a,b].map zg)),z6,z7]) (i:=6) (d:=num q) rfl m6;have g7:=gB (ρ:=[.val L,.val (.int c),.ow false (av s),.val (.int i),.val (.str p),.val (.list ([a,b].map zg)),.val (num q),z7]) (i:=7) (d:=tp w) rfl m7;have ne3:bR (.int (([a,b]:List dm).length:Int)) (.int 2)=.ok (.bool false):=by rw[pX];rfl
   unfold lA;refine(aS q1).trans ?_;have s3:ao (tB (e2 bR (e1 bz (eV 5)) (eC (.int 2)))) (ak (bc (aa (eC (.str (zj "text"))) (aa (eV 3) af)))) aw [.val L,.val (.int c),.ow false (av s),.val (.int i),.val (.str p),.val (.list ([a,b].map zg)),z6,z7]=.ok (.nx,[.val L,.val (.int c),.ow false (av s),.val (.int i),.val (.str p),.val (.list ([a,b].map zg)),z6,z7]):=by
    simp only[ao,tB,FL.e2,FL.e1,eV,eC,aw,ah,zz0,zz1,ll,ne3,zm,if_false]
   have s4:ax (gN 6) (az ph (aa (e2 aD (eV 5) (eC (.int 0))) af)) [.val L,.val (.int c),.ow false (av s),.val (.int i),.val (.str p),.val (.list ([a,b].map zg)),z6,z7]=.ok (.nx,[.val L,.val (.int c),.ow false (av s),.val (.int i),.val (.str p),.val (.list ([a,b].map zg)),.val (num q),z7]):=by
    simp only[ax,az,aa,af,FL.e2,eV,eC,ah,zz0,zz1,ix0,ln,g6,zP,zO]
   have s5:ax (gN 7) (az qD (aa (e2 aD (eV 5) (eC (.int 1))) (aa (eV 1) af))) [.val L,.val (.int c),.ow false (av s),.val (.int i),.val (.str p),.val (.list ([a,b].map zg)),.val (num q),z7]=.ok (.nx,[.val L,.val (.int c),.ow false (av s),.val (.int i),.val (.str p),.val (.list ([a,b].map zg)),.val (num q),.val (tp w)]):=by
    simp only[ax,az,aa,af,FL.e2,eV,eC,ah,zz0,zz1,pT,lw,g7,zP,zO]
   refine(aS s3).trans ((aS s4).trans ((aS s5).trans ?_));rw[hβ]at tL;have k:ao qz (ak (bc (aa (eC (.str (zj "text"))) (aa (eV 3) af)))) aw [.val L,.val (.int c),.ow false (av s),.val (.int i),.val (.str p),.val (.list ([a,b].map zg)),.val (num q),.val (tp w)]=.ok (.nx,[.val L,.val (.int c),.ow false (av s),.val (.int i),.val (.str p),.val (.list ([a,b].map zg)),.val (num q),.val (tp w)]):=by
    unfold ao;rw[tL,ah,if_neg AJ]
    rfl
   refine(aS k).trans ?_;simp only[eL,bg,eV,ah,zz0,zz1,dp]
   rfl
  ·rcases hu with rfl|rfl
   ·rw[(rR false hβ).1,if_neg AJ,dR]
   ·rw[(rR false hβ).2,if_neg AJ]
    exact ou dR
end
end
variable {it:IF}{g:GF}{xs:List D}{b:SF}{f p:Bool}{ks:List (Option String)}{a:D}
section
theorem zpq(h:Nk s)(g:fZ s w=none):Nk (s++[(w,q)]):=by
 unfold Nk at h ⊢;rw[DL,List.nodup_append];refine⟨h,by simp,fun a ha b hb e=>?_⟩;obtain⟨p,hp,rfl⟩:=zZ.mp ha;have kJ:b=w:=by simpa using hb
 exact zf5 g p hp (e.trans kJ)
abbrev iI(k:Nat):D:=.list [.str (zj "text"),.int k]
theorem loops{c:Int}{L:D}:∀(ts:List dm) (i:Nat) (s:Sm) {y3 y4 y5 y6 y7 x3 x4 x5 x6 x7 x8 x9:Sl},Np y3->Np y4->Np y5->Np y6->Np y7->Np x3->Np x4->Np x5->Np x6->Np x7->Np x8->Np x9->(∀ t∈ts,As t/\t.length<=100000)->Nk s->(∀ p∈s,RT c p)->s.length+ts.length<=1000 ->
  (∃(k:Nat) (ρ:En),forL (gT [gN 3,gN 4]) lA (eY i (ts.map zg)) [.val L,.val (.int c),.ow false (av s),y3,y4,y5,y6,y7]=.ok (.rt (iI k),ρ)/\forL (gT [gN 3,gN 4]) lB (eY i (ts.map zg)) [.val L,.val (.int c),.ow false (av s),x3,x4,x5,x6,x7,x8,x9]=.bad/\forL (lY (gT [gN 3,gN 4])) pG (eY i (ts.map zg)) [.val L,.val (.int c),.ow false (av s),x3,x4,x5,x6,x7,x8,x9]=.err "NoText" [.int k]) \/
  (∃(s':Sm) (z3 z4 z5 z6 z7 a3 a4 a5 a6 a7 a8 a9:Sl),forL (gT [gN 3,gN 4]) lA (eY i (ts.map zg)) [.val L,.val (.int c),.ow false (av s),y3,y4,y5,y6,y7]=.ok (.nx,[.val L,.val (.int c),.ow false (av s'),z3,z4,z5,z6,z7])/\forL (gT [gN 3,gN 4]) lB (eY i (ts.map zg)) [.val L,.val (.int c),.ow false (av s),x3,x4,x5,x6,x7,x8,x9]=.ok (.nx,[.val L,.val (.int c),.ow false (av s'),a3,a4,a5,a6,a7,a8,a9])/\Nk s'/\(∀ p∈s',RT c p)/\s'.length<=s.length+ts.length)
 | [],i,s,y3,y4,y5,y6,y7,x3,x4,x5,x6,x7,x8,x9,_,_,_,_,_,_,_,_,_,_,_,_,_,nk,hr,_=>.inr ⟨s,y3,y4,y5,y6,y7,x3,x4,x5,x6,x7,x8,x9,rfl,rfl,nk,hr,by simp⟩
 | p::r,i,s,y3,y4,y5,y6,y7,x3,x4,x5,x6,x7,x8,x9,n3,n4,n5,n6,n7,m3,m4,m5,m6,m7,m8,m9,hp,nk,hr,hl=>by
  have rF:s.length+(r.length+1)<=1000:=by simpa using hl
  obtain⟨ap,lp⟩:=hp p (by simp);have e0:gT [gN 3,gN 4] (.tuple [.int i,.str p]) [.val L,.val (.int c),.ow false (av s),y3,y4,y5,y6,y7]=.ok [.val L,.val (.int c),.ow false (av s),.val (.int i),.val (.str p),y5,y6,y7]:=gT2 rfl rfl (by decide) n3 n4;have e1:gT [gN 3,gN 4] (.tuple [.int i,.str p]) [.val L,.val (.int c),.ow false (av s),x3,x4,x5,x6,x7,x8,x9]=.ok [.val L,.val (.int c),.ow false (av s),.val (.int i),.val (.str p),x5,x6,x7,x8,x9]:=gT2 rfl rfl (by decide) m3 m4;have e2:lY (gT [gN 3,gN 4]) (.tuple [.int i,.str p]) [.val L,.val (.int c),.ow false (av s),x3,x4,x5,x6,x7,x8,x9]=.ok [.val L,.val (.int c),.ow false (av s),.val (.int i),.val (.str p),x5,x6,x7,x8,x9]:=ou e1;have en:eY i ((p::r).map zg)=.tuple [.int i,.str p]::eY (i+1) (r.map zg):=rfl;rw[en];rcases turn (c:=c) (L:=L) (s:=s) (i:=i) ap lp (by omega) m5 m6 m7 m8 m9 n5 n6 n7 with⟨⟨ρ,t1⟩,t2,t3⟩|⟨w,q,v5,v6,v7,a5,a6,a7,a8,a9,rt,g,t1,t2⟩
  ·refine .inl ⟨i,ρ,?_,?_,?_⟩
   ·rw[forL,e0,ah,t1];rfl
   ·rw[forL,e1,ah,t2];rfl
   ·rw[forL,e2,ah,t3];rfl
  ·have u1:=t2 lB (.inl rfl)
   have u2:=t2 pG (.inr rfl);rcases loops r (i+1) (s++[(w,q)]) (dY (.int i)) (dY (.str p)) (dY v5) (dY v6) (dY v7) (dY (.int i)) (dY (.str p)) (dY a5) (dY a6) (dY a7) (dY a8) (dY a9) (fun t ht=>hp t (z0 _ ht)) (zpq nk g) (fun x hx=>by
    rcases AI.mp hx with hx|hx
    ·exact hr x hx
    ·rw[Cj.mp hx];exact rt) (by rw[AO,D6];omega) with⟨k,ρ,r1,r2,r3⟩|⟨s',z3,z4,z5,z6,z7,b3,b4,b5,b6,b7,b8,b9,r1,r2,r3,r4,r5⟩
   ·refine .inl ⟨k,ρ,?_,?_,?_⟩
    ·rw[forL,e0,ah,t1,ah];exact r1
    ·rw[forL,e1,ah,u1,ah];exact r2
    ·rw[forL,e2,ah,u2,ah];exact r3
   ·refine .inr ⟨s',z3,z4,z5,z6,z7,b3,b4,b5,b6,b7,b8,b9,?_,?_,r3,r4,?_⟩
    ·rw[forL,e0,ah,t1,ah];exact r1
    ·rw[forL,e1,ah,u1,ah];exact r2
    ·rw[AO,D6]at r5
     rw[zB];omega
theorem zt3(nk:Nk s)(hl:s.length<64)(a b x3 x4 x5 x6 x7:Sl):yu [a,b,.val (av s),x3,x4,x5,x6,x7]=.ok (told s,[a,b,.val (av s),x3,x4,x5,x6,x7]):=by
 have so:=zdt nk hl;have hlen:(gr s).length=s.length:=(kh s).length_eq;unfold yu told;rw[zh9,zaY (items:=(gr s).map fun p=>tp p.1) (fun x=>.tuple [x,rj (h8 (av s) x)])]
 ·rw[A5]
  congr 2
  congr 1
  refine Er fun p hp=>?_;have mp:p∈s:=(kh s).mem_iff.mp hp;show Es [tp p.1,rj (h8 (av s) (tp p.1))]=_;rw[qX (qm nk mp)];rfl
 ·simp only[iE,FL.e1,eV,ah,zz0,zz1,so,gE]
 ·rw[zL,hlen];unfold lim;omega
 ·intro x hx
  obtain⟨p,hp,rfl⟩:=zZ.mp hx;have mp:p∈s:=(kh s).mem_iff.mp hp;have d1:=qX (qm nk mp);have l2:leB 2 lim=true:=by decide
  refine⟨[.val (tp p.1),.val (av s)],rfl,?_,?_⟩
  ·simp only[bq,aa,af,FL.e2,eV,ah,zz0,zz1,d1,zB,zG,aR l2]
   rfl
  ·exact tZ (fun i p d e=>by
    revert e
    simp only[Br,Bs,AQ,Bf,zJ,Bu]
    split <;> (intro e;cases e)) _ 0
theorem yz(h:it ρ=.ok (xs,ρ1)):dZ it g b ρ=forL g b xs ρ1:=by unfold dZ;rw[h,ah]
abbrev hZ(d:D):D:=.list [.str (zj "sum"),d]
theorem zsU{fr:Bool}{ds:List D}{c:String}{fs:List D}(hl:ds.length=ks.length)(h:b (BV iP ks ds++zo (n-ds.length) .no)=.err c fs):qk ks fr n b ds=.err c fs:=by
 unfold qk;rw[if_pos hl,h];rfl
theorem zsV{ds:List D}(hl:ds.length=k)(h:b (slots (zo k false) ds++zo (n-ds.length) .no)=.bad):bo f k n b ds=.bad:=by
 unfold bo FL.run;rw[if_pos (by rw[CW];exact hl),h]
 rfl
theorem zsI(hx:As x)(hl:x.length<=100000)(hn:(zV x (one 32)).length<=60)(c:Int) :
  (∃ k:Nat,qC [.str x,.int c]=.ok (iI k)/\kn [.str x,.int c]=.bad/\lM [.str x,.int c]=.err "NoText" [.int k]) \/
  (∃ l:List D,qC [.str x,.int c]=.ok (hZ (.list l))/\kn [.str x,.int c]=.ok (.list l)/\Pl 3 (.list l)):=by
 have lV:=eq_str hx (eX (c:=48) (by decide));have l0:leB 0 lim=true:=cU (by omega);have l2:leB 2 lim=true:=by decide
 by_cases h1:x=one 48
 ·rw[decide_eq_true h1]at lV
  have eq:aK (.str x) (.str (zj "0"))=.ok (.bool true):=lV;refine .inr ⟨[],?_,?_,yd fun d h=>by cases h⟩
  ·refine dH (ρ:=[.val (.str x),.val (.int c),.no,.no,.no,.no,.no,.no]) rfl ?_
   show nj [.val (.str x),.val (.int c),.no,.no,.no,.no,.no,.no]=_;unfold nj;simp only[ag,ao,tB,FL.e2,eV,eC,ak,bc,aa,af,ah,zz0,eq,if_true,zB,zG,Ab,l0,l2,aR]
  ·refine zdp (ρ:=[.val (.str x),.val (.int c),.no,.no,.no,.no,.no,.no,.no,.no]) rfl ?_
   show nu [.val (.str x),.val (.int c),.no,.no,.no,.no,.no,.no,.no,.no]=_;unfold nu;simp only[ag,ao,tB,FL.e2,eV,eC,cX,bc,af,ah,zz0,eq,if_true,zG,l0,aR]
 ·rw[decide_eq_false h1]at lV
  have eq:aK (.str x) (.str (zj "0"))=.ok (.bool false):=lV;have S:=qu hx hl 32;generalize zV x (one 32)=ts at S hn;have so:strOf (.str x)=.ok x:=rfl;have sp:eD x (.str (zj " "))=.ok (.list (ts.map zg)):=S.sp;have LP:=loops (c:=c) (L:=.str x) ts 0 [] (y3:=.no) (y4:=.no) (y5:=.no) (y6:=.no) (y7:=.no) (x3:=.no) (x4:=.no) (x5:=.no) (x6:=.no) (x7:=.no) (x8:=.no) (x9:=.no) di di di di di di di di di di di di (fun t ht=>⟨S.as t ht,by have:=S.le t ht;omega⟩) E2 (fun p h=>by cases h) (by simp;omega);have a0:ao (tB (e2 aK (eV 0) (eC (.str (zj "0"))))) (ak (bc (aa (eC (.str (zj "sum"))) (aa (bc af) af)))) aw [.val (.str x),.val (.int c),.no,.no,.no,.no,.no,.no]=.ok (.nx,[.val (.str x),.val (.int c),.no,.no,.no,.no,.no,.no]):=by
   simp only[ao,tB,FL.e2,eV,eC,aw,ah,zz0,eq,zm,if_false]
  have b0:ao (tB (e2 aK (eV 0) (eC (.str (zj "0"))))) (cX (bc af)) aw [.val (.str x),.val (.int c),.no,.no,.no,.no,.no,.no,.no,.no]=.ok (.nx,[.val (.str x),.val (.int c),.no,.no,.no,.no,.no,.no,.no,.no]):=by
   simp only[ao,tB,FL.e2,eV,eC,aw,ah,zz0,eq,zm,if_false]
  have a1:bx 2 gj [.val (.str x),.val (.int c),.no,.no,.no,.no,.no,.no]=.ok (.nx,[.val (.str x),.val (.int c),.ow false (av []),.no,.no,.no,.no,.no]):=rfl;have b1:bx 2 gj [.val (.str x),.val (.int c),.no,.no,.no,.no,.no,.no,.no,.no]=.ok (.nx,[.val (.str x),.val (.int c),.ow false (av []),.no,.no,.no,.no,.no,.no,.no]):=rfl;have ia:mx (aa (bt eD (eV 0) (eC (.str (zj " ")))) af) [.val (.str x),.val (.int c),.ow false (av []),.no,.no,.no,.no,.no]=.ok (eY 0 (ts.map zg),[.val (.str x),.val (.int c),.ow false (av []),.no,.no,.no,.no,.no]):=by
   simp only[mx,aa,af,bt,eV,eC,ah,zz0,so,sp,enD]
  have ib:mx (aa (bt eD (eV 0) (eC (.str (zj " ")))) af) [.val (.str x),.val (.int c),.ow false (av []),.no,.no,.no,.no,.no,.no,.no]=.ok (eY 0 (ts.map zg),[.val (.str x),.val (.int c),.ow false (av []),.no,.no,.no,.no,.no,.no,.no]):=by
   simp only[mx,aa,af,bt,eV,eC,ah,zz0,so,sp,enD]
  have wl:zdI [.val (.str x),.val (.int c),.ow false (av []),.no,.no,.no,.no,.no]=forL (gT [gN 3,gN 4]) lA (eY 0 (ts.map zg)) [.val (.str x),.val (.int c),.ow false (av []),.no,.no,.no,.no,.no]:=yz ia;have wr:zdK [.val (.str x),.val (.int c),.ow false (av []),.no,.no,.no,.no,.no,.no,.no]=forL (gT [gN 3,gN 4]) lB (eY 0 (ts.map zg)) [.val (.str x),.val (.int c),.ow false (av []),.no,.no,.no,.no,.no,.no,.no]:=yz ib;have wx:dZ (xH (mx (aa (bt eD (eV 0) (eC (.str (zj " ")))) af))) (lY (gT [gN 3,gN 4])) pG [.val (.str x),.val (.int c),.ow false (av []),.no,.no,.no,.no,.no,.no,.no]=forL (lY (gT [gN 3,gN 4])) pG (eY 0 (ts.map zg)) [.val (.str x),.val (.int c),.ow false (av []),.no,.no,.no,.no,.no,.no,.no]:=yz (ou ib);rcases LP with⟨k,ρ,r1,r2,r3⟩|⟨s',z3,z4,z5,z6,z7,b3,b4,b5,b6,b7,b8,b9,r1,r2,r3,r4,r5⟩
  ·refine .inl ⟨k,dH (ρ:=ρ) rfl ?_,zsV rfl ?_,zsU rfl ?_⟩
   ·show nj [.val (.str x),.val (.int c),.no,.no,.no,.no,.no,.no]=_
    unfold nj;refine(aS a0).trans ((aS a1).trans (yB (wl.trans r1)))
   ·show nu [.val (.str x),.val (.int c),.no,.no,.no,.no,.no,.no,.no,.no]=_
    unfold nu;refine(aS b0).trans ((aS b1).trans (zig (wr.trans r2)))
   ·show wm [.val (.str x),.val (.int c),.no,.no,.no,.no,.no,.no,.no,.no]=_
    unfold wm;refine(aS (ou b0)).trans ((aS (ou b1)).trans (zif (wx.trans r3)))
  ·have r5':s'.length<=60:=by simp at r5;omega
   refine .inr ⟨(gr s').map gY,?_,?_,zc5 _⟩
   ·refine dH (ρ:=[.val (.str x),.val (.int c),.val (av s'),z3,z4,z5,z6,z7]) rfl ?_
    show nj [.val (.str x),.val (.int c),.no,.no,.no,.no,.no,.no]=_;unfold nj;refine(aS a0).trans ((aS a1).trans ((aS (wl.trans r1)).trans ?_));have tr:=zt3 r3 (by omega) (.val (.str x)) (.val (.int c)) z3 z4 z5 z6 z7;simp only[fN,ak,bc,aa,af,eC,ah,zz0,zz1,zO,zP,tr,zB,zG,Ab,l2,aR]
    rfl
   ·have to:vR [av s']=.ok (told s'):=by rw[zt1];exact ztZ r3 (by omega)
    refine zdp (ρ:=[.val (.str x),.val (.int c),.val (av s'),b3,b4,b5,b6,b7,b8,b9]) rfl ?_;show nu [.val (.str x),.val (.int c),.no,.no,.no,.no,.no,.no,.no,.no]=_;unfold nu;refine(aS b0).trans ((aS b1).trans ((aS (wr.trans r2)).trans ?_));simp only[fN,cX,az,aa,af,eV,ah,zz0,zz1,zO,zP,to]
    rfl
end
variable {w:Int}
section
theorem zkQ(d:D):zab "NoText" [d]=.ok (.str (zj "NoText")):=by kernel_rfl
theorem zsQ(hx:As x)(hl:x.length<=100000)(hn:(zV x (one 32)).length<=60)(c:Int):tj [.str x,.int c]=.ok (.bool true):=by
 rcases zsI hx hl hn c with⟨k,r1,r2,r3⟩|⟨l,r1,r2,pl⟩
 ·have tr:qo 5 3 (bx 4 (jP kn lM (aa (eV 0) (aa (eV 1) af)))) [.val (.str x),.val (.int c),.val (iI k),.val .none,.val .none,.no]=.ok (.nx,[.val (.str x),.val (.int c),.val (iI k),.ob "NoText" [.int k],.val .none,.no]):=by
   have cx:jP kn lM (aa (eV 0) (aa (eV 1) af)) [.val (.str x),.val (.int c),.val (iI k),.val .none,.val .none,.no]=.err "NoText" [.int k]:=by
    unfold jP;simp only[aa,af,eV,ah,zz0,zz1,r2,r3]
   have ow:bx 4 (jP kn lM (aa (eV 0) (aa (eV 1) af))) [.val (.str x),.val (.int c),.val (iI k),.val .none,.val .none,.no]=.err "NoText" [.int k]:=by
    unfold bx;rw[cx];rfl
   unfold qo;rw[ow]
   rfl
  have s1:ax (gN 2) (az qC (aa (eV 0) (aa (eV 1) af))) [.val (.str x),.val (.int c),.no,.no,.no,.no]=.ok (.nx,[.val (.str x),.val (.int c),.val (iI k),.no,.no,.no]):=by
   simp only[ax,gN,az,aa,af,eV,ah,zz0,zz1,zO,zP,r1]
  have s2:ax (gN 3) (eC .none) [.val (.str x),.val (.int c),.val (iI k),.no,.no,.no]=.ok (.nx,[.val (.str x),.val (.int c),.val (iI k),.val .none,.no,.no]):=rfl;have s3:ax (gN 4) (eC .none) [.val (.str x),.val (.int c),.val (iI k),.val .none,.no,.no]=.ok (.nx,[.val (.str x),.val (.int c),.val (iI k),.val .none,.val .none,.no]):=rfl;have i0:aD (iI k) (.int 0)=.ok (.str (zj "text")):=nQ;have i1:aD (iI k) (.int 1)=.ok (.int k):=uI;have et:aK (.str (zj "text")) (.str (zj "text"))=.ok (.bool true):=by kernel_rfl
  have en:aK (.str (zj "NoText")) (.str (zj "NoText"))=.ok (.bool true):=by kernel_rfl
  have ek:aK (.int k) (.int k)=.ok (.bool true):=by rw[gM,decide_eq_true rfl]
  have ib:jy "bool" (.int k)=.ok (.bool false):=rfl;have cl:=zkQ (.int k);have lk:([("NoText",0)]:List (String×Nat)).lookup "NoText"=some 0:=rfl;refine dH (ρ:=[.val (.str x),.val (.int c),.val (iI k),.ob "NoText" [.int k],.val .none,.no]) rfl ?_;show qP [.val (.str x),.val (.int c),.no,.no,.no,.no]=_;unfold qP;refine(aS s1).trans ((aS s2).trans ((aS s3).trans ((aS tr).trans (yB ?_))));simp only[ao,ak,tB,FL.e1,FL.e2,gi,iJ,wU,ua,eV,eC,ah,zz0,zz1,i0,i1,et,en,ek,ib,cl,lk,R.of,cH,if_true,Aq]
 ·have tr:qo 5 3 (bx 4 (jP kn lM (aa (eV 0) (aa (eV 1) af)))) [.val (.str x),.val (.int c),.val (hZ (.list l)),.val .none,.val .none,.no]=.ok (.nx,[.val (.str x),.val (.int c),.val (hZ (.list l)),.val .none,.ow false (.list l),.no]):=by
   have cx:jP kn lM (aa (eV 0) (aa (eV 1) af)) [.val (.str x),.val (.int c),.val (hZ (.list l)),.val .none,.val .none,.no]=.ok (.list l,[.val (.str x),.val (.int c),.val (hZ (.list l)),.val .none,.val .none,.no]):=by
    unfold jP;simp only[aa,af,eV,ah,zz0,zz1,r2]
   have ow:bx 4 (jP kn lM (aa (eV 0) (aa (eV 1) af))) [.val (.str x),.val (.int c),.val (hZ (.list l)),.val .none,.val .none,.no]=.ok (.nx,[.val (.str x),.val (.int c),.val (hZ (.list l)),.val .none,.ow false (.list l),.no]):=by
    unfold bx;rw[cx];rfl
   unfold qo;rw[ow]
  have s1:ax (gN 2) (az qC (aa (eV 0) (aa (eV 1) af))) [.val (.str x),.val (.int c),.no,.no,.no,.no]=.ok (.nx,[.val (.str x),.val (.int c),.val (hZ (.list l)),.no,.no,.no]):=by
   simp only[ax,gN,az,aa,af,eV,ah,zz0,zz1,zO,zP,r1]
  have s2:ax (gN 3) (eC .none) [.val (.str x),.val (.int c),.val (hZ (.list l)),.no,.no,.no]=.ok (.nx,[.val (.str x),.val (.int c),.val (hZ (.list l)),.val .none,.no,.no]):=rfl;have s3:ax (gN 4) (eC .none) [.val (.str x),.val (.int c),.val (hZ (.list l)),.val .none,.no,.no]=.ok (.nx,[.val (.str x),.val (.int c),.val (hZ (.list l)),.val .none,.val .none,.no]):=rfl;have i0:aD (hZ (.list l)) (.int 0)=.ok (.str (zj "sum")):=nQ;have i1:aD (hZ (.list l)) (.int 1)=.ok (.list l):=uI;have et:aK (.str (zj "sum")) (.str (zj "text"))=.ok (.bool false):=by kernel_rfl
  have el:=eq_self pl;refine dH (ρ:=[.val (.str x),.val (.int c),.val (hZ (.list l)),.val .none,.ow false (.list l),.no]) rfl ?_;show qP [.val (.str x),.val (.int c),.no,.no,.no,.no]=_;unfold qP;refine(aS s1).trans ((aS s2).trans ((aS s3).trans ((aS tr).trans ?_)));simp only[ag,ao,ak,aw,tB,FL.e1,FL.e2,gi,wV,m1,m2,bg,eV,eC,ah,zz0,zz1,i0,i1,et,znh,el,zm,if_false]
end
variable {B P j:Nat}{M:List Nat}{z:dm}
section
theorem cnt_join{c:Nat}:∀{l:List dm},l≠[]->(∀ p∈l,c∉TX.cp p)->(TX.cp (Ak (one c) l)).count c+1=l.length
 | [x],_,h=>by
  show(TX.cp x).count c+1=1;rw[List.count_eq_zero.mpr (h x (by simp))]
 | x::y::r,_,h=>by
  rw[mE,bE,bE,Eu,Eu,List.count_eq_zero.mpr (h x (by simp))];have:=cnt_join (c:=c) (l:=y::r) (by simp) fun p hp=>h p (z0 _ hp);rw[zB,<- this];have e:(TX.cp (one c)).count c=1:=by simp[TX.cp]
  rw[e];omega
theorem nsp(x:dm)(c:Nat):(zV x (one c)).length=(TX.cp x).count c+1:=by
 have jn:Ak (one c) (zV x (one c))=x:=DK _ _;have:=cnt_join (vA x c) fun p hp=>Fp x c p hp;rw[jn]at this;exact this.symm
theorem zfV(l:List Nat):∀ j:Nat,(A4 j).filterMap (fun i=>l[i]?)=l.take j
 | 0=>by simp
 | j+1=>by
  rw[List.range_succ,List.filterMap_append,zfV l j,List.take_add_one]
  congr 1
theorem zkY(h:j<=x.length):TX.cp (Ay x none (some (j:Int)))=(TX.cp x).take j:=by
 have e:Fq none (some (j:Int)) 1 x.length=A4 j:=by
  have m:max (0:Int) (min (j:Int) (x.length:Int))=(j:Int):=by omega
  have n0:¬ (j:Int)<0:=by omega
  show sliceRange 0 (max 0 (min (if(j:Int)<0 then(j:Int)+(x.length:Int) else(j:Int)) (x.length:Int))) 1=_;rw[if_neg n0,m];unfold sliceRange;rw[if_pos (by decide:(1:Int) > 0)]
  by_cases z:(0:Int)<(j:Int)
  ·rw[if_pos z,show((j:Int)-0+1-1) / 1=(j:Int) by omega]
   show(A4 (j:Int).toNat).map _=_;rw[Eg];refine(Er fun k _=>?_).trans (List.map_id _);show((0:Int)+1*(k:Int)).toNat=k
   omega
  ·rw[if_neg z,show j=0 by omega];rfl
 unfold Ay;rw[e,List.length_range]
 split
 ·rename_i k
  have:j=x.length:=by simpa using k
  rw[this,cO,List.take_length]
 ·show((A4 j).filterMap fun i=>x.cps[i]?)=_
  rw[<- zfV]
  congr 1
  funext i
  rw[<- Fd]
theorem zfh:TX.cp (Ay x (some (j:Int)) none)=(TX.cp x).drop j:=by
 by_cases h:j<=x.length
 ·rw[HI (x:=x) (i:=(j:Int)) (b:=(x.length:Int)) (by omega) (by omega) rfl]
  show((TX.cp x).drop (j:Int).toNat).take _=_;rw[Eg];refine EG ?_;rw[CA,cO]
  omega
 ·rw[PyProof.Rows.slice_beyond (by omega),List.drop_of_length_le (by rw[<- cO];omega)]
  rfl
structure Tt(B P:Nat)(x:dm):Prop where
 as:As x
 ln:x.length<=B
 cn:(TX.cp x).count 32<=P
theorem zdv(h:Tt B P x){c:Nat}(hc:c<128)(hM:M=[]\/M=[c])(hi:i=j\/i=j+1)(e:TX.cp z=(TX.cp x).take j++M++(TX.cp x).drop i):Tt (B+1) (P+1) z:=by
 have hl:M.length<=1:=by rcases hM with rfl|rfl <;> simp
 have hn:M.count 32<=1:=AB List.count_le_length hl;have sub:((TX.cp x).drop i).Sublist ((TX.cp x).drop j):=by
  rcases hi with rfl|rfl
  ·exact List.Sublist.refl _
  ·rw[<- List.drop_drop];exact List.drop_sublist _ _
 have tl:((TX.cp x).take j).length+((TX.cp x).drop j).length=(TX.cp x).length:=by rw[<- AO,Fm]
 have tc:((TX.cp x).take j).count 32+((TX.cp x).drop j).count 32=(TX.cp x).count 32:=by rw[<- Eu,Fm]
 have s1:=sub.length_le;have s2:=sub.count_le 32;have lx:=h.ln;rw[cO]at lx;refine⟨fun d hd=>?_,?_,?_⟩
 ·have eN:d∈(TX.cp x).take j++M++(TX.cp x).drop i:=by rw[<- e];exact hd
  rcases AI.mp eN with eN|eN
  ·rcases AI.mp eN with eN|eN
   ·exact h.as d (Fo eN)
   ·rcases hM with rfl|rfl
    ·simp at eN
    ·have:d=c:=by simpa using eN
     omega
  ·exact h.as d (GH eN)
 ·rw[cO,e,AO,AO];omega
 ·rw[e,Eu,Eu]
  have:=h.cn
  omega
theorem joined(cB:l≠[])(ha:∀ p∈l,As p)(hf:∀ p∈l,(32:Nat)∉TX.cp p)(hl:∀ p∈l,p.length<=B)(hP:l.length<=P+1)(h1:l.length<=1000)(h2:B<=10000):Tt ((P+1)*(B+1)) P (Ak (one 32) l):=by
 have c:=cnt_join cB hf;have ln:=zgC (c:=32) hl h1 h2;exact⟨zav (eX (by decide)) ha,AB ln (Nat.mul_le_mul_right _ hP),by omega⟩
end
variable {g:Int}
section
def zhv(g:Nat):Bool:=match tf [.int g] with
 | .ok (.str z)=>(TX.cp z).all (fun c=>decide (c<128))&&decide (z.length<=20)&&!(TX.cp z).contains 32
 | _=>false
theorem zpM:((A4 24).all zhv)=true:=by kernel_rfl
theorem zpN(g0:0<=g)(g1:g<24):∃ z:dm,tf [.int g]=.ok (.str z)/\As z/\z.length<=20/\(32:Nat)∉TX.cp z:=by
 obtain⟨n,rfl⟩:∃ n:Nat,g=(n:Int):=⟨g.toNat,by omega⟩;have h:=A3.mp zpM n (DR.mpr (by omega));unfold zhv at h
 split at h
 ·rename_i z e
  simp only[zX,A3,decide_eq_true_eq,DC,G3,decide_eq_false_iff_not]at h;exact⟨z,e,fun c hc=>h.1.1 c hc,h.1.2,h.2⟩
 ·cases h
abbrev signs:dm:=zj " 0123456789:.-/+e*~"
theorem ztb(g0:0<=g)(g1:g<19):∃ c:Nat,c<128/\iM (.str signs) (.int g)=.ok (.str (one c)):=by
 obtain⟨n,rfl⟩:∃ n:Nat,g=(n:Int):=⟨g.toNat,by omega⟩;have a:∀ n:Nat,n<19->∃ c,signs.cps.toList[n]?=some c/\c<128:=by
  intro n hn;have hl:n<signs.cps.toList.length:=by
   have:signs.cps.toList.length=19:=by kernel_rfl
   omega
  refine⟨_,Af hl,?_⟩;have al:signs.cps.toList.all (fun c=>decide (c<128))=true:=by kernel_rfl
  exact of_decide_eq_true (A3.mp al _ (EH hl))
 obtain⟨c,e,hc⟩:=a n (by omega);refine⟨c,hc,?_⟩;show aN _ _=_;have hl:n<signs.cps.toList.length:=by
  rcases Nat.lt_or_ge n signs.cps.toList.length with h|h
  ·exact h
  ·rw[F8 h]at e;cases e
 rw[aR (by kernel_rfl),ni hl,e]
 rfl
abbrev SE(x:dm)(d:D)(y2 y3 y4 y5:Sl):En:=[.val (.str x),.ow true d,y2,y3,y4,y5,.no,.no]
theorem ztc(h:Tt B P x)(hB:B<=30000)(hd:dM k d)(hk:k<=50000)(w0:0<=w)(w3:w<3):∃(z:dm) (d':D) (ρ:En),(∃ y3 y4 y5,ρ=SE x d' (.val (.int w)) y3 y4 y5)/\Tt (B+1) (P+1) z/\dM (k+2) d'/\(ag (ax (gN 3) (aQ bD [.m 1,.v (e2 aH (e1 e7 (eV 0)) (eC (.int 1)))]))
  (ag (ax (gN 4) (eC (.str signs)))
  (ag (ax (gN 5) (e2 iM (eV 4) (aQ bD [.m 1,.v (e1 e7 (eV 4))])))
  (ak (e2 aD (bc (aa (e2 c5 (e2 c5 (cE (eV 0) bK (bL (eV 3))) (eV 5)) (cE (eV 0) (bL (eV 3)) bK)) (aa (e2 c5 (cE (eV 0) bK (bL (eV 3))) (cE (eV 0) (bL (e2 aH (eV 3) (eC (.int 1)))) bK)) (aa (e2 c5 (e2 c5 (cE (eV 0) bK (bL (eV 3))) (eV 5)) (cE (eV 0) (bL (e2 aH (eV 3) (eC (.int 1)))) bK)) af)))) (eV 2)))))) (SE x d (.val (.int w)) .no .no .no)=.ok (.rt (.str z),ρ):=by
 have lx:=h.ln;have l3:leB 3 lim=true:=by decide
 have ll:e7 (.str x)=.ok (.int (x.length:Int)):=aR (cU (by omega));have l19:e7 (.str signs)=.ok (.int 19):=by kernel_rfl
 have ad:∀ i:Int,aH (.int i) (.int 1)=.ok (.int (i+1)):=fun _=>rfl;obtain⟨j',d1,t1,j0,j1,p1⟩:=iy hd (by omega) ((x.length:Int)+1) (by omega) (by omega);obtain⟨g,d2,t2,g0,g1,p2⟩:=iy p1 (by omega) 19 (by decide) (by decide);obtain⟨c,hc,ix⟩:=ztb g0 g1;obtain⟨j,rfl⟩:∃ j:Nat,j'=(j:Int):=⟨j'.toNat,by omega⟩;have jl:j<=x.length:=by omega
 have la:TX.cp (Ay x none (some (j:Int)))=_:=zkY jl;have lb:TX.cp (Ay x (some (j:Int)) none)=_:=zfh;have lc:TX.cp (Ay x (some ((j:Int)+1)) none)=(TX.cp x).drop (j+1):=zfh (j:=j+1);have xl:=cO x;have na:(Ay x none (some (j:Int))).length<=30000:=by rw[cO,la,DZ];omega
 have nb:(Ay x (some (j:Int)) none).length<=30000:=by rw[cO,lb,CA];omega
 have nc:(Ay x (some ((j:Int)+1)) none).length<=30000:=by rw[cO,lc,CA];omega
 have sa:oz (.str x) none (some (j:Int))=.ok (.str (Ay x none (some (j:Int)))):=aR (cU (by omega));have sb:oz (.str x) (some (j:Int)) none=.ok (.str (Ay x (some (j:Int)) none)):=aR (cU (by omega));have sc:oz (.str x) (some ((j:Int)+1)) none=.ok (.str (Ay x (some ((j:Int)+1)) none)):=aR (cU (by omega));generalize Ay x none (some (j:Int))=a at *;generalize Ay x (some (j:Int)) none=b at *;generalize Ay x (some ((j:Int)+1)) none=e at *;have o1:(one c).length=1:=rfl;have a1:c5 (.str a) (.str (one c))=.ok (.str (a++one c)):=aR (cU (by omega));have a2:c5 (.str (a++one c)) (.str b)=.ok (.str (a++one c++b)):=aR (cU (by rw[len_app];omega));have a3:c5 (.str a) (.str e)=.ok (.str (a++e)):=aR (cU (by omega));have a4:c5 (.str (a++one c)) (.str e)=.ok (.str (a++one c++e)):=aR (cU (by rw[len_app];omega));have s1:ax (gN 3) (aQ bD [.m 1,.v (e2 aH (e1 e7 (eV 0)) (eC (.int 1)))]) (SE x d (.val (.int w)) .no .no .no)=.ok (.nx,SE x d1 (.val (.int w)) (.val (.int j)) .no .no) :=
  kg (y:=(.int j,SE x d1 (.val (.int w)) .no .no .no)) (jq (p:=true) (d:=d) (v:=.int ((x.length:Int)+1)) rfl (by simp only[SE,FL.e1,FL.e2,eV,eC,ah,zz0,ll,ad]) t1) rfl di
 have s2:ax (gN 4) (eC (.str signs)) (SE x d1 (.val (.int w)) (.val (.int j)) .no .no)=.ok (.nx,SE x d1 (.val (.int w)) (.val (.int j)) (.val (.str signs)) .no):=rfl;have cm:aQ bD [.m 1,.v (e1 e7 (eV 4))] (SE x d1 (.val (.int w)) (.val (.int j)) (.val (.str signs)) .no)=.ok (.int g,SE x d2 (.val (.int w)) (.val (.int j)) (.val (.str signs)) .no):=jq (p:=true) (d:=d1) (v:=.int 19) rfl (by simp only[SE,FL.e1,eV,ah,zz0,zz1,l19]) t2;have s3:ax (gN 5) (e2 iM (eV 4) (aQ bD [.m 1,.v (e1 e7 (eV 4))])) (SE x d1 (.val (.int w)) (.val (.int j)) (.val (.str signs)) .no)=.ok (.nx,SE x d2 (.val (.int w)) (.val (.int j)) (.val (.str signs)) (.val (.str (one c)))) :=
  kg (y:=(.str (one c),SE x d2 (.val (.int w)) (.val (.int j)) (.val (.str signs)) .no)) (by
   unfold FL.e2;rw[show eV 4 (SE x d1 (.val (.int w)) (.val (.int j)) (.val (.str signs)) .no)=.ok (.str signs,SE x d1 (.val (.int w)) (.val (.int j)) (.val (.str signs)) .no) from rfl,ah,cm,ah,ix];rfl) rfl di
 have out:∃ z,aD (.list [.str (a++one c++b),.str (a++e),.str (a++one c++e)]) (.int w)=.ok (.str z)/\Tt (B+1) (P+1) z:=by
  have w':w=0\/w=1\/w=2:=by omega
  rcases w' with rfl|rfl|rfl
  ·exact⟨_,rfl,zdv h (j:=j) (i:=j) (c:=c) (M:=[c]) hc (.inr rfl) (.inl rfl) (by rw[bE,bE,la,lb];try rfl)⟩
  ·exact⟨_,rfl,zdv h (j:=j) (i:=j+1) (c:=c) (M:=[]) hc (.inl rfl) (.inr rfl) (by rw[bE,la,lc,BC])⟩
  ·exact⟨_,rfl,zdv h (j:=j) (i:=j+1) (c:=c) (M:=[c]) hc (.inr rfl) (.inr rfl) (by rw[bE,bE,la,lc];try rfl)⟩
 obtain⟨z,iz,tz⟩:=out;refine⟨z,d2,SE x d2 (.val (.int w)) (.val (.int j)) (.val (.str signs)) (.val (.str (one c))),⟨_,_,_,rfl⟩,tz,p2,?_⟩;refine(aS s1).trans ((aS s2).trans ((aS s3).trans ?_));simp only[SE,ak,bc,aa,af,FL.e2,cE,bK,bL,eV,eC,ah,zz0,zz1,ad,sa,sb,sc,a1,a2,a3,a4,zB,zG,Ab,aR l3,iz]
end
variable {M g:Nat}
section
structure Ps(M n:Nat)(l:List dm):Prop where
 ne:l≠[]
 as:∀ p∈l,As p
 fr:∀ p∈l,(32:Nat)∉TX.cp p
 le:∀ p∈l,p.length<=M
 ln:l.length<=n
theorem Ps.of{l':List dm}(h:Ps M n l)(za:As z)(zf:(32:Nat)∉TX.cp z)(zl:z.length<=M)(cB:l'≠[])(hm:∀ p∈l',p∈l\/p=z)(hl:l'.length<=l.length+1):Ps M (n+1) l':=⟨cB,fun p hp=>(hm p hp).elim (h.as p) (fun e=>e▸za),fun p hp=>(hm p hp).elim (h.fr p) (fun e=>e▸zf),fun p hp=>(hm p hp).elim (h.le p) (fun e=>e▸zl),by have:=h.ln;omega⟩
theorem zgs:∀ p∈l.take g++z::l.drop g,p∈l\/p=z:=fun p hp=>by
 rcases AI.mp hp with hp|hp
 ·exact .inl (Fo hp)
 ·rcases zS.mp hp with rfl|hp
  ·exact .inr rfl
  ·exact .inl (GH hp)
theorem zgr:(l.take g++z::l.drop g).length<=l.length+1:=by
 have:(l.take g).length+(l.drop g).length=l.length:=by rw[<- AO,Fm]
 rw[AO,zB];omega
theorem zgt{g:Int}(g0:0<=g)(g1:g<=l.length)(hl:l.length<=1000):zgn (l.map zg) (.int g) (.str z)=.ok ((l.take g.toNat++z::l.drop g.toNat).map zg):=by
 refine(aR ?_).trans ?_
 ·rw[zL,decide_eq_true g0,jY (by omega:g.toNat<=l.length),cU (by omega:l.length+1<=1000000)]
  rfl
 ·rw[DL,zE,List.map_take,List.map_drop]
abbrev SP(x:dm)(d:D)(y2 y3 y6 y7:Sl):En:=[.val (.str x),.ow true d,y2,y3,.no,.no,y6,y7]
abbrev yh:SF:=(ao (tB (e2 aK (eV 2) (eC (.int 3)))) (my 6 (e2 aH (eV 3) (aQ bD [.m 1,.v (eC (.int 2))])) (eV 7)) (ao (tB (e2 aK (eV 2) (eC (.int 4)))) (setM 6 (eV 7) (eV 3)) (my 6 (aQ bD [.m 1,.v (e2 aH (m1 bz 6) (eC (.int 1)))]) (m2 aD 6 (eV 3)))))
theorem zqc(h:Ps M n l)(hn:n<=1000)(za:As z)(zf:(32:Nat)∉TX.cp z)(zl:z.length<=M)(hd:dM k d)(hk:k<=50000)(w0:3<=w)(w3:w<6)(hj:j<l.length):∃(l':List dm) (d':D),Ps M (n+1) l'/\dM (k+1) d'/\yh (SP x d (.val (.int w)) (.val (.int j)) (.ow false (.list (l.map zg))) (.val (.str z)))=.ok (.nx,SP x d' (.val (.int w)) (.val (.int j)) (.ow false (.list (l'.map zg))) (.val (.str z))):=by
 have hln:=h.ln;have e3:aK (.int w) (.int 3)=.ok (.bool (decide (w=3))):=gM ..;have e4:aK (.int w) (.int 4)=.ok (.bool (decide (w=4))):=gM ..;have lt:∀(a b c e f g i:Sl),eB [a,b,c,e,f,g,.ow false (.list (l.map zg)),i] 6=.ok (l.map zg):=fun _ _ _ _ _ _ _=>rfl
 by_cases c3:w=3
 ·rw[decide_eq_true c3]at e3
  obtain⟨g,d1,t1,g0,g1,p1⟩:=iy hd (by omega) 2 (by decide) (by decide);have cm:aQ bD [.m 1,.v (eC (.int 2))] (SP x d (.val (.int w)) (.val (.int j)) (.ow false (.list (l.map zg))) (.val (.str z)))=.ok (.int g,SP x d1 (.val (.int w)) (.val (.int j)) (.ow false (.list (l.map zg))) (.val (.str z))):=jq (p:=true) (d:=d) (v:=.int 2) rfl rfl t1;have ad:aH (.int j) (.int g)=.ok (.int ((j:Int)+g)):=rfl;have ins:=zgt (l:=l) (z:=z) (g:=(j:Int)+g) (by omega) (by omega) (by omega);have k2:e2 aH (eV 3) (aQ bD [.m 1,.v (eC (.int 2))]) (SP x d (.val (.int w)) (.val (.int j)) (.ow false (.list (l.map zg))) (.val (.str z)))=.ok (.int ((j:Int)+g),SP x d1 (.val (.int w)) (.val (.int j)) (.ow false (.list (l.map zg))) (.val (.str z))):=by
   unfold FL.e2;rw[show eV 3 (SP x d (.val (.int w)) (.val (.int j)) (.ow false (.list (l.map zg))) (.val (.str z)))=.ok (.int j,SP x d (.val (.int w)) (.val (.int j)) (.ow false (.list (l.map zg))) (.val (.str z))) from rfl,ah,cm,ah,ad]
   rfl
  have st:my 6 (e2 aH (eV 3) (aQ bD [.m 1,.v (eC (.int 2))])) (eV 7) (SP x d (.val (.int w)) (.val (.int j)) (.ow false (.list (l.map zg))) (.val (.str z)))=.ok (.nx,SP x d1 (.val (.int w)) (.val (.int j)) (.ow false (.list ((l.take ((j:Int)+g).toNat++z::l.drop ((j:Int)+g).toNat).map zg))) (.val (.str z))):=by
   unfold my;rw[k2];simp only[SP,lt,eV,ah,zz0,zz1,ins]
   rfl
  refine⟨l.take ((j:Int)+g).toNat++z::l.drop ((j:Int)+g).toNat,d1,h.of za zf zl (by simp) zgs zgr,p1,?_⟩;rw[<- st];simp only[yh,ao,tB,FL.e2,eV,eC,ah,zz0,zz1,e3,if_true]
 ·rw[decide_eq_false c3]at e3
  by_cases c4:w=4
  ·rw[decide_eq_true c4]at e4
   have ixn:fJ (l.map zg).length (j:Int)=some j:=by
    rw[zL];unfold fJ;rw[if_pos (by omega),if_pos (by omega),Eg]
   refine⟨l.set j z,d,h.of za zf zl (by
    intro e;have:=congrArg FE e;rw[Bp,zG]at this
    omega) (fun p hp=>List.mem_or_eq_of_mem_set hp) (by rw[Bp];omega),hd.mono (by omega),?_⟩
   simp only[yh,SP,ao,tB,FL.e2,eV,eC,setM,lt,ah,zz0,zz1,e3,e4,zm,if_false,if_true,ixn,R.of,List.map_set]
   rfl
  ·rw[decide_eq_false c4]at e4
   obtain⟨g,d1,t1,g0,g1,p1⟩:=iy hd (by omega) ((l.length:Int)+1) (by omega) (by omega);have ll:bz (.list (l.map zg))=.ok (.int (l.length:Int)):=by
    show R.ok (zH ((l.map zg).length:Int))=_;rw[zL]
   have ad:aH (.int (l.length:Int)) (.int 1)=.ok (.int ((l.length:Int)+1)):=rfl;have cm:aQ bD [.m 1,.v (e2 aH (m1 bz 6) (eC (.int 1)))] (SP x d (.val (.int w)) (.val (.int j)) (.ow false (.list (l.map zg))) (.val (.str z)))=.ok (.int g,SP x d1 (.val (.int w)) (.val (.int j)) (.ow false (.list (l.map zg))) (.val (.str z))):=jq (p:=true) (d:=d) (v:=.int ((l.length:Int)+1)) rfl (by simp only[SP,FL.e2,m1,bg,eC,ah,zz0,zz1,ll,ad]) t1;have ixp:aD (.list (l.map zg)) (.int j)=.ok (.str l[j]):=by
    show R.of (bX _ _)=_;rw[ni (by rw[zL];exact hj),AH,Af hj]
    rfl
   have mj:l[j]∈l:=EH hj;have ins:=zgt (l:=l) (z:=l[j]) (g:=g) g0 (by omega) (by omega);refine⟨l.take g.toNat++l[j]::l.drop g.toNat,d1,h.of (h.as _ mj) (h.fr _ mj) (h.le _ mj) (by simp) zgs zgr,p1,?_⟩;have st:my 6 (aQ bD [.m 1,.v (e2 aH (m1 bz 6) (eC (.int 1)))]) (m2 aD 6 (eV 3)) (SP x d (.val (.int w)) (.val (.int j)) (.ow false (.list (l.map zg))) (.val (.str z)))=.ok (.nx,SP x d1 (.val (.int w)) (.val (.int j)) (.ow false (.list ((l.take g.toNat++l[j]::l.drop g.toNat).map zg))) (.val (.str z))):=by
    unfold my;rw[cm];simp only[SP,lt,m2,bg,eV,ah,zz0,zz1,ixp,ins]
    rfl
   rw[<- st];simp only[yh,ao,tB,FL.e2,eV,eC,ah,zz0,zz1,e3,e4,zm,if_false]
end
variable {g:D->D->R D}{d':D}{t:TF}
section
theorem zie{a:SF}{ρ':En}(h:t ρ=.ok (true,ρ')):ao t a b ρ=a ρ':=by
 unfold ao;rw[h,ah,if_pos rfl]
theorem zin{z:D}(b:lP [.val (.str x),.ow true d,.no,.no,.no,.no,.no,.no]=.ok (.rt z,.val (.str x)::.ow true d'::r)):mX [.str x,d]=.ok (z,[.str x,d']):=by
 show FL.run [false,true] false 8 lP [.str x,d]=_;unfold FL.run;rw[if_pos (by rfl:[zg x,d].length=[false,true].length)];show(lP [.val (.str x),.ow true d,.no,.no,.no,.no,.no,.no]).bind _=_;rw[b];rfl
structure Tp(B M P:Nat)(x:dm):Prop where
 t:Tt B P x
 pm:∀ p∈zV x (one 32),p.length<=M
theorem Tt.tp(h:Tt B P x)(hB:B<=100000):Tp B B P x:=⟨h,fun p hp=>AB ((qu h.as (by have:=h.ln;omega) 32).le p hp) h.ln⟩
theorem zdw(h:Tp B M P x)(hB:B<=30000)(hM:M<=5000)(hP:P<=40)(hd:dM k d)(hk:k<=40000):∃(z:dm) (d':D),mX [.str x,d]=.ok (.str z,[.str x,d'])/\(Tt (B+1) (P+1) z\/Tp ((P+2)*(M+21)) (M+20) (P+1) z)/\dM (k+4) d':=by
 obtain⟨w,d1,t1,w0,w5,p1⟩:=iy hd (by omega) 6 (by decide) (by decide);have gQ:dD (.int w) (.int 3)=.ok (.bool (decide (w<3))):=nU _ _;have s1:ax (gN 2) (aQ bD [.m 1,.v (eC (.int 6))]) [.val (.str x),.ow true d,.no,.no,.no,.no,.no,.no]=.ok (.nx,[.val (.str x),.ow true d1,.val (.int w),.no,.no,.no,.no,.no]) :=
  kg (y:=(.int w,[.val (.str x),.ow true d1,.no,.no,.no,.no,.no,.no])) (jq (p:=true) (d:=d) (v:=.int 6) rfl rfl t1) rfl di
 by_cases c:w<3
 ·rw[decide_eq_true c]at gQ
  obtain⟨z,d2,ρ,⟨y3,y4,y5,rfl⟩,tz,p2,e⟩:=ztc h.t (by omega) p1 (by omega) w0 c;refine⟨z,d2,?_,.inl tz,p2.mono (by omega)⟩;have b:lP [.val (.str x),.ow true d,.no,.no,.no,.no,.no,.no]=.ok (.rt (.str z),SE x d2 (.val (.int w)) y3 y4 y5):=by
   unfold lP;refine(aS s1).trans (yB ?_);refine(zie ?_).trans e;simp only[tB,FL.e2,eV,eC,ah,zz0,zz1,gQ]
  exact zin b
 ·rw[decide_eq_false c]at gQ
  have S:=qu h.t.as (by have:=h.t.ln;omega) 32;have nl:=nsp x 32;have pm:=h.pm;generalize zV x (one 32)=l at S nl pm;have cn:=h.t.cn;have iL:Ps (M+20) (P+1) l:=⟨S.ne,S.as,S.fr,fun p hp=>by have:=pm p hp;omega,by omega⟩;have l1:1<=l.length:=by rw[nl];omega
  have so:strOf (.str x)=.ok x:=rfl;have sp:eD x (.str (zj " "))=.ok (.list (l.map zg)):=S.sp;have ll:bz (.list (l.map zg))=.ok (.int (l.length:Int)):=by
   show R.ok (zH ((l.map zg).length:Int))=_;rw[zL]
  obtain⟨j',d2,t2,j0,j1,p2⟩:=iy p1 (by omega) (l.length:Int) (by omega) (by omega);obtain⟨j,rfl⟩:∃ j:Nat,j'=(j:Int):=⟨j'.toNat,by omega⟩;obtain⟨g,d3,t3,g0,g1,p3⟩:=iy p2 (by omega) 24 (by decide) (by decide);obtain⟨o,eo,oa,ol,of⟩:=zpN g0 g1;obtain⟨l',d4,eQ,p4,st⟩:=zqc iL (by omega) (x:=x) oa of (by omega) p3 (by omega) (w:=w) (by omega) (by omega) (j:=j) (by omega);have s2:ao (tB (e2 dD (eV 2) (eC (.int 3)))) (ag (ax (gN 3) (aQ bD [.m 1,.v (e2 aH (e1 e7 (eV 0)) (eC (.int 1)))]))
  (ag (ax (gN 4) (eC (.str signs)))
  (ag (ax (gN 5) (e2 iM (eV 4) (aQ bD [.m 1,.v (e1 e7 (eV 4))])))
  (ak (e2 aD (bc (aa (e2 c5 (e2 c5 (cE (eV 0) bK (bL (eV 3))) (eV 5)) (cE (eV 0) (bL (eV 3)) bK)) (aa (e2 c5 (cE (eV 0) bK (bL (eV 3))) (cE (eV 0) (bL (e2 aH (eV 3) (eC (.int 1)))) bK)) (aa (e2 c5 (e2 c5 (cE (eV 0) bK (bL (eV 3))) (eV 5)) (cE (eV 0) (bL (e2 aH (eV 3) (eC (.int 1)))) bK)) af)))) (eV 2)))))) aw [.val (.str x),.ow true d1,.val (.int w),.no,.no,.no,.no,.no]=.ok (.nx,[.val (.str x),.ow true d1,.val (.int w),.no,.no,.no,.no,.no]):=by
   simp only[ao,tB,FL.e2,eV,eC,aw,ah,zz0,zz1,gQ,zm,if_false]
  have s3:bx 6 (bt eD (eV 0) (eC (.str (zj " ")))) [.val (.str x),.ow true d1,.val (.int w),.no,.no,.no,.no,.no]=.ok (.nx,[.val (.str x),.ow true d1,.val (.int w),.no,.no,.no,.ow false (.list (l.map zg)),.no]):=by
   unfold bx;simp only[bt,eV,eC,ah,zz0,so,sp]
   rfl
  have s4:ax (gN 3) (aQ bD [.m 1,.v (m1 bz 6)]) [.val (.str x),.ow true d1,.val (.int w),.no,.no,.no,.ow false (.list (l.map zg)),.no]=.ok (.nx,[.val (.str x),.ow true d2,.val (.int w),.val (.int j),.no,.no,.ow false (.list (l.map zg)),.no]) :=
   kg (y:=(.int j,[.val (.str x),.ow true d2,.val (.int w),.no,.no,.no,.ow false (.list (l.map zg)),.no])) (jq (p:=true) (d:=d1) (v:=.int (l.length:Int)) rfl (by simp only[m1,bg,ah,zz0,zz1,ll]) t2) rfl di
  have cm:aQ bD [.m 1,.v (eC (.int 24))] [.val (.str x),.ow true d2,.val (.int w),.val (.int j),.no,.no,.ow false (.list (l.map zg)),.no]=.ok (.int g,[.val (.str x),.ow true d3,.val (.int w),.val (.int j),.no,.no,.ow false (.list (l.map zg)),.no]):=jq (p:=true) (d:=d2) (v:=.int 24) rfl rfl t3;have s5:ax (gN 7) (az tf (aa (aQ bD [.m 1,.v (eC (.int 24))]) af)) [.val (.str x),.ow true d2,.val (.int w),.val (.int j),.no,.no,.ow false (.list (l.map zg)),.no]=.ok (.nx,SP x d3 (.val (.int w)) (.val (.int j)) (.ow false (.list (l.map zg))) (.val (.str o))) :=
   kg (y:=(.str o,[.val (.str x),.ow true d3,.val (.int w),.val (.int j),.no,.no,.ow false (.list (l.map zg)),.no])) (by
    unfold az aa;rw[cm];simp only[af,ah,eo]) rfl di
  have jo:=zcr (c:=32) (B:=M+20) eQ.le (by have:=eQ.ln;omega) (by omega);have jd:=joined (P:=P+1) eQ.ne eQ.as eQ.fr eQ.le (by have:=eQ.ln;omega) (by have:=eQ.ln;omega) (by omega);have ss:strOf (.str (zj " "))=.ok (one 32):=rfl;refine⟨Ak (one 32) l',d4,?_,.inr ⟨⟨jd.as,jd.ln,jd.cn⟩,fun p hp=>?_⟩,p4.mono (by omega)⟩
  ·have b:lP [.val (.str x),.ow true d,.no,.no,.no,.no,.no,.no]=.ok (.rt (.str (Ak (one 32) l')),SP x d4 (.val (.int w)) (.val (.int j)) (.val (.list (l'.map zg))) (.val (.str o))):=by
    unfold lP;refine(aS s1).trans ((aS s2).trans ((aS s3).trans ((aS s4).trans ((aS s5).trans ((aS st).trans ?_)))));simp only[fN,SP,zz0,zz1,zO,zP,ak,bt,eC,eV,ah,ss,jo]
   exact zin b
  ·rw[zdu eQ.ne eQ.fr]at hp
   exact eQ.le p hp
end
variable {y2 y4:Sl}{b:Bool}{l:Sm}{ρ2:En}{k:Int}{f h:EF}{F:List D->R D}{S:D}
section
theorem zra:vL=vU:=rfl
theorem zj3:vK=vS:=rfl
theorem ze1{F:List D->R (D×List D)}{v r v':D}(hi:ρ[i]?=some (.ow p d))(hf:f ρ=.ok (v,ρ))(hF:F [v,d]=.ok (r,[v',d'])):aQ F [.v f,.m i] ρ=.ok (r,ρ.set i (.ow p d')):=by
 have hm:bg ρ i=.ok d:=by unfold bg;rw[hi]
 unfold aQ;simp only[eT,hm,hf,ah,d7,hF];have:=wD (d:=d) (d':=d') (p:=p) ρ 0 i hi;rw[CD]at this;show R.ok (r,bY [(i,.ow true d')] 0 ρ)=_;rw[this]
theorem ztx(h:f ρ=.ok (.bool b,ρ1)):tB f ρ=.ok (b,ρ1):=by
 unfold tB;rw[h];rfl
theorem zaX{b c:D}(hf:f ρ=.ok (a,ρ1))(hh:h ρ1=.ok (b,ρ2))(hg:g a b=.ok c):FL.e2 g f h ρ=.ok (c,ρ2):=by
 unfold FL.e2;rw[hf,ah,hh,ah,hg];rfl
theorem ze0{b c:D}(hf:f ρ=.ok (a,ρ1))(hh:h ρ1=.ok (b,ρ2))(hg:F [a,b]=.ok c):az F (aa f (aa h af)) ρ=.ok (c,ρ2):=by
 simp only[az,aa,af,hf,hh,ah,hg]
theorem zkC{c:D}(hf:f ρ=.ok (a,ρ1))(hg:F [a]=.ok c):az F (aa f af) ρ=.ok (c,ρ1):=by
 simp only[az,aa,af,hf,ah,hg]
abbrev LE(S:D)(k:Int)(y2 y3 y4 y5 y6:Sl):En:=[.val S,.val (.int k),y2,y3,y4,y5,y6]
def Rd(x:dm):Prop:=As x/\x.length<=100000/\(zV x (one 32)).length<=60
theorem Rd.ok(h:Rd x)(c:Int):tj [.str x,.int c]=.ok (.bool true):=zsQ h.1 h.2.1 h.2.2 c
theorem Tt.rd(h:Tt B P x)(hB:B<=100000)(hP:P<=50):Rd x:=⟨h.as,by have:=h.ln;omega,by rw[nsp];have:=h.cn;omega⟩
theorem zo9(i:Int):∃ m:Int,two xQ [.int 1,.int i]=.ok (.int m):=by
 refine⟨if i > 1 then i else 1,?_⟩
 rfl
theorem zhx(h:Rd x):yN (LE S k y2 (.val (.int c)) y4 y5 (.val (.str x)))=.ok (.nx,LE S k y2 (.val (.int c)) y4 y5 (.val (.str x))):=by
 obtain⟨m,hm⟩:=zo9 (c-1);have sb:dI (.int c) (.int 1)=.ok (.int (c-1)):=rfl;have r1:=h.ok c;have r2:=h.ok m;simp only[yN,LE,ao,FL.aB,FL.bI,tE,az,aa,af,FL.e2,eV,eC,aw,ah,zz0,zz1,sb,hm,r1,r2,cH,Aa,zm,if_false]
theorem zuh(hx:Rd x)(hz:Rd z)(n6:Np y6):zdJ (LE S k y2 (.val (.int c)) (.val (.str x)) (.val (.str z)) y6)=.ok (.nx,LE S k y2 (.val (.int c)) (.val (.str x)) (.val (.str z)) (.val (.str x))):=by
 have l2:leB 2 lim=true:=by decide
 have it:iE (bc (aa (eV 5) (aa (eV 4) af))) (LE S k y2 (.val (.int c)) (.val (.str x)) (.val (.str z)) y6)=.ok ([.str z,.str x],LE S k y2 (.val (.int c)) (.val (.str x)) (.val (.str z)) y6):=by
  simp only[iE,LE,bc,aa,af,eV,ah,zz0,zz1,zB,zG,Ab,aR l2,gE]
 have g1:gN 6 (.str z) (LE S k y2 (.val (.int c)) (.val (.str x)) (.val (.str z)) y6)=.ok (LE S k y2 (.val (.int c)) (.val (.str x)) (.val (.str z)) (.val (.str z))):=gB rfl n6;have g2:gN 6 (.str x) (LE S k y2 (.val (.int c)) (.val (.str x)) (.val (.str z)) (.val (.str z)))=.ok (LE S k y2 (.val (.int c)) (.val (.str x)) (.val (.str z)) (.val (.str x))):=gB rfl (dY _);refine(yz it).trans ?_;rw[forL,g1,ah,zhx hz,ah];show forL _ _ _ _=_;rw[forL,g2,ah,zhx hx,ah]
 rfl
theorem drawn(h:∀ p∈l,TB p)(hl:l.length<=6):Tp 2610 2610 5 (fq l):=by
 refine(Tt.tp (P:=5) (B:=2610) ?_ (by decide))
 by_cases e:l=[]
 ·subst e
  have:fq []=one 48:=rfl;rw[this];exact⟨eX (by decide),by decide,by decide⟩
 ·have hT:fq l=Ak (one 32) (l.map jF):=by unfold fq;rw[if_neg e]
  rw[hT];have J:=joined (B:=434) (P:=5) (l:=l.map jF) (by simpa using e) (fun x hx=>by
   obtain⟨q,hq,rfl⟩:=zZ.mp hx;exact zj1 q) (fun x hx=>by
   obtain⟨q,hq,rfl⟩:=zZ.mp hx;exact zmi (by decide) (by decide) (by decide) (by decide) (by decide)) (fun x hx=>by
   obtain⟨q,hq,rfl⟩:=zZ.mp hx;exact ziF (h q hq)) (by rw[zL];omega) (by rw[zL];omega) (by decide)
  exact⟨J.as,J.ln,J.cn⟩
theorem zua(ns:List Int)(k:Int)(k0:0<=k)(k1:k<=100){y3:Sl}(h2:Np y2)(h3:Np y3)(h4:Np y4)(h5:Np y5)(h6:Np y6) :
  ∃ z2 z3 z4 z5 z6,Np z2/\Np z3/\Np z4/\Np z5/\Np z6/\sU (LE (.list (ns.map zH)) k y2 y3 y4 y5 y6)=.ok (.nx,LE (.list (ns.map zH)) k z2 z3 z4 z5 z6):=by
 obtain⟨a,ea⟩:=zj4 ns k k0 (by omega);obtain⟨d0,ep,p0⟩:=zrb a (80+k) (by omega);rw[<- zj3]at ea;rw[<- zra]at ep;obtain⟨g,d1,t1,g0,g1,p1⟩:=iy p0 (by omega) 6 (by decide) (by decide);obtain⟨s,d2,ts,dz,p2⟩:=zoJ p1 (by omega) (c:=1+g) (by omega) (by omega);generalize hS:Gq (ns.map zH)=S at *;have hpm:=kh s;generalize gr s=t at ts hpm;have tl:t.length<=6:=by rw[hpm.length_eq];exact dz.ln
 have tb:∀ p∈t,TB p:=fun p hp=>(dz.rt p (hpm.mem_iff.mp hp)).tb (by omega);have x2:=zoZ tb (by omega);have D0:=drawn tb tl;obtain⟨z,d3,e3,tz,p3⟩:=zdw D0 (by decide) (by decide) (by decide) p2 (by omega);have R0:Rd (fq t):=D0.t.rd (by decide) (by decide);have Z:Tp 18417 2630 6 z\/Tp 2611 2611 6 z:=by
  rcases tz with tz|tz
  ·exact .inr (tz.tp (by decide))
  ·exact .inl tz
 have Z1:Rd z:=by
  rcases Z with h|h
  ·exact h.t.rd (by decide) (by decide)
  ·exact h.t.rd (by decide) (by decide)
 obtain⟨g',d4,t4,g4,g5,p4⟩:=iy p3 (by omega) 3 (by decide) (by decide);obtain⟨z',d5,e5,R5,p5⟩:∃(z':dm) (d5:D),mX [.str z,d4]=.ok (.str z',[.str z,d5])/\Rd z'/\True:=by
  rcases Z with h|h
  ·obtain⟨z',d5,e5,tz,_⟩:=zdw h (by decide) (by decide) (by decide) p4 (by omega)
   refine⟨z',d5,e5,?_,trivial⟩;rcases tz with q|q
   ·exact q.rd (by decide) (by decide)
   ·exact q.t.rd (by decide) (by decide)
  ·obtain⟨z',d5,e5,tz,_⟩:=zdw h (by decide) (by decide) (by decide) p4 (by omega)
   refine⟨z',d5,e5,?_,trivial⟩;rcases tz with q|q
   ·exact q.rd (by decide) (by decide)
   ·exact q.t.rd (by decide) (by decide)
 have s1:bx 2 (az vL (aa (az vK (aa (eV 0) (aa (eV 1) af))) (aa (e2 aH (eC (.int 80)) (eV 1)) af))) (LE S k y2 y3 y4 y5 y6)=.ok (.nx,LE S k (.ow false d0) y3 y4 y5 y6) :=
  zdq (i:=2) (y:=(d0,LE S k y2 y3 y4 y5 y6)) (ze0 (ze0 rfl rfl ea) (zaX (a:=.int 80) (b:=.int k) rfl rfl rfl) ep) rfl h2
 have s2:ax (gN 3) (e2 aH (eC (.int 1)) (aQ bD [.m 2,.v (eC (.int 6))])) (LE S k (.ow false d0) y3 y4 y5 y6)=.ok (.nx,LE S k (.ow false d1) (.val (.int (1+g))) y4 y5 y6) :=
  kg (y:=(.int (1+g),LE S k (.ow false d1) y3 y4 y5 y6)) (zaX (a:=.int 1) (b:=.int g) rfl (jq (p:=false) (d:=d0) (v:=.int 6) rfl rfl t1) rfl) rfl h3
 have s3:ax (gN 4) (az vO (aa (aQ vN [.m 2,.v (eV 3),.v (eC (.int 6))]) af)) (LE S k (.ow false d1) (.val (.int (1+g))) y4 y5 y6)=.ok (.nx,LE S k (.ow false d2) (.val (.int (1+g))) (.val (.str (fq t))) y5 y6) :=
  kg (y:=(.str (fq t),LE S k (.ow false d2) (.val (.int (1+g))) y4 y5 y6)) (zkC (zkE (p:=false) (d:=d1) rfl rfl rfl ts) x2) rfl h4
 have s4:ax (gN 5) (aQ mX [.v (eV 4),.m 2]) (LE S k (.ow false d2) (.val (.int (1+g))) (.val (.str (fq t))) y5 y6)=.ok (.nx,LE S k (.ow false d3) (.val (.int (1+g))) (.val (.str (fq t))) (.val (.str z)) y6) :=
  kg (y:=(.str z,LE S k (.ow false d3) (.val (.int (1+g))) (.val (.str (fq t))) y5 y6)) (ze1 (p:=false) (d:=d2) rfl rfl e3) rfl h5
 have cm:aQ bD [.m 2,.v (eC (.int 3))] (LE S k (.ow false d3) (.val (.int (1+g))) (.val (.str (fq t))) (.val (.str z)) y6)=.ok (.int g',LE S k (.ow false d4) (.val (.int (1+g))) (.val (.str (fq t))) (.val (.str z)) y6):=jq (p:=false) (d:=d3) (v:=.int 3) rfl rfl t4;have pI:aK (.int g') (.int 1)=.ok (.bool (decide (g'=1))):=gM ..;have tt:tB (e2 aK (aQ bD [.m 2,.v (eC (.int 3))]) (eC (.int 1))) (LE S k (.ow false d3) (.val (.int (1+g))) (.val (.str (fq t))) (.val (.str z)) y6)=.ok (decide (g'=1),LE S k (.ow false d4) (.val (.int (1+g))) (.val (.str (fq t))) (.val (.str z)) y6):=ztx (zaX cm rfl pI);have s5:∃(d6:D) (x:dm),Rd x/\ao (tB (e2 aK (aQ bD [.m 2,.v (eC (.int 3))]) (eC (.int 1)))) (ax (gN 5) (aQ mX [.v (eV 5),.m 2])) aw (LE S k (.ow false d3) (.val (.int (1+g))) (.val (.str (fq t))) (.val (.str z)) y6)=.ok (.nx,LE S k (.ow false d6) (.val (.int (1+g))) (.val (.str (fq t))) (.val (.str x)) y6):=by
  by_cases q:g'=1
  ·rw[decide_eq_true q]at tt
   refine⟨d5,z',R5,(zie tt).trans ?_⟩;exact kg (y:=(.str z',LE S k (.ow false d5) (.val (.int (1+g))) (.val (.str (fq t))) (.val (.str z)) y6)) (ze1 (p:=false) (d:=d4) rfl rfl e5) rfl (dY _)
  ·rw[decide_eq_false q]at tt
   refine⟨d4,z,Z1,?_⟩;unfold ao;rw[tt,ah,if_neg AJ]
   rfl
 obtain⟨d6,x,Rx,s5⟩:=s5;have et:sU (LE S k y2 y3 y4 y5 y6)=.ok (.nx,LE S k (.ow false d6) (.val (.int (1+g))) (.val (.str (fq t))) (.val (.str x)) (.val (.str (fq t)))):=by
  unfold sU;exact(aS s1).trans ((aS s2).trans ((aS s3).trans ((aS s4).trans ((aS s5).trans (zuh R0 Rx h6)))))
 exact⟨_,_,_,_,_,zpx _,dY _,dY _,dY _,dY _,et⟩
theorem zoK(ns:List Int)(hl:ns.length<=63):tm [.list (ns.map zH)]=.ok (.bool true):=by
 have L:=zbz (f:=fun i:Int=>zH i) (g:=gN 1) (b:=sU)
  (fun done ρ=>∃ y1 y2 y3 y4 y5 y6,Np y1/\Np y2/\Np y3/\Np y4/\Np y5/\Np y6/\ρ=[.val (.list (ns.map zH)),y1,y2,y3,y4,y5,y6])
  ((A4 (16:Int).toNat).map fun(i:Nat)=>(0:Int)+(i:Int)) [] [.val (.list (ns.map zH)),.no,.no,.no,.no,.no,.no] ⟨.no,.no,.no,.no,.no,.no,di,di,di,di,di,di,rfl⟩ (by
   intro pre i post ρ e hP;obtain⟨y1,y2,y3,y4,y5,y6,h1,h2,h3,h4,h5,h6,rfl⟩:=hP;rw[Aw]at e;have mi:i∈(A4 (16:Int).toNat).map fun(i:Nat)=>(0:Int)+(i:Int):=by rw[e];simp
   obtain⟨j,hj,rfl⟩:=zZ.mp mi;have:=DR.mp hj;have gx:gN 1 (.int ((0:Int)+(j:Int))) [.val (.list (ns.map zH)),y1,y2,y3,y4,y5,y6]=.ok [.val (.list (ns.map zH)),.val (.int ((0:Int)+(j:Int))),y2,y3,y4,y5,y6]:=gB rfl h1;obtain⟨z2,z3,z4,z5,z6,m2,m3,m4,m5,m6,et⟩:=zua ns ((0:Int)+(j:Int)) (by omega) (by omega) h2 h3 h4 h5 h6;exact⟨_,.nx,by rw[gx,ah];exact et,.inl rfl,_,z2,z3,z4,z5,z6,dY _,m2,m3,m4,m5,m6,rfl⟩)
 obtain⟨ρ',e,y1,y2,y3,y4,y5,y6,_,_,_,_,_,_,rfl⟩:=L;have hr:k8 [.int 16]=.ok (dP 0 16):=zdn (by decide) (by decide);have s1:yQ [.val (.list (ns.map zH)),.no,.no,.no,.no,.no,.no]=.ok (.nx,[.val (.list (ns.map zH)),y1,y2,y3,y4,y5,y6]):=by
  unfold yQ dZ;have hi:fH (aa (eC (.int 16)) af) [.val (.list (ns.map zH)),.no,.no,.no,.no,.no,.no]=.ok (dP 0 16,[.val (.list (ns.map zH)),.no,.no,.no,.no,.no,.no]):=by
   simp only[fH,aa,af,eC,ah,hr]
  rw[hi,ah,zdo,Int.sub_zero];exact e
 refine dH (ρ:=[.val (.list (ns.map zH)),y1,y2,y3,y4,y5,y6]) rfl ?_;show wC [.val (.list (ns.map zH)),.no,.no,.no,.no,.no,.no]=_;unfold wC;rw[aS s1]
 rfl
end
end K80
open PySem PySem.W PyProof.Rows
namespace PySem.W.Fast
theorem tw16227866028743045120:True:=trivial
theorem tw17456119017177220960:True:=trivial
theorem tw3744546127740920865:True:=trivial
theorem tw12444876138881457569:True:=trivial
theorem tw484477827655925601:True:=trivial
theorem tw15850852040069456801:True:=trivial
theorem tw4558112253006194754:True:=trivial
theorem tw1370788191733596386:True:=trivial
theorem tw12909446209105635650:True:=trivial
theorem tw259151021740909218:True:=trivial
theorem tw12916457208754823906:True:=trivial
theorem tw2212113491562804066:True:=trivial
theorem tw18429936270316756866:True:=trivial
theorem tw2533515300973691139:True:=trivial
theorem tw10332548231810055555:True:=trivial
theorem tw18133912744092018275:True:=trivial
theorem tw5375312068784469699:True:=trivial
theorem tw6431251345532196771:True:=trivial
theorem tw7899343305644197028:True:=trivial
theorem tw10884442241945772964:True:=trivial
theorem tw12703290885083787269:True:=trivial
theorem tw10773220845370791013:True:=trivial
theorem tw3259109272000243045:True:=trivial
theorem tw6587305377333502661:True:=trivial
theorem tw6543619393398203462:True:=trivial
theorem tw17141997000448433382:True:=trivial
theorem tw5142888684490862118:True:=trivial
theorem tw12249961645401343878:True:=trivial
theorem tw2256835711699806791:True:=trivial
theorem tw10136716327227350727:True:=trivial
theorem tw2638185624925422503:True:=trivial
theorem tw8726302134240640040:True:=trivial
theorem tw6149180314734653512:True:=trivial
theorem tw2445684836327575656:True:=trivial
theorem tw1352707237123545448:True:=trivial
theorem tw18302021327884129928:True:=trivial
theorem tw10057838954198911656:True:=trivial
theorem tw4950869955129339592:True:=trivial
theorem tw5186263219709274856:True:=trivial
theorem tw10577569148045452104:True:=trivial
theorem tw1275679570550824105:True:=trivial
theorem tw6002141106498981321:True:=trivial
theorem tw1915209189256716137:True:=trivial
theorem tw5531683586240060361:True:=trivial
theorem tw12659016342116447594:True:=trivial
theorem tw6949561152428531178:True:=trivial
theorem tw4128497770417672778:True:=trivial
theorem tw11177221991580817034:True:=trivial
theorem tw196682784790093546:True:=trivial
theorem tw11388089021731413738:True:=trivial
theorem tw9848066739390377834:True:=trivial
theorem tw8424649505591684074:True:=trivial
theorem tw13831061015178184811:True:=trivial
theorem tw12787309893165630731:True:=trivial
theorem tw3480777260946197899:True:=trivial
theorem tw8852911583694654027:True:=trivial
theorem tw1404112338895350347:True:=trivial
theorem tw3268671756984765003:True:=trivial
theorem tw7704505141405016779:True:=trivial
theorem tw18348943467765464492:True:=trivial
theorem tw4247734588151962348:True:=trivial
theorem tw12381399923865292620:True:=trivial
theorem tw12133112206100172813:True:=trivial
theorem tw12159601003721629901:True:=trivial
theorem tw14132901558954645101:True:=trivial
theorem tw442512216868990222:True:=trivial
theorem tw17182282181357177294:True:=trivial
theorem tw715280986291932750:True:=trivial
theorem tw895078312181506734:True:=trivial
theorem tw16613268275753660110:True:=trivial
theorem tw7815638380222169199:True:=trivial
theorem tw16265172815407633647:True:=trivial
theorem tw14464235941392344527:True:=trivial
theorem tw12488465736914480591:True:=trivial
theorem tw9294362752311050703:True:=trivial
theorem tw9634584381174244528:True:=trivial
theorem tw14885368272015924528:True:=trivial
theorem tw12062965235610487120:True:=trivial
theorem tw6288850752392480208:True:=trivial
theorem tw8793474623277878992:True:=trivial
theorem tw1914885776381468560:True:=trivial
theorem tw1517845405968972977:True:=trivial
theorem tw3929647419096947441:True:=trivial
theorem tw12765262007777985425:True:=trivial
theorem tw5804154298403666002:True:=trivial
theorem tw335697513613252786:True:=trivial
theorem tw12951110948608464466:True:=trivial
theorem tw9572290672800150450:True:=trivial
theorem tw5040332682525094995:True:=trivial
theorem tw1241923382842900691:True:=trivial
theorem tw5293534503621428467:True:=trivial
theorem tw10508587771284582803:True:=trivial
theorem tw9333386044704268787:True:=trivial
theorem tw11962645824160363027:True:=trivial
theorem tw14249678289279155252:True:=trivial
theorem tw3014679310096596:True:=trivial
theorem tw13075949924855108052:True:=trivial
theorem tw14547388560202150548:True:=trivial
theorem tw15758414305762815700:True:=trivial
theorem tw10992590318067456822:True:=trivial
theorem tw6104140230839685335:True:=trivial
theorem tw7432189730340337303:True:=trivial
theorem tw14350259921408476919:True:=trivial
theorem tw6205938573396920183:True:=trivial
theorem tw5525629918727092248:True:=trivial
theorem tw17227157496769208408:True:=trivial
theorem tw15004394783379705720:True:=trivial
theorem tw7568343182586726392:True:=trivial
theorem tw18276190305066123449:True:=trivial
theorem tw2573903580533082681:True:=trivial
theorem tw10602675475389558713:True:=trivial
theorem tw11622561745984232474:True:=trivial
theorem tw17215184587267219514:True:=trivial
theorem tw5154187613137473850:True:=trivial
theorem tw1730843688475874810:True:=trivial
theorem tw770383070865649530:True:=trivial
theorem tw6345080776398471227:True:=trivial
theorem tw8638787615907597595:True:=trivial
theorem tw4197173851022445115:True:=trivial
theorem tw4258727684602780347:True:=trivial
theorem tw15994033307754406012:True:=trivial
theorem tw3687699548059176156:True:=trivial
theorem tw7040294233930638588:True:=trivial
theorem tw5379642180962854780:True:=trivial
theorem tw17546008976467563388:True:=trivial
theorem tw204799022046923740:True:=trivial
theorem tw17240114372385886172:True:=trivial
theorem tw586221386596072444:True:=trivial
theorem tw9512359490731556093:True:=trivial
theorem tw4391194054429851965:True:=trivial
theorem tw14746186650328236413:True:=trivial
theorem tw17577591771978709469:True:=trivial
theorem tw12238459278303547997:True:=trivial
theorem tw10320415467328723773:True:=trivial
theorem tw4511553433994592157:True:=trivial
theorem tw1072126902472480733:True:=trivial
theorem tw17944077378340423902:True:=trivial
theorem tw9544667853536290046:True:=trivial
theorem tw1120917723229766014:True:=trivial
theorem tw8757263791161289182:True:=trivial
theorem tw1370321600345067166:True:=trivial
theorem tw5221046033471294142:True:=trivial
theorem tw10923352769056085886:True:=trivial
theorem tw13205482034367701886:True:=trivial
theorem tw148591273865884574:True:=trivial
theorem tw3588114034355056063:True:=trivial
theorem tw6048291756961608351:True:=trivial
theorem tw2010815039598227391:True:=trivial
theorem tw18214278432862794687:True:=trivial
theorem tw1084475471615833055:True:=trivial
theorem tw18249871909189585919:True:=trivial
end PySem.W.Fast
set_option maxRecDepth 100000 in
set_option maxHeartbeats 0 in
theorem PySem.Challenge.cw_swaprest_k80_sum_texts_that_are_none_holds : PySem.Challenge.rw_swaprest_k80_sum_texts_that_are_none.Holds := by
 w_on; o_law; k_head; (case hw => w_witness2)
 k_fill
 refine K80.walk (l:=PySem.Challenge.rw_swaprest_k80_sum_texts_that_are_none) K80.zoK rfl rfl (by decide +kernel) rfl (fun w h Y => PySem.W.kIn_of Y) ?F
 case F =>
  intro w mg fa h KX G hmg
  refine' K80.all_mk KX G hmg ?oo0 ?oo1 ?oo2 ?oo3 ?oo4 ?oo5 ?oo6 ?oo7 ?oo8 ?oo9 ?oo10 ?oo11 ?oo12 ?oo13 ?oo14 ?oo15 ?oo16 ?oo17 ?oo18 ?oo19 ?oo20 ?oo21 ?oo22 ?oo23 ?oo24 ?oo25 ?oo26 ?oo27 ?oo28 ?oo29 ?oo30 ?oo31 ?oo32 ?oo33 ?oo34 ?oo35 ?oo36 ?oo37 ?oo38 ?oo39 ?oo40 ?oo41 ?oo42 ?oo43 ?oo44 ?oo45 ?oo46 ?oo47 ?oo48 ?oo49 ?oo50 ?oo51 ?oo52 ?oo53 ?oo54 ?oo55 ?oo56 ?oo57 ?oo58 ?oo59 ?oo60 ?oo61 ?oo62 ?oo63 ?oo64 ?oo65 ?oo66 ?oo67 ?oo68 ?oo69 ?oo70 ?oo71 ?oo72 ?oo73 ?oo74 ?oo75 ?oo76 ?oo77 ?oo78 ?oo79 ?oo80 ?oo81 ?oo82 ?oo83 ?oo84 ?oo85 ?oo86 ?oo87 ?oo88 ?oo89 ?oo90 ?oo91 ?oo92 ?oo93 ?oo94 ?oo95 ?oo96 ?oo97 ?oo98 ?oo99 ?oo100 ?oo101 ?oo102 ?oo103 ?oo104 ?oo105 ?oo106 ?oo107 ?oo108 ?oo109 ?oo110 ?oo111 ?oo112 ?oo113 ?oo114 ?oo115 ?oo116 ?oo117 ?oo118 ?oo119 ?oo120 ?oo121 ?oo122 ?oo123 ?oo124 ?oo125 ?oo126 ?oo127 ?oo128 ?oo129 ?oo130 ?oo131 ?oo132 ?oo133 ?oo134 ?oo135
  (case oo0 | oo1 | oo2 | oo3 | oo4 | oo5 | oo6 | oo7 | oo8 | oo9 | oo10 | oo11 | oo12 | oo13 | oo14 | oo15 | oo16 | oo17 | oo18 | oo19 | oo20 | oo21 | oo22 | oo23 | oo24 | oo25 | oo26 | oo27 | oo28 | oo29 | oo30 | oo31 => refine' FL.zmH KX G ?Zq ?Zl ?Zc ?Zk; (case Zq => k_is); (case Zl => k_is); (case Zc => k_is); (case Zk => k_is))
  (case oo32 | oo33 | oo34 | oo35 | oo36 | oo37 | oo38 | oo39 | oo40 | oo41 | oo42 | oo43 | oo44 | oo45 | oo46 | oo47 | oo48 | oo49 | oo50 | oo51 | oo52 | oo53 | oo54 | oo55 | oo56 | oo57 | oo58 | oo59 | oo60 | oo61 | oo62 | oo63 | oo64 | oo65 | oo66 | oo67 | oo68 | oo69 | oo70 | oo71 | oo72 | oo73 | oo74 | oo75 | oo76 | oo77 | oo78 | oo79 | oo80 | oo81 | oo82 | oo83 | oo84 | oo85 | oo86 | oo87 | oo88 | oo89 | oo90 | oo91 | oo92 | oo93 | oo94 | oo95 | oo98 | oo99 | oo100 | oo101 | oo102 | oo132 | oo133 | oo135 => k_is)
  (case oo134 => first | exact .inl (by k_exc) | exact .inr (by k_exc))
  (case oo97 => first | exact .inl rfl | exact .inr rfl)
  (case oo103 | oo104 | oo105 | oo106 | oo107 | oo108 | oo109 | oo110 | oo111 | oo112 | oo113 | oo114 | oo115 | oo116 | oo117 | oo118 | oo119 | oo120 | oo121 | oo122 | oo123 | oo124 | oo125 | oo126 | oo127 | oo128 | oo129 | oo130 | oo131 => kit_is)
  (case oo96 => rfl)
