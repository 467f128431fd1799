import PyProof.Rows.All
import Wide.All
import OpenK.AllK
import Wide.FinOn
import Lean
import PyProof.EqAt
import PyProof.EqKinds
import PyProof.TupleCall
import PyProof.EqLayable
import PyProof.StationsW
import PyProof.NsDelKeeps
import PyProof.ExcArgsOwn
import PyProof.ExcAttrAll.ValueError
import PyProof.ZipIter
import PyProof.EnumFor
import PyProof.EnumStmt
import PyProof.EnumMake
import PyProof.ConsumeWalk
import PyProof.Cells
import PyProof.CompUse
import PyProof.DictIter
import PyProof.DictWalks
import PyProof.CollectWalk
import PyProof.WalksS
import PyProof.P3Statements
import PyProof.DictRoadsH
import KE.KSortTup
import PyProof.P3In
import KE.KRevSl
import PyProof.ReprReads
import KE.KMinKey
import PyProof.ReprRoads
import PyProof.Conv_int_bool
import PyProof.AutoListH
import PyProof.StrCalls
import PyProof.StrCalls2
import PyProof.MeetsStr
import PyProof.StrBlock
import PyProof.FString
import PyProof.StrBlockI
import KE.KIntText
import PyProof.StrWalks
import PyProof.InstStoreFacts
import PyProof.TupleIter
import PyProof.AttrMissHeap
import PySem.Challenge.RW_swaprest_k10_what_is_left
set_option Elab.async false
set_option linter.all false
set_option maxRecDepth 100000
set_option maxHeartbeats 4000000
open PySem renaming Addr→dm,Value→gV,Str→ib,Shared→ir,wpAny_bind→pd,Expr→Av,starEach→Aw,wpAny→Ax,model→Ay,Heap→Az,Obj→AA,eval→AB,Pos→AD,wpAny_pure→AH,World→AJ,Program→AK,Stmt→AQ,Around→AR,sizeLine→AU,mainGlobals→AV,Spec→AX,Env→AY,compareOp→A3,PyData→A4,backTo→A7,FuncData→A9,wpAny_mono→Bb,bootBuiltins→Bo,swapsWith→Bx,Scope→BF,IsPair→BI,Tok→BJ,sizeLine_eq→BR,cLine→BV,wpAny_field→B7,rawInt→Ce,binaryOp→Cg,Builtin→Ci,IsZip→Ck,wpAny_holding→Cu,NameKind→Cv,assign→Cy,wpAny_newObj_type→Cz,foldedSetIterable→CA,CmpOp→CB,assignEach→CN,behindInMarks→CP,bindArgs→CU,DictEntry→C4,holding→C8,pyNext→C9,codeAny→Dc,cellsFrom→Dd,wpAny_call_entry→De,Paired→Dk,attributeBase→Dq,mem_of_lookup→Ds,IsPart→Dx,sysModules→DC,Model→DH,getItem→DL,atKey→DS,wpAny_standAt→D5,wpAny_callSpecial?_slot→D8,wpAny_seqItems→Eh,wpAny_truthy_bool→Eo,standAt→Ep,wpAny_rule→Er,PassesOwn→Es,wpAny_passesOwn→Et,sliceBounds→Ey,call_meets→Ez,callerA→EA,wpAny_setField→EC,relabel→EG,ExcBaseFacts→EW,wpAny_execs_nil→E4,swapsWithSole→E6,swappedStores→E7,getAttr→Fb,getMethod→Fc,BindsTo→Fe,codeAny_mono→Ff,backToKw→Fg,keywordEach→Fh,wpAny_loadPart'→Fi,wpAny_typeOf→Fm,notedBy→Ft,excClassObj→FA,wpAny_setField_rec→FE,tupleKind→FG,bindName→FI,wpAny_loadPart→FO,wpAny_call→FQ,callWith→FR,typeIs_int→FU,noteFrame→FY,wpAny_pyIter_zip→F0,compEnvC→F1,wpAny_loadPart_at→Gg,wpAny_eqBool_int→Gm,builtinsNs→Gp,letOwnedTupleGo→Gq,wpAny_pyIter_list→Gr,wpAny_Call_Name_kw→Gv,concat_meets→Gy,isInstance→GL,wpAny_attempt→G1,wpAny_typeNameOfWhole_keyiter→G2,wpAny_typeNameOf_keyiter→G3,firstArgMember→G5,wpAny_onRaise→Ha,Within→Hf,wpAny_execs_cons→Hi,assignInOrder→Hj,recursionLimit→Hx,noFill_tuple_add→HB,seq_tuple_add→HC,call→HK,codeAny_call_builtin→HP,tupleKind_room_in1→HU,wpAny_dictEntries→Ie,wpAny_dictEpoch→Ig,wpAny_isInstance→Ih,wpAny_newList→Im,wpAny_updateSeq_pair→Ir,plainObj_wpAny_Assign_Attribute→IU,wpAny_binaryOp_repeat_ref→Jd,wpAny_letOwnedTupleGo_zip→Ji,wpAny_comprehension_free→Jk
open PySem.W renaming Frag→kb,nsIn→AZ,kitOne→Bh,mg_of→Bq,findIn→Bz,fnOf→BX,mg_none_of→B8,clsIn→B9,keepIn→CQ,subIn→C1,InstAt→Dp,codeIn→Du,isFn→DI,emptyDict→DJ,Looks→DR,instObj→D2,looks_findIn→Eu,kia_one→EB,kas_rev→EV,hasDictIn→E9,typeIn→Fd,tailIn→FC,nsOkIn→FD,lookIn→FK,plainGet→FN,excIn→Gh,callWith_K→Gw,mroIn→GO,notCls→GQ,methodObj→Hg,handedIn→Hn,plainGet_of→Ho,plainOver→Hr,takerIn→Ht,any_some→Hu,looks_clsIn→Hv,makesIn→Hw,looks_subIn→HN,OpenLaw→Ij,findObj_own→IL,set_plain→IM,methodCall_KW→IV,cellsFrom_some→IW,handed_on→Jh
open Int renaming gcd→AG,ediv_mul_cancel→Cr,mul_assoc→DA,natAbs_natCast→Ee,gcd_dvd_right→EH,mul_comm→EI,natAbs_mul→EJ,ne_of_gt→EK,dvd_trans→EL,gcd_dvd_left→Fv,mul_pos→Fw,ediv_neg→F4,natAbs_ediv_le_natAbs→F6,toNat_natCast→G4,fmod_nonneg_of_pos→Hc,gcd_pos_of_ne_zero_right→HV,lt_trichotomy→HW,natAbs_dvd_natAbs→HX,natCast_mul→Ic,fmod_lt_of_pos→Iv,mul_neg_of_neg_of_pos→Jn,eq_of_mul_eq_mul_right→Jo,dvd_mul_of_dvd_right→Jp
open List renaming replicate→AI,length_cons→A0,map_cons→A2,lookup_cons→A5,mem_cons→A6,length_map→Bc,getElem?_eq_getElem→Be,getElem?_eq_some_iff→Bf,length_nil→Bg,getElem?_set_self→Bj,size_toArray→Bk,getElem?_set_ne→Bl,mem_cons_of_mem→Bp,mem_cons_self→Bu,nil_append→BA,zipWith→BH,zip_cons_cons→BL,set_cons_zero→BM,set_cons_succ→BO,getElem?_map→BW,cons_append→B1,map_map→B3,range→B4,getElem?_append_left→B5,length_append→B6,not_mem_nil→Cm,mem_append_right→Cp,mem_map→Cq,getElem?_replicate→CC,map_nil→CF,getElem?_append_right→CH,length_set→CI,append_nil→CV,nodup_cons→CW,mem_of_getElem?→CY,all_eq_true→C0,drop_zero→C5,toArray→Dh,getD_eq_getElem?_getD→Di,length_replicate→Dt,zip_nil_left→Dv,zip_nil_right→Dw,replicate_succ→Dy,mem_append→DF,lookup→DK,length_singleton→DM,map_append→DU,head?_cons→DV,tail_cons→DW,lookup_nil→DX,drop_succ_cons→DY,filterMap_cons→D4,of_mem_zip→D7,mem_singleton→Ec,find?_cons→Ed,length_range→Ef,mem_append_left→El,length_take→Ew,flatten_cons→Fp,foldl_cons→Fq,mem_filter→FH,all_cons→FT,foldl→FW,pairwise_cons→Gd,length_zip→Gf,mem_map_of_mem→Gj,length→Gx,length_drop→GB,forIn_cons→GH,forIn_nil→GN,getD→GR,drop_eq_getElem_cons→GZ,drop_length→G0,mem_range→Hh,mem_filterMap→Hm,take_of_length_le→HL,any_cons→HS,pairwise_iff_getElem→Ii,zipIdx_cons→Iq,pairwise_map→Iy,nodup_append→IA,mem_replicate→IC,map_take→IG,contains_eq_mem→Jl,getElem?_eq_none→Ju,countP_cons_of_neg→Jx,toList_toArray→JG,length_zipWith→JH,filter_cons_of_pos→JO,filter_cons_of_neg→JP,map_congr_left→JQ
open Nat renaming le_refl→AO,ne_of_lt→Ba,reduceAdd→Bw,le_trans→By,lt_of_lt_of_le→BD,zero_le→B2,sub_self→CM,ne_of_gt→CO,reduceSub→DB,le_of_lt→D3,lt_of_le_of_lt→Ea,lt_irrefl→Ek,le_add_right→EE,lt→Fu,gcd→Fx,le_of_eq→FP,mul_comm→FX,le_of_succ_le→F2,zero_add→F8,min_self→Ge,lt_succ_self→Gs,not_lt→GU,lt_succ_of_lt→GV,lt_of_not_le→GW,add_comm→HJ,gcd_comm→HY,pow_le_pow_right→HZ,sub_zero→Iu,pos_of_ne_zero→Iw,add_sub_cancel_left→Jw
open PySem.Heap renaming lt_size→AW,get?_push_of_some→A1,get?_push_size→Bv,size_push→CG,get?_none_of_le→C7,SameBut→Em,get?_update_other→Ex,get?_update_self→Fo,MadeExcOf→Io,get?_update_ne→JK
open PySem.Value renaming ref→A8,none→Br,bool→C6,int→D1,str→EX,type→EY,builtin→FZ,notImplemented→IZ
open PySem.PyData renaming int→Bi,bool→Cb,list→C3,eqv→DN,none→Fy,canLay0→F7,eqvAll→Gi,canLayAll0→GX,tuple→Hd
open Bool renaming false_eq_true→Bm,and_eq_true→Bs,false_ne_true→BU,not_true→Cj,not_false→Dj,or_eq_true→F3,false_and→Hl,not_eq_true'→HR
open Option.some renaming inj→BC,injEq→Ct
open PyProof.Rows renaming envOfC→BG,seqObj→Cd,IntsAre→CD,IsTup→Dl,AllBare→Dm,callWith_type1→E8,slot_tuple_getitem→Fj,listUpdate_at→Gb,get?_update_seq→G8,assignInOrder_cons→Hk,subscriptTail→HH
open Ne renaming symm→BK
open False renaming elim→BQ
open PySem.Obj renaming mapSeq→BZ,data_mapFields→ED,isFreed_of_fields→GJ,mapFields→GK,cls_mapFields→HM
open PySem.NameKind renaming cell→Cw,free→DQ
open Option renaming map_some→CJ,bind_eq_some_iff→CK,map_eq_some_iff→C2,getD_none→Df,getD_some→DZ,isSome_iff_exists→IX,isSome_some→Jj,isSome_map→Jm
open Or renaming inr→CZ,inl→Dg,resolve_right→Il
open PySem.SeqAt renaming shaped→Dz,canLay_of_shaped→GY,EqAt→HA
open PySem.Heap.SameBut renaming update→DT
open Sum renaming inl→D0,inr→Ej
open True renaming intro→D6
open PySem.Str renaming ofString→D9
open PySem.Builtin.SmallTypes renaming nextOf→Eg,ownedTupleIsFree→JN
open Prod.mk renaming inj→Ei
open Iff renaming rfl→ER
open Array renaming length_toList→EZ,getElem?_eq_some_iff→GI,getD→G6,perm_iff_toList_perm→G7,getElem?_eq_getElem→HQ,find?_toList→IK
open ForInStep renaming yield→Fs
open PyProof.Rows.IsTup renaming new→FJ
open Rat renaming normalize→F5,add_zero→He,sub_eq_add_neg→IB,mul_comm→IE
open PySem.F renaming slot_dict_keyiterator_next→F9,attrBase_ValueError→GP,slot_tuple_iterator_next→G9,slot_zip_next→Hb,slot_tuple_add→HD,entry_tuple_add→HE,args_tuple_add_2→HF,slot_tuple_mul→Ib,excBase_ValueError→Ip,slot_tuple_rmul→Jq,slot_int_rmul→Jt,plainAttrs_list→Jv,entry_dict_keyiterator_next→Jz,args_dict_keyiterator_next_1→JA,entry_tuple_iterator_next→JL,args_tuple_iterator_next_1→JM
open PySem.W.KasT renaming kasWp_bind→Ga
open PySem.Paired renaming length→Gn
open PySem.Around renaming under→Gu,under_plainId→JD
open Prod renaming ext→Gz
open PySem.Builtin.Slice renaming slicePlaces→GA,sliceAdjust→HG,sliceApplied→I0
open PySem.Builtin.Tuple renaming tupleExact→GC,tupleItemsOf→Ja,tupleTooMany→Jr,tupleIsExact→Js
open PySem.Builtin.Int renaming intBits→GD,intTooBig→Jf
open PySem.Code renaming isFrame→Hy
open PySem.Builtin.List renaming listTooLong→HI,listSameRef→JE,listExtendWith→JF
open PySem.PassesOwn renaming never→Ik
open PySem.SeqAt.EqAt renaming int_str→IH,str_int→II,int_int→IY
open PySem.Calls renaming Name_function_global→IJ,callWith_builtin→Jb,evalArgs_plain→Jc,call_function_entry→JI
open PySem.W.Looks renaming here→IP
open PySem.Heap.Ns1 renaming of_empty→IQ
open List.Pairwise renaming nil→Je
open PySem.EntryCells renaming newEntry→Jg
open PySem.Builtin.Dict renaming showsAll→Jy
open PySem.Builtin.Dict_items renaming ownsTuple→JB
open Array.Perm renaming refl→JC
set_option bootstrap.genMatcherCode false
noncomputable section
namespace L2
open PySem PySem.Spec PyProof.Rows
section
abbrev Key:=Sum Int ib
noncomputable def sT:Key->gV->Bool
 | .inl k,v=>Value.isInt k v
 | .inr x,v=>Value.isStrOf x v
noncomputable def zov(w:AJ):Key->Int
 | .inl k=>hashInt k
 | .inr x=>hashStr w x
theorem mM:∀{k:Key} {v:gV},sT k v=true->(∃ i t,k=D0 i/\v=D1 i t)\/(∃ x t,k=Ej x/\v=EX x t)
 | .inl i,v,h=>by
  obtain⟨t,e⟩:=Value.isInt_shape (k:=i) (v:=v) h
  exact .inl ⟨i,t,rfl,e⟩
 | .inr x,v,h=>by
  obtain⟨t,e⟩:=Value.isStrOf_shape (x:=x) (v:=v) h
  exact .inr ⟨x,t,rfl,e⟩
theorem zow(i:Int)(t:BJ):sT (.inl i) (.int i t)=true:=by simp [sT,Value.isInt]
theorem zox(x:ib)(t:BJ):sT (.inr x) (.str x t)=true:=by simp [sT,Value.isStrOf]
theorem zoy(a b:Int):decide ((D0 a:Key)=D0 b)=(a==b):=by
 by_cases e:a=b
 ·subst e;simp
 ·have h:¬ (D0 a:Key)=D0 b:=fun q=>e (Sum.inl.inj q)
  rw [decide_eq_false h]
  exact(beq_eq_false_iff_ne.mpr e).symm
theorem zoB(a b:ib):decide ((Ej a:Key)=Ej b)=decide (a=b):=by
 by_cases e:a=b
 ·subst e;simp
 ·have h:¬ (Ej a:Key)=Ej b:=fun q=>e (Sum.inr.inj q)
  rw [decide_eq_false h,decide_eq_false e]
theorem zoz(a:Int)(b:ib):decide ((D0 a:Key)=Ej b)=false:=decide_eq_false (fun q=>nomatch q)
theorem zoA(a:ib)(b:Int):decide ((Ej a:Key)=D0 b)=false:=decide_eq_false (fun q=>nomatch q)
noncomputable def kx(prog:AK)(w:AJ):PySem.KeyKind prog w Key where
 is:=sT
 hash:=zov w
 inj:=fun v a b ha hb=>by
  rcases mM ha with⟨i,t,rfl,rfl⟩|⟨x,t,rfl,rfl⟩
  ·rcases mM hb with⟨j,u,rfl,e⟩|⟨y,u,rfl,e⟩
   ·injection e with e1 _;rw [e1]
   ·exact nomatch e
  ·rcases mM hb with⟨j,u,rfl,e⟩|⟨y,u,rfl,e⟩
   ·exact nomatch e
   ·injection e with e1 _;rw [e1]
 byValue:=fun k v h=>by
  rcases mM h with⟨i,t,rfl,rfl⟩|⟨x,t,rfl,rfl⟩ <;> rfl
 pyHash:=fun hv h=>by
  rcases mM hv with⟨i,t,rfl,rfl⟩|⟨x,t,rfl,rfl⟩
  ·exact wpAny_pyHash_int h
  ·exact wpAny_pyHash_str h
 eqBool:=fun hu hv h=>by
  rcases mM hu with⟨i,t,rfl,rfl⟩|⟨x,t,rfl,rfl⟩
  ·rcases mM hv with⟨j,u,rfl,rfl⟩|⟨y,u,rfl,rfl⟩
   ·rw [zoy] at h;exact Gm h
   ·rw [zoz] at h;exact IH i t y u _ _ _ _ h
  ·rcases mM hv with⟨j,u,rfl,rfl⟩|⟨y,u,rfl,rfl⟩
   ·rw [zoA] at h;exact II x t j u _ _ _ _ h
   ·rw [zoB] at h;exact wpAny_eqBool_str h
 «strs»:=fun k x t v h=>by
  rcases mM h with⟨i,u,rfl,e⟩|⟨y,u,rfl,e⟩
  ·exact nomatch e
  ·injection e with e1 _
   subst e1
   cases v <;> rfl
theorem zpG(prog:AK)(w:AJ)(i:Int)(t:BJ):(kx prog w).is (.inl i) (.int i t)=true:=zow i t
theorem zpH(prog:AK)(w:AJ)(x:ib)(t:BJ):(kx prog w).is (.inr x) (.str x t)=true:=zox x t
end
variable {P:AK}{a b e x:dm}{w:AJ}{h h':Az}{H H':Hp}{o o' u:HO}{xs:List V}{us:List gV}{ob:AA}
section
inductive V where
 | non|bl(b:Bool)|int(i:Int)|str(x:ib)|byt(b:Array UInt8)|flt(b:UInt64)|ref(a:dm)|ty(n:String)
 deriving DecidableEq
noncomputable def RelV:V->gV->Prop
 | .non,u=>u=Br
 | .bl b,u=>u=C6 b
 | .int i,u=>∃ t,u=D1 i t
 | .str x,u=>∃ t,u=EX x t
 | .byt b,u=>∃ t,u=Value.bytes b t
 | .flt b,u=>∃ t,u=Value.float b t
 | .ref a,u=>u=A8 a
 | .ty n,u=>u=EY n
abbrev Vals:List V->List gV->Prop:=Dk RelV
theorem Vals.length(r:Vals xs us):xs.length=us.length:=Gn r
theorem Vals.get:∀{xs:List V} {us:List gV} {i:Nat} {x:V},Vals xs us->xs[i]?=some x->∃ u,us[i]?=some u/\RelV x u
 | _,_,_,_,.nil,e=>by simp at e
 | _,_,0,_,.cons r _,e=>by simp at e;subst e;exact⟨_,rfl,r⟩
 | _,_,i+1,x,.cons _ t,e=>by
  obtain⟨u,h1,h2⟩:=Vals.get (i:=i) (x:=x) t (by simpa using e)
  exact⟨u,by simpa using h1,h2⟩
theorem Vals.set{x:V}{u:gV}(r:RelV x u):∀{xs:List V} {us:List gV} (i:Nat),Vals xs us->Vals (xs.set i x) (us.set i u)
 | _,_,_,.nil=>.nil
 | _,_,0,.cons _ t=>.cons r t
 | _,_,i+1,.cons q t=>.cons q (Vals.set r i t)
theorem Vals.append:∀{xs ys:List V} {us ws:List gV},Vals xs us->Vals ys ws->Vals (xs++ys) (us++ws)
 | _,_,_,_,.nil,s=>s
 | _,_,_,_,.cons r t,s=>.cons r (Vals.append t s)
theorem Vals.take:∀{xs:List V} {us:List gV} (n:Nat),Vals xs us->Vals (xs.take n) (us.take n)
 | _,_,0,_=>.nil
 | _,_,_+1,.nil=>.nil
 | _,_,n+1,.cons r t=>.cons r (Vals.take n t)
theorem Vals.drop:∀{xs:List V} {us:List gV} (n:Nat),Vals xs us->Vals (xs.drop n) (us.drop n)
 | _,_,0,r=>r
 | _,_,_+1,.nil=>.nil
 | _,_,n+1,.cons _ t=>Vals.drop n t
noncomputable def gK:Option V->Option gV->Prop
 | some v,some u=>RelV v u
 | none,none=>True
 | _,_=>False
noncomputable def KV{κ:Type}:List (κ×V)->List (κ×gV)->Prop:=Dk fun(p:κ×V) (q:κ×gV)=>p.1=q.1/\RelV p.2 q.2
noncomputable def kV:Key->V
 | .inl i=>.int i
 | .inr x=>.str x
inductive HO where
 /-- a list -/
 | lst(xs:List V)
 /-- a tuple(never changes) -/
 | tup(xs:List V)
 /-- a dict whose keys are ints and texts;one whose keys are tuples of ints and texts(the empty one is both) -/
 | dK(aj:List (Key×V))|dT(aj:List (List Key×V))
 /-- a set of ints: its members,its size -/
 | set (S:Int->Bool) (n:Nat)
 /-- an instance of the class at C,its dict at dx,its attributes -/
 | ins (C dx:dm) (fs:List (ib×V))
 /-- the dict of the instance at x -/
 | own (x:dm)
 /-- the dict of an exception -/
 | xd (fs:List (ib×V))
 /-- a bound method,f of x -/
 | met (f x:dm)
 /-- a range object lo,lo+1,.. below hi -/
 | eD (lo hi:Int)
 /-- a thing that is known to the object (the script;a dict while a loop walks it): read,never written while it is so -/
 | frz (o:AA) (u:HO)
 /-- a code object's table -/
 | tbl (ps:Array gV)
 /-- any other thing,by what is true of its one object (a def of one's own: SetO a S n:=HO.ext fun h=>..) -/
 | ext (φ:Az->Prop)
abbrev Hp:=dm->Option HO
noncomputable def upd(H:Hp)(a:dm)(o:HO):Hp:=fun b=>if b=a then some o else H b
theorem bS:upd H a o a=some o:=by unfold upd;rw [if_pos rfl]
theorem aJ(h:b≠a):upd H a o b=H b:=by unfold upd;rw [if_neg h]
theorem zvd:upd (upd H a o) a u=upd H a u:=by
 funext b;unfold upd;split <;> rfl
theorem zhH(h:H a=some o)(h':H b=some u)(d:o≠u):a≠b:=by
 intro e;subst e;rw [h] at h';exact d (BC h')
theorem qO(h:H a=some o)(h':H b=none):a≠b:=by
 intro e;subst e;rw [h] at h';cases h'
def dU(H:Hp)(b:dm)(xs:List V):Prop:=H b=some (.tup xs)\/∃ o,H b=some (.frz o (.tup xs))
theorem dU.upd(q:dU H b xs)(n1:∀ ys,H b=some (.tup ys)->b≠a)(n2:∀ o ys,H b=some (.frz o (.tup ys))->b≠a):dU (upd H a u) b xs:=by
 rcases q with q|⟨o,q⟩
 ·left;rw [aJ (n1 _ q)];exact q
 ·right;exact⟨o,by rw [aJ (n2 _ _ q)];exact q⟩
section
variable (P:AK)(w:AJ)
noncomputable def cE(H:Hp)(h:Az)(a:dm):HO->Prop
 | .lst xs=>xs.length<=AU/\∃(its:List gV) (n:Nat),Vals xs its/\h.get? a=some { cls:=.type "list",data:=.seq its.toArray n }
 | .tup xs=>xs.length<=AU/\∃ its:List gV,Vals xs its/\Dl h a its.toArray
 | .dK aj=>aj.length<=AU/\(a==DC)=false/\∃ vs,KV aj vs/\h.DictOf (kx P w) a vs
 | .dT aj=>aj.length<=AU/\(a==DC)=false/\∃ xs:List (List Key×dm×gV),
   Dk (fun(p:List Key×V) (q:List Key×dm×gV)=>p.1=q.1/\dU H q.2.1 (p.1.map kV)/\RelV p.2 q.2.2) aj xs /\
   ∃ o es ep,h.get? a=some o/\o.ExactDict/\o.data=.dict es ep/\es.toList=xs.map (entryOfKey (FG (kx P w)))/\(xs.map (·.1)).Nodup
 | .set S n=>h.SetOf (intKind P w) a S n
 | .ins C dx fs=>H dx=some (.own a)/\fs.length<=1000/\dx≠a/\h.get? a=some (D2 C dx) /\
   ∃ mA,h.Ns1 dx mA/\(∀ f,gK (fs.lookup f) (mA f))/\Hf mA (fs.map (·.1))
 | .own _=>∃ o,h.get? a=some o
 | .xd fs=>∃ mA,h.Ns1 a mA/\∀ f,gK (fs.lookup f) (mA f)
 | .eD lo hi=>∃ t u v,h.get? a=some { cls:=.type "range",data:=.fields #[.int lo t,.int hi u,.int 1 v] }
 | .frz o u=>h.get? a=some o/\cE H h a u
 | .tbl ps=>h.get? a=some { cls:=.none,data:=.fields ps }
 | .met f x=>h.get? a=some (Hg (.ref f) (.ref x))
 | .ext φ=>φ h/\(∃ o,h.get? a=some o)/\∀ h1 h2:Az,φ h1->(∀ o,h1.get? a=some o->h2.get? a=some o)->φ h2
def cB(H:Hp)(h:Az):Prop:=∀ a o,H a=some o->cE P w H h a o
end
section
theorem cE.lt(x:cE P w H h a o):a<h.objs.size:=by
 cases o with
 | lst xs=>obtain⟨_,_,_,_,e⟩:=x;exact AW e
 | tup xs=>obtain⟨_,_,_,p⟩:=x;exact p.lt
 | dK aj=>obtain⟨_,_,_,_,o,_,_,e,_⟩:=x;exact AW e
 | dT aj=>obtain⟨_,_,_,_,o,_,_,e,_⟩:=x;exact AW e
 | set S n=>obtain⟨o,_,_,_,e,_⟩:=x;exact AW e
 | ins C dx fs=>obtain⟨_,_,_,e,_⟩:=x;exact AW e
 | own y=>obtain⟨_,e⟩:=x;exact AW e
 | xd fs=>obtain⟨_,⟨_,_,_,e,_⟩,_⟩:=x;exact AW e
 | eD lo hi=>obtain⟨_,_,_,e⟩:=x;exact AW e
 | frz ob u=>obtain⟨e,_⟩:=x;exact AW e
 | tbl ps=>exact AW (show h.get? a=some _ from x)
 | met f y=>exact AW (show h.get? a=some _ from x)
 | ext φ=>obtain⟨_,⟨_,e⟩,_⟩:=x;exact AW e
theorem Dk.zcU{α β:Type}{F G:α->β->Prop}:∀{l₁:List α} {l₂:List β},Dk F l₁ l₂->(∀ a b,F a b->G a b)->Dk G l₁ l₂
 | _,_,.nil,_=>.nil
 | _,_,.cons r t,f=>.cons (f _ _ r) (Dk.zcU t f)
theorem cE.iN(x:cE P w H h a o)(k:∀ b u,(b=a\/H b=some (.own a))->h.get? b=some u->h'.get? b=some u)
  (ho:∀ b,H b=some (.own a)->H' b=some (.own a))(ht:∀ b xs,dU H b xs->dU H' b xs):cE P w H' h' a o:=by
 induction o with
 | lst xs=>obtain⟨z,its,n,r,e⟩:=x;exact⟨z,its,n,r,k _ _ (.inl rfl) e⟩
 | tup xs=>obtain⟨z,its,r,ob,e,c⟩:=x;exact⟨z,its,r,ob,k _ _ (.inl rfl) e,c⟩
 | dK aj=>obtain⟨z,y,vs,r,ob,es,ep,e,c⟩:=x;exact⟨z,y,vs,r,ob,es,ep,k _ _ (.inl rfl) e,c⟩
 | dT aj =>
  obtain⟨z,y,xs,r,ob,es,ep,e,c⟩:=x
  exact⟨z,y,xs,Dk.zcU r fun p q z=>⟨z.1,ht _ _ z.2.1,z.2.2⟩,ob,es,ep,k _ _ (.inl rfl) e,c⟩
 | set S n=>obtain⟨ob,es,ep,t,e,c⟩:=x;exact⟨ob,es,ep,t,k _ _ (.inl rfl) e,c⟩
 | ins C dx fs =>
  obtain⟨d,z,ne,e,mA,⟨od,es,ep,e2,c⟩,r⟩:=x
  exact⟨ho _ d,z,ne,k _ _ (.inl rfl) e,mA,⟨od,es,ep,k _ _ (.inr d) e2,c⟩,r⟩
 | own y=>obtain⟨ob,e⟩:=x;exact⟨ob,k _ _ (.inl rfl) e⟩
 | xd fs=>obtain⟨mA,⟨od,es,ep,e,c⟩,r⟩:=x;exact⟨mA,⟨od,es,ep,k _ _ (.inl rfl) e,c⟩,r⟩
 | eD lo hi=>obtain⟨t,u,v,e⟩:=x;exact⟨t,u,v,k _ _ (.inl rfl) e⟩
 | frz ob u ih=>obtain⟨e,q⟩:=x;exact⟨k _ _ (.inl rfl) e,ih q⟩
 | tbl ps =>
  have e:h.get? a=some { cls:=.none,data:=.fields ps }:=x
  show h'.get? a=some { cls:=.none,data:=.fields ps }
  exact k a _ (.inl rfl) e
 | met f y =>
  have e:h.get? a=some (Hg (.ref f) (.ref y)):=x
  show h'.get? a=some (Hg (.ref f) (.ref y))
  exact k a _ (.inl rfl) e
 | ext φ=>obtain⟨p,⟨o,e⟩,st⟩:=x;exact⟨st _ _ p fun o q=>k _ _ (.inl rfl) q,⟨o,k _ _ (.inl rfl) e⟩,st⟩
theorem cB.lt(x:cB P w H h)(e:H a=some o):a<h.objs.size:=(x a o e).lt
theorem cB.fresh(x:cB P w H h)(e:h.objs.size<=a):H a=none:=by
 cases q:H a with
 | none=>rfl
 | some u=>exact absurd (BD (x.lt q) e) (Ek _)
theorem cB.kept(x:cB P w H h)(k:∀ b u,h.get? b=some u->h'.get? b=some u):cB P w H h':=fun a o e =>
 (x a o e).iN (fun b u _ q=>k b u q) (fun _ q=>q) fun _ _ q=>q
theorem cB.laid(x:cB P w H h)(k:∀ b u,h.get? b=some u->h'.get? b=some u)(hp:h.objs.size<=a)(new:cE P w (upd H a o) h' a o):cB P w (upd H a o) h':=fun b u e=>by
 have hn:=x.fresh hp
 by_cases hb:b=a
 ·subst hb;rw [bS] at e;cases e;exact new
 ·rw [aJ hb] at e
  exact(x b u e).iN (fun c v _ q=>k c v q) (fun c q=>by rw [aJ (qO q hn)];exact q) fun c xs q=>q.upd (fun _ r=>qO r hn) fun _ _ r=>qO r hn
end
def Rd(H:Hp)(a:dm)(u:HO):Prop:=H a=some u\/∃ o,H a=some (.frz o u)
theorem Rd.ok(r:Rd H a u)(x:cB P w H h):cE P w H h a u:=by
 rcases r with r|⟨o,r⟩
 ·exact x a u r
 ·obtain⟨_,q⟩:=x a _ r
  exact q
noncomputable def uJ:Option HO->Prop
 | some (.lst _)=>True
 | some (.dK _)=>True
 | some (.dT _)=>True
 | some (.set _ _)=>True
 | some (.ins _ _ _)=>True
 | some (.ext _)=>True
 | _=>False
section
theorem cB.write(ok:cB P w H h)(mu:uJ (H x))(he:e=x\/H e=some (.own x))(k:∀ b u,b≠e->h.get? b=some u->h'.get? b=some u)(sI:∃ u,h'.get? e=some u)
  (new:cE P w (upd H x o') h' x o'):cB P w (upd H x o') h':=fun b u q=>by
 have zhL:∀ c y,H c=some (.own y)->c≠x:=fun c y r z=>by subst z;rw [r] at mu;exact mu
 have zp3:∀ c xs,H c=some (.tup xs)->c≠x:=fun c xs r z=>by subst z;rw [r] at mu;exact mu
 by_cases hb:b=x
 ·subst hb;rw [bS] at q;cases q;exact new
 ·rw [aJ hb] at q
  by_cases jL:b=e
  ·have q':H b=some (.own x):=by
    rcases he with z|z
    ·exact absurd (jL.trans z) hb
    ·rw [jL];exact z
   rw [q] at q';cases q'
   obtain⟨v,hv⟩:=sI
   exact⟨v,by rw [jL];exact hv⟩
  ·refine(ok b u q).iN (fun c v hc r=>k c v ?_ r) (fun c r=>by rw [aJ (zhL c b r)];exact r) fun c xs r=>r.upd (fun ys z=>zp3 c ys z) fun o ys z e=>by subst e;rw [z] at mu;exact mu
   rcases hc with rfl|hc
   ·exact jL
   ·rintro rfl
    rcases he with z|z
    ·exact zhL c b hc z
    ·rw [hc] at z;cases z;exact hb rfl
end
structure Un(fs ex:List dm)(H H':Hp)(h h':Az):Prop where
 keep:∀ b o,h.get? b=some o->H b=none->b∉fs->b∉ex->h'.get? b=some o
 slot:∀ b o,h.get? b=some o->H b=none->b∈fs->b∉ex->∃ sl,h'.get? b=some { o with slots:=sl }
 free:∀ b o,h.get? b=some o->H b=none->b∉ex->H' b=none
 there:∀ b o,h.get? b=some o->b∉ex->∃ o',h'.get? b=some o'
 gr:∀ b xs,H b=some (.tup xs)->H' b=some (.tup xs)
 gC:∀ b o u,H b=some (.frz o u)->H' b=some (.frz o u)
 gZ:∀ b ps,H b=some (.tbl ps)->∃ more,H' b=some (.tbl (ps++more))
section
variable {fs fg ex yt:List dm}{H1 H2:Hp}{h1 h2:Az}
theorem Un.any(u:Un fs ex H H1 h h1)(q:h.get? b=some ob)(n:H b=none)(hx:b∉ex):∃ sl,h1.get? b=some { ob with slots:=sl }:=by
 by_cases hb:b∈fs
 ·exact u.slot b ob q n hb hx
 ·exact⟨ob.slots,u.keep b ob q n hb hx⟩
theorem Un.kept(k:∀ b u,h.get? b=some u->h'.get? b=some u):Un fs ex H H h h' :=
 ⟨fun b ob q _ _ _=>k b ob q,fun b ob q _ _ _=>⟨ob.slots,k b ob q⟩,fun _ _ _ n _=>n,fun b ob q _=>⟨ob,k b ob q⟩,fun _ _ q=>q,fun _ _ _ q=>q,fun _ ps q=>⟨#[],by rw [q];simp⟩⟩
theorem Un.refl:Un fs ex H H h h:=Un.kept fun _ _ q=>q
theorem Un.laid(k:∀ b u,h.get? b=some u->h'.get? b=some u)(hp:h.objs.size<=a)(hn:H a=none):Un fs ex H (upd H a o) h h' where
 keep:=fun b u q _ _ _=>k b u q
 slot:=fun b u q _ _ _=>⟨u.slots,k b u q⟩
 free:=fun b u q n _=>by rw [aJ (Ba (BD (AW q) hp))];exact n
 there:=fun b u q _=>⟨u,k b u q⟩
 gr:=fun b xs q=>by rw [aJ (qO q hn)];exact q
 gC:=fun b u xs q=>by rw [aJ (qO q hn)];exact q
 gZ:=fun b ps q=>⟨#[],by rw [aJ (qO q hn),q];simp⟩
theorem Un.write(mu:uJ (H x))(he:e=x\/H e=some (.own x))(k:∀ b u,b≠e->h.get? b=some u->h'.get? b=some u)(sI:∃ u,h'.get? e=some u):Un fs ex H (upd H x o) h h':=by
 have hx:∀ b,H b=none->b≠x:=fun b n z=>by subst z;rw [n] at mu;exact mu
 have hb:∀ b,H b=none->b≠e:=fun b n z=>by
  subst z
  rcases he with r|r
  ·exact hx b n r
  ·rw [n] at r;cases r
 have hm:∀ b u,H b=some u->¬ uJ (some u)->b≠x:=fun b u q nm z=>by subst z;rw [q] at mu;exact nm mu
 refine⟨fun b u q n _ _=>k b u (hb b n) q,fun b u q n _ _=>⟨u.slots,k b u (hb b n) q⟩,fun b u q n _=>by rw [aJ (hx b n)];exact n,fun b u q _=>?_,
  fun b xs q=>by rw [aJ (hm b _ q fun z=>z)];exact q,fun b u xs q=>by rw [aJ (hm b _ q fun z=>z)];exact q,fun b ps q=>⟨#[],by rw [aJ (hm b _ q fun z=>z),q];simp⟩⟩
 by_cases jL:b=e
 ·subst jL;exact sI
 ·exact⟨u,k b u jL q⟩
end
noncomputable def z0(h:Az)(H:Hp):List dm:=(B4 h.objs.size).filter fun a=>(H a).isSome
noncomputable def mG(h:Az)(H:Hp):Az:=PySem.W.hideAll h (z0 h H)
theorem zm7(h:Az)(H:Hp):(mG h H).objs.size=h.objs.size:=PySem.W.hideAll_size _ _
theorem zm6{o:AA}(e:h.get? b=some o)(n:H b=none):(mG h H).get? b=some o :=
 PySem.W.hideAll_get _ e fun hm=>by
  have q:(H b).isSome=true:=(FH.mp hm).2
  rw [n] at q;simp at q
theorem zql{o:AA}(e:(mG h H).get? b=some o):h.get? b=some o/\H b=none:=by
 have e':h.get? b=some o:=PySem.W.of_hideAll (z0 h H) e
 refine⟨e',?_⟩
 cases q:H b with
 | none=>rfl
 | some x =>
  have hm:b∈z0 h H:=FH.mpr ⟨Hh.mpr (AW e'),by simp [q]⟩
  have z:(mG h H).get? b=none:=PySem.W.hideAll_none (z0 h H) hm
  rw [z] at e;cases e
noncomputable def zkc(g h:Az)(L:dm):List (dm×AA):=(B4 h.objs.size).filterMap fun a=>if a=L\/(g.get? a).isSome=true then none else(h.get? a).map fun o=>(a,o)
noncomputable def rest(g h:Az)(L d:dm):List (dm×AA):=(zkc g h L).filter fun p=>decide (p.1≠d)
end
variable {E:gV->ir->Prop}{N:List ib}{σ σ':List (Option V)}{X:Cx}{s s':ir}{it:dm}{i j t':Nat}{e:Av}{α:Type}{M:DH}{pins zh3:List (dm×AA)}{o:AA}{g':Array GenState}{Q:Unit->ir->Prop}{u:gV}{ch:List dm}{t:TT}{v:V}{x:ib}{A:AR}{d':Drawn}
section
structure Mod(K:kb)(mg:ib->Option gV)(base:Az):Prop where
 qK:K.In base
 glob:base.Ns AV mg
 blt:∃ mb,base.Ns Gp mb/\∀ x:ib,x ≠ "__name__"->mb x=Bo x
 nolimit:base.NoLimit
 seer:base.NoSeer
def zj3(l:List AY):Prop:=∃ env r,l=env::r/\env.scope.isGenerator=false/\env.scope.isCoroutine=false/\env.builtins=Gp/\env.globals=AV
structure Cx where
 prog:AK
 w:AJ
 K:kb
 mg:ib->Option gV
 base:Az
 A:AR
 N:List ib
 s₀:ir
 H₀:Hp
 env:AY
 outer:List AY
 stack:List AY
 ex:List dm
 fn:ib->Bool
 calm:Bool
 pn:List (dm×AA)
 xe:gV->ir->Prop
noncomputable def dF(l:List AY):List dm:=l.filterMap (·.frame)
abbrev Cx.fs(X:Cx):List dm:=dF X.outer
def xD(sc:BF)(x:ib):Prop:=sc.names.lookup x=some .local\/sc.names.lookup x=some .cell\/sc.names.lookup x=some .free
def Loc(sc:BF)(x:ib):Prop:=sc.names.lookup x=some .local\/sc.names.lookup x=some .cell
def Look(env:AY)(h:Az)(m:ib->Option gV)(x:ib)(u:gV):Prop :=
 (env.kindOf x=some .local/\m x=some u)\/((env.kindOf x=some .cell\/env.kindOf x=some .free)/\∃ c,env.cells.lookup x=some c/\h.IsCell c (some u))
structure Cx.Ok(X:Cx):Prop where
 mod:Mod X.K X.mg X.base
 kind:X.env.scope.kind=.function
 glob:X.env.globals=AV
 blt:X.env.builtins=Gp
 above:X.s₀.heap.objs.size<=X.env.locals
 inj:∀ x y c,X.env.cells.lookup x=some c->X.env.cells.lookup y=some c->x=y
 has:∀ x,(X.env.kindOf x=some .cell\/X.env.kindOf x=some .free)->∃ c,X.env.cells.lookup x=some c
 nK:∀ x c,X.fn x=true->X.env.cells.lookup x=some c->X.s₀.heap.objs.size<=c
 hd:X.calm=true->X.A.handled=none
 frames:X.A.frames=some X.stack
 rA:X.stack=X.outer\/(X.stack=X.env::X.outer/\X.env.frame=some X.env.locals)
 mw:∀ b∈X.ex,b≠X.env.locals/\∀ x c,X.env.cells.lookup x=some c->c≠b
 bs:∀ b o,X.base.get? b=some o->X.s₀.heap.get? b=some o/\X.H₀ b=none
 j5:X.base.objs.size<=X.s₀.heap.objs.size
 oK:∀ b o,X.base.get? b=some o->b∉X.ex
 mz:∀ b∈X.ex,b∉X.fs
 h8:X.s₀.heap.FunFrames X.base X.outer
 kR:∀ b∈X.fs,X.H₀ b=none
 tree:X.prog.given.tree=none
 sk:zj3 X.stack
structure Inv(X:Cx)(pins:List (dm×AA))(σ:List (Option V))(H:Hp)(s:ir):Prop where
 ok:X.Ok
 os:s.os=X.s₀.os
 bare:Dm s.gens
 base:Un X.fs X.ex X.H₀ H X.s₀.heap s.heap
 loc:∃ m,s.heap.Ns X.env.locals m/\∀(i:Nat) (x:ib) (v:V),X.N[i]?=some x->σ[i]?=some (some v)->xD X.env.scope x->∃ u,RelV v u/\Look X.env s.heap m x u
 cell:∀ x c,X.env.cells.lookup x=some c->∃ v,s.heap.IsCell c v
 free:H X.env.locals=none
 fX:∀ x c,X.env.cells.lookup x=some c->H c=none
 pin:∀ p∈X.pn++pins,s.heap.get? p.1=some p.2/\H p.1=none/\p.1≠X.env.locals/\p.1∉X.fs/\∀ v,p.2.data≠.cell v
 ax:cB X.prog X.w H s.heap
 len:σ.length=X.N.length
section
theorem Cx.Ok.zpW(ok:X.Ok)(e:X.base.get? b=some o):b∉X.fs:=fun hb=>by
 have:=(ok.h8.mem hb).1
 rw [e] at this;cases this
theorem Inv.bs(I:Inv X pins σ H s):∀ b o,X.base.get? b=some o->s.heap.get? b=some o/\H b=none:=fun b o e =>
 ⟨I.base.keep b o (I.ok.bs b o e).1 (I.ok.bs b o e).2 (I.ok.zpW e) (I.ok.oK b o e),I.base.free b o (I.ok.bs b o e).1 (I.ok.bs b o e).2 (I.ok.oK b o e)⟩
theorem Inv.bk(I:Inv X pins σ H s):∀ b o,X.base.get? b=some o->s.heap.get? b=some o:=fun b o e=>(I.bs b o e).1
theorem Inv.mod(I:Inv X pins σ H s):Mod X.K X.mg X.base:=I.ok.mod
theorem Inv.dG(I:Inv X pins σ H s):X.K.In s.heap:=I.ok.mod.qK.keeps I.bk
theorem Inv.nolimit(I:Inv X pins σ H s):s.heap.NoLimit:=I.ok.mod.nolimit.keeps I.bk
theorem Inv.lt(I:Inv X pins σ H s):X.env.locals<s.heap.objs.size:=let⟨_,hn,_⟩:=I.loc;hn.lt
theorem Inv.sz(I:Inv X pins σ H s):X.s₀.heap.objs.size<=s.heap.objs.size:=By I.ok.above (D3 I.lt)
theorem Inv.zhJ(I:Inv X pins σ H s)(h:s.heap.objs.size<=a):a∉X.fs:=fun hb=>by
 obtain⟨_,o,ho,_⟩:=I.ok.h8.mem hb
 exact absurd (BD (AW ho) (By I.sz h)) (Ek _)
theorem Inv.lU(I:Inv X pins σ H s):∀ x c,X.env.cells.lookup x=some c->c≠X.env.locals:=fun x c e z=>by
 obtain⟨v,o,ho,hd⟩:=I.cell x c e
 obtain⟨m,⟨o',es,ep,fj,iG,_⟩,_⟩:=I.loc
 rw [z,fj] at ho;cases ho;rw [iG] at hd;cases hd
theorem Inv.h8(I:Inv X pins σ H s):s.heap.FunFrames X.base X.outer:=by
 have all:∀(l:List AY),(∀ b∈dF l,b∈X.fs)->X.s₀.heap.FunFrames X.base l->s.heap.FunFrames X.base l:=by
  intro l
  induction l with
  | nil=>intro _ _;trivial
  | cons env r ih =>
   intro hs hl
   obtain⟨hk,⟨L,o,hf,hn,ho,hd⟩,hr⟩:=hl
   have hL:L∈X.fs:=hs L (by unfold dF;rw [D4,hf];exact Bu)
   obtain⟨sl,e⟩:=I.base.slot L o ho (I.ok.kR L hL) hL fun z=>I.ok.mz L z hL
   exact⟨hk,⟨L,_,hf,hn,e,hd⟩,ih (fun b hb=>hs b (by unfold dF;rw [D4,hf];exact Bp _ hb)) hr⟩
 exact all X.outer (fun _ hb=>hb) I.ok.h8
theorem Inv.stack(I:Inv X pins σ H s):s.heap.FunFrames X.base X.stack:=by
 rcases I.ok.rA with e|⟨e,hf⟩
 ·rw [e];exact I.h8
 ·rw [e]
  obtain⟨m,hn,_⟩:=I.loc
  refine .cons (by rw [I.ok.kind];decide) hf hn ?_ I.h8
  exact C7 (By I.ok.j5 I.ok.above)
theorem Inv.rB(I:Inv X pins σ H s):∀ b∈dF X.stack,b∈X.env.locals::X.fs:=fun b hb=>by
 rcases I.ok.rA with e|⟨e,hf⟩
 ·rw [e] at hb;exact Bp _ hb
 ·rw [e] at hb
  unfold dF at hb
  rw [D4,hf] at hb
  exact hb
theorem Inv.wK(I:Inv X pins σ H s):∀ b∈dF X.stack,H b=none:=fun b hb=>by
 rcases A6.mp (I.rB b hb) with e|hb
 ·rw [e];exact I.free
 ·obtain⟨_,o,ho,_⟩:=I.ok.h8.mem hb
  exact I.base.free b o ho (I.ok.kR b hb) fun z=>I.ok.mz b z hb
theorem Inv.step(I:Inv X pins σ H s)
  (kU:∀ b∈ch,(b∈X.ex\/X.s₀.heap.objs.size<=b)/\b≠X.env.locals/\(∀ x c,X.env.cells.lookup x=some c->c≠b)/\∀ p∈X.pn++pins,p.1≠b)
  (keep:∀ b o,b≠X.env.locals->b∉X.fs->b∉ch->s.heap.get? b=some o->H b=none->h'.get? b=some o)
  (slot:∀ b o,b≠X.env.locals->b∈X.fs->b∉ch->s.heap.get? b=some o->H b=none->∃ sl,h'.get? b=some { o with slots:=sl })(free:∀ b o,b∉ch->s.heap.get? b=some o->H b=none->H' b=none)
  (there:∀ b o,b∉ch->s.heap.get? b=some o->∃ o',h'.get? b=some o')
  (gr:∀ b xs,H b=some (.tup xs)->H' b=some (.tup xs))(gC:∀ b o u,H b=some (.frz o u)->H' b=some (.frz o u))(gZ:∀ b ps,H b=some (.tbl ps)->∃ more,H' b=some (.tbl (ps++more)))
  (ns:∀ m,s.heap.Ns X.env.locals m->h'.Ns X.env.locals m)(ax:cB X.prog X.w H' h')(hg:Dm g') :
  Inv X pins σ H' { s with heap:=h',gens:=g',drawn:=d',toks:=t' }:=by
 have tm:∀ b o,X.s₀.heap.get? b=some o->b≠X.env.locals:=fun b o e=>Ba (BD (AW e) I.ok.above)
 have jP:∀ b o,X.s₀.heap.get? b=some o->b∉X.ex->b∉ch:=fun b o e hx hb=>by
  rcases (kU b hb).1 with z|z
  ·exact hx z
  ·exact absurd (BD (AW e) z) (Ek _)
 have cellK:∀ x c,X.env.cells.lookup x=some c->∀ v,s.heap.IsCell c v->h'.IsCell c v:=fun x c e v ⟨o,ho,hd⟩=>by
  have v5:c∉ch:=fun z=>(kU c z).2.2.1 x c e rfl
  by_cases hc:c∈X.fs
  ·obtain⟨sl,q⟩:=slot c o (I.lU x c e) hc v5 ho (I.fX x c e)
   exact⟨_,q,hd⟩
  ·exact⟨o,keep c o (I.lU x c e) hc v5 ho (I.fX x c e),hd⟩
 refine⟨I.ok,I.os,hg,⟨fun b o e n hb hx=>?_,fun b o e n hb hx=>?_,fun b o e n hx=>?_,fun b o e hx=>?_,fun b xs e=>gr b xs (I.base.gr b xs e),fun b o xs e=>gC b o xs (I.base.gC b o xs e),fun b ps e=>?_⟩,?_,fun x c e=>?_,?_,fun x c e=>?_,fun p hp=>?_,ax,I.len⟩
 ·exact keep b o (tm b o e) hb (jP b o e hx) (I.base.keep b o e n hb hx) (I.base.free b o e n hx)
 ·obtain⟨sl,e1⟩:=I.base.slot b o e n hb hx
  obtain⟨nc,e2⟩:=slot b _ (tm b o e) hb (jP b o e hx) e1 (I.base.free b o e n hx)
  exact⟨nc,e2⟩
 ·obtain⟨o',e1⟩:=I.base.there b o e hx
  exact free b o' (jP b o e hx) e1 (I.base.free b o e n hx)
 ·obtain⟨o',e1⟩:=I.base.there b o e hx
  exact there b o' (jP b o e hx) e1
 ·obtain⟨m1,e1⟩:=I.base.gZ b ps e
  obtain⟨m2,e2⟩:=gZ b _ e1
  exact⟨m1++m2,by rw [e2,Array.append_assoc]⟩
 ·obtain⟨m,hn,hl⟩:=I.loc
  refine⟨m,ns m hn,fun i x v e1 e2 e3=>?_⟩
  obtain⟨u,r,l⟩:=hl i x v e1 e2 e3
  refine⟨u,r,?_⟩
  rcases l with l|⟨k,c,e,z⟩
  ·exact .inl l
  ·exact .inr ⟨k,c,e,cellK x c e _ z⟩
 ·obtain⟨v,z⟩:=I.cell x c e
  exact⟨v,cellK x c e v z⟩
 ·obtain⟨m,⟨o,_,_,ho,_⟩,_⟩:=I.loc
  exact free _ o (fun z=>(kU _ z).2.1 rfl) ho I.free
 ·obtain⟨v,o,ho,hd⟩:=I.cell x c e
  exact free c o (fun z=>(kU c z).2.2.1 x c e rfl) ho (I.fX x c e)
 ·obtain⟨e,n,ne,nf,d⟩:=I.pin p hp
  have v5:p.1∉ch:=fun z=>(kU p.1 z).2.2.2 p hp rfl
  exact⟨keep p.1 p.2 ne nf v5 e n,free p.1 p.2 v5 e n,ne,nf,d⟩
theorem Inv.un(I:Inv X pins σ H s)(u:Un X.fs [] H H' s.heap h')(ax:cB X.prog X.w H' h'):Inv X pins σ H' { s with heap:=h',toks:=t' }:=by
 obtain⟨m,⟨o,es,ep,ho,r⟩,_⟩:=id I.loc
 obtain⟨sl,hL⟩:=u.any ho I.free (by simp)
 exact I.step (g':=s.gens) (d':=s.drawn) (ch:=[]) (fun _ z=>nomatch z) (fun b o _ hb _ e n=>u.keep b o e n hb (by simp)) (fun b o _ hb _ e n=>u.slot b o e n hb (by simp)) (fun b o _ e n=>u.free b o e n (by simp)) (fun b o _ e=>u.there b o e (by simp)) u.gr u.gC u.gZ (fun m' hm=>by
  obtain⟨o',nU,va,fj,r'⟩:=hm
  rw [ho] at fj;cases fj
  exact⟨_,nU,va,hL,r'⟩) ax I.bare
theorem Inv.call(I:Inv X pins σ H s)(u:Un (dF X.stack) ch H H' s.heap h')(ax:cB X.prog X.w H' h')(hg:Dm g')
  (kU:∀ b∈ch,(b∈X.ex\/X.s₀.heap.objs.size<=b)/\b≠X.env.locals/\(∀ x c,X.env.cells.lookup x=some c->c≠b)/\∀ p∈X.pn++pins,p.1≠b) :
  Inv X pins σ H' { s with heap:=h',gens:=g',drawn:=d',toks:=t' }:=by
 obtain⟨m,⟨o,es,ep,ho,r⟩,_⟩:=id I.loc
 obtain⟨sl,hL⟩:=u.any ho I.free fun z=>(kU _ z).2.1 rfl
 exact I.step (ch:=ch) kU (fun b o hL hb hc e n=>u.keep b o e n (fun z=>(A6.mp (I.rB b z)).elim hL hb) hc) (fun b o _ _ hc e n=>u.any e n hc) (fun b o hc e n=>u.free b o e n hc) (fun b o hc e=>u.there b o e hc) u.gr u.gC u.gZ (fun m' hm=>by
  obtain⟨o',nU,va,fj,r'⟩:=hm
  rw [ho] at fj;cases fj
  exact⟨_,nU,va,hL,r'⟩) ax hg
theorem Inv.turned(I:Inv X pins σ H s)(k:∀ b o,b≠it->s.heap.get? b=some o->h'.get? b=some o)(hn:H it=none)(hL:it≠X.env.locals)
  (h1:it∈X.ex\/X.s₀.heap.objs.size<=it)(h2:∀ x c,X.env.cells.lookup x=some c->c≠it)(h3:∀ p∈X.pn++pins,p.1≠it):Inv X pins σ H { s with heap:=h',toks:=t' }:=by
 have v8:∀ b u,H b=some u->b≠it:=fun b u e z=>by rw [z,hn] at e;cases e
 refine I.step (g':=s.gens) (d':=s.drawn) (ch:=[it]) (fun b hb=>?_) (fun b o _ _ hc e _=>k b o (fun z=>hc (by simp [z])) e) (fun b o _ _ hc e _=>⟨o.slots,k b o (fun z=>hc (by simp [z])) e⟩) (fun _ _ _ _ n=>n)
  (fun b o hc e=>⟨o,k b o (fun z=>hc (by simp [z])) e⟩) (fun _ _ e=>e) (fun _ _ _ e=>e) (fun b ps e=>⟨#[],by rw [e];simp⟩) (fun m hm=>?_) (fun b u e=>?_) I.bare
 ·have e:b=it:=by simpa using hb
  subst e
  exact⟨h1,hL,h2,h3⟩
 ·obtain⟨o,es,ep,ho,r⟩:=hm
  exact⟨o,es,ep,k _ o (BK hL) ho,r⟩
 ·refine(I.ax b u e).iN (fun c v hc q=>k c v ?_ q) (fun _ q=>q) fun _ _ q=>q
  rcases hc with z|z
  ·rw [z];exact v8 b u e
  ·exact v8 c _ z
theorem Inv.tok(I:Inv X pins σ H s)(t:Nat):Inv X pins σ H { s with toks:=t }:=I.un (h':=s.heap) (t':=t) Un.refl I.ax
theorem Inv.kept{t':Nat}(I:Inv X pins σ H s)(k:∀ b u,s.heap.get? b=some u->h'.get? b=some u):Inv X pins σ H { s with heap:=h',toks:=t' }:=I.un (Un.kept k) (I.ax.kept k)
theorem Inv.laid{a:dm}{o:HO}{t':Nat}(I:Inv X pins σ H s)(k:∀ b u,s.heap.get? b=some u->h'.get? b=some u)(hp:s.heap.objs.size<=a)(new:cE X.prog X.w (upd H a o) h' a o) :
  Inv X pins σ (upd H a o) { s with heap:=h',toks:=t' }:=I.un (Un.laid k hp (I.ax.fresh hp)) (I.ax.laid k hp new)
theorem Inv.write{x e:dm}{o:HO}{t':Nat}(I:Inv X pins σ H s)(mu:uJ (H x))(he:e=x\/H e=some (.own x))(k:∀ b u,b≠e->s.heap.get? b=some u->h'.get? b=some u)(sI:∃ u,h'.get? e=some u)
  (new:cE X.prog X.w (upd H x o) h' x o):Inv X pins σ (upd H x o) { s with heap:=h',toks:=t' }:=I.un (Un.write mu he k sI) (I.ax.write mu he k sI new)
theorem Inv.weak(I:Inv X pins σ H s)(hl:σ'.length=σ.length)(w:∀(i:Nat) v,σ'[i]?=some (some v)->σ[i]?=some (some v)):Inv X pins σ' H s :=
 ⟨I.ok,I.os,I.bare,I.base,let⟨m,hn,hl'⟩:=I.loc;⟨m,hn,fun i x v e1 e2 e3=>hl' i x v e1 (w i v e2) e3⟩,I.cell,I.free,I.fX,I.pin,I.ax,hl.trans I.len⟩
theorem Inv.zh4(I:Inv X pins σ H s)(h:∀ p∈zh3,s.heap.get? p.1=some p.2/\H p.1=none/\p.1≠X.env.locals/\p.1∉X.fs/\∀ v,p.2.data≠.cell v):Inv X zh3 σ H s :=
 ⟨I.ok,I.os,I.bare,I.base,I.loc,I.cell,I.free,I.fX,fun p hp=>(DF.mp hp).elim (fun z=>I.pin p (El _ z)) (h p),I.ax,I.len⟩
theorem zc0(hN:N.Nodup)(a:N[i]?=some x)(b:N[j]?=some x):i=j:=by
 obtain⟨h1,e1⟩:=Bf.mp a
 obtain⟨h2,e2⟩:=Bf.mp b
 exact(List.getElem_inj hN).mp (e1.trans e2.symm)
theorem ziM(I:Inv X pins σ H s)(hN:X.N.Nodup)(hi:X.N[i]?=some x)(hx:Loc X.env.scope x)(r:RelV v u)
  (h:∀ s',Inv X pins (σ.set i (some v)) H s'->(∃ a,Em a s.heap s'.heap/\(a=X.env.locals\/X.env.cells.lookup x=some a))->Q () s')(hf:X.fn x=true\/X.env.scope.names.lookup x=some .local:=by first|exact .inl rfl|exact .inr rfl|assumption):Ax M A (storeName X.env x u) Q E s:=by
 obtain⟨m,hn,hl⟩:=id I.loc
 have zm0:(X.env.scope.kind==.class||(X.env.scope.kind==.module&&X.env.locals != X.env.globals))=false:=by rw [I.ok.kind];rfl
 have hiσ:i<σ.length:=by rw [I.len];exact(Bf.mp hi).1
 have lU:=I.lU
 have tracked:∀{a:dm} {h':Az},(∃ o,s.heap.get? a=some o/\H a=none)->Em a s.heap h'->cB X.prog X.w H h':=fun{a h'} ha hs b ob e=>by
  obtain⟨_,_,zgy⟩:=ha
  refine(I.ax b ob e).iN (fun c w' hc q=>(hs.2 c ?_).trans q) (fun _ q=>q) fun _ _ q=>q
  rintro rfl
  rcases hc with rfl|hc
  ·rw [zgy] at e;cases e
  ·rw [zgy] at hc;cases hc
 rcases hx with hk|hk
 ·refine wpAny_storeName_local hk hn (fun h' sM hs=>?_) zm0
  obtain⟨oL,_,_,qD,_⟩:=id hn
  refine h _ ⟨I.ok,I.os,I.bare,⟨fun b o e n hb hx=>?_,fun b o e n hb hx=>?_,I.base.free,fun b o e hx=>?_,I.base.gr,I.base.gC,I.base.gZ⟩,⟨_,sM,fun j y v' e1 e2 e3=>?_⟩,fun y c e=>?_,I.free,I.fX,fun p hp=>?_,tracked ⟨oL,qD,I.free⟩ hs,by simpa using I.len⟩ ⟨_,hs,.inl rfl⟩
  ·exact(hs.2 b (Ba (BD (AW e) I.ok.above))).trans (I.base.keep b o e n hb hx)
  ·obtain⟨sl,e1⟩:=I.base.slot b o e n hb hx
   exact⟨sl,(hs.2 b (Ba (BD (AW e) I.ok.above))).trans e1⟩
  ·obtain⟨o',e1⟩:=I.base.there b o e hx
   exact⟨o',(hs.2 b (Ba (BD (AW e) I.ok.above))).trans e1⟩
  ·by_cases hj:j=i
   ·subst hj
    rw [hi] at e1;cases e1
    rw [Bj hiσ] at e2
    cases e2
    exact⟨u,r,.inl ⟨hk,by simp⟩⟩
   ·rw [Bl (BK hj)] at e2
    obtain⟨u',r',q⟩:=hl j y v' e1 e2 e3
    refine⟨u',r',?_⟩
    rcases q with⟨k,e⟩|⟨k,c,e,z⟩
    ·refine .inl ⟨k,?_⟩
     have:y≠x:=fun e=>hj (zc0 hN e1 (e▸hi))
     simp [this,e]
    ·exact .inr ⟨k,c,e,z.sameBut hs (lU y c e)⟩
  ·obtain⟨w',z⟩:=I.cell y c e
   exact⟨w',z.sameBut hs (lU y c e)⟩
  ·obtain⟨e,n,ne,nf,d⟩:=I.pin p hp
   exact⟨(hs.2 p.1 ne).trans e,n,ne,nf,d⟩
 ·have hfn:X.fn x=true:=by
   rcases hf with z|z
   ·exact z
   ·rw [z] at hk;cases hk
  obtain⟨c,hc⟩:=I.ok.has x (.inl hk)
  obtain⟨w',z⟩:=I.cell x c hc
  refine wpAny_storeName_cell I.ok.kind hk hc z (fun h' gP hs=>?_)
  obtain⟨oc,hoc,znd⟩:=id z
  refine h { s with heap:=h' } ⟨I.ok,I.os,I.bare,⟨fun b o e n hb hx=>?_,fun b o e n hb hx=>?_,I.base.free,fun b o e hx=>?_,I.base.gr,I.base.gC,I.base.gZ⟩,⟨m,hn.sameBut hs (BK (lU x c hc)),fun j y v' e1 e2 e3=>?_⟩,fun y c' e=>?_,I.free,I.fX,fun p hp=>?_,tracked ⟨oc,hoc,I.fX x c hc⟩ hs,by simpa using I.len⟩ ⟨c,hs,.inr hc⟩
  ·exact(hs.2 b (Ba (BD (AW e) (I.ok.nK x c hfn hc)))).trans (I.base.keep b o e n hb hx)
  ·obtain⟨sl,e1⟩:=I.base.slot b o e n hb hx
   exact⟨sl,(hs.2 b (Ba (BD (AW e) (I.ok.nK x c hfn hc)))).trans e1⟩
  ·obtain⟨o',e1⟩:=I.base.there b o e hx
   exact⟨o',(hs.2 b (Ba (BD (AW e) (I.ok.nK x c hfn hc)))).trans e1⟩
  ·by_cases hj:j=i
   ·subst hj
    rw [hi] at e1;cases e1
    rw [Bj hiσ] at e2
    cases e2
    exact⟨u,r,.inr ⟨.inl hk,c,hc,gP⟩⟩
   ·rw [Bl (BK hj)] at e2
    obtain⟨u',r',q⟩:=hl j y v' e1 e2 e3
    refine⟨u',r',?_⟩
    rcases q with q|⟨k,c',e,z'⟩
    ·exact .inl q
    ·refine .inr ⟨k,c',e,z'.sameBut hs ?_⟩
     rintro rfl
     exact hj (zc0 hN e1 (I.ok.inj _ _ _ e hc▸hi))
  ·by_cases gD:c'=c
   ·subst gD;exact⟨_,gP⟩
   ·obtain⟨w2,z2⟩:=I.cell y c' e
    exact⟨w2,z2.sameBut hs gD⟩
  ·obtain⟨e,n,ne,nf,d⟩:=I.pin p hp
   refine⟨(hs.2 p.1 ?_).trans e,n,ne,nf,d⟩
   intro q
   rw [q,hoc] at e
   have q':oc=p.2:=BC e
   exact d w' (by rw [<- q'];exact znd)
theorem wL(I:Inv X pins σ H s)(hN:X.N.Nodup)(hi:X.N[i]?=some x)(hx:Loc X.env.scope x)(r:RelV v u)
  (h:∀ s',Inv X pins (σ.set i (some v)) H s'->Q () s')(hf:X.fn x=true\/X.env.scope.names.lookup x=some .local:=by first|exact .inl rfl|exact .inr rfl|assumption):Ax M A (storeName X.env x u) Q E s :=
 ziM I hN hi hx r (fun s' I' _=>h s' I') hf
theorem Inv.yd(I:Inv X pins σ H s)(ho:s'.os=s.os)(u:Un (dF X.stack) ch H H' s.heap s'.heap)(ax:cB X.prog X.w H' s'.heap)(hg:Dm s'.gens)
  (kU:∀ b∈ch,(b∈X.ex\/X.s₀.heap.objs.size<=b)/\b≠X.env.locals/\(∀ x c,X.env.cells.lookup x=some c->c≠b)/\∀ p∈X.pn++pins,p.1≠b):Inv X pins σ H' s':=by
 obtain⟨h',g',d',t',o'⟩:=s'
 have e:o'=s.os:=ho
 subst e
 exact I.call (g':=g') (t':=t') (d':=d') u ax hg kU
end
abbrev XK:=gV->Option dm->Hp->Prop
abbrev St:=List (Option V)
abbrev VK:=V->Hp->Prop
abbrev TE:=St->Hp->VK->Prop
abbrev TT:=St->Hp->(Bool->Hp->Prop)->Prop
abbrev TA:=St->Hp->(List V->Hp->Prop)->Prop
structure Ends where
 nx:St->Hp->Prop
 rt:VK
 bk:St->Hp->Prop:=fun _ _=>False
 ct:St->Hp->Prop:=fun _ _=>False
abbrev TS:=Ends->St->Hp->Prop
def EP(X:Cx)(pins:List (dm×AA))(σ:St)(Q:VK)(u:gV)(s':ir):Prop:=∃ v H',Inv X pins σ H' s'/\RelV v u/\Q v H'
def TP(X:Cx)(pins:List (dm×AA))(σ:St)(Q:Bool->Hp->Prop)(b:Bool)(s':ir):Prop:=∃ H',Inv X pins σ H' s'/\Q b H'
def AP(X:Cx)(pins:List (dm×AA))(σ:St)(Q:List V->Hp->Prop)(us:List gV)(s':ir):Prop:=∃ vs H',Inv X pins σ H' s'/\Vals vs us/\Q vs H'
def SP(X:Cx)(pins:List (dm×AA))(D:Ends)(f:Flow)(s':ir):Prop :=
 match f with
 | .next=>∃ σ' H',Inv X pins σ' H' s'/\D.nx σ' H'
 | .brk=>∃ σ' H',Inv X pins σ' H' s'/\D.bk σ' H'
 | .cont=>∃ σ' H',Inv X pins σ' H' s'/\D.ct σ' H'
 | .ret u=>∃ v σ' H',Inv X pins σ' H' s'/\RelV v u/\D.rt v H'
def PE(X:Cx)(e:Av)(t:TE):Prop :=
 ∀(pins:List (dm×AA)) (s:ir) (σ:St) (H:Hp) (Q:VK),Inv X pins σ H s->t σ H Q->Ax (Ay X.prog X.w) X.A (AB e X.env) (EP X pins σ Q) X.xe s
def PT(X:Cx)(e:Av)(t:TT):Prop :=
 ∀(pins:List (dm×AA)) (s:ir) (σ:St) (H:Hp) (Q:Bool->Hp->Prop),Inv X pins σ H s->t σ H Q->Ax (Ay X.prog X.w) X.A (isTrue e X.env (AB e X.env)) (TP X pins σ Q) X.xe s
def PW(X:Cx)(e:Av)(t:TT):Prop :=
 ∀(whole:Sem gV) (pins:List (dm×AA)) (s:ir) (σ:St) (H:Hp) (Q:Bool->Hp->Prop),Inv X pins σ H s->t σ H Q->Ax (Ay X.prog X.w) X.A (isTrue e X.env whole) (TP X pins σ Q) X.xe s
theorem PW.pt(h:PW X e t):PT X e t:=h _
def PA(X:Cx)(es:List Av)(t:TA):Prop :=
 ∀(pos:AD) (pins:List (dm×AA)) (s:ir) (σ:St) (H:Hp) (Q:List V->Hp->Prop),Inv X pins σ H s->t σ H Q->Ax (Ay X.prog X.w) X.A (spliced (A7 pos (Aw es X.env))) (AP X pins σ Q) X.xe s
def PS(X:Cx)(st:AQ)(t:TS):Prop :=
 ∀(pins:List (dm×AA)) (s:ir) (σ:St) (H:Hp) (D:Ends),Inv X pins σ H s->t D σ H->Ax (Ay X.prog X.w) X.A (exec st X.env) (SP X pins D) X.xe s
def bW(X:Cx)(st:List AQ)(t:TS):Prop :=
 ∀(pins:List (dm×AA)) (s:ir) (σ:St) (H:Hp) (D:Ends),Inv X pins σ H s->t D σ H->Ax (Ay X.prog X.w) X.A (execs st X.env) (SP X pins D) X.xe s
theorem aE{t:Sem α}{Q Q':α->ir->Prop}(h:Ax M A t Q E s)(hQ:∀ a s,Q a s->Q' a s):Ax M A t Q' E s:=Bb h hQ fun _ _ x=>x
end
variable {a b c:Av}{σ:St}{Q:gV->ir->Prop}{pos:AD}
section
section
noncomputable def bL(i:Nat):TE:=fun σ H Q=>∃ v,σ[i]?=some (some v)/\Q v H
noncomputable def tC(v:V):TE:=fun _ H Q=>Q v H
theorem zhZ(hN:X.N[i]?=some x)(hv:xD X.env.scope x)(hd:(x==("__debug__":ib))=false:=by decide) (fi:(x==("__classdict__":ib))=false:=by decide):PE X (.Name x pos) (bL i):=by
 intro pins s σ H Q I h
 obtain⟨v,e,h⟩:=h
 obtain⟨m,hn,hl⟩:=I.loc
 obtain⟨u,r,l⟩:=hl i x v hN e hv
 have fin:EP X pins σ Q u s:=⟨v,H,I,r,h⟩
 rcases l with⟨hk,hm⟩|⟨hk,c,hc,zgv⟩
 ·exact wpAny_Name (wpAny_loadName_local I.ok.kind hk hn hm fin) hd
 ·rcases hk with hk|hk
  ·exact wpAny_Name (wpAny_loadName_cell I.ok.kind hk hc zgv fin) hd
  ·exact wpAny_Name (wpAny_loadName_free I.ok.kind hk hc zgv fin fi) hd
theorem zq0{i j pos}:PE X (.Constant (.int i) j pos) (tC (.int i)):=fun _ _ _ H _ I h=>wpAny_Constant_int ⟨.int i,H,I.tok _,⟨_,rfl⟩,h⟩
theorem zqN{b j pos}:PE X (.Constant (.bool b) j pos) (tC (.bl b)):=fun _ _ _ H _ I h=>Constant_bool ⟨.bl b,H,I,rfl,h⟩
theorem zhX{j pos}:PE X (.Constant .none j pos) (tC .non):=fun _ _ _ H _ I h=>Constant_none ⟨.non,H,I,rfl,h⟩
theorem zq6{x j pos}:PE X (.Constant (.str x) j pos) (tC (.str x)):=fun _ _ _ H _ I h=>Calls.Constant_str ⟨.str x,H,I.tok _,⟨_,rfl⟩,h⟩
def Gl(X:Cx)(x:ib):Prop:=X.env.kindOf x=some .globalImplicit
theorem vR(I:Inv X pins σ H s)(hg:Gl X x)(hm:X.mg x=some u)(h:Q u s)
  (hd:(x==("__debug__":ib))=false:=by decide):Ax (Ay X.prog X.w) X.A (AB (.Name x pos) X.env) Q E s :=
 IJ I.ok.kind hg (Calls.loadGlobal_global (by rw [I.ok.glob];exact I.mod.glob.keeps I.bk) hm h) hd
theorem oB(I:Inv X pins σ H s)(hg:Gl X x)(hm:X.mg x=none)(hv:Bo x=some u)(h:Q u s)
  (hn:x ≠ "__name__":=by decide) (hd:(x==("__debug__":ib))=false:=by decide):Ax (Ay X.prog X.w) X.A (AB (.Name x pos) X.env) Q E s:=by
 obtain⟨mb,h1,h2⟩:=I.mod.blt
 exact IJ I.ok.kind hg (Calls.loadGlobal_builtin (by rw [I.ok.glob];exact I.mod.glob.keeps I.bk) hm (by rw [I.ok.blt];exact h1.keeps I.bk) ((h2 x hn).trans hv) h) hd
theorem cX(hg:Gl X x)(hm:X.mg x=some u)(r:RelV v u)(hd:(x==("__debug__":ib))=false:=by decide):PE X (.Name x pos) (tC v) :=
 fun _ _ _ H _ I h=>vR I hg hm ⟨v,H,I,r,h⟩ hd
theorem zqO(hg:Gl X x)(hm:X.mg x=none)(hv:Bo x=some u)(r:RelV v u)(hn:x ≠ "__name__":=by decide) (hd:(x==("__debug__":ib))=false:=by decide):PE X (.Name x pos) (tC v) :=
 fun _ _ _ H _ I h=>oB I hg hm hv ⟨v,H,I,r,h⟩ hn hd
variable {ta tb:TE}
noncomputable def tB(t:TE):TT:=fun σ H Q=>t σ H fun x H1=>∃ c,x=.bl c/\Q c H1
variable {tA tB':TT}{rest:List Av}
noncomputable def lI(t u:TT):TT:=fun σ H Q=>t σ H fun c H1=>if c=true then u σ H1 Q else Q false H1
noncomputable def bG(t u:TT):TT:=fun σ H Q=>t σ H fun c H1=>if c=true then Q true H1 else u σ H1 Q
noncomputable def bh(t:TT):TT:=fun σ H Q=>t σ H fun c H1=>Q (!c) H1
theorem zsW(ha:PT X a tA):PW X (.BoolOp .Or [a] pos) tA:=by
 intro wh pins s σ H Q I h
 refine isTrue_or (aE (ha pins s σ H Q I h) fun c s1 e=>?_)
 cases c with
 | false=>exact isTrue_or_nil e
 | true=>exact e
theorem zsV(ha:PT X a tA)(hb:PW X (.BoolOp .Or (b::rest) pos) tB'):PW X (.BoolOp .Or (a::b::rest) pos) (bG tA tB'):=by
 intro wh pins s σ H Q I h
 refine isTrue_or (aE (ha pins s σ H _ I h) fun c s1 ⟨H1,I1,q1⟩=>?_)
 cases c with
 | true=>exact⟨H1,I1,q1⟩
 | false=>exact hb wh pins s1 σ H1 Q I1 q1
theorem zr1(ha:PT X a tA):PT X (.UnaryOp .Not a pos) (bh tA):=by
 intro pins s σ H Q I h
 exact isTrue_not (ha pins s σ H (fun c H1=>Q (!c) H1) I h)
noncomputable def zuv(ta tb:TE):TE:=fun σ H Q=>ta σ H fun x H1=>∃ c,x=.bl c/\if c=true then tb σ H1 Q else Q (.bl false) H1
noncomputable def zuK(ta:TE):TE:=fun σ H Q=>ta σ H fun x H1=>∃ c,x=.bl c/\Q (.bl (!c)) H1
theorem zq4{op}{t:TE}(h:PE X a t):PE X (.BoolOp op [a] pos) t:=fun pins s σ H Q I hw=>BoolOp_one (h pins s σ H Q I hw)
theorem zqM(ha:PE X a ta)(hb:PE X (.BoolOp .And (b::rest) pos) tb):PE X (.BoolOp .And (a::b::rest) pos) (zuv ta tb):=by
 intro pins s σ H Q I h
 refine BoolOp_and (aE (ha pins s σ H _ I h) fun v s1 ⟨x,H1,I1,r1,q1⟩=>?_)
 obtain⟨c,rfl,q1⟩:=q1
 cases r1
 refine Eo ?_
 cases c with
 | true=>exact hb pins s1 σ H1 Q I1 q1
 | false=>exact⟨.bl false,H1,I1,rfl,q1⟩
theorem zq3(ha:PE X a ta):PE X (.UnaryOp .Not a pos) (zuK ta):=by
 intro pins s σ H Q I h
 refine UnaryOp_ (aE (ha pins s σ H _ I h) fun v s1 ⟨x,H1,I1,r1,q1⟩=>?_)
 obtain⟨c,rfl,q1⟩:=q1
 cases r1
 exact not_of (Eo ⟨.bl (!c),H1,I1,rfl,q1⟩)
noncomputable def tIf(t:TT)(ta tb:TE):TE:=fun σ H Q=>t σ H fun c H1=>if c=true then ta σ H1 Q else tb σ H1 Q
theorem zqZ(hc:PT X c tA)(ha:PE X a ta)(hb:PE X b tb):PE X (.IfExp c a b pos) (tIf tA ta tb):=by
 intro pins s σ H Q I h
 refine wpAny_IfExp (aE (hc pins s σ H _ I h) fun d s1 ⟨H1,I1,q1⟩=>?_)
 cases d with
 | true=>exact ha pins s1 σ H1 Q I1 q1
 | false=>exact hb pins s1 σ H1 Q I1 q1
end
end
variable {k n:Nat}{tg:Av}{pos':AD}{ta:TA}{y:V}{tc:TT}{vs:Array gV}{es:List Av}{te:TE}{g:TG}{body:List AQ}
section
def bp(K:kb)(H:Hp)(a:dm)(xs:List V):Prop :=
 Rd H a (.lst xs) \/
  ∃(o:AA) (its:Array gV) (n:Nat),K.lookup a=some o/\o.cls=.type "list"/\o.dict=none/\o.data=.seq its n/\its.size<=AU/\Vals xs its.toList
def dN(K:kb)(H:Hp)(a:dm)(xs:List V):Prop :=
 Rd H a (.tup xs) \/
  ∃(o:AA) (its:Array gV) (n:Nat),K.lookup a=some o/\o.cls=.type "tuple"/\o.data=.seq its n/\its.size<=AU/\Vals xs its.toList
noncomputable def zj7:gV->Option V
 | .none=>some .non
 | .bool b=>some (.bl b)
 | .int i _=>some (.int i)
 | .str x _=>some (.str x)
 | .bytes b _=>some (.byt b)
 | .float b _=>some (.flt b)
 | .ref a=>some (.ref a)
 | .type n=>some (.ty n)
 | _=>none
theorem RelV.abs{x:V}(r:RelV x u):zj7 u=some x:=by
 cases x with
 | non=>cases r;rfl
 | bl _=>cases r;rfl
 | int _=>obtain⟨t,rfl⟩:=r;rfl
 | str _=>obtain⟨t,rfl⟩:=r;rfl
 | byt _=>obtain⟨t,rfl⟩:=r;rfl
 | flt _=>obtain⟨t,rfl⟩:=r;rfl
 | ref _=>cases r;rfl
 | ty _=>cases r;rfl
theorem RelV.inj{x:V}(r:RelV x u)(q:RelV y u):x=y:=BC (r.abs.symm.trans q.abs)
theorem Vals.inj:∀{xs ys:List V} {us:List gV},Vals xs us->Vals ys us->xs=ys
 | _,_,_,.nil,.nil=>rfl
 | _,_,_,.cons r t,.cons r' t'=>by rw [r.inj r',Vals.inj t t']
section
variable {a:dm}{ys:List V}
theorem bp.of{K:kb}(h:H a=some (.lst xs)):bp K H a xs:=.inl (.inl h)
theorem Inv.list(I:Inv X pins σ H s)(h:bp X.K H a xs):∃ its:List gV,Vals xs its/\PlainL s.heap a its.toArray/\xs.length<=AU:=by
 rcases h with h|⟨o,its,n,hk,hc,hd,hs,hz,r⟩
 ·obtain⟨z,its,n,r,e⟩:=h.ok I.ax
  exact⟨its,r,⟨_,n,e,rfl,rfl,rfl⟩,z⟩
 ·refine⟨its.toList,r,⟨o,n,I.dG a o hk,hc,hd,by simpa using hs⟩,?_⟩
  have e:=r.length
  simp only [EZ] at e
  omega
theorem Inv.tuple(I:Inv X pins σ H s)(h:dN X.K H a xs):∃ its:List gV,Vals xs its/\Dl s.heap a its.toArray/\xs.length<=AU:=by
 rcases h with h|⟨o,its,n,hk,hc,hs,hz,r⟩
 ·obtain⟨z,its,r,p⟩:=h.ok I.ax
  exact⟨its,r,p,z⟩
 ·refine⟨its.toList,r,⟨o,I.dG a o hk,hc,n,by simpa using hs⟩,?_⟩
  have e:=r.length
  simp only [EZ] at e
  omega
theorem Inv.vT(I:Inv X pins σ H s)(h:bp X.K H a xs)(h':bp X.K H a ys):xs=ys:=by
 obtain⟨its,r,⟨o,n,e,_,_,d⟩,_⟩:=I.list h
 obtain⟨iI,r',⟨o',n',e',_,_,d'⟩,_⟩:=I.list h'
 rw [e] at e';cases e'
 rw [d] at d'
 injection d' with d1 _
 have:its=iI:=by simpa using congrArg Array.toList d1
 subst this
 exact r.inj r'
theorem Inv.zi3(I:Inv X pins σ H s)(h:dN X.K H a xs)(h':dN X.K H a ys):xs=ys:=by
 obtain⟨its,r,⟨o,e,_,n,d⟩,_⟩:=I.tuple h
 obtain⟨iI,r',⟨o',e',_,n',d'⟩,_⟩:=I.tuple h'
 rw [e] at e';cases e'
 rw [d] at d'
 injection d' with d1 _
 have:its=iI:=by simpa using congrArg Array.toList d1
 subst this
 exact r.inj r'
end
abbrev Cx.i5(X:Cx)(E:gV->ir->Prop):Cx:={ X with xe:=E }
abbrev Cx.cF(X:Cx):Cx:=X.i5 fun _ _=>False
theorem Cx.Ok.i5(ok:X.Ok)(E:gV->ir->Prop):(X.i5 E).Ok :=
 ⟨ok.mod,ok.kind,ok.glob,ok.blt,ok.above,ok.inj,ok.has,ok.nK,ok.hd,ok.frames,ok.rA,ok.mw,ok.bs,ok.j5,ok.oK,ok.mz,ok.h8,ok.kR,ok.tree,ok.sk⟩
theorem Cx.Ok.jW(ok:(X.i5 E).Ok):X.Ok :=
 ⟨ok.mod,ok.kind,ok.glob,ok.blt,ok.above,ok.inj,ok.has,ok.nK,ok.hd,ok.frames,ok.rA,ok.mw,ok.bs,ok.j5,ok.oK,ok.mz,ok.h8,ok.kR,ok.tree,ok.sk⟩
section
theorem Inv.i5(I:Inv X pins σ H s)(E:gV->ir->Prop):Inv (X.i5 E) pins σ H s:=⟨I.ok.i5 E,I.os,I.bare,I.base,I.loc,I.cell,I.free,I.fX,I.pin,I.ax,I.len⟩
theorem Inv.jW(I:Inv (X.i5 E) pins σ H s):Inv X pins σ H s:=⟨I.ok.jW,I.os,I.bare,I.base,I.loc,I.cell,I.free,I.fX,I.pin,I.ax,I.len⟩
theorem SP.jW{D:Ends}{f:Flow}{s':ir}(h:SP (X.i5 E) pins D f s'):SP X pins D f s':=by
 cases f with
 | next=>obtain⟨σ',H',I,q⟩:=h;exact⟨σ',H',I.jW,q⟩
 | brk=>obtain⟨σ',H',I,q⟩:=h;exact⟨σ',H',I.jW,q⟩
 | cont=>obtain⟨σ',H',I,q⟩:=h;exact⟨σ',H',I.jW,q⟩
 | ret u=>obtain⟨v,σ',H',I,r,q⟩:=h;exact⟨v,σ',H',I.jW,r,q⟩
theorem PT.cF(h:PT X.cF e t):PT X e t:=fun pins s σ H Q I hw =>
 Bb (h pins s σ H Q (I.i5 _) hw) (fun _ _ ⟨H',I',q⟩=>⟨H',I'.jW,q⟩) fun _ _ z=>BQ z
theorem bW.cF{st:List AQ}{t:TS}(h:bW X.cF st t):bW X st t:=fun pins s σ H D I hw =>
 Bb (h pins s σ H D (I.i5 _) hw) (fun _ _ q=>q.jW) fun _ _ z=>BQ z
end
section
variable {st:AQ}{rest:List AQ}{t u:TS}
noncomputable def zuI:TS:=fun D σ H=>D.nx σ H
noncomputable def zdL(t u:TS):TS:=fun D σ H=>t { D with nx:=u D } σ H
theorem zdl:bW X [] zuI:=fun _ _ σ H _ I h=>E4 ⟨σ,H,I,h⟩
theorem tR(h1:PS X st t)(h2:bW X rest u):bW X (st::rest) (zdL t u):=by
 intro pins s σ H D I h
 refine Hi (aE (h1 pins s σ H { D with nx:=u D } I h) fun f s1 q=>?_)
 cases f with
 | next =>
  obtain⟨σ',H',I',q⟩:=q
  exact h2 pins s1 σ' H' D I' q
 | ret v=>exact q
 | brk=>exact q
 | cont=>exact q
theorem tU(h1:PS X st t):bW X [st] t:=by
 intro pins s σ H D I h
 refine Hi (aE (h1 pins s σ H D I h) fun f s1 q=>?_)
 cases f with
 | next=>exact E4 q
 | ret v=>exact q
 | brk=>exact q
 | cont=>exact q
theorem Inv.quiet(I:Inv X pins σ H s):interactive X.env=false:=by simp [interactive,I.ok.kind]
noncomputable def zuy(te:TE):TS:=fun D σ H=>te σ H fun _ H1=>D.nx σ H1
theorem zdi(he:PE X e te)(hs:Bx e none pos.line X.env=pure false:=by rfl):PS X (.Expr e pos) (zuy te):=by
 intro pins s σ H D I h
 exact wpAny_Expr_any (aE (he pins s σ H _ I h) fun v s1 ⟨x,H1,I1,r1,q1⟩=>⟨σ,H1,I1,q1⟩) I.quiet hs
noncomputable def ziU(te:TE):TS:=fun D σ H=>te σ H D.rt
theorem zB(he:PE X e te):PS X (.Return (some e) pos) (ziU te):=by
 intro pins s σ H D I h
 exact wpAny_Return_some (aE (he pins s σ H _ I h) fun v s1 ⟨x,H1,I1,r1,q1⟩=>⟨x,σ,H1,I1,r1,q1⟩)
noncomputable def zuC(c:TT)(t u:TS):TS:=fun D σ H=>c σ H fun b H1=>if b=true then t D σ H1 else u D σ H1
theorem zdj{a b:List AQ}(hc:PT X c tc)(ha:bW X a t)(hb:bW X b u):PS X (.If c a b pos) (zuC tc t u):=by
 intro pins s σ H D I h
 refine wpAny_If (aE (hc pins s σ H _ I h) fun d s1 ⟨H1,I1,q1⟩=>?_)
 cases d with
 | true=>exact ha pins s1 σ H1 D I1 q1
 | false=>exact hb pins s1 σ H1 D I1 q1
noncomputable def zuH:TS:=fun _ _ _=>False
theorem zic:PS X st zuH:=fun _ _ _ _ _ _ h=>h.elim
end
abbrev TG:=V->St->Hp->(St->Hp->Prop)->Prop
abbrev lQ:=List V->St->Hp->(St->Hp->Prop)->Prop
def PG(X:Cx)(target:Av)(t:TG):Prop :=
 ∀(pins:List (dm×AA)) (s:ir) (σ:St) (H:Hp) (v:V) (u:gV) (Q:St->Hp->Prop),Inv X pins σ H s->RelV v u->t v σ H Q ->
  Ax (Ay X.prog X.w) X.A (Cy target X.env u) (fun _ s'=>∃ σ' H',Inv X pins σ' H' s'/\Q σ' H') X.xe s
def lO(X:Cx)(ts:List Av)(t:lQ):Prop :=
 ∀(pins:List (dm×AA)) (s:ir) (σ:St) (H:Hp) (vs:List V) (us:List gV) (Q:St->Hp->Prop),Inv X pins σ H s->Vals vs us->t vs σ H Q ->
  Ax (Ay X.prog X.w) X.A (Hj ((CN ts X.env).map (·.2)) us) (fun _ s'=>∃ σ' H',Inv X pins σ' H' s'/\Q σ' H') X.xe s
abbrev zai:=V->V->V->Hp->(Hp->Prop)->Prop
def zd2(X:Cx)(t:zai):Prop :=
 ∀(pins:List (dm×AA)) (s:ir) (σ:St) (H:Hp) (o i v:V) (ov iv u:gV) (Q:Hp->Prop),Inv X pins σ H s->RelV o ov->RelV i iv->RelV v u->t o i v H Q ->
  Ax (Ay X.prog X.w) X.A (setItem ov iv u) (fun _ s'=>∃ H',Inv X pins σ H' s'/\Q H') X.xe s
section
noncomputable def qu(i:Nat):TG:=fun v σ H Q=>Q (σ.set i (some v)) H
theorem zrc(hN:X.N.Nodup)(hi:X.N[i]?=some x)(hx:Loc X.env.scope x)(hf:X.fn x=true\/X.env.scope.names.lookup x=some .local:=by first|exact .inl rfl|exact .inr rfl|assumption):PG X (.Name x pos) (qu i):=by
 intro pins s σ H v u Q I r h
 exact wpAny_assign_Name (wL I hN hi hx r (fun s' I'=>⟨_,H,I',h⟩) hf)
noncomputable def zmF:lQ:=fun vs σ H Q=>vs=[]/\Q σ H
noncomputable def zmD(t:TG)(u:lQ):lQ:=fun vs σ H Q=>∃ v r,vs=v::r/\t v σ H fun σ' H'=>u r σ' H' Q
theorem zrg:lO X [] zmF:=by
 intro pins s σ H vs us Q I r h
 obtain⟨e,h⟩:=h
 subst e
 cases r
 exact assignInOrder_nil ⟨σ,H,I,h⟩
theorem zrf{t:TG}{u:lQ}(h1:PG X e t)(h2:lO X es u)
  (hs:(CN (e::es) X.env).map (·.2)=Cy e X.env::(CN es X.env).map (·.2):=by rfl):lO X (e::es) (zmD t u):=by
 intro pins s σ H vs us Q I r h
 obtain⟨v,vr,e1,h⟩:=h
 subst e1
 cases r with
 | cons r rr =>
  rw [hs]
  refine Hk (aE (h1 pins s σ H _ _ _ I r h) fun _ s1 ⟨σ1,H1,I1,q1⟩=>?_)
  exact h2 pins s1 σ1 H1 _ _ Q I1 rr q1
noncomputable def zmH(K:kb)(n:Nat)(t:lQ):TG:=fun v σ H Q=>∃ a xs,v=.ref a/\dN K H a xs/\xs.length=n/\t xs σ H Q
theorem zre{t:lQ}(hc:X.calm=true)(h:lO X es t)
  (hn:(CN es X.env).length=n:=by rfl)(bV:(CN es X.env).findIdx? (·.1)=none:=by rfl):PG X (.Tuple es k pos) (zmH X.K n t):=by
 intro pins s σ H v u Q I r hw
 obtain⟨a,xs,e1,hq,hl,hw⟩:=hw
 subst e1
 cases r
 obtain⟨its,rv,ht,hz⟩:=I.tuple hq
 refine assign_Tuple_tuple (I.ok.hd hc) ht (by simp [hn,<- hl,rv.length]) bV fun h' hx=>?_
 have I1:Inv X pins σ H { s with heap:=h' }:=I.kept (t':=s.toks) fun b o e=>hx b o (Ba (AW e)) e
 exact h pins _ σ H xs _ Q I1 (by simpa using rv) hw
noncomputable def zmG(to ti:TE)(t:zai):TG:=fun v σ H Q=>to σ H fun o H1=>ti σ H1 fun i H2=>t o i v H2 fun H3=>Q σ H3
theorem zrd{o i:Av}{to ti:TE}{t:zai}(ho:PE X o to)(hi:PE X i ti)(hs:zd2 X t)
  (ha:∀ v,Cy (.Subscript o i pos) X.env v=(do
   let ov <- C8 [v] (AB o X.env)
   let iv <- C8 [v,ov] (AB i X.env)
   Ep pos
   C8 [v,ov,iv] (setItem ov iv v)
   release [v,ov,iv] []):=by intro _;rfl):PG X (.Subscript o i pos) (zmG to ti t):=by
 intro pins s σ H v u Q I r h
 rw [ha]
 refine pd (Cu (aE (ho pins s σ H _ I h) fun ov s1 ⟨x,H1,I1,r1,q1⟩=>?_))
 refine pd (Cu (aE (hi pins s1 σ H1 _ I1 q1) fun iv s2 ⟨y,H2,I2,r2,q2⟩=>?_))
 refine pd (D5 (pd (Cu (aE (hs pins s2 σ H2 x y v ov iv u _ I2 r1 r2 r q2) fun _ s3 ⟨H3,I3,q3⟩=>?_))))
 exact wpAny_release ⟨σ,H3,I3,q3⟩
noncomputable def rC(te:TE)(g:TG):TS:=fun D σ H=>te σ H fun x H1=>g x σ H1 D.nx
theorem zia(he:PE X e te)(hg:PG X tg g)(hs:E6 [tg] e pos.line X.env=pure false:=by rfl)(hw:E7 [tg] e X.env=pure none:=by rfl)
  (h1:(CN [tg] X.env).map (·.2)=[Cy tg X.env]:=by rfl):PS X (.Assign [tg] e pos) (rC te g):=by
 intro pins s σ H D I h
 refine wpAny_Assign_stores (aE (he pins s σ H _ I h) fun v s1 ⟨x,H1,I1,r1,q1⟩=>?_) hs hw
 rw [h1]
 exact aE (hg pins s1 σ H1 x v _ I1 r1 q1) fun _ s2 q=>q
theorem qX(hN:X.N.Nodup)(hi:X.N[i]?=some x)(hx:Loc X.env.scope x)(he:PE X e te)(hs:Bx e (some (.Name x pos')) pos.line X.env=pure false:=by rfl)(hf:X.fn x=true\/X.env.scope.names.lookup x=some .local:=by first|exact .inl rfl|exact .inr rfl|assumption) :
  PS X (.Assign [.Name x pos'] e pos) (rC te (qu i)):=by
 intro pins s σ H D I h
 refine wpAny_Assign_Name (aE (he pins s σ H _ I h) fun v s1 ⟨y,H1,I1,r1,q1⟩=>?_) hs
 exact wL I1 hN hi hx r1 (fun s2 I2=>⟨_,H1,I2,q1⟩) hf
noncomputable def zuL(i j:Nat)(ta:TA):TS:=fun D σ H=>ta σ H fun vs H1=>∃ v w,vs=[v,w]/\D.nx ((σ.set i (some v)).set j (some w)) H1
theorem zrF{y:ib}{px py pt:AD}{kt k2 kB}(hc:X.calm=true)(hN:X.N.Nodup)(hi:X.N[i]?=some x)(hj:X.N[j]?=some y)(eI:i≠j)
  (hx:X.env.scope.names.lookup x=some .local)(hy:X.env.scope.names.lookup y=some .local)(ha:PA X [a,b] ta)
  (hw:E7 [.Tuple [.Name x px,.Name y py] kt pt] (.Tuple [a,b] k2 kB) X.env=pure (some [x,y]))
  (hs:E6 [.Tuple [.Name x px,.Name y py] kt pt] (.Tuple [a,b] k2 kB) pos.line X.env=pure false:=by rfl) :
  PS X (.Assign [.Tuple [.Name x px,.Name y py] kt pt] (.Tuple [a,b] k2 kB) pos) (zuL i j ta):=by
 intro pins s σ H D I h
 rw [exec_Assign_arm]
 refine pd (D5 ?_)
 rw [hs]
 refine pd (AH ?_)
 rw [if_neg (by decide)]
 refine pd (Tuple_ (aE (ha _ pins s σ H _ I h) fun us s1 ⟨vs,H1,I1,r1,q1⟩=>?_))
 obtain⟨v,w,e1,q1⟩:=q1
 subst e1
 obtain⟨u1,u2,rfl,rv,iX⟩:∃ u1 u2,us=[u1,u2]/\RelV v u1/\RelV w u2:=by
  cases r1 with
  | cons p q =>
   cases q with
   | cons p' q' =>
    cases q'
    exact⟨_,_,rfl,p,p'⟩
 refine Cz ?_ (by show 2<=AU;decide)
 have I2:Inv X pins σ H1 { s1 with heap:=s1.heap.push { cls:=.type "tuple",data:=.seq [u1,u2].toArray } }:=I1.kept (t':=s1.toks) fun b o e=>A1 _ e
 rw [hw]
 refine pd (AH ?_)
 show Ax (Ay X.prog X.w) X.A (do rule "assign.swapped-stores";let items <- unpackItems (.ref s1.heap.objs.size) 2 none;Hj [fun v=>FI X.env y v,fun v=>FI X.env x v] items.reverse;pure Flow.next) _ _ _
 refine pd (Er (pd (unpackItems_tuple (items:=#[u1,u2]) (I.ok.hd hc) (FJ s1.heap _) fun h' hx'=>?_)))
 have I3:=I2.kept (h':=h') (t':=s1.toks) fun b o e=>hx' b o (Ba (AW e)) e
 show Ax _ _ (Hj [fun v=>FI X.env y v,fun v=>FI X.env x v] [u2,u1] >>= fun _=>pure Flow.next) _ _ _
 refine pd (Hk (wpAny_bindName (wL I3 hN hj (.inl hy) iX (fun s2 I4=>?_) (.inr hy))))
 refine Hk (wpAny_bindName (wL I4 hN hi (.inl hx) rv (fun s3 I5=>assignInOrder_nil (AH ?_)) (.inr hx)))
 rw [List.set_comm _ _ (BK eI)] at I5
 exact⟨_,H1,I5,q1⟩
end
section
noncomputable def zuP(c:TT)(tb:TS):TS:=fun D σ H=>∃ W:Nat->St->Hp->Prop,(∃ m,W m σ H)/\∀ m σ H,W m σ H ->
 c σ H fun b H1=>if b=true then ∃ N:St->Hp->Prop,(∀ σ' H',N σ' H'->∃ m',m'<m/\W m' σ' H')/\tb { D with nx:=N,ct:=N,bk:=D.nx } σ H1 else D.nx σ H1
theorem zrK{tb:TS}(hp:Es (Ay X.prog X.w) X.A X.env X.xe)(hc:PT X c tc)(hb:bW X body tb):PS X (.While c body [] pos) (zuP tc tb):=by
 intro pins s σ H D I h
 obtain⟨W,⟨m0,w0⟩,turn⟩:=h
 refine wpAny_While (codeAny_whileLoop (fun n s'=>∃ σ' H',Inv X pins σ' H' s'/\W n σ' H') ?_ m0 ⟨σ,H,I,w0⟩)
 rintro n s1 ⟨σ1,H1,I1,w1⟩
 refine Et hp (aE (hc pins s1 σ1 H1 _ I1 (turn n σ1 H1 w1)) fun b s2 ⟨H2,I2,q2⟩=>?_)
 cases b with
 | true =>
  obtain⟨N,hN,q2⟩:=q2
  rw [if_pos rfl]
  refine Et hp (aE (hb pins s2 σ1 H2 _ I2 q2) fun f s3 q3=>?_)
  cases f with
  | next =>
   obtain⟨σ3,H3,I3,n3⟩:=q3
   obtain⟨m',hm,w3⟩:=hN σ3 H3 n3
   exact⟨m',hm,σ3,H3,I3,w3⟩
  | cont =>
   obtain⟨σ3,H3,I3,n3⟩:=q3
   obtain⟨m',hm,w3⟩:=hN σ3 H3 n3
   exact⟨m',hm,σ3,H3,I3,w3⟩
  | brk=>exact q3
  | ret v=>exact q3
 | false =>
  rw [if_neg BU]
  exact E4 ⟨σ1,H2,I2,q2⟩
end
structure It where
 go:Nat->Hp->Prop
 Ao:Nat->Hp->V->Hp->Prop
 stop:Nat->Hp->Prop
def gw(X:Cx)(pins:List (dm×AA))(H:Hp)(b:dm):Prop :=
 H b=none/\b≠X.env.locals/\b∉X.fs/\(b∈X.ex\/X.s₀.heap.objs.size<=b)/\(∀ x c,X.env.cells.lookup x=some c->c≠b)/\∀ p∈X.pn++pins,p.1≠b
theorem Inv.j8{b:dm}(I:Inv X pins σ H s)(hb:s.heap.objs.size<=b)(hn:H' b=none):gw X pins H' b:=by
 refine⟨hn,CO (BD I.lt hb),I.zhJ hb,.inr (By I.sz hb),fun x c e z=>?_,fun p hp z=>?_⟩
 ·obtain⟨v,q⟩:=I.cell x c e
  exact absurd (BD q.lt (by rw [z];exact hb)) (Ek _)
 ·exact absurd (BD (AW (I.pin p hp).1) (by rw [z];exact hb)) (Ek _)
structure Turn(P:AK)(w:AJ)(K:kb)(tg:Av)(J:It)(fp:List dm)(it:dm)(tn:Nat->Az->Prop):Prop where
 mem:it∈fp
 obj:∀ i h,tn i h->∀ b∈fp,∃ o,h.get? b=some o/\∀ v,o.data≠.cell v
 keep:∀ i h h',tn i h->(∀ b∈fp,∀ o,h.get? b=some o->h'.get? b=some o)->tn i h'
 item:∀(X:Cx),X.prog=P->X.w=w->X.K=K->X.calm=true->∀(i:Nat) (pins:List (dm×AA)) (s:ir) (σ:St) (H:Hp) (E:gV->ir->Prop),Inv X pins σ H s->(∀ b∈fp,gw X pins H b)->tn i s.heap->J.go i H ->
  Ax (Ay P w) X.A (C9 (.ref it)) (fun r s1=>∃ u,r=some u /\
   Ax (Ay P w) X.A (Gq tg (.ref it) u) (fun _ s2=>∃ x H',Inv X pins σ H' s2/\RelV x u/\J.Ao i H x H'/\tn (i+1) s2.heap/\∀ b∈fp,H' b=none) E s1) E s
 done:∀(X:Cx),X.prog=P->X.w=w->X.K=K->X.calm=true->∀(i:Nat) (pins:List (dm×AA)) (s:ir) (σ:St) (H:Hp) (E:gV->ir->Prop),Inv X pins σ H s->(∀ b∈fp,gw X pins H b)->tn i s.heap->J.stop i H ->
  Ax (Ay P w) X.A (C9 (.ref it)) (fun r s1=>r=none/\Inv X pins σ H s1) E s
 self:∀(A:AR) (i:Nat) (s:ir) (Q:gV->ir->Prop) (E:gV->ir->Prop),tn i s.heap->Q (.ref it) s->Ax (Ay P w) A (pyIter (.ref it)) Q E s
abbrev TI:=St->Hp->(It->Hp->Prop)->Prop
def PIE(X:Cx)(pins:List (dm×AA))(σ:St)(tg:Av)(R:It->Hp->Prop)(yX:gV)(s2:ir):Prop :=
 ∃(it:dm) (fp:List dm) (tn:Nat->Az->Prop) (J:It) (H':Hp),yX=.ref it/\Inv X pins σ H' s2/\Turn X.prog X.w X.K tg J fp it tn/\tn 0 s2.heap/\(∀ b∈fp,gw X pins H' b)/\R J H'
def PI(X:Cx)(tg iter:Av)(wi:TI):Prop :=
 ∀(pins:List (dm×AA)) (s:ir) (σ:St) (H:Hp) (R:It->Hp->Prop),Inv X pins σ H s->wi σ H R ->
  Ax (Ay X.prog X.w) X.A (AB iter X.env) (fun v s1=>Ax (Ay X.prog X.w) X.A (pyIter v) (PIE X pins σ tg R) X.xe s1) X.xe s
theorem zbW{n:String}{Q:Unit->ir->Prop}(ho:s.heap.get? it=some o)(hc:o.cls=.type n)(hd:o.data=.fields vs)
    (hn:["enumerate","zip","dict_itemiterator","dict_reverseitemiterator","odict_iterator","itertools.zip_longest","itertools.pairwise"].contains n=false) (hQ:Q () s):Ax M A (Gq tg (.ref it) u) Q E s:=by
  unfold Gq
  cases tg <;> first
    | exact AH hQ
    | (cases u <;> first
        | exact AH hQ
        | (refine pd (wpAny_load ho ?_)
           rw [hc,hd]
           show Ax M A (if(["enumerate","zip","dict_itemiterator","dict_reverseitemiterator","odict_iterator","itertools.zip_longest","itertools.pairwise"].contains n&&vs[0]?==some (Ce _))=true then _ else _) Q E s
           rw [if_neg (by intro h;rw [hn,Hl] at h;cases h)]
           exact AH hQ))
noncomputable def xj(K:kb)(a:dm):It :=
 ⟨fun i H=>∃ xs x,bp K H a xs/\xs[i]?=some x,fun i H x H'=>H'=H/\∀ xs,bp K H a xs->xs[i]?=some x,fun i H=>∃ xs,bp K H a xs/\xs.length<=i⟩
noncomputable def Itt(K:kb)(a:dm):It :=
 ⟨fun i H=>∃ xs x,dN K H a xs/\xs[i]?=some x,fun i H x H'=>H'=H/\∀ xs,dN K H a xs->xs[i]?=some x,fun i H=>∃ xs,dN K H a xs/\xs.length<=i⟩
noncomputable def uI(lo:Int)(n:Nat):It:=⟨fun i _=>i<n,fun i H x H'=>H'=H/\x=.int (lo+i),fun i _=>n<=i⟩
theorem zi4{K:kb}(a it:dm):Turn P w K tg (xj K a) [it] it (fun i h=>h.IsListIter it a i) where
 mem:=by simp
 obj:=fun i h st b hb=>by
  have e:b=it:=by simpa using hb
  subst e
  obtain⟨o,e,c,d⟩:=st
  exact⟨o,e,fun v z=>by rw [d] at z;cases z⟩
 keep:=fun i h h' st k=>st.at fun o e=>k it (by simp) o e
 item:=by
  intro X hP hw hK hc i pins s σ H E I hf st hg
  subst hP hw hK
  obtain⟨xs,x,hq,hx⟩:=hg
  obtain⟨its,rv,p,hz⟩:=I.list hq
  obtain⟨u,hu,ru⟩:=rv.get hx
  obtain⟨f0,f1,f2,f3,f4,f5⟩:=hf it (by simp)
  refine wpAny_pyNext_list_item st p.isList (x:=u) (by simpa using hu) fun h' jy sb=>?_
  have I1:Inv X pins σ H { s with heap:=h' }:=I.turned (t':=s.toks) (fun b o hb e=>(sb.2 b hb).trans e) f0 f1 f3 f4 f5
  obtain⟨o,e,c,d⟩:=id jy
  exact⟨u,rfl,zbW (s:={ s with heap:=h' }) e c d (by decide) ⟨x,H,I1,ru,⟨rfl,fun ys hy=>by rw [I.vT hy hq];exact hx⟩,jy,fun b hb=>(hf b hb).1⟩⟩
 done:=by
  intro X hP hw hK hc i pins s σ H E I hf st hg
  subst hP hw hK
  obtain⟨xs,hq,hx⟩:=hg
  obtain⟨its,rv,p,hz⟩:=I.list hq
  obtain⟨f0,f1,f2,f3,f4,f5⟩:=hf it (by simp)
  have hl:=rv.length
  exact wpAny_pyNext_list_end (I.ok.hd hc) st p.isList (by simp;omega) fun h' eb=>⟨rfl,I.turned (t':=s.toks) (fun b o hb e=>eb b o hb e) f0 f1 f3 f4 f5⟩
 self:=fun _ _ _ _ _ st h=>wpAny_pyIter_listiter st h
theorem zu6{K:kb}(a it:dm):Turn P w K tg (Itt K a) [it] it (fun i h=>h.IsTupleIter it a i) where
 mem:=by simp
 obj:=fun i h st b hb=>by
  have e:b=it:=by simpa using hb
  subst e
  obtain⟨o,e,c,d⟩:=st
  exact⟨o,e,fun v z=>by rw [d] at z;cases z⟩
 keep:=fun i h h' st k=>st.at fun o e=>k it (by simp) o e
 item:=by
  intro X hP hw hK hc i pins s σ H E I hf st hg
  subst hP hw hK
  obtain⟨xs,x,hq,hx⟩:=hg
  obtain⟨its,rv,p,hz⟩:=I.tuple hq
  obtain⟨u,hu,ru⟩:=rv.get hx
  obtain⟨f0,f1,f2,f3,f4,f5⟩:=hf it (by simp)
  refine wpAny_pyNext_tuple_item st (show s.heap.IsTuple a its.toArray from p) (x:=u) (by simpa using hu) fun h' jy sb=>?_
  have I1:Inv X pins σ H { s with heap:=h' }:=I.turned (t':=s.toks) (fun b o hb e=>(sb.2 b hb).trans e) f0 f1 f3 f4 f5
  obtain⟨o,e,c,d⟩:=id jy
  exact⟨u,rfl,zbW (s:={ s with heap:=h' }) e c d (by decide) ⟨x,H,I1,ru,⟨rfl,fun ys hy=>by rw [I.zi3 hy hq];exact hx⟩,jy,fun b hb=>(hf b hb).1⟩⟩
 done:=by
  intro X hP hw hK hc i pins s σ H E I hf st hg
  subst hP hw hK
  obtain⟨xs,hq,hx⟩:=hg
  obtain⟨its,rv,p,hz⟩:=I.tuple hq
  obtain⟨f0,f1,f2,f3,f4,f5⟩:=hf it (by simp)
  have hl:=rv.length
  exact wpAny_pyNext_tuple_end (I.ok.hd hc) st (show s.heap.IsTuple a its.toArray from p) (by simp;omega) fun h' eb=>⟨rfl,I.turned (t':=s.toks) (fun b o hb e=>eb b o hb e) f0 f1 f3 f4 f5⟩
 self:=fun _ _ _ _ _ st h=>wpAny_pyIter_tupleiter st h
theorem zu5{K:kb}(it:dm)(lo:Int)(n:Nat):Turn P w K tg (uI lo n) [it] it (fun i h=>IsRangeIter h it (lo+(i:Nat)*1) ((n:Int)-(i:Nat)) 1) where
 mem:=by simp
 obj:=fun i h st b hb=>by
  have e:b=it:=by simpa using hb
  subst e
  exact⟨_,st,fun v z=>by
   have z':Data.fields _=Data.cell v:=z
   cases z'⟩
 keep:=fun i h h' st k=>k it (by simp) _ st
 item:=by
  intro X hP hw hK hc i pins s σ H E I hf st hg
  subst hP hw hK
  obtain⟨f0,f1,f2,f3,f4,f5⟩:=hf it (by simp)
  have W:=Walks.range (prog:=X.prog) (w:=X.w) (I.ok.hd hc) it lo 1 n
  refine W.item i s _ _ hg st fun v h' tk hv jy kk=>?_
  obtain⟨t,rfl⟩:=hv
  have I1:Inv X pins σ H { s with heap:=h',toks:=tk }:=I.turned (fun b o hb e=>kk b o (by simpa using hb) e) f0 f1 f3 f4 f5
  refine⟨_,rfl,zbW (s:={ s with heap:=h',toks:=tk }) (n:="range_iterator") jy rfl rfl (by decide) ⟨.int (lo+i),H,I1,⟨t,?_⟩,⟨rfl,rfl⟩,jy,fun b hb=>(hf b hb).1⟩⟩
  rw [Int.mul_one]
 done:=by
  intro X hP hw hK hc i pins s σ H E I hf st hg
  subst hP hw hK
  obtain⟨f0,f1,f2,f3,f4,f5⟩:=hf it (by simp)
  exact wpAny_pyNext_range_end (I.ok.hd hc) st (by have:n<=i:=hg;omega) fun h' eb=>⟨rfl,I.turned (t':=s.toks) (fun b o hb e=>eb b o hb e) f0 f1 f3 f4 f5⟩
 self:=fun _ _ _ _ _ st h=>wpAny_pyIter_rangeiter st h
end
variable {tk:Nat}{fp:List dm}{tc tl:TE}{iter l:Av}{p:AD}{wi:TI}
section
section
noncomputable def zgA(K:kb)(tl:TE):TI:=fun σ H R=>tl σ H fun x H1=>∃ a,x=.ref a/\(∃ xs,bp K H1 a xs)/\R (xj K a) H1
theorem zri(hl:PE X l tl):PI X tg l (zgA X.K tl):=by
 intro pins s σ H R I h
 refine aE (hl pins s σ H _ I h) fun v s1 ⟨x,H1,I1,r1,q1⟩=>?_
 obtain⟨a,e,⟨xs,hq⟩,q⟩:=q1
 subst e
 cases r1
 obtain⟨its,rv,p,hz⟩:=I1.list hq
 refine Gr p.isList ?_
 refine⟨s1.heap.objs.size,[s1.heap.objs.size],_,_,H1,rfl,I1.kept (t':=s1.toks) fun b o e=>A1 _ e,zi4 a _,⟨_,Bv _ rfl,rfl,rfl⟩,fun b hb=>?_,q⟩
 have e:b=s1.heap.objs.size:=by simpa using hb
 subst e
 exact I1.j8 (AO _) (I1.ax.fresh (AO _))
theorem ziw{R:It->Hp->Prop}{lo hi:Int}{t u v:BJ}(I:Inv X pins σ H s)(h1:-(2^62)<=lo)(h2:lo<2^62)(h3:-(2^62)<=hi)(h4:hi<2^62)
  (q:R (uI lo (hi-lo).toNat) H):Ax (Ay X.prog X.w) X.A (pyIter (.ref s.heap.objs.size)) (PIE X pins σ tg R) E { s with heap:=s.heap.push { cls:=.type "range",data:=.fields #[.int lo t,.int hi u,.int 1 v] },toks:=tk }:=by
 refine wpAny_pyIter_range (IsRange.new ..) (small_one h1 h2 h3 h4) ?_
 have I1:Inv X pins σ H { s with heap:=s.heap.push { cls:=.type "range",data:=.fields #[.int lo t,.int hi u,.int 1 v] },toks:=tk }:=I.kept fun b o e=>A1 _ e
 refine⟨(s.heap.push { cls:=.type "range",data:=.fields #[.int lo t,.int hi u,.int 1 v] }).objs.size,[(s.heap.push { cls:=.type "range",data:=.fields #[.int lo t,.int hi u,.int 1 v] }).objs.size],_,_,H,rfl,
  I1.kept (t':=tk) fun b o e=>A1 _ e,zu5 _ lo (hi-lo).toNat,?_,fun b hb=>?_,q⟩
 ·have e1:lo+((0:Nat):Int)*1=lo:=by simp
  have e2:(((hi-lo).toNat:Nat):Int)-((0:Nat):Int)=Builtin.Range.rangeSize lo hi 1:=by rw [rangeSize_one];split <;> omega
  show IsRangeIter _ _ (lo+((0:Nat):Int)*1) ((((hi-lo).toNat:Nat):Int)-((0:Nat):Int)) 1
  rw [e1,e2]
  exact Bv _ rfl
 ·have e:b=(s.heap.push { cls:=.type "range",data:=.fields #[.int lo t,.int hi u,.int 1 v] }).objs.size:=by simpa using hb
  subst e
  exact I1.j8 (AO _) (I1.ax.fresh (AO _))
noncomputable def znh(ta:TA):TI:=fun σ H R=>ta σ H fun vs H1=>∃ j:Int,vs=[.int j]/\-(2^62)<=j/\j<2^62/\R (uI 0 j.toNat) H1
noncomputable def zni(ta:TA):TI:=fun σ H R=>ta σ H fun vs H1=>∃ i j:Int,vs=[.int i,.int j]/\(-(2^62)<=i/\i<2^62/\-(2^62)<=j/\j<2^62)/\R (uI i (j-i).toNat) H1
theorem zrj(hg:Gl X "range") (hm:X.mg "range"=none) (ha:PA X [a] ta) (hs:Aw [a] X.env=[(false,AB a X.env)]:=by rfl):PI X tg (.Call (.Name "range" p) [a] [] pos) (znh ta):=by
 intro pins s σ H R I h
 refine Call_ (oB I hg hm boot_range (E8 (aE (ha pos pins s σ H _ I h) fun us s1 ⟨vs,H1,I1,r1,q1⟩=>?_) hs rfl))
 obtain⟨j,e,q1,q2,q⟩:=q1
 subst e
 cases r1 with
 | cons r rr =>
  cases rr
  obtain⟨t,rfl⟩:=r
  exact call_range_1 (ziw I1 (by omega) (by omega) q1 q2 (by simpa using q))
theorem zrk(hg:Gl X "range") (hm:X.mg "range"=none) (ha:PA X [a,b] ta) (hs:Aw [a,b] X.env=[(false,AB a X.env),(false,AB b X.env)]:=by rfl) (cK:Aw [b] X.env=[(false,AB b X.env)]:=by rfl) :
  PI X tg (.Call (.Name "range" p) [a,b] [] pos) (zni ta):=by
 intro pins s σ H R I h
 refine Call_ (oB I hg hm boot_range (E8 (aE (ha pos pins s σ H _ I h) fun us s1 ⟨vs,H1,I1,r1,q1⟩=>?_) (by rw [hs,cK]) (by rw [cK];rfl)))
 obtain⟨i,j,e,⟨q1,q2,q3,q4⟩,q⟩:=q1
 subst e
 cases r1 with
 | cons r rr =>
  cases rr with
  | cons r' rr =>
   cases rr
   obtain⟨t,rfl⟩:=r
   obtain⟨t',rfl⟩:=r'
   exact call_range_2 (ziw I1 q1 q2 q3 q4 q)
noncomputable def zuB(wi:TI)(g:TG)(tb:TS):TS:=fun D σ H=>wi σ H fun J H1=>∃ W:Nat->Nat->St->Hp->Prop,(∃ m,W 0 m σ H1)/\∀ i m σ H,W i m σ H ->
 (J.stop i H/\D.nx σ H)\/(J.go i H/\∃ N:St->Hp->Prop,(∀ σ' H',N σ' H'->∃ m',m'<m/\W (i+1) m' σ' H')/\∀ x H',J.Ao i H x H'->g x σ H' fun σ2 H2=>tb { D with nx:=N,ct:=N,bk:=D.nx } σ2 H2)
noncomputable def tP(fp:List dm)(h:Az):List (dm×AA):=fp.filterMap fun b=>(h.get? b).map fun o=>(b,o)
theorem sW{b:dm}(hb:b∈fp)(e:h.get? b=some o):(b,o)∈tP fp h:=Hm.mpr ⟨b,hb,by rw [e];rfl⟩
theorem zqm{p:dm×AA}(hp:p∈tP fp h):p.1∈fp/\h.get? p.1=some p.2:=by
 obtain⟨b,hb,e⟩:=Hm.mp hp
 cases q:h.get? b with
 | none=>rw [q] at e;cases e
 | some o =>
  rw [q] at e
  have e':(b,o)=p:=BC e
  subst e'
  exact⟨hb,q⟩
theorem Inv.pinned(I:Inv X pins σ H s)(hf:∀ b∈fp,gw X pins H b)(ho:∀ b∈fp,∃ o,s.heap.get? b=some o/\∀ v,o.data≠.cell v):Inv X (pins++tP fp s.heap) σ H s :=
 I.zh4 fun p hp=>(DF.mp hp).elim (fun z=>I.pin p (Cp _ z)) fun z=>by
  obtain⟨hb,e⟩:=zqm z
  obtain⟨f0,f1,f2,_⟩:=hf p.1 hb
  obtain⟨o,e',d⟩:=ho p.1 hb
  rw [e] at e';cases e'
  exact⟨e,f0,f1,f2,d⟩
theorem Inv.wR{pl:List (dm×AA)}(I:Inv X (pins++pl) σ H s):Inv X pins σ H s:=I.zh4 fun p hp=>I.pin p (Cp _ (El _ hp))
theorem zib{tb:TS}(hp:Es (Ay X.prog X.w) X.A X.env X.xe)(hc:X.calm=true)(hi:PI X tg iter wi)(hg:PG X tg g)(hb:bW X body tb)
  (hs:∀ x,CA iter X.env x=pure x:=by intro _;rfl):PS X (.For tg iter body [] pos) (zuB wi g tb):=by
 intro pins s σ H D I h
 refine wpAny_For (aE (hi pins s σ H _ I h) fun v s1 h1=>aE h1 fun yX s2 h2=>?_) hs
 obtain⟨it,fp,tn,J,H2,e,I2,T,bY,f2,W,⟨m0,w0⟩,turn⟩:=h2
 subst e
 have stat:∀{H':Hp},(∀ b∈fp,H' b=none)->∀ b∈fp,gw X pins H' b:=fun hn b hb=>⟨hn b hb,(f2 b hb).2⟩
 refine codeAny_forLoop_any (fun n s'=>∃ i σ' H',Inv X pins σ' H' s'/\tn i s'.heap/\(∀ b∈fp,H' b=none)/\W i n σ' H') ?_ m0 ⟨0,σ,H2,I2,bY,fun b hb=>(f2 b hb).1,w0⟩
 rintro n s3 ⟨i,σ3,H3,I3,lH,fr3,w3⟩
 rcases turn i n σ3 H3 w3 with⟨stop,qn⟩|⟨go,N,hN,step⟩
 ·refine Et hp (aE (T.done X rfl rfl rfl hc i pins s3 σ3 H3 X.xe I3 (stat fr3) lH stop) fun r s4 ⟨hr,I4⟩=>?_)
  subst hr
  exact E4 ⟨σ3,H3,I4,qn⟩
 ·refine Et hp (aE (T.item X rfl rfl rfl hc i pins s3 σ3 H3 X.xe I3 (stat fr3) lH go) fun r s4 ⟨u,hr,h4⟩=>?_)
  subst hr
  refine Et hp (aE h4 fun _ s5 ⟨x,H5,I5,r5,y5,gX,fr5⟩=>?_)
  have I5':=I5.pinned (stat fr5) (T.obj _ _ gX)
  refine Et hp (aE (hg _ s5 σ3 H5 x u _ I5' r5 (step x H5 y5)) fun _ s6 ⟨σ6,H6,I6,q6⟩=>?_)
  refine Et hp (aE (hb _ s6 σ6 H6 _ I6 q6) fun f s7 q7=>?_)
  have again:∀{σ7:St} {H7:Hp},Inv X (pins++tP fp s5.heap) σ7 H7 s7->N σ7 H7->∃ m,m<n/\∃ i σ' H',Inv X pins σ' H' s7/\tn i s7.heap/\(∀ b∈fp,H' b=none)/\W i m σ' H':=fun{σ7 H7} I7 n7=>by
   obtain⟨m',hm,w7⟩:=hN σ7 H7 n7
   refine⟨m',hm,i+1,σ7,H7,I7.wR,T.keep _ _ _ gX fun b hb o e=>(I7.pin (b,o) (Cp _ (Cp _ (sW hb e)))).1,fun b hb=>?_,w7⟩
   obtain⟨o,e,d⟩:=T.obj _ _ gX b hb
   exact(I7.pin (b,o) (Cp _ (Cp _ (sW hb e)))).2.1
  cases f with
  | next=>obtain⟨σ7,H7,I7,n7⟩:=q7;exact again I7 n7
  | cont=>obtain⟨σ7,H7,I7,n7⟩:=q7;exact again I7 n7
  | brk=>obtain⟨σ7,H7,I7,q7⟩:=q7;exact⟨σ7,H7,I7.wR,q7⟩
  | ret v=>obtain⟨x7,σ7,H7,I7,r7,q7⟩:=q7;exact⟨x7,σ7,H7,I7.wR,r7,q7⟩
end
end
variable {ta:TE}{r r':R2}{iK op:CB}{g:Int->Int->Int}{f:gV->gV->Sem gV}{its:List gV}{κ:Type}{C:Int->Int->Prop}
section
abbrev R2:=V->V->Hp->VK->Prop
def aV(X:Cx)(f:gV->gV->Sem gV)(r:R2):Prop :=
 ∀(pins:List (dm×AA)) (s:ir) (σ:St) (H:Hp) (x y:V) (v u:gV) (Q:VK),Inv X pins σ H s->RelV x v->RelV y u->r x y H Q ->
  Ax (Ay X.prog X.w) X.A (f v u) (EP X pins σ Q) X.xe s
def uO(X:Cx)(f:gV->Sem gV)(r:V->Hp->VK->Prop):Prop :=
 ∀(pins:List (dm×AA)) (s:ir) (σ:St) (H:Hp) (x:V) (v:gV) (Q:VK),Inv X pins σ H s->RelV x v->r x H Q ->
  Ax (Ay X.prog X.w) X.A (f v) (EP X pins σ Q) X.xe s
def iu(X:Cx)(f:gV)(r:List V->Hp->VK->Prop):Prop :=
 ∀(pins:List (dm×AA)) (s:ir) (σ:St) (H:Hp) (xs:List V) (us:List gV) (Q:VK),Inv X pins σ H s->Vals xs us->r xs H Q ->
  Ax (Ay X.prog X.w) X.A (call f us) (EP X pins σ Q) X.xe s
def zaq(X:Cx)(r:V->Hp->(Bool->Hp->Prop)->Prop):Prop :=
 ∀(pins:List (dm×AA)) (s:ir) (σ:St) (H:Hp) (x:V) (v:gV) (Q:Bool->Hp->Prop),Inv X pins σ H s->RelV x v->r x H Q ->
  Ax (Ay X.prog X.w) X.A (truthy v) (TP X pins σ Q) X.xe s
noncomputable def rF(r:R2)(ta tb:TE):TE:=fun σ H Q=>ta σ H fun x H1=>tb σ H1 fun y H2=>r x y H2 Q
noncomputable def tUn(r:V->Hp->VK->Prop)(ta:TE):TE:=fun σ H Q=>ta σ H fun x H1=>r x H1 Q
noncomputable def rI(C:Int->Int->Prop)(g:Int->Int->V):R2:=fun x y H Q=>∃ i j,x=.int i/\y=.int j/\C i j/\Q (g i j) H
noncomputable def lB(g:Int->Int->V):R2:=fun x y H Q=>∃ i j,x=.int i/\y=.int j/\Q (g i j) H
noncomputable def rU(g:Int->V):V->Hp->VK->Prop:=fun x H Q=>∃ i,x=.int i/\Q (g i) H
section
variable {tb:TE}
theorem zaA(ha:PE X a ta)(hb:PE X b tb){R:V->V->Hp->Prop}(I:Inv X pins σ H s)
  (h:ta σ H fun x H1=>tb σ H1 fun y H2=>R x y H2)
  (hf:∀ v u s2 x y H2,Inv X pins σ H2 s2->RelV x v->RelV y u->R x y H2->Ax (Ay X.prog X.w) X.A (f v u) Q X.xe s2) :
  Ax (Ay X.prog X.w) X.A (AB a X.env) (fun v s₁=>Ax (Ay X.prog X.w) X.A (AB b X.env) (fun u s₂=>Ax (Ay X.prog X.w) X.A (f v u) Q X.xe s₂) X.xe s₁) X.xe s:=by
 refine aE (ha pins s σ H _ I h) fun v s1 ⟨x,H1,I1,r1,q1⟩=>?_
 refine aE (hb pins s1 σ H1 _ I1 q1) fun u s2 ⟨y,H2,I2,r2,q2⟩=>?_
 exact hf v u s2 x y H2 I2 r1 r2 q2
theorem zhY{op:Operator}(ho:aV X (Cg op) r)(ha:PE X a ta)(hb:PE X b tb):PE X (.BinOp a op b pos) (rF r ta tb):=by
 intro pins s σ H Q I h
 exact wpAny_BinOp (zaA ha hb I h fun v u s2 x y H2 I2 rx ry q=>ho pins s2 σ H2 x y v u Q I2 rx ry q)
theorem zq8{op:UnaryOp}{r:V->Hp->VK->Prop}(ho:uO X (unaryOp op) r)(ha:PE X a ta):PE X (.UnaryOp op a pos) (tUn r ta):=by
 intro pins s σ H Q I h
 exact UnaryOp_ (aE (ha pins s σ H _ I h) fun v s1 ⟨x,H1,I1,r1,q1⟩=>ho pins s1 σ H1 x v Q I1 r1 q1)
theorem opI
  (rule:∀(i j:Int) (t u:BJ) (s:ir) (Q:gV->ir->Prop) (E:gV->ir->Prop),C i j->Q (.int (g i j) s.toks) { s with toks:=s.toks+1 }->Ax (Ay X.prog X.w) X.A (f (.int i t) (.int j u)) Q E s) :
  aV X f (rI C fun i j=>.int (g i j)):=by
 intro pins s σ H x y v u Q I rx ry h
 obtain⟨i,j,rfl,rfl,hc,q⟩:=h
 obtain⟨t,rfl⟩:=rx
 obtain⟨t',rfl⟩:=ry
 exact rule i j t t' s _ _ hc ⟨.int (g i j),H,I.tok _,⟨_,rfl⟩,q⟩
theorem zhP
  (rule:∀(i j:Int) (t u:BJ) (s:ir) (Q:gV->ir->Prop) (E:gV->ir->Prop),Q (.int (g i j) s.toks) { s with toks:=s.toks+1 }->Ax (Ay X.prog X.w) X.A (f (.int i t) (.int j u)) Q E s) :
  aV X f (lB fun i j=>.int (g i j)):=by
 intro pins s σ H x y v u Q I rx ry h
 obtain⟨i,j,rfl,rfl,q⟩:=h
 obtain⟨t,rfl⟩:=rx
 obtain⟨t',rfl⟩:=ry
 exact rule i j t t' s _ _ ⟨.int (g i j),H,I.tok _,⟨_,rfl⟩,q⟩
theorem zy{g:Int->Int->Bool}
  (rule:∀(i j:Int) (t u:BJ) (s:ir) (Q:gV->ir->Prop) (E:gV->ir->Prop),Q (.bool (g i j)) s->Ax (Ay X.prog X.w) X.A (f (.int i t) (.int j u)) Q E s) :
  aV X f (lB fun i j=>.bl (g i j)):=by
 intro pins s σ H x y v u Q I rx ry h
 obtain⟨i,j,rfl,rfl,q⟩:=h
 obtain⟨t,rfl⟩:=rx
 obtain⟨t',rfl⟩:=ry
 exact rule i j t t' s _ _ ⟨.bl (g i j),H,I,rfl,q⟩
def zdT(i j:Int):Prop:=0<=j/\j<=1000000/\i.natAbs<2^64
theorem zqp:aV X (Cg .Add) (lB fun i j=>.int (i+j)):=zhP fun _ _ _ _ _ _ _ q=>add_int q
theorem zqD:aV X (Cg .Sub) (lB fun i j=>.int (i-j)):=zhP fun _ _ _ _ _ _ _ q=>sub_int q
theorem zqy:aV X (Cg .Mod) (rI (fun _ j=>j≠0) fun i j=>.int (i.fmod j)):=opI fun _ _ _ _ _ _ _ hc q=>mod_int' hc q
theorem zqB:aV X (Cg .Pow) (rI zdT fun i j=>.int (i^j.toNat)):=opI fun _ _ _ _ _ _ _ hc q=>pow_int_small hc.1 hc.2.1 hc.2.2 q
theorem unI{f:gV->Sem gV}{g:Int->Int}
  (rule:∀(i:Int) (t:BJ) (s:ir) (Q:gV->ir->Prop) (E:gV->ir->Prop),Q (.int (g i) s.toks) { s with toks:=s.toks+1 }->Ax (Ay X.prog X.w) X.A (f (.int i t)) Q E s) :
  uO X f (rU fun i=>.int (g i)):=by
 intro pins s σ H x v Q I rx h
 obtain⟨i,rfl,q⟩:=h
 obtain⟨t,rfl⟩:=rx
 exact rule i t s _ _ ⟨.int (g i),H,I.tok _,⟨_,rfl⟩,q⟩
theorem zu9:uO X (unaryOp .USub) (rU fun i=>.int (-i)):=unI fun _ _ _ _ _ q=>neg_int q
end
section
variable {tb:TE}
theorem zqx:aV X (A3 .Lt) (lB fun i j=>.bl (decide (i<j))):=zy fun _ _ _ _ _ _ _ q=>lt_int q
theorem zqw:aV X (A3 .LtE) (lB fun i j=>.bl (decide (i<=j))):=zy fun _ _ _ _ _ _ _ q=>le_int q
theorem zqu:aV X (A3 .Gt) (lB fun i j=>.bl (decide (j<i))):=zy fun _ _ _ _ _ _ _ q=>gt_int q
theorem zqt:aV X (A3 .GtE) (lB fun i j=>.bl (decide (j<=i))):=zy fun _ _ _ _ _ _ _ q=>ge_int q
theorem zq(b:Av)(h:op≠.In:=by decide)(h2:op≠.NotIn:=by decide):CP op b=false:=by
 have e1:(op==CmpOp.In)=false:=by cases op <;> first|rfl|exact absurd rfl h
 have e2:(op==CmpOp.NotIn)=false:=by cases op <;> first|rfl|exact absurd rfl h2
 cases b <;> simp [CP,e1,e2]
theorem zqT(ho:aV X (A3 op) r)(ha:PE X a ta)(hb:PE X b tb)(hm:CP op b=false):PE X (.Compare a [op] [b] pos) (rF r ta tb):=by
 intro pins s σ H Q I h
 exact wpAny_Compare1 (zaA ha hb I h fun v u s2 x y H2 I2 rx ry q=>ho pins s2 σ H2 x y v u Q I2 rx ry q) hm
noncomputable def ziV(t:TE):TT:=fun σ H Q=>t σ H fun x H'=>∃ k,x=.bl k/\Q k H'
theorem zdm(ho:aV X (A3 op) r)(ha:PE X a ta)(hb:PE X b tb)(hm:CP op b=false):PT X (.Compare a [op] [b] pos) (ziV (rF r ta tb)):=by
 intro pins s σ H Q I h
 refine wpAny_isTrue_Compare1 (aE (ha pins s σ H _ I h) fun v s1 ⟨x,H1,I1,r1,q1⟩=>aE (hb pins s1 σ H1 _ I1 q1) fun u s2 ⟨y,H2,I2,r2,q2⟩ =>
  aE (ho pins s2 σ H2 x y v u _ I2 r1 r2 q2) fun c s3 ⟨z,H3,I3,r3,k,e,q3⟩=>?_) hm
 subst e
 cases r3
 exact Eo ⟨H3,I3,q3⟩
noncomputable def zdK(r r':R2)(ta tb tc:TE):TE:=fun σ H Q=>ta σ H fun x H1=>tb σ H1 fun y H2=>r x y H2 fun z H3=>∃ k,z=.bl k /\
 (if k=true then tc σ H3 fun w' H4=>r' y w' H4 Q else Q (.bl false) H3)
theorem zqS(ho:aV X (A3 op) r)(fj:aV X (A3 iK) r')(ha:PE X a ta)(hb:PE X b tb)(hc:PE X c tc)
  (hm:lastMarks [op,iK] [b,c]=false:=by with_unfolding_all rfl):PE X (.Compare a [op,iK] [b,c] pos) (zdK r r' ta tb tc):=by
 intro pins s σ H Q I h
 refine Compare_chain (aE (ha pins s σ H _ I h) fun v s1 ⟨x,H1,I1,r1,q1⟩=>chain_link (aE (hb pins s1 σ H1 _ I1 q1) fun u s2 ⟨y,H2,I2,r2,q2⟩ =>
  aE (ho pins s2 σ H2 x y v u _ I2 r1 r2 q2) fun d s3 ⟨z,H3,I3,r3,k,e,q3⟩=>?_)) hm
 subst e
 cases r3
 refine Eo ?_
 cases k with
 | false=>exact ite_ff ⟨.bl false,H3,I3,rfl,q3⟩
 | true=>exact ite_tt (chain_last (aE (hc pins s3 σ H3 _ I3 q3) fun w' s4 ⟨z',H4,I4,r4,q4⟩=>fj pins s4 σ H4 y z' u w' Q I4 r2 r4 q4))
theorem zr0(ho:aV X (A3 op) r)(fj:aV X (A3 iK) r')(ha:PE X a ta)(hb:PE X b tb)(hc:PE X c tc)
  (hm:lastMarks [op,iK] [b,c]=false:=by with_unfolding_all rfl):PT X (.Compare a [op,iK] [b,c] pos) (ziV (zdK r r' ta tb tc)):=by
 intro pins s σ H Q I h
 refine isTrue_chain (aE (ha pins s σ H _ I h) fun v s1 ⟨x,H1,I1,r1,q1⟩=>test_link (aE (hb pins s1 σ H1 _ I1 q1) fun u s2 ⟨y,H2,I2,r2,q2⟩ =>
  aE (ho pins s2 σ H2 x y v u _ I2 r1 r2 q2) fun d s3 ⟨z,H3,I3,r3,k,e,q3⟩=>?_)) hm
 subst e
 cases r3
 refine Eo ?_
 cases k with
 | false =>
  obtain⟨k',e',q'⟩:=q3
  cases e'
  exact ite_ff ⟨H3,I3,q'⟩
 | true =>
  refine ite_tt (test_last (aE (hc pins s3 σ H3 _ I3 q3) fun w' s4 ⟨z',H4,I4,r4,q4⟩=>aE (fj pins s4 σ H4 y z' u w' _ I4 r2 r4 q4) fun d' s5 ⟨z2,H5,I5,r5,k2,e2,q5⟩=>?_))
  subst e2
  cases r5
  exact Eo ⟨H5,I5,q5⟩
def zj4(K:kb)(x:V)(H:Hp)(k:Bool):Prop :=
 match x with
 | .non=>k=false
 | .bl b=>k=b
 | .int i=>k=(i != 0)
 | .str y=>y.length<=AU/\k=((y.length:Int) != 0)
 | .byt y=>y.size<=AU/\k=((y.size:Int) != 0)
 | .ref p=>(∃ xs,bp K H p xs/\k=!xs.isEmpty)\/(∃ xs,dN K H p xs/\k=!xs.isEmpty)\/∃ aj,H p=some (.dK aj)/\k=!aj.isEmpty
 | _=>False
theorem znu{aj:List (κ×V)}{vs:List (κ×gV)}(r:KV aj vs):(!vs.isEmpty)=!aj.isEmpty:=by
 cases r <;> rfl
theorem zgH(r:Vals xs its):(!its.toArray.isEmpty)=!xs.isEmpty:=by
 cases r <;> simp
theorem vS:(AU:Nat)<2^63:=by rw [BR];decide
theorem zuZ:zaq X (fun x H Q=>∃ k,zj4 X.K x H k/\Q k H):=by
 intro pins s σ H x v Q I rx h
 obtain⟨k,e,q⟩:=h
 have hl:=vS
 have hs:AU=16777216:=BR
 cases x with
 | non =>
  cases rx
  have e':k=false:=e
  subst e'
  exact truthy_none ⟨H,I,q⟩
 | bl b =>
  cases rx
  have e':k=b:=e
  subst e'
  exact Eo ⟨H,I,q⟩
 | int i =>
  obtain⟨t,rfl⟩:=rx
  have e':k=(i != 0):=e
  subst e'
  exact PySem.P.truthy_int ⟨H,I,q⟩
 | str y =>
  obtain⟨t,rfl⟩:=rx
  obtain⟨hy,e'⟩:y.length<=AU/\k=((y.length:Int) != 0):=e
  subst e'
  exact PySem.P.truthy_str (by omega) ⟨H,I.tok _,q⟩
 | byt y =>
  obtain⟨t,rfl⟩:=rx
  obtain⟨hy,e'⟩:y.size<=AU/\k=((y.size:Int) != 0):=e
  subst e'
  exact PySem.W.truthy_bytes (by omega) ⟨H,I.tok _,q⟩
 | ref p =>
  cases rx
  have e':(∃ xs,bp X.K H p xs/\k=!xs.isEmpty)\/(∃ xs,dN X.K H p xs/\k=!xs.isEmpty)\/∃ aj,H p=some (.dK aj)/\k=!aj.isEmpty:=e
  rcases e' with⟨xs,hx,e'⟩|⟨xs,hx,e'⟩|⟨aj,hx,e'⟩
  ·subst e'
   obtain⟨its,r,pl,hz⟩:=I.list hx
   have hlen:=r.length
   exact wpAny_truthy_list pl.isList (by simp only [Bk];omega) ⟨H,I.tok _,by rw [zgH r];exact q⟩
  ·subst e'
   obtain⟨its,r,pl,hz⟩:=I.tuple hx
   have hlen:=r.length
   exact truthy_tuple pl (by simp only [Bk];omega) ⟨H,I.tok _,by rw [zgH r];exact q⟩
  ·subst e'
   obtain⟨hz,hS,vs,r,m⟩:aj.length<=AU/\(p==DC)=false/\∃ vs,KV aj vs/\s.heap.DictOf (kx X.prog X.w) p vs:=I.ax p _ hx
   have hlen:aj.length=vs.length:=Gn r
   exact wpAny_truthy_dict hS m (by omega) ⟨H,I.tok _,by rw [znu r];exact q⟩
 | _=>exact(show False from e).elim
theorem vals1{x:V}(r:Vals [x] us):∃ u,us=[u]/\RelV x u:=by
 cases r with
 | cons r1 r2=>cases r2;exact⟨_,rfl,r1⟩
theorem vals2{x:V}(r:Vals [x,y] us):∃ u w',us=[u,w']/\RelV x u/\RelV y w':=by
 cases r with
 | cons r1 r2 =>
  cases r2 with
  | cons r3 r4=>cases r4;exact⟨_,_,rfl,r1,r3⟩
theorem zkK:iu X (.builtin "abs") (fun xs H Q=>∃ i,xs=[.int i]/\Q (.int (if i<0 then -i else i)) H):=by
 intro pins s σ H xs us Q I r h
 obtain⟨i,rfl,q⟩:=h
 obtain⟨u,rfl,t,rfl⟩:=vals1 r
 exact call_abs_int fun u tk=>⟨.int (if i<0 then -i else i),H,I.tok _,⟨_,rfl⟩,q⟩
end
end
variable {mA:ib->Option gV}{kw:List (ib×gV)}{f m name:ib}{o:Option gV}{ns:List ib}{b expr:Bool}{vs:List gV}{prog:AK}{C a dx g:dm}{env:AY}{r:List V->Hp->VK->Prop}
section
structure pX(h:Az)(x dx C:dm)(mA:ib->Option gV):Prop where
 obj:h.get? x=some (D2 C dx)
 ns:h.Ns1 dx mA
 ne:dx≠x
theorem zhb(n:h.Ns1 dx mA):∃ od,h.get? dx=some od/\∀ name,FK name od=some (mA name):=by
 obtain⟨o,es,ep,ho,hd,hk,_,hm⟩:=n
 refine⟨o,ho,fun name=>?_⟩
 have e:=hm name
 unfold nsFind findBy at e
 rw [<- IK] at e
 unfold FK
 rw [hd]
 dsimp only
 split
 ·rename_i y q
  rw [q] at e
  exact congrArg some e
 ·rename_i q
  rw [q] at e
  have a:es.toList.any (·.refKey)=false:=by
   rw [List.any_eq_false]
   intro y hy
   obtain⟨z,t,zm8⟩:=hk y (Array.mem_toList_iff.mp hy)
   simp [DictEntry.refKey,zm8]
  have a':¬ es.toList.any (·.refKey)=true:=by rw [a];exact BU
  rw [if_neg a']
  exact congrArg some e
theorem pX.look{x:dm}(I:pX h x dx C mA):∃ od,Dp h x (D2 C dx) C (some od)/\∀ name,FK name od=some (mA name) :=
 let⟨od,ho,hl⟩:=zhb I.ns
 ⟨od,⟨I.obj,rfl,rfl,ho⟩,hl⟩
section
variable {K:kb}{x f:dm}{v:gV}
theorem get_map(X:K.In s.heap)(I:pX s.heap x dx C mA)(hg:FN K C name=true)(hh:E9 K C=true)
  (ha:Bz K (.ref C) name=some none)(hv:mA name=some v)(hv':Hn v=true)(h:Q v { s with toks:=s.toks+1 }) :
  Ax (Ay prog w) A (Fb (.ref x) name expr) Q E s:=by
 obtain⟨od,J,hl⟩:=I.look
 exact PySem.W.get_value X J (Ho hg).1 (IL hh ha rfl (by rw [hl,hv])) hv' h
theorem zmO{pl:Sem Bool}{Q:gV×List gV->ir->Prop}(X:K.In s.heap)(I:pX s.heap x dx C mA)(hg:FN K C name=true)
  (hf:Bz K (.ref C) name=some (some (.ref f)))(ht:DI K (.ref f)=true)(hv:mA name=none)(h:Q (.ref f,[.ref x]) s) :
  Ax (Ay prog w) A (Fc (.ref x) name pl) Q E s:=by
 obtain⟨od,J,hl⟩:=I.look
 exact PySem.W.method_fn X J (Ho hg).1 (Ho hg).2 hf (beq_iff_eq.mp ht) (by show(FK name od).map (·.isSome)=some false;rw [hl,hv];rfl) h
theorem zud{Q:Unit->ir->Prop}(X:K.In s.heap)(I:pX s.heap x dx C mA)
  (hs:Bz K (.ref C) "__setattr__"=some (some (.builtin "object.__setattr__"))) (hp:Hr K C=true) (ht:Ht K C name=some none) (hh:E9 K C=true)
  (hw:Hf mA ns) (hsz:ns.length<=AU)
  (h:∀ h',pX h' x dx C (fun y=>if y=name then some v else mA y)->Em dx s.heap h'->Q () { s with heap:=h',toks:=s.toks+2 }) :
  Ax (Ay prog w) A (setAttr (.ref x) name v) Q E s:=by
 obtain⟨od,J,hl⟩:=I.look
 refine IM X J hs (PySem.W.osa_open (s:={ s with toks:=s.toks+1 }) (r:=none) X J hp ht fun b=>?_)
 obtain⟨cd,hc,iG⟩:=Hu hh
 have hx:s.heap.get? x=some ⟨.ref C,some dx,.plain,#[]⟩:=I.obj
 refine pd (AH (pd (pd (FO hx (pd (IP (s:={ s with toks:=s.toks+1 }) (Hv X hc) ?_))))))
 rw [iG]
 refine AH (a:=some dx) (pd (AH (pd ?_)))
 refine wpAny_nsSet1 (s:={ s with toks:=s.toks+1 }) I.ns fun h' hn2 cK=>?_
 obtain⟨oD,esD,epD,hoD,hdD,hcD⟩:=hn2.count (PySem.Within.cons name v hw)
 refine pd (wpAny_lookBehind hoD (by rw [hdD];exact pastItsLine_dict (By hcD (by rw [A0];omega))) ?_)
 exact AH (h _ ⟨(cK.2 _ (BK I.ne)).trans I.obj,hn2,I.ne⟩ cK)
theorem zpA{R:Result->ir->Prop}(X:K.In s.heap)(hm:Hw K C=true)
  (hi:Bz K (.ref C) "__init__"=some (some (.ref f))) (hf:Fd K (.ref f)=some (.type "function"))
  (h:Dc (Ay prog w) (A.under (.builtin "type.__call__" ⟨.ref C::vs,kw⟩)) (.call (.ref f) ⟨.ref (s.heap.objs.size+1)::vs,kw⟩) (PySem.W.InitBack (s.heap.objs.size+1) R)
   { s with heap:=(s.heap.push DJ).push (D2 C s.heap.objs.size) }) :
  Dc (Ay prog w) A (.call (.ref C) ⟨vs,kw⟩) R s:=by
 obtain⟨hh,g,d,t,os⟩:=s
 exact PySem.W.make_core (PySem.W.makes_of X hm) (Eu X hi) (fun self=>PySem.W.bind_fn X self hf) (.inl rfl) h
end
noncomputable def gF(f:ib)(v:V):List (ib×V)->List (ib×V)
 | []=>[(f,v)]
 | (g,x)::r=>if g=f then(g,v)::r else(g,x)::gF f v r
theorem zhi(f g:ib)(v:V):∀ fs:List (ib×V),(gF f v fs).lookup g=if g=f then some v else fs.lookup g
 | []=>by
  show DK g [(f,v)]=_
  by_cases h:g=f
  ·have hb:(g==f)=true:=beq_iff_eq.mpr h
   simp only [DK,hb,if_pos h]
  ·have hb:(g==f)=false:=beq_eq_false_iff_ne.mpr h
   simp only [DK,hb,if_neg h]
 | (k,x)::r=>by
  have ih:=zhi f g v r
  rw [show gF f v ((k,x)::r)=(if k=f then(k,v)::r else(k,x)::gF f v r) from rfl]
  by_cases hk:k=f
  ·rw [if_pos hk]
   by_cases h:g=k
   ·have hb:(g==k)=true:=beq_iff_eq.mpr h
    simp only [DK,hb,if_pos (h.trans hk)]
   ·have hb:(g==k)=false:=beq_eq_false_iff_ne.mpr h
    simp only [DK,hb,if_neg (fun e:g=f=>h (e.trans hk.symm))]
  ·rw [if_neg hk]
   by_cases h:g=k
   ·have hb:(g==k)=true:=beq_iff_eq.mpr h
    simp only [DK,hb,if_neg (fun e:g=f=>hk (h.symm.trans e))]
   ·have hb:(g==k)=false:=beq_eq_false_iff_ne.mpr h
    simp only [DK,hb]
    exact ih
theorem zcI(f:ib)(v:V):∀ fs:List (ib×V),f∈(gF f v fs).map (·.1)/\∀ g,g∈fs.map (·.1)->g∈(gF f v fs).map (·.1)
 | []=>⟨by simp [gF],fun g h=>by simp at h⟩
 | (k,x)::r=>by
  obtain⟨i1,i2⟩:=zcI f v r
  rw [show gF f v ((k,x)::r)=(if k=f then(k,v)::r else(k,x)::gF f v r) from rfl]
  by_cases hk:k=f
  ·rw [if_pos hk]
   subst hk
   exact⟨by simp,fun g h=>by simpa using h⟩
  ·rw [if_neg hk]
   refine⟨?_,fun g h=>?_⟩
   ·rw [A2]
    exact Bp _ i1
   ·rw [A2] at h ⊢
    rcases A6.mp h with e|e
    ·exact A6.mpr (.inl e)
    ·exact Bp _ (i2 g e)
theorem zg5(f:ib)(v:V):∀ fs:List (ib×V),(gF f v fs).length<=fs.length+1
 | []=>by simp [gF]
 | (k,x)::r=>by
  have ih:=zg5 f v r
  rw [show gF f v ((k,x)::r)=(if k=f then(k,v)::r else(k,x)::gF f v r) from rfl]
  by_cases hk:k=f
  ·rw [if_pos hk,A0,A0];omega
  ·rw [if_neg hk,A0,A0];omega
theorem gK.some_of(r:gK (some v) o):∃ u,o=some u/\RelV v u:=by
 cases o with
 | none=>exact(show False from r).elim
 | some u=>exact⟨u,rfl,r⟩
theorem gK.none_of(r:gK none o):o=none:=by
 cases o with
 | none=>rfl
 | some u=>exact(show False from r).elim
theorem zgu(r:RelV v u):Hn u=true:=by
 cases v with
 | non=>cases (show u=Br from r);rfl
 | bl b=>cases (show u=C6 b from r);rfl
 | int i=>obtain⟨t,e⟩:=(show ∃ t,u=D1 i t from r);cases e;rfl
 | str x=>obtain⟨t,e⟩:=(show ∃ t,u=EX x t from r);cases e;rfl
 | byt b=>obtain⟨t,e⟩:=(show ∃ t,u=Value.bytes b t from r);cases e;rfl
 | flt b=>obtain⟨t,e⟩:=(show ∃ t,u=Value.float b t from r);cases e;rfl
 | ref a=>cases (show u=A8 a from r);rfl
 | ty n=>cases (show u=EY n from r);rfl
section
variable {fs fg:List (ib×V)}
theorem zcB(ax:cB P w H h)(e:H a=some (.ins C dx fs)):∃ mA,pX h a dx C mA/\(∀ f,gK (fs.lookup f) (mA f))/\Hf mA (fs.map (·.1))/\fs.length<=1000/\H dx=some (.own a):=by
 obtain⟨d,z,ne,ob,mA,n,r,q⟩:=(show cE P w H h a (.ins C dx fs) from ax a _ e)
 exact⟨mA,⟨ob,n,ne⟩,r,q,z,d⟩
end
structure gv(K:kb)(C:dm):Prop where
 pg:FN K C Str.empty=true
 hd:E9 K C=true
 po:Hr K C=true
 sa:Bz K (.ref C) "__setattr__"=some (some (.builtin "object.__setattr__"))
theorem gv.get{K:kb}(c:gv K C)(f:ib):FN K C f=true:=c.pg
def eZ(K:kb)(C:dm)(f:ib):Prop:=Bz K (.ref C) f=some none
theorem eZ.zuU{K:kb}(n:eZ K C f):Ht K C f=some none:=by
 unfold Ht
 rw [show Bz K (.ref C) f=some none from n]
 rfl
structure Meth(K:kb)(C:dm)(m:ib)(f:dm):Prop where
 at_:Bz K (.ref C) m=some (some (.ref f))
 fn:DI K (.ref f)=true
 kp:CQ K (.ref f)=true
section
variable {fs:List (ib×V)}
theorem zmQ(I:Inv X pins σ H s)(e:H a=some (.ins C dx fs))(c:gv X.K C)(n:eZ X.K C f)(l:fs.lookup f=some v)
  (h:∀ u s',Inv X pins σ H s'->RelV v u->Q u s'):Ax (Ay X.prog X.w) A (Fb (.ref a) f b) Q E s:=by
 obtain⟨mA,O,r,_,_,_⟩:=zcB I.ax e
 obtain⟨u,hu,ru⟩:=gK.some_of (v:=v) (o:=mA f) (by rw [<- l];exact r f)
 exact get_map I.dG O (c.get f) c.hd n hu (zgu ru) (h u _ (I.tok _) ru)
theorem zgn{pl:Sem Bool}{Q:gV×List gV->ir->Prop}(I:Inv X pins σ H s)(e:H a=some (.ins C dx fs))(c:gv X.K C)(k:Meth X.K C m g)(l:fs.lookup m=none)
  (h:Q (.ref g,[.ref a]) s):Ax (Ay X.prog X.w) A (Fc (.ref a) m pl) Q E s:=by
 obtain⟨mA,O,r,_,_,_⟩:=zcB I.ax e
 have hn:mA m=none:=gK.none_of (by rw [<- l];exact r m)
 exact zmO I.dG O (c.get m) k.at_ k.fn hn h
theorem zuf{Q:Unit->ir->Prop}(I:Inv X pins σ H s)(e:H a=some (.ins C dx fs))(c:gv X.K C)(n:eZ X.K C f)(hl:fs.length<1000)(ry:RelV y u)
  (h:∀ s',Inv X pins σ (upd H a (.ins C dx (gF f y fs))) s'->Q () s'):Ax (Ay X.prog X.w) A (setAttr (.ref a) f u) Q E s:=by
 obtain⟨mA,O,r,wi,_,ho⟩:=zcB I.ax e
 have hz:(fs.map (·.1)).length<=AU:=by rw [Bc,BR];omega
 refine zud I.dG O c.sa c.po n.zuU c.hd wi hz fun h' O' sb=>h _ ?_
 have hd:∃ o,h'.get? dx=some o:=let⟨o,_,_,e',_⟩:=O'.ns;⟨o,e'⟩
 refine I.write (x:=a) (e:=dx) (by rw [e];exact D6) (.inr ho) (fun b q hb z=>(sb.2 b hb).trans z) hd ?_
 refine⟨by rw [aJ O.ne];exact ho,?_,O.ne,O'.obj,_,O'.ns,fun g=>?_,fun g hg=>?_⟩
 ·have:=zg5 f y fs;omega
 ·show gK ((gF f y fs).lookup g) (if g=f then some u else mA g)
  rw [zhi]
  by_cases q:g=f
  ·rw [if_pos q,if_pos q];exact ry
  ·rw [if_neg q,if_neg q];exact r g
 ·by_cases q:g=f
  ·rw [q];exact(zcI f y fs).1
  ·refine(zcI f y fs).2 g (wi g fun z=>hg ?_)
   show(if g=f then some u else mA g)=none
   rw [if_neg q];exact z
theorem Inv.made(I:Inv X pins σ H s):Inv X pins σ (upd (upd H s.heap.objs.size (.own (s.heap.objs.size+1))) (s.heap.objs.size+1) (.ins C s.heap.objs.size []))
  { s with heap:=(s.heap.push DJ).push (D2 C s.heap.objs.size) }:=by
 have e1:(s.heap.push DJ).get? s.heap.objs.size=some DJ:=Bv s.heap rfl
 have e2:((s.heap.push DJ).push (D2 C s.heap.objs.size)).get? (s.heap.objs.size+1)=some (D2 C s.heap.objs.size):=by
  have:=Bv (s.heap.push DJ) (o:=D2 C s.heap.objs.size) rfl
  rwa [CG] at this
 have e3:(s.heap.push DJ).Ns s.heap.objs.size (fun _=>none):=⟨DJ,#[],_,e1,rfl,(fun e he=>absurd he (by simp)),fun _=>rfl⟩
 have I1:=I.laid (a:=s.heap.objs.size) (o:=.own (s.heap.objs.size+1)) (h':=s.heap.push DJ) (t':=s.toks) (fun b u q=>A1 _ q) (AO _) ⟨_,e1⟩
 refine I1.laid (a:=s.heap.objs.size+1) (o:=.ins C s.heap.objs.size []) (t':=s.toks) (fun b u q=>A1 _ q) (FP (CG _ _)) ?_
 have ne:s.heap.objs.size≠s.heap.objs.size+1:=Ba (Gs _)
 refine⟨by rw [aJ ne,bS],B2 _,ne,e2,fun _=>none,(IQ e3).at fun o q=>A1 _ q,fun _=>D6,fun y hy=>absurd rfl hy⟩
theorem zeH{f:ib}{s:ir}(hb:Dq e f env (AB e env)=AB e env)
  (h:Ax (Ay prog w) A (AB e env) (fun o s₁=>Ax (Ay prog w) A (Fb o f true) Q E s₁) E s):Ax (Ay prog w) A (AB (.Attribute e f pos) env) Q E s :=
 Attribute_any_ h (by rw [arm_eval_Attribute,hb])
end
noncomputable def zuz(K:kb)(ta:TE)(f:ib):TE:=fun σ H Q=>ta σ H fun x H1=>∃ a C dx fs v,x=.ref a/\H1 a=some (.ins C dx fs)/\gv K C/\eZ K C f/\fs.lookup f=some v/\Q v H1
noncomputable def zt0(K:kb)(ta tv:TE)(f:ib):TS:=fun D σ H=>tv σ H fun y H1=>ta σ H1 fun x H2=>∃ a C dx fs,x=.ref a/\H2 a=some (.ins C dx fs)/\gv K C/\eZ K C f/\fs.length<1000 /\
 D.nx σ (upd H2 a (.ins C dx (gF f y fs)))
section
variable {o value:Av}{zi1:AD}{tv:TE}
theorem zqW(he:PE X e ta)(hb:Dq e f X.env (AB e X.env)=AB e X.env):PE X (.Attribute e f pos) (zuz X.K ta f):=by
 intro pins s σ H Q I h
 refine zeH hb (aE (he pins s σ H _ I h) fun u s1 ⟨x,H1,I1,rx,a,C,dx,fs,v,ex,ea,c,n,l,q⟩=>?_)
 subst ex
 obtain rfl:u=A8 a:=rx
 exact zmQ I1 ea c n l fun u' s2 I2 ru=>⟨v,H1,I2,ru,q⟩
theorem zrC(ha:PE X o ta)(hv:PE X value tv)(hs:Bx value (some (.Attribute o f pos')) pos.line X.env=pure false):PS X (.Assign [.Attribute o f pos'] value pos) (zt0 X.K ta tv f):=by
 intro pins s σ H D I h
 refine IU (aE (hv pins s σ H _ I h) fun u s1 ⟨y,H1,I1,ry,q⟩=>aE (ha pins s1 σ H1 _ I1 q) fun ov s2 ⟨x,H2,I2,rx,a,C,dx,fs,ex,ea,c,n,l,q2⟩=>?_) hs
 subst ex
 obtain rfl:ov=A8 a:=rx
 exact zuf I2 ea c n l ry fun s3 I3=>⟨σ,_,I3,q2⟩
end
end
variable {E:XK}{params:Arguments}{CX:jB}{fd:A9}{fV vs:List V}{il:Array (Option gV)}{sc scope:BF}{Q:VK}{base:Az}{t:TA}{cd:gV}{outer:List AY}{f:dm}{ps:List ib}{qual:ib}{mg:ib->Option gV}
section
structure aQ(k:Nat)(A:AR):Prop where
 hd:A.handled=none
 dp:A.depth+3*k+110<Hx
 un:A.units+16*k+200<BV
 gd:A.guards=some []
theorem aQ.mono(r:aQ k A)(h:j<=k):aQ j A:=⟨r.hd,by have:=r.dp;omega,by have:=r.un;omega,r.gd⟩
theorem aQ.deeper(r:aQ (k+1) A)(env:AY):aQ k (A.deeper env) :=
 ⟨r.hd,by have:=r.dp;show A.depth+1+3*k+110<_;omega,by have:=r.un;show A.units+3+16*k+200<_;omega,r.gd⟩
theorem zpy:(A.under (.builtin "type.__call__" ⟨.ref C::us,kw⟩)).depth=A.depth+1:=by
 first|rfl|simp [Gu,Code.weight,Code.isCreation,Code.isGuard,Code.isCaller,Code.frames,Hy,guardIds]
theorem zpB:(A.under (.builtin "type.__call__" ⟨.ref C::us,kw⟩)).units=A.units+1:=by
 first|rfl|simp [Gu,Code.cUnits,Code.frames,Hy]
theorem zpz:(A.under (.builtin "type.__call__" ⟨.ref C::us,kw⟩)).guards=A.guards:=by
 first|rfl|simp [Gu,Code.guards,Code.isGuard,guardIds,pushGuards]
theorem aQ.make(r:aQ (k+1) A)(C:dm)(us:List gV)(kw:List (ib×gV)):aQ k (A.under (.builtin "type.__call__" ⟨.ref C::us,kw⟩)) :=
 ⟨r.hd,by have:=r.dp;rw [zpy];omega,by have:=r.un;rw [zpB];omega,by rw [zpz];exact r.gd⟩
theorem aQ.depth(r:aQ k A):A.depth<Hx:=by have:=r.dp;omega
theorem aQ.units(r:aQ k A):A.units+64<BV:=by have:=r.un;omega
noncomputable def ziT:TA:=fun _ H Q=>Q [] H
noncomputable def ziQ(ta:TE)(tr:TA):TA:=fun σ H Q=>ta σ H fun x H1=>tr σ H1 fun xs H2=>Q (x::xs) H2
section
theorem jq:PA X [] ziT:=fun _ _ _ _ H Q I h=>Calls.spliced_nil ⟨[],H,I,.nil,h⟩
theorem gm(ha:PE X e te)(hr:PA X es t)(hs:Aw (e::es) X.env=(false,AB e X.env)::Aw es X.env:=by rfl):PA X (e::es) (ziQ te t):=by
 intro pos pins s σ H Q I h
 rw [hs]
 show Ax _ _ (spliced ((false,AB e X.env)::A7 pos (Aw es X.env))) _ _ s
 refine Calls.spliced_cons (aE (ha pins s σ H _ I h) fun u s1 ⟨x,H1,I1,r1,q1⟩=>?_)
 exact aE (hr pos pins s1 σ H1 _ I1 q1) fun us s2 ⟨xs,H2,I2,r2,q2⟩=>⟨x::xs,H2,I2,.cons r1 r2,q2⟩
noncomputable def zuO(t:TA):TE:=fun σ H Q=>t σ H fun xs H1=>xs.length<=AU/\∀ p,H1 p=none->Q (.ref p) (upd H1 p (.tup xs))
noncomputable def zuD(t:TA):TE:=fun σ H Q=>t σ H fun xs H1=>xs.length<=AU/\∀ p,H1 p=none->Q (.ref p) (upd H1 p (.lst xs))
theorem zq7{x1}(h:PA X es t):PE X (.Tuple es x1 pos) (zuO t):=by
 intro pins s σ H Q I hq
 refine wpAny_Tuple_spliced (aE (h pos pins s σ H _ I hq) fun us s1 ⟨xs,H1,I1,r,z,q⟩=>⟨by rw [<- r.length];exact z,?_⟩)
 have hf:H1 s1.heap.objs.size=none:=I1.ax.fresh (AO _)
 refine⟨.ref s1.heap.objs.size,upd H1 s1.heap.objs.size (.tup xs),I1.laid (t':=s1.toks) (fun b u e=>A1 _ e) (AO _) ?_,rfl,q _ hf⟩
 exact⟨z,us,r,⟨_,Bv _ rfl,rfl,_,rfl⟩⟩
theorem zhW(h:PA X es t):PE X (.List es pos) (zuD t):=by
 intro pins s σ H Q I hq
 refine wpAny_List_spliced (aE (h pos pins s σ H _ I hq) fun us s1 ⟨xs,H1,I1,r,z,q⟩=>⟨by rw [<- r.length];exact z,?_⟩)
 have hf:H1 s1.heap.objs.size=none:=I1.ax.fresh (AO _)
 refine⟨.ref s1.heap.objs.size,upd H1 s1.heap.objs.size (.lst xs),I1.laid (t':=s1.toks) (fun b u e=>A1 _ e) (AO _) ?_,rfl,q _ hf⟩
 exact⟨z,us,0,r,Bv _ rfl⟩
end
abbrev Sp:=List V->Hp->VK->XK->Prop
abbrev jB:=List AY->Hp->ir->XK->gV->ir->Prop
structure pR(P:AK)(w:AJ)(K:kb)(mg:ib->Option gV)(base:Az)(A:AR)(outer:List AY)(s:ir)(H:Hp):Prop where
 frames:A.frames=some outer
 mod:Mod K mg base
 bs:∀ b o,base.get? b=some o->s.heap.get? b=some o/\H b=none
 j5:base.objs.size<=s.heap.objs.size
 h8:s.heap.FunFrames base outer
 kR:∀ b∈dF outer,H b=none
 ax:cB P w H s.heap
 bare:Dm s.gens
 tree:P.given.tree=none
theorem Inv.pyl{σ:List (Option V)}(I:Inv X pins σ H s)(hd:X.A.depth+100<Hx):PySem.PylongRoom (Ay X.prog X.w) X.A s:=by
 obtain⟨env,r,e,h1,h2,h3,h4⟩:=I.ok.sk
 exact PySem.PylongRoom.of I.nolimit hd (PySem.SeerAt.of (I.ok.mod.seer.keeps I.bk) I.ok.tree (I.ok.frames.trans (congrArg some e)) h1 h2 h3 h4)
def CE(outer:List AY)(P:AK)(w:AJ)(H:Hp)(s:ir)(Q:VK)(u:gV)(s':ir):Prop :=
 ∃ v H',s'.os=s.os/\Dm s'.gens/\Un (dF outer) [] H H' s.heap s'.heap/\cB P w H' s'.heap/\RelV v u/\Q v H'
def CR(CX:jB)(outer:List AY)(P:AK)(w:AJ)(H:Hp)(s:ir)(Q:VK)(E:XK)(r:Result)(s':ir):Prop :=
 match r with
 | .ok (.ret u)=>CE outer P w H s Q u s'
 | .ok _=>False
 | .error e=>CX outer H s E e s'
structure cA(P:AK)(w:AJ)(K:kb)(mg:ib->Option gV)(base:Az)(CX:jB)(k:Nat)(f:dm)(fd:A9)(ps:List ib)(sp:Sp):Prop where
 len:∀ vs H Q E,sp vs H Q E->vs.length=ps.length
 run:∀(A:AR) (outer:List AY) (s:ir) (H:Hp) (args:Args) (us:List gV) (vs:List V) (Q:VK) (E:XK),aQ k A->pR P w K mg base A outer s H->Fe s fd args (ps.zip us)->Vals vs us->sp vs H Q E ->
  Dc (Ay P w) A (.call (.ref f) args) (CR CX outer P w H s Q E) s
theorem cA.imp{K:kb}{sp sp':Sp}(F:cA P w K mg base CX k f fd ps sp)
  (h:∀ vs H Q E,sp' vs H Q E->sp vs H Q E):cA P w K mg base CX k f fd ps sp' :=
 ⟨fun vs H Q E q=>F.len vs H Q E (h _ _ _ _ q),fun A outer s H args us vs Q E hr he hb hv hs=>F.run A outer s H args us vs Q E hr he hb hv (h _ _ _ _ hs)⟩
theorem pR.make{K:kb}(e:pR P w K mg base A outer s H)(C:dm)(us:List gV)(kw:List (ib×gV)) :
  pR P w K mg base (A.under (.builtin "type.__call__" ⟨.ref C::us,kw⟩)) outer s H:=⟨by first|exact e.frames|(simpa [Gu,Code.envs,Hy,pushEnvs] using e.frames),e.mod,e.bs,e.j5,e.h8,e.kR,e.ax,e.bare,e.tree⟩
section
theorem Inv.yr(I:Inv X pins σ H s):pR X.prog X.w X.K X.mg X.base X.A X.stack s H :=
 ⟨I.ok.frames,I.ok.mod,I.bs,By I.ok.j5 I.sz,I.stack,I.wK,I.ax,I.bare,I.ok.tree⟩
theorem Inv.after(I:Inv X pins σ H s)(h:CE X.stack X.prog X.w H s Q u s'):EP X pins σ Q u s':=by
 obtain⟨v,H',os,bare,un,ax,r,q⟩:=h
 obtain⟨hh,g,d,t,os'⟩:=s'
 obtain rfl:os'=s.os:=os
 exact⟨v,H',I.call (h':=hh) (g':=g) (d':=d) (t':=t) (ch:=[]) un ax bare (fun b z=>absurd z (by simp)),r,q⟩
end
noncomputable def zdJ(sp:Sp)(fV:List V)(E:XK)(t:TA):TE:=fun σ H Q=>t σ H fun vs H1=>sp (vs++fV) H1 Q E
noncomputable def zuF(C:dm)(m:ib)(sp:Sp)(fV:List V)(E:XK)(ta:TE)(t:TA):TE:=fun σ H Q=>ta σ H fun x H1=>∃ a dx fs,x=.ref a/\H1 a=some (.ins C dx fs)/\fs.lookup m=none /\
 t σ H1 fun vs H2=>sp (x::(vs++fV)) H2 Q E
noncomputable def zuE(C:dm)(sp:Sp)(fV:List V)(E:XK)(t:TA):TE:=fun σ H Q=>t σ H fun vs H1=>∀ x dx,H1 x=none->H1 dx=none->dx≠x ->
 sp (.ref x::(vs++fV)) (upd (upd H1 dx (.own x)) x (.ins C dx [])) (fun v H2=>v=.non/\Q (.ref x) H2) E
def Binds(K:kb)(fd:A9)(ps:List ib)(ds:List gV):Prop :=
 ∀(s:ir) (us:List gV),K.In s.heap->(us++ds).length=ps.length->Fe s fd ⟨us,[]⟩ (ps.zip (us++ds))
theorem Binds.all{K:kb}(h:∀ us:List gV,us.length=ps.length->CU fd ⟨us,[]⟩=pure (ps.zip us)):Binds K fd ps []:=fun s us _ hl=>by
 rw [CV] at hl ⊢
 exact .of_eq (h us hl)
def Passes(CX:jB)(X:Cx)(E:XK):Prop:=∀(pins:List (dm×AA)) (σ:St) (H:Hp) (s:ir) (e:gV) (s':ir),Inv X pins σ H s->CX X.stack H s E e s'->X.xe e s'
section
variable {sp:Sp}{ds:List gV}{apos:AD}{o:Av}
theorem ziD(F:cA X.prog X.w X.K X.mg X.base CX k f fd ps sp)(hr:aQ k X.A)(hb:Binds X.K fd ps ds)(hd:Vals fV ds)(hx:Passes CX X E)
  (I:Inv X pins σ H s)(r:Vals vs us)(h:sp (vs++fV) H Q E):Ax (Ay X.prog X.w) X.A (call (.ref f) us) (EP X pins σ Q) X.xe s:=by
 have r2:Vals (vs++fV) (us++ds):=r.append hd
 have hl:(us++ds).length=ps.length:=by rw [<- r2.length];exact F.len _ _ _ _ h
 refine FQ (Ff (F.run X.A X.stack s H ⟨us,[]⟩ (us++ds) (vs++fV) Q E hr I.yr (hb s us I.dG hl) r2 h) fun r s' hq=>?_)
 cases r with
 | error e=>exact hx pins σ H s e s' I hq
 | ok fl =>
  cases fl with
  | ret u=>exact I.after hq
  | next=>exact BQ hq
  | brk=>exact BQ hq
  | cont=>exact BQ hq
theorem zqR(F:cA X.prog X.w X.K X.mg X.base CX k f fd ps sp)(hr:aQ k X.A)(hg:Gl X x)(hm:X.mg x=some (.ref f))(hk:CQ X.K (.ref f)=true)(hb:Binds X.K fd ps ds)(hd:Vals fV ds)(hx:Passes CX X E)
  (ha:PA X (e::es) t)(bz:(x==("__debug__":ib))=false:=by decide) (he:Aw (e::es) X.env=(false,AB e X.env)::Aw es X.env:=by rfl) (aX:(A7 pos (Aw es X.env)).any (·.1)=false:=by rfl) :
  PE X (.Call (.Name x p) (e::es) [] pos) (zdJ sp fV E t):=by
 intro pins s σ H Q I h
 refine Gv (vR I hg hm ?_ bz)
 refine Gw (h₀:=X.base) I.ok.mod.qK hk (aE (ha pos pins s σ H _ I h) fun us s1 ⟨vs,H1,I1,r,q⟩=>⟨I1.dG,?_⟩) he aX
 exact ziD F hr hb hd hx I1 r q
theorem zq2{pl:Sem Bool}(he:PE X o ta)(c:gv X.K C)(hm:Meth X.K C m f)(F:cA X.prog X.w X.K X.mg X.base CX k f fd ps sp)(hr:aQ k X.A)(hb:Binds X.K fd ps ds)(hd:Vals fV ds)(hx:Passes CX X E)(ha:PA X (e::es) t)
  (bV:Aw (e::es) X.env=(false,AB e X.env)::Aw es X.env:=by rfl)(aX:(A7 pos (Aw es X.env)).any (·.1)=false:=by rfl)
  (ht:AB (.Call (.Attribute o m apos) (e::es) [] pos) X.env=(do
   let ov <- AB o X.env
   Ep apos.atName
   let(f,first) <- C8 [ov] (Fc ov m pl)
   FR pos f first (A7 pos (Aw (e::es) X.env)) (Fg pos (Fh [] X.env))):=by rfl) :
  PE X (.Call (.Attribute o m apos) (e::es) [] pos) (zuF C m sp fV E ta t):=by
 intro pins s σ H Q I h
 refine IV (pl:=pl) (aE (he pins s σ H _ I h) fun u s1 ⟨x,H1,I1,rx,a,dx,fs,ex,ea,l,q⟩=>?_) ht
 subst ex
 obtain rfl:u=A8 a:=rx
 refine zgn I1 ea c hm l ?_
 refine Gw (first:=[.ref a]) (h₀:=X.base) I.ok.mod.qK hm.kp (aE (ha pos pins s1 σ H1 _ I1 q) fun us s2 ⟨vs,H2,I2,r,q2⟩=>⟨I2.dG,?_⟩) bV aX
 exact ziD (us:=.ref a::us) (vs:=.ref a::vs) F hr hb hd hx I2 (.cons rfl r) q2
structure Mk(K:kb)(C f:dm):Prop where
 makes:Hw K C=true
 init:Bz K (.ref C) "__init__"=some (some (.ref f))
 fn:DI K (.ref f)=true
 kp:CQ K (.ref C)=true
theorem ztZ(M:Mk X.K C f)(F:cA X.prog X.w X.K X.mg X.base CX k f fd ps sp)(hr:aQ (k+1) X.A)(hb:Binds X.K fd ps ds)(hd:Vals fV ds)
  (hx:Passes CX X E)(I:Inv X pins σ H s)(r:Vals vs us)
  (h:∀ x dx,H x=none->H dx=none->dx≠x->sp (.ref x::(vs++fV)) (upd (upd H dx (.own x)) x (.ins C dx [])) (fun v H2=>v=.non/\Q (.ref x) H2) E) :
  Ax (Ay X.prog X.w) X.A (call (.ref C) us) (EP X pins σ Q) X.xe s:=by
 have hq:=h (s.heap.objs.size+1) s.heap.objs.size (I.ax.fresh (Nat.le_succ _)) (I.ax.fresh (AO _)) (Ba (Gs _))
 have I2:=Inv.made (C:=C) I
 have r2:Vals (V.ref (s.heap.objs.size+1)::(vs++fV)) (A8 (s.heap.objs.size+1)::(us++ds)):=.cons rfl (r.append hd)
 have hl:(A8 (s.heap.objs.size+1)::us++ds).length=ps.length:=by
  have e:=r2.length
  rw [F.len _ _ _ _ hq] at e
  exact e.symm
 refine FQ (zpA (f:=f) I.dG M.makes M.init (beq_iff_eq.mp M.fn) (Ff (F.run _ X.stack _ _ ⟨A8 (s.heap.objs.size+1)::us,[]⟩ (A8 (s.heap.objs.size+1)::(us++ds)) _ _ E (hr.make C us [])
  (I2.yr.make C us []) (hb _ (A8 (s.heap.objs.size+1)::us) I2.dG hl) r2 hq) fun r s' km=>?_))
 cases r with
 | error e=>exact hx pins σ _ _ e s' I2 km
 | ok fl =>
  cases fl with
  | ret u =>
   obtain⟨v,H',I3,rv,ev,q3⟩:=I2.after km
   subst ev
   exact⟨rv,⟨V.ref (s.heap.objs.size+1),H',I3,rfl,q3⟩⟩
  | next=>exact BQ km
  | brk=>exact BQ km
  | cont=>exact BQ km
theorem zq1(M:Mk X.K C f)(F:cA X.prog X.w X.K X.mg X.base CX k f fd ps sp)(hr:aQ (k+1) X.A)(hg:Gl X x)(hm:X.mg x=some (.ref C))(hb:Binds X.K fd ps ds)(hd:Vals fV ds)(hx:Passes CX X E)
  (ha:PA X (e::es) t)(bz:(x==("__debug__":ib))=false:=by decide) (he:Aw (e::es) X.env=(false,AB e X.env)::Aw es X.env:=by rfl) (aX:(A7 pos (Aw es X.env)).any (·.1)=false:=by rfl) :
  PE X (.Call (.Name x p) (e::es) [] pos) (zuE C sp fV E t):=by
 intro pins s σ H Q I h
 refine Gv (vR I hg hm ?_ bz)
 refine Gw (h₀:=X.base) I.ok.mod.qK M.kp (aE (ha pos pins s σ H _ I h) fun us s1 ⟨vs,H1,I1,r,q⟩=>⟨I1.dG,?_⟩) he aX
 exact ztZ M F hr hb hd hx I1 r q
end
structure eY(N P:List ib)(sc:BF):Prop where
 kind:sc.kind=.function
 co:sc.isCoroutine=false
 gen:sc.isGenerator=false
 nd:N.Nodup
 pre:N.take P.length=P
 par:∀ x∈P,sc.names.lookup x=some .local\/sc.names.lookup x=some .cell
 zpX:∀ y∈sc.names,y.2≠.free
theorem ze4{kindOf:ib->Option Cv}{x:ib}:∀{binds:List (ib×gV)} {m:ib->Option gV},(∀ v,(x,v)∉binds)->bindL kindOf binds m x=m x
 | [],_,_=>rfl
 | (n,v)::r,m,h=>by
  unfold bindL
  rw [ze4 fun w hw=>h w (Bp _ hw)]
  split
  ·have:x≠n:=by rintro rfl;exact h v Bu
   simp [this]
  ·rfl
theorem ze2{kindOf:ib->Option Cv}{x:ib}:∀{binds:List (ib×gV)} {m:ib->Option gV},(∀ v,(x,v)∉binds)->bindC kindOf binds m x=m x
 | [],_,_=>rfl
 | (n,v)::r,m,h=>by
  unfold bindC
  rw [ze2 fun w hw=>h w (Bp _ hw)]
  split
  ·rfl
  ·have:x≠n:=by rintro rfl;exact h v Bu
   simp [this]
theorem ze3{kindOf:ib->Option Cv}{x:ib}{v:gV}:∀{P:List ib} {vs:List gV} {i:Nat} {m:ib->Option gV},P.Nodup->P[i]?=some x->vs[i]?=some v->kindOf x=some .local ->
  bindL kindOf (P.zip vs) m x=some v
 | [],_,_,_,_,h,_,_=>by simp at h
 | _::_,[],_,_,_,_,h,_=>by simp at h
 | p::P,w::vs,0,m,nd,h1,h2,hk=>by
  simp at h1 h2;subst h1;subst h2
  show bindL kindOf ((p,w)::P.zip vs) m p=_
  unfold bindL
  rw [ze4 fun v hv=>(CW.mp nd).1 (D7 hv).1,if_pos hk]
  simp
 | p::P,w::vs,i+1,m,nd,h1,h2,hk=>by
  show bindL kindOf ((p,w)::P.zip vs) m x=_
  unfold bindL
  exact ze3 (i:=i) (CW.mp nd).2 (by simpa using h1) (by simpa using h2) hk
theorem ze1{kindOf:ib->Option Cv}{x:ib}{v:gV}:∀{P:List ib} {vs:List gV} {i:Nat} {m:ib->Option gV},P.Nodup->P[i]?=some x->vs[i]?=some v->kindOf x≠some .local ->
  bindC kindOf (P.zip vs) m x=some v
 | [],_,_,_,_,h,_,_=>by simp at h
 | _::_,[],_,_,_,_,h,_=>by simp at h
 | p::P,w::vs,0,m,nd,h1,h2,hk=>by
  simp at h1 h2;subst h1;subst h2
  show bindC kindOf ((p,w)::P.zip vs) m p=_
  unfold bindC
  rw [ze2 fun v hv=>(CW.mp nd).1 (D7 hv).1,if_neg hk]
  simp
 | p::P,w::vs,i+1,m,nd,h1,h2,hk=>by
  show bindC kindOf ((p,w)::P.zip vs) m x=_
  unfold bindC
  exact ze1 (i:=i) (CW.mp nd).2 (by simpa using h1) (by simpa using h2) hk
noncomputable def start(N:List ib)(vs:List V):St:=vs.map some++AI (N.length-vs.length) none
noncomputable def dB(CX:jB)(P:AK)(w:AJ)(K:kb)(mg:ib->Option gV)(base:Az)(N:List ib)(qual:ib)(scope:BF)(f:dm)(cd:gV)(A:AR)(outer:List AY)(s:ir)(H:Hp)(E:XK):Cx where
 prog:=P
 w:=w
 K:=K
 mg:=mg
 base:=base
 A:=A.deeper (BG qual scope s.heap.objs.size f cd)
 N:=N
 s₀:=s
 H₀:=H
 env:=BG qual scope s.heap.objs.size f cd
 outer:=outer
 stack:=BG qual scope s.heap.objs.size f cd::outer
 ex:=[]
 calm:=true
 fn:=fun _=>true
 pn:=[]
 xe:=fun e s'=>Ax (Ay P w) (A.deeper (BG qual scope s.heap.objs.size f cd)) (leaving (BG qual scope s.heap.objs.size f cd) e) (fun _ iM=>CX outer H s E e iM) (fun e' iM=>CX outer H s E e' iM) s'
theorem zfs(h:sc.names.lookup x=some .cell):∃ c,(Dd n sc.names []).lookup x=some c:=by
 have q:=IW sc.names n [] (.inl h)
 exact IX.mp q
theorem znt{K:kb}{s1:ir}
  (S:eY N ps scope)(hd:A.handled=none)(e0:pR P w K mg base A outer s H)(hl:vs.length=ps.length)(r:Vals vs us)
  (x:InCallC s s.heap.objs.size (bindL (BG qual scope s.heap.objs.size f cd).kindOf (ps.zip us) fun _=>none) (Dd (s.heap.objs.size+1) scope.names []) (bindC (BG qual scope s.heap.objs.size f cd).kindOf (ps.zip us) fun _=>none) s1) :
  Inv (dB CX P w K mg base N qual scope f cd A outer s H E) [] (start N vs) H s1:=by
 have aX:ps.length<=N.length:=by have:=congrArg Gx S.pre;rw [Ew] at this;omega
 obtain⟨h1,tk,rfl,hk⟩:=x.done
 have v9:∀ b:dm,b∉(dB CX P w K mg base N qual scope f cd A outer s H E).ex:=fun b z=>absurd (show b∈([]:List dm) from z) (by simp)
 refine⟨⟨e0.mod,S.kind,rfl,rfl,AO _,fun y z c h1 h2=>?_,fun y hy=>?_,fun y c _ h=>?_,fun _=>hd,Around.frames_deeper e0.frames,.inr ⟨rfl,rfl⟩,fun b z=>absurd z (v9 b),e0.bs,e0.j5,fun b _ _=>v9 b,fun b z=>absurd z (v9 b),e0.h8,e0.kR,e0.tree,⟨_,_,rfl,S.gen,S.co,rfl,rfl⟩⟩,
  rfl,e0.bare,Un.kept hk,⟨_,x.toInCall.ns,fun i y v h1 h2 h3=>?_⟩,fun y c h=>⟨_,x.cell y c h⟩,e0.ax.fresh (AO _),fun y c h=>?_,fun p hp=>absurd (show p∈([]:List (dm×AA)) from hp) (by simp),e0.ax.kept hk,?_⟩
 ·exact name_of_addr x.apart (Ds h1) (Ds h2)
 ·have hy:scope.names.lookup y=some .cell\/scope.names.lookup y=some .free:=hy
  rcases hy with hy|hy
  ·exact zfs hy
  ·exact absurd rfl (S.zpX _ (Ds hy))
 ·exact D3 (x.above y c (Ds h))
 ·have hi:i<vs.length:=by
   unfold start at h2
   by_cases hi:i<vs.length
   ·exact hi
   ·rw [CH (by simpa using hi)] at h2
    rw [CC] at h2
    split at h2 <;> cases h2
  have ha:vs[i]?=some v:=by
   unfold start at h2
   rw [B5 (by simpa using hi),BW] at h2
   cases e:vs[i]? with
   | none=>rw [e] at h2;cases h2
   | some a=>rw [e] at h2;cases h2;rfl
  obtain⟨u,hu,rv⟩:=r.get ha
  have hp:ps[i]?=some y:=by
   rw [<- S.pre,List.getElem?_take_of_lt (by omega)];exact h1
  have ndP:ps.Nodup:=by rw [<- S.pre];exact S.nd.sublist (List.take_sublist _ _)
  refine⟨u,rv,?_⟩
  rcases S.par y (CY hp) with k|k
  ·exact .inl ⟨k,ze3 ndP hp hu k⟩
  ·obtain⟨c,e⟩:=zfs (n:=s.heap.objs.size+1) k
   refine .inr ⟨.inl k,c,e,?_⟩
   have q:=x.cell y c e
   rw [ze1 ndP hp hu (by show scope.names.lookup y≠_;rw [k];decide)] at q
   exact q
 ·exact e0.ax.fresh (D3 (x.above y c (Ds h)))
 ·unfold start
  show _=N.length
  rw [B6,Bc,Dt]
  omega
theorem zgd{K:kb}{dV kV doc pm av ct oc:gV}{an od:Option dm}
  {sp:Sp}(lk:K.lookup f=some ⟨oc,od,.func (BX name qual params body scope dV kV doc pm an av ct),il⟩)(fi:Du K av qual=true)(S:eY N ps scope)
  (len:∀ vs H Q E,sp vs H Q E->vs.length=ps.length)
  (vx:∀(A:AR) (outer:List AY) (s:ir) (H:Hp) (vs:List V) (Q:VK) (E:XK),aQ k (A.deeper (BG qual scope s.heap.objs.size f av))->sp vs H Q E ->
   ∃ t,bW (dB CX P w K mg base N qual scope f av A outer s H E) body t/\t { nx:=fun _ H'=>Q .non H',rt:=Q } (start N vs) H) :
  cA P w K mg base CX (k+1) f (BX name qual params body scope dV kV doc pm an av ct) ps sp:=by
 refine⟨len,fun A outer s H args us vs Q E hr e0 hb r oj=>?_⟩
 have hl:=len _ _ _ _ oj
 have KX:K.In s.heap:=e0.mod.qK.keeps fun b o e=>(e0.bs b o e).1
 have lim:s.heap.NoLimit:=e0.mod.nolimit.keeps fun b o e=>(e0.bs b o e).1
 have zm9:∀ y∈ps.zip us,scope.names.lookup y.1=some .local\/(scope.names.lookup y.1=some .cell/\((Dd (s.heap.objs.size+1) scope.names []).lookup y.1).isSome=true):=fun⟨n,v⟩ hy=>by
  rcases S.par n (D7 hy).1 with q|q
  ·exact .inl q
  ·exact .inr ⟨q,IW _ _ _ (.inl q)⟩
 refine codeAny_call_function hr.depth (KX _ _ lk) rfl S.co S.gen rfl (PySem.W.codeRec_of KX fi) (hb _ _ _ _ ?_)
 refine wpAny_newFunctionEnv_cells S.kind zm9 fun env he s1 x=>?_
 subst he
 refine⟨lim.keeps x.toInCall.keep,codeAny_func ?_⟩
 obtain⟨t,ht,hq⟩:=vx A outer s H vs Q E (hr.deeper _) oj
 have I:Inv (dB CX P w K mg base N qual scope f av A outer s H E) [] (start N vs) H s1:=znt S hr.hd e0 hl r x
 refine Bb (ht [] s1 (start N vs) H _ I hq) (fun fl s' hs=>?_) fun e s' hs=>hs
 have fin:∀{σ':St} {H':Hp} {v:V} {u:gV},Inv (dB CX P w K mg base N qual scope f av A outer s H E) [] σ' H' s'->RelV v u->Q v H'->CE outer P w H s Q u s' :=
  fun{σ' H' v u} J rv q=>⟨v,H',J.os,J.bare,J.base,J.ax,rv,q⟩
 cases fl with
 | ret u =>
  obtain⟨v,σ',H',J,rv,q⟩:=hs
  exact fin J rv q
 | next =>
  obtain⟨σ',H',J,q⟩:=hs
  exact fin (v:=V.non) (u:=Br) J rfl q
 | brk =>
  obtain⟨_,_,_,q⟩:=hs
  exact BQ q
 | cont =>
  obtain⟨_,_,_,q⟩:=hs
  exact BQ q
end
section
section
variable {id T:String}
noncomputable def zY(r:List V->Hp->VK->Prop)(t:TA):TE:=fun σ H Q=>t σ H fun vs H1=>r vs H1 Q
theorem wj(hc:iu X (.builtin id) r)(hg:Gl X x)(hm:X.mg x=none)(hv:Bo x=some (.builtin id))(ha:PA X (e::es) t)(hn:x ≠ "__name__":=by decide) (bz:(x==("__debug__":ib))=false:=by decide)
  (he:Aw (e::es) X.env=(false,AB e X.env)::Aw es X.env:=by rfl) (aX:(A7 pos (Aw es X.env)).any (·.1)=false:=by rfl):PE X (.Call (.Name x p) (e::es) [] pos) (zY r t):=by
 intro pins s σ H Q I h
 refine Gv (oB I hg hm hv ?_ hn bz)
 exact PyProof.Rows.callWith_builtin1 (aE (ha pos pins s σ H _ I h) fun us s1 ⟨vs,H1,I1,r1,q1⟩=>hc pins s1 σ H1 vs us Q I1 r1 q1) he aX
theorem zdd(hc:iu X (.type T) r)(hg:Gl X x)(hm:X.mg x=none)(hv:Bo x=some (.type T))(ha:PA X (e::es) t)(hn:x ≠ "__name__":=by decide) (bz:(x==("__debug__":ib))=false:=by decide)
  (he:Aw (e::es) X.env=(false,AB e X.env)::Aw es X.env:=by rfl) (aX:(A7 pos (Aw es X.env)).any (·.1)=false:=by rfl):PE X (.Call (.Name x p) (e::es) [] pos) (zY r t):=by
 intro pins s σ H Q I h
 refine Gv (oB I hg hm hv ?_ hn bz)
 exact E8 (aE (ha pos pins s σ H _ I h) fun us s1 ⟨vs,H1,I1,r1,q1⟩=>hc pins s1 σ H1 vs us Q I1 r1 q1) he aX
end
end
end L2
namespace HT
open PySem PyProof.Rows
noncomputable def lexLt:List Int->List Int->Bool
 | [],[]=>false
 | [],_::_=>true
 | _::_,[]=>false
 | x::xs,y::ys=>if x=y then lexLt xs ys else decide (x<y)
theorem zpg(x y:Int)(xs ys:List Int):lexLt (x::xs) (y::ys)=if x=y then lexLt xs ys else decide (x<y):=rfl
theorem zpj:lexLt [] []=false:=rfl
theorem zpi(y:Int)(ys:List Int):lexLt [] (y::ys)=true:=rfl
theorem zph(x:Int)(xs:List Int):lexLt (x::xs) []=false:=rfl
theorem zl7(A:AR)(s:ir)(a:Int)(t:BJ)(c:Int)(u:BJ):∃ e,HA A s (.int a t) (.int c u) e/\(e=true↔a=c) :=
 ⟨(a==c),IY a t c u,by simp⟩
theorem ztM(A:AR)(s:ir)(a:Int)(t:BJ)(c:Int)(u:BJ)(prog:AK)(w:AJ)(E:gV->ir->Prop)(Q:gV->ir->Prop)(h:Q (.bool (decide (a<c))) s) :
  Ax (Ay prog w) A (richCompare .Lt (.int a t) (.int c u)) Q E s :=
 (PyProof.Rows.lt_int h:Ax (Ay prog w) A (A3 .Lt (.int a t) (.int c u)) Q E s)
section
open PySem.SeqAt
open PySem.AutoSeq1 (wpAny_loadPart')
open PySem.MeetsSeq PySem.MeetsSeq2 PySem.MeetsSeq3
theorem zu2(l b:dm)(items jn:Array gV)(n n2:Nat)(dd lY:Option dm)(sl lF:Array (Option gV))(ns ms:List Int)(hi:CD items.toList ns)(hj:CD jn.toList ms) :
  Meets (Ci.«tuple.__lt__» ⟨[.ref l,.ref b],[]⟩)
   (fun _ R s=>s.heap.get? l=some { cls:=.type "tuple",dict:=dd,data:=.seq items n,slots:=sl }/\s.heap.get? b=some { cls:=.type "tuple",dict:=lY,data:=.seq jn n2,slots:=lF } /\
    R (.ok (.ret (.bool (lexLt ns ms)))) s) :=
 .of_wp fun prog w A R s h=>by
  obtain⟨hp,g,d,tk,os⟩:=s;obtain⟨hl,hb,h⟩:=h
  have f2:=AutoSeq1.sub_tuple_tuple
  have z1:items.size=ns.length:=by rw [<- hi.length];simp
  have z2:jn.size=ms.length:=by rw [<- hj.length];simp
  wp_walk using Fi hl,Fi hb,wpAny_forIn_list _ (fun rest b s'=>b.1=none/\s'=⟨hp,g,d,tk,os⟩/\∃(vs ws:List gV) (cU sX:List Int),rest=vs.zip ws /\
   CD vs cU/\CD ws sX/\cU.length+jn.size=sX.length+items.size/\R (.ok (.ret (.bool (lexLt cU sX)))) ⟨hp,g,d,tk,os⟩) _
  case turn =>
   rintro⟨y,x⟩ rest b s' ⟨nY,rfl,vs,ws,cU,sX,hz,vN,yR,hlen,hR⟩
   cases vN with
   | nil=>rw [Dv] at hz;cases hz
   | cons a t hvi' =>
    cases yR with
    | nil=>rw [Dw] at hz;cases hz
    | cons c u hwi' =>
     rw [BL] at hz
     injection hz with hyx hrest
     injection hyx with hy hx
     subst hy hx
     rw [zpg] at hR
     simp only [A0] at hlen
     obtain⟨e,he,zgz⟩:=zl7 A.in1 ⟨hp,g,d,tk,os⟩ a t c u
     refine pd (he prog w _ _ ?_)
     cases e with
     | true =>
      rw [if_pos (zgz.mp rfl)] at hR
      wp_walk
      exact⟨rfl,rfl,_,_,_,_,hrest,hvi',hwi',by omega,hR⟩
     | false =>
      rw [if_neg (fun q=>absurd (zgz.mpr q) BU)] at hR
      have hri:=ztM A.in1 ⟨hp,g,d,tk,os⟩ a t c u prog w
      wp_walk using hri
      exact⟨_,rfl,by simpa using hR⟩
  case fin =>
   rintro⟨b1,b2⟩ s' ⟨nY,rfl,vs,ws,cU,sX,hz,vN,yR,hlen,hR⟩
   simp only at nY
   subst nY
   have hv:lexLt cU sX=decide (items.size<jn.size):=by
    cases vN with
    | nil =>
     cases yR with
     | nil =>
      simp only [Bg] at hlen
      rw [zpj]
      exact(decide_eq_false (by omega)).symm
     | cons c u hw =>
      simp only [Bg,A0] at hlen
      rw [zpi]
      exact(decide_eq_true (by omega)).symm
    | cons a t hv =>
     cases yR with
     | nil =>
      simp only [Bg,A0] at hlen
      rw [zph]
      exact(decide_eq_false (by omega)).symm
     | cons c u hw =>
      rw [BL] at hz
      cases hz
   rw [hv] at hR
   wp_walk
   exact⟨_,rfl,by simpa [Builtin.Tuple.tupleCompareSizes] using hR⟩
  case h =>
   exact⟨rfl,rfl,items.toList,jn.toList,ns,ms,rfl,hi,hj,by omega,h⟩
end
variable {hi o:Option Int}{n:Nat}{E Q:gV->ir->Prop}{b sl t:dm}{s:ir}{A:AR}{items:Array gV}{v vl vu:gV}{w:AJ}{prog:AK}
section
theorem zpv{l:dm}{jn:Array gV}{ns ms:List Int}(hl:Dl s.heap l items)(hb:Dl s.heap b jn)(hi:CD items.toList ns)(hj:CD jn.toList ms)
  (hu:A.units<BV)(h:Q (.bool (lexLt ns ms)) s):Ax (Ay prog w) A (A3 .Lt (.ref l) (.ref b)) Q E s:=by
 obtain⟨⟨cls,dd,data,sl⟩,ho,hc,n,hd⟩:=id hl
 obtain⟨⟨zaV,lY,data2,lF⟩,fK,ji,n2,hd2⟩:=id hb
 simp only at hc hd ji hd2
 subst hc hd ji hd2
 exact richCompare_meets_room (op:=.Lt) ⟨_,ho,rfl⟩ ⟨_,fK,rfl⟩ PySem.F.slot_tuple_lt PySem.F.entry_tuple_lt (PySem.F.args_tuple_lt_2 _ _) (zu2 l b items jn n n2 dd lY sl lF ns ms hi hj)
  ⟨ho,fK,show C6 (lexLt ns ms)≠IZ/\Q (.bool (lexLt ns ms)) s from⟨(fun x=>nomatch x),h⟩⟩ hu
theorem zkR{vs ws:List gV}(ht:Dl s.heap t vs.toArray)(hb:Dl s.heap b ws.toArray)(hv:vs≠[])
  (h1:ws=[]->Q (.ref t) s)(h2:ws≠[]->Q (.ref s.heap.objs.size) { s with heap:=s.heap.push { cls:=.type "tuple",data:=.seq (vs++ws).toArray } })
  (hsz:vs.length+ws.length<=AU):Ax (Ay prog w) A (Cg .Add (.ref t) (.ref b)) Q E s:=by
 obtain⟨⟨cls,dd,data,sl⟩,ho,hc,n,hd⟩:=id ht
 obtain⟨⟨zaV,lY,data2,lF⟩,fK,ji,n2,hd2⟩:=id hb
 simp only at hc hd ji hd2
 subst hc hd ji hd2
 have e:vs.toArray++ws.toArray=(vs++ws).toArray:=by simp
 by_cases hw:ws=[]
 ·exact Gy ⟨_,ho,rfl⟩ ⟨_,fK,rfl⟩ HB HC HD HE (HF _ _)
   (tuple_addW1 t b vs.toArray ws.toArray n n2 dd lY sl lF (by simpa using hv) (by simp [hw])) ⟨ho,fK,h1 hw⟩
 ·refine Gy ⟨_,ho,rfl⟩ ⟨_,fK,rfl⟩ HB HC HD HE (HF _ _)
   (tuple_addW2 t b vs.toArray ws.toArray n n2 dd lY sl lF (by simpa using hv) (by simpa using hw) (by rw [Bk,Bk];exact hsz)) ⟨ho,fK,?_⟩
  rw [e]
  exact h2 hw
noncomputable def aT(n d:Nat):Option Int->Nat
 | none=>d
 | some v=>if v<0 then(v+(n:Int)).toNat else min v.toNat n
theorem zt7(n d:Nat)(hd:d<=n)(o:Option Int):aT n d o<=n:=by
 cases o with
 | none=>exact hd
 | some v =>
  show(if v<0 then(v+(n:Int)).toNat else min v.toNat n)<=n
  by_cases hv:v<0
  ·rw [if_pos hv];omega
  ·rw [if_neg hv];exact Nat.min_le_right _ _
theorem zft(v:Int)(n d:Nat):(if v<0 then max (v+(n:Int)) 0 else min v (n:Int))=((aT n d (some v):Nat):Int):=by
 show(if v<0 then max (v+(n:Int)) 0 else min v (n:Int))=(((if v<0 then(v+(n:Int)).toNat else min v.toNat n):Nat):Int)
 by_cases hv:v<0
 ·simp only [if_pos hv];omega
 ·simp only [if_neg hv];omega
theorem zkb(lo hi:Option Int)(n:Nat):HG lo hi 1 (n:Int)=(((aT n 0 lo:Nat):Int),((aT n n hi:Nat):Int)):=by
 have h1:¬ ((1:Int)<0):=by omega
 unfold HG
 simp only [h1,if_false]
 refine Gz ?_ ?_
 ·cases lo with
  | none=>rfl
  | some v=>exact zft v n 0
 ·cases hi with
  | none=>rfl
  | some v=>exact zft v n n
theorem zrr(i j:Nat):GA (i:Int) (j:Int) 1=j-i:=by
 unfold GA
 have h1:(1:Int) > 0:=by omega
 simp only [h1,if_true,Int.ediv_one]
 split <;> omega
theorem ziI{Q:Option Int->ir->Prop}(p:Dx v o)(h:Q o s):Ax (Ay prog w) A (Builtin.Slice.slicePartIndex v) Q E s:=by
 cases p with
 | none=>exact slicePart_none h
 | int i t=>exact slicePart_int h
theorem ziH{lo:Option Int}{Q:Int×Int×Nat->ir->Prop}(hs:s.heap.IsSliceOf sl vl vu .none)(pl:Dx vl lo)(pu:Dx vu hi)
  (h:Q (((aT n 0 lo:Nat):Int),1,aT n n hi-aT n 0 lo) s):Ax (Ay prog w) A (I0 (.ref sl) (pure (n:Int))) Q E s:=by
 obtain⟨os,qE,og,vA⟩:=id hs
 unfold I0 Builtin.Slice.sliceFields
 refine pd (pd (B7 qE vA (x:=vl) rfl (pd (B7 qE vA (x:=vu) rfl (pd (B7 qE vA (x:=.none) rfl (AH ?_)))))))
 refine pd (slicePart_none ?_)
 show Ax _ _ (if((1:Int)==0)=true then _ else _) _ _ s
 rw [if_neg (by decide)]
 refine pd (ziI pl (pd (ziI pu (pd (AH ?_)))))
 show Ax _ _ (match HG lo hi 1 (n:Int) with|(lo,hi)=>pure (lo,(1:Int),GA lo hi 1)) _ _ s
 rw [zkb lo hi n]
 show Ax _ _ (pure (((aT n 0 lo:Nat):Int),(1:Int),GA ((aT n 0 lo:Nat):Int) ((aT n n hi:Nat):Int) 1)) _ _ s
 rw [zrr]
 exact AH h
theorem zro(xs:Array gV)(i k:Nat):((B4 k).filterMap fun(m:Nat)=>xs[((i:Int)+(m:Int)*1).toNat]?).toArray=((xs.toList.drop i).take k).toArray:=by
 have e:(fun(m:Nat)=>xs[((i:Int)+(m:Int)*1).toNat]?)=fun m=>xs[i+m]?:=by
  funext m
  have:((i:Int)+(m:Int)*1).toNat=i+m:=by omega
  rw [this]
 rw [e]
 have:=pick_run xs i k
 rw [List.filterMap_map] at this
 have e2:((fun x=>xs[x]?)∘fun x=>i+x)=fun m=>xs[i+m]?:=rfl
 rw [e2] at this
 rw [this]
theorem zmM{lo:Option Int}(ht:Dl s.heap t items)(hs:s.heap.IsSliceOf sl vl vu .none)(pl:Dx vl lo)(pu:Dx vu hi)
  (hw:¬ (aT items.size 0 lo=0/\aT items.size items.size hi=items.size))
  (h:Q (.ref s.heap.objs.size) { s with heap:=s.heap.push { cls:=.type "tuple",data:=.seq ((items.toList.drop (aT items.size 0 lo)).take (aT items.size items.size hi-aT items.size 0 lo)).toArray } })
  (hsz:items.size<=AU):Ax (Ay prog w) A (DL (.ref t) (.ref sl)) Q E s:=by
 have yQ:sizeOk (.seq ((items.toList.drop (aT items.size 0 lo)).take (aT items.size items.size hi-aT items.size 0 lo)).toArray):=by
  show((items.toList.drop (aT items.size 0 lo)).take (aT items.size items.size hi-aT items.size 0 lo)).toArray.size<=AU
  rw [Bk,Ew,GB,EZ]
  omega
 have hj:aT items.size items.size hi<=items.size:=zt7 _ _ (AO _) hi
 obtain⟨os,qE,og,vA⟩:=id hs
 have hTs:s.TypeIs (.ref sl) "slice":=⟨os,qE,og⟩
 unfold DL
 try with_reducible refine Cu ?_
 first|refine pd (AH ?_)|skip
 refine pd (wpAny_sequenceKey ht.typeIs (by decide) ?_)
 refine pd (D8 (name:=D9 "__getitem__") ht.typeIs Fj
  (De Fj ht.typeIs entry_tuple_getitem ?_ (args_tuple_getitem _ _)))
 show Ax _ _ (Ja (.ref t) >>= _) _ _ s
 refine pd (tupleItemsOf_ ht ?_)
 refine pd (Fm hTs ?_)
 rw [if_pos (by decide)]
 refine pd (ziH hs pl pu ?_)
 have hno:¬ ((((aT items.size 0 lo:Nat):Int)==0&&(1:Int)==1&&(aT items.size items.size hi-aT items.size 0 lo)==items.size)=true):=by
  intro q
  rw [Bs,Bs] at q
  have q1:((aT items.size 0 lo:Nat):Int)=0:=eq_of_beq q.1.1
  have q2:aT items.size items.size hi-aT items.size 0 lo=items.size:=eq_of_beq q.2
  exact hw ⟨by omega,by omega⟩
 show Ax _ _ (if(((aT items.size 0 lo:Nat):Int)==0&&(1:Int)==1&&(aT items.size items.size hi-aT items.size 0 lo)==items.size)=true then _ else _) _ _ s
 rw [if_neg hno,zro]
 first
  | exact pd (m:=GC _) (Cz (AH ⟨_,rfl,AH h⟩) yQ)
  | exact pd (m:=GC _) (Cz (pd (AH (AH ⟨_,rfl,AH h⟩))) yQ)
  | exact pd (pd (m:=GC _) (Cz (AH (AH ⟨_,rfl,AH h⟩)) yQ))
  | exact pd (pd (m:=GC _) (Cz (AH ⟨_,rfl,AH h⟩) yQ))
end
end HT
namespace L2
open PySem PySem.Spec PyProof.Rows
variable {ns:List Int}{te:TE}{r:V->Option Int->Option Int->Hp->VK->Prop}{pos:AD}{X:Cx}{e:Av}{us:List gV}{xs:List V}
section
abbrev TO:=St->Hp->(Option Int->Hp->Prop)->Prop
def PO(X:Cx)(e:Option Av)(t:TO):Prop :=
 ∀(pins:List (dm×AA)) (s:ir) (σ:St) (H:Hp) (Q:Option Int->Hp->Prop),Inv X pins σ H s->t σ H Q ->
  Ax (Ay X.prog X.w) X.A (evalPart e X.env) (fun u s'=>∃ o H',Inv X pins σ H' s'/\Dx u o/\Q o H') X.xe s
noncomputable def zuJ:TO:=fun _ H Q=>Q none H
noncomputable def zuM(t:TE):TO:=fun σ H Q=>t σ H fun x H1=>∃ i,x=.int i/\Q (some i) H1
theorem intsAre_of:∀{us:List gV},Vals (ns.map V.int) us->CD us ns:=by
 induction ns with
 | nil=>intro us r;rw [CF] at r;cases r;exact .nil
 | cons n ns ih =>
  intro us r
  rw [A2] at r
  cases r with
  | cons r1 r2 =>
   obtain⟨t,e⟩:=r1
   subst e
   exact .cons n t (ih r2)
section
variable {lo hi:Option Av}{tl th:TO}{p2:AD}
theorem zrz:PO X none zuJ:=by
 intro pins s σ H Q I h
 rw [evalPart_none]
 exact AH ⟨none,H,I,.none,h⟩
theorem zrA(h:PE X e te):PO X (some e) (zuM te):=by
 intro pins s σ H Q I hw
 rw [evalPart_some]
 refine aE (h pins s σ H _ I hw) fun u s1 ⟨x,H1,I1,r1,q1⟩=>?_
 obtain⟨i,rfl,q⟩:=q1
 obtain⟨t,rfl⟩:=r1
 exact⟨some i,H1,I1,.int i t,q⟩
def uM(X:Cx)(r:V->Option Int->Option Int->Hp->VK->Prop):Prop :=
 ∀(pins:List (dm×AA)) (s:ir) (σ:St) (H:Hp) (x:V) (v vl vu:gV) (lo hi:Option Int) (sl:dm) (Q:VK),Inv X pins σ H s->RelV x v->s.heap.IsSliceOf sl vl vu .none->Dx vl lo->Dx vu hi->r x lo hi H Q ->
  ∃ T id,typeLookup (.type T) "__getitem__"=pure (some (.builtin id))/\s.TypeIs v T/\Ax (Ay X.prog X.w) X.A (DL v (.ref sl)) (EP X pins σ Q) X.xe s
noncomputable def tSl(r:V->Option Int->Option Int->Hp->VK->Prop)(te:TE)(tl th:TO):TE:=fun σ H Q=>te σ H fun x H1=>tl σ H1 fun l H2=>th σ H2 fun u H3=>r x l u H3 Q
theorem zq5(hr:uM X r)(he:PE X e te)(hl:PO X lo tl)(hu:PO X hi th):PE X (.Subscript e (.Slice lo hi none p2) pos) (tSl r te tl th):=by
 intro pins s σ H Q I h
 refine Subscript_ (aE (he pins s σ H _ I h) fun v s1 ⟨x,H1,I1,r1,q1⟩=>?_)
 refine wpAny_Slice (aE (hl pins s1 σ H1 _ I1 q1) fun vl s2 ⟨l,H2,I2,pl,q2⟩=>aE (hu pins s2 σ H2 _ I2 q2) fun vu s3 ⟨u,H3,I3,pu,q3⟩=>?_)
 rw [evalPart_none]
 refine AH ?_
 have I4:Inv X pins σ H3 { s3 with heap:=s3.heap.push { cls:=.type "slice",data:=.fields #[vl,vu,.none] } }:=I3.kept (t':=s3.toks) fun b ob q=>A1 _ q
 obtain⟨T,id,hT,ht,hg⟩:=hr pins { s3 with heap:=s3.heap.push { cls:=.type "slice",data:=.fields #[vl,vu,.none] } } σ H3 x v vl vu l u s3.heap.objs.size Q I4 r1 (Heap.IsSliceOf.new ..) pl pu q3
 show Ax (Ay X.prog X.w) X.A (HH e (.Slice lo hi none p2) v (.ref s3.heap.objs.size)) (EP X pins σ Q) X.xe { s3 with heap:=s3.heap.push { cls:=.type "slice",data:=.fields #[vl,vu,.none] } }
 exact tail_any (ops:=[.ref s3.heap.objs.size,v]) ht hT hg (by with_unfolding_all rfl)
noncomputable def lW(xs:List V)(lo hi:Option Int):List V:=(xs.drop (HT.aT xs.length 0 lo)).take (HT.aT xs.length xs.length hi-HT.aT xs.length 0 lo)
theorem zfD(xs:List V)(lo hi:Option Int):(lW xs lo hi).length<=xs.length:=by
 unfold lW
 rw [Ew,GB]
 omega
noncomputable def ztH(K:kb):V->Option Int->Option Int->Hp->VK->Prop:=fun x lo hi H Q=>∃ a xs,x=.ref a/\dN K H a xs /\
 ¬ (HT.aT xs.length 0 lo=0/\HT.aT xs.length xs.length hi=xs.length)/\∀ p,H p=none->Q (.ref p) (upd H p (.tup (lW xs lo hi)))
theorem zul:uM X (ztH X.K):=by
 intro pins s σ H x v vl vu lo hi sl Q I rx hs pl pu h
 obtain⟨a,xs,rfl,hx,hw,q⟩:=h
 cases rx
 obtain⟨its,r,ht,hz⟩:=I.tuple hx
 have hlen:its.toArray.size=xs.length:=by rw [Bk];exact r.length.symm
 refine⟨"tuple",_,Fj.lookup,ht.typeIs,?_⟩
 refine HT.zmM ht hs pl pu (by rw [hlen];exact hw) ?_ (by rw [hlen];exact hz)
 rw [hlen]
 refine⟨.ref s.heap.objs.size,_,I.laid (t':=s.toks) (o:=.tup (lW xs lo hi)) (fun b ob q=>A1 _ q) (AO _) ?_,rfl,q _ (I.ax.fresh (AO _))⟩
 exact⟨By (zfD xs lo hi) hz,_,(r.drop (HT.aT xs.length 0 lo)).take (HT.aT xs.length xs.length hi-HT.aT xs.length 0 lo),FJ _ _⟩
noncomputable def ztu(K:kb):R2:=fun x y H Q=>∃ a b xs ys,x=.ref a/\y=.ref b/\dN K H a xs/\dN K H b ys/\xs≠[]/\xs.length+ys.length<=AU /\
 (ys=[]->Q (.ref a) H)/\(ys≠[]->∀ p,H p=none->Q (.ref p) (upd H p (.tup (xs++ys))))
theorem Vals.zcY(r:Vals xs us):us=[]↔xs=[]:=by
 cases r with
 | nil=>simp
 | cons _ _=>simp
theorem zqq:aV X (Cg .Add) (ztu X.K):=by
 intro pins s σ H x y v u Q I rx ry h
 obtain⟨a,b,xs,ys,rfl,rfl,ha,hb,hx,hz,q1,q2⟩:=h
 cases rx
 cases ry
 obtain⟨its,r1,p1,_⟩:=I.tuple ha
 obtain⟨oz,r2,p2,_⟩:=I.tuple hb
 refine HT.zkR p1 p2 (fun z=>hx (r1.zcY.mp z)) (fun z=>⟨.ref a,H,I,rfl,q1 (r2.zcY.mp z)⟩) (fun z=>?_) (by rw [<- r1.length,<- r2.length];exact hz)
 refine⟨.ref s.heap.objs.size,_,I.laid (t':=s.toks) (o:=.tup (xs++ys)) (fun b ob q=>A1 _ q) (AO _) ?_,rfl,q2 (fun w=>z (r2.zcY.mpr w)) _ (I.ax.fresh (AO _))⟩
 exact⟨by rw [B6];exact hz,_,r1.append r2,FJ _ _⟩
end
end
variable {u v:gV}{f:AA->AA}{pins:List (dm×AA)}{j n:Nat}{x y:V}{ys:List V}{p:dm}{r:V->List V->Hp->VK->Prop}{iI its:List gV}{t:TA}{s:ir}{σ:St}{to:TE}{i:Int}{A:AR}{α:Type}{name:ib}{T:String}{es:List Av}{H:Hp}
section
noncomputable def ie(n:Nat)(i:Int):Option Nat:=if 0<=i then(if i<n then some i.toNat else none) else if -(n:Int)<=i then some (i+n).toNat else none
noncomputable def dW{α:Type}(xs:List α)(i:Int):Option α:=(ie xs.length i).bind fun j=>xs[j]?
theorem zgN(h:ie n i=some j):seqIndex? i n=some j/\j<n/\-(n:Int)<=i/\i<n:=by
 unfold ie at h
 by_cases h0:0<=i
 ·rw [if_pos h0] at h
  by_cases h1:i<n
  ·rw [if_pos h1] at h
   have e:i.toNat=j:=BC h
   exact⟨by rw [seqIndex_of h0 h1,e],by omega,by omega,h1⟩
  ·rw [if_neg h1] at h;cases h
 ·rw [if_neg h0] at h
  by_cases h1:-(n:Int)<=i
  ·rw [if_pos h1] at h
   have e:(i+n).toNat=j:=BC h
   exact⟨by rw [seqIndex_neg (by omega) h1,e],by omega,h1,by omega⟩
  ·rw [if_neg h1] at h;cases h
theorem zeG{xs:List α}{v:α}(h:dW xs i=some v):∃ j,seqIndex? i xs.length=some j/\xs[j]?=some v/\j<xs.length/\-(xs.length:Int)<=i/\i<xs.length:=by
 unfold dW at h
 cases e:ie xs.length i with
 | none=>rw [e] at h;cases h
 | some j =>
  rw [e] at h
  obtain⟨h1,h2,h3,h4⟩:=zgN e
  exact⟨j,h1,h,h2,h3,h4⟩
def xt(b:Av):Prop:=∀ o i,subscripted b false o i=operate [o,i] (DL o i)
def lN(X:Cx)(r:R2):Prop :=
 ∀(value slice:Av) (pins:List (dm×AA)) (s:ir) (σ:St) (H:Hp) (x y:V) (v u:gV) (Q:VK),Inv X pins σ H s->RelV x v->RelV y u->r x y H Q ->
  subscripted slice false v u=operate [v,u] (DL v u)->Ax (Ay X.prog X.w) X.A (HH value slice v u) (EP X pins σ Q) X.xe s
def MtR(X:Cx)(id:String)(r:V->List V->Hp->VK->Prop):Prop :=
 ∀(pins:List (dm×AA)) (s:ir) (σ:St) (H:Hp) (x:V) (xs:List V) (v:gV) (us:List gV) (Q:VK),Inv X pins σ H s->RelV x v->Vals xs us->r x xs H Q ->
  Ax (Ay X.prog X.w) X.A (call (.builtin id) (v::us)) (EP X pins σ Q) X.xe s
section
variable {a b:Av}{ta tb:TE}
theorem zhV{r:R2}(hr:lN X r)(ha:PE X a ta)(hb:PE X b tb)(hs:xt b):PE X (.Subscript a b pos) (rF r ta tb):=by
 intro pins s σ H Q I h
 exact Subscript_ (zaA ha hb I h fun v u s2 x y H2 I2 rx ry q=>hr a b pins s2 σ H2 x y v u Q I2 rx ry q (hs _ _))
noncomputable def ztA(K:kb):R2:=fun x y H Q=>∃ p xs i v,x=.ref p/\y=.int i/\bp K H p xs/\dW xs i=some v/\Q v H
noncomputable def ztB(K:kb):R2:=fun x y H Q=>∃ p xs i v,x=.ref p/\y=.int i/\dN K H p xs/\dW xs i=some v/\Q v H
theorem znA:lN X (ztA X.K):=by
 intro value slice pins s σ H x y v u Q I rx ry h hs
 obtain⟨p,xs,i,z,rfl,rfl,hq,he,q⟩:=h
 cases rx
 obtain⟨t,rfl⟩:=ry
 obtain⟨its,r,pl,hz⟩:=I.list hq
 obtain⟨j,h1,h2,h3,h4,h5⟩:=zeG he
 obtain⟨w,ew,iX⟩:=r.get h2
 have hl:=r.length
 have hn:=vS
 have fin:EP X pins σ Q w s:=⟨z,H,I,iX,q⟩
 by_cases h0:0<=i
 ·have hj:i.toNat=j:=by
   rw [seqIndex_of h0 h5] at h1
   exact BC h1
  exact item_listR pl.isList h0 (by omega) (by rw [hj];simpa using ew) fin hs
 ·have hj:(i+(its.toArray.size:Int)).toNat=j:=by
   rw [seqIndex_neg (by omega) h4] at h1
   rw [Bk,<- hl]
   exact BC h1
  exact subscriptTail_builtinR (x:=w) pl.isList.typeIs slot_list_getitem.lookup
   (wpAny_getItem_list_neg (Q:=fun r s'=>r=w/\EP X pins σ Q r s') pl.isList (by omega) (by rw [Bk] <;> omega) (by omega) (by rw [hj];simpa using ew) ⟨rfl,fin⟩) hs
theorem znB:lN X (ztB X.K):=by
 intro value slice pins s σ H x y v u Q I rx ry h hs
 obtain⟨p,xs,i,z,rfl,rfl,hq,he,q⟩:=h
 cases rx
 obtain⟨t,rfl⟩:=ry
 obtain⟨its,r,pl,hz⟩:=I.tuple hq
 obtain⟨j,h1,h2,h3,h4,h5⟩:=zeG he
 obtain⟨w,ew,iX⟩:=r.get h2
 have hl:=r.length
 have hn:=vS
 have fin:EP X pins σ Q w s:=⟨z,H,I,iX,q⟩
 exact subscriptTail_builtinR (x:=w) pl.typeIs slot_tuple_getitem.lookup
  (getItem_tuple (j:=j) (Q:=fun r s'=>r=w/\EP X pins σ Q r s') pl (by omega) (by omega) (by rw [Bk,<- hl];exact h1) (by simpa using ew) ⟨rfl,fin⟩) hs
theorem zpE(its:List gV)(n j:Nat)(u:gV):BZ (·.setIfInBounds j u) { cls:=.type "list",data:=.seq its.toArray n }={ cls:=.type "list",data:=.seq (its.set j u).toArray n }:=by
 simp [BZ]
theorem Inv.lst{pins:List (dm×AA)}{σ:St}{H:Hp}{s:ir}{p:dm}{xs:List V}(I:Inv X pins σ H s)(h:H p=some (.lst xs)) :
  ∃(its:List gV) (n:Nat),Vals xs its/\s.heap.get? p=some { cls:=.type "list",data:=.seq its.toArray n }/\xs.length<=AU:=by
 obtain⟨z,its,n,r,e⟩:=I.ax p _ h
 exact⟨its,n,r,e,z⟩
theorem Inv.zpu{n':Nat}(I:Inv X pins σ H s)(h:H p=some (.lst xs))
  (ho:s.heap.get? p=some { cls:=.type "list",data:=.seq its.toArray n }) (hf:f { cls:=.type "list",data:=.seq its.toArray n }={ cls:=.type "list",data:=.seq iI.toArray n' }) (r:Vals ys iI) (hz:ys.length<=AU) (t:Nat) :
  Inv X pins σ (upd H p (.lst ys)) { s with heap:=s.heap.update p f,toks:=t }:=by
 have e:(s.heap.update p f).get? p=some { cls:=.type "list",data:=.seq iI.toArray n' }:=by
  rw [Fo f ho (by rw [hf] <;> rfl),hf]
 refine I.write (x:=p) (e:=p) (by rw [h];trivial) (.inl rfl) (fun b u hb q=>(Ex _ _ (BK hb)).trans q) ⟨_,e⟩ ?_
 exact⟨hz,iI,n',r,e⟩
noncomputable def ztF:V->V->V->Hp->(Hp->Prop)->Prop:=fun o i v H Q=>∃ p xs k j,o=.ref p/\i=.int k/\H p=some (.lst xs)/\ie xs.length k=some j/\Q (upd H p (.lst (xs.set j v)))
theorem set_list:zd2 X ztF:=by
 intro pins s σ H o i v ov iv u Q I ro ri rv h
 obtain⟨p,xs,k,j,rfl,rfl,hp,hj,q⟩:=h
 cases ro
 obtain⟨t,rfl⟩:=ri
 obtain⟨its,n,r,ho,hz⟩:=I.lst hp
 obtain⟨h1,h2,h3,h4⟩:=zgN hj
 have hl:=r.length
 have hn:=vS
 have I':Inv X pins σ (upd H p (.lst (xs.set j v))) { s with heap:=s.heap.update p (BZ (·.setIfInBounds j u)) } :=
  I.zpu hp ho (zpE its n j u) (r.set rv j) (by rw [CI];exact hz) s.toks
 by_cases h0:0<=k
 ·have hk:k.toNat=j:=by
   rw [seqIndex_of h0 h4] at h1
   exact BC h1
  exact PySem.W.ki_setAt ho h0 (by omega) (by rw [Bk,<- hl];exact h4) (by rw [hk];exact⟨_,I',q⟩)
 ·have hk:(k+(its.toArray.size:Int)).toNat=j:=by
   rw [seqIndex_neg (by omega) h3] at h1
   rw [Bk,<- hl]
   exact BC h1
  exact PySem.W.ki_setBack ho (by omega) (by rw [Bk,<- hl];exact h3) (by omega) (by rw [hk];exact⟨_,I',q⟩)
theorem zun(lo hi:Option Int)(n:Nat):(Ey lo hi none n).1=((HT.aT n 0 lo:Nat):Int)/\(Ey lo hi none n).2.1=((HT.aT n n hi:Nat):Int)/\(Ey lo hi none n).2.2=1:=by
 refine⟨?_,?_,rfl⟩
 ·cases lo with
  | none=>simp [Ey,HT.aT]
  | some i =>
   simp only [Ey,HT.aT,Df,show(1:Int) > 0 by decide,if_true]
   by_cases h:i<0
   ·simp only [h,if_true] <;> omega
   ·simp only [h,if_false] <;> omega
 ·cases hi with
  | none=>simp [Ey,HT.aT]
  | some i =>
   simp only [Ey,HT.aT,Df,show(1:Int) > 0 by decide,if_true]
   by_cases h:i<0
   ·simp only [h,if_true] <;> omega
   ·simp only [h,if_false] <;> omega
theorem zum(its:List gV)(lo hi:Option Int):slicePick its.toArray lo hi none=((its.drop (HT.aT its.length 0 lo)).take (HT.aT its.length its.length hi-HT.aT its.length 0 lo)).toArray:=by
 obtain⟨h1,h2,h3⟩:=zun lo hi its.toArray.size
 unfold slicePick
 rw [h1,h2,h3]
 simp only [sliceRange_one,pick_run,Bk] <;> rfl
noncomputable def ztG(K:kb):V->Option Int->Option Int->Hp->VK->Prop:=fun x lo hi H Q=>∃ a xs,x=.ref a/\bp K H a xs/\∀ p,H p=none->Q (.ref p) (upd H p (.lst (lW xs lo hi)))
theorem zuk:uM X (ztG X.K):=by
 intro pins s σ H x v vl vu lo hi sl Q I rx hs pl pu h
 obtain⟨a,xs,rfl,hx,q⟩:=h
 cases rx
 obtain⟨its,r,ht,hz⟩:=I.list hx
 have hlen:=r.length
 refine⟨"list",_,slot_list_getitem.lookup,ht.isList.typeIs,?_⟩
 refine wpAny_getItem_list_slice ht.isList hs pl pu .none (by simp) ?_ (by rw [Bk] <;> omega)
 rw [zum,<- hlen]
 refine⟨.ref s.heap.objs.size,_,I.laid (t':=s.toks) (o:=.lst (lW xs lo hi)) (fun b ob q=>A1 _ q) (AO _) ?_,rfl,q _ (I.ax.fresh (AO _))⟩
 exact⟨By (zfD xs lo hi) hz,_,0,(r.drop (HT.aT xs.length 0 lo)).take (HT.aT xs.length xs.length hi-HT.aT xs.length 0 lo),Bv _ rfl⟩
noncomputable def mB:V->Bool
 | .non=>true
 | .bl _=>true
 | .int _=>true
 | .str _=>true
 | _=>false
noncomputable def nR:V->V->Bool
 | .non,.non=>true
 | .bl a,.bl b=>a==b
 | .bl a,.int b=>(if a then 1 else 0)==b
 | .int a,.bl b=>a==(if b then 1 else 0)
 | .int a,.int b=>a==b
 | .str a,.str b=>a==b
 | _,_=>false
theorem zl6(ry:RelV y u)(rx:RelV x v)(fy:mB y=true)(fx:mB x=true):HA A s u v (nR y x):=by
 cases y with
 | non =>
  cases ry
  cases x with
  | non=>cases rx;exact SeqAt.EqAt.same _
  | bl b=>cases rx;exact SeqAt.EqAt.none_bool b
  | int b=>obtain⟨t,rfl⟩:=rx;exact SeqAt.EqAt.none_int b t
  | str b=>obtain⟨t,rfl⟩:=rx;exact SeqAt.EqAt.none_str b t
  | _=>exact absurd (show false=true from fx) BU
 | bl a =>
  cases ry
  cases x with
  | non=>cases rx;exact SeqAt.EqAt.bool_none a
  | bl b=>cases rx;exact SeqAt.EqAt.bool_bool a b
  | int b=>obtain⟨t,rfl⟩:=rx;exact SeqAt.EqAt.bool_int a b t
  | str b=>obtain⟨t,rfl⟩:=rx;exact SeqAt.EqAt.bool_str a b t
  | _=>exact absurd (show false=true from fx) BU
 | int a =>
  obtain⟨t',rfl⟩:=ry
  cases x with
  | non=>cases rx;exact SeqAt.EqAt.int_none a t'
  | bl b=>cases rx;exact SeqAt.EqAt.int_bool a t' b
  | int b=>obtain⟨t,rfl⟩:=rx;exact IY a t' b t
  | str b=>obtain⟨t,rfl⟩:=rx;exact IH a t' b t
  | _=>exact absurd (show false=true from fx) BU
 | str a =>
  obtain⟨t',rfl⟩:=ry
  cases x with
  | non=>cases rx;exact SeqAt.EqAt.str_none a t'
  | bl b=>cases rx;exact SeqAt.EqAt.str_bool a t' b
  | int b=>obtain⟨t,rfl⟩:=rx;exact II a t' b t
  | str b=>obtain⟨t,rfl⟩:=rx;exact SeqAt.EqAt.str_str a t' b t
  | _=>exact absurd (show false=true from fx) BU
 | _=>exact absurd (show false=true from fy) BU
noncomputable def eqU(x:V)(u:gV):Bool:=match u with
 | .none=>nR .non x
 | .bool b=>nR (.bl b) x
 | .int i _=>nR (.int i) x
 | .str z _=>nR (.str z) x
 | _=>false
theorem zbC(r:RelV y u)(f:mB y=true):eqU x u=nR y x:=by
 cases y with
 | non=>cases r;rfl
 | bl b=>cases r;rfl
 | int i=>obtain⟨t,rfl⟩:=r;rfl
 | str z=>obtain⟨t,rfl⟩:=r;rfl
 | _=>exact absurd (show false=true from f) BU
theorem zht{A:AR}{s:ir}{x:V}{v:gV}(rx:RelV x v)(fx:mB x=true):∀{xs:List V} {us:List gV},Vals xs us->xs.all mB=true->∀ u∈us,HA A s u v (eqU x u)
 | _,_,.nil,_=>fun u hu=>by cases hu
 | y::xs,u::us,.cons r t,f=>fun u' hu=>by
  rw [FT,Bs] at f
  rcases A6.mp hu with rfl|hu
  ·rw [zbC r f.1];exact zl6 r rx f.1 fx
  ·exact zht rx fx t f.2 u' hu
theorem zfm:iu X (.builtin "len") (fun xs H Q=>∃ p ys,xs=[.ref p]/\(bp X.K H p ys\/dN X.K H p ys)/\Q (.int ys.length) H):=by
 intro pins s σ H xs us Q I r h
 obtain⟨p,ys,rfl,hq,q⟩:=h
 obtain⟨u,rfl,rx⟩:=vals1 r
 cases rx
 have hn:=vS
 rcases hq with hq|hq
 ·obtain⟨its,r',pl,hz⟩:=I.list hq
  have hlen:=r'.length
  exact Calls.call_len_list pl.isList (by simp only [Bk] <;> omega) ⟨.int ys.length,H,I.tok _,⟨s.toks+1,by rw [Bk,hlen]⟩,q⟩
 ·obtain⟨its,r',pl,hz⟩:=I.tuple hq
  have hlen:=r'.length
  exact len_tuple pl (by simp only [Bk] <;> omega) ⟨.int ys.length,H,I.tok _,⟨s.toks+1,by rw [Bk,hlen]⟩,q⟩
theorem zaS:iu X (.type "list") (fun xs H Q=>∃ p ys,xs=[.ref p]/\(bp X.K H p ys\/dN X.K H p ys)/\∀ l,H l=none->Q (.ref l) (upd H l (.lst ys))):=by
 intro pins s σ H xs us Q I r h
 obtain⟨p,ys,rfl,hq,q⟩:=h
 obtain⟨u,rfl,rx⟩:=vals1 r
 cases rx
 have fin:∀(its:List gV),Vals ys its->ys.length<=AU->∀(h':Az) (c':Nat),(∀ b o',s.heap.get? b=some o'->h'.get? b=some o') ->
   h'.get? s.heap.objs.size=some { cls:=.type "list",dict:=none,data:=.seq its.toArray c',slots:=#[] }->EP X pins σ Q (.ref s.heap.objs.size) { s with heap:=h' }:=fun its r' hz h' c' kp e =>
  ⟨.ref s.heap.objs.size,_,I.laid (t':=s.toks) kp (AO _) (show cE X.prog X.w _ h' _ (.lst ys) from⟨hz,its,c',r',e⟩),rfl,q _ (I.ax.fresh (AO _))⟩
 rcases hq with hq|hq
 ·obtain⟨its,r',pl,hz⟩:=I.list hq
  have hlen:=r'.length
  obtain⟨o,ho,hc,n,hd⟩:=pl.isList
  exact call_list_seq p (.inl rfl) ho hc hd (fun h' c' kp e=>fin its r' hz h' c' kp e) (by simp only [Bk] <;> omega)
 ·obtain⟨its,r',pl,hz⟩:=I.tuple hq
  have hlen:=r'.length
  obtain⟨o,ho,hc,n,hd⟩:=pl
  exact call_list_seq p (.inr rfl) ho hc hd (fun h' c' kp e=>fin its r' hz h' c' kp e) (by simp only [Bk] <;> omega)
theorem zfn:iu X (.type "tuple") (fun xs H Q=>∃ p ys,xs=[.ref p]/\((bp X.K H p ys/\∀ l,H l=none->Q (.ref l) (upd H l (.tup ys)))\/(dN X.K H p ys/\Q (.ref p) H))):=by
 intro pins s σ H xs us Q I r h
 obtain⟨p,ys,rfl,h⟩:=h
 obtain⟨u,rfl,rx⟩:=vals1 r
 cases rx
 rcases h with⟨hq,q⟩|⟨hq,q⟩
 ·obtain⟨its,r',pl,hz⟩:=I.list hq
  have hlen:=r'.length
  refine call_tuple_list pl.isList (fun h' kp=>?_) (by simp only [Bk] <;> omega)
  have I1:Inv X pins σ H { s with heap:=h' }:=I.kept (t':=s.toks) kp
  have I2:Inv X pins σ (upd H h'.objs.size (.tup ys)) { s with heap:=h'.push { cls:=.type "tuple",data:=.seq its.toArray } } :=
   I1.laid (t':=s.toks) (fun b o e=>A1 _ e) (AO _) (show cE X.prog X.w _ _ _ (.tup ys) from⟨hz,its,r',FJ _ _⟩)
  exact⟨.ref h'.objs.size,_,I2,rfl,q _ (I1.ax.fresh (AO _))⟩
 ·obtain⟨its,r',pl,hz⟩:=I.tuple hq
  exact call_tuple_same pl ⟨.ref p,H,I,rfl,q⟩
def tyV(K:kb)(T:String)(x:V)(H:Hp):Prop:=match x with
 | .str _=>T="str"
 | .int _=>T="int"
 | .ref p=>(T="list"/\∃ xs,bp K H p xs)\/(T="tuple"/\∃ o,K.lookup p=some o/\o.cls=.type "tuple"/\o.dict=none) \/
   (T="dict"/\((∃ aj,H p=some (.dK aj))\/∃ aj,H p=some (.dT aj)))\/(T="set"/\∃ S n,H p=some (.set S n))
 | _=>False
theorem zi7(I:Inv X pins σ H s)(r:RelV x v)(ty:tyV X.K T x H) :
  s.TypeIs v T/\∀ a,v=.ref a->∃ ob,s.heap.get? a=some ob/\ob.dict=none:=by
 cases x with
 | str z =>
  obtain⟨t,rfl⟩:=r
  cases (show T="str" from ty)
  exact⟨typeIs_str s z t,fun _ e=>nomatch e⟩
 | int i =>
  obtain⟨t,rfl⟩:=r
  cases (show T="int" from ty)
  exact⟨FU s i t,fun _ e=>nomatch e⟩
 | ref p =>
  cases r
  rcases ty with⟨rfl,xs,hq⟩|⟨rfl,o,hk,hc,hd⟩|⟨rfl,hk⟩|⟨rfl,S,n,hk⟩
  ·obtain⟨its,_,pl,_⟩:=I.list hq
   refine⟨pl.isList.typeIs,fun a e=>?_⟩
   cases e
   obtain⟨o,n,e,c,hd,_⟩:=pl
   exact⟨o,e,hd⟩
  ·refine⟨⟨o,I.dG p o hk,hc⟩,fun a e=>?_⟩
   cases e
   exact⟨o,I.dG _ o hk,hd⟩
  ·have z:∃ o,s.heap.get? p=some o/\o.ExactDict:=by
    rcases hk with⟨aj,hk⟩|⟨aj,hk⟩
    ·obtain⟨_,_,_,_,o,_,_,e,ex,_⟩:=I.ax p _ hk
     exact⟨o,e,ex⟩
    ·obtain⟨_,_,_,_,o,_,_,e,ex,_⟩:=I.ax p _ hk
     exact⟨o,e,ex⟩
   obtain⟨o,e,ex⟩:=z
   refine⟨⟨o,e,ex.1⟩,fun a e2=>?_⟩
   cases e2
   exact⟨o,e,ex.2.1⟩
  ·obtain⟨o,_,_,_,e,ex,_⟩:=I.ax p _ hk
   refine⟨⟨o,e,ex.1⟩,fun a e2=>?_⟩
   cases e2
   exact⟨o,e,ex.2.1⟩
 | _=>exact BQ ty
noncomputable def zuw(K:kb)(T:String)(r:V->List V->Hp->VK->Prop)(to:TE):TE:=fun σ H Q=>to σ H fun x H1=>tyV K T x H1/\r x [] H1 Q
noncomputable def tBM(K:kb)(T:String)(r:V->List V->Hp->VK->Prop)(to:TE)(t:TA):TE:=fun σ H Q=>to σ H fun x H1=>tyV K T x H1/\t σ H1 fun xs H2=>r x xs H2 Q
variable {o:Av}{apos cv:AD}{id:String}
theorem zqQ(pa:PlainAttrs T)(slot:Slot T name id)(hty:typeOf (.builtin id)=pure (.type "method_descriptor")) (hm:MtR X id r) (ho:PE X o to)
  (kj:Dq o name X.env (AB o X.env)=AB o X.env:=by rfl) (qA:(apos.endLine==cv.line)=true:=by rfl):PE X (.Call (.Attribute o name apos) [] [] cv) (zuw X.K T r to):=by
 intro pins s σ H Q I h
 refine wpAny_Call_method0_late kj qA (aE (ho pins s σ H _ I h) fun v s1 ⟨x,H1,I1,r1,ty,q1⟩=>?_)
 obtain⟨h1,h2⟩:=zi7 I1 r1 ty
 exact⟨T,id,pa,slot,hty,h1,h2,Jb rfl (PySem.evalArgs_none (hm pins s1 σ H1 x [] v [] Q I1 r1 .nil q1))⟩
theorem zqP(pa:PlainAttrs T)(slot:Slot T name id)(hty:typeOf (.builtin id)=pure (.type "method_descriptor")) (hm:MtR X id r) (ho:PE X o to) (ha:PA X (e::es) t)
  (kj:Dq o name X.env (AB o X.env)=AB o X.env:=by rfl)
  (zb1:((A7 cv (Aw (e::es) X.env)).all (fun x=>!x.1)&&(Fg cv (Fh [] X.env)).all (fun x=>x.1.isSome)
   && decide ((e::es).length+([]:List Keyword).length+(if([]:List Keyword).isEmpty then 0 else 1)<30))=true:=by rfl)
  (qA:(apos.endLine==cv.line)=true:=by rfl) (hs:Aw (e::es) X.env=(false,AB e X.env)::Aw es X.env:=by rfl) (vH:(A7 cv (Aw es X.env)).any (·.1)=false:=by rfl) :
  PE X (.Call (.Attribute o name apos) (e::es) [] cv) (tBM X.K T r to t):=by
 intro pins s σ H Q I h
 refine wpAny_Call_method_late kj zb1 qA rfl (aE (ho pins s σ H _ I h) fun v s1 ⟨x,H1,I1,r1,ty,q1⟩=>?_)
 obtain⟨h1,h2⟩:=zi7 I1 r1 ty
 refine⟨T,id,pa,slot,hty,h1,h2,?_⟩
 have hA:=ha cv pins s1 σ H1 _ I1 q1
 rw [hs] at hA ⊢
 refine Jb (by show(false||(A7 cv (Aw es X.env)).any (·.1))=false;rw [vH] <;> rfl) (Jc ?_)
 exact aE hA fun us s2 ⟨vs,H2,I2,r2,q2⟩=>hm pins s2 σ H2 x vs v us Q I2 r1 r2 q2
end
end
variable {f:Array gV->Array gV}{t':Nat}
section
def MtM(X:Cx)(id:String)(r:V->List V->Hp->VK->Prop):Prop :=
 ∀(pins:List (dm×AA)) (s:ir) (σ:St) (H:Hp) (x:V) (xs:List V) (v:gV) (us:List gV) (Q:VK),Inv X pins σ H s->RelV x v->Vals xs us->r x xs H Q ->
  Ax (Ay X.prog X.w) X.A (call (.builtin id) (v::us)) (EP X pins σ Q) X.xe s
theorem Vals.one:∀{x:V} {us:List gV},Vals [x] us->∃ u,us=[u]/\RelV x u
 | _,_,.cons r .nil=>⟨_,rfl,r⟩
theorem Vals.zero:∀{us:List gV},Vals [] us->us=[]
 | _,.nil=>rfl
theorem Vals.rep{xs:List V}{us:List gV}(h:Vals xs us):∀ k:Nat,Vals (AI k xs).flatten (AI k us).flatten
 | 0=>.nil
 | k+1=>by
  rw [Dy,Dy,Fp,Fp]
  exact Vals.append h (Vals.rep h k)
theorem foldl_rep(its:List gV):∀(k:Nat) (acc:List gV),
  FW (fun x1 x2=>x1++x2) acc.toArray (AI k its.toArray)=(acc++(AI k its).flatten).toArray
 | 0,acc=>by simp
 | k+1,acc=>by
  have e:acc.toArray++its.toArray=(acc++its).toArray:=by simp
  have e2:(acc++its)++(AI k its).flatten=acc++(AI (k+1) its).flatten:=by
   rw [Dy,Fp,List.append_assoc]
  rw [<- e2,<- foldl_rep its k (acc++its),<- e,Dy,Fq]
section
variable {l b:dm}{zs:List V}
theorem Inv.zhl(I:Inv X pins σ H s)(hH:H l=some (.lst xs))
  (e:s.heap.get? l=some { cls:=.type "list",data:=.seq its.toArray n }) (hf:f its.toArray=iI.toArray) (hv:Vals ys iI) (hz:ys.length<=AU) :
  Inv X pins σ (upd H l (.lst ys)) { s with heap:=s.heap.update l (BZ f),toks:=t' }:=by
 have q:=PySem.IsL.update e f
 rw [hf] at q
 refine I.write (x:=l) (e:=l) (by rw [hH];exact trivial) (.inl rfl) (fun b' u hb hu=>(Ex s.heap (BZ f) (BK hb)).trans hu) ⟨_,q⟩ ?_
 exact⟨hz,iI,_,hv,q⟩
theorem Inv.zha(I:Inv X pins σ H s)(hv:Vals ys its)(hz:ys.length<=AU) :
  Inv X pins σ (upd H s.heap.objs.size (.lst ys)) { s with heap:=s.heap.push { cls:=.type "list",data:=.seq its.toArray },toks:=t' } :=
 I.laid (fun _ _ q=>A1 _ q) (AO _) ⟨hz,its,0,hv,Bv _ rfl⟩
theorem Inv.fresh(I:Inv X pins σ H s):H s.heap.objs.size=none:=I.ax.fresh (AO _)
theorem Inv.zcR(I:Inv X pins σ H s)(hH:H l=some (.lst xs)):xs.length<=AU/\∃(its:List gV) (n:Nat),Vals xs its/\xs.length=its.length/\s.heap.get? l=some { cls:=.type "list",data:=.seq its.toArray n }:=by
 obtain⟨z,its,n,r,e⟩:=I.ax l _ hH
 exact⟨z,its,n,r,r.length,e⟩
theorem zpY(h:n<=AU):HI n=false:=by
 unfold HI
 exact decide_eq_false (by omega)
end
section
noncomputable def ztt:V->List V->Hp->VK->Prop:=fun x vs H Q=>∃ l xs y,x=.ref l/\vs=[y]/\H l=some (.lst xs)/\xs.length<AU/\Q .non (upd H l (.lst (xs++[y])))
theorem zhy:MtM X "list.append" ztt:=by
 intro pins s σ H x vs v us Q I rx rv h
 obtain⟨l,xs,y,rfl,rfl,hH,hz,q⟩:=h
 cases rx
 obtain⟨u,rfl,ru⟩:=rv.one
 obtain⟨z,its,n,r,hl,e⟩:=I.zcR hH
 refine Ez F.slot_list_append ⟨_,e,rfl⟩ F.entry_list_append (F.args_list_append_2 _ _) (PySem.list_append l its.toArray n u (by rw [Bk];omega)) ⟨e,?_⟩
 refine⟨.non,_,I.zhl (iI:=its++[u]) hH e (by simp) (r.append (.cons ru .nil)) ?_,rfl,q⟩
 rw [B6,DM]
 omega
noncomputable def ztv:V->List V->Hp->VK->Prop:=fun x vs H Q=>∃ l xs,x=.ref l/\vs=[]/\H l=some (.lst xs)/\Q .non (upd H l (.lst []))
theorem zpK:MtM X "list.clear" ztv:=by
 intro pins s σ H x vs v us Q I rx rv h
 obtain⟨l,xs,rfl,rfl,hH,q⟩:=h
 cases rx
 have hus:=rv.zero
 subst hus
 obtain⟨z,its,n,r,hl,e⟩:=I.zcR hH
 refine Ez F.slot_list_clear ⟨_,e,rfl⟩ F.entry_list_clear (F.args_list_clear_1 _) (AutoSeq1.list_clear_list_0 l its.toArray n (by rw [Bk];omega)) ⟨e,?_⟩
 exact⟨.non,_,I.zhl (iI:=[]) (ys:=[]) hH e rfl .nil (B2 _),rfl,q⟩
noncomputable def ztE:R2:=fun x y H Q=>∃ l k xs,x=.ref l/\y=.int k/\H l=some (.lst xs)/\-(2^63)<=k/\k<2^63/\xs.length*k.toNat<=AU /\
 ∀ p,H p=none->Q (.ref p) (upd H p (.lst (AI k.toNat xs).flatten))
theorem len_rep(xs:List α)(k:Nat):(AI k xs).flatten.length=k*xs.length:=by
 induction k with
 | zero=>simp
 | succ k ih=>rw [Dy,Fp,B6,ih,Nat.succ_mul,HJ]
theorem zqC:aV X (Cg .Mult) ztE:=by
 intro pins s σ H x y v u Q I rx ry h
 obtain⟨l,k,xs,rfl,rfl,hH,h1,h2,hz,q⟩:=h
 cases rx
 obtain⟨t,rfl⟩:=ry
 obtain⟨z,its,n,r,hl,e⟩:=I.zcR hH
 have hlen:its.toArray.size*k.toNat<=AU:=by rw [Bk,<- hl];exact hz
 have zmZ:¬ its.toArray.size*k.toNat > (2^63-1) / 8:=by
  have:(AU:Nat)<=(2^63-1) / 8:=by decide
  omega
 have zm3:¬ (!Builtin.List.listFitsIndex k)=true:=by
  rw [fitsIndex_both h1 h2]
  exact BU
 have znb:¬ HI (its.toArray.size*k.toNat)=true:=by
  rw [zpY hlen]
  exact BU
 have znc:FW (fun x1 x2=>x1++x2) #[] (AI (if its.toArray.isEmpty=true then 0 else k.toNat) its.toArray)=(AI k.toNat its).flatten.toArray:=by
  have f0:∀ m:Nat,FW (fun x1 x2=>x1++x2) #[] (AI m its.toArray)=(AI m its).flatten.toArray:=fun m=>by
   have:=foldl_rep its m []
   rw [BA] at this
   exact this
  rw [f0]
  cases its with
  | nil=>simp
  | cons a r'=>rw [if_neg (by simp)]
 refine Jd (T:="list") (U:="int") (by decide) ⟨_,e,rfl⟩ (fun s'=>FU s' k t) noFill_list_mul F.fills_int_mul F.slot_int_rmul repeat_list F.slot_int_index.lookup
  (Ez F.slot_int_rmul (FU s k t) F.entry_int_rmul (F.args_int_rmul_2 _ _) (int___rmul___int_list k t l its.toArray n)
   ⟨e,rfl,⟨_,e,rfl⟩,Ez F.slot_list_mul ⟨_,e,rfl⟩ F.entry_list_mul (F.args_list_mul_2 _ _) (AutoListH.list___mul___list_int_3 l its.toArray n k t zm3 zmZ znb) ⟨e,?_⟩⟩)
 rw [znc]
 exact⟨.ref _,_,I.zha (t':=s.toks) (r.rep k.toNat) (by rw [len_rep,FX];exact hz),rfl,q _ I.fresh⟩
end
end
end L2
namespace Att
open PySem PySem.W PySem.Calls PyProof.Rows
variable {args:List WData}{q:AK}{n:Nat}{YP:AJ->Az->Prop}{vals:List gV}{loose:List ib}{l:OpenLaw}{h:Az}{d:DefRec}{P:Params}
theorem zns:∀(ns:List Int) (vs:List gV),WellAll P h vs (ns.map WData.int)->CD vs ns:=by
 intro ns
 induction ns with
 | nil =>
  intro vs w
  rw [CF] at w
  cases w
  exact .nil
 | cons n ns ih =>
  intro vs w
  rw [A2] at w
  cases w with
  | cons a b =>
   cases a
   exact .cons _ _ (ih _ b)
theorem zub(hn:l.most=some n)
  (yN:l.row.toRowW.claim.pre args=true)(hwl:WellAll P h vals args) :
  ∃ a vs ns,vals=[A8 a]/\args=[WData.list (ns.map WData.int)]/\h.get? a=some { cls:=.type "list",data:=.seq vs.toArray }/\CD vs ns/\ns.length<=n:=by
 have hsh:WShape.hasAll [] args [.list .int]=true:=(pre_splitW yN).1
 have hc:l.pre.holds [] { args:=args }=true:=(pre_splitW yN).2
 obtain⟨d,r,rfl,h1,h2⟩:=hasAllW_cons hsh
 obtain rfl:=hasAllW_nil h2
 obtain⟨xs,rfl,h3⟩:=hasW_list h1
 obtain⟨ns,rfl⟩:=items_int h3
 have hlen:ns.length<=n:=by
  unfold OpenLaw.pre at hc
  have h4:(WTm.not (.lt (.lit (.int n)) (.len (.arg 0)))).holds [] { args:=[.list (ns.map .int)] }=true:=by
   have h4:=(holds_andW hc).1
   rw [hn] at h4
   exact h4
  have h5:=condW_of h4 (w_not (w_lt w_lit (w_len_list (w_arg rfl))))
  rw [Bc] at h5
  refine Nat.le_of_not_lt fun q=>?_
  have q':(n:Int)<((ns.length:Nat):Int):=by omega
  first
   | (rw [decide_eq_true q'] at h5;exact absurd h5 (by decide))
   | (simp at h5;omega)
 cases hwl with
 | cons w1 w2 =>
  cases w2
  cases w1 with
  | list ho hall=>exact⟨_,_,ns,rfl,rfl,ho,zns ns _ hall,hlen⟩
theorem zrB(l:OpenLaw)(args:List WData):l.row.toRowW.claim.post args (.bool true) args=true :=
 postW_of (r:=l.row.toRowW) (X:=(true==true))
  (show WShape.has [] (.bool true) .bool=true by first|rfl|decide|simp [WShape.has,WShape.arms,WShape.armsAll])
  (show(WTm.eq .res (.lit (.bool true))).value [] { args:=args,res:=some (.bool true),after:=args }=some (.bool (true==true)) from w_eq_bool (w_res rfl) w_lit) rfl
theorem zkk{XP:(ib->Option gV)->Az->Prop}
  (hn:l.most=some n)(vz:d.params.defaults=[])
  (call:∀(w:AJ) (s₀ s₁:ir) (mg mb:ib->Option gV) (fa:dm) (o:AA) (pm cd doc:gV) (a:dm) (vs:List gV) (ns:List Int),
   Ground q loose [] XP w s₀ mg mb s₁.heap->YP w s₁.heap ->
   s₁.heap.get? fa=some o->o.data=.func (docDef d.name d.params d.body d.scope pm cd doc)->s₁.heap.CodeRec cd d.name->mg d.name=some (.ref fa) ->
   s₁.heap.get? a=some { cls:=.type "list",data:=.seq vs.toArray }->CD vs ns->ns.length<=n->s₁.gens=#[] ->
   Dc (Ay l.prog w) EA (.call (.ref fa) ⟨[.ref a],[]⟩) (fun r s'=>r=.ok (.ret (.bool true))/\OldK s₁.heap s'.heap/\s'.os=s₁.os/\Dm s'.gens) s₁) :
  WalkO q loose XP YP l.row.toRowW d [] (fun f vs=>HK f vs):=by
 intro w s₀ s₁ mg mb G Y fa o pm cd doc dV kV ho hd fi hD hmg hg args vals as yN zvI hrd hwl hlo
 obtain rfl:dV=.none:=Dflts.none hD vz
 obtain rfl:kV=.none:=Dflts.noKw hD
 obtain⟨a,vs,ns,rfl,rfl,zcv,hints,hlen⟩:=zub hn yN hwl
 refine enter_call (Ff (call w s₀ s₁ mg mb fa o pm cd doc a vs ns G Y ho (fd_plain hd) fi hmg zcv hints hlen hg) fun r s' hq=>?_)
 obtain⟨rfl,h2,h3,h4⟩:=hq
 exact⟨.inl ⟨.bool true,.bool true,[],rfl,fun _=>rfl,.bool true,zrB l _,fun _=>⟨Je,fun _ hm=>(nomatch hm)⟩⟩,h2,h3,h4⟩
end Att
namespace L2
open PySem PySem.Spec PyProof.Rows
section
theorem zjc:∀{vs:List gV} {ns:List Int},CD vs ns->Vals (ns.map V.int) vs
 | _,_,.nil=>.nil
 | _,_,.cons n t h=>.cons ⟨t,rfl⟩ (zjc h)
end
section
abbrev KOf{K:kb}{h:Az}(_:K.In h):kb:=K
end
variable {k n:Nat}{P:AK}{N ps:List ib}{X:Cx}{fd:A9}{w:AJ}{A B:Prop}{il:Array (Option gV)}{base:Az}{pos:AD}{qual x:ib}{f:dm}{oc:gV}{mg:ib->Option gV}{H:Hp}
section
noncomputable def fU(s:AQ):Arguments:=match s with
 | .FunctionDef _ a _ _ _ _ _ _ _ _=>a
 | _=>{ posonlyargs:=[],args:=[],vararg:=none,kwonlyargs:=[],kw_defaults:=[],kwarg:=none,defaults:=[] }
noncomputable def bZ(s:AQ):List AQ:=match s with
 | .FunctionDef _ _ b _ _ _ _ _ _ _=>b
 | _=>[]
noncomputable def aM(s:AQ):BF:=match s with
 | .FunctionDef _ _ _ _ _ _ sc _ _ _=>sc
 | _=>{ kind:=.function,names:=[],isGenerator:=false,isCoroutine:=false }
abbrev lK:jB:=fun _ _ _ _ _ _=>False
abbrev E0:XK:=fun _ _ _=>False
structure cM(K:kb)(x qual:ib)(st:AQ)(f:dm)(fd:A9):Prop where
 ex:∃(oc:gV) (od:Option dm) (kV doc pm:gV) (an:Option dm) (av ct:gV) (il:Array (Option gV)),
  fd=BX x qual (fU st) (bZ st) (aM st) .none kV doc pm an av ct/\K.lookup f=some ⟨oc,od,.func fd,il⟩/\Du K av qual=true
 kp:CQ K (.ref f)=true
section
variable {K:kb}
theorem cM.ok{st:AQ}{sp:Sp}(F:cM K x qual st f fd)(S:eY N ps (aM st))(len:∀ vs H Q E,sp vs H Q E->vs.length=ps.length)
  (vx:∀(av:gV) (A:AR) (outer:List AY) (s:ir) (H:Hp) (vs:List V) (Q:VK) (E:XK),aQ k (A.deeper (BG qual (aM st) s.heap.objs.size f av))->sp vs H Q E ->
   ∃ t,bW (dB lK P w K mg base N qual (aM st) f av A outer s H E).cF (bZ st) t/\t { nx:=fun _ H'=>Q .non H',rt:=Q } (start N vs) H):cA P w K mg base lK (k+1) f fd ps sp:=by
 obtain⟨oc,od,kV,doc,pm,an,av,ct,il,rfl,lk,fi⟩:=F.ex
 refine zgd lk fi S len fun A outer s H vs Q E hr oj=>?_
 obtain⟨t,h,q⟩:=vx av A outer s H vs Q E hr oj
 exact⟨t,h.cF,q⟩
theorem cM.binds{st:AQ}(F:cM K x qual st f fd)
  (h:∀(kV doc pm:gV) (an:Option dm) (av ct:gV) (us:List gV),us.length=ps.length->CU (BX x qual (fU st) (bZ st) (aM st) .none kV doc pm an av ct) ⟨us,[]⟩=pure (ps.zip us)):Binds K fd ps []:=by
 obtain⟨oc,od,kV,doc,pm,an,av,ct,il,rfl,lk,fi⟩:=F.ex
 exact .all (h kV doc pm an av ct)
theorem vj{st:AQ}{od an:Option dm}{kV doc pm av ct:gV}(l:K.lookup f=some ⟨oc,od,.func (BX x qual (fU st) (bZ st) (aM st) .none kV doc pm an av ct),il⟩)
  (c:Du K av qual=true)(k:CQ K (.ref f)=true):cM K x qual st f (BX x qual (fU st) (bZ st) (aM st) .none kV doc pm an av ct):=⟨⟨oc,od,kV,doc,pm,an,av,ct,il,rfl,l,c⟩,k⟩
end
theorem zup(h:n<=1000):n<AU:=Ea h (by decide)
section
theorem pv(i:Nat)(hN:X.N[i]?=some x:=by rfl)(hv:xD X.env.scope x:=by first|exact Dg rfl|exact CZ (Dg rfl)|exact CZ (CZ rfl))(hd:(x==("__debug__":ib))=false:=by decide)
  (fi:(x==("__classdict__":ib))=false:=by decide):PE X (.Name x pos) (bL i):=zhZ hN hv hd fi
end
theorem kW(h:B):if false=true then A else B:=by
 rw [if_neg BU]
 exact h
theorem kX(h:A):if true=true then A else B:=by
 rw [if_pos rfl]
 exact h
def aC(H H':Hp):Prop:=∀ b o,H b=some o->H' b=some o
theorem aC.refl(H:Hp):aC H H:=fun _ _ h=>h
theorem aC.trans{H1 H2:Hp}(a:aC H H1)(b:aC H1 H2):aC H H2:=fun c o h=>b c o (a c o h)
end
variable {s:ir}{pins:List (dm×AA)}{σ:St}{a:Nat}{A:AR}
section
theorem bits_le{k:Int}(h:k.natAbs<2^a):GD k<=a:=by
 unfold GD
 split
 ·exact B2 _
 ·rename_i h0
  have hp:k.natAbs≠0:=by
   intro z
   apply h0
   have:k=0:=by omega
   subst this
   rfl
  have:=(Nat.log2_lt hp).mpr h
  omega
theorem mulOk_of{i j:Int}{b:Nat}(hi:i.natAbs<2^a)(hj:j.natAbs<2^b)(h:a+b<=134217728):IntMulOk i j:=by
 have h1:=bits_le hi
 have h2:=bits_le hj
 have h3:Jf ((GD i:Int)+(GD j:Int))=false:=by
  unfold Jf
  rw [bitsLine_eq]
  simp
  omega
 unfold IntMulOk
 rw [h3]
 simp
section
theorem zqz:aV X (Cg .Mult) (rI IntMulOk fun i j=>.int (i*j)):=opI fun _ _ _ _ _ _ _ hc q=>mul_int q hc
end
mutual
/-- the value v is the thing d in the abstract heap -/
def Is(K:kb)(H:Hp):A4->V->Prop
 | .none,v=>v=.non
 | .bool b,v=>v=.bl b
 | .int i,v=>v=.int i
 | .str x,v=>v=.str x
 | .list xs,v=>∃ a vs,v=.ref a/\bp K H a vs/\i9 K H xs vs
 | .tuple xs,v=>∃ a vs,v=.ref a/\dN K H a vs/\i9 K H xs vs
 | .dict _,_=>False
def i9(K:kb)(H:Hp):List A4->List V->Prop
 | [],vs=>vs=[]
 | d::ds,vs=>∃ v r,vs=v::r/\Is K H d v/\i9 K H ds r
end
section
mutual
theorem Is.reads(I:Inv X pins σ H s):∀(d:A4) (v:V) (u:gV),Is X.K H d v->RelV v u->∃ as,Reads s.heap u d as
 | .none,v,u,h,r=>by
  simp only [Is] at h;subst h
  cases (show u=Br from r)
  exact⟨_,.none⟩
 | .bool b,v,u,h,r=>by
  simp only [Is] at h;subst h
  cases (show u=C6 b from r)
  exact⟨_,.bool b⟩
 | .int i,v,u,h,r=>by
  simp only [Is] at h;subst h
  obtain⟨t,rfl⟩:=(show ∃ t,u=D1 i t from r)
  exact⟨_,.int i t⟩
 | .str x,v,u,h,r=>by
  simp only [Is] at h;subst h
  obtain⟨t,rfl⟩:=(show ∃ t,u=EX x t from r)
  exact⟨_,.str x t⟩
 | .list xs,v,u,h,r=>by
  simp only [Is] at h
  obtain⟨a,vs,rfl,h1,h2⟩:=h
  cases (show u=A8 a from r)
  obtain⟨its,rv,⟨o,n,ho,hc,_,hd⟩,_⟩:=I.list h1
  obtain⟨as,ra⟩:=i9.reads I xs vs its h2 rv
  exact⟨_,.list ho hc hd (by simpa using ra)⟩
 | .tuple xs,v,u,h,r=>by
  simp only [Is] at h
  obtain⟨a,vs,rfl,h1,h2⟩:=h
  cases (show u=A8 a from r)
  obtain⟨its,rv,⟨o,ho,hc,n,hd⟩,_⟩:=I.tuple h1
  obtain⟨as,ra⟩:=i9.reads I xs vs its h2 rv
  exact⟨_,.tuple ho hc hd (by simpa using ra)⟩
 | .dict _,v,u,h,r=>by simp only [Is] at h
theorem i9.reads(I:Inv X pins σ H s):∀(ds:List A4) (vs:List V) (us:List gV),i9 X.K H ds vs->Vals vs us->∃ as,ReadsAll s.heap us ds as
 | [],vs,us,h,r=>by
  simp only [i9] at h;subst h
  cases r
  exact⟨_,.nil⟩
 | d::ds,vs,us,h,r=>by
  simp only [i9] at h
  obtain⟨v,rr,rfl,h1,h2⟩:=h
  cases r with
  | cons r1 r2 =>
   obtain⟨as,q1⟩:=Is.reads I d v _ h1 r1
   obtain⟨bs,q2⟩:=i9.reads I ds rr _ h2 r2
   exact⟨_,.cons q1 q2⟩
end
end
section
noncomputable def ztw(K:kb):R2:=fun x y H Q=>∃ d e,Is K H d x/\Is K H e y/\Dz d=true/\Dz e=true/\Q (.bl (DN d e)) H
noncomputable def ztC(K:kb):R2:=fun x y H Q=>∃ d e,Is K H d x/\Is K H e y/\Dz d=true/\Dz e=true/\Q (.bl (!DN d e)) H
theorem zqr(hu:X.A.units+64<BV):aV X (A3 .Eq) (ztw X.K):=by
 intro pins s σ H x y v u Q I rx ry h
 obtain⟨d,e,h1,h2,c1,c2,q⟩:=h
 obtain⟨as,ra⟩:=Is.reads I d x v h1 rx
 obtain⟨bs,rb⟩:=Is.reads I e y u h2 ry
 exact SeqAt.compareEq_shaped ra rb c1 c2 hu ⟨.bl _,H,I,rfl,q⟩
theorem zqA(hu:X.A.units+64<BV):aV X (A3 .NotEq) (ztC X.K):=by
 intro pins s σ H x y v u Q I rx ry h
 obtain⟨d,e,h1,h2,c1,c2,q⟩:=h
 obtain⟨as,ra⟩:=Is.reads I d x v h1 rx
 obtain⟨bs,rb⟩:=Is.reads I e y u h2 ry
 exact SeqAt.compareNe_shaped ra rb c1 c2 hu ⟨.bl _,H,I,rfl,q⟩
end
end
variable {E Q:gV->ir->Prop}{y:V}{c u:gV}{b:Bool}
section
inductive Ty(K:kb)(H:Hp):V->gV->Prop where
 | non:Ty K H .non (.type "NoneType")
 | bl (x:Bool):Ty K H (.bl x) (.type "bool")
 | int (i:Int):Ty K H (.int i) (.type "int")
 | str (x:ib):Ty K H (.str x) (.type "str")
 | lst {a:dm} {xs:List V} (e:bp K H a xs):Ty K H (.ref a) (.type "list")
 | tup {a:dm} {xs:List V} (e:dN K H a xs):Ty K H (.ref a) (.type "tuple")
noncomputable def nM:V->gV
 | .ty n=>.type n
 | .ref a=>.ref a
 | _=>.none
theorem zfx(r:RelV y u)(h:nM y≠.none):u=nM y:=by
 cases y with
 | ty n=>exact r
 | ref a=>exact r
 | _=>exact absurd rfl h
section
theorem znx{x:V}{t:gV}(I:Inv X pins σ H s)(rx:RelV x u)(ty:Ty X.K H x t)(e:Bh X.K t c=some b)(h:∀ tk,Q (.bool b) { s with toks:=tk }) :
  Ax (Ay X.prog X.w) A (call (.builtin "isinstance") [u,c]) Q E s:=by
 cases ty with
 | non=>cases (show u=Br from rx);exact EB PySem.W.kitx_none I.dG D6 e (fun z=>nomatch z) h
 | bl y=>cases (show u=C6 y from rx);exact EB PySem.W.kitx_bool I.dG D6 e (fun z=>nomatch z) h
 | int i=>obtain⟨t,q⟩:=(show ∃ t,u=D1 i t from rx);cases q;exact EB PySem.W.kitx_int I.dG D6 e (fun z=>nomatch z) h
 | str y=>obtain⟨t,q⟩:=(show ∃ t,u=EX y t from rx);cases q;exact EB PySem.W.kitx_str I.dG D6 e (fun z=>nomatch z) h
 | @lst a xs ea =>
  cases (show u=A8 a from rx)
  obtain⟨its,_,⟨o,n,ho,hc,_⟩,_⟩:=I.list ea
  exact EB PySem.W.kitx_list I.dG ⟨o,ho,hc⟩ e (fun z=>nomatch z) h
 | @tup a xs ea =>
  cases (show u=A8 a from rx)
  obtain⟨its,_,⟨o,ho,hc,_⟩,_⟩:=I.tuple ea
  exact EB PySem.W.kitx_tuple I.dG ⟨o,ho,hc⟩ e (fun z=>nomatch z) h
noncomputable def zty(K:kb):List V->Hp->VK->Prop:=fun xs H Q=>∃ x y t b,xs=[x,y]/\nM y≠.none/\Ty K H x t/\Bh K t (nM y)=some b/\Q (.bl b) H
theorem zfl:iu X (.builtin "isinstance") (zty X.K):=by
 intro pins s σ H xs us Q I r h
 obtain⟨x,y,t,b,rfl,hy,ty,e,q⟩:=h
 obtain⟨u,v,rfl,ru,rv⟩:=vals2 r
 cases zfx rv hy
 exact znx I ru ty e fun tk=>⟨.bl b,H,I.tok tk,rfl,q⟩
theorem zde{n:String}(hg:Gl X x)(hm:X.mg x=none)(hv:Bo x=some (.type n))(hn:x ≠ "__name__":=by decide) (hd:(x==("__debug__":ib))=false:=by decide):PE X (.Name x pos) (tC (.ty n)):=zqO hg hm hv rfl hn hd
theorem zkQ(hc:X.calm=true):iu X (.builtin "sum") (fun xs H Q=>∃(a:dm) (ns:List Int),xs=[.ref a]/\bp X.K H a (ns.map V.int)/\Q (.int ns.sum) H):=by
 intro pins s σ H xs us Q I r h
 obtain⟨a,ns,rfl,hq,q⟩:=h
 obtain⟨u,rfl,ru⟩:=vals1 r
 cases (show u=A8 a from ru)
 obtain⟨its,rv,p,hz⟩:=I.list hq
 have hi:=intsAre_of rv
 obtain⟨xs,e⟩:=hi.allInts.items
 have en:ns=List.map (fun x=>x.fst) xs.toList:=by
  have h1:=nums_intItems xs
  rw [<- e] at h1
  rw [<- h1,show its.toArray.toList=its from rfl,hi.numsOf]
 refine sum_intListG (xs:=xs) (I.ok.hd hc) (by rw [<- e];exact p.isList) fun h' tk t' hk=>⟨.int ns.sum,H,I.kept hk,?_,q⟩
 refine⟨t',?_⟩
 rw [preSum_eq,HL (by simp),en]
noncomputable def ztx(K:kb):V->List V->Hp->VK->Prop:=fun x vs H Q=>∃(l:dm) (xs:List V) (y z:V) (j:Nat),x=.ref l/\vs=[y]/\bp K H l xs/\mB y=true/\xs.all mB=true /\
 xs[j]?=some z/\nR z y=true/\(∀(m:Nat) (w:V),m<j->xs[m]?=some w->nR w y=false)/\Q (.int j) H
theorem zpL:MtM X "list.index" (ztx X.K):=by
 intro pins s σ H x vs v us Q I rx rv h
 obtain⟨l,xs,y,z,j,rfl,rfl,hS,fy,fx,hj,hz,hno,q⟩:=h
 cases rx
 obtain⟨u,rfl,ru⟩:=rv.one
 obtain⟨its,r,⟨o,n,ho,hc,fJ,hd⟩,hle⟩:=I.list hS
 obtain⟨c,dd,dt,sl⟩:=o
 cases hc
 cases fJ
 cases hd
 obtain⟨jz,hjz,rz⟩:=r.get hj
 have hjl:j<its.length:=(Bf.mp hjz).1
 have hjx:j<xs.length:=(Bf.mp hj).1
 have fz:mB z=true:=C0.mp fx z (CY hj)
 refine Ez F.slot_list_index ⟨_,ho,rfl⟩ F.entry_list_index (F.args_list_index_2 _ _)
  (SeqAt.list_indexAt l its.toArray n none sl u (eqU y) j (by simpa using hjl) (by rw [BR] at hle;omega) ?_ ?_) ⟨ho,?_,?_⟩
 ·have e1:its.toArray[j]'(by simpa using hjl)=jz:=by
   have:=Bf.mp hjz
   simpa using this.2
  rw [e1,zbC rz fz]
  exact hz
 ·intro m hm hmj
  have mI:m<its.length:=by simpa using hm
  have hmx:m<xs.length:=by rw [r.length];exact mI
  obtain⟨um,hum,rm⟩:=r.get (i:=m) (x:=xs[m]) (by simp [hmx])
  have e1:its.toArray[m]'hm=um:=by
   have:=Bf.mp hum
   simpa using this.2
  have fm:mB xs[m]=true:=C0.mp fx _ (List.getElem_mem hmx)
  rw [e1,zbC rm fm]
  exact hno m xs[m] hmj (by simp [hmx])
 ·intro w hw
  exact zht ru fy r fx w (by simpa using hw)
 ·exact⟨.int j,H,I.tok _,⟨_,rfl⟩,q⟩
end
end
variable {c:Av}{scope:BF}{Q:Unit->ir->Prop}{env:AY}
section
noncomputable def fe(cells:List (ib×dm)):List (ib×Cv)->List (ib×dm)->List (ib×dm)
 | [],acc=>acc
 | (n,k)::r,acc=>if k=.free then(match cells.lookup n with|some a=>fe cells r ((n,a)::acc)|none=>fe cells r acc) else fe cells r acc
theorem yg{cells:List (ib×dm)}:∀{names:List (ib×Cv)} {acc:List (ib×dm)},(∀ p∈acc,cells.lookup p.1=some p.2)->∀ p∈fe cells names acc,cells.lookup p.1=some p.2
 | [],acc,h,p,hp=>h p hp
 | (n,k)::r,acc,h,p,hp=>by
  unfold fe at hp
  split at hp
  ·split at hp
   ·rename_i a e
    exact yg (names:=r) (acc:=(n,a)::acc) (fun q hq=>by
     rcases A6.mp hq with rfl|hq
     ·exact e
     ·exact h q hq) p hp
   ·exact yg h p hp
  ·exact yg h p hp
theorem yf{cells:List (ib×dm)}:∀{names:List (ib×Cv)} {acc:List (ib×dm)},∀ p∈acc,p∈fe cells names acc
 | [],acc,p,hp=>hp
 | (n,k)::r,acc,p,hp=>by
  unfold fe
  split
  ·split
   ·exact yf p (Bp _ hp)
   ·exact yf p hp
  ·exact yf p hp
theorem uX{cells:List (ib×dm)}{x:ib}{a:dm}(e:cells.lookup x=some a):∀{names:List (ib×Cv)} {acc:List (ib×dm)},(x,DQ)∈names->(x,a)∈fe cells names acc
 | (n,k)::r,acc,h=>by
  unfold fe
  rcases A6.mp h with h|h
  ·cases h
   rw [if_pos rfl,e]
   exact yf _ (Bu ..)
  ·split
   ·split
    ·exact uX e h
    ·exact uX e h
   ·exact uX e h
theorem vU{α:Type}{x:ib}{a:α}:∀{l:List (ib×α)},(x,a)∈l->∃ b,l.lookup x=some b
 | (y,b)::r,h=>by
  by_cases e:(x==y)=true
  ·exact⟨b,by simp [A5,e]⟩
  ·rcases A6.mp h with h|h
   ·cases h
    exact absurd (beq_self_eq_true _) e
   ·obtain⟨c,hc⟩:=vU h
    refine⟨c,?_⟩
    have e':(x==y)=false:=by simpa using e
    simp only [A5,e']
    exact hc
theorem zfu(h:∀ y∈scope.names,y.2=.free->∃ a,env.cells.lookup y.1=some a):closureFor scope env=pure (fe env.cells scope.names []):=by
 have key:∀(names:List (ib×Cv)) (acc:List (ib×dm)),(∀ y∈names,y.2=.free->∃ a,env.cells.lookup y.1=some a) ->
   (forIn names acc (fun x r=>match x with
    | (name,kind)=>if(kind==DQ)=true then do let a <- cellOf env name;pure (Fs ((name,a)::r)) else pure (Fs r)):Sem (List (ib×dm)))=pure (fe env.cells names acc):=by
  intro names
  induction names with
  | nil=>intro acc _;rfl
  | cons p r ih =>
   intro acc hh
   obtain⟨n,k⟩:=p
   rw [GH]
   by_cases hk:k=.free
   ·subst hk
    obtain⟨a,ea⟩:=hh (n,.free) (Bu ..) rfl
    have e1:cellOf env n=pure a:=by unfold cellOf;rw [ea]
    simp only [beq_self_eq_true,if_true,e1,pure_bind,fe,ea]
    exact ih _ fun y hy=>hh y (Bp _ hy)
   ·have hk':(k==DQ)=false:=by simpa using hk
    simp only [hk',Bm,if_false,pure_bind,fe,hk]
    exact ih _ fun y hy=>hh y (Bp _ hy)
 unfold closureFor
 exact(bind_pure _).trans (key scope.names [] h)
theorem rh{scope:BF}{env:AY}{x:ib}{k:Cv}:∀{names:List (ib×Cv)},
  (names.map fun(n,k)=>if(k==DQ&&env.scope.kind==.function&&env.kindOf n==some .cell) then(n,Cw) else(n,k)).lookup x=some k ->
  ∃ k0,names.lookup x=some k0/\(x,k0)∈names/\(k0=k\/(k0=.free/\k=.cell))
 | [],h=>by simp at h
 | (n,k0)::r,h=>by
  by_cases e:(x==n)=true
  ·have en:x=n:=by simpa using e
   subst en
   refine⟨k0,by simp [A5],Bu ..,?_⟩
   rw [A2] at h
   by_cases hc:(k0==DQ&&env.scope.kind==.function&&env.kindOf x==some .cell)=true
   ·simp only [hc,if_true,A5,beq_self_eq_true] at h
    simp only [Bs,beq_iff_eq] at hc
    exact .inr ⟨hc.1.1,(BC h).symm⟩
   ·simp only [hc,Bm,if_false,A5,beq_self_eq_true] at h
    exact .inl (BC h)
  ·have e':(x==n)=false:=by simpa using e
   rw [A2] at h
   have h':(r.map fun(n,k)=>if(k==DQ&&env.scope.kind==.function&&env.kindOf n==some .cell) then(n,Cw) else(n,k)).lookup x=some k:=by
    by_cases hc:(k0==DQ&&env.scope.kind==.function&&env.kindOf n==some .cell)=true
    ·simp only [hc,if_true,A5,e'] at h
     exact h
    ·simp only [hc,Bm,if_false,A5,e'] at h
     exact h
   obtain⟨k1,h1,h2,h3⟩:=rh (scope:=scope) h'
   exact⟨k1,by simp only [A5,e'];exact h1,Bp _ h2,h3⟩
noncomputable def eF(X:Cx)(ix:List Nat):List ib:=ix.map fun i=>X.N.getD i ""
noncomputable def dA(k:Nat)(ix:List Nat)(σ:St):St:=AI k none++ix.map fun i=>(σ[i]?).getD none
end
variable {elt iter:Av}{prog:AK}{ifs:List Av}{t:TT}
section
section
variable {R:Result->ir->Prop}
theorem zfC{target:Av}{it acc:gV}(I:Nat->ir->Prop)
  (turn:∀ n s,I n s->Ax (Ay prog w) A (C9 it) (fun r s₁=>match r with
   | none=>R (.ok .next) s₁
   | some v=>Ax (Ay prog w) A (Gq target it v) (fun _ s₀=>Ax (Ay prog w) A (Cy target env v) (fun _ s₂ =>
     Ax (Ay prog w) A (forIn ifs true fun c r=>if r=true then do let ok <- isTrue c env (AB c env);pure (Fs ok) else pure (Fs r)) (fun ok s₃ =>
      if ok=true then Ax (Ay prog w) A (AB elt env) (fun x s₄ =>
       Ax (Ay prog w) A (call (.builtin "list.append") [acc,x]) (fun _ s₅=>∃ m,m<n/\I m s₅) (Ft (Ay prog w) A env fun e s'=>R (.error e) s') s₄) (Ft (Ay prog w) A env fun e s'=>R (.error e) s') s₃
      else ∃ m,m<n/\I m s₃) (Ft (Ay prog w) A env fun e s'=>R (.error e) s') s₂) (Ft (Ay prog w) A env fun e s'=>R (.error e) s') s₀) (Ft (Ay prog w) A env fun e s'=>R (.error e) s') s₁) (Ft (Ay prog w) A env fun e s'=>R (.error e) s') s)
  (n:Nat) (h:I n s) :
  Dc (Ay prog w) A (.compLoop (.ListComp elt [⟨target,iter,ifs,0⟩] scope pos) 0 it acc env) R s:=by
 refine codeAny_loop rfl I (fun n s hI=>?_) n h
 show Ax _ A ((compTurn (.ListComp elt [⟨target,iter,ifs,0⟩] scope pos) 0 it acc env).onRaise (fun x=>do FY x env;theTreesLotGoes x)) _ _ s
 refine wpAny_noted ?_
 rw [compTurn_list]
 refine pd (D5 (pd (Bb (turn n s hI) (fun r s₁ h₁=>?_) fun _ _ h'=>h')))
 cases r with
 | none=>exact AH h₁
 | some v =>
  refine pd (Bb h₁ (fun _ s₀ h₀=>?_) fun _ _ h'=>h')
  refine pd (Bb h₀ (fun _ s₂ h₂=>pd (Bb h₂ (fun ok s₃ h₃=>?_) fun _ _ h'=>h')) fun _ _ h'=>h')
  cases ok with
  | false=>exact AH ⟨rfl,h₃⟩
  | true =>
   exact pd (pd (Bb h₃ (fun x s₄ h₄=>pd (Bb h₄ (fun _ s₅ h₅=>AH (AH ⟨rfl,h₅⟩)) fun _ _ h'=>h')) fun _ _ h'=>h'))
end
def jb(X:Cx)(ifs:List Av)(t:TT):Prop :=
 ∀(pins:List (dm×AA)) (s:ir) (σ:St) (H:Hp) (Q:Bool->Hp->Prop),Inv X pins σ H s->t σ H Q ->
  Ax (Ay X.prog X.w) X.A (forIn ifs true fun c r=>if r=true then do let ok <- isTrue c X.env (AB c X.env);pure (Fs ok) else pure (Fs r)) (TP X pins σ Q) X.xe s
noncomputable def zuu:TT:=fun _ H Q=>Q true H
theorem zr2:jb X [] zuu:=fun _ _ _ H _ I h=>wpAny_tests_nil ⟨H,I,h⟩
theorem zr3(hc:PT X c t):jb X [c] t:=fun pins s σ H Q I h=>wpAny_tests_one (hc pins s σ H Q I h)
def uF(k:Nat)(g:TG):Prop:=∀ x σ H Q,g x σ H Q->g x σ H fun σ2 H2=>(σ2.length=σ.length/\∀ i:Nat,k<=i->σ2[i]?=σ[i]?)/\Q σ2 H2
noncomputable def rE(k:Nat)(ix:List Nat)(wi:TI)(g:TG)(tc:TT)(te:TE):TE:=fun σ H Q=>wi σ H fun J H1=>∀ l,H1 l=none ->
 ∃ W:Nat->Nat->List V->Hp->Prop,(∃ m,W 0 m [] (upd H1 l (.lst [])))/\∀ i m ys H2,W i m ys H2->H2 l=some (.lst ys) /\
  ((J.stop i H2/\Q (.ref l) H2)\/(J.go i H2/\∀ x H3,J.Ao i H2 x H3->g x (dA k ix σ) H3 fun σ2 H4=>tc σ2 H4 fun b H5 =>
   if b=true then te σ2 H5 fun v H6=>H6 l=some (.lst ys)/\ys.length<AU/\∃ m',m'<m/\W (i+1) m' (ys++[v]) (upd H6 l (.lst (ys++[v]))) else ∃ m',m'<m/\W (i+1) m' ys H5))
end
variable {L T a e:dm}{cls fl head:gV}{oe:AA}{h h':Az}{dd:Option dm}{nx:Bool}{M:DH}{ex:List dm}{vs:Array gV}{t:Nat}{outer:List AY}
section
def Fl(h:Az)(e:dm)(cls:gV)(dd:Option dm)(T:dm)(fl:gV):Prop :=
 ∃ oe vs oT ts,h.get? e=some oe/\oe.cls=cls/\oe.dict=dd/\oe.data=.fields vs/\vs[1]?=some (.ref T)/\T≠e/\h.get? T=some oT/\oT.data=.fields ts/\ts[3]?=some fl
def Fl0(h:Az)(e:dm)(cls:gV)(dd:Option dm):Prop :=
 ∃ oe vs,h.get? e=some oe/\oe.cls=cls/\oe.dict=dd/\oe.data=.fields vs/\vs[1]?=some .none
def Kp(fs ex:List dm)(h h':Az):Prop:=∀ b o,b∉ex->h.get? b=some o->(b∉fs->h'.get? b=some o)/\∃ sl,h'.get? b=some { o with slots:=sl }
theorem Kp.of{fs:List dm}(k:∀ b o,b∉ex->h.get? b=some o->h'.get? b=some o):Kp fs ex h h':=fun b o hb e=>⟨fun _=>k b o hb e,o.slots,k b o hb e⟩
theorem Kp.trans{fs yt:List dm}{h1 h2:Az}(a:Kp fs ex h h1)(b:Kp fs yt h1 h2)(n:∀ c∈yt,c∈ex\/h.get? c=none):Kp fs ex h h2:=by
 intro c o hc e
 obtain⟨a1,sl,a2⟩:=a c o hc e
 have gP:c∉yt:=fun z=>by
  rcases n c z with q|q
  ·exact hc q
  ·rw [e] at q;cases q
 obtain⟨b1,nc,b2⟩:=b c _ gP a2
 exact⟨fun hf=>(b c _ gP (a1 hf)).1 hf,nc,b2⟩
theorem Kp.all{fs:List dm}(a:Kp [] ex h h'):Kp fs ex h h':=fun b o hb e=>⟨fun _=>(a b o hb e).1 (by simp),(a b o hb e).2⟩
section
theorem yv(f:Fl s.heap e cls dd T fl)
  (h:∀ h',Kp [] [T] s.heap h'->Fl h' e cls dd T .none->Q () { s with heap:=h' }):Ax M A (setFlight (.ref e) none) Q E s:=by
 obtain⟨oe,vs,oT,ts,he,hc,fJ,hd,h1,iH,hT,qz,h3⟩:=f
 have z3:3<ts.size:=(GI.mp h3).1
 unfold setFlight
 refine pd (B7 he hd h1 ?_)
 rw [if_pos (by simp)]
 refine EC hT qz z3 (h _ (Kp.of fun b o hb e=>?_) ⟨oe,vs,_,_,?_,hc,fJ,hd,h1,iH,Fo _ hT (GJ (ED qz _)),ED qz _,by simp [z3]⟩)
 ·rw [Ex _ _ (by intro z;exact hb (by simp [z]))]
  exact e
 ·rw [Ex _ _ iH]
  exact he
theorem zlH(o:AA)(f:Array gV->Array gV):(o.mapFields f).dict=o.dict:=by
 obtain⟨c,d,dt,sl⟩:=o
 cases dt <;> rfl
theorem zgb
  (eS:A.frames=some (env::outer))(hl:s.heap.FunFrames base (env::outer))(hf:env.frame=some L)(he:s.heap.get? e=some oe)(hd:oe.data=.fields vs)(hsz:1<vs.size)
  (h:∀ h' T,Kp (dF (env::outer)) [e] s.heap h'->s.heap.objs.size<=T->Fl h' e oe.cls oe.dict T (Ce L)->Q () { s with heap:=h' }) :
  Ax M A (do let a <- frameOf env;let pl <- entryPlaceOf L nx;let b <- Jg head a .none (Ce L) .none pl;setField (.ref e) 1 b) Q E s:=by
 have ne:e∉dF (env::outer):=fun hm=>by
  obtain⟨_,o,ho,z⟩:=hl.mem hm
  rw [he] at ho
  cases ho
  exact z vs hd
 refine pd (wpAny_frameOf_fun eS hl hf fun h₁ so=>?_)
 obtain⟨sz,same,slots⟩:=so
 refine pd (wpAny_entryPlaceOf fun pl aX=>?_)
 unfold Jg newFields
 refine pd (Cz ?_ (aX.sizeOk5 _ _ _ _ _))
 generalize hO:({ cls:=.type "traceback",dict:=none,data:=.fields ([head,.ref L,.none,Ce L,.none]++(if pl.isEmpty then AI 6 Br else pl)).toArray }:AA)=O
 have he1:h₁.get? e=some oe:=(same e ne).trans he
 have he2:(h₁.push O).get? e=some oe:=A1 _ he1
 have hTe:h₁.objs.size≠e:=CO (AW he1)
 refine EC he2 hd hsz (h _ h₁.objs.size (fun b o hb yG=>?_) (FP sz.symm) ?_)
 ·have jL:e≠b:=fun z=>hb (by simp [z])
  have go:∀ u,h₁.get? b=some u->((h₁.push O).update e (GK (·.setIfInBounds 1 (A8 h₁.objs.size)))).get? b=some u:=fun u q=>by
   rw [Ex _ _ jL]
   exact A1 _ q
  refine⟨fun hnf=>go o ((same b hnf).trans yG),?_⟩
  obtain⟨sl,q⟩:=slots b o yG
  exact⟨sl,go _ q⟩
 ·have hd3:=ED hd (·.setIfInBounds 1 (A8 h₁.objs.size))
  refine⟨_,_,O,_,Fo _ he2 (GJ hd3),HM _ _,zlH _ _,hd3,by simp [hsz],hTe,?_,by rw [<- hO],?_⟩
  ·rw [Ex _ _ (BK hTe)]
   exact Bv h₁ (by rw [<- hO];rfl)
  ·simp
theorem zgc
  (eS:A.frames=some (env::outer))(hl:s.heap.FunFrames base (env::outer))(hf:env.frame=some L)(f:Fl s.heap e cls dd T .none)
  (h:∀ h' T',Kp (dF (env::outer)) [e,T] s.heap h'->s.heap.objs.size<=T'->Fl h' e cls dd T' (Ce L)->Q () { s with heap:=h' }):Ax M A (FY (.ref e) env) Q E s:=by
 obtain⟨oe,vs,oT,ts,he,hc,fJ,hd,h1,iH,hT,qz,h3⟩:=f
 subst hc fJ
 unfold FY
 simp only [hf]
 refine pd (B7 he hd h1 ?_)
 rw [if_pos (by simp)]
 refine pd (B7 hT qz h3 ?_)
 rw [if_neg (by simp [Ce])]
 refine pd (EC hT qz (GI.mp h3).1 ?_)
 have other:∀ b,b≠T->(s.heap.update T (GK (·.setIfInBounds 3 Br))).get? b=s.heap.get? b:=fun b hb=>Ex _ _ (BK hb)
 have nT:∀ b o,s.heap.get? b=some o->(∀ vs,o.data≠.fields vs)->b≠T:=fun b o hb z q=>by
  rw [q,hT] at hb
  cases hb
  exact z ts qz
 refine zgb eS (hl.of_keeps fun b o hb z=>⟨o,(other b (nT b o hb z)).trans hb,rfl⟩) hf ((other e (BK iH)).trans he) hd (GI.mp h1).1 fun h' T' k z f'=>h h' T' ?_ ?_ f'
 ·intro b o hb yG
  have hbT:b≠T:=fun q=>hb (by simp [q])
  exact k b o (fun q=>hb (by simp at q;simp [q])) ((other b hbT).trans yG)
 ·simpa using z
theorem zml
  (eS:A.frames=some (env::outer))(hl:s.heap.FunFrames base (env::outer))(hf:env.frame=some L)(f:Fl0 s.heap e cls dd)
  (h:∀ h' T',Kp (dF (env::outer)) [e] s.heap h'->s.heap.objs.size<=T'->Fl h' e cls dd T' (Ce L)->Q () { s with heap:=h' }):Ax M A (FY (.ref e) env) Q E s:=by
 obtain⟨oe,vs,he,hc,fJ,hd,h1⟩:=f
 subst hc fJ
 unfold FY
 simp only [hf]
 refine pd (B7 he hd h1 ?_)
 rw [if_neg (by decide)]
 exact zgb eS hl hf he hd (GI.mp h1).1 h
theorem zmj
  (eS:A.frames=some (env::outer))(hl:s.heap.FunFrames base (env::outer))(hf:env.frame=some L)(f:Fl s.heap e cls dd T .none)
  (h:∀ h' T',Kp (dF (env::outer)) [e,T] s.heap h'->s.heap.objs.size<=T'->Fl h' e cls dd T' .none->Q () { s with heap:=h' }):Ax M A (leaving env (.ref e)) Q E s:=by
 unfold leaving
 refine pd (zgc eS hl hf f fun h1 T' k z f'=>yv f' fun h2 k2 f2=>h h2 T' (k.trans k2.all fun c hc=>.inr ?_) z f2)
 have:c=T':=by simpa using hc
 subst this
 exact C7 z
theorem zmk
  (eS:A.frames=some (env::outer))(hl:s.heap.FunFrames base (env::outer))(hf:env.frame=some L)(f:Fl0 s.heap e cls dd)
  (h:∀ h' T',Kp (dF (env::outer)) [e] s.heap h'->s.heap.objs.size<=T'->Fl h' e cls dd T' .none->Q () { s with heap:=h' }):Ax M A (leaving env (.ref e)) Q E s:=by
 unfold leaving
 refine pd (zml eS hl hf f fun h1 T' k z f'=>yv f' fun h2 k2 f2=>h h2 T' (k.trans k2.all fun c hc=>.inr ?_) z f2)
 have:c=T':=by simpa using hc
 subst this
 exact C7 z
end
end
variable {fg:List dm}{o:HO}{b:dm}{H₀:Hp}{cd:gV}{h₀:Az}
section
theorem cE.some(x:cE P w H h a o):∃ ob,h.get? a=some ob:=by
 cases o with
 | lst xs=>obtain⟨_,_,_,_,e⟩:=x;exact⟨_,e⟩
 | tup xs=>obtain⟨_,_,_,ob,e,_⟩:=x;exact⟨_,e⟩
 | dK aj=>obtain⟨_,_,_,_,ob,_,_,e,_⟩:=x;exact⟨_,e⟩
 | dT aj=>obtain⟨_,_,_,_,ob,_,_,e,_⟩:=x;exact⟨_,e⟩
 | set S n=>obtain⟨ob,_,_,_,e,_⟩:=x;exact⟨_,e⟩
 | ins C dx fs=>obtain⟨_,_,_,e,_⟩:=x;exact⟨_,e⟩
 | own y=>exact x
 | xd fs=>obtain⟨_,⟨od,_,_,e,_⟩,_⟩:=x;exact⟨_,e⟩
 | met f y=>exact⟨_,x⟩
 | eD lo hi=>obtain⟨_,_,_,e⟩:=x;exact⟨_,e⟩
 | frz ob u=>exact⟨_,x.1⟩
 | tbl ps=>exact⟨_,x⟩
 | ext φ=>exact x.2.1
section
variable {fs:List dm}
theorem cB.kp(x:cB P w H h)(k:Kp fs ex h h')(hf:∀ b∈fs,H b=none)(he:∀ b∈ex,H b=none):cB P w H h':=fun a o e =>
 (x a o e).iN (fun b u hb q=>by
  have nn:H b≠none:=by
   rcases hb with z|z
   ·rw [z,e];simp
   ·rw [z];simp
  exact(k b u (fun z=>nn (he b z)) q).1 fun z=>nn (hf b z)) (fun _ q=>q) fun _ _ q=>q
theorem Un.kp(u:Un fs [] H₀ H h₀ h)(k:Kp fg ex h h')(hx:∀ b∈ex,h₀.get? b=none)(hs:∀ b∈fg,b∈fs\/h₀.get? b=none):Un fs [] H₀ H h₀ h' where
 keep:=fun b o q n hb hz=>(k b o (fun z=>by rw [hx b z] at q;cases q) (u.keep b o q n hb hz)).1 fun z=>by
  rcases hs b z with y|y
  ·exact hb y
  ·rw [q] at y;cases y
 slot:=fun b o q n hb hz=>by
  obtain⟨sl,e⟩:=u.slot b o q n hb hz
  obtain⟨_,nc,e'⟩:=k b _ (fun z=>by rw [hx b z] at q;cases q) e
  exact⟨nc,e'⟩
 free:=u.free
 there:=fun b o q hz=>by
  obtain⟨o',e⟩:=u.there b o q hz
  obtain⟨_,nc,e'⟩:=k b _ (fun z=>by rw [hx b z] at q;cases q) e
  exact⟨_,e'⟩
 gr:=u.gr
 gC:=u.gC
 gZ:=u.gZ
theorem Un.old(u:Un fs [] H₀ H h₀ h)(n:h.get? b=none):h₀.get? b=none:=by
 cases q:h₀.get? b with
 | none=>rfl
 | some o =>
  obtain⟨o',e⟩:=u.there b o q (by simp)
  rw [n] at e
  cases e
theorem cB.free(x:cB P w H h)(n:h.get? b=none):H b=none:=by
 cases q:H b with
 | none=>rfl
 | some o =>
  have:=(x b o q).some
  obtain⟨ob,e⟩:=this
  rw [n] at e
  cases e
end
noncomputable def bE(P:AK)(w:AJ):jB:=fun outer H s E ev s'=>∃(e:dm) (cls:gV) (dd:Option dm) (T:dm) (H':Hp),ev=.ref e/\s'.os=s.os/\Dm s'.gens/\Un (dF outer) [] H H' s.heap s'.heap/\cB P w H' s'.heap /\
 Fl s'.heap e cls dd T .none/\H' e=none/\H' T=none/\s.heap.get? e=none/\s.heap.get? T=none/\E cls dd H'
def Throws(X:Cx)(E:XK):Prop:=∀(pins:List (dm×AA)) (σ:St) (H:Hp) (s:ir) (e:dm) (cls:gV) (dd:Option dm),Inv X pins σ H s->Fl0 s.heap e cls dd->H e=none->X.s₀.heap.get? e=none->E cls dd H->X.xe (.ref e) s
theorem qT:Passes (bE P w) X E0:=fun _ _ _ _ _ _ _ ⟨_,_,_,_,_,_,_,_,_,_,_,_,_,_,_,q⟩=>q.elim
section
variable {K:kb}{E:XK}
theorem zuV:Throws (dB (bE P w) P w K mg base N qual scope f cd A outer s H E) E:=by
 intro pins σ H1 s1 e cls dd I fl ne le q
 have hL:s.heap.objs.size<=s1.heap.objs.size:=I.sz
 refine zmk (base:=base) I.ok.frames I.stack rfl fl fun h' T k z f'=>?_
 have le1:s.heap.get? T=none:=C7 (By hL z)
 have un:Un (dF outer) [] H H1 s.heap s1.heap:=I.base
 refine⟨e,cls,dd,T,H1,rfl,I.os,I.bare,un.kp k (fun b hb=>?_) (fun b hb=>?_),I.ax.kp k I.wK (fun b hb=>?_),f',ne,I.ax.fresh z,le,le1,q⟩
 ·obtain rfl:b=e:=by simpa using hb
  exact le
 ·rcases A6.mp (I.rB b hb) with y|y
  ·exact .inr (C7 (by rw [y];exact AO _))
  ·exact .inl y
 ·obtain rfl:b=e:=by simpa using hb
  exact ne
theorem zqL:Passes (bE P w) (dB (bE P w) P w K mg base N qual scope f cd A outer s H E) E:=by
 intro pins σ H1 s1 ev s2 I ⟨e,cls,dd,T,H2,ee,os,bare,un,ax,fl,ne,nT,le,lT,q⟩
 subst ee
 have I2:=I.yd (ch:=[]) os un ax bare fun b z=>absurd z (by simp)
 have hL:s.heap.objs.size<=s1.heap.objs.size:=I.sz
 have hL2:s.heap.objs.size<=s2.heap.objs.size:=I2.sz
 refine zmj (base:=base) I2.ok.frames I2.stack rfl fl fun h' T' k z f'=>?_
 have un2:Un (dF outer) [] H H2 s.heap s2.heap:=I2.base
 have un1:Un (dF outer) [] H H1 s.heap s1.heap:=I.base
 refine⟨e,cls,dd,T',H2,rfl,I2.os,I2.bare,un2.kp k (fun b hb=>?_) (fun b hb=>?_),I2.ax.kp k I2.wK (fun b hb=>?_),f',ne,I2.ax.fresh z,un1.old le,C7 (By hL2 z),q⟩
 ·rcases (by simpa using hb:b=e\/b=T) with y|y
  ·rw [y];exact un1.old le
  ·rw [y];exact un1.old lT
 ·rcases A6.mp (I2.rB b hb) with y|y
  ·exact .inr (C7 (by rw [y];exact AO _))
  ·exact .inl y
 ·rcases (by simpa using hb:b=e\/b=T) with y|y
  ·rw [y];exact ne
  ·rw [y];exact nT
theorem cM.tF{st:AQ}{sp:Sp}(F:cM K x qual st f fd)(S:eY N ps (aM st))(len:∀ vs H Q E,sp vs H Q E->vs.length=ps.length)
  (vx:∀(av:gV) (A:AR) (outer:List AY) (s:ir) (H:Hp) (vs:List V) (Q:VK) (E:XK),aQ k (A.deeper (BG qual (aM st) s.heap.objs.size f av))->sp vs H Q E ->
   ∃ t,bW (dB (bE P w) P w K mg base N qual (aM st) f av A outer s H E) (bZ st) t/\t { nx:=fun _ H'=>Q .non H',rt:=Q } (start N vs) H):cA P w K mg base (bE P w) (k+1) f fd ps sp:=by
 obtain⟨oc,od,kV,doc,pm,an,av,ct,il,rfl,lk,fi⟩:=F.ex
 exact zgd lk fi S len fun A outer s H vs Q E hr oj=>vx av A outer s H vs Q E hr oj
end
abbrev gB:List gV:=[.type "ValueError",.type "Exception",.type "BaseException",.type "object"]
end
variable {outer:AY}{C:dm}
section
def Nw(X:Cx)(pins:List (dm×AA))(b:dm):Prop :=
 X.s₀.heap.get? b=none/\b≠X.env.locals/\b∉X.fs/\(∀ x c,X.env.cells.lookup x=some c->c≠b)/\∀ p∈X.pn++pins,p.1≠b
section
theorem Inv.nw(I:Inv X pins σ H s)(hx:X.ex=[])(n:s.heap.get? b=none):Nw X pins b:=by
 have u:=I.base
 rw [hx] at u
 refine⟨u.old n,fun z=>?_,fun z=>?_,fun x c e z=>?_,fun p hp z=>?_⟩
 ·obtain⟨m,⟨o,_,_,ho,_⟩,_⟩:=I.loc
  rw [<- z,n] at ho
  cases ho
 ·obtain⟨_,o,ho,_⟩:=I.h8.mem z
  rw [n] at ho
  cases ho
 ·obtain⟨v,o,ho,_⟩:=I.cell x c e
  rw [z,n] at ho
  cases ho
 ·have:=(I.pin p hp).1
  rw [z,n] at this
  cases this
theorem Un.kpx{fs vg:List dm}(u:Un fs vg H₀ H h₀ h)(k:Kp fg ex h h')(hx:∀ b∈ex,h₀.get? b=none)(hs:∀ b∈fg,b∈fs\/h₀.get? b=none):Un fs vg H₀ H h₀ h' where
 keep:=fun b o q n hb hz=>(k b o (fun z=>by rw [hx b z] at q;cases q) (u.keep b o q n hb hz)).1 fun z=>by
  rcases hs b z with y|y
  ·exact hb y
  ·rw [q] at y;cases y
 slot:=fun b o q n hb hz=>by
  obtain⟨sl,e⟩:=u.slot b o q n hb hz
  obtain⟨_,nc,e'⟩:=k b _ (fun z=>by rw [hx b z] at q;cases q) e
  exact⟨nc,e'⟩
 free:=u.free
 there:=fun b o q hz=>by
  obtain⟨o',e⟩:=u.there b o q hz
  obtain⟨_,nc,e'⟩:=k b _ (fun z=>by rw [hx b z] at q;cases q) e
  exact⟨_,e'⟩
 gr:=u.gr
 gC:=u.gC
 gZ:=u.gZ
theorem Inv.kp{h':Az}{ex:List dm}{t':Nat}(I:Inv X pins σ H s)(k:Kp (dF X.stack) ex s.heap h')(hx:∀ b∈ex,H b=none/\Nw X pins b):Inv X pins σ H { s with heap:=h',toks:=t' }:=by
 have cellK:∀ x c,X.env.cells.lookup x=some c->∀ v,s.heap.IsCell c v->h'.IsCell c v:=fun x c e v ⟨o,ho,hd⟩=>by
  obtain⟨_,sl,q⟩:=k c o (fun z=>(hx c z).2.2.2.2.1 x c e rfl) ho
  exact⟨_,q,hd⟩
 refine⟨I.ok,I.os,I.bare,I.base.kpx k (fun b hb=>(hx b hb).2.1) (fun b hb=>?_),?_,fun x c e=>?_,I.free,I.fX,fun p hp=>?_,I.ax.kp k I.wK (fun b hb=>(hx b hb).1),I.len⟩
 ·rcases A6.mp (I.rB b hb) with z|z
  ·exact .inr (C7 (by rw [z];exact I.ok.above))
  ·exact .inl z
 ·obtain⟨m,⟨o,es,ep,ho,r⟩,hl⟩:=I.loc
  obtain⟨_,sl,q⟩:=k _ o (fun z=>(hx _ z).2.2.1 rfl) ho
  refine⟨m,⟨_,es,ep,q,r⟩,fun i x v e1 e2 e3=>?_⟩
  obtain⟨u,ru,l⟩:=hl i x v e1 e2 e3
  refine⟨u,ru,?_⟩
  rcases l with l|⟨kd,c,e,z⟩
  ·exact .inl l
  ·exact .inr ⟨kd,c,e,cellK x c e _ z⟩
 ·obtain⟨v,z⟩:=I.cell x c e
  exact⟨v,cellK x c e v z⟩
 ·obtain⟨e,n,ne,nf,d⟩:=I.pin p hp
  refine⟨(k p.1 p.2 (fun z=>(hx p.1 z).2.2.2.2.2 p hp rfl) e).1 fun z=>?_,n,ne,nf,d⟩
  rcases A6.mp (I.rB p.1 z) with y|y
  ·exact ne y
  ·exact nf y
theorem Inv.zi2(I:Inv X pins σ H s)(n:H a=none)(nw:Nw X pins a)(new:cE X.prog X.w (upd H a o) s.heap a o):Inv X pins σ (upd H a o) s:=by
 have ne:∀ b u,H b=some u->b≠a:=fun b u e z=>by rw [z,n] at e;cases e
 refine⟨I.ok,I.os,I.bare,⟨I.base.keep,I.base.slot,fun b ob e hn hx=>?_,I.base.there,fun b xs e=>?_,fun b ob u e=>?_,fun b ps e=>?_⟩,I.loc,I.cell,?_,fun x c e=>?_,fun p hp=>?_,fun b u e=>?_,I.len⟩
 ·rw [aJ (fun z=>by rw [z,nw.1] at e;cases e)]
  exact I.base.free b ob e hn hx
 ·have:=I.base.gr b xs e
  rw [aJ (ne _ _ this)]
  exact this
 ·have:=I.base.gC b ob u e
  rw [aJ (ne _ _ this)]
  exact this
 ·obtain⟨more,z⟩:=I.base.gZ b ps e
  exact⟨more,by rw [aJ (ne _ _ z)];exact z⟩
 ·rw [aJ (BK nw.2.1)]
  exact I.free
 ·rw [aJ (nw.2.2.2.1 x c e)]
  exact I.fX x c e
 ·obtain⟨g1,g2,g3,g4,g5⟩:=I.pin p hp
  exact⟨g1,by rw [aJ (nw.2.2.2.2 p hp)];exact g2,g3,g4,g5⟩
 ·by_cases hb:b=a
  ·subst hb
   rw [bS] at e
   cases e
   exact new
  ·rw [aJ hb] at e
   exact(I.ax b u e).iN (fun _ _ _ q=>q) (fun c q=>by rw [aJ (ne _ _ q)];exact q) fun c xs q=>q.upd (fun _ r=>ne _ _ r) fun _ _ r=>ne _ _ r
end
def XP(X:Cx)(pins:List (dm×AA))(σ:St)(E:XK)(ev:gV)(s':ir):Prop :=
 ∃(e:dm) (cls:gV) (dd:Option dm) (T:dm) (H':Hp),ev=.ref e/\Inv X pins σ H' s'/\Fl s'.heap e cls dd T .none/\H' e=none/\H' T=none/\Nw X pins e/\Nw X pins T/\E cls dd H'
abbrev TX:=St->Hp->VK->XK->Prop
def rV(X:Cx)(e:Av)(t:TX):Prop :=
 ∀(pins:List (dm×AA)) (s:ir) (σ:St) (H:Hp) (Q:VK) (E:XK),Inv X pins σ H s->t σ H Q E->Ax (Ay X.prog X.w) X.A (AB e X.env) (EP X pins σ Q) (XP X pins σ E) s
abbrev TSX:=Ends->(St->XK)->St->Hp->Prop
def PSX(X:Cx)(st:List AQ)(t:TSX):Prop :=
 ∀(pins:List (dm×AA)) (s:ir) (σ:St) (H:Hp) (D:Ends) (E:St->XK),Inv X pins σ H s->t D E σ H->Ax (Ay X.prog X.w) X.A (execs st X.env) (SP X pins D) (fun ev s'=>∃ σ',XP X pins σ' (E σ') ev s') s
noncomputable def jC(e C:dm)(dd:Option dm):HO:=.ext fun h=>∃ o vs,h.get? e=some o/\o.cls=.ref C/\o.dict=dd/\o.data=.fields vs
theorem zme(f:Fl h e (.ref C) dd T fl):cE P w H h e (jC e C dd):=by
 obtain⟨oe,vs,oT,ts,he,hc,fJ,hd,_⟩:=f
 refine⟨⟨oe,vs,he,hc,fJ,hd⟩,⟨oe,he⟩,fun h1 h2 ⟨o,us,g1,g2⟩ k=>⟨o,us,k o g1,g2⟩⟩
noncomputable def uZ(X:Cx)(e:dm):Cx:={ X with A:=X.A.mark (some (.ref e)),calm:=false,xe:=fun _ _=>False }
theorem Inv.toH(I:Inv X pins σ H s)(e:dm):Inv (uZ X e) pins σ H s :=
 ⟨⟨I.ok.mod,I.ok.kind,I.ok.glob,I.ok.blt,I.ok.above,I.ok.inj,I.ok.has,I.ok.nK,(fun z=>(by cases z)),I.ok.frames,I.ok.rA,I.ok.mw,I.ok.bs,I.ok.j5,I.ok.oK,I.ok.mz,I.ok.h8,I.ok.kR,I.ok.tree,I.ok.sk⟩,I.os,I.bare,I.base,I.loc,I.cell,I.free,I.fX,I.pin,I.ax,I.len⟩
theorem Inv.zx(ok:X.Ok)(I:Inv (uZ X e) pins σ H s):Inv X pins σ H s :=
 ⟨ok,I.os,I.bare,I.base,I.loc,I.cell,I.free,I.fX,I.pin,I.ax,I.len⟩
structure lL(K:kb)(C:dm):Prop where
 ty:Fd K (.ref C)=some (.type "type")
 cl:(B9 K C).isSome=true
 be:C1 K (.ref C) (.type "BaseException")=some true
theorem zmf{K:kb}{D:dm}{b:Bool}{Q:Bool->ir->Prop}(KX:K.In s.heap)(c:lL K C)(he:s.heap.get? e=some oe)(hc:oe.cls=.ref D)
  (hs:C1 K (.ref D) (.ref C)=some b)(hq:Q b s):Ax M A (excMatches (.ref e) (.ref C)) Q E s:=by
 have L1:DR M s.heap (typeOf (.ref C)) (.type "type"):=PySem.W.looks_typeIn KX c.ty
 have L2:DR M s.heap (isSubtype (.ref C) (.type "BaseException")) true:=HN KX c.be
 have L3:DR M s.heap (isSubtype (.ref D) (.ref C)) b:=HN KX hs
 have L4:DR M s.heap (isType (.ref C)) true:=by
  have cl:=c.cl
  unfold B9 at cl
  split at cl
  ·rename_i ho
   intro A' Q' E' s' k q
   unfold isType loadHead
   exact pd (FO (k _ _ (KX _ _ ho)) (AH q))
  ·cases cl
 have L5:DR M s.heap (isExcClass (.ref C)) true:=by
  intro A' Q' E' s' k q
  unfold isExcClass
  refine pd (L4 _ _ _ _ k ?_)
  rw [if_pos rfl]
  exact L2 _ _ _ _ k q
 have id:∀ b o,s.heap.get? b=some o->s.heap.get? b=some o:=fun _ _ z=>z
 unfold excMatches GL
 refine pd (pd (L1 _ _ _ _ id ?_))
 rw [tc_notTuple]
 refine AH ?_
 rw [if_neg BU]
 refine pd (AH ?_)
 simp only [GH,GN]
 refine pd (pd (pd (L5 _ _ _ _ id ?_)))
 simp only [Cj,Bm,if_false]
 refine AH ?_
 refine AH ?_
 have L6:DR M s.heap (typeOf (.ref e)) (.ref D):=by
  intro A' Q' E' s' k q
  unfold typeOf
  refine pd (FO (k _ _ he) (AH ?_))
  rw [hc]
  exact q
 refine pd (L6 _ _ _ _ id ?_)
 refine pd (pd (pd (L3 _ _ _ _ id ?_)))
 cases b with
 | true=>exact AH (AH (AH hq))
 | false=>exact AH (AH (AH hq))
end
variable {b₀:AQ}{j:Nat}{ts:TS}
section
noncomputable def zl4(j:Nat)(D:Ends):Ends:={ nx:=fun σ H=>D.nx (σ.set j none) H,rt:=D.rt,bk:=fun σ H=>D.bk (σ.set j none) H,ct:=fun σ H=>D.ct (σ.set j none) H }
noncomputable def ziS(K:kb)(C:dm)(j:Nat)(ts:TS)(D:Ends):St->XK:=fun σ cls dd H=>∃ B,cls=.ref B/\C1 K (.ref B) (.ref C)=some true /\
 ∀ e,H e=none->ts (zl4 j D) (σ.set j (some (.ref e))) (upd H e (jC e B dd))
section
variable {cn n:ib}{body ziO:List AQ}{cp hp:AD}{tb:TSX}
theorem name_goes(I:Inv X pins σ H s)(hN:X.N.Nodup)(hj:X.N[j]?=some n)(hl:X.env.scope.names.lookup n=some .local)
  (h:∀ s',Inv X pins (σ.set j none) H s'->Q () s'):Ax (Ay X.prog X.w) X.A (do FI X.env n .none;unbindBehindTheSuite X.env n hp) Q E s:=by
 obtain⟨m,hn,lk⟩:=I.loc
 have hk:(X.env.scope.kind==.class||(X.env.scope.kind==.module&&X.env.locals != X.env.globals))=false:=by rw [I.ok.kind];rfl
 refine wpAny_nameGoes_keeps hl hn hk fun h' v sM sb=>h _ ?_
 have k:∀ b o,b≠X.env.locals->s.heap.get? b=some o->h'.get? b=some o:=fun b o hb e=>sb.extBut b o hb e
 have tm:∀ b o,X.s₀.heap.get? b=some o->b≠X.env.locals:=fun b o e=>Ba (BD (AW e) I.ok.above)
 obtain⟨o',nU,va,fj,r'⟩:=sM
 refine⟨I.ok,I.os,I.bare,⟨fun b o e nn hb hx=>k _ _ (tm b o e) (I.base.keep b o e nn hb hx),fun b o e nn hb hx=>?_,I.base.free,fun b o e hx=>?_,I.base.gr,I.base.gC,I.base.gZ⟩,⟨_,⟨o',nU,va,fj,r'⟩,fun i x u e1 e2 e3=>?_⟩,fun x c e=>?_,I.free,I.fX,fun p hp=>?_,fun b u e=>?_,?_⟩
 ·obtain⟨sl,z⟩:=I.base.slot b o e nn hb hx
  exact⟨sl,k _ _ (tm b o e) z⟩
 ·obtain⟨o2,z⟩:=I.base.there b o e hx
  exact⟨o2,k _ _ (tm b o e) z⟩
 ·by_cases eI:i=j
  ·subst eI
   rw [List.getElem?_set] at e2
   split at e2
   ·split at e2 <;> cases e2
   ·exact absurd rfl (by assumption)
  ·rw [Bl (BK eI)] at e2
   obtain⟨uu,ru,l⟩:=lk i x u e1 e2 e3
   refine⟨uu,ru,?_⟩
   have hxn:x≠n:=fun z=>eI (zc0 hN (by rw [<- z];exact e1) hj)
   rcases l with⟨l1,l2⟩|⟨kd,c,ec,o3,z1,z2⟩
   ·exact .inl ⟨l1,by show(if x=n then v else m x)=some uu;rw [if_neg hxn];exact l2⟩
   ·exact .inr ⟨kd,c,ec,o3,k _ _ (I.lU x c ec) z1,z2⟩
 ·obtain⟨v,o3,z1,z2⟩:=I.cell x c e
  exact⟨v,o3,k _ _ (I.lU x c e) z1,z2⟩
 ·obtain⟨g1,g2,g3,g4,g5⟩:=I.pin p hp
  exact⟨k _ _ g3 g1,g2,g3,g4,g5⟩
 ·refine(I.ax b u e).iN (fun c vv hc q=>k c vv ?_ q) (fun _ q=>q) fun _ _ q=>q
  intro z
  rcases hc with y|y
  ·rw [<- y,z,I.free] at e;cases e
  ·rw [z,I.free] at y;cases y
 ·rw [CI];exact I.len
theorem zrJ(hc:lL X.K C)(bV:X.stack=X.env::X.outer)(eS:X.env.frame=some X.env.locals)(hb:PSX X body tb)(hg:Gl X cn)(hm:X.mg cn=some (.ref C))(hN:X.N.Nodup)(hj:X.N[j]?=some n)
  (hl:X.env.scope.names.lookup n=some .local)(hs:∀ e,bW (uZ X e) (b₀::ziO) ts)(hd:(cn==("__debug__":ib))=false:=by decide) :
  PS X (.Try body [.ExceptHandler (some (.Name cn cp)) (some n) (b₀::ziO) hp] [] [] pos) (fun D σ H=>tb D (ziS X.K C j ts D) σ H):=by
 intro pins s σ H D I h
 refine wpAny_Try_except (Bb (hb pins s σ H D _ I h) (fun f s1 q=>?_) fun ev s1 q=>?_)
 ·cases f with
  | next=>exact E4 q
  | ret v=>exact q
  | brk=>exact q
  | cont=>exact q
 ·obtain⟨σ1,e,cls,dd,T,H1,rfl,I1,fl,ne,nT,we,wT,B,rfl,sO,hsu⟩:=q
  have zm4:X.A.frames=some (X.env::X.outer):=by rw [<- bV];exact I1.ok.frames
  have fun1:s1.heap.FunFrames X.base (X.env::X.outer):=by rw [<- bV];exact I1.stack
  refine zgc (base:=X.base) zm4 fun1 eS fl fun h2 T2 k2 z2 f2=>yv f2 fun h3 k3 f3=>?_
  have oT2:s1.heap.get? T2=none:=C7 z2
  have k23:Kp (dF X.stack) [e,T] s1.heap h3:=by
   rw [bV]
   exact k2.trans k3.all fun c gD=>.inr (by have e9:c=T2:=(by simpa using gD);rw [e9];exact oT2)
  have I3:Inv X pins σ1 H1 { s1 with heap:=h3,toks:=s1.toks }:=I1.kp (t':=s1.toks) k23 fun b vw=>by
   rcases (by simpa using vw:b=e\/b=T) with y|y
   ·rw [y];exact⟨ne,we⟩
   ·rw [y];exact⟨nT,wT⟩
  obtain⟨oe,vs,oT,ts',he,hcl,fJ,hdt,_⟩:=id f3
  refine wpAny_handleBy_cons (codeAny_handlers_test (vR (I3.toH e) hg hm (zmf (K:=X.K) I3.dG hc he hcl sO ?_) hd)) (by intro q;cases q)
  dsimp only
  refine codeAny_handlers_suite_as (yv f3 fun h4 k4 f4=>?_)
  have I4:Inv X pins σ1 H1 { s1 with heap:=h4,toks:=s1.toks }:=by
   have nT2:Nw X pins T2:=by
    have i1:=I1
    refine⟨?_,?_,?_,?_,?_⟩
    ·cases q:X.s₀.heap.get? T2 with
     | none=>rfl
     | some o =>
      have:=AW q
      exact absurd (BD this (By i1.sz z2)) (Ek _)
    ·exact CO (BD i1.lt z2)
    ·exact i1.zhJ z2
    ·intro x c ec z
     obtain⟨v,o,ho,_⟩:=i1.cell x c ec
     rw [z,oT2] at ho
     cases ho
    ·intro p hpp z
     have:=(i1.pin p hpp).1
     rw [z,oT2] at this
     cases this
   refine I3.kp (h':=h4) (ex:=[T2]) (t':=s1.toks) k4.all fun b vw=>?_
   obtain rfl:b=T2:=by simpa using vw
   exact⟨I1.ax.fresh z2,nT2⟩
  have I5:Inv X pins σ1 (upd H1 e (jC e B dd)) { s1 with heap:=h4,toks:=s1.toks }:=I4.zi2 ne we (zme f4)
  refine wL I5 hN hj (.inl hl) (v:=.ref e) rfl (fun s6 I6=>?_) (.inr hl)
  refine Bb (hs e pins s6 _ _ _ (I6.toH e) (hsu e ne)) (fun f s7 q=>?_) fun _ _ z=>z.elim
  cases f with
  | next =>
   obtain⟨σ7,H7,I7,q7⟩:=q
   exact name_goes (I7.zx I1.ok) hN hj hl fun s8 I8=>⟨_,H7,I8,q7⟩
  | brk =>
   obtain⟨σ7,H7,I7,q7⟩:=q
   exact name_goes (I7.zx I1.ok) hN hj hl fun s8 I8=>⟨_,H7,I8,q7⟩
  | cont =>
   obtain⟨σ7,H7,I7,q7⟩:=q
   exact name_goes (I7.zx I1.ok) hN hj hl fun s8 I8=>⟨_,H7,I8,q7⟩
  | ret v =>
   obtain⟨x7,σ7,H7,I7,r7,q7⟩:=q
   exact name_goes (I7.zx I1.ok) hN hj hl fun s8 I8=>⟨x7,_,H7,I8,r7,q7⟩
end
end
variable {tk:BJ}{zhF:gV}{ox:AA}{od:Option AA}{g:Array GenState}{d:Drawn}
section
structure i7(K:kb)(D:dm):Prop where
 ga:Bz K (.ref D) "__getattribute__"=some (some (.builtin "BaseException.__getattribute__"))
 gn:Bz K (.ref D) "__getattr__"=some none
 cl:Bz K (.ref D) "__class__"=some (some (.builtin "object.__class__"))
 be:C1 K (.ref D) (.type "BaseException")=some true
 ob:GO K D (.type "object")=some true
 is:(B9 K D).isSome=true
section
variable {os:OsState}{K:kb}{x D:dm}
theorem zjk(X:K.In h)(c:i7 K D)(I:Dp h x ox D od)(hq:Q () ⟨h,g,d,t,os⟩) :
  Ax M A (checkBuiltinCall "BaseException.__getattribute__" ⟨[.ref x,zhF],[]⟩) Q E ⟨h,g,d,t,os⟩:=by
 have hk:builtinKind "BaseException.__getattribute__"=some .slot:=by decide +kernel
 have znf:splitId "BaseException.__getattribute__"=some ("BaseException","__getattribute__"):=by decide +kernel
 have L0:=I.type (M:=M)
 have L1:DR M h (isSubtype (.ref D) (.type "BaseException")) true:=HN X c.be
 have ha:=F.args_bexc_ga (.ref x) zhF
 simp only [checkBuiltinCall,hk,znf]
 unfold GL
 refine pd (pd (L0.at (L1.at ?_)))
 repeat (any_goals (first|assumption|wp_step))
theorem zvw{Q:Fin->ir->Prop}(X:K.In h)(c:i7 K D)(I:Dp h x ox D od)(hq:Q (.done (.ret (.ref D))) ⟨h,g,d,t,os⟩) :
  Ax (Ay prog w) A (Ci.«object.__getattribute__» ⟨[.ref x,.str "__class__" tk],[]⟩) Q E ⟨h,g,d,t,os⟩:=by
 have L0:=I.type (M:=Ay prog w)
 have L1:=Eu (M:=Ay prog w) X c.cl
 have hT5:(⟨h,g,d,t,os⟩:ir).TypeIs (.builtin "object.__class__") "getset_descriptor":=F.typeOf_object_class
 have f5:=F.typeOf_object_class
 have f6:=F.slot_gs_get.lookup
 have f7:=F.slot_gs_set.lookup
 repeat (any_goals (first|assumption|with_reducible refine L0.at ?_|with_reducible refine L1.at ?_|wp_step))
 refine PySem.W.class_get (s:=⟨h,g,d,t,os⟩) X I c.ob ?_
 exact AH hq
theorem zvv{Q:gV->ir->Prop}(X:K.In h)(c:i7 K D)(I:Dp h x ox D od)(hq:Q (.ref D) ⟨h,g,d,t,os⟩) :
  Ax (Ay prog w) A (getAttrBy (.ref x) (.str "__class__" tk) false) Q E ⟨h,g,d,t,os⟩:=by
 have L0:=I.type (M:=Ay prog w)
 have L1:=Eu (M:=Ay prog w) X c.ga
 have L2:=Eu (M:=Ay prog w) X c.gn
 have f3:=GP.ga.bind (.ref x)
 have hx2:(FZ "BaseException.__getattribute__" == FZ "object.__getattribute__")=false:=by decide +kernel
 repeat (any_goals (first|assumption|with_reducible refine L0.at ?_|with_reducible refine L1.at ?_|with_reducible refine L2.at ?_|wp_step))
 refine HP GP.ga.plain F.entry_bexc_ga (zjk X c I (zvw X c I ?_))
 exact Jh rfl hq
theorem zvu{Q:Option gV->ir->Prop}(X:K.In h)(c:i7 K D)(I:Dp h x ox D od)(hq:Q (some (.ref D)) ⟨h,g,d,t+1,os⟩) :
  Ax (Ay prog w) A (getAttr? (.ref x) "__class__") Q E ⟨h,g,d,t,os⟩:=by
 unfold getAttr? getAttrBy?
 repeat (any_goals (first|assumption|with_reducible apply zvv X c I|wp_step))
end
theorem zo7{K:kb}{x D:dm}(c:i7 K D):PySem.W.KitX K (.ref x) (.ref D) (fun h=>∃ ox od,Dp h x ox D od) where
 ty:=fun _ _ _ ⟨_,_,I⟩=>I.type
 it:=fun _ _ X _=>by
  have cl:=c.is
  unfold B9 at cl
  split at cl
  ·rename_i ho
   intro A' Q' E' s' k q
   unfold isType loadHead
   exact pd (FO (k _ _ (X _ _ ho)) (AH q))
  ·cases cl
 ne:=fun h tp dd its n sl X e=>by
  have cl:=c.is
  unfold B9 at cl
  split at cl
  ·rename_i ho
   have iH:D≠tp:=fun z=>by
    have:=X _ _ ho
    rw [z,e] at this
    cases this
   simpa using iH
  ·cases cl
 ca:=fun{prog w A E Q s} X ⟨_,_,I⟩ hq=>by
  obtain⟨h,g,d,t,os⟩:=s
  exact zvu X c I hq
theorem znp(I:Inv X pins σ H s)(h:H e=some (jC e C dd))(hd:∀ dx,dd=some dx->∃ fs,H dx=some (.xd fs)):∃ ox od,Dp s.heap e ox C od:=by
 obtain⟨⟨o,vs,ho,hc,fJ,hdt⟩,_⟩:=(show cE X.prog X.w H s.heap e (jC e C dd) from I.ax e _ h)
 cases dd with
 | none=>exact⟨o,none,ho,hc,by unfold GQ;rw [hdt],by rw [fJ];trivial⟩
 | some dx =>
  obtain⟨fs,hx⟩:=hd dx rfl
  obtain⟨od,e2⟩:=(I.ax dx _ hx).some
  exact⟨o,some od,ho,hc,by unfold GQ;rw [hdt],by rw [fJ];exact e2⟩
noncomputable def ztz(K:kb):List V->Hp->VK->Prop:=fun xs H Q=>∃ e y C dd b,xs=[.ref e,y]/\nM y≠.none/\H e=some (jC e C dd)/\(∀ dx,dd=some dx->∃ fs,H dx=some (.xd fs))/\i7 K C/\Bh K (.ref C) (nM y)=some b/\Q (.bl b) H
theorem zkN:iu X (.builtin "isinstance") (ztz X.K):=by
 intro pins s σ H xs us Q I r h
 obtain⟨e,y,C,dd,b,rfl,hy,he,hd,c,k,q⟩:=h
 obtain⟨u,v,rfl,ru,rv⟩:=vals2 r
 cases zfx rv hy
 cases (show u=A8 e from ru)
 exact EB (zo7 c) I.dG (znp I he hd) k (fun z=>nomatch z) fun tk=>⟨.bl b,H,I.tok tk,rfl,q⟩
end
variable {e:Av}{σ:List (Option V)}{es:List Av}{p:AD}{t:TA}
section
def aH(K:kb)(mg:ib->Option gV)(x:ib)(st:AQ):Prop:=∃(f:dm) (fd:A9),mg x=some (.ref f)/\cM K x x st f fd
def Callee(P:AK)(w:AJ)(K:kb)(mg:ib->Option gV)(base:Az)(x:ib)(k:Nat)(ps:List ib)(sp:Sp):Prop :=
 ∃(f:dm) (fd:A9),mg x=some (.ref f)/\CQ K (.ref f)=true/\Binds K fd ps []/\cA P w K mg base (bE P w) k f fd ps sp
section
variable {sp:Sp}{E:XK}
theorem tL(c:Callee X.prog X.w X.K X.mg X.base x k ps sp)(hr:aQ j X.A)(hg:Gl X x)(hx:Passes (bE X.prog X.w) X E)(ha:PA X (e::es) t)(hj:k<=j:=by decide)(bz:(x==("__debug__":ib))=false:=by decide)
  (he:Aw (e::es) X.env=(false,AB e X.env)::Aw es X.env:=by rfl) (aX:(A7 pos (Aw es X.env)).any (·.1)=false:=by rfl):PE X (.Call (.Name x p) (e::es) [] pos) (zdJ sp [] E t):=by
 obtain⟨f,fd,hm,hk,hb,F⟩:=c
 exact zqR F (hr.mono hj) hg hm hk hb .nil hx ha bz he aX
end
end
section
end
section
end
variable {l:dm}
section
theorem aC.upd(h:H l=none):aC H (upd H l o):=fun b u e=>by rw [aJ (qO e h)];exact e
end
section
end
section
end
variable {fp:List dm}{H':Hp}{ta:TA}{xs:List V}{p0:AD}{us:List gV}{t':Nat}
section
section
theorem Inv.uh(I:Inv X pins σ H s)(k:∀ b o,b∉fp->s.heap.get? b=some o->h'.get? b=some o)(hf:∀ b∈fp,gw X pins H b):Inv X pins σ H { s with heap:=h',toks:=t' }:=by
 have v8:∀ b u,H b=some u->b∉fp:=fun b u e z=>by
  have:=(hf b z).1
  rw [e] at this
  cases this
 have hL:X.env.locals∉fp:=fun z=>(hf _ z).2.1 rfl
 refine I.step (g':=s.gens) (d':=s.drawn) (ch:=fp) (fun b hb=>?_) (fun b o _ _ hc e _=>k b o hc e) (fun b o _ _ hc e _=>⟨o.slots,k b o hc e⟩) (fun _ _ _ _ n=>n)
  (fun b o hc e=>⟨o,k b o hc e⟩) (fun _ _ e=>e) (fun _ _ _ e=>e) (fun b ps e=>⟨#[],by rw [e];simp⟩) (fun m hm=>?_) (fun b u e=>?_) I.bare
 ·obtain⟨_,h1,_,h3,h4,h5⟩:=hf b hb
  exact⟨h3,h1,h4,h5⟩
 ·obtain⟨o,es,ep,ho,r⟩:=hm
  exact⟨o,es,ep,k _ o hL ho,r⟩
 ·refine(I.ax b u e).iN (fun c v hc q=>k c v ?_ q) (fun _ q=>q) fun _ _ q=>q
  rcases hc with z|z
  ·rw [z];exact v8 b u e
  ·exact v8 c _ z
theorem Inv.zdM(I:Inv X pins σ H s)(k:∀ b o,b∉fp->s.heap.get? b=some o->h'.get? b=some o)(hf:∀ b∈fp,gw X pins H b)(yJ:∀ b∈fp,b<s.heap.objs.size)
  (ht:h'.get? s.heap.objs.size=some { cls:=.type "tuple",data:=.seq us.toArray n }) (r:Vals xs us) (hz:xs.length<=AU) :
  Inv X pins σ (upd H s.heap.objs.size (.tup xs)) { s with heap:=h',toks:=t' }:=by
 have I1:Inv X pins σ (upd H s.heap.objs.size (.tup xs)) { s with heap:=s.heap.push { cls:=.type "tuple",data:=.seq us.toArray n },toks:=s.toks } :=
  I.laid (t':=s.toks) (fun b u e=>A1 _ e) (AO _) ⟨hz,us,r,⟨_,Bv _ rfl,rfl,_,rfl⟩⟩
 refine Inv.uh (s:={ s with heap:=s.heap.push { cls:=.type "tuple",data:=.seq us.toArray n },toks:=s.toks }) (t':=t') (fp:=fp) I1 (fun b o hb e=>?_) fun b hb=>⟨by rw [aJ (Ba (yJ b hb))];exact(hf b hb).1,(hf b hb).2⟩
 by_cases hbs:b=s.heap.objs.size
 ·subst hbs
  have e':(s.heap.push { cls:=.type "tuple",data:=.seq us.toArray n }).get? s.heap.objs.size=some o:=e
  rw [Bv _ rfl] at e'
  cases e'
  exact ht
 ·refine k b o hb ?_
  have e':(s.heap.push { cls:=.type "tuple",data:=.seq us.toArray n }).get? b=some o:=e
  have lt:b<(s.heap.push { cls:=.type "tuple",data:=.seq us.toArray n }).objs.size:=AW e'
  rw [CG] at lt
  have lt':b<s.heap.objs.size:=Nat.lt_of_le_of_ne (Nat.le_of_lt_succ lt) hbs
  unfold Heap.get? at e' ⊢
  unfold Heap.push at e'
  simp only at e'
  rw [Array.getElem?_push_lt lt'] at e'
  rw [HQ lt']
  exact e'
end
noncomputable def xk(K:kb)(a b:dm):It :=
 ⟨fun i H=>∃ xs ys x y,bp K H a xs/\bp K H b ys/\xs[i]?=some x/\ys[i]?=some y,
  fun i H x H'=>∃ t u v,x=.ref t/\H t=none/\H'=upd H t (.tup [u,v])/\(∀ xs,bp K H a xs->xs[i]?=some u)/\∀ ys,bp K H b ys->ys[i]?=some v,
  fun i H=>∃ xs ys,bp K H a xs/\bp K H b ys/\(xs.length<=i\/ys.length<=i)⟩
def tnZ(z TI TO i1 i2 a b:dm)(i:Nat)(h:Az):Prop:=Ck h z TI TO .none/\BI h TI (.ref i1) (.ref i2)/\(∃ u v,BI h TO u v)/\h.IsListIter i1 a i/\h.IsListIter i2 b i
theorem zi5{K:kb}(z TI TO i1 i2 a b:dm)(D:ZipApart z TI TO i1 i2 a b):Turn P w K (.Tuple es k pos) (xk K a b) [z,TI,TO,i1,i2] z (tnZ z TI TO i1 i2 a b) where
 mem:=by simp
 obj:=fun i h st c hc=>by
  obtain⟨h1,h2,⟨u,v,h3⟩,⟨o4,h4,_,d4⟩,⟨o5,h5,_,d5⟩⟩:=st
  simp only [A6,Cm,or_false] at hc
  rcases hc with rfl|rfl|rfl|rfl|rfl
  ·exact⟨_,h1,fun v z=>by cases z⟩
  ·exact⟨_,h2,fun v z=>by cases z⟩
  ·exact⟨_,h3,fun v z=>by cases z⟩
  ·exact⟨_,h4,fun v z=>by rw [d4] at z;cases z⟩
  ·exact⟨_,h5,fun v z=>by rw [d5] at z;cases z⟩
 keep:=fun i h h' st k=>by
  obtain⟨h1,h2,⟨u,v,h3⟩,h4,h5⟩:=st
  exact⟨k _ (by simp) _ h1,k _ (by simp) _ h2,⟨u,v,k _ (by simp) _ h3⟩,h4.at fun o e=>k _ (by simp) o e,h5.at fun o e=>k _ (by simp) o e⟩
 item:=by
  intro X hP hw hK hc i pins s σ H E I hf st hg
  subst hP hw hK
  obtain⟨xs,ys,x,y,iR,mK,hx,hy⟩:=hg
  obtain⟨oA,iW,px,_⟩:=I.list iR
  obtain⟨sS,lE,py,_⟩:=I.list mK
  obtain⟨ux,vL,wD⟩:=iW.get hx
  obtain⟨uy,huy,ruy⟩:=lE.get hy
  obtain⟨h1,h2,⟨u,v,h3⟩,h4,h5⟩:=id st
  have ku:∀ c∈[z,TI,TO,i1,i2],c<s.heap.objs.size:=fun c hc=>by
   obtain⟨o4,e4,_⟩:=id h4
   obtain⟨o5,e5,_⟩:=id h5
   simp only [A6,Cm,or_false] at hc
   rcases hc with rfl|rfl|rfl|rfl|rfl
   ·exact AW h1
   ·exact AW h2
   ·exact AW h3
   ·exact AW e4
   ·exact AW e5
  refine wpAny_pyNext_zip_item D h1 h2 h3 h4 h5 px.isList py.isList (by simpa using vL) (by simpa using huy) fun h' a1 a2 a3 a4 a5 a6 hk=>?_
  refine⟨_,rfl,Ji a1 fun jK b1 sb=>?_⟩
  have wU:=ku z (by simp)
  have k2:∀ c o,c∉[z,TI,TO,i1,i2]->s.heap.get? c=some o->jK.get? c=some o:=fun c o hc e=>by
   simp only [A6,Cm,or_false,not_or] at hc
   exact sb.extBut c o hc.1 (hk c o hc.1 hc.2.2.1 hc.2.2.2.1 hc.2.2.2.2 e)
  have ht:jK.get? s.heap.objs.size=some { cls:=.type "tuple",data:=.seq #[ux,uy] }:=sb.extBut _ _ (CO wU) a5
  refine⟨.ref s.heap.objs.size,_,Inv.zdM (s:=s) (h':=jK) (t':=s.toks) (fp:=[z,TI,TO,i1,i2]) I (xs:=[x,y]) (us:=[ux,uy]) k2 hf ku ht (.cons wD (.cons ruy .nil)) (by rw [BR];show 2<=16777216;decide),rfl,
   ⟨_,x,y,rfl,I.ax.fresh (AO _),rfl,fun zs hz=>by rw [I.vT hz iR];exact hx,fun zs hz=>by rw [I.vT hz mK];exact hy⟩,?_,fun c hc=>?_⟩
  ·exact⟨b1,sb.extBut _ _ D.TIz (hk _ _ D.TIz D.TITO D.TIi1 D.TIi2 h2),⟨_,_,sb.extBut _ _ D.TOz a2⟩,a3.extBut sb.extBut D.i1z,a4.extBut sb.extBut D.i2z⟩
  ·rw [aJ (Ba (ku c hc))]
   exact(hf c hc).1
 done:=by
  intro X hP hw hK hc i pins s σ H E I hf st hg
  subst hP hw hK
  obtain⟨xs,ys,iR,mK,yH⟩:=hg
  obtain⟨oA,iW,px,_⟩:=I.list iR
  obtain⟨sS,lE,py,_⟩:=I.list mK
  obtain⟨h1,h2,⟨u,v,h3⟩,h4,h5⟩:=id st
  have lx:=iW.length
  have ly:=lE.length
  refine wpAny_pyNext_zip_end (I.ok.hd hc) D h1 h2 h3 h4 h5 px.isList py.isList ?_ fun h' hk=>⟨rfl,I.uh (t':=s.toks) (fun c o hc e=>?_) hf⟩
  ·rcases yH with h|h
   ·exact .inl (by simp;omega)
   ·exact .inr (by simp;omega)
  ·simp only [A6,Cm,or_false,not_or] at hc
   exact hk c o hc.1 hc.2.2.1 hc.2.2.2.1 hc.2.2.2.2 e
 self:=fun _ _ _ _ _ st h=>F0 st.1 h
section
noncomputable def znj(K:kb)(ta:TA):TI:=fun σ H R=>ta σ H fun vs H1=>∃ a b,vs=[.ref a,.ref b]/\(∃ xs,bp K H1 a xs)/\(∃ ys,bp K H1 b ys)/\R (xk K a b) H1
theorem zrm{a b:Av}(hg:Gl X "zip") (hm:X.mg "zip"=none) (ha:PA X [a,b] ta) (hs:Aw [a,b] X.env=[(false,AB a X.env),(false,AB b X.env)]:=by rfl) (cK:Aw [b] X.env=[(false,AB b X.env)]:=by rfl) :
  PI X (.Tuple es k p0) (.Call (.Name "zip" p) [a,b] [] pos) (znj X.K ta):=by
 intro pins s σ H R I h
 refine Call_ (oB I hg hm (by decide +kernel:Bo "zip"=some (.type "zip")) (E8 (aE (ha pos pins s σ H _ I h) fun us s1 ⟨vs,H1,I1,r1,q1⟩=>?_) (by rw [hs,cK]) (by rw [cK];rfl)))
 obtain⟨l1,l2,e,⟨xs,hx⟩,⟨ys,hy⟩,q⟩:=q1
 subst e
 cases r1 with
 | cons r rr =>
  cases rr with
  | cons r' rr =>
   cases rr
   cases r
   cases r'
   obtain⟨oA,iW,px,_⟩:=I1.list hx
   obtain⟨sS,lE,py,_⟩:=I1.list hy
   have hl1:Fu l1 s1.heap.objs.size:=by obtain⟨o,e,_⟩:=px.isList;exact AW e
   have jM:Fu l2 s1.heap.objs.size:=by obtain⟨o,e,_⟩:=py.isList;exact AW e
   refine call_zip_2 px.isList py.isList fun h' g1 g2 g3 g4 g5 g6 hk=>?_
   refine F0 g1 ⟨_,[s1.heap.objs.size+4,s1.heap.objs.size+2,s1.heap.objs.size+3,s1.heap.objs.size,s1.heap.objs.size+1],_,_,H1,rfl,I1.kept (t':=s1.toks) hk,zi5 _ _ _ _ _ l1 l2 ?_,⟨g1,g2,⟨_,_,g3⟩,g4,g5⟩,fun c hc=>?_,q⟩
   ·have q1:∀ n:Nat,l1≠s1.heap.objs.size+n:=fun n=>Ba (BD hl1 (EE _ _))
    have q2:∀ n:Nat,l2≠s1.heap.objs.size+n:=fun n=>Ba (BD jM (EE _ _))
    constructor <;> first|exact q1 _|exact q2 _|exact q1 0|exact q2 0|exact Ba (by omega)|exact CO (by omega)
   ·have gP:s1.heap.objs.size<=c:=by
     simp only [A6,Cm,or_false] at hc
     rcases hc with rfl|rfl|rfl|rfl|rfl <;> first|exact EE _ _|exact AO _
    exact I1.j8 gP (I1.ax.fresh gP)
end
noncomputable def Ite(K:kb)(a:dm):It :=
 ⟨fun i H=>∃ xs x,bp K H a xs/\xs[i]?=some x,fun i H x H'=>∃ t v,x=.ref t/\H t=none/\H'=upd H t (.tup [.int i,v])/\∀ xs,bp K H a xs->xs[i]?=some v,fun i H=>∃ xs,bp K H a xs/\xs.length<=i⟩
theorem zu4{K:kb}(e it a:dm)(iH:e≠it):Turn P w K (.Tuple es k pos) (Ite K a) [e,it] e (fun i h=>(∃ old,IsEnum h e it i old)/\h.IsListIter it a i) where
 mem:=by simp
 obj:=fun i h st c hc=>by
  obtain⟨⟨old,h1⟩,⟨o4,h4,_,d4⟩⟩:=st
  simp only [A6,Cm,or_false] at hc
  rcases hc with rfl|rfl
  ·exact⟨_,h1,fun v z=>by cases z⟩
  ·exact⟨_,h4,fun v z=>by rw [d4] at z;cases z⟩
 keep:=fun i h h' st k=>by
  obtain⟨⟨old,h1⟩,h4⟩:=st
  exact⟨⟨old,k _ (by simp) _ h1⟩,h4.at fun o e=>k _ (by simp) o e⟩
 item:=by
  intro X hP hw hK hc i pins s σ H E I hf st hg
  subst hP hw hK
  obtain⟨xs,x,iR,hx⟩:=hg
  obtain⟨oA,iW,px,_⟩:=I.list iR
  obtain⟨ux,vL,wD⟩:=iW.get hx
  obtain⟨⟨old,h1⟩,h4⟩:=id st
  have ku:∀ c∈[e,it],c<s.heap.objs.size:=fun c hc=>by
   obtain⟨o4,e4,_⟩:=id h4
   simp only [A6,Cm,or_false] at hc
   rcases hc with rfl|rfl
   ·exact AW h1
   ·exact AW e4
  refine wpAny_pyNext_enum_item h1 h4 px.isList (by simpa using vL) iH fun h' a1 a3 a5 a6 hk=>?_
  refine⟨_,rfl,wpAny_letOwnedTupleGo_enum a1 fun jK b1 sb=>?_⟩
  have wU:=ku e (by simp)
  have k2:∀ c o,c∉[e,it]->s.heap.get? c=some o->jK.get? c=some o:=fun c o hc g=>by
   simp only [A6,Cm,or_false,not_or] at hc
   exact sb.extBut c o hc.1 (hk c o hc.1 hc.2 g)
  have ht:jK.get? s.heap.objs.size=some { cls:=.type "tuple",data:=.seq #[.int i s.toks,ux] }:=sb.extBut _ _ (CO wU) a5
  refine⟨.ref s.heap.objs.size,_,Inv.zdM (s:=s) (h':=jK) (t':=s.toks+1) (fp:=[e,it]) I (xs:=[.int i,x]) (us:=[.int i s.toks,ux]) k2 hf ku ht (.cons ⟨_,rfl⟩ (.cons wD .nil)) (by rw [BR];show 2<=16777216;decide),rfl,
   ⟨_,x,rfl,I.ax.fresh (AO _),rfl,fun zs hz=>by rw [I.vT hz iR];exact hx⟩,?_,fun c hc=>?_⟩
  ·exact⟨⟨_,b1⟩,a3.extBut sb.extBut (BK iH)⟩
  ·rw [aJ (Ba (ku c hc))]
   exact(hf c hc).1
 done:=by
  intro X hP hw hK hc i pins s σ H E I hf st hg
  subst hP hw hK
  obtain⟨xs,iR,yH⟩:=hg
  obtain⟨oA,iW,px,_⟩:=I.list iR
  obtain⟨⟨old,h1⟩,h4⟩:=id st
  have lx:=iW.length
  refine wpAny_pyNext_enum_end (I.ok.hd hc) h1 h4 px.isList (by simp;omega) fun h' hk=>⟨rfl,I.uh (t':=s.toks) (fun c o hc g=>?_) hf⟩
  simp only [A6,Cm,or_false,not_or] at hc
  exact hk c o hc.2 g
 self:=fun _ _ _ _ _ st h=>by
  obtain⟨⟨old,h1⟩,_⟩:=st
  exact wpAny_pyIter_enum h1 h
section
noncomputable def zng(K:kb)(ta:TA):TI:=fun σ H R=>ta σ H fun vs H1=>∃ a,vs=[.ref a]/\(∃ xs,bp K H1 a xs)/\R (Ite K a) H1
theorem zrh{a:Av}(hg:Gl X "enumerate") (hm:X.mg "enumerate"=none) (ha:PA X [a] ta) (hs:Aw [a] X.env=[(false,AB a X.env)]:=by rfl) :
  PI X (.Tuple es k p0) (.Call (.Name "enumerate" p) [a] [] pos) (zng X.K ta):=by
 intro pins s σ H R I h
 refine Call_ (oB I hg hm (by decide +kernel:Bo "enumerate"=some (.type "enumerate")) (E8 (aE (ha pos pins s σ H _ I h) fun us s1 ⟨vs,H1,I1,r1,q1⟩=>?_) hs rfl))
 obtain⟨l1,e,⟨xs,hx⟩,q⟩:=q1
 subst e
 cases r1 with
 | cons r rr =>
  cases rr
  cases r
  obtain⟨oA,iW,px,_⟩:=I1.list hx
  refine call_enumerate_list px.isList fun h' g1 g4 g6 hk=>?_
  refine wpAny_pyIter_enum g1 ⟨_,[s1.heap.objs.size+1,s1.heap.objs.size],_,_,H1,rfl,I1.kept (t':=s1.toks) hk,zu4 _ _ l1 (Nat.succ_ne_self _),⟨⟨_,g1⟩,g4⟩,fun c hc=>?_,q⟩
  have gP:s1.heap.objs.size<=c:=by
   simp only [A6,Cm,or_false] at hc
   rcases hc with rfl|rfl <;> first|exact EE _ _|exact AO _
  exact I1.j8 gP (I1.ax.fresh gP)
theorem zkn{bs:List Bool}:∀{us:List gV},Vals (bs.map V.bl) us->us=bs.map C6:=by
 induction bs with
 | nil=>intro us h;cases h;rfl
 | cons b r ih =>
  intro us h
  cases h with
  | cons h1 h2 =>
   have:=ih h2
   cases h1
   rw [this]
   rfl
theorem zkL(hc:X.calm=true):iu X (.builtin "all") (fun xs H Q=>∃(a:dm) (bs:List Bool),xs=[.ref a]/\bp X.K H a (bs.map V.bl)/\Q (.bl (bs.all id)) H):=by
 intro pins s σ H xs us Q I r h
 obtain⟨a,bs,rfl,hq,q⟩:=h
 obtain⟨u,rfl,rx⟩:=vals1 r
 cases rx
 obtain⟨its,rv,p,hz⟩:=I.list hq
 have e:=zkn rv
 subst e
 have iH:a≠s.heap.objs.size:=by
  obtain⟨o,eo,_⟩:=p.isList
  exact Ba (AW eo)
 have W:=Walks.list (prog:=X.prog) (w:=X.w) (A:=X.A.in1) (show X.A.in1.handled=none from I.ok.hd hc) s.heap.objs.size a iH (bs.map C6).toArray
 refine call_all_walk (Gr p.isList ⟨_,_,_,_,_,_,fun i=>bs.getD i true,rfl,W,⟨⟨_,Bv _ rfl,rfl,rfl⟩,p.isList.push _⟩,?_,fun h' tk hk=>⟨.bl (bs.all id),H,?_,?_,q⟩⟩)
 ·intro i v s' Q' E' hP hQ
  have hP':(bs.map C6)[i]?=some v:=by simpa using hP
  rw [BW] at hP'
  cases e:bs[i]? with
  | none=>rw [e] at hP';cases hP'
  | some b =>
   rw [e] at hP'
   cases hP'
   have:bs.getD i true=b:=by simp [GR,e]
   have hQ2:Q' (bs.getD i true) s':=hQ
   rw [this] at hQ2
   exact AH hQ2
 ·refine Inv.uh (s:={ s with heap:=s.heap.push { cls:=.type "list_iterator",data:=.fields #[.ref a,.int 0 0] },toks:=s.toks }) (t':=tk) (fp:=[s.heap.objs.size]) (I.kept (t':=s.toks) fun b o e=>A1 _ e) (fun b o hb e=>hk b o hb e) fun b hb=>?_
  have e:b=s.heap.objs.size:=by simpa using hb
  subst e
  exact I.j8 (AO _) (I.ax.fresh (AO _))
 ·show C6 _=C6 _
  congr 1
  simp only [Bk,Bc]
  rw [Bool.eq_iff_iff,C0,C0]
  constructor
  ·intro h b hb
   obtain⟨i,hi,e⟩:=List.getElem_of_mem hb
   have:=h i (Hh.mpr hi)
   simpa [GR,hi,e] using this
  ·intro h i hi
   have jj:=Hh.mp hi
   have:=h bs[i] (List.getElem_mem jj)
   simpa [GR,jj] using this
end
end
variable {k:Key}{L:List ib}{tg:Av}{globals:dm}{m:ib->Option gV}{ix:List Nat}{tc:TT}{cl:List (ib×dm)}{σ:St}{Q:AY->ir->Prop}{te:TE}{g:TG}{wi:TI}
section
theorem qh:∀(names:List (ib×Cv)) (n:Nat) (acc:List (ib×dm)),Dd n names acc=Dd n names []++acc
 | [],n,acc=>rfl
 | (x,k)::r,n,acc=>by
  unfold Dd
  split
  ·rw [qh r (n+1) ((x,n)::acc),qh r (n+1) [(x,n)]]
   simp
  ·exact qh r n acc
theorem ye:∀(names:List (ib×Cv)) (n:Nat) (p:ib×dm),p∈Dd n names []->(p.1,Cw)∈names
 | [],n,p,h=>nomatch h
 | (x,k)::r,n,p,h=>by
  unfold Dd at h
  split at h
  ·rename_i hk
   rw [qh] at h
   rcases DF.mp h with h|h
   ·exact Bp _ (ye r _ p h)
   ·have e:p=(x,n):=by simpa using h
    have hk':k=.cell:=by simpa using hk
    subst e hk'
    exact Bu ..
  ·exact Bp _ (ye r _ p h)
theorem zaU{x:ib}:∀(names:List (ib×Cv)) (n:Nat),(x,Cw)∈names->∃ c,(x,c)∈Dd n names []
 | (y,k)::r,n,h=>by
  unfold Dd
  rcases A6.mp h with e|h
  ·cases e
   rw [if_pos (by rfl),qh]
   exact⟨n,Cp _ (Ec.mpr rfl)⟩
  ·split
   ·obtain⟨c,hc⟩:=zaU r (n+1) h
    exact⟨c,by rw [qh];exact El _ hc⟩
   ·exact zaU r n h
theorem zhe{α:Type}{x:ib}{c:α}:∀{l m:List (ib×α)},(l++m).lookup x=some c->l.lookup x=some c\/(l.lookup x=none/\m.lookup x=some c)
 | [],m,h=>.inr ⟨rfl,h⟩
 | (y,b)::r,m,h=>by
  rw [B1,A5] at h
  rw [A5]
  split at h
  ·exact .inl h
  ·exact zhe h
theorem zhf{α:Type}{x:ib}{c:α}:∀{l m:List (ib×α)},m.lookup x=some c->∃ d,(l++m).lookup x=some d
 | [],m,h=>⟨c,h⟩
 | (y,b)::r,m,h=>by
  rw [B1,A5]
  split
  ·exact⟨_,rfl⟩
  ·exact zhf h
theorem zhg{α:Type}{x:ib}:∀{l m:List (ib×α)},l.lookup x=none->(l++m).lookup x=m.lookup x
 | [],m,h=>rfl
 | (y,b)::r,m,h=>by
  rw [A5] at h
  rw [B1,A5]
  split at h
  ·cases h
  ·exact zhg h
theorem zhh{α:Type}{x:ib}:∀{l:List (ib×α)},(∀ p∈l,p.1≠x)->l.lookup x=none
 | [],_=>rfl
 | (y,b)::r,h=>by
  rw [A5]
  have:(x==y)=false:=by
   have:=h (y,b) (Bu ..)
   simpa using fun e=>this e.symm
  rw [this]
  exact zhh fun p hp=>h p (Bp _ hp)
noncomputable def iL(C:dm)(scope:BF):List (ib×dm):=Dd (C+1) scope.names []
noncomputable def cW(X:Cx)(M:List ib)(scope:BF)(C:dm)(s₃:ir)(H₃:Hp)(fp:List dm):Cx :=
 { X with N:=M,s₀:=s₃,H₀:=H₃,env:=F1 scope (iL C scope++fe X.env.cells scope.names []) C X.env,outer:=X.stack,stack:=X.stack,ex:=fp,fn:=fun x=>scope.names.contains (x,Cw),pn:=[],xe:=fun _ _=>False }
structure zaa(X:Cx)(scope:BF)(su:List ib):Prop where
 kind:scope.kind=.function
 cell:∀ y∈scope.names,y.2=.free->X.env.kindOf y.1=some .cell
 loc:∀ y∈scope.names,y.2=.local->scope.names.lookup y.1=some .local
 su:∀ x∈su,scope.names.lookup x≠some .local/\(x,Cw)∉scope.names
 dis:∀ y∈scope.names,y.2=.free->(y.1,Cw)∉scope.names
theorem zp1:∀(names:List (ib×Cv)) {h:Az},h.Ns C m->(pushCells h names).Ns C m:=fun names h hn=>by
 obtain⟨o,es,ep,ho,r⟩:=hn
 exact⟨o,es,ep,pushCells_keeps names h C o ho,r⟩
section
theorem zgG(S:zaa X scope (eF X ix))(I:Inv X pins σ H s)(hf:∀ b∈fp,gw X pins H b)(yJ:∀ b∈fp,b<s.heap.objs.size)
  (vG:∀ i∈ix,i<X.N.length)(hn:h'.Ns s.heap.objs.size fun _=>none)(hk:∀ b u,s.heap.get? b=some u->h'.get? b=some u)(og:CellsOk h' (s.heap.objs.size+1) (iL s.heap.objs.size scope)) :
  Inv (cW X (L++eF X ix) scope s.heap.objs.size s H fp) [] (dA L.length ix σ) H { s with heap:=h',toks:=t' }:=by
 have cl:∀ x c,(fe X.env.cells scope.names []).lookup x=some c->X.env.cells.lookup x=some c:=fun x c e =>
  yg (acc:=[]) (fun p hp=>nomatch hp) (x,c) (Ds e)
 have old:∀ x c,X.env.cells.lookup x=some c->c<s.heap.objs.size:=fun x c e=>by
  obtain⟨v,q⟩:=I.cell x c e
  exact q.lt
 have own:∀ x c,(iL s.heap.objs.size scope).lookup x=some c->h'.IsCell c none/\s.heap.objs.size+1<=c/\(x,Cw)∈scope.names:=fun x c e=>by
  have m:=Ds e
  exact⟨(og.empty x c m).1,(og.empty x c m).2,ye _ _ _ m⟩
 have al:∀ x c,(iL s.heap.objs.size scope++fe X.env.cells scope.names []).lookup x=some c->(iL s.heap.objs.size scope).lookup x=some c\/((iL s.heap.objs.size scope).lookup x=none/\X.env.cells.lookup x=some c):=fun x c e=>by
  rcases zhe e with h|⟨h1,h2⟩
  ·exact .inl h
  ·exact .inr ⟨h1,cl x c h2⟩
 have zhS:∀ x,(x,Cw)∈scope.names->∃ c,(iL s.heap.objs.size scope).lookup x=some c:=fun x hx=>by
  obtain⟨c,hc⟩:=zaU scope.names (s.heap.objs.size+1) hx
  exact vU hc
 refine⟨⟨I.ok.mod,S.kind,I.ok.glob,I.ok.blt,AO _,fun x y c e1 e2=>?_,fun x hx=>?_,fun x c e1 e2=>?_,I.ok.hd,I.ok.frames,.inl rfl,fun b hb=>⟨Ba (yJ b hb),fun x c e=>?_⟩,
  fun b o e=>I.bs b o e,By I.ok.j5 I.sz,fun b o e hb=>?_,fun b hb hz=>?_,I.stack,I.wK,I.ok.tree,I.ok.sk⟩,
  rfl,I.bare,Un.kept hk,⟨_,hn,fun i x v h1 h2 h3=>?_⟩,fun x c e=>?_,I.ax.fresh (AO _),fun x c e=>?_,fun p hp=>absurd (show p∈([]:List (dm×AA)) from hp) (by simp),I.ax.kept hk,?_⟩
 ·rcases al x c e1 with a1|⟨_,a1⟩ <;> rcases al y c e2 with a2|⟨_,a2⟩
  ·exact name_of_addr og.apart (Ds a1) (Ds a2)
  ·exact absurd (old y c a2) (GU.mpr (F2 (own x c a1).2.1))
  ·exact absurd (old x c a1) (GU.mpr (F2 (own y c a2).2.1))
  ·exact I.ok.inj x y c a1 a2
 ·have hx':(EG scope X.env).names.lookup x=some .cell\/(EG scope X.env).names.lookup x=some .free:=hx
  have fr:(x,Cw)∈scope.names\/(x,DQ)∈scope.names:=by
   rcases hx' with q|q
   ·obtain⟨k0,_,h2,h3⟩:=rh (scope:=scope) q
    rcases h3 with rfl|⟨rfl,_⟩
    ·exact .inl h2
    ·exact .inr h2
   ·obtain⟨k0,_,h2,h3⟩:=rh (scope:=scope) q
    rcases h3 with rfl|⟨_,z⟩
    ·exact .inr h2
    ·cases z
  rcases fr with fr|fr
  ·obtain⟨c,hc⟩:=zhS x fr
   show ∃ c,(iL s.heap.objs.size scope++fe X.env.cells scope.names []).lookup x=some c
   exact vU (El _ (Ds hc))
  ·obtain⟨c,hc⟩:=I.ok.has x (.inl (S.cell _ fr rfl))
   obtain⟨d,hd⟩:=vU (uX (names:=scope.names) (acc:=[]) hc fr)
   exact zhf hd
 ·have hx:(x,Cw)∈scope.names:=by
   have lZ:scope.names.contains (x,Cw)=true:=e1
   simpa using lZ
  rcases al x c e2 with a1|⟨a1,_⟩
  ·exact F2 (own x c a1).2.1
  ·obtain⟨d,hd⟩:=zhS x hx
   rw [a1] at hd
   cases hd
 ·rcases al x c e with a1|⟨_,a1⟩
  ·exact CO (BD (yJ b hb) (F2 (own x c a1).2.1))
  ·exact(hf b hb).2.2.2.2.1 x c a1
 ·rcases (hf b hb).2.2.2.1 with z|z
  ·exact I.ok.oK b o e z
  ·exact absurd (AW (I.ok.bs b o e).1) (GU.mpr z)
 ·rcases A6.mp (I.rB b hz) with z|z
  ·exact(hf b hb).2.1 z
  ·exact(hf b hb).2.2.1 z
 ·-- a name that is drawn in
  have hi:L.length<=i:=by
   by_cases hi:i<L.length
   ·unfold dA at h2
    rw [B5 (by simpa using hi),CC,if_pos hi] at h2
    cases h2
   ·omega
  unfold dA at h2
  rw [CH (by simpa using hi),Dt,BW] at h2
  have h1':(L++eF X ix)[i]?=some x:=h1
  rw [CH hi] at h1'
  unfold eF at h1'
  rw [BW] at h1'
  cases ej:ix[i-L.length]? with
  | none=>rw [ej] at h1';cases h1'
  | some j =>
   rw [ej] at h1' h2
   have hj:j<X.N.length:=vG j (CY ej)
   have e1:X.N[j]?=some x:=by
    have:X.N.getD j ""=x:=BC h1'
    rw [<- this]
    simp [GR,hj]
   have e2:σ[j]?=some (some v):=by
    have z:(σ[j]?).getD none=some v:=BC h2
    cases q:σ[j]? with
    | none=>rw [q] at z;cases z
    | some o=>rw [q] at z;exact congrArg some z
   have hx:x∈eF X ix:=by
    unfold eF
    refine Cq.mpr ⟨j,CY ej,?_⟩
    exact BC h1'
   have h3':(EG scope X.env).names.lookup x=some .local\/(EG scope X.env).names.lookup x=some .cell\/(EG scope X.env).names.lookup x=some .free:=h3
   have fr:(x,DQ)∈scope.names:=by
    rcases h3' with q|q|q
    ·obtain⟨k0,g1,g2,g3⟩:=rh (scope:=scope) q
     rcases g3 with rfl|⟨_,z⟩
     ·exact absurd g1 (S.su x hx).1
     ·cases z
    ·obtain⟨k0,_,g2,g3⟩:=rh (scope:=scope) q
     rcases g3 with rfl|⟨rfl,_⟩
     ·exact absurd g2 (S.su x hx).2
     ·exact g2
    ·obtain⟨k0,_,g2,g3⟩:=rh (scope:=scope) q
     rcases g3 with rfl|⟨_,z⟩
     ·exact g2
     ·cases z
   have hc:X.env.kindOf x=some .cell:=S.cell _ fr rfl
   obtain⟨m,_,hl⟩:=I.loc
   obtain⟨u,ru,lk⟩:=hl j x v e1 e2 (.inr (.inl hc))
   refine⟨u,ru,?_⟩
   rcases lk with⟨z,_⟩|⟨_,c,ec,ic⟩
   ·rw [hc] at z;cases z
   ·have k3:(EG scope X.env).names.lookup x=some .cell\/(EG scope X.env).names.lookup x=some .free:=by
     rcases h3' with q|q|q
     ·obtain⟨k0,g1,g2,g3⟩:=rh (scope:=scope) q
      rcases g3 with rfl|⟨_,z⟩
      ·exact absurd g1 (S.su x hx).1
      ·cases z
     ·exact .inl q
     ·exact .inr q
    obtain⟨c',ec'⟩:=vU (uX (names:=scope.names) (acc:=[]) ec fr)
    have e3:=cl x c' ec'
    rw [ec] at e3
    cases e3
    obtain⟨oc,g1,g2⟩:=ic
    have no:(iL s.heap.objs.size scope).lookup x=none:=zhh fun p hp z=>(S.su x hx).2 (by rw [<- z];exact ye _ _ _ hp)
    exact .inr ⟨k3,c,(zhg no).trans ec',oc,hk _ _ g1,g2⟩
 ·rcases al x c e with a1|⟨_,a1⟩
  ·exact⟨none,(own x c a1).1⟩
  ·obtain⟨v,oc,g1,g2⟩:=I.cell x c a1
   exact⟨v,oc,hk _ _ g1,g2⟩
 ·rcases al x c e with a1|⟨_,a1⟩
  ·exact I.ax.fresh (F2 (own x c a1).2.1)
  ·exact I.fX x c a1
 ·show(dA L.length ix σ).length=(L++eF X ix).length
  unfold dA eF
  simp
end
theorem zhI
  (hQ:∀ h',h'.Ns s.heap.objs.size (fun _=>none)->(∀ b u,s.heap.get? b=some u->h'.get? b=some u)->CellsOk h' (s.heap.objs.size+1) (iL s.heap.objs.size scope) ->
   Q { scope:=scope,locals:=s.heap.objs.size,globals:=globals,cells:=iL s.heap.objs.size scope++cl,qual:=qual,func:=none,code:=outer.code,frame:=outer.frame,builtins:=outer.builtins } { s with heap:=h' }) :
  Ax M A (newFunctionEnv scope globals cl [] qual none .none (some outer)) Q E s:=by
 simp only [newFunctionEnv,Jj,if_true]
 refine pd (wpAny_alloc ?_)
 refine pd (wpAny_layCells _ (fun name kind cells=>by cases hkc:kind==Cw <;> simp [hkc]) _ _ _ _ ?_)
 have ok:=cellsFrom_ok scope.names (s.heap.push { cls:=.type "dict",data:=.dict #[] }) (s.heap.objs.size+1) [] ⟨fun _ _ hm=>(nomatch hm),Je⟩ (by rw [CG];exact AO _)
 rw [CG] at ok
 rw [show({ s with heap:=s.heap.push { cls:=.type "dict",data:=.dict #[] } }:ir).heap.objs.size=s.heap.objs.size+1 from CG ..,qh]
 refine pd ?_
 rw [GN]
 refine AH (AH ?_)
 exact hQ _ (zp1 _ (Heap.Ns.new ..)) (fun b u e=>pushCells_keeps _ _ _ _ (A1 _ e)) ok
section
theorem zqU(hc:X.calm=true)(S:zaa X scope (eF X ix))(vG:∀ i∈ix,i<X.N.length)(hi:PI X tg iter wi)
  (hg:∀ C s₃ H₃ fp,PG (cW X (L++eF X ix) scope C s₃ H₃ fp) tg g)(dS:uF L.length g)
  (ht:∀ C s₃ H₃ fp,jb (cW X (L++eF X ix) scope C s₃ H₃ fp) ifs tc)(he:∀ C s₃ H₃ fp,PE (cW X (L++eF X ix) scope C s₃ H₃ fp) elt te)
  (hs:∀ x,CA iter X.env x=pure x:=by intro _;rfl) :
  PE X (.ListComp elt [⟨tg,iter,ifs,0⟩] scope pos) (rE L.length ix wi g tc te):=by
 intro pins s σ H Q I h
 rw [eval_ListComp]
 refine Jk (use:=none) rfl hs (zfu fun y hy e=>I.ok.has y.1 (.inl (S.cell y hy e))) S.kind S.loc (aE (hi pins s σ H _ I h) fun xv s1 h1=>aE h1 fun yX s2 h2=>?_)
 obtain⟨it,fp,tn,J,H2,rfl,I2,T,bY,f2,q⟩:=h2
 have nD:H2 s2.heap.objs.size=none:=I2.ax.fresh (AO _)
 obtain⟨W,⟨m0,w0⟩,turn⟩:=q _ nD
 generalize hD:s2.heap.objs.size=D at nD w0 turn
 have fD:∀ b∈fp,b<D:=fun b hb=>by
  obtain⟨o,e,_⟩:=T.obj _ _ bY b hb
  rw [<- hD]
  exact AW e
 have I3:Inv X pins σ (upd H2 D (.lst [])) { s2 with heap:=s2.heap.push { cls:=.type "list",data:=.seq ([]:List gV).toArray },toks:=s2.toks }:=by
  rw [<- hD]
  exact I2.laid (t':=s2.toks) (fun b u e=>A1 _ e) (AO _) ⟨by simp,[],0,.nil,Bv _ rfl⟩
 refine Cz (zhI (fun h₁ qC qH qy=>?_)) (by show 0<=AU;exact B2 _)
 rw [hD]
 have lH:tn 0 (s2.heap.push { cls:=.type "list",data:=.seq ([]:List gV).toArray }):=T.keep _ _ _ bY fun b hb o e=>A1 _ e
 generalize hp3:s2.heap.push { cls:=.type "list",data:=.seq ([]:List gV).toArray }=h3 at I3 lH qC qH qy
 dsimp only at qC qH qy ⊢
 have sz3:h3.objs.size=D+1:=by rw [<- hp3,CG,hD]
 have old:∀ b u,h3.get? b=some u->h₁.get? b=some u:=fun b u e=>qH b u e
 have f3:∀ b∈fp,gw X pins (upd H2 D (.lst [])) b:=fun b hb=>⟨by rw [aJ (Ba (fD b hb))];exact(f2 b hb).1,(f2 b hb).2⟩
 have I4:=zgG (L:=L) (ix:=ix) (t':=s2.toks) S I3 f3 (fun b hb=>by show b<h3.objs.size;rw [sz3];exact GV (fD b hb)) vG (h':=h₁) qC old qy
 have rp:tn 0 h₁:=T.keep _ _ _ lH fun b hb o e=>old b o e
 generalize hC:(cW X (L++eF X ix) scope h3.objs.size { s2 with heap:=h3,toks:=s2.toks } (upd H2 D (.lst [])) fp)=Y at I4
 have nP:Y.env=F1 scope (iL h3.objs.size scope++fe X.env.cells scope.names []) h3.objs.size X.env:=by rw [<- hC];rfl
 have vy:Y.calm=true:=by rw [<- hC];exact hc
 have nq:Y.xe=fun _ _=>False:=by rw [<- hC];rfl
 have eP:Y.prog=X.prog:=by rw [<- hC];rfl
 have eW:Y.w=X.w:=by rw [<- hC];rfl
 have eK:Y.K=X.K:=by rw [<- hC];rfl
 have eA:Y.A=X.A:=by rw [<- hC];rfl
 have gY:PG Y tg g:=by rw [<- hC];exact hg _ _ _ _
 have tY:jb Y ifs tc:=by rw [<- hC];exact ht _ _ _ _
 have pY:PE Y elt te:=by rw [<- hC];exact he _ _ _ _
 have stat:∀{H':Hp},(∀ b∈fp,H' b=none)->∀ b∈fp,gw Y [] H' b:=fun{H'} hn b hb=>by
  have z1:b∈Y.ex:=by rw [<- hC];exact hb
  have zp:Y.pn=[]:=by rw [<- hC];rfl
  refine⟨hn b hb,(I4.ok.mw b z1).1,I4.ok.mz b z1,.inl z1,(I4.ok.mw b z1).2,fun p hp=>?_⟩
  rw [zp] at hp
  exact absurd hp (by simp)
 have fin:∀{H':Hp} {s':ir},Inv Y [] (dA L.length ix σ) H' s'->Q (.ref D) H'->compPost (Ay X.prog X.w) X.A X.xe none (EP X pins σ Q) (.ref D) h3.objs.size (.ok .next) s':=by
  intro H' s' J' qe
  obtain⟨m,hm,_⟩:=J'.loc
  rw [nP] at hm
  refine⟨m,hm,fun h' sb=>⟨.ref D,H',?_,rfl,qe⟩⟩
  have eS:H' h3.objs.size=none:=by
   have:=J'.free
   rw [nP] at this
   exact this
  have jP:∀ b u,H' b=some u->b≠h3.objs.size:=fun b u e z=>by rw [z,eS] at e;cases e
  have base:Un (dF X.stack) fp (upd H2 D (.lst [])) H' h3 s'.heap:=by
   have:=J'.base
   rw [<- hC] at this
   exact this
  have to':∀ b o,b≠h3.objs.size->s'.heap.get? b=some o->h'.get? b=some o:=fun b o hb e=>sb.extBut b o hb e
  have qL:∀ b o,h3.get? b=some o->b≠h3.objs.size:=fun b o e=>Ba (AW e)
  have un:Un (dF X.stack) fp (upd H2 D (.lst [])) H' h3 h' :=
   ⟨fun b o e n hb hx=>to' b o (qL b o e) (base.keep b o e n hb hx),
    fun b o e n hb hx=>by
    obtain⟨sl,z⟩:=base.slot b o e n hb hx
    exact⟨sl,to' _ _ (qL b o e) z⟩,
    base.free,
    fun b o e hx=>by
    obtain⟨o',z⟩:=base.there b o e hx
    exact⟨o',to' _ _ (qL b o e) z⟩,
    base.gr,base.gC,base.gZ⟩
  have ax:cB X.prog X.w H' h':=fun b u e=>by
   have z:=J'.ax b u e
   rw [eP,eW] at z
   refine z.iN (fun c v hcv qv=>to' c v ?_ qv) (fun _ qq=>qq) fun _ _ qq=>qq
   rcases hcv with zz|zz
   ·rw [zz];exact jP b u e
   ·exact jP c _ zz
  refine I3.yd (s':={ s' with heap:=h' }) (ch:=fp) ?_ un ax J'.bare fun b hb=>?_
  ·have:=J'.os
   rw [<- hC] at this
   exact this
  ·obtain⟨_,g1,g2,g3,g4,g5⟩:=f2 b hb
   exact⟨g3,g1,g4,g5⟩
 have key:∀ s5:ir,s5={ s2 with heap:=h₁,toks:=s2.toks } ->
   Dc (Ay X.prog X.w) X.A (.compLoop (.ListComp elt [⟨tg,iter,ifs,0⟩] scope pos) 0 (.ref it) (.ref D) (F1 scope (iL h3.objs.size scope++fe X.env.cells scope.names []) h3.objs.size X.env))
    (compPost (Ay X.prog X.w) X.A X.xe none (EP X pins σ Q) (.ref D) h3.objs.size) s5:=by
  rintro s5 rfl
  rw [<- nP,<- eP,<- eW,<- eA]
  refine zfC (fun n s'=>∃ i ys H',Inv Y [] (dA L.length ix σ) H' s'/\tn i s'.heap/\(∀ b∈fp,H' b=none)/\W i n ys H') ?_ m0 ⟨0,[],_,?_,rp,fun b hb=>(f3 b hb).1,w0⟩
  ·rintro n s6 ⟨i,ys,H6,I6,jV,vi,w6⟩
   obtain⟨hl6,alt⟩:=turn i n ys H6 w6
   rcases alt with⟨stop,qe⟩|⟨go,step⟩
   ·have Td:=T.done Y eP eW eK vy i [] s6 _ H6 (fun _ _=>False) I6 (stat vi) jV stop
    rw [<- eP,<- eW] at Td
    refine Bb Td (fun r s7 qG=>?_) fun _ _ f=>f.elim
    obtain⟨hr,I7⟩:=qG
    subst hr
    rw [eP,eW,eA]
    exact fin I7 qe
   ·have Ti:=T.item Y eP eW eK vy i [] s6 _ H6 (fun _ _=>False) I6 (stat vi) jV go
    rw [<- eP,<- eW] at Ti
    refine Bb Ti (fun r s7 qG=>?_) fun _ _ f=>f.elim
    obtain⟨u,hr,h7⟩:=qG
    subst hr
    refine Bb h7 (fun _ s8 hr8=>?_) fun _ _ f=>f.elim
    obtain⟨x,H8,I8,r8,y8,rq,fr8⟩:=hr8
    have I8':=I8.pinned (stat fr8) (T.obj _ _ rq)
    have stp:=dS _ _ _ _ (step x H8 y8)
    refine Bb (gY _ s8 _ H8 x u _ I8' r8 stp) (fun _ s9 ⟨σ9,H9,I9,⟨k1,k2⟩,q9⟩=>?_) fun _ _ f=>by rw [nq] at f;exact f.elim
    have weak:∀{Hz:Hp} {sz:ir},Inv Y ([]++tP fp s8.heap) σ9 Hz sz->Inv Y [] (dA L.length ix σ) Hz sz/\tn (i+1) sz.heap/\∀ b∈fp,Hz b=none:=fun{Hz sz} Iz=>by
     refine⟨Iz.wR.weak k1.symm fun j v e=>?_,T.keep _ _ _ rq fun b hb o e=>(Iz.pin (b,o) (Cp _ (Cp _ (sW hb e)))).1,fun b hb=>?_⟩
     ·by_cases hj:L.length<=j
      ·rw [k2 j hj];exact e
      ·unfold dA at e
       rw [B5 (by simpa using GW hj),CC,if_pos (GW hj)] at e
       cases e
     ·obtain⟨o,e,d⟩:=T.obj _ _ rq b hb
      exact(Iz.pin (b,o) (Cp _ (Cp _ (sW hb e)))).2.1
    refine Bb (tY _ s9 σ9 H9 _ I9 q9) (fun ok s10 ⟨pU,uH,wy⟩=>?_) fun _ _ f=>by rw [nq] at f;exact f.elim
    cases ok with
    | false =>
     have q10':∃ m',m'<n/\W (i+1) m' ys pU:=wy
     obtain⟨m',mI,w10⟩:=q10'
     obtain⟨z1,z2,z3⟩:=weak uH
     exact⟨m',mI,i+1,ys,pU,z1,z2,z3,w10⟩
    | true =>
     refine Bb (pY _ s10 σ9 pU _ uH wy) (fun xv s11 ⟨v,uG,I11,r11,zb2,zcy,m',mI,w11⟩=>?_) fun _ _ f=>by rw [nq] at f;exact f.elim
     refine Bb (zhy (X:=Y) _ s11 σ9 uG (.ref D) [v] (.ref D) [xv] (fun _ Hq=>Hq=upd uG D (.lst (ys++[v]))) I11 rfl (.cons r11 .nil) ⟨D,ys,v,rfl,rfl,zb2,zcy,rfl⟩) (fun _ s12 ⟨_,H12,I12,_,e12⟩=>?_) fun _ _ f=>by rw [nq] at f;exact f.elim
     subst e12
     obtain⟨z1,z2,z3⟩:=weak I12
     exact⟨m',mI,i+1,ys++[v],_,z1,z2,z3,w11⟩
  ·exact I4
 exact codeAny_compStart_list (key _ rfl) (T.self _ 0 _ _ _ rp (key _ rfl))
end
end
section
noncomputable def lV(sc scope:BF)(N:List ib)(ix:List Nat):Bool :=
 (scope.names.all fun y=>(y.2 != .free||sc.names.lookup y.1==some .cell)&&(y.2 != .local||scope.names.lookup y.1==some .local)&&(y.2 != .free||!(scope.names.contains (y.1,Cw)))) &&
 ((ix.map fun i=>N.getD i "").all fun x=>scope.names.lookup x != some .local&&!(scope.names.contains (x,Cw)))&&ix.all (fun i=>decide (i<N.length))
section
theorem zhU(L:List ib)(ix:List Nat)(M:List ib)(hc:X.calm=true)(hk:scope.kind=.function)
  (hd:lV X.env.scope scope X.N ix=true)(hM:M=L++ix.map fun i=>X.N.getD i "") (hi:PI X tg iter wi)
  (hg:∀ C s₃ H₃ fp,PG (cW X M scope C s₃ H₃ fp) tg g) (dS:uF L.length g)
  (ht:∀ C s₃ H₃ fp,jb (cW X M scope C s₃ H₃ fp) ifs tc) (he:∀ C s₃ H₃ fp,PE (cW X M scope C s₃ H₃ fp) elt te)
  (hs:∀ x,CA iter X.env x=pure x:=by intro _;rfl) :
  PE X (.ListComp elt [⟨tg,iter,ifs,0⟩] scope pos) (rE L.length ix wi g tc te):=by
 unfold lV at hd
 simp only [Bs,C0,bne_iff_ne,ne_eq,F3,beq_iff_eq,decide_eq_true_eq,HR,Jl,decide_eq_false_iff_not] at hd
 obtain⟨⟨d1,d2⟩,d3⟩:=hd
 have eM:M=L++eF X ix:=by rw [hM];unfold eF;rfl
 subst eM
 refine zqU (L:=L) (ix:=ix) hc ⟨hk,fun y hy e=>?_,fun y hy e=>?_,fun x hx=>?_,fun y hy e=>?_⟩ d3 hi hg dS ht he hs
 ·rcases (d1 y hy).1.1 with z|z
  ·exact absurd e z
  ·exact z
 ·rcases (d1 y hy).1.2 with z|z
  ·exact absurd e z
  ·exact z
 ·unfold eF at hx
  exact d2 x hx
 ·rcases (d1 y hy).2 with z|z
  ·exact absurd e z
  ·exact z
end
end
section
end
variable {x0:ib}{oW pos':AD}{i0:Nat}
section
section
theorem zrH(hN:X.N.Nodup)(vF:X.N[i0]?=some x0)(sP:Loc X.env.scope x0)(hf0:X.fn x0=true\/X.env.scope.names.lookup x0=some .local)
  (qI:Bx (.ListComp elt [⟨tg,iter,ifs,0⟩] scope pos) (some (.Name x0 pos')) oW.line X.env=pure true)(hc:X.calm=true)(S:zaa X scope (eF X ix))(vG:∀ i∈ix,i<X.N.length)(hi:PI X tg iter wi)
  (hg:∀ C s₃ H₃ fp,PG (cW X (L++eF X ix) scope C s₃ H₃ fp) tg g)(dS:uF L.length g)
  (ht:∀ C s₃ H₃ fp,jb (cW X (L++eF X ix) scope C s₃ H₃ fp) ifs tc)(he:∀ C s₃ H₃ fp,PE (cW X (L++eF X ix) scope C s₃ H₃ fp) elt te)
  (hs:∀ x,CA iter X.env x=pure x:=by intro _;rfl) :
  PS X (.Assign [.Name x0 pos'] (.ListComp elt [⟨tg,iter,ifs,0⟩] scope pos) oW) (rC (rE L.length ix wi g tc te) (qu i0)):=by
 intro pins s σ H Dn I h
 have h:rE L.length ix wi g tc te σ H (fun v H1=>Dn.nx (σ.set i0 (some v)) H1):=h
 generalize hQ:(fun v H1=>Dn.nx (σ.set i0 (some v)) H1:VK)=Q at h
 rw [exec_Assign_Name_used _ _ _ _ qI]
 refine pd (D5 (pd ?_))
 show Ax _ _ (do let _ <- comprehension (.ListComp elt [⟨tg,iter,ifs,0⟩] scope pos) scope X.env _ (newList []) false (AB iter X.env) (some (Cy (.Name x0 pos') X.env))) _ _ s
 refine pd (Bb (Jk (use:=some (Cy (.Name x0 pos') X.env)) (Q:=fun _ s'=>SP X pins Dn .next s') rfl hs (zfu fun y hy e=>I.ok.has y.1 (.inl (S.cell y hy e))) S.kind S.loc (aE (hi pins s σ H _ I h) fun xv s1 h1=>aE h1 fun yX s2 h2=>?_)) (fun _ s' hq=>AH (AH hq)) fun _ _ e=>e)
 obtain⟨it,fp,tn,J,H2,rfl,I2,T,bY,f2,q⟩:=h2
 have nD:H2 s2.heap.objs.size=none:=I2.ax.fresh (AO _)
 obtain⟨W,⟨m0,w0⟩,turn⟩:=q _ nD
 generalize hD:s2.heap.objs.size=D at nD w0 turn
 have fD:∀ b∈fp,b<D:=fun b hb=>by
  obtain⟨o,e,_⟩:=T.obj _ _ bY b hb
  rw [<- hD]
  exact AW e
 have I3:Inv X pins σ (upd H2 D (.lst [])) { s2 with heap:=s2.heap.push { cls:=.type "list",data:=.seq ([]:List gV).toArray },toks:=s2.toks }:=by
  rw [<- hD]
  exact I2.laid (t':=s2.toks) (fun b u e=>A1 _ e) (AO _) ⟨by simp,[],0,.nil,Bv _ rfl⟩
 refine Cz (zhI (fun h₁ qC qH qy=>?_)) (by show 0<=AU;exact B2 _)
 rw [hD]
 have lH:tn 0 (s2.heap.push { cls:=.type "list",data:=.seq ([]:List gV).toArray }):=T.keep _ _ _ bY fun b hb o e=>A1 _ e
 generalize hp3:s2.heap.push { cls:=.type "list",data:=.seq ([]:List gV).toArray }=h3 at I3 lH qC qH qy
 dsimp only at qC qH qy ⊢
 have sz3:h3.objs.size=D+1:=by rw [<- hp3,CG,hD]
 have old:∀ b u,h3.get? b=some u->h₁.get? b=some u:=fun b u e=>qH b u e
 have f3:∀ b∈fp,gw X pins (upd H2 D (.lst [])) b:=fun b hb=>⟨by rw [aJ (Ba (fD b hb))];exact(f2 b hb).1,(f2 b hb).2⟩
 have I4:=zgG (L:=L) (ix:=ix) (t':=s2.toks) S I3 f3 (fun b hb=>by show b<h3.objs.size;rw [sz3];exact GV (fD b hb)) vG (h':=h₁) qC old qy
 have rp:tn 0 h₁:=T.keep _ _ _ lH fun b hb o e=>old b o e
 generalize hC:(cW X (L++eF X ix) scope h3.objs.size { s2 with heap:=h3,toks:=s2.toks } (upd H2 D (.lst [])) fp)=Y at I4
 have nP:Y.env=F1 scope (iL h3.objs.size scope++fe X.env.cells scope.names []) h3.objs.size X.env:=by rw [<- hC];rfl
 have vy:Y.calm=true:=by rw [<- hC];exact hc
 have nq:Y.xe=fun _ _=>False:=by rw [<- hC];rfl
 have eP:Y.prog=X.prog:=by rw [<- hC];rfl
 have eW:Y.w=X.w:=by rw [<- hC];rfl
 have eK:Y.K=X.K:=by rw [<- hC];rfl
 have eA:Y.A=X.A:=by rw [<- hC];rfl
 have gY:PG Y tg g:=by rw [<- hC];exact hg _ _ _ _
 have tY:jb Y ifs tc:=by rw [<- hC];exact ht _ _ _ _
 have pY:PE Y elt te:=by rw [<- hC];exact he _ _ _ _
 have stat:∀{H':Hp},(∀ b∈fp,H' b=none)->∀ b∈fp,gw Y [] H' b:=fun{H'} hn b hb=>by
  have z1:b∈Y.ex:=by rw [<- hC];exact hb
  have zp:Y.pn=[]:=by rw [<- hC];rfl
  refine⟨hn b hb,(I4.ok.mw b z1).1,I4.ok.mz b z1,.inl z1,(I4.ok.mw b z1).2,fun p hp=>?_⟩
  rw [zp] at hp
  exact absurd hp (by simp)
 have fin:∀{H':Hp} {s':ir},Inv Y [] (dA L.length ix σ) H' s'->Q (.ref D) H'->compPost (Ay X.prog X.w) X.A X.xe (some (Cy (.Name x0 pos') X.env)) (fun _ s'=>SP X pins Dn .next s') (.ref D) h3.objs.size (.ok .next) s':=by
  intro H' s' J' qe
  obtain⟨m,hm,_⟩:=J'.loc
  rw [nP] at hm
  have eS:H' h3.objs.size=none:=by
   have:=J'.free
   rw [nP] at this
   exact this
  have mk:∀ h',Em h3.objs.size s'.heap h'->Inv X pins σ H' { s' with heap:=h' }:=by
   intro h' sb
   have eS:H' h3.objs.size=none:=by
    have:=J'.free
    rw [nP] at this
    exact this
   have jP:∀ b u,H' b=some u->b≠h3.objs.size:=fun b u e z=>by rw [z,eS] at e;cases e
   have base:Un (dF X.stack) fp (upd H2 D (.lst [])) H' h3 s'.heap:=by
    have:=J'.base
    rw [<- hC] at this
    exact this
   have to':∀ b o,b≠h3.objs.size->s'.heap.get? b=some o->h'.get? b=some o:=fun b o hb e=>sb.extBut b o hb e
   have qL:∀ b o,h3.get? b=some o->b≠h3.objs.size:=fun b o e=>Ba (AW e)
   have un:Un (dF X.stack) fp (upd H2 D (.lst [])) H' h3 h' :=
    ⟨fun b o e n hb hx=>to' b o (qL b o e) (base.keep b o e n hb hx),
     fun b o e n hb hx=>by
     obtain⟨sl,z⟩:=base.slot b o e n hb hx
     exact⟨sl,to' _ _ (qL b o e) z⟩,
     base.free,
     fun b o e hx=>by
     obtain⟨o',z⟩:=base.there b o e hx
     exact⟨o',to' _ _ (qL b o e) z⟩,
     base.gr,base.gC,base.gZ⟩
   have ax:cB X.prog X.w H' h':=fun b u e=>by
    have z:=J'.ax b u e
    rw [eP,eW] at z
    refine z.iN (fun c v hcv qv=>to' c v ?_ qv) (fun _ qq=>qq) fun _ _ qq=>qq
    rcases hcv with zz|zz
    ·rw [zz];exact jP b u e
    ·exact jP c _ zz
   refine I3.yd (s':={ s' with heap:=h' }) (ch:=fp) ?_ un ax J'.bare fun b hb=>?_
   ·have:=J'.os
    rw [<- hC] at this
    exact this
   ·obtain⟨_,g1,g2,g3,g4,g5⟩:=f2 b hb
    exact⟨g3,g1,g4,g5⟩
  have I5:Inv X pins σ H' s':=mk s'.heap (Heap.SameBut.refl ..)
  show Ax _ _ (Cy (.Name x0 pos') X.env (.ref D)) _ _ s'
  refine wpAny_assign_Name (ziM (v:=.ref D) I5 hN vF sP rfl (fun iM I6 hh=>?_) hf0)
  obtain⟨a6,sb6,ha6⟩:=hh
  have jP:a6≠h3.objs.size:=by
   rcases ha6 with z|z
   ·rw [z];exact Ba I3.lt
   ·obtain⟨v6,q6⟩:=I3.cell x0 a6 z
    exact Ba q6.lt
  refine⟨m,hm.sameBut sb6 (BK jP),fun jK sb2=>⟨_,H',?_,by rw [<- hQ] at qe;exact qe⟩⟩
  refine Inv.uh (t':=iM.toks) (fp:=[h3.objs.size]) I6 (fun b o hb e=>sb2.extBut b o (by simpa using hb) e) fun b hb=>?_
  have e:b=h3.objs.size:=by simpa using hb
  subst e
  exact I3.j8 (AO _) eS
 have key:∀ s5:ir,s5={ s2 with heap:=h₁,toks:=s2.toks } ->
   Dc (Ay X.prog X.w) X.A (.compLoop (.ListComp elt [⟨tg,iter,ifs,0⟩] scope pos) 0 (.ref it) (.ref D) (F1 scope (iL h3.objs.size scope++fe X.env.cells scope.names []) h3.objs.size X.env))
    (compPost (Ay X.prog X.w) X.A X.xe (some (Cy (.Name x0 pos') X.env)) (fun _ s'=>SP X pins Dn .next s') (.ref D) h3.objs.size) s5:=by
  rintro s5 rfl
  rw [<- nP,<- eP,<- eW,<- eA]
  refine zfC (fun n s'=>∃ i ys H',Inv Y [] (dA L.length ix σ) H' s'/\tn i s'.heap/\(∀ b∈fp,H' b=none)/\W i n ys H') ?_ m0 ⟨0,[],_,?_,rp,fun b hb=>(f3 b hb).1,w0⟩
  ·rintro n s6 ⟨i,ys,H6,I6,jV,vi,w6⟩
   obtain⟨hl6,alt⟩:=turn i n ys H6 w6
   rcases alt with⟨stop,qe⟩|⟨go,step⟩
   ·have Td:=T.done Y eP eW eK vy i [] s6 _ H6 (fun _ _=>False) I6 (stat vi) jV stop
    rw [<- eP,<- eW] at Td
    refine Bb Td (fun r s7 qG=>?_) fun _ _ f=>f.elim
    obtain⟨hr,I7⟩:=qG
    subst hr
    rw [eP,eW,eA]
    exact fin I7 qe
   ·have Ti:=T.item Y eP eW eK vy i [] s6 _ H6 (fun _ _=>False) I6 (stat vi) jV go
    rw [<- eP,<- eW] at Ti
    refine Bb Ti (fun r s7 qG=>?_) fun _ _ f=>f.elim
    obtain⟨u,hr,h7⟩:=qG
    subst hr
    refine Bb h7 (fun _ s8 hr8=>?_) fun _ _ f=>f.elim
    obtain⟨x,H8,I8,r8,y8,rq,fr8⟩:=hr8
    have I8':=I8.pinned (stat fr8) (T.obj _ _ rq)
    have stp:=dS _ _ _ _ (step x H8 y8)
    refine Bb (gY _ s8 _ H8 x u _ I8' r8 stp) (fun _ s9 ⟨σ9,H9,I9,⟨k1,k2⟩,q9⟩=>?_) fun _ _ f=>by rw [nq] at f;exact f.elim
    have weak:∀{Hz:Hp} {sz:ir},Inv Y ([]++tP fp s8.heap) σ9 Hz sz->Inv Y [] (dA L.length ix σ) Hz sz/\tn (i+1) sz.heap/\∀ b∈fp,Hz b=none:=fun{Hz sz} Iz=>by
     refine⟨Iz.wR.weak k1.symm fun j v e=>?_,T.keep _ _ _ rq fun b hb o e=>(Iz.pin (b,o) (Cp _ (Cp _ (sW hb e)))).1,fun b hb=>?_⟩
     ·by_cases hj:L.length<=j
      ·rw [k2 j hj];exact e
      ·unfold dA at e
       rw [B5 (by simpa using GW hj),CC,if_pos (GW hj)] at e
       cases e
     ·obtain⟨o,e,d⟩:=T.obj _ _ rq b hb
      exact(Iz.pin (b,o) (Cp _ (Cp _ (sW hb e)))).2.1
    refine Bb (tY _ s9 σ9 H9 _ I9 q9) (fun ok s10 ⟨pU,uH,wy⟩=>?_) fun _ _ f=>by rw [nq] at f;exact f.elim
    cases ok with
    | false =>
     have q10':∃ m',m'<n/\W (i+1) m' ys pU:=wy
     obtain⟨m',mI,w10⟩:=q10'
     obtain⟨z1,z2,z3⟩:=weak uH
     exact⟨m',mI,i+1,ys,pU,z1,z2,z3,w10⟩
    | true =>
     refine Bb (pY _ s10 σ9 pU _ uH wy) (fun xv s11 ⟨v,uG,I11,r11,zb2,zcy,m',mI,w11⟩=>?_) fun _ _ f=>by rw [nq] at f;exact f.elim
     refine Bb (zhy (X:=Y) _ s11 σ9 uG (.ref D) [v] (.ref D) [xv] (fun _ Hq=>Hq=upd uG D (.lst (ys++[v]))) I11 rfl (.cons r11 .nil) ⟨D,ys,v,rfl,rfl,zb2,zcy,rfl⟩) (fun _ s12 ⟨_,H12,I12,_,e12⟩=>?_) fun _ _ f=>by rw [nq] at f;exact f.elim
     subst e12
     obtain⟨z1,z2,z3⟩:=weak I12
     exact⟨m',mI,i+1,ys++[v],_,z1,z2,z3,w11⟩
  ·exact I4
 exact codeAny_compStart_list (key _ rfl) (T.self _ 0 _ _ _ rp (key _ rfl))
theorem zrI(i0:Nat)(L:List ib)(ix:List Nat)(M:List ib)(hN:X.N.Nodup)(vF:X.N[i0]?=some x0)(sP:X.env.scope.names.lookup x0=some .local)
  (qI:Bx (.ListComp elt [⟨tg,iter,ifs,0⟩] scope pos) (some (.Name x0 pos')) oW.line X.env=pure true)(hc:X.calm=true)(hk:scope.kind=.function)
  (hd:lV X.env.scope scope X.N ix=true)(hM:M=L++ix.map fun i=>X.N.getD i "") (hi:PI X tg iter wi)
  (hg:∀ C s₃ H₃ fp,PG (cW X M scope C s₃ H₃ fp) tg g) (dS:uF L.length g)
  (ht:∀ C s₃ H₃ fp,jb (cW X M scope C s₃ H₃ fp) ifs tc) (he:∀ C s₃ H₃ fp,PE (cW X M scope C s₃ H₃ fp) elt te)
  (hs:∀ x,CA iter X.env x=pure x:=by intro _;rfl) :
  PS X (.Assign [.Name x0 pos'] (.ListComp elt [⟨tg,iter,ifs,0⟩] scope pos) oW) (rC (rE L.length ix wi g tc te) (qu i0)):=by
 unfold lV at hd
 simp only [Bs,C0,bne_iff_ne,ne_eq,F3,beq_iff_eq,decide_eq_true_eq,HR,Jl,decide_eq_false_iff_not] at hd
 obtain⟨⟨d1,d2⟩,d3⟩:=hd
 have eM:M=L++eF X ix:=by rw [hM];unfold eF;rfl
 subst eM
 refine zrH (L:=L) (ix:=ix) hN vF (.inl sP) (.inr sP) qI hc ⟨hk,fun y hy e=>?_,fun y hy e=>?_,fun x hx=>?_,fun y hy e=>?_⟩ d3 hi hg dS ht he hs
 ·rcases (d1 y hy).1.1 with z|z
  ·exact absurd e z
  ·exact z
 ·rcases (d1 y hy).1.2 with z|z
  ·exact absurd e z
  ·exact z
 ·unfold eF at hx
  exact d2 x hx
 ·rcases (d1 y hy).2 with z|z
  ·exact absurd e z
  ·exact z
end
end
section
end
variable {o:Option V}{aj:List (List Key×V)}{Q:gV->ir->Prop}{xs:List (List Key×dm×gV)}{ks:List Key}{ob:HO}{κ:Type}
section
section
variable [DecidableEq κ]
noncomputable def kG(aj:List (κ×V))(k:κ):Option V:=(aj.find? fun kv=>decide (kv.1=k)).map (·.2)
noncomputable def putK(aj:List (κ×V))(k:κ)(v:V):List (κ×V) :=
 if(aj.any fun kv=>decide (kv.1=k))=true then aj.map (fun kv=>if kv.1=k then(kv.1,v) else kv) else aj++[(k,v)]
theorem zdQ{p:κ×V}{r:List (κ×V)}{k:κ}(e:p.1=k):kG (p::r) k=some p.2:=by simp [kG,Ed,e]
theorem zdP{p:κ×V}{r:List (κ×V)}{k:κ}(e:¬ p.1=k):kG (p::r) k=kG r k:=by simp [kG,Ed,e]
theorem zja(k:κ):∀ aj:List (κ×V),(aj.any fun kv=>decide (kv.1=k))=(kG aj k).isSome
 | []=>rfl
 | p::r=>by
  rw [HS]
  by_cases e:p.1=k
  ·simp only [zdQ e,decide_eq_true e,Bool.true_or,Jj]
  ·rw [zdP e,decide_eq_false e,Bool.false_or];exact zja k r
theorem zpf(aj:List (κ×V))(k:κ)(v:V):(putK aj k v).length<=aj.length+1:=by
 unfold putK
 split
 ·rw [Bc];omega
 ·rw [B6,A0,Bg];omega
theorem gK.zgJ{u:Option gV}(r:gK o u):o.isSome=u.isSome:=by
 cases o with
 | none=>cases u with
  | none=>rfl
  | some _=>exact(show False from r).elim
 | some _=>cases u with
  | none=>exact(show False from r).elim
  | some _=>rfl
end
theorem znT(r:RelV (kV k) u):(kx P w).is k u=true:=by
 cases k with
 | inl i=>obtain⟨t,e⟩:=(show ∃ t,u=D1 i t from r);subst e;exact zpG P w i t
 | inr x=>obtain⟨t,e⟩:=(show ∃ t,u=EX x t from r);subst e;exact zpH P w x t
theorem zgL{P:AK}{w:AJ}:∀{ks:List Key} {us:List gV},Vals (ks.map kV) us->ItemsAre (kx P w) ks us
 | [],_,r=>by rw [CF] at r;cases r;exact .nil
 | k::ks,_,r=>by
  rw [A2] at r
  cases r with
  | cons h t=>exact .cons (znT h) (zgL t)
abbrev KT(H:Hp):List (List Key×V)->List (List Key×dm×gV)->Prop:=Dk fun p q=>p.1=q.1/\dU H q.2.1 (p.1.map kV)/\RelV p.2 q.2.2
theorem KT.val(r:KT H aj xs)(k:List Key):gK (kG aj k) ((DS xs k).map (·.2)):=by
 induction r with
 | nil=>exact D6
 | @cons p q ps qs h t ih =>
  obtain⟨h1,_,h2⟩:=h
  by_cases e:p.1=k
  ·have e':q.1=k:=h1.symm.trans e
   have b:DS (q::qs) k=some q.2:=by simp [DS,Ed,e']
   rw [zdQ e,b];exact h2
  ·have e':¬ q.1=k:=fun z=>e (h1.trans z)
   have b:DS (q::qs) k=DS qs k:=by simp [DS,Ed,e']
   rw [zdP e,b];exact ih
theorem KT.ztU(r:KT H aj xs)(k:List Key)(ry:RelV y u) :
  KT H (aj.map fun kv=>if kv.1=k then(kv.1,y) else kv) (xs.map (putAt k u)):=by
 induction r with
 | nil=>exact .nil
 | @cons p q ps qs h t ih =>
  rw [A2,A2]
  refine .cons ?_ ih
  obtain⟨h1,h2,h3⟩:=h
  unfold putAt
  by_cases e:p.1=k
  ·rw [if_pos e,if_pos (h1.symm.trans e)];exact⟨h1,h2,ry⟩
  ·rw [if_neg e,if_neg (fun z=>e (h1.trans z))];exact⟨h1,h2,h3⟩
theorem KT.put(r:KT H aj xs)(k:List Key)(hb:dU H b (k.map kV))(ry:RelV y u) :
  KT H (putK aj k y) (storedH xs k b u):=by
 have e:(aj.any fun kv=>decide (kv.1=k))=(DS xs k).isSome:=by
  rw [zja,(r.val k).zgJ,Jm]
 unfold putK storedH
 rw [e]
 by_cases q:(DS xs k).isSome=true
 ·rw [if_pos q,if_pos q];exact r.ztU k ry
 ·rw [if_neg q,if_neg q];exact Paired.snoc r ⟨rfl,hb,ry⟩
theorem KT.keeps(r:KT H aj xs)(ht:∀ b ys,dU H b ys->dU H' b ys):KT H' aj xs :=
 Dk.zcU r fun _ _ z=>⟨z.1,ht _ _ z.2.1,z.2.2⟩
section
theorem ztN{u:HO}(ok:cB P w H h)(e:Rd H a u):cE P w H h a u:=e.ok ok
theorem za(ok:cB P w H h)(e:dU H a (ks.map kV)):(FG (kx P w)).is h ks a:=by
 obtain⟨_,its,r,o,h1,h2,n,h3⟩:=(show cE P w H h a (.tup (ks.map kV)) from Rd.ok e ok)
 exact⟨o,its.toArray,n,h1,h2,h3,by simpa using zgL r⟩
theorem u3(ok:cB P w H h)(e:Rd H a (.dT aj)):aj.length<=AU/\(a==DC)=false /\
  ∃ xs,KT H aj xs/\h.DictOfH (FG (kx P w)) a xs:=by
 obtain⟨z,y,xs,r,o,es,ep,h1,h2,h3,h4,h5⟩:=(show cE P w H h a (.dT aj) from ztN ok e)
 refine⟨z,y,xs,r,o,es,ep,h1,h2,h3,h4,fun x hx=>?_,h5⟩
 have all:∀{l:List (List Key×V)} {m:List (List Key×dm×gV)},KT H l m->∀ x∈m,(FG (kx P w)).is h x.1 x.2.1:=by
  intro l m q
  induction q with
  | nil=>intro x hx;exact nomatch hx
  | @cons p q ps qs hq t ih =>
   intro x hx
   rcases A6.mp hx with e|hx
   ·subst e
    exact za ok (by rw [<- hq.1];exact hq.2.1)
   ·exact ih x hx
 exact all r x hx
theorem zlP(ok:cB P w H h)(e:H a=some (.dT aj)):aj.length<=AU/\(a==DC)=false /\
  ∃ xs,KT H aj xs/\h.DictOfH (FG (kx P w)) a xs:=u3 ok (.inl e)
end
def wW(H:Hp)(a:dm)(y:V)(r:Option V):Prop :=
 ∃ aj k b,Rd H a (.dT aj)/\y=.ref b/\dU H b (k.map kV)/\r=kG aj k
def zdW(H:Hp)(a:dm)(y v:V)(H':Hp):Prop :=
 ∃ aj k b,H a=some (.dT aj)/\y=.ref b/\dU H b (k.map kV)/\aj.length<AU/\H'=upd H a (.dT (putK aj k v))
section
variable {v:V}{r:gV}
theorem Inv.big(I:Inv X pins σ H s):DC<s.heap.objs.size:=by
 have h:AV<s.heap.objs.size:=(I.mod.glob.keeps I.bk).lt
 exact Nat.lt_trans (by decide) h
theorem zln(hu:A.units+1<BV)(I:Inv X pins σ H s)(g:wW H a y (some v))(ry:RelV y u)(h:∀ w' s',Inv X pins σ H s'->RelV v w'->Q w' s') :
  Ax (Ay X.prog X.w) A (DL (.ref a) u) Q E s:=by
 obtain⟨aj,k,b,e,ey,eb,l⟩:=g
 subst ey
 cases (show u=A8 b from ry)
 obtain⟨z,hd,xs,rel,dd⟩:=u3 I.ax e
 obtain⟨w',hw,iX⟩:=gK.some_of (v:=v) (o:=(DS xs k).map (·.2)) (by rw [l];exact rel.val k)
 obtain⟨p,hp,hp2⟩:=C2.mp hw
 refine wpAny_getItem_heap (HU hu) (za I.ax eb) dd hp ?_
 rw [hp2]
 exact h w' _ (I.tok _) iX
theorem zlo(hu:A.units+1<BV)(I:Inv X pins σ H s)(g:wW H a y o)(ry:RelV y u)(h:∀ s',Inv X pins σ H s'->Q (.bool o.isSome) s') :
  Ax (Ay X.prog X.w) A (A3 .In u (.ref a)) Q E s:=by
 obtain⟨aj,k,b,e,ey,eb,l⟩:=g
 subst ey
 cases (show u=A8 b from ry)
 obtain⟨z,hd,xs,rel,dd⟩:=u3 I.ax e
 refine wpAny_in_heap (HU hu) (za I.ax eb) hd dd ?_
 have q:=(rel.val k).zgJ
 rw [Jm] at q
 rw [<- q,<- l]
 exact h _ (I.tok _)
theorem zlB(I:Inv X pins σ H s)(mu:uJ (H a))(hs:Em a s.heap h')(he:∃ q,h'.get? a=some q)(new:cE X.prog X.w (upd H a ob) h' a ob) :
  Inv X pins σ (upd H a ob) { s with heap:=h',toks:=t' } :=
 I.write (x:=a) (e:=a) mu (.inl rfl) (fun b q hb z=>(hs.2 b hb).trans z) he new
theorem zlz{Q:Unit->ir->Prop}(hu:A.units+1<BV)(I:Inv X pins σ H s)(g:zdW H a y v H')(ry:RelV y u)(rv:RelV v r)(h:∀ s',Inv X pins σ H' s'->Q () s') :
  Ax (Ay X.prog X.w) A (setItem (.ref a) u r) Q E s:=by
 obtain⟨aj,k,b,e,ey,eb,l,eH⟩:=g
 subst ey eH
 cases (show u=A8 b from ry)
 obtain⟨z,hd,xs,rel,dd⟩:=zlP I.ax e
 have hz:xs.length<=AU:=by rw [<- Gn rel];exact z
 have hl:(putK aj k v).length<=AU:=by have:=zpf aj k v;omega
 refine wpAny_setItem_heap (hsz:=hz) (HU hu) (za I.ax eb) dd fun h' dd' hs=>h _ ?_
 obtain⟨q,es,ep,hq,h2,h3,h4,_,h5⟩:=dd'
 refine zlB I (by rw [e];exact D6) hs ⟨q,hq⟩ ⟨hl,hd,_,(rel.put k eb rv).keeps fun c ys ec=>?_,q,es,ep,hq,h2,h3,h4,h5⟩
 exact ec.upd (fun _ z=>zhH z e (fun z=>nomatch z)) fun _ _ z=>zhH z e (fun z=>nomatch z)
end
theorem zlI(I:Inv X pins σ H s)(g:wW H a y o):s.TypeIs (.ref a) "dict":=by
 obtain⟨aj,k,b,e,_,_,_⟩:=g
 obtain⟨_,_,xs,_,dd⟩:=u3 I.ax e
 exact dd.typeIs
theorem zlO(h:Az)(hb:DC<h.objs.size):cE P w H (h.push { cls:=.type "dict",data:=.dict #[] }) h.objs.size (.dT []) :=
 ⟨B2 _,beq_eq_false_iff_ne.mpr (BK (Ba hb)),[],.nil,_,#[],0,Bv _ rfl,⟨rfl,rfl,rfl⟩,rfl,rfl,List.nodup_nil⟩
noncomputable def zux:TE:=fun _ H Q=>∀ p,H p=none->Q (.ref p) (upd H p (.dT []))
section
theorem zqV:PE X (.Dict [] [] pos) zux:=fun pins s σ H Q I h =>
 wpAny_Dict_empty ⟨.ref s.heap.objs.size,_,I.laid (a:=s.heap.objs.size) (o:=.dT []) (t':=s.toks) (fun _ _ q=>A1 _ q) (AO _) (zlO s.heap I.big),rfl,h _ (I.ax.fresh (AO _))⟩
end
def xi(H:Hp)(a:dm):Prop:=∃ aj,Rd H a (.dT aj)
end
section
end
section
end
section
end
section
end
section
end
section
theorem zjb:∀{xs:List V} {us:List gV},xs.length=us.length->(∀(j:Nat) x u,xs[j]?=some x->us[j]?=some u->RelV x u)->Vals xs us
 | [],[],_,_=>.nil
 | x::xs,u::us,l,h=>.cons (h 0 x u rfl rfl) (zjb (by simpa using l) fun j y v e1 e2=>h (j+1) y v (by simpa using e1) (by simpa using e2))
end
end L2
namespace Q1
variable {b p q r t:Int}
section
noncomputable def fr(t b:Int):Int×Int:=if b<0 then(t / -(AG t b:Int),b / -(AG t b:Int)) else(t / (AG t b:Int),b / (AG t b:Int))
structure iy(p q:Int):Prop where
 pos:0<q
 qi:AG p q=1
theorem vp(h:b≠0):0<(AG t b:Int):=by
 have:0<AG t b:=HV _ h
 omega
theorem zlJ:((AG t b:Nat):Int)∣t:=Fv ..
theorem za2:((AG t b:Nat):Int)∣b:=EH ..
theorem uY(h:b≠0):AG (t / (AG t b:Int)) (b / (AG t b:Int))=1:=by
 have hp:0<AG t b:=HV _ h
 exact Int.gcd_ediv_gcd_ediv_gcd hp
theorem zmv(h:b≠0):iy (fr t b).1 (fr t b).2:=by
 have hg:=vp (t:=t) h
 have c:=uY (t:=t) h
 unfold fr
 split
 ·rename_i hb
  refine⟨?_,?_⟩
  ·show 0<b / -(AG t b:Int)
   rw [F4]
   have:=Cr (za2 (t:=t) (b:=b))
   have h1:b / (AG t b:Int)<0:=by
    rcases HW (b / (AG t b:Int)) 0 with z|z|z
    ·exact z
    ·rw [z] at this;omega
    ·have:=Fw z hg;omega
   omega
  ·show AG (t / -(AG t b:Int)) (b / -(AG t b:Int))=1
   rw [F4,F4,Int.gcd_neg,Int.neg_gcd]
   exact c
 ·rename_i hb
  refine⟨?_,c⟩
  show 0<b / (AG t b:Int)
  have:=Cr (za2 (t:=t) (b:=b))
  rcases HW (b / (AG t b:Int)) 0 with z|z|z
  ·have:=Jn z hg;omega
  ·rw [z] at this;omega
  ·exact z
theorem zmu(h:b≠0):(fr t b).1*b=t*(fr t b).2:=by
 have e1:=Cr (zlJ (t:=t) (b:=b))
 have e2:=Cr (za2 (t:=t) (b:=b))
 have key:t / (AG t b:Int)*b=t*(b / (AG t b:Int)):=by
  calc t / (AG t b:Int)*b=t / (AG t b:Int)*(b / (AG t b:Int)*(AG t b:Int)):=by rw [e2]
   _=t / (AG t b:Int)*(AG t b:Int)*(b / (AG t b:Int)):=by rw [DA,EI (b / _)]
   _=t*(b / (AG t b:Int)):=by rw [e1]
 unfold fr
 split
 ·show t / -(AG t b:Int)*b=t*(b / -(AG t b:Int))
  rw [F4,F4,Int.neg_mul,Int.mul_neg,key]
 ·exact key
theorem u5(h:q∣p*r)(c:AG p q=1):q∣r:=by
 have h1:q.natAbs∣p.natAbs*r.natAbs:=by
  rw [<- EJ]
  exact HX.mpr h
 have c':Nat.Coprime q.natAbs p.natAbs:=by
  show Fx q.natAbs p.natAbs=1
  rw [HY]
  exact c
 exact HX.mp (Nat.Coprime.dvd_of_dvd_mul_left c' h1)
theorem zpp{p' q':Int}(a:iy p q)(b:iy p' q')(h:p*q'=p'*q):p=p'/\q=q':=by
 have d1:q∣q':=by
  have:q∣p*q':=⟨p',by rw [h,EI]⟩
  exact u5 this a.qi
 have d2:q'∣q:=by
  have:q'∣p'*q:=⟨p,by rw [<- h,EI]⟩
  exact u5 this b.qi
 have e:q=q':=Int.dvd_antisymm (Int.le_of_lt a.pos) (Int.le_of_lt b.pos) d1 d2
 refine⟨?_,e⟩
 subst e
 exact Jo (EK a.pos) h
theorem zgi(hb:b≠0)(l:iy p q)(h:p*b=t*q):fr t b=(p,q):=by
 have e:=zmu (t:=t) hb
 have l':=zmv (t:=t) hb
 have:(fr t b).1*q=p*(fr t b).2:=by
  have h2:(fr t b).1*q*b=p*(fr t b).2*b:=by
   calc (fr t b).1*q*b=(fr t b).1*b*q:=by rw [DA,EI q,DA]
    _=t*(fr t b).2*q:=by rw [e]
    _=t*q*(fr t b).2:=by rw [DA,EI (fr t b).2,DA]
    _=p*b*(fr t b).2:=by rw [h]
    _=p*(fr t b).2*b:=by rw [DA,EI b,DA]
  exact Jo hb h2
 obtain⟨a1,a2⟩:=zpp l' l this
 exact Gz a1 a2
theorem zgj(h:0<b):fr t b=(t / (AG t b:Int),b / (AG t b:Int)):=by
 unfold fr
 rw [if_neg (by omega)]
end
variable {a s:Int}
section
theorem iy.ne(l:iy p q):q≠0:=EK l.pos
theorem gcd_one(h:∀ d:Int,d∣a->d∣b->d∣1):AG a b=1:=by
 have:=h (AG a b:Int) (Fv ..) (EH ..)
 have h2:(AG a b)∣1:=by
  have:=HX.mpr this
  simpa using this
 exact Nat.dvd_one.mp h2
theorem dvd_one{d:Int}(h:AG a b=1)(h1:d∣a)(h2:d∣b):d∣1:=by
 have:=Int.dvd_coe_gcd h1 h2
 rw [h] at this
 exact this
theorem zbS(h:AG a b=1):AG b a=1:=by rw [Int.gcd_comm];exact h
theorem gcd_mul{c:Int}(h1:AG a b=1)(h2:AG a c=1):AG a (b*c)=1:=by
 refine gcd_one fun d da db=>?_
 have c1:AG b d=1:=gcd_one fun e e1 e2=>dvd_one h1 (EL e2 da) e1
 exact dvd_one h2 da (u5 db c1)
theorem yA{a' b':Int}(h:AG a b=1)(h1:a'∣a)(h2:b'∣b):AG a' b'=1 :=
 gcd_one fun d da db=>dvd_one h (EL da h1) (EL db h2)
theorem yq(h:b∣a):a / b∣a:=by
 obtain⟨c,rfl⟩:=h
 by_cases z:b=0
 ·subst z;simp
 ·rw [Int.mul_ediv_cancel_left _ z];exact⟨b,EI _ _⟩
theorem wm(h:0<a*b)(hb:0<b):0<a:=by
 rcases HW a 0 with z|z|z
 ·have:=Jn z hb;omega
 ·subst z;simp at h
 ·exact z
noncomputable def tQ(p q r s:Int):Int×Int :=
 let g:=(AG q s:Int)
 let top:=p*(s / g)+r*(q / g)
 let e:=(AG top g:Int)
 (top / e,q / g*(s / e))
noncomputable def zZ(p q r s:Int):Int×Int :=
 (p / (AG p s:Int)*(r / (AG r q:Int)),q / (AG r q:Int)*(s / (AG p s:Int)))
theorem zrt{g m e top T G:Int}(l1:iy p q)(l2:iy r s)(g0:0<g)(e0:0<e)(hq:q=m*g)(hs:s=t*g)(hmt:AG m t=1)
  (ht:top=p*t+r*m)(hT:top=T*e)(hG:g=G*e)(hTG:AG T G=1):iy T (m*(t*G))/\T*(q*s)=(p*s+r*q)*(m*(t*G)):=by
 have hm:0<m:=wm (by rw [<- hq];exact l1.pos) g0
 have htt:0<t:=wm (by rw [<- hs];exact l2.pos) g0
 have hGG:0<G:=wm (by rw [<- hG];exact g0) e0
 refine⟨⟨Fw hm (Fw htt hGG),?_⟩,?_⟩
 ·have dT:T∣top:=⟨e,hT⟩
  have c1:AG T m=1:=by
   refine gcd_one fun d da db=>?_
   have h1:d∣p*t:=by
    have h2:d∣p*t+r*m:=by rw [<- ht];exact EL da dT
    exact(Int.dvd_add_left (Jp db)).mp h2
   have h3:AG p d=1:=yA l1.qi (Int.dvd_refl _) (by rw [hq];exact EL db (Int.dvd_mul_right ..))
   exact dvd_one hmt db (u5 h1 h3)
  have c2:AG T t=1:=by
   refine gcd_one fun d da db=>?_
   have h1:d∣r*m:=by
    have h2:d∣p*t+r*m:=by rw [<- ht];exact EL da dT
    exact(Int.dvd_add_right (Jp db)).mp h2
   have h3:AG r d=1:=yA l2.qi (Int.dvd_refl _) (by rw [hs];exact EL db (Int.dvd_mul_right ..))
   exact dvd_one hmt (u5 h1 h3) db
  exact gcd_mul c1 (gcd_mul c2 hTG)
 ·have k1:p*s+r*q=top*g:=by
   rw [hq,hs,ht,Int.add_mul,DA,DA]
  rw [k1,hT,hq,hs]
  rw [show m*g*(t*g)=m*(t*G)*(e*g) by rw [show t*g=t*(G*e) by rw [hG]];ac_rfl]
  ac_rfl
theorem zru(l1:iy p q)(l2:iy r s):tQ p q r s=fr (p*s+r*q) (q*s):=by
 have g0:0<(AG q s:Int):=vp l2.ne
 have d1:(AG q s:Int)∣q:=Fv ..
 have d2:(AG q s:Int)∣s:=EH ..
 have e0:0<(AG (p*(s / (AG q s:Int))+r*(q / (AG q s:Int))) (AG q s:Int):Int):=vp (EK g0)
 have d3:=Fv (a:=p*(s / (AG q s:Int))+r*(q / (AG q s:Int))) (b:=(AG q s:Int))
 have d4:=EH (a:=p*(s / (AG q s:Int))+r*(q / (AG q s:Int))) (b:=(AG q s:Int))
 have core:=zrt l1 l2 g0 e0 (Cr d1).symm (Cr d2).symm (uY l2.ne) rfl (Cr d3).symm (Cr d4).symm (uY (EK g0))
 have e:tQ p q r s=(_,_):=rfl
 have hs:s / (AG (p*(s / (AG q s:Int))+r*(q / (AG q s:Int))) (AG q s:Int):Int)=s / (AG q s:Int)*((AG q s:Int) / (AG (p*(s / (AG q s:Int))+r*(q / (AG q s:Int))) (AG q s:Int):Int)):=by
  refine Int.ediv_eq_of_eq_mul_left (EK e0) ?_
  rw [DA,Cr d4,Cr d2]
 symm
 refine zgi (EK (Fw l1.pos l2.pos)) (p:=(tQ p q r s).1) (q:=(tQ p q r s).2) ?_ ?_
 ·have:(tQ p q r s).2=_:=rfl
  rw [this]
  show iy _ (q / (AG q s:Int)*(s / _))
  rw [hs]
  exact core.1
 ·show _*(q*s)=_*(q / (AG q s:Int)*(s / _))
  rw [hs]
  exact core.2
theorem zuW(l1:iy p q)(l2:iy r s):zZ p q r s=fr (p*r) (q*s):=by
 have m0:0<(AG p s:Int):=vp l2.ne
 have i0:0<(AG r q:Int):=vp l1.ne
 have a1:(AG p s:Int)∣p:=Fv ..
 have a2:(AG p s:Int)∣s:=EH ..
 have b1:(AG r q:Int)∣r:=Fv ..
 have b2:(AG r q:Int)∣q:=EH ..
 symm
 refine zgi (EK (Fw l1.pos l2.pos)) (p:=(zZ p q r s).1) (q:=(zZ p q r s).2) ⟨?_,?_⟩ ?_
 ·refine Fw ?_ ?_
  ·exact wm (by rw [Cr b2];exact l1.pos) i0
  ·exact wm (by rw [Cr a2];exact l2.pos) m0
 ·show AG (p / _*(r / _)) (q / _*(s / _))=1
  have x1:AG (p / (AG p s:Int)) (q / (AG r q:Int))=1:=yA l1.qi (yq a1) (yq b2)
  have x2:AG (p / (AG p s:Int)) (s / (AG p s:Int))=1:=uY l2.ne
  have x3:AG (r / (AG r q:Int)) (q / (AG r q:Int))=1:=uY l1.ne
  have x4:AG (r / (AG r q:Int)) (s / (AG p s:Int))=1:=yA l2.qi (yq b1) (yq a2)
  exact zbS (gcd_mul (zbS (gcd_mul x1 x2)) (zbS (gcd_mul x3 x4)))
 ·show p / (AG p s:Int)*(r / (AG r q:Int))*(q*s)=p*r*(q / (AG r q:Int)*(s / (AG p s:Int)))
  have y1:=Cr a1
  have y2:=Cr a2
  have y3:=Cr b1
  have y4:=Cr b2
  generalize (AG p s:Int)=m at *
  generalize (AG r q:Int)=i at *
  generalize p / m=P at *
  generalize s / m=S at *
  generalize r / i=R at *
  generalize q / i=Q at *
  rw [<- y1,<- y2,<- y3,<- y4]
  ac_rfl
end
end Q1
namespace QR
open Q1
variable {r:Rat}{d m n:Nat}{t:Int}
theorem low(r:Rat):iy r.num r.den:=⟨by have:=r.den_nz;omega,by
 have:=r.reduced
 unfold Nat.Coprime at this
 show Fx r.num.natAbs (r.den:Int).natAbs=1
 simpa using this⟩
theorem zmJ(t:Int)(d:Nat):(AG t (d:Int))=Fx t.natAbs d:=by
 show Fx t.natAbs (d:Int).natAbs=_
 simp
theorem norm(h:d≠0):fr t (d:Int)=((F5 t d h).num,((F5 t d h).den:Int)):=by
 rw [zgj (by omega),Rat.normalize_eq,zmJ]
 simp
theorem add(r s:Rat):fr (r.num*s.den+s.num*r.den) ((r.den:Int)*s.den)=((r+s).num,((r+s).den:Int)):=by
 rw [Rat.add_def,<- norm]
 congr 1
theorem mul(r s:Rat):fr (r.num*s.num) ((r.den:Int)*s.den)=((r*s).num,((r*s).den:Int)):=by
 rw [Rat.mul_def,<- norm]
 congr 1
def Bd(n:Nat)(r:Rat):Prop:=r.num.natAbs<2^n/\r.den<2^n
theorem Bd.mono(h:Bd n r)(k:n<=m):Bd m r:=⟨BD h.1 (HZ (by decide) k),BD h.2 (HZ (by decide) k)⟩
theorem zbI(t b:Int):(fr t b).1.natAbs<=t.natAbs/\(fr t b).2.natAbs<=b.natAbs:=by
 unfold fr
 split
 ·exact⟨F6 _ _,F6 _ _⟩
 ·exact⟨F6 _ _,F6 _ _⟩
theorem qM{a b:Nat}(h1:a<2^n)(h2:b<2^m):a*b<2^(n+m):=by
 rw [Nat.pow_add]
 exact Nat.mul_lt_mul'' h1 h2
theorem Bd.add{n m:Nat}{r s:Rat}(h:Bd n r)(k:Bd m s):Bd (n+m+1) (r+s):=by
 have e:=QR.add r s
 have l:=zbI (r.num*s.den+s.num*r.den) ((r.den:Int)*s.den)
 rw [e] at l
 simp only at l
 have a1:r.num.natAbs*s.den<2^(n+m):=qM h.1 k.2
 have a2:s.num.natAbs*r.den<2^(n+m):=by rw [FX,FX];rw [HJ];exact qM k.1 h.2
 have a3:r.den*s.den<2^(n+m):=qM h.2 k.2
 have p2:2^(n+m+1)=2^(n+m)+2^(n+m):=by rw [Nat.pow_succ];omega
 refine⟨?_,?_⟩
 ·refine Ea l.1 (Ea (Int.natAbs_add_le _ _) ?_)
  rw [EJ,EJ,Ee,Ee,p2]
  omega
 ·have:=l.2
  rw [EJ,Ee,Ee,Ee] at this
  rw [p2]
  omega
theorem Bd.mul{n m:Nat}{r s:Rat}(h:Bd n r)(k:Bd m s):Bd (n+m) (r*s):=by
 have e:=QR.mul r s
 have l:=zbI (r.num*s.num) ((r.den:Int)*s.den)
 rw [e] at l
 simp only at l
 refine⟨?_,?_⟩
 ·refine Ea l.1 ?_
  rw [EJ]
  exact qM h.1 k.1
 ·have:=l.2
  rw [EJ,Ee,Ee,Ee] at this
  exact Ea this (qM h.2 k.2)
noncomputable def part(xs ys:List Rat):Nat->Rat
 | 0=>0
 | i+1=>part xs ys i+xs.getD i 0*ys.getD i 0
end QR
namespace KC
open PySem L2 PySem.Spec PyProof.Rows
section
namespace Bt
theorem isinstance:Bo "isinstance"=some (.builtin "isinstance"):=by decide +kernel
end Bt
noncomputable def isInt:A4->Bool
 | .int _ | .bool _=>true|_=>false
noncomputable def cS(T c:String):Option Bool:=if(EY T==EY c)=true then some true else if PySem.W.kitMeta c=true then(fastBuiltinMro T).map (·.contains (.type c)) else none
section
variable {K:kb}{H H':Hp}
def Num(K:kb)(H:Hp)(v:V)(r:Rat):Prop:=∃ a,v=.ref a/\dN K H a [.int r.num,.int (r.den:Int)]
noncomputable def zd1(K:kb)(H:Hp):List V->List Rat->Prop
 | [],[]=>True
 | v::vs,r::rs=>Num K H v r/\zd1 K H vs rs
 | _,_=>False
def Row(K:kb)(H:Hp)(a:dm)(rs:List Rat):Prop:=∃ vs,H a=some (.lst vs)/\zd1 K H vs rs
end
end
section
end
section
end
end KC
namespace FL
variable {c:Bool}{α β:Type}{a b i:Nat}
theorem zz0  {a:α} {l:List α}:(a::l)[0]?=some a:=rfl
theorem zz1  {a:α} {l:List α} :(a::l)[i + 1]?=l[i]?:=rfl
open PySem
abbrev D:=A4
inductive R(α:Type) where
 | bad
 | err(c:String)(fs:List D)
 | ok(a:α)
noncomputable def R.bind{α β:Type}(r:R α)(k:α->R β):R β:=match r with
 | .bad=>.bad
 | .err c f=>.err c f
 | .ok a=>k a
theorem ao(a:α)(k:α->R β):(R.ok a).bind k=k a:=rfl
theorem lS(k:α->R β):(R.bad:R α).bind k=.bad:=rfl
theorem kO(c:String)(f:List D)(k:α->R β):(R.err c f:R α).bind k=.err c f:=rfl
noncomputable def aR{α:Type}(c:Bool)(r:R α):R α:=if c=true then r else .bad
theorem eQ{r:R α}(h:c=true):aR c r=r:=if_pos h
inductive Sl where
 | no
 | val(d:D)
 | ow(p:Bool)(d:D)
 /-- a thing of an own class,which stays: its class,its fields -/
 | ob (c:String) (ds:List D)
abbrev En:=List Sl
inductive Fl where
 | nx|bk|ct
 | rt(d:D)
 | rf(d:D)
abbrev EF:=En->R (D×En)
abbrev TF:=En->R (Bool×En)
abbrev AF:=En->R (List D×En)
abbrev SF:=En->R (Fl×En)
abbrev GF:=D->En->R En
noncomputable def zdN:D->String
 | .none=>"NoneType" | .bool _=>"bool" | .int _=>"int" | .str _=>"str" | .list _=>"list" | .tuple _=>"tuple" | .dict _=>"dict"
noncomputable def cL(T:String)(d:D):Bool:=match d with
 | .bool _=>T == "bool" || T == "int"
 | d=>zdN d==T
noncomputable def lim:Nat:=1000000
noncomputable def intsOf:List D->Option (List Int)
 | []=>some []
 | .int i::r=>(intsOf r).map (i::·)
 | _::_=>none
noncomputable def boolsOf:List D->Option (List Bool)
 | []=>some []
 | .bool i::r=>(boolsOf r).map (i::·)
 | _::_=>none
noncomputable def R.of{α:Type}:Option α->R α
 | none=>.bad
 | some a=>.ok a
noncomputable def leB(a b:Nat):Bool:=Nat.ble a b
theorem leB_iff:leB a b=true↔a<=b:=Iff.of_eq Nat.ble_eq
theorem ko(h:a<=b):leB a b=true:=leB_iff.mpr h
theorem mP(h:leB a b=true):a<=b:=leB_iff.mp h
noncomputable def vX(i j:Int):Bool:=leB (i.natAbs.log2+j.natAbs.log2+2) 134217728
noncomputable def ay:D->D->R D
 | .int i,.int j=>.ok (.int (i+j))
 | .list a,.list b=>aR (leB (a.length+b.length) lim) (.ok (.list (a++b)))
 | .tuple a,.tuple b=>aR (leB (a.length+b.length) lim) (.ok (.tuple (a++b)))
 | _,_=>.bad
noncomputable def eL:D->D->R D
 | .int i,.int j=>.ok (.int (i-j))
 | _,_=>.bad
noncomputable def bf:D->D->R D
 | .int i,.int j=>aR (vX i j) (.ok (.int (i*j)))
 | .tuple a,.int k=>aR (!a.isEmpty&&leB 2 k.toNat&&leB k.toNat 1000000&&leB (a.length*k.toNat) lim) (.ok (.tuple (AI k.toNat a).flatten))
 | _,_=>.bad
noncomputable def bH:D->D->R D
 | .int i,.int j=>aR (decide (j≠0)) (.ok (.int (i.fdiv j)))
 | _,_=>.bad
noncomputable def gf:D->D->R D
 | .int i,.int j=>aR (decide (j≠0)) (.ok (.int (i.fmod j)))
 | _,_=>.bad
noncomputable def dH:D->D->R D
 | .int i,.int j=>aR (decide (0<=j)&&leB j.toNat 1000000&&leB i.natAbs 18446744073709551615) (.ok (.int (i^j.toNat)))
 | _,_=>.bad
noncomputable def v7:D->R D
 | .int i=>.ok (.int (-i))
 | _=>.bad
noncomputable def dR(a b:D):R D:=aR (Dz a&&Dz b) (.ok (.bool (DN a b)))
noncomputable def b9(a b:D):R D:=aR (Dz a&&Dz b) (.ok (.bool (!DN a b)))
noncomputable def lexLt:List Int->List Int->Bool
 | [],[]=>false
 | [],_::_=>true
 | _::_,[]=>false
 | x::xs,y::ys=>if x=y then lexLt xs ys else decide (x<y)
noncomputable def zfA(p:Int->Int->Bool)(q:List Int->List Int->Bool):D->D->R D
 | .int i,.int j=>.ok (.bool (p i j))
 | .tuple a,.tuple b=>(R.of (intsOf a)).bind fun x=>(R.of (intsOf b)).bind fun y=>.ok (.bool (q x y))
 | _,_=>.bad
noncomputable def f9:D->D->R D:=zfA (fun i j=>decide (i<j)) lexLt
noncomputable def yi(p:Int->Int->Bool):D->D->R D
 | .int i,.int j=>.ok (.bool (p i j))
 | _,_=>.bad
noncomputable def oC:D->D->R D:=yi fun i j=>decide (i<=j)
noncomputable def yD:D->D->R D:=yi fun i j=>decide (j<i)
noncomputable def mE:D->D->R D:=yi fun i j=>decide (j<=i)
noncomputable def ie(n:Nat)(i:Int):Option Nat:=if 0<=i then(if i<n then some i.toNat else none) else if -(n:Int)<=i then some (i+n).toNat else none
noncomputable def dW{α:Type}(xs:List α)(i:Int):Option α:=(ie xs.length i).bind fun j=>xs[j]?
noncomputable def au:D->D->R D
 | .list a,.int i=>R.of (dW a i)
 | .tuple a,.int i=>R.of (dW a i)
 | _,_=>.bad
noncomputable def aT(n d:Nat):Option Int->Nat
 | none=>d
 | some v=>if v<0 then(v+(n:Int)).toNat else min v.toNat n
noncomputable def cut{α:Type}(xs:List α)(lo hi:Option Int):List α:=(xs.drop (aT xs.length 0 lo)).take (aT xs.length xs.length hi-aT xs.length 0 lo)
noncomputable def i3(d:D)(lo hi:Option Int):R D:=match d with
 | .list a=>.ok (.list (cut a lo hi))
 | .tuple a=>.ok (.tuple (cut a lo hi))
 | _=>.bad
noncomputable def dJ:D->R Bool
 | .none=>.ok false
 | .bool b=>.ok b
 | .int i=>.ok (i != 0)
 | .list a=>.ok (!a.isEmpty)
 | .tuple a=>.ok (!a.isEmpty)
 | _=>.bad
noncomputable def dh:D->R D
 | .list a=>.ok (.int a.length)
 | .tuple a=>.ok (.int a.length)
 | _=>.bad
noncomputable def j3:D->R D
 | .int i=>.ok (.int (if i<0 then -i else i))
 | _=>.bad
noncomputable def ziP:D->R D
 | .list a=>(R.of (intsOf a)).bind fun x=>.ok (.int x.sum)
 | _=>.bad
noncomputable def r6:D->R D
 | .list a=>(R.of (boolsOf a)).bind fun x=>.ok (.bool (x.all id))
 | _=>.bad
noncomputable def fZ:D->R D
 | .list a=>.ok (.list a)
 | .tuple a=>.ok (.list a)
 | _=>.bad
noncomputable def fR:D->R D
 | .list a=>.ok (.tuple a)
 | .tuple a=>.ok (.tuple a)
 | _=>.bad
noncomputable def zi6(d:D):Bool:=match d with
 | .dict _=>false
 | _=>true
noncomputable def dZ(T:String)(d:D):R D:=aR (zi6 d) (.ok (.bool (cL T d)))
noncomputable def one(g:D->R D):List D->R D
 | [d]=>g d
 | _=>.bad
noncomputable def two(g:D->D->R D):List D->R D
 | [d,e]=>g d e
 | _=>.bad
noncomputable def iT:D->R (List D)
 | .list a=>.ok a
 | .tuple a=>.ok a
 | _=>.bad
noncomputable def eD(lo hi:Int):List D:=(B4 (hi-lo).toNat).map fun(i:Nat)=>.int (lo+(i:Int))
noncomputable def lD(i:Int):Bool:=leB i.natAbs 1000000000
noncomputable def ju:List D->R (List D)
 | [.int j]=>aR (lD j&&leB j.toNat lim) (.ok (eD 0 j))
 | _=>.bad
noncomputable def kC:List D->R (List D)
 | [.int i,.int j]=>aR (lD i&&lD j&&leB (j-i).toNat lim) (.ok (eD i j))
 | _=>.bad
noncomputable def eC(d:D):EF:=fun ρ=>.ok (d,ρ)
noncomputable def eV(i:Nat):EF:=fun ρ=>match ρ[i]? with
 | some (.val d)=>.ok (d,ρ)
 | _=>.bad
noncomputable def e1(g:D->R D)(f:EF):EF:=fun ρ=>(f ρ).bind fun x=>(g x.1).bind fun d=>.ok (d,x.2)
noncomputable def e2(g:D->D->R D)(f h:EF):EF:=fun ρ=>(f ρ).bind fun x=>(h x.2).bind fun y=>(g x.1 y.1).bind fun d=>.ok (d,y.2)
noncomputable def dQ(f h:EF):EF:=fun ρ=>(f ρ).bind fun x=>match x.1 with
 | .bool true=>h x.2
 | .bool false=>.ok (.bool false,x.2)
 | _=>.bad
noncomputable def ml(f h:EF):EF:=fun ρ=>(f ρ).bind fun x=>match x.1 with
 | .bool true=>.ok (.bool true,x.2)
 | .bool false=>h x.2
 | _=>.bad
noncomputable def jg(f:EF):EF:=fun ρ=>(f ρ).bind fun x=>match x.1 with
 | .bool b=>.ok (.bool (!b),x.2)
 | _=>.bad
noncomputable def jf(t:TF)(f h:EF):EF:=fun ρ=>(t ρ).bind fun c=>if c.1=true then f c.2 else h c.2
noncomputable def iF(g h:D->D->R D)(f1 f2 f3:EF):EF:=fun ρ=>(f1 ρ).bind fun x=>(f2 x.2).bind fun y=>(g x.1 y.1).bind fun c=>match c with
 | .bool true=>(f3 y.2).bind fun z=>(h y.1 z.1).bind fun d=>.ok (d,z.2)
 | .bool false=>.ok (.bool false,y.2)
 | _=>.bad
noncomputable def af:AF:=fun ρ=>.ok ([],ρ)
noncomputable def aa(f:EF)(a:AF):AF:=fun ρ=>(f ρ).bind fun x=>(a x.2).bind fun y=>.ok (x.1::y.1,y.2)
noncomputable def aP(a:AF):EF:=fun ρ=>(a ρ).bind fun x=>aR (leB x.1.length lim) (.ok (.tuple x.1,x.2))
noncomputable def aZ(a:AF):EF:=fun ρ=>(a ρ).bind fun x=>aR (leB x.1.length lim) (.ok (.list x.1,x.2))
noncomputable def ak(G:List D->R D)(a:AF):EF:=fun ρ=>(a ρ).bind fun x=>(G x.1).bind fun d=>.ok (d,x.2)
abbrev OF:=En->R (Option Int×En)
noncomputable def gi:OF:=fun ρ=>.ok (none,ρ)
noncomputable def gj(f:EF):OF:=fun ρ=>(f ρ).bind fun x=>match x.1 with
 | .int i=>.ok (some i,x.2)
 | _=>.bad
noncomputable def fW(f:EF)(lo hi:OF):EF:=fun ρ=>(f ρ).bind fun x=>(lo x.2).bind fun l=>(hi l.2).bind fun u=>(i3 x.1 l.1 u.1).bind fun d=>.ok (d,u.2)
noncomputable def bw(ρ:En)(i:Nat):R D:=match ρ[i]? with
 | some (.ow _ d)=>.ok d
 | _=>.bad
noncomputable def e6(ρ:En)(i:Nat):R (List D):=match ρ[i]? with
 | some (.ow _ (.list a))=>.ok a
 | _=>.bad
noncomputable def m1(g:D->R D)(i:Nat):EF:=fun ρ=>(bw ρ i).bind fun c=>(g c).bind fun d=>.ok (d,ρ)
noncomputable def m2(g:D->D->R D)(i:Nat)(h:EF):EF:=fun ρ=>(bw ρ i).bind fun _=>(h ρ).bind fun y=>(bw y.2 i).bind fun c=>(g c y.1).bind fun d=>.ok (d,y.2)
noncomputable def iU(g:D->D->R D)(f:EF)(i:Nat):EF:=fun ρ=>(f ρ).bind fun x=>(bw x.2 i).bind fun c=>(g x.1 c).bind fun d=>.ok (d,x.2)
noncomputable def mQ(g:D->D->R D)(i j:Nat):EF:=fun ρ=>(bw ρ i).bind fun c=>(bw ρ j).bind fun e=>(g c e).bind fun d=>.ok (d,ρ)
noncomputable def mU(i:Nat)(lo hi:OF):EF:=fun ρ=>(bw ρ i).bind fun _=>(lo ρ).bind fun l=>(hi l.2).bind fun u=>(bw u.2 i).bind fun c=>(i3 c l.1 u.1).bind fun d=>.ok (d,u.2)
noncomputable def mS(g:D->D->R D)(i:Nat)(h:EF):EF:=fun ρ=>(bw ρ i).bind fun _=>(h ρ).bind fun y=>(bw y.2 i).bind fun c=>(g (.list [c]) y.1).bind fun d=>.ok (d,y.2)
inductive Ar where
 | v(f:EF)
 | m(i:Nat)
 | t(f:EF)
inductive Itm where
 | vd(d:D)
 | mi(i:Nat)
 | td(d:D)
noncomputable def gL:List Ar->En->R (List Itm×En)
 | [],ρ=>.ok ([],ρ)
 | .v f::r,ρ=>(f ρ).bind fun x=>(gL r x.2).bind fun y=>.ok (.vd x.1::y.1,y.2)
 | .m i::r,ρ=>(bw ρ i).bind fun _=>(gL r ρ).bind fun y=>.ok (.mi i::y.1,y.2)
 | .t f::r,ρ=>(f ρ).bind fun x=>(gL r x.2).bind fun y=>.ok (.td x.1::y.1,y.2)
noncomputable def fF(ρ:En):List Itm->R (List D)
 | []=>.ok []
 | .vd d::r=>(fF ρ r).bind fun ds=>.ok (d::ds)
 | .mi i::r=>(bw ρ i).bind fun d=>(fF ρ r).bind fun ds=>.ok (d::ds)
 | .td d::r=>(fF ρ r).bind fun ds=>.ok (d::ds)
noncomputable def eh(ρ:En)(i:Nat)(d:D):En:=match ρ[i]? with
 | some (.ow p _)=>ρ.set i (.ow p d)
 | _=>ρ
noncomputable def eE:List Itm->List D->List (Nat×Sl)
 | .mi i::r,d::ds=>(i,.ow true d)::eE r ds
 | .vd _::r,_::ds=>eE r ds
 | .td _::r,_::ds=>eE r ds
 | _,_=>[]
noncomputable def cI(m:List (Nat×Sl))(i:Nat)(x:Sl):Sl:=match x,m.lookup i with
 | .ow p _,some (.ow _ d)=>.ow p d
 | x,_=>x
noncomputable def cD(m:List (Nat×Sl)):Nat->En->En
 | _,[]=>[]
 | n,x::r=>cI m n x::cD m (n+1) r
noncomputable def jd(ρ:En)(a:List Itm)(os:List D):En:=cD (eE a os) 0 ρ
noncomputable def aY(F:List D->R (D×List D))(a:List Ar):EF:=fun ρ=>(gL a ρ).bind fun x=>(fF x.2 x.1).bind fun ds=>(F ds).bind fun y=>.ok (y.1,jd x.2 x.1 y.2)
noncomputable def tE(f:EF):TF:=fun ρ=>(f ρ).bind fun x=>(dJ x.1).bind fun b=>.ok (b,x.2)
noncomputable def tB(f:EF):TF:=fun ρ=>(f ρ).bind fun x=>match x.1 with
 | .bool b=>.ok (b,x.2)
 | _=>.bad
noncomputable def lI(t u:TF):TF:=fun ρ=>(t ρ).bind fun c=>if c.1=true then u c.2 else .ok (false,c.2)
noncomputable def bG(t u:TF):TF:=fun ρ=>(t ρ).bind fun c=>if c.1=true then .ok (true,c.2) else u c.2
noncomputable def bh(t:TF):TF:=fun ρ=>(t ρ).bind fun c=>.ok (!c.1,c.2)
noncomputable def tM(i:Nat):TF:=fun ρ=>(bw ρ i).bind fun c=>(dJ c).bind fun b=>.ok (b,ρ)
noncomputable def dq:TF:=fun ρ=>.ok (true,ρ)
abbrev IF:=En->R (List D×En)
noncomputable def iE(f:EF):IF:=fun ρ=>(f ρ).bind fun x=>(iT x.1).bind fun l=>.ok (l,x.2)
noncomputable def eT(a:AF):IF:=fun ρ=>(a ρ).bind fun x=>(ju x.1).bind fun l=>.ok (l,x.2)
noncomputable def jl(a:AF):IF:=fun ρ=>(a ρ).bind fun x=>(kC x.1).bind fun l=>.ok (l,x.2)
noncomputable def j6:Nat->List D->List D
 | _,[]=>[]
 | n,d::r=>.tuple [.int n,d]::j6 (n+1) r
noncomputable def gu:List D->List D->List D
 | a::r,b::s=>.tuple [a,b]::gu r s
 | _,_=>[]
noncomputable def gN(i:Nat):GF:=fun d ρ=>match ρ[i]? with
 | some (.ow true _)=>.bad
 | some _=>.ok (ρ.set i (.val d))
 | none=>.bad
noncomputable def h9:List GF->List D->En->R En
 | [],[],ρ=>.ok ρ
 | g::r,d::ds,ρ=>(g d ρ).bind fun ρ1=>h9 r ds ρ1
 | _,_,_=>.bad
noncomputable def gT(gs:List GF):GF:=fun d ρ=>match d with
 | .tuple ds=>h9 gs ds ρ
 | _=>.bad
noncomputable def bP(k:Nat)(ix:List Nat)(ρ:En):En:=AI k .no++ix.map fun i=>(ρ[i]?).getD .no
noncomputable def back(ρ:En)(ix:List Nat)(cs:En):En:=cD (ix.zip cs) 0 ρ
noncomputable def fT(k:Nat)(ix:List Nat)(g:GF)(t:TF)(f:EF):List D->En->List D->R (List D×En)
 | [],ρ,acc=>.ok (acc,ρ)
 | x::xs,ρ,acc=>(g x (bP k ix ρ)).bind fun β=>(t β).bind fun c =>
   if c.1=true then(f c.2).bind fun y=>aR (leB (acc.length+1) lim) (fT k ix g t f xs (back ρ ix (y.2.drop k)) (acc++[y.1]))
   else fT k ix g t f xs (back ρ ix (c.2.drop k)) acc
noncomputable def eR(k:Nat)(ix:List Nat)(it:IF)(g:GF)(t:TF)(f:EF):EF:=fun ρ=>(it ρ).bind fun x=>(fT k ix g t f x.1 x.2 []).bind fun y=>.ok (.list y.1,y.2)
noncomputable def sA(k:Nat)(ix:List Nat)(io:Nat)(g:GF)(t:TF)(f:EF):EF:=fun ρ=>(e6 ρ io).bind fun l=>(fT k ix g t f l ρ []).bind fun y=>.ok (.list y.1,y.2)
noncomputable def aO:SF:=fun ρ=>.ok (.nx,ρ)
noncomputable def aw(s t:SF):SF:=fun ρ=>(s ρ).bind fun x=>match x.1 with
 | .nx=>t x.2
 | _=>.ok x
noncomputable def sE(f:EF):SF:=fun ρ=>(f ρ).bind fun x=>.ok (.nx,x.2)
noncomputable def aF(g:GF)(f:EF):SF:=fun ρ=>(f ρ).bind fun x=>(g x.1 x.2).bind fun ρ1=>.ok (.nx,ρ1)
noncomputable def c9(i:Nat)(f:EF):SF:=fun ρ=>(f ρ).bind fun x=>match x.2[i]? with
 | some (.ow true _)=>.bad
 | some _=>.ok (.nx,x.2.set i (.ow false x.1))
 | none=>.bad
noncomputable def iZ(i:Nat)(s:SF):SF:=fun ρ=>(s ρ).bind fun x=>match x.1 with
 | .nx=>(match x.2[i]? with
  | some (.ow false d)=>.ok (.nx,x.2.set i (.val d))
  | _=>.bad)
 | _=>.ok x
noncomputable def de(i j:Nat)(f h:EF):SF:=fun ρ=>(f ρ).bind fun x=>(h x.2).bind fun y=>(gN i x.1 y.2).bind fun ρ1=>(gN j y.1 ρ1).bind fun ρ2=>.ok (.nx,ρ2)
noncomputable def jh(f n:EF):EF:=fun ρ=>(f ρ).bind fun x=>(n x.2).bind fun y=>match y.1 with
 | .int k=>aR (decide (0<=k)&&leB k.toNat 1000000) (.ok (.list (AI k.toNat x.1),y.2))
 | _=>.bad
noncomputable def iY(i:Nat)(s:SF):SF:=fun ρ=>match ρ[i]? with
 | some (.ow false d)=>s (ρ.set i (.val d))
 | _=>.bad
noncomputable def az(f:EF):SF:=fun ρ=>(f ρ).bind fun x=>.ok (.rt x.1,x.2)
noncomputable def fQ(f:EF):SF:=fun ρ=>(f ρ).bind fun x=>.ok (.rf x.1,x.2)
noncomputable def jw(i:Nat):SF:=fun ρ=>match ρ[i]? with
 | some (.ow false d)=>.ok (.rf d,ρ)
 | _=>.bad
noncomputable def m8:SF:=fun ρ=>.ok (.rt .none,ρ)
noncomputable def aN(t:TF)(a b:SF):SF:=fun ρ=>(t ρ).bind fun c=>if c.1=true then a c.2 else b c.2
noncomputable def e8:SF:=fun _=>.bad
noncomputable def m4:SF:=fun ρ=>.ok (.bk,ρ)
noncomputable def m7:SF:=fun ρ=>.ok (.ct,ρ)
noncomputable def forL(g:GF)(b:SF):List D->En->R (Fl×En)
 | [],ρ=>.ok (.nx,ρ)
 | x::xs,ρ=>(g x ρ).bind fun ρ1=>(b ρ1).bind fun y=>match y.1 with
  | .nx | .ct=>forL g b xs y.2
  | .bk=>.ok (.nx,y.2)
  | .rt d=>.ok (.rt d,y.2)
  | .rf d=>.ok (.rf d,y.2)
noncomputable def c7(it:IF)(g:GF)(b:SF):SF:=fun ρ=>(it ρ).bind fun x=>forL g b x.1 x.2
noncomputable def rH(t:TF)(b:SF):Nat->En->R (Fl×En)
 | 0,_=>.bad
 | n+1,ρ=>(t ρ).bind fun c=>if c.1=true then(b c.2).bind fun y=>match y.1 with
   | .nx | .ct=>rH t b n y.2
   | .bk=>.ok (.nx,y.2)
   | .rt d=>.ok (.rt d,y.2)
   | .rf d=>.ok (.rf d,y.2)
  else .ok (.nx,c.2)
noncomputable def rk(fuel:En->Nat)(t:TF)(b:SF):SF:=fun ρ=>rH t b (fuel ρ) ρ
noncomputable def nj(i:Nat)(u:List D->D->R (List D))(f:EF):SF:=fun ρ=>(e6 ρ i).bind fun _=>(f ρ).bind fun x=>(e6 x.2 i).bind fun c=>(u c x.1).bind fun c'=>.ok (.nx,eh x.2 i (.list c'))
noncomputable def lR(a:List D)(d:D):R (List D):=aR (leB (a.length+1) lim) (.ok (a++[d]))
noncomputable def kF(i:Nat)(u:List D->R (List D)):SF:=fun ρ=>(e6 ρ i).bind fun c=>(u c).bind fun c'=>.ok (.nx,eh ρ i (.list c'))
noncomputable def zfv(a:List D):R (List D):=.ok []
noncomputable def setM(i:Nat)(f k:EF):SF:=fun ρ=>(f ρ).bind fun x=>(e6 x.2 i).bind fun _=>(k x.2).bind fun y=>(e6 y.2 i).bind fun c=>match y.1 with
 | .int j=>(R.of (ie c.length j)).bind fun n=>.ok (.nx,eh y.2 i (.list (c.set n x.1)))
 | _=>.bad
noncomputable def slots:List Bool->List D->En
 | m::ms,d::ds=>(if m=true then .ow true d else .val d)::slots ms ds
 | _,_=>[]
noncomputable def outD(m:Bool)(d:D)(x:Option Sl):D:=match m,x with
 | true,some (.ow _ d')=>d'
 | _,_=>d
noncomputable def outs:List Bool->List D->En->List D
 | m::ms,d::ds,ρ=>outD m d ρ.head?::outs ms ds ρ.tail
 | _,_,_=>[]
noncomputable def run(ms:List Bool)(fr:Bool)(n:Nat)(b:SF)(ds:List D):R (D×List D) :=
 if ds.length=ms.length then(b (slots ms ds++AI (n-ds.length) .no)).bind fun x=>match x.1,fr with
  | .rt d,false=>.ok (d,outs ms ds x.2)
  | .rf d,true=>.ok (d,outs ms ds x.2)
  | .nx,false=>.ok (.none,outs ms ds x.2)
  | _,_=>.bad
 else .bad
noncomputable def aW(fr:Bool)(k n:Nat)(b:SF)(ds:List D):R D:=(run (AI k false) fr n b ds).bind fun x=>.ok x.1
end FL
namespace FL
open PySem L2 PySem.Spec
open PyProof.Rows hiding St
variable {i:Nat}{H H' H1:Hp}{o:HO}{σ:St}{es:List Av}{xs:List V}{a:dm}{pos:AD}{v:V}{env:AY}{d:A4}{ρ:En}
section
class Cs where
 C:Hp
 st:∀ a u,C a=some u->∃ o xs,u=.frz o (.tup xs)
 /-- the own classes: where each stands,its fields' names -/
 O:String->Option (dm×List ib):=fun _=>none
 /-- the own error classes -/
 X:String->Option (dm×List ib):=fun _=>none
def kM(K:kb)(H:Hp)(a:dm)(xs:List V):Prop:=(∃ o,H a=some (.frz o (.lst xs))) \/
 ∃(o:AA) (its:Array gV) (n:Nat),K.lookup a=some o/\o.cls=.type "list"/\o.dict=none/\o.data=.seq its n/\its.size<=AU/\Vals xs its.toList
noncomputable def kD:Key->A4
 | .inl i=>.int i
 | .inr x=>.str x
noncomputable def mO(k:List Key):A4:=.tuple (k.map kD)
mutual
def Fz(K:kb)(H:Hp):A4->V->Prop
 | .none,v=>v=.non
 | .bool b,v=>v=.bl b
 | .int i,v=>v=.int i
 | .str x,v=>v=.str x
 | .list xs,v=>∃ a vs,v=.ref a/\kM K H a vs/\ag K H xs vs
 | .tuple xs,v=>∃ a vs,v=.ref a/\dU H a vs/\ag K H xs vs
 | .dict aj,v=>∃ a o,v=.ref a/\∃ kk,H a=some (.frz o (.dT kk))/\bt K H aj kk
def ag(K:kb)(H:Hp):List A4->List V->Prop
 | [],vs=>vs=[]
 | d::ds,vs=>∃ v r,vs=v::r/\Fz K H d v/\ag K H ds r
def bt(K:kb)(H:Hp):List (A4×A4)->List (List Key×V)->Prop
 | [],kk=>kk=[]
 | (k,d)::r,kk=>∃ q v t,kk=(q,v)::t/\k=mO q/\Fz K H d v/\bt K H r t
end
noncomputable def xu:HO->Prop
 | .tup _=>True
 | .frz _ _=>True
 | .ins _ _ _=>True
 | .ext _=>True
 | .xd _=>True
 | _=>False
def aA(H H':Hp):Prop:=∀ a o,H a=some o->xu o->H' a=some o
theorem aA.refl(H:Hp):aA H H:=fun _ _ h _=>h
theorem aA.trans{H2:Hp}(a:aA H H1)(b:aA H1 H2):aA H H2:=fun c o h s=>b c o (a c o h s) s
theorem aA.of(s:aC H H'):aA H H':=fun a o h _=>s a o h
section
variable {K:kb}
theorem aA.rn(e:aA H H')(h:dU H a xs):dU H' a xs:=by
 rcases h with h|⟨o,h⟩
 ·exact .inl (e _ _ h trivial)
 ·exact .inr ⟨o,e _ _ h trivial⟩
theorem aA.gW(e:aA H H')(h:kM K H a xs):kM K H' a xs:=by
 rcases h with⟨o,h⟩|h
 ·exact .inl ⟨o,e _ _ h trivial⟩
 ·exact .inr h
theorem kM.sq(h:kM K H a xs):bp K H a xs:=by
 rcases h with⟨o,h⟩|h
 ·exact .inl (.inr ⟨o,h⟩)
 ·exact .inr h
mutual
theorem Fz.mono(e:aA H H'):∀(d:A4) (v:V),Fz K H d v->Fz K H' d v
 | .none,v,h=>by simp only [Fz] at h ⊢;exact h
 | .bool b,v,h=>by simp only [Fz] at h ⊢;exact h
 | .int i,v,h=>by simp only [Fz] at h ⊢;exact h
 | .str x,v,h=>by simp only [Fz] at h ⊢;exact h
 | .list xs,v,h=>by
  simp only [Fz] at h ⊢
  obtain⟨a,vs,e1,h1,h2⟩:=h
  exact⟨a,vs,e1,e.gW h1,ag.mono e xs vs h2⟩
 | .tuple xs,v,h=>by
  simp only [Fz] at h ⊢
  obtain⟨a,vs,e1,h1,h2⟩:=h
  exact⟨a,vs,e1,e.rn h1,ag.mono e xs vs h2⟩
 | .dict aj,v,h=>by
  simp only [Fz] at h ⊢
  obtain⟨a,o,e1,h⟩:=h
  obtain⟨kk,h1,h2⟩:=h
  exact⟨a,o,e1,⟨kk,e _ _ h1 trivial,bt.mono e aj kk h2⟩⟩
theorem ag.mono(e:aA H H'):∀(ds:List A4) (vs:List V),ag K H ds vs->ag K H' ds vs
 | [],vs,h=>by simp only [ag] at h ⊢;exact h
 | d::ds,vs,h=>by
  simp only [ag] at h ⊢
  obtain⟨v,r,e1,h1,h2⟩:=h
  exact⟨v,r,e1,Fz.mono e d v h1,ag.mono e ds r h2⟩
theorem bt.mono(e:aA H H'):∀(aj:List (A4×A4)) (kk:List (List Key×V)),bt K H aj kk->bt K H' aj kk
 | [],kk,h=>by simp only [bt] at h ⊢;exact h
 | (k,d)::r,kk,h=>by
  simp only [bt] at h ⊢
  obtain⟨q,v,t,e1,e2,h1,h2⟩:=h
  exact⟨q,v,t,e1,e2,Fz.mono e d v h1,bt.mono e r t h2⟩
end
theorem ag.len:∀{ds:List A4} {vs:List V},ag K H ds vs->vs.length=ds.length
 | [],vs,h=>by simp only [ag] at h;subst h;rfl
 | d::ds,vs,h=>by
  simp only [ag] at h
  obtain⟨v,r,rfl,_,h2⟩:=h
  simp [ag.len h2]
theorem ag.get:∀{ds:List A4} {vs:List V} {i:Nat} {d:A4},ag K H ds vs->ds[i]?=some d->∃ v,vs[i]?=some v/\Fz K H d v
 | [],vs,i,d,h,e=>by simp at e
 | d0::ds,vs,i,d,h,e=>by
  simp only [ag] at h
  obtain⟨v,r,rfl,h1,h2⟩:=h
  cases i with
  | zero=>simp at e;subst e;exact⟨v,by simp,h1⟩
  | succ i =>
   obtain⟨w,e1,f⟩:=ag.get h2 (by simpa using e)
   exact⟨w,by simpa using e1,f⟩
theorem ag.app:∀{ds es:List A4} {vs ws:List V},ag K H ds vs->ag K H es ws->ag K H (ds++es) (vs++ws)
 | [],es,vs,ws,h,g=>by simp only [ag] at h;subst h;exact g
 | d::ds,es,vs,ws,h,g=>by
  simp only [ag] at h
  obtain⟨v,r,rfl,h1,h2⟩:=h
  simp only [B1,ag]
  exact⟨v,r++ws,rfl,h1,ag.app h2 g⟩
theorem ag.take:∀{ds:List A4} {vs:List V} (n:Nat),ag K H ds vs->ag K H (ds.take n) (vs.take n)
 | ds,vs,0,h=>by simp [ag]
 | [],vs,n+1,h=>by simp only [ag] at h;subst h;simp [ag]
 | d::ds,vs,n+1,h=>by
  simp only [ag] at h
  obtain⟨v,r,rfl,h1,h2⟩:=h
  simp only [List.take_succ_cons,ag]
  exact⟨v,_,rfl,h1,ag.take n h2⟩
theorem ag.drop:∀{ds:List A4} {vs:List V} (n:Nat),ag K H ds vs->ag K H (ds.drop n) (vs.drop n)
 | ds,vs,0,h=>by simpa using h
 | [],vs,n+1,h=>by simp only [ag] at h;subst h;simp [ag]
 | d::ds,vs,n+1,h=>by
  simp only [ag] at h
  obtain⟨v,r,rfl,h1,h2⟩:=h
  simpa using ag.drop n h2
theorem ag.set:∀{ds:List A4} {vs:List V} {d:A4} {v:V} (n:Nat),ag K H ds vs->Fz K H d v->ag K H (ds.set n d) (vs.set n v)
 | [],vs,d,v,n,h,f=>by simp only [ag] at h;subst h;simp [ag]
 | d0::ds,vs,d,v,n,h,f=>by
  simp only [ag] at h
  obtain⟨v0,r,rfl,h1,h2⟩:=h
  cases n with
  | zero=>simp only [BM,ag];exact⟨v,r,rfl,f,h2⟩
  | succ n=>simp only [BO,ag];exact⟨v0,_,rfl,h1,ag.set n h2 f⟩
theorem ag.rep{ds:List A4}{vs:List V}(h:ag K H ds vs):∀ k:Nat,ag K H (AI k ds).flatten (AI k vs).flatten
 | 0=>by simp [ag]
 | k+1=>by simp only [Dy,Fp];exact ag.app h (ag.rep h k)
theorem ag.ints:∀{ds:List A4} {vs:List V} {ns:List Int},ag K H ds vs->intsOf ds=some ns->vs=ns.map V.int/\ds=ns.map Bi
 | [],vs,ns,h,e=>by simp only [ag] at h;simp only [intsOf,Ct] at e;subst h;subst e;exact⟨rfl,rfl⟩
 | d::ds,vs,ns,h,e=>by
  simp only [ag] at h
  obtain⟨v,r,rfl,h1,h2⟩:=h
  cases d with
  | int i =>
   simp only [intsOf,C2] at e
   obtain⟨ms,e1,rfl⟩:=e
   obtain⟨a,b⟩:=ag.ints h2 e1
   simp only [Fz] at h1
   subst h1;subst a;subst b
   exact⟨rfl,rfl⟩
  | _=>simp [intsOf] at e
theorem ag.bools:∀{ds:List A4} {vs:List V} {ns:List Bool},ag K H ds vs->boolsOf ds=some ns->vs=ns.map V.bl/\ds=ns.map Cb
 | [],vs,ns,h,e=>by simp only [ag] at h;simp only [boolsOf,Ct] at e;subst h;subst e;exact⟨rfl,rfl⟩
 | d::ds,vs,ns,h,e=>by
  simp only [ag] at h
  obtain⟨v,r,rfl,h1,h2⟩:=h
  cases d with
  | bool i =>
   simp only [boolsOf,C2] at e
   obtain⟨ms,e1,rfl⟩:=e
   obtain⟨a,b⟩:=ag.bools h2 e1
   simp only [Fz] at h1
   subst h1;subst a;subst b
   exact⟨rfl,rfl⟩
  | _=>simp [boolsOf] at e
theorem ag.ofInts:∀(ns:List Int),ag K H (ns.map Bi) (ns.map V.int)
 | []=>by simp [ag]
 | i::r=>by simp only [A2,ag];exact⟨_,_,rfl,by simp [Fz],ag.ofInts r⟩
end
noncomputable def cO(K:kb)(H:Hp)(a:dm):A4->Prop
 | .list ds=>∃ vs,H a=some (.lst vs)/\ag K H ds vs
 | .dict aj=>∃ kk,H a=some (.dT kk)/\bt K H aj kk
 | _=>False
noncomputable def Tp(K:kb)(H:Hp):A4->V->Prop
 | .list ds,v=>∃ a vs,v=.ref a/\bp K H a vs/\ag K H ds vs
 | .dict aj,v=>∃ a,v=.ref a/\∃ kk,Rd H a (.dT kk)/\bt K H aj kk
 | d,v=>Fz K H d v
section
variable {K:kb}
theorem Fz.tp(h:Fz K H d v):Tp K H d v:=by
 cases d with
 | list ds =>
  simp only [Fz] at h
  obtain⟨a,vs,e,h1,h2⟩:=h
  exact⟨a,vs,e,h1.sq,h2⟩
 | dict aj =>
  simp only [Fz] at h
  obtain⟨a,o,e,h⟩:=h
  obtain⟨kk,h1,h2⟩:=h
  exact⟨a,e,⟨kk,.inr ⟨o,h1⟩,h2⟩⟩
 | _=>exact h
theorem cO.tp(h:cO K H a d):Tp K H d (.ref a):=by
 cases d with
 | list ds =>
  obtain⟨vs,h1,h2⟩:=h
  exact⟨a,vs,rfl,bp.of h1,h2⟩
 | dict aj =>
  obtain⟨kk,h1,h2⟩:=h
  exact⟨a,rfl,⟨kk,.inl h1,h2⟩⟩
 | _=>exact h.elim
noncomputable def Own:HO->Prop
 | .lst _=>True
 | .dT _=>True
 | .dK _=>True
 | _=>False
theorem cO.own(h:cO K H a d):∃ o,H a=some o/\Own o:=by
 cases d with
 | list ds=>obtain⟨vs,h1,_⟩:=h;exact⟨_,h1,trivial⟩
 | dict aj =>
  obtain⟨kk,h1,h2⟩:=h
  exact⟨_,h1,trivial⟩
 | _=>exact h.elim
theorem Own.jo(h:Own o):¬ xu o:=by cases o <;> first|exact fun z=>z|exact h.elim
theorem cO.mono{d:A4}{a:dm}(e:aA H H')(k:H' a=H a)(h:cO K H a d):cO K H' a d:=by
 cases d with
 | list ds=>obtain⟨vs,h1,h2⟩:=h;exact⟨vs,by rw [k];exact h1,h2.mono e⟩
 | dict aj =>
  obtain⟨kk,h1,h2⟩:=h
  exact⟨kk,by rw [k];exact h1,h2.mono e⟩
 | _=>exact h.elim
end
def pW[Cs](K:kb)(H:Hp)(a:dm)(c:String)(ds:List D):Prop:=∃ C ns dx vs,Cs.O c=some (C,ns)/\H a=some (.ins C dx (ns.zip vs))/\vs.length=ns.length/\ag K H ds vs
noncomputable def ErD(H:Hp)(ns:List ib)(vs:List V):Option dm->Prop
 | none=>ns=[]
 | some dx=>H dx=some (.xd (ns.zip vs))
def uk[Cs](K:kb)(H:Hp)(c:String)(ds:List D)(C:dm)(dd:Option dm):Prop:=Cs.O c=none/\∃ ns vs,Cs.X c=some (C,ns)/\vs.length=ns.length/\ErD H ns vs dd/\ag K H ds vs
def rJ[Cs](K:kb)(H:Hp)(a:dm)(c:String)(ds:List D):Prop:=∃ C dd,H a=some (jC a C dd)/\uk K H c ds C dd
noncomputable def gA[Cs](K:kb)(H:Hp):Sl->Option V->Prop
 | .no,_=>True
 | .val d,some v=>Fz K H d v
 | .ow _ d,some (.ref a)=>cO K H a d
 | .ob c ds,some (.ref a)=>pW K H a c ds\/rJ K H a c ds
 | _,_=>False
def At(ρ:En)(σ:St)(i:Nat)(a:dm):Prop:=(∃ p d,ρ[i]?=some (.ow p d))/\σ[i]?=some (some (.ref a))
def i6[Cs](H:Hp):Prop:=∀ a u,Cs.C a=some u->H a=some u
theorem i6.mono[Cs](h:i6 H)(e:aA H H'):i6 H':=fun a u q=>e a u (h a u q) (by
 obtain⟨o,xs,rfl⟩:=Cs.st a u q
 trivial)
structure Rel[Cs](K:kb)(ρ:En)(σ:St)(H:Hp):Prop where
 len:ρ.length=σ.length
 ok:∀(i:Nat) x v,ρ[i]?=some x->σ[i]?=some v->gA K H x v
 sep:∀ i j a,At ρ σ i a->At ρ σ j a->i=j
 cst:i6 H
variable [Cs]
def MA(ρ:En)(σ:St)(a:dm):Prop:=∃ i,At ρ σ i a
structure cu(ρ ρ':En)(σ:St)(H H':Hp):Prop where
 md:∀(i:Nat) p,(∃ d,ρ[i]?=some (.ow p d))↔∃ d,ρ'[i]?=some (.ow p d)
 kp:∀ a o,H a=some o->¬ MA ρ σ a->H' a=some o
section
variable {K:kb}{ρ' ρ'':En}{jF:Hp}
theorem Rel.zkj(r:Rel K ρ σ H)(h:At ρ σ i a):∃ p d,ρ[i]?=some (.ow p d)/\cO K H a d:=by
 obtain⟨⟨p,d,e⟩,e2⟩:=h
 exact⟨p,d,e,r.ok i _ _ e e2⟩
theorem Rel.eJ(r:Rel K ρ σ H)(h:MA ρ σ a):∃ o,H a=some o/\Own o:=by
 obtain⟨i,h⟩:=h
 obtain⟨p,d,_,m⟩:=r.zkj h
 exact m.own
theorem cu.refl:cu ρ ρ σ H H:=⟨fun _ _=>ER,fun _ _ h _=>h⟩
theorem cu.ma(s:cu ρ ρ' σ H H'):MA ρ σ a↔MA ρ' σ a:=by
 constructor
 ·rintro⟨i,⟨p,h⟩,e⟩;exact⟨i,⟨p,(s.md i p).mp h⟩,e⟩
 ·rintro⟨i,⟨p,h⟩,e⟩;exact⟨i,⟨p,(s.md i p).mpr h⟩,e⟩
theorem cu.trans(a:cu ρ ρ' σ H H')(b:cu ρ' ρ'' σ H' jF):cu ρ ρ'' σ H jF :=
 ⟨fun i p=>(a.md i p).trans (b.md i p),fun c o h n=>b.kp c o (a.kp c o h n) fun z=>n (a.ma.mpr z)⟩
theorem cu.of(s:aC H H'):cu ρ ρ σ H H':=⟨fun _ _=>ER,fun a o h _=>s a o h⟩
theorem cu.cJ(s:cu ρ ρ' σ H H')(r:Rel K ρ σ H):aA H H':=fun a o h st=>s.kp a o h fun m=>by
 obtain⟨o',e,w⟩:=r.eJ m
 rw [h] at e
 cases e
 exact w.jo st
theorem pW.mono{a:dm}{c:String}{ds:List D}(f:aA H H')(h:pW K H a c ds):pW K H' a c ds:=by
 obtain⟨C,ns,dx,vs,h1,h2,h3,h4⟩:=h
 exact⟨C,ns,dx,vs,h1,f _ _ h2 trivial,h3,h4.mono f⟩
theorem uk.mono{c:String}{ds:List D}{C:dm}{dd:Option dm}(f:aA H H')(h:uk K H c ds C dd):uk K H' c ds C dd:=by
 obtain⟨n,ns,vs,h1,h2,h3,h4⟩:=h
 refine⟨n,ns,vs,h1,h2,?_,h4.mono f⟩
 cases dd with
 | none=>exact h3
 | some dx=>exact f _ _ h3 trivial
theorem rJ.mono{a:dm}{c:String}{ds:List D}(f:aA H H')(h:rJ K H a c ds):rJ K H' a c ds:=by
 obtain⟨C,dd,h1,h2⟩:=h
 exact⟨C,dd,f _ _ h1 trivial,h2.mono f⟩
theorem gA.mono{x:Sl}{v:Option V}(f:aA H H')(k:∀ a,v=some (.ref a)->(∃ p d,x=.ow p d)->H' a=H a)(h:gA K H x v):gA K H' x v:=by
 cases x with
 | no=>trivial
 | val d=>cases v with
  | none=>exact h.elim
  | some v=>exact Fz.mono f d v h
 | ow p d=>cases v with
  | none=>exact h.elim
  | some v=>cases v with
   | ref a=>exact cO.mono f (k a rfl ⟨p,d,rfl⟩) h
   | _=>exact h.elim
 | ob c ds=>cases v with
  | none=>exact h.elim
  | some v=>cases v with
   | ref a=>exact Or.imp (pW.mono f) (rJ.mono f) h
   | _=>exact h.elim
theorem Rel.same(r:Rel K ρ σ H)(s:aC H H'):Rel K ρ σ H':=by
 refine⟨r.len,fun i x v e1 e2=>(r.ok i x v e1 e2).mono (aA.of s) fun a e3 ⟨p,d,e4⟩=>?_,r.sep,r.cst.mono (aA.of s)⟩
 subst e3;subst e4
 obtain⟨o,e,_⟩:=r.eJ ⟨i,⟨p,d,e1⟩,e2⟩
 rw [e,s a o e]
theorem Rel.put(r:Rel K ρ σ H)(n:¬ MA ρ σ a)(ns:∀ u,H a=some u->¬ xu u):Rel K ρ σ (upd H a o):=by
 have f:aA H (upd H a o):=fun b u e st=>by
  rw [aJ fun z=>by subst z;exact ns u e st]
  exact e
 refine⟨r.len,fun i x v e1 e2=>(r.ok i x v e1 e2).mono f fun b e3 ⟨p,d,e4⟩=>?_,r.sep,r.cst.mono f⟩
 subst e3;subst e4
 exact aJ fun z=>n ⟨i,⟨p,d,e1⟩,z▸e2⟩
end
noncomputable def zr:Av->Bool
 | .Starred _ _=>false
 | _=>true
theorem se{a:Av}(h:zr a=true):Aw (a::es) env=(false,AB a env)::Aw es env:=by
 cases a <;> first|rfl|cases h
theorem sp(h:es.all zr=true):(A7 pos (Aw es env)).any (·.1)=false:=by
 induction es with
 | nil=>rfl
 | cons a es ih =>
  rw [FT,Bs] at h
  rw [se h.1]
  exact ih h.2
end
variable {ρ1:En}{X:Cx}{s:ir}{i:Int}{b e:Av}{w:gV}{S:Bool->Hp->Prop}{f h:EF}{pins:List (dm×AA)}{g g':D->D->R D}{c:Bool}{σ:L2.St}{T:String}{Q:VK}{u:HO}{p p2:AD}{te:TE}{t:TF}{iK op:CB}{x:ib}{fa:AF}{d:D}{r:List V->Hp->VK->Prop}{t':TT}{G:List D->R D}{β:Type}
section
variable [Cs]
section
theorem zbJ{o:AA}(I:Inv X pins σ H s)(hd:H a=some u)(ow:Own u)(ho:s.heap.get? a=some o):Inv X pins σ (upd H a (.frz o u)) s:=by
 have ne:∀ b w,H b=some w->¬ Own w->b≠a:=fun b w e n z=>by
  subst z
  rw [e] at hd
  cases hd
  exact n ow
 refine Inv.step (s:=s) (h':=s.heap) (H':=upd H a (.frz o u)) (g':=s.gens) (t':=s.toks) (d':=s.drawn) (ch:=[]) I (fun _ z=>nomatch z) (fun b o _ _ _ e _=>e) (fun b o _ _ _ e _=>⟨o.slots,e⟩) (fun b _ _ _ n=>?_) (fun b o _ e=>⟨o,e⟩)
  (fun b xs e=>?_) (fun b o u e=>?_) (fun b ps e=>⟨#[],?_⟩) (fun m hm=>hm) (fun b w e=>?_) I.bare
 ·rw [aJ fun z=>by subst z;rw [n] at hd;cases hd];exact n
 ·rw [aJ (ne b _ e fun z=>z)];exact e
 ·rw [aJ (ne b _ e fun z=>z)];exact e
 ·rw [aJ (ne b _ e fun z=>z),e];simp
 ·have st:∀(b:dm) (w:HO),cE X.prog X.w H s.heap b w->cE X.prog X.w (upd H a (.frz o u)) s.heap b w:=fun b w k =>
   k.iN (fun _ _ _ q=>q) (fun b' q=>by rw [aJ (ne b' _ q fun z=>z)];exact q) (fun b' xs q=>q.upd (fun _ r=>ne b' _ r fun z=>z) fun _ _ r=>ne b' _ r fun z=>z)
  by_cases c:b=a
  ·subst c
   rw [bS] at e
   cases e
   exact⟨ho,st b u (I.ax b u hd)⟩
  ·rw [aJ c] at e
   exact st b w (I.ax b w e)
theorem zf2(h:EP X pins σ (fun v H1=>∃ a u,v=.ref a/\H1 a=some u/\Own u/\∀ o,Q v (upd H1 a (.frz o u))) w s):EP X pins σ Q w s:=by
 obtain⟨v,H1,I,r,a,u,e,e1,ow,q⟩:=h
 obtain⟨o,ho⟩:=(I.ax a u e1).some
 exact⟨v,_,zbJ I e1 ow ho,r,q o⟩
noncomputable def tFz(t:TE):TE:=fun σ H Q=>t σ H fun v H1=>∃ a u,v=.ref a/\H1 a=some u/\Own u/\∀ o,Q v (upd H1 a (.frz o u))
theorem zqY{t:TE}(h:PE X e t):PE X e (tFz t):=fun pins s σ H Q I q=>aE (h pins s σ H _ I q) fun _ _ z=>zf2 z
end
def Good{β:Type}(K:kb)(ρ:En)(σ:L2.St)(H:Hp)(r:R (β×En))(P:β->En->Hp->Prop):Prop:=match r with
 | .ok x=>∀ H',Rel K x.2 σ H'->cu ρ x.2 σ H H'->P x.1 x.2 H'
 | _=>False
noncomputable def tV(K:kb)(f:EF):TE:=fun σ H Q=>∃ ρ,Rel K ρ σ H/\Good K ρ σ H (f ρ) fun d _ H'=>∀ v,Fz K H' d v->Q v H'
noncomputable def tT(K:kb)(f:TF):TT:=fun σ H Q=>∃ ρ,Rel K ρ σ H/\Good K ρ σ H (f ρ) fun b _ H'=>Q b H'
noncomputable def tA(K:kb)(f:AF):TA:=fun σ H Q=>∃ ρ,Rel K ρ σ H/\Good K ρ σ H (f ρ) fun ds _ H'=>∀ vs,ag K H' ds vs->Q vs H'
noncomputable def tO(K:kb)(f:OF):TO:=fun σ H Q=>∃ ρ,Rel K ρ σ H/\Good K ρ σ H (f ρ) fun o _ H'=>Q o H'
noncomputable def tN(K:kb)(f:EF):TE:=fun σ H Q=>∃ ρ,Rel K ρ σ H/\Good K ρ σ H (f ρ) fun d ρ' H'=>∀ a,H a=none->cO K H' a d->Q (.ref a) H'
structure PV(K:kb)(X:Cx)(e:Av)(f:EF):Prop where
 run:X.K=K->PE X e (tV K f)
instance {K:kb} {X:Cx} {e:Av} {f:EF}:CoeFun (PV K X e f) fun _=>X.K=K->PE X e (tV K f):=⟨PV.run⟩
structure fc(K:kb)(X:Cx)(e:Av)(f:TF):Prop where
 run:X.K=K->PT X e (tT K f)
instance {K:kb} {X:Cx} {e:Av} {f:TF}:CoeFun (fc K X e f) fun _=>X.K=K->PT X e (tT K f):=⟨fc.run⟩
structure fC(K:kb)(X:Cx)(e:Av)(f:TF):Prop where
 run:X.K=K->PW X e (tT K f)
instance {K:kb} {X:Cx} {e:Av} {f:TF}:CoeFun (fC K X e f) fun _=>X.K=K->PW X e (tT K f):=⟨fC.run⟩
structure du(K:kb)(X:Cx)(es:List Av)(f:AF):Prop where
 run:X.K=K->PA X es (tA K f)
instance {K:kb} {X:Cx} {es:List Av} {f:AF}:CoeFun (du K X es f) fun _=>X.K=K->PA X es (tA K f):=⟨du.run⟩
structure rX(K:kb)(X:Cx)(e:Option Av)(f:OF):Prop where
 run:X.K=K->PO X e (tO K f)
instance {K:kb} {X:Cx} {e:Option Av} {f:OF}:CoeFun (rX K X e f) fun _=>X.K=K->PO X e (tO K f):=⟨rX.run⟩
structure bg(K:kb)(X:Cx)(e:Av)(f:EF):Prop where
 run:X.K=K->PE X e (tN K f)
instance {K:kb} {X:Cx} {e:Av} {f:EF}:CoeFun (bg K X e f) fun _=>X.K=K->PE X e (tN K f):=⟨bg.run⟩
theorem _root_.L2.PE.weak{t t':TE}(h:PE X e t)(w:∀ σ H Q,t' σ H Q->t σ H Q):PE X e t':=fun pins s σ H Q I q=>h pins s σ H Q I (w σ H Q q)
theorem _root_.L2.PT.weak{t:TT}(h:PT X e t)(w:∀ σ H Q,t' σ H Q->t σ H Q):PT X e t':=fun pins s σ H Q I q=>h pins s σ H Q I (w σ H Q q)
theorem _root_.L2.PW.weak{t:TT}(h:PW X e t)(w:∀ σ H Q,t' σ H Q->t σ H Q):PW X e t':=fun wh pins s σ H Q I q=>h wh pins s σ H Q I (w σ H Q q)
theorem _root_.L2.PA.weak{e:List Av}{t t':TA}(h:PA X e t)(w:∀ σ H Q,t' σ H Q->t σ H Q):PA X e t':=fun pos pins s σ H Q I q=>h pos pins s σ H Q I (w σ H Q q)
theorem _root_.L2.PO.weak{e:Option Av}{t t':TO}(h:PO X e t)(w:∀ σ H Q,t' σ H Q->t σ H Q):PO X e t':=fun pins s σ H Q I q=>h pins s σ H Q I (w σ H Q q)
section
variable {K:kb}{γ:Type}
theorem Good.step{r:R (β×En)}{P:β->En->Hp->Prop}(st:cu ρ ρ1 σ H H1)(g:Good K ρ σ H r P):Good K ρ1 σ H1 r P:=by
 cases r with
 | ok x=>exact fun H' rel s=>g H' rel (st.trans s)
 | _=>exact g
theorem Good.bU{r:R (β×En)}{k:β×En->R (γ×En)}{P:γ->En->Hp->Prop}(g:Good K ρ σ H (r.bind k) P):∃ x,r=.ok x/\Good K ρ σ H (k x) P:=by
 cases r with
 | ok x=>exact⟨x,rfl,g⟩
 | _=>exact g.elim
theorem Good.bQ{r:R β}{k:β->R (γ×En)}{P:γ->En->Hp->Prop}(g:Good K ρ σ H (r.bind k) P):∃ x,r=.ok x/\Good K ρ σ H (k x) P:=by
 cases r with
 | ok x=>exact⟨x,rfl,g⟩
 | _=>exact g.elim
theorem Good.aR{r:R (γ×En)}{P:γ->En->Hp->Prop}(g:Good K ρ σ H (aR c r) P):c=true/\Good K ρ σ H r P:=by
 cases c with
 | true=>exact⟨rfl,g⟩
 | false=>exact g.elim
theorem Good.now{x:β}{P:β->En->Hp->Prop}(g:Good K ρ σ H (.ok (x,ρ)) P)(rel:Rel K ρ σ H):P x ρ H:=g H rel .refl
theorem Good.new{x:β}{P:β->En->Hp->Prop}(g:Good K ρ σ H (.ok (x,ρ)) P)(rel:Rel K ρ σ H)(s:aC H H1):P x ρ H1:=g H1 (rel.same s) (.of s)
theorem eG{k:D×En->R (β×En)}{S:VK}{P:β->En->Hp->Prop}(rel:Rel K ρ σ H)(g:Good K ρ σ H ((f ρ).bind k) P)
  (h:∀ d ρ1 v H1,Rel K ρ1 σ H1->cu ρ ρ1 σ H H1->Fz K H1 d v->Good K ρ1 σ H1 (k (d,ρ1)) P->S v H1):tV K f σ H S:=by
 obtain⟨x,e,g1⟩:=g.bU
 refine⟨ρ,rel,?_⟩
 rw [e]
 exact fun H' r s v fz=>h x.1 x.2 v H' r s fz (g1.step s)
theorem goT{f:TF}{k:Bool×En->R (β×En)}{P:β->En->Hp->Prop}(rel:Rel K ρ σ H)(g:Good K ρ σ H ((f ρ).bind k) P)
  (h:∀ b ρ1 H1,Rel K ρ1 σ H1->cu ρ ρ1 σ H H1->Good K ρ1 σ H1 (k (b,ρ1)) P->S b H1):tT K f σ H S:=by
 obtain⟨x,e,g1⟩:=g.bU
 refine⟨ρ,rel,?_⟩
 rw [e]
 exact fun H' r s=>h x.1 x.2 H' r s (g1.step s)
theorem mF{f:AF}{k:List D×En->R (β×En)}{S:List V->Hp->Prop}{P:β->En->Hp->Prop}(rel:Rel K ρ σ H)(g:Good K ρ σ H ((f ρ).bind k) P)
  (h:∀ ds ρ1 vs H1,Rel K ρ1 σ H1->cu ρ ρ1 σ H H1->ag K H1 ds vs->Good K ρ1 σ H1 (k (ds,ρ1)) P->S vs H1):tA K f σ H S:=by
 obtain⟨x,e,g1⟩:=g.bU
 refine⟨ρ,rel,?_⟩
 rw [e]
 exact fun H' r s vs fz=>h x.1 x.2 vs H' r s fz (g1.step s)
theorem goO{f:OF}{k:Option Int×En->R (β×En)}{S:Option Int->Hp->Prop}{P:β->En->Hp->Prop}(rel:Rel K ρ σ H)(g:Good K ρ σ H ((f ρ).bind k) P)
  (h:∀ b ρ1 H1,Rel K ρ1 σ H1->cu ρ ρ1 σ H H1->Good K ρ1 σ H1 (k (b,ρ1)) P->S b H1):tO K f σ H S:=by
 obtain⟨x,e,g1⟩:=g.bU
 refine⟨ρ,rel,?_⟩
 rw [e]
 exact fun H' r s=>h x.1 x.2 H' r s (g1.step s)
end
noncomputable def rD(K:kb)(g:D->D->R D):R2:=fun x y H Q=>∃ dx dy d,Tp K H dx x/\Tp K H dy y/\g dx dy=.ok d/\∀ v H',aC H H'->Fz K H' d v->Q v H'
noncomputable def rD1(K:kb)(g:D->R D):V->Hp->VK->Prop:=fun x H Q=>∃ dx d,Tp K H dx x/\g dx=.ok d/\∀ v H',aC H H'->Fz K H' d v->Q v H'
noncomputable def wA(K:kb)(G:List D->R D):List V->Hp->VK->Prop:=fun xs H Q=>∃ ds d,ag K H ds xs/\G ds=.ok d/\∀ v H',aC H H'->Fz K H' d v->Q v H'
noncomputable def rD0(K:kb)(g:D->R D):List V->Hp->VK->Prop:=fun xs H Q=>∃ x dx d,xs=[x]/\Tp K H dx x/\g dx=.ok d/\∀ v H',aC H H'->Fz K H' d v->Q v H'
section
variable {K:kb}{a c:Av}{k:EF}
theorem ae(i:Nat)(hN:X.N[i]?=some x:=by rfl)(hv:xD X.env.scope x:=by first|exact Dg rfl|exact CZ (Dg rfl)|exact CZ (CZ rfl))(hd:(x==("__debug__":ib))=false:=by decide)
  (fi:(x==("__classdict__":ib))=false:=by decide):PV K X (.Name x pos) (eV i):=.mk fun _=>(zhZ hN hv hd fi).weak fun σ H Q=>by
 rintro⟨ρ,rel,g⟩
 unfold eV at g
 cases e:ρ[i]? with
 | none=>rw [e] at g;exact g.elim
 | some x =>
  rw [e] at g
  cases x with
  | val d =>
   have hl:i<σ.length:=by rw [<- rel.len];exact(Bf.mp e).1
   have o:=rel.ok i _ _ e (Be hl)
   cases es:σ[i] with
   | none=>rw [es] at o;exact o.elim
   | some v =>
    rw [es] at o
    exact⟨v,by rw [Be hl,es],g.now rel v o⟩
  | _=>exact g.elim
theorem wq(h:PE X e (tC v))(hv:∀ H,Fz K H d v):PV K X e (eC d):=.mk fun _=>h.weak fun σ H Q=>by
 rintro⟨ρ,rel,g⟩
 exact g.now rel v (hv H)
theorem aq{j}:PV K X (.Constant (.int i) j pos) (eC (.int i)):=wq zq0 fun _=>by simp [Fz]
theorem gq{i:Bool}{j}:PV K X (.Constant (.bool i) j pos) (eC (.bool i)):=wq zqN fun _=>by simp [Fz]
theorem zih{j}:PV K X (.Constant .none j pos) (eC .none):=wq zhX fun _=>by simp [Fz]
theorem cV{i:ib}{j}:PV K X (.Constant (.str i) j pos) (eC (.str i)):=wq zq6 fun _=>by simp [Fz]
theorem zsf{u:gV}(hg:Gl X x)(hm:X.mg x=some u)(r:RelV v u)(hv:∀ H,Fz K H d v)(hd:(x==("__debug__":ib))=false:=by decide):PV K X (.Name x pos) (eC d):=wq (cX hg hm r hd) hv
theorem yC{r:R2}(ho:∀ x y H Q,rD K g x y H Q->r x y H Q)(σ:L2.St)(H:Hp)(Q:VK)(q:tV K (e2 g f h) σ H Q):rF r (tV K f) (tV K h) σ H Q:=by
 obtain⟨ρ,rel,q⟩:=q
 refine eG rel q fun dx ρ1 x H1 ah aG fx q1=>eG ah q1 fun dy ρ2 y H2 cC bY fy q2=>?_
 obtain⟨d,ed,q3⟩:=q2.bQ
 exact ho _ _ _ _ ⟨dx,dy,d,(fx.mono (bY.cJ ah)).tp,fy.tp,ed,fun v H' s fz=>q3.new cC s v fz⟩
theorem aB{op:Operator}(ho:aV X (Cg op) (rD X.K g))(ha:PV K X a f)(hb:PV K X b h):PV K X (.BinOp a op b pos) (e2 g f h):=.mk fun hK=>by
 subst hK
 exact(zhY ho (ha rfl) (hb rfl)).weak fun σ H Q q=>yC (fun _ _ _ _ z=>z) σ H Q q
theorem bq(ho:lN X (rD X.K g))(ha:PV K X a f)(hb:PV K X b h)(hs:xt b:=by exact fun _ _=>rfl):PV K X (.Subscript a b pos) (e2 g f h):=.mk fun hK=>by
 subst hK
 exact(zhV ho (ha rfl) (hb rfl) hs).weak fun σ H Q q=>yC (fun _ _ _ _ z=>z) σ H Q q
theorem zsd(ho:aV X (A3 op) (rD X.K g))(ha:PV K X a f)(hb:PV K X b h)(hm:CP op b=false):PV K X (.Compare a [op] [b] pos) (e2 g f h):=.mk fun hK=>by
 subst hK
 exact(zqT ho (ha rfl) (hb rfl) hm).weak fun σ H Q q=>yC (fun _ _ _ _ z=>z) σ H Q q
theorem zdn{op:UnaryOp}{g:D->R D}(ho:uO X (unaryOp op) (rD1 X.K g))(ha:PV K X a f):PV K X (.UnaryOp op a pos) (e1 g f):=.mk fun hK=>by
 subst hK
 exact(zq8 ho (ha rfl)).weak fun σ H Q=>by
  rintro⟨ρ,rel,q⟩
  refine eG rel q fun dx ρ1 x H1 ah aG fx q1=>?_
  obtain⟨d,ed,q3⟩:=q1.bQ
  exact⟨dx,d,fx.tp,ed,fun v H' s fz=>q3.new ah s v fz⟩
theorem zgo(σ:L2.St)(H:Hp)(Q:VK)(q:tV K (iF g g' f h k) σ H Q):zdK (rD K g) (rD K g') (tV K f) (tV K h) (tV K k) σ H Q:=by
 obtain⟨ρ,rel,q⟩:=q
 refine eG rel q fun dx ρ1 x H1 ah aG fx q1=>eG ah q1 fun dy ρ2 y H2 cC bY fy q2=>?_
 obtain⟨d,ed,q3⟩:=q2.bQ
 refine⟨dx,dy,d,(fx.mono (bY.cJ ah)).tp,fy.tp,ed,fun v H' s fz=>?_⟩
 cases d with
 | bool bb =>
  simp only [Fz] at fz
  subst fz
  have eU:=cC.same s
  have q4:=q3.step (.of s)
  cases bb with
  | true =>
   refine⟨true,rfl,kX ?_⟩
   refine eG eU q4 fun dz ρ3 z H3 wB rp fzz q5=>?_
   obtain⟨d2,u6,q6⟩:=q5.bQ
   exact⟨dy,dz,d2,((fy.mono (aA.of s)).mono (rp.cJ eU)).tp,fzz.tp,u6,fun v H' s fz=>q6.new wB s v fz⟩
  | false=>exact⟨false,rfl,kW (q4.now eU _ (by simp [Fz]))⟩
 | _=>exact q3.elim
theorem zsc(ho:aV X (A3 op) (rD X.K g))(fj:aV X (A3 iK) (rD X.K g'))(ha:PV K X a f)(hb:PV K X b h)(hc:PV K X c k)
  (hm:lastMarks [op,iK] [b,c]=false:=by with_unfolding_all rfl):PV K X (.Compare a [op,iK] [b,c] pos) (iF g g' f h k):=.mk fun hK=>by
 subst hK
 exact(zqS ho fj (ha rfl) (hb rfl) (hc rfl) hm).weak fun σ H Q q=>zgo σ H Q q
theorem qZ{op}(ha:PV K X a f):PV K X (.BoolOp op [a] pos) f:=.mk fun hK=>zq4 (ha hK)
theorem oP{rest:List Av}(ha:PV K X a f)(hb:PV K X (.BoolOp .And (b::rest) pos) h):PV K X (.BoolOp .And (a::b::rest) pos) (dQ f h):=.mk fun hK=>(zqM (ha hK) (hb hK)).weak fun σ H Q=>by
 rintro⟨ρ,rel,q⟩
 refine eG rel q fun dx ρ1 x H1 ah aG fx q1=>?_
 cases dx with
 | bool bb =>
  simp only [Fz] at fx
  subst fx
  cases bb with
  | true=>exact⟨true,rfl,kX ⟨ρ1,ah,q1⟩⟩
  | false=>exact⟨false,rfl,kW (q1.now ah _ (by simp [Fz]))⟩
 | _=>exact q1.elim
theorem zii(ha:PV K X a f):PV K X (.UnaryOp .Not a pos) (jg f):=.mk fun hK=>(zq3 (ha hK)).weak fun σ H Q=>by
 rintro⟨ρ,rel,q⟩
 refine eG rel q fun dx ρ1 x H1 ah aG fx q1=>?_
 cases dx with
 | bool bb =>
  simp only [Fz] at fx
  subst fx
  exact⟨bb,rfl,q1.now ah _ (by simp [Fz])⟩
 | _=>exact q1.elim
theorem zsg(hc:fc K X c t)(ha:PV K X a f)(hb:PV K X b h):PV K X (.IfExp c a b pos) (jf t f h):=.mk fun hK=>(zqZ (hc hK) (ha hK) (hb hK)).weak fun σ H Q=>by
 rintro⟨ρ,rel,q⟩
 refine goT rel q fun cb ρ1 H1 ah aG q1=>?_
 cases cb with
 | true=>exact kX ⟨ρ1,ah,q1⟩
 | false=>exact kW ⟨ρ1,ah,q1⟩
theorem wu:du K X [] af:=.mk fun _=>jq.weak fun σ H Q=>by
 rintro⟨ρ,rel,q⟩
 exact q.now rel [] (by simp [ag])
theorem dj(ha:PV K X a f)(hr:du K X es fa)(hs:Aw (a::es) X.env=(false,AB a X.env)::Aw es X.env:=by exact FL.se rfl):du K X (a::es) (aa f fa):=.mk fun hK=>(gm (ha hK) (hr hK) hs).weak fun σ H Q=>by
 rintro⟨ρ,rel,q⟩
 refine eG rel q fun dx ρ1 x H1 ah aG fx q1=>mF ah q1 fun ds ρ2 vs H2 cC bY fs q2=>?_
 exact q2.now cC _ (by simp only [ag];exact⟨x,vs,rfl,fx.mono (bY.cJ ah),fs⟩)
theorem oE:lim<=AU:=by rw [BR];decide
theorem e7{x1}(h:du K X es fa):PV K X (.Tuple es x1 pos) (aP fa):=.mk fun hK=>(zq7 (h hK)).weak fun σ H Q=>by
 rintro⟨ρ,rel,q⟩
 refine mF rel q fun ds ρ1 vs H1 ah aG fs q1=>?_
 obtain⟨c,q2⟩:=q1.aR
 refine⟨by rw [fs.len];exact By (mP c) oE,fun p hp=>?_⟩
 have s:aC H1 (upd H1 p (.tup vs)):=aC.upd hp
 refine q2.new ah s _ ?_
 simp only [Fz]
 exact⟨p,vs,rfl,.inl bS,fs.mono (aA.of s)⟩
theorem et(h:du K X es fa):bg K X (.List es pos) (aZ fa):=.mk fun hK=>(zhW (h hK)).weak fun σ H Q=>by
 rintro⟨ρ,rel,q⟩
 refine mF rel q fun ds ρ1 vs H1 ah aG fs q1=>?_
 obtain⟨c,q2⟩:=q1.aR
 refine⟨by rw [fs.len];exact By (mP c) oE,fun p hp=>?_⟩
 have s:aC H1 (upd H1 p (.lst vs)):=aC.upd hp
 refine q2.new ah s p ?_ ?_
 ·cases e:H p with
  | none=>rfl
  | some o =>
   by_cases m:MA ρ σ p
   ·obtain⟨o',e',_⟩:=ah.eJ (aG.ma.mp m)
    rw [hp] at e';cases e'
   ·rw [aG.kp p o e m] at hp;cases hp
 ·exact⟨vs,bS,fs.mono (aA.of s)⟩
theorem bg.pv{f:EF}(h:bg K X e f):PV K X e f:=.mk fun hK=>(zqY (h hK)).weak fun σ H Q=>by
 rintro⟨ρ,rel,q⟩
 refine⟨ρ,rel,?_⟩
 cases e:f ρ with
 | ok x =>
  rw [e] at q
  intro H' ztR st a ha m
  obtain⟨u,e1,ow⟩:=m.own
  refine⟨a,u,rfl,e1,ow,fun o=>?_⟩
  have ik:¬ MA ρ σ a:=fun z=>by
   obtain⟨o',e',_⟩:=rel.eJ z
   rw [ha] at e';cases e'
  have nma':¬ MA x.2 σ a:=fun z=>ik (st.ma.mpr z)
  have fz:aA H' (upd H' a (.frz o u)):=fun b w e2 sy=>by
   rw [aJ fun z=>by subst z;rw [e1] at e2;cases e2;exact ow.jo sy]
   exact e2
  refine q _ (ztR.put nma' fun u' e2=>by rw [e1] at e2;cases e2;exact ow.jo) ⟨st.md,fun b w e2 n=>?_⟩ _ ?_
  ·rw [aJ fun z=>by subst z;rw [ha] at e2;cases e2]
   exact st.kp b w e2 n
  ·obtain⟨d,ρ'⟩:=x
   cases d with
   | list ds =>
    obtain⟨vs,h1,h2⟩:=m
    rw [e1] at h1
    cases h1
    simp only [Fz]
    exact⟨a,vs,rfl,.inl ⟨o,bS⟩,h2.mono fz⟩
   | dict aj =>
    simp only [Fz]
    obtain⟨kk,h1,h2⟩:=m
    rw [e1] at h1
    cases h1
    exact⟨a,o,rfl,⟨kk,bS,h2.mono fz⟩⟩
   | _=>exact m.elim
 | _=>rw [e] at q;exact q.elim
theorem goC(hr:∀ xs H Q,wA K G xs H Q->r xs H Q)(σ:L2.St)(H:Hp)(Q:VK)(q:tV K (ak G fa) σ H Q):zY r (tA K fa) σ H Q:=by
 obtain⟨ρ,rel,q⟩:=q
 refine mF rel q fun ds ρ1 vs H1 ah aG fs q1=>?_
 obtain⟨d,ed,q2⟩:=q1.bQ
 exact hr _ _ _ ⟨ds,d,fs,ed,fun v H' s fz=>q2.new ah s v fz⟩
theorem zC{id:String}(hc:iu X (.builtin id) (wA X.K G))(hg:Gl X x)(hm:X.mg x=none)(hv:Bo x=some (.builtin id))(ha:du K X (e::es) fa)(hn:x ≠ "__name__":=by decide) (bz:(x==("__debug__":ib))=false:=by decide)
  (he:Aw (e::es) X.env=(false,AB e X.env)::Aw es X.env:=by exact FL.se rfl) (aX:(A7 pos (Aw es X.env)).any (·.1)=false:=by exact FL.sp rfl):PV K X (.Call (.Name x p) (e::es) [] pos) (ak G fa):=.mk fun hK=>by
 subst hK
 exact(wj hc hg hm hv (ha rfl) hn bz he aX).weak fun σ H Q q=>goC (fun _ _ _ z=>z) σ H Q q
theorem zsb(hc:iu X (.type T) (wA X.K G))(hg:Gl X x)(hm:X.mg x=none)(hv:Bo x=some (.type T))(ha:du K X (e::es) fa)(hn:x ≠ "__name__":=by decide) (bz:(x==("__debug__":ib))=false:=by decide)
  (he:Aw (e::es) X.env=(false,AB e X.env)::Aw es X.env:=by exact FL.se rfl) (aX:(A7 pos (Aw es X.env)).any (·.1)=false:=by exact FL.sp rfl):PV K X (.Call (.Name x p) (e::es) [] pos) (ak G fa):=.mk fun hK=>by
 subst hK
 exact(zdd hc hg hm hv (ha rfl) hn bz he aX).weak fun σ H Q q=>goC (fun _ _ _ z=>z) σ H Q q
variable {lo hi:Option Av}{fl fh:OF}
theorem zI:rX K X none gi:=.mk fun _=>zrz.weak fun σ H Q=>by
 rintro⟨ρ,rel,q⟩
 exact q.now rel
theorem zJ(h:PV K X a f):rX K X (some a) (gj f):=.mk fun hK=>(zrA (h hK)).weak fun σ H Q=>by
 rintro⟨ρ,rel,q⟩
 refine eG rel q fun dx ρ1 x H1 ah aG fx q1=>?_
 cases dx with
 | int i =>
  simp only [Fz] at fx
  exact⟨i,fx,q1.now ah⟩
 | _=>exact q1.elim
noncomputable def ziv(K:kb):V->Option Int->Option Int->Hp->VK->Prop:=fun x lo hi H Q=>∃ dx d,Tp K H dx x/\i3 dx lo hi=.ok d/\∀ v H',aC H H'->Fz K H' d v->Q v H'
theorem zG(hr:uM X (ziv X.K))(he:PV K X a f)(hl:rX K X lo fl)(hu:rX K X hi fh):PV K X (.Subscript a (.Slice lo hi none p2) pos) (fW f fl fh):=.mk fun hK=>by
 subst hK
 exact(zq5 hr (he rfl) (hl rfl) (hu rfl)).weak fun σ H Q=>by
  rintro⟨ρ,rel,q⟩
  refine eG rel q fun dx ρ1 x H1 ah aG fx q1=>goO ah q1 fun l ρ2 H2 cC bY q2=>goO cC q2 fun u ρ3 H3 eU lH q3=>?_
  obtain⟨d,ed,q4⟩:=q3.bQ
  exact⟨dx,d,((fx.mono (bY.cJ ah)).mono (lH.cJ cC)).tp,ed,fun v H' s fz=>q4.new eU s v fz⟩
variable {u:TF}
theorem fA(hv:zaq X (fun x H Q=>∃ d k,Tp X.K H d x/\dJ d=.ok k/\Q k H))(h:PV K X a f)(he:∀ whole,isTrue a X.env whole=(do let v <- whole;Ep a.pos;C8 [v] (truthy v)):=by intro _;rfl):fc K X a (tE f):=.mk fun hK=>by
 subst hK
 intro pins s σ H Q I q
 rw [he]
 obtain⟨ρ,rel,q⟩:=q
 refine pd (aE (h rfl pins s σ H (fun x H'=>∃ d k,Tp X.K H' d x/\dJ d=.ok k/\Q k H') I ?_) fun v s1 ⟨x,H1,I1,r1,q1⟩=>pd (D5 (Cu (hv pins s1 σ H1 x v Q I1 r1 q1))))
 refine eG rel q fun dx ρ1 x H1 ah aG fx q1=>?_
 obtain⟨d,ed,q2⟩:=q1.bQ
 exact⟨dx,d,fx.tp,ed,q2.now ah⟩
theorem yB(hw:∀ σ H Q,tV K f σ H Q->te σ H Q)(σ:L2.St)(H:Hp)(Q:Bool->Hp->Prop)(q:tT K (tB f) σ H Q):te σ H fun x H'=>∃ k,x=.bl k/\Q k H':=by
 obtain⟨ρ,rel,q⟩:=q
 refine hw σ H _ (eG rel q fun dx ρ1 x H1 ah aG fx q1=>?_)
 cases dx with
 | bool bb =>
  simp only [Fz] at fx
  exact⟨bb,fx,q1.now ah⟩
 | _=>exact q1.elim
theorem zsP(ho:aV X (A3 op) (rD X.K g))(ha:PV K X a f)(hb:PV K X b h)(hm:CP op b=false):fc K X (.Compare a [op] [b] pos) (tB (e2 g f h)):=.mk fun hK=>by
 subst hK
 exact(zdm ho (ha rfl) (hb rfl) hm).weak fun σ H Q q=>yB (fun σ H Q z=>yC (fun _ _ _ _ z=>z) σ H Q z) σ H Q q
theorem jt(ha:fc K X a t):fC K X (.BoolOp .Or [a] pos) t:=.mk fun hK=>zsW (ha hK)
theorem gG{rest:List Av}(ha:fc K X a t)(hb:fC K X (.BoolOp .Or (b::rest) pos) u):fC K X (.BoolOp .Or (a::b::rest) pos) (FL.bG t u):=.mk fun hK=>(zsV (ha hK) (hb hK)).weak fun σ H Q=>by
 rintro⟨ρ,rel,q⟩
 refine goT rel q fun cb ρ1 H1 ah aG q1=>?_
 cases cb with
 | true=>exact kX (q1.now ah)
 | false=>exact kW ⟨ρ1,ah,q1⟩
theorem fC.jr(h:fC K X a t):fc K X a t:=.mk fun hK=>(h hK).pt
theorem fP(ha:fc K X a t):fc K X (.UnaryOp .Not a pos) (FL.bh t):=.mk fun hK=>(zr1 (ha hK)).weak fun σ H Q=>by
 rintro⟨ρ,rel,q⟩
 exact goT rel q fun cb ρ1 H1 ah aG q1=>q1.now ah
theorem zsN(ho:aV X (A3 op) (rD X.K g))(fj:aV X (A3 iK) (rD X.K g'))(ha:PV K X a f)(hb:PV K X b h)(hc:PV K X c k)
  (hm:lastMarks [op,iK] [b,c]=false:=by with_unfolding_all rfl):fc K X (.Compare a [op,iK] [b,c] pos) (tB (iF g g' f h k)):=.mk fun hK=>by
 subst hK
 exact(zr0 ho fj (ha rfl) (hb rfl) (hc rfl) hm).weak fun σ H Q q=>yB (fun σ H Q z=>zgo σ H Q z) σ H Q q
end
end
variable {G:D->D->R D}
section
variable [Cs]
end
variable {k:Nat}{q:List Int->List Int->Bool}{α:Type}{c p:Int->Int->Bool}{vs:List V}{g:Int->Int->Int}{f:gV->gV->Sem gV}{C:Int->Int->Prop}
section
variable [Cs]
section
variable {K:kb}
mutual
theorem Fz.is:∀(d:A4) (v:V),F7 d=true->Fz K H d v->Is K H d v
 | .none,v,_,h=>by simp only [Fz] at h;simp only [Is];exact h
 | .bool b,v,_,h=>by simp only [Fz] at h;simp only [Is];exact h
 | .int i,v,_,h=>by simp only [Fz] at h;simp only [Is];exact h
 | .str x,v,_,h=>by simp only [Fz] at h;simp only [Is];exact h
 | .list xs,v,c,h=>by
  simp only [Fz] at h;simp only [Is]
  obtain⟨a,vs,e1,h1,h2⟩:=h
  exact⟨a,vs,e1,h1.sq,ag.is xs vs c h2⟩
 | .tuple xs,v,c,h=>by
  simp only [Fz] at h;simp only [Is]
  obtain⟨a,vs,e1,h1,h2⟩:=h
  exact⟨a,vs,e1,.inl h1,ag.is xs vs c h2⟩
 | .dict aj,v,c,h=>by simp [F7] at c
theorem ag.is:∀(ds:List A4) (vs:List V),GX ds=true->ag K H ds vs->i9 K H ds vs
 | [],vs,_,h=>by simp only [ag] at h;simp only [i9];exact h
 | d::ds,vs,c,h=>by
  simp only [GX,Bs] at c
  simp only [ag] at h;simp only [i9]
  obtain⟨v,r,e1,h1,h2⟩:=h
  exact⟨v,r,e1,Fz.is d v c.1 h1,ag.is ds r c.2 h2⟩
end
theorem Tp.is{d:A4}{v:V}(c:F7 d=true)(h:Tp K H d v):Is K H d v:=by
 cases d with
 | list ds =>
  obtain⟨a,vs,e,h1,h2⟩:=h
  simp only [Is]
  exact⟨a,vs,e,h1,ag.is ds vs c h2⟩
 | dict aj=>simp [F7] at c
 | none=>exact Fz.is _ _ c h
 | bool b=>exact Fz.is _ _ c h
 | int b=>exact Fz.is _ _ c h
 | str b=>exact Fz.is _ _ c h
 | tuple b=>exact Fz.is _ _ c h
theorem Tp.int(h:Tp K H (.int i) v):v=.int i:=by simpa [Tp,Fz] using h
theorem Tp.bool{i:Bool}(h:Tp K H (.bool i) v):v=.bl i:=by simpa [Tp,Fz] using h
theorem Tp.none(h:Tp K H .none v):v=.non:=by simpa [Tp,Fz] using h
theorem Tp.zu0{ds:List A4}(h:Tp K H (.tuple ds) v):∃ a vs,v=.ref a/\dU H a vs/\ag K H ds vs:=by simpa [Tp,Fz] using h
theorem Tp.tup{ds:List A4}{v:V}(h:Tp K H (.tuple ds) v):∃ a vs,v=.ref a/\dN K H a vs/\ag K H ds vs :=
 let⟨a,vs,x,y,z⟩:=Tp.zu0 h
 ⟨a,vs,x,.inl y,z⟩
theorem Tp.lst{ds:List A4}{v:V}(h:Tp K H (.list ds) v):∃ a vs,v=.ref a/\bp K H a vs/\ag K H ds vs:=h
theorem jJ(i:Int):Fz K H (.int i) (.int i):=by simp [Fz]
theorem mC(i:Bool):Fz K H (.bool i) (.bl i):=by simp [Fz]
theorem yx{ds:List A4}(h:dU H a vs)(f:ag K H ds vs):Fz K H (.tuple ds) (.ref a):=by simp only [Fz];exact⟨a,vs,rfl,h,f⟩
theorem ag.dW{ds:List A4}{vs:List V}{i:Int}{d:A4}(h:ag K H ds vs)(e:FL.dW ds i=some d):∃ v,L2.dW vs i=some v/\Fz K H d v:=by
 unfold FL.dW at e
 cases en:FL.ie ds.length i with
 | none=>rw [en] at e;cases e
 | some j =>
  rw [en] at e
  obtain⟨v,e1,f⟩:=h.get (show ds[j]?=some d from e)
  refine⟨v,?_,f⟩
  unfold L2.dW
  rw [h.len,show L2.ie ds.length i=some j from en]
  exact e1
theorem ag.cut{ds:List A4}{vs:List V}(h:ag K H ds vs)(lo hi:Option Int):ag K H (FL.cut ds lo hi) (lW vs lo hi):=by
 unfold FL.cut lW
 rw [h.len]
 exact(h.drop _).take _
end
theorem gM{c:Bool}{r:R α}{d:α}(h:aR c r=.ok d):c=true/\r=.ok d:=by
 cases c with
 | true=>exact⟨rfl,h⟩
 | false=>exact nomatch (show(R.bad:R α)=.ok d from h)
section
theorem vb{ds:List D}(f:ag X.K H ds vs)(q:∀ v H',aC H H'->Fz X.K H' (.list ds) v->Q v H')
  (h:EP X pins σ (fun v H1=>∃ p,v=.ref p/\H p=none/\H1=upd H p (.lst vs)) w s):EP X pins σ Q w s:=by
 obtain⟨v,H1,I,r,p,rfl,hp,rfl⟩:=h
 refine zf2 ⟨.ref p,_,I,r,p,.lst vs,rfl,bS,trivial,fun o=>?_⟩
 rw [zvd]
 refine q _ _ (aC.upd hp) ?_
 simp only [Fz]
 exact⟨p,vs,rfl,.inl ⟨o,bS⟩,f.mono (aA.of (aC.upd hp))⟩
theorem bA:aV X (Cg .Add) (rD X.K ay):=by
 intro pins s σ H x y v u Q I rx ry h
 obtain⟨dx,dy,d,tx,ty,e,q⟩:=h
 cases dx with
 | int i =>
  cases dy with
  | int j=>cases e;exact zqp pins s σ H x y v u Q I rx ry ⟨i,j,tx.int,ty.int,q _ H (aC.refl _) (jJ _)⟩
  | _=>exact nomatch (show(R.bad:R D)=.ok d from e)
 | list a =>
  cases dy with
  | list b =>
   obtain⟨c,e⟩:=gM (show aR (leB (a.length+b.length) lim) (.ok (.list (a++b)))=.ok d from e)
   ·cases e
    obtain⟨l,xs,rfl,sx,fx⟩:=tx.lst
    obtain⟨m,ys,rfl,sy,fy⟩:=ty.lst
    cases rx
    cases ry
    obtain⟨its,r1,⟨o,n,ho,hc,hdn,hd⟩,z1⟩:=I.list sx
    obtain⟨oz,r2,⟨o2,n2,fK,ji,zgx,hd2⟩,z2⟩:=I.list sy
    obtain⟨cls,dd,data,sl⟩:=o
    obtain⟨zaV,lY,data2,lF⟩:=o2
    simp only at hc hd ji hd2 hdn zgx
    subst hc hd ji hd2 hdn zgx
    have hz:its.length+oz.length<=AU:=by
     have:=mP c
     have l0:=oE
     rw [<- r1.length,<- r2.length,fx.len,fy.len]
     omega
    refine aE (Gy (Q:=EP X pins σ fun v H1=>∃ p,v=.ref p/\H p=none/\H1=upd H p (.lst (xs++ys))) ⟨_,ho,rfl⟩ ⟨_,fK,rfl⟩ PySem.noFill_list_add PySem.seq_list_add PySem.F.slot_list_add PySem.F.entry_list_add (PySem.F.args_list_add_2 _ _)
     (list_addW l m its.toArray oz.toArray n n2 none none sl lF (by rw [Bk,Bk];exact hz)) ⟨ho,fK,?_⟩) fun _ _ z=>vb (fx.app fy) q z
    have ea:its.toArray++oz.toArray=(its++oz).toArray:=by simp
    rw [ea]
    exact⟨.ref _,_,I.zha (t':=s.toks) (r1.append r2) (by rw [B6,r1.length,r2.length];exact hz),rfl,_,rfl,I.fresh,rfl⟩
  | _=>exact nomatch (show(R.bad:R D)=.ok d from e)
 | tuple a =>
  cases dy with
  | tuple b =>
   obtain⟨c,e⟩:=gM (show aR (leB (a.length+b.length) lim) (.ok (.tuple (a++b)))=.ok d from e)
   ·cases e
    obtain⟨l,xs,rfl,sx,fx⟩:=tx.tup
    obtain⟨m,ys,rfl,sy,fy⟩:=ty.tup
    have hz:xs.length+ys.length<=AU:=by
     have:=mP c
     have l0:=oE
     rw [fx.len,fy.len]
     omega
    by_cases x0:xs=[]
    ·subst x0
     have a0:a=[]:=by have:=fx.len;cases a with|nil=>rfl|cons _ _=>simp at this
     subst a0
     cases rx
     cases ry
     obtain⟨its,r1,p1,z1⟩:=I.tuple sx
     obtain⟨oz,r2,p2,z2⟩:=I.tuple sy
     cases r1
     obtain⟨⟨cls,dd,data,sl⟩,ho,hc,n,hd⟩:=id p1
     obtain⟨⟨zaV,lY,data2,lF⟩,fK,ji,n2,hd2⟩:=id p2
     simp only at hc hd ji hd2
     subst hc hd ji hd2
     exact Gy ⟨_,ho,rfl⟩ ⟨_,fK,rfl⟩ HB HC HD HE (HF _ _)
      (tuple_addW0 l m #[] oz.toArray n n2 dd lY sl lF rfl) ⟨ho,fK,⟨.ref m,H,I.tok _,rfl,q _ H (aC.refl _) ty⟩⟩
    ·exact zqq pins s σ H _ _ v u Q I rx ry ⟨l,m,xs,ys,rfl,rfl,sx,sy,x0,hz,fun y0=>by
      subst y0
      have b0:b=[]:=by have:=fy.len;cases b with|nil=>rfl|cons _ _=>simp at this
      subst b0
      rw [CV] at q
      exact q _ H (aC.refl _) tx,fun _ p hp=>q _ _ (aC.upd hp) (yx (.inl bS) ((fx.app fy).mono (aA.of (aC.upd hp))))⟩
  | _=>exact nomatch (show(R.bad:R D)=.ok d from e)
 | _=>exact nomatch (show(R.bad:R D)=.ok d from e)
theorem zv(ho:aV X f (rI C fun i j=>.int (g i j)))(hC:∀ i j,c i j=true->C i j)
  (hG:∀ dx dy d,G dx dy=.ok d->∃ i j,dx=.int i/\dy=.int j/\c i j=true/\d=.int (g i j)):aV X f (rD X.K G):=by
 intro pins s σ H x y v u Q I rx ry h
 obtain⟨dx,dy,d,tx,ty,e,q⟩:=h
 obtain⟨i,j,rfl,rfl,cc,rfl⟩:=hG _ _ _ e
 exact ho pins s σ H x y v u Q I rx ry ⟨i,j,tx.int,ty.int,hC i j cc,q _ H (aC.refl _) (jJ _)⟩
theorem yz(h:∀ i j,G (.int i) (.int j)=aR (c i j) (.ok (.int (g i j))))(h0:∀ dx dy,(¬ ∃ i j,dx=.int i/\dy=.int j)->G dx dy=.bad) :
  ∀ dx dy d,G dx dy=.ok d->∃ i j,dx=.int i/\dy=.int j/\c i j=true/\d=.int (g i j):=by
 intro dx dy d e
 by_cases k:∃ i j,dx=.int i/\dy=.int j
 ·obtain⟨i,j,rfl,rfl⟩:=k
  rw [h] at e
  obtain⟨cc,e⟩:=gM e
  cases e
  exact⟨i,j,rfl,rfl,cc,rfl⟩
 ·rw [h0 _ _ k] at e;cases e
theorem zo{dx dy:D}(hb:∀ dx dy,(∀ i,dx≠.int i)->G dx dy=.bad)(nZ:∀ i dy,(∀ j,dy≠.int j)->G (.int i) dy=.bad)(h:¬ ∃ i j,dx=.int i/\dy=.int j):G dx dy=.bad:=by
 cases dx with
 | int i=>exact nZ i dy fun j e=>h ⟨i,j,rfl,e⟩
 | _=>exact hb _ _ fun i e=>nomatch e
theorem wa:aV X (Cg .Sub) (rD X.K eL):=zv (C:=fun _ _=>True) (c:=fun _ _=>true) (g:=fun i j=>i-j)
 (fun pins s σ H x y v u Q I rx ry ⟨i,j,e1,e2,_,q⟩=>zqD pins s σ H x y v u Q I rx ry ⟨i,j,e1,e2,q⟩) (fun _ _ _=>trivial)
 (yz (fun _ _=>rfl) fun dx dy h=>zo (fun dx dy h=>by cases dx <;> first|rfl|exact absurd rfl (h _)) (fun i dy h=>by cases dy <;> first|rfl|exact absurd rfl (h _)) h)
theorem zpM{j:Int}(h:vX i j=true):IntMulOk i j:=by
 have:=mP h
 have b:∀ k:Int,k.natAbs<2^(k.natAbs.log2+1):=fun k=>Nat.lt_log2_self
 exact mulOk_of (a:=i.natAbs.log2+1) (b:=j.natAbs.log2+1) (b i) (b j) (by omega)
theorem zqs(hr:aQ k X.A):aV X (Cg .FloorDiv) (rI (fun _ j=>j≠0) fun i j=>.int (i.fdiv j)):=by
 intro pins s σ H x y v u Q I rx ry h
 obtain⟨i,j,rfl,rfl,hc,q⟩:=h
 obtain⟨t,rfl⟩:=rx
 obtain⟨t',rfl⟩:=ry
 exact floordiv_int hc ⟨.int (i.fdiv j),H,I.tok _,⟨_,rfl⟩,q⟩ (.inr (I.pyl (by have:=hr.dp;omega)))
theorem kz(hr:aQ k X.A):aV X (Cg .FloorDiv) (rD X.K bH):=zv (C:=fun _ j=>j≠0) (c:=fun i j=>decide (j≠0)) (g:=fun i j=>i.fdiv j) (zqs hr) (fun i j h=>by simpa using h)
 (yz (fun _ _=>rfl) fun dx dy h=>zo (fun dx dy h=>by cases dx <;> first|rfl|exact absurd rfl (h _)) (fun i dy h=>by cases dy <;> first|rfl|exact absurd rfl (h _)) h)
theorem qQ:aV X (Cg .Mod) (rD X.K gf):=zv (C:=fun _ j=>j≠0) (c:=fun i j=>decide (j≠0)) (g:=fun i j=>i.fmod j) zqy (fun i j h=>by simpa using h)
 (yz (fun _ _=>rfl) fun dx dy h=>zo (fun dx dy h=>by cases dx <;> first|rfl|exact absurd rfl (h _)) (fun i dy h=>by cases dy <;> first|rfl|exact absurd rfl (h _)) h)
theorem kA:aV X (Cg .Pow) (rD X.K dH):=zv (C:=zdT) (c:=fun i j=>decide (0<=j)&&leB j.toNat 1000000&&leB i.natAbs 18446744073709551615) (g:=fun i j=>i^j.toNat) zqB (fun i j h=>by simp only [Bs,decide_eq_true_eq,leB_iff] at h;exact⟨h.1.1,by omega,by omega⟩)
 (yz (fun _ _=>rfl) fun dx dy h=>zo (fun dx dy h=>by cases dx <;> first|rfl|exact absurd rfl (h _)) (fun i dy h=>by cases dy <;> first|rfl|exact absurd rfl (h _)) h)
theorem zdO:uO X (unaryOp .USub) (rD1 X.K v7):=by
 intro pins s σ H x v Q I rx h
 obtain⟨dx,d,tx,e,q⟩:=h
 cases dx with
 | int i=>cases e;exact zu9 pins s σ H x v Q I rx ⟨i,tx.int,q _ H (aC.refl _) (jJ _)⟩
 | _=>exact nomatch (show(R.bad:R D)=.ok d from e)
theorem zp7(hu:X.A.units+64<BV):aV X (A3 .Eq) (rD X.K dR):=by
 intro pins s σ H x y v u Q I rx ry h
 obtain⟨dx,dy,d,tx,ty,e,q⟩:=h
 obtain⟨c,e⟩:=gM e
 ·cases e
  simp only [Bs] at c
  exact zqr hu pins s σ H x y v u Q I rx ry ⟨dx,dy,tx.is (GY c.1),ty.is (GY c.2),c.1,c.2,q _ H (aC.refl _) (mC _)⟩
theorem zqc(hu:X.A.units+64<BV):aV X (A3 .NotEq) (rD X.K b9):=by
 intro pins s σ H x y v u Q I rx ry h
 obtain⟨dx,dy,d,tx,ty,e,q⟩:=h
 obtain⟨c,e⟩:=gM e
 ·cases e
  simp only [Bs] at c
  exact zqA hu pins s σ H x y v u Q I rx ry ⟨dx,dy,tx.is (GY c.1),ty.is (GY c.2),c.1,c.2,q _ H (aC.refl _) (mC _)⟩
theorem zcL:∀ a b,FL.lexLt a b=HT.lexLt a b
 | [],[]=>rfl
 | [],_::_=>rfl
 | _::_,[]=>rfl
 | x::xs,y::ys=>by unfold FL.lexLt HT.lexLt;rw [zcL xs ys]
theorem zp6(hi:aV X (A3 op) (lB fun i j=>.bl (p i j)))
  (ht:∀{s:ir} {l b:dm} {items jn:Array gV} {ns ms:List Int} {Q:gV->ir->Prop},Dl s.heap l items->Dl s.heap b jn->CD items.toList ns->CD jn.toList ms ->
   Q (.bool (q ns ms)) s->Ax (Ay X.prog X.w) X.A (A3 op (.ref l) (.ref b)) Q X.xe s):aV X (A3 op) (rD X.K (zfA p q)):=by
 intro pins s σ H x y v u Q I rx ry h
 obtain⟨dx,dy,d,tx,ty,e,k⟩:=h
 cases dx with
 | int i =>
  cases dy with
  | int j=>cases e;exact hi pins s σ H x y v u Q I rx ry ⟨i,j,tx.int,ty.int,k _ H (aC.refl _) (mC _)⟩
  | _=>exact nomatch (show(R.bad:R D)=.ok d from e)
 | tuple a =>
  cases dy with
  | tuple b =>
   replace e:((R.of (intsOf a)).bind fun x=>(R.of (intsOf b)).bind fun y=>R.ok (Cb (q x y)))=.ok d:=e
   cases ea:intsOf a with
   | none=>rw [ea] at e;cases e
   | some ns =>
    cases eb:intsOf b with
    | none=>rw [ea,eb] at e;cases e
    | some ms =>
     rw [ea,eb] at e
     cases e
     obtain⟨l,xs,rfl,sx,fx⟩:=tx.tup
     obtain⟨m,ys,rfl,sy,fy⟩:=ty.tup
     cases rx
     cases ry
     obtain⟨rfl,_⟩:=fx.ints ea
     obtain⟨rfl,_⟩:=fy.ints eb
     obtain⟨its,r1,p1,_⟩:=I.tuple sx
     obtain⟨oz,r2,p2,_⟩:=I.tuple sy
     exact ht p1 p2 (intsAre_of r1) (intsAre_of r2) ⟨.bl (q ns ms),H,I,rfl,k _ H (aC.refl _) (mC _)⟩
  | _=>exact nomatch (show(R.bad:R D)=.ok d from e)
 | _=>exact nomatch (show(R.bad:R D)=.ok d from e)
theorem zqb(hu:X.A.units+64<BV):aV X (A3 .Lt) (rD X.K f9):=zp6 zqx fun p1 p2 i1 i2 h=>HT.zpv p1 p2 i1 i2 (by omega) (by rw [<- zcL];exact h)
theorem zc6(hi:aV X (A3 op) (lB fun i j=>.bl (p i j))):aV X (A3 op) (rD X.K (yi p)):=by
 intro pins s σ H x y v u Q I rx ry h
 obtain⟨dx,dy,d,tx,ty,e,k⟩:=h
 cases dx with
 | int i =>
  cases dy with
  | int j=>cases e;exact hi pins s σ H x y v u Q I rx ry ⟨i,j,tx.int,ty.int,k _ H (aC.refl _) (mC _)⟩
  | _=>exact nomatch (show(R.bad:R D)=.ok d from e)
 | _=>exact nomatch (show(R.bad:R D)=.ok d from e)
theorem zqa(hu:X.A.units+64<BV):aV X (A3 .LtE) (rD X.K oC):=zc6 zqw
theorem zp9(hu:X.A.units+64<BV):aV X (A3 .Gt) (rD X.K yD):=zc6 zqu
theorem zp8(hu:X.A.units+64<BV):aV X (A3 .GtE) (rD X.K mE):=zc6 zqt
theorem bo:lN X (rD X.K au):=by
 intro value slice pins s σ H x y v u Q I rx ry h hs
 obtain⟨dx,dy,d,tx,ty,e,q⟩:=h
 cases dx with
 | list a =>
  cases dy with
  | int i =>
   replace e:R.of (FL.dW a i)=.ok d:=e
   cases ea:FL.dW a i with
   | none=>rw [ea] at e;cases e
   | some d' =>
    rw [ea] at e
    cases e
    obtain⟨l,xs,rfl,sx,fx⟩:=tx.lst
    obtain⟨w,ew,fw⟩:=fx.dW ea
    exact znA value slice pins s σ H _ y v u Q I rx ry ⟨l,xs,i,w,rfl,ty.int,sx,ew,q _ H (aC.refl _) fw⟩ hs
  | _=>exact nomatch (show(R.bad:R D)=.ok d from e)
 | tuple a =>
  cases dy with
  | int i =>
   replace e:R.of (FL.dW a i)=.ok d:=e
   cases ea:FL.dW a i with
   | none=>rw [ea] at e;cases e
   | some d' =>
    rw [ea] at e
    cases e
    obtain⟨l,xs,rfl,sx,fx⟩:=tx.tup
    obtain⟨w,ew,fw⟩:=fx.dW ea
    exact znB value slice pins s σ H _ y v u Q I rx ry ⟨l,xs,i,w,rfl,ty.int,sx,ew,q _ H (aC.refl _) fw⟩ hs
  | _=>exact nomatch (show(R.bad:R D)=.ok d from e)
 | _=>exact nomatch (show(R.bad:R D)=.ok d from e)
theorem fB:zaq X (fun x H Q=>∃ d k,Tp X.K H d x/\dJ d=.ok k/\Q k H):=by
 intro pins s σ H x v Q I rx h
 obtain⟨d,k,tx,e,q⟩:=h
 refine zuZ pins s σ H x v Q I rx ⟨k,?_,q⟩
 cases d with
 | none=>have:=tx.none;subst this;cases e;rfl
 | bool b=>have:=tx.bool;subst this;cases e;rfl
 | int b=>have:=tx.int;subst this;cases e;rfl
 | list b =>
  obtain⟨a,vs,rfl,sx,fx⟩:=tx.lst
  cases e
  refine .inl ⟨vs,sx,?_⟩
  have:=fx.len
  cases b <;> cases vs <;> simp_all
 | tuple b =>
  obtain⟨a,vs,rfl,sx,fx⟩:=tx.tup
  cases e
  refine .inr (.inl ⟨vs,sx,?_⟩)
  have:=fx.len
  cases b <;> cases vs <;> simp_all
 | _=>exact nomatch (show(R.bad:R Bool)=.ok k from e)
end
end
variable {E Q:gV->ir->Prop}{k:D×En->R (Fl×En)}{w:AJ}{hi:Option Int}{prog:AK}{p:AD}{v:Option V}{g:D->R D}{f:EF}{A:AR}{items:Array gV}
section
variable [Cs]
theorem zpS:fillsNumberSlot (.type "tuple") "mul"=pure false :=
 PySem.fillsNumberSlot_seq (id:="tuple.__mul__") (r:=some (.builtin "tuple.__rmul__")) Ib.lookup (by decide +kernel) Jq.lookup (by decide +kernel)
theorem ztT:seqRepeat? (.type "tuple")=pure (some (.builtin "tuple.__mul__")):=by
 unfold seqRepeat?
 rw [PySem.seqSlot_of (T:="tuple") (name:="__mul__") (id:="tuple.__mul__") Ib.lookup (by decide +kernel),PySem.seqSlot_of (T:="tuple") (name:="__rmul__") (id:="tuple.__rmul__") Jq.lookup (by decide +kernel)]
 rfl
section
open PySem.SeqAt
open PySem.AutoSeq1 (wpAny_loadPart')
open PySem.MeetsSeq PySem.MeetsSeq2 PySem.MeetsSeq3
theorem znq(a:Int)(t:BJ)(l:dm)(items:Array gV)(n:Nat)(dd:Option dm)(sl:Array (Option gV)) :
  Meets (Ci.«int.__rmul__» ⟨[.int a t,.ref l],[]⟩) (fun _ R s=>s.heap.get? l=some { cls:=.type "tuple",dict:=dd,data:=.seq items n,slots:=sl }/\R (.ok (.ret IZ)) s) :=
 .of_wp fun prog w A R s h=>by obtain⟨hp,g,d,tk,os⟩:=s;obtain⟨hl,h⟩:=h;wp_walk;exact⟨_,rfl,h⟩
theorem zu3(l:dm)(items:Array gV)(n:Nat)(dd:Option dm)(sl:Array (Option gV))(k:Int)(t:BJ)(h0:items.isEmpty=false)(h1:2<=k)(h2:k<2^62)(h3:items.size*k.toNat<=AU) :
  Meets (Ci.«tuple.__mul__» ⟨[.ref l,.int k t],[]⟩) (fun _ R s=>s.heap.get? l=some { cls:=.type "tuple",dict:=dd,data:=.seq items n,slots:=sl } /\
   R (.ok (.ret (.ref s.heap.objs.size))) { s with heap:=s.heap.push { cls:=.type "tuple",data:=.seq ((AI k.toNat items).foldl (·++·) #[]) } }) :=
 .of_wp fun prog w A R s h=>by
  obtain⟨hp,g,d,tk,os⟩:=s;obtain⟨hl,h⟩:=h
  have f1:=AutoSeq1.idx_int
  have i0:(items.size:Int)*k<=(AU:Int):=by
   have e:((items.size*k.toNat:Nat):Int)=(items.size:Int)*k:=by rw [Ic,Int.toNat_of_nonneg (by omega)]
   rw [<- e]
   exact Int.ofNat_le.mpr h3
  have hA:¬ (decide (k < -2^63)||decide (k ≥ 2^63))=true:=by
   simp only [F3,decide_eq_true_eq,not_or]
   constructor <;> omega
  have hB:¬ (items.isEmpty||k==1)=true:=by
   rw [h0]
   simp only [Bool.false_or,beq_iff_eq]
   omega
  have hC:¬ (decide (k<=0)||items.isEmpty)=true:=by
   rw [h0]
   simp only [Bool.or_false,decide_eq_true_eq]
   omega
  have sz:(AU:Int)<=16777216:=by rw [BR];decide
  have hD:¬ (items.size:Int)*k > (2^63-1) / 8:=by omega
  have hE:¬ Jr ((items.size:Int)*k)=true:=by
   unfold Jr
   simp only [decide_eq_true_eq]
   omega
  have hs:sizeOk (.seq (FW (fun x1 x2=>x1++x2) #[] (AI k.toNat items))):=by
   obtain⟨its⟩:=items
   have:=foldl_rep its k.toNat []
   rw [BA] at this
   rw [this]
   show(AI k.toNat its).flatten.toArray.size<=AU
   rw [Bk,len_rep,FX]
   exact h3
  wp_walk
  rw [if_neg hA]
  wp_walk using Fi hl
  rw [if_neg hB]
  wp_walk
  rw [if_neg hC]
  wp_walk
  rw [if_neg hD]
  wp_walk
  rw [if_neg (show ¬ (FW (fun x1 x2=>x1++x2) #[] (AI k.toNat items)).size > AU from GU.mpr hs)]
  wp_walk
  exact⟨_,rfl,h⟩
end
section
theorem zuo{t sl:dm}{vl vu:gV}{lo:Option Int}(ht:Dl s.heap t items)(hs:s.heap.IsSliceOf sl vl vu .none)(pl:Dx vl lo)(pu:Dx vu hi)
  (hw:HT.aT items.size 0 lo=0/\HT.aT items.size items.size hi=items.size)(h:Q (.ref t) s):Ax (Ay prog w) A (DL (.ref t) (.ref sl)) Q E s:=by
 obtain⟨os,qE,og,vA⟩:=id hs
 have hTs:s.TypeIs (.ref sl) "slice":=⟨os,qE,og⟩
 unfold DL
 try with_reducible refine Cu ?_
 first|refine pd (AH ?_)|skip
 refine pd (wpAny_sequenceKey ht.typeIs (by decide) ?_)
 refine pd (D8 (name:=D9 "__getitem__") ht.typeIs Fj
  (De Fj ht.typeIs entry_tuple_getitem ?_ (args_tuple_getitem _ _)))
 show Ax _ _ (Ja (.ref t) >>= _) _ _ s
 refine pd (tupleItemsOf_ ht ?_)
 refine pd (Fm hTs ?_)
 rw [if_pos (by decide)]
 refine pd (HT.ziH hs pl pu ?_)
 show Ax _ _ (if(((HT.aT items.size 0 lo:Nat):Int)==0&&(1:Int)==1&&(HT.aT items.size items.size hi-HT.aT items.size 0 lo)==items.size)=true then _ else _) _ _ s
 rw [hw.1,hw.2,if_pos (by simp)]
 refine pd (m:=Js _) ?_
 unfold Js
 refine pd (Fm ht.typeIs (AH ?_))
 rw [if_pos (by decide)]
 exact pd (Er (pd (AH (AH ⟨_,rfl,AH h⟩))))
end
section
theorem fL:aV X (Cg .Mult) (rD X.K bf):=by
 intro pins s σ H x y v u Q I rx ry h
 obtain⟨dx,dy,d,tx,ty,e,q⟩:=h
 cases dx with
 | int i =>
  cases dy with
  | int j =>
   obtain⟨c,e⟩:=gM (show aR (vX i j) (.ok (.int (i*j)))=.ok d from e)
   cases e
   exact zqz pins s σ H x y v u Q I rx ry ⟨i,j,tx.int,ty.int,zpM c,q _ H (aC.refl _) (jJ _)⟩
  | _=>exact nomatch (show(R.bad:R D)=.ok d from e)
 | tuple a =>
  cases dy with
  | int k =>
   obtain⟨c,e⟩:=gM (show aR (!a.isEmpty&&leB 2 k.toNat&&leB k.toNat 1000000&&leB (a.length*k.toNat) lim) (.ok (.tuple (AI k.toNat a).flatten))=.ok d from e)
   cases e
   simp only [Bs,leB_iff] at c
   obtain⟨⟨⟨c0,c1⟩,c2⟩,c3⟩:=c
   obtain⟨l,xs,rfl,sx,fx⟩:=tx.tup
   have:=ty.int
   subst this
   cases rx
   obtain⟨t,rfl⟩:=ry
   obtain⟨its,r1,p1,z1⟩:=I.tuple sx
   obtain⟨⟨cls,dd,data,sl⟩,ho,hc,n,hd⟩:=id p1
   simp only at hc hd
   subst hc hd
   have hl:its.length=a.length:=by rw [<- r1.length,fx.len]
   have hz:its.length*k.toNat<=AU:=by rw [hl];exact By c3 oE
   have he:its.toArray.isEmpty=false:=by
    cases its with
    | nil=>simp only [Bg] at hl;cases a with|nil=>simp at c0|cons _ _=>simp at hl
    | cons _ _=>rfl
   refine Jd (T:="tuple") (U:="int") (by decide) ⟨_,ho,rfl⟩ (fun s'=>FU s' k t) zpS PySem.F.fills_int_mul Jt ztT PySem.F.slot_int_index.lookup
    (Ez Jt (FU s k t) PySem.F.entry_int_rmul (PySem.F.args_int_rmul_2 _ _) (znq k t l its.toArray n dd sl)
     ⟨ho,rfl,⟨_,ho,rfl⟩,Ez Ib ⟨_,ho,rfl⟩ PySem.F.entry_tuple_mul (PySem.F.args_tuple_mul_2 _ _) (zu3 l its.toArray n dd sl k t he (by omega) (by omega) (by rw [Bk];exact hz)) ⟨ho,?_⟩⟩)
   have en:=foldl_rep its k.toNat []
   rw [BA] at en
   rw [en]
   have hp:H s.heap.objs.size=none:=I.ax.fresh (AO _)
   refine⟨.ref s.heap.objs.size,_,I.laid (t':=s.toks) (o:=.tup (AI k.toNat xs).flatten) (fun b ob q=>A1 _ q) (AO _) ⟨by rw [len_rep,FX,r1.length];exact hz,_,r1.rep k.toNat,FJ _ _⟩,rfl,
    q _ _ (aC.upd hp) (yx (.inl bS) ((fx.rep k.toNat).mono (aA.of (aC.upd hp))))⟩
  | _=>exact nomatch (show(R.bad:R D)=.ok d from e)
 | _=>exact nomatch (show(R.bad:R D)=.ok d from e)
theorem zk5{ds:List α}{lo:Option Int}(h1:FL.aT ds.length 0 lo=0)(h2:FL.aT ds.length ds.length hi=ds.length):FL.cut ds lo hi=ds:=by
 unfold FL.cut
 rw [h1,h2]
 simp
theorem zV:uM X (ziv X.K):=by
 intro pins s σ H x v vl vu lo hi sl Q I rx hs pl pu h
 obtain⟨dx,d,tx,e,q⟩:=h
 cases dx with
 | list a =>
  cases e
  obtain⟨l,xs,rfl,sx,fx⟩:=tx.lst
  obtain⟨T,id,h1,h2,h3⟩:=zuk pins s σ H _ v vl vu lo hi sl (fun v H1=>∃ p,v=.ref p/\H p=none/\H1=upd H p (.lst (lW xs lo hi))) I rx hs pl pu ⟨l,xs,rfl,sx,fun p hp=>⟨p,rfl,hp,rfl⟩⟩
  exact⟨T,id,h1,h2,aE h3 fun _ _ z=>vb (fx.cut lo hi) q z⟩
 | tuple a =>
  cases e
  obtain⟨l,xs,rfl,sx,fx⟩:=tx.tup
  by_cases w:HT.aT xs.length 0 lo=0/\HT.aT xs.length xs.length hi=xs.length
  ·cases rx
   obtain⟨its,r,ht,hz⟩:=I.tuple sx
   have hlen:its.toArray.size=xs.length:=by rw [Bk];exact r.length.symm
   refine⟨"tuple",_,Fj.lookup,ht.typeIs,zuo ht hs pl pu (by rw [hlen];exact w) ⟨.ref l,H,I,rfl,q _ H (aC.refl _) ?_⟩⟩
   rw [fx.len] at w
   rw [zk5 w.1 w.2]
   exact tx
  ·exact zul pins s σ H _ v vl vu lo hi sl Q I rx hs pl pu ⟨l,xs,rfl,sx,w,fun p hp=>q _ _ (aC.upd hp) (yx (.inl bS) ((fx.cut lo hi).mono (aA.of (aC.upd hp))))⟩
 | _=>exact nomatch (show(R.bad:R D)=.ok d from e)
end
end
variable {E:XK}{s:SF}{tn:ib}
section
variable [Cs]
section
def gJ(X:Cx)(f:gV)(g:D->R D):Prop:=iu X f (rD0 X.K g)
theorem gJ.ds{f:gV}{g:D->R D}(h:gJ X f g):iu X f (wA X.K (one g)):=fun pins s σ H xs us Q I r ⟨ds,d,fz,e,q⟩=>by
 cases ds with
 | nil=>exact nomatch (show(R.bad:R D)=.ok d from e)
 | cons d0 r0 =>
  cases r0 with
  | nil =>
   simp only [ag] at fz
   obtain⟨v,r',rfl,fv,e2⟩:=fz
   subst e2
   exact h pins s σ H _ us Q I r ⟨v,d0,d,rfl,fv.tp,e,q⟩
  | cons _ _=>exact nomatch (show(R.bad:R D)=.ok d from e)
theorem qg:gJ X (.builtin "len") dh:=by
 intro pins s σ H xs us Q I r h
 obtain⟨x,dx,d,rfl,tx,e,q⟩:=h
 cases dx with
 | list a=>obtain⟨p,vs,rfl,sx,fx⟩:=tx.lst;cases e;exact zfm pins s σ H _ us Q I r ⟨p,vs,rfl,.inl sx,by rw [fx.len];exact q _ H (aC.refl _) (jJ _)⟩
 | tuple a=>obtain⟨p,vs,rfl,sx,fx⟩:=tx.tup;cases e;exact zfm pins s σ H _ us Q I r ⟨p,vs,rfl,.inr sx,by rw [fx.len];exact q _ H (aC.refl _) (jJ _)⟩
 | _=>exact nomatch (show(R.bad:R D)=.ok d from e)
theorem zaN:gJ X (.builtin "abs") j3:=by
 intro pins s σ H xs us Q I r h
 obtain⟨x,dx,d,rfl,tx,e,q⟩:=h
 cases dx with
 | int i=>have:=tx.int;subst this;cases e;exact zkK pins s σ H _ us Q I r ⟨i,rfl,q _ H (aC.refl _) (jJ _)⟩
 | _=>exact nomatch (show(R.bad:R D)=.ok d from e)
theorem zkF(hc:X.calm=true):gJ X (.builtin "sum") ziP:=by
 intro pins s σ H xs us Q I r h
 obtain⟨x,dx,d,rfl,tx,e,q⟩:=h
 cases dx with
 | list a =>
  obtain⟨p,vs,rfl,sx,fx⟩:=tx.lst
  replace e:((R.of (intsOf a)).bind fun x=>R.ok (Bi x.sum))=.ok d:=e
  cases ea:intsOf a with
  | none=>rw [ea] at e;cases e
  | some ns =>
   rw [ea] at e
   cases e
   obtain⟨rfl,_⟩:=fx.ints ea
   exact zkQ hc pins s σ H _ us Q I r ⟨p,ns,rfl,sx,q _ H (aC.refl _) (jJ _)⟩
 | _=>exact nomatch (show(R.bad:R D)=.ok d from e)
theorem zfe(hc:X.calm=true):gJ X (.builtin "all") r6:=by
 intro pins s σ H xs us Q I r h
 obtain⟨x,dx,d,rfl,tx,e,q⟩:=h
 cases dx with
 | list a =>
  obtain⟨p,vs,rfl,sx,fx⟩:=tx.lst
  replace e:((R.of (boolsOf a)).bind fun x=>R.ok (Cb (x.all id)))=.ok d:=e
  cases ea:boolsOf a with
  | none=>rw [ea] at e;cases e
  | some ns =>
   rw [ea] at e
   cases e
   obtain⟨rfl,_⟩:=fx.bools ea
   exact zkL hc pins s σ H _ us Q I r ⟨p,ns,rfl,sx,q _ H (aC.refl _) (mC _)⟩
 | _=>exact nomatch (show(R.bad:R D)=.ok d from e)
theorem uV:gJ X (.type "list") fZ:=by
 intro pins s σ H xs us Q I r h
 obtain⟨x,dx,d,rfl,tx,e,q⟩:=h
 cases dx with
 | list a =>
  obtain⟨p,vs,rfl,sx,fx⟩:=tx.lst
  cases e
  exact aE (zaS pins s σ H _ us (fun v H1=>∃ p,v=.ref p/\H p=none/\H1=upd H p (.lst vs)) I r ⟨p,vs,rfl,.inl sx,fun l hl=>⟨l,rfl,hl,rfl⟩⟩) fun _ _ z=>vb fx q z
 | tuple a =>
  obtain⟨p,vs,rfl,sx,fx⟩:=tx.tup
  cases e
  exact aE (zaS pins s σ H _ us (fun v H1=>∃ p,v=.ref p/\H p=none/\H1=upd H p (.lst vs)) I r ⟨p,vs,rfl,.inr sx,fun l hl=>⟨l,rfl,hl,rfl⟩⟩) fun _ _ z=>vb fx q z
 | _=>exact nomatch (show(R.bad:R D)=.ok d from e)
theorem zaR:gJ X (.type "tuple") fR:=by
 intro pins s σ H xs us Q I r h
 obtain⟨x,dx,d,rfl,tx,e,q⟩:=h
 cases dx with
 | list a =>
  obtain⟨p,vs,rfl,sx,fx⟩:=tx.lst
  cases e
  exact zfn pins s σ H _ us Q I r ⟨p,vs,rfl,.inl ⟨sx,fun l hl=>q _ _ (aC.upd hl) (yx (.inl bS) (fx.mono (aA.of (aC.upd hl))))⟩⟩
 | tuple a =>
  obtain⟨p,vs,rfl,sx,fx⟩:=tx.tup
  cases e
  exact zfn pins s σ H _ us Q I r ⟨p,vs,rfl,.inr ⟨sx,q _ H (aC.refl _) tx⟩⟩
 | _=>exact nomatch (show(R.bad:R D)=.ok d from e)
end
theorem Tp.ty{K:kb}{x:V}(c:zi6 d=true)(h:Tp K H d x):Ty K H x (.type (zdN d)):=by
 cases d with
 | none=>have:=h.none;subst this;exact .non
 | bool b=>have:=h.bool;subst this;exact .bl b
 | int b=>have:=h.int;subst this;exact .int b
 | str b =>
  have:x=.str b:=by simpa [Tp,Fz] using h
  subst this;exact .str b
 | list b=>obtain⟨_,_,rfl,s,_⟩:=h.lst;exact .lst s
 | tuple b=>obtain⟨_,_,rfl,s,_⟩:=h.tup;exact .tup s
 | dict b=>cases c
def nC(T:String):Prop:=∀(K:kb) (d:D),Bh K (.type (zdN d)) (.type T)=some (cL T d)
theorem zc(h0:KC.cS "NoneType" T=some (cL T .none)) (h1:∀ b,KC.cS "bool" T=some (cL T (.bool b))) (h2:∀ b,KC.cS "int" T=some (cL T (.int b))) (h3:∀ b,KC.cS "str" T=some (cL T (.str b))) (h4:∀ b,KC.cS "list" T=some (cL T (.list b)))
  (h5:∀ b,KC.cS "tuple" T=some (cL T (.tuple b))) (h6:∀ b,KC.cS "dict" T=some (cL T (.dict b))):nC T:=fun K d=>by
 cases d with
 | none=>exact h0
 | bool b=>exact h1 b
 | int b=>exact h2 b
 | str b=>exact h3 b
 | list b=>exact h4 b
 | tuple b=>exact h5 b
 | dict b=>exact h6 b
theorem zgU:nC "int":=zc (by decide +kernel) (fun _=>(by decide +kernel:KC.cS "bool" "int"=some (cL "int" (.bool true)))) (fun _=>(by decide +kernel:KC.cS "int" "int"=some (cL "int" (.int 0)))) (fun _=>(by decide +kernel:KC.cS "str" "int"=some (cL "int" (.str "")))) (fun _=>(by decide +kernel:KC.cS "list" "int"=some (cL "int" (.list [])))) (fun _=>(by decide +kernel:KC.cS "tuple" "int"=some (cL "int" (.tuple [])))) (fun _=>(by decide +kernel:KC.cS "dict" "int"=some (cL "int" (.dict []))))
theorem zb:nC "bool":=zc (by decide +kernel) (fun _=>(by decide +kernel:KC.cS "bool" "bool"=some (cL "bool" (.bool true)))) (fun _=>(by decide +kernel:KC.cS "int" "bool"=some (cL "bool" (.int 0)))) (fun _=>(by decide +kernel:KC.cS "str" "bool"=some (cL "bool" (.str "")))) (fun _=>(by decide +kernel:KC.cS "list" "bool"=some (cL "bool" (.list [])))) (fun _=>(by decide +kernel:KC.cS "tuple" "bool"=some (cL "bool" (.tuple [])))) (fun _=>(by decide +kernel:KC.cS "dict" "bool"=some (cL "bool" (.dict []))))
theorem kit_tuple:nC "tuple":=zc (by decide +kernel) (fun _=>(by decide +kernel:KC.cS "bool" "tuple"=some (cL "tuple" (.bool true)))) (fun _=>(by decide +kernel:KC.cS "int" "tuple"=some (cL "tuple" (.int 0)))) (fun _=>(by decide +kernel:KC.cS "str" "tuple"=some (cL "tuple" (.str "")))) (fun _=>(by decide +kernel:KC.cS "list" "tuple"=some (cL "tuple" (.list [])))) (fun _=>(by decide +kernel:KC.cS "tuple" "tuple"=some (cL "tuple" (.tuple [])))) (fun _=>(by decide +kernel:KC.cS "dict" "tuple"=some (cL "tuple" (.dict []))))
theorem zgV:nC "list":=zc (by decide +kernel) (fun _=>(by decide +kernel:KC.cS "bool" "list"=some (cL "list" (.bool true)))) (fun _=>(by decide +kernel:KC.cS "int" "list"=some (cL "list" (.int 0)))) (fun _=>(by decide +kernel:KC.cS "str" "list"=some (cL "list" (.str "")))) (fun _=>(by decide +kernel:KC.cS "list" "list"=some (cL "list" (.list [])))) (fun _=>(by decide +kernel:KC.cS "tuple" "list"=some (cL "list" (.tuple [])))) (fun _=>(by decide +kernel:KC.cS "dict" "list"=some (cL "list" (.dict []))))
section
variable {K:kb}{a:Av}
theorem zsi(kt:nC T)(hg:Gl X "isinstance") (hm:X.mg "isinstance"=none) (vD:Gl X tn) (jk:X.mg tn=none) (vM:Bo tn=some (.type T)) (ha:PV K X a f) (hn:tn ≠ "__name__":=by decide) (hd:(tn==("__debug__":ib))=false:=by decide)
  (iS:Aw [a,.Name tn p2] X.env=(false,AB a X.env)::Aw [.Name tn p2] X.env:=by exact FL.se rfl) (cK:Aw [.Name tn p2] X.env=(false,AB (.Name tn p2) X.env)::Aw [] X.env:=by exact FL.se rfl) (aX:(A7 pos (Aw [.Name tn p2] X.env)).any (·.1)=false:=by exact FL.sp rfl) :
  PV K X (.Call (.Name "isinstance" p) [a,.Name tn p2] [] pos) (e1 (dZ T) f):=.mk fun hK=>by
 subst hK
 refine(wj (x:="isinstance") (id:="isinstance") zfl hg hm KC.Bt.isinstance (gm (ha rfl) (gm (zde vD jk vM hn hd) jq cK) iS) (by decide) (by decide) iS aX).weak fun σ H Q=>?_
 rintro⟨ρ,rel,q⟩
 refine eG rel q fun dx ρ1 x H1 ah aG fx q1=>?_
 obtain⟨d,ed,q3⟩:=q1.bQ
 obtain⟨c,ed⟩:=gM ed
 cases ed
 exact⟨x,.ty T,_,_,rfl,(fun z=>nomatch z),fx.tp.ty c,kt X.K dx,q3.now ah _ (mC _)⟩
theorem wt{f:EF}(h:PV K X e (ak (one g) (aa f af))):PV K X e (e1 g f):=.mk fun hK=>(h hK).weak fun σ H Q=>by
 rintro⟨ρ,rel,q⟩
 refine⟨ρ,rel,?_⟩
 have:ak (one g) (aa f af) ρ=e1 g f ρ:=by
  unfold ak aa af e1
  cases f ρ with
  | ok x=>rfl
  | _=>rfl
 rw [this]
 exact q
end
end
variable {i:Nat}{y:ib}{py:AD}{g:D->D->R D}
section
variable [Cs]
section
variable {K:kb}
theorem zcW(h:bw ρ i=.ok d):∃ p,ρ[i]?=some (.ow p d):=by
 unfold bw at h
 cases e:ρ[i]? with
 | none=>rw [e] at h;cases h
 | some x =>
  rw [e] at h
  cases x with
  | ow p c=>cases h;exact⟨p,rfl⟩
  | _=>cases h
theorem Rel.jO(r:Rel K ρ σ H)(h:bw ρ i=.ok d):∃ a,At ρ σ i a/\cO K H a d:=by
 obtain⟨p,e⟩:=zcW h
 have hl:i<σ.length:=by rw [<- r.len];exact(Bf.mp e).1
 have o:=r.ok i _ _ e (Be hl)
 cases es:σ[i] with
 | none=>rw [es] at o;exact o.elim
 | some v =>
  rw [es] at o
  cases v with
  | ref a=>exact⟨a,⟨⟨p,d,e⟩,by rw [Be hl,es]⟩,o⟩
  | _=>exact o.elim
theorem Rel.again(r:Rel K ρ1 σ H1)(h:bw ρ1 i=.ok d)(bj:At ρ σ i a):cO K H1 a d:=by
 obtain⟨b,ab,m⟩:=r.jO h
 have:=bj.2.symm.trans ab.2
 cases this
 exact m
theorem Rel.zr5(r:Rel K ρ σ H)(bj:At ρ σ i a)(m:cO K (upd H a o) a d):Rel K (eh ρ i d) σ (upd H a o):=by
 obtain⟨⟨p,c,e⟩,es⟩:=bj
 have hp:eh ρ i d=ρ.set i (.ow p d):=by unfold eh;rw [e]
 obtain⟨u,hu,ow⟩:=r.eJ ⟨i,⟨p,c,e⟩,es⟩
 have f:aA H (upd H a o):=fun b w eb st=>by
  rw [aJ fun z=>by subst z;rw [hu] at eb;cases eb;exact ow.jo st]
  exact eb
 have hl:i<ρ.length:=(Bf.mp e).1
 rw [hp]
 refine⟨by rw [CI];exact r.len,fun j x v e1 e2=>?_,fun j k b h1 h2=>?_,r.cst.mono f⟩
 ·by_cases c:i=j
  ·subst c
   rw [Bj hl] at e1
   cases e1
   rw [es] at e2
   cases e2
   exact m
  ·rw [Bl c] at e1
   refine(r.ok j x v e1 e2).mono f fun b e3 ⟨q,dd,e4⟩=>?_
   subst e3;subst e4
   refine aJ fun z=>?_
   subst z
   exact c (r.sep i j b ⟨⟨p,_,e⟩,es⟩ ⟨⟨q,dd,e1⟩,e2⟩)
 ·have w:∀ j b,At (ρ.set i (.ow p d)) σ j b->At ρ σ j b:=fun j b ⟨⟨q,dd,e1⟩,e2⟩=>by
   by_cases c:i=j
   ·subst c;exact⟨⟨p,_,e⟩,e2⟩
   ·rw [Bl c] at e1;exact⟨⟨q,dd,e1⟩,e2⟩
  exact r.sep j k b (w _ _ h1) (w _ _ h2)
theorem ziN(bj:At ρ σ i a):cu ρ (eh ρ i d) σ H (upd H a o):=by
 obtain⟨⟨p,c,e⟩,es⟩:=bj
 have hp:eh ρ i d=ρ.set i (.ow p d):=by unfold eh;rw [e]
 have hl:i<ρ.length:=(Bf.mp e).1
 rw [hp]
 refine⟨fun j q=>?_,fun b w eb n=>?_⟩
 ·by_cases c:i=j
  ·subst c
   rw [Bj hl,e]
   constructor
   ·rintro⟨_,z⟩;cases z;exact⟨_,rfl⟩
   ·rintro⟨_,z⟩;cases z;exact⟨_,rfl⟩
  ·rw [Bl c]
 ·rw [aJ fun z=>by subst z;exact n ⟨i,⟨p,c,e⟩,es⟩]
  exact eb
end
section
variable {K:kb}{a c:Av}{k:EF}
theorem zgq{g:D->R D}(hr:∀ xs H Q,rD0 K g xs H Q->r xs H Q)(σ:L2.St)(H:Hp)(Q:VK)(q:tV K (m1 g i) σ H Q):zY r (ziQ (bL i) ziT) σ H Q:=by
 obtain⟨ρ,rel,q⟩:=q
 obtain⟨d,ed,q1⟩:=q.bQ
 obtain⟨x,ex,q2⟩:=q1.bQ
 obtain⟨ad,bj,m⟩:=rel.jO ed
 exact⟨.ref ad,bj.2,hr _ _ _ ⟨.ref ad,d,x,rfl,m.tp,ex,fun v H' s fz=>q2.new rel s v fz⟩⟩
theorem zsk{id:String}{g:D->R D}(i:Nat)(hc:gJ X (.builtin id) g)(hg:Gl X x)(hm:X.mg x=none)(hv:Bo x=some (.builtin id))(ha:PE X (.Name y py) (bL i))(hn:x ≠ "__name__":=by decide) (bz:(x==("__debug__":ib))=false:=by decide) :
  PV K X (.Call (.Name x p) [.Name y py] [] pos) (m1 g i):=.mk fun hK=>by
 subst hK
 exact(wj hc hg hm hv (gm ha jq) hn bz).weak fun σ H Q q=>zgq (fun _ _ _ z=>z) σ H Q q
theorem zsl{g:D->R D}(i:Nat)(hc:gJ X (.type T) g)(hg:Gl X x)(hm:X.mg x=none)(hv:Bo x=some (.type T))(ha:PE X (.Name y py) (bL i))(hn:x ≠ "__name__":=by decide) (bz:(x==("__debug__":ib))=false:=by decide) :
  PV K X (.Call (.Name x p) [.Name y py] [] pos) (m1 g i):=.mk fun hK=>by
 subst hK
 exact(zdd hc hg hm hv (gm ha jq) hn bz).weak fun σ H Q q=>zgq (fun _ _ _ z=>z) σ H Q q
theorem zgr{r:R2}(hr:∀ x y H Q,rD K g x y H Q->r x y H Q)(σ:L2.St)(H:Hp)(Q:VK)(q:tV K (m2 g i h) σ H Q):rF r (bL i) (tV K h) σ H Q:=by
 obtain⟨ρ,rel,q⟩:=q
 obtain⟨d,ed,q1⟩:=q.bQ
 obtain⟨ad,bj,m⟩:=rel.jO ed
 refine⟨.ref ad,bj.2,eG rel q1 fun dy ρ1 y H1 ah aG fy q2=>?_⟩
 obtain⟨d2,u6,q3⟩:=q2.bQ
 obtain⟨x,ex,q4⟩:=q3.bQ
 exact hr _ _ _ _ ⟨d2,dy,x,(ah.again u6 bj).tp,fy.tp,ex,fun v H' s fz=>q4.new ah s v fz⟩
theorem zsR(i:Nat)(ho:aV X (A3 op) (rD X.K g))(ha:PE X (.Name y py) (bL i))(hb:PV K X b h)(hm:CP op b=false):fc K X (.Compare (.Name y py) [op] [b] pos) (tB (m2 g i h)):=.mk fun hK=>by
 subst hK
 exact(zdm ho ha (hb rfl) hm).weak fun σ H Q q=>yB (fun σ H Q z=>zgr (fun _ _ _ _ z=>z) σ H Q z) σ H Q q
theorem zsm(i:Nat)(ho:lN X (rD X.K g))(ha:PE X (.Name y py) (bL i))(hb:PV K X b h)(hs:xt b:=by exact fun _ _=>rfl):PV K X (.Subscript (.Name y py) b pos) (m2 g i h):=.mk fun hK=>by
 subst hK
 exact(zhV ho ha (hb rfl) hs).weak fun σ H Q q=>zgr (fun _ _ _ _ z=>z) σ H Q q
theorem zmT{r:R2}(hr:∀ x y H Q,rD K g x y H Q->r x y H Q)(σ:L2.St)(H:Hp)(Q:VK)(q:tV K (iU g f i) σ H Q):rF r (tV K f) (bL i) σ H Q:=by
 obtain⟨ρ,rel,q⟩:=q
 refine eG rel q fun dx ρ1 x H1 ah aG fx q2=>?_
 obtain⟨d2,u6,q3⟩:=q2.bQ
 obtain⟨x,ex,q4⟩:=q3.bQ
 obtain⟨ad,bj,m⟩:=ah.jO u6
 exact⟨.ref ad,bj.2,hr _ _ _ _ ⟨dx,d2,x,fx.tp,m.tp,ex,fun v H' s fz=>q4.new ah s v fz⟩⟩
theorem zsS(i:Nat)(ho:aV X (A3 op) (rD X.K g))(ha:PV K X a f)(hb:PE X (.Name y py) (bL i))(hm:CP op (.Name y py)=false):fc K X (.Compare a [op] [.Name y py] pos) (tB (iU g f i)):=.mk fun hK=>by
 subst hK
 exact(zdm ho (ha rfl) hb hm).weak fun σ H Q q=>yB (fun σ H Q z=>zmT (fun _ _ _ _ z=>z) σ H Q z) σ H Q q
theorem zsj(i:Nat)(kt:nC T)(hg:Gl X "isinstance") (hm:X.mg "isinstance"=none) (vD:Gl X tn) (jk:X.mg tn=none) (vM:Bo tn=some (.type T)) (ha:PE X (.Name y py) (bL i)) (hn:tn ≠ "__name__":=by decide) (hd:(tn==("__debug__":ib))=false:=by decide)
  (iS:Aw [.Name y py,.Name tn p2] X.env=(false,AB (.Name y py) X.env)::Aw [.Name tn p2] X.env:=by exact FL.se rfl) (cK:Aw [.Name tn p2] X.env=(false,AB (.Name tn p2) X.env)::Aw [] X.env:=by exact FL.se rfl) (aX:(A7 pos (Aw [.Name tn p2] X.env)).any (·.1)=false:=by exact FL.sp rfl) :
  PV K X (.Call (.Name "isinstance" p) [.Name y py,.Name tn p2] [] pos) (m1 (dZ T) i):=.mk fun hK=>by
 subst hK
 refine(wj (x:="isinstance") (id:="isinstance") zfl hg hm KC.Bt.isinstance (gm ha (gm (zde vD jk vM hn hd) jq cK) iS) (by decide) (by decide) iS aX).weak fun σ H Q=>?_
 rintro⟨ρ,rel,q⟩
 obtain⟨d,ed,q1⟩:=q.bQ
 obtain⟨x,ex,q2⟩:=q1.bQ
 obtain⟨ad,bj,m⟩:=rel.jO ed
 obtain⟨c,ex⟩:=gM ex
 cases ex
 exact⟨.ref ad,bj.2,.ref ad,.ty T,_,_,rfl,(fun z=>nomatch z),m.tp.ty c,kt X.K d,q2.now rel _ (mC _)⟩
end
end
variable {ke tg:Av}{pos':AD}{tc:TF}{c:List D}{gs:List GF}{g:GF}{dom:List Nat}{r:R (Fl×En)}{C:SC}
section
variable [Cs]
structure SC where
 H₀:Hp
 σ₀:L2.St
 ρ₀:En
structure bF(K:kb)(C:SC)(ρ:En)(σ:L2.St)(H:Hp):Prop where
 rel:Rel K ρ σ H
 keep:∀ a o,C.H₀ a=some o->¬ MA C.ρ₀ C.σ₀ a->H a=some o
 own:∀(i:Nat) a d,ρ[i]?=some (.ow false d)->σ[i]?=some (some (.ref a))->C.H₀ a=none
 pin:∀(i:Nat),(∃ d,ρ[i]?=some (.ow true d))↔∃ d,C.ρ₀[i]?=some (.ow true d)
 fix:∀(i:Nat) d,ρ[i]?=some (.ow true d)->σ[i]?=C.σ₀[i]?
 lu:∀(i:Nat) p d,C.ρ₀[i]?=some (.ow p d)->p=true
section
variable {K:kb}{σ1:L2.St}
theorem bF.zm(r:bF K C ρ σ H)(e:C.H₀ a=some o)(n:¬ MA C.ρ₀ C.σ₀ a):¬ MA ρ σ a:=by
 rintro⟨i,⟨p,d,e1⟩,e2⟩
 cases p with
 | false=>rw [r.own i a d e1 e2] at e;cases e
 | true =>
  obtain⟨d0,e0⟩:=(r.pin i).mp ⟨d,e1⟩
  exact n ⟨i,⟨true,d0,e0⟩,by rw [<- r.fix i d e1];exact e2⟩
theorem bF.step(r:bF K C ρ σ H)(rel:Rel K ρ1 σ H1)(st:cu ρ ρ1 σ H H1):bF K C ρ1 σ H1 where
 rel:=rel
 keep:=fun a o e n=>st.kp a o (r.keep a o e n) (r.zm e n)
 own:=fun i a d e1 e2=>by
  obtain⟨d',e'⟩:=(st.md i false).mpr ⟨d,e1⟩
  exact r.own i a d' e' e2
 pin:=fun i=>(st.md i true).symm.trans (r.pin i)
 fix:=fun i d e=>by
  obtain⟨d',e'⟩:=(st.md i true).mpr ⟨d,e⟩
  exact r.fix i d' e'
 lu:=r.lu
def kI(dom:List Nat)(ρ ρ1:En)(σ σ1:L2.St):Prop:=σ1.length=σ.length/\∀(i:Nat),(ρ1[i]?=ρ[i]?/\σ1[i]?=σ[i]?)\/(i∈dom/\(∃ d,ρ1[i]?=some (.val d))/\∀ e,ρ[i]?≠some (.ow true e))
theorem kI.refl:kI dom ρ ρ σ σ:=⟨rfl,fun _=>.inl ⟨rfl,rfl⟩⟩
theorem kI.trans{d1 d2:List Nat}{ρ2:En}{σ2:L2.St}(a:kI d1 ρ ρ1 σ σ1)(b:kI d2 ρ1 ρ2 σ1 σ2):kI (d1++d2) ρ ρ2 σ σ2:=⟨b.1.trans a.1,fun i=>by
 rcases b.2 i with⟨b1,b2⟩|⟨bm,b1,b2⟩
 ·rcases a.2 i with⟨a1,a2⟩|⟨am,a1,a2⟩
  ·exact .inl ⟨b1.trans a1,b2.trans a2⟩
  ·exact .inr ⟨El _ am,by rw [b1];exact a1,a2⟩
 ·rcases a.2 i with⟨a1,a2⟩|⟨am,a1,a2⟩
  ·exact .inr ⟨Cp _ bm,b1,fun e z=>b2 e (by rw [a1];exact z)⟩
  ·exact .inr ⟨El _ am,b1,a2⟩⟩
theorem bF.chg(r:bF K C ρ σ H)(rel:Rel K ρ1 σ1 H)(c:kI dom ρ ρ1 σ σ1):bF K C ρ1 σ1 H where
 rel:=rel
 keep:=r.keep
 own:=fun i a d e1 e2=>by
  rcases c.2 i with⟨c1,c2⟩|⟨_,⟨d',c1⟩,c2⟩
  ·exact r.own i a d (by rw [<- c1];exact e1) (by rw [<- c2];exact e2)
  ·rw [c1] at e1;cases e1
 pin:=fun i=>by
  rcases c.2 i with⟨c1,c2⟩|⟨_,⟨d',c1⟩,c2⟩
  ·rw [c1];exact r.pin i
  ·rw [c1,<- r.pin i]
   constructor
   ·rintro⟨_,z⟩;cases z
   ·rintro⟨d,z⟩;exact absurd z (c2 d)
 fix:=fun i d e=>by
  rcases c.2 i with⟨c1,c2⟩|⟨_,⟨d',c1⟩,c2⟩
  ·rw [c2];exact r.fix i d (by rw [<- c1];exact e)
  ·rw [c1] at e;cases e
 lu:=r.lu
theorem bF.fresh(r:bF K C ρ σ H)(ha:H a=none):C.H₀ a=none:=by
 cases e0:C.H₀ a with
 | none=>rfl
 | some o =>
  by_cases k:MA C.ρ₀ C.σ₀ a
  ·obtain⟨i,⟨p,d0,e1⟩,e2⟩:=k
   have:=r.lu i p d0 e1
   subst this
   obtain⟨d2,e3⟩:=(r.pin i).mpr ⟨d0,e1⟩
   obtain⟨o',e',_⟩:=r.rel.eJ ⟨i,⟨true,d2,e3⟩,by rw [r.fix i d2 e3];exact e2⟩
   rw [ha] at e';cases e'
  ·rw [r.keep a o e0 k] at ha;cases ha
def dE(K:kb)(C:SC)(H:Hp)(r:R (Fl×En))(Dn:Ends):Prop:=match r with
 | .ok x=>match x.1 with
  | .nx=>∀ σ' H',bF K C x.2 σ' H'->aA H H'->Dn.nx σ' H'
  | .bk=>∀ σ' H',bF K C x.2 σ' H'->aA H H'->Dn.bk σ' H'
  | .ct=>∀ σ' H',bF K C x.2 σ' H'->aA H H'->Dn.ct σ' H'
  | .rt d=>∀ v σ' H',bF K C x.2 σ' H'->Fz K H' d v->Dn.rt v H'
  | .rf d=>∀ a σ' H',bF K C x.2 σ' H'->C.H₀ a=none->cO K H' a d->Dn.rt (.ref a) H'
 | _=>False
theorem dE.step{Dn:Ends}(f:aA H H1)(g:dE K C H r Dn):dE K C H1 r Dn:=by
 cases r with
 | ok x =>
  obtain⟨fl,ρ⟩:=x
  cases fl with
  | nx=>exact fun σ' H' r z=>g σ' H' r (f.trans z)
  | bk=>exact fun σ' H' r z=>g σ' H' r (f.trans z)
  | ct=>exact fun σ' H' r z=>g σ' H' r (f.trans z)
  | rt d=>exact g
  | rf d=>exact g
 | _=>exact g
theorem dE.bU{r:R β}{k:β->R (Fl×En)}{Dn:Ends}(g:dE K C H (r.bind k) Dn):∃ x,r=.ok x/\dE K C H (k x) Dn:=by
 cases r with
 | ok x=>exact⟨x,rfl,g⟩
 | _=>exact g.elim
noncomputable def tS(K:kb)(C:SC)(f:SF):TS:=fun Dn σ H=>∃ ρ,bF K C ρ σ H/\dE K C H (f ρ) Dn
theorem ki{S:VK}{Dn:Ends}(rel:bF K C ρ σ H)(g:dE K C H ((f ρ).bind k) Dn)
  (h:∀ d ρ1 v H1,bF K C ρ1 σ H1->cu ρ ρ1 σ H H1->Fz K H1 d v->dE K C H1 (k (d,ρ1)) Dn->S v H1):tV K f σ H S:=by
 obtain⟨x,e,g1⟩:=g.bU
 refine⟨ρ,rel.rel,?_⟩
 rw [e]
 exact fun H' r s v fz=>h x.1 x.2 v H' (rel.step r s) s fz (g1.step (s.cJ rel.rel))
theorem zbU{f:TF}{k:Bool×En->R (Fl×En)}{Dn:Ends}(rel:bF K C ρ σ H)(g:dE K C H ((f ρ).bind k) Dn)
  (h:∀ b ρ1 H1,bF K C ρ1 σ H1->aA H H1->dE K C H1 (k (b,ρ1)) Dn->S b H1):tT K f σ H S:=by
 obtain⟨x,e,g1⟩:=g.bU
 refine⟨ρ,rel.rel,?_⟩
 rw [e]
 exact fun H' r s=>h x.1 x.2 H' (rel.step r s) (s.cJ rel.rel) (g1.step (s.cJ rel.rel))
theorem zgs{S:VK}{Dn:Ends}(rel:bF K C ρ σ H)(g:dE K C H ((f ρ).bind k) Dn)
  (h:∀ d ρ1 a H1,bF K C ρ1 σ H1->aA H H1->H a=none->¬ MA ρ1 σ a->cO K H1 a d->dE K C H1 (k (d,ρ1)) Dn->S (.ref a) H1):tN K f σ H S:=by
 obtain⟨x,e,g1⟩:=g.bU
 refine⟨ρ,rel.rel,?_⟩
 rw [e]
 refine fun H' r s a ha m=>h x.1 x.2 a H' (rel.step r s) (s.cJ rel.rel) ha (fun z=>?_) m (g1.step (s.cJ rel.rel))
 obtain⟨o',e',_⟩:=rel.rel.eJ (s.ma.mpr z)
 rw [ha] at e';cases e'
end
structure cN(K:kb)(X:Cx)(st:AQ)(f:SF):Prop where
 run:X.K=K->∀ C,PS X st (tS K C f)
instance {K:kb} {X:Cx} {st:AQ} {f:SF}:CoeFun (cN K X st f) fun _=>X.K=K->∀ C,PS X st (tS K C f):=⟨cN.run⟩
structure eO(K:kb)(X:Cx)(st:List AQ)(f:SF):Prop where
 run:X.K=K->∀ C,bW X st (tS K C f)
instance {K:kb} {X:Cx} {st:List AQ} {f:SF}:CoeFun (eO K X st f) fun _=>X.K=K->∀ C,bW X st (tS K C f):=⟨eO.run⟩
theorem _root_.L2.PS.weak{e:AQ}{t t':TS}(h:PS X e t)(w:∀ Dn σ H,t' Dn σ H->t Dn σ H):PS X e t':=fun pins s σ H Dn I q=>h pins s σ H Dn I (w Dn σ H q)
theorem _root_.L2.bW.weak{e:List AQ}{t t':TS}(h:bW X e t)(w:∀ Dn σ H,t' Dn σ H->t Dn σ H):bW X e t':=fun pins s σ H Dn I q=>h pins s σ H Dn I (w Dn σ H q)
noncomputable def tG(K:kb)(dom:List Nat)(g:GF):TG:=fun v σ H Q=>∃ ρ d ρ1,Rel K ρ σ H/\Fz K H d v/\g d ρ=.ok ρ1/\∀ σ1,Rel K ρ1 σ1 H->kI dom ρ ρ1 σ σ1->Q σ1 H
noncomputable def tGs(K:kb)(dom:List Nat)(gs:List GF):lQ:=fun vs σ H Q=>∃ ρ ds ρ1,Rel K ρ σ H/\ag K H ds vs/\h9 gs ds ρ=.ok ρ1/\∀ σ1,Rel K ρ1 σ1 H->kI dom ρ ρ1 σ σ1->Q σ1 H
structure hJ(K:kb)(X:Cx)(dom:List Nat)(e:Av)(g:GF):Prop where
 run:X.K=K->PG X e (tG K dom g)
instance {K:kb} {X:Cx} {dom:List Nat} {e:Av} {g:GF}:CoeFun (hJ K X dom e g) fun _=>X.K=K->PG X e (tG K dom g):=⟨hJ.run⟩
structure rW(K:kb)(X:Cx)(dom:List Nat)(e:List Av)(g:List GF):Prop where
 run:X.K=K->lO X e (tGs K dom g)
instance {K:kb} {X:Cx} {dom:List Nat} {e:List Av} {g:List GF}:CoeFun (rW K X dom e g) fun _=>X.K=K->lO X e (tGs K dom g):=⟨rW.run⟩
theorem _root_.L2.PG.weak{t t':TG}(h:PG X e t)(w:∀ v σ H Q,t' v σ H Q->t v σ H Q):PG X e t':=fun pins s σ H v u Q I r q=>h pins s σ H v u Q I r (w v σ H Q q)
theorem _root_.L2.lO.weak{e:List Av}{t t':lQ}(h:lO X e t)(w:∀ v σ H Q,t' v σ H Q->t v σ H Q):lO X e t':=fun pins s σ H v u Q I r q=>h pins s σ H v u Q I r (w v σ H Q q)
theorem Rel.set{K:kb}{ρ:En}{σ:L2.St}{H:Hp}{i:Nat}{x:Sl}{v:Option V}(r:Rel K ρ σ H)(o:gA K H x v)(s:∀ a p d,x=.ow p d->v=some (.ref a)->¬ MA ρ σ a):Rel K (ρ.set i x) (σ.set i v) H:=by
 refine⟨by rw [CI,CI];exact r.len,fun j y w e1 e2=>?_,fun j k b h1 h2=>?_,r.cst⟩
 ·by_cases c:i=j
  ·subst c
   by_cases hl:i<ρ.length
   ·rw [Bj hl] at e1
    rw [Bj (by rw [<- r.len];exact hl)] at e2
    cases e1;cases e2
    exact o
   ·rw [Ju (by rw [CI];omega)] at e1;cases e1
  ·rw [Bl c] at e1 e2
   exact r.ok j y w e1 e2
 ·have w:∀ j b,At (ρ.set i x) (σ.set i v) j b->(j=i/\(∃ p d,x=.ow p d)/\v=some (.ref b))\/(j≠i/\At ρ σ j b):=fun j b ⟨⟨q,dd,e1⟩,e2⟩=>by
   by_cases c:i=j
   ·subst c
    have hl:i<ρ.length:=by
     have:=(Bf.mp e1).1
     rwa [CI] at this
    rw [Bj hl] at e1
    rw [Bj (by rw [<- r.len];exact hl)] at e2
    cases e1;cases e2
    exact .inl ⟨rfl,⟨q,dd,rfl⟩,rfl⟩
   ·rw [Bl c] at e1 e2
    exact .inr ⟨fun z=>c z.symm,⟨q,dd,e1⟩,e2⟩
  rcases w j b h1 with⟨rfl,⟨p,d,e⟩,e'⟩|⟨n1,a1⟩
  ·rcases w k b h2 with⟨rfl,_,_⟩|⟨n2,a2⟩
   ·rfl
   ·exact absurd ⟨k,a2⟩ (s b p d e e')
  ·rcases w k b h2 with⟨rfl,⟨p,d,e⟩,e'⟩|⟨n2,a2⟩
   ·exact absurd ⟨j,a1⟩ (s b p d e e')
   ·exact r.sep j k b a1 a2
section
variable {K:kb}
theorem vm(h:gN i d ρ=.ok ρ1):ρ1=ρ.set i (.val d)/\(∀ e,ρ[i]?≠some (.ow true e))/\i<ρ.length:=by
 unfold gN at h
 cases e:ρ[i]? with
 | none=>rw [e] at h;cases h
 | some x =>
  rw [e] at h
  have hl:i<ρ.length:=(Bf.mp e).1
  cases x with
  | no=>cases h;exact⟨rfl,(fun _ z=>nomatch z),hl⟩
  | val c=>cases h;exact⟨rfl,(fun _ z=>nomatch z),hl⟩
  | ob c ds=>cases h;exact⟨rfl,(fun _ z=>nomatch z),hl⟩
  | ow p c =>
   cases p with
   | true=>cases h
   | false=>cases h;exact⟨rfl,(fun _ z=>nomatch z),hl⟩
theorem uW(n:∀ e,ρ[i]?≠some (.ow true e))(hl:i<ρ.length):kI [i] ρ (ρ.set i (.val d)) σ (σ.set i v):=⟨CI,fun j=>by
 by_cases c:i=j
 ·subst c
  exact .inr ⟨Ec.mpr rfl,⟨d,Bj hl⟩,n⟩
 ·exact .inl ⟨Bl c,Bl c⟩⟩
theorem zss(hN:X.N.Nodup)(hi:X.N[i]?=some x)(hx:Loc X.env.scope x)(hf:X.fn x=true\/X.env.scope.names.lookup x=some .local:=by first|exact .inl rfl|exact .inr rfl|assumption):hJ K X [i] (.Name x pos) (gN i):=.mk fun _=>(zrc hN hi hx hf).weak fun v σ H Q=>by
 rintro⟨ρ,d,ρ1,rel,fz,e,q⟩
 obtain⟨rfl,n,hl⟩:=vm e
 exact q _ (rel.set fz fun _ _ _ z=>nomatch z) (uW n hl)
theorem jS:rW K X [] [] []:=.mk fun _=>zrg.weak fun vs σ H Q=>by
 rintro⟨ρ,ds,ρ1,rel,fz,e,q⟩
 cases ds with
 | nil =>
  cases e
  simp only [ag] at fz
  exact⟨fz,q _ rel .refl⟩
 | cons _ _=>cases e
theorem bK{α β:Type}{r:R α}{k:α->R β}{b:β}(h:r.bind k=.ok b):∃ a,r=.ok a/\k a=.ok b:=by
 cases r with
 | ok a=>exact⟨a,rfl,h⟩
 | _=>cases h
theorem dI{d1 d2:List Nat}(h1:hJ K X d1 e g)(h2:rW K X d2 es gs)
  (hs:(CN (e::es) X.env).map (·.2)=Cy e X.env::(CN es X.env).map (·.2):=by rfl):rW K X (d1++d2) (e::es) (g::gs):=.mk fun hK=>(zrf (h1 hK) (h2 hK) hs).weak fun vs σ H Q=>by
 rintro⟨ρ,ds,ρ1,rel,fz,e,q⟩
 cases ds with
 | nil=>cases e
 | cons d ds =>
  simp only [ag] at fz
  obtain⟨v,r,rfl,f1,f2⟩:=fz
  obtain⟨ρ2,e2,e3⟩:=bK (show(g d ρ).bind (fun ρ1=>h9 gs ds ρ1)=.ok ρ1 from e)
  exact⟨v,r,rfl,ρ,d,ρ2,rel,f1,e2,fun σ1 ah c1=>⟨ρ2,ds,ρ1,ah,f2,e3,fun σ2 cC c2=>q σ2 cC (c1.trans c2)⟩⟩
theorem zgl:∀{gs:List GF} {ds:List D} {ρ ρ1:En},h9 gs ds ρ=.ok ρ1->ds.length=gs.length
 | [],[],_,_,_=>rfl
 | [],_::_,_,_,e=>by cases e
 | _::_,[],_,_,e=>by cases e
 | g::gs,d::ds,ρ,ρ1,e=>by
  obtain⟨ρ2,e2,e3⟩:=bK (show(g d ρ).bind (fun ρ1=>h9 gs ds ρ1)=.ok ρ1 from e)
  simp [zgl e3]
theorem jR{k:Nat}(hc:X.calm=true)(h:rW K X dom es gs)
  (hn:(CN es X.env).length=gs.length:=by rfl)(bV:(CN es X.env).findIdx? (·.1)=none:=by rfl):hJ K X dom (.Tuple es k pos) (gT gs):=.mk fun hK=>by
 subst hK
 refine(zre hc (h rfl) hn bV).weak fun v σ H Q=>?_
 rintro⟨ρ,d,ρ1,rel,fz,e,q⟩
 cases d with
 | tuple ds =>
  simp only [Fz] at fz
  obtain⟨a,vs,rfl,s,f⟩:=fz
  replace e:h9 gs ds ρ=.ok ρ1:=e
  exact⟨a,vs,rfl,.inl s,by rw [f.len,zgl e],ρ,ds,ρ1,rel,f,e,q⟩
 | _=>cases e
variable {st:AQ}{rest:List AQ}{t:SF}
theorem cY:eO K X [] aO:=.mk fun _ C=>zdl.weak fun Dn σ H=>by
 rintro⟨ρ,rel,g⟩
 exact g σ H rel (aA.refl H)
theorem aI(h1:cN K X st s)(h2:eO K X rest t):eO K X (st::rest) (aw s t):=.mk fun hK C=>(tR (h1 hK C) (h2 hK C)).weak fun Dn σ H=>by
 rintro⟨ρ,rel,g⟩
 refine⟨ρ,rel,?_⟩
 obtain⟨x,ex,g1⟩:=g.bU
 rw [ex]
 obtain⟨fl,ρ1⟩:=x
 cases fl with
 | nx=>exact fun σ' H' r z=>⟨ρ1,r,g1.step z⟩
 | bk=>exact g1
 | ct=>exact g1
 | rt d=>exact g1
 | rf d=>exact g1
theorem eB(h1:cN K X st s):eO K X [st] s:=.mk fun hK C=>tU (h1 hK C)
theorem zK:cN K X st e8:=.mk fun _ C=>zic.weak fun Dn σ H=>by
 rintro⟨ρ,rel,g⟩
 exact g.elim
theorem zsE(he:PV K X e f)(hs:Bx e none pos.line X.env=pure false:=by rfl):cN K X (.Expr e pos) (sE f):=.mk fun hK C=>(zdi (he hK) hs).weak fun Dn σ H=>by
 rintro⟨ρ,rel,g⟩
 exact ki rel g fun d ρ1 v H1 ah aG fz g1=>g1 σ H1 ah (aA.refl H1)
theorem zsL(he:PV K X e f):cN K X (.Return (some e) pos) (az f):=.mk fun hK C=>(zB (he hK)).weak fun Dn σ H=>by
 rintro⟨ρ,rel,g⟩
 exact ki rel g fun d ρ1 v H1 ah aG fz g1=>g1 v σ H1 ah fz
theorem zM(he:bg K X e f):cN K X (.Return (some e) pos) (fQ f):=.mk fun hK C=>(zB (he hK)).weak fun Dn σ H=>by
 rintro⟨ρ,rel,g⟩
 exact zgs rel g fun d ρ1 a H1 ah fz ha n m g1=>g1 a σ H1 ah (rel.fresh ha) m
theorem zio(i:Nat)(ha:PE X (.Name y py) (bL i)):cN K X (.Return (some (.Name y py)) pos) (jw i):=.mk fun hK C=>(zB ha).weak fun Dn σ H=>by
 rintro⟨ρ,rel,g⟩
 unfold jw at g
 cases e:ρ[i]? with
 | none=>rw [e] at g;exact g.elim
 | some x =>
  rw [e] at g
  cases x with
  | ow p d =>
   cases p with
   | false =>
    obtain⟨a,bj,m⟩:=rel.rel.jO (d:=d) (show bw ρ i=.ok d by unfold bw;rw [e])
    exact⟨.ref a,bj.2,g a σ H rel (rel.own i a d e bj.2) m⟩
   | true=>exact g.elim
  | _=>exact g.elim
theorem dn{c:Av}{a b:List AQ}(hc:fc K X c tc)(ha:eO K X a s)(hb:eO K X b t):cN K X (.If c a b pos) (aN tc s t):=.mk fun hK C=>(zdj (hc hK) (ha hK C) (hb hK C)).weak fun Dn σ H=>by
 rintro⟨ρ,rel,g⟩
 refine zbU rel g fun cb ρ1 H1 ah fz g1=>?_
 cases cb with
 | true=>exact kX ⟨ρ1,ah,g1⟩
 | false=>exact kW ⟨ρ1,ah,g1⟩
theorem zdq(he:PV K X e f)(hg:hJ K X dom tg g)(hs:E6 [tg] e pos.line X.env=pure false:=by rfl)(hw:E7 [tg] e X.env=pure none:=by rfl)
  (h1:(CN [tg] X.env).map (·.2)=[Cy tg X.env]:=by rfl):cN K X (.Assign [tg] e pos) (aF g f):=.mk fun hK C=>(zia (he hK) (hg hK) hs hw h1).weak fun Dn σ H=>by
 rintro⟨ρ,rel,q⟩
 refine ki rel q fun d ρ1 v H1 ah aG fz q1=>?_
 obtain⟨ρ2,e2,q2⟩:=q1.bU
 exact⟨ρ1,d,ρ2,ah.rel,fz,e2,fun σ1 cC c=>q2 σ1 H1 (ah.chg cC c) (aA.refl H1)⟩
theorem zsM(hN:X.N.Nodup)(hi:X.N[i]?=some x)(hx:Loc X.env.scope x)(he:PV K X e f)(hs:Bx e (some (.Name x pos')) pos.line X.env=pure false:=by rfl)(hf:X.fn x=true\/X.env.scope.names.lookup x=some .local:=by first|exact .inl rfl|exact .inr rfl|assumption) :
  cN K X (.Assign [.Name x pos'] e pos) (aF (gN i) f):=.mk fun hK C=>(qX hN hi hx (he hK) hs hf).weak fun Dn σ H=>by
 rintro⟨ρ,rel,q⟩
 refine ki rel q fun d ρ1 v H1 ah aG fz q1=>?_
 obtain⟨ρ2,e2,q2⟩:=q1.bU
 obtain⟨rfl,n,hl⟩:=vm e2
 exact q2 _ H1 (ah.chg (ah.rel.set fz fun _ _ _ z=>nomatch z) (uW n hl)) (aA.refl H1)
theorem zgt(Dn:Ends)(σ:L2.St)(H:Hp)(q0:tS K C (c9 i f) Dn σ H):rC (tN K f) (qu i) Dn σ H:=by
 revert q0
 rintro⟨ρ,rel,q⟩
 refine zgs rel q fun d ρ1 a H1 ah fz ha n m q1=>?_
 have hf:=rel.fresh ha
 replace q1:dE K C H1 (match ρ1[i]? with|some (.ow true _)=>.bad|some _=>.ok (.nx,ρ1.set i (.ow false d))|none=>.bad) Dn:=q1
 have fin:(∀ e,ρ1[i]?≠some (.ow true e))->i<ρ1.length->bF K C (ρ1.set i (.ow false d)) (σ.set i (some (.ref a))) H1:=fun np hl=>by
  have hls:i<σ.length:=by rw [<- ah.rel.len];exact hl
  refine⟨ah.rel.set (show gA K H1 (.ow false d) (some (.ref a)) from m) fun b p c e1 e2=>by cases e2;exact n,ah.keep,fun j b c e1 e2=>?_,fun j=>?_,fun j c e1=>?_,ah.lu⟩
  ·by_cases k:i=j
   ·subst k
    rw [Bj hls] at e2
    cases e2
    exact hf
   ·rw [Bl k] at e1 e2
    exact ah.own j b c e1 e2
  ·by_cases k:i=j
   ·subst k
    rw [Bj hl,<- ah.pin i]
    constructor
    ·rintro⟨_,z⟩;cases z
    ·rintro⟨c,z⟩;exact absurd z (np c)
   ·rw [Bl k];exact ah.pin j
  ·by_cases k:i=j
   ·subst k
    rw [Bj hl] at e1;cases e1
   ·rw [Bl k] at e1 ⊢
    exact ah.fix j c e1
 cases e1:ρ1[i]? with
 | none=>rw [e1] at q1;exact q1.elim
 | some y =>
  have hl:i<ρ1.length:=(Bf.mp e1).1
  rw [e1] at q1
  cases y with
  | no=>exact q1 _ H1 (fin (fun e z=>by rw [e1] at z;cases z) hl) (aA.refl H1)
  | val c=>exact q1 _ H1 (fin (fun e z=>by rw [e1] at z;cases z) hl) (aA.refl H1)
  | ob c ds=>exact q1 _ H1 (fin (fun e z=>by rw [e1] at z;cases z) hl) (aA.refl H1)
  | ow p c =>
   cases p with
   | true=>exact q1.elim
   | false=>exact q1 _ H1 (fin (fun e z=>by rw [e1] at z;cases z) hl) (aA.refl H1)
theorem zsI(hN:X.N.Nodup)(hi:X.N[i]?=some x)(hx:Loc X.env.scope x)(he:bg K X e f)(hs:Bx e (some (.Name x pos')) pos.line X.env=pure false:=by rfl)(hf:X.fn x=true\/X.env.scope.names.lookup x=some .local:=by first|exact .inl rfl|exact .inr rfl|assumption) :
  cN K X (.Assign [.Name x pos'] e pos) (c9 i f):=.mk fun hK C=>(qX hN hi hx (he hK) hs hf).weak fun Dn σ H q=>zgt Dn σ H q
theorem zin(i:Nat)(h:cN K X st s):cN K X st (iY i s):=.mk fun hK C=>by
 have h1:PS X st (fun Dn σ H=>∃ a u,H a=some u/\Own u/\∀ o,tS K C s Dn σ (upd H a (.frz o u))):=fun pins sh σ H Dn I ⟨a,u,e,ow,q⟩=>by
  obtain⟨o,ho⟩:=(I.ax a u e).some
  exact h hK C pins sh σ _ Dn (zbJ I e ow ho) (q o)
 refine h1.weak fun Dn σ H=>?_
 rintro⟨ρ,rel,g⟩
 unfold iY at g
 cases e:ρ[i]? with
 | none=>rw [e] at g;exact g.elim
 | some x =>
  rw [e] at g
  cases x with
  | ow p d =>
   cases p with
   | true=>exact g.elim
   | false =>
    obtain⟨a,bj,m⟩:=rel.rel.jO (d:=d) (show bw ρ i=.ok d by unfold bw;rw [e])
    obtain⟨u,e1,ow⟩:=m.own
    refine⟨a,u,e1,ow,fun o=>⟨ρ.set i (.val d),?_,g.step ?_⟩⟩
    ·have hl:i<ρ.length:=(Bf.mp e).1
     have eS:=rel.own i a d e bj.2
     have fz:aA H (upd H a (.frz o u)):=fun b w e2 sy=>by
      rw [aJ fun z=>by subst z;rw [e1] at e2;cases e2;exact ow.jo sy]
      exact e2
     have fd:Fz K (upd H a (.frz o u)) d (.ref a):=by
      cases d with
      | list ds =>
       obtain⟨vs,h1,h2⟩:=m
       rw [e1] at h1
       cases h1
       simp only [Fz]
       exact⟨a,vs,rfl,.inl ⟨o,bS⟩,h2.mono fz⟩
      | dict aj =>
       simp only [Fz]
       obtain⟨kk,h1,h2⟩:=m
       rw [e1] at h1
       cases h1
       exact⟨a,o,rfl,⟨kk,bS,h2.mono fz⟩⟩
      | _=>exact m.elim
     have uR:∀ j b,At (ρ.set i (.val d)) σ j b->j≠i/\At ρ σ j b:=fun j b ⟨⟨q,dd,e1⟩,e2⟩=>by
      by_cases c:i=j
      ·subst c
       rw [Bj hl] at e1;cases e1
      ·rw [Bl c] at e1
       exact⟨fun z=>c z.symm,⟨q,dd,e1⟩,e2⟩
     refine⟨⟨by rw [CI];exact rel.rel.len,fun j y w e2 e3=>?_,fun j k b h1 h2=>rel.rel.sep j k b (uR j b h1).2 (uR k b h2).2,rel.rel.cst.mono fz⟩,fun b w e2 n=>?_,fun j b c e2 e3=>?_,fun j=>?_,fun j c e2=>?_,rel.lu⟩
     ·by_cases c:i=j
      ·subst c
       rw [Bj hl] at e2
       cases e2
       rw [bj.2] at e3
       cases e3
       exact fd
      ·rw [Bl c] at e2
       refine(rel.rel.ok j y w e2 e3).mono fz fun b e4 ⟨p,dd,e5⟩=>?_
       subst e4;subst e5
       refine aJ fun z=>?_
       subst z
       exact c (rel.rel.sep i j b bj ⟨⟨p,dd,e2⟩,e3⟩)
     ·rw [aJ fun z=>by subst z;rw [eS] at e2;cases e2]
      exact rel.keep b w e2 n
     ·by_cases c:i=j
      ·subst c
       rw [Bj hl] at e2;cases e2
      ·rw [Bl c] at e2
       exact rel.own j b _ e2 e3
     ·by_cases c:i=j
      ·subst c
       rw [Bj hl,<- rel.pin i,e]
       constructor
       ·rintro⟨_,z⟩;cases z
       ·rintro⟨_,z⟩;cases z
      ·rw [Bl c];exact rel.pin j
     ·by_cases k:i=j
      ·subst k
       rw [Bj hl] at e2;cases e2
      ·rw [Bl k] at e2
       exact rel.fix j c e2
    ·exact fun b w e2 sy=>by
      rw [aJ fun z=>by subst z;rw [e1] at e2;cases e2;exact ow.jo sy]
      exact e2
  | _=>exact g.elim
theorem zpt(h:e6 ρ i=.ok c):∃ p,ρ[i]?=some (.ow p (.list c)):=by
 unfold e6 at h
 cases e:ρ[i]? with
 | none=>rw [e] at h;cases h
 | some x =>
  rw [e] at h
  cases x with
  | ow p d =>
   cases d with
   | list a=>cases h;exact⟨p,rfl⟩
   | _=>cases h
  | _=>cases h
theorem Rel.zf(r:Rel K ρ σ H)(h:e6 ρ i=.ok c):∃ a vs,At ρ σ i a/\H a=some (.lst vs)/\ag K H c vs:=by
 obtain⟨p,e⟩:=zpt h
 obtain⟨a,bj,m⟩:=r.jO (d:=.list c) (show bw ρ i=.ok (.list c) by unfold bw;rw [e])
 obtain⟨vs,h1,h2⟩:=m
 exact⟨a,vs,bj,h1,h2⟩
theorem Rel.zps(r:Rel K ρ1 σ H1)(h:e6 ρ1 i=.ok c)(bj:At ρ σ i a):∃ vs,At ρ1 σ i a/\H1 a=some (.lst vs)/\ag K H1 c vs:=by
 obtain⟨b,vs,ab,h1,h2⟩:=r.zf h
 have:=bj.2.symm.trans ab.2
 cases this
 exact⟨vs,ab,h1,h2⟩
theorem zbV{Dn:Ends}(rel:bF K C ρ σ H)(bj:At ρ σ i a)(m:cO K (upd H a o) a d)(g:dE K C H (.ok (.nx,eh ρ i d)) Dn):Dn.nx σ (upd H a o):=by
 have st:cu ρ (eh ρ i d) σ H (upd H a o):=ziN bj
 exact g σ _ (rel.step (rel.rel.zr5 bj m) st) (st.cJ rel.rel)
theorem zmA(rel:bF K C ρ σ H)(bj:At ρ σ i a):aA H (upd H a o):=(ziN (d:=.none) bj).cJ rel.rel
theorem zsD{name:ib}{apos cv:AD}(i:Nat)(hnm:name="clear") (ha:PE X (.Name y py) (bL i))
  (kj:Dq (.Name y py) name X.env (AB (.Name y py) X.env)=AB (.Name y py) X.env:=by rfl) (qA:(apos.endLine==cv.line)=true:=by rfl)
  (hs:Bx (.Call (.Attribute (.Name y py) name apos) [] [] cv) none pos.line X.env=pure false:=by rfl):cN K X (.Expr (.Call (.Attribute (.Name y py) name apos) [] [] cv) pos) (kF i zfv):=.mk fun hK C=>by
 subst hK
 subst hnm
 refine(zdi (zqQ Jv PySem.F.slot_list_clear PySem.F.type_list_clear zpK ha kj qA) hs).weak fun Dn σ H=>?_
 rintro⟨ρ,rel,g⟩
 obtain⟨d,ed,g1⟩:=g.bU
 obtain⟨a,kH,bj,h0,f0⟩:=rel.rel.zf ed
 exact⟨.ref a,bj.2,.inl ⟨rfl,kH,bp.of h0⟩,a,kH,rfl,rfl,h0,zbV (d:=.list []) rel bj ⟨_,bS,by simp [ag]⟩ g1⟩
theorem zdr{lz:AD}{k:EF}(i:Nat)(ha:PE X (.Name y py) (bL i))(he:PV K X e f)(hk:PV K X ke k)
  (has:∀ v,Cy (.Subscript (.Name y py) ke lz) X.env v=(do
   let ov <- C8 [v] (AB (.Name y py) X.env)
   let iv <- C8 [v,ov] (AB ke X.env)
   Ep lz
   C8 [v,ov,iv] (setItem ov iv v)
   release [v,ov,iv] []):=by intro _;rfl)
  (hs:E6 [.Subscript (.Name y py) ke lz] e pos.line X.env=pure false:=by rfl)(hw:E7 [.Subscript (.Name y py) ke lz] e X.env=pure none:=by rfl)
  (h1:(CN [.Subscript (.Name y py) ke lz] X.env).map (·.2)=[Cy (.Subscript (.Name y py) ke lz) X.env]:=by rfl):cN K X (.Assign [.Subscript (.Name y py) ke lz] e pos) (setM i f k):=.mk fun hK C=>by
 subst hK
 refine(zia (he rfl) (zrd ha (hk rfl) set_list has) hs hw h1).weak fun Dn σ H=>?_
 rintro⟨ρ,rel,g⟩
 refine ki rel g fun dx ρ1 v H1 ah aG fz g1=>?_
 obtain⟨d,ed,g2⟩:=g1.bU
 obtain⟨a,kH,bj,h0,_⟩:=ah.rel.zf ed
 refine⟨.ref a,bj.2,ki ah g2 fun dk ρ2 kv H2 cC bY fk g3=>?_⟩
 obtain⟨c,ec,g4⟩:=g3.bU
 obtain⟨vs,at1,h1,h2⟩:=cC.rel.zps ec bj
 cases dk with
 | int j =>
  obtain⟨n,en,g5⟩:=(show dE X.K C H2 ((R.of (FL.ie c.length j)).bind fun n=>.ok (.nx,eh ρ2 i (.list (c.set n dx)))) Dn from g4).bU
  simp only [Fz] at fk
  subst fk
  refine⟨a,vs,j,n,rfl,rfl,h1,?_,zbV (d:=.list (c.set n dx)) cC at1 ⟨_,bS,(h2.set n (fz.mono (bY.cJ ah.rel))).mono (zmA cC at1)⟩ g5⟩
  rw [h2.len]
  cases e2:FL.ie c.length j with
  | none=>rw [e2] at en;cases en
  | some m=>rw [e2] at en;cases en;exact e2
 | _=>exact g4.elim
end
end
variable {it:IF}{c l:Av}{items:List D}{β:En}{tl:TE}{body:List AQ}
section
variable [Cs]
def Walk(K:kb)(J:It)(items:List D)(H:Hp):Prop :=
 (∀ i d H',aA H H'->items[i]?=some d->J.go i H'/\∀ x jF,J.Ao i H' x jF->aC H' jF/\Fz K jF d x)/\∀ i H',aA H H'->items.length<=i->J.stop i H'
noncomputable def tI(K:kb)(it:IF):TI:=fun σ H R=>∃ ρ,Rel K ρ σ H/\Good K ρ σ H (it ρ) fun items _ H'=>∀ J,Walk K J items H'->R J H'
structure hU(K:kb)(X:Cx)(tg e:Av)(it:IF):Prop where
 run:X.K=K->PI X tg e (tI K it)
instance {K:kb} {X:Cx} {tg e:Av} {it:IF}:CoeFun (hU K X tg e it) fun _=>X.K=K->PI X tg e (tI K it):=⟨hU.run⟩
theorem _root_.L2.PI.weak{t t':TI}(h:PI X tg e t)(w:∀ σ H R,t' σ H R->t σ H R):PI X tg e t':=fun pins s σ H R I q=>h pins s σ H R I (w σ H R q)
section
variable {K:kb}
theorem zrl(hl:PE X l tl):PI X tg l (fun σ H R=>tl σ H fun x H1=>∃ a,x=.ref a/\(((∃ xs,bp X.K H1 a xs)/\R (xj X.K a) H1)\/((∃ xs,dN X.K H1 a xs)/\R (Itt X.K a) H1))):=by
 intro pins s σ H R I h
 refine aE (hl pins s σ H _ I h) fun v s1 ⟨x,H1,I1,r1,q1⟩=>?_
 obtain⟨a,e,q1⟩:=q1
 subst e
 cases r1
 rcases q1 with⟨⟨xs,hq⟩,q⟩|⟨⟨xs,hq⟩,q⟩
 ·obtain⟨its,rv,p,hz⟩:=I1.list hq
  refine Gr p.isList ?_
  refine⟨s1.heap.objs.size,[s1.heap.objs.size],_,_,H1,rfl,I1.kept (t':=s1.toks) fun b o e=>A1 _ e,zi4 a _,⟨_,Bv _ rfl,rfl,rfl⟩,fun b hb=>?_,q⟩
  have e:b=s1.heap.objs.size:=by simpa using hb
  subst e
  exact I1.j8 (AO _) (I1.ax.fresh (AO _))
 ·obtain⟨its,rv,p,hz⟩:=I1.tuple hq
  refine wpAny_pyIter_tuple (show s1.heap.IsTuple a its.toArray from p) ?_
  refine⟨s1.heap.objs.size,[s1.heap.objs.size],_,_,H1,rfl,I1.kept (t':=s1.toks) fun b o e=>A1 _ e,zu6 a _,⟨_,Bv _ rfl,rfl,rfl⟩,fun b hb=>?_,q⟩
  have e:b=s1.heap.objs.size:=by simpa using hb
  subst e
  exact I1.j8 (AO _) (I1.ax.fresh (AO _))
theorem zvf(h:kM K H a vs)(f:ag K H items vs):Walk K (xj K a) items H:=by
 refine⟨fun i d H' fz e=>?_,fun i H' fz e=>⟨vs,(fz.gW h).sq,by rw [f.len];exact e⟩⟩
 obtain⟨v,ev,_⟩:=f.get e
 refine⟨⟨vs,v,(fz.gW h).sq,ev⟩,fun x jF y=>?_⟩
 obtain⟨rfl,y⟩:=y
 have ex:=y vs (fz.gW h).sq
 obtain⟨v',vc,fv⟩:=(f.mono fz).get e
 rw [ex] at vc
 cases vc
 exact⟨aC.refl _,fv⟩
theorem zvh(h:dU H a vs)(f:ag K H items vs):Walk K (Itt K a) items H:=by
 refine⟨fun i d H' fz e=>?_,fun i H' fz e=>⟨vs,.inl (fz.rn h),by rw [f.len];exact e⟩⟩
 obtain⟨v,ev,_⟩:=f.get e
 refine⟨⟨vs,v,.inl (fz.rn h),ev⟩,fun x jF y=>?_⟩
 obtain⟨rfl,y⟩:=y
 have ex:=y vs (.inl (fz.rn h))
 obtain⟨v',vc,fv⟩:=(f.mono fz).get e
 rw [ex] at vc
 cases vc
 exact⟨aC.refl _,fv⟩
theorem mZ(he:PV K X e f):hU K X tg e (iE f):=.mk fun hK=>by
 subst hK
 refine(zrl (he rfl)).weak fun σ H R=>?_
 rintro⟨ρ,rel,q⟩
 refine eG rel q fun dx ρ1 x H1 ah aG fx q1=>?_
 obtain⟨items,ei,q2⟩:=q1.bQ
 cases dx with
 | list a =>
  cases ei
  simp only [Fz] at fx
  obtain⟨l,vs,rfl,sx,f⟩:=fx
  exact⟨l,rfl,.inl ⟨⟨vs,sx.sq⟩,q2.now ah _ (zvf sx f)⟩⟩
 | tuple a =>
  cases ei
  simp only [Fz] at fx
  obtain⟨l,vs,rfl,sx,f⟩:=fx
  exact⟨l,rfl,.inr ⟨⟨vs,.inl sx⟩,q2.now ah _ (zvh sx f)⟩⟩
 | _=>cases ei
theorem p62:(2:Int)^62=4611686018427387904:=by decide
theorem ztW{lo hi:Int}(h:(eD lo hi)[i]?=some d):i<(hi-lo).toNat/\d=.int (lo+i):=by
 unfold eD at h
 rw [BW] at h
 by_cases c:i<(hi-lo).toNat
 ·rw [List.getElem?_range c] at h
  cases h
  exact⟨c,rfl⟩
 ·rw [Ju (by rw [Ef];omega)] at h;cases h
theorem zjh(lo hi:Int):Walk K (uI lo (hi-lo).toNat) (eD lo hi) H:=by
 refine⟨fun i d H' fz e=>?_,fun i H' fz e=>?_⟩
 ·obtain⟨c,rfl⟩:=ztW e
  refine⟨c,fun x jF y=>?_⟩
  obtain⟨rfl,rfl⟩:=y
  exact⟨aC.refl _,jJ _⟩
 ·show(hi-lo).toNat<=i
  simpa [eD] using e
theorem tW{a:Av}(hg:Gl X "range") (hm:X.mg "range"=none) (ha:du K X [a] fa) (hs:Aw [a] X.env=[(false,AB a X.env)]:=by exact FL.se rfl):hU K X tg (.Call (.Name "range" p) [a] [] pos) (eT fa):=.mk fun hK=>(zrj hg hm (ha hK) hs).weak fun σ H R=>by
 rintro⟨ρ,rel,q⟩
 refine mF rel q fun ds ρ1 vs H1 ah aG fs q1=>?_
 obtain⟨items,ei,q2⟩:=q1.bQ
 cases ds with
 | nil=>cases ei
 | cons d r =>
  cases r with
  | cons _ _=>cases d <;> cases ei
  | nil =>
   cases d with
   | int j =>
    obtain⟨c,ei⟩:=gM (show aR (lD j&&leB j.toNat lim) (.ok (eD 0 j))=.ok items from ei)
    cases ei
    simp only [ag,Fz] at fs
    obtain⟨_,_,rfl,rfl,rfl⟩:=fs
    simp only [lD,Bs,leB_iff] at c
    have:=zjh (K:=K) (H:=H1) 0 j
    rw [Int.sub_zero] at this
    have e62:=p62
    exact⟨j,rfl,by omega,by omega,q2.now ah _ this⟩
   | _=>cases ei
theorem zst{a:Av}(hg:Gl X "range") (hm:X.mg "range"=none) (ha:du K X [a,b] fa) (hs:Aw [a,b] X.env=[(false,AB a X.env),(false,AB b X.env)]:=by rfl) (cK:Aw [b] X.env=[(false,AB b X.env)]:=by exact FL.se rfl) :
  hU K X tg (.Call (.Name "range" p) [a,b] [] pos) (jl fa):=.mk fun hK=>(zrk hg hm (ha hK) hs cK).weak fun σ H R=>by
 rintro⟨ρ,rel,q⟩
 refine mF rel q fun ds ρ1 vs H1 ah aG fs q1=>?_
 obtain⟨items,ei,q2⟩:=q1.bQ
 have key:∃ i j,ds=[.int i,.int j]:=by
  cases ds with
  | nil=>cases ei
  | cons d r =>
   cases d with
   | int i =>
    cases r with
    | nil=>cases ei
    | cons d2 r =>
     cases d2 with
     | int j =>
      cases r with
      | nil=>exact⟨i,j,rfl⟩
      | cons _ _=>cases ei
     | _=>cases ei
   | _=>cases ei
 obtain⟨i,j,rfl⟩:=key
 obtain⟨c,ei⟩:=gM (show aR (lD i&&lD j&&leB (j-i).toNat lim) (.ok (eD i j))=.ok items from ei)
 cases ei
 simp only [ag,Fz] at fs
 obtain⟨_,_,rfl,rfl,_,_,rfl,rfl,rfl⟩:=fs
 simp only [lD,Bs,leB_iff] at c
 have e62:=p62
 exact⟨i,j,rfl,⟨by omega,by omega,by omega,by omega⟩,q2.now ah _ (zjh i j)⟩
variable {b t:SF}
theorem zsF(hp:Es (Ay X.prog X.w) X.A X.env X.xe)(hc:X.calm=true)(hi:hU K X tg e it)(hg:hJ K X dom tg g)(hb:eO K X body b)(hs:∀ x,CA e X.env x=pure x:=by intro _;rfl):cN K X (.For tg e body [] pos) (c7 it g b):=.mk fun hK C =>
 (zib hp hc (hi hK) (hg hK) (hb hK C) hs).weak fun Dn σ0 H0=>by
 rintro⟨ρ0,iV,q⟩
 obtain⟨x,ex,q⟩:=q.bU
 refine⟨ρ0,iV.rel,?_⟩
 rw [ex]
 intro Hs r st J wk
 have ah:=iV.step r st
 have q1:=q.step (st.cJ iV.rel)
 obtain⟨items,ρs⟩:=x
 refine⟨fun i m σ H=>m=items.length-i/\i<=items.length/\∃ ρ,bF K C ρ σ H/\aA Hs H/\dE K C H (forL g b (items.drop i) ρ) Dn,⟨items.length,by simp,B2 _,ρs,ah,aA.refl _,q1⟩,?_⟩
 rintro i m σ H ⟨rfl,hi,ρ,rel,fz,gd⟩
 by_cases c:i<items.length
 ·have ed:=GZ c
  rw [ed] at gd
  obtain⟨dS,hy⟩:=wk.1 i items[i] H fz (Be c)
  refine .inr ⟨dS,fun σ' H'=>∃ ρ,bF K C ρ σ' H'/\aA Hs H'/\dE K C H' (forL g b (items.drop (i+1)) ρ) Dn,fun σ' H' n=>⟨items.length-(i+1),by omega,rfl,c,n⟩,fun x H3 y=>?_⟩
  obtain⟨sm,fx⟩:=hy x H3 y
  have eU:bF K C ρ σ H3:=rel.step (rel.rel.same sm) (.of sm)
  obtain⟨ρ1,e1,gd1⟩:=gd.bU
  refine⟨ρ,items[i],ρ1,eU.rel,fx,e1,fun σ1 wB chg=>⟨ρ1,eU.chg wB chg,?_⟩⟩
  obtain⟨y,ey,kg⟩:=gd1.bU
  rw [ey]
  have kh:=kg.step (aA.of sm)
  have vk:=fz.trans (aA.of sm)
  obtain⟨fl,ρ2⟩:=y
  cases fl with
  | nx=>exact fun σ' H' r z=>⟨ρ2,r,vk.trans z,kh.step z⟩
  | ct=>exact fun σ' H' r z=>⟨ρ2,r,vk.trans z,kh.step z⟩
  | bk=>exact kh
  | rt d=>exact kh
  | rf d=>exact kh
 ·have e:i=items.length:=by omega
  subst e
  rw [G0] at gd
  exact .inl ⟨wk.2 _ H fz (AO _),gd σ H rel (aA.refl _)⟩
theorem zir(fuel:En->Nat)(hp:Es (Ay X.prog X.w) X.A X.env X.xe)(hc:fc K X c tc)(hb:eO K X body b):cN K X (.While c body [] pos) (rk fuel tc b):=.mk fun hK C =>
 (zrK hp (hc hK) (hb hK C)).weak fun Dn σ0 H0=>by
 rintro⟨ρ0,iV,q⟩
 refine⟨fun m σ H=>∃ ρ,bF K C ρ σ H/\dE K C H (rH tc b m ρ) Dn,⟨fuel ρ0,ρ0,iV,q⟩,?_⟩
 rintro m σ H ⟨ρ,rel,gd⟩
 cases m with
 | zero=>exact gd.elim
 | succ n =>
  refine zbU rel gd fun cb ρ1 H1 ah fz g1=>?_
  cases cb with
  | false=>exact kW (g1 σ H1 ah (aA.refl _))
  | true =>
   refine kX ⟨fun σ' H'=>∃ ρ,bF K C ρ σ' H'/\dE K C H' (rH tc b n ρ) Dn,fun σ' H' z=>⟨n,Gs _,z⟩,ρ1,ah,?_⟩
   obtain⟨y,ey,kg⟩:=(show dE K C H1 ((b ρ1).bind fun y=>match y.1 with
   | .nx | .ct=>rH tc b n y.2
   | .bk=>.ok (.nx,y.2)
   | .rt d=>.ok (.rt d,y.2)
   | .rf d=>.ok (.rf d,y.2)) Dn from g1).bU
   rw [ey]
   obtain⟨fl,ρ2⟩:=y
   cases fl with
   | nx=>exact fun σ' H' r z=>⟨ρ2,r,kg.step z⟩
   | ct=>exact fun σ' H' r z=>⟨ρ2,r,kg.step z⟩
   | bk=>exact kg
   | rt d=>exact kg
   | rf d=>exact kg
end
end
variable {io j k:Nat}{elt iter:Av}{ix l:List Nat}{scope:BF}{σβ:L2.St}{ifs:List Av}{cs:En}
section
variable [Cs]
section
variable {K:kb}
theorem ze8(h:j<k):(bP k ix ρ)[j]?=some .no:=by
 unfold bP
 rw [B5 (by simpa using h),CC,if_pos h]
theorem x8(j:Nat):(bP k ix ρ)[k+j]?=(ix[j]?).map fun i=>(ρ[i]?).getD .no:=by
 unfold bP
 rw [CH (by simp),Dt,Jw,BW]
theorem zaT(j:Nat):(dA k ix σ)[k+j]?=(ix[j]?).map fun i=>(σ[i]?).getD none:=by
 unfold dA
 rw [CH (by simp),Dt,Jw,BW]
theorem qd(h:At (bP k ix ρ) (dA k ix σ) j a):∃ j' i,j=k+j'/\ix[j']?=some i/\At ρ σ i a:=by
 obtain⟨⟨p,d,e1⟩,e2⟩:=h
 by_cases c:j<k
 ·rw [ze8 c] at e1;cases e1
 ·obtain⟨j',rfl⟩:∃ j',j=k+j':=⟨j-k,by omega⟩
  rw [x8] at e1
  rw [zaT] at e2
  cases ei:ix[j']? with
  | none=>rw [ei] at e1;cases e1
  | some i =>
   rw [ei] at e1 e2
   refine⟨j',i,rfl,ei,⟨p,d,?_⟩,?_⟩
   ·simp only [CJ,Ct] at e1
    cases er:ρ[i]? with
    | none=>rw [er] at e1;cases e1
    | some x=>rw [er] at e1;simpa using e1
   ·simp only [CJ,Ct] at e2
    cases es:σ[i]? with
    | none=>rw [es] at e2;cases e2
    | some x=>rw [es] at e2;simpa using e2
theorem zpV(h:l.Nodup){x:Nat}(a:l[i]?=some x)(b:l[j]?=some x):i=j:=by
 obtain⟨h1,e1⟩:=Bf.mp a
 obtain⟨h2,e2⟩:=Bf.mp b
 exact(List.getElem_inj h).mp (e1.trans e2.symm)
theorem ze9(nd:ix.Nodup)(r:Rel K ρ σ H):Rel K (bP k ix ρ) (dA k ix σ) H:=by
 refine⟨by simp [bP,dA],fun j x v e1 e2=>?_,fun i j a h1 h2=>?_,r.cst⟩
 ·by_cases c:j<k
  ·rw [ze8 c] at e1;cases e1;trivial
  ·obtain⟨j',rfl⟩:∃ j',j=k+j':=⟨j-k,by omega⟩
   rw [x8] at e1
   rw [zaT] at e2
   cases ei:ix[j']? with
   | none=>rw [ei] at e1;cases e1
   | some i =>
    rw [ei] at e1 e2
    simp only [CJ,Ct] at e1 e2
    cases er:ρ[i]? with
    | none=>rw [er] at e1;cases e1;trivial
    | some y =>
     have hl:i<σ.length:=by rw [<- r.len];exact(Bf.mp er).1
     rw [er] at e1
     rw [Be hl] at e2
     cases e1;cases e2
     exact r.ok i _ _ er (Be hl)
 ·obtain⟨i',x,rfl,e1,a1⟩:=qd h1
  obtain⟨j',y,rfl,e2,a2⟩:=qd h2
  have:=r.sep x y a a1 a2
  subst this
  rw [zpV nd e1 e2]
theorem zaC{m:List (Nat×Sl)}:∀(ρ:En) (n i:Nat),(cD m n ρ)[i]?=(ρ[i]?).map (cI m (n+i))
 | [],n,i=>by simp [cD]
 | x::r,n,0=>by simp [cD]
 | x::r,n,i+1=>by
  simp only [cD,zz1]
  rw [zaC r (n+1) i,show n+1+i=n+(i+1) by omega]
theorem zeZ(i:Nat):(back ρ ix cs)[i]?=(ρ[i]?).map (cI (ix.zip cs) i):=by
 unfold back
 rw [zaC,F8]
theorem zaD{m:List (Nat×Sl)}:∀(ρ:En) (n:Nat),(cD m n ρ).length=ρ.length
 | [],n=>rfl
 | x::r,n=>by simp [cD,zaD r]
theorem zjn:∀{ix:List Nat} {cs:En} {i:Nat} {c:Sl},(ix.zip cs).lookup i=some c->∃ j:Nat,ix[j]?=some i/\cs[j]?=some c
 | [],cs,i,c,h=>by simp at h
 | x::r,[],i,c,h=>by simp at h
 | x::r,y::s,i,c,h=>by
  rw [BL,A5] at h
  by_cases e:i=x
  ·subst e
   simp only [beq_self_eq_true] at h
   cases h
   exact⟨0,rfl,rfl⟩
  ·rw [beq_false_of_ne e] at h
   obtain⟨j,h1,h2⟩:=zjn h
   exact⟨j+1,by simpa using h1,by simpa using h2⟩
theorem zjo:∀{ix:List Nat} {cs:En} {i j:Nat} {c:Sl},ix.Nodup->ix[j]?=some i->cs[j]?=some c->(ix.zip cs).lookup i=some c
 | [],cs,i,j,c,_,h1,_=>by simp at h1
 | x::r,[],i,j,c,_,_,h2=>by simp at h2
 | x::r,y::s,i,j,c,nd,h1,h2=>by
  rw [BL,A5]
  cases j with
  | zero =>
   simp at h1 h2
   subst h1;subst h2
   simp
  | succ j =>
   simp at h1 h2
   have:i≠x:=fun z=>by
    subst z
    exact(CW.mp nd).1 (CY h1)
   rw [beq_false_of_ne this]
   exact zjo (CW.mp nd).2 h1 h2
theorem x5(nd:ix.Nodup)(r:Rel K ρ σ H)(hs:∀ j,σβ[k+j]?=(dA k ix σ)[k+j]?)(rb:Rel K β σβ H')
  (md:∀ j p,(∃ d,β[k+j]?=some (.ow p d))↔∃ d,(bP k ix ρ)[k+j]?=some (.ow p d))(kp:∀ a o,H a=some o->¬ MA (bP k ix ρ) (dA k ix σ) a->H' a=some o) :
  Rel K (back ρ ix (β.drop k)) σ H'/\cu ρ (back ρ ix (β.drop k)) σ H H':=by
 have hm:∀ a,MA (bP k ix ρ) (dA k ix σ) a->MA ρ σ a:=fun a ⟨j,h⟩=>by
  obtain⟨_,i,_,_,h⟩:=qd h
  exact⟨i,h⟩
 have fz:aA H H':=fun a o h st=>kp a o h fun m=>by
  obtain⟨o',e,w⟩:=r.eJ (hm a m)
  rw [h] at e
  cases e
  exact w.jo st
 have vV:∀(i:Nat) p,(∃ d,ρ[i]?=some (.ow p d))↔∃ d,(back ρ ix (β.drop k))[i]?=some (.ow p d):=fun i p=>by
  rw [zeZ]
  constructor
  ·rintro⟨d,e⟩
   rw [e]
   simp only [CJ,cI]
   split
   ·rename_i p' d1 q' d2 h1 h2;cases h1;exact⟨_,rfl⟩
   ·exact⟨_,rfl⟩
  ·rintro⟨d,e⟩
   cases er:ρ[i]? with
   | none=>rw [er] at e;cases e
   | some x =>
    rw [er] at e
    simp only [CJ,Ct,cI] at e
    split at e
    ·cases e;exact⟨_,rfl⟩
    ·subst e;exact⟨_,rfl⟩
 have uQ:∀ i a,At (back ρ ix (β.drop k)) σ i a->At ρ σ i a:=fun i a ⟨⟨p,d,e1⟩,e2⟩=>⟨⟨p,(vV i p).mpr ⟨d,e1⟩⟩,e2⟩
 refine⟨⟨by rw [show(back ρ ix (β.drop k)).length=ρ.length from zaD _ _];exact r.len,fun i x v e1 e2=>?_,fun i j a h1 h2=>r.sep i j a (uQ i a h1) (uQ j a h2),r.cst.mono fz⟩,⟨vV,fun a o h n=>kp a o h fun m=>n (hm a m)⟩⟩
 rw [zeZ] at e1
 cases er:ρ[i]? with
 | none=>rw [er] at e1;cases e1
 | some y =>
  rw [er] at e1
  simp only [CJ,Ct] at e1
  have o:=r.ok i y v er e2
  cases y with
  | no=>simp only [cI] at e1;subst e1;trivial
  | val d =>
   simp only [cI] at e1
   subst e1
   exact o.mono fz fun a _ ⟨p,d',z⟩=>nomatch z
  | ob c ds =>
   simp only [cI] at e1
   subst e1
   exact o.mono fz fun a _ ⟨p,d',z⟩=>nomatch z
  | ow p d =>
   cases v with
   | none=>exact o.elim
   | some v =>
    cases v with
    | ref a =>
     have ai:At ρ σ i a:=⟨⟨p,d,er⟩,e2⟩
     cases el:(ix.zip (β.drop k)).lookup i with
     | none =>
      simp only [cI,el] at e1
      subst e1
      refine o.mono fz fun b e3 _=>?_
      cases e3
      obtain⟨u,hu,_⟩:=r.eJ ⟨i,ai⟩
      rw [hu]
      refine kp a u hu fun⟨j,h⟩=>?_
      obtain⟨j',i',rfl,ej,h'⟩:=qd h
      have:=r.sep i i' a ai h'
      subst this
      have hb:β[k+j']?≠none:=fun z=>by
       have:∃ d,β[k+j']?=some (.ow p d):=(md j' p).mpr ⟨d,by rw [x8,ej];simp [er]⟩
       obtain⟨_,w⟩:=this
       rw [z] at w;cases w
      cases jL:β[k+j']? with
      | none=>exact hb jL
      | some c =>
       have:(β.drop k)[j']?=some c:=by rw [List.getElem?_drop];exact jL
       rw [zjo nd ej this] at el
       cases el
     | some c =>
      obtain⟨j,hj,hc⟩:=zjn el
      rw [List.getElem?_drop] at hc
      have bm:(bP k ix ρ)[k+j]?=some (.ow p d):=by rw [x8,hj];simp [er]
      obtain⟨d',iG⟩:=(md j p).mpr ⟨d,bm⟩
      rw [hc] at iG
      cases iG
      simp only [cI,el] at e1
      subst e1
      have es:σβ[k+j]?=some (some (.ref a)):=by rw [hs j,zaT,hj];simp [e2]
      exact rb.ok (k+j) _ _ hc es
    | _=>exact o.elim
end
theorem zbX{K:kb}(hd:dom.all (fun i=>decide (i<k))=true):uF k (tG K dom g):=fun x σ H Q=>by
 rintro⟨ρ,d,ρ1,rel,fz,e,q⟩
 refine⟨ρ,d,ρ1,rel,fz,e,fun σ1 ah c=>⟨⟨c.1,fun i hi=>?_⟩,q σ1 ah c⟩⟩
 rcases c.2 i with⟨_,c2⟩|⟨m,_⟩
 ·exact c2
 ·have:=of_decide_eq_true (C0.mp hd i m)
  omega
structure lP(K:kb)(X:Cx)(ifs:List Av)(t:TF):Prop where
 run:X.K=K->jb X ifs (tT K t)
instance {K:kb} {X:Cx} {ifs:List Av} {t:TF}:CoeFun (lP K X ifs t) fun _=>X.K=K->jb X ifs (tT K t):=⟨lP.run⟩
theorem _root_.L2.jb.weak{e:List Av}{t:TT}(h:jb X e t)(w:∀ σ H Q,t' σ H Q->t σ H Q):jb X e t':=fun pins s σ H Q I q=>h pins s σ H Q I (w σ H Q q)
theorem js{K:kb}:lP K X [] dq:=.mk fun _=>zr2.weak fun σ H Q=>by
 rintro⟨ρ,rel,q⟩
 exact q.now rel
theorem zis{K:kb}(h:fc K X c t):lP K X [c] t:=.mk fun hK=>zr3 (h hK)
section
variable {K:kb}
theorem zgp(nd:ix.Nodup)(dS:dom.all (fun i=>decide (i<k))=true)(σ:L2.St)(H:Hp)(Q:VK)(q:tN K (eR k ix it g t f) σ H Q):rE k ix (tI K it) (tG K dom g) (tT K t) (tV K f) σ H Q:=by
 revert q
 rintro⟨ρ0,iV,q⟩
 obtain⟨x,ex,q⟩:=q.bU
 refine⟨ρ0,iV,?_⟩
 rw [ex]
 intro H1 ah aG J wk l hl
 obtain⟨items,ρs⟩:=x
 have oh:H l=none:=by
  cases e:H l with
  | none=>rfl
  | some o =>
   by_cases m:MA ρ0 σ l
   ·obtain⟨o',e',_⟩:=ah.eJ (aG.ma.mp m)
    rw [hl] at e';cases e'
   ·rw [aG.kp l o e m] at hl;cases hl
 have sl:aC H1 (upd H1 l (.lst [])):=aC.upd hl
 refine⟨fun i m ys H2=>m=items.length-i/\i<=items.length/\H2 l=some (.lst ys)/\∃ ρ acc,Rel K ρ σ H2/\¬ MA ρ σ l/\ag K H2 acc ys/\aA H1 H2/\cu ρ0 ρ σ H H2 /\
  Good K ρ0 σ H ((fT k ix g t f (items.drop i) ρ acc).bind fun(y:List D×En)=>.ok ((C3 y.1:D),y.2)) fun d ρ' H'=>∀ a,H a=none->cO K H' a d->Q (.ref a) H',
  ⟨items.length,by simp,B2 _,bS,ρs,[],ah.same sl,fun z=>?_,by simp [ag],aA.of sl,aG.trans (.of sl),q⟩,?_⟩
 ·obtain⟨o',e',_⟩:=ah.eJ z
  rw [hl] at e';cases e'
 rintro i m ys H2 ⟨rfl,hi,qB,ρ,acc,rel,ik,fa,fz,lG,gd⟩
 refine⟨qB,?_⟩
 by_cases c:i<items.length
 ·have ed:=GZ c
  rw [ed] at gd
  obtain⟨zm5,hy⟩:=wk.1 i items[i] H2 fz (Be c)
  refine .inr ⟨zm5,fun x H3 y=>?_⟩
  obtain⟨sm,fx⟩:=hy x H3 y
  have eU:Rel K ρ σ H3:=rel.same sm
  obtain⟨w,ew,gd⟩:=gd.bQ
  obtain⟨β1,e1,ew⟩:=bK (show(g items[i] (bP k ix ρ)).bind _=.ok w from ew)
  obtain⟨c1,ec,ew⟩:=bK ew
  refine⟨bP k ix ρ,items[i],β1,ze9 nd eU,fx,e1,fun σ1 zdF chg=>⟨β1,zdF,?_⟩⟩
  rw [ec]
  intro H5 wC gX
  have hσ:∀ j,σ1[k+j]?=(dA k ix σ)[k+j]?:=fun j=>by
   rcases chg.2 (k+j) with⟨_,c2⟩|⟨m,_⟩
   ·exact c2
   ·have:=of_decide_eq_true (C0.mp dS _ m)
    omega
  have hβ:∀ j,β1[k+j]?=(bP k ix ρ)[k+j]?:=fun j=>by
   rcases chg.2 (k+j) with⟨c2,_⟩|⟨m,_⟩
   ·exact c2
   ·have:=of_decide_eq_true (C0.mp dS _ m)
    omega
  have nX:∀ a,MA β1 σ1 a->MA (bP k ix ρ) (dA k ix σ) a:=fun a ⟨j,⟨p,d,z1⟩,z2⟩=>by
   rcases chg.2 j with⟨c1,c2⟩|⟨_,⟨d',c1⟩,_⟩
   ·exact⟨j,⟨p,d,by rw [<- c1];exact z1⟩,by rw [<- c2];exact z2⟩
   ·rw [c1] at z1;cases z1
  have hMB:∀ a,MA (bP k ix ρ) (dA k ix σ) a->MA ρ σ a:=fun a ⟨j,h⟩=>by
   obtain⟨_,i,_,_,h⟩:=qd h
   exact⟨i,h⟩
  have h3l:H3 l=some (.lst ys):=sm l _ qB
  have n1:¬ MA β1 σ1 l:=fun z=>ik (hMB l (nX l z))
  have vt:H5 l=some (.lst ys):=gX.kp l _ h3l n1
  obtain⟨cb,β2⟩:=c1
  cases cb with
  | true =>
   refine kX ⟨β2,wC,?_⟩
   obtain⟨y,ey,ew⟩:=bK (show(f β2).bind _=.ok w from ew)
   rw [ey]
   intro H6 zdD jV v fv
   obtain⟨cc,ew⟩:=gM ew
   have n2:¬ MA β2 σ1 l:=fun z=>n1 (gX.ma.mpr z)
   have qx:H6 l=some (.lst ys):=jV.kp l _ vt n2
   have st:cu β1 y.2 σ1 H3 H6:=gX.trans jV
   obtain⟨rb,sb⟩:=x5 (k:=k) nd eU hσ zdD (fun j p=>by rw [<- hβ j];exact(st.md (k+j) p).symm) (fun a o h n=>st.kp a o h fun z=>n (nX a z))
   have mX:¬ MA (back ρ ix (y.2.drop k)) σ l:=fun z=>ik (sb.ma.mpr z)
   have j9:aA H2 H6:=(aA.of sm).trans (sb.cJ eU)
   have qp:aA H6 (upd H6 l (.lst (ys++[v]))):=fun b u e s=>by
    rw [aJ fun z=>by subst z;rw [qx] at e;cases e;exact s]
    exact e
   refine⟨qx,?_,items.length-(i+1),by omega,rfl,c,bS,back ρ ix (y.2.drop k),acc++[y.1],rb.put mX (fun u e=>by rw [qx] at e;cases e;exact fun z=>z),mX,?_,(fz.trans j9).trans qp,⟨((lG.trans (.of sm)).trans sb).md,fun a o h n=>?_⟩,?_⟩
   ·have:=mP cc
    have l0:=oE
    rw [fa.len];omega
   ·refine((fa.mono j9).mono qp).app ?_
    simp only [ag]
    exact⟨v,[],rfl,fv.mono qp,rfl⟩
   ·rw [aJ fun z=>by subst z;rw [oh] at h;cases h]
    exact((lG.trans (.of sm)).trans sb).kp a o h n
   ·rw [ew]
    exact gd
  | false =>
   obtain⟨rb,sb⟩:=x5 (k:=k) nd eU hσ wC (fun j p=>by rw [<- hβ j];exact(gX.md (k+j) p).symm) (fun a o h n=>gX.kp a o h fun z=>n (nX a z))
   have mX:¬ MA (back ρ ix (β2.drop k)) σ l:=fun z=>ik (sb.ma.mpr z)
   have j9:aA H2 H5:=(aA.of sm).trans (sb.cJ eU)
   refine kW ⟨items.length-(i+1),by omega,rfl,c,vt,back ρ ix (β2.drop k),acc,rb,mX,fa.mono j9,fz.trans j9,(lG.trans (.of sm)).trans sb,?_⟩
   rw [show fT k ix g t f (items.drop (i+1)) (back ρ ix (β2.drop k)) acc=.ok w from ew]
   exact gd
 ·have e:i=items.length:=by omega
  subst e
  rw [G0] at gd
  exact .inl ⟨wk.2 _ H2 fz (AO _),gd H2 rel lG l oh ⟨ys,qB,fa⟩⟩
theorem zsx(L:List ib)(ix:List Nat)(M:List ib)(hc:X.calm=true)(hk:scope.kind=.function)(hd:lV X.env.scope scope X.N ix=true)(hM:M=L++ix.map fun i=>X.N.getD i "") (nd:ix.Nodup) (hi:hU K X tg iter it)
  (hg:∀ C s₃ H₃ fp,hJ K (cW X M scope C s₃ H₃ fp) dom tg g) (dS:dom.all (fun i=>decide (i<L.length))=true)
  (ht:∀ C s₃ H₃ fp,lP K (cW X M scope C s₃ H₃ fp) ifs t) (he:∀ C s₃ H₃ fp,PV K (cW X M scope C s₃ H₃ fp) elt f)
  (hs:∀ x,CA iter X.env x=pure x:=by intro _;rfl) :
  bg K X (.ListComp elt [⟨tg,iter,ifs,0⟩] scope pos) (eR L.length ix it g t f):=.mk fun hK=>by
 refine(zhU L ix M hc hk hd hM (hi hK) (fun C s₃ H₃ fp=>hg C s₃ H₃ fp hK) (zbX dS) (fun C s₃ H₃ fp=>ht C s₃ H₃ fp hK) (fun C s₃ H₃ fp=>he C s₃ H₃ fp hK) hs).weak fun σ H Q q=>zgp nd dS σ H Q q
theorem zmS(nd:ix.Nodup)(hio:io∉ix)(dS:dom.all (fun i=>decide (i<k))=true)(σ:L2.St)(H:Hp)(Q:VK)(q:tN K (sA k ix io g t f) σ H Q):rE k ix (zgA K (bL io)) (tG K dom g) (tT K t) (tV K f) σ H Q:=by
 revert q
 rintro⟨ρ0,iV,q⟩
 obtain⟨items,ex,q⟩:=q.bQ
 obtain⟨ad,kH,bj,hvs,yI⟩:=iV.zf ex
 refine⟨.ref ad,bj.2,ad,rfl,⟨kH,bp.of hvs⟩,fun l hl=>?_⟩
 have ah:=iV
 have aG:cu ρ0 ρ0 σ H H:=.refl
 have oh:=hl
 have iH:ad≠l:=fun z=>by subst z;rw [hvs] at hl;cases hl
 have sl:aC H (upd H l (.lst [])):=aC.upd hl
 refine⟨fun i m ys H2=>m=items.length-i/\i<=items.length/\H2 l=some (.lst ys)/\∃ ρ acc,Rel K ρ σ H2/\¬ MA ρ σ l/\ag K H2 acc ys/\aA H H2/\cu ρ0 ρ σ H H2/\H2 ad=some (.lst kH) /\
  Good K ρ0 σ H ((fT k ix g t f (items.drop i) ρ acc).bind fun(y:List D×En)=>.ok ((C3 y.1:D),y.2)) fun d ρ' H'=>∀ a,H a=none->cO K H' a d->Q (.ref a) H',
  ⟨items.length,by simp,B2 _,bS,ρ0,[],ah.same sl,fun z=>?_,by simp [ag],aA.of sl,aG.trans (.of sl),sl ad _ hvs,q⟩,?_⟩
 ·obtain⟨o',e',_⟩:=ah.eJ z
  rw [hl] at e';cases e'
 rintro i m ys H2 ⟨rfl,hi,qB,ρ,acc,rel,ik,fa,fz,lG,yF,gd⟩
 refine⟨qB,?_⟩
 by_cases c:i<items.length
 ·have ed:=GZ c
  rw [ed] at gd
  obtain⟨v0,ev0,fv0⟩:=(yI.mono fz).get (Be c)
  refine .inr ⟨⟨kH,v0,bp.of yF,ev0⟩,fun x H3 y=>?_⟩
  obtain⟨rfl,y⟩:=y
  have vg:=y kH (bp.of yF)
  rw [ev0] at vg
  cases vg
  have fx:=fv0
  have sm:aC H3 H3:=aC.refl _
  have eU:Rel K ρ σ H3:=rel.same sm
  obtain⟨w,ew,gd⟩:=gd.bQ
  obtain⟨β1,e1,ew⟩:=bK (show(g items[i] (bP k ix ρ)).bind _=.ok w from ew)
  obtain⟨c1,ec,ew⟩:=bK ew
  refine⟨bP k ix ρ,items[i],β1,ze9 nd eU,fx,e1,fun σ1 zdF chg=>⟨β1,zdF,?_⟩⟩
  rw [ec]
  intro H5 wC gX
  have hσ:∀ j,σ1[k+j]?=(dA k ix σ)[k+j]?:=fun j=>by
   rcases chg.2 (k+j) with⟨_,c2⟩|⟨m,_⟩
   ·exact c2
   ·have:=of_decide_eq_true (C0.mp dS _ m)
    omega
  have hβ:∀ j,β1[k+j]?=(bP k ix ρ)[k+j]?:=fun j=>by
   rcases chg.2 (k+j) with⟨c2,_⟩|⟨m,_⟩
   ·exact c2
   ·have:=of_decide_eq_true (C0.mp dS _ m)
    omega
  have nX:∀ a,MA β1 σ1 a->MA (bP k ix ρ) (dA k ix σ) a:=fun a ⟨j,⟨p,d,z1⟩,z2⟩=>by
   rcases chg.2 j with⟨c1,c2⟩|⟨_,⟨d',c1⟩,_⟩
   ·exact⟨j,⟨p,d,by rw [<- c1];exact z1⟩,by rw [<- c2];exact z2⟩
   ·rw [c1] at z1;cases z1
  have hMB:∀ a,MA (bP k ix ρ) (dA k ix σ) a->MA ρ σ a:=fun a ⟨j,h⟩=>by
   obtain⟨_,i,_,_,h⟩:=qd h
   exact⟨i,h⟩
  have h3l:H3 l=some (.lst ys):=sm l _ qB
  have n1:¬ MA β1 σ1 l:=fun z=>ik (hMB l (nX l z))
  have vt:H5 l=some (.lst ys):=gX.kp l _ h3l n1
  have ato:At ρ σ io ad:=by
   obtain⟨⟨p,d,e0⟩,e1⟩:=bj
   exact⟨⟨p,(lG.md io p).mp ⟨d,e0⟩⟩,e1⟩
  have nad:¬ MA β1 σ1 ad:=fun z=>by
   obtain⟨j,h⟩:=nX ad z
   obtain⟨j',i',rfl,ej,h'⟩:=qd h
   have:=rel.sep io i' ad ato h'
   subst this
   exact hio (CY ej)
  have h5a:H5 ad=some (.lst kH):=gX.kp ad _ yF nad
  obtain⟨cb,β2⟩:=c1
  cases cb with
  | true =>
   refine kX ⟨β2,wC,?_⟩
   obtain⟨y,ey,ew⟩:=bK (show(f β2).bind _=.ok w from ew)
   rw [ey]
   intro H6 zdD jV v fv
   obtain⟨cc,ew⟩:=gM ew
   have n2:¬ MA β2 σ1 l:=fun z=>n1 (gX.ma.mpr z)
   have qx:H6 l=some (.lst ys):=jV.kp l _ vt n2
   have h6a:H6 ad=some (.lst kH):=jV.kp ad _ h5a fun z=>nad (gX.ma.mpr z)
   have st:cu β1 y.2 σ1 H3 H6:=gX.trans jV
   obtain⟨rb,sb⟩:=x5 (k:=k) nd eU hσ zdD (fun j p=>by rw [<- hβ j];exact(st.md (k+j) p).symm) (fun a o h n=>st.kp a o h fun z=>n (nX a z))
   have mX:¬ MA (back ρ ix (y.2.drop k)) σ l:=fun z=>ik (sb.ma.mpr z)
   have j9:aA H3 H6:=(aA.of sm).trans (sb.cJ eU)
   have qp:aA H6 (upd H6 l (.lst (ys++[v]))):=fun b u e s=>by
    rw [aJ fun z=>by subst z;rw [qx] at e;cases e;exact s]
    exact e
   refine⟨qx,?_,items.length-(i+1),by omega,rfl,c,bS,back ρ ix (y.2.drop k),acc++[y.1],rb.put mX (fun u e=>by rw [qx] at e;cases e;exact fun z=>z),mX,?_,(fz.trans j9).trans qp,⟨((lG.trans (.of sm)).trans sb).md,fun a o h n=>?_⟩,by rw [aJ iH];exact h6a,?_⟩
   ·have:=mP cc
    have l0:=oE
    rw [fa.len];omega
   ·refine((fa.mono j9).mono qp).app ?_
    simp only [ag]
    exact⟨v,[],rfl,fv.mono qp,rfl⟩
   ·rw [aJ fun z=>by subst z;rw [oh] at h;cases h]
    exact((lG.trans (.of sm)).trans sb).kp a o h n
   ·rw [ew]
    exact gd
  | false =>
   obtain⟨rb,sb⟩:=x5 (k:=k) nd eU hσ wC (fun j p=>by rw [<- hβ j];exact(gX.md (k+j) p).symm) (fun a o h n=>gX.kp a o h fun z=>n (nX a z))
   have mX:¬ MA (back ρ ix (β2.drop k)) σ l:=fun z=>ik (sb.ma.mpr z)
   have j9:aA H3 H5:=(aA.of sm).trans (sb.cJ eU)
   refine kW ⟨items.length-(i+1),by omega,rfl,c,vt,back ρ ix (β2.drop k),acc,rb,mX,fa.mono j9,fz.trans j9,(lG.trans (.of sm)).trans sb,h5a,?_⟩
   rw [show fT k ix g t f (items.drop (i+1)) (back ρ ix (β2.drop k)) acc=.ok w from ew]
   exact gd
 ·have e:i=items.length:=by omega
  subst e
  rw [G0] at gd
  exact .inl ⟨⟨kH,bp.of yF,by rw [yI.len];exact AO _⟩,gd H2 rel lG l oh ⟨ys,qB,fa⟩⟩
theorem zij(io:Nat)(L:List ib)(ix:List Nat)(M:List ib)(hio:io∉ix)(ha:PE X (.Name y py) (bL io))(hc:X.calm=true)(hk:scope.kind=.function)(hd:lV X.env.scope scope X.N ix=true)(hM:M=L++ix.map fun i=>X.N.getD i "") (nd:ix.Nodup)
  (hg:∀ C s₃ H₃ fp,hJ K (cW X M scope C s₃ H₃ fp) dom tg g) (dS:dom.all (fun i=>decide (i<L.length))=true)
  (ht:∀ C s₃ H₃ fp,lP K (cW X M scope C s₃ H₃ fp) ifs t) (he:∀ C s₃ H₃ fp,PV K (cW X M scope C s₃ H₃ fp) elt f)
  (hs:∀ x,CA (.Name y py) X.env x=pure x:=by intro _;rfl) :
  bg K X (.ListComp elt [⟨tg,.Name y py,ifs,0⟩] scope pos) (sA L.length ix io g t f):=.mk fun hK=>by
 subst hK
 exact(zhU L ix M hc hk hd hM (zri ha) (fun C s₃ H₃ fp=>hg C s₃ H₃ fp rfl) (zbX dS) (fun C s₃ H₃ fp=>ht C s₃ H₃ fp rfl) (fun C s₃ H₃ fp=>he C s₃ H₃ fp rfl) hs).weak fun σ H Q q=>zmS nd hio dS σ H Q q
end
end
variable {P:AK}{N ps:List ib}{fd:A9}{b:SF}{l:List Itm}{base:Az}{n:Nat}{ms:List Bool}{mg:ib->Option gV}
section
variable [Cs]
noncomputable def nh(K:kb)(ms:List Bool)(fr:Bool)(F:List D->R (D×List D)):Sp:=fun vs H Q _=>∃ ds,vs.length=ms.length/\ds.length=ms.length/\Rel K (slots ms ds) (vs.map some) H /\
 ∃ d os,F ds=.ok (d,os)/\∀ v H',Rel K (slots ms os) (vs.map some) H'->(∀ a o,H a=some o->¬ MA (slots ms ds) (vs.map some) a->H' a=some o) ->
  (if fr=true then ∃ a,v=.ref a/\H a=none/\cO K H' a d else Fz K H' d v)->Q v H'
noncomputable def jx(K:kb)(n:Nat)(fr:Bool)(G:List D->R D):Sp:=fun vs H Q _=>∃ ds,vs.length=n/\i6 H/\ag K H ds vs/\∃ d,G ds=.ok d/\∀ v H',aC H H'->(if fr=true then ∃ a,v=.ref a/\H a=none/\cO K H' a d else Fz K H' d v)->Q v H'
theorem oV:∀{ms:List Bool} {ds:List D} {i:Nat},ds.length=ms.length->(slots ms ds)[i]?=(ms[i]?).bind fun m=>(ds[i]?).map fun d=>if m=true then Sl.ow true d else Sl.val d
 | [],[],i,_=>by simp [slots]
 | [],_::_,i,h=>by simp at h
 | _::_,[],i,h=>by simp at h
 | m::ms,d::ds,0,_=>by simp [slots]
 | m::ms,d::ds,i+1,h=>by
  simp only [slots,zz1]
  exact oV (by simpa using h)
theorem wI:∀{ms:List Bool} {ds:List D},ds.length=ms.length->(slots ms ds).length=ms.length
 | [],[],_=>rfl
 | [],_::_,h=>by simp at h
 | _::_,[],h=>by simp at h
 | m::ms,d::ds,h=>by simp only [slots,A0];rw [wI (by simpa using h)]
theorem wd:∀{ms:List Bool} {ds:List D} {ρ:En},ds.length=ms.length->(outs ms ds ρ).length=ms.length
 | [],[],_,_=>rfl
 | [],_::_,_,h=>by simp at h
 | _::_,[],_,h=>by simp at h
 | m::ms,d::ds,ρ,h=>by simp only [outs,A0];rw [wd (by simpa using h)]
theorem zhR:∀{ms:List Bool} {ds:List D} {ρ:En} {i:Nat} {m:Bool} {d:D},ms[i]?=some m->ds[i]?=some d->(outs ms ds ρ)[i]?=some (outD m d ρ[i]?)
 | m0::ms,d0::ds,ρ,0,m,d,h1,h2=>by
  simp at h1 h2
  subst h1;subst h2
  simp [outs,List.head?_eq_getElem?]
 | m0::ms,d0::ds,ρ,i+1,m,d,h1,h2=>by
  simp at h1 h2
  simp only [outs,zz1]
  rw [zhR h1 h2,List.getElem?_tail]
 | [],_,_,_,_,_,h,_=>by simp at h
 | _::_,[],_,_,_,_,_,h=>by simp at h
section
variable {K:kb}
theorem Rel.pad(r:Rel K ρ σ H)(n:Nat):Rel K (ρ++AI n .no) (σ++AI n none) H:=by
 have w:∀ i a,At (ρ++AI n .no) (σ++AI n none) i a->At ρ σ i a:=fun i a ⟨⟨p,d,e1⟩,e2⟩=>by
  by_cases c:i<ρ.length
  ·rw [B5 c] at e1
   rw [B5 (by rw [<- r.len];exact c)] at e2
   exact⟨⟨p,d,e1⟩,e2⟩
  ·rw [CH (by omega),CC] at e1
   split at e1 <;> cases e1
 refine⟨by simp [r.len],fun i x v e1 e2=>?_,fun i j a h1 h2=>r.sep i j a (w i a h1) (w j a h2),r.cst⟩
 by_cases c:i<ρ.length
 ·rw [B5 c] at e1
  rw [B5 (by rw [<- r.len];exact c)] at e2
  exact r.ok i x v e1 e2
 ·rw [CH (by omega),CC] at e1
  split at e1
  ·cases e1;trivial
  ·cases e1
theorem zpx(hl:ρ.length=σ.length):MA (ρ++AI n .no) (σ++AI n none) a↔MA ρ σ a:=by
 constructor
 ·rintro⟨i,⟨p,d,e1⟩,e2⟩
  by_cases c:i<ρ.length
  ·rw [B5 c] at e1
   rw [B5 (by rw [<- hl];exact c)] at e2
   exact⟨i,⟨p,d,e1⟩,e2⟩
  ·rw [CH (by omega),CC] at e1
   split at e1 <;> cases e1
 ·rintro⟨i,⟨p,d,e1⟩,e2⟩
  have c:=(Bf.mp e1).1
  exact⟨i,⟨p,d,by rw [B5 c];exact e1⟩,by rw [B5 (by rw [<- hl];exact c)];exact e2⟩
end
theorem zW{ds:List D}{p:Bool}(hl:ds.length=ms.length)(e:(slots ms ds)[i]?=some (.ow p d)):p=true/\ms[i]?=some true/\ds[i]?=some d:=by
 rw [oV hl] at e
 cases em:ms[i]? with
 | none=>rw [em] at e;cases e
 | some m =>
  cases ed:ds[i]? with
  | none=>rw [em,ed] at e;cases e
  | some d' =>
   rw [em,ed] at e
   cases m with
   | true=>simp at e;exact⟨e.1,rfl,by rw [e.2]⟩
   | false=>simp at e
section
variable {K:kb}
theorem zgf{st:AQ}{f:dm}(ms:List Bool)(fr:Bool)(h:cM K x x st f fd)(S:eY N ps (aM st))(dY:ps.length=ms.length)(fo:ps.length<=N.length)
  (hb:∀(av:gV) (A:AR) (outer:List AY) (s:ir) (H:Hp) (E:XK),aQ k (A.deeper (BG x (aM st) s.heap.objs.size f av))->eO K (dB (bE P w) P w K mg base N x (aM st) f av A outer s H E) (bZ st) b) :
  cA P w K mg base (bE P w) (k+1) f fd ps (nh K ms fr (run ms fr N.length b)):=by
 refine h.tF S (fun vs H Q E ⟨ds,e,_⟩=>by rw [e,dY]) fun av A outer s H vs Q E hr hq=>?_
 obtain⟨ds,hv,hd,rel,d,os,hF,q⟩:=hq
 have bV:L2.start N vs=vs.map some++AI (N.length-ds.length) none:=by unfold L2.start;rw [hv,hd]
 refine⟨tS K ⟨H,L2.start N vs,slots ms ds++AI (N.length-ds.length) .no⟩ b,hb av A outer s H E hr rfl _,slots ms ds++AI (N.length-ds.length) .no,?_,?_⟩
 ·have tru:∀(i:Nat) p d,(slots ms ds++AI (N.length-ds.length) .no)[i]?=some (.ow p d)->p=true:=fun i p d e=>by
   by_cases c:i<(slots ms ds).length
   ·rw [B5 c] at e
    exact(zW hd e).1
   ·rw [CH (by omega),CC] at e
    split at e <;> cases e
  refine⟨?_,fun a o e _=>e,fun i a d e _=>absurd (tru i false d e) BU,fun i=>ER,fun i d e=>rfl,tru⟩
  rw [bV]
  exact rel.pad _
 ·unfold run at hF
  rw [if_pos hd] at hF
  obtain⟨y,ey,hF⟩:=bK hF
  rw [ey]
  have fin:∀(ρ':En) (σ':L2.St) (H':Hp),bF K ⟨H,L2.start N vs,slots ms ds++AI (N.length-ds.length) .no⟩ ρ' σ' H' ->
    Rel K (slots ms (outs ms ds ρ')) (vs.map some) H'/\(∀ a o,H a=some o->¬ MA (slots ms ds) (vs.map some) a->H' a=some o):=fun ρ' σ' H' r=>by
   have oh:(slots ms ds).length=(vs.map some).length:=by rw [wI hd,Bc,hv]
   have kp:∀ a o,H a=some o->¬ MA (slots ms ds) (vs.map some) a->H' a=some o:=fun a o e n=>r.keep a o e fun z=>n (by
    have z':MA (slots ms ds++AI (N.length-ds.length) .no) (L2.start N vs) a:=z
    rw [bV] at z'
    exact(zpx oh).mp z')
   have fz:aA H H':=fun a o e sy=>kp a o e fun m=>by
    obtain⟨o',e',ow⟩:=rel.eJ m
    rw [e] at e'
    cases e'
    exact ow.jo sy
   refine⟨?_,kp⟩
   have pinned:∀(i:Nat) d0,ms[i]?=some true->ds[i]?=some d0->∃ d',ρ'[i]?=some (.ow true d')/\σ'[i]?=(vs.map some)[i]?:=fun i d0 em ed=>by
    have hi:i<(slots ms ds).length:=by rw [wI hd];exact(Bf.mp em).1
    have e0:(slots ms ds++AI (N.length-ds.length) .no)[i]?=some (.ow true d0):=by
     rw [B5 hi,oV hd,em,ed];rfl
    obtain⟨d',e'⟩:=(r.pin i).mpr ⟨d0,e0⟩
    refine⟨d',e',?_⟩
    rw [r.fix i d' e']
    show(L2.start N vs)[i]?=_
    rw [bV,B5 (by rw [<- oh];exact hi)]
   have ho:(outs ms ds ρ').length=ms.length:=wd hd
   refine⟨by rw [wI ho,Bc,hv],fun i x v e1 e2=>?_,fun i j a h1 h2=>?_,rel.cst.mono fz⟩
   ·rw [oV ho] at e1
    cases em:ms[i]? with
    | none=>rw [em] at e1;cases e1
    | some m =>
     have hi:i<ds.length:=by rw [hd];exact(Bf.mp em).1
     have ed:=Be hi
     rw [em,zhR em ed] at e1
     cases m with
     | true =>
      obtain⟨d',e3,e4⟩:=pinned i _ em ed
      rw [e3] at e1
      cases e1
      rw [<- e4] at e2
      exact r.rel.ok i _ _ e3 e2
     | false =>
      cases e1
      have e5:(slots ms ds)[i]?=some (.val ds[i]):=by rw [oV hd,em,ed];rfl
      exact(rel.ok i _ _ e5 e2).mono fz fun a _ ⟨p,d',z⟩=>nomatch z
   ·have w:∀ i a,At (slots ms (outs ms ds ρ')) (vs.map some) i a->At (slots ms ds) (vs.map some) i a:=fun i a ⟨⟨p,d0,e1⟩,e2⟩=>by
     obtain⟨rfl,em,_⟩:=zW ho e1
     have hi:i<ds.length:=by rw [hd];exact(Bf.mp em).1
     have ed:=Be hi
     exact⟨⟨true,ds[i],by rw [oV hd,em,ed];rfl⟩,e2⟩
    exact rel.sep i j a (w i a h1) (w j a h2)
  obtain⟨fl,ρ'⟩:=y
  cases fr with
  | false =>
   cases fl with
   | rt dr =>
    cases hF
    exact fun v σ' H' r fz=>q v H' (fin ρ' σ' H' r).1 (fin ρ' σ' H' r).2 fz
   | nx =>
    cases hF
    exact fun σ' H' r fz=>q .non H' (fin ρ' σ' H' r).1 (fin ρ' σ' H' r).2 (by show Fz K H' .none .non;simp [Fz])
   | _=>cases hF
  | true =>
   cases fl with
   | rf dr =>
    cases hF
    exact fun a σ' H' r ha m=>q (.ref a) H' (fin ρ' σ' H' r).1 (fin ρ' σ' H' r).2 ⟨a,rfl,ha,m⟩
   | _=>cases hF
theorem zmq{st:AQ}(ms:List Bool)(fr:Bool)(h:aH K mg x st)(S:eY N ps (aM st))(dY:ps.length=ms.length)(fo:ps.length<=N.length)
  (fY:∀(kV doc pm:gV) (an:Option dm) (av ct:gV) (us:List gV),us.length=ps.length->CU (BX x x (fU st) (bZ st) (aM st) .none kV doc pm an av ct) ⟨us,[]⟩=pure (ps.zip us))
  (hb:∀(f:dm) (av:gV) (A:AR) (outer:List AY) (s:ir) (H:Hp) (E:XK),aQ k (A.deeper (BG x (aM st) s.heap.objs.size f av))->eO K (dB (bE P w) P w K mg base N x (aM st) f av A outer s H E) (bZ st) b) :
  Callee P w K mg base x (k+1) ps (nh K ms fr (run ms fr N.length b)):=by
 obtain⟨f,fd,hm,F⟩:=h
 exact⟨f,fd,hm,F.kp,F.binds fY,zgf ms fr F S dY fo (hb f)⟩
end
end
variable {m:Nat}{a:List Ar}{G:List D->R D}
section
variable [Cs]
theorem zdH:∀{n:Nat} {ds:List D},ds.length=n->slots (AI n false) ds=ds.map Sl.val
 | 0,[],_=>rfl
 | n+1,d::ds,h=>by
  simp only [Dy,slots,A2]
  rw [zdH (by simpa using h)]
  rfl
 | 0,_::_,h=>by simp at h
 | n+1,[],h=>by simp at h
theorem ziy{K:kb}:∀{ds:List D} {vs:List V},i6 H->ag K H ds vs->Rel K (ds.map Sl.val) (vs.map some) H:=fun{ds vs} cst f=>by
 refine⟨by simp [f.len],fun i x v e1 e2=>?_,fun i j a ⟨⟨p,d,e⟩,_⟩=>?_,cst⟩
 ·rw [BW] at e1 e2
  cases ed:ds[i]? with
  | none=>rw [ed] at e1;cases e1
  | some d =>
   obtain⟨u,eu,fu⟩:=f.get ed
   rw [ed] at e1
   rw [eu] at e2
   cases e1;cases e2
   exact fu
 ·rw [BW] at e
  cases ed:ds[i]? with
  | none=>rw [ed] at e;cases e
  | some d=>rw [ed] at e;cases e
theorem zpU{ds:List D}{a:dm}:¬ MA (ds.map Sl.val) σ a:=by
 rintro⟨i,⟨p,d,e⟩,_⟩
 rw [BW] at e
 cases ed:ds[i]? with
 | none=>rw [ed] at e;cases e
 | some d=>rw [ed] at e;cases e
section
variable {K:kb}
theorem cA.pure{f:dm}{fr:Bool}(F:cA P w K mg base (bE P w) k f fd ps (nh K (AI n false) fr (run (AI n false) fr m b))):cA P w K mg base (bE P w) k f fd ps (jx K n fr (aW fr n m b)):=by
 refine F.imp fun vs H Q E=>?_
 rintro⟨ds,hv,cst,f,d,e,q⟩
 have hd:ds.length=n:=by rw [<- f.len,hv]
 obtain⟨y,ey,e⟩:=bK e
 cases e
 refine⟨ds,by simpa using hv,by simpa using hd,by rw [zdH hd];exact ziy cst f,y.1,y.2,by rw [ey],fun v H' r kp fin=>q v H' (fun a o e=>kp a o e (by rw [zdH hd];exact zpU)) fin⟩
theorem Callee.pure{n m:Nat}{fr:Bool}{b:SF}(c:Callee P w K mg base x k ps (nh K (AI n false) fr (run (AI n false) fr m b))):Callee P w K mg base x k ps (jx K n fr (aW fr n m b)):=by
 obtain⟨f,fd,h1,h2,h3,F⟩:=c
 exact⟨f,fd,h1,h2,h3,cA.pure F⟩
end
def lJ(fa:AF)(n:Nat):Prop:=∀ ρ y,fa ρ=.ok y->y.1.length=n
theorem xF:lJ af 0:=fun ρ y h=>by cases h;rfl
theorem xE{a:AF}(h:lJ a n):lJ (aa f a) (n+1):=fun ρ y e=>by
 obtain⟨x,_,e⟩:=bK (show(f ρ).bind _=.ok y from e)
 obtain⟨z,e2,e⟩:=bK e
 cases e
 simp [h _ _ e2]
section
variable {K:kb}
theorem zr9(c:Callee X.prog X.w X.K X.mg X.base x k ps (jx X.K n false G))(hr:aQ j X.A)(hg:Gl X x)(hx:Passes (bE X.prog X.w) X E)(ha:du K X (e::es) fa)(hl:lJ fa n)(hj:k<=j:=by decide)(bz:(x==("__debug__":ib))=false:=by decide)
  (he:Aw (e::es) X.env=(false,AB e X.env)::Aw es X.env:=by exact FL.se rfl) (aX:(A7 pos (Aw es X.env)).any (·.1)=false:=by exact FL.sp rfl):PV K X (.Call (.Name x p) (e::es) [] pos) (ak G fa):=.mk fun hK=>by
 subst hK
 refine(tL c hr hg hx (ha rfl) hj bz he aX).weak fun σ H Q=>?_
 rintro⟨ρ,rel,q⟩
 obtain⟨y,ey,q0⟩:=q.bU
 have hy:=hl ρ y ey
 refine⟨ρ,rel,?_⟩
 rw [ey]
 intro H1 ah aG vs fs
 obtain⟨d,ed,q2⟩:=(q0.step aG).bQ
 rw [CV]
 exact⟨y.1,by rw [fs.len,hy],ah.cst,fs,d,ed,fun v H' s fin=>q2.new ah s v fin⟩
theorem zsw(c:Callee X.prog X.w X.K X.mg X.base x k ps (jx X.K n true G))(hr:aQ j X.A)(hg:Gl X x)(hx:Passes (bE X.prog X.w) X E)(ha:du K X (e::es) fa)(hl:lJ fa n)(hj:k<=j:=by decide)(bz:(x==("__debug__":ib))=false:=by decide)
  (he:Aw (e::es) X.env=(false,AB e X.env)::Aw es X.env:=by exact FL.se rfl) (aX:(A7 pos (Aw es X.env)).any (·.1)=false:=by exact FL.sp rfl):bg K X (.Call (.Name x p) (e::es) [] pos) (ak G fa):=.mk fun hK=>by
 subst hK
 refine(tL c hr hg hx (ha rfl) hj bz he aX).weak fun σ H Q=>?_
 rintro⟨ρ,rel,q⟩
 obtain⟨y,ey,q0⟩:=q.bU
 have hy:=hl ρ y ey
 refine⟨ρ,rel,?_⟩
 rw [ey]
 intro H1 ah aG vs fs
 obtain⟨d,ed,q2⟩:=(q0.step aG).bQ
 rw [CV]
 refine⟨y.1,by rw [fs.len,hy],ah.cst,fs,d,ed,fun v H' s fin=>?_⟩
 obtain⟨a,rfl,ha,m⟩:=fin
 refine q2.new ah s a ?_ m
 cases e0:H a with
 | none=>rfl
 | some o =>
  by_cases mm:MA ρ σ a
  ·obtain⟨o',e',_⟩:=ah.eJ (aG.ma.mp mm)
   rw [ha] at e';cases e'
  ·rw [aG.kp a o e0 mm] at ha;cases ha
noncomputable def gz(K:kb)(σ:L2.St)(H₀ H:Hp):List Itm->List V->Prop
 | [],vs=>vs=[]
 | .vd d::r,vs=>∃ v t,vs=v::t/\Fz K H d v/\gz K σ H₀ H r t
 | .mi i::r,vs=>∃ v t,vs=v::t/\σ[i]?=some (some v)/\gz K σ H₀ H r t
 | .td d::r,vs=>∃ a t,vs=.ref a::t/\cO K H a d/\H₀ a=none/\gz K σ H₀ H r t
theorem cu.old(st:cu ρ ρ1 σ H H1)(ah:Rel K ρ1 σ H1){a:dm}(ha:H1 a=none):H a=none:=by
 cases e0:H a with
 | none=>rfl
 | some o =>
  by_cases mm:MA ρ σ a
  ·obtain⟨o',e',_⟩:=ah.eJ (st.ma.mp mm)
   rw [ha] at e';cases e'
  ·rw [st.kp a o e0 mm] at ha;cases ha
theorem gz.back{σ:L2.St}{H H1 H2:Hp}(h:∀ a,H1 a=none->H a=none):∀{l:List Itm} {vs:List V},gz K σ H1 H2 l vs->gz K σ H H2 l vs
 | [],vs,z=>z
 | .vd d::r,vs,z=>by
  obtain⟨v,t,e,f,z⟩:=z
  exact⟨v,t,e,f,gz.back h z⟩
 | .mi i::r,vs,z=>by
  obtain⟨v,t,e,f,z⟩:=z
  exact⟨v,t,e,f,gz.back h z⟩
 | .td d::r,vs,z=>by
  obtain⟨v,t,e,f,g,z⟩:=z
  exact⟨v,t,e,f,h _ g,gz.back h z⟩
noncomputable def tAr(K:kb)(a:List Ar):TA:=fun σ H Q=>∃ ρ,Rel K ρ σ H/\Good K ρ σ H (gL a ρ) fun l _ H'=>∀ vs,gz K σ H H' l vs->Q vs H'
structure jZ(K:kb)(X:Cx)(es:List Av)(a:List Ar):Prop where
 run:X.K=K->PA X es (tAr K a)
instance {K:kb} {X:Cx} {es:List Av} {a:List Ar}:CoeFun (jZ K X es a) fun _=>X.K=K->PA X es (tAr K a):=⟨jZ.run⟩
theorem fN:jZ K X [] []:=.mk fun _=>jq.weak fun σ H Q=>by
 rintro⟨ρ,rel,q⟩
 exact q.now rel [] rfl
theorem fO(he:PV K X e f)(hr:jZ K X es a)(hs:Aw (e::es) X.env=(false,AB e X.env)::Aw es X.env:=by exact FL.se rfl):jZ K X (e::es) (.v f::a):=.mk fun hK=>(gm (he hK) (hr hK) hs).weak fun σ H Q=>by
 rintro⟨ρ,rel,q⟩
 refine eG rel q fun dx ρ1 x H1 ah aG fx q1=>?_
 obtain⟨y,ey,q2⟩:=q1.bU
 refine⟨ρ1,ah,?_⟩
 rw [ey]
 exact fun H2 cC bY vs it=>(q2.step bY).now cC _ ⟨x,vs,rfl,fx.mono (bY.cJ ah),it.back fun a ha=>aG.old ah ha⟩
theorem zsq(i:Nat)(ha:PE X (.Name y py) (bL i))(hr:jZ K X es a)(hs:Aw (.Name y py::es) X.env=(false,AB (.Name y py) X.env)::Aw es X.env:=by exact FL.se rfl):jZ K X (.Name y py::es) (.m i::a):=.mk fun hK=>(gm ha (hr hK) hs).weak fun σ H Q=>by
 rintro⟨ρ,rel,q⟩
 obtain⟨d,ed,q1⟩:=(show Good K ρ σ H ((bw ρ i).bind fun _=>(gL a ρ).bind fun y=>.ok (.mi i::y.1,y.2)) _ from q).bQ
 obtain⟨ad,bj,_⟩:=rel.jO ed
 obtain⟨y,ey,q2⟩:=q1.bU
 refine⟨.ref ad,bj.2,ρ,rel,?_⟩
 rw [ey]
 exact fun H2 cC bY vs it=>(q2.step bY).now cC _ ⟨.ref ad,vs,rfl,bj.2,it⟩
noncomputable def kN:List Ar->List Bool
 | []=>[]
 | .v _::r=>false::kN r
 | .m _::r=>true::kN r
 | .t _::r=>true::kN r
noncomputable def qb:List Ar->List Nat
 | []=>[]
 | .v _::r=>qb r
 | .m i::r=>i::qb r
 | .t _::r=>qb r
noncomputable def qc:List Ar->Nat
 | []=>0
 | .v _::r=>qc r
 | .m _::r=>qc r
 | .t _::r=>qc r+1
noncomputable def yU:Itm->Bool
 | .vd _=>false
 | _=>true
noncomputable def wM:Itm->Option Nat
 | .mi i=>some i
 | _=>none
noncomputable def mL:Itm->Bool
 | .td _=>true
 | _=>false
theorem xG:∀{a:List Ar} {ρ:En} {y:List Itm×En},gL a ρ=.ok y->y.1.map yU=kN a/\y.1.filterMap wM=qb a/\y.1.countP mL=qc a
 | [],ρ,y,h=>by cases h;exact⟨rfl,rfl,rfl⟩
 | .v f::r,ρ,y,h=>by
  obtain⟨x,_,h⟩:=bK (show(f ρ).bind _=.ok y from h)
  obtain⟨z,e,h⟩:=bK h
  cases h
  obtain⟨h1,h2,h3⟩:=xG e
  simp only [A2,D4]
  exact⟨by rw [h1];rfl,h2,by rw [Jx (by simp [mL])];exact h3⟩
 | .m i::r,ρ,y,h=>by
  obtain⟨_,_,h⟩:=bK (show(bw ρ i).bind _=.ok y from h)
  obtain⟨z,e,h⟩:=bK h
  cases h
  obtain⟨h1,h2,h3⟩:=xG e
  simp only [A2,D4]
  exact⟨by rw [h1];rfl,by rw [h2];rfl,by rw [Jx (by simp [mL])];exact h3⟩
 | .t f::r,ρ,y,h=>by
  obtain⟨x,_,h⟩:=bK (show(f ρ).bind _=.ok y from h)
  obtain⟨z,e,h⟩:=bK h
  cases h
  obtain⟨h1,h2,h3⟩:=xG e
  simp only [A2,D4]
  exact⟨by rw [h1];rfl,h2,by rw [List.countP_cons_of_pos (by simp [mL]),h3];rfl⟩
theorem r9{ρ:En}:∀{l:List Itm} {ds:List D},fF ρ l=.ok ds->ds.length=l.length/\∀(j:Nat) z,l[j]?=some z->∃ d,ds[j]?=some d/\(match z with | .vd d'=>d=d' | .mi i=>bw ρ i=.ok d | .td d'=>d=d')
 | [],ds,h=>by cases h;exact⟨rfl,fun j z e=>by simp at e⟩
 | .vd d::r,ds,h=>by
  obtain⟨yo,e,h⟩:=bK (show(fF ρ r).bind _=.ok ds from h)
  cases h
  obtain⟨h1,h2⟩:=r9 e
  refine⟨by simp [h1],fun j z ez=>?_⟩
  cases j with
  | zero=>simp at ez;subst ez;exact⟨d,rfl,rfl⟩
  | succ j=>obtain⟨d',h3,h4⟩:=h2 j z (by simpa using ez);exact⟨d',by simpa using h3,h4⟩
 | .td d::r,ds,h=>by
  obtain⟨yo,e,h⟩:=bK (show(fF ρ r).bind _=.ok ds from h)
  cases h
  obtain⟨h1,h2⟩:=r9 e
  refine⟨by simp [h1],fun j z ez=>?_⟩
  cases j with
  | zero=>simp at ez;subst ez;exact⟨d,rfl,rfl⟩
  | succ j=>obtain⟨d',h3,h4⟩:=h2 j z (by simpa using ez);exact⟨d',by simpa using h3,h4⟩
 | .mi i::r,ds,h=>by
  obtain⟨d,e0,h⟩:=bK (show(bw ρ i).bind _=.ok ds from h)
  obtain⟨yo,e,h⟩:=bK h
  cases h
  obtain⟨h1,h2⟩:=r9 e
  refine⟨by simp [h1],fun j z ez=>?_⟩
  cases j with
  | zero=>simp at ez;subst ez;exact⟨d,rfl,e0⟩
  | succ j=>obtain⟨d',h3,h4⟩:=h2 j z (by simpa using ez);exact⟨d',by simpa using h3,h4⟩
theorem gz.get{σ:L2.St}{H₀ H:Hp}:∀{l:List Itm} {vs:List V},gz K σ H₀ H l vs->vs.length=l.length/\∀(j:Nat) z,l[j]?=some z->∃ v,vs[j]?=some v/\(match z with | .vd d=>Fz K H d v | .mi i=>σ[i]?=some (some v) | .td d=>∃ a,v=.ref a/\cO K H a d/\H₀ a=none)
 | [],vs,h=>by cases (show vs=[] from h);exact⟨rfl,fun j z e=>by simp at e⟩
 | .vd d::r,vs,h=>by
  obtain⟨v,t,rfl,f,h⟩:=h
  obtain⟨h1,h2⟩:=gz.get h
  refine⟨by simp [h1],fun j z ez=>?_⟩
  cases j with
  | zero=>simp at ez;subst ez;exact⟨v,rfl,f⟩
  | succ j=>obtain⟨d',h3,h4⟩:=h2 j z (by simpa using ez);exact⟨d',by simpa using h3,h4⟩
 | .mi i::r,vs,h=>by
  obtain⟨v,t,rfl,f,h⟩:=h
  obtain⟨h1,h2⟩:=gz.get h
  refine⟨by simp [h1],fun j z ez=>?_⟩
  cases j with
  | zero=>simp at ez;subst ez;exact⟨v,rfl,f⟩
  | succ j=>obtain⟨d',h3,h4⟩:=h2 j z (by simpa using ez);exact⟨d',by simpa using h3,h4⟩
 | .td d::r,vs,h=>by
  obtain⟨v,t,rfl,f,g,h⟩:=h
  obtain⟨h1,h2⟩:=gz.get h
  refine⟨by simp [h1],fun j z ez=>?_⟩
  cases j with
  | zero=>simp at ez;subst ez;exact⟨_,rfl,v,rfl,f,g⟩
  | succ j=>obtain⟨d',h3,h4⟩:=h2 j z (by simpa using ez);exact⟨d',by simpa using h3,h4⟩
end
end
variable {F:List D->R (D×List D)}
section
variable [Cs]
section
variable {K:kb}
theorem zc9{m:List (Nat×Sl)}(r:Rel K ρ σ H)(hA:∀ i c,m.lookup i=some c->∀ a,At ρ σ i a->∃ q d,c=.ow q d/\cO K H' a d)(hB:∀ i a,At ρ σ i a->m.lookup i=none->H' a=H a)(fz:aA H H') :
  Rel K (cD m 0 ρ) σ H'/\∀(i:Nat) p,(∃ d,ρ[i]?=some (.ow p d))↔∃ d,(cD m 0 ρ)[i]?=some (.ow p d):=by
 have gt:∀ i:Nat,(cD m 0 ρ)[i]?=(ρ[i]?).map (cI m i):=fun i=>by rw [zaC,F8]
 have vV:∀(i:Nat) p,(∃ d,ρ[i]?=some (.ow p d))↔∃ d,(cD m 0 ρ)[i]?=some (.ow p d):=fun i p=>by
  rw [gt]
  constructor
  ·rintro⟨d,e⟩
   rw [e]
   simp only [CJ,cI]
   split
   ·rename_i p' d1 q' d2 h1 h2;cases h1;exact⟨_,rfl⟩
   ·exact⟨_,rfl⟩
  ·rintro⟨d,e⟩
   cases er:ρ[i]? with
   | none=>rw [er] at e;cases e
   | some x =>
    rw [er] at e
    simp only [CJ,Ct,cI] at e
    split at e
    ·cases e;exact⟨_,rfl⟩
    ·subst e;exact⟨_,rfl⟩
 have uQ:∀ i a,At (cD m 0 ρ) σ i a->At ρ σ i a:=fun i a ⟨⟨p,d,e1⟩,e2⟩=>⟨⟨p,(vV i p).mpr ⟨d,e1⟩⟩,e2⟩
 refine⟨⟨by rw [zaD];exact r.len,fun i x v e1 e2=>?_,fun i j a h1 h2=>r.sep i j a (uQ i a h1) (uQ j a h2),r.cst.mono fz⟩,vV⟩
 rw [gt] at e1
 cases er:ρ[i]? with
 | none=>rw [er] at e1;cases e1
 | some y =>
  rw [er] at e1
  simp only [CJ,Ct] at e1
  have o:=r.ok i y v er e2
  cases y with
  | no=>simp only [cI] at e1;subst e1;trivial
  | val d =>
   simp only [cI] at e1
   subst e1
   exact o.mono fz fun a _ ⟨p,d',z⟩=>nomatch z
  | ob c ds =>
   simp only [cI] at e1
   subst e1
   exact o.mono fz fun a _ ⟨p,d',z⟩=>nomatch z
  | ow p d =>
   cases v with
   | none=>exact o.elim
   | some v =>
    cases v with
    | ref a =>
     have ai:At ρ σ i a:=⟨⟨p,d,er⟩,e2⟩
     cases el:m.lookup i with
     | none =>
      simp only [cI,el] at e1
      subst e1
      exact o.mono fz fun b e3 _=>by cases e3;exact hB i a ai el
     | some c =>
      obtain⟨q,d',rfl,mm⟩:=hA i c el a ai
      simp only [cI,el] at e1
      subst e1
      exact mm
    | _=>exact o.elim
end
theorem zhu:∀{l:List Itm} {j j' i:Nat},(l.filterMap wM).Nodup->l[j]?=some (.mi i)->l[j']?=some (.mi i)->j=j'
 | [],j,j',i,_,h,_=>by simp at h
 | z::r,j,j',i,nd,h1,h2=>by
  have rest:(r.filterMap wM).Nodup:=by
   rw [D4] at nd
   cases z with
   | mi k=>exact(CW.mp nd).2
   | _=>exact nd
  have mem:∀{j:Nat},r[j]?=some (.mi i)->i∈r.filterMap wM:=fun h=>Hm.mpr ⟨.mi i,CY h,rfl⟩
  have hd:z=.mi i->∀{j:Nat},r[j]?≠some (.mi i):=fun e j h=>by
   subst e
   rw [D4] at nd
   exact(CW.mp nd).1 (mem h)
  cases j with
  | zero =>
   cases j' with
   | zero=>rfl
   | succ j'=>exact absurd (by simpa using h2) (hd (by simpa using h1) (j:=j'))
  | succ j =>
   cases j' with
   | zero=>exact absurd (by simpa using h1) (hd (by simpa using h2) (j:=j))
   | succ j' =>
    have:=zhu (l:=r) rest (by simpa using h1) (by simpa using h2)
    rw [this]
theorem ziY:∀{l:List Itm} {j j':Nat} {d d':D},l.countP mL<=1->l[j]?=some (.td d)->l[j']?=some (.td d')->j=j'
 | [],j,j',d,d',_,h,_=>by simp at h
 | z::r,j,j',d,d',c,h1,h2=>by
  have rest:r.countP mL<=1:=by
   rw [List.countP_cons] at c;omega
  have none:mL z=true->∀{j:Nat} {d:D},r[j]?≠some (.td d):=fun e j d h=>by
   rw [List.countP_cons,if_pos e] at c
   have:0<r.countP mL:=List.countP_pos_iff.mpr ⟨_,CY h,rfl⟩
   omega
  cases j with
  | zero =>
   cases j' with
   | zero=>rfl
   | succ j' =>
    have e:z=.td d:=by simpa using h1
    subst e
    exact absurd (by simpa using h2) (none rfl (j:=j'))
  | succ j =>
   cases j' with
   | zero =>
    have e:z=.td d':=by simpa using h2
    subst e
    exact absurd (by simpa using h1) (none rfl (j:=j))
   | succ j' =>
    have:=ziY (l:=r) rest (by simpa using h1) (by simpa using h2)
    rw [this]
theorem xI:∀{l:List Itm} {os:List D} {i:Nat} {c:Sl},(eE l os).lookup i=some c->∃(j:Nat) (d:D),l[j]?=some (.mi i)/\os[j]?=some d/\c=.ow true d
 | [],os,i,c,h=>by simp [eE] at h
 | z::r,[],i,c,h=>by cases z <;> simp [eE] at h
 | .vd d::r,o::os,i,c,h=>by
  obtain⟨j,d',h1,h2,h3⟩:=xI (l:=r) (os:=os) (by simpa [eE] using h)
  exact⟨j+1,d',by simpa using h1,by simpa using h2,h3⟩
 | .td d::r,o::os,i,c,h=>by
  obtain⟨j,d',h1,h2,h3⟩:=xI (l:=r) (os:=os) (by simpa [eE] using h)
  exact⟨j+1,d',by simpa using h1,by simpa using h2,h3⟩
 | .mi k::r,o::os,i,c,h=>by
  simp only [eE] at h
  rw [A5] at h
  by_cases e:i=k
  ·subst e
   simp only [beq_self_eq_true] at h
   cases h
   exact⟨0,o,rfl,rfl,rfl⟩
  ·rw [beq_false_of_ne e] at h
   obtain⟨j,d',h1,h2,h3⟩:=xI (l:=r) (os:=os) h
   exact⟨j+1,d',by simpa using h1,by simpa using h2,h3⟩
theorem xH:∀{l:List Itm} {os:List D} {i j:Nat} {d:D},l[j]?=some (.mi i)->os[j]?=some d->∃ c,(eE l os).lookup i=some c
 | [],os,i,j,d,h,_=>by simp at h
 | z::r,[],i,j,d,_,h=>by simp at h
 | .vd _::r,o::os,i,j,d,h1,h2=>by
  cases j with
  | zero=>simp at h1
  | succ j =>
   simp only [eE]
   exact xH (l:=r) (by simpa using h1) (by simpa using h2)
 | .td _::r,o::os,i,j,d,h1,h2=>by
  cases j with
  | zero=>simp at h1
  | succ j =>
   simp only [eE]
   exact xH (l:=r) (by simpa using h1) (by simpa using h2)
 | .mi k::r,o::os,i,j,d,h1,h2=>by
  simp only [eE]
  rw [A5]
  by_cases e:i=k
  ·subst e
   simp
  ·rw [beq_false_of_ne e]
   cases j with
   | zero=>simp at h1;exact absurd h1.symm e
   | succ j=>exact xH (l:=r) (by simpa using h1) (by simpa using h2)
section
variable {K:kb}{ρ0:En}{H0:Hp}{ds os:List D}
theorem sd(rel:Rel K ρ σ H)(it:gz K σ H0 H l vs)(hi:fF ρ l=.ok ds)(hm:l.map yU=ms){a:dm}(hd:ds.length=ms.length)(h:At (slots ms ds) (vs.map some) j a):(∃ i,l[j]?=some (.mi i)/\At ρ σ i a)\/∃ d,l[j]?=some (.td d)/\H0 a=none:=by
 obtain⟨v1,v2⟩:=it.get
 obtain⟨d1,d2⟩:=r9 hi
 obtain⟨⟨p,d,e1⟩,e2⟩:=h
 obtain⟨rfl,em,ed⟩:=zW hd e1
 rw [<- hm,BW] at em
 cases el:l[j]? with
 | none=>rw [el] at em;cases em
 | some z =>
  rw [el] at em
  obtain⟨v,ev,es⟩:=v2 j _ el
  obtain⟨d',mn,u9⟩:=d2 j _ el
  rw [BW,ev] at e2
  cases e2
  cases z with
  | vd _=>cases em
  | mi i =>
   obtain⟨q,eq⟩:=zcW u9
   exact .inl ⟨i,rfl,⟨q,d',eq⟩,es⟩
  | td d0 =>
   obtain⟨b,eb,_,hb⟩:=es
   cases eb
   exact .inr ⟨d0,rfl,hb⟩
theorem zkh(r0:Rel K ρ0 σ H0)(st:cu ρ0 ρ σ H0 H)(rel:Rel K ρ σ H)(it:gz K σ H0 H l vs)(hi:fF ρ l=.ok ds)(hm:l.map yU=ms)(nd:(l.filterMap wM).Nodup)(ct:l.countP mL<=1):ds.length=ms.length/\vs.length=ms.length/\Rel K (slots ms ds) (vs.map some) H:=by
 obtain⟨v1,v2⟩:=it.get
 obtain⟨d1,d2⟩:=r9 hi
 have hl:ms.length=l.length:=by rw [<- hm,Bc]
 have hd:ds.length=ms.length:=by rw [d1,hl]
 have hv:vs.length=ms.length:=by rw [v1,hl]
 have apart:∀{i:Nat} {a:dm},At ρ σ i a->H0 a=none->False:=fun h1 h2=>by
  obtain⟨o',e',_⟩:=r0.eJ (st.ma.mpr ⟨_,h1⟩)
  rw [h2] at e';cases e'
 refine⟨hd,hv,⟨by rw [wI hd,Bc,hv],fun j x v e1 e2=>?_,fun j j' a h1 h2=>?_,rel.cst⟩⟩
 ·rw [oV hd] at e1
  cases em:ms[j]? with
  | none=>rw [em] at e1;cases e1
  | some m =>
   cases ed:ds[j]? with
   | none=>rw [em,ed] at e1;cases e1
   | some d =>
    rw [em,ed] at e1
    rw [<- hm,BW] at em
    cases el:l[j]? with
    | none=>rw [el] at em;cases em
    | some z =>
     rw [el] at em
     obtain⟨u,eu,es⟩:=v2 j z el
     obtain⟨d',mn,u9⟩:=d2 j z el
     rw [ed] at mn
     cases mn
     rw [BW,eu] at e2
     cases e2
     cases z with
     | vd dz =>
      cases em
      cases e1
      cases u9
      exact es
     | mi i =>
      cases em
      cases e1
      obtain⟨q,eq⟩:=zcW u9
      have o:=rel.ok i _ _ eq es
      show gA K H (.ow true d) (some u)
      cases u with
      | ref a=>exact o
      | _=>exact o.elim
     | td dz =>
      cases em
      cases e1
      cases u9
      obtain⟨b,rfl,mb,_⟩:=es
      exact mb
 ·rcases sd rel it hi hm hd h1 with⟨i,e1,a1⟩|⟨d,e1,a1⟩
  ·rcases sd rel it hi hm hd h2 with⟨i',e2,a2⟩|⟨d,e2,a2⟩
   ·have:=rel.sep i i' a a1 a2
    subst this
    exact zhu nd e1 e2
   ·exact(apart a1 a2).elim
  ·rcases sd rel it hi hm hd h2 with⟨i',e2,a2⟩|⟨d,e2,a2⟩
   ·exact(apart a2 a1).elim
   ·exact ziY ct e1 e2
theorem zkg(r0:Rel K ρ0 σ H0)(st:cu ρ0 ρ σ H0 H)(rel:Rel K ρ σ H)(it:gz K σ H0 H l vs)(hi:fF ρ l=.ok ds)(hm:l.map yU=ms)(hd:ds.length=ms.length)(ho:os.length=ms.length)(ra:Rel K (slots ms os) (vs.map some) H')(hC:∀ a o,H a=some o->¬ MA (slots ms ds) (vs.map some) a->H' a=some o) :
  Rel K (jd ρ l os) σ H'/\cu ρ0 (jd ρ l os) σ H0 H':=by
 obtain⟨v1,v2⟩:=it.get
 obtain⟨d1,d2⟩:=r9 hi
 have hl:ms.length=l.length:=by rw [<- hm,Bc]
 have apart:∀{i:Nat} {a:dm},At ρ σ i a->H0 a=none->False:=fun h1 h2=>by
  obtain⟨o',e',_⟩:=r0.eJ (st.ma.mpr ⟨_,h1⟩)
  rw [h2] at e';cases e'
 have kp0:∀ a o,H0 a=some o->¬ MA ρ0 σ a->H' a=some o:=fun a o e n=>hC a o (st.kp a o e n) fun⟨j,h⟩=>by
  rcases sd rel it hi hm hd h with⟨i,_,a1⟩|⟨d,_,a1⟩
  ·exact n (st.ma.mpr ⟨i,a1⟩)
  ·rw [e] at a1;cases a1
 have fz:aA H H':=fun a o e sy=>hC a o e fun⟨j,h⟩=>by
  obtain⟨⟨p,d,e1⟩,e2⟩:=id h
  obtain⟨rfl,em,ed⟩:=zW hd e1
  rcases sd rel it hi hm hd h with⟨i,_,a1⟩|⟨d,el,a1⟩
  ·obtain⟨o',e',ow⟩:=rel.eJ ⟨i,a1⟩
   rw [e] at e'
   cases e'
   exact ow.jo sy
  ·obtain⟨v,ev,b,eb,mb,_⟩:=v2 j _ el
   rw [BW,ev] at e2
   cases e2
   cases eb
   obtain⟨o',e',ow⟩:=mb.own
   rw [e] at e'
   cases e'
   exact ow.jo sy
 have key:=zc9 (H:=H) (H':=H') (m:=eE l os) rel (fun i c e a bj=>by
  obtain⟨j,d,e1,e2,rfl⟩:=xI e
  obtain⟨v,ev,es⟩:=v2 j _ e1
  replace es:σ[i]?=some (some v):=es
  rw [bj.2] at es
  cases es
  refine⟨true,d,rfl,?_⟩
  have em:ms[j]?=some true:=by rw [<- hm,BW,e1];rfl
  exact ra.ok j (.ow true d) (some (.ref a)) (by rw [oV ho,em,e2];rfl) (by rw [BW,ev];rfl)) (fun i a bj e=>by
  obtain⟨u,hu,_⟩:=rel.eJ ⟨i,bj⟩
  rw [hu]
  refine hC a u hu fun⟨j,h⟩=>?_
  rcases sd rel it hi hm hd h with⟨i',el,a1⟩|⟨d,_,a1⟩
  ·have:=rel.sep i i' a bj a1
   subst this
   have hj:j<os.length:=by rw [ho,hl];exact(Bf.mp el).1
   obtain⟨c,ec⟩:=xH el (Be hj)
   rw [ec] at e
   cases e
  ·exact apart bj a1) fz
 exact⟨key.1,⟨fun i p=>(st.md i p).trans (key.2 i p),kp0⟩⟩
end
section
variable {K:kb}
def xn(F:List D->R (D×List D))(n:Nat):Prop:=∀ ds y,F ds=.ok y->y.2.length=n
theorem zqn{fr:Bool}:xn (run ms fr m b) ms.length:=fun ds y h=>by
 unfold run at h
 split at h
 ·rename_i hd
  obtain⟨z,_,h⟩:=bK h
  obtain⟨fl,ρ⟩:=z
  cases fr with
  | false =>
   cases fl with
   | rt d=>cases h;exact wd hd
   | nx=>cases h;exact wd hd
   | _=>cases h
  | true =>
   cases fl with
   | rf d=>cases h;exact wd hd
   | _=>cases h
 ·cases h
theorem zmR{fr:Bool}(ho:xn F (kN a).length)(nd:(qb a).Nodup)(ct:qc a<=1)(σ:L2.St)(H:Hp)(Q:VK)(ρ:En)(rel:Rel K ρ σ H)
  (q:Good K ρ σ H (aY F a ρ) fun d ρ' H'=>∀ v,(if fr=true then ∃ a,v=.ref a/\H a=none/\cO K H' a d else Fz K H' d v)->Q v H'):zdJ (nh K (kN a) fr F) [] E (tAr K a) σ H Q:=by
 obtain⟨y,ey,q0⟩:=q.bU
 obtain⟨h1,h2,h3⟩:=xG ey
 refine⟨ρ,rel,?_⟩
 rw [ey]
 intro H1 ah aG vs it
 obtain⟨ds,ed,q1⟩:=q0.bQ
 obtain⟨z,ez,q2⟩:=q1.bQ
 obtain⟨hd,hv,ra⟩:=zkh rel aG ah it ed h1 (by rw [h2];exact nd) (by rw [h3];exact ct)
 rw [CV]
 refine⟨ds,hv,hd,ra,z.1,z.2,ez,fun v H' rb kp fin=>?_⟩
 obtain⟨r2,s2⟩:=zkg rel aG ah it ed h1 hd (ho ds z ez) rb kp
 refine q2 H' r2 s2 v ?_
 cases fr with
 | false=>exact fin
 | true =>
  obtain⟨ad,rfl,ha,m⟩:=fin
  exact⟨ad,rfl,aG.old ah ha,m⟩
theorem zsa(c:Callee X.prog X.w X.K X.mg X.base x k ps (nh X.K (kN a) false F))(ho:xn F (kN a).length)(nd:(qb a).Nodup)(ct:qc a<=1)(hr:aQ j X.A)(hg:Gl X x)(hx:Passes (bE X.prog X.w) X E)(ha:jZ K X (e::es) a)(hj:k<=j:=by decide)(bz:(x==("__debug__":ib))=false:=by decide)
  (he:Aw (e::es) X.env=(false,AB e X.env)::Aw es X.env:=by exact FL.se rfl) (aX:(A7 pos (Aw es X.env)).any (·.1)=false:=by exact FL.sp rfl):PV K X (.Call (.Name x p) (e::es) [] pos) (aY F a):=.mk fun hK=>by
 subst hK
 refine(tL c hr hg hx (ha rfl) hj bz he aX).weak fun σ H Q=>?_
 rintro⟨ρ,rel,q⟩
 exact zmR (fr:=false) ho nd ct σ H Q ρ rel q
end
end
variable {x0:ib}{a b:Av}
section
variable [Cs]
section
variable {K:kb}{st:AQ}
theorem zmw(rel:bF K C ρ σ H)(e:ρ[i]?=some (.ow false d)):∃ a u,H a=some u/\Own u/\∀ o,bF K C (ρ.set i (.val d)) σ (upd H a (.frz o u))/\aA H (upd H a (.frz o u)):=by
 obtain⟨a,bj,m⟩:=rel.rel.jO (d:=d) (show bw ρ i=.ok d by unfold bw;rw [e])
 obtain⟨u,e1,ow⟩:=m.own
 refine⟨a,u,e1,ow,fun o=>?_⟩
 have hl:i<ρ.length:=(Bf.mp e).1
 have eS:=rel.own i a d e bj.2
 have fz:aA H (upd H a (.frz o u)):=fun b w e2 sy=>by
  rw [aJ fun z=>by subst z;rw [e1] at e2;cases e2;exact ow.jo sy]
  exact e2
 refine⟨?_,fz⟩
 have fd:Fz K (upd H a (.frz o u)) d (.ref a):=by
  cases d with
  | list ds =>
   obtain⟨vs,h1,h2⟩:=m
   rw [e1] at h1
   cases h1
   simp only [Fz]
   exact⟨a,vs,rfl,.inl ⟨o,bS⟩,h2.mono fz⟩
  | dict aj =>
   simp only [Fz]
   obtain⟨kk,h1,h2⟩:=m
   rw [e1] at h1
   cases h1
   exact⟨a,o,rfl,⟨kk,bS,h2.mono fz⟩⟩
  | _=>exact m.elim
 have uR:∀ j b,At (ρ.set i (.val d)) σ j b->j≠i/\At ρ σ j b:=fun j b ⟨⟨q,dd,e1⟩,e2⟩=>by
  by_cases c:i=j
  ·subst c
   rw [Bj hl] at e1;cases e1
  ·rw [Bl c] at e1
   exact⟨fun z=>c z.symm,⟨q,dd,e1⟩,e2⟩
 refine⟨⟨by rw [CI];exact rel.rel.len,fun j y w e2 e3=>?_,fun j k b h1 h2=>rel.rel.sep j k b (uR j b h1).2 (uR k b h2).2,rel.rel.cst.mono fz⟩,fun b w e2 n=>?_,fun j b c e2 e3=>?_,fun j=>?_,fun j c e2=>?_,rel.lu⟩
 ·by_cases c:i=j
  ·subst c
   rw [Bj hl] at e2
   cases e2
   rw [bj.2] at e3
   cases e3
   exact fd
  ·rw [Bl c] at e2
   refine(rel.rel.ok j y w e2 e3).mono fz fun b e4 ⟨p,dd,e5⟩=>?_
   subst e4;subst e5
   refine aJ fun z=>?_
   subst z
   exact c (rel.rel.sep i j b bj ⟨⟨p,dd,e2⟩,e3⟩)
 ·rw [aJ fun z=>by subst z;rw [eS] at e2;cases e2]
  exact rel.keep b w e2 n
 ·by_cases c:i=j
  ·subst c
   rw [Bj hl] at e2;cases e2
  ·rw [Bl c] at e2
   exact rel.own j b _ e2 e3
 ·by_cases c:i=j
  ·subst c
   rw [Bj hl,<- rel.pin i,e]
   constructor
   ·rintro⟨_,z⟩;cases z
   ·rintro⟨_,z⟩;cases z
  ·rw [Bl c];exact rel.pin j
 ·by_cases k:i=j
  ·subst k
   rw [Bj hl] at e2;cases e2
  ·rw [Bl k] at e2
   exact rel.fix j c e2
theorem ziq(i:Nat)(hh:cN K X st s):cN K X st (iZ i s):=.mk fun hK C=>by
 have h1:PS X st (fun Dn σ H=>tS K C s { Dn with nx:=fun σ H=>∃ a u,H a=some u/\Own u/\∀ o,Dn.nx σ (upd H a (.frz o u)) } σ H):=fun pins sh σ H Dn I q=>by
  refine aE (hh hK C pins sh σ H _ I q) fun fl s1 z=>?_
  cases fl with
  | next =>
   obtain⟨σ',H',I',a,u,e,ow,q⟩:=z
   obtain⟨o,ho⟩:=(I'.ax a u e).some
   exact⟨σ',_,zbJ I' e ow ho,q o⟩
  | brk=>exact z
  | cont=>exact z
  | ret v=>exact z
 refine h1.weak fun Dn σ H=>?_
 rintro⟨ρ,rel,g⟩
 refine⟨ρ,rel,?_⟩
 obtain⟨x,ex,g1⟩:=g.bU
 rw [ex]
 obtain⟨fl,ρ1⟩:=x
 cases fl with
 | nx =>
  replace g1:dE K C H (match ρ1[i]? with|some (.ow false d)=>.ok (.nx,ρ1.set i (.val d))|_=>.bad) Dn:=g1
  cases e:ρ1[i]? with
  | none=>rw [e] at g1;exact g1.elim
  | some y =>
   rw [e] at g1
   cases y with
   | ow p d =>
    cases p with
    | true=>exact g1.elim
    | false =>
     intro σ' H' r z
     obtain⟨a,u,e1,ow,k⟩:=zmw r e
     exact⟨a,u,e1,ow,fun o=>g1 σ' _ (k o).1 (z.trans (k o).2)⟩
   | _=>exact g1.elim
 | bk=>exact g1
 | ct=>exact g1
 | rt d=>exact g1
 | rf d=>exact g1
theorem zsK{px pt:AD}{kt k2 kB}(hc:X.calm=true)(hN:X.N.Nodup)(hi:X.N[i]?=some x)(hj:X.N[j]?=some y)(eI:i≠j)
  (hx:X.env.scope.names.lookup x=some .local)(hy:X.env.scope.names.lookup y=some .local)(ha:PV K X a f)(hb:PV K X b h)
  (hw:E7 [.Tuple [.Name x px,.Name y py] kt pt] (.Tuple [a,b] k2 kB) X.env=pure (some [x,y]))
  (hs:E6 [.Tuple [.Name x px,.Name y py] kt pt] (.Tuple [a,b] k2 kB) pos.line X.env=pure false:=by rfl)(iS:Aw [a,b] X.env=(false,AB a X.env)::Aw [b] X.env:=by exact FL.se rfl)(cK:Aw [b] X.env=(false,AB b X.env)::Aw [] X.env:=by exact FL.se rfl) :
  cN K X (.Assign [.Tuple [.Name x px,.Name y py] kt pt] (.Tuple [a,b] k2 kB) pos) (de i j f h):=.mk fun hK C=>(zrF hc hN hi hj eI hx hy (gm (ha hK) (gm (hb hK) jq cK) iS) hw hs).weak fun Dn σ H=>by
 rintro⟨ρ,rel,g⟩
 refine ki rel g fun d ρ1 v H1 ah aG fz g1=>ki ah g1 fun d2 ρ2 v2 H2 cC bY fz2 g2=>?_
 obtain⟨ρ3,e3,g3⟩:=g2.bU
 obtain⟨ρ4,e4,g4⟩:=g3.bU
 obtain⟨rfl,n1,l1⟩:=vm e3
 obtain⟨rfl,n2,l2⟩:=vm e4
 have f1:=fz.mono (bY.cJ ah.rel)
 have r3:=cC.chg (cC.rel.set (i:=i) (x:=.val d) (v:=some v) f1 fun _ _ _ z=>nomatch z) (uW n1 l1)
 have r4:=r3.chg (r3.rel.set (i:=j) (x:=.val d2) (v:=some v2) fz2 fun _ _ _ z=>nomatch z) (uW n2 l2)
 exact⟨v,v2,rfl,g4 _ H2 r4 (aA.refl _)⟩
theorem zsA{pl:AD}(ha:PV K X a f)(hb:PV K X b h)(hs:Aw [a] X.env=(false,AB a X.env)::Aw [] X.env:=by exact FL.se rfl):bg K X (.BinOp (.List [a] pl) .Mult b pos) (jh f h):=.mk fun hK=>(zhY zqC (zhW (gm (ha hK) jq hs)) (hb hK)).weak fun σ H Q=>by
 rintro⟨ρ,rel,q⟩
 refine eG rel q fun dx ρ1 x H1 ah aG fx q1=>⟨by show 1<=AU;rw [BR];decide,fun l hl=>?_⟩
 have s0:aC H1 (upd H1 l (.lst [x])):=aC.upd hl
 have ik:¬ MA ρ1 σ l:=fun z=>by
  obtain⟨o',e',_⟩:=ah.eJ z
  rw [hl] at e';cases e'
 refine eG (ah.same s0) (q1.step (.of s0)) fun dy ρ2 y H2 cC bY fy q2=>?_
 have jM:H2 l=some (.lst [x]):=bY.kp l _ bS ik
 cases dy with
 | int k =>
  obtain⟨c,q3⟩:=Good.aR (c:=decide (0<=k)&&leB k.toNat 1000000) q2
  simp only [Fz] at fy
  subst fy
  simp only [Bs,decide_eq_true_eq,leB_iff] at c
  have el:∀{α:Type} (z:α) (n:Nat),(AI n [z]).flatten=AI n z:=fun z n=>by
   induction n with
   | zero=>rfl
   | succ n ih=>rw [Dy,Fp,ih];rfl
  refine⟨l,k,[x],rfl,rfl,jM,by omega,by omega,?_,fun p hp=>?_⟩
  ·rw [BR,DM];omega
  ·rw [el]
   have s2:aC H2 (upd H2 p (.lst (AI k.toNat x))):=aC.upd hp
   have fx2:Fz K (upd H2 p (.lst (AI k.toNat x))) dx x:=((fx.mono (aA.of s0)).mono (bY.cJ (ah.same s0))).mono (aA.of s2)
   refine q3.new cC s2 p ?_ ⟨_,bS,?_⟩
   ·cases e0:H p with
    | none=>rfl
    | some o =>
     by_cases mm:MA ρ σ p
     ·obtain⟨o',e',_⟩:=cC.eJ (bY.ma.mp (aG.ma.mp mm))
      rw [hp] at e';cases e'
     ·have e1:=s0 p o (aG.kp p o e0 mm)
      rw [bY.kp p o e1 fun z=>mm (aG.ma.mpr z)] at hp;cases hp
   ·have:∀ n:Nat,ag K (upd H2 p (.lst (AI k.toNat x))) (AI n dx) (AI n x):=fun n=>by
     induction n with
     | zero=>simp [ag]
     | succ n ih=>rw [Dy,Dy];simp only [ag];exact⟨x,_,rfl,fx2,ih⟩
    exact this _
 | _=>exact q2.elim
theorem zsJ{oW:AD}(i0:Nat)(L:List ib)(ix:List Nat)(M:List ib)(hN:X.N.Nodup)(vF:X.N[i0]?=some x0)(sP:X.env.scope.names.lookup x0=some .local)
  (qI:Bx (.ListComp elt [⟨tg,iter,ifs,0⟩] scope pos) (some (.Name x0 pos')) oW.line X.env=pure true)(hc:X.calm=true)(hk:scope.kind=.function)
  (hd:lV X.env.scope scope X.N ix=true)(hM:M=L++ix.map fun i=>X.N.getD i "") (nd:ix.Nodup) (hi:hU K X tg iter it)
  (hg:∀ C s₃ H₃ fp,hJ K (cW X M scope C s₃ H₃ fp) dom tg g) (dS:dom.all (fun i=>decide (i<L.length))=true)
  (ht:∀ C s₃ H₃ fp,lP K (cW X M scope C s₃ H₃ fp) ifs t) (he:∀ C s₃ H₃ fp,PV K (cW X M scope C s₃ H₃ fp) elt f)
  (hs:∀ x,CA iter X.env x=pure x:=by intro _;rfl) :
  cN K X (.Assign [.Name x0 pos'] (.ListComp elt [⟨tg,iter,ifs,0⟩] scope pos) oW) (c9 i0 (eR L.length ix it g t f)):=.mk fun hK C =>
 (zrI i0 L ix M hN vF sP qI hc hk hd hM (hi hK) (fun C s₃ H₃ fp=>hg C s₃ H₃ fp hK) (zbX dS) (fun C s₃ H₃ fp=>ht C s₃ H₃ fp hK) (fun C s₃ H₃ fp=>he C s₃ H₃ fp hK) hs).weak fun Dn σ H q=>zgp nd dS σ H _ (zgt Dn σ H q)
end
end
variable {f:SF}
section
variable [Cs]
structure Blt(mg:ib->Option gV):Prop where
 vY:mg "abs"=none
 bN:mg "isinstance"=none
 sZ:mg "int"=none
 sY:mg "bool"=none
 oH:mg "tuple"=none
 kZ:mg "list"=none
 zhD:mg "str"=none
 mV:mg "len"=none
 zj:mg "all"=none
 mW:mg "range"=none
 zk:mg "zip"=none
 vZ:mg "enumerate"=none
 zhB:mg "max"=none
 zhC:mg "min"=none
 zcX:mg "sum"=none
 v3:mg "sorted"=none
 zhA:mg "dict"=none
 zhz:mg "any"=none
namespace Bt
theorem abs:Bo "abs"=some (.builtin "abs"):=by decide +kernel
theorem len:Bo "len"=some (.builtin "len"):=by decide +kernel
theorem all:Bo "all"=some (.builtin "all"):=by decide +kernel
theorem sum:Bo "sum"=some (.builtin "sum"):=by decide +kernel
theorem sorted:Bo "sorted"=some (.builtin "sorted"):=by decide +kernel
theorem int:Bo "int"=some (.type "int"):=by decide +kernel
theorem bool:Bo "bool"=some (.type "bool"):=by decide +kernel
theorem tuple:Bo "tuple"=some (.type "tuple"):=by decide +kernel
theorem list:Bo "list"=some (.type "list"):=by decide +kernel
end Bt
theorem zL{K:kb}{st:List AQ}(h:eO K X.cF st f):eO K X st f:=.mk fun hK C=>bW.cF (h hK C)
theorem zpa{K:kb}{G:List D->R D}{H:Hp}{a:dm}{ns:List Int}(h:G [.list (ns.map Bi)]=.ok (.bool true))(hO:∀ b xs,H b≠some (.lst xs))(hC:i6 H)(hS:bp K H a (ns.map V.int)):jx K 1 false G [.ref a] H (fun v _=>v=.bl true) fun _ _ _=>False:=by
 refine⟨[.list (ns.map Bi)],rfl,hC,?_,.bool true,h,fun v H' _ fz=>by simpa [Fz] using fz⟩
 simp only [ag,Fz]
 refine⟨.ref a,[],rfl,⟨a,ns.map V.int,rfl,?_,ag.ofInts ns⟩,rfl⟩
 rcases hS with(hS|⟨o,hS⟩)|hS
 ·exact absurd hS (hO a _)
 ·exact .inl ⟨o,hS⟩
 ·exact .inr hS
end
end FL
namespace FL
open PySem
end FL
namespace L2
open PySem PySem.Spec PyProof.Rows
section
end
section
end
end L2
namespace FL
open PySem L2 PySem.Spec
open PyProof.Rows hiding St
variable [Cs]
end FL
namespace FL
open PySem
abbrev K1:=Int ⊕ ib
abbrev KQ:=List K1 ⊕ K1
noncomputable def yZ:D->Option K1
 | .int i=>some (.inl i)
 | .str x=>some (.inr x)
 | _=>none
noncomputable def kY:List D->Option (List K1)
 | []=>some []
 | d::r=>(yZ d).bind fun k=>(kY r).map fun ks=>k::ks
noncomputable def keyOf:D->Option KQ
 | .tuple xs=>(kY xs).map .inl
 | _=>none
noncomputable def yw:KQ->Bool
 | .inl _=>true
 | .inr _=>false
noncomputable def keysOk(f:Bool)(aj:List (D×D)):Bool:=aj.all fun kv=>match keyOf kv.1 with
 | some q=>yw q==f
 | none=>false
noncomputable def look(aj:List (D×D))(q:KQ):Option D:=(aj.find? fun kv=>decide (keyOf kv.1=some q)).map (·.2)
noncomputable def wo(aj:List (D×D))(k:D)(q:KQ)(v:D):List (D×D) :=
 if(aj.any fun kv=>decide (keyOf kv.1=some q))=true then aj.map fun kv=>if keyOf kv.1=some q then(kv.1,v) else kv else aj++[(k,v)]
noncomputable def zlM(aj:List (D×D))(q:KQ):List (D×D):=aj.filter fun kv=>decide (keyOf kv.1≠some q)
noncomputable def dictAt(d k:D):R (List (D×D)×KQ):=match d with
 | .dict aj=>(R.of (keyOf k)).bind fun q=>aR (keysOk (yw q) aj) (.ok (aj,q))
 | _=>.bad
noncomputable def nN(d k:D):R (Option D):=(dictAt d k).bind fun x=>.ok (look x.1 x.2)
noncomputable def zmL(d k x:D):R D:=(nN d k).bind fun o=>.ok (o.getD x)
noncomputable def inD(k d:D):R D:=(nN d k).bind fun o=>.ok (.bool o.isSome)
noncomputable def hW(d k:D):R D:=(nN d k).bind fun o=>R.of o
noncomputable def qj(d k v:D):R D:=(dictAt d k).bind fun x=>aR (leB (x.1.length+1) lim) (.ok (.dict (wo x.1 k x.2 v)))
noncomputable def zlF(d k:D):R D:=(dictAt d k).bind fun x=>aR (look x.1 x.2).isSome (.ok (.dict (zlM x.1 x.2)))
noncomputable def kn:D->R (List D)
 | .dict aj=>.ok (aj.map (·.1))
 | _=>.bad
noncomputable def mR(i:Nat)(k x:EF):EF:=fun ρ=>(bw ρ i).bind fun c0=>(kn c0).bind fun _=>(k ρ).bind fun a=>(x a.2).bind fun b=>(bw b.2 i).bind fun c=>(zmL c a.1 b.1).bind fun d=>.ok (d,b.2)
noncomputable def e3(g:D->D->D->R D)(d k x:EF):EF:=fun ρ=>(d ρ).bind fun c=>(k c.2).bind fun a=>(x a.2).bind fun b=>(g c.1 a.1 b.1).bind fun r=>.ok (r,b.2)
noncomputable def iC(i:Nat)(k f:EF):SF:=fun ρ=>(f ρ).bind fun v=>(bw v.2 i).bind fun _=>(k v.2).bind fun a=>(bw a.2 i).bind fun c=>(qj c a.1 v.1).bind fun d=>.ok (.nx,eh a.2 i d)
noncomputable def lX(i:Nat)(k:EF):SF:=fun ρ=>(bw ρ i).bind fun _=>(k ρ).bind fun a=>(bw a.2 i).bind fun c=>(zlF c a.1).bind fun d=>.ok (.nx,eh a.2 i d)
noncomputable def iD(f:EF):IF:=fun ρ=>(f ρ).bind fun x=>(kn x.1).bind fun l=>.ok (l,x.2)
noncomputable def mj(k v:EF):EF:=fun ρ=>(k ρ).bind fun x=>(v x.2).bind fun y=>(qj (.dict []) x.1 y.1).bind fun d=>.ok (d,y.2)
noncomputable def je:EF:=fun ρ=>.ok (.dict [],ρ)
end FL
namespace PySem
open Spec
end PySem
namespace L2
open PySem PySem.Spec PyProof.Rows
end L2
namespace PySem
open Spec
variable {A:AR}{ep i:Nat}{E:gV->ir->Prop}{w:AJ}{Q:Option gV->ir->Prop}{s:ir}{d it:dm}{es:Array C4}{prog:AK}
section
structure iO(h:Az)(d:dm)(es:Array C4)(ep:Nat):Prop where
 ex:∃ o,h.get? d=some o/\o.ExactDict/\o.data=.dict es ep
theorem iO.typ(x:iO s.heap d es ep):s.TypeIs (.ref d) "dict":=by
 obtain⟨o,ho,hc,_⟩:=x.ex
 exact⟨o,ho,hc.1⟩
theorem zny{Q:gV->ir->Prop}(hd:(d==DC)=false)(x:iO s.heap d es ep)
  (hQ:Q (.ref s.heap.objs.size) { s with heap:=s.heap.push { cls:=.type "dict_keyiterator",data:=.fields #[.ref d,.int 0 0,.int es.size 0,.int ep 0] } }):Ax (Ay prog w) A (pyIter (.ref d)) Q E s:=by
 obtain⟨o,ho,hc,zgw⟩:=x.ex
 have hT:=x.typ
 refine wpAny_pyIter_slot hT F.slot_dict_iter (De F.slot_dict_iter hT F.entry_dict_iter ?_ (F.args_dict_iter_1 _))
 unfold Ci.«dict.__iter__» Builtin.Dict.dictSlotNone
 refine pd (pd (wpAny_notOrdered_dict hT ?_))
 show Ax _ _ (pure (A8 d)) _ _ s
 refine AH ?_
 show Ax _ _ (Jy d >>= _) _ _ s
 unfold Jy
 rw [if_neg (by rw [hd];exact BU)]
 refine pd (AH (pd (Ie ho zgw (pd (Ig ho zgw ?_)))))
 refine pd (Cz (AH ⟨_,rfl,"dict_keyiterator",_,⟨_,Bv _ rfl,rfl⟩,F9.lookup,?_⟩))
 simpa [Ce] using hQ
theorem zpQ(hit:s.heap.IsKeyIter it d i es.size ep)(x:iO s.heap d es ep)(hi:i<es.size)
  (hQ:∀ h',h'.IsKeyIter it d (i+1) es.size ep->Em it s.heap h'->Q (some es[i].key) { s with heap:=h' }):Ax (Ay prog w) A (C9 (.ref it)) Q E s:=by
 obtain⟨o,ho,hc,hd⟩:=id hit
 obtain⟨od,mJ,fi,fJ⟩:=x.ex
 unfold C9
 refine pd (G1 (D8 (name:=D9 "__next__") hit.typeIs F9 (De F9 hit.typeIs Jz ?_ (JA _))))
 refine pd (AH (pd (pd ?_)))
 first|refine pd (G2 hit.typeIs (AH ?_))|refine pd (G3 hit.typeIs (AH ?_))
 refine pd (wpAny_fieldsOf ho hd ?_)
 have zcw:JB "dict_keyiterator"=false:=by decide
 simp only [zcw,Bm,if_false]
 show Ax _ _ (if(A8 d==Br)=true then _ else _) _ _ s
 rw [if_neg (show ¬ ((A8 d==Br)=true) from BU)]
 refine pd (AH (pd (Ie mJ fJ ?_)))
 rw [if_neg (by simp)]
 refine pd (AH (pd (Ig mJ fJ ?_)))
 rw [if_neg (by simp)]
 refine AH ?_
 simp only [show ¬ ((i:Int)<0) from by omega,if_false,G4,HQ hi]
 refine pd ?_
 first|refine pd (G2 hit.typeIs (AH ?_))|refine pd (G3 hit.typeIs (AH ?_))
 refine pd (wpAny_isOneOf_keyiter hit.typeIs ?_)
 show Ax _ _ (setField (.ref it) 1 (Ce ((i:Int)+1)) >>= _) _ _ s
 refine pd (EC ho hd (by simp) ?_)
 have yK:(s.heap.update it (GK (·.setIfInBounds 1 (Ce ((i:Int)+1))))).IsKeyIter it d (i+1) es.size ep :=
  ⟨_,Fo _ ho (GJ (ED hd _)),(HM ..).trans hc,by rw [ED hd];simp [Ce]⟩
 refine pd (Cu (pd (wpAny_isOneOf_keyiter (s:={ s with heap:=s.heap.update it (GK (·.setIfInBounds 1 (Ce ((i:Int)+1)))) }) yK.typeIs ?_)))
 show Ax _ _ (pure es[i].key) _ _ _
 exact AH (AH ⟨_,rfl,AH (hQ _ yK (DT ..))⟩)
theorem zbB(hh:A.handled=none)(hit:s.heap.IsKeyIter it d i es.size ep)(x:iO s.heap d es ep)(hge:es.size<=i)
  (hQ:∀ h',Heap.ExtBut it s.heap h'->Q none { s with heap:=h' }):Ax (Ay prog w) A (C9 (.ref it)) Q E s:=by
 obtain⟨o,ho,hc,hd⟩:=id hit
 obtain⟨od,mJ,fi,fJ⟩:=x.ex
 unfold C9
 refine pd (G1 (D8 (name:=D9 "__next__") hit.typeIs F9 (De F9 hit.typeIs Jz ?_ (JA _))))
 refine pd (AH (pd (pd ?_)))
 first|refine pd (G2 hit.typeIs (AH ?_))|refine pd (G3 hit.typeIs (AH ?_))
 refine pd (wpAny_fieldsOf ho hd ?_)
 have zcw:JB "dict_keyiterator"=false:=by decide
 simp only [zcw,Bm,if_false]
 show Ax _ _ (if(A8 d==Br)=true then _ else _) _ _ s
 rw [if_neg (show ¬ ((A8 d==Br)=true) from BU)]
 refine pd (AH (pd (Ie mJ fJ ?_)))
 rw [if_neg (by simp)]
 refine pd (AH (pd (Ig mJ fJ ?_)))
 rw [if_neg (by simp)]
 refine AH ?_
 simp only [show ¬ ((i:Int)<0) from by omega,if_false,G4,Array.getElem?_eq_none hge]
 refine pd ?_
 first|refine pd (G2 hit.typeIs (AH ?_))|refine pd (G3 hit.typeIs (AH ?_))
 show Ax _ _ (setField (.ref it) 0 .none >>= _) _ _ s
 refine pd (EC ho hd (by simp) ?_)
 show Ax _ _ (newExc (.type "StopIteration") [] >>= _) _ _ _
 refine pd ?_
 simp only [newExc,newTuple]
 refine pd (Cz ?_ (by size_fits))
 refine pd (m:=G5 _ _) (wpAny_of_eq (a:=Br) (by first|rfl|(simp only [G5];rfl)) ?_)
 refine Cz ?_ (by size_fits)
 simp only [raiseNew]
 refine pd (wpAny_handled ?_)
 rw [show A.in1.handled=none from hh]
 refine pd (AH (wpAny_throw ?_))
 refine pd (Ih (T:="StopIteration") (b:=true) ⟨_,Bv _ rfl,rfl⟩ isSubtype_stop ?_)
 exact AH (hQ _ (((DT ..).extBut.push _).push _))
end
end PySem
namespace L2
open PySem PySem.Spec PyProof.Rows
section
end
variable {pins:List (dm×AA)}{o:Option V}{E:gV->ir->Prop}{X:Cx}{s:ir}{σ:St}{A:AR}{H H':Hp}{Q:Unit->ir->Prop}{a:dm}
section
def DG(H:Hp)(a:dm)(y:V)(r:Option V):Prop :=
 wW H a y r
section
variable {y v d:V}{u r:gV}
theorem zlG{Q:gV->ir->Prop}(hu:A.units+1<BV)(I:Inv X pins σ H s)(g:DG H a y o)(ry:RelV y u)(h:∀ s',Inv X pins σ H s'->Q (.bool o.isSome) s') :
  Ax (Ay X.prog X.w) A (A3 .In u (.ref a)) Q E s:=by
 exact zlo hu I g ry h
def DP(H:Hp)(a:dm)(y v:V)(H':Hp):Prop :=
 zdW H a y v H'
theorem zlL(hu:A.units+1<BV)(I:Inv X pins σ H s)(g:DP H a y v H')(ry:RelV y u)(rv:RelV v r)(h:∀ s',Inv X pins σ H' s'->Q () s') :
  Ax (Ay X.prog X.w) A (setItem (.ref a) u r) Q E s:=by
 exact zlz hu I g ry rv h
end
section
variable {o i e f value:Av}{apos cv pos pos':AD}{td ty tx tv:TE}
noncomputable def zt6(td ty tv:TE):TS:=fun D σ H=>tv σ H fun v H1=>td σ H1 fun x H2=>ty σ H2 fun y H3=>∃ a H4,x=.ref a/\DP H3 a y v H4/\D.nx σ H4
theorem zrE(hu:X.A.units+1<BV)(ho:PE X o td)(hi:PE X i ty)(hv:PE X value tv)(hs:Bx value (some (.Subscript o i pos')) pos.line X.env=pure false) :
  PS X (.Assign [.Subscript o i pos'] value pos) (zt6 td ty tv):=by
 intro pins s σ H D I h
 refine wpAny_Assign_Subscript (aE (hv pins s σ H _ I h) fun r s1 ⟨v,H1,I1,rv,q1⟩=>aE (ho pins s1 σ H1 _ I1 q1) fun u s2 ⟨x,H2,I2,rx,q2⟩=>aE (hi pins s2 σ H2 _ I2 q2) fun iv s3 ⟨y,H3,I3,ry,a,H4,ex,g,q3⟩=>?_) hs
 subst ex
 obtain rfl:u=A8 a:=rx
 exact zlL hu I3 g ry rv fun s4 I4=>⟨σ,H4,I4,q3⟩
end
end
end L2
namespace FL
open PySem L2 PySem.Spec
open PyProof.Rows hiding St
variable {o:Option D}{v y:V}{k:Key}{d:D}{ks:List Key}{a b:dm}{kk:List (List Key×V)}{q:KQ}{α:Type}{aj:List (D×D)}{x:List (D×D)×KQ}
section
variable [Cs]
theorem zc7{o:Option α}{a:α}(h:R.of o=.ok a):o=some a:=by
 cases o with
 | none=>cases h
 | some b=>cases h;rfl
theorem znP(k:Key):yZ (kD k)=some k:=by cases k <;> rfl
theorem zg0:∀ ks:List Key,kY (ks.map kD)=some ks
 | []=>rfl
 | k::r=>by simp only [A2,kY,znP,Option.bind_some,zg0 r,CJ]
theorem vP(q:List Key):keyOf (mO q)=some (.inl q):=by simp only [mO,keyOf,zg0,CJ]
theorem znO(h:yZ d=some k):d=kD k:=by
 cases d with
 | int i=>cases h;rfl
 | str i=>cases h;rfl
 | _=>cases h
theorem zgZ:∀{ds:List D} {ks:List Key},kY ds=some ks->ds=ks.map kD
 | [],ks,h=>by simp only [kY,Ct] at h;subst h;rfl
 | d::r,ks,h=>by
  simp only [kY,CK,C2] at h
  obtain⟨k,e,ks',e',rfl⟩:=h
  rw [znO e,zgZ e'];rfl
section
variable {K:kb}{H H':Hp}
theorem zmy:Fz K H (kD k) (kV k):=by cases k <;> simp [kD,kV,Fz]
theorem znN(h:Fz K H (kD k) v):v=kV k:=by cases k <;> simpa [kD,kV,Fz] using h
theorem zgk:∀ ks:List Key,ag K H (ks.map kD) (ks.map kV)
 | []=>by simp [ag]
 | k::r=>by simp only [A2,ag];exact⟨_,_,rfl,zmy,zgk r⟩
theorem zgP:∀{ks:List Key} {vs:List V},ag K H (ks.map kD) vs->vs=ks.map kV
 | [],vs,h=>by simpa [ag] using h
 | k::r,vs,h=>by
  simp only [A2,ag] at h
  obtain⟨v,t,rfl,h1,h2⟩:=h
  rw [znN h1,zgP h2];rfl
theorem zmz(h:dU H b (ks.map kV)):Fz K H (mO ks) (.ref b):=by
 simp only [mO,Fz]
 exact⟨b,_,rfl,h,zgk ks⟩
theorem zi0{k:D}(f:Tp K H k v)(e:keyOf k=some q):∃ ks b,q=.inl ks/\k=mO ks/\v=.ref b/\dU H b (ks.map kV):=by
 cases k with
 | tuple xs =>
  simp only [keyOf,C2] at e
  obtain⟨ks,e1,rfl⟩:=e
  have:=zgZ e1
  subst this
  obtain⟨b,vs,rfl,tb,fa⟩:=(show ∃ a vs,v=.ref a/\dU H a vs/\ag K H (ks.map kD) vs by simpa [Tp,Fz] using f)
  rw [zgP fa] at tb
  exact⟨ks,b,rfl,rfl,rfl,tb⟩
 | _=>cases e
theorem zhc:∀{aj:List (D×D)} {kk:List (List Key×V)},bt K H aj kk->∀ q:List Key,(look aj (.inl q)=none/\kG kk q=none)\/∃ d v,look aj (.inl q)=some d/\kG kk q=some v/\Fz K H d v
 | [],kk,h,q=>by simp only [bt] at h;subst h;exact .inl ⟨rfl,rfl⟩
 | (k,d)::r,kk,h,q=>by
  simp only [bt] at h
  obtain⟨q',v,t,rfl,rfl,f,h2⟩:=h
  by_cases c:q'=q
  ·subst c
   exact .inr ⟨d,v,by simp [look,Ed,vP],zdQ rfl,f⟩
  ·have e1:look ((mO q',d)::r) (.inl q)=look r (.inl q):=by simp [look,Ed,vP,c]
   rw [e1,zdP (p:=(q',v)) c]
   exact zhc h2 q
theorem zfQ{k:D}(h:dictAt d k=.ok x):d=.dict x.1/\keyOf k=some x.2/\keysOk (yw x.2) x.1=true:=by
 cases d with
 | dict aj =>
  obtain⟨q,e1,h⟩:=bK (show(R.of (keyOf k)).bind _=.ok x from h)
  obtain⟨c,h⟩:=gM h
  cases h
  exact⟨rfl,zc7 e1,c⟩
 | _=>cases h
theorem zfO{k:D}{x:V}(t:Tp K H d x)(f:Tp K H k y)(e:nN d k=.ok o) :
  ∃ a r,x=.ref a/\xi H a/\DG H a y r/\((o=none/\r=none)\/∃ d v,o=some d/\r=some v/\Fz K H d v):=by
 obtain⟨⟨aj,q⟩,e1,e⟩:=bK (show(dictAt d k).bind _=.ok o from e)
 cases e
 obtain⟨rfl,ek,c⟩:=zfQ e1
 obtain⟨a,ea,kk,rd,h⟩:=(show ∃ a,x=.ref a/\∃ kk,Rd H a (.dT kk)/\bt K H aj kk from t)
 subst ea
 obtain⟨ks,b,rfl,rfl,rfl,tb⟩:=zi0 f ek
 refine⟨a,kG kk ks,rfl,⟨kk,rd⟩,⟨kk,ks,b,rd,rfl,tb,rfl⟩,?_⟩
 rcases zhc h ks with⟨z1,z2⟩|⟨d,v,z1,z2,z3⟩
 ·exact .inl ⟨z1,z2⟩
 ·exact .inr ⟨d,v,z1,z2,z3⟩
theorem zeC:∀{aj:List (D×D)} {kk:List (List Key×V)},bt K H aj kk->∀ q:List Key,(aj.any fun kv=>decide (keyOf kv.1=some (.inl q)))=kk.any fun kv=>decide (kv.1=q)
 | [],kk,h,q=>by simp only [bt] at h;subst h;rfl
 | (k,d)::r,kk,h,q=>by
  simp only [bt] at h
  obtain⟨q',v,t,rfl,rfl,f,h2⟩:=h
  simp only [HS,zeC h2 q,vP,Ct,Sum.inl.injEq]
theorem ziz{d:D}{v:V}(f:Fz K H d v):∀{aj:List (D×D)} {kk:List (List Key×V)},bt K H aj kk->∀ q:List Key,bt K H (aj.map fun kv=>if keyOf kv.1=some (.inl q) then(kv.1,d) else kv) (kk.map fun kv=>if kv.1=q then(kv.1,v) else kv)
 | [],kk,h,q=>by simp only [bt] at h;subst h;simp [bt]
 | (k,d0)::r,kk,h,q=>by
  simp only [bt] at h
  obtain⟨q',v0,t,rfl,rfl,f0,h2⟩:=h
  have ih:=ziz f h2 q
  by_cases c:q'=q
  ·subst c
   simp only [A2,vP,if_true,bt]
   exact⟨q',v,_,rfl,rfl,f,ih⟩
  ·simp only [A2,vP,Ct,Sum.inl.injEq,if_neg c,bt]
   exact⟨q',v0,_,rfl,rfl,f0,ih⟩
theorem zeE{d:D}{v:V}(f:Fz K H d v)(q:List Key):∀{aj:List (D×D)} {kk:List (List Key×V)},bt K H aj kk->bt K H (aj++[(mO q,d)]) (kk++[(q,v)])
 | [],kk,h=>by simp only [bt] at h;subst h;simp only [BA,bt];exact⟨q,v,[],rfl,rfl,f,rfl⟩
 | (k,d0)::r,kk,h=>by
  simp only [bt] at h
  obtain⟨q',v0,t,rfl,rfl,f0,h2⟩:=h
  simp only [B1,bt]
  exact⟨q',v0,_,rfl,rfl,f0,zeE f q h2⟩
theorem zr6(h:bt K H aj kk)(f:Fz K H d v)(q:List Key):bt K H (wo aj (mO q) (.inl q) d) (putK kk q v):=by
 unfold wo putK
 rw [zeC h q]
 split
 ·exact ziz f h q
 ·exact zeE f q h
theorem bt.len:∀{aj:List (D×D)} {kk:List (List Key×V)},bt K H aj kk->kk.length=aj.length
 | [],kk,h=>by simp only [bt] at h;subst h;rfl
 | (k,d0)::r,kk,h=>by
  simp only [bt] at h
  obtain⟨q',v0,t,rfl,rfl,f0,h2⟩:=h
  simp [h2.len]
theorem zmB{u o:HO}(e:H a=some u)(ow:Own u):aA H (upd H a o):=fun b w eb st=>by
 rw [aJ fun z=>by subst z;rw [e] at eb;cases eb;exact ow.jo st]
 exact eb
theorem zlK{c k dv d':D}(m:cO K H a c)(f:Fz K H k y)(g:Fz K H dv v)(e:qj c k dv=.ok d'):∃ o,DP H a y v (upd H a o)/\cO K (upd H a o) a d':=by
 obtain⟨⟨aj,q⟩,e1,e⟩:=bK (show(dictAt c k).bind _=.ok d' from e)
 obtain⟨l,e⟩:=gM e
 cases e
 obtain⟨rfl,ek,c⟩:=zfQ e1
 have hl:aj.length+1<=AU:=By (mP l) oE
 obtain⟨kk,rd,h⟩:=(show ∃ kk,H a=some (.dT kk)/\bt K H aj kk from m)
 have fz:∀ o,aA H (upd H a o):=fun o=>zmB rd trivial
 obtain⟨ks,b,rfl,rfl,rfl,tb⟩:=zi0 f.tp ek
 exact⟨.dT (putK kk ks v),⟨kk,ks,b,rd,rfl,tb,by rw [h.len];omega,rfl⟩,⟨_,bS,(zr6 h g ks).mono (fz _)⟩⟩
end
end
variable {y:ib}{k:EF}{X:Cx}{ke:Av}
section
variable [Cs]
section
theorem zqv(hu:X.A.units+1<BV):aV X (A3 .In) (rD X.K inD):=by
 intro pins s σ H x y v u Q I rx ry h
 obtain⟨dx,dy,d,tx,ty,e,q⟩:=h
 obtain⟨o,e1,e⟩:=bK (show(nN dy dx).bind _=.ok d from e)
 cases e
 obtain⟨a,r,rfl,_,g,rel⟩:=zfO ty tx e1
 cases ry
 have hb:o.isSome=r.isSome:=by
  rcases rel with⟨rfl,rfl⟩|⟨_,_,rfl,rfl,_⟩ <;> rfl
 exact zlG hu I g rx fun s3 I3=>⟨.bl r.isSome,H,I3,rfl,q _ H (aC.refl _) (by rw [hb];simp [Fz])⟩
theorem znz(hu:X.A.units+1<BV):lN X (rD X.K hW):=by
 intro value slice pins s σ H x y v u Q I rx ry h hs
 obtain⟨dx,dy,d,tx,ty,e,q⟩:=h
 obtain⟨o,e1,e⟩:=bK (show(nN dx dy).bind _=.ok d from e)
 have eo:=zc7 e
 subst eo
 obtain⟨a,r,rfl,_,g,rel⟩:=zfO tx ty e1
 cases rx
 rcases rel with⟨z,_⟩|⟨d',w,z,rfl,fz⟩
 ·cases z
 cases z
 have hT:=zlI I g
 have h2:Ax (Ay X.prog X.w) X.A (DL (.ref a) u) (EP X pins σ Q) X.xe s:=zln hu I g ry fun w' s3 I3 iX=>⟨w,H,I3,iX,q w H (aC.refl _) fz⟩
 unfold HH
 refine pd ?_
 rw [getitemInPython_of_ne hT.not_modules]
 refine pd (wpAny_specialOf hT PySem.F.slot_dict_getitem.lookup ?_)
 have fin:Ax (Ay X.prog X.w) X.A (subscripted slice false (.ref a) u) (fun r s₃=>Ax (Ay X.prog X.w) X.A (letTemporaryGo value (.ref a) r >>= fun _=>pure r) (EP X pins σ Q) X.xe s₃) X.xe s:=by
  rw [hs]
  exact wpAny_operating (Bb h2 (fun r s₃ h₃=>pd (wpAny_letTemporaryGo (AH h₃))) fun _ _ x=>x)
 first
  | exact AH (pd fin)
  | exact pd (AH (pd fin))
  | exact pd fin
end
section
variable {K:kb}{o e e':Av}{fd fk fx f:EF}{apos cv pos:AD}
theorem zil{py lz:AD}(i:Nat)(hu:X.A.units+1<BV)(ha:PE X (.Name y py) (bL i))(he:PV K X e f)(hk:PV K X ke k)
  (hs:Bx e (some (.Subscript (.Name y py) ke lz)) pos.line X.env=pure false:=by rfl):cN K X (.Assign [.Subscript (.Name y py) ke lz] e pos) (iC i k f):=.mk fun hK C=>by
 subst hK
 refine(zrE hu ha (hk rfl) (he rfl) hs).weak fun Dn σ H=>?_
 rintro⟨ρ,rel,g⟩
 refine ki rel g fun dv ρ1 v H1 ah aG fv g1=>?_
 obtain⟨d,ed,g2⟩:=g1.bU
 obtain⟨a,bj,m0⟩:=ah.rel.jO ed
 refine⟨.ref a,bj.2,ki ah g2 fun dk ρ2 kv H2 cC bY fk g3=>?_⟩
 obtain⟨c,ec,g4⟩:=g3.bU
 obtain⟨d',mn,g5⟩:=g4.bU
 obtain⟨o,dp,mm⟩:=zlK (cC.rel.again ec bj) fk (fv.mono (bY.cJ ah.rel)) mn
 obtain⟨a2,at2,_⟩:=cC.rel.jO ec
 have:=bj.2.symm.trans at2.2
 cases this
 exact⟨a,_,rfl,dp,zbV cC at2 mm g5⟩
theorem zik:bg K X (.Dict [] [] pos) je:=.mk fun hK=>zqV.weak fun σ H Q=>by
 rintro⟨ρ,rel,q⟩ p hp
 exact q.new rel (aC.upd hp) p hp ⟨[],bS,by simp [bt]⟩
end
end
end FL
namespace FL
open PySem
noncomputable def oU(i:Nat)(ρ:En):Nat:=match ρ[i]? with
 | some (.val (.int n))=>n.natAbs+1
 | _=>0
abbrev WK:=Int×List Int
noncomputable def zg(p q:WK):Bool:=if p.1=q.1 then lexLt p.2 q.2 else decide (p.1<q.1)
noncomputable def ou(x:WK×D):List (WK×D)->List (WK×D)
 | []=>[x]
 | y::r=>if zg y.1 x.1=true then y::ou x r else x::y::r
noncomputable def oy:List (WK×D)->List (WK×D)
 | []=>[]
 | x::r=>ou x (oy r)
theorem zcA(x:WK×D):∀ l,(ou x l).Perm (x::l)
 | []=>.refl _
 | y::r=>by
  unfold ou
  split
  ·exact((zcA x r).cons y).trans (.swap x y r)
  ·exact .refl _
theorem zcD:∀ l:List (WK×D),(oy l).Perm l
 | []=>.refl _
 | x::r=>(zcA x _).trans ((zcD r).cons x)
noncomputable def m3:D->R D
 | .list a=>.ok (.list a.reverse)
 | _=>.bad
end FL
namespace L2
open PySem PySem.Spec PyProof.Rows PySem.W
variable {p:Array Nat}
abbrev gp(p:Array Nat)(i:Nat):Nat:=p.getD i 0
theorem vq{q:Array Nat}{i j:Nat}(h:p[i]?=q[j]?):gp p i=gp q j:=by
 simp only [gp,Array.getD_eq_getD_getElem?,h]
variable {cmp:Nat->Nat->(Bool->ir->Prop)->ir->Prop}{a b m n:Nat}{Q:Nat×Array Nat->ir->Prop}{s:ir}{P:ir->Prop}
section
variable {lt:Nat->Nat->Bool}
structure Ord(lt:Nat->Nat->Bool):Prop where
 tr:∀ i j k,lt j i=false->lt k j=false->lt k i=false
 as:∀ i j,lt i j=true->lt j i=false
def nu(lt:Nat->Nat->Bool)(n:Nat)(P:ir->Prop)(cmp:Nat->Nat->(Bool->ir->Prop)->ir->Prop):Prop :=
 ∀ i j (C:Bool->ir->Prop) s,i<n->j<n->P s->(∀ s',P s'->C (lt i j) s')->cmp i j C s
theorem Ord.refl(o:Ord lt)(i:Nat):lt i i=false:=by
 cases h:lt i i with
 | false=>rfl
 | true=>exact h.symm.trans (o.as i i h)
def Up(lt:Nat->Nat->Bool)(p:Array Nat)(m:Nat):Prop:=∀ i j,i<=j->j<m->lt (gp p j) (gp p i)=false
def Dn(lt:Nat->Nat->Bool)(p:Array Nat)(m:Nat):Prop:=∀ i j,i<=j->j<m->lt (gp p i) (gp p j)=false
def Eb(lt:Nat->Nat->Bool)(p:Array Nat)(a b:Nat):Prop:=∀ i j,a<=i->i<b->a<=j->j<b->lt (gp p i) (gp p j)=false
structure Arr(n:Nat)(p:Array Nat):Prop where
 sz:p.size=n
 pm:p.Perm (Dh (B4 n))
theorem Arr.lim(h:Arr n p)(hn:0<n)(i:Nat):gp p i<n:=by
 by_cases c:i<p.size
 ·have e:gp p i=p[i]:=by simp [gp,G6,c]
  rw [e]
  have m:p[i]∈p.toList:=Array.getElem_mem_toList c
  have m2:=(G7.mp h.pm).mem_iff.mp m
  simpa using m2
 ·have e:gp p i=0:=by simp [gp,G6,c]
  rw [e];exact hn
theorem Up.next(o:Ord lt)(h:Up lt p m)(hm:1<=m)(e:lt (gp p m) (gp p (m-1))=false):Up lt p (m+1):=fun i j eI hj=>by
 by_cases c:j<m
 ·exact h i j eI c
 ·have:j=m:=by omega
  subst this
  by_cases c2:i=j
  ·subst c2;exact o.refl _
  ·exact o.tr _ _ _ (h i (j-1) (by omega) (by omega)) e
theorem Dn.next(o:Ord lt)(h:Dn lt p m)(hm:1<=m)(e:lt (gp p (m-1)) (gp p m)=false):Dn lt p (m+1):=fun i j eI hj=>by
 by_cases c:j<m
 ·exact h i j eI c
 ·have:j=m:=by omega
  subst this
  by_cases c2:i=j
  ·subst c2;exact o.refl _
  ·exact o.tr _ _ _ e (h i (j-1) (by omega) (by omega))
theorem sG(hb:b<=p.size)(k:Nat):gp (EV p a b) k=if a<=k/\k<b then gp p (a+b-1-k) else gp p k:=by
 have e:=getElem?_mirror_all (xs:=p) (i:=a) hb k
 unfold EV
 split
 ·rename_i c;rw [if_pos c] at e;exact vq e
 ·rename_i c;rw [if_neg c] at e;exact vq e
theorem Arr.rev(h:Arr n p)(a b:Nat):Arr n (EV p a b):=⟨by unfold EV;rw [mirror_size];exact h.sz,(mirror_perm _ _ _ _).trans h.pm⟩
theorem Dn.rev(o:Ord lt)(hb:b<=p.size)(h:Dn lt p m)(e:Eb lt p a b)(hbm:b<=m):Dn lt (EV p a b) m:=fun i j eI hj=>by
 rw [sG hb,sG hb]
 split
 ·rename_i c1
  split
  ·rename_i c2;exact e _ _ (by omega) (by omega) (by omega) (by omega)
  ·rename_i c2;exact h _ _ (by omega) (by omega)
 ·rename_i c1
  split
  ·rename_i c2;exact h _ _ (by omega) (by omega)
  ·exact h _ _ eI hj
theorem zat(o:Ord lt)(hc:nu lt n P cmp)(hn:0<n){p:Array Nat}(ar:Arr n p):∀(f m:Nat) {Q:Nat->ir->Prop} {s:ir},1<=m->Up lt p m->P s ->
  (∀ m' s',P s'->m<=m'->m'<=m+f->Up lt p m'->(m'=m+f\/lt (gp p m') (gp p (m'-1))=true)->Q m' s')->(kas_asc p f m).kasWp cmp Q s
 | 0,m,Q,s,h1,hu,hp,h=>h m s hp (AO _) (AO _) hu (.inl rfl)
 | f+1,m,Q,s,h1,hu,hp,h=>by
  refine hc _ _ _ s (ar.lim hn _) (ar.lim hn _) hp fun s' dX=>?_
  cases e:lt (p.getD m 0) (p.getD (m-1) 0) with
  | true=>exact h m s' dX (AO _) (by omega) hu (.inr e)
  | false =>
   refine zat o hc hn ar f (m+1) (by omega) (hu.next o h1 e) dX fun m' iM qF a b c d=>h m' iM qF (by omega) (by omega) c ?_
   rcases d with d|d
   ·exact .inl (by omega)
   ·exact .inr d
theorem yn(o:Ord lt)(hc:nu lt n P cmp)(hn:0<n):∀(f:Nat) (p:Array Nat) (m q:Nat) {Q:Array Nat×Nat×Nat->ir->Prop} {s:ir},Arr n p->q+1<=m->m+f<=n->Dn lt p m->Eb lt p (m-(q+1)) m->P s ->
  (∀ p' m' q' s',P s'->Arr n p'->m<=m'->m'<=n->q'+1<=m'->Dn lt p' m'->Eb lt p' (m'-(q'+1)) m'->Q (p',m',q') s')->(kas_desc f p m q).kasWp cmp Q s
 | 0,p,m,q,Q,s,ar,h1,h2,hd,he,hp,h=>h p m q s hp ar (AO _) (by omega) h1 hd he
 | f+1,p,m,q,Q,s,ar,h1,h2,hd,he,hp,h=>by
  refine hc _ _ _ s (ar.lim hn _) (ar.lim hn _) hp fun s' dX=>?_
  cases e:lt (p.getD m 0) (p.getD (m-1) 0) with
  | true =>
   have hd2:Dn lt p (m+1):=hd.next o (by omega) (o.as _ _ e)
   show(if q > 0 then kas_desc f (EV p (m-(q+1)) m) (m+1) 0 else kas_desc f p (m+1) 0).kasWp cmp Q s'
   split
   ·refine yn o hc hn f _ (m+1) 0 (ar.rev _ _) (by omega) (by omega) (hd2.rev o (by rw [ar.sz];omega) he (by omega)) (fun i j a b c d=>?_) dX fun p' m' q' iM a b c=>h p' m' q' iM a b (by omega)
    have e1:i=m:=by omega
    have e2:j=m:=by omega
    subst e1;subst e2;exact o.refl _
   ·refine yn o hc hn f _ (m+1) 0 ar (by omega) (by omega) hd2 (fun i j a b c d=>?_) dX fun p' m' q' iM a b c=>h p' m' q' iM a b (by omega)
    have e1:i=m:=by omega
    have e2:j=m:=by omega
    subst e1;subst e2;exact o.refl _
  | false =>
   refine hc _ _ _ s' (ar.lim hn _) (ar.lim hn _) dX fun iM qF=>?_
   cases e2:lt (p.getD (m-1) 0) (p.getD m 0) with
   | true=>exact h p m q iM qF ar (AO _) (by omega) h1 hd he
   | false =>
    refine yn o hc hn f p (m+1) (q+1) ar (by omega) (by omega) (hd.next o (by omega) e2) (fun i j a b c d=>?_) qF fun p' m' q' s3 a b c=>h p' m' q' s3 a b (by omega)
    have eq1:∀ x,m-(q+1)<=x->x<m->lt (gp p m) (gp p x)=false/\lt (gp p x) (gp p m)=false:=fun x x1 x2 =>
     ⟨o.tr _ _ _ (he (m-1) x (by omega) (by omega) x1 x2) e,o.tr _ _ _ e2 (he x (m-1) x1 x2 (by omega) (by omega))⟩
    by_cases c1:i=m
    ·by_cases c2:j=m
     ·subst c1;subst c2;exact o.refl _
     ·subst c1;exact(eq1 j (by omega) (by omega)).1
    ·by_cases c2:j=m
     ·subst c2;exact(eq1 i (by omega) (by omega)).2
     ·exact he i j (by omega) (by omega) (by omega) (by omega)
theorem ziW(o:Ord lt)(hc:nu lt n P cmp)(hn:0<n)(ar:Arr n p)(h1:1<=m)(hm:m<=n)(hd:Dn lt p m)(hp:P s)
  (h:∀ m' p' s',P s'->Arr n p'->1<=m'->m'<=n->Up lt p' m'->Q (m',p') s'):(kas_tail3 m n p).kasWp cmp Q s:=by
 unfold kas_tail3
 rw [Ga]
 refine zat o hc hn (ar.rev 0 m) (n-m) m h1 (fun i j eI hj=>?_) hp fun m' s' dX a b c _=>h m' _ s' dX (ar.rev 0 m) (by omega) (by omega) c
 rw [sG (by rw [ar.sz];exact hm),sG (by rw [ar.sz];exact hm),if_pos (by omega),if_pos (by omega)]
 exact hd _ _ (by omega) (by omega)
theorem zfM(o:Ord lt)(hc:nu lt n P cmp)(hn:0<n)(ar:Arr n p)(hm:m+1<=n)(hd:Dn lt p (m+1))(hp:P s)
  (h:∀ m' p' s',P s'->Arr n p'->1<=m'->m'<=n->Up lt p' m'->Q (m',p') s'):(kas_descPart m n p).kasWp cmp Q s:=by
 unfold kas_descPart
 rw [Ga]
 refine yn o hc hn _ p (m+1) 0 ar (by omega) (by omega) hd (fun i j a b c d=>?_) hp fun p' m' q' s' dX ar' a b c iG he'=>?_
 ·have e1:i=m:=by omega
  have e2:j=m:=by omega
  subst e1;subst e2;exact o.refl _
 ·show(if q' > 0 then kas_tail3 m' n (EV p' (m'-(q'+1)) m') else kas_tail3 m' n p').kasWp cmp Q s'
  split
  ·exact ziW o hc hn (ar'.rev _ _) (by omega) b (iG.rev o (by rw [ar'.sz];exact b) he' (AO _)) dX h
  ·exact ziW o hc hn ar' (by omega) b iG dX h
theorem zkZ(o:Ord lt)(hc:nu lt n P cmp)(hn:0<n)(ar:Arr n p)(hp:P s)
  (h:∀ m' p' s',P s'->Arr n p'->1<=m'->m'<=n->Up lt p' m'->Q (m',p') s'):(kas_count n p).kasWp cmp Q s:=by
 unfold kas_count
 rw [Ga]
 refine zat o hc hn ar (n-1) 1 (AO _) (fun i j a b=>?_) hp fun m s' dX a b hu hl=>?_
 ·have e1:i=0:=by omega
  have e2:j=0:=by omega
  subst e1;subst e2;exact o.refl _
 by_cases c:m=n
 ·subst c
  rw [if_pos (by simp)]
  exact h m p s' dX ar a (AO _) hu
 ·rw [if_neg (by simpa using c)]
  have jM:lt (gp p m) (gp p (m-1))=true:=by
   rcases hl with hl|hl
   ·omega
   ·exact hl
  by_cases c1:m > 1
  ·rw [if_pos c1]
   refine hc _ _ _ s' (ar.lim hn _) (ar.lim hn _) dX fun iM qF=>?_
   cases e:lt (p.getD 0 0) (p.getD (m-1) 0) with
   | true=>exact h m p iM qF ar a (by omega) hu
   | false =>
    have hs:m<=p.size:=by rw [ar.sz];omega
    have all:∀ i j,i<m->j<m->lt (gp p i) (gp p j)=false:=fun i j hi hj =>
     o.tr _ _ _ (hu j (m-1) (by omega) (by omega)) (o.tr _ _ _ e (hu 0 i (B2 _) hi))
    refine zfM o hc hn (ar.rev 0 m) (by omega) (fun i j eI hj=>?_) qF h
    rw [sG hs,sG hs]
    by_cases cj:j<m
    ·rw [if_pos (by omega),if_pos (by omega)]
     exact all _ _ (by omega) (by omega)
    ·have ej:j=m:=by omega
     subst ej
     rw [if_neg (by omega:¬ (0<=j/\j<j))]
     split
     ·exact o.tr _ _ _ (o.as _ _ jM) (all _ _ (by omega) (by omega))
     ·have ei:i=j:=by omega
      subst ei;exact o.refl _
  ·rw [if_neg c1]
   have e1:m=1:=by omega
   subst e1
   refine zfM o hc hn ar (by omega) ?_ dX h
   refine Dn.next o (fun i j eI hj=>?_) (AO _) (o.as _ _ jM)
   have e1:i=0:=by omega
   have e2:j=0:=by omega
   subst e1;subst e2;exact o.refl _
theorem zdg(o:Ord lt)(hc:nu lt n P cmp)(hn:0<n){p:Array Nat}(ar:Arr n p){k:Nat}(hu:Up lt p k):∀(f l r:Nat) {Q:Nat->ir->Prop} {s:ir},l<=r->r<=k->r-l<=f ->
  (∀ i,i<l->lt (gp p k) (gp p i)=false)->(∀ i,r<=i->i<k->lt (gp p i) (gp p k)=false)->P s ->
  (∀ l' s',P s'->l'<=k->(∀ i,i<l'->lt (gp p k) (gp p i)=false)->(∀ i,l'<=i->i<k->lt (gp p i) (gp p k)=false)->Q l' s')->(kas_place p k f l r).kasWp cmp Q s
 | 0,l,r,Q,s,h1,h2,h3,a,b,hp,h=>h l s hp (by omega) a (by
   have:l=r:=by omega
   subst this;exact b)
 | f+1,l,r,Q,s,h1,h2,h3,a,b,hp,h=>by
  unfold kas_place
  by_cases c:l ≥ r
  ·rw [if_pos c]
   have:l=r:=by omega
   subst this
   exact h l s hp h2 a b
  ·rw [if_neg c]
   refine hc _ _ _ s (ar.lim hn _) (ar.lim hn _) hp fun s' dX=>?_
   cases e:lt (p.getD k 0) (p.getD ((l+r) / 2) 0) with
   | true =>
    refine zdg o hc hn ar hu f l ((l+r) / 2) (by omega) (by omega) (by omega) a (fun i i1 i2=>?_) dX h
    exact o.tr _ _ _ (o.as _ _ e) (hu _ _ i1 i2)
   | false =>
    refine zdg o hc hn ar hu f ((l+r) / 2+1) r (by omega) h2 (by omega) (fun i i1=>?_) b dX h
    exact o.tr _ _ _ (hu i ((l+r) / 2) (by omega) (by omega)) e
theorem ze0(o:Ord lt)(hc:nu lt n P cmp)(hn:0<n):∀(f:Nat) (p:Array Nat) (k:Nat) {Q:Array Nat->ir->Prop} {s:ir},Arr n p->k+f=n->Up lt p k->P s ->
  (∀ p' s',P s'->Arr n p'->Up lt p' n->Q p' s')->(kas_bin f p k).kasWp cmp Q s
 | 0,p,k,Q,s,ar,h1,hu,hp,h=>h p s hp ar (by
  have:k=n:=by omega
  subst this;exact hu)
 | f+1,p,k,Q,s,ar,h1,hu,hp,h=>by
  unfold kas_bin
  rw [Ga]
  refine zdg o hc hn ar hu k 0 k (B2 _) (AO _) (by omega) (fun i hi=>by omega) (fun i a b=>by omega) hp fun l s' dX hl ha hb=>?_
  have hk:k<p.size:=by rw [ar.sz];omega
  have gb:∀ i,gp (bubble p k (k-l)) i=if i=l then gp p k else if l<i/\i<=k then gp p (i-1) else gp p i:=fun i=>by
   have e:=getElem?_bubble hk (k-l) (by omega) i
   rw [show k-(k-l)=l by omega] at e
   by_cases c1:i=l
   ·rw [if_pos c1] at e ⊢;exact vq e
   ·rw [if_neg c1] at e ⊢
    by_cases c2:l<i/\i<=k
    ·rw [if_pos c2] at e ⊢;exact vq e
    ·rw [if_neg c2] at e ⊢;exact vq e
  refine ze0 o hc hn f _ (k+1) ⟨by rw [bubble_size];exact ar.sz,(bubble_perm _ _ _).trans ar.pm⟩ (by omega) (fun i j eI hj=>?_) dX h
  rw [gb i,gb j]
  by_cases c1:i=l
  ·rw [if_pos c1]
   by_cases c2:j=l
   ·rw [if_pos c2];exact o.refl _
   ·rw [if_neg c2,if_pos (by omega)]
    exact hb _ (by omega) (by omega)
  ·rw [if_neg c1]
   by_cases c2:j=l
   ·rw [if_pos c2,if_neg (by omega)]
    exact ha _ (by omega)
   ·rw [if_neg c2]
    by_cases c3:l<i/\i<=k
    ·rw [if_pos c3,if_pos (by omega)]
     exact hu _ _ (by omega) (by omega)
    ·rw [if_neg c3]
     split
     ·exact hu _ _ (by omega) (by omega)
     ·exact hu _ _ (by omega) (by omega)
theorem zus(o:Ord lt)(hc:nu lt n P cmp)(hn:0<n){Q:Array Nat->ir->Prop}(hp:P s)(h:∀ p s',P s'->Arr n p->Up lt p n->Q p s'):(kas_sort n).kasWp cmp Q s:=by
 unfold kas_sort
 rw [Ga]
 refine zkZ o hc hn ⟨by simp,JC _⟩ hp fun m p s' dX ar h1 h2 hu=>?_
 show(if m<n then kas_bin (n-max m 1) p (max m 1) else KasT.ret p).kasWp cmp Q s'
 split
 ·have e:max m 1=m:=by omega
  rw [e]
  exact ze0 o hc hn _ p m ar (by omega) hu dX h
 ·have:m=n:=by omega
  subst this
  exact h p s' dX ar hu
end
end L2
namespace PySem
open Spec PyProof.Rows
variable {A:AR}{E:gV->ir->Prop}{w:AJ}{Q:List gV->ir->Prop}{s:ir}{d:dm}{es:Array C4}{ep:Nat}{prog:AK}
section
theorem iO.at{h h':Az}(x:iO h d es ep)(k:∀ o,h.get? d=some o->h'.get? d=some o):iO h' d es ep:=by
 obtain⟨o,e,r⟩:=x.ex
 exact⟨o,k o e,r⟩
theorem zvj(hh:A.handled=none)(I d:dm)(iH:d≠I)(es:Array C4)(ep:Nat) :
  Walks prog w A I [I,d] [I] es.size (fun i v=>∃ h:i<es.size,v=es[i].key) (fun i h=>h.IsKeyIter I d i es.size ep/\iO h d es ep) where
 sub:=fun b hb=>by simp at hb;simp [hb]
 frame:=fun _ _ _ st hk=>⟨st.1.at fun o e=>hk I (by simp) o e,st.2.at fun o e=>hk d (by simp) o e⟩
 item:=fun i s Q E hi st hQ=>by
  refine zpQ st.1 st.2 hi fun h' yK yO=>?_
  exact hQ _ h' s.toks ⟨hi,rfl⟩ ⟨yK,st.2.at fun o e=>yO.extBut d o iH e⟩ fun b o hb e=>yO.extBut b o (fun h=>hb (by simp [h])) e
 done:=fun s Q E st hQ=>zbB hh st.1 st.2 (AO _) fun h' he'=>hQ h' s.toks fun b o hb e=>he' b o (fun h=>hb (by simp [h])) e
 self:=fun _ _ _ _ st hQ=>wpAny_pyIter_keyiter st.1 hQ
theorem zkY(hh:A.handled=none)(sy:(d==DC)=false)(hm:iO s.heap d es ep)(hn:es.size<=10000)
  (hQ:∀ s' (acc:Array gV),(∀ b o,s.heap.get? b=some o->s'.heap.get? b=some o)->s'.gens=s.gens->s'.drawn=s.drawn->s'.os=s.os->s.heap.objs.size<=s'.heap.objs.size->ItemsOf (fun i v=>∃ h:i<es.size,v=es[i].key) acc es.size->Q acc.toList s') :
  Ax (Ay prog w) A (collect (.ref d)) Q E s:=by
 obtain⟨od,mJ,hxd,fJ⟩:=hm.ex
 have dl:=AW mJ
 unfold collect
 refine pd (wpAny_runValue (codeAny_builtin F.entry_proto_collect ?_))
 rw [JD F.plain_proto_collect _]
 show Ax _ A.in1 (newList [] >>= fun l=>again (.builtin "list.__iadd__" ⟨[l,.ref d],[]⟩)) _ _ s
 refine pd (Cz ?_)
 refine AH ⟨plainId_quiet F.plain_list_iadd _,codeAny_builtin F.entry_list_iadd ?_⟩
 rw [JD F.plain_list_iadd _]
 have sJ:iO (s.heap.push { cls:=.type "list",data:=.seq ([]:List gV).toArray }) d es ep:=hm.at fun o e=>A1 _ e
 have hSd:s.heap.objs.size≠d:=CO dl
 have h1:JE (.ref s.heap.objs.size) (.ref d)=false:=by simp [JE,hSd]
 show Ax _ A.in1 (JF (.ref s.heap.objs.size) (.ref d) (.ref s.heap.objs.size)) _ _ _
 unfold JF
 refine pd (Fm (s:={ s with heap:=s.heap.push { cls:=.type "list",data:=.seq ([]:List gV).toArray } }) sJ.typ ?_)
 rw [if_neg (by rw [h1];decide)]
 refine pd (zny (s:={ s with heap:=s.heap.push { cls:=.type "list",data:=.seq ([]:List gV).toArray } }) sy sJ ?_)
 refine pd (Cu ?_)
 have I2:s.heap.objs.size+1=(s.heap.push { cls:=.type "list",data:=.seq ([]:List gV).toArray }).objs.size:=(CG ..).symm
 have jk:iO ((s.heap.push { cls:=.type "list",data:=.seq ([]:List gV).toArray }).push { cls:=.type "dict_keyiterator",data:=.fields #[.ref d,.int 0 0,.int es.size 0,.int ep 0] }) d es ep:=sJ.at fun o e=>A1 _ e
 have ty2:=iO.typ (s:={ s with heap:=(s.heap.push { cls:=.type "list",data:=.seq ([]:List gV).toArray }).push { cls:=.type "dict_keyiterator",data:=.fields #[.ref d,.int 0 0,.int es.size 0,.int ep 0] } }) jk
 unfold Builtin.List.listLengthHint
 refine pd (wpAny_specialOf ty2 F.slot_dict_len.lookup ?_)
 generalize hid:("dict.__len__":String)=id0
 wp_delta
 rw [show splitId id0=some ("dict","__len__") from by subst hid;decide +kernel]
 subst hid
 refine pd (Ih (b:=true) ty2 (by rw [isSubtype_type];kernel_rfl) ?_)
 rw [if_neg (by decide)]
 dsimp only
 rw [if_pos (by decide +kernel)]
 refine pd (Fm ty2 ?_)
 refine AH ?_
 rw [if_pos (by decide +kernel)]
 refine pd (Er ?_)
 unfold Builtin.List.listTouch
 have hS0:((s.heap.push { cls:=.type "list",data:=.seq ([]:List gV).toArray }).push { cls:=.type "dict_keyiterator",data:=.fields #[.ref d,.int 0 0,.int es.size 0,.int ep 0] }).get? s.heap.objs.size=some (Cd "list" #[] 0):=A1 _ (Bv _ rfl)
 refine pd (pd (Gb hS0 rfl ?_ (B2 _) (by show 1<=AU+1;omega)))
 have hS1:=G8 hS0 (·.push .none)
 refine Gb hS1 rfl ?_ (by show 1<=AU;rw [BR];decide) (by show 0<=AU+1;omega)
 have hS2:=G8 hS1 (·.pop)
 have up:∀ b o,b≠s.heap.objs.size->((s.heap.push { cls:=.type "list",data:=.seq ([]:List gV).toArray }).push { cls:=.type "dict_keyiterator",data:=.fields #[.ref d,.int 0 0,.int es.size 0,.int ep 0] }).get? b=some o ->
   ((((s.heap.push { cls:=.type "list",data:=.seq ([]:List gV).toArray }).push { cls:=.type "dict_keyiterator",data:=.fields #[.ref d,.int 0 0,.int es.size 0,.int ep 0] }).update s.heap.objs.size (BZ fun x=>x.push Br)).update s.heap.objs.size (BZ fun x=>x.pop)).get? b=some o:=fun b o hb e =>
  (((DT ..).2 b hb).trans ((DT ..).2 b hb)).trans e
 have hI:((s.heap.push { cls:=.type "list",data:=.seq ([]:List gV).toArray }).push { cls:=.type "dict_keyiterator",data:=.fields #[.ref d,.int 0 0,.int es.size 0,.int ep 0] }).get? (s.heap.push { cls:=.type "list",data:=.seq ([]:List gV).toArray }).objs.size=some { cls:=.type "dict_keyiterator",data:=.fields #[.ref d,.int 0 0,.int es.size 0,.int ep 0] }:=Bv _ rfl
 have neI:(s.heap.push { cls:=.type "list",data:=.seq ([]:List gV).toArray }).objs.size≠s.heap.objs.size:=by rw [<- I2];omega
 have old:∀ b o,s.heap.get? b=some o->((s.heap.push { cls:=.type "list",data:=.seq ([]:List gV).toArray }).push { cls:=.type "dict_keyiterator",data:=.fields #[.ref d,.int 0 0,.int es.size 0,.int ep 0] }).get? b=some o:=fun b o e=>A1 _ (A1 _ e)
 generalize ((((s.heap.push { cls:=.type "list",data:=.seq ([]:List gV).toArray }).push { cls:=.type "dict_keyiterator",data:=.fields #[.ref d,.int 0 0,.int es.size 0,.int ep 0] }).update s.heap.objs.size (BZ fun x=>x.push Br)).update s.heap.objs.size (BZ fun x=>x.pop))=h5 at hS2 up ⊢
 have st:h5.IsKeyIter (s.heap.push { cls:=.type "list",data:=.seq ([]:List gV).toArray }).objs.size d 0 es.size ep:=⟨_,up _ _ neI hI,rfl,rfl⟩
 have da:iO h5 d es ep:=jk.at fun o e=>up d o (BK hSd) e
 generalize hIa:(s.heap.push { cls:=.type "list",data:=.seq ([]:List gV).toArray }).objs.size=Ia at st neI hI ⊢
 have ia:Ia=s.heap.objs.size+1:=by rw [<- hIa];exact I2.symm
 have ne:d≠Ia:=by rw [ia];exact Ba (GV dl)
 have nS:s.heap.objs.size∉[Ia,d]:=fun h=>by
  rcases A6.mp h with c|c
  ·exact neI c.symm
  ·exact hSd (Ec.mp c)
 have W:=(zvj (prog:=prog) (w:=w) (A:=A.in1) hh Ia d ne es ep).toS
 refine AH ⟨plainId_quiet F.plain_extend_loop _,codeAny_extend_loopS W (by rw [BR];omega) s.heap.objs.size nS _ es.size 0 _ _ _ rfl (B2 _) ⟨st,da⟩ hS2 (ItemsOf.nil _) fun s' qa c' mv hS' yE=>?_⟩
 show Ax _ A (load s.heap.objs.size >>= _) _ _ s'
 refine pd (wpAny_load hS' ?_)
 refine AH (hQ s' qa (fun b o e=>?_) mv.gens mv.drawn mv.os (D3 (AW hS')) yE)
 have lt:=AW e
 have b1:b≠s.heap.objs.size:=Ba lt
 have b2:b≠Ia:=by rw [ia];exact Ba (GV lt)
 refine mv.heap b o (fun h=>?_) (up b o b1 (old b o e))
 rcases A6.mp h with c|c
 ·exact b1 c
 ·exact b2 (Ec.mp c)
end
end PySem
namespace L2
open PySem PySem.Spec PyProof.Rows PySem.W
variable {pins:List (dm×AA)}{X:Cx}{s:ir}{σ:L2.St}{H:Hp}
section
noncomputable def Cx.in1(X:Cx):Cx:={ X with A:=X.A.in1 }
section
theorem Cx.Ok.in1(o:X.Ok):X.in1.Ok:=⟨o.mod,o.kind,o.glob,o.blt,o.above,o.inj,o.has,o.nK,o.hd,o.frames,o.rA,o.mw,o.bs,o.j5,o.oK,o.mz,o.h8,o.kR,o.tree,o.sk⟩
theorem Cx.Ok.tH(o:X.in1.Ok):X.Ok:=⟨o.mod,o.kind,o.glob,o.blt,o.above,o.inj,o.has,o.nK,o.hd,o.frames,o.rA,o.mw,o.bs,o.j5,o.oK,o.mz,o.h8,o.kR,o.tree,o.sk⟩
theorem Inv.in1(I:Inv X pins σ H s):Inv X.in1 pins σ H s:=⟨I.ok.in1,I.os,I.bare,I.base,I.loc,I.cell,I.free,I.fX,I.pin,I.ax,I.len⟩
theorem Inv.tH(I:Inv X.in1 pins σ H s):Inv X pins σ H s:=⟨I.ok.tH,I.os,I.bare,I.base,I.loc,I.cell,I.free,I.fX,I.pin,I.ax,I.len⟩
end
end
section
theorem zg8:∀ a b c:List Int,HT.lexLt b a=false->HT.lexLt c b=false->HT.lexLt c a=false
 | [],_,[],_,_=>rfl
 | [],[],_::_,_,_=>rfl
 | [],_::_,_::_,_,_=>rfl
 | _::_,[],_,h,_=>by cases h
 | _::_,_::_,[],_,h=>by cases h
 | x::xs,y::ys,z::zs,h1,h2=>by
  simp only [HT.lexLt] at h1 h2 ⊢
  by_cases c1:y=x
  ·subst c1
   rw [if_pos rfl] at h1
   by_cases c2:z=y
   ·subst c2;rw [if_pos rfl] at h2 ⊢;exact zg8 xs ys zs h1 h2
   ·rw [if_neg c2] at h2 ⊢;exact h2
  ·rw [if_neg c1] at h1
   have h1':=of_decide_eq_false h1
   by_cases c2:z=y
   ·subst c2;rw [if_neg c1];exact h1
   ·rw [if_neg c2] at h2
    have h2':=of_decide_eq_false h2
    rw [if_neg (by omega)]
    exact decide_eq_false (by omega)
theorem zg6:∀ a b:List Int,HT.lexLt a b=true->HT.lexLt b a=false
 | [],[],h=>by cases h
 | [],_::_,_=>rfl
 | _::_,[],h=>by cases h
 | x::xs,y::ys,h=>by
  simp only [HT.lexLt] at h ⊢
  by_cases c:x=y
  ·subst c;rw [if_pos rfl] at h ⊢;exact zg6 xs ys h
  ·rw [if_neg c] at h
   have h':=of_decide_eq_true h
   rw [if_neg (by omega)]
   exact decide_eq_false (by omega)
abbrev WK:=Int×List Int
noncomputable def gE(p q:WK):Bool:=if p.1=q.1 then HT.lexLt p.2 q.2 else decide (p.1<q.1)
theorem zho(a b c:WK)(h1:gE b a=false)(h2:gE c b=false):gE c a=false:=by
 unfold gE at h1 h2 ⊢
 by_cases c1:b.1=a.1
 ·rw [if_pos c1] at h1
  by_cases c2:c.1=b.1
  ·rw [if_pos c2] at h2;rw [if_pos (c2.trans c1)];exact zg8 _ _ _ h1 h2
  ·rw [if_neg c2] at h2;rw [if_neg (by rw [<- c1];exact c2),<- c1];exact h2
 ·rw [if_neg c1] at h1
  have h1':=of_decide_eq_false h1
  by_cases c2:c.1=b.1
  ·rw [c2,if_neg c1];exact h1
  ·rw [if_neg c2] at h2
   have h2':=of_decide_eq_false h2
   rw [if_neg (by omega)]
   exact decide_eq_false (by omega)
theorem zhm(a b:WK)(h:gE a b=true):gE b a=false:=by
 unfold gE at h ⊢
 by_cases c:a.1=b.1
 ·rw [if_pos c] at h;rw [if_pos c.symm];exact zg6 _ _ h
 ·rw [if_neg c] at h
  have h':=of_decide_eq_true h
  rw [if_neg (by omega)]
  exact decide_eq_false (by omega)
noncomputable def kr(kd:List WK)(i j:Nat):Bool:=gE (kd.getD i (0,[])) (kd.getD j (0,[]))
theorem zhQ(kd:List WK):Ord (kr kd):=⟨fun _ _ _ h1 h2=>zho _ _ _ h1 h2,fun _ _ h=>zhm _ _ h⟩
end
section
end
section
end
section
def rl(lt:Nat->Nat->Bool)(x y:Nat):Prop:=lt y x=false
end
section
end
section
end
section
end
section
end
section
end
section
end
section
end
variable {a f:dm}{H0:Hp}{o:HO}{E:gV->ir->Prop}{h':Az}{Q:ir->Prop}{oa:AA}{t':Nat}
section
section
theorem Inv.adopt(I:Inv X pins σ H s)(k:∀ b u,b≠a->s.heap.get? b=some u->h'.get? b=some u)(hf:gw X pins H a)(new:cE X.prog X.w (upd H a o) h' a o) :
  Inv X pins σ (upd H a o) { s with heap:=h',toks:=t' }:=by
 obtain⟨hn,hL,hfs,h1,h2,h3⟩:=hf
 have ne:∀ b u,H b=some u->b≠a:=fun b u e z=>by rw [z,hn] at e;cases e
 refine I.step (g':=s.gens) (d':=s.drawn) (ch:=[a]) (fun b hb=>?_) (fun b o _ _ hc e _=>k b o (fun z=>hc (by simp [z])) e) (fun b o _ _ hc e _=>⟨o.slots,k b o (fun z=>hc (by simp [z])) e⟩) (fun b o hc _ n=>?_)
  (fun b o hc e=>⟨o,k b o (fun z=>hc (by simp [z])) e⟩) (fun b xs e=>?_) (fun b o u e=>?_) (fun b ps e=>⟨#[],?_⟩) (fun m hm=>?_) (fun b u e=>?_) I.bare
 ·have e:b=a:=by simpa using hb
  subst e
  exact⟨h1,hL,h2,h3⟩
 ·rw [aJ fun z=>hc (by simp [z])];exact n
 ·rw [aJ (ne b _ e)];exact e
 ·rw [aJ (ne b _ e)];exact e
 ·rw [aJ (ne b _ e),e];simp
 ·obtain⟨o,es,ep,ho,r⟩:=hm
  exact⟨o,es,ep,k _ o (BK hL) ho,r⟩
 ·by_cases c:b=a
  ·subst c
   rw [bS] at e
   cases e
   exact new
  ·rw [aJ c] at e
   refine(I.ax b u e).iN (fun d v hc q=>k d v ?_ q) (fun b' q=>by rw [aJ (ne b' _ q)];exact q) fun b' xs q=>q.upd (fun _ r=>ne b' _ r) fun _ _ r=>ne b' _ r
   rcases hc with z|z
   ·rw [z];exact ne b u e
   ·exact ne d _ z
variable {kS:dm}
theorem zjd:∀{xs:List V} {us:List gV} (p:List Nat),Vals xs us->(∀ i∈p,i<us.length)->Vals (p.map fun i=>xs.getD i .non) (p.map fun i=>us.getD i Br)
 | xs,us,[],_,_=>.nil
 | xs,us,i::p,r,h=>by
  refine .cons ?_ (zjd p r fun j hj=>h j (Bp _ hj))
  have hi:=h i (Bu ..)
  have hl:=r.length
  obtain⟨w,ew,iX⟩:=r.get (i:=i) (x:=xs[i]) (Be (by omega))
  have e1:xs.getD i .non=xs[i]:=by simp [Di,Be (show i<xs.length by omega)]
  have e2:us.getD i Br=w:=by rw [Di,ew];rfl
  show RelV (xs.getD i .non) (us.getD i Br)
  rw [e1,e2]
  exact iX
theorem zeF(n:Nat):Arr n (Dh (B4 n)):=⟨by simp,JC _⟩
end
end
variable {A:AR}{Q:List gV->ir->Prop}
section
noncomputable def xl(H:Hp):List (List Key×V)->List V->Prop
 | [],xs=>xs=[]
 | kv::r,xs=>∃ b t,xs=.ref b::t/\dU H b (kv.1.map kV)/\xl H r t
def uj(H:Hp)(d:dm)(xs:List V):Prop:=∃ aj,Rd H d (.dT aj)/\xl H aj xs
section
variable {d:dm}
theorem zg2:∀{aj:List (List Key×V)} {ys:List (List Key×dm×gV)},KT H aj ys->xl H aj (ys.map fun y=>V.ref y.2.1)
 | [],_,.nil=>rfl
 | kv::r,_,.cons h t=>⟨_,_,rfl,h.2.1,zg2 t⟩
theorem zkX(hh:A.handled=none)(I:Inv X pins σ H s)(rd:xi H d)(hn:∀ xs,uj H d xs->xs.length<2000)
  (hQ:∀ xs us s',uj H d xs->Vals xs us->Inv X pins σ H s'->Q us s'):Ax (Ay X.prog X.w) A (collect (.ref d)) Q E s:=by
 have fin:∀(s':ir),(∀ b o,s.heap.get? b=some o->s'.heap.get? b=some o)->s'.gens=s.gens->s'.drawn=s.drawn->s'.os=s.os->Inv X pins σ H s':=fun s' k g dr os=>by
  obtain⟨h,g',dr',tk,os'⟩:=s'
  simp only at g dr os
  subst g;subst dr;subst os
  exact I.kept (t':=tk) k
 obtain⟨aj,rd⟩:=rd
 obtain⟨z,sy,ys,kt,o,es,ep,e',r1,r2,r3,r4⟩:=u3 I.ax rd
 have ks:=zg2 kt
 have lk:=hn _ ⟨aj,rd,ks⟩
 have ly:aj.length=ys.length:=Gn kt
 have hsz:es.size=ys.length:=size_of_entries r3
 rw [Bc] at lk
 refine zkY hh sy ⟨o,e',r1,r2⟩ (by omega) fun s' acc hk hg hd ho hs yE=>hQ _ _ s' ⟨aj,rd,ks⟩ ?_ (fin s' hk hg hd ho)
 have la:acc.toList.length=es.size:=by rw [EZ];exact yE.1
 refine zjb (by rw [Bc];omega) fun j x v ex ev=>?_
 rw [Array.getElem?_toList] at ev
 obtain⟨hj,rfl⟩:=yE.2 j v ev
 have lj:j<ys.length:=by omega
 rw [BW,Be lj] at ex
 cases ex
 have:=entry_at r3 j
 rw [Be lj,HQ hj] at this
 simp only [CJ,Ct] at this
 rw [this]
 rfl
end
end
end L2
namespace FL
open PySem L2 PySem.Spec
open PyProof.Rows hiding St
variable [Cs]
variable {ks:List D}{p:Array Nat}{l:List (WK×D)}{ws:List WK}
theorem zhp(p q:WK):zg p q=L2.gE p q:=by
 unfold zg L2.gE
 rw [zcL]
theorem zg7:∀ a b:List Int,HT.lexLt a b=false->HT.lexLt b a=false->a=b
 | [],[],_,_=>rfl
 | [],_::_,h,_=>by cases h
 | _::_,[],_,h=>by cases h
 | x::xs,y::ys,h1,h2=>by
  simp only [HT.lexLt] at h1 h2
  by_cases c:x=y
  ·subst c
   rw [if_pos rfl] at h1 h2
   rw [zg7 xs ys h1 h2]
  ·rw [if_neg c] at h1
   rw [if_neg (BK c)] at h2
   have a1:=of_decide_eq_false h1
   have a2:=of_decide_eq_false h2
   omega
theorem zhn(p q:WK)(h1:L2.gE p q=false)(h2:L2.gE q p=false):p=q:=by
 unfold L2.gE at h1 h2
 by_cases c:p.1=q.1
 ·rw [if_pos c] at h1
  rw [if_pos c.symm] at h2
  exact Gz c (zg7 _ _ h1 h2)
 ·rw [if_neg c] at h1
  rw [if_neg (BK c)] at h2
  have a1:=of_decide_eq_false h1
  have a2:=of_decide_eq_false h2
  omega
def xm(x y:WK×D):Prop:=L2.gE y.1 x.1=false
theorem znn{x z:WK×D}(h:z∈ou x l):z=x\/z∈l:=by
 have:=(zcA x l).mem_iff.mp h
 simpa using this
theorem zgF(x:WK×D):∀ l:List (WK×D),l.Pairwise xm->(ou x l).Pairwise xm
 | [],_=>by simp [ou]
 | y::r,h=>by
  unfold ou
  rw [Gd] at h
  split
  ·rename_i c
   rw [zhp] at c
   rw [Gd]
   refine⟨fun z hz=>?_,zgF x r h.2⟩
   rcases znn hz with rfl|hz
   ·exact zhm _ _ c
   ·exact h.1 z hz
  ·rename_i c
   rw [zhp] at c
   have c':L2.gE y.1 x.1=false:=by simpa using c
   rw [Gd]
   refine⟨fun z hz=>?_,Gd.mpr h⟩
   rcases A6.mp hz with rfl|hz
   ·exact c'
   ·exact zho _ _ _ c' (h.1 z hz)
theorem zcE:∀ l:List (WK×D),(oy l).Pairwise xm
 | []=>.nil
 | x::r=>zgF x _ (zcE r)
theorem zh1{α:Type}{le:α->α->Prop}:∀{l1 l2:List α},l1.Perm l2->l1.Pairwise le->l2.Pairwise le->(∀ a∈l1,∀ b∈l1,le a b->le b a->a=b)->l1=l2
 | [],l2,h,_,_,_=>(List.nil_perm.mp h).symm
 | a::r1,[],h,_,_,_=>by have:=h.length_eq;simp at this
 | a::r1,b::r2,h,p1,p2,an=>by
  rw [Gd] at p1 p2
  have e:a=b:=by
   have ha:a∈b::r2:=h.mem_iff.mp (Bu ..)
   have hb:b∈a::r1:=h.mem_iff.mpr (Bu ..)
   rcases A6.mp ha with e|ha'
   ·exact e
   rcases A6.mp hb with e|nY
   ·exact e.symm
   exact an a (Bu ..) b (Bp _ nY) (p1.1 b nY) (p2.1 a ha')
  subst e
  rw [zh1 ((List.perm_cons a).mp h) p1.2 p2.2 fun x hx y hy=>an x (Bp _ hx) y (Bp _ hy)]
theorem zjm:∀{ws:List WK} {ks:List D} {x y:WK×D},ws.Nodup->x∈ws.zip ks->y∈ws.zip ks->x.1=y.1->x=y
 | [],ks,x,y,_,h,_,_=>by simp at h
 | _::_,[],x,y,_,h,_,_=>by simp at h
 | w::ws,k::ks,x,y,nd,h1,h2,e=>by
  rw [CW] at nd
  rw [BL] at h1 h2
  rcases A6.mp h1 with rfl|h1
  ·rcases A6.mp h2 with rfl|h2
   ·rfl
   ·exact absurd (by rw [show w=y.1 from e];exact(D7 h2).1) nd.1
  ·rcases A6.mp h2 with rfl|h2
   ·exact absurd (by rw [show w=x.1 from e.symm];exact(D7 h1).1) nd.1
   ·exact zjm nd.2 h1 h2 e
theorem ztL(ws:List WK)(ks:List D)(h:ws.length=ks.length):(B4 ks.length).map (fun i=>(ws.getD i (0,[]),ks.getD i Fy))=ws.zip ks:=by
 apply List.ext_getElem
 ·simp [h]
 ·intro i h1 h2
  have hi:i<ks.length:=by simpa using h1
  have jj:i<ws.length:=by omega
  simp [Di,Be hi,Be jj]
theorem zur(hl:ws.length=ks.length)(nd:ws.Nodup)(ar:Arr ks.length p)(up:Up (kr ws) p ks.length):p.toList.map (fun i=>ks.getD i Fy)=(oy (ws.zip ks)).map (·.2):=by
 have hp:(p.toList.map fun i=>(ws.getD i (0,[]),ks.getD i Fy)).Perm (ws.zip ks):=by
  have:=(G7.mp ar.pm).map fun i=>(ws.getD i (0,[]),ks.getD i Fy)
  rw [JG,ztL ws ks hl] at this
  exact this
 have e:(p.toList.map fun i=>(ws.getD i (0,[]),ks.getD i Fy))=oy (ws.zip ks):=by
  refine zh1 (hp.trans (zcD _).symm) ?_ (zcE _) fun x hx y hy h1 h2=>?_
  ·rw [Ii]
   intro i j hi hj eI
   have jj:i<p.size:=by simpa using hi
   have mH:j<p.size:=by simpa using hj
   have:=up i j (D3 eI) (by rw [<- ar.sz];exact mH)
   rw [show gp p i=p[i] by simp [gp,G6,jj],show gp p j=p[j] by simp [gp,G6,mH]] at this
   simpa [xm,kr] using this
  ·exact zjm nd (hp.mem_iff.mp hx) (hp.mem_iff.mp hy) (zhn _ _ h2 h1)
 rw [<- e,B3]
 rfl
variable {X:Cx}{xs:List V}{d:dm}{aj:List (D×D)}{H:Hp}
section
variable {K:kb}
theorem zg1:∀{aj:List (D×D)} {kk:List (List Key×V)} {xs:List V},bt K H aj kk->xl H kk xs->ag K H (aj.map (·.1)) xs
 | [],kk,xs,h,t=>by
  simp only [bt] at h
  subst h
  have:xs=[]:=t
  subst this
  simp [ag]
 | (k,d)::r,kk,xs,h,t=>by
  simp only [bt] at h
  obtain⟨q,v,t',rfl,rfl,f,h2⟩:=h
  obtain⟨b,u,rfl,tb,t2⟩:=t
  simp only [A2,ag]
  exact⟨_,_,rfl,zmz tb,zg1 h2 t2⟩
theorem za4(h:Fz K H (.dict aj) (.ref d))(t:uj H d xs):ag K H (aj.map (·.1)) xs:=by
 simp only [Fz] at h
 obtain⟨a,o,e,h⟩:=h
 cases e
 obtain⟨kk,h1,h2⟩:=h
 obtain⟨kk',rd,t⟩:=t
 have:kk'=kk:=by
  rcases rd with z|⟨o',z⟩
  ·rw [h1] at z;cases z
  ·rw [h1] at z;cases z;rfl
 subst this
 exact zg1 h2 t
theorem zmx(h:Fz K H (.dict aj) (.ref d)):xi H d:=by
 simp only [Fz] at h
 obtain⟨a,o,e,h⟩:=h
 cases e
 obtain⟨kk,h1,h2⟩:=h
 exact⟨kk,.inr ⟨o,h1⟩⟩
theorem ag.pick{ds:List D}{xs:List V}(h:ag K H ds xs):∀(p:List Nat),(∀ i∈p,i<ds.length)->ag K H (p.map fun i=>ds.getD i Fy) (p.map fun i=>xs.getD i .non)
 | [],_=>by simp [ag]
 | i::p,hp=>by
  simp only [A2,ag]
  have hi:=hp i (Bu ..)
  obtain⟨v,ev,fv⟩:=h.get (Be hi)
  refine⟨_,_,rfl,?_,ag.pick h p fun j hj=>hp j (Bp _ hj)⟩
  rw [Di,Di,ev,Be hi]
  exact fv
end
end FL
namespace L2
open PySem PySem.Spec PyProof.Rows PySem.W
end L2
namespace FL
open PySem L2 PySem.Spec
open PyProof.Rows hiding St
section
variable [Cs]
end
variable {u:HO}{a b f:dm}{o:AA}{ns:List Int}{cs:List dm}{k:Nat}{d:DefRec}{P:AK}{pos:AD}{cl:CL}{loose:List ib}{X:Cx}{cd:gV}{CX:jB}{G:List D->R D}{q x:ib}{YP:AJ->Az->Prop}{fd:A9}{w:AJ}{vs:List gV}{l:Ij}{s₁:ir}{h:Az}{mg:ib->Option gV}
section
noncomputable def aD(cs:List dm)(K:kb):kb:=K.filter fun p=>!cs.contains p.1
theorem yk(cs:List dm):∀(K:kb) (b:dm),(aD cs K).lookup b=if cs.contains b=true then none else K.lookup b
 | [],b=>by simp [aD]
 | (c,o)::K,b=>by
  have ih:=yk cs K b
  unfold aD at ih ⊢
  rw [List.filter_cons]
  by_cases hc:cs.contains c=true
  ·rw [if_neg (by simp only [hc];decide),ih]
   by_cases hb:cs.contains b=true
   ·rw [if_pos hb,if_pos hb]
   ·have ne:b≠c:=fun z=>by rw [z] at hb;exact hb hc
    rw [if_neg hb,if_neg hb]
    simp [A5,show(b==c)=false from by simpa using ne]
  ·have gP:cs.contains c=false:=by simpa using hc
   rw [if_pos (by simp only [gP];decide)]
   by_cases e:b=c
   ·subst e
    rw [if_neg hc]
    simp [A5]
   ·have e':(b==c)=false:=by simpa using e
    rw [A5,A5,e']
    exact ih
theorem zfE{K:kb}(x:K.In h):(aD cs K).In h:=fun a o e=>by
 rw [yk] at e
 split at e
 ·cases e
 ·exact x a o e
def cH(cs:List dm)(K:kb):Prop:=∀ c∈cs,∃ o its n,K.lookup c=some o/\o.data=Data.seq its n
theorem iB{K:kb}(s:cH cs K)(e:K.lookup b=some o)(n:∀ its m,o.data≠.seq its m):(aD cs K).lookup b=some o:=by
 rw [yk,if_neg,e]
 intro c
 obtain⟨o',its,m,e',d⟩:=s b (by simpa using c)
 rw [e] at e'
 cases e'
 exact n _ _ d
theorem zkW{K:kb}(s:cH cs K)(h:Du K cd q=true):Du (aD cs K) cd q=true:=by
 cases cd with
 | ref c =>
  unfold Du at h ⊢
  cases e:K.lookup c with
  | none=>simp only [e] at h;cases h
  | some o =>
   obtain⟨oc,od,data,sl⟩:=o
   cases data with
   | fields vs =>
    simp only [e] at h
    simp only [iB s e fun _ _ z=>nomatch z]
    exact h
   | _=>simp only [e] at h;cases h
 | _=>cases h
theorem cM.cut{K:kb}(s:cH cs K){st:AQ}(F:cM K x q st f fd):cM (aD cs K) x q st f fd:=by
 obtain⟨⟨oc,od,kV,doc,pm,an,av,ct,il,e,l,c⟩,kp⟩:=F
 have l':=iB s l fun _ _ z=>nomatch z
 refine⟨⟨oc,od,kV,doc,pm,an,av,ct,il,e,l',zkW s c⟩,?_⟩
 unfold CQ
 simp only [l']
theorem aH.cut{cs:List dm}{K:kb}{mg:ib->Option gV}(s:cH cs K){x:ib}{st:AQ}(h:aH K mg x st):aH (aD cs K) mg x st:=by
 obtain⟨f,fd,hm,F⟩:=h
 exact⟨f,fd,hm,cM.cut s F⟩
abbrev CL:=List (dm×AA×List V)
noncomputable def gQ(cl:CL):Hp:=fun b=>(cl.lookup b).map fun p=>.frz p.1 (.tup p.2)
theorem zmY(cl:CL)(a:dm)(u:HO)(h:gQ cl a=some u):∃ o xs,u=.frz o (.tup xs):=by
 unfold gQ at h
 rw [C2] at h
 obtain⟨p,_,rfl⟩:=h
 exact⟨_,_,rfl⟩
@[reducible] def sv(cl:CL)(ob:String->Option (dm×List ib):=fun _=>none)(xb:String->Option (dm×List ib):=fun _=>none):Cs:={ C:=gQ cl,st:=zmY cl,O:=ob,X:=xb }
def g9(cl:CL)(K:kb):Prop:=∀ p∈cl,K.lookup p.1=some p.2.1/\p.2.1.cls=.type "tuple"/\p.2.2.length<=AU/\∃(its:Array gV) (n:Nat),p.2.1.data=.seq its n/\Vals p.2.2 its.toList
theorem g9.nil{K:kb}:g9 [] K:=fun p hp=>by simp at hp
theorem g9.cons{K:kb}{a:dm}{od:Option dm}{its:Array gV}{n:Nat}{sl:Array (Option gV)}{xs:List V}{cl:CL}(e:K.lookup a=some ⟨.type "tuple",od,.seq its n,sl⟩) (hv:Vals xs its.toList) (hl:xs.length<=1000) (r:g9 cl K):g9 ((a,⟨.type "tuple",od,.seq its n,sl⟩,xs)::cl) K:=fun p hp=>by
 rcases A6.mp hp with rfl|hp
 ·exact⟨e,rfl,D3 (zup hl),its,n,rfl,hv⟩
 ·exact r p hp
theorem g9.aL{K:kb}(h:g9 cl K):cH (cl.map (·.1)) K:=fun c hc=>by
 obtain⟨p,hp,rfl⟩:=Cq.mp hc
 obtain⟨e,_,_,its,n,d,_⟩:=h p hp
 exact⟨_,its,n,e,d⟩
theorem mem_of_lookup{α:Type}:∀{l:List (dm×α)} {a:dm} {x:α},l.lookup a=some x->(a,x)∈l
 | [],a,x,h=>by simp at h
 | (b,y)::r,a,x,h=>by
  rw [A5] at h
  cases e:a==b with
  | true =>
   rw [e] at h
   cases h
   have:=eq_of_beq e
   subst this
   exact Bu ..
  | false =>
   rw [e] at h
   exact Bp _ (mem_of_lookup h)
theorem sH{K:kb}(h:g9 cl K)(e:gQ cl b=some u):(aD (cl.map (·.1)) K).lookup b=none/\∃(o:AA) (xs:List V) (its:Array gV) (n:Nat),u=.frz o (.tup xs)/\K.lookup b=some o/\o.cls=.type "tuple"/\o.data=.seq its n/\xs.length<=AU/\Vals xs its.toList:=by
 unfold gQ at e
 rw [C2] at e
 obtain⟨⟨o,xs⟩,el,rfl⟩:=e
 have m:=mem_of_lookup el
 obtain⟨h1,h2,h3,its,n,h4,h5⟩:=h _ m
 refine⟨?_,o,xs,its,n,rfl,h1,h2,h4,h3,h5⟩
 rw [yk,if_pos]
 have:b∈cl.map (·.1):=Cq.mpr ⟨_,m,rfl⟩
 simpa using this
theorem zo9{K:kb}{mb:ib->Option gV}{fa:dm}{sp:Sp}
  (KX:K.In s₁.heap)(hC:g9 cl K)(sN:s₁.heap.Ns AV mg)(hb:s₁.heap.Ns Gp mb)(vw:∀ x:ib,x ≠ "__name__"->mb x=Bo x) (zna:s₁.heap.NoLimit) (yP:s₁.heap.NoSeer) (vI:P.given.tree=none) (hg:s₁.gens=#[])
  (ha:s₁.heap.get? a=some { cls:=.type "list",data:=.seq vs.toArray }) (hi:CD vs ns) (hl:ns.length<=AU) (hr:aQ k EA)
  (F:∀ base:Az,(aD (cl.map (·.1)) K).In base->base.Ns AV mg->cA P w (aD (cl.map (·.1)) K) mg base CX k fa fd [x] sp) (zmW:∀(s:ir) (u:gV),Fe s fd ⟨[u],[]⟩ [(x,u)])
  (oj:∀ H:Hp,(∀ b xs,H b≠some (.lst xs))->(∀ b u,gQ cl b=some u->H b=some u)->bp (aD (cl.map (·.1)) K) H a (ns.map V.int)->sp [.ref a] H (fun v _=>v=.bl true) fun _ _ _=>False)
  (hCX:∀ H e s',CX [] H s₁ (fun _ _ _=>False) e s'->False) :
  Dc (Ay P w) EA (.call (.ref fa) ⟨[.ref a],[]⟩) (fun r s'=>r=.ok (.ret (.bool true))/\OldK s₁.heap s'.heap/\s'.os=s₁.os/\Dm s'.gens) s₁:=by
 have rv:=zjc hi
 have zpe:=hi.length
 have core:∀ H:Hp,(∀ b u,H b=some u->∃ o v,u=.frz o v/\o.cls≠.type "module"/\∀ es ep,o.data≠.dict es ep)->(∀ b xs,H b≠some (.lst xs))->(∀ b u,gQ cl b=some u->H b=some u)->bp (aD (cl.map (·.1)) K) H a (ns.map V.int)->cB P w H s₁.heap->(∀ b,H b≠none->(aD (cl.map (·.1)) K).lookup b=none) ->
   Dc (Ay P w) EA (.call (.ref fa) ⟨[.ref a],[]⟩) (fun r s'=>r=.ok (.ret (.bool true))/\OldK s₁.heap s'.heap/\s'.os=s₁.os/\Dm s'.gens) s₁:=by
  intro H hO hL gD hS ax hK
  have zaz:∀{b:dm} {o:AA},s₁.heap.get? b=some o->H b=none->(mG s₁.heap H).get? b=some o:=fun e n=>zm6 e n
  have v9:∀{b:dm} {o:AA} {es:Array C4} {ep:Nat},s₁.heap.get? b=some o->o.data=.dict es ep->H b=none:=fun{b o es ep} e d=>by
   cases q:H b with
   | none=>rfl
   | some u =>
    obtain⟨o',v,rfl,_,nd⟩:=hO b u q
    obtain⟨e',_⟩:=ax b _ q
    rw [e] at e'
    cases e'
    exact absurd d (nd es ep)
  have noM:∀{b:dm} {o:AA},s₁.heap.get? b=some o->o.cls=.type "module"->H b=none:=fun{b o} e d=>by
   cases q:H b with
   | none=>rfl
   | some u =>
    obtain⟨o',v,rfl,nd,_⟩:=hO b u q
    obtain⟨e',_⟩:=ax b _ q
    rw [e] at e'
    cases e'
    exact absurd d nd
  have oM:∀{b:dm} {m:ib->Option gV},s₁.heap.Ns b m->(mG s₁.heap H).Ns b m:=fun{b m} ⟨o,es,ep,e,d,r⟩=>⟨o,es,ep,zaz e (v9 e d),d,r⟩
  have hKb:(aD (cl.map (·.1)) K).In (mG s₁.heap H):=fun b o e=>zaz (zfE KX b o e) (by
   cases q:H b with
   | none=>rfl
   | some u=>rw [hK b (by rw [q];simp)] at e;cases e)
  have hM:Mod (aD (cl.map (·.1)) K) mg (mG s₁.heap H):=⟨hKb,oM sN,⟨mb,oM hb,vw⟩,let⟨mc,h1,h2⟩:=zna;⟨mc,oM h1,h2⟩,(let⟨mc,h1,h2⟩:=yP.statics;⟨mc,oM h1,h2⟩),(let⟨mc,h1,h2⟩:=yP.mods;⟨mc,oM h1,h2⟩),(let⟨mc,h1,h2⟩:=yP.imp;⟨mc,oM h1,h2⟩),(let⟨mg,bm,ob,h1,h2,h3,h4,h5⟩:=yP.main;⟨mg,bm,ob,oM h1,h2,zaz h3 (noM h3 h4),h4,h5⟩)⟩
  have e0:pR P w (aD (cl.map (·.1)) K) mg (mG s₁.heap H) EA [] s₁ H:=⟨rfl,hM,fun b o e=>zql e,FP (zm7 _ _),trivial,fun b hb=>absurd (show b∈([]:List dm) from hb) (by simp),ax,.of_eq hg,vI⟩
  refine Ff ((F _ hKb (oM sN)).run EA [] s₁ H ⟨[.ref a],[]⟩ [.ref a] [.ref a] _ _ hr e0 (zmW s₁ (.ref a)) (.cons rfl .nil) (oj H hL gD hS)) fun r s' h=>?_
  cases r with
  | error e=>exact(hCX H e s' h).elim
  | ok fl =>
   cases fl with
   | next=>exact BQ h
   | brk=>exact BQ h
   | cont=>exact BQ h
   | ret u =>
    obtain⟨v,H',os,bare,un,zne,r',q⟩:=h
    have q':v=.bl true:=q
    subst q'
    obtain rfl:u=C6 true:=r'
    refine⟨rfl,OldK.of_keep fun b o e=>?_,os,bare⟩
    cases q:H b with
    | none=>exact un.keep b o e q (by intro z;exact absurd (show b∈([]:List dm) from z) (by simp)) (by simp)
    | some u =>
     obtain⟨ob,v,rfl,_,_⟩:=hO b u q
     have z2:=un.gC b ob _ q
     obtain⟨e1,_⟩:=ax b _ q
     obtain⟨e2,_⟩:=zne b _ z2
     rw [e] at e1;cases e1
     exact e2
 have cok:∀{H:Hp} {b:dm} {u:HO},gQ cl b=some u->cE P w H s₁.heap b u:=fun{H b u} e=>by
  obtain⟨_,o,xs,its,n,rfl,h1,h2,h3,h4,h5⟩:=sH hC e
  have hg:=KX b o h1
  exact⟨hg,h4,its.toList,h5,o,hg,h2,n,by simpa using h3⟩
 have cfr:∀{b:dm} {u:HO},gQ cl b=some u->∃ o v,u=.frz o v/\o.cls≠.type "module"/\∀ es ep,o.data≠.dict es ep:=fun{b u} e=>by
  obtain⟨_,o,xs,its,n,rfl,h1,h2,h3,h4,h5⟩:=sH hC e
  exact⟨o,_,rfl,by rw [h2];simp,fun es ep z=>by rw [h3] at z;cases z⟩
 have zfz:∀{b:dm} {xs:List V},gQ cl b≠some (.lst xs):=fun{b xs} e=>by
  obtain⟨_,o,xs,its,n,z,_⟩:=sH hC e
  cases z
 cases hk:(aD (cl.map (·.1)) K).lookup a with
 | some o =>
  have e:=zfE KX a o hk
  rw [ha] at e
  cases e
  exact core (gQ cl) (fun b u e=>cfr e) (fun b xs e=>zfz e) (fun _ _ e=>e) (.inr ⟨_,vs.toArray,_,hk,rfl,rfl,rfl,by rw [Bk,zpe];exact hl,by simpa using rv⟩) (fun b u z=>cok z) fun b hb=>by
   cases q:gQ cl b with
   | none=>exact absurd q hb
   | some u=>exact(sH hC q).1
 | none =>
  have na:∀ u,gQ cl a≠some u:=fun u z=>by
   obtain⟨_,o,xs,its,n,rfl,h1,h2,h3,h4,h5⟩:=sH hC z
   have:=KX a o h1
   rw [ha] at this
   cases this
   simp at h2
  refine core (fun b=>if b=a then some (.frz { cls:=.type "list",data:=.seq vs.toArray } (.lst (ns.map V.int))) else gQ cl b) (fun b u e=>?_) (fun b xs e=>?_) (fun b u e=>?_) (.inl (.inr ⟨{ cls:=.type "list",data:=.seq vs.toArray },if_pos rfl⟩)) (fun b u z=>?_) fun b hb=>?_
  ·split at e
   ·cases e;exact⟨_,_,rfl,by simp,fun es ep z=>nomatch z⟩
   ·exact cfr e
  ·split at e
   ·cases e
   ·exact zfz e
  ·have:b≠a:=fun z=>by subst z;exact na u e
   simp only [if_neg this];exact e
  ·simp only at z
   split at z
   ·rename_i c
    cases z
    subst c
    exact⟨ha,by rw [Bc];exact hl,vs,_,rv,ha⟩
   ·exact cok z
  ·by_cases c:b=a
   ·subst c;exact hk
   ·simp only [if_neg c] at hb
    cases q:gQ cl b with
    | none=>exact absurd q hb
    | some u=>exact(sH hC q).1
theorem zvg{q:AK}{XP:(ib->Option gV)->Az->Prop}{K:Params->kb}
  (zb3:∀ ns:List Int,ns.length<=63->G [.list (ns.map Bi)]=.ok (.bool true))(hn:l.most=some 63)(vz:d.params.defaults=[])(hi:importsNone q=true)(vI:l.prog.given.tree=none)(hr:aQ k EA)
  (hY:∀(w:AJ) (h:Az),YP w h->(K w.params).In h)
  (F:∀(w:AJ) (mg:ib->Option gV) (fa:dm) (h:Az),(K w.params).In h->h.Ns AV mg->mg d.name=some (.ref fa) ->
   ∃(cl:CL) (ob xb:String->Option (dm×List ib)) (fd:A9),g9 cl (K w.params)/\(∀(s:ir) (u:gV),Fe s fd ⟨[u],[]⟩ [(x,u)]) /\
    ∀ base:Az,(aD (cl.map (·.1)) (K w.params)).In base->base.Ns AV mg->cA l.prog w (aD (cl.map (·.1)) (K w.params)) mg base (bE l.prog w) k fa fd [x] (@jx (sv cl ob xb) (aD (cl.map (·.1)) (K w.params)) 1 false G)) :
  PySem.W.WalkO q loose XP YP l.row.toRowW d [] (fun f vs=>HK f vs):=by
 refine Att.zkk hn vz fun w s₀ s₁ mg mb fa o pm cd doc a vs ns GG Y ho hd fi hmg zcv hints hlen hg=>?_
 have KX:=hY w _ Y
 obtain⟨cl,ob,xb,fd,hC,hb,hF⟩:=F w mg fa _ KX GG.T.g hmg
 refine zo9 KX hC GG.T.g GG.T.b GG.T.builtins GG.T.nolimit (GG.T.seer hi) vI hg zcv hints (By hlen (by decide)) hr hF hb (fun H hO gD hS=>@zpa (sv cl ob xb) _ G H a ns (zb3 ns hlen) hO gD hS) fun H e s' ⟨_,_,_,_,_,_,_,_,_,_,_,_,_,_,_,z⟩=>z
variable [Cs]
theorem zD{K:kb}{ds:List D}{vs:List V}(hg:Gl X x)(hm:X.mg x=some (.ref a))(hc:∃ o,Cs.C a=some (.frz o (.tup vs)))(hf:∀ H,ag K H ds vs)(hd:(x==("__debug__":ib))=false:=by decide) :
  PV K X (.Name x pos) (eC (.tuple ds)):=.mk fun _=>(cX hg hm (v:=.ref a) rfl hd).weak fun σ H Q=>by
 rintro⟨ρ,rel,g⟩
 obtain⟨o,hc⟩:=hc
 refine g.now rel (.ref a) ?_
 simp only [Fz]
 exact⟨a,vs,rfl,.inr ⟨o,rel.cst _ _ hc⟩,hf H⟩
end
variable {oc u:gV}{il:Array (Option gV)}{A:AR}{ob:String->Option (dm×List ib)}{xs:List V}
section
theorem Ae(hr:aQ k A):A.units+1<BV:=by have:=hr.un;omega
theorem ztS{x y:V}(h1:L2.RelV x u)(h2:L2.RelV y u):x=y:=by
 cases x <;> cases y <;> simp only [L2.RelV] at h1 h2 <;> first
  | (subst h1;cases h2;rfl;done)
  | (subst h1;obtain⟨t',h2⟩:=h2;cases h2;done)
  | (obtain⟨t,rfl⟩:=h1;obtain⟨t',h2⟩:=h2;cases h2;rfl;done)
  | (obtain⟨t,rfl⟩:=h1;obtain⟨t',h2⟩:=h2;cases h2;done)
  | (subst h1;cases h2;done)
  | (obtain⟨t,rfl⟩:=h1;cases h2;done)
theorem zje:∀{xs ys:List V} {us:List gV},Vals xs us->Vals ys us->xs=ys
 | _,_,_,.nil,.nil=>rfl
 | _,_,_,.cons r1 t1,.cons r2 t2=>by rw [ztS r1 r2,zje t1 t2]
theorem lookup_mem{α:Type}:∀{l:List (dm×α)} {a:dm} {x:α},(a,x)∈l->∃ y,l.lookup a=some y
 | [],a,x,h=>by simp at h
 | (b,y)::r,a,x,h=>by
  rw [A5]
  cases e:a==b with
  | true=>exact⟨y,rfl⟩
  | false =>
   rcases A6.mp h with z|z
   ·cases z;simp at e
   ·exact lookup_mem z
theorem zmX{K:kb}(h:g9 cl K)(m:(a,o,xs)∈cl):∃ o',(sv cl ob).C a=some (.frz o' (.tup xs)):=by
 obtain⟨⟨o2,ys⟩,el⟩:=lookup_mem m
 obtain⟨h1,_,_,its,n,h2,h3⟩:=h _ m
 obtain⟨g1,_,_,iI,n',g2,g3⟩:=h _ (mem_of_lookup el)
 simp only at h1 h2 h3 g1 g2 g3
 rw [h1] at g1
 cases g1
 rw [h2] at g2
 cases g2
 refine⟨o,?_⟩
 show gQ cl a=_
 unfold gQ
 rw [el,zje h3 g3]
 rfl
theorem zmV{K:kb}{st:AQ}{od an:Option dm}{kV doc pm av ct:gV}(X:K.In h)(G:h.Ns AV mg)(q:AZ K AV x=some (some (.ref f)))
  (l:K.lookup f=some ⟨oc,od,.func (BX x x (fU st) (bZ st) (aM st) .none kV doc pm an av ct),il⟩)(c:Du K av x=true)(k:CQ K (.ref f)=true):aH K mg x st:=⟨f,_,Bq X G q,vj (st:=st) l c k⟩
theorem _root_.L2.aH.cut{cs:List dm}{K:kb}{mg:ib->Option gV}{x:ib}{st:AQ}(h:aH K mg x st)(s:cH cs K):aH (aD cs K) mg x st:=FL.aH.cut s h
end
end FL
namespace FL
open PySem
noncomputable def enD:List D->R (List D)
 | [.list l]=>.ok (j6 0 l)
 | _=>.bad
noncomputable def zpD:List D->R (List D)
 | [.list l,.list m]=>.ok (gu l m)
 | _=>.bad
noncomputable def oq(a:AF):IF:=fun ρ=>(a ρ).bind fun x=>(enD x.1).bind fun l=>.ok (l,x.2)
noncomputable def zgB(a:AF):IF:=fun ρ=>(a ρ).bind fun x=>(zpD x.1).bind fun l=>.ok (l,x.2)
end FL
namespace L2
open PySem PySem.Spec PyProof.Rows
end L2
namespace FL
open PySem L2 PySem.Spec
open PyProof.Rows hiding St
theorem zf0:∀(i:Nat) (l:List D),(j6 i l).length=l.length
 | _,[]=>rfl
 | i,d::r=>by rw [j6,A0,A0,zf0]
theorem zfZ:∀{i:Nat} {l:List D} {j:Nat} {x:D},(j6 i l)[j]?=some x->∃ d,l[j]?=some d/\x=.tuple [.int ((i+j:Nat):Int),d]
 | _,[],_,_,h=>by simp [j6] at h
 | i,d::r,0,x,h=>by
  simp only [j6,zz0,Ct] at h
  exact⟨d,rfl,h.symm⟩
 | i,d::r,j+1,x,h=>by
  simp only [j6,zz1] at h
  obtain⟨d',h1,h2⟩:=zfZ h
  refine⟨d',by simpa using h1,?_⟩
  rw [h2,Nat.add_assoc,HJ 1 j]
theorem zdR:∀{l m:List D} {j:Nat} {x:D},(gu l m)[j]?=some x->∃ a b,l[j]?=some a/\m[j]?=some b/\x=.tuple [a,b]
 | [],_,_,_,h=>by simp [gu] at h
 | _::_,[],_,_,h=>by simp [gu] at h
 | a::r,b::s,0,x,h=>by
  simp only [gu,zz0,Ct] at h
  exact⟨a,b,rfl,rfl,h.symm⟩
 | a::r,b::s,j+1,x,h=>by
  simp only [gu,zz1] at h
  obtain⟨a',b',h1,h2,h3⟩:=zdR h
  exact⟨a',b',by simpa using h1,by simpa using h2,h3⟩
theorem zdS:∀(l m:List D),(gu l m).length=min l.length m.length
 | [],_=>by simp [gu]
 | _::_,[]=>by simp [gu]
 | a::r,b::s=>by simp only [gu,A0,zdS r s];omega
variable {k:Nat}{fa:AF}{pos:AD}{a t:dm}{X:Cx}{items:List D}{vs:List V}{es:List Av}{H:Hp}
section
variable [Cs]{K:kb}{e e':Av}{p0 p:AD}
theorem zbK{a b:D}{u v:V}(h0:H t=none)(fa:Fz K H a u)(fb:Fz K H b v):Fz K (upd H t (.tup [u,v])) (.tuple [a,b]) (.ref t):=by
 have m:aA H (upd H t (.tup [u,v])):=aA.of (aC.upd h0)
 simp only [Fz,ag]
 exact⟨t,[u,v],rfl,.inl bS,u,[v],rfl,fa.mono m,v,[],rfl,fb.mono m,rfl⟩
theorem zve(h:kM K H a vs)(f:ag K H items vs):Walk K (Ite K a) (j6 0 items) H:=by
 refine⟨fun i d H' fz e=>?_,fun i H' fz e=>⟨vs,(fz.gW h).sq,by rw [f.len,<- zf0 0];exact e⟩⟩
 obtain⟨d',e',rfl⟩:=zfZ e
 obtain⟨v,ev,fv⟩:=(f.mono fz).get e'
 refine⟨⟨vs,v,(fz.gW h).sq,ev⟩,fun x jF y=>?_⟩
 obtain⟨t,v',rfl,ht,rfl,hv⟩:=y
 have ex:=hv vs (fz.gW h).sq
 rw [ev] at ex
 cases ex
 refine⟨aC.upd ht,?_⟩
 rw [F8]
 exact zbK ht (jJ _) fv
theorem zji{b:dm}{ws:List V}{l m:List D}(h:kM K H a vs)(f:ag K H l vs)(h':kM K H b ws)(f':ag K H m ws):Walk K (xk K a b) (gu l m) H:=by
 refine⟨fun i d H' fz e=>?_,fun i H' fz e=>⟨vs,ws,(fz.gW h).sq,(fz.gW h').sq,?_⟩⟩
 ·obtain⟨x,y,e1,e2,rfl⟩:=zdR e
  obtain⟨u,eu,fu⟩:=(f.mono fz).get e1
  obtain⟨v,ev,fv⟩:=(f'.mono fz).get e2
  refine⟨⟨vs,ws,u,v,(fz.gW h).sq,(fz.gW h').sq,eu,ev⟩,fun x jF y=>?_⟩
  obtain⟨t,u',v',rfl,ht,rfl,hu,hv⟩:=y
  have ex:=hu vs (fz.gW h).sq
  rw [eu] at ex
  cases ex
  have ex:=hv ws (fz.gW h').sq
  rw [ev] at ex
  cases ex
  exact⟨aC.upd ht,zbK ht fu fv⟩
 ·rw [zdS] at e
  rw [f.len,f'.len]
  omega
theorem zdo(hg:Gl X "enumerate") (hm:X.mg "enumerate"=none) (ha:du K X [e] fa) (hs:Aw [e] X.env=[(false,AB e X.env)]:=by exact FL.se rfl):hU K X (.Tuple es k p0) (.Call (.Name "enumerate" p) [e] [] pos) (oq fa):=.mk fun hK=>by
 subst hK
 refine(zrh hg hm (ha rfl) hs).weak fun σ H R=>?_
 rintro⟨ρ,rel,q⟩
 refine mF rel q fun ds ρ1 vs H1 ah aG fs q1=>?_
 obtain⟨items,ei,q2⟩:=q1.bQ
 cases ds with
 | nil=>cases ei
 | cons d r =>
  cases r with
  | cons _ _=>cases d <;> cases ei
  | nil =>
   cases d with
   | list a =>
    cases ei
    simp only [ag,Fz] at fs
    obtain⟨_,_,rfl,⟨l,vs,rfl,sx,f⟩,rfl⟩:=fs
    exact⟨l,rfl,⟨vs,sx.sq⟩,q2.now ah _ (zve sx f)⟩
   | _=>cases ei
theorem zsu(hg:Gl X "zip") (hm:X.mg "zip"=none) (ha:du K X [e,e'] fa) (hs:Aw [e,e'] X.env=[(false,AB e X.env),(false,AB e' X.env)]:=by rfl) (cK:Aw [e'] X.env=[(false,AB e' X.env)]:=by exact FL.se rfl):hU K X (.Tuple es k p0) (.Call (.Name "zip" p) [e,e'] [] pos) (zgB fa):=.mk fun hK=>by
 subst hK
 refine(zrm hg hm (ha rfl) hs cK).weak fun σ H R=>?_
 rintro⟨ρ,rel,q⟩
 refine mF rel q fun ds ρ1 vs H1 ah aG fs q1=>?_
 obtain⟨items,ei,q2⟩:=q1.bQ
 match ds,ei,fs with
 | [.list a,.list b],ei,fs =>
  cases ei
  simp only [ag,Fz] at fs
  obtain⟨_,_,rfl,⟨l,vs,rfl,sx,f⟩,_,_,rfl,⟨l',jA,rfl,oX,f'⟩,rfl⟩:=fs
  exact⟨l,l',rfl,⟨vs,sx.sq⟩,⟨jA,oX.sq⟩,q2.now ah _ (zji sx f oX f')⟩
end
end FL
namespace L2
open PySem PySem.Spec PyProof.Rows
end L2
namespace FL
open PySem L2 PySem.Spec
open PyProof.Rows hiding St
end FL
namespace PySem
open Spec
end PySem
namespace FL
open PySem L2 PySem.Spec
open PyProof.Rows hiding St
section
end
section
end
end FL
namespace L2
open PySem PySem.Spec PyProof.Rows
open PySem.SeqAt
open PySem.AutoSeq1 (wpAny_loadPart')
open PySem.MeetsSeq PySem.MeetsSeq2 PySem.MeetsSeq3
end L2
namespace FL
open PySem L2 PySem.Spec
open PyProof.Rows hiding St
end FL
namespace FL
open PySem
noncomputable def intD:D->R D
 | .bool b=>.ok (.int (if b then 1 else 0))
 | .int i=>.ok (.int i)
 | _=>.bad
end FL
namespace L2
open PySem PySem.Spec PyProof.Rows PySem.W
end L2
namespace FL
open PySem L2 PySem.Spec
open PyProof.Rows hiding St
variable {pos:AD}{X:Cx}{b:Av}{h:EF}
section
variable [Cs]
section
variable {K:kb}
theorem zfg:gJ X (.type "int") intD:=by
 intro pins s σ H xs us Q I r h
 obtain⟨x,dx,d,rfl,tx,e,q⟩:=h
 obtain⟨u,rfl,ru⟩:=vals1 r
 cases dx with
 | bool c =>
  have tx:Fz X.K H (.bool c) x:=tx
  simp only [Fz] at tx
  subst tx
  cases e
  cases ru
  exact PySem.call_int_bool ⟨.int _,H,I.tok _,⟨_,rfl⟩,q _ H (aC.refl _) (by simp [Fz])⟩
 | int i =>
  have tx:Fz X.K H (.int i) x:=tx
  simp only [Fz] at tx
  subst tx
  cases e
  obtain⟨t,rfl⟩:=ru
  exact PySem.call_int_int ⟨.int i,H,I,⟨t,rfl⟩,q _ H (aC.refl _) (by simp [Fz])⟩
 | _=>exact nomatch (show(R.bad:R D)=.ok d from e)
end
end
variable {base:Az}{ar:List Ar}{k n:Nat}{tn x z:ib}{fa:AF}{dom:List Nat}{P:AK}{p2 py pz:AD}{es ifs:List Av}{F:List D->R (D×List D)}{t:TF}{scope:BF}{it:IF}{ps:List ib}{G:List D->R D}{w:AJ}{tg:Av}{T:String}{g:D->R D}{gg:GF}{bb:SF}{body:List AQ}{op:CB}{mg:ib->Option gV}
section
variable [Cs]
section
variable {K:kb}{st:AQ}{b:SF}{fr:Bool}
theorem vh(ms:List Bool)(N:List ib)(h:aH K mg x st)
  (hb:∀{f:dm} {av:gV} {A:AR} {outer:List AY} {s:ir} {H:Hp} {E:XK},aQ k (A.deeper (BG x (aM st) s.heap.objs.size f av))->N.Nodup->eO K (dB (bE P w) P w K mg base N x (aM st) f av A outer s H E).cF (bZ st) b)
  (S:eY N ps (aM st):=by exact⟨rfl,rfl,rfl,by decide +kernel,rfl,by decide +kernel,by decide +kernel⟩)(dY:ps.length=ms.length:=by rfl)(fo:ps.length<=N.length:=by decide)
  (fY:∀(kV doc pm:gV) (an:Option dm) (av ct:gV) (us:List gV),us.length=ps.length->CU (BX x x (fU st) (bZ st) (aM st) .none kV doc pm an av ct) ⟨us,[]⟩=pure (ps.zip us):=by
   first
    | exact fun _ _ _ _ _ _ us hl=>match us,hl with | [_],_=>rfl
    | exact fun _ _ _ _ _ _ us hl=>match us,hl with | [_,_],_=>rfl
    | exact fun _ _ _ _ _ _ us hl=>match us,hl with | [_,_,_],_=>rfl
    | exact fun _ _ _ _ _ _ us hl=>match us,hl with | [_,_,_,_],_=>rfl
    | exact fun _ _ _ _ _ _ us hl=>match us,hl with | [_,_,_,_,_],_=>rfl):Callee P w K mg base x (k+1) ps (nh K ms fr (FL.run ms fr N.length b)) :=
 zmq ms fr h S dY fo fY fun f av A outer s H E hr=>zL (hb hr S.nd)
theorem dC(N:List ib)(h:aH K mg x st)
  (hb:∀{f:dm} {av:gV} {A:AR} {outer:List AY} {s:ir} {H:Hp} {E:XK},aQ k (A.deeper (BG x (aM st) s.heap.objs.size f av))->N.Nodup->eO K (dB (bE P w) P w K mg base N x (aM st) f av A outer s H E).cF (bZ st) b)
  (S:eY N ps (aM st):=by exact⟨rfl,rfl,rfl,by decide +kernel,rfl,by decide +kernel,by decide +kernel⟩)(fo:ps.length<=N.length:=by decide)
  (fY:∀(kV doc pm:gV) (an:Option dm) (av ct:gV) (us:List gV),us.length=ps.length->CU (BX x x (fU st) (bZ st) (aM st) .none kV doc pm an av ct) ⟨us,[]⟩=pure (ps.zip us):=by
   first
    | exact fun _ _ _ _ _ _ us hl=>match us,hl with | [_],_=>rfl
    | exact fun _ _ _ _ _ _ us hl=>match us,hl with | [_,_],_=>rfl
    | exact fun _ _ _ _ _ _ us hl=>match us,hl with | [_,_,_],_=>rfl
    | exact fun _ _ _ _ _ _ us hl=>match us,hl with | [_,_,_,_],_=>rfl
    | exact fun _ _ _ _ _ _ us hl=>match us,hl with | [_,_,_,_,_],_=>rfl):Callee P w K mg base x (k+1) ps (jx K ps.length fr (aW fr ps.length N.length b)) :=
 Callee.pure (vh (AI ps.length false) N h hb S (by simp) fo fY)
end
section
variable {K:kb}{a c e:Av}{f g1 g2:EF}{p:AD}{j:Nat}
theorem a1(ha:PV K X a f)(hs:Aw [a] X.env=(false,AB a X.env)::Aw [] X.env:=by exact FL.se rfl):du K X [a] (aa f af):=dj ha wu hs
theorem a2(ha:PV K X a f)(hb:PV K X b h)(hs:Aw [a,b] X.env=(false,AB a X.env)::Aw [b] X.env:=by exact FL.se rfl)(cK:Aw [b] X.env=(false,AB b X.env)::Aw [] X.env:=by exact FL.se rfl):du K X [a,b] (aa f (aa h af)):=dj ha (a1 hb cK) hs
theorem a3(ha:PV K X a f)(hb:PV K X b h)(hc:PV K X c g1)(hs:Aw [a,b,c] X.env=(false,AB a X.env)::Aw [b,c] X.env:=by exact FL.se rfl)(cK:Aw [b,c] X.env=(false,AB b X.env)::Aw [c] X.env:=by exact FL.se rfl)(hs3:Aw [c] X.env=(false,AB c X.env)::Aw [] X.env:=by exact FL.se rfl):du K X [a,b,c] (aa f (aa h (aa g1 af))):=dj ha (a2 hb hc cK hs3) hs
variable {y:ib}
theorem bB(cc:Callee X.prog X.w X.K X.mg X.base x k ps (jx X.K n false G))(hr:aQ j X.A)(ha:du K X (e::es) fa)(hl:lJ fa n:=by repeat (first|exact xF|refine xE ?_))(hg:Gl X x:=by rfl)(hj:k<=j:=by decide)(bz:(x==("__debug__":ib))=false:=by decide)
  (he:Aw (e::es) X.env=(false,AB e X.env)::Aw es X.env:=by exact FL.se rfl) (aX:(A7 pos (Aw es X.env)).any (·.1)=false:=by exact FL.sp rfl):PV K X (.Call (.Name x p) (e::es) [] pos) (ak G fa):=zr9 cc hr hg qT ha hl hj bz he aX
theorem zdp(cc:Callee X.prog X.w X.K X.mg X.base x k ps (jx X.K n true G))(hr:aQ j X.A)(ha:du K X (e::es) fa)(hl:lJ fa n:=by repeat (first|exact xF|refine xE ?_))(hg:Gl X x:=by rfl)(hj:k<=j:=by decide)(bz:(x==("__debug__":ib))=false:=by decide)
  (he:Aw (e::es) X.env=(false,AB e X.env)::Aw es X.env:=by exact FL.se rfl) (aX:(A7 pos (Aw es X.env)).any (·.1)=false:=by exact FL.sp rfl):bg K X (.Call (.Name x p) (e::es) [] pos) (ak G fa):=zsw cc hr hg qT ha hl hj bz he aX
theorem fM(cc:Callee X.prog X.w X.K X.mg X.base x k ps (nh X.K (kN ar) false F))(hr:aQ j X.A)(ha:jZ K X (e::es) ar)(ho:xn F (kN ar).length:=by exact zqn)(nd:(qb ar).Nodup:=by decide)(ct:qc ar<=1:=by decide)(hg:Gl X x:=by rfl)(hj:k<=j:=by decide)(bz:(x==("__debug__":ib))=false:=by decide)
  (he:Aw (e::es) X.env=(false,AB e X.env)::Aw es X.env:=by exact FL.se rfl) (aX:(A7 pos (Aw es X.env)).any (·.1)=false:=by exact FL.sp rfl):PV K X (.Call (.Name x p) (e::es) [] pos) (aY F ar):=zsa cc ho nd ct hr hg qT ha hj bz he aX
theorem fG(i:Nat)(h:jZ K X es ar)(ha:PE X (.Name y py) (bL i):=by exact pv _)(hs:Aw (.Name y py::es) X.env=(false,AB (.Name y py) X.env)::Aw es X.env:=by exact FL.se rfl):jZ K X (.Name y py::es) (.m i::ar):=zsq i ha h hs
theorem jQ{id:String}(hc:gJ X (.builtin id) g)(hm:X.mg x=none)(hv:Bo x=some (.builtin id))(ha:PV K X e f)(hg:Gl X x:=by rfl)(hn:x ≠ "__name__":=by decide) (bz:(x==("__debug__":ib))=false:=by decide)
  (he:Aw [e] X.env=(false,AB e X.env)::Aw [] X.env:=by exact FL.se rfl) (aX:(A7 pos (Aw [] X.env)).any (·.1)=false:=by exact FL.sp rfl):PV K X (.Call (.Name x p) [e] [] pos) (e1 g f):=wt (zC (gJ.ds hc) hg hm hv (a1 ha he) hn bz he aX)
theorem mY(hc:gJ X (.type T) g)(hm:X.mg x=none)(hv:Bo x=some (.type T))(ha:PV K X e f)(hg:Gl X x:=by rfl)(hn:x ≠ "__name__":=by decide) (bz:(x==("__debug__":ib))=false:=by decide)
  (he:Aw [e] X.env=(false,AB e X.env)::Aw [] X.env:=by exact FL.se rfl) (aX:(A7 pos (Aw [] X.env)).any (·.1)=false:=by exact FL.sp rfl):PV K X (.Call (.Name x p) [e] [] pos) (e1 g f):=wt (zsb (gJ.ds hc) hg hm hv (a1 ha he) hn bz he aX)
theorem zsn{id:String}(i:Nat)(hc:gJ X (.builtin id) g)(hm:X.mg x=none)(hv:Bo x=some (.builtin id))(hg:Gl X x:=by rfl)(ha:PE X (.Name y py) (bL i):=by exact pv _)(hn:x ≠ "__name__":=by decide) (bz:(x==("__debug__":ib))=false:=by decide):PV K X (.Call (.Name x p) [.Name y py] [] pos) (m1 g i):=zsk i hc hg hm hv ha hn bz
theorem zso(i:Nat)(hc:gJ X (.type T) g)(hm:X.mg x=none)(hv:Bo x=some (.type T))(hg:Gl X x:=by rfl)(ha:PE X (.Name y py) (bL i):=by exact pv _)(hn:x ≠ "__name__":=by decide) (bz:(x==("__debug__":ib))=false:=by decide):PV K X (.Call (.Name x p) [.Name y py] [] pos) (m1 g i):=zsl i hc hg hm hv ha hn bz
theorem lA(kt:nC T)(hm:X.mg "isinstance"=none) (jk:X.mg tn=none) (vM:Bo tn=some (.type T)) (ha:PV K X a f) (hg:Gl X "isinstance":=by rfl) (vD:Gl X tn:=by rfl) (hn:tn ≠ "__name__":=by decide) (hd:(tn==("__debug__":ib))=false:=by decide)
  (iS:Aw [a,.Name tn p2] X.env=(false,AB a X.env)::Aw [.Name tn p2] X.env:=by exact FL.se rfl) (cK:Aw [.Name tn p2] X.env=(false,AB (.Name tn p2) X.env)::Aw [] X.env:=by exact FL.se rfl) (aX:(A7 pos (Aw [.Name tn p2] X.env)).any (·.1)=false:=by exact FL.sp rfl) :
  PV K X (.Call (.Name "isinstance" p) [a,.Name tn p2] [] pos) (e1 (dZ T) f):=zsi kt hg hm vD jk vM ha hn hd iS cK aX
theorem jT(hr:aQ j X.A):aV X (A3 .Eq) (rD X.K dR):=zp7 hr.units
theorem gH(hr:aQ j X.A):aV X (A3 .NotEq) (rD X.K b9):=zqc hr.units
theorem rg(hr:aQ j X.A):aV X (A3 .Lt) (rD X.K f9):=zqb hr.units
theorem zdC(hr:aQ j X.A):aV X (A3 .LtE) (rD X.K oC):=zqa hr.units
theorem ztq(hr:aQ j X.A):aV X (A3 .Gt) (rD X.K yD):=zp9 hr.units
theorem ziu(hr:aQ j X.A):aV X (A3 .GtE) (rD X.K mE):=zp8 hr.units
theorem ztr(hr:aQ j X.A):aV X (A3 .In) (rD X.K inD):=zqv (Ae hr)
theorem zO(hr:aQ j X.A):lN X (rD X.K hW):=znz (Ae hr)
variable {g:D->D->R D}
theorem oQ(ho:aV X (A3 op) (rD X.K g))(ha:PV K X a f)(hb:PV K X b h)(hm:CP op b=false:=by first|exact zq _|rfl):PV K X (.Compare a [op] [b] pos) (e2 g f h):=zsd ho ha hb hm
theorem cZ(ho:aV X (A3 op) (rD X.K g))(ha:PV K X a f)(hb:PV K X b h)(hm:CP op b=false:=by first|exact zq _|rfl):fc K X (.Compare a [op] [b] pos) (tB (e2 g f h)):=zsP ho ha hb hm
theorem zsO(i:Nat)(ho:aV X (A3 op) (rD X.K g))(hb:PV K X b h)(ha:PE X (.Name y py) (bL i):=by exact pv _)(hm:CP op b=false:=by first|exact zq _|rfl):fc K X (.Compare (.Name y py) [op] [b] pos) (tB (m2 g i h)):=zsR i ho ha hb hm
theorem zsQ(i:Nat)(ho:aV X (A3 op) (rD X.K g))(hb:PV K X a f)(ha:PE X (.Name y py) (bL i):=by exact pv _)(hm:CP op (.Name y py)=false:=by first|exact zq _|rfl):fc K X (.Compare a [op] [.Name y py] pos) (tB (iU g f i)):=zsS i ho hb ha hm
theorem qY(i:Nat)(ho:lN X (rD X.K g))(hb:PV K X b h)(ha:PE X (.Name y py) (bL i):=by exact pv _)(hs:xt b:=by exact fun _ _=>rfl):PV K X (.Subscript (.Name y py) b pos) (m2 g i h):=zsm i ho ha hb hs
theorem bC(he:PV K X e f):eO K X [.Return (some e) pos] (az f):=eB (zsL he)
theorem cG(i:Nat)(hN:X.N.Nodup)(he:PV K X e f)(hi:X.N[i]?=some x:=by rfl)(hx:Loc X.env.scope x:=by first|exact Dg rfl|exact CZ rfl)(hs:Bx e (some (.Name x py)) pos.line X.env=pure false:=by rfl)(hf:X.fn x=true\/X.env.scope.names.lookup x=some .local:=by first|exact .inl rfl|exact .inr rfl|assumption):cN K X (.Assign [.Name x py] e pos) (aF (gN i) f):=zsM hN hi hx he hs hf
theorem tX(i:Nat)(hN:X.N.Nodup)(he:bg K X e f)(hi:X.N[i]?=some x:=by rfl)(hx:Loc X.env.scope x:=by first|exact Dg rfl|exact CZ rfl)(hs:Bx e (some (.Name x py)) pos.line X.env=pure false:=by rfl)(hf:X.fn x=true\/X.env.scope.names.lookup x=some .local:=by first|exact .inl rfl|exact .inr rfl|assumption):cN K X (.Assign [.Name x py] e pos) (c9 i f):=zsI hN hi hx he hs hf
theorem bR(i:Nat)(hN:X.N.Nodup)(hi:X.N[i]?=some x:=by rfl)(hx:Loc X.env.scope x:=by first|exact Dg rfl|exact CZ rfl)(hf:X.fn x=true\/X.env.scope.names.lookup x=some .local:=by first|exact .inl rfl|exact .inr rfl|assumption):hJ K X [i] (.Name x pos) (gN i):=zss hN hi hx hf
theorem wx(i j:Nat){kt k2:Nat}{px pt kB:AD}(nd:X.N.Nodup)(ha:PV K X a f)(hb:PV K X b h)(hc:X.calm=true:=by rfl)(hi:X.N[i]?=some x:=by rfl)(hj:X.N[j]?=some y:=by rfl)(ij:i≠j:=by decide)(l1:X.env.scope.names.lookup x=some .local:=by rfl)(l2:X.env.scope.names.lookup y=some .local:=by rfl)
  (sw:E7 [.Tuple [.Name x px,.Name y py] kt pt] (.Tuple [a,b] k2 kB) X.env=pure (some [x,y]):=by rfl)(s1:E6 [.Tuple [.Name x px,.Name y py] kt pt] (.Tuple [a,b] k2 kB) pos.line X.env=pure false:=by rfl)(s2:Aw [a,b] X.env=(false,AB a X.env)::Aw [b] X.env:=by exact FL.se rfl)(s3:Aw [b] X.env=(false,AB b X.env)::Aw [] X.env:=by exact FL.se rfl) :
  cN K X (.Assign [.Tuple [.Name x px,.Name y py] kt pt] (.Tuple [a,b] k2 kB) pos) (de i j f h):=zsK hc nd hi hj ij l1 l2 ha hb sw s1 s2 s3
theorem q8(hi:hU K X tg e it)(hg:hJ K X dom tg gg)(hb:eO K X body bb)(hp:Es (Ay X.prog X.w) X.A X.env X.xe:=by exact Ik)(hc:X.calm=true:=by rfl)(hs:∀ v,CA e X.env v=pure v:=by intro _;rfl):cN K X (.For tg e body [] pos) (c7 it gg bb):=zsF hp hc hi hg hb hs
variable {elt iter ke ve:Av}{kf vf:EF}
theorem cp(L:List ib)(ix:List Nat)(M:List ib)(hi:hU K X tg iter it)(hg:∀{C:dm} {s₃:ir} {H₃:Hp} {fp:List dm},M.Nodup->hJ K (cW X M scope C s₃ H₃ fp) dom tg gg)(ht:∀{C:dm} {s₃:ir} {H₃:Hp} {fp:List dm},lP K (cW X M scope C s₃ H₃ fp) ifs t)(he:∀{C:dm} {s₃:ir} {H₃:Hp} {fp:List dm},PV K (cW X M scope C s₃ H₃ fp) elt f)
  (hc:X.calm=true:=by rfl)(hk:scope.kind=.function:=by rfl)(ho:lV X.env.scope scope X.N ix=true:=by kernel_rfl)(hM:M=L++ix.map (fun i=>X.N.getD i ""):=by rfl) (nd:ix.Nodup:=by decide) (hMn:M.Nodup:=by decide +kernel) (hd:(dom.all fun i=>decide (i<L.length))=true:=by decide) (hs:∀ v,CA iter X.env v=pure v:=by intro _;rfl) :
  bg K X (.ListComp elt [⟨tg,iter,ifs,0⟩] scope pos) (eR L.length ix it gg t f):=zsx L ix M hc hk ho hM nd hi (fun _ _ _ _=>hg hMn) hd (fun _ _ _ _=>ht) (fun _ _ _ _=>he) hs
theorem cpS(i0:Nat)(L:List ib)(ix:List Nat)(M:List ib)(hN:X.N.Nodup)(hi:hU K X tg iter it)(hg:∀{C:dm} {s₃:ir} {H₃:Hp} {fp:List dm},M.Nodup->hJ K (cW X M scope C s₃ H₃ fp) dom tg gg)(ht:∀{C:dm} {s₃:ir} {H₃:Hp} {fp:List dm},lP K (cW X M scope C s₃ H₃ fp) ifs t)(he:∀{C:dm} {s₃:ir} {H₃:Hp} {fp:List dm},PV K (cW X M scope C s₃ H₃ fp) elt f)
  (h0:X.N[i0]?=some x:=by rfl)(hl:X.env.scope.names.lookup x=some .local:=by rfl)(qI:Bx (.ListComp elt [⟨tg,iter,ifs,0⟩] scope pos) (some (.Name x py)) p.line X.env=pure true:=by rfl)(hc:X.calm=true:=by rfl)(hk:scope.kind=.function:=by rfl)(ho:lV X.env.scope scope X.N ix=true:=by kernel_rfl)(hM:M=L++ix.map (fun i=>X.N.getD i ""):=by rfl) (nd:ix.Nodup:=by decide) (hMn:M.Nodup:=by decide +kernel) (hd:(dom.all fun i=>decide (i<L.length))=true:=by decide) (hs:∀ v,CA iter X.env v=pure v:=by intro _;rfl) :
  cN K X (.Assign [.Name x py] (.ListComp elt [⟨tg,iter,ifs,0⟩] scope pos) p) (c9 i0 (eR L.length ix it gg t f)):=zsJ i0 L ix M hN h0 hl qI hc hk ho hM nd hi (fun _ _ _ _=>hg hMn) hd (fun _ _ _ _=>ht) (fun _ _ _ _=>he) hs
end
abbrev CT(x:ib)(k:Nat)(ps:List ib)(n:Nat)(fr:Bool)(G:List D->R D)(P:AK)(w:AJ)(K:kb)(mg:ib->Option gV)(base:Az):Prop:=Callee P w K mg base x k ps (jx K n fr G)
abbrev wV(x:ib)(k:Nat)(ps:List ib)(ms:List Bool)(fr:Bool)(F:List D->R (D×List D))(P:AK)(w:AJ)(K:kb)(mg:ib->Option gV)(base:Az):Prop:=Callee P w K mg base x k ps (nh K ms fr F)
end
end FL
namespace FL
open PySem
noncomputable def rZ(ds:List D):AF:=fun ρ=>.ok (ds,ρ)
end FL
namespace L2
open PySem PySem.Spec
variable {X:Cx}
end L2
namespace FL
open PySem L2 PySem.Spec
open PyProof.Rows hiding St
section
variable [Cs]
end
section
variable [Cs]
theorem cu.none{K:kb}{ρ ρ':En}{σ:L2.St}{H H':Hp}{a:dm}(s:cu ρ ρ' σ H H')(r:Rel K ρ' σ H')(h:H' a=none):H a=none:=by
 cases e:H a with
 | none=>rfl
 | some o =>
  by_cases m:MA ρ σ a
  ·obtain⟨o',e',_⟩:=r.eJ (s.ma.mp m)
   rw [h] at e';cases e'
  ·rw [s.kp a o e m] at h;cases h
end
variable {f:EF}{tc:TF}{dom:List Nat}{c e:Av}{pos py:AD}{X:Cx}{s:SF}{σ:L2.St}{i:Nat}{v:Option V}{x:ib}
section
variable [Cs]
def pT(dom:List Nat)(σ σ':L2.St):Prop:=∀ i,i∉dom->σ'[i]?=σ[i]?
theorem pT.refl:pT dom σ σ:=fun _ _=>rfl
theorem pT.set(h:i∈dom):pT dom σ (σ.set i v):=fun j hj=>Bl fun z=>hj (by subst z;exact h)
noncomputable def EFr(dom:List Nat)(σ:L2.St)(Dn:Ends):Ends:={ nx:=fun σ' H'=>pT dom σ σ'->Dn.nx σ' H',rt:=Dn.rt,bk:=fun σ' H'=>pT dom σ σ'->Dn.bk σ' H',ct:=fun σ' H'=>pT dom σ σ'->Dn.ct σ' H' }
noncomputable def tSf(K:kb)(C:SC)(dom:List Nat)(f:SF):TS:=fun Dn σ H=>tS K C f (EFr dom σ Dn) σ H
def uK(K:kb)(X:Cx)(dom:List Nat)(st:AQ)(f:SF):Prop:=X.K=K->∀ C,PS X st (tSf K C dom f)
def xo(K:kb)(X:Cx)(dom:List Nat)(st:List AQ)(f:SF):Prop:=X.K=K->∀ C,bW X st (tSf K C dom f)
section
variable {K:kb}{st:AQ}{rest:List AQ}{t:SF}
theorem zrV:xo K X dom [] aO:=fun _ C=>zdl.weak fun Dn σ H=>by
 rintro⟨ρ,rel,g⟩
 exact g σ H rel (aA.refl H) .refl
theorem zrW(h1:uK K X dom st s):xo K X dom [st] s:=fun hK C=>tU (h1 hK C)
theorem zrT{a b:List AQ}(hc:fc K X c tc)(ha:xo K X dom a s)(hb:xo K X dom b t):uK K X dom (.If c a b pos) (aN tc s t):=fun hK C=>(zdj (hc hK) (ha hK C) (hb hK C)).weak fun Dn σ H=>by
 rintro⟨ρ,rel,g⟩
 refine zbU rel g fun cb ρ1 H1 ah fz g1=>?_
 cases cb with
 | true=>exact kX ⟨ρ1,ah,g1⟩
 | false=>exact kW ⟨ρ1,ah,g1⟩
theorem zrX(i:Nat)(hN:X.N.Nodup)(he:PV K X e f)(hd:i∈dom:=by decide)(hi:X.N[i]?=some x:=by rfl)(hx:Loc X.env.scope x:=by first|exact Dg rfl|exact CZ rfl)(hs:Bx e (some (.Name x py)) pos.line X.env=pure false:=by rfl)(hf:X.fn x=true\/X.env.scope.names.lookup x=some .local:=by first|exact .inl rfl|exact .inr rfl|assumption) :
  uK K X dom (.Assign [.Name x py] e pos) (aF (gN i) f):=fun hK C=>(qX hN hi hx (he hK) hs hf).weak fun Dn σ H=>by
 rintro⟨ρ,rel,q⟩
 refine ki rel q fun d ρ1 v H1 ah aG fz q1=>?_
 obtain⟨ρ2,e2,q2⟩:=q1.bU
 obtain⟨rfl,n,hl⟩:=vm e2
 exact q2 _ H1 (ah.chg (ah.rel.set fz fun _ _ _ z=>nomatch z) (uW n hl)) (aA.refl H1) (.set hd)
end
open Classical in
noncomputable def zvQ(Z:dm->Prop)(H:Hp):Hp:=fun b=>if Z b then(match H b with|some (.frz _ u)=>some u|z=>z) else H b
end
variable {base:Az}{N ns ps:List ib}{p:Bool}{j k:Nat}{fa:AF}{d:D}{P:AK}{c:String}{ks:List (Option String)}{b:SF}{q:ib}{fd:A9}{w:AJ}{vs:List V}{es:List Av}{H H':Hp}{C:dm}{px:AD}{a:Av}{mg:ib->Option gV}
section
noncomputable def iQ(i:Nat)(c:String)(j:Nat):EF:=fun ρ=>match ρ[i]? with
 | some (.ob c' ds)=>if c'=c then(R.of ds[j]?).bind fun d=>.ok (d,ρ) else .bad
 | _=>.bad
noncomputable def dD:Option String->D->Sl
 | none,d=>.val d
 | some c,.tuple fs=>.ob c fs
 | some _,_=>.no
noncomputable def kE(ks:List (Option String))(fr:Bool)(n:Nat)(b:SF)(ds:List D):R D :=
 if ds.length=ks.length then(b (BH dD ks ds++AI (n-ds.length) .no)).bind fun x=>match x.1,fr with
  | .rt d,false=>.ok d
  | .rf d,true=>.ok d
  | .nx,false=>.ok .none
  | _,_=>.bad
 else .bad
noncomputable def fE(i:Nat)(c:String)(fa:AF):AF:=fun ρ=>match ρ[i]? with
 | some (.ob c' ds)=>if c'=c then(fa ρ).bind fun x=>.ok (.tuple ds::x.1,x.2) else .bad
 | _=>.bad
section
variable [Cs]{K:kb}
noncomputable def jD(K:kb)(H:Hp):List (Option String)->List D->List V->Prop
 | [],[],vs=>vs=[]
 | k::ks,d::ds,vs=>∃ v r,vs=v::r/\gA K H (dD k d) (some v)/\jD K H ks ds r
 | _,_,_=>False
theorem zug(k:Option String)(d:D)(p:Bool)(e:D):dD k d≠.ow p e:=by
 unfold dD
 split <;> exact fun z=>nomatch z
theorem jD.len:∀{ks:List (Option String)} {ds:List D} {vs:List V},jD K H ks ds vs->vs.length=ks.length/\ds.length=ks.length
 | [],[],vs,h=>by cases h;exact⟨rfl,rfl⟩
 | k::ks,d::ds,vs,h=>by
  obtain⟨v,r,rfl,s,t⟩:=h
  have:=jD.len t
  simp [this.1,this.2]
 | [],_::_,_,h=>h.elim
 | _::_,[],_,h=>h.elim
theorem jD.get:∀{ks:List (Option String)} {ds:List D} {vs:List V} {i:Nat} {x:Sl} {v:Option V},jD K H ks ds vs->(BH dD ks ds)[i]?=some x->(vs.map some)[i]?=some v->gA K H x v
 | [],[],vs,i,x,v,h,e,_=>by simp at e
 | k::ks,d::ds,vs,0,x,v,h,e1,e2=>by
  obtain⟨u,r,rfl,s,t⟩:=h
  simp at e1 e2
  subst e1;subst e2
  exact s
 | k::ks,d::ds,vs,i+1,x,v,h,e1,e2=>by
  obtain⟨u,r,rfl,s,t⟩:=h
  simp only [List.zipWith_cons_cons,zz1,A2] at e1 e2
  exact jD.get t e1 e2
 | [],_::_,_,_,_,_,h,_,_=>h.elim
 | _::_,[],_,_,_,_,h,_,_=>h.elim
theorem Ap{ds:List D}:(BH dD ks ds)[i]?≠some (.ow p d):=fun e=>by
 rw [List.getElem?_zipWith] at e
 split at e
 ·exact zug _ _ _ _ (BC e)
 ·cases e
theorem zcO:∀{ns:List ib} {vs:List V} {j:Nat} {f:ib} {v:V},ns.Nodup->ns[j]?=some f->vs[j]?=some v->(ns.zip vs).lookup f=some v
 | n::ns,u::vs,0,f,v,_,h1,h2=>by
  simp at h1 h2
  subst h1;subst h2
  simp [A5]
 | n::ns,u::vs,j+1,f,v,hn,h1,h2=>by
  simp only [zz1] at h1 h2
  rw [CW] at hn
  have ne:(f==n)=false:=by
   simp only [beq_eq_false_iff_ne]
   exact fun z=>hn.1 (z▸CY h1)
  rw [BL,A5,ne]
  exact zcO hn.2 h1 h2
 | [],_,_,_,_,_,h,_=>by simp at h
 | _::_,[],_,_,_,_,_,h=>by simp at h
theorem zdE{ds:List D}(cst:i6 H)(f:jD K H ks ds vs):Rel K (BH dD ks ds) (vs.map some) H :=
 ⟨by rw [JH,Bc,f.len.1,f.len.2,Ge],fun i x v e1 e2=>f.get e1 e2,fun i j a ⟨⟨p,d,e⟩,_⟩=>absurd e Ap,cst⟩
noncomputable def spO(K:kb)(ks:List (Option String))(fr:Bool)(G:List D->R D):Sp:=fun vs H Q _=>∃ ds,i6 H/\jD K H ks ds vs/\∃ d,G ds=.ok d/\∀ v H',aC H H'->(if fr=true then ∃ a,v=.ref a/\H a=none/\cO K H' a d else Fz K H' d v)->Q v H'
theorem zse{f:ib}(ho:Cs.O c=some (C,ns))(hj:ns[j]?=some f)(hn:ns.Nodup)(hc:gv K C)(na:eZ K C f)(hv:PE X (.Name x px) (bL i))(hb:Dq (.Name x px) f X.env (AB (.Name x px) X.env)=AB (.Name x px) X.env:=by rfl) :
  PV K X (.Attribute (.Name x px) f pos) (iQ i c j):=.mk fun hK=>by
 subst hK
 refine(zqW hv hb).weak fun σ H Q=>?_
 rintro⟨ρ,rel,g⟩
 unfold iQ at g
 cases e:ρ[i]? with
 | none=>rw [e] at g;exact g.elim
 | some y =>
  rw [e] at g
  cases y with
  | ob c' ds =>
   dsimp only at g
   split at g
   ·rename_i gD
    subst gD
    obtain⟨d,ed,g⟩:=g.bQ
    have hl:i<σ.length:=by rw [<- rel.len];exact(Bf.mp e).1
    have o:=rel.ok i _ _ e (Be hl)
    cases es:σ[i] with
    | none=>rw [es] at o;exact o.elim
    | some v =>
     rw [es] at o
     cases v with
     | ref a =>
      obtain⟨C',cU,dx,vs,h1,h2,h3,h4⟩:=Il o fun⟨_,_,_,z,_⟩=>by rw [ho] at z;cases z
      rw [ho] at h1
      cases h1
      have mn:ds[j]?=some d:=by
       cases q:ds[j]? with
       | none=>rw [q] at ed;cases ed
       | some z=>rw [q] at ed;cases ed;rfl
      obtain⟨v,ev,fv⟩:=h4.get mn
      refine⟨.ref a,by rw [Be hl,es],a,C,dx,ns.zip vs,v,rfl,h2,hc,na,?_,g.now rel v fv⟩
      exact zcO hn hj ev
     | _=>exact o.elim
   ·exact g.elim
  | _=>exact g.elim
noncomputable def tAO(K:kb)(ks:List (Option String))(f:AF):TA:=fun σ H Q=>∃ ρ,Rel K ρ σ H/\Good K ρ σ H (f ρ) fun ds _ H'=>∀ vs,jD K H' ks ds vs->Q vs H'
def ja(K:kb)(X:Cx)(ks:List (Option String))(es:List Av)(f:AF):Prop:=X.K=K->PA X es (tAO K ks f)
theorem oO:ja K X [] [] af:=fun _=>jq.weak fun σ H Q=>by
 rintro⟨ρ,rel,q⟩
 exact q.now rel [] rfl
theorem iq(ha:PV K X a f)(hr:ja K X ks es fa)(hs:Aw (a::es) X.env=(false,AB a X.env)::Aw es X.env:=by exact FL.se rfl):ja K X (none::ks) (a::es) (aa f fa):=fun hK=>(gm (ha hK) (hr hK) hs).weak fun σ H Q=>by
 rintro⟨ρ,rel,q⟩
 refine eG rel q fun dx ρ1 x H1 ah aG fx q1=>?_
 obtain⟨y,ey,q2⟩:=q1.bU
 refine⟨ρ1,ah,?_⟩
 rw [ey]
 intro H2 cC bY vs fs
 exact(q2.step bY).now cC _ ⟨x,vs,rfl,fx.mono (bY.cJ ah),fs⟩
theorem zqK(hv:PE X (.Name x px) (bL i))(hr:ja K X ks es fa)(hs:Aw (.Name x px::es) X.env=(false,AB (.Name x px) X.env)::Aw es X.env:=by exact FL.se rfl):ja K X (some c::ks) (.Name x px::es) (fE i c fa):=fun hK=>(gm hv (hr hK) hs).weak fun σ H Q=>by
 rintro⟨ρ,rel,g⟩
 unfold fE at g
 cases e:ρ[i]? with
 | none=>rw [e] at g;exact g.elim
 | some y =>
  rw [e] at g
  cases y with
  | ob c' ds =>
   dsimp only at g
   split at g
   ·rename_i gD
    subst gD
    have hl:i<σ.length:=by rw [<- rel.len];exact(Bf.mp e).1
    have o:=rel.ok i _ _ e (Be hl)
    cases es:σ[i] with
    | none=>rw [es] at o;exact o.elim
    | some v =>
     rw [es] at o
     refine⟨v,by rw [Be hl,es],?_⟩
     obtain⟨y,ey,q2⟩:=g.bU
     refine⟨ρ,rel,?_⟩
     rw [ey]
     intro H2 cC bY vs fs
     refine(q2.step bY).now cC _ ⟨v,vs,rfl,?_,fs⟩
     exact gA.mono (x:=.ob c' ds) (bY.cJ rel) (fun a _ ⟨p,d',z⟩=>nomatch z) o
   ·exact g.elim
  | _=>exact g.elim
end
section
variable [Cs]{K:kb}
theorem zmt{st:AQ}{f:dm}(ks:List (Option String))(fr:Bool)(h:cM K x q st f fd)(S:eY N ps (aM st))(dY:ps.length=ks.length)(fo:ps.length<=N.length)
  (hb:∀(av:gV) (A:AR) (outer:List AY) (s:ir) (H:Hp) (E:XK),aQ k (A.deeper (BG q (aM st) s.heap.objs.size f av))->eO K (dB (bE P w) P w K mg base N q (aM st) f av A outer s H E) (bZ st) b) :
  cA P w K mg base (bE P w) (k+1) f fd ps (spO K ks fr (kE ks fr N.length b)):=by
 refine h.tF S (fun vs H Q E ⟨ds,_,e,_⟩=>by rw [e.len.1,dY]) fun av A outer s H vs Q E hr hq=>?_
 obtain⟨ds,cst,fa,d,hF,q⟩:=hq
 obtain⟨hv,hd⟩:=fa.len
 have bV:L2.start N vs=vs.map some++AI (N.length-ds.length) none:=by unfold L2.start;rw [hv,hd]
 have no:∀(i:Nat) p d,(BH dD ks ds++AI (N.length-ds.length) .no)[i]?≠some (.ow p d):=fun i p d e=>by
  by_cases c:i<(BH dD ks ds).length
  ·rw [B5 c] at e
   exact Ap e
  ·rw [CH (by omega),CC] at e
   split at e <;> cases e
 refine⟨tS K ⟨H,L2.start N vs,BH dD ks ds++AI (N.length-ds.length) .no⟩ b,hb av A outer s H E hr rfl _,BH dD ks ds++AI (N.length-ds.length) .no,?_,?_⟩
 ·refine⟨?_,fun a o e _=>e,fun i a d e _=>absurd e (no i false d),fun i=>ER,fun i d e=>rfl,fun i p d e=>absurd e (no i p d)⟩
  rw [bV]
  exact(zdE cst fa).pad _
 ·unfold kE at hF
  rw [if_pos hd] at hF
  obtain⟨z,ez,ey⟩:=bK hF
  rw [ez]
  obtain⟨fl,ρ'⟩:=z
  have kp:∀(ρ':En) (σ':L2.St) (H':Hp),bF K ⟨H,L2.start N vs,BH dD ks ds++AI (N.length-ds.length) .no⟩ ρ' σ' H'->aC H H':=fun ρ' σ' H' r b o e=>r.keep b o e fun⟨i,⟨p,d,z⟩,_⟩=>no i p d z
  cases fr with
  | false =>
   cases fl with
   | rt dr=>cases ey;exact fun v σ' H' r fz=>q v H' (kp _ _ _ r) fz
   | nx=>cases ey;exact fun σ' H' r fz=>q .non H' (kp _ _ _ r) (by show Fz K H' .none .non;simp [Fz])
   | _=>cases ey
  | true =>
   cases fl with
   | rf dr=>cases ey;exact fun a σ' H' r ha m=>q (.ref a) H' (kp _ _ _ r) ⟨a,rfl,ha,m⟩
   | _=>cases ey
end
end
variable {n:Nat}{E:XK}{p:AD}{G:List D->R D}{β:Type}{ρ:En}
section
noncomputable def sC(G:List D->R D)(a:AF):EF:=fun ρ=>(a ρ).bind fun x=>(G x.1).bind fun d=>match d with
 | .tuple fs=>.ok (.tuple fs,x.2)
 | _=>.bad
noncomputable def t7(i:Nat)(c:String)(f:EF):SF:=fun ρ=>(f ρ).bind fun x=>match x.1 with
 | .tuple fs=>match x.2[i]? with
  | some (.ow true _)=>.bad
  | some _=>.ok (.nx,x.2.set i (.ob c fs))
  | none=>.bad
 | _=>.bad
section
variable [Cs]{K:kb}
theorem zcP:∀{ns:List ib} {vs:List V} {m:ib},m∉ns->(ns.zip vs).lookup m=none
 | [],_,m,_=>rfl
 | _::_,[],m,_=>rfl
 | n::ns,v::vs,m,h=>by
  have ne:(m==n)=false:=by
   simp only [beq_eq_false_iff_ne]
   exact fun z=>h (by rw [z];exact Bu ..)
  rw [BL,A5,ne]
  exact zcP fun z=>h (Bp _ z)
theorem zmU{k:List D×En->R (β×En)}{P:β->En->Hp->Prop}(rel:Rel K ρ σ H)(g:Good K ρ σ H ((fE i c fa ρ).bind k) P) :
  ∃ a ds y,ρ[i]?=some (.ob c ds)/\σ[i]?=some (some (.ref a))/\gA K H (.ob c ds) (some (.ref a))/\fa ρ=.ok y/\Good K ρ σ H (k (.tuple ds::y.1,y.2)) P:=by
 obtain⟨x,ex,g⟩:=g.bU
 unfold fE at ex
 cases e:ρ[i]? with
 | none=>rw [e] at ex;cases ex
 | some y =>
  rw [e] at ex
  cases y with
  | ob c' ds =>
   dsimp only at ex
   split at ex
   ·rename_i gD
    subst gD
    have hl:i<σ.length:=by rw [<- rel.len];exact(Bf.mp e).1
    have o:=rel.ok i _ _ e (Be hl)
    cases es:σ[i] with
    | none=>rw [es] at o;exact o.elim
    | some v =>
     rw [es] at o
     cases v with
     | ref a =>
      obtain⟨y,ey,ex⟩:=bK ex
      cases ex
      exact⟨a,ds,y,rfl,by rw [Be hl,es],o,ey,g⟩
     | _=>exact o.elim
   ·cases ex
  | _=>cases ex
section
variable {m:ib}{apos:AD}{f:dm}
noncomputable def spI(K:kb)(c:String)(C:dm)(n:Nat)(G:List D->R D):Sp:=fun vs H Q _=>∃ a dx us ds fs,vs=.ref a::us/\us.length=n/\H a=some (.ins C dx [])/\i6 H/\ag K H ds us/\G ds=.ok (.tuple fs) /\
 ∀ H',(∀ b o,b≠a->H b=some o->H' b=some o)->pW K H' a c fs->Q .non H'
noncomputable def tOb(K:kb)(c:String)(f:EF):TE:=fun σ H Q=>∃ ρ,Rel K ρ σ H/\Good K ρ σ H (f ρ) fun d _ H'=>∀ a fs,d=.tuple fs->pW K H' a c fs->Q (.ref a) H'
def xq(K:kb)(X:Cx)(c:String)(e:Av)(f:EF):Prop:=X.K=K->PE X e (tOb K c f)
theorem zsB(M:Mk X.K C f)(F:cA X.prog X.w X.K X.mg X.base (bE X.prog X.w) k f fd ps (spI X.K c C n G))(hr:aQ (k+1) X.A)(hg:Gl X x)(hm:X.mg x=some (.ref C))(hb:Binds X.K fd ps [])(hx:Passes (bE X.prog X.w) X E)(ha:du K X (e::es) fa)(hl:lJ fa n:=by repeat (first|exact xF|refine xE ?_))
  (bz:(x==("__debug__":ib))=false:=by decide) (he:Aw (e::es) X.env=(false,AB e X.env)::Aw es X.env:=by exact FL.se rfl) (aX:(A7 pos (Aw es X.env)).any (·.1)=false:=by exact FL.sp rfl) :
  xq K X c (.Call (.Name x p) (e::es) [] pos) (sC G fa):=fun hK=>by
 subst hK
 refine(zq1 M F hr hg hm hb .nil hx (ha rfl) bz he aX).weak fun σ H Q=>?_
 rintro⟨ρ,rel,q⟩
 obtain⟨y,ey,q0⟩:=q.bU
 have hy:=hl ρ y ey
 refine⟨ρ,rel,?_⟩
 rw [ey]
 intro H1 ah aG vs fs a dx na ndx ne
 obtain⟨d,ed,q2⟩:=(q0.step aG).bQ
 cases d with
 | tuple fds =>
  have s1:aC H1 (upd (upd H1 dx (.own a)) a (.ins C dx [])):=(aC.upd ndx).trans (aC.upd (by rw [aJ (BK ne)];exact na))
  rw [CV]
  refine⟨a,dx,vs,y.1,fds,rfl,by rw [fs.len,hy],bS,ah.cst.mono (aA.of s1),fs.mono (aA.of s1),ed,fun H' kp ob=>⟨rfl,?_⟩⟩
  have s2:aC H1 H':=fun b o eb=>kp b o (fun z=>by subst z;rw [na] at eb;cases eb) (s1 b o eb)
  exact q2.new ah s2 a fds rfl ob
 | _=>exact q2.elim
end
theorem zsG{pos':AD}(hN:X.N.Nodup)(hi:X.N[i]?=some x)(hx:Loc X.env.scope x)(he:xq K X c e f)(hs:Bx e (some (.Name x pos')) pos.line X.env=pure false:=by rfl)(hf:X.fn x=true\/X.env.scope.names.lookup x=some .local:=by first|exact .inl rfl|exact .inr rfl|assumption) :
  cN K X (.Assign [.Name x pos'] e pos) (t7 i c f):=.mk fun hK C=>(qX hN hi hx (he hK) hs hf).weak fun Dn σ H=>by
 rintro⟨ρ,rel,q⟩
 obtain⟨y,ey,q0⟩:=q.bU
 refine⟨ρ,rel.rel,?_⟩
 rw [ey]
 intro H1 r1 aG a fs efs ob
 have ah:=rel.step r1 aG
 obtain⟨d,ρ1⟩:=y
 cases efs
 have q1:=q0.step (aG.cJ rel.rel)
 replace q1:dE K C H1 (match ρ1[i]? with|some (.ow true _)=>.bad|some _=>.ok (.nx,ρ1.set i (.ob c fs))|none=>.bad) Dn:=q1
 have fin:(∀ e,ρ1[i]?≠some (.ow true e))->i<ρ1.length->bF K C (ρ1.set i (.ob c fs)) (σ.set i (some (.ref a))) H1:=fun np hl=>by
  have hls:i<σ.length:=by rw [<- ah.rel.len];exact hl
  refine⟨ah.rel.set (show gA K H1 (.ob c fs) (some (.ref a)) from .inl ob) fun _ _ _ z=>(nomatch z),ah.keep,fun j b c' e1 e2=>?_,fun j=>?_,fun j c' e1=>?_,ah.lu⟩
  ·by_cases k:i=j
   ·subst k
    rw [Bj hl] at e1
    cases e1
   ·rw [Bl k] at e1 e2
    exact ah.own j b c' e1 e2
  ·by_cases k:i=j
   ·subst k
    rw [Bj hl,<- ah.pin i]
    constructor
    ·rintro⟨_,z⟩;cases z
    ·rintro⟨c',z⟩;exact absurd z (np c')
   ·rw [Bl k];exact ah.pin j
  ·by_cases k:i=j
   ·subst k
    rw [Bj hl] at e1;cases e1
   ·rw [Bl k] at e1 ⊢
    exact ah.fix j c' e1
 cases e1:ρ1[i]? with
 | none=>rw [e1] at q1;exact q1.elim
 | some y =>
  have hl:i<ρ1.length:=(Bf.mp e1).1
  rw [e1] at q1
  cases y with
  | no=>exact q1 _ H1 (fin (fun e z=>by rw [e1] at z;cases z) hl) (aA.refl H1)
  | val c=>exact q1 _ H1 (fin (fun e z=>by rw [e1] at z;cases z) hl) (aA.refl H1)
  | ob c ds=>exact q1 _ H1 (fin (fun e z=>by rw [e1] at z;cases z) hl) (aA.refl H1)
  | ow p c =>
   cases p with
   | true=>exact q1.elim
   | false=>exact q1 _ H1 (fin (fun e z=>by rw [e1] at z;cases z) hl) (aA.refl H1)
end
end
variable {sts:List AQ}{Ca:dm}{g:AF}{C:SC}
section
noncomputable def Tf:HO->Prop
 | .tup _=>True
 | .frz _ _=>True
 | _=>False
def rQ(H H':Hp):Prop:=∀ a o,H a=some o->Tf o->H' a=some o
section
variable {K:kb}
mutual
theorem Fz.iJ(e:rQ H H'):∀(d:A4) (v:V),Fz K H d v->Fz K H' d v
 | .none,v,h=>by simp only [Fz] at h ⊢;exact h
 | .bool b,v,h=>by simp only [Fz] at h ⊢;exact h
 | .int i,v,h=>by simp only [Fz] at h ⊢;exact h
 | .str x,v,h=>by simp only [Fz] at h ⊢;exact h
 | .list xs,v,h=>by
  simp only [Fz] at h ⊢
  obtain⟨a,vs,e1,h1,h2⟩:=h
  refine⟨a,vs,e1,?_,ag.iJ e xs vs h2⟩
  rcases h1 with⟨o,h1⟩|h1
  ·exact .inl ⟨o,e _ _ h1 trivial⟩
  ·exact .inr h1
 | .tuple xs,v,h=>by
  simp only [Fz] at h ⊢
  obtain⟨a,vs,e1,h1,h2⟩:=h
  refine⟨a,vs,e1,?_,ag.iJ e xs vs h2⟩
  rcases h1 with h1|⟨o,h1⟩
  ·exact .inl (e _ _ h1 trivial)
  ·exact .inr ⟨o,e _ _ h1 trivial⟩
 | .dict aj,v,h=>by
  simp only [Fz] at h ⊢
  obtain⟨a,o,e1,h⟩:=h
  obtain⟨kk,h1,h2⟩:=h
  exact⟨a,o,e1,⟨kk,e _ _ h1 trivial,bt.iJ e aj kk h2⟩⟩
theorem ag.iJ(e:rQ H H'):∀(ds:List A4) (vs:List V),ag K H ds vs->ag K H' ds vs
 | [],vs,h=>by simp only [ag] at h ⊢;exact h
 | d::ds,vs,h=>by
  simp only [ag] at h ⊢
  obtain⟨v,r,e1,h1,h2⟩:=h
  exact⟨v,r,e1,Fz.iJ e d v h1,ag.iJ e ds r h2⟩
theorem bt.iJ(e:rQ H H'):∀(aj:List (A4×A4)) (kk:List (List Key×V)),bt K H aj kk->bt K H' aj kk
 | [],kk,h=>by simp only [bt] at h ⊢;exact h
 | (k,d)::r,kk,h=>by
  simp only [bt] at h ⊢
  obtain⟨q,v,t,e1,e2,h1,h2⟩:=h
  exact⟨q,v,t,e1,e2,Fz.iJ e d v h1,bt.iJ e r t h2⟩
end
end
section
variable [Cs]{K:kb}{ρ':En}
theorem zmC{a dx:dm}{fs fg:List (ib×V)}(h:H a=some (.ins Ca dx fs)):rQ H (upd H a (.ins Ca dx fg)):=fun b o e t=>by
 rw [aJ fun z=>by subst z;rw [h] at e;cases e;exact t]
 exact e
def Part(Ca:dm)(n:Nat):Prop:=∀ c ns,Cs.O c=some (Ca,ns)->n<ns.length
theorem Rel.ins{a Ca dx:dm}{fs fg:List (ib×V)}(r:Rel K ρ σ H)(h:H a=some (.ins Ca dx fs))(np:Part Ca fs.length):Rel K ρ σ (upd H a (.ins Ca dx fg)):=by
 have fw:rQ H (upd H a (.ins Ca dx fg)):=zmC h
 refine⟨r.len,fun i x v e1 e2=>?_,r.sep,fun b u e=>?_⟩
 ·have o:=r.ok i x v e1 e2
  cases x with
  | no=>trivial
  | val d=>cases v with
   | none=>exact o.elim
   | some v=>exact Fz.iJ fw d v o
  | ow p d=>cases v with
   | none=>exact o.elim
   | some v=>cases v with
    | ref b =>
     have ne:b≠a:=fun z=>by
      obtain⟨u,hu,ow⟩:=cO.own o
      subst z
      rw [h] at hu
      cases hu
      exact ow
     cases d with
     | list ds=>obtain⟨vs,h1,h2⟩:=o;exact⟨vs,by rw [aJ ne];exact h1,ag.iJ fw _ _ h2⟩
     | dict aj =>
      obtain⟨kk,h1,h2⟩:=o
      exact⟨kk,by rw [aJ ne];exact h1,bt.iJ fw _ _ h2⟩
     | _=>exact o.elim
    | _=>exact o.elim
  | ob c ds=>cases v with
   | none=>exact o.elim
   | some v=>cases v with
    | ref b =>
     rcases o with⟨C',ns,dx',vs,h1,h2,h3,h4⟩|⟨C',dd,h2,hO,ns,vs,h1,h3,h5,h4⟩
     ·have ne:b≠a:=fun z=>by
       subst z
       rw [h] at h2
       cases h2
       have:=np c ns h1
       rw [Gf,h3,Ge] at this
       exact Ek _ this
      exact .inl ⟨C',ns,dx',vs,h1,by rw [aJ ne];exact h2,h3,ag.iJ fw _ _ h4⟩
     ·have ne:∀ b u,H b=some u->(∀ C dx fs,u≠.ins C dx fs)->b≠a:=fun b u q z y=>by
       subst y
       rw [h] at q
       cases q
       exact z _ _ _ rfl
      refine .inr ⟨C',dd,by rw [aJ (ne _ _ h2 (fun _ _ _ z=>nomatch z))];exact h2,hO,ns,vs,h1,h3,?_,ag.iJ fw _ _ h4⟩
      cases dd with
      | none=>exact h5
      | some dx'=>exact(aJ (ne _ _ h5 (fun _ _ _ z=>nomatch z))).trans h5
    | _=>exact o.elim
 ·obtain⟨o,xs,rfl⟩:=Cs.st b u e
  exact fw b _ (r.cst b _ e) trivial
noncomputable def ud(K:kb)(Ca:dm)(i:Nat)(ns:List ib)(fa:AF):TS:=fun Dn σ H=>∃ ρ a dx fs ds ρ',Rel K ρ σ H/\σ[i]?=some (some (.ref a))/\H a=some (.ins Ca dx fs)/\(∀ n∈ns,fs.lookup n=none)/\ns.Nodup/\fs.length+ns.length<1000/\(∀ c cU,Cs.O c=some (Ca,cU)->cU.length=fs.length+ns.length)/\fa ρ=.ok (ds,ρ') /\
 ∀ σ' H' vs,ag K H' ds vs->H' a=some (.ins Ca dx (fs++ns.zip vs))->(∀ b o,b≠a->H b=some o->¬ MA ρ σ b->H' b=some o)->Dn.nx σ' H'
theorem zif{f:ib}{v:V}:∀{fs:List (ib×V)},fs.lookup f=none->gF f v fs=fs++[(f,v)]
 | [],_=>rfl
 | (g,x)::r,h=>by
  rw [A5] at h
  have ne:(f==g)=false:=by
   cases q:f==g with
   | false=>rfl
   | true=>rw [q] at h;cases h
  rw [ne] at h
  unfold gF
  rw [if_neg fun z=>by subst z;simp at ne,zif h]
  rfl
theorem zrb:bW X [] (ud K Ca i [] af):=zdl.weak fun Dn σ H=>by
 rintro⟨ρ,a,dx,fs,ds,ρ',rel,hs,ha,_,_,_,_,ef,q⟩
 cases ef
 exact q σ H [] (by simp [ag]) (by simpa using ha) fun b o _ e _=>e
theorem zra{n self:ib}{rest:List AQ}{pa:AD}(hK:X.K=K)(hc:gv K Ca)(na:eZ K Ca n)(hv:PE X (.Name self px) (bL i))(he:PV K X e f)(hr:bW X rest (ud K Ca i ns fa))(hs:Bx e (some (.Attribute (.Name self px) n pa)) pos.line X.env=pure false:=by rfl) :
  bW X (.Assign [.Attribute (.Name self px) n pa] e pos::rest) (ud K Ca i (n::ns) (aa f fa)):=by
 subst hK
 refine(tR (zrC hv (he rfl) hs) hr).weak fun Dn σ H=>?_
 rintro⟨ρ,a,dx,fs,ds,ρ',rel,hsg,ha,hn,nd,hlen,hO,ef,q⟩
 obtain⟨x,ex,ef⟩:=bK (show(f ρ).bind _=_ from ef)
 obtain⟨y,ey,ef⟩:=bK ef
 cases ef
 obtain⟨d,ρ1⟩:=x
 refine⟨ρ,rel,?_⟩
 rw [ex]
 intro H1 ah aG v fz
 have ik:∀ b o,H b=some o->xu o->¬ MA ρ σ b:=fun b o e s m=>by
  obtain⟨u,hu,ow⟩:=rel.eJ m
  rw [e] at hu
  cases hu
  exact ow.jo s
 have ha1:H1 a=some (.ins Ca dx fs):=aG.kp a _ ha (ik a _ ha trivial)
 have ln:fs.lookup n=none:=hn n (Bu ..)
 have hp:=zif (v:=v) ln
 rw [CW] at nd
 rw [A0] at hlen
 refine⟨.ref a,hsg,a,Ca,dx,fs,rfl,ha1,hc,na,by omega,?_⟩
 rw [hp]
 have part:Part Ca fs.length:=fun c cU e=>by
  have:=hO c cU e
  rw [A0] at this
  omega
 refine⟨ρ1,a,dx,fs++[(n,v)],y.1,y.2,ah.ins ha1 part,hsg,bS,fun m hm=>?_,nd.2,by rw [B6];simp;omega,fun c cU e=>?_,ey,fun σ' H' vs fv ea kp=>?_⟩
 ·have ne:(m==n)=false:=by
   simp only [beq_eq_false_iff_ne]
   exact fun z=>nd.1 (z▸hm)
  rw [List.lookup_append,hn m (Bp _ hm)]
  simp [A5,ne]
 ·rw [hO c cU e,B6];simp;omega
 ·have k1:∀ b o,b≠a->H1 b=some o->¬ MA ρ1 σ b->H' b=some o:=fun b o ne e n=>kp b o ne (by rw [aJ ne];exact e) n
  have fw:rQ H1 H':=fun b o e t=>k1 b o (fun z=>by subst z;rw [ha1] at e;cases e;exact t) e fun m=>by
   obtain⟨u,hu,ow⟩:=ah.eJ m
   rw [e] at hu
   cases hu
   cases o <;> first|exact ow|exact t
  refine q σ' H' (v::vs) (by simp only [ag];exact⟨v,vs,rfl,Fz.iJ fw d v fz,fv⟩) ?_ fun b o ne e nm=>k1 b o ne (aG.kp b o e nm) fun m=>nm (aG.ma.mpr m)
  rw [ea,BL,List.append_assoc]
  rfl
noncomputable def zU(s:SF)(g:AF):AF:=fun ρ=>(s ρ).bind fun x=>match x.1 with
 | .nx=>g x.2
 | _=>.bad
noncomputable def ue(K:kb)(C:SC)(Ca:dm)(ns:List ib)(g:AF):TS:=fun Dn σ H=>∃ ρ a dx ds ρ',bF K C ρ σ H/\σ[0]?=some (some (.ref a))/\C.H₀ a=some (.ins Ca dx [])/\¬ MA C.ρ₀ C.σ₀ a/\ns.Nodup/\ns.length<1000/\(∀ c cU,Cs.O c=some (Ca,cU)->cU.length=ns.length)/\g ρ=.ok (ds,ρ') /\
 ∀ σ' H' vs,ag K H' ds vs->H' a=some (.ins Ca dx (ns.zip vs))->(∀ b o,b≠a->C.H₀ b=some o->¬ MA C.ρ₀ C.σ₀ b->H' b=some o)->Dn.nx σ' H'
theorem zrY(h:bW X sts (ud K Ca 0 ns fa)):bW X sts (ue K C Ca ns fa):=h.weak fun Dn σ H=>by
 rintro⟨ρ,a,dx,ds,ρ',rel,hs,ha,nm,nd,hl,hO,eg,q⟩
 refine⟨ρ,a,dx,[],ds,ρ',rel.rel,hs,rel.keep a _ ha nm,fun n _=>rfl,nd,by simpa using hl,fun c cU e=>by simpa using hO c cU e,eg,fun σ' H' vs fv ea kp=>q σ' H' vs fv (by simpa using ea) fun b o ne e n=>?_⟩
 exact kp b o ne (rel.keep b o e n) (rel.zm e n)
theorem zid{st:AQ}{rest:List AQ}(hK:X.K=K)(h1:uK K X dom st s)(h2:bW X rest (ue K C Ca ns g))(hd:0∉dom:=by decide):bW X (st::rest) (ue K C Ca ns (zU s g)):=(tR (h1 hK C) h2).weak fun Dn σ H=>by
 rintro⟨ρ,a,dx,ds,ρ',rel,hs,ha,nm,nd,hl,hO,eg,q⟩
 obtain⟨x,ex,eg⟩:=bK (show(s ρ).bind _=_ from eg)
 obtain⟨fl,ρ1⟩:=x
 cases fl with
 | nx =>
  refine⟨ρ,rel,?_⟩
  rw [ex]
  intro σ' H' r fz fm
  exact⟨ρ1,a,dx,ds,ρ',r,(fm 0 hd).trans hs,ha,nm,nd,hl,hO,eg,q⟩
 | _=>cases eg
end
noncomputable def zT(n N m:Nat)(g:AF)(ds:List D):R D :=
 if ds.length=n then(g (.no::(ds.map Sl.val++AI (N-n-1) .no))).bind fun y=>aR (y.1.length==m) (.ok (.tuple y.1)) else .bad
section
variable [Cs]{K:kb}
theorem zmr{st:AQ}{f:dm}(ho:Cs.O c=some (Ca,ns))(vJ:∀ c' cU,Cs.O c'=some (Ca,cU)->cU.length=ns.length)(nd:ns.Nodup)(sN:ns.length<1000)(h:cM K x q st f fd)(S:eY N ps (aM st))(dY:ps.length=n+1)(fo:ps.length<=N.length)
  (hb:∀(C:SC) (av:gV) (A:AR) (outer:List AY) (s:ir) (H:Hp) (E:XK),aQ k (A.deeper (BG q (aM st) s.heap.objs.size f av))->bW (dB (bE P w) P w K mg base N q (aM st) f av A outer s H E) (bZ st) (ue K C Ca ns g)) :
  cA P w K mg base (bE P w) (k+1) f fd ps (spI K c Ca n (zT n N.length ns.length g)):=by
 refine h.tF S (fun vs H Q E ⟨a,dx,us,ds,fs,e,hl,_⟩=>by rw [e,A0,hl,dY]) fun av A outer s H vs Q E hr hq=>?_
 obtain⟨a,dx,us,ds,fs,rfl,hl,ha,cst,fa,hF,q⟩:=hq
 have hd:ds.length=n:=by rw [<- fa.len,hl]
 unfold zT at hF
 rw [if_pos hd] at hF
 obtain⟨y,ey,hF⟩:=bK hF
 have hy:y.1.length=ns.length/\y.1=fs:=by
  unfold aR at hF
  split at hF
  ·rename_i hh
   cases hF
   exact⟨beq_iff_eq.mp hh,rfl⟩
  ·cases hF
 obtain⟨hyl,rfl⟩:=hy
 obtain⟨yo,ρ'⟩:=y
 have bV:L2.start N (.ref a::us)=some (.ref a)::(us.map some++AI (N.length-n-1) none):=by
  unfold L2.start
  rw [A0,hl,A2,B1,show N.length-(n+1)=N.length-n-1 by omega]
 have no:∀(i:Nat) p d,(Sl.no::(ds.map Sl.val++AI (N.length-n-1) .no))[i]?≠some (.ow p d):=fun i p d e=>by
  rcases A6.mp (CY e) with m|m
  ·cases m
  ·rcases DF.mp m with m|m
   ·obtain⟨_,_,z⟩:=Cq.mp m;cases z
   ·have:=List.eq_of_mem_replicate m;cases this
 have ik:∀ σ b,¬ MA (Sl.no::(ds.map Sl.val++AI (N.length-n-1) .no)) σ b:=fun σ b ⟨i,⟨p,d,z⟩,_⟩=>no i p d z
 have r0:=(ziy cst fa).pad (N.length-n-1)
 refine⟨ue K ⟨H,L2.start N (.ref a::us),Sl.no::(ds.map Sl.val++AI (N.length-n-1) .no)⟩ Ca ns g,hb _ av A outer s H E hr,Sl.no::(ds.map Sl.val++AI (N.length-n-1) .no),a,dx,yo,ρ',?_,by rw [bV];rfl,ha,ik _ a,nd,sN,vJ,ey,fun σ' H' vs fv e kp=>?_⟩
 ·refine⟨?_,fun a o e _=>e,fun i a d e _=>absurd e (no i false d),fun i=>ER,fun i d e=>rfl,fun i p d e=>absurd e (no i p d)⟩
  rw [bV]
  refine⟨by simpa using r0.len,fun i x v e1 e2=>?_,fun i j b ⟨⟨p,d,z⟩,_⟩=>absurd z (no i p d),cst⟩
  cases i with
  | zero=>simp at e1;subst e1;trivial
  | succ i=>exact r0.ok i x v (by simpa using e1) (by simpa using e2)
 ·refine q H' (fun b o ne e=>kp b o ne e (ik _ b)) ⟨Ca,ns,dx,vs,ho,e,?_,fv⟩
  rw [fv.len]
  exact hyl
end
end
end FL
namespace L2
open PySem PySem.Spec
open PySem.Builtin.Str (strSub)
variable {X:Cx}
end L2
namespace FL
open PySem L2 PySem.Spec
open PyProof.Rows hiding St
section
variable [Cs]
end
section
variable [Cs]
end
end FL
namespace L2
open PySem PySem.Spec
variable {X:Cx}{e:Av}{te:TE}{pos:AD}
end L2
namespace FL
open PySem L2 PySem.Spec
open PyProof.Rows hiding St
variable [Cs]
end FL
namespace L2
open PySem PySem.Spec
variable {X:Cx}
end L2
namespace FL
open PySem L2 PySem.Spec
open PyProof.Rows hiding St
section
variable [Cs]
end
section
variable [Cs]
end
end FL
namespace L2
open PySem PySem.Spec PyProof.Rows
end L2
namespace FL
open PySem L2 PySem.Spec
open PyProof.Rows hiding St
end FL
namespace L2
open PySem PySem.Spec PyProof.Rows PySem.W
end L2
namespace FL
open PySem L2 PySem.Spec
open PyProof.Rows hiding St
end FL
namespace L2
open PySem PySem.Spec PyProof.Rows PySem.W
variable {u:gV}{pins:List (dm×AA)}{E:gV->ir->Prop}{k:WK}{X:Cx}{s:ir}{σ:L2.St}{A:AR}{v:V}{w:AJ}{prog:AK}{C Q:Bool->ir->Prop}{H:Hp}
section
def uL(H:Hp)(k:WK)(v:V):Prop:=∃ b j ws,v=.ref b/\k.2=[j]/\dU H b (.int k.1::.int j::ws)
noncomputable def jH(H:Hp):List WK->List V->Prop
 | [],vs=>vs=[]
 | k::ks,vs=>∃ v t,vs=v::t/\uL H k v/\jH H ks t
theorem jH.len{H:Hp}:∀{ks:List WK} {vs:List V},jH H ks vs->vs.length=ks.length
 | [],vs,h=>by have:vs=[]:=h;subst this;rfl
 | k::ks,vs,h=>by obtain⟨v,t,rfl,_,h2⟩:=h;simp [jH.len h2]
theorem jH.get{H:Hp}:∀{ks:List WK} {vs:List V} {i:Nat} {v:V},jH H ks vs->vs[i]?=some v->uL H (ks.getD i (0,[])) v
 | [],vs,i,v,h,e=>by have:vs=[]:=h;subst this;simp at e
 | k::ks,vs,i,v,h,e=>by
  obtain⟨u,t,rfl,h1,h2⟩:=h
  cases i with
  | zero=>simp at e;subst e;exact h1
  | succ i=>simpa using jH.get h2 (i:=i) (by simpa using e)
section
variable {b fin:Bool}
theorem zl8(p:gV)(h:Q true s):Ax (Ay prog w) A (eqBool p p) Q E s:=by
 unfold eqBool
 refine Cu ?_
 rw [if_pos (beq_self_eq_true p)]
 exact pd (Er (AH h))
theorem zgQ(h:Q fin s):∀(l:List gV) (i:Nat),KatLex prog w A b fin Q (l.zip l) i s
 | [],_=>kat_nil h
 | p::r,i=>kat_cons (zl8 p (kat_yes (zgQ h r (i+1))))
end
section
theorem zdc(I:Inv X pins σ H s)(h:uL H k v)(r:RelV v u) :
  ∃ b o n0 j,∃(tk tj:BJ) (rest:List gV),v=.ref b/\u=.ref b/\s.heap.get? b=some o/\o.cls=.type "tuple"/\o.data=.seq (.int k.1 tk::.int j tj::rest).toArray n0/\k.2=[j]:=by
 obtain⟨b,j,ws,rfl,hj,h1⟩:=h
 cases r
 obtain⟨its,rv,⟨o,ho,hc,n,hd⟩,_⟩:=I.tuple (.inl h1)
 cases rv with
 | cons r1 rv =>
  cases rv with
  | cons r2 rv =>
   obtain⟨tk,rfl⟩:=r1
   obtain⟨tj,rfl⟩:=r2
   exact⟨b,o,n,j,tk,tj,_,rfl,rfl,ho,hc,hd,hj⟩
theorem zqH(I:Inv X pins σ H s){k':WK}{v':V}{u':gV}(h:uL H k v)(h':uL H k' v')(r:RelV v u)(r':RelV v' u')(hu:k=k'->v=v')
  (q:C (gE k k') s):Ax (Ay X.prog X.w) X.A (keyLt' (tuples' true) u u') C E s:=by
 obtain⟨b,o,n0,j,tk,tj,rest,hv,rfl,ho,hc,hd,hj⟩:=zdc I h r
 obtain⟨b',o',n0',j',tk',tj',ztV,hv',rfl,fj,gP,iG,mH⟩:=zdc I h' r'
 refine kat_lt ho hd fj iG ?_
 unfold gE at q
 by_cases e1:k.1=k'.1
 ·rw [if_pos e1,hj,mH] at q
  by_cases e2:j=j'
  ·have ek:k=k':=by
    obtain⟨x,y⟩:=k
    obtain⟨x',y'⟩:=k'
    simp only at e1 hj mH
    rw [e1,hj,mH,e2]
   have ev:=hu ek
   rw [hv,hv'] at ev
   cases ev
   rw [ho] at fj
   cases fj
   rw [hd] at iG
   have el:(D1 k.1 tk::.int j tj::rest)=(.int k'.1 tk'::.int j' tj'::ztV):=by
    injection iG with h1 h2
    simpa using h1
   rw [<- el]
   rw [show HT.lexLt [j] [j']=false by rw [e2];simp [HT.lexLt]] at q
   refine zgQ ?_ _ _
   simpa using q
  ·rw [show HT.lexLt [j] [j']=decide (j<j') by simp [HT.lexLt,e2]] at q
   refine kat_cons (Gm ?_)
   rw [show(k.1==k'.1)=true from by simpa using e1]
   refine kat_yes (kat_cons (Gm ?_))
   rw [show(j==j')=false from by simpa using e2]
   exact kat_no (kat_one _ _ (lt_int q))
 ·rw [if_neg e1] at q
  refine kat_cons (Gm ?_)
  rw [show(k.1==k'.1)=false from by simpa using e1]
  exact kat_no (oneLt_int q)
end
end
variable {n0:Nat}{d:dm}{P:PySem.Fin->ir->Prop}{us:List gV}{α:Type}{kd:List WK}{xs:List V}
section
theorem zpO{l:List α}(h:l.Nodup){i j:Nat}(hi:i<l.length)(hj:j<l.length)(e:l[i]=l[j]):i=j:=by
 rcases Nat.lt_trichotomy i j with c|c|c
 ·exact absurd e (Ii.mp h i j hi hj c)
 ·exact c
 ·exact absurd e.symm (Ii.mp h j i hj hi c)
section
variable {a:dm}
theorem ziJ(I:Inv X pins σ H s)(ho:s.heap.get? a=some (Cd "list" us.toArray n0)) (hf:gw X pins H a) (rv:Vals xs us) (hl:us.length<64) (pk:jH H kd xs) (nd:kd.Nodup)
  (hQ:∀(p:Array Nat) (s':ir),Arr us.length p->Up (kr kd) p us.length->Inv X pins σ (upd H a (.lst (p.toList.map fun i=>xs.getD i .non))) s'->P (.done (.ret .none)) s') :
  Ax (Ay X.prog X.w) X.A (Ci.«list.sort» ⟨[.ref a],[]⟩) P E s:=by
 have sQ:=rv.length
 have hkl:=pk.len
 have s1:=DT s.heap a (BZ fun _=>(#[]:Array gV))
 obtain⟨e1,ho1⟩:∃ e1,(s.heap.update a (BZ fun _=>(#[]:Array gV))).get? a=some (Cd "list" #[] e1):=⟨_,G8 ho fun _=>#[]⟩
 rw [list_sort_plain]
 refine pd (listItems_at ho rfl ?_)
 refine pd (Gb ho rfl ?_ (by rw [Bk,BR];omega) (B2 _))
 refine pd (seqEpoch_at ho1 rfl ?_)
 refine pd (wpAny_newTuple ?_ (by show us.length<=_;rw [BR];omega))
 refine pd (Im ?_ (B2 _))
 refine Cu ?_
 have I1:Inv X pins σ H { s with heap:=s.heap.update a (BZ fun _=>(#[]:Array gV)) }:=I.turned (t':=s.toks) (fun b o hb e=>(s1.2 b hb).trans e) hf.1 hf.2.1 hf.2.2.2.1 hf.2.2.2.2.1 hf.2.2.2.2.2
 have k2:∀ b u,(s.heap.update a (BZ fun _=>(#[]:Array gV))).get? b=some u->(((s.heap.update a (BZ fun _=>(#[]:Array gV))).push (Cd "tuple" us.toArray 0)).push (Cd "list" #[] 0)).get? b=some u:=fun b u e=>A1 _ (A1 _ e)
 have I2:Inv X pins σ H { s with heap:=((s.heap.update a (BZ fun _=>(#[]:Array gV))).push (Cd "tuple" us.toArray 0)).push (Cd "list" #[] 0) }:=I1.kept (t':=s.toks) k2
 have fK:=k2 a _ ho1
 generalize (((s.heap.update a (BZ fun _=>(#[]:Array gV))).push (Cd "tuple" us.toArray 0)).push (Cd "list" #[] 0))=h2' at I2 fK ⊢
 have fin:∀ p:Array Nat,Arr us.length p->Up (kr kd) p us.length->P (.done (.ret .none)) { s with heap:=h2'.update a (BZ fun _=>Dh (p.toList.map fun i=>us.getD i Br)) }:=fun p ar up=>by
  have t2:=DT h2' a (BZ fun _=>Dh (p.toList.map fun i=>us.getD i Br))
  obtain⟨c2,ji⟩:∃ c2,(h2'.update a (BZ fun _=>Dh (p.toList.map fun i=>us.getD i Br))).get? a=some (Cd "list" (Dh (p.toList.map fun i=>us.getD i Br)) c2):=⟨_,G8 fK fun _=>Dh (p.toList.map fun i=>us.getD i Br)⟩
  have dY:p.size=us.length:=ar.sz
  refine hQ p _ ar up (I2.adopt (t':=s.toks) (fun b u hb e=>(t2.2 b hb).trans e) hf ?_)
  have mem:∀ i∈p.toList,i<us.length:=fun i hi=>by
   have:=(G7.mp ar.pm).mem_iff.mp hi
   simpa using this
  exact⟨by rw [Bc,EZ,dY,BR];omega,p.toList.map fun i=>us.getD i Br,c2,zjd p.toList rv mem,ji⟩
 have osz:∀ p:Array Nat,Arr us.length p->(Dh (p.toList.map fun i=>us.getD i Br)).size=us.length:=fun p ar=>by rw [Bk,Bc,EZ,ar.sz]
 dsimp only
 by_cases h2:us.toArray.size<2
 ·rw [if_pos h2,if_pos h2]
  rw [Bk] at h2
  refine pd (AH ?_)
  rw [StateT.run_pure]
  refine pd (AH ?_)
  dsimp only
  have up:Up (kr kd) (Dh (B4 us.length)) us.length:=fun i j eI hj=>by
   have:i=j:=by omega
   subst this
   exact(zhQ kd).refl _
  have har:(arrOf (SortSt.mk' general' (us.toArray.zip us.toArray) #[] 7 none)).map (·.2)=Dh ((Dh (B4 us.length)).toList.map fun i=>us.getD i Br):=by
   show((us.toArray.zip us.toArray).map (·.2))=_
   apply Array.toList_inj.mp
   rw [Array.toList_map,ksk_zip]
   simp only [JG]
   rw [List.map_snd_zip (by omega)]
   apply List.ext_getElem (by simp)
   intro i h3 h4
   simp [Di,Be h3]
  rw [har]
  refine pd (seqEpoch_at fK rfl ?_)
  refine pd (Gb fK rfl ?_ (B2 _) (By (FP (osz _ (zeF _))) (by rw [BR];omega)))
  simp only [bne_self_eq_false,Bm,if_false]
  exact AH (fin _ (zeF _) up)
 ·rw [if_neg h2,if_neg h2]
  rw [Bk] at h2
  have gr:∀{ks:List WK} {kv:List V} {ds:List gV},jH H ks kv->Vals kv ds->∃ fs:List gV,KatTups h2' ds fs/\fs.length=ds.length/\∀ v∈fs,∃ i t,v=D1 i t:=by
   intro ks
   induction ks with
   | nil=>intro kv ds h r;have:kv=[]:=h;subst this;cases r;exact⟨[],.nil,rfl,fun v hv=>by simp at hv⟩
   | cons k r0 ih =>
    intro kv ds h r
    obtain⟨v,t,rfl,h1,h2⟩:=h
    cases r with
    | cons r1 r2 =>
     obtain⟨fs,t1,t2,t3⟩:=ih h2 r2
     obtain⟨b,o,n0,j,tk,tj,rest,_,rfl,g1,g2,g3,_⟩:=zdc I2 h1 r1
     refine⟨.int k.1 tk::fs,.cons g1 g2 g3 rfl t1,by simp [t2],fun v hv=>?_⟩
     rcases A6.mp hv with rfl|hv
     ·exact⟨_,_,rfl⟩
     ·exact t3 v hv
  obtain⟨fs,kt,lfs,hfs⟩:=gr pk rv
  refine pd (kat_kind (T:=.type "int") kt (by omega) (fun v hv=>by obtain⟨i,t,rfl⟩:=hfs v hv;exact Looks.of_pure rfl) (by decide) ?_)
  rw [show((EY "int" != EY "tuple"):Bool)=true from by decide]
  refine pd (Bb (kat_run (E:=E) (vs:=us) (ks:=us) (κ:=tuples' true) (Q:=fun jy s2=>s2={ s with heap:=h2' }/\∃ p:Array Nat,Arr us.length p/\Up (kr kd) p us.length/\arrOf jy=p.map (kas_item (us.toArray.zip us.toArray))/\failedOf jy=none) rfl (by omega) hl
   (G:=fun p s2=>s2={ s with heap:=h2' }/\Arr us.length p/\Up (kr kd) p us.length) (fun p jy s2 a1 a2 a3 a4=>⟨a4.1,p,a4.2.1,a4.2.2,a2,a3⟩) ?_) ?_ fun _ _ z=>z)
  ·refine zus (P:=fun s2=>s2={ s with heap:=h2' }) (zhQ kd) (fun i j C s2 hi hj es hC=>?_) (by omega) rfl fun p s2 es ar up=>⟨es,ar,up⟩
   subst es
   have vE:∀ i,i<us.length->∃ v u,xs[i]?=some v/\RelV v u/\us.getD i Br=u:=fun i hi=>by
    have jj:i<xs.length:=by omega
    obtain⟨u,eu,ru⟩:=rv.get (Be jj)
    exact⟨_,u,Be jj,ru,by rw [Di,eu];rfl⟩
   obtain⟨v,u,g1,g2,g3⟩:=vE i hi
   obtain⟨v',u',g1',g2',g3'⟩:=vE j hj
   show Ax _ _ (keyLt' (tuples' true) (us.getD i Br) (us.getD j Br)) _ _ _
   rw [g3,g3']
   refine zqH I2 (pk.get g1) (pk.get g1') g2 g2' (fun ek=>?_) (hC _ rfl)
   have jj:i<kd.length:=by omega
   have mH:j<kd.length:=by omega
   rw [Di,Di,Be jj,Be mH] at ek
   have:i=j:=zpO nd jj mH ek
   subst this
   rw [g1] at g1'
   exact BC g1'
  ·rintro⟨⟨⟩,jy⟩ s2 ⟨es,p,ar,up,har,hfl⟩
   have nU:s2={ s with heap:=h2' }:=es
   subst nU
   dsimp only
   rw [kat_snds rfl har]
   refine pd (seqEpoch_at fK rfl ?_)
   refine pd (Gb fK rfl ?_ (B2 _) (By (FP (osz p ar)) (by rw [BR];omega)))
   rw [hfl]
   simp only [bne_self_eq_false,Bm,if_false]
   exact AH (fin p ar up)
end
end
variable {Q:VK}
section
section
theorem zkP(I:Inv X pins σ H s)(sq:bp X.K H d xs)(hn:xs.length<64)(pk:jH H kd xs)(nd:kd.Nodup)
  (hq:∀(p:Array Nat) (a:dm),Arr xs.length p->Up (kr kd) p xs.length->H a=none->Q (.ref a) (upd H a (.lst (p.toList.map fun i=>xs.getD i .non)))) :
  Ax (Ay X.prog X.w) X.A (call (.builtin "sorted") [.ref d]) (EP X pins σ Q) E s:=by
 obtain⟨us,rv,p,hz⟩:=I.list sq
 have sQ:=rv.length
 refine JI kind_sorted plain_sorted entry_sorted (args_sorted1 _) ?_
 unfold Ci.«sorted»
 refine pd (m:=checkCount "sorted" 1 1 _) (AH ?_)
 refine pd (collect_list p.isList ?_ (by rw [<- rv.length];exact hz))
 have keep:∀ b o,s.heap.get? b=some o->((s.heap.push (Cd "list" #[] 0)).update s.heap.objs.size (BZ (·++us.toArray))).get? b=some o:=fun b o e =>
  ((DT ..).2 b (Ba (AW e))).trans (A1 _ e)
 generalize (s.heap.push (Cd "list" #[] 0)).update s.heap.objs.size (BZ (·++us.toArray))=h1 at keep ⊢
 have I1:Inv X pins σ H { s with heap:=h1 }:=I.kept (t':=s.toks) keep
 refine pd (Im ?_ (by rw [BR];omega))
 have qD:(h1.push (Cd "list" us.toArray 0)).get? h1.objs.size=some (Cd "list" us.toArray 0):=Bv _ rfl
 have I2:Inv X pins σ H { s with heap:=h1.push (Cd "list" us.toArray 0) }:=I1.kept (s:={ s with heap:=h1 }) (t':=s.toks) fun b u e=>A1 _ e
 have fa:gw X pins H h1.objs.size:=I1.j8 (AO _) (I1.ax.fresh (AO _))
 refine pd (Cu (De slot_list_sort ⟨_,qD,rfl⟩ entry_list_sort ?body (args_list_sort _)))
 case body =>
  show Ax (Ay X.prog X.w) X.in1.in1.A (Ci.«list.sort» ⟨[.ref h1.objs.size],[]⟩) _ _ _
  refine ziJ (X:=X.in1.in1) I2.in1.in1 qD fa rv (by omega) pk nd fun p s' ar up I3=>⟨_,rfl,?_⟩
  exact AH ⟨_,rfl,.ref h1.objs.size,_,I3.tH.tH,rfl,hq p _ (by rw [sQ];exact ar) (by rw [sQ];exact up) fa.1⟩
theorem zkO(hc:X.calm=true)(I:Inv X pins σ H s)(rd:xi H d)(hn:∀ xs,uj H d xs->xs.length<64)
  (h:∀ xs,uj H d xs->∃ kd,jH H kd xs/\kd.Nodup/\∀(p:Array Nat) (a:dm),Arr xs.length p->Up (kr kd) p xs.length->H a=none->Q (.ref a) (upd H a (.lst (p.toList.map fun i=>xs.getD i .non)))) :
  Ax (Ay X.prog X.w) X.A (call (.builtin "sorted") [.ref d]) (EP X pins σ Q) E s:=by
 refine JI kind_sorted plain_sorted entry_sorted (args_sorted1 _) ?_
 unfold Ci.«sorted»
 refine pd (m:=checkCount "sorted" 1 1 _) (AH ?_)
 refine pd (zkX (show X.A.in1.handled=none from I.ok.hd hc) I rd (fun xs h=>Nat.lt_trans (hn xs h) (by decide)) fun xs us s1 dk rv I1=>?_)
 have hx:=hn xs dk
 have sQ:=rv.length
 obtain⟨kd,pk,nd,hq⟩:=h xs dk
 refine pd (Im ?_ (by rw [BR];omega))
 have qD:(s1.heap.push (Cd "list" us.toArray 0)).get? s1.heap.objs.size=some (Cd "list" us.toArray 0):=Bv _ rfl
 have I2:Inv X pins σ H { s1 with heap:=s1.heap.push (Cd "list" us.toArray 0) }:=I1.kept (t':=s1.toks) fun b u e=>A1 _ e
 have fa:gw X pins H s1.heap.objs.size:=I1.j8 (AO _) (I1.ax.fresh (AO _))
 refine pd (Cu (De slot_list_sort ⟨_,qD,rfl⟩ entry_list_sort ?body (args_list_sort _)))
 case body =>
  show Ax (Ay X.prog X.w) X.in1.in1.A (Ci.«list.sort» ⟨[.ref s1.heap.objs.size],[]⟩) _ _ _
  refine ziJ (X:=X.in1.in1) I2.in1.in1 qD fa rv (by omega) pk nd fun p s' ar up I3=>⟨_,rfl,?_⟩
  exact AH ⟨_,rfl,.ref s1.heap.objs.size,_,I3.tH.tH,rfl,hq p _ (by rw [sQ];exact ar) (by rw [sQ];exact up) fa.1⟩
end
end
end L2
namespace FL
open PySem L2 PySem.Spec
open PyProof.Rows hiding St
variable {H:Hp}{X:Cx}
section
noncomputable def qU:D->Option WK
 | .tuple (.int i::.int j::_)=>some (i,[j])
 | _=>none
noncomputable def lh:List D->Option (List WK)
 | []=>some []
 | d::r=>(qU d).bind fun k=>(lh r).map (k::·)
noncomputable def zcF:D->R (List D)
 | .list l=>.ok l
 | .dict aj=>.ok (aj.map (·.1))
 | _=>.bad
noncomputable def jU(d:D):R D:=(zcF d).bind fun ks=>aR (leB (ks.length+1) 64) ((R.of (lh ks)).bind fun ws=>aR (decide ws.Nodup) (.ok (.list ((oy (ws.zip ks)).map (·.2)))))
section
variable [Cs]{K:kb}
theorem zh5:∀{ks:List D} {ws:List WK},lh ks=some ws->ws.length=ks.length
 | [],ws,h=>by cases h;rfl
 | d::r,ws,h=>by
  unfold lh at h
  cases e:qU d with
  | none=>rw [e] at h;cases h
  | some k =>
   rw [e] at h
   cases e2:lh r with
   | none=>rw [e2] at h;cases h
   | some t=>rw [e2] at h;cases h;simp [zh5 e2]
theorem zdh:∀{ks:List D} {ws:List WK} {xs:List V},lh ks=some ws->ag K H ks xs->jH H ws xs
 | [],ws,xs,h,f=>by cases h;simp only [ag] at f;exact f
 | d::r,ws,xs,h,f=>by
  unfold lh at h
  cases e:qU d with
  | none=>rw [e] at h;cases h
  | some k =>
   rw [e] at h
   cases e2:lh r with
   | none=>rw [e2] at h;cases h
   | some t =>
    rw [e2] at h
    cases h
    simp only [ag] at f
    obtain⟨v,xr,rfl,fv,fr⟩:=f
    refine⟨v,xr,rfl,?_,zdh e2 fr⟩
    unfold qU at e
    split at e
    ·cases e
     simp only [Fz,ag] at fv
     obtain⟨b,vs,rfl,tb,v1,r1,rfl,rfl,v2,r2,rfl,rfl,_⟩:=fv
     exact⟨b,_,r2,rfl,rfl,tb⟩
    ·cases e
theorem zaQ(hc:X.calm=true):iu X (.builtin "sorted") (wA X.K (one jU)):=by
 intro pins s σ H xs us Q I r h
 obtain⟨ds,d,fa,e,q⟩:=h
 match ds,fa,e with
 | [x],fa,e =>
  simp only [ag] at fa
  obtain⟨v,_,rfl,fv,rfl⟩:=fa
  obtain⟨u,rfl,ru⟩:=vals1 r
  obtain⟨ks,ek,e⟩:=bK (show(zcF x).bind _=.ok d from e)
  obtain⟨cl,e⟩:=gM e
  obtain⟨ws,ew,e⟩:=bK e
  obtain⟨cn,e⟩:=gM e
  cases e
  have ew':=zc7 ew
  have hlen:=mP cl
  have nd:ws.Nodup:=of_decide_eq_true cn
  have wl:=zh5 ew'
  have fin:∀(ys:List V),ag X.K H ks ys->∀(p:Array Nat) (a:dm),Arr ys.length p->Up (kr ws) p ys.length->H a=none->∃ b vs,V.ref a=.ref b/\H b=none/\upd H a (.lst (p.toList.map fun i=>ys.getD i .non))=upd H b (.lst vs)/\ag X.K H ((oy (ws.zip ks)).map (·.2)) vs:=fun ys fy p a ar up ha=>by
   have yl:=fy.len
   refine⟨a,_,rfl,ha,rfl,?_⟩
   rw [<- zur wl nd (by rw [<- yl];exact ar) (by rw [<- yl];exact up)]
   refine fy.pick p.toList fun i hi=>?_
   have:=(G7.mp ar.pm).mem_iff.mp hi
   rw [<- yl]
   simpa using this
  have go:Ax (Ay X.prog X.w) X.A (call (.builtin "sorted") [u]) (EP X pins σ fun v H1=>∃ b vs,v=.ref b/\H b=none/\H1=upd H b (.lst vs)/\ag X.K H ((oy (ws.zip ks)).map (·.2)) vs) X.xe s:=by
   cases x with
   | list l =>
    cases ek
    simp only [Fz] at fv
    obtain⟨a,ys,rfl,sx,fy⟩:=fv
    cases ru
    exact zkP I sx.sq (by rw [fy.len];omega) (zdh ew' fy) nd (fin ys fy)
   | dict aj =>
    cases ek
    have fv':=fv
    simp only [Fz] at fv'
    obtain⟨a,o,rfl,_⟩:=fv'
    cases ru
    exact zkO hc I (zmx fv) (fun ys dk=>by rw [(za4 fv dk).len];exact hlen) fun ys dk=>⟨ws,zdh ew' (za4 fv dk),nd,fin ys (za4 fv dk)⟩
   | _=>cases ek
  refine aE go fun w s' z=>?_
  obtain⟨v,H1,I1,rv,b,vs,rfl,hb,rfl,fz⟩:=z
  exact vb fz q ⟨_,_,I1,rv,b,rfl,hb,rfl⟩
 | [],_,e=>exact nomatch (show(R.bad:R D)=.ok d from e)
 | _::_::_,_,e=>exact nomatch (show(R.bad:R D)=.ok d from e)
end
end
section
end
end FL
namespace FL
open PySem L2 PySem.Spec PySem.W
variable {r:Option gV}{c t:gV}{f n name:ib}{C ns:dm}{p:ClassData->Bool}{cs:List dm}
section
section
variable {K:kb}
theorem zc3(s:cH cs K)(e:nsIn K ns name=some r):nsIn (aD cs K) ns name=some r:=by
 unfold nsIn at e ⊢
 split at e
 ·rename_i c d es n sl ho
  rw [iB s ho fun _ _ z=>nomatch z]
  exact e
 ·cases e
theorem zqG(s:cH cs K)(e:ownIn K name c=some r):ownIn (aD cs K) name c=some r:=by
 cases c with
 | ref a =>
  unfold ownIn at e ⊢
  simp only at e ⊢
  split at e
  ·rename_i x y cd sl ho
   rw [iB s ho fun _ _ z=>nomatch z]
   exact zc3 s e
  ·cases e
 | _=>exact e
theorem zeB(s:cH cs K){name:ib}:∀{l:List gV} {r:Option gV},alongIn K name l=some r->alongIn (aD cs K) name l=some r
 | [],r,e=>e
 | c::l,r,e=>by
  unfold alongIn at e ⊢
  cases h:ownIn K name c with
  | none=>rw [h] at e;cases e
  | some o =>
   rw [h] at e
   rw [zqG s h]
   cases o with
   | some v=>exact e
   | none=>exact zeB s e
theorem j7(s:cH cs K)(e:findIn K t name=some r):findIn (aD cs K) t name=some r:=by
 cases t with
 | ref a =>
  unfold findIn at e ⊢
  simp only at e ⊢
  split at e
  ·rename_i x y cd sl ho
   rw [iB s ho fun _ _ z=>nomatch z]
   exact zeB s e
  ·cases e
 | _=>exact e
theorem zrs(s:cH cs K)(e:plainGet K C n=true):plainGet (aD cs K) C n=true:=by
 unfold plainGet at e ⊢
 rw [Bs] at e ⊢
 exact⟨by rw [j7 s (eq_of_beq e.1)];decide,by rw [j7 s (eq_of_beq e.2)];rfl⟩
theorem yh(s:cH cs K)(e:(clsIn K C).any p=true):(clsIn (aD cs K) C).any p=true:=by
 unfold clsIn at e ⊢
 split at e
 ·rename_i x y cd sl ho
  rw [iB s ho fun _ _ z=>nomatch z]
  exact e
 ·cases e
theorem gv.cut(s:cH cs K)(h:gv K C):gv (aD cs K) C:=⟨zrs s h.pg,yh s h.hd,yh s h.po,j7 s h.sa⟩
theorem eZ.cut(s:cH cs K)(h:eZ K C f):eZ (aD cs K) C f:=j7 s h
end
end
variable {a f:dm}{o:AA}{fd:A9}{od:Option dm}{sl:Array (Option gV)}{b oc:gV}{m:ib}
section
section
variable {K:kb}
theorem z9(s:cH cs K)(l:K.lookup a=some o)(n:∀ its m,o.data≠.seq its m)(e:typeIn K (.ref a)=some t):typeIn (aD cs K) (.ref a)=some t:=by
 unfold typeIn at e ⊢
 simp only at e ⊢
 rw [iB s l n]
 rw [l] at e
 exact e
theorem ziK(s:cH cs K)(l:K.lookup a=some o)(n:∀ its m,o.data≠.seq its m)(e:specialIn K (.ref a) name=some r):specialIn (aD cs K) (.ref a) name=some r:=by
 obtain⟨t,e1,e2⟩:=CK.mp e
 exact CK.mpr ⟨t,z9 s l n e1,j7 s e2⟩
theorem uc(s:cH cs K){r:Bool}(e:subIn K t b=some r):subIn (aD cs K) t b=some r:=by
 cases t with
 | ref D =>
  unfold subIn mroIn at e ⊢
  simp only at e ⊢
  obtain⟨cd,e1,e2⟩:=CK.mp e
  refine CK.mpr ⟨cd,?_,e2⟩
  unfold clsIn at e1 ⊢
  split at e1
  ·rename_i x y cd' sl ho
   rw [iB s ho fun _ _ z=>nomatch z]
   exact e1
  ·cases e1
 | _=>exact e
theorem zno(s:cH cs K)(l:K.lookup a=some o)(n:∀ its m,o.data≠.seq its m){r:Bool}(e:instIn K (.ref a) b=some r):instIn (aD cs K) (.ref a) b=some r:=by
 obtain⟨t,e1,e2⟩:=CK.mp e
 exact CK.mpr ⟨t,z9 s l n e1,uc s e2⟩
theorem zcC(s:cH cs K)(l:K.lookup f=some o)(n:∀ its m,o.data≠.seq its m)(e:isFn K (.ref f)=true):isFn (aD cs K) (.ref f)=true:=by
 unfold isFn at e ⊢
 rw [z9 s l n (eq_of_beq e)]
 decide
theorem zgS(s:cH cs K)(e:keepIn K (.ref f)=true):keepIn (aD cs K) (.ref f)=true:=by
 unfold keepIn at e ⊢
 simp only at e ⊢
 split at e
 ·rename_i ho
  rw [iB s ho fun _ _ z=>nomatch z]
 ·rename_i ho
  rw [iB s ho fun _ _ z=>nomatch z]
  simp only
  rw [ziK s ho (fun _ _ z=>nomatch z) (eq_of_beq e)]
  decide
 ·cases e
theorem Meth.cut(s:cH cs K)(l:K.lookup f=some ⟨oc,od,.func fd,sl⟩)(h:Meth K C m f):Meth (aD cs K) C m f :=
 ⟨j7 s h.at_,zcC s l (fun _ _ z=>nomatch z) h.fn,zgS s h.kp⟩
theorem zpC(s:cH cs K)(e:makesIn K C=true):makesIn (aD cs K) C=true:=by
 unfold makesIn at e ⊢
 split at e
 ·rename_i x y cd sl ho
  rw [iB s ho fun _ _ z=>nomatch z]
  simp only [Bs] at e ⊢
  obtain⟨⟨e1,e2⟩,e3⟩:=e
  refine⟨⟨e1,?_⟩,?_⟩
  ·rw [ziK s ho (fun _ _ z=>nomatch z) (eq_of_beq e2)];decide
  ·rw [zno s ho (fun _ _ z=>nomatch z) (eq_of_beq e3)];decide
 ·cases e
theorem Mk.cut(s:cH cs K)(l:K.lookup f=some ⟨oc,od,.func fd,sl⟩)(h:Mk K C f):Mk (aD cs K) C f :=
 ⟨zpC s h.makes,j7 s h.init,zcC s l (fun _ _ z=>nomatch z) h.fn,zgS s h.kp⟩
end
end
end FL
namespace FL
open PySem L2 PySem.Spec
open PyProof.Rows hiding St
section
def zjp(ρ0 ρ1:En)(d:D)(it j:Nat)(dead dom:List Nat):Prop :=
 (∀(i:Nat) x,ρ1[i]?=some x->i=it\/i=j\/i∈dead\/x=.no\/(∃ c,x=.val c/\ρ0[i]?=some (.val c)/\i∉dom)\/∃(p:Bool) (ns:List Int),x=.ow p (.list (ns.map Bi))) /\
 (∀(i:Nat) p c,i=it\/i=j\/i∈dead->ρ1[i]?≠some (.ow p c))/\j<ρ1.length/\(∀ i∈dead,i<ρ1.length) /\
 ∃ rows:List (List (List Int)),d=.list (rows.map fun r=>.list (r.map fun q=>.tuple (q.map Bi)))
noncomputable def kill(ks:List Nat)(ρ:En):En:=ρ.mapIdx fun i x=>if i∈ks then .no else x
noncomputable def zbB(ρ:En)(d:D)(it j:Nat)(dead:List Nat):En:=(kill (it::dead) ρ).set j (.val d)
open Classical in
noncomputable def zvL(f:EF)(it j:Nat)(dead dom:List Nat)(t:SF)(ρ0:En):SF:=fun ρ=>(f ρ).bind fun y=>if zjp ρ0 y.2 y.1 it j dead dom then t (zbB y.2 y.1 it j dead) else .bad
def LL(d:D):Prop:=∃ rows:List (List D),d=.list (rows.map C3)
open Classical in
noncomputable def zvO(it:Nat)(f:EF)(g:En->SF):SF:=fun ρ=>(f ρ).bind fun y=>if LL y.1 then(gN it y.1 y.2).bind fun ρ1=>g ρ ρ1 else .bad
variable [Cs]
end
variable {f:EF}{p pos:AD}{X:Cx}{e:Av}{x:ib}
section
variable [Cs]
section
variable {K:kb}
theorem zsy(hm:X.mg x=none)(hv:Bo x=some (.type "list")) (ha:PV K X e f) (hg:Gl X x:=by rfl) (hn:x ≠ "__name__":=by decide) (bz:(x==("__debug__":ib))=false:=by decide)
  (he:Aw [e] X.env=(false,AB e X.env)::Aw [] X.env:=by exact FL.se rfl) (aX:(A7 pos (Aw [] X.env)).any (·.1)=false:=by exact FL.sp rfl):bg K X (.Call (.Name x p) [e] [] pos) (e1 fZ f):=.mk fun hK=>by
 subst hK
 refine(zdd zaS hg hm hv (gm (ha rfl) jq he) hn bz he aX).weak fun σ H Q=>?_
 rintro⟨ρ,rel,q⟩
 refine eG rel q fun dx ρ1 v H1 ah aG fx q1=>?_
 obtain⟨d,ed,q2⟩:=q1.bQ
 have key:∃ a ys l,v=.ref a/\(bp X.K H1 a ys\/dN X.K H1 a ys)/\ag X.K H1 l ys/\d=.list l:=by
  cases dx with
  | list l =>
   obtain⟨a,ys,e1,e2,e3⟩:=fx.tp.lst
   cases ed
   exact⟨a,ys,l,e1,.inl e2,e3,rfl⟩
  | tuple l =>
   obtain⟨a,ys,e1,e2,e3⟩:=fx.tp.tup
   cases ed
   exact⟨a,ys,l,e1,.inr e2,e3,rfl⟩
  | _=>exact nomatch (show(R.bad:R D)=.ok d from ed)
 obtain⟨a,ys,l,rfl,hs,fa,rfl⟩:=key
 exact⟨a,ys,rfl,hs,fun b hb=>q2.new ah (aC.upd hb) b (aG.none ah hb) ⟨ys,bS,fa.mono (aA.of (aC.upd hb))⟩⟩
end
end
variable {pa:AD}{base:Az}{i k n:Nat}{n' self:ib}{nr ns ps:List ib}{fa g:AF}{dom:List Nat}{P:AK}{c:String}{ks:List (Option String)}{b:SF}{G:List D->R D}{w:AJ}{fd:A9}{es:List Av}{C:dm}{mg:ib->Option gV}
section
structure Ob[Cs](K:kb)(c:String)(C:dm)(ns:List ib):Prop where
 o:Cs.O c=some (C,ns)
 c:gv K C
 na:∀ f∈ns,eZ K C f
 nd:ns.Nodup
def Maker[Cs](P:AK)(w:AJ)(K:kb)(mg:ib->Option gV)(base:Az)(x:ib)(c:String)(k:Nat)(ps:List ib)(n:Nat)(G:List D->R D):Prop :=
 ∃(C f:dm) (fd:A9),mg x=some (.ref C)/\Mk K C f/\Binds K fd ps []/\cA P w K mg base (bE P w) k f fd ps (spI K c C n G)
section
variable [Cs]{K:kb}{f:ib}{px pos':AD}{j:Nat}
theorem zE(i j:Nat)(B:Ob K c C ns)(hj:ns[j]?=some f:=by rfl)(hv:PE X (.Name x px) (bL i):=by exact pv _)(hb:Dq (.Name x px) f X.env (AB (.Name x px) X.env)=AB (.Name x px) X.env:=by rfl):PV K X (.Attribute (.Name x px) f pos) (iQ i c j) :=
 zse B.o hj B.nd B.c (B.na f (CY hj)) hv hb
theorem zhT(i:Nat)(hr:ja K X ks es fa)(hv:PE X (.Name x px) (bL i):=by exact pv _)(hs:Aw (.Name x px::es) X.env=(false,AB (.Name x px) X.env)::Aw es X.env:=by exact FL.se rfl):ja K X (some c::ks) (.Name x px::es) (fE i c fa):=zqK hv hr hs
theorem zsC(m:Maker X.prog X.w X.K X.mg X.base x c k ps n G)(hr:aQ j X.A)(ha:du K X (e::es) fa)(hl:lJ fa n:=by repeat (first|exact xF|refine xE ?_))(hg:Gl X x:=by rfl)(hj:k+1<=j:=by decide)(bz:(x==("__debug__":ib))=false:=by decide)
  (he:Aw (e::es) X.env=(false,AB e X.env)::Aw es X.env:=by exact FL.se rfl) (aX:(A7 pos (Aw es X.env)).any (·.1)=false:=by exact FL.sp rfl):xq K X c (.Call (.Name x p) (e::es) [] pos) (sC G fa):=by
 obtain⟨C,f,fd,hm,M,hb,F⟩:=m
 exact zsB M F (hr.mono hj) hg hm hb qT ha hl bz he aX
theorem zsH{f:EF}(i:Nat)(hN:X.N.Nodup)(he:xq K X c e f)(hi:X.N[i]?=some x:=by rfl)(hx:Loc X.env.scope x:=by first|exact Dg rfl|exact CZ rfl)(hs:Bx e (some (.Name x pos')) pos.line X.env=pure false:=by rfl)(hf:X.fn x=true\/X.env.scope.names.lookup x=some .local:=by first|exact .inl rfl|exact .inr rfl|assumption) :
  cN K X (.Assign [.Name x pos'] e pos) (t7 i c f):=zsG hN hi hx he hs hf
theorem zrU{st:AQ}:uK K X dom st e8:=fun _ C=>zic.weak fun Dn σ H=>by
 rintro⟨ρ,rel,g⟩
 exact g.elim
theorem zh2{f:EF}{rest:List AQ}(B:Ob K c C ns)(hK:X.K=K)(hn:n'∈ns)(he:PV K X e f)(hr:bW X rest (ud K C i nr fa))(hv:PE X (.Name self px) (bL i):=by exact pv _)(hs:Bx e (some (.Attribute (.Name self px) n' pa)) pos.line X.env=pure false:=by rfl) :
  bW X (.Assign [.Attribute (.Name self px) n' pa] e pos::rest) (ud K C i (n'::nr) (aa f fa)):=zra hK B.c (B.na n' hn) hv he hr hs
end
abbrev CTI[Cs](x:ib)(c:String)(k:Nat)(ps:List ib)(n:Nat)(G:List D->R D)(P:AK)(w:AJ)(K:kb)(mg:ib->Option gV)(base:Az):Prop:=Maker P w K mg base x c k ps n G
section
variable [Cs]{K:kb}{q:ib}{st:AQ}{f:dm}
theorem fnI(N:List ib)(B:Ob K c C ns)(vJ:∀ c' cU,Cs.O c'=some (C,cU)->cU.length=ns.length)(hm:mg x=some (.ref C))(M:Mk K C f)(F:cM K "__init__" q st f fd)
  (hb:∀{av:gV} {A:AR} {outer:List AY} {s:ir} {H:Hp} {E:XK} (Cc:SC),aQ k (A.deeper (BG q (aM st) s.heap.objs.size f av))->N.Nodup->bW (dB (bE P w) P w K mg base N q (aM st) f av A outer s H E).cF (bZ st) (ue K Cc C ns g))
  (S:eY N ps (aM st):=by exact⟨rfl,rfl,rfl,by decide +kernel,rfl,by decide +kernel,by decide +kernel⟩) (dY:ps.length=n+1:=by rfl) (fo:ps.length<=N.length:=by decide) (sN:ns.length<1000:=by decide)
  (fY:∀(kV doc pm:gV) (an:Option dm) (av ct:gV) (us:List gV),us.length=ps.length->CU (BX "__init__" q (fU st) (bZ st) (aM st) .none kV doc pm an av ct) ⟨us,[]⟩=pure (ps.zip us):=by
   first
    | exact fun _ _ _ _ _ _ us hl=>match us,hl with | [_],_=>rfl
    | exact fun _ _ _ _ _ _ us hl=>match us,hl with | [_,_],_=>rfl
    | exact fun _ _ _ _ _ _ us hl=>match us,hl with | [_,_,_],_=>rfl
    | exact fun _ _ _ _ _ _ us hl=>match us,hl with | [_,_,_,_],_=>rfl
    | exact fun _ _ _ _ _ _ us hl=>match us,hl with | [_,_,_,_,_],_=>rfl):Maker P w K mg base x c (k+1) ps n (zT n N.length ns.length g) :=
 ⟨C,f,fd,hm,M,F.binds fY,zmr B.o vJ B.nd sN F S dY fo fun Cc av A outer s H E hr=>bW.cF (hb Cc hr S.nd)⟩
end
end
section
end
end FL
namespace L2
open PySem PySem.Spec PyProof.Rows
variable {M:DH}{args:List Av}{env:AY}{sj:List gV}{E:gV->ir->Prop}{d:Drawn}{t:Nat}{col:Option Bool}{oI:AA}{s:ir}{ab hdct:Bool}{A:AR}{w:AJ}{dd:Option dm}{prog:AK}{sn:List ib}{g:Array GenState}{mN:ib->Option gV}{Q:Flow->ir->Prop}{fI:dm}{h:Az}{x:Sem gV}
section
variable {nm q:ib}{C N:dm}{bs bm iz:List gV}{sub:List gV}{k0 k1 k2 k3 k5:Option gV}{B Bn newId nid zcz sR:String}
theorem ztJ(kj:bm.contains (.type "BaseException")=true) (hh:A.handled=none)
  (h:Ax M A x (fun v s₁=>∃ e o,v=.ref e/\s₁.heap.get? C=some (FA nm q C N bs bm hdct sn sub ab col dd k0 k1 k2 k3 k5 newId)/\s₁.heap.get? e=some o/\o.cls=.ref C/\(∃ vs,o.data=.fields vs/\vs[1]?=some .none)/\E (.ref e) s₁) E s) :
  Ax M A (raiseStmt env (some x) none) Q E s:=by
 have hcB:(A8 C::bm).contains (.type "BaseException")=true:=by rw [List.contains_cons,kj,Bool.or_true]
 unfold raiseStmt
 refine pd (Bb h (fun v s₁ h₁=>?_) fun _ _ x=>x)
 obtain⟨e,o,rfl,hC,he,hc,⟨vs,hd,hv⟩,hE⟩:=h₁
 obtain⟨c0,d0,dat,sl⟩:=o
 simp only at hc hd
 subst hc hd
 obtain⟨hp,g,d,tk,os⟩:=s₁
 repeat (first|with_reducible refine Gg he ?_|with_reducible refine Gg hC ?_|(with_reducible refine wpAny_isSubtype_exc hC ?_;rw [hcB])|wp_step)
 rw [hv]
 refine AH ?_
 rw [if_neg (by decide)]
 exact AH (wpAny_raiseNew_none hh hE)
section
variable {os:OsState}
theorem zu8(Fn:EW Bn newId sR sj)(nW:iz.contains (.type Bn)=true)(F:EW B nid zcz iz)(T:OwnTail h iz bm){rest:List gV}{Q:PySem.Fin->ir->Prop}
  (hC:h.get? C=some (FA nm q C N bs bm hdct sn sub ab col dd k0 k1 k2 k3 k5 newId))(hn:h.Ns N mN)(hi:mN "__init__"=some (.ref fI)) (vB:h.get? fI=some oI) (vC:oI.cls=.type "function")
  (hq:∀ h' e,Io h h' e (.ref C) rest->Ax (Ay prog w) A (call (.ref fI) (.ref e::rest)) (fun r s'=>r=.none/\Q (.done (.ret (.ref e))) s') E ⟨h',g,d,t,os⟩) (hrest:rest.length<=AU:=by size_fits) :
  Ax (Ay prog w) A (Ci.«type.__call__» ⟨.ref C::rest,[]⟩) Q E ⟨h,g,d,t,os⟩:=by
 repeat (first|with_reducible refine Gg hC ?_|with_reducible refine wpAny_madeBy_exc hC ?_|wp_step)
 refine codeAny_call_builtin_code (Code.quiet_builtin _ Fn.quiet) (wpAny_check_new_subU Fn nW T hC ?_)
 refine codeAny_exc_new_subU Fn nW F T hC ?_ hrest
 show Ax _ _ _ _ _ _
 have hC₁:=A1 { cls:=.ref C,data:=.fields #[.ref h.objs.size,.none,.none,.none,.bool false,.none] }
  (A1 { cls:=.type "tuple",data:=.seq rest.toArray } hC)
 have zm2:=A1 { cls:=.ref C,data:=.fields #[.ref h.objs.size,.none,.none,.none,.bool false,.none] }
  (A1 { cls:=.type "tuple",data:=.seq rest.toArray } vB)
 have hn₁:((h.push { cls:=.type "tuple",data:=.seq rest.toArray }).push { cls:=.ref C,data:=.fields #[.ref h.objs.size,.none,.none,.none,.bool false,.none] }).Ns N mN :=
  let⟨o,es,ep,e,r⟩:=hn;⟨o,es,ep,A1 _ (A1 _ e),r⟩
 have vE:((h.push { cls:=.type "tuple",data:=.seq rest.toArray }).push
   { cls:=.ref C,data:=.fields #[.ref h.objs.size,.none,.none,.none,.bool false,.none] }).get? (h.objs.size+1)=some
   { cls:=.ref C,data:=.fields #[.ref h.objs.size,.none,.none,.none,.bool false,.none] }:=by heap_get
 have hcC:(A8 C::bm).contains (.ref C)=true:=by simp
 have T₁:=T.keeps (h':=(h.push { cls:=.type "tuple",data:=.seq rest.toArray }).push { cls:=.ref C,data:=.fields #[.ref h.objs.size,.none,.none,.none,.bool false,.none] })
  fun b o e=>A1 _ (A1 _ e)
 unfold GL
 repeat (first|with_reducible refine Gg vE ?_|(with_reducible refine wpAny_isSubtype_exc hC₁ ?_;rw [hcC])|wp_step)
 show Ax _ _ (typeLookup (.ref C) _) _ _ _
 refine wpAny_typeLookup_tail hC₁ hn₁ T₁ F.mroIs F.init.lookup ?_
 rw [hi]
 refine Cu (pd ?_)
 unfold bindSpecial
 refine pd (Fm (T:="function") ⟨_,zm2,vC⟩ ?_)
 rw [if_pos (by decide)]
 refine AH (pd (Bb (hq _ (h.objs.size+1) ⟨fun b o hb=>A1 _ (A1 _ hb),C7 (Nat.le_succ _),h.objs.size,vE,C7 (AO _),?_⟩) (fun r s' hr=>?_) fun _ _ x=>x))
 ·exact A1 _ (Heap.get?_push_at rfl rfl)
 ·obtain⟨rfl,hQ⟩:=hr
  wp_walk
  exact hQ
theorem zkM(Fn:EW Bn newId sR sj)(nW:iz.contains (.type Bn)=true)(F:EW B nid zcz iz)(T:OwnTail h iz bm){rest:List gV}{Q:gV->ir->Prop}
  (hC:h.get? C=some (FA nm q C N bs bm hdct sn sub ab col dd k0 k1 k2 k3 k5 newId))(hn:h.Ns N mN)(hi:mN "__init__"=some (.ref fI)) (vB:h.get? fI=some oI) (vC:oI.cls=.type "function")
  (hq:∀ h' e,Io h h' e (.ref C) rest->Ax (Ay prog w) (A.under (.builtin "type.__call__" ⟨.ref C::rest,[]⟩)) (call (.ref fI) (.ref e::rest)) (fun r s'=>r=.none/\Q (.ref e) s') E ⟨h',g,d,t,os⟩) (hrest:rest.length<=AU:=by size_fits) :
  Ax (Ay prog w) A (call (.ref C) rest) Q E ⟨h,g,d,t,os⟩:=by
 have f1:=tc_lookup
 have f2:=tc_bind (.ref C)
 have hT:(⟨h,g,d,t,os⟩:ir).TypeIs (.ref C) "type":=⟨_,hC,rfl⟩
 refine FQ (codeAny_of_tree ?_)
 show Ax _ _ (callAny (.ref C) _) _ _ _
 repeat (any_goals (first|assumption|with_reducible refine Gg hC ?_|wp_step))
 refine⟨rfl,?_⟩
 refine codeAny_call_builtin_at (Code.quiet_builtin _ (by decide +kernel)) entry_typeCall (wpAny_check_type_call_sub hC (zu8 (hrest:=hrest) Fn nW F T hC hn hi vB vC fun h' e hm=>?_))
 exact hq h' e hm
end
theorem ztI(Fn:EW Bn newId sR sj)(nW:iz.contains (.type Bn)=true)(F:EW B nid zcz iz){x:ib}{np cv pos:AD}
  (kj:bm.contains (.type "BaseException")=true) (hh:A.handled=none) (vH:(A7 cv (Aw args env)).any (·.1)=false) (hi:mN "__init__"=some (.ref fI)) (vC:oI.cls=.type "function")
  (h:Ax (Ay prog w) A (AB (.Name x np) env) (fun f s₁=>f=.ref C/\Ax (Ay prog w) A (evalArgs (.ref C) true (A7 cv (Aw args env)) [])
   (fun a s₂=>a.kw=[]/\a.pos.length<=AU/\s₂.heap.get? C=some (FA nm q C N bs bm hdct sn sub ab col dd k0 k1 k2 k3 k5 newId)/\s₂.heap.Ns N mN/\OwnTail s₂.heap iz bm/\s₂.heap.get? fI=some oI /\
    ∀ h' e,Io s₂.heap h' e (.ref C) a.pos->Ax (Ay prog w) (A.under (.builtin "type.__call__" ⟨.ref C::a.pos,[]⟩)) (call (.ref fI) (.ref e::a.pos)) (fun r s'=>r=.none/\s'.heap.get? C=some (FA nm q C N bs bm hdct sn sub ab col dd k0 k1 k2 k3 k5 newId)/\(∃ o,s'.heap.get? e=some o/\o.cls=.ref C/\∃ vs,o.data=.fields vs/\vs[1]?=some .none)/\E (.ref e) s') E { s₂ with heap:=h' }) E s₁) E s) :
  Ax (Ay prog w) A (exec (.Raise (some (.Call (.Name x np) args [] cv)) none pos) env) Q E s:=by
 rw [arm_exec_Raise]
 refine pd (D5 (ztJ (C:=C) (nm:=nm) (q:=q) (N:=N) (bs:=bs) (bm:=bm) (hdct:=hdct) (sn:=sn) (sub:=sub) (ab:=ab) (col:=col) (dd:=dd) (k0:=k0) (k1:=k1) (k2:=k2) (k3:=k3) (k5:=k5) (newId:=newId) kj hh (pd (Bb (wpAny_Call_ofName (Bb h (fun f s₁ h₁=>?_) fun _ _ x=>x)) (fun v s₃ h₃=>pd (D5 (AH h₃))) fun _ _ x=>x))))
 obtain⟨rfl,h₁⟩:=h₁
 unfold FR
 refine pd (Cu (Bb h₁ (fun a s₂ h₂=>pd (D5 ?_)) fun _ _ x=>x))
 obtain⟨apos,akw⟩:=a
 obtain⟨hkw,hlen,hC,hn,T,vB,h₂⟩:=h₂
 obtain rfl:akw=[]:=hkw
 obtain⟨hp,g,d,tk,os⟩:=s₂
 simp only [vH]
 refine pd (wpAny_keeperOf_exc hC ?_)
 refine pd (zkM (hrest:=hlen) Fn nW F T hC hn hi vB vC fun h' e hm=>Bb (h₂ h' e hm) (fun r s' z=>⟨z.1,pd (Cu (wpAny_point (AH ?_)))⟩) fun _ _ z=>z)
 obtain⟨_,z1,⟨o,z2,z3,z4⟩,z5⟩:=z
 exact⟨e,o,rfl,z1,z2,z3,z4,z5⟩
end
end L2
namespace L2
open PySem PySem.Spec PyProof.Rows
open Builtin Builtin.ObjectAttr
noncomputable def tJ:List gV->Bool
 | [.type a,.type b,.type c,.type d]=>a == "ValueError" && b == "Exception" && c == "BaseException" && d == "object"
 | .ref _::r=>tJ r
 | _=>false
theorem zix(self:gV):∀{l:List gV},tJ l=true->refuseLoop self "__setattr__" l=pure ()
 | [.type a,.type b,.type c,.type d],e=>by
  unfold tJ at e
  simp only [Bs,beq_iff_eq] at e
  obtain⟨⟨⟨rfl,rfl⟩,rfl⟩,rfl⟩:=e
  exact PySem.F.store_ValueError.passes self
 | .ref c::r,e=>by rw [refuseLoop_ref];exact zix self (by unfold tJ at e;exact e)
structure jX(K:kb)(C:dm):Prop extends i7 K C where
 hd:E9 K C=true
 po:((B9 K C).any fun cd=>tJ cd.mro)=true
 sa:Bz K (.ref C) "__setattr__"=some (some (.builtin "object.__setattr__"))
variable {A:AR}{v:gV}{tk:BJ}{w:AJ}{E:gV->ir->Prop}{Q:Unit->ir->Prop}{vs:Array gV}{od:Option AA}{s:ir}{expr:Bool}{name:ib}{ox:AA}{prog:AK}
section
variable {K:kb}{x C:dm}
theorem zqF{R:Result->ir->Prop}(X:K.In s.heap)(I:Dp s.heap x ox C od)(c:jX K C)(ht:Bz K (.ref C) name=some none)
  (h:Ax (Ay prog w) A.in1 (storeInOwnDict (.ref x) (.ref C) (.str name tk) name v false) (fun fin s'=>match fin with | .done f=>R (.ok f) s' | .again c'=>c'.quiet=true/\Dc (Ay prog w) A c' R s') (fun e s'=>R (.error e) s') s) :
  Dc (Ay prog w) A (.call (.builtin "object.__setattr__") ⟨[.ref x,.str name tk,v],[]⟩) R s:=by
 have SF:=PySem.F.store_object
 obtain⟨cd,hc,ho⟩:=Hu c.po
 have sub:DR (Ay prog w) s.heap (GL (.ref x) (.type "object")) true:=I.type.andThen (PySem.W.looks_mroIn X c.ob)
 refine HP SF.slot.plain SF.entry (@PySem.W.check_slot (Ay prog w) _ _ s "object.__setattr__" "object" "__setattr__" (.ref x) [.str name tk,v] [] _ SF.kind SF.split sub (SF.args (.ref x) (.str name tk) v) ?_)
 have hm:DR (Ay prog w) s.heap (mroOf (.ref C)) cd.mro:=(Hv X hc).andThen .now
 rw [PySem.W.osa_eq,refuse_eq]
 refine pd (pd (I.type.here (pd (hm.here ?_))))
 rw [zix _ ho]
 exact AH (pd (I.type.here (pd ((Eu X ht).here (pd (AH h))))))
theorem zuc(X:K.In s.heap)(c:jX K C)(ht:Bz K (.ref C) name=some none)(hx:s.heap.get? x=some ox)(hc:ox.cls=.ref C)(hd:ox.dict=none)(hv:ox.data=.fields vs)
  (h:∀ h',h'.Ns1 s.heap.objs.size (fun y=>if y=name then some v else none)->h'.get? x=some { ox with dict:=some s.heap.objs.size }->(∀ b o,b≠x->s.heap.get? b=some o->h'.get? b=some o)->Q () { s with heap:=h',toks:=s.toks+2 }) :
  Ax (Ay prog w) A (setAttr (.ref x) name v) Q E s:=by
 have I:Dp s.heap x ox C none:=⟨hx,hc,by unfold GQ;rw [hv],by rw [hd];trivial⟩
 refine IM X I c.sa (zqF (s:={ s with toks:=s.toks+1 }) X I c ht ?_)
 obtain⟨cd,fi,iG⟩:=Hu c.hd
 obtain⟨oc,odi,oda,il⟩:=ox
 dsimp only at hc hd hv
 subst hc hd hv
 refine pd (AH (pd (pd (FO hx (pd (IP (s:={ s with toks:=s.toks+1 }) (Hv X fi) ?_))))))
 rw [iG]
 have hx₁:(s.heap.push { cls:=.type "dict",data:=.dict #[] }).get? x=some { cls:=.ref C,dict:=none,data:=.fields vs,slots:=il }:=A1 _ hx
 have yS:x≠s.heap.objs.size:=Ba (AW hx)
 refine pd (wpAny_alloc' ?_)
 refine pd (wpAny_update' hx₁ ?_)
 refine AH ?_
 have hgd:((s.heap.push { cls:=.type "dict",data:=.dict #[] }).update x fun o=>{ cls:=o.cls,dict:=some s.heap.objs.size,data:=o.data,slots:=o.slots }).get? s.heap.objs.size=some { cls:=.type "dict",data:=.dict #[] } :=
  (JK _ _ _ _ yS.symm).trans (Heap.get?_push_at rfl rfl)
 have hnd:((s.heap.push { cls:=.type "dict",data:=.dict #[] }).update x fun o=>{ cls:=o.cls,dict:=some s.heap.objs.size,data:=o.data,slots:=o.slots }).Ns s.heap.objs.size (fun _=>none) :=
  ⟨_,#[],_,hgd,rfl,fun e he=>absurd he (by simp),fun _=>rfl⟩
 show Ax _ _ (storeInDict s.heap.objs.size (.str name _) name v) _ _ _
 unfold storeInDict newKeyGuard
 refine pd (AH (pd (wpAny_nsSet1 (IQ hnd) fun h' sM hs=>?_)))
 obtain⟨oD,esD,epD,hoD,hdD,hcD⟩:=sM.count (Within.cons name v Within.nil)
 refine pd (wpAny_lookBehind hoD (by rw [hdD];exact pastItsLine_dict (By hcD (by rw [A0,Bg,BR];omega))) ?_)
 refine AH (h h' sM ?_ fun b ob hbx hb=>?_)
 ·exact(hs.2 x yS).trans (Fo _ hx₁ rfl)
 ·exact(hs.2 b (Ba (AW hb))).trans ((JK _ _ _ _ hbx).trans (A1 _ hb))
theorem zmN{od:AA}{Q:gV->ir->Prop}(X:K.In s.heap)(c:jX K C)(I:Dp s.heap x ox C (some od))(ht:Bz K (.ref C) name=some none)(hl:FK name od=some (some v))(hv:Hn v=true)
  (h:Q v { s with toks:=s.toks+1 }):Ax (Ay prog w) A (Fb (.ref x) name expr) Q E s:=by
 obtain⟨hh,g,d,t,os⟩:=s
 have L0:=I.type (M:=Ay prog w)
 have L1:=Eu (M:=Ay prog w) X c.ga
 have L2:=Eu (M:=Ay prog w) X c.gn
 have L3:=PySem.W.looks_find (M:=Ay prog w) X I (IL c.hd ht rfl hl)
 have f3:=GP.ga.bind (.ref x)
 have hx2:(FZ "BaseException.__getattribute__" == FZ "object.__getattribute__")=false:=by decide +kernel
 unfold Fb getAttrBy
 repeat (any_goals (first|assumption|with_reducible refine L0.at ?_|with_reducible refine L1.at ?_|with_reducible refine L2.at ?_|wp_step))
 rw [if_neg (by rw [show onTheHeap (FZ "BaseException.__getattribute__")=false from rfl,Bool.and_false];exact BU)]
 repeat (any_goals (first|assumption|wp_step))
 refine HP GP.ga.plain F.entry_bexc_ga (zjk X c.toi7 I ?_)
 unfold Ci.«object.__getattribute__»
 repeat (any_goals (first|assumption|with_reducible refine L0.at ?_|with_reducible refine L3.at ?_|wp_step))
 exact Jh hv h
end
end L2
namespace L2
open PySem PySem.Spec PyProof.Rows
variable {u:gV}{f:ib}{pins:List (dm×AA)}{o:AA}{v y:V}{E:gV->ir->Prop}{C a dx e:dm}{P:AK}{pos:AD}{X:Cx}{s:ir}{b:Bool}{σ:St}{A:AR}{w:AJ}{vs:Array gV}{dd:Option dm}{Q:Unit->ir->Prop}{φ:Az->Prop}{h:Az}{H:Hp}
section
noncomputable def iP(e C:dm)(dd:Option dm)(vs:Array gV):HO:=.ext fun h=>∃ o,h.get? e=some o/\o.cls=.ref C/\o.dict=dd/\o.data=.fields vs
theorem zga(he:h.get? e=some o)(hc:o.cls=.ref C)(hd:o.dict=dd)(hv:o.data=.fields vs):cE P w H h e (iP e C dd vs) :=
 ⟨⟨o,he,hc,hd,hv⟩,⟨o,he⟩,fun h1 h2 ⟨o,g,r⟩ k=>⟨o,k o g,r⟩⟩
section
theorem Inv.zvc(I:Inv X pins σ (upd H a (.ext φ)) s)(n:H a=none):Inv X pins σ H s:=by
 have g:∀ b u,upd H a (.ext φ) b=some u->(∀ ψ,u≠.ext ψ)->H b=some u:=fun b u e z=>by
  by_cases q:b=a
  ·rw [q,bS] at e;cases e;exact absurd rfl (z φ)
  ·rw [aJ q] at e;exact e
 have f0:∀ b,upd H a (.ext φ) b=none->H b=none:=fun b e=>by
  by_cases q:b=a
  ·rw [q];exact n
  ·rw [aJ q] at e;exact e
 refine⟨I.ok,I.os,I.bare,⟨I.base.keep,I.base.slot,fun b o e hn hx=>f0 _ (I.base.free b o e hn hx),I.base.there,fun b xs e=>g _ _ (I.base.gr b xs e) (fun _ z=>by cases z),fun b o u e=>g _ _ (I.base.gC b o u e) (fun _ z=>by cases z),fun b ps e=>?_⟩,I.loc,I.cell,f0 _ I.free,fun x c e=>f0 _ (I.fX x c e),fun p hp=>?_,fun b u e=>?_,I.len⟩
 ·obtain⟨more,z⟩:=I.base.gZ b ps e
  exact⟨more,g _ _ z (fun _ z=>by cases z)⟩
 ·obtain⟨g1,g2,g3,g4,g5⟩:=I.pin p hp
  exact⟨g1,f0 _ g2,g3,g4,g5⟩
 ·have nb:b≠a:=fun z=>by rw [z,n] at e;cases e
  refine(I.ax b u (by rw [aJ nb];exact e)).iN (fun _ _ _ q=>q) (fun c q=>g _ _ q (fun _ z=>by cases z)) fun c xs q=>?_
  rcases q with q|⟨o,q⟩
  ·exact .inl (g _ _ q (fun _ z=>by cases z))
  ·exact .inr ⟨o,g _ _ q (fun _ z=>by cases z)⟩
theorem zue(I:Inv X pins σ H s)(he:H e=some (iP e C none vs))(c:jX X.K C)(n:eZ X.K C f)(ry:RelV y u)
  (h:∀ dx s',H dx=none->dx≠e->Inv X pins σ (upd (upd H dx (.xd [(f,y)])) e (iP e C (some dx) vs)) s'->Q () s'):Ax (Ay X.prog X.w) A (setAttr (.ref e) f u) Q E s:=by
 obtain⟨⟨o,ho,hc,hd,hv⟩,_⟩:=(show cE X.prog X.w H s.heap e (iP e C none vs) from I.ax e _ he)
 refine zuc I.dG c n ho hc hd hv fun h' hn hx k=>?_
 have nd:H s.heap.objs.size=none:=I.ax.fresh (AO _)
 have ne:s.heap.objs.size≠e:=fun z=>by rw [z,he] at nd;cases nd
 have e1:∀ b u,H b=some u->(∀ ψ,u≠.ext ψ)->b≠e/\b≠s.heap.objs.size:=fun b u q z=>⟨fun y=>(by rw [y,he] at q;cases q;exact absurd rfl (z _)),fun y=>(by rw [y,nd] at q;cases q)⟩
 have e2:∀ b u,H b=some u->(∀ ψ,u≠.ext ψ)->upd (upd H s.heap.objs.size (.xd [(f,y)])) e (iP e C (some s.heap.objs.size) vs) b=some u:=fun b u q z=>by rw [aJ (e1 b u q z).1,aJ (e1 b u q z).2];exact q
 have kk:∀ b o,s.heap.get? b=some o->H b=none->h'.get? b=some o:=fun b o q z=>k b o (fun y=>by rw [y,he] at z;cases z) q
 refine h _ _ nd ne (I.un (H':=upd (upd H s.heap.objs.size (.xd [(f,y)])) e (iP e C (some s.heap.objs.size) vs)) ⟨fun b o q z _ _=>kk b o q z,fun b o q z _ _=>⟨o.slots,kk b o q z⟩,fun b o q z _=>?_,fun b o q _=>?_,fun b xs q=>e2 _ _ q (fun _ z=>by cases z),fun b o u q=>e2 _ _ q (fun _ z=>by cases z),fun b ps q=>⟨#[],by rw [Array.append_empty];exact e2 _ _ q (fun _ z=>by cases z)⟩⟩ fun b u q=>?_)
 ·rw [aJ (fun y=>by rw [y,he] at z;cases z),aJ (Ba (AW q))]
  exact z
 ·by_cases hb:b=e
  ·exact⟨_,by rw [hb];exact hx⟩
  ·exact⟨o,k b o hb q⟩
 ·by_cases hb:b=e
  ·rw [hb,bS] at q
   cases q
   rw [hb]
   exact zga hx hc rfl hv
  ·rw [aJ hb] at q
   by_cases nZ:b=s.heap.objs.size
   ·rw [nZ,bS] at q
    cases q
    rw [nZ]
    refine⟨_,hn,fun g=>?_⟩
    by_cases hg:g=f
    ·rw [if_pos hg,hg]
     show gK (DK f [(f,y)]) (some u)
     rw [List.lookup_cons_self]
     exact ry
    ·rw [if_neg hg]
     show gK (DK g [(f,y)]) none
     rw [A5,show(g==f)=false from beq_eq_false_iff_ne.mpr hg]
     trivial
   ·rw [aJ nZ] at q
    refine(I.ax b u q).iN (fun c v gD z=>k c v ?_ z) (fun c z=>e2 _ _ z (fun _ z=>by cases z)) fun c xs z=>?_
    ·rcases gD with z1|z1
     ·rw [z1];exact hb
     ·exact(e1 _ _ z1 (fun _ z=>by cases z)).1
    ·rcases z with z|⟨o,z⟩
     ·exact .inl (e2 _ _ z (fun _ z=>by cases z))
     ·exact .inr ⟨o,e2 _ _ z (fun _ z=>by cases z)⟩
theorem zmP{fs:List (ib×V)}{Q:gV->ir->Prop}(I:Inv X pins σ H s)(he:H e=some (jC e C (some dx)))(hx:H dx=some (.xd fs))(c:jX X.K C)(n:eZ X.K C f)(l:fs.lookup f=some v)
  (h:∀ u s',Inv X pins σ H s'->RelV v u->Q u s'):Ax (Ay X.prog X.w) A (Fb (.ref e) f b) Q E s:=by
 obtain⟨⟨o,vs,ho,hc,hd,hv⟩,_⟩:=(show cE X.prog X.w H s.heap e (jC e C (some dx)) from I.ax e _ he)
 obtain⟨mA,hn,r⟩:=(show cE X.prog X.w H s.heap dx (.xd fs) from I.ax dx _ hx)
 obtain⟨od,mJ,hl⟩:=zhb hn
 obtain⟨u,hu,ru⟩:=gK.some_of (v:=v) (o:=mA f) (by rw [<- l];exact r f)
 exact zmN (od:=od) I.dG c ⟨ho,hc,by unfold GQ;rw [hv],by rw [hd];exact mJ⟩ n (by rw [hl,hu]) (zgu ru) (h u _ (I.tok _) ru)
end
section
variable {o value:Av}{ta tv:TE}{pos':AD}
noncomputable def zt1(K:kb)(ta tv:TE)(f:ib):TS:=fun D σ H=>tv σ H fun y H1=>ta σ H1 fun x H2=>∃ a C vs,x=.ref a/\H2 a=some (iP a C none vs)/\jX K C/\eZ K C f /\
 ∀ dx,H2 dx=none->dx≠a->D.nx σ (upd (upd H2 dx (.xd [(f,y)])) a (iP a C (some dx) vs))
theorem zrD(ha:PE X o ta)(hv:PE X value tv)(hs:Bx value (some (.Attribute o f pos')) pos.line X.env=pure false):PS X (.Assign [.Attribute o f pos'] value pos) (zt1 X.K ta tv f):=by
 intro pins s σ H D I h
 refine IU (aE (hv pins s σ H _ I h) fun u s1 ⟨y,H1,I1,ry,q⟩=>aE (ha pins s1 σ H1 _ I1 q) fun ov s2 ⟨x,H2,I2,rx,a,C,vs,ex,ea,c,n,q2⟩=>?_) hs
 subst ex
 obtain rfl:ov=A8 a:=rx
 exact zue I2 ea c n ry fun dx s3 z1 z2 I3=>⟨σ,_,I3,q2 dx z1 z2⟩
noncomputable def zuA(K:kb)(ta:TE)(f:ib):TE:=fun σ H Q=>ta σ H fun x H1=>∃ a C dx fs v,x=.ref a/\H1 a=some (jC a C (some dx))/\H1 dx=some (.xd fs)/\jX K C/\eZ K C f/\fs.lookup f=some v/\Q v H1
theorem zqX(ha:PE X o ta)(hb:Dq o f X.env (AB o X.env)=AB o X.env:=by rfl):PE X (.Attribute o f pos) (zuA X.K ta f):=by
 intro pins s σ H Q I h
 refine zeH hb (aE (ha pins s σ H _ I h) fun ov s1 ⟨x,H1,I1,rx,a,C,dx,fs,v,ex,ea,ed,c,n,l,q⟩=>?_)
 subst ex
 obtain rfl:ov=A8 a:=rx
 exact zmP I1 ea ed c n l fun u s2 I2 ru=>⟨v,H1,I2,ru,q⟩
end
end
variable {ta:TA}{n:ib}{E:XK}{k:Nat}{iz:List gV}{N fI:dm}{ps:List ib}{e:Av}{v:gV}{fd:A9}{es:List Av}{newId:String}{mg:ib->Option gV}
section
noncomputable def gO(K:kb)(C fI:dm)(iz:List gV)(newId:String):Bool:=match K.lookup C with
 | some ⟨.type "type",_,.cls cd,sl⟩=>(match cd.mro,sl.toList with
  | .ref C'::bm,[_,_,_,_,some (.builtin n),_]=>C'==C&&n==newId&&!cd.hasDel&&FC K iz bm&&FD K cd.ns&&AZ K cd.ns "__init__" == some (some (.ref fI))
  | _,_=>false)
 | _=>false
section
variable {K:kb}
theorem zp2(X:K.In h)(G:h.Ns N mg)(e:AZ K N n=some (some v)):mg n=some v:=by
 obtain⟨o,es,ep,ho,hd,_,hf⟩:=G
 unfold AZ at e
 split at e
 ·rename_i c d nU n' sl q
  have:=X _ _ q
  rw [ho] at this
  cases this
  cases hd
  split at e
  ·rename_i he
   rw [<- hf]
   unfold nsFind findBy
   rw [<- IK,he]
   cases e
   rfl
  ·split at e <;> cases e
 ·cases e
theorem zmg(X:K.In h)(q:gO K C fI iz newId=true):∃ bm N nm q bs hdct sn sub ab col dd k0 k1 k2 k3 k5 mN,h.get? C=some (FA nm q C N bs bm hdct sn sub ab col dd k0 k1 k2 k3 k5 newId)/\h.Ns N mN/\mN "__init__"=some (.ref fI)/\OwnTail h iz bm:=by
 unfold gO at q
 split at q
 ·rename_i dd cd sl ho
  split at q
  ·rename_i C' bm k0 k1 k2 k3 n k5 hm hs
   simp only [Bs,beq_iff_eq,HR] at q
   obtain⟨⟨⟨⟨⟨a1,a2⟩,a3⟩,a4⟩,a5⟩,a6⟩:=q
   subst a1 a2
   obtain⟨nm,bs,mro,ns,qn,hd,sn,sub,ab,col,del⟩:=cd
   subst hm a3
   obtain⟨l⟩:=sl
   have yO:l=[k0,k1,k2,k3,some (.builtin n),k5]:=hs
   subst yO
   have G:h.Ns ns (h.nsMap ns):=.of_isNs (PySem.W.isNs_of_in X a5)
   exact⟨bm,ns,nm,qn,bs,hd,sn,sub,ab,col,dd,k0,k1,k2,k3,k5,_,X _ _ ho,G,zp2 X G a6,PySem.W.tail_of_in X a4⟩
  ·cases q
 ·cases q
end
noncomputable def zX(C:dm)(f:ib):Sp:=fun vs H Q _=>∃ e v ws,vs=[.ref e,v]/\H e=some (iP e C none ws)/\∀ dx,H dx=none->dx≠e->Q .non (upd (upd H dx (.xd [(f,v)])) e (iP e C (some dx) ws))
section
variable {x:ib}{np cv:AD}
noncomputable def zuN(C:dm)(f:ib)(E:XK)(ta:TA):TS:=fun _ σ H=>ta σ H fun vs H1=>∃ v,vs=[v]/\∀ dx,H1 dx=none->E (.ref C) (some dx) (upd H1 dx (.xd [(f,v)]))
theorem zrG(hc:X.calm=true)(ec:gO X.K C fI gB "ValueError.__new__"=true\/gO X.K C fI gB "Exception.__new__"=true) (hf:DI X.K (.ref fI)=true) {lo:AA} (lk:X.K.lookup fI=some lo)
  (F:cA X.prog X.w X.K X.mg X.base lK k fI fd ps (zX C f)) (hr:aQ (k+1) X.A) (hb:Binds X.K fd ps []) (hg:Gl X x) (hm:X.mg x=some (.ref C)) (th:Throws X E) (ha:PA X (e::es) ta)
  (hx:X.ex=[]:=by rfl) (hd:(x==("__debug__":ib))=false:=by decide) (he:Aw (e::es) X.env=(false,AB e X.env)::Aw es X.env:=by rfl) (aX:(A7 cv (Aw es X.env)).any (·.1)=false:=by rfl) :
  PS X (.Raise (some (.Call (.Name x np) (e::es) [] cv)) none pos) (zuN C f E ta):=by
 intro pins s σ H D I h
 have KX:X.K.In X.base:=I.ok.mod.qK
 have hlo:lo.cls=.type "function":=by
  have:=beq_iff_eq.mp hf
  unfold Fd at this
  simp only [lk] at this
  exact BC this
 have go:∀{newId Bn sR:String} {sj:List gV},gO X.K C fI gB newId=true->EW Bn newId sR sj->gB.contains (.type Bn)=true ->
   Ax (Ay X.prog X.w) X.A (exec (.Raise (some (.Call (.Name x np) (e::es) [] cv)) none pos) X.env) (SP X pins D) X.xe s:=by
  intro newId Bn sR sj q Fn nW
  obtain⟨tl,N,nm,qn,bs,hdct,sn,sub,ab,col,dd,k0,k1,k2,k3,k5,mN,hC,hN,hni,T⟩:=zmg KX q
  refine ztI (C:=C) (nm:=nm) (q:=qn) (N:=N) (bs:=bs) (bm:=tl) (hdct:=hdct) (sn:=sn) (sub:=sub) (ab:=ab) (col:=col) (dd:=dd) (k0:=k0) (k1:=k1) (k2:=k2) (k3:=k3) (k5:=k5)
   Fn nW Ip (mN:=mN) (fI:=fI) (oI:=lo) (T.hasType Ip.hasBase) (I.ok.hd hc) (by rw [he];show(false||(A7 cv (Aw es X.env)).any (·.1))=false;rw [aX];rfl) hni hlo (vR I hg hm ⟨rfl,?_⟩ hd)
  have hw:=ha cv pins s σ H _ I h
  rw [he] at hw ⊢
  refine Jc (aE hw fun us s1 ⟨vs,H1,I1,r,v,ql,q1⟩=>⟨rfl,?_,I1.bk _ _ hC,hN.keeps I1.bk,T.keeps I1.bk,I1.dG _ _ lk,fun h' ea mk=>?_⟩)
  ·show us.length<=AU
   rw [<- r.length,ql,BR]
   show 1<=_
   omega
  ·subst ql
   obtain⟨t,ht,_,_⟩:=mk.there
   have I2:Inv X pins σ H1 { s1 with heap:=h',toks:=s1.toks }:=I1.kept (t':=s1.toks) mk.keeps
   have ne:H1 ea=none:=I1.ax.free mk.new
   have I3:=I2.zi2 (o:=iP ea C none _) ne (I1.nw hx mk.new) (zga ht rfl rfl rfl)
   have hq:zX C f [.ref ea,v] (upd H1 ea (iP ea C none #[.ref t,.none,.none,.none,.bool false,.none])) (fun u H2=>u=.non/\∃ dx,H1 dx=none/\dx≠ea/\H2=upd (upd H1 dx (.xd [(f,v)])) ea (iP ea C (some dx) #[.ref t,.none,.none,.none,.bool false,.none])) E :=
    ⟨ea,v,_,rfl,bS,fun dx z1 z2=>⟨rfl,dx,by rw [aJ z2] at z1;exact z1,z2,by
     funext b
     unfold upd
     by_cases hb:b=ea
     ·simp only [hb,if_true]
     ·simp only [hb,if_false]⟩⟩
   have r2:Vals [V.ref ea,v] (A8 ea::(us++[])):=.cons rfl (by rw [CV];exact r)
   have hl:(A8 ea::us++[]).length=ps.length:=by
    have e9:=r2.length
    rw [F.len _ _ _ _ hq] at e9
    exact e9.symm
   have nZ:=hb _ (A8 ea::us) I3.dG hl
   rw [B1] at nZ
   refine FQ (Ff (F.run _ X.stack _ _ ⟨A8 ea::us,[]⟩ (A8 ea::(us++[])) _ _ E (hr.make C us []) (I3.yr.make C us []) nZ r2 hq) fun r s' km=>?_)
   cases r with
   | error e=>exact BQ km
   | ok fl =>
    cases fl with
    | ret u =>
     obtain⟨v',H',I4,rv,ev,dx,z1,z2,z3⟩:=I3.after km
     subst ev z3
     have n2:upd H1 dx (.xd [(f,v)]) ea=none:=by rw [aJ (BK z2)];exact ne
     obtain⟨⟨o,ho,oc,od,ov⟩,_⟩:=(show cE X.prog X.w _ s'.heap ea (iP ea C (some dx) _) from I4.ax ea _ bS)
     refine⟨rv,I4.bk _ _ hC,⟨o,ho,oc,_,ov,rfl⟩,?_⟩
     exact th pins σ _ s' ea (.ref C) (some dx) (I4.zvc n2) ⟨o,_,ho,oc,od,ov,rfl⟩ n2 (by have u:=I1.base;rw [hx] at u;exact u.old mk.new) (q1 dx z1)
    | next=>exact BQ km
    | brk=>exact BQ km
    | cont=>exact BQ km
 rcases ec with q|q
 ·exact go q Ip (by decide)
 ·exact go q PySem.F.excBase_Exception (by decide)
end
end
variable {t:TA}
section
theorem PA.cF(h:PA X.cF es t):PA X es t:=fun pos pins s σ H Q I hw =>
 Bb (h pos pins s σ H Q (I.i5 _) hw) (fun _ _ ⟨v,H',I',r,q⟩=>⟨v,H',I'.jW,r,q⟩) fun _ _ z=>BQ z
end
end L2
namespace FL
open PySem L2 PySem.Spec
open PyProof.Rows hiding St
variable {E:XK}{tc:TF}{k:Fl×En->R (Fl×En)}{dom:List Nat}{c e:Av}{r:R (Fl×En)}{pos:AD}{X:Cx}{b:SF}{it:IF}{α β:Type}{H H1:Hp}{g:GF}{C:SC}{body:List AQ}
section
noncomputable def lC{α:Type}:R α->R α
 | .ok a=>.ok a
 | _=>.bad
theorem ztD{r:R α}{a:α}(h:r=.ok a):lC r=.ok a:=by rw [h];rfl
noncomputable def ua(f:SF):SF:=fun ρ=>lC (f ρ)
noncomputable def uf(f:TF):TF:=fun ρ=>lC (f ρ)
noncomputable def jI(f:AF):AF:=fun ρ=>lC (f ρ)
noncomputable def vO(f:IF):IF:=fun ρ=>lC (f ρ)
noncomputable def qw(g:GF):GF:=fun d ρ=>lC (g d ρ)
noncomputable def wH(c:String)(b:Bool)(fa:AF):SF:=fun ρ=>(jI fa ρ).bind fun x=>match b,x.1 with
 | true,[d]=>.err c [d]
 | false,[_]=>.err c []
 | _,_=>.bad
section
variable [Cs]{K:kb}
def Kc(C:SC)(H':Hp):Prop:=∀ a o,C.H₀ a=some o->¬ MA C.ρ₀ C.σ₀ a->H' a=some o
def Wn(K:kb)(E:XK)(c:String)(fs:List D)(H':Hp):Prop:=∀ C dd,uk K H' c fs C dd->E (.ref C) dd H'
def jE(K:kb)(C:SC)(E:XK)(H:Hp)(r:R (Fl×En))(Dn:Ends):Prop:=match r with
 | .err c fs=>∀ H',Kc C H'->Wn K E c fs H'
 | .ok x=>dE K C H (.ok x) Dn
 | .bad=>False
noncomputable def tSE(K:kb)(C:SC)(E:XK)(f:SF):TS:=fun Dn σ H=>∃ ρ,bF K C ρ σ H/\jE K C E H (f ρ) Dn
structure pZ(K:kb)(X:Cx)(E:XK)(st:AQ)(f:SF):Prop where
 run:X.K=K->∀ C,PS X st (tSE K C E f)
structure jG(K:kb)(X:Cx)(E:XK)(st:List AQ)(f:SF):Prop where
 run:X.K=K->∀ C,bW X st (tSE K C E f)
section
variable {Dn:Ends}
theorem jE.step(f:aA H H1)(g:jE K C E H r Dn):jE K C E H1 r Dn:=by
 cases r with
 | ok x=>exact dE.step (r:=.ok x) f (show dE K C H (.ok x) Dn from g)
 | err c fs=>exact g
 | bad=>exact g
theorem jE.pl{r:R β}{k:β->R (Fl×En)}(g:jE K C E H ((lC r).bind k) Dn):∃ x,r=.ok x/\jE K C E H (k x) Dn:=by
 cases r with
 | ok x=>exact⟨x,rfl,g⟩
 | _=>exact g.elim
theorem jE.bd{r:R (Fl×En)}(g:jE K C E H (r.bind k) Dn):(∃ x,r=.ok x/\jE K C E H (k x) Dn)\/∃ c fs,r=.err c fs/\∀ H',Kc C H'->Wn K E c fs H':=by
 cases r with
 | ok x=>exact .inl ⟨x,rfl,g⟩
 | err c fs=>exact .inr ⟨c,fs,rfl,g⟩
 | bad=>exact g.elim
end
variable {st:AQ}{rest:List AQ}{s t:SF}
theorem zrS{st:List AQ}(h:eO K X.cF st s):jG K X E st (ua s):=.mk fun hK C=>(bW.cF (h hK C)).weak fun Dn σ H=>by
 rintro⟨ρ,rel,g⟩
 refine⟨ρ,rel,?_⟩
 unfold ua at g
 cases e:s ρ with
 | ok x=>rw [e] at g;exact g
 | _=>rw [e] at g;exact g.elim
theorem zrQ(h1:pZ K X E st s)(h2:jG K X E rest t):jG K X E (st::rest) (aw s t):=.mk fun hK C=>(tR (h1.run hK C) (h2.run hK C)).weak fun Dn σ H=>by
 rintro⟨ρ,rel,g⟩
 refine⟨ρ,rel,?_⟩
 rcases g.bd with⟨x,ex,g1⟩|⟨c,fs,ex,g1⟩
 ·rw [ex]
  obtain⟨fl,ρ1⟩:=x
  cases fl with
  | nx=>exact fun σ' H' r z=>⟨ρ1,r,g1.step z⟩
  | bk=>exact g1
  | ct=>exact g1
  | rt d=>exact g1
  | rf d=>exact g1
 ·rw [ex]
  exact g1
theorem zdk(h1:pZ K X E st s):jG K X E [st] s:=.mk fun hK C=>tU (h1.run hK C)
theorem zrO{a b:List AQ}(hc:fc K X.cF c tc)(ha:jG K X E a s)(hb:jG K X E b t):pZ K X E (.If c a b pos) (aN (uf tc) s t):=.mk fun hK C=>(zdj (hc hK).cF (ha.run hK C) (hb.run hK C)).weak fun Dn σ H=>by
 rintro⟨ρ,rel,g⟩
 obtain⟨x,ex,g1⟩:=g.pl
 refine⟨ρ,rel.rel,?_⟩
 rw [ex]
 intro H' r sx
 have g2:=g1.step (sx.cJ rel.rel)
 obtain⟨cb,ρ1⟩:=x
 cases cb with
 | true=>exact kX ⟨ρ1,rel.step r sx,g2⟩
 | false=>exact kW ⟨ρ1,rel.step r sx,g2⟩
theorem zrM{tg:Av}(hp:Es (Ay X.prog X.w) X.A X.env X.xe)(hc:X.calm=true)(hi:hU K X tg e it)(hg:hJ K X dom tg g)(hb:jG K X E body b)(hs:∀ x,CA e X.env x=pure x:=by intro _;rfl) :
  pZ K X E (.For tg e body [] pos) (c7 (vO it) (qw g) b):=.mk fun hK C=>(zib hp hc (hi hK) (hg hK) (hb.run hK C) hs).weak fun Dn σ0 H0=>by
 rintro⟨ρ0,iV,q⟩
 obtain⟨x,ex,q⟩:=q.pl
 refine⟨ρ0,iV.rel,?_⟩
 rw [ex]
 intro Hs r st J wk
 have ah:=iV.step r st
 have q1:=q.step (st.cJ iV.rel)
 obtain⟨items,ρs⟩:=x
 refine⟨fun i m σ H=>m=items.length-i/\i<=items.length/\∃ ρ,bF K C ρ σ H/\aA Hs H/\jE K C E H (forL (qw g) b (items.drop i) ρ) Dn,⟨items.length,by simp,B2 _,ρs,ah,aA.refl _,q1⟩,?_⟩
 rintro i m σ H ⟨rfl,hi,ρ,rel,fz,gd⟩
 by_cases c:i<items.length
 ·have ed:=GZ c
  rw [ed] at gd
  obtain⟨dS,hy⟩:=wk.1 i items[i] H fz (Be c)
  refine .inr ⟨dS,fun σ' H'=>∃ ρ,bF K C ρ σ' H'/\aA Hs H'/\jE K C E H' (forL (qw g) b (items.drop (i+1)) ρ) Dn,fun σ' H' n=>⟨items.length-(i+1),by omega,rfl,c,n⟩,fun x H3 y=>?_⟩
  obtain⟨sm,fx⟩:=hy x H3 y
  have eU:bF K C ρ σ H3:=rel.step (rel.rel.same sm) (.of sm)
  obtain⟨ρ1,e1,gd1⟩:=gd.pl
  refine⟨ρ,items[i],ρ1,eU.rel,fx,e1,fun σ1 wB chg=>⟨ρ1,eU.chg wB chg,?_⟩⟩
  rcases gd1.bd with⟨y,ey,kg⟩|⟨cc,fs,ey,kg⟩
  ·rw [ey]
   have kh:=kg.step (aA.of sm)
   have vk:=fz.trans (aA.of sm)
   obtain⟨fl,ρ2⟩:=y
   cases fl with
   | nx=>exact fun σ' H' r z=>⟨ρ2,r,vk.trans z,kh.step z⟩
   | ct=>exact fun σ' H' r z=>⟨ρ2,r,vk.trans z,kh.step z⟩
   | bk=>exact kh
   | rt d=>exact kh
   | rf d=>exact kh
  ·rw [ey]
   exact kg
 ·have e:i=items.length:=by omega
  subst e
  rw [G0] at gd
  exact .inl ⟨wk.2 _ H fz (AO _),gd σ H rel (aA.refl _)⟩
end
end
variable {f:dm}{base:Az}{p:AD}{k:Nat}{fa:AF}{P:AK}{c:String}{ks:List (Option String)}{σ:L2.St}{ps:List ib}{G:List D->R D}{fd:A9}{w:AJ}{es:List Av}{ρ:En}{g:EF}{Q:VK}{mg:ib->Option gV}{x:ib}
section
def wX[Cs](P:AK)(w:AJ)(K:kb)(mg:ib->Option gV)(base:Az)(x:ib)(c:String)(f:ib)(k:Nat):Prop :=
 ∃(C fI:dm) (fd:A9) (ps:List ib) (lo:AA),mg x=some (.ref C)/\Cs.O c=none/\Cs.X c=some (C,[f])/\(gO K C fI gB "ValueError.__new__"=true\/gO K C fI gB "Exception.__new__"=true)/\DI K (.ref fI)=true/\K.lookup fI=some lo /\
  cA P w K mg base lK k fI fd ps (zX C f)/\Binds K fd ps []
section
variable [Cs]{K:kb}{f:ib}{np cv:AD}{j:Nat}
theorem zsp(h:du K X.cF es fa):du K X es fa:=.mk fun hK=>(h hK).cF
theorem zgR{ρ1:En}{H2:Hp}(rel:bF K C ρ σ H)(st:cu ρ ρ1 σ H H1)(k:∀ a o,H1 a=some o->¬ MA ρ σ a->H2 a=some o):Kc C H2:=fun a o e n=>k a o (st.kp a o (rel.keep a o e n) (rel.zm e n)) (rel.zm e n)
theorem zrP(I:wX X.prog X.w X.K X.mg X.base x c f k)(hr:aQ j X.A)(th:Throws X E)(ha:du K X.cF [e] fa)(hj:k+1<=j:=by decide)(hc:X.calm=true:=by rfl)(hg:Gl X x:=by rfl)(hx:X.ex=[]:=by rfl)(hd:(x==("__debug__":ib))=false:=by decide)
  (he:Aw [e] X.env=(false,AB e X.env)::Aw [] X.env:=by exact FL.se rfl):pZ K X E (.Raise (some (.Call (.Name x np) [e] [] cv)) none pos) (wH c true fa):=.mk fun hK C=>by
 subst hK
 obtain⟨Ca,fI,fd,ps,lo,hm,hO,hX,ec,hf,lk,F,hb⟩:=I
 refine(zrG hc ec hf lk F (hr.mono hj) hb hg hm th ((zsp ha) rfl) hx hd he rfl).weak fun Dn σ H=>?_
 rintro⟨ρ,rel,g⟩
 obtain⟨y,ey,g1⟩:=g.pl
 obtain⟨ds,ρ1⟩:=y
 refine⟨ρ,rel.rel,?_⟩
 rw [ey]
 intro H' r sx vs fs
 cases ds with
 | nil=>exact g1.elim
 | cons d rr =>
  cases rr with
  | cons _ _=>exact g1.elim
  | nil =>
   obtain⟨v,r',rfl,fv,e'⟩:=fs
   obtain rfl:r'=[]:=e'
   refine⟨v,rfl,fun dx nd=>g1 _ (zgR rel sx fun a o q _=>?_) _ _ ⟨hO,[f],[v],hX,rfl,bS,?_⟩⟩
   ·rw [aJ fun z=>by rw [z,nd] at q;cases q];exact q
   ·exact ag.mono (aA.of (aC.upd nd)) _ _ ⟨v,[],rfl,fv,rfl⟩
noncomputable def ub(K:kb)(ks:List (Option String))(fr:Bool)(G:List D->R D):Sp:=fun vs H Q E=>∃ ds,i6 H/\jD K H ks ds vs /\
 ((∃ d,G ds=.ok d/\∀ v H',aC H H'->(if fr=true then ∃ a,v=.ref a/\H a=none/\cO K H' a d else Fz K H' d v)->Q v H') \/
  ∃ c fs,G ds=.err c fs/\∀ H',aC H H'->Wn K E c fs H')
def rS(K:kb)(E:XK)(fr:Bool)(ρ:En)(σ:L2.St)(H:Hp)(r:R (D×En))(Q:VK):Prop:=match r with
 | .ok x=>∀ H',Rel K x.2 σ H'->cu ρ x.2 σ H H'->∀ v,(if fr=true then ∃ a,v=.ref a/\H a=none/\cO K H' a x.1 else Fz K H' x.1 v)->Q v H'
 | .err c fs=>∀ H',(∀ a o,H a=some o->¬ MA ρ σ a->H' a=some o)->Wn K E c fs H'
 | .bad=>False
noncomputable def tVE(K:kb)(E:XK)(fr:Bool)(f:EF):TE:=fun σ H Q=>∃ ρ,Rel K ρ σ H/\rS K E fr ρ σ H (f ρ) Q
structure PVE(K:kb)(X:Cx)(E:XK)(fr:Bool)(e:Av)(f:EF):Prop where
 run:X.K=K->PE X e (tVE K E fr f)
theorem goX{fr:Bool}{fa:AF}(rel:Rel K ρ σ H)(g:rS K E fr ρ σ H (ak G (jI fa) ρ) Q):tAO K ks fa σ H fun vs H1=>ub K ks fr G (vs++[]) H1 Q E:=by
 unfold ak jI at g
 cases ey:fa ρ with
 | ok y =>
  rw [ey] at g
  refine⟨ρ,rel,?_⟩
  rw [ey]
  intro H1 ah aG vs fs
  rw [CV]
  refine⟨y.1,ah.cst,fs,?_⟩
  replace g:rS K E fr ρ σ H ((G y.1).bind fun d=>.ok (d,y.2)) Q:=g
  cases eg:G y.1 with
  | ok d =>
   rw [eg] at g
   refine .inl ⟨d,rfl,fun v H' s fin=>g H' (ah.same s) (aG.trans (.of s)) v ?_⟩
   cases fr with
   | false=>exact fin
   | true =>
    obtain⟨a,e1,e2,e3⟩:=fin
    exact⟨a,e1,aG.none ah e2,e3⟩
  | err c fg =>
   rw [eg] at g
   exact .inr ⟨c,fg,rfl,fun H' s=>g H' fun a o q n=>s a o (aG.kp a o q n)⟩
  | bad=>rw [eg] at g;exact g.elim
 | _=>rw [ey] at g;exact g.elim
theorem zqJ(h:ja K X.cF ks es fa):ja K X ks es fa:=fun hK=>(h hK).cF
theorem zsr{fr:Bool}(cc:Callee X.prog X.w X.K X.mg X.base x k ps (ub X.K ks fr G))(hr:aQ j X.A)(hx:Passes (bE X.prog X.w) X E)(ha:ja K X.cF ks (e::es) fa)(hg:Gl X x:=by rfl)(hj:k<=j:=by decide)(bz:(x==("__debug__":ib))=false:=by decide)
  (he:Aw (e::es) X.env=(false,AB e X.env)::Aw es X.env:=by exact FL.se rfl) (aX:(A7 pos (Aw es X.env)).any (·.1)=false:=by exact FL.sp rfl):PVE K X E fr (.Call (.Name x p) (e::es) [] pos) (ak G (jI fa)):=.mk fun hK=>by
 subst hK
 refine(tL cc hr hg hx ((zqJ ha) rfl) hj bz he aX).weak fun σ H Q=>?_
 rintro⟨ρ,rel,g⟩
 exact goX rel g
theorem zrL{fr:Bool}(he:PVE K X E fr e g)(hs:Bx e none pos.line X.env=pure false:=by rfl):pZ K X E (.Expr e pos) (sE g):=.mk fun hK C=>(zdi (he.run hK) hs).weak fun Dn σ H=>by
 rintro⟨ρ,rel,q⟩
 refine⟨ρ,rel.rel,?_⟩
 unfold sE at q
 cases eg:g ρ with
 | ok y =>
  rw [eg] at q
  exact fun H' r st v _=>q σ H' (rel.step r st) (st.cJ rel.rel)
 | err c fs =>
  rw [eg] at q
  exact fun H' k=>q H' (zgR rel .refl k)
 | bad=>rw [eg] at q;exact q.elim
end
section
variable [Cs]{K:kb}
theorem zge{q:ib}{st:AQ}{N:List ib}(ks:List (Option String))(fr:Bool)(h:cM K x q st f fd)(S:eY N ps (aM st))(dY:ps.length=ks.length)(fo:ps.length<=N.length)
  (hb:∀(av:gV) (A:AR) (outer:List AY) (s:ir) (H:Hp) (E:XK),aQ k (A.deeper (BG q (aM st) s.heap.objs.size f av))->jG K (dB (bE P w) P w K mg base N q (aM st) f av A outer s H E) E (bZ st) b) :
  cA P w K mg base (bE P w) (k+1) f fd ps (ub K ks fr (kE ks fr N.length b)):=by
 refine h.tF S (fun vs H Q E ⟨ds,_,e,_⟩=>by rw [e.len.1,dY]) fun av A outer s H vs Q E hr hq=>?_
 obtain⟨ds,cst,fa,q⟩:=hq
 obtain⟨hv,hd⟩:=fa.len
 have bV:L2.start N vs=vs.map some++AI (N.length-ds.length) none:=by unfold L2.start;rw [hv,hd]
 have no:∀(i:Nat) p d,(BH dD ks ds++AI (N.length-ds.length) .no)[i]?≠some (.ow p d):=fun i p d e=>by
  by_cases c:i<(BH dD ks ds).length
  ·rw [B5 c] at e
   exact Ap e
  ·rw [CH (by omega),CC] at e
   split at e <;> cases e
 refine⟨tSE K ⟨H,L2.start N vs,BH dD ks ds++AI (N.length-ds.length) .no⟩ E b,(hb av A outer s H E hr).run rfl _,BH dD ks ds++AI (N.length-ds.length) .no,?_,?_⟩
 ·refine⟨?_,fun a o e _=>e,fun i a d e _=>absurd e (no i false d),fun i=>ER,fun i d e=>rfl,fun i p d e=>absurd e (no i p d)⟩
  rw [bV]
  exact(zdE cst fa).pad _
 ·have kp:∀(ρ':En) (σ':L2.St) (H':Hp),bF K ⟨H,L2.start N vs,BH dD ks ds++AI (N.length-ds.length) .no⟩ ρ' σ' H'->aC H H':=fun ρ' σ' H' r b o e=>r.keep b o e fun⟨i,⟨p,d,z⟩,_⟩=>no i p d z
  rcases q with⟨d,hF,q⟩|⟨c,fs,hF,q⟩
  ·unfold kE at hF
   rw [if_pos hd] at hF
   obtain⟨z,ez,ey⟩:=bK hF
   rw [ez]
   obtain⟨fl,ρ'⟩:=z
   cases fr with
   | false =>
    cases fl with
    | rt dr=>cases ey;exact fun v σ' H' r fz=>q v H' (kp _ _ _ r) fz
    | nx=>cases ey;exact fun σ' H' r fz=>q .non H' (kp _ _ _ r) (by show Fz K H' .none .non;simp [Fz])
    | _=>cases ey
   | true =>
    cases fl with
    | rf dr=>cases ey;exact fun a σ' H' r ha m=>q (.ref a) H' (kp _ _ _ r) ⟨a,rfl,ha,m⟩
    | _=>cases ey
  ·unfold kE at hF
   rw [if_pos hd] at hF
   cases ez:b (BH dD ks ds++AI (N.length-ds.length) .no) with
   | ok z =>
    rw [ez] at hF
    obtain⟨fl,ρ'⟩:=z
    cases fr <;> cases fl <;> cases hF
   | bad=>rw [ez] at hF;cases hF
   | err c' fg =>
    rw [ez] at hF
    cases hF
    exact fun H' kc=>q H' fun a o e=>kc a o e fun⟨i,⟨p,d,z⟩,_⟩=>no i p d z
end
end
end FL
namespace L2
open PySem PySem.Spec PyProof.Rows
variable {base:Az}{P:AK}{fd:A9}{w:AJ}{C:dm}{mg:ib->Option gV}
section
variable {K:kb}
theorem zmc{fI:dm}{q sn n1 f:ib}{st:AQ}{p0 p1 p2 p3:AD}(hC:jX K C)(na:eZ K C f)(h:cM K "__init__" q st fI fd) (bV:bZ st=[.Assign [.Attribute (.Name sn p0) f p1] (.Name n1 p2) p3]) (S:eY [sn,n1] [sn,n1] (aM st))
  (h0:∀(av:gV) (A:AR) (outer:List AY) (s:ir) (H:Hp) (E:XK),PE (dB lK P w K mg base [sn,n1] q (aM st) fI av A outer s H E).cF (.Name sn p0) (bL 0))
  (h1:∀(av:gV) (A:AR) (outer:List AY) (s:ir) (H:Hp) (E:XK),PE (dB lK P w K mg base [sn,n1] q (aM st) fI av A outer s H E).cF (.Name n1 p2) (bL 1))
  (hs:∀ env,Bx (.Name n1 p2) (some (.Attribute (.Name sn p0) f p1)) p3.line env=pure false:=by intro _;rfl):cA P w K mg base lK 1 fI fd [sn,n1] (zX C f):=by
 refine h.ok (k:=0) S (fun vs H Q E ⟨e,v,ws,z,_⟩=>by rw [z];rfl) fun av A outer s H vs Q E hr hq=>?_
 obtain⟨e,v,ws,rfl,he,q⟩:=hq
 refine⟨_,by rw [bV];exact tU (zrD (h0 av A outer s H E) (h1 av A outer s H E) (hs _)),?_⟩
 exact⟨v,rfl,.ref e,rfl,e,C,ws,rfl,he,hC,na,fun dx z1 z2=>q dx z1 z2⟩
end
variable {ta:TE}{k:Nat}{te:TX}{t:TA}{X:Cx}{ps:List ib}{es:List Av}{m:ib}
section
variable {f:dm}{sp:Sp}{pos apos:AD}{e o:Av}
noncomputable def zuG(C:dm)(m:ib)(sp:Sp)(ta:TE)(t:TA):TX:=fun σ H Q E=>ta σ H fun x H1=>∃ a dx fs,x=.ref a/\H1 a=some (.ins C dx fs)/\fs.lookup m=none/\t σ H1 fun vs H2=>sp (x::vs) H2 Q E
theorem zq9{pl:Sem Bool}(he:PE X.cF o ta)(c:gv X.K C)(hm:Meth X.K C m f)(F:cA X.prog X.w X.K X.mg X.base (bE X.prog X.w) k f fd ps sp)(hr:aQ k X.A)(hx:X.ex=[])(hb:Binds X.K fd ps [])(ha:PA X.cF (e::es) t)
  (bV:Aw (e::es) X.env=(false,AB e X.env)::Aw es X.env:=by exact FL.se rfl)(aX:(A7 pos (Aw es X.env)).any (·.1)=false:=by exact FL.sp rfl)
  (ht:AB (.Call (.Attribute o m apos) (e::es) [] pos) X.env=(do
   let ov <- AB o X.env
   Ep apos.atName
   let(f,first) <- C8 [ov] (Fc ov m pl)
   FR pos f first (A7 pos (Aw (e::es) X.env)) (Fg pos (Fh [] X.env))):=by rfl) :
  rV X (.Call (.Attribute o m apos) (e::es) [] pos) (zuG C m sp ta t):=by
 intro pins s σ H Q E I h
 refine IV (pl:=pl) (Bb (he pins s σ H _ (I.i5 _) h) (fun u s1 ⟨x,H1,I1',rx,a,dx,fs,ex,ea,l,q⟩=>?_) fun _ _ z=>z.elim) ht
 have I1:=I1'.jW
 subst ex
 obtain rfl:u=A8 a:=rx
 refine zgn I1 ea c hm l ?_
 refine Gw (first:=[.ref a]) (h₀:=X.base) I.ok.mod.qK hm.kp (Bb (ha pos pins s1 σ H1 _ (I1.i5 _) q) (fun us s2 ⟨vs,H2,I2',r,q2⟩=>?_) fun _ _ z=>z.elim) bV aX
 have I2:=I2'.jW
 refine⟨I2.dG,?_⟩
 have r2:Vals (V.ref a::vs) (A8 a::us):=.cons rfl r
 have hl:(A8 a::us).length=ps.length:=by rw [<- r2.length];exact F.len _ _ _ _ q2
 refine FQ (Ff (F.run X.A X.stack s2 H2 ⟨.ref a::us,[]⟩ ((.ref a::us)++[]) _ Q E hr I2.yr (hb s2 (.ref a::us) I2.dG (by rw [CV];exact hl)) (by rw [CV];exact r2) q2) fun r s' hq=>?_)
 cases r with
 | ok fl =>
  cases fl with
  | ret u=>exact I2.after hq
  | next=>exact BQ hq
  | brk=>exact BQ hq
  | cont=>exact BQ hq
 | error ev =>
  obtain⟨ea',cls,dd,T,H',e1,os,bare,un,ax,fl,ne,nT,oe,oT,qe⟩:=hq
  exact⟨ea',cls,dd,T,H',e1,I2.yd (ch:=[]) os un ax bare (fun b z=>absurd z (by simp)),fl,ne,nT,I2.nw hx oe,I2.nw hx oT,qe⟩
theorem zrZ(he:rV X e te)(hs:Bx e none pos.line X.env=pure false:=by rfl):PSX X [.Expr e pos] (fun D E σ H=>te σ H (fun _ H1=>D.nx σ H1) (E σ)):=by
 intro pins s σ H D E I h
 refine Hi (wpAny_Expr_any (Bb (he pins s σ H _ _ I h) (fun v s1 hv=>?_) fun ev s1 q=>⟨σ,q⟩) I.quiet hs)
 obtain⟨y,H1,I1,r1,q1⟩:=hv
 exact E4 ⟨_,H1,I1,q1⟩
end
end L2
namespace FL
open PySem L2 PySem.Spec
open PyProof.Rows hiding St
variable {C f:dm}{base:Az}{E:XK}{N ns ps:List ib}{i j k:Nat}{fa:AF}{P:AK}{c:String}{apos pos px:AD}{ks:List (Option String)}{X:Cx}{σ:L2.St}{G:List D->R D}{e:Av}{q x:ib}{fd:A9}{w:AJ}{es:List Av}{ρ:En}{g:EF}{Q:VK}{mg:ib->Option gV}{H:Hp}
section
def zd0[Cs](P:AK)(w:AJ)(K:kb)(mg:ib->Option gV)(base:Az)(c:String)(m:ib)(k:Nat)(ps:List ib)(ks:List (Option String))(G:List D->R D):Prop :=
 ∃(C f:dm) (ns:List ib) (fd:A9),Cs.O c=some (C,ns)/\m∉ns/\gv K C/\Meth K C m f/\Binds K fd ps []/\cA P w K mg base (bE P w) k f fd ps (ub K (some c::ks) false G)
section
variable [Cs]{K:kb}
noncomputable def tVX(K:kb)(fr:Bool)(f:EF):TX:=fun σ H Q E=>∃ ρ,Rel K ρ σ H/\rS K E fr ρ σ H (f ρ) Q
structure PVX(K:kb)(X:Cx)(fr:Bool)(e:Av)(f:EF):Prop where
 run:X.K=K->rV X e (tVX K fr f)
theorem _root_.L2.rV.weak{t t':TX}(h:rV X e t)(w:∀ σ H Q E,t' σ H Q E->t σ H Q E):rV X e t':=fun pins s σ H Q E I q=>h pins s σ H Q E I (w σ H Q E q)
theorem zj5{x:List D×En}(rel:Rel K ρ σ H)(ex:fE i c fa ρ=.ok x):∃ a ds y,σ[i]?=some (some (.ref a))/\gA K H (.ob c ds) (some (.ref a))/\fa ρ=.ok y/\x=(.tuple ds::y.1,y.2):=by
 unfold fE at ex
 cases e:ρ[i]? with
 | none=>rw [e] at ex;cases ex
 | some y =>
  rw [e] at ex
  cases y with
  | ob c' ds =>
   dsimp only at ex
   split at ex
   ·rename_i gD
    subst gD
    have hl:i<σ.length:=by rw [<- rel.len];exact(Bf.mp e).1
    have o:=rel.ok i _ _ e (Be hl)
    cases es:σ[i] with
    | none=>rw [es] at o;exact o.elim
    | some v =>
     rw [es] at o
     cases v with
     | ref a =>
      obtain⟨y,ey,ex⟩:=bK ex
      cases ex
      exact⟨a,ds,y,by rw [Be hl,es],o,ey,rfl⟩
     | _=>exact o.elim
   ·cases ex
  | _=>cases ex
section
variable {m:ib}
theorem goM{fr:Bool}(ho:Cs.O c=some (C,ns))(rel:Rel K ρ σ H)(g:rS K E fr ρ σ H (ak G (jI (fE i c fa)) ρ) Q) :
  ∃ a dx jA,σ[i]?=some (some (.ref a))/\H a=some (.ins C dx (ns.zip jA))/\tAO K ks fa σ H fun vs H1=>ub K (some c::ks) fr G (.ref a::vs) H1 Q E:=by
 unfold ak jI at g
 cases ey:fE i c fa ρ with
 | ok y =>
  rw [ey] at g
  obtain⟨a,ds,z,h1,h2,h3,rfl⟩:=zj5 rel ey
  obtain⟨C',cU,dx,jA,z1,z2,z3,z4⟩:=Il h2 fun⟨_,_,_,z,_⟩=>by rw [ho] at z;cases z
  rw [ho] at z1
  cases z1
  refine⟨a,dx,jA,h1,z2,ρ,rel,?_⟩
  rw [h3]
  intro H1 ah aG vs fs
  refine⟨.tuple ds::z.1,ah.cst,⟨.ref a,vs,rfl,gA.mono (x:=.ob c ds) (aG.cJ rel) (fun a _ ⟨p,d',z⟩=>nomatch z) h2,fs⟩,?_⟩
  replace g:rS K E fr ρ σ H ((G (.tuple ds::z.1)).bind fun d=>.ok (d,z.2)) Q:=g
  cases eg:G (.tuple ds::z.1) with
  | ok d =>
   rw [eg] at g
   refine .inl ⟨d,rfl,fun v H' s fin=>g H' (ah.same s) (aG.trans (.of s)) v ?_⟩
   cases fr with
   | false=>exact fin
   | true =>
    obtain⟨a,e1,e2,e3⟩:=fin
    exact⟨a,e1,aG.none ah e2,e3⟩
  | err c fg =>
   rw [eg] at g
   exact .inr ⟨c,fg,rfl,fun H' s=>g H' fun a o q n=>s a o (aG.kp a o q n)⟩
  | bad=>rw [eg] at g;exact g.elim
 | _=>rw [ey] at g;exact g.elim
theorem zsT{pl:Sem Bool}(i:Nat)(M:zd0 X.prog X.w X.K X.mg X.base c m k ps ks G)(hr:aQ j X.A)(ha:ja K X.cF ks (e::es) fa)(hx:X.ex=[]:=by rfl)(hv:PE X.cF (.Name x px) (bL i):=by exact pv _)(hj:k<=j:=by decide)
  (bV:Aw (e::es) X.env=(false,AB e X.env)::Aw es X.env:=by exact FL.se rfl)(aX:(A7 pos (Aw es X.env)).any (·.1)=false:=by exact FL.sp rfl)
  (ht:AB (.Call (.Attribute (.Name x px) m apos) (e::es) [] pos) X.env=(do
   let ov <- AB (.Name x px) X.env
   Ep apos.atName
   let(f,first) <- C8 [ov] (Fc ov m pl)
   FR pos f first (A7 pos (Aw (e::es) X.env)) (Fg pos (Fh [] X.env))):=by rfl) :
  PVX K X false (.Call (.Attribute (.Name x px) m apos) (e::es) [] pos) (ak G (jI (fE i c fa))):=.mk fun hK=>by
 subst hK
 obtain⟨C,f,ns,fd,h1,h2,h3,h4,h5,h6⟩:=M
 refine(zq9 hv h3 h4 h6 (hr.mono hj) hx h5 (ha rfl) bV aX ht).weak fun σ H Q E=>?_
 rintro⟨ρ,rel,g⟩
 obtain⟨a,dx,jA,z1,z2,z3⟩:=goM (ks:=ks) h1 rel g
 exact⟨.ref a,z1,a,dx,ns.zip jA,rfl,z2,zcP h2,z3⟩
end
noncomputable def spC(K:kb)(ks:List (Option String))(Gc:List D->R (Option (String×List D))):Sp:=fun vs H Q _=>∃ ds,i6 H/\jD K H ks ds vs /\
 ((Gc ds=.ok none/\∀ H',aC H H'->Q .non H')\/∃ c fs,Gc ds=.ok (some (c,fs))/\∀ a H',aC H H'->rJ K H' a c fs->Q (.ref a) H')
noncomputable def runC(ks:List (Option String))(n:Nat)(f:EF)(ds:List D):R (Option (String×List D)) :=
 if ds.length=ks.length then match f (BH dD ks ds++AI (n-ds.length) .no) with
  | .ok _=>.ok none
  | .err c fs=>.ok (some (c,fs))
  | .bad=>.bad
 else .bad
end
section
variable [Cs]{K:kb}
noncomputable def tCt(K:kb)(Ca:dm)(i j:Nat)(g:EF):TS:=zdL (rC (tC .non) (qu i)) (zdL (fun D σ H=>tVX K false g σ H (fun _ H1=>D.nx σ H1) (ziS K Ca j (rC (bL j) (qu i)) D σ)) (ziU (bL i)))
theorem zmp{st:AQ}{Ca:dm}(ks:List (Option String))(h:cM K x q st f fd)(S:eY N ps (aM st))(dY:ps.length=ks.length)
  (sO:∀ c B ns,Cs.X c=some (B,ns)->C1 K (.ref B) (.ref Ca)=some true)(hi:i<N.length)(hj:j<N.length)(eI:i≠j)(hpi:ps.length<=i)
  (hb:∀(av:gV) (A:AR) (outer:List AY) (s:ir) (H:Hp) (E:XK),aQ k (A.deeper (BG q (aM st) s.heap.objs.size f av))->bW (dB (bE P w) P w K mg base N q (aM st) f av A outer s H E) (bZ st) (tCt K Ca i j g)) :
  cA P w K mg base (bE P w) (k+1) f fd ps (spC K ks (runC ks N.length g)):=by
 refine h.tF S (fun vs H Q E ⟨ds,_,e,_⟩=>by rw [e.len.1,dY]) fun av A outer s H vs Q E hr hq=>⟨_,hb av A outer s H E hr,?_⟩
 obtain⟨ds,cst,fa,q⟩:=hq
 obtain⟨hv,hd⟩:=fa.len
 have fo:ps.length<=N.length:=By hpi (D3 hi)
 have bV:L2.start N vs=vs.map some++AI (N.length-ds.length) none:=by unfold L2.start;rw [hv,hd]
 have hlen:(L2.start N vs).length=N.length:=by rw [bV,B6,Bc,Dt,hv,hd];omega
 have hz:(BH dD ks ds).length=ks.length:=by rw [JH,hd,Ge]
 have no:∀(i:Nat) p d,(BH dD ks ds++AI (N.length-ds.length) .no)[i]?≠some (.ow p d):=fun i p d e=>by
  by_cases c:i<(BH dD ks ds).length
  ·rw [B5 c] at e
   exact Ap e
  ·rw [CH (by omega),CC] at e
   split at e <;> cases e
 have ri:(BH dD ks ds++AI (N.length-ds.length) .no)[i]?=some Sl.no:=by
  rw [CH (by omega),CC,if_pos (by omega)]
 have rs:(BH dD ks ds++AI (N.length-ds.length) Sl.no).set i Sl.no=BH dD ks ds++AI (N.length-ds.length) .no:=by
  refine List.ext_getElem? fun m=>?_
  by_cases c:i=m
  ·subst c
   rw [Bj (Bf.mp ri).1,ri]
  ·rw [Bl c]
 have rel:Rel K (BH dD ks ds++AI (N.length-ds.length) .no) ((L2.start N vs).set i (some .non)) H:=by
  have r:=((zdE cst fa).pad (N.length-ds.length)).set (i:=i) (x:=.no) (v:=some .non) trivial (fun _ _ _ z=>nomatch z)
  rw [rs,<- bV] at r
  exact r
 have same:∀{H':Hp},(∀ a o,H a=some o->¬ MA (BH dD ks ds++AI (N.length-ds.length) .no) ((L2.start N vs).set i (some .non)) a->H' a=some o)->aC H H':=fun k a o e=>k a o e fun⟨i,⟨p,d,z⟩,_⟩=>no i p d z
 refine⟨_,rel,?_⟩
 unfold runC at q
 rw [if_pos hd] at q
 cases eg:g (BH dD ks ds++AI (N.length-ds.length) .no) with
 | bad =>
  rw [eg] at q
  rcases q with⟨z,_⟩|⟨_,_,z,_⟩ <;> cases z
 | ok y =>
  rw [eg] at q
  rcases q with⟨_,q⟩|⟨_,_,z,_⟩
  ·exact fun H' r st v _=>⟨.non,Bj (by rw [hlen];exact hi),q H' (same st.kp)⟩
  ·cases z
 | err c fs =>
  rw [eg] at q
  rcases q with⟨z,_⟩|⟨c',fg,z,q⟩
  ·cases z
  ·cases z
   intro H' k C' dd er
   obtain⟨_,ns,_,hX,_⟩:=id er
   refine⟨C',rfl,sO c C' ns hX,fun e ne=>⟨.ref e,Bj (by rw [CI,hlen];exact hj),⟨.ref e,?_,?_⟩⟩⟩
   ·rw [Bl (BK eI),Bj (by rw [CI,CI,hlen];exact hi)]
   ·have s2:aC H' (upd H' e (jC e C' dd)):=aC.upd ne
    exact q e _ ((same k).trans s2) ⟨C',dd,bS,er.mono (aA.of s2)⟩
end
end
variable {Gc:List D->R (Option (String×List D))}{y:Sl}{p:AD}{nm:ib}{b:SF}{G:String->List D->R D}{v:Option V}
section
noncomputable def zf5:Option (String×List D)->Sl
 | none=>.val .none
 | some p=>.ob p.1 p.2
noncomputable def wF(i:Nat)(Gc:List D->R (Option (String×List D)))(fa:AF):SF:=fun ρ=>(fa ρ).bind fun x=>(Gc x.1).bind fun o=>match x.2[i]? with
 | some (.ow true _)=>.bad
 | some _=>.ok (.nx,x.2.set i (zf5 o))
 | none=>.bad
noncomputable def nQ(i:Nat)(tb:List (String×Nat)):EF:=fun ρ=>match ρ[i]? with
 | some (.ob c ds)=>(R.of (tb.lookup c)).bind fun j=>(R.of ds[j]?).bind fun d=>.ok (d,ρ)
 | _=>.bad
noncomputable def cP(i:Nat)(tb:List (String×Bool)):EF:=fun ρ=>match ρ[i]? with
 | some (.ob c _)=>(R.of (tb.lookup c)).bind fun b=>.ok (.bool b,ρ)
 | _=>.bad
def nO(i:Nat)(G:String->List D->R D):EF:=fun ρ=>match ρ[i]? with
 | some (.ob c ds)=>(G c ds).bind fun d=>.ok (d,ρ)
 | _=>.bad
def runK(n:Nat)(b:SF)(c:String)(fs:List D):R D:=(b (.ob c fs::AI (n-1) .no)).bind fun x=>match x.1 with
 | .rt d=>.ok d
 | _=>.bad
section
variable [Cs]{K:kb}
theorem bF.zie{C:SC}(r:bF K C ρ σ H)(np:∀ e,ρ[i]?≠some (.ow true e))(hl:i<ρ.length)(o:gA K H y v)(hy:∀ p d,y≠.ow p d):bF K C (ρ.set i y) (σ.set i v) H:=by
 refine⟨r.rel.set o fun _ _ _ z=>absurd z (hy _ _),r.keep,fun j b c' e1 e2=>?_,fun j=>?_,fun j c' e1=>?_,r.lu⟩
 ·by_cases k:i=j
  ·subst k
   rw [Bj hl] at e1
   exact absurd (BC e1) (hy _ _)
  ·rw [Bl k] at e1 e2
   exact r.own j b c' e1 e2
 ·by_cases k:i=j
  ·subst k
   rw [Bj hl,<- r.pin i]
   constructor
   ·rintro⟨_,z⟩;exact absurd (BC z) (hy _ _)
   ·rintro⟨c',z⟩;exact absurd z (np c')
  ·rw [Bl k];exact r.pin j
 ·by_cases k:i=j
  ·subst k
   rw [Bj hl] at e1
   exact absurd (BC e1) (hy _ _)
  ·rw [Bl k] at e1 ⊢
   exact r.fix j c' e1
theorem zim{pos' zh9:AD}(i:Nat)(hN:X.N.Nodup)(cc:Callee X.prog X.w X.K X.mg X.base nm k ps (spC X.K ks Gc))(hr:aQ j X.A)(ha:ja K X ks (e::es) fa)
  (hi:X.N[i]?=some x:=by rfl)(hx:Loc X.env.scope x:=by first|exact Dg rfl|exact CZ rfl)(hg:Gl X nm:=by rfl)(hj:k<=j:=by decide)(bz:(nm==("__debug__":ib))=false:=by decide)
  (he:Aw (e::es) X.env=(false,AB e X.env)::Aw es X.env:=by exact FL.se rfl) (aX:(A7 pos (Aw es X.env)).any (·.1)=false:=by exact FL.sp rfl)
  (hs:Bx (.Call (.Name nm p) (e::es) [] pos) (some (.Name x pos')) zh9.line X.env=pure false:=by rfl) (hf:X.fn x=true\/X.env.scope.names.lookup x=some .local:=by first|exact .inl rfl|exact .inr rfl|assumption) :
  cN K X (.Assign [.Name x pos'] (.Call (.Name nm p) (e::es) [] pos) zh9) (wF i Gc fa):=.mk fun hK C=>by
 subst hK
 refine(qX hN hi hx (tL cc hr hg qT (ha rfl) hj bz he aX) hs hf).weak fun Dn σ H=>?_
 rintro⟨ρ,rel,q⟩
 obtain⟨y,ey,q0⟩:=q.bU
 refine⟨ρ,rel.rel,?_⟩
 rw [ey]
 intro H1 r1 aG vs fs
 have ah:=rel.step r1 aG
 obtain⟨o,eo,q1⟩:=(q0.step (aG.cJ rel.rel)).bU
 have key:∃ z,y.2[i]?=some z/\(∀ d,z≠.ow true d)/\dE X.K C H1 (.ok (.nx,y.2.set i (zf5 o))) Dn:=by
  cases e1:y.2[i]? with
  | none=>rw [e1] at q1;exact q1.elim
  | some z =>
   rw [e1] at q1
   cases z with
   | ow p d =>
    cases p with
    | true=>exact q1.elim
    | false=>exact⟨_,rfl,(fun d z=>nomatch z),q1⟩
   | _=>exact⟨_,rfl,(fun d z=>nomatch z),q1⟩
 obtain⟨z,e1,nz,q2⟩:=key
 have hl:i<y.2.length:=(Bf.mp e1).1
 have np:∀ e,y.2[i]?≠some (.ow true e):=fun d w=>by rw [e1] at w;exact nz d (BC w)
 rw [CV]
 refine⟨y.1,ah.rel.cst,fs,?_⟩
 cases o with
 | none =>
  refine .inl ⟨eo,fun H' s=>q2 _ H' ((ah.step (ah.rel.same s) (.of s)).zie (y:=.val .none) np hl (by show Fz X.K H' .none .non;simp [Fz]) (fun _ _ z=>nomatch z)) (aA.of s)⟩
 | some cf =>
  obtain⟨c,fg⟩:=cf
  exact .inr ⟨c,fg,eo,fun a H' s er=>q2 _ H' ((ah.step (ah.rel.same s) (.of s)).zie (y:=.ob c fg) np hl (.inr er) (fun _ _ z=>nomatch z)) (aA.of s)⟩
def ErF(K:kb)(f:ib)(c:String)(j:Nat):Prop:=∃ C ns,Cs.X c=some (C,ns)/\ns[j]?=some f/\ns.Nodup/\jX K C/\eZ K C f
theorem zhO{ds:List D}(rel:Rel K ρ σ H)(e:ρ[i]?=some (.ob c ds)):∃ a,σ[i]?=some (some (.ref a))/\gA K H (.ob c ds) (some (.ref a)):=by
 have hl:i<σ.length:=by rw [<- rel.len];exact(Bf.mp e).1
 have o:=rel.ok i _ _ e (Be hl)
 cases es:σ[i] with
 | none=>rw [es] at o;exact o.elim
 | some v =>
  rw [es] at o
  cases v with
  | ref a=>exact⟨a,by rw [Be hl,es],o⟩
  | _=>exact o.elim
theorem zf6{ds:List D}(ho:Cs.O c=none)(hX:Cs.X c=some (C,ns))(rel:Rel K ρ σ H)(e:ρ[i]?=some (.ob c ds)):∃ a dd vs,σ[i]?=some (some (.ref a))/\H a=some (jC a C dd)/\vs.length=ns.length/\ErD H ns vs dd/\ag K H ds vs:=by
 obtain⟨a,h1,h2⟩:=zhO rel e
 obtain⟨C',dd,z1,_,cU,vs,z2,z3,z4,z5⟩:=Or.resolve_left h2 fun⟨_,_,_,_,z,_⟩=>by rw [ho] at z;cases z
 rw [hX] at z2
 cases z2
 exact⟨a,dd,vs,h1,z1,z3,z4,z5⟩
theorem zcV{α:Type}{c:String}{j:α}:∀{tb:List (String×α)},tb.lookup c=some j->(c,j)∈tb
 | [],h=>by cases h
 | (a,b)::r,h=>by
  rw [A5] at h
  split at h
  ·rename_i q
   rw [eq_of_beq q]
   cases h
   exact Bu ..
  ·exact Bp _ (zcV h)
theorem zF{f:ib}(i:Nat)(tb:List (String×Nat))(hO:∀ p∈tb,Cs.O p.1=none)(hE:∀ p∈tb,ErF K f p.1 p.2)(hv:PE X (.Name x px) (bL i):=by exact pv _)(hb:Dq (.Name x px) f X.env (AB (.Name x px) X.env)=AB (.Name x px) X.env:=by rfl) :
  PV K X (.Attribute (.Name x px) f pos) (nQ i tb):=.mk fun hK=>by
 subst hK
 refine(zqX hv hb).weak fun σ H Q=>?_
 rintro⟨ρ,rel,g⟩
 unfold nQ at g
 cases e:ρ[i]? with
 | none=>rw [e] at g;exact g.elim
 | some y =>
  rw [e] at g
  cases y with
  | ob c ds =>
   obtain⟨j,ej,g⟩:=g.bQ
   obtain⟨d,ed,g⟩:=g.bQ
   have ej':(c,j)∈tb:=by
    cases q:tb.lookup c with
    | none=>rw [q] at ej;cases ej
    | some z=>rw [q] at ej;cases ej;exact zcV q
   have mn:ds[j]?=some d:=by
    cases q:ds[j]? with
    | none=>rw [q] at ed;cases ed
    | some z=>rw [q] at ed;cases ed;rfl
   obtain⟨C,ns,hX,hj,nd,ec,na⟩:=hE _ ej'
   obtain⟨a,dd,vs,h1,h2,h3,h4,h5⟩:=zf6 (hO _ ej') hX rel e
   obtain⟨v,ev,fv⟩:=h5.get mn
   cases dd with
   | none =>
    have hn:ns=[]:=h4
    rw [hn] at hj
    cases hj
   | some dx=>exact⟨.ref a,h1,a,C,dx,ns.zip vs,v,rfl,h2,h4,ec,na,zcO nd hj ev,g.now rel v fv⟩
  | _=>exact g.elim
def bc(K:kb)(y:V)(c:String)(b:Bool):Prop:=Cs.O c=none/\∃ B ns,Cs.X c=some (B,ns)/\i7 K B/\Bh K (.ref B) (nM y)=some b
theorem di{tn:ib}{p2:AD}{y:V}(i:Nat)(tb:List (String×Bool))(hy:nM y≠.none)(hE:∀ p∈tb,bc X.K y p.1 p.2)(hT:PE X (.Name tn p2) (tC y))(hm:X.mg "isinstance"=none) (hg:Gl X "isinstance":=by rfl) (hv:PE X (.Name x px) (bL i):=by exact pv _)
  (iS:Aw [.Name x px,.Name tn p2] X.env=(false,AB (.Name x px) X.env)::Aw [.Name tn p2] X.env:=by exact FL.se rfl) (cK:Aw [.Name tn p2] X.env=(false,AB (.Name tn p2) X.env)::Aw [] X.env:=by exact FL.se rfl) (aX:(A7 pos (Aw [.Name tn p2] X.env)).any (·.1)=false:=by exact FL.sp rfl) :
  PV K X (.Call (.Name "isinstance" p) [.Name x px,.Name tn p2] [] pos) (cP i tb):=.mk fun hK=>by
 subst hK
 refine(wj (x:="isinstance") (id:="isinstance") zkN hg hm KC.Bt.isinstance (gm hv (gm hT jq cK) iS) (by decide) (by decide) iS aX).weak fun σ H Q=>?_
 rintro⟨ρ,rel,g⟩
 unfold cP at g
 cases e:ρ[i]? with
 | none=>rw [e] at g;exact g.elim
 | some z =>
  rw [e] at g
  cases z with
  | ob c ds =>
   obtain⟨b,eb,g⟩:=g.bQ
   have eb':(c,b)∈tb:=by
    cases q:tb.lookup c with
    | none=>rw [q] at eb;cases eb
    | some z=>rw [q] at eb;cases eb;exact zcV q
   obtain⟨hO,B,ns,hX,ek,kt⟩:=hE _ eb'
   obtain⟨a,dd,vs,h1,h2,h3,h4,h5⟩:=zf6 hO hX rel e
   refine⟨.ref a,h1,?_⟩
   refine⟨a,y,B,dd,b,rfl,hy,h2,fun dx ed=>?_,ek,kt,g.now rel _ (mC _)⟩
   subst ed
   exact⟨_,h4⟩
  | _=>exact g.elim
def spK(K:kb)(G:String->List D->R D):Sp:=fun vs H Q _=>∃ a c fs d,vs=[.ref a]/\i6 H/\gA K H (.ob c fs) (some (.ref a))/\G c fs=.ok d/\∀ v H',aC H H'->Fz K H' d v->Q v H'
theorem zig(i:Nat)(cc:Callee X.prog X.w X.K X.mg X.base nm k ps (spK X.K G))(hr:aQ j X.A)(hv:PE X (.Name x px) (bL i):=by exact pv _)(hg:Gl X nm:=by rfl)(hj:k<=j:=by decide)(bz:(nm==("__debug__":ib))=false:=by decide)
  (he:Aw [.Name x px] X.env=(false,AB (.Name x px) X.env)::Aw [] X.env:=by exact FL.se rfl) (aX:(A7 pos (Aw [] X.env)).any (·.1)=false:=by exact FL.sp rfl) :
  PV K X (.Call (.Name nm p) [.Name x px] [] pos) (nO i G):=.mk fun hK=>by
 subst hK
 refine(tL cc hr hg qT (gm hv jq he) hj bz he aX).weak fun σ H Q=>?_
 rintro⟨ρ,rel,g⟩
 unfold nO at g
 cases e:ρ[i]? with
 | none=>rw [e] at g;exact g.elim
 | some z =>
  rw [e] at g
  cases z with
  | ob c ds =>
   obtain⟨d,ed,g⟩:=g.bQ
   obtain⟨a,h1,h2⟩:=zhO rel e
   exact⟨.ref a,h1,a,c,ds,d,rfl,rel.cst,h2,ed,fun v H' s fz=>g.new rel s v fz⟩
  | _=>exact g.elim
end
section
variable [Cs]{K:kb}
theorem zms{n0:ib}{st:AQ}(h:cM K x q st f fd)(S:eY N [n0] (aM st))(fo:1<=N.length)
  (hb:∀(av:gV) (A:AR) (outer:List AY) (s:ir) (H:Hp) (E:XK),aQ k (A.deeper (BG q (aM st) s.heap.objs.size f av))->eO K (dB (bE P w) P w K mg base N q (aM st) f av A outer s H E) (bZ st) b) :
  cA P w K mg base (bE P w) (k+1) f fd [n0] (spK K (runK N.length b)):=by
 refine h.tF S (fun vs H Q E ⟨_,_,_,_,e,_⟩=>by rw [e];rfl) fun av A outer s H vs Q E hr hq=>?_
 obtain⟨a,c,fs,d,rfl,cst,sl,hF,q⟩:=hq
 have no:∀(i:Nat) p d,(Sl.ob c fs::AI (N.length-1) .no)[i]?≠some (.ow p d):=fun i p d e=>by
  cases i with
  | zero=>cases e
  | succ i =>
   rw [zz1,CC] at e
   split at e <;> cases e
 have bV:L2.start N [V.ref a]=some (V.ref a)::AI (N.length-1) none:=by unfold L2.start;rfl
 refine⟨tS K ⟨H,L2.start N [.ref a],.ob c fs::AI (N.length-1) .no⟩ b,hb av A outer s H E hr rfl _,.ob c fs::AI (N.length-1) .no,?_,?_⟩
 ·refine⟨?_,fun a o e _=>e,fun i a d e _=>absurd e (no i false d),fun i=>ER,fun i d e=>rfl,fun i p d e=>absurd e (no i p d)⟩
  rw [bV]
  have r0:Rel K [Sl.ob c fs] [some (V.ref a)] H:=by
   refine⟨rfl,fun i x v e1 e2=>?_,fun i j a z _=>?_,cst⟩
   ·cases i with
    | zero=>cases e1;cases e2;exact sl
    | succ i=>cases e1
   ·obtain⟨⟨p,d,z⟩,_⟩:=z
    cases i with
    | zero=>cases z
    | succ i=>cases z
  exact r0.pad (N.length-1)
 ·unfold runK at hF
  obtain⟨z,ez,ey⟩:=bK hF
  rw [ez]
  obtain⟨fl,ρ'⟩:=z
  cases fl with
  | rt dr=>cases ey;exact fun v σ' H' r fz=>q v H' (fun b o e=>r.keep b o e fun⟨i,⟨p,d,z⟩,_⟩=>no i p d z) fz
  | _=>cases ey
end
end
section
def qJ(b:Bool):List Bool->Option Nat
 | []=>none
 | a::r=>if a=b then some 0 else(qJ b r).map (·+1)
def zgM:D->D->R D
 | .list ds,.bool b=>(R.of (boolsOf ds)).bind fun bs=>(R.of (qJ b bs)).bind fun j=>.ok (.int j)
 | _,_=>.bad
theorem zgD{b:Bool}:∀{bs:List Bool} {j:Nat},qJ b bs=some j->bs[j]?=some b/\∀(m:Nat) a,m<j->bs[m]?=some a->a≠b
 | [],j,h=>by cases h
 | a::r,j,h=>by
  unfold qJ at h
  split at h
  ·rename_i e
   cases h
   exact⟨by rw [e];rfl,fun m a hm=>absurd hm (Nat.not_lt_zero _)⟩
  ·rename_i e
   obtain⟨i,hi,rfl⟩:=C2.mp h
   obtain⟨h1,h2⟩:=zgD hi
   refine⟨h1,fun m a' hm hg=>?_⟩
   cases m with
   | zero=>cases hg;exact e
   | succ m=>exact h2 m a' (by omega) hg
section
variable [Cs]{K:kb}{o:Av}{f h:EF}
theorem zsh{cv:AD}(ho:PV K X o f)(he:PV K X e h)
  (kj:Dq o "index" X.env (AB o X.env)=AB o X.env:=by rfl)
  (zb1:((A7 cv (Aw [e] X.env)).all (fun x=>!x.1)&&(Fg cv (Fh [] X.env)).all (fun x=>x.1.isSome)&&decide ([e].length+([]:List Keyword).length+(if([]:List Keyword).isEmpty then 0 else 1)<30))=true:=by rfl)
  (qA:(apos.endLine==cv.line)=true:=by rfl) (bV:Aw [e] X.env=(false,AB e X.env)::Aw [] X.env:=by exact FL.se rfl) (vH:(A7 cv (Aw [] X.env)).any (·.1)=false:=by exact FL.sp rfl) :
  PV K X (.Call (.Attribute o "index" apos) [e] [] cv) (e2 zgM f h):=.mk fun hK=>by
 subst hK
 refine(zqP Jv PySem.F.slot_list_index PySem.F.type_list_index zpL (ho rfl) (gm (he rfl) jq bV) kj zb1 qA bV vH).weak fun σ H Q q=>?_
 obtain⟨ρ,rel,q⟩:=q
 refine eG rel q fun dx ρ1 x H1 ah aG fx q1=>?_
 cases dx with
 | list ds =>
  simp only [Fz] at fx
  obtain⟨l,vs,rfl,sx,fs⟩:=fx
  refine⟨.inl ⟨rfl,vs,sx.sq⟩,eG ah q1 fun dy ρ2 y H2 cC bY fy q3=>?_⟩
  obtain⟨d,ed,q4⟩:=q3.bQ
  cases dy with
  | bool b =>
   simp only [Fz] at fy
   subst fy
   obtain⟨bs,eb,ed⟩:=bK (show((R.of (boolsOf ds)).bind fun bs=>(R.of (qJ b bs)).bind fun j=>.ok (.int j))=.ok d from ed)
   obtain⟨j,ej,ed⟩:=bK ed
   cases ed
   have eb':boolsOf ds=some bs:=by
    cases z:boolsOf ds with
    | none=>rw [z] at eb;cases eb
    | some z'=>rw [z] at eb;cases eb;rfl
   have ej':qJ b bs=some j:=by
    cases z:qJ b bs with
    | none=>rw [z] at ej;cases ej
    | some z'=>rw [z] at ej;cases ej;rfl
   obtain⟨rfl,_⟩:=fs.bools eb'
   obtain⟨h1,h2⟩:=zgD ej'
   refine⟨l,bs.map V.bl,.bl b,.bl b,j,rfl,rfl,(aA.gW (bY.cJ ah) sx).sq,rfl,?_,by rw [BW,h1];rfl,?_,fun m w hm hw=>?_,q4.now cC _ (jJ _)⟩
   ·rw [C0]
    intro z hz
    obtain⟨z',_,rfl⟩:=Cq.mp hz
    rfl
   ·cases b <;> rfl
   ·rw [BW] at hw
    obtain⟨a,ha,rfl⟩:=C2.mp hw
    have:=h2 m a hm ha
    cases a <;> cases b <;> first|rfl|exact absurd rfl this
  | _=>cases ed
 | _ =>
  obtain⟨y,ey,q2⟩:=q1.bU
  obtain⟨d,ed,_⟩:=q2.bQ
  cases ed
end
end
variable {n:String}{cs:List dm}{r:Bool}{N:dm}{b t:gV}{cd:ClassData}
section
section
variable {K:kb}
theorem zfw(s:cH cs K)(e:B9 K C=some cd):B9 (aD cs K) C=some cd:=by
 unfold B9 at e ⊢
 split at e
 ·rename_i x y cd' sl ho
  rw [iB s ho fun _ _ z=>nomatch z]
  exact e
 ·cases e
theorem zpJ(s:cH cs K)(e:GO K C b=some r):GO (aD cs K) C b=some r:=by
 obtain⟨cd,e1,e2⟩:=CK.mp e
 exact CK.mpr ⟨cd,zfw s e1,e2⟩
theorem zaW(s:cH cs K)(e:(B9 K C).isSome=true):(B9 (aD cs K) C).isSome=true:=by
 obtain⟨cd,e1⟩:=IX.mp e
 rw [zfw s e1];rfl
theorem zi8(s:cH cs K)(c:(B9 K C).isSome=true)(e:Fd K (.ref C)=some t):Fd (aD cs K) (.ref C)=some t:=by
 unfold B9 at c
 split at c
 ·rename_i x y cd' sl ho
  exact z9 s ho (fun _ _ z=>nomatch z) e
 ·cases c
theorem i7.cut(s:cH cs K)(h:i7 K C):i7 (aD cs K) C:=⟨j7 s h.ga,j7 s h.gn,j7 s h.cl,uc s h.be,zpJ s h.ob,zaW s h.is⟩
theorem lL.cut(s:cH cs K)(h:lL K C):lL (aD cs K) C:=⟨zi8 s h.cl h.ty,zaW s h.cl,uc s h.be⟩
theorem zhN(s:cH cs K)(e:FD K N=true):FD (aD cs K) N=true:=by
 unfold FD at e ⊢
 split at e
 ·rename_i ho
  rw [iB s ho fun _ _ z=>nomatch z]
  exact e
 ·cases e
theorem ziX(s:cH cs K){bm:List gV}:∀{l:List gV},FC K bm l=true->FC (aD cs K) bm l=true
 | [],e=>e
 | v::r,e=>by
  unfold FC at e ⊢
  rcases Bool.or_eq_true_iff.mp e with q|q
  ·rw [q,Bool.true_or]
  ·rw [F3]
   right
   split at q
   ·split at q
    ·rename_i ho
     simp only [Bs] at q
     rw [iB s ho fun _ _ z=>nomatch z]
     simp only [Bs]
     exact⟨⟨zhN s q.1.1,by rw [zc3 s (eq_of_beq q.1.2)];rfl⟩,ziX s q.2⟩
    ·cases q
   ·cases q
theorem zmd(s:cH cs K){fI:dm}{bm:List gV}(e:gO K C fI bm n=true):gO (aD cs K) C fI bm n=true:=by
 unfold gO at e ⊢
 split at e
 ·rename_i ho
  rw [iB s ho fun _ _ z=>nomatch z]
  split at e
  ·rename_i hm hs
   simp only [Bs] at e
   simp only [hm,hs,Bs]
   exact⟨⟨⟨e.1.1.1,ziX s e.1.1.2⟩,zhN s e.1.2⟩,by rw [zc3 s (eq_of_beq e.2)];exact beq_self_eq_true _⟩
  ·cases e
 ·cases e
theorem dg(s:cH cs K){c:gV}(e:Bh K t c=some r):Bh (aD cs K) t c=some r:=by
 unfold Bh at e ⊢
 split at e
 ·rename_i h;rw [if_pos h];exact e
 ·rename_i h
  rw [if_neg h]
  unfold PySem.W.kitCls at e ⊢
  cases c with
  | ref C =>
   simp only at e ⊢
   split at e
   ·rename_i z
    simp only [Bs] at z
    rw [if_pos (by simp only [Bs];exact⟨zaW s z.1,by rw [zi8 s z.1 (eq_of_beq z.2)];decide⟩)]
    exact uc s e
   ·cases e
  | type T =>
   simp only at e ⊢
   split at e
   ·rename_i z
    rw [if_pos z]
    exact uc s e
   ·cases e
  | _=>cases e
end
end
section
variable [Cs]{K:kb}
end
variable {d:D}{i:Int}
section
def x9:Av->Option Int
 | .Constant (.int i) _ _=>some i
 | .UnaryOp .USub (.Constant (.int i) _ _) _=>some (-i)
 | _=>none
def zaG:List Av->Option (List D)
 | []=>some []
 | e::r=>(x9 e).bind fun i=>(zaG r).map (.int i::·)
def cTu:Av->Option D
 | .Tuple es _ _=>(zaG es).bind fun l=>if leB l.length lim=true then some (.tuple l) else none
 | e=>(x9 e).map .int
def zaH:List Av->Option (List D)
 | []=>some []
 | e::r=>(cTu e).bind fun d=>(zaH r).map (d::·)
variable [Cs]{K:kb}
theorem zaO(h:x9 e=some i):PV K X e (eC (.int i))/\zr e=true:=by
 unfold x9 at h
 split at h
 ·cases h;exact⟨aq,rfl⟩
 ·cases h;exact⟨zdn zdO aq,rfl⟩
 ·cases h
theorem zff:∀{es:List Av} {ds:List D},zaG es=some ds->du K X es (rZ ds)
 | [],ds,h=>by cases h;exact wu
 | e::r,ds,h=>by
  obtain⟨i,h1,h⟩:=CK.mp h
  obtain⟨l,h2,rfl⟩:=C2.mp h
  exact dj (zaO h1).1 (zff h2) (se (zaO (K:=K) (X:=X) h1).2)
theorem zfi(h:cTu e=some d):PV K X e (eC d)/\zr e=true:=by
 unfold cTu at h
 split at h
 ·obtain⟨l,h1,h⟩:=CK.mp h
  split at h
  ·rename_i c
   cases h
   refine⟨?_,rfl⟩
   have e:aP (rZ l)=eC (.tuple l):=by
    funext ρ
    show(R.ok (l,ρ)).bind _=_
    rw [ao,eQ c];rfl
   rw [<- e]
   exact e7 (zff h1)
  ·cases h
 ·obtain⟨i,h1,rfl⟩:=C2.mp h
  exact zaO h1
theorem zfj:∀{es:List Av} {ds:List D},zaH es=some ds->du K X es (rZ ds)
 | [],ds,h=>by cases h;exact wu
 | e::r,ds,h=>by
  obtain⟨d,h1,h⟩:=CK.mp h
  obtain⟨l,h2,rfl⟩:=C2.mp h
  exact dj (zfi h1).1 (zfj h2) (se (zfi (K:=K) (X:=X) h1).2)
theorem zsz{ds:List D}(h:zaH es=some ds):bg K X (.List es pos) (aZ (rZ ds)):=et (zfj h)
end
end FL
namespace L2
open PySem PySem.Spec PyProof.Rows
variable {a b x y:gV}{E Q:gV->ir->Prop}{xs ys:Array gV}{i1 i2 it l t z:dm}{i k:Nat}{s:ir}{A:AR}{w:AJ}{prog:AK}
section
theorem zp5(hi:s.heap.IsTupleIter it t i)(ht:s.heap.IsTuple t ys)(hy:ys[i]?=some y)
  (q:∀ h',h'.IsTupleIter it t (i+1)->Em it s.heap h'->Q y { s with heap:=h' }):Ax (Ay prog w) A (Eg (.ref it)) Q E s:=by
 obtain⟨oi,e1,c1,d1⟩:=id hi
 obtain⟨ot,e2,_,m,d2⟩:=ht
 unfold Eg
 refine pd (D8 (name:=D9 "__next__") hi.typeIs G9 (De G9 hi.typeIs JL ?_ (JM _)))
 show Ax _ _ (field (.ref it) 0 >>= _) _ _ s
 refine pd (B7 e1 d1 (x:=.ref t) rfl ?_)
 rw [if_neg (show ¬ ((A8 t==Br)=true) from BU)]
 refine pd (B7 e1 d1 (x:=.int i 0) rfl ?_)
 refine pd (Eh e2 d2 ?_)
 simp only [G4,hy]
 refine pd (EC e1 d1 (by simp) (AH ⟨y,rfl,AH (q _ ⟨_,Fo _ e1 (GJ (ED d1 _)),(HM ..).trans c1,?_⟩ (DT ..))⟩))
 rw [ED d1]
 simp [Ce]
theorem zl3(hh:A.handled=none)(hi:s.heap.IsTupleIter it t i)(ht:s.heap.IsTuple t ys)(hy:ys[i]?=none)
  (q:∀ h' e,Heap.ExtBut it s.heap h'->(∃ o,h'.get? e=some o/\o.cls=.type "StopIteration")->E (.ref e) { s with heap:=h' }):Ax (Ay prog w) A (Eg (.ref it)) Q E s:=by
 obtain⟨oi,e1,c1,d1⟩:=id hi
 obtain⟨ot,e2,_,m,d2⟩:=ht
 unfold Eg
 refine pd (D8 (name:=D9 "__next__") hi.typeIs G9 (De G9 hi.typeIs JL ?_ (JM _)))
 show Ax _ _ (field (.ref it) 0 >>= _) _ _ s
 refine pd (B7 e1 d1 (x:=.ref t) rfl ?_)
 rw [if_neg (show ¬ ((A8 t==Br)=true) from BU)]
 refine pd (B7 e1 d1 (x:=.int i 0) rfl ?_)
 refine pd (Eh e2 d2 ?_)
 simp only [G4,hy]
 refine pd (Er (pd (EC e1 d1 (by simp) ?_)))
 refine pd ?_;simp only [newExc,newTuple]
 refine pd ?_;refine Cz ?_ (by size_fits)
 refine pd (m:=G5 _ _) ?_;refine wpAny_of_eq (a:=Br) (by first|rfl|(simp only [G5];rfl)) ?_
 refine Cz ?_ (by size_fits);simp only [raiseNew]
 refine pd (wpAny_handled ?_);rw [show A.in1.handled=none from hh]
 exact pd (AH (wpAny_throw (q _ _ (((DT ..).extBut.push _).push _) ⟨_,Bv _ rfl,rfl⟩)))
abbrev ZA:=ZipApart
theorem zvD{TI TO:dm}(D:ZA z TI TO i1 i2 l t)(zz:Ck s.heap z TI TO .none)(pi:BI s.heap TI (.ref i1) (.ref i2))(po:BI s.heap TO a b)
  (t1:s.heap.IsListIter i1 l k)(t2:s.heap.IsTupleIter i2 t k)(u1:s.heap.IsList l xs)(u2:s.heap.IsTuple t ys)(ex:xs[k]?=some x)(ey:ys[k]?=some y)
  (q:∀ h',Ck h' z TI TO (Ce s.heap.objs.size)->BI h' TO x y->h'.IsListIter i1 l (k+1)->h'.IsTupleIter i2 t (k+1)->BI h' s.heap.objs.size x y ->
   (∀ c o,c≠z->c≠TO->c≠i1->c≠i2->s.heap.get? c=some o->h'.get? c=some o)->Q (.ref s.heap.objs.size) { s with heap:=h' }) :
  Ax (Ay prog w) A (Ci.«zip.__next__» ⟨[.ref z],[]⟩) (fun f s'=>∃ v,f=.done (.ret v)/\Q v s') E s:=by
 show Ax _ _ (field (.ref z) 2 >>= _) _ _ _
 refine pd (B7 zz rfl (x:=.bool false) rfl ?_)
 refine pd (B7 zz rfl (x:=.ref TI) rfl ?_)
 refine pd (Eh pi rfl ?_)
 refine pd ?_;unfold JN
 refine pd (B7 zz rfl (x:=.none) rfl (AH ?_));simp only [if_true]
 refine pd (Er ?_);refine pd (B7 zz rfl (x:=.ref TO) rfl ?_)
 refine pd (FE zz (by simp) fun g1 z1 b1=>?_)
 replace z1:Ck g1 z TI TO .ellipsis:=z1
 refine pd ?_;simp only [Iq,List.zipIdx_nil,GH,GN]
 refine pd (pd (Ha ?_));show Ax _ _ (Eg (.ref i1) >>= _) _ _ _
 refine pd (wpAny_nextOf_list_item (t1.extBut b1.extBut D.i1z) (u1.extBut b1.extBut D.l1z) ex fun g2 r2 b2=>AH ?_)
 have o2:BI g2 TO a b:=b2.extBut _ _ D.TOi1 (b1.extBut _ _ D.TOz po)
 refine pd (Eh o2 rfl ?_)
 refine pd (Ir o2 fun g3 o3 b3=>?_)
 replace o3:BI g3 TO x b:=o3
 refine pd (wpAny_letGo (AH ?_));refine pd (pd (Ha ?_))
 show Ax _ _ (Eg (.ref i2) >>= _) _ _ _
 refine pd (zp5 (((t2.extBut b1.extBut D.i2z).extBut b2.extBut D.i12.symm).extBut b3.extBut D.TOi2.symm) (((u2.extBut b1.extBut D.l2z).extBut b2.extBut D.l2i1).extBut b3.extBut D.l2TO) ey fun g4 r4 b4=>AH ?_)
 have o4:BI g4 TO x b:=b4.extBut _ _ D.TOi2 o3
 refine pd (Eh o4 rfl ?_)
 refine pd (Ir o4 fun g5 o5 b5=>?_)
 replace o5:BI g5 TO x y:=o5
 refine pd (wpAny_letGo (AH (AH ?_)));refine pd (Eh o5 rfl ?_);refine pd (wpAny_newTuple ?_)
 have sz:g5.objs.size=s.heap.objs.size:=by rw [b5.1,b4.1,b3.1,b2.1,b1.1]
 have z5:Ck g5 z TI TO .ellipsis:=b5.extBut _ _ D.TOz.symm (b4.extBut _ _ D.i2z.symm (b3.extBut _ _ D.TOz.symm (b2.extBut _ _ D.i1z.symm z1)))
 have k5:∀ c o,c≠z->c≠TO->c≠i1->c≠i2->s.heap.get? c=some o->g5.get? c=some o:=fun c o c1 c2 c3 c4 e=>b5.extBut _ _ c2 (b4.extBut _ _ c4 (b3.extBut _ _ c2 (b2.extBut _ _ c3 (b1.extBut _ _ c1 e))))
 have r15:g5.IsListIter i1 l (k+1):=((r2.extBut b3.extBut D.TOi1.symm).extBut b4.extBut D.i12).extBut b5.extBut D.TOi1.symm
 have r25:g5.IsTupleIter i2 t (k+1):=r4.extBut b5.extBut D.TOi2.symm
 have zl:z<g5.objs.size:=AW z5
 refine pd ?_;unfold Builtin.SmallTypes.ownedTupleHandOut
 have z6:Ck (g5.push { cls:=.type "tuple",data:=.seq #[x,y] }) z TI TO .ellipsis:=A1 _ z5
 refine pd (FE z6 (by simp) fun g7 z7 b7=>?_)
 replace z7:Ck g7 z TI TO (Ce g5.objs.size):=z7
 refine FE z7 (by simp) fun g8 z8 b8=>?_
 replace z8:Ck g8 z TI TO (Ce g5.objs.size):=z8
 have up:∀ c o,c≠z->g5.get? c=some o->g8.get? c=some o:=fun c o c1 e=>b8.extBut _ _ c1 (b7.extBut _ _ c1 (A1 _ e))
 have p8:BI g8 g5.objs.size x y:=b8.extBut _ _ (CO zl) (b7.extBut _ _ (CO zl) (Bv _ rfl))
 rw [sz] at z8 p8
 refine AH ⟨_,rfl,?_⟩
 show Q (.ref g5.objs.size) _;rw [sz]
 refine q g8 z8 (up _ _ D.TOz o5) ?_ ?_ p8 fun c o c1 c2 c3 c4 e=>up c o c1 (k5 c o c1 c2 c3 c4 e)
 ·exact r15.at fun o e=>up _ o D.i1z e
 ·obtain⟨o,e,r⟩:=r25
  exact⟨o,up _ o D.i2z e,r⟩
theorem zvC{TI TO:dm}{Q:Fin->ir->Prop}(hh:A.handled=none)(D:ZA z TI TO i1 i2 l t)(zz:Ck s.heap z TI TO .none)(pi:BI s.heap TI (.ref i1) (.ref i2))(po:BI s.heap TO a b)
  (t1:s.heap.IsListIter i1 l k)(t2:s.heap.IsTupleIter i2 t k)(u1:s.heap.IsList l xs)(u2:s.heap.IsTuple t ys)(en:xs[k]?=none\/ys[k]?=none)
  (q:∀ h' e,(∀ c o,c≠z->c≠TO->c≠i1->c≠i2->s.heap.get? c=some o->h'.get? c=some o)->(∃ o,h'.get? e=some o/\o.cls=.type "StopIteration")->E (.ref e) { s with heap:=h' }) :
  Ax (Ay prog w) A (Ci.«zip.__next__» ⟨[.ref z],[]⟩) Q E s:=by
 show Ax _ _ (field (.ref z) 2 >>= _) _ _ _
 refine pd (B7 zz rfl (x:=.bool false) rfl ?_)
 refine pd (B7 zz rfl (x:=.ref TI) rfl ?_)
 refine pd (Eh pi rfl ?_)
 refine pd ?_;unfold JN
 refine pd (B7 zz rfl (x:=.none) rfl (AH ?_));simp only [if_true]
 refine pd (Er ?_);refine pd (B7 zz rfl (x:=.ref TO) rfl ?_)
 refine pd (FE zz (by simp) fun g1 z1 b1=>?_)
 replace z1:Ck g1 z TI TO .ellipsis:=z1
 refine pd ?_;simp only [Iq,List.zipIdx_nil,GH,GN]
 refine pd (pd (Ha ?_));show Ax _ _ (Eg (.ref i1) >>= _) _ _ _
 cases ex:xs[k]? with
 | none =>
  refine pd (wpAny_nextOf_list_end hh (t1.extBut b1.extBut D.i1z) (u1.extBut b1.extBut D.l1z) ex fun g2 e b2 he=>?_)
  obtain⟨oe,e1,e2⟩:=he
  have z2:Ck g2 z TI TO .ellipsis:=b2 _ _ D.i1z.symm z1
  have ne:e≠z:=fun x=>by subst x;rw [z2] at e1;cases e1;simp at e2
  exact FE z2 (by simp) fun g3 _ b3=>q g3 e (fun c o c1 _ c3 _ x=>b3.extBut _ _ c1 (b2 _ _ c3 (b1.extBut _ _ c1 x))) ⟨oe,b3.extBut _ _ ne e1,e2⟩
 | some x =>
  have ey:ys[k]?=none:=en.resolve_left fun z=>by rw [ex] at z;cases z
  refine pd (wpAny_nextOf_list_item (t1.extBut b1.extBut D.i1z) (u1.extBut b1.extBut D.l1z) ex fun g2 r2 b2=>AH ?_)
  have o2:BI g2 TO a b:=b2.extBut _ _ D.TOi1 (b1.extBut _ _ D.TOz po)
  refine pd (Eh o2 rfl ?_)
  refine pd (Ir o2 fun g3 o3 b3=>?_)
  refine pd (wpAny_letGo (AH ?_));refine pd (pd (Ha ?_))
  show Ax _ _ (Eg (.ref i2) >>= _) _ _ _
  refine pd (zl3 hh (((t2.extBut b1.extBut D.i2z).extBut b2.extBut D.i12.symm).extBut b3.extBut D.TOi2.symm) (((u2.extBut b1.extBut D.l2z).extBut b2.extBut D.l2i1).extBut b3.extBut D.l2TO) ey fun g4 e b4 he=>?_)
  obtain⟨oe,e1,e2⟩:=he
  have z4:Ck g4 z TI TO .ellipsis:=b4 _ _ D.i2z.symm (b3.extBut _ _ D.TOz.symm (b2.extBut _ _ D.i1z.symm z1))
  have ne:e≠z:=fun x=>by subst x;rw [z4] at e1;cases e1;simp at e2
  exact FE z4 (by simp) fun g5 _ b5=>q g5 e (fun c o c1 c2 c3 c4 x=>b5.extBut _ _ c1 (b4 _ _ c4 (b3.extBut _ _ c2 (b2.extBut _ _ c3 (b1.extBut _ _ c1 x))))) ⟨oe,b5.extBut _ _ ne e1,e2⟩
theorem zvG{TI TO:dm}{Q:Option gV->ir->Prop}(D:ZA z TI TO i1 i2 l t)(zz:Ck s.heap z TI TO .none)(pi:BI s.heap TI (.ref i1) (.ref i2))(po:BI s.heap TO a b)
  (t1:s.heap.IsListIter i1 l k)(t2:s.heap.IsTupleIter i2 t k)(u1:s.heap.IsList l xs)(u2:s.heap.IsTuple t ys)(ex:xs[k]?=some x)(ey:ys[k]?=some y)
  (q:∀ h',Ck h' z TI TO (Ce s.heap.objs.size)->BI h' TO x y->h'.IsListIter i1 l (k+1)->h'.IsTupleIter i2 t (k+1)->BI h' s.heap.objs.size x y ->
   (∀ c o,c≠z->c≠TO->c≠i1->c≠i2->s.heap.get? c=some o->h'.get? c=some o)->Q (some (.ref s.heap.objs.size)) { s with heap:=h' }):Ax (Ay prog w) A (C9 (.ref z)) Q E s:=by
 have ty:s.TypeIs (.ref z) "zip":=⟨_,zz,rfl⟩
 unfold C9
 exact pd (G1 (D8 (name:=D9 "__next__") ty Hb (De Hb ty F.entry_zip_next (zvD D zz pi po t1 t2 u1 u2 ex ey fun h' a1 a2 a3 a4 a5 a6=>AH (q h' a1 a2 a3 a4 a5 a6)) (F.args_zip_next_1 _))))
theorem zvF{TI TO:dm}{Q:Option gV->ir->Prop}(hh:A.handled=none)(D:ZA z TI TO i1 i2 l t)(zz:Ck s.heap z TI TO .none)(pi:BI s.heap TI (.ref i1) (.ref i2))(po:BI s.heap TO a b)
  (t1:s.heap.IsListIter i1 l k)(t2:s.heap.IsTupleIter i2 t k)(u1:s.heap.IsList l xs)(u2:s.heap.IsTuple t ys)(en:xs[k]?=none\/ys[k]?=none)
  (q:∀ h',(∀ c o,c≠z->c≠TO->c≠i1->c≠i2->s.heap.get? c=some o->h'.get? c=some o)->Q none { s with heap:=h' }):Ax (Ay prog w) A (C9 (.ref z)) Q E s:=by
 have ty:s.TypeIs (.ref z) "zip":=⟨_,zz,rfl⟩
 unfold C9
 refine pd (G1 (D8 (name:=D9 "__next__") ty Hb (De Hb ty F.entry_zip_next (zvC hh D zz pi po t1 t2 u1 u2 en fun h' e k1 ⟨o,ho,hc⟩=>?_) (F.args_zip_next_1 _))))
 exact pd (Ih (T:="StopIteration") (b:=true) ⟨o,ho,hc⟩ isSubtype_stop (AH (q _ k1)))
end
abbrev Aq(h:Az)(l t:dm):Az:=(zipH1 h l).push { cls:=.type "tuple_iterator",data:=.fields #[.ref t,.int 0 0] }
abbrev As(h:Az)(l t:dm):Az:=(Aq h l t).push { cls:=.type "tuple",data:=.seq #[.ref h.objs.size,.ref (zipH1 h l).objs.size] }
abbrev Au(h:Az)(l t:dm):Az:=(As h l t).push { cls:=.type "tuple",data:=.seq #[.none,.none] }
abbrev ui(h:Az)(l t:dm):Az:=(Au h l t).push { cls:=.type "zip",data:=.fields #[.none,.bool false,.bool false,.ref (Aq h l t).objs.size,.ref (As h l t).objs.size] }
theorem zvE(l t:dm)(xs ys:Array gV):Meets (Ci.«zip.__new__» ⟨[.type "zip",.ref l,.ref t],[]⟩) (fun _ R s=>s.heap.IsList l xs/\s.heap.IsTuple t ys/\R (.ok (.ret (.ref (Au s.heap l t).objs.size))) { s with heap:=ui s.heap l t }) :=
 .of_wp fun prog w A R s h=>by
  obtain⟨hp,g,d,tk,os⟩:=s;obtain⟨a1,a2,h⟩:=h
  have sO:=sub_zip
  have b1:Heap.IsList (Shared.heap ⟨hp,g,d,tk,os⟩) l xs:=a1
  have b2:Heap.IsTuple (Shared.heap ⟨hp.push { cls:=.type "list_iterator",data:=.fields #[.ref l,.int 0 0] },g,d,tk,os⟩) t ys:=Heap.IsTuple.push a2 _
  wp_walk using Gr b1,wpAny_pyIter_tuple b2
  exact⟨_,rfl,h⟩
variable {P:AK}{pos:AD}{es:List Av}
section
theorem zvB(u1:s.heap.IsList l xs)(u2:s.heap.IsTuple t ys)
  (q:∀ h',Ck h' (s.heap.objs.size+4) (s.heap.objs.size+2) (s.heap.objs.size+3) .none->BI h' (s.heap.objs.size+2) (.ref s.heap.objs.size) (.ref (s.heap.objs.size+1)) ->
   BI h' (s.heap.objs.size+3) .none .none->h'.IsListIter s.heap.objs.size l 0->h'.IsTupleIter (s.heap.objs.size+1) t 0 ->
   (∀ c o,s.heap.get? c=some o->h'.get? c=some o)->Q (.ref (s.heap.objs.size+4)) { s with heap:=h' }):Ax (Ay prog w) A (call (.type "zip") [.ref l,.ref t]) Q E s:=by
 refine callType_new F.called_zip (by decide) (F.typeCall_zip_2 _ _) (F.newCall_zip_2 _ _) (fun obj=>F.args_object_init_3 obj _ _) F.entry_zip_new (zvE l t xs ys) ⟨u1,u2,?_⟩
 have n1:(zipH1 s.heap l).objs.size=s.heap.objs.size+1:=CG ..
 have n2:(Aq s.heap l t).objs.size=s.heap.objs.size+2:=by rw [CG,n1]
 have n3:(As s.heap l t).objs.size=s.heap.objs.size+3:=by rw [CG,n2]
 have n4:(Au s.heap l t).objs.size=s.heap.objs.size+4:=by rw [CG,n3]
 have up:∀{h:Az} {c:dm} {o u:AA},h.get? c=some o->(h.push u).get? c=some o:=fun e=>A1 _ e
 have g5:(ui s.heap l t).get? (Au s.heap l t).objs.size=some _:=Bv _ rfl
 have g4:(ui s.heap l t).get? (As s.heap l t).objs.size=some _:=up (Bv _ rfl)
 have g3:(ui s.heap l t).get? (Aq s.heap l t).objs.size=some _:=up (up (Bv _ rfl))
 have g2:(ui s.heap l t).get? (zipH1 s.heap l).objs.size=some _:=up (up (up (Bv _ rfl)))
 have g1:(ui s.heap l t).get? s.heap.objs.size=some _:=up (up (up (up (Bv _ rfl))))
 show _/\_
 rw [n2,n3,n4] at g5
 rw [n1,n2] at g3
 rw [n3] at g4
 rw [n1] at g2
 rw [n4]
 exact⟨⟨_,g5,rfl⟩,q _ g5 g3 g4 ⟨_,g1,rfl,rfl⟩ ⟨_,g2,rfl,rfl⟩ fun c o x=>up (up (up (up (up x))))⟩
end
def zah(K:kb)(a b:dm):It :=
 ⟨fun i H=>∃ xs ys x y,bp K H a xs/\dN K H b ys/\xs[i]?=some x/\ys[i]?=some y,
  fun i H x H'=>∃ t u v,x=.ref t/\H t=none/\H'=upd H t (.tup [u,v])/\(∀ xs,bp K H a xs->xs[i]?=some u)/\∀ ys,dN K H b ys->ys[i]?=some v,
  fun i H=>∃ xs ys,bp K H a xs/\dN K H b ys/\(xs.length<=i\/ys.length<=i)⟩
def tnT(z TI TO i1 i2 a b:dm)(i:Nat)(h:Az):Prop:=Ck h z TI TO .none/\BI h TI (.ref i1) (.ref i2)/\(∃ u v,BI h TO u v)/\h.IsListIter i1 a i/\h.IsTupleIter i2 b i
theorem zu7{K:kb}(z TI TO i1 i2 a b:dm)(D:ZA z TI TO i1 i2 a b):Turn P w K (.Tuple es k pos) (zah K a b) [z,TI,TO,i1,i2] z (tnT z TI TO i1 i2 a b) where
 mem:=by simp
 obj:=fun i h st c hc=>by
  obtain⟨h1,h2,⟨u,v,h3⟩,⟨o4,h4,_,d4⟩,⟨o5,h5,_,d5⟩⟩:=st
  simp only [A6,Cm,or_false] at hc
  rcases hc with rfl|rfl|rfl|rfl|rfl
  ·exact⟨_,h1,fun v z=>by cases z⟩
  ·exact⟨_,h2,fun v z=>by cases z⟩
  ·exact⟨_,h3,fun v z=>by cases z⟩
  ·exact⟨_,h4,fun v z=>by rw [d4] at z;cases z⟩
  ·exact⟨_,h5,fun v z=>by rw [d5] at z;cases z⟩
 keep:=fun i h h' st k=>by
  obtain⟨h1,h2,⟨u,v,h3⟩,h4,o,h5,r⟩:=st
  exact⟨k _ (by simp) _ h1,k _ (by simp) _ h2,⟨u,v,k _ (by simp) _ h3⟩,h4.at fun o e=>k _ (by simp) o e,o,k _ (by simp) o h5,r⟩
 item:=by
  intro X hP hw hK hc i pins s σ H E I hf st hg
  subst hP hw hK
  obtain⟨xs,ys,x,y,iR,mK,hx,hy⟩:=hg
  obtain⟨oA,iW,px,_⟩:=I.list iR
  obtain⟨sS,lE,py,_⟩:=I.tuple mK
  obtain⟨ux,vL,wD⟩:=iW.get hx
  obtain⟨uy,huy,ruy⟩:=lE.get hy
  obtain⟨h1,h2,⟨u,v,h3⟩,h4,h5⟩:=id st
  have ku:∀ c∈[z,TI,TO,i1,i2],c<s.heap.objs.size:=fun c hc=>by
   obtain⟨o4,e4,_⟩:=id h4
   obtain⟨o5,e5,_⟩:=id h5
   simp only [A6,Cm,or_false] at hc
   rcases hc with rfl|rfl|rfl|rfl|rfl
   ·exact AW h1
   ·exact AW h2
   ·exact AW h3
   ·exact AW e4
   ·exact AW e5
  refine zvG D h1 h2 h3 h4 h5 px.isList py (by simpa using vL) (by simpa using huy) fun h' a1 a2 a3 a4 a5 hk=>?_
  refine⟨_,rfl,Ji a1 fun jK b1 sb=>?_⟩
  have wU:=ku z (by simp)
  have k2:∀ c o,c∉[z,TI,TO,i1,i2]->s.heap.get? c=some o->jK.get? c=some o:=fun c o hc e=>by
   simp only [A6,Cm,or_false,not_or] at hc
   exact sb.extBut c o hc.1 (hk c o hc.1 hc.2.2.1 hc.2.2.2.1 hc.2.2.2.2 e)
  have ht:jK.get? s.heap.objs.size=some { cls:=.type "tuple",data:=.seq #[ux,uy] }:=sb.extBut _ _ (CO wU) a5
  refine⟨.ref s.heap.objs.size,_,Inv.zdM (s:=s) (h':=jK) (t':=s.toks) (fp:=[z,TI,TO,i1,i2]) I (xs:=[x,y]) (us:=[ux,uy]) k2 hf ku ht (.cons wD (.cons ruy .nil)) (by rw [BR];show 2<=16777216;decide),rfl,
   ⟨_,x,y,rfl,I.ax.fresh (AO _),rfl,fun zs hz=>by rw [I.vT hz iR];exact hx,fun zs hz=>by rw [I.zi3 hz mK];exact hy⟩,?_,fun c hc=>?_⟩
  ·obtain⟨o,e,r⟩:=a4
   exact⟨b1,sb.extBut _ _ D.TIz (hk _ _ D.TIz D.TITO D.TIi1 D.TIi2 h2),⟨_,_,sb.extBut _ _ D.TOz a2⟩,a3.extBut sb.extBut D.i1z,o,sb.extBut _ _ D.i2z e,r⟩
  ·rw [aJ (Ba (ku c hc))]
   exact(hf c hc).1
 done:=by
  intro X hP hw hK hc i pins s σ H E I hf st hg
  subst hP hw hK
  obtain⟨xs,ys,iR,mK,yH⟩:=hg
  obtain⟨oA,iW,px,_⟩:=I.list iR
  obtain⟨sS,lE,py,_⟩:=I.tuple mK
  obtain⟨h1,h2,⟨u,v,h3⟩,h4,h5⟩:=id st
  have lx:=iW.length
  have ly:=lE.length
  refine zvF (I.ok.hd hc) D h1 h2 h3 h4 h5 px.isList py ?_ fun h' hk=>⟨rfl,I.uh (t':=s.toks) (fun c o hc e=>?_) hf⟩
  ·rcases yH with h|h
   ·exact .inl (by simp;omega)
   ·exact .inr (by simp;omega)
  ·simp only [A6,Cm,or_false,not_or] at hc
   exact hk c o hc.1 hc.2.2.1 hc.2.2.2.1 hc.2.2.2.2 e
 self:=fun _ _ _ _ _ st h=>F0 st.1 h
variable {ta:TA}{X:Cx}{p0:AD}
section
def znk(K:kb)(ta:TA):TI:=fun σ H R=>ta σ H fun vs H1=>∃ a b,vs=[.ref a,.ref b]/\(∃ xs,bp K H1 a xs)/\(((∃ ys,bp K H1 b ys)/\R (xk K a b) H1)\/((∃ ys,dN K H1 b ys)/\R (zah K a b) H1))
theorem zrn{a b:Av}{p:AD}(hg:Gl X "zip") (hm:X.mg "zip"=none) (ha:PA X [a,b] ta) (hs:Aw [a,b] X.env=[(false,AB a X.env),(false,AB b X.env)]:=by rfl) (cK:Aw [b] X.env=[(false,AB b X.env)]:=by rfl) :
  PI X (.Tuple es k p0) (.Call (.Name "zip" p) [a,b] [] pos) (znk X.K ta):=by
 intro pins s σ H R I h
 refine Call_ (oB I hg hm (by decide +kernel:Bo "zip"=some (.type "zip")) (E8 (aE (ha pos pins s σ H _ I h) fun us s1 ⟨vs,H1,I1,r1,q1⟩=>?_) (by rw [hs,cK]) (by rw [cK];rfl)))
 obtain⟨l1,l2,e,⟨xs,hx⟩,q⟩:=q1
 subst e
 cases r1 with
 | cons r rr =>
  cases rr with
  | cons r' rr =>
   cases rr
   cases r
   cases r'
   obtain⟨oA,iW,px,_⟩:=I1.list hx
   have hl1:Fu l1 s1.heap.objs.size:=by obtain⟨o,e,_⟩:=px.isList;exact AW e
   have q1:∀ n:Nat,l1≠s1.heap.objs.size+n:=fun n=>Ba (BD hl1 (EE _ _))
   have fin:∀ c∈[s1.heap.objs.size+4,s1.heap.objs.size+2,s1.heap.objs.size+3,s1.heap.objs.size,s1.heap.objs.size+1],gw X pins H1 c:=fun c hc=>by
    have gP:s1.heap.objs.size<=c:=by
     simp only [A6,Cm,or_false] at hc
     rcases hc with rfl|rfl|rfl|rfl|rfl <;> first|exact EE _ _|exact AO _
    exact I1.j8 gP (I1.ax.fresh gP)
   have apt:∀ l2,Fu l2 s1.heap.objs.size->ZA (s1.heap.objs.size+4) (s1.heap.objs.size+2) (s1.heap.objs.size+3) s1.heap.objs.size (s1.heap.objs.size+1) l1 l2:=fun l2 jM=>by
    have q2:∀ n:Nat,l2≠s1.heap.objs.size+n:=fun n=>Ba (BD jM (EE _ _))
    constructor <;> first|exact q1 _|exact q2 _|exact q1 0|exact q2 0|exact Ba (by omega)|exact CO (by omega)
   rcases q with⟨⟨ys,hy⟩,q⟩|⟨⟨ys,hy⟩,q⟩
   ·obtain⟨sS,lE,py,_⟩:=I1.list hy
    have jM:Fu l2 s1.heap.objs.size:=by obtain⟨o,e,_⟩:=py.isList;exact AW e
    refine call_zip_2 px.isList py.isList fun h' g1 g2 g3 g4 g5 g6 hk=>?_
    exact F0 g1 ⟨_,[s1.heap.objs.size+4,s1.heap.objs.size+2,s1.heap.objs.size+3,s1.heap.objs.size,s1.heap.objs.size+1],_,_,H1,rfl,I1.kept (t':=s1.toks) hk,zi5 _ _ _ _ _ l1 l2 (apt l2 jM),⟨g1,g2,⟨_,_,g3⟩,g4,g5⟩,fin,q⟩
   ·obtain⟨sS,lE,py,_⟩:=I1.tuple hy
    have jM:Fu l2 s1.heap.objs.size:=by obtain⟨o,e,_⟩:=py;exact AW e
    refine zvB px.isList py fun h' g1 g2 g3 g4 g5 hk=>?_
    exact F0 g1 ⟨_,[s1.heap.objs.size+4,s1.heap.objs.size+2,s1.heap.objs.size+3,s1.heap.objs.size,s1.heap.objs.size+1],_,_,H1,rfl,I1.kept (t':=s1.toks) hk,zu7 _ _ _ _ _ l1 l2 (apt l2 jM),⟨g1,g2,⟨_,_,g3⟩,g4,g5⟩,fin,q⟩
end
end L2
namespace FL
open PySem L2 PySem.Spec
open PyProof.Rows hiding St
variable {es:List Av}{pos:AD}{X:Cx}{k:Nat}{fa:AF}{H:Hp}
section
def zvA:List D->R (List D)
 | [.list l,.list m]=>.ok (gu l m)
 | [.list l,.tuple m]=>.ok (gu l m)
 | _=>.bad
def zgC(fa:AF):IF:=fun ρ=>(fa ρ).bind fun x=>(zvA x.1).bind fun l=>.ok (l,x.2)
section
variable [Cs]{K:kb}{e e':Av}{p0 p:AD}
theorem zvi{a b:dm}{vs ws:List V}{l m:List D}(h:kM K H a vs)(f:ag K H l vs)(h':dU H b ws)(f':ag K H m ws):Walk K (zah K a b) (gu l m) H:=by
 refine⟨fun i d H' fz e=>?_,fun i H' fz e=>⟨vs,ws,(fz.gW h).sq,.inl (fz.rn h'),?_⟩⟩
 ·obtain⟨x,y,e1,e2,rfl⟩:=zdR e
  obtain⟨u,eu,fu⟩:=(f.mono fz).get e1
  obtain⟨v,ev,fv⟩:=(f'.mono fz).get e2
  refine⟨⟨vs,ws,u,v,(fz.gW h).sq,.inl (fz.rn h'),eu,ev⟩,fun x jF y=>?_⟩
  obtain⟨t,u',v',rfl,ht,rfl,hu,hv⟩:=y
  have ex:=hu vs (fz.gW h).sq
  rw [eu] at ex
  cases ex
  have ex:=hv ws (.inl (fz.rn h'))
  rw [ev] at ex
  cases ex
  exact⟨aC.upd ht,zbK ht fu fv⟩
 ·rw [zdS] at e
  rw [f.len,f'.len]
  omega
theorem zsv(hg:Gl X "zip") (hm:X.mg "zip"=none) (ha:du K X [e,e'] fa) (hs:Aw [e,e'] X.env=[(false,AB e X.env),(false,AB e' X.env)]:=by rfl) (cK:Aw [e'] X.env=[(false,AB e' X.env)]:=by exact FL.se rfl):hU K X (.Tuple es k p0) (.Call (.Name "zip" p) [e,e'] [] pos) (zgC fa):=.mk fun hK=>by
 subst hK
 refine(zrn hg hm (ha rfl) hs cK).weak fun σ H R=>?_
 rintro⟨ρ,rel,q⟩
 refine mF rel q fun ds ρ1 vs H1 ah aG fs q1=>?_
 obtain⟨items,ei,q2⟩:=q1.bQ
 match ds,ei,fs with
 | [.list a,.list b],ei,fs =>
  cases ei
  simp only [ag,Fz] at fs
  obtain⟨_,_,rfl,⟨l,vs,rfl,sx,f⟩,_,_,rfl,⟨l',jA,rfl,oX,f'⟩,rfl⟩:=fs
  exact⟨l,l',rfl,⟨vs,sx.sq⟩,.inl ⟨⟨jA,oX.sq⟩,q2.now ah _ (zji sx f oX f')⟩⟩
 | [.list a,.tuple b],ei,fs =>
  cases ei
  simp only [ag,Fz] at fs
  obtain⟨_,_,rfl,⟨l,vs,rfl,sx,f⟩,_,_,rfl,⟨l',jA,rfl,oX,f'⟩,rfl⟩:=fs
  exact⟨l,l',rfl,⟨vs,sx.sq⟩,.inr ⟨⟨jA,.inl oX⟩,q2.now ah _ (zvi sx f oX f')⟩⟩
end
end
section
def zey:D->D->R D
 | .list a,.list b=>aR (leB (a.length+b.length) lim) (.ok (.list (a++b)))
 | _,_=>.bad
end
end FL
namespace FL
open PySem
end FL
namespace L2
open PySem PySem.Spec PyProof.Rows
end L2
namespace FL
open PySem L2 PySem.Spec
open PyProof.Rows hiding St
variable [Cs]
end FL
namespace L2
open PySem PySem.Spec PyProof.Rows
end L2
namespace FL
open PySem L2 PySem.Spec
open PyProof.Rows hiding St
section
variable [Cs]
end
section
def zdX(dom:List Nat):Nat->En->En->Prop
 | _,[],[]=>True
 | k,x0::r0,x::r=>((k∈dom/\∀ p c,x≠.ow p c)\/(x=x0/\∀ p c,x≠.ow p c)\/(k∉dom/\∃(p:Bool) (ns:List Int),x=.ow p (.list (ns.map Bi))))/\zdX dom (k+1) r0 r
 | _,_,_=>False
open Classical in
noncomputable def zvN(dom:List Nat)(ρ0:En):SF:=fun ρ=>if zdX dom 0 ρ0 ρ/\∀ k∈dom,k<ρ.length then .ok (.nx,kill dom ρ) else .bad
def LL2(d:D):Prop:=∃ rows:List (List D),rows.length<=1000/\d=.list (rows.map C3)
open Classical in
noncomputable def zvP(i:Nat)(f:EF)(t:SF):SF:=fun ρ=>(f ρ).bind fun y=>if LL2 y.1 then(gN i y.1 y.2).bind t else .bad
variable [Cs]
end
section
mutual
def flat:D->Bool
 | .list _=>false
 | .dict _=>false
 | .tuple xs=>zbG xs
 | _=>true
def zbG:List D->Bool
 | []=>true
 | d::r=>flat d&&zbG r
end
def zmm:Sl->Bool
 | .val d=>flat d
 | .ob _ ds=>zbG ds
 | _=>false
def zhK:Sl->Bool
 | .ow _ _=>false
 | _=>true
def znr:Sl->Bool
 | .ow _ (.list l)=>(intsOf l).isSome
 | _=>false
def E3(dead dom:List Nat):Nat->En->En->Prop
 | _,[],[]=>True
 | k,x0::r0,x::r=>((k∈dead/\zhK x=true)\/(k∉dead/\(x=.no\/(x=x0/\k∉dom/\zhK x=true)\/zmm x=true\/znr x=true)))/\E3 dead dom (k+1) r0 r
 | _,_,_=>False
open Classical in
noncomputable def zvM(dead dom:List Nat)(t:SF)(ρ0:En):SF:=fun ρ=>if E3 dead dom 0 ρ0 ρ/\∀ k∈dead,k<ρ.length then t (kill dead ρ) else .bad
variable [Cs]
end
variable {base:Az}{C Ca f:dm}{p1 p2' p3 pos:AD}{j k n p2:Nat}{E:XK}{ns ps:List ib}{n0 q x:ib}{dom:List Nat}{P:AK}{c:String}{X:Cx}{b:SF}{it:IF}{e:Av}{fd:A9}{w:AJ}{g:EF}{body:List AQ}{mg:ib->Option gV}
section
section
variable [Cs]{K:kb}
theorem zrR{st:List AQ}:jG K X E st e8:=.mk fun _ C=>fun _ _ _ _ _ _ ⟨_,_,g⟩=>g.elim
theorem zrN{tg:Av}{g:GF}(hi:hU K X tg e it)(hg:hJ K X dom tg g)(hb:jG K X E body b)(hp:Es (Ay X.prog X.w) X.A X.env X.xe:=by exact PassesOwn.leaving)(hc:X.calm=true:=by rfl)(hs:∀ x,CA e X.env x=pure x:=by intro _;rfl) :
  pZ K X E (.For tg e body [] pos) (c7 (vO it) (qw g) b):=zrM hp hc hi hg hb hs
end
abbrev CTX[Cs](x:ib)(k:Nat)(ps:List ib)(ks:List (Option String))(fr:Bool)(G:List D->R D)(P:AK)(w:AJ)(K:kb)(mg:ib->Option gV)(base:Az):Prop:=Callee P w K mg base x k ps (ub K ks fr G)
abbrev zdU[Cs](c:String)(m:ib)(k:Nat)(ps:List ib)(ks:List (Option String))(G:List D->R D)(P:AK)(w:AJ)(K:kb)(mg:ib->Option gV)(base:Az):Prop:=zd0 P w K mg base c m k ps ks G
abbrev CTC[Cs](x:ib)(k:Nat)(ps:List ib)(ks:List (Option String))(G:List D->R (Option (String×List D)))(P:AK)(w:AJ)(K:kb)(mg:ib->Option gV)(base:Az):Prop:=Callee P w K mg base x k ps (spC K ks G)
abbrev CTK[Cs](x:ib)(k:Nat)(ps:List ib)(G:String->List D->R D)(P:AK)(w:AJ)(K:kb)(mg:ib->Option gV)(base:Az):Prop:=Callee P w K mg base x k ps (spK K G)
section
variable [Cs]{K:kb}{st:AQ}
theorem fnE(ks:List (Option String))(fr:Bool)(N:List ib)(h:aH K mg x st)
  (hb:∀{f:dm} {av:gV} {A:AR} {outer:List AY} {s:ir} {H:Hp} {E:XK},aQ k (A.deeper (BG x (aM st) s.heap.objs.size f av))->N.Nodup->jG K (dB (bE P w) P w K mg base N x (aM st) f av A outer s H E) E (bZ st) b)
  (S:eY N ps (aM st):=by exact⟨rfl,rfl,rfl,by decide +kernel,rfl,by decide +kernel,by decide +kernel⟩)(dY:ps.length=ks.length:=by rfl)(fo:ps.length<=N.length:=by decide)
  (fY:∀(kV doc pm:gV) (an:Option dm) (av ct:gV) (us:List gV),us.length=ps.length->CU (BX x x (fU st) (bZ st) (aM st) .none kV doc pm an av ct) ⟨us,[]⟩=pure (ps.zip us):=by
   first
    | exact fun _ _ _ _ _ _ us hl=>match us,hl with | [_],_=>rfl
    | exact fun _ _ _ _ _ _ us hl=>match us,hl with | [_,_],_=>rfl
    | exact fun _ _ _ _ _ _ us hl=>match us,hl with | [_,_,_],_=>rfl
    | exact fun _ _ _ _ _ _ us hl=>match us,hl with | [_,_,_,_],_=>rfl):CTX x (k+1) ps ks fr (kE ks fr N.length b) P w K mg base:=by
 obtain⟨f,fd,hm,F⟩:=h
 exact⟨f,fd,hm,F.kp,F.binds fY,zge ks fr F S dY fo fun av A outer s H E hr=>hb hr S.nd⟩
theorem zmn(ks:List (Option String))(N:List ib)(B:Ob K c C ns)(M:Meth K C x f)(F:cM K x q st f fd)
  (hb:∀{f:dm} {av:gV} {A:AR} {outer:List AY} {s:ir} {H:Hp} {E:XK},aQ k (A.deeper (BG q (aM st) s.heap.objs.size f av))->N.Nodup->jG K (dB (bE P w) P w K mg base N q (aM st) f av A outer s H E) E (bZ st) b)
  (hx:x∉ns:=by decide)(S:eY N ps (aM st):=by exact⟨rfl,rfl,rfl,by decide +kernel,rfl,by decide +kernel,by decide +kernel⟩)(dY:ps.length=ks.length+1:=by rfl)(fo:ps.length<=N.length:=by decide)
  (fY:∀(kV doc pm:gV) (an:Option dm) (av ct:gV) (us:List gV),us.length=ps.length->CU (BX x q (fU st) (bZ st) (aM st) .none kV doc pm an av ct) ⟨us,[]⟩=pure (ps.zip us):=by
   first
    | exact fun _ _ _ _ _ _ us hl=>match us,hl with | [_],_=>rfl
    | exact fun _ _ _ _ _ _ us hl=>match us,hl with | [_,_],_=>rfl
    | exact fun _ _ _ _ _ _ us hl=>match us,hl with | [_,_,_],_=>rfl):zdU c x (k+1) ps ks (kE (some c::ks) false N.length b) P w K mg base :=
 ⟨C,f,ns,fd,B.o,hx,B.c,M,F.binds fY,zge (some c::ks) false F S (by rw [dY];rfl) fo fun av A outer s H E hr=>hb hr S.nd⟩
theorem fnC(i j:Nat)(ks:List (Option String))(N:List ib)(h:aH K mg x st)(sO:∀ c B ns,Cs.X c=some (B,ns)->C1 K (.ref B) (.ref Ca)=some true)
  (hb:∀{f:dm} {av:gV} {A:AR} {outer:List AY} {s:ir} {H:Hp} {E:XK},aQ k (A.deeper (BG x (aM st) s.heap.objs.size f av))->N.Nodup->bW (dB (bE P w) P w K mg base N x (aM st) f av A outer s H E) (bZ st) (tCt K Ca i j g))
  (S:eY N ps (aM st):=by exact⟨rfl,rfl,rfl,by decide +kernel,rfl,by decide +kernel,by decide +kernel⟩)(dY:ps.length=ks.length:=by rfl)(hi:i<N.length:=by decide)(hj:j<N.length:=by decide)(eI:i≠j:=by decide)(hpi:ps.length<=i:=by decide)
  (fY:∀(kV doc pm:gV) (an:Option dm) (av ct:gV) (us:List gV),us.length=ps.length->CU (BX x x (fU st) (bZ st) (aM st) .none kV doc pm an av ct) ⟨us,[]⟩=pure (ps.zip us):=by
   first
    | exact fun _ _ _ _ _ _ us hl=>match us,hl with | [_],_=>rfl
    | exact fun _ _ _ _ _ _ us hl=>match us,hl with | [_,_],_=>rfl
    | exact fun _ _ _ _ _ _ us hl=>match us,hl with | [_,_,_],_=>rfl
    | exact fun _ _ _ _ _ _ us hl=>match us,hl with | [_,_,_,_],_=>rfl):CTC x (k+1) ps ks (runC ks N.length g) P w K mg base:=by
 obtain⟨f,fd,hm,F⟩:=h
 exact⟨f,fd,hm,F.kp,F.binds fY,zmp ks F S dY sO hi hj eI hpi fun av A outer s H E hr=>hb hr S.nd⟩
theorem fnK(N:List ib)(h:aH K mg x st)
  (hb:∀{f:dm} {av:gV} {A:AR} {outer:List AY} {s:ir} {H:Hp} {E:XK},aQ k (A.deeper (BG x (aM st) s.heap.objs.size f av))->N.Nodup->eO K (dB (bE P w) P w K mg base N x (aM st) f av A outer s H E).cF (bZ st) b)
  (S:eY N [n0] (aM st):=by exact⟨rfl,rfl,rfl,by decide +kernel,rfl,by decide +kernel,by decide +kernel⟩)(fo:1<=N.length:=by decide)
  (fY:∀(kV doc pm:gV) (an:Option dm) (av ct:gV) (us:List gV),us.length=[n0].length->CU (BX x x (fU st) (bZ st) (aM st) .none kV doc pm an av ct) ⟨us,[]⟩=pure ([n0].zip us):=by
   exact fun _ _ _ _ _ _ us hl=>match us,hl with | [_],_=>rfl):CTK x (k+1) [n0] (runK N.length b) P w K mg base:=by
 obtain⟨f,fd,hm,F⟩:=h
 exact⟨f,fd,hm,F.kp,F.binds fY,zms F S fo fun av A outer s H E hr=>zL (hb hr S.nd)⟩
theorem zkl{xe cn n:ib}{p4 p5 p6 p7 p8 p9 p10 p11 p12:AD}{i:Nat}(hK:X.K=K)(hCa:lL X.K Ca)(hm:X.mg cn=some (.ref Ca))(he:PVX K X false e g)(nd:X.N.Nodup)(hi:X.N[i]?=some xe:=by rfl)(hj:X.N[j]?=some n:=by rfl)(hl:X.env.scope.names.lookup n=some .local:=by rfl)(hxe:Loc X.env.scope xe:=by exact Dg rfl)(bV:X.stack=X.env::X.outer:=by rfl)(eS:X.env.frame=some X.env.locals:=by rfl)(hg:Gl X cn:=by rfl)
  (hvj:∀ e,PE (uZ X e) (.Name n p7) (bL j):=by intro _;exact pv _)(vN:PE X (.Name xe p11) (bL i):=by exact pv _)(hd:(cn==("__debug__":ib))=false:=by decide) (iS:Bx (.Constant .none p2 p2') (some (.Name xe p1)) p3.line X.env=pure false:=by rfl) (cK:Bx (.Name n p7) (some (.Name xe p6)) p8.line X.env=pure false:=by rfl) (hs3:Bx e none p4.line X.env=pure false:=by rfl) (hf:X.fn xe=true:=by rfl) :
  bW X [.Assign [.Name xe p1] (.Constant .none p2 p2') p3,.Try [.Expr e p4] [.ExceptHandler (some (.Name cn p5)) (some n) [.Assign [.Name xe p6] (.Name n p7) p8] p9] [] [] p10,.Return (some (.Name xe p11)) p12] (tCt K Ca i j g):=by
 subst hK
 exact tR (qX nd hi hxe zhX iS (.inl hf)) (tR (zrJ hCa bV eS (zrZ (he.run rfl) hs3) hg hm nd hj hl (fun e=>tU (qX (X:=uZ X e) nd hi hxe (hvj e) cK (.inl hf))) hd) (tU (zB vN)))
end
end
variable {fa:AF}{ks:List (Option String)}{G:List D->R D}{es:List Av}
section
def zdZ[Cs](P:AK)(w:AJ)(K:kb)(mg:ib->Option gV)(base:Az)(c:String)(m:ib)(k:Nat)(ps:List ib)(ks:List (Option String))(G:List D->R D):Prop :=
 ∃(C f:dm) (ns:List ib) (fd:A9),Cs.O c=some (C,ns)/\m∉ns/\gv K C/\Meth K C m f/\Binds K fd ps []/\cA P w K mg base (bE P w) k f fd ps (spO K (some c::ks) true G)
abbrev zdV[Cs](c:String)(m:ib)(k:Nat)(ps:List ib)(ks:List (Option String))(G:List D->R D)(P:AK)(w:AJ)(K:kb)(mg:ib->Option gV)(base:Az):Prop:=zdZ P w K mg base c m k ps ks G
section
variable [Cs]{K:kb}{m:ib}{px apos:AD}
theorem zH{pl:Sem Bool}(i:Nat)(M:zdZ X.prog X.w X.K X.mg X.base c m k ps ks G)(hr:aQ j X.A)(ha:ja K X ks (e::es) fa)(hv:PE X (.Name x px) (bL i):=by exact pv _)(hj:k<=j:=by decide)
  (bV:Aw (e::es) X.env=(false,AB e X.env)::Aw es X.env:=by exact FL.se rfl)(aX:(A7 pos (Aw es X.env)).any (·.1)=false:=by exact FL.sp rfl)
  (ht:AB (.Call (.Attribute (.Name x px) m apos) (e::es) [] pos) X.env=(do
   let ov <- AB (.Name x px) X.env
   Ep apos.atName
   let(f,first) <- C8 [ov] (Fc ov m pl)
   FR pos f first (A7 pos (Aw (e::es) X.env)) (Fg pos (Fh [] X.env))):=by rfl) :
  bg K X (.Call (.Attribute (.Name x px) m apos) (e::es) [] pos) (ak G (fE i c fa)):=.mk fun hK=>by
 subst hK
 obtain⟨C,f,ns,fd,ho,hm,hc,me,hb,F⟩:=M
 refine(zq2 hv hc me F (hr.mono hj) hb .nil (qT (X:=X)) (ha rfl) bV aX ht).weak fun σ H Q=>?_
 rintro⟨ρ,rel,q⟩
 obtain⟨a,ds,y,e1,e2,o,ey,q0⟩:=zmU rel q
 obtain⟨C',cU,dx,jA,h1,h2,h3,h4⟩:=Il o fun⟨_,_,_,z,_⟩=>by rw [ho] at z;cases z
 rw [ho] at h1
 cases h1
 refine⟨.ref a,e2,a,dx,ns.zip jA,rfl,h2,zcP hm,ρ,rel,?_⟩
 rw [ey]
 intro H1 ah aG vs fs
 obtain⟨d,ed,q2⟩:=(q0.step aG).bQ
 rw [CV]
 refine⟨.tuple ds::y.1,ah.cst,⟨.ref a,vs,rfl,gA.mono (x:=.ob c ds) (aG.cJ rel) (fun a _ ⟨p,d',z⟩=>nomatch z) o,fs⟩,d,ed,fun v H' s fin=>?_⟩
 obtain⟨b,rfl,nY,m'⟩:=fin
 exact q2.new ah s b (aG.none ah nY) m'
end
section
variable [Cs]{K:kb}{st:AQ}
theorem zmo(ks:List (Option String))(N:List ib)(B:Ob K c C ns)(M:Meth K C x f)(F:cM K x q st f fd)
  (hb:∀{f:dm} {av:gV} {A:AR} {outer:List AY} {s:ir} {H:Hp} {E:XK},aQ k (A.deeper (BG q (aM st) s.heap.objs.size f av))->N.Nodup->eO K (dB (bE P w) P w K mg base N q (aM st) f av A outer s H E).cF (bZ st) b)
  (hx:x∉ns:=by decide)(S:eY N ps (aM st):=by exact⟨rfl,rfl,rfl,by decide +kernel,rfl,by decide +kernel,by decide +kernel⟩)(dY:ps.length=ks.length+1:=by rfl)(fo:ps.length<=N.length:=by decide)
  (fY:∀(kV doc pm:gV) (an:Option dm) (av ct:gV) (us:List gV),us.length=ps.length->CU (BX x q (fU st) (bZ st) (aM st) .none kV doc pm an av ct) ⟨us,[]⟩=pure (ps.zip us):=by
   first
    | exact fun _ _ _ _ _ _ us hl=>match us,hl with | [_],_=>rfl
    | exact fun _ _ _ _ _ _ us hl=>match us,hl with | [_,_],_=>rfl
    | exact fun _ _ _ _ _ _ us hl=>match us,hl with | [_,_,_],_=>rfl):zdV c x (k+1) ps ks (kE (some c::ks) true N.length b) P w K mg base :=
 ⟨C,f,ns,fd,B.o,hx,B.c,M,F.binds fY,zmt (some c::ks) true F S (by rw [dY];rfl) fo fun av A outer s H E hr=>zL (hb hr S.nd)⟩
end
end
variable {α:Type}{es:Array C4}{fI:dm}
section
theorem zmb[Cs]{K:kb}{sn n1 f:ib}{st:AQ}{p0 p2:AD}(hm:mg x=some (.ref C))(hO:Cs.O c=none)(hX:Cs.X c=some (C,[f]))
  (ec:gO K C fI gB "ValueError.__new__"=true\/gO K C fI gB "Exception.__new__"=true) (hf:DI K (.ref fI)=true) (F:cM K "__init__" q st fI fd) (hC:jX K C) (na:eZ K C f)
  (bV:bZ st=[.Assign [.Attribute (.Name sn p0) f p1] (.Name n1 p2) p3]) (S:eY [sn,n1] [sn,n1] (aM st))
  (h0:∀(av:gV) (A:AR) (outer:List AY) (s:ir) (H:Hp) (E:XK),PE (dB lK P w K mg base [sn,n1] q (aM st) fI av A outer s H E).cF (.Name sn p0) (bL 0))
  (h1:∀(av:gV) (A:AR) (outer:List AY) (s:ir) (H:Hp) (E:XK),PE (dB lK P w K mg base [sn,n1] q (aM st) fI av A outer s H E).cF (.Name n1 p2) (bL 1))
  (fY:∀(kV doc pm:gV) (an:Option dm) (av ct:gV) (us:List gV),us.length=[sn,n1].length->CU (BX "__init__" q (fU st) (bZ st) (aM st) .none kV doc pm an av ct) ⟨us,[]⟩=pure ([sn,n1].zip us)):wX P w K mg base x c f 1:=by
 obtain⟨oc,od,kV,doc,pm,an,av,ct,il,e,lk,fi⟩:=id F.ex
 exact⟨C,fI,fd,[sn,n1],_,hm,hO,hX,ec,hf,lk,zmc hC na F bV S h0 h1,F.binds fY⟩
theorem cR{Φ:α->Prop}{a:α}{l:List α}(h:Φ a)(t:∀ p∈l,Φ p):∀ p∈a::l,Φ p:=List.forall_mem_cons.mpr ⟨h,t⟩
theorem cQ{Φ:α->Prop}:∀ p∈([]:List α),Φ p:=fun _ z=>nomatch z
end
variable {b c1:gV}{r:Bool}{col:Option Bool}{sn:List ib}{s1:Array (Option gV)}{ep:Nat}
section
section
variable {K:kb}{S ns:dm}{oo d1:Option dm}{nm qn:ib}{bs sub:List gV}{hd ab:Bool}{k0 k1 k2 k3 k5:Option gV}{nw n':String}
abbrev ErO(C S ns:dm)(oo:Option dm)(nm qn:ib)(bs sub:List gV)(hd ab:Bool)(sn:List ib)(col:Option Bool)(k0 k1 k2 k3 k5:Option gV)(nw:String):AA :=
 ⟨.type "type",oo,.cls ⟨nm,bs,[.ref C,.ref S,.type "ValueError",.type "Exception",.type "BaseException",.type "object"],ns,qn,hd,sn,sub,ab,col,false⟩,#[k0,k1,k2,k3,some (.builtin nw),k5]⟩
theorem zuR(h:Gh K S gB n'=true):FC K gB (.ref S::gB)=true:=by
 unfold Gh at h
 unfold FC
 rw [F3]
 right
 split at h
 ·rename_i ho
  split at h
  ·simp only [Bs] at h
   dsimp only
   rw [ho]
   simp only [Bs]
   exact⟨⟨h.1.2,h.2⟩,rfl⟩
  ·cases h
 ·cases h
theorem zf9(hS:Gh K S gB n'=true)(lk:K.lookup C=some (ErO C S ns oo nm qn bs sub hd ab sn col k0 k1 k2 k3 k5 nw))(ln:K.lookup ns=some ⟨c1,d1,.dict es ep,s1⟩)(hes:(es.toList.all fun e=>match e.key with | .str _ _=>true|_=>false)=true)(hi:AZ K ns "__init__"=some (some (.ref fI))):gO K C fI gB nw=true:=by
 unfold gO
 rw [lk]
 have h1:FD K ns=true:=by unfold FD;rw [ln];exact(Array.all_toList (p:=fun e:C4=>match e.key with | .str _ _=>true|_=>false)).symm.trans hes
 simp only [Bs,h1,hi,zuR hS,beq_self_eq_true,Dj,and_self]
theorem zkV(lk:K.lookup C=some (ErO C S ns oo nm qn bs sub hd ab sn col k0 k1 k2 k3 k5 nw)):(B9 K C).isSome=true/\((B9 K C).any fun cd=>tJ cd.mro)=true:=by
 unfold B9
 rw [lk]
 exact⟨rfl,rfl⟩
theorem zfy(e:C1 K (.ref C) b=some r):(B9 K C).isSome=true:=by
 obtain⟨cd,e1,_⟩:=CK.mp (show(B9 K C).bind _=some r from e)
 rw [e1];rfl
theorem zqE(h:nw="ValueError.__new__"\/nw="Exception.__new__") (e:gO K C fI gB nw=true):gO K C fI gB "ValueError.__new__"=true\/gO K C fI gB "Exception.__new__"=true:=by
 rcases h with rfl|rfl
 ·exact .inl e
 ·exact .inr e
end
end
end FL
namespace K10
open PySem FL
def zeU:SF:=(az (dQ (e1 (dZ "int") (eV 0)) (jg (e1 (dZ "bool") (eV 0)))))
def nB:List D->R D:=aW false 1 1 zeU
def zjg:SF:=(rk (oU 3) (tB (e2 b9 (eV 3) (eC (.int 0)))) (de 2 3 (eV 3) (e2 gf (eV 2) (eV 3))))
def zeS:SF:=(aw (de 2 3 (e1 j3 (eV 0)) (e1 j3 (eV 1)))
  (aw zjg
  (az (eV 2))))
def rO:List D->R D:=aW false 2 4 zeS
def zdy:EF:=(eR 1 [] (iE (eV 0)) (gN 0) dq (e2 dR (eV 0) (eC (.tuple [(.int 0),(.int 1)]))))
def xW:SF:=(az (e1 r6 zdy))
def uw:List D->R D:=aW false 1 1 xW
def zeN:SF:=(aw (aF (gN 2) (e2 ay (e2 ay (e2 bf (e2 ay (e2 gf (eV 0) (e2 ay (e2 dH (eC (.int 10)) (eC (.int 18))) (eC (.int 9)))) (e2 bf (eC (.int 7)) (eV 1))) (eC (.int 739108512309184756019283746561))) (e2 bf (eC (.int 7919)) (eV 1))) (eC (.int 1))))
  (aw (aF (gN 2) (e2 gf (e2 bf (eV 2) (eV 2)) (e2 ay (e2 dH (eC (.int 10)) (eC (.int 60))) (eC (.int 7)))))
  (az (e2 gf (e2 bf (e2 ay (eV 2) (eC (.int 40503))) (e2 ay (eV 2) (eC (.int 57)))) (e2 ay (e2 dH (eC (.int 10)) (eC (.int 60))) (eC (.int 7)))))))
def zab:List D->R D:=aW false 2 3 zeN
def zeI:SF:=(aw (aN (tB (e2 f9 (eV 1) (e1 dh (eV 0)))) (az (e2 au (eV 0) (eV 1))) aO)
  (az (e2 ay (e2 bf (eC (.int 3)) (eV 1)) (eC (.int 1)))))
def wZ:List D->R D:=aW false 2 2 zeI
def zjf:SF:=(rk (oU 3) (tB (e2 b9 (eV 3) (eC (.int 0)))) (de 2 3 (eV 3) (e2 gf (eV 2) (eV 3))))
def zeM:SF:=(aw (aF (gN 2) (e1 j3 (eV 0)))
  (aw (aF (gN 3) (eV 1))
  (aw zjf
  (az (aP (aa (e2 bH (eV 0) (eV 2)) (aa (e2 bH (eV 1) (eV 2)) af)))))))
def jY:List D->R D:=aW false 2 4 zeM
def zeO:SF:=(az (aP (aa (e2 eL (eC (.int 0)) (e2 au (eV 0) (eC (.int 0)))) (aa (e2 au (eV 0) (eC (.int 1))) af))))
def nA:List D->R D:=aW false 1 1 zeO
def zeL:SF:=(az (dQ (e1 (dZ "int") (eV 0)) (jg (e1 (dZ "bool") (eV 0)))))
def xa:List D->R D:=aW false 1 1 zeL
def zdx:EF:=(eR 1 [1] (eT (aa (eV 0) af)) (gN 0) dq (aP (aa (e1 intD (e2 dR (eV 0) (eV 1))) (aa (eC (.int 1)) af))))
def xV:SF:=(az zdx)
def uv:List D->R D:=aW false 2 2 xV
def zdv:EF:=(eR 1 [] (eT (aa (eV 0) af)) (gN 0) dq (aP (aa (eC (.int 0)) (aa (eC (.int 1)) af))))
def xO:SF:=(az zdv)
def uo:List D->R D:=aW false 1 1 xO
def zit:EF:=(eR 1 [] (iE (eV 1)) (gN 0) dq (e1 intD (eV 0)))
def zeK:SF:=(aw (aF (gN 1) (aZ (aa (cP 0 [("NoRow",false)]) (aa (cP 0 [("NoRow",false)]) (aa (cP 0 [("NoRow",false)]) af)))))
  (aw (aF (gN 1) (e2 ay (eV 1) (aZ (aa (cP 0 [("NoRow",false)]) (aa (cP 0 [("NoRow",false)]) (aa (cP 0 [("NoRow",false)]) af))))))
  (aw (aF (gN 1) (e2 ay (eV 1) (aZ (aa (cP 0 [("NoRow",false)]) (aa (cP 0 [("NoRow",false)]) (aa (cP 0 [("NoRow",false)]) af))))))
  (aw (aF (gN 1) (e2 ay (eV 1) (aZ (aa (cP 0 [("NoRow",false)]) (aa (cP 0 [("NoRow",true)]) (aa (cP 0 [("NoRow",false)]) af))))))
  (aw (aF (gN 1) (e2 ay (eV 1) (aZ (aa (cP 0 [("NoRow",false)]) (aa (cP 0 [("NoRow",false)]) (aa (cP 0 [("NoRow",false)]) af))))))
  (aw (aF (gN 1) (e2 ay (eV 1) (aZ (aa (cP 0 [("NoRow",false)]) (aa (cP 0 [("NoRow",false)]) (aa (cP 0 [("NoRow",false)]) af))))))
  (aw (aF (gN 1) (e2 ay (eV 1) (aZ (aa (cP 0 [("NoRow",false)]) (aa (cP 0 [("NoRow",false)]) (aa (cP 0 [("NoRow",false)]) af))))))
  (aw (aF (gN 1) (e2 ay (eV 1) (aZ (aa (cP 0 [("NoRow",false)]) (aa (cP 0 [("NoRow",false)]) (aa (cP 0 [("NoRow",false)]) af))))))
  (aw (aF (gN 1) (e2 ay (eV 1) (aZ (aa (cP 0 [("NoRow",false)]) (aa (cP 0 [("NoRow",false)]) (aa (cP 0 [("NoRow",false)]) af))))))
  (aw (aN (FL.bG (FL.bh (tE (cP 0 [("NoRow",true)]))) (FL.bG (FL.bh (tE (cP 0 [("NoRow",true)]))) (tB (e2 b9 (e1 ziP zit) (eC (.int 1)))))) (az (eC (.str ""))) aO)
  (aw (aF (gN 2) (aZ (aa (eC (.str "Broken")) (aa (eC (.str "NoCount")) (aa (eC (.str "NoDeed")) (aa (eC (.str "NoLeast")) (aa (eC (.str "NoLine")) (aa (eC (.str "NoMatch")) (aa (eC (.str "NoName")) (aa (eC (.str "NoNumber")) (aa (eC (.str "NoPair")) af)))))))))))
  (aw (aF (gN 2) (e2 ay (eV 2) (aZ (aa (eC (.str "NoPlace")) (aa (eC (.str "NoRow")) (aa (eC (.str "NoShelf")) (aa (eC (.str "NoSquare")) (aa (eC (.str "NoSum")) (aa (eC (.str "NoText")) (aa (eC (.str "NoTree")) (aa (eC (.str "NoWord")) (aa (eC (.str "NotActing")) af))))))))))))
  (aw (aF (gN 2) (e2 ay (eV 2) (aZ (aa (eC (.str "NotBare")) (aa (eC (.str "NotEaten")) (aa (eC (.str "NotFree")) (aa (eC (.str "NotGap")) (aa (eC (.str "NotKept")) (aa (eC (.str "NotNought")) (aa (eC (.str "NotOne")) (aa (eC (.str "TooDeep")) af)))))))))))
  (az (e2 au (e2 ay (eV 2) (aZ (aa (eC (.str "TooLong")) af))) (e2 zgM (eV 1) (eC (.bool true))))))))))))))))))
def rM:String->List D->R D:=runK 3 zeK
def zeT:SF:=(aw (aN (FL.bG (FL.bh (tE (e1 (dZ "tuple") (eV 0)))) (tB (e2 b9 (e1 dh (eV 0)) (eC (.int 2))))) (az (eC (.bool false))) aO)
  (aw (aF (gT [(gN 1),(gN 2)]) (eV 0))
  (aw (aN (FL.bG (FL.bh (tE (ak nB (aa (eV 1) af)))) (FL.bG (FL.bh (tE (ak nB (aa (eV 2) af)))) (tB (e2 f9 (eV 2) (eC (.int 1)))))) (az (eC (.bool false))) aO)
  (az (e2 dR (ak rO (aa (eV 1) (aa (eV 2) af))) (eC (.int 1)))))))
def kK:List D->R D:=aW false 1 3 zeT
def zeW:SF:=(aw (aF (gN 2) (ak rO (aa (e2 au (eV 0) (eC (.int 1))) (aa (e2 au (eV 1) (eC (.int 1))) af))))
  (aw (de 3 4 (e2 bH (e2 au (eV 0) (eC (.int 1))) (eV 2)) (e2 bH (e2 au (eV 1) (eC (.int 1))) (eV 2)))
  (aw (aF (gN 5) (e2 ay (e2 bf (e2 au (eV 0) (eC (.int 0))) (eV 4)) (e2 bf (e2 au (eV 1) (eC (.int 0))) (eV 3))))
  (aw (aF (gN 6) (ak rO (aa (eV 5) (aa (eV 2) af))))
  (az (aP (aa (e2 bH (eV 5) (eV 6)) (aa (e2 bf (eV 3) (e2 bH (e2 au (eV 1) (eC (.int 1))) (eV 6))) af))))))))
def uD:List D->R D:=aW false 2 7 zeW
def zeY:SF:=(aw (de 2 3 (ak rO (aa (e2 au (eV 0) (eC (.int 0))) (aa (e2 au (eV 1) (eC (.int 1))) af))) (ak rO (aa (e2 au (eV 1) (eC (.int 0))) (aa (e2 au (eV 0) (eC (.int 1))) af))))
  (az (aP (aa (e2 bf (e2 bH (e2 au (eV 0) (eC (.int 0))) (eV 2)) (e2 bH (e2 au (eV 1) (eC (.int 0))) (eV 3))) (aa (e2 bf (e2 bH (e2 au (eV 0) (eC (.int 1))) (eV 3)) (e2 bH (e2 au (eV 1) (eC (.int 1))) (eV 2))) af)))))
def kL:List D->R D:=aW false 2 4 zeY
def zau:SF:=(az (dQ (ak nB (aa (eV 0) af)) (iF oC f9 (eC (.int 0)) (eV 0) (eV 1))))
def uz:List D->R D:=aW false 2 2 zau
def zeQ:SF:=(aw (aN (tB (e2 mE (eV 0) (e2 dH (eC (.int 10)) (eC (.int 18))))) (fQ (aZ (aa (e2 eL (eV 0) (e2 dH (eC (.int 10)) (eC (.int 18)))) (aa (eC (.int 0)) (aa (eV 1) af))))) aO)
  (fQ (aZ (aa (ak zab (aa (eV 0) (aa (eV 1) af))) (aa (eC (.int 0)) (aa (e2 ay (e2 gf (eV 0) (e2 ay (e2 dH (eC (.int 10)) (eC (.int 18))) (eC (.int 9)))) (eV 1)) af))))))
def zac:List D->R D:=aW true 2 2 zeQ
def zeR:SF:=(aw (aN (tB (e2 f9 (m2 au 0 (eC (.int 0))) (eV 1))) (aw (setM 0 (e2 ay (m2 au 0 (eC (.int 1))) (eC (.int 1))) (eC (.int 1)))
  (setM 0 (e2 ay (m2 au 0 (eC (.int 0))) (e2 bf (eV 1) (ak zab (aa (m2 au 0 (eC (.int 2))) (aa (e2 ay (e2 bf (eC (.int 11)) (m2 au 0 (eC (.int 1)))) (eC (.int 5))) af))))) (eC (.int 0)))) aO)
  (aw (aF (gN 2) (e2 gf (m2 au 0 (eC (.int 0))) (eV 1)))
  (aw (setM 0 (e2 bH (m2 au 0 (eC (.int 0))) (eV 1)) (eC (.int 0)))
  (az (eV 2)))))
def bT:List D->R (D×List D):=run [true,false] false 3 zeR
def zeP:SF:=(az (ak jY (aa (e2 ay (e2 bf (e2 au (eV 0) (eC (.int 0))) (e2 au (eV 1) (eC (.int 1)))) (e2 bf (e2 au (eV 1) (eC (.int 0))) (e2 au (eV 0) (eC (.int 1))))) (aa (e2 bf (e2 au (eV 0) (eC (.int 1))) (e2 au (eV 1) (eC (.int 1)))) af))))
def rN:List D->R D:=aW false 2 2 zeP
def zeJ:SF:=(az (ak jY (aa (e2 bf (e2 au (eV 0) (eC (.int 0))) (e2 au (eV 1) (eC (.int 0)))) (aa (e2 bf (e2 au (eV 0) (eC (.int 1))) (e2 au (eV 1) (eC (.int 1)))) af))))
def lM:List D->R D:=aW false 2 2 zeJ
def xR:SF:=(aw (aN (FL.bG (FL.bh (tE (e1 (dZ "tuple") (eV 0)))) (tB (e2 b9 (e1 dh (eV 0)) (eC (.int 2))))) (az (eC (.bool false))) aO)
  (aw (aN (FL.bG (FL.bh (tE (ak xa (aa (e2 au (eV 0) (eC (.int 0))) af)))) (FL.bh (tE (ak xa (aa (e2 au (eV 0) (eC (.int 1))) af))))) (az (eC (.bool false))) aO)
  (az (dQ (e2 mE (e2 au (eV 0) (eC (.int 1))) (eC (.int 1))) (e2 dR (ak jY (aa (e2 au (eV 0) (eC (.int 0))) (aa (e2 au (eV 0) (eC (.int 1))) af))) (eV 0))))))
def w8:List D->R D:=aW false 1 1 xR
def xY:SF:=(az (ak uD (aa (eV 0) (aa (aP (aa (e1 v7 (e2 au (eV 1) (eC (.int 0)))) (aa (e2 au (eV 1) (eC (.int 1))) af))) af))))
def uB:List D->R D:=aW false 2 2 xY
def tZ:EF:=(eR 1 [] (iE (eV 0)) (gN 0) dq (ak kK (aa (eV 0) af)))
def sg:SF:=(az (dQ (e1 (dZ "list") (eV 0)) (e1 r6 tZ)))
def rP:List D->R D:=aW false 1 1 sg
def zQ:EF:=(eR 2 [1] (zgC (aa (eV 0) (aa (eV 2) af))) (gT [(gN 0),(gN 1)]) dq (jf (tB (e2 dR (eV 1) (eC (.tuple [(.int 0),(.int 1)])))) (eV 0) (ak uD (aa (eV 0) (aa (ak kL (aa (eV 2) (aa (eV 1) af))) af)))))
def si:SF:=(aw (aN (tB (e2 dR (eV 1) (eC (.tuple [(.int 0),(.int 1)])))) (fQ (e1 fZ (eV 0))) aO)
  (fQ zQ))
def xg:List D->R D:=aW true 3 3 si
def zay:SF:=(aw (aN (FL.bG (FL.bh (tE (e1 (dZ "tuple") (eV 0)))) (tB (e2 b9 (e1 dh (eV 0)) (eC (.int 3))))) (az (eC (.bool false))) aO)
  (aw (aF (gT [(gN 2),(gN 3),(gN 4)]) (eV 0))
  (az (dQ (ak uz (aa (eV 2) (aa (eV 1) af))) (dQ (ak uz (aa (eV 3) (aa (eV 1) af))) (e2 f9 (eV 2) (eV 3)))))))
def uC:List D->R D:=aW false 2 5 zay
def xS:SF:=(aw (aF (gN 2) (aY bT [.m 0,.v (eC (.int 7))]))
  (aw (aN (tB (e2 f9 (eV 2) (eC (.int 3)))) (az (e2 au (aZ (rZ [(.tuple [(.int 0),(.int 1)]),(.tuple [(.int 1),(.int 1)]),(.tuple [(.int (-1)),(.int 1)])])) (eV 2))) aO)
  (aw (aN (FL.bG (tB (e2 f9 (eV 2) (eC (.int 6)))) (FL.bh (tE (eV 1)))) (az (ak jY (aa (e2 eL (aY bT [.m 0,.v (e2 ay (e2 bf (eC (.int 2)) (e2 dH (eC (.int 10)) (eC (.int 4)))) (eC (.int 1)))]) (e2 dH (eC (.int 10)) (eC (.int 4)))) (aa (e2 ay (eC (.int 1)) (aY bT [.m 0,.v (eC (.int 30))])) af)))) aO)
  (az (ak jY (aa (e2 eL (aY bT [.m 0,.v (e2 ay (e2 bf (eC (.int 2)) (e2 dH (eC (.int 10)) (eC (.int 19)))) (eC (.int 1)))]) (e2 dH (eC (.int 10)) (eC (.int 19)))) (aa (e2 ay (eC (.int 1)) (aY bT [.m 0,.v (e2 dH (eC (.int 10)) (eC (.int 19)))])) af)))))))
def kJ:List D->R (D×List D):=run [true,false] false 3 xS
def zN:EF:=(sA 1 [] 0 (gN 0) (FL.bh (tE (ak w8 (aa (eV 0) af)))) (eV 0))
def uS:SF:=(aw (aN (FL.bG (FL.bh (tE (m1 (dZ "list") 0))) (tB (e2 b9 (m1 dh 0) (eV 1)))) (az (eC (.bool false))) aO)
  (az (e2 dR zN (aZ af))))
def w9:List D->R (D×List D):=run [true,false] false 2 uS
def zdu:EF:=(eR 2 [] (zgB (aa (eV 0) (aa (eV 1) af))) (gT [(gN 0),(gN 1)]) dq (ak rN (aa (eV 0) (aa (eV 1) af))))
def xN:SF:=(az zdu)
def wY:List D->R D:=aW false 2 2 xN
def zdw:EF:=(eR 1 [0] (iE (eV 1)) (gN 0) dq (ak lM (aa (eV 1) (aa (eV 0) af))))
def xT:SF:=(az zdw)
def xc:List D->R D:=aW false 2 2 xT
def xU:SF:=(aw (aF (gN 2) (aY bT [.m 0,.v (eC (.int 4))]))
  (aw (aN (tB (e2 dR (eV 2) (eC (.int 0)))) (az (fW (eV 1) gi (gj (e1 v7 (eC (.int 1)))))) aO)
  (aw (aN (tB (e2 dR (eV 2) (eC (.int 3)))) (az (e2 au (aZ (aa (eC .none) (aa (e1 fR (eV 1)) (aa (eC (.str "0")) (aa (eC (.int 3)) (aa (eC (.bool true)) (aa (aP af) af))))))) (aY bT [.m 0,.v (eC (.int 6))]))) aO)
  (aw (aN (tB (e2 dR (eV 2) (eC (.int 1)))) (az (e2 ay (eV 1) (aZ (aa (aP (aa (eC (.int 1)) (aa (eC (.int 1)) af))) af)))) aO)
  (aw (aF (gN 3) (aY bT [.m 0,.v (e1 dh (eV 1))]))
  (az (e2 ay (e2 ay (fW (eV 1) gi (gj (eV 3))) (aZ (aa (e2 au (aZ (aa (aP (aa (eC (.int 4)) (aa (eC (.int 2)) af))) (aa (aP (aa (eC (.int 1)) (aa (eC (.int 0)) af))) (aa (eC (.int 1)) (aa (eC .none) (aa (eC (.bool true)) (aa (aP (aa (eC (.int 1)) af)) af))))))) (aY bT [.m 0,.v (eC (.int 6))])) af))) (fW (eV 1) (gj (e2 ay (eV 3) (eC (.int 1)))) gi))))))))
def ur:List D->R (D×List D):=run [true,false] false 4 xU
def nF:SF:=(az (dQ (ak rP (aa (eV 0) af)) (e2 dR (e1 dh (eV 0)) (eV 1))))
def eX:List D->R D:=aW false 2 2 nF
def Ab:SF:=(aw (aF (gN 7) (ak rN (aa (ak lM (aa (e2 au (eV 2) (eV 5)) (aa (e2 au (eV 3) (eV 6)) af))) (aa (ak nA (aa (ak lM (aa (e2 au (eV 2) (eV 6)) (aa (e2 au (eV 3) (eV 5)) af))) af)) af))))
  (aN (tB (e2 b9 (e2 au (eV 7) (eC (.int 0))) (eC (.int 0)))) (aF (gN 4) (ak wY (aa (eV 4) (aa (ak xc (aa (eV 7) (aa (e2 hW (eV 1) (aP (aa (eV 5) (aa (eV 6) af)))) af))) af)))) aO))
def Ah:SF:=(c7 (iE (e1 jU (eV 1))) (gT [(gN 5),(gN 6)]) Ab)
def xQ:SF:=(aw (aF (gN 4) (ak uo (aa (e2 ay (eV 0) (eC (.int 1))) af)))
  (aw Ah
  (az (eV 4))))
def w5:List D->R D:=aW false 4 8 xQ
def nE:SF:=(c7 (vO (oq (aa (eV 0) af))) (qw (gT [(gN 2),(gN 3)])) (aN (uf (FL.bh (tE (ak eX (aa (eV 3) (aa (eV 1) af)))))) (wH "NoRow" true (aa (eV 2) af)) (ua aO)))
def rY:List D->R D:=kE [none,none] false 4 nE
def rG:SF:=(aN (FL.bh (tE (ak eX (aa (eV 3) (aa (eV 1) af))))) e8 aO)
def Al:SF:=(c7 (oq (aa (eV 0) af)) (gT [(gN 2),(gN 3)]) rG)
def zeX:SF:=Al
def uE:List D->R D:=aW false 2 4 zeX
def Ad:SF:=(aw (aN (FL.bh (tE (ak uC (aa (eV 4) (aa (eV 0) af))))) e8 aO)
  (aw (aF (gT [(gN 5),(gN 6),(gN 7)]) (eV 4))
  (aw (aN (tB (iU inD (aP (aa (eV 5) (aa (eV 6) af))) 2)) e8 aO)
  (aw (aN (FL.bh (tE (ak eX (aa (eV 7) (aa (e2 ay (eV 0) (eC (.int 1))) af))))) e8 aO)
  (iC 2 (aP (aa (eV 5) (aa (eV 6) af))) (e1 fR (eV 7)))))))
def Am:SF:=(c7 (oq (aa (eV 1) af)) (gT [(gN 3),(gN 4)]) Ad)
def xZ:SF:=(aw (c9 2 je)
  (aw Am
  (jw 2)))
def xf:List D->R D:=aW true 2 8 xZ
def wz:EF:=(eR 2 [3] (iE (e1 jU (eV 3))) (gT [(gN 0),(gN 1)]) (FL.bh (tE (ak uw (aa (e2 hW (eV 2) (aP (aa (eV 0) (aa (eV 1) af)))) af)))) (aP (aa (eV 0) (aa (eV 1) (aa (e2 hW (eV 2) (aP (aa (eV 0) (aa (eV 1) af)))) af)))))
def xK:AF:=(zU (aN (FL.bG (FL.bh (tE (ak nB (aa (eV 1) af)))) (FL.bh (tB (iF oC oC (eC (.int 1)) (eV 1) (eC (.int 6)))))) e8 aO)
  (zU (aF (gN 3) (ak xf (aa (eV 1) (aa (eV 2) af))))
  (aa (eV 1) (aa (e1 fR wz) af))))
def rK:List D->R D:=zT 2 4 2 xK
def xJ:SF:=(aw (sE (ak rY (jI (aa (aZ (aa (eV 1) (aa (eV 2) af))) (aa (e2 ay (iQ 0 "Table" 0) (eC (.int 1))) af)))))
  e8)
def uP:List D->R D:=kE [some "Table",none,none] false 8 xJ
def Aa:SF:=(aw (aF (gN 7) (ak uB (aa (ak kL (aa (e2 au (eV 1) (eV 4)) (aa (e2 au (eV 2) (eV 5)) af))) (aa (ak kL (aa (e2 au (eV 1) (eV 5)) (aa (e2 au (eV 2) (eV 4)) af))) af))))
  (iY 3 (c9 3 (ak xg (aa (eV 3) (aa (eV 7) (aa (eV 6) af)))))))
def Ag:SF:=(c7 (iE (iQ 0 "Table" 1)) (gT [(gN 4),(gN 5),(gN 6)]) Aa)
def xM:SF:=(aw (sE (ak uE (aa (aZ (aa (eV 1) (aa (eV 2) af))) (aa (e2 ay (iQ 0 "Table" 0) (eC (.int 1))) af))))
  (aw (c9 3 (jh (eC (.tuple [(.int 0),(.int 1)])) (e2 ay (iQ 0 "Table" 0) (eC (.int 1)))))
  (aw Ag
  (jw 3))))
def pS:List D->R D:=kE [some "Table",none,none] true 8 xM
def xP:EF:=(ak uP (jI (fE 0 "Table" (aa (eV 1) (aa (eV 2) af)))))
def uq:List D->R (Option (String×List D)):=runC [some "Table",none,none] 5 xP
def zdz:EF:=(eR 1 [2] (eT (aa (e2 ay (eV 3) (eC (.int 1))) af)) (gN 0) dq (aY kJ [.m 1,.v (eC (.bool false))]))
def wO:SF:=(aN (tB (e2 yD (aY bT [.m 2,.v (eC (.int 3))]) (eC (.int 0)))) (iC 4 (aP (aa (eV 5) (aa (eV 6) af))) zdz) aO)
def Ai:SF:=(c7 (jl (aa (e2 ay (eV 5) (eC (.int 1))) (aa (eV 3) af))) (gN 6) wO)
def Ac:SF:=Ai
def Aj:SF:=(c7 (eT (aa (eV 3) af)) (gN 5) Ac)
def t4:EF:=(eR 2 [4] (iE (e1 jU (eV 4))) (gT [(gN 0),(gN 1)]) dq (aP (aa (eV 0) (aa (eV 1) (aa (e1 fZ (e2 hW (eV 2) (aP (aa (eV 0) (aa (eV 1) af))))) af)))))
def zdA:EF:=(eR 1 [2] (eT (aa (e2 ay (eV 3) (eC (.int 1))) af)) (gN 0) dq (aY kJ [.m 1,.v (eC (.bool true))]))
def zdB:EF:=(eR 1 [2] (eT (aa (e2 ay (eV 3) (eC (.int 1))) af)) (gN 0) dq (aY kJ [.m 1,.v (eC (.bool true))]))
def zP:EF:=(sA 1 [] 12 (gN 0) dq (ak nA (aa (eV 0) af)))
def wQ:SF:=(aw (c9 2 (ak zac (aa (eV 1) (aa (eC (.int 10)) af))))
  (aw (aF (gN 3) (e2 ay (eC (.int 1)) (aY bT [.m 2,.v (eC (.int 5))])))
  (aw (c9 4 je)
  (aw Aj
  (aw (iY 4 (t7 7 "Table" (sC rK (aa (eV 3) (aa t4 af)))))
  (aw (iZ 8 (c9 8 zdA))
  (aw (iZ 9 (c9 9 zdB))
  (aw (aN (tB (e2 dR (aY bT [.m 2,.v (eC (.int 2))]) (eC (.int 0)))) (aF (gN 9) (ak uv (aa (e2 ay (eV 3) (eC (.int 1))) (aa (e2 eL (eV 3) (aY bT [.m 2,.v (eC (.int 2))])) af)))) aO)
  (aw (aF (gN 10) (e1 fZ (eV 8)))
  (aw (aF (gN 11) (e1 fZ (eV 9)))
  (aw (c9 12 (ak pS (fE 7 "Table" (aa (eV 10) (aa (eV 11) af)))))
  (aw (aN (FL.bG (FL.bh (tE (aY w9 [.m 12,.v (e2 ay (eV 3) (eC (.int 1)))]))) (tB (m2 b9 12 (ak w5 (aa (eV 3) (aa (eV 4) (aa (eV 8) (aa (eV 9) af)))))))) (az (eC (.bool false))) aO)
  (aw (aN (tB (e2 b9 (ak pS (fE 7 "Table" (aa (eV 11) (aa (eV 10) af)))) zP)) (az (eC (.bool false))) aO)
  (aw (aF (gN 13) (m1 fZ 12))
  (aw (kF 12 zfv)
  (aw (aN (tB (e2 b9 (ak pS (fE 7 "Table" (aa (eV 10) (aa (eV 11) af)))) (eV 13))) (az (eC (.bool false))) aO)
  (aw (aN (FL.bG (tB (e2 b9 (ak pS (fE 7 "Table" (aa (eV 10) (aa (e1 fZ (eV 10)) af)))) (ak uo (aa (e2 ay (eV 3) (eC (.int 1))) af)))) (FL.bG (tB (e2 b9 (eV 10) (eV 8))) (tB (e2 b9 (eV 11) (eV 9))))) (az (eC (.bool false))) aO)
  (aw (aF (gN 14) (aY ur [.m 2,.v (eV 8)]))
  (aw (aF (gN 15) (aY ur [.m 2,.v (eV 9)]))
  (aw (wF 16 uq (fE 7 "Table" (aa (eV 14) (aa (e2 au (aZ (aa (eV 9) (aa (eV 15) af))) (aY bT [.m 2,.v (eC (.int 2))])) af))))
  (aw (aN (FL.bG (tB (e2 b9 (nO 16 rM) (eC (.str "NoRow")))) (FL.bG (tB (e2 b9 (nQ 16 [("NoRow",0)]) (eC (.int 0)))) (tE (e1 (dZ "bool") (nQ 16 [("NoRow",0)]))))) (az (eC (.bool false))) aO)
  (aw (wF 16 uq (fE 7 "Table" (aa (eV 8) (aa (eV 15) af))))
  (aN (FL.bG (tB (e2 b9 (nO 16 rM) (eC (.str "NoRow")))) (FL.bG (tB (e2 b9 (nQ 16 [("NoRow",0)]) (eC (.int 1)))) (tE (e1 (dZ "bool") (nQ 16 [("NoRow",0)]))))) (az (eC (.bool false))) aO)))))))))))))))))))))))
def Ak:SF:=(c7 (iE (e2 ay (fW (eV 0) gi (gj (eC (.int 2)))) (aZ (aa (ak wZ (aa (eV 0) (aa (eC (.int 2)) af))) af)))) (gN 1) wQ)
def xX:SF:=(aw Ak
  (az (eC (.bool true))))
def uA:List D->R D:=aW false 1 17 xX
end K10
namespace K10
open PySem L2 PySem.Spec FL
open PyProof.Rows hiding St
variable {aK bD eN fS fa kP o7 o8 o9 oZ pA pB pC pD pE pF pG pH pI pJ pK pL pM pN pO pP pQ pe pf ph pj pq qm:dm}{P:AK}{fd zbF zmh:A9}{w:AJ}{base:Az}{ug:BJ}{mg:ib->Option gV}
section
def top(i:Nat):AQ:=PySem.Challenge.pw_swaprest_k10_what_is_left.main.body.getD i (.Pass ⟨0,0,0,0⟩)
def jN(i j:Nat):AQ:=match top i with
  | .ClassDef _ _ _ b _ _ _ _ _ _ _=>b.getD j (.Pass ⟨0,0,0,0⟩)
  | s=>s
variable [Cs]
structure Cst(mg:ib->Option gV)(ug:BJ)(bD:dm):Prop where
  zcT:mg "MOST_WAYS"=some (.int 6 ug)
  sV:mg "NOUGHT"=some (.ref bD)
  Af:∃ o,Cs.C bD=some (.frz o (.tup [.int 0,.int 1]))
section
variable {K:kb}
abbrev xC:=CT "is_whole" 1 ["one"] 1 false nB
abbrev xA:=CT "common_divisor" 1 ["one","other"] 2 false rO
abbrev zel:=CT "is_of_noughts" 1 ["row"] 1 false uw
abbrev zal:=CT "_law_mixed" 1 ["_law_cell","_law_k"] 2 false zab
abbrev zd8:=CT "_law_at" 1 ["_law_script","_law_k"] 2 false wZ
abbrev uN:=CT "_law_low" 1 ["_law_top","_law_bottom"] 2 false jY
abbrev zam:=CT "_law_not" 1 ["_law_one"] 1 false nA
abbrev zee:=CT "_law_is_whole" 1 ["_law_told"] 1 false xa
abbrev zej:=CT "_law_unit" 1 ["_law_width","_law_at_here"] 2 false uv
abbrev zaj:=CT "_law_blank" 1 ["_law_width"] 1 false uo
abbrev zea:=CTK "_law_class" 1 ["_law_error"] rM
abbrev zek:=CT "is_number" 2 ["one"] 1 false kK
abbrev zao:=CT "plus" 2 ["one","other"] 2 false uD
abbrev zap:=CT "times" 2 ["one","other"] 2 false kL
abbrev zen:=CT "is_way" 2 ["one","count"] 2 false uz
abbrev zeg:=CT "_law_purse" 2 ["_law_cell","_law_k"] 2 true zac
abbrev xx:=wV "_law_take" 2 ["_law_purse_here","_law_many"] [true,false] false bT
abbrev zan:=CT "_law_plus" 2 ["_law_one","_law_other"] 2 false rN
abbrev zak:=CT "_law_by" 2 ["_law_one","_law_other"] 2 false lM
abbrev zec:=CT "_law_is_number" 2 ["_law_told"] 1 false w8
abbrev zeo:=CT "less" 3 ["one","other"] 2 false uB
abbrev zem:=CT "is_row" 3 ["row"] 1 false rP
abbrev zet:=CT "with_times" 3 ["row","weight","other"] 3 true xg
abbrev zep:=CT "names_two_ways" 3 ["leaving","count"] 2 false uC
abbrev zef:=wV "_law_number" 3 ["_law_purse_here","_law_great"] [true,false] false kJ
abbrev zed:=wV "_law_is_row" 3 ["_law_told","_law_width"] [true,false] false w9
abbrev zd7:=CT "_law_added" 3 ["_law_one","_law_other"] 2 false wY
abbrev zeh:=CT "_law_scaled" 3 ["_law_number_here","_law_row"] 2 false xc
abbrev zei:=wV "_law_spoilt" 3 ["_law_purse_here","_law_row"] [true,false] false ur
abbrev xB:=CT "is_row_of" 4 ["row","width"] 2 false eX
abbrev zeb:=CT "_law_cross" 4 ["_law_count","_law_told","_law_one","_law_other"] 4 false w5
abbrev zd4:=CTX "refuse_rows" 5 ["rows","width"] [none,none] false rY
abbrev zeq:=CT "refuse_rows" 5 ["rows","width"] 2 false uE
abbrev zes:=CT "rows_by_pair" 5 ["count","leavings"] 2 true xf
abbrev zd5[Cs]:=CTI "Table" "Table" 6 ["self","count","leavings"] 2 rK
abbrev zd3:=zdU "Table" "left" 6 ["self","one","other"] [none,none] uP
abbrev zd6:=zdV "Table" "left" 6 ["self","one","other"] [none,none] pS
abbrev zd9:=CTC "_law_caught" 7 ["_law_table","_law_one","_law_other"] [some "Table",none,none] uq
variable (B:Blt mg)(C:Cst mg ug bD)
include B C
variable (bu:Ob K "Table" eN ["count","leavings"])
include bu
theorem zom(h:aH K mg "is_whole" (top 31)):xC P w K mg base:=dC ["one"] h fun hr nd=>by
  unfold zeU
  exact(bC (oP (lA zgU B.bN B.sZ Bt.int (ae 0)) (qZ (zii (lA zb B.bN B.sY Bt.bool (ae 0))))))
theorem zog(h:aH K mg "common_divisor" (top 32)):xA P w K mg base:=dC ["one","other","high","low"] h fun hr nd=>by
  unfold zeS zjg
  exact(aI (wx 2 3 nd (jQ zaN B.vY Bt.abs (ae 0)) (jQ zaN B.vY Bt.abs (ae 1)))
      (aI (zir (oU 3) Ik (cZ (gH hr) (ae 3) aq) (eB (wx 2 3 nd (ae 3) (aB qQ (ae 2) (ae 3)))))
      (bC (ae 2))))
theorem zoi(h:aH K mg "is_of_noughts" (top 41)):zel P w K mg base:=dC ["row"] h fun hr nd=>by
  unfold xW zdy
  exact(bC (jQ (zfe rfl) B.zj Bt.all (bg.pv (cp ["one"] [] ["one"] (mZ (ae 0)) (fun nd=>(bR 0 nd)) js (oQ (jT hr) (ae 0) (zD rfl C.sV C.Af (fun _=>by simp [ag,Fz])))))))
theorem zn7(h:aH K mg "_law_mixed" (top 55)):zal P w K mg base:=dC ["_law_cell","_law_k","_law_number_here"] h fun hr nd=>by
  unfold zeN
  exact(aI (cG 2 nd (aB bA (aB bA (aB fL (aB bA (aB qQ (ae 0) (aB bA (aB kA aq aq) aq)) (aB fL aq (ae 1))) aq) (aB fL aq (ae 1))) aq))
      (aI (cG 2 nd (aB qQ (aB fL (ae 2) (ae 2)) (aB bA (aB kA aq aq) aq)))
      (bC (aB qQ (aB fL (aB bA (ae 2) aq) (aB bA (ae 2) aq)) (aB bA (aB kA aq aq) aq)))))
theorem znX(h:aH K mg "_law_at" (top 58)):zd8 P w K mg base:=dC ["_law_script","_law_k"] h fun hr nd=>by
  unfold zeI
  exact(aI (dn (cZ (rg hr) (ae 1) (jQ qg B.mV Bt.len (ae 0))) (bC (bq bo (ae 0) (ae 1))) cY)
      (bC (aB bA (aB fL aq (ae 1)) aq)))
theorem zn6(h:aH K mg "_law_low" (top 59)):uN P w K mg base:=dC ["_law_top","_law_bottom","_law_one","_law_other"] h fun hr nd=>by
  unfold zeM zjf
  exact(aI (cG 2 nd (jQ zaN B.vY Bt.abs (ae 0)))
      (aI (cG 3 nd (ae 1))
      (aI (zir (oU 3) Ik (cZ (gH hr) (ae 3) aq) (eB (wx 2 3 nd (ae 3) (aB qQ (ae 2) (ae 3)))))
      (bC (e7 (a2 (aB (kz hr) (ae 0) (ae 2)) (aB (kz hr) (ae 1) (ae 2))))))))
theorem zn8(h:aH K mg "_law_not" (top 62)):zam P w K mg base:=dC ["_law_one"] h fun hr nd=>by
  unfold zeO
  exact(bC (e7 (a2 (aB wa aq (bq bo (ae 0) aq)) (bq bo (ae 0) aq))))
theorem zn5(h:aH K mg "_law_is_whole" (top 64)):zee P w K mg base:=dC ["_law_told"] h fun hr nd=>by
  unfold zeL
  exact(bC (oP (lA zgU B.bN B.sZ Bt.int (ae 0)) (qZ (zii (lA zb B.bN B.sY Bt.bool (ae 0))))))
theorem zof(h:aH K mg "_law_unit" (top 70)):zej P w K mg base:=dC ["_law_width","_law_at_here"] h fun hr nd=>by
  unfold xV zdx
  exact(bC (bg.pv (cp ["_law_place"] [1] ["_law_place","_law_at_here"] (tW rfl B.mW (a1 (ae 0))) (fun nd=>(bR 0 nd)) js (e7 (a2 (mY zfg B.sZ Bt.int (oQ (jT hr) (ae 0) (ae 1))) aq)))))
theorem znY(h:aH K mg "_law_blank" (top 71)):zaj P w K mg base:=dC ["_law_width"] h fun hr nd=>by
  unfold xO zdv
  exact(bC (bg.pv (cp ["_law_place"] [] ["_law_place"] (tW rfl B.mW (a1 (ae 0))) (fun nd=>(bR 0 nd)) js (e7 (a2 aq aq)))))
theorem zn1(h:aH K mg "_law_class" (top 74))  (zb4:mg "Broken"=some (.ref oZ)) (za8:∀ p∈([("NoRow",false)]:List (String×Bool)),bc K (.ref oZ) p.1 p.2) (zb5:mg "NoCount"=some (.ref o7)) (za9:∀ p∈([("NoRow",false)]:List (String×Bool)),bc K (.ref o7) p.1 p.2) (zb6:mg "NoDeed"=some (.ref o8)) (zba:∀ p∈([("NoRow",false)]:List (String×Bool)),bc K (.ref o8) p.1 p.2) (zb7:mg "NoLeast"=some (.ref o9)) (zbb:∀ p∈([("NoRow",false)]:List (String×Bool)),bc K (.ref o9) p.1 p.2) (zb8:mg "NoLine"=some (.ref pe)) (zbc:∀ p∈([("NoRow",false)]:List (String×Bool)),bc K (.ref pe) p.1 p.2) (zb9:mg "NoMatch"=some (.ref pf)) (zbd:∀ p∈([("NoRow",false)]:List (String×Bool)),bc K (.ref pf) p.1 p.2) (zca:mg "NoName"=some (.ref ph)) (zbe:∀ p∈([("NoRow",false)]:List (String×Bool)),bc K (.ref ph) p.1 p.2) (zcb:mg "NoNumber"=some (.ref pj)) (zbf:∀ p∈([("NoRow",false)]:List (String×Bool)),bc K (.ref pj) p.1 p.2) (zcc:mg "NoPair"=some (.ref pq)) (zbg:∀ p∈([("NoRow",false)]:List (String×Bool)),bc K (.ref pq) p.1 p.2) (zcd:mg "NoPlace"=some (.ref pA)) (zbh:∀ p∈([("NoRow",false)]:List (String×Bool)),bc K (.ref pA) p.1 p.2) (yM:mg "NoRow"=some (.ref aK)) (zbi:∀ p∈([("NoRow",true)]:List (String×Bool)),bc K (.ref aK) p.1 p.2) (zce:mg "NoShelf"=some (.ref pB)) (zbj:∀ p∈([("NoRow",false)]:List (String×Bool)),bc K (.ref pB) p.1 p.2) (zcf:mg "NoSquare"=some (.ref pC)) (zbk:∀ p∈([("NoRow",false)]:List (String×Bool)),bc K (.ref pC) p.1 p.2) (zcg:mg "NoSum"=some (.ref pD)) (zbl:∀ p∈([("NoRow",false)]:List (String×Bool)),bc K (.ref pD) p.1 p.2) (zch:mg "NoText"=some (.ref pE)) (zbm:∀ p∈([("NoRow",false)]:List (String×Bool)),bc K (.ref pE) p.1 p.2) (zci:mg "NoTree"=some (.ref pF)) (zbn:∀ p∈([("NoRow",false)]:List (String×Bool)),bc K (.ref pF) p.1 p.2) (zcj:mg "NoWord"=some (.ref pG)) (zbo:∀ p∈([("NoRow",false)]:List (String×Bool)),bc K (.ref pG) p.1 p.2) (zck:mg "NotActing"=some (.ref pH)) (zbp:∀ p∈([("NoRow",false)]:List (String×Bool)),bc K (.ref pH) p.1 p.2) (zcl:mg "NotBare"=some (.ref pI)) (zbq:∀ p∈([("NoRow",false)]:List (String×Bool)),bc K (.ref pI) p.1 p.2) (zcm:mg "NotEaten"=some (.ref pJ)) (zbr:∀ p∈([("NoRow",false)]:List (String×Bool)),bc K (.ref pJ) p.1 p.2) (zcn:mg "NotFree"=some (.ref pK)) (zbs:∀ p∈([("NoRow",false)]:List (String×Bool)),bc K (.ref pK) p.1 p.2) (zco:mg "NotGap"=some (.ref pL)) (zbt:∀ p∈([("NoRow",false)]:List (String×Bool)),bc K (.ref pL) p.1 p.2) (zcp:mg "NotKept"=some (.ref pM)) (zbu:∀ p∈([("NoRow",false)]:List (String×Bool)),bc K (.ref pM) p.1 p.2) (zcq:mg "NotNought"=some (.ref pN)) (zbv:∀ p∈([("NoRow",false)]:List (String×Bool)),bc K (.ref pN) p.1 p.2) (zcr:mg "NotOne"=some (.ref pO)) (zbw:∀ p∈([("NoRow",false)]:List (String×Bool)),bc K (.ref pO) p.1 p.2) (zcs:mg "TooDeep"=some (.ref pP)) (zby:∀ p∈([("NoRow",false)]:List (String×Bool)),bc K (.ref pP) p.1 p.2) (zct:mg "TooLong"=some (.ref pQ)) (zbz:∀ p∈([("NoRow",false)]:List (String×Bool)),bc K (.ref pQ) p.1 p.2) (sL:mg "SwapError"=some (.ref fS)) (zbx:∀ p∈([("NoRow",true)]:List (String×Bool)),bc K (.ref fS) p.1 p.2) (zcu:mg "ValueError"=none) (zbA:∀ p∈([("NoRow",true)]:List (String×Bool)),bc K (.ty "ValueError") p.1 p.2):zea P w K mg base:=fnK ["_law_error","_law_got","_law_words"] h fun hr nd=>by
  unfold zeK zit
  exact(aI (cG 1 nd (bg.pv (et (a3 (di (y:=.ref oZ) 0 [("NoRow",false)] (fun z=>nomatch z) za8 (cX rfl zb4 rfl) B.bN) (di (y:=.ref o7) 0 [("NoRow",false)] (fun z=>nomatch z) za9 (cX rfl zb5 rfl) B.bN) (di (y:=.ref o8) 0 [("NoRow",false)] (fun z=>nomatch z) zba (cX rfl zb6 rfl) B.bN)))))
      (aI (cG 1 nd (aB bA (ae 1) (bg.pv (et (a3 (di (y:=.ref o9) 0 [("NoRow",false)] (fun z=>nomatch z) zbb (cX rfl zb7 rfl) B.bN) (di (y:=.ref pe) 0 [("NoRow",false)] (fun z=>nomatch z) zbc (cX rfl zb8 rfl) B.bN) (di (y:=.ref pf) 0 [("NoRow",false)] (fun z=>nomatch z) zbd (cX rfl zb9 rfl) B.bN))))))
      (aI (cG 1 nd (aB bA (ae 1) (bg.pv (et (a3 (di (y:=.ref ph) 0 [("NoRow",false)] (fun z=>nomatch z) zbe (cX rfl zca rfl) B.bN) (di (y:=.ref pj) 0 [("NoRow",false)] (fun z=>nomatch z) zbf (cX rfl zcb rfl) B.bN) (di (y:=.ref pq) 0 [("NoRow",false)] (fun z=>nomatch z) zbg (cX rfl zcc rfl) B.bN))))))
      (aI (cG 1 nd (aB bA (ae 1) (bg.pv (et (a3 (di (y:=.ref pA) 0 [("NoRow",false)] (fun z=>nomatch z) zbh (cX rfl zcd rfl) B.bN) (di (y:=.ref aK) 0 [("NoRow",true)] (fun z=>nomatch z) zbi (cX rfl yM rfl) B.bN) (di (y:=.ref pB) 0 [("NoRow",false)] (fun z=>nomatch z) zbj (cX rfl zce rfl) B.bN))))))
      (aI (cG 1 nd (aB bA (ae 1) (bg.pv (et (a3 (di (y:=.ref pC) 0 [("NoRow",false)] (fun z=>nomatch z) zbk (cX rfl zcf rfl) B.bN) (di (y:=.ref pD) 0 [("NoRow",false)] (fun z=>nomatch z) zbl (cX rfl zcg rfl) B.bN) (di (y:=.ref pE) 0 [("NoRow",false)] (fun z=>nomatch z) zbm (cX rfl zch rfl) B.bN))))))
      (aI (cG 1 nd (aB bA (ae 1) (bg.pv (et (a3 (di (y:=.ref pF) 0 [("NoRow",false)] (fun z=>nomatch z) zbn (cX rfl zci rfl) B.bN) (di (y:=.ref pG) 0 [("NoRow",false)] (fun z=>nomatch z) zbo (cX rfl zcj rfl) B.bN) (di (y:=.ref pH) 0 [("NoRow",false)] (fun z=>nomatch z) zbp (cX rfl zck rfl) B.bN))))))
      (aI (cG 1 nd (aB bA (ae 1) (bg.pv (et (a3 (di (y:=.ref pI) 0 [("NoRow",false)] (fun z=>nomatch z) zbq (cX rfl zcl rfl) B.bN) (di (y:=.ref pJ) 0 [("NoRow",false)] (fun z=>nomatch z) zbr (cX rfl zcm rfl) B.bN) (di (y:=.ref pK) 0 [("NoRow",false)] (fun z=>nomatch z) zbs (cX rfl zcn rfl) B.bN))))))
      (aI (cG 1 nd (aB bA (ae 1) (bg.pv (et (a3 (di (y:=.ref pL) 0 [("NoRow",false)] (fun z=>nomatch z) zbt (cX rfl zco rfl) B.bN) (di (y:=.ref pM) 0 [("NoRow",false)] (fun z=>nomatch z) zbu (cX rfl zcp rfl) B.bN) (di (y:=.ref pN) 0 [("NoRow",false)] (fun z=>nomatch z) zbv (cX rfl zcq rfl) B.bN))))))
      (aI (cG 1 nd (aB bA (ae 1) (bg.pv (et (a3 (di (y:=.ref pO) 0 [("NoRow",false)] (fun z=>nomatch z) zbw (cX rfl zcr rfl) B.bN) (di (y:=.ref pP) 0 [("NoRow",false)] (fun z=>nomatch z) zby (cX rfl zcs rfl) B.bN) (di (y:=.ref pQ) 0 [("NoRow",false)] (fun z=>nomatch z) zbz (cX rfl zct rfl) B.bN))))))
      (aI (dn (fC.jr (gG (fP (fA fB (di (y:=.ref fS) 0 [("NoRow",true)] (fun z=>nomatch z) zbx (cX rfl sL rfl) B.bN))) (gG (fP (fA fB (di (y:=.ty "ValueError") 0 [("NoRow",true)] (fun z=>nomatch z) zbA (zde rfl zcu rfl) B.bN))) (jt (cZ (gH hr) (jQ (zkF rfl) B.zcX Bt.sum (bg.pv (cp ["_law_one"] [] ["_law_one"] (mZ (ae 1)) (fun nd=>(bR 0 nd)) js (mY zfg B.sZ Bt.int (ae 0))))) aq))))) (bC cV) cY)
      (aI (cG 2 nd (bg.pv (et (dj cV (dj cV (dj cV (dj cV (dj cV (dj cV (a3 cV cV cV))))))))))
      (aI (cG 2 nd (aB bA (ae 2) (bg.pv (et (dj cV (dj cV (dj cV (dj cV (dj cV (dj cV (a3 cV cV cV)))))))))))
      (aI (cG 2 nd (aB bA (ae 2) (bg.pv (et (dj cV (dj cV (dj cV (dj cV (dj cV (a3 cV cV cV))))))))))
      (bC (bq bo (aB bA (ae 2) (bg.pv (et (a1 cV)))) (zsh (ae 1) gq))))))))))))))))
theorem zoh(h:aH K mg "is_number" (top 33)) (qf:xA P w K mg base) (sr:xC P w K mg base):zek P w K mg base:=dC ["one","top","bottom"] h fun hr nd=>by
  unfold zeT
  exact(aI (dn (fC.jr (gG (fP (fA fB (lA kit_tuple B.bN B.oH Bt.tuple (ae 0)))) (jt (cZ (gH hr) (jQ qg B.mV Bt.len (ae 0)) aq)))) (bC gq) cY)
      (aI (zdq (ae 0) (jR rfl (dI (bR 1 nd) (dI (bR 2 nd) jS))))
      (aI (dn (fC.jr (gG (fP (fA fB (bB sr hr (a1 (ae 1))))) (gG (fP (fA fB (bB sr hr (a1 (ae 2))))) (jt (cZ (rg hr) (ae 2) aq))))) (bC gq) cY)
      (bC (oQ (jT hr) (bB qf hr (a2 (ae 1) (ae 2))) aq)))))
theorem zoq(h:aH K mg "plus" (top 34)) (qf:xA P w K mg base):zao P w K mg base:=dC ["one","other","shared","mine","its","top","again"] h fun hr nd=>by
  unfold zeW
  exact(aI (cG 2 nd (bB qf hr (a2 (bq bo (ae 0) aq) (bq bo (ae 1) aq))))
      (aI (wx 3 4 nd (aB (kz hr) (bq bo (ae 0) aq) (ae 2)) (aB (kz hr) (bq bo (ae 1) aq) (ae 2)))
      (aI (cG 5 nd (aB bA (aB fL (bq bo (ae 0) aq) (ae 4)) (aB fL (bq bo (ae 1) aq) (ae 3))))
      (aI (cG 6 nd (bB qf hr (a2 (ae 5) (ae 2))))
      (bC (e7 (a2 (aB (kz hr) (ae 5) (ae 6)) (aB fL (ae 3) (aB (kz hr) (bq bo (ae 1) aq) (ae 6))))))))))
theorem zot(h:aH K mg "times" (top 36)) (qf:xA P w K mg base):zap P w K mg base:=dC ["one","other","mine","its"] h fun hr nd=>by
  unfold zeY
  exact(aI (wx 2 3 nd (bB qf hr (a2 (bq bo (ae 0) aq) (bq bo (ae 1) aq))) (bB qf hr (a2 (bq bo (ae 1) aq) (bq bo (ae 0) aq))))
      (bC (e7 (a2 (aB fL (aB (kz hr) (bq bo (ae 0) aq) (ae 2)) (aB (kz hr) (bq bo (ae 1) aq) (ae 3))) (aB fL (aB (kz hr) (bq bo (ae 0) aq) (ae 3)) (aB (kz hr) (bq bo (ae 1) aq) (ae 2)))))))
theorem zol(h:aH K mg "is_way" (top 46)) (sr:xC P w K mg base):zen P w K mg base:=dC ["one","count"] h fun hr nd=>by
  unfold zau
  exact(bC (oP (bB sr hr (a1 (ae 0))) (qZ (zsc (zdC hr) (rg hr) aq (ae 0) (ae 1)))))
theorem zob(h:aH K mg "_law_purse" (top 56)) (zaJ:zal P w K mg base):zeg P w K mg base:=dC ["_law_cell","_law_k"] h fun hr nd=>by
  unfold zeQ
  exact(aI (dn (cZ (ziu hr) (ae 0) (aB kA aq aq)) (eB (zM (et (a3 (aB wa (ae 0) (aB kA aq aq)) aq (ae 1))))) cY)
      (eB (zM (et (a3 (bB zaJ hr (a2 (ae 0) (ae 1))) aq (aB bA (aB qQ (ae 0) (aB bA (aB kA aq aq) aq)) (ae 1)))))))
theorem zoe(h:aH K mg "_law_take" (top 57)) (zaJ:zal P w K mg base):xx P w K mg base:=vh [true,false] ["_law_purse_here","_law_many","_law_got"] h fun hr nd=>by
  unfold zeR
  exact(aI (dn (cZ (rg hr) (qY 0 bo aq) (ae 1)) (aI (zdr 0 (pv 0) (aB bA (qY 0 bo aq) aq) aq)
      (eB (zdr 0 (pv 0) (aB bA (qY 0 bo aq) (aB fL (ae 1) (bB zaJ hr (a2 (qY 0 bo aq) (aB bA (aB fL aq (qY 0 bo aq)) aq))))) aq))) cY)
      (aI (cG 2 nd (aB qQ (qY 0 bo aq) (ae 1)))
      (aI (zdr 0 (pv 0) (aB (kz hr) (qY 0 bo aq) (ae 1)) aq)
      (bC (ae 2)))))
theorem zoa(h:aH K mg "_law_plus" (top 60)) (nJ:uN P w K mg base):zan P w K mg base:=dC ["_law_one","_law_other"] h fun hr nd=>by
  unfold zeP
  exact(bC (bB nJ hr (a2 (aB bA (aB fL (bq bo (ae 0) aq) (bq bo (ae 1) aq)) (aB fL (bq bo (ae 1) aq) (bq bo (ae 0) aq))) (aB fL (bq bo (ae 0) aq) (bq bo (ae 1) aq)))))
theorem znZ(h:aH K mg "_law_by" (top 61)) (nJ:uN P w K mg base):zak P w K mg base:=dC ["_law_one","_law_other"] h fun hr nd=>by
  unfold zeJ
  exact(bC (bB nJ hr (a2 (aB fL (bq bo (ae 0) aq) (bq bo (ae 1) aq)) (aB fL (bq bo (ae 0) aq) (bq bo (ae 1) aq)))))
theorem zn3(h:aH K mg "_law_is_number" (top 65)) (zfc:zee P w K mg base) (nJ:uN P w K mg base):zec P w K mg base:=dC ["_law_told"] h fun hr nd=>by
  unfold xR
  exact(aI (dn (fC.jr (gG (fP (fA fB (lA kit_tuple B.bN B.oH Bt.tuple (ae 0)))) (jt (cZ (gH hr) (jQ qg B.mV Bt.len (ae 0)) aq)))) (bC gq) cY)
      (aI (dn (fC.jr (gG (fP (fA fB (bB zfc hr (a1 (bq bo (ae 0) aq))))) (jt (fP (fA fB (bB zfc hr (a1 (bq bo (ae 0) aq)))))))) (bC gq) cY)
      (bC (oP (oQ (ziu hr) (bq bo (ae 0) aq) aq) (qZ (oQ (jT hr) (bB nJ hr (a2 (bq bo (ae 0) aq) (bq bo (ae 0) aq))) (ae 0)))))))
theorem zoo(h:aH K mg "less" (top 35)) (zaP:zao P w K mg base):zeo P w K mg base:=dC ["one","other"] h fun hr nd=>by
  unfold xY
  exact(bC (bB zaP hr (a2 (ae 0) (e7 (a2 (zdn zdO (bq bo (ae 1) aq)) (bq bo (ae 1) aq))))))
theorem zoj(h:aH K mg "is_row" (top 38)) (zky:zek P w K mg base):zem P w K mg base:=dC ["row"] h fun hr nd=>by
  unfold sg tZ
  exact(bC (oP (lA zgV B.bN B.kZ Bt.list (ae 0)) (qZ (jQ (zfe rfl) B.zj Bt.all (bg.pv (cp ["one"] [] ["one"] (mZ (ae 0)) (fun nd=>(bR 0 nd)) js (bB zky hr (a1 (ae 0)))))))))
theorem zou(h:aH K mg "with_times" (top 43)) (zaP:zao P w K mg base) (yc:zap P w K mg base):zet P w K mg base:=dC ["row","weight","other"] h fun hr nd=>by
  unfold si zQ
  exact(aI (dn (cZ (jT hr) (ae 1) (zD rfl C.sV C.Af (fun _=>by simp [ag,Fz]))) (eB (zM (zsy B.kZ Bt.list (ae 0)))) cY)
      (eB (zM (cp ["mine","its"] [1] ["mine","its","weight"] (zsv rfl B.zk (a2 (ae 0) (ae 2))) (fun nd=>(jR rfl (dI (bR 0 nd) (dI (bR 1 nd) jS)))) js (zsg (cZ (jT hr) (ae 1) (zD rfl C.sV C.Af (fun _=>by simp [ag,Fz]))) (ae 0) (bB zaP hr (a2 (ae 0) (bB yc hr (a2 (ae 2) (ae 1))))))))))
theorem zop(h:aH K mg "names_two_ways" (top 49)) (zfh:zen P w K mg base):zep P w K mg base:=dC ["leaving","count","i","j","row"] h fun hr nd=>by
  unfold zay
  exact(aI (dn (fC.jr (gG (fP (fA fB (lA kit_tuple B.bN B.oH Bt.tuple (ae 0)))) (jt (cZ (gH hr) (jQ qg B.mV Bt.len (ae 0)) aq)))) (bC gq) cY)
      (aI (zdq (ae 0) (jR rfl (dI (bR 2 nd) (dI (bR 3 nd) (dI (bR 4 nd) jS)))))
      (bC (oP (bB zfh hr (a2 (ae 2) (ae 1))) (oP (bB zfh hr (a2 (ae 3) (ae 1))) (qZ (oQ (rg hr) (ae 2) (ae 3))))))))
theorem zn9(h:aH K mg "_law_number" (top 63)) (hV:xx P w K mg base) (nJ:uN P w K mg base):zef P w K mg base:=vh [true,false] ["_law_purse_here","_law_great","_law_way"] h fun hr nd=>by
  unfold xS
  exact(aI (cG 2 nd (fM hV hr (fG 0 (fO aq fN))))
      (aI (dn (cZ (rg hr) (ae 2) aq) (bC (bq bo (bg.pv (zsz rfl)) (ae 2))) cY)
      (aI (dn (fC.jr (gG (cZ (rg hr) (ae 2) aq) (jt (fP (fA fB (ae 1)))))) (bC (bB nJ hr (a2 (aB wa (fM hV hr (fG 0 (fO (aB bA (aB fL aq (aB kA aq aq)) aq) fN))) (aB kA aq aq)) (aB bA aq (fM hV hr (fG 0 (fO aq fN))))))) cY)
      (bC (bB nJ hr (a2 (aB wa (fM hV hr (fG 0 (fO (aB bA (aB fL aq (aB kA aq aq)) aq) fN))) (aB kA aq aq)) (aB bA aq (fM hV hr (fG 0 (fO (aB kA aq aq) fN))))))))))
theorem zn4(h:aH K mg "_law_is_row" (top 66)) (zkt:zec P w K mg base):zed P w K mg base:=vh [true,false] ["_law_told","_law_width"] h fun hr nd=>by
  unfold uS zN
  exact(aI (dn (fC.jr (gG (fP (fA fB (zsj 0 zgV rfl B.bN rfl B.kZ Bt.list (pv 0)))) (jt (cZ (gH hr) (zsn 0 qg B.mV Bt.len) (ae 1))))) (bC gq) cY)
      (bC (oQ (jT hr) (bg.pv (zij 0 ["_law_one"] [] ["_law_one"] (by decide) (pv 0) rfl rfl (by kernel_rfl) rfl (by decide) (fun _ _ _ _=>(bR 0 (show(["_law_one"]:List ib).Nodup by decide +kernel))) (by decide) (fun _ _ _ _=>(zis (fP (fA fB (bB zkt hr (a1 (ae 0))))))) (fun _ _ _ _=>(ae 0)))) (bg.pv (et wu)))))
theorem znW(h:aH K mg "_law_added" (top 67)) (zaM:zan P w K mg base):zd7 P w K mg base:=dC ["_law_one","_law_other"] h fun hr nd=>by
  unfold xN zdu
  exact(bC (bg.pv (cp ["_law_a","_law_b"] [] ["_law_a","_law_b"] (zsu rfl B.zk (a2 (ae 0) (ae 1))) (fun nd=>(jR rfl (dI (bR 0 nd) (dI (bR 1 nd) jS)))) js (bB zaM hr (a2 (ae 0) (ae 1))))))
theorem zoc(h:aH K mg "_law_scaled" (top 68)) (yb:zak P w K mg base):zeh P w K mg base:=dC ["_law_number_here","_law_row"] h fun hr nd=>by
  unfold xT zdw
  exact(bC (bg.pv (cp ["_law_one"] [0] ["_law_one","_law_number_here"] (mZ (ae 1)) (fun nd=>(bR 0 nd)) js (bB yb hr (a2 (ae 1) (ae 0))))))
theorem zod(h:aH K mg "_law_spoilt" (top 76)) (hV:xx P w K mg base):zei P w K mg base:=vh [true,false] ["_law_purse_here","_law_row","_law_way","_law_at_here"] h fun hr nd=>by
  unfold xU
  exact(aI (cG 2 nd (fM hV hr (fG 0 (fO aq fN))))
      (aI (dn (cZ (jT hr) (ae 2) aq) (bC (zG zV (ae 1) zI (zJ (zdn zdO aq)))) cY)
      (aI (dn (cZ (jT hr) (ae 2) aq) (bC (bq bo (bg.pv (et (dj zih (dj (mY zaR B.oH Bt.tuple (ae 1)) (dj cV (a3 aq gq (e7 wu))))))) (fM hV hr (fG 0 (fO aq fN))))) cY)
      (aI (dn (cZ (jT hr) (ae 2) aq) (bC (aB bA (ae 1) (bg.pv (et (a1 (e7 (a2 aq aq))))))) cY)
      (aI (cG 3 nd (fM hV hr (fG 0 (fO (jQ qg B.mV Bt.len (ae 1)) fN))))
      (bC (aB bA (aB bA (zG zV (ae 1) zI (zJ (ae 3))) (bg.pv (et (a1 (bq bo (bg.pv (et (dj (e7 (a2 aq aq)) (dj (e7 (a2 aq aq)) (dj aq (a3 zih gq (e7 (a1 aq)))))))) (fM hV hr (fG 0 (fO aq fN)))))))) (zG zV (ae 1) (zJ (aB bA (ae 3) aq)) zI))))))))
theorem zok(h:aH K mg "is_row_of" (top 39)) (zkA:zem P w K mg base):xB P w K mg base:=dC ["row","width"] h fun hr nd=>by
  unfold nF
  exact(bC (oP (bB zkA hr (a1 (ae 0))) (qZ (oQ (jT hr) (jQ qg B.mV Bt.len (ae 0)) (ae 1)))))
theorem zn2(h:aH K mg "_law_cross" (top 73)) (zaI:zaj P w K mg base) (zaM:zan P w K mg base) (yb:zak P w K mg base) (zaK:zam P w K mg base) (zkq:zd7 P w K mg base) (zkw:zeh P w K mg base):zeb P w K mg base:=dC ["_law_count","_law_told","_law_one","_law_other","_law_total","_law_i","_law_j","_law_much"] h fun hr nd=>by
  unfold xQ Ah Ab
  exact(aI (cG 4 nd (bB zaI hr (a1 (aB bA (ae 0) aq))))
      (aI (q8 (mZ (wt (zC (zaQ rfl) rfl B.v3 Bt.sorted (a1 (ae 1))))) (jR rfl (dI (bR 5 nd) (dI (bR 6 nd) jS))) (aI (cG 7 nd (bB zaM hr (a2 (bB yb hr (a2 (bq bo (ae 2) (ae 5)) (bq bo (ae 3) (ae 6)))) (bB zaK hr (a1 (bB yb hr (a2 (bq bo (ae 2) (ae 6)) (bq bo (ae 3) (ae 5)))))))))
      (eB (dn (cZ (gH hr) (bq bo (ae 7) aq) aq) (eB (cG 4 nd (bB zkq hr (a2 (ae 4) (bB zkw hr (a2 (ae 7) (bq (zO hr) (ae 1) (e7 (a2 (ae 5) (ae 6)))))))))) cY))))
      (bC (ae 4))))
theorem zvt(h:aH K mg "refuse_rows" (top 40)) (zbE:wX P w K mg base "NoRow" "NoRow" "place" 1) (uU:xB P w K mg base):zd4 P w K mg base:=fnE [none,none] false ["rows","width","place","row"] h fun hr nd=>by
  unfold nE
  exact(zdk (zrN (zdo rfl B.vZ (a1 (ae 0))) (jR rfl (dI (bR 2 nd) (dI (bR 3 nd) jS))) (zdk (zrO (fP (fA fB (bB uU hr (a2 (ae 3) (ae 1))))) (zdk (zrP zbE hr zuV (a1 (ae 2)))) (zrS cY)))))
theorem zor(h:aH K mg "refuse_rows" (top 40)) (uU:xB P w K mg base):zeq P w K mg base:=dC ["rows","width","place","row"] h fun hr nd=>by
  unfold zeX Al rG
  exact(eB (q8 (zdo rfl B.vZ (a1 (ae 0))) (jR rfl (dI (bR 2 nd) (dI (bR 3 nd) jS))) (eB (dn (fP (fA fB (bB uU hr (a2 (ae 3) (ae 1))))) (eB zK) cY))))
theorem zos(h:aH K mg "rows_by_pair" (top 50)) (zkC:zep P w K mg base) (uU:xB P w K mg base):zes P w K mg base:=dC ["count","leavings","held","place","leaving","i","j","row"] h fun hr nd=>by
  unfold xZ Am Ad
  exact(aI (tX 2 nd zik)
      (aI (q8 (zdo rfl B.vZ (a1 (ae 1))) (jR rfl (dI (bR 3 nd) (dI (bR 4 nd) jS))) (aI (dn (fP (fA fB (bB zkC hr (a2 (ae 4) (ae 0))))) (eB zK) cY)
      (aI (zdq (ae 4) (jR rfl (dI (bR 5 nd) (dI (bR 6 nd) (dI (bR 7 nd) jS)))))
      (aI (dn (zsQ 2 (ztr hr) (e7 (a2 (ae 5) (ae 6)))) (eB zK) cY)
      (aI (dn (fP (fA fB (bB uU hr (a2 (ae 7) (aB bA (ae 0) aq))))) (eB zK) cY)
      (eB (zil 2 (Ae hr) (pv 2) (mY zaR B.oH Bt.tuple (ae 7)) (e7 (a2 (ae 5) (ae 6))))))))))
      (eB (zio 2 (pv 2)))))
theorem znU(vJ:∀ c' cU,Cs.O c'=some (eN,cU)->cU.length=2)(hm:mg "Table"=some (.ref eN)) (M:Mk K eN qm) (F:cM K "__init__" "Table.__init__" (jN 51 0) qm zmh) (zkE:zes P w K mg base) (sr:xC P w K mg base) (zkz:zel P w K mg base):zd5 P w K mg base:=fnI ["self","count","leavings","held"] bu vJ hm M F fun Cc hr nd=>by
  unfold xK wz
  exact(zid (dom:=[]) rfl (zrT (fC.jr (gG (fP (fA fB (bB sr hr (a1 (ae 1))))) (jt (fP (zsN (zdC hr) (zdC hr) aq (ae 1) (zsf (v:=(.int 6)) rfl C.zcT ⟨_,rfl⟩ (fun _=>jJ _))))))) (zrW zrU) zrV)
      (zid (dom:=[3]) rfl (zrX 3 nd (bg.pv (zdp zkE hr (a2 (ae 1) (ae 2)))))
      (zrY (zh2 bu rfl (by decide) (ae 1) (zh2 bu rfl (by decide) (mY zaR B.oH Bt.tuple (bg.pv (cp ["i","j"] [3] ["i","j","held"] (mZ (wt (zC (zaQ rfl) rfl B.v3 Bt.sorted (a1 (ae 3))))) (fun nd=>(jR rfl (dI (bR 0 nd) (dI (bR 1 nd) jS)))) (zis (fP (fA fB (bB zkz hr (a1 (bq (zO hr) (ae 2) (e7 (a2 (ae 0) (ae 1))))))))) (e7 (a3 (ae 0) (ae 1) (bq (zO hr) (ae 2) (e7 (a2 (ae 0) (ae 1))))))))) zrb)))))
theorem zvs(M:Meth K eN "left" kP) (F:cM K "left" "Table.left" (jN 51 1) kP zbF) (zk7:zd4 P w K mg base):zd3 P w K mg base:=zmn [none,none] ["self","one","other","total","i","j","row","weight"] bu M F fun hr nd=>by
  unfold xJ
  exact(zrQ (zrL (zsr zk7 hr zqL (iq (bg.pv (et (a2 (ae 1) (ae 2)))) (iq (aB bA (zE 0 0 bu) aq) oO))))
      zrR)
theorem znV(M:Meth K eN "left" kP) (F:cM K "left" "Table.left" (jN 51 1) kP zbF) (zkD:zeq P w K mg base) (zkB:zeo P w K mg base) (zkG:zet P w K mg base) (yc:zap P w K mg base):zd6 P w K mg base:=zmo [none,none] ["self","one","other","total","i","j","row","weight"] bu M F fun hr nd=>by
  unfold xM Ag Aa
  exact(aI (zsE (bB zkD hr (a2 (bg.pv (et (a2 (ae 1) (ae 2)))) (aB bA (zE 0 0 bu) aq))))
      (aI (tX 3 nd (zsA (zD rfl C.sV C.Af (fun _=>by simp [ag,Fz])) (aB bA (zE 0 0 bu) aq)))
      (aI (q8 (mZ (zE 0 1 bu)) (jR rfl (dI (bR 4 nd) (dI (bR 5 nd) (dI (bR 6 nd) jS)))) (aI (cG 7 nd (bB zkB hr (a2 (bB yc hr (a2 (bq bo (ae 1) (ae 4)) (bq bo (ae 2) (ae 5)))) (bB yc hr (a2 (bq bo (ae 1) (ae 5)) (bq bo (ae 2) (ae 4)))))))
      (eB (zin 3 (tX 3 nd (zdp zkG hr (a3 (ae 3) (ae 7) (ae 6))))))))
      (eB (zio 3 (pv 3))))))
theorem zn0(h:aH K mg "_law_caught" (top 75))  (zb0:lL K fS) (sL:mg "SwapError"=some (.ref fS)) (zcx:∀ c B ns,Cs.X c=some (B,ns)->C1 K (.ref B) (.ref fS)=some true) (zk6:zd3 P w K mg base):zd9 P w K mg base:=fnC 3 4 [some "Table",none,none] ["_law_table","_law_one","_law_other","_law_error","caught"] h zcx fun hr nd=>by
  unfold xP
  exact zkl rfl zb0 sL (zsT 0 zk6 hr (iq (ae 1) (iq (ae 2) oO))) nd
set_option maxHeartbeats 0 in
theorem zon(h:cM K "law" "law" (top 77) fa fd) (zkv:zeg P w K mg base) (zkp:zd5 P w K mg base) (ya:zd6 P w K mg base) (zfd:zei P w K mg base) (zfa:zd9 P w K mg base) (zkr:zd8 P w K mg base) (hV:xx P w K mg base) (zaL:zef P w K mg base) (zkx:zej P w K mg base) (zku:zed P w K mg base) (zks:zeb P w K mg base) (zaK:zam P w K mg base) (zaI:zaj P w K mg base) (zfb:zea P w K mg base) (sF:∀ p∈([("NoRow",0)]:List (String×Nat)),Cs.O p.1=none) (sD:∀ p∈([("NoRow",0)]:List (String×Nat)),ErF K "place" p.1 p.2):cA P w K mg base (bE P w) 8 fa fd ["_law_script"] (jx K 1 false uA):=by
  have S:eY ["_law_script","_law_cell","_law_purse_here","_law_count","_law_told","_law_i","_law_j","_law_table","_law_one","_law_other","_law_first","_law_second","_law_row","_law_due","_law_bad","_law_worse","_law_error"] ["_law_script"] (aM (top 77)):=⟨rfl,rfl,rfl,by decide +kernel,rfl,by decide +kernel,by decide +kernel⟩
  refine cA.pure (zgf (AI 1 false) false h S rfl (by decide) fun av A outer s H E hr=>?_)
  have nd:=S.nd
  refine zL ?_
  unfold xX Ak wQ zP zdB zdA t4 Aj Ac Ai wO zdz
  exact(aI (q8 (mZ (aB bA (zG zV (ae 0) zI (zJ aq)) (bg.pv (et (a1 (bB zkr hr (a2 (ae 0) aq))))))) (bR 1 nd) (aI (tX 2 nd (zdp zkv hr (a2 (ae 1) aq)))
      (aI (cG 3 nd (aB bA aq (fM hV hr (fG 2 (fO aq fN)))))
      (aI (tX 4 nd zik)
      (aI (q8 (tW rfl B.mW (a1 (ae 3))) (bR 5 nd) (eB (q8 (zst rfl B.mW (a2 (aB bA (ae 5) aq) (ae 3))) (bR 6 nd) (eB (dn (cZ (ztq hr) (fM hV hr (fG 2 (fO aq fN))) aq) (eB (zil 4 (Ae hr) (pv 4) (bg.pv (cp ["_law_place"] [2] ["_law_place","_law_purse_here"] (tW rfl B.mW (a1 (aB bA (ae 3) aq))) (fun nd=>(bR 0 nd)) js (fM zaL hr (fG 1 (fO gq fN))))) (e7 (a2 (ae 5) (ae 6))))) cY)))))
      (aI (zin 4 (zsH 7 nd (zsC zkp hr (a2 (ae 3) (bg.pv (cp ["_law_i","_law_j"] [4] ["_law_i","_law_j","_law_told"] (mZ (wt (zC (zaQ rfl) rfl B.v3 Bt.sorted (a1 (ae 4))))) (fun nd=>(jR rfl (dI (bR 0 nd) (dI (bR 1 nd) jS)))) js (e7 (a3 (ae 0) (ae 1) (mY uV B.kZ Bt.list (bq (zO hr) (ae 2) (e7 (a2 (ae 0) (ae 1)))))))))))))
      (aI (ziq 8 (cpS 8 ["_law_place"] [2] ["_law_place","_law_purse_here"] nd (tW rfl B.mW (a1 (aB bA (ae 3) aq))) (fun nd=>(bR 0 nd)) js (fM zaL hr (fG 1 (fO gq fN)))))
      (aI (ziq 9 (cpS 9 ["_law_place"] [2] ["_law_place","_law_purse_here"] nd (tW rfl B.mW (a1 (aB bA (ae 3) aq))) (fun nd=>(bR 0 nd)) js (fM zaL hr (fG 1 (fO gq fN)))))
      (aI (dn (cZ (jT hr) (fM hV hr (fG 2 (fO aq fN))) aq) (eB (cG 9 nd (bB zkx hr (a2 (aB bA (ae 3) aq) (aB wa (ae 3) (fM hV hr (fG 2 (fO aq fN)))))))) cY)
      (aI (cG 10 nd (mY uV B.kZ Bt.list (ae 8)))
      (aI (cG 11 nd (mY uV B.kZ Bt.list (ae 9)))
      (aI (tX 12 nd (zH 7 ya hr (iq (ae 10) (iq (ae 11) oO))))
      (aI (dn (fC.jr (gG (fP (fA fB (fM zku hr (fG 12 (fO (aB bA (ae 3) aq) fN))))) (jt (zsO 12 (gH hr) (bB zks hr (dj (ae 3) (a3 (ae 4) (ae 8) (ae 9)))))))) (bC gq) cY)
      (aI (dn (cZ (gH hr) (bg.pv (zH 7 ya hr (iq (ae 11) (iq (ae 10) oO)))) (bg.pv (zij 12 ["_law_number_here"] [] ["_law_number_here"] (by decide) (pv 12) rfl rfl (by kernel_rfl) rfl (by decide) (fun _ _ _ _=>(bR 0 (show(["_law_number_here"]:List ib).Nodup by decide +kernel))) (by decide) (fun _ _ _ _=>js) (fun _ _ _ _=>(bB zaK hr (a1 (ae 0))))))) (bC gq) cY)
      (aI (cG 13 nd (zso 12 uV B.kZ Bt.list))
      (aI (zsD 12 rfl (pv 12))
      (aI (dn (cZ (gH hr) (bg.pv (zH 7 ya hr (iq (ae 10) (iq (ae 11) oO)))) (ae 13)) (bC gq) cY)
      (aI (dn (fC.jr (gG (cZ (gH hr) (bg.pv (zH 7 ya hr (iq (ae 10) (iq (mY uV B.kZ Bt.list (ae 10)) oO)))) (bB zaI hr (a1 (aB bA (ae 3) aq)))) (gG (cZ (gH hr) (ae 10) (ae 8)) (jt (cZ (gH hr) (ae 11) (ae 9)))))) (bC gq) cY)
      (aI (cG 14 nd (fM zfd hr (fG 2 (fO (ae 8) fN))))
      (aI (cG 15 nd (fM zfd hr (fG 2 (fO (ae 9) fN))))
      (aI (zim 16 nd zfa hr (zhT 7 (iq (ae 14) (iq (bq bo (bg.pv (et (a2 (ae 9) (ae 15)))) (fM hV hr (fG 2 (fO aq fN)))) oO))))
      (aI (dn (fC.jr (gG (cZ (gH hr) (zig 16 zfb hr) cV) (gG (cZ (gH hr) (zF 16 [("NoRow",0)] sF sD) aq) (jt (fA fB (lA zb B.bN B.sY Bt.bool (zF 16 [("NoRow",0)] sF sD))))))) (bC gq) cY)
      (aI (zim 16 nd zfa hr (zhT 7 (iq (ae 8) (iq (ae 15) oO))))
      (eB (dn (fC.jr (gG (cZ (gH hr) (zig 16 zfb hr) cV) (gG (cZ (gH hr) (zF 16 [("NoRow",0)] sF sD) aq) (jt (fA fB (lA zb B.bN B.sY Bt.bool (zF 16 [("NoRow",0)] sF sD))))))) (bC gq) cY)))))))))))))))))))))))))
      (bC gq))
end
end
variable {zc8:Option dm}{zdI zuh zui zuj zvz:Array (Option gV)}{loose zuq:List ib}{yu zc4:dm}{q:AK}{h:Az}{zcZ zl5:Nat}{zqd zqe zqf zvx:gV}{zkT:Option Bool}{l:Ij}{YP:AJ->Az->Prop}{zc5:String}{zf8:Array C4}{d:DefRec}
section
theorem all_mk{K:kb}(X:K.In h)(G:h.Ns AV mg)(yI:mg "law"=some (.ref fa))
   
     {zcG zcH:BJ}
    {zqi zkf:Option dm} {znS zlE zry zfr zk3:gV} 
    {zqh zke:Option dm} {znR zlD zrx zfq zk2:gV} 
  
   {zqo zvy:Option dm} {zpR zts:ib} {zko zt9:List gV} {zm1 zj6:Bool}   {zvn zvo zvp zvq zvr:Option gV}     
    {zqg zkd:Option dm} {znQ zlC zrw zfp zk1:gV} 
  (zjV:aH K mg "is_whole" (top 31))
  (zjP:aH K mg "common_divisor" (top 32))
  (zjR:aH K mg "is_of_noughts" (top 41))
  (zjG:aH K mg "_law_mixed" (top 55))
  (zjw:aH K mg "_law_at" (top 58))
  (zjF:aH K mg "_law_low" (top 59))
  (zjH:aH K mg "_law_not" (top 62))
  (zjE:aH K mg "_law_is_whole" (top 64))
  (zjO:aH K mg "_law_unit" (top 70))
  (zjx:aH K mg "_law_blank" (top 71))
  (zjA:aH K mg "_law_class" (top 74))
  (zjQ:aH K mg "is_number" (top 33))
  (zjZ:aH K mg "plus" (top 34))
  (zj1:aH K mg "times" (top 36))
  (zjU:aH K mg "is_way" (top 46))
  (zjK:aH K mg "_law_purse" (top 56))
  (zjN:aH K mg "_law_take" (top 57))
  (zjJ:aH K mg "_law_plus" (top 60))
  (zjy:aH K mg "_law_by" (top 61))
  (zjC:aH K mg "_law_is_number" (top 65))
  (zjX:aH K mg "less" (top 35))
  (zjS:aH K mg "is_row" (top 38))
  (zj2:aH K mg "with_times" (top 43))
  (zjY:aH K mg "names_two_ways" (top 49))
  (zjI:aH K mg "_law_number" (top 63))
  (zjD:aH K mg "_law_is_row" (top 66))
  (zjv:aH K mg "_law_added" (top 67))
  (zjL:aH K mg "_law_scaled" (top 68))
  (zjM:aH K mg "_law_spoilt" (top 76))
  (zjT:aH K mg "is_row_of" (top 39))
  (zjB:aH K mg "_law_cross" (top 73))
  (zdY:aH K mg "refuse_rows" (top 40))
  (zj0:aH K mg "rows_by_pair" (top 50))
  (zjz:aH K mg "_law_caught" (top 75))
  (zjW:aH K mg "law" (top 77))
  (zcT:AZ K AV "MOST_WAYS"=some (some (.int 6 ug)))
  (sV:AZ K AV "NOUGHT"=some (some (.ref bD)))
  (zo8:K.lookup bD=some ⟨.type "tuple",zc8,.seq #[.int 0 zcG,.int 1 zcH] zcZ,zdI⟩)
  (vY:AZ K AV "abs"=some none)
  (bN:AZ K AV "isinstance"=some none)
  (sZ:AZ K AV "int"=some none)
  (sY:AZ K AV "bool"=some none)
  (oH:AZ K AV "tuple"=some none)
  (kZ:AZ K AV "list"=some none)
  (zhD:AZ K AV "str"=some none)
  (mV:AZ K AV "len"=some none)
  (zj:AZ K AV "all"=some none)
  (mW:AZ K AV "range"=some none)
  (zk:AZ K AV "zip"=some none)
  (vZ:AZ K AV "enumerate"=some none)
  (zhB:AZ K AV "max"=some none)
  (zhC:AZ K AV "min"=some none)
  (zcX:AZ K AV "sum"=some none)
  (v3:AZ K AV "sorted"=some none)
  (zhA:AZ K AV "dict"=some none)
  (zhz:AZ K AV "any"=some none)
  (znE:AZ K AV "Table"=some (some (.ref eN)))
  (znF:FN K eN Str.empty=true)
  (znG:E9 K eN=true)
  (znH:Hr K eN=true)
  (znI:Bz K (.ref eN) "__setattr__"=some (some (.builtin "object.__setattr__")))
  (zoC:Bz K (.ref eN) "count"=some none)
  (zoD:Bz K (.ref eN) "leavings"=some none)
  (znJ:Hw K eN=true)
  (znK:Bz K (.ref eN) "__init__"=some (some (.ref qm)))
  (znL:DI K (.ref qm)=true)
  (znM:CQ K (.ref eN)=true)
  (zgO:K.lookup qm=some ⟨zqe,zqh,.func (BX "__init__" "Table.__init__" (fU (jN 51 0)) (bZ (jN 51 0)) (aM (jN 51 0)) .none znR zlD zrx zke zfq zk2),zui⟩)
  (znC:Du K zfq "Table.__init__"=true)
  (znD:CQ K (.ref qm)=true)
  (zhq:Bz K (.ref eN) "left"=some (some (.ref kP)))
  (zhr:DI K (.ref kP)=true)
  (zh:CQ K (.ref kP)=true)
  (zi:K.lookup kP=some ⟨zqf,zqi,.func (BX "left" "Table.left" (fU (jN 51 1)) (bZ (jN 51 1)) (aM (jN 51 1)) .none znS zlE zry zkf zfr zk3),zuj⟩)
  (zhs:Du K zfr "Table.left"=true)
  (zsX:AZ K AV "Broken"=some (some (.ref oZ)))
  (zsY:AZ K AV "NoCount"=some (some (.ref o7)))
  (zsZ:AZ K AV "NoDeed"=some (some (.ref o8)))
  (zs0:AZ K AV "NoLeast"=some (some (.ref o9)))
  (zs1:AZ K AV "NoLine"=some (some (.ref pe)))
  (zs2:AZ K AV "NoMatch"=some (some (.ref pf)))
  (zs3:AZ K AV "NoName"=some (some (.ref ph)))
  (zs4:AZ K AV "NoNumber"=some (some (.ref pj)))
  (zs5:AZ K AV "NoPair"=some (some (.ref pq)))
  (zs6:AZ K AV "NoPlace"=some (some (.ref pA)))
  (zs7:AZ K AV "NoRow"=some (some (.ref aK)))
  (zs8:AZ K AV "NoShelf"=some (some (.ref pB)))
  (zs9:AZ K AV "NoSquare"=some (some (.ref pC)))
  (zta:AZ K AV "NoSum"=some (some (.ref pD)))
  (ztb:AZ K AV "NoText"=some (some (.ref pE)))
  (ztc:AZ K AV "NoTree"=some (some (.ref pF)))
  (ztd:AZ K AV "NoWord"=some (some (.ref pG)))
  (zte:AZ K AV "NotActing"=some (some (.ref pH)))
  (ztf:AZ K AV "NotBare"=some (some (.ref pI)))
  (ztg:AZ K AV "NotEaten"=some (some (.ref pJ)))
  (zth:AZ K AV "NotFree"=some (some (.ref pK)))
  (zti:AZ K AV "NotGap"=some (some (.ref pL)))
  (ztj:AZ K AV "NotKept"=some (some (.ref pM)))
  (ztk:AZ K AV "NotNought"=some (some (.ref pN)))
  (ztl:AZ K AV "NotOne"=some (some (.ref pO)))
  (ztn:AZ K AV "TooDeep"=some (some (.ref pP)))
  (zto:AZ K AV "TooLong"=some (some (.ref pQ)))
  (ztm:AZ K AV "SwapError"=some (some (.ref fS)))
  (ztp:AZ K AV "ValueError"=some none)
  (zlX:Bz K (.ref aK) "__getattribute__"=some (some (.builtin "BaseException.__getattribute__")))
  (zlY:Bz K (.ref aK) "__getattr__"=some none)
  (zlZ:Bz K (.ref aK) "__class__"=some (some (.builtin "object.__class__")))
  (zfW:C1 K (.ref aK) (.type "BaseException")=some true)
  (zl0:GO K aK (.type "object")=some true)
  (zl1:E9 K aK=true)
  (zl2:Bz K (.ref aK) "__setattr__"=some (some (.builtin "object.__setattr__")))
  (za7:K.lookup aK=some (ErO aK fS zc4 zqo zpR zts zko zt9 zm1 zj6 zuq zkT zvn zvo zvp zvq zvr zc5))
  (zfT:K.lookup zc4=some ⟨zvx,zvy,.dict zf8 zl5,zvz⟩)
  (zfU:AZ K zc4 "__init__"=some (some (.ref yu)))
  (zfV:(zf8.toList.all fun e=>match e.key with | .str _ _=>true|_=>false)=true)
  (zlW:zc5="ValueError.__new__"\/zc5="Exception.__new__")
  (zlS:DI K (.ref yu)=true)
  (zfS:K.lookup yu=some ⟨zqd,zqg,.func (BX "__init__" "NoRow.__init__" (fU (jN 14 0)) (bZ (jN 14 0)) (aM (jN 14 0)) .none znQ zlC zrw zkd zfp zk1),zuh⟩)
  (zlT:Du K zfp "NoRow.__init__"=true)
  (zlU:CQ K (.ref yu)=true)
  (zlV:Bz K (.ref aK) "place"=some none)
  (zoE:Bh K (.ref aK) (.ref oZ)=some false)
  (zoF:Bh K (.ref aK) (.ref o7)=some false)
  (zoG:Bh K (.ref aK) (.ref o8)=some false)
  (zoH:Bh K (.ref aK) (.ref o9)=some false)
  (zoI:Bh K (.ref aK) (.ref pe)=some false)
  (zoJ:Bh K (.ref aK) (.ref pf)=some false)
  (zoK:Bh K (.ref aK) (.ref ph)=some false)
  (zoL:Bh K (.ref aK) (.ref pj)=some false)
  (zoM:Bh K (.ref aK) (.ref pq)=some false)
  (zoN:Bh K (.ref aK) (.ref pA)=some false)
  (zoO:Bh K (.ref aK) (.ref aK)=some true)
  (zoP:Bh K (.ref aK) (.ref pB)=some false)
  (zoQ:Bh K (.ref aK) (.ref pC)=some false)
  (zoR:Bh K (.ref aK) (.ref pD)=some false)
  (zoS:Bh K (.ref aK) (.ref pE)=some false)
  (zoT:Bh K (.ref aK) (.ref pF)=some false)
  (zoU:Bh K (.ref aK) (.ref pG)=some false)
  (zoV:Bh K (.ref aK) (.ref pH)=some false)
  (zoW:Bh K (.ref aK) (.ref pI)=some false)
  (zoX:Bh K (.ref aK) (.ref pJ)=some false)
  (zoY:Bh K (.ref aK) (.ref pK)=some false)
  (zoZ:Bh K (.ref aK) (.ref pL)=some false)
  (zo0:Bh K (.ref aK) (.ref pM)=some false)
  (zo1:Bh K (.ref aK) (.ref pN)=some false)
  (zo2:Bh K (.ref aK) (.ref pO)=some false)
  (zo4:Bh K (.ref aK) (.ref pP)=some false)
  (zo5:Bh K (.ref aK) (.ref pQ)=some false)
  (zo3:Bh K (.ref aK) (.ref fS)=some true)
  (zo6:Bh K (.ref aK) (.type "ValueError")=some true)
  (zut:C1 K (.ref aK) (.ref fS)=some true)
  (zkH:Fd K (.ref fS)=some (.type "type"))
  (zkI:Gh K fS gB "Exception.__new__"=true\/Gh K fS gB "ValueError.__new__"=true)
  (zfk:C1 K (.ref fS) (.type "BaseException")=some true) :
  ∃(cl:CL) (ob xb:String->Option (dm×List ib)) (fd:A9),g9 cl K/\(∀(s:ir) (v:gV),Fe s fd ⟨[v],[]⟩ [("_law_script",v)])/\∀ base:Az,(aD (cl.map (·.1)) K).In base->base.Ns AV mg->cA l.prog w (aD (cl.map (·.1)) K) mg base (bE l.prog w) 8 fa fd ["_law_script"] (@jx (sv cl ob xb) (aD (cl.map (·.1)) K) 1 false uA):=by
 obtain⟨f,fd,hm,Fl⟩:=id zjW
 have e:=yI.symm.trans hm
 cases e
 obtain⟨oc,od,kV,dc,pm,an,cd,ct,sl,rfl,lk,fi⟩:=id Fl.ex
 have hC:g9 [(bD,⟨.type "tuple",zc8,.seq #[.int 0 zcG,.int 1 zcH] zcZ,zdI⟩,[.int 0,.int 1])] K:=(g9.cons zo8 (.cons ⟨_,rfl⟩ (.cons ⟨_,rfl⟩ (.nil))) (by decide) g9.nil)
 refine⟨_,(fun c=>if c="Table" then some (eN,["count","leavings"]) else none),(fun c=>if c="NoRow" then some (aK,["place"]) else none),BX "law" "law" (fU (top 77)) (bZ (top 77)) (aM (top 77)) .none kV dc pm an cd ct,hC,fun s v=>.of_eq rfl,fun base _ _=>?_⟩
 have B:Blt mg:=⟨B8 X G vY,B8 X G bN,B8 X G sZ,B8 X G sY,B8 X G oH,B8 X G kZ,B8 X G zhD,B8 X G mV,B8 X G zj,B8 X G mW,B8 X G zk,B8 X G vZ,B8 X G zhB,B8 X G zhC,B8 X G zcX,B8 X G v3,B8 X G zhA,B8 X G zhz⟩
 letI:Cs:=sv [(bD,⟨.type "tuple",zc8,.seq #[.int 0 zcG,.int 1 zcH] zcZ,zdI⟩,[.int 0,.int 1])] (fun c=>if c="Table" then some (eN,["count","leavings"]) else none) (fun c=>if c="NoRow" then some (aK,["place"]) else none)
 have bu:Ob (aD (([bD]:List dm)) K) "Table" eN ["count","leavings"]:=⟨if_pos rfl,gv.cut hC.aL ⟨znF,znG,znH,znI⟩,fun f hf=>eZ.cut hC.aL (by
  simp only [A6,Cm,or_false] at hf
  rcases hf with rfl|rfl
  ·exact zoC
  ·exact zoD
  ),by decide +kernel⟩
 have C:Cst mg ug bD:=⟨Bq X G zcT,Bq X G sV,zmX (ob:=fun _=>none) hC (List.Mem.head _)⟩
 have zb4:=Bq X G zsX
 have zb5:=Bq X G zsY
 have zb6:=Bq X G zsZ
 have zb7:=Bq X G zs0
 have zb8:=Bq X G zs1
 have zb9:=Bq X G zs2
 have zca:=Bq X G zs3
 have zcb:=Bq X G zs4
 have zcc:=Bq X G zs5
 have zcd:=Bq X G zs6
 have yM:=Bq X G zs7
 have zce:=Bq X G zs8
 have zcf:=Bq X G zs9
 have zcg:=Bq X G zta
 have zch:=Bq X G ztb
 have zci:=Bq X G ztc
 have zcj:=Bq X G ztd
 have zck:=Bq X G zte
 have zcl:=Bq X G ztf
 have zcm:=Bq X G ztg
 have zcn:=Bq X G zth
 have zco:=Bq X G zti
 have zcp:=Bq X G ztj
 have zcq:=Bq X G ztk
 have zcr:=Bq X G ztl
 have zcs:=Bq X G ztn
 have zct:=Bq X G zto
 have sL:=Bq X G ztm
 have zcu:=B8 X G ztp
 have df:i7 (aD (([bD]:List dm)) K) aK:=i7.cut hC.aL ⟨zlX,zlY,zlZ,zfW,zl0,zfy zfW⟩
 have zfY:jX (aD (([bD]:List dm)) K) aK:=⟨df,yh hC.aL zl1,yh hC.aL (zkV za7).2,j7 hC.aL zl2⟩
 have zhE:eZ (aD (([bD]:List dm)) K) aK "place":=eZ.cut hC.aL zlV
 have zbE:wX l.prog w (aD (([bD]:List dm)) K) mg base "NoRow" "NoRow" "place" 1:=zmb yM rfl rfl (zqE zlW (zmd hC.aL (zkI.elim (fun z=>zf9 z za7 zfT zfV zfU) fun z=>zf9 z za7 zfT zfV zfU))) (zcC hC.aL zfS (fun _ _ z=>nomatch z) zlS) (cM.cut hC.aL (vj zfS zlT zlU)) zfY zhE rfl ⟨rfl,rfl,rfl,by decide +kernel,rfl,by decide +kernel,by decide +kernel⟩ (fun _ _ _ _ _ _=>pv _) (fun _ _ _ _ _ _=>pv _) (fun _ _ _ _ _ _ us hl=>match us,hl with | [_,_],_=>rfl)
 have zb0:lL (aD (([bD]:List dm)) K) fS:=lL.cut hC.aL ⟨zkH,zfy zfk,zfk⟩
 have zcx:∀ c B ns,Cs.X c=some (B,ns)->C1 (aD (([bD]:List dm)) K) (.ref B) (.ref fS)=some true:=fun c B ns e=>by
  have e:((fun c=>if c="NoRow" then some (aK,["place"]) else none):String->Option (dm×List ib)) c=some (B,ns):=e
  simp only at e
  split at e
  ·cases e
   exact uc hC.aL zut
  cases e
 have za8:∀ p∈([("NoRow",false)]:List (String×Bool)),bc (aD (([bD]:List dm)) K) (.ref oZ) p.1 p.2:=cR ⟨rfl,aK,_,rfl,df,dg hC.aL zoE⟩ (cQ)
 have za9:∀ p∈([("NoRow",false)]:List (String×Bool)),bc (aD (([bD]:List dm)) K) (.ref o7) p.1 p.2:=cR ⟨rfl,aK,_,rfl,df,dg hC.aL zoF⟩ (cQ)
 have zba:∀ p∈([("NoRow",false)]:List (String×Bool)),bc (aD (([bD]:List dm)) K) (.ref o8) p.1 p.2:=cR ⟨rfl,aK,_,rfl,df,dg hC.aL zoG⟩ (cQ)
 have zbb:∀ p∈([("NoRow",false)]:List (String×Bool)),bc (aD (([bD]:List dm)) K) (.ref o9) p.1 p.2:=cR ⟨rfl,aK,_,rfl,df,dg hC.aL zoH⟩ (cQ)
 have zbc:∀ p∈([("NoRow",false)]:List (String×Bool)),bc (aD (([bD]:List dm)) K) (.ref pe) p.1 p.2:=cR ⟨rfl,aK,_,rfl,df,dg hC.aL zoI⟩ (cQ)
 have zbd:∀ p∈([("NoRow",false)]:List (String×Bool)),bc (aD (([bD]:List dm)) K) (.ref pf) p.1 p.2:=cR ⟨rfl,aK,_,rfl,df,dg hC.aL zoJ⟩ (cQ)
 have zbe:∀ p∈([("NoRow",false)]:List (String×Bool)),bc (aD (([bD]:List dm)) K) (.ref ph) p.1 p.2:=cR ⟨rfl,aK,_,rfl,df,dg hC.aL zoK⟩ (cQ)
 have zbf:∀ p∈([("NoRow",false)]:List (String×Bool)),bc (aD (([bD]:List dm)) K) (.ref pj) p.1 p.2:=cR ⟨rfl,aK,_,rfl,df,dg hC.aL zoL⟩ (cQ)
 have zbg:∀ p∈([("NoRow",false)]:List (String×Bool)),bc (aD (([bD]:List dm)) K) (.ref pq) p.1 p.2:=cR ⟨rfl,aK,_,rfl,df,dg hC.aL zoM⟩ (cQ)
 have zbh:∀ p∈([("NoRow",false)]:List (String×Bool)),bc (aD (([bD]:List dm)) K) (.ref pA) p.1 p.2:=cR ⟨rfl,aK,_,rfl,df,dg hC.aL zoN⟩ (cQ)
 have zbi:∀ p∈([("NoRow",true)]:List (String×Bool)),bc (aD (([bD]:List dm)) K) (.ref aK) p.1 p.2:=cR ⟨rfl,aK,_,rfl,df,dg hC.aL zoO⟩ (cQ)
 have zbj:∀ p∈([("NoRow",false)]:List (String×Bool)),bc (aD (([bD]:List dm)) K) (.ref pB) p.1 p.2:=cR ⟨rfl,aK,_,rfl,df,dg hC.aL zoP⟩ (cQ)
 have zbk:∀ p∈([("NoRow",false)]:List (String×Bool)),bc (aD (([bD]:List dm)) K) (.ref pC) p.1 p.2:=cR ⟨rfl,aK,_,rfl,df,dg hC.aL zoQ⟩ (cQ)
 have zbl:∀ p∈([("NoRow",false)]:List (String×Bool)),bc (aD (([bD]:List dm)) K) (.ref pD) p.1 p.2:=cR ⟨rfl,aK,_,rfl,df,dg hC.aL zoR⟩ (cQ)
 have zbm:∀ p∈([("NoRow",false)]:List (String×Bool)),bc (aD (([bD]:List dm)) K) (.ref pE) p.1 p.2:=cR ⟨rfl,aK,_,rfl,df,dg hC.aL zoS⟩ (cQ)
 have zbn:∀ p∈([("NoRow",false)]:List (String×Bool)),bc (aD (([bD]:List dm)) K) (.ref pF) p.1 p.2:=cR ⟨rfl,aK,_,rfl,df,dg hC.aL zoT⟩ (cQ)
 have zbo:∀ p∈([("NoRow",false)]:List (String×Bool)),bc (aD (([bD]:List dm)) K) (.ref pG) p.1 p.2:=cR ⟨rfl,aK,_,rfl,df,dg hC.aL zoU⟩ (cQ)
 have zbp:∀ p∈([("NoRow",false)]:List (String×Bool)),bc (aD (([bD]:List dm)) K) (.ref pH) p.1 p.2:=cR ⟨rfl,aK,_,rfl,df,dg hC.aL zoV⟩ (cQ)
 have zbq:∀ p∈([("NoRow",false)]:List (String×Bool)),bc (aD (([bD]:List dm)) K) (.ref pI) p.1 p.2:=cR ⟨rfl,aK,_,rfl,df,dg hC.aL zoW⟩ (cQ)
 have zbr:∀ p∈([("NoRow",false)]:List (String×Bool)),bc (aD (([bD]:List dm)) K) (.ref pJ) p.1 p.2:=cR ⟨rfl,aK,_,rfl,df,dg hC.aL zoX⟩ (cQ)
 have zbs:∀ p∈([("NoRow",false)]:List (String×Bool)),bc (aD (([bD]:List dm)) K) (.ref pK) p.1 p.2:=cR ⟨rfl,aK,_,rfl,df,dg hC.aL zoY⟩ (cQ)
 have zbt:∀ p∈([("NoRow",false)]:List (String×Bool)),bc (aD (([bD]:List dm)) K) (.ref pL) p.1 p.2:=cR ⟨rfl,aK,_,rfl,df,dg hC.aL zoZ⟩ (cQ)
 have zbu:∀ p∈([("NoRow",false)]:List (String×Bool)),bc (aD (([bD]:List dm)) K) (.ref pM) p.1 p.2:=cR ⟨rfl,aK,_,rfl,df,dg hC.aL zo0⟩ (cQ)
 have zbv:∀ p∈([("NoRow",false)]:List (String×Bool)),bc (aD (([bD]:List dm)) K) (.ref pN) p.1 p.2:=cR ⟨rfl,aK,_,rfl,df,dg hC.aL zo1⟩ (cQ)
 have zbw:∀ p∈([("NoRow",false)]:List (String×Bool)),bc (aD (([bD]:List dm)) K) (.ref pO) p.1 p.2:=cR ⟨rfl,aK,_,rfl,df,dg hC.aL zo2⟩ (cQ)
 have zby:∀ p∈([("NoRow",false)]:List (String×Bool)),bc (aD (([bD]:List dm)) K) (.ref pP) p.1 p.2:=cR ⟨rfl,aK,_,rfl,df,dg hC.aL zo4⟩ (cQ)
 have zbz:∀ p∈([("NoRow",false)]:List (String×Bool)),bc (aD (([bD]:List dm)) K) (.ref pQ) p.1 p.2:=cR ⟨rfl,aK,_,rfl,df,dg hC.aL zo5⟩ (cQ)
 have zbx:∀ p∈([("NoRow",true)]:List (String×Bool)),bc (aD (([bD]:List dm)) K) (.ref fS) p.1 p.2:=cR ⟨rfl,aK,_,rfl,df,dg hC.aL zo3⟩ (cQ)
 have zbA:∀ p∈([("NoRow",true)]:List (String×Bool)),bc (aD (([bD]:List dm)) K) (.ty "ValueError") p.1 p.2:=cR ⟨rfl,aK,_,rfl,df,dg hC.aL zo6⟩ (cQ)
 have sF:∀ p∈([("NoRow",0)]:List (String×Nat)),Cs.O p.1=none:=cR rfl (cQ)
 have sD:∀ p∈([("NoRow",0)]:List (String×Nat)),ErF (aD (([bD]:List dm)) K) "place" p.1 p.2:=cR ⟨aK,_,rfl,rfl,by decide,zfY,zhE⟩ (cQ)
 have za1:=zom (P:=l.prog) (w:=w) (base:=base) B C bu (zjV.cut hC.aL)
 have zaZ:=zog (P:=l.prog) (w:=w) (base:=base) B C bu (zjP.cut hC.aL)
 have zlq:=zoi (P:=l.prog) (w:=w) (base:=base) B C bu (zjR.cut hC.aL)
 have zfH:=zn7 (P:=l.prog) (w:=w) (base:=base) B C bu (zjG.cut hC.aL)
 have zlb:=znX (P:=l.prog) (w:=w) (base:=base) B C bu (zjw.cut hC.aL)
 have ym:=zn6 (P:=l.prog) (w:=w) (base:=base) B C bu (zjF.cut hC.aL)
 have zfI:=zn8 (P:=l.prog) (w:=w) (base:=base) B C bu (zjH.cut hC.aL)
 have zlh:=zn5 (P:=l.prog) (w:=w) (base:=base) B C bu (zjE.cut hC.aL)
 have zlm:=zof (P:=l.prog) (w:=w) (base:=base) B C bu (zjO.cut hC.aL)
 have zfF:=znY (P:=l.prog) (w:=w) (base:=base) B C bu (zjx.cut hC.aL)
 have zld:=zn1 (P:=l.prog) (w:=w) (base:=base) B C bu (zjA.cut hC.aL) zb4 za8 zb5 za9 zb6 zba zb7 zbb zb8 zbc zb9 zbd zca zbe zcb zbf zcc zbg zcd zbh yM zbi zce zbj zcf zbk zcg zbl zch zbm zci zbn zcj zbo zck zbp zcl zbq zcm zbr zcn zbs zco zbt zcp zbu zcq zbv zcr zbw zcs zby zct zbz sL zbx zcu zbA
 have zlp:=zoh (P:=l.prog) (w:=w) (base:=base) B C bu (zjQ.cut hC.aL) zaZ za1
 have zfK:=zoq (P:=l.prog) (w:=w) (base:=base) B C bu (zjZ.cut hC.aL) zaZ
 have zfL:=zot (P:=l.prog) (w:=w) (base:=base) B C bu (zj1.cut hC.aL) zaZ
 have zls:=zol (P:=l.prog) (w:=w) (base:=base) B C bu (zjU.cut hC.aL) za1
 have zlj:=zob (P:=l.prog) (w:=w) (base:=base) B C bu (zjK.cut hC.aL) zfH
 have zaY:=zoe (P:=l.prog) (w:=w) (base:=base) B C bu (zjN.cut hC.aL) zfH
 have zfJ:=zoa (P:=l.prog) (w:=w) (base:=base) B C bu (zjJ.cut hC.aL) ym
 have zfG:=znZ (P:=l.prog) (w:=w) (base:=base) B C bu (zjy.cut hC.aL) ym
 have zlf:=zn3 (P:=l.prog) (w:=w) (base:=base) B C bu (zjC.cut hC.aL) zlh ym
 have zlv:=zoo (P:=l.prog) (w:=w) (base:=base) B C bu (zjX.cut hC.aL) zfK
 have zlr:=zoj (P:=l.prog) (w:=w) (base:=base) B C bu (zjS.cut hC.aL) zlp
 have zlA:=zou (P:=l.prog) (w:=w) (base:=base) B C bu (zj2.cut hC.aL) zfK zfL
 have zlw:=zop (P:=l.prog) (w:=w) (base:=base) B C bu (zjY.cut hC.aL) zls
 have zli:=zn9 (P:=l.prog) (w:=w) (base:=base) B C bu (zjI.cut hC.aL) zaY ym
 have zlg:=zn4 (P:=l.prog) (w:=w) (base:=base) B C bu (zjD.cut hC.aL) zlf
 have zla:=znW (P:=l.prog) (w:=w) (base:=base) B C bu (zjv.cut hC.aL) zfJ
 have zlk:=zoc (P:=l.prog) (w:=w) (base:=base) B C bu (zjL.cut hC.aL) zfG
 have zll:=zod (P:=l.prog) (w:=w) (base:=base) B C bu (zjM.cut hC.aL) zaY
 have za0:=zok (P:=l.prog) (w:=w) (base:=base) B C bu (zjT.cut hC.aL) zlr
 have zle:=zn2 (P:=l.prog) (w:=w) (base:=base) B C bu (zjB.cut hC.aL) zfF zfJ zfG zfI zla zlk
 have zlR:=zvt (P:=l.prog) (w:=w) (base:=base) B C bu (zdY.cut hC.aL) zbE za0
 have zlx:=zor (P:=l.prog) (w:=w) (base:=base) B C bu (zdY.cut hC.aL) za0
 have zly:=zos (P:=l.prog) (w:=w) (base:=base) B C bu (zj0.cut hC.aL) zlw za0
 have zk8:=znU (P:=l.prog) (w:=w) (base:=base) B C bu (fun c ns e=>by
  have e:((fun c=>if c="Table" then some (eN,["count","leavings"]) else none):String->Option (dm×List ib)) c=some (eN,ns):=e
  simp only at e
  split at e <;> cases e
  rfl) (Bq X G znE) (Mk.cut hC.aL zgO ⟨znJ,znK,znL,znM⟩) (cM.cut hC.aL (vj zgO znC znD)) zly za1 zlq
 have zlQ:=zvs (P:=l.prog) (w:=w) (base:=base) B C bu (Meth.cut hC.aL zi ⟨zhq,zhr,zh⟩) (cM.cut hC.aL (vj zi zhs zh)) zlR
 have zk9:=znV (P:=l.prog) (w:=w) (base:=base) B C bu (Meth.cut hC.aL zi ⟨zhq,zhr,zh⟩) (cM.cut hC.aL (vj zi zhs zh)) zlx zlv zlA zfL
 have zlc:=zn0 (P:=l.prog) (w:=w) (base:=base) B C bu (zjz.cut hC.aL) zb0 sL zcx zlQ
 have zlu:=zon (P:=l.prog) (w:=w) (base:=base) B C bu (cM.cut hC.aL Fl) zlj zk8 zk9 zll zlc zlb zaY zli zlm zlg zle zfI zfF zld sF sD
 exact zlu
theorem walk{XP:(ib->Option gV)->Az->Prop}{K:Params->kb}(zb3:∀ ns:List Int,ns.length<=63->uA [.list (ns.map Bi)]=.ok (.bool true))(hn:l.most=some 63)(vz:d.params.defaults=[])(hi:importsNone q=true)(vI:l.prog.given.tree=none)
  (hY:∀(w:AJ) (h:Az),YP w h->(K w.params).In h)
  (F:∀(w:AJ) (mg:ib->Option gV) (fa:dm) (h:Az),(K w.params).In h->h.Ns AV mg->mg d.name=some (.ref fa) ->
   ∃(cl:CL) (ob xb:String->Option (dm×List ib)) (fd:A9),g9 cl (K w.params)/\(∀(s:ir) (u:gV),Fe s fd ⟨[u],[]⟩ [("_law_script",u)])/\∀ base:Az,(aD (cl.map (·.1)) (K w.params)).In base->base.Ns AV mg->cA l.prog w (aD (cl.map (·.1)) (K w.params)) mg base (bE l.prog w) 8 fa fd ["_law_script"] (@jx (sv cl ob xb) (aD (cl.map (·.1)) (K w.params)) 1 false uA)) :
  PySem.W.WalkO q loose XP YP l.row.toRowW d [] (fun f vs=>HK f vs) :=
 zvg (k:=8) (x:="_law_script") zb3 hn vz hi vI ⟨rfl,by decide,by decide,rfl⟩ hY F
end
end K10
namespace FL
open PySem
variable {f:EF}{i k m n:Nat}{ix:List Nat}{y:D×En}{a b d:D}{t:TF}{j:Int}{items:List D}{α:Type}{ρ:En}{g:GF}{x:Sl}
section
theorem zaX{k:Nat}{ix:List Nat}{g:GF}{t:TF}{f:EF}{ρ:En}(P:D->Bool)(h:D->D):∀(items:List D) (acc:List D),acc.length+items.length<=lim ->
  (∀ x∈items,∃ β,g x (bP k ix ρ)=.ok β/\t β=.ok (P x,β)/\(P x=true->f β=.ok (h x,β))/\back ρ ix (β.drop k)=ρ)->fT k ix g t f items ρ acc=.ok (acc++(items.filter P).map h,ρ)
 | [],acc,_,_=>by simp [fT]
 | x::xs,acc,hl,hx=>by
  obtain⟨β,h1,h2,h3,h4⟩:=hx x (Bu ..)
  have rest:=fun y m=>hx y (Bp x m)
  simp only [A0] at hl
  unfold fT
  rw [h1,ao,h2,ao]
  cases c:P x with
  | true =>
   rw [if_pos rfl,h3 c,ao,eQ (ko (by omega)),h4,zaX P h xs _ (by simp;omega) rest,JO c]
   simp
  | false =>
   rw [if_neg (by simp),h4,zaX P h xs acc (by omega) rest,JP (by simp [c])]
theorem zfX{io:Nat}(P:D->Bool)(h:D->D)(hi:e6 ρ io=.ok items)(hl:items.length<=lim)
  (hx:∀ x∈items,∃ β,g x (bP k ix ρ)=.ok β/\t β=.ok (P x,β)/\(P x=true->f β=.ok (h x,β))/\back ρ ix (β.drop k)=ρ):sA k ix io g t f ρ=.ok (.list ((items.filter P).map h),ρ):=by
 unfold sA
 rw [hi,ao,zaX P h items [] (by simpa using hl) hx]
 rfl
theorem zkm(ns:List Bool):boolsOf (ns.map Cb)=some ns:=by
 induction ns with
 | nil=>rfl
 | cons n ns ih=>simp [boolsOf,ih]
theorem zas(bs:List Bool):r6 (.list (bs.map Cb))=.ok (.bool (bs.all id)):=by
 show((R.of (boolsOf _)).bind _)=_
 rw [zkm];rfl
theorem zk4(xs:List α)(p:Nat):cut xs none (some (p:Int))=xs.take p:=by
 unfold cut aT
 simp only
 rw [if_neg (by omega),C5,Iu]
 by_cases h:p<=xs.length
 ·rw [show min (p:Int).toNat xs.length=p by omega]
 ·rw [show min (p:Int).toNat xs.length=xs.length by omega,List.take_length,HL (by omega)]
theorem zS(lo hi:Int):eD lo hi=((B4 (hi-lo).toNat).map fun(i:Nat)=>lo+(i:Int)).map Bi:=by
 unfold eD
 rw [B3];rfl
def Pl(n:Nat)(d:D):Prop:=F7 d=true/\d.depth<=n
theorem Pl.shaped(h:Pl n d)(hn:n<=64:=by decide):Dz d=true:=by
 unfold Dz
 rw [h.1,decide_eq_true (By h.2 hn)];rfl
theorem qV(i:Int):Pl 0 (.int i):=⟨rfl,AO _⟩
theorem zdf{n:Nat}:∀{ds:List D},(∀ d∈ds,Pl n d)->GX ds=true/\PyData.depthAll ds<=n
 | [],_=>⟨rfl,B2 _⟩
 | d::ds,h=>by
  obtain⟨a,b⟩:=zdf fun x m=>h x (Bp d m)
  obtain⟨c,e⟩:=h d (Bu ..)
  refine⟨by simp only [GX];rw [c,a];rfl,?_⟩
  simp only [PyData.depthAll]
  omega
theorem zh8{ds:List D}(h:∀ d∈ds,Pl n d):Pl (n+1) (.tuple ds):=by
 obtain⟨a,b⟩:=zdf h
 exact⟨a,by simp only [PyData.depth];omega⟩
theorem zrp{ds:List D}(h:∀ d∈ds,Pl n d):Pl (n+1) (.list ds):=by
 obtain⟨a,b⟩:=zdf h
 exact⟨a,by simp only [PyData.depth];omega⟩
theorem zf4{α:Type}[DecidableEq α](f:α->D)(h:∀ a b,DN (f a) (f b)=decide (a=b)):∀ xs ys:List α,Gi (xs.map f) (ys.map f)=decide (xs=ys)
 | [],[]=>rfl
 | [],y::ys=>by simp [Gi]
 | x::xs,[]=>by simp [Gi]
 | x::xs,y::ys=>by
  simp only [A2,Gi]
  rw [h,zf4 f h xs ys]
  by_cases e1:x=y <;> by_cases e2:xs=ys <;> simp [e1,e2]
theorem zbD(a b:Int):DN (.int a) (.int b)=decide (a=b):=by
 show(a==b)=_
 rw [Bool.beq_eq_decide_eq]
abbrev tp(w:List Int):D:=.tuple (w.map Bi)
theorem zh7(w:List Int):Pl 1 (tp w):=zh8 fun d m=>by
 obtain⟨i,_,rfl⟩:=Cq.mp m
 exact qV i
theorem zma(a b:List Int):DN (tp a) (tp b)=decide (a=b):=by
 show Gi _ _=_
 exact zf4 _ zbD a b
theorem zf3(ha:Pl n a)(hb:Pl m b)(hn:n<=64:=by decide)(hm:m<=64:=by decide):dR a b=.ok (.bool (DN a b)):=by
 unfold dR
 rw [ha.shaped hn,hb.shaped hm];rfl
theorem zhG(ha:Pl n a)(hb:Pl m b)(hn:n<=64:=by decide)(hm:m<=64:=by decide):b9 a b=.ok (.bool (!DN a b)):=by
 unfold b9
 rw [ha.shaped hn,hb.shaped hm];rfl
theorem zl9(a b:List Int):dR (tp a) (tp b)=.ok (.bool (decide (a=b))):=by rw [zf3 (zh7 a) (zh7 b),zma]
theorem qk(a b:Int):dR (.int a) (.int b)=.ok (.bool (decide (a=b))):=by rw [zf3 (qV a) (qV b),zbD]
theorem tf(a b:Int):b9 (.int a) (.int b)=.ok (.bool (!decide (a=b))):=by rw [zhG (qV a) (qV b),zbD]
theorem zcS(i j:Int):f9 (.int i) (.int j)=.ok (.bool (decide (i<j))):=rfl
theorem zg3(i j:Int):oC (.int i) (.int j)=.ok (.bool (decide (i<=j))):=rfl
theorem zmK(i j:Int):mE (.int i) (.int j)=.ok (.bool (decide (j<=i))):=rfl
theorem zR(h:0<=j)(h2:j<=1000000):ju [.int j]=.ok (eD 0 j):=by
 show aR _ _=_
 refine eQ ?_
 unfold lD lim
 simp only [Bs,leB_iff]
 omega
theorem ztK{i:Int}(h0:0<=i)(h1:i<=1000000)(h:0<=j)(h2:j<=1000000):kC [.int i,.int j]=.ok (eD i j):=by
 show aR _ _=_
 refine eQ ?_
 unfold lD lim
 simp only [Bs,leB_iff]
 omega
theorem ze6{m:List (Nat×Sl)}(h:∀ i p d,m.lookup i≠some (.ow p d)):∀(ρ:En) (n:Nat),cD m n ρ=ρ
 | [],_=>rfl
 | x::r,n=>by
  unfold cD
  rw [ze6 h r (n+1)]
  congr 1
  unfold cI
  split
  ·rename_i p d q e h1 h2
   exact absurd h2 (h _ _ _)
  ·rfl
theorem qo{α:Type}{f:α->D}{g:GF}{b:SF}(P:List α->En->Prop):∀(xs:List α) (done:List α) (ρ:En),P done ρ ->
  (∀ pre x post ρ,done++xs=pre++x::post->P pre ρ->∃ ρ' fl,(g (f x) ρ).bind b=.ok (fl,ρ')/\(fl=.nx\/fl=.ct)/\P (pre++[x]) ρ')->∃ ρ',forL g b (xs.map f) ρ=.ok (.nx,ρ')/\P (done++xs) ρ'
 | [],done,ρ,h,_=>⟨ρ,rfl,by simpa using h⟩
 | x::xs,done,ρ,h,hx=>by
  obtain⟨ρ1,fl,e,hf,h1⟩:=hx done x xs ρ rfl h
  obtain⟨ρ2,e2,h2⟩:=qo P xs (done++[x]) ρ1 h1 fun pre y post ρ e=>hx pre y post ρ (by simpa using e)
  refine⟨ρ2,?_,by simpa using h2⟩
  show((g (f x) ρ).bind fun ρ1=>(b ρ1).bind fun y=>match y.1 with
    | .nx | .ct=>forL g b (xs.map f) y.2
    | .bk=>.ok (.nx,y.2)
    | .rt d=>.ok (.rt d,y.2)
    | .rf d=>.ok (.rf d,y.2))=_
  cases e1:g (f x) ρ with
  | ok ρ3 =>
   rw [e1] at e
   rw [ao] at e ⊢
   rw [e,ao]
   rcases hf with rfl|rfl
   ·exact e2
   ·exact e2
  | bad=>rw [e1] at e;cases e
  | err c fs=>rw [e1] at e;cases e
def Np(x:Sl):Prop:=∀ e,x≠.ow true e
theorem bX:Np .no:=fun _ z=>nomatch z
theorem cT(d:D):Np (.val d):=fun _ z=>nomatch z
theorem zc2(c:String)(ds:List D):Np (.ob c ds):=fun _ z=>nomatch z
theorem zhM(d:D):Np (.ow false d):=fun _ z=>nomatch z
theorem mD(h:ρ[i]?=some x)(n:Np x):gN i d ρ=.ok (ρ.set i (.val d)):=by
 unfold gN
 rw [h]
 cases x with
 | no=>rfl
 | val c=>rfl
 | ob c ds=>rfl
 | ow p c=>cases p with
  | true=>exact absurd rfl (n c)
  | false=>rfl
theorem ziF(hf:f ρ=.ok y)(h:y.2[i]?=some x)(n:Np x):c9 i f ρ=.ok (.nx,y.2.set i (.ow false y.1)):=by
 unfold c9
 rw [hf,ao,h]
 cases x with
 | no=>rfl
 | val c=>rfl
 | ob c ds=>rfl
 | ow p c=>cases p with
  | true=>exact absurd rfl (n c)
  | false=>rfl
theorem oS(hf:f ρ=.ok y)(h:y.2[i]?=some x)(n:Np x):aF (gN i) f ρ=.ok (.nx,y.2.set i (.val y.1)):=by
 unfold aF
 rw [hf,ao,mD h n];rfl
theorem zaB{m:List (Nat×Sl)}(h:m.lookup i=none):cI m i x=x:=by
 unfold cI
 rw [h]
 cases x <;> rfl
theorem aS{s t:SF}{ρ1:En}(h:s ρ=.ok (.nx,ρ1)):aw s t ρ=t ρ1:=by
 unfold aw
 rw [h];rfl
end
variable {i:Int}{l:Nat}
section
def zeV:SF:=(aw (aF (gN 2) (e2 ay (e2 ay (e2 bf (e2 ay (e2 gf (eV 0) (e2 ay (e2 dH (eC (.int 10)) (eC (.int 18))) (eC (.int 9)))) (e2 bf (eC (.int 7)) (eV 1))) (eC (.int 739108512309184756019283746561))) (e2 bf (eC (.int 7919)) (eV 1))) (eC (.int 1))))
  (aw (aF (gN 2) (e2 gf (e2 bf (eV 2) (eV 2)) (e2 ay (e2 dH (eC (.int 10)) (eC (.int 60))) (eC (.int 7)))))
  (az (e2 gf (e2 bf (e2 ay (eV 2) (eC (.int 40503))) (e2 ay (eV 2) (eC (.int 57)))) (e2 ay (e2 dH (eC (.int 10)) (eC (.int 60))) (eC (.int 7)))))))
def xh:List D->R D:=aW false 2 3 zeV
def zav:SF:=(aw (aN (tB (e2 f9 (eV 1) (e1 dh (eV 0)))) (az (e2 au (eV 0) (eV 1))) aO)
  (az (e2 ay (e2 bf (eC (.int 3)) (eV 1)) (eC (.int 1)))))
def zad:List D->R D:=aW false 2 2 zav
def zaw:SF:=(aw (aN (tB (e2 mE (eV 0) (e2 dH (eC (.int 10)) (eC (.int 18))))) (fQ (aZ (aa (e2 eL (eV 0) (e2 dH (eC (.int 10)) (eC (.int 18)))) (aa (eC (.int 0)) (aa (eV 1) af))))) aO)
  (fQ (aZ (aa (ak xh (aa (eV 0) (aa (eV 1) af))) (aa (eC (.int 0)) (aa (e2 ay (e2 gf (eV 0) (e2 ay (e2 dH (eC (.int 10)) (eC (.int 18))) (eC (.int 9)))) (eV 1)) af))))))
def zaf:List D->R D:=aW true 2 2 zaw
def zax:SF:=(aw (aN (tB (e2 f9 (m2 au 0 (eC (.int 0))) (eV 1))) (aw (setM 0 (e2 ay (m2 au 0 (eC (.int 1))) (eC (.int 1))) (eC (.int 1)))
  (setM 0 (e2 ay (m2 au 0 (eC (.int 0))) (e2 bf (eV 1) (ak xh (aa (m2 au 0 (eC (.int 2))) (aa (e2 ay (e2 bf (eC (.int 11)) (m2 au 0 (eC (.int 1)))) (eC (.int 5))) af))))) (eC (.int 0)))) aO)
  (aw (aF (gN 2) (e2 gf (m2 au 0 (eC (.int 0))) (eV 1)))
  (aw (setM 0 (e2 bH (m2 au 0 (eC (.int 0))) (eV 1)) (eC (.int 0)))
  (az (eV 2)))))
def zag:List D->R (D×List D):=run [true,false] false 3 zax
structure Bd(i:Int)(n:Nat):Prop where
 h:i.natAbs<2^n
theorem Bd.mono(h:Bd i n)(l:n<=m):Bd i m:=⟨BD h.h (HZ (by decide) l)⟩
theorem Bd.add(h:Bd i n)(k:Bd j m):Bd (i+j) (max n m+1):=by
 constructor
 have a:=(h.mono (Nat.le_max_left n m)).h
 have b:=(k.mono (Nat.le_max_right n m)).h
 have c:=Int.natAbs_add_le i j
 rw [Nat.pow_succ]
 omega
theorem Bd.mul(h:Bd i n)(k:Bd j m):Bd (i*j) (n+m):=by
 constructor
 rw [EJ,Nat.pow_add]
 have a:=h.h
 have b:=k.h
 exact Nat.mul_lt_mul'' a b
theorem Bd.mod(h:Bd j n)(p:0<j):Bd (i.fmod j) n:=by
 constructor
 have a:=h.h
 have b:=Hc i p
 have c:=Iv i p
 omega
theorem mulOk_of(h:Bd i n)(k:Bd j m)(l:n+m<=100000000):vX i j=true:=by
 unfold vX
 refine ko ?_
 have lg:∀{i:Int} {n:Nat},Bd i n->i.natAbs.log2<=n:=by
  intro i n h
  by_cases z:i.natAbs=0
  ·rw [z];exact B2 _
  ·exact D3 ((Nat.log2_lt z).mpr h.h)
 have a:=lg h
 have b:=lg k
 omega
theorem gh(h:Bd i n)(k:Bd j m)(l:n+m<=100000000):bf (.int i) (.int j)=.ok (.int (i*j)):=by
 show aR _ _=_
 exact eQ (mulOk_of h k l)
theorem vW(p:0<j):gf (.int i) (.int j)=.ok (.int (i.fmod j)):=by
 show aR _ _=_
 exact eQ (by simp;omega)
theorem zmi(p:0<j)(h:Bd j n)(l:n<=8000):bH (.int i) (.int j)=.ok (.int (i.fdiv j)):=by
 show aR _ _=_
 exact eQ (by simp;omega)
def oN:Int:=1000000000000000000
def qR:Int:=1000000000000000009
def p60:Int:=1000000000000000000000000000000000000000000000000000000000000
def qS:Int:=1000000000000000000000000000000000000000000000000000000000007
def pm:Int:=739108512309184756019283746561
theorem zds:dH (.int 10) (.int 18)=.ok (.int oN):=rfl
theorem zsU:dH (.int 10) (.int 60)=.ok (.int p60):=rfl
theorem zew:oN+9=qR:=rfl
theorem zj8:p60+7=qS:=rfl
theorem zda:0<qR:=by decide
theorem wg:0<qS:=by decide
theorem b18:Bd qR 60:=⟨by decide⟩
theorem b60:Bd qS 200:=⟨by decide⟩
theorem bm:Bd pm 100:=⟨by decide⟩
theorem dw(h:i.natAbs<65536):Bd i 16:=⟨h⟩
def qN(c k:Int):Int:=(c.fmod qR+7*k)*pm+7919*k+1
def oG(c k:Int):Int:=(qN c k*qN c k).fmod qS
def oF(c k:Int):Int:=((oG c k+40503)*(oG c k+57)).fmod qS
theorem zhv(c k:Int):0<=oF c k:=Hc _ wg
theorem zpF(c k:Int):Bd (oF c k) 200:=b60.mod wg
theorem zhw(c k:Int)(hk:Bd k n)(hn:n<=1000):xh [.int c,.int k]=.ok (.int (oF c k)):=by
 have a1:=vW (i:=c) zda
 have a2:Bd (c.fmod qR) 60:=b18.mod zda
 have a3:=gh (i:=7) (dw (by decide)) hk (by omega)
 have a4:=(dw (i:=7) (by decide)).mul hk
 have a5:=a2.add a4
 have a6:=gh a5 bm (by omega)
 have a7:=gh (i:=7919) (dw (by decide)) hk (by omega)
 have a8:=((a5.mul bm).add ((dw (i:=7919) (by decide)).mul hk)).add (dw (i:=1) (by decide))
 have a9:=gh a8 a8 (by omega)
 have b1:=vW (i:=qN c k*qN c k) wg
 have b2:Bd (oG c k) 200:=b60.mod wg
 have b3:=gh (b2.add (dw (i:=40503) (by decide))) (b2.add (dw (i:=57) (by decide))) (by decide)
 have b4:=vW (i:=(oG c k+40503)*(oG c k+57)) wg
 have hm:(Bi 739108512309184756019283746561)=.int pm:=rfl
 have f1:(c.fmod qR+7*k)*pm+7919*k+1=qN c k:=rfl
 have f2:(qN c k*qN c k).fmod qS=oG c k:=rfl
 have f3:((oG c k+40503)*(oG c k+57)).fmod qS=oF c k:=rfl
 rw [f1] at a9
 simp only [xh,aW,FL.run,A0,Bg,Bw,AI,zeV,aw,aF,FL.e2,eV,slots,Bm,if_false,DB,B1,BA,zz0,eC,ao,zds,ay,zew,a1,zz1,a3,hm,a6,a7,f1,gN,BO,BM,zsU,zj8,az,a9,b1,f2,b3,b4,f3,outs,outD,if_true]
def dM(k:Nat)(d:D):Prop:=∃ n c s,d=.list [.int n,.int c,.int s]/\0<=n/\0<=c/\c<=k
theorem dM.mono(h:dM k d)(hl:k<=l):dM l d:=by
 obtain⟨n,c,s,e,h1,h2,h3⟩:=h
 exact⟨n,c,s,e,h1,h2,by omega⟩
theorem zr4(c k:Int)(hk:k.natAbs<65536):∃ d,zaf [.int c,.int k]=.ok d/\dM 0 d:=by
 have a1:=vW (i:=c) zda
 have hx1:=zhw c k (dw hk) (by decide)
 by_cases h:oN<=c
 ·refine⟨_,?_,c-oN,0,k,rfl,by omega,by decide,by decide⟩
  have hg:mE (.int c) (.int oN)=.ok (.bool true):=by show R.ok (Cb (decide (oN<=c)))=_;rw [decide_eq_true h]
  simp only [zaf,aW,FL.run,A0,Bg,Bw,AI,zaw,aw,aN,tB,FL.e2,eV,slots,Bm,if_false,CM,B1,BA,zz0,eC,ao,zds,hg,fQ,aZ,aa,eL,af,aO,zz1,if_true,ak,ay,outs,outD]
  rfl
 ·refine⟨_,?_,oF c k,0,c.fmod qR+k,rfl,zhv c k,by decide,by decide⟩
  have hg:mE (.int c) (.int oN)=.ok (.bool false):=by show R.ok (Cb (decide (oN<=c)))=_;rw [decide_eq_false h]
  simp only [zaf,aW,FL.run,A0,Bg,Bw,AI,zaw,aw,aN,tB,FL.e2,eV,slots,Bm,if_false,CM,B1,BA,zz0,eC,ao,zds,hg,fQ,aZ,aa,eL,af,aO,zz1,ak,ay,zew,hx1,a1,outs,outD,if_true]
  rfl
theorem zki(ns:List Int)(k:Int)(h0:0<=k)(hk:k.natAbs<65536):∃ a,zad [.list (ns.map Bi),.int k]=.ok (.int a):=by
 have a3:=gh (i:=3) (dw (by decide)) (dw hk) (by decide)
 have hl:f9 (.int k) (.int (ns.length:Int))=.ok (.bool (decide (k<ns.length))):=rfl
 by_cases h:k<ns.length
 ·rw [decide_eq_true h] at hl
  have:∃ a,dW (ns.map Bi) k=some (.int a):=by
   unfold dW ie
   rw [Bc,if_pos h0,if_pos h]
   exact⟨ns[k.toNat]'(by omega),by simp [show k.toNat<ns.length by omega]⟩
  obtain⟨a,ea⟩:=this
  refine⟨a,?_⟩
  simp only [zad,aW,FL.run,A0,Bg,Bw,AI,zav,aw,aN,tB,FL.e2,eV,slots,Bm,if_false,CM,B1,BA,zz1,zz0,FL.e1,dh,ao,Bc,hl,az,au,R.of,aO,ea,if_true,eC,ay,outs,outD]
 ·rw [decide_eq_false h] at hl
  refine⟨3*k+1,?_⟩
  simp only [zad,aW,FL.run,A0,Bg,Bw,AI,zav,aw,aN,tB,FL.e2,eV,slots,Bm,if_false,CM,B1,BA,zz1,zz0,FL.e1,dh,ao,Bc,hl,az,au,aO,eC,ay,a3,outs,outD,if_true]
theorem zfB{k:Nat}{ix:List Nat}{g:GF}{t:TF}{f:EF}(P:Nat->List D->En->Prop):∀(items:List D) (i:Nat) (acc:List D) (ρ:En),acc.length+items.length<=lim->acc.length=i->P i acc ρ ->
  (∀ x∈items,∀ j acc ρ,j<i+items.length->P j acc ρ->∃ β y β',g x (bP k ix ρ)=.ok β/\t β=.ok (true,β)/\f β=.ok (y,β')/\P (j+1) (acc++[y]) (back ρ ix (β'.drop k))) ->
  ∃ qa ρ',fT k ix g t f items ρ acc=.ok (qa,ρ')/\qa.length=i+items.length/\P (i+items.length) qa ρ'
 | [],i,acc,ρ,_,e,h,_=>⟨acc,ρ,rfl,e,h⟩
 | x::xs,i,acc,ρ,hl,e,h,hx=>by
  obtain⟨β,y,β',h1,h2,h3,h4⟩:=hx x (Bu ..) i acc ρ (by simp) h
  have hl':acc.length+(xs.length+1)<=lim:=hl
  obtain⟨qa,ρ',lZ,yp,e3'⟩:=zfB P xs (i+1) (acc++[y]) _ (by simp;omega) (by simp;omega) h4 fun x m j acc ρ hj=>hx x (Bp _ m) j acc ρ (by rw [A0];omega)
  refine⟨qa,ρ',?_,by simp;omega,by rw [A0,show i+(xs.length+1)=i+1+xs.length by omega];exact e3'⟩
  unfold fT
  rw [h1,ao,h2,ao,if_pos rfl,h3,ao,eQ (ko (by omega)),lZ]
end
variable {p:Bool}{F:List D->R (D×List D)}{i:Nat}
section
theorem zaE{i:Nat}{x:Sl}:∀(ρ:En) (n:Nat),i<n->cD [(i,x)] n ρ=ρ
 | [],_,_=>rfl
 | y::r,n,h=>by
  unfold cD
  rw [zaB (by rw [A5,show(n==i)=false from beq_eq_false_iff_ne.mpr (by omega)];rfl),zaE r (n+1) (by omega)]
theorem ze5{d d':D}{p:Bool}:∀(ρ:En) (n i:Nat),ρ[i]?=some (.ow p d)->cD [(n+i,.ow true d')] n ρ=ρ.set i (.ow p d')
 | [],_,_,h=>by simp at h
 | y::r,n,0,h=>by
  have hy:y=.ow p d:=by simpa using h
  subst hy
  unfold cD
  rw [Nat.add_zero,zaE r (n+1) (Gs n)]
  have:cI [(n,Sl.ow true d')] n (.ow p d)=.ow p d':=by
   unfold cI
   rw [A5,beq_self_eq_true]
  rw [this]
  rfl
 | y::r,n,i+1,h=>by
  unfold cD
  rw [zaB (by rw [A5,show(n==n+(i+1))=false from beq_eq_false_iff_ne.mpr (by omega)];rfl),show n+(i+1)=n+1+i by omega,ze5 r (n+1) i (by simpa using h)]
  rfl
theorem iA{v r d' v':D}(hi:ρ[i]?=some (.ow p d))(hf:f ρ=.ok (v,ρ))(hF:F [d,v]=.ok (r,[d',v'])):aY F [.m i,.v f] ρ=.ok (r,ρ.set i (.ow p d')):=by
 have hm:bw ρ i=.ok d:=by unfold bw;rw [hi]
 unfold aY
 simp only [gL,hm,ao,hf,fF,hF]
 have:=ze5 (d:=d) (d':=d') (p:=p) ρ 0 i hi
 rw [F8] at this
 show R.ok (r,cD [(i,.ow true d')] 0 ρ)=_
 rw [this]
theorem set_same(h:ρ[i]?=some x):ρ.set i x=ρ:=by
 apply List.ext_getElem?
 intro j
 by_cases e:i=j
 ·subst e
  rw [Bj (Bf.mp h).1,h]
 ·rw [Bl e]
end
section
def zmI:SF:=(az (dQ (e1 (dZ "int") (eV 0)) (jg (e1 (dZ "bool") (eV 0)))))
def zae:List D->R D:=aW false 1 1 zmI
def zbY:SF:=(rk (oU 3) (tB (e2 b9 (eV 3) (eC (.int 0)))) (de 2 3 (eV 3) (e2 gf (eV 2) (eV 3))))
def zbL:SF:=(aw (de 2 3 (e1 j3 (eV 0)) (e1 j3 (eV 1)))
  (aw zbY
  (az (eV 2))))
def iw:List D->R D:=aW false 2 4 zbL
def zbQ:SF:=(aw (aF (gN 2) (ak iw (aa (e2 au (eV 0) (eC (.int 1))) (aa (e2 au (eV 1) (eC (.int 1))) af))))
  (aw (de 3 4 (e2 bH (e2 au (eV 0) (eC (.int 1))) (eV 2)) (e2 bH (e2 au (eV 1) (eC (.int 1))) (eV 2)))
  (aw (aF (gN 5) (e2 ay (e2 bf (e2 au (eV 0) (eC (.int 0))) (eV 4)) (e2 bf (e2 au (eV 1) (eC (.int 0))) (eV 3))))
  (aw (aF (gN 6) (ak iw (aa (eV 5) (aa (eV 2) af))))
  (az (aP (aa (e2 bH (eV 5) (eV 6)) (aa (e2 bf (eV 3) (e2 bH (e2 au (eV 1) (eC (.int 1))) (eV 6))) af))))))))
def zjt:List D->R D:=aW false 2 7 zbQ
def zbR:SF:=(aw (de 2 3 (ak iw (aa (e2 au (eV 0) (eC (.int 0))) (aa (e2 au (eV 1) (eC (.int 1))) af))) (ak iw (aa (e2 au (eV 1) (eC (.int 0))) (aa (e2 au (eV 0) (eC (.int 1))) af))))
  (az (aP (aa (e2 bf (e2 bH (e2 au (eV 0) (eC (.int 0))) (eV 2)) (e2 bH (e2 au (eV 1) (eC (.int 0))) (eV 3))) (aa (e2 bf (e2 bH (e2 au (eV 0) (eC (.int 1))) (eV 3)) (e2 bH (e2 au (eV 1) (eC (.int 1))) (eV 2))) af)))))
def zju:List D->R D:=aW false 2 4 zbR
end
variable {r s:Rat}{b j:Nat}{a i:Int}
section
def num(r:Rat):D:=.tuple [.int r.num,.int (r.den:Int)]
theorem zpI{h:Nat}(p:l≠0):gf (.int h) (.int l)=.ok (.int ((h % l:Nat):Int)):=by
 show aR (decide ((l:Int)≠0)) _=_
 rw [eQ (by simpa using p)]
 rw [Int.fmod_eq_emod_of_nonneg _ (by omega)]
 rfl
theorem zbT(x0 x1:Sl):∀(n h l:Nat),l<n->rH (tB (e2 b9 (eV 3) (eC (.int 0)))) (de 2 3 (eV 3) (e2 gf (eV 2) (eV 3))) n [x0,x1,.val (.int h),.val (.int l)]=.ok (.nx,[x0,x1,.val (.int ((Fx h l:Nat):Int)),.val (.int 0)])
 | 0,h,l,p=>by omega
 | n+1,h,l,p=>by
  unfold rH
  by_cases c:l=0
  ·subst c
   have e:b9 (.int ((0:Nat):Int)) (.int 0)=.ok (.bool false):=by rw [tf];rfl
   simp only [tB,FL.e2,eV,zz1,zz0,eC,ao,e,de,gN,Bm,if_false,Nat.gcd_zero_right]
   rfl
  ·have e:b9 (.int l) (.int 0)=.ok (.bool true):=by
    rw [tf,decide_eq_false (by omega)];rfl
   simp only [tB,FL.e2,eV,zz1,zz0,eC,ao,e,de,gN,zpI c,BO,BM,if_true]
   have ih:=zbT x0 x1 n l (h % l) (by have:=Nat.mod_lt h (Iw c);omega)
   rw [ih,HY l,<- Nat.gcd_rec,HY]
theorem zeu(i:Int):j3 (.int i)=.ok (.int (i.natAbs:Int)):=by
 show R.ok (Bi (if i<0 then -i else i))=_
 congr 2
 split <;> omega
theorem vo(a b:Int):iw [.int a,.int b]=.ok (.int (AG a b:Int)):=by
 have e1:de 2 3 (FL.e1 j3 (eV 0)) (FL.e1 j3 (eV 1)) [.val (.int a),.val (.int b),.no,.no]=.ok (.nx,[.val (.int a),.val (.int b),.val (.int (a.natAbs:Int)),.val (.int (b.natAbs:Int))]):=by
  simp only [de,FL.e1,eV,zz0,ao,zeu,gN,zz1,BO,BM]
 have e2:zbY [.val (.int a),.val (.int b),.val (.int (a.natAbs:Int)),.val (.int (b.natAbs:Int))]=.ok (.nx,[.val (.int a),.val (.int b),.val (.int ((Fx a.natAbs b.natAbs:Nat):Int)),.val (.int 0)]):=by
  unfold zbY rk
  have:oU 3 [.val (.int a),.val (.int b),.val (.int (a.natAbs:Int)),.val (.int (b.natAbs:Int))]=b.natAbs+1:=by
   show((b.natAbs:Int)).natAbs+1=_
   simp
  rw [this]
  exact zbT _ _ _ _ _ (by omega)
 show((zbL [.val (.int a),.val (.int b),.no,.no]).bind _).bind _=_
 unfold zbL
 rw [aS e1,aS e2]
 rfl
theorem kQ(hj:j≠0)(hb:j<2^n)(hn:n<=90000000):bH (.int i) (.int j)=.ok (.int (i / (j:Int))):=by
 show aR (decide ((j:Int)≠0)) _=_
 rw [eQ (by simpa using hj),Int.fdiv_eq_ediv_of_nonneg _ (by omega)]
theorem nI(h:QR.Bd n r):Bd r.num n/\Bd (r.den:Int) n:=⟨⟨h.1⟩,⟨by simpa using h.2⟩⟩
theorem nG(h:Bd i n):Bd (i / (j:Int)) n:=⟨Ea (F6 i (j:Int)) h.h⟩
theorem vn(hb:b≠0)(h:b<2^n):AG a (b:Int)≠0/\AG a (b:Int)<2^n:=by
 have h1:0<AG a (b:Int):=HV a (by omega)
 have h2:AG a (b:Int)∣b:=by
  have:=EH a (b:Int)
  exact Int.natCast_dvd_natCast.mp this
 have h3:=Nat.le_of_dvd (Iw hb) h2
 omega
theorem zrv(hr:QR.Bd n r)(hs:QR.Bd n s)(hn:n<=40000000):zjt [num r,num s]=.ok (num (r+s)):=by
 have gS:=vn (a:=(r.den:Int)) s.den_nz hs.2
 generalize hg:AG (r.den:Int) (s.den:Int)=g at gS
 have k1:iw [.int (r.den:Int),.int (s.den:Int)]=.ok (.int g):=by rw [vo,hg]
 have k2:bH (.int (r.den:Int)) (.int g)=.ok (.int ((r.den:Int) / (g:Int))):=kQ gS.1 gS.2 (by omega)
 have k3:bH (.int (s.den:Int)) (.int g)=.ok (.int ((s.den:Int) / (g:Int))):=kQ gS.1 gS.2 (by omega)
 have br:=nI hr
 have bs:=nI hs
 have k4:bf (.int r.num) (.int ((s.den:Int) / (g:Int)))=.ok (.int (r.num*((s.den:Int) / (g:Int)))):=gh br.1 (nG bs.2) (by omega)
 have k5:bf (.int s.num) (.int ((r.den:Int) / (g:Int)))=.ok (.int (s.num*((r.den:Int) / (g:Int)))):=gh bs.1 (nG br.2) (by omega)
 generalize ht:r.num*((s.den:Int) / (g:Int))+s.num*((r.den:Int) / (g:Int))=top
 have gT:=vn (a:=top) gS.1 gS.2
 generalize he:AG top (g:Int)=e at gT
 have k6:iw [.int top,.int g]=.ok (.int e):=by rw [vo,he]
 have k7:bH (.int top) (.int e)=.ok (.int (top / (e:Int))):=kQ gT.1 gT.2 (by omega)
 have k8:bH (.int (s.den:Int)) (.int e)=.ok (.int ((s.den:Int) / (e:Int))):=kQ gT.1 gT.2 (by omega)
 have k9:bf (.int ((r.den:Int) / (g:Int))) (.int ((s.den:Int) / (e:Int)))=.ok (.int (((r.den:Int) / (g:Int))*((s.den:Int) / (e:Int)))):=gh (nG br.2) (nG bs.2) (by omega)
 have x0:∀(a b:Int),au (.tuple [.int a,.int b]) (.int 0)=.ok (.int a):=fun a b=>rfl
 have x1:∀(a b:Int),au (.tuple [.int a,.int b]) (.int 1)=.ok (.int b):=fun a b=>rfl
 have l2:leB 2 lim=true:=by decide
 have ad:∀(a b:Int),ay (.int a) (.int b)=.ok (.int (a+b)):=fun _ _=>rfl
 have fin:num (r+s)=.tuple [.int (top / (e:Int)),.int (((r.den:Int) / (g:Int))*((s.den:Int) / (e:Int)))]:=by
  have h1:=Q1.zru (QR.low r) (QR.low s)
  rw [QR.add] at h1
  unfold Q1.tQ at h1
  simp only [hg,ht,he] at h1
  unfold num
  rw [<- (Ei h1).1,<- (Ei h1).2]
 have s1:aF (gN 2) (ak iw (aa (e2 au (eV 0) (eC (.int 1))) (aa (e2 au (eV 1) (eC (.int 1))) af))) [.val (num r),.val (num s),.no,.no,.no,.no,.no]=.ok (.nx,[.val (num r),.val (num s),.val (.int g),.no,.no,.no,.no]):=by
  unfold num
  simp only [aF,ak,aa,FL.e2,eV,zz0,eC,ao,x1,af,zz1,k1,gN,BO,BM]
 have s2:de 3 4 (e2 bH (e2 au (eV 0) (eC (.int 1))) (eV 2)) (e2 bH (e2 au (eV 1) (eC (.int 1))) (eV 2)) [.val (num r),.val (num s),.val (.int g),.no,.no,.no,.no]=.ok (.nx,[.val (num r),.val (num s),.val (.int g),.val (.int ((r.den:Int) / (g:Int))),.val (.int ((s.den:Int) / (g:Int))),.no,.no]):=by
  unfold num
  simp only [de,FL.e2,eV,zz0,eC,ao,x1,zz1,k2,gN,k3,BO,BM]
 have s3:aF (gN 5) (e2 ay (e2 bf (e2 au (eV 0) (eC (.int 0))) (eV 4)) (e2 bf (e2 au (eV 1) (eC (.int 0))) (eV 3))) [.val (num r),.val (num s),.val (.int g),.val (.int ((r.den:Int) / (g:Int))),.val (.int ((s.den:Int) / (g:Int))),.no,.no]=.ok (.nx,[.val (num r),.val (num s),.val (.int g),.val (.int ((r.den:Int) / (g:Int))),.val (.int ((s.den:Int) / (g:Int))),.val (.int top),.no]):=by
  unfold num
  simp only [aF,FL.e2,eV,zz0,eC,ao,x0,zz1,k4,k5,ad,ht,gN,BO,BM]
 have s4:aF (gN 6) (ak iw (aa (eV 5) (aa (eV 2) af))) [.val (num r),.val (num s),.val (.int g),.val (.int ((r.den:Int) / (g:Int))),.val (.int ((s.den:Int) / (g:Int))),.val (.int top),.no]=.ok (.nx,[.val (num r),.val (num s),.val (.int g),.val (.int ((r.den:Int) / (g:Int))),.val (.int ((s.den:Int) / (g:Int))),.val (.int top),.val (.int e)]):=by
  simp only [aF,ak,aa,eV,zz1,zz0,af,ao,k6,gN,BO,BM]
 have s5:az (aP (aa (e2 bH (eV 5) (eV 6)) (aa (e2 bf (eV 3) (e2 bH (e2 au (eV 1) (eC (.int 1))) (eV 6))) af))) [.val (num r),.val (num s),.val (.int g),.val (.int ((r.den:Int) / (g:Int))),.val (.int ((s.den:Int) / (g:Int))),.val (.int top),.val (.int e)]=.ok (.rt (num (r+s)),[.val (num r),.val (num s),.val (.int g),.val (.int ((r.den:Int) / (g:Int))),.val (.int ((s.den:Int) / (g:Int))),.val (.int top),.val (.int e)]):=by
  rw [fin]
  unfold num
  simp only [az,aP,aa,FL.e2,eV,zz1,zz0,ao,k7,eC,af,x1,k8,k9,A0,Bg,Bw,eQ l2]
 show((zbQ [.val (num r),.val (num s),.no,.no,.no,.no,.no]).bind _).bind _=_
 unfold zbQ
 rw [aS s1,aS s2,aS s3,aS s4,s5]
 rfl
theorem zuX(hr:QR.Bd n r)(hs:QR.Bd n s)(hn:n<=40000000):zju [num r,num s]=.ok (num (r*s)):=by
 have gS:=vn (a:=r.num) s.den_nz hs.2
 generalize hg:AG r.num (s.den:Int)=g at gS
 have gT:=vn (a:=s.num) r.den_nz hr.2
 generalize he:AG s.num (r.den:Int)=e at gT
 have k1:iw [.int r.num,.int (s.den:Int)]=.ok (.int g):=by rw [vo,hg]
 have k2:iw [.int s.num,.int (r.den:Int)]=.ok (.int e):=by rw [vo,he]
 have k3:bH (.int r.num) (.int g)=.ok (.int (r.num / (g:Int))):=kQ gS.1 gS.2 (by omega)
 have k4:bH (.int s.num) (.int e)=.ok (.int (s.num / (e:Int))):=kQ gT.1 gT.2 (by omega)
 have k5:bH (.int (r.den:Int)) (.int e)=.ok (.int ((r.den:Int) / (e:Int))):=kQ gT.1 gT.2 (by omega)
 have k6:bH (.int (s.den:Int)) (.int g)=.ok (.int ((s.den:Int) / (g:Int))):=kQ gS.1 gS.2 (by omega)
 have br:=nI hr
 have bs:=nI hs
 have k7:bf (.int (r.num / (g:Int))) (.int (s.num / (e:Int)))=.ok (.int (r.num / (g:Int)*(s.num / (e:Int)))):=gh (nG br.1) (nG bs.1) (by omega)
 have k8:bf (.int ((r.den:Int) / (e:Int))) (.int ((s.den:Int) / (g:Int)))=.ok (.int ((r.den:Int) / (e:Int)*((s.den:Int) / (g:Int)))):=gh (nG br.2) (nG bs.2) (by omega)
 have x0:∀(a b:Int),au (.tuple [.int a,.int b]) (.int 0)=.ok (.int a):=fun a b=>rfl
 have x1:∀(a b:Int),au (.tuple [.int a,.int b]) (.int 1)=.ok (.int b):=fun a b=>rfl
 have l2:leB 2 lim=true:=by decide
 have fin:num (r*s)=.tuple [.int (r.num / (g:Int)*(s.num / (e:Int))),.int ((r.den:Int) / (e:Int)*((s.den:Int) / (g:Int)))]:=by
  have h1:=Q1.zuW (QR.low r) (QR.low s)
  rw [QR.mul] at h1
  unfold Q1.zZ at h1
  simp only [hg,he] at h1
  unfold num
  rw [<- (Ei h1).1,<- (Ei h1).2]
 have s1:de 2 3 (ak iw (aa (e2 au (eV 0) (eC (.int 0))) (aa (e2 au (eV 1) (eC (.int 1))) af))) (ak iw (aa (e2 au (eV 1) (eC (.int 0))) (aa (e2 au (eV 0) (eC (.int 1))) af))) [.val (num r),.val (num s),.no,.no]=.ok (.nx,[.val (num r),.val (num s),.val (.int g),.val (.int e)]):=by
  unfold num
  simp only [de,ak,aa,FL.e2,eV,zz0,eC,ao,x0,af,zz1,x1,k1,gN,k2,BO,BM]
 have s5:az (aP (aa (e2 bf (e2 bH (e2 au (eV 0) (eC (.int 0))) (eV 2)) (e2 bH (e2 au (eV 1) (eC (.int 0))) (eV 3))) (aa (e2 bf (e2 bH (e2 au (eV 0) (eC (.int 1))) (eV 3)) (e2 bH (e2 au (eV 1) (eC (.int 1))) (eV 2))) af))) [.val (num r),.val (num s),.val (.int g),.val (.int e)]=.ok (.rt (num (r*s)),[.val (num r),.val (num s),.val (.int g),.val (.int e)]):=by
  rw [fin]
  unfold num
  simp only [az,aP,aa,FL.e2,eV,zz0,eC,ao,x0,zz1,k3,k4,k7,af,x1,k5,k6,k8,A0,Bg,Bw,eQ l2]
 show((zbR [.val (num r),.val (num s),.no,.no]).bind _).bind _=_
 unfold zbR
 rw [aS s1,s5]
 rfl
end
section
abbrev Sm:=List (List Int×Rat)
def kq(w:List Int):KQ:=.inl (w.map .inl)
theorem zgY:∀ w:List Int,kY (w.map Bi)=some (w.map .inl)
 | []=>rfl
 | x::r=>by simp only [A2,kY,yZ,zgY r,Option.bind_some,CJ]
theorem vQ(w:List Int):keyOf (tp w)=some (kq w):=by
 show(kY (w.map Bi)).map D0=_
 rw [zgY];rfl
theorem zgX{v w:List Int}(h:kq v=kq w):v=w:=by
 have:=Sum.inl.inj h
 have:=congrArg (List.map (Sum.elim id fun _=>(0:Int))) this
 simpa [B3,Function.comp_def] using this
theorem zgW(v w:List Int):decide (keyOf (tp v)=some (kq w))=decide (v=w):=by
 rw [vQ]
 by_cases c:v=w
 ·subst c;simp
 ·rw [decide_eq_false c,decide_eq_false fun z=>c (zgX (BC z))]
theorem zt:(Hd [.int 0,.int 1]:D)=num 0:=rfl
end
section
end
variable {b:SF}
section
theorem gR{ds:List D}(hl:ds.length=k)(h:b (slots (AI k false) ds++AI (n-ds.length) .no)=.ok (.rt d,ρ)):aW false k n b ds=.ok d:=by
 unfold aW FL.run
 rw [if_pos (by rw [Dt];exact hl),h]
 rfl
theorem zdG{ds:List D}(hl:ds.length=k)(h:b (slots (AI k false) ds++AI (n-ds.length) .no)=.ok (.rf d,ρ)):aW true k n b ds=.ok d:=by
 unfold aW FL.run
 rw [if_pos (by rw [Dt];exact hl),h]
 rfl
theorem ztY{ds:List D}(hl:ds.length=k)(h:b (slots (AI k false) ds++AI (n-ds.length) .no)=.ok (.nx,ρ)):aW false k n b ds=.ok .none:=by
 unfold aW FL.run
 rw [if_pos (by rw [Dt];exact hl),h]
 rfl
def kyS(p:List Int×Rat):WK:=((p.1.length:Int),p.1)
def zgE(x:List Int×Rat):Sm->Sm
 | []=>[x]
 | y::r=>if zg (kyS y) (kyS x)=true then y::zgE x r else x::y::r
def ziG:Sm->Sm
 | []=>[]
 | x::r=>zgE x (ziG r)
def tln(p:List Int×Rat):D:=.tuple [tp p.1,num p.2]
end
section
def zbZ:SF:=(rk (oU 3) (tB (e2 b9 (eV 3) (eC (.int 0)))) (de 2 3 (eV 3) (e2 gf (eV 2) (eV 3))))
def zbO:SF:=(aw (aF (gN 2) (e1 j3 (eV 0)))
  (aw (aF (gN 3) (eV 1))
  (aw zbZ
  (az (aP (aa (e2 bH (eV 0) (eV 2)) (aa (e2 bH (eV 1) (eV 2)) af)))))))
def rR:List D->R D:=aW false 2 4 zbO
def zbM:SF:=(aw (aN (FL.bG (FL.bh (tE (e1 (dZ "tuple") (eV 0)))) (tB (e2 b9 (e1 dh (eV 0)) (eC (.int 2))))) (az (eC (.bool false))) aO)
  (aw (aF (gT [(gN 1),(gN 2)]) (eV 0))
  (aw (aN (FL.bG (FL.bh (tE (ak zae (aa (eV 1) af)))) (FL.bG (FL.bh (tE (ak zae (aa (eV 2) af)))) (tB (e2 f9 (eV 2) (eC (.int 1)))))) (az (eC (.bool false))) aO)
  (az (e2 dR (ak iw (aa (eV 1) (aa (eV 2) af))) (eC (.int 1)))))))
def zjq:List D->R D:=aW false 1 3 zbM
def zbP:SF:=(az (ak rR (aa (e2 ay (e2 bf (e2 au (eV 0) (eC (.int 0))) (e2 au (eV 1) (eC (.int 1)))) (e2 bf (e2 au (eV 1) (eC (.int 0))) (e2 au (eV 0) (eC (.int 1))))) (aa (e2 bf (e2 au (eV 0) (eC (.int 1))) (e2 au (eV 1) (eC (.int 1)))) af))))
def zjs:List D->R D:=aW false 2 2 zbP
def zbN:SF:=(az (ak rR (aa (e2 bf (e2 au (eV 0) (eC (.int 0))) (e2 au (eV 1) (eC (.int 0)))) (aa (e2 bf (e2 au (eV 0) (eC (.int 1))) (e2 au (eV 1) (eC (.int 1)))) af))))
def zjr:List D->R D:=aW false 2 2 zbN
end
variable {b:Nat}
section
theorem zcQ(t:Int)(hb:b≠0)(hl:b<2^n)(hn:n<=90000000):rR [.int t,.int b]=.ok (.tuple [.int (Q1.fr t (b:Int)).1,.int (Q1.fr t (b:Int)).2]):=by
 have gS:=vn (a:=t) hb hl
 have s1:aF (gN 2) (FL.e1 j3 (eV 0)) [.val (.int t),.val (.int b),.no,.no]=.ok (.nx,[.val (.int t),.val (.int b),.val (.int (t.natAbs:Int)),.no]):=by
  simp only [aF,FL.e1,eV,zz0,ao,zeu,gN,zz1,BO,BM]
 have s2:aF (gN 3) (eV 1) [.val (.int t),.val (.int b),.val (.int (t.natAbs:Int)),.no]=.ok (.nx,[.val (.int t),.val (.int b),.val (.int (t.natAbs:Int)),.val (.int b)]):=rfl
 have s3:zbZ [.val (.int t),.val (.int b),.val (.int (t.natAbs:Int)),.val (.int b)]=.ok (.nx,[.val (.int t),.val (.int b),.val (.int ((AG t (b:Int):Nat):Int)),.val (.int 0)]):=by
  unfold zbZ rk
  have:oU 3 [.val (.int t),.val (.int b),.val (.int (t.natAbs:Int)),.val (.int b)]=b+1:=by
   show((b:Int)).natAbs+1=_
   simp
  rw [this]
  exact zbT _ _ _ _ _ (by omega)
 have k1:bH (.int t) (.int ((AG t (b:Int):Nat):Int))=.ok (.int (t / ((AG t (b:Int):Nat):Int))):=kQ gS.1 gS.2 hn
 have k2:bH (.int b) (.int ((AG t (b:Int):Nat):Int))=.ok (.int ((b:Int) / ((AG t (b:Int):Nat):Int))):=kQ gS.1 gS.2 hn
 have l2:leB 2 lim=true:=by decide
 show((zbO [.val (.int t),.val (.int b),.no,.no]).bind _).bind _=_
 unfold zbO
 rw [aS s1,aS s2,aS s3]
 simp only [az,aP,aa,FL.e2,eV,zz0,ao,zz1,k1,af,k2,A0,Bg,Bw,eQ l2,AI,outs,outD]
 rw [Q1.zgj (by omega)]
theorem zpo(t:Int)(hb:b≠0)(hl:b<2^n)(hn:n<=90000000):rR [.int t,.int b]=.ok (num (F5 t b hb)):=by
 rw [zcQ t hb hl hn,QR.norm hb]
 rfl
theorem lx0(a b:Int):au (.tuple [.int a,.int b]) (.int 0)=.ok (.int a):=rfl
theorem lx1(a b:Int):au (.tuple [.int a,.int b]) (.int 1)=.ok (.int b):=rfl
theorem zhk(hr:QR.Bd n r)(hs:QR.Bd n s)(hn:n<=40000000):zjs [num r,num s]=.ok (num (r+s)):=by
 have br:=nI hr
 have bs:=nI hs
 have k1:bf (.int r.num) (.int (s.den:Int))=.ok (.int (r.num*(s.den:Int))):=gh br.1 bs.2 (by omega)
 have k2:bf (.int s.num) (.int (r.den:Int))=.ok (.int (s.num*(r.den:Int))):=gh bs.1 br.2 (by omega)
 have k3:bf (.int (r.den:Int)) (.int (s.den:Int))=.ok (.int ((r.den:Int)*(s.den:Int))):=gh br.2 bs.2 (by omega)
 have ad:∀(a b:Int),ay (.int a) (.int b)=.ok (.int (a+b)):=fun _ _=>rfl
 have nz:r.den*s.den≠0:=Nat.mul_ne_zero r.den_nz s.den_nz
 have k4:rR [.int (r.num*(s.den:Int)+s.num*(r.den:Int)),.int ((r.den:Int)*(s.den:Int))]=.ok (num (r+s)):=by
  have:=zcQ (r.num*(s.den:Int)+s.num*(r.den:Int)) nz (QR.qM hr.2 hs.2) (by omega)
  rw [Ic] at this
  rw [this,QR.add]
  rfl
 refine gR (ρ:=[.val (num r),.val (num s)]) rfl ?_
 show zbP [.val (num r),.val (num s)]=.ok (_,[.val (num r),.val (num s)])
 unfold zbP num
 simp only [az,ak,aa,FL.e2,eV,zz0,eC,ao,lx0,zz1,lx1,k1,k2,ad,af,k3,k4]
 rfl
theorem zcJ(hr:QR.Bd n r)(hs:QR.Bd n s)(hn:n<=40000000):zjr [num r,num s]=.ok (num (r*s)):=by
 have br:=nI hr
 have bs:=nI hs
 have k1:bf (.int r.num) (.int s.num)=.ok (.int (r.num*s.num)):=gh br.1 bs.1 (by omega)
 have k3:bf (.int (r.den:Int)) (.int (s.den:Int))=.ok (.int ((r.den:Int)*(s.den:Int))):=gh br.2 bs.2 (by omega)
 have nz:r.den*s.den≠0:=Nat.mul_ne_zero r.den_nz s.den_nz
 have k4:rR [.int (r.num*s.num),.int ((r.den:Int)*(s.den:Int))]=.ok (num (r*s)):=by
  have:=zcQ (r.num*s.num) nz (QR.qM hr.2 hs.2) (by omega)
  rw [Ic] at this
  rw [this,QR.mul]
  rfl
 refine gR (ρ:=[.val (num r),.val (num s)]) rfl ?_
 show zbN [.val (num r),.val (num s)]=.ok (_,[.val (num r),.val (num s)])
 unfold zbN num
 simp only [az,ak,aa,FL.e2,eV,zz0,eC,ao,lx0,zz1,k1,af,lx1,k3,k4]
 rfl
end
section
def told(s:Sm):D:=.list ((ziG s).map tln)
theorem znv(r:Rat):zjq [num r]=.ok (.bool true):=by
 have k1:dZ "tuple" (num r)=.ok (.bool true):=rfl
 have wh:∀ i:Int,zae [.int i]=.ok (.bool true):=fun _=>rfl
 have k3:f9 (.int (r.den:Int)) (.int 1)=.ok (.bool false):=by
  rw [zcS];congr 2
  have:=r.den_nz
  exact decide_eq_false (by omega)
 have k4:iw [.int r.num,.int (r.den:Int)]=.ok (.int 1):=by
  rw [vo];congr 2
  have:=(QR.low r).qi
  omega
 have k5:b9 (.int 2) (.int 2)=.ok (.bool false):=by rw [tf];rfl
 have k6:dR (.int 1) (.int 1)=.ok (.bool true):=by rw [qk];rfl
 have k7:gT [gN 1,gN 2] (num r) [.val (num r),.no,.no]=.ok [.val (num r),.val (.int r.num),.val (.int (r.den:Int))]:=rfl
 refine gR (ρ:=[.val (num r),.val (.int r.num),.val (.int (r.den:Int))]) rfl ?_
 show zbM [.val (num r),.no,.no]=_
 unfold zbM
 have s1:aN (FL.bG (FL.bh (tE (FL.e1 (dZ "tuple") (eV 0)))) (tB (FL.e2 b9 (FL.e1 dh (eV 0)) (eC (.int 2))))) (az (eC (.bool false))) aO [.val (num r),.no,.no]=.ok (.nx,[.val (num r),.no,.no]):=by
  have l2:dh (num r)=.ok (.int 2):=rfl
  simp only [aN,FL.bG,FL.bh,tE,tB,FL.e1,FL.e2,eV,eC,aO,ao,zz0,k1,l2,k5,dJ,Cj,Bm,if_false,if_true]
 have s2:aF (gT [gN 1,gN 2]) (eV 0) [.val (num r),.no,.no]=.ok (.nx,[.val (num r),.val (.int r.num),.val (.int (r.den:Int))]):=rfl
 rw [aS s1,aS s2]
 simp only [aw,aN,FL.bG,FL.bh,tE,ak,aa,eV,zz1,zz0,af,ao,wh,dJ,Cj,tB,FL.e2,eC,Bm,k3,if_false,az,aO,k4,k6]
end
section
def yj:Cs:={ C:=fun _=>none,st:=by simp }
end
section
end
section
def ev(f:List Int->Rat)(s:Sm):Rat:=(s.map fun p=>f p.1*p.2).sum
end
section
end
end FL
namespace L2
open PySem PySem.Spec PyProof.Rows
end L2
namespace FL
open PySem L2 PySem.Spec
open PyProof.Rows hiding St
end FL
namespace L2
open PySem PySem.Spec PyProof.Rows
end L2
namespace FL
open PySem PySem.Spec PyProof.Rows L2
end FL
namespace FL
open PySem L2 PySem.Spec
open PyProof.Rows hiding St
section
end
section
end
end FL
namespace FV
open PySem FL
section
end
variable {g:GF}{f:EF}{ix:List Nat}{w:List Int}{α β:Type}{cs ρ:En}{k:Nat}{it:IF}
section
section
def gd(f:β->D)(s:List (List Int×β)):D:=.dict (s.map fun p=>(tp p.1,f p.2))
def ka(s:List (List Int×β))(w:List Int):Option β:=(s.find? fun p=>decide (p.1=w)).map (·.2)
def nV(s:List (List Int×β))(w:List Int)(q:β):List (List Int×β):=if(s.any fun p=>decide (p.1=w))=true then s.map fun p=>if p.1=w then(p.1,q) else p else s++[(w,q)]
theorem zhd(f:β->D)(w:List Int):∀ s:List (List Int×β),look (s.map fun p=>(tp p.1,f p.2)) (kq w)=(ka s w).map f
 | []=>rfl
 | p::r=>by
  have ih:=zhd f w r
  unfold look ka at ih ⊢
  simp only [A2,Ed]
  rw [zgW p.1 w]
  cases decide (p.1=w) with
  | true=>rfl
  | false=>exact ih
theorem zgT(f:β->D):∀ s:List (List Int×β),keysOk true (s.map fun p=>(tp p.1,f p.2))=true
 | []=>rfl
 | p::r=>by
  have ih:=zgT f r
  unfold keysOk at ih ⊢
  rw [A2,FT,ih,Bool.and_true]
  show(match keyOf (tp p.1) with|some q=>yw q==true|none=>false)=true
  rw [vQ];rfl
theorem zfP(f:β->D)(s:List (List Int×β))(w:List Int):dictAt (gd f s) (tp w)=.ok (s.map (fun p=>(tp p.1,f p.2)),kq w):=by
 show(R.of (keyOf (tp w))).bind _=_
 rw [vQ]
 exact eQ (zgT f s)
theorem zfN(f:β->D)(s:List (List Int×β))(w:List Int):nN (gd f s) (tp w)=.ok ((ka s w).map f):=by
 unfold nN
 rw [zfP,ao,zhd]
theorem znl(f:β->D)(s:List (List Int×β))(w:List Int):inD (tp w) (gd f s)=.ok (.bool (ka s w).isSome):=by
 unfold inD
 rw [zfN,ao]
 cases ka s w <;> rfl
theorem za3{f:β->D}{s:List (List Int×β)}{q:β}(h:ka s w=some q):hW (gd f s) (tp w)=.ok (f q):=by
 unfold hW
 rw [zfN,ao,h];rfl
theorem zeD(f:β->D)(w:List Int):∀ s:List (List Int×β),((s.map fun p=>(tp p.1,f p.2)).any fun kv=>decide (keyOf kv.1=some (kq w)))=s.any fun p=>decide (p.1=w)
 | []=>rfl
 | p::r=>by
  simp only [A2,HS,zeD f w r]
  rw [zgW p.1 w]
theorem zr7(f:β->D)(s:List (List Int×β))(w:List Int)(q:β):wo (s.map fun p=>(tp p.1,f p.2)) (tp w) (kq w) (f q)=(nV s w q).map fun p=>(tp p.1,f p.2):=by
 unfold wo nV
 rw [zeD]
 split
 ·rw [B3,B3]
  refine JQ fun p _=>?_
  show(if keyOf (tp p.1)=some (kq w) then(tp p.1,f q) else(tp p.1,f p.2))=(fun p:List Int×β=>(tp p.1,f p.2)) (if p.1=w then(p.1,q) else p)
  by_cases c:p.1=w
  ·rw [if_pos c,if_pos (by rw [vQ,c])]
  ·rw [if_neg c,if_neg (fun z=>c (by rw [vQ] at z;exact zgX (BC z)))]
 ·rw [DU];rfl
theorem zfR{f:β->D}{s:List (List Int×β)}{q:β}(h:s.length+1<=lim):qj (gd f s) (tp w) (f q)=.ok (gd f (nV s w q)):=by
 unfold qj
 rw [zfP,ao]
 show aR (leB ((s.map fun p=>(tp p.1,f p.2)).length+1) lim) _=_
 rw [eQ (by rw [Bc];exact ko h),zr7];rfl
theorem zmE{s:List (List Int×β)}(h:∀ p∈s,p.1≠w):ka s w=none:=by
 unfold ka
 rw [List.find?_eq_none.mpr fun p hp=>by simpa using h p hp];rfl
def Gk(s:List (List Int×β)):Prop:=(s.map (·.1)).Nodup
theorem qt:∀{s:List (List Int×β)} {p:List Int×β},Gk s->p∈s->ka s p.1=some p.2
 | x::r,p,nk,h=>by
  unfold Gk at nk
  rw [A2,CW] at nk
  unfold ka
  rw [Ed]
  rcases A6.mp h with rfl|h
  ·simp
  ·have:x.1≠p.1:=fun z=>nk.1 (by rw [z];exact Gj h)
   rw [decide_eq_false this]
   exact qt (s:=r) nk.2 h
theorem zgm{s:List (List Int×β)}{q:β}(h:∀ p∈s,p.1≠w):nV s w q=s++[(w,q)]:=by
 unfold nV
 rw [if_neg]
 intro z
 obtain⟨p,hp,hw⟩:=List.any_eq_true.mp z
 exact h p hp (by simpa using hw)
end
theorem mh{f0:α->D}{xs:List α}(h:α->D)(hi:it ρ=.ok (xs.map f0,ρ))(hl:xs.length<=lim)
  (hx:∀ x∈xs,∃ β,g (f0 x) (bP k ix ρ)=.ok β/\f β=.ok (h x,β)/\back ρ ix (β.drop k)=ρ):eR k ix it g dq f ρ=.ok (.list (xs.map h),ρ):=by
 have key:∀(xs:List α) (acc:List D),acc.length+xs.length<=lim->(∀ x∈xs,∃ β,g (f0 x) (bP k ix ρ)=.ok β/\f β=.ok (h x,β)/\back ρ ix (β.drop k)=ρ)->fT k ix g dq f (xs.map f0) ρ acc=.ok (acc++xs.map h,ρ):=by
  intro xs
  induction xs with
  | nil=>intro acc _ _;simp [fT]
  | cons x xs ih =>
   intro acc hl hx
   obtain⟨β,h1,h2,h3⟩:=hx x (Bu ..)
   simp only [A0] at hl
   rw [A2]
   unfold fT
   rw [h1,ao,show dq β=.ok (true,β) from rfl,ao,if_pos rfl,h2,ao,eQ (ko (by omega)),h3,ih _ (by simp;omega) fun y m=>hx y (Bp x m)]
   simp
 unfold eR
 rw [hi,ao,key xs [] (by simpa using hl) hx]
 rfl
def pV:En->Prop
 | []=>True
 | .ow _ _::_=>False
 | _::r=>pV r
theorem pV.look:∀{ix:List Nat} {cs:En},pV cs->∀ i p d,(ix.zip cs).lookup i≠some (.ow p d)
 | [],_,_,i,p,d,z=>by simp at z
 | _::_,[],_,i,p,d,z=>by simp at z
 | j::ix,c::cs,h,i,p,d,z=>by
  have hr:pV cs:=by cases c <;> first|exact h|exact h.elim
  rw [BL,A5] at z
  split at z
  ·cases z;exact h
  ·exact pV.look hr i p d z
theorem j4(h:pV cs):back ρ ix cs=ρ:=ze6 (pV.look h) _ _
def rL(xs:List Rat):D:=.list (xs.map num)
def rT(xs:List Rat):D:=.tuple (xs.map num)
theorem zu(r s:Rat):dR (num r) (num s)=.ok (.bool (decide (r=s))):=by
 have e:decide (([r.num,(r.den:Int)]:List Int)=[s.num,(s.den:Int)])=decide (r=s):=by
  by_cases c:r=s
  ·subst c;simp
  ·rw [decide_eq_false c,decide_eq_false]
   intro z
   simp only [List.cons.injEq,and_true,Int.natCast_inj] at z
   exact c (Rat.ext z.1 z.2)
 rw [<- e]
 exact zl9 [r.num,(r.den:Int)] [s.num,(s.den:Int)]
theorem all_true(xs:List α):r6 (.list (xs.map fun _=>Cb true))=.ok (.bool true):=by
 have:=zas (xs.map fun _=>true)
 rw [B3] at this
 rw [show xs.map (fun _=>Cb true)=xs.map (Cb∘fun _=>true) from rfl,this]
 simp
end
end FV
namespace FL
open PySem
variable {d:D}
theorem zuS{k b:Nat}(h:dM k d)(hk:k<=60000)(m:Int)(sJ:1<=m)(jk:Bd m b)(hb:b<=1000):∃ g d',zag [d,.int m]=.ok (.int g,[d',.int m])/\0<=g/\g<m/\dM (k+1) d':=by
 obtain⟨n,c,s,rfl,h1,h2,h3⟩:=h
 have i0:∀ x y z:D,dW [x,y,z] 0=some x:=fun _ _ _=>rfl
 have i1:∀ x y z:D,dW [x,y,z] 1=some y:=fun _ _ _=>rfl
 have i2:∀ x y z:D,dW [x,y,z] 2=some z:=fun _ _ _=>rfl
 have j0:ie 3 0=some 0:=rfl
 have j1:ie 3 1=some 1:=rfl
 have yL:f9 (.int n) (.int m)=.ok (.bool (decide (n<m))):=rfl
 have hd:∀ i:Int,bH (.int i) (.int m)=.ok (.int (i.fdiv m)):=fun i=>zmi (by omega) jk (by omega)
 have hm:∀ i:Int,gf (.int i) (.int m)=.ok (.int (i.fmod m)):=fun i=>vW (by omega)
 have gd:∀ i:Int,0<=i->0<=i.fdiv m:=fun i hi=>Int.fdiv_nonneg hi (by omega)
 by_cases hn:n<m
 ·rw [decide_eq_true hn] at yL
  have hc:(c+1).natAbs<65536:=by omega
  have x1:=gh (i:=11) (dw (by decide)) (dw hc) (by decide)
  have xb:=((dw (i:=11) (by decide)).mul (dw hc)).add (dw (i:=5) (by decide))
  have x2:=zhw s (11*(c+1)+5) xb (by decide)
  have x3:=gh jk (zpF s (11*(c+1)+5)) (by omega)
  have nn:0<=n+m*oF s (11*(c+1)+5):=Int.add_nonneg h1 (Int.mul_nonneg (by omega) (zhv _ _))
  refine⟨(n+m*oF s (11*(c+1)+5)).fmod m,.list [.int ((n+m*oF s (11*(c+1)+5)).fdiv m),.int (c+1),.int s],?_,Hc _ (by omega),Iv _ (by omega),_,_,_,rfl,gd _ nn,by omega,by omega⟩
  simp only [zag,zax,FL.run,aW,slots,outs,outD,AI,A0,Bg,az,aw,aN,aF,sE,aO,c9,iZ,iY,fQ,jw,m8,de,m4,m7,e8,eC,eV,FL.e1,FL.e2,dQ,ml,jg,jf,iF,af,aa,aP,aZ,ak,jh,gi,gj,fW,bw,e6,m1,m2,iU,mQ,mU,mS,tE,tB,FL.lI,FL.bG,FL.bh,tM,dq,gN,gT,h9,nj,kF,setM,eh,lR,ao,lS,kO,zz0,zz1,BM,BO,BA,B1,DV,DW,Bm,if_false,if_true,CM,DB,Bw,reduceCtorEq,ay,eL,au,i3,dh,dJ,fZ,fR,aY,gL,fF,jd,eE,cD,cI,A5,DX,bP,back,BL,Dv,Dw,A2,CF,DY,C5,DZ,Df,c7,iE,iT,Cj,Dj,iD,kn,je,mj,mR,e3,iC,lX,m3,eT,jl,ju,kC,R.of,i0,i1,i2,j0,j1,yL,x1,x2,x3,hd,hm]
 ·rw [decide_eq_false hn] at yL
  refine⟨n.fmod m,.list [.int (n.fdiv m),.int c,.int s],?_,Hc _ (by omega),Iv _ (by omega),_,_,_,rfl,gd _ h1,by omega,by omega⟩
  simp only [zag,zax,FL.run,aW,slots,outs,outD,AI,A0,Bg,az,aw,aN,aF,sE,aO,c9,iZ,iY,fQ,jw,m8,de,m4,m7,e8,eC,eV,FL.e1,FL.e2,dQ,ml,jg,jf,iF,af,aa,aP,aZ,ak,jh,gi,gj,fW,bw,e6,m1,m2,iU,mQ,mU,mS,tE,tB,FL.lI,FL.bG,FL.bh,tM,dq,gN,gT,h9,nj,kF,setM,eh,lR,ao,lS,kO,zz0,zz1,BM,BO,BA,B1,DV,DW,Bm,if_false,if_true,CM,DB,Bw,reduceCtorEq,ay,eL,au,i3,dh,dJ,fZ,fR,aY,gL,fF,jd,eE,cD,cI,A5,DX,bP,back,BL,Dv,Dw,A2,CF,DY,C5,DZ,Df,c7,iE,iT,Cj,Dj,iD,kn,je,mj,mR,e3,iC,lX,m3,eT,jl,ju,kC,R.of,i0,i1,i2,j0,j1,yL,hd,hm]
end FL
namespace K08
open PySem FL FV K10
variable {b j k n:Nat}{x y:Sl}{a d:D}{r s:Rat}{c i:Int}{t:Tb}{e:List Int×List Rat}{ρ:En}{xs:List Rat}{h:List Int×List Rat->D}
section
theorem tD(r:Rat):kK [num r]=.ok (.bool true):=znv r
theorem zA(hr:QR.Bd n r)(hs:QR.Bd n s)(hn:n<=40000000):uD [num r,num s]=.ok (num (r+s)):=zrv hr hs hn
theorem wN(hr:QR.Bd n r)(hs:QR.Bd n s)(hn:n<=40000000):kL [num r,num s]=.ok (num (r*s)):=zuX hr hs hn
theorem gI(h:dM k d)(hk:k<=60000)(m:Int)(sJ:1<=m)(jk:Bd m b)(hb:b<=1000):∃ g d',bT [d,.int m]=.ok (.int g,[d',.int m])/\0<=g/\g<m/\dM (k+1) d':=zuS h hk m sJ jk hb
theorem sU(t:Int)(hb:b≠0)(hl:b<2^n)(hn:n<=90000000):jY [.int t,.int b]=.ok (num (F5 t b hb)):=zpo t hb hl hn
theorem zgK(xs:List Rat)(hl:xs.length<=1000):rP [rL xs]=.ok (.bool true):=by
 have q:tZ [.val (rL xs)]=.ok (.list (xs.map fun _=>Cb true),[.val (rL xs)]):=by
  unfold tZ
  exact mh (f0:=num) (xs:=xs) (fun _=>Cb true) rfl (by show _<=1000000;omega) fun r mr=>⟨[.val (num r)],rfl,by simp only [ak,aa,eV,zz0,af,ao,tD],j4 trivial⟩
 refine gR (ρ:=[.val (rL xs)]) rfl ?_
 show sg [.val (rL xs)]=_
 unfold sg
 have k1:dZ "list" (rL xs)=.ok (.bool true):=rfl
 simp only [az,dQ,FL.e1,eV,zz0,ao,k1,q,all_true]
theorem yV{n:Int}(hl:(xs.length:Int)=n)(hn:xs.length<=1000):eX [rL xs,.int n]=.ok (.bool true):=by
 refine gR (ρ:=[.val (rL xs),.val (.int n)]) rfl ?_
 show nF [.val (rL xs),.val (.int n)]=_
 unfold nF
 have k1:dh (rL xs)=.ok (.int n):=by
  show R.ok (Bi ((xs.map num).length:Int))=_
  rw [Bc,hl]
 simp only [az,dQ,ak,aa,af,FL.e1,FL.e2,eV,zz1,zz0,ao,zgK xs (by omega),k1,qk,decide_true]
theorem zp0(xs:List Rat)(hl:xs.length<=1000):uw [rT xs]=.ok (.bool (xs.all fun x=>decide (x=0))):=by
 refine gR (ρ:=[.val (rT xs)]) rfl ?_
 show xW [.val (rT xs)]=_
 unfold xW zdy
 have q:=mh (f0:=num) (k:=1) (ix:=[]) (it:=iE (eV 0)) (g:=gN 0) (f:=e2 dR (eV 0) (eC (.tuple [.int 0,.int 1]))) (ρ:=[.val (rT xs)]) (xs:=xs) (fun x=>Cb (decide (x=0))) rfl (by show _<=1000000;omega) fun x mx=>⟨[.val (num x)],rfl,by
  have h:=zu x 0
  rw [<- zt] at h
  simp only [FL.e2,eV,eC,zz0,ao,h],j4 trivial⟩
 simp only [az,FL.e1,q,ao]
 have:=zas (xs.map fun x=>decide (x=0))
 rw [B3] at this
 rw [show xs.map (fun x=>Cb (decide (x=0)))=xs.map (Cb∘fun x=>decide (x=0)) from rfl,this,ao]
 rw [List.all_map];rfl
abbrev Tb:=List (List Int×List Rat)
structure dO(c:Int)(t:Tb):Prop where
 nk:Gk t
 ky:∀ e∈t,∃ i j:Int,e.1=[i,j]/\0<=i/\i<j/\j<c
 rw:∀ e∈t,(e.2.length:Int)=c+1
theorem dO.perm{t':Tb}(h:dO c t)(p:t'.Perm t):dO c t' :=
 ⟨(p.map _).nodup_iff.mpr h.nk,fun e m=>h.ky e (p.subset m),fun e m=>h.rw e (p.subset m)⟩
theorem zh0{α β:Type}(g:α->β):∀{l:List β} {t:List α},l.Perm (t.map g)->∃ t':List α,t'.Perm t/\l=t'.map g
 | [],t,h=>by
  have:=h.symm.eq_nil
  rw [List.map_eq_nil_iff] at this
  subst this
  exact⟨[],.refl _,rfl⟩
 | x::l,t,h=>by
  obtain⟨e,he,rfl⟩:=Cq.mp (h.subset (Bu ..))
  obtain⟨pre,post,rfl⟩:=List.append_of_mem he
  have h2:(g e::l).Perm (g e::(pre++post).map g):=h.trans (by
   rw [DU,A2,DU]
   exact List.perm_middle)
  obtain⟨t',hp,rfl⟩:=zh0 g h2.cons_inv
  exact⟨e::t',(hp.cons e).trans List.perm_middle.symm,rfl⟩
def ig(e:List Int×List Rat):WK:=(e.1.getD 0 0,[e.1.getD 1 0])
structure St(t t':Tb):Prop where
 pm:t'.Perm t
 so:t'.Pairwise fun a b=>L2.gE (ig b) (ig a)=false
theorem zh6{h:List Int×List Rat->D}:∀{t:Tb},(∀ e∈t,qU (h e)=some (ig e))->lh (t.map h)=some (t.map ig)
 | [],_=>rfl
 | e::t,k=>by
  rw [A2,A2]
  show((qU (h e)).bind fun k=>(lh (t.map h)).map (k::·))=_
  rw [k e (Bu ..),zh6 fun x m=>k x (Bp _ m)];rfl
theorem wJ(hi:zcF d=.ok (t.map h))(hk:∀ e∈t,qU (h e)=some (ig e))(nd:(t.map ig).Nodup)(hl:t.length<=60):∃ t':Tb,St t t'/\jU d=.ok (.list (t'.map h)):=by
 let g:List Int×List Rat->WK×D:=fun e=>(ig e,h e)
 obtain⟨t',hp,e⟩:=zh0 g (zcD (t.map g))
 refine⟨t',⟨hp,?_⟩,?_⟩
 ·have:=@zcE yj (t.map g)
  rw [e,Iy] at this
  exact this
 ·unfold jU
  rw [hi,ao,eQ (by rw [Bc];exact ko (by omega)),zh6 hk]
  show aR (decide (t.map ig).Nodup) _=_
  rw [eQ (decide_eq_true nd),List.zip_map',e,B3];rfl
theorem dO.nd(h:dO c t):(t.map ig).Nodup:=by
 have:(t.map (·.1)).Nodup:=h.nk
 refine Iy.mpr ((Iy.mp this).imp_of_mem fun{a b} ha hb ne z=>ne ?_)
 obtain⟨i,j,ea,_⟩:=h.ky a ha
 obtain⟨i',j',eb,_⟩:=h.ky b hb
 unfold ig at z
 rw [ea,eb] at z ⊢
 have z1:i=i':=(Ei z).1
 have z2:j=j':=(List.cons.inj (Ei z).2).1
 rw [z1,z2]
theorem St.uniq{t1 t2:Tb}(h:dO c t)(a:St t t1)(b:St t t2):t1=t2:=by
 refine List.Perm.eq_of_pairwise (fun x y hx hy l1 l2=>?_) a.so b.so (a.pm.trans b.pm.symm)
 have mx:=a.pm.subset hx
 have my:=b.pm.subset hy
 have ek:ig x=ig y:=@zhn yj _ _ l2 l1
 obtain⟨i,j,ea,_⟩:=h.ky x mx
 obtain⟨i',j',eb,_⟩:=h.ky y my
 have e1:x.1=y.1:=by
  unfold ig at ek
  rw [ea,eb] at ek ⊢
  have z1:i=i':=(Ei ek).1
  have z2:j=j':=(List.cons.inj (Ei ek).2).1
  rw [z1,z2]
 have gx:=qt h.nk mx
 have gy:=qt h.nk my
 rw [e1] at gx
 rw [gx] at gy
 exact Gz e1 (BC gy)
def b6(e:List Int×List Rat):D:=.tuple [.int (e.1.getD 0 0),.int (e.1.getD 1 0),rL e.2]
def ft(e:List Int×List Rat):D:=.tuple [.int (e.1.getD 0 0),.int (e.1.getD 1 0),rT e.2]
def fq(t:Tb):Tb:=t.filter fun e=>!(e.2.all fun x=>decide (x=0))
theorem zf1{α:Type}(f:α->D):∀(xs:List α) (i:Nat),j6 i (xs.map f)=(xs.zipIdx i).map fun q=>.tuple [.int q.2,f q.1]
 | [],_=>rfl
 | x::xs,i=>by simp only [A2,j6,Iq,zf1 f xs (i+1)]
theorem kT{i:Nat}{b:D}(hx:ρ[i]?=some x)(nx:Np x)(hy:(ρ.set i (.val a))[j]?=some y)(ny:Np y):gT [gN i,gN j] (.tuple [a,b]) ρ=.ok ((ρ.set i (.val a)).set j (.val b)):=by
 show(gN i a ρ).bind _=_
 rw [mD hx nx,ao]
 show(gN j b _).bind _=_
 rw [mD hy ny];rfl
theorem yy{i:Nat}{b c:D}{z:Sl}(hx:ρ[i]?=some x)(nx:Np x)(hy:(ρ.set i (.val a))[j]?=some y)(ny:Np y)(hz:((ρ.set i (.val a)).set j (.val b))[k]?=some z)(nz:Np z):gT [gN i,gN j,gN k] (.tuple [a,b,c]) ρ=.ok (((ρ.set i (.val a)).set j (.val b)).set k (.val c)):=by
 show(gN i a ρ).bind _=_
 rw [mD hx nx,ao]
 show(gN j b _).bind _=_
 rw [mD hy ny,ao]
 show(gN k c _).bind _=_
 rw [mD hz nz];rfl
theorem zjj(h0:0<=i)(h1:i<c):uz [.int i,.int c]=.ok (.bool true):=by
 have wh:nB [.int i]=.ok (.bool true):=rfl
 simp only [uz,zau,FL.run,aW,slots,outs,outD,AI,A0,Bg,az,aw,aN,aF,sE,aO,c9,iZ,iY,fQ,jw,m8,de,m4,m7,e8,eC,eV,FL.e1,FL.e2,dQ,ml,jg,jf,iF,af,aa,aP,aZ,ak,jh,gi,gj,fW,bw,e6,m1,m2,iU,mQ,mU,mS,tE,tB,FL.lI,FL.bG,FL.bh,tM,dq,gN,gT,h9,nj,kF,setM,eh,lR,ao,lS,kO,zz0,zz1,BM,BO,BA,B1,DV,DW,Bm,if_false,if_true,CM,DB,Bw,reduceCtorEq,ay,eL,au,i3,dh,dJ,fZ,fR,aY,gL,fF,jd,eE,cD,cI,A5,DX,bP,back,BL,Dv,Dw,A2,CF,DY,C5,DZ,Df,c7,iE,iT,Cj,Dj,iD,kn,je,mj,mR,e3,iC,lX,m3,eT,jl,ju,kC,wh,zg3,zcS,decide_eq_true h0,decide_eq_true h1]
theorem zpN{j:Int}(he:e.1=[i,j])(h0:0<=i)(h1:i<j)(h2:j<c):uC [b6 e,.int c]=.ok (.bool true):=by
 have hl:b6 e=.tuple [.int i,.int j,rL e.2]:=by unfold b6;rw [he];rfl
 rw [hl]
 have t1:dZ "tuple" (.tuple [.int i,.int j,rL e.2])=.ok (.bool true):=rfl
 have t3:b9 (.int ((0+1+1+1:Nat):Int)) (.int 3)=.ok (.bool false):=rfl
 have w1:=zjj (i:=i) (c:=c) h0 (by omega)
 have w2:=zjj (i:=j) (c:=c) (by omega) h2
 simp only [uC,zay,FL.run,aW,slots,outs,outD,AI,A0,Bg,az,aw,aN,aF,sE,aO,c9,iZ,iY,fQ,jw,m8,de,m4,m7,e8,eC,eV,FL.e1,FL.e2,dQ,ml,jg,jf,iF,af,aa,aP,aZ,ak,jh,gi,gj,fW,bw,e6,m1,m2,iU,mQ,mU,mS,tE,tB,FL.lI,FL.bG,FL.bh,tM,dq,gN,gT,h9,nj,kF,setM,eh,lR,ao,lS,kO,zz0,zz1,BM,BO,BA,B1,DV,DW,Bm,if_false,if_true,CM,DB,Bw,reduceCtorEq,ay,eL,au,i3,dh,dJ,fZ,fR,aY,gL,fF,jd,eE,cD,cI,A5,DX,bP,back,BL,Dv,Dw,A2,CF,DY,C5,DZ,Df,c7,iE,iT,Cj,Dj,iD,kn,je,mj,mR,e3,iC,lX,m3,eT,jl,ju,kC,t1,t3,w1,w2,zcS,decide_eq_true h1]
theorem zu1(xs:List Rat):fR (rL xs)=.ok (rT xs):=rfl
theorem zqI(h:dO c t)(c0:0<=c)(c6:c<=6)(hl:t.length<=60):xf [.int c,.list (t.map b6)]=.ok (gd rT t):=by
 generalize hLL:C3 (t.map b6)=LL
 have L:=qo (f:=fun q:(List Int×List Rat)×Nat=>.tuple [.int q.2,b6 q.1]) (g:=gT [gN 3,gN 4]) (b:=Ad)
  (fun done ρ=>∃(y3 y4 y5 y6 y7:Sl),Np y3/\Np y4/\Np y5/\Np y6/\Np y7/\ρ=[.val (.int c),.val LL,.ow false (gd rT (done.map (·.1))),y3,y4,y5,y6,y7])
  (t.zipIdx 0) [] [.val (.int c),.val LL,.ow false (gd rT []),.no,.no,.no,.no,.no] ⟨_,_,_,_,_,bX,bX,bX,bX,bX,rfl⟩ (by
   rintro pre ⟨e,n⟩ post ρ he ⟨y3,y4,y5,y6,y7,n3,n4,n5,n6,n7,rfl⟩
   rw [BA] at he
   have ht:t=pre.map (·.1)++e::post.map (·.1):=by
    have:=congrArg (List.map (·.1)) he
    simpa using this
   generalize hpm:pre.map (·.1)=pm at ht ⊢
   have em:e∈t:=by rw [ht];simp
   obtain⟨i,j,fH,i0,ij,jc⟩:=h.ky e em
   have rl:=h.rw e em
   have fr:ka pm [i,j]=none:=zmE fun p hp z=>by
    have nk:=h.nk
    unfold Gk at nk
    rw [ht,DU,IA] at nk
    exact nk.2.2 p.1 (Gj hp) e.1 (Gj (Bu ..)) (by rw [z,fH])
   have hlv:b6 e=.tuple [.int i,.int j,rL e.2]:=by unfold b6;rw [fH];rfl
   have nm:=zpN (c:=c) fH i0 ij jc
   have ro:=yV (xs:=e.2) (n:=c+1) rl (by omega)
   have g1:gT [gN 3,gN 4] (.tuple [.int n,b6 e]) [.val (.int c),.val LL,.ow false (gd rT pm),y3,y4,y5,y6,y7]=.ok [.val (.int c),.val LL,.ow false (gd rT pm),.val (.int n),.val (b6 e),y5,y6,y7]:=kT rfl n3 rfl n4
   have g2:gT [gN 5,gN 6,gN 7] (.tuple [.int i,.int j,rL e.2]) [.val (.int c),.val LL,.ow false (gd rT pm),.val (.int n),.val (b6 e),y5,y6,y7]=.ok [.val (.int c),.val LL,.ow false (gd rT pm),.val (.int n),.val (b6 e),.val (.int i),.val (.int j),.val (rL e.2)]:=yy rfl n5 rfl n6 rfl n7
   have b1:aN (FL.bh (tE (ak uC (aa (eV 4) (aa (eV 0) af))))) e8 aO [.val (.int c),.val LL,.ow false (gd rT pm),.val (.int n),.val (b6 e),y5,y6,y7]=.ok (.nx,[.val (.int c),.val LL,.ow false (gd rT pm),.val (.int n),.val (b6 e),y5,y6,y7]):=by
    simp only [FL.run,aW,slots,outs,outD,AI,A0,Bg,az,aw,aN,aF,sE,aO,c9,iZ,iY,fQ,jw,m8,de,m4,m7,e8,eC,eV,FL.e1,FL.e2,dQ,ml,jg,jf,iF,af,aa,aP,aZ,ak,jh,gi,gj,fW,bw,e6,m1,m2,iU,mQ,mU,mS,tE,tB,FL.lI,FL.bG,FL.bh,tM,dq,gN,gT,h9,nj,kF,setM,eh,lR,ao,lS,kO,zz0,zz1,BM,BO,BA,B1,DV,DW,Bm,if_false,if_true,CM,DB,Bw,reduceCtorEq,ay,eL,au,i3,dh,dJ,fZ,fR,aY,gL,fF,jd,eE,cD,cI,A5,DX,bP,back,BL,Dv,Dw,A2,CF,DY,C5,DZ,Df,c7,iE,iT,Cj,Dj,iD,kn,je,mj,mR,e3,iC,lX,m3,eT,jl,ju,kC,nm]
   have b2:aF (gT [gN 5,gN 6,gN 7]) (eV 4) [.val (.int c),.val LL,.ow false (gd rT pm),.val (.int n),.val (b6 e),y5,y6,y7]=.ok (.nx,[.val (.int c),.val LL,.ow false (gd rT pm),.val (.int n),.val (b6 e),.val (.int i),.val (.int j),.val (rL e.2)]):=by
    unfold aF
    show(gT [gN 5,gN 6,gN 7] (b6 e) _).bind _=_
    rw [show gT [gN 5,gN 6,gN 7] (b6 e)=gT [gN 5,gN 6,gN 7] (.tuple [.int i,.int j,rL e.2]) by rw [hlv],g2]
    rfl
   have ii:inD (.tuple [.int i,.int j]) (gd rT pm)=.ok (.bool false):=by
    have:=znl rT pm [i,j]
    rw [fr] at this
    exact this
   have l2:leB 2 lim=true:=by decide
   have b3:aN (tB (iU inD (aP (aa (eV 5) (aa (eV 6) af))) 2)) e8 aO [.val (.int c),.val LL,.ow false (gd rT pm),.val (.int n),.val (b6 e),.val (.int i),.val (.int j),.val (rL e.2)]=.ok (.nx,[.val (.int c),.val LL,.ow false (gd rT pm),.val (.int n),.val (b6 e),.val (.int i),.val (.int j),.val (rL e.2)]):=by
    simp only [FL.run,aW,slots,outs,outD,AI,A0,Bg,az,aw,aN,aF,sE,aO,c9,iZ,iY,fQ,jw,m8,de,m4,m7,e8,eC,eV,FL.e1,FL.e2,dQ,ml,jg,jf,iF,af,aa,aP,aZ,ak,jh,gi,gj,fW,bw,e6,m1,m2,iU,mQ,mU,mS,tE,tB,FL.lI,FL.bG,FL.bh,tM,dq,gN,gT,h9,nj,kF,setM,eh,lR,ao,lS,kO,zz0,zz1,BM,BO,BA,B1,DV,DW,Bm,if_false,if_true,CM,DB,Bw,reduceCtorEq,ay,eL,au,i3,dh,dJ,fZ,fR,aY,gL,fF,jd,eE,cD,cI,A5,DX,bP,back,BL,Dv,Dw,A2,CF,DY,C5,DZ,Df,c7,iE,iT,Cj,Dj,iD,kn,je,mj,mR,e3,iC,lX,m3,eT,jl,ju,kC,aR,l2,ii]
   have b4:aN (FL.bh (tE (ak eX (aa (eV 7) (aa (e2 ay (eV 0) (eC (.int 1))) af))))) e8 aO [.val (.int c),.val LL,.ow false (gd rT pm),.val (.int n),.val (b6 e),.val (.int i),.val (.int j),.val (rL e.2)]=.ok (.nx,[.val (.int c),.val LL,.ow false (gd rT pm),.val (.int n),.val (b6 e),.val (.int i),.val (.int j),.val (rL e.2)]):=by
    simp only [FL.run,aW,slots,outs,outD,AI,A0,Bg,az,aw,aN,aF,sE,aO,c9,iZ,iY,fQ,jw,m8,de,m4,m7,e8,eC,eV,FL.e1,FL.e2,dQ,ml,jg,jf,iF,af,aa,aP,aZ,ak,jh,gi,gj,fW,bw,e6,m1,m2,iU,mQ,mU,mS,tE,tB,FL.lI,FL.bG,FL.bh,tM,dq,gN,gT,h9,nj,kF,setM,eh,lR,ao,lS,kO,zz0,zz1,BM,BO,BA,B1,DV,DW,Bm,if_false,if_true,CM,DB,Bw,reduceCtorEq,ay,eL,au,i3,dh,dJ,fZ,fR,aY,gL,fF,jd,eE,cD,cI,A5,DX,bP,back,BL,Dv,Dw,A2,CF,DY,C5,DZ,Df,c7,iE,iT,Cj,Dj,iD,kn,je,mj,mR,e3,iC,lX,m3,eT,jl,ju,kC,ro]
   have dp:qj (gd rT pm) (.tuple [.int i,.int j]) (rT e.2)=.ok (gd rT (nV pm [i,j] e.2)):=zfR (w:=[i,j]) (By (show _<=200 by
    have:=congrArg Gx ht
    rw [B6] at this
    omega) (by decide))
   have b5:iC 2 (aP (aa (eV 5) (aa (eV 6) af))) (e1 fR (eV 7)) [.val (.int c),.val LL,.ow false (gd rT pm),.val (.int n),.val (b6 e),.val (.int i),.val (.int j),.val (rL e.2)]=.ok (.nx,[.val (.int c),.val LL,.ow false (gd rT (pm++[e])),.val (.int n),.val (b6 e),.val (.int i),.val (.int j),.val (rL e.2)]):=by
    have pn:nV pm [i,j] e.2=pm++[e]:=by
     rw [zgm fun p hp z=>?_,<- fH]
     have:=qt (s:=t) h.nk (p:=p) (by rw [ht];exact El _ hp)
     have nk:=h.nk
     unfold Gk at nk
     rw [ht,DU,IA] at nk
     exact nk.2.2 p.1 (Gj hp) e.1 (Gj (Bu ..)) (by rw [z,fH])
    rw [pn] at dp
    have tr:=zu1 e.2
    generalize rL e.2=R7 at tr ⊢
    simp only [iC,FL.e1,bw,aP,aa,af,eV,zz1,zz0,ao,aR,l2,if_true,A0,Bg,Bw,tr,dp,eh,BO,BM]
   refine⟨[.val (.int c),.val LL,.ow false (gd rT (pm++[e])),.val (.int n),.val (b6 e),.val (.int i),.val (.int j),.val (rL e.2)],.nx,?_,.inl rfl,_,_,_,_,_,cT _,cT _,cT _,cT _,cT _,by rw [DU,hpm];rfl⟩
   rw [g1,ao]
   unfold Ad
   rw [aS b1,aS b2,aS b3,aS b4,b5])
 obtain⟨ρ',e,y3,y4,y5,y6,y7,_,_,_,_,_,rfl⟩:=L
 refine zdG (ρ:=[.val (.int c),.val LL,.ow false (gd rT t),y3,y4,y5,y6,y7]) rfl ?_
 show xZ [.val (.int c),.val LL,.no,.no,.no,.no,.no,.no]=_
 have s1:c9 2 je [.val (.int c),.val LL,.no,.no,.no,.no,.no,.no]=.ok (.nx,[.val (.int c),.val LL,.ow false (gd rT []),.no,.no,.no,.no,.no]):=rfl
 have s2:Am [.val (.int c),.val LL,.ow false (gd rT []),.no,.no,.no,.no,.no]=.ok (.nx,[.val (.int c),.val LL,.ow false (gd rT t),y3,y4,y5,y6,y7]):=by
  unfold Am c7
  have hi:oq (aa (eV 1) af) [.val (.int c),.val LL,.ow false (gd rT []),.no,.no,.no,.no,.no]=.ok ((t.zipIdx 0).map fun q=>.tuple [.int q.2,b6 q.1],[.val (.int c),.val LL,.ow false (gd rT []),.no,.no,.no,.no,.no]):=by
   rw [<- zf1,<- hLL];rfl
  rw [hi,ao,e]
  simp
 unfold xZ
 rw [aS s1,aS s2]
 rfl
theorem zuQ(h:dO c t)(c1:1<=c)(c6:c<=6)(hl:t.length<=60):∃ t':Tb,St t t'/\rK [.int c,.list (t.map b6)]=.ok (.tuple [.int c,.tuple ((fq t').map ft)]):=by
 obtain⟨t',ht',hs⟩:=wJ (t:=t) (d:=gd rT t) (h:=fun e=>tp e.1) (by show R.ok ((t.map fun p=>(tp p.1,rT p.2)).map (·.1))=_;rw [B3];rfl) (fun e m=>by obtain⟨i,j,eq,_⟩:=h.ky e m;unfold ig;rw [eq];rfl) h.nd hl
 refine⟨t',ht',?_⟩
 have hp:=ht'.pm
 have h':=h.perm hp
 have pr:=zqI h (by omega) c6 hl
 generalize C3 (t.map b6)=LL at pr ⊢
 have q:wz [.no,.val (.int c),.val LL,.val (gd rT t)]=.ok (.list ((fq t').map ft),[.no,.val (.int c),.val LL,.val (gd rT t)]):=by
  unfold wz eR
  have it:iE (e1 jU (eV 3)) [.no,.val (.int c),.val LL,.val (gd rT t)]=.ok (t'.map fun e=>tp e.1,[.no,.val (.int c),.val LL,.val (gd rT t)]):=by
   simp only [iE,FL.e1,eV,zz1,zz0,ao,hs,iT]
  rw [it,ao]
  have key:∀(u:Tb) (acc:List D),(∀ e∈u,e∈t')->acc.length+u.length<=60->fT 2 [3] (gT [gN 0,gN 1]) (FL.bh (tE (ak uw (aa (e2 hW (eV 2) (aP (aa (eV 0) (aa (eV 1) af)))) af)))) (aP (aa (eV 0) (aa (eV 1) (aa (e2 hW (eV 2) (aP (aa (eV 0) (aa (eV 1) af)))) af)))) (u.map fun e=>tp e.1) [.no,.val (.int c),.val LL,.val (gd rT t)] acc=.ok (acc++(fq u).map ft,[.no,.val (.int c),.val LL,.val (gd rT t)]):=by
   intro u
   induction u with
   | nil=>intro acc _ _;simp [fT,fq]
   | cons e u ih =>
    intro acc hu hac
    have em:=hu e (Bu ..)
    obtain⟨i,j,fH,i0,ij,jc⟩:=h'.ky e em
    have rl:=h'.rw e em
    rw [A0] at hac
    have dx:hW (gd rT t) (.tuple [.int i,.int j])=.ok (rT e.2):=by
     have:=qt h.nk (hp.subset em)
     rw [fH] at this
     exact za3 (f:=rT) this
    have no:=zp0 e.2 (by omega)
    have l2:leB 2 lim=true:=by decide
    have l3:leB 3 lim=true:=by decide
    have hg:gT [gN 0,gN 1] (tp e.1) (bP 2 [3] [.no,.val (.int c),.val LL,.val (gd rT t)])=.ok [.val (.int i),.val (.int j),.val (gd rT t)]:=by rw [fH];rfl
    have ht:(FL.bh (tE (ak uw (aa (e2 hW (eV 2) (aP (aa (eV 0) (aa (eV 1) af)))) af)))) [.val (.int i),.val (.int j),.val (gd rT t)]=.ok (!(e.2.all fun x=>decide (x=0)),[.val (.int i),.val (.int j),.val (gd rT t)]):=by
     simp only [FL.bh,tE,ak,aa,af,FL.e2,aP,eV,zz1,zz0,ao,aR,l2,if_true,A0,Bg,Bw,dx,no,dJ]
    have hf:(aP (aa (eV 0) (aa (eV 1) (aa (e2 hW (eV 2) (aP (aa (eV 0) (aa (eV 1) af)))) af)))) [.val (.int i),.val (.int j),.val (gd rT t)]=.ok (ft e,[.val (.int i),.val (.int j),.val (gd rT t)]):=by
     have:ft e=.tuple [.int i,.int j,rT e.2]:=by unfold ft;rw [fH];rfl
     rw [this]
     simp only [aa,af,FL.e2,aP,eV,zz1,zz0,ao,aR,l2,l3,if_true,A0,Bg,Bw,dx]
    have hb:back [.no,.val (.int c),.val LL,.val (gd rT t)] [3] (([.val (.int i),.val (.int j),.val (gd rT t)]:En).drop 2)=[.no,.val (.int c),.val LL,.val (gd rT t)]:=j4 trivial
    rw [A2]
    unfold fT
    rw [hg,ao,ht,ao]
    have hu':∀ e∈u,e∈t':=fun x m=>hu x (Bp _ m)
    cases cz:(e.2.all fun x=>decide (x=0)) with
    | true =>
     rw [if_neg (by simp),hb,ih acc hu' (by omega)]
     unfold fq
     rw [JP (by simp [cz])]
    | false =>
     rw [if_pos (by simp),hf,ao,eQ (ko (By (show _<=200 by omega) (by decide))),hb,ih _ hu' (by simp;omega)]
     unfold fq
     rw [JO (by simp [cz])]
     simp
  rw [key t' [] (fun _ m=>m) (by simpa using (by rw [hp.length_eq];exact hl))]
  rfl
 have wh:nB [.int c]=.ok (.bool true):=rfl
 have b1:aN (FL.bG (FL.bh (tE (ak nB (aa (eV 1) af)))) (FL.bh (tB (iF oC oC (eC (.int 1)) (eV 1) (eC (.int 6)))))) e8 aO [.no,.val (.int c),.val LL,.no]=.ok (.nx,[.no,.val (.int c),.val LL,.no]):=by
  simp only [FL.run,aW,slots,outs,outD,AI,A0,Bg,az,aw,aN,aF,sE,aO,c9,iZ,iY,fQ,jw,m8,de,m4,m7,e8,eC,eV,FL.e1,FL.e2,dQ,ml,jg,jf,iF,af,aa,aP,aZ,ak,jh,gi,gj,fW,bw,e6,m1,m2,iU,mQ,mU,mS,tE,tB,FL.lI,FL.bG,FL.bh,tM,dq,gN,gT,h9,nj,kF,setM,eh,lR,ao,lS,kO,zz0,zz1,BM,BO,BA,B1,DV,DW,Bm,if_false,if_true,CM,DB,Bw,reduceCtorEq,ay,eL,au,i3,dh,dJ,fZ,fR,aY,gL,fF,jd,eE,cD,cI,A5,DX,bP,back,BL,Dv,Dw,A2,CF,DY,C5,DZ,Df,c7,iE,iT,Cj,Dj,iD,kn,je,mj,mR,e3,iC,lX,m3,eT,jl,ju,kC,wh,zg3,decide_eq_true c1,decide_eq_true c6]
 have b2:aF (gN 3) (ak xf (aa (eV 1) (aa (eV 2) af))) [.no,.val (.int c),.val LL,.no]=.ok (.nx,[.no,.val (.int c),.val LL,.val (gd rT t)]):=by
  simp only [FL.run,aW,slots,outs,outD,AI,A0,Bg,az,aw,aN,aF,sE,aO,c9,iZ,iY,fQ,jw,m8,de,m4,m7,e8,eC,eV,FL.e1,FL.e2,dQ,ml,jg,jf,iF,af,aa,aP,aZ,ak,jh,gi,gj,fW,bw,e6,m1,m2,iU,mQ,mU,mS,tE,tB,FL.lI,FL.bG,FL.bh,tM,dq,gN,gT,h9,nj,kF,setM,eh,lR,ao,lS,kO,zz0,zz1,BM,BO,BA,B1,DV,DW,Bm,if_false,if_true,CM,DB,Bw,reduceCtorEq,ay,eL,au,i3,dh,dJ,fZ,fR,aY,gL,fF,jd,eE,cD,cI,A5,DX,bP,back,BL,Dv,Dw,A2,CF,DY,C5,DZ,Df,c7,iE,iT,Cj,Dj,iD,kn,je,mj,mR,e3,iC,lX,m3,eT,jl,ju,kC,pr]
 show(xK [.no,.val (.int c),.val LL,.no]).bind _=_
 unfold xK zU
 rw [b1,ao]
 show((aF _ _ _).bind _).bind _=_
 rw [b2,ao]
 have tq:e1 fR wz [.no,.val (.int c),.val LL,.val (gd rT t)]=.ok (.tuple ((fq t').map ft),[.no,.val (.int c),.val LL,.val (gd rT t)]):=by
  unfold FL.e1
  rw [q];rfl
 simp only [aa,af,eV,zz1,zz0,ao,tq]
 rfl
end
variable {ρ1:En}{t:TF}{b:SF}{l:List D}
section
theorem yY(h0:0<=i)(h:l[i.toNat]?=some d):au (.list l) (.int i)=.ok d:=by
 have hl:i.toNat<l.length:=(Bf.mp h).1
 show R.of (dW l i)=_
 unfold dW ie
 rw [if_pos h0,if_pos (by omega)]
 show R.of (l[i.toNat]?)=_
 rw [h];rfl
def unit(n:Nat)(k:Int):List Rat:=(B4 n).map fun p:Nat=>if(p:Int)=k then 1 else 0
theorem zi9(n:Nat)(k:Int):(unit n k).length=n:=by unfold unit;simp
theorem qP(s:Rat):num (-s)=.tuple [.int (-s.num),.int (s.den:Int)]:=by
 unfold num
 rw [Rat.neg_num,Rat.neg_den]
theorem nH(h:QR.Bd n s):QR.Bd n (-s):=⟨by rw [Rat.neg_num,Int.natAbs_neg];exact h.1,by rw [Rat.neg_den];exact h.2⟩
theorem zcK(hr:QR.Bd n r)(hs:QR.Bd n s)(hn:n<=40000000):uB [num r,num s]=.ok (num (r-s)):=by
 have h:=zA hr (nH hs) hn
 rw [<- IB,qP] at h
 refine gR (ρ:=[.val (num r),.val (num s)]) rfl ?_
 show xY [.val (num r),.val (num s)]=_
 have x0:au (num s) (.int 0)=.ok (.int s.num):=rfl
 have x1:au (num s) (.int 1)=.ok (.int (s.den:Int)):=rfl
 have l2:leB 2 lim=true:=by decide
 unfold xY
 simp only [az,ak,aa,af,aP,FL.e1,FL.e2,eV,eC,v7,zz1,zz0,ao,x0,x1,aR,l2,if_true,A0,Bg,Bw,h]
theorem oY:∀(xs ys:List Rat),gu (xs.map num) (ys.map num)=(xs.zip ys).map fun q=>.tuple [num q.1,num q.2]
 | [],_=>by simp [gu]
 | _::_,[]=>by simp [gu]
 | x::xs,y::ys=>by simp only [A2,gu,BL,oY xs ys]
theorem ztQ{a b:List Rat}{n:Int}(ha:(a.length:Int)=n)(hb:(b.length:Int)=n)(hn:n<=1000):uE [.list [rL a,rL b],.int n]=.ok .none:=by
 have ra:=yV (xs:=a) (n:=n) ha (by omega)
 have rb:=yV (xs:=b) (n:=n) hb (by omega)
 refine ztY (ρ:=[.val (.list [rL a,rL b]),.val (.int n),.val (.int 1),.val (rL b)]) rfl ?_
 show Al [.val (.list [rL a,rL b]),.val (.int n),.no,.no]=_
 have h:∀(x:List Rat) (k:Int) (y2 y3:Sl),Np y2->Np y3->eX [rL x,.int n]=.ok (.bool true)->(gT [gN 2,gN 3] (.tuple [.int k,rL x]) [.val (.list [rL a,rL b]),.val (.int n),y2,y3]).bind rG=.ok (.nx,[.val (.list [rL a,rL b]),.val (.int n),.val (.int k),.val (rL x)]):=fun x k y2 y3 n2 n3 hx=>by
  rw [kT rfl n2 rfl n3,ao]
  unfold rG
  simp only [BO,BM,aN,FL.bh,tE,ak,aa,af,eV,zz1,zz0,ao,hx,dJ,Cj,Bm,if_false,aO]
 unfold Al c7
 rw [show oq (aa (eV 0) af) [.val (.list [rL a,rL b]),.val (.int n),.no,.no]=.ok ([.tuple [.int 0,rL a],.tuple [.int 1,rL b]],[.val (.list [rL a,rL b]),.val (.int n),.no,.no]) from rfl,ao]
 have L:=fun ρ1 ρ2 ρ3 (h1:(gT [gN 2,gN 3] (.tuple [.int 0,rL a]) ρ1).bind rG=.ok (.nx,ρ2)) (h2:(gT [gN 2,gN 3] (.tuple [.int 1,rL b]) ρ2).bind rG=.ok (.nx,ρ3))=>(show forL (gT [gN 2,gN 3]) rG [.tuple [.int 0,rL a],.tuple [.int 1,rL b]] ρ1=.ok (.nx,ρ3) by
  obtain⟨z1,e1,h1⟩:=@bK yj _ _ _ _ _ h1
  obtain⟨z2,e2,h2⟩:=@bK yj _ _ _ _ _ h2
  simp only [forL,e1,ao,h1,e2,h2])
 exact L _ _ _ (h a 0 .no .no bX bX ra) (h b 1 _ _ (cT _) (cT _) rb)
def cy(n:Nat):List Rat:=AI n 0
theorem zrq(r:Rat):Pl 1 (num r):=zh8 fun d h=>by
 simp only [A6,Cm,or_false] at h
 rcases h with rfl|rfl <;> exact qV _
theorem qW(xs:List Rat):Pl 2 (rL xs):=zrp fun d h=>by
 obtain⟨r,_,rfl⟩:=Cq.mp h
 exact zrq r
theorem oJ(h:Pl n a)(hn:n<=64:=by decide):b9 a a=.ok (.bool false):=by
 rw [zhG h h hn hn,SeqAt.eqv_refl a h.1];rfl
theorem m9{s t:SF}(h:s ρ=.ok (.rt d,ρ1)):aw s t ρ=.ok (.rt d,ρ1):=by
 unfold aw
 rw [h];rfl
theorem jv{a:SF}(h:t ρ=.ok (true,ρ1)):aN t a b ρ=a ρ1:=by
 unfold aN
 rw [h];rfl
theorem gU{a:SF}(h:t ρ=.ok (false,ρ1)):aN t a b ρ=b ρ1:=by
 unfold aN
 rw [h];rfl
def tK:Int:=10000000000000000000
def zdb:Int:=20000000000000000001
theorem zdt:dH (.int 10) (.int 19)=.ok (.int tK):=rfl
theorem zhx:bf (.int 2) (.int tK)=.ok (.int (2*tK)):=gh (n:=16) (m:=70) (dw (by decide)) ⟨by decide⟩ (by decide)
theorem zex:ay (.int (2*tK)) (.int 1)=.ok (.int zdb):=rfl
theorem zaF{d d':D}{p p':Bool}:∀(ρ:En) (n i:Nat),ρ[i]?=some (.ow p d)->cD [(n+i,.ow p' d')] n ρ=ρ.set i (.ow p d')
 | [],n,i,h=>by simp at h
 | x::r,n,0,h=>by
  simp only [zz0,Ct] at h
  subst h
  unfold cD
  rw [BM]
  congr 1
  ·simp [cI,A5]
  ·refine zaE r (n+1) (by omega)
 | x::r,n,i+1,h=>by
  unfold cD
  rw [BO,show n+(i+1)=(n+1)+i by omega,zaF r (n+1) i (by simpa using h)]
  congr 1
  refine zaB ?_
  rw [A5]
  have:(n==n+1+i)=false:=by simp;omega
  rw [this]
  rfl
structure Row(n:Nat)(xs:List Rat):Prop where
 l:xs.length=n
 b:∀ x∈xs,QR.Bd 70 x
theorem yW(hn:(n:Int)=c+1)(c6:c<=6)(h:ρ[3]?=some (.val (.int c))):eT (aa (e2 ay (eV 3) (eC (.int 1))) af) ρ=.ok (eD 0 (c+1),ρ):=by
 have ad:ay (.int c) (.int 1)=.ok (.int (c+1)):=rfl
 have ev:eV 3 ρ=.ok (.int c,ρ):=by unfold eV;rw [h]
 have r:=zR (j:=c+1) (by omega) (by omega)
 simp only [eT,aa,af,FL.e2,ev,eC,ao,ad,r]
end
end K08
namespace K10
open PySem FL FV
open K08 (tD zA wN gI sU Tb dO St wJ b6 ft fq kT yy yY zcK oY cy qP nH)
variable {r:R (Fl×En)}{u:SF}{f:EF}{g:R En}{ρ ρ1:En}{i n:Nat}{w:Rat}{a b:List Rat}{d:D}{x:Sl}
section
theorem rj(hf:f ρ=.ok (d,ρ))(h:ρ[i]?=some x)(n:Np x):aF (gN i) f ρ=.ok (.nx,ρ.set i (.val d)):=oS (y:=(d,ρ)) hf h n
theorem uT(h:g=.ok ρ1)(k:u ρ1=r):g.bind u=r:=by rw [h];exact k
theorem zvm{xs ys:List Rat}(hl:xs.length<=1000)(hx:∀ x∈xs,QR.Bd n x)(hy:∀ y∈ys,QR.Bd n y)(hw:QR.Bd n w)(hn:n<=10000)(he:xs.length=ys.length):xg [rL xs,num w,rT ys]=.ok (rL ((xs.zip ys).map fun q=>q.1+w*q.2)):=by
 have e0:=zu w 0
 rw [<- zt] at e0
 by_cases c:w=0
 ·subst c
  rw [decide_eq_true rfl] at e0
  have hz:(xs.zip ys).map (fun q=>q.1+0*q.2)=xs:=by
   have:(fun q:Rat×Rat=>q.1+0*q.2)=Prod.fst:=by funext q;rw [Rat.zero_mul,He]
   rw [this]
   exact List.map_fst_zip (by omega)
  rw [hz]
  refine zdG (ρ:=[.val (rL xs),.val (num 0),.val (rT ys)]) rfl ?_
  show si [.val (rL xs),.val (num 0),.val (rT ys)]=_
  have li:fZ (rL xs)=.ok (rL xs):=rfl
  unfold si
  simp only [aw,aN,tB,FL.e1,FL.e2,eV,eC,zz1,zz0,ao,e0,if_true,fQ,li]
 ·rw [decide_eq_false c] at e0
  refine zdG (ρ:=[.val (rL xs),.val (num w),.val (rT ys)]) rfl ?_
  show si [.val (rL xs),.val (num w),.val (rT ys)]=_
  have q:zQ [.val (rL xs),.val (num w),.val (rT ys)]=.ok (rL ((xs.zip ys).map fun q=>q.1+w*q.2),[.val (rL xs),.val (num w),.val (rT ys)]):=by
   unfold zQ rL
   rw [B3]
   refine mh (f0:=fun q:Rat×Rat=>.tuple [num q.1,num q.2]) (xs:=xs.zip ys) (fun q=>num (q.1+w*q.2)) ?_ (by rw [Gf];show _<=1000000;omega) fun q mq=>?_
   ·rw [<- oY];rfl
   ·have m1:=D7 (a:=q.1) (b:=q.2) mq
    refine⟨[.val (num q.1),.val (num q.2),.val (num w)],rfl,?_,j4 trivial⟩
    have lZ:=zu q.2 0
    rw [<- zt] at lZ
    have t1:kL [num w,num q.2]=_:=wN hw (hy _ m1.2) (by omega)
    have p1:uD [num q.1,num (w*q.2)]=_:=zA ((hx _ m1.1).mono (show n<=n+n by omega)) (hw.mul (hy _ m1.2)) (by omega)
    by_cases cq:q.2=0
    ·rw [decide_eq_true cq] at lZ
     have:q.1+w*q.2=q.1:=by rw [cq,Rat.mul_zero,He]
     rw [this]
     simp only [jf,tB,FL.e2,eV,eC,zz1,zz0,ao,lZ,if_true]
    ·rw [decide_eq_false cq] at lZ
     simp only [jf,tB,FL.e2,eV,eC,ak,aa,af,zz1,zz0,ao,lZ,if_false,Bm,t1,p1]
  unfold si
  simp only [aw,aN,tB,FL.e2,eV,eC,zz1,zz0,ao,e0,if_false,Bm,aO,fQ,q]
def cg(a b:List Rat)(w:List Int):Rat:=a.getD (w.getD 0 0).toNat 0*b.getD (w.getD 1 0).toNat 0-a.getD (w.getD 1 0).toNat 0*b.getD (w.getD 0 0).toNat 0
def dP(s:List Rat)(w:Rat)(r:List Rat):List Rat:=(s.zip r).map fun q=>q.1+w*q.2
def aU(n:Nat)(a b:List Rat)(t:Tb):List Rat:=t.foldl (fun s e=>dP s (cg a b e.1) e.2) (cy n)
theorem zg9(n:Nat)(a b:List Rat)(t:Tb)(e:List Int×List Rat):aU n a b (t++[e])=dP (aU n a b t) (cg a b e.1) e.2:=by unfold aU;rw [List.foldl_append];rfl
theorem zcN{c:Int}:∀(t:Tb),(∀ e∈t,e.2.length=n)->(aU n a b t).length=n:=by
 intro t
 unfold aU
 have:∀(t:Tb) (s:List Rat),s.length=n->(∀ e∈t,e.2.length=n)->(t.foldl (fun s e=>dP s (cg a b e.1) e.2) s).length=n:=by
  intro t
  induction t with
  | nil=>exact fun s h _=>h
  | cons e t ih=>exact fun s h k=>ih _ (by unfold dP;rw [Bc,Gf,h,k e (Bu ..),Ge]) fun x m=>k x (Bp _ m)
 exact this t _ (by unfold cy;rw [Dt])
theorem sf{b:Nat}(h:∀ x∈a,QR.Bd (b+1) x)(i:Nat):QR.Bd (b+1) (a.getD i 0):=by
 rw [Di]
 cases e:a[i]? with
 | none=>exact⟨Iw (by simp),by show 1<2^(b+1);exact Nat.one_lt_two_pow (by omega)⟩
 | some x=>exact h x (CY e)
theorem An(ha:∀ x∈a,QR.Bd 70 x)(hb:∀ x∈b,QR.Bd 70 x)(w:List Int):QR.Bd 281 (cg a b w):=by
 unfold cg
 rw [IB]
 exact((sf (b:=69) ha _).mul (sf (b:=69) hb _)).add (nH ((sf (b:=69) ha _).mul (sf (b:=69) hb _)))
theorem zcM{n:Nat}(ha:∀ x∈a,QR.Bd 70 x)(hb:∀ x∈b,QR.Bd 70 x):∀(t:Tb) (s:List Rat) (m:Nat),(∀ x∈s,QR.Bd (m+1) x)->(∀ e∈t,∀ x∈e.2,QR.Bd 70 x)->∀ x∈t.foldl (fun s e=>dP s (cg a b e.1) e.2) s,QR.Bd (m+1+352*t.length) x:=by
 intro t
 induction t with
 | nil=>exact fun s m h _ x hx=>h x hx
 | cons e t ih =>
  intro s m h k x hx
  have:=ih (dP s (cg a b e.1) e.2) (m+352) (fun y hy=>?_) (fun e' me=>k e' (Bp _ me)) x hx
  ·exact this.mono (by rw [A0];omega)
  ·unfold dP at hy
   obtain⟨q,mq,rfl⟩:=Cq.mp hy
   have m1:=D7 (a:=q.1) (b:=q.2) mq
   exact((h _ m1.1).add ((An ha hb e.1).mul (k e (Bu ..) _ m1.2))).mono (by omega)
end
variable {c:Int}{t:Tb}
section
theorem wG(hf:f ρ=.ok (d,ρ))(h:ρ[i]?=some x)(n:Np x):c9 i f ρ=.ok (.nx,ρ.set i (.ow false d)):=ziF (y:=(d,ρ)) hf h n
abbrev LE(c:Int)(T A B:D)(y3 y4 y5 y6 y7:Sl):En:=[.ob "Table" [.int c,T],.val A,.val B,y3,y4,y5,y6,y7]
theorem oR{i:Int}(h0:0<=i)(h:i.toNat<a.length):au (rL a) (.int i)=.ok (num (a.getD i.toNat 0)):=by
 refine yY h0 ?_
 rw [BW,Be h,Di,Be h]
 rfl
theorem zpd(h:dO c t)(ht:t.length<=20)(hb:∀ e∈t,∀ x∈e.2,QR.Bd 70 x)(hn:(n:Int)=c+1)(c0:0<=c)(c6:c<=6)(la:a.length=n)(lb:b.length=n)(ba:∀ x∈a,QR.Bd 70 x)(bb:∀ x∈b,QR.Bd 70 x) :
  pS [.tuple [.int c,.tuple (t.map ft)],rL a,rL b]=.ok (rL (aU n a b t)):=by
 generalize hA:rL a=A
 generalize hB:rL b=B
 generalize hT:Hd (t.map ft)=T
 have ad:ay (.int c) (.int 1)=.ok (.int (c+1)):=rfl
 have rf:uE [.list [A,B],.int (c+1)]=.ok .none:=by
  rw [<- hA,<- hB]
  exact K08.ztQ (by omega) (by omega) (by omega)
 have l2:leB 2 lim=true:=by decide
 have s1:sE (ak uE (aa (aZ (aa (eV 1) (aa (eV 2) af))) (aa (e2 ay (iQ 0 "Table" 0) (eC (.int 1))) af))) (LE c T A B .no .no .no .no .no)=.ok (.nx,LE c T A B .no .no .no .no .no):=by
  have f0:iQ 0 "Table" 0 (LE c T A B .no .no .no .no .no)=.ok (.int c,LE c T A B .no .no .no .no .no):=rfl
  simp only [LE] at f0 ⊢
  simp only [sE,ak,aa,af,aZ,FL.e2,eV,eC,zz1,zz0,ao,aR,l2,if_true,A0,Bg,Bw,f0,ad,rf]
 have s2:c9 3 (jh (eC (.tuple [.int 0,.int 1])) (e2 ay (iQ 0 "Table" 0) (eC (.int 1)))) (LE c T A B .no .no .no .no .no)=.ok (.nx,LE c T A B (.ow false (rL (cy n))) .no .no .no .no):=by
  have hz:(C3 (AI (c+1).toNat (.tuple [.int 0,.int 1])):D)=rL (cy n):=by
   unfold rL cy
   rw [List.map_replicate,<- zt,show(c+1).toNat=n by omega]
  have e:jh (eC (.tuple [.int 0,.int 1])) (e2 ay (iQ 0 "Table" 0) (eC (.int 1))) (LE c T A B .no .no .no .no .no)=.ok (rL (cy n),LE c T A B .no .no .no .no .no):=by
   show aR (decide (0<=c+1)&&leB (c+1).toNat 1000000) (R.ok (C3 (AI (c+1).toNat (.tuple [.int 0,.int 1])),LE c T A B .no .no .no .no .no))=_
   rw [eQ (by rw [decide_eq_true (by omega),ko (by omega)];rfl),hz]
  exact wG e rfl bX
 have L:=qo (f:=ft) (g:=gT [gN 4,gN 5,gN 6]) (b:=Aa)
  (fun done ρ=>∃ y4 y5 y6 y7:Sl,Np y4/\Np y5/\Np y6/\Np y7/\ρ=LE c T A B (.ow false (rL (aU n a b done))) y4 y5 y6 y7)
  t [] (LE c T A B (.ow false (rL (cy n))) .no .no .no .no) ⟨_,_,_,_,bX,bX,bX,bX,rfl⟩ (by
   rintro pre e post ρ he ⟨y4,y5,y6,y7,n4,n5,n6,n7,rfl⟩
   rw [BA] at he
   have em:e∈t:=by rw [he];simp
   obtain⟨i,j,fH,i0,ij,jc⟩:=h.ky e em
   have lv:ft e=.tuple [.int i,.int j,rT e.2]:=by unfold ft;rw [fH];rfl
   have g1:gT [gN 4,gN 5,gN 6] (ft e) (LE c T A B (.ow false (rL (aU n a b pre))) y4 y5 y6 y7)=.ok (LE c T A B (.ow false (rL (aU n a b pre))) (.val (.int i)) (.val (.int j)) (.val (rT e.2)) y7):=by
    rw [lv]
    exact yy rfl n4 rfl n5 rfl n6
   have x1:=oR (a:=a) i0 (by omega)
   have x2:=oR (a:=b) (i:=j) (by omega) (by omega)
   have x3:=oR (a:=a) (i:=j) (by omega) (by omega)
   have x4:=oR (a:=b) i0 (by omega)
   rw [hA] at x1 x3
   rw [hB] at x2 x4
   have q:=fun(z:List Rat) (hz:∀ x∈z,QR.Bd 70 x) (m:Nat)=>sf (b:=69) hz m
   have t1:kL [_,_]=_:=wN (q a ba i.toNat) (q b bb j.toNat) (by decide)
   have t2:kL [_,_]=_:=wN (q a ba j.toNat) (q b bb i.toNat) (by decide)
   have ls:uB [_,_]=_:=zcK ((q a ba i.toNat).mul (q b bb j.toNat)) ((q a ba j.toNat).mul (q b bb i.toNat)) (by decide)
   have hw:cg a b e.1=a.getD i.toNat 0*b.getD j.toNat 0-a.getD j.toNat 0*b.getD i.toNat 0:=by unfold cg;rw [fH];rfl
   have b1:aF (gN 7) (ak uB (aa (ak kL (aa (e2 au (eV 1) (eV 4)) (aa (e2 au (eV 2) (eV 5)) af))) (aa (ak kL (aa (e2 au (eV 1) (eV 5)) (aa (e2 au (eV 2) (eV 4)) af))) af))) (LE c T A B (.ow false (rL (aU n a b pre))) (.val (.int i)) (.val (.int j)) (.val (rT e.2)) y7)=.ok (.nx,LE c T A B (.ow false (rL (aU n a b pre))) (.val (.int i)) (.val (.int j)) (.val (rT e.2)) (.val (num (cg a b e.1)))):=by
    refine rj (x:=y7) ?_ rfl n7
    rw [hw]
    simp only [LE,ak,aa,af,FL.e2,eV,zz1,zz0,ao,x1,x2,x3,x4,t1,t2,ls]
   have hl:(aU n a b pre).length=n:=zcN (c:=c) pre fun x m=>by have:=h.rw x (by rw [he];simp [m]);omega
   have rl:=h.rw e em
   have lp:pre.length<=20:=by have:=congrArg Gx he;rw [B6] at this;omega
   have bd:∀ x∈aU n a b pre,QR.Bd 8000 x:=fun x hx=>by
    have:=zcM (n:=n) ba bb pre (cy n) 1 (fun y hy=>by unfold cy at hy;rw [(IC.mp hy).2];exact⟨by decide,by decide⟩) (fun e' m=>hb e' (by rw [he];simp [m])) x hx
    exact this.mono (by omega)
   have w:=zvm (xs:=aU n a b pre) (ys:=e.2) (w:=cg a b e.1) (n:=8000) (by omega) bd (fun y hy=>(hb e em y hy).mono (by decide)) ((An ba bb e.1).mono (by decide)) (by decide) (by omega)
   have b2:iY 3 (c9 3 (ak xg (aa (eV 3) (aa (eV 7) (aa (eV 6) af))))) (LE c T A B (.ow false (rL (aU n a b pre))) (.val (.int i)) (.val (.int j)) (.val (rT e.2)) (.val (num (cg a b e.1))))=.ok (.nx,LE c T A B (.ow false (rL (aU n a b (pre++[e])))) (.val (.int i)) (.val (.int j)) (.val (rT e.2)) (.val (num (cg a b e.1)))):=by
    rw [zg9]
    show c9 3 _ (LE c T A B (.val (rL (aU n a b pre))) (.val (.int i)) (.val (.int j)) (.val (rT e.2)) (.val (num (cg a b e.1))))=_
    refine wG (x:=.val (rL (aU n a b pre))) ?_ rfl (cT _)
    simp only [LE,ak,aa,af,eV,zz1,zz0,ao,w,dP]
   have b3:=uT (u:=Aa) g1 ((aS b1).trans b2)
   exact⟨_,.nx,b3,.inl rfl,_,_,_,_,cT _,cT _,cT _,cT _,rfl⟩)
 obtain⟨ρ',e,y4,y5,y6,y7,_,_,_,_,rfl⟩:=L
 rw [BA] at e
 have s3:Ag (LE c T A B (.ow false (rL (cy n))) .no .no .no .no)=.ok (.nx,LE c T A B (.ow false (rL (aU n a b t))) y4 y5 y6 y7):=by
  unfold Ag c7
  rw [show iE (iQ 0 "Table" 1) (LE c T A B (.ow false (rL (cy n))) .no .no .no .no)=.ok (t.map ft,LE c T A B (.ow false (rL (cy n))) .no .no .no .no) by rw [<- hT];rfl,ao]
  exact e
 show((xM (LE c T A B .no .no .no .no .no)).bind _)=_
 unfold xM
 rw [aS s1,aS s2,aS s3]
 rfl
end
end K10
namespace K10
open PySem FL FV
open K08 (Tb dO St fq cy)
variable {n:Nat}{t:Tb}{a:List Rat}
theorem zar:∀{s r:List Rat},s.length=r.length->dP s 0 r=s
 | [],[],_=>rfl
 | x::s,y::r,h=>by
  unfold dP
  rw [BL,A2]
  refine congr (congrArg List.cons ?_) (zar (by simpa using h))
  show x+0*y=x
  rw [Rat.zero_mul,He]
theorem zeA(w:Rat):∀{s r:List Rat},s.length=r.length->(r.all fun x=>decide (x=0))=true->dP s w r=s
 | [],[],_,_=>rfl
 | x::s,y::r,h,z=>by
  rw [FT,Bs] at z
  unfold dP
  rw [BL,A2]
  refine congr (congrArg List.cons ?_) (zeA w (by simpa using h) z.2)
  show x+w*y=x
  rw [of_decide_eq_true z.1,Rat.mul_zero,He]
theorem zez(w:Rat):∀(s r:List Rat),dP (s.map fun x=>-x) (-w) r=(dP s w r).map fun x=>-x
 | [],r=>by simp [dP]
 | _::_,[]=>by simp [dP]
 | x::s,y::r=>by
  have:=zez w s r
  unfold dP at this ⊢
  rw [A2,BL,A2,BL,A2,A2,this]
  refine congr (congrArg List.cons ?_) rfl
  show -x+-w*y=-(x+w*y)
  rw [Rat.neg_mul,Rat.neg_add]
theorem zey(w:Rat){s r:List Rat}(hs:s.length=n)(hr:r.length=n):(dP s w r).length=n:=by unfold dP;rw [Bc,Gf,hs,hr,Ge]
theorem zvk(a b:List Rat)(w:List Int):cg b a w=-cg a b w:=by
 unfold cg
 rw [Rat.neg_sub,IE (b.getD _ 0) (a.getD _ 0),IE (b.getD _ 0) (a.getD _ 0)]
theorem zvl(a:List Rat)(w:List Int):cg a a w=0:=by
 unfold cg
 rw [IE (a.getD (w.getD 1 0).toNat 0)]
 exact Rat.sub_self
theorem zgg(a b:List Rat):∀(t:Tb) (s:List Rat),t.foldl (fun s e=>dP s (cg b a e.1) e.2) (s.map fun x=>-x)=(t.foldl (fun s e=>dP s (cg a b e.1) e.2) s).map fun x=>-x
 | [],_=>rfl
 | e::t,s=>by
  rw [Fq,Fq,zvk a b,zez]
  exact zgg a b t _
theorem zpl(n:Nat)(a b:List Rat)(t:Tb):aU n b a t=(aU n a b t).map fun x=>-x:=by
 have h:=zgg a b t (cy n)
 rw [show(cy n).map (fun x=>-x)=cy n by unfold cy;rw [List.map_replicate];rfl] at h
 exact h
theorem zgh{n:Nat}(a:List Rat):∀(t:Tb) (s:List Rat),s.length=n->(∀ e∈t,e.2.length=n)->t.foldl (fun s e=>dP s (cg a a e.1) e.2) s=s
 | [],_,_,_=>rfl
 | e::t,s,hs,h=>by
  rw [Fq,zvl,zar (hs.trans (h e (Bu ..)).symm)]
  exact zgh a t s hs fun x m=>h x (Bp _ m)
theorem zjl(n:Nat):(cy n).length=n:=by unfold cy;rw [Dt]
theorem zpm(h:∀ e∈t,e.2.length=n):aU n a a t=cy n:=zgh a t _ (zjl n) h
theorem zbH{n:Nat}(a b:List Rat):∀(t:Tb) (s:List Rat),s.length=n->(∀ e∈t,e.2.length=n)->(fq t).foldl (fun s e=>dP s (cg a b e.1) e.2) s=t.foldl (fun s e=>dP s (cg a b e.1) e.2) s
 | [],_,_,_=>rfl
 | e::t,s,hs,h=>by
  have he:=h e (Bu ..)
  have ht:=fun x m=>h x (Bp e m)
  rw [Fq]
  unfold fq
  rw [List.filter_cons]
  split
  ·rw [Fq]
   exact zbH a b t _ (zey _ hs he) ht
  ·rename_i z
   rw [zeA _ (hs.trans he.symm) (by simpa using z)]
   exact zbH a b t s hs ht
theorem zpk{b:List Rat}(h:∀ e∈t,e.2.length=n):aU n a b (fq t)=aU n a b t:=zbH a b t _ (zjl n) h
end K10
namespace K10
open PySem FL FV
open K08 (Tb dO St fq cy kT oY qP nH)
variable {c:Int}{b n:Nat}{xs:List Rat}
section
theorem zc1(r:Rat):nA [num r]=.ok (num (-r)):=by
 rw [qP,show(-r.num:Int)=0-r.num by omega]
 rfl
theorem zka{ys:List Rat}(hx:∀ x∈xs,QR.Bd b x)(hy:∀ y∈ys,QR.Bd b y)(hb:b<=40000000)(hl:xs.length<=1000):wY [rL xs,rL ys]=.ok (rL ((xs.zip ys).map fun q=>q.1+q.2)):=by
 refine gR (ρ:=[.val (rL xs),.val (rL ys)]) rfl ?_
 show xN [.val (rL xs),.val (rL ys)]=_
 unfold xN az zdu
 rw [mh (f0:=fun q:Rat×Rat=>.tuple [num q.1,num q.2]) (xs:=xs.zip ys) (fun q=>num (q.1+q.2)) (by rw [<- oY];rfl) (by rw [Gf];show _<=1000000;omega) fun q mq=>?_]
 ·unfold rL;rw [B3];rfl
 ·have m1:=D7 (a:=q.1) (b:=q.2) mq
  refine⟨[.val (num q.1),.val (num q.2)],rfl,?_,j4 trivial⟩
  have p:rN [num q.1,num q.2]=_:=zhk (hx _ m1.1) (hy _ m1.2) hb
  simp only [ak,aa,eV,zz1,zz0,af,ao,p]
theorem zua{c:Rat}(hc:QR.Bd b c)(hx:∀ x∈xs,QR.Bd b x)(hb:b<=40000000)(hl:xs.length<=1000):xc [num c,rL xs]=.ok (rL (xs.map fun x=>c*x)):=by
 refine gR (ρ:=[.val (num c),.val (rL xs)]) rfl ?_
 show xT [.val (num c),.val (rL xs)]=_
 unfold xT az zdw
 rw [mh (f0:=num) (xs:=xs) (fun x=>num (c*x)) rfl (by show _<=1000000;omega) fun x mx=>?_]
 ·unfold rL;rw [B3];rfl
 ·refine⟨[.val (num x),.val (num c)],rfl,?_,j4 trivial⟩
  have p:lM [num c,num x]=_:=zcJ hc (hx x mx) hb
  simp only [ak,aa,eV,zz1,zz0,af,ao,p]
theorem ze7(hn:(n:Int)=c)(c6:c<=1000):uo [.int c]=.ok (rL (cy n)):=by
 refine gR (ρ:=[.val (.int c)]) rfl ?_
 show xO [.val (.int c)]=_
 unfold xO az zdv
 have it:eT (aa (eV 0) af) [.val (.int c)]=.ok ((B4 n).map fun i:Nat=>Bi i,[.val (.int c)]):=by
  show(ju [.int c]).bind (fun items=>R.ok (items,[Sl.val (.int c)]))=_
  rw [zR (by omega) (by omega),ao,zS,show(c-0).toNat=n by omega]
  simp
 rw [mh (f0:=fun i:Nat=>Bi i) (xs:=B4 n) (fun _=>num 0) it (by rw [Ef];show _<=1000000;omega) fun p mp=>?_]
 ·rw [ao]
  unfold rL cy
  simp [List.map_const']
 ·exact⟨[.val (.int p)],rfl,rfl,j4 trivial⟩
theorem zj9(s:List Rat)(w:Rat)(r:List Rat):(s.zip (r.map fun x=>w*x)).map (fun q=>q.1+q.2)=dP s w r:=by
 unfold dP
 rw [List.zip_map_right,B3]
 rfl
abbrev CE(c:Int)(T A B:D)(y4 y5 y6 y7:Sl):En:=[.val (.int c),.val T,.val A,.val B,y4,y5,y6,y7]
theorem zk0{t u:Tb}{a b:List Rat}(h:dO c t)(hu:u.Perm t)(hs:jU (gd rL t)=.ok (.list (u.map fun e=>tp e.1)))(ht:t.length<=20)(hb:∀ e∈t,∀ x∈e.2,QR.Bd 70 x)(hn:(n:Int)=c+1)(c0:0<=c)(c6:c<=6)(la:a.length=n)(lb:b.length=n)(ba:∀ x∈a,QR.Bd 70 x)(bb:∀ x∈b,QR.Bd 70 x) :
  w5 [.int c,gd rL t,rL a,rL b]=.ok (rL (aU n a b u)):=by
 generalize hA:rL a=A
 generalize hB:rL b=B
 generalize hT:gd rL t=T at hs
 have s1:aF (gN 4) (ak uo (aa (e2 ay (eV 0) (eC (.int 1))) af)) (CE c T A B .no .no .no .no)=.ok (.nx,CE c T A B (.val (rL (cy n))) .no .no .no):=by
  refine rj (x:=.no) ?_ rfl bX
  have ad:ay (.int c) (.int 1)=.ok (.int (c+1)):=rfl
  simp only [CE,ak,aa,af,FL.e2,eV,eC,zz0,ao,ad,ze7 hn (by omega)]
 have L:=qo (f:=fun e:List Int×List Rat=>tp e.1) (g:=gT [gN 5,gN 6]) (b:=Ab)
  (fun done ρ=>∃ y5 y6 y7:Sl,Np y5/\Np y6/\Np y7/\ρ=CE c T A B (.val (rL (aU n a b done))) y5 y6 y7)
  u [] (CE c T A B (.val (rL (cy n))) .no .no .no) ⟨_,_,_,bX,bX,bX,rfl⟩ (by
   rintro pre e post ρ he ⟨y5,y6,y7,n5,n6,n7,rfl⟩
   rw [BA] at he
   have eu:e∈u:=by rw [he];simp
   have em:e∈t:=hu.subset eu
   obtain⟨i,j,fH,i0,ij,jc⟩:=h.ky e em
   have g1:gT [gN 5,gN 6] (tp e.1) (CE c T A B (.val (rL (aU n a b pre))) y5 y6 y7)=.ok (CE c T A B (.val (rL (aU n a b pre))) (.val (.int i)) (.val (.int j)) y7):=by
    rw [fH]
    exact kT rfl n5 rfl n6
   have x1:=oR (a:=a) i0 (by omega)
   have x2:=oR (a:=b) (i:=j) (by omega) (by omega)
   have x3:=oR (a:=a) (i:=j) (by omega) (by omega)
   have x4:=oR (a:=b) i0 (by omega)
   rw [hA] at x1 x3
   rw [hB] at x2 x4
   have q:=fun(z:List Rat) (hz:∀ x∈z,QR.Bd 70 x) (m:Nat)=>sf (b:=69) hz m
   have t1:lM [_,_]=_:=zcJ (q a ba i.toNat) (q b bb j.toNat) (by decide)
   have t2:lM [_,_]=_:=zcJ (q a ba j.toNat) (q b bb i.toNat) (by decide)
   have nt:=zc1 (a.getD j.toNat 0*b.getD i.toNat 0)
   have ls:rN [_,_]=_:=zhk ((q a ba i.toNat).mul (q b bb j.toNat)) (nH ((q a ba j.toNat).mul (q b bb i.toNat))) (by decide)
   have hw:cg a b e.1=a.getD i.toNat 0*b.getD j.toNat 0+-(a.getD j.toNat 0*b.getD i.toNat 0):=by unfold cg;rw [fH,IB];rfl
   have b1:aF (gN 7) (ak rN (aa (ak lM (aa (e2 au (eV 2) (eV 5)) (aa (e2 au (eV 3) (eV 6)) af))) (aa (ak nA (aa (ak lM (aa (e2 au (eV 2) (eV 6)) (aa (e2 au (eV 3) (eV 5)) af))) af)) af))) (CE c T A B (.val (rL (aU n a b pre))) (.val (.int i)) (.val (.int j)) y7)=.ok (.nx,CE c T A B (.val (rL (aU n a b pre))) (.val (.int i)) (.val (.int j)) (.val (num (cg a b e.1)))):=by
    refine rj (x:=y7) ?_ rfl n7
    rw [hw]
    simp only [CE,ak,aa,af,FL.e2,eV,zz1,zz0,ao,x1,x2,x3,x4,t1,t2,nt,ls]
   have hl:(aU n a b pre).length=n:=zcN (c:=c) pre fun x m=>by have:=h.rw x (hu.subset (by rw [he];simp [m]));omega
   have rl:=h.rw e em
   have lp:pre.length<=20:=by have:=congrArg Gx he;rw [B6,hu.length_eq] at this;omega
   have bd:∀ x∈aU n a b pre,QR.Bd 8000 x:=fun x hx=>by
    have:=zcM (n:=n) ba bb pre (cy n) 1 (fun y hy=>by unfold cy at hy;rw [(IC.mp hy).2];exact⟨by decide,by decide⟩) (fun e' m=>hb e' (hu.subset (by rw [he];simp [m]))) x hx
    exact this.mono (by omega)
   have dx:hW T (.tuple [.int i,.int j])=.ok (rL e.2):=by
    have:=qt h.nk em
    rw [fH] at this
    rw [<- hT]
    exact za3 (f:=rL) this
   have l2:leB 2 lim=true:=by decide
   have ix0:au (num (cg a b e.1)) (.int 0)=.ok (.int (cg a b e.1).num):=rfl
   have ne:=tf (cg a b e.1).num 0
   have b2:aN (tB (e2 b9 (e2 au (eV 7) (eC (.int 0))) (eC (.int 0)))) (aF (gN 4) (ak wY (aa (eV 4) (aa (ak xc (aa (eV 7) (aa (e2 hW (eV 1) (aP (aa (eV 5) (aa (eV 6) af)))) af))) af)))) aO (CE c T A B (.val (rL (aU n a b pre))) (.val (.int i)) (.val (.int j)) (.val (num (cg a b e.1))))=.ok (.nx,CE c T A B (.val (rL (aU n a b (pre++[e])))) (.val (.int i)) (.val (.int j)) (.val (num (cg a b e.1)))):=by
    rw [zg9]
    have tt:tB (e2 b9 (e2 au (eV 7) (eC (.int 0))) (eC (.int 0))) (CE c T A B (.val (rL (aU n a b pre))) (.val (.int i)) (.val (.int j)) (.val (num (cg a b e.1))))=.ok (!decide ((cg a b e.1).num=0),CE c T A B (.val (rL (aU n a b pre))) (.val (.int i)) (.val (.int j)) (.val (num (cg a b e.1)))):=by
     simp only [CE,tB,FL.e2,eV,eC,zz1,zz0,ao,ix0,ne]
    unfold aN
    rw [tt,ao]
    by_cases z:(cg a b e.1).num=0
    ·rw [decide_eq_true z,Rat.num_eq_zero.mp z,zar (by omega)]
     rfl
    ·rw [decide_eq_false z]
     show aF (gN 4) _ _=_
     refine rj (x:=.val (rL (aU n a b pre))) ?_ rfl (cT _)
     have sc:=zua (c:=cg a b e.1) (xs:=e.2) (b:=281) (An ba bb e.1) (fun x hx=>(hb e em x hx).mono (by decide)) (by decide) (by omega)
     have ad:=zka (xs:=aU n a b pre) (ys:=e.2.map fun x=>cg a b e.1*x) (b:=8000) bd (fun y hy=>by
      obtain⟨x,hx,rfl⟩:=Cq.mp hy
      exact((An ba bb e.1).mul (hb e em x hx)).mono (by decide)) (by decide) (by omega)
     rw [zj9] at ad
     simp only [CE,ak,aa,af,FL.e2,aP,eV,zz1,zz0,ao,aR,l2,if_true,A0,Bg,Bw,dx,sc,ad]
   have b3:=uT (u:=Ab) g1 ((aS b1).trans b2)
   exact⟨_,.nx,b3,.inl rfl,_,_,_,cT _,cT _,cT _,rfl⟩)
 obtain⟨ρ',e,y5,y6,y7,_,_,_,rfl⟩:=L
 rw [BA] at e
 have s2:Ah (CE c T A B (.val (rL (cy n))) .no .no .no)=.ok (.nx,CE c T A B (.val (rL (aU n a b u))) y5 y6 y7):=by
  unfold Ah c7
  rw [show iE (e1 jU (eV 1)) (CE c T A B (.val (rL (cy n))) .no .no .no)=.ok (u.map fun e=>tp e.1,CE c T A B (.val (rL (cy n))) .no .no .no) by simp only [CE,iE,FL.e1,eV,zz1,zz0,ao,hs,iT],ao]
  exact e
 refine gR (ρ:=CE c T A B (.val (rL (aU n a b u))) y5 y6 y7) rfl ?_
 show xQ (CE c T A B .no .no .no .no)=_
 unfold xQ
 rw [aS s1,aS s2]
 rfl
end
variable {A B d:D}{k n:Int}
section
theorem zkU(d:D):rM "NoRow" [d]=.ok (.str "NoRow"):=by
 kernel_rfl
abbrev RE(A B:D)(n:Int)(y2 y3:Sl):En:=[.val (.list [A,B]),.val (.int n),y2,y3]
theorem ziC(h:eX [d,.int n]=.ok (.bool false)):aN (uf (FL.bh (tE (ak eX (aa (eV 3) (aa (eV 1) af)))))) (wH "NoRow" true (aa (eV 2) af)) (ua aO) (RE A B n (.val (.int k)) (.val d))=.err "NoRow" [.int k]:=by
 simp only [RE,aN,uf,FL.bh,tE,ak,aa,af,eV,zz1,zz0,ao,h,dJ,Dj,lC,if_true,wH,jI]
theorem ztX(h:eX [d,.int n]=.ok (.bool true)):aN (uf (FL.bh (tE (ak eX (aa (eV 3) (aa (eV 1) af)))))) (wH "NoRow" true (aa (eV 2) af)) (ua aO) (RE A B n (.val (.int k)) (.val d))=.ok (.nx,RE A B n (.val (.int k)) (.val d)):=by
 simp only [RE,aN,uf,FL.bh,tE,ak,aa,af,eV,zz1,zz0,ao,h,dJ,Cj,lC,Bm,if_false,ua,aO]
theorem gp{y2 y3:Sl}(n2:Np y2)(n3:Np y3):qw (gT [gN 2,gN 3]) (.tuple [.int k,d]) (RE A B n y2 y3)=.ok (RE A B n (.val (.int k)) (.val d)):=by
 unfold qw
 exact ztD (kT rfl n2 rfl n3)
theorem ztO(h:eX [A,.int n]=.ok (.bool false)):rY [.list [A,B],.int n]=.err "NoRow" [.int 0]:=by
 have e:nE (RE A B n .no .no)=.err "NoRow" [.int 0]:=by
  unfold nE c7
  rw [show vO (oq (aa (eV 0) af)) (RE A B n .no .no)=.ok ([.tuple [.int 0,A],.tuple [.int 1,B]],RE A B n .no .no) from rfl,ao]
  unfold forL
  rw [gp bX bX,ao,ziC h]
  rfl
 show(nE (RE A B n .no .no)).bind _=_
 rw [e]
 rfl
theorem ztP(h0:eX [A,.int n]=.ok (.bool true))(h:eX [B,.int n]=.ok (.bool false)):rY [.list [A,B],.int n]=.err "NoRow" [.int 1]:=by
 have e:nE (RE A B n .no .no)=.err "NoRow" [.int 1]:=by
  unfold nE c7
  rw [show vO (oq (aa (eV 0) af)) (RE A B n .no .no)=.ok ([.tuple [.int 0,A],.tuple [.int 1,B]],RE A B n .no .no) from rfl,ao]
  unfold forL
  rw [gp bX bX,ao,ztX h0,ao]
  show forL _ _ _ _=_
  unfold forL
  rw [gp (cT _) (cT _),ao,ziC h]
  rfl
 show(nE (RE A B n .no .no)).bind _=_
 rw [e]
 rfl
theorem zfo{T:D}(h:rY [.list [A,B],.int (c+1)]=.err "NoRow" [.int k]):uq [.tuple [.int c,T],A,B]=.ok (some ("NoRow",[.int k])):=by
 have l2:leB 2 lim=true:=by decide
 have ad:ay (.int c) (.int 1)=.ok (.int (c+1)):=rfl
 have f0:iQ 0 "Table" 0 (LE c T A B .no .no .no .no .no)=.ok (.int c,LE c T A B .no .no .no .no .no):=rfl
 have s1:sE (ak rY (jI (aa (aZ (aa (eV 1) (aa (eV 2) af))) (aa (e2 ay (iQ 0 "Table" 0) (eC (.int 1))) af)))) (LE c T A B .no .no .no .no .no)=.err "NoRow" [.int k]:=by
  simp only [LE] at f0 ⊢
  simp only [sE,ak,jI,aa,af,aZ,FL.e2,eV,eC,zz1,zz0,ao,aR,l2,if_true,A0,Bg,Bw,f0,ad,lC,h,kO]
 have e:uP [.tuple [.int c,T],A,B]=.err "NoRow" [.int k]:=by
  show(xJ (LE c T A B .no .no .no .no .no)).bind _=_
  unfold xJ aw
  rw [s1]
  rfl
 unfold uq runC
 refine(if_pos rfl).trans ?_
 have g:xP [.ob "Table" [.int c,T],.val A,.val B,.no,.no]=.err "NoRow" [.int k]:=by
  show((R.ok (_,_)).bind fun x:List D×En=>(uP x.1).bind fun d=>R.ok (d,x.2))=_
  rw [ao]
  show(uP [.tuple [.int c,T],A,B]).bind _=_
  rw [e]
  rfl
 show(match xP [.ob "Table" [.int c,T],.val A,.val B,.no,.no] with | .ok _=>_ | .err c fs=>_ | .bad=>_)=_
 rw [g]
end
end K10
namespace K10
open PySem FL FV
open K08 (Tb dO St fq cy kT oY qP nH tD)
variable {d o:D}{n:Int}{p:D->Bool}{xs:List Rat}{b:Bool}
theorem znw{ds:List D}(hp:∀ d∈ds,kK [d]=.ok (.bool (p d)))(hl:ds.length<=1000):rP [.list ds]=.ok (.bool (ds.all p)):=by
 have q:tZ [.val (.list ds)]=.ok (.list (ds.map fun d=>Cb (p d)),[.val (.list ds)]):=by
  unfold tZ
  exact mh (f0:=id) (xs:=ds) (fun d=>Cb (p d)) (by rw [List.map_id];rfl) (by show _<=1000000;omega) fun r mr=>⟨[.val r],rfl,by simp only [ak,aa,eV,zz0,af,ao,hp r mr],j4 trivial⟩
 refine gR (ρ:=[.val (.list ds)]) rfl ?_
 show sg [.val (.list ds)]=_
 have is:dZ "list" (.list ds)=.ok (.bool true):=rfl
 have al:=zas (ds.map p)
 rw [B3] at al
 have al':r6 (.list (ds.map fun d=>Cb (p d)))=.ok (.bool (ds.all p)):=al.trans (by rw [List.all_map];rfl)
 unfold sg
 simp only [az,dQ,FL.e1,eV,zz0,ao,is,dJ,if_true,q,al']
theorem ziB{ds:List D}(hd:d=.list ds)(h:rP [d]=.ok (.bool b)):eX [d,.int n]=.ok (.bool (b&&decide ((ds.length:Int)=n))):=by
 subst hd
 refine gR (ρ:=[.val (.list ds),.val (.int n)]) rfl ?_
 show nF [.val (.list ds),.val (.int n)]=_
 have le:dh (.list ds)=.ok (.int (ds.length:Int)):=rfl
 unfold nF
 cases b with
 | false=>simp only [az,dQ,ak,aa,af,FL.e1,FL.e2,eV,zz1,zz0,ao,h,dJ,Bm,if_false,Hl]
 | true=>simp only [az,dQ,ak,aa,af,FL.e1,FL.e2,eV,zz1,zz0,ao,h,dJ,if_true,le,qk,Bool.true_and]
theorem zpT(n:Int)(h:∀ ds,d≠.list ds)(h2:∀ ds,d≠.dict ds):eX [d,.int n]=.ok (.bool false):=by
 have e:rP [d]=.ok (.bool false):=by
  cases d with
  | list ds=>exact absurd rfl (h ds)
  | dict ds=>exact absurd rfl (h2 ds)
  | _=>rfl
 refine gR (ρ:=[.val d,.val (.int n)]) rfl ?_
 show nF [.val d,.val (.int n)]=_
 unfold nF
 simp only [az,dQ,ak,aa,af,FL.e1,FL.e2,eV,zz1,zz0,ao,e,dJ,Bm,if_false]
theorem zg4(hl:xs.length<=1000)(h:(xs.length:Int)≠n):eX [rL xs,.int n]=.ok (.bool false):=by
 have:=ziB (n:=n) (d:=rL xs) (ds:=xs.map num) rfl (K08.zgK xs hl)
 rw [Bc,decide_eq_false h] at this
 exact this
def yT(d:D):Bool:=match kK [d] with
 | .ok (.bool b)=>b
 | _=>false
theorem zgI(h:kK [d]=.ok (.bool b)):yT d=b:=by unfold yT;rw [h]
theorem zqj{ys:List Rat}(ho:kK [o]=.ok (.bool false))(hl:xs.length+ys.length<=900):eX [.list (xs.map num++[o]++ys.map num),.int n]=.ok (.bool false):=by
 have hp:∀ d∈xs.map num++[o]++ys.map num,kK [d]=.ok (.bool (yT d)):=fun d m=>by
  have t:∃ b,kK [d]=.ok (.bool b):=by
   rcases DF.mp m with m|m
   ·rcases DF.mp m with m|m
    ·obtain⟨x,_,rfl⟩:=Cq.mp m;exact⟨true,tD x⟩
    ·exact⟨false,by rw [Ec.mp m];exact ho⟩
   ·obtain⟨x,_,rfl⟩:=Cq.mp m;exact⟨true,tD x⟩
  obtain⟨b,hb⟩:=t
  rw [zgI hb]
  exact hb
 have e:=znw hp (by simp;omega)
 rw [show((xs.map num++[o]++ys.map num).all yT)=false by rw [List.all_append,List.all_append,FT,zgI ho];simp] at e
 exact(ziB rfl e).trans (by rw [Hl])
end K10
namespace K10
open PySem FL FV
open K08 (gI m9 jv gU yY)
variable {f:EF}{g:D->D->R D}{v:Int}{d o:D}{k n:Nat}{xs:List Rat}{ρ:En}
abbrev SE(d:D)(xs:List Rat)(y2 y3:Sl):En:=[.ow true d,.val (rL xs),y2,y3]
def nv(n:Nat)(x:D):Prop:=eX [x,.int n]=.ok (.bool false)
theorem zuT(h0:0<=v)(h:v<=xs.length):cut (xs.map num) none (some v)=(xs.take v.toNat).map num:=by
 show((xs.map num).drop 0).take ((if v<0 then(v+((xs.map num).length:Int)).toNat else min v.toNat (xs.map num).length)-0)=_
 rw [if_neg (by omega),C5,Bc,Iu,Nat.min_eq_left (by omega),IG]
theorem zlN(h0:0<=v)(h:v<=xs.length):cut (xs.map num) (some v) none=(xs.drop v.toNat).map num:=by
 show((xs.map num).drop (if v<0 then(v+((xs.map num).length:Int)).toNat else min v.toNat (xs.map num).length)).take ((xs.map num).length-(if v<0 then(v+((xs.map num).length:Int)).toNat else min v.toNat (xs.map num).length))=_
 rw [if_neg (by omega),Bc,Nat.min_eq_left (by omega),HL (by rw [GB,Bc];omega),List.map_drop]
theorem zqk(d:D)(xs:List Rat)(y2 y3:Sl){g:Int}(g0:0<=g)(g6:g<6):∃ o,kK [o]=.ok (.bool false)/\au (.list [.tuple [.int 4,.int 2],.tuple [.int 1,.int 0],.int 1,.none,.bool true,.tuple [.int 1]]) (.int g)=.ok o:=by
 have c:g=0\/g=1\/g=2\/g=3\/g=4\/g=5:=by omega
 rcases c with rfl|rfl|rfl|rfl|rfl|rfl
 ·exact⟨_,by kernel_rfl,rfl⟩
 ·exact⟨_,by kernel_rfl,rfl⟩
 ·exact⟨_,by kernel_rfl,rfl⟩
 ·exact⟨_,by kernel_rfl,rfl⟩
 ·exact⟨_,by kernel_rfl,rfl⟩
 ·exact⟨_,by kernel_rfl,rfl⟩
theorem zpr{ρ':En}(h:f ρ=.ok (o,ρ')):aZ (aa f af) ρ=.ok (.list [o],ρ'):=by
 unfold aZ aa
 rw [h]
 rfl
theorem hZ{h:EF}{ρ1 ρ2:En}{a b:D}(h1:f ρ=.ok (a,ρ1))(h2:h ρ1=.ok (b,ρ2))(h3:g a b=.ok d):FL.e2 g f h ρ=.ok (d,ρ2):=by
 unfold FL.e2
 rw [h1,ao,h2,ao,h3]
 rfl
theorem ziL(hp:dM k d)(hk:k<=40000)(hl:xs.length=n)(n1:1<=n)(n7:n<=100):∃ x d',ur [d,rL xs]=.ok (x,[d',rL xs])/\nv n x/\dM (k+3) d':=by
 obtain⟨w,d1,t1,w0,w4,p1⟩:=gI hp (by omega) 4 (by decide) (dw (by decide)) (by decide)
 have s1:aF (gN 2) (aY bT [.m 0,.v (eC (.int 4))]) (SE d xs .no .no)=.ok (.nx,SE d1 xs (.val (.int w)) .no):=oS (y:=(.int w,SE d1 xs .no .no)) (iA (p:=true) (d:=d) rfl rfl t1) rfl bX
 have fin:∀{x:D} {d':D} {y2 y3:Sl},xU (SE d xs .no .no)=.ok (.rt x,SE d' xs y2 y3)->ur [d,rL xs]=.ok (x,[d',rL xs]):=fun{x d' y2 y3} e=>by
  show((xU (SE d xs .no .no)).bind _)=_
  rw [e];rfl
 have tt:∀ m:Int,tB (e2 dR (eV 2) (eC (.int m))) (SE d1 xs (.val (.int w)) .no)=.ok (decide (w=m),SE d1 xs (.val (.int w)) .no):=fun m=>by
  simp only [SE,tB,FL.e2,eV,eC,zz1,zz0,ao,qk]
 have sl:∀ lo hi,i3 (rL xs) lo hi=.ok (.list (cut (xs.map num) lo hi)):=fun _ _=>rfl
 have b0:nv n (.list (cut (xs.map num) none (some (-1)))):=by
  have e:cut (xs.map num) none (some (-1))=(xs.take (n-1)).map num:=by
   show((xs.map num).drop 0).take ((if(-1:Int)<0 then(-1+((xs.map num).length:Int)).toNat else min (-1:Int).toNat (xs.map num).length)-0)=_
   rw [if_pos (by decide),C5,Bc,Iu,hl,IG,show(-1+(n:Int)).toNat=n-1 by omega]
  rw [e]
  exact zg4 (xs:=xs.take (n-1)) (by rw [Ew];omega) (by rw [Ew];omega)
 have b1:nv n (.list (xs.map num++[.tuple [.int 1,.int 1]])):=by
  have e:(xs.map num++[Hd [.int 1,.int 1]]:List D)=(xs++[1]).map num:=by rw [DU];rfl
  rw [e]
  exact zg4 (xs:=xs++[1]) (by simp;omega) (by simp;omega)
 by_cases c0:w=0
 ·have t0:=tt 0
  rw [decide_eq_true c0] at t0
  refine⟨_,d1,fin ((aS s1).trans (m9 (d:=.list (cut (xs.map num) none (some (-1)))) (ρ1:=SE d1 xs (.val (.int w)) .no) ((jv t0).trans rfl))),b0,p1.mono (by omega)⟩
 have n0:=gU (a:=az (fW (eV 1) gi (gj (e1 v7 (eC (.int 1)))))) (b:=aO) (by have:=tt 0;rw [decide_eq_false c0] at this;exact this)
 by_cases c3:w=3
 ·have t3:=tt 3
  rw [decide_eq_true c3] at t3
  obtain⟨g,d2,t2,g0,g6,p2⟩:=gI p1 (by omega) 6 (by decide) (dw (by decide)) (by decide)
  have cm:aY bT [.m 0,.v (eC (.int 6))] (SE d1 xs (.val (.int w)) .no)=.ok (.int g,SE d2 xs (.val (.int w)) .no):=iA (p:=true) (d:=d1) rfl rfl t2
  have ob:∃ x,au (.list [.none,rT xs,.str "0",.int 3,.bool true,.tuple []]) (.int g)=.ok x/\nv n x:=by
   have c:g=0\/g=1\/g=2\/g=3\/g=4\/g=5:=by omega
   rcases c with rfl|rfl|rfl|rfl|rfl|rfl <;> exact⟨_,rfl,zpT _ (fun _ z=>nomatch z) (fun _ z=>nomatch z)⟩
  obtain⟨x,ex,bx⟩:=ob
  have l6:leB 6 lim=true:=by decide
  have l0:leB 0 lim=true:=by decide
  have tu:fR (rL xs)=.ok (rT xs):=rfl
  refine⟨x,d2,fin ((aS s1).trans ((aS n0).trans (m9 (d:=x) (ρ1:=SE d2 xs (.val (.int w)) .no) ((jv t3).trans ?_)))),bx,p2.mono (by omega)⟩
  have le:aZ (aa (eC .none) (aa (e1 fR (eV 1)) (aa (eC (.str "0")) (aa (eC (.int 3)) (aa (eC (.bool true)) (aa (aP af) af)))))) (SE d1 xs (.val (.int w)) .no)=.ok (.list [.none,rT xs,.str "0",.int 3,.bool true,.tuple []],SE d1 xs (.val (.int w)) .no):=rfl
  show(e2 au (aZ (aa (eC .none) (aa (e1 fR (eV 1)) (aa (eC (.str "0")) (aa (eC (.int 3)) (aa (eC (.bool true)) (aa (aP af) af))))))) (aY bT [.m 0,.v (eC (.int 6))]) (SE d1 xs (.val (.int w)) .no)).bind (fun x=>R.ok (Fl.rt x.1,x.2))=_
  unfold FL.e2
  rw [le,ao,cm,ao,ex]
  rfl
 have n3:=gU (a:=az (e2 au (aZ (aa (eC .none) (aa (e1 fR (eV 1)) (aa (eC (.str "0")) (aa (eC (.int 3)) (aa (eC (.bool true)) (aa (aP af) af))))))) (aY bT [.m 0,.v (eC (.int 6))]))) (b:=aO) (by have:=tt 3;rw [decide_eq_false c3] at this;exact this)
 by_cases c1:w=1
 ·have t1':=tt 1
  rw [decide_eq_true c1] at t1'
  have ad:ay (rL xs) (.list [.tuple [.int 1,.int 1]])=.ok (.list (xs.map num++[.tuple [.int 1,.int 1]])):=by
   show aR (leB ((xs.map num).length+1) lim) _=_
   rw [eQ (ko (by rw [Bc];show _<=1000000;omega))]
  have l2:leB 2 lim=true:=by decide
  have l1:leB 1 lim=true:=by decide
  refine⟨_,d1,fin ((aS s1).trans ((aS n0).trans ((aS n3).trans (m9 (ρ1:=SE d1 xs (.val (.int w)) .no) ((jv t1').trans ?_))))),b1,p1.mono (by omega)⟩
  simp only [SE,az,FL.e2,aZ,aP,aa,af,eV,eC,zz1,zz0,ao,aR,l1,l2,if_true,A0,Bg,Bw,ad]
 have n1':=gU (a:=az (e2 ay (eV 1) (aZ (aa (aP (aa (eC (.int 1)) (aa (eC (.int 1)) af))) af)))) (b:=aO) (by have:=tt 1;rw [decide_eq_false c1] at this;exact this)
 obtain⟨hh,d2,t2,h0,h1,p2⟩:=gI p1 (by omega) (n:Int) (by omega) (dw (by omega)) (by decide)
 have ln:e1 dh (eV 1) (SE d1 xs (.val (.int w)) .no)=.ok (.int n,SE d1 xs (.val (.int w)) .no):=by
  show R.ok (Bi ((xs.map num).length:Int),_)=_
  rw [Bc,hl]
 have s5:aF (gN 3) (aY bT [.m 0,.v (e1 dh (eV 1))]) (SE d1 xs (.val (.int w)) .no)=.ok (.nx,SE d2 xs (.val (.int w)) (.val (.int hh))):=oS (y:=(.int hh,SE d2 xs (.val (.int w)) .no)) (iA (p:=true) (d:=d1) rfl ln t2) rfl bX
 obtain⟨g,d3,t3,g0,g6,p3⟩:=gI p2 (by omega) 6 (by decide) (dw (by decide)) (by decide)
 have cm:aY bT [.m 0,.v (eC (.int 6))] (SE d2 xs (.val (.int w)) (.val (.int hh)))=.ok (.int g,SE d3 xs (.val (.int w)) (.val (.int hh))):=iA (p:=true) (d:=d2) rfl rfl t3
 obtain⟨o,on,oe⟩:=zqk d2 xs .no .no g0 g6
 have a1:fW (eV 1) gi (gj (eV 3)) (SE d2 xs (.val (.int w)) (.val (.int hh)))=.ok (.list ((xs.take hh.toNat).map num),SE d2 xs (.val (.int w)) (.val (.int hh))):=by
  rw [<- zuT h0 (by omega)];rfl
 have a3:fW (eV 1) (gj (e2 ay (eV 3) (eC (.int 1)))) gi (SE d3 xs (.val (.int w)) (.val (.int hh)))=.ok (.list ((xs.drop (hh+1).toNat).map num),SE d3 xs (.val (.int w)) (.val (.int hh))):=by
  rw [<- zlN (v:=hh+1) (by omega) (by omega)];rfl
 have a2:aZ (aa (e2 au (aZ (aa (aP (aa (eC (.int 4)) (aa (eC (.int 2)) af))) (aa (aP (aa (eC (.int 1)) (aa (eC (.int 0)) af))) (aa (eC (.int 1)) (aa (eC .none) (aa (eC (.bool true)) (aa (aP (aa (eC (.int 1)) af)) af))))))) (aY bT [.m 0,.v (eC (.int 6))])) af) (SE d2 xs (.val (.int w)) (.val (.int hh)))=.ok (.list [o],SE d3 xs (.val (.int w)) (.val (.int hh))):=by
  have le:aZ (aa (aP (aa (eC (.int 4)) (aa (eC (.int 2)) af))) (aa (aP (aa (eC (.int 1)) (aa (eC (.int 0)) af))) (aa (eC (.int 1)) (aa (eC .none) (aa (eC (.bool true)) (aa (aP (aa (eC (.int 1)) af)) af)))))) (SE d2 xs (.val (.int w)) (.val (.int hh)))=.ok (.list [.tuple [.int 4,.int 2],.tuple [.int 1,.int 0],.int 1,.none,.bool true,.tuple [.int 1]],SE d2 xs (.val (.int w)) (.val (.int hh))):=rfl
  exact zpr (hZ le cm oe)
 have add:∀(a b:List D),a.length+b.length<=1000->ay (.list a) (.list b)=.ok (.list (a++b)):=fun a b h=>by
  show aR (leB (a.length+b.length) lim) _=_
  rw [eQ (ko (by show _<=1000000;omega))]
 refine⟨_,d3,fin (y2:=.val (.int w)) (y3:=.val (.int hh)) ((aS s1).trans ((aS n0).trans ((aS n3).trans ((aS n1').trans ((aS s5).trans (?_:_=R.ok (Fl.rt (.list ((xs.take hh.toNat).map num++[o]++(xs.drop (hh+1).toNat).map num)),_))))))),zqj on (by rw [Ew,GB];omega),p3⟩
 have x1:=add ((xs.take hh.toNat).map num) [o] (by simp;omega)
 have x2:=add ((xs.take hh.toNat).map num++[o]) ((xs.drop (hh+1).toNat).map num) (by simp;omega)
 unfold az
 rw [hZ (hZ a1 a2 x1) a3 x2]
 rfl
end K10
namespace K10
open PySem FL FV
open K08 (gI sU m9 jv gU tK zdb zdt zhx zex)
variable {f:Bool}{k:Nat}{d:D}
abbrev NE(d:D)(f:Bool)(w:Int):En:=[.ow true d,.val (.bool f),.val (.int w)]
theorem zhj{w m1 o1 m2:Int}{E1 E2 E5:EF}(hp:dM k d)(hk:k<=50000)(h1:∀ d,E1 (NE d f w)=.ok (.int m1,NE d f w))(h2:∀ d,E2 (NE d f w)=.ok (.int o1,NE d f w))(h5:∀ d,E5 (NE d f w)=.ok (.int m2,NE d f w))
  (m0:1<=m1)(hm:Bd m1 69)(o0:0<=o1)(om:o1<=m1)(q0:1<=m2)(hq:Bd m2 69):∃ r d',ak jY (aa (e2 eL (aY bT [.m 0,.v E1]) E2) (aa (e2 ay (eC (.int 1)) (aY bT [.m 0,.v E5])) af)) (NE d f w)=.ok (num r,NE d' f w)/\QR.Bd 70 r/\dM (k+2) d':=by
 obtain⟨g,d1,t1,g0,g1,p1⟩:=gI hp (by omega) m1 m0 hm (by decide)
 have c1:aY bT [.m 0,.v E1] (NE d f w)=.ok (.int g,NE d1 f w):=iA (p:=true) (d:=d) rfl (h1 d) t1
 obtain⟨b,d2,t2,b0,b1,p2⟩:=gI p1 (by omega) m2 q0 hq (by decide)
 have c2:aY bT [.m 0,.v E5] (NE d1 f w)=.ok (.int b,NE d2 f w):=iA (p:=true) (d:=d1) rfl (h5 d1) t2
 have mm:=hm.h
 have qq:=hq.h
 have pw:(2:Nat)^69<2^70:=by decide
 have hb:(1+b).toNat≠0:=by omega
 have hl:=sU (g-o1) (b:=(1+b).toNat) (n:=70) hb (by omega) (by decide)
 rw [Int.toNat_of_nonneg (show 0<=1+b by omega)] at hl
 have hl':jY [.int (g-o1),.int (1+b)]=_:=hl
 refine⟨F5 (g-o1) (1+b).toNat hb,d2,?_,?_,p2⟩
 ·have sb:eL (.int g) (.int o1)=.ok (.int (g-o1)):=rfl
  have ad:ay (.int 1) (.int b)=.ok (.int (1+b)):=rfl
  simp only [ak,aa,af,FL.e2,eC,c1,h2,c2,ao,sb,ad,hl']
 ·have h1:=QR.norm (t:=g-o1) hb
  have h2:=QR.zbI (g-o1) ((1+b).toNat:Int)
  rw [h1] at h2
  have ab:(g-o1).natAbs<=m1.natAbs:=by omega
  exact⟨Ea h2.1 (by omega),Ea (by have:=h2.2;omega) (show(1+b).toNat<2^70 by omega)⟩
theorem zp4(f:Bool)(h:dM k d)(hk:k<=50000-10):∃(r:Rat) (d':D),kJ [d,.bool f]=.ok (num r,[d',.bool f])/\QR.Bd 70 r/\dM (k+3) d':=by
 obtain⟨w,d1,t1,w0,w7,p1⟩:=gI h (by omega) 7 (by decide) (dw (by decide)) (by decide)
 have s1:aF (gN 2) (aY bT [.m 0,.v (eC (.int 7))]) [.ow true d,.val (.bool f),.no]=.ok (.nx,NE d1 f w):=oS (y:=(.int w,[.ow true d1,.val (.bool f),.no])) (iA (p:=true) (d:=d) rfl rfl t1) rfl bX
 have fin:∀{r:Rat} {d':D},xS [.ow true d,.val (.bool f),.no]=.ok (.rt (num r),NE d' f w)->kJ [d,.bool f]=.ok (num r,[d',.bool f]):=fun{r d'} e=>by
  show((xS [.ow true d,.val (.bool f),.no]).bind _)=_
  rw [e];rfl
 have tt:∀(m:Int) (d:D),tB (e2 f9 (eV 2) (eC (.int m))) (NE d f w)=.ok (decide (w<m),NE d f w):=fun _ _=>rfl
 by_cases c1:w<3
 ·have c:w=0\/w=1\/w=2:=by omega
  have t3:=tt 3 d1
  rw [decide_eq_true c1] at t3
  rcases c with rfl|rfl|rfl
  ·exact⟨0,d1,fin ((aS s1).trans (m9 (jv t3))),⟨by decide,by decide⟩,p1.mono (by omega)⟩
  ·exact⟨1,d1,fin ((aS s1).trans (m9 (jv t3))),⟨by decide,by decide⟩,p1.mono (by omega)⟩
  ·exact⟨-1,d1,fin ((aS s1).trans (m9 (jv t3))),⟨by decide,by decide⟩,p1.mono (by omega)⟩
 have n3:aN (tB (e2 f9 (eV 2) (eC (.int 3)))) (az (e2 au (aZ (rZ [.tuple [.int 0,.int 1],.tuple [.int 1,.int 1],.tuple [.int (-1),.int 1]])) (eV 2))) aO (NE d1 f w)=.ok (.nx,NE d1 f w):=gU (by have:=tt 3 d1;rw [decide_eq_false c1] at this;exact this)
 have b4:∀ d,e2 ay (e2 bf (eC (.int 2)) (e2 dH (eC (.int 10)) (eC (.int 4)))) (eC (.int 1)) (NE d f w)=.ok (.int 20001,NE d f w):=fun _=>rfl
 have b4':∀ d,e2 dH (eC (.int 10)) (eC (.int 4)) (NE d f w)=.ok (.int 10000,NE d f w):=fun _=>rfl
 have o6:FL.bG (tB (e2 f9 (eV 2) (eC (.int 6)))) (FL.bh (tE (eV 1))) (NE d1 f w)=.ok (decide (w<6)||!f,NE d1 f w):=by
  unfold FL.bG
  rw [tt 6 d1,ao]
  cases decide (w<6) <;> cases f <;> rfl
 by_cases c6:(decide (w<6)||!f)=true
 ·rw [c6] at o6
  obtain⟨r,d',e,rb,p2⟩:=zhj (E5:=eC (.int 30)) (f:=f) (w:=w) p1 (by omega) b4 b4' (fun _=>rfl) (by decide) ((dw (by decide)).mono (by decide)) (by decide) (by decide) (by decide) ((dw (by decide)).mono (by decide))
  refine⟨r,d',fin ((aS s1).trans ((aS n3).trans (m9 ((jv o6).trans ?_)))),rb,p2⟩
  unfold az
  rw [e];rfl
 rw [Bool.not_eq_true] at c6
 rw [c6] at o6
 have n6:=gU (a:=az (ak jY (aa (e2 eL (aY bT [.m 0,.v (e2 ay (e2 bf (eC (.int 2)) (e2 dH (eC (.int 10)) (eC (.int 4)))) (eC (.int 1)))]) (e2 dH (eC (.int 10)) (eC (.int 4)))) (aa (e2 ay (eC (.int 1)) (aY bT [.m 0,.v (eC (.int 30))])) af)))) (b:=aO) o6
 have q1:∀ d,e2 ay (e2 bf (eC (.int 2)) (e2 dH (eC (.int 10)) (eC (.int 19)))) (eC (.int 1)) (NE d f w)=.ok (.int zdb,NE d f w):=fun d=>by
  simp only [FL.e2,eC,ao,zdt,zhx,zex]
 have q2:∀ d,e2 dH (eC (.int 10)) (eC (.int 19)) (NE d f w)=.ok (.int tK,NE d f w):=fun d=>by
  simp only [FL.e2,eC,ao,zdt]
 obtain⟨r,d',e,rb,p2⟩:=zhj (f:=f) (w:=w) p1 (by omega) q1 q2 q2 (by decide) ⟨by decide⟩ (by decide) (by decide) (by decide) ⟨by decide⟩
 refine⟨r,d',fin ((aS s1).trans ((aS n3).trans ((aS n6).trans ?_))),rb,p2⟩
 unfold az
 rw [e];rfl
end K10
namespace K10
open PySem FL FV
open K08 (zaF Row)
variable {items:List D}{ip k:Nat}{p:Bool}{d:D}{it:IF}{ρ:En}
theorem za6(f:Bool)(hi:ρ[ip]?=some (.ow p d))(hp:dM k d)(hit:it ρ=.ok (items,ρ))(hl:items.length<=100)(hk:k+3*items.length<=40000) :
  ∃(xs:List Rat) (d':D),eR 1 [ip] it (gN 0) dq (aY kJ [.m 1,.v (eC (.bool f))]) ρ=.ok (rL xs,ρ.set ip (.ow p d'))/\Row items.length xs/\dM (k+3*items.length) d':=by
 obtain⟨acc,ρ',ec,el,xs,d',rfl,hx,dX,rfl⟩:=zfB (k:=1) (ix:=[ip]) (g:=gN 0) (t:=dq) (f:=aY kJ [.m 1,.v (eC (.bool f))])
  (fun i acc ρ'=>∃(xs:List Rat) (d':D),acc=xs.map num/\(∀ r∈xs,QR.Bd 70 r)/\dM (k+3*i) d'/\ρ'=ρ.set ip (.ow p d')) items 0 [] ρ (by show 0+_<=1000000;omega) rfl ⟨[],d,rfl,by simp,hp,(set_same hi).symm⟩ (by
   rintro x hx i acc ρ' jj ⟨xs,d1,rfl,yS,hp1,rfl⟩
   obtain⟨r,d2,en,rb,hp2⟩:=zp4 f hp1 (by omega)
   have g1:(ρ.set ip (.ow p d1))[ip]?=some (.ow p d1):=by
    rw [Bj]
    exact(Bf.mp hi).1
   have eb:bP 1 [ip] (ρ.set ip (.ow p d1))=[.no,.ow p d1]:=by
    unfold bP
    rw [A2,CF,g1]
    rfl
   have cm:aY kJ [.m 1,.v (eC (.bool f))] [.val x,.ow p d1]=.ok (num r,[.val x,.ow p d2]):=by
    show((kJ [d1,.bool f]).bind fun y=>R.ok (y.1,jd _ _ y.2))=_
    rw [en]
    rfl
   refine⟨[.val x,.ow p d1],num r,[.val x,.ow p d2],by rw [eb];rfl,rfl,cm,xs++[r],d2,by simp,fun z hz=>?_,by rw [show k+3*(i+1)=k+3*i+3 by omega];exact hp2,?_⟩
   ·rcases DF.mp hz with hz|hz
    ·exact yS z hz
    ·rw [Ec.mp hz];exact rb
   ·show cD [(ip,.ow p d2)] 0 (ρ.set ip (.ow p d1))=_
    have:=zaF (d':=d2) (p':=p) (ρ.set ip (.ow p d1)) 0 ip g1
    rw [F8] at this
    rw [this,List.set_set])
 refine⟨xs,d',?_,⟨by simpa using el,hx⟩,by simpa using dX⟩
 unfold eR
 rw [hit,ao,ec]
 rfl
end K10
namespace K10
open PySem FL FV
open K08 (sU)
variable {r:Rat}{xs:List Rat}{b:Nat}
theorem zpn(h:QR.Bd b r)(hb:b<=40000000):w8 [num r]=.ok (.bool true):=by
 have k1:dZ "tuple" (num r)=.ok (.bool true):=rfl
 have wh:∀ i:Int,xa [.int i]=.ok (.bool true):=fun _=>rfl
 have l2:dh (num r)=.ok (.int 2):=rfl
 have i0:au (num r) (.int 0)=.ok (.int r.num):=rfl
 have i1:au (num r) (.int 1)=.ok (.int (r.den:Int)):=rfl
 have k3:mE (.int (r.den:Int)) (.int 1)=.ok (.bool true):=by
  rw [zmK];congr 2
  have:=r.den_nz
  exact decide_eq_true (by omega)
 have k4:jY [.int r.num,.int (r.den:Int)]=.ok (num r):=(sU r.num r.den_nz h.2 (by omega)).trans (by rw [Rat.normalize_self])
 have k5:=zu r r
 rw [decide_eq_true rfl] at k5
 refine gR (ρ:=[.val (num r)]) rfl ?_
 show xR [.val (num r)]=_
 unfold xR
 simp only [aw,aN,FL.bG,FL.bh,tE,tB,dQ,ak,aa,af,FL.e1,FL.e2,eV,eC,zz0,ao,k1,dJ,Cj,Bm,if_false,if_true,l2,tf,decide_true,i0,i1,wh,aO,az,k3,k4,k5]
theorem zpq{n:Nat}(hl:xs.length=n)(hn:n<=100)(hb:∀ x∈xs,QR.Bd b x)(b4:b<=40000000):w9 [rL xs,.int n]=.ok (.bool true,[rL xs,.int n]):=by
 have q:zN [.ow true (rL xs),.val (.int n)]=.ok (.list [],[.ow true (rL xs),.val (.int n)]):=by
  unfold zN
  have:=zfX (k:=1) (io:=0) (ix:=[]) (g:=gN 0) (t:=FL.bh (tE (ak w8 (aa (eV 0) af)))) (f:=eV 0) (ρ:=[.ow true (rL xs),.val (.int n)]) (items:=xs.map num) (fun _=>false) (fun d=>d) rfl (by rw [Bc];show _<=1000000;omega) fun x mx=>by
   obtain⟨r,mr,rfl⟩:=Cq.mp mx
   exact⟨[.val (num r)],rfl,by simp only [FL.bh,tE,ak,aa,af,eV,zz0,ao,zpn (hb r mr) b4,dJ,Cj],(fun z=>by cases z),rfl⟩
  rw [this,List.filter_eq_nil_iff.mpr (fun _ _=>BU)]
  rfl
 have m1':m1 dh 0 [.ow true (rL xs),.val (.int n)]=.ok (.int n,[.ow true (rL xs),.val (.int n)]):=by
  show R.ok (Bi ((xs.map num).length:Int),_)=_
  rw [Bc,hl]
 have m2':m1 (dZ "list") 0 [.ow true (rL xs),.val (.int n)]=.ok (.bool true,[.ow true (rL xs),.val (.int n)]):=rfl
 have e0:dR (.list []) (.list [])=.ok (.bool true):=rfl
 have l0:leB 0 lim=true:=by decide
 have e:uS [.ow true (rL xs),.val (.int n)]=.ok (.rt (.bool true),[.ow true (rL xs),.val (.int n)]):=by
  unfold uS
  simp only [aw,aN,FL.bG,FL.bh,tE,tB,m1',m2',FL.e2,eV,zz1,zz0,ao,dJ,Cj,Bm,if_false,tf,decide_true,aO,az,q,aZ,af,Bg,aR,l0,if_true,e0]
 show((uS [.ow true (rL xs),.val (.int n)]).bind _)=_
 rw [e]
 rfl
end K10
namespace K10
open PySem FL FV
open K08 (unit zi9 Row)
variable {n:Nat}{p:Bool}{xs:List Rat}{m:Int}{ρ:En}
theorem zva(hn:n<=100):uv [.int n,.int m]=.ok (rL (unit n m)):=by
 refine gR (ρ:=[.val (.int n),.val (.int m)]) rfl ?_
 show xV [.val (.int n),.val (.int m)]=_
 unfold xV az zdx
 have it:eT (aa (eV 0) af) [.val (.int n),.val (.int m)]=.ok ((B4 n).map fun i:Nat=>Bi i,[.val (.int n),.val (.int m)]):=by
  show(ju [.int n]).bind (fun items=>R.ok (items,[Sl.val (.int n),.val (.int m)]))=_
  rw [zR (by omega) (by omega),ao,zS,show((n:Int)-0).toNat=n by omega]
  simp
 rw [mh (f0:=fun i:Nat=>Bi i) (xs:=B4 n) (fun p=>num (if(p:Int)=m then 1 else 0)) it (by rw [Ef];show _<=1000000;omega) fun p mp=>?_]
 ·rw [ao]
  unfold rL unit
  rw [B3]
  rfl
 ·refine⟨[.val (.int p),.val (.int m)],rfl,?_,j4 trivial⟩
  have l2:leB 2 lim=true:=by decide
  by_cases c:(p:Int)=m
  ·have i1:intD (.bool true)=.ok (.int 1):=rfl
   simp only [aP,aa,af,FL.e1,FL.e2,eV,eC,zz1,zz0,ao,qk,decide_eq_true c,i1,A0,Bg,Bw,aR,l2,if_true,if_pos c]
   rfl
  ·have i0:intD (.bool false)=.ok (.int 0):=rfl
   simp only [aP,aa,af,FL.e1,FL.e2,eV,eC,zz1,zz0,ao,qk,decide_eq_false c,i0,A0,Bg,Bw,aR,l2,if_true,if_neg c]
   rfl
theorem zvb(n:Nat)(m:Int):Row n (unit n m):=⟨zi9 n m,fun x hx=>by
 unfold unit at hx
 obtain⟨p,_,rfl⟩:=Cq.mp hx
 split
 ·exact⟨by decide,by decide⟩
 ·exact⟨by decide,by decide⟩⟩
theorem zpP(hl:xs.length<=1000)(h:ρ[12]?=some (.ow p (rL xs))):zP ρ=.ok (rL (xs.map fun x=>-x),ρ):=by
 unfold zP
 have li:e6 ρ 12=.ok (xs.map num):=by unfold e6;rw [h];rfl
 have:=zfX (k:=1) (io:=12) (ix:=[]) (g:=gN 0) (t:=dq) (f:=ak nA (aa (eV 0) af)) (ρ:=ρ) (items:=xs.map num) (fun _=>true) (fun d=>match nA [d] with | .ok e=>e|_=>.none) li (by rw [Bc];show _<=1000000;omega) fun x mx=>by
  obtain⟨r,mr,rfl⟩:=Cq.mp mx
  refine⟨[.val (num r)],rfl,rfl,fun _=>?_,j4 trivial⟩
  simp only [ak,aa,af,eV,zz0,ao,zc1]
 rw [this,List.filter_eq_self.mpr (fun _ _=>rfl)]
 unfold rL
 rw [B3,B3]
 refine congrArg (fun l=>R.ok (C3 l,ρ)) (JQ fun x _=>?_)
 show(match nA [num x] with | .ok e=>e|_=>.none)=num (-x)
 rw [zc1]
end K10
namespace K10
open PySem FL FV
open K08 (Tb dO St wJ ig b6 ft kT)
variable {c:Int}{t:Tb}{ρ:En}
theorem zuY(h:dO c t)(hl:t.length<=60):∃ u:Tb,St t u/\jU (gd rL t)=.ok (.list (u.map fun e=>tp e.1)) :=
 wJ (t:=t) (d:=gd rL t) (h:=fun e=>tp e.1) (by show R.ok ((t.map fun p=>(tp p.1,rL p.2)).map (·.1))=_;rw [B3];rfl) (fun e m=>by obtain⟨i,j,eq,_⟩:=h.ky e m;unfold ig;rw [eq];rfl) h.nd hl
theorem zpc{u:Tb}(h:dO c t)(hu:u.Perm t)(hs:jU (gd rL t)=.ok (.list (u.map fun e=>tp e.1)))(hl:t.length<=60)(h4:ρ[4]?=some (.val (gd rL t))):t4 ρ=.ok (.list (u.map b6),ρ):=by
 unfold t4
 have it:iE (e1 jU (eV 4)) ρ=.ok (u.map fun e=>tp e.1,ρ):=by
  simp only [iE,FL.e1,eV,h4,ao,hs,iT]
 have eb:bP 2 [4] ρ=[.no,.no,.val (gd rL t)]:=by
  unfold bP
  rw [A2,CF,h4]
  rfl
 refine mh (f0:=fun e:List Int×List Rat=>tp e.1) (xs:=u) b6 it (by rw [hu.length_eq];show _<=1000000;omega) fun e me=>?_
 have em:=hu.subset me
 obtain⟨i,j,fH,i0,ij,jc⟩:=h.ky e em
 have dx:hW (gd rL t) (.tuple [.int i,.int j])=.ok (rL e.2):=by
  have:=qt h.nk em
  rw [fH] at this
  exact za3 (f:=rL) this
 have l2:leB 2 lim=true:=by decide
 have l3:leB 3 lim=true:=by decide
 have li:fZ (rL e.2)=.ok (rL e.2):=rfl
 refine⟨[.val (.int i),.val (.int j),.val (gd rL t)],by rw [eb,fH];rfl,?_,j4 trivial⟩
 have:b6 e=.tuple [.int i,.int j,rL e.2]:=by unfold b6;rw [fH];rfl
 rw [this]
 simp only [aa,af,FL.e1,FL.e2,aP,eV,zz1,zz0,ao,aR,l2,l3,if_true,A0,Bg,Bw,dx,li]
end K10
namespace K10
open PySem FL FV
open K08 (Tb dO gI Row yW jv gU)
variable {S d:D}{r:En}{t:Tb}
abbrev DE(S:D)(a:Int)(d:D)(c:Int)(T:D)(y5 y6:Sl)(r:En):En:=.val S::.val (.int a)::.ow false d::.val (.int c)::.ow false T::y5::y6::r
theorem zr8{a c i j:Int}{k n:Nat}(hp:dM k d)(hk:k<=30000)(hn:(n:Int)=c+1)(c0:0<=c)(c6:c<=6)(hl:t.length<=60)(nw:∀ p∈t,p.1≠[i,j]) :
  ∃ d' t',wO (DE S a d c (gd rL t) (.val (.int i)) (.val (.int j)) r)=.ok (.nx,DE S a d' c (gd rL t') (.val (.int i)) (.val (.int j)) r)/\dM (k+30) d'/\(t'=t\/∃ xs,Row n xs/\t'=t++[([i,j],xs)]):=by
 obtain⟨g,d1,t1,g0,g3,p1⟩:=gI hp (by omega) 3 (by decide) (dw (by decide)) (by decide)
 have cm:aY bT [.m 2,.v (eC (.int 3))] (DE S a d c (gd rL t) (.val (.int i)) (.val (.int j)) r)=.ok (.int g,DE S a d1 c (gd rL t) (.val (.int i)) (.val (.int j)) r):=iA (p:=false) (d:=d) rfl rfl t1
 have te:tB (e2 yD (aY bT [.m 2,.v (eC (.int 3))]) (eC (.int 0))) (DE S a d c (gd rL t) (.val (.int i)) (.val (.int j)) r)=.ok (decide (0<g),DE S a d1 c (gd rL t) (.val (.int i)) (.val (.int j)) r):=by
  unfold tB FL.e2
  rw [cm,ao]
  rfl
 unfold wO
 by_cases z:0<g
 ·rw [decide_eq_true z] at te
  have it:eT (aa (e2 ay (eV 3) (eC (.int 1))) af) (DE S a d1 c (gd rL t) (.val (.int i)) (.val (.int j)) r)=.ok (eD 0 (c+1),DE S a d1 c (gd rL t) (.val (.int i)) (.val (.int j)) r):=yW hn c6 rfl
  have rl:(eD 0 (c+1)).length=n:=by unfold eD;rw [Bc,Ef];omega
  obtain⟨xs,d2,e,iX,p2⟩:=za6 (ρ:=DE S a d1 c (gd rL t) (.val (.int i)) (.val (.int j)) r) (ip:=2) (p:=false) (d:=d1) false rfl p1 it (by omega) (by omega)
  rw [rl] at iX p2
  have e':zdz (DE S a d1 c (gd rL t) (.val (.int i)) (.val (.int j)) r)=.ok (rL xs,DE S a d2 c (gd rL t) (.val (.int i)) (.val (.int j)) r):=e
  have dp:qj (gd rL t) (.tuple [.int i,.int j]) (rL xs)=.ok (gd rL (nV t [i,j] xs)):=zfR (w:=[i,j]) (By (show _<=200 by omega) (by decide))
  rw [zgm nw] at dp
  have l2:leB 2 lim=true:=by decide
  refine⟨d2,t++[([i,j],xs)],(jv te).trans ?_,p2.mono (by omega),.inr ⟨xs,iX,rfl⟩⟩
  generalize gd rL (t++[([i,j],xs)])=G at dp ⊢
  generalize rL xs=R at dp e' ⊢
  simp only [DE] at e' ⊢
  simp only [iC,e',bw,aP,aa,af,eV,zz1,zz0,ao,aR,l2,if_true,A0,Bg,Bw,dp,eh,BO,BM]
 ·rw [decide_eq_false z] at te
  exact⟨d1,t,(gU te).trans rfl,p1.mono (by omega),.inl rfl⟩
end K10
namespace K10
open PySem FL FV
open K08 (Tb dO Row)
variable {c i j:Int}{n:Nat}{t:Tb}
section
structure Dr(c:Int)(n:Nat)(i j:Int)(t:Tb):Prop where
 gk:Gk t
 ky:∀ p∈t,∃ i' j',p.1=[i',j']/\0<=i'/\i'<j'/\j'<c/\(i'<i\/i'=i/\j'<j)
 rw:∀ p∈t,Row n p.2
theorem Dr.nil(c:Int)(n:Nat)(i j:Int):Dr c n i j []:=⟨List.nodup_nil,(fun p m=>by cases m),(fun p m=>by cases m)⟩
theorem Dr.nw(h:Dr c n i j t):∀ p∈t,p.1≠[i,j]:=fun p m z=>by
 obtain⟨i',j',e,_,_,_,q⟩:=h.ky p m
 rw [e] at z
 injection z with z1 z2
 injection z2 with z2 _
 omega
theorem Dr.up{i2 j2:Int}(h:Dr c n i j t)(u:∀ a b:Int,a<b->b<c->(a<i\/a=i/\b<j)->a<i2\/a=i2/\b<j2):Dr c n i2 j2 t:=⟨h.gk,fun p m=>by
 obtain⟨i',j',e,q0,q1,q2,q⟩:=h.ky p m
 exact⟨i',j',e,q0,q1,q2,u i' j' q1 q2 q⟩,h.rw⟩
theorem Dr.step{t':Tb}(h:Dr c n i j t)(i0:0<=i)(ij:i<j)(jc:j<c)(s:t'=t\/∃ xs,Row n xs/\t'=t++[([i,j],xs)]):Dr c n i (j+1) t':=by
 have hu:Dr c n i (j+1) t:=h.up fun a b _ _ q=>by omega
 rcases s with rfl|⟨xs,rx,rfl⟩
 ·exact hu
 ·refine⟨?_,fun p m=>?_,fun p m=>?_⟩
  ·unfold Gk
   rw [DU,IA]
   refine⟨h.gk,by simp,fun a ma b mb z=>?_⟩
   obtain⟨p,mp,rfl⟩:=Cq.mp ma
   have:b=[i,j]:=by simpa using mb
   exact h.nw p mp (z.trans this)
  ·rcases DF.mp m with m|m
   ·exact hu.ky p m
   ·rw [Ec.mp m]
    exact⟨i,j,rfl,i0,ij,jc,.inr ⟨rfl,by omega⟩⟩
  ·rcases DF.mp m with m|m
   ·exact h.rw p m
   ·rw [Ec.mp m];exact rx
theorem Dr.tb(h:Dr c n i j t)(hn:(n:Int)=c+1):dO c t:=⟨h.gk,fun p m=>by
 obtain⟨i',j',e,q0,q1,q2,_⟩:=h.ky p m
 exact⟨i',j',e,q0,q1,q2⟩,fun p m=>by have:=(h.rw p m).l;omega⟩
end
variable {S d:D}{r:En}
section
theorem ziA{m j:Nat}{pre post:List Nat}(e:[]++B4 m=pre++j::post):j=pre.length/\j<m:=by
 rw [BA] at e
 have h1:(B4 m)[pre.length]?=some j:=by rw [e];simp
 rw [Bf] at h1
 obtain⟨q,h⟩:=h1
 rw [List.getElem_range] at h
 rw [Ef] at q
 omega
section
variable {a:Int}{k:Nat}{y5 y6:Sl}
theorem znm(hp:dM k d)(hk:k<=20000)(hn:(n:Int)=c+1)(c0:0<=c)(c5:c<=5)(i0:0<=i)(ic:i<c)(h:Dr c n i (i+1) t)(hl:t.length<=20)(n6:Np y6) :
  ∃ d' t' z6,Ai (DE S a d c (gd rL t) (.val (.int i)) y6 r)=.ok (.nx,DE S a d' c (gd rL t') (.val (.int i)) z6 r)/\Np z6/\Dr c n (i+1) (i+1+1) t'/\t'.length<=t.length+4/\dM (k+120) d':=by
 obtain⟨ρ',e,t',d',z6,rfl,m6,h',l',p'⟩:=qo (f:=fun j:Nat=>Bi (i+1+(j:Int))) (g:=gN 6) (b:=wO)
  (fun done ρ=>∃ t' d' z6,ρ=DE S a d' c (gd rL t') (.val (.int i)) z6 r/\Np z6/\Dr c n i (i+1+(done.length:Int)) t'/\t'.length<=t.length+done.length/\dM (k+30*done.length) d')
  (B4 (c-(i+1)).toNat) [] (DE S a d c (gd rL t) (.val (.int i)) y6 r) ⟨t,d,y6,rfl,n6,by simpa using h,AO _,hp⟩ (by
   rintro pre j post ρ e ⟨t1,d1,z6,rfl,m6,h1,l1,p1⟩
   obtain⟨ej,jm⟩:=ziA e
   rw [<- ej] at h1
   have g6:gN 6 (.int (i+1+(j:Int))) (DE S a d1 c (gd rL t1) (.val (.int i)) z6 r)=.ok (DE S a d1 c (gd rL t1) (.val (.int i)) (.val (.int (i+1+(j:Int)))) r):=mD rfl m6
   obtain⟨d2,t2,yp,p2,s2⟩:=zr8 (S:=S) (a:=a) (r:=r) (i:=i) (j:=i+1+(j:Int)) p1 (by omega) hn c0 (by omega) (by omega) h1.nw
   have h2:=h1.step i0 (by omega) (by omega) s2
   refine⟨_,.nx,uT g6 yp,.inl rfl,t2,d2,_,rfl,cT _,?_,?_,p2.mono ?_⟩
   ·rw [B6,DM,<- ej]
    have:i+1+((j+1:Nat):Int)=i+1+(j:Int)+1:=by omega
    rw [this];exact h2
   ·rw [B6,DM]
    rcases s2 with rfl|⟨xs,_,rfl⟩
    ·omega
    ·rw [B6,DM];omega
   ·rw [B6,DM];omega)
 rw [BA,Ef] at h' l' p'
 refine⟨d',t',z6,?_,m6,h'.up fun a b _ _ q=>by omega,by omega,p'.mono (by omega)⟩
 have ad:ay (.int i) (.int 1)=.ok (.int (i+1)):=rfl
 have hr:=ztK (i:=i+1) (j:=c) (by omega) (by omega) (by omega) (by omega)
 have hi:jl (aa (e2 ay (eV 5) (eC (.int 1))) (aa (eV 3) af)) (DE S a d c (gd rL t) (.val (.int i)) y6 r)=.ok (eD (i+1) c,DE S a d c (gd rL t) (.val (.int i)) y6 r):=by
  simp only [DE,jl,aa,af,FL.e2,eV,eC,zz1,zz0,ao,ad,hr]
 unfold Ai c7
 rw [hi,ao,zS,B3]
 exact e
theorem zc9(hp:dM k d)(hk:k<=10000)(hn:(n:Int)=c+1)(c0:0<=c)(c5:c<=5)(n5:Np y5)(n6:Np y6) :
  ∃ d' t' z5 z6,Aj (DE S a d c (gd rL []) y5 y6 r)=.ok (.nx,DE S a d' c (gd rL t') z5 z6 r)/\Np z5/\Np z6/\dO c t'/\(∀ e∈t',Row n e.2)/\t'.length<=20/\dM (k+600) d':=by
 obtain⟨ρ',e,t',d',z5,z6,rfl,m5,m6,h',l',p'⟩:=qo (f:=fun j:Nat=>Bi (0+(j:Int))) (g:=gN 5) (b:=Ac)
  (fun done ρ=>∃ t' d' z5 z6,ρ=DE S a d' c (gd rL t') z5 z6 r/\Np z5/\Np z6/\Dr c n (done.length:Int) ((done.length:Int)+1) t'/\t'.length<=4*done.length/\dM (k+120*done.length) d')
  (B4 (c-0).toNat) [] (DE S a d c (gd rL []) y5 y6 r) ⟨[],d,y5,y6,rfl,n5,n6,Dr.nil _ _ _ _,AO _,hp⟩ (by
   rintro pre j post ρ e ⟨t1,d1,z5,z6,rfl,m5,m6,h1,l1,p1⟩
   obtain⟨ej,jm⟩:=ziA e
   rw [<- ej] at h1
   have g5:gN 5 (.int (0+(j:Int))) (DE S a d1 c (gd rL t1) z5 z6 r)=.ok (DE S a d1 c (gd rL t1) (.val (.int j)) z6 r):=by
    rw [Int.zero_add];exact mD rfl m5
   obtain⟨d2,t2,x6,yp,q6,h2,l2,p2⟩:=znm (S:=S) (a:=a) (r:=r) (i:=(j:Int)) p1 (by omega) hn c0 c5 (by omega) (by omega) h1 (by omega) m6
   refine⟨_,.nx,uT (u:=Ac) g5 yp,.inl rfl,t2,d2,_,x6,rfl,cT _,q6,?_,?_,p2.mono ?_⟩
   ·rw [B6,DM,<- ej]
    exact h2
   ·rw [B6,DM];omega
   ·rw [B6,DM];omega)
 rw [BA,Ef] at h' l' p'
 refine⟨d',t',z5,z6,?_,m5,m6,h'.tb hn,h'.rw,by omega,p'.mono (by omega)⟩
 have hr:=zR (j:=c) (by omega) (by omega)
 have hi:eT (aa (eV 3) af) (DE S a d c (gd rL []) y5 y6 r)=.ok (eD 0 c,DE S a d c (gd rL []) y5 y6 r):=by
  simp only [DE,eT,aa,af,eV,zz1,zz0,ao,hr]
 unfold Aj c7
 rw [hi,ao,zS,B3]
 exact e
end
end
end K10
namespace K10
open PySem FL FV
open K08 (Tb dO Row St fq b6 ft gI yW jv gU cy qW oJ unit)
variable {f h:EF}{ρ ρ1:En}{bI bM bO ck cw cx x y5 y6 y8 y9:Sl}{b p:Bool}{fa:AF}{S d:D}{c:String}{F:List D->R D}{t:TF}{i:Nat}{G:List D->R (Option (String×List D))}{g:D->D->R D}{a:Int}
theorem nL{a:AF}{ds:List D}(h:a ρ=.ok (ds,ρ1))(k:F ds=.ok d):ak F a ρ=.ok (d,ρ1):=by unfold ak;rw [h,ao,k];rfl
theorem ni(h:f ρ=.ok (.bool b,ρ1)):tB f ρ=.ok (b,ρ1):=by unfold tB;rw [h];rfl
theorem ziR(h:f ρ=.ok (.bool b,ρ1)):tE f ρ=.ok (b,ρ1):=by unfold tE;rw [h];rfl
theorem wc{u:TF}{ρ2:En}(h:t ρ=.ok (false,ρ1))(k:u ρ1=.ok (false,ρ2)):FL.bG t u ρ=.ok (false,ρ2):=by unfold FL.bG;rw [h];exact k
theorem zpZ(h:t ρ=.ok (true,ρ1)):FL.bh t ρ=.ok (false,ρ1):=by unfold FL.bh;rw [h];rfl
theorem zt8{fs:List D}(h:f ρ=.ok (.tuple fs,ρ1))(hx:ρ1[i]?=some x)(n:Np x):t7 i c f ρ=.ok (.nx,ρ1.set i (.ob c fs)):=by
 unfold t7
 rw [h,ao]
 dsimp only
 rw [hx]
 cases x with
 | ow p d=>cases p with
  | true=>exact absurd rfl (n d)
  | false=>rfl
 | _=>rfl
theorem ziE{ds fs:List D}(h:fa ρ=.ok (ds,ρ1))(hG:G ds=.ok (some (c,fs)))(hx:ρ1[i]?=some x)(n:Np x):wF i G fa ρ=.ok (.nx,ρ1.set i (.ob c fs)):=by
 unfold wF
 rw [h,ao]
 dsimp only
 rw [hG,ao]
 rw [hx]
 cases x with
 | ow p d=>cases p with
  | true=>exact absurd rfl (n d)
  | false=>rfl
 | _=>rfl
theorem ziZ(h:f ρ=.ok (d,ρ1))(hx:ρ1[i]?=some x)(n:Np x):iZ i (c9 i f) ρ=.ok (.nx,ρ1.set i (.val d)):=by
 have hl:i<ρ1.length:=(Bf.mp hx).1
 unfold iZ
 rw [ziF (y:=(d,ρ1)) h hx n,ao]
 dsimp only
 rw [Bj hl]
 dsimp only
 rw [List.set_set]
theorem zpw{x y:D}(h1:ρ[i]?=some (.ow p x))(h2:h ρ=.ok (y,ρ))(h3:g x y=.ok d):m2 g i h ρ=.ok (d,ρ):=by
 have m:bw ρ i=.ok x:=by unfold bw;rw [h1]
 unfold m2
 rw [m,ao,h2,ao]
 dsimp only
 rw [m,ao,h3];rfl
theorem zkJ{G:String->List D->R D}{ds:List D}(h:ρ[i]?=some (.ob c ds))(k:G c ds=.ok d):nO i G ρ=.ok (d,ρ):=by
 unfold nO
 rw [h]
 dsimp only
 rw [k];rfl
abbrev BE(S:D)(a:Int)(d:D)(c:Int)(G:D)(y5 y6:Sl)(U:D)(y8 y9 cw cx ck bO bM bI bJ:Sl):En:=[.val S,.val (.int a),.ow false d,.val (.int c),.val G,y5,y6,.ob "Table" [.int c,U],y8,y9,cw,cx,ck,bO,bM,bI,bJ]
theorem zf7{c k:Int}{G U:D}(hk:k=0\/k=1) :
  (FL.bG (tB (e2 b9 (nO 16 rM) (eC (.str "NoRow")))) (FL.bG (tB (e2 b9 (nQ 16 [("NoRow",0)]) (eC (.int k)))) (tE (e1 (dZ "bool") (nQ 16 [("NoRow",0)]))))) (BE S a d c G y5 y6 U y8 y9 cw cx ck bO bM bI (.ob "NoRow" [.int k]))=.ok (false,BE S a d c G y5 y6 U y8 y9 cw cx ck bO bM bI (.ob "NoRow" [.int k])):=by
 have cl:nO 16 rM (BE S a d c G y5 y6 U y8 y9 cw cx ck bO bM bI (.ob "NoRow" [.int k]))=.ok (.str "NoRow",BE S a d c G y5 y6 U y8 y9 cw cx ck bO bM bI (.ob "NoRow" [.int k])):=zkJ rfl (zkU _)
 have ns:b9 (.str "NoRow") (.str "NoRow")=.ok (.bool false):=by kernel_rfl
 refine wc (ni (hZ cl rfl ns)) (wc (ni (hZ (a:=.int k) rfl rfl (oJ (qV k)))) (ziR ?_))
 rfl
theorem zkS{y2 y3 y4 y7 bJ:Sl}(n2:Np y2)(n3:Np y3)(n4:Np y4)(n5:Np y5)(n6:Np y6)(n7:Np y7)(n8:Np y8)(n9:Np y9)(n10:Np cw)(n11:Np cx)(n12:Np ck)(n13:Np bO)(n14:Np bM)(n15:Np bI)(n16:Np bJ) :
  ∃ d c G U z5 z6 A B C E F P Q,Np z5/\Np z6/\wQ [.val S,.val (.int a),y2,y3,y4,y5,y6,y7,y8,y9,cw,cx,ck,bO,bM,bI,bJ]=.ok (.nx,BE S a d c G z5 z6 U (.val A) (.val B) (.val C) (.val E) (.ow false (.list [])) (.val F) (.val P) (.val Q) (.ob "NoRow" [.int 1])):=by
 obtain⟨d,ep,p0⟩:=zr4 a 10 (by decide)
 replace ep:zac [.int a,.int 10]=.ok d:=ep
 obtain⟨g,d1,tk,g0,g1,p1⟩:=gI p0 (by decide) 5 (by decide) (dw (by decide)) (by decide)
 generalize hc:1+g=c
 generalize hn0:(c+1).toNat=n
 have hn:(n:Int)=c+1:=by omega
 obtain⟨d2,t,z5,z6,el,m5,m6,ht,hr,tl,p2⟩:=zc9 (S:=S) (a:=a) (r:=[y7,y8,y9,cw,cx,ck,bO,bM,bI,bJ]) p1 (by decide) hn (by omega) (by omega) n5 n6
 obtain⟨u,hu,hs⟩:=zuY ht (by omega)
 have vK:dO c u:=ht.perm hu.pm
 have ul:u.length=t.length:=hu.pm.length_eq
 have hlen:∀ e∈u,e.2.length=n:=fun e m=>(hr e (hu.pm.subset m)).l
 have hbd:∀ e∈u,∀ x∈e.2,QR.Bd 70 x:=fun e m=>(hr e (hu.pm.subset m)).b
 obtain⟨v,hv,tb⟩:=K08.zuQ vK (by omega) (by omega) (by omega)
 have ev:v=u:=St.uniq vK hv ⟨List.Perm.refl _,hu.so⟩
 subst ev
 replace tb:rK [.int c,.list (v.map b6)]=.ok (.tuple [.int c,.tuple ((fq v).map ft)]):=tb
 have lf:∀{xs ys:List Rat},Row n xs->Row n ys->pS [.tuple [.int c,.tuple ((fq v).map ft)],rL xs,rL ys]=.ok (rL (aU n xs ys v)):=fun{xs ys} rx ry=>by
  have kl:(fq v).length<=v.length:=List.length_filter_le ..
  rw [<- zpk hlen]
  exact zpd ⟨(List.filter_sublist.map fun e:List Int×List Rat=>e.1).nodup vK.nk,fun x m=>vK.ky x (FH.mp m).1,fun x m=>vK.rw x (FH.mp m).1⟩ (by omega) (fun e m=>hbd e (FH.mp m).1) hn (by omega) (by omega) rx.l ry.l rx.b ry.b
 have ll:∀ xs ys:List Rat,(aU n xs ys v).length=n:=fun xs ys=>zcN (c:=c) v hlen
 generalize Hd ((fq v).map ft)=U at tb lf
 have lq:=zpc (ρ:=[.val S,.val (.int a),.ow false d2,.val (.int c),.val (gd rL t),z5,z6,y7,y8,y9,cw,cx,ck,bO,bM,bI,bJ]) ht hu.pm hs (by omega) rfl
 have cr:∀{xs ys:List Rat},Row n xs->Row n ys->w5 [.int c,gd rL t,rL xs,rL ys]=.ok (rL (aU n xs ys v)):=fun{xs ys} rx ry=>zk0 ht hu.pm hs tl (fun e m=>(hr e m).b) hn (by omega) (by omega) rx.l ry.l rx.b ry.b
 have tbE:sC rK (aa (eV 3) (aa t4 af)) [.val S,.val (.int a),.ow false d2,.val (.int c),.val (gd rL t),z5,z6,y7,y8,y9,cw,cx,ck,bO,bM,bI,bJ]=.ok (.tuple [.int c,U],[.val S,.val (.int a),.ow false d2,.val (.int c),.val (gd rL t),z5,z6,y7,y8,y9,cw,cx,ck,bO,bM,bI,bJ]):=by
  generalize C3 (v.map b6)=L at tb lq
  generalize gd rL t=G at lq ⊢
  simp only [sC,aa,af,eV,zz1,zz0,ao,lq,tb]
 generalize gd rL t=G at el lq cr tbE
 have rl:(eD 0 (c+1)).length=n:=by unfold eD;rw [Bc,Ef];omega
 have it:=fun(d:D) (y8 y9:Sl)=>yW (ρ:=BE S a d c G z5 z6 U y8 y9 cw cx ck bO bM bI bJ) hn (by omega) rfl
 obtain⟨xs,d3,e3',rx,p3⟩:=za6 (ip:=2) (p:=false) (d:=d2) true rfl p2 (it d2 y8 y9) (by omega) (by omega)
 obtain⟨zs,d4,e4',rz,p4⟩:=za6 (ip:=2) (p:=false) (d:=d3) true rfl p3 (it d3 (.val (rL xs)) y9) (by omega) (by omega)
 rw [rl] at rx p3 rz p4
 obtain⟨q,d5,t5,q0,q1,p5⟩:=gI p4 (by omega) 2 (by decide) (dw (by decide)) (by decide)
 obtain⟨o,d6,t6,o0,o1,p6⟩:=gI p5 (by omega) 2 (by decide) (dw (by decide)) (by decide)
 have s8:∃ ys d7,Row n ys/\dM (623+6*n) d7/\(aN (tB (e2 dR (aY bT [.m 2,.v (eC (.int 2))]) (eC (.int 0)))) (aF (gN 9) (ak uv (aa (e2 ay (eV 3) (eC (.int 1))) (aa (e2 eL (eV 3) (aY bT [.m 2,.v (eC (.int 2))])) af)))) aO) (BE S a d4 c G z5 z6 U (.val (rL xs)) (.val (rL zs)) cw cx ck bO bM bI bJ)=.ok (.nx,BE S a d7 c G z5 z6 U (.val (rL xs)) (.val (rL ys)) cw cx ck bO bM bI bJ):=by
  have te:tB (e2 dR (aY bT [.m 2,.v (eC (.int 2))]) (eC (.int 0))) (BE S a d4 c G z5 z6 U (.val (rL xs)) (.val (rL zs)) cw cx ck bO bM bI bJ)=.ok (decide (q=0),BE S a d5 c G z5 z6 U (.val (rL xs)) (.val (rL zs)) cw cx ck bO bM bI bJ):=ni (hZ (iA (p:=false) (d:=d4) rfl rfl t5) rfl (qk q 0))
  by_cases z:q=0
  ·rw [decide_eq_true z] at te
   refine⟨unit n (c-o),d6,zvb _ _,p6.mono (by omega),(jv te).trans ?_⟩
   have un:uv [.int (c+1),.int (c-o)]=.ok (rL (unit n (c-o))):=by rw [<- hn];exact zva (by omega)
   have tk6:aY bT [.m 2,.v (eC (.int 2))] (BE S a d5 c G z5 z6 U (.val (rL xs)) (.val (rL zs)) cw cx ck bO bM bI bJ)=.ok (.int o,BE S a d6 c G z5 z6 U (.val (rL xs)) (.val (rL zs)) cw cx ck bO bM bI bJ):=iA (p:=false) (d:=d5) rfl rfl t6
   have ar:aa (e2 ay (eV 3) (eC (.int 1))) (aa (e2 eL (eV 3) (aY bT [.m 2,.v (eC (.int 2))])) af) (BE S a d5 c G z5 z6 U (.val (rL xs)) (.val (rL zs)) cw cx ck bO bM bI bJ)=.ok ([.int (c+1),.int (c-o)],BE S a d6 c G z5 z6 U (.val (rL xs)) (.val (rL zs)) cw cx ck bO bM bI bJ):=by
    have h2:e2 eL (eV 3) (aY bT [.m 2,.v (eC (.int 2))]) (BE S a d5 c G z5 z6 U (.val (rL xs)) (.val (rL zs)) cw cx ck bO bM bI bJ)=.ok (.int (c-o),BE S a d6 c G z5 z6 U (.val (rL xs)) (.val (rL zs)) cw cx ck bO bM bI bJ):=hZ rfl tk6 rfl
    have h1:e2 ay (eV 3) (eC (.int 1)) (BE S a d5 c G z5 z6 U (.val (rL xs)) (.val (rL zs)) cw cx ck bO bM bI bJ)=.ok (.int (c+1),BE S a d5 c G z5 z6 U (.val (rL xs)) (.val (rL zs)) cw cx ck bO bM bI bJ):=hZ rfl rfl rfl
    simp only [aa,af,h1,h2,ao]
   exact oS (y:=(rL (unit n (c-o)),BE S a d6 c G z5 z6 U (.val (rL xs)) (.val (rL zs)) cw cx ck bO bM bI bJ)) (nL ar un) rfl (cT _)
  ·rw [decide_eq_false z] at te
   exact⟨zs,d5,rz,p5.mono (by omega),(gU te).trans rfl⟩
 obtain⟨ys,d7,ry,p7,s8⟩:=s8
 obtain⟨w,d8,t8,w0,p8⟩:=ziL p7 (by omega) rx.l (by omega) (by omega)
 obtain⟨w',d9,t9,w1,p9⟩:=ziL p8 (by omega) ry.l (by omega) (by omega)
 obtain⟨f,u0,t10,f0,f1,p10⟩:=gI p9 (by omega) 2 (by decide) (dw (by decide)) (by decide)
 rw [show nv n w=(eX [w,.int (c+1)]=.ok (.bool false)) by unfold nv;rw [hn]] at w0
 rw [show nv n w'=(eX [w',.int (c+1)]=.ok (.bool false)) by unfold nv;rw [hn]] at w1
 have gx:eX [rL xs,.int (c+1)]=.ok (.bool true):=K08.yV (by rw [rx.l];exact hn) (by rw [rx.l];omega)
 refine⟨u0,c,G,U,z5,z6,rL xs,rL ys,rL xs,rL ys,rL (aU n xs ys v),w,w',m5,m6,?_⟩
 unfold wQ
 refine(aS (wG (d:=d) (nL rfl ep) rfl n2)).trans ?_
 refine(aS (ρ1:=[.val S,.val (.int a),.ow false d1,.val (.int c),y4,y5,y6,y7,y8,y9,cw,cx,ck,bO,bM,bI,bJ]) (oS (y:=(.int c,[.val S,.val (.int a),.ow false d1,y3,y4,y5,y6,y7,y8,y9,cw,cx,ck,bO,bM,bI,bJ])) (by rw [<- hc];exact hZ rfl (iA (p:=false) (d:=d) rfl rfl tk) rfl) rfl n3)).trans ?_
 refine(aS (wG (d:=.dict []) rfl rfl n4)).trans ?_
 refine(aS el).trans ?_
 refine(aS (ρ1:=BE S a d2 c G z5 z6 U y8 y9 cw cx ck bO bM bI bJ) (show t7 7 "Table" (sC rK (aa (eV 3) (aa t4 af))) [.val S,.val (.int a),.ow false d2,.val (.int c),.val G,z5,z6,y7,y8,y9,cw,cx,ck,bO,bM,bI,bJ]=_ from zt8 tbE rfl n7)).trans ?_
 refine(aS (ρ1:=BE S a d3 c G z5 z6 U (.val (rL xs)) y9 cw cx ck bO bM bI bJ) (ziZ (f:=zdA) e3' rfl n8)).trans ?_
 refine(aS (ρ1:=BE S a d4 c G z5 z6 U (.val (rL xs)) (.val (rL zs)) cw cx ck bO bM bI bJ) (ziZ (f:=zdB) e4' rfl n9)).trans ?_
 refine(aS s8).trans ?_
 refine(aS (rj (d:=rL xs) rfl rfl n10)).trans ?_
 refine(aS (ρ1:=BE S a d7 c G z5 z6 U (.val (rL xs)) (.val (rL ys)) (.val (rL xs)) (.val (rL ys)) ck bO bM bI bJ) (rj (d:=rL ys) rfl rfl n11)).trans ?_
 refine(aS (ρ1:=BE S a d7 c G z5 z6 U (.val (rL xs)) (.val (rL ys)) (.val (rL xs)) (.val (rL ys)) (.ow false (rL (aU n xs ys v))) bO bM bI bJ) (wG (nL rfl (lf rx ry)) rfl n12)).trans ?_
 have lb:∀ x∈aU n xs ys v,QR.Bd (2+352*v.length) x:=zcM (n:=n) rx.b ry.b v (cy n) 1 (fun y hy=>by unfold cy at hy;rw [(IC.mp hy).2];exact⟨by decide,by decide⟩) hbd
 have lr:w9 [rL (aU n xs ys v),.int (c+1)]=.ok (.bool true,[rL (aU n xs ys v),.int (c+1)]):=by rw [<- hn];exact zpq (ll xs ys) (by omega) lb (by omega)
 refine(aS (ρ1:=BE S a d7 c G z5 z6 U (.val (rL xs)) (.val (rL ys)) (.val (rL xs)) (.val (rL ys)) (.ow false (rL (aU n xs ys v))) bO bM bI bJ) ((gU (wc (ρ1:=BE S a d7 c G z5 z6 U (.val (rL xs)) (.val (rL ys)) (.val (rL xs)) (.val (rL ys)) (.ow false (rL (aU n xs ys v))) bO bM bI bJ) (zpZ (ziR (iA (p:=false) (d:=rL (aU n xs ys v)) rfl (hZ rfl rfl rfl) lr))) (ni (zpw rfl (nL rfl (cr rx ry)) (oJ (qW _)))))).trans rfl)).trans ?_
 have ng:=zpP (xs:=aU n xs ys v) (ρ:=BE S a d7 c G z5 z6 U (.val (rL xs)) (.val (rL ys)) (.val (rL xs)) (.val (rL ys)) (.ow false (rL (aU n xs ys v))) bO bM bI bJ) (p:=false) (by rw [ll];omega) rfl
 rw [<- zpl] at ng
 refine(aS ((gU (ni (hZ (nL rfl (lf ry rx)) ng (oJ (qW _))))).trans rfl)).trans ?_
 refine(aS (rj (d:=rL (aU n xs ys v)) rfl rfl n13)).trans ?_
 refine(aS (ρ1:=BE S a d7 c G z5 z6 U (.val (rL xs)) (.val (rL ys)) (.val (rL xs)) (.val (rL ys)) (.ow false (.list [])) (.val (rL (aU n xs ys v))) bM bI bJ) rfl).trans ?_
 refine(aS ((gU (ni (hZ (nL rfl (lf rx ry)) rfl (oJ (qW _))))).trans rfl)).trans ?_
 have ls:=lf rx rx
 rw [zpm hlen] at ls
 refine(aS ((gU (wc (ni (hZ (nL rfl ls) (nL rfl (ze7 hn (by omega))) (oJ (qW _)))) (wc (ni (hZ rfl rfl (oJ (qW xs)))) (ni (hZ rfl rfl (oJ (qW ys))))))).trans rfl)).trans ?_
 refine(aS (ρ1:=BE S a d8 c G z5 z6 U (.val (rL xs)) (.val (rL ys)) (.val (rL xs)) (.val (rL ys)) (.ow false (.list [])) (.val (rL (aU n xs ys v))) (.val w) bI bJ) (oS (iA (p:=false) (d:=d7) rfl rfl t8) rfl n14)).trans ?_
 refine(aS (ρ1:=BE S a d9 c G z5 z6 U (.val (rL xs)) (.val (rL ys)) (.val (rL xs)) (.val (rL ys)) (.ow false (.list [])) (.val (rL (aU n xs ys v))) (.val w) (.val w') bJ) (oS (iA (p:=false) (d:=d8) rfl rfl t9) rfl n15)).trans ?_
 have ix:∃ B,au (.list [rL ys,w']) (.int f)=.ok B:=by
  rcases show f=0\/f=1 by omega with rfl|rfl
  ·exact⟨_,rfl⟩
  ·exact⟨_,rfl⟩
 obtain⟨B,ix⟩:=ix
 have ea:fE 7 "Table" (aa (eV 14) (aa (e2 au (aZ (aa (eV 9) (aa (eV 15) af))) (aY bT [.m 2,.v (eC (.int 2))])) af)) (BE S a d9 c G z5 z6 U (.val (rL xs)) (.val (rL ys)) (.val (rL xs)) (.val (rL ys)) (.ow false (.list [])) (.val (rL (aU n xs ys v))) (.val w) (.val w') bJ)=.ok ([.tuple [.int c,U],w,B],BE S a u0 c G z5 z6 U (.val (rL xs)) (.val (rL ys)) (.val (rL xs)) (.val (rL ys)) (.ow false (.list [])) (.val (rL (aU n xs ys v))) (.val w) (.val w') bJ):=by
  have h2:e2 au (aZ (aa (eV 9) (aa (eV 15) af))) (aY bT [.m 2,.v (eC (.int 2))]) (BE S a d9 c G z5 z6 U (.val (rL xs)) (.val (rL ys)) (.val (rL xs)) (.val (rL ys)) (.ow false (.list [])) (.val (rL (aU n xs ys v))) (.val w) (.val w') bJ)=.ok (B,BE S a u0 c G z5 z6 U (.val (rL xs)) (.val (rL ys)) (.val (rL xs)) (.val (rL ys)) (.ow false (.list [])) (.val (rL (aU n xs ys v))) (.val w) (.val w') bJ):=hZ (a:=.list [rL ys,w']) rfl (iA (p:=false) (d:=d9) rfl rfl t10) ix
  generalize rL xs=X at h2 ⊢
  generalize rL ys=Y at h2 ⊢
  generalize rL (aU n xs ys v)=Z at h2 ⊢
  simp only [fE,aa,af,eV,zz1,zz0,ao,h2,if_true]
 refine(aS (ziE ea (zfo (ztO w0)) rfl n16)).trans ?_
 refine(aS ((gU (zf7 (.inl rfl))).trans rfl)).trans ?_
 refine(aS (ρ1:=BE S a u0 c G z5 z6 U (.val (rL xs)) (.val (rL ys)) (.val (rL xs)) (.val (rL ys)) (.ow false (.list [])) (.val (rL (aU n xs ys v))) (.val w) (.val w') (.ob "NoRow" [.int 1])) (ziE (ρ1:=BE S a u0 c G z5 z6 U (.val (rL xs)) (.val (rL ys)) (.val (rL xs)) (.val (rL ys)) (.ow false (.list [])) (.val (rL (aU n xs ys v))) (.val w) (.val w') (.ob "NoRow" [.int 0])) rfl (zfo (ztP gx w1)) rfl (zc2 _ _))).trans ?_
 exact(gU (zf7 (.inr rfl))).trans rfl
theorem zpb(ns:List Int)(hl:ns.length<=63):uA [.list (ns.map Bi)]=.ok (.bool true):=by
 obtain⟨x,ex⟩:=zki ns 2 (by decide) (by decide)
 replace ex:wZ [.list (ns.map Bi),.int 2]=.ok (.int x):=ex
 generalize hS:C3 (ns.map Bi)=S at ex
 obtain⟨ρ',e,_⟩:=qo (f:=Bi) (g:=gN 1) (b:=wQ)
  (fun _ ρ=>∃ y1 y2 y3 y4 y5 y6 y7 y8 y9 cw cx ck bO bM bI bJ,(Np y1/\Np y2/\Np y3/\Np y4/\Np y5/\Np y6/\Np y7/\Np y8/\Np y9/\Np cw/\Np cx/\Np ck/\Np bO/\Np bM/\Np bI/\Np bJ)/\ρ=[.val S,y1,y2,y3,y4,y5,y6,y7,y8,y9,cw,cx,ck,bO,bM,bI,bJ])
  (ns.take 2++[x]) [] (.val S::AI 16 .no) ⟨_,_,_,_,_,_,_,_,_,_,_,_,_,_,_,_,⟨bX,bX,bX,bX,bX,bX,bX,bX,bX,bX,bX,bX,bX,bX,bX,bX⟩,rfl⟩ (by
   rintro pre a post ρ _ ⟨y1,y2,y3,y4,y5,y6,y7,y8,y9,cw,cx,ck,bO,bM,bI,bJ,⟨n1,n2,n3,n4,n5,n6,n7,n8,n9,n10,n11,n12,n13,n14,n15,n16⟩,rfl⟩
   obtain⟨d,c,G,U,z5,z6,A,B,C,E,F,P,Q,m5,m6,e⟩:=zkS (S:=S) (a:=a) n2 n3 n4 n5 n6 n7 n8 n9 n10 n11 n12 n13 n14 n15 n16
   exact⟨_,.nx,uT (mD rfl n1) e,.inl rfl,_,_,_,_,_,_,_,_,_,_,_,_,_,_,_,_,⟨cT _,zhM _,cT _,cT _,m5,m6,zc2 _ _,cT _,cT _,cT _,cT _,zhM _,cT _,cT _,cT _,zc2 _ _⟩,rfl⟩)
 have sl:i3 S none (some 2)=.ok (.list ((ns.take 2).map Bi)):=by
  rw [<- hS]
  show R.ok (C3 (cut (ns.map Bi) none (some ((2:Nat):Int))))=_
  rw [zk4,IG]
 have ad:ay (.list ((ns.take 2).map Bi)) (.list [.int x])=.ok (.list ((ns.take 2++[x]).map Bi)):=by
  show aR (leB (((ns.take 2).map Bi).length+1) lim) _=_
  rw [eQ (by rw [Bc,Ew];exact ko (By (show _<=4 by omega) (by decide))),DU];rfl
 have l1:leB 1 lim=true:=by decide
 have s1:Ak (.val S::AI 16 .no)=.ok (.nx,ρ'):=by
  have it:iE (e2 ay (fW (eV 0) gi (gj (eC (.int 2)))) (aZ (aa (ak wZ (aa (eV 0) (aa (eC (.int 2)) af))) af))) (.val S::AI 16 .no)=.ok ((ns.take 2++[x]).map Bi,.val S::AI 16 .no):=by
   simp only [iE,FL.e2,fW,eV,eC,gi,gj,aZ,aa,af,ak,zz0,ao,sl,ex,aR,l1,if_true,A0,Bg,Bw,ad,iT]
  unfold Ak c7
  rw [it,ao]
  exact e
 refine gR (ρ:=ρ') rfl ?_
 show xX (.val S::AI 16 .no)=_
 unfold xX
 rw [aS s1]
 rfl
end K10
open PySem PySem.W PyProof.Rows
namespace PySem.W.Fast
theorem tw9146154481903086752:True:=trivial
theorem tw17376662961471643168:True:=trivial
theorem tw4375972022131984128:True:=trivial
theorem tw3146428355154634592:True:=trivial
theorem tw3718914332191505312:True:=trivial
theorem tw16381591373632567489:True:=trivial
theorem tw4879095833839234753:True:=trivial
theorem tw1983651799736291105:True:=trivial
theorem tw12271328313559878114:True:=trivial
theorem tw6608103299631136258:True:=trivial
theorem tw9749101757904901762:True:=trivial
theorem tw8076827642167729858:True:=trivial
theorem tw1437536605071340418:True:=trivial
theorem tw12634764598027927267:True:=trivial
theorem tw7010064482369522531:True:=trivial
theorem tw1670670478724483076:True:=trivial
theorem tw16002765141296599396:True:=trivial
theorem tw16157741587963992708:True:=trivial
theorem tw3669515118186599076:True:=trivial
theorem tw7017448357526880421:True:=trivial
theorem tw14004671132634072325:True:=trivial
theorem tw13307229444781601157:True:=trivial
theorem tw3662547887426240357:True:=trivial
theorem tw16580292771351351494:True:=trivial
theorem tw5970529243487170918:True:=trivial
theorem tw3748915630803066310:True:=trivial
theorem tw3554304142147958534:True:=trivial
theorem tw2818930319272117030:True:=trivial
theorem tw10767353462443873158:True:=trivial
theorem tw15046538967817453895:True:=trivial
theorem tw12836527806303093223:True:=trivial
theorem tw4695269607109920263:True:=trivial
theorem tw4903884456209839655:True:=trivial
theorem tw18042312873797586567:True:=trivial
theorem tw9346614825887555303:True:=trivial
theorem tw9588285005553039207:True:=trivial
theorem tw2630601643750731912:True:=trivial
theorem tw1687803614178923720:True:=trivial
theorem tw2081698474099773736:True:=trivial
theorem tw9311621487163236744:True:=trivial
theorem tw13872825068954574472:True:=trivial
theorem tw8804906792069978792:True:=trivial
theorem tw12760287083920586793:True:=trivial
theorem tw14060526046415558985:True:=trivial
theorem tw6820544767879688873:True:=trivial
theorem tw18022170946026090249:True:=trivial
theorem tw5254070332274383625:True:=trivial
theorem tw14805057098908851017:True:=trivial
theorem tw1621826266479775946:True:=trivial
theorem tw4987695505138183434:True:=trivial
theorem tw2304390811031335242:True:=trivial
theorem tw583445204455298602:True:=trivial
theorem tw2759747412726016810:True:=trivial
theorem tw11694438087294991563:True:=trivial
theorem tw18395714913754005707:True:=trivial
theorem tw1945410809918394731:True:=trivial
theorem tw2841289301665292011:True:=trivial
theorem tw433775237143201707:True:=trivial
theorem tw717007475819790251:True:=trivial
theorem tw15705987698145941451:True:=trivial
theorem tw338531974976896044:True:=trivial
theorem tw14463624817022214828:True:=trivial
theorem tw11397045085922310253:True:=trivial
theorem tw9417208424085534829:True:=trivial
theorem tw8878792885502727981:True:=trivial
theorem tw17590657269201301582:True:=trivial
theorem tw383479265619970286:True:=trivial
theorem tw7880720596110223118:True:=trivial
theorem tw6682184710945014638:True:=trivial
theorem tw15855946994600177775:True:=trivial
theorem tw5106363722428700335:True:=trivial
theorem tw10019966726477777711:True:=trivial
theorem tw15894213688521059408:True:=trivial
theorem tw17367732610635817232:True:=trivial
theorem tw11448881103654910608:True:=trivial
theorem tw17910752957241924272:True:=trivial
theorem tw2610812457792147697:True:=trivial
theorem tw12198923046677671377:True:=trivial
theorem tw11342060835459338290:True:=trivial
theorem tw5564076067592068146:True:=trivial
theorem tw11069963458757140754:True:=trivial
theorem tw16866346613978899986:True:=trivial
theorem tw1287943898825791795:True:=trivial
theorem tw3234587749698572819:True:=trivial
theorem tw17786849612854342291:True:=trivial
theorem tw11340195603289077876:True:=trivial
theorem tw9767314004168045716:True:=trivial
theorem tw1643641686976189972:True:=trivial
theorem tw7280397244214821556:True:=trivial
theorem tw11572152641786767156:True:=trivial
theorem tw1448526822760058708:True:=trivial
theorem tw14757903030471967125:True:=trivial
theorem tw16962673869650578901:True:=trivial
theorem tw1995010370250594869:True:=trivial
theorem tw8340465288260867829:True:=trivial
theorem tw6496196012117003189:True:=trivial
theorem tw3190727577471676438:True:=trivial
theorem tw7736249442417831990:True:=trivial
theorem tw5140735380216504534:True:=trivial
theorem tw16544389362868922774:True:=trivial
theorem tw2010348622644035286:True:=trivial
theorem tw2405222599298003734:True:=trivial
theorem tw7617416135776358967:True:=trivial
theorem tw9541472730977746615:True:=trivial
theorem tw15662516021875447703:True:=trivial
theorem tw6456560371795077111:True:=trivial
theorem tw8480683459221440600:True:=trivial
theorem tw9113252674665831032:True:=trivial
theorem tw8774782717559124185:True:=trivial
theorem tw12158671554967381689:True:=trivial
theorem tw17272480185708291258:True:=trivial
theorem tw9461240339124794746:True:=trivial
theorem tw563907855316561370:True:=trivial
theorem tw8839480456934016474:True:=trivial
theorem tw3638954205285651515:True:=trivial
theorem tw11459843699609598683:True:=trivial
theorem tw3348407484737999611:True:=trivial
theorem tw15213140673116522844:True:=trivial
theorem tw4178857848383967772:True:=trivial
theorem tw4878940953394634396:True:=trivial
theorem tw8024327485592558588:True:=trivial
theorem tw10318122667265831101:True:=trivial
theorem tw13287725743120361949:True:=trivial
theorem tw6365380164729692861:True:=trivial
theorem tw12831281123687995165:True:=trivial
theorem tw4516800450163148733:True:=trivial
theorem tw9614234136337966270:True:=trivial
theorem tw17653581684462878974:True:=trivial
theorem tw12173176753365850462:True:=trivial
theorem tw17966952405997709790:True:=trivial
theorem tw12436764962226626110:True:=trivial
theorem tw368505782772899678:True:=trivial
theorem tw1453415591814789982:True:=trivial
theorem tw199700735904698366:True:=trivial
theorem tw4309023839469693087:True:=trivial
theorem tw10438980929234867871:True:=trivial
theorem tw6792307089216140127:True:=trivial
theorem tw12263536590376514495:True:=trivial
theorem tw471042669399804912:True:=trivial
end PySem.W.Fast
set_option maxRecDepth 100000 in
set_option maxHeartbeats 0 in
theorem PySem.Challenge.cw_swaprest_k10_what_is_left_holds : PySem.Challenge.rw_swaprest_k10_what_is_left.Holds := by
 w_on; o_law; k_head; (case hw => w_witness2)
 k_fill
 refine K10.walk (l:=PySem.Challenge.rw_swaprest_k10_what_is_left) K10.zpb rfl rfl (by decide +kernel) rfl (fun w h Y => PySem.W.kIn_of Y) ?F
 case F =>
  intro w mg fa h KX G hmg
  refine' K10.all_mk KX G hmg ?oo0 ?oo1 ?oo2 ?oo3 ?oo4 ?oo5 ?oo6 ?oo7 ?oo8 ?oo9 ?oo10 ?oo11 ?oo12 ?oo13 ?oo14 ?oo15 ?oo16 ?oo17 ?oo18 ?oo19 ?oo20 ?oo21 ?oo22 ?oo23 ?oo24 ?oo25 ?oo26 ?oo27 ?oo28 ?oo29 ?oo30 ?oo31 ?oo32 ?oo33 ?oo34 ?oo35 ?oo36 ?oo37 ?oo38 ?oo39 ?oo40 ?oo41 ?oo42 ?oo43 ?oo44 ?oo45 ?oo46 ?oo47 ?oo48 ?oo49 ?oo50 ?oo51 ?oo52 ?oo53 ?oo54 ?oo55 ?oo56 ?oo57 ?oo58 ?oo59 ?oo60 ?oo61 ?oo62 ?oo63 ?oo64 ?oo65 ?oo66 ?oo67 ?oo68 ?oo69 ?oo70 ?oo71 ?oo72 ?oo73 ?oo74 ?oo75 ?oo76 ?oo77 ?oo78 ?oo79 ?oo80 ?oo81 ?oo82 ?oo83 ?oo84 ?oo85 ?oo86 ?oo87 ?oo88 ?oo89 ?oo90 ?oo91 ?oo92 ?oo93 ?oo94 ?oo95 ?oo96 ?oo97 ?oo98 ?oo99 ?oo100 ?oo101 ?oo102 ?oo103 ?oo104 ?oo105 ?oo106 ?oo107 ?oo108 ?oo109 ?oo110 ?oo111 ?oo112 ?oo113 ?oo114 ?oo115 ?oo116 ?oo117 ?oo118 ?oo119 ?oo120 ?oo121 ?oo122 ?oo123 ?oo124 ?oo125 ?oo126 ?oo127 ?oo128 ?oo129 ?oo130 ?oo131 ?oo132 ?oo133 ?oo134 ?oo135 ?oo136 ?oo137 ?oo138 ?oo139 ?oo140 ?oo141 ?oo142 ?oo143 ?oo144 ?oo145 ?oo146 ?oo147 ?oo148 ?oo149 ?oo150 ?oo151 ?oo152 ?oo153
  (case oo0 | oo1 | oo2 | oo3 | oo4 | oo5 | oo6 | oo7 | oo8 | oo9 | oo10 | oo11 | oo12 | oo13 | oo14 | oo15 | oo16 | oo17 | oo18 | oo19 | oo20 | oo21 | oo22 | oo23 | oo24 | oo25 | oo26 | oo27 | oo28 | oo29 | oo30 | oo31 | oo32 | oo33 | oo34 => refine' FL.zmV KX G ?Zq ?Zl ?Zc ?Zk; (case Zq => k_is); (case Zl => k_is); (case Zc => k_is); (case Zk => k_is))
  (case oo35 | oo36 | oo37 | oo38 | oo39 | oo40 | oo41 | oo42 | oo43 | oo44 | oo45 | oo46 | oo47 | oo48 | oo49 | oo50 | oo51 | oo52 | oo53 | oo54 | oo55 | oo56 | oo57 | oo58 | oo59 | oo60 | oo61 | oo62 | oo63 | oo64 | oo65 | oo66 | oo67 | oo68 | oo69 | oo70 | oo71 | oo72 | oo73 | oo74 | oo75 | oo76 | oo77 | oo78 | oo79 | oo80 | oo81 | oo82 | oo83 | oo84 | oo85 | oo86 | oo87 | oo88 | oo89 | oo90 | oo91 | oo92 | oo93 | oo94 | oo95 | oo96 | oo97 | oo98 | oo99 | oo100 | oo101 | oo102 | oo103 | oo104 | oo105 | oo106 | oo107 | oo108 | oo109 | oo110 | oo111 | oo112 | oo113 | oo116 | oo117 | oo118 | oo119 | oo120 | oo150 | oo151 | oo153 => k_is)
  (case oo152 => first | exact .inl (by k_exc) | exact .inr (by k_exc))
  (case oo115 => first | exact .inl rfl | exact .inr rfl)
  (case oo121 | oo122 | oo123 | oo124 | oo125 | oo126 | oo127 | oo128 | oo129 | oo130 | oo131 | oo132 | oo133 | oo134 | oo135 | oo136 | oo137 | oo138 | oo139 | oo140 | oo141 | oo142 | oo143 | oo144 | oo145 | oo146 | oo147 | oo148 | oo149 => kit_is)
  (case oo114 => rfl)
