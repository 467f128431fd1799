import PyProof.Rows.All
import Wide.All
import OpenK.AllK
import Wide.FinOn
import Lean
import PyProof.EqAt
import PyProof.EqKinds
import PyProof.TupleCall
import PyProof.EqLayable
import PyProof.StationsW
import PyProof.NsDelKeeps
import PyProof.ExcArgsOwn
import PyProof.ExcAttrAll.ValueError
import PyProof.ZipIter
import PyProof.EnumFor
import PyProof.EnumStmt
import PyProof.EnumMake
import PyProof.ConsumeWalk
import PyProof.Cells
import PyProof.CompUse
import PyProof.DictIter
import PyProof.DictWalks
import PyProof.CollectWalk
import PyProof.WalksS
import PyProof.P3Statements
import PyProof.DictRoadsH
import KE.KSortTup
import PyProof.P3In
import KE.KRevSl
import PyProof.ReprReads
import KE.KMinKey
import PyProof.ReprRoads
import PyProof.Conv_int_bool
import PyProof.AutoListH
import PyProof.StrCalls
import PyProof.StrCalls2
import PyProof.MeetsStr
import PyProof.StrBlock
import PyProof.FString
import PyProof.StrBlockI
import KE.KIntText
import PyProof.StrWalks
import PyProof.TupleIter
import PyProof.AttrMissHeap
import PyProof.Draws
import PyProof.Rows.CallKwBuiltin
import PyProof.CallStr
import PyProof.StrLawsTight
import PyProof.Rows.StrJoinMade
import PyProof.Rows.StrDigitsNeg
import PyProof.Rows.StrJoin2
import PyProof.Rows.CatFin
import PySem.Challenge.RW_swaprest_k77_tables_read
set_option Elab.async false
set_option linter.all false
set_option maxRecDepth 100000
set_option maxHeartbeats 4000000
open PySem renaming Value→dm,Str→gV,Addr→ir,Shared→kb,wpAny_bind→Ap,Expr→Aq,starEach→Au,wpAny→Av,model→Ax,eval→Ay,Pos→Az,Obj→AA,Heap→AD,wpAny_pure→AH,World→AJ,sizeLine→AK,Program→AO,Stmt→AU,Around→AY,Spec→AZ,backTo→A0,compareOp→A3,PyData→A4,mainGlobals→Ba,Env→Bb,Tok→Bf,bootBuiltins→Bs,wpAny_mono→Bv,FuncData→Bw,Scope→BG,IsPair→BM,cLine→BO,swapsWith→BR,sizeLine_eq→BU,binaryOp→B5,Builtin→Ce,IsZip→Cg,wpAny_holding→Ct,NameKind→Cw,wpAny_field→CA,assign→CG,wpAny_newObj_type→CY,CmpOp→CZ,assignEach→C2,rawInt→C4,Paired→Dd,pyNext→Df,foldedSetIterable→Dg,cellsFrom→Di,IsPart→Dk,wpAny_call_entry→Dl,DictEntry→Dr,sysModules→Dw,holding→Dy,behindInMarks→Dz,attributeBase→DA,mem_of_lookup→DE,call_meets→DH,codeAny→DL,backToKw→DN,keywordEach→DQ,getItem→DT,atKey→DX,bindArgs→D9,wpAny_callSpecial?_slot→Ec,Keyword→Ed,wpAny_seqItems→Ej,wpAny_truthy_bool→Er,wpAny_standAt→Es,wpAny_rule→Et,wpAny_passesOwn→Eu,typeIs_str→Ex,sliceBounds→Ey,callerA→Ez,relabel→EA,tupleKind→ER,standAt→EX,swapsWithSole→EY,swappedStores→EZ,BindsTo→E2,codeAny_mono→E4,wpAny_loadPart'→E5,notedBy→Fd,wpAny_setField_rec→Fo,PassesOwn→Fv,wpAny_Call_Name_kw→Fy,wpAny_typeOf→FA,typeIs_int→FC,wpAny_pyIter_zip→FG,wpAny_pyIter_list→FH,compEnvC→FI,wpAny_eqBool_int→F2,builtinsNs→F3,wpAny_execs_nil→F4,letOwnedTupleGo→F5,concat_meets→Gd,wpAny_pyIter_enum→Gi,wpAny_attempt→Gu,wpAny_typeNameOfWhole_keyiter→Gv,wpAny_typeNameOf_keyiter→Gw,wpAny_setField→Gx,firstArgMember→Gz,wpAny_onRaise→GJ,Within→GX,assignInOrder→GZ,recursionLimit→G6,noFill_tuple_add→G9,seq_tuple_add→Ha,call→Hk,tupleKind_room_in1→Hu,wpAny_dictEntries→HF,wpAny_dictEpoch→HG,wpAny_isInstance→HI,size_of_entries→HJ,codeAny_builtin→HK,wpAny_newList→HW,wpAny_nextOf_list_item→HY,wpAny_updateSeq_pair→HZ,wpAny_nextOf_list_end→Ib,wpAny_binaryOp_repeat_ref→IA,wpAny_letOwnedTupleGo_zip→IE,wpAny_letOwnedTupleGo_enum→IG,wpAny_comprehension_free→II
open PySem.W renaming Frag→ox,nsIn→BK,mg_none_of→B9,fnOf→Cm,findIn→CH,keepIn→Dh,emptyDict→DM,codeIn→DS,instObj→D4,kas_rev→EI,mg_of→EJ,kia_one→Fb,plainGet→Fw,isFn→Fx,lookIn→F6,hasDictIn→F7,methodObj→GY,plainGet_of→G2,plainOver→G3,takerIn→G4,makesIn→G5,callWith_K→G8,kitOne→Hm,OpenLaw→HM,handedIn→Ip,cellsFrom_some→Iq
open Int renaming gcd→Aw,ediv_mul_cancel→Cq,mul_assoc→DJ,natAbs_natCast→Eh,gcd_dvd_right→EB,mul_comm→EC,natAbs_mul→ED,ne_of_gt→EE,dvd_trans→EG,gcd_dvd_left→Fg,mul_pos→Fh,fmod_nonneg_of_pos→Fq,ediv_neg→FN,natAbs_ediv_le_natAbs→FO,toNat_natCast→FR,fmod_lt_of_pos→FZ,gcd_pos_of_ne_zero_right→Hw,lt_trichotomy→Hx,natAbs_dvd_natAbs→Hy,natCast_mul→HD,mul_neg_of_neg_of_pos→IM,eq_of_mul_eq_mul_right→IP,dvd_mul_of_dvd_right→IQ
open List renaming replicate→AB,map_cons→AQ,length_cons→AR,length_map→AW,mem_cons→AX,nil_append→A1,lookup_cons→A2,mem_map→A7,length_nil→A9,mem_cons_self→Bc,mem_cons_of_mem→Be,range→Bh,size_toArray→Bk,cons_append→Bm,getElem?_eq_getElem→Bo,set_cons_zero→Bp,set_cons_succ→Bq,getElem?_eq_some_iff→By,map_map→Bz,getElem?_set_self→BA,getElem?_set_ne→BC,length_append→BH,zip_cons_cons→BI,getElem?_map→BV,map_nil→BW,map_append→BZ,not_mem_nil→B1,mem_append→B2,getElem?_append_left→B4,mem_append_right→Cj,mem_of_getElem?→Ck,head?_cons→Cr,zip_nil_left→Cy,zip_nil_right→Cz,zipWith→CD,length_range→CM,tail_cons→CN,lookup_nil→CO,drop_succ_cons→CP,drop_zero→CQ,mem_map_of_mem→CV,nodup_cons→C0,getElem?_replicate→C1,length_set→C6,append_assoc→C7,getElem?_append_right→Dj,mem_singleton→Dp,toArray→Ds,getD_eq_getElem?_getD→Dt,append_nil→DB,length→DC,replicate_succ→DF,all_eq_true→DI,length_replicate→DR,length_singleton→DU,length_zip→DZ,mem_range→D5,filterMap_cons→D6,mem_append_left→D7,of_mem_zip→Ea,find?_cons→Ef,mem_filter→Em,lookup→Ew,flatten_cons→E8,nodup_append→Ft,foldl→FD,pairwise_cons→FW,any_eq_true→F0,length_filter_le→F1,length_take→Gb,getD→Gj,getElem?_eq_none→Gs,map_eq_nil_iff→GO,map_congr_left→GP,pairwise_map→GQ,filter_cons_of_neg→GR,filter_cons_of_pos→GU,filter_append→GV,filter_nil→GW,mem_filterMap→G1,length_drop→Hf,forIn_cons→Hn,forIn_nil→Ho,any_cons→Ht,nodup_nil→Hv,pairwise_iff_getElem→HL,take_of_length_le→HQ,zipIdx_cons→HX,perm_middle→Ih,mem_iff_getElem→Ik,getElem_zip→Il,take_append_drop→Im,contains_eq_mem→IJ,getElem?_cons_zero→IK,drop_eq_getElem_cons→IZ,countP_cons_of_neg→I0,toList_toArray→Jk,eq_of_mem_replicate→Jl,filter_sublist→Jx,zipIdx_map_fst→Jy
open PySem.PyData renaming str→AG,int→A8,bool→BE,eqv→CK,list→Dq,none→Fm,tuple→Fs,canLay0→FP,eqvAll→FY,canLayAll0→Gr,canLay0→Ju
open Nat renaming le_refl→AI,ne_of_lt→Bg,le_trans→Bj,reduceAdd→Bu,lt_of_lt_of_le→BL,zero_le→B6,sub_self→Cb,reduceSub→Ci,ne_of_gt→De,le_add_right→Ee,lt_trans→Eg,le_of_lt→Eo,zero_add→EH,min_self→EK,lt_irrefl→EV,lt_of_le_of_lt→E9,lt→Ff,gcd→Fi,toDigits→Fp,mul_comm→FE,le_of_succ_le→FJ,lt_of_not_le→FK,le_of_eq→F8,lt_succ_self→F9,add_comm→Gg,not_lt→Gm,lt_succ_of_lt→Gn,log2_lt→Hl,gcd_comm→HA,pow_le_pow_right→HB,add_sub_cancel_left→HE,pos_of_ne_zero→Ig,mul_le_mul_right→Jz
open PySem.Heap renaming lt_size→AV,get?_push_of_some→A5,get?_push_size→Bl,size_push→Cv,SameBut→Ep,get?_update_self→Hi,get?_update_other→Iw
open Bool renaming false_eq_true→A6,and_eq_true→BJ,not_true→BQ,not_false→CF,false_ne_true→C3,not_eq_true'→Gp,or_false→Hh,or_eq_true→Hr
open PySem.Str renaming join→Br,ofString→BD,empty→Cu
open PySem.Value renaming none→Bx,ref→BF,bool→Dc,int→D1,str→D2,type→D3,notImplemented→Ir
open Option.some renaming inj→BP,injEq→B7
open PySem.Obj renaming mapSeq→BX,data_mapFields→Gy,isFreed_of_fields→Je
open PyProof.Rows renaming envOfC→B3,seqObj→B8,IntsAre→CI,IsTup→Dv,AllBare→Dx,callWith_type1→E1,slot_tuple_getitem→E7,listUpdate_at→FU,get?_update_seq→GC,assignInOrder_cons→G0,subscriptTail→Hg,signs_ofString→Jt
open Ne renaming symm→Cd
open Option renaming getD_none→Cp,map_some→CC,getD_some→CU,map_eq_some_iff→C8,bind_eq_some_iff→DK,isSome_some→IH,isSome_map→IL
open PySem.NameKind renaming cell→CB,free→DW
open PySem.SeqAt renaming shaped→CJ,canLay_of_shaped→C9
open False renaming elim→CW
open PySem.Builtin.Str renaming occurrences→C5,partsBetween→HR,strKind→Jm
open Or renaming inr→Dm,inl→DV
open PySem.Txt renaming split→Du,startswith→Fn,join→GD,slice→GH
open PySem.Heap.SameBut renaming update→DY
open Sum renaming inl→D0,inr→El
open True renaming intro→D8
open PySem.Builtin.SmallTypes renaming nextOf→Ei,ownedTupleIsFree→Jq
open Prod.mk renaming inj→Ek
open PySem.Paired renaming length→EL
open Array renaming length_toList→EW,getElem?_eq_getElem→Fe,getD→GA,perm_iff_toList_perm→GB,getElem?_eq_none→HH,toList_inj→HP,getElem?_toList→Jj
open Prod renaming ext→E6
open ForInStep renaming yield→Fc
open Iff renaming rfl→Fj
open PyProof.Rows.IsTup renaming new→Fu
open PySem.F renaming slot_dict_keyiterator_next→FQ,slot_tuple_iterator_next→GI,slot_zip_next→GK,slot_str_partition→GL,type_str_partition→GN,slot_tuple_add→Hb,entry_tuple_add→Hc,args_tuple_add_2→Hd,slot_tuple_mul→HC,slot_str_split→HS,entry_str_split→HU,args_str_split_2→HV,called_enumerate→Ie,slot_tuple_rmul→IU,slot_int_rmul→IX,plainAttrs_list→IY,entry_dict_keyiterator_next→Jb,args_dict_keyiterator_next_1→Jc,entry_tuple_iterator_next→Jo,args_tuple_iterator_next_1→Jp,slot_str_split→Jr,type_str_split→Js
open PySem.W.KasT renaming kasWp_bind→FT
open List.cons renaming injEq→FX
open PySem.Around renaming under→Ga,under_plainId→Jg
open PySem.Builtin.Slice renaming slicePlaces→Ge,sliceAdjust→He,sliceApplied→Iu
open PySem.Builtin.Tuple renaming tupleExact→Gf,tupleItemsOf→Iv,tupleTooMany→IV,tupleIsExact→IW
open PySem.Builtin.Int renaming intBits→Gh,intTooBig→IC
open Rat renaming normalize→Gq,sub_eq_add_neg→Ii,add_zero→Ij
open PySem.Code renaming isFrame→G7
open PySem.Builtin.List renaming listTooLong→Hj,listFitsIndex→Iy,listSameRef→Jh,listExtendWith→Ji
open PySem.PassesOwn renaming never→HN
open PySem.AutoSeq1 renaming wpAny_loadPart'→Ic
open PySem.Calls renaming Name_function_global→Io,call_function_entry→Jn
open List.Pairwise renaming nil→IB
open PySem.Builtin.Dict renaming showsAll→Ja
open PySem.Builtin.Dict_items renaming ownsTuple→Jd
open Array.Perm renaming refl→Jf
open PySem.StrLaws renaming occ_head→Jv
open List.Perm renaming refl→Jw
open List.Sublist renaming refl→JA
set_option bootstrap.genMatcherCode false
noncomputable section
namespace L2
open PySem PySem.Spec PyProof.Rows
section
abbrev Key:=Sum Int gV
noncomputable def rR:Key->dm->Bool
 | .inl k,v=>Value.isInt k v
 | .inr x,v=>Value.isStrOf x v
noncomputable def znL(w:AJ):Key->Int
 | .inl k=>hashInt k
 | .inr x=>hashStr w x
theorem mW:∀{k:Key} {v:dm},rR k v=true->(∃ i t,k=D0 i/\v=D1 i t)\/(∃ x t,k=El x/\v=D2 x t)
 | .inl i,v,h=>by
  obtain⟨t,e⟩:=Value.isInt_shape (k:=i) (v:=v) h
  exact .inl ⟨i,t,rfl,e⟩
 | .inr x,v,h=>by
  obtain⟨t,e⟩:=Value.isStrOf_shape (x:=x) (v:=v) h
  exact .inr ⟨x,t,rfl,e⟩
theorem znM(i:Int)(t:Bf):rR (.inl i) (.int i t)=true:=by simp [rR,Value.isInt]
theorem znN(x:gV)(t:Bf):rR (.inr x) (.str x t)=true:=by simp [rR,Value.isStrOf]
theorem znO(a b:Int):decide ((D0 a:Key)=D0 b)=(a==b):=by
 by_cases e:a=b
 ·subst e;simp
 ·have h:¬ (D0 a:Key)=D0 b:=fun q=>e (Sum.inl.inj q)
  rw [decide_eq_false h]
  exact(beq_eq_false_iff_ne.mpr e).symm
theorem znR(a b:gV):decide ((El a:Key)=El b)=decide (a=b):=by
 by_cases e:a=b
 ·subst e;simp
 ·have h:¬ (El a:Key)=El b:=fun q=>e (Sum.inr.inj q)
  rw [decide_eq_false h,decide_eq_false e]
theorem znP(a:Int)(b:gV):decide ((D0 a:Key)=El b)=false:=decide_eq_false (fun q=>nomatch q)
theorem znQ(a:gV)(b:Int):decide ((El a:Key)=D0 b)=false:=decide_eq_false (fun q=>nomatch q)
def j8(prog:AO)(w:AJ):PySem.KeyKind prog w Key where
 is:=rR
 hash:=znL w
 inj:=fun v a b ha hb=>by
  rcases mW ha with⟨i,t,rfl,rfl⟩|⟨x,t,rfl,rfl⟩
  ·rcases mW hb with⟨j,u,rfl,e⟩|⟨y,u,rfl,e⟩
   ·injection e with e1 _;rw [e1]
   ·exact nomatch e
  ·rcases mW hb with⟨j,u,rfl,e⟩|⟨y,u,rfl,e⟩
   ·exact nomatch e
   ·injection e with e1 _;rw [e1]
 byValue:=fun k v h=>by
  rcases mW h with⟨i,t,rfl,rfl⟩|⟨x,t,rfl,rfl⟩ <;> rfl
 pyHash:=fun hv h=>by
  rcases mW hv with⟨i,t,rfl,rfl⟩|⟨x,t,rfl,rfl⟩
  ·exact wpAny_pyHash_int h
  ·exact wpAny_pyHash_str h
 eqBool:=fun hu hv h=>by
  rcases mW hu with⟨i,t,rfl,rfl⟩|⟨x,t,rfl,rfl⟩
  ·rcases mW hv with⟨j,u,rfl,rfl⟩|⟨y,u,rfl,rfl⟩
   ·rw [znO] at h;exact F2 h
   ·rw [znP] at h;exact SeqAt.EqAt.int_str i t y u _ _ _ _ h
  ·rcases mW hv with⟨j,u,rfl,rfl⟩|⟨y,u,rfl,rfl⟩
   ·rw [znQ] at h;exact SeqAt.EqAt.str_int x t j u _ _ _ _ h
   ·rw [znR] at h;exact wpAny_eqBool_str h
 «strs»:=fun k x t v h=>by
  rcases mW h with⟨i,u,rfl,e⟩|⟨y,u,rfl,e⟩
  ·exact nomatch e
  ·injection e with e1 _
   subst e1
   cases v <;> rfl
theorem zot(prog:AO)(w:AJ)(i:Int)(t:Bf):(j8 prog w).is (.inl i) (.int i t)=true:=znM i t
theorem zou(prog:AO)(w:AJ)(x:gV)(t:Bf):(j8 prog w).is (.inr x) (.str x t)=true:=znN x t
end
variable {P:AO}{a b e x:ir}{H H':Hp}{xs:List V}{ob:AA}{o o' u:HO}{h h':AD}{us:List dm}{w:AJ}
section
inductive V where
 | non|bl(b:Bool)|int(i:Int)|str(x:gV)|byt(b:Array UInt8)|eD(b:UInt64)|ref(a:ir)|ty(n:String)
 deriving DecidableEq
noncomputable def RelV:V->dm->Prop
 | .non,u=>u=Bx
 | .bl b,u=>u=Dc b
 | .int i,u=>∃ t,u=D1 i t
 | .str x,u=>∃ t,u=D2 x t
 | .byt b,u=>∃ t,u=Value.bytes b t
 | .eD b,u=>∃ t,u=Value.float b t
 | .ref a,u=>u=BF a
 | .ty n,u=>u=D3 n
abbrev Vals:List V->List dm->Prop:=Dd RelV
theorem Vals.length(r:Vals xs us):xs.length=us.length:=EL r
theorem Vals.get:∀{xs:List V} {us:List dm} {i:Nat} {x:V},Vals xs us->xs[i]?=some x->∃ u,us[i]?=some u/\RelV x u
 | _,_,_,_,.nil,e=>by simp at e
 | _,_,0,_,.cons r _,e=>by simp at e;subst e;exact⟨_,rfl,r⟩
 | _,_,i+1,x,.cons _ t,e=>by
  obtain⟨u,h1,h2⟩:=Vals.get (i:=i) (x:=x) t (by simpa using e)
  exact⟨u,by simpa using h1,h2⟩
theorem Vals.set{x:V}{u:dm}(r:RelV x u):∀{xs:List V} {us:List dm} (i:Nat),Vals xs us->Vals (xs.set i x) (us.set i u)
 | _,_,_,.nil=>.nil
 | _,_,0,.cons _ t=>.cons r t
 | _,_,i+1,.cons q t=>.cons q (Vals.set r i t)
theorem Vals.append:∀{xs ys:List V} {us ws:List dm},Vals xs us->Vals ys ws->Vals (xs++ys) (us++ws)
 | _,_,_,_,.nil,s=>s
 | _,_,_,_,.cons r t,s=>.cons r (Vals.append t s)
theorem Vals.take:∀{xs:List V} {us:List dm} (n:Nat),Vals xs us->Vals (xs.take n) (us.take n)
 | _,_,0,_=>.nil
 | _,_,_+1,.nil=>.nil
 | _,_,n+1,.cons r t=>.cons r (Vals.take n t)
theorem Vals.drop:∀{xs:List V} {us:List dm} (n:Nat),Vals xs us->Vals (xs.drop n) (us.drop n)
 | _,_,0,r=>r
 | _,_,_+1,.nil=>.nil
 | _,_,n+1,.cons _ t=>Vals.drop n t
def i3:Option V->Option dm->Prop
 | some v,some u=>RelV v u
 | none,none=>True
 | _,_=>False
def KV{κ:Type}:List (κ×V)->List (κ×dm)->Prop:=Dd fun(p:κ×V) (q:κ×dm)=>p.1=q.1/\RelV p.2 q.2
noncomputable def kV:Key->V
 | .inl i=>.int i
 | .inr x=>.str x
inductive HO where
 /-- a list -/
 | lst(xs:List V)
 /-- a tuple(never changes) -/
 | tup(xs:List V)
 /-- a dict whose keys are ints and texts;one whose keys are tuples of ints and texts(the empty one is both) -/
 | dK(ag:List (Key×V))|dT(ag:List (List Key×V))
 /-- a set of ints: its members,its size -/
 | set (S:Int->Bool) (n:Nat)
 /-- an instance of the class at C,its dict at dx,its attributes -/
 | ins (C dx:ir) (fs:List (gV×V))
 /-- the dict of the instance at x -/
 | own (x:ir)
 /-- the dict of an exception -/
 | xd (fs:List (gV×V))
 /-- a bound method,f of x -/
 | met (f x:ir)
 /-- a range object lo,lo+1,.. below hi -/
 | de (lo hi:Int)
 /-- a thing that is known to the object (the script;a dict while a loop walks it): read,never written while it is so -/
 | frz (o:AA) (u:HO)
 /-- a code object's table -/
 | tbl (ps:Array dm)
 /-- any other thing,by what is true of its one object (a def of one's own: SetO a S n:=HO.ext fun h=>..) -/
 | ext (φ:AD->Prop)
abbrev Hp:=ir->Option HO
noncomputable def upd(H:Hp)(a:ir)(o:HO):Hp:=fun b=>if b=a then some o else H b
theorem cN:upd H a o a=some o:=by unfold upd;rw [if_pos rfl]
theorem bh(h:b≠a):upd H a o b=H b:=by unfold upd;rw [if_neg h]
theorem ztb:upd (upd H a o) a u=upd H a u:=by
 funext b;unfold upd;split <;> rfl
theorem zgF(h:H a=some o)(h':H b=some u)(d:o≠u):a≠b:=by
 intro e;subst e;rw [h] at h';exact d (BP h')
theorem p9(h:H a=some o)(h':H b=none):a≠b:=by
 intro e;subst e;rw [h] at h';cases h'
def dH(H:Hp)(b:ir)(xs:List V):Prop:=H b=some (.tup xs)\/∃ o,H b=some (.frz o (.tup xs))
theorem dH.upd(q:dH H b xs)(n1:∀ ys,H b=some (.tup ys)->b≠a)(n2:∀ o ys,H b=some (.frz o (.tup ys))->b≠a):dH (upd H a u) b xs:=by
 rcases q with q|⟨o,q⟩
 ·left;rw [bh (n1 _ q)];exact q
 ·right;exact⟨o,by rw [bh (n2 _ _ q)];exact q⟩
section
variable (P:AO)(w:AJ)
def dq(H:Hp)(h:AD)(a:ir):HO->Prop
 | .lst xs=>xs.length<=AK/\∃(its:List dm) (n:Nat),Vals xs its/\h.get? a=some { cls:=.type "list",data:=.seq its.toArray n }
 | .tup xs=>xs.length<=AK/\∃ its:List dm,Vals xs its/\Dv h a its.toArray
 | .dK ag=>ag.length<=AK/\(a==Dw)=false/\∃ vs,KV ag vs/\h.DictOf (j8 P w) a vs
 | .dT ag=>ag.length<=AK/\(a==Dw)=false/\∃ xs:List (List Key×ir×dm),
   Dd (fun(p:List Key×V) (q:List Key×ir×dm)=>p.1=q.1/\dH H q.2.1 (p.1.map kV)/\RelV p.2 q.2.2) ag xs /\
   ∃ o es ep,h.get? a=some o/\o.ExactDict/\o.data=.dict es ep/\es.toList=xs.map (entryOfKey (ER (j8 P w)))/\(xs.map (·.1)).Nodup
 | .set S n=>h.SetOf (intKind P w) a S n
 | .ins C dx fs=>H dx=some (.own a)/\fs.length<=1000/\dx≠a/\h.get? a=some (D4 C dx) /\
   ∃ mA,h.Ns1 dx mA/\(∀ f,i3 (fs.lookup f) (mA f))/\GX mA (fs.map (·.1))
 | .own _=>∃ o,h.get? a=some o
 | .xd fs=>∃ mA,h.Ns1 a mA/\∀ f,i3 (fs.lookup f) (mA f)
 | .de lo hi=>∃ t u v,h.get? a=some { cls:=.type "range",data:=.fields #[.int lo t,.int hi u,.int 1 v] }
 | .frz o u=>h.get? a=some o/\dq H h a u
 | .tbl ps=>h.get? a=some { cls:=.none,data:=.fields ps }
 | .met f x=>h.get? a=some (GY (.ref f) (.ref x))
 | .ext φ=>φ h/\(∃ o,h.get? a=some o)/\∀ h1 h2:AD,φ h1->(∀ o,h1.get? a=some o->h2.get? a=some o)->φ h2
def cW(H:Hp)(h:AD):Prop:=∀ a o,H a=some o->dq P w H h a o
end
section
theorem dq.lt(x:dq P w H h a o):a<h.objs.size:=by
 cases o with
 | lst xs=>obtain⟨_,_,_,_,e⟩:=x;exact AV e
 | tup xs=>obtain⟨_,_,_,p⟩:=x;exact p.lt
 | dK ag=>obtain⟨_,_,_,_,o,_,_,e,_⟩:=x;exact AV e
 | dT ag=>obtain⟨_,_,_,_,o,_,_,e,_⟩:=x;exact AV e
 | set S n=>obtain⟨o,_,_,_,e,_⟩:=x;exact AV e
 | ins C dx fs=>obtain⟨_,_,_,e,_⟩:=x;exact AV e
 | own y=>obtain⟨_,e⟩:=x;exact AV e
 | xd fs=>obtain⟨_,⟨_,_,_,e,_⟩,_⟩:=x;exact AV e
 | de lo hi=>obtain⟨_,_,_,e⟩:=x;exact AV e
 | frz ob u=>obtain⟨e,_⟩:=x;exact AV e
 | tbl ps=>exact AV (show h.get? a=some _ from x)
 | met f y=>exact AV (show h.get? a=some _ from x)
 | ext φ=>obtain⟨_,⟨_,e⟩,_⟩:=x;exact AV e
theorem Dd.zcl{α β:Type}{F G:α->β->Prop}:∀{l₁:List α} {l₂:List β},Dd F l₁ l₂->(∀ a b,F a b->G a b)->Dd G l₁ l₂
 | _,_,.nil,_=>.nil
 | _,_,.cons r t,f=>.cons (f _ _ r) (Dd.zcl t f)
theorem dq.lX(x:dq P w H h a o)(k:∀ b u,(b=a\/H b=some (.own a))->h.get? b=some u->h'.get? b=some u)
  (ho:∀ b,H b=some (.own a)->H' b=some (.own a))(ht:∀ b xs,dH H b xs->dH H' b xs):dq P w H' h' a o:=by
 induction o with
 | lst xs=>obtain⟨z,its,n,r,e⟩:=x;exact⟨z,its,n,r,k _ _ (.inl rfl) e⟩
 | tup xs=>obtain⟨z,its,r,ob,e,c⟩:=x;exact⟨z,its,r,ob,k _ _ (.inl rfl) e,c⟩
 | dK ag=>obtain⟨z,y,vs,r,ob,es,ep,e,c⟩:=x;exact⟨z,y,vs,r,ob,es,ep,k _ _ (.inl rfl) e,c⟩
 | dT ag =>
  obtain⟨z,y,xs,r,ob,es,ep,e,c⟩:=x
  exact⟨z,y,xs,Dd.zcl r fun p q z=>⟨z.1,ht _ _ z.2.1,z.2.2⟩,ob,es,ep,k _ _ (.inl rfl) e,c⟩
 | set S n=>obtain⟨ob,es,ep,t,e,c⟩:=x;exact⟨ob,es,ep,t,k _ _ (.inl rfl) e,c⟩
 | ins C dx fs =>
  obtain⟨d,z,ne,e,mA,⟨od,es,ep,e2,c⟩,r⟩:=x
  exact⟨ho _ d,z,ne,k _ _ (.inl rfl) e,mA,⟨od,es,ep,k _ _ (.inr d) e2,c⟩,r⟩
 | own y=>obtain⟨ob,e⟩:=x;exact⟨ob,k _ _ (.inl rfl) e⟩
 | xd fs=>obtain⟨mA,⟨od,es,ep,e,c⟩,r⟩:=x;exact⟨mA,⟨od,es,ep,k _ _ (.inl rfl) e,c⟩,r⟩
 | de lo hi=>obtain⟨t,u,v,e⟩:=x;exact⟨t,u,v,k _ _ (.inl rfl) e⟩
 | frz ob u ih=>obtain⟨e,q⟩:=x;exact⟨k _ _ (.inl rfl) e,ih q⟩
 | tbl ps =>
  have e:h.get? a=some { cls:=.none,data:=.fields ps }:=x
  show h'.get? a=some { cls:=.none,data:=.fields ps }
  exact k a _ (.inl rfl) e
 | met f y =>
  have e:h.get? a=some (GY (.ref f) (.ref y)):=x
  show h'.get? a=some (GY (.ref f) (.ref y))
  exact k a _ (.inl rfl) e
 | ext φ=>obtain⟨p,⟨o,e⟩,st⟩:=x;exact⟨st _ _ p fun o q=>k _ _ (.inl rfl) q,⟨o,k _ _ (.inl rfl) e⟩,st⟩
theorem cW.lt(x:cW P w H h)(e:H a=some o):a<h.objs.size:=(x a o e).lt
theorem cW.fresh(x:cW P w H h)(e:h.objs.size<=a):H a=none:=by
 cases q:H a with
 | none=>rfl
 | some u=>exact absurd (BL (x.lt q) e) (EV _)
theorem cW.kept(x:cW P w H h)(k:∀ b u,h.get? b=some u->h'.get? b=some u):cW P w H h':=fun a o e =>
 (x a o e).lX (fun b u _ q=>k b u q) (fun _ q=>q) fun _ _ q=>q
theorem cW.laid(x:cW P w H h)(k:∀ b u,h.get? b=some u->h'.get? b=some u)(hp:h.objs.size<=a)(new:dq P w (upd H a o) h' a o):cW P w (upd H a o) h':=fun b u e=>by
 have hn:=x.fresh hp
 by_cases hb:b=a
 ·subst hb;rw [cN] at e;cases e;exact new
 ·rw [bh hb] at e
  exact(x b u e).lX (fun c v _ q=>k c v q) (fun c q=>by rw [bh (p9 q hn)];exact q) fun c xs q=>q.upd (fun _ r=>p9 r hn) fun _ _ r=>p9 r hn
end
def Rd(H:Hp)(a:ir)(u:HO):Prop:=H a=some u\/∃ o,H a=some (.frz o u)
theorem Rd.ok(r:Rd H a u)(x:cW P w H h):dq P w H h a u:=by
 rcases r with r|⟨o,r⟩
 ·exact x a u r
 ·obtain⟨_,q⟩:=x a _ r
  exact q
noncomputable def uc:Option HO->Prop
 | some (.lst _)=>True
 | some (.dK _)=>True
 | some (.dT _)=>True
 | some (.set _ _)=>True
 | some (.ins _ _ _)=>True
 | some (.ext _)=>True
 | _=>False
section
theorem cW.write(ok:cW P w H h)(mu:uc (H x))(he:e=x\/H e=some (.own x))(k:∀ b u,b≠e->h.get? b=some u->h'.get? b=some u)(rJ:∃ u,h'.get? e=some u)
  (new:dq P w (upd H x o') h' x o'):cW P w (upd H x o') h':=fun b u q=>by
 have zgN:∀ c y,H c=some (.own y)->c≠x:=fun c y r z=>by subst z;rw [r] at mu;exact mu
 have zoS:∀ c xs,H c=some (.tup xs)->c≠x:=fun c xs r z=>by subst z;rw [r] at mu;exact mu
 by_cases hb:b=x
 ·subst hb;rw [cN] at q;cases q;exact new
 ·rw [bh hb] at q
  by_cases hbe:b=e
  ·have q':H b=some (.own x):=by
    rcases he with z|z
    ·exact absurd (hbe.trans z) hb
    ·rw [hbe];exact z
   rw [q] at q';cases q'
   obtain⟨v,hv⟩:=rJ
   exact⟨v,by rw [hbe];exact hv⟩
  ·refine(ok b u q).lX (fun c v hc r=>k c v ?_ r) (fun c r=>by rw [bh (zgN c b r)];exact r) fun c xs r=>r.upd (fun ys z=>zoS c ys z) fun o ys z e=>by subst e;rw [z] at mu;exact mu
   rcases hc with rfl|hc
   ·exact hbe
   ·rintro rfl
    rcases he with z|z
    ·exact zgN c b hc z
    ·rw [hc] at z;cases z;exact hb rfl
end
structure Un(fs ex:List ir)(H H':Hp)(h h':AD):Prop where
 keep:∀ b o,h.get? b=some o->H b=none->b∉fs->b∉ex->h'.get? b=some o
 slot:∀ b o,h.get? b=some o->H b=none->b∈fs->b∉ex->∃ sl,h'.get? b=some { o with slots:=sl }
 free:∀ b o,h.get? b=some o->H b=none->b∉ex->H' b=none
 there:∀ b o,h.get? b=some o->b∉ex->∃ o',h'.get? b=some o'
 kx:∀ b xs,H b=some (.tup xs)->H' b=some (.tup xs)
 kL:∀ b o u,H b=some (.frz o u)->H' b=some (.frz o u)
 lY:∀ b ps,H b=some (.tbl ps)->∃ more,H' b=some (.tbl (ps++more))
section
variable {fs pD ex ex':List ir}{H1 H2:Hp}{h1 h2:AD}
theorem Un.any(u:Un fs ex H H1 h h1)(q:h.get? b=some ob)(n:H b=none)(hx:b∉ex):∃ sl,h1.get? b=some { ob with slots:=sl }:=by
 by_cases hb:b∈fs
 ·exact u.slot b ob q n hb hx
 ·exact⟨ob.slots,u.keep b ob q n hb hx⟩
theorem Un.kept(k:∀ b u,h.get? b=some u->h'.get? b=some u):Un fs ex H H h h' :=
 ⟨fun b ob q _ _ _=>k b ob q,fun b ob q _ _ _=>⟨ob.slots,k b ob q⟩,fun _ _ _ n _=>n,fun b ob q _=>⟨ob,k b ob q⟩,fun _ _ q=>q,fun _ _ _ q=>q,fun _ ps q=>⟨#[],by rw [q];simp⟩⟩
theorem Un.refl:Un fs ex H H h h:=Un.kept fun _ _ q=>q
theorem Un.laid(k:∀ b u,h.get? b=some u->h'.get? b=some u)(hp:h.objs.size<=a)(hn:H a=none):Un fs ex H (upd H a o) h h' where
 keep:=fun b u q _ _ _=>k b u q
 slot:=fun b u q _ _ _=>⟨u.slots,k b u q⟩
 free:=fun b u q n _=>by rw [bh (Bg (BL (AV q) hp))];exact n
 there:=fun b u q _=>⟨u,k b u q⟩
 kx:=fun b xs q=>by rw [bh (p9 q hn)];exact q
 kL:=fun b u xs q=>by rw [bh (p9 q hn)];exact q
 lY:=fun b ps q=>⟨#[],by rw [bh (p9 q hn),q];simp⟩
theorem Un.write(mu:uc (H x))(he:e=x\/H e=some (.own x))(k:∀ b u,b≠e->h.get? b=some u->h'.get? b=some u)(rJ:∃ u,h'.get? e=some u):Un fs ex H (upd H x o) h h':=by
 have hx:∀ b,H b=none->b≠x:=fun b n z=>by subst z;rw [n] at mu;exact mu
 have hb:∀ b,H b=none->b≠e:=fun b n z=>by
  subst z
  rcases he with r|r
  ·exact hx b n r
  ·rw [n] at r;cases r
 have hm:∀ b u,H b=some u->¬ uc (some u)->b≠x:=fun b u q nm z=>by subst z;rw [q] at mu;exact nm mu
 refine⟨fun b u q n _ _=>k b u (hb b n) q,fun b u q n _ _=>⟨u.slots,k b u (hb b n) q⟩,fun b u q n _=>by rw [bh (hx b n)];exact n,fun b u q _=>?_,
  fun b xs q=>by rw [bh (hm b _ q fun z=>z)];exact q,fun b u xs q=>by rw [bh (hm b _ q fun z=>z)];exact q,fun b ps q=>⟨#[],by rw [bh (hm b _ q fun z=>z),q];simp⟩⟩
 by_cases hbe:b=e
 ·subst hbe;exact rJ
 ·exact⟨u,k b u hbe q⟩
end
noncomputable def zO(h:AD)(H:Hp):List ir:=(Bh h.objs.size).filter fun a=>(H a).isSome
def mP(h:AD)(H:Hp):AD:=PySem.W.hideAll h (zO h H)
theorem zmc(h:AD)(H:Hp):(mP h H).objs.size=h.objs.size:=PySem.W.hideAll_size _ _
theorem zmb{o:AA}(e:h.get? b=some o)(n:H b=none):(mP h H).get? b=some o :=
 PySem.W.hideAll_get _ e fun hm=>by
  have q:(H b).isSome=true:=(Em.mp hm).2
  rw [n] at q;simp at q
theorem zo5{o:AA}(e:(mP h H).get? b=some o):h.get? b=some o/\H b=none:=by
 have e':h.get? b=some o:=PySem.W.of_hideAll (zO h H) e
 refine⟨e',?_⟩
 cases q:H b with
 | none=>rfl
 | some x =>
  have hm:b∈zO h H:=Em.mpr ⟨D5.mpr (AV e'),by simp [q]⟩
  have z:(mP h H).get? b=none:=PySem.W.hideAll_none (zO h H) hm
  rw [z] at e;cases e
noncomputable def zjo(g h:AD)(L:ir):List (ir×AA):=(Bh h.objs.size).filterMap fun a=>if a=L\/(g.get? a).isSome=true then none else(h.get? a).map fun o=>(a,o)
def rest(g h:AD)(L d:ir):List (ir×AA):=(zjo g h L).filter fun p=>decide (p.1≠d)
end
variable {d':Drawn}{pins zg8:List (ir×AA)}{i j t':Nat}{Q:Unit->kb->Prop}{it:ir}{s s':kb}{g':Array GenState}{v:V}{A:AY}{σ σ':List (Option V)}{ch:List ir}{N:List gV}{α:Type}{E:dm->kb->Prop}{X:Cx}{t:TT}{e:Aq}{x:gV}{M:Model}{u:dm}{o:AA}
section
structure Mod(K:ox)(mg:gV->Option dm)(base:AD):Prop where
 vo:K.In base
 glob:base.Ns Ba mg
 blt:∃ mb,base.Ns F3 mb/\∀ x:gV,x ≠ "__name__"->mb x=Bs x
 nolimit:base.NoLimit
 seer:base.NoSeer
def zjg(l:List Bb):Prop:=∃ env r,l=env::r/\env.scope.isGenerator=false/\env.scope.isCoroutine=false/\env.builtins=F3/\env.globals=Ba
structure Cx where
 prog:AO
 w:AJ
 K:ox
 mg:gV->Option dm
 base:AD
 A:AY
 N:List gV
 s₀:kb
 H₀:Hp
 env:Bb
 outer:List Bb
 stack:List Bb
 ex:List ir
 fn:gV->Bool
 calm:Bool
 pn:List (ir×AA)
 xe:dm->kb->Prop
noncomputable def gU(l:List Bb):List ir:=l.filterMap (·.frame)
abbrev Cx.fs(X:Cx):List ir:=gU X.outer
def w4(sc:BG)(x:gV):Prop:=sc.names.lookup x=some .local\/sc.names.lookup x=some .cell\/sc.names.lookup x=some .free
def Loc(sc:BG)(x:gV):Prop:=sc.names.lookup x=some .local\/sc.names.lookup x=some .cell
def Look(env:Bb)(h:AD)(m:gV->Option dm)(x:gV)(u:dm):Prop :=
 (env.kindOf x=some .local/\m x=some u)\/((env.kindOf x=some .cell\/env.kindOf x=some .free)/\∃ c,env.cells.lookup x=some c/\h.IsCell c (some u))
structure Cx.Ok(X:Cx):Prop where
 mod:Mod X.K X.mg X.base
 kind:X.env.scope.kind=.function
 glob:X.env.globals=Ba
 blt:X.env.builtins=F3
 above:X.s₀.heap.objs.size<=X.env.locals
 inj:∀ x y c,X.env.cells.lookup x=some c->X.env.cells.lookup y=some c->x=y
 has:∀ x,(X.env.kindOf x=some .cell\/X.env.kindOf x=some .free)->∃ c,X.env.cells.lookup x=some c
 pe:∀ x c,X.fn x=true->X.env.cells.lookup x=some c->X.s₀.heap.objs.size<=c
 hd:X.calm=true->X.A.handled=none
 frames:X.A.frames=some X.stack
 sR:X.stack=X.outer\/(X.stack=X.env::X.outer/\X.env.frame=some X.env.locals)
 nP:∀ b∈X.ex,b≠X.env.locals/\∀ x c,X.env.cells.lookup x=some c->c≠b
 bs:∀ b o,X.base.get? b=some o->X.s₀.heap.get? b=some o/\X.H₀ b=none
 lH:X.base.objs.size<=X.s₀.heap.objs.size
 qa:∀ b o,X.base.get? b=some o->b∉X.ex
 nQ:∀ b∈X.ex,b∉X.fs
 jh:X.s₀.heap.FunFrames X.base X.outer
 mN:∀ b∈X.fs,X.H₀ b=none
 tree:X.prog.given.tree=none
 sk:zjg X.stack
structure Inv(X:Cx)(pins:List (ir×AA))(σ:List (Option V))(H:Hp)(s:kb):Prop where
 ok:X.Ok
 os:s.os=X.s₀.os
 bare:Dx s.gens
 base:Un X.fs X.ex X.H₀ H X.s₀.heap s.heap
 loc:∃ m,s.heap.Ns X.env.locals m/\∀(i:Nat) (x:gV) (v:V),X.N[i]?=some x->σ[i]?=some (some v)->w4 X.env.scope x->∃ u,RelV v u/\Look X.env s.heap m x u
 cell:∀ x c,X.env.cells.lookup x=some c->∃ v,s.heap.IsCell c v
 free:H X.env.locals=none
 jK:∀ x c,X.env.cells.lookup x=some c->H c=none
 pin:∀ p∈X.pn++pins,s.heap.get? p.1=some p.2/\H p.1=none/\p.1≠X.env.locals/\p.1∉X.fs/\∀ v,p.2.data≠.cell v
 az:cW X.prog X.w H s.heap
 len:σ.length=X.N.length
section
theorem Cx.Ok.zoI(ok:X.Ok)(e:X.base.get? b=some o):b∉X.fs:=fun hb=>by
 have:=(ok.jh.mem hb).1
 rw [e] at this;cases this
theorem Inv.bs(I:Inv X pins σ H s):∀ b o,X.base.get? b=some o->s.heap.get? b=some o/\H b=none:=fun b o e =>
 ⟨I.base.keep b o (I.ok.bs b o e).1 (I.ok.bs b o e).2 (I.ok.zoI e) (I.ok.qa b o e),I.base.free b o (I.ok.bs b o e).1 (I.ok.bs b o e).2 (I.ok.qa b o e)⟩
theorem Inv.bk(I:Inv X pins σ H s):∀ b o,X.base.get? b=some o->s.heap.get? b=some o:=fun b o e=>(I.bs b o e).1
theorem Inv.mod(I:Inv X pins σ H s):Mod X.K X.mg X.base:=I.ok.mod
theorem Inv.fX(I:Inv X pins σ H s):X.K.In s.heap:=I.ok.mod.vo.keeps I.bk
theorem Inv.nolimit(I:Inv X pins σ H s):s.heap.NoLimit:=I.ok.mod.nolimit.keeps I.bk
theorem Inv.lt(I:Inv X pins σ H s):X.env.locals<s.heap.objs.size:=let⟨_,hn,_⟩:=I.loc;hn.lt
theorem Inv.sz(I:Inv X pins σ H s):X.s₀.heap.objs.size<=s.heap.objs.size:=Bj I.ok.above (Eo I.lt)
theorem Inv.zoK(I:Inv X pins σ H s)(h:s.heap.objs.size<=a):a∉X.fs:=fun hb=>by
 obtain⟨_,o,ho,_⟩:=I.ok.jh.mem hb
 exact absurd (BL (AV ho) (Bj I.sz h)) (EV _)
theorem Inv.ph(I:Inv X pins σ H s):∀ x c,X.env.cells.lookup x=some c->c≠X.env.locals:=fun x c e z=>by
 obtain⟨v,o,ho,hd⟩:=I.cell x c e
 obtain⟨m,⟨o',es,ep,fT,jN,_⟩,_⟩:=I.loc
 rw [z,fT] at ho;cases ho;rw [jN] at hd;cases hd
theorem Inv.jh(I:Inv X pins σ H s):s.heap.FunFrames X.base X.outer:=by
 have all:∀(l:List Bb),(∀ b∈gU l,b∈X.fs)->X.s₀.heap.FunFrames X.base l->s.heap.FunFrames X.base l:=by
  intro l
  induction l with
  | nil=>intro _ _;trivial
  | cons env r ih =>
   intro hs hl
   obtain⟨hk,⟨L,o,hf,hn,ho,hd⟩,hr⟩:=hl
   have hL:L∈X.fs:=hs L (by unfold gU;rw [D6,hf];exact Bc)
   obtain⟨sl,e⟩:=I.base.slot L o ho (I.ok.mN L hL) hL fun z=>I.ok.nQ L z hL
   exact⟨hk,⟨L,_,hf,hn,e,hd⟩,ih (fun b hb=>hs b (by unfold gU;rw [D6,hf];exact Be _ hb)) hr⟩
 exact all X.outer (fun _ hb=>hb) I.ok.jh
theorem Inv.stack(I:Inv X pins σ H s):s.heap.FunFrames X.base X.stack:=by
 rcases I.ok.sR with e|⟨e,hf⟩
 ·rw [e];exact I.jh
 ·rw [e]
  obtain⟨m,hn,_⟩:=I.loc
  refine .cons (by rw [I.ok.kind];decide) hf hn ?_ I.jh
  exact Heap.get?_none_of_le (Bj I.ok.lH I.ok.above)
theorem Inv.zc3(I:Inv X pins σ H s):∀ b∈gU X.stack,b∈X.env.locals::X.fs:=fun b hb=>by
 rcases I.ok.sR with e|⟨e,hf⟩
 ·rw [e] at hb;exact Be _ hb
 ·rw [e] at hb
  unfold gU at hb
  rw [D6,hf] at hb
  exact hb
theorem Inv.zhQ(I:Inv X pins σ H s):∀ b∈gU X.stack,H b=none:=fun b hb=>by
 rcases AX.mp (I.zc3 b hb) with e|hb
 ·rw [e];exact I.free
 ·obtain⟨_,o,ho,_⟩:=I.ok.jh.mem hb
  exact I.base.free b o ho (I.ok.mN b hb) fun z=>I.ok.nQ b z hb
theorem Inv.step(I:Inv X pins σ H s)
  (j6:∀ b∈ch,(b∈X.ex\/X.s₀.heap.objs.size<=b)/\b≠X.env.locals/\(∀ x c,X.env.cells.lookup x=some c->c≠b)/\∀ p∈X.pn++pins,p.1≠b)
  (keep:∀ b o,b≠X.env.locals->b∉X.fs->b∉ch->s.heap.get? b=some o->H b=none->h'.get? b=some o)
  (slot:∀ b o,b≠X.env.locals->b∈X.fs->b∉ch->s.heap.get? b=some o->H b=none->∃ sl,h'.get? b=some { o with slots:=sl })(free:∀ b o,b∉ch->s.heap.get? b=some o->H b=none->H' b=none)
  (there:∀ b o,b∉ch->s.heap.get? b=some o->∃ o',h'.get? b=some o')
  (kx:∀ b xs,H b=some (.tup xs)->H' b=some (.tup xs))(kL:∀ b o u,H b=some (.frz o u)->H' b=some (.frz o u))(lY:∀ b ps,H b=some (.tbl ps)->∃ more,H' b=some (.tbl (ps++more)))
  (ns:∀ m,s.heap.Ns X.env.locals m->h'.Ns X.env.locals m)(az:cW X.prog X.w H' h')(hg:Dx g') :
  Inv X pins σ H' { s with heap:=h',gens:=g',drawn:=d',toks:=t' }:=by
 have neL:∀ b o,X.s₀.heap.get? b=some o->b≠X.env.locals:=fun b o e=>Bg (BL (AV e) I.ok.above)
 have ka:∀ b o,X.s₀.heap.get? b=some o->b∉X.ex->b∉ch:=fun b o e hx hb=>by
  rcases (j6 b hb).1 with z|z
  ·exact hx z
  ·exact absurd (BL (AV e) z) (EV _)
 have cellK:∀ x c,X.env.cells.lookup x=some c->∀ v,s.heap.IsCell c v->h'.IsCell c v:=fun x c e v ⟨o,ho,hd⟩=>by
  have vA:c∉ch:=fun z=>(j6 c z).2.2.1 x c e rfl
  by_cases hc:c∈X.fs
  ·obtain⟨sl,q⟩:=slot c o (I.ph x c e) hc vA ho (I.jK x c e)
   exact⟨_,q,hd⟩
  ·exact⟨o,keep c o (I.ph x c e) hc vA ho (I.jK x c e),hd⟩
 refine⟨I.ok,I.os,hg,⟨fun b o e n hb hx=>?_,fun b o e n hb hx=>?_,fun b o e n hx=>?_,fun b o e hx=>?_,fun b xs e=>kx b xs (I.base.kx b xs e),fun b o xs e=>kL b o xs (I.base.kL b o xs e),fun b ps e=>?_⟩,?_,fun x c e=>?_,?_,fun x c e=>?_,fun p hp=>?_,az,I.len⟩
 ·exact keep b o (neL b o e) hb (ka b o e hx) (I.base.keep b o e n hb hx) (I.base.free b o e n hx)
 ·obtain⟨sl,e1⟩:=I.base.slot b o e n hb hx
  obtain⟨sl',e2⟩:=slot b _ (neL b o e) hb (ka b o e hx) e1 (I.base.free b o e n hx)
  exact⟨sl',e2⟩
 ·obtain⟨o',e1⟩:=I.base.there b o e hx
  exact free b o' (ka b o e hx) e1 (I.base.free b o e n hx)
 ·obtain⟨o',e1⟩:=I.base.there b o e hx
  exact there b o' (ka b o e hx) e1
 ·obtain⟨m1,e1⟩:=I.base.lY b ps e
  obtain⟨m2,e2⟩:=lY b _ e1
  exact⟨m1++m2,by rw [e2,Array.append_assoc]⟩
 ·obtain⟨m,hn,hl⟩:=I.loc
  refine⟨m,ns m hn,fun i x v e1 e2 e3=>?_⟩
  obtain⟨u,r,l⟩:=hl i x v e1 e2 e3
  refine⟨u,r,?_⟩
  rcases l with l|⟨k,c,e,z⟩
  ·exact .inl l
  ·exact .inr ⟨k,c,e,cellK x c e _ z⟩
 ·obtain⟨v,z⟩:=I.cell x c e
  exact⟨v,cellK x c e v z⟩
 ·obtain⟨m,⟨o,_,_,ho,_⟩,_⟩:=I.loc
  exact free _ o (fun z=>(j6 _ z).2.1 rfl) ho I.free
 ·obtain⟨v,o,ho,hd⟩:=I.cell x c e
  exact free c o (fun z=>(j6 c z).2.2.1 x c e rfl) ho (I.jK x c e)
 ·obtain⟨e,n,ne,nf,d⟩:=I.pin p hp
  have vA:p.1∉ch:=fun z=>(j6 p.1 z).2.2.2 p hp rfl
  exact⟨keep p.1 p.2 ne nf vA e n,free p.1 p.2 vA e n,ne,nf,d⟩
theorem Inv.un(I:Inv X pins σ H s)(u:Un X.fs [] H H' s.heap h')(az:cW X.prog X.w H' h'):Inv X pins σ H' { s with heap:=h',toks:=t' }:=by
 obtain⟨m,⟨o,es,ep,ho,r⟩,_⟩:=id I.loc
 obtain⟨sl,hL⟩:=u.any ho I.free (by simp)
 exact I.step (g':=s.gens) (d':=s.drawn) (ch:=[]) (fun _ z=>nomatch z) (fun b o _ hb _ e n=>u.keep b o e n hb (by simp)) (fun b o _ hb _ e n=>u.slot b o e n hb (by simp)) (fun b o _ e n=>u.free b o e n (by simp)) (fun b o _ e=>u.there b o e (by simp)) u.kx u.kL u.lY (fun m' hm=>by
  obtain⟨o',rC,yf,fT,r'⟩:=hm
  rw [ho] at fT;cases fT
  exact⟨_,rC,yf,hL,r'⟩) az I.bare
theorem Inv.call(I:Inv X pins σ H s)(u:Un (gU X.stack) ch H H' s.heap h')(az:cW X.prog X.w H' h')(hg:Dx g')
  (j6:∀ b∈ch,(b∈X.ex\/X.s₀.heap.objs.size<=b)/\b≠X.env.locals/\(∀ x c,X.env.cells.lookup x=some c->c≠b)/\∀ p∈X.pn++pins,p.1≠b) :
  Inv X pins σ H' { s with heap:=h',gens:=g',drawn:=d',toks:=t' }:=by
 obtain⟨m,⟨o,es,ep,ho,r⟩,_⟩:=id I.loc
 obtain⟨sl,hL⟩:=u.any ho I.free fun z=>(j6 _ z).2.1 rfl
 exact I.step (ch:=ch) j6 (fun b o hL hb hc e n=>u.keep b o e n (fun z=>(AX.mp (I.zc3 b z)).elim hL hb) hc) (fun b o _ _ hc e n=>u.any e n hc) (fun b o hc e n=>u.free b o e n hc) (fun b o hc e=>u.there b o e hc) u.kx u.kL u.lY (fun m' hm=>by
  obtain⟨o',rC,yf,fT,r'⟩:=hm
  rw [ho] at fT;cases fT
  exact⟨_,rC,yf,hL,r'⟩) az hg
theorem Inv.turned(I:Inv X pins σ H s)(k:∀ b o,b≠it->s.heap.get? b=some o->h'.get? b=some o)(hn:H it=none)(hL:it≠X.env.locals)
  (h1:it∈X.ex\/X.s₀.heap.objs.size<=it)(h2:∀ x c,X.env.cells.lookup x=some c->c≠it)(h3:∀ p∈X.pn++pins,p.1≠it):Inv X pins σ H { s with heap:=h',toks:=t' }:=by
 have vB:∀ b u,H b=some u->b≠it:=fun b u e z=>by rw [z,hn] at e;cases e
 refine I.step (g':=s.gens) (d':=s.drawn) (ch:=[it]) (fun b hb=>?_) (fun b o _ _ hc e _=>k b o (fun z=>hc (by simp [z])) e) (fun b o _ _ hc e _=>⟨o.slots,k b o (fun z=>hc (by simp [z])) e⟩) (fun _ _ _ _ n=>n)
  (fun b o hc e=>⟨o,k b o (fun z=>hc (by simp [z])) e⟩) (fun _ _ e=>e) (fun _ _ _ e=>e) (fun b ps e=>⟨#[],by rw [e];simp⟩) (fun m hm=>?_) (fun b u e=>?_) I.bare
 ·have e:b=it:=by simpa using hb
  subst e
  exact⟨h1,hL,h2,h3⟩
 ·obtain⟨o,es,ep,ho,r⟩:=hm
  exact⟨o,es,ep,k _ o (Cd hL) ho,r⟩
 ·refine(I.az b u e).lX (fun c v hc q=>k c v ?_ q) (fun _ q=>q) fun _ _ q=>q
  rcases hc with z|z
  ·rw [z];exact vB b u e
  ·exact vB c _ z
theorem Inv.tok(I:Inv X pins σ H s)(t:Nat):Inv X pins σ H { s with toks:=t }:=I.un (h':=s.heap) (t':=t) Un.refl I.az
theorem Inv.kept{t':Nat}(I:Inv X pins σ H s)(k:∀ b u,s.heap.get? b=some u->h'.get? b=some u):Inv X pins σ H { s with heap:=h',toks:=t' }:=I.un (Un.kept k) (I.az.kept k)
theorem Inv.laid{a:ir}{o:HO}{t':Nat}(I:Inv X pins σ H s)(k:∀ b u,s.heap.get? b=some u->h'.get? b=some u)(hp:s.heap.objs.size<=a)(new:dq X.prog X.w (upd H a o) h' a o) :
  Inv X pins σ (upd H a o) { s with heap:=h',toks:=t' }:=I.un (Un.laid k hp (I.az.fresh hp)) (I.az.laid k hp new)
theorem Inv.write{x e:ir}{o:HO}{t':Nat}(I:Inv X pins σ H s)(mu:uc (H x))(he:e=x\/H e=some (.own x))(k:∀ b u,b≠e->s.heap.get? b=some u->h'.get? b=some u)(rJ:∃ u,h'.get? e=some u)
  (new:dq X.prog X.w (upd H x o) h' x o):Inv X pins σ (upd H x o) { s with heap:=h',toks:=t' }:=I.un (Un.write mu he k rJ) (I.az.write mu he k rJ new)
theorem Inv.weak(I:Inv X pins σ H s)(hl:σ'.length=σ.length)(w:∀(i:Nat) v,σ'[i]?=some (some v)->σ[i]?=some (some v)):Inv X pins σ' H s :=
 ⟨I.ok,I.os,I.bare,I.base,let⟨m,hn,hl'⟩:=I.loc;⟨m,hn,fun i x v e1 e2 e3=>hl' i x v e1 (w i v e2) e3⟩,I.cell,I.free,I.jK,I.pin,I.az,hl.trans I.len⟩
theorem Inv.zg9(I:Inv X pins σ H s)(h:∀ p∈zg8,s.heap.get? p.1=some p.2/\H p.1=none/\p.1≠X.env.locals/\p.1∉X.fs/\∀ v,p.2.data≠.cell v):Inv X zg8 σ H s :=
 ⟨I.ok,I.os,I.bare,I.base,I.loc,I.cell,I.free,I.jK,fun p hp=>(B2.mp hp).elim (fun z=>I.pin p (D7 _ z)) (h p),I.az,I.len⟩
theorem zgK(hN:N.Nodup)(a:N[i]?=some x)(b:N[j]?=some x):i=j:=by
 obtain⟨h1,e1⟩:=By.mp a
 obtain⟨h2,e2⟩:=By.mp b
 exact(List.getElem_inj hN).mp (e1.trans e2.symm)
theorem zhR(I:Inv X pins σ H s)(hN:X.N.Nodup)(hi:X.N[i]?=some x)(hx:Loc X.env.scope x)(r:RelV v u)
  (h:∀ s',Inv X pins (σ.set i (some v)) H s'->(∃ a,Ep a s.heap s'.heap/\(a=X.env.locals\/X.env.cells.lookup x=some a))->Q () s')(hf:X.fn x=true\/X.env.scope.names.lookup x=some .local:=by first|exact .inl rfl|exact .inr rfl|assumption):Av M A (storeName X.env x u) Q E s:=by
 obtain⟨m,hn,hl⟩:=id I.loc
 have zl7:(X.env.scope.kind==.class||(X.env.scope.kind==.module&&X.env.locals != X.env.globals))=false:=by rw [I.ok.kind];rfl
 have hiσ:i<σ.length:=by rw [I.len];exact(By.mp hi).1
 have ph:=I.ph
 have tracked:∀{a:ir} {h':AD},(∃ o,s.heap.get? a=some o/\H a=none)->Ep a s.heap h'->cW X.prog X.w H h':=fun{a h'} ha hs b ob e=>by
  obtain⟨_,_,zfG⟩:=ha
  refine(I.az b ob e).lX (fun c w' hc q=>(hs.2 c ?_).trans q) (fun _ q=>q) fun _ _ q=>q
  rintro rfl
  rcases hc with rfl|hc
  ·rw [zfG] at e;cases e
  ·rw [zfG] at hc;cases hc
 rcases hx with hk|hk
 ·refine wpAny_storeName_local hk hn (fun h' hn' hs=>?_) zl7
  obtain⟨oL,_,_,pN,_⟩:=id hn
  refine h _ ⟨I.ok,I.os,I.bare,⟨fun b o e n hb hx=>?_,fun b o e n hb hx=>?_,I.base.free,fun b o e hx=>?_,I.base.kx,I.base.kL,I.base.lY⟩,⟨_,hn',fun j y v' e1 e2 e3=>?_⟩,fun y c e=>?_,I.free,I.jK,fun p hp=>?_,tracked ⟨oL,pN,I.free⟩ hs,by simpa using I.len⟩ ⟨_,hs,.inl rfl⟩
  ·exact(hs.2 b (Bg (BL (AV e) I.ok.above))).trans (I.base.keep b o e n hb hx)
  ·obtain⟨sl,e1⟩:=I.base.slot b o e n hb hx
   exact⟨sl,(hs.2 b (Bg (BL (AV e) I.ok.above))).trans e1⟩
  ·obtain⟨o',e1⟩:=I.base.there b o e hx
   exact⟨o',(hs.2 b (Bg (BL (AV e) I.ok.above))).trans e1⟩
  ·by_cases hj:j=i
   ·subst hj
    rw [hi] at e1;cases e1
    rw [BA hiσ] at e2
    cases e2
    exact⟨u,r,.inl ⟨hk,by simp⟩⟩
   ·rw [BC (Cd hj)] at e2
    obtain⟨u',r',q⟩:=hl j y v' e1 e2 e3
    refine⟨u',r',?_⟩
    rcases q with⟨k,e⟩|⟨k,c,e,z⟩
    ·refine .inl ⟨k,?_⟩
     have:y≠x:=fun e=>hj (zgK hN e1 (e▸hi))
     simp [this,e]
    ·exact .inr ⟨k,c,e,z.sameBut hs (ph y c e)⟩
  ·obtain⟨w',z⟩:=I.cell y c e
   exact⟨w',z.sameBut hs (ph y c e)⟩
  ·obtain⟨e,n,ne,nf,d⟩:=I.pin p hp
   exact⟨(hs.2 p.1 ne).trans e,n,ne,nf,d⟩
 ·have hfn:X.fn x=true:=by
   rcases hf with z|z
   ·exact z
   ·rw [z] at hk;cases hk
  obtain⟨c,hc⟩:=I.ok.has x (.inl hk)
  obtain⟨w',z⟩:=I.cell x c hc
  refine wpAny_storeName_cell I.ok.kind hk hc z (fun h' gD hs=>?_)
  obtain⟨oc,hoc,zmi⟩:=id z
  refine h { s with heap:=h' } ⟨I.ok,I.os,I.bare,⟨fun b o e n hb hx=>?_,fun b o e n hb hx=>?_,I.base.free,fun b o e hx=>?_,I.base.kx,I.base.kL,I.base.lY⟩,⟨m,hn.sameBut hs (Cd (ph x c hc)),fun j y v' e1 e2 e3=>?_⟩,fun y c' e=>?_,I.free,I.jK,fun p hp=>?_,tracked ⟨oc,hoc,I.jK x c hc⟩ hs,by simpa using I.len⟩ ⟨c,hs,.inr hc⟩
  ·exact(hs.2 b (Bg (BL (AV e) (I.ok.pe x c hfn hc)))).trans (I.base.keep b o e n hb hx)
  ·obtain⟨sl,e1⟩:=I.base.slot b o e n hb hx
   exact⟨sl,(hs.2 b (Bg (BL (AV e) (I.ok.pe x c hfn hc)))).trans e1⟩
  ·obtain⟨o',e1⟩:=I.base.there b o e hx
   exact⟨o',(hs.2 b (Bg (BL (AV e) (I.ok.pe x c hfn hc)))).trans e1⟩
  ·by_cases hj:j=i
   ·subst hj
    rw [hi] at e1;cases e1
    rw [BA hiσ] at e2
    cases e2
    exact⟨u,r,.inr ⟨.inl hk,c,hc,gD⟩⟩
   ·rw [BC (Cd hj)] at e2
    obtain⟨u',r',q⟩:=hl j y v' e1 e2 e3
    refine⟨u',r',?_⟩
    rcases q with q|⟨k,c',e,z'⟩
    ·exact .inl q
    ·refine .inr ⟨k,c',e,z'.sameBut hs ?_⟩
     rintro rfl
     exact hj (zgK hN e1 (I.ok.inj _ _ _ e hc▸hi))
  ·by_cases lM:c'=c
   ·subst lM;exact⟨_,gD⟩
   ·obtain⟨w2,z2⟩:=I.cell y c' e
    exact⟨w2,z2.sameBut hs lM⟩
  ·obtain⟨e,n,ne,nf,d⟩:=I.pin p hp
   refine⟨(hs.2 p.1 ?_).trans e,n,ne,nf,d⟩
   intro q
   rw [q,hoc] at e
   have q':oc=p.2:=BP e
   exact d w' (by rw [<- q'];exact zmi)
theorem zJ(I:Inv X pins σ H s)(hN:X.N.Nodup)(hi:X.N[i]?=some x)(hx:Loc X.env.scope x)(r:RelV v u)
  (h:∀ s',Inv X pins (σ.set i (some v)) H s'->Q () s')(hf:X.fn x=true\/X.env.scope.names.lookup x=some .local:=by first|exact .inl rfl|exact .inr rfl|assumption):Av M A (storeName X.env x u) Q E s :=
 zhR I hN hi hx r (fun s' I' _=>h s' I') hf
theorem Inv.zeJ(I:Inv X pins σ H s)(ho:s'.os=s.os)(u:Un (gU X.stack) ch H H' s.heap s'.heap)(az:cW X.prog X.w H' s'.heap)(hg:Dx s'.gens)
  (j6:∀ b∈ch,(b∈X.ex\/X.s₀.heap.objs.size<=b)/\b≠X.env.locals/\(∀ x c,X.env.cells.lookup x=some c->c≠b)/\∀ p∈X.pn++pins,p.1≠b):Inv X pins σ H' s':=by
 obtain⟨h',g',d',t',o'⟩:=s'
 have e:o'=s.os:=ho
 subst e
 exact I.call (g':=g') (t':=t') (d':=d') u az hg j6
end
abbrev XK:=dm->Option ir->Hp->Prop
abbrev St:=List (Option V)
abbrev VK:=V->Hp->Prop
abbrev TE:=St->Hp->VK->Prop
abbrev TT:=St->Hp->(Bool->Hp->Prop)->Prop
abbrev TA:=St->Hp->(List V->Hp->Prop)->Prop
structure Ends where
 nx:St->Hp->Prop
 rt:VK
 bk:St->Hp->Prop:=fun _ _=>False
 ct:St->Hp->Prop:=fun _ _=>False
abbrev TS:=Ends->St->Hp->Prop
def EP(X:Cx)(pins:List (ir×AA))(σ:St)(Q:VK)(u:dm)(s':kb):Prop:=∃ v H',Inv X pins σ H' s'/\RelV v u/\Q v H'
def TP(X:Cx)(pins:List (ir×AA))(σ:St)(Q:Bool->Hp->Prop)(b:Bool)(s':kb):Prop:=∃ H',Inv X pins σ H' s'/\Q b H'
def AP(X:Cx)(pins:List (ir×AA))(σ:St)(Q:List V->Hp->Prop)(us:List dm)(s':kb):Prop:=∃ vs H',Inv X pins σ H' s'/\Vals vs us/\Q vs H'
def SP(X:Cx)(pins:List (ir×AA))(D:Ends)(f:Flow)(s':kb):Prop :=
 match f with
 | .next=>∃ σ' H',Inv X pins σ' H' s'/\D.nx σ' H'
 | .brk=>∃ σ' H',Inv X pins σ' H' s'/\D.bk σ' H'
 | .cont=>∃ σ' H',Inv X pins σ' H' s'/\D.ct σ' H'
 | .ret u=>∃ v σ' H',Inv X pins σ' H' s'/\RelV v u/\D.rt v H'
def PE(X:Cx)(e:Aq)(t:TE):Prop :=
 ∀(pins:List (ir×AA)) (s:kb) (σ:St) (H:Hp) (Q:VK),Inv X pins σ H s->t σ H Q->Av (Ax X.prog X.w) X.A (Ay e X.env) (EP X pins σ Q) X.xe s
def PT(X:Cx)(e:Aq)(t:TT):Prop :=
 ∀(pins:List (ir×AA)) (s:kb) (σ:St) (H:Hp) (Q:Bool->Hp->Prop),Inv X pins σ H s->t σ H Q->Av (Ax X.prog X.w) X.A (isTrue e X.env (Ay e X.env)) (TP X pins σ Q) X.xe s
def PW(X:Cx)(e:Aq)(t:TT):Prop :=
 ∀(whole:Sem dm) (pins:List (ir×AA)) (s:kb) (σ:St) (H:Hp) (Q:Bool->Hp->Prop),Inv X pins σ H s->t σ H Q->Av (Ax X.prog X.w) X.A (isTrue e X.env whole) (TP X pins σ Q) X.xe s
theorem PW.pt(h:PW X e t):PT X e t:=h _
def PA(X:Cx)(es:List Aq)(t:TA):Prop :=
 ∀(pos:Az) (pins:List (ir×AA)) (s:kb) (σ:St) (H:Hp) (Q:List V->Hp->Prop),Inv X pins σ H s->t σ H Q->Av (Ax X.prog X.w) X.A (spliced (A0 pos (Au es X.env))) (AP X pins σ Q) X.xe s
def PS(X:Cx)(st:AU)(t:TS):Prop :=
 ∀(pins:List (ir×AA)) (s:kb) (σ:St) (H:Hp) (D:Ends),Inv X pins σ H s->t D σ H->Av (Ax X.prog X.w) X.A (exec st X.env) (SP X pins D) X.xe s
def cG(X:Cx)(st:List AU)(t:TS):Prop :=
 ∀(pins:List (ir×AA)) (s:kb) (σ:St) (H:Hp) (D:Ends),Inv X pins σ H s->t D σ H->Av (Ax X.prog X.w) X.A (execs st X.env) (SP X pins D) X.xe s
theorem aI{t:Sem α}{Q Q':α->kb->Prop}(h:Av M A t Q E s)(hQ:∀ a s,Q a s->Q' a s):Av M A t Q' E s:=Bv h hQ fun _ _ x=>x
end
variable {pos:Az}{a b c:Aq}{Q:dm->kb->Prop}{σ:St}{t:TE}
section
section
noncomputable def dY(i:Nat):TE:=fun σ H Q=>∃ v,σ[i]?=some (some v)/\Q v H
noncomputable def tC(v:V):TE:=fun _ H Q=>Q v H
theorem zg5(hN:X.N[i]?=some x)(hv:w4 X.env.scope x)(hd:(x==("__debug__":gV))=false:=by decide) (g9:(x==("__classdict__":gV))=false:=by decide):PE X (.Name x pos) (dY i):=by
 intro pins s σ H Q I h
 obtain⟨v,e,h⟩:=h
 obtain⟨m,hn,hl⟩:=I.loc
 obtain⟨u,r,l⟩:=hl i x v hN e hv
 have fin:EP X pins σ Q u s:=⟨v,H,I,r,h⟩
 rcases l with⟨hk,hm⟩|⟨hk,c,hc,zfE⟩
 ·exact wpAny_Name (wpAny_loadName_local I.ok.kind hk hn hm fin) hd
 ·rcases hk with hk|hk
  ·exact wpAny_Name (wpAny_loadName_cell I.ok.kind hk hc zfE fin) hd
  ·exact wpAny_Name (wpAny_loadName_free I.ok.kind hk hc zfE fin g9) hd
theorem zpG{i j pos}:PE X (.Constant (.int i) j pos) (tC (.int i)):=fun _ _ _ H _ I h=>wpAny_Constant_int ⟨.int i,H,I.tok _,⟨_,rfl⟩,h⟩
theorem zpv{b j pos}:PE X (.Constant (.bool b) j pos) (tC (.bl b)):=fun _ _ _ H _ I h=>Constant_bool ⟨.bl b,H,I,rfl,h⟩
theorem zpJ{j pos}:PE X (.Constant .none j pos) (tC .non):=fun _ _ _ H _ I h=>Constant_none ⟨.non,H,I,rfl,h⟩
theorem zpM{x j pos}:PE X (.Constant (.str x) j pos) (tC (.str x)):=fun _ _ _ H _ I h=>Calls.Constant_str ⟨.str x,H,I.tok _,⟨_,rfl⟩,h⟩
def Gl(X:Cx)(x:gV):Prop:=X.env.kindOf x=some .globalImplicit
theorem zcb(I:Inv X pins σ H s)(hg:Gl X x)(hm:X.mg x=some u)(h:Q u s)
  (hd:(x==("__debug__":gV))=false:=by decide):Av (Ax X.prog X.w) X.A (Ay (.Name x pos) X.env) Q E s :=
 Io I.ok.kind hg (Calls.loadGlobal_global (by rw [I.ok.glob];exact I.mod.glob.keeps I.bk) hm h) hd
theorem mX(I:Inv X pins σ H s)(hg:Gl X x)(hm:X.mg x=none)(hv:Bs x=some u)(h:Q u s)
  (hn:x ≠ "__name__":=by decide) (hd:(x==("__debug__":gV))=false:=by decide):Av (Ax X.prog X.w) X.A (Ay (.Name x pos) X.env) Q E s:=by
 obtain⟨mb,h1,h2⟩:=I.mod.blt
 exact Io I.ok.kind hg (Calls.loadGlobal_builtin (by rw [I.ok.glob];exact I.mod.glob.keeps I.bk) hm (by rw [I.ok.blt];exact h1.keeps I.bk) ((h2 x hn).trans hv) h) hd
theorem zg0(hg:Gl X x)(hm:X.mg x=some u)(r:RelV v u)(hd:(x==("__debug__":gV))=false:=by decide):PE X (.Name x pos) (tC v) :=
 fun _ _ _ H _ I h=>zcb I hg hm ⟨v,H,I,r,h⟩ hd
theorem zpw(hg:Gl X x)(hm:X.mg x=none)(hv:Bs x=some u)(r:RelV v u)(hn:x ≠ "__name__":=by decide) (hd:(x==("__debug__":gV))=false:=by decide):PE X (.Name x pos) (tC v) :=
 fun _ _ _ H _ I h=>mX I hg hm hv ⟨v,H,I,r,h⟩ hn hd
variable {ta tb:TE}
noncomputable def tB(t:TE):TT:=fun σ H Q=>t σ H fun x H1=>∃ c,x=.bl c/\Q c H1
variable {tA zK:TT}{rest:List Aq}
noncomputable def eJ(t u:TT):TT:=fun σ H Q=>t σ H fun c H1=>if c=true then u σ H1 Q else Q false H1
noncomputable def bw(t u:TT):TT:=fun σ H Q=>t σ H fun c H1=>if c=true then Q true H1 else u σ H1 Q
noncomputable def bu(t:TT):TT:=fun σ H Q=>t σ H fun c H1=>Q (!c) H1
theorem zrp(ha:PT X a tA):PW X (.BoolOp .And [a] pos) tA:=by
 intro wh pins s σ H Q I h
 refine isTrue_and (aI (ha pins s σ H Q I h) fun c s1 e=>?_)
 cases c with
 | true=>exact isTrue_and_nil e
 | false=>exact e
theorem zrr(ha:PT X a tA):PW X (.BoolOp .Or [a] pos) tA:=by
 intro wh pins s σ H Q I h
 refine isTrue_or (aI (ha pins s σ H Q I h) fun c s1 e=>?_)
 cases c with
 | false=>exact isTrue_or_nil e
 | true=>exact e
theorem zro(ha:PT X a tA)(hb:PW X (.BoolOp .And (b::rest) pos) zK):PW X (.BoolOp .And (a::b::rest) pos) (eJ tA zK):=by
 intro wh pins s σ H Q I h
 refine isTrue_and (aI (ha pins s σ H _ I h) fun c s1 ⟨H1,I1,q1⟩=>?_)
 cases c with
 | true=>exact hb wh pins s1 σ H1 Q I1 q1
 | false=>exact⟨H1,I1,q1⟩
theorem zrq(ha:PT X a tA)(hb:PW X (.BoolOp .Or (b::rest) pos) zK):PW X (.BoolOp .Or (a::b::rest) pos) (bw tA zK):=by
 intro wh pins s σ H Q I h
 refine isTrue_or (aI (ha pins s σ H _ I h) fun c s1 ⟨H1,I1,q1⟩=>?_)
 cases c with
 | true=>exact⟨H1,I1,q1⟩
 | false=>exact hb wh pins s1 σ H1 Q I1 q1
theorem zqz(ha:PT X a tA):PT X (.UnaryOp .Not a pos) (bu tA):=by
 intro pins s σ H Q I h
 exact isTrue_not (ha pins s σ H (fun c H1=>Q (!c) H1) I h)
noncomputable def zst(ta tb:TE):TE:=fun σ H Q=>ta σ H fun x H1=>∃ c,x=.bl c/\if c=true then tb σ H1 Q else Q (.bl false) H1
noncomputable def zsG(ta:TE):TE:=fun σ H Q=>ta σ H fun x H1=>∃ c,x=.bl c/\Q (.bl (!c)) H1
theorem zpL{op}(h:PE X a t):PE X (.BoolOp op [a] pos) t:=fun pins s σ H Q I hw=>BoolOp_one (h pins s σ H Q I hw)
theorem zpu(ha:PE X a ta)(hb:PE X (.BoolOp .And (b::rest) pos) tb):PE X (.BoolOp .And (a::b::rest) pos) (zst ta tb):=by
 intro pins s σ H Q I h
 refine BoolOp_and (aI (ha pins s σ H _ I h) fun v s1 ⟨x,H1,I1,r1,q1⟩=>?_)
 obtain⟨c,rfl,q1⟩:=q1
 cases r1
 refine Er ?_
 cases c with
 | true=>exact hb pins s1 σ H1 Q I1 q1
 | false=>exact⟨.bl false,H1,I1,rfl,q1⟩
theorem zpK(ha:PE X a ta):PE X (.UnaryOp .Not a pos) (zsG ta):=by
 intro pins s σ H Q I h
 refine UnaryOp_ (aI (ha pins s σ H _ I h) fun v s1 ⟨x,H1,I1,r1,q1⟩=>?_)
 obtain⟨c,rfl,q1⟩:=q1
 cases r1
 exact not_of (Er ⟨.bl (!c),H1,I1,rfl,q1⟩)
noncomputable def tIf(t:TT)(ta tb:TE):TE:=fun σ H Q=>t σ H fun c H1=>if c=true then ta σ H1 Q else tb σ H1 Q
theorem zpF(hc:PT X c tA)(ha:PE X a ta)(hb:PE X b tb):PE X (.IfExp c a b pos) (tIf tA ta tb):=by
 intro pins s σ H Q I h
 refine wpAny_IfExp (aI (hc pins s σ H _ I h) fun d s1 ⟨H1,I1,q1⟩=>?_)
 cases d with
 | true=>exact ha pins s1 σ H1 Q I1 q1
 | false=>exact hb pins s1 σ H1 Q I1 q1
end
end
variable {g:TG}{t tb:TS}{body:List AU}{k n:Nat}{pos':Az}{vs:Array dm}{tc:TT}{te:TE}{es:List Aq}{tg:Aq}{ta:TA}{y:V}
section
def bB(K:ox)(H:Hp)(a:ir)(xs:List V):Prop :=
 Rd H a (.lst xs) \/
  ∃(o:AA) (its:Array dm) (n:Nat),K.lookup a=some o/\o.cls=.type "list"/\o.dict=none/\o.data=.seq its n/\its.size<=AK/\Vals xs its.toList
def dO(K:ox)(H:Hp)(a:ir)(xs:List V):Prop :=
 Rd H a (.tup xs) \/
  ∃(o:AA) (its:Array dm) (n:Nat),K.lookup a=some o/\o.cls=.type "tuple"/\o.data=.seq its n/\its.size<=AK/\Vals xs its.toList
noncomputable def zjj:dm->Option V
 | .none=>some .non
 | .bool b=>some (.bl b)
 | .int i _=>some (.int i)
 | .str x _=>some (.str x)
 | .bytes b _=>some (.byt b)
 | .float b _=>some (.eD b)
 | .ref a=>some (.ref a)
 | .type n=>some (.ty n)
 | _=>none
theorem RelV.abs{x:V}(r:RelV x u):zjj u=some x:=by
 cases x with
 | non=>cases r;rfl
 | bl _=>cases r;rfl
 | int _=>obtain⟨t,rfl⟩:=r;rfl
 | str _=>obtain⟨t,rfl⟩:=r;rfl
 | byt _=>obtain⟨t,rfl⟩:=r;rfl
 | eD _=>obtain⟨t,rfl⟩:=r;rfl
 | ref _=>cases r;rfl
 | ty _=>cases r;rfl
theorem RelV.inj{x:V}(r:RelV x u)(q:RelV y u):x=y:=BP (r.abs.symm.trans q.abs)
theorem Vals.inj:∀{xs ys:List V} {us:List dm},Vals xs us->Vals ys us->xs=ys
 | _,_,_,.nil,.nil=>rfl
 | _,_,_,.cons r t,.cons r' t'=>by rw [r.inj r',Vals.inj t t']
section
variable {a:ir}{ys:List V}
theorem bB.of{K:ox}(h:H a=some (.lst xs)):bB K H a xs:=.inl (.inl h)
theorem Inv.list(I:Inv X pins σ H s)(h:bB X.K H a xs):∃ its:List dm,Vals xs its/\PlainL s.heap a its.toArray/\xs.length<=AK:=by
 rcases h with h|⟨o,its,n,hk,hc,hd,hs,hz,r⟩
 ·obtain⟨z,its,n,r,e⟩:=h.ok I.az
  exact⟨its,r,⟨_,n,e,rfl,rfl,rfl⟩,z⟩
 ·refine⟨its.toList,r,⟨o,n,I.fX a o hk,hc,hd,by simpa using hs⟩,?_⟩
  have e:=r.length
  simp only [EW] at e
  lia
theorem Inv.tuple(I:Inv X pins σ H s)(h:dO X.K H a xs):∃ its:List dm,Vals xs its/\Dv s.heap a its.toArray/\xs.length<=AK:=by
 rcases h with h|⟨o,its,n,hk,hc,hs,hz,r⟩
 ·obtain⟨z,its,r,p⟩:=h.ok I.az
  exact⟨its,r,p,z⟩
 ·refine⟨its.toList,r,⟨o,I.fX a o hk,hc,n,by simpa using hs⟩,?_⟩
  have e:=r.length
  simp only [EW] at e
  lia
theorem Inv.rV(I:Inv X pins σ H s)(h:bB X.K H a xs)(h':bB X.K H a ys):xs=ys:=by
 obtain⟨its,r,⟨o,n,e,_,_,d⟩,_⟩:=I.list h
 obtain⟨iL,r',⟨o',n',e',_,_,d'⟩,_⟩:=I.list h'
 rw [e] at e';cases e'
 rw [d] at d'
 injection d' with d1 _
 have:its=iL:=by simpa using congrArg Array.toList d1
 subst this
 exact r.inj r'
theorem Inv.zh8(I:Inv X pins σ H s)(h:dO X.K H a xs)(h':dO X.K H a ys):xs=ys:=by
 obtain⟨its,r,⟨o,e,_,n,d⟩,_⟩:=I.tuple h
 obtain⟨iL,r',⟨o',e',_,n',d'⟩,_⟩:=I.tuple h'
 rw [e] at e';cases e'
 rw [d] at d'
 injection d' with d1 _
 have:its=iL:=by simpa using congrArg Array.toList d1
 subst this
 exact r.inj r'
end
abbrev Cx.lZ(X:Cx)(E:dm->kb->Prop):Cx:={ X with xe:=E }
abbrev Cx.kg(X:Cx):Cx:=X.lZ fun _ _=>False
theorem Cx.Ok.lZ(ok:X.Ok)(E:dm->kb->Prop):(X.lZ E).Ok :=
 ⟨ok.mod,ok.kind,ok.glob,ok.blt,ok.above,ok.inj,ok.has,ok.pe,ok.hd,ok.frames,ok.sR,ok.nP,ok.bs,ok.lH,ok.qa,ok.nQ,ok.jh,ok.mN,ok.tree,ok.sk⟩
theorem Cx.Ok.oK(ok:(X.lZ E).Ok):X.Ok :=
 ⟨ok.mod,ok.kind,ok.glob,ok.blt,ok.above,ok.inj,ok.has,ok.pe,ok.hd,ok.frames,ok.sR,ok.nP,ok.bs,ok.lH,ok.qa,ok.nQ,ok.jh,ok.mN,ok.tree,ok.sk⟩
section
theorem Inv.lZ(I:Inv X pins σ H s)(E:dm->kb->Prop):Inv (X.lZ E) pins σ H s:=⟨I.ok.lZ E,I.os,I.bare,I.base,I.loc,I.cell,I.free,I.jK,I.pin,I.az,I.len⟩
theorem Inv.oK(I:Inv (X.lZ E) pins σ H s):Inv X pins σ H s:=⟨I.ok.oK,I.os,I.bare,I.base,I.loc,I.cell,I.free,I.jK,I.pin,I.az,I.len⟩
theorem SP.oK{D:Ends}{f:Flow}{s':kb}(h:SP (X.lZ E) pins D f s'):SP X pins D f s':=by
 cases f with
 | next=>obtain⟨σ',H',I,q⟩:=h;exact⟨σ',H',I.oK,q⟩
 | brk=>obtain⟨σ',H',I,q⟩:=h;exact⟨σ',H',I.oK,q⟩
 | cont=>obtain⟨σ',H',I,q⟩:=h;exact⟨σ',H',I.oK,q⟩
 | ret u=>obtain⟨v,σ',H',I,r,q⟩:=h;exact⟨v,σ',H',I.oK,r,q⟩
theorem cG.kg{st:List AU}(h:cG X.kg st t):cG X st t:=fun pins s σ H D I hw =>
 Bv (h pins s σ H D (I.lZ _) hw) (fun _ _ q=>q.oK) fun _ _ z=>CW z
end
section
variable {st:AU}{rest:List AU}{u:TS}
noncomputable def zsE:TS:=fun D σ H=>D.nx σ H
noncomputable def zsK(t u:TS):TS:=fun D σ H=>t { D with nx:=u D } σ H
theorem zcJ:cG X [] zsE:=fun _ _ σ H _ I h=>F4 ⟨σ,H,I,h⟩
theorem zg(h1:PS X st t)(h2:cG X rest u):cG X (st::rest) (zsK t u):=by
 intro pins s σ H D I h
 refine wpAny_execs_cons (aI (h1 pins s σ H { D with nx:=u D } I h) fun f s1 q=>?_)
 cases f with
 | next =>
  obtain⟨σ',H',I',q⟩:=q
  exact h2 pins s1 σ' H' D I' q
 | ret v=>exact q
 | brk=>exact q
 | cont=>exact q
theorem zcK(h1:PS X st t):cG X [st] t:=by
 intro pins s σ H D I h
 refine wpAny_execs_cons (aI (h1 pins s σ H D I h) fun f s1 q=>?_)
 cases f with
 | next=>exact F4 q
 | ret v=>exact q
 | brk=>exact q
 | cont=>exact q
theorem Inv.quiet(I:Inv X pins σ H s):interactive X.env=false:=by simp [interactive,I.ok.kind]
noncomputable def zsv(te:TE):TS:=fun D σ H=>te σ H fun _ H1=>D.nx σ H1
theorem zcI(he:PE X e te)(hs:BR e none pos.line X.env=pure false:=by rfl):PS X (.Expr e pos) (zsv te):=by
 intro pins s σ H D I h
 exact wpAny_Expr_any (aI (he pins s σ H _ I h) fun v s1 ⟨x,H1,I1,r1,q1⟩=>⟨σ,H1,I1,q1⟩) I.quiet hs
noncomputable def zsJ(te:TE):TS:=fun D σ H=>te σ H D.rt
theorem zc(he:PE X e te):PS X (.Return (some e) pos) (zsJ te):=by
 intro pins s σ H D I h
 exact wpAny_Return_some (aI (he pins s σ H _ I h) fun v s1 ⟨x,H1,I1,r1,q1⟩=>⟨x,σ,H1,I1,r1,q1⟩)
noncomputable def zsz(c:TT)(t u:TS):TS:=fun D σ H=>c σ H fun b H1=>if b=true then t D σ H1 else u D σ H1
theorem zhf{a b:List AU}(hc:PT X c tc)(ha:cG X a t)(hb:cG X b u):PS X (.If c a b pos) (zsz tc t u):=by
 intro pins s σ H D I h
 refine wpAny_If (aI (hc pins s σ H _ I h) fun d s1 ⟨H1,I1,q1⟩=>?_)
 cases d with
 | true=>exact ha pins s1 σ H1 D I1 q1
 | false=>exact hb pins s1 σ H1 D I1 q1
noncomputable def zsD:TS:=fun _ _ _=>False
theorem zhg:PS X st zsD:=fun _ _ _ _ _ _ h=>h.elim
end
abbrev TG:=V->St->Hp->(St->Hp->Prop)->Prop
abbrev mC:=List V->St->Hp->(St->Hp->Prop)->Prop
def PG(X:Cx)(target:Aq)(t:TG):Prop :=
 ∀(pins:List (ir×AA)) (s:kb) (σ:St) (H:Hp) (v:V) (u:dm) (Q:St->Hp->Prop),Inv X pins σ H s->RelV v u->t v σ H Q ->
  Av (Ax X.prog X.w) X.A (CG target X.env u) (fun _ s'=>∃ σ' H',Inv X pins σ' H' s'/\Q σ' H') X.xe s
def mz(X:Cx)(ts:List Aq)(t:mC):Prop :=
 ∀(pins:List (ir×AA)) (s:kb) (σ:St) (H:Hp) (vs:List V) (us:List dm) (Q:St->Hp->Prop),Inv X pins σ H s->Vals vs us->t vs σ H Q ->
  Av (Ax X.prog X.w) X.A (GZ ((C2 ts X.env).map (·.2)) us) (fun _ s'=>∃ σ' H',Inv X pins σ' H' s'/\Q σ' H') X.xe s
abbrev zar:=V->V->V->Hp->(Hp->Prop)->Prop
def zdx(X:Cx)(t:zar):Prop :=
 ∀(pins:List (ir×AA)) (s:kb) (σ:St) (H:Hp) (o i v:V) (ov iv u:dm) (Q:Hp->Prop),Inv X pins σ H s->RelV o ov->RelV i iv->RelV v u->t o i v H Q ->
  Av (Ax X.prog X.w) X.A (setItem ov iv u) (fun _ s'=>∃ H',Inv X pins σ H' s'/\Q H') X.xe s
section
noncomputable def uR(i:Nat):TG:=fun v σ H Q=>Q (σ.set i (some v)) H
theorem zpS(hN:X.N.Nodup)(hi:X.N[i]?=some x)(hx:Loc X.env.scope x)(hf:X.fn x=true\/X.env.scope.names.lookup x=some .local:=by first|exact .inl rfl|exact .inr rfl|assumption):PG X (.Name x pos) (uR i):=by
 intro pins s σ H v u Q I r h
 exact wpAny_assign_Name (zJ I hN hi hx r (fun s' I'=>⟨_,H,I',h⟩) hf)
noncomputable def zlK:mC:=fun vs σ H Q=>vs=[]/\Q σ H
noncomputable def zlJ(t:TG)(u:mC):mC:=fun vs σ H Q=>∃ v r,vs=v::r/\t v σ H fun σ' H'=>u r σ' H' Q
theorem zpW:mz X [] zlK:=by
 intro pins s σ H vs us Q I r h
 obtain⟨e,h⟩:=h
 subst e
 cases r
 exact assignInOrder_nil ⟨σ,H,I,h⟩
theorem zpV{t:TG}{u:mC}(h1:PG X e t)(h2:mz X es u)
  (hs:(C2 (e::es) X.env).map (·.2)=CG e X.env::(C2 es X.env).map (·.2):=by rfl):mz X (e::es) (zlJ t u):=by
 intro pins s σ H vs us Q I r h
 obtain⟨v,vr,e1,h⟩:=h
 subst e1
 cases r with
 | cons r rr =>
  rw [hs]
  refine G0 (aI (h1 pins s σ H _ _ _ I r h) fun _ s1 ⟨σ1,H1,I1,q1⟩=>?_)
  exact h2 pins s1 σ1 H1 _ _ Q I1 rr q1
noncomputable def zlO(K:ox)(n:Nat)(t:mC):TG:=fun v σ H Q=>∃ a xs,v=.ref a/\dO K H a xs/\xs.length=n/\t xs σ H Q
theorem zpU{t:mC}(hc:X.calm=true)(h:mz X es t)
  (hn:(C2 es X.env).length=n:=by rfl)(cK:(C2 es X.env).findIdx? (·.1)=none:=by rfl):PG X (.Tuple es k pos) (zlO X.K n t):=by
 intro pins s σ H v u Q I r hw
 obtain⟨a,xs,e1,hq,hl,hw⟩:=hw
 subst e1
 cases r
 obtain⟨its,rv,ht,hz⟩:=I.tuple hq
 refine assign_Tuple_tuple (I.ok.hd hc) ht (by simp [hn,<- hl,rv.length]) cK fun h' hx=>?_
 have I1:Inv X pins σ H { s with heap:=h' }:=I.kept (t':=s.toks) fun b o e=>hx b o (Bg (AV e)) e
 exact h pins _ σ H xs _ Q I1 (by simpa using rv) hw
noncomputable def zlN(to ti:TE)(t:zar):TG:=fun v σ H Q=>to σ H fun o H1=>ti σ H1 fun i H2=>t o i v H2 fun H3=>Q σ H3
theorem zpT{o i:Aq}{to ti:TE}{t:zar}(ho:PE X o to)(hi:PE X i ti)(hs:zdx X t)
  (ha:∀ v,CG (.Subscript o i pos) X.env v=(do
   let ov <- Dy [v] (Ay o X.env)
   let iv <- Dy [v,ov] (Ay i X.env)
   EX pos
   Dy [v,ov,iv] (setItem ov iv v)
   release [v,ov,iv] []):=by intro _;rfl):PG X (.Subscript o i pos) (zlN to ti t):=by
 intro pins s σ H v u Q I r h
 rw [ha]
 refine Ap (Ct (aI (ho pins s σ H _ I h) fun ov s1 ⟨x,H1,I1,r1,q1⟩=>?_))
 refine Ap (Ct (aI (hi pins s1 σ H1 _ I1 q1) fun iv s2 ⟨y,H2,I2,r2,q2⟩=>?_))
 refine Ap (Es (Ap (Ct (aI (hs pins s2 σ H2 x y v ov iv u _ I2 r1 r2 r q2) fun _ s3 ⟨H3,I3,q3⟩=>?_))))
 exact wpAny_release ⟨σ,H3,I3,q3⟩
noncomputable def wg(te:TE)(g:TG):TS:=fun D σ H=>te σ H fun x H1=>g x σ H1 D.nx
theorem zhe(he:PE X e te)(hg:PG X tg g)(hs:EY [tg] e pos.line X.env=pure false:=by rfl)(hw:EZ [tg] e X.env=pure none:=by rfl)
  (h1:(C2 [tg] X.env).map (·.2)=[CG tg X.env]:=by rfl):PS X (.Assign [tg] e pos) (wg te g):=by
 intro pins s σ H D I h
 refine wpAny_Assign_stores (aI (he pins s σ H _ I h) fun v s1 ⟨x,H1,I1,r1,q1⟩=>?_) hs hw
 rw [h1]
 exact aI (hg pins s1 σ H1 x v _ I1 r1 q1) fun _ s2 q=>q
theorem zf(hN:X.N.Nodup)(hi:X.N[i]?=some x)(hx:Loc X.env.scope x)(he:PE X e te)(hs:BR e (some (.Name x pos')) pos.line X.env=pure false:=by rfl)(hf:X.fn x=true\/X.env.scope.names.lookup x=some .local:=by first|exact .inl rfl|exact .inr rfl|assumption) :
  PS X (.Assign [.Name x pos'] e pos) (wg te (uR i)):=by
 intro pins s σ H D I h
 refine wpAny_Assign_Name (aI (he pins s σ H _ I h) fun v s1 ⟨y,H1,I1,r1,q1⟩=>?_) hs
 exact zJ I1 hN hi hx r1 (fun s2 I2=>⟨_,H1,I2,q1⟩) hf
noncomputable def zsH(i j:Nat)(ta:TA):TS:=fun D σ H=>ta σ H fun vs H1=>∃ v w,vs=[v,w]/\D.nx ((σ.set i (some v)).set j (some w)) H1
theorem zql{y:gV}{px py pt:Az}{kt k2 lh}(hc:X.calm=true)(hN:X.N.Nodup)(hi:X.N[i]?=some x)(hj:X.N[j]?=some y)(hJ:i≠j)
  (hx:X.env.scope.names.lookup x=some .local)(hy:X.env.scope.names.lookup y=some .local)(ha:PA X [a,b] ta)
  (hw:EZ [.Tuple [.Name x px,.Name y py] kt pt] (.Tuple [a,b] k2 lh) X.env=pure (some [x,y]))
  (hs:EY [.Tuple [.Name x px,.Name y py] kt pt] (.Tuple [a,b] k2 lh) pos.line X.env=pure false:=by rfl) :
  PS X (.Assign [.Tuple [.Name x px,.Name y py] kt pt] (.Tuple [a,b] k2 lh) pos) (zsH i j ta):=by
 intro pins s σ H D I h
 rw [exec_Assign_arm]
 refine Ap (Es ?_)
 rw [hs]
 refine Ap (AH ?_)
 rw [if_neg (by decide)]
 refine Ap (Tuple_ (aI (ha _ pins s σ H _ I h) fun us s1 ⟨vs,H1,I1,r1,q1⟩=>?_))
 obtain⟨v,w,e1,q1⟩:=q1
 subst e1
 obtain⟨u1,u2,rfl,rv,gJ⟩:∃ u1 u2,us=[u1,u2]/\RelV v u1/\RelV w u2:=by
  cases r1 with
  | cons p q =>
   cases q with
   | cons p' q' =>
    cases q'
    exact⟨_,_,rfl,p,p'⟩
 refine CY ?_ (by show 2<=AK;decide)
 have I2:Inv X pins σ H1 { s1 with heap:=s1.heap.push { cls:=.type "tuple",data:=.seq [u1,u2].toArray } }:=I1.kept (t':=s1.toks) fun b o e=>A5 _ e
 rw [hw]
 refine Ap (AH ?_)
 show Av (Ax X.prog X.w) X.A (do rule "assign.swapped-stores";let items <- unpackItems (.ref s1.heap.objs.size) 2 none;GZ [fun v=>bindName X.env y v,fun v=>bindName X.env x v] items.reverse;pure Flow.next) _ _ _
 refine Ap (Et (Ap (unpackItems_tuple (items:=#[u1,u2]) (I.ok.hd hc) (Fu s1.heap _) fun h' hx'=>?_)))
 have I3:=I2.kept (h':=h') (t':=s1.toks) fun b o e=>hx' b o (Bg (AV e)) e
 show Av _ _ (GZ [fun v=>bindName X.env y v,fun v=>bindName X.env x v] [u2,u1] >>= fun _=>pure Flow.next) _ _ _
 refine Ap (G0 (wpAny_bindName (zJ I3 hN hj (.inl hy) gJ (fun s2 I4=>?_) (.inr hy))))
 refine G0 (wpAny_bindName (zJ I4 hN hi (.inl hx) rv (fun s3 I5=>assignInOrder_nil (AH ?_)) (.inr hx)))
 rw [List.set_comm _ _ (Cd hJ)] at I5
 exact⟨_,H1,I5,q1⟩
end
section
noncomputable def zsM(c:TT)(tb:TS):TS:=fun D σ H=>∃ W:Nat->St->Hp->Prop,(∃ m,W m σ H)/\∀ m σ H,W m σ H ->
 c σ H fun b H1=>if b=true then ∃ N:St->Hp->Prop,(∀ σ' H',N σ' H'->∃ m',m'<m/\W m' σ' H')/\tb { D with nx:=N,ct:=N,bk:=D.nx } σ H1 else D.nx σ H1
theorem zqo(hp:Fv (Ax X.prog X.w) X.A X.env X.xe)(hc:PT X c tc)(hb:cG X body tb):PS X (.While c body [] pos) (zsM tc tb):=by
 intro pins s σ H D I h
 obtain⟨W,⟨m0,w0⟩,turn⟩:=h
 refine wpAny_While (codeAny_whileLoop (fun n s'=>∃ σ' H',Inv X pins σ' H' s'/\W n σ' H') ?_ m0 ⟨σ,H,I,w0⟩)
 rintro n s1 ⟨σ1,H1,I1,w1⟩
 refine Eu hp (aI (hc pins s1 σ1 H1 _ I1 (turn n σ1 H1 w1)) fun b s2 ⟨H2,I2,q2⟩=>?_)
 cases b with
 | true =>
  obtain⟨N,hN,q2⟩:=q2
  rw [if_pos rfl]
  refine Eu hp (aI (hb pins s2 σ1 H2 _ I2 q2) fun f s3 q3=>?_)
  cases f with
  | next =>
   obtain⟨σ3,H3,I3,n3⟩:=q3
   obtain⟨m',hm,w3⟩:=hN σ3 H3 n3
   exact⟨m',hm,σ3,H3,I3,w3⟩
  | cont =>
   obtain⟨σ3,H3,I3,n3⟩:=q3
   obtain⟨m',hm,w3⟩:=hN σ3 H3 n3
   exact⟨m',hm,σ3,H3,I3,w3⟩
  | brk=>exact q3
  | ret v=>exact q3
 | false =>
  rw [if_neg C3]
  exact F4 ⟨σ1,H2,I2,q2⟩
end
structure It where
 go:Nat->Hp->Prop
 Al:Nat->Hp->V->Hp->Prop
 stop:Nat->Hp->Prop
def gi(X:Cx)(pins:List (ir×AA))(H:Hp)(b:ir):Prop :=
 H b=none/\b≠X.env.locals/\b∉X.fs/\(b∈X.ex\/X.s₀.heap.objs.size<=b)/\(∀ x c,X.env.cells.lookup x=some c->c≠b)/\∀ p∈X.pn++pins,p.1≠b
theorem Inv.jJ{b:ir}(I:Inv X pins σ H s)(hb:s.heap.objs.size<=b)(hn:H' b=none):gi X pins H' b:=by
 refine⟨hn,De (BL I.lt hb),I.zoK hb,.inr (Bj I.sz hb),fun x c e z=>?_,fun p hp z=>?_⟩
 ·obtain⟨v,q⟩:=I.cell x c e
  exact absurd (BL q.lt (by rw [z];exact hb)) (EV _)
 ·exact absurd (BL (AV (I.pin p hp).1) (by rw [z];exact hb)) (EV _)
structure Turn(P:AO)(w:AJ)(K:ox)(tg:Aq)(J:It)(fp:List ir)(it:ir)(tn:Nat->AD->Prop):Prop where
 mem:it∈fp
 obj:∀ i h,tn i h->∀ b∈fp,∃ o,h.get? b=some o/\∀ v,o.data≠.cell v
 keep:∀ i h h',tn i h->(∀ b∈fp,∀ o,h.get? b=some o->h'.get? b=some o)->tn i h'
 item:∀(X:Cx),X.prog=P->X.w=w->X.K=K->X.calm=true->∀(i:Nat) (pins:List (ir×AA)) (s:kb) (σ:St) (H:Hp) (E:dm->kb->Prop),Inv X pins σ H s->(∀ b∈fp,gi X pins H b)->tn i s.heap->J.go i H ->
  Av (Ax P w) X.A (Df (.ref it)) (fun r s1=>∃ u,r=some u /\
   Av (Ax P w) X.A (F5 tg (.ref it) u) (fun _ s2=>∃ x H',Inv X pins σ H' s2/\RelV x u/\J.Al i H x H'/\tn (i+1) s2.heap/\∀ b∈fp,H' b=none) E s1) E s
 done:∀(X:Cx),X.prog=P->X.w=w->X.K=K->X.calm=true->∀(i:Nat) (pins:List (ir×AA)) (s:kb) (σ:St) (H:Hp) (E:dm->kb->Prop),Inv X pins σ H s->(∀ b∈fp,gi X pins H b)->tn i s.heap->J.stop i H ->
  Av (Ax P w) X.A (Df (.ref it)) (fun r s1=>r=none/\Inv X pins σ H s1) E s
 self:∀(A:AY) (i:Nat) (s:kb) (Q:dm->kb->Prop) (E:dm->kb->Prop),tn i s.heap->Q (.ref it) s->Av (Ax P w) A (pyIter (.ref it)) Q E s
abbrev TI:=St->Hp->(It->Hp->Prop)->Prop
def PIE(X:Cx)(pins:List (ir×AA))(σ:St)(tg:Aq)(R:It->Hp->Prop)(yD:dm)(s2:kb):Prop :=
 ∃(it:ir) (fp:List ir) (tn:Nat->AD->Prop) (J:It) (H':Hp),yD=.ref it/\Inv X pins σ H' s2/\Turn X.prog X.w X.K tg J fp it tn/\tn 0 s2.heap/\(∀ b∈fp,gi X pins H' b)/\R J H'
def PI(X:Cx)(tg iter:Aq)(wi:TI):Prop :=
 ∀(pins:List (ir×AA)) (s:kb) (σ:St) (H:Hp) (R:It->Hp->Prop),Inv X pins σ H s->wi σ H R ->
  Av (Ax X.prog X.w) X.A (Ay iter X.env) (fun v s1=>Av (Ax X.prog X.w) X.A (pyIter v) (PIE X pins σ tg R) X.xe s1) X.xe s
theorem uW{n:String}{Q:Unit->kb->Prop}(ho:s.heap.get? it=some o)(hc:o.cls=.type n)(hd:o.data=.fields vs)
    (hn:["enumerate","zip","dict_itemiterator","dict_reverseitemiterator","odict_iterator","itertools.zip_longest","itertools.pairwise"].contains n=false) (hQ:Q () s):Av M A (F5 tg (.ref it) u) Q E s:=by
  unfold F5
  cases tg <;> first
    | exact AH hQ
    | (cases u <;> first
        | exact AH hQ
        | (refine Ap (wpAny_load ho ?_)
           rw [hc,hd]
           show Av M A (if(["enumerate","zip","dict_itemiterator","dict_reverseitemiterator","odict_iterator","itertools.zip_longest","itertools.pairwise"].contains n&&vs[0]?==some (C4 _))=true then _ else _) Q E s
           rw [if_neg (by intro h;rw [hn,Bool.false_and] at h;cases h)]
           exact AH hQ))
noncomputable def Itl(K:ox)(a:ir):It :=
 ⟨fun i H=>∃ xs x,bB K H a xs/\xs[i]?=some x,fun i H x H'=>H'=H/\∀ xs,bB K H a xs->xs[i]?=some x,fun i H=>∃ xs,bB K H a xs/\xs.length<=i⟩
noncomputable def Itt(K:ox)(a:ir):It :=
 ⟨fun i H=>∃ xs x,dO K H a xs/\xs[i]?=some x,fun i H x H'=>H'=H/\∀ xs,dO K H a xs->xs[i]?=some x,fun i H=>∃ xs,dO K H a xs/\xs.length<=i⟩
noncomputable def ub(lo:Int)(n:Nat):It:=⟨fun i _=>i<n,fun i H x H'=>H'=H/\x=.int (lo+i),fun i _=>n<=i⟩
theorem zs2{K:ox}(a it:ir):Turn P w K tg (Itl K a) [it] it (fun i h=>h.IsListIter it a i) where
 mem:=by simp
 obj:=fun i h st b hb=>by
  have e:b=it:=by simpa using hb
  subst e
  obtain⟨o,e,c,d⟩:=st
  exact⟨o,e,fun v z=>by rw [d] at z;cases z⟩
 keep:=fun i h h' st k=>st.at fun o e=>k it (by simp) o e
 item:=by
  intro X hP hw hK hc i pins s σ H E I hf st hg
  subst hP hw hK
  obtain⟨xs,x,hq,hx⟩:=hg
  obtain⟨its,rv,p,hz⟩:=I.list hq
  obtain⟨u,hu,ru⟩:=rv.get hx
  obtain⟨f0,f1,f2,f3,f4,f5⟩:=hf it (by simp)
  refine wpAny_pyNext_list_item st p.isList (x:=u) (by simpa using hu) fun h' iz sb=>?_
  have I1:Inv X pins σ H { s with heap:=h' }:=I.turned (t':=s.toks) (fun b o hb e=>(sb.2 b hb).trans e) f0 f1 f3 f4 f5
  obtain⟨o,e,c,d⟩:=id iz
  exact⟨u,rfl,uW (s:={ s with heap:=h' }) e c d (by decide) ⟨x,H,I1,ru,⟨rfl,fun ys hy=>by rw [I.rV hy hq];exact hx⟩,iz,fun b hb=>(hf b hb).1⟩⟩
 done:=by
  intro X hP hw hK hc i pins s σ H E I hf st hg
  subst hP hw hK
  obtain⟨xs,hq,hx⟩:=hg
  obtain⟨its,rv,p,hz⟩:=I.list hq
  obtain⟨f0,f1,f2,f3,f4,f5⟩:=hf it (by simp)
  have hl:=rv.length
  exact wpAny_pyNext_list_end (I.ok.hd hc) st p.isList (by simp;lia) fun h' eb=>⟨rfl,I.turned (t':=s.toks) (fun b o hb e=>eb b o hb e) f0 f1 f3 f4 f5⟩
 self:=fun _ _ _ _ _ st h=>wpAny_pyIter_listiter st h
theorem zs5{K:ox}(a it:ir):Turn P w K tg (Itt K a) [it] it (fun i h=>h.IsTupleIter it a i) where
 mem:=by simp
 obj:=fun i h st b hb=>by
  have e:b=it:=by simpa using hb
  subst e
  obtain⟨o,e,c,d⟩:=st
  exact⟨o,e,fun v z=>by rw [d] at z;cases z⟩
 keep:=fun i h h' st k=>st.at fun o e=>k it (by simp) o e
 item:=by
  intro X hP hw hK hc i pins s σ H E I hf st hg
  subst hP hw hK
  obtain⟨xs,x,hq,hx⟩:=hg
  obtain⟨its,rv,p,hz⟩:=I.tuple hq
  obtain⟨u,hu,ru⟩:=rv.get hx
  obtain⟨f0,f1,f2,f3,f4,f5⟩:=hf it (by simp)
  refine wpAny_pyNext_tuple_item st (show s.heap.IsTuple a its.toArray from p) (x:=u) (by simpa using hu) fun h' iz sb=>?_
  have I1:Inv X pins σ H { s with heap:=h' }:=I.turned (t':=s.toks) (fun b o hb e=>(sb.2 b hb).trans e) f0 f1 f3 f4 f5
  obtain⟨o,e,c,d⟩:=id iz
  exact⟨u,rfl,uW (s:={ s with heap:=h' }) e c d (by decide) ⟨x,H,I1,ru,⟨rfl,fun ys hy=>by rw [I.zh8 hy hq];exact hx⟩,iz,fun b hb=>(hf b hb).1⟩⟩
 done:=by
  intro X hP hw hK hc i pins s σ H E I hf st hg
  subst hP hw hK
  obtain⟨xs,hq,hx⟩:=hg
  obtain⟨its,rv,p,hz⟩:=I.tuple hq
  obtain⟨f0,f1,f2,f3,f4,f5⟩:=hf it (by simp)
  have hl:=rv.length
  exact wpAny_pyNext_tuple_end (I.ok.hd hc) st (show s.heap.IsTuple a its.toArray from p) (by simp;lia) fun h' eb=>⟨rfl,I.turned (t':=s.toks) (fun b o hb e=>eb b o hb e) f0 f1 f3 f4 f5⟩
 self:=fun _ _ _ _ _ st h=>wpAny_pyIter_tupleiter st h
theorem zs3{K:ox}(it:ir)(lo:Int)(n:Nat):Turn P w K tg (ub lo n) [it] it (fun i h=>IsRangeIter h it (lo+(i:Nat)*1) ((n:Int)-(i:Nat)) 1) where
 mem:=by simp
 obj:=fun i h st b hb=>by
  have e:b=it:=by simpa using hb
  subst e
  exact⟨_,st,fun v z=>by
   have z':Data.fields _=Data.cell v:=z
   cases z'⟩
 keep:=fun i h h' st k=>k it (by simp) _ st
 item:=by
  intro X hP hw hK hc i pins s σ H E I hf st hg
  subst hP hw hK
  obtain⟨f0,f1,f2,f3,f4,f5⟩:=hf it (by simp)
  have W:=Walks.range (prog:=X.prog) (w:=X.w) (I.ok.hd hc) it lo 1 n
  refine W.item i s _ _ hg st fun v h' tk hv iz kk=>?_
  obtain⟨t,rfl⟩:=hv
  have I1:Inv X pins σ H { s with heap:=h',toks:=tk }:=I.turned (fun b o hb e=>kk b o (by simpa using hb) e) f0 f1 f3 f4 f5
  refine⟨_,rfl,uW (s:={ s with heap:=h',toks:=tk }) (n:="range_iterator") iz rfl rfl (by decide) ⟨.int (lo+i),H,I1,⟨t,?_⟩,⟨rfl,rfl⟩,iz,fun b hb=>(hf b hb).1⟩⟩
  rw [Int.mul_one]
 done:=by
  intro X hP hw hK hc i pins s σ H E I hf st hg
  subst hP hw hK
  obtain⟨f0,f1,f2,f3,f4,f5⟩:=hf it (by simp)
  exact wpAny_pyNext_range_end (I.ok.hd hc) st (by have:n<=i:=hg;lia) fun h' eb=>⟨rfl,I.turned (t':=s.toks) (fun b o hb e=>eb b o hb e) f0 f1 f3 f4 f5⟩
 self:=fun _ _ _ _ _ st h=>wpAny_pyIter_rangeiter st h
end
variable {iter:Aq}{tk:Nat}{wi:TI}{tc:TE}{p:Az}{t:TA}{fp:List ir}
section
section
theorem zhz{R:It->Hp->Prop}{lo hi:Int}{t u v:Bf}(I:Inv X pins σ H s)(h1:-(2^62)<=lo)(h2:lo<2^62)(h3:-(2^62)<=hi)(h4:hi<2^62)
  (q:R (ub lo (hi-lo).toNat) H):Av (Ax X.prog X.w) X.A (pyIter (.ref s.heap.objs.size)) (PIE X pins σ tg R) E { s with heap:=s.heap.push { cls:=.type "range",data:=.fields #[.int lo t,.int hi u,.int 1 v] },toks:=tk }:=by
 refine wpAny_pyIter_range (IsRange.new ..) (small_one h1 h2 h3 h4) ?_
 have I1:Inv X pins σ H { s with heap:=s.heap.push { cls:=.type "range",data:=.fields #[.int lo t,.int hi u,.int 1 v] },toks:=tk }:=I.kept fun b o e=>A5 _ e
 refine⟨(s.heap.push { cls:=.type "range",data:=.fields #[.int lo t,.int hi u,.int 1 v] }).objs.size,[(s.heap.push { cls:=.type "range",data:=.fields #[.int lo t,.int hi u,.int 1 v] }).objs.size],_,_,H,rfl,
  I1.kept (t':=tk) fun b o e=>A5 _ e,zs3 _ lo (hi-lo).toNat,?_,fun b hb=>?_,q⟩
 ·have e1:lo+((0:Nat):Int)*1=lo:=by simp
  have e2:(((hi-lo).toNat:Nat):Int)-((0:Nat):Int)=Builtin.Range.rangeSize lo hi 1:=by rw [rangeSize_one];split <;> lia
  show IsRangeIter _ _ (lo+((0:Nat):Int)*1) ((((hi-lo).toNat:Nat):Int)-((0:Nat):Int)) 1
  rw [e1,e2]
  exact Bl _ rfl
 ·have e:b=(s.heap.push { cls:=.type "range",data:=.fields #[.int lo t,.int hi u,.int 1 v] }).objs.size:=by simpa using hb
  subst e
  exact I1.jJ (AI _) (I1.az.fresh (AI _))
def zmo(ta:TA):TI:=fun σ H R=>ta σ H fun vs H1=>∃ j:Int,vs=[.int j]/\-(2^62)<=j/\j<2^62/\R (ub 0 j.toNat) H1
def zmp(ta:TA):TI:=fun σ H R=>ta σ H fun vs H1=>∃ i j:Int,vs=[.int i,.int j]/\(-(2^62)<=i/\i<2^62/\-(2^62)<=j/\j<2^62)/\R (ub i (j-i).toNat) H1
theorem zp0(hg:Gl X "range") (hm:X.mg "range"=none) (ha:PA X [a] ta) (hs:Au [a] X.env=[(false,Ay a X.env)]:=by rfl):PI X tg (.Call (.Name "range" p) [a] [] pos) (zmo ta):=by
 intro pins s σ H R I h
 refine Call_ (mX I hg hm boot_range (E1 (aI (ha pos pins s σ H _ I h) fun us s1 ⟨vs,H1,I1,r1,q1⟩=>?_) hs rfl))
 obtain⟨j,e,q1,q2,q⟩:=q1
 subst e
 cases r1 with
 | cons r rr =>
  cases rr
  obtain⟨t,rfl⟩:=r
  exact call_range_1 (zhz I1 (by lia) (by lia) q1 q2 (by simpa using q))
theorem zp1(hg:Gl X "range") (hm:X.mg "range"=none) (ha:PA X [a,b] ta) (hs:Au [a,b] X.env=[(false,Ay a X.env),(false,Ay b X.env)]:=by rfl) (dh:Au [b] X.env=[(false,Ay b X.env)]:=by rfl) :
  PI X tg (.Call (.Name "range" p) [a,b] [] pos) (zmp ta):=by
 intro pins s σ H R I h
 refine Call_ (mX I hg hm boot_range (E1 (aI (ha pos pins s σ H _ I h) fun us s1 ⟨vs,H1,I1,r1,q1⟩=>?_) (by rw [hs,dh]) (by rw [dh];rfl)))
 obtain⟨i,j,e,⟨q1,q2,q3,q4⟩,q⟩:=q1
 subst e
 cases r1 with
 | cons r rr =>
  cases rr with
  | cons r' rr =>
   cases rr
   obtain⟨t,rfl⟩:=r
   obtain⟨t',rfl⟩:=r'
   exact call_range_2 (zhz I1 q1 q2 q3 q4 q)
noncomputable def zsy(wi:TI)(g:TG)(tb:TS):TS:=fun D σ H=>wi σ H fun J H1=>∃ W:Nat->Nat->St->Hp->Prop,(∃ m,W 0 m σ H1)/\∀ i m σ H,W i m σ H ->
 (J.stop i H/\D.nx σ H)\/(J.go i H/\∃ N:St->Hp->Prop,(∀ σ' H',N σ' H'->∃ m',m'<m/\W (i+1) m' σ' H')/\∀ x H',J.Al i H x H'->g x σ H' fun σ2 H2=>tb { D with nx:=N,ct:=N,bk:=D.nx } σ2 H2)
noncomputable def sA(fp:List ir)(h:AD):List (ir×AA):=fp.filterMap fun b=>(h.get? b).map fun o=>(b,o)
theorem rX{b:ir}(hb:b∈fp)(e:h.get? b=some o):(b,o)∈sA fp h:=G1.mpr ⟨b,hb,by rw [e];rfl⟩
theorem zo6{p:ir×AA}(hp:p∈sA fp h):p.1∈fp/\h.get? p.1=some p.2:=by
 obtain⟨b,hb,e⟩:=G1.mp hp
 cases q:h.get? b with
 | none=>rw [q] at e;cases e
 | some o =>
  rw [q] at e
  have e':(b,o)=p:=BP e
  subst e'
  exact⟨hb,q⟩
theorem Inv.pinned(I:Inv X pins σ H s)(hf:∀ b∈fp,gi X pins H b)(ho:∀ b∈fp,∃ o,s.heap.get? b=some o/\∀ v,o.data≠.cell v):Inv X (pins++sA fp s.heap) σ H s :=
 I.zg9 fun p hp=>(B2.mp hp).elim (fun z=>I.pin p (Cj _ z)) fun z=>by
  obtain⟨hb,e⟩:=zo6 z
  obtain⟨f0,f1,f2,_⟩:=hf p.1 hb
  obtain⟨o,e',d⟩:=ho p.1 hb
  rw [e] at e';cases e'
  exact⟨e,f0,f1,f2,d⟩
theorem Inv.wt{pl:List (ir×AA)}(I:Inv X (pins++pl) σ H s):Inv X pins σ H s:=I.zg9 fun p hp=>I.pin p (Cj _ (D7 _ hp))
theorem zqj(hp:Fv (Ax X.prog X.w) X.A X.env X.xe)(hc:X.calm=true)(hi:PI X tg iter wi)(hg:PG X tg g)(hb:cG X body tb)
  (hs:∀ x,Dg iter X.env x=pure x:=by intro _;rfl):PS X (.For tg iter body [] pos) (zsy wi g tb):=by
 intro pins s σ H D I h
 refine wpAny_For (aI (hi pins s σ H _ I h) fun v s1 h1=>aI h1 fun yD s2 h2=>?_) hs
 obtain⟨it,fp,tn,J,H2,e,I2,T,bT,f2,W,⟨m0,w0⟩,turn⟩:=h2
 subst e
 have stat:∀{H':Hp},(∀ b∈fp,H' b=none)->∀ b∈fp,gi X pins H' b:=fun hn b hb=>⟨hn b hb,(f2 b hb).2⟩
 refine codeAny_forLoop_any (fun n s'=>∃ i σ' H',Inv X pins σ' H' s'/\tn i s'.heap/\(∀ b∈fp,H' b=none)/\W i n σ' H') ?_ m0 ⟨0,σ,H2,I2,bT,fun b hb=>(f2 b hb).1,w0⟩
 rintro n s3 ⟨i,σ3,H3,I3,kr,fr3,w3⟩
 rcases turn i n σ3 H3 w3 with⟨stop,qn⟩|⟨go,N,hN,step⟩
 ·refine Eu hp (aI (T.done X rfl rfl rfl hc i pins s3 σ3 H3 X.xe I3 (stat fr3) kr stop) fun r s4 ⟨hr,I4⟩=>?_)
  subst hr
  exact F4 ⟨σ3,H3,I4,qn⟩
 ·refine Eu hp (aI (T.item X rfl rfl rfl hc i pins s3 σ3 H3 X.xe I3 (stat fr3) kr go) fun r s4 ⟨u,hr,h4⟩=>?_)
  subst hr
  refine Eu hp (aI h4 fun _ s5 ⟨x,H5,I5,r5,y5,ni,fr5⟩=>?_)
  have I5':=I5.pinned (stat fr5) (T.obj _ _ ni)
  refine Eu hp (aI (hg _ s5 σ3 H5 x u _ I5' r5 (step x H5 y5)) fun _ s6 ⟨σ6,H6,I6,q6⟩=>?_)
  refine Eu hp (aI (hb _ s6 σ6 H6 _ I6 q6) fun f s7 q7=>?_)
  have again:∀{σ7:St} {H7:Hp},Inv X (pins++sA fp s5.heap) σ7 H7 s7->N σ7 H7->∃ m,m<n/\∃ i σ' H',Inv X pins σ' H' s7/\tn i s7.heap/\(∀ b∈fp,H' b=none)/\W i m σ' H':=fun{σ7 H7} I7 n7=>by
   obtain⟨m',hm,w7⟩:=hN σ7 H7 n7
   refine⟨m',hm,i+1,σ7,H7,I7.wt,T.keep _ _ _ ni fun b hb o e=>(I7.pin (b,o) (Cj _ (Cj _ (rX hb e)))).1,fun b hb=>?_,w7⟩
   obtain⟨o,e,d⟩:=T.obj _ _ ni b hb
   exact(I7.pin (b,o) (Cj _ (Cj _ (rX hb e)))).2.1
  cases f with
  | next=>obtain⟨σ7,H7,I7,n7⟩:=q7;exact again I7 n7
  | cont=>obtain⟨σ7,H7,I7,n7⟩:=q7;exact again I7 n7
  | brk=>obtain⟨σ7,H7,I7,q7⟩:=q7;exact⟨σ7,H7,I7.wt,q7⟩
  | ret v=>obtain⟨x7,σ7,H7,I7,r7,q7⟩:=q7;exact⟨x7,σ7,H7,I7.wt,r7,q7⟩
end
end
variable {g:Int->Int->Int}{C:Int->Int->Prop}{ta tb:TE}{f:dm->dm->Sem dm}{iO op:CZ}{its:List dm}{κ:Type}{r r':R2}
section
abbrev R2:=V->V->Hp->VK->Prop
def aV(X:Cx)(f:dm->dm->Sem dm)(r:R2):Prop :=
 ∀(pins:List (ir×AA)) (s:kb) (σ:St) (H:Hp) (x y:V) (v u:dm) (Q:VK),Inv X pins σ H s->RelV x v->RelV y u->r x y H Q ->
  Av (Ax X.prog X.w) X.A (f v u) (EP X pins σ Q) X.xe s
def uh(X:Cx)(f:dm->Sem dm)(r:V->Hp->VK->Prop):Prop :=
 ∀(pins:List (ir×AA)) (s:kb) (σ:St) (H:Hp) (x:V) (v:dm) (Q:VK),Inv X pins σ H s->RelV x v->r x H Q ->
  Av (Ax X.prog X.w) X.A (f v) (EP X pins σ Q) X.xe s
def iW(X:Cx)(f:dm)(r:List V->Hp->VK->Prop):Prop :=
 ∀(pins:List (ir×AA)) (s:kb) (σ:St) (H:Hp) (xs:List V) (us:List dm) (Q:VK),Inv X pins σ H s->Vals xs us->r xs H Q ->
  Av (Ax X.prog X.w) X.A (call f us) (EP X pins σ Q) X.xe s
def zaC(X:Cx)(r:V->Hp->(Bool->Hp->Prop)->Prop):Prop :=
 ∀(pins:List (ir×AA)) (s:kb) (σ:St) (H:Hp) (x:V) (v:dm) (Q:Bool->Hp->Prop),Inv X pins σ H s->RelV x v->r x H Q ->
  Av (Ax X.prog X.w) X.A (truthy v) (TP X pins σ Q) X.xe s
noncomputable def qB(r:R2)(ta tb:TE):TE:=fun σ H Q=>ta σ H fun x H1=>tb σ H1 fun y H2=>r x y H2 Q
noncomputable def tUn(r:V->Hp->VK->Prop)(ta:TE):TE:=fun σ H Q=>ta σ H fun x H1=>r x H1 Q
noncomputable def rI(C:Int->Int->Prop)(g:Int->Int->V):R2:=fun x y H Q=>∃ i j,x=.int i/\y=.int j/\C i j/\Q (g i j) H
noncomputable def nh(g:Int->Int->V):R2:=fun x y H Q=>∃ i j,x=.int i/\y=.int j/\Q (g i j) H
noncomputable def rU(g:Int->V):V->Hp->VK->Prop:=fun x H Q=>∃ i,x=.int i/\Q (g i) H
section
theorem zaR(ha:PE X a ta)(hb:PE X b tb){R:V->V->Hp->Prop}(I:Inv X pins σ H s)
  (h:ta σ H fun x H1=>tb σ H1 fun y H2=>R x y H2)
  (hf:∀ v u s2 x y H2,Inv X pins σ H2 s2->RelV x v->RelV y u->R x y H2->Av (Ax X.prog X.w) X.A (f v u) Q X.xe s2) :
  Av (Ax X.prog X.w) X.A (Ay a X.env) (fun v s₁=>Av (Ax X.prog X.w) X.A (Ay b X.env) (fun u s₂=>Av (Ax X.prog X.w) X.A (f v u) Q X.xe s₂) X.xe s₁) X.xe s:=by
 refine aI (ha pins s σ H _ I h) fun v s1 ⟨x,H1,I1,r1,q1⟩=>?_
 refine aI (hb pins s1 σ H1 _ I1 q1) fun u s2 ⟨y,H2,I2,r2,q2⟩=>?_
 exact hf v u s2 x y H2 I2 r1 r2 q2
theorem zg3{op:Operator}(ho:aV X (B5 op) r)(ha:PE X a ta)(hb:PE X b tb):PE X (.BinOp a op b pos) (qB r ta tb):=by
 intro pins s σ H Q I h
 exact wpAny_BinOp (zaR ha hb I h fun v u s2 x y H2 I2 rx ry q=>ho pins s2 σ H2 x y v u Q I2 rx ry q)
theorem zpP{op:UnaryOp}{r:V->Hp->VK->Prop}(ho:uh X (unaryOp op) r)(ha:PE X a ta):PE X (.UnaryOp op a pos) (tUn r ta):=by
 intro pins s σ H Q I h
 exact UnaryOp_ (aI (ha pins s σ H _ I h) fun v s1 ⟨x,H1,I1,r1,q1⟩=>ho pins s1 σ H1 x v Q I1 r1 q1)
theorem opI
  (rule:∀(i j:Int) (t u:Bf) (s:kb) (Q:dm->kb->Prop) (E:dm->kb->Prop),C i j->Q (.int (g i j) s.toks) { s with toks:=s.toks+1 }->Av (Ax X.prog X.w) X.A (f (.int i t) (.int j u)) Q E s) :
  aV X f (rI C fun i j=>.int (g i j)):=by
 intro pins s σ H x y v u Q I rx ry h
 obtain⟨i,j,rfl,rfl,hc,q⟩:=h
 obtain⟨t,rfl⟩:=rx
 obtain⟨t',rfl⟩:=ry
 exact rule i j t t' s _ _ hc ⟨.int (g i j),H,I.tok _,⟨_,rfl⟩,q⟩
theorem zgR
  (rule:∀(i j:Int) (t u:Bf) (s:kb) (Q:dm->kb->Prop) (E:dm->kb->Prop),Q (.int (g i j) s.toks) { s with toks:=s.toks+1 }->Av (Ax X.prog X.w) X.A (f (.int i t) (.int j u)) Q E s) :
  aV X f (nh fun i j=>.int (g i j)):=by
 intro pins s σ H x y v u Q I rx ry h
 obtain⟨i,j,rfl,rfl,q⟩:=h
 obtain⟨t,rfl⟩:=rx
 obtain⟨t',rfl⟩:=ry
 exact rule i j t t' s _ _ ⟨.int (g i j),H,I.tok _,⟨_,rfl⟩,q⟩
theorem zcv{g:Int->Int->Bool}
  (rule:∀(i j:Int) (t u:Bf) (s:kb) (Q:dm->kb->Prop) (E:dm->kb->Prop),Q (.bool (g i j)) s->Av (Ax X.prog X.w) X.A (f (.int i t) (.int j u)) Q E s) :
  aV X f (nh fun i j=>.bl (g i j)):=by
 intro pins s σ H x y v u Q I rx ry h
 obtain⟨i,j,rfl,rfl,q⟩:=h
 obtain⟨t,rfl⟩:=rx
 obtain⟨t',rfl⟩:=ry
 exact rule i j t t' s _ _ ⟨.bl (g i j),H,I,rfl,q⟩
def zdr(i j:Int):Prop:=0<=j/\j<=1000000/\i.natAbs<2^64
theorem zo7:aV X (B5 .Add) (nh fun i j=>.int (i+j)):=zgR fun _ _ _ _ _ _ _ q=>add_int q
theorem zpn:aV X (B5 .Sub) (nh fun i j=>.int (i-j)):=zgR fun _ _ _ _ _ _ _ q=>sub_int q
theorem zpi:aV X (B5 .Mod) (rI (fun _ j=>j≠0) fun i j=>.int (i.fmod j)):=opI fun _ _ _ _ _ _ _ hc q=>mod_int' hc q
theorem zpl:aV X (B5 .Pow) (rI zdr fun i j=>.int (i^j.toNat)):=opI fun _ _ _ _ _ _ _ hc q=>pow_int_small hc.1 hc.2.1 hc.2.2 q
theorem unI{f:dm->Sem dm}{g:Int->Int}
  (rule:∀(i:Int) (t:Bf) (s:kb) (Q:dm->kb->Prop) (E:dm->kb->Prop),Q (.int (g i) s.toks) { s with toks:=s.toks+1 }->Av (Ax X.prog X.w) X.A (f (.int i t)) Q E s) :
  uh X f (rU fun i=>.int (g i)):=by
 intro pins s σ H x v Q I rx h
 obtain⟨i,rfl,q⟩:=h
 obtain⟨t,rfl⟩:=rx
 exact rule i t s _ _ ⟨.int (g i),H,I.tok _,⟨_,rfl⟩,q⟩
theorem zta:uh X (unaryOp .USub) (rU fun i=>.int (-i)):=unI fun _ _ _ _ _ q=>neg_int q
end
section
theorem zfm{Q:VK}{k k':Bool}(I:Inv X pins σ H s)(q:Q (.bl k) H)(e:k=k'):EP X pins σ Q (.bool k') s:=by
 subst e
 exact⟨.bl k,H,I,rfl,q⟩
theorem zph:aV X (A3 .Lt) (nh fun i j=>.bl (decide (i<j))):=zcv fun _ _ _ _ _ _ _ q=>lt_int q
theorem zpg:aV X (A3 .LtE) (nh fun i j=>.bl (decide (i<=j))):=zcv fun _ _ _ _ _ _ _ q=>le_int q
theorem zpb:aV X (A3 .GtE) (nh fun i j=>.bl (decide (j<=i))):=zcv fun _ _ _ _ _ _ _ q=>ge_int q
theorem zpe:aV X (A3 .In) (fun x y H Q=>∃ i j,x=.str i/\y=.str j/\Q (.bl (!(C5 j i 0 j.length 1).isEmpty)) H):=by
 intro pins s σ H x y v u Q I rx ry h
 obtain⟨i,j,rfl,rfl,q⟩:=h
 obtain⟨t,rfl⟩:=rx
 obtain⟨t',rfl⟩:=ry
 exact in_str (zfm I q rfl)
theorem zpf:aV X (A3 .Is) (fun x y H Q=>y=.non/\Q (.bl (decide (x=.non))) H):=by
 intro pins s σ H x y v u Q I rx ry h
 obtain⟨rfl,q⟩:=h
 cases ry
 refine is_none_gen (zfm I q ?_)
 cases x <;> first
  | (cases rx;rfl)
  | (obtain⟨t,rfl⟩:=rx;rfl)
theorem zct(b:Aq)(h:op≠.In:=by decide)(h2:op≠.NotIn:=by decide):Dz op b=false:=by
 have e1:(op==CmpOp.In)=false:=by cases op <;> first|rfl|exact absurd rfl h
 have e2:(op==CmpOp.NotIn)=false:=by cases op <;> first|rfl|exact absurd rfl h2
 cases b <;> simp [Dz,e1,e2]
theorem zpz(ho:aV X (A3 op) r)(ha:PE X a ta)(hb:PE X b tb)(hm:Dz op b=false):PE X (.Compare a [op] [b] pos) (qB r ta tb):=by
 intro pins s σ H Q I h
 exact wpAny_Compare1 (zaR ha hb I h fun v u s2 x y H2 I2 rx ry q=>ho pins s2 σ H2 x y v u Q I2 rx ry q) hm
noncomputable def zhW(t:TE):TT:=fun σ H Q=>t σ H fun x H'=>∃ k,x=.bl k/\Q k H'
theorem zhi(ho:aV X (A3 op) r)(ha:PE X a ta)(hb:PE X b tb)(hm:Dz op b=false):PT X (.Compare a [op] [b] pos) (zhW (qB r ta tb)):=by
 intro pins s σ H Q I h
 refine wpAny_isTrue_Compare1 (aI (ha pins s σ H _ I h) fun v s1 ⟨x,H1,I1,r1,q1⟩=>aI (hb pins s1 σ H1 _ I1 q1) fun u s2 ⟨y,H2,I2,r2,q2⟩ =>
  aI (ho pins s2 σ H2 x y v u _ I2 r1 r2 q2) fun c s3 ⟨z,H3,I3,r3,k,e,q3⟩=>?_) hm
 subst e
 cases r3
 exact Er ⟨H3,I3,q3⟩
noncomputable def zc7(r r':R2)(ta tb tc:TE):TE:=fun σ H Q=>ta σ H fun x H1=>tb σ H1 fun y H2=>r x y H2 fun z H3=>∃ k,z=.bl k /\
 (if k=true then tc σ H3 fun w' H4=>r' y w' H4 Q else Q (.bl false) H3)
theorem zpy(ho:aV X (A3 op) r)(fT:aV X (A3 iO) r')(ha:PE X a ta)(hb:PE X b tb)(hc:PE X c tc)
  (hm:lastMarks [op,iO] [b,c]=false:=by with_unfolding_all rfl):PE X (.Compare a [op,iO] [b,c] pos) (zc7 r r' ta tb tc):=by
 intro pins s σ H Q I h
 refine Compare_chain (aI (ha pins s σ H _ I h) fun v s1 ⟨x,H1,I1,r1,q1⟩=>chain_link (aI (hb pins s1 σ H1 _ I1 q1) fun u s2 ⟨y,H2,I2,r2,q2⟩ =>
  aI (ho pins s2 σ H2 x y v u _ I2 r1 r2 q2) fun d s3 ⟨z,H3,I3,r3,k,e,q3⟩=>?_)) hm
 subst e
 cases r3
 refine Er ?_
 cases k with
 | false=>exact ite_ff ⟨.bl false,H3,I3,rfl,q3⟩
 | true=>exact ite_tt (chain_last (aI (hc pins s3 σ H3 _ I3 q3) fun w' s4 ⟨z',H4,I4,r4,q4⟩=>fT pins s4 σ H4 y z' u w' Q I4 r2 r4 q4))
theorem zqy(ho:aV X (A3 op) r)(fT:aV X (A3 iO) r')(ha:PE X a ta)(hb:PE X b tb)(hc:PE X c tc)
  (hm:lastMarks [op,iO] [b,c]=false:=by with_unfolding_all rfl):PT X (.Compare a [op,iO] [b,c] pos) (zhW (zc7 r r' ta tb tc)):=by
 intro pins s σ H Q I h
 refine isTrue_chain (aI (ha pins s σ H _ I h) fun v s1 ⟨x,H1,I1,r1,q1⟩=>test_link (aI (hb pins s1 σ H1 _ I1 q1) fun u s2 ⟨y,H2,I2,r2,q2⟩ =>
  aI (ho pins s2 σ H2 x y v u _ I2 r1 r2 q2) fun d s3 ⟨z,H3,I3,r3,k,e,q3⟩=>?_)) hm
 subst e
 cases r3
 refine Er ?_
 cases k with
 | false =>
  obtain⟨k',e',q'⟩:=q3
  cases e'
  exact ite_ff ⟨H3,I3,q'⟩
 | true =>
  refine ite_tt (test_last (aI (hc pins s3 σ H3 _ I3 q3) fun w' s4 ⟨z',H4,I4,r4,q4⟩=>aI (fT pins s4 σ H4 y z' u w' _ I4 r2 r4 q4) fun d' s5 ⟨z2,H5,I5,r5,k2,e2,q5⟩=>?_))
  subst e2
  cases r5
  exact Er ⟨H5,I5,q5⟩
def zd1(K:ox)(x:V)(H:Hp)(k:Bool):Prop :=
 match x with
 | .non=>k=false
 | .bl b=>k=b
 | .int i=>k=(i != 0)
 | .str y=>y.length<=AK/\k=((y.length:Int) != 0)
 | .byt y=>y.size<=AK/\k=((y.size:Int) != 0)
 | .ref p=>(∃ xs,bB K H p xs/\k=!xs.isEmpty)\/(∃ xs,dO K H p xs/\k=!xs.isEmpty)\/∃ ag,H p=some (.dK ag)/\k=!ag.isEmpty
 | _=>False
theorem zmB{ag:List (κ×V)}{vs:List (κ×dm)}(r:KV ag vs):(!vs.isEmpty)=!ag.isEmpty:=by
 cases r <;> rfl
theorem zfP(r:Vals xs its):(!its.toArray.isEmpty)=!xs.isEmpty:=by
 cases r <;> simp
theorem pX:(AK:Nat)<2^63:=by rw [BU];decide
theorem zh6:zaC X (fun x H Q=>∃ k,zd1 X.K x H k/\Q k H):=by
 intro pins s σ H x v Q I rx h
 obtain⟨k,e,q⟩:=h
 have hl:=pX
 have hs:AK=16777216:=BU
 cases x with
 | non =>
  cases rx
  have e':k=false:=e
  subst e'
  exact truthy_none ⟨H,I,q⟩
 | bl b =>
  cases rx
  have e':k=b:=e
  subst e'
  exact Er ⟨H,I,q⟩
 | int i =>
  obtain⟨t,rfl⟩:=rx
  have e':k=(i != 0):=e
  subst e'
  exact PySem.P.truthy_int ⟨H,I,q⟩
 | str y =>
  obtain⟨t,rfl⟩:=rx
  obtain⟨hy,e'⟩:y.length<=AK/\k=((y.length:Int) != 0):=e
  subst e'
  exact PySem.P.truthy_str (by lia) ⟨H,I.tok _,q⟩
 | byt y =>
  obtain⟨t,rfl⟩:=rx
  obtain⟨hy,e'⟩:y.size<=AK/\k=((y.size:Int) != 0):=e
  subst e'
  exact PySem.W.truthy_bytes (by lia) ⟨H,I.tok _,q⟩
 | ref p =>
  cases rx
  have e':(∃ xs,bB X.K H p xs/\k=!xs.isEmpty)\/(∃ xs,dO X.K H p xs/\k=!xs.isEmpty)\/∃ ag,H p=some (.dK ag)/\k=!ag.isEmpty:=e
  rcases e' with⟨xs,hx,e'⟩|⟨xs,hx,e'⟩|⟨ag,hx,e'⟩
  ·subst e'
   obtain⟨its,r,pl,hz⟩:=I.list hx
   have hlen:=r.length
   exact wpAny_truthy_list pl.isList (by simp only [Bk];lia) ⟨H,I.tok _,by rw [zfP r];exact q⟩
  ·subst e'
   obtain⟨its,r,pl,hz⟩:=I.tuple hx
   have hlen:=r.length
   exact truthy_tuple pl (by simp only [Bk];lia) ⟨H,I.tok _,by rw [zfP r];exact q⟩
  ·subst e'
   obtain⟨hz,hS,vs,r,m⟩:ag.length<=AK/\(p==Dw)=false/\∃ vs,KV ag vs/\s.heap.DictOf (j8 X.prog X.w) p vs:=I.az p _ hx
   have hlen:ag.length=vs.length:=EL r
   exact wpAny_truthy_dict hS m (by lia) ⟨H,I.tok _,by rw [zmB r];exact q⟩
 | _=>exact(show False from e).elim
theorem vals1{x:V}(r:Vals [x] us):∃ u,us=[u]/\RelV x u:=by
 cases r with
 | cons r1 r2=>cases r2;exact⟨_,rfl,r1⟩
theorem vals2{x:V}(r:Vals [x,y] us):∃ u w',us=[u,w']/\RelV x u/\RelV y w':=by
 cases r with
 | cons r1 r2 =>
  cases r2 with
  | cons r3 r4=>cases r4;exact⟨_,_,rfl,r1,r3⟩
theorem zkb:iW X (.builtin "abs") (fun xs H Q=>∃ i,xs=[.int i]/\Q (.int (if i<0 then -i else i)) H):=by
 intro pins s σ H xs us Q I r h
 obtain⟨i,rfl,q⟩:=h
 obtain⟨u,rfl,t,rfl⟩:=vals1 r
 exact call_abs_int fun u tk=>⟨.int (if i<0 then -i else i),H,I.tok _,⟨_,rfl⟩,q⟩
end
end
variable {C a dx g:ir}{f m name:gV}{prog:AO}{env:Bb}{vs:List dm}{b expr:Bool}{ns:List gV}{mA:gV->Option dm}{kw:List (gV×dm)}{r:List V->Hp->VK->Prop}{o:Option dm}
section
structure oW(h:AD)(x dx C:ir)(mA:gV->Option dm):Prop where
 obj:h.get? x=some (D4 C dx)
 ns:h.Ns1 dx mA
 ne:dx≠x
theorem zoa(n:h.Ns1 dx mA):∃ od,h.get? dx=some od/\∀ name,F6 name od=some (mA name):=by
 obtain⟨o,es,ep,ho,hd,hk,_,hm⟩:=n
 refine⟨o,ho,fun name=>?_⟩
 have e:=hm name
 unfold nsFind findBy at e
 rw [<- Array.find?_toList] at e
 unfold F6
 rw [hd]
 dsimp only
 split
 ·rename_i y q
  rw [q] at e
  exact congrArg some e
 ·rename_i q
  rw [q] at e
  have a:es.toList.any (·.refKey)=false:=by
   rw [List.any_eq_false]
   intro y hy
   obtain⟨z,t,zmd⟩:=hk y (Array.mem_toList_iff.mp hy)
   simp [DictEntry.refKey,zmd]
  have a':¬ es.toList.any (·.refKey)=true:=by rw [a];exact C3
  rw [if_neg a']
  exact congrArg some e
theorem oW.look{x:ir}(I:oW h x dx C mA):∃ od,PySem.W.InstAt h x (D4 C dx) C (some od)/\∀ name,F6 name od=some (mA name) :=
 let⟨od,ho,hl⟩:=zoa I.ns
 ⟨od,⟨I.obj,rfl,rfl,ho⟩,hl⟩
section
variable {K:ox}{x f:ir}{v:dm}
theorem get_map(X:K.In s.heap)(I:oW s.heap x dx C mA)(hg:Fw K C name=true)(hh:F7 K C=true)
  (ha:CH K (.ref C) name=some none)(hv:mA name=some v)(hv':Ip v=true)(h:Q v { s with toks:=s.toks+1 }) :
  Av (Ax prog w) A (getAttr (.ref x) name expr) Q E s:=by
 obtain⟨od,J,hl⟩:=I.look
 exact PySem.W.get_value X J (G2 hg).1 (PySem.W.findObj_own hh ha rfl (by rw [hl,hv])) hv' h
theorem zlU{pl:Sem Bool}{Q:dm×List dm->kb->Prop}(X:K.In s.heap)(I:oW s.heap x dx C mA)(hg:Fw K C name=true)
  (hf:CH K (.ref C) name=some (some (.ref f)))(ht:Fx K (.ref f)=true)(hv:mA name=none)(h:Q (.ref f,[.ref x]) s) :
  Av (Ax prog w) A (getMethod (.ref x) name pl) Q E s:=by
 obtain⟨od,J,hl⟩:=I.look
 exact PySem.W.method_fn X J (G2 hg).1 (G2 hg).2 hf (beq_iff_eq.mp ht) (by show(F6 name od).map (·.isSome)=some false;rw [hl,hv];rfl) h
theorem zr8{Q:Unit->kb->Prop}(X:K.In s.heap)(I:oW s.heap x dx C mA)
  (hs:CH K (.ref C) "__setattr__"=some (some (.builtin "object.__setattr__"))) (hp:G3 K C=true) (ht:G4 K C name=some none) (hh:F7 K C=true)
  (hw:GX mA ns) (hsz:ns.length<=AK)
  (h:∀ h',oW h' x dx C (fun y=>if y=name then some v else mA y)->Ep dx s.heap h'->Q () { s with heap:=h',toks:=s.toks+2 }) :
  Av (Ax prog w) A (setAttr (.ref x) name v) Q E s:=by
 obtain⟨od,J,hl⟩:=I.look
 refine PySem.W.set_plain X J hs (PySem.W.osa_open (s:={ s with toks:=s.toks+1 }) (r:=none) X J hp ht fun b=>?_)
 obtain⟨cd,hc,jN⟩:=PySem.W.any_some hh
 have hx:s.heap.get? x=some ⟨.ref C,some dx,.plain,#[]⟩:=I.obj
 refine Ap (AH (Ap (Ap (wpAny_loadPart hx (Ap (PySem.W.Looks.here (s:={ s with toks:=s.toks+1 }) (PySem.W.looks_clsIn X hc) ?_))))))
 rw [jN]
 refine AH (a:=some dx) (Ap (AH (Ap ?_)))
 refine wpAny_nsSet1 (s:={ s with toks:=s.toks+1 }) I.ns fun h' hn2 dh=>?_
 obtain⟨oD,esD,epD,hoD,hdD,hcD⟩:=hn2.count (PySem.Within.cons name v hw)
 refine Ap (wpAny_lookBehind hoD (by rw [hdD];exact pastItsLine_dict (Bj hcD (by rw [AR];lia))) ?_)
 exact AH (h _ ⟨(dh.2 _ (Cd I.ne)).trans I.obj,hn2,I.ne⟩ dh)
theorem zop{R:Result->kb->Prop}(X:K.In s.heap)(hm:G5 K C=true)
  (hi:CH K (.ref C) "__init__"=some (some (.ref f))) (hf:PySem.W.typeIn K (.ref f)=some (.type "function"))
  (h:DL (Ax prog w) (A.under (.builtin "type.__call__" ⟨.ref C::vs,kw⟩)) (.call (.ref f) ⟨.ref (s.heap.objs.size+1)::vs,kw⟩) (PySem.W.InitBack (s.heap.objs.size+1) R)
   { s with heap:=(s.heap.push DM).push (D4 C s.heap.objs.size) }) :
  DL (Ax prog w) A (.call (.ref C) ⟨vs,kw⟩) R s:=by
 obtain⟨hh,g,d,t,os⟩:=s
 exact PySem.W.make_core (PySem.W.makes_of X hm) (PySem.W.looks_findIn X hi) (fun self=>PySem.W.bind_fn X self hf) (.inl rfl) h
end
noncomputable def gr(f:gV)(v:V):List (gV×V)->List (gV×V)
 | []=>[(f,v)]
 | (g,x)::r=>if g=f then(g,v)::r else(g,x)::gr f v r
theorem zgn(f g:gV)(v:V):∀ fs:List (gV×V),(gr f v fs).lookup g=if g=f then some v else fs.lookup g
 | []=>by
  show Ew g [(f,v)]=_
  by_cases h:g=f
  ·have hb:(g==f)=true:=beq_iff_eq.mpr h
   simp only [Ew,hb,if_pos h]
  ·have hb:(g==f)=false:=beq_eq_false_iff_ne.mpr h
   simp only [Ew,hb,if_neg h]
 | (k,x)::r=>by
  have ih:=zgn f g v r
  rw [show gr f v ((k,x)::r)=(if k=f then(k,v)::r else(k,x)::gr f v r) from rfl]
  by_cases hk:k=f
  ·rw [if_pos hk]
   by_cases h:g=k
   ·have hb:(g==k)=true:=beq_iff_eq.mpr h
    simp only [Ew,hb,if_pos (h.trans hk)]
   ·have hb:(g==k)=false:=beq_eq_false_iff_ne.mpr h
    simp only [Ew,hb,if_neg (fun e:g=f=>h (e.trans hk.symm))]
  ·rw [if_neg hk]
   by_cases h:g=k
   ·have hb:(g==k)=true:=beq_iff_eq.mpr h
    simp only [Ew,hb,if_neg (fun e:g=f=>hk (h.symm.trans e))]
   ·have hb:(g==k)=false:=beq_eq_false_iff_ne.mpr h
    simp only [Ew,hb]
    exact ih
theorem zb9(f:gV)(v:V):∀ fs:List (gV×V),f∈(gr f v fs).map (·.1)/\∀ g,g∈fs.map (·.1)->g∈(gr f v fs).map (·.1)
 | []=>⟨by simp [gr],fun g h=>by simp at h⟩
 | (k,x)::r=>by
  obtain⟨i1,i2⟩:=zb9 f v r
  rw [show gr f v ((k,x)::r)=(if k=f then(k,v)::r else(k,x)::gr f v r) from rfl]
  by_cases hk:k=f
  ·rw [if_pos hk]
   subst hk
   exact⟨by simp,fun g h=>by simpa using h⟩
  ·rw [if_neg hk]
   refine⟨?_,fun g h=>?_⟩
   ·rw [AQ]
    exact Be _ i1
   ·rw [AQ] at h ⊢
    rcases AX.mp h with e|e
    ·exact AX.mpr (.inl e)
    ·exact Be _ (i2 g e)
theorem zga(f:gV)(v:V):∀ fs:List (gV×V),(gr f v fs).length<=fs.length+1
 | []=>by simp [gr]
 | (k,x)::r=>by
  have ih:=zga f v r
  rw [show gr f v ((k,x)::r)=(if k=f then(k,v)::r else(k,x)::gr f v r) from rfl]
  by_cases hk:k=f
  ·rw [if_pos hk,AR,AR];lia
  ·rw [if_neg hk,AR,AR];lia
theorem i3.some_of(r:i3 (some v) o):∃ u,o=some u/\RelV v u:=by
 cases o with
 | none=>exact(show False from r).elim
 | some u=>exact⟨u,rfl,r⟩
theorem i3.none_of(r:i3 none o):o=none:=by
 cases o with
 | none=>rfl
 | some u=>exact(show False from r).elim
theorem zl1(r:RelV v u):Ip u=true:=by
 cases v with
 | non=>cases (show u=Bx from r);rfl
 | bl b=>cases (show u=Dc b from r);rfl
 | int i=>obtain⟨t,e⟩:=(show ∃ t,u=D1 i t from r);cases e;rfl
 | str x=>obtain⟨t,e⟩:=(show ∃ t,u=D2 x t from r);cases e;rfl
 | byt b=>obtain⟨t,e⟩:=(show ∃ t,u=Value.bytes b t from r);cases e;rfl
 | eD b=>obtain⟨t,e⟩:=(show ∃ t,u=Value.float b t from r);cases e;rfl
 | ref a=>cases (show u=BF a from r);rfl
 | ty n=>cases (show u=D3 n from r);rfl
section
variable {fs pD:List (gV×V)}
theorem zb0(az:cW P w H h)(e:H a=some (.ins C dx fs)):∃ mA,oW h a dx C mA/\(∀ f,i3 (fs.lookup f) (mA f))/\GX mA (fs.map (·.1))/\fs.length<=1000/\H dx=some (.own a):=by
 obtain⟨d,z,ne,ob,mA,n,r,q⟩:=(show dq P w H h a (.ins C dx fs) from az a _ e)
 exact⟨mA,⟨ob,n,ne⟩,r,q,z,d⟩
end
structure gw(K:ox)(C:ir):Prop where
 pg:Fw K C Cu=true
 hd:F7 K C=true
 po:G3 K C=true
 sa:CH K (.ref C) "__setattr__"=some (some (.builtin "object.__setattr__"))
theorem gw.get{K:ox}(c:gw K C)(f:gV):Fw K C f=true:=c.pg
def iZ(K:ox)(C:ir)(f:gV):Prop:=CH K (.ref C) f=some none
theorem iZ.zsP{K:ox}(n:iZ K C f):G4 K C f=some none:=by
 unfold G4
 rw [show CH K (.ref C) f=some none from n]
 rfl
structure Meth(K:ox)(C:ir)(m:gV)(f:ir):Prop where
 at_:CH K (.ref C) m=some (some (.ref f))
 fn:Fx K (.ref f)=true
 kp:Dh K (.ref f)=true
section
variable {fs:List (gV×V)}
theorem zlV(I:Inv X pins σ H s)(e:H a=some (.ins C dx fs))(c:gw X.K C)(n:iZ X.K C f)(l:fs.lookup f=some v)
  (h:∀ u s',Inv X pins σ H s'->RelV v u->Q u s'):Av (Ax X.prog X.w) A (getAttr (.ref a) f b) Q E s:=by
 obtain⟨mA,O,r,_,_,_⟩:=zb0 I.az e
 obtain⟨u,hu,ru⟩:=i3.some_of (v:=v) (o:=mA f) (by rw [<- l];exact r f)
 exact get_map I.fX O (c.get f) c.hd n hu (zl1 ru) (h u _ (I.tok _) ru)
theorem zlW{pl:Sem Bool}{Q:dm×List dm->kb->Prop}(I:Inv X pins σ H s)(e:H a=some (.ins C dx fs))(c:gw X.K C)(k:Meth X.K C m g)(l:fs.lookup m=none)
  (h:Q (.ref g,[.ref a]) s):Av (Ax X.prog X.w) A (getMethod (.ref a) m pl) Q E s:=by
 obtain⟨mA,O,r,_,_,_⟩:=zb0 I.az e
 have hn:mA m=none:=i3.none_of (by rw [<- l];exact r m)
 exact zlU I.fX O (c.get m) k.at_ k.fn hn h
theorem zsa{Q:Unit->kb->Prop}(I:Inv X pins σ H s)(e:H a=some (.ins C dx fs))(c:gw X.K C)(n:iZ X.K C f)(hl:fs.length<1000)(ry:RelV y u)
  (h:∀ s',Inv X pins σ (upd H a (.ins C dx (gr f y fs))) s'->Q () s'):Av (Ax X.prog X.w) A (setAttr (.ref a) f u) Q E s:=by
 obtain⟨mA,O,r,wi,_,ho⟩:=zb0 I.az e
 have hz:(fs.map (·.1)).length<=AK:=by rw [AW,BU];lia
 refine zr8 I.fX O c.sa c.po n.zsP c.hd wi hz fun h' O' sb=>h _ ?_
 have hd:∃ o,h'.get? dx=some o:=let⟨o,_,_,e',_⟩:=O'.ns;⟨o,e'⟩
 refine I.write (x:=a) (e:=dx) (by rw [e];exact D8) (.inr ho) (fun b q hb z=>(sb.2 b hb).trans z) hd ?_
 refine⟨by rw [bh O.ne];exact ho,?_,O.ne,O'.obj,_,O'.ns,fun g=>?_,fun g hg=>?_⟩
 ·have:=zga f y fs;lia
 ·show i3 ((gr f y fs).lookup g) (if g=f then some u else mA g)
  rw [zgn]
  by_cases q:g=f
  ·rw [if_pos q,if_pos q];exact ry
  ·rw [if_neg q,if_neg q];exact r g
 ·by_cases q:g=f
  ·rw [q];exact(zb9 f y fs).1
  ·refine(zb9 f y fs).2 g (wi g fun z=>hg ?_)
   show(if g=f then some u else mA g)=none
   rw [if_neg q];exact z
theorem Inv.made(I:Inv X pins σ H s):Inv X pins σ (upd (upd H s.heap.objs.size (.own (s.heap.objs.size+1))) (s.heap.objs.size+1) (.ins C s.heap.objs.size []))
  { s with heap:=(s.heap.push DM).push (D4 C s.heap.objs.size) }:=by
 have e1:(s.heap.push DM).get? s.heap.objs.size=some DM:=Bl s.heap rfl
 have e2:((s.heap.push DM).push (D4 C s.heap.objs.size)).get? (s.heap.objs.size+1)=some (D4 C s.heap.objs.size):=by
  have:=Bl (s.heap.push DM) (o:=D4 C s.heap.objs.size) rfl
  rwa [Cv] at this
 have e3:(s.heap.push DM).Ns s.heap.objs.size (fun _=>none):=⟨DM,#[],_,e1,rfl,(fun e he=>absurd he (by simp)),fun _=>rfl⟩
 have I1:=I.laid (a:=s.heap.objs.size) (o:=.own (s.heap.objs.size+1)) (h':=s.heap.push DM) (t':=s.toks) (fun b u q=>A5 _ q) (AI _) ⟨_,e1⟩
 refine I1.laid (a:=s.heap.objs.size+1) (o:=.ins C s.heap.objs.size []) (t':=s.toks) (fun b u q=>A5 _ q) (F8 (Cv _ _)) ?_
 have ne:s.heap.objs.size≠s.heap.objs.size+1:=Bg (F9 _)
 refine⟨by rw [bh ne,cN],B6 _,ne,e2,fun _=>none,(Heap.Ns1.of_empty e3).at fun o q=>A5 _ q,fun _=>D8,fun y hy=>absurd rfl hy⟩
theorem zjE{f:gV}{s:kb}(hb:DA e f env (Ay e env)=Ay e env)
  (h:Av (Ax prog w) A (Ay e env) (fun o s₁=>Av (Ax prog w) A (getAttr o f true) Q E s₁) E s):Av (Ax prog w) A (Ay (.Attribute e f pos) env) Q E s :=
 Attribute_any_ h (by rw [arm_eval_Attribute,hb])
end
def zsx(K:ox)(ta:TE)(f:gV):TE:=fun σ H Q=>ta σ H fun x H1=>∃ a C dx fs v,x=.ref a/\H1 a=some (.ins C dx fs)/\gw K C/\iZ K C f/\fs.lookup f=some v/\Q v H1
def zrZ(K:ox)(ta tv:TE)(f:gV):TS:=fun D σ H=>tv σ H fun y H1=>ta σ H1 fun x H2=>∃ a C dx fs,x=.ref a/\H2 a=some (.ins C dx fs)/\gw K C/\iZ K C f/\fs.length<1000 /\
 D.nx σ (upd H2 a (.ins C dx (gr f y fs)))
section
variable {o value:Aq}{zh4:Az}{tv:TE}
theorem zgZ(he:PE X e ta)(hb:DA e f X.env (Ay e X.env)=Ay e X.env):PE X (.Attribute e f pos) (zsx X.K ta f):=by
 intro pins s σ H Q I h
 refine zjE hb (aI (he pins s σ H _ I h) fun u s1 ⟨x,H1,I1,rx,a,C,dx,fs,v,ex,ea,c,n,l,q⟩=>?_)
 subst ex
 obtain rfl:u=BF a:=rx
 exact zlV I1 ea c n l fun u' s2 I2 ru=>⟨v,H1,I2,ru,q⟩
theorem zqi(ha:PE X o ta)(hv:PE X value tv)(hs:BR value (some (.Attribute o f pos')) pos.line X.env=pure false):PS X (.Assign [.Attribute o f pos'] value pos) (zrZ X.K ta tv f):=by
 intro pins s σ H D I h
 refine plainObj_wpAny_Assign_Attribute (aI (hv pins s σ H _ I h) fun u s1 ⟨y,H1,I1,ry,q⟩=>aI (ha pins s1 σ H1 _ I1 q) fun ov s2 ⟨x,H2,I2,rx,a,C,dx,fs,ex,ea,c,n,l,q2⟩=>?_) hs
 subst ex
 obtain rfl:ov=BF a:=rx
 exact zsa I2 ea c n l ry fun s3 I3=>⟨σ,_,I3,q2⟩
end
end
variable {params:Arguments}{f:ir}{Q:VK}{fd:Bw}{fS vs:List V}{mg:gV->Option dm}{CX:kz}{outer:List Bb}{E:XK}{cd:dm}{sc scope:BG}{qual:gV}{kj:Array (Option dm)}{ps:List gV}{base:AD}
section
structure bp(k:Nat)(A:AY):Prop where
 hd:A.handled=none
 dp:A.depth+3*k+110<G6
 un:A.units+16*k+200<BO
 gd:A.guards=some []
theorem bp.mono(r:bp k A)(h:j<=k):bp j A:=⟨r.hd,by have:=r.dp;lia,by have:=r.un;lia,r.gd⟩
theorem bp.deeper(r:bp (k+1) A)(env:Bb):bp k (A.deeper env) :=
 ⟨r.hd,by have:=r.dp;show A.depth+1+3*k+110<_;lia,by have:=r.un;show A.units+3+16*k+200<_;lia,r.gd⟩
theorem zon:(A.under (.builtin "type.__call__" ⟨.ref C::us,kw⟩)).depth=A.depth+1:=by
 first|rfl|simp [Ga,Code.weight,Code.isCreation,Code.isGuard,Code.isCaller,Code.frames,G7,guardIds]
theorem zoq:(A.under (.builtin "type.__call__" ⟨.ref C::us,kw⟩)).units=A.units+1:=by
 first|rfl|simp [Ga,Code.cUnits,Code.frames,G7]
theorem zoo:(A.under (.builtin "type.__call__" ⟨.ref C::us,kw⟩)).guards=A.guards:=by
 first|rfl|simp [Ga,Code.guards,Code.isGuard,guardIds,pushGuards]
theorem bp.make(r:bp (k+1) A)(C:ir)(us:List dm)(kw:List (gV×dm)):bp k (A.under (.builtin "type.__call__" ⟨.ref C::us,kw⟩)) :=
 ⟨r.hd,by have:=r.dp;rw [zon];lia,by have:=r.un;rw [zoq];lia,by rw [zoo];exact r.gd⟩
theorem bp.depth(r:bp k A):A.depth<G6:=by have:=r.dp;lia
theorem bp.units(r:bp k A):A.units+64<BO:=by have:=r.un;lia
noncomputable def zhV:TA:=fun _ H Q=>Q [] H
noncomputable def zhU(ta:TE)(tr:TA):TA:=fun σ H Q=>ta σ H fun x H1=>tr σ H1 fun xs H2=>Q (x::xs) H2
section
theorem kl:PA X [] zhV:=fun _ _ _ _ H Q I h=>Calls.spliced_nil ⟨[],H,I,.nil,h⟩
theorem ik(ha:PE X e te)(hr:PA X es t)(hs:Au (e::es) X.env=(false,Ay e X.env)::Au es X.env:=by rfl):PA X (e::es) (zhU te t):=by
 intro pos pins s σ H Q I h
 rw [hs]
 show Av _ _ (spliced ((false,Ay e X.env)::A0 pos (Au es X.env))) _ _ s
 refine Calls.spliced_cons (aI (ha pins s σ H _ I h) fun u s1 ⟨x,H1,I1,r1,q1⟩=>?_)
 exact aI (hr pos pins s1 σ H1 _ I1 q1) fun us s2 ⟨xs,H2,I2,r2,q2⟩=>⟨x::xs,H2,I2,.cons r1 r2,q2⟩
def zsL(t:TA):TE:=fun σ H Q=>t σ H fun xs H1=>xs.length<=AK/\∀ p,H1 p=none->Q (.ref p) (upd H1 p (.tup xs))
def zsA(t:TA):TE:=fun σ H Q=>t σ H fun xs H1=>xs.length<=AK/\∀ p,H1 p=none->Q (.ref p) (upd H1 p (.lst xs))
theorem zpN{x1}(h:PA X es t):PE X (.Tuple es x1 pos) (zsL t):=by
 intro pins s σ H Q I hq
 refine wpAny_Tuple_spliced (aI (h pos pins s σ H _ I hq) fun us s1 ⟨xs,H1,I1,r,z,q⟩=>⟨by rw [<- r.length];exact z,?_⟩)
 have hf:H1 s1.heap.objs.size=none:=I1.az.fresh (AI _)
 refine⟨.ref s1.heap.objs.size,upd H1 s1.heap.objs.size (.tup xs),I1.laid (t':=s1.toks) (fun b u e=>A5 _ e) (AI _) ?_,rfl,q _ hf⟩
 exact⟨z,us,r,⟨_,Bl _ rfl,rfl,_,rfl⟩⟩
theorem zg2(h:PA X es t):PE X (.List es pos) (zsA t):=by
 intro pins s σ H Q I hq
 refine wpAny_List_spliced (aI (h pos pins s σ H _ I hq) fun us s1 ⟨xs,H1,I1,r,z,q⟩=>⟨by rw [<- r.length];exact z,?_⟩)
 have hf:H1 s1.heap.objs.size=none:=I1.az.fresh (AI _)
 refine⟨.ref s1.heap.objs.size,upd H1 s1.heap.objs.size (.lst xs),I1.laid (t':=s1.toks) (fun b u e=>A5 _ e) (AI _) ?_,rfl,q _ hf⟩
 exact⟨z,us,0,r,Bl _ rfl⟩
end
abbrev Sp:=List V->Hp->VK->XK->Prop
abbrev kz:=List Bb->Hp->kb->XK->dm->kb->Prop
structure oM(P:AO)(w:AJ)(K:ox)(mg:gV->Option dm)(base:AD)(A:AY)(outer:List Bb)(s:kb)(H:Hp):Prop where
 frames:A.frames=some outer
 mod:Mod K mg base
 bs:∀ b o,base.get? b=some o->s.heap.get? b=some o/\H b=none
 lH:base.objs.size<=s.heap.objs.size
 jh:s.heap.FunFrames base outer
 mN:∀ b∈gU outer,H b=none
 az:cW P w H s.heap
 bare:Dx s.gens
 tree:P.given.tree=none
theorem Inv.pyl{σ:List (Option V)}(I:Inv X pins σ H s)(hd:X.A.depth+100<G6):PySem.PylongRoom (Ax X.prog X.w) X.A s:=by
 obtain⟨env,r,e,h1,h2,h3,h4⟩:=I.ok.sk
 exact PySem.PylongRoom.of I.nolimit hd (PySem.SeerAt.of (I.ok.mod.seer.keeps I.bk) I.ok.tree (I.ok.frames.trans (congrArg some e)) h1 h2 h3 h4)
def CE(outer:List Bb)(P:AO)(w:AJ)(H:Hp)(s:kb)(Q:VK)(u:dm)(s':kb):Prop :=
 ∃ v H',s'.os=s.os/\Dx s'.gens/\Un (gU outer) [] H H' s.heap s'.heap/\cW P w H' s'.heap/\RelV v u/\Q v H'
def CR(CX:kz)(outer:List Bb)(P:AO)(w:AJ)(H:Hp)(s:kb)(Q:VK)(E:XK)(r:Result)(s':kb):Prop :=
 match r with
 | .ok (.ret u)=>CE outer P w H s Q u s'
 | .ok _=>False
 | .error e=>CX outer H s E e s'
structure dj(P:AO)(w:AJ)(K:ox)(mg:gV->Option dm)(base:AD)(CX:kz)(k:Nat)(f:ir)(fd:Bw)(ps:List gV)(sp:Sp):Prop where
 len:∀ vs H Q E,sp vs H Q E->vs.length=ps.length
 run:∀(A:AY) (outer:List Bb) (s:kb) (H:Hp) (args:Args) (us:List dm) (vs:List V) (Q:VK) (E:XK),bp k A->oM P w K mg base A outer s H->E2 s fd args (ps.zip us)->Vals vs us->sp vs H Q E ->
  DL (Ax P w) A (.call (.ref f) args) (CR CX outer P w H s Q E) s
theorem dj.imp{K:ox}{sp sp':Sp}(F:dj P w K mg base CX k f fd ps sp)
  (h:∀ vs H Q E,sp' vs H Q E->sp vs H Q E):dj P w K mg base CX k f fd ps sp' :=
 ⟨fun vs H Q E q=>F.len vs H Q E (h _ _ _ _ q),fun A outer s H args us vs Q E hr he hb hv hs=>F.run A outer s H args us vs Q E hr he hb hv (h _ _ _ _ hs)⟩
theorem oM.make{K:ox}(e:oM P w K mg base A outer s H)(C:ir)(us:List dm)(kw:List (gV×dm)) :
  oM P w K mg base (A.under (.builtin "type.__call__" ⟨.ref C::us,kw⟩)) outer s H:=⟨by first|exact e.frames|(simpa [Ga,Code.envs,G7,pushEnvs] using e.frames),e.mod,e.bs,e.lH,e.jh,e.mN,e.az,e.bare,e.tree⟩
section
theorem Inv.zfh(I:Inv X pins σ H s):oM X.prog X.w X.K X.mg X.base X.A X.stack s H :=
 ⟨I.ok.frames,I.ok.mod,I.bs,Bj I.ok.lH I.sz,I.stack,I.zhQ,I.az,I.bare,I.ok.tree⟩
theorem Inv.after(I:Inv X pins σ H s)(h:CE X.stack X.prog X.w H s Q u s'):EP X pins σ Q u s':=by
 obtain⟨v,H',os,bare,un,az,r,q⟩:=h
 obtain⟨hh,g,d,t,os'⟩:=s'
 obtain rfl:os'=s.os:=os
 exact⟨v,H',I.call (h':=hh) (g':=g) (d':=d) (t':=t) (ch:=[]) un az bare (fun b z=>absurd z (by simp)),r,q⟩
end
noncomputable def zc6(sp:Sp)(fS:List V)(E:XK)(t:TA):TE:=fun σ H Q=>t σ H fun vs H1=>sp (vs++fS) H1 Q E
def zsC(C:ir)(m:gV)(sp:Sp)(fS:List V)(E:XK)(ta:TE)(t:TA):TE:=fun σ H Q=>ta σ H fun x H1=>∃ a dx fs,x=.ref a/\H1 a=some (.ins C dx fs)/\fs.lookup m=none /\
 t σ H1 fun vs H2=>sp (x::(vs++fS)) H2 Q E
def zsB(C:ir)(sp:Sp)(fS:List V)(E:XK)(t:TA):TE:=fun σ H Q=>t σ H fun vs H1=>∀ x dx,H1 x=none->H1 dx=none->dx≠x ->
 sp (.ref x::(vs++fS)) (upd (upd H1 dx (.own x)) x (.ins C dx [])) (fun v H2=>v=.non/\Q (.ref x) H2) E
def Binds(K:ox)(fd:Bw)(ps:List gV)(ds:List dm):Prop :=
 ∀(s:kb) (us:List dm),K.In s.heap->(us++ds).length=ps.length->E2 s fd ⟨us,[]⟩ (ps.zip (us++ds))
theorem Binds.all{K:ox}(h:∀ us:List dm,us.length=ps.length->D9 fd ⟨us,[]⟩=pure (ps.zip us)):Binds K fd ps []:=fun s us _ hl=>by
 rw [DB] at hl ⊢
 exact .of_eq (h us hl)
def Passes(CX:kz)(X:Cx)(E:XK):Prop:=∀(pins:List (ir×AA)) (σ:St) (H:Hp) (s:kb) (e:dm) (s':kb),Inv X pins σ H s->CX X.stack H s E e s'->X.xe e s'
section
variable {sp:Sp}{ds:List dm}{apos:Az}{o:Aq}
theorem zhF(F:dj X.prog X.w X.K X.mg X.base CX k f fd ps sp)(hr:bp k X.A)(hb:Binds X.K fd ps ds)(hd:Vals fS ds)(hx:Passes CX X E)
  (I:Inv X pins σ H s)(r:Vals vs us)(h:sp (vs++fS) H Q E):Av (Ax X.prog X.w) X.A (call (.ref f) us) (EP X pins σ Q) X.xe s:=by
 have r2:Vals (vs++fS) (us++ds):=r.append hd
 have hl:(us++ds).length=ps.length:=by rw [<- r2.length];exact F.len _ _ _ _ h
 refine wpAny_call (E4 (F.run X.A X.stack s H ⟨us,[]⟩ (us++ds) (vs++fS) Q E hr I.zfh (hb s us I.fX hl) r2 h) fun r s' hq=>?_)
 cases r with
 | error e=>exact hx pins σ H s e s' I hq
 | ok fl =>
  cases fl with
  | ret u=>exact I.after hq
  | next=>exact CW hq
  | brk=>exact CW hq
  | cont=>exact CW hq
theorem zpx(F:dj X.prog X.w X.K X.mg X.base CX k f fd ps sp)(hr:bp k X.A)(hg:Gl X x)(hm:X.mg x=some (.ref f))(hk:Dh X.K (.ref f)=true)(hb:Binds X.K fd ps ds)(hd:Vals fS ds)(hx:Passes CX X E)
  (ha:PA X (e::es) t)(bE:(x==("__debug__":gV))=false:=by decide) (he:Au (e::es) X.env=(false,Ay e X.env)::Au es X.env:=by rfl) (aY:(A0 pos (Au es X.env)).any (·.1)=false:=by rfl) :
  PE X (.Call (.Name x p) (e::es) [] pos) (zc6 sp fS E t):=by
 intro pins s σ H Q I h
 refine Fy (zcb I hg hm ?_ bE)
 refine G8 (h₀:=X.base) I.ok.mod.vo hk (aI (ha pos pins s σ H _ I h) fun us s1 ⟨vs,H1,I1,r,q⟩=>⟨I1.fX,?_⟩) he aY
 exact zhF F hr hb hd hx I1 r q
theorem zpI{pl:Sem Bool}(he:PE X o ta)(c:gw X.K C)(hm:Meth X.K C m f)(F:dj X.prog X.w X.K X.mg X.base CX k f fd ps sp)(hr:bp k X.A)(hb:Binds X.K fd ps ds)(hd:Vals fS ds)(hx:Passes CX X E)(ha:PA X (e::es) t)
  (cK:Au (e::es) X.env=(false,Ay e X.env)::Au es X.env:=by rfl)(aY:(A0 pos (Au es X.env)).any (·.1)=false:=by rfl)
  (ht:Ay (.Call (.Attribute o m apos) (e::es) [] pos) X.env=(do
   let ov <- Ay o X.env
   EX apos.atName
   let(f,first) <- Dy [ov] (getMethod ov m pl)
   callWith pos f first (A0 pos (Au (e::es) X.env)) (DN pos (DQ [] X.env))):=by rfl) :
  PE X (.Call (.Attribute o m apos) (e::es) [] pos) (zsC C m sp fS E ta t):=by
 intro pins s σ H Q I h
 refine PySem.W.methodCall_KW (pl:=pl) (aI (he pins s σ H _ I h) fun u s1 ⟨x,H1,I1,rx,a,dx,fs,ex,ea,l,q⟩=>?_) ht
 subst ex
 obtain rfl:u=BF a:=rx
 refine zlW I1 ea c hm l ?_
 refine G8 (first:=[.ref a]) (h₀:=X.base) I.ok.mod.vo hm.kp (aI (ha pos pins s1 σ H1 _ I1 q) fun us s2 ⟨vs,H2,I2,r,q2⟩=>⟨I2.fX,?_⟩) cK aY
 exact zhF (us:=.ref a::us) (vs:=.ref a::vs) F hr hb hd hx I2 (.cons rfl r) q2
structure Mk(K:ox)(C f:ir):Prop where
 makes:G5 K C=true
 init:CH K (.ref C) "__init__"=some (some (.ref f))
 fn:Fx K (.ref f)=true
 kp:Dh K (.ref C)=true
theorem zrY(M:Mk X.K C f)(F:dj X.prog X.w X.K X.mg X.base CX k f fd ps sp)(hr:bp (k+1) X.A)(hb:Binds X.K fd ps ds)(hd:Vals fS ds)
  (hx:Passes CX X E)(I:Inv X pins σ H s)(r:Vals vs us)
  (h:∀ x dx,H x=none->H dx=none->dx≠x->sp (.ref x::(vs++fS)) (upd (upd H dx (.own x)) x (.ins C dx [])) (fun v H2=>v=.non/\Q (.ref x) H2) E) :
  Av (Ax X.prog X.w) X.A (call (.ref C) us) (EP X pins σ Q) X.xe s:=by
 have hq:=h (s.heap.objs.size+1) s.heap.objs.size (I.az.fresh (Nat.le_succ _)) (I.az.fresh (AI _)) (Bg (F9 _))
 have I2:=Inv.made (C:=C) I
 have r2:Vals (V.ref (s.heap.objs.size+1)::(vs++fS)) (BF (s.heap.objs.size+1)::(us++ds)):=.cons rfl (r.append hd)
 have hl:(BF (s.heap.objs.size+1)::us++ds).length=ps.length:=by
  have e:=r2.length
  rw [F.len _ _ _ _ hq] at e
  exact e.symm
 refine wpAny_call (zop (f:=f) I.fX M.makes M.init (beq_iff_eq.mp M.fn) (E4 (F.run _ X.stack _ _ ⟨BF (s.heap.objs.size+1)::us,[]⟩ (BF (s.heap.objs.size+1)::(us++ds)) _ _ E (hr.make C us [])
  (I2.zfh.make C us []) (hb _ (BF (s.heap.objs.size+1)::us) I2.fX hl) r2 hq) fun r s' vc=>?_))
 cases r with
 | error e=>exact hx pins σ _ _ e s' I2 vc
 | ok fl =>
  cases fl with
  | ret u =>
   obtain⟨v,H',I3,rv,ev,q3⟩:=I2.after vc
   subst ev
   exact⟨rv,⟨V.ref (s.heap.objs.size+1),H',I3,rfl,q3⟩⟩
  | next=>exact CW vc
  | brk=>exact CW vc
  | cont=>exact CW vc
theorem zpH(M:Mk X.K C f)(F:dj X.prog X.w X.K X.mg X.base CX k f fd ps sp)(hr:bp (k+1) X.A)(hg:Gl X x)(hm:X.mg x=some (.ref C))(hb:Binds X.K fd ps ds)(hd:Vals fS ds)(hx:Passes CX X E)
  (ha:PA X (e::es) t)(bE:(x==("__debug__":gV))=false:=by decide) (he:Au (e::es) X.env=(false,Ay e X.env)::Au es X.env:=by rfl) (aY:(A0 pos (Au es X.env)).any (·.1)=false:=by rfl) :
  PE X (.Call (.Name x p) (e::es) [] pos) (zsB C sp fS E t):=by
 intro pins s σ H Q I h
 refine Fy (zcb I hg hm ?_ bE)
 refine G8 (h₀:=X.base) I.ok.mod.vo M.kp (aI (ha pos pins s σ H _ I h) fun us s1 ⟨vs,H1,I1,r,q⟩=>⟨I1.fX,?_⟩) he aY
 exact zrY M F hr hb hd hx I1 r q
end
structure iY(N P:List gV)(sc:BG):Prop where
 kind:sc.kind=.function
 co:sc.isCoroutine=false
 gen:sc.isGenerator=false
 nd:N.Nodup
 pre:N.take P.length=P
 par:∀ x∈P,sc.names.lookup x=some .local\/sc.names.lookup x=some .cell
 zoJ:∀ y∈sc.names,y.2≠.free
theorem zeB{kindOf:gV->Option Cw}{x:gV}:∀{binds:List (gV×dm)} {m:gV->Option dm},(∀ v,(x,v)∉binds)->bindL kindOf binds m x=m x
 | [],_,_=>rfl
 | (n,v)::r,m,h=>by
  unfold bindL
  rw [zeB fun w hw=>h w (Be _ hw)]
  split
  ·have:x≠n:=by rintro rfl;exact h v Bc
   simp [this]
  ·rfl
theorem zez{kindOf:gV->Option Cw}{x:gV}:∀{binds:List (gV×dm)} {m:gV->Option dm},(∀ v,(x,v)∉binds)->bindC kindOf binds m x=m x
 | [],_,_=>rfl
 | (n,v)::r,m,h=>by
  unfold bindC
  rw [zez fun w hw=>h w (Be _ hw)]
  split
  ·rfl
  ·have:x≠n:=by rintro rfl;exact h v Bc
   simp [this]
theorem zeA{kindOf:gV->Option Cw}{x:gV}{v:dm}:∀{P:List gV} {vs:List dm} {i:Nat} {m:gV->Option dm},P.Nodup->P[i]?=some x->vs[i]?=some v->kindOf x=some .local ->
  bindL kindOf (P.zip vs) m x=some v
 | [],_,_,_,_,h,_,_=>by simp at h
 | _::_,[],_,_,_,_,h,_=>by simp at h
 | p::P,w::vs,0,m,nd,h1,h2,hk=>by
  simp at h1 h2;subst h1;subst h2
  show bindL kindOf ((p,w)::P.zip vs) m p=_
  unfold bindL
  rw [zeB fun v hv=>(C0.mp nd).1 (Ea hv).1,if_pos hk]
  simp
 | p::P,w::vs,i+1,m,nd,h1,h2,hk=>by
  show bindL kindOf ((p,w)::P.zip vs) m x=_
  unfold bindL
  exact zeA (i:=i) (C0.mp nd).2 (by simpa using h1) (by simpa using h2) hk
theorem zey{kindOf:gV->Option Cw}{x:gV}{v:dm}:∀{P:List gV} {vs:List dm} {i:Nat} {m:gV->Option dm},P.Nodup->P[i]?=some x->vs[i]?=some v->kindOf x≠some .local ->
  bindC kindOf (P.zip vs) m x=some v
 | [],_,_,_,_,h,_,_=>by simp at h
 | _::_,[],_,_,_,_,h,_=>by simp at h
 | p::P,w::vs,0,m,nd,h1,h2,hk=>by
  simp at h1 h2;subst h1;subst h2
  show bindC kindOf ((p,w)::P.zip vs) m p=_
  unfold bindC
  rw [zez fun v hv=>(C0.mp nd).1 (Ea hv).1,if_neg hk]
  simp
 | p::P,w::vs,i+1,m,nd,h1,h2,hk=>by
  show bindC kindOf ((p,w)::P.zip vs) m x=_
  unfold bindC
  exact zey (i:=i) (C0.mp nd).2 (by simpa using h1) (by simpa using h2) hk
noncomputable def start(N:List gV)(vs:List V):St:=vs.map some++AB (N.length-vs.length) none
noncomputable def gR(CX:kz)(P:AO)(w:AJ)(K:ox)(mg:gV->Option dm)(base:AD)(N:List gV)(qual:gV)(scope:BG)(f:ir)(cd:dm)(A:AY)(outer:List Bb)(s:kb)(H:Hp)(E:XK):Cx where
 prog:=P
 w:=w
 K:=K
 mg:=mg
 base:=base
 A:=A.deeper (B3 qual scope s.heap.objs.size f cd)
 N:=N
 s₀:=s
 H₀:=H
 env:=B3 qual scope s.heap.objs.size f cd
 outer:=outer
 stack:=B3 qual scope s.heap.objs.size f cd::outer
 ex:=[]
 calm:=true
 fn:=fun _=>true
 pn:=[]
 xe:=fun e s'=>Av (Ax P w) (A.deeper (B3 qual scope s.heap.objs.size f cd)) (leaving (B3 qual scope s.heap.objs.size f cd) e) (fun _ iU=>CX outer H s E e iU) (fun e' iU=>CX outer H s E e' iU) s'
theorem zeP(h:sc.names.lookup x=some .cell):∃ c,(Di n sc.names []).lookup x=some c:=by
 have q:=Iq sc.names n [] (.inl h)
 exact Option.isSome_iff_exists.mp q
theorem zmA{K:ox}{s1:kb}
  (S:iY N ps scope)(hd:A.handled=none)(e0:oM P w K mg base A outer s H)(hl:vs.length=ps.length)(r:Vals vs us)
  (x:InCallC s s.heap.objs.size (bindL (B3 qual scope s.heap.objs.size f cd).kindOf (ps.zip us) fun _=>none) (Di (s.heap.objs.size+1) scope.names []) (bindC (B3 qual scope s.heap.objs.size f cd).kindOf (ps.zip us) fun _=>none) s1) :
  Inv (gR CX P w K mg base N qual scope f cd A outer s H E) [] (start N vs) H s1:=by
 have aY:ps.length<=N.length:=by have:=congrArg DC S.pre;rw [Gb] at this;lia
 obtain⟨h1,tk,rfl,hk⟩:=x.done
 have vC:∀ b:ir,b∉(gR CX P w K mg base N qual scope f cd A outer s H E).ex:=fun b z=>absurd (show b∈([]:List ir) from z) (by simp)
 refine⟨⟨e0.mod,S.kind,rfl,rfl,AI _,fun y z c h1 h2=>?_,fun y hy=>?_,fun y c _ h=>?_,fun _=>hd,Around.frames_deeper e0.frames,.inr ⟨rfl,rfl⟩,fun b z=>absurd z (vC b),e0.bs,e0.lH,fun b _ _=>vC b,fun b z=>absurd z (vC b),e0.jh,e0.mN,e0.tree,⟨_,_,rfl,S.gen,S.co,rfl,rfl⟩⟩,
  rfl,e0.bare,Un.kept hk,⟨_,x.toInCall.ns,fun i y v h1 h2 h3=>?_⟩,fun y c h=>⟨_,x.cell y c h⟩,e0.az.fresh (AI _),fun y c h=>?_,fun p hp=>absurd (show p∈([]:List (ir×AA)) from hp) (by simp),e0.az.kept hk,?_⟩
 ·exact name_of_addr x.apart (DE h1) (DE h2)
 ·have hy:scope.names.lookup y=some .cell\/scope.names.lookup y=some .free:=hy
  rcases hy with hy|hy
  ·exact zeP hy
  ·exact absurd rfl (S.zoJ _ (DE hy))
 ·exact Eo (x.above y c (DE h))
 ·have hi:i<vs.length:=by
   unfold start at h2
   by_cases hi:i<vs.length
   ·exact hi
   ·rw [Dj (by simpa using hi)] at h2
    rw [C1] at h2
    split at h2 <;> cases h2
  have ha:vs[i]?=some v:=by
   unfold start at h2
   rw [B4 (by simpa using hi),BV] at h2
   cases e:vs[i]? with
   | none=>rw [e] at h2;cases h2
   | some a=>rw [e] at h2;cases h2;rfl
  obtain⟨u,hu,rv⟩:=r.get ha
  have hp:ps[i]?=some y:=by
   rw [<- S.pre,List.getElem?_take_of_lt (by lia)];exact h1
  have ndP:ps.Nodup:=by rw [<- S.pre];exact S.nd.sublist (List.take_sublist _ _)
  refine⟨u,rv,?_⟩
  rcases S.par y (Ck hp) with k|k
  ·exact .inl ⟨k,zeA ndP hp hu k⟩
  ·obtain⟨c,e⟩:=zeP (n:=s.heap.objs.size+1) k
   refine .inr ⟨.inl k,c,e,?_⟩
   have q:=x.cell y c e
   rw [zey ndP hp hu (by show scope.names.lookup y≠_;rw [k];decide)] at q
   exact q
 ·exact e0.az.fresh (Eo (x.above y c (DE h)))
 ·unfold start
  show _=N.length
  rw [BH,AW,DR]
  lia
theorem zlv{K:ox}{dV kV doc pm aJ ct oc:dm}{an od:Option ir}
  {sp:Sp}(lk:K.lookup f=some ⟨oc,od,.func (Cm name qual params body scope dV kV doc pm an aJ ct),kj⟩)(g9:DS K aJ qual=true)(S:iY N ps scope)
  (len:∀ vs H Q E,sp vs H Q E->vs.length=ps.length)
  (zbP:∀(A:AY) (outer:List Bb) (s:kb) (H:Hp) (vs:List V) (Q:VK) (E:XK),bp k (A.deeper (B3 qual scope s.heap.objs.size f aJ))->sp vs H Q E ->
   ∃ t,cG (gR CX P w K mg base N qual scope f aJ A outer s H E) body t/\t { nx:=fun _ H'=>Q .non H',rt:=Q } (start N vs) H) :
  dj P w K mg base CX (k+1) f (Cm name qual params body scope dV kV doc pm an aJ ct) ps sp:=by
 refine⟨len,fun A outer s H args us vs Q E hr e0 hb r rN=>?_⟩
 have hl:=len _ _ _ _ rN
 have KX:K.In s.heap:=e0.mod.vo.keeps fun b o e=>(e0.bs b o e).1
 have lim:s.heap.NoLimit:=e0.mod.nolimit.keeps fun b o e=>(e0.bs b o e).1
 have zme:∀ y∈ps.zip us,scope.names.lookup y.1=some .local\/(scope.names.lookup y.1=some .cell/\((Di (s.heap.objs.size+1) scope.names []).lookup y.1).isSome=true):=fun⟨n,v⟩ hy=>by
  rcases S.par n (Ea hy).1 with q|q
  ·exact .inl q
  ·exact .inr ⟨q,Iq _ _ _ (.inl q)⟩
 refine codeAny_call_function hr.depth (KX _ _ lk) rfl S.co S.gen rfl (PySem.W.codeRec_of KX g9) (hb _ _ _ _ ?_)
 refine wpAny_newFunctionEnv_cells S.kind zme fun env he s1 x=>?_
 subst he
 refine⟨lim.keeps x.toInCall.keep,codeAny_func ?_⟩
 obtain⟨t,ht,hq⟩:=zbP A outer s H vs Q E (hr.deeper _) rN
 have I:Inv (gR CX P w K mg base N qual scope f aJ A outer s H E) [] (start N vs) H s1:=zmA S hr.hd e0 hl r x
 refine Bv (ht [] s1 (start N vs) H _ I hq) (fun fl s' hs=>?_) fun e s' hs=>hs
 have fin:∀{σ':St} {H':Hp} {v:V} {u:dm},Inv (gR CX P w K mg base N qual scope f aJ A outer s H E) [] σ' H' s'->RelV v u->Q v H'->CE outer P w H s Q u s' :=
  fun{σ' H' v u} J rv q=>⟨v,H',J.os,J.bare,J.base,J.az,rv,q⟩
 cases fl with
 | ret u =>
  obtain⟨v,σ',H',J,rv,q⟩:=hs
  exact fin J rv q
 | next =>
  obtain⟨σ',H',J,q⟩:=hs
  exact fin (v:=V.non) (u:=Bx) J rfl q
 | brk =>
  obtain⟨_,_,_,q⟩:=hs
  exact CW q
 | cont =>
  obtain⟨_,_,_,q⟩:=hs
  exact CW q
end
section
section
variable {id T:String}
noncomputable def zL(r:List V->Hp->VK->Prop)(t:TA):TE:=fun σ H Q=>t σ H fun vs H1=>r vs H1 Q
theorem zcB(hc:iW X (.builtin id) r)(hg:Gl X x)(hm:X.mg x=none)(hv:Bs x=some (.builtin id))(ha:PA X (e::es) t)(hn:x ≠ "__name__":=by decide) (bE:(x==("__debug__":gV))=false:=by decide)
  (he:Au (e::es) X.env=(false,Ay e X.env)::Au es X.env:=by rfl) (aY:(A0 pos (Au es X.env)).any (·.1)=false:=by rfl):PE X (.Call (.Name x p) (e::es) [] pos) (zL r t):=by
 intro pins s σ H Q I h
 refine Fy (mX I hg hm hv ?_ hn bE)
 exact PyProof.Rows.callWith_builtin1 (aI (ha pos pins s σ H _ I h) fun us s1 ⟨vs,H1,I1,r1,q1⟩=>hc pins s1 σ H1 vs us Q I1 r1 q1) he aY
theorem zcC(hc:iW X (.type T) r)(hg:Gl X x)(hm:X.mg x=none)(hv:Bs x=some (.type T))(ha:PA X (e::es) t)(hn:x ≠ "__name__":=by decide) (bE:(x==("__debug__":gV))=false:=by decide)
  (he:Au (e::es) X.env=(false,Ay e X.env)::Au es X.env:=by rfl) (aY:(A0 pos (Au es X.env)).any (·.1)=false:=by rfl):PE X (.Call (.Name x p) (e::es) [] pos) (zL r t):=by
 intro pins s σ H Q I h
 refine Fy (mX I hg hm hv ?_ hn bE)
 exact E1 (aI (ha pos pins s σ H _ I h) fun us s1 ⟨vs,H1,I1,r1,q1⟩=>hc pins s1 σ H1 vs us Q I1 r1 q1) he aY
end
end
end L2
namespace HT
open PySem PyProof.Rows
noncomputable def lexLt:List Int->List Int->Bool
 | [],[]=>false
 | [],_::_=>true
 | _::_,[]=>false
 | x::xs,y::ys=>if x=y then lexLt xs ys else decide (x<y)
theorem zn4(x y:Int)(xs ys:List Int):lexLt (x::xs) (y::ys)=if x=y then lexLt xs ys else decide (x<y):=rfl
theorem zn7:lexLt [] []=false:=rfl
theorem zn6(y:Int)(ys:List Int):lexLt [] (y::ys)=true:=rfl
theorem zn5(x:Int)(xs:List Int):lexLt (x::xs) []=false:=rfl
theorem zlm(A:AY)(s:kb)(a:Int)(t:Bf)(c:Int)(u:Bf):∃ e,SeqAt.EqAt A s (.int a t) (.int c u) e/\(e=true↔a=c) :=
 ⟨(a==c),SeqAt.EqAt.int_int a t c u,by simp⟩
theorem zrJ(A:AY)(s:kb)(a:Int)(t:Bf)(c:Int)(u:Bf)(prog:AO)(w:AJ)(E:dm->kb->Prop)(Q:dm->kb->Prop)(h:Q (.bool (decide (a<c))) s) :
  Av (Ax prog w) A (richCompare .Lt (.int a t) (.int c u)) Q E s :=
 (PyProof.Rows.lt_int h:Av (Ax prog w) A (A3 .Lt (.int a t) (.int c u)) Q E s)
section
open PySem.SeqAt
open PySem.AutoSeq1 (wpAny_loadPart')
open PySem.MeetsSeq PySem.MeetsSeq2 PySem.MeetsSeq3
theorem zsX(l b:ir)(items jP:Array dm)(n n2:Nat)(dd mJ:Option ir)(sl lW:Array (Option dm))(ns ms:List Int)(hi:CI items.toList ns)(hj:CI jP.toList ms) :
  Meets (Ce.«tuple.__lt__» ⟨[.ref l,.ref b],[]⟩)
   (fun _ R s=>s.heap.get? l=some { cls:=.type "tuple",dict:=dd,data:=.seq items n,slots:=sl }/\s.heap.get? b=some { cls:=.type "tuple",dict:=mJ,data:=.seq jP n2,slots:=lW } /\
    R (.ok (.ret (.bool (lexLt ns ms)))) s) :=
 .of_wp fun prog w A R s h=>by
  obtain⟨hp,g,d,tk,os⟩:=s;obtain⟨hl,hb,h⟩:=h
  have f2:=AutoSeq1.sub_tuple_tuple
  have z1:items.size=ns.length:=by rw [<- hi.length];simp
  have z2:jP.size=ms.length:=by rw [<- hj.length];simp
  wp_walk using E5 hl,E5 hb,wpAny_forIn_list _ (fun rest b s'=>b.1=none/\s'=⟨hp,g,d,tk,os⟩/\∃(vs ws:List dm) (c9 r6:List Int),rest=vs.zip ws /\
   CI vs c9/\CI ws r6/\c9.length+jP.size=r6.length+items.size/\R (.ok (.ret (.bool (lexLt c9 r6)))) ⟨hp,g,d,tk,os⟩) _
  case turn =>
   rintro⟨y,x⟩ rest b s' ⟨nT,rfl,vs,ws,c9,r6,hz,hvi,yy,hlen,hR⟩
   cases hvi with
   | nil=>rw [Cy] at hz;cases hz
   | cons a t hvi' =>
    cases yy with
    | nil=>rw [Cz] at hz;cases hz
    | cons c u hwi' =>
     rw [BI] at hz
     injection hz with hyx zmk
     injection hyx with hy hx
     subst hy hx
     rw [zn4] at hR
     simp only [AR] at hlen
     obtain⟨e,he,zfI⟩:=zlm A.in1 ⟨hp,g,d,tk,os⟩ a t c u
     refine Ap (he prog w _ _ ?_)
     cases e with
     | true =>
      rw [if_pos (zfI.mp rfl)] at hR
      wp_walk
      exact⟨rfl,rfl,_,_,_,_,zmk,hvi',hwi',by lia,hR⟩
     | false =>
      rw [if_neg (fun q=>absurd (zfI.mpr q) C3)] at hR
      have hri:=zrJ A.in1 ⟨hp,g,d,tk,os⟩ a t c u prog w
      wp_walk using hri
      exact⟨_,rfl,by simpa using hR⟩
  case fin =>
   rintro⟨b1,b2⟩ s' ⟨nT,rfl,vs,ws,c9,r6,hz,hvi,yy,hlen,hR⟩
   simp only at nT
   subst nT
   have hv:lexLt c9 r6=decide (items.size<jP.size):=by
    cases hvi with
    | nil =>
     cases yy with
     | nil =>
      simp only [A9] at hlen
      rw [zn7]
      exact(decide_eq_false (by lia)).symm
     | cons c u hw =>
      simp only [A9,AR] at hlen
      rw [zn6]
      exact(decide_eq_true (by lia)).symm
    | cons a t hv =>
     cases yy with
     | nil =>
      simp only [A9,AR] at hlen
      rw [zn5]
      exact(decide_eq_false (by lia)).symm
     | cons c u hw =>
      rw [BI] at hz
      cases hz
   rw [hv] at hR
   wp_walk
   exact⟨_,rfl,by simpa [Builtin.Tuple.tupleCompareSizes] using hR⟩
  case h =>
   exact⟨rfl,rfl,items.toList,jP.toList,ns,ms,rfl,hi,hj,by lia,h⟩
end
variable {E Q:dm->kb->Prop}{items:Array dm}{v vl vu:dm}{b sl t:ir}{s:kb}{A:AY}{w:AJ}{hi o:Option Int}{prog:AO}{n:Nat}
section
theorem zog{l:ir}{jP:Array dm}{ns ms:List Int}(hl:Dv s.heap l items)(hb:Dv s.heap b jP)(hi:CI items.toList ns)(hj:CI jP.toList ms)
  (hu:A.units<BO)(h:Q (.bool (lexLt ns ms)) s):Av (Ax prog w) A (A3 .Lt (.ref l) (.ref b)) Q E s:=by
 obtain⟨⟨cls,dd,data,sl⟩,ho,hc,n,hd⟩:=id hl
 obtain⟨⟨zbd,mJ,data2,lW⟩,fJ,jM,n2,hd2⟩:=id hb
 simp only at hc hd jM hd2
 subst hc hd jM hd2
 exact richCompare_meets_room (op:=.Lt) ⟨_,ho,rfl⟩ ⟨_,fJ,rfl⟩ PySem.F.slot_tuple_lt PySem.F.entry_tuple_lt (PySem.F.args_tuple_lt_2 _ _) (zsX l b items jP n n2 dd mJ sl lW ns ms hi hj)
  ⟨ho,fJ,show Dc (lexLt ns ms)≠Ir/\Q (.bool (lexLt ns ms)) s from⟨(fun x=>nomatch x),h⟩⟩ hu
theorem zki{vs ws:List dm}(ht:Dv s.heap t vs.toArray)(hb:Dv s.heap b ws.toArray)(hv:vs≠[])
  (h1:ws=[]->Q (.ref t) s)(h2:ws≠[]->Q (.ref s.heap.objs.size) { s with heap:=s.heap.push { cls:=.type "tuple",data:=.seq (vs++ws).toArray } })
  (hsz:vs.length+ws.length<=AK):Av (Ax prog w) A (B5 .Add (.ref t) (.ref b)) Q E s:=by
 obtain⟨⟨cls,dd,data,sl⟩,ho,hc,n,hd⟩:=id ht
 obtain⟨⟨zbd,mJ,data2,lW⟩,fJ,jM,n2,hd2⟩:=id hb
 simp only at hc hd jM hd2
 subst hc hd jM hd2
 have e:vs.toArray++ws.toArray=(vs++ws).toArray:=by simp
 by_cases hw:ws=[]
 ·exact Gd ⟨_,ho,rfl⟩ ⟨_,fJ,rfl⟩ G9 Ha Hb Hc (Hd _ _)
   (tuple_addW1 t b vs.toArray ws.toArray n n2 dd mJ sl lW (by simpa using hv) (by simp [hw])) ⟨ho,fJ,h1 hw⟩
 ·refine Gd ⟨_,ho,rfl⟩ ⟨_,fJ,rfl⟩ G9 Ha Hb Hc (Hd _ _)
   (tuple_addW2 t b vs.toArray ws.toArray n n2 dd mJ sl lW (by simpa using hv) (by simpa using hw) (by rw [Bk,Bk];exact hsz)) ⟨ho,fJ,?_⟩
  rw [e]
  exact h2 hw
noncomputable def aU(n d:Nat):Option Int->Nat
 | none=>d
 | some v=>if v<0 then(v+(n:Int)).toNat else min v.toNat n
theorem zr1(n d:Nat)(hd:d<=n)(o:Option Int):aU n d o<=n:=by
 cases o with
 | none=>exact hd
 | some v =>
  show(if v<0 then(v+(n:Int)).toNat else min v.toNat n)<=n
  by_cases hv:v<0
  ·rw [if_pos hv];lia
  ·rw [if_neg hv];exact Nat.min_le_right _ _
theorem zeQ(v:Int)(n d:Nat):(if v<0 then max (v+(n:Int)) 0 else min v (n:Int))=((aU n d (some v):Nat):Int):=by
 show(if v<0 then max (v+(n:Int)) 0 else min v (n:Int))=(((if v<0 then(v+(n:Int)).toNat else min v.toNat n):Nat):Int)
 by_cases hv:v<0
 ·simp only [if_pos hv];lia
 ·simp only [if_neg hv];lia
theorem zjn(lo hi:Option Int)(n:Nat):He lo hi 1 (n:Int)=(((aU n 0 lo:Nat):Int),((aU n n hi:Nat):Int)):=by
 have h1:¬ ((1:Int)<0):=by lia
 unfold He
 simp only [h1,if_false]
 refine E6 ?_ ?_
 ·cases lo with
  | none=>rfl
  | some v=>exact zeQ v n 0
 ·cases hi with
  | none=>rfl
  | some v=>exact zeQ v n n
theorem zp8(i j:Nat):Ge (i:Int) (j:Int) 1=j-i:=by
 unfold Ge
 have h1:(1:Int) > 0:=by lia
 simp only [h1,if_true,Int.ediv_one]
 split <;> lia
theorem zhL{Q:Option Int->kb->Prop}(p:Dk v o)(h:Q o s):Av (Ax prog w) A (Builtin.Slice.slicePartIndex v) Q E s:=by
 cases p with
 | none=>exact slicePart_none h
 | int i t=>exact slicePart_int h
theorem zhK{lo:Option Int}{Q:Int×Int×Nat->kb->Prop}(hs:s.heap.IsSliceOf sl vl vu .none)(pl:Dk vl lo)(pu:Dk vu hi)
  (h:Q (((aU n 0 lo:Nat):Int),1,aU n n hi-aU n 0 lo) s):Av (Ax prog w) A (Iu (.ref sl) (pure (n:Int))) Q E s:=by
 obtain⟨os,pP,nU,u5⟩:=id hs
 unfold Iu Builtin.Slice.sliceFields
 refine Ap (Ap (CA pP u5 (x:=vl) rfl (Ap (CA pP u5 (x:=vu) rfl (Ap (CA pP u5 (x:=.none) rfl (AH ?_)))))))
 refine Ap (slicePart_none ?_)
 show Av _ _ (if((1:Int)==0)=true then _ else _) _ _ s
 rw [if_neg (by decide)]
 refine Ap (zhL pl (Ap (zhL pu (Ap (AH ?_)))))
 show Av _ _ (match He lo hi 1 (n:Int) with|(lo,hi)=>pure (lo,(1:Int),Ge lo hi 1)) _ _ s
 rw [zjn lo hi n]
 show Av _ _ (pure (((aU n 0 lo:Nat):Int),(1:Int),Ge ((aU n 0 lo:Nat):Int) ((aU n n hi:Nat):Int) 1)) _ _ s
 rw [zp8]
 exact AH h
theorem zp6(xs:Array dm)(i k:Nat):((Bh k).filterMap fun(m:Nat)=>xs[((i:Int)+(m:Int)*1).toNat]?).toArray=((xs.toList.drop i).take k).toArray:=by
 have e:(fun(m:Nat)=>xs[((i:Int)+(m:Int)*1).toNat]?)=fun m=>xs[i+m]?:=by
  funext m
  have:((i:Int)+(m:Int)*1).toNat=i+m:=by lia
  rw [this]
 rw [e]
 have:=pick_run xs i k
 rw [List.filterMap_map] at this
 have e2:((fun x=>xs[x]?)∘fun x=>i+x)=fun m=>xs[i+m]?:=rfl
 rw [e2] at this
 rw [this]
theorem zlT{lo:Option Int}(ht:Dv s.heap t items)(hs:s.heap.IsSliceOf sl vl vu .none)(pl:Dk vl lo)(pu:Dk vu hi)
  (hw:¬ (aU items.size 0 lo=0/\aU items.size items.size hi=items.size))
  (h:Q (.ref s.heap.objs.size) { s with heap:=s.heap.push { cls:=.type "tuple",data:=.seq ((items.toList.drop (aU items.size 0 lo)).take (aU items.size items.size hi-aU items.size 0 lo)).toArray } })
  (hsz:items.size<=AK):Av (Ax prog w) A (DT (.ref t) (.ref sl)) Q E s:=by
 have yx:sizeOk (.seq ((items.toList.drop (aU items.size 0 lo)).take (aU items.size items.size hi-aU items.size 0 lo)).toArray):=by
  show((items.toList.drop (aU items.size 0 lo)).take (aU items.size items.size hi-aU items.size 0 lo)).toArray.size<=AK
  rw [Bk,Gb,Hf,EW]
  lia
 have hj:aU items.size items.size hi<=items.size:=zr1 _ _ (AI _) hi
 obtain⟨os,pP,nU,u5⟩:=id hs
 have hTs:s.TypeIs (.ref sl) "slice":=⟨os,pP,nU⟩
 unfold DT
 try with_reducible refine Ct ?_
 first|refine Ap (AH ?_)|skip
 refine Ap (wpAny_sequenceKey ht.typeIs (by decide) ?_)
 refine Ap (Ec (name:=BD "__getitem__") ht.typeIs E7
  (Dl E7 ht.typeIs entry_tuple_getitem ?_ (args_tuple_getitem _ _)))
 show Av _ _ (Iv (.ref t) >>= _) _ _ s
 refine Ap (tupleItemsOf_ ht ?_)
 refine Ap (FA hTs ?_)
 rw [if_pos (by decide)]
 refine Ap (zhK hs pl pu ?_)
 have hno:¬ ((((aU items.size 0 lo:Nat):Int)==0&&(1:Int)==1&&(aU items.size items.size hi-aU items.size 0 lo)==items.size)=true):=by
  intro q
  rw [BJ,BJ] at q
  have q1:((aU items.size 0 lo:Nat):Int)=0:=eq_of_beq q.1.1
  have q2:aU items.size items.size hi-aU items.size 0 lo=items.size:=eq_of_beq q.2
  exact hw ⟨by lia,by lia⟩
 show Av _ _ (if(((aU items.size 0 lo:Nat):Int)==0&&(1:Int)==1&&(aU items.size items.size hi-aU items.size 0 lo)==items.size)=true then _ else _) _ _ s
 rw [if_neg hno,zp6]
 first
  | exact Ap (m:=Gf _) (CY (AH ⟨_,rfl,AH h⟩) yx)
  | exact Ap (m:=Gf _) (CY (Ap (AH (AH ⟨_,rfl,AH h⟩))) yx)
  | exact Ap (Ap (m:=Gf _) (CY (AH (AH ⟨_,rfl,AH h⟩)) yx))
  | exact Ap (Ap (m:=Gf _) (CY (AH ⟨_,rfl,AH h⟩) yx))
end
end HT
namespace L2
open PySem PySem.Spec PyProof.Rows
variable {te:TE}{pos:Az}{e:Aq}{us:List dm}{ns:List Int}{X:Cx}{r:V->Option Int->Option Int->Hp->VK->Prop}{xs:List V}
section
abbrev TO:=St->Hp->(Option Int->Hp->Prop)->Prop
def PO(X:Cx)(e:Option Aq)(t:TO):Prop :=
 ∀(pins:List (ir×AA)) (s:kb) (σ:St) (H:Hp) (Q:Option Int->Hp->Prop),Inv X pins σ H s->t σ H Q ->
  Av (Ax X.prog X.w) X.A (evalPart e X.env) (fun u s'=>∃ o H',Inv X pins σ H' s'/\Dk u o/\Q o H') X.xe s
noncomputable def zsF:TO:=fun _ H Q=>Q none H
noncomputable def zsI(t:TE):TO:=fun σ H Q=>t σ H fun x H1=>∃ i,x=.int i/\Q (some i) H1
theorem intsAre_of:∀{us:List dm},Vals (ns.map V.int) us->CI us ns:=by
 induction ns with
 | nil=>intro us r;rw [BW] at r;cases r;exact .nil
 | cons n ns ih =>
  intro us r
  rw [AQ] at r
  cases r with
  | cons r1 r2 =>
   obtain⟨t,e⟩:=r1
   subst e
   exact .cons n t (ih r2)
section
variable {lo hi:Option Aq}{tl th:TO}{p2:Az}
theorem zqf:PO X none zsF:=by
 intro pins s σ H Q I h
 rw [evalPart_none]
 exact AH ⟨none,H,I,.none,h⟩
theorem zqg(h:PE X e te):PO X (some e) (zsI te):=by
 intro pins s σ H Q I hw
 rw [evalPart_some]
 refine aI (h pins s σ H _ I hw) fun u s1 ⟨x,H1,I1,r1,q1⟩=>?_
 obtain⟨i,rfl,q⟩:=q1
 obtain⟨t,rfl⟩:=r1
 exact⟨some i,H1,I1,.int i t,q⟩
def oY(X:Cx)(r:V->Option Int->Option Int->Hp->VK->Prop):Prop :=
 ∀(pins:List (ir×AA)) (s:kb) (σ:St) (H:Hp) (x:V) (v vl vu:dm) (lo hi:Option Int) (sl:ir) (Q:VK),Inv X pins σ H s->RelV x v->s.heap.IsSliceOf sl vl vu .none->Dk vl lo->Dk vu hi->r x lo hi H Q ->
  ∃ T id,typeLookup (.type T) "__getitem__"=pure (some (.builtin id))/\s.TypeIs v T/\Av (Ax X.prog X.w) X.A (DT v (.ref sl)) (EP X pins σ Q) X.xe s
noncomputable def tSl(r:V->Option Int->Option Int->Hp->VK->Prop)(te:TE)(tl th:TO):TE:=fun σ H Q=>te σ H fun x H1=>tl σ H1 fun l H2=>th σ H2 fun u H3=>r x l u H3 Q
theorem zg4(hr:oY X r)(he:PE X e te)(hl:PO X lo tl)(hu:PO X hi th):PE X (.Subscript e (.Slice lo hi none p2) pos) (tSl r te tl th):=by
 intro pins s σ H Q I h
 refine Subscript_ (aI (he pins s σ H _ I h) fun v s1 ⟨x,H1,I1,r1,q1⟩=>?_)
 refine wpAny_Slice (aI (hl pins s1 σ H1 _ I1 q1) fun vl s2 ⟨l,H2,I2,pl,q2⟩=>aI (hu pins s2 σ H2 _ I2 q2) fun vu s3 ⟨u,H3,I3,pu,q3⟩=>?_)
 rw [evalPart_none]
 refine AH ?_
 have I4:Inv X pins σ H3 { s3 with heap:=s3.heap.push { cls:=.type "slice",data:=.fields #[vl,vu,.none] } }:=I3.kept (t':=s3.toks) fun b ob q=>A5 _ q
 obtain⟨T,id,hT,ht,hg⟩:=hr pins { s3 with heap:=s3.heap.push { cls:=.type "slice",data:=.fields #[vl,vu,.none] } } σ H3 x v vl vu l u s3.heap.objs.size Q I4 r1 (Heap.IsSliceOf.new ..) pl pu q3
 show Av (Ax X.prog X.w) X.A (Hg e (.Slice lo hi none p2) v (.ref s3.heap.objs.size)) (EP X pins σ Q) X.xe { s3 with heap:=s3.heap.push { cls:=.type "slice",data:=.fields #[vl,vu,.none] } }
 exact tail_any (ops:=[.ref s3.heap.objs.size,v]) ht hT hg (by with_unfolding_all rfl)
def mI(xs:List V)(lo hi:Option Int):List V:=(xs.drop (HT.aU xs.length 0 lo)).take (HT.aU xs.length xs.length hi-HT.aU xs.length 0 lo)
theorem zeZ(xs:List V)(lo hi:Option Int):(mI xs lo hi).length<=xs.length:=by
 unfold mI
 rw [Gb,Hf]
 lia
def zrF(K:ox):V->Option Int->Option Int->Hp->VK->Prop:=fun x lo hi H Q=>∃ a xs,x=.ref a/\dO K H a xs /\
 ¬ (HT.aU xs.length 0 lo=0/\HT.aU xs.length xs.length hi=xs.length)/\∀ p,H p=none->Q (.ref p) (upd H p (.tup (mI xs lo hi)))
theorem zsh:oY X (zrF X.K):=by
 intro pins s σ H x v vl vu lo hi sl Q I rx hs pl pu h
 obtain⟨a,xs,rfl,hx,hw,q⟩:=h
 cases rx
 obtain⟨its,r,ht,hz⟩:=I.tuple hx
 have hlen:its.toArray.size=xs.length:=by rw [Bk];exact r.length.symm
 refine⟨"tuple",_,E7.lookup,ht.typeIs,?_⟩
 refine HT.zlT ht hs pl pu (by rw [hlen];exact hw) ?_ (by rw [hlen];exact hz)
 rw [hlen]
 refine⟨.ref s.heap.objs.size,_,I.laid (t':=s.toks) (o:=.tup (mI xs lo hi)) (fun b ob q=>A5 _ q) (AI _) ?_,rfl,q _ (I.az.fresh (AI _))⟩
 exact⟨Bj (zeZ xs lo hi) hz,_,(r.drop (HT.aU xs.length 0 lo)).take (HT.aU xs.length xs.length hi-HT.aU xs.length 0 lo),Fu _ _⟩
def zru(K:ox):R2:=fun x y H Q=>∃ a b xs ys,x=.ref a/\y=.ref b/\dO K H a xs/\dO K H b ys/\xs≠[]/\xs.length+ys.length<=AK /\
 (ys=[]->Q (.ref a) H)/\(ys≠[]->∀ p,H p=none->Q (.ref p) (upd H p (.tup (xs++ys))))
theorem Vals.zcr(r:Vals xs us):us=[]↔xs=[]:=by
 cases r with
 | nil=>simp
 | cons _ _=>simp
theorem zo8:aV X (B5 .Add) (zru X.K):=by
 intro pins s σ H x y v u Q I rx ry h
 obtain⟨a,b,xs,ys,rfl,rfl,ha,hb,hx,hz,q1,q2⟩:=h
 cases rx
 cases ry
 obtain⟨its,r1,p1,_⟩:=I.tuple ha
 obtain⟨og,r2,p2,_⟩:=I.tuple hb
 refine HT.zki p1 p2 (fun z=>hx (r1.zcr.mp z)) (fun z=>⟨.ref a,H,I,rfl,q1 (r2.zcr.mp z)⟩) (fun z=>?_) (by rw [<- r1.length,<- r2.length];exact hz)
 refine⟨.ref s.heap.objs.size,_,I.laid (t':=s.toks) (o:=.tup (xs++ys)) (fun b ob q=>A5 _ q) (AI _) ?_,rfl,q2 (fun w=>z (r2.zcr.mpr w)) _ (I.az.fresh (AI _))⟩
 exact⟨by rw [BH];exact hz,_,r1.append r2,Fu _ _⟩
end
end
variable {iL its:List dm}{t:TA}{s:kb}{v:dm}{H:Hp}{α:Type}{pins:List (ir×AA)}{x:V}{es:List Aq}{j n:Nat}{ys:List V}{to:TE}{f:AA->AA}{i:Int}{r:V->List V->Hp->VK->Prop}{σ:St}{p:ir}{name:gV}
section
noncomputable def dU(n:Nat)(i:Int):Option Nat:=if 0<=i then(if i<n then some i.toNat else none) else if -(n:Int)<=i then some (i+n).toNat else none
def cJ{α:Type}(xs:List α)(i:Int):Option α:=(dU xs.length i).bind fun j=>xs[j]?
theorem zfV(h:dU n i=some j):seqIndex? i n=some j/\j<n/\-(n:Int)<=i/\i<n:=by
 unfold dU at h
 by_cases h0:0<=i
 ·rw [if_pos h0] at h
  by_cases h1:i<n
  ·rw [if_pos h1] at h
   have e:i.toNat=j:=BP h
   exact⟨by rw [seqIndex_of h0 h1,e],by lia,by lia,h1⟩
  ·rw [if_neg h1] at h;cases h
 ·rw [if_neg h0] at h
  by_cases h1:-(n:Int)<=i
  ·rw [if_pos h1] at h
   have e:(i+n).toNat=j:=BP h
   exact⟨by rw [seqIndex_neg (by lia) h1,e],by lia,h1,by lia⟩
  ·rw [if_neg h1] at h;cases h
theorem zaF{xs:List α}{v:α}(h:cJ xs i=some v):∃ j,seqIndex? i xs.length=some j/\xs[j]?=some v/\j<xs.length/\-(xs.length:Int)<=i/\i<xs.length:=by
 unfold cJ at h
 cases e:dU xs.length i with
 | none=>rw [e] at h;cases h
 | some j =>
  rw [e] at h
  obtain⟨h1,h2,h3,h4⟩:=zfV e
  exact⟨j,h1,h,h2,h3,h4⟩
def wV(b:Aq):Prop:=∀ o i,subscripted b false o i=operate [o,i] (DT o i)
def kE(X:Cx)(r:R2):Prop :=
 ∀(value slice:Aq) (pins:List (ir×AA)) (s:kb) (σ:St) (H:Hp) (x y:V) (v u:dm) (Q:VK),Inv X pins σ H s->RelV x v->RelV y u->r x y H Q ->
  subscripted slice false v u=operate [v,u] (DT v u)->Av (Ax X.prog X.w) X.A (Hg value slice v u) (EP X pins σ Q) X.xe s
def kF(X:Cx)(id:String)(r:V->List V->Hp->VK->Prop):Prop :=
 ∀(pins:List (ir×AA)) (s:kb) (σ:St) (H:Hp) (x:V) (xs:List V) (v:dm) (us:List dm) (Q:VK),Inv X pins σ H s->RelV x v->Vals xs us->r x xs H Q ->
  Av (Ax X.prog X.w) X.A (call (.builtin id) (v::us)) (EP X pins σ Q) X.xe s
section
variable {a b:Aq}{ta tb:TE}
theorem zg1{r:R2}(hr:kE X r)(ha:PE X a ta)(hb:PE X b tb)(hs:wV b):PE X (.Subscript a b pos) (qB r ta tb):=by
 intro pins s σ H Q I h
 exact Subscript_ (zaR ha hb I h fun v u s2 x y H2 I2 rx ry q=>hr a b pins s2 σ H2 x y v u Q I2 rx ry q (hs _ _))
def zry(K:ox):R2:=fun x y H Q=>∃ p xs i v,x=.ref p/\y=.int i/\bB K H p xs/\cJ xs i=some v/\Q v H
def zrA(K:ox):R2:=fun x y H Q=>∃ p xs i v,x=.ref p/\y=.int i/\dO K H p xs/\cJ xs i=some v/\Q v H
def zrz:R2:=fun x y H Q=>∃ z i c,x=.str z/\y=.int i/\z.length<=AK/\cJ z.cps.toList i=some c/\Q (.str ⟨#[c]⟩) H
theorem zmH:kE X (zry X.K):=by
 intro value slice pins s σ H x y v u Q I rx ry h hs
 obtain⟨p,xs,i,z,rfl,rfl,hq,he,q⟩:=h
 cases rx
 obtain⟨t,rfl⟩:=ry
 obtain⟨its,r,pl,hz⟩:=I.list hq
 obtain⟨j,h1,h2,h3,h4,h5⟩:=zaF he
 obtain⟨w,ew,gJ⟩:=r.get h2
 have hl:=r.length
 have hn:=pX
 have fin:EP X pins σ Q w s:=⟨z,H,I,gJ,q⟩
 by_cases h0:0<=i
 ·have hj:i.toNat=j:=by
   rw [seqIndex_of h0 h5] at h1
   exact BP h1
  exact item_listR pl.isList h0 (by lia) (by rw [hj];simpa using ew) fin hs
 ·have hj:(i+(its.toArray.size:Int)).toNat=j:=by
   rw [seqIndex_neg (by lia) h4] at h1
   rw [Bk,<- hl]
   exact BP h1
  exact subscriptTail_builtinR (x:=w) pl.isList.typeIs slot_list_getitem.lookup
   (wpAny_getItem_list_neg (Q:=fun r s'=>r=w/\EP X pins σ Q r s') pl.isList (by lia) (by rw [Bk] <;> lia) (by lia) (by rw [hj];simpa using ew) ⟨rfl,fin⟩) hs
theorem zmJ:kE X (zrA X.K):=by
 intro value slice pins s σ H x y v u Q I rx ry h hs
 obtain⟨p,xs,i,z,rfl,rfl,hq,he,q⟩:=h
 cases rx
 obtain⟨t,rfl⟩:=ry
 obtain⟨its,r,pl,hz⟩:=I.tuple hq
 obtain⟨j,h1,h2,h3,h4,h5⟩:=zaF he
 obtain⟨w,ew,gJ⟩:=r.get h2
 have hl:=r.length
 have hn:=pX
 have fin:EP X pins σ Q w s:=⟨z,H,I,gJ,q⟩
 exact subscriptTail_builtinR (x:=w) pl.typeIs slot_tuple_getitem.lookup
  (getItem_tuple (j:=j) (Q:=fun r s'=>r=w/\EP X pins σ Q r s') pl (by lia) (by lia) (by rw [Bk,<- hl];exact h1) (by simpa using ew) ⟨rfl,fin⟩) hs
theorem zmI:kE X zrz:=by
 intro value slice pins s σ H x y v u Q I rx ry h hs
 obtain⟨z,i,c,rfl,rfl,hz,he,q⟩:=h
 obtain⟨t,rfl⟩:=rx
 obtain⟨t',rfl⟩:=ry
 obtain⟨j,h1,h2,h3,h4,h5⟩:=zaF he
 have hl:z.cps.toList.length=z.length:=by simp [Str.length]
 rw [hl] at h1 h4 h5
 have hn:=pX
 exact tail_any (Ex s z t) slot_str_getitem.lookup (getItem_str (c:=c) (by
  have e1:decide (i < -(2^63:Int))=false:=decide_eq_false (by lia)
  have e2:decide (i ≥ 2^63)=false:=decide_eq_false (by lia)
  rw [e1,e2,Hh]) (by rw [h1];simpa using h2) ⟨.str ⟨#[c]⟩,H,I.tok _,⟨_,rfl⟩,q⟩) hs
theorem zos(its:List dm)(n j:Nat)(u:dm):BX (·.setIfInBounds j u) { cls:=.type "list",data:=.seq its.toArray n }={ cls:=.type "list",data:=.seq (its.set j u).toArray n }:=by
 simp [BX]
theorem Inv.lst{pins:List (ir×AA)}{σ:St}{H:Hp}{s:kb}{p:ir}{xs:List V}(I:Inv X pins σ H s)(h:H p=some (.lst xs)) :
  ∃(its:List dm) (n:Nat),Vals xs its/\s.heap.get? p=some { cls:=.type "list",data:=.seq its.toArray n }/\xs.length<=AK:=by
 obtain⟨z,its,n,r,e⟩:=I.az p _ h
 exact⟨its,n,r,e,z⟩
theorem Inv.zof{n':Nat}(I:Inv X pins σ H s)(h:H p=some (.lst xs))
  (ho:s.heap.get? p=some { cls:=.type "list",data:=.seq its.toArray n }) (hf:f { cls:=.type "list",data:=.seq its.toArray n }={ cls:=.type "list",data:=.seq iL.toArray n' }) (r:Vals ys iL) (hz:ys.length<=AK) (t:Nat) :
  Inv X pins σ (upd H p (.lst ys)) { s with heap:=s.heap.update p f,toks:=t }:=by
 have e:(s.heap.update p f).get? p=some { cls:=.type "list",data:=.seq iL.toArray n' }:=by
  rw [Hi f ho (by rw [hf] <;> rfl),hf]
 refine I.write (x:=p) (e:=p) (by rw [h];trivial) (.inl rfl) (fun b u hb q=>(Iw _ _ (Cd hb)).trans q) ⟨_,e⟩ ?_
 exact⟨hz,iL,n',r,e⟩
def zrD:V->V->V->Hp->(Hp->Prop)->Prop:=fun o i v H Q=>∃ p xs k j,o=.ref p/\i=.int k/\H p=some (.lst xs)/\dU xs.length k=some j/\Q (upd H p (.lst (xs.set j v)))
theorem set_list:zdx X zrD:=by
 intro pins s σ H o i v ov iv u Q I ro ri rv h
 obtain⟨p,xs,k,j,rfl,rfl,hp,hj,q⟩:=h
 cases ro
 obtain⟨t,rfl⟩:=ri
 obtain⟨its,n,r,ho,hz⟩:=I.lst hp
 obtain⟨h1,h2,h3,h4⟩:=zfV hj
 have hl:=r.length
 have hn:=pX
 have I':Inv X pins σ (upd H p (.lst (xs.set j v))) { s with heap:=s.heap.update p (BX (·.setIfInBounds j u)) } :=
  I.zof hp ho (zos its n j u) (r.set rv j) (by rw [C6];exact hz) s.toks
 by_cases h0:0<=k
 ·have hk:k.toNat=j:=by
   rw [seqIndex_of h0 h4] at h1
   exact BP h1
  exact PySem.W.ki_setAt ho h0 (by lia) (by rw [Bk,<- hl];exact h4) (by rw [hk];exact⟨_,I',q⟩)
 ·have hk:(k+(its.toArray.size:Int)).toNat=j:=by
   rw [seqIndex_neg (by lia) h3] at h1
   rw [Bk,<- hl]
   exact BP h1
  exact PySem.W.ki_setBack ho (by lia) (by rw [Bk,<- hl];exact h3) (by lia) (by rw [hk];exact⟨_,I',q⟩)
theorem zsj(lo hi:Option Int)(n:Nat):(Ey lo hi none n).1=((HT.aU n 0 lo:Nat):Int)/\(Ey lo hi none n).2.1=((HT.aU n n hi:Nat):Int)/\(Ey lo hi none n).2.2=1:=by
 refine⟨?_,?_,rfl⟩
 ·cases lo with
  | none=>simp [Ey,HT.aU]
  | some i =>
   simp only [Ey,HT.aU,Cp,show(1:Int) > 0 by decide,if_true]
   by_cases h:i<0
   ·simp only [h,if_true] <;> lia
   ·simp only [h,if_false] <;> lia
 ·cases hi with
  | none=>simp [Ey,HT.aU]
  | some i =>
   simp only [Ey,HT.aU,Cp,show(1:Int) > 0 by decide,if_true]
   by_cases h:i<0
   ·simp only [h,if_true] <;> lia
   ·simp only [h,if_false] <;> lia
theorem zsi(its:List dm)(lo hi:Option Int):slicePick its.toArray lo hi none=((its.drop (HT.aU its.length 0 lo)).take (HT.aU its.length its.length hi-HT.aU its.length 0 lo)).toArray:=by
 obtain⟨h1,h2,h3⟩:=zsj lo hi its.toArray.size
 unfold slicePick
 rw [h1,h2,h3]
 simp only [sliceRange_one,pick_run,Bk] <;> rfl
def zrE(K:ox):V->Option Int->Option Int->Hp->VK->Prop:=fun x lo hi H Q=>∃ a xs,x=.ref a/\bB K H a xs/\∀ p,H p=none->Q (.ref p) (upd H p (.lst (mI xs lo hi)))
theorem zsf:oY X (zrE X.K):=by
 intro pins s σ H x v vl vu lo hi sl Q I rx hs pl pu h
 obtain⟨a,xs,rfl,hx,q⟩:=h
 cases rx
 obtain⟨its,r,ht,hz⟩:=I.list hx
 have hlen:=r.length
 refine⟨"list",_,slot_list_getitem.lookup,ht.isList.typeIs,?_⟩
 refine wpAny_getItem_list_slice ht.isList hs pl pu .none (by simp) ?_ (by rw [Bk] <;> lia)
 rw [zsi,<- hlen]
 refine⟨.ref s.heap.objs.size,_,I.laid (t':=s.toks) (o:=.lst (mI xs lo hi)) (fun b ob q=>A5 _ q) (AI _) ?_,rfl,q _ (I.az.fresh (AI _))⟩
 exact⟨Bj (zeZ xs lo hi) hz,_,0,(r.drop (HT.aU xs.length 0 lo)).take (HT.aU xs.length xs.length hi-HT.aU xs.length 0 lo),Bl _ rfl⟩
theorem zeL:iW X (.builtin "len") (fun xs H Q=>∃ p ys,xs=[.ref p]/\(bB X.K H p ys\/dO X.K H p ys)/\Q (.int ys.length) H):=by
 intro pins s σ H xs us Q I r h
 obtain⟨p,ys,rfl,hq,q⟩:=h
 obtain⟨u,rfl,rx⟩:=vals1 r
 cases rx
 have hn:=pX
 rcases hq with hq|hq
 ·obtain⟨its,r',pl,hz⟩:=I.list hq
  have hlen:=r'.length
  exact Calls.call_len_list pl.isList (by simp only [Bk] <;> lia) ⟨.int ys.length,H,I.tok _,⟨s.toks+1,by rw [Bk,hlen]⟩,q⟩
 ·obtain⟨its,r',pl,hz⟩:=I.tuple hq
  have hlen:=r'.length
  exact len_tuple pl (by simp only [Bk] <;> lia) ⟨.int ys.length,H,I.tok _,⟨s.toks+1,by rw [Bk,hlen]⟩,q⟩
theorem zkf:iW X (.builtin "len") (fun xs H Q=>∃ z,xs=[.str z]/\z.length<=AK/\Q (.int z.length) H):=by
 intro pins s σ H xs us Q I r h
 obtain⟨z,rfl,hz,q⟩:=h
 obtain⟨u,rfl,t,rfl⟩:=vals1 r
 have hn:=pX
 exact len_str (by lia) ⟨.int z.length,H,I.tok _,⟨_,rfl⟩,q⟩
theorem zba:iW X (.type "list") (fun xs H Q=>∃ p ys,xs=[.ref p]/\(bB X.K H p ys\/dO X.K H p ys)/\∀ l,H l=none->Q (.ref l) (upd H l (.lst ys))):=by
 intro pins s σ H xs us Q I r h
 obtain⟨p,ys,rfl,hq,q⟩:=h
 obtain⟨u,rfl,rx⟩:=vals1 r
 cases rx
 have fin:∀(its:List dm),Vals ys its->ys.length<=AK->∀(h':AD) (c':Nat),(∀ b o',s.heap.get? b=some o'->h'.get? b=some o') ->
   h'.get? s.heap.objs.size=some { cls:=.type "list",dict:=none,data:=.seq its.toArray c',slots:=#[] }->EP X pins σ Q (.ref s.heap.objs.size) { s with heap:=h' }:=fun its r' hz h' c' kp e =>
  ⟨.ref s.heap.objs.size,_,I.laid (t':=s.toks) kp (AI _) (show dq X.prog X.w _ h' _ (.lst ys) from⟨hz,its,c',r',e⟩),rfl,q _ (I.az.fresh (AI _))⟩
 rcases hq with hq|hq
 ·obtain⟨its,r',pl,hz⟩:=I.list hq
  have hlen:=r'.length
  obtain⟨o,ho,hc,n,hd⟩:=pl.isList
  exact call_list_seq p (.inl rfl) ho hc hd (fun h' c' kp e=>fin its r' hz h' c' kp e) (by simp only [Bk] <;> lia)
 ·obtain⟨its,r',pl,hz⟩:=I.tuple hq
  have hlen:=r'.length
  obtain⟨o,ho,hc,n,hd⟩:=pl
  exact call_list_seq p (.inr rfl) ho hc hd (fun h' c' kp e=>fin its r' hz h' c' kp e) (by simp only [Bk] <;> lia)
theorem zeM:iW X (.type "tuple") (fun xs H Q=>∃ p ys,xs=[.ref p]/\((bB X.K H p ys/\∀ l,H l=none->Q (.ref l) (upd H l (.tup ys)))\/(dO X.K H p ys/\Q (.ref p) H))):=by
 intro pins s σ H xs us Q I r h
 obtain⟨p,ys,rfl,h⟩:=h
 obtain⟨u,rfl,rx⟩:=vals1 r
 cases rx
 rcases h with⟨hq,q⟩|⟨hq,q⟩
 ·obtain⟨its,r',pl,hz⟩:=I.list hq
  have hlen:=r'.length
  refine call_tuple_list pl.isList (fun h' kp=>?_) (by simp only [Bk] <;> lia)
  have I1:Inv X pins σ H { s with heap:=h' }:=I.kept (t':=s.toks) kp
  have I2:Inv X pins σ (upd H h'.objs.size (.tup ys)) { s with heap:=h'.push { cls:=.type "tuple",data:=.seq its.toArray } } :=
   I1.laid (t':=s.toks) (fun b o e=>A5 _ e) (AI _) (show dq X.prog X.w _ _ _ (.tup ys) from⟨hz,its,r',Fu _ _⟩)
  exact⟨.ref h'.objs.size,_,I2,rfl,q _ (I1.az.fresh (AI _))⟩
 ·obtain⟨its,r',pl,hz⟩:=I.tuple hq
  exact call_tuple_same pl ⟨.ref p,H,I,rfl,q⟩
def tyV(K:ox)(T:String)(x:V)(H:Hp):Prop:=match x with
 | .str _=>T="str"
 | .int _=>T="int"
 | .ref p=>(T="list"/\∃ xs,bB K H p xs)\/(T="tuple"/\∃ o,K.lookup p=some o/\o.cls=.type "tuple"/\o.dict=none) \/
   (T="dict"/\((∃ ag,H p=some (.dK ag))\/∃ ag,H p=some (.dT ag)))\/(T="set"/\∃ S n,H p=some (.set S n))
 | _=>False
theorem zs8{T:String}(I:Inv X pins σ H s)(r:RelV x v)(ty:tyV X.K T x H) :
  s.TypeIs v T/\∀ a,v=.ref a->∃ ob,s.heap.get? a=some ob/\ob.dict=none:=by
 cases x with
 | str z =>
  obtain⟨t,rfl⟩:=r
  cases (show T="str" from ty)
  exact⟨Ex s z t,fun _ e=>nomatch e⟩
 | int i =>
  obtain⟨t,rfl⟩:=r
  cases (show T="int" from ty)
  exact⟨FC s i t,fun _ e=>nomatch e⟩
 | ref p =>
  cases r
  rcases ty with⟨rfl,xs,hq⟩|⟨rfl,o,hk,hc,hd⟩|⟨rfl,hk⟩|⟨rfl,S,n,hk⟩
  ·obtain⟨its,_,pl,_⟩:=I.list hq
   refine⟨pl.isList.typeIs,fun a e=>?_⟩
   cases e
   obtain⟨o,n,e,c,hd,_⟩:=pl
   exact⟨o,e,hd⟩
  ·refine⟨⟨o,I.fX p o hk,hc⟩,fun a e=>?_⟩
   cases e
   exact⟨o,I.fX _ o hk,hd⟩
  ·have z:∃ o,s.heap.get? p=some o/\o.ExactDict:=by
    rcases hk with⟨ag,hk⟩|⟨ag,hk⟩
    ·obtain⟨_,_,_,_,o,_,_,e,ex,_⟩:=I.az p _ hk
     exact⟨o,e,ex⟩
    ·obtain⟨_,_,_,_,o,_,_,e,ex,_⟩:=I.az p _ hk
     exact⟨o,e,ex⟩
   obtain⟨o,e,ex⟩:=z
   refine⟨⟨o,e,ex.1⟩,fun a e2=>?_⟩
   cases e2
   exact⟨o,e,ex.2.1⟩
  ·obtain⟨o,_,_,_,e,ex,_⟩:=I.az p _ hk
   refine⟨⟨o,e,ex.1⟩,fun a e2=>?_⟩
   cases e2
   exact⟨o,e,ex.2.1⟩
 | _=>exact CW ty
noncomputable def tBM(K:ox)(T:String)(r:V->List V->Hp->VK->Prop)(to:TE)(t:TA):TE:=fun σ H Q=>to σ H fun x H1=>tyV K T x H1/\t σ H1 fun xs H2=>r x xs H2 Q
variable {o:Aq}{apos cP:Az}{T id:String}
theorem zcA(pa:PlainAttrs T)(slot:Slot T name id)(hty:typeOf (.builtin id)=pure (.type "method_descriptor")) (hm:kF X id r) (ho:PE X o to) (ha:PA X (e::es) t)
  (pH:DA o name X.env (Ay o X.env)=Ay o X.env:=by rfl)
  (pJ:((A0 cP (Au (e::es) X.env)).all (fun x=>!x.1)&&(DN cP (DQ [] X.env)).all (fun x=>x.1.isSome)
   && decide ((e::es).length+([]:List Ed).length+(if([]:List Ed).isEmpty then 0 else 1)<30))=true:=by rfl)
  (pK:(apos.endLine==cP.line)=true:=by rfl) (hs:Au (e::es) X.env=(false,Ay e X.env)::Au es X.env:=by rfl) (pR:(A0 cP (Au es X.env)).any (·.1)=false:=by rfl) :
  PE X (.Call (.Attribute o name apos) (e::es) [] cP) (tBM X.K T r to t):=by
 intro pins s σ H Q I h
 refine wpAny_Call_method_late pH pJ pK rfl (aI (ho pins s σ H _ I h) fun v s1 ⟨x,H1,I1,r1,ty,q1⟩=>?_)
 obtain⟨h1,h2⟩:=zs8 I1 r1 ty
 refine⟨T,id,pa,slot,hty,h1,h2,?_⟩
 have hA:=ha cP pins s1 σ H1 _ I1 q1
 rw [hs] at hA ⊢
 refine Calls.callWith_builtin (by show(false||(A0 cP (Au es X.env)).any (·.1))=false;rw [pR] <;> rfl) (Calls.evalArgs_plain ?_)
 exact aI hA fun us s2 ⟨vs,H2,I2,r2,q2⟩=>hm pins s2 σ H2 x vs v us Q I2 r1 r2 q2
end
end
variable {t':Nat}{f:Array dm->Array dm}
section
def MtM(X:Cx)(id:String)(r:V->List V->Hp->VK->Prop):Prop :=
 ∀(pins:List (ir×AA)) (s:kb) (σ:St) (H:Hp) (x:V) (xs:List V) (v:dm) (us:List dm) (Q:VK),Inv X pins σ H s->RelV x v->Vals xs us->r x xs H Q ->
  Av (Ax X.prog X.w) X.A (call (.builtin id) (v::us)) (EP X pins σ Q) X.xe s
theorem Vals.one:∀{x:V} {us:List dm},Vals [x] us->∃ u,us=[u]/\RelV x u
 | _,_,.cons r .nil=>⟨_,rfl,r⟩
theorem Vals.dropLast(h:Vals xs us):Vals xs.dropLast us.dropLast:=by
 induction h with
 | nil=>exact .nil
 | cons r t ih =>
  cases t with
  | nil=>exact .nil
  | cons q t'=>exact .cons r ih
theorem Vals.rep{xs:List V}{us:List dm}(h:Vals xs us):∀ k:Nat,Vals (AB k xs).flatten (AB k us).flatten
 | 0=>.nil
 | k+1=>by
  rw [DF,DF,E8,E8]
  exact Vals.append h (Vals.rep h k)
theorem ztw(l:List α):l.eraseIdx (l.length-1)=l.dropLast:=by
 induction l with
 | nil=>rfl
 | cons a r ih =>
  cases r with
  | nil=>rfl
  | cons b r =>
   have e:(a::b::r).length-1=((b::r).length-1)+1:=by
    have h1:(a::b::r).length=r.length+2:=rfl
    have h2:(b::r).length=r.length+1:=rfl
    lia
   rw [e,List.eraseIdx_cons_succ,ih]
   all_goals rfl
theorem foldl_rep(its:List dm):∀(k:Nat) (acc:List dm),
  FD (fun x1 x2=>x1++x2) acc.toArray (AB k its.toArray)=(acc++(AB k its).flatten).toArray
 | 0,acc=>by simp
 | k+1,acc=>by
  have e:acc.toArray++its.toArray=(acc++its).toArray:=by simp
  have e2:(acc++its)++(AB k its).flatten=acc++(AB (k+1) its).flatten:=by
   rw [DF,E8,C7]
  rw [<- e2,<- foldl_rep its k (acc++its),<- e,DF,List.foldl_cons]
section
variable {l b:ir}{zs:List V}
theorem Inv.zgr(I:Inv X pins σ H s)(hH:H l=some (.lst xs))
  (e:s.heap.get? l=some { cls:=.type "list",data:=.seq its.toArray n }) (hf:f its.toArray=iL.toArray) (hv:Vals ys iL) (hz:ys.length<=AK) :
  Inv X pins σ (upd H l (.lst ys)) { s with heap:=s.heap.update l (BX f),toks:=t' }:=by
 have q:=PySem.IsL.update e f
 rw [hf] at q
 refine I.write (x:=l) (e:=l) (by rw [hH];exact trivial) (.inl rfl) (fun b' u hb hu=>(Iw s.heap (BX f) (Cd hb)).trans hu) ⟨_,q⟩ ?_
 exact⟨hz,iL,_,hv,q⟩
theorem Inv.yJ(I:Inv X pins σ H s)(hv:Vals ys its)(hz:ys.length<=AK) :
  Inv X pins σ (upd H s.heap.objs.size (.lst ys)) { s with heap:=s.heap.push { cls:=.type "list",data:=.seq its.toArray },toks:=t' } :=
 I.laid (fun _ _ q=>A5 _ q) (AI _) ⟨hz,its,0,hv,Bl _ rfl⟩
theorem Inv.fresh(I:Inv X pins σ H s):H s.heap.objs.size=none:=I.az.fresh (AI _)
theorem Inv.zch(I:Inv X pins σ H s)(hH:H l=some (.lst xs)):xs.length<=AK/\∃(its:List dm) (n:Nat),Vals xs its/\xs.length=its.length/\s.heap.get? l=some { cls:=.type "list",data:=.seq its.toArray n }:=by
 obtain⟨z,its,n,r,e⟩:=I.az l _ hH
 exact⟨z,its,n,r,r.length,e⟩
theorem zoL(h:n<=AK):Hj n=false:=by
 unfold Hj
 exact decide_eq_false (by lia)
end
section
def zrt:V->List V->Hp->VK->Prop:=fun x vs H Q=>∃ l xs y,x=.ref l/\vs=[y]/\H l=some (.lst xs)/\xs.length<AK/\Q .non (upd H l (.lst (xs++[y])))
theorem zcn:MtM X "list.append" zrt:=by
 intro pins s σ H x vs v us Q I rx rv h
 obtain⟨l,xs,y,rfl,rfl,hH,hz,q⟩:=h
 cases rx
 obtain⟨u,rfl,ru⟩:=rv.one
 obtain⟨z,its,n,r,hl,e⟩:=I.zch hH
 refine DH F.slot_list_append ⟨_,e,rfl⟩ F.entry_list_append (F.args_list_append_2 _ _) (PySem.list_append l its.toArray n u (by rw [Bk];lia)) ⟨e,?_⟩
 refine⟨.non,_,I.zgr (iL:=its++[u]) hH e (by simp) (r.append (.cons ru .nil)) ?_,rfl,q⟩
 rw [BH,DU]
 lia
def zrC:R2:=fun x y H Q=>∃ l k xs,x=.ref l/\y=.int k/\H l=some (.lst xs)/\-(2^63)<=k/\k<2^63/\xs.length*k.toNat<=AK /\
 ∀ p,H p=none->Q (.ref p) (upd H p (.lst (AB k.toNat xs).flatten))
theorem len_rep(xs:List α)(k:Nat):(AB k xs).flatten.length=k*xs.length:=by
 induction k with
 | zero=>simp
 | succ k ih=>rw [DF,E8,BH,ih,Nat.succ_mul,Gg]
theorem zpm:aV X (B5 .Mult) zrC:=by
 intro pins s σ H x y v u Q I rx ry h
 obtain⟨l,k,xs,rfl,rfl,hH,h1,h2,hz,q⟩:=h
 cases rx
 obtain⟨t,rfl⟩:=ry
 obtain⟨z,its,n,r,hl,e⟩:=I.zch hH
 have hlen:its.toArray.size*k.toNat<=AK:=by rw [Bk,<- hl];exact hz
 have zl6:¬ its.toArray.size*k.toNat > (2^63-1) / 8:=by
  have:(AK:Nat)<=(2^63-1) / 8:=by decide
  lia
 have zl9:¬ (!Iy k)=true:=by
  rw [fitsIndex_both h1 h2]
  exact C3
 have zmg:¬ Hj (its.toArray.size*k.toNat)=true:=by
  rw [zoL hlen]
  exact C3
 have zmh:FD (fun x1 x2=>x1++x2) #[] (AB (if its.toArray.isEmpty=true then 0 else k.toNat) its.toArray)=(AB k.toNat its).flatten.toArray:=by
  have f0:∀ m:Nat,FD (fun x1 x2=>x1++x2) #[] (AB m its.toArray)=(AB m its).flatten.toArray:=fun m=>by
   have:=foldl_rep its m []
   rw [A1] at this
   exact this
  rw [f0]
  cases its with
  | nil=>simp
  | cons a r'=>rw [if_neg (by simp)]
 refine IA (T:="list") (U:="int") (by decide) ⟨_,e,rfl⟩ (fun s'=>FC s' k t) noFill_list_mul F.fills_int_mul F.slot_int_rmul repeat_list F.slot_int_index.lookup
  (DH F.slot_int_rmul (FC s k t) F.entry_int_rmul (F.args_int_rmul_2 _ _) (int___rmul___int_list k t l its.toArray n)
   ⟨e,rfl,⟨_,e,rfl⟩,DH F.slot_list_mul ⟨_,e,rfl⟩ F.entry_list_mul (F.args_list_mul_2 _ _) (AutoListH.list___mul___list_int_3 l its.toArray n k t zl9 zl6 zmg) ⟨e,?_⟩⟩)
 rw [zmh]
 exact⟨.ref _,_,I.yJ (t':=s.toks) (r.rep k.toNat) (by rw [len_rep,FE];exact hz),rfl,q _ I.fresh⟩
end
end
end L2
namespace Att
open PySem PySem.W PySem.Calls PyProof.Rows
variable {YP:AJ->AD->Prop}{args:List WData}{l:OpenLaw}{q:AO}{P:Params}{d:DefRec}{h:AD}{vals:List dm}{loose:List gV}{n:Nat}
theorem zmz:∀(ns:List Int) (vs:List dm),WellAll P h vs (ns.map WData.int)->CI vs ns:=by
 intro ns
 induction ns with
 | nil =>
  intro vs w
  rw [BW] at w
  cases w
  exact .nil
 | cons n ns ih =>
  intro vs w
  rw [AQ] at w
  cases w with
  | cons a b =>
   cases a
   exact .cons _ _ (ih _ b)
theorem zr5(hn:l.most=some n)
  (yv:l.row.toRowW.claim.pre args=true)(hwl:WellAll P h vals args) :
  ∃ a vs ns,vals=[BF a]/\args=[WData.list (ns.map WData.int)]/\h.get? a=some { cls:=.type "list",data:=.seq vs.toArray }/\CI vs ns/\ns.length<=n:=by
 have hsh:WShape.hasAll [] args [.list .int]=true:=(pre_splitW yv).1
 have hc:l.pre.holds [] { args:=args }=true:=(pre_splitW yv).2
 obtain⟨d,r,rfl,h1,h2⟩:=hasAllW_cons hsh
 obtain rfl:=hasAllW_nil h2
 obtain⟨xs,rfl,h3⟩:=hasW_list h1
 obtain⟨ns,rfl⟩:=items_int h3
 have hlen:ns.length<=n:=by
  unfold OpenLaw.pre at hc
  have h4:(WTm.not (.lt (.lit (.int n)) (.len (.arg 0)))).holds [] { args:=[.list (ns.map .int)] }=true:=by
   have h4:=(holds_andW hc).1
   rw [hn] at h4
   exact h4
  have h5:=condW_of h4 (w_not (w_lt w_lit (w_len_list (w_arg rfl))))
  rw [AW] at h5
  refine Nat.le_of_not_lt fun q=>?_
  have q':(n:Int)<((ns.length:Nat):Int):=by lia
  first
   | (rw [decide_eq_true q'] at h5;exact absurd h5 (by decide))
   | (simp at h5;lia)
 cases hwl with
 | cons w1 w2 =>
  cases w2
  cases w1 with
  | list ho hall=>exact⟨_,_,ns,rfl,rfl,ho,zmz ns _ hall,hlen⟩
theorem zqh(l:OpenLaw)(args:List WData):l.row.toRowW.claim.post args (.bool true) args=true :=
 postW_of (r:=l.row.toRowW) (X:=(true==true))
  (show WShape.has [] (.bool true) .bool=true by first|rfl|decide|simp [WShape.has,WShape.arms,WShape.armsAll])
  (show(WTm.eq .res (.lit (.bool true))).value [] { args:=args,res:=some (.bool true),after:=args }=some (.bool (true==true)) from w_eq_bool (w_res rfl) w_lit) rfl
theorem zjD{XP:(gV->Option dm)->AD->Prop}
  (hn:l.most=some n)(u3:d.params.defaults=[])
  (call:∀(w:AJ) (s₀ s₁:kb) (mg mb:gV->Option dm) (fa:ir) (o:AA) (pm cd doc:dm) (a:ir) (vs:List dm) (ns:List Int),
   Ground q loose [] XP w s₀ mg mb s₁.heap->YP w s₁.heap ->
   s₁.heap.get? fa=some o->o.data=.func (docDef d.name d.params d.body d.scope pm cd doc)->s₁.heap.CodeRec cd d.name->mg d.name=some (.ref fa) ->
   s₁.heap.get? a=some { cls:=.type "list",data:=.seq vs.toArray }->CI vs ns->ns.length<=n->s₁.gens=#[] ->
   DL (Ax l.prog w) Ez (.call (.ref fa) ⟨[.ref a],[]⟩) (fun r s'=>r=.ok (.ret (.bool true))/\OldK s₁.heap s'.heap/\s'.os=s₁.os/\Dx s'.gens) s₁) :
  WalkO q loose XP YP l.row.toRowW d [] (fun f vs=>Hk f vs):=by
 intro w s₀ s₁ mg mb G Y fa o pm cd doc dV kV ho hd g9 hD hmg hg args vals as yv zty hrd hwl hlo
 obtain rfl:dV=.none:=Dflts.none hD u3
 obtain rfl:kV=.none:=Dflts.noKw hD
 obtain⟨a,vs,ns,rfl,rfl,zbS,hints,hlen⟩:=zr5 hn yv hwl
 refine enter_call (E4 (call w s₀ s₁ mg mb fa o pm cd doc a vs ns G Y ho (fd_plain hd) g9 hmg zbS hints hlen hg) fun r s' hq=>?_)
 obtain⟨rfl,h2,h3,h4⟩:=hq
 exact⟨.inl ⟨.bool true,.bool true,[],rfl,fun _=>rfl,.bool true,zqh l _,fun _=>⟨IB,fun _ hm=>(nomatch hm)⟩⟩,h2,h3,h4⟩
end Att
namespace L2
open PySem PySem.Spec PyProof.Rows
section
theorem zif:∀{vs:List dm} {ns:List Int},CI vs ns->Vals (ns.map V.int) vs
 | _,_,.nil=>.nil
 | _,_,.cons n t h=>.cons ⟨t,rfl⟩ (zif h)
end
section
abbrev KOf{K:ox}{h:AD}(_:K.In h):ox:=K
end
variable {P:AO}{pos:Az}{oc:dm}{f:ir}{n:Nat}{fd:Bw}{A B:Prop}{H:Hp}{mg:gV->Option dm}{X:Cx}{qual x:gV}{kj:Array (Option dm)}{ps:List gV}{w:AJ}{base:AD}
section
noncomputable def jb(s:AU):Arguments:=match s with
 | .FunctionDef _ a _ _ _ _ _ _ _ _=>a
 | _=>{ posonlyargs:=[],args:=[],vararg:=none,kwonlyargs:=[],kw_defaults:=[],kwarg:=none,defaults:=[] }
noncomputable def dR(s:AU):List AU:=match s with
 | .FunctionDef _ _ b _ _ _ _ _ _ _=>b
 | _=>[]
noncomputable def bG(s:AU):BG:=match s with
 | .FunctionDef _ _ _ _ _ _ sc _ _ _=>sc
 | _=>{ kind:=.function,names:=[],isGenerator:=false,isCoroutine:=false }
abbrev E0:XK:=fun _ _ _=>False
structure e9(K:ox)(x qual:gV)(st:AU)(f:ir)(fd:Bw):Prop where
 ex:∃(oc:dm) (od:Option ir) (kV doc pm:dm) (an:Option ir) (aJ ct:dm) (kj:Array (Option dm)),
  fd=Cm x qual (jb st) (dR st) (bG st) .none kV doc pm an aJ ct/\K.lookup f=some ⟨oc,od,.func fd,kj⟩/\DS K aJ qual=true
 kp:Dh K (.ref f)=true
section
variable {K:ox}
theorem e9.binds{st:AU}(F:e9 K x qual st f fd)
  (h:∀(kV doc pm:dm) (an:Option ir) (aJ ct:dm) (us:List dm),us.length=ps.length->D9 (Cm x qual (jb st) (dR st) (bG st) .none kV doc pm an aJ ct) ⟨us,[]⟩=pure (ps.zip us)):Binds K fd ps []:=by
 obtain⟨oc,od,kV,doc,pm,an,aJ,ct,kj,rfl,lk,g9⟩:=F.ex
 exact .all (h kV doc pm an aJ ct)
theorem zbx{st:AU}{od an:Option ir}{kV doc pm aJ ct:dm}(l:K.lookup f=some ⟨oc,od,.func (Cm x qual (jb st) (dR st) (bG st) .none kV doc pm an aJ ct),kj⟩)
  (c:DS K aJ qual=true)(k:Dh K (.ref f)=true):e9 K x qual st f (Cm x qual (jb st) (dR st) (bG st) .none kV doc pm an aJ ct):=⟨⟨oc,od,kV,doc,pm,an,aJ,ct,kj,rfl,l,c⟩,k⟩
end
theorem zsl(h:n<=1000):n<AK:=E9 h (by decide)
section
theorem pv(i:Nat)(hN:X.N[i]?=some x:=by rfl)(hv:w4 X.env.scope x:=by first|exact DV rfl|exact Dm (DV rfl)|exact Dm (Dm rfl))(hd:(x==("__debug__":gV))=false:=by decide)
  (g9:(x==("__classdict__":gV))=false:=by decide):PE X (.Name x pos) (dY i):=zg5 hN hv hd g9
end
theorem mU(h:B):if false=true then A else B:=by
 rw [if_neg C3]
 exact h
theorem mV(h:A):if true=true then A else B:=by
 rw [if_pos rfl]
 exact h
def aB(H H':Hp):Prop:=∀ b o,H b=some o->H' b=some o
theorem aB.refl(H:Hp):aB H H:=fun _ _ h=>h
theorem aB.trans{H1 H2:Hp}(a:aB H H1)(b:aB H1 H2):aB H H2:=fun c o h=>b c o (a c o h)
end
variable {a:Nat}{s:kb}{A:AY}{σ:St}{k:Int}{pins:List (ir×AA)}
section
theorem bits_le(h:k.natAbs<2^a):Gh k<=a:=by
 unfold Gh
 split
 ·exact B6 _
 ·rename_i h0
  have hp:k.natAbs≠0:=by
   intro z
   apply h0
   have:k=0:=by lia
   subst this
   rfl
  have:=(Hl hp).mpr h
  lia
theorem mulOk_of{i j:Int}{b:Nat}(hi:i.natAbs<2^a)(hj:j.natAbs<2^b)(h:a+b<=134217728):IntMulOk i j:=by
 have h1:=bits_le hi
 have h2:=bits_le hj
 have h3:IC ((Gh i:Int)+(Gh j:Int))=false:=by
  unfold IC
  rw [bitsLine_eq]
  simp
  lia
 unfold IntMulOk
 rw [h3]
 simp
section
theorem zpj:aV X (B5 .Mult) (rI IntMulOk fun i j=>.int (i*j)):=opI fun _ _ _ _ _ _ _ hc q=>mul_int q hc
end
mutual
/-- the value v is the thing d in the abstract heap -/
def Is(K:ox)(H:Hp):A4->V->Prop
 | .none,v=>v=.non
 | .bool b,v=>v=.bl b
 | .int i,v=>v=.int i
 | .str x,v=>v=.str x
 | .list xs,v=>∃ a vs,v=.ref a/\bB K H a vs/\jE K H xs vs
 | .tuple xs,v=>∃ a vs,v=.ref a/\dO K H a vs/\jE K H xs vs
 | .dict _,_=>False
def jE(K:ox)(H:Hp):List A4->List V->Prop
 | [],vs=>vs=[]
 | d::ds,vs=>∃ v r,vs=v::r/\Is K H d v/\jE K H ds r
end
section
mutual
theorem Is.reads(I:Inv X pins σ H s):∀(d:A4) (v:V) (u:dm),Is X.K H d v->RelV v u->∃ as,Reads s.heap u d as
 | .none,v,u,h,r=>by
  simp only [Is] at h;subst h
  cases (show u=Bx from r)
  exact⟨_,.none⟩
 | .bool b,v,u,h,r=>by
  simp only [Is] at h;subst h
  cases (show u=Dc b from r)
  exact⟨_,.bool b⟩
 | .int i,v,u,h,r=>by
  simp only [Is] at h;subst h
  obtain⟨t,rfl⟩:=(show ∃ t,u=D1 i t from r)
  exact⟨_,.int i t⟩
 | .str x,v,u,h,r=>by
  simp only [Is] at h;subst h
  obtain⟨t,rfl⟩:=(show ∃ t,u=D2 x t from r)
  exact⟨_,.str x t⟩
 | .list xs,v,u,h,r=>by
  simp only [Is] at h
  obtain⟨a,vs,rfl,h1,h2⟩:=h
  cases (show u=BF a from r)
  obtain⟨its,rv,⟨o,n,ho,hc,_,hd⟩,_⟩:=I.list h1
  obtain⟨as,ra⟩:=jE.reads I xs vs its h2 rv
  exact⟨_,.list ho hc hd (by simpa using ra)⟩
 | .tuple xs,v,u,h,r=>by
  simp only [Is] at h
  obtain⟨a,vs,rfl,h1,h2⟩:=h
  cases (show u=BF a from r)
  obtain⟨its,rv,⟨o,ho,hc,n,hd⟩,_⟩:=I.tuple h1
  obtain⟨as,ra⟩:=jE.reads I xs vs its h2 rv
  exact⟨_,.tuple ho hc hd (by simpa using ra)⟩
 | .dict _,v,u,h,r=>by simp only [Is] at h
theorem jE.reads(I:Inv X pins σ H s):∀(ds:List A4) (vs:List V) (us:List dm),jE X.K H ds vs->Vals vs us->∃ as,ReadsAll s.heap us ds as
 | [],vs,us,h,r=>by
  simp only [jE] at h;subst h
  cases r
  exact⟨_,.nil⟩
 | d::ds,vs,us,h,r=>by
  simp only [jE] at h
  obtain⟨v,rr,rfl,h1,h2⟩:=h
  cases r with
  | cons r1 r2 =>
   obtain⟨as,q1⟩:=Is.reads I d v _ h1 r1
   obtain⟨bs,q2⟩:=jE.reads I ds rr _ h2 r2
   exact⟨_,.cons q1 q2⟩
end
end
section
noncomputable def zrv(K:ox):R2:=fun x y H Q=>∃ d e,Is K H d x/\Is K H e y/\CJ d=true/\CJ e=true/\Q (.bl (CK d e)) H
noncomputable def zrB(K:ox):R2:=fun x y H Q=>∃ d e,Is K H d x/\Is K H e y/\CJ d=true/\CJ e=true/\Q (.bl (!CK d e)) H
theorem zo9(hu:X.A.units+64<BO):aV X (A3 .Eq) (zrv X.K):=by
 intro pins s σ H x y v u Q I rx ry h
 obtain⟨d,e,h1,h2,c1,c2,q⟩:=h
 obtain⟨as,ra⟩:=Is.reads I d x v h1 rx
 obtain⟨bs,rb⟩:=Is.reads I e y u h2 ry
 exact SeqAt.compareEq_shaped ra rb c1 c2 hu ⟨.bl _,H,I,rfl,q⟩
theorem zpk(hu:X.A.units+64<BO):aV X (A3 .NotEq) (zrB X.K):=by
 intro pins s σ H x y v u Q I rx ry h
 obtain⟨d,e,h1,h2,c1,c2,q⟩:=h
 obtain⟨as,ra⟩:=Is.reads I d x v h1 rx
 obtain⟨bs,rb⟩:=Is.reads I e y u h2 ry
 exact SeqAt.compareNe_shaped ra rb c1 c2 hu ⟨.bl _,H,I,rfl,q⟩
end
end
variable {E Q:dm->kb->Prop}{c u:dm}{b:Bool}{y:V}
section
inductive Ty(K:ox)(H:Hp):V->dm->Prop where
 | non:Ty K H .non (.type "NoneType")
 | bl (x:Bool):Ty K H (.bl x) (.type "bool")
 | int (i:Int):Ty K H (.int i) (.type "int")
 | str (x:gV):Ty K H (.str x) (.type "str")
 | lst {a:ir} {xs:List V} (e:bB K H a xs):Ty K H (.ref a) (.type "list")
 | tup {a:ir} {xs:List V} (e:dO K H a xs):Ty K H (.ref a) (.type "tuple")
noncomputable def xS:V->dm
 | .ty n=>.type n
 | .ref a=>.ref a
 | _=>.none
theorem zkk(r:RelV y u)(h:xS y≠.none):u=xS y:=by
 cases y with
 | ty n=>exact r
 | ref a=>exact r
 | _=>exact absurd rfl h
section
theorem zmE{x:V}{t:dm}(I:Inv X pins σ H s)(rx:RelV x u)(ty:Ty X.K H x t)(e:Hm X.K t c=some b)(h:∀ tk,Q (.bool b) { s with toks:=tk }) :
  Av (Ax X.prog X.w) A (call (.builtin "isinstance") [u,c]) Q E s:=by
 cases ty with
 | non=>cases (show u=Bx from rx);exact Fb PySem.W.kitx_none I.fX D8 e (fun z=>nomatch z) h
 | bl y=>cases (show u=Dc y from rx);exact Fb PySem.W.kitx_bool I.fX D8 e (fun z=>nomatch z) h
 | int i=>obtain⟨t,q⟩:=(show ∃ t,u=D1 i t from rx);cases q;exact Fb PySem.W.kitx_int I.fX D8 e (fun z=>nomatch z) h
 | str y=>obtain⟨t,q⟩:=(show ∃ t,u=D2 y t from rx);cases q;exact Fb PySem.W.kitx_str I.fX D8 e (fun z=>nomatch z) h
 | @lst a xs ea =>
  cases (show u=BF a from rx)
  obtain⟨its,_,⟨o,n,ho,hc,_⟩,_⟩:=I.list ea
  exact Fb PySem.W.kitx_list I.fX ⟨o,ho,hc⟩ e (fun z=>nomatch z) h
 | @tup a xs ea =>
  cases (show u=BF a from rx)
  obtain⟨its,_,⟨o,ho,hc,_⟩,_⟩:=I.tuple ea
  exact Fb PySem.W.kitx_tuple I.fX ⟨o,ho,hc⟩ e (fun z=>nomatch z) h
def zrx(K:ox):List V->Hp->VK->Prop:=fun xs H Q=>∃ x y t b,xs=[x,y]/\xS y≠.none/\Ty K H x t/\Hm K t (xS y)=some b/\Q (.bl b) H
theorem zke:iW X (.builtin "isinstance") (zrx X.K):=by
 intro pins s σ H xs us Q I r h
 obtain⟨x,y,t,b,rfl,hy,ty,e,q⟩:=h
 obtain⟨u,v,rfl,ru,rv⟩:=vals2 r
 cases zkk rv hy
 exact zmE I ru ty e fun tk=>⟨.bl b,H,I.tok tk,rfl,q⟩
theorem zpO{n:String}(hg:Gl X x)(hm:X.mg x=none)(hv:Bs x=some (.type n))(hn:x ≠ "__name__":=by decide) (hd:(x==("__debug__":gV))=false:=by decide):PE X (.Name x pos) (tC (.ty n)):=zpw hg hm hv rfl hn hd
end
end
variable {env:Bb}{c:Aq}{σ:List (Option V)}{scope:BG}
section
noncomputable def fB(cells:List (gV×ir)):List (gV×Cw)->List (gV×ir)->List (gV×ir)
 | [],acc=>acc
 | (n,k)::r,acc=>if k=.free then(match cells.lookup n with|some a=>fB cells r ((n,a)::acc)|none=>fB cells r acc) else fB cells r acc
theorem xR{cells:List (gV×ir)}:∀{names:List (gV×Cw)} {acc:List (gV×ir)},(∀ p∈acc,cells.lookup p.1=some p.2)->∀ p∈fB cells names acc,cells.lookup p.1=some p.2
 | [],acc,h,p,hp=>h p hp
 | (n,k)::r,acc,h,p,hp=>by
  unfold fB at hp
  split at hp
  ·split at hp
   ·rename_i a e
    exact xR (names:=r) (acc:=(n,a)::acc) (fun q hq=>by
     rcases AX.mp hq with rfl|hq
     ·exact e
     ·exact h q hq) p hp
   ·exact xR h p hp
  ·exact xR h p hp
theorem xQ{cells:List (gV×ir)}:∀{names:List (gV×Cw)} {acc:List (gV×ir)},∀ p∈acc,p∈fB cells names acc
 | [],acc,p,hp=>hp
 | (n,k)::r,acc,p,hp=>by
  unfold fB
  split
  ·split
   ·exact xQ p (Be _ hp)
   ·exact xQ p hp
  ·exact xQ p hp
theorem uB{cells:List (gV×ir)}{x:gV}{a:ir}(e:cells.lookup x=some a):∀{names:List (gV×Cw)} {acc:List (gV×ir)},(x,DW)∈names->(x,a)∈fB cells names acc
 | (n,k)::r,acc,h=>by
  unfold fB
  rcases AX.mp h with h|h
  ·cases h
   rw [if_pos rfl,e]
   exact xQ _ (Bc ..)
  ·split
   ·split
    ·exact uB e h
    ·exact uB e h
   ·exact uB e h
theorem vp{α:Type}{x:gV}{a:α}:∀{l:List (gV×α)},(x,a)∈l->∃ b,l.lookup x=some b
 | (y,b)::r,h=>by
  by_cases e:(x==y)=true
  ·exact⟨b,by simp [A2,e]⟩
  ·rcases AX.mp h with h|h
   ·cases h
    exact absurd (beq_self_eq_true _) e
   ·obtain⟨c,hc⟩:=vp h
    refine⟨c,?_⟩
    have e':(x==y)=false:=by simpa using e
    simp only [A2,e']
    exact hc
theorem zeR(h:∀ y∈scope.names,y.2=.free->∃ a,env.cells.lookup y.1=some a):closureFor scope env=pure (fB env.cells scope.names []):=by
 have key:∀(names:List (gV×Cw)) (acc:List (gV×ir)),(∀ y∈names,y.2=.free->∃ a,env.cells.lookup y.1=some a) ->
   (forIn names acc (fun x r=>match x with
    | (name,kind)=>if(kind==DW)=true then do let a <- cellOf env name;pure (Fc ((name,a)::r)) else pure (Fc r)):Sem (List (gV×ir)))=pure (fB env.cells names acc):=by
  intro names
  induction names with
  | nil=>intro acc _;rfl
  | cons p r ih =>
   intro acc hh
   obtain⟨n,k⟩:=p
   rw [Hn]
   by_cases hk:k=.free
   ·subst hk
    obtain⟨a,ea⟩:=hh (n,.free) (Bc ..) rfl
    have e1:cellOf env n=pure a:=by unfold cellOf;rw [ea]
    simp only [beq_self_eq_true,if_true,e1,pure_bind,fB,ea]
    exact ih _ fun y hy=>hh y (Be _ hy)
   ·have hk':(k==DW)=false:=by simpa using hk
    simp only [hk',A6,if_false,pure_bind,fB,hk]
    exact ih _ fun y hy=>hh y (Be _ hy)
 unfold closureFor
 exact(bind_pure _).trans (key scope.names [] h)
theorem qt{scope:BG}{env:Bb}{x:gV}{k:Cw}:∀{names:List (gV×Cw)},
  (names.map fun(n,k)=>if(k==DW&&env.scope.kind==.function&&env.kindOf n==some .cell) then(n,CB) else(n,k)).lookup x=some k ->
  ∃ k0,names.lookup x=some k0/\(x,k0)∈names/\(k0=k\/(k0=.free/\k=.cell))
 | [],h=>by simp at h
 | (n,k0)::r,h=>by
  by_cases e:(x==n)=true
  ·have en:x=n:=by simpa using e
   subst en
   refine⟨k0,by simp [A2],Bc ..,?_⟩
   rw [AQ] at h
   by_cases hc:(k0==DW&&env.scope.kind==.function&&env.kindOf x==some .cell)=true
   ·simp only [hc,if_true,A2,beq_self_eq_true] at h
    simp only [BJ,beq_iff_eq] at hc
    exact .inr ⟨hc.1.1,(BP h).symm⟩
   ·simp only [hc,A6,if_false,A2,beq_self_eq_true] at h
    exact .inl (BP h)
  ·have e':(x==n)=false:=by simpa using e
   rw [AQ] at h
   have h':(r.map fun(n,k)=>if(k==DW&&env.scope.kind==.function&&env.kindOf n==some .cell) then(n,CB) else(n,k)).lookup x=some k:=by
    by_cases hc:(k0==DW&&env.scope.kind==.function&&env.kindOf n==some .cell)=true
    ·simp only [hc,if_true,A2,e'] at h
     exact h
    ·simp only [hc,A6,if_false,A2,e'] at h
     exact h
   obtain⟨k1,h1,h2,h3⟩:=qt (scope:=scope) h'
   exact⟨k1,by simp only [A2,e'];exact h1,Be _ h2,h3⟩
noncomputable def d8(X:Cx)(ix:List Nat):List gV:=ix.map fun i=>X.N.getD i ""
noncomputable def dQ(k:Nat)(ix:List Nat)(σ:St):St:=AB k none++ix.map fun i=>(σ[i]?).getD none
end
variable {a:ir}{elt iter:Aq}{prog:AO}{k:Nat}{t:TT}{ifs:List Aq}
section
section
variable {R:Result->kb->Prop}
theorem zeW{target:Aq}{it acc:dm}(I:Nat->kb->Prop)
  (turn:∀ n s,I n s->Av (Ax prog w) A (Df it) (fun r s₁=>match r with
   | none=>R (.ok .next) s₁
   | some v=>Av (Ax prog w) A (F5 target it v) (fun _ s₀=>Av (Ax prog w) A (CG target env v) (fun _ s₂ =>
     Av (Ax prog w) A (forIn ifs true fun c r=>if r=true then do let ok <- isTrue c env (Ay c env);pure (Fc ok) else pure (Fc r)) (fun ok s₃ =>
      if ok=true then Av (Ax prog w) A (Ay elt env) (fun x s₄ =>
       Av (Ax prog w) A (call (.builtin "list.append") [acc,x]) (fun _ s₅=>∃ m,m<n/\I m s₅) (Fd (Ax prog w) A env fun e s'=>R (.error e) s') s₄) (Fd (Ax prog w) A env fun e s'=>R (.error e) s') s₃
      else ∃ m,m<n/\I m s₃) (Fd (Ax prog w) A env fun e s'=>R (.error e) s') s₂) (Fd (Ax prog w) A env fun e s'=>R (.error e) s') s₀) (Fd (Ax prog w) A env fun e s'=>R (.error e) s') s₁) (Fd (Ax prog w) A env fun e s'=>R (.error e) s') s)
  (n:Nat) (h:I n s) :
  DL (Ax prog w) A (.compLoop (.ListComp elt [⟨target,iter,ifs,0⟩] scope pos) 0 it acc env) R s:=by
 refine codeAny_loop rfl I (fun n s hI=>?_) n h
 show Av _ A ((compTurn (.ListComp elt [⟨target,iter,ifs,0⟩] scope pos) 0 it acc env).onRaise (fun x=>do noteFrame x env;theTreesLotGoes x)) _ _ s
 refine wpAny_noted ?_
 rw [compTurn_list]
 refine Ap (Es (Ap (Bv (turn n s hI) (fun r s₁ h₁=>?_) fun _ _ h'=>h')))
 cases r with
 | none=>exact AH h₁
 | some v =>
  refine Ap (Bv h₁ (fun _ s₀ h₀=>?_) fun _ _ h'=>h')
  refine Ap (Bv h₀ (fun _ s₂ h₂=>Ap (Bv h₂ (fun ok s₃ h₃=>?_) fun _ _ h'=>h')) fun _ _ h'=>h')
  cases ok with
  | false=>exact AH ⟨rfl,h₃⟩
  | true =>
   exact Ap (Ap (Bv h₃ (fun x s₄ h₄=>Ap (Bv h₄ (fun _ s₅ h₅=>AH (AH ⟨rfl,h₅⟩)) fun _ _ h'=>h')) fun _ _ h'=>h'))
end
def jF(X:Cx)(ifs:List Aq)(t:TT):Prop :=
 ∀(pins:List (ir×AA)) (s:kb) (σ:St) (H:Hp) (Q:Bool->Hp->Prop),Inv X pins σ H s->t σ H Q ->
  Av (Ax X.prog X.w) X.A (forIn ifs true fun c r=>if r=true then do let ok <- isTrue c X.env (Ay c X.env);pure (Fc ok) else pure (Fc r)) (TP X pins σ Q) X.xe s
noncomputable def zss:TT:=fun _ H Q=>Q true H
theorem zqA:jF X [] zss:=fun _ _ _ H _ I h=>wpAny_tests_nil ⟨H,I,h⟩
theorem zqB(hc:PT X c t):jF X [c] t:=fun pins s σ H Q I h=>wpAny_tests_one (hc pins s σ H Q I h)
def t8(k:Nat)(g:TG):Prop:=∀ x σ H Q,g x σ H Q->g x σ H fun σ2 H2=>(σ2.length=σ.length/\∀ i:Nat,k<=i->σ2[i]?=σ[i]?)/\Q σ2 H2
def sS(k:Nat)(ix:List Nat)(wi:TI)(g:TG)(tc:TT)(te:TE):TE:=fun σ H Q=>wi σ H fun J H1=>∀ l,H1 l=none ->
 ∃ W:Nat->Nat->List V->Hp->Prop,(∃ m,W 0 m [] (upd H1 l (.lst [])))/\∀ i m ys H2,W i m ys H2->H2 l=some (.lst ys) /\
  ((J.stop i H2/\Q (.ref l) H2)\/(J.go i H2/\∀ x H3,J.Al i H2 x H3->g x (dQ k ix σ) H3 fun σ2 H4=>tc σ2 H4 fun b H5 =>
   if b=true then te σ2 H5 fun v H6=>H6 l=some (.lst ys)/\ys.length<AK/\∃ m',m'<m/\W (i+1) m' (ys++[v]) (upd H6 l (.lst (ys++[v]))) else ∃ m',m'<m/\W (i+1) m' ys H5))
end
section
def Fl(h:AD)(e:ir)(cls:dm)(dd:Option ir)(T:ir)(fl:dm):Prop :=
 ∃ oe vs oT ts,h.get? e=some oe/\oe.cls=cls/\oe.dict=dd/\oe.data=.fields vs/\vs[1]?=some (.ref T)/\T≠e/\h.get? T=some oT/\oT.data=.fields ts/\ts[3]?=some fl
end
variable {outer:List Bb}{N:List gV}{cd:dm}{t:TA}{h:AD}{o:HO}
section
theorem dq.some(x:dq P w H h a o):∃ ob,h.get? a=some ob:=by
 cases o with
 | lst xs=>obtain⟨_,_,_,_,e⟩:=x;exact⟨_,e⟩
 | tup xs=>obtain⟨_,_,_,ob,e,_⟩:=x;exact⟨_,e⟩
 | dK ag=>obtain⟨_,_,_,_,ob,_,_,e,_⟩:=x;exact⟨_,e⟩
 | dT ag=>obtain⟨_,_,_,_,ob,_,_,e,_⟩:=x;exact⟨_,e⟩
 | set S n=>obtain⟨ob,_,_,_,e,_⟩:=x;exact⟨_,e⟩
 | ins C dx fs=>obtain⟨_,_,_,e,_⟩:=x;exact⟨_,e⟩
 | own y=>exact x
 | xd fs=>obtain⟨_,⟨od,_,_,e,_⟩,_⟩:=x;exact⟨_,e⟩
 | met f y=>exact⟨_,x⟩
 | de lo hi=>obtain⟨_,_,_,e⟩:=x;exact⟨_,e⟩
 | frz ob u=>exact⟨_,x.1⟩
 | tbl ps=>exact⟨_,x⟩
 | ext φ=>exact x.2.1
def cF(P:AO)(w:AJ):kz:=fun outer H s E ev s'=>∃(e:ir) (cls:dm) (dd:Option ir) (T:ir) (H':Hp),ev=.ref e/\s'.os=s.os/\Dx s'.gens/\Un (gU outer) [] H H' s.heap s'.heap/\cW P w H' s'.heap /\
 Fl s'.heap e cls dd T .none/\H' e=none/\H' T=none/\s.heap.get? e=none/\s.heap.get? T=none/\E cls dd H'
theorem qf:Passes (cF P w) X E0:=fun _ _ _ _ _ _ _ ⟨_,_,_,_,_,_,_,_,_,_,_,_,_,_,_,q⟩=>q.elim
section
variable {K:ox}{E:XK}
theorem e9.yY{st:AU}{sp:Sp}(F:e9 K x qual st f fd)(S:iY N ps (bG st))(len:∀ vs H Q E,sp vs H Q E->vs.length=ps.length)
  (zbP:∀(aJ:dm) (A:AY) (outer:List Bb) (s:kb) (H:Hp) (vs:List V) (Q:VK) (E:XK),bp k (A.deeper (B3 qual (bG st) s.heap.objs.size f aJ))->sp vs H Q E ->
   ∃ t,cG (gR (cF P w) P w K mg base N qual (bG st) f aJ A outer s H E) (dR st) t/\t { nx:=fun _ H'=>Q .non H',rt:=Q } (start N vs) H):dj P w K mg base (cF P w) (k+1) f fd ps sp:=by
 obtain⟨oc,od,kV,doc,pm,an,aJ,ct,kj,rfl,lk,g9⟩:=F.ex
 exact zlv lk g9 S len fun A outer s H vs Q E hr rN=>zbP aJ A outer s H vs Q E hr rN
end
end
section
def Nw(X:Cx)(pins:List (ir×AA))(b:ir):Prop :=
 X.s₀.heap.get? b=none/\b≠X.env.locals/\b∉X.fs/\(∀ x c,X.env.cells.lookup x=some c->c≠b)/\∀ p∈X.pn++pins,p.1≠b
def XP(X:Cx)(pins:List (ir×AA))(σ:St)(E:XK)(ev:dm)(s':kb):Prop :=
 ∃(e:ir) (cls:dm) (dd:Option ir) (T:ir) (H':Hp),ev=.ref e/\Inv X pins σ H' s'/\Fl s'.heap e cls dd T .none/\H' e=none/\H' T=none/\Nw X pins e/\Nw X pins T/\E cls dd H'
abbrev TX:=St->Hp->VK->XK->Prop
abbrev TSX:=Ends->(St->XK)->St->Hp->Prop
end
section
end
section
end
variable {outer:Bb}{es:List Aq}{p:Az}{e:Aq}
section
def aD(K:ox)(mg:gV->Option dm)(x:gV)(st:AU):Prop:=∃(f:ir) (fd:Bw),mg x=some (.ref f)/\e9 K x x st f fd
def Callee(P:AO)(w:AJ)(K:ox)(mg:gV->Option dm)(base:AD)(x:gV)(k:Nat)(ps:List gV)(sp:Sp):Prop :=
 ∃(f:ir) (fd:Bw),mg x=some (.ref f)/\Dh K (.ref f)=true/\Binds K fd ps []/\dj P w K mg base (cF P w) k f fd ps sp
section
variable {j:Nat}{sp:Sp}{E:XK}
theorem vI(c:Callee X.prog X.w X.K X.mg X.base x k ps sp)(hr:bp j X.A)(hg:Gl X x)(hx:Passes (cF X.prog X.w) X E)(ha:PA X (e::es) t)(hj:k<=j:=by decide)(bE:(x==("__debug__":gV))=false:=by decide)
  (he:Au (e::es) X.env=(false,Ay e X.env)::Au es X.env:=by rfl) (aY:(A0 pos (Au es X.env)).any (·.1)=false:=by rfl):PE X (.Call (.Name x p) (e::es) [] pos) (zc6 sp [] E t):=by
 obtain⟨f,fd,hm,hk,hb,F⟩:=c
 exact zpx F (hr.mono hj) hg hm hk hb .nil hx ha bE he aY
end
end
section
end
section
end
variable {l:ir}
section
theorem aB.upd(h:H l=none):aB H (upd H l o):=fun b u e=>by rw [bh (p9 e h)];exact e
end
section
end
section
end
variable {t':Nat}{p0:Az}{xs:List V}{ta:TA}{h':AD}{H':Hp}{us:List dm}{fp:List ir}
section
section
theorem Inv.qE(I:Inv X pins σ H s)(k:∀ b o,b∉fp->s.heap.get? b=some o->h'.get? b=some o)(hf:∀ b∈fp,gi X pins H b):Inv X pins σ H { s with heap:=h',toks:=t' }:=by
 have vB:∀ b u,H b=some u->b∉fp:=fun b u e z=>by
  have:=(hf b z).1
  rw [e] at this
  cases this
 have hL:X.env.locals∉fp:=fun z=>(hf _ z).2.1 rfl
 refine I.step (g':=s.gens) (d':=s.drawn) (ch:=fp) (fun b hb=>?_) (fun b o _ _ hc e _=>k b o hc e) (fun b o _ _ hc e _=>⟨o.slots,k b o hc e⟩) (fun _ _ _ _ n=>n)
  (fun b o hc e=>⟨o,k b o hc e⟩) (fun _ _ e=>e) (fun _ _ _ e=>e) (fun b ps e=>⟨#[],by rw [e];simp⟩) (fun m hm=>?_) (fun b u e=>?_) I.bare
 ·obtain⟨_,h1,_,h3,h4,h5⟩:=hf b hb
  exact⟨h3,h1,h4,h5⟩
 ·obtain⟨o,es,ep,ho,r⟩:=hm
  exact⟨o,es,ep,k _ o hL ho,r⟩
 ·refine(I.az b u e).lX (fun c v hc q=>k c v ?_ q) (fun _ q=>q) fun _ _ q=>q
  rcases hc with z|z
  ·rw [z];exact vB b u e
  ·exact vB c _ z
theorem Inv.zQ(I:Inv X pins σ H s)(k:∀ b o,b∉fp->s.heap.get? b=some o->h'.get? b=some o)(hf:∀ b∈fp,gi X pins H b)(yr:∀ b∈fp,b<s.heap.objs.size)
  (ht:h'.get? s.heap.objs.size=some { cls:=.type "tuple",data:=.seq us.toArray n }) (r:Vals xs us) (hz:xs.length<=AK) :
  Inv X pins σ (upd H s.heap.objs.size (.tup xs)) { s with heap:=h',toks:=t' }:=by
 have I1:Inv X pins σ (upd H s.heap.objs.size (.tup xs)) { s with heap:=s.heap.push { cls:=.type "tuple",data:=.seq us.toArray n },toks:=s.toks } :=
  I.laid (t':=s.toks) (fun b u e=>A5 _ e) (AI _) ⟨hz,us,r,⟨_,Bl _ rfl,rfl,_,rfl⟩⟩
 refine Inv.qE (s:={ s with heap:=s.heap.push { cls:=.type "tuple",data:=.seq us.toArray n },toks:=s.toks }) (t':=t') (fp:=fp) I1 (fun b o hb e=>?_) fun b hb=>⟨by rw [bh (Bg (yr b hb))];exact(hf b hb).1,(hf b hb).2⟩
 by_cases hbs:b=s.heap.objs.size
 ·subst hbs
  have e':(s.heap.push { cls:=.type "tuple",data:=.seq us.toArray n }).get? s.heap.objs.size=some o:=e
  rw [Bl _ rfl] at e'
  cases e'
  exact ht
 ·refine k b o hb ?_
  have e':(s.heap.push { cls:=.type "tuple",data:=.seq us.toArray n }).get? b=some o:=e
  have lt:b<(s.heap.push { cls:=.type "tuple",data:=.seq us.toArray n }).objs.size:=AV e'
  rw [Cv] at lt
  have lt':b<s.heap.objs.size:=Nat.lt_of_le_of_ne (Nat.le_of_lt_succ lt) hbs
  unfold Heap.get? at e' ⊢
  unfold Heap.push at e'
  simp only at e'
  rw [Array.getElem?_push_lt lt'] at e'
  rw [Fe lt']
  exact e'
end
def wN(K:ox)(a b:ir):It :=
 ⟨fun i H=>∃ xs ys x y,bB K H a xs/\bB K H b ys/\xs[i]?=some x/\ys[i]?=some y,
  fun i H x H'=>∃ t u v,x=.ref t/\H t=none/\H'=upd H t (.tup [u,v])/\(∀ xs,bB K H a xs->xs[i]?=some u)/\∀ ys,bB K H b ys->ys[i]?=some v,
  fun i H=>∃ xs ys,bB K H a xs/\bB K H b ys/\(xs.length<=i\/ys.length<=i)⟩
def tnZ(z TI TO i1 i2 a b:ir)(i:Nat)(h:AD):Prop:=Cg h z TI TO .none/\BM h TI (.ref i1) (.ref i2)/\(∃ u v,BM h TO u v)/\h.IsListIter i1 a i/\h.IsListIter i2 b i
theorem zh9{K:ox}(z TI TO i1 i2 a b:ir)(D:ZipApart z TI TO i1 i2 a b):Turn P w K (.Tuple es k pos) (wN K a b) [z,TI,TO,i1,i2] z (tnZ z TI TO i1 i2 a b) where
 mem:=by simp
 obj:=fun i h st c hc=>by
  obtain⟨h1,h2,⟨u,v,h3⟩,⟨o4,h4,_,d4⟩,⟨o5,h5,_,d5⟩⟩:=st
  simp only [AX,B1,or_false] at hc
  rcases hc with rfl|rfl|rfl|rfl|rfl
  ·exact⟨_,h1,fun v z=>by cases z⟩
  ·exact⟨_,h2,fun v z=>by cases z⟩
  ·exact⟨_,h3,fun v z=>by cases z⟩
  ·exact⟨_,h4,fun v z=>by rw [d4] at z;cases z⟩
  ·exact⟨_,h5,fun v z=>by rw [d5] at z;cases z⟩
 keep:=fun i h h' st k=>by
  obtain⟨h1,h2,⟨u,v,h3⟩,h4,h5⟩:=st
  exact⟨k _ (by simp) _ h1,k _ (by simp) _ h2,⟨u,v,k _ (by simp) _ h3⟩,h4.at fun o e=>k _ (by simp) o e,h5.at fun o e=>k _ (by simp) o e⟩
 item:=by
  intro X hP hw hK hc i pins s σ H E I hf st hg
  subst hP hw hK
  obtain⟨xs,ys,x,y,fV,mR,hx,hy⟩:=hg
  obtain⟨jQ,f7,px,_⟩:=I.list fV
  obtain⟨rQ,lU,py,_⟩:=I.list mR
  obtain⟨ux,pV,qu⟩:=f7.get hx
  obtain⟨uy,huy,ruy⟩:=lU.get hy
  obtain⟨h1,h2,⟨u,v,h3⟩,h4,h5⟩:=id st
  have iN:∀ c∈[z,TI,TO,i1,i2],c<s.heap.objs.size:=fun c hc=>by
   obtain⟨o4,e4,_⟩:=id h4
   obtain⟨o5,e5,_⟩:=id h5
   simp only [AX,B1,or_false] at hc
   rcases hc with rfl|rfl|rfl|rfl|rfl
   ·exact AV h1
   ·exact AV h2
   ·exact AV h3
   ·exact AV e4
   ·exact AV e5
  refine wpAny_pyNext_zip_item D h1 h2 h3 h4 h5 px.isList py.isList (by simpa using pV) (by simpa using huy) fun h' a1 a2 a3 a4 a5 a6 hk=>?_
  refine⟨_,rfl,IE a1 fun gZ b1 sb=>?_⟩
  have qK:=iN z (by simp)
  have k2:∀ c o,c∉[z,TI,TO,i1,i2]->s.heap.get? c=some o->gZ.get? c=some o:=fun c o hc e=>by
   simp only [AX,B1,or_false,not_or] at hc
   exact sb.extBut c o hc.1 (hk c o hc.1 hc.2.2.1 hc.2.2.2.1 hc.2.2.2.2 e)
  have ht:gZ.get? s.heap.objs.size=some { cls:=.type "tuple",data:=.seq #[ux,uy] }:=sb.extBut _ _ (De qK) a5
  refine⟨.ref s.heap.objs.size,_,Inv.zQ (s:=s) (h':=gZ) (t':=s.toks) (fp:=[z,TI,TO,i1,i2]) I (xs:=[x,y]) (us:=[ux,uy]) k2 hf iN ht (.cons qu (.cons ruy .nil)) (by rw [BU];show 2<=16777216;decide),rfl,
   ⟨_,x,y,rfl,I.az.fresh (AI _),rfl,fun zs hz=>by rw [I.rV hz fV];exact hx,fun zs hz=>by rw [I.rV hz mR];exact hy⟩,?_,fun c hc=>?_⟩
  ·exact⟨b1,sb.extBut _ _ D.TIz (hk _ _ D.TIz D.TITO D.TIi1 D.TIi2 h2),⟨_,_,sb.extBut _ _ D.TOz a2⟩,a3.extBut sb.extBut D.i1z,a4.extBut sb.extBut D.i2z⟩
  ·rw [bh (Bg (iN c hc))]
   exact(hf c hc).1
 done:=by
  intro X hP hw hK hc i pins s σ H E I hf st hg
  subst hP hw hK
  obtain⟨xs,ys,fV,mR,u6⟩:=hg
  obtain⟨jQ,f7,px,_⟩:=I.list fV
  obtain⟨rQ,lU,py,_⟩:=I.list mR
  obtain⟨h1,h2,⟨u,v,h3⟩,h4,h5⟩:=id st
  have lx:=f7.length
  have ly:=lU.length
  refine wpAny_pyNext_zip_end (I.ok.hd hc) D h1 h2 h3 h4 h5 px.isList py.isList ?_ fun h' hk=>⟨rfl,I.qE (t':=s.toks) (fun c o hc e=>?_) hf⟩
  ·rcases u6 with h|h
   ·exact .inl (by simp;lia)
   ·exact .inr (by simp;lia)
  ·simp only [AX,B1,or_false,not_or] at hc
   exact hk c o hc.1 hc.2.2.1 hc.2.2.2.1 hc.2.2.2.2 e
 self:=fun _ _ _ _ _ st h=>FG st.1 h
section
def zmq(K:ox)(ta:TA):TI:=fun σ H R=>ta σ H fun vs H1=>∃ a b,vs=[.ref a,.ref b]/\(∃ xs,bB K H1 a xs)/\(∃ ys,bB K H1 b ys)/\R (wN K a b) H1
theorem zp4{a b:Aq}(hg:Gl X "zip") (hm:X.mg "zip"=none) (ha:PA X [a,b] ta) (hs:Au [a,b] X.env=[(false,Ay a X.env),(false,Ay b X.env)]:=by rfl) (dh:Au [b] X.env=[(false,Ay b X.env)]:=by rfl) :
  PI X (.Tuple es k p0) (.Call (.Name "zip" p) [a,b] [] pos) (zmq X.K ta):=by
 intro pins s σ H R I h
 refine Call_ (mX I hg hm (by decide +kernel:Bs "zip"=some (.type "zip")) (E1 (aI (ha pos pins s σ H _ I h) fun us s1 ⟨vs,H1,I1,r1,q1⟩=>?_) (by rw [hs,dh]) (by rw [dh];rfl)))
 obtain⟨l1,l2,e,⟨xs,hx⟩,⟨ys,hy⟩,q⟩:=q1
 subst e
 cases r1 with
 | cons r rr =>
  cases rr with
  | cons r' rr =>
   cases rr
   cases r
   cases r'
   obtain⟨jQ,f7,px,_⟩:=I1.list hx
   obtain⟨rQ,lU,py,_⟩:=I1.list hy
   have hl1:Ff l1 s1.heap.objs.size:=by obtain⟨o,e,_⟩:=px.isList;exact AV e
   have j7:Ff l2 s1.heap.objs.size:=by obtain⟨o,e,_⟩:=py.isList;exact AV e
   refine call_zip_2 px.isList py.isList fun h' g1 g2 g3 g4 g5 g6 hk=>?_
   refine FG g1 ⟨_,[s1.heap.objs.size+4,s1.heap.objs.size+2,s1.heap.objs.size+3,s1.heap.objs.size,s1.heap.objs.size+1],_,_,H1,rfl,I1.kept (t':=s1.toks) hk,zh9 _ _ _ _ _ l1 l2 ?_,⟨g1,g2,⟨_,_,g3⟩,g4,g5⟩,fun c hc=>?_,q⟩
   ·have q1:∀ n:Nat,l1≠s1.heap.objs.size+n:=fun n=>Bg (BL hl1 (Ee _ _))
    have q2:∀ n:Nat,l2≠s1.heap.objs.size+n:=fun n=>Bg (BL j7 (Ee _ _))
    constructor <;> first|exact q1 _|exact q2 _|exact q1 0|exact q2 0|exact Bg (by lia)|exact De (by lia)
   ·have gD:s1.heap.objs.size<=c:=by
     simp only [AX,B1,or_false] at hc
     rcases hc with rfl|rfl|rfl|rfl|rfl <;> first|exact Ee _ _|exact AI _
    exact I1.jJ gD (I1.az.fresh gD)
end
def Ite(K:ox)(a:ir):It :=
 ⟨fun i H=>∃ xs x,bB K H a xs/\xs[i]?=some x,fun i H x H'=>∃ t v,x=.ref t/\H t=none/\H'=upd H t (.tup [.int i,v])/\∀ xs,bB K H a xs->xs[i]?=some v,fun i H=>∃ xs,bB K H a xs/\xs.length<=i⟩
theorem zs1{K:ox}(e it a:ir)(jm:e≠it):Turn P w K (.Tuple es k pos) (Ite K a) [e,it] e (fun i h=>(∃ old,IsEnum h e it i old)/\h.IsListIter it a i) where
 mem:=by simp
 obj:=fun i h st c hc=>by
  obtain⟨⟨old,h1⟩,⟨o4,h4,_,d4⟩⟩:=st
  simp only [AX,B1,or_false] at hc
  rcases hc with rfl|rfl
  ·exact⟨_,h1,fun v z=>by cases z⟩
  ·exact⟨_,h4,fun v z=>by rw [d4] at z;cases z⟩
 keep:=fun i h h' st k=>by
  obtain⟨⟨old,h1⟩,h4⟩:=st
  exact⟨⟨old,k _ (by simp) _ h1⟩,h4.at fun o e=>k _ (by simp) o e⟩
 item:=by
  intro X hP hw hK hc i pins s σ H E I hf st hg
  subst hP hw hK
  obtain⟨xs,x,fV,hx⟩:=hg
  obtain⟨jQ,f7,px,_⟩:=I.list fV
  obtain⟨ux,pV,qu⟩:=f7.get hx
  obtain⟨⟨old,h1⟩,h4⟩:=id st
  have iN:∀ c∈[e,it],c<s.heap.objs.size:=fun c hc=>by
   obtain⟨o4,e4,_⟩:=id h4
   simp only [AX,B1,or_false] at hc
   rcases hc with rfl|rfl
   ·exact AV h1
   ·exact AV e4
  refine wpAny_pyNext_enum_item h1 h4 px.isList (by simpa using pV) jm fun h' a1 a3 a5 a6 hk=>?_
  refine⟨_,rfl,IG a1 fun gZ b1 sb=>?_⟩
  have qK:=iN e (by simp)
  have k2:∀ c o,c∉[e,it]->s.heap.get? c=some o->gZ.get? c=some o:=fun c o hc g=>by
   simp only [AX,B1,or_false,not_or] at hc
   exact sb.extBut c o hc.1 (hk c o hc.1 hc.2 g)
  have ht:gZ.get? s.heap.objs.size=some { cls:=.type "tuple",data:=.seq #[.int i s.toks,ux] }:=sb.extBut _ _ (De qK) a5
  refine⟨.ref s.heap.objs.size,_,Inv.zQ (s:=s) (h':=gZ) (t':=s.toks+1) (fp:=[e,it]) I (xs:=[.int i,x]) (us:=[.int i s.toks,ux]) k2 hf iN ht (.cons ⟨_,rfl⟩ (.cons qu .nil)) (by rw [BU];show 2<=16777216;decide),rfl,
   ⟨_,x,rfl,I.az.fresh (AI _),rfl,fun zs hz=>by rw [I.rV hz fV];exact hx⟩,?_,fun c hc=>?_⟩
  ·exact⟨⟨_,b1⟩,a3.extBut sb.extBut (Cd jm)⟩
  ·rw [bh (Bg (iN c hc))]
   exact(hf c hc).1
 done:=by
  intro X hP hw hK hc i pins s σ H E I hf st hg
  subst hP hw hK
  obtain⟨xs,fV,u6⟩:=hg
  obtain⟨jQ,f7,px,_⟩:=I.list fV
  obtain⟨⟨old,h1⟩,h4⟩:=id st
  have lx:=f7.length
  refine wpAny_pyNext_enum_end (I.ok.hd hc) h1 h4 px.isList (by simp;lia) fun h' hk=>⟨rfl,I.qE (t':=s.toks) (fun c o hc g=>?_) hf⟩
  simp only [AX,B1,or_false,not_or] at hc
  exact hk c o hc.2 g
 self:=fun _ _ _ _ _ st h=>by
  obtain⟨⟨old,h1⟩,_⟩:=st
  exact Gi h1 h
section
def zmm(K:ox)(ta:TA):TI:=fun σ H R=>ta σ H fun vs H1=>∃ a,vs=[.ref a]/\(∃ xs,bB K H1 a xs)/\R (Ite K a) H1
theorem zpY{a:Aq}(hg:Gl X "enumerate") (hm:X.mg "enumerate"=none) (ha:PA X [a] ta) (hs:Au [a] X.env=[(false,Ay a X.env)]:=by rfl) :
  PI X (.Tuple es k p0) (.Call (.Name "enumerate" p) [a] [] pos) (zmm X.K ta):=by
 intro pins s σ H R I h
 refine Call_ (mX I hg hm (by decide +kernel:Bs "enumerate"=some (.type "enumerate")) (E1 (aI (ha pos pins s σ H _ I h) fun us s1 ⟨vs,H1,I1,r1,q1⟩=>?_) hs rfl))
 obtain⟨l1,e,⟨xs,hx⟩,q⟩:=q1
 subst e
 cases r1 with
 | cons r rr =>
  cases rr
  cases r
  obtain⟨jQ,f7,px,_⟩:=I1.list hx
  refine call_enumerate_list px.isList fun h' g1 g4 g6 hk=>?_
  refine Gi g1 ⟨_,[s1.heap.objs.size+1,s1.heap.objs.size],_,_,H1,rfl,I1.kept (t':=s1.toks) hk,zs1 _ _ l1 (Nat.succ_ne_self _),⟨⟨_,g1⟩,g4⟩,fun c hc=>?_,q⟩
  have gD:s1.heap.objs.size<=c:=by
   simp only [AX,B1,or_false] at hc
   rcases hc with rfl|rfl <;> first|exact Ee _ _|exact AI _
  exact I1.jJ gD (I1.az.fresh gD)
theorem zjH{bs:List Bool}:∀{us:List dm},Vals (bs.map V.bl) us->us=bs.map Dc:=by
 induction bs with
 | nil=>intro us h;cases h;rfl
 | cons b r ih =>
  intro us h
  cases h with
  | cons h1 h2 =>
   have:=ih h2
   cases h1
   rw [this]
   rfl
theorem zkc(hc:X.calm=true):iW X (.builtin "all") (fun xs H Q=>∃(a:ir) (bs:List Bool),xs=[.ref a]/\bB X.K H a (bs.map V.bl)/\Q (.bl (bs.all id)) H):=by
 intro pins s σ H xs us Q I r h
 obtain⟨a,bs,rfl,hq,q⟩:=h
 obtain⟨u,rfl,rx⟩:=vals1 r
 cases rx
 obtain⟨its,rv,p,hz⟩:=I.list hq
 have e:=zjH rv
 subst e
 have jm:a≠s.heap.objs.size:=by
  obtain⟨o,eo,_⟩:=p.isList
  exact Bg (AV eo)
 have W:=Walks.list (prog:=X.prog) (w:=X.w) (A:=X.A.in1) (show X.A.in1.handled=none from I.ok.hd hc) s.heap.objs.size a jm (bs.map Dc).toArray
 refine call_all_walk (FH p.isList ⟨_,_,_,_,_,_,fun i=>bs.getD i true,rfl,W,⟨⟨_,Bl _ rfl,rfl,rfl⟩,p.isList.push _⟩,?_,fun h' tk hk=>⟨.bl (bs.all id),H,?_,?_,q⟩⟩)
 ·intro i v s' Q' E' hP hQ
  have hP':(bs.map Dc)[i]?=some v:=by simpa using hP
  rw [BV] at hP'
  cases e:bs[i]? with
  | none=>rw [e] at hP';cases hP'
  | some b =>
   rw [e] at hP'
   cases hP'
   have:bs.getD i true=b:=by simp [Gj,e]
   have hQ2:Q' (bs.getD i true) s':=hQ
   rw [this] at hQ2
   exact AH hQ2
 ·refine Inv.qE (s:={ s with heap:=s.heap.push { cls:=.type "list_iterator",data:=.fields #[.ref a,.int 0 0] },toks:=s.toks }) (t':=tk) (fp:=[s.heap.objs.size]) (I.kept (t':=s.toks) fun b o e=>A5 _ e) (fun b o hb e=>hk b o hb e) fun b hb=>?_
  have e:b=s.heap.objs.size:=by simpa using hb
  subst e
  exact I.jJ (AI _) (I.az.fresh (AI _))
 ·show Dc _=Dc _
  congr 1
  simp only [Bk,AW]
  rw [Bool.eq_iff_iff,DI,DI]
  constructor
  ·intro h b hb
   obtain⟨i,hi,e⟩:=List.getElem_of_mem hb
   have:=h i (D5.mpr hi)
   simpa [Gj,hi,e] using this
  ·intro h i hi
   have gF:=D5.mp hi
   have:=h bs[i] (List.getElem_mem gF)
   simpa [Gj,gF] using this
end
end
variable {g:TG}{C globals:ir}{m:gV->Option dm}{L:List gV}{σ:St}{wi:TI}{tc:TT}{te:TE}{cl:List (gV×ir)}{ix:List Nat}{tg:Aq}{M:Model}
section
theorem pf:∀(names:List (gV×Cw)) (n:Nat) (acc:List (gV×ir)),Di n names acc=Di n names []++acc
 | [],n,acc=>rfl
 | (x,k)::r,n,acc=>by
  unfold Di
  split
  ·rw [pf r (n+1) ((x,n)::acc),pf r (n+1) [(x,n)]]
   simp
  ·exact pf r n acc
theorem xP:∀(names:List (gV×Cw)) (n:Nat) (p:gV×ir),p∈Di n names []->(p.1,CB)∈names
 | [],n,p,h=>nomatch h
 | (x,k)::r,n,p,h=>by
  unfold Di at h
  split at h
  ·rename_i hk
   rw [pf] at h
   rcases B2.mp h with h|h
   ·exact Be _ (xP r _ p h)
   ·have e:p=(x,n):=by simpa using h
    have hk':k=.cell:=by simpa using hk
    subst e hk'
    exact Bc ..
  ·exact Be _ (xP r _ p h)
theorem zbc{x:gV}:∀(names:List (gV×Cw)) (n:Nat),(x,CB)∈names->∃ c,(x,c)∈Di n names []
 | (y,k)::r,n,h=>by
  unfold Di
  rcases AX.mp h with e|h
  ·cases e
   rw [if_pos (by rfl),pf]
   exact⟨n,Cj _ (Dp.mpr rfl)⟩
  ·split
   ·obtain⟨c,hc⟩:=zbc r (n+1) h
    exact⟨c,by rw [pf];exact D7 _ hc⟩
   ·exact zbc r n h
theorem zgj{α:Type}{x:gV}{c:α}:∀{l m:List (gV×α)},(l++m).lookup x=some c->l.lookup x=some c\/(l.lookup x=none/\m.lookup x=some c)
 | [],m,h=>.inr ⟨rfl,h⟩
 | (y,b)::r,m,h=>by
  rw [Bm,A2] at h
  rw [A2]
  split at h
  ·exact .inl h
  ·exact zgj h
theorem zgk{α:Type}{x:gV}{c:α}:∀{l m:List (gV×α)},m.lookup x=some c->∃ d,(l++m).lookup x=some d
 | [],m,h=>⟨c,h⟩
 | (y,b)::r,m,h=>by
  rw [Bm,A2]
  split
  ·exact⟨_,rfl⟩
  ·exact zgk h
theorem zgl{α:Type}{x:gV}:∀{l m:List (gV×α)},l.lookup x=none->(l++m).lookup x=m.lookup x
 | [],m,h=>rfl
 | (y,b)::r,m,h=>by
  rw [A2] at h
  rw [Bm,A2]
  split at h
  ·cases h
  ·exact zgl h
theorem zgm{α:Type}{x:gV}:∀{l:List (gV×α)},(∀ p∈l,p.1≠x)->l.lookup x=none
 | [],_=>rfl
 | (y,b)::r,h=>by
  rw [A2]
  have:(x==y)=false:=by
   have:=h (y,b) (Bc ..)
   simpa using fun e=>this e.symm
  rw [this]
  exact zgm fun p hp=>h p (Be _ hp)
noncomputable def iP(C:ir)(scope:BG):List (gV×ir):=Di (C+1) scope.names []
def dE(X:Cx)(M:List gV)(scope:BG)(C:ir)(s₃:kb)(H₃:Hp)(fp:List ir):Cx :=
 { X with N:=M,s₀:=s₃,H₀:=H₃,env:=FI scope (iP C scope++fB X.env.cells scope.names []) C X.env,outer:=X.stack,stack:=X.stack,ex:=fp,fn:=fun x=>scope.names.contains (x,CB),pn:=[],xe:=fun _ _=>False }
structure zaa(X:Cx)(scope:BG)(rq:List gV):Prop where
 kind:scope.kind=.function
 cell:∀ y∈scope.names,y.2=.free->X.env.kindOf y.1=some .cell
 loc:∀ y∈scope.names,y.2=.local->scope.names.lookup y.1=some .local
 rq:∀ x∈rq,scope.names.lookup x≠some .local/\(x,CB)∉scope.names
 dis:∀ y∈scope.names,y.2=.free->(y.1,CB)∉scope.names
theorem zoR:∀(names:List (gV×Cw)) {h:AD},h.Ns C m->(pushCells h names).Ns C m:=fun names h hn=>by
 obtain⟨o,es,ep,ho,r⟩:=hn
 exact⟨o,es,ep,pushCells_keeps names h C o ho,r⟩
section
theorem zfO(S:zaa X scope (d8 X ix))(I:Inv X pins σ H s)(hf:∀ b∈fp,gi X pins H b)(yr:∀ b∈fp,b<s.heap.objs.size)
  (va:∀ i∈ix,i<X.N.length)(hn:h'.Ns s.heap.objs.size fun _=>none)(hk:∀ b u,s.heap.get? b=some u->h'.get? b=some u)(nU:CellsOk h' (s.heap.objs.size+1) (iP s.heap.objs.size scope)) :
  Inv (dE X (L++d8 X ix) scope s.heap.objs.size s H fp) [] (dQ L.length ix σ) H { s with heap:=h',toks:=t' }:=by
 have cl:∀ x c,(fB X.env.cells scope.names []).lookup x=some c->X.env.cells.lookup x=some c:=fun x c e =>
  xR (acc:=[]) (fun p hp=>nomatch hp) (x,c) (DE e)
 have old:∀ x c,X.env.cells.lookup x=some c->c<s.heap.objs.size:=fun x c e=>by
  obtain⟨v,q⟩:=I.cell x c e
  exact q.lt
 have own:∀ x c,(iP s.heap.objs.size scope).lookup x=some c->h'.IsCell c none/\s.heap.objs.size+1<=c/\(x,CB)∈scope.names:=fun x c e=>by
  have m:=DE e
  exact⟨(nU.empty x c m).1,(nU.empty x c m).2,xP _ _ _ m⟩
 have al:∀ x c,(iP s.heap.objs.size scope++fB X.env.cells scope.names []).lookup x=some c->(iP s.heap.objs.size scope).lookup x=some c\/((iP s.heap.objs.size scope).lookup x=none/\X.env.cells.lookup x=some c):=fun x c e=>by
  rcases zgj e with h|⟨h1,h2⟩
  ·exact .inl h
  ·exact .inr ⟨h1,cl x c h2⟩
 have zgU:∀ x,(x,CB)∈scope.names->∃ c,(iP s.heap.objs.size scope).lookup x=some c:=fun x hx=>by
  obtain⟨c,hc⟩:=zbc scope.names (s.heap.objs.size+1) hx
  exact vp hc
 refine⟨⟨I.ok.mod,S.kind,I.ok.glob,I.ok.blt,AI _,fun x y c e1 e2=>?_,fun x hx=>?_,fun x c e1 e2=>?_,I.ok.hd,I.ok.frames,.inl rfl,fun b hb=>⟨Bg (yr b hb),fun x c e=>?_⟩,
  fun b o e=>I.bs b o e,Bj I.ok.lH I.sz,fun b o e hb=>?_,fun b hb hz=>?_,I.stack,I.zhQ,I.ok.tree,I.ok.sk⟩,
  rfl,I.bare,Un.kept hk,⟨_,hn,fun i x v h1 h2 h3=>?_⟩,fun x c e=>?_,I.az.fresh (AI _),fun x c e=>?_,fun p hp=>absurd (show p∈([]:List (ir×AA)) from hp) (by simp),I.az.kept hk,?_⟩
 ·rcases al x c e1 with a1|⟨_,a1⟩ <;> rcases al y c e2 with a2|⟨_,a2⟩
  ·exact name_of_addr nU.apart (DE a1) (DE a2)
  ·exact absurd (old y c a2) (Gm.mpr (FJ (own x c a1).2.1))
  ·exact absurd (old x c a1) (Gm.mpr (FJ (own y c a2).2.1))
  ·exact I.ok.inj x y c a1 a2
 ·have hx':(EA scope X.env).names.lookup x=some .cell\/(EA scope X.env).names.lookup x=some .free:=hx
  have fr:(x,CB)∈scope.names\/(x,DW)∈scope.names:=by
   rcases hx' with q|q
   ·obtain⟨k0,_,h2,h3⟩:=qt (scope:=scope) q
    rcases h3 with rfl|⟨rfl,_⟩
    ·exact .inl h2
    ·exact .inr h2
   ·obtain⟨k0,_,h2,h3⟩:=qt (scope:=scope) q
    rcases h3 with rfl|⟨_,z⟩
    ·exact .inr h2
    ·cases z
  rcases fr with fr|fr
  ·obtain⟨c,hc⟩:=zgU x fr
   show ∃ c,(iP s.heap.objs.size scope++fB X.env.cells scope.names []).lookup x=some c
   exact vp (D7 _ (DE hc))
  ·obtain⟨c,hc⟩:=I.ok.has x (.inl (S.cell _ fr rfl))
   obtain⟨d,hd⟩:=vp (uB (names:=scope.names) (acc:=[]) hc fr)
   exact zgk hd
 ·have hx:(x,CB)∈scope.names:=by
   have kJ:scope.names.contains (x,CB)=true:=e1
   simpa using kJ
  rcases al x c e2 with a1|⟨a1,_⟩
  ·exact FJ (own x c a1).2.1
  ·obtain⟨d,hd⟩:=zgU x hx
   rw [a1] at hd
   cases hd
 ·rcases al x c e with a1|⟨_,a1⟩
  ·exact De (BL (yr b hb) (FJ (own x c a1).2.1))
  ·exact(hf b hb).2.2.2.2.1 x c a1
 ·rcases (hf b hb).2.2.2.1 with z|z
  ·exact I.ok.qa b o e z
  ·exact absurd (AV (I.ok.bs b o e).1) (Gm.mpr z)
 ·rcases AX.mp (I.zc3 b hz) with z|z
  ·exact(hf b hb).2.1 z
  ·exact(hf b hb).2.2.1 z
 ·-- a name that is drawn in
  have hi:L.length<=i:=by
   by_cases hi:i<L.length
   ·unfold dQ at h2
    rw [B4 (by simpa using hi),C1,if_pos hi] at h2
    cases h2
   ·lia
  unfold dQ at h2
  rw [Dj (by simpa using hi),DR,BV] at h2
  have h1':(L++d8 X ix)[i]?=some x:=h1
  rw [Dj hi] at h1'
  unfold d8 at h1'
  rw [BV] at h1'
  cases ej:ix[i-L.length]? with
  | none=>rw [ej] at h1';cases h1'
  | some j =>
   rw [ej] at h1' h2
   have hj:j<X.N.length:=va j (Ck ej)
   have e1:X.N[j]?=some x:=by
    have:X.N.getD j ""=x:=BP h1'
    rw [<- this]
    simp [Gj,hj]
   have e2:σ[j]?=some (some v):=by
    have z:(σ[j]?).getD none=some v:=BP h2
    cases q:σ[j]? with
    | none=>rw [q] at z;cases z
    | some o=>rw [q] at z;exact congrArg some z
   have hx:x∈d8 X ix:=by
    unfold d8
    refine A7.mpr ⟨j,Ck ej,?_⟩
    exact BP h1'
   have h3':(EA scope X.env).names.lookup x=some .local\/(EA scope X.env).names.lookup x=some .cell\/(EA scope X.env).names.lookup x=some .free:=h3
   have fr:(x,DW)∈scope.names:=by
    rcases h3' with q|q|q
    ·obtain⟨k0,g1,g2,g3⟩:=qt (scope:=scope) q
     rcases g3 with rfl|⟨_,z⟩
     ·exact absurd g1 (S.rq x hx).1
     ·cases z
    ·obtain⟨k0,_,g2,g3⟩:=qt (scope:=scope) q
     rcases g3 with rfl|⟨rfl,_⟩
     ·exact absurd g2 (S.rq x hx).2
     ·exact g2
    ·obtain⟨k0,_,g2,g3⟩:=qt (scope:=scope) q
     rcases g3 with rfl|⟨_,z⟩
     ·exact g2
     ·cases z
   have hc:X.env.kindOf x=some .cell:=S.cell _ fr rfl
   obtain⟨m,_,hl⟩:=I.loc
   obtain⟨u,ru,lk⟩:=hl j x v e1 e2 (.inr (.inl hc))
   refine⟨u,ru,?_⟩
   rcases lk with⟨z,_⟩|⟨_,c,ec,ic⟩
   ·rw [hc] at z;cases z
   ·have k3:(EA scope X.env).names.lookup x=some .cell\/(EA scope X.env).names.lookup x=some .free:=by
     rcases h3' with q|q|q
     ·obtain⟨k0,g1,g2,g3⟩:=qt (scope:=scope) q
      rcases g3 with rfl|⟨_,z⟩
      ·exact absurd g1 (S.rq x hx).1
      ·cases z
     ·exact .inl q
     ·exact .inr q
    obtain⟨c',kK⟩:=vp (uB (names:=scope.names) (acc:=[]) ec fr)
    have e3:=cl x c' kK
    rw [ec] at e3
    cases e3
    obtain⟨oc,g1,g2⟩:=ic
    have no:(iP s.heap.objs.size scope).lookup x=none:=zgm fun p hp z=>(S.rq x hx).2 (by rw [<- z];exact xP _ _ _ hp)
    exact .inr ⟨k3,c,(zgl no).trans kK,oc,hk _ _ g1,g2⟩
 ·rcases al x c e with a1|⟨_,a1⟩
  ·exact⟨none,(own x c a1).1⟩
  ·obtain⟨v,oc,g1,g2⟩:=I.cell x c a1
   exact⟨v,oc,hk _ _ g1,g2⟩
 ·rcases al x c e with a1|⟨_,a1⟩
  ·exact I.az.fresh (FJ (own x c a1).2.1)
  ·exact I.jK x c a1
 ·show(dQ L.length ix σ).length=(L++d8 X ix).length
  unfold dQ d8
  simp
end
theorem zgH{Q:Bb->kb->Prop}
  (hQ:∀ h',h'.Ns s.heap.objs.size (fun _=>none)->(∀ b u,s.heap.get? b=some u->h'.get? b=some u)->CellsOk h' (s.heap.objs.size+1) (iP s.heap.objs.size scope) ->
   Q { scope:=scope,locals:=s.heap.objs.size,globals:=globals,cells:=iP s.heap.objs.size scope++cl,qual:=qual,func:=none,code:=outer.code,frame:=outer.frame,builtins:=outer.builtins } { s with heap:=h' }) :
  Av M A (newFunctionEnv scope globals cl [] qual none .none (some outer)) Q E s:=by
 simp only [newFunctionEnv,IH,if_true]
 refine Ap (wpAny_alloc ?_)
 refine Ap (wpAny_layCells _ (fun name kind cells=>by cases hkc:kind==CB <;> simp [hkc]) _ _ _ _ ?_)
 have ok:=cellsFrom_ok scope.names (s.heap.push { cls:=.type "dict",data:=.dict #[] }) (s.heap.objs.size+1) [] ⟨fun _ _ hm=>(nomatch hm),IB⟩ (by rw [Cv];exact AI _)
 rw [Cv] at ok
 rw [show({ s with heap:=s.heap.push { cls:=.type "dict",data:=.dict #[] } }:kb).heap.objs.size=s.heap.objs.size+1 from Cv ..,pf]
 refine Ap ?_
 rw [Ho]
 refine AH (AH ?_)
 exact hQ _ (zoR _ (Heap.Ns.new ..)) (fun b u e=>pushCells_keeps _ _ _ _ (A5 _ e)) ok
section
theorem zpA(hc:X.calm=true)(S:zaa X scope (d8 X ix))(va:∀ i∈ix,i<X.N.length)(hi:PI X tg iter wi)
  (hg:∀ C s₃ H₃ fp,PG (dE X (L++d8 X ix) scope C s₃ H₃ fp) tg g)(gm:t8 L.length g)
  (ht:∀ C s₃ H₃ fp,jF (dE X (L++d8 X ix) scope C s₃ H₃ fp) ifs tc)(he:∀ C s₃ H₃ fp,PE (dE X (L++d8 X ix) scope C s₃ H₃ fp) elt te)
  (hs:∀ x,Dg iter X.env x=pure x:=by intro _;rfl) :
  PE X (.ListComp elt [⟨tg,iter,ifs,0⟩] scope pos) (sS L.length ix wi g tc te):=by
 intro pins s σ H Q I h
 rw [eval_ListComp]
 refine II (use:=none) rfl hs (zeR fun y hy e=>I.ok.has y.1 (.inl (S.cell y hy e))) S.kind S.loc (aI (hi pins s σ H _ I h) fun xv s1 h1=>aI h1 fun yD s2 h2=>?_)
 obtain⟨it,fp,tn,J,H2,rfl,I2,T,bT,f2,q⟩:=h2
 have nD:H2 s2.heap.objs.size=none:=I2.az.fresh (AI _)
 obtain⟨W,⟨m0,w0⟩,turn⟩:=q _ nD
 generalize hD:s2.heap.objs.size=D at nD w0 turn
 have fD:∀ b∈fp,b<D:=fun b hb=>by
  obtain⟨o,e,_⟩:=T.obj _ _ bT b hb
  rw [<- hD]
  exact AV e
 have I3:Inv X pins σ (upd H2 D (.lst [])) { s2 with heap:=s2.heap.push { cls:=.type "list",data:=.seq ([]:List dm).toArray },toks:=s2.toks }:=by
  rw [<- hD]
  exact I2.laid (t':=s2.toks) (fun b u e=>A5 _ e) (AI _) ⟨by simp,[],0,.nil,Bl _ rfl⟩
 refine CY (zgH (fun h₁ pM pT pI=>?_)) (by show 0<=AK;exact B6 _)
 rw [hD]
 have kr:tn 0 (s2.heap.push { cls:=.type "list",data:=.seq ([]:List dm).toArray }):=T.keep _ _ _ bT fun b hb o e=>A5 _ e
 generalize hp3:s2.heap.push { cls:=.type "list",data:=.seq ([]:List dm).toArray }=h3 at I3 kr pM pT pI
 dsimp only at pM pT pI ⊢
 have sz3:h3.objs.size=D+1:=by rw [<- hp3,Cv,hD]
 have old:∀ b u,h3.get? b=some u->h₁.get? b=some u:=fun b u e=>pT b u e
 have f3:∀ b∈fp,gi X pins (upd H2 D (.lst [])) b:=fun b hb=>⟨by rw [bh (Bg (fD b hb))];exact(f2 b hb).1,(f2 b hb).2⟩
 have I4:=zfO (L:=L) (ix:=ix) (t':=s2.toks) S I3 f3 (fun b hb=>by show b<h3.objs.size;rw [sz3];exact Gn (fD b hb)) va (h':=h₁) pM old pI
 have qz:tn 0 h₁:=T.keep _ _ _ kr fun b hb o e=>old b o e
 generalize hC:(dE X (L++d8 X ix) scope h3.objs.size { s2 with heap:=h3,toks:=s2.toks } (upd H2 D (.lst [])) fp)=Y at I4
 have nM:Y.env=FI scope (iP h3.objs.size scope++fB X.env.cells scope.names []) h3.objs.size X.env:=by rw [<- hC];rfl
 have uY:Y.calm=true:=by rw [<- hC];exact hc
 have nj:Y.xe=fun _ _=>False:=by rw [<- hC];rfl
 have eP:Y.prog=X.prog:=by rw [<- hC];rfl
 have eW:Y.w=X.w:=by rw [<- hC];rfl
 have eK:Y.K=X.K:=by rw [<- hC];rfl
 have eA:Y.A=X.A:=by rw [<- hC];rfl
 have gY:PG Y tg g:=by rw [<- hC];exact hg _ _ _ _
 have tY:jF Y ifs tc:=by rw [<- hC];exact ht _ _ _ _
 have pY:PE Y elt te:=by rw [<- hC];exact he _ _ _ _
 have stat:∀{H':Hp},(∀ b∈fp,H' b=none)->∀ b∈fp,gi Y [] H' b:=fun{H'} hn b hb=>by
  have z1:b∈Y.ex:=by rw [<- hC];exact hb
  have zp:Y.pn=[]:=by rw [<- hC];rfl
  refine⟨hn b hb,(I4.ok.nP b z1).1,I4.ok.nQ b z1,.inl z1,(I4.ok.nP b z1).2,fun p hp=>?_⟩
  rw [zp] at hp
  exact absurd hp (by simp)
 have fin:∀{H':Hp} {s':kb},Inv Y [] (dQ L.length ix σ) H' s'->Q (.ref D) H'->compPost (Ax X.prog X.w) X.A X.xe none (EP X pins σ Q) (.ref D) h3.objs.size (.ok .next) s':=by
  intro H' s' J' qe
  obtain⟨m,hm,_⟩:=J'.loc
  rw [nM] at hm
  refine⟨m,hm,fun h' sb=>⟨.ref D,H',?_,rfl,qe⟩⟩
  have mO:H' h3.objs.size=none:=by
   have:=J'.free
   rw [nM] at this
   exact this
  have ka:∀ b u,H' b=some u->b≠h3.objs.size:=fun b u e z=>by rw [z,mO] at e;cases e
  have base:Un (gU X.stack) fp (upd H2 D (.lst [])) H' h3 s'.heap:=by
   have:=J'.base
   rw [<- hC] at this
   exact this
  have to':∀ b o,b≠h3.objs.size->s'.heap.get? b=some o->h'.get? b=some o:=fun b o hb e=>sb.extBut b o hb e
  have iM:∀ b o,h3.get? b=some o->b≠h3.objs.size:=fun b o e=>Bg (AV e)
  have un:Un (gU X.stack) fp (upd H2 D (.lst [])) H' h3 h' :=
   ⟨fun b o e n hb hx=>to' b o (iM b o e) (base.keep b o e n hb hx),
    fun b o e n hb hx=>by
    obtain⟨sl,z⟩:=base.slot b o e n hb hx
    exact⟨sl,to' _ _ (iM b o e) z⟩,
    base.free,
    fun b o e hx=>by
    obtain⟨o',z⟩:=base.there b o e hx
    exact⟨o',to' _ _ (iM b o e) z⟩,
    base.kx,base.kL,base.lY⟩
  have az:cW X.prog X.w H' h':=fun b u e=>by
   have z:=J'.az b u e
   rw [eP,eW] at z
   refine z.lX (fun c v hcv qv=>to' c v ?_ qv) (fun _ qq=>qq) fun _ _ qq=>qq
   rcases hcv with zz|zz
   ·rw [zz];exact ka b u e
   ·exact ka c _ zz
  refine I3.zeJ (s':={ s' with heap:=h' }) (ch:=fp) ?_ un az J'.bare fun b hb=>?_
  ·have:=J'.os
   rw [<- hC] at this
   exact this
  ·obtain⟨_,g1,g2,g3,g4,g5⟩:=f2 b hb
   exact⟨g3,g1,g4,g5⟩
 have key:∀ s5:kb,s5={ s2 with heap:=h₁,toks:=s2.toks } ->
   DL (Ax X.prog X.w) X.A (.compLoop (.ListComp elt [⟨tg,iter,ifs,0⟩] scope pos) 0 (.ref it) (.ref D) (FI scope (iP h3.objs.size scope++fB X.env.cells scope.names []) h3.objs.size X.env))
    (compPost (Ax X.prog X.w) X.A X.xe none (EP X pins σ Q) (.ref D) h3.objs.size) s5:=by
  rintro s5 rfl
  rw [<- nM,<- eP,<- eW,<- eA]
  refine zeW (fun n s'=>∃ i ys H',Inv Y [] (dQ L.length ix σ) H' s'/\tn i s'.heap/\(∀ b∈fp,H' b=none)/\W i n ys H') ?_ m0 ⟨0,[],_,?_,qz,fun b hb=>(f3 b hb).1,w0⟩
  ·rintro n s6 ⟨i,ys,H6,I6,oI,uO,w6⟩
   obtain⟨hl6,alt⟩:=turn i n ys H6 w6
   rcases alt with⟨stop,qe⟩|⟨go,step⟩
   ·have Td:=T.done Y eP eW eK uY i [] s6 _ H6 (fun _ _=>False) I6 (stat uO) oI stop
    rw [<- eP,<- eW] at Td
    refine Bv Td (fun r s7 pS=>?_) fun _ _ f=>f.elim
    obtain⟨hr,I7⟩:=pS
    subst hr
    rw [eP,eW,eA]
    exact fin I7 qe
   ·have Ti:=T.item Y eP eW eK uY i [] s6 _ H6 (fun _ _=>False) I6 (stat uO) oI go
    rw [<- eP,<- eW] at Ti
    refine Bv Ti (fun r s7 pS=>?_) fun _ _ f=>f.elim
    obtain⟨u,hr,h7⟩:=pS
    subst hr
    refine Bv h7 (fun _ s8 hr8=>?_) fun _ _ f=>f.elim
    obtain⟨x,H8,I8,r8,y8,qA,fr8⟩:=hr8
    have I8':=I8.pinned (stat fr8) (T.obj _ _ qA)
    have stp:=gm _ _ _ _ (step x H8 y8)
    refine Bv (gY _ s8 _ H8 x u _ I8' r8 stp) (fun _ s9 ⟨σ9,H9,I9,⟨k1,k2⟩,q9⟩=>?_) fun _ _ f=>by rw [nj] at f;exact f.elim
    have weak:∀{Hz:Hp} {sz:kb},Inv Y ([]++sA fp s8.heap) σ9 Hz sz->Inv Y [] (dQ L.length ix σ) Hz sz/\tn (i+1) sz.heap/\∀ b∈fp,Hz b=none:=fun{Hz sz} Iz=>by
     refine⟨Iz.wt.weak k1.symm fun j v e=>?_,T.keep _ _ _ qA fun b hb o e=>(Iz.pin (b,o) (Cj _ (Cj _ (rX hb e)))).1,fun b hb=>?_⟩
     ·by_cases hj:L.length<=j
      ·rw [k2 j hj];exact e
      ·unfold dQ at e
       rw [B4 (by simpa using FK hj),C1,if_pos (FK hj)] at e
       cases e
     ·obtain⟨o,e,d⟩:=T.obj _ _ qA b hb
      exact(Iz.pin (b,o) (Cj _ (Cj _ (rX hb e)))).2.1
    refine Bv (tY _ s9 σ9 H9 _ I9 q9) (fun ok v5 ⟨oU,ua,vV⟩=>?_) fun _ _ f=>by rw [nj] at f;exact f.elim
    cases ok with
    | false =>
     have q10':∃ m',m'<n/\W (i+1) m' ys oU:=vV
     obtain⟨m',pL,w10⟩:=q10'
     obtain⟨z1,z2,z3⟩:=weak ua
     exact⟨m',pL,i+1,ys,oU,z1,z2,z3,w10⟩
    | true =>
     refine Bv (pY _ v5 σ9 oU _ ua vV) (fun xv v7 ⟨v,t9,I11,r11,zbQ,zbU,m',pL,w11⟩=>?_) fun _ _ f=>by rw [nj] at f;exact f.elim
     refine Bv (zcn (X:=Y) _ v7 σ9 t9 (.ref D) [v] (.ref D) [xv] (fun _ Hq=>Hq=upd t9 D (.lst (ys++[v]))) I11 rfl (.cons r11 .nil) ⟨D,ys,v,rfl,rfl,zbQ,zbU,rfl⟩) (fun _ s12 ⟨_,H12,I12,_,e12⟩=>?_) fun _ _ f=>by rw [nj] at f;exact f.elim
     subst e12
     obtain⟨z1,z2,z3⟩:=weak I12
     exact⟨m',pL,i+1,ys++[v],_,z1,z2,z3,w11⟩
  ·exact I4
 exact codeAny_compStart_list (key _ rfl) (T.self _ 0 _ _ _ qz (key _ rfl))
end
end
section
noncomputable def nK(sc scope:BG)(N:List gV)(ix:List Nat):Bool :=
 (scope.names.all fun y=>(y.2 != .free||sc.names.lookup y.1==some .cell)&&(y.2 != .local||scope.names.lookup y.1==some .local)&&(y.2 != .free||!(scope.names.contains (y.1,CB)))) &&
 ((ix.map fun i=>N.getD i "").all fun x=>scope.names.lookup x != some .local&&!(scope.names.contains (x,CB)))&&ix.all (fun i=>decide (i<N.length))
section
theorem zpB(L:List gV)(ix:List Nat)(M:List gV)(hc:X.calm=true)(hk:scope.kind=.function)
  (hd:nK X.env.scope scope X.N ix=true)(hM:M=L++ix.map fun i=>X.N.getD i "") (hi:PI X tg iter wi)
  (hg:∀ C s₃ H₃ fp,PG (dE X M scope C s₃ H₃ fp) tg g) (gm:t8 L.length g)
  (ht:∀ C s₃ H₃ fp,jF (dE X M scope C s₃ H₃ fp) ifs tc) (he:∀ C s₃ H₃ fp,PE (dE X M scope C s₃ H₃ fp) elt te)
  (hs:∀ x,Dg iter X.env x=pure x:=by intro _;rfl) :
  PE X (.ListComp elt [⟨tg,iter,ifs,0⟩] scope pos) (sS L.length ix wi g tc te):=by
 unfold nK at hd
 simp only [BJ,DI,bne_iff_ne,ne_eq,Hr,beq_iff_eq,decide_eq_true_eq,Gp,IJ,decide_eq_false_iff_not] at hd
 obtain⟨⟨d1,d2⟩,d3⟩:=hd
 have eM:M=L++d8 X ix:=by rw [hM];unfold d8;rfl
 subst eM
 refine zpA (L:=L) (ix:=ix) hc ⟨hk,fun y hy e=>?_,fun y hy e=>?_,fun x hx=>?_,fun y hy e=>?_⟩ d3 hi hg gm ht he hs
 ·rcases (d1 y hy).1.1 with z|z
  ·exact absurd e z
  ·exact z
 ·rcases (d1 y hy).1.2 with z|z
  ·exact absurd e z
  ·exact z
 ·unfold d8 at hx
  exact d2 x hx
 ·rcases (d1 y hy).2 with z|z
  ·exact absurd e z
  ·exact z
end
end
section
end
variable {oH pos':Az}{i0:Nat}{x0:gV}
section
section
theorem zqm(hN:X.N.Nodup)(u9:X.N[i0]?=some x0)(rO:Loc X.env.scope x0)(hf0:X.fn x0=true\/X.env.scope.names.lookup x0=some .local)
  (pU:BR (.ListComp elt [⟨tg,iter,ifs,0⟩] scope pos) (some (.Name x0 pos')) oH.line X.env=pure true)(hc:X.calm=true)(S:zaa X scope (d8 X ix))(va:∀ i∈ix,i<X.N.length)(hi:PI X tg iter wi)
  (hg:∀ C s₃ H₃ fp,PG (dE X (L++d8 X ix) scope C s₃ H₃ fp) tg g)(gm:t8 L.length g)
  (ht:∀ C s₃ H₃ fp,jF (dE X (L++d8 X ix) scope C s₃ H₃ fp) ifs tc)(he:∀ C s₃ H₃ fp,PE (dE X (L++d8 X ix) scope C s₃ H₃ fp) elt te)
  (hs:∀ x,Dg iter X.env x=pure x:=by intro _;rfl) :
  PS X (.Assign [.Name x0 pos'] (.ListComp elt [⟨tg,iter,ifs,0⟩] scope pos) oH) (wg (sS L.length ix wi g tc te) (uR i0)):=by
 intro pins s σ H Dn I h
 have h:sS L.length ix wi g tc te σ H (fun v H1=>Dn.nx (σ.set i0 (some v)) H1):=h
 generalize hQ:(fun v H1=>Dn.nx (σ.set i0 (some v)) H1:VK)=Q at h
 rw [exec_Assign_Name_used _ _ _ _ pU]
 refine Ap (Es (Ap ?_))
 show Av _ _ (do let _ <- comprehension (.ListComp elt [⟨tg,iter,ifs,0⟩] scope pos) scope X.env _ (newList []) false (Ay iter X.env) (some (CG (.Name x0 pos') X.env))) _ _ s
 refine Ap (Bv (II (use:=some (CG (.Name x0 pos') X.env)) (Q:=fun _ s'=>SP X pins Dn .next s') rfl hs (zeR fun y hy e=>I.ok.has y.1 (.inl (S.cell y hy e))) S.kind S.loc (aI (hi pins s σ H _ I h) fun xv s1 h1=>aI h1 fun yD s2 h2=>?_)) (fun _ s' hq=>AH (AH hq)) fun _ _ e=>e)
 obtain⟨it,fp,tn,J,H2,rfl,I2,T,bT,f2,q⟩:=h2
 have nD:H2 s2.heap.objs.size=none:=I2.az.fresh (AI _)
 obtain⟨W,⟨m0,w0⟩,turn⟩:=q _ nD
 generalize hD:s2.heap.objs.size=D at nD w0 turn
 have fD:∀ b∈fp,b<D:=fun b hb=>by
  obtain⟨o,e,_⟩:=T.obj _ _ bT b hb
  rw [<- hD]
  exact AV e
 have I3:Inv X pins σ (upd H2 D (.lst [])) { s2 with heap:=s2.heap.push { cls:=.type "list",data:=.seq ([]:List dm).toArray },toks:=s2.toks }:=by
  rw [<- hD]
  exact I2.laid (t':=s2.toks) (fun b u e=>A5 _ e) (AI _) ⟨by simp,[],0,.nil,Bl _ rfl⟩
 refine CY (zgH (fun h₁ pM pT pI=>?_)) (by show 0<=AK;exact B6 _)
 rw [hD]
 have kr:tn 0 (s2.heap.push { cls:=.type "list",data:=.seq ([]:List dm).toArray }):=T.keep _ _ _ bT fun b hb o e=>A5 _ e
 generalize hp3:s2.heap.push { cls:=.type "list",data:=.seq ([]:List dm).toArray }=h3 at I3 kr pM pT pI
 dsimp only at pM pT pI ⊢
 have sz3:h3.objs.size=D+1:=by rw [<- hp3,Cv,hD]
 have old:∀ b u,h3.get? b=some u->h₁.get? b=some u:=fun b u e=>pT b u e
 have f3:∀ b∈fp,gi X pins (upd H2 D (.lst [])) b:=fun b hb=>⟨by rw [bh (Bg (fD b hb))];exact(f2 b hb).1,(f2 b hb).2⟩
 have I4:=zfO (L:=L) (ix:=ix) (t':=s2.toks) S I3 f3 (fun b hb=>by show b<h3.objs.size;rw [sz3];exact Gn (fD b hb)) va (h':=h₁) pM old pI
 have qz:tn 0 h₁:=T.keep _ _ _ kr fun b hb o e=>old b o e
 generalize hC:(dE X (L++d8 X ix) scope h3.objs.size { s2 with heap:=h3,toks:=s2.toks } (upd H2 D (.lst [])) fp)=Y at I4
 have nM:Y.env=FI scope (iP h3.objs.size scope++fB X.env.cells scope.names []) h3.objs.size X.env:=by rw [<- hC];rfl
 have uY:Y.calm=true:=by rw [<- hC];exact hc
 have nj:Y.xe=fun _ _=>False:=by rw [<- hC];rfl
 have eP:Y.prog=X.prog:=by rw [<- hC];rfl
 have eW:Y.w=X.w:=by rw [<- hC];rfl
 have eK:Y.K=X.K:=by rw [<- hC];rfl
 have eA:Y.A=X.A:=by rw [<- hC];rfl
 have gY:PG Y tg g:=by rw [<- hC];exact hg _ _ _ _
 have tY:jF Y ifs tc:=by rw [<- hC];exact ht _ _ _ _
 have pY:PE Y elt te:=by rw [<- hC];exact he _ _ _ _
 have stat:∀{H':Hp},(∀ b∈fp,H' b=none)->∀ b∈fp,gi Y [] H' b:=fun{H'} hn b hb=>by
  have z1:b∈Y.ex:=by rw [<- hC];exact hb
  have zp:Y.pn=[]:=by rw [<- hC];rfl
  refine⟨hn b hb,(I4.ok.nP b z1).1,I4.ok.nQ b z1,.inl z1,(I4.ok.nP b z1).2,fun p hp=>?_⟩
  rw [zp] at hp
  exact absurd hp (by simp)
 have fin:∀{H':Hp} {s':kb},Inv Y [] (dQ L.length ix σ) H' s'->Q (.ref D) H'->compPost (Ax X.prog X.w) X.A X.xe (some (CG (.Name x0 pos') X.env)) (fun _ s'=>SP X pins Dn .next s') (.ref D) h3.objs.size (.ok .next) s':=by
  intro H' s' J' qe
  obtain⟨m,hm,_⟩:=J'.loc
  rw [nM] at hm
  have mO:H' h3.objs.size=none:=by
   have:=J'.free
   rw [nM] at this
   exact this
  have mk:∀ h',Ep h3.objs.size s'.heap h'->Inv X pins σ H' { s' with heap:=h' }:=by
   intro h' sb
   have mO:H' h3.objs.size=none:=by
    have:=J'.free
    rw [nM] at this
    exact this
   have ka:∀ b u,H' b=some u->b≠h3.objs.size:=fun b u e z=>by rw [z,mO] at e;cases e
   have base:Un (gU X.stack) fp (upd H2 D (.lst [])) H' h3 s'.heap:=by
    have:=J'.base
    rw [<- hC] at this
    exact this
   have to':∀ b o,b≠h3.objs.size->s'.heap.get? b=some o->h'.get? b=some o:=fun b o hb e=>sb.extBut b o hb e
   have iM:∀ b o,h3.get? b=some o->b≠h3.objs.size:=fun b o e=>Bg (AV e)
   have un:Un (gU X.stack) fp (upd H2 D (.lst [])) H' h3 h' :=
    ⟨fun b o e n hb hx=>to' b o (iM b o e) (base.keep b o e n hb hx),
     fun b o e n hb hx=>by
     obtain⟨sl,z⟩:=base.slot b o e n hb hx
     exact⟨sl,to' _ _ (iM b o e) z⟩,
     base.free,
     fun b o e hx=>by
     obtain⟨o',z⟩:=base.there b o e hx
     exact⟨o',to' _ _ (iM b o e) z⟩,
     base.kx,base.kL,base.lY⟩
   have az:cW X.prog X.w H' h':=fun b u e=>by
    have z:=J'.az b u e
    rw [eP,eW] at z
    refine z.lX (fun c v hcv qv=>to' c v ?_ qv) (fun _ qq=>qq) fun _ _ qq=>qq
    rcases hcv with zz|zz
    ·rw [zz];exact ka b u e
    ·exact ka c _ zz
   refine I3.zeJ (s':={ s' with heap:=h' }) (ch:=fp) ?_ un az J'.bare fun b hb=>?_
   ·have:=J'.os
    rw [<- hC] at this
    exact this
   ·obtain⟨_,g1,g2,g3,g4,g5⟩:=f2 b hb
    exact⟨g3,g1,g4,g5⟩
  have I5:Inv X pins σ H' s':=mk s'.heap (Heap.SameBut.refl ..)
  show Av _ _ (CG (.Name x0 pos') X.env (.ref D)) _ _ s'
  refine wpAny_assign_Name (zhR (v:=.ref D) I5 hN u9 rO rfl (fun iU I6 hh=>?_) hf0)
  obtain⟨a6,sb6,ha6⟩:=hh
  have ka:a6≠h3.objs.size:=by
   rcases ha6 with z|z
   ·rw [z];exact Bg I3.lt
   ·obtain⟨v6,q6⟩:=I3.cell x0 a6 z
    exact Bg q6.lt
  refine⟨m,hm.sameBut sb6 (Cd ka),fun gZ wc=>⟨_,H',?_,by rw [<- hQ] at qe;exact qe⟩⟩
  refine Inv.qE (t':=iU.toks) (fp:=[h3.objs.size]) I6 (fun b o hb e=>wc.extBut b o (by simpa using hb) e) fun b hb=>?_
  have e:b=h3.objs.size:=by simpa using hb
  subst e
  exact I3.jJ (AI _) mO
 have key:∀ s5:kb,s5={ s2 with heap:=h₁,toks:=s2.toks } ->
   DL (Ax X.prog X.w) X.A (.compLoop (.ListComp elt [⟨tg,iter,ifs,0⟩] scope pos) 0 (.ref it) (.ref D) (FI scope (iP h3.objs.size scope++fB X.env.cells scope.names []) h3.objs.size X.env))
    (compPost (Ax X.prog X.w) X.A X.xe (some (CG (.Name x0 pos') X.env)) (fun _ s'=>SP X pins Dn .next s') (.ref D) h3.objs.size) s5:=by
  rintro s5 rfl
  rw [<- nM,<- eP,<- eW,<- eA]
  refine zeW (fun n s'=>∃ i ys H',Inv Y [] (dQ L.length ix σ) H' s'/\tn i s'.heap/\(∀ b∈fp,H' b=none)/\W i n ys H') ?_ m0 ⟨0,[],_,?_,qz,fun b hb=>(f3 b hb).1,w0⟩
  ·rintro n s6 ⟨i,ys,H6,I6,oI,uO,w6⟩
   obtain⟨hl6,alt⟩:=turn i n ys H6 w6
   rcases alt with⟨stop,qe⟩|⟨go,step⟩
   ·have Td:=T.done Y eP eW eK uY i [] s6 _ H6 (fun _ _=>False) I6 (stat uO) oI stop
    rw [<- eP,<- eW] at Td
    refine Bv Td (fun r s7 pS=>?_) fun _ _ f=>f.elim
    obtain⟨hr,I7⟩:=pS
    subst hr
    rw [eP,eW,eA]
    exact fin I7 qe
   ·have Ti:=T.item Y eP eW eK uY i [] s6 _ H6 (fun _ _=>False) I6 (stat uO) oI go
    rw [<- eP,<- eW] at Ti
    refine Bv Ti (fun r s7 pS=>?_) fun _ _ f=>f.elim
    obtain⟨u,hr,h7⟩:=pS
    subst hr
    refine Bv h7 (fun _ s8 hr8=>?_) fun _ _ f=>f.elim
    obtain⟨x,H8,I8,r8,y8,qA,fr8⟩:=hr8
    have I8':=I8.pinned (stat fr8) (T.obj _ _ qA)
    have stp:=gm _ _ _ _ (step x H8 y8)
    refine Bv (gY _ s8 _ H8 x u _ I8' r8 stp) (fun _ s9 ⟨σ9,H9,I9,⟨k1,k2⟩,q9⟩=>?_) fun _ _ f=>by rw [nj] at f;exact f.elim
    have weak:∀{Hz:Hp} {sz:kb},Inv Y ([]++sA fp s8.heap) σ9 Hz sz->Inv Y [] (dQ L.length ix σ) Hz sz/\tn (i+1) sz.heap/\∀ b∈fp,Hz b=none:=fun{Hz sz} Iz=>by
     refine⟨Iz.wt.weak k1.symm fun j v e=>?_,T.keep _ _ _ qA fun b hb o e=>(Iz.pin (b,o) (Cj _ (Cj _ (rX hb e)))).1,fun b hb=>?_⟩
     ·by_cases hj:L.length<=j
      ·rw [k2 j hj];exact e
      ·unfold dQ at e
       rw [B4 (by simpa using FK hj),C1,if_pos (FK hj)] at e
       cases e
     ·obtain⟨o,e,d⟩:=T.obj _ _ qA b hb
      exact(Iz.pin (b,o) (Cj _ (Cj _ (rX hb e)))).2.1
    refine Bv (tY _ s9 σ9 H9 _ I9 q9) (fun ok v5 ⟨oU,ua,vV⟩=>?_) fun _ _ f=>by rw [nj] at f;exact f.elim
    cases ok with
    | false =>
     have q10':∃ m',m'<n/\W (i+1) m' ys oU:=vV
     obtain⟨m',pL,w10⟩:=q10'
     obtain⟨z1,z2,z3⟩:=weak ua
     exact⟨m',pL,i+1,ys,oU,z1,z2,z3,w10⟩
    | true =>
     refine Bv (pY _ v5 σ9 oU _ ua vV) (fun xv v7 ⟨v,t9,I11,r11,zbQ,zbU,m',pL,w11⟩=>?_) fun _ _ f=>by rw [nj] at f;exact f.elim
     refine Bv (zcn (X:=Y) _ v7 σ9 t9 (.ref D) [v] (.ref D) [xv] (fun _ Hq=>Hq=upd t9 D (.lst (ys++[v]))) I11 rfl (.cons r11 .nil) ⟨D,ys,v,rfl,rfl,zbQ,zbU,rfl⟩) (fun _ s12 ⟨_,H12,I12,_,e12⟩=>?_) fun _ _ f=>by rw [nj] at f;exact f.elim
     subst e12
     obtain⟨z1,z2,z3⟩:=weak I12
     exact⟨m',pL,i+1,ys++[v],_,z1,z2,z3,w11⟩
  ·exact I4
 exact codeAny_compStart_list (key _ rfl) (T.self _ 0 _ _ _ qz (key _ rfl))
theorem zqn(i0:Nat)(L:List gV)(ix:List Nat)(M:List gV)(hN:X.N.Nodup)(u9:X.N[i0]?=some x0)(rO:X.env.scope.names.lookup x0=some .local)
  (pU:BR (.ListComp elt [⟨tg,iter,ifs,0⟩] scope pos) (some (.Name x0 pos')) oH.line X.env=pure true)(hc:X.calm=true)(hk:scope.kind=.function)
  (hd:nK X.env.scope scope X.N ix=true)(hM:M=L++ix.map fun i=>X.N.getD i "") (hi:PI X tg iter wi)
  (hg:∀ C s₃ H₃ fp,PG (dE X M scope C s₃ H₃ fp) tg g) (gm:t8 L.length g)
  (ht:∀ C s₃ H₃ fp,jF (dE X M scope C s₃ H₃ fp) ifs tc) (he:∀ C s₃ H₃ fp,PE (dE X M scope C s₃ H₃ fp) elt te)
  (hs:∀ x,Dg iter X.env x=pure x:=by intro _;rfl) :
  PS X (.Assign [.Name x0 pos'] (.ListComp elt [⟨tg,iter,ifs,0⟩] scope pos) oH) (wg (sS L.length ix wi g tc te) (uR i0)):=by
 unfold nK at hd
 simp only [BJ,DI,bne_iff_ne,ne_eq,Hr,beq_iff_eq,decide_eq_true_eq,Gp,IJ,decide_eq_false_iff_not] at hd
 obtain⟨⟨d1,d2⟩,d3⟩:=hd
 have eM:M=L++d8 X ix:=by rw [hM];unfold d8;rfl
 subst eM
 refine zqm (L:=L) (ix:=ix) hN u9 (.inl rO) (.inr rO) pU hc ⟨hk,fun y hy e=>?_,fun y hy e=>?_,fun x hx=>?_,fun y hy e=>?_⟩ d3 hi hg gm ht he hs
 ·rcases (d1 y hy).1.1 with z|z
  ·exact absurd e z
  ·exact z
 ·rcases (d1 y hy).1.2 with z|z
  ·exact absurd e z
  ·exact z
 ·unfold d8 at hx
  exact d2 x hx
 ·rcases (d1 y hy).2 with z|z
  ·exact absurd e z
  ·exact z
end
end
section
theorem zgV{α β:Type}{R:α->β->Prop}:∀{xs:List α} {ys:List β} {i:Nat} {x:α},Dd R xs ys->xs[i]?=some x->∃ y,ys[i]?=some y/\R x y
 | _::_,_::_,0,_,.cons r _,e=>by
  simp only [IK,B7] at e
  subst e
  exact⟨_,rfl,r⟩
 | _::_,_::_,i+1,_,.cons _ t,e=>by
  simp only [List.getElem?_cons_succ] at e ⊢
  exact zgV t e
 | [],_,_,_,_,e=>by simp at e
end
variable {ag:List (List Key×V)}{b:ir}{xs:List (List Key×ir×dm)}{k:Key}{ob:HO}{κ:Type}{o:Option V}{ks:List Key}
section
section
variable [DecidableEq κ]
noncomputable def lC(ag:List (κ×V))(k:κ):Option V:=(ag.find? fun kv=>decide (kv.1=k)).map (·.2)
noncomputable def putK(ag:List (κ×V))(k:κ)(v:V):List (κ×V) :=
 if(ag.any fun kv=>decide (kv.1=k))=true then ag.map (fun kv=>if kv.1=k then(kv.1,v) else kv) else ag++[(k,v)]
theorem zdl{p:κ×V}{r:List (κ×V)}{k:κ}(e:p.1=k):lC (p::r) k=some p.2:=by simp [lC,Ef,e]
theorem zdk{p:κ×V}{r:List (κ×V)}{k:κ}(e:¬ p.1=k):lC (p::r) k=lC r k:=by simp [lC,Ef,e]
theorem zid(k:κ):∀ ag:List (κ×V),(ag.any fun kv=>decide (kv.1=k))=(lC ag k).isSome
 | []=>rfl
 | p::r=>by
  rw [Ht]
  by_cases e:p.1=k
  ·simp only [zdl e,decide_eq_true e,Bool.true_or,IH]
  ·rw [zdk e,decide_eq_false e,Bool.false_or];exact zid k r
theorem zn3(ag:List (κ×V))(k:κ)(v:V):(putK ag k v).length<=ag.length+1:=by
 unfold putK
 split
 ·rw [AW];lia
 ·rw [BH,AR,A9];lia
theorem i3.zfR{u:Option dm}(r:i3 o u):o.isSome=u.isSome:=by
 cases o with
 | none=>cases u with
  | none=>rfl
  | some _=>exact(show False from r).elim
 | some _=>cases u with
  | none=>exact(show False from r).elim
  | some _=>rfl
end
theorem zm1(r:RelV (kV k) u):(j8 P w).is k u=true:=by
 cases k with
 | inl i=>obtain⟨t,e⟩:=(show ∃ t,u=D1 i t from r);subst e;exact zot P w i t
 | inr x=>obtain⟨t,e⟩:=(show ∃ t,u=D2 x t from r);subst e;exact zou P w x t
theorem zfT{P:AO}{w:AJ}:∀{ks:List Key} {us:List dm},Vals (ks.map kV) us->ItemsAre (j8 P w) ks us
 | [],_,r=>by rw [BW] at r;cases r;exact .nil
 | k::ks,_,r=>by
  rw [AQ] at r
  cases r with
  | cons h t=>exact .cons (zm1 h) (zfT t)
abbrev KT(H:Hp):List (List Key×V)->List (List Key×ir×dm)->Prop:=Dd fun p q=>p.1=q.1/\dH H q.2.1 (p.1.map kV)/\RelV p.2 q.2.2
theorem KT.val(r:KT H ag xs)(k:List Key):i3 (lC ag k) ((DX xs k).map (·.2)):=by
 induction r with
 | nil=>exact D8
 | @cons p q ps qs h t ih =>
  obtain⟨h1,_,h2⟩:=h
  by_cases e:p.1=k
  ·have e':q.1=k:=h1.symm.trans e
   have b:DX (q::qs) k=some q.2:=by simp [DX,Ef,e']
   rw [zdl e,b];exact h2
  ·have e':¬ q.1=k:=fun z=>e (h1.trans z)
   have b:DX (q::qs) k=DX qs k:=by simp [DX,Ef,e']
   rw [zdk e,b];exact ih
theorem KT.zrS(r:KT H ag xs)(k:List Key)(ry:RelV y u) :
  KT H (ag.map fun kv=>if kv.1=k then(kv.1,y) else kv) (xs.map (putAt k u)):=by
 induction r with
 | nil=>exact .nil
 | @cons p q ps qs h t ih =>
  rw [AQ,AQ]
  refine .cons ?_ ih
  obtain⟨h1,h2,h3⟩:=h
  unfold putAt
  by_cases e:p.1=k
  ·rw [if_pos e,if_pos (h1.symm.trans e)];exact⟨h1,h2,ry⟩
  ·rw [if_neg e,if_neg (fun z=>e (h1.trans z))];exact⟨h1,h2,h3⟩
theorem KT.put(r:KT H ag xs)(k:List Key)(hb:dH H b (k.map kV))(ry:RelV y u) :
  KT H (putK ag k y) (storedH xs k b u):=by
 have e:(ag.any fun kv=>decide (kv.1=k))=(DX xs k).isSome:=by
  rw [zid,(r.val k).zfR,IL]
 unfold putK storedH
 rw [e]
 by_cases q:(DX xs k).isSome=true
 ·rw [if_pos q,if_pos q];exact r.zrS k ry
 ·rw [if_neg q,if_neg q];exact Paired.snoc r ⟨rfl,hb,ry⟩
theorem KT.keeps(r:KT H ag xs)(ht:∀ b ys,dH H b ys->dH H' b ys):KT H' ag xs :=
 Dd.zcl r fun _ _ z=>⟨z.1,ht _ _ z.2.1,z.2.2⟩
section
theorem zrK{u:HO}(ok:cW P w H h)(e:Rd H a u):dq P w H h a u:=e.ok ok
theorem yG(ok:cW P w H h)(e:dH H a (ks.map kV)):(ER (j8 P w)).is h ks a:=by
 obtain⟨_,its,r,o,h1,h2,n,h3⟩:=(show dq P w H h a (.tup (ks.map kV)) from Rd.ok e ok)
 exact⟨o,its.toArray,n,h1,h2,h3,by simpa using zfT r⟩
theorem uE(ok:cW P w H h)(e:Rd H a (.dT ag)):ag.length<=AK/\(a==Dw)=false /\
  ∃ xs,KT H ag xs/\h.DictOfH (ER (j8 P w)) a xs:=by
 obtain⟨z,y,xs,r,o,es,ep,h1,h2,h3,h4,h5⟩:=(show dq P w H h a (.dT ag) from zrK ok e)
 refine⟨z,y,xs,r,o,es,ep,h1,h2,h3,h4,fun x hx=>?_,h5⟩
 have all:∀{l:List (List Key×V)} {m:List (List Key×ir×dm)},KT H l m->∀ x∈m,(ER (j8 P w)).is h x.1 x.2.1:=by
  intro l m q
  induction q with
  | nil=>intro x hx;exact nomatch hx
  | @cons p q ps qs hq t ih =>
   intro x hx
   rcases AX.mp hx with e|hx
   ·subst e
    exact yG ok (by rw [<- hq.1];exact hq.2.1)
   ·exact ih x hx
 exact all r x hx
theorem zlf(ok:cW P w H h)(e:H a=some (.dT ag)):ag.length<=AK/\(a==Dw)=false /\
  ∃ xs,KT H ag xs/\h.DictOfH (ER (j8 P w)) a xs:=uE ok (.inl e)
end
def wy(H:Hp)(a:ir)(y:V)(r:Option V):Prop :=
 ∃ ag k b,Rd H a (.dT ag)/\y=.ref b/\dH H b (k.map kV)/\r=lC ag k
def zdt(H:Hp)(a:ir)(y v:V)(H':Hp):Prop :=
 ∃ ag k b,H a=some (.dT ag)/\y=.ref b/\dH H b (k.map kV)/\ag.length<AK/\H'=upd H a (.dT (putK ag k v))
section
variable {v:V}{r:dm}
theorem Inv.big(I:Inv X pins σ H s):Dw<s.heap.objs.size:=by
 have h:Ba<s.heap.objs.size:=(I.mod.glob.keeps I.bk).lt
 exact Eg (by decide) h
theorem zkJ(hu:A.units+1<BO)(I:Inv X pins σ H s)(g:wy H a y (some v))(ry:RelV y u)(h:∀ w' s',Inv X pins σ H s'->RelV v w'->Q w' s') :
  Av (Ax X.prog X.w) A (DT (.ref a) u) Q E s:=by
 obtain⟨ag,k,b,e,ey,eb,l⟩:=g
 subst ey
 cases (show u=BF b from ry)
 obtain⟨z,hd,xs,rel,dd⟩:=uE I.az e
 obtain⟨w',hw,gJ⟩:=i3.some_of (v:=v) (o:=(DX xs k).map (·.2)) (by rw [l];exact rel.val k)
 obtain⟨p,hp,hp2⟩:=C8.mp hw
 refine wpAny_getItem_heap (Hu hu) (yG I.az eb) dd hp ?_
 rw [hp2]
 exact h w' _ (I.tok _) gJ
theorem zkK(hu:A.units+1<BO)(I:Inv X pins σ H s)(g:wy H a y o)(ry:RelV y u)(h:∀ s',Inv X pins σ H s'->Q (.bool o.isSome) s') :
  Av (Ax X.prog X.w) A (A3 .In u (.ref a)) Q E s:=by
 obtain⟨ag,k,b,e,ey,eb,l⟩:=g
 subst ey
 cases (show u=BF b from ry)
 obtain⟨z,hd,xs,rel,dd⟩:=uE I.az e
 refine wpAny_in_heap (Hu hu) (yG I.az eb) hd dd ?_
 have q:=(rel.val k).zfR
 rw [IL] at q
 rw [<- q,<- l]
 exact h _ (I.tok _)
theorem zk1(I:Inv X pins σ H s)(mu:uc (H a))(hs:Ep a s.heap h')(he:∃ q,h'.get? a=some q)(new:dq X.prog X.w (upd H a ob) h' a ob) :
  Inv X pins σ (upd H a ob) { s with heap:=h',toks:=t' } :=
 I.write (x:=a) (e:=a) mu (.inl rfl) (fun b q hb z=>(hs.2 b hb).trans z) he new
theorem zkZ{Q:Unit->kb->Prop}(hu:A.units+1<BO)(I:Inv X pins σ H s)(g:zdt H a y v H')(ry:RelV y u)(rv:RelV v r)(h:∀ s',Inv X pins σ H' s'->Q () s') :
  Av (Ax X.prog X.w) A (setItem (.ref a) u r) Q E s:=by
 obtain⟨ag,k,b,e,ey,eb,l,eH⟩:=g
 subst ey eH
 cases (show u=BF b from ry)
 obtain⟨z,hd,xs,rel,dd⟩:=zlf I.az e
 have hz:xs.length<=AK:=by rw [<- EL rel];exact z
 have hl:(putK ag k v).length<=AK:=by have:=zn3 ag k v;lia
 refine wpAny_setItem_heap (hsz:=hz) (Hu hu) (yG I.az eb) dd fun h' dd' hs=>h _ ?_
 obtain⟨q,es,ep,hq,h2,h3,h4,_,h5⟩:=dd'
 refine zk1 I (by rw [e];exact D8) hs ⟨q,hq⟩ ⟨hl,hd,_,(rel.put k eb rv).keeps fun c ys ec=>?_,q,es,ep,hq,h2,h3,h4,h5⟩
 exact ec.upd (fun _ z=>zgF z e (fun z=>nomatch z)) fun _ _ z=>zgF z e (fun z=>nomatch z)
end
theorem zk6(I:Inv X pins σ H s)(g:wy H a y o):s.TypeIs (.ref a) "dict":=by
 obtain⟨ag,k,b,e,_,_,_⟩:=g
 obtain⟨_,_,xs,_,dd⟩:=uE I.az e
 exact dd.typeIs
theorem zle(h:AD)(hb:Dw<h.objs.size):dq P w H (h.push { cls:=.type "dict",data:=.dict #[] }) h.objs.size (.dT []) :=
 ⟨B6 _,beq_eq_false_iff_ne.mpr (Cd (Bg hb)),[],.nil,_,#[],0,Bl _ rfl,⟨rfl,rfl,rfl⟩,rfl,rfl,Hv⟩
def zsu:TE:=fun _ H Q=>∀ p,H p=none->Q (.ref p) (upd H p (.dT []))
section
theorem zpC:PE X (.Dict [] [] pos) zsu:=fun pins s σ H Q I h =>
 wpAny_Dict_empty ⟨.ref s.heap.objs.size,_,I.laid (a:=s.heap.objs.size) (o:=.dT []) (t':=s.toks) (fun _ _ q=>A5 _ q) (AI _) (zle s.heap I.big),rfl,h _ (I.az.fresh (AI _))⟩
end
def wM(H:Hp)(a:ir):Prop:=∃ ag,Rd H a (.dT ag)
end
section
end
section
end
section
end
section
end
section
end
section
theorem zie:∀{xs:List V} {us:List dm},xs.length=us.length->(∀(j:Nat) x u,xs[j]?=some x->us[j]?=some u->RelV x u)->Vals xs us
 | [],[],_,_=>.nil
 | x::xs,u::us,l,h=>.cons (h 0 x u rfl rfl) (zie (by simpa using l) fun j y v e1 e2=>h (j+1) y v (by simpa using e1) (by simpa using e2))
end
end L2
namespace Q1
variable {b p q r t:Int}
section
noncomputable def fr(t b:Int):Int×Int:=if b<0 then(t / -(Aw t b:Int),b / -(Aw t b:Int)) else(t / (Aw t b:Int),b / (Aw t b:Int))
structure iG(p q:Int):Prop where
 pos:0<q
 pj:Aw p q=1
theorem uU(h:b≠0):0<(Aw t b:Int):=by
 have:0<Aw t b:=Hw _ h
 lia
theorem zk7:((Aw t b:Nat):Int)∣t:=Fg ..
theorem zbi:((Aw t b:Nat):Int)∣b:=EB ..
theorem uC(h:b≠0):Aw (t / (Aw t b:Int)) (b / (Aw t b:Int))=1:=by
 have hp:0<Aw t b:=Hw _ h
 exact Int.gcd_ediv_gcd_ediv_gcd hp
theorem zlB(h:b≠0):iG (fr t b).1 (fr t b).2:=by
 have hg:=uU (t:=t) h
 have c:=uC (t:=t) h
 unfold fr
 split
 ·rename_i hb
  refine⟨?_,?_⟩
  ·show 0<b / -(Aw t b:Int)
   rw [FN]
   have:=Cq (zbi (t:=t) (b:=b))
   have h1:b / (Aw t b:Int)<0:=by
    rcases Hx (b / (Aw t b:Int)) 0 with z|z|z
    ·exact z
    ·rw [z] at this;lia
    ·have:=Fh z hg;lia
   lia
  ·show Aw (t / -(Aw t b:Int)) (b / -(Aw t b:Int))=1
   rw [FN,FN,Int.gcd_neg,Int.neg_gcd]
   exact c
 ·rename_i hb
  refine⟨?_,c⟩
  show 0<b / (Aw t b:Int)
  have:=Cq (zbi (t:=t) (b:=b))
  rcases Hx (b / (Aw t b:Int)) 0 with z|z|z
  ·have:=IM z hg;lia
  ·rw [z] at this;lia
  ·exact z
theorem zlA(h:b≠0):(fr t b).1*b=t*(fr t b).2:=by
 have e1:=Cq (zk7 (t:=t) (b:=b))
 have e2:=Cq (zbi (t:=t) (b:=b))
 have key:t / (Aw t b:Int)*b=t*(b / (Aw t b:Int)):=by
  calc t / (Aw t b:Int)*b=t / (Aw t b:Int)*(b / (Aw t b:Int)*(Aw t b:Int)):=by rw [e2]
   _=t / (Aw t b:Int)*(Aw t b:Int)*(b / (Aw t b:Int)):=by rw [DJ,EC (b / _)]
   _=t*(b / (Aw t b:Int)):=by rw [e1]
 unfold fr
 split
 ·show t / -(Aw t b:Int)*b=t*(b / -(Aw t b:Int))
  rw [FN,FN,Int.neg_mul,Int.mul_neg,key]
 ·exact key
theorem uF(h:q∣p*r)(c:Aw p q=1):q∣r:=by
 have h1:q.natAbs∣p.natAbs*r.natAbs:=by
  rw [<- ED]
  exact Hy.mpr h
 have c':Nat.Coprime q.natAbs p.natAbs:=by
  show Fi q.natAbs p.natAbs=1
  rw [HA]
  exact c
 exact Hy.mp (Nat.Coprime.dvd_of_dvd_mul_left c' h1)
theorem zod{p' q':Int}(a:iG p q)(b:iG p' q')(h:p*q'=p'*q):p=p'/\q=q':=by
 have d1:q∣q':=by
  have:q∣p*q':=⟨p',by rw [h,EC]⟩
  exact uF this a.pj
 have d2:q'∣q:=by
  have:q'∣p'*q:=⟨p,by rw [<- h,EC]⟩
  exact uF this b.pj
 have e:q=q':=Int.dvd_antisymm (Int.le_of_lt a.pos) (Int.le_of_lt b.pos) d1 d2
 refine⟨?_,e⟩
 subst e
 exact IP (EE a.pos) h
theorem zfo(hb:b≠0)(l:iG p q)(h:p*b=t*q):fr t b=(p,q):=by
 have e:=zlA (t:=t) hb
 have l':=zlB (t:=t) hb
 have:(fr t b).1*q=p*(fr t b).2:=by
  have h2:(fr t b).1*q*b=p*(fr t b).2*b:=by
   calc (fr t b).1*q*b=(fr t b).1*b*q:=by rw [DJ,EC q,DJ]
    _=t*(fr t b).2*q:=by rw [e]
    _=t*q*(fr t b).2:=by rw [DJ,EC (fr t b).2,DJ]
    _=p*b*(fr t b).2:=by rw [h]
    _=p*(fr t b).2*b:=by rw [DJ,EC b,DJ]
  exact IP hb h2
 obtain⟨a1,a2⟩:=zod l' l this
 exact E6 a1 a2
theorem zfp(h:0<b):fr t b=(t / (Aw t b:Int),b / (Aw t b:Int)):=by
 unfold fr
 rw [if_neg (by lia)]
end
variable {a s:Int}
section
theorem iG.ne(l:iG p q):q≠0:=EE l.pos
theorem gcd_one(h:∀ d:Int,d∣a->d∣b->d∣1):Aw a b=1:=by
 have:=h (Aw a b:Int) (Fg ..) (EB ..)
 have h2:(Aw a b)∣1:=by
  have:=Hy.mpr this
  simpa using this
 exact Nat.dvd_one.mp h2
theorem dvd_one{d:Int}(h:Aw a b=1)(h1:d∣a)(h2:d∣b):d∣1:=by
 have:=Int.dvd_coe_gcd h1 h2
 rw [h] at this
 exact this
theorem zbJ(h:Aw a b=1):Aw b a=1:=by rw [Int.gcd_comm];exact h
theorem gcd_mul{c:Int}(h1:Aw a b=1)(h2:Aw a c=1):Aw a (b*c)=1:=by
 refine gcd_one fun d da db=>?_
 have c1:Aw b d=1:=gcd_one fun e e1 e2=>dvd_one h1 (EG e2 da) e1
 exact dvd_one h2 da (uF db c1)
theorem yk{a' b':Int}(h:Aw a b=1)(h1:a'∣a)(h2:b'∣b):Aw a' b'=1 :=
 gcd_one fun d da db=>dvd_one h (EG da h1) (EG db h2)
theorem yb(h:b∣a):a / b∣a:=by
 obtain⟨c,rfl⟩:=h
 by_cases z:b=0
 ·subst z;simp
 ·rw [Int.mul_ediv_cancel_left _ z];exact⟨b,EC _ _⟩
theorem vK(h:0<a*b)(hb:0<b):0<a:=by
 rcases Hx a 0 with z|z|z
 ·have:=IM z hb;lia
 ·subst z;simp at h
 ·exact z
noncomputable def sC(p q r s:Int):Int×Int :=
 let g:=(Aw q s:Int)
 let top:=p*(s / g)+r*(q / g)
 let e:=(Aw top g:Int)
 (top / e,q / g*(s / e))
noncomputable def zN(p q r s:Int):Int×Int :=
 (p / (Aw p s:Int)*(r / (Aw r q:Int)),q / (Aw r q:Int)*(s / (Aw p s:Int)))
theorem zqa{g m e top T G:Int}(l1:iG p q)(l2:iG r s)(g0:0<g)(e0:0<e)(hq:q=m*g)(hs:s=t*g)(hmt:Aw m t=1)
  (ht:top=p*t+r*m)(hT:top=T*e)(hG:g=G*e)(hTG:Aw T G=1):iG T (m*(t*G))/\T*(q*s)=(p*s+r*q)*(m*(t*G)):=by
 have hm:0<m:=vK (by rw [<- hq];exact l1.pos) g0
 have htt:0<t:=vK (by rw [<- hs];exact l2.pos) g0
 have hGG:0<G:=vK (by rw [<- hG];exact g0) e0
 refine⟨⟨Fh hm (Fh htt hGG),?_⟩,?_⟩
 ·have dT:T∣top:=⟨e,hT⟩
  have c1:Aw T m=1:=by
   refine gcd_one fun d da db=>?_
   have h1:d∣p*t:=by
    have h2:d∣p*t+r*m:=by rw [<- ht];exact EG da dT
    exact(Int.dvd_add_left (IQ db)).mp h2
   have h3:Aw p d=1:=yk l1.pj (Int.dvd_refl _) (by rw [hq];exact EG db (Int.dvd_mul_right ..))
   exact dvd_one hmt db (uF h1 h3)
  have c2:Aw T t=1:=by
   refine gcd_one fun d da db=>?_
   have h1:d∣r*m:=by
    have h2:d∣p*t+r*m:=by rw [<- ht];exact EG da dT
    exact(Int.dvd_add_right (IQ db)).mp h2
   have h3:Aw r d=1:=yk l2.pj (Int.dvd_refl _) (by rw [hs];exact EG db (Int.dvd_mul_right ..))
   exact dvd_one hmt (uF h1 h3) db
  exact gcd_mul c1 (gcd_mul c2 hTG)
 ·have k1:p*s+r*q=top*g:=by
   rw [hq,hs,ht,Int.add_mul,DJ,DJ]
  rw [k1,hT,hq,hs]
  rw [show m*g*(t*g)=m*(t*G)*(e*g) by rw [show t*g=t*(G*e) by rw [hG]];ac_rfl]
  ac_rfl
theorem zqb(l1:iG p q)(l2:iG r s):sC p q r s=fr (p*s+r*q) (q*s):=by
 have g0:0<(Aw q s:Int):=uU l2.ne
 have d1:(Aw q s:Int)∣q:=Fg ..
 have d2:(Aw q s:Int)∣s:=EB ..
 have e0:0<(Aw (p*(s / (Aw q s:Int))+r*(q / (Aw q s:Int))) (Aw q s:Int):Int):=uU (EE g0)
 have d3:=Fg (a:=p*(s / (Aw q s:Int))+r*(q / (Aw q s:Int))) (b:=(Aw q s:Int))
 have d4:=EB (a:=p*(s / (Aw q s:Int))+r*(q / (Aw q s:Int))) (b:=(Aw q s:Int))
 have core:=zqa l1 l2 g0 e0 (Cq d1).symm (Cq d2).symm (uC l2.ne) rfl (Cq d3).symm (Cq d4).symm (uC (EE g0))
 have e:sC p q r s=(_,_):=rfl
 have hs:s / (Aw (p*(s / (Aw q s:Int))+r*(q / (Aw q s:Int))) (Aw q s:Int):Int)=s / (Aw q s:Int)*((Aw q s:Int) / (Aw (p*(s / (Aw q s:Int))+r*(q / (Aw q s:Int))) (Aw q s:Int):Int)):=by
  refine Int.ediv_eq_of_eq_mul_left (EE e0) ?_
  rw [DJ,Cq d4,Cq d2]
 symm
 refine zfo (EE (Fh l1.pos l2.pos)) (p:=(sC p q r s).1) (q:=(sC p q r s).2) ?_ ?_
 ·have:(sC p q r s).2=_:=rfl
  rw [this]
  show iG _ (q / (Aw q s:Int)*(s / _))
  rw [hs]
  exact core.1
 ·show _*(q*s)=_*(q / (Aw q s:Int)*(s / _))
  rw [hs]
  exact core.2
theorem zsT(l1:iG p q)(l2:iG r s):zN p q r s=fr (p*r) (q*s):=by
 have m0:0<(Aw p s:Int):=uU l2.ne
 have i0:0<(Aw r q:Int):=uU l1.ne
 have a1:(Aw p s:Int)∣p:=Fg ..
 have a2:(Aw p s:Int)∣s:=EB ..
 have b1:(Aw r q:Int)∣r:=Fg ..
 have b2:(Aw r q:Int)∣q:=EB ..
 symm
 refine zfo (EE (Fh l1.pos l2.pos)) (p:=(zN p q r s).1) (q:=(zN p q r s).2) ⟨?_,?_⟩ ?_
 ·refine Fh ?_ ?_
  ·exact vK (by rw [Cq b2];exact l1.pos) i0
  ·exact vK (by rw [Cq a2];exact l2.pos) m0
 ·show Aw (p / _*(r / _)) (q / _*(s / _))=1
  have x1:Aw (p / (Aw p s:Int)) (q / (Aw r q:Int))=1:=yk l1.pj (yb a1) (yb b2)
  have x2:Aw (p / (Aw p s:Int)) (s / (Aw p s:Int))=1:=uC l2.ne
  have x3:Aw (r / (Aw r q:Int)) (q / (Aw r q:Int))=1:=uC l1.ne
  have x4:Aw (r / (Aw r q:Int)) (s / (Aw p s:Int))=1:=yk l2.pj (yb b1) (yb a2)
  exact zbJ (gcd_mul (zbJ (gcd_mul x1 x2)) (zbJ (gcd_mul x3 x4)))
 ·show p / (Aw p s:Int)*(r / (Aw r q:Int))*(q*s)=p*r*(q / (Aw r q:Int)*(s / (Aw p s:Int)))
  have y1:=Cq a1
  have y2:=Cq a2
  have y3:=Cq b1
  have y4:=Cq b2
  generalize (Aw p s:Int)=m at *
  generalize (Aw r q:Int)=i at *
  generalize p / m=P at *
  generalize s / m=S at *
  generalize r / i=R at *
  generalize q / i=Q at *
  rw [<- y1,<- y2,<- y3,<- y4]
  ac_rfl
end
end Q1
namespace QR
open Q1
variable {d m n:Nat}{t:Int}{r:Rat}
theorem low(r:Rat):iG r.num r.den:=⟨by have:=r.den_nz;lia,by
 have:=r.reduced
 unfold Nat.Coprime at this
 show Fi r.num.natAbs (r.den:Int).natAbs=1
 simpa using this⟩
theorem zlQ(t:Int)(d:Nat):(Aw t (d:Int))=Fi t.natAbs d:=by
 show Fi t.natAbs (d:Int).natAbs=_
 simp
theorem norm(h:d≠0):fr t (d:Int)=((Gq t d h).num,((Gq t d h).den:Int)):=by
 rw [zfp (by lia),Rat.normalize_eq,zlQ]
 simp
theorem add(r s:Rat):fr (r.num*s.den+s.num*r.den) ((r.den:Int)*s.den)=((r+s).num,((r+s).den:Int)):=by
 rw [Rat.add_def,<- norm]
 congr 1
theorem mul(r s:Rat):fr (r.num*s.num) ((r.den:Int)*s.den)=((r*s).num,((r*s).den:Int)):=by
 rw [Rat.mul_def,<- norm]
 congr 1
def Bd(n:Nat)(r:Rat):Prop:=r.num.natAbs<2^n/\r.den<2^n
theorem Bd.mono(h:Bd n r)(k:n<=m):Bd m r:=⟨BL h.1 (HB (by decide) k),BL h.2 (HB (by decide) k)⟩
theorem zbs(t b:Int):(fr t b).1.natAbs<=t.natAbs/\(fr t b).2.natAbs<=b.natAbs:=by
 unfold fr
 split
 ·exact⟨FO _ _,FO _ _⟩
 ·exact⟨FO _ _,FO _ _⟩
theorem pZ{a b:Nat}(h1:a<2^n)(h2:b<2^m):a*b<2^(n+m):=by
 rw [Nat.pow_add]
 exact Nat.mul_lt_mul'' h1 h2
theorem Bd.add{n m:Nat}{r s:Rat}(h:Bd n r)(k:Bd m s):Bd (n+m+1) (r+s):=by
 have e:=QR.add r s
 have l:=zbs (r.num*s.den+s.num*r.den) ((r.den:Int)*s.den)
 rw [e] at l
 simp only at l
 have a1:r.num.natAbs*s.den<2^(n+m):=pZ h.1 k.2
 have a2:s.num.natAbs*r.den<2^(n+m):=by rw [FE,FE];rw [Gg];exact pZ k.1 h.2
 have a3:r.den*s.den<2^(n+m):=pZ h.2 k.2
 have p2:2^(n+m+1)=2^(n+m)+2^(n+m):=by rw [Nat.pow_succ];lia
 refine⟨?_,?_⟩
 ·refine E9 l.1 (E9 (Int.natAbs_add_le _ _) ?_)
  rw [ED,ED,Eh,Eh,p2]
  lia
 ·have:=l.2
  rw [ED,Eh,Eh,Eh] at this
  rw [p2]
  lia
theorem Bd.mul{n m:Nat}{r s:Rat}(h:Bd n r)(k:Bd m s):Bd (n+m) (r*s):=by
 have e:=QR.mul r s
 have l:=zbs (r.num*s.num) ((r.den:Int)*s.den)
 rw [e] at l
 simp only at l
 refine⟨?_,?_⟩
 ·refine E9 l.1 ?_
  rw [ED]
  exact pZ h.1 k.1
 ·have:=l.2
  rw [ED,Eh,Eh,Eh] at this
  exact E9 this (pZ h.2 k.2)
noncomputable def part(xs ys:List Rat):Nat->Rat
 | 0=>0
 | i+1=>part xs ys i+xs.getD i 0*ys.getD i 0
end QR
namespace KC
open PySem L2 PySem.Spec PyProof.Rows
section
namespace Bt
theorem isinstance:Bs "isinstance"=some (.builtin "isinstance"):=by decide +kernel
end Bt
noncomputable def isInt:A4->Bool
 | .int _ | .bool _=>true|_=>false
noncomputable def cX(T c:String):Option Bool:=if(D3 T==D3 c)=true then some true else if PySem.W.kitMeta c=true then(fastBuiltinMro T).map (·.contains (.type c)) else none
end
section
end
section
end
end KC
namespace FL
variable {c:Bool}{a b i:Nat}{α β:Type}
theorem zz0  {a:α} {l:List α}:(a::l)[0]?=some a:=rfl
theorem zz1  {a:α} {l:List α} :(a::l)[i + 1]?=l[i]?:=rfl
open PySem
abbrev D:=A4
inductive R(α:Type) where
 | bad
 | err(c:String)(fs:List D)
 | ok(a:α)
noncomputable def R.bind{α β:Type}(r:R α)(k:α->R β):R β:=match r with
 | .bad=>.bad
 | .err c f=>.err c f
 | .ok a=>k a
theorem ah(a:α)(k:α->R β):(R.ok a).bind k=k a:=rfl
theorem i6(k:α->R β):(R.bad:R α).bind k=.bad:=rfl
theorem i7(c:String)(f:List D)(k:α->R β):(R.err c f:R α).bind k=.err c f:=rfl
noncomputable def aF{α:Type}(c:Bool)(r:R α):R α:=if c=true then r else .bad
theorem aW{r:R α}(h:c=true):aF c r=r:=if_pos h
inductive Sl where
 | no
 | val(d:D)
 | ow(p:Bool)(d:D)
 /-- a thing of an own class,which stays: its class,its fields -/
 | ob (c:String) (ds:List D)
abbrev En:=List Sl
inductive Fl where
 | nx|bk|ct
 | rt(d:D)
 | rf(d:D)
abbrev EF:=En->R (D×En)
abbrev TF:=En->R (Bool×En)
abbrev AF:=En->R (List D×En)
abbrev SF:=En->R (Fl×En)
abbrev GF:=D->En->R En
noncomputable def zdb:D->String
 | .none=>"NoneType" | .bool _=>"bool" | .int _=>"int" | .str _=>"str" | .list _=>"list" | .tuple _=>"tuple" | .dict _=>"dict"
def cL(T:String)(d:D):Bool:=match d with
 | .bool _=>T == "bool" || T == "int"
 | d=>zdb d==T
noncomputable def lim:Nat:=1000000
noncomputable def intsOf:List D->Option (List Int)
 | []=>some []
 | .int i::r=>(intsOf r).map (i::·)
 | _::_=>none
noncomputable def boolsOf:List D->Option (List Bool)
 | []=>some []
 | .bool i::r=>(boolsOf r).map (i::·)
 | _::_=>none
noncomputable def R.of{α:Type}:Option α->R α
 | none=>.bad
 | some a=>.ok a
noncomputable def leB(a b:Nat):Bool:=Nat.ble a b
theorem leB_iff:leB a b=true↔a<=b:=Iff.of_eq Nat.ble_eq
theorem ib(h:a<=b):leB a b=true:=leB_iff.mpr h
theorem fi(h:leB a b=true):a<=b:=leB_iff.mp h
def vt(i j:Int):Bool:=leB (i.natAbs.log2+j.natAbs.log2+2) 134217728
def aC:D->D->R D
 | .int i,.int j=>.ok (.int (i+j))
 | .list a,.list b=>aF (leB (a.length+b.length) lim) (.ok (.list (a++b)))
 | .tuple a,.tuple b=>aF (leB (a.length+b.length) lim) (.ok (.tuple (a++b)))
 | _,_=>.bad
noncomputable def cU:D->D->R D
 | .int i,.int j=>.ok (.int (i-j))
 | _,_=>.bad
def bq:D->D->R D
 | .int i,.int j=>aF (vt i j) (.ok (.int (i*j)))
 | .tuple a,.int k=>aF (!a.isEmpty&&leB 2 k.toNat&&leB k.toNat 1000000&&leB (a.length*k.toNat) lim) (.ok (.tuple (AB k.toNat a).flatten))
 | _,_=>.bad
def bN:D->D->R D
 | .int i,.int j=>aF (decide (j≠0)) (.ok (.int (i.fdiv j)))
 | _,_=>.bad
def eF:D->D->R D
 | .int i,.int j=>aF (decide (j≠0)) (.ok (.int (i.fmod j)))
 | _,_=>.bad
def fY:D->D->R D
 | .int i,.int j=>aF (decide (0<=j)&&leB j.toNat 1000000&&leB i.natAbs 18446744073709551615) (.ok (.int (i^j.toNat)))
 | _,_=>.bad
noncomputable def sd:D->R D
 | .int i=>.ok (.int (-i))
 | _=>.bad
def du(a b:D):R D:=aF (CJ a&&CJ b) (.ok (.bool (CK a b)))
def cg(a b:D):R D:=aF (CJ a&&CJ b) (.ok (.bool (!CK a b)))
def lexLt:List Int->List Int->Bool
 | [],[]=>false
 | [],_::_=>true
 | _::_,[]=>false
 | x::xs,y::ys=>if x=y then lexLt xs ys else decide (x<y)
def zeU(p:Int->Int->Bool)(q:List Int->List Int->Bool):D->D->R D
 | .int i,.int j=>.ok (.bool (p i j))
 | .tuple a,.tuple b=>(R.of (intsOf a)).bind fun x=>(R.of (intsOf b)).bind fun y=>.ok (.bool (q x y))
 | _,_=>.bad
def eX:D->D->R D:=zeU (fun i j=>decide (i<j)) lexLt
noncomputable def xT(p:Int->Int->Bool):D->D->R D
 | .int i,.int j=>.ok (.bool (p i j))
 | _,_=>.bad
def fg:D->D->R D:=xT fun i j=>decide (i<=j)
def gtD:D->D->R D:=xT fun i j=>decide (j<i)
def kO:D->D->R D:=xT fun i j=>decide (j<=i)
noncomputable def zmC:D->R D
 | .none=>.ok (.bool true)
 | _=>.ok (.bool false)
def hV(a b:D):R D:=match b with
 | .none=>zmC a
 | _=>.bad
noncomputable def dU(n:Nat)(i:Int):Option Nat:=if 0<=i then(if i<n then some i.toNat else none) else if -(n:Int)<=i then some (i+n).toNat else none
def cJ{α:Type}(xs:List α)(i:Int):Option α:=(dU xs.length i).bind fun j=>xs[j]?
def aq:D->D->R D
 | .list a,.int i=>R.of (cJ a i)
 | .tuple a,.int i=>R.of (cJ a i)
 | _,_=>.bad
noncomputable def aU(n d:Nat):Option Int->Nat
 | none=>d
 | some v=>if v<0 then(v+(n:Int)).toNat else min v.toNat n
def cut{α:Type}(xs:List α)(lo hi:Option Int):List α:=(xs.drop (aU xs.length 0 lo)).take (aU xs.length xs.length hi-aU xs.length 0 lo)
def fO(d:D)(lo hi:Option Int):R D:=match d with
 | .list a=>.ok (.list (cut a lo hi))
 | .tuple a=>.ok (.tuple (cut a lo hi))
 | _=>.bad
noncomputable def dB:D->R Bool
 | .none=>.ok false
 | .bool b=>.ok b
 | .int i=>.ok (i != 0)
 | .list a=>.ok (!a.isEmpty)
 | .tuple a=>.ok (!a.isEmpty)
 | _=>.bad
noncomputable def cH:D->R D
 | .list a=>.ok (.int a.length)
 | .tuple a=>.ok (.int a.length)
 | _=>.bad
noncomputable def kH:D->R D
 | .int i=>.ok (.int (if i<0 then -i else i))
 | _=>.bad
def nG:D->R D
 | .list a=>(R.of (boolsOf a)).bind fun x=>.ok (.bool (x.all id))
 | _=>.bad
noncomputable def fK:D->R D
 | .list a=>.ok (.list a)
 | .tuple a=>.ok (.list a)
 | _=>.bad
noncomputable def fq:D->R D
 | .list a=>.ok (.tuple a)
 | .tuple a=>.ok (.tuple a)
 | _=>.bad
noncomputable def zib(d:D):Bool:=match d with
 | .dict _=>false
 | _=>true
def hW(T:String)(d:D):R D:=aF (zib d) (.ok (.bool (cL T d)))
noncomputable def one(g:D->R D):List D->R D
 | [d]=>g d
 | _=>.bad
noncomputable def two(g:D->D->R D):List D->R D
 | [d,e]=>g d e
 | _=>.bad
noncomputable def gH:D->R (List D)
 | .list a=>.ok a
 | .tuple a=>.ok a
 | _=>.bad
noncomputable def de(lo hi:Int):List D:=(Bh (hi-lo).toNat).map fun(i:Nat)=>.int (lo+(i:Int))
def lT(i:Int):Bool:=leB i.natAbs 1000000000
def iu:List D->R (List D)
 | [.int j]=>aF (lT j&&leB j.toNat lim) (.ok (de 0 j))
 | _=>.bad
def ko:List D->R (List D)
 | [.int i,.int j]=>aF (lT i&&lT j&&leB (j-i).toNat lim) (.ok (de i j))
 | _=>.bad
noncomputable def eC(d:D):EF:=fun ρ=>.ok (d,ρ)
noncomputable def eV(i:Nat):EF:=fun ρ=>match ρ[i]? with
 | some (.val d)=>.ok (d,ρ)
 | _=>.bad
def e1(g:D->R D)(f:EF):EF:=fun ρ=>(f ρ).bind fun x=>(g x.1).bind fun d=>.ok (d,x.2)
def e2(g:D->D->R D)(f h:EF):EF:=fun ρ=>(f ρ).bind fun x=>(h x.2).bind fun y=>(g x.1 y.1).bind fun d=>.ok (d,y.2)
def d9(f h:EF):EF:=fun ρ=>(f ρ).bind fun x=>match x.1 with
 | .bool true=>h x.2
 | .bool false=>.ok (.bool false,x.2)
 | _=>.bad
def jf(f h:EF):EF:=fun ρ=>(f ρ).bind fun x=>match x.1 with
 | .bool true=>.ok (.bool true,x.2)
 | .bool false=>h x.2
 | _=>.bad
def gC(f:EF):EF:=fun ρ=>(f ρ).bind fun x=>match x.1 with
 | .bool b=>.ok (.bool (!b),x.2)
 | _=>.bad
def ee(t:TF)(f h:EF):EF:=fun ρ=>(t ρ).bind fun c=>if c.1=true then f c.2 else h c.2
def dF(g h:D->D->R D)(f1 f2 f3:EF):EF:=fun ρ=>(f1 ρ).bind fun x=>(f2 x.2).bind fun y=>(g x.1 y.1).bind fun c=>match c with
 | .bool true=>(f3 y.2).bind fun z=>(h y.1 z.1).bind fun d=>.ok (d,z.2)
 | .bool false=>.ok (.bool false,y.2)
 | _=>.bad
noncomputable def af:AF:=fun ρ=>.ok ([],ρ)
def aa(f:EF)(a:AF):AF:=fun ρ=>(f ρ).bind fun x=>(a x.2).bind fun y=>.ok (x.1::y.1,y.2)
def aP(a:AF):EF:=fun ρ=>(a ρ).bind fun x=>aF (leB x.1.length lim) (.ok (.tuple x.1,x.2))
def bQ(a:AF):EF:=fun ρ=>(a ρ).bind fun x=>aF (leB x.1.length lim) (.ok (.list x.1,x.2))
def au(G:List D->R D)(a:AF):EF:=fun ρ=>(a ρ).bind fun x=>(G x.1).bind fun d=>.ok (d,x.2)
abbrev OF:=En->R (Option Int×En)
noncomputable def dW:OF:=fun ρ=>.ok (none,ρ)
def dX(f:EF):OF:=fun ρ=>(f ρ).bind fun x=>match x.1 with
 | .int i=>.ok (some i,x.2)
 | _=>.bad
def eS(f:EF)(lo hi:OF):EF:=fun ρ=>(f ρ).bind fun x=>(lo x.2).bind fun l=>(hi l.2).bind fun u=>(fO x.1 l.1 u.1).bind fun d=>.ok (d,u.2)
noncomputable def aZ(ρ:En)(i:Nat):R D:=match ρ[i]? with
 | some (.ow _ d)=>.ok d
 | _=>.bad
noncomputable def bP(ρ:En)(i:Nat):R (List D):=match ρ[i]? with
 | some (.ow _ (.list a))=>.ok a
 | _=>.bad
def m1(g:D->R D)(i:Nat):EF:=fun ρ=>(aZ ρ i).bind fun c=>(g c).bind fun d=>.ok (d,ρ)
def m2(g:D->D->R D)(i:Nat)(h:EF):EF:=fun ρ=>(aZ ρ i).bind fun _=>(h ρ).bind fun y=>(aZ y.2 i).bind fun c=>(g c y.1).bind fun d=>.ok (d,y.2)
def fj(g:D->D->R D)(f:EF)(i:Nat):EF:=fun ρ=>(f ρ).bind fun x=>(aZ x.2 i).bind fun c=>(g x.1 c).bind fun d=>.ok (d,x.2)
def jo(g:D->D->R D)(i j:Nat):EF:=fun ρ=>(aZ ρ i).bind fun c=>(aZ ρ j).bind fun e=>(g c e).bind fun d=>.ok (d,ρ)
def js(i:Nat)(lo hi:OF):EF:=fun ρ=>(aZ ρ i).bind fun _=>(lo ρ).bind fun l=>(hi l.2).bind fun u=>(aZ u.2 i).bind fun c=>(fO c l.1 u.1).bind fun d=>.ok (d,u.2)
def jr(g:D->D->R D)(i:Nat)(h:EF):EF:=fun ρ=>(aZ ρ i).bind fun _=>(h ρ).bind fun y=>(aZ y.2 i).bind fun c=>(g (.list [c]) y.1).bind fun d=>.ok (d,y.2)
inductive Ar where
 | v(f:EF)
 | m(i:Nat)
 | t(f:EF)
inductive Itm where
 | vd(d:D)
 | mi(i:Nat)
 | td(d:D)
def dP:List Ar->En->R (List Itm×En)
 | [],ρ=>.ok ([],ρ)
 | .v f::r,ρ=>(f ρ).bind fun x=>(dP r x.2).bind fun y=>.ok (.vd x.1::y.1,y.2)
 | .m i::r,ρ=>(aZ ρ i).bind fun _=>(dP r ρ).bind fun y=>.ok (.mi i::y.1,y.2)
 | .t f::r,ρ=>(f ρ).bind fun x=>(dP r x.2).bind fun y=>.ok (.td x.1::y.1,y.2)
def dt(ρ:En):List Itm->R (List D)
 | []=>.ok []
 | .vd d::r=>(dt ρ r).bind fun ds=>.ok (d::ds)
 | .mi i::r=>(aZ ρ i).bind fun d=>(dt ρ r).bind fun ds=>.ok (d::ds)
 | .td d::r=>(dt ρ r).bind fun ds=>.ok (d::ds)
noncomputable def bW(ρ:En)(i:Nat)(d:D):En:=match ρ[i]? with
 | some (.ow p _)=>ρ.set i (.ow p d)
 | _=>ρ
noncomputable def dg:List Itm->List D->List (Nat×Sl)
 | .mi i::r,d::ds=>(i,.ow true d)::dg r ds
 | .vd _::r,_::ds=>dg r ds
 | .td _::r,_::ds=>dg r ds
 | _,_=>[]
noncomputable def cf(m:List (Nat×Sl))(i:Nat)(x:Sl):Sl:=match x,m.lookup i with
 | .ow p _,some (.ow _ d)=>.ow p d
 | x,_=>x
def bR(m:List (Nat×Sl)):Nat->En->En
 | _,[]=>[]
 | n,x::r=>cf m n x::bR m (n+1) r
def gB(ρ:En)(a:List Itm)(os:List D):En:=bR (dg a os) 0 ρ
def bA(F:List D->R (D×List D))(a:List Ar):EF:=fun ρ=>(dP a ρ).bind fun x=>(dt x.2 x.1).bind fun ds=>(F ds).bind fun y=>.ok (y.1,gB x.2 x.1 y.2)
def tE(f:EF):TF:=fun ρ=>(f ρ).bind fun x=>(dB x.1).bind fun b=>.ok (b,x.2)
def tB(f:EF):TF:=fun ρ=>(f ρ).bind fun x=>match x.1 with
 | .bool b=>.ok (b,x.2)
 | _=>.bad
def eJ(t u:TF):TF:=fun ρ=>(t ρ).bind fun c=>if c.1=true then u c.2 else .ok (false,c.2)
def bw(t u:TF):TF:=fun ρ=>(t ρ).bind fun c=>if c.1=true then .ok (true,c.2) else u c.2
def bu(t:TF):TF:=fun ρ=>(t ρ).bind fun c=>.ok (!c.1,c.2)
def tM(i:Nat):TF:=fun ρ=>(aZ ρ i).bind fun c=>(dB c).bind fun b=>.ok (b,ρ)
noncomputable def cV:TF:=fun ρ=>.ok (true,ρ)
abbrev IF:=En->R (List D×En)
def iE(f:EF):IF:=fun ρ=>(f ρ).bind fun x=>(gH x.1).bind fun l=>.ok (l,x.2)
def cQ(a:AF):IF:=fun ρ=>(a ρ).bind fun x=>(iu x.1).bind fun l=>.ok (l,x.2)
def gG(a:AF):IF:=fun ρ=>(a ρ).bind fun x=>(ko x.1).bind fun l=>.ok (l,x.2)
noncomputable def jg:Nat->List D->List D
 | _,[]=>[]
 | n,d::r=>.tuple [.int n,d]::jg (n+1) r
noncomputable def eO:List D->List D->List D
 | a::r,b::s=>.tuple [a,b]::eO r s
 | _,_=>[]
noncomputable def gN(i:Nat):GF:=fun d ρ=>match ρ[i]? with
 | some (.ow true _)=>.bad
 | some _=>.ok (ρ.set i (.val d))
 | none=>.bad
def eU:List GF->List D->En->R En
 | [],[],ρ=>.ok ρ
 | g::r,d::ds,ρ=>(g d ρ).bind fun ρ1=>eU r ds ρ1
 | _,_,_=>.bad
def gT(gs:List GF):GF:=fun d ρ=>match d with
 | .tuple ds=>eU gs ds ρ
 | _=>.bad
noncomputable def b6(k:Nat)(ix:List Nat)(ρ:En):En:=AB k .no++ix.map fun i=>(ρ[i]?).getD .no
def back(ρ:En)(ix:List Nat)(cs:En):En:=bR (ix.zip cs) 0 ρ
def gQ(k:Nat)(ix:List Nat)(g:GF)(t:TF)(f:EF):List D->En->List D->R (List D×En)
 | [],ρ,acc=>.ok (acc,ρ)
 | x::xs,ρ,acc=>(g x (b6 k ix ρ)).bind fun β=>(t β).bind fun c =>
   if c.1=true then(f c.2).bind fun y=>aF (leB (acc.length+1) lim) (gQ k ix g t f xs (back ρ ix (y.2.drop k)) (acc++[y.1]))
   else gQ k ix g t f xs (back ρ ix (c.2.drop k)) acc
def dJ(k:Nat)(ix:List Nat)(it:IF)(g:GF)(t:TF)(f:EF):EF:=fun ρ=>(it ρ).bind fun x=>(gQ k ix g t f x.1 x.2 []).bind fun y=>.ok (.list y.1,y.2)
noncomputable def aL:SF:=fun ρ=>.ok (.nx,ρ)
def av(s t:SF):SF:=fun ρ=>(s ρ).bind fun x=>match x.1 with
 | .nx=>t x.2
 | _=>.ok x
def sE(f:EF):SF:=fun ρ=>(f ρ).bind fun x=>.ok (.nx,x.2)
def ay(g:GF)(f:EF):SF:=fun ρ=>(f ρ).bind fun x=>(g x.1 x.2).bind fun ρ1=>.ok (.nx,ρ1)
def bH(i:Nat)(f:EF):SF:=fun ρ=>(f ρ).bind fun x=>match x.2[i]? with
 | some (.ow true _)=>.bad
 | some _=>.ok (.nx,x.2.set i (.ow false x.1))
 | none=>.bad
def eG(i:Nat)(s:SF):SF:=fun ρ=>(s ρ).bind fun x=>match x.1 with
 | .nx=>(match x.2[i]? with
  | some (.ow false d)=>.ok (.nx,x.2.set i (.val d))
  | _=>.bad)
 | _=>.ok x
def cu(i j:Nat)(f h:EF):SF:=fun ρ=>(f ρ).bind fun x=>(h x.2).bind fun y=>(gN i x.1 y.2).bind fun ρ1=>(gN j y.1 ρ1).bind fun ρ2=>.ok (.nx,ρ2)
def fE(f n:EF):EF:=fun ρ=>(f ρ).bind fun x=>(n x.2).bind fun y=>match y.1 with
 | .int k=>aF (decide (0<=k)&&leB k.toNat 1000000) (.ok (.list (AB k.toNat x.1),y.2))
 | _=>.bad
noncomputable def dN(i:Nat)(s:SF):SF:=fun ρ=>match ρ[i]? with
 | some (.ow false d)=>s (ρ.set i (.val d))
 | _=>.bad
def ax(f:EF):SF:=fun ρ=>(f ρ).bind fun x=>.ok (.rt x.1,x.2)
def cT(f:EF):SF:=fun ρ=>(f ρ).bind fun x=>.ok (.rf x.1,x.2)
noncomputable def f9(i:Nat):SF:=fun ρ=>match ρ[i]? with
 | some (.ow false d)=>.ok (.rf d,ρ)
 | _=>.bad
noncomputable def jC:SF:=fun ρ=>.ok (.rt .none,ρ)
def aG(t:TF)(a b:SF):SF:=fun ρ=>(t ρ).bind fun c=>if c.1=true then a c.2 else b c.2
noncomputable def dA:SF:=fun _=>.bad
noncomputable def jA:SF:=fun ρ=>.ok (.bk,ρ)
noncomputable def jB:SF:=fun ρ=>.ok (.ct,ρ)
def forL(g:GF)(b:SF):List D->En->R (Fl×En)
 | [],ρ=>.ok (.nx,ρ)
 | x::xs,ρ=>(g x ρ).bind fun ρ1=>(b ρ1).bind fun y=>match y.1 with
  | .nx | .ct=>forL g b xs y.2
  | .bk=>.ok (.nx,y.2)
  | .rt d=>.ok (.rt d,y.2)
  | .rf d=>.ok (.rf d,y.2)
def bM(it:IF)(g:GF)(b:SF):SF:=fun ρ=>(it ρ).bind fun x=>forL g b x.1 x.2
def qI(t:TF)(b:SF):Nat->En->R (Fl×En)
 | 0,_=>.bad
 | n+1,ρ=>(t ρ).bind fun c=>if c.1=true then(b c.2).bind fun y=>match y.1 with
   | .nx | .ct=>qI t b n y.2
   | .bk=>.ok (.nx,y.2)
   | .rt d=>.ok (.rt d,y.2)
   | .rf d=>.ok (.rf d,y.2)
  else .ok (.nx,c.2)
def qx(fuel:En->Nat)(t:TF)(b:SF):SF:=fun ρ=>qI t b (fuel ρ) ρ
def gh(i:Nat)(u:List D->D->R (List D))(f:EF):SF:=fun ρ=>(bP ρ i).bind fun _=>(f ρ).bind fun x=>(bP x.2 i).bind fun c=>(u c x.1).bind fun c'=>.ok (.nx,bW x.2 i (.list c'))
def fI(a:List D)(d:D):R (List D):=aF (leB (a.length+1) lim) (.ok (a++[d]))
def jD(i:Nat)(u:List D->R (List D)):SF:=fun ρ=>(bP ρ i).bind fun c=>(u c).bind fun c'=>.ok (.nx,bW ρ i (.list c'))
def setM(i:Nat)(f k:EF):SF:=fun ρ=>(f ρ).bind fun x=>(bP x.2 i).bind fun _=>(k x.2).bind fun y=>(bP y.2 i).bind fun c=>match y.1 with
 | .int j=>(R.of (dU c.length j)).bind fun n=>.ok (.nx,bW y.2 i (.list (c.set n x.1)))
 | _=>.bad
noncomputable def slots:List Bool->List D->En
 | m::ms,d::ds=>(if m=true then .ow true d else .val d)::slots ms ds
 | _,_=>[]
noncomputable def outD(m:Bool)(d:D)(x:Option Sl):D:=match m,x with
 | true,some (.ow _ d')=>d'
 | _,_=>d
def outs:List Bool->List D->En->List D
 | m::ms,d::ds,ρ=>outD m d ρ.head?::outs ms ds ρ.tail
 | _,_,_=>[]
def run(ms:List Bool)(fr:Bool)(n:Nat)(b:SF)(ds:List D):R (D×List D) :=
 if ds.length=ms.length then(b (slots ms ds++AB (n-ds.length) .no)).bind fun x=>match x.1,fr with
  | .rt d,false=>.ok (d,outs ms ds x.2)
  | .rf d,true=>.ok (d,outs ms ds x.2)
  | .nx,false=>.ok (.none,outs ms ds x.2)
  | _,_=>.bad
 else .bad
def aN(fr:Bool)(k n:Nat)(b:SF)(ds:List D):R D:=(run (AB k false) fr n b ds).bind fun x=>.ok x.1
end FL
namespace FL
open PySem L2 PySem.Spec
open PyProof.Rows hiding St
variable {P:List dm->Prop}{d:A4}{pos:Az}{a:ir}{v:V}{env:Bb}{H H' H1:Hp}{i:Nat}{σ:St}{xs:List V}{es:List Aq}{ρ:En}{o:HO}
section
theorem uI(h:∀ a,P [a]):∀ us:List dm,us.length=1->P us
 | [a],_=>h a
theorem uJ(h:∀ a b,P [a,b]):∀ us:List dm,us.length=2->P us
 | [a,b],_=>h a b
theorem uK(h:∀ a b c,P [a,b,c]):∀ us:List dm,us.length=3->P us
 | [a,b,c],_=>h a b c
theorem yc(h:∀ a b c d,P [a,b,c,d]):∀ us:List dm,us.length=4->P us
 | [a,b,c,d],_=>h a b c d
class Cs where
 C:Hp
 st:∀ a u,C a=some u->∃ o xs,u=.frz o (.tup xs)
 /-- the own classes: where each stands,its fields' names -/
 O:String->Option (ir×List gV):=fun _=>none
def kB(K:ox)(H:Hp)(a:ir)(xs:List V):Prop:=(∃ o,H a=some (.frz o (.lst xs))) \/
 ∃(o:AA) (its:Array dm) (n:Nat),K.lookup a=some o/\o.cls=.type "list"/\o.dict=none/\o.data=.seq its n/\its.size<=AK/\Vals xs its.toList
noncomputable def kD:Key->A4
 | .inl i=>.int i
 | .inr x=>.str x
def lN(k:List Key):A4:=.tuple (k.map kD)
mutual
def Fz(K:ox)(H:Hp):A4->V->Prop
 | .none,v=>v=.non
 | .bool b,v=>v=.bl b
 | .int i,v=>v=.int i
 | .str x,v=>v=.str x
 | .list xs,v=>∃ a vs,v=.ref a/\kB K H a vs/\aj K H xs vs
 | .tuple xs,v=>∃ a vs,v=.ref a/\dH H a vs/\aj K H xs vs
 | .dict ag,v=>∃ a o,v=.ref a/\∃ kk,H a=some (.frz o (.dT kk))/\bx K H ag kk
def aj(K:ox)(H:Hp):List A4->List V->Prop
 | [],vs=>vs=[]
 | d::ds,vs=>∃ v r,vs=v::r/\Fz K H d v/\aj K H ds r
def bx(K:ox)(H:Hp):List (A4×A4)->List (List Key×V)->Prop
 | [],kk=>kk=[]
 | (k,d)::r,kk=>∃ q v t,kk=(q,v)::t/\k=lN q/\Fz K H d v/\bx K H r t
end
noncomputable def wW:HO->Prop
 | .tup _=>True
 | .frz _ _=>True
 | .ins _ _ _=>True
 | _=>False
def aH(H H':Hp):Prop:=∀ a o,H a=some o->wW o->H' a=some o
theorem aH.refl(H:Hp):aH H H:=fun _ _ h _=>h
theorem aH.trans{H2:Hp}(a:aH H H1)(b:aH H1 H2):aH H H2:=fun c o h s=>b c o (a c o h s) s
theorem aH.of(s:aB H H'):aH H H':=fun a o h _=>s a o h
section
variable {K:ox}
theorem aH.qy(e:aH H H')(h:dH H a xs):dH H' a xs:=by
 rcases h with h|⟨o,h⟩
 ·exact .inl (e _ _ h trivial)
 ·exact .inr ⟨o,e _ _ h trivial⟩
theorem aH.gf(e:aH H H')(h:kB K H a xs):kB K H' a xs:=by
 rcases h with⟨o,h⟩|h
 ·exact .inl ⟨o,e _ _ h trivial⟩
 ·exact .inr h
theorem kB.sq(h:kB K H a xs):bB K H a xs:=by
 rcases h with⟨o,h⟩|h
 ·exact .inl (.inr ⟨o,h⟩)
 ·exact .inr h
mutual
theorem Fz.mono(e:aH H H'):∀(d:A4) (v:V),Fz K H d v->Fz K H' d v
 | .none,v,h=>by simp only [Fz] at h ⊢;exact h
 | .bool b,v,h=>by simp only [Fz] at h ⊢;exact h
 | .int i,v,h=>by simp only [Fz] at h ⊢;exact h
 | .str x,v,h=>by simp only [Fz] at h ⊢;exact h
 | .list xs,v,h=>by
  simp only [Fz] at h ⊢
  obtain⟨a,vs,e1,h1,h2⟩:=h
  exact⟨a,vs,e1,e.gf h1,aj.mono e xs vs h2⟩
 | .tuple xs,v,h=>by
  simp only [Fz] at h ⊢
  obtain⟨a,vs,e1,h1,h2⟩:=h
  exact⟨a,vs,e1,e.qy h1,aj.mono e xs vs h2⟩
 | .dict ag,v,h=>by
  simp only [Fz] at h ⊢
  obtain⟨a,o,e1,h⟩:=h
  obtain⟨kk,h1,h2⟩:=h
  exact⟨a,o,e1,⟨kk,e _ _ h1 trivial,bx.mono e ag kk h2⟩⟩
theorem aj.mono(e:aH H H'):∀(ds:List A4) (vs:List V),aj K H ds vs->aj K H' ds vs
 | [],vs,h=>by simp only [aj] at h ⊢;exact h
 | d::ds,vs,h=>by
  simp only [aj] at h ⊢
  obtain⟨v,r,e1,h1,h2⟩:=h
  exact⟨v,r,e1,Fz.mono e d v h1,aj.mono e ds r h2⟩
theorem bx.mono(e:aH H H'):∀(ag:List (A4×A4)) (kk:List (List Key×V)),bx K H ag kk->bx K H' ag kk
 | [],kk,h=>by simp only [bx] at h ⊢;exact h
 | (k,d)::r,kk,h=>by
  simp only [bx] at h ⊢
  obtain⟨q,v,t,e1,e2,h1,h2⟩:=h
  exact⟨q,v,t,e1,e2,Fz.mono e d v h1,bx.mono e r t h2⟩
end
theorem aj.len:∀{ds:List A4} {vs:List V},aj K H ds vs->vs.length=ds.length
 | [],vs,h=>by simp only [aj] at h;subst h;rfl
 | d::ds,vs,h=>by
  simp only [aj] at h
  obtain⟨v,r,rfl,_,h2⟩:=h
  simp [aj.len h2]
theorem aj.get:∀{ds:List A4} {vs:List V} {i:Nat} {d:A4},aj K H ds vs->ds[i]?=some d->∃ v,vs[i]?=some v/\Fz K H d v
 | [],vs,i,d,h,e=>by simp at e
 | d0::ds,vs,i,d,h,e=>by
  simp only [aj] at h
  obtain⟨v,r,rfl,h1,h2⟩:=h
  cases i with
  | zero=>simp at e;subst e;exact⟨v,by simp,h1⟩
  | succ i =>
   obtain⟨w,e1,f⟩:=aj.get h2 (by simpa using e)
   exact⟨w,by simpa using e1,f⟩
theorem aj.app:∀{ds es:List A4} {vs ws:List V},aj K H ds vs->aj K H es ws->aj K H (ds++es) (vs++ws)
 | [],es,vs,ws,h,g=>by simp only [aj] at h;subst h;exact g
 | d::ds,es,vs,ws,h,g=>by
  simp only [aj] at h
  obtain⟨v,r,rfl,h1,h2⟩:=h
  simp only [Bm,aj]
  exact⟨v,r++ws,rfl,h1,aj.app h2 g⟩
theorem aj.take:∀{ds:List A4} {vs:List V} (n:Nat),aj K H ds vs->aj K H (ds.take n) (vs.take n)
 | ds,vs,0,h=>by simp [aj]
 | [],vs,n+1,h=>by simp only [aj] at h;subst h;simp [aj]
 | d::ds,vs,n+1,h=>by
  simp only [aj] at h
  obtain⟨v,r,rfl,h1,h2⟩:=h
  simp only [List.take_succ_cons,aj]
  exact⟨v,_,rfl,h1,aj.take n h2⟩
theorem aj.drop:∀{ds:List A4} {vs:List V} (n:Nat),aj K H ds vs->aj K H (ds.drop n) (vs.drop n)
 | ds,vs,0,h=>by simpa using h
 | [],vs,n+1,h=>by simp only [aj] at h;subst h;simp [aj]
 | d::ds,vs,n+1,h=>by
  simp only [aj] at h
  obtain⟨v,r,rfl,h1,h2⟩:=h
  simpa using aj.drop n h2
theorem aj.set:∀{ds:List A4} {vs:List V} {d:A4} {v:V} (n:Nat),aj K H ds vs->Fz K H d v->aj K H (ds.set n d) (vs.set n v)
 | [],vs,d,v,n,h,f=>by simp only [aj] at h;subst h;simp [aj]
 | d0::ds,vs,d,v,n,h,f=>by
  simp only [aj] at h
  obtain⟨v0,r,rfl,h1,h2⟩:=h
  cases n with
  | zero=>simp only [Bp,aj];exact⟨v,r,rfl,f,h2⟩
  | succ n=>simp only [Bq,aj];exact⟨v0,_,rfl,h1,aj.set n h2 f⟩
theorem aj.rep{ds:List A4}{vs:List V}(h:aj K H ds vs):∀ k:Nat,aj K H (AB k ds).flatten (AB k vs).flatten
 | 0=>by simp [aj]
 | k+1=>by simp only [DF,E8];exact aj.app h (aj.rep h k)
theorem aj.ints:∀{ds:List A4} {vs:List V} {ns:List Int},aj K H ds vs->intsOf ds=some ns->vs=ns.map V.int/\ds=ns.map A8
 | [],vs,ns,h,e=>by simp only [aj] at h;simp only [intsOf,B7] at e;subst h;subst e;exact⟨rfl,rfl⟩
 | d::ds,vs,ns,h,e=>by
  simp only [aj] at h
  obtain⟨v,r,rfl,h1,h2⟩:=h
  cases d with
  | int i =>
   simp only [intsOf,C8] at e
   obtain⟨ms,e1,rfl⟩:=e
   obtain⟨a,b⟩:=aj.ints h2 e1
   simp only [Fz] at h1
   subst h1;subst a;subst b
   exact⟨rfl,rfl⟩
  | _=>simp [intsOf] at e
theorem aj.bools:∀{ds:List A4} {vs:List V} {ns:List Bool},aj K H ds vs->boolsOf ds=some ns->vs=ns.map V.bl/\ds=ns.map BE
 | [],vs,ns,h,e=>by simp only [aj] at h;simp only [boolsOf,B7] at e;subst h;subst e;exact⟨rfl,rfl⟩
 | d::ds,vs,ns,h,e=>by
  simp only [aj] at h
  obtain⟨v,r,rfl,h1,h2⟩:=h
  cases d with
  | bool i =>
   simp only [boolsOf,C8] at e
   obtain⟨ms,e1,rfl⟩:=e
   obtain⟨a,b⟩:=aj.bools h2 e1
   simp only [Fz] at h1
   subst h1;subst a;subst b
   exact⟨rfl,rfl⟩
  | _=>simp [boolsOf] at e
theorem aj.ofInts:∀(ns:List Int),aj K H (ns.map A8) (ns.map V.int)
 | []=>by simp [aj]
 | i::r=>by simp only [AQ,aj];exact⟨_,_,rfl,by simp [Fz],aj.ofInts r⟩
end
def dn(K:ox)(H:Hp)(a:ir):A4->Prop
 | .list ds=>∃ vs,H a=some (.lst vs)/\aj K H ds vs
 | .dict ag=>∃ kk,H a=some (.dT kk)/\bx K H ag kk
 | _=>False
def Tp(K:ox)(H:Hp):A4->V->Prop
 | .list ds,v=>∃ a vs,v=.ref a/\bB K H a vs/\aj K H ds vs
 | .dict ag,v=>∃ a,v=.ref a/\∃ kk,Rd H a (.dT kk)/\bx K H ag kk
 | d,v=>Fz K H d v
section
variable {K:ox}
theorem Fz.tp(h:Fz K H d v):Tp K H d v:=by
 cases d with
 | list ds =>
  simp only [Fz] at h
  obtain⟨a,vs,e,h1,h2⟩:=h
  exact⟨a,vs,e,h1.sq,h2⟩
 | dict ag =>
  simp only [Fz] at h
  obtain⟨a,o,e,h⟩:=h
  obtain⟨kk,h1,h2⟩:=h
  exact⟨a,e,⟨kk,.inr ⟨o,h1⟩,h2⟩⟩
 | _=>exact h
theorem dn.tp(h:dn K H a d):Tp K H d (.ref a):=by
 cases d with
 | list ds =>
  obtain⟨vs,h1,h2⟩:=h
  exact⟨a,vs,rfl,bB.of h1,h2⟩
 | dict ag =>
  obtain⟨kk,h1,h2⟩:=h
  exact⟨a,rfl,⟨kk,.inl h1,h2⟩⟩
 | _=>exact h.elim
noncomputable def Own:HO->Prop
 | .lst _=>True
 | .dT _=>True
 | .dK _=>True
 | _=>False
theorem dn.own(h:dn K H a d):∃ o,H a=some o/\Own o:=by
 cases d with
 | list ds=>obtain⟨vs,h1,_⟩:=h;exact⟨_,h1,trivial⟩
 | dict ag =>
  obtain⟨kk,h1,h2⟩:=h
  exact⟨_,h1,trivial⟩
 | _=>exact h.elim
theorem Own.jS(h:Own o):¬ wW o:=by cases o <;> first|exact fun z=>z|exact h.elim
theorem dn.mono{d:A4}{a:ir}(e:aH H H')(k:H' a=H a)(h:dn K H a d):dn K H' a d:=by
 cases d with
 | list ds=>obtain⟨vs,h1,h2⟩:=h;exact⟨vs,by rw [k];exact h1,h2.mono e⟩
 | dict ag =>
  obtain⟨kk,h1,h2⟩:=h
  exact⟨kk,by rw [k];exact h1,h2.mono e⟩
 | _=>exact h.elim
end
def lF[Cs](K:ox)(H:Hp)(a:ir)(c:String)(ds:List D):Prop:=∃ C ns dx vs,Cs.O c=some (C,ns)/\H a=some (.ins C dx (ns.zip vs))/\vs.length=ns.length/\aj K H ds vs
def lG[Cs](K:ox)(H:Hp):Sl->Option V->Prop
 | .no,_=>True
 | .val d,some v=>Fz K H d v
 | .ow _ d,some (.ref a)=>dn K H a d
 | .ob c ds,some (.ref a)=>lF K H a c ds
 | _,_=>False
def At(ρ:En)(σ:St)(i:Nat)(a:ir):Prop:=(∃ p d,ρ[i]?=some (.ow p d))/\σ[i]?=some (some (.ref a))
def kA[Cs](H:Hp):Prop:=∀ a u,Cs.C a=some u->H a=some u
theorem kA.mono[Cs](h:kA H)(e:aH H H'):kA H':=fun a u q=>e a u (h a u q) (by
 obtain⟨o,xs,rfl⟩:=Cs.st a u q
 trivial)
structure Rel[Cs](K:ox)(ρ:En)(σ:St)(H:Hp):Prop where
 len:ρ.length=σ.length
 ok:∀(i:Nat) x v,ρ[i]?=some x->σ[i]?=some v->lG K H x v
 sep:∀ i j a,At ρ σ i a->At ρ σ j a->i=j
 cst:kA H
variable [Cs]
def MA(ρ:En)(σ:St)(a:ir):Prop:=∃ i,At ρ σ i a
structure cO(ρ ρ':En)(σ:St)(H H':Hp):Prop where
 md:∀(i:Nat) p,(∃ d,ρ[i]?=some (.ow p d))↔∃ d,ρ'[i]?=some (.ow p d)
 kp:∀ a o,H a=some o->¬ MA ρ σ a->H' a=some o
section
variable {K:ox}{ρ' ρ'':En}{iF:Hp}
theorem Rel.zjC(r:Rel K ρ σ H)(h:At ρ σ i a):∃ p d,ρ[i]?=some (.ow p d)/\dn K H a d:=by
 obtain⟨⟨p,d,e⟩,e2⟩:=h
 exact⟨p,d,e,r.ok i _ _ e e2⟩
theorem Rel.eY(r:Rel K ρ σ H)(h:MA ρ σ a):∃ o,H a=some o/\Own o:=by
 obtain⟨i,h⟩:=h
 obtain⟨p,d,_,m⟩:=r.zjC h
 exact m.own
theorem cO.refl:cO ρ ρ σ H H:=⟨fun _ _=>Fj,fun _ _ h _=>h⟩
theorem cO.ma(s:cO ρ ρ' σ H H'):MA ρ σ a↔MA ρ' σ a:=by
 constructor
 ·rintro⟨i,⟨p,h⟩,e⟩;exact⟨i,⟨p,(s.md i p).mp h⟩,e⟩
 ·rintro⟨i,⟨p,h⟩,e⟩;exact⟨i,⟨p,(s.md i p).mpr h⟩,e⟩
theorem cO.trans(a:cO ρ ρ' σ H H')(b:cO ρ' ρ'' σ H' iF):cO ρ ρ'' σ H iF :=
 ⟨fun i p=>(a.md i p).trans (b.md i p),fun c o h n=>b.kp c o (a.kp c o h n) fun z=>n (a.ma.mpr z)⟩
theorem cO.of(s:aB H H'):cO ρ ρ σ H H':=⟨fun _ _=>Fj,fun a o h _=>s a o h⟩
theorem cO.dM(s:cO ρ ρ' σ H H')(r:Rel K ρ σ H):aH H H':=fun a o h st=>s.kp a o h fun m=>by
 obtain⟨o',e,w⟩:=r.eY m
 rw [h] at e
 cases e
 exact w.jS st
theorem lF.mono{a:ir}{c:String}{ds:List D}(f:aH H H')(h:lF K H a c ds):lF K H' a c ds:=by
 obtain⟨C,ns,dx,vs,h1,h2,h3,h4⟩:=h
 exact⟨C,ns,dx,vs,h1,f _ _ h2 trivial,h3,h4.mono f⟩
theorem lG.mono{x:Sl}{v:Option V}(f:aH H H')(k:∀ a,v=some (.ref a)->(∃ p d,x=.ow p d)->H' a=H a)(h:lG K H x v):lG K H' x v:=by
 cases x with
 | no=>trivial
 | val d=>cases v with
  | none=>exact h.elim
  | some v=>exact Fz.mono f d v h
 | ow p d=>cases v with
  | none=>exact h.elim
  | some v=>cases v with
   | ref a=>exact dn.mono f (k a rfl ⟨p,d,rfl⟩) h
   | _=>exact h.elim
 | ob c ds=>cases v with
  | none=>exact h.elim
  | some v=>cases v with
   | ref a=>exact lF.mono f h
   | _=>exact h.elim
theorem Rel.same(r:Rel K ρ σ H)(s:aB H H'):Rel K ρ σ H':=by
 refine⟨r.len,fun i x v e1 e2=>(r.ok i x v e1 e2).mono (aH.of s) fun a e3 ⟨p,d,e4⟩=>?_,r.sep,r.cst.mono (aH.of s)⟩
 subst e3;subst e4
 obtain⟨o,e,_⟩:=r.eY ⟨i,⟨p,d,e1⟩,e2⟩
 rw [e,s a o e]
theorem Rel.put(r:Rel K ρ σ H)(n:¬ MA ρ σ a)(ns:∀ u,H a=some u->¬ wW u):Rel K ρ σ (upd H a o):=by
 have f:aH H (upd H a o):=fun b u e st=>by
  rw [bh fun z=>by subst z;exact ns u e st]
  exact e
 refine⟨r.len,fun i x v e1 e2=>(r.ok i x v e1 e2).mono f fun b e3 ⟨p,d,e4⟩=>?_,r.sep,r.cst.mono f⟩
 subst e3;subst e4
 exact bh fun z=>n ⟨i,⟨p,d,e1⟩,z▸e2⟩
end
noncomputable def yU:Aq->Bool
 | .Starred _ _=>false
 | _=>true
theorem se{a:Aq}(h:yU a=true):Au (a::es) env=(false,Ay a env)::Au es env:=by
 cases a <;> first|rfl|cases h
theorem sp(h:es.all yU=true):(A0 pos (Au es env)).any (·.1)=false:=by
 induction es with
 | nil=>rfl
 | cons a es ih =>
  rw [List.all_cons,BJ] at h
  rw [se h.1]
  exact ih h.2
end
variable {P:AO}{g g':D->D->R D}{ρ1:En}{fa:AF}{d:D}{t':TT}{f h:EF}{Q:VK}{iO op:CZ}{s:kb}{c:Bool}{G:List D->R D}{i:Int}{p p2:Az}{σ:L2.St}{b e:Aq}{te:TE}{pins:List (ir×AA)}{X:Cx}{t:TF}{x:gV}{w:dm}{u:HO}{r:List V->Hp->VK->Prop}{β:Type}{S:Bool->Hp->Prop}
section
variable [Cs]
section
theorem zbv{o:AA}(I:Inv X pins σ H s)(hd:H a=some u)(ow:Own u)(ho:s.heap.get? a=some o):Inv X pins σ (upd H a (.frz o u)) s:=by
 have ne:∀ b w,H b=some w->¬ Own w->b≠a:=fun b w e n z=>by
  subst z
  rw [e] at hd
  cases hd
  exact n ow
 refine Inv.step (s:=s) (h':=s.heap) (H':=upd H a (.frz o u)) (g':=s.gens) (t':=s.toks) (d':=s.drawn) (ch:=[]) I (fun _ z=>nomatch z) (fun b o _ _ _ e _=>e) (fun b o _ _ _ e _=>⟨o.slots,e⟩) (fun b _ _ _ n=>?_) (fun b o _ e=>⟨o,e⟩)
  (fun b xs e=>?_) (fun b o u e=>?_) (fun b ps e=>⟨#[],?_⟩) (fun m hm=>hm) (fun b w e=>?_) I.bare
 ·rw [bh fun z=>by subst z;rw [n] at hd;cases hd];exact n
 ·rw [bh (ne b _ e fun z=>z)];exact e
 ·rw [bh (ne b _ e fun z=>z)];exact e
 ·rw [bh (ne b _ e fun z=>z),e];simp
 ·have st:∀(b:ir) (w:HO),dq X.prog X.w H s.heap b w->dq X.prog X.w (upd H a (.frz o u)) s.heap b w:=fun b w k =>
   k.lX (fun _ _ _ q=>q) (fun b' q=>by rw [bh (ne b' _ q fun z=>z)];exact q) (fun b' xs q=>q.upd (fun _ r=>ne b' _ r fun z=>z) fun _ _ r=>ne b' _ r fun z=>z)
  by_cases c:b=a
  ·subst c
   rw [cN] at e
   cases e
   exact⟨ho,st b u (I.az b u hd)⟩
  ·rw [bh c] at e
   exact st b w (I.az b w e)
theorem zfi(h:EP X pins σ (fun v H1=>∃ a u,v=.ref a/\H1 a=some u/\Own u/\∀ o,Q v (upd H1 a (.frz o u))) w s):EP X pins σ Q w s:=by
 obtain⟨v,H1,I,r,a,u,e,e1,ow,q⟩:=h
 obtain⟨o,ho⟩:=(I.az a u e1).some
 exact⟨v,_,zbv I e1 ow ho,r,q o⟩
def tFz(t:TE):TE:=fun σ H Q=>t σ H fun v H1=>∃ a u,v=.ref a/\H1 a=some u/\Own u/\∀ o,Q v (upd H1 a (.frz o u))
theorem zpE{t:TE}(h:PE X e t):PE X e (tFz t):=fun pins s σ H Q I q=>aI (h pins s σ H _ I q) fun _ _ z=>zfi z
end
def Good{β:Type}(K:ox)(ρ:En)(σ:L2.St)(H:Hp)(r:R (β×En))(P:β->En->Hp->Prop):Prop:=match r with
 | .ok x=>∀ H',Rel K x.2 σ H'->cO ρ x.2 σ H H'->P x.1 x.2 H'
 | _=>False
noncomputable def tV(K:ox)(f:EF):TE:=fun σ H Q=>∃ ρ,Rel K ρ σ H/\Good K ρ σ H (f ρ) fun d _ H'=>∀ v,Fz K H' d v->Q v H'
noncomputable def tT(K:ox)(f:TF):TT:=fun σ H Q=>∃ ρ,Rel K ρ σ H/\Good K ρ σ H (f ρ) fun b _ H'=>Q b H'
noncomputable def tA(K:ox)(f:AF):TA:=fun σ H Q=>∃ ρ,Rel K ρ σ H/\Good K ρ σ H (f ρ) fun ds _ H'=>∀ vs,aj K H' ds vs->Q vs H'
noncomputable def tO(K:ox)(f:OF):TO:=fun σ H Q=>∃ ρ,Rel K ρ σ H/\Good K ρ σ H (f ρ) fun o _ H'=>Q o H'
def tN(K:ox)(f:EF):TE:=fun σ H Q=>∃ ρ,Rel K ρ σ H/\Good K ρ σ H (f ρ) fun d ρ' H'=>∀ a,H a=none->dn K H' a d->Q (.ref a) H'
structure PV(K:ox)(X:Cx)(e:Aq)(f:EF):Prop where
 run:X.K=K->PE X e (tV K f)
instance {K:ox} {X:Cx} {e:Aq} {f:EF}:CoeFun (PV K X e f) fun _=>X.K=K->PE X e (tV K f):=⟨PV.run⟩
structure fA(K:ox)(X:Cx)(e:Aq)(f:TF):Prop where
 run:X.K=K->PT X e (tT K f)
instance {K:ox} {X:Cx} {e:Aq} {f:TF}:CoeFun (fA K X e f) fun _=>X.K=K->PT X e (tT K f):=⟨fA.run⟩
structure dD(K:ox)(X:Cx)(e:Aq)(f:TF):Prop where
 run:X.K=K->PW X e (tT K f)
instance {K:ox} {X:Cx} {e:Aq} {f:TF}:CoeFun (dD K X e f) fun _=>X.K=K->PW X e (tT K f):=⟨dD.run⟩
structure dG(K:ox)(X:Cx)(es:List Aq)(f:AF):Prop where
 run:X.K=K->PA X es (tA K f)
instance {K:ox} {X:Cx} {es:List Aq} {f:AF}:CoeFun (dG K X es f) fun _=>X.K=K->PA X es (tA K f):=⟨dG.run⟩
structure nE(K:ox)(X:Cx)(e:Option Aq)(f:OF):Prop where
 run:X.K=K->PO X e (tO K f)
instance {K:ox} {X:Cx} {e:Option Aq} {f:OF}:CoeFun (nE K X e f) fun _=>X.K=K->PO X e (tO K f):=⟨nE.run⟩
structure bY(K:ox)(X:Cx)(e:Aq)(f:EF):Prop where
 run:X.K=K->PE X e (tN K f)
instance {K:ox} {X:Cx} {e:Aq} {f:EF}:CoeFun (bY K X e f) fun _=>X.K=K->PE X e (tN K f):=⟨bY.run⟩
theorem _root_.L2.PE.weak{t t':TE}(h:PE X e t)(w:∀ σ H Q,t' σ H Q->t σ H Q):PE X e t':=fun pins s σ H Q I q=>h pins s σ H Q I (w σ H Q q)
theorem _root_.L2.PT.weak{t:TT}(h:PT X e t)(w:∀ σ H Q,t' σ H Q->t σ H Q):PT X e t':=fun pins s σ H Q I q=>h pins s σ H Q I (w σ H Q q)
theorem _root_.L2.PW.weak{t:TT}(h:PW X e t)(w:∀ σ H Q,t' σ H Q->t σ H Q):PW X e t':=fun wh pins s σ H Q I q=>h wh pins s σ H Q I (w σ H Q q)
theorem _root_.L2.PA.weak{e:List Aq}{t t':TA}(h:PA X e t)(w:∀ σ H Q,t' σ H Q->t σ H Q):PA X e t':=fun pos pins s σ H Q I q=>h pos pins s σ H Q I (w σ H Q q)
theorem _root_.L2.PO.weak{e:Option Aq}{t t':TO}(h:PO X e t)(w:∀ σ H Q,t' σ H Q->t σ H Q):PO X e t':=fun pins s σ H Q I q=>h pins s σ H Q I (w σ H Q q)
section
variable {K:ox}{γ:Type}
theorem Good.step{r:R (β×En)}{P:β->En->Hp->Prop}(st:cO ρ ρ1 σ H H1)(g:Good K ρ σ H r P):Good K ρ1 σ H1 r P:=by
 cases r with
 | ok x=>exact fun H' rel s=>g H' rel (st.trans s)
 | _=>exact g
theorem Good.bJ{r:R (β×En)}{k:β×En->R (γ×En)}{P:γ->En->Hp->Prop}(g:Good K ρ σ H (r.bind k) P):∃ x,r=.ok x/\Good K ρ σ H (k x) P:=by
 cases r with
 | ok x=>exact⟨x,rfl,g⟩
 | _=>exact g.elim
theorem Good.bV{r:R β}{k:β->R (γ×En)}{P:γ->En->Hp->Prop}(g:Good K ρ σ H (r.bind k) P):∃ x,r=.ok x/\Good K ρ σ H (k x) P:=by
 cases r with
 | ok x=>exact⟨x,rfl,g⟩
 | _=>exact g.elim
theorem Good.aF{r:R (γ×En)}{P:γ->En->Hp->Prop}(g:Good K ρ σ H (aF c r) P):c=true/\Good K ρ σ H r P:=by
 cases c with
 | true=>exact⟨rfl,g⟩
 | false=>exact g.elim
theorem Good.now{x:β}{P:β->En->Hp->Prop}(g:Good K ρ σ H (.ok (x,ρ)) P)(rel:Rel K ρ σ H):P x ρ H:=g H rel .refl
theorem Good.new{x:β}{P:β->En->Hp->Prop}(g:Good K ρ σ H (.ok (x,ρ)) P)(rel:Rel K ρ σ H)(s:aB H H1):P x ρ H1:=g H1 (rel.same s) (.of s)
theorem dw{k:D×En->R (β×En)}{S:VK}{P:β->En->Hp->Prop}(rel:Rel K ρ σ H)(g:Good K ρ σ H ((f ρ).bind k) P)
  (h:∀ d ρ1 v H1,Rel K ρ1 σ H1->cO ρ ρ1 σ H H1->Fz K H1 d v->Good K ρ1 σ H1 (k (d,ρ1)) P->S v H1):tV K f σ H S:=by
 obtain⟨x,e,g1⟩:=g.bJ
 refine⟨ρ,rel,?_⟩
 rw [e]
 exact fun H' r s v fz=>h x.1 x.2 v H' r s fz (g1.step s)
theorem yo{f:TF}{k:Bool×En->R (β×En)}{P:β->En->Hp->Prop}(rel:Rel K ρ σ H)(g:Good K ρ σ H ((f ρ).bind k) P)
  (h:∀ b ρ1 H1,Rel K ρ1 σ H1->cO ρ ρ1 σ H H1->Good K ρ1 σ H1 (k (b,ρ1)) P->S b H1):tT K f σ H S:=by
 obtain⟨x,e,g1⟩:=g.bJ
 refine⟨ρ,rel,?_⟩
 rw [e]
 exact fun H' r s=>h x.1 x.2 H' r s (g1.step s)
theorem lL{f:AF}{k:List D×En->R (β×En)}{S:List V->Hp->Prop}{P:β->En->Hp->Prop}(rel:Rel K ρ σ H)(g:Good K ρ σ H ((f ρ).bind k) P)
  (h:∀ ds ρ1 vs H1,Rel K ρ1 σ H1->cO ρ ρ1 σ H H1->aj K H1 ds vs->Good K ρ1 σ H1 (k (ds,ρ1)) P->S vs H1):tA K f σ H S:=by
 obtain⟨x,e,g1⟩:=g.bJ
 refine⟨ρ,rel,?_⟩
 rw [e]
 exact fun H' r s vs fz=>h x.1 x.2 vs H' r s fz (g1.step s)
theorem ym{f:OF}{k:Option Int×En->R (β×En)}{S:Option Int->Hp->Prop}{P:β->En->Hp->Prop}(rel:Rel K ρ σ H)(g:Good K ρ σ H ((f ρ).bind k) P)
  (h:∀ b ρ1 H1,Rel K ρ1 σ H1->cO ρ ρ1 σ H H1->Good K ρ1 σ H1 (k (b,ρ1)) P->S b H1):tO K f σ H S:=by
 obtain⟨x,e,g1⟩:=g.bJ
 refine⟨ρ,rel,?_⟩
 rw [e]
 exact fun H' r s=>h x.1 x.2 H' r s (g1.step s)
end
def rD(K:ox)(g:D->D->R D):R2:=fun x y H Q=>∃ dx dy d,Tp K H dx x/\Tp K H dy y/\g dx dy=.ok d/\∀ v H',aB H H'->Fz K H' d v->Q v H'
def rD1(K:ox)(g:D->R D):V->Hp->VK->Prop:=fun x H Q=>∃ dx d,Tp K H dx x/\g dx=.ok d/\∀ v H',aB H H'->Fz K H' d v->Q v H'
noncomputable def vZ(K:ox)(G:List D->R D):List V->Hp->VK->Prop:=fun xs H Q=>∃ ds d,aj K H ds xs/\G ds=.ok d/\∀ v H',aB H H'->Fz K H' d v->Q v H'
def rD0(K:ox)(g:D->R D):List V->Hp->VK->Prop:=fun xs H Q=>∃ x dx d,xs=[x]/\Tp K H dx x/\g dx=.ok d/\∀ v H',aB H H'->Fz K H' d v->Q v H'
section
variable {K:ox}{a c:Aq}{k:EF}
theorem ae(i:Nat)(hN:X.N[i]?=some x:=by rfl)(hv:w4 X.env.scope x:=by first|exact DV rfl|exact Dm (DV rfl)|exact Dm (Dm rfl))(hd:(x==("__debug__":gV))=false:=by decide)
  (g9:(x==("__classdict__":gV))=false:=by decide):PV K X (.Name x pos) (eV i):=.mk fun _=>(zg5 hN hv hd g9).weak fun σ H Q=>by
 rintro⟨ρ,rel,g⟩
 unfold eV at g
 cases e:ρ[i]? with
 | none=>rw [e] at g;exact g.elim
 | some x =>
  rw [e] at g
  cases x with
  | val d =>
   have hl:i<σ.length:=by rw [<- rel.len];exact(By.mp e).1
   have o:=rel.ok i _ _ e (Bo hl)
   cases es:σ[i] with
   | none=>rw [es] at o;exact o.elim
   | some v =>
    rw [es] at o
    exact⟨v,by rw [Bo hl,es],g.now rel v o⟩
  | _=>exact g.elim
theorem vO(h:PE X e (tC v))(hv:∀ H,Fz K H d v):PV K X e (eC d):=.mk fun _=>h.weak fun σ H Q=>by
 rintro⟨ρ,rel,g⟩
 exact g.now rel v (hv H)
theorem aw{j}:PV K X (.Constant (.int i) j pos) (eC (.int i)):=vO zpG fun _=>by simp [Fz]
theorem qh{i:Bool}{j}:PV K X (.Constant (.bool i) j pos) (eC (.bool i)):=vO zpv fun _=>by simp [Fz]
theorem fM{j}:PV K X (.Constant .none j pos) (eC .none):=vO zpJ fun _=>by simp [Fz]
theorem fN{i:gV}{j}:PV K X (.Constant (.str i) j pos) (eC (.str i)):=vO zpM fun _=>by simp [Fz]
theorem vR{u:dm}(hg:Gl X x)(hm:X.mg x=some u)(r:RelV v u)(hv:∀ H,Fz K H d v)(hd:(x==("__debug__":gV))=false:=by decide):PV K X (.Name x pos) (eC d):=vO (zg0 hg hm r hd) hv
theorem yn{r:R2}(ho:∀ x y H Q,rD K g x y H Q->r x y H Q)(σ:L2.St)(H:Hp)(Q:VK)(q:tV K (e2 g f h) σ H Q):qB r (tV K f) (tV K h) σ H Q:=by
 obtain⟨ρ,rel,q⟩:=q
 refine dw rel q fun dx ρ1 x H1 ak aK fx q1=>dw ak q1 fun dy ρ2 y H2 bS bT fy q2=>?_
 obtain⟨d,ed,q3⟩:=q2.bV
 exact ho _ _ _ _ ⟨dx,dy,d,(fx.mono (bT.dM ak)).tp,fy.tp,ed,fun v H' s fz=>q3.new bS s v fz⟩
theorem aA{op:Operator}(ho:aV X (B5 op) (rD X.K g))(ha:PV K X a f)(hb:PV K X b h):PV K X (.BinOp a op b pos) (e2 g f h):=.mk fun hK=>by
 subst hK
 exact(zg3 ho (ha rfl) (hb rfl)).weak fun σ H Q q=>yn (fun _ _ _ _ z=>z) σ H Q q
theorem aT(ho:kE X (rD X.K g))(ha:PV K X a f)(hb:PV K X b h)(hs:wV b:=by exact fun _ _=>rfl):PV K X (.Subscript a b pos) (e2 g f h):=.mk fun hK=>by
 subst hK
 exact(zg1 ho (ha rfl) (hb rfl) hs).weak fun σ H Q q=>yn (fun _ _ _ _ z=>z) σ H Q q
theorem zqL(ho:aV X (A3 op) (rD X.K g))(ha:PV K X a f)(hb:PV K X b h)(hm:Dz op b=false):PV K X (.Compare a [op] [b] pos) (e2 g f h):=.mk fun hK=>by
 subst hK
 exact(zpz ho (ha rfl) (hb rfl) hm).weak fun σ H Q q=>yn (fun _ _ _ _ z=>z) σ H Q q
theorem zcN{op:UnaryOp}{g:D->R D}(ho:uh X (unaryOp op) (rD1 X.K g))(ha:PV K X a f):PV K X (.UnaryOp op a pos) (e1 g f):=.mk fun hK=>by
 subst hK
 exact(zpP ho (ha rfl)).weak fun σ H Q=>by
  rintro⟨ρ,rel,q⟩
  refine dw rel q fun dx ρ1 x H1 ak aK fx q1=>?_
  obtain⟨d,ed,q3⟩:=q1.bV
  exact⟨dx,d,fx.tp,ed,fun v H' s fz=>q3.new ak s v fz⟩
theorem zfx(σ:L2.St)(H:Hp)(Q:VK)(q:tV K (dF g g' f h k) σ H Q):zc7 (rD K g) (rD K g') (tV K f) (tV K h) (tV K k) σ H Q:=by
 obtain⟨ρ,rel,q⟩:=q
 refine dw rel q fun dx ρ1 x H1 ak aK fx q1=>dw ak q1 fun dy ρ2 y H2 bS bT fy q2=>?_
 obtain⟨d,ed,q3⟩:=q2.bV
 refine⟨dx,dy,d,(fx.mono (bT.dM ak)).tp,fy.tp,ed,fun v H' s fz=>?_⟩
 cases d with
 | bool bb =>
  simp only [Fz] at fz
  subst fz
  have iw:=bS.same s
  have q4:=q3.step (.of s)
  cases bb with
  | true =>
   refine⟨true,rfl,mV ?_⟩
   refine dw iw q4 fun dz ρ3 z H3 zcZ qz fzz q5=>?_
   obtain⟨d2,uG,q6⟩:=q5.bV
   exact⟨dy,dz,d2,((fy.mono (aH.of s)).mono (qz.dM iw)).tp,fzz.tp,uG,fun v H' s fz=>q6.new zcZ s v fz⟩
  | false=>exact⟨false,rfl,mU (q4.now iw _ (by simp [Fz]))⟩
 | _=>exact q3.elim
theorem zqK(ho:aV X (A3 op) (rD X.K g))(fT:aV X (A3 iO) (rD X.K g'))(ha:PV K X a f)(hb:PV K X b h)(hc:PV K X c k)
  (hm:lastMarks [op,iO] [b,c]=false:=by with_unfolding_all rfl):PV K X (.Compare a [op,iO] [b,c] pos) (dF g g' f h k):=.mk fun hK=>by
 subst hK
 exact(zpy ho fT (ha rfl) (hb rfl) (hc rfl) hm).weak fun σ H Q q=>zfx σ H Q q
theorem vS{op}(ha:PV K X a f):PV K X (.BoolOp op [a] pos) f:=.mk fun hK=>zpL (ha hK)
theorem sD{rest:List Aq}(ha:PV K X a f)(hb:PV K X (.BoolOp .And (b::rest) pos) h):PV K X (.BoolOp .And (a::b::rest) pos) (d9 f h):=.mk fun hK=>(zpu (ha hK) (hb hK)).weak fun σ H Q=>by
 rintro⟨ρ,rel,q⟩
 refine dw rel q fun dx ρ1 x H1 ak aK fx q1=>?_
 cases dx with
 | bool bb =>
  simp only [Fz] at fx
  subst fx
  cases bb with
  | true=>exact⟨true,rfl,mV ⟨ρ1,ak,q1⟩⟩
  | false=>exact⟨false,rfl,mU (q1.now ak _ (by simp [Fz]))⟩
 | _=>exact q1.elim
theorem zqU(ha:PV K X a f):PV K X (.UnaryOp .Not a pos) (gC f):=.mk fun hK=>(zpK (ha hK)).weak fun σ H Q=>by
 rintro⟨ρ,rel,q⟩
 refine dw rel q fun dx ρ1 x H1 ak aK fx q1=>?_
 cases dx with
 | bool bb =>
  simp only [Fz] at fx
  subst fx
  exact⟨bb,rfl,q1.now ak _ (by simp [Fz])⟩
 | _=>exact q1.elim
theorem zcL(hc:fA K X c t)(ha:PV K X a f)(hb:PV K X b h):PV K X (.IfExp c a b pos) (ee t f h):=.mk fun hK=>(zpF (hc hK) (ha hK) (hb hK)).weak fun σ H Q=>by
 rintro⟨ρ,rel,q⟩
 refine yo rel q fun cb ρ1 H1 ak aK q1=>?_
 cases cb with
 | true=>exact mV ⟨ρ1,ak,q1⟩
 | false=>exact mU ⟨ρ1,ak,q1⟩
theorem qk:dG K X [] af:=.mk fun _=>kl.weak fun σ H Q=>by
 rintro⟨ρ,rel,q⟩
 exact q.now rel [] (by simp [aj])
theorem sH(ha:PV K X a f)(hr:dG K X es fa)(hs:Au (a::es) X.env=(false,Ay a X.env)::Au es X.env:=by exact FL.se rfl):dG K X (a::es) (aa f fa):=.mk fun hK=>(ik (ha hK) (hr hK) hs).weak fun σ H Q=>by
 rintro⟨ρ,rel,q⟩
 refine dw rel q fun dx ρ1 x H1 ak aK fx q1=>lL ak q1 fun ds ρ2 vs H2 bS bT fs q2=>?_
 exact q2.now bS _ (by simp only [aj];exact⟨x,vs,rfl,fx.mono (bT.dM ak),fs⟩)
theorem ig:lim<=AK:=by rw [BU];decide
theorem fo{x1}(h:dG K X es fa):PV K X (.Tuple es x1 pos) (aP fa):=.mk fun hK=>(zpN (h hK)).weak fun σ H Q=>by
 rintro⟨ρ,rel,q⟩
 refine lL rel q fun ds ρ1 vs H1 ak aK fs q1=>?_
 obtain⟨c,q2⟩:=q1.aF
 refine⟨by rw [fs.len];exact Bj (fi c) ig,fun p hp=>?_⟩
 have s:aB H1 (upd H1 p (.tup vs)):=aB.upd hp
 refine q2.new ak s _ ?_
 simp only [Fz]
 exact⟨p,vs,rfl,.inl cN,fs.mono (aH.of s)⟩
theorem lq(h:dG K X es fa):bY K X (.List es pos) (bQ fa):=.mk fun hK=>(zg2 (h hK)).weak fun σ H Q=>by
 rintro⟨ρ,rel,q⟩
 refine lL rel q fun ds ρ1 vs H1 ak aK fs q1=>?_
 obtain⟨c,q2⟩:=q1.aF
 refine⟨by rw [fs.len];exact Bj (fi c) ig,fun p hp=>?_⟩
 have s:aB H1 (upd H1 p (.lst vs)):=aB.upd hp
 refine q2.new ak s p ?_ ?_
 ·cases e:H p with
  | none=>rfl
  | some o =>
   by_cases m:MA ρ σ p
   ·obtain⟨o',e',_⟩:=ak.eY (aK.ma.mp m)
    rw [hp] at e';cases e'
   ·rw [aK.kp p o e m] at hp;cases hp
 ·exact⟨vs,cN,fs.mono (aH.of s)⟩
theorem bY.pv{f:EF}(h:bY K X e f):PV K X e f:=.mk fun hK=>(zpE (h hK)).weak fun σ H Q=>by
 rintro⟨ρ,rel,q⟩
 refine⟨ρ,rel,?_⟩
 cases e:f ρ with
 | ok x =>
  rw [e] at q
  intro H' zrN st a ha m
  obtain⟨u,e1,ow⟩:=m.own
  refine⟨a,u,rfl,e1,ow,fun o=>?_⟩
  have kc:¬ MA ρ σ a:=fun z=>by
   obtain⟨o',e',_⟩:=rel.eY z
   rw [ha] at e';cases e'
  have nma':¬ MA x.2 σ a:=fun z=>kc (st.ma.mpr z)
  have fz:aH H' (upd H' a (.frz o u)):=fun b w e2 sy=>by
   rw [bh fun z=>by subst z;rw [e1] at e2;cases e2;exact ow.jS sy]
   exact e2
  refine q _ (zrN.put nma' fun u' e2=>by rw [e1] at e2;cases e2;exact ow.jS) ⟨st.md,fun b w e2 n=>?_⟩ _ ?_
  ·rw [bh fun z=>by subst z;rw [ha] at e2;cases e2]
   exact st.kp b w e2 n
  ·obtain⟨d,ρ'⟩:=x
   cases d with
   | list ds =>
    obtain⟨vs,h1,h2⟩:=m
    rw [e1] at h1
    cases h1
    simp only [Fz]
    exact⟨a,vs,rfl,.inl ⟨o,cN⟩,h2.mono fz⟩
   | dict ag =>
    simp only [Fz]
    obtain⟨kk,h1,h2⟩:=m
    rw [e1] at h1
    cases h1
    exact⟨a,o,rfl,⟨kk,cN,h2.mono fz⟩⟩
   | _=>exact m.elim
 | _=>rw [e] at q;exact q.elim
theorem goC(hr:∀ xs H Q,vZ K G xs H Q->r xs H Q)(σ:L2.St)(H:Hp)(Q:VK)(q:tV K (au G fa) σ H Q):zL r (tA K fa) σ H Q:=by
 obtain⟨ρ,rel,q⟩:=q
 refine lL rel q fun ds ρ1 vs H1 ak aK fs q1=>?_
 obtain⟨d,ed,q2⟩:=q1.bV
 exact hr _ _ _ ⟨ds,d,fs,ed,fun v H' s fz=>q2.new ak s v fz⟩
theorem vP{id:String}(hc:iW X (.builtin id) (vZ X.K G))(hg:Gl X x)(hm:X.mg x=none)(hv:Bs x=some (.builtin id))(ha:dG K X (e::es) fa)(hn:x ≠ "__name__":=by decide) (bE:(x==("__debug__":gV))=false:=by decide)
  (he:Au (e::es) X.env=(false,Ay e X.env)::Au es X.env:=by exact FL.se rfl) (aY:(A0 pos (Au es X.env)).any (·.1)=false:=by exact FL.sp rfl):PV K X (.Call (.Name x p) (e::es) [] pos) (au G fa):=.mk fun hK=>by
 subst hK
 exact(zcB hc hg hm hv (ha rfl) hn bE he aY).weak fun σ H Q q=>goC (fun _ _ _ z=>z) σ H Q q
theorem zqJ{T:String}(hc:iW X (.type T) (vZ X.K G))(hg:Gl X x)(hm:X.mg x=none)(hv:Bs x=some (.type T))(ha:dG K X (e::es) fa)(hn:x ≠ "__name__":=by decide) (bE:(x==("__debug__":gV))=false:=by decide)
  (he:Au (e::es) X.env=(false,Ay e X.env)::Au es X.env:=by exact FL.se rfl) (aY:(A0 pos (Au es X.env)).any (·.1)=false:=by exact FL.sp rfl):PV K X (.Call (.Name x p) (e::es) [] pos) (au G fa):=.mk fun hK=>by
 subst hK
 exact(zcC hc hg hm hv (ha rfl) hn bE he aY).weak fun σ H Q q=>goC (fun _ _ _ z=>z) σ H Q q
variable {lo hi:Option Aq}{fl fh:OF}
theorem zi:nE K X none dW:=.mk fun _=>zqf.weak fun σ H Q=>by
 rintro⟨ρ,rel,q⟩
 exact q.now rel
theorem zj(h:PV K X a f):nE K X (some a) (dX f):=.mk fun hK=>(zqg (h hK)).weak fun σ H Q=>by
 rintro⟨ρ,rel,q⟩
 refine dw rel q fun dx ρ1 x H1 ak aK fx q1=>?_
 cases dx with
 | int i =>
  simp only [Fz] at fx
  exact⟨i,fx,q1.now ak⟩
 | _=>exact q1.elim
def zhy(K:ox):V->Option Int->Option Int->Hp->VK->Prop:=fun x lo hi H Q=>∃ dx d,Tp K H dx x/\fO dx lo hi=.ok d/\∀ v H',aB H H'->Fz K H' d v->Q v H'
theorem zcM(hr:oY X (zhy X.K))(he:PV K X a f)(hl:nE K X lo fl)(hu:nE K X hi fh):PV K X (.Subscript a (.Slice lo hi none p2) pos) (eS f fl fh):=.mk fun hK=>by
 subst hK
 exact(zg4 hr (he rfl) (hl rfl) (hu rfl)).weak fun σ H Q=>by
  rintro⟨ρ,rel,q⟩
  refine dw rel q fun dx ρ1 x H1 ak aK fx q1=>ym ak q1 fun l ρ2 H2 bS bT q2=>ym bS q2 fun u ρ3 H3 iw kr q3=>?_
  obtain⟨d,ed,q4⟩:=q3.bV
  exact⟨dx,d,((fx.mono (bT.dM ak)).mono (kr.dM bS)).tp,ed,fun v H' s fz=>q4.new iw s v fz⟩
variable {u:TF}
theorem jU(hv:zaC X (fun x H Q=>∃ d k,Tp X.K H d x/\dB d=.ok k/\Q k H))(h:PV K X a f)(he:∀ whole,isTrue a X.env whole=(do let v <- whole;EX a.pos;Dy [v] (truthy v)):=by intro _;rfl):fA K X a (tE f):=.mk fun hK=>by
 subst hK
 intro pins s σ H Q I q
 rw [he]
 obtain⟨ρ,rel,q⟩:=q
 refine Ap (aI (h rfl pins s σ H (fun x H'=>∃ d k,Tp X.K H' d x/\dB d=.ok k/\Q k H') I ?_) fun v s1 ⟨x,H1,I1,r1,q1⟩=>Ap (Es (Ct (hv pins s1 σ H1 x v Q I1 r1 q1))))
 refine dw rel q fun dx ρ1 x H1 ak aK fx q1=>?_
 obtain⟨d,ed,q2⟩:=q1.bV
 exact⟨dx,d,fx.tp,ed,q2.now ak⟩
theorem goB(hw:∀ σ H Q,tV K f σ H Q->te σ H Q)(σ:L2.St)(H:Hp)(Q:Bool->Hp->Prop)(q:tT K (tB f) σ H Q):te σ H fun x H'=>∃ k,x=.bl k/\Q k H':=by
 obtain⟨ρ,rel,q⟩:=q
 refine hw σ H _ (dw rel q fun dx ρ1 x H1 ak aK fx q1=>?_)
 cases dx with
 | bool bb =>
  simp only [Fz] at fx
  exact⟨bb,fx,q1.now ak⟩
 | _=>exact q1.elim
theorem zrl(ho:aV X (A3 op) (rD X.K g))(ha:PV K X a f)(hb:PV K X b h)(hm:Dz op b=false):fA K X (.Compare a [op] [b] pos) (tB (e2 g f h)):=.mk fun hK=>by
 subst hK
 exact(zhi ho (ha rfl) (hb rfl) hm).weak fun σ H Q q=>goB (fun σ H Q z=>yn (fun _ _ _ _ z=>z) σ H Q z) σ H Q q
theorem zhv(ha:fA K X a t):dD K X (.BoolOp .And [a] pos) t:=.mk fun hK=>zrp (ha hK)
theorem iS(ha:fA K X a t):dD K X (.BoolOp .Or [a] pos) t:=.mk fun hK=>zrr (ha hK)
theorem zhu{rest:List Aq}(ha:fA K X a t)(hb:dD K X (.BoolOp .And (b::rest) pos) u):dD K X (.BoolOp .And (a::b::rest) pos) (FL.eJ t u):=.mk fun hK=>(zro (ha hK) (hb hK)).weak fun σ H Q=>by
 rintro⟨ρ,rel,q⟩
 refine yo rel q fun cb ρ1 H1 ak aK q1=>?_
 cases cb with
 | true=>exact mV ⟨ρ1,ak,q1⟩
 | false=>exact mU (q1.now ak)
theorem eZ{rest:List Aq}(ha:fA K X a t)(hb:dD K X (.BoolOp .Or (b::rest) pos) u):dD K X (.BoolOp .Or (a::b::rest) pos) (FL.bw t u):=.mk fun hK=>(zrq (ha hK) (hb hK)).weak fun σ H Q=>by
 rintro⟨ρ,rel,q⟩
 refine yo rel q fun cb ρ1 H1 ak aK q1=>?_
 cases cb with
 | true=>exact mV (q1.now ak)
 | false=>exact mU ⟨ρ1,ak,q1⟩
theorem dD.gI(h:dD K X a t):fA K X a t:=.mk fun hK=>(h hK).pt
theorem iq(ha:fA K X a t):fA K X (.UnaryOp .Not a pos) (FL.bu t):=.mk fun hK=>(zqz (ha hK)).weak fun σ H Q=>by
 rintro⟨ρ,rel,q⟩
 exact yo rel q fun cb ρ1 H1 ak aK q1=>q1.now ak
theorem zcT(ho:aV X (A3 op) (rD X.K g))(fT:aV X (A3 iO) (rD X.K g'))(ha:PV K X a f)(hb:PV K X b h)(hc:PV K X c k)
  (hm:lastMarks [op,iO] [b,c]=false:=by with_unfolding_all rfl):fA K X (.Compare a [op,iO] [b,c] pos) (tB (dF g g' f h k)):=.mk fun hK=>by
 subst hK
 exact(zqy ho fT (ha rfl) (hb rfl) (hc rfl) hm).weak fun σ H Q q=>goB (fun σ H Q z=>zfx σ H Q z) σ H Q q
end
end
variable {G:D->D->R D}
section
variable [Cs]
theorem ztB(A:AY)(s:kb)(a:Int)(t:Bf)(c:Int)(u:Bf)(prog:AO)(w:AJ)(E:dm->kb->Prop)(Q:dm->kb->Prop)(h:Q (.bool (decide (a<=c))) s) :
  Av (Ax prog w) A (richCompare .LtE (.int a t) (.int c u)) Q E s :=
 (PyProof.Rows.le_int h:Av (Ax prog w) A (A3 .LtE (.int a t) (.int c u)) Q E s)
end
variable {q:List Int->List Int->Bool}{g:Int->Int->Int}{C:Int->Int->Prop}{f:dm->dm->Sem dm}{c p:Int->Int->Bool}{vs:List V}{k:Nat}{α:Type}
section
variable [Cs]
section
variable {K:ox}
mutual
theorem Fz.is:∀(d:A4) (v:V),FP d=true->Fz K H d v->Is K H d v
 | .none,v,_,h=>by simp only [Fz] at h;simp only [Is];exact h
 | .bool b,v,_,h=>by simp only [Fz] at h;simp only [Is];exact h
 | .int i,v,_,h=>by simp only [Fz] at h;simp only [Is];exact h
 | .str x,v,_,h=>by simp only [Fz] at h;simp only [Is];exact h
 | .list xs,v,c,h=>by
  simp only [Fz] at h;simp only [Is]
  obtain⟨a,vs,e1,h1,h2⟩:=h
  exact⟨a,vs,e1,h1.sq,aj.is xs vs c h2⟩
 | .tuple xs,v,c,h=>by
  simp only [Fz] at h;simp only [Is]
  obtain⟨a,vs,e1,h1,h2⟩:=h
  exact⟨a,vs,e1,.inl h1,aj.is xs vs c h2⟩
 | .dict ag,v,c,h=>by simp [FP] at c
theorem aj.is:∀(ds:List A4) (vs:List V),Gr ds=true->aj K H ds vs->jE K H ds vs
 | [],vs,_,h=>by simp only [aj] at h;simp only [jE];exact h
 | d::ds,vs,c,h=>by
  simp only [Gr,BJ] at c
  simp only [aj] at h;simp only [jE]
  obtain⟨v,r,e1,h1,h2⟩:=h
  exact⟨v,r,e1,Fz.is d v c.1 h1,aj.is ds r c.2 h2⟩
end
theorem Tp.is{d:A4}{v:V}(c:FP d=true)(h:Tp K H d v):Is K H d v:=by
 cases d with
 | list ds =>
  obtain⟨a,vs,e,h1,h2⟩:=h
  simp only [Is]
  exact⟨a,vs,e,h1,aj.is ds vs c h2⟩
 | dict ag=>simp [FP] at c
 | none=>exact Fz.is _ _ c h
 | bool b=>exact Fz.is _ _ c h
 | int b=>exact Fz.is _ _ c h
 | str b=>exact Fz.is _ _ c h
 | tuple b=>exact Fz.is _ _ c h
theorem Tp.int(h:Tp K H (.int i) v):v=.int i:=by simpa [Tp,Fz] using h
theorem Tp.bool{i:Bool}(h:Tp K H (.bool i) v):v=.bl i:=by simpa [Tp,Fz] using h
theorem Tp.none(h:Tp K H .none v):v=.non:=by simpa [Tp,Fz] using h
theorem Tp.zsW{ds:List A4}(h:Tp K H (.tuple ds) v):∃ a vs,v=.ref a/\dH H a vs/\aj K H ds vs:=by simpa [Tp,Fz] using h
theorem Tp.tup{ds:List A4}{v:V}(h:Tp K H (.tuple ds) v):∃ a vs,v=.ref a/\dO K H a vs/\aj K H ds vs :=
 let⟨a,vs,x,y,z⟩:=Tp.zsW h
 ⟨a,vs,x,.inl y,z⟩
theorem Tp.lst{ds:List A4}{v:V}(h:Tp K H (.list ds) v):∃ a vs,v=.ref a/\bB K H a vs/\aj K H ds vs:=h
theorem jL(i:Int):Fz K H (.int i) (.int i):=by simp [Fz]
theorem nR(i:Bool):Fz K H (.bool i) (.bl i):=by simp [Fz]
theorem yi{ds:List A4}(h:dH H a vs)(f:aj K H ds vs):Fz K H (.tuple ds) (.ref a):=by simp only [Fz];exact⟨a,vs,rfl,h,f⟩
theorem aj.cJ{ds:List A4}{vs:List V}{i:Int}{d:A4}(h:aj K H ds vs)(e:FL.cJ ds i=some d):∃ v,L2.cJ vs i=some v/\Fz K H d v:=by
 unfold FL.cJ at e
 cases en:FL.dU ds.length i with
 | none=>rw [en] at e;cases e
 | some j =>
  rw [en] at e
  obtain⟨v,e1,f⟩:=h.get (show ds[j]?=some d from e)
  refine⟨v,?_,f⟩
  unfold L2.cJ
  rw [h.len,show L2.dU ds.length i=some j from en]
  exact e1
theorem aj.cut{ds:List A4}{vs:List V}(h:aj K H ds vs)(lo hi:Option Int):aj K H (FL.cut ds lo hi) (mI vs lo hi):=by
 unfold FL.cut mI
 rw [h.len]
 exact(h.drop _).take _
end
theorem c7{c:Bool}{r:R α}{d:α}(h:aF c r=.ok d):c=true/\r=.ok d:=by
 cases c with
 | true=>exact⟨rfl,h⟩
 | false=>exact nomatch (show(R.bad:R α)=.ok d from h)
section
theorem rB{ds:List D}(f:aj X.K H ds vs)(q:∀ v H',aB H H'->Fz X.K H' (.list ds) v->Q v H')
  (h:EP X pins σ (fun v H1=>∃ p,v=.ref p/\H p=none/\H1=upd H p (.lst vs)) w s):EP X pins σ Q w s:=by
 obtain⟨v,H1,I,r,p,rfl,hp,rfl⟩:=h
 refine zfi ⟨.ref p,_,I,r,p,.lst vs,rfl,cN,trivial,fun o=>?_⟩
 rw [ztb]
 refine q _ _ (aB.upd hp) ?_
 simp only [Fz]
 exact⟨p,vs,rfl,.inl ⟨o,cN⟩,f.mono (aH.of (aB.upd hp))⟩
theorem cD:aV X (B5 .Add) (rD X.K aC):=by
 intro pins s σ H x y v u Q I rx ry h
 obtain⟨dx,dy,d,tx,ty,e,q⟩:=h
 cases dx with
 | int i =>
  cases dy with
  | int j=>cases e;exact zo7 pins s σ H x y v u Q I rx ry ⟨i,j,tx.int,ty.int,q _ H (aB.refl _) (jL _)⟩
  | _=>exact nomatch (show(R.bad:R D)=.ok d from e)
 | list a =>
  cases dy with
  | list b =>
   obtain⟨c,e⟩:=c7 (show aF (leB (a.length+b.length) lim) (.ok (.list (a++b)))=.ok d from e)
   ·cases e
    obtain⟨l,xs,rfl,sx,fx⟩:=tx.lst
    obtain⟨m,ys,rfl,sy,fy⟩:=ty.lst
    cases rx
    cases ry
    obtain⟨its,r1,⟨o,n,ho,hc,hdn,hd⟩,z1⟩:=I.list sx
    obtain⟨og,r2,⟨o2,n2,fJ,jM,zfF,hd2⟩,z2⟩:=I.list sy
    obtain⟨cls,dd,data,sl⟩:=o
    obtain⟨zbd,mJ,data2,lW⟩:=o2
    simp only at hc hd jM hd2 hdn zfF
    subst hc hd jM hd2 hdn zfF
    have hz:its.length+og.length<=AK:=by
     have:=fi c
     have l0:=ig
     rw [<- r1.length,<- r2.length,fx.len,fy.len]
     lia
    refine aI (Gd (Q:=EP X pins σ fun v H1=>∃ p,v=.ref p/\H p=none/\H1=upd H p (.lst (xs++ys))) ⟨_,ho,rfl⟩ ⟨_,fJ,rfl⟩ PySem.noFill_list_add PySem.seq_list_add PySem.F.slot_list_add PySem.F.entry_list_add (PySem.F.args_list_add_2 _ _)
     (list_addW l m its.toArray og.toArray n n2 none none sl lW (by rw [Bk,Bk];exact hz)) ⟨ho,fJ,?_⟩) fun _ _ z=>rB (fx.app fy) q z
    have ea:its.toArray++og.toArray=(its++og).toArray:=by simp
    rw [ea]
    exact⟨.ref _,_,I.yJ (t':=s.toks) (r1.append r2) (by rw [BH,r1.length,r2.length];exact hz),rfl,_,rfl,I.fresh,rfl⟩
  | _=>exact nomatch (show(R.bad:R D)=.ok d from e)
 | tuple a =>
  cases dy with
  | tuple b =>
   obtain⟨c,e⟩:=c7 (show aF (leB (a.length+b.length) lim) (.ok (.tuple (a++b)))=.ok d from e)
   ·cases e
    obtain⟨l,xs,rfl,sx,fx⟩:=tx.tup
    obtain⟨m,ys,rfl,sy,fy⟩:=ty.tup
    have hz:xs.length+ys.length<=AK:=by
     have:=fi c
     have l0:=ig
     rw [fx.len,fy.len]
     lia
    by_cases x0:xs=[]
    ·subst x0
     have a0:a=[]:=by have:=fx.len;cases a with|nil=>rfl|cons _ _=>simp at this
     subst a0
     cases rx
     cases ry
     obtain⟨its,r1,p1,z1⟩:=I.tuple sx
     obtain⟨og,r2,p2,z2⟩:=I.tuple sy
     cases r1
     obtain⟨⟨cls,dd,data,sl⟩,ho,hc,n,hd⟩:=id p1
     obtain⟨⟨zbd,mJ,data2,lW⟩,fJ,jM,n2,hd2⟩:=id p2
     simp only at hc hd jM hd2
     subst hc hd jM hd2
     exact Gd ⟨_,ho,rfl⟩ ⟨_,fJ,rfl⟩ G9 Ha Hb Hc (Hd _ _)
      (tuple_addW0 l m #[] og.toArray n n2 dd mJ sl lW rfl) ⟨ho,fJ,⟨.ref m,H,I.tok _,rfl,q _ H (aB.refl _) ty⟩⟩
    ·exact zo8 pins s σ H _ _ v u Q I rx ry ⟨l,m,xs,ys,rfl,rfl,sx,sy,x0,hz,fun y0=>by
      subst y0
      have b0:b=[]:=by have:=fy.len;cases b with|nil=>rfl|cons _ _=>simp at this
      subst b0
      rw [DB] at q
      exact q _ H (aB.refl _) tx,fun _ p hp=>q _ _ (aB.upd hp) (yi (.inl cN) ((fx.app fy).mono (aH.of (aB.upd hp))))⟩
  | _=>exact nomatch (show(R.bad:R D)=.ok d from e)
 | _=>exact nomatch (show(R.bad:R D)=.ok d from e)
theorem yX(ho:aV X f (rI C fun i j=>.int (g i j)))(hC:∀ i j,c i j=true->C i j)
  (hG:∀ dx dy d,G dx dy=.ok d->∃ i j,dx=.int i/\dy=.int j/\c i j=true/\d=.int (g i j)):aV X f (rD X.K G):=by
 intro pins s σ H x y v u Q I rx ry h
 obtain⟨dx,dy,d,tx,ty,e,q⟩:=h
 obtain⟨i,j,rfl,rfl,cc,rfl⟩:=hG _ _ _ e
 exact ho pins s σ H x y v u Q I rx ry ⟨i,j,tx.int,ty.int,hC i j cc,q _ H (aB.refl _) (jL _)⟩
theorem yj(h:∀ i j,G (.int i) (.int j)=aF (c i j) (.ok (.int (g i j))))(h0:∀ dx dy,(¬ ∃ i j,dx=.int i/\dy=.int j)->G dx dy=.bad) :
  ∀ dx dy d,G dx dy=.ok d->∃ i j,dx=.int i/\dy=.int j/\c i j=true/\d=.int (g i j):=by
 intro dx dy d e
 by_cases k:∃ i j,dx=.int i/\dy=.int j
 ·obtain⟨i,j,rfl,rfl⟩:=k
  rw [h] at e
  obtain⟨cc,e⟩:=c7 e
  cases e
  exact⟨i,j,rfl,rfl,cc,rfl⟩
 ·rw [h0 _ _ k] at e;cases e
theorem yT{dx dy:D}(hb:∀ dx dy,(∀ i,dx≠.int i)->G dx dy=.bad)(hb2:∀ i dy,(∀ j,dy≠.int j)->G (.int i) dy=.bad)(h:¬ ∃ i j,dx=.int i/\dy=.int j):G dx dy=.bad:=by
 cases dx with
 | int i=>exact hb2 i dy fun j e=>h ⟨i,j,rfl,e⟩
 | _=>exact hb _ _ fun i e=>nomatch e
theorem oy:aV X (B5 .Sub) (rD X.K cU):=yX (C:=fun _ _=>True) (c:=fun _ _=>true) (g:=fun i j=>i-j)
 (fun pins s σ H x y v u Q I rx ry ⟨i,j,e1,e2,_,q⟩=>zpn pins s σ H x y v u Q I rx ry ⟨i,j,e1,e2,q⟩) (fun _ _ _=>trivial)
 (yj (fun _ _=>rfl) fun dx dy h=>yT (fun dx dy h=>by cases dx <;> first|rfl|exact absurd rfl (h _)) (fun i dy h=>by cases dy <;> first|rfl|exact absurd rfl (h _)) h)
theorem zoC{j:Int}(h:vt i j=true):IntMulOk i j:=by
 have:=fi h
 have b:∀ k:Int,k.natAbs<2^(k.natAbs.log2+1):=fun k=>Nat.lt_log2_self
 exact mulOk_of (a:=i.natAbs.log2+1) (b:=j.natAbs.log2+1) (b i) (b j) (by lia)
theorem zpa(hr:bp k X.A):aV X (B5 .FloorDiv) (rI (fun _ j=>j≠0) fun i j=>.int (i.fdiv j)):=by
 intro pins s σ H x y v u Q I rx ry h
 obtain⟨i,j,rfl,rfl,hc,q⟩:=h
 obtain⟨t,rfl⟩:=rx
 obtain⟨t',rfl⟩:=ry
 exact floordiv_int hc ⟨.int (i.fdiv j),H,I.tok _,⟨_,rfl⟩,q⟩ (.inr (I.pyl (by have:=hr.dp;lia)))
theorem kZ(hr:bp k X.A):aV X (B5 .FloorDiv) (rD X.K bN):=yX (C:=fun _ j=>j≠0) (c:=fun i j=>decide (j≠0)) (g:=fun i j=>i.fdiv j) (zpa hr) (fun i j h=>by simpa using h)
 (yj (fun _ _=>rfl) fun dx dy h=>yT (fun dx dy h=>by cases dx <;> first|rfl|exact absurd rfl (h _)) (fun i dy h=>by cases dy <;> first|rfl|exact absurd rfl (h _)) h)
theorem ou:aV X (B5 .Mod) (rD X.K eF):=yX (C:=fun _ j=>j≠0) (c:=fun i j=>decide (j≠0)) (g:=fun i j=>i.fmod j) zpi (fun i j h=>by simpa using h)
 (yj (fun _ _=>rfl) fun dx dy h=>yT (fun dx dy h=>by cases dx <;> first|rfl|exact absurd rfl (h _)) (fun i dy h=>by cases dy <;> first|rfl|exact absurd rfl (h _)) h)
theorem m3:aV X (B5 .Pow) (rD X.K fY):=yX (C:=zdr) (c:=fun i j=>decide (0<=j)&&leB j.toNat 1000000&&leB i.natAbs 18446744073709551615) (g:=fun i j=>i^j.toNat) zpl (fun i j h=>by simp only [BJ,decide_eq_true_eq,leB_iff] at h;exact⟨h.1.1,by lia,by lia⟩)
 (yj (fun _ _=>rfl) fun dx dy h=>yT (fun dx dy h=>by cases dx <;> first|rfl|exact absurd rfl (h _)) (fun i dy h=>by cases dy <;> first|rfl|exact absurd rfl (h _)) h)
theorem zdi:uh X (unaryOp .USub) (rD1 X.K sd):=by
 intro pins s σ H x v Q I rx h
 obtain⟨dx,d,tx,e,q⟩:=h
 cases dx with
 | int i=>cases e;exact zta pins s σ H x v Q I rx ⟨i,tx.int,q _ H (aB.refl _) (jL _)⟩
 | _=>exact nomatch (show(R.bad:R D)=.ok d from e)
theorem zoV(hu:X.A.units+64<BO):aV X (A3 .Eq) (rD X.K du):=by
 intro pins s σ H x y v u Q I rx ry h
 obtain⟨dx,dy,d,tx,ty,e,q⟩:=h
 obtain⟨c,e⟩:=c7 e
 ·cases e
  simp only [BJ] at c
  exact zo9 hu pins s σ H x y v u Q I rx ry ⟨dx,dy,tx.is (C9 c.1),ty.is (C9 c.2),c.1,c.2,q _ H (aB.refl _) (nR _)⟩
theorem zo0(hu:X.A.units+64<BO):aV X (A3 .NotEq) (rD X.K cg):=by
 intro pins s σ H x y v u Q I rx ry h
 obtain⟨dx,dy,d,tx,ty,e,q⟩:=h
 obtain⟨c,e⟩:=c7 e
 ·cases e
  simp only [BJ] at c
  exact zpk hu pins s σ H x y v u Q I rx ry ⟨dx,dy,tx.is (C9 c.1),ty.is (C9 c.2),c.1,c.2,q _ H (aB.refl _) (nR _)⟩
theorem zcd:∀ a b,FL.lexLt a b=HT.lexLt a b
 | [],[]=>rfl
 | [],_::_=>rfl
 | _::_,[]=>rfl
 | x::xs,y::ys=>by unfold FL.lexLt HT.lexLt;rw [zcd xs ys]
theorem zoU(hi:aV X (A3 op) (nh fun i j=>.bl (p i j)))
  (ht:∀{s:kb} {l b:ir} {items jP:Array dm} {ns ms:List Int} {Q:dm->kb->Prop},Dv s.heap l items->Dv s.heap b jP->CI items.toList ns->CI jP.toList ms ->
   Q (.bool (q ns ms)) s->Av (Ax X.prog X.w) X.A (A3 op (.ref l) (.ref b)) Q X.xe s):aV X (A3 op) (rD X.K (zeU p q)):=by
 intro pins s σ H x y v u Q I rx ry h
 obtain⟨dx,dy,d,tx,ty,e,k⟩:=h
 cases dx with
 | int i =>
  cases dy with
  | int j=>cases e;exact hi pins s σ H x y v u Q I rx ry ⟨i,j,tx.int,ty.int,k _ H (aB.refl _) (nR _)⟩
  | _=>exact nomatch (show(R.bad:R D)=.ok d from e)
 | tuple a =>
  cases dy with
  | tuple b =>
   replace e:((R.of (intsOf a)).bind fun x=>(R.of (intsOf b)).bind fun y=>R.ok (BE (q x y)))=.ok d:=e
   cases ea:intsOf a with
   | none=>rw [ea] at e;cases e
   | some ns =>
    cases eb:intsOf b with
    | none=>rw [ea,eb] at e;cases e
    | some ms =>
     rw [ea,eb] at e
     cases e
     obtain⟨l,xs,rfl,sx,fx⟩:=tx.tup
     obtain⟨m,ys,rfl,sy,fy⟩:=ty.tup
     cases rx
     cases ry
     obtain⟨rfl,_⟩:=fx.ints ea
     obtain⟨rfl,_⟩:=fy.ints eb
     obtain⟨its,r1,p1,_⟩:=I.tuple sx
     obtain⟨og,r2,p2,_⟩:=I.tuple sy
     exact ht p1 p2 (intsAre_of r1) (intsAre_of r2) ⟨.bl (q ns ms),H,I,rfl,k _ H (aB.refl _) (nR _)⟩
  | _=>exact nomatch (show(R.bad:R D)=.ok d from e)
 | _=>exact nomatch (show(R.bad:R D)=.ok d from e)
theorem zoZ(hu:X.A.units+64<BO):aV X (A3 .Lt) (rD X.K eX):=zoU zph fun p1 p2 i1 i2 h=>HT.zog p1 p2 i1 i2 (by lia) (by rw [<- zcd];exact h)
theorem zgO(hi:aV X (A3 op) (nh fun i j=>.bl (p i j))):aV X (A3 op) (rD X.K (xT p)):=by
 intro pins s σ H x y v u Q I rx ry h
 obtain⟨dx,dy,d,tx,ty,e,k⟩:=h
 cases dx with
 | int i =>
  cases dy with
  | int j=>cases e;exact hi pins s σ H x y v u Q I rx ry ⟨i,j,tx.int,ty.int,k _ H (aB.refl _) (nR _)⟩
  | _=>exact nomatch (show(R.bad:R D)=.ok d from e)
 | _=>exact nomatch (show(R.bad:R D)=.ok d from e)
theorem zoY(hu:X.A.units+64<BO):aV X (A3 .LtE) (rD X.K fg):=zgO zpg
theorem zoW(hu:X.A.units+64<BO):aV X (A3 .GtE) (rD X.K kO):=zgO zpb
theorem kh:aV X (A3 .Is) (rD X.K hV):=by
 intro pins s σ H x y v u Q I rx ry h
 obtain⟨dx,dy,d,tx,ty,e,q⟩:=h
 cases dy with
 | none =>
  refine zpf pins s σ H x y v u Q I rx ry ⟨ty.none,?_⟩
  have:d=.bool (decide (x=.non)):=by
   cases dx with
   | none=>have:=tx.none;subst this;cases e;rfl
   | bool b=>have:=tx.bool;subst this;cases e;rfl
   | int b=>have:=tx.int;subst this;cases e;rfl
   | str b =>
    have:x=.str b:=by simpa [Tp,Fz] using tx
    subst this;cases e;rfl
   | list b=>obtain⟨_,_,rfl,_⟩:=tx.lst;cases e;rfl
   | tuple b=>obtain⟨_,_,rfl,_⟩:=tx.tup;cases e;rfl
   | dict b=>obtain⟨_,rfl,_⟩:=tx;cases e;rfl
  subst this
  exact q _ H (aB.refl _) (nR _)
 | _=>exact nomatch (show(R.bad:R D)=.ok d from e)
theorem aR:kE X (rD X.K aq):=by
 intro value slice pins s σ H x y v u Q I rx ry h hs
 obtain⟨dx,dy,d,tx,ty,e,q⟩:=h
 cases dx with
 | list a =>
  cases dy with
  | int i =>
   replace e:R.of (FL.cJ a i)=.ok d:=e
   cases ea:FL.cJ a i with
   | none=>rw [ea] at e;cases e
   | some d' =>
    rw [ea] at e
    cases e
    obtain⟨l,xs,rfl,sx,fx⟩:=tx.lst
    obtain⟨w,ew,fw⟩:=fx.cJ ea
    exact zmH value slice pins s σ H _ y v u Q I rx ry ⟨l,xs,i,w,rfl,ty.int,sx,ew,q _ H (aB.refl _) fw⟩ hs
  | _=>exact nomatch (show(R.bad:R D)=.ok d from e)
 | tuple a =>
  cases dy with
  | int i =>
   replace e:R.of (FL.cJ a i)=.ok d:=e
   cases ea:FL.cJ a i with
   | none=>rw [ea] at e;cases e
   | some d' =>
    rw [ea] at e
    cases e
    obtain⟨l,xs,rfl,sx,fx⟩:=tx.tup
    obtain⟨w,ew,fw⟩:=fx.cJ ea
    exact zmJ value slice pins s σ H _ y v u Q I rx ry ⟨l,xs,i,w,rfl,ty.int,sx,ew,q _ H (aB.refl _) fw⟩ hs
  | _=>exact nomatch (show(R.bad:R D)=.ok d from e)
 | _=>exact nomatch (show(R.bad:R D)=.ok d from e)
theorem jX:zaC X (fun x H Q=>∃ d k,Tp X.K H d x/\dB d=.ok k/\Q k H):=by
 intro pins s σ H x v Q I rx h
 obtain⟨d,k,tx,e,q⟩:=h
 refine zh6 pins s σ H x v Q I rx ⟨k,?_,q⟩
 cases d with
 | none=>have:=tx.none;subst this;cases e;rfl
 | bool b=>have:=tx.bool;subst this;cases e;rfl
 | int b=>have:=tx.int;subst this;cases e;rfl
 | list b =>
  obtain⟨a,vs,rfl,sx,fx⟩:=tx.lst
  cases e
  refine .inl ⟨vs,sx,?_⟩
  have:=fx.len
  cases b <;> cases vs <;> simp_all
 | tuple b =>
  obtain⟨a,vs,rfl,sx,fx⟩:=tx.tup
  cases e
  refine .inr (.inl ⟨vs,sx,?_⟩)
  have:=fx.len
  cases b <;> cases vs <;> simp_all
 | _=>exact nomatch (show(R.bad:R Bool)=.ok k from e)
end
end
variable {items:Array dm}{g:D->R D}{f:EF}{hi:Option Int}{prog:AO}{E Q:dm->kb->Prop}{v:Option V}{A:AY}{k:D×En->R (Fl×En)}{p:Az}{w:AJ}
section
variable [Cs]
theorem zoF:fillsNumberSlot (.type "tuple") "mul"=pure false :=
 PySem.fillsNumberSlot_seq (id:="tuple.__mul__") (r:=some (.builtin "tuple.__rmul__")) HC.lookup (by decide +kernel) IU.lookup (by decide +kernel)
theorem zrR:seqRepeat? (.type "tuple")=pure (some (.builtin "tuple.__mul__")):=by
 unfold seqRepeat?
 rw [PySem.seqSlot_of (T:="tuple") (name:="__mul__") (id:="tuple.__mul__") HC.lookup (by decide +kernel),PySem.seqSlot_of (T:="tuple") (name:="__rmul__") (id:="tuple.__rmul__") IU.lookup (by decide +kernel)]
 rfl
section
open PySem.SeqAt
open PySem.AutoSeq1 (wpAny_loadPart')
open PySem.MeetsSeq PySem.MeetsSeq2 PySem.MeetsSeq3
theorem zmx(a:Int)(t:Bf)(l:ir)(items:Array dm)(n:Nat)(dd:Option ir)(sl:Array (Option dm)) :
  Meets (Ce.«int.__rmul__» ⟨[.int a t,.ref l],[]⟩) (fun _ R s=>s.heap.get? l=some { cls:=.type "tuple",dict:=dd,data:=.seq items n,slots:=sl }/\R (.ok (.ret Ir)) s) :=
 .of_wp fun prog w A R s h=>by obtain⟨hp,g,d,tk,os⟩:=s;obtain⟨hl,h⟩:=h;wp_walk;exact⟨_,rfl,h⟩
theorem zsY(l:ir)(items:Array dm)(n:Nat)(dd:Option ir)(sl:Array (Option dm))(k:Int)(t:Bf)(h0:items.isEmpty=false)(h1:2<=k)(h2:k<2^62)(h3:items.size*k.toNat<=AK) :
  Meets (Ce.«tuple.__mul__» ⟨[.ref l,.int k t],[]⟩) (fun _ R s=>s.heap.get? l=some { cls:=.type "tuple",dict:=dd,data:=.seq items n,slots:=sl } /\
   R (.ok (.ret (.ref s.heap.objs.size))) { s with heap:=s.heap.push { cls:=.type "tuple",data:=.seq ((AB k.toNat items).foldl (·++·) #[]) } }) :=
 .of_wp fun prog w A R s h=>by
  obtain⟨hp,g,d,tk,os⟩:=s;obtain⟨hl,h⟩:=h
  have f1:=AutoSeq1.idx_int
  have i0:(items.size:Int)*k<=(AK:Int):=by
   have e:((items.size*k.toNat:Nat):Int)=(items.size:Int)*k:=by rw [HD,Int.toNat_of_nonneg (by lia)]
   rw [<- e]
   exact Int.ofNat_le.mpr h3
  have hA:¬ (decide (k < -2^63)||decide (k ≥ 2^63))=true:=by
   simp only [Hr,decide_eq_true_eq,not_or]
   constructor <;> lia
  have hB:¬ (items.isEmpty||k==1)=true:=by
   rw [h0]
   simp only [Bool.false_or,beq_iff_eq]
   lia
  have hC:¬ (decide (k<=0)||items.isEmpty)=true:=by
   rw [h0]
   simp only [Hh,decide_eq_true_eq]
   lia
  have sz:(AK:Int)<=16777216:=by rw [BU];decide
  have hD:¬ (items.size:Int)*k > (2^63-1) / 8:=by lia
  have hE:¬ IV ((items.size:Int)*k)=true:=by
   unfold IV
   simp only [decide_eq_true_eq]
   lia
  have hs:sizeOk (.seq (FD (fun x1 x2=>x1++x2) #[] (AB k.toNat items))):=by
   obtain⟨its⟩:=items
   have:=foldl_rep its k.toNat []
   rw [A1] at this
   rw [this]
   show(AB k.toNat its).flatten.toArray.size<=AK
   rw [Bk,len_rep,FE]
   exact h3
  wp_walk
  rw [if_neg hA]
  wp_walk using E5 hl
  rw [if_neg hB]
  wp_walk
  rw [if_neg hC]
  wp_walk
  rw [if_neg hD]
  wp_walk
  rw [if_neg (show ¬ (FD (fun x1 x2=>x1++x2) #[] (AB k.toNat items)).size > AK from Gm.mpr hs)]
  wp_walk
  exact⟨_,rfl,h⟩
end
section
theorem zsk{t sl:ir}{vl vu:dm}{lo:Option Int}(ht:Dv s.heap t items)(hs:s.heap.IsSliceOf sl vl vu .none)(pl:Dk vl lo)(pu:Dk vu hi)
  (hw:HT.aU items.size 0 lo=0/\HT.aU items.size items.size hi=items.size)(h:Q (.ref t) s):Av (Ax prog w) A (DT (.ref t) (.ref sl)) Q E s:=by
 obtain⟨os,pP,nU,u5⟩:=id hs
 have hTs:s.TypeIs (.ref sl) "slice":=⟨os,pP,nU⟩
 unfold DT
 try with_reducible refine Ct ?_
 first|refine Ap (AH ?_)|skip
 refine Ap (wpAny_sequenceKey ht.typeIs (by decide) ?_)
 refine Ap (Ec (name:=BD "__getitem__") ht.typeIs E7
  (Dl E7 ht.typeIs entry_tuple_getitem ?_ (args_tuple_getitem _ _)))
 show Av _ _ (Iv (.ref t) >>= _) _ _ s
 refine Ap (tupleItemsOf_ ht ?_)
 refine Ap (FA hTs ?_)
 rw [if_pos (by decide)]
 refine Ap (HT.zhK hs pl pu ?_)
 show Av _ _ (if(((HT.aU items.size 0 lo:Nat):Int)==0&&(1:Int)==1&&(HT.aU items.size items.size hi-HT.aU items.size 0 lo)==items.size)=true then _ else _) _ _ s
 rw [hw.1,hw.2,if_pos (by simp)]
 refine Ap (m:=IW _) ?_
 unfold IW
 refine Ap (FA ht.typeIs (AH ?_))
 rw [if_pos (by decide)]
 exact Ap (Et (Ap (AH (AH ⟨_,rfl,AH h⟩))))
end
section
theorem fL:aV X (B5 .Mult) (rD X.K bq):=by
 intro pins s σ H x y v u Q I rx ry h
 obtain⟨dx,dy,d,tx,ty,e,q⟩:=h
 cases dx with
 | int i =>
  cases dy with
  | int j =>
   obtain⟨c,e⟩:=c7 (show aF (vt i j) (.ok (.int (i*j)))=.ok d from e)
   cases e
   exact zpj pins s σ H x y v u Q I rx ry ⟨i,j,tx.int,ty.int,zoC c,q _ H (aB.refl _) (jL _)⟩
  | _=>exact nomatch (show(R.bad:R D)=.ok d from e)
 | tuple a =>
  cases dy with
  | int k =>
   obtain⟨c,e⟩:=c7 (show aF (!a.isEmpty&&leB 2 k.toNat&&leB k.toNat 1000000&&leB (a.length*k.toNat) lim) (.ok (.tuple (AB k.toNat a).flatten))=.ok d from e)
   cases e
   simp only [BJ,leB_iff] at c
   obtain⟨⟨⟨c0,c1⟩,c2⟩,c3⟩:=c
   obtain⟨l,xs,rfl,sx,fx⟩:=tx.tup
   have:=ty.int
   subst this
   cases rx
   obtain⟨t,rfl⟩:=ry
   obtain⟨its,r1,p1,z1⟩:=I.tuple sx
   obtain⟨⟨cls,dd,data,sl⟩,ho,hc,n,hd⟩:=id p1
   simp only at hc hd
   subst hc hd
   have hl:its.length=a.length:=by rw [<- r1.length,fx.len]
   have hz:its.length*k.toNat<=AK:=by rw [hl];exact Bj c3 ig
   have he:its.toArray.isEmpty=false:=by
    cases its with
    | nil=>simp only [A9] at hl;cases a with|nil=>simp at c0|cons _ _=>simp at hl
    | cons _ _=>rfl
   refine IA (T:="tuple") (U:="int") (by decide) ⟨_,ho,rfl⟩ (fun s'=>FC s' k t) zoF PySem.F.fills_int_mul IX zrR PySem.F.slot_int_index.lookup
    (DH IX (FC s k t) PySem.F.entry_int_rmul (PySem.F.args_int_rmul_2 _ _) (zmx k t l its.toArray n dd sl)
     ⟨ho,rfl,⟨_,ho,rfl⟩,DH HC ⟨_,ho,rfl⟩ PySem.F.entry_tuple_mul (PySem.F.args_tuple_mul_2 _ _) (zsY l its.toArray n dd sl k t he (by lia) (by lia) (by rw [Bk];exact hz)) ⟨ho,?_⟩⟩)
   have en:=foldl_rep its k.toNat []
   rw [A1] at en
   rw [en]
   have hp:H s.heap.objs.size=none:=I.az.fresh (AI _)
   refine⟨.ref s.heap.objs.size,_,I.laid (t':=s.toks) (o:=.tup (AB k.toNat xs).flatten) (fun b ob q=>A5 _ q) (AI _) ⟨by rw [len_rep,FE,r1.length];exact hz,_,r1.rep k.toNat,Fu _ _⟩,rfl,
    q _ _ (aB.upd hp) (yi (.inl cN) ((fx.rep k.toNat).mono (aH.of (aB.upd hp))))⟩
  | _=>exact nomatch (show(R.bad:R D)=.ok d from e)
 | _=>exact nomatch (show(R.bad:R D)=.ok d from e)
theorem zku{ds:List α}{lo:Option Int}(h1:FL.aU ds.length 0 lo=0)(h2:FL.aU ds.length ds.length hi=ds.length):FL.cut ds lo hi=ds:=by
 unfold FL.cut
 rw [h1,h2]
 simp
theorem zE:oY X (zhy X.K):=by
 intro pins s σ H x v vl vu lo hi sl Q I rx hs pl pu h
 obtain⟨dx,d,tx,e,q⟩:=h
 cases dx with
 | list a =>
  cases e
  obtain⟨l,xs,rfl,sx,fx⟩:=tx.lst
  obtain⟨T,id,h1,h2,h3⟩:=zsf pins s σ H _ v vl vu lo hi sl (fun v H1=>∃ p,v=.ref p/\H p=none/\H1=upd H p (.lst (mI xs lo hi))) I rx hs pl pu ⟨l,xs,rfl,sx,fun p hp=>⟨p,rfl,hp,rfl⟩⟩
  exact⟨T,id,h1,h2,aI h3 fun _ _ z=>rB (fx.cut lo hi) q z⟩
 | tuple a =>
  cases e
  obtain⟨l,xs,rfl,sx,fx⟩:=tx.tup
  by_cases w:HT.aU xs.length 0 lo=0/\HT.aU xs.length xs.length hi=xs.length
  ·cases rx
   obtain⟨its,r,ht,hz⟩:=I.tuple sx
   have hlen:its.toArray.size=xs.length:=by rw [Bk];exact r.length.symm
   refine⟨"tuple",_,E7.lookup,ht.typeIs,zsk ht hs pl pu (by rw [hlen];exact w) ⟨.ref l,H,I,rfl,q _ H (aB.refl _) ?_⟩⟩
   rw [fx.len] at w
   rw [zku w.1 w.2]
   exact tx
  ·exact zsh pins s σ H _ v vl vu lo hi sl Q I rx hs pl pu ⟨l,xs,rfl,sx,w,fun p hp=>q _ _ (aB.upd hp) (yi (.inl cN) ((fx.cut lo hi).mono (aH.of (aB.upd hp))))⟩
 | _=>exact nomatch (show(R.bad:R D)=.ok d from e)
end
end
variable {tn:gV}{s:SF}{E:XK}
section
variable [Cs]
section
def fP(X:Cx)(f:dm)(g:D->R D):Prop:=iW X f (rD0 X.K g)
theorem fP.ds{f:dm}{g:D->R D}(h:fP X f g):iW X f (vZ X.K (one g)):=fun pins s σ H xs us Q I r ⟨ds,d,fz,e,q⟩=>by
 cases ds with
 | nil=>exact nomatch (show(R.bad:R D)=.ok d from e)
 | cons d0 r0 =>
  cases r0 with
  | nil =>
   simp only [aj] at fz
   obtain⟨v,r',rfl,fv,e2⟩:=fz
   subst e2
   exact h pins s σ H _ us Q I r ⟨v,d0,d,rfl,fv.tp,e,q⟩
  | cons _ _=>exact nomatch (show(R.bad:R D)=.ok d from e)
theorem o9:fP X (.builtin "len") cH:=by
 intro pins s σ H xs us Q I r h
 obtain⟨x,dx,d,rfl,tx,e,q⟩:=h
 cases dx with
 | list a=>obtain⟨p,vs,rfl,sx,fx⟩:=tx.lst;cases e;exact zeL pins s σ H _ us Q I r ⟨p,vs,rfl,.inl sx,by rw [fx.len];exact q _ H (aB.refl _) (jL _)⟩
 | tuple a=>obtain⟨p,vs,rfl,sx,fx⟩:=tx.tup;cases e;exact zeL pins s σ H _ us Q I r ⟨p,vs,rfl,.inr sx,by rw [fx.len];exact q _ H (aB.refl _) (jL _)⟩
 | _=>exact nomatch (show(R.bad:R D)=.ok d from e)
theorem za1:fP X (.builtin "abs") kH:=by
 intro pins s σ H xs us Q I r h
 obtain⟨x,dx,d,rfl,tx,e,q⟩:=h
 cases dx with
 | int i=>have:=tx.int;subst this;cases e;exact zkb pins s σ H _ us Q I r ⟨i,rfl,q _ H (aB.refl _) (jL _)⟩
 | _=>exact nomatch (show(R.bad:R D)=.ok d from e)
theorem za2(hc:X.calm=true):fP X (.builtin "all") nG:=by
 intro pins s σ H xs us Q I r h
 obtain⟨x,dx,d,rfl,tx,e,q⟩:=h
 cases dx with
 | list a =>
  obtain⟨p,vs,rfl,sx,fx⟩:=tx.lst
  replace e:((R.of (boolsOf a)).bind fun x=>R.ok (BE (x.all id)))=.ok d:=e
  cases ea:boolsOf a with
  | none=>rw [ea] at e;cases e
  | some ns =>
   rw [ea] at e
   cases e
   obtain⟨rfl,_⟩:=fx.bools ea
   exact zkc hc pins s σ H _ us Q I r ⟨p,ns,rfl,sx,q _ H (aB.refl _) (nR _)⟩
 | _=>exact nomatch (show(R.bad:R D)=.ok d from e)
theorem zj0:fP X (.type "list") fK:=by
 intro pins s σ H xs us Q I r h
 obtain⟨x,dx,d,rfl,tx,e,q⟩:=h
 cases dx with
 | list a =>
  obtain⟨p,vs,rfl,sx,fx⟩:=tx.lst
  cases e
  exact aI (zba pins s σ H _ us (fun v H1=>∃ p,v=.ref p/\H p=none/\H1=upd H p (.lst vs)) I r ⟨p,vs,rfl,.inl sx,fun l hl=>⟨l,rfl,hl,rfl⟩⟩) fun _ _ z=>rB fx q z
 | tuple a =>
  obtain⟨p,vs,rfl,sx,fx⟩:=tx.tup
  cases e
  exact aI (zba pins s σ H _ us (fun v H1=>∃ p,v=.ref p/\H p=none/\H1=upd H p (.lst vs)) I r ⟨p,vs,rfl,.inr sx,fun l hl=>⟨l,rfl,hl,rfl⟩⟩) fun _ _ z=>rB fx q z
 | _=>exact nomatch (show(R.bad:R D)=.ok d from e)
theorem xO:fP X (.type "tuple") fq:=by
 intro pins s σ H xs us Q I r h
 obtain⟨x,dx,d,rfl,tx,e,q⟩:=h
 cases dx with
 | list a =>
  obtain⟨p,vs,rfl,sx,fx⟩:=tx.lst
  cases e
  exact zeM pins s σ H _ us Q I r ⟨p,vs,rfl,.inl ⟨sx,fun l hl=>q _ _ (aB.upd hl) (yi (.inl cN) (fx.mono (aH.of (aB.upd hl))))⟩⟩
 | tuple a =>
  obtain⟨p,vs,rfl,sx,fx⟩:=tx.tup
  cases e
  exact zeM pins s σ H _ us Q I r ⟨p,vs,rfl,.inr ⟨sx,q _ H (aB.refl _) tx⟩⟩
 | _=>exact nomatch (show(R.bad:R D)=.ok d from e)
end
theorem Tp.ty{K:ox}{x:V}(c:zib d=true)(h:Tp K H d x):Ty K H x (.type (zdb d)):=by
 cases d with
 | none=>have:=h.none;subst this;exact .non
 | bool b=>have:=h.bool;subst this;exact .bl b
 | int b=>have:=h.int;subst this;exact .int b
 | str b =>
  have:x=.str b:=by simpa [Tp,Fz] using h
  subst this;exact .str b
 | list b=>obtain⟨_,_,rfl,s,_⟩:=h.lst;exact .lst s
 | tuple b=>obtain⟨_,_,rfl,s,_⟩:=h.tup;exact .tup s
 | dict b=>cases c
def oV(T:String):Prop:=∀(K:ox) (d:D),Hm K (.type (zdb d)) (.type T)=some (cL T d)
theorem yH{T:String}(h0:KC.cX "NoneType" T=some (cL T .none)) (h1:∀ b,KC.cX "bool" T=some (cL T (.bool b))) (h2:∀ b,KC.cX "int" T=some (cL T (.int b))) (h3:∀ b,KC.cX "str" T=some (cL T (.str b))) (h4:∀ b,KC.cX "list" T=some (cL T (.list b)))
  (h5:∀ b,KC.cX "tuple" T=some (cL T (.tuple b))) (h6:∀ b,KC.cX "dict" T=some (cL T (.dict b))):oV T:=fun K d=>by
 cases d with
 | none=>exact h0
 | bool b=>exact h1 b
 | int b=>exact h2 b
 | str b=>exact h3 b
 | list b=>exact h4 b
 | tuple b=>exact h5 b
 | dict b=>exact h6 b
theorem znV:oV "int":=yH (by decide +kernel) (fun _=>(by decide +kernel:KC.cX "bool" "int"=some (cL "int" (.bool true)))) (fun _=>(by decide +kernel:KC.cX "int" "int"=some (cL "int" (.int 0)))) (fun _=>(by decide +kernel:KC.cX "str" "int"=some (cL "int" (.str "")))) (fun _=>(by decide +kernel:KC.cX "list" "int"=some (cL "int" (.list [])))) (fun _=>(by decide +kernel:KC.cX "tuple" "int"=some (cL "int" (.tuple [])))) (fun _=>(by decide +kernel:KC.cX "dict" "int"=some (cL "int" (.dict []))))
theorem znU:oV "bool":=yH (by decide +kernel) (fun _=>(by decide +kernel:KC.cX "bool" "bool"=some (cL "bool" (.bool true)))) (fun _=>(by decide +kernel:KC.cX "int" "bool"=some (cL "bool" (.int 0)))) (fun _=>(by decide +kernel:KC.cX "str" "bool"=some (cL "bool" (.str "")))) (fun _=>(by decide +kernel:KC.cX "list" "bool"=some (cL "bool" (.list [])))) (fun _=>(by decide +kernel:KC.cX "tuple" "bool"=some (cL "bool" (.tuple [])))) (fun _=>(by decide +kernel:KC.cX "dict" "bool"=some (cL "bool" (.dict []))))
theorem kit_tuple:oV "tuple":=yH (by decide +kernel) (fun _=>(by decide +kernel:KC.cX "bool" "tuple"=some (cL "tuple" (.bool true)))) (fun _=>(by decide +kernel:KC.cX "int" "tuple"=some (cL "tuple" (.int 0)))) (fun _=>(by decide +kernel:KC.cX "str" "tuple"=some (cL "tuple" (.str "")))) (fun _=>(by decide +kernel:KC.cX "list" "tuple"=some (cL "tuple" (.list [])))) (fun _=>(by decide +kernel:KC.cX "tuple" "tuple"=some (cL "tuple" (.tuple [])))) (fun _=>(by decide +kernel:KC.cX "dict" "tuple"=some (cL "tuple" (.dict []))))
theorem znW:oV "list":=yH (by decide +kernel) (fun _=>(by decide +kernel:KC.cX "bool" "list"=some (cL "list" (.bool true)))) (fun _=>(by decide +kernel:KC.cX "int" "list"=some (cL "list" (.int 0)))) (fun _=>(by decide +kernel:KC.cX "str" "list"=some (cL "list" (.str "")))) (fun _=>(by decide +kernel:KC.cX "list" "list"=some (cL "list" (.list [])))) (fun _=>(by decide +kernel:KC.cX "tuple" "list"=some (cL "list" (.tuple [])))) (fun _=>(by decide +kernel:KC.cX "dict" "list"=some (cL "list" (.dict []))))
section
variable {K:ox}{a:Aq}
theorem zqO{T:String}(kt:oV T)(hg:Gl X "isinstance") (hm:X.mg "isinstance"=none) (hg2:Gl X tn) (hU:X.mg tn=none) (hv2:Bs tn=some (.type T)) (ha:PV K X a f) (hn:tn ≠ "__name__":=by decide) (hd:(tn==("__debug__":gV))=false:=by decide)
  (rM:Au [a,.Name tn p2] X.env=(false,Ay a X.env)::Au [.Name tn p2] X.env:=by exact FL.se rfl) (dh:Au [.Name tn p2] X.env=(false,Ay (.Name tn p2) X.env)::Au [] X.env:=by exact FL.se rfl) (aY:(A0 pos (Au [.Name tn p2] X.env)).any (·.1)=false:=by exact FL.sp rfl) :
  PV K X (.Call (.Name "isinstance" p) [a,.Name tn p2] [] pos) (e1 (hW T) f):=.mk fun hK=>by
 subst hK
 refine(zcB (x:="isinstance") (id:="isinstance") zke hg hm KC.Bt.isinstance (ik (ha rfl) (ik (zpO hg2 hU hv2 hn hd) kl dh) rM) (by decide) (by decide) rM aY).weak fun σ H Q=>?_
 rintro⟨ρ,rel,q⟩
 refine dw rel q fun dx ρ1 x H1 ak aK fx q1=>?_
 obtain⟨d,ed,q3⟩:=q1.bV
 obtain⟨c,ed⟩:=c7 ed
 cases ed
 exact⟨x,.ty T,_,_,rfl,(fun z=>nomatch z),fx.tp.ty c,kt X.K dx,q3.now ak _ (nR _)⟩
theorem sG{f:EF}(h:PV K X e (au (one g) (aa f af))):PV K X e (e1 g f):=.mk fun hK=>(h hK).weak fun σ H Q=>by
 rintro⟨ρ,rel,q⟩
 refine⟨ρ,rel,?_⟩
 have:au (one g) (aa f af) ρ=e1 g f ρ:=by
  unfold au aa af e1
  cases f ρ with
  | ok x=>rfl
  | _=>rfl
 rw [this]
 exact q
end
end
variable {g:D->D->R D}{py:Az}{i:Nat}{y:gV}
section
variable [Cs]
section
variable {K:ox}
theorem zco(h:aZ ρ i=.ok d):∃ p,ρ[i]?=some (.ow p d):=by
 unfold aZ at h
 cases e:ρ[i]? with
 | none=>rw [e] at h;cases h
 | some x =>
  rw [e] at h
  cases x with
  | ow p c=>cases h;exact⟨p,rfl⟩
  | _=>cases h
theorem Rel.kW(r:Rel K ρ σ H)(h:aZ ρ i=.ok d):∃ a,At ρ σ i a/\dn K H a d:=by
 obtain⟨p,e⟩:=zco h
 have hl:i<σ.length:=by rw [<- r.len];exact(By.mp e).1
 have o:=r.ok i _ _ e (Bo hl)
 cases es:σ[i] with
 | none=>rw [es] at o;exact o.elim
 | some v =>
  rw [es] at o
  cases v with
  | ref a=>exact⟨a,⟨⟨p,d,e⟩,by rw [Bo hl,es]⟩,o⟩
  | _=>exact o.elim
theorem Rel.again(r:Rel K ρ1 σ H1)(h:aZ ρ1 i=.ok d)(bz:At ρ σ i a):dn K H1 a d:=by
 obtain⟨b,ab,m⟩:=r.kW h
 have:=bz.2.symm.trans ab.2
 cases this
 exact m
theorem Rel.zqE(r:Rel K ρ σ H)(bz:At ρ σ i a)(m:dn K (upd H a o) a d):Rel K (bW ρ i d) σ (upd H a o):=by
 obtain⟨⟨p,c,e⟩,es⟩:=bz
 have hp:bW ρ i d=ρ.set i (.ow p d):=by unfold bW;rw [e]
 obtain⟨u,hu,ow⟩:=r.eY ⟨i,⟨p,c,e⟩,es⟩
 have f:aH H (upd H a o):=fun b w eb st=>by
  rw [bh fun z=>by subst z;rw [hu] at eb;cases eb;exact ow.jS st]
  exact eb
 have hl:i<ρ.length:=(By.mp e).1
 rw [hp]
 refine⟨by rw [C6];exact r.len,fun j x v e1 e2=>?_,fun j k b h1 h2=>?_,r.cst.mono f⟩
 ·by_cases c:i=j
  ·subst c
   rw [BA hl] at e1
   cases e1
   rw [es] at e2
   cases e2
   exact m
  ·rw [BC c] at e1
   refine(r.ok j x v e1 e2).mono f fun b e3 ⟨q,dd,e4⟩=>?_
   subst e3;subst e4
   refine bh fun z=>?_
   subst z
   exact c (r.sep i j b ⟨⟨p,_,e⟩,es⟩ ⟨⟨q,dd,e1⟩,e2⟩)
 ·have w:∀ j b,At (ρ.set i (.ow p d)) σ j b->At ρ σ j b:=fun j b ⟨⟨q,dd,e1⟩,e2⟩=>by
   by_cases c:i=j
   ·subst c;exact⟨⟨p,_,e⟩,e2⟩
   ·rw [BC c] at e1;exact⟨⟨q,dd,e1⟩,e2⟩
  exact r.sep j k b (w _ _ h1) (w _ _ h2)
theorem zhS(bz:At ρ σ i a):cO ρ (bW ρ i d) σ H (upd H a o):=by
 obtain⟨⟨p,c,e⟩,es⟩:=bz
 have hp:bW ρ i d=ρ.set i (.ow p d):=by unfold bW;rw [e]
 have hl:i<ρ.length:=(By.mp e).1
 rw [hp]
 refine⟨fun j q=>?_,fun b w eb n=>?_⟩
 ·by_cases c:i=j
  ·subst c
   rw [BA hl,e]
   constructor
   ·rintro⟨_,z⟩;cases z;exact⟨_,rfl⟩
   ·rintro⟨_,z⟩;cases z;exact⟨_,rfl⟩
  ·rw [BC c]
 ·rw [bh fun z=>by subst z;exact n ⟨i,⟨p,c,e⟩,es⟩]
  exact eb
end
section
variable {K:ox}{a c:Aq}{k:EF}
theorem zfz{g:D->R D}(hr:∀ xs H Q,rD0 K g xs H Q->r xs H Q)(σ:L2.St)(H:Hp)(Q:VK)(q:tV K (m1 g i) σ H Q):zL r (zhU (dY i) zhV) σ H Q:=by
 obtain⟨ρ,rel,q⟩:=q
 obtain⟨d,ed,q1⟩:=q.bV
 obtain⟨x,ex,q2⟩:=q1.bV
 obtain⟨ad,bz,m⟩:=rel.kW ed
 exact⟨.ref ad,bz.2,hr _ _ _ ⟨.ref ad,d,x,rfl,m.tp,ex,fun v H' s fz=>q2.new rel s v fz⟩⟩
theorem zqP{id:String}{g:D->R D}(i:Nat)(hc:fP X (.builtin id) g)(hg:Gl X x)(hm:X.mg x=none)(hv:Bs x=some (.builtin id))(ha:PE X (.Name y py) (dY i))(hn:x ≠ "__name__":=by decide) (bE:(x==("__debug__":gV))=false:=by decide) :
  PV K X (.Call (.Name x p) [.Name y py] [] pos) (m1 g i):=.mk fun hK=>by
 subst hK
 exact(zcB hc hg hm hv (ik ha kl) hn bE).weak fun σ H Q q=>zfz (fun _ _ _ z=>z) σ H Q q
theorem zqQ{T:String}{g:D->R D}(i:Nat)(hc:fP X (.type T) g)(hg:Gl X x)(hm:X.mg x=none)(hv:Bs x=some (.type T))(ha:PE X (.Name y py) (dY i))(hn:x ≠ "__name__":=by decide) (bE:(x==("__debug__":gV))=false:=by decide) :
  PV K X (.Call (.Name x p) [.Name y py] [] pos) (m1 g i):=.mk fun hK=>by
 subst hK
 exact(zcC hc hg hm hv (ik ha kl) hn bE).weak fun σ H Q q=>zfz (fun _ _ _ z=>z) σ H Q q
theorem zlY{r:R2}(hr:∀ x y H Q,rD K g x y H Q->r x y H Q)(σ:L2.St)(H:Hp)(Q:VK)(q:tV K (m2 g i h) σ H Q):qB r (dY i) (tV K h) σ H Q:=by
 obtain⟨ρ,rel,q⟩:=q
 obtain⟨d,ed,q1⟩:=q.bV
 obtain⟨ad,bz,m⟩:=rel.kW ed
 refine⟨.ref ad,bz.2,dw rel q1 fun dy ρ1 y H1 ak aK fy q2=>?_⟩
 obtain⟨d2,uG,q3⟩:=q2.bV
 obtain⟨x,ex,q4⟩:=q3.bV
 exact hr _ _ _ _ ⟨d2,dy,x,(ak.again uG bz).tp,fy.tp,ex,fun v H' s fz=>q4.new ak s v fz⟩
theorem zqR(i:Nat)(ho:kE X (rD X.K g))(ha:PE X (.Name y py) (dY i))(hb:PV K X b h)(hs:wV b:=by exact fun _ _=>rfl):PV K X (.Subscript (.Name y py) b pos) (m2 g i h):=.mk fun hK=>by
 subst hK
 exact(zg1 ho ha (hb rfl) hs).weak fun σ H Q q=>zlY (fun _ _ _ _ z=>z) σ H Q q
theorem zlZ{r:R2}(hr:∀ x y H Q,rD K g x y H Q->r x y H Q)(σ:L2.St)(H:Hp)(Q:VK)(q:tV K (fj g f i) σ H Q):qB r (tV K f) (dY i) σ H Q:=by
 obtain⟨ρ,rel,q⟩:=q
 refine dw rel q fun dx ρ1 x H1 ak aK fx q2=>?_
 obtain⟨d2,uG,q3⟩:=q2.bV
 obtain⟨x,ex,q4⟩:=q3.bV
 obtain⟨ad,bz,m⟩:=ak.kW uG
 exact⟨.ref ad,bz.2,hr _ _ _ _ ⟨dx,d2,x,fx.tp,m.tp,ex,fun v H' s fz=>q4.new ak s v fz⟩⟩
theorem zrm(i:Nat)(ho:aV X (A3 op) (rD X.K g))(ha:PV K X a f)(hb:PE X (.Name y py) (dY i))(hm:Dz op (.Name y py)=false):fA K X (.Compare a [op] [.Name y py] pos) (tB (fj g f i)):=.mk fun hK=>by
 subst hK
 exact(zhi ho (ha rfl) hb hm).weak fun σ H Q q=>goB (fun σ H Q z=>zlZ (fun _ _ _ _ z=>z) σ H Q z) σ H Q q
end
end
variable {g:GF}{C:SC}{gs:List GF}{pos':Az}{c:List D}{dom:List Nat}{ke tg:Aq}{tc:TF}{r:R (Fl×En)}
section
variable [Cs]
structure SC where
 H₀:Hp
 σ₀:L2.St
 ρ₀:En
structure bU(K:ox)(C:SC)(ρ:En)(σ:L2.St)(H:Hp):Prop where
 rel:Rel K ρ σ H
 keep:∀ a o,C.H₀ a=some o->¬ MA C.ρ₀ C.σ₀ a->H a=some o
 own:∀(i:Nat) a d,ρ[i]?=some (.ow false d)->σ[i]?=some (some (.ref a))->C.H₀ a=none
 pin:∀(i:Nat),(∃ d,ρ[i]?=some (.ow true d))↔∃ d,C.ρ₀[i]?=some (.ow true d)
 fix:∀(i:Nat) d,ρ[i]?=some (.ow true d)->σ[i]?=C.σ₀[i]?
 m8:∀(i:Nat) p d,C.ρ₀[i]?=some (.ow p d)->p=true
section
variable {K:ox}{σ1:L2.St}
theorem bU.zgJ(r:bU K C ρ σ H)(e:C.H₀ a=some o)(n:¬ MA C.ρ₀ C.σ₀ a):¬ MA ρ σ a:=by
 rintro⟨i,⟨p,d,e1⟩,e2⟩
 cases p with
 | false=>rw [r.own i a d e1 e2] at e;cases e
 | true =>
  obtain⟨d0,e0⟩:=(r.pin i).mp ⟨d,e1⟩
  exact n ⟨i,⟨true,d0,e0⟩,by rw [<- r.fix i d e1];exact e2⟩
theorem bU.step(r:bU K C ρ σ H)(rel:Rel K ρ1 σ H1)(st:cO ρ ρ1 σ H H1):bU K C ρ1 σ H1 where
 rel:=rel
 keep:=fun a o e n=>st.kp a o (r.keep a o e n) (r.zgJ e n)
 own:=fun i a d e1 e2=>by
  obtain⟨d',e'⟩:=(st.md i false).mpr ⟨d,e1⟩
  exact r.own i a d' e' e2
 pin:=fun i=>(st.md i true).symm.trans (r.pin i)
 fix:=fun i d e=>by
  obtain⟨d',e'⟩:=(st.md i true).mpr ⟨d,e⟩
  exact r.fix i d' e'
 m8:=r.m8
def lD(dom:List Nat)(ρ ρ1:En)(σ σ1:L2.St):Prop:=σ1.length=σ.length/\∀(i:Nat),(ρ1[i]?=ρ[i]?/\σ1[i]?=σ[i]?)\/(i∈dom/\(∃ d,ρ1[i]?=some (.val d))/\∀ e,ρ[i]?≠some (.ow true e))
theorem lD.refl:lD dom ρ ρ σ σ:=⟨rfl,fun _=>.inl ⟨rfl,rfl⟩⟩
theorem lD.trans{d1 d2:List Nat}{ρ2:En}{σ2:L2.St}(a:lD d1 ρ ρ1 σ σ1)(b:lD d2 ρ1 ρ2 σ1 σ2):lD (d1++d2) ρ ρ2 σ σ2:=⟨b.1.trans a.1,fun i=>by
 rcases b.2 i with⟨b1,b2⟩|⟨bm,b1,b2⟩
 ·rcases a.2 i with⟨a1,a2⟩|⟨am,a1,a2⟩
  ·exact .inl ⟨b1.trans a1,b2.trans a2⟩
  ·exact .inr ⟨D7 _ am,by rw [b1];exact a1,a2⟩
 ·rcases a.2 i with⟨a1,a2⟩|⟨am,a1,a2⟩
  ·exact .inr ⟨Cj _ bm,b1,fun e z=>b2 e (by rw [a1];exact z)⟩
  ·exact .inr ⟨D7 _ am,b1,a2⟩⟩
theorem bU.chg(r:bU K C ρ σ H)(rel:Rel K ρ1 σ1 H)(c:lD dom ρ ρ1 σ σ1):bU K C ρ1 σ1 H where
 rel:=rel
 keep:=r.keep
 own:=fun i a d e1 e2=>by
  rcases c.2 i with⟨c1,c2⟩|⟨_,⟨d',c1⟩,c2⟩
  ·exact r.own i a d (by rw [<- c1];exact e1) (by rw [<- c2];exact e2)
  ·rw [c1] at e1;cases e1
 pin:=fun i=>by
  rcases c.2 i with⟨c1,c2⟩|⟨_,⟨d',c1⟩,c2⟩
  ·rw [c1];exact r.pin i
  ·rw [c1,<- r.pin i]
   constructor
   ·rintro⟨_,z⟩;cases z
   ·rintro⟨d,z⟩;exact absurd z (c2 d)
 fix:=fun i d e=>by
  rcases c.2 i with⟨c1,c2⟩|⟨_,⟨d',c1⟩,c2⟩
  ·rw [c2];exact r.fix i d (by rw [<- c1];exact e)
  ·rw [c1] at e;cases e
 m8:=r.m8
theorem bU.fresh(r:bU K C ρ σ H)(ha:H a=none):C.H₀ a=none:=by
 cases e0:C.H₀ a with
 | none=>rfl
 | some o =>
  by_cases k:MA C.ρ₀ C.σ₀ a
  ·obtain⟨i,⟨p,d0,e1⟩,e2⟩:=k
   have:=r.m8 i p d0 e1
   subst this
   obtain⟨d2,e3⟩:=(r.pin i).mpr ⟨d0,e1⟩
   obtain⟨o',e',_⟩:=r.rel.eY ⟨i,⟨true,d2,e3⟩,by rw [r.fix i d2 e3];exact e2⟩
   rw [ha] at e';cases e'
  ·rw [r.keep a o e0 k] at ha;cases ha
def eQ(K:ox)(C:SC)(H:Hp)(r:R (Fl×En))(Dn:Ends):Prop:=match r with
 | .ok x=>match x.1 with
  | .nx=>∀ σ' H',bU K C x.2 σ' H'->aH H H'->Dn.nx σ' H'
  | .bk=>∀ σ' H',bU K C x.2 σ' H'->aH H H'->Dn.bk σ' H'
  | .ct=>∀ σ' H',bU K C x.2 σ' H'->aH H H'->Dn.ct σ' H'
  | .rt d=>∀ v σ' H',bU K C x.2 σ' H'->Fz K H' d v->Dn.rt v H'
  | .rf d=>∀ a σ' H',bU K C x.2 σ' H'->C.H₀ a=none->dn K H' a d->Dn.rt (.ref a) H'
 | _=>False
theorem eQ.step{Dn:Ends}(f:aH H H1)(g:eQ K C H r Dn):eQ K C H1 r Dn:=by
 cases r with
 | ok x =>
  obtain⟨fl,ρ⟩:=x
  cases fl with
  | nx=>exact fun σ' H' r z=>g σ' H' r (f.trans z)
  | bk=>exact fun σ' H' r z=>g σ' H' r (f.trans z)
  | ct=>exact fun σ' H' r z=>g σ' H' r (f.trans z)
  | rt d=>exact g
  | rf d=>exact g
 | _=>exact g
theorem eQ.bJ{r:R β}{k:β->R (Fl×En)}{Dn:Ends}(g:eQ K C H (r.bind k) Dn):∃ x,r=.ok x/\eQ K C H (k x) Dn:=by
 cases r with
 | ok x=>exact⟨x,rfl,g⟩
 | _=>exact g.elim
noncomputable def tS(K:ox)(C:SC)(f:SF):TS:=fun Dn σ H=>∃ ρ,bU K C ρ σ H/\eQ K C H (f ρ) Dn
theorem jj{S:VK}{Dn:Ends}(rel:bU K C ρ σ H)(g:eQ K C H ((f ρ).bind k) Dn)
  (h:∀ d ρ1 v H1,bU K C ρ1 σ H1->cO ρ ρ1 σ H H1->Fz K H1 d v->eQ K C H1 (k (d,ρ1)) Dn->S v H1):tV K f σ H S:=by
 obtain⟨x,e,g1⟩:=g.bJ
 refine⟨ρ,rel.rel,?_⟩
 rw [e]
 exact fun H' r s v fz=>h x.1 x.2 v H' (rel.step r s) s fz (g1.step (s.dM rel.rel))
theorem zbM{f:TF}{k:Bool×En->R (Fl×En)}{Dn:Ends}(rel:bU K C ρ σ H)(g:eQ K C H ((f ρ).bind k) Dn)
  (h:∀ b ρ1 H1,bU K C ρ1 σ H1->aH H H1->eQ K C H1 (k (b,ρ1)) Dn->S b H1):tT K f σ H S:=by
 obtain⟨x,e,g1⟩:=g.bJ
 refine⟨ρ,rel.rel,?_⟩
 rw [e]
 exact fun H' r s=>h x.1 x.2 H' (rel.step r s) (s.dM rel.rel) (g1.step (s.dM rel.rel))
theorem zfA{S:VK}{Dn:Ends}(rel:bU K C ρ σ H)(g:eQ K C H ((f ρ).bind k) Dn)
  (h:∀ d ρ1 a H1,bU K C ρ1 σ H1->aH H H1->H a=none->¬ MA ρ1 σ a->dn K H1 a d->eQ K C H1 (k (d,ρ1)) Dn->S (.ref a) H1):tN K f σ H S:=by
 obtain⟨x,e,g1⟩:=g.bJ
 refine⟨ρ,rel.rel,?_⟩
 rw [e]
 refine fun H' r s a ha m=>h x.1 x.2 a H' (rel.step r s) (s.dM rel.rel) ha (fun z=>?_) m (g1.step (s.dM rel.rel))
 obtain⟨o',e',_⟩:=rel.rel.eY (s.ma.mpr z)
 rw [ha] at e';cases e'
end
structure cI(K:ox)(X:Cx)(st:AU)(f:SF):Prop where
 run:X.K=K->∀ C,PS X st (tS K C f)
instance {K:ox} {X:Cx} {st:AU} {f:SF}:CoeFun (cI K X st f) fun _=>X.K=K->∀ C,PS X st (tS K C f):=⟨cI.run⟩
structure fH(K:ox)(X:Cx)(st:List AU)(f:SF):Prop where
 run:X.K=K->∀ C,cG X st (tS K C f)
instance {K:ox} {X:Cx} {st:List AU} {f:SF}:CoeFun (fH K X st f) fun _=>X.K=K->∀ C,cG X st (tS K C f):=⟨fH.run⟩
theorem _root_.L2.PS.weak{e:AU}{t t':TS}(h:PS X e t)(w:∀ Dn σ H,t' Dn σ H->t Dn σ H):PS X e t':=fun pins s σ H Dn I q=>h pins s σ H Dn I (w Dn σ H q)
theorem _root_.L2.cG.weak{e:List AU}{t t':TS}(h:cG X e t)(w:∀ Dn σ H,t' Dn σ H->t Dn σ H):cG X e t':=fun pins s σ H Dn I q=>h pins s σ H Dn I (w Dn σ H q)
noncomputable def tG(K:ox)(dom:List Nat)(g:GF):TG:=fun v σ H Q=>∃ ρ d ρ1,Rel K ρ σ H/\Fz K H d v/\g d ρ=.ok ρ1/\∀ σ1,Rel K ρ1 σ1 H->lD dom ρ ρ1 σ σ1->Q σ1 H
def tGs(K:ox)(dom:List Nat)(gs:List GF):mC:=fun vs σ H Q=>∃ ρ ds ρ1,Rel K ρ σ H/\aj K H ds vs/\eU gs ds ρ=.ok ρ1/\∀ σ1,Rel K ρ1 σ1 H->lD dom ρ ρ1 σ σ1->Q σ1 H
structure jH(K:ox)(X:Cx)(dom:List Nat)(e:Aq)(g:GF):Prop where
 run:X.K=K->PG X e (tG K dom g)
instance {K:ox} {X:Cx} {dom:List Nat} {e:Aq} {g:GF}:CoeFun (jH K X dom e g) fun _=>X.K=K->PG X e (tG K dom g):=⟨jH.run⟩
structure qT(K:ox)(X:Cx)(dom:List Nat)(e:List Aq)(g:List GF):Prop where
 run:X.K=K->mz X e (tGs K dom g)
instance {K:ox} {X:Cx} {dom:List Nat} {e:List Aq} {g:List GF}:CoeFun (qT K X dom e g) fun _=>X.K=K->mz X e (tGs K dom g):=⟨qT.run⟩
theorem _root_.L2.PG.weak{t t':TG}(h:PG X e t)(w:∀ v σ H Q,t' v σ H Q->t v σ H Q):PG X e t':=fun pins s σ H v u Q I r q=>h pins s σ H v u Q I r (w v σ H Q q)
theorem _root_.L2.mz.weak{e:List Aq}{t t':mC}(h:mz X e t)(w:∀ v σ H Q,t' v σ H Q->t v σ H Q):mz X e t':=fun pins s σ H v u Q I r q=>h pins s σ H v u Q I r (w v σ H Q q)
theorem Rel.set{K:ox}{ρ:En}{σ:L2.St}{H:Hp}{i:Nat}{x:Sl}{v:Option V}(r:Rel K ρ σ H)(o:lG K H x v)(s:∀ a p d,x=.ow p d->v=some (.ref a)->¬ MA ρ σ a):Rel K (ρ.set i x) (σ.set i v) H:=by
 refine⟨by rw [C6,C6];exact r.len,fun j y w e1 e2=>?_,fun j k b h1 h2=>?_,r.cst⟩
 ·by_cases c:i=j
  ·subst c
   by_cases hl:i<ρ.length
   ·rw [BA hl] at e1
    rw [BA (by rw [<- r.len];exact hl)] at e2
    cases e1;cases e2
    exact o
   ·rw [Gs (by rw [C6];lia)] at e1;cases e1
  ·rw [BC c] at e1 e2
   exact r.ok j y w e1 e2
 ·have w:∀ j b,At (ρ.set i x) (σ.set i v) j b->(j=i/\(∃ p d,x=.ow p d)/\v=some (.ref b))\/(j≠i/\At ρ σ j b):=fun j b ⟨⟨q,dd,e1⟩,e2⟩=>by
   by_cases c:i=j
   ·subst c
    have hl:i<ρ.length:=by
     have:=(By.mp e1).1
     rwa [C6] at this
    rw [BA hl] at e1
    rw [BA (by rw [<- r.len];exact hl)] at e2
    cases e1;cases e2
    exact .inl ⟨rfl,⟨q,dd,rfl⟩,rfl⟩
   ·rw [BC c] at e1 e2
    exact .inr ⟨fun z=>c z.symm,⟨q,dd,e1⟩,e2⟩
  rcases w j b h1 with⟨rfl,⟨p,d,e⟩,e'⟩|⟨n1,a1⟩
  ·rcases w k b h2 with⟨rfl,_,_⟩|⟨n2,a2⟩
   ·rfl
   ·exact absurd ⟨k,a2⟩ (s b p d e e')
  ·rcases w k b h2 with⟨rfl,⟨p,d,e⟩,e'⟩|⟨n2,a2⟩
   ·exact absurd ⟨j,a1⟩ (s b p d e e')
   ·exact r.sep j k b a1 a2
section
variable {K:ox}
theorem uQ(h:gN i d ρ=.ok ρ1):ρ1=ρ.set i (.val d)/\(∀ e,ρ[i]?≠some (.ow true e))/\i<ρ.length:=by
 unfold gN at h
 cases e:ρ[i]? with
 | none=>rw [e] at h;cases h
 | some x =>
  rw [e] at h
  have hl:i<ρ.length:=(By.mp e).1
  cases x with
  | no=>cases h;exact⟨rfl,(fun _ z=>nomatch z),hl⟩
  | val c=>cases h;exact⟨rfl,(fun _ z=>nomatch z),hl⟩
  | ob c ds=>cases h;exact⟨rfl,(fun _ z=>nomatch z),hl⟩
  | ow p c =>
   cases p with
   | true=>cases h
   | false=>cases h;exact⟨rfl,(fun _ z=>nomatch z),hl⟩
theorem uA(n:∀ e,ρ[i]?≠some (.ow true e))(hl:i<ρ.length):lD [i] ρ (ρ.set i (.val d)) σ (σ.set i v):=⟨C6,fun j=>by
 by_cases c:i=j
 ·subst c
  exact .inr ⟨Dp.mpr rfl,⟨d,BA hl⟩,n⟩
 ·exact .inl ⟨BC c,BC c⟩⟩
theorem zqX(hN:X.N.Nodup)(hi:X.N[i]?=some x)(hx:Loc X.env.scope x)(hf:X.fn x=true\/X.env.scope.names.lookup x=some .local:=by first|exact .inl rfl|exact .inr rfl|assumption):jH K X [i] (.Name x pos) (gN i):=.mk fun _=>(zpS hN hi hx hf).weak fun v σ H Q=>by
 rintro⟨ρ,d,ρ1,rel,fz,e,q⟩
 obtain⟨rfl,n,hl⟩:=uQ e
 exact q _ (rel.set fz fun _ _ _ z=>nomatch z) (uA n hl)
theorem f6:qT K X [] [] []:=.mk fun _=>zpW.weak fun vs σ H Q=>by
 rintro⟨ρ,ds,ρ1,rel,fz,e,q⟩
 cases ds with
 | nil =>
  cases e
  simp only [aj] at fz
  exact⟨fz,q _ rel .refl⟩
 | cons _ _=>cases e
theorem bZ{α β:Type}{r:R α}{k:α->R β}{b:β}(h:r.bind k=.ok b):∃ a,r=.ok a/\k a=.ok b:=by
 cases r with
 | ok a=>exact⟨a,rfl,h⟩
 | _=>cases h
theorem bL{d1 d2:List Nat}(h1:jH K X d1 e g)(h2:qT K X d2 es gs)
  (hs:(C2 (e::es) X.env).map (·.2)=CG e X.env::(C2 es X.env).map (·.2):=by rfl):qT K X (d1++d2) (e::es) (g::gs):=.mk fun hK=>(zpV (h1 hK) (h2 hK) hs).weak fun vs σ H Q=>by
 rintro⟨ρ,ds,ρ1,rel,fz,e,q⟩
 cases ds with
 | nil=>cases e
 | cons d ds =>
  simp only [aj] at fz
  obtain⟨v,r,rfl,f1,f2⟩:=fz
  obtain⟨ρ2,e2,e3⟩:=bZ (show(g d ρ).bind (fun ρ1=>eU gs ds ρ1)=.ok ρ1 from e)
  exact⟨v,r,rfl,ρ,d,ρ2,rel,f1,e2,fun σ1 ak c1=>⟨ρ2,ds,ρ1,ak,f2,e3,fun σ2 bS c2=>q σ2 bS (c1.trans c2)⟩⟩
theorem zft:∀{gs:List GF} {ds:List D} {ρ ρ1:En},eU gs ds ρ=.ok ρ1->ds.length=gs.length
 | [],[],_,_,_=>rfl
 | [],_::_,_,_,e=>by cases e
 | _::_,[],_,_,e=>by cases e
 | g::gs,d::ds,ρ,ρ1,e=>by
  obtain⟨ρ2,e2,e3⟩:=bZ (show(g d ρ).bind (fun ρ1=>eU gs ds ρ1)=.ok ρ1 from e)
  simp [zft e3]
theorem fZ{k:Nat}(hc:X.calm=true)(h:qT K X dom es gs)
  (hn:(C2 es X.env).length=gs.length:=by rfl)(cK:(C2 es X.env).findIdx? (·.1)=none:=by rfl):jH K X dom (.Tuple es k pos) (gT gs):=.mk fun hK=>by
 subst hK
 refine(zpU hc (h rfl) hn cK).weak fun v σ H Q=>?_
 rintro⟨ρ,d,ρ1,rel,fz,e,q⟩
 cases d with
 | tuple ds =>
  simp only [Fz] at fz
  obtain⟨a,vs,rfl,s,f⟩:=fz
  replace e:eU gs ds ρ=.ok ρ1:=e
  exact⟨a,vs,rfl,.inl s,by rw [f.len,zft e],ρ,ds,ρ1,rel,f,e,q⟩
 | _=>cases e
variable {st:AU}{rest:List AU}{t:SF}
theorem cS:fH K X [] aL:=.mk fun _ C=>zcJ.weak fun Dn σ H=>by
 rintro⟨ρ,rel,g⟩
 exact g σ H rel (aH.refl H)
theorem aE(h1:cI K X st s)(h2:fH K X rest t):fH K X (st::rest) (av s t):=.mk fun hK C=>(zg (h1 hK C) (h2 hK C)).weak fun Dn σ H=>by
 rintro⟨ρ,rel,g⟩
 refine⟨ρ,rel,?_⟩
 obtain⟨x,ex,g1⟩:=g.bJ
 rw [ex]
 obtain⟨fl,ρ1⟩:=x
 cases fl with
 | nx=>exact fun σ' H' r z=>⟨ρ1,r,g1.step z⟩
 | bk=>exact g1
 | ct=>exact g1
 | rt d=>exact g1
 | rf d=>exact g1
theorem bX(h1:cI K X st s):fH K X [st] s:=.mk fun hK C=>zcK (h1 hK C)
theorem sJ:cI K X st dA:=.mk fun _ C=>zhg.weak fun Dn σ H=>by
 rintro⟨ρ,rel,g⟩
 exact g.elim
theorem zrc(he:PV K X e f)(hs:BR e none pos.line X.env=pure false:=by rfl):cI K X (.Expr e pos) (sE f):=.mk fun hK C=>(zcI (he hK) hs).weak fun Dn σ H=>by
 rintro⟨ρ,rel,g⟩
 exact jj rel g fun d ρ1 v H1 ak aK fz g1=>g1 σ H1 ak (aH.refl H1)
theorem zhp(he:PV K X e f):cI K X (.Return (some e) pos) (ax f):=.mk fun hK C=>(zc (he hK)).weak fun Dn σ H=>by
 rintro⟨ρ,rel,g⟩
 exact jj rel g fun d ρ1 v H1 ak aK fz g1=>g1 v σ H1 ak fz
theorem sM(he:bY K X e f):cI K X (.Return (some e) pos) (cT f):=.mk fun hK C=>(zc (he hK)).weak fun Dn σ H=>by
 rintro⟨ρ,rel,g⟩
 exact zfA rel g fun d ρ1 a H1 ak fz ha n m g1=>g1 a σ H1 ak (rel.fresh ha) m
theorem zcR(i:Nat)(ha:PE X (.Name y py) (dY i)):cI K X (.Return (some (.Name y py)) pos) (f9 i):=.mk fun hK C=>(zc ha).weak fun Dn σ H=>by
 rintro⟨ρ,rel,g⟩
 unfold f9 at g
 cases e:ρ[i]? with
 | none=>rw [e] at g;exact g.elim
 | some x =>
  rw [e] at g
  cases x with
  | ow p d =>
   cases p with
   | false =>
    obtain⟨a,bz,m⟩:=rel.rel.kW (d:=d) (show aZ ρ i=.ok d by unfold aZ;rw [e])
    exact⟨.ref a,bz.2,g a σ H rel (rel.own i a d e bz.2) m⟩
   | true=>exact g.elim
  | _=>exact g.elim
theorem cR{c:Aq}{a b:List AU}(hc:fA K X c tc)(ha:fH K X a s)(hb:fH K X b t):cI K X (.If c a b pos) (aG tc s t):=.mk fun hK C=>(zhf (hc hK) (ha hK C) (hb hK C)).weak fun Dn σ H=>by
 rintro⟨ρ,rel,g⟩
 refine zbM rel g fun cb ρ1 H1 ak fz g1=>?_
 cases cb with
 | true=>exact mV ⟨ρ1,ak,g1⟩
 | false=>exact mU ⟨ρ1,ak,g1⟩
theorem qm(he:PV K X e f)(hg:jH K X dom tg g)(hs:EY [tg] e pos.line X.env=pure false:=by rfl)(hw:EZ [tg] e X.env=pure none:=by rfl)
  (h1:(C2 [tg] X.env).map (·.2)=[CG tg X.env]:=by rfl):cI K X (.Assign [tg] e pos) (ay g f):=.mk fun hK C=>(zhe (he hK) (hg hK) hs hw h1).weak fun Dn σ H=>by
 rintro⟨ρ,rel,q⟩
 refine jj rel q fun d ρ1 v H1 ak aK fz q1=>?_
 obtain⟨ρ2,e2,q2⟩:=q1.bJ
 exact⟨ρ1,d,ρ2,ak.rel,fz,e2,fun σ1 bS c=>q2 σ1 H1 (ak.chg bS c) (aH.refl H1)⟩
theorem zrk(hN:X.N.Nodup)(hi:X.N[i]?=some x)(hx:Loc X.env.scope x)(he:PV K X e f)(hs:BR e (some (.Name x pos')) pos.line X.env=pure false:=by rfl)(hf:X.fn x=true\/X.env.scope.names.lookup x=some .local:=by first|exact .inl rfl|exact .inr rfl|assumption) :
  cI K X (.Assign [.Name x pos'] e pos) (ay (gN i) f):=.mk fun hK C=>(zf hN hi hx (he hK) hs hf).weak fun Dn σ H=>by
 rintro⟨ρ,rel,q⟩
 refine jj rel q fun d ρ1 v H1 ak aK fz q1=>?_
 obtain⟨ρ2,e2,q2⟩:=q1.bJ
 obtain⟨rfl,n,hl⟩:=uQ e2
 exact q2 _ H1 (ak.chg (ak.rel.set fz fun _ _ _ z=>nomatch z) (uA n hl)) (aH.refl H1)
theorem zfB(Dn:Ends)(σ:L2.St)(H:Hp)(q0:tS K C (bH i f) Dn σ H):wg (tN K f) (uR i) Dn σ H:=by
 revert q0
 rintro⟨ρ,rel,q⟩
 refine zfA rel q fun d ρ1 a H1 ak fz ha n m q1=>?_
 have hf:=rel.fresh ha
 replace q1:eQ K C H1 (match ρ1[i]? with|some (.ow true _)=>.bad|some _=>.ok (.nx,ρ1.set i (.ow false d))|none=>.bad) Dn:=q1
 have fin:(∀ e,ρ1[i]?≠some (.ow true e))->i<ρ1.length->bU K C (ρ1.set i (.ow false d)) (σ.set i (some (.ref a))) H1:=fun np hl=>by
  have hls:i<σ.length:=by rw [<- ak.rel.len];exact hl
  refine⟨ak.rel.set (show lG K H1 (.ow false d) (some (.ref a)) from m) fun b p c e1 e2=>by cases e2;exact n,ak.keep,fun j b c e1 e2=>?_,fun j=>?_,fun j c e1=>?_,ak.m8⟩
  ·by_cases k:i=j
   ·subst k
    rw [BA hls] at e2
    cases e2
    exact hf
   ·rw [BC k] at e1 e2
    exact ak.own j b c e1 e2
  ·by_cases k:i=j
   ·subst k
    rw [BA hl,<- ak.pin i]
    constructor
    ·rintro⟨_,z⟩;cases z
    ·rintro⟨c,z⟩;exact absurd z (np c)
   ·rw [BC k];exact ak.pin j
  ·by_cases k:i=j
   ·subst k
    rw [BA hl] at e1;cases e1
   ·rw [BC k] at e1 ⊢
    exact ak.fix j c e1
 cases e1:ρ1[i]? with
 | none=>rw [e1] at q1;exact q1.elim
 | some y =>
  have hl:i<ρ1.length:=(By.mp e1).1
  rw [e1] at q1
  cases y with
  | no=>exact q1 _ H1 (fin (fun e z=>by rw [e1] at z;cases z) hl) (aH.refl H1)
  | val c=>exact q1 _ H1 (fin (fun e z=>by rw [e1] at z;cases z) hl) (aH.refl H1)
  | ob c ds=>exact q1 _ H1 (fin (fun e z=>by rw [e1] at z;cases z) hl) (aH.refl H1)
  | ow p c =>
   cases p with
   | true=>exact q1.elim
   | false=>exact q1 _ H1 (fin (fun e z=>by rw [e1] at z;cases z) hl) (aH.refl H1)
theorem zrh(hN:X.N.Nodup)(hi:X.N[i]?=some x)(hx:Loc X.env.scope x)(he:bY K X e f)(hs:BR e (some (.Name x pos')) pos.line X.env=pure false:=by rfl)(hf:X.fn x=true\/X.env.scope.names.lookup x=some .local:=by first|exact .inl rfl|exact .inr rfl|assumption) :
  cI K X (.Assign [.Name x pos'] e pos) (bH i f):=.mk fun hK C=>(zf hN hi hx (he hK) hs hf).weak fun Dn σ H q=>zfB Dn σ H q
theorem sI(i:Nat)(h:cI K X st s):cI K X st (dN i s):=.mk fun hK C=>by
 have h1:PS X st (fun Dn σ H=>∃ a u,H a=some u/\Own u/\∀ o,tS K C s Dn σ (upd H a (.frz o u))):=fun pins sh σ H Dn I ⟨a,u,e,ow,q⟩=>by
  obtain⟨o,ho⟩:=(I.az a u e).some
  exact h hK C pins sh σ _ Dn (zbv I e ow ho) (q o)
 refine h1.weak fun Dn σ H=>?_
 rintro⟨ρ,rel,g⟩
 unfold dN at g
 cases e:ρ[i]? with
 | none=>rw [e] at g;exact g.elim
 | some x =>
  rw [e] at g
  cases x with
  | ow p d =>
   cases p with
   | true=>exact g.elim
   | false =>
    obtain⟨a,bz,m⟩:=rel.rel.kW (d:=d) (show aZ ρ i=.ok d by unfold aZ;rw [e])
    obtain⟨u,e1,ow⟩:=m.own
    refine⟨a,u,e1,ow,fun o=>⟨ρ.set i (.val d),?_,g.step ?_⟩⟩
    ·have hl:i<ρ.length:=(By.mp e).1
     have mO:=rel.own i a d e bz.2
     have fz:aH H (upd H a (.frz o u)):=fun b w e2 sy=>by
      rw [bh fun z=>by subst z;rw [e1] at e2;cases e2;exact ow.jS sy]
      exact e2
     have fd:Fz K (upd H a (.frz o u)) d (.ref a):=by
      cases d with
      | list ds =>
       obtain⟨vs,h1,h2⟩:=m
       rw [e1] at h1
       cases h1
       simp only [Fz]
       exact⟨a,vs,rfl,.inl ⟨o,cN⟩,h2.mono fz⟩
      | dict ag =>
       simp only [Fz]
       obtain⟨kk,h1,h2⟩:=m
       rw [e1] at h1
       cases h1
       exact⟨a,o,rfl,⟨kk,cN,h2.mono fz⟩⟩
      | _=>exact m.elim
     have uq:∀ j b,At (ρ.set i (.val d)) σ j b->j≠i/\At ρ σ j b:=fun j b ⟨⟨q,dd,e1⟩,e2⟩=>by
      by_cases c:i=j
      ·subst c
       rw [BA hl] at e1;cases e1
      ·rw [BC c] at e1
       exact⟨fun z=>c z.symm,⟨q,dd,e1⟩,e2⟩
     refine⟨⟨by rw [C6];exact rel.rel.len,fun j y w e2 e3=>?_,fun j k b h1 h2=>rel.rel.sep j k b (uq j b h1).2 (uq k b h2).2,rel.rel.cst.mono fz⟩,fun b w e2 n=>?_,fun j b c e2 e3=>?_,fun j=>?_,fun j c e2=>?_,rel.m8⟩
     ·by_cases c:i=j
      ·subst c
       rw [BA hl] at e2
       cases e2
       rw [bz.2] at e3
       cases e3
       exact fd
      ·rw [BC c] at e2
       refine(rel.rel.ok j y w e2 e3).mono fz fun b e4 ⟨p,dd,e5⟩=>?_
       subst e4;subst e5
       refine bh fun z=>?_
       subst z
       exact c (rel.rel.sep i j b bz ⟨⟨p,dd,e2⟩,e3⟩)
     ·rw [bh fun z=>by subst z;rw [mO] at e2;cases e2]
      exact rel.keep b w e2 n
     ·by_cases c:i=j
      ·subst c
       rw [BA hl] at e2;cases e2
      ·rw [BC c] at e2
       exact rel.own j b _ e2 e3
     ·by_cases c:i=j
      ·subst c
       rw [BA hl,<- rel.pin i,e]
       constructor
       ·rintro⟨_,z⟩;cases z
       ·rintro⟨_,z⟩;cases z
      ·rw [BC c];exact rel.pin j
     ·by_cases k:i=j
      ·subst k
       rw [BA hl] at e2;cases e2
      ·rw [BC k] at e2
       exact rel.fix j c e2
    ·exact fun b w e2 sy=>by
      rw [bh fun z=>by subst z;rw [e1] at e2;cases e2;exact ow.jS sy]
      exact e2
  | _=>exact g.elim
theorem zoe(h:bP ρ i=.ok c):∃ p,ρ[i]?=some (.ow p (.list c)):=by
 unfold bP at h
 cases e:ρ[i]? with
 | none=>rw [e] at h;cases h
 | some x =>
  rw [e] at h
  cases x with
  | ow p d =>
   cases d with
   | list a=>cases h;exact⟨p,rfl⟩
   | _=>cases h
  | _=>cases h
theorem Rel.yK(r:Rel K ρ σ H)(h:bP ρ i=.ok c):∃ a vs,At ρ σ i a/\H a=some (.lst vs)/\aj K H c vs:=by
 obtain⟨p,e⟩:=zoe h
 obtain⟨a,bz,m⟩:=r.kW (d:=.list c) (show aZ ρ i=.ok (.list c) by unfold aZ;rw [e])
 obtain⟨vs,h1,h2⟩:=m
 exact⟨a,vs,bz,h1,h2⟩
theorem Rel.zcg(r:Rel K ρ1 σ H1)(h:bP ρ1 i=.ok c)(bz:At ρ σ i a):∃ vs,At ρ1 σ i a/\H1 a=some (.lst vs)/\aj K H1 c vs:=by
 obtain⟨b,vs,ab,h1,h2⟩:=r.yK h
 have:=bz.2.symm.trans ab.2
 cases this
 exact⟨vs,ab,h1,h2⟩
theorem yp{Dn:Ends}(rel:bU K C ρ σ H)(bz:At ρ σ i a)(m:dn K (upd H a o) a d)(g:eQ K C H (.ok (.nx,bW ρ i d)) Dn):Dn.nx σ (upd H a o):=by
 have st:cO ρ (bW ρ i d) σ H (upd H a o):=zhS bz
 exact g σ _ (rel.step (rel.rel.zqE bz m) st) (st.dM rel.rel)
theorem zby(rel:bU K C ρ σ H)(bz:At ρ σ i a):aH H (upd H a o):=(zhS (d:=.none) bz).dM rel.rel
theorem zho{name:gV}{apos cP:Az}(i:Nat)(hnm:name="append") (ha:PE X (.Name y py) (dY i)) (he:PV K X e f)
  (pH:DA (.Name y py) name X.env (Ay (.Name y py) X.env)=Ay (.Name y py) X.env:=by rfl)
  (pJ:((A0 cP (Au [e] X.env)).all (fun x=>!x.1)&&(DN cP (DQ [] X.env)).all (fun x=>x.1.isSome)&&decide ([e].length+([]:List Ed).length+(if([]:List Ed).isEmpty then 0 else 1)<30))=true:=by rfl)
  (pK:(apos.endLine==cP.line)=true:=by rfl) (cK:Au [e] X.env=(false,Ay e X.env)::Au [] X.env:=by exact FL.se rfl) (pR:(A0 cP (Au [] X.env)).any (·.1)=false:=by exact FL.sp rfl)
  (hs:BR (.Call (.Attribute (.Name y py) name apos) [e] [] cP) none pos.line X.env=pure false:=by rfl):cI K X (.Expr (.Call (.Attribute (.Name y py) name apos) [e] [] cP) pos) (gh i fI f):=.mk fun hK C=>by
 subst hK
 subst hnm
 refine(zcI (zcA IY PySem.F.slot_list_append PySem.F.type_list_append zcn ha (ik (he rfl) kl cK) pH pJ pK cK pR) hs).weak fun Dn σ H=>?_
 rintro⟨ρ,rel,g⟩
 obtain⟨d,ed,g1⟩:=g.bJ
 obtain⟨a,zY,bz,h0,_⟩:=rel.rel.yK ed
 refine⟨.ref a,bz.2,.inl ⟨rfl,zY,bB.of h0⟩,jj rel g1 fun dx ρ1 v H1 ak aK fz g2=>?_⟩
 obtain⟨c,ec,g3⟩:=g2.bJ
 obtain⟨c',kK,g4⟩:=g3.bJ
 obtain⟨vs,uj,h1,h2⟩:=ak.rel.zcg ec bz
 obtain⟨cc,kK⟩:=c7 kK
 cases kK
 have hz:vs.length<AK:=by
  have:=fi cc
  have l0:=ig
  rw [h2.len];lia
 refine⟨a,vs,v,rfl,rfl,h1,hz,yp (d:=.list (c++[dx])) ak uj ⟨_,cN,(h2.app ?_).mono (zby ak uj)⟩ g4⟩
 simp only [aj]
 exact⟨v,[],rfl,fz,rfl⟩
theorem vU{lS:Az}{k:EF}(i:Nat)(ha:PE X (.Name y py) (dY i))(he:PV K X e f)(hk:PV K X ke k)
  (has:∀ v,CG (.Subscript (.Name y py) ke lS) X.env v=(do
   let ov <- Dy [v] (Ay (.Name y py) X.env)
   let iv <- Dy [v,ov] (Ay ke X.env)
   EX lS
   Dy [v,ov,iv] (setItem ov iv v)
   release [v,ov,iv] []):=by intro _;rfl)
  (hs:EY [.Subscript (.Name y py) ke lS] e pos.line X.env=pure false:=by rfl)(hw:EZ [.Subscript (.Name y py) ke lS] e X.env=pure none:=by rfl)
  (h1:(C2 [.Subscript (.Name y py) ke lS] X.env).map (·.2)=[CG (.Subscript (.Name y py) ke lS) X.env]:=by rfl):cI K X (.Assign [.Subscript (.Name y py) ke lS] e pos) (setM i f k):=.mk fun hK C=>by
 subst hK
 refine(zhe (he rfl) (zpT ha (hk rfl) set_list has) hs hw h1).weak fun Dn σ H=>?_
 rintro⟨ρ,rel,g⟩
 refine jj rel g fun dx ρ1 v H1 ak aK fz g1=>?_
 obtain⟨d,ed,g2⟩:=g1.bJ
 obtain⟨a,zY,bz,h0,_⟩:=ak.rel.yK ed
 refine⟨.ref a,bz.2,jj ak g2 fun dk ρ2 kv H2 bS bT fk g3=>?_⟩
 obtain⟨c,ec,g4⟩:=g3.bJ
 obtain⟨vs,uj,h1,h2⟩:=bS.rel.zcg ec bz
 cases dk with
 | int j =>
  obtain⟨n,en,g5⟩:=(show eQ X.K C H2 ((R.of (FL.dU c.length j)).bind fun n=>.ok (.nx,bW ρ2 i (.list (c.set n dx)))) Dn from g4).bJ
  simp only [Fz] at fk
  subst fk
  refine⟨a,vs,j,n,rfl,rfl,h1,?_,yp (d:=.list (c.set n dx)) bS uj ⟨_,cN,(h2.set n (fz.mono (bT.dM ak.rel))).mono (zby bS uj)⟩ g5⟩
  rw [h2.len]
  cases e2:FL.dU c.length j with
  | none=>rw [e2] at en;cases en
  | some m=>rw [e2] at en;cases en;exact e2
 | _=>exact g4.elim
end
end
variable {items:List D}{body:List AU}{it:IF}{c l:Aq}{tl:TE}{β:En}
section
variable [Cs]
def Walk(K:ox)(J:It)(items:List D)(H:Hp):Prop :=
 (∀ i d H',aH H H'->items[i]?=some d->J.go i H'/\∀ x iF,J.Al i H' x iF->aB H' iF/\Fz K iF d x)/\∀ i H',aH H H'->items.length<=i->J.stop i H'
noncomputable def tI(K:ox)(it:IF):TI:=fun σ H R=>∃ ρ,Rel K ρ σ H/\Good K ρ σ H (it ρ) fun items _ H'=>∀ J,Walk K J items H'->R J H'
structure gz(K:ox)(X:Cx)(tg e:Aq)(it:IF):Prop where
 run:X.K=K->PI X tg e (tI K it)
instance {K:ox} {X:Cx} {tg e:Aq} {it:IF}:CoeFun (gz K X tg e it) fun _=>X.K=K->PI X tg e (tI K it):=⟨gz.run⟩
theorem _root_.L2.PI.weak{t t':TI}(h:PI X tg e t)(w:∀ σ H R,t' σ H R->t σ H R):PI X tg e t':=fun pins s σ H R I q=>h pins s σ H R I (w σ H R q)
section
variable {K:ox}
theorem zp2(hl:PE X l tl):PI X tg l (fun σ H R=>tl σ H fun x H1=>∃ a,x=.ref a/\(((∃ xs,bB X.K H1 a xs)/\R (Itl X.K a) H1)\/((∃ xs,dO X.K H1 a xs)/\R (Itt X.K a) H1))):=by
 intro pins s σ H R I h
 refine aI (hl pins s σ H _ I h) fun v s1 ⟨x,H1,I1,r1,q1⟩=>?_
 obtain⟨a,e,q1⟩:=q1
 subst e
 cases r1
 rcases q1 with⟨⟨xs,hq⟩,q⟩|⟨⟨xs,hq⟩,q⟩
 ·obtain⟨its,rv,p,hz⟩:=I1.list hq
  refine FH p.isList ?_
  refine⟨s1.heap.objs.size,[s1.heap.objs.size],_,_,H1,rfl,I1.kept (t':=s1.toks) fun b o e=>A5 _ e,zs2 a _,⟨_,Bl _ rfl,rfl,rfl⟩,fun b hb=>?_,q⟩
  have e:b=s1.heap.objs.size:=by simpa using hb
  subst e
  exact I1.jJ (AI _) (I1.az.fresh (AI _))
 ·obtain⟨its,rv,p,hz⟩:=I1.tuple hq
  refine wpAny_pyIter_tuple (show s1.heap.IsTuple a its.toArray from p) ?_
  refine⟨s1.heap.objs.size,[s1.heap.objs.size],_,_,H1,rfl,I1.kept (t':=s1.toks) fun b o e=>A5 _ e,zs5 a _,⟨_,Bl _ rfl,rfl,rfl⟩,fun b hb=>?_,q⟩
  have e:b=s1.heap.objs.size:=by simpa using hb
  subst e
  exact I1.jJ (AI _) (I1.az.fresh (AI _))
theorem ztf(h:kB K H a vs)(f:aj K H items vs):Walk K (Itl K a) items H:=by
 refine⟨fun i d H' fz e=>?_,fun i H' fz e=>⟨vs,(fz.gf h).sq,by rw [f.len];exact e⟩⟩
 obtain⟨v,ev,_⟩:=f.get e
 refine⟨⟨vs,v,(fz.gf h).sq,ev⟩,fun x iF y=>?_⟩
 obtain⟨rfl,y⟩:=y
 have ex:=y vs (fz.gf h).sq
 obtain⟨v',uN,fv⟩:=(f.mono fz).get e
 rw [ex] at uN
 cases uN
 exact⟨aB.refl _,fv⟩
theorem zti(h:dH H a vs)(f:aj K H items vs):Walk K (Itt K a) items H:=by
 refine⟨fun i d H' fz e=>?_,fun i H' fz e=>⟨vs,.inl (fz.qy h),by rw [f.len];exact e⟩⟩
 obtain⟨v,ev,_⟩:=f.get e
 refine⟨⟨vs,v,.inl (fz.qy h),ev⟩,fun x iF y=>?_⟩
 obtain⟨rfl,y⟩:=y
 have ex:=y vs (.inl (fz.qy h))
 obtain⟨v',uN,fv⟩:=(f.mono fz).get e
 rw [ex] at uN
 cases uN
 exact⟨aB.refl _,fv⟩
theorem km(he:PV K X e f):gz K X tg e (iE f):=.mk fun hK=>by
 subst hK
 refine(zp2 (he rfl)).weak fun σ H R=>?_
 rintro⟨ρ,rel,q⟩
 refine dw rel q fun dx ρ1 x H1 ak aK fx q1=>?_
 obtain⟨items,ei,q2⟩:=q1.bV
 cases dx with
 | list a =>
  cases ei
  simp only [Fz] at fx
  obtain⟨l,vs,rfl,sx,f⟩:=fx
  exact⟨l,rfl,.inl ⟨⟨vs,sx.sq⟩,q2.now ak _ (ztf sx f)⟩⟩
 | tuple a =>
  cases ei
  simp only [Fz] at fx
  obtain⟨l,vs,rfl,sx,f⟩:=fx
  exact⟨l,rfl,.inr ⟨⟨vs,.inl sx⟩,q2.now ak _ (zti sx f)⟩⟩
 | _=>cases ei
theorem p62:(2:Int)^62=4611686018427387904:=by decide
theorem zrV{lo hi:Int}(h:(de lo hi)[i]?=some d):i<(hi-lo).toNat/\d=.int (lo+i):=by
 unfold de at h
 rw [BV] at h
 by_cases c:i<(hi-lo).toNat
 ·rw [List.getElem?_range c] at h
  cases h
  exact⟨c,rfl⟩
 ·rw [Gs (by rw [CM];lia)] at h;cases h
theorem zim(lo hi:Int):Walk K (ub lo (hi-lo).toNat) (de lo hi) H:=by
 refine⟨fun i d H' fz e=>?_,fun i H' fz e=>?_⟩
 ·obtain⟨c,rfl⟩:=zrV e
  refine⟨c,fun x iF y=>?_⟩
  obtain⟨rfl,rfl⟩:=y
  exact⟨aB.refl _,jL _⟩
 ·show(hi-lo).toNat<=i
  simpa [de] using e
theorem ql{a:Aq}(hg:Gl X "range") (hm:X.mg "range"=none) (ha:dG K X [a] fa) (hs:Au [a] X.env=[(false,Ay a X.env)]:=by exact FL.se rfl):gz K X tg (.Call (.Name "range" p) [a] [] pos) (cQ fa):=.mk fun hK=>(zp0 hg hm (ha hK) hs).weak fun σ H R=>by
 rintro⟨ρ,rel,q⟩
 refine lL rel q fun ds ρ1 vs H1 ak aK fs q1=>?_
 obtain⟨items,ei,q2⟩:=q1.bV
 cases ds with
 | nil=>cases ei
 | cons d r =>
  cases r with
  | cons _ _=>cases d <;> cases ei
  | nil =>
   cases d with
   | int j =>
    obtain⟨c,ei⟩:=c7 (show aF (lT j&&leB j.toNat lim) (.ok (de 0 j))=.ok items from ei)
    cases ei
    simp only [aj,Fz] at fs
    obtain⟨_,_,rfl,rfl,rfl⟩:=fs
    simp only [lT,BJ,leB_iff] at c
    have:=zim (K:=K) (H:=H1) 0 j
    rw [Int.sub_zero] at this
    have e62:=p62
    exact⟨j,rfl,by lia,by lia,q2.now ak _ this⟩
   | _=>cases ei
theorem zq0{a:Aq}(hg:Gl X "range") (hm:X.mg "range"=none) (ha:dG K X [a,b] fa) (hs:Au [a,b] X.env=[(false,Ay a X.env),(false,Ay b X.env)]:=by rfl) (dh:Au [b] X.env=[(false,Ay b X.env)]:=by exact FL.se rfl) :
  gz K X tg (.Call (.Name "range" p) [a,b] [] pos) (gG fa):=.mk fun hK=>(zp1 hg hm (ha hK) hs dh).weak fun σ H R=>by
 rintro⟨ρ,rel,q⟩
 refine lL rel q fun ds ρ1 vs H1 ak aK fs q1=>?_
 obtain⟨items,ei,q2⟩:=q1.bV
 have key:∃ i j,ds=[.int i,.int j]:=by
  cases ds with
  | nil=>cases ei
  | cons d r =>
   cases d with
   | int i =>
    cases r with
    | nil=>cases ei
    | cons d2 r =>
     cases d2 with
     | int j =>
      cases r with
      | nil=>exact⟨i,j,rfl⟩
      | cons _ _=>cases ei
     | _=>cases ei
   | _=>cases ei
 obtain⟨i,j,rfl⟩:=key
 obtain⟨c,ei⟩:=c7 (show aF (lT i&&lT j&&leB (j-i).toNat lim) (.ok (de i j))=.ok items from ei)
 cases ei
 simp only [aj,Fz] at fs
 obtain⟨_,_,rfl,rfl,_,_,rfl,rfl,rfl⟩:=fs
 simp only [lT,BJ,leB_iff] at c
 have e62:=p62
 exact⟨i,j,rfl,⟨by lia,by lia,by lia,by lia⟩,q2.now ak _ (zim i j)⟩
variable {b t:SF}
theorem zrd(hp:Fv (Ax X.prog X.w) X.A X.env X.xe)(hc:X.calm=true)(hi:gz K X tg e it)(hg:jH K X dom tg g)(hb:fH K X body b)(hs:∀ x,Dg e X.env x=pure x:=by intro _;rfl):cI K X (.For tg e body [] pos) (bM it g b):=.mk fun hK C =>
 (zqj hp hc (hi hK) (hg hK) (hb hK C) hs).weak fun Dn σ0 H0=>by
 rintro⟨ρ0,qp,q⟩
 obtain⟨x,ex,q⟩:=q.bJ
 refine⟨ρ0,qp.rel,?_⟩
 rw [ex]
 intro Hs r st J wk
 have ak:=qp.step r st
 have q1:=q.step (st.dM qp.rel)
 obtain⟨items,ρs⟩:=x
 refine⟨fun i m σ H=>m=items.length-i/\i<=items.length/\∃ ρ,bU K C ρ σ H/\aH Hs H/\eQ K C H (forL g b (items.drop i) ρ) Dn,⟨items.length,by simp,B6 _,ρs,ak,aH.refl _,q1⟩,?_⟩
 rintro i m σ H ⟨rfl,hi,ρ,rel,fz,gd⟩
 by_cases c:i<items.length
 ·have ed:=IZ c
  rw [ed] at gd
  obtain⟨gm,hy⟩:=wk.1 i items[i] H fz (Bo c)
  refine .inr ⟨gm,fun σ' H'=>∃ ρ,bU K C ρ σ' H'/\aH Hs H'/\eQ K C H' (forL g b (items.drop (i+1)) ρ) Dn,fun σ' H' n=>⟨items.length-(i+1),by lia,rfl,c,n⟩,fun x H3 y=>?_⟩
  obtain⟨sm,fx⟩:=hy x H3 y
  have iw:bU K C ρ σ H3:=rel.step (rel.rel.same sm) (.of sm)
  obtain⟨ρ1,e1,gd1⟩:=gd.bJ
  refine⟨ρ,items[i],ρ1,iw.rel,fx,e1,fun σ1 zcZ chg=>⟨ρ1,iw.chg zcZ chg,?_⟩⟩
  obtain⟨y,ey,pE⟩:=gd1.bJ
  rw [ey]
  have uV:=pE.step (aH.of sm)
  have fz3:=fz.trans (aH.of sm)
  obtain⟨fl,ρ2⟩:=y
  cases fl with
  | nx=>exact fun σ' H' r z=>⟨ρ2,r,fz3.trans z,uV.step z⟩
  | ct=>exact fun σ' H' r z=>⟨ρ2,r,fz3.trans z,uV.step z⟩
  | bk=>exact uV
  | rt d=>exact uV
  | rf d=>exact uV
 ·have e:i=items.length:=by lia
  subst e
  rw [List.drop_length] at gd
  exact .inl ⟨wk.2 _ H fz (AI _),gd σ H rel (aH.refl _)⟩
theorem zhq(fuel:En->Nat)(hp:Fv (Ax X.prog X.w) X.A X.env X.xe)(hc:fA K X c tc)(hb:fH K X body b):cI K X (.While c body [] pos) (qx fuel tc b):=.mk fun hK C =>
 (zqo hp (hc hK) (hb hK C)).weak fun Dn σ0 H0=>by
 rintro⟨ρ0,qp,q⟩
 refine⟨fun m σ H=>∃ ρ,bU K C ρ σ H/\eQ K C H (qI tc b m ρ) Dn,⟨fuel ρ0,ρ0,qp,q⟩,?_⟩
 rintro m σ H ⟨ρ,rel,gd⟩
 cases m with
 | zero=>exact gd.elim
 | succ n =>
  refine zbM rel gd fun cb ρ1 H1 ak fz g1=>?_
  cases cb with
  | false=>exact mU (g1 σ H1 ak (aH.refl _))
  | true =>
   refine mV ⟨fun σ' H'=>∃ ρ,bU K C ρ σ' H'/\eQ K C H' (qI tc b n ρ) Dn,fun σ' H' z=>⟨n,F9 _,z⟩,ρ1,ak,?_⟩
   obtain⟨y,ey,pE⟩:=(show eQ K C H1 ((b ρ1).bind fun y=>match y.1 with
   | .nx | .ct=>qI tc b n y.2
   | .bk=>.ok (.nx,y.2)
   | .rt d=>.ok (.rt d,y.2)
   | .rf d=>.ok (.rf d,y.2)) Dn from g1).bJ
   rw [ey]
   obtain⟨fl,ρ2⟩:=y
   cases fl with
   | nx=>exact fun σ' H' r z=>⟨ρ2,r,pE.step z⟩
   | ct=>exact fun σ' H' r z=>⟨ρ2,r,pE.step z⟩
   | bk=>exact pE
   | rt d=>exact pE
   | rf d=>exact pE
end
end
variable {cs:En}{elt iter:Aq}{j k:Nat}{ix l:List Nat}{σβ:L2.St}{scope:BG}{ifs:List Aq}
section
variable [Cs]
section
variable {K:ox}
theorem zeD(h:j<k):(b6 k ix ρ)[j]?=some .no:=by
 unfold b6
 rw [B4 (by simpa using h),C1,if_pos h]
theorem xG(j:Nat):(b6 k ix ρ)[k+j]?=(ix[j]?).map fun i=>(ρ[i]?).getD .no:=by
 unfold b6
 rw [Dj (by simp),DR,HE,BV]
theorem zbb(j:Nat):(dQ k ix σ)[k+j]?=(ix[j]?).map fun i=>(σ[i]?).getD none:=by
 unfold dQ
 rw [Dj (by simp),DR,HE,BV]
theorem uw(h:At (b6 k ix ρ) (dQ k ix σ) j a):∃ j' i,j=k+j'/\ix[j']?=some i/\At ρ σ i a:=by
 obtain⟨⟨p,d,e1⟩,e2⟩:=h
 by_cases c:j<k
 ·rw [zeD c] at e1;cases e1
 ·obtain⟨j',rfl⟩:∃ j',j=k+j':=⟨j-k,by lia⟩
  rw [xG] at e1
  rw [zbb] at e2
  cases ei:ix[j']? with
  | none=>rw [ei] at e1;cases e1
  | some i =>
   rw [ei] at e1 e2
   refine⟨j',i,rfl,ei,⟨p,d,?_⟩,?_⟩
   ·simp only [CC,B7] at e1
    cases er:ρ[i]? with
    | none=>rw [er] at e1;cases e1
    | some x=>rw [er] at e1;simpa using e1
   ·simp only [CC,B7] at e2
    cases es:σ[i]? with
    | none=>rw [es] at e2;cases e2
    | some x=>rw [es] at e2;simpa using e2
theorem zoH(h:l.Nodup){x:Nat}(a:l[i]?=some x)(b:l[j]?=some x):i=j:=by
 obtain⟨h1,e1⟩:=By.mp a
 obtain⟨h2,e2⟩:=By.mp b
 exact(List.getElem_inj h).mp (e1.trans e2.symm)
theorem zjF(nd:ix.Nodup)(r:Rel K ρ σ H):Rel K (b6 k ix ρ) (dQ k ix σ) H:=by
 refine⟨by simp [b6,dQ],fun j x v e1 e2=>?_,fun i j a h1 h2=>?_,r.cst⟩
 ·by_cases c:j<k
  ·rw [zeD c] at e1;cases e1;trivial
  ·obtain⟨j',rfl⟩:∃ j',j=k+j':=⟨j-k,by lia⟩
   rw [xG] at e1
   rw [zbb] at e2
   cases ei:ix[j']? with
   | none=>rw [ei] at e1;cases e1
   | some i =>
    rw [ei] at e1 e2
    simp only [CC,B7] at e1 e2
    cases er:ρ[i]? with
    | none=>rw [er] at e1;cases e1;trivial
    | some y =>
     have hl:i<σ.length:=by rw [<- r.len];exact(By.mp er).1
     rw [er] at e1
     rw [Bo hl] at e2
     cases e1;cases e2
     exact r.ok i _ _ er (Bo hl)
 ·obtain⟨i',x,rfl,e1,a1⟩:=uw h1
  obtain⟨j',y,rfl,e2,a2⟩:=uw h2
  have:=r.sep x y a a1 a2
  subst this
  rw [zoH nd e1 e2]
theorem zaT{m:List (Nat×Sl)}:∀(ρ:En) (n i:Nat),(bR m n ρ)[i]?=(ρ[i]?).map (cf m (n+i))
 | [],n,i=>by simp [bR]
 | x::r,n,0=>by simp [bR]
 | x::r,n,i+1=>by
  simp only [bR,zz1]
  rw [zaT r (n+1) i,show n+1+i=n+(i+1) by lia]
theorem zeu(i:Nat):(back ρ ix cs)[i]?=(ρ[i]?).map (cf (ix.zip cs) i):=by
 unfold back
 rw [zaT,EH]
theorem zaU{m:List (Nat×Sl)}:∀(ρ:En) (n:Nat),(bR m n ρ).length=ρ.length
 | [],n=>rfl
 | x::r,n=>by simp [bR,zaU r]
theorem zis:∀{ix:List Nat} {cs:En} {i:Nat} {c:Sl},(ix.zip cs).lookup i=some c->∃ j:Nat,ix[j]?=some i/\cs[j]?=some c
 | [],cs,i,c,h=>by simp at h
 | x::r,[],i,c,h=>by simp at h
 | x::r,y::s,i,c,h=>by
  rw [BI,A2] at h
  by_cases e:i=x
  ·subst e
   simp only [beq_self_eq_true] at h
   cases h
   exact⟨0,rfl,rfl⟩
  ·rw [beq_false_of_ne e] at h
   obtain⟨j,h1,h2⟩:=zis h
   exact⟨j+1,by simpa using h1,by simpa using h2⟩
theorem zit:∀{ix:List Nat} {cs:En} {i j:Nat} {c:Sl},ix.Nodup->ix[j]?=some i->cs[j]?=some c->(ix.zip cs).lookup i=some c
 | [],cs,i,j,c,_,h1,_=>by simp at h1
 | x::r,[],i,j,c,_,_,h2=>by simp at h2
 | x::r,y::s,i,j,c,nd,h1,h2=>by
  rw [BI,A2]
  cases j with
  | zero =>
   simp at h1 h2
   subst h1;subst h2
   simp
  | succ j =>
   simp at h1 h2
   have:i≠x:=fun z=>by
    subst z
    exact(C0.mp nd).1 (Ck h1)
   rw [beq_false_of_ne this]
   exact zit (C0.mp nd).2 h1 h2
theorem zew(nd:ix.Nodup)(r:Rel K ρ σ H)(hs:∀ j,σβ[k+j]?=(dQ k ix σ)[k+j]?)(rb:Rel K β σβ H')
  (md:∀ j p,(∃ d,β[k+j]?=some (.ow p d))↔∃ d,(b6 k ix ρ)[k+j]?=some (.ow p d))(kp:∀ a o,H a=some o->¬ MA (b6 k ix ρ) (dQ k ix σ) a->H' a=some o) :
  Rel K (back ρ ix (β.drop k)) σ H'/\cO ρ (back ρ ix (β.drop k)) σ H H':=by
 have hm:∀ a,MA (b6 k ix ρ) (dQ k ix σ) a->MA ρ σ a:=fun a ⟨j,h⟩=>by
  obtain⟨_,i,_,_,h⟩:=uw h
  exact⟨i,h⟩
 have fz:aH H H':=fun a o h st=>kp a o h fun m=>by
  obtain⟨o',e,w⟩:=r.eY (hm a m)
  rw [h] at e
  cases e
  exact w.jS st
 have vq:∀(i:Nat) p,(∃ d,ρ[i]?=some (.ow p d))↔∃ d,(back ρ ix (β.drop k))[i]?=some (.ow p d):=fun i p=>by
  rw [zeu]
  constructor
  ·rintro⟨d,e⟩
   rw [e]
   simp only [CC,cf]
   split
   ·rename_i p' d1 q' d2 h1 h2;cases h1;exact⟨_,rfl⟩
   ·exact⟨_,rfl⟩
  ·rintro⟨d,e⟩
   cases er:ρ[i]? with
   | none=>rw [er] at e;cases e
   | some x =>
    rw [er] at e
    simp only [CC,B7,cf] at e
    split at e
    ·cases e;exact⟨_,rfl⟩
    ·subst e;exact⟨_,rfl⟩
 have um:∀ i a,At (back ρ ix (β.drop k)) σ i a->At ρ σ i a:=fun i a ⟨⟨p,d,e1⟩,e2⟩=>⟨⟨p,(vq i p).mpr ⟨d,e1⟩⟩,e2⟩
 refine⟨⟨by rw [show(back ρ ix (β.drop k)).length=ρ.length from zaU _ _];exact r.len,fun i x v e1 e2=>?_,fun i j a h1 h2=>r.sep i j a (um i a h1) (um j a h2),r.cst.mono fz⟩,⟨vq,fun a o h n=>kp a o h fun m=>n (hm a m)⟩⟩
 rw [zeu] at e1
 cases er:ρ[i]? with
 | none=>rw [er] at e1;cases e1
 | some y =>
  rw [er] at e1
  simp only [CC,B7] at e1
  have o:=r.ok i y v er e2
  cases y with
  | no=>simp only [cf] at e1;subst e1;trivial
  | val d =>
   simp only [cf] at e1
   subst e1
   exact o.mono fz fun a _ ⟨p,d',z⟩=>nomatch z
  | ob c ds =>
   simp only [cf] at e1
   subst e1
   exact o.mono fz fun a _ ⟨p,d',z⟩=>nomatch z
  | ow p d =>
   cases v with
   | none=>exact o.elim
   | some v =>
    cases v with
    | ref a =>
     have ai:At ρ σ i a:=⟨⟨p,d,er⟩,e2⟩
     cases el:(ix.zip (β.drop k)).lookup i with
     | none =>
      simp only [cf,el] at e1
      subst e1
      refine o.mono fz fun b e3 _=>?_
      cases e3
      obtain⟨u,hu,_⟩:=r.eY ⟨i,ai⟩
      rw [hu]
      refine kp a u hu fun⟨j,h⟩=>?_
      obtain⟨j',i',rfl,ej,h'⟩:=uw h
      have:=r.sep i i' a ai h'
      subst this
      have hb:β[k+j']?≠none:=fun z=>by
       have:∃ d,β[k+j']?=some (.ow p d):=(md j' p).mpr ⟨d,by rw [xG,ej];simp [er]⟩
       obtain⟨_,w⟩:=this
       rw [z] at w;cases w
      cases hbe:β[k+j']? with
      | none=>exact hb hbe
      | some c =>
       have:(β.drop k)[j']?=some c:=by rw [List.getElem?_drop];exact hbe
       rw [zit nd ej this] at el
       cases el
     | some c =>
      obtain⟨j,hj,hc⟩:=zis el
      rw [List.getElem?_drop] at hc
      have bm:(b6 k ix ρ)[k+j]?=some (.ow p d):=by rw [xG,hj];simp [er]
      obtain⟨d',jN⟩:=(md j p).mpr ⟨d,bm⟩
      rw [hc] at jN
      cases jN
      simp only [cf,el] at e1
      subst e1
      have es:σβ[k+j]?=some (some (.ref a)):=by rw [hs j,zbb,hj];simp [e2]
      exact rb.ok (k+j) _ _ hc es
    | _=>exact o.elim
end
theorem zfC{K:ox}(hd:dom.all (fun i=>decide (i<k))=true):t8 k (tG K dom g):=fun x σ H Q=>by
 rintro⟨ρ,d,ρ1,rel,fz,e,q⟩
 refine⟨ρ,d,ρ1,rel,fz,e,fun σ1 ak c=>⟨⟨c.1,fun i hi=>?_⟩,q σ1 ak c⟩⟩
 rcases c.2 i with⟨_,c2⟩|⟨m,_⟩
 ·exact c2
 ·have:=of_decide_eq_true (DI.mp hd i m)
  lia
structure nF(K:ox)(X:Cx)(ifs:List Aq)(t:TF):Prop where
 run:X.K=K->jF X ifs (tT K t)
instance {K:ox} {X:Cx} {ifs:List Aq} {t:TF}:CoeFun (nF K X ifs t) fun _=>X.K=K->jF X ifs (tT K t):=⟨nF.run⟩
theorem _root_.L2.jF.weak{e:List Aq}{t:TT}(h:jF X e t)(w:∀ σ H Q,t' σ H Q->t σ H Q):jF X e t':=fun pins s σ H Q I q=>h pins s σ H Q I (w σ H Q q)
theorem lr{K:ox}:nF K X [] cV:=.mk fun _=>zqA.weak fun σ H Q=>by
 rintro⟨ρ,rel,q⟩
 exact q.now rel
theorem zht{K:ox}(h:fA K X c t):nF K X [c] t:=.mk fun hK=>zqB (h hK)
section
variable {K:ox}
theorem zfy(nd:ix.Nodup)(gm:dom.all (fun i=>decide (i<k))=true)(σ:L2.St)(H:Hp)(Q:VK)(q:tN K (dJ k ix it g t f) σ H Q):sS k ix (tI K it) (tG K dom g) (tT K t) (tV K f) σ H Q:=by
 revert q
 rintro⟨ρ0,qp,q⟩
 obtain⟨x,ex,q⟩:=q.bJ
 refine⟨ρ0,qp,?_⟩
 rw [ex]
 intro H1 ak aK J wk l hl
 obtain⟨items,ρs⟩:=x
 have vb:H l=none:=by
  cases e:H l with
  | none=>rfl
  | some o =>
   by_cases m:MA ρ0 σ l
   ·obtain⟨o',e',_⟩:=ak.eY (aK.ma.mp m)
    rw [hl] at e';cases e'
   ·rw [aK.kp l o e m] at hl;cases hl
 have sl:aB H1 (upd H1 l (.lst [])):=aB.upd hl
 refine⟨fun i m ys H2=>m=items.length-i/\i<=items.length/\H2 l=some (.lst ys)/\∃ ρ acc,Rel K ρ σ H2/\¬ MA ρ σ l/\aj K H2 acc ys/\aH H1 H2/\cO ρ0 ρ σ H H2 /\
  Good K ρ0 σ H ((gQ k ix g t f (items.drop i) ρ acc).bind fun(y:List D×En)=>.ok ((Dq y.1:D),y.2)) fun d ρ' H'=>∀ a,H a=none->dn K H' a d->Q (.ref a) H',
  ⟨items.length,by simp,B6 _,cN,ρs,[],ak.same sl,fun z=>?_,by simp [aj],aH.of sl,aK.trans (.of sl),q⟩,?_⟩
 ·obtain⟨o',e',_⟩:=ak.eY z
  rw [hl] at e';cases e'
 rintro i m ys H2 ⟨rfl,hi,hly,ρ,acc,rel,kc,fa,fz,zH,gd⟩
 refine⟨hly,?_⟩
 by_cases c:i<items.length
 ·have ed:=IZ c
  rw [ed] at gd
  obtain⟨zma,hy⟩:=wk.1 i items[i] H2 fz (Bo c)
  refine .inr ⟨zma,fun x H3 y=>?_⟩
  obtain⟨sm,fx⟩:=hy x H3 y
  have iw:Rel K ρ σ H3:=rel.same sm
  obtain⟨w,ew,gd⟩:=gd.bV
  obtain⟨β1,e1,ew⟩:=bZ (show(g items[i] (b6 k ix ρ)).bind _=.ok w from ew)
  obtain⟨c1,ec,ew⟩:=bZ ew
  refine⟨b6 k ix ρ,items[i],β1,zjF nd iw,fx,e1,fun σ1 zrQ chg=>⟨β1,zrQ,?_⟩⟩
  rw [ec]
  intro H5 zhA ni
  have hσ:∀ j,σ1[k+j]?=(dQ k ix σ)[k+j]?:=fun j=>by
   rcases chg.2 (k+j) with⟨_,c2⟩|⟨m,_⟩
   ·exact c2
   ·have:=of_decide_eq_true (DI.mp gm _ m)
    lia
  have hβ:∀ j,β1[k+j]?=(b6 k ix ρ)[k+j]?:=fun j=>by
   rcases chg.2 (k+j) with⟨c2,_⟩|⟨m,_⟩
   ·exact c2
   ·have:=of_decide_eq_true (DI.mp gm _ m)
    lia
  have hMA:∀ a,MA β1 σ1 a->MA (b6 k ix ρ) (dQ k ix σ) a:=fun a ⟨j,⟨p,d,z1⟩,z2⟩=>by
   rcases chg.2 j with⟨c1,c2⟩|⟨_,⟨d',c1⟩,_⟩
   ·exact⟨j,⟨p,d,by rw [<- c1];exact z1⟩,by rw [<- c2];exact z2⟩
   ·rw [c1] at z1;cases z1
  have hMB:∀ a,MA (b6 k ix ρ) (dQ k ix σ) a->MA ρ σ a:=fun a ⟨j,h⟩=>by
   obtain⟨_,i,_,_,h⟩:=uw h
   exact⟨i,h⟩
  have h3l:H3 l=some (.lst ys):=sm l _ hly
  have n1:¬ MA β1 σ1 l:=fun z=>kc (hMB l (hMA l z))
  have h5l:H5 l=some (.lst ys):=ni.kp l _ h3l n1
  obtain⟨cb,β2⟩:=c1
  cases cb with
  | true =>
   refine mV ⟨β2,zhA,?_⟩
   obtain⟨y,ey,ew⟩:=bZ (show(f β2).bind _=.ok w from ew)
   rw [ey]
   intro H6 zrO oI v fv
   obtain⟨cc,ew⟩:=c7 ew
   have n2:¬ MA β2 σ1 l:=fun z=>n1 (ni.ma.mpr z)
   have h6l:H6 l=some (.lst ys):=oI.kp l _ h5l n2
   have st:cO β1 y.2 σ1 H3 H6:=ni.trans oI
   obtain⟨rb,sb⟩:=zew (k:=k) nd iw hσ zrO (fun j p=>by rw [<- hβ j];exact(st.md (k+j) p).symm) (fun a o h n=>st.kp a o h fun z=>n (hMA a z))
   have yS:¬ MA (back ρ ix (y.2.drop k)) σ l:=fun z=>kc (sb.ma.mpr z)
   have uP:aH H2 H6:=(aH.of sm).trans (sb.dM iw)
   have fz7:aH H6 (upd H6 l (.lst (ys++[v]))):=fun b u e s=>by
    rw [bh fun z=>by subst z;rw [h6l] at e;cases e;exact s]
    exact e
   refine⟨h6l,?_,items.length-(i+1),by lia,rfl,c,cN,back ρ ix (y.2.drop k),acc++[y.1],rb.put yS (fun u e=>by rw [h6l] at e;cases e;exact fun z=>z),yS,?_,(fz.trans uP).trans fz7,⟨((zH.trans (.of sm)).trans sb).md,fun a o h n=>?_⟩,?_⟩
   ·have:=fi cc
    have l0:=ig
    rw [fa.len];lia
   ·refine((fa.mono uP).mono fz7).app ?_
    simp only [aj]
    exact⟨v,[],rfl,fv.mono fz7,rfl⟩
   ·rw [bh fun z=>by subst z;rw [vb] at h;cases h]
    exact((zH.trans (.of sm)).trans sb).kp a o h n
   ·rw [ew]
    exact gd
  | false =>
   obtain⟨rb,sb⟩:=zew (k:=k) nd iw hσ zhA (fun j p=>by rw [<- hβ j];exact(ni.md (k+j) p).symm) (fun a o h n=>ni.kp a o h fun z=>n (hMA a z))
   have yS:¬ MA (back ρ ix (β2.drop k)) σ l:=fun z=>kc (sb.ma.mpr z)
   have uP:aH H2 H5:=(aH.of sm).trans (sb.dM iw)
   refine mU ⟨items.length-(i+1),by lia,rfl,c,h5l,back ρ ix (β2.drop k),acc,rb,yS,fa.mono uP,fz.trans uP,(zH.trans (.of sm)).trans sb,?_⟩
   rw [show gQ k ix g t f (items.drop (i+1)) (back ρ ix (β2.drop k)) acc=.ok w from ew]
   exact gd
 ·have e:i=items.length:=by lia
  subst e
  rw [List.drop_length] at gd
  exact .inl ⟨wk.2 _ H2 fz (AI _),gd H2 rel zH l vb ⟨ys,hly,fa⟩⟩
theorem zq5(L:List gV)(ix:List Nat)(M:List gV)(hc:X.calm=true)(hk:scope.kind=.function)(hd:nK X.env.scope scope X.N ix=true)(hM:M=L++ix.map fun i=>X.N.getD i "") (nd:ix.Nodup) (hi:gz K X tg iter it)
  (hg:∀ C s₃ H₃ fp,jH K (dE X M scope C s₃ H₃ fp) dom tg g) (gm:dom.all (fun i=>decide (i<L.length))=true)
  (ht:∀ C s₃ H₃ fp,nF K (dE X M scope C s₃ H₃ fp) ifs t) (he:∀ C s₃ H₃ fp,PV K (dE X M scope C s₃ H₃ fp) elt f)
  (hs:∀ x,Dg iter X.env x=pure x:=by intro _;rfl) :
  bY K X (.ListComp elt [⟨tg,iter,ifs,0⟩] scope pos) (dJ L.length ix it g t f):=.mk fun hK=>by
 refine(zpB L ix M hc hk hd hM (hi hK) (fun C s₃ H₃ fp=>hg C s₃ H₃ fp hK) (zfC gm) (fun C s₃ H₃ fp=>ht C s₃ H₃ fp hK) (fun C s₃ H₃ fp=>he C s₃ H₃ fp hK) hs).weak fun σ H Q q=>zfy nd gm σ H Q q
end
end
variable {n:Nat}{fd:Bw}{mg:gV->Option dm}{b:SF}{ms:List Bool}{l:List Itm}{N ps:List gV}{base:AD}
section
variable [Cs]
def lz(K:ox)(ms:List Bool)(fr:Bool)(F:List D->R (D×List D)):Sp:=fun vs H Q _=>∃ ds,vs.length=ms.length/\ds.length=ms.length/\Rel K (slots ms ds) (vs.map some) H /\
 ∃ d os,F ds=.ok (d,os)/\∀ v H',Rel K (slots ms os) (vs.map some) H'->(∀ a o,H a=some o->¬ MA (slots ms ds) (vs.map some) a->H' a=some o) ->
  (if fr=true then ∃ a,v=.ref a/\H a=none/\dn K H' a d else Fz K H' d v)->Q v H'
def jW(K:ox)(n:Nat)(fr:Bool)(G:List D->R D):Sp:=fun vs H Q _=>∃ ds,vs.length=n/\kA H/\aj K H ds vs/\∃ d,G ds=.ok d/\∀ v H',aB H H'->(if fr=true then ∃ a,v=.ref a/\H a=none/\dn K H' a d else Fz K H' d v)->Q v H'
theorem oG:∀{ms:List Bool} {ds:List D} {i:Nat},ds.length=ms.length->(slots ms ds)[i]?=(ms[i]?).bind fun m=>(ds[i]?).map fun d=>if m=true then Sl.ow true d else Sl.val d
 | [],[],i,_=>by simp [slots]
 | [],_::_,i,h=>by simp at h
 | _::_,[],i,h=>by simp at h
 | m::ms,d::ds,0,_=>by simp [slots]
 | m::ms,d::ds,i+1,h=>by
  simp only [slots,zz1]
  exact oG (by simpa using h)
theorem wd:∀{ms:List Bool} {ds:List D},ds.length=ms.length->(slots ms ds).length=ms.length
 | [],[],_=>rfl
 | [],_::_,h=>by simp at h
 | _::_,[],h=>by simp at h
 | m::ms,d::ds,h=>by simp only [slots,AR];rw [wd (by simpa using h)]
theorem vF:∀{ms:List Bool} {ds:List D} {ρ:En},ds.length=ms.length->(outs ms ds ρ).length=ms.length
 | [],[],_,_=>rfl
 | [],_::_,_,h=>by simp at h
 | _::_,[],_,h=>by simp at h
 | m::ms,d::ds,ρ,h=>by simp only [outs,AR];rw [vF (by simpa using h)]
theorem zgT:∀{ms:List Bool} {ds:List D} {ρ:En} {i:Nat} {m:Bool} {d:D},ms[i]?=some m->ds[i]?=some d->(outs ms ds ρ)[i]?=some (outD m d ρ[i]?)
 | m0::ms,d0::ds,ρ,0,m,d,h1,h2=>by
  simp at h1 h2
  subst h1;subst h2
  simp [outs,List.head?_eq_getElem?]
 | m0::ms,d0::ds,ρ,i+1,m,d,h1,h2=>by
  simp at h1 h2
  simp only [outs,zz1]
  rw [zgT h1 h2,List.getElem?_tail]
 | [],_,_,_,_,_,h,_=>by simp at h
 | _::_,[],_,_,_,_,_,h=>by simp at h
section
variable {K:ox}
theorem Rel.pad(r:Rel K ρ σ H)(n:Nat):Rel K (ρ++AB n .no) (σ++AB n none) H:=by
 have w:∀ i a,At (ρ++AB n .no) (σ++AB n none) i a->At ρ σ i a:=fun i a ⟨⟨p,d,e1⟩,e2⟩=>by
  by_cases c:i<ρ.length
  ·rw [B4 c] at e1
   rw [B4 (by rw [<- r.len];exact c)] at e2
   exact⟨⟨p,d,e1⟩,e2⟩
  ·rw [Dj (by lia),C1] at e1
   split at e1 <;> cases e1
 refine⟨by simp [r.len],fun i x v e1 e2=>?_,fun i j a h1 h2=>r.sep i j a (w i a h1) (w j a h2),r.cst⟩
 by_cases c:i<ρ.length
 ·rw [B4 c] at e1
  rw [B4 (by rw [<- r.len];exact c)] at e2
  exact r.ok i x v e1 e2
 ·rw [Dj (by lia),C1] at e1
  split at e1
  ·cases e1;trivial
  ·cases e1
theorem zom(hl:ρ.length=σ.length):MA (ρ++AB n .no) (σ++AB n none) a↔MA ρ σ a:=by
 constructor
 ·rintro⟨i,⟨p,d,e1⟩,e2⟩
  by_cases c:i<ρ.length
  ·rw [B4 c] at e1
   rw [B4 (by rw [<- hl];exact c)] at e2
   exact⟨i,⟨p,d,e1⟩,e2⟩
  ·rw [Dj (by lia),C1] at e1
   split at e1 <;> cases e1
 ·rintro⟨i,⟨p,d,e1⟩,e2⟩
  have c:=(By.mp e1).1
  exact⟨i,⟨p,d,by rw [B4 c];exact e1⟩,by rw [B4 (by rw [<- hl];exact c)];exact e2⟩
end
theorem zG{ds:List D}{p:Bool}(hl:ds.length=ms.length)(e:(slots ms ds)[i]?=some (.ow p d)):p=true/\ms[i]?=some true/\ds[i]?=some d:=by
 rw [oG hl] at e
 cases em:ms[i]? with
 | none=>rw [em] at e;cases e
 | some m =>
  cases ed:ds[i]? with
  | none=>rw [em,ed] at e;cases e
  | some d' =>
   rw [em,ed] at e
   cases m with
   | true=>simp at e;exact⟨e.1,rfl,by rw [e.2]⟩
   | false=>simp at e
section
variable {K:ox}
theorem zfn{st:AU}{f:ir}(ms:List Bool)(fr:Bool)(h:e9 K x x st f fd)(S:iY N ps (bG st))(fU:ps.length=ms.length)(iK:ps.length<=N.length)
  (hb:∀(aJ:dm) (A:AY) (outer:List Bb) (s:kb) (H:Hp) (E:XK),bp k (A.deeper (B3 x (bG st) s.heap.objs.size f aJ))->fH K (gR (cF P w) P w K mg base N x (bG st) f aJ A outer s H E) (dR st) b) :
  dj P w K mg base (cF P w) (k+1) f fd ps (lz K ms fr (run ms fr N.length b)):=by
 refine h.yY S (fun vs H Q E ⟨ds,e,_⟩=>by rw [e,fU]) fun aJ A outer s H vs Q E hr hq=>?_
 obtain⟨ds,hv,hd,rel,d,os,hF,q⟩:=hq
 have cK:L2.start N vs=vs.map some++AB (N.length-ds.length) none:=by unfold L2.start;rw [hv,hd]
 refine⟨tS K ⟨H,L2.start N vs,slots ms ds++AB (N.length-ds.length) .no⟩ b,hb aJ A outer s H E hr rfl _,slots ms ds++AB (N.length-ds.length) .no,?_,?_⟩
 ·have tru:∀(i:Nat) p d,(slots ms ds++AB (N.length-ds.length) .no)[i]?=some (.ow p d)->p=true:=fun i p d e=>by
   by_cases c:i<(slots ms ds).length
   ·rw [B4 c] at e
    exact(zG hd e).1
   ·rw [Dj (by lia),C1] at e
    split at e <;> cases e
  refine⟨?_,fun a o e _=>e,fun i a d e _=>absurd (tru i false d e) C3,fun i=>Fj,fun i d e=>rfl,tru⟩
  rw [cK]
  exact rel.pad _
 ·unfold run at hF
  rw [if_pos hd] at hF
  obtain⟨y,ey,hF⟩:=bZ hF
  rw [ey]
  have fin:∀(ρ':En) (σ':L2.St) (H':Hp),bU K ⟨H,L2.start N vs,slots ms ds++AB (N.length-ds.length) .no⟩ ρ' σ' H' ->
    Rel K (slots ms (outs ms ds ρ')) (vs.map some) H'/\(∀ a o,H a=some o->¬ MA (slots ms ds) (vs.map some) a->H' a=some o):=fun ρ' σ' H' r=>by
   have vb:(slots ms ds).length=(vs.map some).length:=by rw [wd hd,AW,hv]
   have kp:∀ a o,H a=some o->¬ MA (slots ms ds) (vs.map some) a->H' a=some o:=fun a o e n=>r.keep a o e fun z=>n (by
    have z':MA (slots ms ds++AB (N.length-ds.length) .no) (L2.start N vs) a:=z
    rw [cK] at z'
    exact(zom vb).mp z')
   have fz:aH H H':=fun a o e sy=>kp a o e fun m=>by
    obtain⟨o',e',ow⟩:=rel.eY m
    rw [e] at e'
    cases e'
    exact ow.jS sy
   refine⟨?_,kp⟩
   have pinned:∀(i:Nat) d0,ms[i]?=some true->ds[i]?=some d0->∃ d',ρ'[i]?=some (.ow true d')/\σ'[i]?=(vs.map some)[i]?:=fun i d0 em ed=>by
    have hi:i<(slots ms ds).length:=by rw [wd hd];exact(By.mp em).1
    have e0:(slots ms ds++AB (N.length-ds.length) .no)[i]?=some (.ow true d0):=by
     rw [B4 hi,oG hd,em,ed];rfl
    obtain⟨d',e'⟩:=(r.pin i).mpr ⟨d0,e0⟩
    refine⟨d',e',?_⟩
    rw [r.fix i d' e']
    show(L2.start N vs)[i]?=_
    rw [cK,B4 (by rw [<- vb];exact hi)]
   have ho:(outs ms ds ρ').length=ms.length:=vF hd
   refine⟨by rw [wd ho,AW,hv],fun i x v e1 e2=>?_,fun i j a h1 h2=>?_,rel.cst.mono fz⟩
   ·rw [oG ho] at e1
    cases em:ms[i]? with
    | none=>rw [em] at e1;cases e1
    | some m =>
     have hi:i<ds.length:=by rw [hd];exact(By.mp em).1
     have ed:=Bo hi
     rw [em,zgT em ed] at e1
     cases m with
     | true =>
      obtain⟨d',e3,e4⟩:=pinned i _ em ed
      rw [e3] at e1
      cases e1
      rw [<- e4] at e2
      exact r.rel.ok i _ _ e3 e2
     | false =>
      cases e1
      have e5:(slots ms ds)[i]?=some (.val ds[i]):=by rw [oG hd,em,ed];rfl
      exact(rel.ok i _ _ e5 e2).mono fz fun a _ ⟨p,d',z⟩=>nomatch z
   ·have w:∀ i a,At (slots ms (outs ms ds ρ')) (vs.map some) i a->At (slots ms ds) (vs.map some) i a:=fun i a ⟨⟨p,d0,e1⟩,e2⟩=>by
     obtain⟨rfl,em,_⟩:=zG ho e1
     have hi:i<ds.length:=by rw [hd];exact(By.mp em).1
     have ed:=Bo hi
     exact⟨⟨true,ds[i],by rw [oG hd,em,ed];rfl⟩,e2⟩
    exact rel.sep i j a (w i a h1) (w j a h2)
  obtain⟨fl,ρ'⟩:=y
  cases fr with
  | false =>
   cases fl with
   | rt dr =>
    cases hF
    exact fun v σ' H' r fz=>q v H' (fin ρ' σ' H' r).1 (fin ρ' σ' H' r).2 fz
   | nx =>
    cases hF
    exact fun σ' H' r fz=>q .non H' (fin ρ' σ' H' r).1 (fin ρ' σ' H' r).2 (by show Fz K H' .none .non;simp [Fz])
   | _=>cases hF
  | true =>
   cases fl with
   | rf dr =>
    cases hF
    exact fun a σ' H' r ha m=>q (.ref a) H' (fin ρ' σ' H' r).1 (fin ρ' σ' H' r).2 ⟨a,rfl,ha,m⟩
   | _=>cases hF
theorem zlw{st:AU}(ms:List Bool)(fr:Bool)(h:aD K mg x st)(S:iY N ps (bG st))(fU:ps.length=ms.length)(iK:ps.length<=N.length)
  (kP:∀(kV doc pm:dm) (an:Option ir) (aJ ct:dm) (us:List dm),us.length=ps.length->D9 (Cm x x (jb st) (dR st) (bG st) .none kV doc pm an aJ ct) ⟨us,[]⟩=pure (ps.zip us))
  (hb:∀(f:ir) (aJ:dm) (A:AY) (outer:List Bb) (s:kb) (H:Hp) (E:XK),bp k (A.deeper (B3 x (bG st) s.heap.objs.size f aJ))->fH K (gR (cF P w) P w K mg base N x (bG st) f aJ A outer s H E) (dR st) b) :
  Callee P w K mg base x (k+1) ps (lz K ms fr (run ms fr N.length b)):=by
 obtain⟨f,fd,hm,F⟩:=h
 exact⟨f,fd,hm,F.kp,F.binds kP,zfn ms fr F S fU iK (hb f)⟩
end
end
variable {a:List Ar}{m:Nat}{G:List D->R D}
section
variable [Cs]
theorem zc2:∀{n:Nat} {ds:List D},ds.length=n->slots (AB n false) ds=ds.map Sl.val
 | 0,[],_=>rfl
 | n+1,d::ds,h=>by
  simp only [DF,slots,AQ]
  rw [zc2 (by simpa using h)]
  rfl
 | 0,_::_,h=>by simp at h
 | n+1,[],h=>by simp at h
theorem zhC{K:ox}:∀{ds:List D} {vs:List V},kA H->aj K H ds vs->Rel K (ds.map Sl.val) (vs.map some) H:=fun{ds vs} cst f=>by
 refine⟨by simp [f.len],fun i x v e1 e2=>?_,fun i j a ⟨⟨p,d,e⟩,_⟩=>?_,cst⟩
 ·rw [BV] at e1 e2
  cases ed:ds[i]? with
  | none=>rw [ed] at e1;cases e1
  | some d =>
   obtain⟨u,eu,fu⟩:=f.get ed
   rw [ed] at e1
   rw [eu] at e2
   cases e1;cases e2
   exact fu
 ·rw [BV] at e
  cases ed:ds[i]? with
  | none=>rw [ed] at e;cases e
  | some d=>rw [ed] at e;cases e
theorem zoG{ds:List D}{a:ir}:¬ MA (ds.map Sl.val) σ a:=by
 rintro⟨i,⟨p,d,e⟩,_⟩
 rw [BV] at e
 cases ed:ds[i]? with
 | none=>rw [ed] at e;cases e
 | some d=>rw [ed] at e;cases e
section
variable {K:ox}
theorem dj.pure{f:ir}{fr:Bool}(F:dj P w K mg base (cF P w) k f fd ps (lz K (AB n false) fr (run (AB n false) fr m b))):dj P w K mg base (cF P w) k f fd ps (jW K n fr (aN fr n m b)):=by
 refine F.imp fun vs H Q E=>?_
 rintro⟨ds,hv,cst,f,d,e,q⟩
 have hd:ds.length=n:=by rw [<- f.len,hv]
 obtain⟨y,ey,e⟩:=bZ e
 cases e
 refine⟨ds,by simpa using hv,by simpa using hd,by rw [zc2 hd];exact zhC cst f,y.1,y.2,by rw [ey],fun v H' r kp fin=>q v H' (fun a o e=>kp a o e (by rw [zc2 hd];exact zoG)) fin⟩
theorem Callee.pure{n m:Nat}{fr:Bool}{b:SF}(c:Callee P w K mg base x k ps (lz K (AB n false) fr (run (AB n false) fr m b))):Callee P w K mg base x k ps (jW K n fr (aN fr n m b)):=by
 obtain⟨f,fd,h1,h2,h3,F⟩:=c
 exact⟨f,fd,h1,h2,h3,dj.pure F⟩
end
def mh(fa:AF)(n:Nat):Prop:=∀ ρ y,fa ρ=.ok y->y.1.length=n
theorem w9:mh af 0:=fun ρ y h=>by cases h;rfl
theorem w8{a:AF}(h:mh a n):mh (aa f a) (n+1):=fun ρ y e=>by
 obtain⟨x,_,e⟩:=bZ (show(f ρ).bind _=.ok y from e)
 obtain⟨z,e2,e⟩:=bZ e
 cases e
 simp [h _ _ e2]
section
variable {K:ox}
theorem zqH(c:Callee X.prog X.w X.K X.mg X.base x k ps (jW X.K n false G))(hr:bp j X.A)(hg:Gl X x)(hx:Passes (cF X.prog X.w) X E)(ha:dG K X (e::es) fa)(hl:mh fa n)(hj:k<=j:=by decide)(bE:(x==("__debug__":gV))=false:=by decide)
  (he:Au (e::es) X.env=(false,Ay e X.env)::Au es X.env:=by exact FL.se rfl) (aY:(A0 pos (Au es X.env)).any (·.1)=false:=by exact FL.sp rfl):PV K X (.Call (.Name x p) (e::es) [] pos) (au G fa):=.mk fun hK=>by
 subst hK
 refine(vI c hr hg hx (ha rfl) hj bE he aY).weak fun σ H Q=>?_
 rintro⟨ρ,rel,q⟩
 obtain⟨y,ey,q0⟩:=q.bJ
 have hy:=hl ρ y ey
 refine⟨ρ,rel,?_⟩
 rw [ey]
 intro H1 ak aK vs fs
 obtain⟨d,ed,q2⟩:=(q0.step aK).bV
 rw [DB]
 exact⟨y.1,by rw [fs.len,hy],ak.cst,fs,d,ed,fun v H' s fin=>q2.new ak s v fin⟩
theorem zq3(c:Callee X.prog X.w X.K X.mg X.base x k ps (jW X.K n true G))(hr:bp j X.A)(hg:Gl X x)(hx:Passes (cF X.prog X.w) X E)(ha:dG K X (e::es) fa)(hl:mh fa n)(hj:k<=j:=by decide)(bE:(x==("__debug__":gV))=false:=by decide)
  (he:Au (e::es) X.env=(false,Ay e X.env)::Au es X.env:=by exact FL.se rfl) (aY:(A0 pos (Au es X.env)).any (·.1)=false:=by exact FL.sp rfl):bY K X (.Call (.Name x p) (e::es) [] pos) (au G fa):=.mk fun hK=>by
 subst hK
 refine(vI c hr hg hx (ha rfl) hj bE he aY).weak fun σ H Q=>?_
 rintro⟨ρ,rel,q⟩
 obtain⟨y,ey,q0⟩:=q.bJ
 have hy:=hl ρ y ey
 refine⟨ρ,rel,?_⟩
 rw [ey]
 intro H1 ak aK vs fs
 obtain⟨d,ed,q2⟩:=(q0.step aK).bV
 rw [DB]
 refine⟨y.1,by rw [fs.len,hy],ak.cst,fs,d,ed,fun v H' s fin=>?_⟩
 obtain⟨a,rfl,ha,m⟩:=fin
 refine q2.new ak s a ?_ m
 cases e0:H a with
 | none=>rfl
 | some o =>
  by_cases mm:MA ρ σ a
  ·obtain⟨o',e',_⟩:=ak.eY (aK.ma.mp mm)
   rw [ha] at e';cases e'
  ·rw [aK.kp a o e0 mm] at ha;cases ha
def gj(K:ox)(σ:L2.St)(H₀ H:Hp):List Itm->List V->Prop
 | [],vs=>vs=[]
 | .vd d::r,vs=>∃ v t,vs=v::t/\Fz K H d v/\gj K σ H₀ H r t
 | .mi i::r,vs=>∃ v t,vs=v::t/\σ[i]?=some (some v)/\gj K σ H₀ H r t
 | .td d::r,vs=>∃ a t,vs=.ref a::t/\dn K H a d/\H₀ a=none/\gj K σ H₀ H r t
theorem cO.old(st:cO ρ ρ1 σ H H1)(ak:Rel K ρ1 σ H1){a:ir}(ha:H1 a=none):H a=none:=by
 cases e0:H a with
 | none=>rfl
 | some o =>
  by_cases mm:MA ρ σ a
  ·obtain⟨o',e',_⟩:=ak.eY (st.ma.mp mm)
   rw [ha] at e';cases e'
  ·rw [st.kp a o e0 mm] at ha;cases ha
theorem gj.back{σ:L2.St}{H H1 H2:Hp}(h:∀ a,H1 a=none->H a=none):∀{l:List Itm} {vs:List V},gj K σ H1 H2 l vs->gj K σ H H2 l vs
 | [],vs,z=>z
 | .vd d::r,vs,z=>by
  obtain⟨v,t,e,f,z⟩:=z
  exact⟨v,t,e,f,gj.back h z⟩
 | .mi i::r,vs,z=>by
  obtain⟨v,t,e,f,z⟩:=z
  exact⟨v,t,e,f,gj.back h z⟩
 | .td d::r,vs,z=>by
  obtain⟨v,t,e,f,g,z⟩:=z
  exact⟨v,t,e,f,h _ g,gj.back h z⟩
def tAr(K:ox)(a:List Ar):TA:=fun σ H Q=>∃ ρ,Rel K ρ σ H/\Good K ρ σ H (dP a ρ) fun l _ H'=>∀ vs,gj K σ H H' l vs->Q vs H'
structure jG(K:ox)(X:Cx)(es:List Aq)(a:List Ar):Prop where
 run:X.K=K->PA X es (tAr K a)
instance {K:ox} {X:Cx} {es:List Aq} {a:List Ar}:CoeFun (jG K X es a) fun _=>X.K=K->PA X es (tAr K a):=⟨jG.run⟩
theorem ip:jG K X [] []:=.mk fun _=>kl.weak fun σ H Q=>by
 rintro⟨ρ,rel,q⟩
 exact q.now rel [] rfl
theorem jx(he:PV K X e f)(hr:jG K X es a)(hs:Au (e::es) X.env=(false,Ay e X.env)::Au es X.env:=by exact FL.se rfl):jG K X (e::es) (.v f::a):=.mk fun hK=>(ik (he hK) (hr hK) hs).weak fun σ H Q=>by
 rintro⟨ρ,rel,q⟩
 refine dw rel q fun dx ρ1 x H1 ak aK fx q1=>?_
 obtain⟨y,ey,q2⟩:=q1.bJ
 refine⟨ρ1,ak,?_⟩
 rw [ey]
 exact fun H2 bS bT vs it=>(q2.step bT).now bS _ ⟨x,vs,rfl,fx.mono (bT.dM ak),it.back fun a ha=>aK.old ak ha⟩
theorem zqW(i:Nat)(ha:PE X (.Name y py) (dY i))(hr:jG K X es a)(hs:Au (.Name y py::es) X.env=(false,Ay (.Name y py) X.env)::Au es X.env:=by exact FL.se rfl):jG K X (.Name y py::es) (.m i::a):=.mk fun hK=>(ik ha (hr hK) hs).weak fun σ H Q=>by
 rintro⟨ρ,rel,q⟩
 obtain⟨d,ed,q1⟩:=(show Good K ρ σ H ((aZ ρ i).bind fun _=>(dP a ρ).bind fun y=>.ok (.mi i::y.1,y.2)) _ from q).bV
 obtain⟨ad,bz,_⟩:=rel.kW ed
 obtain⟨y,ey,q2⟩:=q1.bJ
 refine⟨.ref ad,bz.2,ρ,rel,?_⟩
 rw [ey]
 exact fun H2 bS bT vs it=>(q2.step bT).now bS _ ⟨.ref ad,vs,rfl,bz.2,it⟩
noncomputable def i5:List Ar->List Bool
 | []=>[]
 | .v _::r=>false::i5 r
 | .m _::r=>true::i5 r
 | .t _::r=>true::i5 r
noncomputable def mD:List Ar->List Nat
 | []=>[]
 | .v _::r=>mD r
 | .m i::r=>i::mD r
 | .t _::r=>mD r
noncomputable def mE:List Ar->Nat
 | []=>0
 | .v _::r=>mE r
 | .m _::r=>mE r
 | .t _::r=>mE r+1
noncomputable def yC:Itm->Bool
 | .vd _=>false
 | _=>true
noncomputable def wj:Itm->Option Nat
 | .mi i=>some i
 | _=>none
noncomputable def mS:Itm->Bool
 | .td _=>true
 | _=>false
theorem xa:∀{a:List Ar} {ρ:En} {y:List Itm×En},dP a ρ=.ok y->y.1.map yC=i5 a/\y.1.filterMap wj=mD a/\y.1.countP mS=mE a
 | [],ρ,y,h=>by cases h;exact⟨rfl,rfl,rfl⟩
 | .v f::r,ρ,y,h=>by
  obtain⟨x,_,h⟩:=bZ (show(f ρ).bind _=.ok y from h)
  obtain⟨z,e,h⟩:=bZ h
  cases h
  obtain⟨h1,h2,h3⟩:=xa e
  simp only [AQ,D6]
  exact⟨by rw [h1];rfl,h2,by rw [I0 (by simp [mS])];exact h3⟩
 | .m i::r,ρ,y,h=>by
  obtain⟨_,_,h⟩:=bZ (show(aZ ρ i).bind _=.ok y from h)
  obtain⟨z,e,h⟩:=bZ h
  cases h
  obtain⟨h1,h2,h3⟩:=xa e
  simp only [AQ,D6]
  exact⟨by rw [h1];rfl,by rw [h2];rfl,by rw [I0 (by simp [mS])];exact h3⟩
 | .t f::r,ρ,y,h=>by
  obtain⟨x,_,h⟩:=bZ (show(f ρ).bind _=.ok y from h)
  obtain⟨z,e,h⟩:=bZ h
  cases h
  obtain⟨h1,h2,h3⟩:=xa e
  simp only [AQ,D6]
  exact⟨by rw [h1];rfl,h2,by rw [List.countP_cons_of_pos (by simp [mS]),h3];rfl⟩
theorem qV{ρ:En}:∀{l:List Itm} {ds:List D},dt ρ l=.ok ds->ds.length=l.length/\∀(j:Nat) z,l[j]?=some z->∃ d,ds[j]?=some d/\(match z with | .vd d'=>d=d' | .mi i=>aZ ρ i=.ok d | .td d'=>d=d')
 | [],ds,h=>by cases h;exact⟨rfl,fun j z e=>by simp at e⟩
 | .vd d::r,ds,h=>by
  obtain⟨ya,e,h⟩:=bZ (show(dt ρ r).bind _=.ok ds from h)
  cases h
  obtain⟨h1,h2⟩:=qV e
  refine⟨by simp [h1],fun j z ez=>?_⟩
  cases j with
  | zero=>simp at ez;subst ez;exact⟨d,rfl,rfl⟩
  | succ j=>obtain⟨d',h3,h4⟩:=h2 j z (by simpa using ez);exact⟨d',by simpa using h3,h4⟩
 | .td d::r,ds,h=>by
  obtain⟨ya,e,h⟩:=bZ (show(dt ρ r).bind _=.ok ds from h)
  cases h
  obtain⟨h1,h2⟩:=qV e
  refine⟨by simp [h1],fun j z ez=>?_⟩
  cases j with
  | zero=>simp at ez;subst ez;exact⟨d,rfl,rfl⟩
  | succ j=>obtain⟨d',h3,h4⟩:=h2 j z (by simpa using ez);exact⟨d',by simpa using h3,h4⟩
 | .mi i::r,ds,h=>by
  obtain⟨d,e0,h⟩:=bZ (show(aZ ρ i).bind _=.ok ds from h)
  obtain⟨ya,e,h⟩:=bZ h
  cases h
  obtain⟨h1,h2⟩:=qV e
  refine⟨by simp [h1],fun j z ez=>?_⟩
  cases j with
  | zero=>simp at ez;subst ez;exact⟨d,rfl,e0⟩
  | succ j=>obtain⟨d',h3,h4⟩:=h2 j z (by simpa using ez);exact⟨d',by simpa using h3,h4⟩
theorem gj.get{σ:L2.St}{H₀ H:Hp}:∀{l:List Itm} {vs:List V},gj K σ H₀ H l vs->vs.length=l.length/\∀(j:Nat) z,l[j]?=some z->∃ v,vs[j]?=some v/\(match z with | .vd d=>Fz K H d v | .mi i=>σ[i]?=some (some v) | .td d=>∃ a,v=.ref a/\dn K H a d/\H₀ a=none)
 | [],vs,h=>by cases (show vs=[] from h);exact⟨rfl,fun j z e=>by simp at e⟩
 | .vd d::r,vs,h=>by
  obtain⟨v,t,rfl,f,h⟩:=h
  obtain⟨h1,h2⟩:=gj.get h
  refine⟨by simp [h1],fun j z ez=>?_⟩
  cases j with
  | zero=>simp at ez;subst ez;exact⟨v,rfl,f⟩
  | succ j=>obtain⟨d',h3,h4⟩:=h2 j z (by simpa using ez);exact⟨d',by simpa using h3,h4⟩
 | .mi i::r,vs,h=>by
  obtain⟨v,t,rfl,f,h⟩:=h
  obtain⟨h1,h2⟩:=gj.get h
  refine⟨by simp [h1],fun j z ez=>?_⟩
  cases j with
  | zero=>simp at ez;subst ez;exact⟨v,rfl,f⟩
  | succ j=>obtain⟨d',h3,h4⟩:=h2 j z (by simpa using ez);exact⟨d',by simpa using h3,h4⟩
 | .td d::r,vs,h=>by
  obtain⟨v,t,rfl,f,g,h⟩:=h
  obtain⟨h1,h2⟩:=gj.get h
  refine⟨by simp [h1],fun j z ez=>?_⟩
  cases j with
  | zero=>simp at ez;subst ez;exact⟨_,rfl,v,rfl,f,g⟩
  | succ j=>obtain⟨d',h3,h4⟩:=h2 j z (by simpa using ez);exact⟨d',by simpa using h3,h4⟩
end
end
variable {F:List D->R (D×List D)}
section
variable [Cs]
section
variable {K:ox}
theorem zpo{m:List (Nat×Sl)}(r:Rel K ρ σ H)(hA:∀ i c,m.lookup i=some c->∀ a,At ρ σ i a->∃ q d,c=.ow q d/\dn K H' a d)(hB:∀ i a,At ρ σ i a->m.lookup i=none->H' a=H a)(fz:aH H H') :
  Rel K (bR m 0 ρ) σ H'/\∀(i:Nat) p,(∃ d,ρ[i]?=some (.ow p d))↔∃ d,(bR m 0 ρ)[i]?=some (.ow p d):=by
 have gt:∀ i:Nat,(bR m 0 ρ)[i]?=(ρ[i]?).map (cf m i):=fun i=>by rw [zaT,EH]
 have vq:∀(i:Nat) p,(∃ d,ρ[i]?=some (.ow p d))↔∃ d,(bR m 0 ρ)[i]?=some (.ow p d):=fun i p=>by
  rw [gt]
  constructor
  ·rintro⟨d,e⟩
   rw [e]
   simp only [CC,cf]
   split
   ·rename_i p' d1 q' d2 h1 h2;cases h1;exact⟨_,rfl⟩
   ·exact⟨_,rfl⟩
  ·rintro⟨d,e⟩
   cases er:ρ[i]? with
   | none=>rw [er] at e;cases e
   | some x =>
    rw [er] at e
    simp only [CC,B7,cf] at e
    split at e
    ·cases e;exact⟨_,rfl⟩
    ·subst e;exact⟨_,rfl⟩
 have um:∀ i a,At (bR m 0 ρ) σ i a->At ρ σ i a:=fun i a ⟨⟨p,d,e1⟩,e2⟩=>⟨⟨p,(vq i p).mpr ⟨d,e1⟩⟩,e2⟩
 refine⟨⟨by rw [zaU];exact r.len,fun i x v e1 e2=>?_,fun i j a h1 h2=>r.sep i j a (um i a h1) (um j a h2),r.cst.mono fz⟩,vq⟩
 rw [gt] at e1
 cases er:ρ[i]? with
 | none=>rw [er] at e1;cases e1
 | some y =>
  rw [er] at e1
  simp only [CC,B7] at e1
  have o:=r.ok i y v er e2
  cases y with
  | no=>simp only [cf] at e1;subst e1;trivial
  | val d =>
   simp only [cf] at e1
   subst e1
   exact o.mono fz fun a _ ⟨p,d',z⟩=>nomatch z
  | ob c ds =>
   simp only [cf] at e1
   subst e1
   exact o.mono fz fun a _ ⟨p,d',z⟩=>nomatch z
  | ow p d =>
   cases v with
   | none=>exact o.elim
   | some v =>
    cases v with
    | ref a =>
     have ai:At ρ σ i a:=⟨⟨p,d,er⟩,e2⟩
     cases el:m.lookup i with
     | none =>
      simp only [cf,el] at e1
      subst e1
      exact o.mono fz fun b e3 _=>by cases e3;exact hB i a ai el
     | some c =>
      obtain⟨q,d',rfl,mm⟩:=hA i c el a ai
      simp only [cf,el] at e1
      subst e1
      exact mm
    | _=>exact o.elim
end
theorem zgy:∀{l:List Itm} {j j' i:Nat},(l.filterMap wj).Nodup->l[j]?=some (.mi i)->l[j']?=some (.mi i)->j=j'
 | [],j,j',i,_,h,_=>by simp at h
 | z::r,j,j',i,nd,h1,h2=>by
  have rest:(r.filterMap wj).Nodup:=by
   rw [D6] at nd
   cases z with
   | mi k=>exact(C0.mp nd).2
   | _=>exact nd
  have mem:∀{j:Nat},r[j]?=some (.mi i)->i∈r.filterMap wj:=fun h=>G1.mpr ⟨.mi i,Ck h,rfl⟩
  have hd:z=.mi i->∀{j:Nat},r[j]?≠some (.mi i):=fun e j h=>by
   subst e
   rw [D6] at nd
   exact(C0.mp nd).1 (mem h)
  cases j with
  | zero =>
   cases j' with
   | zero=>rfl
   | succ j'=>exact absurd (by simpa using h2) (hd (by simpa using h1) (j:=j'))
  | succ j =>
   cases j' with
   | zero=>exact absurd (by simpa using h1) (hd (by simpa using h2) (j:=j))
   | succ j' =>
    have:=zgy (l:=r) rest (by simpa using h1) (by simpa using h2)
    rw [this]
theorem zh0:∀{l:List Itm} {j j':Nat} {d d':D},l.countP mS<=1->l[j]?=some (.td d)->l[j']?=some (.td d')->j=j'
 | [],j,j',d,d',_,h,_=>by simp at h
 | z::r,j,j',d,d',c,h1,h2=>by
  have rest:r.countP mS<=1:=by
   rw [List.countP_cons] at c;lia
  have none:mS z=true->∀{j:Nat} {d:D},r[j]?≠some (.td d):=fun e j d h=>by
   rw [List.countP_cons,if_pos e] at c
   have:0<r.countP mS:=List.countP_pos_iff.mpr ⟨_,Ck h,rfl⟩
   lia
  cases j with
  | zero =>
   cases j' with
   | zero=>rfl
   | succ j' =>
    have e:z=.td d:=by simpa using h1
    subst e
    exact absurd (by simpa using h2) (none rfl (j:=j'))
  | succ j =>
   cases j' with
   | zero =>
    have e:z=.td d':=by simpa using h2
    subst e
    exact absurd (by simpa using h1) (none rfl (j:=j))
   | succ j' =>
    have:=zh0 (l:=r) rest (by simpa using h1) (by simpa using h2)
    rw [this]
theorem xf:∀{l:List Itm} {os:List D} {i:Nat} {c:Sl},(dg l os).lookup i=some c->∃(j:Nat) (d:D),l[j]?=some (.mi i)/\os[j]?=some d/\c=.ow true d
 | [],os,i,c,h=>by simp [dg] at h
 | z::r,[],i,c,h=>by cases z <;> simp [dg] at h
 | .vd d::r,o::os,i,c,h=>by
  obtain⟨j,d',h1,h2,h3⟩:=xf (l:=r) (os:=os) (by simpa [dg] using h)
  exact⟨j+1,d',by simpa using h1,by simpa using h2,h3⟩
 | .td d::r,o::os,i,c,h=>by
  obtain⟨j,d',h1,h2,h3⟩:=xf (l:=r) (os:=os) (by simpa [dg] using h)
  exact⟨j+1,d',by simpa using h1,by simpa using h2,h3⟩
 | .mi k::r,o::os,i,c,h=>by
  simp only [dg] at h
  rw [A2] at h
  by_cases e:i=k
  ·subst e
   simp only [beq_self_eq_true] at h
   cases h
   exact⟨0,o,rfl,rfl,rfl⟩
  ·rw [beq_false_of_ne e] at h
   obtain⟨j,d',h1,h2,h3⟩:=xf (l:=r) (os:=os) h
   exact⟨j+1,d',by simpa using h1,by simpa using h2,h3⟩
theorem xc:∀{l:List Itm} {os:List D} {i j:Nat} {d:D},l[j]?=some (.mi i)->os[j]?=some d->∃ c,(dg l os).lookup i=some c
 | [],os,i,j,d,h,_=>by simp at h
 | z::r,[],i,j,d,_,h=>by simp at h
 | .vd _::r,o::os,i,j,d,h1,h2=>by
  cases j with
  | zero=>simp at h1
  | succ j =>
   simp only [dg]
   exact xc (l:=r) (by simpa using h1) (by simpa using h2)
 | .td _::r,o::os,i,j,d,h1,h2=>by
  cases j with
  | zero=>simp at h1
  | succ j =>
   simp only [dg]
   exact xc (l:=r) (by simpa using h1) (by simpa using h2)
 | .mi k::r,o::os,i,j,d,h1,h2=>by
  simp only [dg]
  rw [A2]
  by_cases e:i=k
  ·subst e
   simp
  ·rw [beq_false_of_ne e]
   cases j with
   | zero=>simp at h1;exact absurd h1.symm e
   | succ j=>exact xc (l:=r) (by simpa using h1) (by simpa using h2)
section
variable {K:ox}{ρ0:En}{H0:Hp}{ds os:List D}
theorem qW(rel:Rel K ρ σ H)(it:gj K σ H0 H l vs)(hi:dt ρ l=.ok ds)(hm:l.map yC=ms){a:ir}(hd:ds.length=ms.length)(h:At (slots ms ds) (vs.map some) j a):(∃ i,l[j]?=some (.mi i)/\At ρ σ i a)\/∃ d,l[j]?=some (.td d)/\H0 a=none:=by
 obtain⟨v1,v2⟩:=it.get
 obtain⟨d1,d2⟩:=qV hi
 obtain⟨⟨p,d,e1⟩,e2⟩:=h
 obtain⟨rfl,em,ed⟩:=zG hd e1
 rw [<- hm,BV] at em
 cases el:l[j]? with
 | none=>rw [el] at em;cases em
 | some z =>
  rw [el] at em
  obtain⟨v,ev,es⟩:=v2 j _ el
  obtain⟨d',mM,uL⟩:=d2 j _ el
  rw [BV,ev] at e2
  cases e2
  cases z with
  | vd _=>cases em
  | mi i =>
   obtain⟨q,eq⟩:=zco uL
   exact .inl ⟨i,rfl,⟨q,d',eq⟩,es⟩
  | td d0 =>
   obtain⟨b,eb,_,hb⟩:=es
   cases eb
   exact .inr ⟨d0,rfl,hb⟩
theorem zjw(r0:Rel K ρ0 σ H0)(st:cO ρ0 ρ σ H0 H)(rel:Rel K ρ σ H)(it:gj K σ H0 H l vs)(hi:dt ρ l=.ok ds)(hm:l.map yC=ms)(nd:(l.filterMap wj).Nodup)(ct:l.countP mS<=1):ds.length=ms.length/\vs.length=ms.length/\Rel K (slots ms ds) (vs.map some) H:=by
 obtain⟨v1,v2⟩:=it.get
 obtain⟨d1,d2⟩:=qV hi
 have hl:ms.length=l.length:=by rw [<- hm,AW]
 have hd:ds.length=ms.length:=by rw [d1,hl]
 have hv:vs.length=ms.length:=by rw [v1,hl]
 have apart:∀{i:Nat} {a:ir},At ρ σ i a->H0 a=none->False:=fun h1 h2=>by
  obtain⟨o',e',_⟩:=r0.eY (st.ma.mpr ⟨_,h1⟩)
  rw [h2] at e';cases e'
 refine⟨hd,hv,⟨by rw [wd hd,AW,hv],fun j x v e1 e2=>?_,fun j j' a h1 h2=>?_,rel.cst⟩⟩
 ·rw [oG hd] at e1
  cases em:ms[j]? with
  | none=>rw [em] at e1;cases e1
  | some m =>
   cases ed:ds[j]? with
   | none=>rw [em,ed] at e1;cases e1
   | some d =>
    rw [em,ed] at e1
    rw [<- hm,BV] at em
    cases el:l[j]? with
    | none=>rw [el] at em;cases em
    | some z =>
     rw [el] at em
     obtain⟨u,eu,es⟩:=v2 j z el
     obtain⟨d',mM,uL⟩:=d2 j z el
     rw [ed] at mM
     cases mM
     rw [BV,eu] at e2
     cases e2
     cases z with
     | vd dz =>
      cases em
      cases e1
      cases uL
      exact es
     | mi i =>
      cases em
      cases e1
      obtain⟨q,eq⟩:=zco uL
      have o:=rel.ok i _ _ eq es
      show lG K H (.ow true d) (some u)
      cases u with
      | ref a=>exact o
      | _=>exact o.elim
     | td dz =>
      cases em
      cases e1
      cases uL
      obtain⟨b,rfl,mb,_⟩:=es
      exact mb
 ·rcases qW rel it hi hm hd h1 with⟨i,e1,a1⟩|⟨d,e1,a1⟩
  ·rcases qW rel it hi hm hd h2 with⟨i',e2,a2⟩|⟨d,e2,a2⟩
   ·have:=rel.sep i i' a a1 a2
    subst this
    exact zgy nd e1 e2
   ·exact(apart a1 a2).elim
  ·rcases qW rel it hi hm hd h2 with⟨i',e2,a2⟩|⟨d,e2,a2⟩
   ·exact(apart a2 a1).elim
   ·exact zh0 ct e1 e2
theorem zjv(r0:Rel K ρ0 σ H0)(st:cO ρ0 ρ σ H0 H)(rel:Rel K ρ σ H)(it:gj K σ H0 H l vs)(hi:dt ρ l=.ok ds)(hm:l.map yC=ms)(hd:ds.length=ms.length)(ho:os.length=ms.length)(ra:Rel K (slots ms os) (vs.map some) H')(hC:∀ a o,H a=some o->¬ MA (slots ms ds) (vs.map some) a->H' a=some o) :
  Rel K (gB ρ l os) σ H'/\cO ρ0 (gB ρ l os) σ H0 H':=by
 obtain⟨v1,v2⟩:=it.get
 obtain⟨d1,d2⟩:=qV hi
 have hl:ms.length=l.length:=by rw [<- hm,AW]
 have apart:∀{i:Nat} {a:ir},At ρ σ i a->H0 a=none->False:=fun h1 h2=>by
  obtain⟨o',e',_⟩:=r0.eY (st.ma.mpr ⟨_,h1⟩)
  rw [h2] at e';cases e'
 have kp0:∀ a o,H0 a=some o->¬ MA ρ0 σ a->H' a=some o:=fun a o e n=>hC a o (st.kp a o e n) fun⟨j,h⟩=>by
  rcases qW rel it hi hm hd h with⟨i,_,a1⟩|⟨d,_,a1⟩
  ·exact n (st.ma.mpr ⟨i,a1⟩)
  ·rw [e] at a1;cases a1
 have fz:aH H H':=fun a o e sy=>hC a o e fun⟨j,h⟩=>by
  obtain⟨⟨p,d,e1⟩,e2⟩:=id h
  obtain⟨rfl,em,ed⟩:=zG hd e1
  rcases qW rel it hi hm hd h with⟨i,_,a1⟩|⟨d,el,a1⟩
  ·obtain⟨o',e',ow⟩:=rel.eY ⟨i,a1⟩
   rw [e] at e'
   cases e'
   exact ow.jS sy
  ·obtain⟨v,ev,b,eb,mb,_⟩:=v2 j _ el
   rw [BV,ev] at e2
   cases e2
   cases eb
   obtain⟨o',e',ow⟩:=mb.own
   rw [e] at e'
   cases e'
   exact ow.jS sy
 have key:=zpo (H:=H) (H':=H') (m:=dg l os) rel (fun i c e a bz=>by
  obtain⟨j,d,e1,e2,rfl⟩:=xf e
  obtain⟨v,ev,es⟩:=v2 j _ e1
  replace es:σ[i]?=some (some v):=es
  rw [bz.2] at es
  cases es
  refine⟨true,d,rfl,?_⟩
  have em:ms[j]?=some true:=by rw [<- hm,BV,e1];rfl
  exact ra.ok j (.ow true d) (some (.ref a)) (by rw [oG ho,em,e2];rfl) (by rw [BV,ev];rfl)) (fun i a bz e=>by
  obtain⟨u,hu,_⟩:=rel.eY ⟨i,bz⟩
  rw [hu]
  refine hC a u hu fun⟨j,h⟩=>?_
  rcases qW rel it hi hm hd h with⟨i',el,a1⟩|⟨d,_,a1⟩
  ·have:=rel.sep i i' a bz a1
   subst this
   have hj:j<os.length:=by rw [ho,hl];exact(By.mp el).1
   obtain⟨c,ec⟩:=xc el (Bo hj)
   rw [ec] at e
   cases e
  ·exact apart bz a1) fz
 exact⟨key.1,⟨fun i p=>(st.md i p).trans (key.2 i p),kp0⟩⟩
end
section
variable {K:ox}
def qR(F:List D->R (D×List D))(n:Nat):Prop:=∀ ds y,F ds=.ok y->y.2.length=n
theorem zgQ{fr:Bool}:qR (run ms fr m b) ms.length:=fun ds y h=>by
 unfold run at h
 split at h
 ·rename_i hd
  obtain⟨z,_,h⟩:=bZ h
  obtain⟨fl,ρ⟩:=z
  cases fr with
  | false =>
   cases fl with
   | rt d=>cases h;exact vF hd
   | nx=>cases h;exact vF hd
   | _=>cases h
  | true =>
   cases fl with
   | rf d=>cases h;exact vF hd
   | _=>cases h
 ·cases h
theorem zfw{fr:Bool}(ho:qR F (i5 a).length)(nd:(mD a).Nodup)(ct:mE a<=1)(σ:L2.St)(H:Hp)(Q:VK)(ρ:En)(rel:Rel K ρ σ H)
  (q:Good K ρ σ H (bA F a ρ) fun d ρ' H'=>∀ v,(if fr=true then ∃ a,v=.ref a/\H a=none/\dn K H' a d else Fz K H' d v)->Q v H'):zc6 (lz K (i5 a) fr F) [] E (tAr K a) σ H Q:=by
 obtain⟨y,ey,q0⟩:=q.bJ
 obtain⟨h1,h2,h3⟩:=xa ey
 refine⟨ρ,rel,?_⟩
 rw [ey]
 intro H1 ak aK vs it
 obtain⟨ds,ed,q1⟩:=q0.bV
 obtain⟨z,ez,q2⟩:=q1.bV
 obtain⟨hd,hv,ra⟩:=zjw rel aK ak it ed h1 (by rw [h2];exact nd) (by rw [h3];exact ct)
 rw [DB]
 refine⟨ds,hv,hd,ra,z.1,z.2,ez,fun v H' rb kp fin=>?_⟩
 obtain⟨r2,s2⟩:=zjv rel aK ak it ed h1 hd (ho ds z ez) rb kp
 refine q2 H' r2 s2 v ?_
 cases fr with
 | false=>exact fin
 | true =>
  obtain⟨ad,rfl,ha,m⟩:=fin
  exact⟨ad,rfl,aK.old ak ha,m⟩
theorem zqI(c:Callee X.prog X.w X.K X.mg X.base x k ps (lz X.K (i5 a) false F))(ho:qR F (i5 a).length)(nd:(mD a).Nodup)(ct:mE a<=1)(hr:bp j X.A)(hg:Gl X x)(hx:Passes (cF X.prog X.w) X E)(ha:jG K X (e::es) a)(hj:k<=j:=by decide)(bE:(x==("__debug__":gV))=false:=by decide)
  (he:Au (e::es) X.env=(false,Ay e X.env)::Au es X.env:=by exact FL.se rfl) (aY:(A0 pos (Au es X.env)).any (·.1)=false:=by exact FL.sp rfl):PV K X (.Call (.Name x p) (e::es) [] pos) (bA F a):=.mk fun hK=>by
 subst hK
 refine(vI c hr hg hx (ha rfl) hj bE he aY).weak fun σ H Q=>?_
 rintro⟨ρ,rel,q⟩
 exact zfw (fr:=false) ho nd ct σ H Q ρ rel q
theorem zq4(c:Callee X.prog X.w X.K X.mg X.base x k ps (lz X.K (i5 a) true F))(ho:qR F (i5 a).length)(nd:(mD a).Nodup)(ct:mE a<=1)(hr:bp j X.A)(hg:Gl X x)(hx:Passes (cF X.prog X.w) X E)(ha:jG K X (e::es) a)(hj:k<=j:=by decide)(bE:(x==("__debug__":gV))=false:=by decide)
  (he:Au (e::es) X.env=(false,Ay e X.env)::Au es X.env:=by exact FL.se rfl) (aY:(A0 pos (Au es X.env)).any (·.1)=false:=by exact FL.sp rfl):bY K X (.Call (.Name x p) (e::es) [] pos) (bA F a):=.mk fun hK=>by
 subst hK
 refine(vI c hr hg hx (ha rfl) hj bE he aY).weak fun σ H Q=>?_
 rintro⟨ρ,rel,q⟩
 refine zfw (fr:=true) ho nd ct σ H Q ρ rel ?_
 cases e0:bA F a ρ with
 | ok y =>
  rw [e0] at q
  exact fun H' r s v ⟨ad,hv,ha,m⟩=>by subst hv;exact q H' r s ad ha m
 | _=>rw [e0] at q;exact q.elim
end
end
variable {a b:Aq}{x0:gV}
section
variable [Cs]
section
variable {K:ox}{st:AU}
theorem zlE(rel:bU K C ρ σ H)(e:ρ[i]?=some (.ow false d)):∃ a u,H a=some u/\Own u/\∀ o,bU K C (ρ.set i (.val d)) σ (upd H a (.frz o u))/\aH H (upd H a (.frz o u)):=by
 obtain⟨a,bz,m⟩:=rel.rel.kW (d:=d) (show aZ ρ i=.ok d by unfold aZ;rw [e])
 obtain⟨u,e1,ow⟩:=m.own
 refine⟨a,u,e1,ow,fun o=>?_⟩
 have hl:i<ρ.length:=(By.mp e).1
 have mO:=rel.own i a d e bz.2
 have fz:aH H (upd H a (.frz o u)):=fun b w e2 sy=>by
  rw [bh fun z=>by subst z;rw [e1] at e2;cases e2;exact ow.jS sy]
  exact e2
 refine⟨?_,fz⟩
 have fd:Fz K (upd H a (.frz o u)) d (.ref a):=by
  cases d with
  | list ds =>
   obtain⟨vs,h1,h2⟩:=m
   rw [e1] at h1
   cases h1
   simp only [Fz]
   exact⟨a,vs,rfl,.inl ⟨o,cN⟩,h2.mono fz⟩
  | dict ag =>
   simp only [Fz]
   obtain⟨kk,h1,h2⟩:=m
   rw [e1] at h1
   cases h1
   exact⟨a,o,rfl,⟨kk,cN,h2.mono fz⟩⟩
  | _=>exact m.elim
 have uq:∀ j b,At (ρ.set i (.val d)) σ j b->j≠i/\At ρ σ j b:=fun j b ⟨⟨q,dd,e1⟩,e2⟩=>by
  by_cases c:i=j
  ·subst c
   rw [BA hl] at e1;cases e1
  ·rw [BC c] at e1
   exact⟨fun z=>c z.symm,⟨q,dd,e1⟩,e2⟩
 refine⟨⟨by rw [C6];exact rel.rel.len,fun j y w e2 e3=>?_,fun j k b h1 h2=>rel.rel.sep j k b (uq j b h1).2 (uq k b h2).2,rel.rel.cst.mono fz⟩,fun b w e2 n=>?_,fun j b c e2 e3=>?_,fun j=>?_,fun j c e2=>?_,rel.m8⟩
 ·by_cases c:i=j
  ·subst c
   rw [BA hl] at e2
   cases e2
   rw [bz.2] at e3
   cases e3
   exact fd
  ·rw [BC c] at e2
   refine(rel.rel.ok j y w e2 e3).mono fz fun b e4 ⟨p,dd,e5⟩=>?_
   subst e4;subst e5
   refine bh fun z=>?_
   subst z
   exact c (rel.rel.sep i j b bz ⟨⟨p,dd,e2⟩,e3⟩)
 ·rw [bh fun z=>by subst z;rw [mO] at e2;cases e2]
  exact rel.keep b w e2 n
 ·by_cases c:i=j
  ·subst c
   rw [BA hl] at e2;cases e2
  ·rw [BC c] at e2
   exact rel.own j b _ e2 e3
 ·by_cases c:i=j
  ·subst c
   rw [BA hl,<- rel.pin i,e]
   constructor
   ·rintro⟨_,z⟩;cases z
   ·rintro⟨_,z⟩;cases z
  ·rw [BC c];exact rel.pin j
 ·by_cases k:i=j
  ·subst k
   rw [BA hl] at e2;cases e2
  ·rw [BC k] at e2
   exact rel.fix j c e2
theorem zcS(i:Nat)(hh:cI K X st s):cI K X st (eG i s):=.mk fun hK C=>by
 have h1:PS X st (fun Dn σ H=>tS K C s { Dn with nx:=fun σ H=>∃ a u,H a=some u/\Own u/\∀ o,Dn.nx σ (upd H a (.frz o u)) } σ H):=fun pins sh σ H Dn I q=>by
  refine aI (hh hK C pins sh σ H _ I q) fun fl s1 z=>?_
  cases fl with
  | next =>
   obtain⟨σ',H',I',a,u,e,ow,q⟩:=z
   obtain⟨o,ho⟩:=(I'.az a u e).some
   exact⟨σ',_,zbv I' e ow ho,q o⟩
  | brk=>exact z
  | cont=>exact z
  | ret v=>exact z
 refine h1.weak fun Dn σ H=>?_
 rintro⟨ρ,rel,g⟩
 refine⟨ρ,rel,?_⟩
 obtain⟨x,ex,g1⟩:=g.bJ
 rw [ex]
 obtain⟨fl,ρ1⟩:=x
 cases fl with
 | nx =>
  replace g1:eQ K C H (match ρ1[i]? with|some (.ow false d)=>.ok (.nx,ρ1.set i (.val d))|_=>.bad) Dn:=g1
  cases e:ρ1[i]? with
  | none=>rw [e] at g1;exact g1.elim
  | some y =>
   rw [e] at g1
   cases y with
   | ow p d =>
    cases p with
    | true=>exact g1.elim
    | false =>
     intro σ' H' r z
     obtain⟨a,u,e1,ow,k⟩:=zlE r e
     exact⟨a,u,e1,ow,fun o=>g1 σ' _ (k o).1 (z.trans (k o).2)⟩
   | _=>exact g1.elim
 | bk=>exact g1
 | ct=>exact g1
 | rt d=>exact g1
 | rf d=>exact g1
theorem zrj{px pt:Az}{kt k2 lh}(hc:X.calm=true)(hN:X.N.Nodup)(hi:X.N[i]?=some x)(hj:X.N[j]?=some y)(hJ:i≠j)
  (hx:X.env.scope.names.lookup x=some .local)(hy:X.env.scope.names.lookup y=some .local)(ha:PV K X a f)(hb:PV K X b h)
  (hw:EZ [.Tuple [.Name x px,.Name y py] kt pt] (.Tuple [a,b] k2 lh) X.env=pure (some [x,y]))
  (hs:EY [.Tuple [.Name x px,.Name y py] kt pt] (.Tuple [a,b] k2 lh) pos.line X.env=pure false:=by rfl)(rM:Au [a,b] X.env=(false,Ay a X.env)::Au [b] X.env:=by exact FL.se rfl)(dh:Au [b] X.env=(false,Ay b X.env)::Au [] X.env:=by exact FL.se rfl) :
  cI K X (.Assign [.Tuple [.Name x px,.Name y py] kt pt] (.Tuple [a,b] k2 lh) pos) (cu i j f h):=.mk fun hK C=>(zql hc hN hi hj hJ hx hy (ik (ha hK) (ik (hb hK) kl dh) rM) hw hs).weak fun Dn σ H=>by
 rintro⟨ρ,rel,g⟩
 refine jj rel g fun d ρ1 v H1 ak aK fz g1=>jj ak g1 fun d2 ρ2 v2 H2 bS bT fz2 g2=>?_
 obtain⟨ρ3,e3,g3⟩:=g2.bJ
 obtain⟨ρ4,e4,g4⟩:=g3.bJ
 obtain⟨rfl,n1,l1⟩:=uQ e3
 obtain⟨rfl,n2,l2⟩:=uQ e4
 have f1:=fz.mono (bT.dM ak.rel)
 have r3:=bS.chg (bS.rel.set (i:=i) (x:=.val d) (v:=some v) f1 fun _ _ _ z=>nomatch z) (uA n1 l1)
 have r4:=r3.chg (r3.rel.set (i:=j) (x:=.val d2) (v:=some v2) fz2 fun _ _ _ z=>nomatch z) (uA n2 l2)
 exact⟨v,v2,rfl,g4 _ H2 r4 (aH.refl _)⟩
theorem zhn{pl:Az}(ha:PV K X a f)(hb:PV K X b h)(hs:Au [a] X.env=(false,Ay a X.env)::Au [] X.env:=by exact FL.se rfl):bY K X (.BinOp (.List [a] pl) .Mult b pos) (fE f h):=.mk fun hK=>(zg3 zpm (zg2 (ik (ha hK) kl hs)) (hb hK)).weak fun σ H Q=>by
 rintro⟨ρ,rel,q⟩
 refine dw rel q fun dx ρ1 x H1 ak aK fx q1=>⟨by show 1<=AK;rw [BU];decide,fun l hl=>?_⟩
 have s0:aB H1 (upd H1 l (.lst [x])):=aB.upd hl
 have kc:¬ MA ρ1 σ l:=fun z=>by
  obtain⟨o',e',_⟩:=ak.eY z
  rw [hl] at e';cases e'
 refine dw (ak.same s0) (q1.step (.of s0)) fun dy ρ2 y H2 bS bT fy q2=>?_
 have j7:H2 l=some (.lst [x]):=bT.kp l _ cN kc
 cases dy with
 | int k =>
  obtain⟨c,q3⟩:=Good.aF (c:=decide (0<=k)&&leB k.toNat 1000000) q2
  simp only [Fz] at fy
  subst fy
  simp only [BJ,decide_eq_true_eq,leB_iff] at c
  have el:∀{α:Type} (z:α) (n:Nat),(AB n [z]).flatten=AB n z:=fun z n=>by
   induction n with
   | zero=>rfl
   | succ n ih=>rw [DF,E8,ih];rfl
  refine⟨l,k,[x],rfl,rfl,j7,by lia,by lia,?_,fun p hp=>?_⟩
  ·rw [BU,DU];lia
  ·rw [el]
   have s2:aB H2 (upd H2 p (.lst (AB k.toNat x))):=aB.upd hp
   have fx2:Fz K (upd H2 p (.lst (AB k.toNat x))) dx x:=((fx.mono (aH.of s0)).mono (bT.dM (ak.same s0))).mono (aH.of s2)
   refine q3.new bS s2 p ?_ ⟨_,cN,?_⟩
   ·cases e0:H p with
    | none=>rfl
    | some o =>
     by_cases mm:MA ρ σ p
     ·obtain⟨o',e',_⟩:=bS.eY (bT.ma.mp (aK.ma.mp mm))
      rw [hp] at e';cases e'
     ·have e1:=s0 p o (aK.kp p o e0 mm)
      rw [bT.kp p o e1 fun z=>mm (aK.ma.mpr z)] at hp;cases hp
   ·have:∀ n:Nat,aj K (upd H2 p (.lst (AB k.toNat x))) (AB n dx) (AB n x):=fun n=>by
     induction n with
     | zero=>simp [aj]
     | succ n ih=>rw [DF,DF];simp only [aj];exact⟨x,_,rfl,fx2,ih⟩
    exact this _
 | _=>exact q2.elim
theorem zri{oH:Az}(i0:Nat)(L:List gV)(ix:List Nat)(M:List gV)(hN:X.N.Nodup)(u9:X.N[i0]?=some x0)(rO:X.env.scope.names.lookup x0=some .local)
  (pU:BR (.ListComp elt [⟨tg,iter,ifs,0⟩] scope pos) (some (.Name x0 pos')) oH.line X.env=pure true)(hc:X.calm=true)(hk:scope.kind=.function)
  (hd:nK X.env.scope scope X.N ix=true)(hM:M=L++ix.map fun i=>X.N.getD i "") (nd:ix.Nodup) (hi:gz K X tg iter it)
  (hg:∀ C s₃ H₃ fp,jH K (dE X M scope C s₃ H₃ fp) dom tg g) (gm:dom.all (fun i=>decide (i<L.length))=true)
  (ht:∀ C s₃ H₃ fp,nF K (dE X M scope C s₃ H₃ fp) ifs t) (he:∀ C s₃ H₃ fp,PV K (dE X M scope C s₃ H₃ fp) elt f)
  (hs:∀ x,Dg iter X.env x=pure x:=by intro _;rfl) :
  cI K X (.Assign [.Name x0 pos'] (.ListComp elt [⟨tg,iter,ifs,0⟩] scope pos) oH) (bH i0 (dJ L.length ix it g t f)):=.mk fun hK C =>
 (zqn i0 L ix M hN u9 rO pU hc hk hd hM (hi hK) (fun C s₃ H₃ fp=>hg C s₃ H₃ fp hK) (zfC gm) (fun C s₃ H₃ fp=>ht C s₃ H₃ fp hK) (fun C s₃ H₃ fp=>he C s₃ H₃ fp hK) hs).weak fun Dn σ H q=>zfy nd gm σ H _ (zfB Dn σ H q)
end
end
variable {f:SF}
section
variable [Cs]
structure Blt(mg:gV->Option dm):Prop where
 vv:mg "abs"=none
 om:mg "isinstance"=none
 yQ:mg "int"=none
 zcp:mg "bool"=none
 mZ:mg "tuple"=none
 vy:mg "list"=none
 kY:mg "str"=none
 kX:mg "len"=none
 vw:mg "all"=none
 lP:mg "range"=none
 vz:mg "zip"=none
 vx:mg "enumerate"=none
 zgC:mg "max"=none
 zgD:mg "min"=none
 zgE:mg "sum"=none
 r9:mg "sorted"=none
 zgB:mg "dict"=none
 zgA:mg "any"=none
namespace Bt
theorem abs:Bs "abs"=some (.builtin "abs"):=by decide +kernel
theorem len:Bs "len"=some (.builtin "len"):=by decide +kernel
theorem all:Bs "all"=some (.builtin "all"):=by decide +kernel
theorem sorted:Bs "sorted"=some (.builtin "sorted"):=by decide +kernel
theorem int:Bs "int"=some (.type "int"):=by decide +kernel
theorem bool:Bs "bool"=some (.type "bool"):=by decide +kernel
theorem tuple:Bs "tuple"=some (.type "tuple"):=by decide +kernel
theorem list:Bs "list"=some (.type "list"):=by decide +kernel
theorem str:Bs "str"=some (.type "str"):=by decide +kernel
end Bt
theorem zcQ{K:ox}{st:List AU}(h:fH K X.kg st f):fH K X st f:=.mk fun hK C=>cG.kg (h hK C)
theorem znZ{K:ox}{G:List D->R D}{H:Hp}{a:ir}{ns:List Int}(h:G [.list (ns.map A8)]=.ok (.bool true))(hO:∀ b xs,H b≠some (.lst xs))(hC:kA H)(hS:bB K H a (ns.map V.int)):jW K 1 false G [.ref a] H (fun v _=>v=.bl true) fun _ _ _=>False:=by
 refine⟨[.list (ns.map A8)],rfl,hC,?_,.bool true,h,fun v H' _ fz=>by simpa [Fz] using fz⟩
 simp only [aj,Fz]
 refine⟨.ref a,[],rfl,⟨a,ns.map V.int,rfl,?_,aj.ofInts ns⟩,rfl⟩
 rcases hS with(hS|⟨o,hS⟩)|hS
 ·exact absurd hS (hO a _)
 ·exact .inl ⟨o,hS⟩
 ·exact .inr hS
end
end FL
namespace FL
open PySem
end FL
namespace L2
open PySem PySem.Spec PyProof.Rows
section
end
section
end
end L2
namespace FL
open PySem L2 PySem.Spec
open PyProof.Rows hiding St
variable [Cs]
end FL
namespace FL
open PySem
abbrev K1:=Int ⊕ gV
abbrev KQ:=List K1 ⊕ K1
noncomputable def yF:D->Option K1
 | .int i=>some (.inl i)
 | .str x=>some (.inr x)
 | _=>none
def lO:List D->Option (List K1)
 | []=>some []
 | d::r=>(yF d).bind fun k=>(lO r).map fun ks=>k::ks
def keyOf:D->Option KQ
 | .tuple xs=>(lO xs).map .inl
 | _=>none
noncomputable def yg:KQ->Bool
 | .inl _=>true
 | .inr _=>false
def keysOk(f:Bool)(ag:List (D×D)):Bool:=ag.all fun kv=>match keyOf kv.1 with
 | some q=>yg q==f
 | none=>false
def look(ag:List (D×D))(q:KQ):Option D:=(ag.find? fun kv=>decide (keyOf kv.1=some q)).map (·.2)
def vN(ag:List (D×D))(k:D)(q:KQ)(v:D):List (D×D) :=
 if(ag.any fun kv=>decide (keyOf kv.1=some q))=true then ag.map fun kv=>if keyOf kv.1=some q then(kv.1,v) else kv else ag++[(k,v)]
def zla(ag:List (D×D))(q:KQ):List (D×D):=ag.filter fun kv=>decide (keyOf kv.1≠some q)
def dictAt(d k:D):R (List (D×D)×KQ):=match d with
 | .dict ag=>(R.of (keyOf k)).bind fun q=>aF (keysOk (yg q) ag) (.ok (ag,q))
 | _=>.bad
def nL(d k:D):R (Option D):=(dictAt d k).bind fun x=>.ok (look x.1 x.2)
def zlS(d k x:D):R D:=(nL d k).bind fun o=>.ok (o.getD x)
def inD(k d:D):R D:=(nL d k).bind fun o=>.ok (.bool o.isSome)
def fC(d k:D):R D:=(nL d k).bind fun o=>R.of o
def mK(d k v:D):R D:=(dictAt d k).bind fun x=>aF (leB (x.1.length+1) lim) (.ok (.dict (vN x.1 k x.2 v)))
def zk4(d k:D):R D:=(dictAt d k).bind fun x=>aF (look x.1 x.2).isSome (.ok (.dict (zla x.1 x.2)))
noncomputable def gn:D->R (List D)
 | .dict ag=>.ok (ag.map (·.1))
 | _=>.bad
def jq(i:Nat)(k x:EF):EF:=fun ρ=>(aZ ρ i).bind fun c0=>(gn c0).bind fun _=>(k ρ).bind fun a=>(x a.2).bind fun b=>(aZ b.2 i).bind fun c=>(zlS c a.1 b.1).bind fun d=>.ok (d,b.2)
def e3(g:D->D->D->R D)(d k x:EF):EF:=fun ρ=>(d ρ).bind fun c=>(k c.2).bind fun a=>(x a.2).bind fun b=>(g c.1 a.1 b.1).bind fun r=>.ok (r,b.2)
def dI(i:Nat)(k f:EF):SF:=fun ρ=>(f ρ).bind fun v=>(aZ v.2 i).bind fun _=>(k v.2).bind fun a=>(aZ a.2 i).bind fun c=>(mK c a.1 v.1).bind fun d=>.ok (.nx,bW a.2 i d)
def ja(i:Nat)(k:EF):SF:=fun ρ=>(aZ ρ i).bind fun _=>(k ρ).bind fun a=>(aZ a.2 i).bind fun c=>(zk4 c a.1).bind fun d=>.ok (.nx,bW a.2 i d)
def iD(f:EF):IF:=fun ρ=>(f ρ).bind fun x=>(gn x.1).bind fun l=>.ok (l,x.2)
def jd(k v:EF):EF:=fun ρ=>(k ρ).bind fun x=>(v x.2).bind fun y=>(mK (.dict []) x.1 y.1).bind fun d=>.ok (d,y.2)
noncomputable def fc:EF:=fun ρ=>.ok (.dict [],ρ)
end FL
namespace PySem
open Spec
end PySem
namespace L2
open PySem PySem.Spec PyProof.Rows
end L2
namespace PySem
open Spec
variable {Q:Option dm->kb->Prop}{ep i:Nat}{d it:ir}{w:AJ}{A:AY}{prog:AO}{s:kb}{E:dm->kb->Prop}{es:Array Dr}
section
structure iB(h:AD)(d:ir)(es:Array Dr)(ep:Nat):Prop where
 ex:∃ o,h.get? d=some o/\o.ExactDict/\o.data=.dict es ep
theorem iB.typ(x:iB s.heap d es ep):s.TypeIs (.ref d) "dict":=by
 obtain⟨o,ho,hc,_⟩:=x.ex
 exact⟨o,ho,hc.1⟩
theorem zfU{Q:dm->kb->Prop}(hd:(d==Dw)=false)(x:iB s.heap d es ep)
  (hQ:Q (.ref s.heap.objs.size) { s with heap:=s.heap.push { cls:=.type "dict_keyiterator",data:=.fields #[.ref d,.int 0 0,.int es.size 0,.int ep 0] } }):Av (Ax prog w) A (pyIter (.ref d)) Q E s:=by
 obtain⟨o,ho,hc,uZ⟩:=x.ex
 have hT:=x.typ
 refine wpAny_pyIter_slot hT F.slot_dict_iter (Dl F.slot_dict_iter hT F.entry_dict_iter ?_ (F.args_dict_iter_1 _))
 unfold Ce.«dict.__iter__» Builtin.Dict.dictSlotNone
 refine Ap (Ap (wpAny_notOrdered_dict hT ?_))
 show Av _ _ (pure (BF d)) _ _ s
 refine AH ?_
 show Av _ _ (Ja d >>= _) _ _ s
 unfold Ja
 rw [if_neg (by rw [hd];exact C3)]
 refine Ap (AH (Ap (HF ho uZ (Ap (HG ho uZ ?_)))))
 refine Ap (CY (AH ⟨_,rfl,"dict_keyiterator",_,⟨_,Bl _ rfl,rfl⟩,FQ.lookup,?_⟩))
 simpa [C4] using hQ
theorem zgI(hit:s.heap.IsKeyIter it d i es.size ep)(x:iB s.heap d es ep)(hi:i<es.size)
  (hQ:∀ h',h'.IsKeyIter it d (i+1) es.size ep->Ep it s.heap h'->Q (some es[i].key) { s with heap:=h' }):Av (Ax prog w) A (Df (.ref it)) Q E s:=by
 obtain⟨o,ho,hc,hd⟩:=id hit
 obtain⟨od,pO,g9,rH⟩:=x.ex
 unfold Df
 refine Ap (Gu (Ec (name:=BD "__next__") hit.typeIs FQ (Dl FQ hit.typeIs Jb ?_ (Jc _))))
 refine Ap (AH (Ap (Ap ?_)))
 first|refine Ap (Gv hit.typeIs (AH ?_))|refine Ap (Gw hit.typeIs (AH ?_))
 refine Ap (wpAny_fieldsOf ho hd ?_)
 have zbT:Jd "dict_keyiterator"=false:=by decide
 simp only [zbT,A6,if_false]
 show Av _ _ (if(BF d==Bx)=true then _ else _) _ _ s
 rw [if_neg (show ¬ ((BF d==Bx)=true) from C3)]
 refine Ap (AH (Ap (HF pO rH ?_)))
 rw [if_neg (by simp)]
 refine Ap (AH (Ap (HG pO rH ?_)))
 rw [if_neg (by simp)]
 refine AH ?_
 simp only [show ¬ ((i:Int)<0) from by lia,if_false,FR,Fe hi]
 refine Ap ?_
 first|refine Ap (Gv hit.typeIs (AH ?_))|refine Ap (Gw hit.typeIs (AH ?_))
 refine Ap (wpAny_isOneOf_keyiter hit.typeIs ?_)
 show Av _ _ (setField (.ref it) 1 (C4 ((i:Int)+1)) >>= _) _ _ s
 refine Ap (Gx ho hd (by simp) ?_)
 have yt:(s.heap.update it (Obj.mapFields (·.setIfInBounds 1 (C4 ((i:Int)+1))))).IsKeyIter it d (i+1) es.size ep :=
  ⟨_,Hi _ ho (Je (Gy hd _)),(Obj.cls_mapFields ..).trans hc,by rw [Gy hd];simp [C4]⟩
 refine Ap (Ct (Ap (wpAny_isOneOf_keyiter (s:={ s with heap:=s.heap.update it (Obj.mapFields (·.setIfInBounds 1 (C4 ((i:Int)+1)))) }) yt.typeIs ?_)))
 show Av _ _ (pure es[i].key) _ _ _
 exact AH (AH ⟨_,rfl,AH (hQ _ yt (DY ..))⟩)
theorem ye(hh:A.handled=none)(hit:s.heap.IsKeyIter it d i es.size ep)(x:iB s.heap d es ep)(hge:es.size<=i)
  (hQ:∀ h',Heap.ExtBut it s.heap h'->Q none { s with heap:=h' }):Av (Ax prog w) A (Df (.ref it)) Q E s:=by
 obtain⟨o,ho,hc,hd⟩:=id hit
 obtain⟨od,pO,g9,rH⟩:=x.ex
 unfold Df
 refine Ap (Gu (Ec (name:=BD "__next__") hit.typeIs FQ (Dl FQ hit.typeIs Jb ?_ (Jc _))))
 refine Ap (AH (Ap (Ap ?_)))
 first|refine Ap (Gv hit.typeIs (AH ?_))|refine Ap (Gw hit.typeIs (AH ?_))
 refine Ap (wpAny_fieldsOf ho hd ?_)
 have zbT:Jd "dict_keyiterator"=false:=by decide
 simp only [zbT,A6,if_false]
 show Av _ _ (if(BF d==Bx)=true then _ else _) _ _ s
 rw [if_neg (show ¬ ((BF d==Bx)=true) from C3)]
 refine Ap (AH (Ap (HF pO rH ?_)))
 rw [if_neg (by simp)]
 refine Ap (AH (Ap (HG pO rH ?_)))
 rw [if_neg (by simp)]
 refine AH ?_
 simp only [show ¬ ((i:Int)<0) from by lia,if_false,FR,HH hge]
 refine Ap ?_
 first|refine Ap (Gv hit.typeIs (AH ?_))|refine Ap (Gw hit.typeIs (AH ?_))
 show Av _ _ (setField (.ref it) 0 .none >>= _) _ _ s
 refine Ap (Gx ho hd (by simp) ?_)
 show Av _ _ (newExc (.type "StopIteration") [] >>= _) _ _ _
 refine Ap ?_
 simp only [newExc,newTuple]
 refine Ap (CY ?_ (by size_fits))
 refine Ap (m:=Gz _ _) (wpAny_of_eq (a:=Bx) (by first|rfl|(simp only [Gz];rfl)) ?_)
 refine CY ?_ (by size_fits)
 simp only [raiseNew]
 refine Ap (wpAny_handled ?_)
 rw [show A.in1.handled=none from hh]
 refine Ap (AH (wpAny_throw ?_))
 refine Ap (HI (T:="StopIteration") (b:=true) ⟨_,Bl _ rfl,rfl⟩ isSubtype_stop ?_)
 exact AH (hQ _ (((DY ..).extBut.push _).push _))
end
end PySem
namespace L2
open PySem PySem.Spec PyProof.Rows
variable {P:AO}{d:ir}{H:Hp}{h:AD}{ag:List (List Key×V)}{es:Array Dr}{ep:Nat}{w:AJ}{o:AA}{tg:Aq}
section
def zao(d:ir)(o:AA)(ag:List (List Key×V)):It :=
 ⟨fun i H=>H d=some (.frz o (.dT ag))/\i<ag.length,fun i H x H'=>H'=H/\∃ k v b,ag[i]?=some (k,v)/\x=.ref b/\dH H b (k.map kV),fun i H=>H d=some (.frz o (.dT ag))/\ag.length<=i⟩
theorem zbw(ok:dq P w H h d (.frz o (.dT ag)))(hd:o.data=.dict es ep) :
  ∃ xs,KT H ag xs/\iB h d es ep/\es.toList=xs.map (entryOfKey (ER (j8 P w)))/\(d==Dw)=false:=by
 obtain⟨e,_,sy,xs,kt,o',rC,yf,e',r1,r2,r3,r4⟩:=ok
 rw [e] at e'
 cases e'
 rw [hd] at r2
 cases r2
 exact⟨xs,kt,⟨o,e,r1,hd⟩,r3,sy⟩
theorem zsZ{K:ox}(d it:ir)(uZ:o.data=.dict es ep) :
  Turn P w K tg (zao d o ag) [it] it (fun i h=>h.IsKeyIter it d i es.size ep) where
 mem:=by simp
 obj:=fun i h st b hb=>by
  have e:b=it:=by simpa using hb
  subst e
  obtain⟨o,e,c,d⟩:=st
  exact⟨o,e,fun v z=>by rw [d] at z;cases z⟩
 keep:=fun i h h' st k=>st.at fun o e=>k it (by simp) o e
 item:=by
  intro X hP hw hK hc i pins s σ H E I hf st hg
  subst hP hw hK
  obtain⟨hd,hi⟩:=hg
  obtain⟨xs,kt,da,he,_⟩:=zbw (I.az d _ hd) uZ
  have hl:ag.length=xs.length:=EL kt
  have hsz:es.size=xs.length:=HJ he
  obtain⟨⟨k',b,v'⟩,ev,rk,rb,rv⟩:=zgV kt (Bo hi)
  obtain⟨f0,f1,f2,f3,f4,f5⟩:=hf it (by simp)
  have gF:i<es.size:=by lia
  have hk:es[i].key=.ref b:=by
   have:=entry_at he i
   rw [ev,Fe gF] at this
   simp only [CC,B7] at this
   rw [this]
   rfl
  refine zgI st da gF fun h' bT sb=>?_
  have I1:Inv X pins σ H { s with heap:=h' }:=I.turned (t':=s.toks) (fun b o hb e=>(sb.2 b hb).trans e) f0 f1 f3 f4 f5
  obtain⟨o,e,c,dd⟩:=id bT
  rw [hk]
  exact⟨.ref b,rfl,uW (s:={ s with heap:=h' }) e c dd (by decide) ⟨.ref b,H,I1,rfl,⟨rfl,ag[i].1,ag[i].2,b,Bo hi,rfl,rb⟩,bT,fun b hb=>(hf b hb).1⟩⟩
 done:=by
  intro X hP hw hK hc i pins s σ H E I hf st hg
  subst hP hw hK
  obtain⟨hd,hi⟩:=hg
  obtain⟨xs,kt,da,he,_⟩:=zbw (I.az d _ hd) uZ
  have hl:ag.length=xs.length:=EL kt
  have hsz:es.size=xs.length:=HJ he
  obtain⟨f0,f1,f2,f3,f4,f5⟩:=hf it (by simp)
  exact ye (I.ok.hd hc) st da (by lia) fun h' eb=>⟨rfl,I.turned (t':=s.toks) (fun b o hb e=>eb b o hb e) f0 f1 f3 f4 f5⟩
 self:=fun _ _ _ _ _ st h=>wpAny_pyIter_keyiter st h
end
variable {Q:Unit->kb->Prop}{s:kb}{H':Hp}{A:AY}{pins:List (ir×AA)}{E:dm->kb->Prop}{a:ir}{X:Cx}{o:Option V}{σ:St}
section
def DG(H:Hp)(a:ir)(y:V)(r:Option V):Prop :=
 wy H a y r
section
variable {y v d:V}{u r:dm}
theorem zk5{Q:dm->kb->Prop}(hu:A.units+1<BO)(I:Inv X pins σ H s)(g:DG H a y o)(ry:RelV y u)(h:∀ s',Inv X pins σ H s'->Q (.bool o.isSome) s') :
  Av (Ax X.prog X.w) A (A3 .In u (.ref a)) Q E s:=by
 exact zkK hu I g ry h
def DP(H:Hp)(a:ir)(y v:V)(H':Hp):Prop :=
 zdt H a y v H'
theorem zk9(hu:A.units+1<BO)(I:Inv X pins σ H s)(g:DP H a y v H')(ry:RelV y u)(rv:RelV v r)(h:∀ s',Inv X pins σ H' s'->Q () s') :
  Av (Ax X.prog X.w) A (setItem (.ref a) u r) Q E s:=by
 exact zkZ hu I g ry rv h
end
section
variable {o i e f value:Aq}{apos cP pos pos':Az}{td ty tx tv:TE}
noncomputable def zr0(td ty tv:TE):TS:=fun D σ H=>tv σ H fun v H1=>td σ H1 fun x H2=>ty σ H2 fun y H3=>∃ a H4,x=.ref a/\DP H3 a y v H4/\D.nx σ H4
theorem zqk(hu:X.A.units+1<BO)(ho:PE X o td)(hi:PE X i ty)(hv:PE X value tv)(hs:BR value (some (.Subscript o i pos')) pos.line X.env=pure false) :
  PS X (.Assign [.Subscript o i pos'] value pos) (zr0 td ty tv):=by
 intro pins s σ H D I h
 refine wpAny_Assign_Subscript (aI (hv pins s σ H _ I h) fun r s1 ⟨v,H1,I1,rv,q1⟩=>aI (ho pins s1 σ H1 _ I1 q1) fun u s2 ⟨x,H2,I2,rx,q2⟩=>aI (hi pins s2 σ H2 _ I2 q2) fun iv s3 ⟨y,H3,I3,ry,a,H4,ex,g,q3⟩=>?_) hs
 subst ex
 obtain rfl:u=BF a:=rx
 exact zk9 hu I3 g ry rv fun s4 I4=>⟨σ,H4,I4,q3⟩
end
end
end L2
namespace FL
open PySem L2 PySem.Spec
open PyProof.Rows hiding St
variable {q:KQ}{k:Key}{v y:V}{d:D}{H:Hp}{ag:List (D×D)}{α:Type}{x:List (D×D)×KQ}{kk:List (List Key×V)}{a b:ir}{o:Option D}{ks:List Key}
section
variable [Cs]
theorem si{o:Option α}{a:α}(h:R.of o=.ok a):o=some a:=by
 cases o with
 | none=>cases h
 | some b=>cases h;rfl
theorem zmY(k:Key):yF (kD k)=some k:=by cases k <;> rfl
theorem zf7:∀ ks:List Key,lO (ks.map kD)=some ks
 | []=>rfl
 | k::r=>by simp only [AQ,lO,zmY,Option.bind_some,zf7 r,CC]
theorem vm(q:List Key):keyOf (lN q)=some (.inl q):=by simp only [lN,keyOf,zf7,CC]
theorem zmX(h:yF d=some k):d=kD k:=by
 cases d with
 | int i=>cases h;rfl
 | str i=>cases h;rfl
 | _=>cases h
theorem zf6:∀{ds:List D} {ks:List Key},lO ds=some ks->ds=ks.map kD
 | [],ks,h=>by simp only [lO,B7] at h;subst h;rfl
 | d::r,ks,h=>by
  simp only [lO,DK,C8] at h
  obtain⟨k,e,ks',e',rfl⟩:=h
  rw [zmX e,zf6 e'];rfl
section
variable {K:ox}{H':Hp}
theorem zlG:Fz K H (kD k) (kV k):=by cases k <;> simp [kD,kV,Fz]
theorem zmW(h:Fz K H (kD k) v):v=kV k:=by cases k <;> simpa [kD,kV,Fz] using h
theorem zfr:∀ ks:List Key,aj K H (ks.map kD) (ks.map kV)
 | []=>by simp [aj]
 | k::r=>by simp only [AQ,aj];exact⟨_,_,rfl,zlG,zfr r⟩
theorem zfZ:∀{ks:List Key} {vs:List V},aj K H (ks.map kD) vs->vs=ks.map kV
 | [],vs,h=>by simpa [aj] using h
 | k::r,vs,h=>by
  simp only [AQ,aj] at h
  obtain⟨v,t,rfl,h1,h2⟩:=h
  rw [zmW h1,zfZ h2];rfl
theorem zfs(h:dH H b (ks.map kV)):Fz K H (lN ks) (.ref b):=by
 simp only [lN,Fz]
 exact⟨b,_,rfl,h,zfr ks⟩
theorem zh3{k:D}(f:Tp K H k v)(e:keyOf k=some q):∃ ks b,q=.inl ks/\k=lN ks/\v=.ref b/\dH H b (ks.map kV):=by
 cases k with
 | tuple xs =>
  simp only [keyOf,C8] at e
  obtain⟨ks,e1,rfl⟩:=e
  have:=zf6 e1
  subst this
  obtain⟨b,vs,rfl,tb,fa⟩:=(show ∃ a vs,v=.ref a/\dH H a vs/\aj K H (ks.map kD) vs by simpa [Tp,Fz] using f)
  rw [zfZ fa] at tb
  exact⟨ks,b,rfl,rfl,rfl,tb⟩
 | _=>cases e
theorem zgh:∀{ag:List (D×D)} {kk:List (List Key×V)},bx K H ag kk->∀ q:List Key,(look ag (.inl q)=none/\lC kk q=none)\/∃ d v,look ag (.inl q)=some d/\lC kk q=some v/\Fz K H d v
 | [],kk,h,q=>by simp only [bx] at h;subst h;exact .inl ⟨rfl,rfl⟩
 | (k,d)::r,kk,h,q=>by
  simp only [bx] at h
  obtain⟨q',v,t,rfl,rfl,f,h2⟩:=h
  by_cases c:q'=q
  ·subst c
   exact .inr ⟨d,v,by simp [look,Ef,vm],zdl rfl,f⟩
  ·have e1:look ((lN q',d)::r) (.inl q)=look r (.inl q):=by simp [look,Ef,vm,c]
   rw [e1,zdk (p:=(q',v)) c]
   exact zgh h2 q
theorem zff{k:D}(h:dictAt d k=.ok x):d=.dict x.1/\keyOf k=some x.2/\keysOk (yg x.2) x.1=true:=by
 cases d with
 | dict ag =>
  obtain⟨q,e1,h⟩:=bZ (show(R.of (keyOf k)).bind _=.ok x from h)
  obtain⟨c,h⟩:=c7 h
  cases h
  exact⟨rfl,si e1,c⟩
 | _=>cases h
theorem zfd{k:D}{x:V}(t:Tp K H d x)(f:Tp K H k y)(e:nL d k=.ok o) :
  ∃ a r,x=.ref a/\wM H a/\DG H a y r/\((o=none/\r=none)\/∃ d v,o=some d/\r=some v/\Fz K H d v):=by
 obtain⟨⟨ag,q⟩,e1,e⟩:=bZ (show(dictAt d k).bind _=.ok o from e)
 cases e
 obtain⟨rfl,ek,c⟩:=zff e1
 obtain⟨a,ea,kk,rd,h⟩:=(show ∃ a,x=.ref a/\∃ kk,Rd H a (.dT kk)/\bx K H ag kk from t)
 subst ea
 obtain⟨ks,b,rfl,rfl,rfl,tb⟩:=zh3 f ek
 refine⟨a,lC kk ks,rfl,⟨kk,rd⟩,⟨kk,ks,b,rd,rfl,tb,rfl⟩,?_⟩
 rcases zgh h ks with⟨z1,z2⟩|⟨d,v,z1,z2,z3⟩
 ·exact .inl ⟨z1,z2⟩
 ·exact .inr ⟨d,v,z1,z2,z3⟩
theorem zd6:∀{ag:List (D×D)} {kk:List (List Key×V)},bx K H ag kk->∀ q:List Key,(ag.any fun kv=>decide (keyOf kv.1=some (.inl q)))=kk.any fun kv=>decide (kv.1=q)
 | [],kk,h,q=>by simp only [bx] at h;subst h;rfl
 | (k,d)::r,kk,h,q=>by
  simp only [bx] at h
  obtain⟨q',v,t,rfl,rfl,f,h2⟩:=h
  simp only [Ht,zd6 h2 q,vm,B7,Sum.inl.injEq]
theorem zhD{d:D}{v:V}(f:Fz K H d v):∀{ag:List (D×D)} {kk:List (List Key×V)},bx K H ag kk->∀ q:List Key,bx K H (ag.map fun kv=>if keyOf kv.1=some (.inl q) then(kv.1,d) else kv) (kk.map fun kv=>if kv.1=q then(kv.1,v) else kv)
 | [],kk,h,q=>by simp only [bx] at h;subst h;simp [bx]
 | (k,d0)::r,kk,h,q=>by
  simp only [bx] at h
  obtain⟨q',v0,t,rfl,rfl,f0,h2⟩:=h
  have ih:=zhD f h2 q
  by_cases c:q'=q
  ·subst c
   simp only [AQ,vm,if_true,bx]
   exact⟨q',v,_,rfl,rfl,f,ih⟩
  ·simp only [AQ,vm,B7,Sum.inl.injEq,if_neg c,bx]
   exact⟨q',v0,_,rfl,rfl,f0,ih⟩
theorem zd8{d:D}{v:V}(f:Fz K H d v)(q:List Key):∀{ag:List (D×D)} {kk:List (List Key×V)},bx K H ag kk->bx K H (ag++[(lN q,d)]) (kk++[(q,v)])
 | [],kk,h=>by simp only [bx] at h;subst h;simp only [A1,bx];exact⟨q,v,[],rfl,rfl,f,rfl⟩
 | (k,d0)::r,kk,h=>by
  simp only [bx] at h
  obtain⟨q',v0,t,rfl,rfl,f0,h2⟩:=h
  simp only [Bm,bx]
  exact⟨q',v0,_,rfl,rfl,f0,zd8 f q h2⟩
theorem zqF(h:bx K H ag kk)(f:Fz K H d v)(q:List Key):bx K H (vN ag (lN q) (.inl q) d) (putK kk q v):=by
 unfold vN putK
 rw [zd6 h q]
 split
 ·exact zhD f h q
 ·exact zd8 f q h
theorem bx.len:∀{ag:List (D×D)} {kk:List (List Key×V)},bx K H ag kk->kk.length=ag.length
 | [],kk,h=>by simp only [bx] at h;subst h;rfl
 | (k,d0)::r,kk,h=>by
  simp only [bx] at h
  obtain⟨q',v0,t,rfl,rfl,f0,h2⟩:=h
  simp [h2.len]
theorem zlH{u o:HO}(e:H a=some u)(ow:Own u):aH H (upd H a o):=fun b w eb st=>by
 rw [bh fun z=>by subst z;rw [e] at eb;cases eb;exact ow.jS st]
 exact eb
theorem zk8{c k dv d':D}(m:dn K H a c)(f:Fz K H k y)(g:Fz K H dv v)(e:mK c k dv=.ok d'):∃ o,DP H a y v (upd H a o)/\dn K (upd H a o) a d':=by
 obtain⟨⟨ag,q⟩,e1,e⟩:=bZ (show(dictAt c k).bind _=.ok d' from e)
 obtain⟨l,e⟩:=c7 e
 cases e
 obtain⟨rfl,ek,c⟩:=zff e1
 have hl:ag.length+1<=AK:=Bj (fi l) ig
 obtain⟨kk,rd,h⟩:=(show ∃ kk,H a=some (.dT kk)/\bx K H ag kk from m)
 have fz:∀ o,aH H (upd H a o):=fun o=>zlH rd trivial
 obtain⟨ks,b,rfl,rfl,rfl,tb⟩:=zh3 f.tp ek
 exact⟨.dT (putK kk ks v),⟨kk,ks,b,rd,rfl,tb,by rw [h.len];lia,rfl⟩,⟨_,cN,(zqF h g ks).mono (fz _)⟩⟩
end
end
variable {k:EF}{tl:TE}{y:gV}{X:Cx}{ke tg:Aq}
section
variable [Cs]
section
theorem zpc(hu:X.A.units+1<BO):aV X (A3 .In) (rD X.K inD):=by
 intro pins s σ H x y v u Q I rx ry h
 obtain⟨dx,dy,d,tx,ty,e,q⟩:=h
 obtain⟨o,e1,e⟩:=bZ (show(nL dy dx).bind _=.ok d from e)
 cases e
 obtain⟨a,r,rfl,_,g,rel⟩:=zfd ty tx e1
 cases ry
 have hb:o.isSome=r.isSome:=by
  rcases rel with⟨rfl,rfl⟩|⟨_,_,rfl,rfl,_⟩ <;> rfl
 exact zk5 hu I g rx fun s3 I3=>⟨.bl r.isSome,H,I3,rfl,q _ H (aB.refl _) (by rw [hb];simp [Fz])⟩
theorem zmG(hu:X.A.units+1<BO):kE X (rD X.K fC):=by
 intro value slice pins s σ H x y v u Q I rx ry h hs
 obtain⟨dx,dy,d,tx,ty,e,q⟩:=h
 obtain⟨o,e1,e⟩:=bZ (show(nL dx dy).bind _=.ok d from e)
 have eo:=si e
 subst eo
 obtain⟨a,r,rfl,_,g,rel⟩:=zfd tx ty e1
 cases rx
 rcases rel with⟨z,_⟩|⟨d',w,z,rfl,fz⟩
 ·cases z
 cases z
 have hT:=zk6 I g
 have h2:Av (Ax X.prog X.w) X.A (DT (.ref a) u) (EP X pins σ Q) X.xe s:=zkJ hu I g ry fun w' s3 I3 gJ=>⟨w,H,I3,gJ,q w H (aB.refl _) fz⟩
 unfold Hg
 refine Ap ?_
 rw [getitemInPython_of_ne hT.not_modules]
 refine Ap (wpAny_specialOf hT PySem.F.slot_dict_getitem.lookup ?_)
 have fin:Av (Ax X.prog X.w) X.A (subscripted slice false (.ref a) u) (fun r s₃=>Av (Ax X.prog X.w) X.A (letTemporaryGo value (.ref a) r >>= fun _=>pure r) (EP X pins σ Q) X.xe s₃) X.xe s:=by
  rw [hs]
  exact wpAny_operating (Bv h2 (fun r s₃ h₃=>Ap (wpAny_letTemporaryGo (AH h₃))) fun _ _ x=>x)
 first
  | exact AH (Ap fin)
  | exact Ap (AH (Ap fin))
  | exact Ap fin
end
section
variable {K:ox}{o e e':Aq}{fd fk fx f:EF}{apos cP pos:Az}
theorem zk{py lS:Az}(i:Nat)(hu:X.A.units+1<BO)(ha:PE X (.Name y py) (dY i))(he:PV K X e f)(hk:PV K X ke k)
  (hs:BR e (some (.Subscript (.Name y py) ke lS)) pos.line X.env=pure false:=by rfl):cI K X (.Assign [.Subscript (.Name y py) ke lS] e pos) (dI i k f):=.mk fun hK C=>by
 subst hK
 refine(zqk hu ha (hk rfl) (he rfl) hs).weak fun Dn σ H=>?_
 rintro⟨ρ,rel,g⟩
 refine jj rel g fun dv ρ1 v H1 ak aK fv g1=>?_
 obtain⟨d,ed,g2⟩:=g1.bJ
 obtain⟨a,bz,m0⟩:=ak.rel.kW ed
 refine⟨.ref a,bz.2,jj ak g2 fun dk ρ2 kv H2 bS bT fk g3=>?_⟩
 obtain⟨c,ec,g4⟩:=g3.bJ
 obtain⟨d',mM,g5⟩:=g4.bJ
 obtain⟨o,dp,mm⟩:=zk8 (bS.rel.again ec bz) fk (fv.mono (bT.dM ak.rel)) mM
 obtain⟨a2,at2,_⟩:=bS.rel.kW ec
 have:=bz.2.symm.trans at2.2
 cases this
 exact⟨a,_,rfl,dp,yp bS at2 mm g5⟩
theorem zh:bY K X (.Dict [] [] pos) fc:=.mk fun hK=>zpC.weak fun σ H Q=>by
 rintro⟨ρ,rel,q⟩ p hp
 exact q.new rel (aB.upd hp) p hp ⟨[],cN,by simp [bx]⟩
theorem zpZ{l:Aq}(hl:PE X l tl):PI X tg l (fun σ H R=>tl σ H fun x H1=>∃ d o,x=.ref d/\∃ ag,H1 d=some (.frz o (.dT ag))/\R (zao d o ag) H1):=by
 intro pins s σ H R I h
 refine aI (hl pins s σ H _ I h) fun v s1 ⟨x,H1,I1,r1,q1⟩=>?_
 obtain⟨d,o,e,q1⟩:=q1
 subst e
 cases r1
 obtain⟨ag,e,q⟩:=q1
 obtain⟨e0,_,_,_,_,o',es,ep,e',_,dd,_⟩:=id (show dq X.prog X.w H1 s1.heap d (.frz o (.dT ag)) from I1.az d _ e)
 rw [e0] at e'
 cases e'
 obtain⟨xs,kt,da,he,sy⟩:=zbw (I1.az d _ e) dd
 refine zfU sy da ?_
 refine⟨s1.heap.objs.size,[s1.heap.objs.size],_,_,H1,rfl,I1.kept (t':=s1.toks) fun b o e=>A5 _ e,zsZ d _ dd,⟨_,Bl _ rfl,rfl,rfl⟩,fun b hb=>?_,q⟩
 have e:b=s1.heap.objs.size:=by simpa using hb
 subst e
 exact I1.jJ (AI _) (I1.az.fresh (AI _))
theorem bx.at{H:Hp}:∀{ag:List (D×D)} {kk:List (List Key×V)} {i:Nat} {d:D},bx K H ag kk->(ag.map (·.1))[i]?=some d->∃ q v,kk[i]?=some (q,v)/\d=lN q
 | [],kk,i,d,h,e=>by simp at e
 | (k,d0)::r,kk,i,d,h,e=>by
  simp only [bx] at h
  obtain⟨q',v0,t,rfl,rfl,f0,h2⟩:=h
  cases i with
  | zero=>simp at e;exact⟨q',v0,rfl,e.symm⟩
  | succ i =>
   obtain⟨q,v,z1,z2⟩:=bx.at h2 (i:=i) (by simpa using e)
   exact⟨q,v,by simpa using z1,z2⟩
theorem ztc{o:AA}(h:H a=some (.frz o (.dT kk)))(f:bx K H ag kk):Walk K (zao a o kk) (ag.map (·.1)) H:=by
 refine⟨fun i d H' fz e=>?_,fun i H' fz e=>⟨fz _ _ h trivial,by rw [f.len];simpa using e⟩⟩
 obtain⟨q,v,e1,rfl⟩:=f.at e
 refine⟨⟨fz _ _ h trivial,(By.mp e1).1⟩,fun x iF y=>?_⟩
 obtain⟨rfl,k,v',b,e2,rfl,tb⟩:=y
 rw [e1] at e2
 cases e2
 exact⟨aB.refl _,zfs tb⟩
theorem zqY(he:PV K X e f):gz K X tg e (iD f):=.mk fun hK=>by
 subst hK
 refine(zpZ (he rfl)).weak fun σ H R=>?_
 rintro⟨ρ,rel,q⟩
 refine dw rel q fun dx ρ1 x H1 ak aK fx q1=>?_
 obtain⟨items,ei,q2⟩:=q1.bV
 cases dx with
 | dict ag =>
  cases ei
  simp only [Fz] at fx
  obtain⟨a,o,rfl,h⟩:=fx
  obtain⟨kk,h1,h2⟩:=h
  exact⟨a,o,rfl,⟨kk,h1,q2.now ak _ (ztc h1 h2)⟩⟩
 | _=>cases ei
end
end
end FL
namespace FL
open PySem
noncomputable def oF(i:Nat)(ρ:En):Nat:=match ρ[i]? with
 | some (.val (.int n))=>n.natAbs+1
 | _=>0
abbrev WK:=Int×List Int
def yM(p q:WK):Bool:=if p.1=q.1 then lexLt p.2 q.2 else decide (p.1<q.1)
def nX(x:WK×D):List (WK×D)->List (WK×D)
 | []=>[x]
 | y::r=>if yM y.1 x.1=true then y::nX x r else x::y::r
def nZ:List (WK×D)->List (WK×D)
 | []=>[]
 | x::r=>nX x (nZ r)
theorem zbZ(x:WK×D):∀ l,(nX x l).Perm (x::l)
 | []=>.refl _
 | y::r=>by
  unfold nX
  split
  ·exact((zbZ x r).cons y).trans (.swap x y r)
  ·exact .refl _
theorem zb3:∀ l:List (WK×D),(nZ l).Perm l
 | []=>.refl _
 | x::r=>(zbZ x _).trans ((zb3 r).cons x)
noncomputable def insI(x:Int):List Int->List Int
 | []=>[x]
 | y::r=>if y<x then y::insI x r else x::y::r
def zb2:List Int->List Int
 | []=>[]
 | x::r=>insI x (zb2 r)
def ztH:D->R D
 | .list a=>(R.of (intsOf a)).bind fun ns=>aF (leB (ns.length+1) 64) (.ok (.list ((zb2 ns).map .int)))
 | .tuple a=>(R.of (intsOf a)).bind fun ns=>aF (leB (ns.length+1) 64) (.ok (.list ((zb2 ns).map .int)))
 | _=>.bad
noncomputable def jz:D->R D
 | .list a=>.ok (.list a.reverse)
 | _=>.bad
def zbW(k d:D):R D:=match d with
 | .list xs=>aF (CJ (.list xs)&&CJ k) (.ok (.bool (xs.any fun y=>CK y k)))
 | .tuple xs=>aF (CJ (.tuple xs)&&CJ k) (.ok (.bool (xs.any fun y=>CK y k)))
 | _=>.bad
end FL
namespace L2
open PySem PySem.Spec PyProof.Rows PySem.W
variable {p:Array Nat}
abbrev gp(p:Array Nat)(i:Nat):Nat:=p.getD i 0
theorem uX{q:Array Nat}{i j:Nat}(h:p[i]?=q[j]?):gp p i=gp q j:=by
 simp only [gp,Array.getD_eq_getD_getElem?,h]
variable {Q:Nat×Array Nat->kb->Prop}{a b m n:Nat}{P:kb->Prop}{s:kb}{cmp:Nat->Nat->(Bool->kb->Prop)->kb->Prop}
section
variable {lt:Nat->Nat->Bool}
structure Ord(lt:Nat->Nat->Bool):Prop where
 tr:∀ i j k,lt j i=false->lt k j=false->lt k i=false
 as:∀ i j,lt i j=true->lt j i=false
def nu(lt:Nat->Nat->Bool)(n:Nat)(P:kb->Prop)(cmp:Nat->Nat->(Bool->kb->Prop)->kb->Prop):Prop :=
 ∀ i j (C:Bool->kb->Prop) s,i<n->j<n->P s->(∀ s',P s'->C (lt i j) s')->cmp i j C s
theorem Ord.refl(o:Ord lt)(i:Nat):lt i i=false:=by
 cases h:lt i i with
 | false=>rfl
 | true=>exact h.symm.trans (o.as i i h)
def Up(lt:Nat->Nat->Bool)(p:Array Nat)(m:Nat):Prop:=∀ i j,i<=j->j<m->lt (gp p j) (gp p i)=false
def Dn(lt:Nat->Nat->Bool)(p:Array Nat)(m:Nat):Prop:=∀ i j,i<=j->j<m->lt (gp p i) (gp p j)=false
def Eb(lt:Nat->Nat->Bool)(p:Array Nat)(a b:Nat):Prop:=∀ i j,a<=i->i<b->a<=j->j<b->lt (gp p i) (gp p j)=false
structure Arr(n:Nat)(p:Array Nat):Prop where
 sz:p.size=n
 pm:p.Perm (Ds (Bh n))
theorem Arr.lim(h:Arr n p)(hn:0<n)(i:Nat):gp p i<n:=by
 by_cases c:i<p.size
 ·have e:gp p i=p[i]:=by simp [gp,GA,c]
  rw [e]
  have m:p[i]∈p.toList:=Array.getElem_mem_toList c
  have m2:=(GB.mp h.pm).mem_iff.mp m
  simpa using m2
 ·have e:gp p i=0:=by simp [gp,GA,c]
  rw [e];exact hn
theorem Up.next(o:Ord lt)(h:Up lt p m)(hm:1<=m)(e:lt (gp p m) (gp p (m-1))=false):Up lt p (m+1):=fun i j hJ hj=>by
 by_cases c:j<m
 ·exact h i j hJ c
 ·have:j=m:=by lia
  subst this
  by_cases c2:i=j
  ·subst c2;exact o.refl _
  ·exact o.tr _ _ _ (h i (j-1) (by lia) (by lia)) e
theorem Dn.next(o:Ord lt)(h:Dn lt p m)(hm:1<=m)(e:lt (gp p (m-1)) (gp p m)=false):Dn lt p (m+1):=fun i j hJ hj=>by
 by_cases c:j<m
 ·exact h i j hJ c
 ·have:j=m:=by lia
  subst this
  by_cases c2:i=j
  ·subst c2;exact o.refl _
  ·exact o.tr _ _ _ e (h i (j-1) (by lia) (by lia))
theorem rF(hb:b<=p.size)(k:Nat):gp (EI p a b) k=if a<=k/\k<b then gp p (a+b-1-k) else gp p k:=by
 have e:=getElem?_mirror_all (xs:=p) (i:=a) hb k
 unfold EI
 split
 ·rename_i c;rw [if_pos c] at e;exact uX e
 ·rename_i c;rw [if_neg c] at e;exact uX e
theorem Arr.rev(h:Arr n p)(a b:Nat):Arr n (EI p a b):=⟨by unfold EI;rw [mirror_size];exact h.sz,(mirror_perm _ _ _ _).trans h.pm⟩
theorem Dn.rev(o:Ord lt)(hb:b<=p.size)(h:Dn lt p m)(e:Eb lt p a b)(hbm:b<=m):Dn lt (EI p a b) m:=fun i j hJ hj=>by
 rw [rF hb,rF hb]
 split
 ·rename_i c1
  split
  ·rename_i c2;exact e _ _ (by lia) (by lia) (by lia) (by lia)
  ·rename_i c2;exact h _ _ (by lia) (by lia)
 ·rename_i c1
  split
  ·rename_i c2;exact h _ _ (by lia) (by lia)
  ·exact h _ _ hJ hj
theorem zaE(o:Ord lt)(hc:nu lt n P cmp)(hn:0<n){p:Array Nat}(ar:Arr n p):∀(f m:Nat) {Q:Nat->kb->Prop} {s:kb},1<=m->Up lt p m->P s ->
  (∀ m' s',P s'->m<=m'->m'<=m+f->Up lt p m'->(m'=m+f\/lt (gp p m') (gp p (m'-1))=true)->Q m' s')->(kas_asc p f m).kasWp cmp Q s
 | 0,m,Q,s,h1,hu,hp,h=>h m s hp (AI _) (AI _) hu (.inl rfl)
 | f+1,m,Q,s,h1,hu,hp,h=>by
  refine hc _ _ _ s (ar.lim hn _) (ar.lim hn _) hp fun s' dS=>?_
  cases e:lt (p.getD m 0) (p.getD (m-1) 0) with
  | true=>exact h m s' dS (AI _) (by lia) hu (.inr e)
  | false =>
   refine zaE o hc hn ar f (m+1) (by lia) (hu.next o h1 e) dS fun m' iU pQ a b c d=>h m' iU pQ (by lia) (by lia) c ?_
   rcases d with d|d
   ·exact .inl (by lia)
   ·exact .inr d
theorem xY(o:Ord lt)(hc:nu lt n P cmp)(hn:0<n):∀(f:Nat) (p:Array Nat) (m q:Nat) {Q:Array Nat×Nat×Nat->kb->Prop} {s:kb},Arr n p->q+1<=m->m+f<=n->Dn lt p m->Eb lt p (m-(q+1)) m->P s ->
  (∀ p' m' q' s',P s'->Arr n p'->m<=m'->m'<=n->q'+1<=m'->Dn lt p' m'->Eb lt p' (m'-(q'+1)) m'->Q (p',m',q') s')->(kas_desc f p m q).kasWp cmp Q s
 | 0,p,m,q,Q,s,ar,h1,h2,hd,he,hp,h=>h p m q s hp ar (AI _) (by lia) h1 hd he
 | f+1,p,m,q,Q,s,ar,h1,h2,hd,he,hp,h=>by
  refine hc _ _ _ s (ar.lim hn _) (ar.lim hn _) hp fun s' dS=>?_
  cases e:lt (p.getD m 0) (p.getD (m-1) 0) with
  | true =>
   have hd2:Dn lt p (m+1):=hd.next o (by lia) (o.as _ _ e)
   show(if q > 0 then kas_desc f (EI p (m-(q+1)) m) (m+1) 0 else kas_desc f p (m+1) 0).kasWp cmp Q s'
   split
   ·refine xY o hc hn f _ (m+1) 0 (ar.rev _ _) (by lia) (by lia) (hd2.rev o (by rw [ar.sz];lia) he (by lia)) (fun i j a b c d=>?_) dS fun p' m' q' iU a b c=>h p' m' q' iU a b (by lia)
    have e1:i=m:=by lia
    have e2:j=m:=by lia
    subst e1;subst e2;exact o.refl _
   ·refine xY o hc hn f _ (m+1) 0 ar (by lia) (by lia) hd2 (fun i j a b c d=>?_) dS fun p' m' q' iU a b c=>h p' m' q' iU a b (by lia)
    have e1:i=m:=by lia
    have e2:j=m:=by lia
    subst e1;subst e2;exact o.refl _
  | false =>
   refine hc _ _ _ s' (ar.lim hn _) (ar.lim hn _) dS fun iU pQ=>?_
   cases e2:lt (p.getD (m-1) 0) (p.getD m 0) with
   | true=>exact h p m q iU pQ ar (AI _) (by lia) h1 hd he
   | false =>
    refine xY o hc hn f p (m+1) (q+1) ar (by lia) (by lia) (hd.next o (by lia) e2) (fun i j a b c d=>?_) pQ fun p' m' q' s3 a b c=>h p' m' q' s3 a b (by lia)
    have eq1:∀ x,m-(q+1)<=x->x<m->lt (gp p m) (gp p x)=false/\lt (gp p x) (gp p m)=false:=fun x x1 x2 =>
     ⟨o.tr _ _ _ (he (m-1) x (by lia) (by lia) x1 x2) e,o.tr _ _ _ e2 (he x (m-1) x1 x2 (by lia) (by lia))⟩
    by_cases c1:i=m
    ·by_cases c2:j=m
     ·subst c1;subst c2;exact o.refl _
     ·subst c1;exact(eq1 j (by lia) (by lia)).1
    ·by_cases c2:j=m
     ·subst c2;exact(eq1 i (by lia) (by lia)).2
     ·exact he i j (by lia) (by lia) (by lia) (by lia)
theorem zhX(o:Ord lt)(hc:nu lt n P cmp)(hn:0<n)(ar:Arr n p)(h1:1<=m)(hm:m<=n)(hd:Dn lt p m)(hp:P s)
  (h:∀ m' p' s',P s'->Arr n p'->1<=m'->m'<=n->Up lt p' m'->Q (m',p') s'):(kas_tail3 m n p).kasWp cmp Q s:=by
 unfold kas_tail3
 rw [FT]
 refine zaE o hc hn (ar.rev 0 m) (n-m) m h1 (fun i j hJ hj=>?_) hp fun m' s' dS a b c _=>h m' _ s' dS (ar.rev 0 m) (by lia) (by lia) c
 rw [rF (by rw [ar.sz];exact hm),rF (by rw [ar.sz];exact hm),if_pos (by lia),if_pos (by lia)]
 exact hd _ _ (by lia) (by lia)
theorem zfb(o:Ord lt)(hc:nu lt n P cmp)(hn:0<n)(ar:Arr n p)(hm:m+1<=n)(hd:Dn lt p (m+1))(hp:P s)
  (h:∀ m' p' s',P s'->Arr n p'->1<=m'->m'<=n->Up lt p' m'->Q (m',p') s'):(kas_descPart m n p).kasWp cmp Q s:=by
 unfold kas_descPart
 rw [FT]
 refine xY o hc hn _ p (m+1) 0 ar (by lia) (by lia) hd (fun i j a b c d=>?_) hp fun p' m' q' s' dS ar' a b c jN he'=>?_
 ·have e1:i=m:=by lia
  have e2:j=m:=by lia
  subst e1;subst e2;exact o.refl _
 ·show(if q' > 0 then kas_tail3 m' n (EI p' (m'-(q'+1)) m') else kas_tail3 m' n p').kasWp cmp Q s'
  split
  ·exact zhX o hc hn (ar'.rev _ _) (by lia) b (jN.rev o (by rw [ar'.sz];exact b) he' (AI _)) dS h
  ·exact zhX o hc hn ar' (by lia) b jN dS h
theorem zko(o:Ord lt)(hc:nu lt n P cmp)(hn:0<n)(ar:Arr n p)(hp:P s)
  (h:∀ m' p' s',P s'->Arr n p'->1<=m'->m'<=n->Up lt p' m'->Q (m',p') s'):(kas_count n p).kasWp cmp Q s:=by
 unfold kas_count
 rw [FT]
 refine zaE o hc hn ar (n-1) 1 (AI _) (fun i j a b=>?_) hp fun m s' dS a b hu hl=>?_
 ·have e1:i=0:=by lia
  have e2:j=0:=by lia
  subst e1;subst e2;exact o.refl _
 by_cases c:m=n
 ·subst c
  rw [if_pos (by simp)]
  exact h m p s' dS ar a (AI _) hu
 ·rw [if_neg (by simpa using c)]
  have j7:lt (gp p m) (gp p (m-1))=true:=by
   rcases hl with hl|hl
   ·lia
   ·exact hl
  by_cases c1:m > 1
  ·rw [if_pos c1]
   refine hc _ _ _ s' (ar.lim hn _) (ar.lim hn _) dS fun iU pQ=>?_
   cases e:lt (p.getD 0 0) (p.getD (m-1) 0) with
   | true=>exact h m p iU pQ ar a (by lia) hu
   | false =>
    have hs:m<=p.size:=by rw [ar.sz];lia
    have all:∀ i j,i<m->j<m->lt (gp p i) (gp p j)=false:=fun i j hi hj =>
     o.tr _ _ _ (hu j (m-1) (by lia) (by lia)) (o.tr _ _ _ e (hu 0 i (B6 _) hi))
    refine zfb o hc hn (ar.rev 0 m) (by lia) (fun i j hJ hj=>?_) pQ h
    rw [rF hs,rF hs]
    by_cases cj:j<m
    ·rw [if_pos (by lia),if_pos (by lia)]
     exact all _ _ (by lia) (by lia)
    ·have ej:j=m:=by lia
     subst ej
     rw [if_neg (by lia:¬ (0<=j/\j<j))]
     split
     ·exact o.tr _ _ _ (o.as _ _ j7) (all _ _ (by lia) (by lia))
     ·have ei:i=j:=by lia
      subst ei;exact o.refl _
  ·rw [if_neg c1]
   have e1:m=1:=by lia
   subst e1
   refine zfb o hc hn ar (by lia) ?_ dS h
   refine Dn.next o (fun i j hJ hj=>?_) (AI _) (o.as _ _ j7)
   have e1:i=0:=by lia
   have e2:j=0:=by lia
   subst e1;subst e2;exact o.refl _
theorem zcG(o:Ord lt)(hc:nu lt n P cmp)(hn:0<n){p:Array Nat}(ar:Arr n p){k:Nat}(hu:Up lt p k):∀(f l r:Nat) {Q:Nat->kb->Prop} {s:kb},l<=r->r<=k->r-l<=f ->
  (∀ i,i<l->lt (gp p k) (gp p i)=false)->(∀ i,r<=i->i<k->lt (gp p i) (gp p k)=false)->P s ->
  (∀ l' s',P s'->l'<=k->(∀ i,i<l'->lt (gp p k) (gp p i)=false)->(∀ i,l'<=i->i<k->lt (gp p i) (gp p k)=false)->Q l' s')->(kas_place p k f l r).kasWp cmp Q s
 | 0,l,r,Q,s,h1,h2,h3,a,b,hp,h=>h l s hp (by lia) a (by
   have:l=r:=by lia
   subst this;exact b)
 | f+1,l,r,Q,s,h1,h2,h3,a,b,hp,h=>by
  unfold kas_place
  by_cases c:l ≥ r
  ·rw [if_pos c]
   have:l=r:=by lia
   subst this
   exact h l s hp h2 a b
  ·rw [if_neg c]
   refine hc _ _ _ s (ar.lim hn _) (ar.lim hn _) hp fun s' dS=>?_
   cases e:lt (p.getD k 0) (p.getD ((l+r) / 2) 0) with
   | true =>
    refine zcG o hc hn ar hu f l ((l+r) / 2) (by lia) (by lia) (by lia) a (fun i i1 i2=>?_) dS h
    exact o.tr _ _ _ (o.as _ _ e) (hu _ _ i1 i2)
   | false =>
    refine zcG o hc hn ar hu f ((l+r) / 2+1) r (by lia) h2 (by lia) (fun i i1=>?_) b dS h
    exact o.tr _ _ _ (hu i ((l+r) / 2) (by lia) (by lia)) e
theorem zex(o:Ord lt)(hc:nu lt n P cmp)(hn:0<n):∀(f:Nat) (p:Array Nat) (k:Nat) {Q:Array Nat->kb->Prop} {s:kb},Arr n p->k+f=n->Up lt p k->P s ->
  (∀ p' s',P s'->Arr n p'->Up lt p' n->Q p' s')->(kas_bin f p k).kasWp cmp Q s
 | 0,p,k,Q,s,ar,h1,hu,hp,h=>h p s hp ar (by
  have:k=n:=by lia
  subst this;exact hu)
 | f+1,p,k,Q,s,ar,h1,hu,hp,h=>by
  unfold kas_bin
  rw [FT]
  refine zcG o hc hn ar hu k 0 k (B6 _) (AI _) (by lia) (fun i hi=>by lia) (fun i a b=>by lia) hp fun l s' dS hl ha hb=>?_
  have hk:k<p.size:=by rw [ar.sz];lia
  have gb:∀ i,gp (bubble p k (k-l)) i=if i=l then gp p k else if l<i/\i<=k then gp p (i-1) else gp p i:=fun i=>by
   have e:=getElem?_bubble hk (k-l) (by lia) i
   rw [show k-(k-l)=l by lia] at e
   by_cases c1:i=l
   ·rw [if_pos c1] at e ⊢;exact uX e
   ·rw [if_neg c1] at e ⊢
    by_cases c2:l<i/\i<=k
    ·rw [if_pos c2] at e ⊢;exact uX e
    ·rw [if_neg c2] at e ⊢;exact uX e
  refine zex o hc hn f _ (k+1) ⟨by rw [bubble_size];exact ar.sz,(bubble_perm _ _ _).trans ar.pm⟩ (by lia) (fun i j hJ hj=>?_) dS h
  rw [gb i,gb j]
  by_cases c1:i=l
  ·rw [if_pos c1]
   by_cases c2:j=l
   ·rw [if_pos c2];exact o.refl _
   ·rw [if_neg c2,if_pos (by lia)]
    exact hb _ (by lia) (by lia)
  ·rw [if_neg c1]
   by_cases c2:j=l
   ·rw [if_pos c2,if_neg (by lia)]
    exact ha _ (by lia)
   ·rw [if_neg c2]
    by_cases c3:l<i/\i<=k
    ·rw [if_pos c3,if_pos (by lia)]
     exact hu _ _ (by lia) (by lia)
    ·rw [if_neg c3]
     split
     ·exact hu _ _ (by lia) (by lia)
     ·exact hu _ _ (by lia) (by lia)
theorem zsn(o:Ord lt)(hc:nu lt n P cmp)(hn:0<n){Q:Array Nat->kb->Prop}(hp:P s)(h:∀ p s',P s'->Arr n p->Up lt p n->Q p s'):(kas_sort n).kasWp cmp Q s:=by
 unfold kas_sort
 rw [FT]
 refine zko o hc hn ⟨by simp,Jf _⟩ hp fun m p s' dS ar h1 h2 hu=>?_
 show(if m<n then kas_bin (n-max m 1) p (max m 1) else KasT.ret p).kasWp cmp Q s'
 split
 ·have e:max m 1=m:=by lia
  rw [e]
  exact zex o hc hn _ p m ar (by lia) hu dS h
 ·have:m=n:=by lia
  subst this
  exact h p s' dS ar hu
end
end L2
namespace PySem
open Spec PyProof.Rows
variable {Q:List dm->kb->Prop}{ep:Nat}{w:AJ}{A:AY}{d:ir}{prog:AO}{s:kb}{E:dm->kb->Prop}{es:Array Dr}
section
theorem iB.at{h h':AD}(x:iB h d es ep)(k:∀ o,h.get? d=some o->h'.get? d=some o):iB h' d es ep:=by
 obtain⟨o,e,r⟩:=x.ex
 exact⟨o,k o e,r⟩
theorem ztk(hh:A.handled=none)(I d:ir)(jm:d≠I)(es:Array Dr)(ep:Nat) :
  Walks prog w A I [I,d] [I] es.size (fun i v=>∃ h:i<es.size,v=es[i].key) (fun i h=>h.IsKeyIter I d i es.size ep/\iB h d es ep) where
 sub:=fun b hb=>by simp at hb;simp [hb]
 frame:=fun _ _ _ st hk=>⟨st.1.at fun o e=>hk I (by simp) o e,st.2.at fun o e=>hk d (by simp) o e⟩
 item:=fun i s Q E hi st hQ=>by
  refine zgI st.1 st.2 hi fun h' yt hs'=>?_
  exact hQ _ h' s.toks ⟨hi,rfl⟩ ⟨yt,st.2.at fun o e=>hs'.extBut d o jm e⟩ fun b o hb e=>hs'.extBut b o (fun h=>hb (by simp [h])) e
 done:=fun s Q E st hQ=>ye hh st.1 st.2 (AI _) fun h' he'=>hQ h' s.toks fun b o hb e=>he' b o (fun h=>hb (by simp [h])) e
 self:=fun _ _ _ _ st hQ=>wpAny_pyIter_keyiter st.1 hQ
theorem zkn(hh:A.handled=none)(sy:(d==Dw)=false)(hm:iB s.heap d es ep)(hn:es.size<=1000)
  (hQ:∀ s' (acc:Array dm),(∀ b o,s.heap.get? b=some o->s'.heap.get? b=some o)->s'.gens=s.gens->s'.drawn=s.drawn->s'.os=s.os->s.heap.objs.size<=s'.heap.objs.size->ItemsOf (fun i v=>∃ h:i<es.size,v=es[i].key) acc es.size->Q acc.toList s') :
  Av (Ax prog w) A (collect (.ref d)) Q E s:=by
 obtain⟨od,pO,hxd,rH⟩:=hm.ex
 have dl:=AV pO
 unfold collect
 refine Ap (wpAny_runValue (HK F.entry_proto_collect ?_))
 rw [Jg F.plain_proto_collect _]
 show Av _ A.in1 (newList [] >>= fun l=>again (.builtin "list.__iadd__" ⟨[l,.ref d],[]⟩)) _ _ s
 refine Ap (CY ?_)
 refine AH ⟨plainId_quiet F.plain_list_iadd _,HK F.entry_list_iadd ?_⟩
 rw [Jg F.plain_list_iadd _]
 have kQ:iB (s.heap.push { cls:=.type "list",data:=.seq ([]:List dm).toArray }) d es ep:=hm.at fun o e=>A5 _ e
 have hSd:s.heap.objs.size≠d:=De dl
 have h1:Jh (.ref s.heap.objs.size) (.ref d)=false:=by simp [Jh,hSd]
 show Av _ A.in1 (Ji (.ref s.heap.objs.size) (.ref d) (.ref s.heap.objs.size)) _ _ _
 unfold Ji
 refine Ap (FA (s:={ s with heap:=s.heap.push { cls:=.type "list",data:=.seq ([]:List dm).toArray } }) kQ.typ ?_)
 rw [if_neg (by rw [h1];decide)]
 refine Ap (zfU (s:={ s with heap:=s.heap.push { cls:=.type "list",data:=.seq ([]:List dm).toArray } }) sy kQ ?_)
 refine Ap (Ct ?_)
 have I2:s.heap.objs.size+1=(s.heap.push { cls:=.type "list",data:=.seq ([]:List dm).toArray }).objs.size:=(Cv ..).symm
 have hU:iB ((s.heap.push { cls:=.type "list",data:=.seq ([]:List dm).toArray }).push { cls:=.type "dict_keyiterator",data:=.fields #[.ref d,.int 0 0,.int es.size 0,.int ep 0] }) d es ep:=kQ.at fun o e=>A5 _ e
 have ty2:=iB.typ (s:={ s with heap:=(s.heap.push { cls:=.type "list",data:=.seq ([]:List dm).toArray }).push { cls:=.type "dict_keyiterator",data:=.fields #[.ref d,.int 0 0,.int es.size 0,.int ep 0] } }) hU
 unfold Builtin.List.listLengthHint
 refine Ap (wpAny_specialOf ty2 F.slot_dict_len.lookup ?_)
 generalize hid:("dict.__len__":String)=id0
 wp_delta
 rw [show splitId id0=some ("dict","__len__") from by subst hid;decide +kernel]
 subst hid
 refine Ap (HI (b:=true) ty2 (by rw [isSubtype_type];kernel_rfl) ?_)
 rw [if_neg (by decide)]
 dsimp only
 rw [if_pos (by decide +kernel)]
 refine Ap (FA ty2 ?_)
 refine AH ?_
 rw [if_pos (by decide +kernel)]
 refine Ap (Et ?_)
 unfold Builtin.List.listTouch
 have hS0:((s.heap.push { cls:=.type "list",data:=.seq ([]:List dm).toArray }).push { cls:=.type "dict_keyiterator",data:=.fields #[.ref d,.int 0 0,.int es.size 0,.int ep 0] }).get? s.heap.objs.size=some (B8 "list" #[] 0):=A5 _ (Bl _ rfl)
 refine Ap (Ap (FU hS0 rfl ?_ (B6 _) (by show 1<=AK+1;lia)))
 have hS1:=GC hS0 (·.push .none)
 refine FU hS1 rfl ?_ (by show 1<=AK;rw [BU];decide) (by show 0<=AK+1;lia)
 have hS2:=GC hS1 (·.pop)
 have up:∀ b o,b≠s.heap.objs.size->((s.heap.push { cls:=.type "list",data:=.seq ([]:List dm).toArray }).push { cls:=.type "dict_keyiterator",data:=.fields #[.ref d,.int 0 0,.int es.size 0,.int ep 0] }).get? b=some o ->
   ((((s.heap.push { cls:=.type "list",data:=.seq ([]:List dm).toArray }).push { cls:=.type "dict_keyiterator",data:=.fields #[.ref d,.int 0 0,.int es.size 0,.int ep 0] }).update s.heap.objs.size (BX fun x=>x.push Bx)).update s.heap.objs.size (BX fun x=>x.pop)).get? b=some o:=fun b o hb e =>
  (((DY ..).2 b hb).trans ((DY ..).2 b hb)).trans e
 have hI:((s.heap.push { cls:=.type "list",data:=.seq ([]:List dm).toArray }).push { cls:=.type "dict_keyiterator",data:=.fields #[.ref d,.int 0 0,.int es.size 0,.int ep 0] }).get? (s.heap.push { cls:=.type "list",data:=.seq ([]:List dm).toArray }).objs.size=some { cls:=.type "dict_keyiterator",data:=.fields #[.ref d,.int 0 0,.int es.size 0,.int ep 0] }:=Bl _ rfl
 have neI:(s.heap.push { cls:=.type "list",data:=.seq ([]:List dm).toArray }).objs.size≠s.heap.objs.size:=by rw [<- I2];lia
 have old:∀ b o,s.heap.get? b=some o->((s.heap.push { cls:=.type "list",data:=.seq ([]:List dm).toArray }).push { cls:=.type "dict_keyiterator",data:=.fields #[.ref d,.int 0 0,.int es.size 0,.int ep 0] }).get? b=some o:=fun b o e=>A5 _ (A5 _ e)
 generalize ((((s.heap.push { cls:=.type "list",data:=.seq ([]:List dm).toArray }).push { cls:=.type "dict_keyiterator",data:=.fields #[.ref d,.int 0 0,.int es.size 0,.int ep 0] }).update s.heap.objs.size (BX fun x=>x.push Bx)).update s.heap.objs.size (BX fun x=>x.pop))=h5 at hS2 up ⊢
 have st:h5.IsKeyIter (s.heap.push { cls:=.type "list",data:=.seq ([]:List dm).toArray }).objs.size d 0 es.size ep:=⟨_,up _ _ neI hI,rfl,rfl⟩
 have da:iB h5 d es ep:=hU.at fun o e=>up d o (Cd hSd) e
 generalize hIa:(s.heap.push { cls:=.type "list",data:=.seq ([]:List dm).toArray }).objs.size=Ia at st neI hI ⊢
 have ia:Ia=s.heap.objs.size+1:=by rw [<- hIa];exact I2.symm
 have ne:d≠Ia:=by rw [ia];exact Bg (Gn dl)
 have nS:s.heap.objs.size∉[Ia,d]:=fun h=>by
  rcases AX.mp h with c|c
  ·exact neI c.symm
  ·exact hSd (Dp.mp c)
 have W:=(ztk (prog:=prog) (w:=w) (A:=A.in1) hh Ia d ne es ep).toS
 refine AH ⟨plainId_quiet F.plain_extend_loop _,codeAny_extend_loopS W (by rw [BU];lia) s.heap.objs.size nS _ es.size 0 _ _ _ rfl (B6 _) ⟨st,da⟩ hS2 (ItemsOf.nil _) fun s' oZ c' mv hS' yq=>?_⟩
 show Av _ A (load s.heap.objs.size >>= _) _ _ s'
 refine Ap (wpAny_load hS' ?_)
 refine AH (hQ s' oZ (fun b o e=>?_) mv.gens mv.drawn mv.os (Eo (AV hS')) yq)
 have lt:=AV e
 have b1:b≠s.heap.objs.size:=Bg lt
 have b2:b≠Ia:=by rw [ia];exact Bg (Gn lt)
 refine mv.heap b o (fun h=>?_) (up b o b1 (old b o e))
 rcases AX.mp h with c|c
 ·exact b1 c
 ·exact b2 (Dp.mp c)
end
end PySem
namespace L2
open PySem PySem.Spec PyProof.Rows PySem.W
variable {σ:L2.St}{H:Hp}{s:kb}{pins:List (ir×AA)}{X:Cx}
section
noncomputable def Cx.in1(X:Cx):Cx:={ X with A:=X.A.in1 }
section
theorem Cx.Ok.in1(o:X.Ok):X.in1.Ok:=⟨o.mod,o.kind,o.glob,o.blt,o.above,o.inj,o.has,o.pe,o.hd,o.frames,o.sR,o.nP,o.bs,o.lH,o.qa,o.nQ,o.jh,o.mN,o.tree,o.sk⟩
theorem Cx.Ok.sj(o:X.in1.Ok):X.Ok:=⟨o.mod,o.kind,o.glob,o.blt,o.above,o.inj,o.has,o.pe,o.hd,o.frames,o.sR,o.nP,o.bs,o.lH,o.qa,o.nQ,o.jh,o.mN,o.tree,o.sk⟩
theorem Inv.in1(I:Inv X pins σ H s):Inv X.in1 pins σ H s:=⟨I.ok.in1,I.os,I.bare,I.base,I.loc,I.cell,I.free,I.jK,I.pin,I.az,I.len⟩
theorem Inv.sj(I:Inv X.in1 pins σ H s):Inv X pins σ H s:=⟨I.ok.sj,I.os,I.bare,I.base,I.loc,I.cell,I.free,I.jK,I.pin,I.az,I.len⟩
end
end
section
theorem zgd:∀ a b c:List Int,HT.lexLt b a=false->HT.lexLt c b=false->HT.lexLt c a=false
 | [],_,[],_,_=>rfl
 | [],[],_::_,_,_=>rfl
 | [],_::_,_::_,_,_=>rfl
 | _::_,[],_,h,_=>by cases h
 | _::_,_::_,[],_,h=>by cases h
 | x::xs,y::ys,z::zs,h1,h2=>by
  simp only [HT.lexLt] at h1 h2 ⊢
  by_cases c1:y=x
  ·subst c1
   rw [if_pos rfl] at h1
   by_cases c2:z=y
   ·subst c2;rw [if_pos rfl] at h2 ⊢;exact zgd xs ys zs h1 h2
   ·rw [if_neg c2] at h2 ⊢;exact h2
  ·rw [if_neg c1] at h1
   have h1':=of_decide_eq_false h1
   by_cases c2:z=y
   ·subst c2;rw [if_neg c1];exact h1
   ·rw [if_neg c2] at h2
    have h2':=of_decide_eq_false h2
    rw [if_neg (by lia)]
    exact decide_eq_false (by lia)
theorem zgb:∀ a b:List Int,HT.lexLt a b=true->HT.lexLt b a=false
 | [],[],h=>by cases h
 | [],_::_,_=>rfl
 | _::_,[],h=>by cases h
 | x::xs,y::ys,h=>by
  simp only [HT.lexLt] at h ⊢
  by_cases c:x=y
  ·subst c;rw [if_pos rfl] at h ⊢;exact zgb xs ys h
  ·rw [if_neg c] at h
   have h':=of_decide_eq_true h
   rw [if_neg (by lia)]
   exact decide_eq_false (by lia)
abbrev WK:=Int×List Int
def gq(p q:WK):Bool:=if p.1=q.1 then HT.lexLt p.2 q.2 else decide (p.1<q.1)
theorem zgu(a b c:WK)(h1:gq b a=false)(h2:gq c b=false):gq c a=false:=by
 unfold gq at h1 h2 ⊢
 by_cases c1:b.1=a.1
 ·rw [if_pos c1] at h1
  by_cases c2:c.1=b.1
  ·rw [if_pos c2] at h2;rw [if_pos (c2.trans c1)];exact zgd _ _ _ h1 h2
  ·rw [if_neg c2] at h2;rw [if_neg (by rw [<- c1];exact c2),<- c1];exact h2
 ·rw [if_neg c1] at h1
  have h1':=of_decide_eq_false h1
  by_cases c2:c.1=b.1
  ·rw [c2,if_neg c1];exact h1
  ·rw [if_neg c2] at h2
   have h2':=of_decide_eq_false h2
   rw [if_neg (by lia)]
   exact decide_eq_false (by lia)
theorem zgs(a b:WK)(h:gq a b=true):gq b a=false:=by
 unfold gq at h ⊢
 by_cases c:a.1=b.1
 ·rw [if_pos c] at h;rw [if_pos c.symm];exact zgb _ _ h
 ·rw [if_neg c] at h
  have h':=of_decide_eq_true h
  rw [if_neg (by lia)]
  exact decide_eq_false (by lia)
def kT(kd:List WK)(i j:Nat):Bool:=gq (kd.getD i (0,[])) (kd.getD j (0,[]))
theorem zgS(kd:List WK):Ord (kT kd):=⟨fun _ _ _ h1 h2=>zgu _ _ _ h1 h2,fun _ _ h=>zgs _ _ h⟩
end
variable {o:HO}{oa:AA}{Q:kb->Prop}{h':AD}{t':Nat}{a f:ir}{E:dm->kb->Prop}{H0:Hp}
section
section
theorem Inv.adopt(I:Inv X pins σ H s)(k:∀ b u,b≠a->s.heap.get? b=some u->h'.get? b=some u)(hf:gi X pins H a)(new:dq X.prog X.w (upd H a o) h' a o) :
  Inv X pins σ (upd H a o) { s with heap:=h',toks:=t' }:=by
 obtain⟨hn,hL,hfs,h1,h2,h3⟩:=hf
 have ne:∀ b u,H b=some u->b≠a:=fun b u e z=>by rw [z,hn] at e;cases e
 refine I.step (g':=s.gens) (d':=s.drawn) (ch:=[a]) (fun b hb=>?_) (fun b o _ _ hc e _=>k b o (fun z=>hc (by simp [z])) e) (fun b o _ _ hc e _=>⟨o.slots,k b o (fun z=>hc (by simp [z])) e⟩) (fun b o hc _ n=>?_)
  (fun b o hc e=>⟨o,k b o (fun z=>hc (by simp [z])) e⟩) (fun b xs e=>?_) (fun b o u e=>?_) (fun b ps e=>⟨#[],?_⟩) (fun m hm=>?_) (fun b u e=>?_) I.bare
 ·have e:b=a:=by simpa using hb
  subst e
  exact⟨h1,hL,h2,h3⟩
 ·rw [bh fun z=>hc (by simp [z])];exact n
 ·rw [bh (ne b _ e)];exact e
 ·rw [bh (ne b _ e)];exact e
 ·rw [bh (ne b _ e),e];simp
 ·obtain⟨o,es,ep,ho,r⟩:=hm
  exact⟨o,es,ep,k _ o (Cd hL) ho,r⟩
 ·by_cases c:b=a
  ·subst c
   rw [cN] at e
   cases e
   exact new
  ·rw [bh c] at e
   refine(I.az b u e).lX (fun d v hc q=>k d v ?_ q) (fun b' q=>by rw [bh (ne b' _ q)];exact q) fun b' xs q=>q.upd (fun _ r=>ne b' _ r) fun _ _ r=>ne b' _ r
   rcases hc with z|z
   ·rw [z];exact ne b u e
   ·exact ne d _ z
variable {kS:ir}
theorem zig:∀{xs:List V} {us:List dm} (p:List Nat),Vals xs us->(∀ i∈p,i<us.length)->Vals (p.map fun i=>xs.getD i .non) (p.map fun i=>us.getD i Bx)
 | xs,us,[],_,_=>.nil
 | xs,us,i::p,r,h=>by
  refine .cons ?_ (zig p r fun j hj=>h j (Be _ hj))
  have hi:=h i (Bc ..)
  have hl:=r.length
  obtain⟨w,ew,gJ⟩:=r.get (i:=i) (x:=xs[i]) (Bo (by lia))
  have e1:xs.getD i .non=xs[i]:=by simp [Dt,Bo (show i<xs.length by lia)]
  have e2:us.getD i Bx=w:=by rw [Dt,ew];rfl
  show RelV (xs.getD i .non) (us.getD i Bx)
  rw [e1,e2]
  exact gJ
theorem zea(n:Nat):Arr n (Ds (Bh n)):=⟨by simp,Jf _⟩
end
end
variable {Q:List dm->kb->Prop}{A:AY}
section
def wO(H:Hp):List (List Key×V)->List V->Prop
 | [],xs=>xs=[]
 | kv::r,xs=>∃ b t,xs=.ref b::t/\dH H b (kv.1.map kV)/\wO H r t
def tL(H:Hp)(d:ir)(xs:List V):Prop:=∃ ag,Rd H d (.dT ag)/\wO H ag xs
section
variable {d:ir}
theorem zf9:∀{ag:List (List Key×V)} {ys:List (List Key×ir×dm)},KT H ag ys->wO H ag (ys.map fun y=>V.ref y.2.1)
 | [],_,.nil=>rfl
 | kv::r,_,.cons h t=>⟨_,_,rfl,h.2.1,zf9 t⟩
theorem zkm(hh:A.handled=none)(I:Inv X pins σ H s)(rd:wM H d)(hn:∀ xs,tL H d xs->xs.length<64)
  (hQ:∀ xs us s',tL H d xs->Vals xs us->Inv X pins σ H s'->Q us s'):Av (Ax X.prog X.w) A (collect (.ref d)) Q E s:=by
 have fin:∀(s':kb),(∀ b o,s.heap.get? b=some o->s'.heap.get? b=some o)->s'.gens=s.gens->s'.drawn=s.drawn->s'.os=s.os->Inv X pins σ H s':=fun s' k g dr os=>by
  obtain⟨h,g',dr',tk,os'⟩:=s'
  simp only at g dr os
  subst g;subst dr;subst os
  exact I.kept (t':=tk) k
 obtain⟨ag,rd⟩:=rd
 obtain⟨z,sy,ys,kt,o,es,ep,e',r1,r2,r3,r4⟩:=uE I.az rd
 have ks:=zf9 kt
 have lk:=hn _ ⟨ag,rd,ks⟩
 have ly:ag.length=ys.length:=EL kt
 have hsz:es.size=ys.length:=HJ r3
 rw [AW] at lk
 refine zkn hh sy ⟨o,e',r1,r2⟩ (by lia) fun s' acc hk hg hd ho hs yq=>hQ _ _ s' ⟨ag,rd,ks⟩ ?_ (fin s' hk hg hd ho)
 have la:acc.toList.length=es.size:=by rw [EW];exact yq.1
 refine zie (by rw [AW];lia) fun j x v ex ev=>?_
 rw [Jj] at ev
 obtain⟨hj,rfl⟩:=yq.2 j v ev
 have lj:j<ys.length:=by lia
 rw [BV,Bo lj] at ex
 cases ex
 have:=entry_at r3 j
 rw [Bo lj,Fe hj] at this
 simp only [CC,B7] at this
 rw [this]
 rfl
end
end
end L2
namespace FL
open PySem L2 PySem.Spec
open PyProof.Rows hiding St
variable [Cs]
variable {l:List (WK×D)}{ks:List D}{p:Array Nat}{ws:List WK}
theorem zgv(p q:WK):yM p q=L2.gq p q:=by
 unfold yM L2.gq
 rw [zcd]
theorem zgc:∀ a b:List Int,HT.lexLt a b=false->HT.lexLt b a=false->a=b
 | [],[],_,_=>rfl
 | [],_::_,h,_=>by cases h
 | _::_,[],_,h=>by cases h
 | x::xs,y::ys,h1,h2=>by
  simp only [HT.lexLt] at h1 h2
  by_cases c:x=y
  ·subst c
   rw [if_pos rfl] at h1 h2
   rw [zgc xs ys h1 h2]
  ·rw [if_neg c] at h1
   rw [if_neg (Cd c)] at h2
   have a1:=of_decide_eq_false h1
   have a2:=of_decide_eq_false h2
   lia
theorem zgt(p q:WK)(h1:L2.gq p q=false)(h2:L2.gq q p=false):p=q:=by
 unfold L2.gq at h1 h2
 by_cases c:p.1=q.1
 ·rw [if_pos c] at h1
  rw [if_pos c.symm] at h2
  exact E6 c (zgc _ _ h1 h2)
 ·rw [if_neg c] at h1
  rw [if_neg (Cd c)] at h2
  have a1:=of_decide_eq_false h1
  have a2:=of_decide_eq_false h2
  lia
def wQ(x y:WK×D):Prop:=L2.gq y.1 x.1=false
theorem zmu{x z:WK×D}(h:z∈nX x l):z=x\/z∈l:=by
 have:=(zbZ x l).mem_iff.mp h
 simpa using this
theorem zfN(x:WK×D):∀ l:List (WK×D),l.Pairwise wQ->(nX x l).Pairwise wQ
 | [],_=>by simp [nX]
 | y::r,h=>by
  unfold nX
  rw [FW] at h
  split
  ·rename_i c
   rw [zgv] at c
   rw [FW]
   refine⟨fun z hz=>?_,zfN x r h.2⟩
   rcases zmu hz with rfl|hz
   ·exact zgs _ _ c
   ·exact h.1 z hz
  ·rename_i c
   rw [zgv] at c
   have c':L2.gq y.1 x.1=false:=by simpa using c
   rw [FW]
   refine⟨fun z hz=>?_,FW.mpr h⟩
   rcases AX.mp hz with rfl|hz
   ·exact c'
   ·exact zgu _ _ _ c' (h.1 z hz)
theorem zb4:∀ l:List (WK×D),(nZ l).Pairwise wQ
 | []=>.nil
 | x::r=>zfN x _ (zb4 r)
theorem zg6{α:Type}{le:α->α->Prop}:∀{l1 l2:List α},l1.Perm l2->l1.Pairwise le->l2.Pairwise le->(∀ a∈l1,∀ b∈l1,le a b->le b a->a=b)->l1=l2
 | [],l2,h,_,_,_=>(List.nil_perm.mp h).symm
 | a::r1,[],h,_,_,_=>by have:=h.length_eq;simp at this
 | a::r1,b::r2,h,p1,p2,an=>by
  rw [FW] at p1 p2
  have e:a=b:=by
   have ha:a∈b::r2:=h.mem_iff.mp (Bc ..)
   have hb:b∈a::r1:=h.mem_iff.mpr (Bc ..)
   rcases AX.mp ha with e|ha'
   ·exact e
   rcases AX.mp hb with e|nT
   ·exact e.symm
   exact an a (Bc ..) b (Be _ nT) (p1.1 b nT) (p2.1 a ha')
  subst e
  rw [zg6 ((List.perm_cons a).mp h) p1.2 p2.2 fun x hx y hy=>an x (Be _ hx) y (Be _ hy)]
theorem zir:∀{ws:List WK} {ks:List D} {x y:WK×D},ws.Nodup->x∈ws.zip ks->y∈ws.zip ks->x.1=y.1->x=y
 | [],ks,x,y,_,h,_,_=>by simp at h
 | _::_,[],x,y,_,h,_,_=>by simp at h
 | w::ws,k::ks,x,y,nd,h1,h2,e=>by
  rw [C0] at nd
  rw [BI] at h1 h2
  rcases AX.mp h1 with rfl|h1
  ·rcases AX.mp h2 with rfl|h2
   ·rfl
   ·exact absurd (by rw [show w=y.1 from e];exact(Ea h2).1) nd.1
  ·rcases AX.mp h2 with rfl|h2
   ·exact absurd (by rw [show w=x.1 from e.symm];exact(Ea h1).1) nd.1
   ·exact zir nd.2 h1 h2 e
theorem zrI(ws:List WK)(ks:List D)(h:ws.length=ks.length):(Bh ks.length).map (fun i=>(ws.getD i (0,[]),ks.getD i Fm))=ws.zip ks:=by
 apply List.ext_getElem
 ·simp [h]
 ·intro i h1 h2
  have hi:i<ks.length:=by simpa using h1
  have gF:i<ws.length:=by lia
  simp [Dt,Bo hi,Bo gF]
theorem zsm(hl:ws.length=ks.length)(nd:ws.Nodup)(ar:Arr ks.length p)(up:Up (kT ws) p ks.length):p.toList.map (fun i=>ks.getD i Fm)=(nZ (ws.zip ks)).map (·.2):=by
 have hp:(p.toList.map fun i=>(ws.getD i (0,[]),ks.getD i Fm)).Perm (ws.zip ks):=by
  have:=(GB.mp ar.pm).map fun i=>(ws.getD i (0,[]),ks.getD i Fm)
  rw [Jk,zrI ws ks hl] at this
  exact this
 have e:(p.toList.map fun i=>(ws.getD i (0,[]),ks.getD i Fm))=nZ (ws.zip ks):=by
  refine zg6 (hp.trans (zb3 _).symm) ?_ (zb4 _) fun x hx y hy h1 h2=>?_
  ·rw [HL]
   intro i j hi hj hJ
   have gF:i<p.size:=by simpa using hi
   have mQ:j<p.size:=by simpa using hj
   have:=up i j (Eo hJ) (by rw [<- ar.sz];exact mQ)
   rw [show gp p i=p[i] by simp [gp,GA,gF],show gp p j=p[j] by simp [gp,GA,mQ]] at this
   simpa [wQ,kT] using this
  ·exact zir nd (hp.mem_iff.mp hx) (hp.mem_iff.mp hy) (zgt _ _ h2 h1)
 rw [<- e,Bz]
 rfl
variable {d:ir}{xs:List V}{H:Hp}{ag:List (D×D)}{X:Cx}
section
variable {K:ox}
theorem zf8:∀{ag:List (D×D)} {kk:List (List Key×V)} {xs:List V},bx K H ag kk->wO H kk xs->aj K H (ag.map (·.1)) xs
 | [],kk,xs,h,t=>by
  simp only [bx] at h
  subst h
  have:xs=[]:=t
  subst this
  simp [aj]
 | (k,d)::r,kk,xs,h,t=>by
  simp only [bx] at h
  obtain⟨q,v,t',rfl,rfl,f,h2⟩:=h
  obtain⟨b,u,rfl,tb,t2⟩:=t
  simp only [AQ,aj]
  exact⟨_,_,rfl,zfs tb,zf8 h2 t2⟩
theorem zbj(h:Fz K H (.dict ag) (.ref d))(t:tL H d xs):aj K H (ag.map (·.1)) xs:=by
 simp only [Fz] at h
 obtain⟨a,o,e,h⟩:=h
 cases e
 obtain⟨kk,h1,h2⟩:=h
 obtain⟨kk',rd,t⟩:=t
 have:kk'=kk:=by
  rcases rd with z|⟨o',z⟩
  ·rw [h1] at z;cases z
  ·rw [h1] at z;cases z;rfl
 subst this
 exact zf8 h2 t
theorem zlF(h:Fz K H (.dict ag) (.ref d)):wM H d:=by
 simp only [Fz] at h
 obtain⟨a,o,e,h⟩:=h
 cases e
 obtain⟨kk,h1,h2⟩:=h
 exact⟨kk,.inr ⟨o,h1⟩⟩
theorem aj.pick{ds:List D}{xs:List V}(h:aj K H ds xs):∀(p:List Nat),(∀ i∈p,i<ds.length)->aj K H (p.map fun i=>ds.getD i Fm) (p.map fun i=>xs.getD i .non)
 | [],_=>by simp [aj]
 | i::p,hp=>by
  simp only [AQ,aj]
  have hi:=hp i (Bc ..)
  obtain⟨v,ev,fv⟩:=h.get (Bo hi)
  refine⟨_,_,rfl,?_,aj.pick h p fun j hj=>hp j (Be _ hj)⟩
  rw [Dt,Dt,ev,Bo hi]
  exact fv
end
end FL
namespace L2
open PySem PySem.Spec PyProof.Rows PySem.W
end L2
namespace FL
open PySem L2 PySem.Spec
open PyProof.Rows hiding St
variable {pos:Az}{X:Cx}
section
variable [Cs]
section
variable {K:ox}{e ke ve:Aq}{f k v:EF}{p2:Az}
theorem zpd(hu:X.A.units+80<BO):aV X (A3 .In) (rD X.K zbW):=by
 intro pins s σ H x y v u Q I rx ry h
 obtain⟨dx,dy,d,tx,ty,e,q⟩:=h
 cases dy with
 | list xs =>
  obtain⟨c,e⟩:=c7 (show aF _ _=.ok d from e)
  cases e
  rw [BJ] at c
  obtain⟨as,ra⟩:=Is.reads I _ y u (ty.is (C9 c.1)) ry
  obtain⟨bs,rb⟩:=Is.reads I _ x v (tx.is (C9 c.2)) rx
  exact SeqAt.in_list_reads ra rb (C9 c.1) (C9 c.2) (room_in_shaped c.2 (by lia)) ⟨.bl _,H,I,rfl,q _ H (aB.refl _) (by simp [Fz])⟩
 | tuple xs =>
  obtain⟨c,e⟩:=c7 (show aF _ _=.ok d from e)
  cases e
  rw [BJ] at c
  obtain⟨as,ra⟩:=Is.reads I _ y u (ty.is (C9 c.1)) ry
  obtain⟨bs,rb⟩:=Is.reads I _ x v (tx.is (C9 c.2)) rx
  exact SeqAt.in_tuple_reads ra rb (C9 c.1) (C9 c.2) (room_in_shaped c.2 (by lia)) ⟨.bl _,H,I,rfl,q _ H (aB.refl _) (by simp [Fz])⟩
 | _=>exact nomatch (show(R.bad:R D)=.ok d from e)
end
end
variable {YP:AJ->AD->Prop}{q x:gV}{k:Nat}{P:AO}{cs:List ir}{fd:Bw}{cl:CL}{l:HM}{d:DefRec}{h:AD}{cd:dm}{s₁:kb}{vs:List dm}{ns:List Int}{w:AJ}{a b f:ir}{G:List D->R D}{loose:List gV}{u:HO}{mg:gV->Option dm}{o:AA}{CX:kz}
section
noncomputable def bK(cs:List ir)(K:ox):ox:=K.filter fun p=>!cs.contains p.1
theorem xV(cs:List ir):∀(K:ox) (b:ir),(bK cs K).lookup b=if cs.contains b=true then none else K.lookup b
 | [],b=>by simp [bK]
 | (c,o)::K,b=>by
  have ih:=xV cs K b
  unfold bK at ih ⊢
  rw [List.filter_cons]
  by_cases hc:cs.contains c=true
  ·rw [if_neg (by simp only [hc];decide),ih]
   by_cases hb:cs.contains b=true
   ·rw [if_pos hb,if_pos hb]
   ·have ne:b≠c:=fun z=>by rw [z] at hb;exact hb hc
    rw [if_neg hb,if_neg hb]
    simp [A2,show(b==c)=false from by simpa using ne]
  ·have gD:cs.contains c=false:=by simpa using hc
   rw [if_pos (by simp only [gD];decide)]
   by_cases e:b=c
   ·subst e
    rw [if_neg hc]
    simp [A2]
   ·have e':(b==c)=false:=by simpa using e
    rw [A2,A2,e']
    exact ih
theorem ze0{K:ox}(x:K.In h):(bK cs K).In h:=fun a o e=>by
 rw [xV] at e
 split at e
 ·cases e
 ·exact x a o e
def eR(cs:List ir)(K:ox):Prop:=∀ c∈cs,∃ o its n,K.lookup c=some o/\o.data=Data.seq its n
theorem kI{K:ox}(s:eR cs K)(e:K.lookup b=some o)(n:∀ its m,o.data≠.seq its m):(bK cs K).lookup b=some o:=by
 rw [xV,if_neg,e]
 intro c
 obtain⟨o',its,m,e',d⟩:=s b (by simpa using c)
 rw [e] at e'
 cases e'
 exact n _ _ d
theorem zkl{K:ox}(s:eR cs K)(h:DS K cd q=true):DS (bK cs K) cd q=true:=by
 cases cd with
 | ref c =>
  unfold DS at h ⊢
  cases e:K.lookup c with
  | none=>simp only [e] at h;cases h
  | some o =>
   obtain⟨oc,od,data,sl⟩:=o
   cases data with
   | fields vs =>
    simp only [e] at h
    simp only [kI s e fun _ _ z=>nomatch z]
    exact h
   | _=>simp only [e] at h;cases h
 | _=>cases h
theorem e9.cut{K:ox}(s:eR cs K){st:AU}(F:e9 K x q st f fd):e9 (bK cs K) x q st f fd:=by
 obtain⟨⟨oc,od,kV,doc,pm,an,aJ,ct,kj,e,l,c⟩,kp⟩:=F
 have l':=kI s l fun _ _ z=>nomatch z
 refine⟨⟨oc,od,kV,doc,pm,an,aJ,ct,kj,e,l',zkl s c⟩,?_⟩
 unfold Dh
 simp only [l']
theorem aD.cut{cs:List ir}{K:ox}{mg:gV->Option dm}(s:eR cs K){x:gV}{st:AU}(h:aD K mg x st):aD (bK cs K) mg x st:=by
 obtain⟨f,fd,hm,F⟩:=h
 exact⟨f,fd,hm,e9.cut s F⟩
abbrev CL:=List (ir×AA×List V)
noncomputable def gE(cl:CL):Hp:=fun b=>(cl.lookup b).map fun p=>.frz p.1 (.tup p.2)
theorem zl5(cl:CL)(a:ir)(u:HO)(h:gE cl a=some u):∃ o xs,u=.frz o (.tup xs):=by
 unfold gE at h
 rw [C8] at h
 obtain⟨p,_,rfl⟩:=h
 exact⟨_,_,rfl⟩
@[reducible] def rz(cl:CL)(ob:String->Option (ir×List gV):=fun _=>none):Cs:={ C:=gE cl,st:=zl5 cl,O:=ob }
def gK(cl:CL)(K:ox):Prop:=∀ p∈cl,K.lookup p.1=some p.2.1/\p.2.1.cls=.type "tuple"/\p.2.2.length<=AK/\∃(its:Array dm) (n:Nat),p.2.1.data=.seq its n/\Vals p.2.2 its.toList
theorem gK.nil{K:ox}:gK [] K:=fun p hp=>by simp at hp
theorem gK.cons{K:ox}{a:ir}{od:Option ir}{its:Array dm}{n:Nat}{sl:Array (Option dm)}{xs:List V}{cl:CL}(e:K.lookup a=some ⟨.type "tuple",od,.seq its n,sl⟩) (hv:Vals xs its.toList) (hl:xs.length<=1000) (r:gK cl K):gK ((a,⟨.type "tuple",od,.seq its n,sl⟩,xs)::cl) K:=fun p hp=>by
 rcases AX.mp hp with rfl|hp
 ·exact⟨e,rfl,Eo (zsl hl),its,n,rfl,hv⟩
 ·exact r p hp
theorem gK.bI{K:ox}(h:gK cl K):eR (cl.map (·.1)) K:=fun c hc=>by
 obtain⟨p,hp,rfl⟩:=A7.mp hc
 obtain⟨e,_,_,its,n,d,_⟩:=h p hp
 exact⟨_,its,n,e,d⟩
theorem mem_of_lookup{α:Type}:∀{l:List (ir×α)} {a:ir} {x:α},l.lookup a=some x->(a,x)∈l
 | [],a,x,h=>by simp at h
 | (b,y)::r,a,x,h=>by
  rw [A2] at h
  cases e:a==b with
  | true =>
   rw [e] at h
   cases h
   have:=eq_of_beq e
   subst this
   exact Bc ..
  | false =>
   rw [e] at h
   exact Be _ (mem_of_lookup h)
theorem rG{K:ox}(h:gK cl K)(e:gE cl b=some u):(bK (cl.map (·.1)) K).lookup b=none/\∃(o:AA) (xs:List V) (its:Array dm) (n:Nat),u=.frz o (.tup xs)/\K.lookup b=some o/\o.cls=.type "tuple"/\o.data=.seq its n/\xs.length<=AK/\Vals xs its.toList:=by
 unfold gE at e
 rw [C8] at e
 obtain⟨⟨o,xs⟩,el,rfl⟩:=e
 have m:=mem_of_lookup el
 obtain⟨h1,h2,h3,its,n,h4,h5⟩:=h _ m
 refine⟨?_,o,xs,its,n,rfl,h1,h2,h4,h3,h5⟩
 rw [xV,if_pos]
 have:b∈cl.map (·.1):=A7.mpr ⟨_,m,rfl⟩
 simpa using this
theorem znY{K:ox}{mb:gV->Option dm}{fa:ir}{sp:Sp}
  (KX:K.In s₁.heap)(hC:gK cl K)(rK:s₁.heap.Ns Ba mg)(hb:s₁.heap.Ns F3 mb)(hbb:∀ x:gV,x ≠ "__name__"->mb x=Bs x) (zmf:s₁.heap.NoLimit) (yw:s₁.heap.NoSeer) (vg:P.given.tree=none) (hg:s₁.gens=#[])
  (ha:s₁.heap.get? a=some { cls:=.type "list",data:=.seq vs.toArray }) (hi:CI vs ns) (hl:ns.length<=AK) (hr:bp k Ez)
  (F:∀ base:AD,(bK (cl.map (·.1)) K).In base->base.Ns Ba mg->dj P w (bK (cl.map (·.1)) K) mg base CX k fa fd [x] sp) (zl3:∀(s:kb) (u:dm),E2 s fd ⟨[u],[]⟩ [(x,u)])
  (rN:∀ H:Hp,(∀ b xs,H b≠some (.lst xs))->(∀ b u,gE cl b=some u->H b=some u)->bB (bK (cl.map (·.1)) K) H a (ns.map V.int)->sp [.ref a] H (fun v _=>v=.bl true) fun _ _ _=>False)
  (hCX:∀ H e s',CX [] H s₁ (fun _ _ _=>False) e s'->False) :
  DL (Ax P w) Ez (.call (.ref fa) ⟨[.ref a],[]⟩) (fun r s'=>r=.ok (.ret (.bool true))/\OldK s₁.heap s'.heap/\s'.os=s₁.os/\Dx s'.gens) s₁:=by
 have rv:=zif hi
 have zn2:=hi.length
 have core:∀ H:Hp,(∀ b u,H b=some u->∃ o v,u=.frz o v/\o.cls≠.type "module"/\∀ es ep,o.data≠.dict es ep)->(∀ b xs,H b≠some (.lst xs))->(∀ b u,gE cl b=some u->H b=some u)->bB (bK (cl.map (·.1)) K) H a (ns.map V.int)->cW P w H s₁.heap->(∀ b,H b≠none->(bK (cl.map (·.1)) K).lookup b=none) ->
   DL (Ax P w) Ez (.call (.ref fa) ⟨[.ref a],[]⟩) (fun r s'=>r=.ok (.ret (.bool true))/\OldK s₁.heap s'.heap/\s'.os=s₁.os/\Dx s'.gens) s₁:=by
  intro H hO hL lM hS az hK
  have zaQ:∀{b:ir} {o:AA},s₁.heap.get? b=some o->H b=none->(mP s₁.heap H).get? b=some o:=fun e n=>zmb e n
  have vC:∀{b:ir} {o:AA} {es:Array Dr} {ep:Nat},s₁.heap.get? b=some o->o.data=.dict es ep->H b=none:=fun{b o es ep} e d=>by
   cases q:H b with
   | none=>rfl
   | some u =>
    obtain⟨o',v,rfl,_,nd⟩:=hO b u q
    obtain⟨e',_⟩:=az b _ q
    rw [e] at e'
    cases e'
    exact absurd d (nd es ep)
  have noM:∀{b:ir} {o:AA},s₁.heap.get? b=some o->o.cls=.type "module"->H b=none:=fun{b o} e d=>by
   cases q:H b with
   | none=>rfl
   | some u =>
    obtain⟨o',v,rfl,nd,_⟩:=hO b u q
    obtain⟨e',_⟩:=az b _ q
    rw [e] at e'
    cases e'
    exact absurd d nd
  have oo:∀{b:ir} {m:gV->Option dm},s₁.heap.Ns b m->(mP s₁.heap H).Ns b m:=fun{b m} ⟨o,es,ep,e,d,r⟩=>⟨o,es,ep,zaQ e (vC e d),d,r⟩
  have hKb:(bK (cl.map (·.1)) K).In (mP s₁.heap H):=fun b o e=>zaQ (ze0 KX b o e) (by
   cases q:H b with
   | none=>rfl
   | some u=>rw [hK b (by rw [q];simp)] at e;cases e)
  have hM:Mod (bK (cl.map (·.1)) K) mg (mP s₁.heap H):=⟨hKb,oo rK,⟨mb,oo hb,hbb⟩,let⟨mc,h1,h2⟩:=zmf;⟨mc,oo h1,h2⟩,(let⟨mc,h1,h2⟩:=yw.statics;⟨mc,oo h1,h2⟩),(let⟨mc,h1,h2⟩:=yw.mods;⟨mc,oo h1,h2⟩),(let⟨mc,h1,h2⟩:=yw.imp;⟨mc,oo h1,h2⟩),(let⟨mg,bm,ob,h1,h2,h3,h4,h5⟩:=yw.main;⟨mg,bm,ob,oo h1,h2,zaQ h3 (noM h3 h4),h4,h5⟩)⟩
  have e0:oM P w (bK (cl.map (·.1)) K) mg (mP s₁.heap H) Ez [] s₁ H:=⟨rfl,hM,fun b o e=>zo5 e,F8 (zmc _ _),trivial,fun b hb=>absurd (show b∈([]:List ir) from hb) (by simp),az,.of_eq hg,vg⟩
  refine E4 ((F _ hKb (oo rK)).run Ez [] s₁ H ⟨[.ref a],[]⟩ [.ref a] [.ref a] _ _ hr e0 (zl3 s₁ (.ref a)) (.cons rfl .nil) (rN H hL lM hS)) fun r s' h=>?_
  cases r with
  | error e=>exact(hCX H e s' h).elim
  | ok fl =>
   cases fl with
   | next=>exact CW h
   | brk=>exact CW h
   | cont=>exact CW h
   | ret u =>
    obtain⟨v,H',os,bare,un,zmj,r',q⟩:=h
    have q':v=.bl true:=q
    subst q'
    obtain rfl:u=Dc true:=r'
    refine⟨rfl,OldK.of_keep fun b o e=>?_,os,bare⟩
    cases q:H b with
    | none=>exact un.keep b o e q (by intro z;exact absurd (show b∈([]:List ir) from z) (by simp)) (by simp)
    | some u =>
     obtain⟨ob,v,rfl,_,_⟩:=hO b u q
     have z2:=un.kL b ob _ q
     obtain⟨e1,_⟩:=az b _ q
     obtain⟨e2,_⟩:=zmj b _ z2
     rw [e] at e1;cases e1
     exact e2
 have j4:∀{H:Hp} {b:ir} {u:HO},gE cl b=some u->dq P w H s₁.heap b u:=fun{H b u} e=>by
  obtain⟨_,o,xs,its,n,rfl,h1,h2,h3,h4,h5⟩:=rG hC e
  have hg:=KX b o h1
  exact⟨hg,h4,its.toList,h5,o,hg,h2,n,by simpa using h3⟩
 have cfr:∀{b:ir} {u:HO},gE cl b=some u->∃ o v,u=.frz o v/\o.cls≠.type "module"/\∀ es ep,o.data≠.dict es ep:=fun{b u} e=>by
  obtain⟨_,o,xs,its,n,rfl,h1,h2,h3,h4,h5⟩:=rG hC e
  exact⟨o,_,rfl,by rw [h2];simp,fun es ep z=>by rw [h3] at z;cases z⟩
 have zeT:∀{b:ir} {xs:List V},gE cl b≠some (.lst xs):=fun{b xs} e=>by
  obtain⟨_,o,xs,its,n,z,_⟩:=rG hC e
  cases z
 cases hk:(bK (cl.map (·.1)) K).lookup a with
 | some o =>
  have e:=ze0 KX a o hk
  rw [ha] at e
  cases e
  exact core (gE cl) (fun b u e=>cfr e) (fun b xs e=>zeT e) (fun _ _ e=>e) (.inr ⟨_,vs.toArray,_,hk,rfl,rfl,rfl,by rw [Bk,zn2];exact hl,by simpa using rv⟩) (fun b u z=>j4 z) fun b hb=>by
   cases q:gE cl b with
   | none=>exact absurd q hb
   | some u=>exact(rG hC q).1
 | none =>
  have na:∀ u,gE cl a≠some u:=fun u z=>by
   obtain⟨_,o,xs,its,n,rfl,h1,h2,h3,h4,h5⟩:=rG hC z
   have:=KX a o h1
   rw [ha] at this
   cases this
   simp at h2
  refine core (fun b=>if b=a then some (.frz { cls:=.type "list",data:=.seq vs.toArray } (.lst (ns.map V.int))) else gE cl b) (fun b u e=>?_) (fun b xs e=>?_) (fun b u e=>?_) (.inl (.inr ⟨{ cls:=.type "list",data:=.seq vs.toArray },if_pos rfl⟩)) (fun b u z=>?_) fun b hb=>?_
  ·split at e
   ·cases e;exact⟨_,_,rfl,by simp,fun es ep z=>nomatch z⟩
   ·exact cfr e
  ·split at e
   ·cases e
   ·exact zeT e
  ·have:b≠a:=fun z=>by subst z;exact na u e
   simp only [if_neg this];exact e
  ·simp only at z
   split at z
   ·rename_i c
    cases z
    subst c
    exact⟨ha,by rw [AW];exact hl,vs,_,rv,ha⟩
   ·exact j4 z
  ·by_cases c:b=a
   ·subst c;exact hk
   ·simp only [if_neg c] at hb
    cases q:gE cl b with
    | none=>exact absurd q hb
    | some u=>exact(rG hC q).1
theorem ztg{q:AO}{XP:(gV->Option dm)->AD->Prop}{K:Params->ox}
  (zbR:∀ ns:List Int,ns.length<=63->G [.list (ns.map A8)]=.ok (.bool true))(hn:l.most=some 63)(u3:d.params.defaults=[])(hi:importsNone q=true)(vg:l.prog.given.tree=none)(hr:bp k Ez)
  (hY:∀(w:AJ) (h:AD),YP w h->(K w.params).In h)
  (F:∀(w:AJ) (mg:gV->Option dm) (fa:ir) (h:AD),(K w.params).In h->h.Ns Ba mg->mg d.name=some (.ref fa) ->
   ∃(cl:CL) (ob:String->Option (ir×List gV)) (fd:Bw),gK cl (K w.params)/\(∀(s:kb) (u:dm),E2 s fd ⟨[u],[]⟩ [(x,u)]) /\
    ∀ base:AD,(bK (cl.map (·.1)) (K w.params)).In base->base.Ns Ba mg->dj l.prog w (bK (cl.map (·.1)) (K w.params)) mg base (cF l.prog w) k fa fd [x] (@jW (rz cl ob) (bK (cl.map (·.1)) (K w.params)) 1 false G)) :
  PySem.W.WalkO q loose XP YP l.row.toRowW d [] (fun f vs=>Hk f vs):=by
 refine Att.zjD hn u3 fun w s₀ s₁ mg mb fa o pm cd doc a vs ns GG Y ho hd g9 hmg zbS hints hlen hg=>?_
 have KX:=hY w _ Y
 obtain⟨cl,ob,fd,hC,hb,hF⟩:=F w mg fa _ KX GG.T.g hmg
 refine znY KX hC GG.T.g GG.T.b GG.T.builtins GG.T.nolimit (GG.T.seer hi) vg hg zbS hints (Bj hlen (by decide)) hr hF hb (fun H hO lM hS=>@znZ (rz cl ob) _ G H a ns (zbR ns hlen) hO lM hS) fun H e s' ⟨_,_,_,_,_,_,_,_,_,_,_,_,_,_,_,z⟩=>z
variable [Cs]
theorem qi{K:ox}{ds:List D}{vs:List V}(hg:Gl X x)(hm:X.mg x=some (.ref a))(hc:∃ o,Cs.C a=some (.frz o (.tup vs)))(hf:∀ H,aj K H ds vs)(hd:(x==("__debug__":gV))=false:=by decide) :
  PV K X (.Name x pos) (eC (.tuple ds)):=.mk fun _=>(zg0 hg hm (v:=.ref a) rfl hd).weak fun σ H Q=>by
 rintro⟨ρ,rel,g⟩
 obtain⟨o,hc⟩:=hc
 refine g.now rel (.ref a) ?_
 simp only [Fz]
 exact⟨a,vs,rfl,.inr ⟨o,rel.cst _ _ hc⟩,hf H⟩
end
variable {kj:Array (Option dm)}{ob:String->Option (ir×List gV)}{A:AY}{oc u:dm}{xs:List V}
section
theorem tf(hr:bp k A):A.units+1<BO:=by have:=hr.un;lia
theorem zic(hr:bp k A):A.units+80<BO:=by have:=hr.un;lia
theorem zrP{x y:V}(h1:L2.RelV x u)(h2:L2.RelV y u):x=y:=by
 cases x <;> cases y <;> simp only [L2.RelV] at h1 h2 <;> first
  | (subst h1;cases h2;rfl;done)
  | (subst h1;obtain⟨t',h2⟩:=h2;cases h2;done)
  | (obtain⟨t,rfl⟩:=h1;obtain⟨t',h2⟩:=h2;cases h2;rfl;done)
  | (obtain⟨t,rfl⟩:=h1;obtain⟨t',h2⟩:=h2;cases h2;done)
  | (subst h1;cases h2;done)
  | (obtain⟨t,rfl⟩:=h1;cases h2;done)
theorem zij:∀{xs ys:List V} {us:List dm},Vals xs us->Vals ys us->xs=ys
 | _,_,_,.nil,.nil=>rfl
 | _,_,_,.cons r1 t1,.cons r2 t2=>by rw [zrP r1 r2,zij t1 t2]
theorem lookup_mem{α:Type}:∀{l:List (ir×α)} {a:ir} {x:α},(a,x)∈l->∃ y,l.lookup a=some y
 | [],a,x,h=>by simp at h
 | (b,y)::r,a,x,h=>by
  rw [A2]
  cases e:a==b with
  | true=>exact⟨y,rfl⟩
  | false =>
   rcases AX.mp h with z|z
   ·cases z;simp at e
   ·exact lookup_mem z
theorem zl4{K:ox}(h:gK cl K)(m:(a,o,xs)∈cl):∃ o',(rz cl ob).C a=some (.frz o' (.tup xs)):=by
 obtain⟨⟨o2,ys⟩,el⟩:=lookup_mem m
 obtain⟨h1,_,_,its,n,h2,h3⟩:=h _ m
 obtain⟨g1,_,_,iL,n',g2,g3⟩:=h _ (mem_of_lookup el)
 simp only at h1 h2 h3 g1 g2 g3
 rw [h1] at g1
 cases g1
 rw [h2] at g2
 cases g2
 refine⟨o,?_⟩
 show gE cl a=_
 unfold gE
 rw [el,zij h3 g3]
 rfl
theorem zl2{K:ox}{st:AU}{od an:Option ir}{kV doc pm aJ ct:dm}(X:K.In h)(G:h.Ns Ba mg)(q:BK K Ba x=some (some (.ref f)))
  (l:K.lookup f=some ⟨oc,od,.func (Cm x x (jb st) (dR st) (bG st) .none kV doc pm an aJ ct),kj⟩)(c:DS K aJ x=true)(k:Dh K (.ref f)=true):aD K mg x st:=⟨f,_,EJ X G q,zbx (st:=st) l c k⟩
theorem _root_.L2.aD.cut{cs:List ir}{K:ox}{mg:gV->Option dm}{x:gV}{st:AU}(h:aD K mg x st)(s:eR cs K):aD (bK cs K) mg x st:=FL.aD.cut s h
end
end FL
namespace FL
open PySem
def enD:List D->R (List D)
 | [.list l]=>.ok (jg 0 l)
 | _=>.bad
def zpD:List D->R (List D)
 | [.list l,.list m]=>.ok (eO l m)
 | _=>.bad
def vi(a:AF):IF:=fun ρ=>(a ρ).bind fun x=>(enD x.1).bind fun l=>.ok (l,x.2)
def yz(a:AF):IF:=fun ρ=>(a ρ).bind fun x=>(zpD x.1).bind fun l=>.ok (l,x.2)
end FL
namespace L2
open PySem PySem.Spec PyProof.Rows
end L2
namespace FL
open PySem L2 PySem.Spec
open PyProof.Rows hiding St
theorem zbo:∀(i:Nat) (l:List D),(jg i l).length=l.length
 | _,[]=>rfl
 | i,d::r=>by rw [jg,AR,AR,zbo]
theorem zbn:∀{i:Nat} {l:List D} {j:Nat} {x:D},(jg i l)[j]?=some x->∃ d,l[j]?=some d/\x=.tuple [.int ((i+j:Nat):Int),d]
 | _,[],_,_,h=>by simp [jg] at h
 | i,d::r,0,x,h=>by
  simp only [jg,zz0,B7] at h
  exact⟨d,rfl,h.symm⟩
 | i,d::r,j+1,x,h=>by
  simp only [jg,zz1] at h
  obtain⟨d',h1,h2⟩:=zbn h
  refine⟨d',by simpa using h1,?_⟩
  rw [h2,Nat.add_assoc,Gg 1 j]
theorem zdp:∀{l m:List D} {j:Nat} {x:D},(eO l m)[j]?=some x->∃ a b,l[j]?=some a/\m[j]?=some b/\x=.tuple [a,b]
 | [],_,_,_,h=>by simp [eO] at h
 | _::_,[],_,_,h=>by simp [eO] at h
 | a::r,b::s,0,x,h=>by
  simp only [eO,zz0,B7] at h
  exact⟨a,b,rfl,rfl,h.symm⟩
 | a::r,b::s,j+1,x,h=>by
  simp only [eO,zz1] at h
  obtain⟨a',b',h1,h2,h3⟩:=zdp h
  exact⟨a',b',by simpa using h1,by simpa using h2,h3⟩
theorem zdq:∀(l m:List D),(eO l m).length=min l.length m.length
 | [],_=>by simp [eO]
 | _::_,[]=>by simp [eO]
 | a::r,b::s=>by simp only [eO,AR,zdq r s];lia
variable {items:List D}{k:Nat}{a t:ir}{fa:AF}{H:Hp}{pos:Az}{es:List Aq}{vs:List V}{X:Cx}
section
variable [Cs]{K:ox}{e e':Aq}{p0 p:Az}
theorem yh{a b:D}{u v:V}(h0:H t=none)(fa:Fz K H a u)(fb:Fz K H b v):Fz K (upd H t (.tup [u,v])) (.tuple [a,b]) (.ref t):=by
 have m:aH H (upd H t (.tup [u,v])):=aH.of (aB.upd h0)
 simp only [Fz,aj]
 exact⟨t,[u,v],rfl,.inl cN,u,[v],rfl,fa.mono m,v,[],rfl,fb.mono m,rfl⟩
theorem zte(h:kB K H a vs)(f:aj K H items vs):Walk K (Ite K a) (jg 0 items) H:=by
 refine⟨fun i d H' fz e=>?_,fun i H' fz e=>⟨vs,(fz.gf h).sq,by rw [f.len,<- zbo 0];exact e⟩⟩
 obtain⟨d',e',rfl⟩:=zbn e
 obtain⟨v,ev,fv⟩:=(f.mono fz).get e'
 refine⟨⟨vs,v,(fz.gf h).sq,ev⟩,fun x iF y=>?_⟩
 obtain⟨t,v',rfl,ht,rfl,hv⟩:=y
 have ex:=hv vs (fz.gf h).sq
 rw [ev] at ex
 cases ex
 refine⟨aB.upd ht,?_⟩
 rw [EH]
 exact yh ht (jL _) fv
theorem zin{b:ir}{ws:List V}{l m:List D}(h:kB K H a vs)(f:aj K H l vs)(h':kB K H b ws)(f':aj K H m ws):Walk K (wN K a b) (eO l m) H:=by
 refine⟨fun i d H' fz e=>?_,fun i H' fz e=>⟨vs,ws,(fz.gf h).sq,(fz.gf h').sq,?_⟩⟩
 ·obtain⟨x,y,e1,e2,rfl⟩:=zdp e
  obtain⟨u,eu,fu⟩:=(f.mono fz).get e1
  obtain⟨v,ev,fv⟩:=(f'.mono fz).get e2
  refine⟨⟨vs,ws,u,v,(fz.gf h).sq,(fz.gf h').sq,eu,ev⟩,fun x iF y=>?_⟩
  obtain⟨t,u',v',rfl,ht,rfl,hu,hv⟩:=y
  have ex:=hu vs (fz.gf h).sq
  rw [eu] at ex
  cases ex
  have ex:=hv ws (fz.gf h').sq
  rw [ev] at ex
  cases ex
  exact⟨aB.upd ht,yh ht fu fv⟩
 ·rw [zdq] at e
  rw [f.len,f'.len]
  lia
theorem zhl(hg:Gl X "enumerate") (hm:X.mg "enumerate"=none) (ha:dG K X [e] fa) (hs:Au [e] X.env=[(false,Ay e X.env)]:=by exact FL.se rfl):gz K X (.Tuple es k p0) (.Call (.Name "enumerate" p) [e] [] pos) (vi fa):=.mk fun hK=>by
 subst hK
 refine(zpY hg hm (ha rfl) hs).weak fun σ H R=>?_
 rintro⟨ρ,rel,q⟩
 refine lL rel q fun ds ρ1 vs H1 ak aK fs q1=>?_
 obtain⟨items,ei,q2⟩:=q1.bV
 cases ds with
 | nil=>cases ei
 | cons d r =>
  cases r with
  | cons _ _=>cases d <;> cases ei
  | nil =>
   cases d with
   | list a =>
    cases ei
    simp only [aj,Fz] at fs
    obtain⟨_,_,rfl,⟨l,vs,rfl,sx,f⟩,rfl⟩:=fs
    exact⟨l,rfl,⟨vs,sx.sq⟩,q2.now ak _ (zte sx f)⟩
   | _=>cases ei
theorem zhm(hg:Gl X "zip") (hm:X.mg "zip"=none) (ha:dG K X [e,e'] fa) (hs:Au [e,e'] X.env=[(false,Ay e X.env),(false,Ay e' X.env)]:=by rfl) (dh:Au [e'] X.env=[(false,Ay e' X.env)]:=by exact FL.se rfl):gz K X (.Tuple es k p0) (.Call (.Name "zip" p) [e,e'] [] pos) (yz fa):=.mk fun hK=>by
 subst hK
 refine(zp4 hg hm (ha rfl) hs dh).weak fun σ H R=>?_
 rintro⟨ρ,rel,q⟩
 refine lL rel q fun ds ρ1 vs H1 ak aK fs q1=>?_
 obtain⟨items,ei,q2⟩:=q1.bV
 match ds,ei,fs with
 | [.list a,.list b],ei,fs =>
  cases ei
  simp only [aj,Fz] at fs
  obtain⟨_,_,rfl,⟨l,vs,rfl,sx,f⟩,_,_,rfl,⟨l',qH,rfl,oJ,f'⟩,rfl⟩:=fs
  exact⟨l,l',rfl,⟨vs,sx.sq⟩,⟨qH,oJ.sq⟩,q2.now ak _ (zin sx f oJ f')⟩
end
end FL
namespace L2
open PySem PySem.Spec PyProof.Rows
end L2
namespace FL
open PySem L2 PySem.Spec
open PyProof.Rows hiding St
end FL
namespace PySem
open Spec
end PySem
namespace FL
open PySem L2 PySem.Spec
open PyProof.Rows hiding St
section
end
section
end
end FL
namespace L2
open PySem PySem.Spec PyProof.Rows
open PySem.SeqAt
open PySem.AutoSeq1 (wpAny_loadPart')
open PySem.MeetsSeq PySem.MeetsSeq2 PySem.MeetsSeq3
end L2
namespace FL
open PySem L2 PySem.Spec
open PyProof.Rows hiding St
end FL
namespace FL
open PySem
noncomputable def intD:D->R D
 | .bool b=>.ok (.int (if b then 1 else 0))
 | .int i=>.ok (.int i)
 | _=>.bad
end FL
namespace L2
open PySem PySem.Spec PyProof.Rows PySem.W
end L2
namespace FL
open PySem L2 PySem.Spec
open PyProof.Rows hiding St
variable {h:EF}{pos:Az}{X:Cx}{b:Aq}
section
variable [Cs]
section
variable {K:ox}
theorem zjV:fP X (.type "int") intD:=by
 intro pins s σ H xs us Q I r h
 obtain⟨x,dx,d,rfl,tx,e,q⟩:=h
 obtain⟨u,rfl,ru⟩:=vals1 r
 cases dx with
 | bool c =>
  have tx:Fz X.K H (.bool c) x:=tx
  simp only [Fz] at tx
  subst tx
  cases e
  cases ru
  exact PySem.call_int_bool ⟨.int _,H,I.tok _,⟨_,rfl⟩,q _ H (aB.refl _) (by simp [Fz])⟩
 | int i =>
  have tx:Fz X.K H (.int i) x:=tx
  simp only [Fz] at tx
  subst tx
  cases e
  obtain⟨t,rfl⟩:=ru
  exact PySem.call_int_int ⟨.int i,H,I,⟨t,rfl⟩,q _ H (aB.refl _) (by simp [Fz])⟩
 | _=>exact nomatch (show(R.bad:R D)=.ok d from e)
end
end
variable {k n:Nat}{F:List D->R (D×List D)}{it:IF}{t:TF}{P:AO}{g:D->R D}{scope:BG}{p2 py pz:Az}{fa:AF}{tn x z:gV}{gg:GF}{ps:List gV}{es ifs:List Aq}{w:AJ}{base:AD}{G:List D->R D}{mg:gV->Option dm}{dom:List Nat}{op:CZ}{body:List AU}{ar:List Ar}{tg:Aq}{bb:SF}
section
variable [Cs]
section
variable {K:ox}{st:AU}{b:SF}{fr:Bool}
theorem rE(ms:List Bool)(N:List gV)(h:aD K mg x st)
  (hb:∀{f:ir} {aJ:dm} {A:AY} {outer:List Bb} {s:kb} {H:Hp} {E:XK},bp k (A.deeper (B3 x (bG st) s.heap.objs.size f aJ))->N.Nodup->fH K (gR (cF P w) P w K mg base N x (bG st) f aJ A outer s H E).kg (dR st) b)
  (S:iY N ps (bG st):=by exact⟨rfl,rfl,rfl,by decide +kernel,rfl,by decide +kernel,by decide +kernel⟩)(fU:ps.length=ms.length:=by rfl)(iK:ps.length<=N.length:=by decide)
  (kP:∀(kV doc pm:dm) (an:Option ir) (aJ ct:dm) (us:List dm),us.length=ps.length->D9 (Cm x x (jb st) (dR st) (bG st) .none kV doc pm an aJ ct) ⟨us,[]⟩=pure (ps.zip us):=by
   first
    | exact fun _ _ _ _ _ _=>uI fun _=>rfl
    | exact fun _ _ _ _ _ _=>uJ fun _ _=>rfl
    | exact fun _ _ _ _ _ _=>uK fun _ _ _=>rfl
    | exact fun _ _ _ _ _ _=>yc fun _ _ _ _=>rfl
    | exact fun _ _ _ _ _ _=>el5 fun _ _ _ _ _=>rfl):Callee P w K mg base x (k+1) ps (lz K ms fr (FL.run ms fr N.length b)) :=
 zlw ms fr h S fU iK kP fun f aJ A outer s H E hr=>zcQ (hb hr S.nd)
theorem cC(N:List gV)(h:aD K mg x st)
  (hb:∀{f:ir} {aJ:dm} {A:AY} {outer:List Bb} {s:kb} {H:Hp} {E:XK},bp k (A.deeper (B3 x (bG st) s.heap.objs.size f aJ))->N.Nodup->fH K (gR (cF P w) P w K mg base N x (bG st) f aJ A outer s H E).kg (dR st) b)
  (S:iY N ps (bG st):=by exact⟨rfl,rfl,rfl,by decide +kernel,rfl,by decide +kernel,by decide +kernel⟩)(iK:ps.length<=N.length:=by decide)
  (kP:∀(kV doc pm:dm) (an:Option ir) (aJ ct:dm) (us:List dm),us.length=ps.length->D9 (Cm x x (jb st) (dR st) (bG st) .none kV doc pm an aJ ct) ⟨us,[]⟩=pure (ps.zip us):=by
   first
    | exact fun _ _ _ _ _ _=>uI fun _=>rfl
    | exact fun _ _ _ _ _ _=>uJ fun _ _=>rfl
    | exact fun _ _ _ _ _ _=>uK fun _ _ _=>rfl
    | exact fun _ _ _ _ _ _=>yc fun _ _ _ _=>rfl
    | exact fun _ _ _ _ _ _=>el5 fun _ _ _ _ _=>rfl):Callee P w K mg base x (k+1) ps (jW K ps.length fr (aN fr ps.length N.length b)) :=
 Callee.pure (rE (AB ps.length false) N h hb S (by simp) iK kP)
end
section
variable {K:ox}{a c e:Aq}{f g1 g2:EF}{p:Az}{j:Nat}
theorem a1(ha:PV K X a f)(hs:Au [a] X.env=(false,Ay a X.env)::Au [] X.env:=by exact FL.se rfl):dG K X [a] (aa f af):=sH ha qk hs
theorem a2(ha:PV K X a f)(hb:PV K X b h)(hs:Au [a,b] X.env=(false,Ay a X.env)::Au [b] X.env:=by exact FL.se rfl)(dh:Au [b] X.env=(false,Ay b X.env)::Au [] X.env:=by exact FL.se rfl):dG K X [a,b] (aa f (aa h af)):=sH ha (a1 hb dh) hs
theorem a3(ha:PV K X a f)(hb:PV K X b h)(hc:PV K X c g1)(hs:Au [a,b,c] X.env=(false,Ay a X.env)::Au [b,c] X.env:=by exact FL.se rfl)(dh:Au [b,c] X.env=(false,Ay b X.env)::Au [c] X.env:=by exact FL.se rfl)(hs3:Au [c] X.env=(false,Ay c X.env)::Au [] X.env:=by exact FL.se rfl):dG K X [a,b,c] (aa f (aa h (aa g1 af))):=sH ha (a2 hb hc dh hs3) hs
variable {y:gV}
theorem bt(cc:Callee X.prog X.w X.K X.mg X.base x k ps (jW X.K n false G))(hr:bp j X.A)(ha:dG K X (e::es) fa)(hl:mh fa n:=by repeat (first|exact w9|refine w8 ?_))(hg:Gl X x:=by rfl)(hj:k<=j:=by decide)(bE:(x==("__debug__":gV))=false:=by decide)
  (he:Au (e::es) X.env=(false,Ay e X.env)::Au es X.env:=by exact FL.se rfl) (aY:(A0 pos (Au es X.env)).any (·.1)=false:=by exact FL.sp rfl):PV K X (.Call (.Name x p) (e::es) [] pos) (au G fa):=zqH cc hr hg qf ha hl hj bE he aY
theorem vT(cc:Callee X.prog X.w X.K X.mg X.base x k ps (jW X.K n true G))(hr:bp j X.A)(ha:dG K X (e::es) fa)(hl:mh fa n:=by repeat (first|exact w9|refine w8 ?_))(hg:Gl X x:=by rfl)(hj:k<=j:=by decide)(bE:(x==("__debug__":gV))=false:=by decide)
  (he:Au (e::es) X.env=(false,Ay e X.env)::Au es X.env:=by exact FL.se rfl) (aY:(A0 pos (Au es X.env)).any (·.1)=false:=by exact FL.sp rfl):bY K X (.Call (.Name x p) (e::es) [] pos) (au G fa):=zq3 cc hr hg qf ha hl hj bE he aY
theorem jT(cc:Callee X.prog X.w X.K X.mg X.base x k ps (lz X.K (i5 ar) false F))(hr:bp j X.A)(ha:jG K X (e::es) ar)(ho:qR F (i5 ar).length:=by exact zgQ)(nd:(mD ar).Nodup:=by decide)(ct:mE ar<=1:=by decide)(hg:Gl X x:=by rfl)(hj:k<=j:=by decide)(bE:(x==("__debug__":gV))=false:=by decide)
  (he:Au (e::es) X.env=(false,Ay e X.env)::Au es X.env:=by exact FL.se rfl) (aY:(A0 pos (Au es X.env)).any (·.1)=false:=by exact FL.sp rfl):PV K X (.Call (.Name x p) (e::es) [] pos) (bA F ar):=zqI cc ho nd ct hr hg qf ha hj bE he aY
theorem zcO(cc:Callee X.prog X.w X.K X.mg X.base x k ps (lz X.K (i5 ar) true F))(hr:bp j X.A)(ha:jG K X (e::es) ar)(ho:qR F (i5 ar).length:=by exact zgQ)(nd:(mD ar).Nodup:=by decide)(ct:mE ar<=1:=by decide)(hg:Gl X x:=by rfl)(hj:k<=j:=by decide)(bE:(x==("__debug__":gV))=false:=by decide)
  (he:Au (e::es) X.env=(false,Ay e X.env)::Au es X.env:=by exact FL.se rfl) (aY:(A0 pos (Au es X.env)).any (·.1)=false:=by exact FL.sp rfl):bY K X (.Call (.Name x p) (e::es) [] pos) (bA F ar):=zq4 cc ho nd ct hr hg qf ha hj bE he aY
theorem gM(i:Nat)(h:jG K X es ar)(ha:PE X (.Name y py) (dY i):=by exact pv _)(hs:Au (.Name y py::es) X.env=(false,Ay (.Name y py) X.env)::Au es X.env:=by exact FL.se rfl):jG K X (.Name y py::es) (.m i::ar):=zqW i ha h hs
theorem jv{id:String}(hc:fP X (.builtin id) g)(hm:X.mg x=none)(hv:Bs x=some (.builtin id))(ha:PV K X e f)(hg:Gl X x:=by rfl)(hn:x ≠ "__name__":=by decide) (bE:(x==("__debug__":gV))=false:=by decide)
  (he:Au [e] X.env=(false,Ay e X.env)::Au [] X.env:=by exact FL.se rfl) (aY:(A0 pos (Au [] X.env)).any (·.1)=false:=by exact FL.sp rfl):PV K X (.Call (.Name x p) [e] [] pos) (e1 g f):=sG (vP (fP.ds hc) hg hm hv (a1 ha he) hn bE he aY)
theorem jw{T:String}(hc:fP X (.type T) g)(hm:X.mg x=none)(hv:Bs x=some (.type T))(ha:PV K X e f)(hg:Gl X x:=by rfl)(hn:x ≠ "__name__":=by decide) (bE:(x==("__debug__":gV))=false:=by decide)
  (he:Au [e] X.env=(false,Ay e X.env)::Au [] X.env:=by exact FL.se rfl) (aY:(A0 pos (Au [] X.env)).any (·.1)=false:=by exact FL.sp rfl):PV K X (.Call (.Name x p) [e] [] pos) (e1 g f):=sG (zqJ (fP.ds hc) hg hm hv (a1 ha he) hn bE he aY)
theorem zqS{id:String}(i:Nat)(hc:fP X (.builtin id) g)(hm:X.mg x=none)(hv:Bs x=some (.builtin id))(hg:Gl X x:=by rfl)(ha:PE X (.Name y py) (dY i):=by exact pv _)(hn:x ≠ "__name__":=by decide) (bE:(x==("__debug__":gV))=false:=by decide):PV K X (.Call (.Name x p) [.Name y py] [] pos) (m1 g i):=zqP i hc hg hm hv ha hn bE
theorem zqT{T:String}(i:Nat)(hc:fP X (.type T) g)(hm:X.mg x=none)(hv:Bs x=some (.type T))(hg:Gl X x:=by rfl)(ha:PE X (.Name y py) (dY i):=by exact pv _)(hn:x ≠ "__name__":=by decide) (bE:(x==("__debug__":gV))=false:=by decide):PV K X (.Call (.Name x p) [.Name y py] [] pos) (m1 g i):=zqQ i hc hg hm hv ha hn bE
theorem sF{T:String}(kt:oV T)(hm:X.mg "isinstance"=none) (hU:X.mg tn=none) (hv2:Bs tn=some (.type T)) (ha:PV K X a f) (hg:Gl X "isinstance":=by rfl) (hg2:Gl X tn:=by rfl) (hn:tn ≠ "__name__":=by decide) (hd:(tn==("__debug__":gV))=false:=by decide)
  (rM:Au [a,.Name tn p2] X.env=(false,Ay a X.env)::Au [.Name tn p2] X.env:=by exact FL.se rfl) (dh:Au [.Name tn p2] X.env=(false,Ay (.Name tn p2) X.env)::Au [] X.env:=by exact FL.se rfl) (aY:(A0 pos (Au [.Name tn p2] X.env)).any (·.1)=false:=by exact FL.sp rfl) :
  PV K X (.Call (.Name "isinstance" p) [a,.Name tn p2] [] pos) (e1 (hW T) f):=zqO kt hg hm hg2 hU hv2 ha hn hd rM dh aY
theorem lu(hr:bp j X.A):aV X (A3 .Eq) (rD X.K du):=zoV hr.units
theorem jy(hr:bp j X.A):aV X (A3 .NotEq) (rD X.K cg):=zo0 hr.units
theorem m9(hr:bp j X.A):aV X (A3 .Lt) (rD X.K eX):=zoZ hr.units
theorem qo(hr:bp j X.A):aV X (A3 .LtE) (rD X.K fg):=zoY hr.units
theorem zcX(hr:bp j X.A):aV X (A3 .GtE) (rD X.K kO):=zoW hr.units
theorem zhx(hr:bp j X.A):aV X (A3 .In) (rD X.K inD):=zpc (tf hr)
theorem sN(hr:bp j X.A):kE X (rD X.K fC):=zmG (tf hr)
variable {g:D->D->R D}
theorem vQ(ho:aV X (A3 op) (rD X.K g))(ha:PV K X a f)(hb:PV K X b h)(hm:Dz op b=false:=by first|exact zct _|rfl):PV K X (.Compare a [op] [b] pos) (e2 g f h):=zqL ho ha hb hm
theorem bO(ho:aV X (A3 op) (rD X.K g))(ha:PV K X a f)(hb:PV K X b h)(hm:Dz op b=false:=by first|exact zct _|rfl):fA K X (.Compare a [op] [b] pos) (tB (e2 g f h)):=zrl ho ha hb hm
theorem zhr(i:Nat)(ho:aV X (A3 op) (rD X.K g))(hb:PV K X a f)(ha:PE X (.Name y py) (dY i):=by exact pv _)(hm:Dz op (.Name y py)=false:=by first|exact zct _|rfl):fA K X (.Compare a [op] [.Name y py] pos) (tB (fj g f i)):=zrm i ho hb ha hm
theorem oA(i:Nat)(ho:kE X (rD X.K g))(hb:PV K X b h)(ha:PE X (.Name y py) (dY i):=by exact pv _)(hs:wV b:=by exact fun _ _=>rfl):PV K X (.Subscript (.Name y py) b pos) (m2 g i h):=zqR i ho ha hb hs
theorem bD(he:PV K X e f):fH K X [.Return (some e) pos] (ax f):=bX (zhp he)
theorem cM(i:Nat)(hN:X.N.Nodup)(he:PV K X e f)(hi:X.N[i]?=some x:=by rfl)(hx:Loc X.env.scope x:=by first|exact DV rfl|exact Dm rfl)(hs:BR e (some (.Name x py)) pos.line X.env=pure false:=by rfl)(hf:X.fn x=true\/X.env.scope.names.lookup x=some .local:=by first|exact .inl rfl|exact .inr rfl|assumption):cI K X (.Assign [.Name x py] e pos) (ay (gN i) f):=zrk hN hi hx he hs hf
theorem kn(i:Nat)(hN:X.N.Nodup)(he:bY K X e f)(hi:X.N[i]?=some x:=by rfl)(hx:Loc X.env.scope x:=by first|exact DV rfl|exact Dm rfl)(hs:BR e (some (.Name x py)) pos.line X.env=pure false:=by rfl)(hf:X.fn x=true\/X.env.scope.names.lookup x=some .local:=by first|exact .inl rfl|exact .inr rfl|assumption):cI K X (.Assign [.Name x py] e pos) (bH i f):=zrh hN hi hx he hs hf
theorem aX(i:Nat)(hN:X.N.Nodup)(hi:X.N[i]?=some x:=by rfl)(hx:Loc X.env.scope x:=by first|exact DV rfl|exact Dm rfl)(hf:X.fn x=true\/X.env.scope.names.lookup x=some .local:=by first|exact .inl rfl|exact .inr rfl|assumption):jH K X [i] (.Name x pos) (gN i):=zqX hN hi hx hf
theorem sL(i j:Nat){kt k2:Nat}{px pt lh:Az}(nd:X.N.Nodup)(ha:PV K X a f)(hb:PV K X b h)(hc:X.calm=true:=by rfl)(hi:X.N[i]?=some x:=by rfl)(hj:X.N[j]?=some y:=by rfl)(ij:i≠j:=by decide)(l1:X.env.scope.names.lookup x=some .local:=by rfl)(l2:X.env.scope.names.lookup y=some .local:=by rfl)
  (sw:EZ [.Tuple [.Name x px,.Name y py] kt pt] (.Tuple [a,b] k2 lh) X.env=pure (some [x,y]):=by rfl)(s1:EY [.Tuple [.Name x px,.Name y py] kt pt] (.Tuple [a,b] k2 lh) pos.line X.env=pure false:=by rfl)(s2:Au [a,b] X.env=(false,Ay a X.env)::Au [b] X.env:=by exact FL.se rfl)(s3:Au [b] X.env=(false,Ay b X.env)::Au [] X.env:=by exact FL.se rfl) :
  cI K X (.Assign [.Tuple [.Name x px,.Name y py] kt pt] (.Tuple [a,b] k2 lh) pos) (cu i j f h):=zrj hc nd hi hj ij l1 l2 ha hb sw s1 s2 s3
theorem iR(hi:gz K X tg e it)(hg:jH K X dom tg gg)(hb:fH K X body bb)(hp:Fv (Ax X.prog X.w) X.A X.env X.xe:=by exact HN)(hc:X.calm=true:=by rfl)(hs:∀ v,Dg e X.env v=pure v:=by intro _;rfl):cI K X (.For tg e body [] pos) (bM it gg bb):=zrd hp hc hi hg hb hs
variable {elt iter ke ve:Aq}{kf vf:EF}
theorem cp(L:List gV)(ix:List Nat)(M:List gV)(hi:gz K X tg iter it)(hg:∀{C:ir} {s₃:kb} {H₃:Hp} {fp:List ir},M.Nodup->jH K (dE X M scope C s₃ H₃ fp) dom tg gg)(ht:∀{C:ir} {s₃:kb} {H₃:Hp} {fp:List ir},nF K (dE X M scope C s₃ H₃ fp) ifs t)(he:∀{C:ir} {s₃:kb} {H₃:Hp} {fp:List ir},PV K (dE X M scope C s₃ H₃ fp) elt f)
  (hc:X.calm=true:=by rfl)(hk:scope.kind=.function:=by rfl)(ho:nK X.env.scope scope X.N ix=true:=by kernel_rfl)(hM:M=L++ix.map (fun i=>X.N.getD i ""):=by rfl) (nd:ix.Nodup:=by decide) (hMn:M.Nodup:=by decide +kernel) (hd:(dom.all fun i=>decide (i<L.length))=true:=by decide) (hs:∀ v,Dg iter X.env v=pure v:=by intro _;rfl) :
  bY K X (.ListComp elt [⟨tg,iter,ifs,0⟩] scope pos) (dJ L.length ix it gg t f):=zq5 L ix M hc hk ho hM nd hi (fun _ _ _ _=>hg hMn) hd (fun _ _ _ _=>ht) (fun _ _ _ _=>he) hs
theorem cpS(i0:Nat)(L:List gV)(ix:List Nat)(M:List gV)(hN:X.N.Nodup)(hi:gz K X tg iter it)(hg:∀{C:ir} {s₃:kb} {H₃:Hp} {fp:List ir},M.Nodup->jH K (dE X M scope C s₃ H₃ fp) dom tg gg)(ht:∀{C:ir} {s₃:kb} {H₃:Hp} {fp:List ir},nF K (dE X M scope C s₃ H₃ fp) ifs t)(he:∀{C:ir} {s₃:kb} {H₃:Hp} {fp:List ir},PV K (dE X M scope C s₃ H₃ fp) elt f)
  (h0:X.N[i0]?=some x:=by rfl)(hl:X.env.scope.names.lookup x=some .local:=by rfl)(pU:BR (.ListComp elt [⟨tg,iter,ifs,0⟩] scope pos) (some (.Name x py)) p.line X.env=pure true:=by rfl)(hc:X.calm=true:=by rfl)(hk:scope.kind=.function:=by rfl)(ho:nK X.env.scope scope X.N ix=true:=by kernel_rfl)(hM:M=L++ix.map (fun i=>X.N.getD i ""):=by rfl) (nd:ix.Nodup:=by decide) (hMn:M.Nodup:=by decide +kernel) (hd:(dom.all fun i=>decide (i<L.length))=true:=by decide) (hs:∀ v,Dg iter X.env v=pure v:=by intro _;rfl) :
  cI K X (.Assign [.Name x py] (.ListComp elt [⟨tg,iter,ifs,0⟩] scope pos) p) (bH i0 (dJ L.length ix it gg t f)):=zri i0 L ix M hN h0 hl pU hc hk ho hM nd hi (fun _ _ _ _=>hg hMn) hd (fun _ _ _ _=>ht) (fun _ _ _ _=>he) hs
end
abbrev CT(x:gV)(k:Nat)(ps:List gV)(n:Nat)(fr:Bool)(G:List D->R D)(P:AO)(w:AJ)(K:ox)(mg:gV->Option dm)(base:AD):Prop:=Callee P w K mg base x k ps (jW K n fr G)
abbrev tK(x:gV)(k:Nat)(ps:List gV)(ms:List Bool)(fr:Bool)(F:List D->R (D×List D))(P:AO)(w:AJ)(K:ox)(mg:gV->Option dm)(base:AD):Prop:=Callee P w K mg base x k ps (lz K ms fr F)
end
end FL
namespace FL
open PySem
def zbY(a:List D)(k d:D):R (List D):=match k with
 | .int j=>aF (decide (0<=j)&&leB j.toNat a.length&&leB (a.length+1) lim) (.ok (a.take j.toNat++d::a.drop j.toNat))
 | _=>.bad
def yA(i:Nat)(k f:EF):SF:=fun ρ=>(bP ρ i).bind fun _=>(k ρ).bind fun y=>(f y.2).bind fun x=>(bP x.2 i).bind fun c=>(zbY c y.1 x.1).bind fun c'=>.ok (.nx,bW x.2 i (.list c'))
noncomputable def ui(ds:List D):AF:=fun ρ=>.ok (ds,ρ)
end FL
namespace L2
open PySem PySem.Spec
variable {X:Cx}
def zrw:V->List V->Hp->VK->Prop:=fun x vs H Q=>∃ l xs i y,x=.ref l/\vs=[.int i,y]/\H l=some (.lst xs)/\xs.length<AK/\0<=i/\i.toNat<=xs.length/\Q .non (upd H l (.lst (xs.take i.toNat++y::xs.drop i.toNat)))
theorem zox:MtM X "list.insert" zrw:=by
 intro pins s σ H x vs v us Q I rx rv h
 obtain⟨l,xs,i,y,rfl,rfl,hH,hz,i0,i1,q⟩:=h
 cases rx
 obtain⟨a,b,rfl,ra,rb⟩:∃ a b,us=[a,b]/\RelV (.int i) a/\RelV y b:=by
  cases rv with
  | cons h t=>cases t with
   | cons h2 t2=>cases t2;exact⟨_,_,rfl,h,h2⟩
 obtain⟨t,rfl⟩:=ra
 obtain⟨z,its,n,r,hl,e⟩:=I.zch hH
 have hlen:its.length=xs.length:=r.length.symm
 have sl:AK<2^63:=by decide
 refine DH F.slot_list_insert ⟨_,e,rfl⟩ F.entry_list_insert (F.args_list_insert_3 _ _ _) (PySem.AutoListH.list_insert_list_int_val_1 l its.toArray n i t b (by unfold Iy;simp;lia) (by rw [Bk];lia)) ⟨e,?_⟩
 refine⟨.non,_,I.zgr (iL:=its.take i.toNat++b::its.drop i.toNat) hH e ?_ ((r.take _).append (.cons rb (r.drop _))) ?_,rfl,q⟩
 ·show((its.toArray.extract 0 (if i<0 then(i+((its.toArray.size:Nat):Int)).toNat else min i.toNat its.toArray.size)).push b++its.toArray.extract (if i<0 then(i+((its.toArray.size:Nat):Int)).toNat else min i.toNat its.toArray.size))=_
  rw [if_neg (by lia),Bk,Nat.min_eq_left (by lia)]
  apply HP.mp
  simp [List.extract]
  rw [HQ (by rw [Hf];lia)]
 ·simp;lia
end L2
namespace FL
open PySem L2 PySem.Spec
open PyProof.Rows hiding St
variable {apos pos py:Az}{e:Aq}{f:EF}{X:Cx}
section
variable [Cs]
section
variable {K:ox}{ke:Aq}{k:EF}
theorem zre{y name:gV}{cP:Az}(i:Nat)(hnm:name="insert") (ha:PE X (.Name y py) (dY i)) (hk:PV K X ke k) (he:PV K X e f)
  (pH:DA (.Name y py) name X.env (Ay (.Name y py) X.env)=Ay (.Name y py) X.env:=by rfl)
  (pJ:((A0 cP (Au [ke,e] X.env)).all (fun x=>!x.1)&&(DN cP (DQ [] X.env)).all (fun x=>x.1.isSome)&&decide ([ke,e].length+([]:List Ed).length+(if([]:List Ed).isEmpty then 0 else 1)<30))=true:=by rfl)
  (pK:(apos.endLine==cP.line)=true:=by rfl) (cK:Au [ke,e] X.env=(false,Ay ke X.env)::Au [e] X.env:=by exact FL.se rfl) (zml:Au [e] X.env=(false,Ay e X.env)::Au [] X.env:=by exact FL.se rfl) (pR:(A0 cP (Au [e] X.env)).any (·.1)=false:=by exact FL.sp rfl)
  (hs:BR (.Call (.Attribute (.Name y py) name apos) [ke,e] [] cP) none pos.line X.env=pure false:=by rfl):cI K X (.Expr (.Call (.Attribute (.Name y py) name apos) [ke,e] [] cP) pos) (yA i k f):=.mk fun hK C=>by
 subst hK
 subst hnm
 refine(zcI (zcA IY PySem.F.slot_list_insert PySem.F.type_list_insert zox ha (ik (hk rfl) (ik (he rfl) kl zml) cK) pH pJ pK cK pR) hs).weak fun Dn σ H=>?_
 rintro⟨ρ,rel,g⟩
 obtain⟨d,ed,g1⟩:=g.bJ
 obtain⟨a,zY,bz,h0,_⟩:=rel.rel.yK ed
 refine⟨.ref a,bz.2,.inl ⟨rfl,zY,bB.of h0⟩,jj rel g1 fun dk ρ1 vk H1 ak aK fzk g2=>jj ak g2 fun dx ρ2 v H2 bS bT fz g3=>?_⟩
 obtain⟨c,ec,g4⟩:=g3.bJ
 obtain⟨c',kK,g5⟩:=g4.bJ
 obtain⟨vs,at2,h1,h2⟩:=bS.rel.zcg ec bz
 cases dk with
 | int j =>
  simp only [Fz] at fzk
  subst fzk
  obtain⟨cc,kK⟩:=c7 kK
  cases kK
  simp only [BJ,decide_eq_true_eq] at cc
  obtain⟨⟨j0,j1⟩,j2⟩:=cc
  have j1:=fi j1
  have j2:=fi j2
  have l0:=ig
  have lv:=h2.len
  refine⟨a,vs,j,v,rfl,rfl,h1,by lia,j0,by lia,yp (d:=.list (c.take j.toNat++dx::c.drop j.toNat)) bS at2 ⟨_,cN,((h2.take _).app ?_).mono (zby bS at2)⟩ g5⟩
  simp only [aj]
  exact⟨v,_,rfl,fz,h2.drop _⟩
 | _=>exact nomatch (show(R.bad:R (List D))=.ok c' from kK)
end
end
section
variable [Cs]
theorem cO.none{K:ox}{ρ ρ':En}{σ:L2.St}{H H':Hp}{a:ir}(s:cO ρ ρ' σ H H')(r:Rel K ρ' σ H')(h:H' a=none):H a=none:=by
 cases e:H a with
 | none=>rfl
 | some o =>
  by_cases m:MA ρ σ a
  ·obtain⟨o',e',_⟩:=r.eY (s.ma.mp m)
   rw [h] at e';cases e'
  ·rw [s.kp a o e m] at h;cases h
end
variable {s:SF}{v:Option V}{tc:TF}{c:Aq}{x:gV}{i:Nat}{dom:List Nat}{σ:L2.St}
section
variable [Cs]
def oP(dom:List Nat)(σ σ':L2.St):Prop:=∀ i,i∉dom->σ'[i]?=σ[i]?
theorem oP.refl:oP dom σ σ:=fun _ _=>rfl
theorem oP.set(h:i∈dom):oP dom σ (σ.set i v):=fun j hj=>BC fun z=>hj (by subst z;exact h)
noncomputable def EFr(dom:List Nat)(σ:L2.St)(Dn:Ends):Ends:={ nx:=fun σ' H'=>oP dom σ σ'->Dn.nx σ' H',rt:=Dn.rt,bk:=fun σ' H'=>oP dom σ σ'->Dn.bk σ' H',ct:=fun σ' H'=>oP dom σ σ'->Dn.ct σ' H' }
def tSf(K:ox)(C:SC)(dom:List Nat)(f:SF):TS:=fun Dn σ H=>tS K C f (EFr dom σ Dn) σ H
def ud(K:ox)(X:Cx)(dom:List Nat)(st:AU)(f:SF):Prop:=X.K=K->∀ C,PS X st (tSf K C dom f)
def wR(K:ox)(X:Cx)(dom:List Nat)(st:List AU)(f:SF):Prop:=X.K=K->∀ C,cG X st (tSf K C dom f)
section
variable {K:ox}{st:AU}{rest:List AU}{t:SF}
theorem zqr:wR K X dom [] aL:=fun _ C=>zcJ.weak fun Dn σ H=>by
 rintro⟨ρ,rel,g⟩
 exact g σ H rel (aH.refl H) .refl
theorem zqs(h1:ud K X dom st s):wR K X dom [st] s:=fun hK C=>zcK (h1 hK C)
theorem zqp{a b:List AU}(hc:fA K X c tc)(ha:wR K X dom a s)(hb:wR K X dom b t):ud K X dom (.If c a b pos) (aG tc s t):=fun hK C=>(zhf (hc hK) (ha hK C) (hb hK C)).weak fun Dn σ H=>by
 rintro⟨ρ,rel,g⟩
 refine zbM rel g fun cb ρ1 H1 ak fz g1=>?_
 cases cb with
 | true=>exact mV ⟨ρ1,ak,g1⟩
 | false=>exact mU ⟨ρ1,ak,g1⟩
theorem zqt(i:Nat)(hN:X.N.Nodup)(he:PV K X e f)(hd:i∈dom:=by decide)(hi:X.N[i]?=some x:=by rfl)(hx:Loc X.env.scope x:=by first|exact DV rfl|exact Dm rfl)(hs:BR e (some (.Name x py)) pos.line X.env=pure false:=by rfl)(hf:X.fn x=true\/X.env.scope.names.lookup x=some .local:=by first|exact .inl rfl|exact .inr rfl|assumption) :
  ud K X dom (.Assign [.Name x py] e pos) (ay (gN i) f):=fun hK C=>(zf hN hi hx (he hK) hs hf).weak fun Dn σ H=>by
 rintro⟨ρ,rel,q⟩
 refine jj rel q fun d ρ1 v H1 ak aK fz q1=>?_
 obtain⟨ρ2,e2,q2⟩:=q1.bJ
 obtain⟨rfl,n,hl⟩:=uQ e2
 exact q2 _ H1 (ak.chg (ak.rel.set fz fun _ _ _ z=>nomatch z) (uA n hl)) (aH.refl H1) (.set hd)
end
open Classical in
noncomputable def ztJ(Z:ir->Prop)(H:Hp):Hp:=fun b=>if Z b then(match H b with|some (.frz _ u)=>some u|z=>z) else H b
end
variable {q:gV}{j k:Nat}{P:AO}{fd:Bw}{C:ir}{c:String}{fa:AF}{H H':Hp}{d:D}{px:Az}{N ns ps:List gV}{es:List Aq}{vs:List V}{w:AJ}{a:Aq}{base:AD}{mg:gV->Option dm}{b:SF}{ks:List (Option String)}{p:Bool}
section
def iI(i:Nat)(c:String)(j:Nat):EF:=fun ρ=>match ρ[i]? with
 | some (.ob c' ds)=>if c'=c then(R.of ds[j]?).bind fun d=>.ok (d,ρ) else .bad
 | _=>.bad
def gv:Option String->D->Sl
 | none,d=>.val d
 | some c,.tuple fs=>.ob c fs
 | some _,_=>.no
def zy(ks:List (Option String))(fr:Bool)(n:Nat)(b:SF)(ds:List D):R D :=
 if ds.length=ks.length then(b (CD gv ks ds++AB (n-ds.length) .no)).bind fun x=>match x.1,fr with
  | .rt d,false=>.ok d
  | .rf d,true=>.ok d
  | .nx,false=>.ok .none
  | _,_=>.bad
 else .bad
def qU(i:Nat)(c:String)(fa:AF):AF:=fun ρ=>match ρ[i]? with
 | some (.ob c' ds)=>if c'=c then(fa ρ).bind fun x=>.ok (.tuple ds::x.1,x.2) else .bad
 | _=>.bad
section
variable [Cs]{K:ox}
def kC(K:ox)(H:Hp):List (Option String)->List D->List V->Prop
 | [],[],vs=>vs=[]
 | k::ks,d::ds,vs=>∃ v r,vs=v::r/\lG K H (gv k d) (some v)/\kC K H ks ds r
 | _,_,_=>False
theorem zsc(k:Option String)(d:D)(p:Bool)(e:D):gv k d≠.ow p e:=by
 unfold gv
 split <;> exact fun z=>nomatch z
theorem kC.len:∀{ks:List (Option String)} {ds:List D} {vs:List V},kC K H ks ds vs->vs.length=ks.length/\ds.length=ks.length
 | [],[],vs,h=>by cases h;exact⟨rfl,rfl⟩
 | k::ks,d::ds,vs,h=>by
  obtain⟨v,r,rfl,s,t⟩:=h
  have:=kC.len t
  simp [this.1,this.2]
 | [],_::_,_,h=>h.elim
 | _::_,[],_,h=>h.elim
theorem kC.get:∀{ks:List (Option String)} {ds:List D} {vs:List V} {i:Nat} {x:Sl} {v:Option V},kC K H ks ds vs->(CD gv ks ds)[i]?=some x->(vs.map some)[i]?=some v->lG K H x v
 | [],[],vs,i,x,v,h,e,_=>by simp at e
 | k::ks,d::ds,vs,0,x,v,h,e1,e2=>by
  obtain⟨u,r,rfl,s,t⟩:=h
  simp at e1 e2
  subst e1;subst e2
  exact s
 | k::ks,d::ds,vs,i+1,x,v,h,e1,e2=>by
  obtain⟨u,r,rfl,s,t⟩:=h
  simp only [List.zipWith_cons_cons,zz1,AQ] at e1 e2
  exact kC.get t e1 e2
 | [],_::_,_,_,_,_,h,_,_=>h.elim
 | _::_,[],_,_,_,_,h,_,_=>h.elim
theorem zdo{ds:List D}:(CD gv ks ds)[i]?≠some (.ow p d):=fun e=>by
 rw [List.getElem?_zipWith] at e
 split at e
 ·exact zsc _ _ _ _ (BP e)
 ·cases e
theorem zce:∀{ns:List gV} {vs:List V} {j:Nat} {f:gV} {v:V},ns.Nodup->ns[j]?=some f->vs[j]?=some v->(ns.zip vs).lookup f=some v
 | n::ns,u::vs,0,f,v,_,h1,h2=>by
  simp at h1 h2
  subst h1;subst h2
  simp [A2]
 | n::ns,u::vs,j+1,f,v,hn,h1,h2=>by
  simp only [zz1] at h1 h2
  rw [C0] at hn
  have ne:(f==n)=false:=by
   simp only [beq_eq_false_iff_ne]
   exact fun z=>hn.1 (z▸Ck h1)
  rw [BI,A2,ne]
  exact zce hn.2 h1 h2
 | [],_,_,_,_,_,h,_=>by simp at h
 | _::_,[],_,_,_,_,_,h=>by simp at h
theorem zhB{ds:List D}(cst:kA H)(f:kC K H ks ds vs):Rel K (CD gv ks ds) (vs.map some) H :=
 ⟨by rw [List.length_zipWith,AW,f.len.1,f.len.2,EK],fun i x v e1 e2=>f.get e1 e2,fun i j a ⟨⟨p,d,e⟩,_⟩=>absurd e zdo,cst⟩
def spO(K:ox)(ks:List (Option String))(fr:Bool)(G:List D->R D):Sp:=fun vs H Q _=>∃ ds,kA H/\kC K H ks ds vs/\∃ d,G ds=.ok d/\∀ v H',aB H H'->(if fr=true then ∃ a,v=.ref a/\H a=none/\dn K H' a d else Fz K H' d v)->Q v H'
theorem zqN{f:gV}(ho:Cs.O c=some (C,ns))(hj:ns[j]?=some f)(hn:ns.Nodup)(hc:gw K C)(na:iZ K C f)(hv:PE X (.Name x px) (dY i))(hb:DA (.Name x px) f X.env (Ay (.Name x px) X.env)=Ay (.Name x px) X.env:=by rfl) :
  PV K X (.Attribute (.Name x px) f pos) (iI i c j):=.mk fun hK=>by
 subst hK
 refine(zgZ hv hb).weak fun σ H Q=>?_
 rintro⟨ρ,rel,g⟩
 unfold iI at g
 cases e:ρ[i]? with
 | none=>rw [e] at g;exact g.elim
 | some y =>
  rw [e] at g
  cases y with
  | ob c' ds =>
   dsimp only at g
   split at g
   ·rename_i lM
    subst lM
    obtain⟨d,ed,g⟩:=g.bV
    have hl:i<σ.length:=by rw [<- rel.len];exact(By.mp e).1
    have o:=rel.ok i _ _ e (Bo hl)
    cases es:σ[i] with
    | none=>rw [es] at o;exact o.elim
    | some v =>
     rw [es] at o
     cases v with
     | ref a =>
      obtain⟨C',c9,dx,vs,h1,h2,h3,h4⟩:=o
      rw [ho] at h1
      cases h1
      have mM:ds[j]?=some d:=by
       cases q:ds[j]? with
       | none=>rw [q] at ed;cases ed
       | some z=>rw [q] at ed;cases ed;rfl
      obtain⟨v,ev,fv⟩:=h4.get mM
      refine⟨.ref a,by rw [Bo hl,es],a,C,dx,ns.zip vs,v,rfl,h2,hc,na,?_,g.now rel v fv⟩
      exact zce hn hj ev
     | _=>exact o.elim
   ·exact g.elim
  | _=>exact g.elim
def tAO(K:ox)(ks:List (Option String))(f:AF):TA:=fun σ H Q=>∃ ρ,Rel K ρ σ H/\Good K ρ σ H (f ρ) fun ds _ H'=>∀ vs,kC K H' ks ds vs->Q vs H'
def qS(K:ox)(X:Cx)(ks:List (Option String))(es:List Aq)(f:AF):Prop:=X.K=K->PA X es (tAO K ks f)
theorem yZ:qS K X [] [] af:=fun _=>kl.weak fun σ H Q=>by
 rintro⟨ρ,rel,q⟩
 exact q.now rel [] rfl
theorem vH(ha:PV K X a f)(hr:qS K X ks es fa)(hs:Au (a::es) X.env=(false,Ay a X.env)::Au es X.env:=by exact FL.se rfl):qS K X (none::ks) (a::es) (aa f fa):=fun hK=>(ik (ha hK) (hr hK) hs).weak fun σ H Q=>by
 rintro⟨ρ,rel,q⟩
 refine dw rel q fun dx ρ1 x H1 ak aK fx q1=>?_
 obtain⟨y,ey,q2⟩:=q1.bJ
 refine⟨ρ1,ak,?_⟩
 rw [ey]
 intro H2 bS bT vs fs
 exact(q2.step bT).now bS _ ⟨x,vs,rfl,fx.mono (bT.dM ak),fs⟩
end
section
variable [Cs]{K:ox}
theorem zly{st:AU}{f:ir}(ks:List (Option String))(fr:Bool)(h:e9 K x q st f fd)(S:iY N ps (bG st))(fU:ps.length=ks.length)(iK:ps.length<=N.length)
  (hb:∀(aJ:dm) (A:AY) (outer:List Bb) (s:kb) (H:Hp) (E:XK),bp k (A.deeper (B3 q (bG st) s.heap.objs.size f aJ))->fH K (gR (cF P w) P w K mg base N q (bG st) f aJ A outer s H E) (dR st) b) :
  dj P w K mg base (cF P w) (k+1) f fd ps (spO K ks fr (zy ks fr N.length b)):=by
 refine h.yY S (fun vs H Q E ⟨ds,_,e,_⟩=>by rw [e.len.1,fU]) fun aJ A outer s H vs Q E hr hq=>?_
 obtain⟨ds,cst,fa,d,hF,q⟩:=hq
 obtain⟨hv,hd⟩:=fa.len
 have cK:L2.start N vs=vs.map some++AB (N.length-ds.length) none:=by unfold L2.start;rw [hv,hd]
 have no:∀(i:Nat) p d,(CD gv ks ds++AB (N.length-ds.length) .no)[i]?≠some (.ow p d):=fun i p d e=>by
  by_cases c:i<(CD gv ks ds).length
  ·rw [B4 c] at e
   exact zdo e
  ·rw [Dj (by lia),C1] at e
   split at e <;> cases e
 refine⟨tS K ⟨H,L2.start N vs,CD gv ks ds++AB (N.length-ds.length) .no⟩ b,hb aJ A outer s H E hr rfl _,CD gv ks ds++AB (N.length-ds.length) .no,?_,?_⟩
 ·refine⟨?_,fun a o e _=>e,fun i a d e _=>absurd e (no i false d),fun i=>Fj,fun i d e=>rfl,fun i p d e=>absurd e (no i p d)⟩
  rw [cK]
  exact(zhB cst fa).pad _
 ·unfold zy at hF
  rw [if_pos hd] at hF
  obtain⟨z,ez,ey⟩:=bZ hF
  rw [ez]
  obtain⟨fl,ρ'⟩:=z
  have kp:∀(ρ':En) (σ':L2.St) (H':Hp),bU K ⟨H,L2.start N vs,CD gv ks ds++AB (N.length-ds.length) .no⟩ ρ' σ' H'->aB H H':=fun ρ' σ' H' r b o e=>r.keep b o e fun⟨i,⟨p,d,z⟩,_⟩=>no i p d z
  cases fr with
  | false =>
   cases fl with
   | rt dr=>cases ey;exact fun v σ' H' r fz=>q v H' (kp _ _ _ r) fz
   | nx=>cases ey;exact fun σ' H' r fz=>q .non H' (kp _ _ _ r) (by show Fz K H' .none .non;simp [Fz])
   | _=>cases ey
  | true =>
   cases fl with
   | rf dr=>cases ey;exact fun a σ' H' r ha m=>q (.ref a) H' (kp _ _ _ r) ⟨a,rfl,ha,m⟩
   | _=>cases ey
end
end
variable {E:XK}{ρ:En}{G:List D->R D}{β:Type}{p:Az}{n:Nat}
section
def je(G:List D->R D)(a:AF):EF:=fun ρ=>(a ρ).bind fun x=>(G x.1).bind fun d=>match d with
 | .tuple fs=>.ok (.tuple fs,x.2)
 | _=>.bad
def v9(i:Nat)(c:String)(f:EF):SF:=fun ρ=>(f ρ).bind fun x=>match x.1 with
 | .tuple fs=>match x.2[i]? with
  | some (.ow true _)=>.bad
  | some _=>.ok (.nx,x.2.set i (.ob c fs))
  | none=>.bad
 | _=>.bad
section
variable [Cs]{K:ox}
theorem zgo:∀{ns:List gV} {vs:List V} {m:gV},m∉ns->(ns.zip vs).lookup m=none
 | [],_,m,_=>rfl
 | _::_,[],m,_=>rfl
 | n::ns,v::vs,m,h=>by
  have ne:(m==n)=false:=by
   simp only [beq_eq_false_iff_ne]
   exact fun z=>h (by rw [z];exact Bc ..)
  rw [BI,A2,ne]
  exact zgo fun z=>h (Be _ z)
theorem zl0{k:List D×En->R (β×En)}{P:β->En->Hp->Prop}(rel:Rel K ρ σ H)(g:Good K ρ σ H ((qU i c fa ρ).bind k) P) :
  ∃ a ds y,ρ[i]?=some (.ob c ds)/\σ[i]?=some (some (.ref a))/\lF K H a c ds/\fa ρ=.ok y/\Good K ρ σ H (k (.tuple ds::y.1,y.2)) P:=by
 obtain⟨x,ex,g⟩:=g.bJ
 unfold qU at ex
 cases e:ρ[i]? with
 | none=>rw [e] at ex;cases ex
 | some y =>
  rw [e] at ex
  cases y with
  | ob c' ds =>
   dsimp only at ex
   split at ex
   ·rename_i lM
    subst lM
    have hl:i<σ.length:=by rw [<- rel.len];exact(By.mp e).1
    have o:=rel.ok i _ _ e (Bo hl)
    cases es:σ[i] with
    | none=>rw [es] at o;exact o.elim
    | some v =>
     rw [es] at o
     cases v with
     | ref a =>
      obtain⟨y,ey,ex⟩:=bZ ex
      cases ex
      exact⟨a,ds,y,rfl,by rw [Bo hl,es],o,ey,g⟩
     | _=>exact o.elim
   ·cases ex
  | _=>cases ex
section
variable {m:gV}{f:ir}
def spI(K:ox)(c:String)(C:ir)(n:Nat)(G:List D->R D):Sp:=fun vs H Q _=>∃ a dx us ds fs,vs=.ref a::us/\us.length=n/\H a=some (.ins C dx [])/\kA H/\aj K H ds us/\G ds=.ok (.tuple fs) /\
 ∀ H',(∀ b o,b≠a->H b=some o->H' b=some o)->lF K H' a c fs->Q .non H'
def tOb(K:ox)(c:String)(f:EF):TE:=fun σ H Q=>∃ ρ,Rel K ρ σ H/\Good K ρ σ H (f ρ) fun d _ H'=>∀ a fs,d=.tuple fs->lF K H' a c fs->Q (.ref a) H'
def mB(K:ox)(X:Cx)(c:String)(e:Aq)(f:EF):Prop:=X.K=K->PE X e (tOb K c f)
theorem zra(M:Mk X.K C f)(F:dj X.prog X.w X.K X.mg X.base (cF X.prog X.w) k f fd ps (spI X.K c C n G))(hr:bp (k+1) X.A)(hg:Gl X x)(hm:X.mg x=some (.ref C))(hb:Binds X.K fd ps [])(hx:Passes (cF X.prog X.w) X E)(ha:dG K X (e::es) fa)(hl:mh fa n:=by repeat (first|exact w9|refine w8 ?_))
  (bE:(x==("__debug__":gV))=false:=by decide) (he:Au (e::es) X.env=(false,Ay e X.env)::Au es X.env:=by exact FL.se rfl) (aY:(A0 pos (Au es X.env)).any (·.1)=false:=by exact FL.sp rfl) :
  mB K X c (.Call (.Name x p) (e::es) [] pos) (je G fa):=fun hK=>by
 subst hK
 refine(zpH M F hr hg hm hb .nil hx (ha rfl) bE he aY).weak fun σ H Q=>?_
 rintro⟨ρ,rel,q⟩
 obtain⟨y,ey,q0⟩:=q.bJ
 have hy:=hl ρ y ey
 refine⟨ρ,rel,?_⟩
 rw [ey]
 intro H1 ak aK vs fs a dx na ndx ne
 obtain⟨d,ed,q2⟩:=(q0.step aK).bV
 cases d with
 | tuple fds =>
  have s1:aB H1 (upd (upd H1 dx (.own a)) a (.ins C dx [])):=(aB.upd ndx).trans (aB.upd (by rw [bh (Cd ne)];exact na))
  rw [DB]
  refine⟨a,dx,vs,y.1,fds,rfl,by rw [fs.len,hy],cN,ak.cst.mono (aH.of s1),fs.mono (aH.of s1),ed,fun H' kp ob=>⟨rfl,?_⟩⟩
  have s2:aB H1 H':=fun b o eb=>kp b o (fun z=>by subst z;rw [na] at eb;cases eb) (s1 b o eb)
  exact q2.new ak s2 a fds rfl ob
 | _=>exact q2.elim
end
theorem zrf{pos':Az}(hN:X.N.Nodup)(hi:X.N[i]?=some x)(hx:Loc X.env.scope x)(he:mB K X c e f)(hs:BR e (some (.Name x pos')) pos.line X.env=pure false:=by rfl)(hf:X.fn x=true\/X.env.scope.names.lookup x=some .local:=by first|exact .inl rfl|exact .inr rfl|assumption) :
  cI K X (.Assign [.Name x pos'] e pos) (v9 i c f):=.mk fun hK C=>(zf hN hi hx (he hK) hs hf).weak fun Dn σ H=>by
 rintro⟨ρ,rel,q⟩
 obtain⟨y,ey,q0⟩:=q.bJ
 refine⟨ρ,rel.rel,?_⟩
 rw [ey]
 intro H1 r1 aK a fs uH ob
 have ak:=rel.step r1 aK
 obtain⟨d,ρ1⟩:=y
 cases uH
 have q1:=q0.step (aK.dM rel.rel)
 replace q1:eQ K C H1 (match ρ1[i]? with|some (.ow true _)=>.bad|some _=>.ok (.nx,ρ1.set i (.ob c fs))|none=>.bad) Dn:=q1
 have fin:(∀ e,ρ1[i]?≠some (.ow true e))->i<ρ1.length->bU K C (ρ1.set i (.ob c fs)) (σ.set i (some (.ref a))) H1:=fun np hl=>by
  have hls:i<σ.length:=by rw [<- ak.rel.len];exact hl
  refine⟨ak.rel.set (show lG K H1 (.ob c fs) (some (.ref a)) from ob) fun _ _ _ z=>(nomatch z),ak.keep,fun j b c' e1 e2=>?_,fun j=>?_,fun j c' e1=>?_,ak.m8⟩
  ·by_cases k:i=j
   ·subst k
    rw [BA hl] at e1
    cases e1
   ·rw [BC k] at e1 e2
    exact ak.own j b c' e1 e2
  ·by_cases k:i=j
   ·subst k
    rw [BA hl,<- ak.pin i]
    constructor
    ·rintro⟨_,z⟩;cases z
    ·rintro⟨c',z⟩;exact absurd z (np c')
   ·rw [BC k];exact ak.pin j
  ·by_cases k:i=j
   ·subst k
    rw [BA hl] at e1;cases e1
   ·rw [BC k] at e1 ⊢
    exact ak.fix j c' e1
 cases e1:ρ1[i]? with
 | none=>rw [e1] at q1;exact q1.elim
 | some y =>
  have hl:i<ρ1.length:=(By.mp e1).1
  rw [e1] at q1
  cases y with
  | no=>exact q1 _ H1 (fin (fun e z=>by rw [e1] at z;cases z) hl) (aH.refl H1)
  | val c=>exact q1 _ H1 (fin (fun e z=>by rw [e1] at z;cases z) hl) (aH.refl H1)
  | ob c ds=>exact q1 _ H1 (fin (fun e z=>by rw [e1] at z;cases z) hl) (aH.refl H1)
  | ow p c =>
   cases p with
   | true=>exact q1.elim
   | false=>exact q1 _ H1 (fin (fun e z=>by rw [e1] at z;cases z) hl) (aH.refl H1)
end
end
variable {Ca:ir}{g:AF}{C:SC}{sts:List AU}
section
noncomputable def Tf:HO->Prop
 | .tup _=>True
 | .frz _ _=>True
 | _=>False
def qQ(H H':Hp):Prop:=∀ a o,H a=some o->Tf o->H' a=some o
section
variable {K:ox}
mutual
theorem Fz.jt(e:qQ H H'):∀(d:A4) (v:V),Fz K H d v->Fz K H' d v
 | .none,v,h=>by simp only [Fz] at h ⊢;exact h
 | .bool b,v,h=>by simp only [Fz] at h ⊢;exact h
 | .int i,v,h=>by simp only [Fz] at h ⊢;exact h
 | .str x,v,h=>by simp only [Fz] at h ⊢;exact h
 | .list xs,v,h=>by
  simp only [Fz] at h ⊢
  obtain⟨a,vs,e1,h1,h2⟩:=h
  refine⟨a,vs,e1,?_,aj.jt e xs vs h2⟩
  rcases h1 with⟨o,h1⟩|h1
  ·exact .inl ⟨o,e _ _ h1 trivial⟩
  ·exact .inr h1
 | .tuple xs,v,h=>by
  simp only [Fz] at h ⊢
  obtain⟨a,vs,e1,h1,h2⟩:=h
  refine⟨a,vs,e1,?_,aj.jt e xs vs h2⟩
  rcases h1 with h1|⟨o,h1⟩
  ·exact .inl (e _ _ h1 trivial)
  ·exact .inr ⟨o,e _ _ h1 trivial⟩
 | .dict ag,v,h=>by
  simp only [Fz] at h ⊢
  obtain⟨a,o,e1,h⟩:=h
  obtain⟨kk,h1,h2⟩:=h
  exact⟨a,o,e1,⟨kk,e _ _ h1 trivial,bx.jt e ag kk h2⟩⟩
theorem aj.jt(e:qQ H H'):∀(ds:List A4) (vs:List V),aj K H ds vs->aj K H' ds vs
 | [],vs,h=>by simp only [aj] at h ⊢;exact h
 | d::ds,vs,h=>by
  simp only [aj] at h ⊢
  obtain⟨v,r,e1,h1,h2⟩:=h
  exact⟨v,r,e1,Fz.jt e d v h1,aj.jt e ds r h2⟩
theorem bx.jt(e:qQ H H'):∀(ag:List (A4×A4)) (kk:List (List Key×V)),bx K H ag kk->bx K H' ag kk
 | [],kk,h=>by simp only [bx] at h ⊢;exact h
 | (k,d)::r,kk,h=>by
  simp only [bx] at h ⊢
  obtain⟨q,v,t,e1,e2,h1,h2⟩:=h
  exact⟨q,v,t,e1,e2,Fz.jt e d v h1,bx.jt e r t h2⟩
end
end
section
variable [Cs]{K:ox}{ρ':En}
theorem zlI{a dx:ir}{fs pD:List (gV×V)}(h:H a=some (.ins Ca dx fs)):qQ H (upd H a (.ins Ca dx pD)):=fun b o e t=>by
 rw [bh fun z=>by subst z;rw [h] at e;cases e;exact t]
 exact e
def Part(Ca:ir)(n:Nat):Prop:=∀ c ns,Cs.O c=some (Ca,ns)->n<ns.length
theorem Rel.ins{a Ca dx:ir}{fs pD:List (gV×V)}(r:Rel K ρ σ H)(h:H a=some (.ins Ca dx fs))(np:Part Ca fs.length):Rel K ρ σ (upd H a (.ins Ca dx pD)):=by
 have fw:qQ H (upd H a (.ins Ca dx pD)):=zlI h
 refine⟨r.len,fun i x v e1 e2=>?_,r.sep,fun b u e=>?_⟩
 ·have o:=r.ok i x v e1 e2
  cases x with
  | no=>trivial
  | val d=>cases v with
   | none=>exact o.elim
   | some v=>exact Fz.jt fw d v o
  | ow p d=>cases v with
   | none=>exact o.elim
   | some v=>cases v with
    | ref b =>
     have ne:b≠a:=fun z=>by
      obtain⟨u,hu,ow⟩:=dn.own o
      subst z
      rw [h] at hu
      cases hu
      exact ow
     cases d with
     | list ds=>obtain⟨vs,h1,h2⟩:=o;exact⟨vs,by rw [bh ne];exact h1,aj.jt fw _ _ h2⟩
     | dict ag =>
      obtain⟨kk,h1,h2⟩:=o
      exact⟨kk,by rw [bh ne];exact h1,bx.jt fw _ _ h2⟩
     | _=>exact o.elim
    | _=>exact o.elim
  | ob c ds=>cases v with
   | none=>exact o.elim
   | some v=>cases v with
    | ref b =>
     obtain⟨C',ns,dx',vs,h1,h2,h3,h4⟩:=o
     have ne:b≠a:=fun z=>by
      subst z
      rw [h] at h2
      cases h2
      have:=np c ns h1
      rw [DZ,h3,EK] at this
      exact EV _ this
     exact⟨C',ns,dx',vs,h1,by rw [bh ne];exact h2,h3,aj.jt fw _ _ h4⟩
    | _=>exact o.elim
 ·obtain⟨o,xs,rfl⟩:=Cs.st b u e
  exact fw b _ (r.cst b _ e) trivial
def sT(K:ox)(Ca:ir)(i:Nat)(ns:List gV)(fa:AF):TS:=fun Dn σ H=>∃ ρ a dx fs ds ρ',Rel K ρ σ H/\σ[i]?=some (some (.ref a))/\H a=some (.ins Ca dx fs)/\(∀ n∈ns,fs.lookup n=none)/\ns.Nodup/\fs.length+ns.length<1000/\(∀ c c9,Cs.O c=some (Ca,c9)->c9.length=fs.length+ns.length)/\fa ρ=.ok (ds,ρ') /\
 ∀ σ' H' vs,aj K H' ds vs->H' a=some (.ins Ca dx (fs++ns.zip vs))->(∀ b o,b≠a->H b=some o->¬ MA ρ σ b->H' b=some o)->Dn.nx σ' H'
theorem zhj{f:gV}{v:V}:∀{fs:List (gV×V)},fs.lookup f=none->gr f v fs=fs++[(f,v)]
 | [],_=>rfl
 | (g,x)::r,h=>by
  rw [A2] at h
  have ne:(f==g)=false:=by
   cases q:f==g with
   | false=>rfl
   | true=>rw [q] at h;cases h
  rw [ne] at h
  unfold gr
  rw [if_neg fun z=>by subst z;simp at ne,zhj h]
  rfl
theorem zpR:cG X [] (sT K Ca i [] af):=zcJ.weak fun Dn σ H=>by
 rintro⟨ρ,a,dx,fs,ds,ρ',rel,hs,ha,_,_,_,_,ef,q⟩
 cases ef
 exact q σ H [] (by simp [aj]) (by simpa using ha) fun b o _ e _=>e
theorem zpQ{n self:gV}{rest:List AU}{pa:Az}(hK:X.K=K)(hc:gw K Ca)(na:iZ K Ca n)(hv:PE X (.Name self px) (dY i))(he:PV K X e f)(hr:cG X rest (sT K Ca i ns fa))(hs:BR e (some (.Attribute (.Name self px) n pa)) pos.line X.env=pure false:=by rfl) :
  cG X (.Assign [.Attribute (.Name self px) n pa] e pos::rest) (sT K Ca i (n::ns) (aa f fa)):=by
 subst hK
 refine(zg (zqi hv (he rfl) hs) hr).weak fun Dn σ H=>?_
 rintro⟨ρ,a,dx,fs,ds,ρ',rel,hsg,ha,hn,nd,hlen,hO,ef,q⟩
 obtain⟨x,ex,ef⟩:=bZ (show(f ρ).bind _=_ from ef)
 obtain⟨y,ey,ef⟩:=bZ ef
 cases ef
 obtain⟨d,ρ1⟩:=x
 refine⟨ρ,rel,?_⟩
 rw [ex]
 intro H1 ak aK v fz
 have kc:∀ b o,H b=some o->wW o->¬ MA ρ σ b:=fun b o e s m=>by
  obtain⟨u,hu,ow⟩:=rel.eY m
  rw [e] at hu
  cases hu
  exact ow.jS s
 have ha1:H1 a=some (.ins Ca dx fs):=aK.kp a _ ha (kc a _ ha trivial)
 have ln:fs.lookup n=none:=hn n (Bc ..)
 have hp:=zhj (v:=v) ln
 rw [C0] at nd
 rw [AR] at hlen
 refine⟨.ref a,hsg,a,Ca,dx,fs,rfl,ha1,hc,na,by lia,?_⟩
 rw [hp]
 have part:Part Ca fs.length:=fun c c9 e=>by
  have:=hO c c9 e
  rw [AR] at this
  lia
 refine⟨ρ1,a,dx,fs++[(n,v)],y.1,y.2,ak.ins ha1 part,hsg,cN,fun m hm=>?_,nd.2,by rw [BH];simp;lia,fun c c9 e=>?_,ey,fun σ' H' vs fv ea kp=>?_⟩
 ·have ne:(m==n)=false:=by
   simp only [beq_eq_false_iff_ne]
   exact fun z=>nd.1 (z▸hm)
  rw [List.lookup_append,hn m (Be _ hm)]
  simp [A2,ne]
 ·rw [hO c c9 e,BH];simp;lia
 ·have k1:∀ b o,b≠a->H1 b=some o->¬ MA ρ1 σ b->H' b=some o:=fun b o ne e n=>kp b o ne (by rw [bh ne];exact e) n
  have fw:qQ H1 H':=fun b o e t=>k1 b o (fun z=>by subst z;rw [ha1] at e;cases e;exact t) e fun m=>by
   obtain⟨u,hu,ow⟩:=ak.eY m
   rw [e] at hu
   cases hu
   cases o <;> first|exact ow|exact t
  refine q σ' H' (v::vs) (by simp only [aj];exact⟨v,vs,rfl,Fz.jt fw d v fz,fv⟩) ?_ fun b o ne e nm=>k1 b o ne (aK.kp b o e nm) fun m=>nm (aK.ma.mpr m)
  rw [ea,BI,C7]
  rfl
def zB(s:SF)(g:AF):AF:=fun ρ=>(s ρ).bind fun x=>match x.1 with
 | .nx=>g x.2
 | _=>.bad
noncomputable def sU(K:ox)(C:SC)(Ca:ir)(ns:List gV)(g:AF):TS:=fun Dn σ H=>∃ ρ a dx ds ρ',bU K C ρ σ H/\σ[0]?=some (some (.ref a))/\C.H₀ a=some (.ins Ca dx [])/\¬ MA C.ρ₀ C.σ₀ a/\ns.Nodup/\ns.length<1000/\(∀ c c9,Cs.O c=some (Ca,c9)->c9.length=ns.length)/\g ρ=.ok (ds,ρ') /\
 ∀ σ' H' vs,aj K H' ds vs->H' a=some (.ins Ca dx (ns.zip vs))->(∀ b o,b≠a->C.H₀ b=some o->¬ MA C.ρ₀ C.σ₀ b->H' b=some o)->Dn.nx σ' H'
theorem zqu(h:cG X sts (sT K Ca 0 ns fa)):cG X sts (sU K C Ca ns fa):=h.weak fun Dn σ H=>by
 rintro⟨ρ,a,dx,ds,ρ',rel,hs,ha,nm,nd,hl,hO,eg,q⟩
 refine⟨ρ,a,dx,[],ds,ρ',rel.rel,hs,rel.keep a _ ha nm,fun n _=>rfl,nd,by simpa using hl,fun c c9 e=>by simpa using hO c c9 e,eg,fun σ' H' vs fv ea kp=>q σ' H' vs fv (by simpa using ea) fun b o ne e n=>?_⟩
 exact kp b o ne (rel.keep b o e n) (rel.zgJ e n)
theorem zhh{st:AU}{rest:List AU}(hK:X.K=K)(h1:ud K X dom st s)(h2:cG X rest (sU K C Ca ns g))(hd:0∉dom:=by decide):cG X (st::rest) (sU K C Ca ns (zB s g)):=(zg (h1 hK C) h2).weak fun Dn σ H=>by
 rintro⟨ρ,a,dx,ds,ρ',rel,hs,ha,nm,nd,hl,hO,eg,q⟩
 obtain⟨x,ex,eg⟩:=bZ (show(s ρ).bind _=_ from eg)
 obtain⟨fl,ρ1⟩:=x
 cases fl with
 | nx =>
  refine⟨ρ,rel,?_⟩
  rw [ex]
  intro σ' H' r fz fm
  exact⟨ρ1,a,dx,ds,ρ',r,(fm 0 hd).trans hs,ha,nm,nd,hl,hO,eg,q⟩
 | _=>cases eg
end
def zx(n N m:Nat)(g:AF)(ds:List D):R D :=
 if ds.length=n then(g (.no::(ds.map Sl.val++AB (N-n-1) .no))).bind fun y=>aF (y.1.length==m) (.ok (.tuple y.1)) else .bad
section
variable [Cs]{K:ox}
theorem zlx{st:AU}{f:ir}(ho:Cs.O c=some (Ca,ns))(vh:∀ c' c9,Cs.O c'=some (Ca,c9)->c9.length=ns.length)(nd:ns.Nodup)(rK:ns.length<1000)(h:e9 K x q st f fd)(S:iY N ps (bG st))(fU:ps.length=n+1)(iK:ps.length<=N.length)
  (hb:∀(C:SC) (aJ:dm) (A:AY) (outer:List Bb) (s:kb) (H:Hp) (E:XK),bp k (A.deeper (B3 q (bG st) s.heap.objs.size f aJ))->cG (gR (cF P w) P w K mg base N q (bG st) f aJ A outer s H E) (dR st) (sU K C Ca ns g)) :
  dj P w K mg base (cF P w) (k+1) f fd ps (spI K c Ca n (zx n N.length ns.length g)):=by
 refine h.yY S (fun vs H Q E ⟨a,dx,us,ds,fs,e,hl,_⟩=>by rw [e,AR,hl,fU]) fun aJ A outer s H vs Q E hr hq=>?_
 obtain⟨a,dx,us,ds,fs,rfl,hl,ha,cst,fa,hF,q⟩:=hq
 have hd:ds.length=n:=by rw [<- fa.len,hl]
 unfold zx at hF
 rw [if_pos hd] at hF
 obtain⟨y,ey,hF⟩:=bZ hF
 have hy:y.1.length=ns.length/\y.1=fs:=by
  unfold aF at hF
  split at hF
  ·rename_i hh
   cases hF
   exact⟨beq_iff_eq.mp hh,rfl⟩
  ·cases hF
 obtain⟨hyl,rfl⟩:=hy
 obtain⟨ya,ρ'⟩:=y
 have cK:L2.start N (.ref a::us)=some (.ref a)::(us.map some++AB (N.length-n-1) none):=by
  unfold L2.start
  rw [AR,hl,AQ,Bm,show N.length-(n+1)=N.length-n-1 by lia]
 have no:∀(i:Nat) p d,(Sl.no::(ds.map Sl.val++AB (N.length-n-1) .no))[i]?≠some (.ow p d):=fun i p d e=>by
  rcases AX.mp (Ck e) with m|m
  ·cases m
  ·rcases B2.mp m with m|m
   ·obtain⟨_,_,z⟩:=A7.mp m;cases z
   ·have:=Jl m;cases this
 have kc:∀ σ b,¬ MA (Sl.no::(ds.map Sl.val++AB (N.length-n-1) .no)) σ b:=fun σ b ⟨i,⟨p,d,z⟩,_⟩=>no i p d z
 have r0:=(zhC cst fa).pad (N.length-n-1)
 refine⟨sU K ⟨H,L2.start N (.ref a::us),Sl.no::(ds.map Sl.val++AB (N.length-n-1) .no)⟩ Ca ns g,hb _ aJ A outer s H E hr,Sl.no::(ds.map Sl.val++AB (N.length-n-1) .no),a,dx,ya,ρ',?_,by rw [cK];rfl,ha,kc _ a,nd,rK,vh,ey,fun σ' H' vs fv e kp=>?_⟩
 ·refine⟨?_,fun a o e _=>e,fun i a d e _=>absurd e (no i false d),fun i=>Fj,fun i d e=>rfl,fun i p d e=>absurd e (no i p d)⟩
  rw [cK]
  refine⟨by simpa using r0.len,fun i x v e1 e2=>?_,fun i j b ⟨⟨p,d,z⟩,_⟩=>absurd z (no i p d),cst⟩
  cases i with
  | zero=>simp at e1;subst e1;trivial
  | succ i=>exact r0.ok i x v (by simpa using e1) (by simpa using e2)
 ·refine q H' (fun b o ne e=>kp b o ne e (kc _ b)) ⟨Ca,ns,dx,vs,ho,e,?_,fv⟩
  rw [fv.len]
  exact hyl
end
end
end FL
namespace L2
open PySem PySem.Spec
open PySem.Builtin.Str (strSub)
variable {X:Cx}
theorem zoB:kF X "str.startswith" (fun x vs H Q=>∃ a b,x=.str a/\vs=[.str b]/\Q (.bl (Fn a b)) H):=by
 intro pins s σ H x vs v us Q I rx rv h
 obtain⟨a,b,rfl,rfl,q⟩:=h
 obtain⟨t,rfl⟩:=rx
 obtain⟨u,rfl,ru⟩:=rv.one
 obtain⟨t2,rfl⟩:=ru
 exact PySem.SC.startswith ⟨.bl _,H,I,rfl,q⟩
theorem zih:∀(n:Nat) (xs:List gV),Vals (xs.map V.str) (strsFrom n xs)
 | _,[]=>.nil
 | n,x::r=>.cons ⟨n,rfl⟩ (zih (n+1) r)
theorem zoA:kF X "str.split" (fun x vs H Q=>∃ a b,x=.str a/\vs=[.str b]/\(b.length==0)=false/\a.length<AK/\(Du a b).length<=AK/\(HR a (C5 a b 0 a.length (a.length+1)) b.length).length<=AK/\∀ l,H l=none->Q (.ref l) (upd H l (.lst ((Du a b).map V.str)))):=by
 intro pins s σ H x vs v us Q I rx rv h
 obtain⟨a,b,rfl,rfl,hy,hz,hz2,hz3,q⟩:=h
 obtain⟨t,rfl⟩:=rx
 obtain⟨w,rfl,ru⟩:=rv.one
 obtain⟨u,rfl⟩:=ru
 have one:Du a b=[a]->EP X pins σ Q (.ref s.heap.objs.size) { s with heap:=s.heap.push { cls:=.type "list",data:=.seq [D2 a t].toArray },toks:=s.toks }:=fun e=>by
  refine⟨.ref _,_,I.yJ (t':=s.toks) (ys:=(Du a b).map V.str) (its:=[D2 a t]) ?_ (by rw [AW];exact hz2),rfl,q _ I.fresh⟩
  rw [e]
  exact .cons ⟨t,rfl⟩ .nil
 cases h1:(decide (a.length<b.length)||decide (Jm a<Jm b))
 ·cases hf:(C5 a b 0 a.length (a.length+1)).isEmpty
  ·refine DH HS (Ex _ _ _) HU (HV _ _) (meets_str_split_sep a b t u h1 hy hf (by lia) hz3) ?_
   refine⟨.ref _,_,I.yJ (ys:=(Du a b).map V.str) (its:=strsFrom s.toks _) ?_ (by rw [AW];exact hz2),rfl,q _ I.fresh⟩
   rw [show Du a b=_ from(if_neg (ne_true_of_eq_false h1)).trans (if_neg (ne_true_of_eq_false hf))]
   exact zih _ _
  ·exact DH HS (Ex _ _ _) HU (HV _ _) (meets_str_split_not_found a b t u h1 hy hf) (one ((if_neg (ne_true_of_eq_false h1)).trans (if_pos hf)))
 ·exact DH HS (Ex _ _ _) HU (HV _ _) (meets_str_split_cannot_occur a b t u h1) (one (if_pos h1))
noncomputable def qd(a b:gV):List gV:=match C5 a b 0 a.length 1 with
 | i::_=>[strSub a 0 i,b,strSub a (i+b.length) a.length]
 | []=>[a,Cu,Cu]
theorem zoz:kF X "str.partition" (fun x vs H Q=>∃ a b,x=.str a/\vs=[.str b]/\(b.length==0)=false/\a.length<=AK/\∀ l,H l=none->Q (.ref l) (upd H l (.tup ((qd a b).map V.str)))):=by
 intro pins s σ H x vs v us Q I rx rv h
 obtain⟨a,b,rfl,rfl,hy,hz,q⟩:=h
 obtain⟨t,rfl⟩:=rx
 obtain⟨w,rfl,ru⟩:=rv.one
 obtain⟨u,rfl⟩:=ru
 refine DH F.slot_str_partition (Ex _ _ _) F.entry_str_partition (F.args_str_partition_2 _ _) (meets_str_partition a b t u hy hz) ?_
 have l3:(3:Nat)<=AK:=by rw [BU];decide
 have hq:=q _ I.fresh
 unfold qd at hq
 revert hq
 cases C5 a b 0 a.length 1 with
 | nil=>exact fun hq=>⟨.ref _,_,I.laid (a:=s.heap.objs.size) (o:=.tup ([a,Cu,Cu].map V.str)) (fun _ _ e=>A5 _ e) (AI _) ⟨l3,[.str a t,.str Cu s.toks,.str Cu s.toks],.cons ⟨_,rfl⟩ (.cons ⟨_,rfl⟩ (.cons ⟨_,rfl⟩ .nil)),⟨_,Bl _ rfl,rfl,_,rfl⟩⟩,rfl,hq⟩
 | cons i r=>exact fun hq=>⟨.ref _,_,I.laid (a:=s.heap.objs.size) (o:=.tup ([strSub a 0 i,b,strSub a (i+b.length) a.length].map V.str)) (fun _ _ e=>A5 _ e) (AI _) ⟨l3,[.str (strSub a 0 i) s.toks,.str b u,.str (strSub a (i+b.length) a.length) (s.toks+1)],.cons ⟨_,rfl⟩ (.cons ⟨_,rfl⟩ (.cons ⟨_,rfl⟩ .nil)),⟨_,Bl _ rfl,rfl,_,rfl⟩⟩,rfl,hq⟩
theorem zii:∀{xs:List gV} {its:List dm},Vals (xs.map V.str) its->∃ ls:List (gV×Bf),strValues ls=its/\ls.map (·.1)=xs
 | [],_,h=>by cases h;exact⟨[],rfl,rfl⟩
 | x::xs,_,h=>by
  cases h with
  | cons h1 h2 =>
   obtain⟨t,rfl⟩:=h1
   obtain⟨ls,e1,e2⟩:=zii h2
   exact⟨(x,t)::ls,by rw [<- e1];rfl,by rw [AQ,e2]⟩
theorem zoy:kF X "str.join" (fun x vs H Q=>∃ a l xs,x=.str a/\vs=[.ref l]/\bB X.K H l (xs.map V.str)/\JoinOk a xs=true/\Q (.str (GD a xs)) H):=by
 intro pins s σ H x vs v us Q I rx rv h
 obtain⟨a,l,xs,rfl,rfl,hl,ok,q⟩:=h
 obtain⟨t,rfl⟩:=rx
 obtain⟨w,rfl,ru⟩:=rv.one
 cases ru
 obtain⟨its,r,pl,z⟩:=I.list hl
 obtain⟨ls,e1,e2⟩:∃ ls:List (gV×Bf),strValues ls=its/\ls.map (·.1)=xs:=zii r
 subst e1
 refine PySem.SC.join (l:=ls) ?_ e2 ok fun t' k=>⟨.str _,H,I.tok _,⟨_,rfl⟩,q⟩
 obtain⟨o,n,h1,h2,h3,h4⟩:=pl
 exact⟨o,h1,h2,n,h4⟩
end L2
namespace FL
open PySem L2 PySem.Spec
open PyProof.Rows hiding St
variable {g:gV->D->R D}{pos:Az}{X:Cx}{name:gV}
section
noncomputable def strOf:D->R gV
 | .str a=>.ok a
 | _=>.bad
def fF(g:gV->D->R D)(f h:EF):EF:=fun ρ=>(f ρ).bind fun x=>(strOf x.1).bind fun a=>(h x.2).bind fun y=>(g a y.1).bind fun d=>.ok (d,y.2)
noncomputable def zI(a:gV):D->R D
 | .str b=>.ok (.bool (Fn a b))
 | _=>.bad
noncomputable def strsOf:List D->Option (List gV)
 | []=>some []
 | .str a::r=>(strsOf r).map (a::·)
 | _::_=>none
def sQ(a:gV):D->R D
 | .str b=>aF (!(b.length==0)&&leB (a.length+1) lim&&leB (Du a b).length lim&&leB (HR a (C5 a b 0 a.length (a.length+1)) b.length).length lim) (.ok (.list ((Du a b).map .str)))
 | _=>.bad
def iQ(a:gV):D->R D
 | .str b=>aF (!(b.length==0)&&leB a.length lim) (.ok (.tuple ((qd a b).map .str)))
 | _=>.bad
def zb6(a:gV):D->R D
 | .list ds=>(R.of (strsOf ds)).bind fun xs=>aF (JoinOk a xs) (.ok (.str (GD a xs)))
 | _=>.bad
variable [Cs]
section
variable {K:ox}{o e:Aq}{f h:EF}
noncomputable def rS(K:ox)(g:gV->D->R D):V->List V->Hp->VK->Prop:=fun x vs H Q=>∃ a dy d y,x=.str a/\vs=[y]/\Fz K H dy y/\g a dy=.ok d/\∀ v H',aB H H'->Fz K H' d v->Q v H'
theorem oB{id:String}{apos cP:Az}(slot:Slot "str" name id) (hty:typeOf (.builtin id)=pure (.type "method_descriptor")) (hm:kF X id (rS X.K g)) (ho:PV K X o f) (he:PV K X e h)
  (pH:DA o name X.env (Ay o X.env)=Ay o X.env:=by rfl)
  (pJ:((A0 cP (Au [e] X.env)).all (fun x=>!x.1)&&(DN cP (DQ [] X.env)).all (fun x=>x.1.isSome)&&decide ([e].length+([]:List Ed).length+(if([]:List Ed).isEmpty then 0 else 1)<30))=true:=by rfl)
  (pK:(apos.endLine==cP.line)=true:=by rfl) (cK:Au [e] X.env=(false,Ay e X.env)::Au [] X.env:=by exact FL.se rfl) (pR:(A0 cP (Au [] X.env)).any (·.1)=false:=by exact FL.sp rfl) :
  PV K X (.Call (.Attribute o name apos) [e] [] cP) (fF g f h):=.mk fun hK=>by
 subst hK
 refine(zcA PySem.F.plainAttrs_str slot hty hm (ho rfl) (ik (he rfl) kl cK) pH pJ pK cK pR).weak fun σ H Q q=>?_
 obtain⟨ρ,rel,q⟩:=q
 refine dw rel q fun dx ρ1 x H1 ak aK fx q1=>?_
 obtain⟨a,ea,q2⟩:=q1.bV
 cases dx with
 | str a' =>
  cases ea
  simp only [Fz] at fx
  subst fx
  refine⟨?_,dw ak q2 fun dy ρ2 y H2 bS bT fy q3=>?_⟩
  ·rfl
  ·obtain⟨d,ed,q4⟩:=q3.bV
   exact⟨a,dy,d,y,rfl,rfl,fy,ed,fun v H' s fz=>q4.new bS s v fz⟩
 | _=>exact nomatch (show(R.bad:R gV)=.ok a from ea)
theorem zol:kF X "str.startswith" (rS X.K zI):=by
 intro pins s σ H x vs v us Q I rx rv h
 obtain⟨a,dy,d,y,rfl,rfl,fy,e,q⟩:=h
 cases dy with
 | str b =>
  cases e
  simp only [Fz] at fy
  subst fy
  exact zoB pins s σ H _ _ v us Q I rx rv ⟨a,b,rfl,rfl,q _ H (aB.refl _) (by simp [Fz])⟩
 | _=>exact nomatch (show(R.bad:R D)=.ok d from e)
theorem aj.ofStrs{H:Hp}:∀(xs:List gV),aj K H (xs.map AG) (xs.map V.str)
 | []=>rfl
 | x::xs=>⟨_,_,rfl,by simp [Fz],aj.ofStrs xs⟩
theorem aj.strs{H:Hp}:∀{ds:List D} {vs:List V} {xs:List gV},aj K H ds vs->strsOf ds=some xs->vs=xs.map V.str
 | [],vs,xs,h,e=>by cases e;exact h
 | d::ds,vs,xs,h,e=>by
  simp only [aj] at h
  obtain⟨v,r,rfl,h1,h2⟩:=h
  cases d with
  | str a =>
   obtain⟨ys,e1,rfl⟩:=C8.mp (show(strsOf ds).map (a::·)=some xs from e)
   simp only [Fz] at h1
   rw [h1,aj.strs h2 e1]
   rfl
  | _=>exact nomatch (show none=some xs from e)
theorem zok:kF X "str.join" (rS X.K zb6):=by
 intro pins s σ H x vs v us Q I rx rv h
 obtain⟨a,dy,d,y,rfl,rfl,fy,e,q⟩:=h
 cases dy with
 | list ds =>
  obtain⟨xs,kJ,e⟩:=bZ (show(R.of (strsOf ds)).bind _=.ok d from e)
  obtain⟨c,e⟩:=c7 e
  cases e
  simp only [Fz] at fy
  obtain⟨l,ws,rfl,fl,fa⟩:=fy
  have ew:=aj.strs fa (si kJ)
  subst ew
  exact zoy pins s σ H _ _ v us Q I rx rv ⟨a,l,xs,rfl,rfl,fl.sq,c,q _ H (aB.refl _) (by simp [Fz])⟩
 | _=>exact nomatch (show(R.bad:R D)=.ok d from e)
theorem m_split:kF X "str.split" (rS X.K sQ):=by
 intro pins s σ H x vs v us Q I rx rv h
 obtain⟨a,dy,d,y,rfl,rfl,fy,e,q⟩:=h
 cases dy with
 | str b =>
  obtain⟨c,e⟩:=c7 (show aF _ _=.ok d from e)
  cases e
  simp only [Fz] at fy
  subst fy
  simp only [BJ,Gp] at c
  have l0:=ig
  refine aI (zoA pins s σ H _ _ v us (fun v H1=>∃ p,v=.ref p/\H p=none/\H1=upd H p (.lst ((Du a b).map V.str))) I rx rv ⟨a,b,rfl,rfl,c.1.1.1,?_,?_,?_,fun l hl=>⟨l,rfl,hl,rfl⟩⟩) fun _ _ z=>rB (aj.ofStrs _) q z
  ·have:=fi c.1.1.2;lia
  ·have:=fi c.1.2;lia
  ·have:=fi c.2;lia
 | _=>exact nomatch (show(R.bad:R D)=.ok d from e)
theorem yP:kF X "str.partition" (rS X.K iQ):=by
 intro pins s σ H x vs v us Q I rx rv h
 obtain⟨a,dy,d,y,rfl,rfl,fy,e,q⟩:=h
 cases dy with
 | str b =>
  obtain⟨c,e⟩:=c7 (show aF _ _=.ok d from e)
  cases e
  simp only [Fz] at fy
  subst fy
  simp only [BJ,Gp] at c
  have l0:=ig
  refine zoz pins s σ H _ _ v us Q I rx rv ⟨a,b,rfl,rfl,c.1,by have:=fi c.2;lia,fun l hl=>q _ _ (fun z o hz=>by rw [bh (fun w=>by subst w;rw [hl] at hz;cases hz)];exact hz) ?_⟩
  simp only [Fz]
  exact⟨l,_,rfl,.inl cN,aj.ofStrs _⟩
 | _=>exact nomatch (show(R.bad:R D)=.ok d from e)
end
end
section
def cv:D->D->R D
 | .str a,.str b=>aF (leB (a.length+b.length) lim) (.ok (.str (a++b)))
 | x,y=>aC x y
def kR:D->R D
 | .str a=>aF (leB a.length lim) (.ok (.int (a.length:Int)))
 | x=>cH x
def nW(k d:D):R D:=match k,d with
 | .str a,.str b=>.ok (.bool (!(C5 b a 0 b.length 1).isEmpty))
 | _,_=>zbW k d
def vj:D->D->R D
 | .str a,.int i=>aF (leB a.length lim) ((R.of (FL.cJ a.cps.toList i)).bind fun c=>.ok (.str ⟨#[c]⟩))
 | x,y=>aq x y
variable [Cs]
section
variable {K:ox}
theorem ju:aV X (B5 .Add) (rD X.K cv):=by
 intro pins s σ H x y v u Q I rx ry h
 obtain⟨dx,dy,d,tx,ty,e,q⟩:=h
 have old:cv dx dy=aC dx dy->_:=fun z=>cD pins s σ H x y v u Q I rx ry ⟨dx,dy,d,tx,ty,z▸e,q⟩
 cases dx with
 | str a =>
  cases dy with
  | str b =>
   obtain⟨c,e⟩:=c7 (show aF _ _=.ok d from e)
   cases e
   have hx:x=.str a:=by simpa [Tp,Fz] using tx
   have hy:y=.str b:=by simpa [Tp,Fz] using ty
   subst hx hy
   obtain⟨t,rfl⟩:=rx
   obtain⟨t2,rfl⟩:=ry
   have l0:=ig
   exact PySem.SB.add (fun t' k=>⟨.str _,H,I.tok _,⟨_,rfl⟩,q _ H (aB.refl _) (by simp [Fz])⟩) (by have:=fi c;lia)
  | _=>exact old rfl
 | _=>exact old rfl
theorem za6:fP X (.builtin "len") kR:=by
 intro pins s σ H xs us Q I r h
 obtain⟨x,dx,d,rfl,tx,e,q⟩:=h
 have old:kR dx=cH dx->_:=fun z=>o9 pins s σ H [x] us Q I r ⟨x,dx,d,rfl,tx,z▸e,q⟩
 cases dx with
 | str a =>
  obtain⟨c,e⟩:=c7 (show aF _ _=.ok d from e)
  cases e
  have hx:x=.str a:=by simpa [Tp,Fz] using tx
  subst hx
  have l0:=ig
  exact zkf pins s σ H _ us Q I r ⟨a,rfl,by have:=fi c;lia,q _ H (aB.refl _) (by simp [Fz])⟩
 | _=>exact old rfl
theorem zgP(hu:X.A.units+80<BO):aV X (A3 .In) (rD X.K nW):=by
 intro pins s σ H x y v u Q I rx ry h
 obtain⟨dx,dy,d,tx,ty,e,q⟩:=h
 have old:nW dx dy=zbW dx dy->_:=fun z=>zpd hu pins s σ H x y v u Q I rx ry ⟨dx,dy,d,tx,ty,z▸e,q⟩
 cases dx with
 | str a =>
  cases dy with
  | str b =>
   cases (show R.ok _=.ok d from e)
   have hx:x=.str a:=by simpa [Tp,Fz] using tx
   have hy:y=.str b:=by simpa [Tp,Fz] using ty
   subst hx hy
   exact zpe pins s σ H _ _ v u Q I rx ry ⟨a,b,rfl,rfl,q _ H (aB.refl _) (by simp [Fz])⟩
  | _=>exact old rfl
 | _=>exact old rfl
theorem zoX:kE X (rD X.K vj):=by
 intro value slice pins s σ H x y v u Q I rx ry h hs
 obtain⟨dx,dy,d,tx,ty,e,q⟩:=h
 have old:vj dx dy=aq dx dy->_:=fun z=>aR value slice pins s σ H x y v u Q I rx ry ⟨dx,dy,d,tx,ty,z▸e,q⟩ hs
 cases dx with
 | str a =>
  cases dy with
  | int i =>
   obtain⟨c,e⟩:=c7 (show aF _ _=.ok d from e)
   obtain⟨w,ew,e⟩:=bZ e
   cases e
   have hx:x=.str a:=by simpa [Tp,Fz] using tx
   have hy:y=.int i:=by simpa [Tp,Fz] using ty
   subst hx hy
   have l0:=ig
   exact zmI value slice pins s σ H _ _ v u Q I rx ry ⟨a,i,w,rfl,rfl,by have:=fi c;lia,si ew,q _ H (aB.refl _) (by simp [Fz])⟩ hs
  | _=>exact old rfl
 | _=>exact old rfl
end
end
end FL
namespace L2
open PySem PySem.Spec
variable {X:Cx}{e:Aq}{te:TE}{pos:Az}
end L2
namespace FL
open PySem L2 PySem.Spec
open PyProof.Rows hiding St
variable [Cs]
end FL
namespace L2
open PySem PySem.Spec
variable {X:Cx}
variable {o:Option Int}{v:dm}
theorem zgX(h:Dk v o):∃ l:Option (Int×Bf),v=partValue l/\o=l.map (·.1):=by
 cases h with
 | none=>exact⟨none,rfl,rfl⟩
 | _=>exact⟨some (_,_),rfl,rfl⟩
theorem zsg:oY X (fun x lo hi H Q=>∃ z:gV,x=.str z/\z.length<=AK/\Q (.str (GH z lo hi)) H):=by
 intro pins s σ H x v vl vu lo hi sl Q I rx hs pl pu h
 obtain⟨z,rfl,hz,q⟩:=h
 obtain⟨t,rfl⟩:=rx
 refine⟨"str",_,F.slot_str_getitem.lookup,Ex _ _ _,?_⟩
 have fin:EP X pins σ Q (.str (GH z lo hi) t) s/\∀ t' k,EP X pins σ Q (.str (GH z lo hi) t') { s with toks:=k }:=⟨⟨.str _,H,I,⟨_,rfl⟩,q⟩,fun t' k=>⟨.str _,H,I.tok _,⟨_,rfl⟩,q⟩⟩
 obtain⟨l,rfl,rfl⟩:=zgX pl
 obtain⟨u,rfl,rfl⟩:=zgX pu
 exact wpAny_getItem_str_slice (l:=l) (u:=u) (st:=none) hs rfl (post_val_or_str ⟨Bj (Txt.slice_le z _ _) hz,fin.2⟩)
end L2
namespace FL
open PySem L2 PySem.Spec
open PyProof.Rows hiding St
variable {f:EF}{a:Aq}{p2 pos:Az}{X:Cx}
section
def zF(d:D)(lo hi:Option Int):R D:=match d with
 | .str a=>aF (leB a.length lim) (.ok (.str (GH a lo hi)))
 | _=>fO d lo hi
def zbm(f:EF)(lo hi:OF):EF:=fun ρ=>(f ρ).bind fun x=>(lo x.2).bind fun l=>(hi l.2).bind fun u=>(zF x.1 l.1 u.1).bind fun d=>.ok (d,u.2)
variable [Cs]
section
variable {K:ox}{lo hi:Option Aq}{fl fh:OF}
def zrG(K:ox):V->Option Int->Option Int->Hp->VK->Prop:=fun x lo hi H Q=>∃ dx d,Tp K H dx x/\zF dx lo hi=.ok d/\∀ v H',aB H H'->Fz K H' d v->Q v H'
theorem zr3:oY X (zrG X.K):=by
 intro pins s σ H x v vl vu lo hi sl Q I rx hs pl pu h
 obtain⟨dx,d,tx,e,q⟩:=h
 have old:zF dx lo hi=fO dx lo hi->_:=fun z=>zE pins s σ H x v vl vu lo hi sl Q I rx hs pl pu ⟨dx,d,tx,z▸e,q⟩
 cases dx with
 | str z =>
  obtain⟨c,e⟩:=c7 (show aF _ _=.ok d from e)
  cases e
  have hx:x=.str z:=by simpa [Tp,Fz] using tx
  subst hx
  have l0:=ig
  exact zsg pins s σ H _ v vl vu lo hi sl Q I rx hs pl pu ⟨z,rfl,by have:=fi c;lia,q _ H (aB.refl _) (by simp [Fz])⟩
 | _=>exact old rfl
theorem zqV(he:PV K X a f)(hl:nE K X lo fl)(hu:nE K X hi fh):PV K X (.Subscript a (.Slice lo hi none p2) pos) (zbm f fl fh):=.mk fun hK=>by
 subst hK
 exact(zg4 zr3 (he rfl) (hl rfl) (hu rfl)).weak fun σ H Q=>by
  rintro⟨ρ,rel,q⟩
  refine dw rel q fun dx ρ1 x H1 ak aK fx q1=>ym ak q1 fun l ρ2 H2 bS bT q2=>ym bS q2 fun u ρ3 H3 iw kr q3=>?_
  obtain⟨d,ed,q4⟩:=q3.bV
  exact⟨dx,d,((fx.mono (bT.dM ak)).mono (kr.dM bS)).tp,ed,fun v H' s fz=>q4.new iw s v fz⟩
end
end
section
def yB:D->R D
 | .str a=>aF (leB a.length 640) ((R.of (PySem.intText? a)).bind fun n=>.ok (.int n))
 | x=>intD x
variable [Cs]
section
theorem zjW:fP X (.type "int") yB:=by
 intro pins s σ H xs us Q I r h
 obtain⟨x,dx,d,rfl,tx,e,q⟩:=h
 have old:yB dx=intD dx->_:=fun z=>zjV pins s σ H [x] us Q I r ⟨x,dx,d,rfl,tx,z▸e,q⟩
 cases dx with
 | str a =>
  obtain⟨c,e⟩:=c7 (show aF _ _=.ok d from e)
  obtain⟨n,en,e⟩:=bZ e
  cases e
  have hx:x=.str a:=by simpa [Tp,Fz] using tx
  subst hx
  obtain⟨u,rfl,ru⟩:=vals1 r
  obtain⟨t,rfl⟩:=ru
  exact PySem.W.KIN.call_text (si en) (fi c) ⟨.int n,H,I.tok _,⟨_,rfl⟩,q _ H (aB.refl _) (by simp [Fz])⟩
 | _=>exact old rfl
end
end
end FL
namespace L2
open PySem PySem.Spec PyProof.Rows
variable {tl:TE}{w:AJ}{P:AO}{X:Cx}{tg:Aq}
noncomputable def lI(c:Nat):gV:=⟨#[c]⟩
def Its(x:gV):It:=⟨fun i _=>i<x.cps.size,fun i H v H'=>H'=H/\∃ c,x.cps[i]?=some c/\v=.str (lI c),fun i _=>x.cps.size<=i⟩
theorem zs4{K:ox}(x:gV)(t:Bf)(it:ir):Turn P w K tg (Its x) [it] it (fun i h=>h.IsStrIter it "str_ascii_iterator" x t i) where
 mem:=by simp
 obj:=fun i h st b hb=>by
  have e:b=it:=by simpa using hb
  subst e
  obtain⟨o,e,c,d⟩:=st
  exact⟨o,e,fun v z=>by rw [d] at z;cases z⟩
 keep:=fun i h h' st k=>let⟨o,ho,r⟩:=st;⟨o,k it (by simp) o ho,r⟩
 item:=by
  intro X hP hw hK hc i pins s σ H E I hf st hg
  subst hP hw hK
  obtain⟨f0,f1,f2,f3,f4,f5⟩:=hf it (by simp)
  have hx:x.cps[i]?=some (x.cps[i]'hg):=Fe hg
  refine wpAny_pyNext_ascii_item st hx fun h' iz sb=>?_
  have I1:Inv X pins σ H { s with heap:=h',toks:=s.toks+1 }:=I.turned (t':=s.toks+1) (fun b o hb e=>(sb.2 b hb).trans e) f0 f1 f3 f4 f5
  obtain⟨o,e,c,d⟩:=id iz
  exact⟨_,rfl,uW (s:={ s with heap:=h',toks:=s.toks+1 }) e c d (by decide) ⟨.str (lI (x.cps[i]'hg)),H,I1,⟨_,rfl⟩,⟨rfl,_,hx,rfl⟩,iz,fun b hb=>(hf b hb).1⟩⟩
 done:=by
  intro X hP hw hK hc i pins s σ H E I hf st hg
  subst hP hw hK
  obtain⟨f0,f1,f2,f3,f4,f5⟩:=hf it (by simp)
  exact wpAny_pyNext_ascii_end (I.ok.hd hc) st (HH hg) fun h' eb=>⟨rfl,I.turned (t':=s.toks) (fun b o hb e=>eb b o hb e) f0 f1 f3 f4 f5⟩
 self:=fun _ _ _ _ _ st h=>wpAny_pyIter_striter_ascii st h
theorem zp3{l:Aq}(hl:PE X l tl):PI X tg l (fun σ H R=>tl σ H fun v H1=>∃ x,v=.str x/\x.cps.all (·<128)=true/\R (Its x) H1):=by
 intro pins s σ H R I h
 refine aI (hl pins s σ H _ I h) fun v s1 ⟨v0,H1,I1,r1,q1⟩=>?_
 obtain⟨x,rfl,ha,q⟩:=q1
 obtain⟨t,rfl⟩:=r1
 refine wpAny_pyIter_ascii ha ?_
 refine⟨s1.heap.objs.size,[s1.heap.objs.size],_,_,H1,rfl,I1.kept (t':=s1.toks) fun b o e=>A5 _ e,zs4 x t _,⟨_,Bl _ rfl,rfl,rfl⟩,fun b hb=>?_,q⟩
 have e:b=s1.heap.objs.size:=by simpa using hb
 subst e
 exact I1.jJ (AI _) (I1.az.fresh (AI _))
end L2
namespace FL
open PySem L2 PySem.Spec
open PyProof.Rows hiding St
def zhJ:D->R (List D)
 | .str x=>aF (x.cps.all (·<128)) (.ok (x.cps.toList.map fun c=>.str (lI c)))
 | _=>.bad
def iT(f:EF):IF:=fun ρ=>(f ρ).bind fun x=>(zhJ x.1).bind fun l=>.ok (l,x.2)
variable {f:EF}{H:Hp}{X:Cx}
section
variable [Cs]{K:ox}{tg e:Aq}
theorem zth(x:gV):Walk K (Its x) (x.cps.toList.map fun c=>.str (lI c)) H:=by
 refine⟨fun i d H' _ e=>?_,fun i H' _ h=>show x.cps.size<=i by simpa using h⟩
 rw [BV,C8] at e
 obtain⟨c,e1,rfl⟩:=e
 rw [Jj] at e1
 have hi:i<x.cps.size:=by
  rcases Nat.lt_or_ge i x.cps.size with h|h
  ·exact h
  ·rw [HH h] at e1;cases e1
 refine⟨hi,fun v iF y=>?_⟩
 obtain⟨rfl,c',e2,rfl⟩:=y
 rw [e1] at e2
 cases e2
 exact⟨aB.refl _,by simp [Fz]⟩
theorem zq1(he:PV K X e f):gz K X tg e (iT f):=.mk fun hK=>by
 subst hK
 refine(zp3 (he rfl)).weak fun σ H R=>?_
 rintro⟨ρ,rel,q⟩
 refine dw rel q fun dx ρ1 x H1 ak aK fx q1=>?_
 obtain⟨items,ei,q2⟩:=q1.bV
 cases dx with
 | str a =>
  obtain⟨c,ei⟩:=c7 (show aF (a.cps.all (·<128)) (.ok (a.cps.toList.map fun c=>.str (lI c)))=.ok items from ei)
  cases ei
  simp only [Fz] at fx
  exact⟨a,fx,c,q2.now ak _ (zth a)⟩
 | _=>cases ei
end
end FL
namespace L2
open PySem PySem.Spec PyProof.Rows PySem.W
end L2
namespace FL
open PySem L2 PySem.Spec
open PyProof.Rows hiding St
end FL
namespace L2
open PySem PySem.Spec PyProof.Rows PySem.W
variable {C Q:Bool->kb->Prop}{k:WK}{s:kb}{v:V}{A:AY}{H:Hp}{pins:List (ir×AA)}{E:dm->kb->Prop}{w:AJ}{X:Cx}{u:dm}{σ:L2.St}{prog:AO}
section
def ue(H:Hp)(k:WK)(v:V):Prop:=∃ b j ws,v=.ref b/\k.2=[j]/\dH H b (.int k.1::.int j::ws)
noncomputable def jY(H:Hp):List WK->List V->Prop
 | [],vs=>vs=[]
 | k::ks,vs=>∃ v t,vs=v::t/\ue H k v/\jY H ks t
theorem jY.len{H:Hp}:∀{ks:List WK} {vs:List V},jY H ks vs->vs.length=ks.length
 | [],vs,h=>by have:vs=[]:=h;subst this;rfl
 | k::ks,vs,h=>by obtain⟨v,t,rfl,_,h2⟩:=h;simp [jY.len h2]
theorem jY.get{H:Hp}:∀{ks:List WK} {vs:List V} {i:Nat} {v:V},jY H ks vs->vs[i]?=some v->ue H (ks.getD i (0,[])) v
 | [],vs,i,v,h,e=>by have:vs=[]:=h;subst this;simp at e
 | k::ks,vs,i,v,h,e=>by
  obtain⟨u,t,rfl,h1,h2⟩:=h
  cases i with
  | zero=>simp at e;subst e;exact h1
  | succ i=>simpa using jY.get h2 (i:=i) (by simpa using e)
section
variable {b fin:Bool}
theorem zln(p:dm)(h:Q true s):Av (Ax prog w) A (eqBool p p) Q E s:=by
 unfold eqBool
 refine Ct ?_
 rw [if_pos (beq_self_eq_true p)]
 exact Ap (Et (AH h))
theorem zf0(h:Q fin s):∀(l:List dm) (i:Nat),KatLex prog w A b fin Q (l.zip l) i s
 | [],_=>kat_nil h
 | p::r,i=>kat_cons (zln p (kat_yes (zf0 h r (i+1))))
end
section
theorem zcy(I:Inv X pins σ H s)(h:ue H k v)(r:RelV v u) :
  ∃ b o n0 j,∃(tk tj:Bf) (rest:List dm),v=.ref b/\u=.ref b/\s.heap.get? b=some o/\o.cls=.type "tuple"/\o.data=.seq (.int k.1 tk::.int j tj::rest).toArray n0/\k.2=[j]:=by
 obtain⟨b,j,ws,rfl,hj,h1⟩:=h
 cases r
 obtain⟨its,rv,⟨o,ho,hc,n,hd⟩,_⟩:=I.tuple (.inl h1)
 cases rv with
 | cons r1 rv =>
  cases rv with
  | cons r2 rv =>
   obtain⟨tk,rfl⟩:=r1
   obtain⟨tj,rfl⟩:=r2
   exact⟨b,o,n,j,tk,tj,_,rfl,rfl,ho,hc,hd,hj⟩
theorem zpq(I:Inv X pins σ H s){k':WK}{v':V}{u':dm}(h:ue H k v)(h':ue H k' v')(r:RelV v u)(r':RelV v' u')(hu:k=k'->v=v')
  (q:C (gq k k') s):Av (Ax X.prog X.w) X.A (keyLt' (tuples' true) u u') C E s:=by
 obtain⟨b,o,n0,j,tk,tj,rest,hv,rfl,ho,hc,hd,hj⟩:=zcy I h r
 obtain⟨b',o',n0',j',tk',tj',zrT,hv',rfl,fT,gD,jN,mQ⟩:=zcy I h' r'
 refine kat_lt ho hd fT jN ?_
 unfold gq at q
 by_cases e1:k.1=k'.1
 ·rw [if_pos e1,hj,mQ] at q
  by_cases e2:j=j'
  ·have ek:k=k':=by
    obtain⟨x,y⟩:=k
    obtain⟨x',y'⟩:=k'
    simp only at e1 hj mQ
    rw [e1,hj,mQ,e2]
   have ev:=hu ek
   rw [hv,hv'] at ev
   cases ev
   rw [ho] at fT
   cases fT
   rw [hd] at jN
   have el:(D1 k.1 tk::.int j tj::rest)=(.int k'.1 tk'::.int j' tj'::zrT):=by
    injection jN with h1 h2
    simpa using h1
   rw [<- el]
   rw [show HT.lexLt [j] [j']=false by rw [e2];simp [HT.lexLt]] at q
   refine zf0 ?_ _ _
   simpa using q
  ·rw [show HT.lexLt [j] [j']=decide (j<j') by simp [HT.lexLt,e2]] at q
   refine kat_cons (F2 ?_)
   rw [show(k.1==k'.1)=true from by simpa using e1]
   refine kat_yes (kat_cons (F2 ?_))
   rw [show(j==j')=false from by simpa using e2]
   exact kat_no (kat_one _ _ (lt_int q))
 ·rw [if_neg e1] at q
  refine kat_cons (F2 ?_)
  rw [show(k.1==k'.1)=false from by simpa using e1]
  exact kat_no (oneLt_int q)
end
end
variable {P:PySem.Fin->kb->Prop}{d:ir}{α:Type}{us:List dm}{n0:Nat}{xs:List V}{kd:List WK}
section
theorem zoE{l:List α}(h:l.Nodup){i j:Nat}(hi:i<l.length)(hj:j<l.length)(e:l[i]=l[j]):i=j:=by
 rcases Nat.lt_trichotomy i j with c|c|c
 ·exact absurd e (HL.mp h i j hi hj c)
 ·exact c
 ·exact absurd e.symm (HL.mp h j i hj hi c)
section
variable {a:ir}
theorem zhM(I:Inv X pins σ H s)(ho:s.heap.get? a=some (B8 "list" us.toArray n0)) (hf:gi X pins H a) (rv:Vals xs us) (hl:us.length<64) (pk:jY H kd xs) (nd:kd.Nodup)
  (hQ:∀(p:Array Nat) (s':kb),Arr us.length p->Up (kT kd) p us.length->Inv X pins σ (upd H a (.lst (p.toList.map fun i=>xs.getD i .non))) s'->P (.done (.ret .none)) s') :
  Av (Ax X.prog X.w) X.A (Ce.«list.sort» ⟨[.ref a],[]⟩) P E s:=by
 have rP:=rv.length
 have hkl:=pk.len
 have s1:=DY s.heap a (BX fun _=>(#[]:Array dm))
 obtain⟨e1,ho1⟩:∃ e1,(s.heap.update a (BX fun _=>(#[]:Array dm))).get? a=some (B8 "list" #[] e1):=⟨_,GC ho fun _=>#[]⟩
 rw [list_sort_plain]
 refine Ap (listItems_at ho rfl ?_)
 refine Ap (FU ho rfl ?_ (by rw [Bk,BU];lia) (B6 _))
 refine Ap (seqEpoch_at ho1 rfl ?_)
 refine Ap (wpAny_newTuple ?_ (by show us.length<=_;rw [BU];lia))
 refine Ap (HW ?_ (B6 _))
 refine Ct ?_
 have I1:Inv X pins σ H { s with heap:=s.heap.update a (BX fun _=>(#[]:Array dm)) }:=I.turned (t':=s.toks) (fun b o hb e=>(s1.2 b hb).trans e) hf.1 hf.2.1 hf.2.2.2.1 hf.2.2.2.2.1 hf.2.2.2.2.2
 have k2:∀ b u,(s.heap.update a (BX fun _=>(#[]:Array dm))).get? b=some u->(((s.heap.update a (BX fun _=>(#[]:Array dm))).push (B8 "tuple" us.toArray 0)).push (B8 "list" #[] 0)).get? b=some u:=fun b u e=>A5 _ (A5 _ e)
 have I2:Inv X pins σ H { s with heap:=((s.heap.update a (BX fun _=>(#[]:Array dm))).push (B8 "tuple" us.toArray 0)).push (B8 "list" #[] 0) }:=I1.kept (t':=s.toks) k2
 have fJ:=k2 a _ ho1
 generalize (((s.heap.update a (BX fun _=>(#[]:Array dm))).push (B8 "tuple" us.toArray 0)).push (B8 "list" #[] 0))=h2' at I2 fJ ⊢
 have fin:∀ p:Array Nat,Arr us.length p->Up (kT kd) p us.length->P (.done (.ret .none)) { s with heap:=h2'.update a (BX fun _=>Ds (p.toList.map fun i=>us.getD i Bx)) }:=fun p ar up=>by
  have t2:=DY h2' a (BX fun _=>Ds (p.toList.map fun i=>us.getD i Bx))
  obtain⟨c2,jM⟩:∃ c2,(h2'.update a (BX fun _=>Ds (p.toList.map fun i=>us.getD i Bx))).get? a=some (B8 "list" (Ds (p.toList.map fun i=>us.getD i Bx)) c2):=⟨_,GC fJ fun _=>Ds (p.toList.map fun i=>us.getD i Bx)⟩
  have fU:p.size=us.length:=ar.sz
  refine hQ p _ ar up (I2.adopt (t':=s.toks) (fun b u hb e=>(t2.2 b hb).trans e) hf ?_)
  have mem:∀ i∈p.toList,i<us.length:=fun i hi=>by
   have:=(GB.mp ar.pm).mem_iff.mp hi
   simpa using this
  exact⟨by rw [AW,EW,fU,BU];lia,p.toList.map fun i=>us.getD i Bx,c2,zig p.toList rv mem,jM⟩
 have osz:∀ p:Array Nat,Arr us.length p->(Ds (p.toList.map fun i=>us.getD i Bx)).size=us.length:=fun p ar=>by rw [Bk,AW,EW,ar.sz]
 dsimp only
 by_cases h2:us.toArray.size<2
 ·rw [if_pos h2,if_pos h2]
  rw [Bk] at h2
  refine Ap (AH ?_)
  rw [StateT.run_pure]
  refine Ap (AH ?_)
  dsimp only
  have up:Up (kT kd) (Ds (Bh us.length)) us.length:=fun i j hJ hj=>by
   have:i=j:=by lia
   subst this
   exact(zgS kd).refl _
  have har:(arrOf (SortSt.mk' general' (us.toArray.zip us.toArray) #[] 7 none)).map (·.2)=Ds ((Ds (Bh us.length)).toList.map fun i=>us.getD i Bx):=by
   show((us.toArray.zip us.toArray).map (·.2))=_
   apply HP.mp
   rw [Array.toList_map,ksk_zip]
   simp only [Jk]
   rw [List.map_snd_zip (by lia)]
   apply List.ext_getElem (by simp)
   intro i h3 h4
   simp [Dt,Bo h3]
  rw [har]
  refine Ap (seqEpoch_at fJ rfl ?_)
  refine Ap (FU fJ rfl ?_ (B6 _) (Bj (F8 (osz _ (zea _))) (by rw [BU];lia)))
  simp only [bne_self_eq_false,A6,if_false]
  exact AH (fin _ (zea _) up)
 ·rw [if_neg h2,if_neg h2]
  rw [Bk] at h2
  have kx:∀{ks:List WK} {kv:List V} {ds:List dm},jY H ks kv->Vals kv ds->∃ fs:List dm,KatTups h2' ds fs/\fs.length=ds.length/\∀ v∈fs,∃ i t,v=D1 i t:=by
   intro ks
   induction ks with
   | nil=>intro kv ds h r;have:kv=[]:=h;subst this;cases r;exact⟨[],.nil,rfl,fun v hv=>by simp at hv⟩
   | cons k r0 ih =>
    intro kv ds h r
    obtain⟨v,t,rfl,h1,h2⟩:=h
    cases r with
    | cons r1 r2 =>
     obtain⟨fs,t1,t2,t3⟩:=ih h2 r2
     obtain⟨b,o,n0,j,tk,tj,rest,_,rfl,g1,g2,g3,_⟩:=zcy I2 h1 r1
     refine⟨.int k.1 tk::fs,.cons g1 g2 g3 rfl t1,by simp [t2],fun v hv=>?_⟩
     rcases AX.mp hv with rfl|hv
     ·exact⟨_,_,rfl⟩
     ·exact t3 v hv
  obtain⟨fs,kt,lfs,hfs⟩:=kx pk rv
  refine Ap (kat_kind (T:=.type "int") kt (by lia) (fun v hv=>by obtain⟨i,t,rfl⟩:=hfs v hv;exact Looks.of_pure rfl) (by decide) ?_)
  rw [show((D3 "int" != D3 "tuple"):Bool)=true from by decide]
  refine Ap (Bv (kat_run (E:=E) (vs:=us) (ks:=us) (κ:=tuples' true) (Q:=fun iz s2=>s2={ s with heap:=h2' }/\∃ p:Array Nat,Arr us.length p/\Up (kT kd) p us.length/\arrOf iz=p.map (kas_item (us.toArray.zip us.toArray))/\failedOf iz=none) rfl (by lia) hl
   (G:=fun p s2=>s2={ s with heap:=h2' }/\Arr us.length p/\Up (kT kd) p us.length) (fun p iz s2 a1 a2 a3 a4=>⟨a4.1,p,a4.2.1,a4.2.2,a2,a3⟩) ?_) ?_ fun _ _ z=>z)
  ·refine zsn (P:=fun s2=>s2={ s with heap:=h2' }) (zgS kd) (fun i j C s2 hi hj es hC=>?_) (by lia) rfl fun p s2 es ar up=>⟨es,ar,up⟩
   subst es
   have zfH:∀ i,i<us.length->∃ v u,xs[i]?=some v/\RelV v u/\us.getD i Bx=u:=fun i hi=>by
    have gF:i<xs.length:=by lia
    obtain⟨u,eu,ru⟩:=rv.get (Bo gF)
    exact⟨_,u,Bo gF,ru,by rw [Dt,eu];rfl⟩
   obtain⟨v,u,g1,g2,g3⟩:=zfH i hi
   obtain⟨v',u',g1',g2',g3'⟩:=zfH j hj
   show Av _ _ (keyLt' (tuples' true) (us.getD i Bx) (us.getD j Bx)) _ _ _
   rw [g3,g3']
   refine zpq I2 (pk.get g1) (pk.get g1') g2 g2' (fun ek=>?_) (hC _ rfl)
   have gF:i<kd.length:=by lia
   have mQ:j<kd.length:=by lia
   rw [Dt,Dt,Bo gF,Bo mQ] at ek
   have:i=j:=zoE nd gF mQ ek
   subst this
   rw [g1] at g1'
   exact BP g1'
  ·rintro⟨⟨⟩,iz⟩ s2 ⟨es,p,ar,up,har,hfl⟩
   have rC:s2={ s with heap:=h2' }:=es
   subst rC
   dsimp only
   rw [kat_snds rfl har]
   refine Ap (seqEpoch_at fJ rfl ?_)
   refine Ap (FU fJ rfl ?_ (B6 _) (Bj (F8 (osz p ar)) (by rw [BU];lia)))
   rw [hfl]
   simp only [bne_self_eq_false,A6,if_false]
   exact AH (fin p ar up)
end
end
variable {Q:VK}
section
section
theorem zkh(I:Inv X pins σ H s)(sq:bB X.K H d xs)(hn:xs.length<64)(pk:jY H kd xs)(nd:kd.Nodup)
  (hq:∀(p:Array Nat) (a:ir),Arr xs.length p->Up (kT kd) p xs.length->H a=none->Q (.ref a) (upd H a (.lst (p.toList.map fun i=>xs.getD i .non)))) :
  Av (Ax X.prog X.w) X.A (call (.builtin "sorted") [.ref d]) (EP X pins σ Q) E s:=by
 obtain⟨us,rv,p,hz⟩:=I.list sq
 have rP:=rv.length
 refine Jn kind_sorted plain_sorted entry_sorted (args_sorted1 _) ?_
 unfold Ce.«sorted»
 refine Ap (m:=checkCount "sorted" 1 1 _) (AH ?_)
 refine Ap (collect_list p.isList ?_ (by rw [<- rv.length];exact hz))
 have keep:∀ b o,s.heap.get? b=some o->((s.heap.push (B8 "list" #[] 0)).update s.heap.objs.size (BX (·++us.toArray))).get? b=some o:=fun b o e =>
  ((DY ..).2 b (Bg (AV e))).trans (A5 _ e)
 generalize (s.heap.push (B8 "list" #[] 0)).update s.heap.objs.size (BX (·++us.toArray))=h1 at keep ⊢
 have I1:Inv X pins σ H { s with heap:=h1 }:=I.kept (t':=s.toks) keep
 refine Ap (HW ?_ (by rw [BU];lia))
 have pN:(h1.push (B8 "list" us.toArray 0)).get? h1.objs.size=some (B8 "list" us.toArray 0):=Bl _ rfl
 have I2:Inv X pins σ H { s with heap:=h1.push (B8 "list" us.toArray 0) }:=I1.kept (s:={ s with heap:=h1 }) (t':=s.toks) fun b u e=>A5 _ e
 have fa:gi X pins H h1.objs.size:=I1.jJ (AI _) (I1.az.fresh (AI _))
 refine Ap (Ct (Dl slot_list_sort ⟨_,pN,rfl⟩ entry_list_sort ?body (args_list_sort _)))
 case body =>
  show Av (Ax X.prog X.w) X.in1.in1.A (Ce.«list.sort» ⟨[.ref h1.objs.size],[]⟩) _ _ _
  refine zhM (X:=X.in1.in1) I2.in1.in1 pN fa rv (by lia) pk nd fun p s' ar up I3=>⟨_,rfl,?_⟩
  exact AH ⟨_,rfl,.ref h1.objs.size,_,I3.sj.sj,rfl,hq p _ (by rw [rP];exact ar) (by rw [rP];exact up) fa.1⟩
theorem zkg(hc:X.calm=true)(I:Inv X pins σ H s)(rd:wM H d)(hn:∀ xs,tL H d xs->xs.length<64)
  (h:∀ xs,tL H d xs->∃ kd,jY H kd xs/\kd.Nodup/\∀(p:Array Nat) (a:ir),Arr xs.length p->Up (kT kd) p xs.length->H a=none->Q (.ref a) (upd H a (.lst (p.toList.map fun i=>xs.getD i .non)))) :
  Av (Ax X.prog X.w) X.A (call (.builtin "sorted") [.ref d]) (EP X pins σ Q) E s:=by
 refine Jn kind_sorted plain_sorted entry_sorted (args_sorted1 _) ?_
 unfold Ce.«sorted»
 refine Ap (m:=checkCount "sorted" 1 1 _) (AH ?_)
 refine Ap (zkm (show X.A.in1.handled=none from I.ok.hd hc) I rd hn fun xs us s1 dk rv I1=>?_)
 have hx:=hn xs dk
 have rP:=rv.length
 obtain⟨kd,pk,nd,hq⟩:=h xs dk
 refine Ap (HW ?_ (by rw [BU];lia))
 have pN:(s1.heap.push (B8 "list" us.toArray 0)).get? s1.heap.objs.size=some (B8 "list" us.toArray 0):=Bl _ rfl
 have I2:Inv X pins σ H { s1 with heap:=s1.heap.push (B8 "list" us.toArray 0) }:=I1.kept (t':=s1.toks) fun b u e=>A5 _ e
 have fa:gi X pins H s1.heap.objs.size:=I1.jJ (AI _) (I1.az.fresh (AI _))
 refine Ap (Ct (Dl slot_list_sort ⟨_,pN,rfl⟩ entry_list_sort ?body (args_list_sort _)))
 case body =>
  show Av (Ax X.prog X.w) X.in1.in1.A (Ce.«list.sort» ⟨[.ref s1.heap.objs.size],[]⟩) _ _ _
  refine zhM (X:=X.in1.in1) I2.in1.in1 pN fa rv (by lia) pk nd fun p s' ar up I3=>⟨_,rfl,?_⟩
  exact AH ⟨_,rfl,.ref s1.heap.objs.size,_,I3.sj.sj,rfl,hq p _ (by rw [rP];exact ar) (by rw [rP];exact up) fa.1⟩
end
end
end L2
namespace FL
open PySem L2 PySem.Spec
open PyProof.Rows hiding St
variable {X:Cx}{H:Hp}
section
noncomputable def qg:D->Option WK
 | .tuple (.int i::.int j::_)=>some (i,[j])
 | _=>none
def lQ:List D->Option (List WK)
 | []=>some []
 | d::r=>(qg d).bind fun k=>(lQ r).map (k::·)
noncomputable def zb5:D->R (List D)
 | .list l=>.ok l
 | .dict ag=>.ok (ag.map (·.1))
 | _=>.bad
def jV(d:D):R D:=(zb5 d).bind fun ks=>aF (leB (ks.length+1) 64) ((R.of (lQ ks)).bind fun ws=>aF (decide ws.Nodup) (.ok (.list ((nZ (ws.zip ks)).map (·.2)))))
section
variable [Cs]{K:ox}
theorem zha:∀{ks:List D} {ws:List WK},lQ ks=some ws->ws.length=ks.length
 | [],ws,h=>by cases h;rfl
 | d::r,ws,h=>by
  unfold lQ at h
  cases e:qg d with
  | none=>rw [e] at h;cases h
  | some k =>
   rw [e] at h
   cases e2:lQ r with
   | none=>rw [e2] at h;cases h
   | some t=>rw [e2] at h;cases h;simp [zha e2]
theorem zcH:∀{ks:List D} {ws:List WK} {xs:List V},lQ ks=some ws->aj K H ks xs->jY H ws xs
 | [],ws,xs,h,f=>by cases h;simp only [aj] at f;exact f
 | d::r,ws,xs,h,f=>by
  unfold lQ at h
  cases e:qg d with
  | none=>rw [e] at h;cases h
  | some k =>
   rw [e] at h
   cases e2:lQ r with
   | none=>rw [e2] at h;cases h
   | some t =>
    rw [e2] at h
    cases h
    simp only [aj] at f
    obtain⟨v,xr,rfl,fv,fr⟩:=f
    refine⟨v,xr,rfl,?_,zcH e2 fr⟩
    unfold qg at e
    split at e
    ·cases e
     simp only [Fz,aj] at fv
     obtain⟨b,vs,rfl,tb,v1,r1,rfl,rfl,v2,r2,rfl,rfl,_⟩:=fv
     exact⟨b,_,r2,rfl,rfl,tb⟩
    ·cases e
theorem xM(hc:X.calm=true):iW X (.builtin "sorted") (vZ X.K (one jV)):=by
 intro pins s σ H xs us Q I r h
 obtain⟨ds,d,fa,e,q⟩:=h
 match ds,fa,e with
 | [x],fa,e =>
  simp only [aj] at fa
  obtain⟨v,_,rfl,fv,rfl⟩:=fa
  obtain⟨u,rfl,ru⟩:=vals1 r
  obtain⟨ks,ek,e⟩:=bZ (show(zb5 x).bind _=.ok d from e)
  obtain⟨cl,e⟩:=c7 e
  obtain⟨ws,ew,e⟩:=bZ e
  obtain⟨cn,e⟩:=c7 e
  cases e
  have ew':=si ew
  have hlen:=fi cl
  have nd:ws.Nodup:=of_decide_eq_true cn
  have wl:=zha ew'
  have fin:∀(ys:List V),aj X.K H ks ys->∀(p:Array Nat) (a:ir),Arr ys.length p->Up (kT ws) p ys.length->H a=none->∃ b vs,V.ref a=.ref b/\H b=none/\upd H a (.lst (p.toList.map fun i=>ys.getD i .non))=upd H b (.lst vs)/\aj X.K H ((nZ (ws.zip ks)).map (·.2)) vs:=fun ys fy p a ar up ha=>by
   have yl:=fy.len
   refine⟨a,_,rfl,ha,rfl,?_⟩
   rw [<- zsm wl nd (by rw [<- yl];exact ar) (by rw [<- yl];exact up)]
   refine fy.pick p.toList fun i hi=>?_
   have:=(GB.mp ar.pm).mem_iff.mp hi
   rw [<- yl]
   simpa using this
  have go:Av (Ax X.prog X.w) X.A (call (.builtin "sorted") [u]) (EP X pins σ fun v H1=>∃ b vs,v=.ref b/\H b=none/\H1=upd H b (.lst vs)/\aj X.K H ((nZ (ws.zip ks)).map (·.2)) vs) X.xe s:=by
   cases x with
   | list l =>
    cases ek
    simp only [Fz] at fv
    obtain⟨a,ys,rfl,sx,fy⟩:=fv
    cases ru
    exact zkh I sx.sq (by rw [fy.len];lia) (zcH ew' fy) nd (fin ys fy)
   | dict ag =>
    cases ek
    have fv':=fv
    simp only [Fz] at fv'
    obtain⟨a,o,rfl,_⟩:=fv'
    cases ru
    exact zkg hc I (zlF fv) (fun ys dk=>by rw [(zbj fv dk).len];exact hlen) fun ys dk=>⟨ws,zcH ew' (zbj fv dk),nd,fin ys (zbj fv dk)⟩
   | _=>cases ek
  refine aI go fun w s' z=>?_
  obtain⟨v,H1,I1,rv,b,vs,rfl,hb,rfl,fz⟩:=z
  exact rB fz q ⟨_,_,I1,rv,b,rfl,hb,rfl⟩
 | [],_,e=>exact nomatch (show(R.bad:R D)=.ok d from e)
 | _::_::_,_,e=>exact nomatch (show(R.bad:R D)=.ok d from e)
end
end
section
end
end FL
namespace FL
open PySem L2 PySem.Spec PySem.W
variable {c t:dm}{C ns:ir}{f n name:gV}{cs:List ir}{p:ClassData->Bool}{r:Option dm}
section
section
variable {K:ox}
theorem zoQ(s:eR cs K)(e:nsIn K ns name=some r):nsIn (bK cs K) ns name=some r:=by
 unfold nsIn at e ⊢
 split at e
 ·rename_i c d es n sl ho
  rw [kI s ho fun _ _ z=>nomatch z]
  exact e
 ·cases e
theorem zpp(s:eR cs K)(e:ownIn K name c=some r):ownIn (bK cs K) name c=some r:=by
 cases c with
 | ref a =>
  unfold ownIn at e ⊢
  simp only at e ⊢
  split at e
  ·rename_i x y cd sl ho
   rw [kI s ho fun _ _ z=>nomatch z]
   exact zoQ s e
  ·cases e
 | _=>exact e
theorem zd5(s:eR cs K){name:gV}:∀{l:List dm} {r:Option dm},alongIn K name l=some r->alongIn (bK cs K) name l=some r
 | [],r,e=>e
 | c::l,r,e=>by
  unfold alongIn at e ⊢
  cases h:ownIn K name c with
  | none=>rw [h] at e;cases e
  | some o =>
   rw [h] at e
   rw [zpp s h]
   cases o with
   | some v=>exact e
   | none=>exact zd5 s e
theorem pC(s:eR cs K)(e:findIn K t name=some r):findIn (bK cs K) t name=some r:=by
 cases t with
 | ref a =>
  unfold findIn at e ⊢
  simp only at e ⊢
  split at e
  ·rename_i x y cd sl ho
   rw [kI s ho fun _ _ z=>nomatch z]
   exact zd5 s e
  ·cases e
 | _=>exact e
theorem zp9(s:eR cs K)(e:plainGet K C n=true):plainGet (bK cs K) C n=true:=by
 unfold plainGet at e ⊢
 rw [BJ] at e ⊢
 exact⟨by rw [pC s (eq_of_beq e.1)];decide,by rw [pC s (eq_of_beq e.2)];rfl⟩
theorem zeS(s:eR cs K)(e:(clsIn K C).any p=true):(clsIn (bK cs K) C).any p=true:=by
 unfold clsIn at e ⊢
 split at e
 ·rename_i x y cd sl ho
  rw [kI s ho fun _ _ z=>nomatch z]
  exact e
 ·cases e
theorem gw.cut(s:eR cs K)(h:gw K C):gw (bK cs K) C:=⟨zp9 s h.pg,zeS s h.hd,zeS s h.po,pC s h.sa⟩
theorem iZ.cut(s:eR cs K)(h:iZ K C f):iZ (bK cs K) C f:=pC s h
end
end
variable {o:AA}{b oc:dm}{m:gV}{od:Option ir}{sl:Array (Option dm)}{a f:ir}{fd:Bw}
section
section
variable {K:ox}
theorem zdc(s:eR cs K)(l:K.lookup a=some o)(n:∀ its m,o.data≠.seq its m)(e:typeIn K (.ref a)=some t):typeIn (bK cs K) (.ref a)=some t:=by
 unfold typeIn at e ⊢
 simp only at e ⊢
 rw [kI s l n]
 rw [l] at e
 exact e
theorem zhN(s:eR cs K)(l:K.lookup a=some o)(n:∀ its m,o.data≠.seq its m)(e:specialIn K (.ref a) name=some r):specialIn (bK cs K) (.ref a) name=some r:=by
 obtain⟨t,e1,e2⟩:=DK.mp e
 exact DK.mpr ⟨t,zdc s l n e1,pC s e2⟩
theorem zsr(s:eR cs K){r:Bool}(e:subIn K t b=some r):subIn (bK cs K) t b=some r:=by
 cases t with
 | ref D =>
  unfold subIn mroIn at e ⊢
  simp only at e ⊢
  obtain⟨cd,e1,e2⟩:=DK.mp e
  refine DK.mpr ⟨cd,?_,e2⟩
  unfold clsIn at e1 ⊢
  split at e1
  ·rename_i x y cd' sl ho
   rw [kI s ho fun _ _ z=>nomatch z]
   exact e1
  ·cases e1
 | _=>exact e
theorem zmw(s:eR cs K)(l:K.lookup a=some o)(n:∀ its m,o.data≠.seq its m){r:Bool}(e:instIn K (.ref a) b=some r):instIn (bK cs K) (.ref a) b=some r:=by
 obtain⟨t,e1,e2⟩:=DK.mp e
 exact DK.mpr ⟨t,zdc s l n e1,zsr s e2⟩
theorem zfQ(s:eR cs K)(l:K.lookup f=some o)(n:∀ its m,o.data≠.seq its m)(e:isFn K (.ref f)=true):isFn (bK cs K) (.ref f)=true:=by
 unfold isFn at e ⊢
 rw [zdc s l n (eq_of_beq e)]
 decide
theorem zf1(s:eR cs K)(e:keepIn K (.ref f)=true):keepIn (bK cs K) (.ref f)=true:=by
 unfold keepIn at e ⊢
 simp only at e ⊢
 split at e
 ·rename_i ho
  rw [kI s ho fun _ _ z=>nomatch z]
 ·rename_i ho
  rw [kI s ho fun _ _ z=>nomatch z]
  simp only
  rw [zhN s ho (fun _ _ z=>nomatch z) (eq_of_beq e)]
  decide
 ·cases e
theorem Meth.cut(s:eR cs K)(l:K.lookup f=some ⟨oc,od,.func fd,sl⟩)(h:Meth K C m f):Meth (bK cs K) C m f :=
 ⟨pC s h.at_,zfQ s l (fun _ _ z=>nomatch z) h.fn,zf1 s h.kp⟩
theorem zor(s:eR cs K)(e:makesIn K C=true):makesIn (bK cs K) C=true:=by
 unfold makesIn at e ⊢
 split at e
 ·rename_i x y cd sl ho
  rw [kI s ho fun _ _ z=>nomatch z]
  simp only [BJ] at e ⊢
  obtain⟨⟨e1,e2⟩,e3⟩:=e
  refine⟨⟨e1,?_⟩,?_⟩
  ·rw [zhN s ho (fun _ _ z=>nomatch z) (eq_of_beq e2)];decide
  ·rw [zmw s ho (fun _ _ z=>nomatch z) (eq_of_beq e3)];decide
 ·cases e
theorem Mk.cut(s:eR cs K)(l:K.lookup f=some ⟨oc,od,.func fd,sl⟩)(h:Mk K C f):Mk (bK cs K) C f :=
 ⟨zor s h.makes,pC s h.init,zfQ s l (fun _ _ z=>nomatch z) h.fn,zf1 s h.kp⟩
end
end
end FL
namespace FL
open PySem L2 PySem.Spec
open PyProof.Rows hiding St
section
def ziu(ρ0 ρ1:En)(d:D)(it j:Nat)(dead dom:List Nat):Prop :=
 (∀(i:Nat) x,ρ1[i]?=some x->i=it\/i=j\/i∈dead\/x=.no\/(∃ c,x=.val c/\ρ0[i]?=some (.val c)/\i∉dom)\/∃(p:Bool) (ns:List Int),x=.ow p (.list (ns.map A8))) /\
 (∀(i:Nat) p c,i=it\/i=j\/i∈dead->ρ1[i]?≠some (.ow p c))/\j<ρ1.length/\(∀ i∈dead,i<ρ1.length) /\
 ∃ rows:List (List (List Int)),d=.list (rows.map fun r=>.list (r.map fun q=>.tuple (q.map A8)))
noncomputable def kill(ks:List Nat)(ρ:En):En:=ρ.mapIdx fun i x=>if i∈ks then .no else x
def ye(ρ:En)(d:D)(it j:Nat)(dead:List Nat):En:=(kill (it::dead) ρ).set j (.val d)
open Classical in
noncomputable def ztC(f:EF)(it j:Nat)(dead dom:List Nat)(t:SF)(ρ0:En):SF:=fun ρ=>(f ρ).bind fun y=>if ziu ρ0 y.2 y.1 it j dead dom then t (ye y.2 y.1 it j dead) else .bad
def LL(d:D):Prop:=∃ rows:List (List D),d=.list (rows.map Dq)
open Classical in
noncomputable def ztF(it:Nat)(f:EF)(g:En->SF):SF:=fun ρ=>(f ρ).bind fun y=>if LL y.1 then(gN it y.1 y.2).bind fun ρ1=>g ρ ρ1 else .bad
variable [Cs]
end
variable {p pos:Az}{e:Aq}{x:gV}{f:EF}{X:Cx}
section
variable [Cs]
section
variable {K:ox}
theorem zq6(hm:X.mg x=none)(hv:Bs x=some (.type "list")) (ha:PV K X e f) (hg:Gl X x:=by rfl) (hn:x ≠ "__name__":=by decide) (bE:(x==("__debug__":gV))=false:=by decide)
  (he:Au [e] X.env=(false,Ay e X.env)::Au [] X.env:=by exact FL.se rfl) (aY:(A0 pos (Au [] X.env)).any (·.1)=false:=by exact FL.sp rfl):bY K X (.Call (.Name x p) [e] [] pos) (e1 fK f):=.mk fun hK=>by
 subst hK
 refine(zcC zba hg hm hv (ik (ha rfl) kl he) hn bE he aY).weak fun σ H Q=>?_
 rintro⟨ρ,rel,q⟩
 refine dw rel q fun dx ρ1 v H1 ak aK fx q1=>?_
 obtain⟨d,ed,q2⟩:=q1.bV
 have key:∃ a ys l,v=.ref a/\(bB X.K H1 a ys\/dO X.K H1 a ys)/\aj X.K H1 l ys/\d=.list l:=by
  cases dx with
  | list l =>
   obtain⟨a,ys,e1,e2,e3⟩:=fx.tp.lst
   cases ed
   exact⟨a,ys,l,e1,.inl e2,e3,rfl⟩
  | tuple l =>
   obtain⟨a,ys,e1,e2,e3⟩:=fx.tp.tup
   cases ed
   exact⟨a,ys,l,e1,.inr e2,e3,rfl⟩
  | _=>exact nomatch (show(R.bad:R D)=.ok d from ed)
 obtain⟨a,ys,l,rfl,hs,fa,rfl⟩:=key
 exact⟨a,ys,rfl,hs,fun b hb=>q2.new ak (aB.upd hb) b (aK.none ak hb) ⟨ys,cN,fa.mono (aH.of (aB.upd hb))⟩⟩
end
end
variable {n' q self:gV}{i j k n:Nat}{nr ns ps:List gV}{P:AO}{fa g:AF}{fd:Bw}{C f:ir}{c:String}{pa px:Az}{es:List Aq}{w:AJ}{G:List D->R D}{base:AD}{dom:List Nat}{mg:gV->Option dm}{b:SF}{ks:List (Option String)}
section
structure Ob[Cs](K:ox)(c:String)(C:ir)(ns:List gV):Prop where
 o:Cs.O c=some (C,ns)
 c:gw K C
 na:∀ f∈ns,iZ K C f
 nd:ns.Nodup
def Maker[Cs](P:AO)(w:AJ)(K:ox)(mg:gV->Option dm)(base:AD)(x:gV)(c:String)(k:Nat)(ps:List gV)(n:Nat)(G:List D->R D):Prop :=
 ∃(C f:ir) (fd:Bw),mg x=some (.ref C)/\Mk K C f/\Binds K fd ps []/\dj P w K mg base (cF P w) k f fd ps (spI K c C n G)
section
variable [Cs]{K:ox}{f:gV}{pos':Az}
theorem qj(i j:Nat)(B:Ob K c C ns)(hj:ns[j]?=some f:=by rfl)(hv:PE X (.Name x px) (dY i):=by exact pv _)(hb:DA (.Name x px) f X.env (Ay (.Name x px) X.env)=Ay (.Name x px) X.env:=by rfl):PV K X (.Attribute (.Name x px) f pos) (iI i c j) :=
 zqN B.o hj B.nd B.c (B.na f (Ck hj)) hv hb
theorem zrb(m:Maker X.prog X.w X.K X.mg X.base x c k ps n G)(hr:bp j X.A)(ha:dG K X (e::es) fa)(hl:mh fa n:=by repeat (first|exact w9|refine w8 ?_))(hg:Gl X x:=by rfl)(hj:k+1<=j:=by decide)(bE:(x==("__debug__":gV))=false:=by decide)
  (he:Au (e::es) X.env=(false,Ay e X.env)::Au es X.env:=by exact FL.se rfl) (aY:(A0 pos (Au es X.env)).any (·.1)=false:=by exact FL.sp rfl):mB K X c (.Call (.Name x p) (e::es) [] pos) (je G fa):=by
 obtain⟨C,f,fd,hm,M,hb,F⟩:=m
 exact zra M F (hr.mono hj) hg hm hb qf ha hl bE he aY
theorem zrg{f:EF}(i:Nat)(hN:X.N.Nodup)(he:mB K X c e f)(hi:X.N[i]?=some x:=by rfl)(hx:Loc X.env.scope x:=by first|exact DV rfl|exact Dm rfl)(hs:BR e (some (.Name x pos')) pos.line X.env=pure false:=by rfl)(hf:X.fn x=true\/X.env.scope.names.lookup x=some .local:=by first|exact .inl rfl|exact .inr rfl|assumption) :
  cI K X (.Assign [.Name x pos'] e pos) (v9 i c f):=zrf hN hi hx he hs hf
theorem zqq{st:AU}:ud K X dom st dA:=fun _ C=>zhg.weak fun Dn σ H=>by
 rintro⟨ρ,rel,g⟩
 exact g.elim
theorem zg7{f:EF}{rest:List AU}(B:Ob K c C ns)(hK:X.K=K)(hn:n'∈ns)(he:PV K X e f)(hr:cG X rest (sT K C i nr fa))(hv:PE X (.Name self px) (dY i):=by exact pv _)(hs:BR e (some (.Attribute (.Name self px) n' pa)) pos.line X.env=pure false:=by rfl) :
  cG X (.Assign [.Attribute (.Name self px) n' pa] e pos::rest) (sT K C i (n'::nr) (aa f fa)):=zpQ hK B.c (B.na n' hn) hv he hr hs
end
abbrev CTI[Cs](x:gV)(c:String)(k:Nat)(ps:List gV)(n:Nat)(G:List D->R D)(P:AO)(w:AJ)(K:ox)(mg:gV->Option dm)(base:AD):Prop:=Maker P w K mg base x c k ps n G
section
variable [Cs]{K:ox}{st:AU}
theorem fnI(N:List gV)(B:Ob K c C ns)(vh:∀ c' c9,Cs.O c'=some (C,c9)->c9.length=ns.length)(hm:mg x=some (.ref C))(M:Mk K C f)(F:e9 K "__init__" q st f fd)
  (hb:∀{aJ:dm} {A:AY} {outer:List Bb} {s:kb} {H:Hp} {E:XK} (Cc:SC),bp k (A.deeper (B3 q (bG st) s.heap.objs.size f aJ))->N.Nodup->cG (gR (cF P w) P w K mg base N q (bG st) f aJ A outer s H E).kg (dR st) (sU K Cc C ns g))
  (S:iY N ps (bG st):=by exact⟨rfl,rfl,rfl,by decide +kernel,rfl,by decide +kernel,by decide +kernel⟩) (fU:ps.length=n+1:=by rfl) (iK:ps.length<=N.length:=by decide) (rK:ns.length<1000:=by decide)
  (kP:∀(kV doc pm:dm) (an:Option ir) (aJ ct:dm) (us:List dm),us.length=ps.length->D9 (Cm "__init__" q (jb st) (dR st) (bG st) .none kV doc pm an aJ ct) ⟨us,[]⟩=pure (ps.zip us):=by
   first
    | exact fun _ _ _ _ _ _=>uI fun _=>rfl
    | exact fun _ _ _ _ _ _=>uJ fun _ _=>rfl
    | exact fun _ _ _ _ _ _=>uK fun _ _ _=>rfl
    | exact fun _ _ _ _ _ _=>yc fun _ _ _ _=>rfl
    | exact fun _ _ _ _ _ _=>el5 fun _ _ _ _ _=>rfl):Maker P w K mg base x c (k+1) ps n (zx n N.length ns.length g) :=
 ⟨C,f,fd,hm,M,F.binds kP,zlx B.o vh B.nd rK F S fU iK fun Cc aJ A outer s H E hr=>cG.kg (hb Cc hr S.nd)⟩
end
end
section
end
variable {i:Int}
section
def zdw[Cs](P:AO)(w:AJ)(K:ox)(mg:gV->Option dm)(base:AD)(c:String)(m:gV)(k:Nat)(ps:List gV)(ks:List (Option String))(G:List D->R D):Prop :=
 ∃(C f:ir) (ns:List gV) (fd:Bw),Cs.O c=some (C,ns)/\m∉ns/\gw K C/\Meth K C m f/\Binds K fd ps []/\dj P w K mg base (cF P w) k f fd ps (spO K (some c::ks) true G)
abbrev zds[Cs](c:String)(m:gV)(k:Nat)(ps:List gV)(ks:List (Option String))(G:List D->R D)(P:AO)(w:AJ)(K:ox)(mg:gV->Option dm)(base:AD):Prop:=zdw P w K mg base c m k ps ks G
section
variable [Cs]{K:ox}{m:gV}{apos:Az}
theorem zq8{pl:Sem Bool}(i:Nat)(M:zdw X.prog X.w X.K X.mg X.base c m k ps ks G)(hr:bp j X.A)(ha:qS K X ks (e::es) fa)(hv:PE X (.Name x px) (dY i):=by exact pv _)(hj:k<=j:=by decide)
  (cK:Au (e::es) X.env=(false,Ay e X.env)::Au es X.env:=by exact FL.se rfl)(aY:(A0 pos (Au es X.env)).any (·.1)=false:=by exact FL.sp rfl)
  (ht:Ay (.Call (.Attribute (.Name x px) m apos) (e::es) [] pos) X.env=(do
   let ov <- Ay (.Name x px) X.env
   EX apos.atName
   let(f,first) <- Dy [ov] (getMethod ov m pl)
   callWith pos f first (A0 pos (Au (e::es) X.env)) (DN pos (DQ [] X.env))):=by rfl) :
  bY K X (.Call (.Attribute (.Name x px) m apos) (e::es) [] pos) (au G (qU i c fa)):=.mk fun hK=>by
 subst hK
 obtain⟨C,f,ns,fd,ho,hm,hc,me,hb,F⟩:=M
 refine(zpI hv hc me F (hr.mono hj) hb .nil (qf (X:=X)) (ha rfl) cK aY ht).weak fun σ H Q=>?_
 rintro⟨ρ,rel,q⟩
 obtain⟨a,ds,y,e1,e2,o,ey,q0⟩:=zl0 rel q
 obtain⟨C',c9,dx,qH,h1,h2,h3,h4⟩:=id o
 rw [ho] at h1
 cases h1
 refine⟨.ref a,e2,a,dx,ns.zip qH,rfl,h2,zgo hm,ρ,rel,?_⟩
 rw [ey]
 intro H1 ak aK vs fs
 obtain⟨d,ed,q2⟩:=(q0.step aK).bV
 rw [DB]
 refine⟨.tuple ds::y.1,ak.cst,⟨.ref a,vs,rfl,o.mono (aK.dM rel),fs⟩,d,ed,fun v H' s fin=>?_⟩
 obtain⟨b,rfl,nT,m'⟩:=fin
 exact q2.new ak s b (aK.none ak nT) m'
end
section
variable [Cs]{K:ox}{st:AU}
theorem zlu(ks:List (Option String))(N:List gV)(B:Ob K c C ns)(M:Meth K C x f)(F:e9 K x q st f fd)
  (hb:∀{f:ir} {aJ:dm} {A:AY} {outer:List Bb} {s:kb} {H:Hp} {E:XK},bp k (A.deeper (B3 q (bG st) s.heap.objs.size f aJ))->N.Nodup->fH K (gR (cF P w) P w K mg base N q (bG st) f aJ A outer s H E).kg (dR st) b)
  (hx:x∉ns:=by decide)(S:iY N ps (bG st):=by exact⟨rfl,rfl,rfl,by decide +kernel,rfl,by decide +kernel,by decide +kernel⟩)(fU:ps.length=ks.length+1:=by rfl)(iK:ps.length<=N.length:=by decide)
  (kP:∀(kV doc pm:dm) (an:Option ir) (aJ ct:dm) (us:List dm),us.length=ps.length->D9 (Cm x q (jb st) (dR st) (bG st) .none kV doc pm an aJ ct) ⟨us,[]⟩=pure (ps.zip us):=by
   first
    | exact fun _ _ _ _ _ _=>uI fun _=>rfl
    | exact fun _ _ _ _ _ _=>uJ fun _ _=>rfl
    | exact fun _ _ _ _ _ _=>uK fun _ _ _=>rfl):zds c x (k+1) ps ks (zy (some c::ks) true N.length b) P w K mg base :=
 ⟨C,f,ns,fd,B.o,hx,B.c,M,F.binds kP,zly (some c::ks) true F S (by rw [fU];rfl) iK fun aJ A outer s H E hr=>zcQ (hb hr S.nd)⟩
end
end
section
variable [Cs]{K:ox}
end
variable {d:D}
section
noncomputable def xH:Aq->Option Int
 | .Constant (.int i) _ _=>some i
 | .UnaryOp .USub (.Constant (.int i) _ _) _=>some (-i)
 | _=>none
def zaW:List Aq->Option (List D)
 | []=>some []
 | e::r=>(xH e).bind fun i=>(zaW r).map (.int i::·)
def cTu:Aq->Option D
 | .Tuple es _ _=>(zaW es).bind fun l=>if leB l.length lim=true then some (.tuple l) else none
 | e=>(xH e).map .int
def zaX:List Aq->Option (List D)
 | []=>some []
 | e::r=>(cTu e).bind fun d=>(zaX r).map (d::·)
variable [Cs]{K:ox}
theorem za3(h:xH e=some i):PV K X e (eC (.int i))/\yU e=true:=by
 unfold xH at h
 split at h
 ·cases h;exact⟨aw,rfl⟩
 ·cases h;exact⟨zcN zdi aw,rfl⟩
 ·cases h
theorem zeF:∀{es:List Aq} {ds:List D},zaW es=some ds->dG K X es (ui ds)
 | [],ds,h=>by cases h;exact qk
 | e::r,ds,h=>by
  obtain⟨i,h1,h⟩:=DK.mp h
  obtain⟨l,h2,rfl⟩:=C8.mp h
  exact sH (za3 h1).1 (zeF h2) (se (za3 (K:=K) (X:=X) h1).2)
theorem zeH(h:cTu e=some d):PV K X e (eC d)/\yU e=true:=by
 unfold cTu at h
 split at h
 ·obtain⟨l,h1,h⟩:=DK.mp h
  split at h
  ·rename_i c
   cases h
   refine⟨?_,rfl⟩
   have e:aP (ui l)=eC (.tuple l):=by
    funext ρ
    show(R.ok (l,ρ)).bind _=_
    rw [ah,aW c];rfl
   rw [<- e]
   exact fo (zeF h1)
  ·cases h
 ·obtain⟨i,h1,rfl⟩:=C8.mp h
  exact za3 h1
theorem zeI:∀{es:List Aq} {ds:List D},zaX es=some ds->dG K X es (ui ds)
 | [],ds,h=>by cases h;exact qk
 | e::r,ds,h=>by
  obtain⟨d,h1,h⟩:=DK.mp h
  obtain⟨l,h2,rfl⟩:=C8.mp h
  exact sH (zeH h1).1 (zeI h2) (se (zeH (K:=K) (X:=X) h1).2)
theorem zq7{ds:List D}(h:zaX es=some ds):bY K X (.List es pos) (bQ (ui ds)):=lq (zeI h)
end
end FL
namespace L2
open PySem PySem.Spec PyProof.Rows
variable {E Q:dm->kb->Prop}{i1 i2 it l t z:ir}{i k:Nat}{s:kb}{a b x y:dm}{A:AY}{xs ys:Array dm}{w:AJ}{prog:AO}
section
theorem zoT(hi:s.heap.IsTupleIter it t i)(ht:s.heap.IsTuple t ys)(hy:ys[i]?=some y)
  (q:∀ h',h'.IsTupleIter it t (i+1)->Ep it s.heap h'->Q y { s with heap:=h' }):Av (Ax prog w) A (Ei (.ref it)) Q E s:=by
 obtain⟨oi,e1,c1,d1⟩:=id hi
 obtain⟨ot,e2,_,m,d2⟩:=ht
 unfold Ei
 refine Ap (Ec (name:=BD "__next__") hi.typeIs GI (Dl GI hi.typeIs Jo ?_ (Jp _)))
 show Av _ _ (field (.ref it) 0 >>= _) _ _ s
 refine Ap (CA e1 d1 (x:=.ref t) rfl ?_)
 rw [if_neg (show ¬ ((BF t==Bx)=true) from C3)]
 refine Ap (CA e1 d1 (x:=.int i 0) rfl ?_)
 refine Ap (Ej e2 d2 ?_)
 simp only [FR,hy]
 refine Ap (Gx e1 d1 (by simp) (AH ⟨y,rfl,AH (q _ ⟨_,Hi _ e1 (Je (Gy d1 _)),(Obj.cls_mapFields ..).trans c1,?_⟩ (DY ..))⟩))
 rw [Gy d1]
 simp [C4]
theorem zll(hh:A.handled=none)(hi:s.heap.IsTupleIter it t i)(ht:s.heap.IsTuple t ys)(hy:ys[i]?=none)
  (q:∀ h' e,Heap.ExtBut it s.heap h'->(∃ o,h'.get? e=some o/\o.cls=.type "StopIteration")->E (.ref e) { s with heap:=h' }):Av (Ax prog w) A (Ei (.ref it)) Q E s:=by
 obtain⟨oi,e1,c1,d1⟩:=id hi
 obtain⟨ot,e2,_,m,d2⟩:=ht
 unfold Ei
 refine Ap (Ec (name:=BD "__next__") hi.typeIs GI (Dl GI hi.typeIs Jo ?_ (Jp _)))
 show Av _ _ (field (.ref it) 0 >>= _) _ _ s
 refine Ap (CA e1 d1 (x:=.ref t) rfl ?_)
 rw [if_neg (show ¬ ((BF t==Bx)=true) from C3)]
 refine Ap (CA e1 d1 (x:=.int i 0) rfl ?_)
 refine Ap (Ej e2 d2 ?_)
 simp only [FR,hy]
 refine Ap (Et (Ap (Gx e1 d1 (by simp) ?_)))
 refine Ap ?_;simp only [newExc,newTuple]
 refine Ap ?_;refine CY ?_ (by size_fits)
 refine Ap (m:=Gz _ _) ?_;refine wpAny_of_eq (a:=Bx) (by first|rfl|(simp only [Gz];rfl)) ?_
 refine CY ?_ (by size_fits);simp only [raiseNew]
 refine Ap (wpAny_handled ?_);rw [show A.in1.handled=none from hh]
 exact Ap (AH (wpAny_throw (q _ _ (((DY ..).extBut.push _).push _) ⟨_,Bl _ rfl,rfl⟩)))
abbrev ZA:=ZipApart
theorem ztr{TI TO:ir}(D:ZA z TI TO i1 i2 l t)(zz:Cg s.heap z TI TO .none)(pi:BM s.heap TI (.ref i1) (.ref i2))(po:BM s.heap TO a b)
  (t1:s.heap.IsListIter i1 l k)(t2:s.heap.IsTupleIter i2 t k)(u1:s.heap.IsList l xs)(u2:s.heap.IsTuple t ys)(ex:xs[k]?=some x)(ey:ys[k]?=some y)
  (q:∀ h',Cg h' z TI TO (C4 s.heap.objs.size)->BM h' TO x y->h'.IsListIter i1 l (k+1)->h'.IsTupleIter i2 t (k+1)->BM h' s.heap.objs.size x y ->
   (∀ c o,c≠z->c≠TO->c≠i1->c≠i2->s.heap.get? c=some o->h'.get? c=some o)->Q (.ref s.heap.objs.size) { s with heap:=h' }) :
  Av (Ax prog w) A (Ce.«zip.__next__» ⟨[.ref z],[]⟩) (fun f s'=>∃ v,f=.done (.ret v)/\Q v s') E s:=by
 show Av _ _ (field (.ref z) 2 >>= _) _ _ _
 refine Ap (CA zz rfl (x:=.bool false) rfl ?_)
 refine Ap (CA zz rfl (x:=.ref TI) rfl ?_)
 refine Ap (Ej pi rfl ?_)
 refine Ap ?_;unfold Jq
 refine Ap (CA zz rfl (x:=.none) rfl (AH ?_));simp only [if_true]
 refine Ap (Et ?_);refine Ap (CA zz rfl (x:=.ref TO) rfl ?_)
 refine Ap (Fo zz (by simp) fun g1 z1 b1=>?_)
 replace z1:Cg g1 z TI TO .ellipsis:=z1
 refine Ap ?_;simp only [HX,List.zipIdx_nil,Hn,Ho]
 refine Ap (Ap (GJ ?_));show Av _ _ (Ei (.ref i1) >>= _) _ _ _
 refine Ap (HY (t1.extBut b1.extBut D.i1z) (u1.extBut b1.extBut D.l1z) ex fun g2 r2 b2=>AH ?_)
 have o2:BM g2 TO a b:=b2.extBut _ _ D.TOi1 (b1.extBut _ _ D.TOz po)
 refine Ap (Ej o2 rfl ?_)
 refine Ap (HZ o2 fun g3 o3 b3=>?_)
 replace o3:BM g3 TO x b:=o3
 refine Ap (wpAny_letGo (AH ?_));refine Ap (Ap (GJ ?_))
 show Av _ _ (Ei (.ref i2) >>= _) _ _ _
 refine Ap (zoT (((t2.extBut b1.extBut D.i2z).extBut b2.extBut D.i12.symm).extBut b3.extBut D.TOi2.symm) (((u2.extBut b1.extBut D.l2z).extBut b2.extBut D.l2i1).extBut b3.extBut D.l2TO) ey fun g4 r4 b4=>AH ?_)
 have o4:BM g4 TO x b:=b4.extBut _ _ D.TOi2 o3
 refine Ap (Ej o4 rfl ?_)
 refine Ap (HZ o4 fun g5 o5 b5=>?_)
 replace o5:BM g5 TO x y:=o5
 refine Ap (wpAny_letGo (AH (AH ?_)));refine Ap (Ej o5 rfl ?_);refine Ap (wpAny_newTuple ?_)
 have sz:g5.objs.size=s.heap.objs.size:=by rw [b5.1,b4.1,b3.1,b2.1,b1.1]
 have z5:Cg g5 z TI TO .ellipsis:=b5.extBut _ _ D.TOz.symm (b4.extBut _ _ D.i2z.symm (b3.extBut _ _ D.TOz.symm (b2.extBut _ _ D.i1z.symm z1)))
 have k5:∀ c o,c≠z->c≠TO->c≠i1->c≠i2->s.heap.get? c=some o->g5.get? c=some o:=fun c o c1 c2 c3 c4 e=>b5.extBut _ _ c2 (b4.extBut _ _ c4 (b3.extBut _ _ c2 (b2.extBut _ _ c3 (b1.extBut _ _ c1 e))))
 have r15:g5.IsListIter i1 l (k+1):=((r2.extBut b3.extBut D.TOi1.symm).extBut b4.extBut D.i12).extBut b5.extBut D.TOi1.symm
 have r25:g5.IsTupleIter i2 t (k+1):=r4.extBut b5.extBut D.TOi2.symm
 have zl:z<g5.objs.size:=AV z5
 refine Ap ?_;unfold Builtin.SmallTypes.ownedTupleHandOut
 have z6:Cg (g5.push { cls:=.type "tuple",data:=.seq #[x,y] }) z TI TO .ellipsis:=A5 _ z5
 refine Ap (Fo z6 (by simp) fun g7 z7 b7=>?_)
 replace z7:Cg g7 z TI TO (C4 g5.objs.size):=z7
 refine Fo z7 (by simp) fun g8 z8 b8=>?_
 replace z8:Cg g8 z TI TO (C4 g5.objs.size):=z8
 have up:∀ c o,c≠z->g5.get? c=some o->g8.get? c=some o:=fun c o c1 e=>b8.extBut _ _ c1 (b7.extBut _ _ c1 (A5 _ e))
 have p8:BM g8 g5.objs.size x y:=b8.extBut _ _ (De zl) (b7.extBut _ _ (De zl) (Bl _ rfl))
 rw [sz] at z8 p8
 refine AH ⟨_,rfl,?_⟩
 show Q (.ref g5.objs.size) _;rw [sz]
 refine q g8 z8 (up _ _ D.TOz o5) ?_ ?_ p8 fun c o c1 c2 c3 c4 e=>up c o c1 (k5 c o c1 c2 c3 c4 e)
 ·exact r15.at fun o e=>up _ o D.i1z e
 ·obtain⟨o,e,r⟩:=r25
  exact⟨o,up _ o D.i2z e,r⟩
theorem ztq{TI TO:ir}{Q:Fin->kb->Prop}(hh:A.handled=none)(D:ZA z TI TO i1 i2 l t)(zz:Cg s.heap z TI TO .none)(pi:BM s.heap TI (.ref i1) (.ref i2))(po:BM s.heap TO a b)
  (t1:s.heap.IsListIter i1 l k)(t2:s.heap.IsTupleIter i2 t k)(u1:s.heap.IsList l xs)(u2:s.heap.IsTuple t ys)(en:xs[k]?=none\/ys[k]?=none)
  (q:∀ h' e,(∀ c o,c≠z->c≠TO->c≠i1->c≠i2->s.heap.get? c=some o->h'.get? c=some o)->(∃ o,h'.get? e=some o/\o.cls=.type "StopIteration")->E (.ref e) { s with heap:=h' }) :
  Av (Ax prog w) A (Ce.«zip.__next__» ⟨[.ref z],[]⟩) Q E s:=by
 show Av _ _ (field (.ref z) 2 >>= _) _ _ _
 refine Ap (CA zz rfl (x:=.bool false) rfl ?_)
 refine Ap (CA zz rfl (x:=.ref TI) rfl ?_)
 refine Ap (Ej pi rfl ?_)
 refine Ap ?_;unfold Jq
 refine Ap (CA zz rfl (x:=.none) rfl (AH ?_));simp only [if_true]
 refine Ap (Et ?_);refine Ap (CA zz rfl (x:=.ref TO) rfl ?_)
 refine Ap (Fo zz (by simp) fun g1 z1 b1=>?_)
 replace z1:Cg g1 z TI TO .ellipsis:=z1
 refine Ap ?_;simp only [HX,List.zipIdx_nil,Hn,Ho]
 refine Ap (Ap (GJ ?_));show Av _ _ (Ei (.ref i1) >>= _) _ _ _
 cases ex:xs[k]? with
 | none =>
  refine Ap (Ib hh (t1.extBut b1.extBut D.i1z) (u1.extBut b1.extBut D.l1z) ex fun g2 e b2 he=>?_)
  obtain⟨oe,e1,e2⟩:=he
  have z2:Cg g2 z TI TO .ellipsis:=b2 _ _ D.i1z.symm z1
  have ne:e≠z:=fun x=>by subst x;rw [z2] at e1;cases e1;simp at e2
  exact Fo z2 (by simp) fun g3 _ b3=>q g3 e (fun c o c1 _ c3 _ x=>b3.extBut _ _ c1 (b2 _ _ c3 (b1.extBut _ _ c1 x))) ⟨oe,b3.extBut _ _ ne e1,e2⟩
 | some x =>
  have ey:ys[k]?=none:=en.resolve_left fun z=>by rw [ex] at z;cases z
  refine Ap (HY (t1.extBut b1.extBut D.i1z) (u1.extBut b1.extBut D.l1z) ex fun g2 r2 b2=>AH ?_)
  have o2:BM g2 TO a b:=b2.extBut _ _ D.TOi1 (b1.extBut _ _ D.TOz po)
  refine Ap (Ej o2 rfl ?_)
  refine Ap (HZ o2 fun g3 o3 b3=>?_)
  refine Ap (wpAny_letGo (AH ?_));refine Ap (Ap (GJ ?_))
  show Av _ _ (Ei (.ref i2) >>= _) _ _ _
  refine Ap (zll hh (((t2.extBut b1.extBut D.i2z).extBut b2.extBut D.i12.symm).extBut b3.extBut D.TOi2.symm) (((u2.extBut b1.extBut D.l2z).extBut b2.extBut D.l2i1).extBut b3.extBut D.l2TO) ey fun g4 e b4 he=>?_)
  obtain⟨oe,e1,e2⟩:=he
  have z4:Cg g4 z TI TO .ellipsis:=b4 _ _ D.i2z.symm (b3.extBut _ _ D.TOz.symm (b2.extBut _ _ D.i1z.symm z1))
  have ne:e≠z:=fun x=>by subst x;rw [z4] at e1;cases e1;simp at e2
  exact Fo z4 (by simp) fun g5 _ b5=>q g5 e (fun c o c1 c2 c3 c4 x=>b5.extBut _ _ c1 (b4 _ _ c4 (b3.extBut _ _ c2 (b2.extBut _ _ c3 (b1.extBut _ _ c1 x))))) ⟨oe,b5.extBut _ _ ne e1,e2⟩
theorem ztu{TI TO:ir}{Q:Option dm->kb->Prop}(D:ZA z TI TO i1 i2 l t)(zz:Cg s.heap z TI TO .none)(pi:BM s.heap TI (.ref i1) (.ref i2))(po:BM s.heap TO a b)
  (t1:s.heap.IsListIter i1 l k)(t2:s.heap.IsTupleIter i2 t k)(u1:s.heap.IsList l xs)(u2:s.heap.IsTuple t ys)(ex:xs[k]?=some x)(ey:ys[k]?=some y)
  (q:∀ h',Cg h' z TI TO (C4 s.heap.objs.size)->BM h' TO x y->h'.IsListIter i1 l (k+1)->h'.IsTupleIter i2 t (k+1)->BM h' s.heap.objs.size x y ->
   (∀ c o,c≠z->c≠TO->c≠i1->c≠i2->s.heap.get? c=some o->h'.get? c=some o)->Q (some (.ref s.heap.objs.size)) { s with heap:=h' }):Av (Ax prog w) A (Df (.ref z)) Q E s:=by
 have ty:s.TypeIs (.ref z) "zip":=⟨_,zz,rfl⟩
 unfold Df
 exact Ap (Gu (Ec (name:=BD "__next__") ty GK (Dl GK ty F.entry_zip_next (ztr D zz pi po t1 t2 u1 u2 ex ey fun h' a1 a2 a3 a4 a5 a6=>AH (q h' a1 a2 a3 a4 a5 a6)) (F.args_zip_next_1 _))))
theorem ztt{TI TO:ir}{Q:Option dm->kb->Prop}(hh:A.handled=none)(D:ZA z TI TO i1 i2 l t)(zz:Cg s.heap z TI TO .none)(pi:BM s.heap TI (.ref i1) (.ref i2))(po:BM s.heap TO a b)
  (t1:s.heap.IsListIter i1 l k)(t2:s.heap.IsTupleIter i2 t k)(u1:s.heap.IsList l xs)(u2:s.heap.IsTuple t ys)(en:xs[k]?=none\/ys[k]?=none)
  (q:∀ h',(∀ c o,c≠z->c≠TO->c≠i1->c≠i2->s.heap.get? c=some o->h'.get? c=some o)->Q none { s with heap:=h' }):Av (Ax prog w) A (Df (.ref z)) Q E s:=by
 have ty:s.TypeIs (.ref z) "zip":=⟨_,zz,rfl⟩
 unfold Df
 refine Ap (Gu (Ec (name:=BD "__next__") ty GK (Dl GK ty F.entry_zip_next (ztq hh D zz pi po t1 t2 u1 u2 en fun h' e k1 ⟨o,ho,hc⟩=>?_) (F.args_zip_next_1 _))))
 exact Ap (HI (T:="StopIteration") (b:=true) ⟨o,ho,hc⟩ isSubtype_stop (AH (q _ k1)))
end
abbrev Am(h:AD)(l t:ir):AD:=(zipH1 h l).push { cls:=.type "tuple_iterator",data:=.fields #[.ref t,.int 0 0] }
abbrev An(h:AD)(l t:ir):AD:=(Am h l t).push { cls:=.type "tuple",data:=.seq #[.ref h.objs.size,.ref (zipH1 h l).objs.size] }
abbrev Ao(h:AD)(l t:ir):AD:=(An h l t).push { cls:=.type "tuple",data:=.seq #[.none,.none] }
abbrev tJ(h:AD)(l t:ir):AD:=(Ao h l t).push { cls:=.type "zip",data:=.fields #[.none,.bool false,.bool false,.ref (Am h l t).objs.size,.ref (An h l t).objs.size] }
theorem zts(l t:ir)(xs ys:Array dm):Meets (Ce.«zip.__new__» ⟨[.type "zip",.ref l,.ref t],[]⟩) (fun _ R s=>s.heap.IsList l xs/\s.heap.IsTuple t ys/\R (.ok (.ret (.ref (Ao s.heap l t).objs.size))) { s with heap:=tJ s.heap l t }) :=
 .of_wp fun prog w A R s h=>by
  obtain⟨hp,g,d,tk,os⟩:=s;obtain⟨a1,a2,h⟩:=h
  have ztz:=sub_zip
  have b1:Heap.IsList (Shared.heap ⟨hp,g,d,tk,os⟩) l xs:=a1
  have b2:Heap.IsTuple (Shared.heap ⟨hp.push { cls:=.type "list_iterator",data:=.fields #[.ref l,.int 0 0] },g,d,tk,os⟩) t ys:=Heap.IsTuple.push a2 _
  wp_walk using FH b1,wpAny_pyIter_tuple b2
  exact⟨_,rfl,h⟩
variable {P:AO}{pos:Az}{es:List Aq}
section
theorem ztp(u1:s.heap.IsList l xs)(u2:s.heap.IsTuple t ys)
  (q:∀ h',Cg h' (s.heap.objs.size+4) (s.heap.objs.size+2) (s.heap.objs.size+3) .none->BM h' (s.heap.objs.size+2) (.ref s.heap.objs.size) (.ref (s.heap.objs.size+1)) ->
   BM h' (s.heap.objs.size+3) .none .none->h'.IsListIter s.heap.objs.size l 0->h'.IsTupleIter (s.heap.objs.size+1) t 0 ->
   (∀ c o,s.heap.get? c=some o->h'.get? c=some o)->Q (.ref (s.heap.objs.size+4)) { s with heap:=h' }):Av (Ax prog w) A (call (.type "zip") [.ref l,.ref t]) Q E s:=by
 refine callType_new F.called_zip (by decide) (F.typeCall_zip_2 _ _) (F.newCall_zip_2 _ _) (fun obj=>F.args_object_init_3 obj _ _) F.entry_zip_new (zts l t xs ys) ⟨u1,u2,?_⟩
 have n1:(zipH1 s.heap l).objs.size=s.heap.objs.size+1:=Cv ..
 have n2:(Am s.heap l t).objs.size=s.heap.objs.size+2:=by rw [Cv,n1]
 have n3:(An s.heap l t).objs.size=s.heap.objs.size+3:=by rw [Cv,n2]
 have n4:(Ao s.heap l t).objs.size=s.heap.objs.size+4:=by rw [Cv,n3]
 have up:∀{h:AD} {c:ir} {o u:AA},h.get? c=some o->(h.push u).get? c=some o:=fun e=>A5 _ e
 have g5:(tJ s.heap l t).get? (Ao s.heap l t).objs.size=some _:=Bl _ rfl
 have g4:(tJ s.heap l t).get? (An s.heap l t).objs.size=some _:=up (Bl _ rfl)
 have g3:(tJ s.heap l t).get? (Am s.heap l t).objs.size=some _:=up (up (Bl _ rfl))
 have g2:(tJ s.heap l t).get? (zipH1 s.heap l).objs.size=some _:=up (up (up (Bl _ rfl)))
 have g1:(tJ s.heap l t).get? s.heap.objs.size=some _:=up (up (up (up (Bl _ rfl))))
 show _/\_
 rw [n2,n3,n4] at g5
 rw [n1,n2] at g3
 rw [n3] at g4
 rw [n1] at g2
 rw [n4]
 exact⟨⟨_,g5,rfl⟩,q _ g5 g3 g4 ⟨_,g1,rfl,rfl⟩ ⟨_,g2,rfl,rfl⟩ fun c o x=>up (up (up (up (up x))))⟩
end
def zaq(K:ox)(a b:ir):It :=
 ⟨fun i H=>∃ xs ys x y,bB K H a xs/\dO K H b ys/\xs[i]?=some x/\ys[i]?=some y,
  fun i H x H'=>∃ t u v,x=.ref t/\H t=none/\H'=upd H t (.tup [u,v])/\(∀ xs,bB K H a xs->xs[i]?=some u)/\∀ ys,dO K H b ys->ys[i]?=some v,
  fun i H=>∃ xs ys,bB K H a xs/\dO K H b ys/\(xs.length<=i\/ys.length<=i)⟩
def tnT(z TI TO i1 i2 a b:ir)(i:Nat)(h:AD):Prop:=Cg h z TI TO .none/\BM h TI (.ref i1) (.ref i2)/\(∃ u v,BM h TO u v)/\h.IsListIter i1 a i/\h.IsTupleIter i2 b i
theorem zs6{K:ox}(z TI TO i1 i2 a b:ir)(D:ZA z TI TO i1 i2 a b):Turn P w K (.Tuple es k pos) (zaq K a b) [z,TI,TO,i1,i2] z (tnT z TI TO i1 i2 a b) where
 mem:=by simp
 obj:=fun i h st c hc=>by
  obtain⟨h1,h2,⟨u,v,h3⟩,⟨o4,h4,_,d4⟩,⟨o5,h5,_,d5⟩⟩:=st
  simp only [AX,B1,or_false] at hc
  rcases hc with rfl|rfl|rfl|rfl|rfl
  ·exact⟨_,h1,fun v z=>by cases z⟩
  ·exact⟨_,h2,fun v z=>by cases z⟩
  ·exact⟨_,h3,fun v z=>by cases z⟩
  ·exact⟨_,h4,fun v z=>by rw [d4] at z;cases z⟩
  ·exact⟨_,h5,fun v z=>by rw [d5] at z;cases z⟩
 keep:=fun i h h' st k=>by
  obtain⟨h1,h2,⟨u,v,h3⟩,h4,o,h5,r⟩:=st
  exact⟨k _ (by simp) _ h1,k _ (by simp) _ h2,⟨u,v,k _ (by simp) _ h3⟩,h4.at fun o e=>k _ (by simp) o e,o,k _ (by simp) o h5,r⟩
 item:=by
  intro X hP hw hK hc i pins s σ H E I hf st hg
  subst hP hw hK
  obtain⟨xs,ys,x,y,fV,mR,hx,hy⟩:=hg
  obtain⟨jQ,f7,px,_⟩:=I.list fV
  obtain⟨rQ,lU,py,_⟩:=I.tuple mR
  obtain⟨ux,pV,qu⟩:=f7.get hx
  obtain⟨uy,huy,ruy⟩:=lU.get hy
  obtain⟨h1,h2,⟨u,v,h3⟩,h4,h5⟩:=id st
  have iN:∀ c∈[z,TI,TO,i1,i2],c<s.heap.objs.size:=fun c hc=>by
   obtain⟨o4,e4,_⟩:=id h4
   obtain⟨o5,e5,_⟩:=id h5
   simp only [AX,B1,or_false] at hc
   rcases hc with rfl|rfl|rfl|rfl|rfl
   ·exact AV h1
   ·exact AV h2
   ·exact AV h3
   ·exact AV e4
   ·exact AV e5
  refine ztu D h1 h2 h3 h4 h5 px.isList py (by simpa using pV) (by simpa using huy) fun h' a1 a2 a3 a4 a5 hk=>?_
  refine⟨_,rfl,IE a1 fun gZ b1 sb=>?_⟩
  have qK:=iN z (by simp)
  have k2:∀ c o,c∉[z,TI,TO,i1,i2]->s.heap.get? c=some o->gZ.get? c=some o:=fun c o hc e=>by
   simp only [AX,B1,or_false,not_or] at hc
   exact sb.extBut c o hc.1 (hk c o hc.1 hc.2.2.1 hc.2.2.2.1 hc.2.2.2.2 e)
  have ht:gZ.get? s.heap.objs.size=some { cls:=.type "tuple",data:=.seq #[ux,uy] }:=sb.extBut _ _ (De qK) a5
  refine⟨.ref s.heap.objs.size,_,Inv.zQ (s:=s) (h':=gZ) (t':=s.toks) (fp:=[z,TI,TO,i1,i2]) I (xs:=[x,y]) (us:=[ux,uy]) k2 hf iN ht (.cons qu (.cons ruy .nil)) (by rw [BU];show 2<=16777216;decide),rfl,
   ⟨_,x,y,rfl,I.az.fresh (AI _),rfl,fun zs hz=>by rw [I.rV hz fV];exact hx,fun zs hz=>by rw [I.zh8 hz mR];exact hy⟩,?_,fun c hc=>?_⟩
  ·obtain⟨o,e,r⟩:=a4
   exact⟨b1,sb.extBut _ _ D.TIz (hk _ _ D.TIz D.TITO D.TIi1 D.TIi2 h2),⟨_,_,sb.extBut _ _ D.TOz a2⟩,a3.extBut sb.extBut D.i1z,o,sb.extBut _ _ D.i2z e,r⟩
  ·rw [bh (Bg (iN c hc))]
   exact(hf c hc).1
 done:=by
  intro X hP hw hK hc i pins s σ H E I hf st hg
  subst hP hw hK
  obtain⟨xs,ys,fV,mR,u6⟩:=hg
  obtain⟨jQ,f7,px,_⟩:=I.list fV
  obtain⟨rQ,lU,py,_⟩:=I.tuple mR
  obtain⟨h1,h2,⟨u,v,h3⟩,h4,h5⟩:=id st
  have lx:=f7.length
  have ly:=lU.length
  refine ztt (I.ok.hd hc) D h1 h2 h3 h4 h5 px.isList py ?_ fun h' hk=>⟨rfl,I.qE (t':=s.toks) (fun c o hc e=>?_) hf⟩
  ·rcases u6 with h|h
   ·exact .inl (by simp;lia)
   ·exact .inr (by simp;lia)
  ·simp only [AX,B1,or_false,not_or] at hc
   exact hk c o hc.1 hc.2.2.1 hc.2.2.2.1 hc.2.2.2.2 e
 self:=fun _ _ _ _ _ st h=>FG st.1 h
variable {ta:TA}{X:Cx}{p0:Az}
section
def zmr(K:ox)(ta:TA):TI:=fun σ H R=>ta σ H fun vs H1=>∃ a b,vs=[.ref a,.ref b]/\(∃ xs,bB K H1 a xs)/\(((∃ ys,bB K H1 b ys)/\R (wN K a b) H1)\/((∃ ys,dO K H1 b ys)/\R (zaq K a b) H1))
theorem zp5{a b:Aq}{p:Az}(hg:Gl X "zip") (hm:X.mg "zip"=none) (ha:PA X [a,b] ta) (hs:Au [a,b] X.env=[(false,Ay a X.env),(false,Ay b X.env)]:=by rfl) (dh:Au [b] X.env=[(false,Ay b X.env)]:=by rfl) :
  PI X (.Tuple es k p0) (.Call (.Name "zip" p) [a,b] [] pos) (zmr X.K ta):=by
 intro pins s σ H R I h
 refine Call_ (mX I hg hm (by decide +kernel:Bs "zip"=some (.type "zip")) (E1 (aI (ha pos pins s σ H _ I h) fun us s1 ⟨vs,H1,I1,r1,q1⟩=>?_) (by rw [hs,dh]) (by rw [dh];rfl)))
 obtain⟨l1,l2,e,⟨xs,hx⟩,q⟩:=q1
 subst e
 cases r1 with
 | cons r rr =>
  cases rr with
  | cons r' rr =>
   cases rr
   cases r
   cases r'
   obtain⟨jQ,f7,px,_⟩:=I1.list hx
   have hl1:Ff l1 s1.heap.objs.size:=by obtain⟨o,e,_⟩:=px.isList;exact AV e
   have q1:∀ n:Nat,l1≠s1.heap.objs.size+n:=fun n=>Bg (BL hl1 (Ee _ _))
   have fin:∀ c∈[s1.heap.objs.size+4,s1.heap.objs.size+2,s1.heap.objs.size+3,s1.heap.objs.size,s1.heap.objs.size+1],gi X pins H1 c:=fun c hc=>by
    have gD:s1.heap.objs.size<=c:=by
     simp only [AX,B1,or_false] at hc
     rcases hc with rfl|rfl|rfl|rfl|rfl <;> first|exact Ee _ _|exact AI _
    exact I1.jJ gD (I1.az.fresh gD)
   have apt:∀ l2,Ff l2 s1.heap.objs.size->ZA (s1.heap.objs.size+4) (s1.heap.objs.size+2) (s1.heap.objs.size+3) s1.heap.objs.size (s1.heap.objs.size+1) l1 l2:=fun l2 j7=>by
    have q2:∀ n:Nat,l2≠s1.heap.objs.size+n:=fun n=>Bg (BL j7 (Ee _ _))
    constructor <;> first|exact q1 _|exact q2 _|exact q1 0|exact q2 0|exact Bg (by lia)|exact De (by lia)
   rcases q with⟨⟨ys,hy⟩,q⟩|⟨⟨ys,hy⟩,q⟩
   ·obtain⟨rQ,lU,py,_⟩:=I1.list hy
    have j7:Ff l2 s1.heap.objs.size:=by obtain⟨o,e,_⟩:=py.isList;exact AV e
    refine call_zip_2 px.isList py.isList fun h' g1 g2 g3 g4 g5 g6 hk=>?_
    exact FG g1 ⟨_,[s1.heap.objs.size+4,s1.heap.objs.size+2,s1.heap.objs.size+3,s1.heap.objs.size,s1.heap.objs.size+1],_,_,H1,rfl,I1.kept (t':=s1.toks) hk,zh9 _ _ _ _ _ l1 l2 (apt l2 j7),⟨g1,g2,⟨_,_,g3⟩,g4,g5⟩,fin,q⟩
   ·obtain⟨rQ,lU,py,_⟩:=I1.tuple hy
    have j7:Ff l2 s1.heap.objs.size:=by obtain⟨o,e,_⟩:=py;exact AV e
    refine ztp px.isList py fun h' g1 g2 g3 g4 g5 hk=>?_
    exact FG g1 ⟨_,[s1.heap.objs.size+4,s1.heap.objs.size+2,s1.heap.objs.size+3,s1.heap.objs.size,s1.heap.objs.size+1],_,_,H1,rfl,I1.kept (t':=s1.toks) hk,zs6 _ _ _ _ _ l1 l2 (apt l2 j7),⟨g1,g2,⟨_,_,g3⟩,g4,g5⟩,fin,q⟩
end
end L2
namespace FL
open PySem L2 PySem.Spec
open PyProof.Rows hiding St
variable {fa:AF}{k:Nat}{H:Hp}{pos:Az}{X:Cx}{es:List Aq}
section
def zto:List D->R (List D)
 | [.list l,.list m]=>.ok (eO l m)
 | [.list l,.tuple m]=>.ok (eO l m)
 | _=>.bad
def zfJ(fa:AF):IF:=fun ρ=>(fa ρ).bind fun x=>(zto x.1).bind fun l=>.ok (l,x.2)
section
variable [Cs]{K:ox}{e e':Aq}{p0 p:Az}
theorem ztj{a b:ir}{vs ws:List V}{l m:List D}(h:kB K H a vs)(f:aj K H l vs)(h':dH H b ws)(f':aj K H m ws):Walk K (zaq K a b) (eO l m) H:=by
 refine⟨fun i d H' fz e=>?_,fun i H' fz e=>⟨vs,ws,(fz.gf h).sq,.inl (fz.qy h'),?_⟩⟩
 ·obtain⟨x,y,e1,e2,rfl⟩:=zdp e
  obtain⟨u,eu,fu⟩:=(f.mono fz).get e1
  obtain⟨v,ev,fv⟩:=(f'.mono fz).get e2
  refine⟨⟨vs,ws,u,v,(fz.gf h).sq,.inl (fz.qy h'),eu,ev⟩,fun x iF y=>?_⟩
  obtain⟨t,u',v',rfl,ht,rfl,hu,hv⟩:=y
  have ex:=hu vs (fz.gf h).sq
  rw [eu] at ex
  cases ex
  have ex:=hv ws (.inl (fz.qy h'))
  rw [ev] at ex
  cases ex
  exact⟨aB.upd ht,yh ht fu fv⟩
 ·rw [zdq] at e
  rw [f.len,f'.len]
  lia
theorem zq2(hg:Gl X "zip") (hm:X.mg "zip"=none) (ha:dG K X [e,e'] fa) (hs:Au [e,e'] X.env=[(false,Ay e X.env),(false,Ay e' X.env)]:=by rfl) (dh:Au [e'] X.env=[(false,Ay e' X.env)]:=by exact FL.se rfl):gz K X (.Tuple es k p0) (.Call (.Name "zip" p) [e,e'] [] pos) (zfJ fa):=.mk fun hK=>by
 subst hK
 refine(zp5 hg hm (ha rfl) hs dh).weak fun σ H R=>?_
 rintro⟨ρ,rel,q⟩
 refine lL rel q fun ds ρ1 vs H1 ak aK fs q1=>?_
 obtain⟨items,ei,q2⟩:=q1.bV
 match ds,ei,fs with
 | [.list a,.list b],ei,fs =>
  cases ei
  simp only [aj,Fz] at fs
  obtain⟨_,_,rfl,⟨l,vs,rfl,sx,f⟩,_,_,rfl,⟨l',qH,rfl,oJ,f'⟩,rfl⟩:=fs
  exact⟨l,l',rfl,⟨vs,sx.sq⟩,.inl ⟨⟨qH,oJ.sq⟩,q2.now ak _ (zin sx f oJ f')⟩⟩
 | [.list a,.tuple b],ei,fs =>
  cases ei
  simp only [aj,Fz] at fs
  obtain⟨_,_,rfl,⟨l,vs,rfl,sx,f⟩,_,_,rfl,⟨l',qH,rfl,oJ,f'⟩,rfl⟩:=fs
  exact⟨l,l',rfl,⟨vs,sx.sq⟩,.inr ⟨⟨qH,.inl oJ⟩,q2.now ak _ (ztj sx f oJ f')⟩⟩
end
end
section
end
end FL
namespace FL
open PySem
end FL
namespace L2
open PySem PySem.Spec PyProof.Rows
end L2
namespace FL
open PySem L2 PySem.Spec
open PyProof.Rows hiding St
variable [Cs]
end FL
namespace L2
open PySem PySem.Spec PyProof.Rows
end L2
namespace FL
open PySem L2 PySem.Spec
open PyProof.Rows hiding St
section
variable [Cs]
end
section
noncomputable def zdu(dom:List Nat):Nat->En->En->Prop
 | _,[],[]=>True
 | k,x0::r0,x::r=>((k∈dom/\∀ p c,x≠.ow p c)\/(x=x0/\∀ p c,x≠.ow p c)\/(k∉dom/\∃(p:Bool) (ns:List Int),x=.ow p (.list (ns.map A8))))/\zdu dom (k+1) r0 r
 | _,_,_=>False
open Classical in
noncomputable def ztE(dom:List Nat)(ρ0:En):SF:=fun ρ=>if zdu dom 0 ρ0 ρ/\∀ k∈dom,k<ρ.length then .ok (.nx,kill dom ρ) else .bad
def LL2(d:D):Prop:=∃ rows:List (List D),rows.length<=1000/\d=.list (rows.map Dq)
open Classical in
noncomputable def ztG(i:Nat)(f:EF)(t:SF):SF:=fun ρ=>(f ρ).bind fun y=>if LL2 y.1 then(gN i y.1 y.2).bind t else .bad
variable [Cs]
end
section
mutual
def flat:D->Bool
 | .list _=>false
 | .dict _=>false
 | .tuple xs=>zbr xs
 | _=>true
def zbr:List D->Bool
 | []=>true
 | d::r=>flat d&&zbr r
end
noncomputable def zls:Sl->Bool
 | .val d=>flat d
 | .ob _ ds=>zbr ds
 | _=>false
noncomputable def zgL:Sl->Bool
 | .ow _ _=>false
 | _=>true
def zmy:Sl->Bool
 | .ow _ (.list l)=>(intsOf l).isSome
 | _=>false
def E3(dead dom:List Nat):Nat->En->En->Prop
 | _,[],[]=>True
 | k,x0::r0,x::r=>((k∈dead/\zgL x=true)\/(k∉dead/\(x=.no\/(x=x0/\k∉dom/\zgL x=true)\/zls x=true\/zmy x=true)))/\E3 dead dom (k+1) r0 r
 | _,_,_=>False
open Classical in
noncomputable def ztD(dead dom:List Nat)(t:SF)(ρ0:En):SF:=fun ρ=>if E3 dead dom 0 ρ0 ρ/\∀ k∈dead,k<ρ.length then t (kill dead ρ) else .bad
variable [Cs]
end
variable {j k:Nat}{P:AO}{g:EF}{b s:SF}{fd:Bw}{C:SC}{c:String}{fa:AF}{H:Hp}{p pos:Az}{e:Aq}{E:XK}{f x:gV}{ns ps:List gV}{es:List Aq}{w:AJ}{G:List D->R D}{base:AD}{X:Cx}{β:Type}{r:R (Fl×En)}{mg:gV->Option dm}{ks:List (Option String)}
section
def oE(s:SF):SF:=fun ρ=>(s ρ).bind fun x=>match x.1 with
 | .nx=>.ok x
 | _=>.bad
def zC(f:EF):SF:=fun ρ=>(f ρ).bind fun x=>.ok (.rt x.1,x.2)
def v3(ks:List (Option String))(n:Nat)(b:SF)(ds:List D):R D :=
 if ds.length=ks.length then(b (CD gv ks ds++AB (n-ds.length) .no)).bind fun x=>match x.1 with
  | .rt (.tuple fs)=>.ok (.tuple fs)
  | _=>.bad
 else .bad
section
variable [Cs]{K:ox}
def oS(K:ox)(C:SC)(c:String)(H:Hp)(r:R (Fl×En))(Dn:Ends):Prop:=match r with
 | .ok x=>match x.1 with
  | .nx=>∀ σ' H',bU K C x.2 σ' H'->aH H H'->Dn.nx σ' H'
  | .rt d=>∀ a fs σ' H',d=.tuple fs->bU K C x.2 σ' H'->lF K H' a c fs->Dn.rt (.ref a) H'
  | _=>False
 | _=>False
theorem oS.step{H1:Hp}{Dn:Ends}(f:aH H H1)(g:oS K C c H r Dn):oS K C c H1 r Dn:=by
 cases r with
 | ok x =>
  obtain⟨fl,ρ⟩:=x
  cases fl with
  | nx=>exact fun σ' H' r z=>g σ' H' r (f.trans z)
  | _=>exact g
 | _=>exact g
theorem oS.bJ{r:R β}{k:β->R (Fl×En)}{Dn:Ends}(g:oS K C c H (r.bind k) Dn):∃ x,r=.ok x/\oS K C c H (k x) Dn:=by
 cases r with
 | ok x=>exact⟨x,rfl,g⟩
 | _=>exact g.elim
noncomputable def tST(K:ox)(C:SC)(c:String)(f:SF):TS:=fun Dn σ H=>∃ ρ,bU K C ρ σ H/\oS K C c H (f ρ) Dn
structure wU(K:ox)(X:Cx)(c:String)(st:AU)(f:SF):Prop where
 run:X.K=K->∀ C,PS X st (tST K C c f)
structure oX(K:ox)(X:Cx)(c:String)(st:List AU)(f:SF):Prop where
 run:X.K=K->∀ C,cG X st (tST K C c f)
variable {st:AU}{rest:List AU}{t:SF}
theorem vL(h:cI K X st s):wU K X c st (oE s):=.mk fun hK C=>(h hK C).weak fun Dn σ H=>by
 rintro⟨ρ,rel,g⟩
 refine⟨ρ,rel,?_⟩
 obtain⟨x,ex,g1⟩:=g.bJ
 rw [ex]
 obtain⟨fl,ρ1⟩:=x
 cases fl with
 | nx=>exact g1
 | _=>exact g1.elim
theorem vM(h1:wU K X c st s)(h2:oX K X c rest t):oX K X c (st::rest) (av s t):=.mk fun hK C=>(zg (h1.run hK C) (h2.run hK C)).weak fun Dn σ H=>by
 rintro⟨ρ,rel,g⟩
 refine⟨ρ,rel,?_⟩
 obtain⟨x,ex,g1⟩:=g.bJ
 rw [ex]
 obtain⟨fl,ρ1⟩:=x
 cases fl with
 | nx=>exact fun σ' H' r z=>⟨ρ1,r,g1.step z⟩
 | rt d=>exact g1
 | _=>exact g1.elim
theorem zqx(h1:wU K X c st s):oX K X c [st] s:=.mk fun hK C=>zcK (h1.run hK C)
theorem zqv{f:EF}(he:mB K X c e f):wU K X c (.Return (some e) pos) (zC f):=.mk fun hK C=>(zc (he hK)).weak fun Dn σ H=>by
 rintro⟨ρ,rel,g⟩
 obtain⟨x,ex,g1⟩:=g.bJ
 refine⟨ρ,rel.rel,?_⟩
 rw [ex]
 intro H1 r1 aK a fs uH ob
 exact g1 a fs σ H1 uH (rel.step r1 aK) ob
end
section
variable [Cs]{K:ox}
def spT(K:ox)(ks:List (Option String))(c:String)(G:List D->R D):Sp:=fun vs H Q _=>∃ ds,kA H/\kC K H ks ds vs/\∃ fs,G ds=.ok (.tuple fs)/\∀ a H',aB H H'->lF K H' a c fs->Q (.ref a) H'
theorem zlz{q:gV}{st:AU}{f:ir}{N:List gV}(ks:List (Option String))(h:e9 K x q st f fd)(S:iY N ps (bG st))(fU:ps.length=ks.length)(iK:ps.length<=N.length)
  (hb:∀(aJ:dm) (A:AY) (outer:List Bb) (s:kb) (H:Hp) (E:XK),bp k (A.deeper (B3 q (bG st) s.heap.objs.size f aJ))->oX K (gR (cF P w) P w K mg base N q (bG st) f aJ A outer s H E) c (dR st) b) :
  dj P w K mg base (cF P w) (k+1) f fd ps (spT K ks c (v3 ks N.length b)):=by
 refine h.yY S (fun vs H Q E ⟨ds,_,e,_⟩=>by rw [e.len.1,fU]) fun aJ A outer s H vs Q E hr hq=>?_
 obtain⟨ds,cst,fa,fs,hF,q⟩:=hq
 obtain⟨hv,hd⟩:=fa.len
 have cK:L2.start N vs=vs.map some++AB (N.length-ds.length) none:=by unfold L2.start;rw [hv,hd]
 have no:∀(i:Nat) p d,(CD gv ks ds++AB (N.length-ds.length) .no)[i]?≠some (.ow p d):=fun i p d e=>by
  by_cases c:i<(CD gv ks ds).length
  ·rw [B4 c] at e
   exact zdo e
  ·rw [Dj (by lia),C1] at e
   split at e <;> cases e
 refine⟨tST K ⟨H,L2.start N vs,CD gv ks ds++AB (N.length-ds.length) .no⟩ c b,(hb aJ A outer s H E hr).run rfl _,CD gv ks ds++AB (N.length-ds.length) .no,?_,?_⟩
 ·refine⟨?_,fun a o e _=>e,fun i a d e _=>absurd e (no i false d),fun i=>Fj,fun i d e=>rfl,fun i p d e=>absurd e (no i p d)⟩
  rw [cK]
  exact(zhB cst fa).pad _
 ·unfold v3 at hF
  rw [if_pos hd] at hF
  obtain⟨z,ez,ey⟩:=bZ hF
  rw [ez]
  obtain⟨fl,ρ'⟩:=z
  have kp:∀(ρ':En) (σ':L2.St) (H':Hp),bU K ⟨H,L2.start N vs,CD gv ks ds++AB (N.length-ds.length) .no⟩ ρ' σ' H'->aB H H':=fun ρ' σ' H' r b o e=>r.keep b o e fun⟨i,⟨p,d,z⟩,_⟩=>no i p d z
  cases fl with
  | rt dr =>
   cases dr with
   | tuple gs =>
    cases ey
    intro a hs σ' H' e r ob
    cases e
    exact q a H' (kp _ _ _ r) ob
   | _=>cases ey
  | _=>cases ey
end
section
variable [Cs]{K:ox}
theorem zq9(cl:Callee X.prog X.w X.K X.mg X.base x k ps (spT X.K ks c G))(hr:bp j X.A)(hg:Gl X x)(hx:Passes (cF X.prog X.w) X E)(ha:qS K X ks (e::es) fa)(hj:k<=j:=by decide)(bE:(x==("__debug__":gV))=false:=by decide)
  (he:Au (e::es) X.env=(false,Ay e X.env)::Au es X.env:=by exact FL.se rfl) (aY:(A0 pos (Au es X.env)).any (·.1)=false:=by exact FL.sp rfl):mB K X c (.Call (.Name x p) (e::es) [] pos) (je G fa):=fun hK=>by
 subst hK
 refine(vI cl hr hg hx (ha rfl) hj bE he aY).weak fun σ H Q=>?_
 rintro⟨ρ,rel,q⟩
 obtain⟨y,ey,q0⟩:=q.bJ
 refine⟨ρ,rel,?_⟩
 rw [ey]
 intro H1 ak aK vs fs
 obtain⟨d,ed,q2⟩:=(q0.step aK).bV
 rw [DB]
 cases d with
 | tuple gs=>exact⟨y.1,ak.cst,fs,gs,ed,fun a H' s ob=>q2.new ak s a gs rfl ob⟩
 | _=>exact q2.elim
def nN(j:Nat)(f:EF):EF:=fun ρ=>(f ρ).bind fun x=>match x.1 with
 | .tuple fs=>(R.of fs[j]?).bind fun d=>.ok (d,x.2)
 | _=>.bad
theorem zqM{C:ir}(ho:Cs.O c=some (C,ns))(hj:ns[j]?=some f)(hn:ns.Nodup)(hc:gw K C)(na:iZ K C f)(hv:mB K X c e g)(hb:DA e f X.env (Ay e X.env)=Ay e X.env:=by rfl) :
  PV K X (.Attribute e f pos) (nN j g):=.mk fun hK=>by
 subst hK
 refine(zgZ (hv rfl) hb).weak fun σ H Q=>?_
 rintro⟨ρ,rel,q⟩
 obtain⟨x,ex,q1⟩:=q.bJ
 refine⟨ρ,rel,?_⟩
 rw [ex]
 intro H1 r1 aK a fs uH ob
 obtain⟨d,ρ1⟩:=x
 cases uH
 obtain⟨d,ed,q2⟩:=(q1.step aK).bV
 obtain⟨C',c9,dx,vs,h1,h2,h3,h4⟩:=ob
 rw [ho] at h1
 cases h1
 have mM:fs[j]?=some d:=by
  cases q:fs[j]? with
  | none=>rw [q] at ed;cases ed
  | some z=>rw [q] at ed;cases ed;rfl
 obtain⟨v,ev,fv⟩:=h4.get mM
 exact⟨a,C,dx,ns.zip vs,v,rfl,h2,hc,na,zce hn hj ev,q2.now r1 v fv⟩
end
section
variable [Cs]{K:ox}{C:ir}
theorem zcP(cc:Callee X.prog X.w X.K X.mg X.base x k ps (spT X.K ks c G))(hr:bp j X.A)(ha:qS K X ks (e::es) fa)(hg:Gl X x:=by rfl)(hj:k<=j:=by decide)(bE:(x==("__debug__":gV))=false:=by decide)
  (he:Au (e::es) X.env=(false,Ay e X.env)::Au es X.env:=by exact FL.se rfl) (aY:(A0 pos (Au es X.env)).any (·.1)=false:=by exact FL.sp rfl):mB K X c (.Call (.Name x p) (e::es) [] pos) (je G fa):=zq9 cc hr hg qf ha hj bE he aY
theorem zhk(j:Nat)(B:Ob K c C ns)(hv:mB K X c e g)(hj:ns[j]?=some f:=by rfl)(hb:DA e f X.env (Ay e X.env)=Ay e X.env:=by rfl):PV K X (.Attribute e f pos) (nN j g) :=
 zqM B.o hj B.nd B.c (B.na f (Ck hj)) hv hb
theorem zqw{st:List AU}(h:oX K X.kg c st s):oX K X c st s:=.mk fun hK C=>cG.kg (h.run hK C)
end
abbrev CTT[Cs](x:gV)(k:Nat)(ps:List gV)(ks:List (Option String))(c:String)(G:List D->R D)(P:AO)(w:AJ)(K:ox)(mg:gV->Option dm)(base:AD):Prop:=Callee P w K mg base x k ps (spT K ks c G)
section
variable [Cs]{K:ox}{st:AU}
theorem fnB(ks:List (Option String))(N:List gV)(h:aD K mg x st)
  (hb:∀{f:ir} {aJ:dm} {A:AY} {outer:List Bb} {s:kb} {H:Hp} {E:XK},bp k (A.deeper (B3 x (bG st) s.heap.objs.size f aJ))->N.Nodup->oX K (gR (cF P w) P w K mg base N x (bG st) f aJ A outer s H E).kg c (dR st) b)
  (S:iY N ps (bG st):=by exact⟨rfl,rfl,rfl,by decide +kernel,rfl,by decide +kernel,by decide +kernel⟩)(fU:ps.length=ks.length:=by rfl)(iK:ps.length<=N.length:=by decide)
  (kP:∀(kV doc pm:dm) (an:Option ir) (aJ ct:dm) (us:List dm),us.length=ps.length->D9 (Cm x x (jb st) (dR st) (bG st) .none kV doc pm an aJ ct) ⟨us,[]⟩=pure (ps.zip us):=by
   first
    | exact fun _ _ _ _ _ _=>uI fun _=>rfl
    | exact fun _ _ _ _ _ _=>uJ fun _ _=>rfl
    | exact fun _ _ _ _ _ _=>uK fun _ _ _=>rfl
    | exact fun _ _ _ _ _ _=>yc fun _ _ _ _=>rfl):Callee P w K mg base x (k+1) ps (spT K ks c (v3 ks N.length b)):=by
 obtain⟨f,fd,hm,F⟩:=h
 exact⟨f,fd,hm,F.kp,F.binds kP,zlz ks F S fU iK fun aJ A outer s H E hr=>zqw (hb hr S.nd)⟩
end
end
end FL
namespace L2
open PySem PySem.Spec PyProof.Rows
variable {E Q:dm->kb->Prop}{items:Array dm}{k:gV}{it l:ir}{t:Bf}{P prog:AO}{sf:String}{s:kb}{A:AY}{pos:Az}{es:List Aq}{w:AJ}{as:List dm}{u:dm}{S:AZ}{ks:List (gV×dm)}
section
theorem zs7{T iid:String}{Bn Bi:Ce}{Q₁:dm->kb->Prop}(ft:TypeCalled T sf iid)(nsu:(T == "super")=false)
  (c1:checkTypeCall T ⟨as,[(k,u)]⟩=pure ()) (c2:checkBuiltinCall sf ⟨.type T::as,[(k,u)]⟩=pure ()) (eN:entryFor table sf=some Bn) (eI:entryFor table iid=some Bi) (g:Meets (Bn ⟨.type T::as,[(k,u)]⟩) S)
  (h:S A.in1 (wants Q₁ E) s) (nx:∀ ob s₁,Q₁ ob s₁->s₁.TypeIs ob T/\argsOk iid ⟨ob::as,[(k,u)]⟩/\∃ Si,Meets (Bi ⟨ob::as,[(k,u)]⟩) Si/\Si A.in1 (wants (fun r s₂=>r=.none/\Q ob s₂) E) s₁) :
  Av (Ax prog w) A (call (.type T) as [(k,u)]) Q E s:=by
 obtain⟨_,_,y1⟩:=ft.mro
 have y2:=ft.made
 have y3:=ft.sub
 refine wpAny_call (codeAny_of_tree (show Av _ _ (callAny (.type T) _) _ _ _ from AH ⟨Code.quiet_builtin _ (by decide +kernel),HK F.entry_type_call ?_⟩))
 rw [Around.under_plain (weight_type_call_type T as [(k,u)]) (units_type_call_type T as [(k,u)])]
 have y4:=ft.notType
 have y5:=ft.canCreate
 repeat (any_goals (first|assumption|wp_step))
 refine E4 (codeAny_call_builtin ft.plain eN (wpAny_of_eq c2 (g prog w A.in1 _ s h))) fun r s₁ q=>?_
 match r,q with
 | .error e,q=>exact q
 | .ok (.ret ob),q =>
  obtain⟨z1,z2,_,z3,z4⟩:=nx _ _ q
  have y6:=ft.init.lookup
  have y7:=ft.init.bind ob
  repeat (any_goals (first|assumption|wp_step))
  refine E4 (codeAny_call_builtin ft.init.plain eI (ft.init.check _ _ _ _ _ _ _ _ z1 z2 (z3 prog w A.in1 _ s₁ z4))) fun r2 s2 q2=>?_
  match r2,q2 with
  | .error e,q2=>exact q2
  | .ok (.ret _),⟨rfl,q2⟩=>repeat (any_goals (first|assumption|wp_step))
theorem zli(a b:dm):checkTypeCall "enumerate" ⟨[a],[("start",b)]⟩=pure ():=by kernel_rfl
theorem zlj(a b:dm):checkBuiltinCall "enumerate.__new__" ⟨[.type "enumerate",a],[("start",b)]⟩=pure ():=by kernel_rfl
theorem zmt{T:String}{z a:dm}(hl:typeLookup (.type T) "__init__"=pure (some (.builtin "object.__init__"))) (hm:Bind.madeBy (.type T)=pure (some sf)) (ne:(some sf != some "object.__new__")=true) :
  Meets (Ce.«object.__init__» ⟨[z,a],ks⟩) (fun _ R s=>s.TypeIs z T/\R (.ok (.ret .none)) s) :=
 .of_wp fun prog w A R s ⟨hT,q⟩=>by
  repeat (any_goals (first|assumption|wp_step))
  exact⟨_,rfl,q⟩
theorem zbX(a b c:dm):argsOk "object.__init__" ⟨[a,b],[("start",c)]⟩:=by
 unfold argsOk;rw [signature?_of (id:="object.__init__") (n:="__tini__".toList) (o:="tcejbo".toList) (by kernel_rfl) F.owner_object];kernel_rfl
noncomputable def yd(h:AD)(l:ir):AD:=(h.push { cls:=.type "list_iterator",data:=.fields #[.ref l,.int 0 0] }).push { cls:=.type "enumerate",data:=.fields #[.none,.bool false,.ref h.objs.size,C4 1,.none,.none] }
theorem zlk(l:ir)(o:AA)(t:Bf)(items:Array dm) :
  Meets (Ce.«enumerate.__new__» ⟨[.type "enumerate",.ref l],[("start",.int 1 t)]⟩) (fun _ R s=>(s.heap.get? l=some o/\s.heap.IsList l items)/\R (.ok (.ret (.ref (s.heap.objs.size+1)))) { s with heap:=yd s.heap l }) :=
 .of_wp fun prog w A R s ⟨⟨hl,hL⟩,q⟩=>by
  obtain⟨hp,g,d,tk,os⟩:=s
  have es:=sub_enumerate
  have hz:(hp.push { cls:=.type "list_iterator",data:=.fields #[.ref l,.int 0 0] }).objs.size=hp.objs.size+1:=Cv ..
  unfold yd at q
  rw [<- hz] at q
  wp_walk using Ic hl
  refine wpAny_stack_any fun st=>AH ?_
  split
  ·rename_i c _ _ _ _ _
   cases (c==D3 "enumerate") <;>
   ·wp_walk using Ic hl,FH hL
    exact⟨_,rfl,q⟩
  ·wp_walk using Ic hl,FH hL
   exact⟨_,rfl,q⟩
theorem zkd(hL:s.heap.IsList l items)
  (h:∀ h',IsEnum h' (s.heap.objs.size+1) s.heap.objs.size 1 .none->h'.IsListIter s.heap.objs.size l 0->(∀ b o,s.heap.get? b=some o->h'.get? b=some o)->Q (.ref (s.heap.objs.size+1)) { s with heap:=h' }) :
  Av (Ax prog w) A (call (.type "enumerate") [.ref l] [("start",.int 1 t)]) Q E s:=by
 obtain⟨o,hl,r⟩:=id hL
 refine zs7 (Q₁:=fun ob s1=>s1.TypeIs ob "enumerate"/\Q ob s1) Ie (by decide) (zli _ _) (zlj _ _) F.entry_enumerate_new F.entry_object_init (zlk l o t items) ⟨⟨hl,hL⟩,?_⟩ fun ob _ q=>⟨q.1,zbX ob _ _,_,zmt Ie.init.lookup Ie.made (by decide),q.1,rfl,q.2⟩
 have hz:(s.heap.push { cls:=.type "list_iterator",data:=.fields #[.ref l,.int 0 0] }).objs.size=s.heap.objs.size+1:=Cv ..
 have he:IsEnum (yd s.heap l) (s.heap.objs.size+1) s.heap.objs.size 1 .none:=by
  unfold yd IsEnum
  rw [<- hz]
  exact Bl _ rfl
 exact⟨⟨_,he,rfl⟩,h _ he ⟨_,A5 _ (Bl _ rfl),rfl,rfl⟩ fun b o x=>A5 _ (A5 _ x)⟩
theorem zlc(hh:A.handled=none):Draws prog w A it [it,l] (items.size+1) (fun j x=>items[j-1]?=some x) (fun j h=>1<=j/\h.IsListIter it l (j-1)/\h.IsList l items) where
 live:=fun _ _ ⟨_,⟨o,e,_⟩,_⟩=>⟨o,e⟩
 frame:=fun i h h' ⟨a,b,c⟩ k=>⟨a,b.at fun o e=>k _ (by simp) o e,c.at fun o e=>k _ (by simp) o e⟩
 item:=fun i s Q E hi ⟨a,b,c⟩ hQ=>by
  have hx:items[i-1]?=some items[i-1]:=Fe (by lia)
  have ne:l≠it:=fun z=>by
   subst z
   obtain⟨o,e1,c1,_⟩:=b
   obtain⟨o',e2,c2,_⟩:=c
   rw [e1] at e2
   cases e2
   rw [c1] at c2
   exact absurd c2 (by decide)
  refine HY b c hx fun h' b' sb=>hQ _ h' s.toks hx ⟨by lia,?_,c.at fun o e=>(sb.2 l ne).trans e⟩ sb
  rw [show i+1-1=i-1+1 by lia];exact b'
 done:=fun s Q E ⟨a,b,c⟩ hE=>Ib hh b c (by simp) hE
theorem zld{n i:Nat}(hh:A.handled=none)(hi:items[i]?=none):Draws prog w A it [it,l] n (fun _ _=>True) (fun j h=>j=n/\h.IsListIter it l i/\h.IsList l items) where
 live:=fun _ _ ⟨_,⟨o,e,_⟩,_⟩=>⟨o,e⟩
 frame:=fun i h h' ⟨a,b,c⟩ k=>⟨a,b.at fun o e=>k _ (by simp) o e,c.at fun o e=>k _ (by simp) o e⟩
 item:=fun i s Q E hi ⟨a,_⟩ _=>absurd hi (by lia)
 done:=fun s Q E ⟨_,b,c⟩ hE=>Ib hh b c hi hE
end
def zap(K:ox)(a:ir):It :=
 ⟨fun i H=>∃ xs x,bB K H a xs/\xs[i]?=some x,fun i H x H'=>∃ t v,x=.ref t/\H t=none/\H'=upd H t (.tup [.int ((i+1:Nat):Int),v])/\∀ xs,bB K H a xs->xs[i]?=some v,fun i H=>∃ xs,bB K H a xs/\xs.length<=i⟩
theorem zs0{K:ox}{k:Nat}(e it a:ir)(jm:e≠it):Turn P w K (.Tuple es k pos) (zap K a) [e,it] e (fun i h=>(∃ old,IsEnum h e it ((i+1:Nat):Int) old)/\h.IsListIter it a i) where
 mem:=Bc ..
 obj:=fun i h ⟨⟨_,h1⟩,⟨_,h4,_,d4⟩⟩ c hc=>by
  rcases AX.mp hc with rfl|hc
  ·exact⟨_,h1,fun v z=>by cases z⟩
  ·rw [Dp.mp hc];exact⟨_,h4,fun v z=>by rw [d4] at z;cases z⟩
 keep:=fun i h h' ⟨⟨old,h1⟩,h4⟩ k=>⟨⟨old,k _ (by simp) _ h1⟩,h4.at fun o e=>k _ (by simp) o e⟩
 item:=by
  intro X hP hw hK hc i pins s σ H E I hf st hg
  subst hP hw hK
  obtain⟨xs,x,fV,hx⟩:=hg
  obtain⟨jQ,f7,px,_⟩:=I.list fV
  obtain⟨ux,pV,qu⟩:=f7.get hx
  obtain⟨⟨old,h1⟩,h4⟩:=id st
  have hea:e∉[it,a]:=fun z=>by
   rcases AX.mp z with z|z
   ·exact jm z
   ·have z:=Dp.mp z
    subst z
    obtain⟨o',e2,c2,_⟩:=px.isList
    rw [show s.heap.get? e=_ from h1] at e2
    cases e2
    exact absurd (show(D3 "enumerate")=.type "list" from c2) (by decide)
  have hu:jQ.toArray[i+1-1]?=some ux:=by simpa using pV
  have jO:i+1<jQ.toArray.size+1:=by
   have:=(Array.getElem?_eq_some_iff.mp hu).1
   lia
  have iN:∀ c∈[e,it],c<s.heap.objs.size:=fun c hc=>by
   obtain⟨o4,e4,_⟩:=id h4
   rcases AX.mp hc with rfl|hc
   ·exact AV h1
   ·rw [Dp.mp hc];exact AV e4
  refine wpAny_pyNext_enum_itemD (zlc (I.ok.hd hc)) h1 ⟨Nat.succ_pos i,h4,px.isList⟩ jO jm hea fun y h' tk hy a1 ⟨_,a3,_⟩ a5 _ hk=>?_
  rw [hu] at hy
  cases hy
  refine⟨_,rfl,IG a1 fun gZ b1 sb=>?_⟩
  have qK:=iN e (by simp)
  have k2:∀ c o,c∉[e,it]->s.heap.get? c=some o->gZ.get? c=some o:=fun c o hc g=>by
   simp only [AX,B1,or_false,not_or] at hc
   exact sb.extBut c o hc.1 (hk c o hc.1 hc.2 g)
  have ht:gZ.get? s.heap.objs.size=some { cls:=.type "tuple",data:=.seq #[.int ((i+1:Nat):Int) tk,ux] }:=sb.extBut _ _ (De qK) a5
  refine⟨.ref s.heap.objs.size,_,Inv.zQ (s:=s) (h':=gZ) (t':=tk+1) (fp:=[e,it]) I (xs:=[.int ((i+1:Nat):Int),x]) (us:=[.int ((i+1:Nat):Int) tk,ux]) k2 hf iN ht (.cons ⟨_,rfl⟩ (.cons qu .nil)) (by rw [BU];show 2<=16777216;decide),rfl,
   ⟨_,x,rfl,I.az.fresh (AI _),rfl,fun zs hz=>by rw [I.rV hz fV];exact hx⟩,⟨⟨_,b1⟩,a3.extBut sb.extBut (Cd jm)⟩,fun c hc=>?_⟩
  rw [bh (Bg (iN c hc))]
  exact(hf c hc).1
 done:=by
  intro X hP hw hK hc i pins s σ H E I hf st hg
  subst hP hw hK
  obtain⟨xs,fV,u6⟩:=hg
  obtain⟨jQ,f7,px,_⟩:=I.list fV
  obtain⟨⟨old,h1⟩,h4⟩:=id st
  have lx:=f7.length
  refine wpAny_pyNext_enum_endD (zld (n:=i) (I.ok.hd hc) (by simp;lia)) h1 ⟨rfl,h4,px.isList⟩ fun h' hk=>⟨rfl,I.qE (t':=s.toks) (fun c o hc g=>?_) hf⟩
  simp only [AX,B1,or_false,not_or] at hc
  exact hk c o hc.2 g
 self:=fun _ _ _ _ _ ⟨⟨_,h1⟩,_⟩ h=>Gi h1 h
variable {kp:Az}{env:Bb}{M:Model}
section
theorem zs9{T:String}{e ve:Aq}(cK:A0 pos (Au [e] env)=(false,Ay e env)::A0 pos (Au [] env))(aY:(A0 pos (Au [e] env)).any (·.1)=false)
  (h:Av M A (spliced (A0 pos (Au [e] env))) (fun vs s1=>Av M A (Ay ve env) (fun v s2=>Av M A (call (.type T) vs [(k,v)]) Q E s2) E s1) E s) :
  Av M A (callWith pos (.type T) [] (A0 pos (Au [e] env)) (DN pos (DQ [⟨some k,ve,kp⟩] env))) Q E s:=by
 unfold callWith
 have h1:Av M A (evalArgs (.type T) true (A0 pos (Au [e] env)) (DN pos (DQ [⟨some k,ve,kp⟩] env))) (fun a s1=>Av M A (call (.type T) ([]++a.pos) a.kw) Q E s1) E s:=by
  rw [cK] at h ⊢
  exact evalArgs_kwB rfl (Bv h (fun vs s1 h1=>kws_cons (Bv h1 (fun v s2 h2=>kws_nil h2) fun _ _ x=>x)) fun _ _ x=>x)
 have hk:(DN pos (DQ [⟨some k,ve,kp⟩] env)).any (·.1.isNone)=false:=rfl
 refine Ap (Ct (Bv h1 (fun a s1 q=>Ap (Es ?_)) fun _ _ x=>x))
 simp only [aY,hk,Hh]
 exact Ap (AH (Ap (Bv q (fun r s2 z=>Ap (Ct (wpAny_point (AH z)))) fun _ _ x=>x)))
end
def zmn(K:ox)(ta:TA):TI:=fun σ H R=>ta σ H fun vs H1=>∃ a,vs=[.ref a]/\(∃ xs,bB K H1 a xs)/\R (zap K a) H1
variable {ta:TA}{a:Aq}{X:Cx}
section
theorem zpX{k j:Nat}{p0 p cp:Az}(hg:Gl X "enumerate") (hm:X.mg "enumerate"=none) (ha:PA X [a] ta)
  (cK:A0 pos (Au [a] X.env)=(false,Ay a X.env)::A0 pos (Au [] X.env)) (aY:(A0 pos (Au [a] X.env)).any (·.1)=false) :
  PI X (.Tuple es k p0) (.Call (.Name "enumerate" p) [a] [⟨some "start",.Constant (.int 1) j cp,kp⟩] pos) (zmn X.K ta):=by
 intro pins s σ H R I h
 refine Fy (mX I hg hm (by decide +kernel:Bs "enumerate"=some (.type "enumerate")) (zs9 cK aY (aI (ha pos pins s σ H _ I h) fun us s1 ⟨vs,H1,I1,r1,q1⟩=>?_)))
 obtain⟨l1,e,⟨xs,hx⟩,q⟩:=q1
 subst e
 cases r1 with
 | cons r rr =>
  cases rr
  cases r
  refine wpAny_Constant_int ?_
  obtain⟨jQ,f7,px,_⟩:=I1.list hx
  refine zkd px.isList fun h' g1 g4 hk=>?_
  refine Gi g1 ⟨_,[s1.heap.objs.size+1,s1.heap.objs.size],_,_,H1,rfl,I1.kept (t':=s1.toks+1) hk,zs0 _ _ l1 (Nat.succ_ne_self _),⟨⟨_,g1⟩,g4⟩,fun c hc=>?_,q⟩
  have gD:s1.heap.objs.size<=c:=by
   simp only [AX,B1,or_false] at hc
   rcases hc with rfl|rfl <;> first|exact Ee _ _|exact AI _
  exact I1.jJ gD (I1.az.fresh gD)
end
end L2
namespace FL
open PySem L2 PySem.Spec
open PyProof.Rows hiding St
variable {items:List D}{fa:AF}{vs:List V}{a:ir}{H:Hp}{pos:Az}{e:Aq}{X:Cx}{es:List Aq}
section
def zlh:List D->R (List D)
 | [.list l]=>.ok (jg 1 l)
 | _=>.bad
def zbV(fa:AF):IF:=fun ρ=>(fa ρ).bind fun x=>(zlh x.1).bind fun l=>.ok (l,x.2)
section
variable [Cs]{K:ox}{k j:Nat}{p0 p kp cp:Az}
theorem ztd(h:kB K H a vs)(f:aj K H items vs):Walk K (zap K a) (jg 1 items) H:=by
 refine⟨fun i d H' fz e=>?_,fun i H' fz e=>⟨vs,(fz.gf h).sq,by rw [f.len,<- zbo 1];exact e⟩⟩
 obtain⟨d',e',rfl⟩:=zbn e
 obtain⟨v,ev,fv⟩:=(f.mono fz).get e'
 refine⟨⟨vs,v,(fz.gf h).sq,ev⟩,fun x iF y=>?_⟩
 obtain⟨t,v',rfl,ht,rfl,hv⟩:=y
 have ex:=hv vs (fz.gf h).sq
 rw [ev] at ex
 cases ex
 refine⟨aB.upd ht,?_⟩
 rw [Gg 1 i]
 exact yh ht (jL _) fv
theorem zqZ(hg:Gl X "enumerate") (hm:X.mg "enumerate"=none) (ha:dG K X [e] fa) (cK:A0 pos (Au [e] X.env)=(false,Ay e X.env)::A0 pos (Au [] X.env):=by rfl) (aY:(A0 pos (Au [e] X.env)).any (·.1)=false:=by exact FL.sp rfl):gz K X (.Tuple es k p0) (.Call (.Name "enumerate" p) [e] [⟨some "start",.Constant (.int 1) j cp,kp⟩] pos) (zbV fa):=.mk fun hK=>by
 subst hK
 refine(zpX hg hm (ha rfl) cK aY).weak fun σ H R=>?_
 rintro⟨ρ,rel,q⟩
 refine lL rel q fun ds ρ1 vs H1 ak aK fs q1=>?_
 obtain⟨items,ei,q2⟩:=q1.bV
 cases ds with
 | nil=>cases ei
 | cons d r =>
  cases r with
  | cons _ _=>cases d <;> cases ei
  | nil =>
   cases d with
   | list a =>
    cases ei
    simp only [aj,Fz] at fs
    obtain⟨_,_,rfl,⟨l,vs,rfl,sx,f⟩,rfl⟩:=fs
    exact⟨l,rfl,⟨vs,sx.sq⟩,q2.now ak _ (ztd sx f)⟩
   | _=>cases ei
end
end
variable {a:Aq}{f:EF}
section
def iA:D->R D
 | .int i=>aF (leB (i.natAbs.log2+1) 1920) (.ok (.str (toString i)))
 | _=>.bad
def zc9:D->R Bool
 | .str a=>aF (leB a.length lim) (.ok ((a.length:Int) != 0))
 | _=>.bad
def tX(f:EF):TF:=fun ρ=>(f ρ).bind fun x=>(zc9 x.1).bind fun b=>.ok (b,x.2)
section
variable [Cs]{K:ox}
theorem mH:fP X (.type "str") iA:=by
 intro pins s σ H xs us Q I r h
 obtain⟨x,dx,d,rfl,tx,e,q⟩:=h
 cases dx with
 | int i =>
  obtain⟨c,e⟩:=c7 (show aF _ _=.ok d from e)
  cases e
  have hx:=tx.int
  subst hx
  obtain⟨u,rfl,ru⟩:=vals1 r
  obtain⟨t,rfl⟩:=ru
  exact PySem.P.str_of_int (by have:=fi c;lia) ⟨.str (toString i),H,I.tok _,⟨_,rfl⟩,q _ H (aB.refl _) (by simp [Fz])⟩
 | _=>exact nomatch (show(R.bad:R D)=.ok d from e)
theorem zhs(h:PV K X a f)(he:∀ whole,isTrue a X.env whole=(do let v <- whole;EX a.pos;Dy [v] (truthy v)):=by intro _;rfl):fA K X a (tX f):=.mk fun hK=>by
 subst hK
 intro pins s σ H Q I q
 rw [he]
 obtain⟨ρ,rel,q⟩:=q
 refine Ap (aI (h rfl pins s σ H (fun x H'=>∃ k,zd1 X.K x H' k/\Q k H') I ?_) fun v s1 ⟨x,H1,I1,r1,q1⟩=>Ap (Es (Ct (zh6 pins s1 σ H1 x v Q I1 r1 q1))))
 refine dw rel q fun dx ρ1 x H1 ak aK fx q1=>?_
 obtain⟨d,ed,q2⟩:=q1.bV
 cases dx with
 | str y =>
  obtain⟨c,e⟩:=c7 (show aF _ _=.ok d from ed)
  cases e
  simp only [Fz] at fx
  subst fx
  exact⟨_,⟨Bj (fi c) ig,rfl⟩,q2.now ak⟩
 | _=>exact nomatch (show(R.bad:R Bool)=.ok d from ed)
end
end
section
end
end FL
namespace K77
open PySem FL
def zeo:SF:=(ax (d9 (e1 (hW "int") (eV 0)) (gC (e1 (hW "bool") (eV 0)))))
def nv:List D->R D:=aN false 1 1 zeo
def zil:SF:=(qx (oF 3) (tB (e2 cg (eV 3) (eC (.int 0)))) (cu 2 3 (eV 3) (e2 eF (eV 2) (eV 3))))
def zem:SF:=(av (cu 2 3 (e1 kH (eV 0)) (e1 kH (eV 1)))
  (av zil
  (ax (eV 2))))
def qM:List D->R D:=aN false 2 4 zem
def zcY:EF:=(dJ 1 [] (iE (eV 0)) (gN 0) cV (e2 du (eV 0) (eC (.tuple [(.int 0),(.int 1)]))))
def xq:SF:=(ax (e1 nG zcY))
def tR:List D->R D:=aN false 1 1 xq
def vY:EF:=(dJ 1 [] (iT (eV 0)) (gN 0) cV (e2 nW (eV 0) (eC (.str "0123456789"))))
def xC:SF:=(av (aG (FL.bw (FL.bu (tB (dF fg fg (eC (.int 1)) (e1 kR (eV 0)) (eC (.int 9))))) (FL.bu (tE (e1 nG vY)))) (ax (eC .none)) aL)
  (av (aG (FL.eJ (tB (e2 du (e2 vj (eV 0) (eC (.int 0))) (eC (.str "0")))) (tB (e2 cg (eV 0) (eC (.str "0"))))) (ax (eC .none)) aL)
  (ax (e1 yB (eV 0)))))
def nC:List D->R D:=aN false 1 1 xC
def zeh:SF:=(av (ay (gN 2) (e2 aC (e2 aC (e2 bq (e2 aC (e2 eF (eV 0) (e2 aC (e2 fY (eC (.int 10)) (eC (.int 18))) (eC (.int 9)))) (e2 bq (eC (.int 7)) (eV 1))) (eC (.int 739108512309184756019283746561))) (e2 bq (eC (.int 7919)) (eV 1))) (eC (.int 1))))
  (av (ay (gN 2) (e2 eF (e2 bq (eV 2) (eV 2)) (e2 aC (e2 fY (eC (.int 10)) (eC (.int 60))) (eC (.int 7)))))
  (ax (e2 eF (e2 bq (e2 aC (eV 2) (eC (.int 40503))) (e2 aC (eV 2) (eC (.int 57)))) (e2 aC (e2 fY (eC (.int 10)) (eC (.int 60))) (eC (.int 7)))))))
def zad:List D->R D:=aN false 2 3 zeh
def zed:SF:=(av (aG (tB (e2 eX (eV 1) (e1 cH (eV 0)))) (ax (e2 aq (eV 0) (eV 1))) aL)
  (ax (e2 aC (e2 bq (eC (.int 3)) (eV 1)) (eC (.int 1)))))
def zac:List D->R D:=aN false 2 2 zed
def zik:SF:=(qx (oF 3) (tB (e2 cg (eV 3) (eC (.int 0)))) (cu 2 3 (eV 3) (e2 eF (eV 2) (eV 3))))
def zeg:SF:=(av (ay (gN 2) (e1 kH (eV 0)))
  (av (ay (gN 3) (eV 1))
  (av zik
  (ax (aP (aa (e2 bN (eV 0) (eV 2)) (aa (e2 bN (eV 1) (eV 2)) af)))))))
def oN:List D->R D:=aN false 2 4 zeg
def zei:SF:=(ax (aP (aa (e2 cU (eC (.int 0)) (e2 aq (eV 0) (eC (.int 0)))) (aa (e2 aq (eV 0) (eC (.int 1))) af))))
def wC:List D->R D:=aN false 1 1 zei
def zhw:EF:=(dJ 1 [] (cQ (aa (eV 0) af)) (gN 0) cV (aP (aa (eC (.int 0)) (aa (eC (.int 1)) af))))
def zee:SF:=(cT zhw)
def tQ:List D->R D:=aN true 1 1 zee
def xm:SF:=(av (aG (tB (e2 du (e2 aq (eV 0) (eC (.int 1))) (eC (.int 1)))) (ax (e1 iA (e2 aq (eV 0) (eC (.int 0))))) aL)
  (ax (e2 cv (e2 cv (e1 iA (e2 aq (eV 0) (eC (.int 0)))) (eC (.str "/"))) (e1 iA (e2 aq (eV 0) (eC (.int 1)))))))
def zae:List D->R D:=aN false 1 1 xm
def zdg:SF:=(aG (tB (e2 nW (e2 cv (e2 cv (e2 cv (e2 cv (eC (.str " ")) (e1 iA (eV 3))) (eC (.str ","))) (e1 iA (eV 4))) (eC (.str "="))) (eV 1))) (gh 2 fI (aP (aa (eV 3) (aa (eV 4) (aa (e1 fq (e2 fC (e2 aq (eV 0) (eC (.int 1))) (aP (aa (eV 3) (aa (eV 4) af))))) af))))) aL)
def Ae:SF:=(bM (iE (e1 jV (e2 aq (eV 0) (eC (.int 1))))) (gT [(gN 3),(gN 4)]) zdg)
def zaH:SF:=(av (bH 2 (bQ af))
  (av Ae
  (ax (m1 fq 2))))
def zah:List D->R D:=aN false 2 5 zaH
def zen:SF:=(av (aG (FL.bw (FL.bu (tE (e1 (hW "tuple") (eV 0)))) (tB (e2 cg (e1 cH (eV 0)) (eC (.int 2))))) (ax (eC (.bool false))) aL)
  (av (ay (gT [(gN 1),(gN 2)]) (eV 0))
  (av (aG (FL.bw (FL.bu (tE (au nv (aa (eV 1) af)))) (FL.bw (FL.bu (tE (au nv (aa (eV 2) af)))) (tB (e2 eX (eV 2) (eC (.int 1)))))) (ax (eC (.bool false))) aL)
  (ax (e2 du (au qM (aa (eV 1) (aa (eV 2) af))) (eC (.int 1)))))))
def qN:List D->R D:=aN false 1 3 zen
def zeq:SF:=(av (ay (gN 2) (au qM (aa (e2 aq (eV 0) (eC (.int 1))) (aa (e2 aq (eV 1) (eC (.int 1))) af))))
  (av (cu 3 4 (e2 bN (e2 aq (eV 0) (eC (.int 1))) (eV 2)) (e2 bN (e2 aq (eV 1) (eC (.int 1))) (eV 2)))
  (av (ay (gN 5) (e2 aC (e2 bq (e2 aq (eV 0) (eC (.int 0))) (eV 4)) (e2 bq (e2 aq (eV 1) (eC (.int 0))) (eV 3))))
  (av (ay (gN 6) (au qM (aa (eV 5) (aa (eV 2) af))))
  (ax (aP (aa (e2 bN (eV 5) (eV 6)) (aa (e2 bq (eV 3) (e2 bN (e2 aq (eV 1) (eC (.int 1))) (eV 6))) af))))))))
def t6:List D->R D:=aN false 2 7 zeq
def zet:SF:=(av (cu 2 3 (au qM (aa (e2 aq (eV 0) (eC (.int 0))) (aa (e2 aq (eV 1) (eC (.int 1))) af))) (au qM (aa (e2 aq (eV 1) (eC (.int 0))) (aa (e2 aq (eV 0) (eC (.int 1))) af))))
  (ax (aP (aa (e2 bq (e2 bN (e2 aq (eV 0) (eC (.int 0))) (eV 2)) (e2 bN (e2 aq (eV 1) (eC (.int 0))) (eV 3))) (aa (e2 bq (e2 bN (e2 aq (eV 0) (eC (.int 1))) (eV 3)) (e2 bN (e2 aq (eV 1) (eC (.int 1))) (eV 2))) af)))))
def lE:List D->R D:=aN false 2 4 zet
def zaI:SF:=(ax (d9 (au nv (aa (eV 0) af)) (dF fg eX (eC (.int 0)) (eV 0) (eV 1))))
def tU:List D->R D:=aN false 2 2 zaI
def q8:SF:=(av (aG (FL.bu (tE (fF zI (eV 0) (eC (.str "-"))))) (ax (au nC (aa (eV 0) af))) aL)
  (av (ay (gN 1) (au nC (aa (zbm (eV 0) (dX (eC (.int 1))) dW) af)))
  (av (aG (FL.bw (tB (e2 hV (eV 1) (eC .none))) (tB (e2 du (eV 1) (eC (.int 0))))) (ax (eC .none)) aL)
  (ax (e1 sd (eV 1))))))
def zam:List D->R D:=aN false 1 2 q8
def xB:SF:=(av (ay (gN 2) (au nC (aa (eV 0) af)))
  (av (aG (FL.bw (tB (e2 hV (eV 2) (eC .none))) (tB (e2 kO (eV 2) (eV 1)))) (ax (eC .none)) aL)
  (ax (eV 2))))
def qP:List D->R D:=aN false 2 3 xB
def zek:SF:=(av (aG (tB (e2 kO (eV 0) (e2 fY (eC (.int 10)) (eC (.int 18))))) (cT (bQ (aa (e2 cU (eV 0) (e2 fY (eC (.int 10)) (eC (.int 18)))) (aa (eC (.int 0)) (aa (eV 1) af))))) aL)
  (cT (bQ (aa (au zad (aa (eV 0) (aa (eV 1) af))) (aa (eC (.int 0)) (aa (e2 aC (e2 eF (eV 0) (e2 aC (e2 fY (eC (.int 10)) (eC (.int 18))) (eC (.int 9)))) (eV 1)) af))))))
def zaf:List D->R D:=aN true 2 2 zek
def zel:SF:=(av (aG (tB (e2 eX (m2 aq 0 (eC (.int 0))) (eV 1))) (av (setM 0 (e2 aC (m2 aq 0 (eC (.int 1))) (eC (.int 1))) (eC (.int 1)))
  (setM 0 (e2 aC (m2 aq 0 (eC (.int 0))) (e2 bq (eV 1) (au zad (aa (m2 aq 0 (eC (.int 2))) (aa (e2 aC (e2 bq (eC (.int 11)) (m2 aq 0 (eC (.int 1)))) (eC (.int 5))) af))))) (eC (.int 0)))) aL)
  (av (ay (gN 2) (e2 eF (m2 aq 0 (eC (.int 0))) (eV 1)))
  (av (setM 0 (e2 bN (m2 aq 0 (eC (.int 0))) (eV 1)) (eC (.int 0)))
  (ax (eV 2)))))
def gL:List D->R (D×List D):=run [true,false] false 3 zel
def zej:SF:=(ax (au oN (aa (e2 aC (e2 bq (e2 aq (eV 0) (eC (.int 0))) (e2 aq (eV 1) (eC (.int 1)))) (e2 bq (e2 aq (eV 1) (eC (.int 0))) (e2 aq (eV 0) (eC (.int 1))))) (aa (e2 bq (e2 aq (eV 0) (eC (.int 1))) (e2 aq (eV 1) (eC (.int 1)))) af))))
def qL:List D->R D:=aN false 2 2 zej
def zef:SF:=(ax (au oN (aa (e2 bq (e2 aq (eV 0) (eC (.int 0))) (e2 aq (eV 1) (eC (.int 0)))) (aa (e2 bq (e2 aq (eV 0) (eC (.int 1))) (e2 aq (eV 1) (eC (.int 1)))) af))))
def mj:List D->R D:=aN false 2 2 zef
def zm:EF:=(dJ 1 [] (cQ (aa (e2 cU (e1 cH (eV 0)) (eC (.int 1))) af)) (gN 0) cV (e1 iA (eV 0)))
def zo:EF:=(dJ 2 [] (yz (aa (eV 1) (aa (eV 0) af))) (gT [(gN 0),(gN 1)]) (tB (e2 cg (e2 aq (eV 1) (eC (.int 0))) (eC (.int 0)))) (e2 cv (e2 cv (au zae (aa (eV 1) af)) (eC (.str "*"))) (eV 0)))
def zaG:SF:=(av (ay (gN 1) (e2 aC zm (bQ (aa (eC (.str "e")) af))))
  (ax zo))
def wF:List D->R D:=aN false 1 2 zaG
def xx:SF:=(ax (au t6 (aa (eV 0) (aa (aP (aa (e1 sd (e2 aq (eV 1) (eC (.int 0)))) (aa (e2 aq (eV 1) (eC (.int 1))) af))) af))))
def tZ:List D->R D:=aN false 2 2 xx
def zq:EF:=(dJ 1 [] (iE (eV 0)) (gN 0) cV (au qN (aa (eV 0) af)))
def xt:SF:=(ax (d9 (e1 (hW "list") (eV 0)) (e1 nG zq)))
def zai:List D->R D:=aN false 1 1 xt
def zu:EF:=(dJ 2 [1] (zfJ (aa (eV 0) (aa (eV 2) af))) (gT [(gN 0),(gN 1)]) cV (ee (tB (e2 du (eV 1) (eC (.tuple [(.int 0),(.int 1)])))) (eV 0) (au t6 (aa (eV 0) (aa (au lE (aa (eV 2) (aa (eV 1) af))) af)))))
def rg:SF:=(av (aG (tB (e2 du (eV 1) (eC (.tuple [(.int 0),(.int 1)])))) (cT (e1 fK (eV 0))) aL)
  (cT zu))
def wI:List D->R D:=aN true 3 3 rg
def zaM:SF:=(av (aG (FL.bw (FL.bu (tE (e1 (hW "tuple") (eV 0)))) (tB (e2 cg (e1 cH (eV 0)) (eC (.int 3))))) (ax (eC (.bool false))) aL)
  (av (ay (gT [(gN 2),(gN 3),(gN 4)]) (eV 0))
  (ax (d9 (au tU (aa (eV 2) (aa (eV 1) af))) (d9 (au tU (aa (eV 3) (aa (eV 1) af))) (e2 eX (eV 2) (eV 3)))))))
def t5:List D->R D:=aN false 2 5 zaM
def qZ:SF:=(av (ay (gT [(gN 1),(gN 2),(gN 3)]) (fF iQ (eV 0) (eC (.str "/"))))
  (av (ay (gN 4) (au zam (aa (eV 1) af)))
  (av (ay (gN 5) (ee (tX (eV 2)) (au nC (aa (eV 3) af)) (eC (.int 1))))
  (av (aG (FL.bw (tB (e2 hV (eV 4) (eC .none))) (FL.bw (tB (e2 hV (eV 5) (eC .none))) (FL.bw (FL.eJ (tX (eV 2)) (tB (e2 du (eV 5) (eC (.int 1))))) (FL.bu (tE (au qN (aa (aP (aa (eV 4) (aa (eV 5) af))) af))))))) (ax (eC .none)) aL)
  (ax (aP (aa (eV 4) (aa (eV 5) af))))))))
def zak:List D->R D:=aN false 1 6 qZ
def zcV:EF:=(dJ 2 [] (yz (aa (eV 0) (aa (eV 1) af))) (gT [(gN 0),(gN 1)]) cV (au qL (aa (eV 0) (aa (eV 1) af))))
def xi:SF:=(ax zcV)
def wA:List D->R D:=aN false 2 2 xi
def zcW:EF:=(dJ 1 [0] (iE (eV 1)) (gN 0) cV (au mj (aa (eV 1) (aa (eV 0) af))))
def xn:SF:=(ax zcW)
def wD:List D->R D:=aN false 2 2 xn
def o7:SF:=(av (ay (gN 1) (bA gL [.m 0,.v (eC (.int 6))]))
  (av (aG (tB (e2 eX (eV 1) (eC (.int 3)))) (ax (e2 aq (bQ (ui [(.tuple [(.int 0),(.int 1)]),(.tuple [(.int 1),(.int 1)]),(.tuple [(.int (-1)),(.int 1)])])) (eV 1))) aL)
  (av (aG (tB (e2 eX (eV 1) (eC (.int 5)))) (ax (au oN (aa (e2 cU (bA gL [.m 0,.v (eC (.int 39))]) (eC (.int 19))) (aa (e2 aC (eC (.int 1)) (e2 bq (bA gL [.m 0,.v (eC (.int 12))]) (e2 cU (eV 1) (eC (.int 3))))) af)))) aL)
  (ax (au oN (aa (e2 aC (e2 cU (bA gL [.m 0,.v (e2 cU (e2 bq (eC (.int 2)) (e2 fY (eC (.int 10)) (eC (.int 9)))) (eC (.int 1)))]) (e2 fY (eC (.int 10)) (eC (.int 9)))) (eC (.int 1))) (aa (e2 aC (eC (.int 1)) (bA gL [.m 0,.v (e2 cU (e2 fY (eC (.int 10)) (eC (.int 9))) (eC (.int 1)))])) af)))))))
def iX:List D->R (D×List D):=run [true] false 2 o7
def zde:SF:=(yA 2 (bA gL [.m 1,.v (e2 aC (m1 cH 2) (eC (.int 1)))]) (eV 3))
def Ac:SF:=(bM (iE (eV 0)) (gN 3) zde)
def xl:SF:=(av (bH 2 (bQ af))
  (av Ac
  (f9 2)))
def oO:List D->R (D×List D):=run [false,true] true 4 xl
def xu:SF:=(ax (d9 (au zai (aa (eV 0) af)) (e2 du (e1 cH (eV 0)) (eV 1))))
def qO:List D->R D:=aN false 2 2 xu
def zaO:SF:=(av (ay (gT [(gN 2),(gN 3),(gN 4)]) (fF iQ (eV 0) (eC (.str "*"))))
  (av (ay (gN 5) (au zak (aa (eV 2) af)))
  (av (ay (gN 6) (ee (tB (e2 du (eV 4) (eC (.str "e")))) (eV 1) (au qP (aa (eV 4) (aa (eV 1) af)))))
  (av (aG (FL.bw (tB (e2 hV (eV 5) (eC .none))) (FL.bw (tB (e2 du (eV 5) (eC (.tuple [(.int 0),(.int 1)])))) (tB (e2 hV (eV 6) (eC .none))))) (ax (eC .none)) aL)
  (ax (aP (aa (eV 6) (aa (eV 5) af))))))))
def zal:List D->R D:=aN false 2 7 zaO
def zT:SF:=(av (ay (gN 7) (au qL (aa (au mj (aa (e2 aq (eV 2) (eV 5)) (aa (e2 aq (eV 3) (eV 6)) af))) (aa (au wC (aa (au mj (aa (e2 aq (eV 2) (eV 6)) (aa (e2 aq (eV 3) (eV 5)) af))) af)) af))))
  (aG (tB (e2 cg (e2 aq (eV 7) (eC (.int 0))) (eC (.int 0)))) (ay (gN 4) (au wA (aa (eV 4) (aa (au wD (aa (eV 7) (aa (e2 fC (eV 1) (aP (aa (eV 5) (aa (eV 6) af)))) af))) af)))) aL))
def Ab:SF:=(bM (iE (e1 jV (eV 1))) (gT [(gN 5),(gN 6)]) zT)
def xk:SF:=(av (ay (gN 4) (au tQ (aa (e2 aC (eV 0) (eC (.int 1))) af)))
  (av Ab
  (ax (eV 4))))
def wB:List D->R D:=aN false 4 8 xk
def zdd:SF:=(setM 6 (bA iX [.m 0]) (bA gL [.m 0,.v (e2 aC (eV 1) (eC (.int 1)))]))
def z0:SF:=(bM (cQ (aa (bA gL [.m 0,.v (eV 2)]) af)) (gN 7) zdd)
def zS:SF:=(av (bH 6 (au tQ (aa (e2 aC (eV 1) (eC (.int 1))) af)))
  (av z0
  (dN 6 (dI 3 (aP (aa (eV 4) (aa (eV 5) af))) (eV 6)))))
def zdm:SF:=(bM (gG (aa (e2 aC (eV 4) (eC (.int 1))) (aa (eV 1) af))) (gN 5) zS)
def wq:SF:=zdm
def Aa:SF:=(bM (cQ (aa (eV 1) af)) (gN 4) wq)
def xj:SF:=(av (bH 3 fc)
  (av Aa
  (dN 3 (cT (bQ (aa (eV 1) (aa (eV 3) af)))))))
def zab:List D->R (D×List D):=run [true,false,false] true 8 xj
def zU:SF:=(av (ay (gN 5) (au wF (aa (e2 fC (e2 aq (eV 0) (eC (.int 1))) (aP (aa (eV 3) (aa (eV 4) af)))) af)))
  (aG (tB (e2 cg (eV 5) (bQ af))) (gh 2 fI (e2 cv (e2 cv (e2 cv (e2 cv (e1 iA (eV 3)) (eC (.str ","))) (e1 iA (eV 4))) (eC (.str "="))) (fF zb6 (eC (.str "+")) (bA oO [.v (eV 5),.m 1])))) aL))
def Ad:SF:=(bM (iE (e1 jV (e2 aq (eV 0) (eC (.int 1))))) (gT [(gN 3),(gN 4)]) zU)
def zdf:SF:=(aG (tB (e2 eX (e2 aC (e1 kR (eV 6)) (e1 kR (eV 7))) (eC (.int 800)))) (ay (gN 6) (e2 cv (e2 cv (eV 6) (eC (.str " "))) (eV 7))) aL)
def wu:SF:=(bM (iE (bA oO [.v (eV 2),.m 1])) (gN 7) zdf)
def xo:SF:=(av (bH 2 (bQ af))
  (av Ad
  (av (ay (gN 6) (e1 iA (e2 aq (eV 0) (eC (.int 0)))))
  (av (dN 2 wu)
  (ax (eV 6))))))
def zag:List D->R (D×List D):=run [false,true] false 8 xo
def qF:SF:=(aG (FL.bu (tE (au qO (aa (eV 3) (aa (eV 1) af))))) dA aL)
def Ai:SF:=(bM (vi (aa (eV 0) af)) (gT [(gN 2),(gN 3)]) qF)
def zes:SF:=Ai
def t7:List D->R D:=aN false 2 4 zes
def zX:SF:=(av (aG (FL.bu (tE (au t5 (aa (eV 4) (aa (eV 0) af))))) dA aL)
  (av (ay (gT [(gN 5),(gN 6),(gN 7)]) (eV 4))
  (av (aG (tB (fj inD (aP (aa (eV 5) (aa (eV 6) af))) 2)) dA aL)
  (av (aG (FL.bu (tE (au qO (aa (eV 7) (aa (e2 aC (eV 0) (eC (.int 1))) af))))) dA aL)
  (dI 2 (aP (aa (eV 5) (aa (eV 6) af))) (e1 fq (eV 7)))))))
def Aj:SF:=(bM (vi (aa (eV 1) af)) (gT [(gN 3),(gN 4)]) zX)
def xD:SF:=(av (bH 2 fc)
  (av Aj
  (f9 2)))
def wH:List D->R D:=aN true 2 8 xD
def zdj:SF:=(av (ay (gN 4) (au zal (aa (eV 3) (aa (eV 1) af))))
  (av (aG (FL.bw (tB (e2 hV (eV 4) (eC .none))) (tB (e2 cg (m2 aq 2 (e2 aq (eV 4) (eC (.int 0)))) (eC (.tuple [(.int 0),(.int 1)]))))) (ax (eC .none)) aL)
  (setM 2 (e2 aq (eV 4) (eC (.int 1))) (e2 aq (eV 4) (eC (.int 0))))))
def Ah:SF:=(bM (iE (fF sQ (eV 0) (eC (.str "+")))) (gN 3) zdj)
def zaP:SF:=(av (bH 2 (fE (eC (.tuple [(.int 0),(.int 1)])) (e2 aC (eV 1) (eC (.int 1)))))
  (av Ah
  (dN 2 (ax (eV 2)))))
def wG:List D->R D:=aN false 2 5 zaP
def vW:EF:=(dJ 2 [3] (iE (e1 jV (eV 3))) (gT [(gN 0),(gN 1)]) (FL.bu (tE (au tR (aa (e2 fC (eV 2) (aP (aa (eV 0) (aa (eV 1) af)))) af)))) (aP (aa (eV 0) (aa (eV 1) (aa (e2 fC (eV 2) (aP (aa (eV 0) (aa (eV 1) af)))) af)))))
def xg:AF:=(zB (aG (FL.bw (FL.bu (tE (au nv (aa (eV 1) af)))) (FL.bu (tB (dF fg fg (eC (.int 1)) (eV 1) (eC (.int 6)))))) dA aL)
  (zB (ay (gN 3) (au wH (aa (eV 1) (aa (eV 2) af))))
  (aa (eV 1) (aa (e1 fq vW) af))))
def tP:List D->R D:=zx 2 4 2 xg
def zR:SF:=(av (ay (gN 7) (au tZ (aa (au lE (aa (e2 aq (eV 1) (eV 4)) (aa (e2 aq (eV 2) (eV 5)) af))) (aa (au lE (aa (e2 aq (eV 1) (eV 5)) (aa (e2 aq (eV 2) (eV 4)) af))) af))))
  (dN 3 (bH 3 (au wI (aa (eV 3) (aa (eV 7) (aa (eV 6) af)))))))
def zZ:SF:=(bM (iE (iI 0 "Table" 1)) (gT [(gN 4),(gN 5),(gN 6)]) zR)
def xh:SF:=(av (sE (au t7 (aa (bQ (aa (eV 1) (aa (eV 2) af))) (aa (e2 aC (iI 0 "Table" 0) (eC (.int 1))) af))))
  (av (bH 3 (fE (eC (.tuple [(.int 0),(.int 1)])) (e2 aC (iI 0 "Table" 0) (eC (.int 1)))))
  (av zZ
  (f9 3))))
def wz:List D->R D:=zy [some "Table",none,none] true 8 xh
def zaN:SF:=(av (ay (gT [(gN 2),(gN 3),(gN 4)]) (fF iQ (eV 0) (eC (.str "="))))
  (av (ay (gT [(gN 5),(gN 6),(gN 7)]) (fF iQ (eV 2) (eC (.str ","))))
  (av (cu 8 9 (au qP (aa (eV 5) (aa (eV 1) af))) (au qP (aa (eV 7) (aa (eV 1) af))))
  (av (ay (gN 10) (au wG (aa (eV 4) (aa (eV 1) af))))
  (av (aG (FL.bw (tB (e2 hV (eV 8) (eC .none))) (FL.bw (tB (e2 hV (eV 9) (eC .none))) (FL.bw (tB (e2 kO (eV 8) (eV 9))) (tB (e2 hV (eV 10) (eC .none)))))) (ax (eC .none)) aL)
  (ax (aP (aa (eV 8) (aa (eV 9) (aa (eV 10) af))))))))))
def zaj:List D->R D:=aN false 2 11 zaN
def zW:SF:=(av (ay (gN 6) (au zaj (aa (eV 5) (aa (eV 2) af))))
  (av (aG (FL.bw (tB (e2 hV (eV 6) (eC .none))) (tB (fj inD (eS (eV 6) dW (dX (eC (.int 2)))) 3))) dA aL)
  (dI 3 (eS (eV 6) dW (dX (eC (.int 2)))) (eV 6))))
def wx:SF:=(bM (zbV (aa (eS (eV 1) (dX (eC (.int 1))) dW) af)) (gT [(gN 4),(gN 5)]) zW)
def vX:EF:=(dJ 1 [3] (iD (eV 3)) (gN 0) cV (e2 fC (eV 1) (eV 0)))
def xA:SF:=(av (oE (ay (gN 1) (fF sQ (eV 0) (eC (.str " ")))))
  (av (oE (ay (gN 2) (au nC (aa (e2 aq (eV 1) (eC (.int 0))) af))))
  (av (oE (aG (FL.bw (tB (e2 hV (eV 2) (eC .none))) (FL.bu (tB (dF fg fg (eC (.int 1)) (eV 2) (eC (.int 6)))))) dA aL))
  (av (oE (bH 3 fc))
  (av (oE (eG 3 wx))
  (zC (je tP (aa (eV 2) (aa vX af)))))))))
def mn:List D->R D:=v3 [none] 7 xA
def zdh:SF:=(dI 8 (aP (aa (eV 9) (aa (eV 10) af))) (e1 fK (eV 11)))
def Af:SF:=(bM (iE (eV 6)) (gT [(gN 9),(gN 10),(gN 11)]) zdh)
def zr:EF:=(dJ 1 [3] (cQ (aa (e2 aC (e2 aq (eV 4) (eC (.int 0))) (eC (.int 1))) af)) (gN 0) cV (bA iX [.m 1]))
def zt:EF:=(dJ 1 [3] (cQ (aa (e2 aC (e2 aq (eV 4) (eC (.int 0))) (eC (.int 1))) af)) (gN 0) cV (bA iX [.m 1]))
def zV:SF:=(av (bH 3 (au zaf (aa (au zac (aa (eV 0) (aa (eV 2) af))) (aa (e2 aC (eC (.int 60)) (eV 2)) af))))
  (av (ay (gN 4) (bA zab [.m 3,.v (e2 aC (eC (.int 1)) (bA gL [.m 3,.v (eC (.int 6))])),.v (e2 aq (bQ (aa (eC (.int 4)) (aa (eC (.int 2)) af))) (e2 eF (eV 2) (eC (.int 2))))]))
  (av (ay (gN 5) (bA zag [.v (eV 4),.m 3]))
  (av (ay (gN 6) (au zah (aa (eV 4) (aa (eV 5) af))))
  (av (v9 7 "Table" (je mn (aa (eV 5) af)))
  (av (aG (FL.bw (tB (e2 cg (iI 7 "Table" 0) (e2 aq (eV 4) (eC (.int 0))))) (FL.bw (tB (e2 cg (iI 7 "Table" 1) (eV 6))) (FL.bu (tE (e1 (hW "tuple") (iI 7 "Table" 1)))))) (ax (eC (.bool false))) aL)
  (av (bH 8 fc)
  (av Af
  (av (eG 12 (bH 12 zr))
  (av (eG 13 (bH 13 zt))
  (av (dN 8 (aG (tB (e2 cg (au wz (qU 7 "Table" (aa (eV 12) (aa (eV 13) af)))) (au wB (aa (e2 aq (eV 4) (eC (.int 0))) (aa (eV 8) (aa (eV 12) (aa (eV 13) af))))))) (ax (eC (.bool false))) aL))
  (av (aG (FL.bw (tB (e2 eX (nN 0 (je mn (aa (eV 1) af))) (eC (.int 1)))) (FL.bw (tB (e2 cg (nN 1 (je mn (aa (eV 5) af))) (eV 6))) (tB (e2 cg (iI 7 "Table" 1) (eV 6))))) (ax (eC (.bool false))) aL)
  (ay (gN 1) (eV 5))))))))))))))
def Ag:SF:=(bM (cQ (aa (eC (.int 6)) af)) (gN 2) zV)
def zaJ:SF:=(av (ay (gN 1) (eC (.str "1")))
  (av Ag
  (ax (eC (.bool true)))))
def tW:List D->R D:=aN false 1 14 zaJ
end K77
namespace K77
open PySem L2 PySem.Spec FL
open PyProof.Rows hiding St
variable {e8 fa kG pA pB:ir}{P:AO}{fd zlq zlr:Bw}{sV sW sX sY:Bf}{w:AJ}{base:AD}{mg:gV->Option dm}
section
noncomputable def top(i:Nat):AU:=PySem.Challenge.pw_swaprest_k77_tables_read.main.body.getD i (.Pass ⟨0,0,0,0⟩)
def nV(i j:Nat):AU:=match top i with
  | .ClassDef _ _ _ b _ _ _ _ _ _ _=>b.getD j (.Pass ⟨0,0,0,0⟩)
  | s=>s
variable [Cs]
structure Cst(mg:gV->Option dm)(sV:Bf)(sW:Bf)(sX:Bf)(sY:Bf)(kG:ir):Prop where
  zci:mg "ALONE"=some (.str "e" sV)
  zcj:mg "FIGURES"=some (.str "0123456789" sW)
  zck:mg "MOST_FIGURES"=some (.int 9 sX)
  yO:mg "MOST_WAYS"=some (.int 6 sY)
  mY:mg "NOUGHT"=some (.ref kG)
  qG:∃ o,Cs.C kG=some (.frz o (.tup [.int 0,.int 1]))
section
variable {K:ox}
abbrev wZ:=CT "is_whole" 1 ["one"] 1 false nv
abbrev wY:=CT "common_divisor" 1 ["one","other"] 2 false qM
abbrev zdN:=CT "is_of_noughts" 1 ["row"] 1 false tR
abbrev ug:=CT "read_whole" 1 ["text"] 1 false nC
abbrev zau:=CT "_law_mixed" 1 ["_law_cell","_law_k"] 2 false zad
abbrev zdC:=CT "_law_at" 1 ["_law_script","_law_k"] 2 false zac
abbrev wX:=CT "_law_low" 1 ["_law_top","_law_bottom"] 2 false oN
abbrev zdF:=CT "_law_not" 1 ["_law_one"] 1 false wC
abbrev zas:=CT "_law_blank" 1 ["_law_width"] 1 true tQ
abbrev zdG:=CT "_law_number_text" 1 ["_law_number"] 1 false zae
abbrev zdL:=CT "_law_written" 1 ["_law_table","_law_text_here"] 2 false zah
abbrev zax:=CT "is_number" 2 ["one"] 1 false qN
abbrev zaz:=CT "plus" 2 ["one","other"] 2 false t6
abbrev zaB:=CT "times" 2 ["one","other"] 2 false lE
abbrev zdP:=CT "is_way" 2 ["one","count"] 2 false tU
abbrev zdX:=CT "read_top" 2 ["text"] 1 false zam
abbrev zaA:=CT "read_way" 2 ["text","count"] 2 false qP
abbrev zdH:=CT "_law_purse" 2 ["_law_cell","_law_k"] 2 true zaf
abbrev uf:=tK "_law_take" 2 ["_law_purse_here","_law_many"] [true,false] false gL
abbrev zaw:=CT "_law_plus" 2 ["_law_one","_law_other"] 2 false qL
abbrev zat:=CT "_law_by" 2 ["_law_one","_law_other"] 2 false mj
abbrev zdJ:=CT "_law_terms" 2 ["_law_row"] 1 false wF
abbrev zdQ:=CT "less" 3 ["one","other"] 2 false tZ
abbrev zdO:=CT "is_row" 3 ["row"] 1 false zai
abbrev zd0:=CT "with_times" 3 ["row","weight","other"] 3 true wI
abbrev zdR:=CT "names_two_ways" 3 ["leaving","count"] 2 false t5
abbrev zdT:=CT "read_number" 3 ["text"] 1 false zak
abbrev zdA:=CT "_law_added" 3 ["_law_one","_law_other"] 2 false wA
abbrev zdI:=CT "_law_scaled" 3 ["_law_number","_law_row"] 2 false wD
abbrev zav:=tK "_law_nine" 3 ["_law_purse_here"] [true] false iX
abbrev zdE:=tK "_law_mixed_up" 3 ["_law_words","_law_purse_here"] [false,true] true oO
abbrev zay:=CT "is_row_of" 4 ["row","width"] 2 false qO
abbrev zdU:=CT "read_part" 4 ["text","count"] 2 false zal
abbrev zdD:=CT "_law_cross" 4 ["_law_count","_law_told","_law_one","_law_other"] 4 false wB
abbrev zdB:=tK "_law_any" 4 ["_law_purse_here","_law_count","_law_most"] [true,false,false] true zab
abbrev zdK:=tK "_law_text" 4 ["_law_table","_law_purse_here"] [false,true] false zag
abbrev zdY:=CT "refuse_rows" 5 ["rows","width"] 2 false t7
abbrev zdZ:=CT "rows_by_pair" 5 ["count","leavings"] 2 true wH
abbrev zdV:=CT "read_row" 5 ["text","count"] 2 false wG
abbrev zdy[Cs]:=CTI "Table" "Table" 6 ["self","count","leavings"] 2 tP
abbrev zdz:=zds "Table" "left" 6 ["self","one","other"] [none,none] wz
abbrev zdS:=CT "read_leaving" 6 ["text","count"] 2 false zaj
abbrev zdW[Cs]:=CTT "read_table" 8 ["text"] [none] "Table" mn
variable (B:Blt mg)(C:Cst mg sV sW sX sY kG)
include B C
variable (bj:Ob K "Table" e8 ["count","leavings"])
include bj
theorem znt(h:aD K mg "is_whole" (top 9)):wZ P w K mg base:=cC ["one"] h fun hr nd=>by
  unfold zeo
  exact(bD (sD (sF znV B.om B.yQ Bt.int (ae 0)) (vS (zqU (sF znU B.om B.zcp Bt.bool (ae 0))))))
theorem znn(h:aD K mg "common_divisor" (top 10)):wY P w K mg base:=cC ["one","other","high","low"] h fun hr nd=>by
  unfold zem zil
  exact(aE (sL 2 3 nd (jv za1 B.vv Bt.abs (ae 0)) (jv za1 B.vv Bt.abs (ae 1)))
      (aE (zhq (oF 3) HN (bO (jy hr) (ae 3) aw) (bX (sL 2 3 nd (ae 3) (aA ou (ae 2) (ae 3)))))
      (bD (ae 2))))
theorem znp(h:aD K mg "is_of_noughts" (top 19)):zdN P w K mg base:=cC ["row"] h fun hr nd=>by
  unfold xq zcY
  exact(bD (jv (za2 rfl) B.vw Bt.all (bY.pv (cp ["one"] [] ["one"] (km (ae 0)) (fun nd=>(aX 0 nd)) lr (vQ (lu hr) (ae 0) (qi rfl C.mY C.qG (fun _=>by simp [aj,Fz])))))))
theorem znF(h:aD K mg "read_whole" (top 31)):ug P w K mg base:=cC ["text"] h fun hr nd=>by
  unfold xC vY
  exact(aE (cR (dD.gI (eZ (iq (zcT (qo hr) (qo hr) aw (jv za6 B.kX Bt.len (ae 0)) (vR (v:=(.int 9)) rfl C.zck ⟨_,rfl⟩ (fun _=>jL _)))) (iS (iq (jU jX (jv (za2 rfl) B.vw Bt.all (bY.pv (cp ["sign"] [] ["sign"] (zq1 (ae 0)) (fun nd=>(aX 0 nd)) lr (vQ (zgP (zic hr)) (ae 0) (vR (v:=(.str "0123456789")) rfl C.zcj ⟨_,rfl⟩ (fun _=>by simp [Fz]))))))))))) (bD fM) cS)
      (aE (cR (dD.gI (zhu (bO (lu hr) (aT zoX (ae 0) aw) fN) (zhv (bO (jy hr) (ae 0) fN)))) (bD fM) cS)
      (bD (jw zjW B.yQ Bt.int (ae 0)))))
theorem znb(h:aD K mg "_law_mixed" (top 40)):zau P w K mg base:=cC ["_law_cell","_law_k","_law_number"] h fun hr nd=>by
  unfold zeh
  exact(aE (cM 2 nd (aA cD (aA cD (aA fL (aA cD (aA ou (ae 0) (aA cD (aA m3 aw aw) aw)) (aA fL aw (ae 1))) aw) (aA fL aw (ae 1))) aw))
      (aE (cM 2 nd (aA ou (aA fL (ae 2) (ae 2)) (aA cD (aA m3 aw aw) aw)))
      (bD (aA ou (aA fL (aA cD (ae 2) aw) (aA cD (ae 2) aw)) (aA cD (aA m3 aw aw) aw)))))
theorem zm6(h:aD K mg "_law_at" (top 43)):zdC P w K mg base:=cC ["_law_script","_law_k"] h fun hr nd=>by
  unfold zed
  exact(aE (cR (bO (m9 hr) (ae 1) (jv o9 B.kX Bt.len (ae 0))) (bD (aT aR (ae 0) (ae 1))) cS)
      (bD (aA cD (aA fL aw (ae 1)) aw)))
theorem zna(h:aD K mg "_law_low" (top 44)):wX P w K mg base:=cC ["_law_top","_law_bottom","_law_one","_law_other"] h fun hr nd=>by
  unfold zeg zik
  exact(aE (cM 2 nd (jv za1 B.vv Bt.abs (ae 0)))
      (aE (cM 3 nd (ae 1))
      (aE (zhq (oF 3) HN (bO (jy hr) (ae 3) aw) (bX (sL 2 3 nd (ae 3) (aA ou (ae 2) (ae 3)))))
      (bD (fo (a2 (aA (kZ hr) (ae 0) (ae 2)) (aA (kZ hr) (ae 1) (ae 2))))))))
theorem zne(h:aD K mg "_law_not" (top 47)):zdF P w K mg base:=cC ["_law_one"] h fun hr nd=>by
  unfold zei
  exact(bD (fo (a2 (aA oy aw (aT aR (ae 0) aw)) (aT aR (ae 0) aw))))
theorem zm7(h:aD K mg "_law_blank" (top 51)):zas P w K mg base:=cC ["_law_width"] h fun hr nd=>by
  unfold zee zhw
  exact(bX (sM (cp ["_law_place"] [] ["_law_place"] (ql rfl B.lP (a1 (ae 0))) (fun nd=>(aX 0 nd)) lr (fo (a2 aw aw)))))
theorem znf(h:aD K mg "_law_number_text" (top 56)):zdG P w K mg base:=cC ["_law_number"] h fun hr nd=>by
  unfold xm
  exact(aE (cR (bO (lu hr) (aT aR (ae 0) aw) aw) (bD (jw mH B.kY Bt.str (aT aR (ae 0) aw))) cS)
      (bD (aA ju (aA ju (jw mH B.kY Bt.str (aT aR (ae 0) aw)) fN) (jw mH B.kY Bt.str (aT aR (ae 0) aw)))))
theorem znm(h:aD K mg "_law_written" (top 60)):zdL P w K mg base:=cC ["_law_table","_law_text_here","_law_found","_law_i","_law_j"] h fun hr nd=>by
  unfold zaH Ae zdg
  exact(aE (kn 2 nd (lq qk))
      (aE (iR (km (sG (vP (xM rfl) rfl B.r9 Bt.sorted (a1 (aT aR (ae 0) aw))))) (fZ rfl (bL (aX 3 nd) (bL (aX 4 nd) f6))) (bX (cR (bO (zgP (zic hr)) (aA ju (aA ju (aA ju (aA ju fN (jw mH B.kY Bt.str (ae 3))) fN) (jw mH B.kY Bt.str (ae 4))) fN) (ae 1)) (bX (zho 2 rfl (pv 2) (fo (a3 (ae 3) (ae 4) (jw xO B.mZ Bt.tuple (aT (sN hr) (aT aR (ae 0) aw) (fo (a2 (ae 3) (ae 4))))))))) cS)))
      (bD (zqT 2 xO B.mZ Bt.tuple))))
theorem zno(h:aD K mg "is_number" (top 11)) (o8:wY P w K mg base) (rm:wZ P w K mg base):zax P w K mg base:=cC ["one","top","bottom"] h fun hr nd=>by
  unfold zen
  exact(aE (cR (dD.gI (eZ (iq (jU jX (sF kit_tuple B.om B.mZ Bt.tuple (ae 0)))) (iS (bO (jy hr) (jv o9 B.kX Bt.len (ae 0)) aw)))) (bD qh) cS)
      (aE (qm (ae 0) (fZ rfl (bL (aX 1 nd) (bL (aX 2 nd) f6))))
      (aE (cR (dD.gI (eZ (iq (jU jX (bt rm hr (a1 (ae 1))))) (eZ (iq (jU jX (bt rm hr (a1 (ae 2))))) (iS (bO (m9 hr) (ae 2) aw))))) (bD qh) cS)
      (bD (vQ (lu hr) (bt o8 hr (a2 (ae 1) (ae 2))) aw)))))
theorem znx(h:aD K mg "plus" (top 12)) (o8:wY P w K mg base):zaz P w K mg base:=cC ["one","other","shared","mine","its","top","again"] h fun hr nd=>by
  unfold zeq
  exact(aE (cM 2 nd (bt o8 hr (a2 (aT aR (ae 0) aw) (aT aR (ae 1) aw))))
      (aE (sL 3 4 nd (aA (kZ hr) (aT aR (ae 0) aw) (ae 2)) (aA (kZ hr) (aT aR (ae 1) aw) (ae 2)))
      (aE (cM 5 nd (aA cD (aA fL (aT aR (ae 0) aw) (ae 4)) (aA fL (aT aR (ae 1) aw) (ae 3))))
      (aE (cM 6 nd (bt o8 hr (a2 (ae 5) (ae 2))))
      (bD (fo (a2 (aA (kZ hr) (ae 5) (ae 6)) (aA fL (ae 3) (aA (kZ hr) (aT aR (ae 1) aw) (ae 6))))))))))
theorem znI(h:aD K mg "times" (top 14)) (o8:wY P w K mg base):zaB P w K mg base:=cC ["one","other","mine","its"] h fun hr nd=>by
  unfold zet
  exact(aE (sL 2 3 nd (bt o8 hr (a2 (aT aR (ae 0) aw) (aT aR (ae 1) aw))) (bt o8 hr (a2 (aT aR (ae 1) aw) (aT aR (ae 0) aw))))
      (bD (fo (a2 (aA fL (aA (kZ hr) (aT aR (ae 0) aw) (ae 2)) (aA (kZ hr) (aT aR (ae 1) aw) (ae 3))) (aA fL (aA (kZ hr) (aT aR (ae 0) aw) (ae 3)) (aA (kZ hr) (aT aR (ae 1) aw) (ae 2)))))))
theorem zns(h:aD K mg "is_way" (top 23)) (rm:wZ P w K mg base):zdP P w K mg base:=cC ["one","count"] h fun hr nd=>by
  unfold zaI
  exact(bD (sD (bt rm hr (a1 (ae 0))) (vS (zqK (qo hr) (m9 hr) aw (ae 0) (ae 1)))))
theorem znD(h:aD K mg "read_top" (top 32)) (nJ:ug P w K mg base):zdX P w K mg base:=cC ["text","whole"] h fun hr nd=>by
  unfold q8
  exact(aE (cR (iq (jU jX (oB PySem.F.slot_str_startswith PySem.F.type_str_startswith zol (ae 0) fN))) (bD (bt nJ hr (a1 (ae 0)))) cS)
      (aE (cM 1 nd (bt nJ hr (a1 (zqV (ae 0) (zj aw) zi))))
      (aE (cR (dD.gI (eZ (bO kh (ae 1) fM) (iS (bO (lu hr) (ae 1) aw)))) (bD fM) cS)
      (bD (zcN zdi (ae 1))))))
theorem znE(h:aD K mg "read_way" (top 34)) (nJ:ug P w K mg base):zaA P w K mg base:=cC ["text","count","way"] h fun hr nd=>by
  unfold xB
  exact(aE (cM 2 nd (bt nJ hr (a1 (ae 0))))
      (aE (cR (dD.gI (eZ (bO kh (ae 2) fM) (iS (bO (zcX hr) (ae 2) (ae 1))))) (bD fM) cS)
      (bD (ae 2))))
theorem znh(h:aD K mg "_law_purse" (top 41)) (zaZ:zau P w K mg base):zdH P w K mg base:=cC ["_law_cell","_law_k"] h fun hr nd=>by
  unfold zek
  exact(aE (cR (bO (zcX hr) (ae 0) (aA m3 aw aw)) (bX (sM (lq (a3 (aA oy (ae 0) (aA m3 aw aw)) aw (ae 1))))) cS)
      (bX (sM (lq (a3 (bt zaZ hr (a2 (ae 0) (ae 1))) aw (aA cD (aA ou (ae 0) (aA cD (aA m3 aw aw) aw)) (ae 1)))))))
theorem znj(h:aD K mg "_law_take" (top 42)) (zaZ:zau P w K mg base):uf P w K mg base:=rE [true,false] ["_law_purse_here","_law_many","_law_got"] h fun hr nd=>by
  unfold zel
  exact(aE (cR (bO (m9 hr) (oA 0 aR aw) (ae 1)) (aE (vU 0 (pv 0) (aA cD (oA 0 aR aw) aw) aw)
      (bX (vU 0 (pv 0) (aA cD (oA 0 aR aw) (aA fL (ae 1) (bt zaZ hr (a2 (oA 0 aR aw) (aA cD (aA fL aw (oA 0 aR aw)) aw))))) aw))) cS)
      (aE (cM 2 nd (aA ou (oA 0 aR aw) (ae 1)))
      (aE (vU 0 (pv 0) (aA (kZ hr) (oA 0 aR aw) (ae 1)) aw)
      (bD (ae 2)))))
theorem zng(h:aD K mg "_law_plus" (top 45)) (rj:wX P w K mg base):zaw P w K mg base:=cC ["_law_one","_law_other"] h fun hr nd=>by
  unfold zej
  exact(bD (bt rj hr (a2 (aA cD (aA fL (aT aR (ae 0) aw) (aT aR (ae 1) aw)) (aA fL (aT aR (ae 1) aw) (aT aR (ae 0) aw))) (aA fL (aT aR (ae 0) aw) (aT aR (ae 1) aw)))))
theorem zm8(h:aD K mg "_law_by" (top 46)) (rj:wX P w K mg base):zat P w K mg base:=cC ["_law_one","_law_other"] h fun hr nd=>by
  unfold zef
  exact(bD (bt rj hr (a2 (aA fL (aT aR (ae 0) aw) (aT aR (ae 1) aw)) (aA fL (aT aR (ae 0) aw) (aT aR (ae 1) aw)))))
theorem znk(h:aD K mg "_law_terms" (top 57)) (zjP:zdG P w K mg base):zdJ P w K mg base:=cC ["_law_row","_law_signs"] h fun hr nd=>by
  unfold zaG zo zm
  exact(aE (cM 1 nd (aA cD (bY.pv (cp ["_law_way"] [] ["_law_way"] (ql rfl B.lP (a1 (aA oy (jv o9 B.kX Bt.len (ae 0)) aw))) (fun nd=>(aX 0 nd)) lr (jw mH B.kY Bt.str (ae 0)))) (bY.pv (lq (a1 fN)))))
      (bD (bY.pv (cp ["_law_sign","_law_number"] [] ["_law_sign","_law_number"] (zhm rfl B.vz (a2 (ae 1) (ae 0))) (fun nd=>(fZ rfl (bL (aX 0 nd) (bL (aX 1 nd) f6)))) (zht (bO (jy hr) (aT aR (ae 1) aw) aw)) (aA ju (aA ju (bt zjP hr (a1 (ae 1))) fN) (ae 0))))))
theorem znv(h:aD K mg "less" (top 13)) (za7:zaz P w K mg base):zdQ P w K mg base:=cC ["one","other"] h fun hr nd=>by
  unfold xx
  exact(bD (bt za7 hr (a2 (ae 0) (fo (a2 (zcN zdi (aT aR (ae 1) aw)) (aT aR (ae 1) aw))))))
theorem znq(h:aD K mg "is_row" (top 16)) (za4:zax P w K mg base):zdO P w K mg base:=cC ["row"] h fun hr nd=>by
  unfold xt zq
  exact(bD (sD (sF znW B.om B.vy Bt.list (ae 0)) (vS (jv (za2 rfl) B.vw Bt.all (bY.pv (cp ["one"] [] ["one"] (km (ae 0)) (fun nd=>(aX 0 nd)) lr (bt za4 hr (a1 (ae 0)))))))))
theorem znJ(h:aD K mg "with_times" (top 20)) (za7:zaz P w K mg base) (xN:zaB P w K mg base):zd0 P w K mg base:=cC ["row","weight","other"] h fun hr nd=>by
  unfold rg zu
  exact(aE (cR (bO (lu hr) (ae 1) (qi rfl C.mY C.qG (fun _=>by simp [aj,Fz]))) (bX (sM (zq6 B.vy Bt.list (ae 0)))) cS)
      (bX (sM (cp ["mine","its"] [1] ["mine","its","weight"] (zq2 rfl B.vz (a2 (ae 0) (ae 2))) (fun nd=>(fZ rfl (bL (aX 0 nd) (bL (aX 1 nd) f6)))) lr (zcL (bO (lu hr) (ae 1) (qi rfl C.mY C.qG (fun _=>by simp [aj,Fz]))) (ae 0) (bt za7 hr (a2 (ae 0) (bt xN hr (a2 (ae 2) (ae 1))))))))))
theorem znw(h:aD K mg "names_two_ways" (top 24)) (zeG:zdP P w K mg base):zdR P w K mg base:=cC ["leaving","count","i","j","row"] h fun hr nd=>by
  unfold zaM
  exact(aE (cR (dD.gI (eZ (iq (jU jX (sF kit_tuple B.om B.mZ Bt.tuple (ae 0)))) (iS (bO (jy hr) (jv o9 B.kX Bt.len (ae 0)) aw)))) (bD qh) cS)
      (aE (qm (ae 0) (fZ rfl (bL (aX 2 nd) (bL (aX 3 nd) (bL (aX 4 nd) f6)))))
      (bD (sD (bt zeG hr (a2 (ae 2) (ae 1))) (sD (bt zeG hr (a2 (ae 3) (ae 1))) (vS (vQ (m9 hr) (ae 2) (ae 3))))))))
theorem znz(h:aD K mg "read_number" (top 33)) (zj6:zdX P w K mg base) (nJ:ug P w K mg base) (za4:zax P w K mg base):zdT P w K mg base:=cC ["text","above","stroke","below","top","bottom"] h fun hr nd=>by
  unfold qZ
  exact(aE (qm (oB GL GN yP (ae 0) fN) (fZ rfl (bL (aX 1 nd) (bL (aX 2 nd) (bL (aX 3 nd) f6)))))
      (aE (cM 4 nd (bt zj6 hr (a1 (ae 1))))
      (aE (cM 5 nd (zcL (zhs (ae 2)) (bt nJ hr (a1 (ae 3))) aw))
      (aE (cR (dD.gI (eZ (bO kh (ae 4) fM) (eZ (bO kh (ae 5) fM) (eZ (dD.gI (zhu (zhs (ae 2)) (zhv (bO (lu hr) (ae 5) aw)))) (iS (iq (jU jX (bt za4 hr (a1 (fo (a2 (ae 4) (ae 5)))))))))))) (bD fM) cS)
      (bD (fo (a2 (ae 4) (ae 5))))))))
theorem zm4(h:aD K mg "_law_added" (top 48)) (za0:zaw P w K mg base):zdA P w K mg base:=cC ["_law_one","_law_other"] h fun hr nd=>by
  unfold xi zcV
  exact(bD (bY.pv (cp ["_law_a","_law_b"] [] ["_law_a","_law_b"] (zhm rfl B.vz (a2 (ae 0) (ae 1))) (fun nd=>(fZ rfl (bL (aX 0 nd) (bL (aX 1 nd) f6)))) lr (bt za0 hr (a2 (ae 0) (ae 1))))))
theorem zni(h:aD K mg "_law_scaled" (top 49)) (xI:zat P w K mg base):zdI P w K mg base:=cC ["_law_number","_law_row"] h fun hr nd=>by
  unfold xn zcW
  exact(bD (bY.pv (cp ["_law_one"] [0] ["_law_one","_law_number"] (km (ae 1)) (fun nd=>(aX 0 nd)) lr (bt xI hr (a2 (ae 1) (ae 0))))))
theorem znd(h:aD K mg "_law_nine" (top 54)) (j3:uf P w K mg base) (rj:wX P w K mg base):zav P w K mg base:=rE [true] ["_law_purse_here","_law_way"] h fun hr nd=>by
  unfold o7
  exact(aE (cM 1 nd (jT j3 hr (gM 0 (jx aw ip))))
      (aE (cR (bO (m9 hr) (ae 1) aw) (bD (aT aR (bY.pv (zq7 rfl)) (ae 1))) cS)
      (aE (cR (bO (m9 hr) (ae 1) aw) (bD (bt rj hr (a2 (aA oy (jT j3 hr (gM 0 (jx aw ip))) aw) (aA cD aw (aA fL (jT j3 hr (gM 0 (jx aw ip))) (aA oy (ae 1) aw)))))) cS)
      (bD (bt rj hr (a2 (aA cD (aA oy (jT j3 hr (gM 0 (jx (aA oy (aA fL aw (aA m3 aw aw)) aw) ip))) (aA m3 aw aw)) aw) (aA cD aw (jT j3 hr (gM 0 (jx (aA oy (aA m3 aw aw) aw) ip))))))))))
theorem znc(h:aD K mg "_law_mixed_up" (top 58)) (j3:uf P w K mg base):zdE P w K mg base:=rE [false,true] ["_law_words","_law_purse_here","_law_found","_law_word"] h fun hr nd=>by
  unfold xl Ac zde
  exact(aE (kn 2 nd (lq qk))
      (aE (iR (km (ae 0)) (aX 3 nd) (bX (zre 2 rfl (pv 2) (jT j3 hr (gM 1 (jx (aA cD (zqS 2 o9 B.kX Bt.len) aw) ip))) (ae 3))))
      (bX (zcR 2 (pv 2)))))
theorem znr(h:aD K mg "is_row_of" (top 17)) (zjY:zdO P w K mg base):zay P w K mg base:=cC ["row","width"] h fun hr nd=>by
  unfold xu
  exact(bD (sD (bt zjY hr (a1 (ae 0))) (vS (vQ (lu hr) (jv o9 B.kX Bt.len (ae 0)) (ae 1)))))
theorem znA(h:aD K mg "read_part" (top 35)) (zj3:zdT P w K mg base) (xK:zaA P w K mg base):zdU P w K mg base:=cC ["text","count","above","star","below","number","place"] h fun hr nd=>by
  unfold zaO
  exact(aE (qm (oB GL GN yP (ae 0) fN) (fZ rfl (bL (aX 2 nd) (bL (aX 3 nd) (bL (aX 4 nd) f6)))))
      (aE (cM 5 nd (bt zj3 hr (a1 (ae 2))))
      (aE (cM 6 nd (zcL (bO (lu hr) (ae 4) (vR (v:=(.str "e")) rfl C.zci ⟨_,rfl⟩ (fun _=>by simp [Fz]))) (ae 1) (bt xK hr (a2 (ae 4) (ae 1)))))
      (aE (cR (dD.gI (eZ (bO kh (ae 5) fM) (eZ (bO (lu hr) (ae 5) (qi rfl C.mY C.qG (fun _=>by simp [aj,Fz]))) (iS (bO kh (ae 6) fM))))) (bD fM) cS)
      (bD (fo (a2 (ae 6) (ae 5))))))))
theorem zm9(h:aD K mg "_law_cross" (top 53)) (zaY:zas P w K mg base) (za0:zaw P w K mg base) (xI:zat P w K mg base) (zjO:zdF P w K mg base) (zjK:zdA P w K mg base) (zjR:zdI P w K mg base):zdD P w K mg base:=cC ["_law_count","_law_told","_law_one","_law_other","_law_total","_law_i","_law_j","_law_much"] h fun hr nd=>by
  unfold xk Ab zT
  exact(aE (cM 4 nd (bY.pv (vT zaY hr (a1 (aA cD (ae 0) aw)))))
      (aE (iR (km (sG (vP (xM rfl) rfl B.r9 Bt.sorted (a1 (ae 1))))) (fZ rfl (bL (aX 5 nd) (bL (aX 6 nd) f6))) (aE (cM 7 nd (bt za0 hr (a2 (bt xI hr (a2 (aT aR (ae 2) (ae 5)) (aT aR (ae 3) (ae 6)))) (bt zjO hr (a1 (bt xI hr (a2 (aT aR (ae 2) (ae 6)) (aT aR (ae 3) (ae 5)))))))))
      (bX (cR (bO (jy hr) (aT aR (ae 7) aw) aw) (bX (cM 4 nd (bt zjK hr (a2 (ae 4) (bt zjR hr (a2 (ae 7) (aT (sN hr) (ae 1) (fo (a2 (ae 5) (ae 6)))))))))) cS))))
      (bD (ae 4))))
theorem zm5(h:aD K mg "_law_any" (top 55)) (zaY:zas P w K mg base) (j3:uf P w K mg base) (xJ:zav P w K mg base):zdB P w K mg base:=rE [true,false,false] ["_law_purse_here","_law_count","_law_most","_law_rests","_law_i","_law_j","_law_row","_law_turn"] h fun hr nd=>by
  unfold xj Aa wq zdm zS z0 zdd
  exact(aE (kn 3 nd zh)
      (aE (iR (ql rfl B.lP (a1 (ae 1))) (aX 4 nd) (bX (iR (zq0 rfl B.lP (a2 (aA cD (ae 4) aw) (ae 1))) (aX 5 nd) (aE (kn 6 nd (vT zaY hr (a1 (aA cD (ae 1) aw))))
      (aE (iR (ql rfl B.lP (a1 (jT j3 hr (gM 0 (jx (ae 2) ip))))) (aX 7 nd) (bX (vU 6 (pv 6) (jT xJ hr (gM 0 ip)) (jT j3 hr (gM 0 (jx (aA cD (ae 1) aw) ip))))))
      (bX (sI 6 (zk 3 (tf hr) (pv 3) (ae 6) (fo (a2 (ae 4) (ae 5)))))))))))
      (bX (sI 3 (sM (lq (a2 (ae 1) (ae 3))))))))
theorem znl(h:aD K mg "_law_text" (top 59)) (zeE:zdE P w K mg base) (zjS:zdJ P w K mg base):zdK P w K mg base:=rE [false,true] ["_law_table","_law_purse_here","_law_words","_law_i","_law_j","_law_terms_here","_law_text_here","_law_word"] h fun hr nd=>by
  unfold xo wu zdf Ad zU
  exact(aE (kn 2 nd (lq qk))
      (aE (iR (km (sG (vP (xM rfl) rfl B.r9 Bt.sorted (a1 (aT aR (ae 0) aw))))) (fZ rfl (bL (aX 3 nd) (bL (aX 4 nd) f6))) (aE (cM 5 nd (bt zjS hr (a1 (aT (sN hr) (aT aR (ae 0) aw) (fo (a2 (ae 3) (ae 4)))))))
      (bX (cR (bO (jy hr) (ae 5) (bY.pv (lq qk))) (bX (zho 2 rfl (pv 2) (aA ju (aA ju (aA ju (aA ju (jw mH B.kY Bt.str (ae 3)) fN) (jw mH B.kY Bt.str (ae 4))) fN) (oB PySem.F.slot_str_join PySem.F.type_str_join zok fN (bY.pv (zcO zeE hr (jx (ae 5) (gM 1 ip)))))))) cS))))
      (aE (cM 6 nd (jw mH B.kY Bt.str (aT aR (ae 0) aw)))
      (aE (sI 2 (iR (km (bY.pv (zcO zeE hr (jx (ae 2) (gM 1 ip))))) (aX 7 nd) (bX (cR (bO (m9 hr) (aA cD (jv za6 B.kX Bt.len (ae 6)) (jv za6 B.kX Bt.len (ae 7))) aw) (bX (cM 6 nd (aA ju (aA ju (ae 6) fN) (ae 7)))) cS))))
      (bD (ae 6))))))
theorem znG(h:aD K mg "refuse_rows" (top 18)) (za5:zay P w K mg base):zdY P w K mg base:=cC ["rows","width","place","row"] h fun hr nd=>by
  unfold zes Ai qF
  exact(bX (iR (zhl rfl B.vx (a1 (ae 0))) (fZ rfl (bL (aX 2 nd) (bL (aX 3 nd) f6))) (bX (cR (iq (jU jX (bt za5 hr (a2 (ae 3) (ae 1))))) (bX sJ) cS))))
theorem znH(h:aD K mg "rows_by_pair" (top 25)) (zj1:zdR P w K mg base) (za5:zay P w K mg base):zdZ P w K mg base:=cC ["count","leavings","held","place","leaving","i","j","row"] h fun hr nd=>by
  unfold xD Aj zX
  exact(aE (kn 2 nd zh)
      (aE (iR (zhl rfl B.vx (a1 (ae 1))) (fZ rfl (bL (aX 3 nd) (bL (aX 4 nd) f6))) (aE (cR (iq (jU jX (bt zj1 hr (a2 (ae 4) (ae 0))))) (bX sJ) cS)
      (aE (qm (ae 4) (fZ rfl (bL (aX 5 nd) (bL (aX 6 nd) (bL (aX 7 nd) f6)))))
      (aE (cR (zhr 2 (zhx hr) (fo (a2 (ae 5) (ae 6)))) (bX sJ) cS)
      (aE (cR (iq (jU jX (bt za5 hr (a2 (ae 7) (aA cD (ae 0) aw))))) (bX sJ) cS)
      (bX (zk 2 (tf hr) (pv 2) (jw xO B.mZ Bt.tuple (ae 7)) (fo (a2 (ae 5) (ae 6))))))))))
      (bX (zcR 2 (pv 2)))))
theorem znB(h:aD K mg "read_row" (top 36)) (zj4:zdU P w K mg base):zdV P w K mg base:=cC ["text","count","row","term","part"] h fun hr nd=>by
  unfold zaP Ah zdj
  exact(aE (kn 2 nd (zhn (qi rfl C.mY C.qG (fun _=>by simp [aj,Fz])) (aA cD (ae 1) aw)))
      (aE (iR (km (oB Jr Js m_split (ae 0) fN)) (aX 3 nd) (aE (cM 4 nd (bt zj4 hr (a2 (ae 3) (ae 1))))
      (aE (cR (dD.gI (eZ (bO kh (ae 4) fM) (iS (bO (jy hr) (oA 2 aR (aT aR (ae 4) aw)) (qi rfl C.mY C.qG (fun _=>by simp [aj,Fz])))))) (bD fM) cS)
      (bX (vU 2 (pv 2) (aT aR (ae 4) aw) (aT aR (ae 4) aw))))))
      (bX (sI 2 (zhp (ae 2))))))
theorem zm2(vh:∀ c' c9,Cs.O c'=some (e8,c9)->c9.length=2)(hm:mg "Table"=some (.ref e8)) (M:Mk K e8 pA) (F:e9 K "__init__" "Table.__init__" (nV 26 0) pA zlq) (zj8:zdZ P w K mg base) (rm:wZ P w K mg base) (zjX:zdN P w K mg base):zdy P w K mg base:=fnI ["self","count","leavings","held"] bj vh hm M F fun Cc hr nd=>by
  unfold xg vW
  exact(zhh (dom:=[]) rfl (zqp (dD.gI (eZ (iq (jU jX (bt rm hr (a1 (ae 1))))) (iS (iq (zcT (qo hr) (qo hr) aw (ae 1) (vR (v:=(.int 6)) rfl C.yO ⟨_,rfl⟩ (fun _=>jL _))))))) (zqs zqq) zqr)
      (zhh (dom:=[3]) rfl (zqt 3 nd (bY.pv (vT zj8 hr (a2 (ae 1) (ae 2)))))
      (zqu (zg7 bj rfl (by decide) (ae 1) (zg7 bj rfl (by decide) (jw xO B.mZ Bt.tuple (bY.pv (cp ["i","j"] [3] ["i","j","held"] (km (sG (vP (xM rfl) rfl B.r9 Bt.sorted (a1 (ae 3))))) (fun nd=>(fZ rfl (bL (aX 0 nd) (bL (aX 1 nd) f6)))) (zht (iq (jU jX (bt zjX hr (a1 (aT (sN hr) (ae 2) (fo (a2 (ae 0) (ae 1))))))))) (fo (a3 (ae 0) (ae 1) (aT (sN hr) (ae 2) (fo (a2 (ae 0) (ae 1))))))))) zpR)))))
theorem zm3(M:Meth K e8 "left" pB) (F:e9 K "left" "Table.left" (nV 26 1) pB zlr) (zj7:zdY P w K mg base) (zjZ:zdQ P w K mg base) (zj9:zd0 P w K mg base) (xN:zaB P w K mg base):zdz P w K mg base:=zlu [none,none] ["self","one","other","total","i","j","row","weight"] bj M F fun hr nd=>by
  unfold xh zZ zR
  exact(aE (zrc (bt zj7 hr (a2 (bY.pv (lq (a2 (ae 1) (ae 2)))) (aA cD (qj 0 0 bj) aw))))
      (aE (kn 3 nd (zhn (qi rfl C.mY C.qG (fun _=>by simp [aj,Fz])) (aA cD (qj 0 0 bj) aw)))
      (aE (iR (km (qj 0 1 bj)) (fZ rfl (bL (aX 4 nd) (bL (aX 5 nd) (bL (aX 6 nd) f6)))) (aE (cM 7 nd (bt zjZ hr (a2 (bt xN hr (a2 (aT aR (ae 1) (ae 4)) (aT aR (ae 2) (ae 5)))) (bt xN hr (a2 (aT aR (ae 1) (ae 5)) (aT aR (ae 2) (ae 4)))))))
      (bX (sI 3 (kn 3 nd (vT zj9 hr (a3 (ae 3) (ae 7) (ae 6))))))))
      (bX (zcR 3 (pv 3))))))
theorem zny(h:aD K mg "read_leaving" (top 37)) (zj5:zdV P w K mg base) (xK:zaA P w K mg base):zdS P w K mg base:=cC ["text","count","pair","equals","terms","one","comma","other","i","j","row"] h fun hr nd=>by
  unfold zaN
  exact(aE (qm (oB GL GN yP (ae 0) fN) (fZ rfl (bL (aX 2 nd) (bL (aX 3 nd) (bL (aX 4 nd) f6)))))
      (aE (qm (oB GL GN yP (ae 2) fN) (fZ rfl (bL (aX 5 nd) (bL (aX 6 nd) (bL (aX 7 nd) f6)))))
      (aE (sL 8 9 nd (bt xK hr (a2 (ae 5) (ae 1))) (bt xK hr (a2 (ae 7) (ae 1))))
      (aE (cM 10 nd (bt zj5 hr (a2 (ae 4) (ae 1))))
      (aE (cR (dD.gI (eZ (bO kh (ae 8) fM) (eZ (bO kh (ae 9) fM) (eZ (bO (zcX hr) (ae 8) (ae 9)) (iS (bO kh (ae 10) fM)))))) (bD fM) cS)
      (bD (fo (a3 (ae 8) (ae 9) (ae 10)))))))))
theorem znC(h:aD K mg "read_table" (top 38)) (nJ:ug P w K mg base) (zjI:zdy P w K mg base) (zj2:zdS P w K mg base):zdW P w K mg base:=fnB [none] ["text","words","count","held","at","word","leaving"] h fun hr nd=>by
  unfold xA vX wx zW
  exact(vM (vL (cM 1 nd (oB Jr Js m_split (ae 0) fN)))
      (vM (vL (cM 2 nd (bt nJ hr (a1 (aT aR (ae 1) aw)))))
      (vM (vL (cR (dD.gI (eZ (bO kh (ae 2) fM) (iS (iq (zcT (qo hr) (qo hr) aw (ae 2) (vR (v:=(.int 6)) rfl C.yO ⟨_,rfl⟩ (fun _=>jL _))))))) (bX sJ) cS))
      (vM (vL (kn 3 nd zh))
      (vM (vL (zcS 3 (iR (zqZ rfl B.vx (a1 (zcM zE (ae 1) (zj aw) zi))) (fZ rfl (bL (aX 4 nd) (bL (aX 5 nd) f6))) (aE (cM 6 nd (bt zj2 hr (a2 (ae 5) (ae 2))))
      (aE (cR (dD.gI (eZ (bO kh (ae 6) fM) (iS (zhr 3 (zhx hr) (zcM zE (ae 6) zi (zj aw)))))) (bX sJ) cS)
      (bX (zk 3 (tf hr) (pv 3) (ae 6) (zcM zE (ae 6) zi (zj aw)))))))))
      (zqx (zqv (zrb zjI hr (a2 (ae 2) (bY.pv (cp ["pair"] [3] ["pair","held"] (zqY (ae 3)) (fun nd=>(aX 0 nd)) lr (aT (sN hr) (ae 1) (ae 0)))))))))))))
set_option maxHeartbeats 0 in
theorem znu(h:e9 K "law" "law" (top 61) fa fd) (zjQ:zdH P w K mg base) (zjL:zdB P w K mg base) (zjT:zdK P w K mg base) (zjU:zdL P w K mg base) (za8:zdW P w K mg base) (zjM:zdC P w K mg base) (xJ:zav P w K mg base) (zjJ:zdz P w K mg base) (zjN:zdD P w K mg base) (j3:uf P w K mg base):dj P w K mg base (cF P w) 9 fa fd ["_law_script"] (jW K 1 false tW):=by
  have S:iY ["_law_script","_law_ahead","_law_k","_law_purse_here","_law_table","_law_text_here","_law_due","_law_told","_law_rests","_law_i","_law_j","_law_row","_law_one","_law_other"] ["_law_script"] (bG (top 61)):=⟨rfl,rfl,rfl,by decide +kernel,rfl,by decide +kernel,by decide +kernel⟩
  refine dj.pure (zfn (AB 1 false) false h S rfl (by decide) fun aJ A outer s H E hr=>?_)
  have nd:=S.nd
  refine zcQ ?_
  unfold zaJ Ag zV zt zr Af zdh
  exact(aE (cM 1 nd fN)
      (aE (iR (ql rfl B.lP (a1 aw)) (aX 2 nd) (aE (kn 3 nd (vT zjQ hr (a2 (bt zjM hr (a2 (ae 0) (ae 2))) (aA cD aw (ae 2)))))
      (aE (cM 4 nd (bY.pv (zcO zjL hr (gM 3 (jx (aA cD aw (jT j3 hr (gM 3 (jx aw ip)))) (jx (aT aR (bY.pv (lq (a2 aw aw))) (aA ou (ae 2) aw)) ip))))))
      (aE (cM 5 nd (jT zjT hr (jx (ae 4) (gM 3 ip))))
      (aE (cM 6 nd (bt zjU hr (a2 (ae 4) (ae 5))))
      (aE (zrg 7 nd (zcP za8 hr (vH (ae 5) yZ)))
      (aE (cR (dD.gI (eZ (bO (jy hr) (qj 7 0 bj) (aT aR (ae 4) aw)) (eZ (bO (jy hr) (qj 7 1 bj) (ae 6)) (iS (iq (jU jX (sF kit_tuple B.om B.mZ Bt.tuple (qj 7 1 bj)))))))) (bD qh) cS)
      (aE (kn 8 nd zh)
      (aE (iR (km (ae 6)) (fZ rfl (bL (aX 9 nd) (bL (aX 10 nd) (bL (aX 11 nd) f6)))) (bX (zk 8 (tf hr) (pv 8) (jw zj0 B.vy Bt.list (ae 11)) (fo (a2 (ae 9) (ae 10))))))
      (aE (zcS 12 (cpS 12 ["_law_way"] [3] ["_law_way","_law_purse_here"] nd (ql rfl B.lP (a1 (aA cD (aT aR (ae 4) aw) aw))) (fun nd=>(aX 0 nd)) lr (jT xJ hr (gM 1 ip))))
      (aE (zcS 13 (cpS 13 ["_law_way"] [3] ["_law_way","_law_purse_here"] nd (ql rfl B.lP (a1 (aA cD (aT aR (ae 4) aw) aw))) (fun nd=>(aX 0 nd)) lr (jT xJ hr (gM 1 ip))))
      (aE (sI 8 (cR (bO (jy hr) (bY.pv (zq8 7 zjJ hr (vH (ae 12) (vH (ae 13) yZ)))) (bt zjN hr (sH (aT aR (ae 4) aw) (a3 (ae 8) (ae 12) (ae 13))))) (bD qh) cS))
      (aE (cR (dD.gI (eZ (bO (m9 hr) (zhk 0 bj (zcP za8 hr (vH (ae 1) yZ))) aw) (eZ (bO (jy hr) (zhk 1 bj (zcP za8 hr (vH (ae 5) yZ))) (ae 6)) (iS (bO (jy hr) (qj 7 1 bj) (ae 6)))))) (bD qh) cS)
      (bX (cM 1 nd (ae 5))))))))))))))))
      (bD qh)))
end
end
variable {YP:AJ->AD->Prop}{q:AO}{zc4 zsd zse:Array (Option dm)}{l:HM}{zcw:Option ir}{zcs:Nat}{d:DefRec}{h:AD}{zo1 zo2:dm}{loose:List gV}
section
theorem all_mk{K:ox}(X:K.In h)(G:h.Ns Ba mg)(hfa:mg "law"=some (.ref fa))
      
     {zb7 zb8:Bf}
    {zo4 zjq:Option ir} {zm0 zk3 zqe zeO zks:dm} 
    {zo3 zjp:Option ir} {zmZ zk2 zqd zeN zkr:dm} 
  (ziZ:aD K mg "is_whole" (top 9))
  (ziT:aD K mg "common_divisor" (top 10))
  (ziV:aD K mg "is_of_noughts" (top 19))
  (zjb:aD K mg "read_whole" (top 31))
  (ziH:aD K mg "_law_mixed" (top 40))
  (ziC:aD K mg "_law_at" (top 43))
  (ziG:aD K mg "_law_low" (top 44))
  (ziK:aD K mg "_law_not" (top 47))
  (ziD:aD K mg "_law_blank" (top 51))
  (ziL:aD K mg "_law_number_text" (top 56))
  (ziS:aD K mg "_law_written" (top 60))
  (ziU:aD K mg "is_number" (top 11))
  (zi3:aD K mg "plus" (top 12))
  (zje:aD K mg "times" (top 14))
  (ziY:aD K mg "is_way" (top 23))
  (zi9:aD K mg "read_top" (top 32))
  (zja:aD K mg "read_way" (top 34))
  (ziN:aD K mg "_law_purse" (top 41))
  (ziP:aD K mg "_law_take" (top 42))
  (ziM:aD K mg "_law_plus" (top 45))
  (ziE:aD K mg "_law_by" (top 46))
  (ziQ:aD K mg "_law_terms" (top 57))
  (zi1:aD K mg "less" (top 13))
  (ziW:aD K mg "is_row" (top 16))
  (zjf:aD K mg "with_times" (top 20))
  (zi2:aD K mg "names_two_ways" (top 24))
  (zi5:aD K mg "read_number" (top 33))
  (ziA:aD K mg "_law_added" (top 48))
  (ziO:aD K mg "_law_scaled" (top 49))
  (ziJ:aD K mg "_law_nine" (top 54))
  (ziI:aD K mg "_law_mixed_up" (top 58))
  (ziX:aD K mg "is_row_of" (top 17))
  (zi6:aD K mg "read_part" (top 35))
  (ziF:aD K mg "_law_cross" (top 53))
  (ziB:aD K mg "_law_any" (top 55))
  (ziR:aD K mg "_law_text" (top 59))
  (zjc:aD K mg "refuse_rows" (top 18))
  (zjd:aD K mg "rows_by_pair" (top 25))
  (zi7:aD K mg "read_row" (top 36))
  (zi4:aD K mg "read_leaving" (top 37))
  (zi8:aD K mg "read_table" (top 38))
  (zi0:aD K mg "law" (top 61))
  (zci:BK K Ba "ALONE"=some (some (.str "e" sV)))
  (zcj:BK K Ba "FIGURES"=some (some (.str "0123456789" sW)))
  (zck:BK K Ba "MOST_FIGURES"=some (some (.int 9 sX)))
  (yO:BK K Ba "MOST_WAYS"=some (some (.int 6 sY)))
  (mY:BK K Ba "NOUGHT"=some (some (.ref kG)))
  (znX:K.lookup kG=some ⟨.type "tuple",zcw,.seq #[.int 0 zb7,.int 1 zb8] zcs,zc4⟩)
  (vv:BK K Ba "abs"=some none)
  (om:BK K Ba "isinstance"=some none)
  (yQ:BK K Ba "int"=some none)
  (zcp:BK K Ba "bool"=some none)
  (mZ:BK K Ba "tuple"=some none)
  (vy:BK K Ba "list"=some none)
  (kY:BK K Ba "str"=some none)
  (kX:BK K Ba "len"=some none)
  (vw:BK K Ba "all"=some none)
  (lP:BK K Ba "range"=some none)
  (vz:BK K Ba "zip"=some none)
  (vx:BK K Ba "enumerate"=some none)
  (zgC:BK K Ba "max"=some none)
  (zgD:BK K Ba "min"=some none)
  (zgE:BK K Ba "sum"=some none)
  (r9:BK K Ba "sorted"=some none)
  (zgB:BK K Ba "dict"=some none)
  (zgA:BK K Ba "any"=some none)
  (zmN:BK K Ba "Table"=some (some (.ref e8)))
  (zmO:Fw K e8 Cu=true)
  (zmP:F7 K e8=true)
  (zmQ:G3 K e8=true)
  (zmR:CH K (.ref e8) "__setattr__"=some (some (.builtin "object.__setattr__")))
  (znS:CH K (.ref e8) "count"=some none)
  (znT:CH K (.ref e8) "leavings"=some none)
  (zmS:G5 K e8=true)
  (zmT:CH K (.ref e8) "__init__"=some (some (.ref pA)))
  (zmU:Fx K (.ref pA)=true)
  (zmV:Dh K (.ref e8)=true)
  (zfY:K.lookup pA=some ⟨zo1,zo3,.func (Cm "__init__" "Table.__init__" (jb (nV 26 0)) (dR (nV 26 0)) (bG (nV 26 0)) .none zmZ zk2 zqd zjp zeN zkr),zsd⟩)
  (zmL:DS K zeN "Table.__init__"=true)
  (zmM:Dh K (.ref pA)=true)
  (zoh:CH K (.ref e8) "left"=some (some (.ref pB)))
  (zoi:Fx K (.ref pB)=true)
  (zgw:Dh K (.ref pB)=true)
  (zgx:K.lookup pB=some ⟨zo2,zo4,.func (Cm "left" "Table.left" (jb (nV 26 1)) (dR (nV 26 1)) (bG (nV 26 1)) .none zm0 zk3 zqe zjq zeO zks),zse⟩)
  (zoj:DS K zeO "Table.left"=true) :
  ∃(cl:CL) (ob:String->Option (ir×List gV)) (fd:Bw),gK cl K/\(∀(s:kb) (v:dm),E2 s fd ⟨[v],[]⟩ [("_law_script",v)])/\∀ base:AD,(bK (cl.map (·.1)) K).In base->base.Ns Ba mg->dj l.prog w (bK (cl.map (·.1)) K) mg base (cF l.prog w) 9 fa fd ["_law_script"] (@jW (rz cl ob) (bK (cl.map (·.1)) K) 1 false tW):=by
 obtain⟨f,fd,hm,Fl⟩:=id zi0
 have e:=hfa.symm.trans hm
 cases e
 obtain⟨oc,od,kV,dc,pm,an,cd,ct,sl,rfl,lk,g9⟩:=id Fl.ex
 have hC:gK [(kG,⟨.type "tuple",zcw,.seq #[.int 0 zb7,.int 1 zb8] zcs,zc4⟩,[.int 0,.int 1])] K:=(gK.cons znX (.cons ⟨_,rfl⟩ (.cons ⟨_,rfl⟩ (.nil))) (by decide) gK.nil)
 refine⟨_,(fun c=>if c="Table" then some (e8,["count","leavings"]) else none),Cm "law" "law" (jb (top 61)) (dR (top 61)) (bG (top 61)) .none kV dc pm an cd ct,hC,fun s v=>.of_eq rfl,fun base _ _=>?_⟩
 have B:Blt mg:=⟨B9 X G vv,B9 X G om,B9 X G yQ,B9 X G zcp,B9 X G mZ,B9 X G vy,B9 X G kY,B9 X G kX,B9 X G vw,B9 X G lP,B9 X G vz,B9 X G vx,B9 X G zgC,B9 X G zgD,B9 X G zgE,B9 X G r9,B9 X G zgB,B9 X G zgA⟩
 letI:Cs:=rz [(kG,⟨.type "tuple",zcw,.seq #[.int 0 zb7,.int 1 zb8] zcs,zc4⟩,[.int 0,.int 1])] (fun c=>if c="Table" then some (e8,["count","leavings"]) else none)
 have bj:Ob (bK (([kG]:List ir)) K) "Table" e8 ["count","leavings"]:=⟨if_pos rfl,gw.cut hC.bI ⟨zmO,zmP,zmQ,zmR⟩,fun f hf=>iZ.cut hC.bI (by
  simp only [AX,B1,or_false] at hf
  rcases hf with rfl|rfl
  ·exact znS
  ·exact znT
  ),by decide +kernel⟩
 have C:Cst mg sV sW sX sY kG:=⟨EJ X G zci,EJ X G zcj,EJ X G zck,EJ X G yO,EJ X G mY,zl4 (ob:=fun _=>none) hC (List.Mem.head _)⟩
 have zbg:=znt (P:=l.prog) (w:=w) (base:=base) B C bj (ziZ.cut hC.bI)
 have zbf:=znn (P:=l.prog) (w:=w) (base:=base) B C bj (ziT.cut hC.bI)
 have zkL:=znp (P:=l.prog) (w:=w) (base:=base) B C bj (ziV.cut hC.bI)
 have xX:=znF (P:=l.prog) (w:=w) (base:=base) B C bj (zjb.cut hC.bI)
 have ze3:=znb (P:=l.prog) (w:=w) (base:=base) B C bj (ziH.cut hC.bI)
 have zkz:=zm6 (P:=l.prog) (w:=w) (base:=base) B C bj (ziC.cut hC.bI)
 have zbe:=zna (P:=l.prog) (w:=w) (base:=base) B C bj (ziG.cut hC.bI)
 have zkC:=zne (P:=l.prog) (w:=w) (base:=base) B C bj (ziK.cut hC.bI)
 have ze1:=zm7 (P:=l.prog) (w:=w) (base:=base) B C bj (ziD.cut hC.bI)
 have zkD:=znf (P:=l.prog) (w:=w) (base:=base) B C bj (ziL.cut hC.bI)
 have zkI:=znm (P:=l.prog) (w:=w) (base:=base) B C bj (ziS.cut hC.bI)
 have ze6:=zno (P:=l.prog) (w:=w) (base:=base) B C bj (ziU.cut hC.bI) zbf zbg
 have ze8:=znx (P:=l.prog) (w:=w) (base:=base) B C bj (zi3.cut hC.bI) zbf
 have zfa:=znI (P:=l.prog) (w:=w) (base:=base) B C bj (zje.cut hC.bI) zbf
 have zkN:=zns (P:=l.prog) (w:=w) (base:=base) B C bj (ziY.cut hC.bI) zbg
 have zkW:=znD (P:=l.prog) (w:=w) (base:=base) B C bj (zi9.cut hC.bI) xX
 have ze9:=znE (P:=l.prog) (w:=w) (base:=base) B C bj (zja.cut hC.bI) xX
 have zkE:=znh (P:=l.prog) (w:=w) (base:=base) B C bj (ziN.cut hC.bI) ze3
 have xW:=znj (P:=l.prog) (w:=w) (base:=base) B C bj (ziP.cut hC.bI) ze3
 have ze5:=zng (P:=l.prog) (w:=w) (base:=base) B C bj (ziM.cut hC.bI) zbe
 have ze2:=zm8 (P:=l.prog) (w:=w) (base:=base) B C bj (ziE.cut hC.bI) zbe
 have zkG:=znk (P:=l.prog) (w:=w) (base:=base) B C bj (ziQ.cut hC.bI) zkD
 have zkP:=znv (P:=l.prog) (w:=w) (base:=base) B C bj (zi1.cut hC.bI) ze8
 have zkM:=znq (P:=l.prog) (w:=w) (base:=base) B C bj (ziW.cut hC.bI) ze6
 have zk0:=znJ (P:=l.prog) (w:=w) (base:=base) B C bj (zjf.cut hC.bI) ze8 zfa
 have zkQ:=znw (P:=l.prog) (w:=w) (base:=base) B C bj (zi2.cut hC.bI) zkN
 have zkS:=znz (P:=l.prog) (w:=w) (base:=base) B C bj (zi5.cut hC.bI) zkW xX ze6
 have zkx:=zm4 (P:=l.prog) (w:=w) (base:=base) B C bj (ziA.cut hC.bI) ze5
 have zkF:=zni (P:=l.prog) (w:=w) (base:=base) B C bj (ziO.cut hC.bI) ze2
 have ze4:=znd (P:=l.prog) (w:=w) (base:=base) B C bj (ziJ.cut hC.bI) xW zbe
 have zkB:=znc (P:=l.prog) (w:=w) (base:=base) B C bj (ziI.cut hC.bI) xW
 have ze7:=znr (P:=l.prog) (w:=w) (base:=base) B C bj (ziX.cut hC.bI) zkM
 have zkT:=znA (P:=l.prog) (w:=w) (base:=base) B C bj (zi6.cut hC.bI) zkS ze9
 have zkA:=zm9 (P:=l.prog) (w:=w) (base:=base) B C bj (ziF.cut hC.bI) ze1 ze5 ze2 zkC zkx zkF
 have zky:=zm5 (P:=l.prog) (w:=w) (base:=base) B C bj (ziB.cut hC.bI) ze1 xW ze4
 have zkH:=znl (P:=l.prog) (w:=w) (base:=base) B C bj (ziR.cut hC.bI) zkB zkG
 have zkX:=znG (P:=l.prog) (w:=w) (base:=base) B C bj (zjc.cut hC.bI) ze7
 have zkY:=znH (P:=l.prog) (w:=w) (base:=base) B C bj (zjd.cut hC.bI) zkQ ze7
 have zkU:=znB (P:=l.prog) (w:=w) (base:=base) B C bj (zi7.cut hC.bI) zkT
 have zkv:=zm2 (P:=l.prog) (w:=w) (base:=base) B C bj (fun c ns e=>by
  have e:((fun c=>if c="Table" then some (e8,["count","leavings"]) else none):String->Option (ir×List gV)) c=some (e8,ns):=e
  simp only at e
  split at e <;> cases e
  rfl) (EJ X G zmN) (Mk.cut hC.bI zfY ⟨zmS,zmT,zmU,zmV⟩) (e9.cut hC.bI (zbx zfY zmL zmM)) zkY zbg zkL
 have zkw:=zm3 (P:=l.prog) (w:=w) (base:=base) B C bj (Meth.cut hC.bI zgx ⟨zoh,zoi,zgw⟩) (e9.cut hC.bI (zbx zgx zoj zgw)) zkX zkP zk0 zfa
 have zkR:=zny (P:=l.prog) (w:=w) (base:=base) B C bj (zi4.cut hC.bI) zkU ze9
 have zkV:=znC (P:=l.prog) (w:=w) (base:=base) B C bj (zi8.cut hC.bI) xX zkv zkR
 have zkO:=znu (P:=l.prog) (w:=w) (base:=base) B C bj (e9.cut hC.bI Fl) zkE zky zkH zkI zkV zkz ze4 zkw zkA xW
 exact zkO
theorem walk{XP:(gV->Option dm)->AD->Prop}{K:Params->ox}(zbR:∀ ns:List Int,ns.length<=63->tW [.list (ns.map A8)]=.ok (.bool true))(hn:l.most=some 63)(u3:d.params.defaults=[])(hi:importsNone q=true)(vg:l.prog.given.tree=none)
  (hY:∀(w:AJ) (h:AD),YP w h->(K w.params).In h)
  (F:∀(w:AJ) (mg:gV->Option dm) (fa:ir) (h:AD),(K w.params).In h->h.Ns Ba mg->mg d.name=some (.ref fa) ->
   ∃(cl:CL) (ob:String->Option (ir×List gV)) (fd:Bw),gK cl (K w.params)/\(∀(s:kb) (u:dm),E2 s fd ⟨[u],[]⟩ [("_law_script",u)])/\∀ base:AD,(bK (cl.map (·.1)) (K w.params)).In base->base.Ns Ba mg->dj l.prog w (bK (cl.map (·.1)) (K w.params)) mg base (cF l.prog w) 9 fa fd ["_law_script"] (@jW (rz cl ob) (bK (cl.map (·.1)) (K w.params)) 1 false tW)) :
  PySem.W.WalkO q loose XP YP l.row.toRowW d [] (fun f vs=>Hk f vs) :=
 ztg (k:=9) (x:="_law_script") zbR hn u3 hi vg ⟨rfl,by decide,by decide,rfl⟩ hY F
end
end K77
namespace TX
open PySem PySem.StrLaws Builtin Builtin.Str L2
variable {c n:Nat}{a b x:gV}{i:Int}{ps:List gV}
abbrev cp(x:gV):List Nat:=x.cps.toList
theorem ext(h:cp a=cp b):a=b:=Str.ext' (HP.mp h)
theorem cw(a b:gV):cp (a++b)=cp a++cp b:=by simp [cp,Str.cps_append]
theorem jR(a:gV):a.length=(cp a).length:=by simp [cp,Str.length]
abbrev one(c:Nat):gV:=⟨#[c]⟩
theorem rA{c:Nat}:∀{a b x y:List Nat},c∉a->c∉b->a++c::x=b++c::y->a=b/\x=y
 | [],[],x,y,_,_,h=>by simp at h;exact⟨rfl,h⟩
 | [],d::b,x,y,_,hb,h=>by simp at h;exact absurd (by simp [h.1]) hb
 | d::a,[],x,y,ha,_,h=>by simp at h;exact absurd (by simp [h.1]) ha
 | d::a,e::b,x,y,ha,hb,h=>by
  simp only [Bm,FX] at h
  obtain⟨rfl,h⟩:=h
  obtain⟨rfl,rfl⟩:=rA (fun z=>ha (Be _ z)) (fun z=>hb (Be _ z)) h
  exact⟨rfl,rfl⟩
theorem oh(s p q:gV)(r:List gV):Br s (p::q::r)=p++s++Br s (q::r):=rfl
theorem zfW{c:Nat}:∀{ps qs:List gV},ps≠[]->qs≠[]->(∀ p∈ps,c∉cp p)->(∀ p∈qs,c∉cp p)->Br (one c) ps=Br (one c) qs->ps=qs
 | [],_,h,_,_,_,_=>absurd rfl h
 | _::_,[],_,h,_,_,_=>absurd rfl h
 | [p],[q],_,_,_,_,h=>by rw [show p=q from h]
 | [p],q::q'::r,_,_,hp,_,h=>by
  have h1:=congrArg cp h
  rw [oh,cw,cw] at h1
  refine absurd ?_ (hp p (Bc ..))
  rw [show cp p=_ from h1]
  simp
 | p::p'::r,[q],_,_,_,hq,h=>by
  have h1:=congrArg cp h
  rw [oh,cw,cw] at h1
  refine absurd ?_ (hq q (Bc ..))
  rw [show cp q=_ from h1.symm]
  simp
 | p::p'::r,q::q'::t,_,_,hp,hq,h=>by
  have h1:=congrArg cp h
  rw [oh,oh,cw,cw,cw,cw,C7,C7] at h1
  obtain⟨e1,e2⟩:=rA (hp p (Bc ..)) (hq q (Bc ..)) (show cp p++c::cp (Br (one c) (p'::r))=cp q++c::cp (Br (one c) (q'::t)) from h1)
  rw [ext e1,zfW (by simp) (by simp) (fun x hx=>hp x (Be _ hx)) (fun x hx=>hq x (Be _ hx)) (ext e2)]
theorem zsp(x:gV)(c:Nat):Du x (one c)≠[]:=by
 intro h
 have:=PyProof.Rows.split_pos x (one c)
 rw [h] at this
 exact absurd this (by decide)
theorem zso(h:ps≠[])(hp:∀ p∈ps,c∉cp p):Du (Br (one c) ps) (one c)=ps :=
 zfW (zsp _ c) h (split_free _ c) hp (StrLaws.join_split _ _)
theorem uo{i:Nat}:At x (one c) x.length i↔(cp x)[i]?=some c:=subAt_one x c i
theorem zpt(h:c∉cp a):qd a (one c)=[a,Cu,Cu]:=by
 unfold qd
 rcases occ_head a (one c) 1 (AI _) with⟨e,_⟩|⟨i,r,e,hi,_⟩
 ·rw [e]
 ·exact absurd (Ck (uo.mp hi)) h
theorem zlb(A B:List Nat)(c:Nat):((A++c::B).drop (A.length+1)).take ((A++c::B).length-(A.length+1))=B:=by
 rw [show A++c::B=(A++[c])++B by simp,show A.length+1=(A++[c]).length by simp,List.drop_left,BH,HE,List.take_length]
theorem zgY(h:c∉cp a):qd (a++one c++b) (one c)=[a,one c,b]:=by
 have hx:cp (a++one c++b)=cp a++c::cp b:=by rw [cw,cw,C7];rfl
 have hA:(cp (a++one c++b))[(cp a).length]?=some c:=by rw [hx];simp
 have jO:∀ i,i<(cp a).length->(cp (a++one c++b))[i]?≠some c:=fun i hi z=>by
  rw [hx,B4 hi] at z
  exact h (Ck z)
 unfold qd
 rcases occ_head (a++one c++b) (one c) 1 (AI _) with⟨_,n⟩|⟨i,r,e,hi,n⟩
 ·exact absurd (uo.mpr hA) (n _)
 ·rw [e]
  have h1:=uo.mp hi
  have ei:i=(cp a).length:=by
   rcases Nat.lt_trichotomy i (cp a).length with l|l|l
   ·exact absurd h1 (jO i l)
   ·exact l
   ·exact absurd (uo.mpr hA) (n _ l)
  subst ei
  have l1:(one c).length=1:=rfl
  have s1:strSub (a++one c++b) 0 (cp a).length=a:=ext (by show(strSub _ _ _).cps.toList=_;rw [strSub_toList];show((cp (a++one c++b)).drop 0).take _=_;rw [hx];simp)
  have s2:strSub (a++one c++b) ((cp a).length+(one c).length) (a++one c++b).length=b:=ext (by
   show(strSub _ _ _).cps.toList=_
   rw [strSub_toList]
   show((cp (a++one c++b)).drop _).take _=_
   rw [jR (a++one c++b),hx,l1]
   exact zlb _ _ _)
  show [strSub _ 0 _,_,strSub _ _ _]=_
  rw [s1,s2]
abbrev T(i:Int):gV:=BD (toString i)
theorem pq(n:Nat):cp (T (n:Int))=(Fp 10 n).map Char.toNat:=PySem.W.KIN.signs_num n
theorem zbh(n:Nat):∀ c∈cp (T (n:Int)),48<=c/\c<=57:=by
 intro c hc
 rw [pq] at hc
 obtain⟨ch,j6,rfl⟩:=A7.mp hc
 have:=Nat.isDigit_of_mem_toDigits (b:=10) (by decide) (by decide) j6
 unfold Char.isDigit at this
 simp only [BJ,decide_eq_true_eq] at this
 exact⟨this.1,this.2⟩
theorem ne_T(n:Nat):cp (T (n:Int))≠[]:=by
 rw [pq]
 intro e
 have:(Fp 10 n).length=0:=by rw [GO.mp e];rfl
 have h2:=@Nat.length_toDigits_pos 10 n
 lia
theorem zl8(h:0<n):∀ c r,cp (T (n:Int))=c::r->c≠48:=by
 induction n using Nat.strongRecOn with
 | _ m ih =>
  intro c r e
  by_cases hm:m<10
  ·rw [pq,Nat.toDigits_of_lt_base hm] at e
   simp only [AQ,BW,FX] at e
   have:∀ d:Nat,d<10->0<d->(Nat.digitChar d).toNat≠48:=by decide
   rw [<- e.1]
   exact this m hm h
  ·have t:Fp 10 (m / 10)++Fp 10 (m % 10)=Fp 10 (10*(m / 10)+m % 10):=Nat.toDigits_append_toDigits (by decide) (by lia) (Nat.mod_lt m (by decide))
   rw [Nat.div_add_mod] at t
   rw [pq,<- t,BZ] at e
   have i2:=ih (m / 10) (by lia) (by lia)
   rw [pq] at i2
   cases hd:(Fp 10 (m / 10)).map Char.toNat with
   | nil=>exact absurd hd (by have:=ne_T (m / 10);rw [pq] at this;exact this)
   | cons c' r' =>
    rw [hd] at e i2
    simp only [Bm,FX] at e
    rw [<- e.1]
    exact i2 c' r' rfl
theorem len_T{k:Nat}(hk:0<k)(h:n<10^k):(T (n:Int)).length<=k:=PyProof.Rows.toString_length_le (Int.natCast_nonneg n) hk (by exact_mod_cast h)
theorem zgG(h:i<0):T i=one 45++T (0-i):=by
 show BD (toString i)=_
 rw [PyProof.Rows.toString_neg h]
 refine ext ?_
 rw [cw]
 show(BD _).cps.toList=_
 rw [Jt]
 show _=[45]++(BD (toString (0-i))).cps.toList
 rw [Jt]
 simp
theorem eT(c:Nat)(hc:c≠45/\(c<48\/57<c))(i:Int):c∉cp (T i):=PyProof.Rows.int_text_free' c hc i
end TX
namespace FL
open PySem
variable {i m n:Nat}{y:D×En}{a b d:D}{α:Type}{x:Sl}{j:Int}{ρ:En}{f:EF}
section
theorem zjG(ns:List Bool):boolsOf (ns.map BE)=some ns:=by
 induction ns with
 | nil=>rfl
 | cons n ns ih=>simp [boolsOf,ih]
theorem zaD(bs:List Bool):nG (.list (bs.map BE))=.ok (.bool (bs.all id)):=by
 show((R.of (boolsOf _)).bind _)=_
 rw [zjG];rfl
theorem zkt(xs:List α)(p:Nat)(h:p<=xs.length):cut xs (some (p:Int)) none=xs.drop p:=by
 unfold cut aU
 simp only
 rw [if_neg (by lia)]
 rw [show min (p:Int).toNat xs.length=p by lia]
 rw [HQ (by simp)]
theorem sP(lo hi:Int):de lo hi=((Bh (hi-lo).toNat).map fun(i:Nat)=>lo+(i:Int)).map A8:=by
 unfold de
 rw [Bz];rfl
def Pl(n:Nat)(d:D):Prop:=FP d=true/\d.depth<=n
theorem Pl.shaped(h:Pl n d)(hn:n<=64:=by decide):CJ d=true:=by
 unfold CJ
 rw [h.1,decide_eq_true (Bj h.2 hn)];rfl
theorem lR(i:Int):Pl 0 (.int i):=⟨rfl,AI _⟩
theorem zcD{n:Nat}:∀{ds:List D},(∀ d∈ds,Pl n d)->Gr ds=true/\PyData.depthAll ds<=n
 | [],_=>⟨rfl,B6 _⟩
 | d::ds,h=>by
  obtain⟨a,b⟩:=zcD fun x m=>h x (Be d m)
  obtain⟨c,e⟩:=h d (Bc ..)
  refine⟨by simp only [Gr];rw [c,a];rfl,?_⟩
  simp only [PyData.depthAll]
  lia
theorem vJ{ds:List D}(h:∀ d∈ds,Pl n d):Pl (n+1) (.tuple ds):=by
 obtain⟨a,b⟩:=zcD h
 exact⟨a,by simp only [PyData.depth];lia⟩
theorem zcE{ds:List D}(h:∀ d∈ds,Pl n d):Pl (n+1) (.list ds):=by
 obtain⟨a,b⟩:=zcD h
 exact⟨a,by simp only [PyData.depth];lia⟩
theorem zfj{α:Type}[DecidableEq α](f:α->D)(h:∀ a b,CK (f a) (f b)=decide (a=b)):∀ xs ys:List α,FY (xs.map f) (ys.map f)=decide (xs=ys)
 | [],[]=>rfl
 | [],y::ys=>by simp [FY]
 | x::xs,[]=>by simp [FY]
 | x::xs,y::ys=>by
  simp only [AQ,FY]
  rw [h,zfj f h xs ys]
  by_cases e1:x=y <;> by_cases e2:xs=ys <;> simp [e1,e2]
theorem zbq(a b:Int):CK (.int a) (.int b)=decide (a=b):=by
 show(a==b)=_
 rw [Bool.beq_eq_decide_eq]
abbrev tp(w:List Int):D:=.tuple (w.map A8)
theorem zhd(w:List Int):Pl 1 (tp w):=vJ fun d m=>by
 obtain⟨i,_,rfl⟩:=A7.mp m
 exact lR i
theorem zlp(a b:List Int):CK (tp a) (tp b)=decide (a=b):=by
 show FY _ _=_
 exact zfj _ zbq a b
theorem zbp(ha:Pl n a)(hb:Pl m b)(hn:n<=64:=by decide)(hm:m<=64:=by decide):du a b=.ok (.bool (CK a b)):=by
 unfold du
 rw [ha.shaped hn,hb.shaped hm];rfl
theorem yR(ha:Pl n a)(hb:Pl m b)(hn:n<=64:=by decide)(hm:m<=64:=by decide):cg a b=.ok (.bool (!CK a b)):=by
 unfold cg
 rw [ha.shaped hn,hb.shaped hm];rfl
theorem zlo(a b:List Int):du (tp a) (tp b)=.ok (.bool (decide (a=b))):=by rw [zbp (zhd a) (zhd b),zlp]
theorem uM(a b:Int):du (.int a) (.int b)=.ok (.bool (decide (a=b))):=by rw [zbp (lR a) (lR b),zbq]
theorem p7(a b:Int):cg (.int a) (.int b)=.ok (.bool (!decide (a=b))):=by rw [yR (lR a) (lR b),zbq]
theorem ztx(i j:Int):gtD (.int i) (.int j)=.ok (.bool (decide (j<i))):=rfl
theorem rW(i j:Int):eX (.int i) (.int j)=.ok (.bool (decide (i<j))):=rfl
theorem yI(i j:Int):fg (.int i) (.int j)=.ok (.bool (decide (i<=j))):=rfl
theorem zlR(i j:Int):kO (.int i) (.int j)=.ok (.bool (decide (j<=i))):=rfl
theorem sO(h:0<=j)(h2:j<=1000000):iu [.int j]=.ok (de 0 j):=by
 show aF _ _=_
 refine aW ?_
 unfold lT lim
 simp only [BJ,leB_iff]
 lia
theorem zrH{i:Int}(h0:0<=i)(h1:i<=1000000)(h:0<=j)(h2:j<=1000000):ko [.int i,.int j]=.ok (de i j):=by
 show aF _ _=_
 refine aW ?_
 unfold lT lim
 simp only [BJ,leB_iff]
 lia
theorem zeC{m:List (Nat×Sl)}(h:∀ i p d,m.lookup i≠some (.ow p d)):∀(ρ:En) (n:Nat),bR m n ρ=ρ
 | [],_=>rfl
 | x::r,n=>by
  unfold bR
  rw [zeC h r (n+1)]
  congr 1
  unfold cf
  split
  ·rename_i p d q e h1 h2
   exact absurd h2 (h _ _ _)
  ·rfl
theorem iJ{α:Type}{f:α->D}{g:GF}{b:SF}(P:List α->En->Prop):∀(xs:List α) (done:List α) (ρ:En),P done ρ ->
  (∀ pre x post ρ,done++xs=pre++x::post->P pre ρ->∃ ρ' fl,(g (f x) ρ).bind b=.ok (fl,ρ')/\(fl=.nx\/fl=.ct)/\P (pre++[x]) ρ')->∃ ρ',forL g b (xs.map f) ρ=.ok (.nx,ρ')/\P (done++xs) ρ'
 | [],done,ρ,h,_=>⟨ρ,rfl,by simpa using h⟩
 | x::xs,done,ρ,h,hx=>by
  obtain⟨ρ1,fl,e,hf,h1⟩:=hx done x xs ρ rfl h
  obtain⟨ρ2,e2,h2⟩:=iJ P xs (done++[x]) ρ1 h1 fun pre y post ρ e=>hx pre y post ρ (by simpa using e)
  refine⟨ρ2,?_,by simpa using h2⟩
  show((g (f x) ρ).bind fun ρ1=>(b ρ1).bind fun y=>match y.1 with
    | .nx | .ct=>forL g b (xs.map f) y.2
    | .bk=>.ok (.nx,y.2)
    | .rt d=>.ok (.rt d,y.2)
    | .rf d=>.ok (.rf d,y.2))=_
  cases e1:g (f x) ρ with
  | ok ρ3 =>
   rw [e1] at e
   rw [ah] at e ⊢
   rw [e,ah]
   rcases hf with rfl|rfl
   ·exact e2
   ·exact e2
  | bad=>rw [e1] at e;cases e
  | err c fs=>rw [e1] at e;cases e
def Np(x:Sl):Prop:=∀ e,x≠.ow true e
theorem bg:Np .no:=fun _ z=>nomatch z
theorem bF(d:D):Np (.val d):=fun _ z=>nomatch z
theorem zoO(c:String)(ds:List D):Np (.ob c ds):=fun _ z=>nomatch z
theorem zoP(d:D):Np (.ow false d):=fun _ z=>nomatch z
theorem gW(h:ρ[i]?=some x)(n:Np x):gN i d ρ=.ok (ρ.set i (.val d)):=by
 unfold gN
 rw [h]
 cases x with
 | no=>rfl
 | val c=>rfl
 | ob c ds=>rfl
 | ow p c=>cases p with
  | true=>exact absurd rfl (n c)
  | false=>rfl
theorem qw(hf:f ρ=.ok y)(h:y.2[i]?=some x)(n:Np x):bH i f ρ=.ok (.nx,y.2.set i (.ow false y.1)):=by
 unfold bH
 rw [hf,ah,h]
 cases x with
 | no=>rfl
 | val c=>rfl
 | ob c ds=>rfl
 | ow p c=>cases p with
  | true=>exact absurd rfl (n c)
  | false=>rfl
theorem iy(hf:f ρ=.ok y)(h:y.2[i]?=some x)(n:Np x):ay (gN i) f ρ=.ok (.nx,y.2.set i (.val y.1)):=by
 unfold ay
 rw [hf,ah,gW h n];rfl
theorem zaS{m:List (Nat×Sl)}(h:m.lookup i=none):cf m i x=x:=by
 unfold cf
 rw [h]
 cases x <;> rfl
theorem aO{s t:SF}{ρ1:En}(h:s ρ=.ok (.nx,ρ1)):av s t ρ=t ρ1:=by
 unfold av
 rw [h];rfl
end
variable {k l:Nat}{i:Int}
section
def zep:SF:=(av (ay (gN 2) (e2 aC (e2 aC (e2 bq (e2 aC (e2 eF (eV 0) (e2 aC (e2 fY (eC (.int 10)) (eC (.int 18))) (eC (.int 9)))) (e2 bq (eC (.int 7)) (eV 1))) (eC (.int 739108512309184756019283746561))) (e2 bq (eC (.int 7919)) (eV 1))) (eC (.int 1))))
  (av (ay (gN 2) (e2 eF (e2 bq (eV 2) (eV 2)) (e2 aC (e2 fY (eC (.int 10)) (eC (.int 60))) (eC (.int 7)))))
  (ax (e2 eF (e2 bq (e2 aC (eV 2) (eC (.int 40503))) (e2 aC (eV 2) (eC (.int 57)))) (e2 aC (e2 fY (eC (.int 10)) (eC (.int 60))) (eC (.int 7)))))))
def wK:List D->R D:=aN false 2 3 zep
def zaK:SF:=(av (aG (tB (e2 eX (eV 1) (e1 cH (eV 0)))) (ax (e2 aq (eV 0) (eV 1))) aL)
  (ax (e2 aC (e2 bq (eC (.int 3)) (eV 1)) (eC (.int 1)))))
def wJ:List D->R D:=aN false 2 2 zaK
def zaL:SF:=(av (aG (tB (e2 kO (eV 0) (e2 fY (eC (.int 10)) (eC (.int 18))))) (cT (bQ (aa (e2 cU (eV 0) (e2 fY (eC (.int 10)) (eC (.int 18)))) (aa (eC (.int 0)) (aa (eV 1) af))))) aL)
  (cT (bQ (aa (au wK (aa (eV 0) (aa (eV 1) af))) (aa (eC (.int 0)) (aa (e2 aC (e2 eF (eV 0) (e2 aC (e2 fY (eC (.int 10)) (eC (.int 18))) (eC (.int 9)))) (eV 1)) af))))))
def wL:List D->R D:=aN true 2 2 zaL
def ur:SF:=(av (aG (tB (e2 eX (m2 aq 0 (eC (.int 0))) (eV 1))) (av (setM 0 (e2 aC (m2 aq 0 (eC (.int 1))) (eC (.int 1))) (eC (.int 1)))
  (setM 0 (e2 aC (m2 aq 0 (eC (.int 0))) (e2 bq (eV 1) (au wK (aa (m2 aq 0 (eC (.int 2))) (aa (e2 aC (e2 bq (eC (.int 11)) (m2 aq 0 (eC (.int 1)))) (eC (.int 5))) af))))) (eC (.int 0)))) aL)
  (av (ay (gN 2) (e2 eF (m2 aq 0 (eC (.int 0))) (eV 1)))
  (av (setM 0 (e2 bN (m2 aq 0 (eC (.int 0))) (eV 1)) (eC (.int 0)))
  (ax (eV 2)))))
def oR:List D->R (D×List D):=run [true,false] false 3 ur
structure Bd(i:Int)(n:Nat):Prop where
 h:i.natAbs<2^n
theorem Bd.mono(h:Bd i n)(l:n<=m):Bd i m:=⟨BL h.h (HB (by decide) l)⟩
theorem Bd.add(h:Bd i n)(k:Bd j m):Bd (i+j) (max n m+1):=by
 constructor
 have a:=(h.mono (Nat.le_max_left n m)).h
 have b:=(k.mono (Nat.le_max_right n m)).h
 have c:=Int.natAbs_add_le i j
 rw [Nat.pow_succ]
 lia
theorem Bd.mul(h:Bd i n)(k:Bd j m):Bd (i*j) (n+m):=by
 constructor
 rw [ED,Nat.pow_add]
 have a:=h.h
 have b:=k.h
 exact Nat.mul_lt_mul'' a b
theorem Bd.mod(h:Bd j n)(p:0<j):Bd (i.fmod j) n:=by
 constructor
 have a:=h.h
 have b:=Fq i p
 have c:=FZ i p
 lia
theorem mulOk_of(h:Bd i n)(k:Bd j m)(l:n+m<=100000000):vt i j=true:=by
 unfold vt
 refine ib ?_
 have lg:∀{i:Int} {n:Nat},Bd i n->i.natAbs.log2<=n:=by
  intro i n h
  by_cases z:i.natAbs=0
  ·rw [z];exact B6 _
  ·exact Eo ((Hl z).mpr h.h)
 have a:=lg h
 have b:=lg k
 lia
theorem fG(h:Bd i n)(k:Bd j m)(l:n+m<=100000000):bq (.int i) (.int j)=.ok (.int (i*j)):=by
 show aF _ _=_
 exact aW (mulOk_of h k l)
theorem rZ(p:0<j):eF (.int i) (.int j)=.ok (.int (i.fmod j)):=by
 show aF _ _=_
 exact aW (by simp;lia)
theorem zfl(p:0<j)(h:Bd j n)(l:n<=8000):bN (.int i) (.int j)=.ok (.int (i.fdiv j)):=by
 show aF _ _=_
 exact aW (by simp;lia)
noncomputable def oz:Int:=1000000000000000000
noncomputable def qb:Int:=1000000000000000009
noncomputable def p60:Int:=1000000000000000000000000000000000000000000000000000000000000
noncomputable def qc:Int:=1000000000000000000000000000000000000000000000000000000000007
noncomputable def pm:Int:=739108512309184756019283746561
theorem zcU:fY (.int 10) (.int 18)=.ok (.int oz):=rfl
theorem zrn:fY (.int 10) (.int 60)=.ok (.int p60):=rfl
theorem zd3:oz+9=qb:=rfl
theorem zjk:p60+7=qc:=rfl
theorem zcx:0<qb:=by decide
theorem vG:0<qc:=by decide
theorem b18:Bd qb 60:=⟨by decide⟩
theorem b60:Bd qc 200:=⟨by decide⟩
theorem bm:Bd pm 100:=⟨by decide⟩
theorem d7(h:i.natAbs<65536):Bd i 16:=⟨h⟩
def p6(c k:Int):Int:=(c.fmod qb+7*k)*pm+7919*k+1
def oj(c k:Int):Int:=(p6 c k*p6 c k).fmod qc
def kU(c k:Int):Int:=((oj c k+40503)*(oj c k+57)).fmod qc
theorem zcm(c k:Int):0<=kU c k:=Fq _ vG
theorem zgz(c k:Int):Bd (kU c k) 200:=b60.mod vG
theorem rY(c k:Int)(hk:Bd k n)(hn:n<=1000):wK [.int c,.int k]=.ok (.int (kU c k)):=by
 have a1:=rZ (i:=c) zcx
 have a2:Bd (c.fmod qb) 60:=b18.mod zcx
 have a3:=fG (i:=7) (d7 (by decide)) hk (by lia)
 have a4:=(d7 (i:=7) (by decide)).mul hk
 have a5:=a2.add a4
 have a6:=fG a5 bm (by lia)
 have a7:=fG (i:=7919) (d7 (by decide)) hk (by lia)
 have a8:=((a5.mul bm).add ((d7 (i:=7919) (by decide)).mul hk)).add (d7 (i:=1) (by decide))
 have a9:=fG a8 a8 (by lia)
 have b1:=rZ (i:=p6 c k*p6 c k) vG
 have b2:Bd (oj c k) 200:=b60.mod vG
 have b3:=fG (b2.add (d7 (i:=40503) (by decide))) (b2.add (d7 (i:=57) (by decide))) (by decide)
 have b4:=rZ (i:=(oj c k+40503)*(oj c k+57)) vG
 have hm:(A8 739108512309184756019283746561)=.int pm:=rfl
 have f1:(c.fmod qb+7*k)*pm+7919*k+1=p6 c k:=rfl
 have f2:(p6 c k*p6 c k).fmod qc=oj c k:=rfl
 have f3:((oj c k+40503)*(oj c k+57)).fmod qc=kU c k:=rfl
 rw [f1] at a9
 simp only [wK,aN,FL.run,AR,A9,Bu,AB,zep,av,ay,FL.e2,eV,slots,A6,if_false,Ci,Bm,A1,zz0,eC,ah,zcU,aC,zd3,a1,zz1,a3,hm,a6,a7,f1,gN,Bq,Bp,zrn,zjk,ax,a9,b1,f2,b3,b4,f3,outs,outD,if_true]
def cx(k:Nat)(d:D):Prop:=∃ n c s,d=.list [.int n,.int c,.int s]/\0<=n/\0<=c/\c<=k
theorem cx.mono(h:cx k d)(hl:k<=l):cx l d:=by
 obtain⟨n,c,s,e,h1,h2,h3⟩:=h
 exact⟨n,c,s,e,h1,h2,by lia⟩
theorem zqD(c k:Int)(hk:k.natAbs<65536):∃ d,wL [.int c,.int k]=.ok d/\cx 0 d:=by
 have a1:=rZ (i:=c) zcx
 have hx1:=rY c k (d7 hk) (by decide)
 by_cases h:oz<=c
 ·refine⟨_,?_,c-oz,0,k,rfl,by lia,by decide,by decide⟩
  have hg:kO (.int c) (.int oz)=.ok (.bool true):=by show R.ok (BE (decide (oz<=c)))=_;rw [decide_eq_true h]
  simp only [wL,aN,FL.run,AR,A9,Bu,AB,zaL,av,aG,tB,FL.e2,eV,slots,A6,if_false,Cb,Bm,A1,zz0,eC,ah,zcU,hg,cT,bQ,aa,cU,af,aL,zz1,if_true,au,aC,outs,outD]
  rfl
 ·refine⟨_,?_,kU c k,0,c.fmod qb+k,rfl,zcm c k,by decide,by decide⟩
  have hg:kO (.int c) (.int oz)=.ok (.bool false):=by show R.ok (BE (decide (oz<=c)))=_;rw [decide_eq_false h]
  simp only [wL,aN,FL.run,AR,A9,Bu,AB,zaL,av,aG,tB,FL.e2,eV,slots,A6,if_false,Cb,Bm,A1,zz0,eC,ah,zcU,hg,cT,bQ,aa,cU,af,aL,zz1,au,aC,zd3,hx1,a1,outs,outD,if_true]
  rfl
theorem zsO(h:cx k d)(hk:k<=60000)(m:Int)(kQ:1<=m)(hU:m.natAbs<65536):∃ g d',oR [d,.int m]=.ok (.int g,[d',.int m])/\0<=g/\g<m/\cx (k+1) d':=by
 obtain⟨n,c,s,rfl,h1,h2,h3⟩:=h
 have i0:∀ x y z:D,cJ [x,y,z] 0=some x:=fun _ _ _=>rfl
 have i1:∀ x y z:D,cJ [x,y,z] 1=some y:=fun _ _ _=>rfl
 have i2:∀ x y z:D,cJ [x,y,z] 2=some z:=fun _ _ _=>rfl
 have j0:dU 3 0=some 0:=rfl
 have j1:dU 3 1=some 1:=rfl
 have jO:eX (.int n) (.int m)=.ok (.bool (decide (n<m))):=rfl
 have hd:∀ i:Int,bN (.int i) (.int m)=.ok (.int (i.fdiv m)):=fun i=>zfl (by lia) (d7 hU) (by decide)
 have hm:∀ i:Int,eF (.int i) (.int m)=.ok (.int (i.fmod m)):=fun i=>rZ (by lia)
 have gd:∀ i:Int,0<=i->0<=i.fdiv m:=fun i hi=>Int.fdiv_nonneg hi (by lia)
 by_cases hn:n<m
 ·rw [decide_eq_true hn] at jO
  have hc:(c+1).natAbs<65536:=by lia
  have x1:=fG (i:=11) (d7 (by decide)) (d7 hc) (by decide)
  have xb:=((d7 (i:=11) (by decide)).mul (d7 hc)).add (d7 (i:=5) (by decide))
  have x2:=rY s (11*(c+1)+5) xb (by decide)
  have x3:=fG (d7 hU) (zgz s (11*(c+1)+5)) (by decide)
  have nn:0<=n+m*kU s (11*(c+1)+5):=Int.add_nonneg h1 (Int.mul_nonneg (by lia) (zcm _ _))
  refine⟨(n+m*kU s (11*(c+1)+5)).fmod m,.list [.int ((n+m*kU s (11*(c+1)+5)).fdiv m),.int (c+1),.int s],?_,Fq _ (by lia),FZ _ (by lia),_,_,_,rfl,gd _ nn,by lia,by lia⟩
  simp only [oR,FL.run,AR,A9,Bu,ur,av,aG,tB,FL.e2,m2,aZ,slots,if_true,A6,if_false,Ci,AB,Bm,A1,zz0,eC,aq,R.of,ah,i0,eV,zz1,jO,setM,aC,bP,bW,au,aa,af,aL,i1,Bp,j1,Bq,i2,x1,x2,x3,j0,ay,gN,ax,hm,hd,outs,outD,Cr]
 ·rw [decide_eq_false hn] at jO
  refine⟨n.fmod m,.list [.int (n.fdiv m),.int c,.int s],?_,Fq _ (by lia),FZ _ (by lia),_,_,_,rfl,gd _ h1,by lia,by lia⟩
  simp only [oR,FL.run,AR,A9,Bu,ur,av,aG,tB,FL.e2,m2,aZ,slots,if_true,A6,if_false,Ci,AB,Bm,A1,zz0,eC,aq,R.of,ah,i0,eV,zz1,jO,setM,aC,bP,bW,au,aa,af,aL,i1,Bp,j1,Bq,i2,ay,gN,ax,hm,hd,j0,outs,outD,Cr]
theorem zjB(ns:List Int)(k:Int)(h0:0<=k)(hk:k.natAbs<65536):∃ a,wJ [.list (ns.map A8),.int k]=.ok (.int a):=by
 have a3:=fG (i:=3) (d7 (by decide)) (d7 hk) (by decide)
 have hl:eX (.int k) (.int (ns.length:Int))=.ok (.bool (decide (k<ns.length))):=rfl
 by_cases h:k<ns.length
 ·rw [decide_eq_true h] at hl
  have:∃ a,cJ (ns.map A8) k=some (.int a):=by
   unfold cJ dU
   rw [AW,if_pos h0,if_pos h]
   exact⟨ns[k.toNat]'(by lia),by simp [show k.toNat<ns.length by lia]⟩
  obtain⟨a,ea⟩:=this
  refine⟨a,?_⟩
  simp only [wJ,aN,FL.run,AR,A9,Bu,AB,zaK,av,aG,tB,FL.e2,eV,slots,A6,if_false,Cb,Bm,A1,zz1,zz0,FL.e1,cH,ah,AW,hl,ax,aq,R.of,aL,ea,if_true,eC,aC,outs,outD]
 ·rw [decide_eq_false h] at hl
  refine⟨3*k+1,?_⟩
  simp only [wJ,aN,FL.run,AR,A9,Bu,AB,zaK,av,aG,tB,FL.e2,eV,slots,A6,if_false,Cb,Bm,A1,zz1,zz0,FL.e1,cH,ah,AW,hl,ax,aq,aL,eC,aC,a3,outs,outD,if_true]
theorem zeV{k:Nat}{ix:List Nat}{g:GF}{t:TF}{f:EF}(P:Nat->List D->En->Prop):∀(items:List D) (i:Nat) (acc:List D) (ρ:En),acc.length+items.length<=lim->acc.length=i->P i acc ρ ->
  (∀ x∈items,∀ j acc ρ,j<i+items.length->P j acc ρ->∃ β y β',g x (b6 k ix ρ)=.ok β/\t β=.ok (true,β)/\f β=.ok (y,β')/\P (j+1) (acc++[y]) (back ρ ix (β'.drop k))) ->
  ∃ oZ ρ',gQ k ix g t f items ρ acc=.ok (oZ,ρ')/\oZ.length=i+items.length/\P (i+items.length) oZ ρ'
 | [],i,acc,ρ,_,e,h,_=>⟨acc,ρ,rfl,e,h⟩
 | x::xs,i,acc,ρ,hl,e,h,hx=>by
  obtain⟨β,y,β',h1,h2,h3,h4⟩:=hx x (Bc ..) i acc ρ (by simp) h
  have hl':acc.length+(xs.length+1)<=lim:=hl
  obtain⟨oZ,ρ',kJ,e2',e3'⟩:=zeV P xs (i+1) (acc++[y]) _ (by simp;lia) (by simp;lia) h4 fun x m j acc ρ hj=>hx x (Be _ m) j acc ρ (by rw [AR];lia)
  refine⟨oZ,ρ',?_,by simp;lia,by rw [AR,show i+(xs.length+1)=i+1+xs.length by lia];exact e3'⟩
  unfold gQ
  rw [h1,ah,h2,ah,if_pos rfl,h3,ah,aW (ib (by lia)),kJ]
end
variable {d':D}{i:Nat}{p:Bool}{F:List D->R (D×List D)}
section
theorem zaV{i:Nat}{x:Sl}:∀(ρ:En) (n:Nat),i<n->bR [(i,x)] n ρ=ρ
 | [],_,_=>rfl
 | y::r,n,h=>by
  unfold bR
  rw [zaS (by rw [A2,show(n==i)=false from beq_eq_false_iff_ne.mpr (by lia)];rfl),zaV r (n+1) (by lia)]
theorem xE{d d':D}{p:Bool}:∀(ρ:En) (n i:Nat),ρ[i]?=some (.ow p d)->bR [(n+i,.ow true d')] n ρ=ρ.set i (.ow p d')
 | [],_,_,h=>by simp at h
 | y::r,n,0,h=>by
  have hy:y=.ow p d:=by simpa using h
  subst hy
  unfold bR
  rw [Nat.add_zero,zaV r (n+1) (F9 n)]
  have:cf [(n,Sl.ow true d')] n (.ow p d)=.ow p d':=by
   unfold cf
   rw [A2,beq_self_eq_true]
  rw [this]
  rfl
 | y::r,n,i+1,h=>by
  unfold bR
  rw [zaS (by rw [A2,show(n==n+(i+1))=false from beq_eq_false_iff_ne.mpr (by lia)];rfl),show n+(i+1)=n+1+i by lia,xE r (n+1) i (by simpa using h)]
  rfl
theorem uz{v r v':D}(hi:ρ[i]?=some (.ow p d))(hf:f ρ=.ok (v,ρ))(hF:F [d,v]=.ok (r,[d',v'])):bA F [.m i,.v f] ρ=.ok (r,ρ.set i (.ow p d')):=by
 have hm:aZ ρ i=.ok d:=by unfold aZ;rw [hi]
 unfold bA
 simp only [dP,hm,ah,hf,dt,hF]
 have:=xE (d:=d) (d':=d') (p:=p) ρ 0 i hi
 rw [EH] at this
 show R.ok (r,bR [(i,.ow true d')] 0 ρ)=_
 rw [this]
theorem set_same(h:ρ[i]?=some x):ρ.set i x=ρ:=by
 apply List.ext_getElem?
 intro j
 by_cases e:i=j
 ·subst e
  rw [BA (By.mp h).1,h]
 ·rw [BC e]
end
section
def zlP:SF:=(ax (d9 (e1 (hW "int") (eV 0)) (gC (e1 (hW "bool") (eV 0)))))
def zan:List D->R D:=aN false 1 1 zlP
def zbN:SF:=(qx (oF 3) (tB (e2 cg (eV 3) (eC (.int 0)))) (cu 2 3 (eV 3) (e2 eF (eV 2) (eV 3))))
def zbB:SF:=(av (cu 2 3 (e1 kH (eV 0)) (e1 kH (eV 1)))
  (av zbN
  (ax (eV 2))))
def iC:List D->R D:=aN false 2 4 zbB
def zbH:SF:=(av (ay (gN 2) (au iC (aa (e2 aq (eV 0) (eC (.int 1))) (aa (e2 aq (eV 1) (eC (.int 1))) af))))
  (av (cu 3 4 (e2 bN (e2 aq (eV 0) (eC (.int 1))) (eV 2)) (e2 bN (e2 aq (eV 1) (eC (.int 1))) (eV 2)))
  (av (ay (gN 5) (e2 aC (e2 bq (e2 aq (eV 0) (eC (.int 0))) (eV 4)) (e2 bq (e2 aq (eV 1) (eC (.int 0))) (eV 3))))
  (av (ay (gN 6) (au iC (aa (eV 5) (aa (eV 2) af))))
  (ax (aP (aa (e2 bN (eV 5) (eV 6)) (aa (e2 bq (eV 3) (e2 bN (e2 aq (eV 1) (eC (.int 1))) (eV 6))) af))))))))
def ziy:List D->R D:=aN false 2 7 zbH
def zbI:SF:=(av (cu 2 3 (au iC (aa (e2 aq (eV 0) (eC (.int 0))) (aa (e2 aq (eV 1) (eC (.int 1))) af))) (au iC (aa (e2 aq (eV 1) (eC (.int 0))) (aa (e2 aq (eV 0) (eC (.int 1))) af))))
  (ax (aP (aa (e2 bq (e2 bN (e2 aq (eV 0) (eC (.int 0))) (eV 2)) (e2 bN (e2 aq (eV 1) (eC (.int 0))) (eV 3))) (aa (e2 bq (e2 bN (e2 aq (eV 0) (eC (.int 1))) (eV 3)) (e2 bN (e2 aq (eV 1) (eC (.int 1))) (eV 2))) af)))))
def ziz:List D->R D:=aN false 2 4 zbI
end
variable {r s:Rat}{b j:Nat}{a i:Int}
section
noncomputable def num(r:Rat):D:=.tuple [.int r.num,.int (r.den:Int)]
theorem zov{h:Nat}(p:l≠0):eF (.int h) (.int l)=.ok (.int ((h % l:Nat):Int)):=by
 show aF (decide ((l:Int)≠0)) _=_
 rw [aW (by simpa using p)]
 rw [Int.fmod_eq_emod_of_nonneg _ (by lia)]
 rfl
theorem zbK(x0 x1:Sl):∀(n h l:Nat),l<n->qI (tB (e2 cg (eV 3) (eC (.int 0)))) (cu 2 3 (eV 3) (e2 eF (eV 2) (eV 3))) n [x0,x1,.val (.int h),.val (.int l)]=.ok (.nx,[x0,x1,.val (.int ((Fi h l:Nat):Int)),.val (.int 0)])
 | 0,h,l,p=>by lia
 | n+1,h,l,p=>by
  unfold qI
  by_cases c:l=0
  ·subst c
   have e:cg (.int ((0:Nat):Int)) (.int 0)=.ok (.bool false):=by rw [p7];rfl
   simp only [tB,FL.e2,eV,zz1,zz0,eC,ah,e,cu,gN,A6,if_false,Nat.gcd_zero_right]
   rfl
  ·have e:cg (.int l) (.int 0)=.ok (.bool true):=by
    rw [p7,decide_eq_false (by lia)];rfl
   simp only [tB,FL.e2,eV,zz1,zz0,eC,ah,e,cu,gN,zov c,Bq,Bp,if_true]
   have ih:=zbK x0 x1 n l (h % l) (by have:=Nat.mod_lt h (Ig c);lia)
   rw [ih,HA l,<- Nat.gcd_rec,HA]
theorem zd2(i:Int):kH (.int i)=.ok (.int (i.natAbs:Int)):=by
 show R.ok (A8 (if i<0 then -i else i))=_
 congr 2
 split <;> lia
theorem uT(a b:Int):iC [.int a,.int b]=.ok (.int (Aw a b:Int)):=by
 have e1:cu 2 3 (FL.e1 kH (eV 0)) (FL.e1 kH (eV 1)) [.val (.int a),.val (.int b),.no,.no]=.ok (.nx,[.val (.int a),.val (.int b),.val (.int (a.natAbs:Int)),.val (.int (b.natAbs:Int))]):=by
  simp only [cu,FL.e1,eV,zz0,ah,zd2,gN,zz1,Bq,Bp]
 have e2:zbN [.val (.int a),.val (.int b),.val (.int (a.natAbs:Int)),.val (.int (b.natAbs:Int))]=.ok (.nx,[.val (.int a),.val (.int b),.val (.int ((Fi a.natAbs b.natAbs:Nat):Int)),.val (.int 0)]):=by
  unfold zbN qx
  have:oF 3 [.val (.int a),.val (.int b),.val (.int (a.natAbs:Int)),.val (.int (b.natAbs:Int))]=b.natAbs+1:=by
   show((b.natAbs:Int)).natAbs+1=_
   simp
  rw [this]
  exact zbK _ _ _ _ _ (by lia)
 show((zbB [.val (.int a),.val (.int b),.no,.no]).bind _).bind _=_
 unfold zbB
 rw [aO e1,aO e2]
 rfl
theorem lJ(hj:j≠0)(hb:j<2^n)(hn:n<=90000000):bN (.int i) (.int j)=.ok (.int (i / (j:Int))):=by
 show aF (decide ((j:Int)≠0)) _=_
 rw [aW (by simpa using hj),Int.fdiv_eq_ediv_of_nonneg _ (by lia)]
theorem nI(h:QR.Bd n r):Bd r.num n/\Bd (r.den:Int) n:=⟨⟨h.1⟩,⟨by simpa using h.2⟩⟩
theorem nH(h:Bd i n):Bd (i / (j:Int)) n:=⟨E9 (FO i (j:Int)) h.h⟩
theorem uS(hb:b≠0)(h:b<2^n):Aw a (b:Int)≠0/\Aw a (b:Int)<2^n:=by
 have h1:0<Aw a (b:Int):=Hw a (by lia)
 have h2:Aw a (b:Int)∣b:=by
  have:=EB a (b:Int)
  exact Int.natCast_dvd_natCast.mp this
 have h3:=Nat.le_of_dvd (Ig hb) h2
 lia
theorem zqc(hr:QR.Bd n r)(hs:QR.Bd n s)(hn:n<=40000000):ziy [num r,num s]=.ok (num (r+s)):=by
 have gS:=uS (a:=(r.den:Int)) s.den_nz hs.2
 generalize hg:Aw (r.den:Int) (s.den:Int)=g at gS
 have k1:iC [.int (r.den:Int),.int (s.den:Int)]=.ok (.int g):=by rw [uT,hg]
 have k2:bN (.int (r.den:Int)) (.int g)=.ok (.int ((r.den:Int) / (g:Int))):=lJ gS.1 gS.2 (by lia)
 have k3:bN (.int (s.den:Int)) (.int g)=.ok (.int ((s.den:Int) / (g:Int))):=lJ gS.1 gS.2 (by lia)
 have br:=nI hr
 have bs:=nI hs
 have k4:bq (.int r.num) (.int ((s.den:Int) / (g:Int)))=.ok (.int (r.num*((s.den:Int) / (g:Int)))):=fG br.1 (nH bs.2) (by lia)
 have k5:bq (.int s.num) (.int ((r.den:Int) / (g:Int)))=.ok (.int (s.num*((r.den:Int) / (g:Int)))):=fG bs.1 (nH br.2) (by lia)
 generalize ht:r.num*((s.den:Int) / (g:Int))+s.num*((r.den:Int) / (g:Int))=top
 have gT:=uS (a:=top) gS.1 gS.2
 generalize he:Aw top (g:Int)=e at gT
 have k6:iC [.int top,.int g]=.ok (.int e):=by rw [uT,he]
 have k7:bN (.int top) (.int e)=.ok (.int (top / (e:Int))):=lJ gT.1 gT.2 (by lia)
 have k8:bN (.int (s.den:Int)) (.int e)=.ok (.int ((s.den:Int) / (e:Int))):=lJ gT.1 gT.2 (by lia)
 have k9:bq (.int ((r.den:Int) / (g:Int))) (.int ((s.den:Int) / (e:Int)))=.ok (.int (((r.den:Int) / (g:Int))*((s.den:Int) / (e:Int)))):=fG (nH br.2) (nH bs.2) (by lia)
 have x0:∀(a b:Int),aq (.tuple [.int a,.int b]) (.int 0)=.ok (.int a):=fun a b=>rfl
 have x1:∀(a b:Int),aq (.tuple [.int a,.int b]) (.int 1)=.ok (.int b):=fun a b=>rfl
 have l2:leB 2 lim=true:=by decide
 have ad:∀(a b:Int),aC (.int a) (.int b)=.ok (.int (a+b)):=fun _ _=>rfl
 have fin:num (r+s)=.tuple [.int (top / (e:Int)),.int (((r.den:Int) / (g:Int))*((s.den:Int) / (e:Int)))]:=by
  have h1:=Q1.zqb (QR.low r) (QR.low s)
  rw [QR.add] at h1
  unfold Q1.sC at h1
  simp only [hg,ht,he] at h1
  unfold num
  rw [<- (Ek h1).1,<- (Ek h1).2]
 have s1:ay (gN 2) (au iC (aa (e2 aq (eV 0) (eC (.int 1))) (aa (e2 aq (eV 1) (eC (.int 1))) af))) [.val (num r),.val (num s),.no,.no,.no,.no,.no]=.ok (.nx,[.val (num r),.val (num s),.val (.int g),.no,.no,.no,.no]):=by
  unfold num
  simp only [ay,au,aa,FL.e2,eV,zz0,eC,ah,x1,af,zz1,k1,gN,Bq,Bp]
 have s2:cu 3 4 (e2 bN (e2 aq (eV 0) (eC (.int 1))) (eV 2)) (e2 bN (e2 aq (eV 1) (eC (.int 1))) (eV 2)) [.val (num r),.val (num s),.val (.int g),.no,.no,.no,.no]=.ok (.nx,[.val (num r),.val (num s),.val (.int g),.val (.int ((r.den:Int) / (g:Int))),.val (.int ((s.den:Int) / (g:Int))),.no,.no]):=by
  unfold num
  simp only [cu,FL.e2,eV,zz0,eC,ah,x1,zz1,k2,gN,k3,Bq,Bp]
 have s3:ay (gN 5) (e2 aC (e2 bq (e2 aq (eV 0) (eC (.int 0))) (eV 4)) (e2 bq (e2 aq (eV 1) (eC (.int 0))) (eV 3))) [.val (num r),.val (num s),.val (.int g),.val (.int ((r.den:Int) / (g:Int))),.val (.int ((s.den:Int) / (g:Int))),.no,.no]=.ok (.nx,[.val (num r),.val (num s),.val (.int g),.val (.int ((r.den:Int) / (g:Int))),.val (.int ((s.den:Int) / (g:Int))),.val (.int top),.no]):=by
  unfold num
  simp only [ay,FL.e2,eV,zz0,eC,ah,x0,zz1,k4,k5,ad,ht,gN,Bq,Bp]
 have s4:ay (gN 6) (au iC (aa (eV 5) (aa (eV 2) af))) [.val (num r),.val (num s),.val (.int g),.val (.int ((r.den:Int) / (g:Int))),.val (.int ((s.den:Int) / (g:Int))),.val (.int top),.no]=.ok (.nx,[.val (num r),.val (num s),.val (.int g),.val (.int ((r.den:Int) / (g:Int))),.val (.int ((s.den:Int) / (g:Int))),.val (.int top),.val (.int e)]):=by
  simp only [ay,au,aa,eV,zz1,zz0,af,ah,k6,gN,Bq,Bp]
 have s5:ax (aP (aa (e2 bN (eV 5) (eV 6)) (aa (e2 bq (eV 3) (e2 bN (e2 aq (eV 1) (eC (.int 1))) (eV 6))) af))) [.val (num r),.val (num s),.val (.int g),.val (.int ((r.den:Int) / (g:Int))),.val (.int ((s.den:Int) / (g:Int))),.val (.int top),.val (.int e)]=.ok (.rt (num (r+s)),[.val (num r),.val (num s),.val (.int g),.val (.int ((r.den:Int) / (g:Int))),.val (.int ((s.den:Int) / (g:Int))),.val (.int top),.val (.int e)]):=by
  rw [fin]
  unfold num
  simp only [ax,aP,aa,FL.e2,eV,zz1,zz0,ah,k7,eC,af,x1,k8,k9,AR,A9,Bu,aW l2]
 show((zbH [.val (num r),.val (num s),.no,.no,.no,.no,.no]).bind _).bind _=_
 unfold zbH
 rw [aO s1,aO s2,aO s3,aO s4,s5]
 rfl
theorem zsU(hr:QR.Bd n r)(hs:QR.Bd n s)(hn:n<=40000000):ziz [num r,num s]=.ok (num (r*s)):=by
 have gS:=uS (a:=r.num) s.den_nz hs.2
 generalize hg:Aw r.num (s.den:Int)=g at gS
 have gT:=uS (a:=s.num) r.den_nz hr.2
 generalize he:Aw s.num (r.den:Int)=e at gT
 have k1:iC [.int r.num,.int (s.den:Int)]=.ok (.int g):=by rw [uT,hg]
 have k2:iC [.int s.num,.int (r.den:Int)]=.ok (.int e):=by rw [uT,he]
 have k3:bN (.int r.num) (.int g)=.ok (.int (r.num / (g:Int))):=lJ gS.1 gS.2 (by lia)
 have k4:bN (.int s.num) (.int e)=.ok (.int (s.num / (e:Int))):=lJ gT.1 gT.2 (by lia)
 have k5:bN (.int (r.den:Int)) (.int e)=.ok (.int ((r.den:Int) / (e:Int))):=lJ gT.1 gT.2 (by lia)
 have k6:bN (.int (s.den:Int)) (.int g)=.ok (.int ((s.den:Int) / (g:Int))):=lJ gS.1 gS.2 (by lia)
 have br:=nI hr
 have bs:=nI hs
 have k7:bq (.int (r.num / (g:Int))) (.int (s.num / (e:Int)))=.ok (.int (r.num / (g:Int)*(s.num / (e:Int)))):=fG (nH br.1) (nH bs.1) (by lia)
 have k8:bq (.int ((r.den:Int) / (e:Int))) (.int ((s.den:Int) / (g:Int)))=.ok (.int ((r.den:Int) / (e:Int)*((s.den:Int) / (g:Int)))):=fG (nH br.2) (nH bs.2) (by lia)
 have x0:∀(a b:Int),aq (.tuple [.int a,.int b]) (.int 0)=.ok (.int a):=fun a b=>rfl
 have x1:∀(a b:Int),aq (.tuple [.int a,.int b]) (.int 1)=.ok (.int b):=fun a b=>rfl
 have l2:leB 2 lim=true:=by decide
 have fin:num (r*s)=.tuple [.int (r.num / (g:Int)*(s.num / (e:Int))),.int ((r.den:Int) / (e:Int)*((s.den:Int) / (g:Int)))]:=by
  have h1:=Q1.zsT (QR.low r) (QR.low s)
  rw [QR.mul] at h1
  unfold Q1.zN at h1
  simp only [hg,he] at h1
  unfold num
  rw [<- (Ek h1).1,<- (Ek h1).2]
 have s1:cu 2 3 (au iC (aa (e2 aq (eV 0) (eC (.int 0))) (aa (e2 aq (eV 1) (eC (.int 1))) af))) (au iC (aa (e2 aq (eV 1) (eC (.int 0))) (aa (e2 aq (eV 0) (eC (.int 1))) af))) [.val (num r),.val (num s),.no,.no]=.ok (.nx,[.val (num r),.val (num s),.val (.int g),.val (.int e)]):=by
  unfold num
  simp only [cu,au,aa,FL.e2,eV,zz0,eC,ah,x0,af,zz1,x1,k1,gN,k2,Bq,Bp]
 have s5:ax (aP (aa (e2 bq (e2 bN (e2 aq (eV 0) (eC (.int 0))) (eV 2)) (e2 bN (e2 aq (eV 1) (eC (.int 0))) (eV 3))) (aa (e2 bq (e2 bN (e2 aq (eV 0) (eC (.int 1))) (eV 3)) (e2 bN (e2 aq (eV 1) (eC (.int 1))) (eV 2))) af))) [.val (num r),.val (num s),.val (.int g),.val (.int e)]=.ok (.rt (num (r*s)),[.val (num r),.val (num s),.val (.int g),.val (.int e)]):=by
  rw [fin]
  unfold num
  simp only [ax,aP,aa,FL.e2,eV,zz0,eC,ah,x0,zz1,k3,k4,k7,af,x1,k5,k6,k8,AR,A9,Bu,aW l2]
 show((zbI [.val (num r),.val (num s),.no,.no]).bind _).bind _=_
 unfold zbI
 rw [aO s1,s5]
 rfl
end
section
abbrev Sm:=List (List Int×Rat)
noncomputable def kq(w:List Int):KQ:=.inl (w.map .inl)
theorem zf5:∀ w:List Int,lO (w.map A8)=some (w.map .inl)
 | []=>rfl
 | x::r=>by simp only [AQ,lO,yF,zf5 r,Option.bind_some,CC]
theorem vn(w:List Int):keyOf (tp w)=some (kq w):=by
 show(lO (w.map A8)).map D0=_
 rw [zf5];rfl
theorem zf4{v w:List Int}(h:kq v=kq w):v=w:=by
 have:=Sum.inl.inj h
 have:=congrArg (List.map (Sum.elim id fun _=>(0:Int))) this
 simpa [Bz,Function.comp_def] using this
theorem zf3(v w:List Int):decide (keyOf (tp v)=some (kq w))=decide (v=w):=by
 rw [vn]
 by_cases c:v=w
 ·subst c;simp
 ·rw [decide_eq_false c,decide_eq_false fun z=>c (zf4 (BP z))]
theorem yV:(Fs [.int 0,.int 1]:D)=num 0:=rfl
end
section
end
variable {b:SF}
section
theorem e7{ds:List D}(hl:ds.length=k)(h:b (slots (AB k false) ds++AB (n-ds.length) .no)=.ok (.rt d,ρ)):aN false k n b ds=.ok d:=by
 unfold aN FL.run
 rw [if_pos (by rw [DR];exact hl),h]
 rfl
theorem zA{ds:List D}(hl:ds.length=k)(h:b (slots (AB k false) ds++AB (n-ds.length) .no)=.ok (.rf d,ρ)):aN true k n b ds=.ok d:=by
 unfold aN FL.run
 rw [if_pos (by rw [DR];exact hl),h]
 rfl
theorem zrX{ds:List D}(hl:ds.length=k)(h:b (slots (AB k false) ds++AB (n-ds.length) .no)=.ok (.nx,ρ)):aN false k n b ds=.ok .none:=by
 unfold aN FL.run
 rw [if_pos (by rw [DR];exact hl),h]
 rfl
inductive Tr where
 | leaf(i:Int)
 | node(a b:Tr)
deriving DecidableEq
noncomputable def lB:Tr->Nat
 | .leaf _=>1
 | .node a b=>2*(lB a*lB b)
noncomputable def nB:Tr->Nat
 | .leaf _=>1
 | .node a b=>nB a+nB b
noncomputable def kyS(p:List Int×Rat):WK:=((p.1.length:Int),p.1)
def zfM(x:List Int×Rat):Sm->Sm
 | []=>[x]
 | y::r=>if yM (kyS y) (kyS x)=true then y::zfM x r else x::y::r
def zhH:Sm->Sm
 | []=>[]
 | x::r=>zfM x (zhH r)
def tln(p:List Int×Rat):D:=.tuple [tp p.1,num p.2]
end
section
def zbO:SF:=(qx (oF 3) (tB (e2 cg (eV 3) (eC (.int 0)))) (cu 2 3 (eV 3) (e2 eF (eV 2) (eV 3))))
def zbF:SF:=(av (ay (gN 2) (e1 kH (eV 0)))
  (av (ay (gN 3) (eV 1))
  (av zbO
  (ax (aP (aa (e2 bN (eV 0) (eV 2)) (aa (e2 bN (eV 1) (eV 2)) af)))))))
def oQ:List D->R D:=aN false 2 4 zbF
def zbC:SF:=(av (aG (FL.bw (FL.bu (tE (e1 (hW "tuple") (eV 0)))) (tB (e2 cg (e1 cH (eV 0)) (eC (.int 2))))) (ax (eC (.bool false))) aL)
  (av (ay (gT [(gN 1),(gN 2)]) (eV 0))
  (av (aG (FL.bw (FL.bu (tE (au zan (aa (eV 1) af)))) (FL.bw (FL.bu (tE (au zan (aa (eV 2) af)))) (tB (e2 eX (eV 2) (eC (.int 1)))))) (ax (eC (.bool false))) aL)
  (ax (e2 du (au iC (aa (eV 1) (aa (eV 2) af))) (eC (.int 1)))))))
def zdv:List D->R D:=aN false 1 3 zbC
def zbG:SF:=(ax (au oQ (aa (e2 aC (e2 bq (e2 aq (eV 0) (eC (.int 0))) (e2 aq (eV 1) (eC (.int 1)))) (e2 bq (e2 aq (eV 1) (eC (.int 0))) (e2 aq (eV 0) (eC (.int 1))))) (aa (e2 bq (e2 aq (eV 0) (eC (.int 1))) (e2 aq (eV 1) (eC (.int 1)))) af))))
def zix:List D->R D:=aN false 2 2 zbG
def zbE:SF:=(ax (au oQ (aa (e2 bq (e2 aq (eV 0) (eC (.int 0))) (e2 aq (eV 1) (eC (.int 0)))) (aa (e2 bq (e2 aq (eV 0) (eC (.int 1))) (e2 aq (eV 1) (eC (.int 1)))) af))))
def ziw:List D->R D:=aN false 2 2 zbE
end
variable {b:Nat}
section
theorem zcf(t:Int)(hb:b≠0)(hl:b<2^n)(hn:n<=90000000):oQ [.int t,.int b]=.ok (.tuple [.int (Q1.fr t (b:Int)).1,.int (Q1.fr t (b:Int)).2]):=by
 have gS:=uS (a:=t) hb hl
 have s1:ay (gN 2) (FL.e1 kH (eV 0)) [.val (.int t),.val (.int b),.no,.no]=.ok (.nx,[.val (.int t),.val (.int b),.val (.int (t.natAbs:Int)),.no]):=by
  simp only [ay,FL.e1,eV,zz0,ah,zd2,gN,zz1,Bq,Bp]
 have s2:ay (gN 3) (eV 1) [.val (.int t),.val (.int b),.val (.int (t.natAbs:Int)),.no]=.ok (.nx,[.val (.int t),.val (.int b),.val (.int (t.natAbs:Int)),.val (.int b)]):=rfl
 have s3:zbO [.val (.int t),.val (.int b),.val (.int (t.natAbs:Int)),.val (.int b)]=.ok (.nx,[.val (.int t),.val (.int b),.val (.int ((Aw t (b:Int):Nat):Int)),.val (.int 0)]):=by
  unfold zbO qx
  have:oF 3 [.val (.int t),.val (.int b),.val (.int (t.natAbs:Int)),.val (.int b)]=b+1:=by
   show((b:Int)).natAbs+1=_
   simp
  rw [this]
  exact zbK _ _ _ _ _ (by lia)
 have k1:bN (.int t) (.int ((Aw t (b:Int):Nat):Int))=.ok (.int (t / ((Aw t (b:Int):Nat):Int))):=lJ gS.1 gS.2 hn
 have k2:bN (.int b) (.int ((Aw t (b:Int):Nat):Int))=.ok (.int ((b:Int) / ((Aw t (b:Int):Nat):Int))):=lJ gS.1 gS.2 hn
 have l2:leB 2 lim=true:=by decide
 show((zbF [.val (.int t),.val (.int b),.no,.no]).bind _).bind _=_
 unfold zbF
 rw [aO s1,aO s2,aO s3]
 simp only [ax,aP,aa,FL.e2,eV,zz0,ah,zz1,k1,af,k2,AR,A9,Bu,aW l2,AB,outs,outD]
 rw [Q1.zfp (by lia)]
theorem zoc(t:Int)(hb:b≠0)(hl:b<2^n)(hn:n<=90000000):oQ [.int t,.int b]=.ok (num (Gq t b hb)):=by
 rw [zcf t hb hl hn,QR.norm hb]
 rfl
theorem lx0(a b:Int):aq (.tuple [.int a,.int b]) (.int 0)=.ok (.int a):=rfl
theorem yN(a b:Int):aq (.tuple [.int a,.int b]) (.int 1)=.ok (.int b):=rfl
theorem zgq(hr:QR.Bd n r)(hs:QR.Bd n s)(hn:n<=40000000):zix [num r,num s]=.ok (num (r+s)):=by
 have br:=nI hr
 have bs:=nI hs
 have k1:bq (.int r.num) (.int (s.den:Int))=.ok (.int (r.num*(s.den:Int))):=fG br.1 bs.2 (by lia)
 have k2:bq (.int s.num) (.int (r.den:Int))=.ok (.int (s.num*(r.den:Int))):=fG bs.1 br.2 (by lia)
 have k3:bq (.int (r.den:Int)) (.int (s.den:Int))=.ok (.int ((r.den:Int)*(s.den:Int))):=fG br.2 bs.2 (by lia)
 have ad:∀(a b:Int),aC (.int a) (.int b)=.ok (.int (a+b)):=fun _ _=>rfl
 have nz:r.den*s.den≠0:=Nat.mul_ne_zero r.den_nz s.den_nz
 have k4:oQ [.int (r.num*(s.den:Int)+s.num*(r.den:Int)),.int ((r.den:Int)*(s.den:Int))]=.ok (num (r+s)):=by
  have:=zcf (r.num*(s.den:Int)+s.num*(r.den:Int)) nz (QR.pZ hr.2 hs.2) (by lia)
  rw [HD] at this
  rw [this,QR.add]
  rfl
 refine e7 (ρ:=[.val (num r),.val (num s)]) rfl ?_
 show zbG [.val (num r),.val (num s)]=.ok (_,[.val (num r),.val (num s)])
 unfold zbG num
 simp only [ax,au,aa,FL.e2,eV,zz0,eC,ah,lx0,zz1,yN,k1,k2,ad,af,k3,k4]
 rfl
theorem zca(hr:QR.Bd n r)(hs:QR.Bd n s)(hn:n<=40000000):ziw [num r,num s]=.ok (num (r*s)):=by
 have br:=nI hr
 have bs:=nI hs
 have k1:bq (.int r.num) (.int s.num)=.ok (.int (r.num*s.num)):=fG br.1 bs.1 (by lia)
 have k3:bq (.int (r.den:Int)) (.int (s.den:Int))=.ok (.int ((r.den:Int)*(s.den:Int))):=fG br.2 bs.2 (by lia)
 have nz:r.den*s.den≠0:=Nat.mul_ne_zero r.den_nz s.den_nz
 have k4:oQ [.int (r.num*s.num),.int ((r.den:Int)*(s.den:Int))]=.ok (num (r*s)):=by
  have:=zcf (r.num*s.num) nz (QR.pZ hr.2 hs.2) (by lia)
  rw [HD] at this
  rw [this,QR.mul]
  rfl
 refine e7 (ρ:=[.val (num r),.val (num s)]) rfl ?_
 show zbE [.val (num r),.val (num s)]=.ok (_,[.val (num r),.val (num s)])
 unfold zbE num
 simp only [ax,au,aa,FL.e2,eV,zz0,eC,ah,lx0,zz1,k1,af,yN,k3,k4]
 rfl
end
section
def told(s:Sm):D:=.list ((zhH s).map tln)
theorem zfS(r:Rat):zdv [num r]=.ok (.bool true):=by
 have k1:hW "tuple" (num r)=.ok (.bool true):=rfl
 have wh:∀ i:Int,zan [.int i]=.ok (.bool true):=fun _=>rfl
 have k3:eX (.int (r.den:Int)) (.int 1)=.ok (.bool false):=by
  rw [rW];congr 2
  have:=r.den_nz
  exact decide_eq_false (by lia)
 have k4:iC [.int r.num,.int (r.den:Int)]=.ok (.int 1):=by
  rw [uT];congr 2
  have:=(QR.low r).pj
  lia
 have k5:cg (.int 2) (.int 2)=.ok (.bool false):=by rw [p7];rfl
 have k6:du (.int 1) (.int 1)=.ok (.bool true):=by rw [uM];rfl
 have k7:gT [gN 1,gN 2] (num r) [.val (num r),.no,.no]=.ok [.val (num r),.val (.int r.num),.val (.int (r.den:Int))]:=rfl
 refine e7 (ρ:=[.val (num r),.val (.int r.num),.val (.int (r.den:Int))]) rfl ?_
 show zbC [.val (num r),.no,.no]=_
 unfold zbC
 have s1:aG (FL.bw (FL.bu (tE (FL.e1 (hW "tuple") (eV 0)))) (tB (FL.e2 cg (FL.e1 cH (eV 0)) (eC (.int 2))))) (ax (eC (.bool false))) aL [.val (num r),.no,.no]=.ok (.nx,[.val (num r),.no,.no]):=by
  have l2:cH (num r)=.ok (.int 2):=rfl
  simp only [aG,FL.bw,FL.bu,tE,tB,FL.e1,FL.e2,eV,eC,aL,ah,zz0,k1,l2,k5,dB,BQ,A6,if_false,if_true]
 have s2:ay (gT [gN 1,gN 2]) (eV 0) [.val (num r),.no,.no]=.ok (.nx,[.val (num r),.val (.int r.num),.val (.int (r.den:Int))]):=rfl
 rw [aO s1,aO s2]
 simp only [av,aG,FL.bw,FL.bu,tE,au,aa,eV,zz1,zz0,af,ah,wh,dB,BQ,tB,FL.e2,eC,A6,k3,if_false,ax,aL,k4,k6]
end
section
noncomputable def xU:Cs:={ C:=fun _=>none,st:=by simp }
end
variable {i:Nat}
section
theorem zeK{r:D}(hi:ρ[i]?=some (.ow p d))(hF:F [d]=.ok (r,[d'])):bA F [.m i] ρ=.ok (r,ρ.set i (.ow p d')):=by
 have h:=uz (F:=fun l=>match l with | [a,b]=>(F [a]).bind fun y=>.ok (y.1,y.2++[b])|_=>.bad) (f:=eC .none) (v:=.none) (v':=.none) (r:=r) (d':=d') hi rfl (by show(F [d]).bind _=_;rw [hF];rfl)
 have hm:aZ ρ i=.ok d:=by unfold aZ;rw [hi]
 unfold bA at h ⊢
 simp only [dP,hm,ah,eC,dt,hF] at h ⊢
 exact h
end
section
theorem zsN(h:cx k d)(hk:k<=60000)(m:Int)(kQ:1<=m)(hU:Bd m b)(hb:b<=1000):∃ g d',oR [d,.int m]=.ok (.int g,[d',.int m])/\0<=g/\g<m/\cx (k+1) d':=by
 obtain⟨n,c,s,rfl,h1,h2,h3⟩:=h
 have i0:∀ x y z:D,cJ [x,y,z] 0=some x:=fun _ _ _=>rfl
 have i1:∀ x y z:D,cJ [x,y,z] 1=some y:=fun _ _ _=>rfl
 have i2:∀ x y z:D,cJ [x,y,z] 2=some z:=fun _ _ _=>rfl
 have j0:dU 3 0=some 0:=rfl
 have j1:dU 3 1=some 1:=rfl
 have jO:eX (.int n) (.int m)=.ok (.bool (decide (n<m))):=rfl
 have hd:∀ i:Int,bN (.int i) (.int m)=.ok (.int (i.fdiv m)):=fun i=>zfl (by lia) hU (by lia)
 have hm:∀ i:Int,eF (.int i) (.int m)=.ok (.int (i.fmod m)):=fun i=>rZ (by lia)
 have gd:∀ i:Int,0<=i->0<=i.fdiv m:=fun i hi=>Int.fdiv_nonneg hi (by lia)
 by_cases hn:n<m
 ·rw [decide_eq_true hn] at jO
  have hc:(c+1).natAbs<65536:=by lia
  have x1:=fG (i:=11) (d7 (by decide)) (d7 hc) (by decide)
  have xb:=((d7 (i:=11) (by decide)).mul (d7 hc)).add (d7 (i:=5) (by decide))
  have x2:=rY s (11*(c+1)+5) xb (by decide)
  have x3:=fG hU (zgz s (11*(c+1)+5)) (by lia)
  have nn:0<=n+m*kU s (11*(c+1)+5):=Int.add_nonneg h1 (Int.mul_nonneg (by lia) (zcm _ _))
  refine⟨(n+m*kU s (11*(c+1)+5)).fmod m,.list [.int ((n+m*kU s (11*(c+1)+5)).fdiv m),.int (c+1),.int s],?_,Fq _ (by lia),FZ _ (by lia),_,_,_,rfl,gd _ nn,by lia,by lia⟩
  simp only [oR,ur,FL.run,aN,slots,outs,outD,AB,AR,A9,ax,av,aG,ay,sE,aL,bH,eG,dN,cT,f9,jC,cu,jA,jB,dA,eC,eV,FL.e1,FL.e2,d9,jf,gC,ee,dF,af,aa,aP,bQ,au,fE,dW,dX,eS,aZ,bP,m1,m2,fj,jo,js,jr,tE,tB,FL.eJ,FL.bw,FL.bu,tM,cV,gN,gT,eU,gh,jD,setM,bW,fI,ah,i6,i7,zz0,zz1,Bp,Bq,A1,Bm,Cr,CN,A6,if_false,if_true,Cb,Ci,Bu,reduceCtorEq,aC,cU,aq,fO,cH,dB,fK,fq,bA,dP,dt,gB,dg,bR,cf,A2,CO,b6,back,BI,Cy,Cz,AQ,BW,CP,CQ,CU,Cp,bM,iE,gH,BQ,CF,iD,gn,fc,jd,jq,e3,dI,ja,jz,cQ,gG,iu,ko,R.of,i0,i1,i2,j0,j1,jO,x1,x2,x3,hd,hm]
 ·rw [decide_eq_false hn] at jO
  refine⟨n.fmod m,.list [.int (n.fdiv m),.int c,.int s],?_,Fq _ (by lia),FZ _ (by lia),_,_,_,rfl,gd _ h1,by lia,by lia⟩
  simp only [oR,ur,FL.run,aN,slots,outs,outD,AB,AR,A9,ax,av,aG,ay,sE,aL,bH,eG,dN,cT,f9,jC,cu,jA,jB,dA,eC,eV,FL.e1,FL.e2,d9,jf,gC,ee,dF,af,aa,aP,bQ,au,fE,dW,dX,eS,aZ,bP,m1,m2,fj,jo,js,jr,tE,tB,FL.eJ,FL.bw,FL.bu,tM,cV,gN,gT,eU,gh,jD,setM,bW,fI,ah,i6,i7,zz0,zz1,Bp,Bq,A1,Bm,Cr,CN,A6,if_false,if_true,Cb,Ci,Bu,reduceCtorEq,aC,cU,aq,fO,cH,dB,fK,fq,bA,dP,dt,gB,dg,bR,cf,A2,CO,b6,back,BI,Cy,Cz,AQ,BW,CP,CQ,CU,Cp,bM,iE,gH,BQ,CF,iD,gn,fc,jd,jq,e3,dI,ja,jz,cQ,gG,iu,ko,R.of,i0,i1,i2,j0,j1,jO,hd,hm]
end
end FL
namespace K77
open PySem FL TX
variable {c n:Nat}{q:Rat}{i:Int}{x:gV}
def As(x:gV):Prop:=∀ c∈cp x,c<128
theorem As.app{a b:gV}(ha:As a)(hb:As b):As (a++b):=fun c hc=>by
 rw [cw] at hc
 exact(B2.mp hc).elim (ha c) (hb c)
theorem o6(h:c<128):As (one c):=fun d hd=>by
 have:d=c:=by simpa [TX.cp] using hd
 subst this;exact h
theorem qX(i:Int):As (T i):=fun c hc=>by
 refine FK fun h=>eT c ⟨by lia,.inr (by lia)⟩ i hc
theorem As.all(h:As x):x.cps.all (·<128)=true:=by
 rw [<- Array.all_toList]
 exact DI.mpr fun c hc=>decide_eq_true (h c hc)
theorem As.pl(h:As x):Pl 0 (.str x):=⟨by
 show Ju (.str x)=true
 unfold Ju
 show x.cps.all (·<0x110000)=true
 rw [<- Array.all_toList]
 exact DI.mpr fun c hc=>decide_eq_true (Eg (h c hc) (by decide)),AI _⟩
theorem zfk(a b:gV):CK (.str a) (.str b)=decide (a=b):=by
 have:CK (.str a) (.str b)=(a==b):=by unfold CK;rfl
 rw [this]
 by_cases h:a=b
 ·subst h;simp
 ·simp [h]
def b9(q:Rat):gV:=if q.den=1 then T q.num else T q.num++one 47++T (q.den:Int)
structure NB(q:Rat):Prop where
 top:q.num.natAbs<10^60
 bot:q.den<10^60
theorem zn9(h:n<10^60):leB (n.log2+1) 1920=true:=ib (by
 rcases Nat.eq_zero_or_pos n with z|z
 ·subst z;decide
 ·have:=(Hl (by lia:n≠0)).mpr (BL h (by decide:10^60<=2^200))
  lia)
theorem str_int(h:i.natAbs<10^60):iA (.int i)=.ok (.str (T i)):=aW (zn9 h)
theorem ie(h:i.natAbs<10^60):(T i).length<=61:=by
 by_cases c:i<0
 ·rw [zgG c,show(one 45++T (0-i)).length=1+(T (0-i)).length by rw [jR,cw,BH,<- jR,<- jR];rfl]
  obtain⟨n,e⟩:∃ n:Nat,0-i=(n:Int):=⟨(0-i).toNat,by lia⟩
  rw [e]
  have:=len_T (n:=n) (k:=60) (by decide) (by lia)
  lia
 ·obtain⟨n,rfl⟩:∃ n:Nat,i=(n:Int):=⟨i.toNat,by lia⟩
  have:=len_T (n:=n) (k:=60) (by decide) (by lia)
  lia
theorem len_app(a b:gV):(a++b).length=a.length+b.length:=by rw [jR,cw,BH,<- jR,<- jR]
theorem len_num(h:NB q):(b9 q).length<=123:=by
 unfold b9
 have h1:=ie h.top
 split
 ·lia
 ·have h2:=ie (i:=(q.den:Int)) (by have:=h.bot;lia)
  rw [len_app,len_app]
  show _+1+_<=_
  lia
theorem zjx(q:Rat):As (b9 q):=by
 unfold b9
 split
 ·exact qX _
 ·exact((qX _).app (o6 (by decide))).app (qX _)
theorem eE(h:n<=1000000):leB n lim=true:=ib h
theorem zn8(h:NB q):zae [num q]=.ok (.str (b9 q)):=by
 have f1:=str_int h.top
 have f2:=str_int (i:=(q.den:Int)) (by have:=h.bot;lia)
 have l1:=ie h.top
 have l2:=ie (i:=(q.den:Int)) (by have:=h.bot;lia)
 have e1:du (.int (q.den:Int)) (.int 1)=.ok (.bool (decide ((q.den:Int)=1))):=uM _ _
 have i0:aq (num q) (.int 0)=.ok (.int q.num):=rfl
 have i1:aq (num q) (.int 1)=.ok (.int (q.den:Int)):=rfl
 refine e7 (ρ:=[.val (num q)]) rfl ?_
 show xm [.val (num q)]=_
 unfold xm b9
 by_cases c:q.den=1
 ·rw [decide_eq_true (by lia)] at e1
  rw [if_pos c]
  simp only [av,aG,ax,tB,FL.e1,FL.e2,eV,eC,ah,zz0,i0,i1,e1,f1,if_true]
 ·rw [decide_eq_false (by lia)] at e1
  rw [if_neg c]
  have a1:cv (.str (T q.num)) (.str (BD "/"))=.ok (.str (T q.num++one 47)):=aW (eE (by show _+1<=_;lia))
  have a2:cv (.str (T q.num++one 47)) (.str (T (q.den:Int)))=.ok (.str (T q.num++one 47++T (q.den:Int))):=aW (eE (by rw [len_app];show _+1+_<=_;lia))
  simp only [av,aG,ax,aL,tB,FL.e1,FL.e2,eV,eC,ah,zz0,i0,i1,e1,f1,f2,a1,a2,A6,if_false]
end K77
namespace FL
open PySem
section
noncomputable def ev(f:List Int->Rat)(s:Sm):Rat:=(s.map fun p=>f p.1*p.2).sum
end
section
end
end FL
namespace L2
open PySem PySem.Spec PyProof.Rows
end L2
namespace FL
open PySem L2 PySem.Spec
open PyProof.Rows hiding St
end FL
namespace L2
open PySem PySem.Spec PyProof.Rows
end L2
namespace FL
open PySem PySem.Spec PyProof.Rows L2
end FL
namespace FV
open PySem FL
section
def zfD:EF:=(dJ 1 [] (cQ (aa (eV 0) af)) (gN 0) cV (aP (aa (eC (.int 0)) (aa (eC (.int 1)) af))))
def zbD:SF:=(cT zfD)
def ziv:List D->R D:=aN true 1 1 zbD
end
variable {it:IF}{k:Nat}{w:List Int}{cs ρ:En}{f:EF}{g:GF}{ix:List Nat}{α β:Type}{n:Int}
section
section
noncomputable def gd(f:β->D)(s:List (List Int×β)):D:=.dict (s.map fun p=>(tp p.1,f p.2))
noncomputable def kM(s:List (List Int×β))(w:List Int):Option β:=(s.find? fun p=>decide (p.1=w)).map (·.2)
noncomputable def ji(s:List (List Int×β))(w:List Int)(q:β):List (List Int×β):=if(s.any fun p=>decide (p.1=w))=true then s.map fun p=>if p.1=w then(p.1,q) else p else s++[(w,q)]
theorem zgi(f:β->D)(w:List Int):∀ s:List (List Int×β),look (s.map fun p=>(tp p.1,f p.2)) (kq w)=(kM s w).map f
 | []=>rfl
 | p::r=>by
  have ih:=zgi f w r
  unfold look kM at ih ⊢
  simp only [AQ,Ef]
  rw [zf3 p.1 w]
  cases decide (p.1=w) with
  | true=>rfl
  | false=>exact ih
theorem zf2(f:β->D):∀ s:List (List Int×β),keysOk true (s.map fun p=>(tp p.1,f p.2))=true
 | []=>rfl
 | p::r=>by
  have ih:=zf2 f r
  unfold keysOk at ih ⊢
  rw [AQ,List.all_cons,ih,Bool.and_true]
  show(match keyOf (tp p.1) with|some q=>yg q==true|none=>false)=true
  rw [vn];rfl
theorem zfe(f:β->D)(s:List (List Int×β))(w:List Int):dictAt (gd f s) (tp w)=.ok (s.map (fun p=>(tp p.1,f p.2)),kq w):=by
 show(R.of (keyOf (tp w))).bind _=_
 rw [vn]
 exact aW (zf2 f s)
theorem zfc(f:β->D)(s:List (List Int×β))(w:List Int):nL (gd f s) (tp w)=.ok ((kM s w).map f):=by
 unfold nL
 rw [zfe,ah,zgi]
theorem zfK(f:β->D)(s:List (List Int×β))(w:List Int):inD (tp w) (gd f s)=.ok (.bool (kM s w).isSome):=by
 unfold inD
 rw [zfc,ah]
 cases kM s w <;> rfl
theorem uD{f:β->D}{s:List (List Int×β)}{q:β}(h:kM s w=some q):fC (gd f s) (tp w)=.ok (f q):=by
 unfold fC
 rw [zfc,ah,h];rfl
theorem zd7(f:β->D)(w:List Int):∀ s:List (List Int×β),((s.map fun p=>(tp p.1,f p.2)).any fun kv=>decide (keyOf kv.1=some (kq w)))=s.any fun p=>decide (p.1=w)
 | []=>rfl
 | p::r=>by
  simp only [AQ,Ht,zd7 f w r]
  rw [zf3 p.1 w]
theorem zqG(f:β->D)(s:List (List Int×β))(w:List Int)(q:β):vN (s.map fun p=>(tp p.1,f p.2)) (tp w) (kq w) (f q)=(ji s w q).map fun p=>(tp p.1,f p.2):=by
 unfold vN ji
 rw [zd7]
 split
 ·rw [Bz,Bz]
  refine GP fun p _=>?_
  show(if keyOf (tp p.1)=some (kq w) then(tp p.1,f q) else(tp p.1,f p.2))=(fun p:List Int×β=>(tp p.1,f p.2)) (if p.1=w then(p.1,q) else p)
  by_cases c:p.1=w
  ·rw [if_pos c,if_pos (by rw [vn,c])]
  ·rw [if_neg c,if_neg (fun z=>c (by rw [vn] at z;exact zf4 (BP z)))]
 ·rw [BZ];rfl
theorem xZ{f:β->D}{s:List (List Int×β)}{q:β}(h:s.length+1<=lim):mK (gd f s) (tp w) (f q)=.ok (gd f (ji s w q)):=by
 unfold mK
 rw [zfe,ah]
 show aF (leB ((s.map fun p=>(tp p.1,f p.2)).length+1) lim) _=_
 rw [aW (by rw [AW];exact ib h),zqG];rfl
theorem zfu{s:List (List Int×β)}(h:∀ p∈s,p.1≠w):kM s w=none:=by
 unfold kM
 rw [List.find?_eq_none.mpr fun p hp=>by simpa using h p hp];rfl
def Gk(s:List (List Int×β)):Prop:=(s.map (·.1)).Nodup
theorem kN:∀{s:List (List Int×β)} {p:List Int×β},Gk s->p∈s->kM s p.1=some p.2
 | x::r,p,nk,h=>by
  unfold Gk at nk
  rw [AQ,C0] at nk
  unfold kM
  rw [Ef]
  rcases AX.mp h with rfl|h
  ·simp
  ·have:x.1≠p.1:=fun z=>nk.1 (by rw [z];exact CV h)
   rw [decide_eq_false this]
   exact kN (s:=r) nk.2 h
theorem zbA{s:List (List Int×β)}{q:β}(h:∀ p∈s,p.1≠w):ji s w q=s++[(w,q)]:=by
 unfold ji
 rw [if_neg]
 intro z
 obtain⟨p,hp,hw⟩:=F0.mp z
 exact h p hp (by simpa using hw)
theorem zlM(s:List (List Int×β))(w:List Int)(q:β):(ji s w q).length<=s.length+1:=by
 unfold ji
 split <;> simp
end
theorem mL{f0:α->D}{xs:List α}(h:α->D)(hi:it ρ=.ok (xs.map f0,ρ))(hl:xs.length<=lim)
  (hx:∀ x∈xs,∃ β,g (f0 x) (b6 k ix ρ)=.ok β/\f β=.ok (h x,β)/\back ρ ix (β.drop k)=ρ):dJ k ix it g cV f ρ=.ok (.list (xs.map h),ρ):=by
 have key:∀(xs:List α) (acc:List D),acc.length+xs.length<=lim->(∀ x∈xs,∃ β,g (f0 x) (b6 k ix ρ)=.ok β/\f β=.ok (h x,β)/\back ρ ix (β.drop k)=ρ)->gQ k ix g cV f (xs.map f0) ρ acc=.ok (acc++xs.map h,ρ):=by
  intro xs
  induction xs with
  | nil=>intro acc _ _;simp [gQ]
  | cons x xs ih =>
   intro acc hl hx
   obtain⟨β,h1,h2,h3⟩:=hx x (Bc ..)
   simp only [AR] at hl
   rw [AQ]
   unfold gQ
   rw [h1,ah,show cV β=.ok (true,β) from rfl,ah,if_pos rfl,h2,ah,aW (ib (by lia)),h3,ih _ (by simp;lia) fun y m=>hx y (Be x m)]
   simp
 unfold dJ
 rw [hi,ah,key xs [] (by simpa using hl) hx]
 rfl
noncomputable def mw:En->Prop
 | []=>True
 | .ow _ _::_=>False
 | _::r=>mw r
theorem mw.look:∀{ix:List Nat} {cs:En},mw cs->∀ i p d,(ix.zip cs).lookup i≠some (.ow p d)
 | [],_,_,i,p,d,z=>by simp at z
 | _::_,[],_,i,p,d,z=>by simp at z
 | j::ix,c::cs,h,i,p,d,z=>by
  have hr:mw cs:=by cases c <;> first|exact h|exact h.elim
  rw [BI,A2] at z
  split at z
  ·cases z;exact h
  ·exact mw.look hr i p d z
theorem mF(h:mw cs):back ρ ix cs=ρ:=zeC (mw.look h) _ _
def rL(xs:List Rat):D:=.list (xs.map num)
def rT(xs:List Rat):D:=.tuple (xs.map num)
theorem yW(r s:Rat):du (num r) (num s)=.ok (.bool (decide (r=s))):=by
 have e:decide (([r.num,(r.den:Int)]:List Int)=[s.num,(s.den:Int)])=decide (r=s):=by
  by_cases c:r=s
  ·subst c;simp
  ·rw [decide_eq_false c,decide_eq_false]
   intro z
   simp only [FX,and_true,Int.natCast_inj] at z
   exact c (Rat.ext z.1 z.2)
 rw [<- e]
 exact zlo [r.num,(r.den:Int)] [s.num,(s.den:Int)]
theorem all_true(xs:List α):nG (.list (xs.map fun _=>BE true))=.ok (.bool true):=by
 have:=zaD (xs.map fun _=>true)
 rw [Bz] at this
 rw [show xs.map (fun _=>BE true)=xs.map (BE∘fun _=>true) from rfl,this]
 simp
theorem xF(h0:0<=n)(hn:n<=1000):ziv [.int n]=.ok (rL (AB n.toNat 0)):=by
 refine zA (ρ:=[.val (.int n)]) rfl ?_
 show zbD [.val (.int n)]=_
 unfold zbD cT zfD
 have it:cQ (aa (eV 0) af) [.val (.int n)]=.ok ((Bh n.toNat).map (fun i:Nat=>A8 i),[.val (.int n)]):=by
  simp only [cQ,aa,af,eV,IK,ah]
  rw [sO (by lia) (by lia),ah,sP,Bz]
  simp
 rw [mL (f0:=fun i:Nat=>.int i) (xs:=Bh n.toNat) (fun _=>num 0) it (by rw [CM];show _<=1000000;lia) fun p mp=>?_]
 ·rw [ah]
  unfold rL
  simp [List.map_const']
 ·exact⟨[.val (.int p)],rfl,rfl,mF trivial⟩
end
end FV
namespace K77
open PySem FL TX FV
variable {B c:Nat}{q:Rat}{l:List gV}
section
theorem zc5{B:Nat}:∀{l:List Nat},(∀ x∈l,x<=B)->l.sum<=l.length*B
 | [],_=>by simp
 | x::r,h=>by
  have:=zc5 fun y hy=>h y (Be _ hy)
  have h0:=h x (by simp)
  rw [List.sum_cons,AR,Nat.add_mul]
  lia
theorem zhT:∀ l:List gV,strsOf (l.map AG)=some l
 | []=>rfl
 | x::r=>by simp only [AQ,strsOf,zhT r,CC]
theorem zmK(h:∀ x∈l,x.length<=B)(hl:l.length<=1000)(hB:B<=10000):zb6 (one c) (.list (l.map AG))=.ok (.str (Br (one c) l)):=by
 show(R.of (strsOf (l.map AG))).bind _=_
 rw [zhT]
 have s:=zc5 (B:=B) (l:=l.map (·.length)) fun x hx=>by
  obtain⟨y,hy,rfl⟩:=A7.mp hx
  exact h y hy
 rw [AW] at s
 have m:l.length*B<=1000*10000:=Nat.mul_le_mul hl hB
 have j:JoinOk (one c) l=true:=PyProof.Rows.joinOk_of (by show _+l.length*1<=_;lia)
 show aF (JoinOk (one c) l) (R.ok (AG (GD (one c) l)))=_
 rw [aW j,show GD (one c) l=Br (one c) l from StrLaws.glued_eq_join _ _]
theorem yE(h:∀ x∈l,x.length<=B)(hl:l.length<=1000)(hB:B<=10000):(Br (one c) l).length<=l.length*(B+1):=by
 have s:=zc5 (B:=B) (l:=l.map (·.length)) fun x hx=>by
  obtain⟨y,hy,rfl⟩:=A7.mp hx
  exact h y hy
 rw [AW] at s
 have:=StrLaws.join_length_le (one c) l
 rw [Nat.mul_add]
 have e:l.length*(one c).length=l.length*1:=rfl
 lia
theorem zbt{c:Nat}{s:gV}(hs:c∉TX.cp s):∀{l:List gV},(∀ x∈l,c∉TX.cp x)->c∉TX.cp (Br s l)
 | [],_=>fun z=>absurd (show c∈([]:List Nat) from z) (by simp)
 | [x],h=>h x (by simp)
 | x::y::r,h=>by
  rw [oh,cw,cw]
  intro z
  rcases B2.mp z with z|z
  ·rcases B2.mp z with z|z
   ·exact h x (by simp) z
   ·exact hs z
  ·exact zbt hs (fun w hw=>h w (Be _ hw)) z
theorem lK{d:Nat}(h:c≠d):c∉TX.cp (one d):=by
 intro z
 exact h (by simpa [TX.cp] using z)
theorem zhO(jm:l≠[])(hf:∀ p∈l,c∉TX.cp p)(hl:(Br (one c) l).length<=100000)(hk:l.length<=1000):sQ (Br (one c) l) (.str (one c))=.ok (.list (l.map AG)):=by
 have e:=zso jm hf
 have k4:leB (HR (Br (one c) l) (C5 (Br (one c) l) (one c) 0 (Br (one c) l).length ((Br (one c) l).length+1)) (one c).length).length lim=true:=eE (by
  rw [PyProof.Rows.len_partsBetween]
  have:=StrLaws.occ_length_le (Br (one c) l) (one c) 0 (Br (one c) l).length ((Br (one c) l).length+1)
  lia)
 refine(aW ?_).trans ?_
 ·rw [k4,eE (by lia:(Br (one c) l).length+1<=1000000),e,eE (by lia:l.length<=1000000)]
  rfl
 ·rw [e]
theorem zfq(hc:c≠45/\(c<48\/57<c))(h1:c≠47):c∉TX.cp (b9 q):=by
 unfold b9
 split
 ·exact eT c hc _
 ·rw [cw,cw]
  intro z
  rcases B2.mp z with z|z
  ·rcases B2.mp z with z|z
   ·exact eT c hc _ z
   ·exact lK h1 z
  ·exact eT c hc _ z
end
variable {a b:gV}{i:Int}{α:Type}{n:Nat}
section
theorem zms(h:48<=c/\c<=57):nW (.str (L2.lI c)) (.str (BD "0123456789"))=.ok (.bool true):=by
 have key:(C5 (BD "0123456789") (L2.lI c) 0 (BD "0123456789").length 1).isEmpty=false:=by
  rcases Jv (BD "0123456789") (one c) 1 (AI _) with⟨_,n⟩|⟨i,r,e,_⟩
  ·refine absurd (uo.mpr ?_) (n (c-48))
   have:c=48\/c=49\/c=50\/c=51\/c=52\/c=53\/c=54\/c=55\/c=56\/c=57:=by lia
   rcases this with z|z|z|z|z|z|z|z|z|z <;> subst z <;> rfl
  ·show(C5 (BD "0123456789") (one c) 0 (BD "0123456789").length 1).isEmpty=false
   rw [e];rfl
 show R.ok (BE (!_))=_
 rw [key]
 rfl
theorem eq_str(ha:As a)(hb:As b):du (.str a) (.str b)=.ok (.bool (decide (a=b))):=by rw [zbp ha.pl hb.pl,zfk]
theorem ne_str(ha:As a)(hb:As b):cg (.str a) (.str b)=.ok (.bool (!decide (a=b))):=by rw [yR ha.pl hb.pl,zfk]
theorem zji:T 0=one 48:=by
 refine ext ?_
 have:=pq 0
 rw [show((0:Nat):Int)=0 from rfl] at this
 rw [this]
 rfl
theorem zjA{xs:List α}{i:Nat}(h:i<xs.length):cJ xs (i:Int)=xs[i]?:=by
 unfold cJ dU
 rw [if_pos (by lia),if_pos (by lia)]
 simp
theorem read_whole(h:n<10^9):nC [.str (T (n:Int))]=.ok (.int n):=by
 have l9:=len_T (n:=n) (k:=9) (by decide) h
 have l1:1<=(T (n:Int)).length:=by
  rw [jR]
  cases e:cp (T (n:Int)) with
  | nil=>exact absurd e (ne_T n)
  | cons _ _=>simp
 have ll:kR (.str (T (n:Int)))=.ok (.int ((T (n:Int)).length:Int)):=aW (eE (by lia))
 have c1:fg (.int 1) (.int ((T (n:Int)).length:Int))=.ok (.bool true):=by rw [yI,decide_eq_true (by lia)]
 have c2:fg (.int ((T (n:Int)).length:Int)) (.int 9)=.ok (.bool true):=by rw [yI,decide_eq_true (by lia)]
 have sg:zhJ (.str (T (n:Int)))=.ok ((cp (T (n:Int))).map fun c=>.str (L2.lI c)):=aW (qX _).all
 have q:vY [.val (.str (T (n:Int)))]=.ok (.list ((cp (T (n:Int))).map fun _=>BE true),[.val (.str (T (n:Int)))]):=by
  unfold vY
  rw [mL (f0:=fun c=>AG (L2.lI c)) (xs:=cp (T (n:Int))) (fun _=>.bool true) (by simp only [iT,eV,zz0,ah,sg]) (by rw [<- jR];show _<=1000000;lia) fun c mc=>?_]
  exact⟨[.val (.str (L2.lI c))],rfl,by simp only [FL.e2,eV,eC,zz0,ah,zms (zbh n c mc)],mF trivial⟩
 have al:nG (.list ((cp (T (n:Int))).map fun _=>BE true))=.ok (.bool true):=by
  have:=zaD ((cp (T (n:Int))).map fun _=>true)
  rw [Bz] at this
  rw [show(cp (T (n:Int))).map (fun _=>BE true)=(cp (T (n:Int))).map (BE∘fun _=>true) from rfl,this]
  simp
 obtain⟨c0,r0,e0⟩:∃ c r,cp (T (n:Int))=c::r:=by
  cases e:cp (T (n:Int)) with
  | nil=>exact absurd e (ne_T n)
  | cons c r=>exact⟨c,r,rfl⟩
 have hc0:=zbh n c0 (by rw [e0];simp)
 have ix:vj (.str (T (n:Int))) (.int 0)=.ok (.str (one c0)):=by
  show aF _ _=_
  rw [aW (eE (by lia)),show(T (n:Int)).cps.toList=c0::r0 from e0,show FL.cJ (c0::r0) 0=some c0 from(zjA (xs:=c0::r0) (i:=0) (by simp)).trans rfl]
  rfl
 have q1:=eq_str (a:=one c0) (b:=one 48) (o6 (by lia)) (o6 (by decide))
 have q2:=ne_str (a:=T (n:Int)) (b:=one 48) (qX _) (o6 (by decide))
 have iv:yB (.str (T (n:Int)))=.ok (.int n):=by
  show aF _ _=_
  rw [aW (ib (by lia)),PySem.W.KIN.num_reads (Int.natCast_nonneg n) (by have:n<10^10:=Eg h (by decide);lia)]
  rfl
 refine e7 (ρ:=[.val (.str (T (n:Int)))]) rfl ?_
 show xC [.val (.str (T (n:Int)))]=_
 have s1:aG (FL.bw (FL.bu (tB (dF fg fg (eC (.int 1)) (e1 kR (eV 0)) (eC (.int 9))))) (FL.bu (tE (e1 nG vY)))) (ax (eC .none)) aL [.val (.str (T (n:Int)))]=.ok (.nx,[.val (.str (T (n:Int)))]):=by
  simp only [aG,FL.bw,FL.bu,tB,tE,dF,FL.e1,eV,eC,aL,ah,zz0,ll,c1,c2,q,al,dB,BQ,A6,if_false,if_true]
 have s2:aG (FL.eJ (tB (e2 du (e2 vj (eV 0) (eC (.int 0))) (eC (.str (BD "0"))))) (tB (e2 cg (eV 0) (eC (.str (BD "0")))))) (ax (eC .none)) aL [.val (.str (T (n:Int)))]=.ok (.nx,[.val (.str (T (n:Int)))]):=by
  have o1:BD "0"=one 48:=rfl
  rw [o1]
  rcases Nat.eq_zero_or_pos n with z|z
  ·subst z
   have t0:T ((0:Nat):Int)=one 48:=zji
   rw [t0,decide_eq_true rfl] at q2
   rw [t0] at e0 ix
   have:c0=48:=by
    have e1:[48]=c0::r0:=e0
    cases e1;rfl
   subst this
   rw [decide_eq_true rfl] at q1
   rw [t0]
   simp only [aG,FL.eJ,tB,FL.e2,eV,eC,aL,ah,zz0,ix,q1,q2,BQ,A6,if_false,if_true]
  ·have jm:=zl8 z c0 r0 e0
   rw [decide_eq_false (fun z=>jm (by have:=congrArg TX.cp z;simpa [TX.cp] using this))] at q1
   simp only [aG,FL.eJ,tB,FL.e2,eV,eC,aL,ah,zz0,ix,q1,A6,if_false]
 unfold xC
 rw [aO s1]
 refine(aO s2).trans ?_
 simp only [ax,FL.e1,eV,ah,zz0,iv]
theorem zhP(x:gV)(c:Nat):Fn x (one c)=decide ((TX.cp x)[0]?=some c):=by
 rw [Bool.eq_iff_iff,decide_eq_true_iff,<- StrLaws.subAt_one x c 0]
 unfold Fn
 rw [BJ,decide_eq_true_iff]
theorem nY:hV (.int i) .none=.ok (.bool false):=rfl
theorem read_top(h:i.natAbs<10^9):zam [.str (T i)]=.ok (.int i):=by
 have so:strOf (.str (T i))=.ok (T i):=rfl
 by_cases c:i<0
 ·obtain⟨m,e⟩:∃ m:Nat,0-i=(m:Int):=⟨(0-i).toNat,by lia⟩
  have hm:m<10^9:=by lia
  have hT:T i=one 45++T (m:Int):=by rw [zgG c,e]
  have st:zI (T i) (.str (BD "-"))=.ok (.bool true):=by
   show R.ok (BE (Fn (T i) (one 45)))=_
   rw [zhP,hT,cw]
   rfl
  have hcp:TX.cp (T i)=45::TX.cp (T (m:Int)):=by rw [hT,cw];rfl
  have sl:zF (.str (T i)) (some 1) none=.ok (.str (T (m:Int))):=by
   have l60:=ie (i:=i) (Eg h (by decide))
   show aF _ _=_
   rw [aW (eE (by lia)),PyProof.Rows.slice_from_eq (x:=T i) (i:=1) (b:=((T i).length:Int)) (by decide) (by rw [jR,hcp];simp;lia) rfl]
   congr 2
   refine ext ?_
   show(((TX.cp (T i)).drop 1).take _)=_
   rw [jR,hcp]
   simp
   exact HQ (by simp [TX.cp])
  have gJ:=read_whole hm
  have e0:du (.int m) (.int 0)=.ok (.bool false):=by rw [uM,decide_eq_false (by lia)]
  have ng:sd (.int m)=.ok (.int i):=by show R.ok (A8 (-(m:Int)))=_;rw [show -(m:Int)=i by lia]
  refine e7 (ρ:=[.val (.str (T i)),.val (.int m)]) rfl ?_
  show q8 [.val (.str (T i)),.no]=_
  unfold q8
  simp only [av,aG,FL.bu,FL.bw,tE,tB,fF,ay,gN,au,aa,af,zbm,dX,dW,FL.e1,FL.e2,eV,eC,ax,aL,ah,zz0,zz1,Bp,Bq,so,st,sl,gJ,nY,e0,ng,dB,BQ,A6,if_false]
 ·obtain⟨m,rfl⟩:∃ m:Nat,i=(m:Int):=⟨i.toNat,by lia⟩
  have hm:m<10^9:=by lia
  have st:zI (T (m:Int)) (.str (BD "-"))=.ok (.bool false):=by
   show R.ok (BE (Fn (T (m:Int)) (one 45)))=_
   rw [zhP,decide_eq_false fun z=>?_]
   have:=zbh m 45 (Ck z)
   lia
  have gJ:=read_whole hm
  refine e7 (ρ:=[.val (.str (T (m:Int))),.no]) rfl ?_
  show q8 [.val (.str (T (m:Int))),.no]=_
  unfold q8
  simp only [av,aG,FL.bu,tE,fF,au,aa,af,eV,eC,ax,aL,ah,zz0,so,st,gJ,dB,CF,if_true]
structure NS(q:Rat):Prop where
 top:q.num.natAbs<10^9
 bot:q.den<10^9
theorem NS.nb(h:NS q):NB q:=⟨Eg h.top (by decide),Eg h.bot (by decide)⟩
theorem zmF:qN=zdv:=rfl
theorem read_number(h:NS q):zak [.str (b9 q)]=.ok (num q):=by
 have ln:=len_num h.nb
 have so:strOf (.str (b9 q))=.ok (b9 q):=rfl
 have rt:=read_top h.top
 have is':qN [num q]=.ok (.bool true):=by rw [zmF];exact zfS q
 have l2:leB 2 lim=true:=by decide
 have b1:(!((one 47).length==0)&&leB (b9 q).length lim)=true:=by
  rw [eE (by lia:(b9 q).length<=1000000)];rfl
 by_cases c:q.den=1
 ·have hT:b9 q=T q.num:=by unfold b9;rw [if_pos c]
  have pt:iQ (b9 q) (.str (BD "/"))=.ok (.tuple [.str (T q.num),.str Cu,.str Cu]):=by
   refine(aW b1).trans ?_
   rw [hT,show BD "/"=one 47 from rfl,zpt (eT 47 (by decide) _)]
   rfl
  have nq:num q=.tuple [.int q.num,.int 1]:=by unfold num;rw [c];rfl
  have tx:zc9 (.str Cu)=.ok false:=rfl
  have i1:hV (.int 1) .none=.ok (.bool false):=rfl
  rw [nq] at is'
  refine e7 (ρ:=[.val (.str (b9 q)),.val (.str (T q.num)),.val (.str Cu),.val (.str Cu),.val (.int q.num),.val (.int 1)]) rfl ?_
  show qZ [.val (.str (b9 q)),.no,.no,.no,.no,.no]=_
  unfold qZ
  rw [nq]
  simp only [av,ay,aG,FL.bu,FL.bw,FL.eJ,tE,tB,tX,ee,fF,gT,eU,gN,au,aP,aa,af,FL.e1,FL.e2,eV,eC,ax,aL,ah,zz0,zz1,Bp,Bq,so,pt,rt,tx,nY,i1,is',dB,AR,A9,Bu,aW l2,BQ,A6,if_false,if_true]
 ·have hT:b9 q=T q.num++one 47++T (q.den:Int):=by unfold b9;rw [if_neg c]
  have pt:iQ (b9 q) (.str (BD "/"))=.ok (.tuple [.str (T q.num),.str (one 47),.str (T (q.den:Int))]):=by
   refine(aW b1).trans ?_
   rw [hT,show BD "/"=one 47 from rfl,zgY (eT 47 (by decide) _)]
   rfl
  have tx:zc9 (.str (one 47))=.ok true:=rfl
  have rb:=read_whole h.bot
  have e1:du (.int (q.den:Int)) (.int 1)=.ok (.bool false):=by rw [uM,decide_eq_false (by lia)]
  have nq:num q=.tuple [.int q.num,.int (q.den:Int)]:=rfl
  rw [nq] at is'
  refine e7 (ρ:=[.val (.str (b9 q)),.val (.str (T q.num)),.val (.str (one 47)),.val (.str (T (q.den:Int))),.val (.int q.num),.val (.int (q.den:Int))]) rfl ?_
  show qZ [.val (.str (b9 q)),.no,.no,.no,.no,.no]=_
  unfold qZ
  rw [nq]
  simp only [av,ay,aG,FL.bu,FL.bw,FL.eJ,tE,tB,tX,ee,fF,gT,eU,gN,au,aP,aa,af,FL.e1,FL.e2,eV,eC,ax,aL,ah,zz0,zz1,Bp,Bq,so,pt,rt,rb,tx,nY,e1,is',dB,AR,A9,Bu,aW l2,BQ,A6,if_false,if_true]
theorem read_way{c:Int}(h0:0<=i)(h1:i<c)(hc:c<=6):qP [.str (T i),.int c]=.ok (.int i):=by
 obtain⟨n,rfl⟩:∃ n:Nat,i=(n:Int):=⟨i.toNat,by lia⟩
 have gJ:=read_whole (n:=n) (BL (by lia:n<6) (by decide))
 have ge:kO (.int n) (.int c)=.ok (.bool false):=by rw [zlR,decide_eq_false (by lia)]
 refine e7 (ρ:=[.val (.str (T (n:Int))),.val (.int c),.val (.int n)]) rfl ?_
 show xB [.val (.str (T (n:Int))),.val (.int c),.no]=_
 unfold xB
 simp only [av,ay,aG,FL.bw,tB,gN,au,aa,af,FL.e2,eV,eC,ax,aL,ah,zz0,zz1,Bp,Bq,gJ,nY,ge,A6,if_false]
end
variable {b:Int}{k:Nat}{d:D}
section
theorem zhZ:gL=oR:=rfl
theorem zob:oN=oQ:=rfl
theorem qD(h:cx k d)(hk:k<=60000)(m:Int)(kQ:1<=m)(hU:m.natAbs<65536):∃ g d',gL [d,.int m]=.ok (.int g,[d',.int m])/\0<=g/\g<m/\cx (k+1) d':=by
 rw [zhZ];exact zsO h hk m kQ hU
theorem zhY{b:Nat}(h:cx k d)(hk:k<=60000)(m:Int)(kQ:1<=m)(hU:Bd m b)(hb:b<=1000):∃ g d',gL [d,.int m]=.ok (.int g,[d',.int m])/\0<=g/\g<m/\cx (k+1) d':=by
 rw [zhZ];exact zsN h hk m kQ hU hb
theorem zgp(t:Int)(hb:1<=b)(hl:b<2^300):∃ r:Rat,oN [.int t,.int b]=.ok (num r)/\r.num.natAbs<=t.natAbs/\r.den<=b.toNat/\(t≠0->r≠0):=by
 have b0:b.toNat≠0:=by lia
 have e:((b.toNat:Nat):Int)=b:=by lia
 have h1:=QR.norm (t:=t) b0
 have h2:=QR.zbs t (b.toNat:Int)
 rw [h1] at h2
 refine⟨Gq t b.toNat b0,?_,h2.1,h2.2,fun h z=>h ?_⟩
 ·rw [zob,<- zoc t b0 (n:=300) (by lia) (by decide),e]
 ·exact(Rat.normalize_eq_zero b0).mp z
theorem nine(h:cx k d)(hk:k<=50000):∃(r:Rat) (d':D),iX [d]=.ok (num r,[d'])/\NS r/\cx (k+3) d':=by
 obtain⟨w,d1,t1,w0,w5,p1⟩:=qD h (by lia) 6 (by decide) (by decide)
 have iM:eX (.int w) (.int 3)=.ok (.bool (decide (w<3))):=rW _ _
 have yL:eX (.int w) (.int 5)=.ok (.bool (decide (w<5))):=rW _ _
 by_cases c1:w<3
 ·have l3:leB 3 lim=true:=by decide
  have l2:leB 2 lim=true:=by decide
  have ng:sd (.int 1)=.ok (.int (-1)):=rfl
  have c:w=0\/w=1\/w=2:=by lia
  rw [decide_eq_true c1] at iM
  rcases c with rfl|rfl|rfl
  ·refine⟨0,d1,?_,⟨by decide,by decide⟩,p1.mono (by lia)⟩
   simp only [iX,o7,FL.run,aN,slots,outs,outD,AB,AR,A9,ax,av,aG,ay,sE,aL,bH,eG,dN,cT,f9,jC,cu,jA,jB,dA,eC,eV,FL.e1,FL.e2,d9,jf,gC,ee,dF,af,aa,aP,bQ,au,fE,dW,dX,eS,aZ,bP,m1,m2,fj,jo,js,jr,tE,tB,FL.eJ,FL.bw,FL.bu,tM,cV,gN,gT,eU,gh,jD,setM,bW,fI,ah,i6,i7,zz0,zz1,Bp,Bq,A1,Bm,Cr,CN,A6,if_false,if_true,Cb,Ci,Bu,reduceCtorEq,cU,fO,cH,dB,fK,fq,bA,dP,dt,gB,dg,bR,cf,A2,CO,b6,back,BI,Cy,Cz,AQ,BW,CP,CQ,CU,Cp,bM,iE,gH,BQ,CF,iD,gn,fc,jd,jq,e3,dI,ja,jz,cQ,gG,t1,iM,ng,aW l2,aW l3,AR,A9]
   rfl
  ·refine⟨1,d1,?_,⟨by decide,by decide⟩,p1.mono (by lia)⟩
   simp only [iX,o7,FL.run,aN,slots,outs,outD,AB,AR,A9,ax,av,aG,ay,sE,aL,bH,eG,dN,cT,f9,jC,cu,jA,jB,dA,eC,eV,FL.e1,FL.e2,d9,jf,gC,ee,dF,af,aa,aP,bQ,au,fE,dW,dX,eS,aZ,bP,m1,m2,fj,jo,js,jr,tE,tB,FL.eJ,FL.bw,FL.bu,tM,cV,gN,gT,eU,gh,jD,setM,bW,fI,ah,i6,i7,zz0,zz1,Bp,Bq,A1,Bm,Cr,CN,A6,if_false,if_true,Cb,Ci,Bu,reduceCtorEq,cU,fO,cH,dB,fK,fq,bA,dP,dt,gB,dg,bR,cf,A2,CO,b6,back,BI,Cy,Cz,AQ,BW,CP,CQ,CU,Cp,bM,iE,gH,BQ,CF,iD,gn,fc,jd,jq,e3,dI,ja,jz,cQ,gG,t1,iM,ng,aW l2,aW l3,AR,A9]
   rfl
  ·refine⟨-1,d1,?_,⟨by decide,by decide⟩,p1.mono (by lia)⟩
   simp only [iX,o7,FL.run,aN,slots,outs,outD,AB,AR,A9,ax,av,aG,ay,sE,aL,bH,eG,dN,cT,f9,jC,cu,jA,jB,dA,eC,eV,FL.e1,FL.e2,d9,jf,gC,ee,dF,af,aa,aP,bQ,au,fE,dW,dX,eS,aZ,bP,m1,m2,fj,jo,js,jr,tE,tB,FL.eJ,FL.bw,FL.bu,tM,cV,gN,gT,eU,gh,jD,setM,bW,fI,ah,i6,i7,zz0,zz1,Bp,Bq,A1,Bm,Cr,CN,A6,if_false,if_true,Cb,Ci,Bu,reduceCtorEq,cU,fO,cH,dB,fK,fq,bA,dP,dt,gB,dg,bR,cf,A2,CO,b6,back,BI,Cy,Cz,AQ,BW,CP,CQ,CU,Cp,bM,iE,gH,BQ,CF,iD,gn,fc,jd,jq,e3,dI,ja,jz,cQ,gG,t1,iM,ng,aW l2,aW l3,AR,A9]
   rfl
 ·rw [decide_eq_false c1] at iM
  by_cases c2:w<5
  ·rw [decide_eq_true c2] at yL
   obtain⟨v,d2,t2,v0,v1,p2⟩:=qD p1 (by lia) 39 (by decide) (by decide)
   obtain⟨u,d3,t3,u0,u1,p3⟩:=qD p2 (by lia) 12 (by decide) (by decide)
   have pr:0<=u*(w-3)/\u*(w-3)<=11:=by
    have:w-3=0\/w-3=1:=by lia
    rcases this with z|z <;> rw [z] <;> lia
   obtain⟨r,hl,b1,b2,_⟩:=zgp (v-19) (b:=1+u*(w-3)) (by lia) (by lia)
   refine⟨r,d3,?_,⟨by lia,by lia⟩,p3⟩
   have sb:cU (.int v) (.int 19)=.ok (.int (v-19)):=rfl
   have wc:cU (.int w) (.int 3)=.ok (.int (w-3)):=rfl
   have ml:bq (.int u) (.int (w-3))=.ok (.int (u*(w-3))):=fG (n:=16) (m:=16) (d7 (by lia)) (d7 (by lia)) (by decide)
   have ad2:aC (.int 1) (.int (u*(w-3)))=.ok (.int (1+u*(w-3))):=rfl
   simp only [iX,o7,FL.run,aN,slots,outs,outD,AB,AR,A9,ax,av,aG,ay,sE,aL,bH,eG,dN,cT,f9,jC,cu,jA,jB,dA,eC,eV,FL.e1,FL.e2,d9,jf,gC,ee,dF,af,aa,aP,bQ,au,fE,dW,dX,eS,aZ,bP,m1,m2,fj,jo,js,jr,tE,tB,FL.eJ,FL.bw,FL.bu,tM,cV,gN,gT,eU,gh,jD,setM,bW,fI,ah,i6,i7,zz0,zz1,Bp,Bq,A1,Bm,Cr,CN,A6,if_false,if_true,Cb,Ci,Bu,reduceCtorEq,cU,fO,cH,dB,fK,fq,bA,dP,dt,gB,dg,bR,cf,A2,CO,b6,back,BI,Cy,Cz,AQ,BW,CP,CQ,CU,Cp,bM,iE,gH,BQ,CF,iD,gn,fc,jd,jq,e3,dI,ja,jz,cQ,gG,t1,t2,t3,iM,yL,sb,wc,ml,ad2,hl,beq_self_eq_true,Nat.reduceBEq]
  ·rw [decide_eq_false c2] at yL
   obtain⟨v,d2,t2,v0,v1,p2⟩:=zhY (b:=40) p1 (by lia) 1999999999 (by decide) ⟨by decide⟩ (by decide)
   obtain⟨u,d3,t3,u0,u1,p3⟩:=zhY (b:=40) p2 (by lia) 999999999 (by decide) ⟨by decide⟩ (by decide)
   obtain⟨r,hl,b1,b2,_⟩:=zgp (v-1000000000+1) (b:=1+u) (by lia) (by lia)
   refine⟨r,d3,?_,⟨by lia,by lia⟩,p3⟩
   have pw:fY (.int 10) (.int 9)=.ok (.int 1000000000):=rfl
   have ml:bq (.int 2) (.int 1000000000)=.ok (.int 2000000000):=rfl
   have sb:cU (.int 2000000000) (.int 1)=.ok (.int 1999999999):=rfl
   have sb1:cU (.int 1000000000) (.int 1)=.ok (.int 999999999):=rfl
   have wc:cU (.int v) (.int 1000000000)=.ok (.int (v-1000000000)):=rfl
   have ad:aC (.int (v-1000000000)) (.int 1)=.ok (.int (v-1000000000+1)):=rfl
   have ad2:aC (.int 1) (.int u)=.ok (.int (1+u)):=rfl
   simp only [iX,o7,FL.run,aN,slots,outs,outD,AB,AR,A9,ax,av,aG,ay,sE,aL,bH,eG,dN,cT,f9,jC,cu,jA,jB,dA,eC,eV,FL.e1,FL.e2,d9,jf,gC,ee,dF,af,aa,aP,bQ,au,fE,dW,dX,eS,aZ,bP,m1,m2,fj,jo,js,jr,tE,tB,FL.eJ,FL.bw,FL.bu,tM,cV,gN,gT,eU,gh,jD,setM,bW,fI,ah,i6,i7,zz0,zz1,Bp,Bq,A1,Bm,Cr,CN,A6,if_false,if_true,Cb,Ci,Bu,reduceCtorEq,cU,fO,cH,dB,fK,fq,bA,dP,dt,gB,dg,bR,cf,A2,CO,b6,back,BI,Cy,Cz,AQ,BW,CP,CQ,CU,Cp,bM,iE,gH,BQ,CF,iD,gn,fc,jd,jq,e3,dI,ja,jz,cQ,gG,t1,t2,t3,iM,yL,pw,ml,Int.reduceSub,wc,ad,ad2,hl,beq_self_eq_true,Nat.reduceBEq]
end
end K77
namespace K08
open PySem FL FV K77
variable {t:Tb}{r s:Rat}{c i:Int}{x y:Sl}{a b d:D}{h:List Int×List Rat->D}{e:List Int×List Rat}{j n:Nat}{ρ:En}{xs:List Rat}
section
theorem zcu(r:Rat):qN [num r]=.ok (.bool true):=zfS r
theorem zb(hr:QR.Bd n r)(hs:QR.Bd n s)(hn:n<=40000000):t6 [num r,num s]=.ok (num (r+s)):=zqc hr hs hn
theorem wm(hr:QR.Bd n r)(hs:QR.Bd n s)(hn:n<=40000000):lE [num r,num s]=.ok (num (r*s)):=zsU hr hs hn
theorem zmD(xs:List Rat)(hl:xs.length<=1000):zai [rL xs]=.ok (.bool true):=by
 have q:zq [.val (rL xs)]=.ok (.list (xs.map fun _=>BE true),[.val (rL xs)]):=by
  unfold zq
  exact mL (f0:=num) (xs:=xs) (fun _=>BE true) rfl (by show _<=1000000;lia) fun r mr=>⟨[.val (num r)],rfl,by simp only [au,aa,eV,zz0,af,ah,zcu],mF trivial⟩
 refine e7 (ρ:=[.val (rL xs)]) rfl ?_
 show xt [.val (rL xs)]=_
 unfold xt
 have k1:hW "list" (rL xs)=.ok (.bool true):=rfl
 simp only [ax,d9,FL.e1,eV,zz0,ah,k1,q,all_true]
theorem zb1{n:Int}(hl:(xs.length:Int)=n)(hn:xs.length<=1000):qO [rL xs,.int n]=.ok (.bool true):=by
 refine e7 (ρ:=[.val (rL xs),.val (.int n)]) rfl ?_
 show xu [.val (rL xs),.val (.int n)]=_
 unfold xu
 have k1:cH (rL xs)=.ok (.int n):=by
  show R.ok (A8 ((xs.map num).length:Int))=_
  rw [AW,hl]
 simp only [ax,d9,au,aa,af,FL.e1,FL.e2,eV,zz1,zz0,ah,zmD xs (by lia),k1,uM,decide_true]
theorem zoN(xs:List Rat)(hl:xs.length<=1000):tR [rT xs]=.ok (.bool (xs.all fun x=>decide (x=0))):=by
 refine e7 (ρ:=[.val (rT xs)]) rfl ?_
 show xq [.val (rT xs)]=_
 unfold xq zcY
 have q:=mL (f0:=num) (k:=1) (ix:=[]) (it:=iE (eV 0)) (g:=gN 0) (f:=e2 du (eV 0) (eC (.tuple [.int 0,.int 1]))) (ρ:=[.val (rT xs)]) (xs:=xs) (fun x=>BE (decide (x=0))) rfl (by show _<=1000000;lia) fun x mx=>⟨[.val (num x)],rfl,by
  have h:=yW x 0
  rw [<- yV] at h
  simp only [FL.e2,eV,eC,zz0,ah,h],mF trivial⟩
 simp only [ax,FL.e1,q,ah]
 have:=zaD (xs.map fun x=>decide (x=0))
 rw [Bz] at this
 rw [show xs.map (fun x=>BE (decide (x=0)))=xs.map (BE∘fun x=>decide (x=0)) from rfl,this,ah]
 rw [List.all_map];rfl
abbrev Tb:=List (List Int×List Rat)
structure df(c:Int)(t:Tb):Prop where
 nk:Gk t
 ky:∀ e∈t,∃ i j:Int,e.1=[i,j]/\0<=i/\i<j/\j<c
 rw:∀ e∈t,(e.2.length:Int)=c+1
theorem df.perm{t':Tb}(h:df c t)(p:t'.Perm t):df c t' :=
 ⟨(p.map _).nodup_iff.mpr h.nk,fun e m=>h.ky e (p.subset m),fun e m=>h.rw e (p.subset m)⟩
theorem sr{α β:Type}(g:α->β):∀{l:List β} {t:List α},l.Perm (t.map g)->∃ t':List α,t'.Perm t/\l=t'.map g
 | [],t,h=>by
  have:=h.symm.eq_nil
  rw [GO] at this
  subst this
  exact⟨[],.refl _,rfl⟩
 | x::l,t,h=>by
  obtain⟨e,he,rfl⟩:=A7.mp (h.subset (Bc ..))
  obtain⟨pre,post,rfl⟩:=List.append_of_mem he
  have h2:(g e::l).Perm (g e::(pre++post).map g):=h.trans (by
   rw [BZ,AQ,BZ]
   exact Ih)
  obtain⟨t',hp,rfl⟩:=sr g h2.cons_inv
  exact⟨e::t',(hp.cons e).trans Ih.symm,rfl⟩
noncomputable def hZ(e:List Int×List Rat):WK:=(e.1.getD 0 0,[e.1.getD 1 0])
structure St(t t':Tb):Prop where
 pm:t'.Perm t
 so:t'.Pairwise fun a b=>L2.gq (hZ b) (hZ a)=false
theorem zhb{h:List Int×List Rat->D}:∀{t:Tb},(∀ e∈t,qg (h e)=some (hZ e))->lQ (t.map h)=some (t.map hZ)
 | [],_=>rfl
 | e::t,k=>by
  rw [AQ,AQ]
  show((qg (h e)).bind fun k=>(lQ (t.map h)).map (k::·))=_
  rw [k e (Bc ..),zhb fun x m=>k x (Be _ m)];rfl
theorem we(hi:zb5 d=.ok (t.map h))(hk:∀ e∈t,qg (h e)=some (hZ e))(nd:(t.map hZ).Nodup)(hl:t.length<=60):∃ t':Tb,St t t'/\jV d=.ok (.list (t'.map h)):=by
 let g:List Int×List Rat->WK×D:=fun e=>(hZ e,h e)
 obtain⟨t',hp,e⟩:=sr g (zb3 (t.map g))
 refine⟨t',⟨hp,?_⟩,?_⟩
 ·have:=@zb4 xU (t.map g)
  rw [e,GQ] at this
  exact this
 ·unfold jV
  rw [hi,ah,aW (by rw [AW];exact ib (by lia)),zhb hk]
  show aF (decide (t.map hZ).Nodup) _=_
  rw [aW (decide_eq_true nd),List.zip_map',e,Bz];rfl
theorem df.nd(h:df c t):(t.map hZ).Nodup:=by
 have:(t.map (·.1)).Nodup:=h.nk
 refine GQ.mpr ((GQ.mp this).imp_of_mem fun{a b} ha hb ne z=>ne ?_)
 obtain⟨i,j,ea,_⟩:=h.ky a ha
 obtain⟨i',j',eb,_⟩:=h.ky b hb
 unfold hZ at z
 rw [ea,eb] at z ⊢
 have z1:i=i':=(Ek z).1
 have z2:j=j':=(List.cons.inj (Ek z).2).1
 rw [z1,z2]
theorem St.uniq{t1 t2:Tb}(h:df c t)(a:St t t1)(b:St t t2):t1=t2:=by
 refine List.Perm.eq_of_pairwise (fun x y hx hy l1 l2=>?_) a.so b.so (a.pm.trans b.pm.symm)
 have mx:=a.pm.subset hx
 have my:=b.pm.subset hy
 have ek:hZ x=hZ y:=@zgt xU _ _ l2 l1
 obtain⟨i,j,ea,_⟩:=h.ky x mx
 obtain⟨i',j',eb,_⟩:=h.ky y my
 have e1:x.1=y.1:=by
  unfold hZ at ek
  rw [ea,eb] at ek ⊢
  have z1:i=i':=(Ek ek).1
  have z2:j=j':=(List.cons.inj (Ek ek).2).1
  rw [z1,z2]
 have gx:=kN h.nk mx
 have gy:=kN h.nk my
 rw [e1] at gx
 rw [gx] at gy
 exact E6 e1 (BP gy)
def bC(e:List Int×List Rat):D:=.tuple [.int (e.1.getD 0 0),.int (e.1.getD 1 0),rL e.2]
def aS(e:List Int×List Rat):D:=.tuple [.int (e.1.getD 0 0),.int (e.1.getD 1 0),rT e.2]
noncomputable def fe(t:Tb):Tb:=t.filter fun e=>!(e.2.all fun x=>decide (x=0))
theorem nO{α:Type}(f:α->D):∀(xs:List α) (i:Nat),jg i (xs.map f)=(xs.zipIdx i).map fun q=>.tuple [.int q.2,f q.1]
 | [],_=>rfl
 | x::xs,i=>by simp only [AQ,jg,HX,nO f xs (i+1)]
theorem gX{i:Nat}(hx:ρ[i]?=some x)(nx:Np x)(hy:(ρ.set i (.val a))[j]?=some y)(ny:Np y):gT [gN i,gN j] (.tuple [a,b]) ρ=.ok ((ρ.set i (.val a)).set j (.val b)):=by
 show(gN i a ρ).bind _=_
 rw [gW hx nx,ah]
 show(gN j b _).bind _=_
 rw [gW hy ny];rfl
theorem j5{i k:Nat}{c:D}{z:Sl}(hx:ρ[i]?=some x)(nx:Np x)(hy:(ρ.set i (.val a))[j]?=some y)(ny:Np y)(hz:((ρ.set i (.val a)).set j (.val b))[k]?=some z)(nz:Np z):gT [gN i,gN j,gN k] (.tuple [a,b,c]) ρ=.ok (((ρ.set i (.val a)).set j (.val b)).set k (.val c)):=by
 show(gN i a ρ).bind _=_
 rw [gW hx nx,ah]
 show(gN j b _).bind _=_
 rw [gW hy ny,ah]
 show(gN k c _).bind _=_
 rw [gW hz nz];rfl
theorem zio(h0:0<=i)(h1:i<c):tU [.int i,.int c]=.ok (.bool true):=by
 have wh:nv [.int i]=.ok (.bool true):=rfl
 simp only [tU,zaI,FL.run,aN,slots,outs,outD,AB,AR,A9,ax,av,aG,ay,sE,aL,bH,eG,dN,cT,f9,jC,cu,jA,jB,dA,eC,eV,FL.e1,FL.e2,d9,jf,gC,ee,dF,af,aa,aP,bQ,au,fE,dW,dX,eS,aZ,bP,m1,m2,fj,jo,js,jr,tE,tB,FL.eJ,FL.bw,FL.bu,tM,cV,gN,gT,eU,gh,jD,setM,bW,fI,ah,i6,i7,zz0,zz1,Bp,Bq,A1,Bm,Cr,CN,A6,if_false,if_true,Cb,Ci,Bu,reduceCtorEq,aC,cU,aq,fO,cH,dB,fK,fq,bA,dP,dt,gB,dg,bR,cf,A2,CO,b6,back,BI,Cy,Cz,AQ,BW,CP,CQ,CU,Cp,bM,iE,gH,BQ,CF,iD,gn,fc,jd,jq,e3,dI,ja,jz,cQ,gG,iu,ko,wh,yI,rW,decide_eq_true h0,decide_eq_true h1]
theorem zoD{j:Int}(he:e.1=[i,j])(h0:0<=i)(h1:i<j)(h2:j<c):t5 [bC e,.int c]=.ok (.bool true):=by
 have hl:bC e=.tuple [.int i,.int j,rL e.2]:=by unfold bC;rw [he];rfl
 rw [hl]
 have t1:hW "tuple" (.tuple [.int i,.int j,rL e.2])=.ok (.bool true):=rfl
 have t3:cg (.int ((0+1+1+1:Nat):Int)) (.int 3)=.ok (.bool false):=rfl
 have w1:=zio (i:=i) (c:=c) h0 (by lia)
 have w2:=zio (i:=j) (c:=c) (by lia) h2
 simp only [t5,zaM,FL.run,aN,slots,outs,outD,AB,AR,A9,ax,av,aG,ay,sE,aL,bH,eG,dN,cT,f9,jC,cu,jA,jB,dA,eC,eV,FL.e1,FL.e2,d9,jf,gC,ee,dF,af,aa,aP,bQ,au,fE,dW,dX,eS,aZ,bP,m1,m2,fj,jo,js,jr,tE,tB,FL.eJ,FL.bw,FL.bu,tM,cV,gN,gT,eU,gh,jD,setM,bW,fI,ah,i6,i7,zz0,zz1,Bp,Bq,A1,Bm,Cr,CN,A6,if_false,if_true,Cb,Ci,Bu,reduceCtorEq,aC,cU,aq,fO,cH,dB,fK,fq,bA,dP,dt,gB,dg,bR,cf,A2,CO,b6,back,BI,Cy,Cz,AQ,BW,CP,CQ,CU,Cp,bM,iE,gH,BQ,CF,iD,gn,fc,jd,jq,e3,dI,ja,jz,cQ,gG,iu,ko,t1,t3,w1,w2,rW,decide_eq_true h1]
theorem zda(xs:List Rat):fq (rL xs)=.ok (rT xs):=rfl
theorem zpr(h:df c t)(c0:0<=c)(c6:c<=6)(hl:t.length<=60):wH [.int c,.list (t.map bC)]=.ok (gd rT t):=by
 generalize hLL:Dq (t.map bC)=LL
 have L:=iJ (f:=fun q:(List Int×List Rat)×Nat=>.tuple [.int q.2,bC q.1]) (g:=gT [gN 3,gN 4]) (b:=zX)
  (fun done ρ=>∃(y3 y4 y5 y6 y7:Sl),Np y3/\Np y4/\Np y5/\Np y6/\Np y7/\ρ=[.val (.int c),.val LL,.ow false (gd rT (done.map (·.1))),y3,y4,y5,y6,y7])
  (t.zipIdx 0) [] [.val (.int c),.val LL,.ow false (gd rT []),.no,.no,.no,.no,.no] ⟨_,_,_,_,_,bg,bg,bg,bg,bg,rfl⟩ (by
   rintro pre ⟨e,n⟩ post ρ he ⟨y3,y4,y5,y6,y7,n3,n4,n5,n6,n7,rfl⟩
   rw [A1] at he
   have ht:t=pre.map (·.1)++e::post.map (·.1):=by
    have:=congrArg (List.map (·.1)) he
    simpa using this
   generalize hpm:pre.map (·.1)=pm at ht ⊢
   have em:e∈t:=by rw [ht];simp
   obtain⟨i,j,gk,i0,ij,jc⟩:=h.ky e em
   have rl:=h.rw e em
   have fr:kM pm [i,j]=none:=zfu fun p hp z=>by
    have nk:=h.nk
    unfold Gk at nk
    rw [ht,BZ,Ft] at nk
    exact nk.2.2 p.1 (CV hp) e.1 (CV (Bc ..)) (by rw [z,gk])
   have yu:bC e=.tuple [.int i,.int j,rL e.2]:=by unfold bC;rw [gk];rfl
   have nm:=zoD (c:=c) gk i0 ij jc
   have ro:=zb1 (xs:=e.2) (n:=c+1) rl (by lia)
   have g1:gT [gN 3,gN 4] (.tuple [.int n,bC e]) [.val (.int c),.val LL,.ow false (gd rT pm),y3,y4,y5,y6,y7]=.ok [.val (.int c),.val LL,.ow false (gd rT pm),.val (.int n),.val (bC e),y5,y6,y7]:=gX rfl n3 rfl n4
   have g2:gT [gN 5,gN 6,gN 7] (.tuple [.int i,.int j,rL e.2]) [.val (.int c),.val LL,.ow false (gd rT pm),.val (.int n),.val (bC e),y5,y6,y7]=.ok [.val (.int c),.val LL,.ow false (gd rT pm),.val (.int n),.val (bC e),.val (.int i),.val (.int j),.val (rL e.2)]:=j5 rfl n5 rfl n6 rfl n7
   have b1:aG (FL.bu (tE (au t5 (aa (eV 4) (aa (eV 0) af))))) dA aL [.val (.int c),.val LL,.ow false (gd rT pm),.val (.int n),.val (bC e),y5,y6,y7]=.ok (.nx,[.val (.int c),.val LL,.ow false (gd rT pm),.val (.int n),.val (bC e),y5,y6,y7]):=by
    simp only [FL.run,aN,slots,outs,outD,AB,AR,A9,ax,av,aG,ay,sE,aL,bH,eG,dN,cT,f9,jC,cu,jA,jB,dA,eC,eV,FL.e1,FL.e2,d9,jf,gC,ee,dF,af,aa,aP,bQ,au,fE,dW,dX,eS,aZ,bP,m1,m2,fj,jo,js,jr,tE,tB,FL.eJ,FL.bw,FL.bu,tM,cV,gN,gT,eU,gh,jD,setM,bW,fI,ah,i6,i7,zz0,zz1,Bp,Bq,A1,Bm,Cr,CN,A6,if_false,if_true,Cb,Ci,Bu,reduceCtorEq,aC,cU,aq,fO,cH,dB,fK,fq,bA,dP,dt,gB,dg,bR,cf,A2,CO,b6,back,BI,Cy,Cz,AQ,BW,CP,CQ,CU,Cp,bM,iE,gH,BQ,CF,iD,gn,fc,jd,jq,e3,dI,ja,jz,cQ,gG,iu,ko,nm]
   have b2:ay (gT [gN 5,gN 6,gN 7]) (eV 4) [.val (.int c),.val LL,.ow false (gd rT pm),.val (.int n),.val (bC e),y5,y6,y7]=.ok (.nx,[.val (.int c),.val LL,.ow false (gd rT pm),.val (.int n),.val (bC e),.val (.int i),.val (.int j),.val (rL e.2)]):=by
    unfold ay
    show(gT [gN 5,gN 6,gN 7] (bC e) _).bind _=_
    rw [show gT [gN 5,gN 6,gN 7] (bC e)=gT [gN 5,gN 6,gN 7] (.tuple [.int i,.int j,rL e.2]) by rw [yu],g2]
    rfl
   have ii:inD (.tuple [.int i,.int j]) (gd rT pm)=.ok (.bool false):=by
    have:=zfK rT pm [i,j]
    rw [fr] at this
    exact this
   have l2:leB 2 lim=true:=by decide
   have b3:aG (tB (fj inD (aP (aa (eV 5) (aa (eV 6) af))) 2)) dA aL [.val (.int c),.val LL,.ow false (gd rT pm),.val (.int n),.val (bC e),.val (.int i),.val (.int j),.val (rL e.2)]=.ok (.nx,[.val (.int c),.val LL,.ow false (gd rT pm),.val (.int n),.val (bC e),.val (.int i),.val (.int j),.val (rL e.2)]):=by
    simp only [FL.run,aN,slots,outs,outD,AB,AR,A9,ax,av,aG,ay,sE,aL,bH,eG,dN,cT,f9,jC,cu,jA,jB,dA,eC,eV,FL.e1,FL.e2,d9,jf,gC,ee,dF,af,aa,aP,bQ,au,fE,dW,dX,eS,aZ,bP,m1,m2,fj,jo,js,jr,tE,tB,FL.eJ,FL.bw,FL.bu,tM,cV,gN,gT,eU,gh,jD,setM,bW,fI,ah,i6,i7,zz0,zz1,Bp,Bq,A1,Bm,Cr,CN,A6,if_false,if_true,Cb,Ci,Bu,reduceCtorEq,aC,cU,aq,fO,cH,dB,fK,fq,bA,dP,dt,gB,dg,bR,cf,A2,CO,b6,back,BI,Cy,Cz,AQ,BW,CP,CQ,CU,Cp,bM,iE,gH,BQ,CF,iD,gn,fc,jd,jq,e3,dI,ja,jz,cQ,gG,iu,ko,aF,l2,ii]
   have b4:aG (FL.bu (tE (au qO (aa (eV 7) (aa (e2 aC (eV 0) (eC (.int 1))) af))))) dA aL [.val (.int c),.val LL,.ow false (gd rT pm),.val (.int n),.val (bC e),.val (.int i),.val (.int j),.val (rL e.2)]=.ok (.nx,[.val (.int c),.val LL,.ow false (gd rT pm),.val (.int n),.val (bC e),.val (.int i),.val (.int j),.val (rL e.2)]):=by
    simp only [FL.run,aN,slots,outs,outD,AB,AR,A9,ax,av,aG,ay,sE,aL,bH,eG,dN,cT,f9,jC,cu,jA,jB,dA,eC,eV,FL.e1,FL.e2,d9,jf,gC,ee,dF,af,aa,aP,bQ,au,fE,dW,dX,eS,aZ,bP,m1,m2,fj,jo,js,jr,tE,tB,FL.eJ,FL.bw,FL.bu,tM,cV,gN,gT,eU,gh,jD,setM,bW,fI,ah,i6,i7,zz0,zz1,Bp,Bq,A1,Bm,Cr,CN,A6,if_false,if_true,Cb,Ci,Bu,reduceCtorEq,aC,cU,aq,fO,cH,dB,fK,fq,bA,dP,dt,gB,dg,bR,cf,A2,CO,b6,back,BI,Cy,Cz,AQ,BW,CP,CQ,CU,Cp,bM,iE,gH,BQ,CF,iD,gn,fc,jd,jq,e3,dI,ja,jz,cQ,gG,iu,ko,ro]
   have dp:mK (gd rT pm) (.tuple [.int i,.int j]) (rT e.2)=.ok (gd rT (ji pm [i,j] e.2)):=xZ (w:=[i,j]) (Bj (show _<=200 by
    have:=congrArg DC ht
    rw [BH] at this
    lia) (by decide))
   have b5:dI 2 (aP (aa (eV 5) (aa (eV 6) af))) (e1 fq (eV 7)) [.val (.int c),.val LL,.ow false (gd rT pm),.val (.int n),.val (bC e),.val (.int i),.val (.int j),.val (rL e.2)]=.ok (.nx,[.val (.int c),.val LL,.ow false (gd rT (pm++[e])),.val (.int n),.val (bC e),.val (.int i),.val (.int j),.val (rL e.2)]):=by
    have pn:ji pm [i,j] e.2=pm++[e]:=by
     rw [zbA fun p hp z=>?_,<- gk]
     have:=kN (s:=t) h.nk (p:=p) (by rw [ht];exact D7 _ hp)
     have nk:=h.nk
     unfold Gk at nk
     rw [ht,BZ,Ft] at nk
     exact nk.2.2 p.1 (CV hp) e.1 (CV (Bc ..)) (by rw [z,gk])
    rw [pn] at dp
    have tr:=zda e.2
    generalize rL e.2=R7 at tr ⊢
    simp only [dI,FL.e1,aZ,aP,aa,af,eV,zz1,zz0,ah,aF,l2,if_true,AR,A9,Bu,tr,dp,bW,Bq,Bp]
   refine⟨[.val (.int c),.val LL,.ow false (gd rT (pm++[e])),.val (.int n),.val (bC e),.val (.int i),.val (.int j),.val (rL e.2)],.nx,?_,.inl rfl,_,_,_,_,_,bF _,bF _,bF _,bF _,bF _,by rw [BZ,hpm];rfl⟩
   rw [g1,ah]
   unfold zX
   rw [aO b1,aO b2,aO b3,aO b4,b5])
 obtain⟨ρ',e,y3,y4,y5,y6,y7,_,_,_,_,_,rfl⟩:=L
 refine zA (ρ:=[.val (.int c),.val LL,.ow false (gd rT t),y3,y4,y5,y6,y7]) rfl ?_
 show xD [.val (.int c),.val LL,.no,.no,.no,.no,.no,.no]=_
 have s1:bH 2 fc [.val (.int c),.val LL,.no,.no,.no,.no,.no,.no]=.ok (.nx,[.val (.int c),.val LL,.ow false (gd rT []),.no,.no,.no,.no,.no]):=rfl
 have s2:Aj [.val (.int c),.val LL,.ow false (gd rT []),.no,.no,.no,.no,.no]=.ok (.nx,[.val (.int c),.val LL,.ow false (gd rT t),y3,y4,y5,y6,y7]):=by
  unfold Aj bM
  have hi:vi (aa (eV 1) af) [.val (.int c),.val LL,.ow false (gd rT []),.no,.no,.no,.no,.no]=.ok ((t.zipIdx 0).map fun q=>.tuple [.int q.2,bC q.1],[.val (.int c),.val LL,.ow false (gd rT []),.no,.no,.no,.no,.no]):=by
   rw [<- nO,<- hLL];rfl
  rw [hi,ah,e]
  simp
 unfold xD
 rw [aO s1,aO s2]
 rfl
theorem qC(h:df c t)(c1:1<=c)(c6:c<=6)(hl:t.length<=60):∃ t':Tb,St t t'/\tP [.int c,.list (t.map bC)]=.ok (.tuple [.int c,.tuple ((fe t').map aS)]):=by
 obtain⟨t',ht',hs⟩:=we (t:=t) (d:=gd rT t) (h:=fun e=>tp e.1) (by show R.ok ((t.map fun p=>(tp p.1,rT p.2)).map (·.1))=_;rw [Bz];rfl) (fun e m=>by obtain⟨i,j,eq,_⟩:=h.ky e m;unfold hZ;rw [eq];rfl) h.nd hl
 refine⟨t',ht',?_⟩
 have hp:=ht'.pm
 have h':=h.perm hp
 have pr:=zpr h (by lia) c6 hl
 generalize Dq (t.map bC)=LL at pr ⊢
 have q:vW [.no,.val (.int c),.val LL,.val (gd rT t)]=.ok (.list ((fe t').map aS),[.no,.val (.int c),.val LL,.val (gd rT t)]):=by
  unfold vW dJ
  have it:iE (e1 jV (eV 3)) [.no,.val (.int c),.val LL,.val (gd rT t)]=.ok (t'.map fun e=>tp e.1,[.no,.val (.int c),.val LL,.val (gd rT t)]):=by
   simp only [iE,FL.e1,eV,zz1,zz0,ah,hs,gH]
  rw [it,ah]
  have key:∀(u:Tb) (acc:List D),(∀ e∈u,e∈t')->acc.length+u.length<=60->gQ 2 [3] (gT [gN 0,gN 1]) (FL.bu (tE (au tR (aa (e2 fC (eV 2) (aP (aa (eV 0) (aa (eV 1) af)))) af)))) (aP (aa (eV 0) (aa (eV 1) (aa (e2 fC (eV 2) (aP (aa (eV 0) (aa (eV 1) af)))) af)))) (u.map fun e=>tp e.1) [.no,.val (.int c),.val LL,.val (gd rT t)] acc=.ok (acc++(fe u).map aS,[.no,.val (.int c),.val LL,.val (gd rT t)]):=by
   intro u
   induction u with
   | nil=>intro acc _ _;simp [gQ,fe]
   | cons e u ih =>
    intro acc hu hac
    have em:=hu e (Bc ..)
    obtain⟨i,j,gk,i0,ij,jc⟩:=h'.ky e em
    have rl:=h'.rw e em
    rw [AR] at hac
    have dx:fC (gd rT t) (.tuple [.int i,.int j])=.ok (rT e.2):=by
     have:=kN h.nk (hp.subset em)
     rw [gk] at this
     exact uD (f:=rT) this
    have no:=zoN e.2 (by lia)
    have l2:leB 2 lim=true:=by decide
    have l3:leB 3 lim=true:=by decide
    have hg:gT [gN 0,gN 1] (tp e.1) (b6 2 [3] [.no,.val (.int c),.val LL,.val (gd rT t)])=.ok [.val (.int i),.val (.int j),.val (gd rT t)]:=by rw [gk];rfl
    have ht:(FL.bu (tE (au tR (aa (e2 fC (eV 2) (aP (aa (eV 0) (aa (eV 1) af)))) af)))) [.val (.int i),.val (.int j),.val (gd rT t)]=.ok (!(e.2.all fun x=>decide (x=0)),[.val (.int i),.val (.int j),.val (gd rT t)]):=by
     simp only [FL.bu,tE,au,aa,af,FL.e2,aP,eV,zz1,zz0,ah,aF,l2,if_true,AR,A9,Bu,dx,no,dB]
    have hf:(aP (aa (eV 0) (aa (eV 1) (aa (e2 fC (eV 2) (aP (aa (eV 0) (aa (eV 1) af)))) af)))) [.val (.int i),.val (.int j),.val (gd rT t)]=.ok (aS e,[.val (.int i),.val (.int j),.val (gd rT t)]):=by
     have:aS e=.tuple [.int i,.int j,rT e.2]:=by unfold aS;rw [gk];rfl
     rw [this]
     simp only [aa,af,FL.e2,aP,eV,zz1,zz0,ah,aF,l2,l3,if_true,AR,A9,Bu,dx]
    have hb:back [.no,.val (.int c),.val LL,.val (gd rT t)] [3] (([.val (.int i),.val (.int j),.val (gd rT t)]:En).drop 2)=[.no,.val (.int c),.val LL,.val (gd rT t)]:=mF trivial
    rw [AQ]
    unfold gQ
    rw [hg,ah,ht,ah]
    have hu':∀ e∈u,e∈t':=fun x m=>hu x (Be _ m)
    cases cz:(e.2.all fun x=>decide (x=0)) with
    | true =>
     rw [if_neg (by simp),hb,ih acc hu' (by lia)]
     unfold fe
     rw [GR (by simp [cz])]
    | false =>
     rw [if_pos (by simp),hf,ah,aW (ib (Bj (show _<=200 by lia) (by decide))),hb,ih _ hu' (by simp;lia)]
     unfold fe
     rw [GU (by simp [cz])]
     simp
  rw [key t' [] (fun _ m=>m) (by simpa using (by rw [hp.length_eq];exact hl))]
  rfl
 have wh:nv [.int c]=.ok (.bool true):=rfl
 have b1:aG (FL.bw (FL.bu (tE (au nv (aa (eV 1) af)))) (FL.bu (tB (dF fg fg (eC (.int 1)) (eV 1) (eC (.int 6)))))) dA aL [.no,.val (.int c),.val LL,.no]=.ok (.nx,[.no,.val (.int c),.val LL,.no]):=by
  simp only [FL.run,aN,slots,outs,outD,AB,AR,A9,ax,av,aG,ay,sE,aL,bH,eG,dN,cT,f9,jC,cu,jA,jB,dA,eC,eV,FL.e1,FL.e2,d9,jf,gC,ee,dF,af,aa,aP,bQ,au,fE,dW,dX,eS,aZ,bP,m1,m2,fj,jo,js,jr,tE,tB,FL.eJ,FL.bw,FL.bu,tM,cV,gN,gT,eU,gh,jD,setM,bW,fI,ah,i6,i7,zz0,zz1,Bp,Bq,A1,Bm,Cr,CN,A6,if_false,if_true,Cb,Ci,Bu,reduceCtorEq,aC,cU,aq,fO,cH,dB,fK,fq,bA,dP,dt,gB,dg,bR,cf,A2,CO,b6,back,BI,Cy,Cz,AQ,BW,CP,CQ,CU,Cp,bM,iE,gH,BQ,CF,iD,gn,fc,jd,jq,e3,dI,ja,jz,cQ,gG,iu,ko,wh,yI,decide_eq_true c1,decide_eq_true c6]
 have b2:ay (gN 3) (au wH (aa (eV 1) (aa (eV 2) af))) [.no,.val (.int c),.val LL,.no]=.ok (.nx,[.no,.val (.int c),.val LL,.val (gd rT t)]):=by
  simp only [FL.run,aN,slots,outs,outD,AB,AR,A9,ax,av,aG,ay,sE,aL,bH,eG,dN,cT,f9,jC,cu,jA,jB,dA,eC,eV,FL.e1,FL.e2,d9,jf,gC,ee,dF,af,aa,aP,bQ,au,fE,dW,dX,eS,aZ,bP,m1,m2,fj,jo,js,jr,tE,tB,FL.eJ,FL.bw,FL.bu,tM,cV,gN,gT,eU,gh,jD,setM,bW,fI,ah,i6,i7,zz0,zz1,Bp,Bq,A1,Bm,Cr,CN,A6,if_false,if_true,Cb,Ci,Bu,reduceCtorEq,aC,cU,aq,fO,cH,dB,fK,fq,bA,dP,dt,gB,dg,bR,cf,A2,CO,b6,back,BI,Cy,Cz,AQ,BW,CP,CQ,CU,Cp,bM,iE,gH,BQ,CF,iD,gn,fc,jd,jq,e3,dI,ja,jz,cQ,gG,iu,ko,pr]
 show(xg [.no,.val (.int c),.val LL,.no]).bind _=_
 unfold xg zB
 rw [b1,ah]
 show((ay _ _ _).bind _).bind _=_
 rw [b2,ah]
 have tq:e1 fq vW [.no,.val (.int c),.val LL,.val (gd rT t)]=.ok (.tuple ((fe t').map aS),[.no,.val (.int c),.val LL,.val (gd rT t)]):=by
  unfold FL.e1
  rw [q];rfl
 simp only [aa,af,eV,zz1,zz0,ah,tq]
 rfl
end
variable {t:TF}{ρ1:En}{l:List D}{b:SF}
section
theorem fW(h0:0<=i)(h:l[i.toNat]?=some d):aq (.list l) (.int i)=.ok d:=by
 have hl:i.toNat<l.length:=(By.mp h).1
 show R.of (cJ l i)=_
 unfold cJ dU
 rw [if_pos h0,if_pos (by lia)]
 show R.of (l[i.toNat]?)=_
 rw [h];rfl
theorem vE(s:Rat):num (-s)=.tuple [.int (-s.num),.int (s.den:Int)]:=by
 unfold num
 rw [Rat.neg_num,Rat.neg_den]
theorem rh(h:QR.Bd n s):QR.Bd n (-s):=⟨by rw [Rat.neg_num,Int.natAbs_neg];exact h.1,by rw [Rat.neg_den];exact h.2⟩
theorem zcc(hr:QR.Bd n r)(hs:QR.Bd n s)(hn:n<=40000000):tZ [num r,num s]=.ok (num (r-s)):=by
 have h:=zb hr (rh hs) hn
 rw [<- Ii,vE] at h
 refine e7 (ρ:=[.val (num r),.val (num s)]) rfl ?_
 show xx [.val (num r),.val (num s)]=_
 have x0:aq (num s) (.int 0)=.ok (.int s.num):=rfl
 have x1:aq (num s) (.int 1)=.ok (.int (s.den:Int)):=rfl
 have l2:leB 2 lim=true:=by decide
 unfold xx
 simp only [ax,au,aa,af,aP,FL.e1,FL.e2,eV,eC,sd,zz1,zz0,ah,x0,x1,aF,l2,if_true,AR,A9,Bu,h]
theorem tH:∀(xs ys:List Rat),eO (xs.map num) (ys.map num)=(xs.zip ys).map fun q=>.tuple [num q.1,num q.2]
 | [],_=>by simp [eO]
 | _::_,[]=>by simp [eO]
 | x::xs,y::ys=>by simp only [AQ,eO,BI,tH xs ys]
theorem zrM{a b:List Rat}{n:Int}(ha:(a.length:Int)=n)(hb:(b.length:Int)=n)(hn:n<=1000):t7 [.list [rL a,rL b],.int n]=.ok .none:=by
 have ra:=zb1 (xs:=a) (n:=n) ha (by lia)
 have rb:=zb1 (xs:=b) (n:=n) hb (by lia)
 refine zrX (ρ:=[.val (.list [rL a,rL b]),.val (.int n),.val (.int 1),.val (rL b)]) rfl ?_
 show Ai [.val (.list [rL a,rL b]),.val (.int n),.no,.no]=_
 have h:∀(x:List Rat) (k:Int) (y2 y3:Sl),Np y2->Np y3->qO [rL x,.int n]=.ok (.bool true)->(gT [gN 2,gN 3] (.tuple [.int k,rL x]) [.val (.list [rL a,rL b]),.val (.int n),y2,y3]).bind qF=.ok (.nx,[.val (.list [rL a,rL b]),.val (.int n),.val (.int k),.val (rL x)]):=fun x k y2 y3 n2 n3 hx=>by
  rw [gX rfl n2 rfl n3,ah]
  unfold qF
  simp only [Bq,Bp,aG,FL.bu,tE,au,aa,af,eV,zz1,zz0,ah,hx,dB,BQ,A6,if_false,aL]
 unfold Ai bM
 rw [show vi (aa (eV 0) af) [.val (.list [rL a,rL b]),.val (.int n),.no,.no]=.ok ([.tuple [.int 0,rL a],.tuple [.int 1,rL b]],[.val (.list [rL a,rL b]),.val (.int n),.no,.no]) from rfl,ah]
 have L:=fun ρ1 ρ2 ρ3 (h1:(gT [gN 2,gN 3] (.tuple [.int 0,rL a]) ρ1).bind qF=.ok (.nx,ρ2)) (h2:(gT [gN 2,gN 3] (.tuple [.int 1,rL b]) ρ2).bind qF=.ok (.nx,ρ3))=>(show forL (gT [gN 2,gN 3]) qF [.tuple [.int 0,rL a],.tuple [.int 1,rL b]] ρ1=.ok (.nx,ρ3) by
  obtain⟨z1,e1,h1⟩:=@bZ xU _ _ _ _ _ h1
  obtain⟨z2,e2,h2⟩:=@bZ xU _ _ _ _ _ h2
  simp only [forL,e1,ah,h1,e2,h2])
 exact L _ _ _ (h a 0 .no .no bg bg ra) (h b 1 _ _ (bF _) (bF _) rb)
noncomputable def aQ(n:Nat):List Rat:=AB n 0
theorem zcF(r:Rat):Pl 1 (num r):=vJ fun d h=>by
 simp only [AX,B1,or_false] at h
 rcases h with rfl|rfl <;> exact lR _
theorem zhc(xs:List Rat):Pl 2 (rL xs):=zcE fun d h=>by
 obtain⟨r,_,rfl⟩:=A7.mp h
 exact zcF r
theorem zcq(h:Pl n a)(hn:n<=64:=by decide):cg a a=.ok (.bool false):=by
 rw [yR h h hn hn,SeqAt.eqv_refl a h.1];rfl
theorem lV{a:SF}(h:t ρ=.ok (true,ρ1)):aG t a b ρ=a ρ1:=by
 unfold aG
 rw [h];rfl
theorem gu{a:SF}(h:t ρ=.ok (false,ρ1)):aG t a b ρ=b ρ1:=by
 unfold aG
 rw [h];rfl
theorem mG{d d':D}{p p':Bool}:∀(ρ:En) (n i:Nat),ρ[i]?=some (.ow p d)->bR [(n+i,.ow p' d')] n ρ=ρ.set i (.ow p d')
 | [],n,i,h=>by simp at h
 | x::r,n,0,h=>by
  simp only [zz0,B7] at h
  subst h
  unfold bR
  rw [Bp]
  congr 1
  ·simp [cf,A2]
  ·refine zaV r (n+1) (by lia)
 | x::r,n,i+1,h=>by
  unfold bR
  rw [Bq,show n+(i+1)=(n+1)+i by lia,mG r (n+1) i (by simpa using h)]
  congr 1
  refine zaS ?_
  rw [A2]
  have:(n==n+1+i)=false:=by simp;lia
  rw [this]
  rfl
end
end K08
namespace K77
open PySem FL FV
open K08 (zcu zb wm Tb df St we bC aS fe gX j5 fW zcc tH aQ vE rh)
variable {ρ ρ1:En}{a b:List Rat}{w:Rat}{d:D}{f:EF}{g:R En}{i n:Nat}{x:Sl}{u:SF}{r:R (Fl×En)}
section
theorem zD(hf:f ρ=.ok (d,ρ))(h:ρ[i]?=some x)(n:Np x):ay (gN i) f ρ=.ok (.nx,ρ.set i (.val d)):=iy (y:=(d,ρ)) hf h n
theorem gO(h:g=.ok ρ1)(k:u ρ1=r):g.bind u=r:=by rw [h];exact k
theorem ztn{xs ys:List Rat}(hl:xs.length<=1000)(hx:∀ x∈xs,QR.Bd n x)(hy:∀ y∈ys,QR.Bd n y)(hw:QR.Bd n w)(hn:n<=10000)(he:xs.length=ys.length):wI [rL xs,num w,rT ys]=.ok (rL ((xs.zip ys).map fun q=>q.1+w*q.2)):=by
 have e0:=yW w 0
 rw [<- yV] at e0
 by_cases c:w=0
 ·subst c
  rw [decide_eq_true rfl] at e0
  have hz:(xs.zip ys).map (fun q=>q.1+0*q.2)=xs:=by
   have:(fun q:Rat×Rat=>q.1+0*q.2)=Prod.fst:=by funext q;rw [Rat.zero_mul,Ij]
   rw [this]
   exact List.map_fst_zip (by lia)
  rw [hz]
  refine zA (ρ:=[.val (rL xs),.val (num 0),.val (rT ys)]) rfl ?_
  show rg [.val (rL xs),.val (num 0),.val (rT ys)]=_
  have li:fK (rL xs)=.ok (rL xs):=rfl
  unfold rg
  simp only [av,aG,tB,FL.e1,FL.e2,eV,eC,zz1,zz0,ah,e0,if_true,cT,li]
 ·rw [decide_eq_false c] at e0
  refine zA (ρ:=[.val (rL xs),.val (num w),.val (rT ys)]) rfl ?_
  show rg [.val (rL xs),.val (num w),.val (rT ys)]=_
  have q:zu [.val (rL xs),.val (num w),.val (rT ys)]=.ok (rL ((xs.zip ys).map fun q=>q.1+w*q.2),[.val (rL xs),.val (num w),.val (rT ys)]):=by
   unfold zu rL
   rw [Bz]
   refine mL (f0:=fun q:Rat×Rat=>.tuple [num q.1,num q.2]) (xs:=xs.zip ys) (fun q=>num (q.1+w*q.2)) ?_ (by rw [DZ];show _<=1000000;lia) fun q mq=>?_
   ·rw [<- tH];rfl
   ·have m1:=Ea (a:=q.1) (b:=q.2) mq
    refine⟨[.val (num q.1),.val (num q.2),.val (num w)],rfl,?_,mF trivial⟩
    have kJ:=yW q.2 0
    rw [<- yV] at kJ
    have t1:lE [num w,num q.2]=_:=wm hw (hy _ m1.2) (by lia)
    have p1:t6 [num q.1,num (w*q.2)]=_:=zb ((hx _ m1.1).mono (show n<=n+n by lia)) (hw.mul (hy _ m1.2)) (by lia)
    by_cases cq:q.2=0
    ·rw [decide_eq_true cq] at kJ
     have:q.1+w*q.2=q.1:=by rw [cq,Rat.mul_zero,Ij]
     rw [this]
     simp only [ee,tB,FL.e2,eV,eC,zz1,zz0,ah,kJ,if_true]
    ·rw [decide_eq_false cq] at kJ
     simp only [ee,tB,FL.e2,eV,eC,au,aa,af,zz1,zz0,ah,kJ,if_false,A6,t1,p1]
  unfold rg
  simp only [av,aG,tB,FL.e2,eV,eC,zz1,zz0,ah,e0,if_false,A6,aL,cT,q]
noncomputable def dC(a b:List Rat)(w:List Int):Rat:=a.getD (w.getD 0 0).toNat 0*b.getD (w.getD 1 0).toNat 0-a.getD (w.getD 1 0).toNat 0*b.getD (w.getD 0 0).toNat 0
noncomputable def jZ(s:List Rat)(w:Rat)(r:List Rat):List Rat:=(s.zip r).map fun q=>q.1+w*q.2
def cy(n:Nat)(a b:List Rat)(t:Tb):List Rat:=t.foldl (fun s e=>jZ s (dC a b e.1) e.2) (aQ n)
theorem zgg(n:Nat)(a b:List Rat)(t:Tb)(e:List Int×List Rat):cy n a b (t++[e])=jZ (cy n a b t) (dC a b e.1) e.2:=by unfold cy;rw [List.foldl_append];rfl
theorem zgf{c:Int}:∀(t:Tb),(∀ e∈t,e.2.length=n)->(cy n a b t).length=n:=by
 intro t
 unfold cy
 have:∀(t:Tb) (s:List Rat),s.length=n->(∀ e∈t,e.2.length=n)->(t.foldl (fun s e=>jZ s (dC a b e.1) e.2) s).length=n:=by
  intro t
  induction t with
  | nil=>exact fun s h _=>h
  | cons e t ih=>exact fun s h k=>ih _ (by unfold jZ;rw [AW,DZ,h,k e (Bc ..),EK]) fun x m=>k x (Be _ m)
 exact this t _ (by unfold aQ;rw [DR])
theorem qY{b:Nat}(h:∀ x∈a,QR.Bd (b+1) x)(i:Nat):QR.Bd (b+1) (a.getD i 0):=by
 rw [Dt]
 cases e:a[i]? with
 | none=>exact⟨Ig (by simp),by show 1<2^(b+1);exact Nat.one_lt_two_pow (by lia)⟩
 | some x=>exact h x (Ck e)
theorem Ak(ha:∀ x∈a,QR.Bd 70 x)(hb:∀ x∈b,QR.Bd 70 x)(w:List Int):QR.Bd 281 (dC a b w):=by
 unfold dC
 rw [Ii]
 exact((qY (b:=69) ha _).mul (qY (b:=69) hb _)).add (rh ((qY (b:=69) ha _).mul (qY (b:=69) hb _)))
theorem zge{n:Nat}(ha:∀ x∈a,QR.Bd 70 x)(hb:∀ x∈b,QR.Bd 70 x):∀(t:Tb) (s:List Rat) (m:Nat),(∀ x∈s,QR.Bd (m+1) x)->(∀ e∈t,∀ x∈e.2,QR.Bd 70 x)->∀ x∈t.foldl (fun s e=>jZ s (dC a b e.1) e.2) s,QR.Bd (m+1+352*t.length) x:=by
 intro t
 induction t with
 | nil=>exact fun s m h _ x hx=>h x hx
 | cons e t ih =>
  intro s m h k x hx
  have:=ih (jZ s (dC a b e.1) e.2) (m+352) (fun y hy=>?_) (fun e' me=>k e' (Be _ me)) x hx
  ·exact this.mono (by rw [AR];lia)
  ·unfold jZ at hy
   obtain⟨q,mq,rfl⟩:=A7.mp hy
   have m1:=Ea (a:=q.1) (b:=q.2) mq
   exact((h _ m1.1).add ((Ak ha hb e.1).mul (k e (Bc ..) _ m1.2))).mono (by lia)
end
variable {c:Int}{t:Tb}
section
theorem zhG(hf:f ρ=.ok (d,ρ))(h:ρ[i]?=some x)(n:Np x):bH i f ρ=.ok (.nx,ρ.set i (.ow false d)):=qw (y:=(d,ρ)) hf h n
abbrev LE(c:Int)(T A B:D)(y3 y4 y5 y6 y7:Sl):En:=[.ob "Table" [.int c,T],.val A,.val B,y3,y4,y5,y6,y7]
theorem oC{i:Int}(h0:0<=i)(h:i.toNat<a.length):aq (rL a) (.int i)=.ok (num (a.getD i.toNat 0)):=by
 refine fW h0 ?_
 rw [BV,Bo h,Dt,Bo h]
 rfl
theorem zn1(h:df c t)(ht:t.length<=20)(hb:∀ e∈t,∀ x∈e.2,QR.Bd 70 x)(hn:(n:Int)=c+1)(c0:0<=c)(c6:c<=6)(la:a.length=n)(lb:b.length=n)(ba:∀ x∈a,QR.Bd 70 x)(bb:∀ x∈b,QR.Bd 70 x) :
  wz [.tuple [.int c,.tuple (t.map aS)],rL a,rL b]=.ok (rL (cy n a b t)):=by
 generalize hA:rL a=A
 generalize hB:rL b=B
 generalize hT:Fs (t.map aS)=T
 have ad:aC (.int c) (.int 1)=.ok (.int (c+1)):=rfl
 have rf:t7 [.list [A,B],.int (c+1)]=.ok .none:=by
  rw [<- hA,<- hB]
  exact K08.zrM (by lia) (by lia) (by lia)
 have l2:leB 2 lim=true:=by decide
 have s1:sE (au t7 (aa (bQ (aa (eV 1) (aa (eV 2) af))) (aa (e2 aC (iI 0 "Table" 0) (eC (.int 1))) af))) (LE c T A B .no .no .no .no .no)=.ok (.nx,LE c T A B .no .no .no .no .no):=by
  have f0:iI 0 "Table" 0 (LE c T A B .no .no .no .no .no)=.ok (.int c,LE c T A B .no .no .no .no .no):=rfl
  simp only [LE] at f0 ⊢
  simp only [sE,au,aa,af,bQ,FL.e2,eV,eC,zz1,zz0,ah,aF,l2,if_true,AR,A9,Bu,f0,ad,rf]
 have s2:bH 3 (fE (eC (.tuple [.int 0,.int 1])) (e2 aC (iI 0 "Table" 0) (eC (.int 1)))) (LE c T A B .no .no .no .no .no)=.ok (.nx,LE c T A B (.ow false (rL (aQ n))) .no .no .no .no):=by
  have hz:(Dq (AB (c+1).toNat (.tuple [.int 0,.int 1])):D)=rL (aQ n):=by
   unfold rL aQ
   rw [List.map_replicate,<- yV,show(c+1).toNat=n by lia]
  have e:fE (eC (.tuple [.int 0,.int 1])) (e2 aC (iI 0 "Table" 0) (eC (.int 1))) (LE c T A B .no .no .no .no .no)=.ok (rL (aQ n),LE c T A B .no .no .no .no .no):=by
   show aF (decide (0<=c+1)&&leB (c+1).toNat 1000000) (R.ok (Dq (AB (c+1).toNat (.tuple [.int 0,.int 1])),LE c T A B .no .no .no .no .no))=_
   rw [aW (by rw [decide_eq_true (by lia),ib (by lia)];rfl),hz]
  exact zhG e rfl bg
 have L:=iJ (f:=aS) (g:=gT [gN 4,gN 5,gN 6]) (b:=zR)
  (fun done ρ=>∃ y4 y5 y6 y7:Sl,Np y4/\Np y5/\Np y6/\Np y7/\ρ=LE c T A B (.ow false (rL (cy n a b done))) y4 y5 y6 y7)
  t [] (LE c T A B (.ow false (rL (aQ n))) .no .no .no .no) ⟨_,_,_,_,bg,bg,bg,bg,rfl⟩ (by
   rintro pre e post ρ he ⟨y4,y5,y6,y7,n4,n5,n6,n7,rfl⟩
   rw [A1] at he
   have em:e∈t:=by rw [he];simp
   obtain⟨i,j,gk,i0,ij,jc⟩:=h.ky e em
   have lv:aS e=.tuple [.int i,.int j,rT e.2]:=by unfold aS;rw [gk];rfl
   have g1:gT [gN 4,gN 5,gN 6] (aS e) (LE c T A B (.ow false (rL (cy n a b pre))) y4 y5 y6 y7)=.ok (LE c T A B (.ow false (rL (cy n a b pre))) (.val (.int i)) (.val (.int j)) (.val (rT e.2)) y7):=by
    rw [lv]
    exact j5 rfl n4 rfl n5 rfl n6
   have x1:=oC (a:=a) i0 (by lia)
   have x2:=oC (a:=b) (i:=j) (by lia) (by lia)
   have x3:=oC (a:=a) (i:=j) (by lia) (by lia)
   have x4:=oC (a:=b) i0 (by lia)
   rw [hA] at x1 x3
   rw [hB] at x2 x4
   have q:=fun(z:List Rat) (hz:∀ x∈z,QR.Bd 70 x) (m:Nat)=>qY (b:=69) hz m
   have t1:lE [_,_]=_:=wm (q a ba i.toNat) (q b bb j.toNat) (by decide)
   have t2:lE [_,_]=_:=wm (q a ba j.toNat) (q b bb i.toNat) (by decide)
   have ls:tZ [_,_]=_:=zcc ((q a ba i.toNat).mul (q b bb j.toNat)) ((q a ba j.toNat).mul (q b bb i.toNat)) (by decide)
   have hw:dC a b e.1=a.getD i.toNat 0*b.getD j.toNat 0-a.getD j.toNat 0*b.getD i.toNat 0:=by unfold dC;rw [gk];rfl
   have b1:ay (gN 7) (au tZ (aa (au lE (aa (e2 aq (eV 1) (eV 4)) (aa (e2 aq (eV 2) (eV 5)) af))) (aa (au lE (aa (e2 aq (eV 1) (eV 5)) (aa (e2 aq (eV 2) (eV 4)) af))) af))) (LE c T A B (.ow false (rL (cy n a b pre))) (.val (.int i)) (.val (.int j)) (.val (rT e.2)) y7)=.ok (.nx,LE c T A B (.ow false (rL (cy n a b pre))) (.val (.int i)) (.val (.int j)) (.val (rT e.2)) (.val (num (dC a b e.1)))):=by
    refine zD (x:=y7) ?_ rfl n7
    rw [hw]
    simp only [LE,au,aa,af,FL.e2,eV,zz1,zz0,ah,x1,x2,x3,x4,t1,t2,ls]
   have hl:(cy n a b pre).length=n:=zgf (c:=c) pre fun x m=>by have:=h.rw x (by rw [he];simp [m]);lia
   have rl:=h.rw e em
   have lp:pre.length<=20:=by have:=congrArg DC he;rw [BH] at this;lia
   have bd:∀ x∈cy n a b pre,QR.Bd 8000 x:=fun x hx=>by
    have:=zge (n:=n) ba bb pre (aQ n) 1 (fun y hy=>by unfold aQ at hy;rw [(List.mem_replicate.mp hy).2];exact⟨by decide,by decide⟩) (fun e' m=>hb e' (by rw [he];simp [m])) x hx
    exact this.mono (by lia)
   have w:=ztn (xs:=cy n a b pre) (ys:=e.2) (w:=dC a b e.1) (n:=8000) (by lia) bd (fun y hy=>(hb e em y hy).mono (by decide)) ((Ak ba bb e.1).mono (by decide)) (by decide) (by lia)
   have b2:dN 3 (bH 3 (au wI (aa (eV 3) (aa (eV 7) (aa (eV 6) af))))) (LE c T A B (.ow false (rL (cy n a b pre))) (.val (.int i)) (.val (.int j)) (.val (rT e.2)) (.val (num (dC a b e.1))))=.ok (.nx,LE c T A B (.ow false (rL (cy n a b (pre++[e])))) (.val (.int i)) (.val (.int j)) (.val (rT e.2)) (.val (num (dC a b e.1)))):=by
    rw [zgg]
    show bH 3 _ (LE c T A B (.val (rL (cy n a b pre))) (.val (.int i)) (.val (.int j)) (.val (rT e.2)) (.val (num (dC a b e.1))))=_
    refine zhG (x:=.val (rL (cy n a b pre))) ?_ rfl (bF _)
    simp only [LE,au,aa,af,eV,zz1,zz0,ah,w,jZ]
   have b3:=gO (u:=zR) g1 ((aO b1).trans b2)
   exact⟨_,.nx,b3,.inl rfl,_,_,_,_,bF _,bF _,bF _,bF _,rfl⟩)
 obtain⟨ρ',e,y4,y5,y6,y7,_,_,_,_,rfl⟩:=L
 rw [A1] at e
 have s3:zZ (LE c T A B (.ow false (rL (aQ n))) .no .no .no .no)=.ok (.nx,LE c T A B (.ow false (rL (cy n a b t))) y4 y5 y6 y7):=by
  unfold zZ bM
  rw [show iE (iI 0 "Table" 1) (LE c T A B (.ow false (rL (aQ n))) .no .no .no .no)=.ok (t.map aS,LE c T A B (.ow false (rL (aQ n))) .no .no .no .no) by rw [<- hT];rfl,ah]
  exact e
 show((xh (LE c T A B .no .no .no .no .no)).bind _)=_
 unfold xh
 rw [aO s1,aO s2,aO s3]
 rfl
end
end K77
namespace K77
open PySem FL FV
open K08 (Tb df St fe aQ)
theorem zd4:∀{s r:List Rat},s.length=r.length->jZ s 0 r=s
 | [],[],_=>rfl
 | x::s,y::r,h=>by
  unfold jZ
  rw [BI,AQ]
  refine congr (congrArg List.cons ?_) (zd4 (by simpa using h))
  show x+0*y=x
  rw [Rat.zero_mul,Ij]
theorem zdn(n:Nat):(aQ n).length=n:=by unfold aQ;rw [DR]
end K77
namespace K77
open PySem FL FV
open K08 (Tb df St fe aQ gX tH vE rh)
variable {c:Int}{b n:Nat}{xs:List Rat}
theorem zoM(r:Rat):wC [num r]=.ok (num (-r)):=by
 rw [vE,show(-r.num:Int)=0-r.num by lia]
 rfl
theorem zjm{ys:List Rat}(hx:∀ x∈xs,QR.Bd b x)(hy:∀ y∈ys,QR.Bd b y)(hb:b<=40000000)(hl:xs.length<=1000):wA [rL xs,rL ys]=.ok (rL ((xs.zip ys).map fun q=>q.1+q.2)):=by
 refine e7 (ρ:=[.val (rL xs),.val (rL ys)]) rfl ?_
 show xi [.val (rL xs),.val (rL ys)]=_
 unfold xi ax zcV
 rw [mL (f0:=fun q:Rat×Rat=>.tuple [num q.1,num q.2]) (xs:=xs.zip ys) (fun q=>num (q.1+q.2)) (by rw [<- tH];rfl) (by rw [DZ];show _<=1000000;lia) fun q mq=>?_]
 ·unfold rL;rw [Bz];rfl
 ·have m1:=Ea (a:=q.1) (b:=q.2) mq
  refine⟨[.val (num q.1),.val (num q.2)],rfl,?_,mF trivial⟩
  have p:qL [num q.1,num q.2]=_:=zgq (hx _ m1.1) (hy _ m1.2) hb
  simp only [au,aa,eV,zz1,zz0,af,ah,p]
theorem zr4{c:Rat}(hc:QR.Bd b c)(hx:∀ x∈xs,QR.Bd b x)(hb:b<=40000000)(hl:xs.length<=1000):wD [num c,rL xs]=.ok (rL (xs.map fun x=>c*x)):=by
 refine e7 (ρ:=[.val (num c),.val (rL xs)]) rfl ?_
 show xn [.val (num c),.val (rL xs)]=_
 unfold xn ax zcW
 rw [mL (f0:=num) (xs:=xs) (fun x=>num (c*x)) rfl (by show _<=1000000;lia) fun x mx=>?_]
 ·unfold rL;rw [Bz];rfl
 ·refine⟨[.val (num x),.val (num c)],rfl,?_,mF trivial⟩
  have p:mj [num c,num x]=_:=zca hc (hx x mx) hb
  simp only [au,aa,eV,zz1,zz0,af,ah,p]
theorem xF{n:Nat}{c:Int}(hn:(n:Int)=c)(c6:c<=1000):tQ [.int c]=.ok (rL (aQ n)):=by
 have h:=FV.xF (n:=c) (by lia) c6
 rw [show c.toNat=n by lia] at h
 exact h
theorem zjl(s:List Rat)(w:Rat)(r:List Rat):(s.zip (r.map fun x=>w*x)).map (fun q=>q.1+q.2)=jZ s w r:=by
 unfold jZ
 rw [List.zip_map_right,Bz]
 rfl
abbrev CE(c:Int)(T A B:D)(y4 y5 y6 y7:Sl):En:=[.val (.int c),.val T,.val A,.val B,y4,y5,y6,y7]
theorem zkq{t u:Tb}{a b:List Rat}(h:df c t)(hu:u.Perm t)(hs:jV (gd rL t)=.ok (.list (u.map fun e=>tp e.1)))(ht:t.length<=20)(hb:∀ e∈t,∀ x∈e.2,QR.Bd 70 x)(hn:(n:Int)=c+1)(c0:0<=c)(c6:c<=6)(la:a.length=n)(lb:b.length=n)(ba:∀ x∈a,QR.Bd 70 x)(bb:∀ x∈b,QR.Bd 70 x) :
  wB [.int c,gd rL t,rL a,rL b]=.ok (rL (cy n a b u)):=by
 generalize hA:rL a=A
 generalize hB:rL b=B
 generalize hT:gd rL t=T at hs
 have s1:ay (gN 4) (au tQ (aa (e2 aC (eV 0) (eC (.int 1))) af)) (CE c T A B .no .no .no .no)=.ok (.nx,CE c T A B (.val (rL (aQ n))) .no .no .no):=by
  refine zD (x:=.no) ?_ rfl bg
  have ad:aC (.int c) (.int 1)=.ok (.int (c+1)):=rfl
  simp only [CE,au,aa,af,FL.e2,eV,eC,zz0,ah,ad,xF hn (by lia)]
 have L:=iJ (f:=fun e:List Int×List Rat=>tp e.1) (g:=gT [gN 5,gN 6]) (b:=zT)
  (fun done ρ=>∃ y5 y6 y7:Sl,Np y5/\Np y6/\Np y7/\ρ=CE c T A B (.val (rL (cy n a b done))) y5 y6 y7)
  u [] (CE c T A B (.val (rL (aQ n))) .no .no .no) ⟨_,_,_,bg,bg,bg,rfl⟩ (by
   rintro pre e post ρ he ⟨y5,y6,y7,n5,n6,n7,rfl⟩
   rw [A1] at he
   have eu:e∈u:=by rw [he];simp
   have em:e∈t:=hu.subset eu
   obtain⟨i,j,gk,i0,ij,jc⟩:=h.ky e em
   have g1:gT [gN 5,gN 6] (tp e.1) (CE c T A B (.val (rL (cy n a b pre))) y5 y6 y7)=.ok (CE c T A B (.val (rL (cy n a b pre))) (.val (.int i)) (.val (.int j)) y7):=by
    rw [gk]
    exact gX rfl n5 rfl n6
   have x1:=oC (a:=a) i0 (by lia)
   have x2:=oC (a:=b) (i:=j) (by lia) (by lia)
   have x3:=oC (a:=a) (i:=j) (by lia) (by lia)
   have x4:=oC (a:=b) i0 (by lia)
   rw [hA] at x1 x3
   rw [hB] at x2 x4
   have q:=fun(z:List Rat) (hz:∀ x∈z,QR.Bd 70 x) (m:Nat)=>qY (b:=69) hz m
   have t1:mj [_,_]=_:=zca (q a ba i.toNat) (q b bb j.toNat) (by decide)
   have t2:mj [_,_]=_:=zca (q a ba j.toNat) (q b bb i.toNat) (by decide)
   have nt:=zoM (a.getD j.toNat 0*b.getD i.toNat 0)
   have ls:qL [_,_]=_:=zgq ((q a ba i.toNat).mul (q b bb j.toNat)) (rh ((q a ba j.toNat).mul (q b bb i.toNat))) (by decide)
   have hw:dC a b e.1=a.getD i.toNat 0*b.getD j.toNat 0+-(a.getD j.toNat 0*b.getD i.toNat 0):=by unfold dC;rw [gk,Ii];rfl
   have b1:ay (gN 7) (au qL (aa (au mj (aa (e2 aq (eV 2) (eV 5)) (aa (e2 aq (eV 3) (eV 6)) af))) (aa (au wC (aa (au mj (aa (e2 aq (eV 2) (eV 6)) (aa (e2 aq (eV 3) (eV 5)) af))) af)) af))) (CE c T A B (.val (rL (cy n a b pre))) (.val (.int i)) (.val (.int j)) y7)=.ok (.nx,CE c T A B (.val (rL (cy n a b pre))) (.val (.int i)) (.val (.int j)) (.val (num (dC a b e.1)))):=by
    refine zD (x:=y7) ?_ rfl n7
    rw [hw]
    simp only [CE,au,aa,af,FL.e2,eV,zz1,zz0,ah,x1,x2,x3,x4,t1,t2,nt,ls]
   have hl:(cy n a b pre).length=n:=zgf (c:=c) pre fun x m=>by have:=h.rw x (hu.subset (by rw [he];simp [m]));lia
   have rl:=h.rw e em
   have lp:pre.length<=20:=by have:=congrArg DC he;rw [BH,hu.length_eq] at this;lia
   have bd:∀ x∈cy n a b pre,QR.Bd 8000 x:=fun x hx=>by
    have:=zge (n:=n) ba bb pre (aQ n) 1 (fun y hy=>by unfold aQ at hy;rw [(List.mem_replicate.mp hy).2];exact⟨by decide,by decide⟩) (fun e' m=>hb e' (hu.subset (by rw [he];simp [m]))) x hx
    exact this.mono (by lia)
   have dx:fC T (.tuple [.int i,.int j])=.ok (rL e.2):=by
    have:=kN h.nk em
    rw [gk] at this
    rw [<- hT]
    exact uD (f:=rL) this
   have l2:leB 2 lim=true:=by decide
   have ix0:aq (num (dC a b e.1)) (.int 0)=.ok (.int (dC a b e.1).num):=rfl
   have ne:=p7 (dC a b e.1).num 0
   have b2:aG (tB (e2 cg (e2 aq (eV 7) (eC (.int 0))) (eC (.int 0)))) (ay (gN 4) (au wA (aa (eV 4) (aa (au wD (aa (eV 7) (aa (e2 fC (eV 1) (aP (aa (eV 5) (aa (eV 6) af)))) af))) af)))) aL (CE c T A B (.val (rL (cy n a b pre))) (.val (.int i)) (.val (.int j)) (.val (num (dC a b e.1))))=.ok (.nx,CE c T A B (.val (rL (cy n a b (pre++[e])))) (.val (.int i)) (.val (.int j)) (.val (num (dC a b e.1)))):=by
    rw [zgg]
    have tt:tB (e2 cg (e2 aq (eV 7) (eC (.int 0))) (eC (.int 0))) (CE c T A B (.val (rL (cy n a b pre))) (.val (.int i)) (.val (.int j)) (.val (num (dC a b e.1))))=.ok (!decide ((dC a b e.1).num=0),CE c T A B (.val (rL (cy n a b pre))) (.val (.int i)) (.val (.int j)) (.val (num (dC a b e.1)))):=by
     simp only [CE,tB,FL.e2,eV,eC,zz1,zz0,ah,ix0,ne]
    unfold aG
    rw [tt,ah]
    by_cases z:(dC a b e.1).num=0
    ·rw [decide_eq_true z,Rat.num_eq_zero.mp z,zd4 (by lia)]
     rfl
    ·rw [decide_eq_false z]
     show ay (gN 4) _ _=_
     refine zD (x:=.val (rL (cy n a b pre))) ?_ rfl (bF _)
     have sc:=zr4 (c:=dC a b e.1) (xs:=e.2) (b:=281) (Ak ba bb e.1) (fun x hx=>(hb e em x hx).mono (by decide)) (by decide) (by lia)
     have ad:=zjm (xs:=cy n a b pre) (ys:=e.2.map fun x=>dC a b e.1*x) (b:=8000) bd (fun y hy=>by
      obtain⟨x,hx,rfl⟩:=A7.mp hy
      exact((Ak ba bb e.1).mul (hb e em x hx)).mono (by decide)) (by decide) (by lia)
     rw [zjl] at ad
     simp only [CE,au,aa,af,FL.e2,aP,eV,zz1,zz0,ah,aF,l2,if_true,AR,A9,Bu,dx,sc,ad]
   have b3:=gO (u:=zT) g1 ((aO b1).trans b2)
   exact⟨_,.nx,b3,.inl rfl,_,_,_,bF _,bF _,bF _,rfl⟩)
 obtain⟨ρ',e,y5,y6,y7,_,_,_,rfl⟩:=L
 rw [A1] at e
 have s2:Ab (CE c T A B (.val (rL (aQ n))) .no .no .no)=.ok (.nx,CE c T A B (.val (rL (cy n a b u))) y5 y6 y7):=by
  unfold Ab bM
  rw [show iE (e1 jV (eV 1)) (CE c T A B (.val (rL (aQ n))) .no .no .no)=.ok (u.map fun e=>tp e.1,CE c T A B (.val (rL (aQ n))) .no .no .no) by simp only [CE,iE,FL.e1,eV,zz1,zz0,ah,hs,gH],ah]
  exact e
 refine e7 (ρ:=CE c T A B (.val (rL (cy n a b u))) y5 y6 y7) rfl ?_
 show xk (CE c T A B .no .no .no .no)=_
 unfold xk
 rw [aO s1,aO s2]
 rfl
end K77
namespace K77
open PySem FL TX FV
open K08 (lV gu mG Tb)
variable {i k n:Nat}{it:IF}{t:TF}{ρ ρ1 ρ2:En}{g:gV->D->R D}{c:Int}{a d:D}{f h:EF}{α:Type}{b:Bool}{xs:List Rat}{ix:List Nat}{p:Nat×Rat}{F:List D->R (D×List D)}
theorem bo{g:D->D->R D}{b:D}(h1:f ρ=.ok (a,ρ1))(h2:h ρ1=.ok (b,ρ2))(h3:g a b=.ok d):FL.e2 g f h ρ=.ok (d,ρ2):=by
 unfold FL.e2
 rw [h1,ah,h2,ah,h3]
 rfl
theorem jI{g:D->R D}(h1:f ρ=.ok (a,ρ1))(h3:g a=.ok d):FL.e1 g f ρ=.ok (d,ρ1):=by
 unfold FL.e1
 rw [h1,ah,h3]
 rfl
theorem v8{a:gV}{b:D}(h1:f ρ=.ok (.str a,ρ1))(h2:h ρ1=.ok (b,ρ2))(h3:g a b=.ok d):fF g f h ρ=.ok (d,ρ2):=by
 unfold fF
 rw [h1,ah]
 show((R.ok a).bind _)=_
 rw [ah,h2,ah,h3]
 rfl
theorem gP{F:List D->R D}{a:AF}{ds:List D}(h:a ρ=.ok (ds,ρ1))(k:F ds=.ok d):au F a ρ=.ok (d,ρ1):=by unfold au;rw [h,ah,k];rfl
theorem eL(h:f ρ=.ok (.bool b,ρ1)):tB f ρ=.ok (b,ρ1):=by unfold tB;rw [h];rfl
theorem zsw(h:f ρ=.ok (.bool b,ρ1)):tE f ρ=.ok (b,ρ1):=by unfold tE;rw [h];rfl
theorem c5(h:f ρ=.ok (d,ρ1)):aa f af ρ=.ok ([d],ρ1):=by unfold aa;rw [h];rfl
theorem fR{a:AF}{ds:List D}(h:f ρ=.ok (d,ρ1))(k:a ρ1=.ok (ds,ρ2)):aa f a ρ=.ok (d::ds,ρ2):=by unfold aa;rw [h,ah,k];rfl
theorem ki{u:TF}(h:t ρ=.ok (false,ρ1))(k:u ρ1=.ok (false,ρ2)):FL.bw t u ρ=.ok (false,ρ2):=by unfold FL.bw;rw [h];exact k
theorem zgM(h:t ρ=.ok (true,ρ1)):FL.bu t ρ=.ok (false,ρ1):=by unfold FL.bu;rw [h];rfl
theorem wo{b:D}(h1:f ρ=.ok (a,ρ1))(h2:h ρ1=.ok (b,ρ2)):aP (aa f (aa h af)) ρ=.ok (.tuple [a,b],ρ2):=by
 unfold aP
 rw [fR h1 (c5 h2),ah]
 exact aW (show leB 2 lim=true by decide)
theorem zh7{g:EF}{ρ3:En}{b c:D}(h1:f ρ=.ok (a,ρ1))(h2:h ρ1=.ok (b,ρ2))(h3:g ρ2=.ok (c,ρ3)):aP (aa f (aa h (aa g af))) ρ=.ok (.tuple [a,b,c],ρ3):=by
 unfold aP
 rw [fR h1 (fR h2 (c5 h3)),ah]
 exact aW (show leB 3 lim=true by decide)
theorem za9{p:Bool}{v r d' v':D}(hi:ρ[i]?=some (.ow p d))(hf:f ρ=.ok (v,ρ))(hF:F [v,d]=.ok (r,[v',d'])):bA F [.v f,.m i] ρ=.ok (r,ρ.set i (.ow p d')):=by
 have hm:aZ ρ i=.ok d:=by unfold aZ;rw [hi]
 unfold bA
 simp only [dP,hm,ah,hf,dt,hF]
 have:=xE (d:=d) (d':=d') (p:=p) ρ 0 i hi
 rw [EH] at this
 show R.ok (r,bR [(i,.ow true d')] 0 ρ)=_
 rw [this]
theorem zlg{f0:α->D}{g:GF}{xs:List α}(B:α->Bool)(h:α->D)(hi:it ρ=.ok (xs.map f0,ρ))(hl:xs.length<=lim)
  (hx:∀ x∈xs,∃ β,g (f0 x) (b6 k ix ρ)=.ok β/\t β=.ok (B x,β)/\(B x=true->f β=.ok (h x,β))/\back ρ ix (β.drop k)=ρ):dJ k ix it g t f ρ=.ok (.list ((xs.filter B).map h),ρ):=by
 have key:∀(xs:List α) (acc:List D),acc.length+xs.length<=lim->(∀ x∈xs,∃ β,g (f0 x) (b6 k ix ρ)=.ok β/\t β=.ok (B x,β)/\(B x=true->f β=.ok (h x,β))/\back ρ ix (β.drop k)=ρ)->gQ k ix g t f (xs.map f0) ρ acc=.ok (acc++(xs.filter B).map h,ρ):=by
  intro xs
  induction xs with
  | nil=>intro acc _ _;simp [gQ]
  | cons x xs ih =>
   intro acc hl hx
   obtain⟨β,h1,h2,h3,h4⟩:=hx x (Bc ..)
   have rest:=fun y m=>hx y (Be x m)
   rw [AR] at hl
   rw [AQ]
   unfold gQ
   rw [h1,ah,h2,ah]
   cases c:B x with
   | true =>
    rw [if_pos rfl,h3 c,ah,aW (ib (by lia)),h4,ih _ (by simp;lia) rest,GU c]
    simp
   | false=>rw [if_neg (by simp),h4,ih acc (by lia) rest,GR (by simp [c])]
 unfold dJ
 rw [hi,ah,key xs [] (by simpa using hl) hx]
 rfl
theorem ziq{α β:Type}(f:α->D)(g:β->D):∀(l:List α) (m:List β),eO (l.map f) (m.map g)=(l.zip m).map fun q=>.tuple [f q.1,g q.2]
 | [],_=>by simp [eO]
 | _::_,[]=>by simp [eO]
 | a::l,b::m=>by
  show Fs [f a,g b]::eO (l.map f) (m.map g)=_
  rw [ziq f g l m];rfl
def sg(c:Int)(k:Nat):gV:=if(k:Int)<c then T (k:Int) else one 101
def bf(c:Int)(p:Nat×Rat):gV:=b9 p.2++one 42++sg c p.1
noncomputable def cY(xs:List Rat):List (Nat×Rat):=((Bh xs.length).zip xs).filter fun p=>decide (p.2≠0)
theorem zc0(c0:0<=c):de 0 c=(Bh c.toNat).map fun k:Nat=>A8 k:=by
 rw [sP,Bz,Int.sub_zero]
 exact GP fun k _=>by show A8 (0+(k:Int))=_;rw [Int.zero_add]
theorem zsb(c0:0<=c)(hn:(n:Int)=c+1):((Bh c.toNat).map fun k:Nat=>AG (T (k:Int)))++[.str (one 101)]=(Bh n).map fun k:Nat=>AG (sg c k):=by
 rw [show n=c.toNat+1 by lia,List.range_succ,BZ]
 congr 1
 ·exact GP fun k hk=>by
   have:=D5.mp hk
   unfold sg;rw [if_pos (by lia)]
 ·show [AG (one 101)]=[AG (sg c c.toNat)]
  unfold sg;rw [if_neg (by lia)]
theorem zhI(c6:c<=6)(k:Nat):(sg c k).length<=61:=by
 unfold sg
 split
 ·exact ie (by lia)
 ·show 1<=61;decide
theorem zP(c6:c<=6)(h:NS p.2):(bf c p).length<=200:=by
 have:=len_num h.nb
 have:=zhI c6 p.1
 unfold bf
 rw [len_app,len_app]
 show _+1+_<=_
 lia
theorem zc8(h:p∈cY xs):p.1<xs.length/\xs[p.1]?=some p.2/\p.2≠0:=by
 unfold cY at h
 obtain⟨h1,h2⟩:=Em.mp h
 obtain⟨i,hi,e⟩:=Ik.mp h1
 rw [DZ,CM,EK] at hi
 rw [Il,List.getElem_range] at e
 subst e
 exact⟨hi,Bo hi,by simpa using h2⟩
theorem zsQ(hl:(xs.length:Int)=c+1)(c0:0<=c)(c6:c<=6)(hx:∀ x∈xs,NS x):wF [rL xs]=.ok (.list ((cY xs).map fun p=>.str (bf c p))):=by
 refine e7 (ρ:=[.val (rL xs),.val (.list ((Bh xs.length).map fun k:Nat=>AG (sg c k)))]) rfl ?_
 show zaG [.val (rL xs),.no]=_
 have q0:zm [.val (rL xs),.no]=.ok (.list ((Bh c.toNat).map fun k:Nat=>AG (T (k:Int))),[.val (rL xs),.no]):=by
  have ll:cH (rL xs)=.ok (.int (xs.length:Int)):=by
   show R.ok (A8 ((xs.map num).length:Int))=_
   rw [AW]
  have sb:cU (.int (xs.length:Int)) (.int 1)=.ok (.int c):=by
   show R.ok (A8 ((xs.length:Int)-1))=_
   rw [hl];congr 2;lia
  have hr:iu [.int c]=.ok (de 0 c):=sO c0 (by lia)
  unfold zm
  refine FV.mL (f0:=fun k:Nat=>A8 k) (xs:=Bh c.toNat) (fun k=>AG (T (k:Int))) ?_ (by rw [CM];show _<=1000000;lia) fun k hk=>?_
  ·unfold cQ
   rw [c5 (bo (jI rfl ll) rfl sb),ah,hr,zc0 c0];rfl
  ·have:=D5.mp hk
   exact⟨[.val (.int k)],rfl,jI rfl (str_int (by lia)),rfl⟩
 have ad:aC (.list ((Bh c.toNat).map fun k:Nat=>AG (T (k:Int)))) (.list [.str (one 101)])=.ok (.list ((Bh xs.length).map fun k:Nat=>AG (sg c k))):=by
  rw [<- zsb c0 hl]
  exact aW (ib (by rw [AW,CM];show _+1<=1000000;lia))
 have l1:bQ (aa (eC (.str "e")) af) [.val (rL xs),.no]=.ok (.list [.str (one 101)],[.val (rL xs),.no]):=by
  show aF (leB 1 lim) _=_
  exact aW (by decide)
 refine(aO (ρ1:=[.val (rL xs),.val (.list ((Bh xs.length).map fun k:Nat=>AG (sg c k)))]) (iy (y:=(.list ((Bh xs.length).map fun k:Nat=>AG (sg c k)),[.val (rL xs),.no])) (bo q0 l1 ad) rfl bg)).trans ?_
 have q1:zo [.val (rL xs),.val (.list ((Bh xs.length).map fun k:Nat=>AG (sg c k)))]=.ok (.list ((cY xs).map fun p=>.str (bf c p)),[.val (rL xs),.val (.list ((Bh xs.length).map fun k:Nat=>AG (sg c k)))]):=by
  unfold zo
  refine zlg (f0:=fun p:Nat×Rat=>Fs [.str (sg c p.1),num p.2]) (xs:=(Bh xs.length).zip xs) (fun p=>decide (p.2≠0)) (fun p=>.str (bf c p)) ?_ (by rw [DZ,CM,EK];show _<=1000000;lia) fun p hp=>?_
  ·unfold yz
   rw [fR (f:=eV 1) rfl (c5 (f:=eV 0) rfl),ah]
   show(R.ok (eO ((Bh xs.length).map fun k:Nat=>AG (sg c k)) (xs.map num))).bind _=_
   rw [ziq];rfl
  ·have hq:NS p.2:=by
    obtain⟨i,hi,e⟩:=Ik.mp hp
    rw [Il] at e
    subst e
    exact hx _ (List.getElem_mem _)
   have l1:=len_num hq.nb
   have l2:=zhI c6 p.1
   have a1:cv (.str (b9 p.2)) (.str (one 42))=.ok (.str (b9 p.2++one 42)):=aW (eE (by show _+1<=_;lia))
   have a2:cv (.str (b9 p.2++one 42)) (.str (sg c p.1))=.ok (.str (bf c p)):=aW (eE (by rw [len_app];show _+1+_<=_;lia))
   have i0:aq (num p.2) (.int 0)=.ok (.int p.2.num):=rfl
   have n0:cg (.int p.2.num) (.int 0)=.ok (.bool (decide (p.2≠0))):=by
    rw [p7]
    congr 2
    by_cases h:p.2=0
    ·rw [h];rfl
    ·rw [decide_eq_true h,decide_eq_false (fun z=>h (Rat.num_eq_zero.mp z))];rfl
   exact⟨[.val (.str (sg c p.1)),.val (num p.2)],rfl,eL (bo (bo rfl rfl i0) rfl n0),fun _=>bo (bo (gP (c5 rfl) (zn8 hq.nb)) rfl a1) rfl a2,rfl⟩
 unfold ax
 rw [q1];rfl
theorem zmv(l:List α)(g:Nat)(p:α){pre:List α}(pm:l.Perm pre):(l.take g++p::l.drop g).Perm (pre++[p]):=by
 refine Ih.trans ?_
 rw [Im]
 exact(List.Perm.cons p pm).trans (List.perm_append_comm (l₁:=[p]) (l₂:=pre))
abbrev fQ(X:D)(d:D)(l:List gV)(y:Sl):En:=[.val X,.ow true d,.ow false (.list (l.map AG)),y]
theorem rY(hd:cx k d)(ws:List gV)(hl:ws.length<=60)(hk:k<=20000) :
  ∃(l:List gV) (d':D),oO [.list (ws.map AG),d]=.ok (.list (l.map AG),[.list (ws.map AG),d'])/\l.Perm ws/\cx (k+60) d':=by
 obtain⟨ρ',e,l,d',y,ny,rfl,pm,pp⟩:=iJ (f:=AG) (g:=gN 3) (b:=zde)
  (fun done ρ=>∃(l:List gV) (d':D) (y:Sl),Np y/\ρ=fQ (.list (ws.map AG)) d' l y/\l.Perm done/\cx (k+done.length) d')
  ws [] (fQ (.list (ws.map AG)) d [] .no) ⟨[],d,.no,bg,rfl,Jw _,hd⟩ (by
   rintro pre w post ρ e ⟨l,d1,y,ny,rfl,pm,pp⟩
   rw [A1] at e
   have aY:pre.length+1<=ws.length:=by rw [e];simp
   have ll:=pm.length_eq
   obtain⟨g,d2,tk,g0,g1,p2⟩:=qD pp (by lia) ((l.length:Int)+1) (by lia) (by lia)
   have le:cH (.list (l.map AG))=.ok (.int (l.length:Int)):=by
    show R.ok (A8 ((l.map _).length:Int))=_
    rw [AW]
   have ml:m1 cH 2 (fQ (.list (ws.map AG)) d1 l (.val (.str w)))=.ok (.int (l.length:Int),fQ (.list (ws.map AG)) d1 l (.val (.str w))):=by
    show((R.ok (Dq (l.map AG))).bind _)=_
    rw [ah,le];rfl
   have ad:aC (.int (l.length:Int)) (.int 1)=.ok (.int ((l.length:Int)+1)):=rfl
   have cm:bA gL [.m 1,.v (e2 aC (m1 cH 2) (eC (.int 1)))] (fQ (.list (ws.map AG)) d1 l (.val (.str w)))=.ok (.int g,fQ (.list (ws.map AG)) d2 l (.val (.str w))):=uz (p:=true) (d:=d1) rfl (bo ml rfl ad) tk
   have ins:zbY (l.map AG) (.int g) (.str w)=.ok ((l.take g.toNat++w::l.drop g.toNat).map AG):=by
    refine(aW ?_).trans ?_
    ·rw [AW,decide_eq_true g0,ib (by lia:g.toNat<=l.length),eE (by lia:l.length+1<=1000000)]
     rfl
    ·rw [BZ,AQ,List.map_take,List.map_drop]
   refine⟨fQ (.list (ws.map AG)) d2 (l.take g.toNat++w::l.drop g.toNat) (.val (.str w)),.nx,gO (gW (x:=y) rfl ny) ?_,.inl rfl,_,d2,_,bF _,rfl,zmv l _ w pm,p2.mono (by simp;lia)⟩
   have lt:bP (fQ (.list (ws.map AG)) d1 l (.val (.str w))) 2=.ok (l.map AG):=rfl
   have lt2:bP (fQ (.list (ws.map AG)) d2 l (.val (.str w))) 2=.ok (l.map AG):=rfl
   show yA 2 _ _ (fQ (.list (ws.map AG)) d1 l (.val (.str w)))=_
   unfold yA
   rw [lt,ah,cm,ah]
   show((eV 3 (fQ (.list (ws.map AG)) d2 l (.val (.str w)))).bind _)=_
   have e3:eV 3 (fQ (.list (ws.map AG)) d2 l (.val (.str w)))=.ok (.str w,fQ (.list (ws.map AG)) d2 l (.val (.str w))):=rfl
   rw [e3,ah]
   show((bP (fQ (.list (ws.map AG)) d2 l (.val (.str w))) 2).bind _)=_
   rw [lt2,ah]
   show((zbY (l.map AG) (.int g) (.str w)).bind _)=_
   rw [ins];rfl)
 rw [A1] at pm pp
 refine⟨l,d',?_,pm,pp.mono (by lia)⟩
 have s1:bH 2 (bQ af) [.val (.list (ws.map AG)),.ow true d,.no,.no]=.ok (.nx,fQ (.list (ws.map AG)) d [] .no):=rfl
 have s2:Ac (fQ (.list (ws.map AG)) d [] .no)=.ok (.nx,fQ (.list (ws.map AG)) d' l y):=by
  unfold Ac bM
  rw [show iE (eV 0) (fQ (.list (ws.map AG)) d [] .no)=.ok (ws.map AG,fQ (.list (ws.map AG)) d [] .no) from rfl,ah]
  exact e
 show((xl [.val (.list (ws.map AG)),.ow true d,.no,.no]).bind _)=_
 unfold xl
 rw [aO s1,aO s2]
 rfl
end K77
namespace K77
open PySem FL TX FV
open K08 (lV gu mG Tb df bC aS fe aQ St qC gX j5 fW)
variable {c i:Int}{q x:Rat}{d k n:Nat}{ρ:En}{r xs:List Rat}{p:Nat×Rat}{ws:List (Nat×Rat)}
theorem zlC(x c:Int)(k:Nat)(h:d≠45/\(d<48\/57<d))(h1:d≠101):d∉TX.cp (sg c k):=by
 unfold sg
 split
 ·exact eT d h _
 ·exact lK h1
theorem zbu(h:d≠45/\(d<48\/57<d))(h1:d≠101)(h2:d≠47)(h3:d≠42):d∉TX.cp (bf c p):=by
 unfold bf
 rw [cw,cw]
 intro m
 rcases B2.mp m with m|m
 ·rcases B2.mp m with m|m
  ·exact zfq h h2 m
  ·exact lK h3 m
 ·exact zlC 0 c p.1 h h1 m
theorem zeb(c:Int)(k:Nat):As (sg c k):=by
 unfold sg
 split
 ·exact qX _
 ·exact o6 (by decide)
theorem zcz{a b:gV}{c:Nat}(h:c∉TX.cp a)(hl:(a++one c++b).length<=1000000):iQ (a++one c++b) (.str (one c))=.ok (.tuple [.str a,.str (one c),.str b]):=by
 show aF _ _=_
 rw [zgY h]
 refine aW ?_
 rw [ib (show _<=lim from hl)]
 rfl
theorem zjh:T i≠one 101:=fun z=>by
 have:=eT 101 (by decide) i
 rw [z] at this
 exact this (Dp.mpr rfl)
structure Pt(c:Int)(p:Nat×Rat):Prop where
 k:(p.1:Int)<=c
 n:NS p.2
 z:p.2≠0
theorem read_part(c6:c<=6)(h:Pt c p):zal [.str (bf c p),.int c]=.ok (.tuple [.int p.1,num p.2]):=by
 have tl:=zP c6 h.n
 have pd:=zcz (b:=sg c p.1) (zfq (q:=p.2) (c:=42) (by decide) (by decide)) (Bj tl (by decide))
 have gt:gT [gN 2,gN 3,gN 4] (.tuple [.str (b9 p.2),.str (one 42),.str (sg c p.1)]) [.val (.str (bf c p)),.val (.int c),.no,.no,.no,.no,.no]=.ok [.val (.str (bf c p)),.val (.int c),.val (.str (b9 p.2)),.val (.str (one 42)),.val (.str (sg c p.1)),.no,.no]:=rfl
 have s1:ay (gT [gN 2,gN 3,gN 4]) (fF iQ (eV 0) (eC (.str "*"))) [.val (.str (bf c p)),.val (.int c),.no,.no,.no,.no,.no]=.ok (.nx,[.val (.str (bf c p)),.val (.int c),.val (.str (b9 p.2)),.val (.str (one 42)),.val (.str (sg c p.1)),.no,.no]):=by
  unfold ay
  rw [v8 (a:=bf c p) (ρ1:=[.val (.str (bf c p)),.val (.int c),.no,.no,.no,.no,.no]) rfl rfl pd,ah]
  show(gT [gN 2,gN 3,gN 4] _ _).bind _=_
  rw [gt];rfl
 have rn:=read_number h.n
 have pl:ee (tB (e2 du (eV 4) (eC (.str "e")))) (eV 1) (au qP (aa (eV 4) (aa (eV 1) af))) [.val (.str (bf c p)),.val (.int c),.val (.str (b9 p.2)),.val (.str (one 42)),.val (.str (sg c p.1)),.val (num p.2),.no]=.ok (.int p.1,[.val (.str (bf c p)),.val (.int c),.val (.str (b9 p.2)),.val (.str (one 42)),.val (.str (sg c p.1)),.val (num p.2),.no]):=by
  have tt:tB (e2 du (eV 4) (eC (.str "e"))) [.val (.str (bf c p)),.val (.int c),.val (.str (b9 p.2)),.val (.str (one 42)),.val (.str (sg c p.1)),.val (num p.2),.no]=.ok (decide (sg c p.1=one 101),[.val (.str (bf c p)),.val (.int c),.val (.str (b9 p.2)),.val (.str (one 42)),.val (.str (sg c p.1)),.val (num p.2),.no]):=eL (bo rfl rfl (eq_str (zeb c p.1) (o6 (c:=101) (by decide))))
  unfold ee
  rw [tt,ah]
  by_cases hk:(p.1:Int)<c
  ·have e:sg c p.1=T (p.1:Int):=by unfold sg;rw [if_pos hk]
   rw [decide_eq_false (by rw [e];exact zjh),if_neg (by simp)]
   refine gP (fR rfl (c5 rfl)) ?_
   rw [e]
   exact read_way (by lia) hk c6
  ·have e:sg c p.1=one 101:=by unfold sg;rw [if_neg hk]
   rw [decide_eq_true e,if_pos rfl]
   have:=h.k
   rw [show(p.1:Int)=c by lia]
   rfl
 refine e7 (ρ:=[.val (.str (bf c p)),.val (.int c),.val (.str (b9 p.2)),.val (.str (one 42)),.val (.str (sg c p.1)),.val (num p.2),.val (.int p.1)]) rfl ?_
 show zaO [.val (.str (bf c p)),.val (.int c),.no,.no,.no,.no,.no]=_
 refine(aO s1).trans ?_
 refine(aO (ρ1:=[.val (.str (bf c p)),.val (.int c),.val (.str (b9 p.2)),.val (.str (one 42)),.val (.str (sg c p.1)),.val (num p.2),.no]) (iy (y:=(num p.2,[.val (.str (bf c p)),.val (.int c),.val (.str (b9 p.2)),.val (.str (one 42)),.val (.str (sg c p.1)),.no,.no])) (gP (c5 rfl) rn) rfl bg)).trans ?_
 refine(aO (ρ1:=[.val (.str (bf c p)),.val (.int c),.val (.str (b9 p.2)),.val (.str (one 42)),.val (.str (sg c p.1)),.val (num p.2),.val (.int p.1)]) (iy (y:=(.int p.1,[.val (.str (bf c p)),.val (.int c),.val (.str (b9 p.2)),.val (.str (one 42)),.val (.str (sg c p.1)),.val (num p.2),.no])) pl rfl bg)).trans ?_
 have n0:=yW p.2 0
 rw [decide_eq_false h.z] at n0
 refine(aO ((gu (ki (eL (bo (a:=num p.2) (b:=.none) (d:=.bool false) rfl rfl rfl)) (ki (eL (bo rfl rfl n0)) (eL (bo rfl rfl nY))))).trans rfl)).trans ?_
 unfold ax
 rw [wo rfl rfl];rfl
noncomputable def di(r:List Rat)(ws:List (Nat×Rat)):List Rat:=ws.foldl (fun r p=>r.set p.1 p.2) r
theorem zc1:∀(ws:List (Nat×Rat)) (r:List Rat),(di r ws).length=r.length
 | [],_=>rfl
 | p::ws,r=>by
  show(di (r.set p.1 p.2) ws).length=_
  rw [zc1 ws,C6]
theorem zv:∀(ws:List (Nat×Rat)) (r:List Rat) (k:Nat),(∀ p∈ws,p.1≠k)->(di r ws)[k]?=r[k]?
 | [],_,_,_=>rfl
 | p::ws,r,k,h=>by
  show(di (r.set p.1 p.2) ws)[k]?=_
  rw [zv ws _ k fun q hq=>h q (Be _ hq),BC (h p (Bc ..))]
theorem zhE:∀(ws:List (Nat×Rat)) (r:List Rat) {p:Nat×Rat},(ws.map (·.1)).Nodup->p∈ws->p.1<r.length->(di r ws)[p.1]?=some p.2
 | [],_,_,_,h,_=>absurd h (by simp)
 | q::ws,r,p,nd,h,hl=>by
  rw [AQ,C0] at nd
  show(di (r.set q.1 q.2) ws)[p.1]?=_
  rcases AX.mp h with rfl|h
  ·rw [zv ws _ _ fun z hz e=>nd.1 (by have:=CV (f:=fun x:Nat×Rat=>x.1) hz;rw [e] at this;exact this),BA hl]
  ·exact zhE ws _ nd.2 h (by rw [C6];exact hl)
theorem zh1(xs:List Rat):((cY xs).map (·.1)).Nodup:=by
 unfold cY
 have h:(((Bh xs.length).zip xs).map (·.1)).Nodup:=by
  rw [List.map_fst_zip (by rw [CM];exact AI _)]
  exact List.nodup_range
 exact List.Sublist.nodup (List.Sublist.map _ Jx) h
theorem zsV(h:xs[k]?=some x)(z:x≠0):(k,x)∈cY xs:=by
 have hk:=(By.mp h).1
 refine Em.mpr ⟨Ik.mpr ⟨k,by rw [DZ,CM];lia,?_⟩,by simpa using z⟩
 rw [Il,List.getElem_range,(By.mp h).2]
theorem zrW(hl:xs.length=n)(pm:ws.Perm (cY xs)):di (aQ n) ws=xs:=by
 have nd:(ws.map (·.1)).Nodup:=(pm.map (·.1)).nodup_iff.mpr (zh1 xs)
 have zl:(aQ n).length=n:=zdn n
 refine List.ext_getElem? fun k=>?_
 by_cases hk:k<n
 ·have hx:xs[k]?=some xs[k]:=Bo (by lia)
  by_cases z:xs[k]=0
  ·rw [zv ws _ k fun p hp e=>?_]
   ·rw [hx,z]
    show(AB n (0:Rat))[k]?=_
    rw [C1,if_pos hk]
   ·have:=zc8 (pm.mem_iff.mp hp)
    rw [e,hx] at this
    exact this.2.2 ((BP this.2.1).symm.trans z)
  ·rw [zhE ws _ (p:=(k,xs[k])) nd (pm.mem_iff.mpr (zsV hx z)) (by rw [zl];exact hk),hx]
 ·rw [Gs (by rw [zc1,zl];lia),Gs (by lia)]
theorem zr6{f k:EF}{i j:Nat}{p:Bool}(hf:f ρ=.ok (num q,ρ))(hi:ρ[i]?=some (.ow p (rL r)))(hk:k ρ=.ok (.int j,ρ))(h:j<r.length):setM i f k ρ=.ok (.nx,ρ.set i (.ow p (rL (r.set j q)))):=by
 have lt:bP ρ i=.ok (r.map num):=by unfold bP;rw [hi];rfl
 have ix:dU (r.map num).length (j:Int)=some j:=by
  unfold dU
  rw [AW,if_pos (by lia),if_pos (by lia)];rfl
 have pm:bW ρ i (.list ((r.map num).set j (num q)))=ρ.set i (.ow p (rL (r.set j q))):=by
  unfold bW
  rw [hi,<- List.map_set];rfl
 unfold setM
 rw [hf,ah]
 show((bP ρ i).bind _)=_
 rw [lt,ah]
 show((k ρ).bind _)=_
 rw [hk,ah]
 show((bP ρ i).bind _)=_
 rw [lt,ah]
 show((R.of (dU (r.map num).length (j:Int))).bind _)=_
 rw [ix]
 show R.ok (Fl.nx,bW ρ i (.list ((r.map num).set j (num q))))=_
 rw [pm]
abbrev gA(X:D)(c:Int)(r:List Rat)(y3 y4:Sl):En:=[.val X,.val (.int c),.ow false (rL r),y3,y4]
theorem read_row(c0:0<=c)(c6:c<=6)(hn:(n:Int)=c+1)(h:∀ p∈ws,Pt c p)(nd:(ws.map (·.1)).Nodup)(ne:ws≠[])(hl:ws.length<=7):wG [.str (Br (one 43) (ws.map (bf c))),.int c]=.ok (rL (di (aQ n) ws)):=by
 have tl:∀ x∈ws.map (bf c),x.length<=200:=fun x hx=>by
  obtain⟨p,hp,rfl⟩:=A7.mp hx
  exact zP c6 (h p hp).n
 have jl:=yE (c:=43) tl (by rw [AW];lia) (by decide)
 rw [AW] at jl
 have sp:=zhO (c:=43) (l:=ws.map (bf c)) (fun z=>ne (GO.mp z)) (fun x hx=>by
  obtain⟨p,hp,rfl⟩:=A7.mp hx
  exact zbu (by decide) (by decide) (by decide) (by decide)) (by lia) (by rw [AW];lia)
 generalize hX:Br (one 43) (ws.map (bf c))=X at *
 have nz:n=(c+1).toNat:=by lia
 obtain⟨ρ',e,y3,y4,h3,h4,rfl⟩:=iJ (f:=fun p=>AG (bf c p)) (g:=gN 3) (b:=zdj)
  (fun done ρ=>∃ y3 y4,Np y3/\Np y4/\ρ=gA (.str X) c (di (aQ n) done) y3 y4)
  ws [] (gA (.str X) c (aQ n) .no .no) ⟨.no,.no,bg,bg,rfl⟩ (by
   rintro pre p post ρ e ⟨y3,y4,h3,h4,rfl⟩
   rw [A1] at e
   have hp:p∈ws:=by rw [e];simp
   have pt:=h p hp
   have hk:=pt.k
   have rl:(di (aQ n) pre).length=n:=by rw [zc1];exact zdn n
   have of:(di (aQ n) pre)[p.1]?=some 0:=by
    rw [zv pre _ _ fun q hq z=>?_]
    ·show(AB n (0:Rat))[p.1]?=_
     rw [C1,if_pos (by lia)]
    ·rw [e,BZ,AQ] at nd
     have:=(Ft.mp nd).2.2 q.1 (CV hq) p.1 (Bc ..)
     exact this z
   have rp:=read_part c6 pt
   have ix:aq (rL (di (aQ n) pre)) (.int p.1)=.ok (num 0):=fW (by lia) (by rw [BV,FR,of];rfl)
   have nn:=p7 0 0
   refine⟨gA (.str X) c (di (aQ n) (pre++[p])) (.val (.str (bf c p))) (.val (.tuple [.int p.1,num p.2])),.nx,gO (gW (x:=y3) rfl h3) ?_,.inl rfl,_,_,bF _,bF _,rfl⟩
   refine(aO (ρ1:=gA (.str X) c (di (aQ n) pre) (.val (.str (bf c p))) (.val (.tuple [.int p.1,num p.2]))) (iy (y:=(.tuple [.int p.1,num p.2],gA (.str X) c (di (aQ n) pre) (.val (.str (bf c p))) y4)) (gP (fR rfl (c5 rfl)) rp) rfl h4)).trans ?_
   have i0:e2 aq (eV 4) (eC (.int 0)) (gA (.str X) c (di (aQ n) pre) (.val (.str (bf c p))) (.val (.tuple [.int p.1,num p.2])))=.ok (.int p.1,gA (.str X) c (di (aQ n) pre) (.val (.str (bf c p))) (.val (.tuple [.int p.1,num p.2]))):=rfl
   have i1:e2 aq (eV 4) (eC (.int 1)) (gA (.str X) c (di (aQ n) pre) (.val (.str (bf c p))) (.val (.tuple [.int p.1,num p.2])))=.ok (num p.2,gA (.str X) c (di (aQ n) pre) (.val (.str (bf c p))) (.val (.tuple [.int p.1,num p.2]))):=rfl
   have m2:m2 aq 2 (e2 aq (eV 4) (eC (.int 0))) (gA (.str X) c (di (aQ n) pre) (.val (.str (bf c p))) (.val (.tuple [.int p.1,num p.2])))=.ok (num 0,gA (.str X) c (di (aQ n) pre) (.val (.str (bf c p))) (.val (.tuple [.int p.1,num p.2]))):=by
    show((R.ok (rL (di (aQ n) pre))).bind _)=_
    rw [ah,i0,ah]
    show((R.ok (rL (di (aQ n) pre))).bind _)=_
    rw [ah]
    show((aq (rL (di (aQ n) pre)) (.int p.1)).bind _)=_
    rw [ix];rfl
   have nq:cg (num 0) (.tuple [.int 0,.int 1])=.ok (.bool false):=rfl
   refine(aO ((gu (ki (eL (bo (a:=.tuple [.int p.1,num p.2]) (b:=.none) (d:=.bool false) rfl rfl rfl)) (eL (bo m2 rfl nq)))).trans rfl)).trans ?_
   refine(zr6 (p:=false) i1 rfl i0 (by rw [rl];lia)).trans ?_
   rw [show di (aQ n) (pre++[p])=(di (aQ n) pre).set p.1 p.2 by unfold di;rw [List.foldl_append];rfl]
   rfl)
 rw [A1] at e
 refine e7 (ρ:=[.val (.str X),.val (.int c),.val (rL (di (aQ n) ws)),y3,y4]) rfl ?_
 show zaP [.val (.str X),.val (.int c),.no,.no,.no]=_
 have s1:bH 2 (fE (eC (.tuple [(.int 0),(.int 1)])) (e2 aC (eV 1) (eC (.int 1)))) [.val (.str X),.val (.int c),.no,.no,.no]=.ok (.nx,gA (.str X) c (aQ n) .no .no):=by
  have rp:fE (eC (.tuple [(.int 0),(.int 1)])) (e2 aC (eV 1) (eC (.int 1))) [.val (.str X),.val (.int c),.no,.no,.no]=.ok (rL (aQ n),[.val (.str X),.val (.int c),.no,.no,.no]):=by
   show aF (decide (0<=c+1)&&leB (c+1).toNat 1000000) (R.ok (Dq (AB (c+1).toNat (.tuple [.int 0,.int 1])),_))=_
   rw [aW (by rw [decide_eq_true (by lia),ib (by lia:(c+1).toNat<=1000000)];rfl),<- nz]
   show _=R.ok (Dq ((AB n (0:Rat)).map num),_)
   rw [List.map_replicate]
   rfl
  exact qw (y:=(rL (aQ n),[.val (.str X),.val (.int c),.no,.no,.no])) rp rfl bg
 have s2:Ah (gA (.str X) c (aQ n) .no .no)=.ok (.nx,gA (.str X) c (di (aQ n) ws) y3 y4):=by
  unfold Ah bM
  have it:iE (fF sQ (eV 0) (eC (.str "+"))) (gA (.str X) c (aQ n) .no .no)=.ok (ws.map fun p=>AG (bf c p),gA (.str X) c (aQ n) .no .no):=by
   unfold iE
   rw [v8 (a:=X) (ρ1:=gA (.str X) c (aQ n) .no .no) rfl rfl sp,ah]
   show(R.ok _:R (List D)).bind _=_
   rw [Bz];rfl
  rw [it,ah]
  exact e
 exact(aO s1).trans ((aO s2).trans rfl)
end K77
namespace K77
open PySem FL TX FV
open K08 (lV gu mG Tb df bC aS fe aQ St qC gX j5 fW nO)
def qJ(i j:Int)(s:gV):gV:=T i++one 44++T j++one 61++s
abbrev It:=(List Int×List Rat)×List (Nat×Rat)
def ku(c:Int)(ws:List (Nat×Rat)):gV:=Br (one 43) (ws.map (bf c))
def aM(c:Int)(t:It):gV:=qJ (t.1.1.getD 0 0) (t.1.1.getD 1 0) (ku c t.2)
structure Ok(c:Int)(t:It):Prop where
 ky:∃ i j:Int,t.1.1=[i,j]/\0<=i/\i<j/\j<c
 ln:(t.1.2.length:Int)=c+1
 ns:∀ x∈t.1.2,NS x
 pm:t.2.Perm (cY t.1.2)
 ne:t.2≠[]
variable {t:It}{s:SF}{c:Int}{l:List It}{x y:Sl}{i j:Nat}{ρ:En}{a b:gV}{W X:D}
section
theorem Ok.pt(h:Ok c t):∀ p∈t.2,Pt c p:=fun p hp=>by
 obtain⟨h1,h2,h3⟩:=zc8 (h.pm.mem_iff.mp hp)
 have:=h.ln
 exact⟨by lia,h.ns _ (Ck h2),h3⟩
theorem Ok.nd(h:Ok c t):(t.2.map (·.1)).Nodup:=(h.pm.map (·.1)).nodup_iff.mpr (zh1 _)
theorem Ok.few(h:Ok c t)(c6:c<=6):t.2.length<=7:=by
 have h1:=h.pm.length_eq
 have h2:(cY t.1.2).length<=((Bh t.1.2.length).zip t.1.2).length:=F1 _ _
 rw [DZ,CM,EK] at h2
 have:=h.ln
 lia
theorem Ok.zh5(h:Ok c t)(c6:c<=6):(ku c t.2).length<=1407:=by
 have tl:∀ x∈t.2.map (bf c),x.length<=200:=fun x hx=>by
  obtain⟨p,hp,rfl⟩:=A7.mp hx
  exact zP c6 (h.pt p hp).n
 have fw:=h.few c6
 have jl:=yE (c:=43) tl (by rw [AW];lia) (by decide)
 rw [AW] at jl
 unfold ku
 lia
theorem Ok.len(h:Ok c t)(c6:c<=6):(aM c t).length<=1600:=by
 obtain⟨i,j,e,h1,h2,h3⟩:=h.ky
 have l1:=h.zh5 c6
 have l2:=ie (i:=i) (by lia)
 have l3:=ie (i:=j) (by lia)
 unfold aM qJ
 rw [e,len_app,len_app,len_app,len_app]
 show(T i).length+1+(T j).length+1+_<=_
 lia
end
theorem zps{f h:EF}{a b:D}(hf:f ρ=.ok (a,ρ))(hh:h ρ=.ok (b,ρ))(hx:ρ[i]?=some x)(nx:Np x)(hy:(ρ.set i (.val a))[j]?=some y)(ny:Np y):cu i j f h ρ=.ok (.nx,(ρ.set i (.val a)).set j (.val b)):=by
 unfold cu
 rw [hf,ah,hh,ah,gW hx nx,ah,gW hy ny];rfl
theorem zgW{d e g:D}{k l:Nat}{z:Sl}(h0:ρ[l]?=some (.val (.str a)))(h:iQ a (.str b)=.ok (.tuple [d,e,g]))(hx:ρ[i]?=some x)(nx:Np x)(hy:(ρ.set i (.val d))[j]?=some y)(ny:Np y)(hz:((ρ.set i (.val d)).set j (.val e))[k]?=some z)(nz:Np z) :
  ay (gT [gN i,gN j,gN k]) (fF iQ (eV l) (eC (.str b))) ρ=.ok (.nx,((ρ.set i (.val d)).set j (.val e)).set k (.val g)):=by
 have e0:eV l ρ=.ok (.str a,ρ):=by unfold eV;rw [h0]
 unfold ay
 rw [v8 e0 rfl h,ah]
 show(gT [gN i,gN j,gN k] (.tuple [d,e,g]) ρ).bind _=_
 rw [j5 hx nx hy ny hz nz];rfl
theorem read_leaving(c0:0<=c)(c6:c<=6)(h:Ok c t):zaj [.str (aM c t),.int c]=.ok (bC t.1):=by
 obtain⟨i,j,e,i0,ij,jc⟩:=h.ky
 have wl:=h.len c6
 have p1:iQ (aM c t) (.str (one 61))=.ok (.tuple [.str (T i++one 44++T j),.str (one 61),.str (ku c t.2)]):=by
  have hw:aM c t=T i++one 44++T j++one 61++ku c t.2:=by unfold aM qJ;rw [e];rfl
  rw [hw] at wl ⊢
  refine zcz ?_ (by lia)
  rw [cw,cw]
  intro m
  rcases B2.mp m with m|m
  ·rcases B2.mp m with m|m
   ·exact eT 61 (by decide) i m
   ·exact lK (c:=61) (d:=44) (by decide) m
  ·exact eT 61 (by decide) j m
 have l2:=ie (i:=i) (by lia)
 have l3:=ie (i:=j) (by lia)
 have p2:iQ (T i++one 44++T j) (.str (one 44))=.ok (.tuple [.str (T i),.str (one 44),.str (T j)]):=zcz (eT 44 (by decide) i) (by
  rw [len_app,len_app]
  show _+1+_<=_
  lia)
 have r1:=read_way i0 (by lia:i<c) c6
 have r2:=read_way (by lia:0<=j) jc c6
 obtain⟨n,hn⟩:∃ n:Nat,(n:Int)=c+1:=⟨(c+1).toNat,by lia⟩
 have ln:=h.ln
 have r3:=read_row c0 c6 hn h.pt h.nd h.ne (h.few c6)
 rw [zrW (by lia) h.pm] at r3
 change wG [.str (ku c t.2),.int c]=_ at r3
 have hl:bC t.1=.tuple [.int i,.int j,rL t.1.2]:=by unfold bC;rw [e];rfl
 rw [hl]
 generalize aM c t=W at *
 generalize ku c t.2=S at *
 generalize T i++one 44++T j=A at *
 refine e7 (ρ:=[.val (.str W),.val (.int c),.val (.str A),.val (.str (one 61)),.val (.str S),.val (.str (T i)),.val (.str (one 44)),.val (.str (T j)),.val (.int i),.val (.int j),.val (rL t.1.2)]) rfl ?_
 show zaN [.val (.str W),.val (.int c),.no,.no,.no,.no,.no,.no,.no,.no,.no]=_
 have s1:ay (gT [gN 2,gN 3,gN 4]) (fF iQ (eV 0) (eC (.str "="))) [.val (.str W),.val (.int c),.no,.no,.no,.no,.no,.no,.no,.no,.no]=.ok (.nx,[.val (.str W),.val (.int c),.val (.str A),.val (.str (one 61)),.val (.str S),.no,.no,.no,.no,.no,.no]):=zgW rfl p1 rfl bg rfl bg rfl bg
 have s2:ay (gT [gN 5,gN 6,gN 7]) (fF iQ (eV 2) (eC (.str ","))) [.val (.str W),.val (.int c),.val (.str A),.val (.str (one 61)),.val (.str S),.no,.no,.no,.no,.no,.no]=.ok (.nx,[.val (.str W),.val (.int c),.val (.str A),.val (.str (one 61)),.val (.str S),.val (.str (T i)),.val (.str (one 44)),.val (.str (T j)),.no,.no,.no]):=zgW rfl p2 rfl bg rfl bg rfl bg
 refine(aO s1).trans ((aO s2).trans ?_)
 refine(aO (ρ1:=[.val (.str W),.val (.int c),.val (.str A),.val (.str (one 61)),.val (.str S),.val (.str (T i)),.val (.str (one 44)),.val (.str (T j)),.val (.int i),.val (.int j),.no]) (zps (gP (fR rfl (c5 rfl)) r1) (gP (fR rfl (c5 rfl)) r2) rfl bg rfl bg)).trans ?_
 refine(aO (ρ1:=[.val (.str W),.val (.int c),.val (.str A),.val (.str (one 61)),.val (.str S),.val (.str (T i)),.val (.str (one 44)),.val (.str (T j)),.val (.int i),.val (.int j),.val (rL t.1.2)]) (iy (y:=(rL t.1.2,[.val (.str W),.val (.int c),.val (.str A),.val (.str (one 61)),.val (.str S),.val (.str (T i)),.val (.str (one 44)),.val (.str (T j)),.val (.int i),.val (.int j),.no])) (gP (fR rfl (c5 rfl)) r3) rfl bg)).trans ?_
 have ge:kO (.int i) (.int j)=.ok (.bool false):=by
  show R.ok (BE (decide (i ≥ j)))=_
  rw [decide_eq_false (by lia)]
 refine(aO ((gu (ki (eL (bo rfl rfl nY)) (ki (eL (bo rfl rfl nY)) (ki (eL (bo rfl rfl ge)) (eL (bo (a:=rL t.1.2) (b:=.none) (d:=.bool false) rfl rfl rfl)))))).trans rfl)).trans ?_
 unfold ax
 rw [zh7 rfl rfl rfl];rfl
def hd(l:List It):D:=gd bC (l.map fun t=>(t.1.1,t.1))
theorem wa{ρ1:En}(h:s ρ=.ok (.nx,ρ1)):oE s ρ=.ok (.nx,ρ1):=by unfold oE;rw [h];rfl
theorem zlX(h:Gk (l.map (·.1))):Gk (l.map fun t=>(t.1.1,t.1)):=by
 unfold Gk at *
 rw [Bz] at *
 exact h
abbrev cZ(X W:D)(c:Int)(H:Sl)(y4 y5 y6:Sl):En:=[.val X,.val W,.val (.int c),H,y4,y5,y6]
theorem zrL(c0:0<=c)(c6:c<=6)(ok:∀ t∈l,Ok c t)(nk:Gk (l.map (·.1)))(hl:l.length<=60):∃ y4 y5 y6,forL (gT [gN 4,gN 5]) zW (jg 1 (l.map fun t=>.str (aM c t))) (cZ X W c (.ow false (hd [])) .no .no .no)=.ok (.nx,cZ X W c (.ow false (hd l)) y4 y5 y6):=by
 rw [nO]
 obtain⟨ρ',e,y4,y5,y6,h4,h5,h6,rfl⟩:=iJ (f:=fun q:It×Nat=>Fs [.int q.2,.str (aM c q.1)]) (g:=gT [gN 4,gN 5]) (b:=zW)
  (fun done ρ=>∃ y4 y5 y6,Np y4/\Np y5/\Np y6/\ρ=cZ X W c (.ow false (hd (done.map (·.1)))) y4 y5 y6)
  (l.zipIdx 1) [] (cZ X W c (.ow false (hd [])) .no .no .no) ⟨.no,.no,.no,bg,bg,bg,rfl⟩ (by
   rintro pre q post ρ e ⟨y4,y5,y6,h4,h5,h6,rfl⟩
   rw [A1] at e
   have el:l=(pre.map (·.1))++q.1::post.map (·.1):=by
    have:=congrArg (List.map (·.1)) e
    rw [BZ,AQ,Jy] at this
    exact this
   have hq:q.1∈l:=by rw [el];simp
   have oq:=ok q.1 hq
   obtain⟨i,j,ek,i0,ij,jc⟩:=oq.ky
   have rl:=read_leaving c0 c6 oq
   have yu:bC q.1.1=.tuple [.int i,.int j,rL q.1.1.2]:=by unfold bC;rw [ek];rfl
   have nn:∀ p∈(pre.map (·.1)).map fun t:It=>(t.1.1,t.1),p.1≠[i,j]:=by
    intro p hp z
    obtain⟨s,hs,rfl⟩:=A7.mp hp
    rw [el,BZ,AQ] at nk
    unfold Gk at nk
    rw [BZ,AQ] at nk
    refine(Ft.mp nk).2.2 s.1.1 ?_ q.1.1.1 (Bc ..) (z.trans ek.symm)
    rw [Bz]
    exact CV (f:=fun t:It=>t.1.1) hs
   have pl:pre.length<=60:=by
    have:=congrArg DC el
    rw [BH,AW] at this
    lia
   have inn:=zfK bC ((pre.map (·.1)).map fun t:It=>(t.1.1,t.1)) [i,j]
   rw [zfu nn] at inn
   have pt:=xZ (f:=bC) (s:=(pre.map (·.1)).map fun t:It=>(t.1.1,t.1)) (w:=[i,j]) (q:=q.1.1) (by rw [AW,AW];unfold lim;lia)
   rw [zbA nn] at pt
   have gx:gT [gN 4,gN 5] (.tuple [.int q.2,.str (aM c q.1)]) (cZ X W c (.ow false (hd (pre.map (·.1)))) y4 y5 y6)=.ok (cZ X W c (.ow false (hd (pre.map (·.1)))) (.val (.int q.2)) (.val (.str (aM c q.1))) y6):=gX rfl h4 rfl h5
   refine⟨cZ X W c (.ow false (hd ((pre++[q]).map (·.1)))) (.val (.int q.2)) (.val (.str (aM c q.1))) (.val (bC q.1.1)),.nx,gO gx ?_,.inl rfl,_,_,_,bF _,bF _,bF _,rfl⟩
   refine(aO (ρ1:=cZ X W c (.ow false (hd (pre.map (·.1)))) (.val (.int q.2)) (.val (.str (aM c q.1))) (.val (bC q.1.1))) (iy (y:=(bC q.1.1,cZ X W c (.ow false (hd (pre.map (·.1)))) (.val (.int q.2)) (.val (.str (aM c q.1))) y6)) (gP (fR rfl (c5 rfl)) rl) rfl h6)).trans ?_
   rw [yu]
   have sl:∀ H y4 y5,eS (eV 6) dW (dX (eC (.int 2))) (cZ X W c H y4 y5 (.val (.tuple [.int i,.int j,rL q.1.1.2])))=.ok (tp [i,j],cZ X W c H y4 y5 (.val (.tuple [.int i,.int j,rL q.1.1.2]))):=fun _ _ _=>rfl
   have mi:fj inD (eS (eV 6) dW (dX (eC (.int 2)))) 3 (cZ X W c (.ow false (hd (pre.map (·.1)))) (.val (.int q.2)) (.val (.str (aM c q.1))) (.val (.tuple [.int i,.int j,rL q.1.1.2])))=.ok (.bool false,cZ X W c (.ow false (hd (pre.map (·.1)))) (.val (.int q.2)) (.val (.str (aM c q.1))) (.val (.tuple [.int i,.int j,rL q.1.1.2]))):=by
    unfold fj
    rw [sl,ah]
    show((R.ok (hd (pre.map (·.1)))).bind _)=_
    rw [ah]
    show((inD (tp [i,j]) (hd (pre.map (·.1)))).bind _)=_
    unfold hd
    rw [inn];rfl
   refine(aO ((gu (ki (eL (bo (a:=.tuple [.int i,.int j,rL q.1.1.2]) (b:=.none) (d:=.bool false) rfl rfl rfl)) (eL mi))).trans rfl)).trans ?_
   unfold dI
   have e6:eV 6 (cZ X W c (.ow false (hd (pre.map (·.1)))) (.val (.int q.2)) (.val (.str (aM c q.1))) (.val (.tuple [.int i,.int j,rL q.1.1.2])))=.ok (.tuple [.int i,.int j,rL q.1.1.2],cZ X W c (.ow false (hd (pre.map (·.1)))) (.val (.int q.2)) (.val (.str (aM c q.1))) (.val (.tuple [.int i,.int j,rL q.1.1.2]))):=rfl
   rw [e6,ah]
   show((R.ok (hd (pre.map (·.1)))).bind _)=_
   rw [ah]
   show((eS (eV 6) dW (dX (eC (.int 2))) (cZ X W c (.ow false (hd (pre.map (·.1)))) (.val (.int q.2)) (.val (.str (aM c q.1))) (.val (.tuple [.int i,.int j,rL q.1.1.2])))).bind _)=_
   rw [sl,ah]
   show((R.ok (hd (pre.map (·.1)))).bind _)=_
   rw [ah]
   rw [yu] at pt
   show((mK (gd bC ((pre.map (·.1)).map fun t:It=>(t.1.1,t.1))) (tp [i,j]) (.tuple [.int i,.int j,rL q.1.1.2])).bind _)=_
   rw [pt,ah]
   have eh:gd bC (((pre.map (·.1)).map fun t:It=>(t.1.1,t.1))++[([i,j],q.1.1)])=hd ((pre++[q]).map (·.1)):=by
    unfold hd
    rw [BZ,BZ,<- ek];rfl
   rw [eh];rfl)
 rw [A1,Jy] at e
 exact⟨y4,y5,y6,e⟩
theorem zrs{y4 y5 y6:Sl}(nk:Gk (l.map (·.1)))(hl:l.length<=60):vX (cZ X W c (.val (hd l)) y4 y5 y6)=.ok (.list ((l.map (·.1)).map bC),cZ X W c (.val (hd l)) y4 y5 y6):=by
 unfold vX
 have h:=FV.mL (k:=1) (ix:=[3]) (it:=iD (eV 3)) (g:=gN 0) (f:=e2 fC (eV 1) (eV 0)) (ρ:=cZ X W c (.val (hd l)) y4 y5 y6) (f0:=fun t:It=>tp t.1.1) (xs:=l) (fun t=>bC t.1) (by
  have k:gn (hd l)=.ok (l.map fun t=>tp t.1.1):=by
   unfold hd gd
   show R.ok _=_
   rw [Bz,Bz];rfl
  unfold iD
  rw [show eV 3 (cZ X W c (.val (hd l)) y4 y5 y6)=.ok (hd l,cZ X W c (.val (hd l)) y4 y5 y6) from rfl,ah]
  show((gn (hd l)).bind _)=_
  rw [k];rfl) (by unfold lim;lia) fun t ht=>by
   have g:=kN (zlX nk) (CV (f:=fun t:It=>(t.1.1,t.1)) ht)
   exact⟨[.val (tp t.1.1),.val (hd l)],rfl,bo rfl rfl (uD g),FV.mF (show FV.mw [.val (hd l)] by simp [FV.mw])⟩
 rw [h,Bz];rfl
theorem read_table(c1:1<=c)(c6:c<=6)(ok:∀ t∈l,Ok c t)(nk:Gk (l.map (·.1)))(hl:l.length<=60):∃ t':Tb,St (l.map (·.1)) t'/\mn [.str (Br (one 32) (T c::l.map (aM c)))]=.ok (.tuple [.int c,.tuple ((fe t').map aS)]):=by
 have tb:df c (l.map (·.1)):=⟨nk,fun e he=>by
  obtain⟨t,ht,rfl⟩:=A7.mp he
  exact(ok t ht).ky,fun e he=>by
  obtain⟨t,ht,rfl⟩:=A7.mp he
  exact(ok t ht).ln⟩
 obtain⟨t',st,ft⟩:=qC tb c1 c6 (by rw [AW];exact hl)
 refine⟨t',st,?_⟩
 have lt:=ie (i:=c) (by lia)
 have wl:∀ x∈T c::l.map (aM c),x.length<=1600:=fun x hx=>by
  rcases AX.mp hx with rfl|hx
  ·lia
  ·obtain⟨t,ht,rfl⟩:=A7.mp hx
   exact(ok t ht).len c6
 have ll:(T c::l.map (aM c)).length<=61:=by rw [AR,AW];lia
 have jl:=yE (c:=32) wl (by lia) (by decide)
 have sp:=zhO (c:=32) (l:=T c::l.map (aM c)) (by simp) (fun x hx=>by
  rcases AX.mp hx with rfl|hx
  ·exact eT 32 (by decide) c
  ·obtain⟨t,ht,rfl⟩:=A7.mp hx
   unfold aM qJ ku
   simp only [cw,B2,not_or]
   refine⟨⟨⟨⟨eT 32 (by decide) _,lK (by decide)⟩,eT 32 (by decide) _⟩,lK (by decide)⟩,zbt (lK (by decide)) fun y hy=>?_⟩
   obtain⟨p,hp,rfl⟩:=A7.mp hy
   exact zbu (by decide) (by decide) (by decide) (by decide)) (Bj jl (Bj (Jz _ ll) (by decide))) (by lia)
 rw [AQ,Bz] at sp
 obtain⟨n,rfl⟩:∃ n:Nat,c=n:=⟨c.toNat,by lia⟩
 have rw_:=read_whole (n:=n) (by lia)
 generalize Br (one 32) (T (n:Int)::l.map (aM n))=X at *
 obtain⟨y4,y5,y6,et⟩:=zrL (X:=.str X) (W:=.list (.str (T (n:Int))::l.map (AG∘aM n))) (by lia) c6 ok nk hl
 have s1:ay (gN 1) (fF sQ (eV 0) (eC (.str " "))) [.val (.str X),.no,.no,.no,.no,.no,.no]=.ok (.nx,[.val (.str X),.val (.list (.str (T (n:Int))::l.map (AG∘aM n))),.no,.no,.no,.no,.no]):=iy (y:=(.list (.str (T (n:Int))::l.map (AG∘aM n)),[.val (.str X),.no,.no,.no,.no,.no,.no])) (v8 rfl rfl sp) rfl bg
 have s2:ay (gN 2) (au nC (aa (e2 aq (eV 1) (eC (.int 0))) af)) [.val (.str X),.val (.list (.str (T (n:Int))::l.map (AG∘aM n))),.no,.no,.no,.no,.no]=.ok (.nx,[.val (.str X),.val (.list (.str (T (n:Int))::l.map (AG∘aM n))),.val (.int n),.no,.no,.no,.no]):=iy (y:=(.int n,[.val (.str X),.val (.list (.str (T (n:Int))::l.map (AG∘aM n))),.no,.no,.no,.no,.no])) (gP (c5 (bo rfl rfl (fW (d:=.str (T (n:Int))) (by decide) rfl))) rw_) rfl bg
 have ch:dF fg fg (eC (.int 1)) (eV 2) (eC (.int 6)) [.val (.str X),.val (.list (.str (T (n:Int))::l.map (AG∘aM n))),.val (.int n),.no,.no,.no,.no]=.ok (.bool true,[.val (.str X),.val (.list (.str (T (n:Int))::l.map (AG∘aM n))),.val (.int n),.no,.no,.no,.no]):=by
  have h1:fg (.int 1) (.int n)=.ok (.bool true):=by
   show R.ok (BE (decide ((1:Int)<=n)))=_
   rw [decide_eq_true c1]
  have h2:fg (.int n) (.int 6)=.ok (.bool true):=by
   show R.ok (BE (decide ((n:Int)<=6)))=_
   rw [decide_eq_true c6]
  simp only [dF,eC,eV,ah,zz0,zz1,h1,h2]
 have s3:aG (FL.bw (tB (e2 hV (eV 2) (eC .none))) (FL.bu (tB (dF fg fg (eC (.int 1)) (eV 2) (eC (.int 6)))))) dA aL [.val (.str X),.val (.list (.str (T (n:Int))::l.map (AG∘aM n))),.val (.int n),.no,.no,.no,.no]=.ok (.nx,[.val (.str X),.val (.list (.str (T (n:Int))::l.map (AG∘aM n))),.val (.int n),.no,.no,.no,.no]):=(gu (ki (eL (bo rfl rfl nY)) (zgM (eL ch)))).trans rfl
 have s4:bH 3 fc [.val (.str X),.val (.list (.str (T (n:Int))::l.map (AG∘aM n))),.val (.int n),.no,.no,.no,.no]=.ok (.nx,cZ (.str X) (.list (.str (T (n:Int))::l.map (AG∘aM n))) n (.ow false (hd [])) .no .no .no):=rfl
 have s5:eG 3 wx (cZ (.str X) (.list (.str (T (n:Int))::l.map (AG∘aM n))) n (.ow false (hd [])) .no .no .no)=.ok (.nx,cZ (.str X) (.list (.str (T (n:Int))::l.map (AG∘aM n))) n (.val (hd l)) y4 y5 y6):=by
  have w:wx (cZ (.str X) (.list (.str (T (n:Int))::l.map (AG∘aM n))) n (.ow false (hd [])) .no .no .no)=.ok (.nx,cZ (.str X) (.list (.str (T (n:Int))::l.map (AG∘aM n))) n (.ow false (hd l)) y4 y5 y6):=by
   unfold wx bM zbV
   have ct:cut (AG (T (n:Int))::l.map (AG∘aM n)) (some 1) none=l.map fun t=>AG (aM n t):=zkt _ 1 (by simp)
   have sl:fO (.list (AG (T (n:Int))::l.map (AG∘aM n))) (some 1) none=.ok (.list (l.map fun t=>AG (aM n t))):=by rw [<- ct];rfl
   have es:eS (eV 1) (dX (eC (.int 1))) dW (cZ (.str X) (.list (.str (T (n:Int))::l.map (AG∘aM n))) n (.ow false (hd [])) .no .no .no)=.ok (.list (l.map fun t=>AG (aM n t)),cZ (.str X) (.list (.str (T (n:Int))::l.map (AG∘aM n))) n (.ow false (hd [])) .no .no .no):=by
    unfold eS
    simp only [eV,eC,dX,dW,ah,zz0,zz1,sl]
   rw [c5 es,ah]
   exact et
  unfold eG
  rw [w];rfl
 unfold mn v3
 refine(if_pos rfl).trans ?_
 show((xA [.val (.str X),.no,.no,.no,.no,.no,.no]).bind _)=_
 have last:zC (je tP (aa (eV 2) (aa vX af))) (cZ (.str X) (.list (.str (T (n:Int))::l.map (AG∘aM n))) n (.val (hd l)) y4 y5 y6)=.ok (.rt (.tuple [.int n,.tuple ((fe t').map aS)]),cZ (.str X) (.list (.str (T (n:Int))::l.map (AG∘aM n))) n (.val (hd l)) y4 y5 y6):=by
  unfold zC je
  rw [fR rfl (c5 (zrs nk hl)),ah]
  show((tP [.int n,.list ((l.map (·.1)).map bC)]).bind _).bind _=_
  rw [ft];rfl
 unfold xA
 rw [aO (wa s1),aO (wa s2),aO (wa s3),aO (wa s4),aO (wa s5),last]
 rfl
end K77
namespace FV
open PySem FL
variable {w:List Int}{β:Type}
abbrev Tb:=List (List Int×List Rat)
theorem zbz{s:List (List Int×β)}{q:β}{p:List Int×β}(h:p∈ji s w q):p∈s\/p=(w,q):=by
 unfold ji at h
 split at h
 ·obtain⟨x,hx,rfl⟩:=A7.mp h
  by_cases c:x.1=w
  ·rw [if_pos c,c];exact .inr rfl
  ·rw [if_neg c];exact .inl hx
 ·rcases B2.mp h with h|h
  ·exact .inl h
  ·exact .inr (by simpa using h)
theorem zlL{s:List (List Int×β)}{q:β}(nk:Gk s):Gk (ji s w q):=by
 unfold Gk at nk ⊢
 unfold ji
 split
 ·have:(s.map fun p=>if p.1=w then(p.1,q) else p).map (·.1)=s.map (·.1):=by
   rw [Bz]
   refine GP fun p _=>?_
   show(if p.1=w then(p.1,q) else p).1=p.1
   split <;> rfl
  rw [this];exact nk
 ·rename_i h
  rw [BZ,Ft]
  refine⟨nk,by simp,?_⟩
  intro a ha b hb z
  obtain⟨p,hp,rfl⟩:=A7.mp ha
  have:b=w:=by simpa using hb
  exact h (F0.mpr ⟨p,hp,by rw [z,this];simp⟩)
end FV
namespace K77
open PySem FL TX FV
open K08 (lV gu mG df bC aS fe aQ St qC gX j5 fW nO)
variable {q:Rat}{j:Nat}{r:List Rat}{p:Bool}
abbrev Tb:=List (List Int×List Rat)
structure Tn(c:Int)(t:Tb):Prop where
 tb:df c t
 ns:∀ e∈t,∀ x∈e.2,NS x
theorem ns0:NS 0:=⟨by decide,by decide⟩
theorem zr7{f k:EF}{ρ ρ1 ρ2:En}{i:Nat}(hf:f ρ=.ok (num q,ρ1))(h1:ρ1[i]?=some (.ow p (rL r)))(hk:k ρ1=.ok (.int j,ρ2))(h2:ρ2[i]?=some (.ow p (rL r)))(h:j<r.length):setM i f k ρ=.ok (.nx,ρ2.set i (.ow p (rL (r.set j q)))):=by
 have l1:bP ρ1 i=.ok (r.map num):=by unfold bP;rw [h1];rfl
 have l2:bP ρ2 i=.ok (r.map num):=by unfold bP;rw [h2];rfl
 have ix:dU (r.map num).length (j:Int)=some j:=by
  unfold dU
  rw [AW,if_pos (by lia),if_pos (by lia)];rfl
 have pm:bW ρ2 i (.list ((r.map num).set j (num q)))=ρ2.set i (.ow p (rL (r.set j q))):=by
  unfold bW
  rw [h2,<- List.map_set];rfl
 unfold setM
 rw [hf,ah]
 show((bP ρ1 i).bind _)=_
 rw [l1,ah]
 show((k ρ1).bind _)=_
 rw [hk,ah]
 show((bP ρ2 i).bind _)=_
 rw [l2,ah]
 show((R.of (dU (r.map num).length (j:Int))).bind _)=_
 rw [ix]
 show R.ok (Fl.nx,bW ρ2 i (.list ((r.map num).set j (num q))))=_
 rw [pm]
theorem zr9(h:∀ x∈r,NS x)(hq:NS q):∀ x∈r.set j q,NS x:=fun x hx=>by
 rcases List.mem_or_eq_of_mem_set hx with h1|h1
 ·exact h x h1
 ·rw [h1];exact hq
abbrev cE(d:D)(c m:Int)(H y4 y5 y6 y7:Sl):En:=[.ow true d,.val (.int c),.val (.int m),H,y4,y5,y6,y7]
variable {k n:Nat}{t:Tb}{y5 y6 y7:Sl}{c i:Int}{d:D}
section
variable {m:Int}
theorem zju(c0:0<=c)(c6:c<=6)(m1:1<=m)(m4:m<=4){H y4:Sl}(hp:cx k d)(hk:k<=20000)(h7:Np y7)(hn:(n:Int)=c+1) :
  ∃(r:List Rat) (d':D) (z7:Sl),Np z7/\z0 (cE d c m H y4 y5 (.ow false (rL (aQ n))) y7)=.ok (.nx,cE d' c m H y4 y5 (.ow false (rL r)) z7)/\r.length=n/\(∀ x∈r,NS x)/\cx (k+17) d':=by
 obtain⟨g,d0,t0,g0,g1,p0⟩:=qD hp (by lia) m m1 (by lia)
 have hlen:(de 0 g).length=g.toNat:=by rw [sP];simp
 obtain⟨ρ',e,r,d',z7,n7,rfl,rl,rn,pp⟩:=iJ (f:=fun x:D=>x) (g:=gN 7) (b:=zdd)
  (fun done ρ=>∃(r:List Rat) (d':D) (z7:Sl),Np z7/\ρ=cE d' c m H y4 y5 (.ow false (rL r)) z7/\r.length=n/\(∀ x∈r,NS x)/\cx (k+1+4*done.length) d')
  (de 0 g) [] (cE d0 c m H y4 y5 (.ow false (rL (aQ n))) y7) ⟨aQ n,d0,y7,h7,rfl,zdn n,fun x hx=>by
   rw [Jl hx];exact ns0,p0⟩ (by
   rintro pre x post ρ e ⟨r,d1,z7,n7,rfl,rl,rn,pp⟩
   rw [A1] at e
   have aY:pre.length<4:=by
    have:=congrArg DC e
    rw [hlen,BH,AR] at this
    lia
   obtain⟨q,d2,t2,qn,p2⟩:=nine pp (by lia)
   obtain⟨j,d3,t3,j0,j1,p3⟩:=qD p2 (by lia) (c+1) (by lia) (by lia)
   obtain⟨j,rfl⟩:∃ i:Nat,j=i:=⟨j.toNat,by lia⟩
   have a1:bA iX [.m 0] (cE d1 c m H y4 y5 (.ow false (rL r)) (.val x))=.ok (num q,cE d2 c m H y4 y5 (.ow false (rL r)) (.val x)):=zeK (p:=true) (d:=d1) rfl t2
   have ad:aC (.int c) (.int 1)=.ok (.int (c+1)):=rfl
   have a2:bA gL [.m 0,.v (e2 aC (eV 1) (eC (.int 1)))] (cE d2 c m H y4 y5 (.ow false (rL r)) (.val x))=.ok (.int j,cE d3 c m H y4 y5 (.ow false (rL r)) (.val x)):=uz (p:=true) (d:=d2) rfl (bo rfl rfl ad) t3
   exact⟨_,.nx,gO (gW (x:=z7) rfl n7) (zr7 (p:=false) a1 rfl a2 rfl (by lia)),.inl rfl,r.set j q,d3,_,bF x,rfl,by rw [C6];exact rl,zr9 rn qn,p3.mono (by rw [BH,DU];lia)⟩)
 rw [A1,hlen] at pp
 rw [List.map_id'] at e
 refine⟨r,d',z7,n7,?_,rl,rn,pp.mono (by lia)⟩
 have a1:bA gL [.m 0,.v (eV 2)] (cE d c m H y4 y5 (.ow false (rL (aQ n))) y7)=.ok (.int g,cE d0 c m H y4 y5 (.ow false (rL (aQ n))) y7):=uz (p:=true) (d:=d) rfl rfl t0
 have hr:iu [.int g]=.ok (de 0 g):=sO g0 (by lia)
 unfold z0 bM cQ
 rw [c5 a1,ah,hr]
 exact e
theorem zjt(c0:0<=c)(c6:c<=6)(m1:1<=m)(m4:m<=4){j:Int}(i0:0<=i)(ij:i<j)(jc:j<c)(h6:Np y6)(h7:Np y7)(hp:cx k d)(hk:k<=20000)(ht:Tn c t)(hl:t.length<=100) :
  ∃(t':Tb) (d':D) (z6 z7:Sl),Np z6/\Np z7/\zS (cE d c m (.ow false (gd rL t)) (.val (.int i)) (.val (.int j)) y6 y7)=.ok (.nx,cE d' c m (.ow false (gd rL t')) (.val (.int i)) (.val (.int j)) z6 z7)/\Tn c t'/\t'.length<=t.length+1/\cx (k+17) d':=by
 obtain⟨n,hn⟩:∃ n:Nat,(n:Int)=c+1:=⟨(c+1).toNat,by lia⟩
 have bl:=xF hn (by lia)
 obtain⟨r,d',z7,n7,ew,rl,rn,pp⟩:=zju (y4:=.val (.int i)) (y5:=.val (.int j)) (H:=.ow false (gd rL t)) c0 c6 m1 m4 hp hk h7 hn
 have pt:=xZ (f:=rL) (s:=t) (w:=[i,j]) (q:=r) (by unfold lim;lia)
 refine⟨ji t [i,j] r,d',.val (rL r),z7,bF _,n7,?_,⟨⟨FV.zlL ht.tb.nk,fun e he=>?_,fun e he=>?_⟩,fun e he=>?_⟩,zlM _ _ _,pp⟩
 ·refine(aO (ρ1:=cE d c m (.ow false (gd rL t)) (.val (.int i)) (.val (.int j)) (.ow false (rL (aQ n))) y7) (qw (y:=(rL (aQ n),cE d c m (.ow false (gd rL t)) (.val (.int i)) (.val (.int j)) y6 y7)) (gP (c5 (bo rfl rfl rfl)) bl) rfl h6)).trans ((aO ew).trans ?_)
  show dI 3 _ _ (cE d' c m (.ow false (gd rL t)) (.val (.int i)) (.val (.int j)) (.val (rL r)) z7)=_
  unfold dI
  have e6:eV 6 (cE d' c m (.ow false (gd rL t)) (.val (.int i)) (.val (.int j)) (.val (rL r)) z7)=.ok (rL r,cE d' c m (.ow false (gd rL t)) (.val (.int i)) (.val (.int j)) (.val (rL r)) z7):=rfl
  have tu:aP (aa (eV 4) (aa (eV 5) af)) (cE d' c m (.ow false (gd rL t)) (.val (.int i)) (.val (.int j)) (.val (rL r)) z7)=.ok (tp [i,j],cE d' c m (.ow false (gd rL t)) (.val (.int i)) (.val (.int j)) (.val (rL r)) z7):=wo rfl rfl
  rw [e6,ah]
  show((R.ok (gd rL t)).bind _)=_
  rw [ah]
  show((aP _ (cE d' c m (.ow false (gd rL t)) (.val (.int i)) (.val (.int j)) (.val (rL r)) z7)).bind _)=_
  rw [tu,ah]
  show((R.ok (gd rL t)).bind _)=_
  rw [ah]
  show((mK (gd rL t) (tp [i,j]) (rL r)).bind _)=_
  rw [pt];rfl
 ·rcases FV.zbz he with h|h
  ·exact ht.tb.ky e h
  ·rw [h];exact⟨i,j,rfl,i0,ij,jc⟩
 ·rcases FV.zbz he with h|h
  ·exact ht.tb.rw e h
  ·rw [h];show(r.length:Int)=_;lia
 ·rcases FV.zbz he with h|h
  ·exact ht.ns e h
  ·rw [h];exact rn
theorem zjr(c0:0<=c)(c6:c<=6)(m1:1<=m)(m4:m<=4)(i0:0<=i)(ic:i<c)(h5:Np y5)(h6:Np y6)(h7:Np y7)(hp:cx k d)(hk:k<=10000)(ht:Tn c t)(hl:t.length<=50) :
  ∃(t':Tb) (d':D) (z5 z6 z7:Sl),Np z5/\Np z6/\Np z7/\wq (cE d c m (.ow false (gd rL t)) (.val (.int i)) y5 y6 y7)=.ok (.nx,cE d' c m (.ow false (gd rL t')) (.val (.int i)) z5 z6 z7)/\Tn c t'/\t'.length<=t.length+6/\cx (k+102) d':=by
 have hlen:(de (i+1) c).length=(c-(i+1)).toNat:=by rw [sP];simp
 have e2:=sP (i+1) c
 obtain⟨ρ',e,t',d',z5,z6,z7,n5,n6,n7,rfl,tt,tl,pp⟩:=iJ (f:=A8) (g:=gN 5) (b:=zS)
  (fun done ρ=>∃(t':Tb) (d':D) (z5 z6 z7:Sl),Np z5/\Np z6/\Np z7/\ρ=cE d' c m (.ow false (gd rL t')) (.val (.int i)) z5 z6 z7/\Tn c t'/\t'.length<=t.length+done.length/\cx (k+17*done.length) d')
  ((Bh (c-(i+1)).toNat).map fun(z:Nat)=>(i+1)+(z:Int)) [] (cE d c m (.ow false (gd rL t)) (.val (.int i)) y5 y6 y7) ⟨t,d,y5,y6,y7,h5,h6,h7,rfl,ht,AI _,hp⟩ (by
   rintro pre x post ρ e ⟨t',d1,z5,z6,z7,n5,n6,n7,rfl,tt,tl,pp⟩
   rw [A1] at e
   have aY:pre.length<6:=by
    have:=congrArg DC e
    rw [AW,CM,BH,AR] at this
    lia
   have hx:x∈(Bh (c-(i+1)).toNat).map fun(z:Nat)=>(i+1)+(z:Int):=by rw [e];simp
   obtain⟨z,hz,rfl⟩:=A7.mp hx
   have:=D5.mp hz
   obtain⟨t2,d2,w6,w7,m6,m7,et,t3,t4,p3⟩:=zjt c0 c6 m1 m4 i0 (j:=(i+1)+(z:Int)) (by lia) (by lia) n6 n7 pp (by lia) tt (by lia)
   exact⟨_,.nx,gO (gW (x:=z5) rfl n5) et,.inl rfl,t2,d2,_,w6,w7,bF _,m6,m7,rfl,t3,by rw [BH,DU];lia,p3.mono (by rw [BH,DU];lia)⟩)
 rw [A1,AW,CM] at tl pp
 refine⟨t',d',z5,z6,z7,n5,n6,n7,?_,tt,by lia,pp.mono (by lia)⟩
 have hr:ko [.int (i+1),.int c]=.ok (de (i+1) c):=zrH (by lia) (by lia) (by lia) (by lia)
 have ad:aC (.int i) (.int 1)=.ok (.int (i+1)):=rfl
 unfold wq zdm bM gG
 rw [fR (bo rfl rfl ad) (c5 rfl),ah,hr,e2]
 exact e
theorem zjs(c1:1<=c)(c6:c<=6)(m1:1<=m)(m4:m<=4)(hp:cx k d)(hk:k<=5000) :
  ∃(t:Tb) (d':D),zab [d,.int c,.int m]=.ok (.list [.int c,gd rL t],[d',.int c,.int m])/\Tn c t/\cx (k+612) d':=by
 obtain⟨ρ',e,t',d',z4,z5,z6,z7,n4,n5,n6,n7,rfl,tt,tl,pp⟩:=iJ (f:=A8) (g:=gN 4) (b:=wq)
  (fun done ρ=>∃(t':Tb) (d':D) (z4 z5 z6 z7:Sl),Np z4/\Np z5/\Np z6/\Np z7/\ρ=cE d' c m (.ow false (gd rL t')) z4 z5 z6 z7/\Tn c t'/\t'.length<=6*done.length/\cx (k+102*done.length) d')
  ((Bh c.toNat).map fun(z:Nat)=>(z:Int)) [] (cE d c m (.ow false (gd rL [])) .no .no .no .no) ⟨[],d,.no,.no,.no,.no,bg,bg,bg,bg,rfl,⟨⟨Hv,fun _ h=>by simp at h,fun _ h=>by simp at h⟩,fun _ h=>by simp at h⟩,B6 _,hp⟩ (by
   rintro pre x post ρ e ⟨t',d1,z4,z5,z6,z7,n4,n5,n6,n7,rfl,tt,tl,pp⟩
   rw [A1] at e
   have aY:pre.length<6:=by
    have:=congrArg DC e
    rw [AW,CM,BH,AR] at this
    lia
   have hx:x∈(Bh c.toNat).map fun(z:Nat)=>(z:Int):=by rw [e];simp
   obtain⟨z,hz,rfl⟩:=A7.mp hx
   have:=D5.mp hz
   obtain⟨t2,d2,w5,w6,w7,m5,m6,m7,et,t3,t4,p3⟩:=zjr (by lia) c6 m1 m4 (i:=(z:Int)) (by lia) (by lia) n5 n6 n7 pp (by lia) tt (by lia)
   exact⟨_,.nx,gO (gW (x:=z4) rfl n4) et,.inl rfl,t2,d2,_,w5,w6,w7,bF _,m5,m6,m7,rfl,t3,by rw [BH,DU];lia,p3.mono (by rw [BH,DU];lia)⟩)
 rw [A1,AW,CM] at tl pp
 refine⟨t',d',?_,tt,pp.mono (by lia)⟩
 have hr:iu [.int c]=.ok (de 0 c):=sO (by lia) (by lia)
 have s2:Aa (cE d c m (.ow false (gd rL [])) .no .no .no .no)=.ok (.nx,cE d' c m (.ow false (gd rL t')) z4 z5 z6 z7):=by
  unfold Aa bM cQ
  rw [c5 rfl,ah,hr,zc0 (by lia)]
  rw [Bz] at e
  exact e
 have s1:bH 3 fc (cE d c m .no .no .no .no .no)=.ok (.nx,cE d c m (.ow false (gd rL [])) .no .no .no .no):=rfl
 have s3:dN 3 (cT (bQ (aa (eV 1) (aa (eV 3) af)))) (cE d' c m (.ow false (gd rL t')) z4 z5 z6 z7)=.ok (.rf (.list [.int c,gd rL t']),cE d' c m (.val (gd rL t')) z4 z5 z6 z7):=by
  show cT _ (cE d' c m (.val (gd rL t')) z4 z5 z6 z7)=_
  unfold cT bQ
  rw [fR (f:=eV 1) (d:=.int c) rfl (c5 (f:=eV 3) (d:=gd rL t') rfl),ah]
  show(aF (leB 2 lim) _).bind _=_
  rw [aW (by decide)];rfl
 show((xj (cE d c m .no .no .no .no .no)).bind _)=_
 unfold xj
 rw [aO s1,aO s2,s3]
 rfl
end
theorem zM(h:df c t)(c6:c<=6):t.length<=15:=by
 have nd:(t.map (·.1)).Nodup:=h.nk
 have:=List.Nodup.length_le_of_subset nd (l₂:=[[0,1],[0,2],[0,3],[0,4],[0,5],[1,2],[1,3],[1,4],[1,5],[2,3],[2,4],[2,5],[3,4],[3,5],[4,5]]) fun x hx=>by
  obtain⟨e,m,rfl⟩:=A7.mp hx
  obtain⟨i,j,gk,i0,ij,jc⟩:=h.ky e m
  show e.1∈_
  rw [gk]
  have:(i=0\/i=1\/i=2\/i=3\/i=4)/\(j=1\/j=2\/j=3\/j=4\/j=5):=by lia
  rcases this with⟨rfl|rfl|rfl|rfl|rfl,rfl|rfl|rfl|rfl|rfl⟩ <;> first|lia|simp
 rw [AW] at this
 exact this
end K77
namespace K77
open PySem FL FV
open K08 (Tb df St we hZ bC aS gX)
variable {t:Tb}{c:Int}
theorem zh2(h:df c t)(hl:t.length<=60):∃ u:Tb,St t u/\jV (gd rL t)=.ok (.list (u.map fun e=>tp e.1)) :=
 we (t:=t) (d:=gd rL t) (h:=fun e=>tp e.1) (by show R.ok ((t.map fun p=>(tp p.1,rL p.2)).map (·.1))=_;rw [Bz];rfl) (fun e m=>by obtain⟨i,j,eq,_⟩:=h.ky e m;unfold hZ;rw [eq];rfl) h.nd hl
end K77
namespace K77
open PySem FL TX FV
open K08 (lV gu mG df bC aS fe aQ St qC gX j5 fW nO)
variable {c j:Int}{b p:Bool}{ch:List It}{l:List D}{x y:gV}{t:It}{f:EF}{d:D}{i:Nat}
theorem zec:StrLaws.At x y x.length i↔∃ A B,TX.cp x=A++TX.cp y++B/\A.length=i:=by
 unfold StrLaws.At
 rw [StrLaws.subAt_eq,beq_iff_eq,jR x,jR y]
 constructor
 ·rintro⟨h1,h2⟩
  refine⟨(TX.cp x).take i,((TX.cp x).drop i).drop (TX.cp y).length,?_,by rw [Gb];lia⟩
  have e1:=Im (TX.cp y).length ((TX.cp x).drop i)
  rw [show List.take (TX.cp y).length (List.drop i (TX.cp x))=TX.cp y from h2] at e1
  rw [C7,e1,Im]
 ·rintro⟨A,B,h,rfl⟩
  refine⟨by rw [h];simp,?_⟩
  show List.take (TX.cp y).length (List.drop A.length (TX.cp x))=TX.cp y
  rw [h,C7,List.drop_left,List.take_left]
theorem zbX(h:b=true↔∃ A B,TX.cp x=A++TX.cp y++B):nW (.str y) (.str x)=.ok (.bool b):=by
 rcases Jv x y 1 (AI _) with⟨e,n⟩|⟨i,r,e,a,_⟩
 ·show R.ok (BE (!(C5 x y 0 x.length 1).isEmpty))=_
  rw [e]
  cases b with
  | false=>rfl
  | true =>
   obtain⟨A,B,z⟩:=h.mp rfl
   exact absurd (zec.mpr ⟨A,B,z,rfl⟩) (n A.length)
 ·show R.ok (BE (!(C5 x y 0 x.length 1).isEmpty))=_
  rw [e]
  obtain⟨A,B,z,_⟩:=zec.mp a
  rw [h.mpr ⟨A,B,z⟩];rfl
noncomputable def eD(ws:List (List Nat)):List Nat:=ws.flatMap fun w=>32::w
theorem zeX:∀(a:gV) (ws:List gV),TX.cp (Br (one 32) (a::ws))=TX.cp a++eD (ws.map TX.cp)
 | a,[]=>by show TX.cp a=_;simp [eD]
 | a,b::ws=>by
  rw [oh,cw,cw,zeX b ws]
  show TX.cp a++[32]++_=_
  simp [eD]
theorem first{c:Nat}:∀{X:List Nat},c∈X->∃ a b,X=a++c::b/\c∉a
 | x::X,h=>by
  by_cases e:x=c
  ·subst e;exact⟨[],X,rfl,by simp⟩
  ·obtain⟨a,b,h1,h2⟩:=first ((AX.mp h).resolve_left fun z=>e z.symm)
   exact⟨x::a,b,by rw [h1];rfl,fun m=>by
    rcases AX.mp m with m|m
    ·exact e m.symm
    ·exact h2 m⟩
theorem pre_of{p Y w:List Nat}(hp:32∉p):∀{ws:List (List Nat)},p++Y=w++eD ws->∃ Z,w=p++Z:=fun{ws} h=>by
 rcases List.append_eq_append_iff.mp h with⟨a,h1,h2⟩|⟨a,h1,h2⟩
 ·exact⟨a,h1⟩
 ·cases a with
  | nil=>exact⟨[],by rw [h1];simp⟩
  | cons z a =>
   cases ws with
   | nil=>simp [eD] at h2
   | cons v ws =>
    have:z=32:=by
     simp only [eD,List.flatMap_cons,Bm,FX] at h2
     exact h2.1.symm
    subst this
    exact absurd (by rw [h1];simp) hp
theorem inf{p:List Nat}(hp:32∉p):∀(ws:List (List Nat)) (X Y A:List Nat),32∉A->(∀ w∈ws,32∉w)->X++32::(p++Y)=A++eD ws->∃ w∈ws,∃ Z,w=p++Z
 | [],X,Y,A,hA,_,h=>by
  have:32∈A++eD []:=by rw [<- h];simp
  simp [eD] at this
  exact absurd this hA
 | w::ws,X,Y,A,hA,hw,h=>by
  have e:A++eD (w::ws)=A++32::(w++eD ws):=by simp [eD]
  rw [e] at h
  by_cases hX:32∈X
  ·obtain⟨a,b,rfl,ha⟩:=first hX
   rw [C7,Bm] at h
   obtain⟨_,h2⟩:=rA ha hA h
   obtain⟨v,hv,Z,ez⟩:=inf hp ws b Y w (hw w (Bc ..)) (fun v hv=>hw v (Be _ hv)) h2
   exact⟨v,Be _ hv,Z,ez⟩
  ·obtain⟨_,h2⟩:=rA hX hA h
   obtain⟨Z,ez⟩:=pre_of hp h2
   exact⟨w,Bc ..,Z,ez⟩
theorem zfL{p Z w:List Nat}:∀{ws:List (List Nat)},w∈ws->w=p++Z->∃ A B,eD ws=A++32::p++B
 | v::ws,h,e=>by
  rcases AX.mp h with rfl|h
  ·exact⟨[],Z++eD ws,by rw [e];simp [eD]⟩
  ·obtain⟨A,B,z⟩:=zfL h e
   exact⟨32::(v++A),B,by
    show eD (v::ws)=_
    have:eD (v::ws)=32::(v++eD ws):=by simp [eD]
    rw [this,z];simp⟩
theorem zdM{i:Int}(hi:0<=i)(hj:0<=j)(i9:i<1000)(j9:j<1000)(h:T i=T j):i=j:=by
 obtain⟨a,rfl⟩:∃ n:Nat,i=n:=⟨i.toNat,by lia⟩
 obtain⟨b,rfl⟩:∃ n:Nat,j=n:=⟨j.toNat,by lia⟩
 have h1:=read_whole (n:=a) (by lia)
 have h2:=read_whole (n:=b) (by lia)
 rw [h,h2] at h1
 have:=R.ok.inj h1
 exact(PyData.int.inj this).symm
def za(i j:Int):gV:=one 32++T i++one 44++T j++one 61
theorem zkp(i j:Int):TX.cp (za i j)=32::(TX.cp (T i)++44::(TX.cp (T j)++[61])):=by
 unfold za
 rw [cw,cw,cw,cw]
 show [32]++TX.cp (T i)++[44]++TX.cp (T j)++[61]=_
 simp
theorem zeY{i:Int}(e:t.1.1=[i,j]):TX.cp (aM c t)=TX.cp (T i)++44::(TX.cp (T j)++61::TX.cp (ku c t.2)):=by
 have hw:aM c t=T i++one 44++T j++one 61++ku c t.2:=by unfold aM qJ;rw [e];rfl
 rw [hw,cw,cw,cw,cw]
 show TX.cp (T i)++[44]++TX.cp (T j)++[61]++_=_
 simp
theorem zlD(t:It):32∉TX.cp (aM c t):=by
 unfold aM qJ ku
 simp only [cw,B2,not_or]
 refine⟨⟨⟨⟨eT 32 (by decide) _,lK (by decide)⟩,eT 32 (by decide) _⟩,lK (by decide)⟩,zbt (lK (by decide)) fun y hy=>?_⟩
 obtain⟨p,hp,rfl⟩:=A7.mp hy
 exact zbu (by decide) (by decide) (by decide) (by decide)
def txt(c:Int)(ch:List It):gV:=Br (one 32) (T c::ch.map (aM c))
theorem ztl(c6:c<=6)(ok:∀ t∈ch,Ok c t){i:Int}(i0:0<=i)(ij:i<j)(jc:j<c):nW (.str (za i j)) (.str (txt c ch))=.ok (.bool (ch.any fun t=>decide (t.1.1=[i,j]))):=by
 refine zbX ?_
 unfold txt
 rw [zeX,zkp,F0]
 constructor
 ·rintro⟨t,ht,e⟩
  have e:=of_decide_eq_true e
  obtain⟨A,B,z⟩:=zfL (ws:=(ch.map (aM c)).map TX.cp) (p:=TX.cp (T i)++44::(TX.cp (T j)++[61])) (Z:=TX.cp (ku c t.2)) (CV (CV ht)) (by rw [zeY e];simp)
  exact⟨TX.cp (T c)++A,B,by rw [z];simp⟩
 ·rintro⟨A,B,z⟩
  rw [C7,Bm] at z
  have hp:32∉TX.cp (T i)++44::(TX.cp (T j)++[61]):=by
   simp only [B2,AX,not_or]
   exact⟨eT 32 (by decide) i,by decide,eT 32 (by decide) j,by decide,by simp⟩
  obtain⟨w,hw,Z,ez⟩:=inf hp _ A B (TX.cp (T c)) (eT 32 (by decide) c) (fun w hw=>by
   obtain⟨s,hs,rfl⟩:=A7.mp hw
   obtain⟨t,_,rfl⟩:=A7.mp hs
   exact zlD t) z.symm
  obtain⟨s,hs,rfl⟩:=A7.mp hw
  obtain⟨t,ht,rfl⟩:=A7.mp hs
  obtain⟨a,b,e,a0,ab,bc⟩:=(ok t ht).ky
  rw [zeY e,C7,Bm,C7] at ez
  obtain⟨h1,h2⟩:=rA (eT 44 (by decide) a) (eT 44 (by decide) i) ez
  obtain⟨h3,_⟩:=rA (eT 61 (by decide) b) (eT 61 (by decide) j) h2
  have g1:=zdM a0 i0 (by lia) (by lia) (TX.ext h1)
  have g2:=zdM (by lia) (by lia) (by lia) (by lia) (TX.ext h3)
  exact⟨t,ht,decide_eq_true (by rw [e,g1,g2])⟩
abbrev iH(X:D)(S:gV)(l:List D)(y3 y4:Sl):En:=[.val X,.val (.str S),.ow false (.list l),y3,y4]
theorem zd9{ρ ρ1:En}(h0:bP ρ i=.ok l)(hf:f ρ=.ok (d,ρ1))(h1:ρ1[i]?=some (.ow p (.list l)))(hl:l.length+1<=lim):gh i fI f ρ=.ok (.nx,ρ1.set i (.ow p (.list (l++[d])))):=by
 have l1:bP ρ1 i=.ok l:=by unfold bP;rw [h1]
 have ap:fI l d=.ok (l++[d]):=aW (ib hl)
 have pm:bW ρ1 i (.list (l++[d]))=ρ1.set i (.ow p (.list (l++[d]))):=by unfold bW;rw [h1]
 unfold gh
 rw [h0,ah,hf,ah]
 show((bP ρ1 i).bind _)=_
 rw [l1,ah]
 show((fI l d).bind _)=_
 rw [ap,ah,pm]
theorem ztm(c6:c<=6)(ok:∀ t∈ch,Ok c t){t u:Tb}(ht:Tn c t)(hu:St t u)(hs:jV (gd rL t)=.ok (.list (u.map fun e=>tp e.1)))(hl:(txt c ch).length<=500000) :
  zah [.list [.int c,gd rL t],.str (txt c ch)]=.ok (.tuple ((u.filter fun e=>ch.any fun x=>decide (x.1.1=e.1)).map aS)):=by
 have ul:u.length<=15:=by rw [hu.pm.length_eq];exact zM ht.tb c6
 obtain⟨ρ',e,y3,y4,h3,h4,rfl⟩:=iJ (f:=fun e:List Int×List Rat=>tp e.1) (g:=gT [gN 3,gN 4]) (b:=zdg)
  (fun done ρ=>∃ y3 y4,Np y3/\Np y4/\ρ=iH (.list [.int c,gd rL t]) (txt c ch) ((done.filter fun e=>ch.any fun x=>decide (x.1.1=e.1)).map aS) y3 y4)
  u [] (iH (.list [.int c,gd rL t]) (txt c ch) [] .no .no) ⟨.no,.no,bg,bg,rfl⟩ (by
   rintro pre q post ρ e ⟨y3,y4,h3,h4,rfl⟩
   rw [A1] at e
   have mq:q∈u:=by rw [e];simp
   have mt:q∈t:=hu.pm.subset mq
   obtain⟨i,j,ek,i0,ij,jc⟩:=ht.tb.ky q mt
   have pl:pre.length+1<=u.length:=by rw [e];simp
   have fl:(pre.filter fun e=>ch.any fun x=>decide (x.1.1=e.1)).length<=pre.length:=F1 ..
   have gx:gT [gN 3,gN 4] (tp q.1) (iH (.list [.int c,gd rL t]) (txt c ch) ((pre.filter fun e=>ch.any fun x=>decide (x.1.1=e.1)).map aS) y3 y4)=.ok (iH (.list [.int c,gd rL t]) (txt c ch) ((pre.filter fun e=>ch.any fun x=>decide (x.1.1=e.1)).map aS) (.val (.int i)) (.val (.int j))):=by rw [ek];exact gX rfl h3 rfl h4
   have l2:=ie (i:=i) (by lia)
   have l3:=ie (i:=j) (by lia)
   have a1:cv (.str (one 32)) (.str (T i))=.ok (.str (one 32++T i)):=aW (eE (by show 1+_<=_;lia))
   have a2:cv (.str (one 32++T i)) (.str (one 44))=.ok (.str (one 32++T i++one 44)):=aW (eE (by rw [len_app];show 1+_+1<=_;lia))
   have a3:cv (.str (one 32++T i++one 44)) (.str (T j))=.ok (.str (one 32++T i++one 44++T j)):=aW (eE (by rw [len_app,len_app];show 1+_+1+_<=_;lia))
   have a4:cv (.str (one 32++T i++one 44++T j)) (.str (one 61))=.ok (.str (za i j)):=aW (eE (by rw [len_app,len_app,len_app];show 1+_+1+_+1<=_;lia))
   have wi:=ztl c6 ok i0 ij jc
   have tt:∀ l,tB (e2 nW (e2 cv (e2 cv (e2 cv (e2 cv (eC (.str " ")) (e1 iA (eV 3))) (eC (.str ","))) (e1 iA (eV 4))) (eC (.str "="))) (eV 1)) (iH (.list [.int c,gd rL t]) (txt c ch) l (.val (.int i)) (.val (.int j)))=.ok (ch.any fun x=>decide (x.1.1=[i,j]),iH (.list [.int c,gd rL t]) (txt c ch) l (.val (.int i)) (.val (.int j))):=fun l =>
    eL (bo (bo (bo (bo (bo rfl (jI rfl (str_int (by lia))) a1) rfl a2) (jI rfl (str_int (by lia))) a3) rfl a4) rfl wi)
   have gg:=kN ht.tb.nk mt
   have dx:=uD (f:=rL) gg
   rw [ek] at dx
   by_cases b:(ch.any fun x=>decide (x.1.1=[i,j]))=true
   ·refine⟨iH (.list [.int c,gd rL t]) (txt c ch) (((pre++[q]).filter fun e=>ch.any fun x=>decide (x.1.1=e.1)).map aS) (.val (.int i)) (.val (.int j)),.nx,gO gx ?_,.inl rfl,_,_,bF _,bF _,rfl⟩
    have hq:aS q=.tuple [.int i,.int j,rT q.2]:=by unfold aS;rw [ek];rfl
    have ei:e2 fC (e2 aq (eV 0) (eC (.int 1))) (aP (aa (eV 3) (aa (eV 4) af))) (iH (.list [.int c,gd rL t]) (txt c ch) ((pre.filter fun e=>ch.any fun x=>decide (x.1.1=e.1)).map aS) (.val (.int i)) (.val (.int j)))=.ok (rL q.2,iH (.list [.int c,gd rL t]) (txt c ch) ((pre.filter fun e=>ch.any fun x=>decide (x.1.1=e.1)).map aS) (.val (.int i)) (.val (.int j))):=bo (bo rfl rfl (fW (d:=gd rL t) (by decide) rfl)) (wo rfl rfl) dx
    have ap:=zd9 (i:=2) (p:=false) (l:=(pre.filter fun e=>ch.any fun x=>decide (x.1.1=e.1)).map aS) (ρ:=iH (.list [.int c,gd rL t]) (txt c ch) ((pre.filter fun e=>ch.any fun x=>decide (x.1.1=e.1)).map aS) (.val (.int i)) (.val (.int j))) rfl (zh7 (f:=eV 3) (h:=eV 4) rfl rfl (jI ei (K08.zda q.2))) rfl (by rw [AW];unfold lim;lia)
    refine(lV ((tt _).trans (by rw [b]))).trans (ap.trans ?_)
    rw [GV,GU (by rw [ek];exact b),GW,BZ,AQ,BW,hq]
    rfl
   ·refine⟨iH (.list [.int c,gd rL t]) (txt c ch) (((pre++[q]).filter fun e=>ch.any fun x=>decide (x.1.1=e.1)).map aS) (.val (.int i)) (.val (.int j)),.nx,gO gx ?_,.inl rfl,_,_,bF _,bF _,rfl⟩
    rw [GV,GR (by rw [ek];exact b),GW,DB]
    exact(gu ((tt _).trans (by rw [Bool.eq_false_iff.mpr b]))).trans rfl)
 rw [A1] at e
 refine e7 (ρ:=iH (.list [.int c,gd rL t]) (txt c ch) ((u.filter fun e=>ch.any fun x=>decide (x.1.1=e.1)).map aS) y3 y4) rfl ?_
 show zaH [.val (.list [.int c,gd rL t]),.val (.str (txt c ch)),.no,.no,.no]=_
 have s1:bH 2 (bQ af) [.val (.list [.int c,gd rL t]),.val (.str (txt c ch)),.no,.no,.no]=.ok (.nx,iH (.list [.int c,gd rL t]) (txt c ch) [] .no .no):=rfl
 have s2:Ae (iH (.list [.int c,gd rL t]) (txt c ch) [] .no .no)=.ok (.nx,iH (.list [.int c,gd rL t]) (txt c ch) ((u.filter fun e=>ch.any fun x=>decide (x.1.1=e.1)).map aS) y3 y4):=by
  unfold Ae bM iE
  rw [jI (bo rfl rfl (fW (d:=gd rL t) (by decide) rfl)) hs,ah]
  exact e
 exact(aO s1).trans ((aO s2).trans rfl)
end K77
namespace K77
open PySem FL TX FV
open K08 (lV gu mG df bC aS fe aQ St qC gX j5 fW nO sr)
variable {l:List gV}{β:Type}
theorem zbL{l m:List (List Int×β)}(h:l.Perm m)(k:Gk m):Gk l:=(h.map (fun x:List Int×β=>x.1)).nodup_iff.mpr k
theorem zfv{l m:List (List Int×β)}(h:l.Sublist m)(k:Gk m):Gk l:=List.Nodup.sublist (h.map (fun x:List Int×β=>x.1)) k
theorem zfX(s a:gV):∀(x:gV) (l:List gV),Br s (x::(l++[a]))=Br s (x::l)++s++a
 | _,[]=>rfl
 | x,y::r=>by
  rw [Bm,oh,zfX s a y r,oh]
  exact TX.ext (by simp only [cw,C7])
theorem zjy(c:Int)(p:Nat×Rat):As (bf c p):=((zjx _).app (o6 (by decide))).app (zeb _ _)
theorem ne_nil(h:∀ s∈l,As s):cg (.list (l.map AG)) (.list [])=.ok (.bool (!decide (l=[]))):=by
 have p1:Pl 1 (.list (l.map AG)):=zcE fun d hd=>by
  obtain⟨s,hs,rfl⟩:=A7.mp hd
  exact(h s hs).pl
 have p2:Pl 1 (.list []):=zcE fun d hd=>by simp at hd
 rw [yR p1 p2]
 cases l <;> rfl
abbrev XE(X d:D)(H y3 y4 y5 y6 y7:Sl):En:=[.val X,.ow true d,H,y3,y4,y5,y6,y7]
def wl(c:Int)(its:List It):List D:=its.map fun t=>.str (aM c t)
variable {c:Int}{ch:List It}{k:Nat}{d:D}
section
variable {t u:Tb}
theorem zsS(c0:0<=c)(c6:c<=6)(ht:Tn c t)(hu:St t u)(hp:cx k d)(hk:k<=10000) :
  ∃(its:List It) (d':D) (y3 y4 y5:Sl),Np y3/\Np y4/\Np y5/\forL (gT [gN 3,gN 4]) zU (u.map fun e=>tp e.1) (XE (.list [.int c,gd rL t]) d (.ow false (.list (wl c []))) .no .no .no .no .no)=.ok (.nx,XE (.list [.int c,gd rL t]) d' (.ow false (.list (wl c its))) y3 y4 y5 .no .no) /\
   (∀ x∈its,Ok c x)/\its.map (·.1)=u.filter (fun e=>decide (cY e.2≠[]))/\cx (k+900) d':=by
 have ul:u.length<=15:=by rw [hu.pm.length_eq];exact zM ht.tb c6
 obtain⟨ρ',e,its,d',y3,y4,y5,h3,h4,h5,rfl,ok,im,pp⟩:=iJ (f:=fun e:List Int×List Rat=>tp e.1) (g:=gT [gN 3,gN 4]) (b:=zU)
  (fun done ρ=>∃(its:List It) (d':D) (y3 y4 y5:Sl),Np y3/\Np y4/\Np y5/\ρ=XE (.list [.int c,gd rL t]) d' (.ow false (.list (wl c its))) y3 y4 y5 .no .no/\(∀ x∈its,Ok c x)/\its.map (·.1)=done.filter (fun e=>decide (cY e.2≠[]))/\cx (k+60*done.length) d')
  u [] (XE (.list [.int c,gd rL t]) d (.ow false (.list (wl c []))) .no .no .no .no .no) ⟨[],d,.no,.no,.no,bg,bg,bg,rfl,fun _ h=>by simp at h,rfl,hp⟩ (by
   rintro pre q post ρ e ⟨its,d1,y3,y4,y5,h3,h4,h5,rfl,ok,im,pp⟩
   rw [A1] at e
   have mq:q∈u:=by rw [e];simp
   have mt:q∈t:=hu.pm.subset mq
   obtain⟨i,j,ek,i0,ij,jc⟩:=ht.tb.ky q mt
   have pl:pre.length+1<=u.length:=by rw [e];simp
   have il:its.length<=pre.length:=by
    have:=congrArg DC im
    rw [AW] at this
    rw [this];exact F1 ..
   have gx:gT [gN 3,gN 4] (tp q.1) (XE (.list [.int c,gd rL t]) d1 (.ow false (.list (wl c its))) y3 y4 y5 .no .no)=.ok (XE (.list [.int c,gd rL t]) d1 (.ow false (.list (wl c its))) (.val (.int i)) (.val (.int j)) y5 .no .no):=by rw [ek];exact gX rfl h3 rfl h4
   have gg:=kN ht.tb.nk mt
   have dx:=uD (f:=rL) gg
   rw [ek] at dx
   have tm:=zsQ (ht.tb.rw q mt) c0 c6 (ht.ns q mt)
   have q1:((cY q.2).map fun p=>AG (bf c p))=((cY q.2).map (bf c)).map AG:=by rw [Bz];rfl
   rw [q1] at tm
   have ei:e2 fC (e2 aq (eV 0) (eC (.int 1))) (aP (aa (eV 3) (aa (eV 4) af))) (XE (.list [.int c,gd rL t]) d1 (.ow false (.list (wl c its))) (.val (.int i)) (.val (.int j)) y5 .no .no)=.ok (rL q.2,XE (.list [.int c,gd rL t]) d1 (.ow false (.list (wl c its))) (.val (.int i)) (.val (.int j)) y5 .no .no):=bo (bo rfl rfl (fW (d:=gd rL t) (by decide) rfl)) (wo rfl rfl) dx
   have s1:ay (gN 5) (au wF (aa (e2 fC (e2 aq (eV 0) (eC (.int 1))) (aP (aa (eV 3) (aa (eV 4) af)))) af)) (XE (.list [.int c,gd rL t]) d1 (.ow false (.list (wl c its))) (.val (.int i)) (.val (.int j)) y5 .no .no)=.ok (.nx,XE (.list [.int c,gd rL t]) d1 (.ow false (.list (wl c its))) (.val (.int i)) (.val (.int j)) (.val (.list (((cY q.2).map (bf c)).map AG))) .no .no):=iy (y:=(.list (((cY q.2).map (bf c)).map AG),XE (.list [.int c,gd rL t]) d1 (.ow false (.list (wl c its))) (.val (.int i)) (.val (.int j)) y5 .no .no)) (gP (c5 ei) tm) rfl h5
   have nn:=ne_nil (l:=(cY q.2).map (bf c)) fun s hs=>by
    obtain⟨p,_,rfl⟩:=A7.mp hs
    exact zjy c p
   have tt:tB (e2 cg (eV 5) (bQ af)) (XE (.list [.int c,gd rL t]) d1 (.ow false (.list (wl c its))) (.val (.int i)) (.val (.int j)) (.val (.list (((cY q.2).map (bf c)).map AG))) .no .no)=.ok (!decide ((cY q.2).map (bf c)=[]),XE (.list [.int c,gd rL t]) d1 (.ow false (.list (wl c its))) (.val (.int i)) (.val (.int j)) (.val (.list (((cY q.2).map (bf c)).map AG))) .no .no):=eL (bo rfl rfl nn)
   by_cases z:cY q.2=[]
   ·refine⟨_,.nx,gO gx ((aO s1).trans ((gu (tt.trans (by rw [z];rfl))).trans rfl)),.inl rfl,its,d1,_,_,_,bF _,bF _,bF _,rfl,ok,?_,pp.mono (by rw [BH,DU];lia)⟩
    rw [im,GV,GR (by simp [z]),GW,DB]
   ·have tl:(cY q.2).length<=7:=by
     have h2:(cY q.2).length<=((Bh q.2.length).zip q.2).length:=F1 _ _
     rw [DZ,CM,EK] at h2
     have:=ht.tb.rw q mt
     lia
    obtain⟨l,d2,mx,pm,p2⟩:=rY pp ((cY q.2).map (bf c)) (by rw [AW];lia) (by lia)
    obtain⟨ws,wp,rfl⟩:=sr (bf c) pm
    have o2:Ok c (q,ws):=⟨⟨i,j,ek,i0,ij,jc⟩,ht.tb.rw q mt,ht.ns q mt,wp,fun w=>z (by have w:ws=[]:=w;rw [w] at wp;exact List.nil_perm.mp wp)⟩
    have jn:=zmK (c:=43) (B:=200) (l:=ws.map (bf c)) (fun x hx=>by
     obtain⟨p,hp,rfl⟩:=A7.mp hx
     exact zP c6 (o2.pt p hp).n) (by rw [AW,wp.length_eq];lia) (by decide)
    have wl':=o2.len c6
    have tl':=o2.zh5 c6
    have l2:=ie (i:=i) (by lia)
    have l3:=ie (i:=j) (by lia)
    have hw:aM c (q,ws)=T i++one 44++T j++one 61++Br (one 43) (ws.map (bf c)):=by unfold aM qJ;rw [ek];rfl
    have a2:cv (.str (T i)) (.str (one 44))=.ok (.str (T i++one 44)):=aW (eE (by show _+1<=_;lia))
    have a3:cv (.str (T i++one 44)) (.str (T j))=.ok (.str (T i++one 44++T j)):=aW (eE (by rw [len_app];show _+1+_<=_;lia))
    have a4:cv (.str (T i++one 44++T j)) (.str (one 61))=.ok (.str (T i++one 44++T j++one 61)):=aW (eE (by rw [len_app,len_app];show _+1+_+1<=_;lia))
    have a5:cv (.str (T i++one 44++T j++one 61)) (.str (Br (one 43) (ws.map (bf c))))=.ok (.str (aM c (q,ws))):=by
     rw [hw]
     refine aW (eE ?_)
     have tl2:(Br (one 43) (ws.map (bf c))).length<=1407:=tl'
     rw [len_app,len_app,len_app]
     show _+1+_+1+_<=_
     lia
    have cm:bA oO [.v (eV 5),.m 1] (XE (.list [.int c,gd rL t]) d1 (.ow false (.list (wl c its))) (.val (.int i)) (.val (.int j)) (.val (.list (((cY q.2).map (bf c)).map AG))) .no .no)=.ok (.list ((ws.map (bf c)).map AG),XE (.list [.int c,gd rL t]) d2 (.ow false (.list (wl c its))) (.val (.int i)) (.val (.int j)) (.val (.list (((cY q.2).map (bf c)).map AG))) .no .no):=za9 (p:=true) (d:=d1) rfl rfl mx
    have ap:=zd9 (i:=2) (p:=false) (l:=wl c its) (ρ:=XE (.list [.int c,gd rL t]) d1 (.ow false (.list (wl c its))) (.val (.int i)) (.val (.int j)) (.val (.list (((cY q.2).map (bf c)).map AG))) .no .no) rfl (bo (f:=e2 cv (e2 cv (e2 cv (e1 iA (eV 3)) (eC (.str ","))) (e1 iA (eV 4))) (eC (.str "="))) (bo (bo (bo (jI rfl (str_int (by lia))) rfl a2) (jI rfl (str_int (by lia))) a3) rfl a4) (v8 (f:=eC (.str "+")) (a:=one 43) rfl cm jn) a5) rfl (by unfold wl;rw [AW];unfold lim;lia)
    have en:wl c its++[.str (aM c (q,ws))]=wl c (its++[(q,ws)]):=by unfold wl;rw [BZ];rfl
    rw [en] at ap
    refine⟨_,.nx,gO gx ((aO s1).trans ((lV (tt.trans (by rw [decide_eq_false (fun w=>z (GO.mp w))];rfl))).trans ap)),.inl rfl,its++[(q,ws)],d2,_,_,_,bF _,bF _,bF _,rfl,fun x hx=>?_,?_,p2.mono (by rw [BH,DU];lia)⟩
    ·rcases B2.mp hx with hx|hx
     ·exact ok x hx
     ·rw [Dp.mp hx];exact o2
    ·rw [BZ,im,GV,GU (by simp [z]),GW];rfl)
 rw [A1] at im pp
 exact⟨its,d',y3,y4,y5,h3,h4,h5,e,ok,im,pp.mono (by lia)⟩
theorem zia(c6:c<=6)(c0:0<=c)(ok:∀ x∈ch,Ok c x)(hl:ch.length<=15):(txt c ch).length<=25616:=by
 have wl:∀ x∈T c::ch.map (aM c),x.length<=1600:=fun x hx=>by
  rcases AX.mp hx with rfl|hx
  ·have:=ie (i:=c) (by lia);lia
  ·obtain⟨t,ht,rfl⟩:=A7.mp hx
   exact(ok t ht).len c6
 have ll:(T c::ch.map (aM c)).length<=16:=by rw [AR,AW];lia
 have jl:=yE (c:=32) wl (by lia) (by decide)
 exact Bj jl (Bj (Jz _ ll) (by decide))
theorem zsR(c1:1<=c)(c6:c<=6)(ht:Tn c t)(hu:St t u)(hs:jV (gd rL t)=.ok (.list (u.map fun e=>tp e.1)))(hp:cx k d)(hk:k<=10000) :
  ∃(ch:List It) (d':D),zag [.list [.int c,gd rL t],d]=.ok (.str (txt c ch),[.list [.int c,gd rL t],d'])/\(∀ x∈ch,Ok c x)/\Gk (ch.map (·.1))/\(∀ x∈ch,x.1∈t)/\ch.length<=15/\cx (k+1000) d':=by
 have ul:u.length<=15:=by rw [hu.pm.length_eq];exact zM ht.tb c6
 obtain⟨its,d1,y3,y4,y5,n3,n4,n5,ew,ok,im,p1⟩:=zsS (by lia) c6 ht hu hp hk
 have il:its.length<=15:=by
  have:=congrArg DC im
  rw [AW] at this
  have:=F1 (fun e:List Int×List Rat=>decide (cY e.2≠[])) u
  lia
 have e2':wl c its=(its.map (aM c)).map AG:=by unfold wl;rw [Bz];rfl
 obtain⟨l,d2,mx,pm,p2⟩:=rY p1 (its.map (aM c)) (by rw [AW];lia) (by lia)
 obtain⟨pW,jp,rfl⟩:=sr (aM c) pm
 have jok:∀ x∈pW,Ok c x:=fun x hx=>ok x (jp.mem_iff.mp hx)
 rw [<- e2'] at mx
 obtain⟨ρ',e3,ch,y7,n7,rfl,sb⟩:=iJ (f:=fun t:It=>AG (aM c t)) (g:=gN 7) (b:=zdf)
  (fun done ρ=>∃(ch:List It) (y7:Sl),Np y7/\ρ=XE (.list [.int c,gd rL t]) d2 (.val (.list (wl c its))) y3 y4 y5 (.val (.str (txt c ch))) y7/\ch.Sublist done)
  pW [] (XE (.list [.int c,gd rL t]) d2 (.val (.list (wl c its))) y3 y4 y5 (.val (.str (txt c []))) .no) ⟨[],.no,bg,rfl,JA _⟩ (by
   rintro pre q post ρ e ⟨ch,y7,n7,rfl,sb⟩
   rw [A1] at e
   have mq:q∈pW:=by rw [e];simp
   have pl:pre.length+1<=pW.length:=by rw [e];simp
   have jl:=jp.length_eq
   have cl:=sb.length_le
   have j4:∀ x∈ch,Ok c x:=fun x hx=>jok x (by rw [e];exact D7 _ (sb.subset hx))
   have tl:=zia c6 (by lia) j4 (by lia)
   have wl':=(jok q mq).len c6
   have yN:kR (.str (txt c ch))=.ok (.int ((txt c ch).length:Int)):=aW (eE (by lia))
   have lx2:kR (.str (aM c q))=.ok (.int ((aM c q).length:Int)):=aW (eE (by lia))
   have ad:aC (.int ((txt c ch).length:Int)) (.int ((aM c q).length:Int))=.ok (.int ((txt c ch).length+(aM c q).length:Int)):=rfl
   have tt:tB (e2 eX (e2 aC (e1 kR (eV 6)) (e1 kR (eV 7))) (eC (.int 800))) (XE (.list [.int c,gd rL t]) d2 (.val (.list (wl c its))) y3 y4 y5 (.val (.str (txt c ch))) (.val (.str (aM c q))))=.ok (decide (((txt c ch).length+(aM c q).length:Int)<800),XE (.list [.int c,gd rL t]) d2 (.val (.list (wl c its))) y3 y4 y5 (.val (.str (txt c ch))) (.val (.str (aM c q)))):=eL (bo (bo (jI rfl yN) (jI rfl lx2) ad) rfl (rW _ _))
   by_cases b:((txt c ch).length+(aM c q).length:Int)<800
   ·rw [decide_eq_true b] at tt
    have a1:cv (.str (txt c ch)) (.str (one 32))=.ok (.str (txt c ch++one 32)):=aW (eE (by show _+1<=_;lia))
    have a2:cv (.str (txt c ch++one 32)) (.str (aM c q))=.ok (.str (txt c (ch++[q]))):=by
     have:txt c (ch++[q])=txt c ch++one 32++aM c q:=by
      unfold txt
      rw [BZ,AQ,BW,zfX]
     rw [this]
     exact aW (eE (by rw [len_app];show _+1+_<=_;lia))
    exact⟨_,.nx,gO (gW (x:=y7) rfl n7) ((lV tt).trans (iy (y:=(.str (txt c (ch++[q])),XE (.list [.int c,gd rL t]) d2 (.val (.list (wl c its))) y3 y4 y5 (.val (.str (txt c ch))) (.val (.str (aM c q))))) (bo (bo rfl rfl a1) rfl a2) rfl (bF _))),.inl rfl,ch++[q],_,bF _,rfl,List.Sublist.append sb (JA _)⟩
   ·rw [decide_eq_false b] at tt
    exact⟨_,.nx,gO (gW (x:=y7) rfl n7) ((gu tt).trans rfl),.inl rfl,ch,_,bF _,rfl,sb.trans (List.sublist_append_left _ _)⟩)
 rw [A1] at sb
 have nk:Gk (u.filter fun e=>decide (cY e.2≠[])):=zfv Jx (zbL hu.pm ht.tb.nk)
 rw [<- im] at nk
 have jk:Gk (pW.map (·.1)):=zbL (jp.map (·.1)) nk
 refine⟨ch,d2,?_,fun x hx=>jok x (sb.subset hx),zfv (sb.map _) jk,fun x hx=>?_,Bj sb.length_le (by rw [jp.length_eq];exact il),p2.mono (by lia)⟩
 ·have s1:bH 2 (bQ af) [.val (.list [.int c,gd rL t]),.ow true d,.no,.no,.no,.no,.no,.no]=.ok (.nx,XE (.list [.int c,gd rL t]) d (.ow false (.list (wl c []))) .no .no .no .no .no):=rfl
  have s2:Ad (XE (.list [.int c,gd rL t]) d (.ow false (.list (wl c []))) .no .no .no .no .no)=.ok (.nx,XE (.list [.int c,gd rL t]) d1 (.ow false (.list (wl c its))) y3 y4 y5 .no .no):=by
   unfold Ad bM iE
   rw [jI (bo rfl rfl (fW (d:=gd rL t) (by decide) rfl)) hs,ah]
   exact ew
  have s3:ay (gN 6) (e1 iA (e2 aq (eV 0) (eC (.int 0)))) (XE (.list [.int c,gd rL t]) d1 (.ow false (.list (wl c its))) y3 y4 y5 .no .no)=.ok (.nx,XE (.list [.int c,gd rL t]) d1 (.ow false (.list (wl c its))) y3 y4 y5 (.val (.str (txt c []))) .no):=iy (y:=(.str (txt c []),XE (.list [.int c,gd rL t]) d1 (.ow false (.list (wl c its))) y3 y4 y5 .no .no)) (jI (bo rfl rfl (fW (d:=.int c) (by decide) rfl)) (str_int (by lia))) rfl bg
  have s4:dN 2 wu (XE (.list [.int c,gd rL t]) d1 (.ow false (.list (wl c its))) y3 y4 y5 (.val (.str (txt c []))) .no)=.ok (.nx,XE (.list [.int c,gd rL t]) d2 (.val (.list (wl c its))) y3 y4 y5 (.val (.str (txt c ch))) y7):=by
   show wu (XE (.list [.int c,gd rL t]) d1 (.val (.list (wl c its))) y3 y4 y5 (.val (.str (txt c []))) .no)=_
   have cm:bA oO [.v (eV 2),.m 1] (XE (.list [.int c,gd rL t]) d1 (.val (.list (wl c its))) y3 y4 y5 (.val (.str (txt c []))) .no)=.ok (.list ((pW.map (aM c)).map AG),XE (.list [.int c,gd rL t]) d2 (.val (.list (wl c its))) y3 y4 y5 (.val (.str (txt c []))) .no):=za9 (p:=true) (d:=d1) rfl rfl mx
   have ii:iE (bA oO [.v (eV 2),.m 1]) (XE (.list [.int c,gd rL t]) d1 (.val (.list (wl c its))) y3 y4 y5 (.val (.str (txt c []))) .no)=.ok (pW.map fun t=>AG (aM c t),XE (.list [.int c,gd rL t]) d2 (.val (.list (wl c its))) y3 y4 y5 (.val (.str (txt c []))) .no):=by
    unfold iE
    rw [cm,ah,Bz];rfl
   unfold wu bM
   rw [ii,ah]
   exact e3
  show((xo [.val (.list [.int c,gd rL t]),.ow true d,.no,.no,.no,.no,.no,.no]).bind _)=_
  unfold xo
  rw [aO s1,aO s2,aO s3,aO s4]
  rfl
 ·have m1:=jp.mem_iff.mp (sb.subset hx)
  have m2:x.1∈its.map (·.1):=CV m1
  rw [im] at m2
  exact hu.pm.subset (Em.mp m2).1
theorem zsq(ht:Tn c t)(hu:St t u)(nk:Gk (ch.map (·.1)))(mem:∀ x∈ch,x.1∈t):St (ch.map (·.1)) (u.filter fun e=>ch.any fun x=>decide (x.1.1=e.1)):=by
 have nd:∀{l:Tb},Gk l->l.Nodup:=fun{l} h=>(GQ.mp h).imp fun ne e=>ne (congrArg _ e)
 have uk:Gk u:=zbL hu.pm ht.tb.nk
 refine⟨(List.perm_ext_iff_of_nodup ((nd uk).filter _) (nd nk)).mpr fun a=>?_,hu.so.filter _⟩
 constructor
 ·intro h
  obtain⟨h1,h2⟩:=Em.mp h
  obtain⟨x,hx,e⟩:=F0.mp h2
  have e:=of_decide_eq_true e
  have g1:=kN ht.tb.nk (mem x hx)
  have g2:=kN ht.tb.nk (hu.pm.subset h1)
  rw [e,g2] at g1
  have:x.1=a:=E6 e (BP g1).symm
  rw [<- this]
  exact CV hx
 ·intro h
  obtain⟨x,hx,rfl⟩:=A7.mp h
  exact Em.mpr ⟨hu.pm.mem_iff.mpr (mem x hx),F0.mpr ⟨x,hx,decide_eq_true rfl⟩⟩
end
end K77
namespace K77
open PySem FL TX FV
open K08 (lV gu mG df bC aS fe aQ St qC gX j5 fW nO sr zcF zhc zcq zda)
variable {i k n:Nat}{t v:Tb}{d6 dZ x12 x13 x3 x4 x5 x7 x9:Sl}{ρ ρ1:En}{c c0:Int}{ch ch0:List It}{d:D}{x:Rat}{f:EF}{a:AF}{G:List D->R D}{p:Bool}{F:List D->R (D×List D)}
theorem zqC:zaf=wL:=rfl
theorem zjz:zac=wJ:=rfl
theorem zr2{c:String}{fs:List D}{x:Sl}(h:f ρ=.ok (.tuple fs,ρ1))(hx:ρ1[i]?=some x)(n:Np x):v9 i c f ρ=.ok (.nx,ρ1.set i (.ob c fs)):=by
 unfold v9
 rw [h,ah]
 dsimp only
 rw [hx]
 cases x with
 | ow p d =>
  cases p with
  | true=>exact absurd rfl (n d)
  | false=>rfl
 | _=>rfl
theorem zbl{ds fs:List D}(h:a ρ=.ok (ds,ρ1))(k:G ds=.ok (.tuple fs)):je G a ρ=.ok (.tuple fs,ρ1):=by
 unfold je
 rw [h,ah,k];rfl
theorem zka{h:EF}{d0 d1 v u r d' v' u':D}(hi:ρ[i]?=some (.ow p d0))(hf:f ρ=.ok (v,ρ1))(hh:h ρ1=.ok (u,ρ1))(h1:ρ1[i]?=some (.ow p d1))(hF:F [d1,v,u]=.ok (r,[d',v',u'])):bA F [.m i,.v f,.v h] ρ=.ok (r,ρ1.set i (.ow p d')):=by
 have hm:aZ ρ i=.ok d0:=by unfold aZ;rw [hi]
 have kQ:aZ ρ1 i=.ok d1:=by unfold aZ;rw [h1]
 unfold bA
 simp only [dP,hm,kQ,ah,hf,hh,dt,hF]
 have:=xE (d:=d1) (d':=d') (p:=p) ρ1 0 i h1
 rw [EH] at this
 show R.ok (r,bR [(i,.ow true d')] 0 ρ1)=_
 rw [this]
structure Tx(c:Int)(ch:List It):Prop where
 c1:1<=c
 c6:c<=6
 ok:∀ x∈ch,Ok c x
 nk:Gk (ch.map (·.1))
 ln:ch.length<=15
theorem Tx.read(h:Tx c ch):∃ t':Tb,St (ch.map (·.1)) t'/\mn [.str (txt c ch)]=.ok (.tuple [.int c,.tuple ((fe t').map aS)]):=read_table h.c1 h.c6 h.ok h.nk (Bj h.ln (by decide))
theorem znK(h:∀ e∈t,cY e.2≠[]):fe t=t:=by
 unfold fe
 refine List.filter_eq_self.mpr fun e he=>?_
 cases b:e.2.all fun x=>decide (x=0) with
 | false=>rfl
 | true =>
  refine absurd ?_ (h e he)
  refine List.eq_nil_iff_forall_not_mem.mpr fun p hp=>?_
  obtain⟨_,h2,h3⟩:=zc8 hp
  exact h3 (of_decide_eq_true (DI.mp b p.2 (Ck h2)))
theorem vD(h:NS x):QR.Bd 70 x:=⟨Eg h.top (by decide),Eg h.bot (by decide)⟩
theorem zfg{G:D}(h3:ρ[3]?=some (.ow false d))(h4:ρ[4]?=some (.val (.list [.int c,G])))(hp:cx k d)(hk:k<=10000)(c0:0<=c)(c6:c<=6)(hn:(n:Int)=c+1) :
  ∃(xs:List Rat) (d':D),dJ 1 [3] (cQ (aa (e2 aC (e2 aq (eV 4) (eC (.int 0))) (eC (.int 1))) af)) (gN 0) cV (bA iX [.m 1]) ρ=.ok (rL xs,ρ.set 3 (.ow false d'))/\xs.length=n/\(∀ x∈xs,NS x)/\cx (k+21) d':=by
 have e4:eV 4 ρ=.ok (.list [.int c,G],ρ):=by unfold eV;rw [h4]
 have ad:aC (.int c) (.int 1)=.ok (.int (c+1)):=rfl
 have hr:iu [.int (c+1)]=.ok (de 0 (c+1)):=sO (by lia) (by lia)
 have hlen:(de 0 (c+1)).length=n:=by rw [sP];simp;lia
 have hit:cQ (aa (e2 aC (e2 aq (eV 4) (eC (.int 0))) (eC (.int 1))) af) ρ=.ok (de 0 (c+1),ρ):=by
  unfold cQ
  rw [c5 (bo (bo e4 rfl (fW (d:=.int c) (by decide) rfl)) rfl ad),ah,hr];rfl
 obtain⟨acc,ρ',ec,el,xs,d',rfl,hx,dS,rfl⟩:=zeV (k:=1) (ix:=[3]) (g:=gN 0) (t:=cV) (f:=bA iX [.m 1])
  (fun i acc ρ'=>∃(xs:List Rat) (d':D),acc=xs.map num/\(∀ r∈xs,NS r)/\cx (k+3*i) d'/\ρ'=ρ.set 3 (.ow false d')) (de 0 (c+1)) 0 [] ρ (by rw [hlen];show 0+_<=1000000;lia) rfl ⟨[],d,rfl,by simp,hp,(set_same h3).symm⟩ (by
   rintro x hx i acc ρ' gF ⟨xs,d1,rfl,hxs,hp1,rfl⟩
   rw [hlen] at gF
   obtain⟨r,d2,en,rb,hp2⟩:=nine hp1 (by lia)
   have g1:(ρ.set 3 (.ow false d1))[3]?=some (.ow false d1):=by
    rw [BA]
    exact(By.mp h3).1
   have eb:b6 1 [3] (ρ.set 3 (.ow false d1))=[.no,.ow false d1]:=by
    unfold b6
    rw [AQ,BW,g1]
    rfl
   have cm:bA iX [.m 1] [.val x,.ow false d1]=.ok (num r,[.val x,.ow false d2]):=zeK (p:=false) (d:=d1) rfl en
   refine⟨[.val x,.ow false d1],num r,[.val x,.ow false d2],by rw [eb];rfl,rfl,cm,xs++[r],d2,by simp,fun z hz=>?_,by rw [show k+3*(i+1)=k+3*i+3 by lia];exact hp2,?_⟩
   ·rcases B2.mp hz with hz|hz
    ·exact hxs z hz
    ·rw [Dp.mp hz];exact rb
   ·show bR [(3,.ow false d2)] 0 (ρ.set 3 (.ow false d1))=_
    have:=K08.mG (d':=d2) (p':=false) (ρ.set 3 (.ow false d1)) 0 3 g1
    rw [EH] at this
    rw [this,List.set_set])
 refine⟨xs,d',?_,by simpa [hlen] using el,hx,dS.mono (by rw [hlen];lia)⟩
 unfold dJ
 rw [hit,ah,ec]
 rfl
abbrev Ev(S:Sl)(x1 x2 x3 x4 x5 x6 x7 x8 x9 dZ d6 x12 x13:Sl):En:=[S,x1,x2,x3,x4,x5,x6,x7,x8,x9,dZ,d6,x12,x13]
theorem zrU(h:df c v)(hl:v.length<=60){S x1 x2:Sl}(n9:Np x9)(n10:Np dZ)(n11:Np d6) :
  ∃ y9 cA cB,Np y9/\Np cA/\Np cB/\Af (Ev S x1 x2 x3 x4 x5 (.val (.tuple (v.map aS))) x7 (.ow false (gd rL [])) x9 dZ d6 x12 x13)=.ok (.nx,Ev S x1 x2 x3 x4 x5 (.val (.tuple (v.map aS))) x7 (.ow false (gd rL v)) y9 cA cB x12 x13):=by
 obtain⟨ρ',e,y9,cA,cB,h9,pF,pG,rfl⟩:=iJ (f:=aS) (g:=gT [gN 9,gN 10,gN 11]) (b:=zdh)
  (fun done ρ=>∃ y9 cA cB,Np y9/\Np cA/\Np cB/\ρ=Ev S x1 x2 x3 x4 x5 (.val (.tuple (v.map aS))) x7 (.ow false (gd rL done)) y9 cA cB x12 x13)
  v [] (Ev S x1 x2 x3 x4 x5 (.val (.tuple (v.map aS))) x7 (.ow false (gd rL [])) x9 dZ d6 x12 x13) ⟨x9,dZ,d6,n9,n10,n11,rfl⟩ (by
   rintro pre q post ρ e ⟨y9,cA,cB,h9,pF,pG,rfl⟩
   rw [A1] at e
   have mq:q∈v:=by rw [e];simp
   obtain⟨i,j,ek,i0,ij,jc⟩:=h.ky q mq
   have pl:pre.length+1<=v.length:=by rw [e];simp
   have nn:∀ p∈pre,p.1≠[i,j]:=by
    intro p hp z
    have nk:=h.nk
    rw [e] at nk
    unfold Gk at nk
    rw [BZ,AQ] at nk
    exact(Ft.mp nk).2.2 p.1 (CV hp) q.1 (Bc ..) (z.trans ek.symm)
   have pt:=xZ (f:=rL) (s:=pre) (w:=[i,j]) (q:=q.2) (by unfold lim;lia)
   rw [zbA nn] at pt
   have hq:aS q=.tuple [.int i,.int j,rT q.2]:=by unfold aS;rw [ek];rfl
   have gx:gT [gN 9,gN 10,gN 11] (aS q) (Ev S x1 x2 x3 x4 x5 (.val (.tuple (v.map aS))) x7 (.ow false (gd rL pre)) y9 cA cB x12 x13)=.ok (Ev S x1 x2 x3 x4 x5 (.val (.tuple (v.map aS))) x7 (.ow false (gd rL pre)) (.val (.int i)) (.val (.int j)) (.val (rT q.2)) x12 x13):=by rw [hq];exact j5 rfl h9 rfl pF rfl pG
   refine⟨Ev S x1 x2 x3 x4 x5 (.val (.tuple (v.map aS))) x7 (.ow false (gd rL (pre++[q]))) (.val (.int i)) (.val (.int j)) (.val (rT q.2)) x12 x13,.nx,gO gx ?_,.inl rfl,_,_,_,bF _,bF _,bF _,rfl⟩
   have ev:FL.e1 fK (eV 11) (Ev S x1 x2 x3 x4 x5 (.val (.tuple (v.map aS))) x7 (.ow false (gd rL pre)) (.val (.int i)) (.val (.int j)) (.val (rT q.2)) x12 x13)=.ok (rL q.2,Ev S x1 x2 x3 x4 x5 (.val (.tuple (v.map aS))) x7 (.ow false (gd rL pre)) (.val (.int i)) (.val (.int j)) (.val (rT q.2)) x12 x13):=rfl
   have tu:aP (aa (eV 9) (aa (eV 10) af)) (Ev S x1 x2 x3 x4 x5 (.val (.tuple (v.map aS))) x7 (.ow false (gd rL pre)) (.val (.int i)) (.val (.int j)) (.val (rT q.2)) x12 x13)=.ok (tp [i,j],Ev S x1 x2 x3 x4 x5 (.val (.tuple (v.map aS))) x7 (.ow false (gd rL pre)) (.val (.int i)) (.val (.int j)) (.val (rT q.2)) x12 x13):=wo rfl rfl
   show dI 8 _ _ _=_
   unfold dI
   rw [ev,ah]
   show((R.ok (gd rL pre)).bind _)=_
   rw [ah]
   show((aP _ (Ev S x1 x2 x3 x4 x5 (.val (.tuple (v.map aS))) x7 (.ow false (gd rL pre)) (.val (.int i)) (.val (.int j)) (.val (rT q.2)) x12 x13)).bind _)=_
   rw [tu,ah]
   show((R.ok (gd rL pre)).bind _)=_
   rw [ah]
   show((mK (gd rL pre) (tp [i,j]) (rL q.2)).bind _)=_
   rw [pt,ah,show(([i,j]:List Int),q.2)=q from E6 ek.symm rfl]
   rfl)
 rw [A1] at e
 refine⟨y9,cA,cB,h9,pF,pG,?_⟩
 unfold Af bM
 rw [show iE (eV 6) (Ev S x1 x2 x3 x4 x5 (.val (.tuple (v.map aS))) x7 (.ow false (gd rL [])) x9 dZ d6 x12 x13)=.ok (v.map aS,Ev S x1 x2 x3 x4 x5 (.val (.tuple (v.map aS))) x7 (.ow false (gd rL [])) x9 dZ d6 x12 x13) from rfl,ah]
 exact e
theorem zp7(v:Tb)(h:df c v):Pl 4 (.tuple (v.map aS)):=vJ fun d hd=>by
 obtain⟨e,he,rfl⟩:=A7.mp hd
 unfold aS
 refine vJ fun d hd=>?_
 rcases AX.mp hd with rfl|hd
 ·exact⟨(lR _).1,Bj (lR _).2 (by decide)⟩
 ·rcases AX.mp hd with rfl|hd
  ·exact⟨(lR _).1,Bj (lR _).2 (by decide)⟩
  ·rw [Dp.mp hd]
   exact vJ fun d hd=>by
    obtain⟨x,_,rfl⟩:=A7.mp hd
    exact zcF x
theorem zow(k6:k<6):∃ m:Int,1<=m/\m<=4/\∀ ρ:En,ρ[2]?=some (.val (.int k))->e2 aq (bQ (aa (eC (.int 4)) (aa (eC (.int 2)) af))) (e2 eF (eV 2) (eC (.int 2))) ρ=.ok (.int m,ρ):=by
 have go:∀{m r:Int},eF (.int k) (.int 2)=.ok (.int r)->aq (.list [.int 4,.int 2]) (.int r)=.ok (.int m)->∀ ρ:En,ρ[2]?=some (.val (.int k))->e2 aq (bQ (aa (eC (.int 4)) (aa (eC (.int 2)) af))) (e2 eF (eV 2) (eC (.int 2))) ρ=.ok (.int m,ρ):=fun{m r} h1 h2 ρ h=>by
  have ev:eV 2 ρ=.ok (.int k,ρ):=by unfold eV;rw [h]
  have el:bQ (aa (eC (.int 4)) (aa (eC (.int 2)) af)) ρ=.ok (.list [.int 4,.int 2],ρ):=by
   show aF (leB 2 lim) _=_
   exact aW (by decide)
  exact bo el (bo ev rfl h1) h2
 have:k=0\/k=1\/k=2\/k=3\/k=4\/k=5:=by lia
 rcases this with rfl|rfl|rfl|rfl|rfl|rfl
 ·exact⟨4,by decide,by decide,go (r:=0) rfl rfl⟩
 ·exact⟨2,by decide,by decide,go (r:=1) rfl rfl⟩
 ·exact⟨4,by decide,by decide,go (r:=0) rfl rfl⟩
 ·exact⟨2,by decide,by decide,go (r:=1) rfl rfl⟩
 ·exact⟨4,by decide,by decide,go (r:=0) rfl rfl⟩
 ·exact⟨2,by decide,by decide,go (r:=1) rfl rfl⟩
theorem zkj(ns:List Int)(k6:k<6)(tx:Tx c0 ch0){x6 x8:Sl}(n3:Np x3)(n4:Np x4)(n5:Np x5)(n6:Np x6)(n7:Np x7)(n8:Np x8)(n9:Np x9)(n10:Np dZ)(n11:Np d6)(n12:Np x12)(n13:Np x13) :
  ∃(c:Int) (ch:List It) (y3 y4 y5 y6 y7 y8 y9 cA cB tD tF:Sl),Tx c ch/\(Np y3/\Np y4/\Np y5/\Np y6/\Np y7/\Np y8/\Np y9/\Np cA/\Np cB/\Np tD/\Np tF)/\zV (Ev (.val (.list (ns.map A8))) (.val (.str (txt c0 ch0))) (.val (.int k)) x3 x4 x5 x6 x7 x8 x9 dZ d6 x12 x13)=.ok (.nx,Ev (.val (.list (ns.map A8))) (.val (.str (txt c ch))) (.val (.int k)) y3 y4 y5 y6 y7 y8 y9 cA cB tD tF):=by
 obtain⟨a,ea⟩:=zjB ns (k:Int) (by lia) (by lia)
 obtain⟨d,ed,pd⟩:=zqD a (60+(k:Int)) (by lia)
 obtain⟨g,d1,t1,g0,g1,p1⟩:=qD pd (by decide) 6 (by decide) (by decide)
 obtain⟨m,m1,m4,em⟩:=zow k6
 have c1:1<=1+g:=by lia
 have c6:1+g<=6:=by lia
 obtain⟨t,d2,ean,tn,p2⟩:=zjs c1 c6 m1 m4 p1 (by lia)
 obtain⟨u,su,hs⟩:=zh2 tn.tb (Bj (zM tn.tb c6) (by decide))
 obtain⟨ch,d3,et,j4,ck,cm,cl,p3⟩:=zsR c1 c6 tn su hs p2 (by lia)
 have tx2:Tx (1+g) ch:=⟨c1,c6,j4,ck,cl⟩
 have ew:=ztm c6 j4 tn su hs (Bj (zia c6 (by lia) j4 cl) (by decide))
 have sv:=zsq tn su ck cm
 obtain⟨v,hv⟩:∃ v,v=u.filter fun e=>ch.any fun x=>decide (x.1.1=e.1):=⟨_,rfl⟩
 rw [<- hv] at ew sv
 have tbc:df (1+g) (ch.map (·.1)):=⟨ck,fun e he=>by
  obtain⟨x,hx,rfl⟩:=A7.mp he
  exact(j4 x hx).ky,fun e he=>by
  obtain⟨x,hx,rfl⟩:=A7.mp he
  exact(j4 x hx).ln⟩
 have sZ:df (1+g) v:=tbc.perm sv.pm
 have vl:v.length<=15:=by rw [sv.pm.length_eq,AW];exact cl
 have vne:∀ e∈v,cY e.2≠[]:=fun e he=>by
  obtain⟨x,hx,rfl⟩:=A7.mp (sv.pm.mem_iff.mp he)
  have o:=j4 x hx
  exact fun z=>o.ne (by have p:=o.pm;rw [z] at p;exact p.eq_nil)
 have vns:∀ e∈v,∀ x∈e.2,QR.Bd 70 x:=fun e he x hx=>by
  obtain⟨y,hy,rfl⟩:=A7.mp (sv.pm.mem_iff.mp he)
  exact vD ((j4 y hy).ns x hx)
 obtain⟨t',st,er⟩:=tx2.read
 have tv:t'=v:=St.uniq tbc st sv
 rw [tv,znK vne] at er
 obtain⟨t0,_,er0⟩:=tx.read
 obtain⟨n,hn⟩:∃ n:Nat,(n:Int)=(1+g)+1:=⟨(1+g+1).toNat,by lia⟩
 obtain⟨u2,su2,dh⟩:=zh2 sZ (Bj vl (by decide))
 have uv:u2=v:=St.uniq sZ su2 ⟨Jw _,sv.so⟩
 subst uv
 generalize hX:txt (1+g) ch=X at *
 generalize hX0:txt c0 ch0=X0 at *
 obtain⟨y9,cA,cB,h9,pF,pG,ers⟩:=zrU (S:=.val (.list (ns.map A8))) (x1:=.val (.str X0)) (x2:=.val (.int k)) (x3:=.ow false d3) (x4:=.val (.list [.int (1+g),gd rL t])) (x5:=.val (.str X)) (x7:=.ob "Table" [.int (1+g),.tuple (u2.map aS)]) (x12:=x12) (x13:=x13) sZ (Bj vl (by decide)) n9 n10 n11
 obtain⟨A,d4,eA,lA,nA,p4⟩:=zfg (ρ:=Ev (.val (.list (ns.map A8))) (.val (.str X0)) (.val (.int k)) (.ow false d3) (.val (.list [.int (1+g),gd rL t])) (.val (.str X)) (.val (.tuple (u2.map aS))) (.ob "Table" [.int (1+g),.tuple (u2.map aS)]) (.ow false (gd rL u2)) y9 cA cB x12 x13) rfl rfl p3 (by lia) (by lia) c6 hn
 obtain⟨B,d5,eB,lB,nB,p5⟩:=zfg (ρ:=Ev (.val (.list (ns.map A8))) (.val (.str X0)) (.val (.int k)) (.ow false d4) (.val (.list [.int (1+g),gd rL t])) (.val (.str X)) (.val (.tuple (u2.map aS))) (.ob "Table" [.int (1+g),.tuple (u2.map aS)]) (.ow false (gd rL u2)) y9 cA cB (.val (rL A)) x13) rfl rfl p4 (by lia) (by lia) c6 hn
 have lf:=zn1 sZ (Bj vl (by decide)) vns hn (by lia) c6 lA lB (fun x hx=>vD (nA x hx)) fun x hx=>vD (nB x hx)
 have cr:=zkq sZ su2.pm dh (Bj vl (by decide)) vns hn (by lia) c6 lA lB (fun x hx=>vD (nA x hx)) fun x hx=>vD (nB x hx)
 have nl:=zcq (zhc (cy n A B u2))
 have nt:=zcq (zp7 u2 sZ)
 have nc:=p7 (1+g) (1+g)
 rw [decide_eq_true rfl] at nc
 have c0':=tx.c1
 rw [<- zqC] at ed
 rw [<- zjz] at ea
 generalize hL:Dq (ns.map A8)=L at *
 generalize hT:Fs (u2.map aS)=V at *
 have iV:hW "tuple" V=.ok (.bool true):=by rw [<- hT];rfl
 generalize hG:gd rL t=G at *
 generalize hH:gd rL u2=H at *
 generalize hRA:rL A=RA at *
 generalize hRB:rL B=RB at *
 refine⟨1+g,ch,_,_,_,_,_,_,_,_,_,_,_,tx2,⟨zoP d5,bF (.list [.int (1+g),G]),bF (.str X),bF V,zoO "Table" [.int (1+g),V],bF H,h9,pF,pG,bF RA,bF RB⟩,?_⟩
 rw [hX]
 have ad6:aC (.int 60) (.int k)=.ok (.int (60+(k:Int))):=rfl
 refine(aO (ρ1:=Ev (.val L) (.val (.str X0)) (.val (.int k)) (.ow false d) x4 x5 x6 x7 x8 x9 dZ d6 x12 x13) (qw (y:=(d,Ev (.val L) (.val (.str X0)) (.val (.int k)) x3 x4 x5 x6 x7 x8 x9 dZ d6 x12 x13)) (gP (fR (gP (fR rfl (c5 rfl)) ea) (c5 (bo rfl rfl ad6))) ed) rfl n3)).trans ?_
 have ad1:aC (.int 1) (.int g)=.ok (.int (1+g)):=rfl
 refine(aO (ρ1:=Ev (.val L) (.val (.str X0)) (.val (.int k)) (.ow false d2) (.val (.list [.int (1+g),G])) x5 x6 x7 x8 x9 dZ d6 x12 x13) (iy (y:=(.list [.int (1+g),G],Ev (.val L) (.val (.str X0)) (.val (.int k)) (.ow false d2) x4 x5 x6 x7 x8 x9 dZ d6 x12 x13)) (zka (ρ1:=Ev (.val L) (.val (.str X0)) (.val (.int k)) (.ow false d1) x4 x5 x6 x7 x8 x9 dZ d6 x12 x13) (p:=false) (d0:=d) (d1:=d1) rfl (bo rfl (uz (p:=false) (d:=d) rfl rfl t1) ad1) (em _ rfl) rfl ean) rfl n4)).trans ?_
 refine(aO (ρ1:=Ev (.val L) (.val (.str X0)) (.val (.int k)) (.ow false d3) (.val (.list [.int (1+g),G])) (.val (.str X)) x6 x7 x8 x9 dZ d6 x12 x13) (iy (y:=(.str X,Ev (.val L) (.val (.str X0)) (.val (.int k)) (.ow false d3) (.val (.list [.int (1+g),G])) x5 x6 x7 x8 x9 dZ d6 x12 x13)) (za9 (p:=false) (d:=d2) rfl rfl et) rfl n5)).trans ?_
 refine(aO (ρ1:=Ev (.val L) (.val (.str X0)) (.val (.int k)) (.ow false d3) (.val (.list [.int (1+g),G])) (.val (.str X)) (.val V) x7 x8 x9 dZ d6 x12 x13) (iy (y:=(V,Ev (.val L) (.val (.str X0)) (.val (.int k)) (.ow false d3) (.val (.list [.int (1+g),G])) (.val (.str X)) x6 x7 x8 x9 dZ d6 x12 x13)) (gP (fR rfl (c5 rfl)) ew) rfl n6)).trans ?_
 refine(aO (ρ1:=Ev (.val L) (.val (.str X0)) (.val (.int k)) (.ow false d3) (.val (.list [.int (1+g),G])) (.val (.str X)) (.val V) (.ob "Table" [.int (1+g),V]) x8 x9 dZ d6 x12 x13) (zr2 (ρ1:=Ev (.val L) (.val (.str X0)) (.val (.int k)) (.ow false d3) (.val (.list [.int (1+g),G])) (.val (.str X)) (.val V) x7 x8 x9 dZ d6 x12 x13) (zbl (c5 rfl) er) rfl n7)).trans ?_
 refine(aO (ρ1:=Ev (.val L) (.val (.str X0)) (.val (.int k)) (.ow false d3) (.val (.list [.int (1+g),G])) (.val (.str X)) (.val V) (.ob "Table" [.int (1+g),V]) x8 x9 dZ d6 x12 x13) ((gu (ki (eL (bo (a:=.int (1+g)) rfl (bo rfl rfl (fW (d:=.int (1+g)) (by decide) rfl)) nc)) (ki (eL (bo (a:=V) rfl rfl nt)) (zgM (zsw (jI (a:=V) rfl iV)))))).trans rfl)).trans ?_
 refine(aO (ρ1:=Ev (.val L) (.val (.str X0)) (.val (.int k)) (.ow false d3) (.val (.list [.int (1+g),G])) (.val (.str X)) (.val V) (.ob "Table" [.int (1+g),V]) (.ow false (gd rL [])) x9 dZ d6 x12 x13) (qw (y:=(gd rL [],Ev (.val L) (.val (.str X0)) (.val (.int k)) (.ow false d3) (.val (.list [.int (1+g),G])) (.val (.str X)) (.val V) (.ob "Table" [.int (1+g),V]) x8 x9 dZ d6 x12 x13)) rfl rfl n8)).trans ?_
 refine(aO ers).trans ?_
 have s9:eG 12 (bH 12 zr) (Ev (.val L) (.val (.str X0)) (.val (.int k)) (.ow false d3) (.val (.list [.int (1+g),G])) (.val (.str X)) (.val V) (.ob "Table" [.int (1+g),V]) (.ow false H) y9 cA cB x12 x13)=.ok (.nx,Ev (.val L) (.val (.str X0)) (.val (.int k)) (.ow false d4) (.val (.list [.int (1+g),G])) (.val (.str X)) (.val V) (.ob "Table" [.int (1+g),V]) (.ow false H) y9 cA cB (.val RA) x13):=by
  have o:=qw (i:=12) (f:=zr) (y:=(RA,Ev (.val L) (.val (.str X0)) (.val (.int k)) (.ow false d4) (.val (.list [.int (1+g),G])) (.val (.str X)) (.val V) (.ob "Table" [.int (1+g),V]) (.ow false H) y9 cA cB x12 x13)) eA rfl n12
  unfold eG
  rw [o];rfl
 have v5:eG 13 (bH 13 zt) (Ev (.val L) (.val (.str X0)) (.val (.int k)) (.ow false d4) (.val (.list [.int (1+g),G])) (.val (.str X)) (.val V) (.ob "Table" [.int (1+g),V]) (.ow false H) y9 cA cB (.val RA) x13)=.ok (.nx,Ev (.val L) (.val (.str X0)) (.val (.int k)) (.ow false d5) (.val (.list [.int (1+g),G])) (.val (.str X)) (.val V) (.ob "Table" [.int (1+g),V]) (.ow false H) y9 cA cB (.val RA) (.val RB)):=by
  have o:=qw (i:=13) (f:=zt) (y:=(RB,Ev (.val L) (.val (.str X0)) (.val (.int k)) (.ow false d5) (.val (.list [.int (1+g),G])) (.val (.str X)) (.val V) (.ob "Table" [.int (1+g),V]) (.ow false H) y9 cA cB (.val RA) x13)) eB rfl n13
  unfold eG
  rw [o];rfl
 refine(aO s9).trans ((aO v5).trans ?_)
 have v7:dN 8 (aG (tB (e2 cg (au wz (qU 7 "Table" (aa (eV 12) (aa (eV 13) af)))) (au wB (aa (e2 aq (eV 4) (eC (.int 0))) (aa (eV 8) (aa (eV 12) (aa (eV 13) af))))))) (ax (eC (.bool false))) aL) (Ev (.val L) (.val (.str X0)) (.val (.int k)) (.ow false d5) (.val (.list [.int (1+g),G])) (.val (.str X)) (.val V) (.ob "Table" [.int (1+g),V]) (.ow false H) y9 cA cB (.val RA) (.val RB))=.ok (.nx,Ev (.val L) (.val (.str X0)) (.val (.int k)) (.ow false d5) (.val (.list [.int (1+g),G])) (.val (.str X)) (.val V) (.ob "Table" [.int (1+g),V]) (.val H) y9 cA cB (.val RA) (.val RB)):=by
  have ao:qU 7 "Table" (aa (eV 12) (aa (eV 13) af)) (Ev (.val L) (.val (.str X0)) (.val (.int k)) (.ow false d5) (.val (.list [.int (1+g),G])) (.val (.str X)) (.val V) (.ob "Table" [.int (1+g),V]) (.val H) y9 cA cB (.val RA) (.val RB))=.ok ([.tuple [.int (1+g),V],RA,RB],Ev (.val L) (.val (.str X0)) (.val (.int k)) (.ow false d5) (.val (.list [.int (1+g),G])) (.val (.str X)) (.val V) (.ob "Table" [.int (1+g),V]) (.val H) y9 cA cB (.val RA) (.val RB)):=rfl
  show aG _ _ _ (Ev (.val L) (.val (.str X0)) (.val (.int k)) (.ow false d5) (.val (.list [.int (1+g),G])) (.val (.str X)) (.val V) (.ob "Table" [.int (1+g),V]) (.val H) y9 cA cB (.val RA) (.val RB))=_
  exact(gu (eL (bo (gP ao lf) (gP (fR (bo rfl rfl (fW (d:=.int (1+g)) (by decide) rfl)) (fR rfl (fR rfl (c5 rfl)))) cr) nl))).trans rfl
 refine(aO v7).trans ?_
 have f0:nN 0 (je mn (aa (eV 1) af)) (Ev (.val L) (.val (.str X0)) (.val (.int k)) (.ow false d5) (.val (.list [.int (1+g),G])) (.val (.str X)) (.val V) (.ob "Table" [.int (1+g),V]) (.val H) y9 cA cB (.val RA) (.val RB))=.ok (.int c0,Ev (.val L) (.val (.str X0)) (.val (.int k)) (.ow false d5) (.val (.list [.int (1+g),G])) (.val (.str X)) (.val V) (.ob "Table" [.int (1+g),V]) (.val H) y9 cA cB (.val RA) (.val RB)):=by
  unfold nN
  rw [zbl (c5 rfl) er0];rfl
 have f1:nN 1 (je mn (aa (eV 5) af)) (Ev (.val L) (.val (.str X0)) (.val (.int k)) (.ow false d5) (.val (.list [.int (1+g),G])) (.val (.str X)) (.val V) (.ob "Table" [.int (1+g),V]) (.val H) y9 cA cB (.val RA) (.val RB))=.ok (V,Ev (.val L) (.val (.str X0)) (.val (.int k)) (.ow false d5) (.val (.list [.int (1+g),G])) (.val (.str X)) (.val V) (.ob "Table" [.int (1+g),V]) (.val H) y9 cA cB (.val RA) (.val RB)):=by
  unfold nN
  rw [zbl (c5 rfl) er];rfl
 have lt:eX (.int c0) (.int 1)=.ok (.bool false):=by
  show R.ok (BE (decide (c0<1)))=_
  rw [decide_eq_false (by lia)]
 refine(aO (ρ1:=Ev (.val L) (.val (.str X0)) (.val (.int k)) (.ow false d5) (.val (.list [.int (1+g),G])) (.val (.str X)) (.val V) (.ob "Table" [.int (1+g),V]) (.val H) y9 cA cB (.val RA) (.val RB)) ((gu (ki (eL (bo f0 rfl lt)) (ki (eL (bo f1 rfl nt)) (eL (bo (a:=V) rfl rfl nt))))).trans rfl)).trans ?_
 exact iy (y:=(.str X,Ev (.val L) (.val (.str X0)) (.val (.int k)) (.ow false d5) (.val (.list [.int (1+g),G])) (.val (.str X)) (.val V) (.ob "Table" [.int (1+g),V]) (.val H) y9 cA cB (.val RA) (.val RB))) rfl rfl (bF _)
theorem zn0(ns:List Int)(hl:ns.length<=63):tW [.list (ns.map A8)]=.ok (.bool true):=by
 have hr:iu [.int 6]=.ok (de 0 6):=sO (by decide) (by decide)
 have er:=zc0 (c:=6) (by decide)
 obtain⟨ρ',e,_⟩:=iJ (f:=fun i:Nat=>A8 i) (g:=gN 2) (b:=zV)
  (fun done ρ=>∃(c:Int) (ch:List It) (y2 y3 y4 y5 y6 y7 y8 y9 cA cB tD tF:Sl),Tx c ch/\Np y2/\(Np y3/\Np y4/\Np y5/\Np y6/\Np y7/\Np y8/\Np y9/\Np cA/\Np cB/\Np tD/\Np tF)/\ρ=Ev (.val (.list (ns.map A8))) (.val (.str (txt c ch))) y2 y3 y4 y5 y6 y7 y8 y9 cA cB tD tF)
  (Bh (6:Int).toNat) [] (Ev (.val (.list (ns.map A8))) (.val (.str (one 49))) .no .no .no .no .no .no .no .no .no .no .no .no) ⟨1,[],.no,.no,.no,.no,.no,.no,.no,.no,.no,.no,.no,.no,⟨by decide,by decide,fun _ h=>by simp at h,Hv,by decide⟩,bg,⟨bg,bg,bg,bg,bg,bg,bg,bg,bg,bg,bg⟩,rfl⟩ (by
   rintro pre k post ρ e ⟨c,ch,y2,y3,y4,y5,y6,y7,y8,y9,cA,cB,tD,tF,tx,h2,⟨h3,h4,h5,h6,h7,h8,h9,pF,pG,h12,h13⟩,rfl⟩
   have hk:k∈Bh (6:Int).toNat:=by
    rw [A1] at e
    rw [e];simp
   have:=D5.mp hk
   obtain⟨c',ch',z3,z4,z5,z6,z7,z8,z9,z10,z11,z12,z13,tx',m,et⟩:=zkj ns (k:=k) this tx h3 h4 h5 h6 h7 h8 h9 pF pG h12 h13
   exact⟨_,.nx,gO (gW (x:=y2) rfl h2) et,.inl rfl,c',ch',_,z3,z4,z5,z6,z7,z8,z9,z10,z11,z12,z13,tx',bF _,m,rfl⟩)
 refine e7 (ρ:=ρ') rfl ?_
 show zaJ (Ev (.val (.list (ns.map A8))) .no .no .no .no .no .no .no .no .no .no .no .no .no)=_
 have s1:ay (gN 1) (eC (.str "1")) (Ev (.val (.list (ns.map A8))) .no .no .no .no .no .no .no .no .no .no .no .no .no)=.ok (.nx,Ev (.val (.list (ns.map A8))) (.val (.str (one 49))) .no .no .no .no .no .no .no .no .no .no .no .no):=rfl
 have s2:Ag (Ev (.val (.list (ns.map A8))) (.val (.str (one 49))) .no .no .no .no .no .no .no .no .no .no .no .no)=.ok (.nx,ρ'):=by
  unfold Ag bM cQ
  rw [c5 rfl,ah,hr,er]
  exact e
 exact(aO s1).trans ((aO s2).trans rfl)
end K77
open PySem PySem.W PyProof.Rows
namespace PySem.W.Fast
theorem tw13889831988936162336:True:=trivial
theorem tw1396775347848280288:True:=trivial
theorem tw908910398033678688:True:=trivial
theorem tw7265709070375673632:True:=trivial
theorem tw7930183350626890049:True:=trivial
theorem tw9727950906967200225:True:=trivial
theorem tw15680358420500497921:True:=trivial
theorem tw9602747156987392993:True:=trivial
theorem tw17011819064530426146:True:=trivial
theorem tw16047238058866325282:True:=trivial
theorem tw12645042900491325314:True:=trivial
theorem tw8205580976952655778:True:=trivial
theorem tw15576241758450389059:True:=trivial
theorem tw7797768458702810659:True:=trivial
theorem tw2839124961231666883:True:=trivial
theorem tw5601641922585591268:True:=trivial
theorem tw4277579348075638340:True:=trivial
theorem tw16741118889885481732:True:=trivial
theorem tw3091513879450779396:True:=trivial
theorem tw8682359996107122564:True:=trivial
theorem tw5101947257459533764:True:=trivial
theorem tw16465147167285815557:True:=trivial
theorem tw14057694699980693510:True:=trivial
theorem tw12160821130346050566:True:=trivial
theorem tw17585751093129693222:True:=trivial
theorem tw3462043850263475334:True:=trivial
theorem tw14170244555593808038:True:=trivial
theorem tw3313140731102328998:True:=trivial
theorem tw11063133033484978470:True:=trivial
theorem tw15532832765023386950:True:=trivial
theorem tw3749404204294063622:True:=trivial
theorem tw14594399169177987814:True:=trivial
theorem tw15476852959330131750:True:=trivial
theorem tw7025508182400616358:True:=trivial
theorem tw12275376188433199303:True:=trivial
theorem tw6320086749751241991:True:=trivial
theorem tw3905179240814182023:True:=trivial
theorem tw14260839092282122951:True:=trivial
theorem tw4179231979909148359:True:=trivial
theorem tw10356183600510635815:True:=trivial
theorem tw9231822121832963047:True:=trivial
theorem tw16908090331921605960:True:=trivial
theorem tw9279092925938622856:True:=trivial
theorem tw15049708860507784648:True:=trivial
theorem tw4617837605663269480:True:=trivial
theorem tw9508040609142724360:True:=trivial
theorem tw2859433341059908392:True:=trivial
theorem tw14118924094991590857:True:=trivial
theorem tw7266822914721638217:True:=trivial
theorem tw17590212436292322249:True:=trivial
theorem tw17245632175238475818:True:=trivial
theorem tw1058990471020017898:True:=trivial
theorem tw8491330785649179178:True:=trivial
theorem tw17550242813751587947:True:=trivial
theorem tw14073138293268287211:True:=trivial
theorem tw16342012043539043147:True:=trivial
theorem tw2091783751545517485:True:=trivial
theorem tw10104327810571733518:True:=trivial
theorem tw4720781609713681966:True:=trivial
theorem tw13703197816788340366:True:=trivial
theorem tw3705143746676895438:True:=trivial
theorem tw17974225604662043502:True:=trivial
theorem tw9810398711877641519:True:=trivial
theorem tw17747929326316613423:True:=trivial
theorem tw13612800031995481200:True:=trivial
theorem tw8930775858527536464:True:=trivial
theorem tw18331824587227519600:True:=trivial
theorem tw452581288689892048:True:=trivial
theorem tw14512932287347180977:True:=trivial
theorem tw9351408067420898001:True:=trivial
theorem tw17313892431541739538:True:=trivial
theorem tw17925752869462591570:True:=trivial
theorem tw8510173360582779090:True:=trivial
theorem tw11137433514636237330:True:=trivial
theorem tw4808834182789648018:True:=trivial
theorem tw14643260075948182450:True:=trivial
theorem tw8985039517489120755:True:=trivial
theorem tw1931441002799355700:True:=trivial
theorem tw5081922809827735380:True:=trivial
theorem tw18293669975018620756:True:=trivial
theorem tw568323881202529268:True:=trivial
theorem tw3638372651189730389:True:=trivial
theorem tw1755153403657135573:True:=trivial
theorem tw13242577957445839829:True:=trivial
theorem tw15869568643666978838:True:=trivial
theorem tw14828565269165194294:True:=trivial
theorem tw8567892140348339478:True:=trivial
theorem tw3263818651214211542:True:=trivial
theorem tw5664513477657318006:True:=trivial
theorem tw4015280844711056086:True:=trivial
theorem tw7930544418240889622:True:=trivial
theorem tw5453453667726468151:True:=trivial
theorem tw3720153380567709943:True:=trivial
theorem tw13131502212991079831:True:=trivial
theorem tw640542788716466711:True:=trivial
theorem tw16477202303612892727:True:=trivial
theorem tw16137851006968724087:True:=trivial
theorem tw14444064719935864599:True:=trivial
theorem tw17917029479832772567:True:=trivial
theorem tw10600759344734409113:True:=trivial
theorem tw663742200563400185:True:=trivial
theorem tw56834845541698233:True:=trivial
theorem tw9319151723004644185:True:=trivial
theorem tw15821790319187355481:True:=trivial
theorem tw1125274311755387801:True:=trivial
theorem tw5809904440427417658:True:=trivial
theorem tw8581139738791937115:True:=trivial
theorem tw12533502481988860219:True:=trivial
theorem tw1235325233342986587:True:=trivial
theorem tw4888848432743107995:True:=trivial
theorem tw226841905116995483:True:=trivial
theorem tw5091731428091699131:True:=trivial
theorem tw97332312769035259:True:=trivial
theorem tw17650525500855569597:True:=trivial
theorem tw15977624147327108477:True:=trivial
theorem tw5808028142143251869:True:=trivial
theorem tw16719695446698412062:True:=trivial
theorem tw3528897395740426430:True:=trivial
theorem tw6419391727881942014:True:=trivial
theorem tw16440573000169153534:True:=trivial
theorem tw16578359505320366111:True:=trivial
theorem tw13570440847226387039:True:=trivial
theorem tw17297884275596735167:True:=trivial
end PySem.W.Fast
set_option maxRecDepth 100000 in
set_option maxHeartbeats 0 in
theorem PySem.Challenge.cw_swaprest_k77_tables_read_holds : PySem.Challenge.rw_swaprest_k77_tables_read.Holds := by
 w_on; o_law; k_head; (case hw => w_witness2)
 k_fill
 refine K77.walk (l:=PySem.Challenge.rw_swaprest_k77_tables_read) K77.zn0 rfl rfl (by decide +kernel) rfl (fun w h Y => PySem.W.kIn_of Y) ?F
 case F =>
  intro w mg fa h KX G hmg
  refine' K77.all_mk KX G hmg ?oo0 ?oo1 ?oo2 ?oo3 ?oo4 ?oo5 ?oo6 ?oo7 ?oo8 ?oo9 ?oo10 ?oo11 ?oo12 ?oo13 ?oo14 ?oo15 ?oo16 ?oo17 ?oo18 ?oo19 ?oo20 ?oo21 ?oo22 ?oo23 ?oo24 ?oo25 ?oo26 ?oo27 ?oo28 ?oo29 ?oo30 ?oo31 ?oo32 ?oo33 ?oo34 ?oo35 ?oo36 ?oo37 ?oo38 ?oo39 ?oo40 ?oo41 ?oo42 ?oo43 ?oo44 ?oo45 ?oo46 ?oo47 ?oo48 ?oo49 ?oo50 ?oo51 ?oo52 ?oo53 ?oo54 ?oo55 ?oo56 ?oo57 ?oo58 ?oo59 ?oo60 ?oo61 ?oo62 ?oo63 ?oo64 ?oo65 ?oo66 ?oo67 ?oo68 ?oo69 ?oo70 ?oo71 ?oo72 ?oo73 ?oo74 ?oo75 ?oo76 ?oo77 ?oo78 ?oo79 ?oo80 ?oo81 ?oo82 ?oo83 ?oo84
  (case oo0 | oo1 | oo2 | oo3 | oo4 | oo5 | oo6 | oo7 | oo8 | oo9 | oo10 | oo11 | oo12 | oo13 | oo14 | oo15 | oo16 | oo17 | oo18 | oo19 | oo20 | oo21 | oo22 | oo23 | oo24 | oo25 | oo26 | oo27 | oo28 | oo29 | oo30 | oo31 | oo32 | oo33 | oo34 | oo35 | oo36 | oo37 | oo38 | oo39 | oo40 | oo41 => refine' FL.zl2 KX G ?Zq ?Zl ?Zc ?Zk; (case Zq => k_is); (case Zl => k_is); (case Zc => k_is); (case Zk => k_is))
  (case oo42 | oo43 | oo44 | oo45 | oo46 | oo47 | oo48 | oo49 | oo50 | oo51 | oo52 | oo53 | oo54 | oo55 | oo56 | oo57 | oo58 | oo59 | oo60 | oo61 | oo62 | oo63 | oo64 | oo65 | oo66 | oo67 | oo68 | oo69 | oo70 | oo71 | oo72 | oo73 | oo74 | oo75 | oo76 | oo77 | oo78 | oo79 | oo80 | oo81 | oo82 | oo83 | oo84 => k_is)
