import PyProof.Rows.All
import Wide.All
import OpenK.AllK
import Wide.FinOn
import Lean
import PyProof.EqAt
import PyProof.EqKinds
import PyProof.TupleCall
import PyProof.MinMaxWalk
import PyProof.NeKinds
import PyProof.Rows.ZipGen
import KE.KMinKey
import KE.KRevIter
import PyProof.ListNew
import KE.KDictSum
import PyProof.DictItems
import KE.KEqDict
import PyProof.StrWalks
import PyProof.FString5
import PyProof.Rows.StrJoin2
import KE.KSortTup
import KE.KLam
import KE.KNestM
import PyProof.DictWalks
import PyProof.PassesOwn
import PyProof.StationsW
import PyProof.ExcClass3
import OpenK.KMake
import PyProof.InstStoreFacts
import PyProof.ExcAttrAll.ValueError
import OpenK.KDescr
import OpenK.KOwn
import KE.KIsAll
import PyProof.NsDelKeeps
import PyProof.DictTruth
import PyProof.Rows.SortStr
import PyProof.Rows.SortWalk
import PyProof.StrOps2
import PyProof.AttrMiss
import PyProof.IsiH_list
import KE.KDictOf
import PyProof.DictUpdate
import PyProof.StrBlockL
import PyProof.Rows.StrNews
import PyProof.MeetsStr
import PyProof.MeetsStr2
import KE.KIntText
import PyProof.StrLawsTight
import PyProof.Rows.StrFirst2
import KE.KDictLaws
import PySem.Challenge.RW_boxgalley_k11_whole_one_text_each
set_option Elab.async false
set_option linter.all false
set_option maxRecDepth 100000
theorem DX{p:Prop}(h:p:=by decide +kernel):p:=h
theorem vY{p:Prop}(h:p:=by assumption):p:=h
theorem MU{a:Nat}:a<=a:=Nat.le_refl _
theorem MQ{a:Nat}:0<=a:=Nat.zero_le _
theorem M0{a:Nat}:0<a.succ:=Nat.succ_pos _
theorem Ln{a:Nat}:a<=a.succ:=Nat.le_succ _
theorem MT{a b:Nat}(h:a<b:=by assumption):a<=b:=Nat.le_of_lt h
theorem cP{a b c:Nat}(h:a<=b:=by assumption)(g:b<=c:=by decide +kernel):a<=c:=Nat.le_trans h g
theorem K4{a b c:Nat}(h:a<=b:=by assumption)(g:b<c:=by decide +kernel):a<c:=Nat.lt_of_le_of_lt h g
theorem Ew{a b c:Nat}(h:a<b:=by assumption)(g:b<=c:=by decide +kernel):a<c:=Nat.lt_of_lt_of_le h g
theorem M5{a b c:Int}(h:a<=b:=by assumption)(g:b<=c:=by decide +kernel):a<=c:=Int.le_trans h g
theorem DU{a b c:Int}(h:a<b:=by assumption)(g:b<=c:=by decide +kernel):a<c:=Int.lt_of_lt_of_le h g
theorem Lw{a b:Nat}:a<=a+b:=Nat.le_add_right _ _
theorem DY{a b:Nat}:a<=b+a:=Nat.le_add_left _ _
theorem Ik{a b c:Nat}(h:a<=b:=by assumption):a+c<=b+c:=Nat.add_le_add_right h _
theorem M7{a b:Int}(h:a<b:=by assumption):a<=b:=Int.le_of_lt h
set_option maxHeartbeats 0
set_option compiler.extract_closed false
set_option bootstrap.genMatcherCode false
open List renaming length_map->be,getElem?_eq_getElem->B0,length_append->B1,mem_cons_self->B6,getElem?_map->B7,size_toArray->B8,map_append->Da,mem_cons_of_mem->De,append_nil->Dk,mem_of_getElem?->Do,length_cons->FB,getElem?_append_right->GM,append_assoc->IR,getElem?_append_left->KF,getD_eq_getElem?_getD->Nj,map_cons->Nq,not_mem_nil->Nt,range->Nz,mem_append_right->ND,mem_cons->NH,eq_nil_of_length_eq_zero->NK,map_map->NO,mem_append_left->NS,length_reverse->NZ,take_of_length_le->Oa,flatMap_cons->Ob,replicate->On,length_drop->Ot,cons_ne_nil->Ou,mem_map_of_mem->Ow,length_range->Oy,map_congr_left->OL,flatMap_append->OM,lookup_cons->OS,length_take->OT,getElem?_of_mem->OY,take_length->O_,getElem_mem->Pa,cons_append->Pb,take_succ->Pd,getElem?_reverse->Pg,getElem?_eq_none->Ph,flatMap_nil->Pw,nil_append->PJ,length_replicate->PN,length_filter_le->PP,find?_cons->Qb,map_inj_right->Qh,getElem?_drop->Qi,filter_append->Qj,reverse_cons->Qn,drop_zero->Qo,drop_left->Qp,take_append_drop->Qt,any_cons->Qx,all_cons->Qy,take_append_of_le_length->QE,lookup->QF,length->QG,map_nil->QL,all_map->QM,drop_drop->QT,mem_of_find?_eq_some->QW,ext_getElem?->Q1,filter_cons_of_neg->Rj,ext_getElem->Rk,all_eq_true->Rl,find?_cons_of_pos->Rt,nodup_cons->Rz,length_nil->RA,foldl_cons->RB,map_id->RK,find?_map->RL,reverse_append->RS,filterMap_cons->RT,sum_cons->RY,foldl_append->Sd,any_map->Se,any_eq_false->Sf,map_fst_zip->Sk,sum_append->Sv,of_mem_zip->Sw,length_zip->Sx,forIn_cons->Sy,filter_nil->Sz,take_left->SV,nodup_nil->SW,getElem?_zip_eq_some->S8,length_filterMap_le->Tg,find?_range_eq_some->Th,getElem?_replicate->Ts,filter_cons_of_pos->Tt,range_succ_eq_map->TZ,getElem?_set_self->T3,find?_cons_of_neg->T4,drop_eq_nil_of_le->T6,perm_append_comm->Ud,length_singleton->Ue,length_dropLast->Up,getElem?_set_ne->Uq,toList_toArray->Ut,takeWhile_cons->Uu,replicate_succ->Uv,getElem?_range->Uw,zip_cons_cons->UM,find?_append->U0,map_reverse->Vi,filter_cons->Vj,any_eq_true->Vk
open PySem.W renaming Frag->mo,mg_of->Nh,mg_none_of->Ny,nsIn->NN,findIn->Om,kia_one->OB,emptyDict->OK,instObj->Pm,fnOf->Py,keepIn->PY,hasDictIn->Q0,plainGet->Rf,codeIn->RI,plainOver->R8,methodObj->R9,takerIn->So,makesIn->Sr,OpenLaw->Ss,lookIn->SQ,cellsFrom_some->TM,callWith_K->UJ,kitx_list->UV,kitx_dict->UW,handedIn->Ve
open PySem renaming wpAny_bind->AC,Addr->B3,Value->B5,wpAny_pure->Fk,Shared->Gc,wpAny->GT,model->Nk,mainGlobals->Nr,starEach->Nx,Stmt->NG,boot_len->NI,Str->NY,Program->Og,wpAny_field->Oj,wpAny_truthy_bool->Oo,wpAny_newObj_type->Oq,compareOp->Os,World->Ox,builtinLookup_eq_fast->Oz,wpAny_call_entry->OE,wpAny_callSpecial?_slot->OF,eval->OI,Heap->ON,wpAny_ite_split->OO,keywordEach->OP,wpAny_setField_rec->OQ,wpAny_mono->OR,wpAny_holding->OV,cLine->OX,wpAny_updateSeq->O0,sysModules->O1,mem_of_lookup->O3,FuncData->O4,bootBuiltins->O5,sizeLine_eq->O8,isSubtype_type->Pc,wpAny_specialOf->Pk,typeLookup_type->Pl,wpAny_of_eq->Pp,plainId_quiet->Pq,backTo->Pr,wpAny_seqItems->Pv,codeAny->Px,wpAny_passesOwn->PD,binaryOp->PF,backToKw->PH,Around->PR,foldedSetIterable->PU,assignEach->PX,attributeBase->P5,wpAny_loadPart'->P_,wpAny_Call_Name_kw->Qe,typeIs_str->Qf,call_meets->Qg,call_meetsIn->Ql,Scope->Qs,wpAny_rule->Qu,rawInt->Qv,valueAt->Qw,wpAny_letGo->Qz,sliceBounds->QA,wpAny_execs_nil->QI,updateSeq->QN,wpAny_tryCatch->QO,tupleKind_room_in1->QP,pyNext->QQ,getItem->QY,Keyword->Q2,wpAny_standAt->Q4,wpAny_attempt->Q5,behindInMarks->Q6,assign->Q7,wpAny_isInstance->Rb,wpAny_typeOf->Rn,argsOk->Ro,IsPart->Ru,letOwnedTupleGo->Rw,codeAny_builtin->Rx,wpAny_pyIter_revIter->RF,firstArgMember->RG,IsEnum->RM,tupleKind->RN,swapsWith->RO,seqItems?->RP,argBest->RQ,signature?_of->RV,wpAny_pyIter_tuple->R0,typeLookup->R1,codeAny_mono->R5,callerA->R6,NameKind->Sb,noFill_tuple_add->Sj,DictEntry->Sl,subscripted->Sm,BindsTo->SJ,setField->SK,intItems->SL,atKey->SM,Result->SO,wpAny_comprehension_free->S_,seq_tuple_add->Tb,stripSame->Ti,specialOf->Tj,bindL->Tn,bindC->To,IsEnumOut->Tv,spliced->TB,seqIndex_neg->TF,revObj->TH,holding->TJ,concat_meets->TK,Within->TL,wpAny_isTrue_Compare1->T9,wpAny_mkInt->Uh,seqIndex_of->Ui,field->Uj,entryFor->Uk,codeAny_extend_loopS->Ul,wpAny_Name->Uy,newExc->Uz,isTrue->UA,call_reversed_list->UB,builtinsNs->UC,call->UI,PlainAttrs->UK,wpAny_sequenceKey->UO,wpAny_pyIter_slot->UP,wpAny_pyIter_list->UQ,wpAny_pyIter_enum->UR,wpAny_assign_Name->US,wpAny_Call_method->UT,relabel->UU,ItemsOf->U2,wpAny_pyIter_zip->U5,wpAny_execs_cons->U6,wpAny_Dict_empty->U7,strValues->U8,seqIndex?->U9,entryFor_of_tree->U_,cellsFrom->Vb,Slot->Vd
open Nat renaming le_refl->B2,zero_le->Nl,ne_of_lt->Nn,lt_of_lt_of_le->NL,le_trans->NW,sub_succ_lt_self->OH,lt_irrefl->OJ,not_lt_zero->Pn,ne_of_gt->PB,toDigits->P0,le_add_right->P1,min_eq_left->Qa,repr->Qm,mul_le_mul_right->QC,le_succ->QD,succ_pos->QK,lt_of_le_of_lt->QS,toDigits_of_lt_base->Rh,lt_succ_self->Ri,sub_self->Rr,mul_le_mul->RJ,succ_mul->R_,le_of_lt->Sa,isDigit_of_mem_toDigits->SF,zero_add->TU,lt_or_ge->TV,add_zero->TX,add_comm->TY,le_succ_of_le->UY,le_of_succ_le->UZ,succ_le_succ->Vg,le_max_right->Vh
open PySem.Heap renaming get?_push_of_some->B4,lt_size->FM,get?_push_size->KM,get?_update_other->NM,get?_update_self->Of,SameBut->OW,size_push->QU
open Ne renaming symm->B9
open Bool renaming false_ne_true->FS,and_eq_true->Oi,eq_iff_iff->Po,false_eq_true->QV,or_false->Ra,or_eq_true->RC
open PySem.Str renaming length_append->GE,ofString->NR,join->NT,empty->Re
open Option.some renaming inj->Kf
open Or renaming inl->Ki
open PySem.Value renaming ref->KB,none->OC,str->OG,type->Pt,int->Rc,bool->Rp,isStrOf->RW,float->Um
open PyProof.Rows renaming boot_tuple->Ng,envOfC->NB,boot_str->NC,boot_isinstance->NF,callWith_type1->NP,boot_all->OA,IsTup->OD,slot_tuple_getitem->Pu,boot_list->Pz,boot_reversed->QR,AllBare->Rv,IntsAre->SG,Call_->SZ,subscriptTail->Ta,subscriptTail_builtinR->Tz,len_tuple->TR,boot_max->Ub,boot_int->Uc,entry_tuple_getitem->Us,args_tuple_getitem->UD,Subscript_->UE
open Array renaming length_toList->Ni,toList_append->Nm,append_assoc->Pf,getElem?_toList->Pi,getElem?_eq_getElem->Pj
open PySem.PassesOwn renaming never->Np
open PySem.F renaming plainAttrs_str->Nu,plainAttrs_list->NJ,type_list_append->Oc,slot_list_append->Od,plain_max_loop->OU,plainAttrs_dict->OZ,type_str_split->O6,slot_str_split->O7,type_str_join->PL,slot_str_join->PM,slot_tuple_iterator_next->PZ,plain_extend_loop->QJ,slot_dict_update->Q8,args_tuple_add_2->Q9,entry_tuple_add->Rg,entry_max_loop->Rm,slot_tuple_add->Rq,slot_dict_pop->RD,slot_dict_get->RE,slot_dict_itemiterator_iter->RX,args_str_split_2->R4,entry_str_split->Sh,slot_dict_setdefault->Su,args_tuple_iterator_next_1->SC,type_str_startswith->SD,slot_str_startswith->SE,entry_tuple_iterator_next->SH,type_str_partition->SR,slot_str_partition->SS,type_list_extend->Tc,type_dict_update->Td,slot_list_extend->Te,slot_dict_items->Tp,args_dict_pop_3->Tq,args_dict_get_3->Tr,entry_dict_pop->TN,entry_dict_get->TQ,type_list_pop->T_,slot_list_pop->Ua,slot_enumerate_next->Ug,args_list_init_2->UN,typeCall_list_1->U3,entry_list_init->U4
open PySem.Txt renaming join->NA,split->Oh
open PySem.Builtin.Str renaming strSliceIndices->NQ,subAt->Si
open PySem.PyData renaming keyHash->NU
open Sum renaming inr->NV,inl->N_
open PySem.Builtin.List renaming listExtendWith->Oe,listLengthHint->PV,listTooLong->P7,listSameRef->P8,listItems->Qr,listFitsIndex->S7,listUpdate->Tw
open PySem.Obj renaming mapSeq->Ol,data_mapFields->UL
open True renaming intro->Ov
open List.cons renaming injEq->O2
open PySem.NameKind renaming free->O9,cell->Tf
open False renaming elim->Pe
open Int renaming toNat->P2,emod_lt_of_pos->R3,toNat_natCast->Sg,natCast_add->SA,emod_nonneg->SB,fdiv_eq_ediv_of_nonneg->SX
open PySem.Builtin.SmallTypes renaming nextOf->P3,ownedTupleHandOut->RU,ownedTupleIsFree->RZ
open PySem.Builtin.Slice renaming slicePlaces->P4,sliceAdjust->QX,sliceApplied->S1
open PySem.Builtin.Tuple renaming tupleExact->P6,tupleItemsOf->S0
open ForInStep renaming yield->Qd
open PySem.Calls renaming spliced_cons->Qk,callWith_builtin->Qq,spliced_nil->Q3,Name_function_global->SY,evalArgs_plain->Ur
open Prod renaming ext->QB,fst->SU
open PySem.Around renaming under_plainId->QH,under->T8
open Sum.inr renaming inj->QZ
open PySem.Paired renaming length->Q_
open Option renaming map_some->Ry,isSome_map->UX,getD_none->Vf
open String renaming toList_append->RH,toList_ofList->Uo
open PySem.StrLaws renaming strSliceIndices_plain->Sn,subAt_eq->Vc
open PySem.Builtin.Builtins renaming bindParams->SI
open PySem.SeqAt renaming EqAt->SN
open PyProof.Rows.IsTup renaming new->Tu
open PySem.Code renaming isFrame->T7
open PySem.Heap.SameBut renaming update->Ux
open PySem.SeqAt.RcNeAt renaming lists->UF
open PySem.SeqAt.EqAt renaming str_int->UG,int_str->UH
open List.Sublist renaming refl->U1
namespace L2
open PySem PySem.Spec PyProof.Rows
abbrev Key:=Sum Int Str
noncomputable def qv:Key->B5->Bool
 | .inl k,v=>Value.isInt k v
 | .inr x,v=>RW x v
noncomputable def LG(w:Ox):Key->Int
 | .inl k=>hashInt k
 | .inr x=>hashStr w x
theorem b_:∀{k:Key}{v:B5},qv k v=true->(∃i t,k=N_ i/\v=Rc i t)∨(∃x t,k=NV x/\v=OG x t)
 | .inl i,v,h=>by
  obtain⟨t,e⟩:=Value.isInt_shape (k:=i) (v:=v) h;exact .inl ⟨i,t,rfl,e⟩
 | .inr x,v,h=>by
  obtain⟨t,e⟩:=Value.isStrOf_shape (x:=x) (v:=v) h;exact .inr ⟨x,t,rfl,e⟩
theorem zK(i:Int)(t:Tok):qv (.inl i) (.int i t)=true:=by simp[qv,Value.isInt]
theorem yU(x:Str)(t:Tok):qv (.inr x) (.str x t)=true:=by simp[qv,RW]
theorem Jh(a b:Int):decide ((N_ a:Key)=N_ b)=(a==b):=by
 by_cases e:a=b
 ·subst e;simp
 ·have h:¬(N_ a:Key)=N_ b:=λq=>e (Sum.inl.inj q);rw[decide_eq_false h];exact(beq_eq_false_iff_ne.mpr e).symm
theorem HN(a b:Str):decide ((NV a:Key)=NV b)=decide (a=b):=by
 by_cases e:a=b
 ·subst e;simp
 ·have h:¬(NV a:Key)=NV b:=λq=>e (QZ q);rw[decide_eq_false h,decide_eq_false e]
theorem HK(a:Int)(b:Str):decide ((N_ a:Key)=NV b)=false:=decide_eq_false (λq=>nomatch q)
theorem Hm(a:Str)(b:Int):decide ((NV a:Key)=N_ b)=false:=decide_eq_false (λq=>nomatch q)
noncomputable def bb(prog:Og)(w:Ox):PySem.KeyKind prog w Key where
 is:=qv
 hash:=LG w
 inj:=λv a b ha f=>by
  rcases b_ ha with⟨i,t,rfl,rfl⟩|⟨x,t,rfl,rfl⟩
  ·rcases b_ f with⟨j,u,rfl,e⟩|⟨y,u,rfl,e⟩
   ·injection e with c _;rw[c]
   ·exact nomatch e
  ·rcases b_ f with⟨j,u,rfl,e⟩|⟨y,u,rfl,e⟩
   ·exact nomatch e
   ·injection e with c _;rw[c]
 byValue:=λk v h=>by
  rcases b_ h with⟨i,t,rfl,rfl⟩|⟨x,t,rfl,rfl⟩<;>rfl
 pyHash:=λd h=>by
  rcases b_ d with⟨i,t,rfl,rfl⟩|⟨x,t,rfl,rfl⟩
  ·exact wpAny_pyHash_int h
  ·exact wpAny_pyHash_str h
 eqBool:=λg d h=>by
  rcases b_ g with⟨i,t,rfl,rfl⟩|⟨x,t,rfl,rfl⟩
  ·rcases b_ d with⟨j,u,rfl,rfl⟩|⟨y,u,rfl,rfl⟩
   ·rw[Jh]at h;exact wpAny_eqBool_int h
   ·rw[HK]at h;exact UH i t y u _ _ _ _ h
  ·rcases b_ d with⟨j,u,rfl,rfl⟩|⟨y,u,rfl,rfl⟩
   ·rw[Hm]at h;exact UG x t j u _ _ _ _ h
   ·rw[HN]at h;exact wpAny_eqBool_str h
 «strs»:=λk x t v h=>by
  rcases b_ h with⟨i,u,rfl,e⟩|⟨y,u,rfl,e⟩
  ·exact nomatch e
  ·injection e with c _
   subst c
   cases v<;>rfl
theorem sO(prog:Og)(w:Ox)(i:Int)(t:Tok):(bb prog w).is (.inl i) (.int i t)=true:=zK i t
theorem tf(prog:Og)(w:Ox)(x:Str)(t:Tok):(bb prog w).is (.inr x) (.str x t)=true:=yU x t
inductive V where
 |non|bl (b:Bool)|int (i:Int)|str (x:Str)|byt (b:Array UInt8)|flt (b:UInt64)|ref (a:B3)|ty (n:String)
 deriving DecidableEq
def RelV:V->B5->Prop
 | .non,u=>u=OC
 | .bl b,u=>u=Rp b
 | .int i,u=>∃t,u=Rc i t
 | .str x,u=>∃t,u=OG x t
 | .byt b,u=>∃t,u=Value.bytes b t
 | .flt b,u=>∃t,u=Um b t
 | .ref a,u=>u=KB a
 | .ty n,u=>u=Pt n
abbrev Vals:List V->List B5->Prop:=Paired RelV
variable{us:List B5}{xs vs:List V}{u:B5}{a b it dx C f:B3}{P prog:Og}{h h' base:ON}{w:Ox}{A:PR}{E Q:B5->Gc->Prop}{M:Model}{N ps:List Str}{ch fp:List B3}{d':Drawn}{g':Array GenState}{i j t' n:Nat}{pins:List (B3×Obj)}{s s':Gc}{x name m qual:Str}{v y:V}{e c tg l:Expr}{op op':CmpOp}{pos pos' p apos:Pos}{K:mo}{es:List Expr}{body:List NG}{lo:Int}{mA mg:Str->Option B5}{kw:List (Str×B5)}{fd:O4}{outer:List Env}{kindOf:Str->Option Sb}{scope:Qs}
theorem Vals.length(r:Vals xs us):xs.length=us.length:=Q_ r
theorem Vals.get:∀{xs:List V}{us:List B5}{i:Nat}{x:V},Vals xs us->xs[i]? =some x->∃u,us[i]? =some u/\RelV x u
 |_,_,_,_,.nil,e=>by simp at e
 |_,_,0,_,.cons r _,e=>by simp at e;subst e;exact⟨_,rfl,r⟩
 |_,_,i+1,x,.cons _ t,e=>by
  obtain⟨u,h1,h2⟩:=Vals.get (i:=i) (x:=x) t (by simpa using e);exact⟨u,by simpa using h1,h2⟩
theorem Vals.set{x:V}(r:RelV x u):∀{xs:List V}{us:List B5}(i:Nat),Vals xs us->Vals (xs.set i x) (us.set i u)
 |_,_,_,.nil=> .nil
 |_,_,0,.cons _ t=> .cons r t
 |_,_,i+1,.cons q t=> .cons q (Vals.set r i t)
theorem Vals.append:∀{xs ys:List V}{us ws:List B5},Vals xs us->Vals ys ws->Vals (xs++ys) (us++ws)
 |_,_,_,_,.nil,s=>s
 |_,_,_,_,.cons r t,s=> .cons r (Vals.append t s)
theorem Vals.take:∀{xs:List V}{us:List B5}(n:Nat),Vals xs us->Vals (xs.take n) (us.take n)
 |_,_,0,_=> .nil
 |_,_,_+1,.nil=> .nil
 |_,_,n+1,.cons r t=> .cons r (Vals.take n t)
theorem Vals.drop:∀{xs:List V}{us:List B5}(n:Nat),Vals xs us->Vals (xs.drop n) (us.drop n)
 |_,_,0,r=>r
 |_,_,_+1,.nil=> .nil
 |_,_,n+1,.cons _ t=>Vals.drop n t
def fm:Option V->Option B5->Prop
 |some v,some u=>RelV v u
 |none,none=>True
 |_,_=>False
def KV{κ:Type}:List (κ×V)->List (κ×B5)->Prop:=Paired λ(p:κ×V) (q:κ×B5)=>p.1=q.1/\RelV p.2 q.2
noncomputable def kV:Key->V
 | .inl i=> .int i
 | .inr x=> .str x
inductive HO where
  |lst (xs:List V)
  |tup (xs:List V)
  |dK (kvs:List (Key×V))|dT (kvs:List (List Key×V))
  |set (S:Int->Bool) (n:Nat)
  |ins (C dx:B3) (fs:List (Str×V))
  |own (x:B3)
  |xd (fs:List (Str×V))
  |met (f x:B3)
  |rng (lo hi:Int)
  |frz (o:Obj) (u:HO)
  |tbl (ps:Array B5)
  |ext (φ:ON->Prop)
abbrev Hp:=B3->Option HO
noncomputable def upd(H:Hp)(a:B3)(o:HO):Hp:=λb=>if b=a then some o else H b
variable{o:HO}{H H':Hp}
theorem ae:upd H a o a=some o:=by unfold upd;rw[if_pos rfl]
theorem ak(h:b≠a):upd H a o b=H b:=by unfold upd;rw[if_neg h]
theorem FG{u:HO}:upd (upd H a o) a u=upd H a u:=by
 funext b;unfold upd;split<;>rfl
theorem jV{u:HO}(h:H a=some o)(h':H b=some u)(d:o≠u):a≠b:=by
 intro e;subst e;rw[h]at h';exact d (Kf h')
theorem aI(h:H a=some o)(h':H b=none):a≠b:=by
 intro e;subst e;rw[h]at h';cases h'
section
variable(P:Og)(w:Ox)
def cj(H:Hp)(h:ON)(a:B3):HO->Prop
 | .lst xs=>xs.length<=sizeLine/\∃(its:List B5)(n:Nat),Vals xs its/\h.get? a=some {cls:= .type "list",data:= .seq its.toArray n}
 | .tup xs=>xs.length<=sizeLine/\∃its:List B5,Vals xs its/\IsTup h a its.toArray
 | .dK kvs=>kvs.length<=sizeLine/\(a==O1)=false/\∃vs,KV kvs vs/\h.DictOf (bb P w) a vs
 | .dT kvs=>kvs.length<=sizeLine/\(a==O1)=false/\∃xs:List (List Key×B3×B5),
   Paired (λ(p:List Key×V) (q:List Key×B3×B5)=>p.1=q.1/\H q.2.1=some (.tup (p.1.map kV))/\RelV p.2 q.2.2) kvs xs/\
   ∃o es ep,h.get? a=some o/\o.ExactDict/\o.data= .dict es ep/\es.toList=xs.map (entryOfKey (RN (bb P w)))/\(xs.map (·.1)).Nodup
 | .set S n=>h.SetOf (intKind P w) a S n
 | .ins C dx fs=>H dx=some (.own a)/\fs.length<=1000/\dx≠a/\h.get? a=some (Pm C dx)/\
   ∃mA,h.Ns1 dx mA/\(∀f,fm (fs.lookup f) (mA f))/\TL mA (fs.map (·.1))
 | .own _=>∃o,h.get? a=some o
 | .xd fs=>∃mA,h.Ns1 a mA/\∀f,fm (fs.lookup f) (mA f)
 | .rng lo hi=>∃t u v,h.get? a=some {cls:= .type "range",data:= .fields #[.int lo t,.int hi u,.int 1 v]}
 | .frz o u=>h.get? a=some o/\cj H h a u
 | .tbl ps=>h.get? a=some {cls:= .none,data:= .fields ps}
 | .met f x=>h.get? a=some (R9 (.ref f) (.ref x))
 | .ext φ=>φ h/\(∃o,h.get? a=some o)/\∀h1 h2:ON,φ h1->(∀o,h1.get? a=some o->h2.get? a=some o)->φ h2
def ju(H:Hp)(h:ON):Prop:=∀a o,H a=some o->cj P w H h a o
end
theorem cj.lt(x:cj P w H h a o):a<h.objs.size:=by
 cases o with
 |lst xs=>obtain⟨_,_,_,_,e⟩:=x;exact FM e
 |tup xs=>obtain⟨_,_,_,p⟩:=x;exact p.lt
 |dK kvs=>obtain⟨_,_,_,_,o,_,_,e,_⟩:=x;exact FM e
 |dT kvs=>obtain⟨_,_,_,_,o,_,_,e,_⟩:=x;exact FM e
 |set S n=>obtain⟨o,_,_,_,e,_⟩:=x;exact FM e
 |ins C dx fs=>obtain⟨_,_,_,e,_⟩:=x;exact FM e
 |own y=>obtain⟨_,e⟩:=x;exact FM e
 |xd fs=>obtain⟨_,⟨_,_,_,e,_⟩,_⟩:=x;exact FM e
 |rng lo hi=>obtain⟨_,_,_,e⟩:=x;exact FM e
 |frz b u=>obtain⟨e,_⟩:=x;exact FM e
 |tbl ps=>exact FM (show h.get? a=some _ from x)
 |met f y=>exact FM (show h.get? a=some _ from x)
 |ext φ=>obtain⟨_,⟨_,e⟩,_⟩:=x;exact FM e
theorem Paired.Ib{α β:Type}{F G:α->β->Prop}:∀{c:List α}{d:List β},Paired F c d->(∀a b,F a b->G a b)->Paired G c d
 |_,_,.nil,_=> .nil
 |_,_,.cons r t,f=> .cons (f _ _ r) (Paired.Ib t f)
theorem cj.wR(x:cj P w H h a o)(k:∀b u,(b=a∨H b=some (.own a))->h.get? b=some u->h'.get? b=some u)(i:∀b,H b=some (.own a)->H' b=some (.own a))(m:∀b xs,H b=some (.tup xs)->H' b=some (.tup xs)):cj P w H' h' a o:=by
 induction o with
 |lst xs=>obtain⟨z,its,n,r,e⟩:=x;exact⟨z,its,n,r,k _ _ (.inl rfl) e⟩
 |tup xs=>obtain⟨z,its,r,g,e,c⟩:=x;exact⟨z,its,r,g,k _ _ (.inl rfl) e,c⟩
 |dK kvs=>obtain⟨z,y,vs,r,g,es,ep,e,c⟩:=x;exact⟨z,y,vs,r,g,es,ep,k _ _ (.inl rfl) e,c⟩
 |dT kvs=>
  obtain⟨z,y,xs,r,g,es,ep,e,c⟩:=x;exact⟨z,y,xs,Paired.Ib r λp q z=>⟨z.1,m _ _ z.2.1,z.2.2⟩,g,es,ep,k _ _ (.inl rfl) e,c⟩
 |set S n=>obtain⟨g,es,ep,t,e,c⟩:=x;exact⟨g,es,ep,t,k _ _ (.inl rfl) e,c⟩
 |ins C dx fs=>
  obtain⟨d,z,ne,e,mA,⟨od,es,ep,l,c⟩,r⟩:=x;exact⟨i _ d,z,ne,k _ _ (.inl rfl) e,mA,⟨od,es,ep,k _ _ (.inr d) l,c⟩,r⟩
 |own y=>obtain⟨g,e⟩:=x;exact⟨g,k _ _ (.inl rfl) e⟩
 |xd fs=>obtain⟨mA,⟨od,es,ep,e,c⟩,r⟩:=x;exact⟨mA,⟨od,es,ep,k _ _ (.inl rfl) e,c⟩,r⟩
 |rng lo hi=>obtain⟨t,u,v,e⟩:=x;exact⟨t,u,v,k _ _ (.inl rfl) e⟩
 |frz g u j=>obtain⟨e,q⟩:=x;exact⟨k _ _ (.inl rfl) e,j q⟩
 |tbl ps=>
  have e:h.get? a=some {cls:= .none,data:= .fields ps}:=x;show h'.get? a=some {cls:= .none,data:= .fields ps};exact k a _ (.inl rfl) e
 |met f y=>
  have e:h.get? a=some (R9 (.ref f) (.ref y)):=x;show h'.get? a=some (R9 (.ref f) (.ref y));exact k a _ (.inl rfl) e
 |ext φ=>obtain⟨p,⟨o,e⟩,st⟩:=x;exact⟨st _ _ p λo q=>k _ _ (.inl rfl) q,⟨o,k _ _ (.inl rfl) e⟩,st⟩
theorem ju.lt(x:ju P w H h)(e:H a=some o):a<h.objs.size:=(x a o e).lt
theorem ju.fresh(x:ju P w H h)(e:h.objs.size<=a):H a=none:=by
 cases q:H a with
 |none=>rfl
 |some u=>exact absurd (NL (x.lt q) e) (OJ _)
theorem ju.kept(x:ju P w H h)(k:∀b u,h.get? b=some u->h'.get? b=some u):ju P w H h':=λa o e=>
 (x a o e).wR (λb u _ q=>k b u q) (λ_ q=>q) λ_ _ q=>q
theorem ju.laid(x:ju P w H h)(k:∀b u,h.get? b=some u->h'.get? b=some u)(g:h.objs.size<=a)(d:cj P w (upd H a o) h' a o):ju P w (upd H a o) h':=λb u e=>by
 have hn:=x.fresh g;by_cases f:b=a
 ·subst f;rw[ae]at e;cases e;exact d
 ·rw[ak f]at e
  exact(x b u e).wR (λc v _ q=>k c v q) (λc q=>by rw[ak (aI q hn)];exact q) λc xs q=>by rw[ak (aI q hn)];exact q
def Rd(H:Hp)(a:B3)(u:HO):Prop:=H a=some u∨∃o,H a=some (.frz o u)
theorem Rd.ok{u:HO}(r:Rd H a u)(x:ju P w H h):cj P w H h a u:=by
 rcases r with r|⟨o,r⟩
 ·exact x a u r
 ·obtain⟨_,q⟩:=x a _ r;exact q
def Lx:Option HO->Prop
 |some (.lst _)=>True
 |some (.dK _)=>True
 |some (.dT _)=>True
 |some (.set _ _)=>True
 |some (.ins _ _ _)=>True
 |some (.ext _)=>True
 |_=>False
section
variable{x e:B3}{o':HO}
theorem ju.write(ok:ju P w H h)(i:Lx (H x))(he:e=x∨H e=some (.own x))(k:∀b u,b≠e->h.get? b=some u->h'.get? b=some u)(l:∃u,h'.get? e=some u)(j:cj P w (upd H x o') h' x o'):ju P w (upd H x o') h':=λb u q=>by
 have d:∀c y,H c=some (.own y)->c≠x:=λc y r z=>by subst z;rw[r]at i;exact i
 have f:∀c xs,H c=some (.tup xs)->c≠x:=λc xs r z=>by subst z;rw[r]at i;exact i
 by_cases g:b=x
 ·subst g;rw[ae]at q;cases q;exact j
 ·rw[ak g]at q;by_cases a:b=e
  ·have m:H b=some (.own x):=by
    rcases he with z|z
    ·exact absurd (a.trans z) g
    ·rw[a];exact z
   rw[q]at m;cases m;obtain⟨v,n⟩:=l;exact⟨v,by rw[a];exact n⟩
  ·refine(ok b u q).wR (λc v hc r=>k c v ?_ r) (λc r=>by rw[ak (d c b r)];exact r) λc xs r=>by rw[ak (f c xs r)];exact r
   rcases hc with rfl|hc
   ·exact a
   ·rintro rfl
    rcases he with z|z
    ·exact d c b hc z
    ·rw[hc]at z;cases z;exact g rfl
end
structure Un(fs ex:List B3)(H H':Hp)(h h':ON):Prop where
 keep:∀b o,h.get? b=some o->H b=none->b∉fs->b∉ex->h'.get? b=some o
 slot:∀b o,h.get? b=some o->H b=none->b∈fs->b∉ex->∃sl,h'.get? b=some {o with slots:=sl}
 free:∀b o,h.get? b=some o->H b=none->b∉ex->H' b=none
 there:∀b o,h.get? b=some o->b∉ex->∃o',h'.get? b=some o'
 tups:∀b xs,H b=some (.tup xs)->H' b=some (.tup xs)
 frzs:∀b o u,H b=some (.frz o u)->H' b=some (.frz o u)
 tbls:∀b ps,H b=some (.tbl ps)->∃more,H' b=some (.tbl (ps++more))
section
variable{fs fs' ex ex':List B3}{H1 H2:Hp}{h1 h2:ON}{x e:B3}
theorem Un.any(u:Un fs ex H H1 h h1){a:Obj}(q:h.get? b=some a)(n:H b=none)(hx:b∉ex):∃sl,h1.get? b=some {a with slots:=sl}:=by
 by_cases c:b∈fs
 ·exact u.slot b a q n c hx
 ·exact⟨a.slots,u.keep b a q n c hx⟩
theorem Un.kept(k:∀b u,h.get? b=some u->h'.get? b=some u):Un fs ex H H h h':=
 ⟨λb a q _ _ _=>k b a q,λb a q _ _ _=>⟨a.slots,k b a q⟩,λ_ _ _ n _=>n,λb a q _=>⟨a,k b a q⟩,λ_ _ q=>q,λ_ _ _ q=>q,λ_ ps q=>⟨#[],by rw[q];simp⟩⟩
theorem Un.refl:Un fs ex H H h h:=Un.kept λ_ _ q=>q
theorem Un.laid(k:∀b u,h.get? b=some u->h'.get? b=some u)(c:h.objs.size<=a)(hn:H a=none):Un fs ex H (upd H a o) h h' where
 keep:=λb u q _ _ _=>k b u q
 slot:=λb u q _ _ _=>⟨u.slots,k b u q⟩
 free:=λb u q n _=>by rw[ak (Nn (NL (FM q) c))];exact n
 there:=λb u q _=>⟨u,k b u q⟩
 tups:=λb xs q=>by rw[ak (aI q hn)];exact q
 frzs:=λb u xs q=>by rw[ak (aI q hn)];exact q
 tbls:=λb ps q=>⟨#[],by rw[ak (aI q hn),q];simp⟩
theorem Un.write(c:Lx (H x))(he:e=x∨H e=some (.own x))(k:∀b u,b≠e->h.get? b=some u->h'.get? b=some u)(d:∃u,h'.get? e=some u):Un fs ex H (upd H x o) h h':=by
 have hx:∀b,H b=none->b≠x:=λb n z=>by subst z;rw[n]at c;exact c
 have f:∀b,H b=none->b≠e:=λb n z=>by
  subst z
  rcases he with r|r
  ·exact hx b n r
  ·rw[n]at r;cases r
 have hm:∀b u,H b=some u->¬Lx (some u)->b≠x:=λb u q nm z=>by subst z;rw[q]at c;exact nm c
 refine⟨λb u q n _ _=>k b u (f b n) q,λb u q n _ _=>⟨u.slots,k b u (f b n) q⟩,λb u q n _=>by rw[ak (hx b n)];exact n,λb u q _=>?_,
  λb xs q=>by rw[ak (hm b _ q λz=>z)];exact q,λb u xs q=>by rw[ak (hm b _ q λz=>z)];exact q,λb ps q=>⟨#[],by rw[ak (hm b _ q λz=>z),q];simp⟩⟩
 by_cases a:b=e
 ·subst a;exact d
 ·exact⟨u,k b u a q⟩
end
noncomputable def LD(h:ON)(H:Hp):List B3:=(Nz h.objs.size).filter λa=>(H a).isSome
noncomputable def rN(h:ON)(H:Hp):ON:=PySem.W.hideAll h (LD h H)
theorem Ak(h:ON)(H:Hp):(rN h H).objs.size=h.objs.size:=PySem.W.hideAll_size _ _
theorem Bp{o:Obj}(e:h.get? b=some o)(n:H b=none):(rN h H).get? b=some o:=
 PySem.W.hideAll_get _ e λhm=>by
  have q:(H b).isSome=true:=(List.mem_filter.mp hm).2;rw[n]at q;simp at q
theorem D3{o:Obj}(e:(rN h H).get? b=some o):h.get? b=some o/\H b=none:=by
 have a:h.get? b=some o:=PySem.W.of_hideAll (LD h H) e;refine⟨a,?_⟩
 cases q:H b with
 |none=>rfl
 |some x=>
  have hm:b∈LD h H:=List.mem_filter.mpr ⟨List.mem_range.mpr (FM a),by simp[q]⟩;have z:(rN h H).get? b=none:=PySem.W.hideAll_none (LD h H) hm;rw[z]at e;cases e
structure Mod(K:mo)(mg:Str->Option B5)(base:ON):Prop where
 kin:K.In base
 glob:base.Ns Nr mg
 blt:∃mb,base.Ns UC mb/\∀x:Str,x≠"__name__"->mb x=O5 x
 nolimit:base.NoLimit
structure Cx where
 prog:Og
 w:Ox
 K:mo
 mg:Str->Option B5
 base:ON
 A:PR
 N:List Str
 s₀:Gc
 H₀:Hp
 env:Env
 outer:List Env
 stack:List Env
 ex:List B3
 fn:Str->Bool
 calm:Bool
 pn:List (B3×Obj)
 xe:B5->Gc->Prop
noncomputable def DO(l:List Env):List B3:=l.filterMap (·.frame)
noncomputable abbrev Cx.fs(X:Cx):List B3:=DO X.outer
def LK(sc:Qs)(x:Str):Prop:=sc.names.lookup x=some .local∨sc.names.lookup x=some .cell∨sc.names.lookup x=some .free
def Loc(sc:Qs)(x:Str):Prop:=sc.names.lookup x=some .local∨sc.names.lookup x=some .cell
def Look(env:Env)(h:ON)(m:Str->Option B5)(x:Str)(u:B5):Prop:=
 (env.kindOf x=some .local/\m x=some u)∨((env.kindOf x=some .cell∨env.kindOf x=some .free)/\∃c,env.cells.lookup x=some c/\h.IsCell c (some u))
structure Cx.Ok(X:Cx):Prop where
 mod:Mod X.K X.mg X.base
 kind:X.env.scope.kind= .function
 glob:X.env.globals=Nr
 blt:X.env.builtins=UC
 above:X.s₀.heap.objs.size<=X.env.locals
 inj:∀x y c,X.env.cells.lookup x=some c->X.env.cells.lookup y=some c->x=y
 has:∀x,(X.env.kindOf x=some .cell∨X.env.kindOf x=some .free)->∃c,X.env.cells.lookup x=some c
 cab:∀x c,X.fn x=true->X.env.cells.lookup x=some c->X.s₀.heap.objs.size<=c
 hd:X.calm=true->X.A.handled=none
 frames:X.A.frames=some X.stack
 stk:X.stack=X.outer∨(X.stack=X.env::X.outer/\X.env.frame=some X.env.locals)
 exf:∀b∈X.ex,b≠X.env.locals/\∀x c,X.env.cells.lookup x=some c->c≠b
 bs:∀b o,X.base.get? b=some o->X.s₀.heap.get? b=some o/\X.H₀ b=none
 bsz:X.base.objs.size<=X.s₀.heap.objs.size
 noex:∀b o,X.base.get? b=some o->b∉X.ex
 exfs:∀b∈X.ex,b∉X.fs
 jN:X.s₀.heap.FunFrames X.base X.outer
 frf:∀b∈X.fs,X.H₀ b=none
structure Inv(X:Cx)(pins:List (B3×Obj))(σ:List (Option V))(H:Hp)(s:Gc):Prop where
 ok:X.Ok
 os:s.os=X.s₀.os
 bare:Rv s.gens
 base:Un X.fs X.ex X.H₀ H X.s₀.heap s.heap
 loc:∃m,s.heap.Ns X.env.locals m/\∀(i:Nat)(x:Str)(v:V),X.N[i]? =some x->σ[i]? =some (some v)->LK X.env.scope x->∃u,RelV v u/\Look X.env s.heap m x u
 cell:∀x c,X.env.cells.lookup x=some c->∃v,s.heap.IsCell c v
 free:H X.env.locals=none
 freeC:∀x c,X.env.cells.lookup x=some c->H c=none
 pin:∀p∈X.pn++pins,s.heap.get? p.1=some p.2/\H p.1=none/\p.1≠X.env.locals/\p.1∉X.fs/\∀v,p.2.data≠ .cell v
 hok:ju X.prog X.w H s.heap
 len:σ.length=X.N.length
variable{X:Cx}
section
variable{σ:List (Option V)}
theorem Cx.Ok.LX(ok:X.Ok){o:Obj}(e:X.base.get? b=some o):b∉X.fs:=λa=>by
 have :=(ok.jN.mem a).1;rw[e]at this;cases this
theorem Inv.bs(I:Inv X pins σ H s):∀b o,X.base.get? b=some o->s.heap.get? b=some o/\H b=none:=λb o e=>
 ⟨I.base.keep b o (I.ok.bs b o e).1 (I.ok.bs b o e).2 (I.ok.LX e) (I.ok.noex b o e),I.base.free b o (I.ok.bs b o e).1 (I.ok.bs b o e).2 (I.ok.noex b o e)⟩
theorem Inv.bk(I:Inv X pins σ H s):∀b o,X.base.get? b=some o->s.heap.get? b=some o:=λb o e=>(I.bs b o e).1
theorem Inv.mod(I:Inv X pins σ H s):Mod X.K X.mg X.base:=I.ok.mod
theorem Inv.lJ(I:Inv X pins σ H s):X.K.In s.heap:=I.ok.mod.kin.keeps I.bk
theorem Inv.lt(I:Inv X pins σ H s):X.env.locals<s.heap.objs.size:=let⟨_,hn,_⟩:=I.loc;hn.lt
theorem Inv.sz(I:Inv X pins σ H s):X.s₀.heap.objs.size<=s.heap.objs.size:=NW I.ok.above (Sa I.lt)
theorem Inv.Mr(I:Inv X pins σ H s)(h:s.heap.objs.size<=a):a∉X.fs:=λc=>by
 obtain⟨_,o,b,_⟩:=I.ok.jN.mem c;exact absurd (NL (FM b) (NW I.sz h)) (OJ _)
theorem Inv.Ij(I:Inv X pins σ H s):∀x c,X.env.cells.lookup x=some c->c≠X.env.locals:=λx c e z=>by
 obtain⟨v,o,d,hd⟩:=I.cell x c e;obtain⟨m,⟨o',es,ep,a,b,_⟩,_⟩:=I.loc;rw[z,a]at d;cases d;rw[b]at hd;cases hd
theorem Inv.jN(I:Inv X pins σ H s):s.heap.FunFrames X.base X.outer:=by
 have all:∀(l:List Env),(∀b∈DO l,b∈X.fs)->X.s₀.heap.FunFrames X.base l->s.heap.FunFrames X.base l:=by
  intro l
  induction l with
  |nil=>intro _ _;trivial
  |cons env r j=>
   intro f hl;obtain⟨h,⟨L,o,a,hn,g,hd⟩,i⟩:=hl;have d:L∈X.fs:=f L (by unfold DO;rw[RT,a];exact B6);obtain⟨sl,e⟩:=I.base.slot L o g (I.ok.frf L d) d λz=>I.ok.exfs L z d;exact⟨h,⟨L,_,a,hn,e,hd⟩,j (λb c=>f b (by unfold DO;rw[RT,a];exact De _ c)) i⟩
 exact all X.outer (λ_ c=>c) I.ok.jN
theorem Inv.stack(I:Inv X pins σ H s):s.heap.FunFrames X.base X.stack:=by
 rcases I.ok.stk with e|⟨e,a⟩
 ·rw[e];exact I.jN
 ·rw[e];obtain⟨m,hn,_⟩:=I.loc;refine .cons (by rw[I.ok.kind];decide) a hn ?_ I.jN;exact Heap.get?_none_of_le (NW I.ok.bsz I.ok.above)
theorem Inv.rf(I:Inv X pins σ H s):∀b∈DO X.stack,b∈X.env.locals::X.fs:=λb a=>by
 rcases I.ok.stk with e|⟨e,c⟩
 ·rw[e]at a;exact De _ a
 ·rw[e]at a;unfold DO at a;rw[RT,c]at a;exact a
theorem Inv.xN(I:Inv X pins σ H s):∀b∈DO X.stack,H b=none:=λb hb=>by
 rcases List.mem_cons.mp (I.rf b hb)with e|hb
 ·rw[e];exact I.free
 ·obtain⟨_,o,a,_⟩:=I.ok.jN.mem hb;exact I.base.free b o a (I.ok.frf b hb) λz=>I.ok.exfs b z hb
theorem Inv.step{g':Array GenState}{t':Nat}{d':Drawn}{ch:List B3}(I:Inv X pins σ H s)(f:∀b∈ch,(b∈X.ex∨X.s₀.heap.objs.size<=b)/\b≠X.env.locals/\(∀x c,X.env.cells.lookup x=some c->c≠b)/\∀p∈X.pn++pins,p.1≠b)(keep:∀b o,b≠X.env.locals->b∉X.fs->b∉ch->s.heap.get? b=some o->H b=none->h'.get? b=some o)(slot:∀b o,b≠X.env.locals->b∈X.fs->b∉ch->s.heap.get? b=some o->H b=none->∃sl,h'.get? b=some {o with slots:=sl})(free:∀b o,b∉ch->s.heap.get? b=some o->H b=none->H' b=none)(there:∀b o,b∉ch->s.heap.get? b=some o->∃o',h'.get? b=some o')(tups:∀b xs,H b=some (.tup xs)->H' b=some (.tup xs))(frzs:∀b o u,H b=some (.frz o u)->H' b=some (.frz o u))(tbls:∀b ps,H b=some (.tbl ps)->∃more,H' b=some (.tbl (ps++more)))(ns:∀m,s.heap.Ns X.env.locals m->h'.Ns X.env.locals m)(hok:ju X.prog X.w H' h')(G:Rv g'):
  Inv X pins σ H' {s with heap:=h',gens:=g',drawn:=d',toks:=t'}:=by
 have A:∀b o,X.s₀.heap.get? b=some o->b≠X.env.locals:=λb o e=>Nn (NL (FM e) I.ok.above)
 have j:∀b o,X.s₀.heap.get? b=some o->b∉X.ex->b∉ch:=λb o e hx t=>by
  rcases(f b t).1 with z|z
  ·exact hx z
  ·exact absurd (NL (FM e) z) (OJ _)
 have g:∀x c,X.env.cells.lookup x=some c->∀v,s.heap.IsCell c v->h'.IsCell c v:=λx c e v ⟨o,y,hd⟩=>by
  have a:c∉ch:=λz=>(f c z).2.2.1 x c e rfl;by_cases F:c∈X.fs
  ·obtain⟨sl,q⟩:=slot c o (I.Ij x c e) F a y (I.freeC x c e);exact⟨_,q,hd⟩
  ·exact⟨o,keep c o (I.Ij x c e) F a y (I.freeC x c e),hd⟩
 refine⟨I.ok,I.os,G,⟨λb o e n t hx=>?_,λb o e n t hx=>?_,λb o e n hx=>?_,λb o e hx=>?_,λb xs e=>tups b xs (I.base.tups b xs e),λb o xs e=>frzs b o xs (I.base.frzs b o xs e),λb ps e=>?_⟩,?_,λx c e=>?_,?_,λx c e=>?_,λp D=>?_,hok,I.len⟩
 ·exact keep b o (A b o e) t (j b o e hx) (I.base.keep b o e n t hx) (I.base.free b o e n hx)
 ·obtain⟨sl,h⟩:=I.base.slot b o e n t hx;obtain⟨C,B⟩:=slot b _ (A b o e) t (j b o e hx) h (I.base.free b o e n hx);exact⟨C,B⟩
 ·obtain⟨o',h⟩:=I.base.there b o e hx;exact free b o' (j b o e hx) h (I.base.free b o e n hx)
 ·obtain⟨o',h⟩:=I.base.there b o e hx;exact there b o' (j b o e hx) h
 ·obtain⟨K,h⟩:=I.base.tbls b ps e;obtain⟨J,B⟩:=tbls b _ h;exact⟨K++J,by rw[B,Pf]⟩
 ·obtain⟨m,hn,hl⟩:=I.loc;refine⟨m,ns m hn,λi x v h B L=>?_⟩;obtain⟨u,r,l⟩:=hl i x v h B L;refine⟨u,r,?_⟩
  rcases l with l|⟨k,c,e,z⟩
  ·exact .inl l
  ·exact .inr ⟨k,c,e,g x c e _ z⟩
 ·obtain⟨v,z⟩:=I.cell x c e;exact⟨v,g x c e v z⟩
 ·obtain⟨m,⟨o,_,_,y,_⟩,_⟩:=I.loc;exact free _ o (λz=>(f _ z).2.1 rfl) y I.free
 ·obtain⟨v,o,y,hd⟩:=I.cell x c e;exact free c o (λz=>(f c z).2.2.1 x c e rfl) y (I.freeC x c e)
 ·obtain⟨e,n,ne,E,d⟩:=I.pin p D;have a:p.1∉ch:=λz=>(f p.1 z).2.2.2 p D rfl;exact⟨keep p.1 p.2 ne E a e n,free p.1 p.2 a e n,ne,E,d⟩
theorem Inv.un(I:Inv X pins σ H s)(u:Un X.fs [] H H' s.heap h')(hok:ju X.prog X.w H' h'):Inv X pins σ H' {s with heap:=h',toks:=t'}:=by
 obtain⟨m,⟨o,es,ep,g,r⟩,_⟩:=id I.loc;obtain⟨sl,h⟩:=u.any g I.free (by simp)
 exact I.step (g':=s.gens) (d':=s.drawn) (ch:=[]) (λ_ z=>nomatch z) (λb o _ d _ e n=>u.keep b o e n d (by simp)) (λb o _ d _ e n=>u.slot b o e n d (by simp)) (λb o _ e n=>u.free b o e n (by simp)) (λb o _ e=>u.there b o e (by simp)) u.tups u.frzs u.tbls (λi hm=>by
  obtain⟨o',c,f,a,r'⟩:=hm;rw[g]at a;cases a
  exact⟨_,c,f,h,r'⟩) hok I.bare
theorem Inv.call(I:Inv X pins σ H s)(u:Un (DO X.stack) ch H H' s.heap h')(hok:ju X.prog X.w H' h')(k:Rv g')(f:∀b∈ch,(b∈X.ex∨X.s₀.heap.objs.size<=b)/\b≠X.env.locals/\(∀x c,X.env.cells.lookup x=some c->c≠b)/\∀p∈X.pn++pins,p.1≠b):
  Inv X pins σ H' {s with heap:=h',gens:=g',drawn:=d',toks:=t'}:=by
 obtain⟨m,⟨o,es,ep,j,r⟩,_⟩:=id I.loc;obtain⟨sl,h⟩:=u.any j I.free λz=>(f _ z).2.1 rfl
 exact I.step (ch:=ch) f (λb o h l a e n=>u.keep b o e n (λz=>(List.mem_cons.mp (I.rf b z)).elim h l) a) (λb o _ _ a e n=>u.any e n a) (λb o a e n=>u.free b o e n a) (λb o a e=>u.there b o e a) u.tups u.frzs u.tbls (λq hm=>by
  obtain⟨o',g,i,d,r'⟩:=hm;rw[j]at d;cases d
  exact⟨_,g,i,h,r'⟩) hok k
theorem Inv.turned(I:Inv X pins σ H s)(k:∀b o,b≠it->s.heap.get? b=some o->h'.get? b=some o)(hn:H it=none)(f:it≠X.env.locals)(h1:it∈X.ex∨X.s₀.heap.objs.size<=it)(h2:∀x c,X.env.cells.lookup x=some c->c≠it)(h:∀p∈X.pn++pins,p.1≠it):Inv X pins σ H {s with heap:=h',toks:=t'}:=by
 have d:∀b u,H b=some u->b≠it:=λb u e z=>by rw[z,hn]at e;cases e
 refine I.step (g':=s.gens) (d':=s.drawn) (ch:=[it]) (λb g=>?_) (λb o _ _ a e _=>k b o (λz=>a (by simp[z])) e) (λb o _ _ a e _=>⟨o.slots,k b o (λz=>a (by simp[z])) e⟩) (λ_ _ _ _ n=>n)
  (λb o a e=>⟨o,k b o (λz=>a (by simp[z])) e⟩) (λ_ _ e=>e) (λ_ _ _ e=>e) (λb ps e=>⟨#[],by rw[e];simp⟩) (λm hm=>?_) (λb u e=>?_) I.bare
 ·have e:b=it:=by simpa using g
  subst e;exact⟨h1,f,h2,h⟩
 ·obtain⟨o,es,ep,i,r⟩:=hm;exact⟨o,es,ep,k _ o (B9 f) i,r⟩
 ·refine(I.hok b u e).wR (λc v a q=>k c v ?_ q) (λ_ q=>q) λ_ _ q=>q
  rcases a with z|z
  ·rw[z];exact d b u e
  ·exact d c _ z
theorem Inv.tok(I:Inv X pins σ H s)(t:Nat):Inv X pins σ H {s with toks:=t}:=I.un (h':=s.heap) (t':=t) Un.refl I.hok
theorem Inv.kept(I:Inv X pins σ H s)(k:∀b u,s.heap.get? b=some u->h'.get? b=some u):Inv X pins σ H {s with heap:=h',toks:=t'}:=I.un (Un.kept k) (I.hok.kept k)
theorem Inv.laid(I:Inv X pins σ H s)(k:∀b u,s.heap.get? b=some u->h'.get? b=some u)(c:s.heap.objs.size<=a)(d:cj X.prog X.w (upd H a o) h' a o):
  Inv X pins σ (upd H a o) {s with heap:=h',toks:=t'}:=I.un (Un.laid k c (I.hok.fresh c)) (I.hok.laid k c d)
theorem Inv.write{x e:B3}(I:Inv X pins σ H s)(d:Lx (H x))(he:e=x∨H e=some (.own x))(k:∀b u,b≠e->s.heap.get? b=some u->h'.get? b=some u)(a:∃u,h'.get? e=some u)(c:cj X.prog X.w (upd H x o) h' x o):Inv X pins σ (upd H x o) {s with heap:=h',toks:=t'}:=I.un (Un.write d he k a) (I.hok.write d he k a c)
theorem Inv.xD{a:List (B3×Obj)}(I:Inv X pins σ H s)(h:∀p∈a,s.heap.get? p.1=some p.2/\H p.1=none/\p.1≠X.env.locals/\p.1∉X.fs/\∀v,p.2.data≠ .cell v):Inv X a σ H s:=
 ⟨I.ok,I.os,I.bare,I.base,I.loc,I.cell,I.free,I.freeC,λp b=>(List.mem_append.mp b).elim (λz=>I.pin p (NS _ z)) (h p),I.hok,I.len⟩
theorem uK(e:N.Nodup)(a:N[i]? =some x)(b:N[j]? =some x):i=j:=by
 obtain⟨h1,c⟩:=List.getElem?_eq_some_iff.mp a;obtain⟨h2,d⟩:=List.getElem?_eq_some_iff.mp b;exact(List.getElem_inj e).mp (c.trans d.symm)
theorem qf{Q:Unit->Gc->Prop}(I:Inv X pins σ H s)(hN:X.N.Nodup)(hi:X.N[i]? =some x)(hx:Loc X.env.scope x)(r:RelV v u)(h:∀s',Inv X pins (σ.set i (some v)) H s'->(∃a,OW a s.heap s'.heap/\(a=X.env.locals∨X.env.cells.lookup x=some a))->Q () s')(hf:X.fn x=true∨X.env.scope.names.lookup x=some .local:=by first|exact .inl rfl|exact .inr rfl|assumption):GT M A (storeName X.env x u) Q E s:=by
 obtain⟨m,hn,hl⟩:=id I.loc
 have P:(X.env.scope.kind== .class||(X.env.scope.kind== .module&&X.env.locals !=X.env.globals))=false:=by rw[I.ok.kind];rfl
 have C:i<σ.length:=by rw[I.len];exact(List.getElem?_eq_some_iff.mp hi).1
 have Ij:=I.Ij
 have g:∀{a:B3}{h':ON},(∃o,s.heap.get? a=some o/\H a=none)->OW a s.heap h'->ju X.prog X.w H h':=λ{a h'} ha f b ob e=>by
  obtain⟨_,_,t⟩:=ha;refine(I.hok b ob e).wR (λc R hc q=>(f.2 c ?_).trans q) (λ_ q=>q) λ_ _ q=>q;rintro rfl
  rcases hc with rfl|hc
  ·rw[t]at e;cases e
  ·rw[t]at hc;cases hc
 rcases hx with hk|hk
 ·refine wpAny_storeName_local hk hn (λh' U f=>?_) P;obtain⟨oL,_,_,Z,_⟩:=id hn;refine h _ ⟨I.ok,I.os,I.bare,⟨λb o e n D hx=>?_,λb o e n D hx=>?_,I.base.free,λb o e hx=>?_,I.base.tups,I.base.frzs,I.base.tbls⟩,⟨_,U,λj y v' l B Y=>?_⟩,λy c e=>?_,I.free,I.freeC,λp V=>?_,g ⟨oL,Z,I.free⟩ f,by simpa using I.len⟩ ⟨_,f,.inl rfl⟩
  ·exact(f.2 b (Nn (NL (FM e) I.ok.above))).trans (I.base.keep b o e n D hx)
  ·obtain⟨sl,l⟩:=I.base.slot b o e n D hx;exact⟨sl,(f.2 b (Nn (NL (FM e) I.ok.above))).trans l⟩
  ·obtain⟨o',l⟩:=I.base.there b o e hx;exact⟨o',(f.2 b (Nn (NL (FM e) I.ok.above))).trans l⟩
  ·by_cases G:j=i
   ·subst G;rw[hi]at l;cases l;rw[T3 C]at B
    cases B
    exact⟨u,r,.inl ⟨hk,by simp⟩⟩
   ·rw[Uq (B9 G)]at B;obtain⟨T,r',q⟩:=hl j y v' l B Y;refine⟨T,r',?_⟩
    rcases q with⟨k,e⟩|⟨k,c,e,z⟩
    ·refine .inl ⟨k,?_⟩;have :y≠x:=λe=>G (uK hN l (e▸hi));simp[this,e]
    ·exact .inr ⟨k,c,e,z.sameBut f (Ij y c e)⟩
  ·obtain⟨R,z⟩:=I.cell y c e;exact⟨R,z.sameBut f (Ij y c e)⟩
  ·obtain⟨e,n,ne,W,d⟩:=I.pin p V;exact⟨(f.2 p.1 ne).trans e,n,ne,W,d⟩
 ·have F:X.fn x=true:=by
   rcases hf with z|z
   ·exact z
   ·rw[z]at hk;cases hk
  obtain⟨c,hc⟩:=I.ok.has x (.inl hk);obtain⟨R,z⟩:=I.cell x c hc;refine wpAny_storeName_cell I.ok.kind hk hc z (λh' K f=>?_);obtain⟨oc,L,O⟩:=id z;refine h {s with heap:=h'} ⟨I.ok,I.os,I.bare,⟨λb o e n D hx=>?_,λb o e n D hx=>?_,I.base.free,λb o e hx=>?_,I.base.tups,I.base.frzs,I.base.tbls⟩,⟨m,hn.sameBut f (B9 (Ij x c hc)),λj y v' l B Y=>?_⟩,λy S e=>?_,I.free,I.freeC,λp V=>?_,g ⟨oc,L,I.freeC x c hc⟩ f,by simpa using I.len⟩ ⟨c,f,.inr hc⟩
  ·exact(f.2 b (Nn (NL (FM e) (I.ok.cab x c F hc)))).trans (I.base.keep b o e n D hx)
  ·obtain⟨sl,l⟩:=I.base.slot b o e n D hx;exact⟨sl,(f.2 b (Nn (NL (FM e) (I.ok.cab x c F hc)))).trans l⟩
  ·obtain⟨o',l⟩:=I.base.there b o e hx;exact⟨o',(f.2 b (Nn (NL (FM e) (I.ok.cab x c F hc)))).trans l⟩
  ·by_cases G:j=i
   ·subst G;rw[hi]at l;cases l;rw[T3 C]at B
    cases B
    exact⟨u,r,.inr ⟨.inl hk,c,hc,K⟩⟩
   ·rw[Uq (B9 G)]at B;obtain⟨T,r',q⟩:=hl j y v' l B Y;refine⟨T,r',?_⟩
    rcases q with q|⟨k,S,e,z'⟩
    ·exact .inl q
    ·refine .inr ⟨k,S,e,z'.sameBut f ?_⟩;rintro rfl;exact G (uK hN l (I.ok.inj _ _ _ e hc▸hi))
  ·by_cases J:S=c
   ·subst J;exact⟨_,K⟩
   ·obtain⟨w2,z2⟩:=I.cell y S e;exact⟨w2,z2.sameBut f J⟩
  ·obtain⟨e,n,ne,W,d⟩:=I.pin p V;refine⟨(f.2 p.1 ?_).trans e,n,ne,W,d⟩;intro q;rw[q,L]at e;have q':oc=p.2:=Kf e;exact d R (by rw[<-q'];exact O)
theorem uW{Q:Unit->Gc->Prop}(I:Inv X pins σ H s)(c:X.N.Nodup)(hi:X.N[i]? =some x)(hx:Loc X.env.scope x)(r:RelV v u)(h:∀s',Inv X pins (σ.set i (some v)) H s'->Q () s')(b:X.fn x=true∨X.env.scope.names.lookup x=some .local:=by first|exact .inl rfl|exact .inr rfl|assumption):GT M A (storeName X.env x u) Q E s:=
 qf I c hi hx r (λs' a _=>h s' a) b
theorem Inv.KY(I:Inv X pins σ H s)(d:s'.os=s.os)(u:Un (DO X.stack) ch H H' s.heap s'.heap)(hok:ju X.prog X.w H' s'.heap)(f:Rv s'.gens)(a:∀b∈ch,(b∈X.ex∨X.s₀.heap.objs.size<=b)/\b≠X.env.locals/\(∀x c,X.env.cells.lookup x=some c->c≠b)/\∀p∈X.pn++pins,p.1≠b):Inv X pins σ H' s':=by
 obtain⟨h',g',d',t',o'⟩:=s';have e:o'=s.os:=d;subst e;exact I.call (g':=g') (t':=t') (d':=d') u hok f a
end
abbrev XK:=B5->Option B3->Hp->Prop
abbrev St:=List (Option V)
abbrev VK:=V->Hp->Prop
abbrev TE:=St->Hp->VK->Prop
abbrev TT:=St->Hp->(Bool->Hp->Prop)->Prop
abbrev TA:=St->Hp->(List V->Hp->Prop)->Prop
structure Ends where
 nx:St->Hp->Prop
 rt:VK
 bk:St->Hp->Prop:=λ_ _=>False
 ct:St->Hp->Prop:=λ_ _=>False
abbrev TS:=Ends->St->Hp->Prop
inductive EP(X:Cx)(pins:List (B3×Obj))(σ:St)(Q:VK)(u:B5)(s':Gc):Prop
 |mk (v:V) (H':Hp) (i:Inv X pins σ H' s') (r:RelV v u) (q:Q v H')
inductive TP(X:Cx)(pins:List (B3×Obj))(σ:St)(Q:Bool->Hp->Prop)(b:Bool)(s':Gc):Prop
 |mk (H':Hp) (i:Inv X pins σ H' s') (q:Q b H')
inductive AP(X:Cx)(pins:List (B3×Obj))(σ:St)(Q:List V->Hp->Prop)(us:List B5)(s':Gc):Prop
 |mk (vs:List V) (H':Hp) (i:Inv X pins σ H' s') (r:Vals vs us) (q:Q vs H')
inductive NX(X:Cx)(pins:List (B3×Obj))(k:St->Hp->Prop)(s':Gc):Prop
 |mk (σ':St) (H':Hp) (i:Inv X pins σ' H' s') (q:k σ' H')
def SP(X:Cx)(pins:List (B3×Obj))(D:Ends)(f:Flow)(s':Gc):Prop:=
 match f with
 | .next=>NX X pins D.nx s'
 | .brk=>NX X pins D.bk s'
 | .cont=>NX X pins D.ct s'
 | .ret u=>∃v σ' H',Inv X pins σ' H' s'/\RelV v u/\D.rt v H'
def PE(X:Cx)(e:Expr)(t:TE):Prop:=
 ∀(pins:List (B3×Obj))(s:Gc)(σ:St)(H:Hp)(Q:VK),Inv X pins σ H s->t σ H Q->GT (Nk X.prog X.w) X.A (OI e X.env) (EP X pins σ Q) X.xe s
def PT(X:Cx)(e:Expr)(t:TT):Prop:=
 ∀(pins:List (B3×Obj))(s:Gc)(σ:St)(H:Hp)(Q:Bool->Hp->Prop),Inv X pins σ H s->t σ H Q->GT (Nk X.prog X.w) X.A (UA e X.env (OI e X.env)) (TP X pins σ Q) X.xe s
def PW(X:Cx)(e:Expr)(t:TT):Prop:=
 ∀(a:Sem B5)(pins:List (B3×Obj))(s:Gc)(σ:St)(H:Hp)(Q:Bool->Hp->Prop),Inv X pins σ H s->t σ H Q->GT (Nk X.prog X.w) X.A (UA e X.env a) (TP X pins σ Q) X.xe s
theorem PW.pt{t:TT}(h:PW X e t):PT X e t:=h _
def PA(X:Cx)(es:List Expr)(t:TA):Prop:=
 ∀(pos:Pos)(pins:List (B3×Obj))(s:Gc)(σ:St)(H:Hp)(Q:List V->Hp->Prop),Inv X pins σ H s->t σ H Q->GT (Nk X.prog X.w) X.A (TB (Pr pos (Nx es X.env))) (AP X pins σ Q) X.xe s
def PS(X:Cx)(st:NG)(t:TS):Prop:=
 ∀(pins:List (B3×Obj))(s:Gc)(σ:St)(H:Hp)(D:Ends),Inv X pins σ H s->t D σ H->GT (Nk X.prog X.w) X.A (exec st X.env) (SP X pins D) X.xe s
def wG(X:Cx)(st:List NG)(t:TS):Prop:=
 ∀(pins:List (B3×Obj))(s:Gc)(σ:St)(H:Hp)(D:Ends),Inv X pins σ H s->t D σ H->GT (Nk X.prog X.w) X.A (execs st X.env) (SP X pins D) X.xe s
theorem bS{α:Type}{t:Sem α}{Q b:α->Gc->Prop}(h:GT M A t Q E s)(c:∀a s,Q a s->b a s):GT M A t b E s:=OR h c λ_ _ x=>x
variable{σ:St}{ta te:TE}{tc:TT}{tb:TS}
section
inductive KL(i:Nat)(σ:St)(H:Hp)(Q:VK):Prop
 |mk (v:_) (c0:σ[i]? =some (some v)) (c1:Q v H)
def kh(i:Nat):TE:=λσ H Q=>KL i σ H Q
def tC(v:V):TE:=λ_ H Q=>Q v H
theorem IB(j:X.N[i]? =some x)(g:LK X.env.scope x)(hd:(x==("__debug__":Str))=false:=by decide)(d:(x==("__classdict__":Str))=false:=by decide):PE X (.Name x pos) (kh i):=by
 intro pins s σ H Q I h;obtain⟨v,e,h⟩:=h;obtain⟨m,hn,hl⟩:=I.loc;obtain⟨u,r,l⟩:=hl i x v j e g;have b:EP X pins σ Q u s:=⟨v,H,I,r,h⟩
 rcases l with⟨hk,hm⟩|⟨hk,c,f,a⟩
 ·exact Uy (wpAny_loadName_local I.ok.kind hk hn hm b) hd
 ·rcases hk with hk|hk
  ·exact Uy (wpAny_loadName_cell I.ok.kind hk f a b) hd
  ·exact Uy (wpAny_loadName_free I.ok.kind hk f a b d) hd
theorem ag{i j pos}:PE X (.Constant (.int i) j pos) (tC (.int i)):=λ_ _ _ H _ I h=>wpAny_Constant_int ⟨.int i,H,I.tok _,⟨_,rfl⟩,h⟩
theorem cQ{b j pos}:PE X (.Constant (.bool b) j pos) (tC (.bl b)):=λ_ _ _ H _ I h=>Constant_bool ⟨.bl b,H,I,rfl,h⟩
theorem ar{x j pos}:PE X (.Constant (.str x) j pos) (tC (.str x)):=λ_ _ _ H _ I h=>Calls.Constant_str ⟨.str x,H,I.tok _,⟨_,rfl⟩,h⟩
def Gl(X:Cx)(x:Str):Prop:=X.env.kindOf x=some .globalImplicit
theorem rJ(I:Inv X pins σ H s)(a:Gl X x)(hm:X.mg x=some u)(h:Q u s)(hd:(x==("__debug__":Str))=false:=by decide):GT (Nk X.prog X.w) X.A (OI (.Name x pos) X.env) Q E s:=
 SY I.ok.kind a (Calls.loadGlobal_global (by rw[I.ok.glob];exact I.mod.glob.keeps I.bk) hm h) hd
theorem dZ(I:Inv X pins σ H s)(b:Gl X x)(hm:X.mg x=none)(a:O5 x=some u)(h:Q u s)(hn:x≠"__name__":=by decide)(hd:(x==("__debug__":Str))=false:=by decide):GT (Nk X.prog X.w) X.A (OI (.Name x pos) X.env) Q E s:=by
 obtain⟨mb,h1,h2⟩:=I.mod.blt;exact SY I.ok.kind b (Calls.loadGlobal_builtin (by rw[I.ok.glob];exact I.mod.glob.keeps I.bk) hm (by rw[I.ok.blt];exact h1.keeps I.bk) ((h2 x hn).trans a) h) hd
theorem aU(a:Gl X x)(hm:X.mg x=some u)(r:RelV v u)(hd:(x==("__debug__":Str))=false:=by decide):PE X (.Name x pos) (tC v):=
 λ_ _ _ H _ I h=>rJ I a hm ⟨v,H,I,r,h⟩ hd
theorem dG(b:Gl X x)(hm:X.mg x=none)(a:O5 x=some u)(r:RelV v u)(hn:x≠"__name__":=by decide)(hd:(x==("__debug__":Str))=false:=by decide):PE X (.Name x pos) (tC v):=
 λ_ _ _ H _ I h=>dZ I b hm a ⟨v,H,I,r,h⟩ hn hd
variable{a b:Expr}{tb:TE}
def PC(X:Cx)(op:CmpOp)(a b:Expr)(t:TE):Prop:=
 ∀(pins:List (B3×Obj))(s:Gc)(σ:St)(H:Hp)(Q:VK),Inv X pins σ H s->t σ H Q->
  GT (Nk X.prog X.w) X.A (OI a X.env) (λv d=>GT (Nk X.prog X.w) X.A (OI b X.env) (λu c=>GT (Nk X.prog X.w) X.A (Os op v u) (EP X pins σ Q) X.xe c) X.xe d) X.xe s
inductive ML(Q:Bool->Hp->Prop)(x:V)(H1:Hp):Prop
 |mk (c:_) (c0:x= .bl c) (c1:Q c H1)
def tB(t:TE):TT:=λσ H Q=>t σ H λx H1=>ML Q x H1
theorem xu{t:TE}(h:PC X op a b t)(h1:Q6 op b=false:=by first|exact nobehind _ (by decide) (by decide)|rfl):PT X (.Compare a [op] [b] pos) (tB t):=by
 intro pins s σ H Q I i;refine T9 (bS (h pins s σ H _ I i) λv s1 h1=>bS h1 λu s2 h2=>bS h2 λc j ⟨x,H1,g,f,e⟩=>?_) h1;obtain⟨d,rfl,q⟩:=e
 cases f
 exact Oo ⟨H1,g,q⟩
theorem bJ{t:TE}(h:PE X e t)(he:∀a,UA e X.env a=(do let v<-a;standAt e.pos;TJ [v] (truthy v)):=by intro _;rfl):PT X e (tB t):=by
 intro pins s σ H Q I g;refine isTrue_plain (bS (h pins s σ H _ I g) λv s1 ⟨x,H1,f,c,b⟩=>?_) (he _);obtain⟨d,rfl,q⟩:=b
 cases c
 exact Oo ⟨H1,f,q⟩
variable{tA tB':TT}{rest:List Expr}
def KO(t u:TT):TT:=λσ H Q=>t σ H λc H1=>if c=true then u σ H1 Q else Q false H1
def MN(t u:TT):TT:=λσ H Q=>t σ H λc H1=>if c=true then Q true H1 else u σ H1 Q
def KI(t:TT):TT:=λσ H Q=>t σ H λc H1=>Q (!c) H1
theorem cA(ha:PT X a tA):PW X (.BoolOp .And [a] pos) tA:=by
 intro wh pins s σ H Q I h;refine isTrue_and (bS (ha pins s σ H Q I h) λc s1 e=>?_)
 cases c with
 |true=>exact isTrue_and_nil e
 |false=>exact e
theorem lq(ha:PT X a tA):PW X (.BoolOp .Or [a] pos) tA:=by
 intro wh pins s σ H Q I h;refine isTrue_or (bS (ha pins s σ H Q I h) λc s1 e=>?_)
 cases c with
 |false=>exact isTrue_or_nil e
 |true=>exact e
theorem cM(ha:PT X a tA)(f:PW X (.BoolOp .And (b::rest) pos) tB'):PW X (.BoolOp .And (a::b::rest) pos) (KO tA tB'):=by
 intro wh pins s σ H Q I h;refine isTrue_and (bS (ha pins s σ H _ I h) λc s1 ⟨H1,d,e⟩=>?_)
 cases c with
 |true=>exact f wh pins s1 σ H1 Q d e
 |false=>exact⟨H1,d,e⟩
theorem mU(ha:PT X a tA)(f:PW X (.BoolOp .Or (b::rest) pos) tB'):PW X (.BoolOp .Or (a::b::rest) pos) (MN tA tB'):=by
 intro wh pins s σ H Q I h;refine isTrue_or (bS (ha pins s σ H _ I h) λc s1 ⟨H1,d,e⟩=>?_)
 cases c with
 |true=>exact⟨H1,d,e⟩
 |false=>exact f wh pins s1 σ H1 Q d e
theorem cX(ha:PT X a tA):PT X (.UnaryOp .Not a pos) (KI tA):=by
 intro pins s σ H Q I h;exact isTrue_not (bS (ha pins s σ H (λc H1=>Q (!c) H1) I h) λ_ _ h=>by obtain⟨a,b,c⟩:=h;exact⟨a,b,c⟩)
def GQ(ta tb:TE):TE:=λσ H Q=>ta σ H λx H1=>∃c,x= .bl c/\if c=true then tb σ H1 Q else Q (.bl false) H1
def Lp(ta tb:TE):TE:=λσ H Q=>ta σ H λx H1=>∃c,x= .bl c/\if c=true then Q (.bl true) H1 else tb σ H1 Q
def Ju(ta:TE):TE:=λσ H Q=>ta σ H λx H1=>∃c,x= .bl c/\Q (.bl (!c)) H1
theorem bQ{op}{t:TE}(h:PE X a t):PE X (.BoolOp op [a] pos) t:=λpins s σ H Q I b=>BoolOp_one (h pins s σ H Q I b)
theorem bj(ha:PE X a ta)(g:PE X (.BoolOp .And (b::rest) pos) tb):PE X (.BoolOp .And (a::b::rest) pos) (GQ ta tb):=by
 intro pins s σ H Q I h;refine BoolOp_and (bS (ha pins s σ H _ I h) λv s1 e=>?_);obtain⟨x,H1,f,i,d⟩:=e;obtain⟨c,rfl,d⟩:=d
 cases i
 refine Oo ?_
 cases c with
 |true=>exact g pins s1 σ H1 Q f d
 |false=>exact⟨.bl false,H1,f,rfl,d⟩
theorem GR(ha:PE X a ta)(g:PE X (.BoolOp .Or (b::rest) pos) tb):PE X (.BoolOp .Or (a::b::rest) pos) (Lp ta tb):=by
 intro pins s σ H Q I h;refine BoolOp_or (bS (ha pins s σ H _ I h) λv s1 e=>?_);obtain⟨x,H1,f,i,d⟩:=e;obtain⟨c,rfl,d⟩:=d
 cases i
 refine Oo ?_
 cases c with
 |false=>exact g pins s1 σ H1 Q f d
 |true=>exact⟨.bl true,H1,f,rfl,d⟩
theorem Bg(ha:PE X a ta):PE X (.UnaryOp .Not a pos) (Ju ta):=by
 intro pins s σ H Q I h;refine UnaryOp_ (bS (ha pins s σ H _ I h) λv s1 b=>?_);obtain⟨x,H1,f,e,d⟩:=b;obtain⟨c,rfl,d⟩:=d
 cases e
 exact not_of (Oo ⟨.bl (!c),H1,f,rfl,d⟩)
def MS(t:TT)(ta tb:TE):TE:=λσ H Q=>t σ H λc H1=>if c=true then ta σ H1 Q else tb σ H1 Q
theorem Bt(g:PT X c tA)(ha:PE X a ta)(i:PE X b tb):PE X (.IfExp c a b pos) (MS tA ta tb):=by
 intro pins s σ H Q I h;refine wpAny_IfExp (bS (g pins s σ H _ I h) λd s1 ⟨H1,e,f⟩=>?_)
 cases d with
 |true=>exact ha pins s1 σ H1 Q e f
 |false=>exact i pins s1 σ H1 Q e f
end
def bf(K:mo)(H:Hp)(a:B3)(xs:List V):Prop:=
 Rd H a (.lst xs)∨
  ∃(o:Obj)(its:Array B5)(n:Nat),K.lookup a=some o/\o.cls= .type "list"/\o.dict=none/\o.data= .seq its n/\its.size<=sizeLine/\Vals xs its.toList
def ba(K:mo)(H:Hp)(a:B3)(xs:List V):Prop:=
 Rd H a (.tup xs)∨
  ∃(o:Obj)(its:Array B5)(n:Nat),K.lookup a=some o/\o.cls= .type "tuple"/\o.data= .seq its n/\its.size<=sizeLine/\Vals xs its.toList
noncomputable def LO:B5->Option V
 | .none=>some .non
 | .bool b=>some (.bl b)
 | .int i _=>some (.int i)
 | .str x _=>some (.str x)
 | .bytes b _=>some (.byt b)
 | .float b _=>some (.flt b)
 | .ref a=>some (.ref a)
 | .type n=>some (.ty n)
 |_=>none
theorem RelV.abs{x:V}(r:RelV x u):LO u=some x:=by
 cases x with
 |non=>cases r;rfl
 |bl _=>cases r;rfl
 |int _=>obtain⟨t,rfl⟩:=r;rfl
 |str _=>obtain⟨t,rfl⟩:=r;rfl
 |byt _=>obtain⟨t,rfl⟩:=r;rfl
 |flt _=>obtain⟨t,rfl⟩:=r;rfl
 |ref _=>cases r;rfl
 |ty _=>cases r;rfl
theorem RelV.inj{x:V}(r:RelV x u)(q:RelV y u):x=y:=Kf (r.abs.symm.trans q.abs)
theorem Vals.inj:∀{xs ys:List V}{us:List B5},Vals xs us->Vals ys us->xs=ys
 |_,_,_,.nil,.nil=>rfl
 |_,_,_,.cons r t,.cons r' t'=>by rw[r.inj r',Vals.inj t t']
section
variable{ys:List V}
theorem bf.of(h:H a=some (.lst xs)):bf K H a xs:= .inl (.inl h)
theorem ba.of(h:H a=some (.tup xs)):ba K H a xs:= .inl (.inl h)
theorem Inv.list(I:Inv X pins σ H s)(h:bf X.K H a xs):∃its:List B5,Vals xs its/\PlainL s.heap a its.toArray/\xs.length<=sizeLine:=by
 rcases h with h|⟨o,its,n,c,b,hd,d,f,r⟩
 ·obtain⟨z,its,n,r,e⟩:=h.ok I.hok;exact⟨its,r,⟨_,n,e,rfl,rfl,rfl⟩,z⟩
 ·refine⟨its.toList,r,⟨o,n,I.lJ a o c,b,hd,by simpa using d⟩,?_⟩;have e:=r.length;simp only[Ni]at e
  lia
theorem Inv.tuple(I:Inv X pins σ H s)(h:ba X.K H a xs):∃its:List B5,Vals xs its/\IsTup s.heap a its.toArray/\xs.length<=sizeLine:=by
 rcases h with h|⟨o,its,n,c,b,d,f,r⟩
 ·obtain⟨z,its,r,p⟩:=h.ok I.hok;exact⟨its,r,p,z⟩
 ·refine⟨its.toList,r,⟨o,I.lJ a o c,b,n,by simpa using d⟩,?_⟩;have e:=r.length;simp only[Ni]at e
  lia
theorem Inv.jJ(I:Inv X pins σ H s)(h:bf X.K H a xs)(h':bf X.K H a ys):xs=ys:=by
 obtain⟨its,r,⟨o,n,e,_,_,d⟩,_⟩:=I.list h;obtain⟨its',r',⟨o',c,b,_,_,d'⟩,_⟩:=I.list h';rw[e]at b;cases b;rw[d]at d'
 injection d' with d1 _
 have :its=its':=by simpa using congrArg Array.toList d1
 subst this;exact r.inj r'
theorem Inv.pS(I:Inv X pins σ H s)(h:ba X.K H a xs)(h':ba X.K H a ys):xs=ys:=by
 obtain⟨its,r,⟨o,e,_,n,d⟩,_⟩:=I.tuple h;obtain⟨its',r',⟨o',b,_,c,d'⟩,_⟩:=I.tuple h';rw[e]at b;cases b;rw[d]at d'
 injection d' with d1 _
 have :its=its':=by simpa using congrArg Array.toList d1
 subst this;exact r.inj r'
end
noncomputable abbrev Cx.oZ(X:Cx)(E:B5->Gc->Prop):Cx:={X with xe:=E}
noncomputable abbrev Cx.Jl(X:Cx):Cx:=X.oZ λ_ _=>False
theorem Cx.Ok.oZ(ok:X.Ok)(E:B5->Gc->Prop):(X.oZ E).Ok:=
 ⟨ok.mod,ok.kind,ok.glob,ok.blt,ok.above,ok.inj,ok.has,ok.cab,ok.hd,ok.frames,ok.stk,ok.exf,ok.bs,ok.bsz,ok.noex,ok.exfs,ok.jN,ok.frf⟩
theorem Cx.Ok.iw(ok:(X.oZ E).Ok):X.Ok:=
 ⟨ok.mod,ok.kind,ok.glob,ok.blt,ok.above,ok.inj,ok.has,ok.cab,ok.hd,ok.frames,ok.stk,ok.exf,ok.bs,ok.bsz,ok.noex,ok.exfs,ok.jN,ok.frf⟩
theorem Inv.oZ(I:Inv X pins σ H s)(E:B5->Gc->Prop):Inv (X.oZ E) pins σ H s:=⟨I.ok.oZ E,I.os,I.bare,I.base,I.loc,I.cell,I.free,I.freeC,I.pin,I.hok,I.len⟩
theorem Inv.iw(I:Inv (X.oZ E) pins σ H s):Inv X pins σ H s:=⟨I.ok.iw,I.os,I.bare,I.base,I.loc,I.cell,I.free,I.freeC,I.pin,I.hok,I.len⟩
theorem SP.iw{D:Ends}{f:Flow}(h:SP (X.oZ E) pins D f s'):SP X pins D f s':=by
 cases f with
 |next=>obtain⟨σ',H',I,q⟩:=h;exact⟨σ',H',I.iw,q⟩
 |brk=>obtain⟨σ',H',I,q⟩:=h;exact⟨σ',H',I.iw,q⟩
 |cont=>obtain⟨σ',H',I,q⟩:=h;exact⟨σ',H',I.iw,q⟩
 |ret u=>obtain⟨v,σ',H',I,r,q⟩:=h;exact⟨v,σ',H',I.iw,r,q⟩
theorem wG.Jl{st:List NG}{t:TS}(h:wG X.Jl st t):wG X st t:=λpins s σ H D I a=>
 OR (h pins s σ H D (I.oZ _) a) (λ_ _ q=>q.iw) λ_ _ z=>Pe z
section
variable{st:NG}{rest:List NG}{t u:TS}
def GF:TS:=λD σ H=>D.nx σ H
def HC(t u:TS):TS:=λD σ H=>t {D with nx:=u D} σ H
theorem az:wG X [] GF:=λ_ _ σ H _ I h=>QI ⟨σ,H,I,h⟩
theorem ah(h1:PS X st t)(h2:wG X rest u):wG X (st::rest) (HC t u):=by
 intro pins s σ H D I h;refine U6 (bS (h1 pins s σ H {D with nx:=u D} I h) λf s1 q=>?_)
 cases f with
 |next=>
  obtain⟨σ',H',a,q⟩:=q;exact h2 pins s1 σ' H' D a q
 |ret v=>exact q
 |brk=>exact q
 |cont=>exact q
theorem ai(h1:PS X st t):wG X [st] t:=by
 intro pins s σ H D I h;refine U6 (bS (h1 pins s σ H D I h) λf s1 q=>?_)
 cases f with
 |next=>exact QI q
 |ret v=>exact q
 |brk=>exact q
 |cont=>exact q
theorem Inv.quiet(I:Inv X pins σ H s):interactive X.env=false:=by simp[interactive,I.ok.kind]
def Gp(te:TE):TS:=λD σ H=>te σ H λ_ H1=>D.nx σ H1
theorem cu(he:PE X e te)(d:RO e none pos.line X.env=pure false:=by rfl):PS X (.Expr e pos) (Gp te):=by
 intro pins s σ H D I h;exact wpAny_Expr_any (bS (he pins s σ H _ I h) λv s1 a=>by obtain⟨x,H1,b,f,c⟩:=a;exact⟨σ,H1,b,c⟩) I.quiet d
def EA(te:TE):TS:=λD σ H=>te σ H D.rt
theorem au(he:PE X e te):PS X (.Return (some e) pos) (EA te):=by
 intro pins s σ H D I h;exact wpAny_Return_some (bS (he pins s σ H _ I h) λv s1 a=>by obtain⟨x,H1,c,b,d⟩:=a;exact⟨x,σ,H1,c,b,d⟩)
def Lo(c:TT)(t u:TS):TS:=λD σ H=>c σ H λb H1=>if b=true then t D σ H1 else u D σ H1
theorem aR{a b:List NG}(g:PT X c tc)(ha:wG X a t)(i:wG X b u):PS X (.If c a b pos) (Lo tc t u):=by
 intro pins s σ H D I h;refine wpAny_If (bS (g pins s σ H _ I h) λd s1 ⟨H1,f,e⟩=>?_)
 cases d with
 |true=>exact ha pins s1 σ H1 D f e
 |false=>exact i pins s1 σ H1 D f e
def Hh:TS:=λ_ _ _=>False
theorem e_:PS X st Hh:=λ_ _ _ _ _ _ h=>h.elim
end
abbrev TG:=V->St->Hp->(St->Hp->Prop)->Prop
abbrev Ft:=List V->St->Hp->(St->Hp->Prop)->Prop
def PG(X:Cx)(a:Expr)(t:TG):Prop:=
 ∀(pins:List (B3×Obj))(s:Gc)(σ:St)(H:Hp)(v:V)(u:B5)(Q:St->Hp->Prop),Inv X pins σ H s->RelV v u->t v σ H Q->
  GT (Nk X.prog X.w) X.A (Q7 a X.env u) (λ_ s'=>∃σ' H',Inv X pins σ' H' s'/\Q σ' H') X.xe s
def Lz(X:Cx)(ts:List Expr)(t:Ft):Prop:=
 ∀(pins:List (B3×Obj))(s:Gc)(σ:St)(H:Hp)(vs:List V)(us:List B5)(Q:St->Hp->Prop),Inv X pins σ H s->Vals vs us->t vs σ H Q->
  GT (Nk X.prog X.w) X.A (assignInOrder ((PX ts X.env).map (·.2)) us) (λ_ s'=>∃σ' H',Inv X pins σ' H' s'/\Q σ' H') X.xe s
abbrev Ii:=V->V->V->Hp->(Hp->Prop)->Prop
def KD(X:Cx)(t:Ii):Prop:=
 ∀(pins:List (B3×Obj))(s:Gc)(σ:St)(H:Hp)(o i v:V)(a b u:B5)(Q:Hp->Prop),Inv X pins σ H s->RelV o a->RelV i b->RelV v u->t o i v H Q->
  GT (Nk X.prog X.w) X.A (setItem a b u) (λ_ s'=>∃H',Inv X pins σ H' s'/\Q H') X.xe s
variable{g:TG}
def ix(i:Nat):TG:=λv σ H Q=>Q (σ.set i (some v)) H
theorem aV(c:X.N.Nodup)(hi:X.N[i]? =some x)(hx:Loc X.env.scope x)(b:X.fn x=true∨X.env.scope.names.lookup x=some .local:=by first|exact .inl rfl|exact .inr rfl|assumption):PG X (.Name x pos) (ix i):=by
 intro pins s σ H v u Q I r h;exact US (uW I c hi hx r (λs' a=>⟨_,H,a,h⟩) b)
def Kj:Ft:=λvs σ H Q=>vs=[]/\Q σ H
inductive HE(t:TG)(u:Ft)(vs:List V)(σ:St)(H:Hp)(Q:St->Hp->Prop):Prop
 |mk (v:_) (r:_) (c0:vs=v::r) (c1:t v σ H λσ' H'=>u r σ' H' Q)
def Dg(t:TG)(u:Ft):Ft:=λvs σ H Q=>HE t u vs σ H Q
theorem iL:Lz X [] Kj:=by
 intro pins s σ H vs us Q I r h;obtain⟨e,h⟩:=h;subst e
 cases r
 exact assignInOrder_nil ⟨σ,H,I,h⟩
theorem bN{t:TG}{u:Ft}(h1:PG X e t)(h2:Lz X es u)(i:(PX (e::es) X.env).map (·.2)=Q7 e X.env::(PX es X.env).map (·.2):=by rfl):Lz X (e::es) (Dg t u):=by
 intro pins s σ H vs us Q I r h;obtain⟨v,j,g,h⟩:=h;subst g
 cases r with
 |cons r d=>
  rw[i];refine assignInOrder_cons (bS (h1 pins s σ H _ _ _ I r h) λ_ s1 a=>?_);obtain⟨b,H1,f,c⟩:=a;exact h2 pins s1 b H1 _ _ Q f d c
inductive JJ(K:mo)(n:Nat)(t:Ft)(v:V)(σ:St)(H:Hp)(Q:St->Hp->Prop):Prop
 |mk (a:_) (xs:_) (c0:v= .ref a) (c1:ba K H a xs) (c2:xs.length=n) (c3:t xs σ H Q)
def Ke(K:mo)(n:Nat)(t:Ft):TG:=λv σ H Q=>JJ K n t v σ H Q
theorem kR{k:Nat}{t:Ft}(g:X.calm=true)(h:Lz X es t)(hn:(PX es X.env).length=n:=by rfl)(d:(PX es X.env).findIdx? (·.1)=none:=by rfl):PG X (.Tuple es k pos) (Ke X.K n t):=by
 intro pins s σ H v u Q I r c;obtain⟨a,xs,j,l,hl,c⟩:=c;subst j
 cases r
 obtain⟨its,f,m,p⟩:=I.tuple l;refine assign_Tuple_tuple (I.ok.hd g) m (by simp[hn,<-hl,f.length]) d λh' hx=>?_;have i:Inv X pins σ H {s with heap:=h'}:=I.kept (t':=s.toks) λb o e=>hx b o (Nn (FM e)) e;exact h pins _ σ H xs _ Q i (by simpa using f) c
def L6(to ti:TE)(t:Ii):TG:=λv σ H Q=>to σ H λo H1=>ti σ H1 λi H2=>t o i v H2 λH3=>Q σ H3
theorem Cu{o i:Expr}{to ti:TE}{t:Ii}(k:PE X o to)(hi:PE X i ti)(l:KD X t)(ha:∀v,Q7 (.Subscript o i pos) X.env v=(do
   let b<-TJ [v] (OI o X.env)
   let c<-TJ [v,b] (OI i X.env)
   standAt pos
   TJ [v,b,c] (setItem b c v)
   release [v,b,c] []):=by intro _;rfl):PG X (.Subscript o i pos) (L6 to ti t):=by
 intro pins s σ H v u Q I r h;rw[ha];refine AC (OV (bS (k pins s σ H _ I h) λb s1 a=>?_));obtain⟨x,H1,g,f,d⟩:=a;refine AC (OV (bS (hi pins s1 σ H1 _ g d) λc s2 a=>?_));obtain⟨y,H2,j,n,p⟩:=a;refine AC (Q4 (AC (OV (bS (l pins s2 σ H2 x y v b c u _ j f n r p) λ_ q a=>?_))));obtain⟨H3,e,m⟩:=a;exact wpAny_release ⟨σ,H3,e,m⟩
def DM(te:TE)(g:TG):TS:=λD σ H=>te σ H λx H1=>g x σ H1 D.nx
theorem rQ(he:PE X e te)(f:PG X tg g)(m:swapsWithSole [tg] e pos.line X.env=pure false:=by rfl)(l:swappedStores [tg] e X.env=pure none:=by rfl)(h1:(PX [tg] X.env).map (·.2)=[Q7 tg X.env]:=by rfl):PS X (.Assign [tg] e pos) (DM te g):=by
 intro pins s σ H D I h;refine wpAny_Assign_stores (bS (he pins s σ H _ I h) λv s1 ⟨x,H1,k,j,i⟩=>?_) m l;rw[h1]
 exact bS (f pins s1 σ H1 x v _ k j i) λ_ s2 q=>by obtain⟨a,b,c,d⟩:=q;exact⟨a,b,c,d⟩
theorem aB(j:X.N.Nodup)(hi:X.N[i]? =some x)(hx:Loc X.env.scope x)(he:PE X e te)(g:RO e (some (.Name x pos')) pos.line X.env=pure false:=by rfl)(a:X.fn x=true∨X.env.scope.names.lookup x=some .local:=by first|exact .inl rfl|exact .inr rfl|assumption):
  PS X (.Assign [.Name x pos'] e pos) (DM te (ix i)):=by
 intro pins s σ H D I h;refine wpAny_Assign_Name (bS (he pins s σ H _ I h) λv s1 ⟨y,H1,d,c,b⟩=>?_) g;exact uW d j hi hx c (λs2 f=>⟨_,H1,f,b⟩) a
def Ia(c:TT)(tb:TS):TS:=λD σ H=>∃W:Nat->St->Hp->Prop,(∃m,W m σ H)/\∀m σ H,W m σ H->
 c σ H λb H1=>if b=true then∃N:St->Hp->Prop,(∀σ' H',N σ' H'->∃a,a<m/\W a σ' H')/\tb {D with nx:=N,ct:=N,bk:=D.nx} σ H1 else D.nx σ H1
theorem jU(p:PassesOwn (Nk X.prog X.w) X.A X.env X.xe)(u:PT X c tc)(r:wG X body tb):PS X (.While c body [] pos) (Ia tc tb):=by
 intro pins s σ H D I h;obtain⟨W,⟨x,w0⟩,e⟩:=h;refine wpAny_While (codeAny_whileLoop (λn s'=>∃σ' H',Inv X pins σ' H' s'/\W n σ' H') ?_ x ⟨σ,H,I,w0⟩);rintro n s1 ⟨d,H1,t,w1⟩;refine PD p (bS (u pins s1 d H1 _ t (e n d H1 w1)) λb s2 ⟨H2,o,i⟩=>?_)
 cases b with
 |true=>
  obtain⟨N,q,i⟩:=i;rw[if_pos rfl];refine PD p (bS (r pins s2 d H2 _ o i) λf y g=>?_)
  cases f with
  |next=>
   obtain⟨a,H3,l,m⟩:=g;obtain⟨k,hm,j⟩:=q a H3 m;exact⟨k,hm,a,H3,l,j⟩
  |cont=>
   obtain⟨a,H3,l,m⟩:=g;obtain⟨k,hm,j⟩:=q a H3 m;exact⟨k,hm,a,H3,l,j⟩
  |brk=>exact g
  |ret v=>exact g
 |false=>
  rw[if_neg FS];exact QI ⟨d,H2,o,i⟩
structure It where
 go:Nat->Hp->Prop
 yld:Nat->Hp->V->Hp->Prop
 stop:Nat->Hp->Prop
def kH(X:Cx)(pins:List (B3×Obj))(H:Hp)(b:B3):Prop:=
 H b=none/\b≠X.env.locals/\b∉X.fs/\(b∈X.ex∨X.s₀.heap.objs.size<=b)/\(∀x c,X.env.cells.lookup x=some c->c≠b)/\∀p∈X.pn++pins,p.1≠b
theorem Inv.mD(I:Inv X pins σ H s)(a:s.heap.objs.size<=b)(hn:H' b=none):kH X pins H' b:=by
 refine⟨hn,PB (NL I.lt a),I.Mr a,.inr (NW I.sz a),λx c e z=>?_,λp d z=>?_⟩
 ·obtain⟨v,q⟩:=I.cell x c e;exact absurd (NL q.lt (by rw[z];exact a)) (OJ _)
 ·exact absurd (NL (FM (I.pin p d).1) (by rw[z];exact a)) (OJ _)
structure Turn(P:Og)(w:Ox)(K:mo)(tg:Expr)(J:It)(fp:List B3)(it:B3)(tn:Nat->ON->Prop):Prop where
 mem:it∈fp
 obj:∀i h,tn i h->∀b∈fp,∃o,h.get? b=some o/\∀v,o.data≠ .cell v
 keep:∀i h h',tn i h->(∀b∈fp,∀o,h.get? b=some o->h'.get? b=some o)->tn i h'
 item:∀(X:Cx),X.prog=P->X.w=w->X.K=K->X.calm=true->∀(i:Nat)(pins:List (B3×Obj))(s:Gc)(σ:St)(H:Hp)(E:B5->Gc->Prop),Inv X pins σ H s->(∀b∈fp,kH X pins H b)->tn i s.heap->J.go i H->
  GT (Nk P w) X.A (QQ (.ref it)) (λr s1=>∃u,r=some u/\
   GT (Nk P w) X.A (Rw tg (.ref it) u) (λ_ s2=>∃x H',Inv X pins σ H' s2/\RelV x u/\J.yld i H x H'/\tn (i+1) s2.heap/\∀b∈fp,H' b=none) E s1) E s
 done:∀(X:Cx),X.prog=P->X.w=w->X.K=K->X.calm=true->∀(i:Nat)(pins:List (B3×Obj))(s:Gc)(σ:St)(H:Hp)(E:B5->Gc->Prop),Inv X pins σ H s->(∀b∈fp,kH X pins H b)->tn i s.heap->J.stop i H->
  GT (Nk P w) X.A (QQ (.ref it)) (λr s1=>r=none/\Inv X pins σ H s1) E s
 self:∀(A:PR)(i:Nat)(s:Gc)(Q:B5->Gc->Prop)(E:B5->Gc->Prop),tn i s.heap->Q (.ref it) s->GT (Nk P w) A (pyIter (.ref it)) Q E s
abbrev TI:=St->Hp->(It->Hp->Prop)->Prop
inductive MI(X:Cx)(pins:List (B3×Obj))(σ:St)(tg:Expr)(R:It->Hp->Prop)(itv:B5)(s2:Gc):Prop
 |mk (it:B3) (fp:List B3) (tn:Nat->ON->Prop) (J:It) (H':Hp) (c0:itv= .ref it) (c1:Inv X pins σ H' s2) (c2:Turn X.prog X.w X.K tg J fp it tn) (c3:tn 0 s2.heap) (c4:∀b∈fp,kH X pins H' b) (c5:R J H')
def PI(X:Cx)(tg iter:Expr)(wi:TI):Prop:=
 ∀(pins:List (B3×Obj))(s:Gc)(σ:St)(H:Hp)(R:It->Hp->Prop),Inv X pins σ H s->wi σ H R->
  GT (Nk X.prog X.w) X.A (OI iter X.env) (λv s1=>GT (Nk X.prog X.w) X.A (pyIter v) (MI X pins σ tg R) X.xe s1) X.xe s
theorem tL{o:Obj}{n:String}{vs:Array B5}{Q:Unit->Gc->Prop}(c:s.heap.get? it=some o)(b:o.cls= .type n)(hd:o.data= .fields vs)(hn:["enumerate","zip","dict_itemiterator","dict_reverseitemiterator","odict_iterator","itertools.zip_longest","itertools.pairwise"].contains n=false)(a:Q () s):GT M A (Rw tg (.ref it) u) Q E s:=by
 unfold Rw
 cases tg<;>first
  |exact Fk a
  |(cases u<;>first
    |exact Fk a
    | (refine AC (wpAny_load c ?_)
       rw[b,hd];show GT M A (if(["enumerate","zip","dict_itemiterator","dict_reverseitemiterator","odict_iterator","itertools.zip_longest","itertools.pairwise"].contains n&&vs[0]? ==some (Qv _))=true then _ else _) Q E s;rw[if_neg (by intro h;rw[hn,Bool.false_and]at h;cases h)]
       exact Fk a))
noncomputable def IS(K:mo)(a:B3):It:=
 ⟨λi H=>∃xs x,bf K H a xs/\xs[i]? =some x,λi H x H'=>H'=H/\∀xs,bf K H a xs->xs[i]? =some x,λi H=>∃xs,bf K H a xs/\xs.length<=i⟩
noncomputable def Ht(K:mo)(a:B3):It:=
 ⟨λi H=>∃xs x,ba K H a xs/\xs[i]? =some x,λi H x H'=>H'=H/\∀xs,ba K H a xs->xs[i]? =some x,λi H=>∃xs,ba K H a xs/\xs.length<=i⟩
noncomputable def FC(lo:Int)(n:Nat):It:=⟨λi _=>i<n,λi H x H'=>H'=H/\x= .int (lo+i),λi _=>n<=i⟩
theorem zX(a it:B3):Turn P w K tg (IS K a) [it] it (λi h=>h.IsListIter it a i) where
 mem:=by simp
 obj:=λi h st b f=>by
  have e:b=it:=by simpa using f
  subst e;obtain⟨o,e,c,d⟩:=st;exact⟨o,e,λv z=>by rw[d]at z;cases z⟩
 keep:=λi h h' st k=>st.at λo e=>k it (by simp) o e
 item:=by
  intro X m r q A i pins s σ H E I j st n;subst m r q;obtain⟨xs,x,l,hx⟩:=n;obtain⟨its,t,p,B⟩:=I.list l;obtain⟨u,J,G⟩:=t.get hx;obtain⟨y,f1,f2,f3,f4,f5⟩:=j it (by simp);refine wpAny_pyNext_list_item st p.isList (x:=u) (by simpa using J) λh' g C=>?_;have F:Inv X pins σ H {s with heap:=h'}:=I.turned (t':=s.toks) (λb o f e=>(C.2 b f).trans e) y f1 f3 f4 f5;obtain⟨o,e,c,d⟩:=id g;exact⟨u,rfl,tL (s:={s with heap:=h'}) e c d (by decide) ⟨x,H,F,G,⟨rfl,λys L=>by rw[I.jJ L l];exact hx⟩,g,λb f=>(j b f).1⟩⟩
 done:=by
  intro X m r q A i pins s σ H E I j st n;subst m r q;obtain⟨xs,l,hx⟩:=n;obtain⟨its,t,p,B⟩:=I.list l;obtain⟨y,f1,f2,f3,f4,f5⟩:=j it (by simp);have hl:=t.length;exact wpAny_pyNext_list_end (I.ok.hd A) st p.isList (by simp;lia) λh' D=>⟨rfl,I.turned (t':=s.toks) (λb o f e=>D b o f e) y f1 f3 f4 f5⟩
 self:=λ_ _ _ _ _ st h=>wpAny_pyIter_listiter st h
theorem wC(a it:B3):Turn P w K tg (Ht K a) [it] it (λi h=>h.IsTupleIter it a i) where
 mem:=by simp
 obj:=λi h st b f=>by
  have e:b=it:=by simpa using f
  subst e;obtain⟨o,e,c,d⟩:=st;exact⟨o,e,λv z=>by rw[d]at z;cases z⟩
 keep:=λi h h' st k=>st.at λo e=>k it (by simp) o e
 item:=by
  intro X m r q A i pins s σ H E I j st n;subst m r q;obtain⟨xs,x,l,hx⟩:=n;obtain⟨its,t,p,B⟩:=I.tuple l;obtain⟨u,J,G⟩:=t.get hx;obtain⟨y,f1,f2,f3,f4,f5⟩:=j it (by simp);refine wpAny_pyNext_tuple_item st (show s.heap.IsTuple a its.toArray from p) (x:=u) (by simpa using J) λh' g C=>?_;have F:Inv X pins σ H {s with heap:=h'}:=I.turned (t':=s.toks) (λb o f e=>(C.2 b f).trans e) y f1 f3 f4 f5;obtain⟨o,e,c,d⟩:=id g;exact⟨u,rfl,tL (s:={s with heap:=h'}) e c d (by decide) ⟨x,H,F,G,⟨rfl,λys L=>by rw[I.pS L l];exact hx⟩,g,λb f=>(j b f).1⟩⟩
 done:=by
  intro X m r q A i pins s σ H E I j st n;subst m r q;obtain⟨xs,l,hx⟩:=n;obtain⟨its,t,p,B⟩:=I.tuple l;obtain⟨y,f1,f2,f3,f4,f5⟩:=j it (by simp);have hl:=t.length;exact wpAny_pyNext_tuple_end (I.ok.hd A) st (show s.heap.IsTuple a its.toArray from p) (by simp;lia) λh' D=>⟨rfl,I.turned (t':=s.toks) (λb o f e=>D b o f e) y f1 f3 f4 f5⟩
 self:=λ_ _ _ _ _ st h=>wpAny_pyIter_tupleiter st h
theorem xg(it:B3)(lo:Int)(n:Nat):Turn P w K tg (FC lo n) [it] it (λi h=>IsRangeIter h it (lo+(i:Nat)*1) ((n:Int)-(i:Nat)) 1) where
 mem:=by simp
 obj:=λi h st b a=>by
  have e:b=it:=by simpa using a
  subst e
  exact⟨_,st,λv z=>by
   have z':Data.fields _=Data.cell v:=z
   cases z'⟩
 keep:=λi h h' st k=>k it (by simp) _ st
 item:=by
  intro X f l j m i pins s σ H E I d st g;subst f l j;obtain⟨p,f1,f2,f3,f4,f5⟩:=d it (by simp);have W:=Walks.range (prog:=X.prog) (w:=X.w) (I.ok.hd m) it lo 1 n;refine W.item i s _ _ g st λv h' tk u c kk=>?_;obtain⟨t,rfl⟩:=u;have r:Inv X pins σ H {s with heap:=h',toks:=tk}:=I.turned (λb o a e=>kk b o (by simpa using a) e) p f1 f3 f4 f5;refine⟨_,rfl,tL (s:={s with heap:=h',toks:=tk}) (n:="range_iterator") c rfl rfl (by decide) ⟨.int (lo+i),H,r,⟨t,?_⟩,⟨rfl,rfl⟩,c,λb a=>(d b a).1⟩⟩;rw[Int.mul_one]
 done:=by
  intro X f l j m i pins s σ H E I d st g;subst f l j;obtain⟨p,f1,f2,f3,f4,f5⟩:=d it (by simp);exact wpAny_pyNext_range_end (I.ok.hd m) st (by have :n<=i:=g;lia) λh' q=>⟨rfl,I.turned (t':=s.toks) (λb o a e=>q b o a e) p f1 f3 f4 f5⟩
 self:=λ_ _ _ _ _ st h=>wpAny_pyIter_rangeiter st h
inductive HH(K:mo)(R:It->Hp->Prop)(x:V)(H1:Hp):Prop
 |mk (a:_) (c0:x= .ref a) (c1:(∃xs,bf K H1 a xs)) (c2:R (IS K a) H1)
def GP(K:mo)(tl:TE):TI:=λσ H R=>tl σ H λx H1=>HH K R x H1
inductive KJ(K:mo)(R:It->Hp->Prop)(x:V)(H1:Hp):Prop
 |mk (a:_) (c0:x= .ref a) (c1:(∃xs,ba K H1 a xs)) (c2:R (Ht K a) H1)
def HG(K:mo)(tl:TE):TI:=λσ H R=>tl σ H λx H1=>KJ K R x H1
theorem dr{tl:TE}(hl:PE X l tl):PI X tg l (GP X.K tl):=by
 intro pins s σ H R I h;refine bS (hl pins s σ H _ I h) λv s1 d=>?_;obtain⟨x,H1,c,i,f⟩:=d;obtain⟨a,e,⟨xs,j⟩,q⟩:=f;subst e
 cases i
 obtain⟨its,m,p,k⟩:=c.list j;refine UQ p.isList ?_;refine⟨s1.heap.objs.size,[s1.heap.objs.size],_,_,H1,rfl,c.kept (t':=s1.toks) λb o e=>B4 _ e,zX a _,⟨_,KM _ rfl,rfl,rfl⟩,λb g=>?_,q⟩
 have e:b=s1.heap.objs.size:=by simpa using g
 subst e;exact c.mD (B2 _) (c.hok.fresh (B2 _))
theorem eK{tl:TE}(hl:PE X l tl):PI X tg l (HG X.K tl):=by
 intro pins s σ H R I h;refine bS (hl pins s σ H _ I h) λv s1 d=>?_;obtain⟨x,H1,c,i,f⟩:=d;obtain⟨a,e,⟨xs,j⟩,q⟩:=f;subst e
 cases i
 obtain⟨its,m,p,k⟩:=c.tuple j;refine R0 (show s1.heap.IsTuple a its.toArray from p) ?_;refine⟨s1.heap.objs.size,[s1.heap.objs.size],_,_,H1,rfl,c.kept (t':=s1.toks) λb o e=>B4 _ e,wC a _,⟨_,KM _ rfl,rfl,rfl⟩,λb g=>?_,q⟩
 have e:b=s1.heap.objs.size:=by simpa using g
 subst e;exact c.mD (B2 _) (c.hok.fresh (B2 _))
theorem tQ{R:It->Hp->Prop}{hi:Int}{t u v:Tok}{tk:Nat}(I:Inv X pins σ H s)(h1: -(2^62)<=lo)(h2:lo<2^62)(h: -(2^62)<=hi)(c:hi<2^62)(q:R (FC lo (hi-lo).toNat) H):GT (Nk X.prog X.w) X.A (pyIter (.ref s.heap.objs.size)) (MI X pins σ tg R) E {s with heap:=s.heap.push {cls:= .type "range",data:= .fields #[.int lo t,.int hi u,.int 1 v]},toks:=tk}:=by
 refine wpAny_pyIter_range (IsRange.new ..) (small_one h1 h2 h c) ?_;have a:Inv X pins σ H {s with heap:=s.heap.push {cls:= .type "range",data:= .fields #[.int lo t,.int hi u,.int 1 v]},toks:=tk}:=I.kept λb o e=>B4 _ e
 refine⟨(s.heap.push {cls:= .type "range",data:= .fields #[.int lo t,.int hi u,.int 1 v]}).objs.size,[(s.heap.push {cls:= .type "range",data:= .fields #[.int lo t,.int hi u,.int 1 v]}).objs.size],_,_,H,rfl,
  a.kept (t':=tk) λb o e=>B4 _ e,xg _ lo (hi-lo).toNat,?_,λb f=>?_,q⟩
 ·have g:lo+((0:Nat):Int)*1=lo:=by simp
  have d:(((hi-lo).toNat:Nat):Int)-((0:Nat):Int)=Builtin.Range.rangeSize lo hi 1:=by rw[rangeSize_one];split<;>lia
  show IsRangeIter _ _ (lo+((0:Nat):Int)*1) ((((hi-lo).toNat:Nat):Int)-((0:Nat):Int)) 1;rw[g,d];exact KM _ rfl
 ·have e:b=(s.heap.push {cls:= .type "range",data:= .fields #[.int lo t,.int hi u,.int 1 v]}).objs.size:=by simpa using f
  subst e;exact a.mD (B2 _) (a.hok.fresh (B2 _))
inductive IU(R:It->Hp->Prop)(vs:List V)(H1:Hp):Prop
 |mk (j:Int) (c0:vs=[.int j]) (c1: -(2^62)<=j) (c2:j<2^62) (c3:R (FC 0 j.toNat) H1)
def Ls(ta:TA):TI:=λσ H R=>ta σ H λvs H1=>IU R vs H1
def JY(ta:TA):TI:=λσ H R=>ta σ H λvs H1=>∃i j:Int,vs=[.int i,.int j]/\(-(2^62)<=i/\i<2^62/\ -(2^62)<=j/\j<2^62)/\R (FC i (j-i).toNat) H1
theorem cy{a:Expr}{ta:TA}(c:Gl X "range")(hm:X.mg "range"=none)(ha:PA X [a] ta)(k:Nx [a] X.env=[(false,OI a X.env)]:=by rfl):PI X tg (.Call (.Name "range" p) [a] [] pos) (Ls ta):=by
 intro pins s σ H R I h;refine SZ (dZ I c hm boot_range (NP (bS (ha pos pins s σ H _ I h) λus s1 ⟨vs,H1,g,f,b⟩=>?_) k rfl));obtain⟨j,e,b,i,q⟩:=b;subst e
 cases f with
 |cons r d=>
  cases d
  obtain⟨t,rfl⟩:=r;exact call_range_1 (tQ g (by lia) (by lia) b i (by simpa using q))
theorem qC{a b:Expr}{ta:TA}(g:Gl X "range")(hm:X.mg "range"=none)(ha:PA X [a,b] ta)(u:Nx [a,b] X.env=[(false,OI a X.env),(false,OI b X.env)]:=by rfl)(c:Nx [b] X.env=[(false,OI b X.env)]:=by rfl):
  PI X tg (.Call (.Name "range" p) [a,b] [] pos) (JY ta):=by
 intro pins s σ H R I h;refine SZ (dZ I g hm boot_range (NP (bS (ha pos pins s σ H _ I h) λus s1 ⟨vs,H1,n,l,d⟩=>?_) (by rw[u,c]) (by rw[c];rfl)));obtain⟨i,j,e,⟨d,o,m,k⟩,q⟩:=d;subst e
 cases l with
 |cons r f=>
  cases f with
  |cons r' f=>
   cases f
   obtain⟨t,rfl⟩:=r;obtain⟨t',rfl⟩:=r';exact call_range_2 (tQ n d o m k q)
def LN(wi:TI)(g:TG)(tb:TS):TS:=λD σ H=>wi σ H λJ H1=>∃W:Nat->Nat->St->Hp->Prop,(∃m,W 0 m σ H1)/\∀i m σ H,W i m σ H->
 (J.stop i H/\D.nx σ H)∨(J.go i H/\∃N:St->Hp->Prop,(∀σ' H',N σ' H'->∃b,b<m/\W (i+1) b σ' H')/\∀x H',J.yld i H x H'->g x σ H' λa H2=>tb {D with nx:=N,ct:=N,bk:=D.nx} a H2)
noncomputable def oI(fp:List B3)(h:ON):List (B3×Obj):=fp.filterMap λb=>(h.get? b).map λo=>(b,o)
theorem jm{o:Obj}(a:b∈fp)(e:h.get? b=some o):(b,o)∈oI fp h:=List.mem_filterMap.mpr ⟨b,a,by rw[e];rfl⟩
theorem Ah{p:B3×Obj}(c:p∈oI fp h):p.1∈fp/\h.get? p.1=some p.2:=by
 obtain⟨b,d,e⟩:=List.mem_filterMap.mp c
 cases q:h.get? b with
 |none=>rw[q]at e;cases e
 |some o=>
  rw[q]at e;have a:(b,o)=p:=Kf e;subst a;exact⟨d,q⟩
theorem Inv.pinned(I:Inv X pins σ H s)(h:∀b∈fp,kH X pins H b)(g:∀b∈fp,∃o,s.heap.get? b=some o/\∀v,o.data≠ .cell v):Inv X (pins++oI fp s.heap) σ H s:=
 I.xD λp i=>(List.mem_append.mp i).elim (λz=>I.pin p (ND _ z)) λz=>by
  obtain⟨c,e⟩:=Ah z;obtain⟨f,f1,f2,_⟩:=h p.1 c;obtain⟨o,a,d⟩:=g p.1 c;rw[e]at a;cases a;exact⟨e,f,f1,f2,d⟩
theorem Inv.jB{pl:List (B3×Obj)}(I:Inv X (pins++pl) σ H s):Inv X pins σ H s:=I.xD λp a=>I.pin p (ND _ (NS _ a))
theorem cx{iter:Expr}{wi:TI}(F:PassesOwn (Nk X.prog X.w) X.A X.env X.xe)(U:X.calm=true)(hi:PI X tg iter wi)(Z:PG X tg g)(q:wG X body tb)(hs:∀x,PU iter X.env x=pure x:=by intro _;rfl):PS X (.For tg iter body [] pos) (LN wi g tb):=by
 intro pins s σ H D I h;refine wpAny_For (bS (hi pins s σ H _ I h) λv s1 h1=>bS h1 λitv s2 h2=>?_) hs;obtain⟨it,fp,tn,J,H2,e,I2,T,K,f2,W,⟨m0,w0⟩,G⟩:=h2;subst e;have k:∀{H':Hp},(∀b∈fp,H' b=none)->∀b∈fp,kH X pins H' b:=λhn b q=>⟨hn b q,(f2 b q).2⟩;refine codeAny_forLoop_any (λn s'=>∃i σ' H',Inv X pins σ' H' s'/\tn i s'.heap/\(∀b∈fp,H' b=none)/\W i n σ' H') ?_ m0 ⟨0,σ,H2,I2,K,λb q=>(f2 b q).1,w0⟩;rintro n V ⟨i,j,H3,R,B,E,w3⟩
 rcases G i n j H3 w3 with⟨stop,qn⟩|⟨go,N,hN,step⟩
 ·refine PD F (bS (T.done X rfl rfl rfl U i pins V j H3 X.xe R (k E) B stop) λr s4 c=>?_);obtain⟨P,I4⟩:=c;subst P;exact QI ⟨j,H3,I4,qn⟩
 ·refine PD F (bS (T.item X rfl rfl rfl U i pins V j H3 X.xe R (k E) B go) λr s4 c=>?_);obtain⟨u,P,h4⟩:=c;subst P;refine PD F (bS h4 λ_ S c=>?_);obtain⟨x,Y,I5,r5,y5,z,M⟩:=c;have Q:=I5.pinned (k M) (T.obj _ _ z);refine PD F (bS (Z _ S j Y x u _ Q r5 (step x Y y5)) λ_ s6 c=>?_);obtain⟨O,H6,I6,q6⟩:=c;refine PD F (bS (q _ s6 O H6 _ I6 q6) λf L y=>?_)
  have p:∀{a:St}{t:Hp},Inv X (pins++oI fp S.heap) a t L->N a t->∃m,m<n/\∃i σ' H',Inv X pins σ' H' L/\tn i L.heap/\(∀b∈fp,H' b=none)/\W i m σ' H':=λ{a t} l C=>by
   obtain⟨m',hm,w7⟩:=hN a t C;refine⟨m',hm,i+1,a,t,l.jB,T.keep _ _ _ z λb q o e=>(l.pin (b,o) (ND _ (ND _ (jm q e)))).1,λb q=>?_,w7⟩;obtain⟨o,e,d⟩:=T.obj _ _ z b q;exact(l.pin (b,o) (ND _ (ND _ (jm q e)))).2.1
  cases f with
  |next=>obtain⟨a,t,l,C⟩:=y;exact p l C
  |cont=>obtain⟨a,t,l,C⟩:=y;exact p l C
  |brk=>obtain⟨a,t,l,y⟩:=y;exact⟨a,t,l.jB,y⟩
  |ret v=>obtain⟨x7,a,t,l,r7,y⟩:=y;exact⟨x7,a,t,l.jB,r7,y⟩
theorem ki{D:Ends}(b:Nat->St->Hp->Prop)(h0:b 0 σ H)(hl:∀i σ H,i<=xs.length->b i σ H->bf K H a xs)(h:∀i x σ H,xs[i]? =some x->b i σ H->g x σ H λc H2=>tb {D with nx:=b (i+1),ct:=b (i+1),bk:=D.nx} c H2)(hd:∀σ H,b xs.length σ H->D.nx σ H):
  ∃W:Nat->Nat->St->Hp->Prop,(∃m,W 0 m σ H)/\∀i m σ H,W i m σ H->
   ((IS K a).stop i H/\D.nx σ H)∨((IS K a).go i H/\∃N:St->Hp->Prop,(∀σ' H',N σ' H'->∃f,f<m/\W (i+1) f σ' H')/\∀x H',(IS K a).yld i H x H'->g x σ H' λc H2=>tb {D with nx:=N,ct:=N,bk:=D.nx} c H2):=by
 refine⟨λi m σ H=>m=xs.length-i/\i<=xs.length/\b i σ H,⟨xs.length,by simp,Nl _,h0⟩,?_⟩;rintro i m σ H ⟨rfl,hi,p⟩;have q:=hl i σ H hi p;by_cases d:i<xs.length
 ·refine .inr ⟨⟨xs,xs[i],q,by simp[d]⟩,b (i+1),λσ' H' j=>⟨xs.length-(i+1),by lia,rfl,d,j⟩,λx H' y=>?_⟩;obtain⟨e,y⟩:=y;subst e;exact h i x σ _ (y xs q) p
 ·have e:i=xs.length:=by lia
  subst e;exact .inl ⟨⟨xs,q,B2 _⟩,hd σ H p⟩
theorem rD{D:Ends}(b:Nat->St->Hp->Prop)(h0:b 0 σ H)(hl:∀i σ H,i<=xs.length->b i σ H->ba K H a xs)(h:∀i x σ H,xs[i]? =some x->b i σ H->g x σ H λc H2=>tb {D with nx:=b (i+1),ct:=b (i+1),bk:=D.nx} c H2)(hd:∀σ H,b xs.length σ H->D.nx σ H):
  ∃W:Nat->Nat->St->Hp->Prop,(∃m,W 0 m σ H)/\∀i m σ H,W i m σ H->
   ((Ht K a).stop i H/\D.nx σ H)∨((Ht K a).go i H/\∃N:St->Hp->Prop,(∀σ' H',N σ' H'->∃f,f<m/\W (i+1) f σ' H')/\∀x H',(Ht K a).yld i H x H'->g x σ H' λc H2=>tb {D with nx:=N,ct:=N,bk:=D.nx} c H2):=by
 refine⟨λi m σ H=>m=xs.length-i/\i<=xs.length/\b i σ H,⟨xs.length,by simp,Nl _,h0⟩,?_⟩;rintro i m σ H ⟨rfl,hi,p⟩;have q:=hl i σ H hi p;by_cases d:i<xs.length
 ·refine .inr ⟨⟨xs,xs[i],q,by simp[d]⟩,b (i+1),λσ' H' j=>⟨xs.length-(i+1),by lia,rfl,d,j⟩,λx H' y=>?_⟩;obtain⟨e,y⟩:=y;subst e;exact h i x σ _ (y xs q) p
 ·have e:i=xs.length:=by lia
  subst e;exact .inl ⟨⟨xs,q,B2 _⟩,hd σ H p⟩
theorem cJ{D:Ends}(b:Nat->St->Hp->Prop)(h0:b 0 σ H)(f:∀i σ H,i<n->b i σ H->g (.int (lo+i)) σ H λa H2=>tb {D with nx:=b (i+1),ct:=b (i+1),bk:=D.nx} a H2)(hd:∀σ H,b n σ H->D.nx σ H):
  ∃W:Nat->Nat->St->Hp->Prop,(∃m,W 0 m σ H)/\∀i m σ H,W i m σ H->
   ((FC lo n).stop i H/\D.nx σ H)∨((FC lo n).go i H/\∃N:St->Hp->Prop,(∀σ' H',N σ' H'->∃d,d<m/\W (i+1) d σ' H')/\∀x H',(FC lo n).yld i H x H'->g x σ H' λa H2=>tb {D with nx:=N,ct:=N,bk:=D.nx} a H2):=by
 refine⟨λi m σ H=>m=n-i/\i<=n/\b i σ H,⟨n,by simp,Nl _,h0⟩,?_⟩;rintro i m σ H ⟨rfl,hi,p⟩;by_cases c:i<n
 ·refine .inr ⟨c,b (i+1),λσ' H' h=>⟨n-(i+1),by lia,rfl,c,h⟩,λx H' y=>?_⟩;obtain⟨e,y⟩:=y;subst e y;exact f i σ _ c p
 ·have e:i=n:=by lia
  subst e;exact .inl ⟨B2 _,hd σ H p⟩
abbrev R2:=V->V->Hp->VK->Prop
def ir(X:Cx)(f:B5->B5->Sem B5)(r:R2):Prop:=
 ∀(pins:List (B3×Obj))(s:Gc)(σ:St)(H:Hp)(x y:V)(v u:B5)(Q:VK),Inv X pins σ H s->RelV x v->RelV y u->r x y H Q->
  GT (Nk X.prog X.w) X.A (f v u) (EP X pins σ Q) X.xe s
def LM(X:Cx)(f:B5->Sem B5)(r:V->Hp->VK->Prop):Prop:=
 ∀(pins:List (B3×Obj))(s:Gc)(σ:St)(H:Hp)(x:V)(v:B5)(Q:VK),Inv X pins σ H s->RelV x v->r x H Q->
  GT (Nk X.prog X.w) X.A (f v) (EP X pins σ Q) X.xe s
def dv(X:Cx)(f:B5)(r:List V->Hp->VK->Prop):Prop:=
 ∀(pins:List (B3×Obj))(s:Gc)(σ:St)(H:Hp)(xs:List V)(us:List B5)(Q:VK),Inv X pins σ H s->Vals xs us->r xs H Q->
  GT (Nk X.prog X.w) X.A (call f us) (EP X pins σ Q) X.xe s
def Ad(r:R2)(ta tb:TE):TE:=λσ H Q=>ta σ H λx H1=>tb σ H1 λy H2=>r x y H2 Q
def ME(r:V->Hp->VK->Prop)(ta:TE):TE:=λσ H Q=>ta σ H λx H1=>r x H1 Q
inductive Nb(C:Int->Int->Prop)(g:Int->Int->V)(x:V)(y:V)(H:Hp)(Q:VK):Prop
 |mk (i:_) (j:_) (c0:x= .int i) (c1:y= .int j) (c2:C i j) (c3:Q (g i j) H)
def rI(C:Int->Int->Prop)(g:Int->Int->V):R2:=λx y H Q=>Nb C g x y H Q
inductive L0(g:Int->Int->V)(x:V)(y:V)(H:Hp)(Q:VK):Prop
 |mk (i:_) (j:_) (c0:x= .int i) (c1:y= .int j) (c2:Q (g i j) H)
def zD(g:Int->Int->V):R2:=λx y H Q=>L0 g x y H Q
inductive MV(g:Int->V)(x:V)(H:Hp)(Q:VK):Prop
 |mk (i:_) (c0:x= .int i) (c1:Q (g i) H)
def rU(g:Int->V):V->Hp->VK->Prop:=λx H Q=>MV g x H Q
variable{r r':R2}
section
variable{a b:Expr}{tb tc:TE}
theorem Hq(ha:PE X a ta)(j:PE X b tb){R:V->V->Hp->Prop}(I:Inv X pins σ H s)(h:ta σ H λx H1=>tb σ H1 λy H2=>R x y H2){f:B5->B5->Sem B5}(g:∀v u s2 x y H2,Inv X pins σ H2 s2->RelV x v->RelV y u->R x y H2->GT (Nk X.prog X.w) X.A (f v u) Q X.xe s2):
  GT (Nk X.prog X.w) X.A (OI a X.env) (λv e=>GT (Nk X.prog X.w) X.A (OI b X.env) (λu d=>GT (Nk X.prog X.w) X.A (f v u) Q X.xe d) X.xe e) X.xe s:=by
 refine bS (ha pins s σ H _ I h) λv s1 c=>?_;obtain⟨x,H1,m,k,i⟩:=c;refine bS (j pins s1 σ H1 _ m i) λu s2 c=>?_;obtain⟨y,H2,n,l,o⟩:=c;exact g v u s2 x y H2 n k l o
theorem aJ{op:Operator}(g:ir X (PF op) r)(ha:PE X a ta)(d:PE X b tb):PE X (.BinOp a op b pos) (Ad r ta tb):=by
 intro pins s σ H Q I h;exact wpAny_BinOp (Hq ha d I h λv u s2 x y H2 e f c q=>g pins s2 σ H2 x y v u Q e f c q)
theorem Jv{op:UnaryOp}{r:V->Hp->VK->Prop}(f:LM X (unaryOp op) r)(ha:PE X a ta):PE X (.UnaryOp op a pos) (ME r ta):=by
 intro pins s σ H Q I h;exact UnaryOp_ (bS (ha pins s σ H _ I h) λv s1 b=>by obtain⟨x,H1,e,d,c⟩:=b;exact f pins s1 σ H1 x v Q e d c)
theorem Lm{f:B5->B5->Sem B5}{C:Int->Int->Prop}{g:Int->Int->Int}(a:∀(i j:Int)(t u:Tok)(s:Gc)(Q:B5->Gc->Prop)(E:B5->Gc->Prop),C i j->Q (.int (g i j) s.toks) {s with toks:=s.toks+1}->GT (Nk X.prog X.w) X.A (f (.int i t) (.int j u)) Q E s):
  ir X f (rI C λi j=> .int (g i j)):=by
 intro pins s σ H x y v u Q I d c h;obtain⟨i,j,rfl,rfl,b,q⟩:=h;obtain⟨t,rfl⟩:=d;obtain⟨t',rfl⟩:=c;exact a i j t t' s _ _ b ⟨.int (g i j),H,I.tok _,⟨_,rfl⟩,q⟩
theorem Kn{f:B5->B5->Sem B5}{g:Int->Int->Int}(a:∀(i j:Int)(t u:Tok)(s:Gc)(Q:B5->Gc->Prop)(E:B5->Gc->Prop),Q (.int (g i j) s.toks) {s with toks:=s.toks+1}->GT (Nk X.prog X.w) X.A (f (.int i t) (.int j u)) Q E s):
  ir X f (zD λi j=> .int (g i j)):=by
 intro pins s σ H x y v u Q I c b h;obtain⟨i,j,rfl,rfl,q⟩:=h;obtain⟨t,rfl⟩:=c;obtain⟨t',rfl⟩:=b;exact a i j t t' s _ _ ⟨.int (g i j),H,I.tok _,⟨_,rfl⟩,q⟩
theorem Fe{f:B5->B5->Sem B5}{g:Int->Int->Bool}(a:∀(i j:Int)(t u:Tok)(s:Gc)(Q:B5->Gc->Prop)(E:B5->Gc->Prop),Q (.bool (g i j)) s->GT (Nk X.prog X.w) X.A (f (.int i t) (.int j u)) Q E s):
  ir X f (zD λi j=> .bl (g i j)):=by
 intro pins s σ H x y v u Q I c b h;obtain⟨i,j,rfl,rfl,q⟩:=h;obtain⟨t,rfl⟩:=c;obtain⟨t',rfl⟩:=b;exact a i j t t' s _ _ ⟨.bl (g i j),H,I,rfl,q⟩
def L5(i j:Int):Prop:=0<j/\j<1073741824
def Mq(i j:Int):Prop:=0<=j/\j<=1000000/\i.natAbs<2^64
def IK(i j:Int):Prop:=(-(2^64)<i/\i<2^64)∨(-(2^64)<j/\j<2^64)
theorem IK.ok{i j:Int}(h:IK i j):IntMulOk i j:=by
 rcases h with⟨h1,h2⟩|⟨h1,h2⟩
 ·exact .of_left (intBits_le_64 h1 h2)
 ·exact .of_right (intBits_le_64 h1 h2)
theorem bz:ir X (PF .Add) (zD λi j=> .int (i+j)):=Kn λ_ _ _ _ _ _ _ q=>add_int q
theorem fU:ir X (PF .Sub) (zD λi j=> .int (i-j)):=Kn λ_ _ _ _ _ _ _ q=>sub_int q
theorem oN:ir X (PF .Mult) (rI IK λi j=> .int (i*j)):=Lm λ_ _ _ _ _ _ _ a q=>mul_int q a.ok
theorem sk:ir X (PF .FloorDiv) (rI L5 λi j=> .int (i/j)):=Lm λi j _ _ _ _ _ a q=>by
 have h1:(0:Int)<j:=a.1;have h2:j<1073741824:=a.2;exact floordiv_int (by lia) (by rw[SX i (by lia)];exact q) (.inl (PyProof.noPylong_small (by lia)))
theorem fP:ir X (PF .Mod) (rI (λ_ j=>0<j) λi j=> .int (i%j)):=Lm λi j _ _ _ _ _ a q=>by
 have h1:(0:Int)<j:=a;exact mod_int' (by lia) (by rw[Int.fmod_eq_emod_of_nonneg i (by lia)];exact q)
theorem lg:ir X (PF .Pow) (rI Mq λi j=> .int (i^j.toNat)):=Lm λ_ _ _ _ _ _ _ a q=>pow_int_small a.1 a.2.1 a.2.2 q
theorem MR{f:B5->Sem B5}{g:Int->Int}(a:∀(i:Int)(t:Tok)(s:Gc)(Q:B5->Gc->Prop)(E:B5->Gc->Prop),Q (.int (g i) s.toks) {s with toks:=s.toks+1}->GT (Nk X.prog X.w) X.A (f (.int i t)) Q E s):
  LM X f (rU λi=> .int (g i)):=by
 intro pins s σ H x v Q I b h;obtain⟨i,rfl,q⟩:=h;obtain⟨t,rfl⟩:=b;exact a i t s _ _ ⟨.int (g i),H,I.tok _,⟨_,rfl⟩,q⟩
theorem HW:LM X (unaryOp .USub) (rU λi=> .int (-i)):=MR λ_ _ _ _ _ q=>neg_int q
end
noncomputable def Fi:V->V->Bool
 | .non,.non=>true| .non,.int _=>true| .int _,.non=>true| .non,.bl _=>true| .bl _,.non=>true| .non,.str _=>true| .str _,.non=>true
 | .int _,.int _=>true| .bl _,.bl _=>true| .str _,.str _=>true| .byt _,.byt _=>true
 | .int _,.str _=>true| .str _,.int _=>true| .bl _,.str _=>true| .str _,.bl _=>true
 |_,_=>false
inductive Mo(x:V)(y:V)(H:Hp)(Q:VK):Prop
 |mk (c0:Fi x y=true) (c1:Q (.bl (decide (x=y))) H)
def Mw:R2:=λx y H Q=>Mo x y H Q
inductive Md(x:V)(y:V)(H:Hp)(Q:VK):Prop
 |mk (c0:Fi x y=true) (c1:Q (.bl (!decide (x=y))) H)
def MB:R2:=λx y H Q=>Md x y H Q
theorem yq{i j:Int}:decide (V.int i=V.int j)=(i==j):=by
 rw[Po];simp
theorem Ce{i j:Bool}:decide (V.bl i=V.bl j)=(i==j):=by
 rw[Po];simp
theorem xO{i j:Str}:decide (V.str i=V.str j)=(i==j):=by
 rw[Po];simp
theorem xF{i j:Array UInt8}:decide (V.byt i=V.byt j)=(i.toList==j.toList):=by
 rw[Po]
 cases i
 cases j
 simp
section
variable{a b:Expr}{tb tc:TE}
theorem bI{Q:VK}{k a:Bool}(I:Inv X pins σ H s)(q:Q (.bl k) H)(e:k=a):EP X pins σ Q (.bool a) s:=by
 subst e;exact⟨.bl k,H,I,rfl,q⟩
theorem bE:ir X (Os .Eq) Mw:=by
 intro pins s σ H x y v u Q I c a h;obtain⟨b,q⟩:=h
 cases x with
 |non=>
  cases c
  cases y with
  |non=>cases a;exact PySem.EqNone.eq_none_none (bI I q (by simp))
  |bl j=>cases a;exact PySem.EqNone.eq_none_bool (bI I q (by simp))
  |int j=>obtain⟨t',rfl⟩:=a;exact PySem.EqNone.eq_none_int (bI I q (by simp))
  |str j=>obtain⟨t',rfl⟩:=a;exact PySem.EqNone.eq_none_str (bI I q (by simp))
  |_=>exact absurd (show false=true from b) FS
 |bl i=>
  cases c
  cases y with
  |non=>cases a;exact PySem.EqNone.eq_bool_none (bI I q (by simp))
  |bl j=>cases a;exact eq_bool (bI I q Ce)
  |str j=>obtain⟨t',rfl⟩:=a;exact PySem.EqMixed.eq_bool_str (bI I q (by simp))
  |_=>exact absurd (show false=true from b) FS
 |int i=>
  obtain⟨t,rfl⟩:=c
  cases y with
  |non=>cases a;exact PySem.EqNone.eq_int_none (bI I q (by simp))
  |int j=>obtain⟨t',rfl⟩:=a;exact eq_int (bI I q yq)
  |str j=>obtain⟨t',rfl⟩:=a;exact PySem.EqMixed.eq_int_str (bI I q (by simp))
  |_=>exact absurd (show false=true from b) FS
 |str i=>
  obtain⟨t,rfl⟩:=c
  cases y with
  |non=>cases a;exact PySem.EqNone.eq_str_none (bI I q (by simp))
  |bl j=>cases a;exact PySem.EqMixed.eq_str_bool (bI I q (by simp))
  |int j=>obtain⟨t',rfl⟩:=a;exact PySem.EqMixed.eq_str_int (bI I q (by simp))
  |str j=>obtain⟨t',rfl⟩:=a;exact eq_str (bI I q xO)
  |_=>exact absurd (show false=true from b) FS
 |byt i=>
  obtain⟨t,rfl⟩:=c
  cases y with
  |byt j=>obtain⟨t',rfl⟩:=a;exact PySem.W.eq_bytes (bI I q xF)
  |_=>exact absurd (show false=true from b) FS
 |_=>cases y<;>exact absurd (show false=true from b) FS
theorem kr:ir X (Os .NotEq) MB:=by
 intro pins s σ H x y v u Q I c a h;obtain⟨b,q⟩:=h
 cases x with
 |non=>
  cases c
  cases y with
  |non=>cases a;exact PySem.EqNone.ne_none_none (bI I q (by simp))
  |bl j=>cases a;exact PySem.EqNone.ne_none_bool (bI I q (by simp))
  |int j=>obtain⟨t',rfl⟩:=a;exact PySem.EqNone.ne_none_int (bI I q (by simp))
  |str j=>obtain⟨t',rfl⟩:=a;exact PySem.EqNone.ne_none_str (bI I q (by simp))
  |_=>exact absurd (show false=true from b) FS
 |bl i=>
  cases c
  cases y with
  |non=>cases a;exact PySem.EqNone.ne_bool_none (bI I q (by simp))
  |bl j=>cases a;exact ne_bool (bI I q (congrArg not Ce))
  |str j=>obtain⟨t',rfl⟩:=a;exact PySem.EqMixed.ne_bool_str (bI I q (by simp))
  |_=>exact absurd (show false=true from b) FS
 |int i=>
  obtain⟨t,rfl⟩:=c
  cases y with
  |non=>cases a;exact PySem.EqNone.ne_int_none (bI I q (by simp))
  |int j=>obtain⟨t',rfl⟩:=a;exact ne_int (bI I q (congrArg not yq))
  |str j=>obtain⟨t',rfl⟩:=a;exact PySem.EqMixed.ne_int_str (bI I q (by simp))
  |_=>exact absurd (show false=true from b) FS
 |str i=>
  obtain⟨t,rfl⟩:=c
  cases y with
  |non=>cases a;exact PySem.EqNone.ne_str_none (bI I q (by simp))
  |bl j=>cases a;exact PySem.EqMixed.ne_str_bool (bI I q (by simp))
  |int j=>obtain⟨t',rfl⟩:=a;exact PySem.EqMixed.ne_str_int (bI I q (by simp))
  |str j=>obtain⟨t',rfl⟩:=a;exact ne_str (bI I q (congrArg not xO))
  |_=>exact absurd (show false=true from b) FS
 |byt i=>
  obtain⟨t,rfl⟩:=c
  cases y with
  |byt j=>obtain⟨t',rfl⟩:=a;exact PySem.W.ne_bytes (bI I q (congrArg not xF))
  |_=>exact absurd (show false=true from b) FS
 |_=>cases y<;>exact absurd (show false=true from b) FS
theorem Gk:ir X (Os .Lt) (zD λi j=> .bl (decide (i<j))):=Fe λ_ _ _ _ _ _ _ q=>lt_int q
theorem dA:ir X (Os .LtE) (zD λi j=> .bl (decide (i<=j))):=Fe λ_ _ _ _ _ _ _ q=>le_int q
theorem lG:ir X (Os .Gt) (zD λi j=> .bl (decide (j<i))):=Fe λ_ _ _ _ _ _ _ q=>gt_int q
theorem JT:ir X (Os .GtE) (zD λi j=> .bl (decide (j<=i))):=Fe λ_ _ _ _ _ _ _ q=>ge_int q
theorem aF(b:Expr)(h:op≠ .In:=by decide)(h2:op≠ .NotIn:=by decide):Q6 op b=false:=by
 have a:(op==CmpOp.In)=false:=by cases op<;>first|rfl|exact absurd rfl h
 have c:(op==CmpOp.NotIn)=false:=by cases op<;>first|rfl|exact absurd rfl h2
 cases b<;>simp[Q6,a,c]
theorem bZ(g:ir X (Os op) r)(ha:PE X a ta)(d:PE X b tb)(hm:Q6 op b=false):PE X (.Compare a [op] [b] pos) (Ad r ta tb):=by
 intro pins s σ H Q I h;exact wpAny_Compare1 (Hq ha d I h λv u s2 x y H2 e f c q=>g pins s2 σ H2 x y v u Q e f c q) hm
inductive IH(Q:Bool->Hp->Prop)(x:V)(H':Hp):Prop
 |mk (k:_) (c0:x= .bl k) (c1:Q k H')
def Bj(t:TE):TT:=λσ H Q=>t σ H λx H'=>IH Q x H'
theorem aA(p:ir X (Os op) r)(ha:PE X a ta)(g:PE X b tb)(hm:Q6 op b=false):PT X (.Compare a [op] [b] pos) (Bj (Ad r ta tb)):=by
 intro pins s σ H Q I h
 refine T9 (bS (ha pins s σ H _ I h) λv s1 ⟨x,H1,m,j,d⟩=>bS (g pins s1 σ H1 _ m d) λu s2 ⟨y,H2,n,o,q⟩=>
  bS (p pins s2 σ H2 x y v u _ n j o q) λc t ⟨z,H3,i,f,k,e,l⟩=>?_) hm
 subst e
 cases f
 exact Oo ⟨H3,i,l⟩
def vT(r r':R2)(ta tb tc:TE):TE:=λσ H Q=>ta σ H λx H1=>tb σ H1 λy H2=>r x y H2 λz H3=>∃k,z= .bl k/\
 (if k=true then tc σ H3 λa H4=>r' y a H4 Q else Q (.bl false) H3)
theorem ff(A:ir X (Os op) r)(g:ir X (Os op') r')(ha:PE X a ta)(o:PE X b tb)(D:PE X c tc)(hm:lastMarks [op,op'] [b,c]=false:=by with_unfolding_all rfl):PE X (.Compare a [op,op'] [b,c] pos) (vT r r' ta tb tc):=by
 intro pins s σ H Q I h
 refine Compare_chain (bS (ha pins s σ H _ I h) λv s1 ⟨x,H1,q,p,m⟩=>chain_link (bS (o pins s1 σ H1 _ q m) λu s2 ⟨y,H2,t,l,J⟩=>
  bS (A pins s2 σ H2 x y v u _ t p l J) λd F ⟨z,H3,i,n,k,e,j⟩=>?_)) hm
 subst e
 cases n
 refine Oo ?_
 cases k with
 |false=>exact ite_ff ⟨.bl false,H3,i,rfl,j⟩
 |true=>exact ite_tt (chain_last (bS (D pins F σ H3 _ i j) λE C f=>by obtain⟨z',H4,w,B,G⟩:=f;exact g pins C σ H4 y z' u E Q w l B G))
theorem mJ(B:ir X (Os op) r)(g:ir X (Os op') r')(ha:PE X a ta)(o:PE X b tb)(F:PE X c tc)(hm:lastMarks [op,op'] [b,c]=false:=by with_unfolding_all rfl):PT X (.Compare a [op,op'] [b,c] pos) (Bj (vT r r' ta tb tc)):=by
 intro pins s σ H Q I h
 refine isTrue_chain (bS (ha pins s σ H _ I h) λv s1 ⟨x,H1,q,p,m⟩=>test_link (bS (o pins s1 σ H1 _ q m) λu s2 ⟨y,H2,t,l,O⟩=>
  bS (B pins s2 σ H2 x y v u _ t p l O) λd K ⟨z,H3,i,n,k,e,j⟩=>?_)) hm
 subst e
 cases n
 refine Oo ?_
 cases k with
 |false=>
  obtain⟨T,A,R⟩:=j
  cases A
  exact ite_ff ⟨H3,i,R⟩
 |true=>
  refine ite_tt (test_last (bS (F pins K σ H3 _ i j) λJ E ⟨z',H4,w,C,L⟩=>bS (g pins E σ H4 y z' u J _ w l C L) λd' U f=>?_));obtain⟨S,N,D,P,k2,G,M⟩:=f;subst G
  cases P
  exact Oo ⟨N,D,M⟩
theorem jo:(sizeLine:Nat)<2^63:=by rw[O8];decide
inductive qyA(x:V)(y:V)(H:Hp)(Q:VK):Prop|mk(i j:_)(_:x= .str i)(_:y= .str j)(_:i.length+j.length<=sizeLine)(_:Q (.str (i++j)) H)
theorem bP:ir X (PF .Add) qyA:=by
 intro pins s σ H x y v u Q I c b h;obtain⟨i,j,rfl,rfl,a,q⟩:=h;obtain⟨t,rfl⟩:=c;obtain⟨t',rfl⟩:=b;exact add_str (λt' tk=>⟨.str (i++j),H,I.tok _,⟨_,rfl⟩,q⟩) a
theorem vals1{x:V}(r:Vals [x] us):∃u,us=[u]/\RelV x u:=by
 cases r with
 |cons a b=>cases b;exact⟨_,rfl,a⟩
theorem vals2{x:V}(r:Vals [x,y] us):∃u a,us=[u,a]/\RelV x u/\RelV y a:=by
 cases r with
 |cons b c=>
  cases c with
  |cons d e=>cases e;exact⟨_,_,rfl,b,d⟩
inductive qyB(xs:List V)(H:Hp)(Q:VK):Prop|mk(i:_)(_:xs=[.int i])(_:Q (.int (if i<0 then -i else i)) H)
theorem Cb:dv X (.builtin "abs") qyB:=by
 intro pins s σ H xs us Q I r h;obtain⟨i,rfl,q⟩:=h;obtain⟨u,rfl,t,rfl⟩:=vals1 r;exact call_abs_int λu tk=>⟨.int (if i<0 then -i else i),H,I.tok _,⟨_,rfl⟩,q⟩
inductive qyC(xs:List V)(H:Hp)(Q:VK):Prop|mk(i j:_)(_:xs=[.int i,.int j])(_:Q (.int (if j>i then j else i)) H)
theorem zA(b:X.calm=true):dv X (.builtin "max") qyC:=by
 intro pins s σ H xs us Q I r h;obtain⟨i,j,rfl,q⟩:=h;obtain⟨u,c,rfl,⟨t,rfl⟩,⟨t',rfl⟩⟩:=vals2 r;refine max_two_ints (I.ok.hd b) λh' tk k=>⟨_,H,I.kept k,?_,q⟩;by_cases a:j>i
 ·rw[if_pos a,if_pos a];exact⟨_,rfl⟩
 ·rw[if_neg a,if_neg a];exact⟨_,rfl⟩
inductive qyD(xs:List V)(H:Hp)(Q:VK):Prop|mk(i j:_)(_:xs=[.int i,.int j])(_:Q (.int (if j<i then j else i)) H)
theorem Aw(b:X.calm=true):dv X (.builtin "min") qyD:=by
 intro pins s σ H xs us Q I r h;obtain⟨i,j,rfl,q⟩:=h;obtain⟨u,c,rfl,⟨t,rfl⟩,⟨t',rfl⟩⟩:=vals2 r;refine min_two_ints (I.ok.hd b) λh' tk k=>⟨_,H,I.kept k,?_,q⟩;by_cases a:j<i
 ·rw[if_pos a,if_pos a];exact⟨_,rfl⟩
 ·rw[if_neg a,if_neg a];exact⟨_,rfl⟩
inductive qyE(xs:List V)(H:Hp)(Q:VK):Prop|mk(x:_)(_:xs=[.str x])(_:x.length=1)(_:Q (.int (x.cps.getD 0 0:Nat)) H)
theorem CJ:dv X (.builtin "ord") qyE:=by
 intro pins s σ H xs us Q I r h;obtain⟨x,rfl,a,q⟩:=h;obtain⟨u,rfl,t,rfl⟩:=vals1 r;exact ord_of_one a ⟨.int _,H,I.tok _,⟨_,rfl⟩,q⟩
end
structure Ay(h:ON)(x dx C:B3)(mA:Str->Option B5):Prop where
 obj:h.get? x=some (Pm C dx)
 ns:h.Ns1 dx mA
 ne:dx≠x
theorem zo(n:h.Ns1 dx mA):∃od,h.get? dx=some od/\∀name,SQ name od=some (mA name):=by
 obtain⟨o,es,ep,d,hd,f,_,hm⟩:=n;refine⟨o,d,λname=>?_⟩;have e:=hm name;unfold nsFind findBy at e;rw[<-Array.find?_toList]at e;unfold SQ;rw[hd];dsimp only
 split
 ·rename_i y q
  rw[q]at e;exact congrArg some e
 ·rename_i q
  rw[q]at e
  have a:es.toList.any (·.refKey)=false:=by
   rw[Sf];intro y c;obtain⟨z,t,b⟩:=f y (Array.mem_toList_iff.mp c);simp[DictEntry.refKey,b]
  have a':¬es.toList.any (·.refKey)=true:=by rw[a];exact FS
  rw[if_neg a'];exact congrArg some e
theorem Ay.look{x:B3}(I:Ay h x dx C mA):∃od,PySem.W.InstAt h x (Pm C dx) C (some od)/\∀name,SQ name od=some (mA name):=
 let⟨od,ho,hl⟩:=zo I.ns
 ⟨od,⟨I.obj,rfl,rfl,ho⟩,hl⟩
section
variable{x:B3}{v:B5}
theorem get_map{a:Bool}(X:K.In s.heap)(I:Ay s.heap x dx C mA)(e:Rf K C name=true)(d:Q0 K C=true)(ha:Om K (.ref C) name=some none)(c:mA name=some v)(b:Ve v=true)(h:Q v {s with toks:=s.toks+1}):
  GT (Nk prog w) A (getAttr (.ref x) name a) Q E s:=by
 obtain⟨od,J,hl⟩:=I.look;exact PySem.W.get_value X J (PySem.W.plainGet_of e).1 (PySem.W.findObj_own d ha rfl (by rw[hl,c])) b h
theorem Ff{ns:List Str}{Q:Unit->Gc->Prop}(X:K.In s.heap)(I:Ay s.heap x dx C mA)(q:Om K (.ref C) "__setattr__"=some (some (.builtin "object.__setattr__")))(p:R8 K C=true)(o:So K C name=some none)(k:Q0 K C=true)(n:TL mA ns)(hsz:ns.length<=sizeLine)(h:∀h',Ay h' x dx C (λy=>if y=name then some v else mA y)->OW dx s.heap h'->Q () {s with heap:=h',toks:=s.toks+2}):
  GT (Nk prog w) A (setAttr (.ref x) name v) Q E s:=by
 obtain⟨od,J,hl⟩:=I.look;refine PySem.W.set_plain X J q (PySem.W.osa_open (s:={s with toks:=s.toks+1}) (r:=none) X J p o λb=>?_);obtain⟨t,j,g⟩:=PySem.W.any_some k;have hx:s.heap.get? x=some ⟨.ref C,some dx,.plain,#[]⟩:=I.obj;refine AC (Fk (AC (AC (wpAny_loadPart hx (AC (PySem.W.Looks.here (s:={s with toks:=s.toks+1}) (PySem.W.looks_clsIn X j) ?_))))));rw[g];refine Fk (a:=some dx) (AC (Fk (AC ?_)));refine wpAny_nsSet1 (s:={s with toks:=s.toks+1}) I.ns λh' c d=>?_;obtain⟨u,m,l,f,e,i⟩:=c.count (PySem.Within.cons name v n);refine AC (wpAny_lookBehind f (by rw[e];exact pastItsLine_dict (NW i (by rw[FB];lia))) ?_);exact Fk (h _ ⟨(d.2 _ (B9 I.ne)).trans I.obj,c,I.ne⟩ d)
theorem C7{R:SO->Gc->Prop}{vs:List B5}(X:K.In s.heap)(hm:Sr K C=true)(hi:Om K (.ref C) "__init__"=some (some (.ref f)))(a:PySem.W.typeIn K (.ref f)=some (.type "function"))(h:Px (Nk prog w) (A.under (.builtin "type.__call__" ⟨.ref C::vs,kw⟩)) (.call (.ref f) ⟨.ref (s.heap.objs.size+1)::vs,kw⟩) (PySem.W.InitBack (s.heap.objs.size+1) R)
   {s with heap:=(s.heap.push OK).push (Pm C s.heap.objs.size)}):
  Px (Nk prog w) A (.call (.ref C) ⟨vs,kw⟩) R s:=by
 obtain⟨b,g,d,t,os⟩:=s;exact PySem.W.make_core (PySem.W.makes_of X hm) (PySem.W.looks_findIn X hi) (λself=>PySem.W.bind_fn X self a) (.inl rfl) h
end
noncomputable def iS(f:Str)(v:V):List (Str×V)->List (Str×V)
 |[]=>[(f,v)]
 |(g,x)::r=>if g=f then(g,v)::r else(g,x)::iS f v r
theorem lK(f g:Str)(v:V):∀fs:List (Str×V),(iS f v fs).lookup g=if g=f then some v else fs.lookup g
 |[]=>by
  show QF g [(f,v)]=_;by_cases h:g=f
  ·have a:(g==f)=true:=beq_iff_eq.mpr h;simp only[QF,a,if_pos h]
  ·have a:(g==f)=false:=beq_eq_false_iff_ne.mpr h;simp only[QF,a,if_neg h]
 |(k,x)::r=>by
  have c:=lK f g v r;rw[show iS f v ((k,x)::r)=(if k=f then(k,v)::r else(k,x)::iS f v r)from rfl];by_cases b:k=f
  ·rw[if_pos b];by_cases h:g=k
   ·have a:(g==k)=true:=beq_iff_eq.mpr h;simp only[QF,a,if_pos (h.trans b)]
   ·have a:(g==k)=false:=beq_eq_false_iff_ne.mpr h;simp only[QF,a,if_neg (λe:g=f=>h (e.trans b.symm))]
  ·rw[if_neg b];by_cases h:g=k
   ·have a:(g==k)=true:=beq_iff_eq.mpr h;simp only[QF,a,if_neg (λe:g=f=>b (h.symm.trans e))]
   ·have a:(g==k)=false:=beq_eq_false_iff_ne.mpr h;simp only[QF,a];exact c
theorem lA(f:Str)(v:V):∀fs:List (Str×V),f∈(iS f v fs).map (·.1)/\∀g,g∈fs.map (·.1)->g∈(iS f v fs).map (·.1)
 |[]=>⟨by simp[iS],λg h=>by simp at h⟩
 |(k,x)::r=>by
  obtain⟨b,c⟩:=lA f v r;rw[show iS f v ((k,x)::r)=(if k=f then(k,v)::r else(k,x)::iS f v r)from rfl];by_cases a:k=f
  ·rw[if_pos a];subst a;exact⟨by simp,λg h=>by simpa using h⟩
  ·rw[if_neg a];refine⟨?_,λg h=>?_⟩
   ·rw[Nq];exact De _ b
   ·rw[Nq]at h⊢
    rcases List.mem_cons.mp h with e|e
    ·exact List.mem_cons.mpr (.inl e)
    ·exact De _ (c g e)
theorem lH(f:Str)(v:V):∀fs:List (Str×V),(iS f v fs).length<=fs.length+1
 |[]=>by simp[iS]
 |(k,x)::r=>by
  have b:=lH f v r;rw[show iS f v ((k,x)::r)=(if k=f then(k,v)::r else(k,x)::iS f v r)from rfl];by_cases a:k=f
  ·rw[if_pos a,FB,FB];lia
  ·rw[if_neg a,FB,FB];lia
theorem fm.some_of{o:Option B5}(r:fm (some v) o):∃u,o=some u/\RelV v u:=by
 cases o with
 |none=>exact(show False from r).elim
 |some u=>exact⟨u,rfl,r⟩
theorem fm.none_of{o:Option B5}(r:fm none o):o=none:=by
 cases o with
 |none=>rfl
 |some u=>exact(show False from r).elim
theorem Ab(r:RelV v u):Ve u=true:=by
 cases v with
 |non=>cases(show u=OC from r);rfl
 |bl b=>cases(show u=Rp b from r);rfl
 |int i=>obtain⟨t,e⟩:=(show∃t,u=Rc i t from r);cases e;rfl
 |str x=>obtain⟨t,e⟩:=(show∃t,u=OG x t from r);cases e;rfl
 |byt b=>obtain⟨t,e⟩:=(show∃t,u=Value.bytes b t from r);cases e;rfl
 |flt b=>obtain⟨t,e⟩:=(show∃t,u=Um b t from r);cases e;rfl
 |ref a=>cases(show u=KB a from r);rfl
 |ty n=>cases(show u=Pt n from r);rfl
section
variable{fs fs':List (Str×V)}
theorem qH(hok:ju P w H h)(e:H a=some (.ins C dx fs)):∃mA,Ay h a dx C mA/\(∀f,fm (fs.lookup f) (mA f))/\TL mA (fs.map (·.1))/\fs.length<=1000/\H dx=some (.own a):=by
 obtain⟨d,z,ne,b,mA,n,r,q⟩:=(show cj P w H h a (.ins C dx fs)from hok a _ e);exact⟨mA,⟨b,n,ne⟩,r,q,z,d⟩
end
structure GY(K:mo)(C:B3):Prop where
 pg:Rf K C Re=true
 hd:Q0 K C=true
 po:R8 K C=true
 sa:Om K (.ref C) "__setattr__"=some (some (.builtin "object.__setattr__"))
theorem GY.get(c:GY K C)(f:Str):Rf K C f=true:=c.pg
def fQ(K:mo)(C:B3)(f:Str):Prop:=Om K (.ref C) f=some none
theorem fQ.K3{f:Str}(n:fQ K C f):So K C f=some none:=by
 unfold So;rw[show Om K (.ref C) f=some none from n];rfl
section
variable{fs:List (Str×V)}{f:Str}
theorem wY{b:Bool}(I:Inv X pins σ H s)(e:H a=some (.ins C dx fs))(c:GY X.K C)(n:fQ X.K C f)(l:fs.lookup f=some v)(h:∀u s',Inv X pins σ H s'->RelV v u->Q u s'):GT (Nk X.prog X.w) A (getAttr (.ref a) f b) Q E s:=by
 obtain⟨mA,O,r,_,_,_⟩:=qH I.hok e;obtain⟨u,g,d⟩:=fm.some_of (v:=v) (o:=mA f) (by rw[<-l];exact r f);exact get_map I.lJ O (c.get f) c.hd n g (Ab d) (h u _ (I.tok _) d)
theorem wX{Q:Unit->Gc->Prop}(I:Inv X pins σ H s)(e:H a=some (.ins C dx fs))(c:GY X.K C)(n:fQ X.K C f)(hl:fs.length<1000)(m:RelV y u)(h:∀s',Inv X pins σ (upd H a (.ins C dx (iS f y fs))) s'->Q () s'):GT (Nk X.prog X.w) A (setAttr (.ref a) f u) Q E s:=by
 obtain⟨mA,O,r,wi,_,i⟩:=qH I.hok e
 have k:(fs.map (·.1)).length<=sizeLine:=by rw[be,O8];lia
 refine Ff I.lJ O c.sa c.po n.K3 c.hd wi k λh' d l=>h _ ?_;have hd:∃o,h'.get? dx=some o:=let⟨o,_,_,e',_⟩:=d.ns;⟨o,e'⟩;refine I.write (x:=a) (e:=dx) (by rw[e];exact Ov) (.inr i) (λb q p z=>(l.2 b p).trans z) hd ?_;refine⟨by rw[ak O.ne];exact i,?_,O.ne,d.obj,_,d.ns,λg=>?_,λg j=>?_⟩
 ·have :=lH f y fs;lia
 ·show fm ((iS f y fs).lookup g) (if g=f then some u else mA g);rw[lK];by_cases q:g=f
  ·rw[if_pos q,if_pos q];exact m
  ·rw[if_neg q,if_neg q];exact r g
 ·by_cases q:g=f
  ·rw[q];exact(lA f y fs).1
  ·refine(lA f y fs).2 g (wi g λz=>j ?_);show(if g=f then some u else mA g)=none;rw[if_neg q];exact z
theorem Inv.made(I:Inv X pins σ H s):Inv X pins σ (upd (upd H s.heap.objs.size (.own (s.heap.objs.size+1))) (s.heap.objs.size+1) (.ins C s.heap.objs.size []))
  {s with heap:=(s.heap.push OK).push (Pm C s.heap.objs.size)}:=by
 have c:(s.heap.push OK).get? s.heap.objs.size=some OK:=KM s.heap rfl
 have h:((s.heap.push OK).push (Pm C s.heap.objs.size)).get? (s.heap.objs.size+1)=some (Pm C s.heap.objs.size):=by
  have :=KM (s.heap.push OK) (o:=Pm C s.heap.objs.size) rfl
  rwa [QU]at this
 have f:(s.heap.push OK).Ns s.heap.objs.size (λ_=>none):=⟨OK,#[],_,c,rfl,(λe he=>absurd he (by simp)),λ_=>rfl⟩;have d:=I.laid (a:=s.heap.objs.size) (o:= .own (s.heap.objs.size+1)) (h':=s.heap.push OK) (t':=s.toks) (λb u q=>B4 _ q) (B2 _) ⟨_,c⟩;refine d.laid (a:=s.heap.objs.size+1) (o:= .ins C s.heap.objs.size []) (t':=s.toks) (λb u q=>B4 _ q) (Nat.le_of_eq (QU _ _)) ?_;have ne:s.heap.objs.size≠s.heap.objs.size+1:=Nn (Ri _);refine⟨by rw[ak ne,ae],Nl _,ne,h,λ_=>none,(Heap.Ns1.of_empty f).at λo q=>B4 _ q,λ_=>Ov,λy g=>absurd rfl g⟩
theorem Fc{env:Env}{f:Str}(b:P5 e f env (OI e env)=OI e env)(h:GT (Nk prog w) A (OI e env) (λo a=>GT (Nk prog w) A (getAttr o f true) Q E a) E s):GT (Nk prog w) A (OI (.Attribute e f pos) env) Q E s:=
 Attribute_any_ h (by rw[arm_eval_Attribute,b])
end
inductive Lu(K:mo)(f:Str)(Q:VK)(x:V)(H1:Hp):Prop
 |mk (a:_) (C:_) (dx:_) (fs:_) (v:_) (c0:x= .ref a) (c1:H1 a=some (.ins C dx fs)) (c2:GY K C) (c3:fQ K C f) (c4:fs.lookup f=some v) (c5:Q v H1)
def LS(K:mo)(ta:TE)(f:Str):TE:=λσ H Q=>ta σ H λx H1=>Lu K f Q x H1
inductive Kg(K:mo)(f:Str)(D:Ends)(σ:St)(y:V)(x:V)(H2:Hp):Prop
 |mk (a:_) (C:_) (dx:_) (fs:_) (c0:x= .ref a) (c1:H2 a=some (.ins C dx fs)) (c2:GY K C) (c3:fQ K C f) (c4:fs.length<1000) (c5:D.nx σ (upd H2 a (.ins C dx (iS f y fs))))
def L4(K:mo)(ta tv:TE)(f:Str):TS:=λD σ H=>tv σ H λy H1=>ta σ H1 λx H2=>Kg K f D σ y x H2
section
variable{o value:Expr}{f:Str}{tpos:Pos}{tv:TE}
theorem gZ(he:PE X e ta)(g:P5 e f X.env (OI e X.env)=OI e X.env):PE X (.Attribute e f pos) (LS X.K ta f):=by
 intro pins s σ H Q I h;refine Fc g (bS (he pins s σ H _ I h) λu s1 b=>?_);obtain⟨x,H1,i,k,a,C,dx,fs,v,ex,d,c,n,l,q⟩:=b;subst ex;obtain rfl:u=KB a:=k;exact wY i d c n l λo s2 j m=>⟨v,H1,j,m,q⟩
theorem se(ha:PE X o ta)(k:PE X value tv)(j:RO value (some (.Attribute o f pos')) pos.line X.env=pure false):PS X (.Assign [.Attribute o f pos'] value pos) (L4 X.K ta tv f):=by
 intro pins s σ H D I h;refine plainObj_wpAny_Assign_Attribute (bS (k pins s σ H _ I h) λu s1 ⟨y,H1,e,p,q⟩=>bS (ha pins s1 σ H1 _ e q) λb s2 ⟨x,H2,g,i,a,C,dx,fs,ex,m,c,n,l,r⟩=>?_) j;subst ex;obtain rfl:b=KB a:=i;exact wX g m c n l p λt d=>⟨σ,_,d,r⟩
end
section
variable{c:B5}{b:Bool}
inductive kJ(K:mo)(H:Hp):V->B5->Prop where
 |non:kJ K H .non (.type "NoneType")
 |bl (x:Bool):kJ K H (.bl x) (.type "bool")
 |int (i:Int):kJ K H (.int i) (.type "int")
 |str (x:Str):kJ K H (.str x) (.type "str")
 |flt (x:UInt64):kJ K H (.flt x) (.type "float")
 |lst {a:B3} {xs:List V} (e:H a=some (.lst xs)):kJ K H (.ref a) (.type "list")
 |frz {a:B3} {o:Obj} {xs:List V} (e:H a=some (.frz o (.lst xs))):kJ K H (.ref a) (.type "list")
 |tup {a:B3} {xs:List V} (e:H a=some (.tup xs)):kJ K H (.ref a) (.type "tuple")
 |dK {a:B3} {kvs:List (Key×V)} (e:H a=some (.dK kvs)):kJ K H (.ref a) (.type "dict")
 |dT {a:B3} {kvs:List (List Key×V)} (e:H a=some (.dT kvs)):kJ K H (.ref a) (.type "dict")
 |ins {a C dx:B3} {fs:List (Str×V)} (e:H a=some (.ins C dx fs)) (cl:GY K C) (ha:Om K (.ref C) "__class__"=some (some (.builtin "object.__class__")))
   (hn:PySem.W.specialIn K (.builtin "object.__class__") "__get__"=some (some (.builtin "getset_descriptor.__get__"))) (htk:PySem.W.takesIn K (.builtin "object.__class__")=some true)
   (hm:PySem.W.mroIn K C (.type "object")=some true):kJ K H (.ref a) (.ref C)
theorem zH{x:V}{t:B5}(I:Inv X pins σ H s)(d:RelV x u)(ty:kJ X.K H x t)(e:PySem.W.kitOne X.K t c=some b)(h:∀tk,Q (.bool b) {s with toks:=tk}):
  GT (Nk X.prog X.w) A (call (.builtin "isinstance") [u,c]) Q E s:=by
 cases ty with
 |non=>cases(show u=OC from d);exact OB PySem.W.kitx_none I.lJ Ov e (λz=>nomatch z) h
 |bl y=>cases(show u=Rp y from d);exact OB PySem.W.kitx_bool I.lJ Ov e (λz=>nomatch z) h
 |int i=>obtain⟨t,q⟩:=(show∃t,u=Rc i t from d);cases q;exact OB PySem.W.kitx_int I.lJ Ov e (λz=>nomatch z) h
 |str y=>obtain⟨t,q⟩:=(show∃t,u=OG y t from d);cases q;exact OB PySem.W.kitx_str I.lJ Ov e (λz=>nomatch z) h
 |flt y=>obtain⟨t,q⟩:=(show∃t,u=Um y t from d);cases q;exact OB PySem.W.kitx_float I.lJ Ov e (λz=>nomatch z) h
 | @lst a xs f=>
  cases(show u=KB a from d)
  obtain⟨_,_,n,_,h1⟩:=(show cj X.prog X.w H s.heap a (.lst xs)from I.hok a _ f);exact OB UV I.lJ ⟨_,h1,rfl⟩ e (λz=>nomatch z) h
 | @frz a g xs f=>
  cases(show u=KB a from d)
  obtain⟨_,_,_,n,_,h1⟩:=(show cj X.prog X.w H s.heap a (.frz g (.lst xs))from I.hok a _ f);exact OB UV I.lJ ⟨_,h1,rfl⟩ e (λz=>nomatch z) h
 | @tup a xs f=>
  cases(show u=KB a from d)
  obtain⟨_,_,_,p⟩:=(show cj X.prog X.w H s.heap a (.tup xs)from I.hok a _ f);obtain⟨o,h1,h2,_⟩:=p;exact OB PySem.W.kitx_tuple I.lJ ⟨o,h1,h2⟩ e (λz=>nomatch z) h
 | @dK a kvs f=>
  cases(show u=KB a from d)
  obtain⟨_,_,vs,_,p⟩:=(show cj X.prog X.w H s.heap a (.dK kvs)from I.hok a _ f);obtain⟨o,es,ep,h1,h2,_⟩:=p;exact OB UW I.lJ ⟨o,h1,h2.1⟩ e (λz=>nomatch z) h
 | @dT a kvs f=>
  cases(show u=KB a from d)
  obtain⟨_,_,xs,_,o,es,ep,h1,h2,_⟩:=(show cj X.prog X.w H s.heap a (.dT kvs)from I.hok a _ f);exact OB UW I.lJ ⟨o,h1,h2.1⟩ e (λz=>nomatch z) h
 | @ins a C dx fs f cl ha hn htk hm=>
  cases(show u=KB a from d)
  obtain⟨mA,O,_⟩:=qH I.hok f;obtain⟨od,J,_⟩:=O.look;exact OB (PySem.W.kitx_own (cl.get _) cl.hd ha hn htk hm) I.lJ J e (λz=>nomatch z) h
end
structure eS(k:Nat)(A:PR):Prop where
 hd:A.handled=none
 dp:A.depth+3*k+5<recursionLimit
 un:A.units+16*k+200<OX
theorem eS.mono{k:Nat}(r:eS k A)(h:j<=k):eS j A:=⟨r.hd,by have :=r.dp;lia,by have :=r.un;lia⟩
theorem eS.deeper{k:Nat}(r:eS (k+1) A)(env:Env):eS k (A.deeper env):=
 ⟨r.hd,by have :=r.dp;show A.depth+1+3*k+5<_;lia,by have :=r.un;show A.units+3+16*k+200<_;lia⟩
theorem we:(A.under (.builtin "type.__call__" ⟨.ref C::us,kw⟩)).depth=A.depth+1:=by
 first|rfl|simp[T8,Code.weight,Code.isCreation,Code.isGuard,Code.isCaller,Code.frames,T7,guardIds]
theorem vI:(A.under (.builtin "type.__call__" ⟨.ref C::us,kw⟩)).units=A.units+1:=by
 first|rfl|simp[T8,Code.cUnits,Code.frames,T7]
theorem eS.make{k:Nat}(r:eS (k+1) A)(C:B3)(us:List B5)(kw:List (Str×B5)):eS k (A.under (.builtin "type.__call__" ⟨.ref C::us,kw⟩)):=
 ⟨r.hd,by have :=r.dp;rw[we];lia,by have :=r.un;rw[vI];lia⟩
theorem eS.depth{k:Nat}(r:eS k A):A.depth<recursionLimit:=by have :=r.dp;lia
theorem eS.units{k:Nat}(r:eS k A):A.units+64<OX:=by have :=r.un;lia
def fu:TA:=λ_ H Q=>Q [] H
def cG(ta:TE)(tr:TA):TA:=λσ H Q=>ta σ H λx H1=>tr σ H1 λxs H2=>Q (x::xs) H2
section
variable{t:TA}
theorem ab:PA X [] fu:=λ_ _ _ _ H Q I h=>Q3 ⟨[],H,I,.nil,h⟩
theorem aa(ha:PE X e te)(j:PA X es t)(k:Nx (e::es) X.env=(false,OI e X.env)::Nx es X.env:=by rfl):PA X (e::es) (cG te t):=by
 intro pos pins s σ H Q I h;rw[k];show GT _ _ (TB ((false,OI e X.env)::Pr pos (Nx es X.env))) _ _ s;refine Qk (bS (ha pins s σ H _ I h) λu s1 a=>?_);obtain⟨x,H1,f,c,b⟩:=a;exact bS (j pos pins s1 σ H1 _ f b) λus s2 ⟨xs,H2,g,d,i⟩=>⟨x::xs,H2,g,.cons c d,i⟩
inductive JM(Q:VK)(xs:List V)(H1:Hp):Prop
 |mk (c0:xs.length<=sizeLine) (c1:∀p,H1 p=none->Q (.ref p) (upd H1 p (.tup xs)))
def Lj(t:TA):TE:=λσ H Q=>t σ H λxs H1=>JM Q xs H1
inductive JL(Q:VK)(xs:List V)(H1:Hp):Prop
 |mk (c0:xs.length<=sizeLine) (c1:∀p,H1 p=none->Q (.ref p) (upd H1 p (.lst xs)))
def LQ(t:TA):TE:=λσ H Q=>t σ H λxs H1=>JL Q xs H1
theorem aT{x1}(h:PA X es t):PE X (.Tuple es x1 pos) (Lj t):=by
 intro pins s σ H Q I d;refine wpAny_Tuple_spliced (bS (h pos pins s σ H _ I d) λus s1 ⟨xs,H1,a,r,z,q⟩=>⟨by rw[<-r.length];exact z,?_⟩);have c:H1 s1.heap.objs.size=none:=a.hok.fresh (B2 _);refine⟨.ref s1.heap.objs.size,upd H1 s1.heap.objs.size (.tup xs),a.laid (t':=s1.toks) (λb u e=>B4 _ e) (B2 _) ?_,rfl,q _ c⟩;exact⟨z,us,r,⟨_,KM _ rfl,rfl,_,rfl⟩⟩
theorem bU(h:PA X es t):PE X (.List es pos) (LQ t):=by
 intro pins s σ H Q I d;refine wpAny_List_spliced (bS (h pos pins s σ H _ I d) λus s1 ⟨xs,H1,a,r,z,q⟩=>⟨by rw[<-r.length];exact z,?_⟩);have c:H1 s1.heap.objs.size=none:=a.hok.fresh (B2 _);refine⟨.ref s1.heap.objs.size,upd H1 s1.heap.objs.size (.lst xs),a.laid (t':=s1.toks) (λb u e=>B4 _ e) (B2 _) ?_,rfl,q _ c⟩;exact⟨z,us,0,r,KM _ rfl⟩
end
abbrev Sp:=List V->Hp->VK->XK->Prop
abbrev Ga:=List Env->Hp->Gc->XK->B5->Gc->Prop
structure wB(P:Og)(w:Ox)(K:mo)(mg:Str->Option B5)(base:ON)(A:PR)(outer:List Env)(s:Gc)(H:Hp):Prop where
 frames:A.frames=some outer
 mod:Mod K mg base
 bs:∀b o,base.get? b=some o->s.heap.get? b=some o/\H b=none
 bsz:base.objs.size<=s.heap.objs.size
 jN:s.heap.FunFrames base outer
 frf:∀b∈DO outer,H b=none
 hok:ju P w H s.heap
 bare:Rv s.gens
inductive CE(outer:List Env)(P:Og)(w:Ox)(H:Hp)(s:Gc)(Q:VK)(u:B5)(s':Gc):Prop
 |mk (v:V) (H':Hp) (c0:s'.os=s.os) (c1:Rv s'.gens) (c2:Un (DO outer) [] H H' s.heap s'.heap) (c3:ju P w H' s'.heap) (c4:RelV v u) (c5:Q v H')
def CR(CX:Ga)(outer:List Env)(P:Og)(w:Ox)(H:Hp)(s:Gc)(Q:VK)(E:XK)(r:SO)(s':Gc):Prop:=
 match r with
 | .ok (.ret u)=>CE outer P w H s Q u s'
 | .ok _=>False
 | .error e=>CX outer H s E e s'
structure av(P:Og)(w:Ox)(K:mo)(mg:Str->Option B5)(base:ON)(CX:Ga)(k:Nat)(f:B3)(fd:O4)(ps:List Str)(sp:Sp):Prop where
 len:∀vs H Q E,sp vs H Q E->vs.length=ps.length
 run:∀(A:PR)(outer:List Env)(s:Gc)(H:Hp)(args:Args)(us:List B5)(vs:List V)(Q:VK)(E:XK),eS k A->wB P w K mg base A outer s H->SJ s fd args (ps.zip us)->Vals vs us->sp vs H Q E->
  Px (Nk P w) A (.call (.ref f) args) (CR CX outer P w H s Q E) s
variable{sp:Sp}{CX:Ga}
theorem av.mono{k:Nat}(F:av P w K mg base CX j f fd ps sp)(h:j<=k):
  av P w K mg base CX k f fd ps sp:=⟨F.len,λA outer s H args us vs Q E a=>F.run A outer s H args us vs Q E (a.mono h)⟩
theorem wB.make(e:wB P w K mg base A outer s H)(C:B3)(us:List B5)(kw:List (Str×B5)):
  wB P w K mg base (A.under (.builtin "type.__call__" ⟨.ref C::us,kw⟩)) outer s H:=⟨by first|exact e.frames|(simpa[T8,Code.envs,T7,pushEnvs]using e.frames),e.mod,e.bs,e.bsz,e.jN,e.frf,e.hok,e.bare⟩
theorem Inv.Km(I:Inv X pins σ H s):wB X.prog X.w X.K X.mg X.base X.A X.stack s H:=
 ⟨I.ok.frames,I.ok.mod,I.bs,NW I.ok.bsz I.sz,I.stack,I.xN,I.hok,I.bare⟩
theorem Inv.after{Q:VK}(I:Inv X pins σ H s)(h:CE X.stack X.prog X.w H s Q u s'):EP X pins σ Q u s':=by
 obtain⟨v,H',os,bare,un,hok,r,q⟩:=h;obtain⟨c,g,d,t,a⟩:=s';obtain rfl:a=s.os:=os;exact⟨v,H',I.call (h':=c) (g':=g) (d':=d) (t':=t) (ch:=[]) un hok bare (λb z=>absurd z (by simp)),r,q⟩
def ie(sp:Sp)(dvs:List V)(E:XK)(t:TA):TE:=λσ H Q=>t σ H λvs H1=>sp (vs++dvs) H1 Q E
def KH(C:B3)(sp:Sp)(dvs:List V)(E:XK)(t:TA):TE:=λσ H Q=>t σ H λvs H1=>∀x dx,H1 x=none->H1 dx=none->dx≠x->
 sp (.ref x::(vs++dvs)) (upd (upd H1 dx (.own x)) x (.ins C dx [])) (λv H2=>v= .non/\Q (.ref x) H2) E
def Binds(K:mo)(fd:O4)(ps:List Str)(ds:List B5):Prop:=
 ∀(s:Gc)(us:List B5),K.In s.heap->(us++ds).length=ps.length->SJ s fd ⟨us,[]⟩ (ps.zip (us++ds))
theorem Binds.all(h:∀us:List B5,us.length=ps.length->bindArgs fd ⟨us,[]⟩=pure (ps.zip us)):Binds K fd ps []:=λs us _ hl=>by
 rw[Dk]at hl⊢;exact .of_eq (h us hl)
def Passes(CX:Ga)(X:Cx)(E:XK):Prop:=∀(pins:List (B3×Obj))(σ:St)(H:Hp)(s:Gc)(e:B5)(s':Gc),Inv X pins σ H s->CX X.stack H s E e s'->X.xe e s'
section
variable{k:Nat}{dvs:List V}{ds:List B5}{E:XK}{o:Expr}{t:TA}
theorem Iv{Q:VK}(F:av X.prog X.w X.K X.mg X.base CX k f fd ps sp)(d:eS k X.A)(c:Binds X.K fd ps ds)(hd:Vals dvs ds)(hx:Passes CX X E)(I:Inv X pins σ H s)(r:Vals vs us)(h:sp (vs++dvs) H Q E):GT (Nk X.prog X.w) X.A (call (.ref f) us) (EP X pins σ Q) X.xe s:=by
 have b:Vals (vs++dvs) (us++ds):=r.append hd
 have hl:(us++ds).length=ps.length:=by rw[<-b.length];exact F.len _ _ _ _ h
 refine wpAny_call (R5 (F.run X.A X.stack s H ⟨us,[]⟩ (us++ds) (vs++dvs) Q E d I.Km (c s us I.lJ hl) b h) λr s' a=>?_)
 cases r with
 |error e=>exact hx pins σ H s e s' I a
 |ok fl=>
  cases fl with
  |ret u=>exact I.after a
  |next=>exact Pe a
  |brk=>exact Pe a
  |cont=>exact Pe a
theorem FJ(F:av X.prog X.w X.K X.mg X.base CX k f fd ps sp)(j:eS k X.A)(d:Gl X x)(hm:X.mg x=some (.ref f))(i:PY X.K (.ref f)=true)(g:Binds X.K fd ps ds)(hd:Vals dvs ds)(hx:Passes CX X E)(ha:PA X (e::es) t)(a:(x==("__debug__":Str))=false:=by decide)(he:Nx (e::es) X.env=(false,OI e X.env)::Nx es X.env:=by rfl)(b:(Pr pos (Nx es X.env)).any (·.1)=false:=by rfl):
  PE X (.Call (.Name x p) (e::es) [] pos) (ie sp dvs E t):=by
 intro pins s σ H Q I h;refine Qe (rJ I d hm ?_ a);refine UJ (h₀:=X.base) I.ok.mod.kin i (bS (ha pos pins s σ H _ I h) λus s1 ⟨vs,H1,c,r,q⟩=>⟨c.lJ,?_⟩) he b;exact Iv F j g hd hx c r q
structure Mk(K:mo)(C f:B3):Prop where
 makes:Sr K C=true
 init:Om K (.ref C) "__init__"=some (some (.ref f))
 fn:PySem.W.isFn K (.ref f)=true
 kp:PY K (.ref C)=true
theorem Bf{Q:VK}(M:Mk X.K C f)(F:av X.prog X.w X.K X.mg X.base CX k f fd ps sp)(n:eS (k+1) X.A)(l:Binds X.K fd ps ds)(hd:Vals dvs ds)(hx:Passes CX X E)(I:Inv X pins σ H s)(r:Vals vs us)(h:∀x dx,H x=none->H dx=none->dx≠x->sp (.ref x::(vs++dvs)) (upd (upd H dx (.own x)) x (.ins C dx [])) (λv H2=>v= .non/\Q (.ref x) H2) E):
  GT (Nk X.prog X.w) X.A (call (.ref C) us) (EP X pins σ Q) X.xe s:=by
 have d:=h (s.heap.objs.size+1) s.heap.objs.size (I.hok.fresh (QD _)) (I.hok.fresh (B2 _)) (Nn (Ri _));have b:=Inv.made (C:=C) I;have c:Vals (V.ref (s.heap.objs.size+1)::(vs++dvs)) (KB (s.heap.objs.size+1)::(us++ds)):= .cons rfl (r.append hd)
 have hl:(KB (s.heap.objs.size+1)::us++ds).length=ps.length:=by
  have e:=c.length;rw[F.len _ _ _ _ d]at e;exact e.symm
 refine wpAny_call (C7 (f:=f) I.lJ M.makes M.init (beq_iff_eq.mp M.fn) (R5 (F.run _ X.stack _ _ ⟨KB (s.heap.objs.size+1)::us,[]⟩ (KB (s.heap.objs.size+1)::(us++ds)) _ _ E (n.make C us [])
  (b.Km.make C us []) (l _ (KB (s.heap.objs.size+1)::us) b.lJ hl) c d) λr s' a=>?_))
 cases r with
 |error e=>exact hx pins σ _ _ e s' b a
 |ok fl=>
  cases fl with
  |ret u=>
   obtain⟨v,H',i,m,g,j⟩:=b.after a;subst g;exact⟨m,⟨V.ref (s.heap.objs.size+1),H',i,rfl,j⟩⟩
  |next=>exact Pe a
  |brk=>exact Pe a
  |cont=>exact Pe a
theorem ET(M:Mk X.K C f)(F:av X.prog X.w X.K X.mg X.base CX k f fd ps sp)(i:eS (k+1) X.A)(d:Gl X x)(hm:X.mg x=some (.ref C))(g:Binds X.K fd ps ds)(hd:Vals dvs ds)(hx:Passes CX X E)(ha:PA X (e::es) t)(a:(x==("__debug__":Str))=false:=by decide)(he:Nx (e::es) X.env=(false,OI e X.env)::Nx es X.env:=by rfl)(b:(Pr pos (Nx es X.env)).any (·.1)=false:=by rfl):
  PE X (.Call (.Name x p) (e::es) [] pos) (KH C sp dvs E t):=by
 intro pins s σ H Q I h;refine Qe (rJ I d hm ?_ a);refine UJ (h₀:=X.base) I.ok.mod.kin M.kp (bS (ha pos pins s σ H _ I h) λus s1 ⟨vs,H1,c,r,q⟩=>⟨c.lJ,?_⟩) he b;exact Bf M F i g hd hx c r q
end
def PK(X:Cx)(kws:List Q2)(t:TA):Prop:=
 ∀(pos:Pos)(pins:List (B3×Obj))(s:Gc)(σ:St)(H:Hp)(Q:List V->Hp->Prop),Inv X pins σ H s->t σ H Q->GT (Nk X.prog X.w) X.A (evalAll ((PH pos (OP kws X.env)).map (·.2))) (AP X pins σ Q) X.xe s
section
variable{k:Nat}{ks:List Str}{E:XK}{kpos:Pos}{o:Expr}{kws:List Q2}{t tk:TA}{nm:Option Str}
theorem Jd:PK X [] fu:=λ_ _ _ _ H Q I h=>wpAny_evalAll_nil ⟨[],H,I,.nil,h⟩
theorem EW(ha:PE X e te)(i:PK X kws t):PK X (⟨nm,e,kpos⟩::kws) (cG te t):=by
 intro pos pins s σ H Q I h;show GT _ _ (evalAll ((do let v<-OI e X.env;standAt pos;pure v)::(PH pos (OP kws X.env)).map (·.2))) _ _ s;refine wpAny_evalAll_cons (AC (bS (ha pins s σ H _ I h) λu s1 ⟨x,H1,d,b,a⟩=>AC (Q4 (Fk ?_))));exact bS (i pos pins s1 σ H1 _ d a) λus s2 ⟨xs,H2,f,c,g⟩=>⟨x::xs,H2,f,.cons b c,g⟩
variable{g:List B5->List B5->List B5}{gV:List V->List V->List V}
end
structure aw(N P:List Str)(sc:Qs):Prop where
 kind:sc.kind= .function
 co:sc.isCoroutine=false
 gen:sc.isGenerator=false
 nd:N.Nodup
 pre:N.take P.length=P
 par:∀x∈P,sc.names.lookup x=some .local∨sc.names.lookup x=some .cell
 nofree:∀y∈sc.names,y.2≠ .free
theorem pU:∀{binds:List (Str×B5)}{m:Str->Option B5},(∀v,(x,v)∉binds)->Tn kindOf binds m x=m x
 |[],_,_=>rfl
 |(n,v)::r,m,h=>by
  unfold Tn;rw[pU λw a=>h w (De _ a)]
  split
  ·have :x≠n:=by rintro rfl;exact h v B6
   simp[this]
  ·rfl
theorem qi:∀{binds:List (Str×B5)}{m:Str->Option B5},(∀v,(x,v)∉binds)->To kindOf binds m x=m x
 |[],_,_=>rfl
 |(n,v)::r,m,h=>by
  unfold To;rw[qi λw a=>h w (De _ a)]
  split
  ·rfl
  ·have :x≠n:=by rintro rfl;exact h v B6
   simp[this]
theorem qA{v:B5}:∀{P:List Str}{vs:List B5}{i:Nat}{m:Str->Option B5},P.Nodup->P[i]? =some x->vs[i]? =some v->kindOf x=some .local->
  Tn kindOf (P.zip vs) m x=some v
 |[],_,_,_,_,h,_,_=>by simp at h
 |_::_,[],_,_,_,_,h,_=>by simp at h
 |p::P,w::vs,0,m,nd,h1,h2,a=>by
  simp at h1 h2;subst h1;subst h2;show Tn kindOf ((p,w)::P.zip vs) m p=_;unfold Tn;rw[pU λv b=>(List.nodup_cons.mp nd).1 (Sw b).1,if_pos a];simp
 |p::P,w::vs,i+1,m,nd,h1,h2,a=>by
  show Tn kindOf ((p,w)::P.zip vs) m x=_;unfold Tn;exact qA (i:=i) (List.nodup_cons.mp nd).2 (by simpa using h1) (by simpa using h2) a
theorem ql{v:B5}:∀{P:List Str}{vs:List B5}{i:Nat}{m:Str->Option B5},P.Nodup->P[i]? =some x->vs[i]? =some v->kindOf x≠some .local->
  To kindOf (P.zip vs) m x=some v
 |[],_,_,_,_,h,_,_=>by simp at h
 |_::_,[],_,_,_,_,h,_=>by simp at h
 |p::P,w::vs,0,m,nd,h1,h2,a=>by
  simp at h1 h2;subst h1;subst h2;show To kindOf ((p,w)::P.zip vs) m p=_;unfold To;rw[qi λv b=>(List.nodup_cons.mp nd).1 (Sw b).1,if_neg a];simp
 |p::P,w::vs,i+1,m,nd,h1,h2,a=>by
  show To kindOf ((p,w)::P.zip vs) m x=_;unfold To;exact ql (i:=i) (List.nodup_cons.mp nd).2 (by simpa using h1) (by simpa using h2) a
noncomputable def start(N:List Str)(vs:List V):St:=vs.map some++On (N.length-vs.length) none
noncomputable def tO(CX:Ga)(P:Og)(w:Ox)(K:mo)(mg:Str->Option B5)(base:ON)(N:List Str)(qual:Str)(scope:Qs)(f:B3)(b:B5)(A:PR)(outer:List Env)(s:Gc)(H:Hp)(E:XK):Cx where
 prog:=P
 w:=w
 K:=K
 mg:=mg
 base:=base
 A:=A.deeper (envOfC qual scope s.heap.objs.size f b)
 N:=N
 s₀:=s
 H₀:=H
 env:=envOfC qual scope s.heap.objs.size f b
 outer:=outer
 stack:=envOfC qual scope s.heap.objs.size f b::outer
 ex:=[]
 calm:=true
 fn:=λ_=>true
 pn:=[]
 xe:=λe s'=>GT (Nk P w) (A.deeper (envOfC qual scope s.heap.objs.size f b)) (leaving (envOfC qual scope s.heap.objs.size f b) e) (λ_ a=>CX outer H s E e a) (λc a=>CX outer H s E c a) s'
theorem sR{sc:Qs}(h:sc.names.lookup x=some .cell):∃c,(Vb n sc.names []).lookup x=some c:=by
 have q:=TM sc.names n [] (.inl h);exact Option.isSome_iff_exists.mp q
theorem zW{m:B5}{s1:Gc}{E:XK}(S:aw N ps scope)(hd:A.handled=none)(d:wB P w K mg base A outer s H)(hl:vs.length=ps.length)(r:Vals vs us)(x:InCallC s s.heap.objs.size (Tn (envOfC qual scope s.heap.objs.size f m).kindOf (ps.zip us) λ_=>none) (Vb (s.heap.objs.size+1) scope.names []) (To (envOfC qual scope s.heap.objs.size f m).kindOf (ps.zip us) λ_=>none) s1):
  Inv (tO CX P w K mg base N qual scope f m A outer s H E) [] (start N vs) H s1:=by
 have C:ps.length<=N.length:=by have :=congrArg QG S.pre;rw[OT]at this;lia
 obtain⟨h1,tk,rfl,t⟩:=x.done;have g:∀b:B3,b∉(tO CX P w K mg base N qual scope f m A outer s H E).ex:=λb z=>absurd (show b∈([]:List B3)from z) (by simp)
 refine⟨⟨d.mod,S.kind,rfl,rfl,B2 _,λy z c h1 h2=>?_,λy hy=>?_,λy c _ h=>?_,λ_=>hd,Around.frames_deeper d.frames,.inr ⟨rfl,rfl⟩,λb z=>absurd z (g b),d.bs,d.bsz,λb _ _=>g b,λb z=>absurd z (g b),d.jN,d.frf⟩,
  rfl,d.bare,Un.kept t,⟨_,x.toInCall.ns,λi y v h1 h2 D=>?_⟩,λy c h=>⟨_,x.cell y c h⟩,d.hok.fresh (B2 _),λy c h=>?_,λp j=>absurd (show p∈([]:List (B3×Obj))from j) (by simp),d.hok.kept t,?_⟩
 ·exact name_of_addr x.apart (O3 h1) (O3 h2)
 ·have hy:scope.names.lookup y=some .cell∨scope.names.lookup y=some .free:=hy
  rcases hy with hy|hy
  ·exact sR hy
  ·exact absurd rfl (S.nofree _ (O3 hy))
 ·exact Sa (x.above y c (O3 h))
 ·have hi:i<vs.length:=by
   unfold start at h2;by_cases hi:i<vs.length
   ·exact hi
   ·rw[GM (by simpa using hi)]at h2;rw[Ts]at h2
    split at h2<;>cases h2
  have ha:vs[i]? =some v:=by
   unfold start at h2;rw[KF (by simpa using hi),B7]at h2
   cases e:vs[i]? with
   |none=>rw[e]at h2;cases h2
   |some a=>rw[e]at h2;cases h2;rfl
  obtain⟨u,o,B⟩:=r.get ha
  have j:ps[i]? =some y:=by
   rw[<-S.pre,List.getElem?_take_of_lt (by lia)];exact h1
  have l:ps.Nodup:=by rw[<-S.pre];exact S.nd.sublist (List.take_sublist _ _)
  refine⟨u,B,?_⟩
  rcases S.par y (Do j)with k|k
  ·exact .inl ⟨k,qA l j o k⟩
  ·obtain⟨c,e⟩:=sR (n:=s.heap.objs.size+1) k;refine .inr ⟨.inl k,c,e,?_⟩;have q:=x.cell y c e;rw[ql l j o (by show scope.names.lookup y≠_;rw[k];decide)]at q;exact q
 ·exact d.hok.fresh (Sa (x.above y c (O3 h)))
 ·unfold start;show _=N.length;rw[B1,be,PN]
  lia
theorem KQ{k:Nat}{a:Arguments}{C kV doc pm cdv ct oc:B5}{an od:Option B3}{osl:Array (Option B5)}(lk:K.lookup f=some ⟨oc,od,.func (Py name qual a body scope C kV doc pm an cdv ct),osl⟩)(l:RI K cdv qual=true)(S:aw N ps scope)(len:∀vs H Q E,sp vs H Q E->vs.length=ps.length)(c:∀(A:PR)(outer:List Env)(s:Gc)(H:Hp)(vs:List V)(Q:VK)(E:XK),eS k (A.deeper (envOfC qual scope s.heap.objs.size f cdv))->sp vs H Q E->
   ∃t,wG (tO CX P w K mg base N qual scope f cdv A outer s H E) body t/\t {nx:=λ_ H'=>Q .non H',rt:=Q} (start N vs) H):
  av P w K mg base CX (k+1) f (Py name qual a body scope C kV doc pm an cdv ct) ps sp:=by
 refine⟨len,λA outer s H args us vs Q E p h D r i=>?_⟩;have hl:=len _ _ _ _ i;have B:K.In s.heap:=h.mod.kin.keeps λb o e=>(h.bs b o e).1;have z:s.heap.NoLimit:=h.mod.nolimit.keeps λb o e=>(h.bs b o e).1
 have d:∀y∈ps.zip us,scope.names.lookup y.1=some .local∨(scope.names.lookup y.1=some .cell/\((Vb (s.heap.objs.size+1) scope.names []).lookup y.1).isSome=true):=λ⟨n,v⟩ F=>by
  rcases S.par n (Sw F).1 with q|q
  ·exact .inl q
  ·exact .inr ⟨q,TM _ _ _ (.inl q)⟩
 refine codeAny_call_function p.depth (B _ _ lk) rfl S.co S.gen rfl (PySem.W.codeRec_of B l) (D _ _ _ _ ?_);refine wpAny_newFunctionEnv_cells S.kind d λenv he s1 x=>?_;subst he;refine⟨z.keeps x.toInCall.keep,codeAny_func ?_⟩;obtain⟨t,G,L⟩:=c A outer s H vs Q E (p.deeper _) i;have I:Inv (tO CX P w K mg base N qual scope f cdv A outer s H E) [] (start N vs) H s1:=zW S p.hd h hl r x;refine OR (G [] s1 (start N vs) H _ I L) (λfl s' g=>?_) λe s' g=>g
 have j:∀{σ':St}{H':Hp}{v:V}{u:B5},Inv (tO CX P w K mg base N qual scope f cdv A outer s H E) [] σ' H' s'->RelV v u->Q v H'->CE outer P w H s Q u s':=
  λ{σ' H' v u} J m q=>⟨v,H',J.os,J.bare,J.base,J.hok,m,q⟩
 cases fl with
 |ret u=>
  obtain⟨v,σ',H',J,m,q⟩:=g;exact j J m q
 |next=>
  obtain⟨σ',H',J,q⟩:=g;exact j (v:=V.non) (u:=OC) J rfl q
 |brk=>
  obtain⟨_,_,_,q⟩:=g;exact Pe q
 |cont=>
  obtain⟨_,_,_,q⟩:=g;exact Pe q
section
variable{t:TA}{id T:String}{r:List V->Hp->VK->Prop}
def CT(r:List V->Hp->VK->Prop)(t:TA):TE:=λσ H Q=>t σ H λvs H1=>r vs H1 Q
theorem aH(f:dv X (.builtin id) r)(g:Gl X x)(hm:X.mg x=none)(d:O5 x=some (.builtin id))(ha:PA X (e::es) t)(hn:x≠"__name__":=by decide)(b:(x==("__debug__":Str))=false:=by decide)(he:Nx (e::es) X.env=(false,OI e X.env)::Nx es X.env:=by rfl)(c:(Pr pos (Nx es X.env)).any (·.1)=false:=by rfl):PE X (.Call (.Name x p) (e::es) [] pos) (CT r t):=by
 intro pins s σ H Q I h;refine Qe (dZ I g hm d ?_ hn b);exact PyProof.Rows.callWith_builtin1 (bS (ha pos pins s σ H _ I h) λus s1 a=>by obtain⟨vs,H1,k,j,i⟩:=a;exact f pins s1 σ H1 vs us Q k j i) he c
theorem aQ(f:dv X (.type T) r)(g:Gl X x)(hm:X.mg x=none)(d:O5 x=some (.type T))(ha:PA X (e::es) t)(hn:x≠"__name__":=by decide)(b:(x==("__debug__":Str))=false:=by decide)(he:Nx (e::es) X.env=(false,OI e X.env)::Nx es X.env:=by rfl)(c:(Pr pos (Nx es X.env)).any (·.1)=false:=by rfl):PE X (.Call (.Name x p) (e::es) [] pos) (CT r t):=by
 intro pins s σ H Q I h;refine Qe (dZ I g hm d ?_ hn b);exact NP (bS (ha pos pins s σ H _ I h) λus s1 a=>by obtain⟨vs,H1,k,j,i⟩:=a;exact f pins s1 σ H1 vs us Q k j i) he c
end
end L2
namespace HT
open PySem PyProof.Rows
variable{Q:B5->Gc->Prop}{hi lo:Option Int}{sl:B3}{vl vu:B5}
section
variable{prog:Og}{w:Ox}{A:PR}{E:B5->Gc->Prop}{s:Gc}
theorem FZ{t b:B3}{vs ws:List B5}(q:IsTup s.heap t vs.toArray)(p:IsTup s.heap b ws.toArray)(k:vs≠[])(h1:ws=[]->Q (.ref t) s)(h2:ws≠[]->Q (.ref s.heap.objs.size) {s with heap:=s.heap.push {cls:= .type "tuple",data:= .seq (vs++ws).toArray}})(hsz:vs.length+ws.length<=sizeLine):GT (Nk prog w) A (PF .Add (.ref t) (.ref b)) Q E s:=by
 obtain⟨⟨cls,dd,data,sl⟩,i,l,n,hd⟩:=id q;obtain⟨⟨m,c,j,d⟩,a,g,o,f⟩:=id p;simp only at l hd g f;subst l hd g f
 have e:vs.toArray++ws.toArray=(vs++ws).toArray:=by simp
 by_cases h:ws=[]
 ·exact TK ⟨_,i,rfl⟩ ⟨_,a,rfl⟩ Sj Tb Rq Rg (Q9 _ _)
   (tuple_addW1 t b vs.toArray ws.toArray n o dd c sl d (by simpa using k) (by simp[h])) ⟨i,a,h1 h⟩
 ·refine TK ⟨_,i,rfl⟩ ⟨_,a,rfl⟩ Sj Tb Rq Rg (Q9 _ _)
   (tuple_addW2 t b vs.toArray ws.toArray n o dd c sl d (by simpa using k) (by simpa using h) (by rw[B8,B8];exact hsz)) ⟨i,a,?_⟩
  rw[e];exact h2 h
noncomputable def cZ(n d:Nat):Option Int->Nat
 |none=>d
 |some v=>if v<0 then(v+(n:Int)).toNat else min v.toNat n
theorem jF(n d:Nat):cZ n d none=d:=rfl
theorem iQ(n d k:Nat):cZ n d (some (k:Int))=min k n:=by
 show(if(k:Int)<0 then((k:Int)+(n:Int)).toNat else min (k:Int).toNat n)=min k n;rw[if_neg (by lia),Sg]
theorem Hr(n d:Nat)(hd:d<=n)(o:Option Int):cZ n d o<=n:=by
 cases o with
 |none=>exact hd
 |some v=>
  show(if v<0 then(v+(n:Int)).toNat else min v.toNat n)<=n;by_cases a:v<0
  ·rw[if_pos a];lia
  ·rw[if_neg a];exact Nat.min_le_right _ _
theorem yN(v:Int)(n d:Nat):(if v<0 then max (v+(n:Int)) 0 else min v (n:Int))=((cZ n d (some v):Nat):Int):=by
 show(if v<0 then max (v+(n:Int)) 0 else min v (n:Int))=(((if v<0 then(v+(n:Int)).toNat else min v.toNat n):Nat):Int);by_cases a:v<0
 ·simp only[if_pos a];lia
 ·simp only[if_neg a];lia
theorem wD(lo hi:Option Int)(n:Nat):QX lo hi 1 (n:Int)=(((cZ n 0 lo:Nat):Int),((cZ n n hi:Nat):Int)):=by
 have h1:¬((1:Int)<0):=by lia
 unfold QX;simp only[h1,if_false];refine QB ?_ ?_
 ·cases lo with
  |none=>rfl
  |some v=>exact yN v n 0
 ·cases hi with
  |none=>rfl
  |some v=>exact yN v n n
theorem vz(i j:Nat):P4 (i:Int) (j:Int) 1=j-i:=by
 unfold P4
 have h1:(1:Int)>0:=by lia
 simp only[h1,if_true,Int.ediv_one]
 split<;>lia
theorem oh{v:B5}{o:Option Int}{Q:Option Int->Gc->Prop}(p:Ru v o)(h:Q o s):GT (Nk prog w) A (Builtin.Slice.slicePartIndex v) Q E s:=by
 cases p with
 |none=>exact slicePart_none h
 |int i t=>exact slicePart_int h
theorem gq{n:Nat}{Q:Int×Int×Nat->Gc->Prop}(d:s.heap.IsSliceOf sl vl vu .none)(pl:Ru vl lo)(c:Ru vu hi)(h:Q (((cZ n 0 lo:Nat):Int),1,cZ n n hi-cZ n 0 lo) s):GT (Nk prog w) A (S1 (.ref sl) (pure (n:Int))) Q E s:=by
 obtain⟨os,a,e,b⟩:=id d;unfold S1 Builtin.Slice.sliceFields;refine AC (AC (Oj a b (x:=vl) rfl (AC (Oj a b (x:=vu) rfl (AC (Oj a b (x:= .none) rfl (Fk ?_)))))));refine AC (slicePart_none ?_);show GT _ _ (if((1:Int)==0)=true then _ else _) _ _ s;rw[if_neg (by decide)];refine AC (oh pl (AC (oh c (AC (Fk ?_)))));show GT _ _ (match QX lo hi 1 (n:Int)with|(lo,hi)=>pure (lo,(1:Int),P4 lo hi 1)) _ _ s;rw[wD lo hi n];show GT _ _ (pure (((cZ n 0 lo:Nat):Int),(1:Int),P4 ((cZ n 0 lo:Nat):Int) ((cZ n n hi:Nat):Int) 1)) _ _ s;rw[vz];exact Fk h
theorem Cn(xs:Array B5)(i k:Nat):((Nz k).filterMap λ(m:Nat)=>xs[((i:Int)+(m:Int)*1).toNat]?).toArray=((xs.toList.drop i).take k).toArray:=by
 have e:(λ(m:Nat)=>xs[((i:Int)+(m:Int)*1).toNat]?)=λm=>xs[i+m]? :=by
  funext m
  have :((i:Int)+(m:Int)*1).toNat=i+m:=by lia
  rw[this]
 rw[e];have :=pick_run xs i k;rw[List.filterMap_map]at this;have a:((λx=>xs[x]?)∘λx=>i+x)=λm=>xs[i+m]? :=rfl;rw[a]at this;rw[this]
theorem ko{t:B3}{a:Array B5}(c:IsTup s.heap t a)(i:s.heap.IsSliceOf sl vl vu .none)(pl:Ru vl lo)(j:Ru vu hi)(l:¬(cZ a.size 0 lo=0/\cZ a.size a.size hi=a.size))(h:Q (.ref s.heap.objs.size) {s with heap:=s.heap.push {cls:= .type "tuple",data:= .seq ((a.toList.drop (cZ a.size 0 lo)).take (cZ a.size a.size hi-cZ a.size 0 lo)).toArray}})(hsz:a.size<=sizeLine):GT (Nk prog w) A (QY (.ref t) (.ref sl)) Q E s:=by
 have b:sizeOk (.seq ((a.toList.drop (cZ a.size 0 lo)).take (cZ a.size a.size hi-cZ a.size 0 lo)).toArray):=by
  show((a.toList.drop (cZ a.size 0 lo)).take (cZ a.size a.size hi-cZ a.size 0 lo)).toArray.size<=sizeLine;rw[B8,OT,Ot,Ni]
  lia
 have p:cZ a.size a.size hi<=a.size:=Hr _ _ (B2 _) hi;obtain⟨os,g,f,k⟩:=id i;have e:s.TypeIs (.ref sl) "slice":=⟨os,g,f⟩;unfold QY
 try with_reducible refine OV ?_
 first|refine AC (Fk ?_)|skip
 refine AC (UO c.typeIs (by decide) ?_)
 refine AC (OF (name:=NR "__getitem__") c.typeIs Pu
  (OE Pu c.typeIs Us ?_ (UD _ _)))
 show GT _ _ (S0 (.ref t) >>= _) _ _ s;refine AC (tupleItemsOf_ c ?_);refine AC (Rn e ?_);rw[if_pos (by decide)];refine AC (gq i pl j ?_)
 have d:¬((((cZ a.size 0 lo:Nat):Int)==0&&(1:Int)==1&&(cZ a.size a.size hi-cZ a.size 0 lo)==a.size)=true):=by
  intro q;rw[Oi,Oi]at q;have n:((cZ a.size 0 lo:Nat):Int)=0:=eq_of_beq q.1.1;have o:cZ a.size a.size hi-cZ a.size 0 lo=a.size:=eq_of_beq q.2;exact l ⟨by lia,by lia⟩
 show GT _ _ (if(((cZ a.size 0 lo:Nat):Int)==0&&(1:Int)==1&&(cZ a.size a.size hi-cZ a.size 0 lo)==a.size)=true then _ else _) _ _ s;rw[if_neg d,Cn]
 first
  |exact AC (m:=P6 _) (Oq (Fk ⟨_,rfl,Fk h⟩) b)
  |exact AC (m:=P6 _) (Oq (AC (Fk (Fk ⟨_,rfl,Fk h⟩))) b)
  |exact AC (AC (m:=P6 _) (Oq (Fk (Fk ⟨_,rfl,Fk h⟩)) b))
  |exact AC (AC (m:=P6 _) (Oq (Fk ⟨_,rfl,Fk h⟩) b))
end
end HT
namespace L2
open PySem PySem.Spec PyProof.Rows
abbrev TO:=St->Hp->(Option Int->Hp->Prop)->Prop
def PO(X:Cx)(e:Option Expr)(t:TO):Prop:=
 ∀(pins:List (B3×Obj))(s:Gc)(σ:St)(H:Hp)(Q:Option Int->Hp->Prop),Inv X pins σ H s->t σ H Q->
  GT (Nk X.prog X.w) X.A (evalPart e X.env) (λu s'=>∃o H',Inv X pins σ H' s'/\Ru u o/\Q o H') X.xe s
def xH:TO:=λ_ H Q=>Q none H
inductive HI(Q:Option Int->Hp->Prop)(x:V)(H1:Hp):Prop
 |mk (i:_) (c0:x= .int i) (c1:Q (some i) H1)
def GI(t:TE):TO:=λσ H Q=>t σ H λx H1=>HI Q x H1
theorem intsAre_of{ns:List Int}:∀{us:List B5},Vals (ns.map V.int) us->SG us ns:=by
 induction ns with
 |nil=>intro us r;rw[QL]at r;cases r;exact .nil
 |cons n ns c=>
  intro us r;rw[Nq]at r
  cases r with
  |cons a b=>
   obtain⟨t,e⟩:=a;subst e;exact .cons n t (c b)
variable{X:Cx}{e:Expr}{pos:Pos}{us its its':List B5}{xs ys:List V}{i:Int}{j n t':Nat}{A:PR}{H:Hp}{T:String}{p:B3}{pins:List (B3×Obj)}{s:Gc}{u v:B5}{x y:V}{σ:St}
section
variable{te:TE}{lo hi:Option Expr}{tl th:TO}{p2:Pos}
theorem fE:PO X none xH:=by
 intro pins s σ H Q I h;rw[evalPart_none];exact Fk ⟨none,H,I,.none,h⟩
theorem fF(h:PE X e te):PO X (some e) (GI te):=by
 intro pins s σ H Q I f;rw[evalPart_some];refine bS (h pins s σ H _ I f) λu s1 a=>?_;obtain⟨x,H1,d,c,b⟩:=a;obtain⟨i,rfl,q⟩:=b;obtain⟨t,rfl⟩:=c;exact⟨some i,H1,d,.int i t,q⟩
def Kl(X:Cx)(r:V->Option Int->Option Int->Hp->VK->Prop):Prop:=
 ∀(pins:List (B3×Obj))(s:Gc)(σ:St)(H:Hp)(x:V)(v vl vu:B5)(lo hi:Option Int)(sl:B3)(Q:VK),Inv X pins σ H s->RelV x v->s.heap.IsSliceOf sl vl vu .none->Ru vl lo->Ru vu hi->r x lo hi H Q->
  ∃T id,R1 (.type T) "__getitem__"=pure (some (.builtin id))/\s.TypeIs v T/\GT (Nk X.prog X.w) X.A (QY v (.ref sl)) (EP X pins σ Q) X.xe s
def Mu(r:V->Option Int->Option Int->Hp->VK->Prop)(te:TE)(tl th:TO):TE:=λσ H Q=>te σ H λx H1=>tl σ H1 λl H2=>th σ H2 λu H3=>r x l u H3 Q
theorem eD{r:V->Option Int->Option Int->Hp->VK->Prop}(o:Kl X r)(he:PE X e te)(hl:PO X lo tl)(p:PO X hi th):PE X (.Subscript e (.Slice lo hi none p2) pos) (Mu r te tl th):=by
 intro pins s σ H Q I h;refine UE (bS (he pins s σ H _ I h) λv s1 c=>?_);obtain⟨x,H1,k,j,g⟩:=c;refine wpAny_Slice (bS (hl pins s1 σ H1 _ k g) λvl s2 ⟨l,H2,m,pl,B⟩=>bS (p pins s2 σ H2 _ m B) λvu a c=>?_);obtain⟨u,H3,i,d,t⟩:=c;rw[evalPart_none];refine Fk ?_;have n:Inv X pins σ H3 {a with heap:=a.heap.push {cls:= .type "slice",data:= .fields #[vl,vu,.none]}}:=i.kept (t':=a.toks) λb C q=>B4 _ q;obtain⟨T,id,z,y,f⟩:=o pins {a with heap:=a.heap.push {cls:= .type "slice",data:= .fields #[vl,vu,.none]}} σ H3 x v vl vu l u a.heap.objs.size Q n j (Heap.IsSliceOf.new ..) pl d t;show GT (Nk X.prog X.w) X.A (Ta e (.Slice lo hi none p2) v (.ref a.heap.objs.size)) (EP X pins σ Q) X.xe {a with heap:=a.heap.push {cls:= .type "slice",data:= .fields #[vl,vu,.none]}};exact tail_any (ops:=[.ref a.heap.objs.size,v]) y z f (by with_unfolding_all rfl)
noncomputable def hY(xs:List V)(lo hi:Option Int):List V:=(xs.drop (HT.cZ xs.length 0 lo)).take (HT.cZ xs.length xs.length hi-HT.cZ xs.length 0 lo)
theorem lF(xs:List V)(lo hi:Option Int):(hY xs lo hi).length<=xs.length:=by
 unfold hY;rw[OT,Ot]
 lia
inductive Mp(K:mo)(x:V)(lo:Option Int)(hi:Option Int)(H:Hp)(Q:VK):Prop|mk(a xs:_)(_:x= .ref a)(_:ba K H a xs)(_:¬(HT.cZ xs.length 0 lo=0/\HT.cZ xs.length xs.length hi=xs.length))(_:∀p,H p=none->Q (.ref p) (upd H p (.tup (hY xs lo hi))))
theorem Hk:Kl X (Mp X.K):=by
 intro pins s σ H x v vl vu lo hi sl Q I i j pl f h;obtain⟨a,xs,rfl,hx,g,q⟩:=h
 cases i
 obtain⟨its,r,e,d⟩:=I.tuple hx
 have c:its.toArray.size=xs.length:=by rw[B8];exact r.length.symm
 refine⟨"tuple",_,PyProof.Rows.slot_tuple_getitem.lookup,e.typeIs,?_⟩;refine HT.ko e j pl f (by rw[c];exact g) ?_ (by rw[c];exact d);rw[c];refine⟨.ref s.heap.objs.size,_,I.laid (t':=s.toks) (o:= .tup (hY xs lo hi)) (λb k q=>B4 _ q) (B2 _) ?_,rfl,q _ (I.hok.fresh (B2 _))⟩;exact⟨NW (lF xs lo hi) d,_,(r.drop (HT.cZ xs.length 0 lo)).take (HT.cZ xs.length xs.length hi-HT.cZ xs.length 0 lo),Tu _ _⟩
inductive K9(K:mo)(x:V)(y:V)(H:Hp)(Q:VK):Prop|mk(a b xs ys:_)(_:x= .ref a)(_:y= .ref b)(_:ba K H a xs)(_:ba K H b ys)(_:xs≠[])(_:xs.length+ys.length<=sizeLine)(_:ys=[]->Q (.ref a) H)(_:ys≠[]->∀p,H p=none->Q (.ref p) (upd H p (.tup (xs++ys))))
theorem Vals.rX(r:Vals xs us):us=[]↔xs=[]:=by
 cases r with
 |nil=>simp
 |cons _ _=>simp
theorem xT:ir X (PF .Add) (K9 X.K):=by
 intro pins s σ H x y v u Q I j k h;obtain⟨a,b,xs,ys,rfl,rfl,ha,i,hx,e,g,l⟩:=h
 cases j
 cases k
 obtain⟨its,d,m,_⟩:=I.tuple ha;obtain⟨f,c,p2,_⟩:=I.tuple i;refine HT.FZ m p2 (λz=>hx (d.rX.mp z)) (λz=>⟨.ref a,H,I,rfl,g (c.rX.mp z)⟩) (λz=>?_) (by rw[<-d.length,<-c.length];exact e);refine⟨.ref s.heap.objs.size,_,I.laid (t':=s.toks) (o:= .tup (xs++ys)) (λb n q=>B4 _ q) (B2 _) ?_,rfl,l (λw=>z (c.rX.mpr w)) _ (I.hok.fresh (B2 _))⟩;exact⟨by rw[B1];exact e,_,d.append c,Tu _ _⟩
end
noncomputable def HQ(n:Nat)(i:Int):Option Nat:=if 0<=i then(if i<n then some i.toNat else none)else if -(n:Int)<=i then some (i+n).toNat else none
noncomputable def jX{α:Type}(xs:List α)(i:Int):Option α:=(HQ xs.length i).bind λj=>xs[j]?
theorem yI(h:HQ n i=some j):U9 i n=some j/\j<n/\ -(n:Int)<=i/\i<n:=by
 unfold HQ at h;by_cases h0:0<=i
 ·rw[if_pos h0]at h;by_cases h1:i<n
  ·rw[if_pos h1]at h;have e:i.toNat=j:=Kf h;exact⟨by rw[Ui h0 h1,e],by lia,by lia,h1⟩
  ·rw[if_neg h1]at h;cases h
 ·rw[if_neg h0]at h;by_cases h1: -(n:Int)<=i
  ·rw[if_pos h1]at h;have e:(i+n).toNat=j:=Kf h;exact⟨by rw[TF (by lia) h1,e],by lia,h1,by lia⟩
  ·rw[if_neg h1]at h;cases h
theorem so{α:Type}{xs:List α}{v:α}(h:jX xs i=some v):∃j,U9 i xs.length=some j/\xs[j]? =some v/\j<xs.length/\ -(xs.length:Int)<=i/\i<xs.length:=by
 unfold jX at h
 cases e:HQ xs.length i with
 |none=>rw[e]at h;cases h
 |some j=>
  rw[e]at h;obtain⟨h1,h2,a,b⟩:=yI e;exact⟨j,h1,h,h2,a,b⟩
theorem aN{α:Type}{xs:List α}{v:α}(h:xs[j]? =some v):jX xs (j:Int)=some v:=by
 have a:j<xs.length:=(List.getElem?_eq_some_iff.mp h).1
 have e:HQ xs.length (j:Int)=some j:=by
  unfold HQ;rw[if_pos (by lia),if_pos (by lia)];simp
 unfold jX;rw[e];exact h
def EL(b:Expr):Prop:=∀o i,Sm b false o i=operate [o,i] (QY o i)
def Ly(X:Cx)(r:R2):Prop:=
 ∀(value slice:Expr)(pins:List (B3×Obj))(s:Gc)(σ:St)(H:Hp)(x y:V)(v u:B5)(Q:VK),Inv X pins σ H s->RelV x v->RelV y u->r x y H Q->
  Sm slice false v u=operate [v,u] (QY v u)->GT (Nk X.prog X.w) X.A (Ta value slice v u) (EP X pins σ Q) X.xe s
def LA(X:Cx)(id:String)(r:V->List V->Hp->VK->Prop):Prop:=
 ∀(pins:List (B3×Obj))(s:Gc)(σ:St)(H:Hp)(x:V)(xs:List V)(v:B5)(us:List B5)(Q:VK),Inv X pins σ H s->RelV x v->Vals xs us->r x xs H Q->
  GT (Nk X.prog X.w) X.A (call (.builtin id) (v::us)) (EP X pins σ Q) X.xe s
section
variable{a b:Expr}{ta tb:TE}
theorem ay{r:R2}(g:Ly X r)(ha:PE X a ta)(d:PE X b tb)(i:EL b):PE X (.Subscript a b pos) (Ad r ta tb):=by
 intro pins s σ H Q I h;exact UE (Hq ha d I h λv u s2 x y H2 e f c q=>g a b pins s2 σ H2 x y v u Q e f c q (i _ _))
inductive Kq(K:mo)(x:V)(y:V)(H:Hp)(Q:VK):Prop
 |mk (p:_) (xs:_) (i:_) (v:_) (c0:x= .ref p) (c1:y= .int i) (c2:bf K H p xs) (c3:jX xs i=some v) (c4:Q v H)
def IA(K:mo):R2:=λx y H Q=>Kq K x y H Q
inductive JB(K:mo)(x:V)(y:V)(H:Hp)(Q:VK):Prop
 |mk (p:_) (xs:_) (i:_) (v:_) (c0:x= .ref p) (c1:y= .int i) (c2:ba K H p xs) (c3:jX xs i=some v) (c4:Q v H)
def DB(K:mo):R2:=λx y H Q=>JB K x y H Q
inductive Kb(x:V)(y:V)(H:Hp)(Q:VK):Prop
 |mk (z:_) (i:_) (c:_) (c0:x= .str z) (c1:y= .int i) (c2:z.length<=sizeLine) (c3:jX z.cps.toList i=some c) (c4:Q (.str ⟨#[c]⟩) H)
def LH:R2:=λx y H Q=>Kb x y H Q
theorem bB:Ly X (IA X.K):=by
 intro value slice pins s σ H x y v u Q I g l h d;obtain⟨p,xs,i,z,rfl,rfl,m,he,q⟩:=h
 cases g
 obtain⟨t,rfl⟩:=l;obtain⟨its,r,pl,n⟩:=I.list m;obtain⟨j,h1,h2,o,k,f⟩:=so he;obtain⟨w,e,b⟩:=r.get h2;have hl:=r.length;have hn:=jo;have a:EP X pins σ Q w s:=⟨z,H,I,b,q⟩;by_cases h0:0<=i
 ·have c:i.toNat=j:=by
   rw[Ui h0 f]at h1;exact Kf h1
  exact item_listR pl.isList h0 (by lia) (by rw[c];simpa using e) a d
 ·have c:(i+(its.toArray.size:Int)).toNat=j:=by
   rw[TF (by lia) k]at h1;rw[B8,<-hl];exact Kf h1
  exact Tz (x:=w) pl.isList.typeIs slot_list_getitem.lookup
   (wpAny_getItem_list_neg (Q:=λr s'=>r=w/\EP X pins σ Q r s') pl.isList (by lia) (by rw[B8]<;>lia) (by lia) (by rw[c];simpa using e) ⟨rfl,a⟩) d
theorem ax:Ly X (DB X.K):=by
 intro value slice pins s σ H x y v u Q I c f h d;obtain⟨p,xs,i,z,rfl,rfl,g,he,q⟩:=h
 cases c
 obtain⟨t,rfl⟩:=f;obtain⟨its,r,pl,k⟩:=I.tuple g;obtain⟨j,h1,h2,n,m,l⟩:=so he;obtain⟨w,e,a⟩:=r.get h2;have hl:=r.length;have hn:=jo;have b:EP X pins σ Q w s:=⟨z,H,I,a,q⟩
 exact Tz (x:=w) pl.typeIs slot_tuple_getitem.lookup
  (getItem_tuple (j:=j) (Q:=λr s'=>r=w/\EP X pins σ Q r s') pl (by lia) (by lia) (by rw[B8,<-hl];exact h1) (by simpa using e) ⟨rfl,b⟩) d
theorem rR:Ly X LH:=by
 intro value slice pins s σ H x y v u Q I b g h d;obtain⟨z,i,c,rfl,rfl,l,he,q⟩:=h;obtain⟨t,rfl⟩:=b;obtain⟨t',rfl⟩:=g;obtain⟨j,h1,h2,m,e,a⟩:=so he
 have hl:z.cps.toList.length=z.length:=by simp[Str.length]
 rw[hl]at h1 e a;have hn:=jo
 exact tail_any (Qf s z t) slot_str_getitem.lookup (getItem_str (c:=c) (by
  have k:decide (i< -(2^63:Int))=false:=decide_eq_false (by lia);have f:decide (i≥2^63)=false:=decide_eq_false (by lia)
  rw[k,f,Ra]) (by rw[h1];simpa using h2) ⟨.str ⟨#[c]⟩,H,I.tok _,⟨_,rfl⟩,q⟩) d
theorem vV(its:List B5)(n j:Nat)(u:B5):Ol (·.setIfInBounds j u) {cls:= .type "list",data:= .seq its.toArray n}={cls:= .type "list",data:= .seq (its.set j u).toArray n}:=by
 simp[Ol]
theorem Inv.lst{pins:List (B3×Obj)}{σ:St}{H:Hp}{s:Gc}{p:B3}{xs:List V}(I:Inv X pins σ H s)(h:H p=some (.lst xs)):
  ∃(its:List B5)(n:Nat),Vals xs its/\s.heap.get? p=some {cls:= .type "list",data:= .seq its.toArray n}/\xs.length<=sizeLine:=by
 obtain⟨z,its,n,r,e⟩:=I.hok p _ h;exact⟨its,n,r,e,z⟩
theorem Inv.HF{a:Nat}{f:Obj->Obj}(I:Inv X pins σ H s)(h:H p=some (.lst xs))(d:s.heap.get? p=some {cls:= .type "list",data:= .seq its.toArray n})(c:f {cls:= .type "list",data:= .seq its.toArray n}={cls:= .type "list",data:= .seq its'.toArray a})(r:Vals ys its')(hz:ys.length<=sizeLine)(t:Nat):
  Inv X pins σ (upd H p (.lst ys)) {s with heap:=s.heap.update p f,toks:=t}:=by
 have e:(s.heap.update p f).get? p=some {cls:= .type "list",data:= .seq its'.toArray a}:=by
  rw[Of f d (by rw[c]<;>rfl),c]
 refine I.write (x:=p) (e:=p) (by rw[h];trivial) (.inl rfl) (λb u g q=>(NM _ _ (B9 g)).trans q) ⟨_,e⟩ ?_;exact⟨hz,its',a,r,e⟩
inductive JD(o:V)(i:V)(v:V)(H:Hp)(Q:Hp->Prop):Prop|mk(p xs k j:_)(_:o= .ref p)(_:i= .int k)(_:H p=some (.lst xs))(_:HQ xs.length k=some j)(_:Q (upd H p (.lst (xs.set j v))))
theorem set_list:KD X JD:=by
 intro pins s σ H o i v y z u Q I m w l h;obtain⟨p,xs,k,j,rfl,rfl,d,x,q⟩:=h
 cases m
 obtain⟨t,rfl⟩:=w;obtain⟨its,n,r,a,g⟩:=I.lst d;obtain⟨h1,h2,f,e⟩:=yI x;have hl:=r.length;have hn:=jo
 have c:Inv X pins σ (upd H p (.lst (xs.set j v))) {s with heap:=s.heap.update p (Ol (·.setIfInBounds j u))}:=
  I.HF d a (vV its n j u) (r.set l j) (by rw[List.length_set];exact g) s.toks
 by_cases h0:0<=k
 ·have b:k.toNat=j:=by
   rw[Ui h0 e]at h1;exact Kf h1
  exact PySem.W.ki_setAt a h0 (by lia) (by rw[B8,<-hl];exact e) (by rw[b];exact⟨_,c,q⟩)
 ·have b:(k+(its.toArray.size:Int)).toNat=j:=by
   rw[TF (by lia) f]at h1;rw[B8,<-hl];exact Kf h1
  exact PySem.W.ki_setBack a (by lia) (by rw[B8,<-hl];exact f) (by lia) (by rw[b];exact⟨_,c,q⟩)
theorem rP(lo hi:Option Int)(n:Nat):(QA lo hi none n).1=((HT.cZ n 0 lo:Nat):Int)/\(QA lo hi none n).2.1=((HT.cZ n n hi:Nat):Int)/\(QA lo hi none n).2.2=1:=by
 refine⟨?_,?_,rfl⟩
 ·cases lo with
  |none=>simp[QA,HT.cZ]
  |some i=>
   simp only[QA,HT.cZ,Vf,show(1:Int)>0 by decide,if_true];by_cases h:i<0
   ·simp only[h,if_true]<;>lia
   ·simp only[h,if_false]<;>lia
 ·cases hi with
  |none=>simp[QA,HT.cZ]
  |some i=>
   simp only[QA,HT.cZ,Vf,show(1:Int)>0 by decide,if_true];by_cases h:i<0
   ·simp only[h,if_true]<;>lia
   ·simp only[h,if_false]<;>lia
theorem pf(its:List B5)(lo hi:Option Int):slicePick its.toArray lo hi none=((its.drop (HT.cZ its.length 0 lo)).take (HT.cZ its.length its.length hi-HT.cZ its.length 0 lo)).toArray:=by
 obtain⟨h1,h2,a⟩:=rP lo hi its.toArray.size;unfold slicePick;rw[h1,h2,a];simp only[sliceRange_one,pick_run,B8]<;>rfl
inductive KZ(K:mo)(x:V)(lo:Option Int)(hi:Option Int)(H:Hp)(Q:VK):Prop
 |mk (a:_) (xs:_) (c0:x= .ref a) (c1:bf K H a xs) (c2:∀p,H p=none->Q (.ref p) (upd H p (.lst (hY xs lo hi))))
def Lh(K:mo):V->Option Int->Option Int->Hp->VK->Prop:=λx lo hi H Q=>KZ K x lo hi H Q
theorem sf:Kl X (Lh X.K):=by
 intro pins s σ H x v vl vu lo hi sl Q I g i pl e h;obtain⟨a,xs,rfl,hx,q⟩:=h
 cases g
 obtain⟨its,r,d,f⟩:=I.list hx;have c:=r.length;refine⟨"list",_,slot_list_getitem.lookup,d.isList.typeIs,?_⟩;refine wpAny_getItem_list_slice d.isList i pl e .none (by simp) ?_ (by rw[B8]<;>lia);rw[pf,<-c];refine⟨.ref s.heap.objs.size,_,I.laid (t':=s.toks) (o:= .lst (hY xs lo hi)) (λb j q=>B4 _ q) (B2 _) ?_,rfl,q _ (I.hok.fresh (B2 _))⟩;exact⟨NW (lF xs lo hi) f,_,0,(r.drop (HT.cZ xs.length 0 lo)).take (HT.cZ xs.length xs.length hi-HT.cZ xs.length 0 lo),KM _ rfl⟩
noncomputable def eB:V->Bool
 | .non=>true
 | .bl _=>true
 | .int _=>true
 | .str _=>true
 |_=>false
noncomputable def vB:V->V->Bool
 | .non,.non=>true
 | .bl a,.bl b=>a==b
 | .bl a,.int b=>(if a then 1 else 0)==b
 | .int a,.bl b=>a==(if b then 1 else 0)
 | .int a,.int b=>a==b
 | .str a,.str b=>a==b
 |_,_=>false
theorem vH(d:RelV y u)(c:RelV x v)(fy:eB y=true)(fx:eB x=true):SN A s u v (vB y x):=by
 cases y with
 |non=>
  cases d
  cases x with
  |non=>cases c;exact SeqAt.EqAt.same _
  |bl b=>cases c;exact SeqAt.EqAt.none_bool b
  |int b=>obtain⟨t,rfl⟩:=c;exact SeqAt.EqAt.none_int b t
  |str b=>obtain⟨t,rfl⟩:=c;exact SeqAt.EqAt.none_str b t
  |_=>exact absurd (show false=true from fx) FS
 |bl a=>
  cases d
  cases x with
  |non=>cases c;exact SeqAt.EqAt.bool_none a
  |bl b=>cases c;exact SeqAt.EqAt.bool_bool a b
  |int b=>obtain⟨t,rfl⟩:=c;exact SeqAt.EqAt.bool_int a b t
  |str b=>obtain⟨t,rfl⟩:=c;exact SeqAt.EqAt.bool_str a b t
  |_=>exact absurd (show false=true from fx) FS
 |int a=>
  obtain⟨t',rfl⟩:=d
  cases x with
  |non=>cases c;exact SeqAt.EqAt.int_none a t'
  |bl b=>cases c;exact SeqAt.EqAt.int_bool a t' b
  |int b=>obtain⟨t,rfl⟩:=c;exact SeqAt.EqAt.int_int a t' b t
  |str b=>obtain⟨t,rfl⟩:=c;exact UH a t' b t
  |_=>exact absurd (show false=true from fx) FS
 |str a=>
  obtain⟨t',rfl⟩:=d
  cases x with
  |non=>cases c;exact SeqAt.EqAt.str_none a t'
  |bl b=>cases c;exact SeqAt.EqAt.str_bool a t' b
  |int b=>obtain⟨t,rfl⟩:=c;exact UG a t' b t
  |str b=>obtain⟨t,rfl⟩:=c;exact SeqAt.EqAt.str_str a t' b t
  |_=>exact absurd (show false=true from fx) FS
 |_=>exact absurd (show false=true from fy) FS
noncomputable def xf(x:V)(u:B5):Bool:=match u with
 | .none=>vB .non x
 | .bool b=>vB (.bl b) x
 | .int i _=>vB (.int i) x
 | .str z _=>vB (.str z) x
 |_=>false
theorem Df(r:RelV y u)(f:eB y=true):xf x u=vB y x:=by
 cases y with
 |non=>cases r;rfl
 |bl b=>cases r;rfl
 |int i=>obtain⟨t,rfl⟩:=r;rfl
 |str z=>obtain⟨t,rfl⟩:=r;rfl
 |_=>exact absurd (show false=true from f) FS
theorem jI:∀{xs:List V}{us:List B5},Vals xs us->xs.all eB=true->us.any (xf x)=xs.any λy=>vB y x
 |_,_,.nil,_=>rfl
 |y::xs,u::us,.cons r t,f=>by
  rw[Qy,Oi]at f;rw[Qx,Qx,Df r f.1,jI t f.2]
theorem hJ(a:RelV x v)(fx:eB x=true):∀{xs:List V}{us:List B5},Vals xs us->xs.all eB=true->∀u∈us,SN A s u v (xf x u)
 |_,_,.nil,_=>λu hu=>by cases hu
 |y::xs,u::us,.cons r t,f=>λb hu=>by
  rw[Qy,Oi]at f
  rcases List.mem_cons.mp hu with rfl|hu
  ·rw[Df r f.1];exact vH r a f.1 fx
  ·exact hJ a fx t f.2 b hu
noncomputable def gu(x:V)(xs:List V):Bool:=xs.any λy=>vB y x
inductive tY(K:mo)(a:Bool)(x:V)(y:V)(H:Hp)(Q:VK):Prop|mk(p xs:_)(_:y= .ref p)(_:bf K H p xs∨ba K H p xs)(_:eB x=true)(_:xs.all eB=true)(_:Q (.bl (if a then !gu x xs else gu x xs)) H)
theorem cf:ir X (Os .In) (tY X.K false):=by
 intro pins s σ H x y v u Q I b d h;obtain⟨p,xs,rfl,hq,fx,fs,q⟩:=h
 cases d
 rcases hq with hq|hq
 ·obtain⟨its,r,pl,c⟩:=I.list hq;refine SeqAt.in_listAt (xf x) pl.isList (λw a=>hJ b fx r fs w (by simpa using a)) ⟨.bl _,H,I,rfl,?_⟩;rw[show its.toArray.any (xf x)=its.any (xf x)by simp,jI r fs];exact q
 ·obtain⟨its,r,pl,c⟩:=I.tuple hq;refine SeqAt.in_tupleAt (xf x) pl (λw a=>hJ b fx r fs w (by simpa using a)) ⟨.bl _,H,I,rfl,?_⟩;rw[show its.toArray.any (xf x)=its.any (xf x)by simp,jI r fs];exact q
theorem rY:ir X (Os .NotIn) (tY X.K true):=by
 intro pins s σ H x y v u Q I b d h;obtain⟨p,xs,rfl,hq,fx,fs,q⟩:=h
 cases d
 rcases hq with hq|hq
 ·obtain⟨its,r,pl,c⟩:=I.list hq;refine SeqAt.notIn_listAt (xf x) pl.isList (λw a=>hJ b fx r fs w (by simpa using a)) ⟨.bl _,H,I,rfl,?_⟩;rw[show its.toArray.any (xf x)=its.any (xf x)by simp,jI r fs];exact q
 ·obtain⟨its,r,pl,c⟩:=I.tuple hq;refine SeqAt.notIn_tupleAt (xf x) pl (λw a=>hJ b fx r fs w (by simpa using a)) ⟨.bl _,H,I,rfl,?_⟩;rw[show its.toArray.any (xf x)=its.any (xf x)by simp,jI r fs];exact q
inductive qyL(K:mo)(xs:List V)(H:Hp)(Q:VK):Prop|mk(p ys:_)(_:xs=[.ref p])(_:bf K H p ys∨ba K H p ys)(_:Q (.int ys.length) H)
theorem bq:dv X (.builtin "len") (qyL X.K):=by
 intro pins s σ H xs us Q I r h;obtain⟨p,ys,rfl,hq,q⟩:=h;obtain⟨u,rfl,c⟩:=vals1 r
 cases c
 have hn:=jo
 rcases hq with hq|hq
 ·obtain⟨its,r',pl,b⟩:=I.list hq;have a:=r'.length;exact Calls.call_len_list pl.isList (by simp only[B8]<;>lia) ⟨.int ys.length,H,I.tok _,⟨s.toks+1,by rw[B8,a]⟩,q⟩
 ·obtain⟨its,r',pl,b⟩:=I.tuple hq;have a:=r'.length;exact len_tuple pl (by simp only[B8]<;>lia) ⟨.int ys.length,H,I.tok _,⟨s.toks+1,by rw[B8,a]⟩,q⟩
inductive qyF(xs:List V)(H:Hp)(Q:VK):Prop|mk(z:_)(_:xs=[.str z])(_:z.length<=sizeLine)(_:Q (.int z.length) H)
theorem cO:dv X (.builtin "len") qyF:=by
 intro pins s σ H xs us Q I r h;obtain⟨z,rfl,a,q⟩:=h;obtain⟨u,rfl,t,rfl⟩:=vals1 r;have hn:=jo;exact len_str (by lia) ⟨.int z.length,H,I.tok _,⟨_,rfl⟩,q⟩
inductive qyJ(K:mo)(xs:List V)(H:Hp)(Q:VK):Prop|mk(p ys:_)(_:xs=[.ref p])(_:bf K H p ys∨ba K H p ys)(_:∀l,H l=none->Q (.ref l) (upd H l (.lst ys)))
theorem jA:dv X (.type "list") (qyJ X.K):=by
 intro pins s σ H xs us Q I r h;obtain⟨p,ys,rfl,hq,q⟩:=h;obtain⟨u,rfl,j⟩:=vals1 r
 cases j
 have d:∀(its:List B5),Vals ys its->ys.length<=sizeLine->∀(h':ON)(a:Nat),(∀b o',s.heap.get? b=some o'->h'.get? b=some o')->
   h'.get? s.heap.objs.size=some {cls:= .type "list",dict:=none,data:= .seq its.toArray a,slots:=#[]}->EP X pins σ Q (.ref s.heap.objs.size) {s with heap:=h'}:=λits r' c h' a kp e=>
  ⟨.ref s.heap.objs.size,_,I.laid (t':=s.toks) kp (B2 _) (show cj X.prog X.w _ h' _ (.lst ys)from⟨c,its,a,r',e⟩),rfl,q _ (I.hok.fresh (B2 _))⟩
 rcases hq with hq|hq
 ·obtain⟨its,r',pl,c⟩:=I.list hq;have f:=r'.length;obtain⟨o,g,i,n,hd⟩:=pl.isList;exact call_list_seq p (.inl rfl) g i hd (λh' a kp e=>d its r' c h' a kp e) (by simp only[B8]<;>lia)
 ·obtain⟨its,r',pl,c⟩:=I.tuple hq;have f:=r'.length;obtain⟨o,g,i,n,hd⟩:=pl;exact call_list_seq p (.inr rfl) g i hd (λh' a kp e=>d its r' c h' a kp e) (by simp only[B8]<;>lia)
inductive qyT(K:mo)(xs:List V)(H:Hp)(Q:VK):Prop|mk(p ys:_)(_:xs=[.ref p])(_:(bf K H p ys/\∀l,H l=none->Q (.ref l) (upd H l (.tup ys)))∨(ba K H p ys/\Q (.ref p) H))
theorem a_:dv X (.type "tuple") (qyT X.K):=by
 intro pins s σ H xs us Q I r h;obtain⟨p,ys,rfl,h⟩:=h;obtain⟨u,rfl,i⟩:=vals1 r
 cases i
 rcases h with⟨a,q⟩|⟨a,q⟩
 ·obtain⟨its,r',pl,c⟩:=I.list a;have f:=r'.length;refine call_tuple_list pl.isList (λh' kp=>?_) (by simp only[B8]<;>lia);have d:Inv X pins σ H {s with heap:=h'}:=I.kept (t':=s.toks) kp
  have g:Inv X pins σ (upd H h'.objs.size (.tup ys)) {s with heap:=h'.push {cls:= .type "tuple",data:= .seq its.toArray}}:=
   d.laid (t':=s.toks) (λb o e=>B4 _ e) (B2 _) (show cj X.prog X.w _ _ _ (.tup ys)from⟨c,its,r',Tu _ _⟩)
  exact⟨.ref h'.objs.size,_,g,rfl,q _ (d.hok.fresh (B2 _))⟩
 ·obtain⟨its,r',pl,c⟩:=I.tuple a;exact call_tuple_same pl ⟨.ref p,H,I,rfl,q⟩
def Mi(K:mo)(T:String)(x:V)(H:Hp):Prop:=match x with
 | .str _=>T="str"
 | .int _=>T="int"
 | .ref p=>(T="list"/\∃xs,bf K H p xs)∨(T="tuple"/\∃o,K.lookup p=some o/\o.cls= .type "tuple"/\o.dict=none)∨
   (T="dict"/\((∃kvs,H p=some (.dK kvs))∨∃kvs,H p=some (.dT kvs)))∨(T="set"/\∃S n,H p=some (.set S n))
 |_=>False
theorem CC(I:Inv X pins σ H s)(r:RelV x v)(ty:Mi X.K T x H):
  s.TypeIs v T/\∀a,v= .ref a->∃f,s.heap.get? a=some f/\f.dict=none:=by
 cases x with
 |str z=>
  obtain⟨t,rfl⟩:=r
  cases(show T="str"from ty)
  exact⟨Qf s z t,λ_ e=>nomatch e⟩
 |int i=>
  obtain⟨t,rfl⟩:=r
  cases(show T="int"from ty)
  exact⟨typeIs_int s i t,λ_ e=>nomatch e⟩
 |ref p=>
  cases r
  rcases ty with⟨rfl,xs,h⟩|⟨rfl,o,b,g,hd⟩|⟨rfl,b⟩|⟨rfl,S,n,b⟩
  ·obtain⟨its,_,pl,_⟩:=I.list h;refine⟨pl.isList.typeIs,λa e=>?_⟩
   cases e
   obtain⟨o,n,e,c,hd,_⟩:=pl;exact⟨o,e,hd⟩
  ·refine⟨⟨o,I.lJ p o b,g⟩,λa e=>?_⟩
   cases e
   exact⟨o,I.lJ _ o b,hd⟩
  ·have z:∃o,s.heap.get? p=some o/\o.ExactDict:=by
    rcases b with⟨kvs,b⟩|⟨kvs,b⟩
    ·obtain⟨_,_,_,_,o,_,_,e,ex,_⟩:=I.hok p _ b;exact⟨o,e,ex⟩
    ·obtain⟨_,_,_,_,o,_,_,e,ex,_⟩:=I.hok p _ b;exact⟨o,e,ex⟩
   obtain⟨o,e,ex⟩:=z;refine⟨⟨o,e,ex.1⟩,λa d=>?_⟩
   cases d
   exact⟨o,e,ex.2.1⟩
  ·obtain⟨o,_,_,_,e,ex,_⟩:=I.hok p _ b;refine⟨⟨o,e,ex.1⟩,λa d=>?_⟩
   cases d
   exact⟨o,e,ex.2.1⟩
 |_=>exact Pe ty
def Ma(K:mo)(T:String)(r:V->List V->Hp->VK->Prop)(to:TE):TE:=λσ H Q=>to σ H λx H1=>Mi K T x H1/\r x [] H1 Q
def Mx(K:mo)(T:String)(r:V->List V->Hp->VK->Prop)(to:TE)(t:TA):TE:=λσ H Q=>to σ H λx H1=>Mi K T x H1/\t σ H1 λxs H2=>r x xs H2 Q
variable{o:Expr}{es:List Expr}{to:TE}{t:TA}{name:Str}{apos cpos:Pos}{id:String}{r:V->List V->Hp->VK->Prop}
theorem BF(pa:UK T)(slot:Vd T name id)(d:typeOf (.builtin id)=pure (.type "method_descriptor"))(hm:LA X id r)(i:PE X o to)(b:P5 o name X.env (OI o X.env)=OI o X.env:=by rfl)(a:(apos.endLine==cpos.line)=true:=by rfl):PE X (.Call (.Attribute o name apos) [] [] cpos) (Ma X.K T r to):=by
 intro pins s σ H Q I h;refine wpAny_Call_method0_late b a (bS (i pins s σ H _ I h) λv s1 c=>?_);obtain⟨x,H1,f,e,ty,g⟩:=c;obtain⟨h1,h2⟩:=CC f e ty;exact⟨T,id,pa,slot,d,h1,h2,Qq rfl (PySem.evalArgs_none (hm pins s1 σ H1 x [] v [] Q f e .nil g))⟩
theorem cw(pa:UK T)(slot:Vd T name id)(g:typeOf (.builtin id)=pure (.type "method_descriptor"))(hm:LA X id r)(n:PE X o to)(ha:PA X (e::es) t)(c:P5 o name X.env (OI o X.env)=OI o X.env:=by rfl)(d:((Pr cpos (Nx (e::es) X.env)).all (λx=> !x.1)&&(PH cpos (OP [] X.env)).all (λx=>x.1.isSome)
   &&decide ((e::es).length+([]:List Q2).length+(if([]:List Q2).isEmpty then 0 else 1)<30))=true:=by rfl)(b:(apos.endLine==cpos.line)=true:=by rfl)(q:Nx (e::es) X.env=(false,OI e X.env)::Nx es X.env:=by rfl)(a:(Pr cpos (Nx es X.env)).any (·.1)=false:=by rfl):
  PE X (.Call (.Attribute o name apos) (e::es) [] cpos) (Mx X.K T r to t):=by
 intro pins s σ H Q I h;refine wpAny_Call_method_late c d b rfl (bS (n pins s σ H _ I h) λv s1 f=>?_);obtain⟨x,H1,j,i,ty,k⟩:=f;obtain⟨h1,h2⟩:=CC j i ty;refine⟨T,id,pa,slot,g,h1,h2,?_⟩;have hA:=ha cpos pins s1 σ H1 _ j k;rw[q]at hA⊢;refine Qq (by show(false||(Pr cpos (Nx es X.env)).any (·.1))=false;rw[a]<;>rfl) (Ur ?_);exact bS hA λus s2 ⟨vs,H2,m,l,p⟩=>hm pins s2 σ H2 x vs v us Q m i l p
end
def AF(X:Cx)(id:String)(r:V->List V->Hp->VK->Prop):Prop:=
 ∀(pins:List (B3×Obj))(s:Gc)(σ:St)(H:Hp)(x:V)(xs:List V)(v:B5)(us:List B5)(Q:VK),Inv X pins σ H s->RelV x v->Vals xs us->r x xs H Q->
  GT (Nk X.prog X.w) X.A (call (.builtin id) (v::us)) (EP X pins σ Q) X.xe s
theorem Vals.one(h:Vals [x] us):∃u,us=[u]/\RelV x u:=by
 cases h with
 |cons r t=>cases t;exact⟨_,rfl,r⟩
theorem Vals.two(h:Vals [x,y] us):∃u v,us=[u,v]/\RelV x u/\RelV y v:=by
 cases h with
 |cons r t=>
  obtain⟨v,rfl,q⟩:=Vals.one t;exact⟨_,_,rfl,r,q⟩
theorem Vals.zero:∀{us:List B5},Vals [] us->us=[]
 |_,.nil=>rfl
theorem Vals.dropLast(h:Vals xs us):Vals xs.dropLast us.dropLast:=by
 induction h with
 |nil=>exact .nil
 |cons r t a=>
  cases t with
  |nil=>exact .nil
  |cons q t'=>exact .cons r a
theorem Vals.reverse(h:Vals xs us):Vals xs.reverse us.reverse:=by
 induction h with
 |nil=>exact .nil
 |cons r t a=>rw[Qn,Qn];exact Vals.append a (.cons r .nil)
theorem vW{α:Type}(l:List α):l.eraseIdx (l.length-1)=l.dropLast:=by
 induction l with
 |nil=>rfl
 |cons a r c=>
  cases r with
  |nil=>rfl
  |cons b r=>
   have e:(a::b::r).length-1=((b::r).length-1)+1:=by
    have h1:(a::b::r).length=r.length+2:=rfl;have h2:(b::r).length=r.length+1:=rfl
    lia
   rw[e,List.eraseIdx_cons_succ,c]
   all_goals rfl
section
variable{l b:B3}{zs:List V}
theorem Inv.Hi{f:Array B5->Array B5}(I:Inv X pins σ H s)(b:H l=some (.lst xs))(e:s.heap.get? l=some {cls:= .type "list",data:= .seq its.toArray n})(c:f its.toArray=its'.toArray)(a:Vals ys its')(hz:ys.length<=sizeLine):
  Inv X pins σ (upd H l (.lst ys)) {s with heap:=s.heap.update l (Ol f),toks:=t'}:=by
 have q:=PySem.IsL.update e f;rw[c]at q;refine I.write (x:=l) (e:=l) (by rw[b];exact trivial) (.inl rfl) (λh u g d=>(NM s.heap (Ol f) (B9 g)).trans d) ⟨_,q⟩ ?_;exact⟨hz,its',_,a,q⟩
theorem Inv.Mg(I:Inv X pins σ H s)(a:Vals ys its)(hz:ys.length<=sizeLine):
  Inv X pins σ (upd H s.heap.objs.size (.lst ys)) {s with heap:=s.heap.push {cls:= .type "list",data:= .seq its.toArray},toks:=t'}:=
 I.laid (λ_ _ q=>B4 _ q) (B2 _) ⟨hz,its,0,a,KM _ rfl⟩
theorem Inv.fresh(I:Inv X pins σ H s):H s.heap.objs.size=none:=I.hok.fresh (B2 _)
theorem Inv.El(I:Inv X pins σ H s)(a:H l=some (.lst xs)):xs.length<=sizeLine/\∃(its:List B5)(n:Nat),Vals xs its/\xs.length=its.length/\s.heap.get? l=some {cls:= .type "list",data:= .seq its.toArray n}:=by
 obtain⟨z,its,n,r,e⟩:=I.hok l _ a;exact⟨z,its,n,r,r.length,e⟩
theorem A3(h:n<=sizeLine):P7 n=false:=by
 unfold P7;exact decide_eq_false (by lia)
end
inductive BP(x:V)(vs:List V)(H:Hp)(Q:VK):Prop
 |mk (l:_) (xs:_) (y:_) (c0:x= .ref l) (c1:vs=[y]) (c2:H l=some (.lst xs)) (c3:xs.length<sizeLine) (c4:Q .non (upd H l (.lst (xs++[y]))))
def Et:V->List V->Hp->VK->Prop:=λx vs H Q=>BP x vs H Q
theorem cR:AF X "list.append" Et:=by
 intro pins s σ H x vs v us Q I c b h;obtain⟨l,xs,y,rfl,rfl,a,f,q⟩:=h
 cases c
 obtain⟨u,rfl,d⟩:=b.one;obtain⟨z,its,n,r,hl,e⟩:=I.El a;refine Qg F.slot_list_append ⟨_,e,rfl⟩ F.entry_list_append (F.args_list_append_2 _ _) (PySem.list_append l its.toArray n u (by rw[B8];lia)) ⟨e,?_⟩;refine⟨.non,_,I.Hi (its':=its++[u]) a e (by simp) (r.append (.cons d .nil)) ?_,rfl,q⟩;rw[B1,Ue]
 lia
inductive FP(x:V)(vs:List V)(H:Hp)(Q:VK):Prop|mk(l b xs zs:_)(_:x= .ref l)(_:vs=[.ref b])(_:H l=some (.lst xs))(_:H b=some (.lst zs))(_:xs.length+zs.length<=sizeLine)(_:Q .non (upd H l (.lst (xs++zs))))
theorem pG:AF X "list.extend" FP:=by
 intro pins s σ H x vs v us Q I i g h;obtain⟨l,b,xs,zs,rfl,rfl,f,hB,w,q⟩:=h
 cases i
 obtain⟨u,rfl,k⟩:=g.one
 cases k
 obtain⟨z,its,n,r,hl,e⟩:=I.El f;obtain⟨t,a,j,p,o,m⟩:=I.El hB
 have d:its.toArray.size+a.toArray.size<=sizeLine:=by rw[B8,B8];lia
 have c:¬(!its.toArray.isEmpty&&P7 (its.toArray.size+a.toArray.size))=true:=by
  rw[A3 d,Bool.and_false];exact FS
 refine Qg F.slot_list_extend ⟨_,e,rfl⟩ F.entry_list_extend (F.args_list_extend_2 _ _)
  (AutoSeq1.list_extend_list_list_0 l its.toArray n b a.toArray j c (by rw[B8];lia) (by lia)) ⟨e,m,?_⟩
 refine⟨.non,_,I.Hi (its':=its++a) f e (by simp) (r.append p) ?_,rfl,q⟩;rw[B1]
 lia
inductive LR(x:V)(vs:List V)(H:Hp)(Q:VK):Prop|mk(l xs y:_)(_:x= .ref l)(_:vs=[])(_:H l=some (.lst xs))(_:xs[xs.length-1]? =some y)(_:Q y (upd H l (.lst xs.dropLast)))
theorem CK:AF X "list.pop" LR:=by
 intro pins s σ H x vs v us Q I i f h;obtain⟨l,xs,y,rfl,rfl,c,g,q⟩:=h
 cases i
 have b:=f.zero;subst b;obtain⟨z,its,n,r,hl,e⟩:=I.El c;obtain⟨u,d,j⟩:=r.get g
 have a:its.toArray[its.toArray.size-1]? =some u:=by
  show its.toArray[its.length-1]? =some u;rw[<-Pi,<-hl];exact d
 refine Qg F.slot_list_pop ⟨_,e,rfl⟩ F.entry_list_pop (F.args_list_pop_1 _) (MeetsSeq.list_pop_last l its.toArray n u a (by rw[B8];lia)) ⟨e,?_⟩;refine⟨y,_,I.Hi (its':=its.dropLast) c e ?_ r.dropLast ?_,j,q⟩
 ·show its.toArray.eraseIdxIfInBounds (its.toArray.size-1)=its.dropLast.toArray;rw[B8,List.eraseIdxIfInBounds_toArray,vW]
 ·rw[Up]
  lia
end L2
namespace Att
open PySem PySem.W PySem.Calls PyProof.Rows
variable{P:Params}{h:ON}{l:OpenLaw}{n:Nat}
theorem lP:∀(ns:List Int)(vs:List B5),WellAll P h vs (ns.map WData.int)->SG vs ns:=by
 intro ns
 induction ns with
 |nil=>
  intro vs w;rw[QL]at w
  cases w
  exact .nil
 |cons n ns c=>
  intro vs w;rw[Nq]at w
  cases w with
  |cons a b=>
   cases a
   exact .cons _ _ (c _ b)
theorem zZ(hn:l.most=some n){args:List WData}{b:List B5}(c:l.row.toRowW.claim.pre args=true)(k:WellAll P h b args):
  ∃a vs ns,b=[KB a]/\args=[WData.list (ns.map WData.int)]/\h.get? a=some {cls:= .type "list",data:= .seq vs.toArray}/\SG vs ns/\ns.length<=n:=by
 have j:WShape.hasAll [] args [.list .int]=true:=(pre_splitW c).1;have m:l.pre.holds [] {args:=args}=true:=(pre_splitW c).2;obtain⟨d,r,rfl,h1,h2⟩:=hasAllW_cons j;obtain rfl:=hasAllW_nil h2;obtain⟨xs,rfl,o⟩:=hasW_list h1;obtain⟨ns,rfl⟩:=items_int o
 have e:ns.length<=n:=by
  unfold OpenLaw.pre at m
  have g:(WTm.not (.lt (.lit (.int (n:Int))) (.len (.arg 0)))).holds [] {args:=[.list (ns.map .int)]}=true:=by
   have g:=(holds_andW m).1;rw[hn]at g;exact g
  have i:=condW_of g (w_not (w_lt w_lit (w_len_list (w_arg rfl))));rw[be]at i;refine Nat.le_of_not_lt λq=>?_
  have s:(n:Int)<((ns.length:Nat):Int):=by lia
  first
   |(rw[decide_eq_true s]at i;exact absurd i (by decide))
   |(simp at i;lia)
 cases k with
 |cons w1 w2=>
  cases w2
  cases w1 with
  |list p f=>exact⟨_,_,ns,rfl,rfl,p,lP ns _ f,e⟩
theorem Am(l:OpenLaw)(args:List WData):l.row.toRowW.claim.post args (.bool true) args=true:=
 postW_of (r:=l.row.toRowW) (X:=(true==true))
  (show WShape.has [] (.bool true) .bool=true by first|rfl|decide|simp[WShape.has,WShape.arms,WShape.armsAll])
  (show(WTm.eq .res (.lit (.bool true))).value [] {args:=args,res:=some (.bool true),after:=args}=some (.bool (true==true))from w_eq_bool (w_res rfl) w_lit) rfl
theorem tF{q:Og}{c:List Str}{u:(Str->Option B5)->ON->Prop}{x:Ox->ON->Prop}{d:DefRec}(hn:l.most=some n)(s:d.params.defaults=[])(call:∀(w:Ox)(s₀ b:Gc)(mg mb:Str->Option B5)(h:B3)(o:Obj)(pm k doc:B5)(a:B3)(vs:List B5)(ns:List Int),
   Ground q c [] u w s₀ mg mb b.heap->x w b.heap->
   b.heap.get? h=some o->o.data= .func (docDef d.name d.params d.body d.scope pm k doc)->b.heap.CodeRec k d.name->mg d.name=some (.ref h)->
   b.heap.get? a=some {cls:= .type "list",data:= .seq vs.toArray}->SG vs ns->ns.length<=n->b.gens=#[]->
   Px (Nk l.prog w) R6 (.call (.ref h) ⟨[.ref a],[]⟩) (λr s'=>r= .ok (.ret (.bool true))/\OldK b.heap s'.heap/\s'.os=b.os/\Rv s'.gens) b):
  WalkO q c u x l.row.toRowW d [] (λf vs=>UI f vs):=by
 intro w s₀ b mg mb G Y h o pm k doc D kV B hd m y p A args v as i z H t I;obtain rfl:D= .none:=Dflts.none y s;obtain rfl:kV= .none:=Dflts.noKw y;obtain⟨a,vs,ns,rfl,rfl,g,e,j⟩:=zZ hn i t;refine enter_call (R5 (call w s₀ b mg mb h o pm k doc a vs ns G Y B (fd_plain hd) m p g e j A) λr s' F=>?_);obtain⟨rfl,h2,E,C⟩:=F;exact⟨.inl ⟨.bool true,.bool true,[],rfl,λ_=>rfl,.bool true,Am l _,λ_=>⟨List.Pairwise.nil,λ_ hm=>(nomatch hm)⟩⟩,h2,E,C⟩
end Att
namespace L2
open PySem PySem.Spec PyProof.Rows
theorem qq:∀{vs:List B5}{ns:List Int},SG vs ns->Vals (ns.map V.int) vs
 |_,_,.nil=> .nil
 |_,_,.cons n t h=> .cons ⟨t,rfl⟩ (qq h)
def I_(H:Hp):Prop:=∀b,H b=none∨∃o xs,H b=some (.frz o (.lst xs))
variable{K:mo}{P prog:Og}{a f l:B3}{fd:O4}{mg:Str->Option B5}{sp:Sp}{w:Ox}{x qual:Str}{n:Nat}{X:Cx}{N ps:List Str}{pos:Pos}{H H':Hp}{xs:List V}{env:Env}{scope:Qs}{A:PR}{s:Gc}
theorem Dy{mb:Str->Option B5}{CX:Ga}{k:Nat}{I:B3}{c:Gc}{vs:List B5}{ns:List Int}(O:K.In c.heap)(y:c.heap.Ns Nr mg)(g:c.heap.Ns UC mb)(J:∀x:Str,x≠"__name__"->mb x=O5 x)(p:c.heap.NoLimit)(S:c.gens=#[])(ha:c.heap.get? a=some {cls:= .type "list",data:= .seq vs.toArray})(hi:SG vs ns)(hl:ns.length<=sizeLine)(Z:eS k R6)(F:∀base:ON,K.In base->base.Ns Nr mg->av P w K mg base CX k I fd [x] sp)(l:∀(s:Gc)(u:B5),SJ s fd ⟨[u],[]⟩ [(x,u)])(D:∀H:Hp,I_ H->bf K H a (ns.map V.int)->sp [.ref a] H (λv _=>v= .bl true) λ_ _ _=>False)(C:∀H e s',CX [] H c (λ_ _ _=>False) e s'->False):
  Px (Nk P w) R6 (.call (.ref I) ⟨[.ref a],[]⟩) (λr s'=>r= .ok (.ret (.bool true))/\OldK c.heap s'.heap/\s'.os=c.os/\Rv s'.gens) c:=by
 have M:=qq hi;have B:=hi.length
 have j:∀H:Hp,I_ H->bf K H a (ns.map V.int)->ju P w H c.heap->(∀b,H b≠none->b=a)->(H a≠none->K.lookup a=none)->
   Px (Nk P w) R6 (.call (.ref I) ⟨[.ref a],[]⟩) (λr s'=>r= .ok (.ret (.bool true))/\OldK c.heap s'.heap/\s'.os=c.os/\Rv s'.gens) c:=by
  intro H N Y hok hA T;have f:∀{b:B3}{o:Obj},c.heap.get? b=some o->H b=none->(rN c.heap H).get? b=some o:=λe n=>Bp e n
  have E:∀{b:B3}{o:Obj}{es:Array Sl}{ep:Nat},c.heap.get? b=some o->o.data= .dict es ep->H b=none:=λ{b o es ep} e d=>by
   cases q:H b with
   |none=>rfl
   |some u=>
    have G:b=a:=hA b (by rw[q];simp);subst G;rw[ha]at e;cases e;have d':Data.seq vs.toArray _=Data.dict es ep:=d
    cases d'
  have i:∀{b:B3}{m:Str->Option B5},c.heap.Ns b m->(rN c.heap H).Ns b m:=λ{b m} ⟨o,es,ep,e,d,r⟩=>⟨o,es,ep,f e (E e d),d,r⟩
  have t:K.In (rN c.heap H):=λb o e=>f (O b o e) (by
   cases q:H b with
   |none=>rfl
   |some u=>
    have G:b=a:=hA b (by rw[q];simp);subst G
    rw[T (by rw[q];simp)]at e;cases e)
  have W:Mod K mg (rN c.heap H):=⟨t,i y,⟨mb,i g,J⟩,let⟨mc,h1,h2⟩:=p;⟨mc,i h1,h2⟩⟩;have U:wB P w K mg (rN c.heap H) R6 [] c H:=⟨rfl,W,λb o e=>D3 e,Nat.le_of_eq (Ak _ _),trivial,λb g=>absurd (show b∈([]:List B3)from g) (by simp),hok,.of_eq S⟩;refine R5 ((F _ t (i y)).run R6 [] c H ⟨[.ref a],[]⟩ [.ref a] [.ref a] _ _ Z U (l c (.ref a)) (.cons rfl .nil) (D H N Y)) λr s' h=>?_
  cases r with
  |error e=>exact(C H e s' h).elim
  |ok fl=>
   cases fl with
   |next=>exact Pe h
   |brk=>exact Pe h
   |cont=>exact Pe h
   |ret u=>
    obtain⟨v,H',os,bare,un,A,r',q⟩:=h;have X:v= .bl true:=q;subst X;obtain rfl:u=Rp true:=r';refine⟨rfl,OldK.of_keep λb o e=>?_,os,bare⟩
    cases q:H b with
    |none=>exact un.keep b o e q (by intro z;exact absurd (show b∈([]:List B3)from z) (by simp)) (by simp)
    |some u=>
     rcases N b with z|⟨ob,xs,z⟩
     ·rw[q]at z;cases z
     ·have R:=un.frzs b ob _ z;obtain⟨Q,_⟩:=hok b _ z;obtain⟨e2,_⟩:=A b _ R;rw[e]at Q;cases Q;exact e2
 cases L:K.lookup a with
 |some o=>
  have e:=O a o L;rw[ha]at e
  cases e
  refine j (λ_=>none) (λ_=> .inl rfl) (.inr ⟨_,vs.toArray,_,L,rfl,rfl,rfl,by rw[B8,B];exact hl,by simpa using M⟩) (λb u z=>by have z':(none:Option HO)=some u:=z;cases z') (λb z=>absurd rfl z) λz=>absurd rfl z
 |none=>
  refine j (λb=>if b=a then some (.frz {cls:= .type "list",data:= .seq vs.toArray} (.lst (ns.map V.int)))else none) (λb=>?_) (.inl (.inr ⟨{cls:= .type "list",data:= .seq vs.toArray},if_pos rfl⟩)) (λb u z=>?_) (λb z=>?_) λ_=>L
  ·by_cases g:b=a
   ·exact .inr ⟨_,_,if_pos g⟩
   ·exact .inl (if_neg g)
  ·by_cases g:b=a
   ·have z':=(if_pos g).symm.trans z
    cases z'
    subst g;exact⟨ha,by rw[be];exact hl,vs,_,M,ha⟩
   ·have z':=(if_neg g).symm.trans z
    cases z'
  ·by_cases g:b=a
   ·exact g
   ·exact absurd (if_neg g) z
theorem Ea{l:Ss}{k:Nat}{q:Og}{i:List Str}{I:(Str->Option B5)->ON->Prop}{D:Ox->ON->Prop}{d:DefRec}{K:Params->mo}{CX:Ox->Ga}{sp:Ox->Sp}(hn:l.most=some n)(y:n<=sizeLine)(B:d.params.defaults=[])(O:eS k R6)(P:∀(w:Ox)(h:ON),D w h->(K w.params).In h)(F:∀(w:Ox)(mg:Str->Option B5)(r:B3)(h:ON),(K w.params).In h->h.Ns Nr mg->mg d.name=some (.ref r)->
   ∃fd:O4,(∀(s:Gc)(u:B5),SJ s fd ⟨[u],[]⟩ [(x,u)])/\
    ∀base:ON,(K w.params).In base->base.Ns Nr mg->av l.prog w (K w.params) mg base (CX w) k r fd [x] (sp w))(A:∀(w:Ox)(H:Hp)(a:B3)(ns:List Int),ns.length<=n->I_ H->bf (K w.params) H a (ns.map V.int)->sp w [.ref a] H (λv _=>v= .bl true) λ_ _ _=>False)(z:∀(w:Ox)(H:Hp)(s:Gc)(e:B5)(s':Gc),CX w [] H s (λ_ _ _=>False) e s'->False):
  PySem.W.WalkO q i I D l.row.toRowW d [] (λf vs=>UI f vs):=by
 refine Att.tF hn B λw s₀ p mg mb r o pm S doc a vs ns G Y R hd E t m j c J=>?_;have C:=P w _ Y;obtain⟨fd,M,Q⟩:=F w mg r _ C G.T.g t;exact Dy C G.T.g G.T.b G.T.builtins G.T.nolimit J m j (NW c y) O Q M (λH L N=>A w H a ns c L N) λH e s'=>z w H p e s'
noncomputable def inClass(s:NG)(j:Nat):NG:=match s with
 | .ClassDef _ _ _ body _ _ _ _ _ _ _=>body.getD j (.Pass ⟨0,0,0,0⟩)
 |_=> .Pass ⟨0,0,0,0⟩
noncomputable def gD(s:NG):Arguments:=match s with
 | .FunctionDef _ a _ _ _ _ _ _ _ _=>a
 |_=>{posonlyargs:=[],args:=[],vararg:=none,kwonlyargs:=[],kw_defaults:=[],kwarg:=none,defaults:=[]}
noncomputable def eV(s:NG):List NG:=match s with
 | .FunctionDef _ _ b _ _ _ _ _ _ _=>b
 |_=>[]
noncomputable def aj(s:NG):Qs:=match s with
 | .FunctionDef _ _ _ _ _ _ sc _ _ _=>sc
 |_=>{kind:= .function,names:=[],isGenerator:=false,isCoroutine:=false}
abbrev aK:Ga:=λ_ _ _ _ _ _=>False
abbrev E0:XK:=λ_ _ _=>False
theorem GV:Passes aK X E0:=λ_ _ _ _ _ _ _ h=>h.elim
structure aZ(K:mo)(x qual:Str)(st:NG)(f:B3)(fd:O4):Prop where
 ex:∃(oc:B5)(od:Option B3)(kV doc pm:B5)(an:Option B3)(cdv ct:B5)(osl:Array (Option B5)),
  fd=Py x qual (gD st) (eV st) (aj st) .none kV doc pm an cdv ct/\K.lookup f=some ⟨oc,od,.func fd,osl⟩/\RI K cdv qual=true
 kp:PY K (.ref f)=true
section
variable{base:ON}
theorem aZ.ok{st:NG}{k:Nat}(F:aZ K x qual st f fd)(S:aw N ps (aj st))(len:∀vs H Q E,sp vs H Q E->vs.length=ps.length)(a:∀(cdv:B5)(A:PR)(outer:List Env)(s:Gc)(H:Hp)(vs:List V)(Q:VK)(E:XK),eS k (A.deeper (envOfC qual (aj st) s.heap.objs.size f cdv))->sp vs H Q E->
   ∃t,wG (tO aK P w K mg base N qual (aj st) f cdv A outer s H E).Jl (eV st) t/\t {nx:=λ_ H'=>Q .non H',rt:=Q} (start N vs) H):av P w K mg base aK (k+1) f fd ps sp:=by
 obtain⟨oc,od,kV,doc,pm,an,cdv,ct,osl,rfl,lk,b⟩:=F.ex;refine KQ lk b S len λA outer s H vs Q E d c=>?_;obtain⟨t,h,q⟩:=a cdv A outer s H vs Q E d c;exact⟨t,h.Jl,q⟩
theorem aZ.binds{st:NG}(F:aZ K x qual st f fd)(h:∀(kV doc pm:B5)(an:Option B3)(cdv ct:B5)(us:List B5),us.length=ps.length->bindArgs (Py x qual (gD st) (eV st) (aj st) .none kV doc pm an cdv ct) ⟨us,[]⟩=pure (ps.zip us)):Binds K fd ps []:=by
 obtain⟨oc,od,kV,doc,pm,an,cdv,ct,osl,rfl,lk,a⟩:=F.ex;exact .all (h kV doc pm an cdv ct)
theorem aC{st:NG}{oc:B5}{od an:Option B3}{osl:Array (Option B5)}{kV doc pm cdv ct:B5}(l:K.lookup f=some ⟨oc,od,.func (Py x qual (gD st) (eV st) (aj st) .none kV doc pm an cdv ct),osl⟩)(c:RI K cdv qual=true)(k:PY K (.ref f)=true):aZ K x qual st f (Py x qual (gD st) (eV st) (aj st) .none kV doc pm an cdv ct):=⟨⟨oc,od,kV,doc,pm,an,cdv,ct,osl,rfl,l,c⟩,k⟩
end
theorem pv(i:Nat)(c:X.N[i]? =some x:=by rfl)(b:LK X.env.scope x:=by first|exact Ki rfl|exact Or.inr (Ki rfl)|exact Or.inr (Or.inr rfl))(hd:(x==("__debug__":Str))=false:=by decide)(a:(x==("__classdict__":Str))=false:=by decide):PE X (.Name x pos) (kh i):=IB c b hd a
theorem dh{A B:Prop}(h:B):if false=true then A else B:=by
 rw[if_neg FS];exact h
theorem eY{A B:Prop}(h:A):if true=true then A else B:=by
 rw[if_pos rfl];exact h
theorem dM{c A B:Prop}[Decidable c](h1:c->A)(h2:¬c->B):if c then A else B:=by
 by_cases h:c
 ·rw[if_pos h];exact h1 h
 ·rw[if_neg h];exact h2 h
def af(H H':Hp):Prop:=∀b o,H b=some o->H' b=some o
theorem af.refl(H:Hp):af H H:=λ_ _ h=>h
theorem af.trans{H1 H2:Hp}(a:af H H1)(b:af H1 H2):af H H2:=λc o h=>b c o (a c o h)
theorem af.free(e:af H H')(h:H' l=Option.none):H l=Option.none:=by
 cases q:H l with
 |none=>rfl
 |some o=>
  rw[e l o q]at h
  cases h
theorem af.seq(e:af H H')(h:bf K H a xs):bf K H' a xs:=by
 rcases h with(h|⟨o,h⟩)|h
 ·exact .inl (.inl (e _ _ h))
 ·exact .inl (.inr ⟨o,e _ _ h⟩)
 ·exact .inr h
theorem nz{env:Env}{y:Str}{k:Sb}:∀{names:List (Str×Sb)},
  (names.map λ(n,k)=>if(k==O9&&env.scope.kind== .function&&env.kindOf n==some .cell)then(n,Tf)else(n,k)).lookup y=some k->
   ∃b,names.lookup y=some b/\(k=b∨(b= .free/\k= .cell))
 |[],h=>by simp at h
 |(n,q)::r,h=>by
  have d:= @nz env y k r;rw[Nq]at h;dsimp only at h
  cases hx:y==n with
  |true=>
   refine⟨q,by simp[OS,hx],?_⟩;by_cases a:(q==O9&&env.scope.kind== .function&&env.kindOf n==some .cell)=true
   ·rw[if_pos a]at h;simp only[OS,hx]at h
    cases h
    have c:(q==O9)=true:=by
     cases e:q==O9 with
     |true=>rfl
     |false=>rw[e]at a;simp at a
    exact .inr ⟨by simpa using c,rfl⟩
   ·rw[if_neg a]at h;simp only[OS,hx]at h
    cases h
    exact .inl rfl
  |false=>
   have h2:(r.map λ(n,k)=>if(k==O9&&env.scope.kind== .function&&env.kindOf n==some .cell)then(n,Tf)else(n,k)).lookup y=some k:=by
    by_cases a:(q==O9&&env.scope.kind== .function&&env.kindOf n==some .cell)=true
    ·rw[if_pos a]at h;simpa only[OS,hx]using h
    ·rw[if_neg a]at h;simpa only[OS,hx]using h
   obtain⟨b,e,r'⟩:=d h2;exact⟨b,by simpa only[OS,hx]using e,r'⟩
theorem rZ:∀(names:List (Str×Sb))(a:List (Str×B3)),(∀y∈names,y.2= .free->∃c,env.cells.lookup y.1=some c)->(∀y c,a.lookup y=some c->env.cells.lookup y=some c)->
  ∃cl,(forIn names a λ(x:Str×Sb) (r:List (Str×B3))=>(if(x.2==O9)=true then(do let c<-cellOf env x.1;pure (Qd ((x.1,c)::r)))else pure (Qd r):Sem (ForInStep (List (Str×B3)))))=(pure cl:Sem (List (Str×B3)))/\
   (∀y c,cl.lookup y=some c->env.cells.lookup y=some c)/\(∀y∈names,y.2= .free->∃c,cl.lookup y.1=some c)/\∀y c,a.lookup y=some c->∃m,cl.lookup y=some m
 |[],a,_,ha=>⟨a,rfl,ha,(λy b=>absurd b (by simp)),λy c h=>⟨c,h⟩⟩
 |(n,k)::r,a,hn,ha=>by
  by_cases l:k=O9
  ·obtain⟨c,o⟩:=hn (n,k) B6 l
   have f:∀y d,((n,c)::a).lookup y=some d->env.cells.lookup y=some d:=λy d e=>by
    cases hx:y==n with
    |true=>
     simp only[OS,hx]at e
     cases e
     have :y=n:=by simpa using hx
     rw[this];exact o
    |false=>
     simp only[OS,hx]at e;exact ha y d e
   obtain⟨cl,e,h1,h2,j⟩:=rZ r ((n,c)::a) (λy b=>hn y (De _ b)) f;have g:∃m,cl.lookup n=some m:=j n c (by simp);refine⟨cl,?_,h1,λy b i=>?_,λy d hd=>?_⟩
   ·rw[Sy];dsimp only;rw[if_pos (by simp[l])]
    have p:cellOf env n=pure c:=by
     unfold cellOf;rw[o]
    rw[p];simp only[pure_bind];exact e
   ·rcases List.mem_cons.mp b with z|z
    ·subst z;exact g
    ·exact h2 y z i
   ·cases hx:y==n with
    |true=>
     have :y=n:=by simpa using hx
     rw[this];exact g
    |false=>exact j y d (by simpa only[OS,hx]using hd)
  ·obtain⟨cl,e,h1,h2,j⟩:=rZ r a (λy b=>hn y (De _ b)) ha;refine⟨cl,?_,h1,λy b i=>?_,j⟩
   ·rw[Sy];dsimp only;rw[if_neg (by simpa using l),pure_bind];exact e
   ·rcases List.mem_cons.mp b with z|z
    ·subst z;exact absurd i l
    ·exact h2 y z i
theorem xM(hn:∀y∈scope.names,y.2= .free->∃c,env.cells.lookup y.1=some c):
  ∃cl,closureFor scope env=pure cl/\(∀y c,cl.lookup y=some c->env.cells.lookup y=some c)/\∀y∈scope.names,y.2= .free->∃c,cl.lookup y.1=some c:=by
 obtain⟨cl,e,h1,h2,_⟩:=rZ (env:=env) scope.names [] hn (λy c h=>by simp at h);refine⟨cl,?_,h1,h2⟩;unfold closureFor;dsimp only
 have a:∀(f g:Str×Sb->List (Str×B3)->Sem (ForInStep (List (Str×B3)))),(∀x r,f x r=g x r)->(forIn scope.names [] f:Sem (List (Str×B3)))=forIn scope.names [] g:=λf g h=>by
  have :f=g:=by funext x r;exact h x r
  rw[this]
 rw[a _ _ (λx r=>?_),e]
 ·rfl
 ·obtain⟨n,k⟩:=x;dsimp only
theorem qL{R:SO->Gc->Prop}{elt a iter:Expr}{ifs:List Expr}{it b:B5}(J:Nat->Gc->Prop)(g:∀n s,J n s->GT (Nk prog w) A (QQ it) (λr s1=>match r with
   |none=>R (.ok .next) s1
   |some v=>GT (Nk prog w) A (Rw a it v) (λ_ d=>GT (Nk prog w) A (Q7 a env v) (λ_ s2=>
     GT (Nk prog w) A (forIn ifs true λc r=>if r=true then do let ok<-UA c env (OI c env);pure (Qd ok)else pure (Qd r)) (λok j=>
      if ok=true then GT (Nk prog w) A (OI elt env) (λx l=>
       GT (Nk prog w) A (call (.builtin "list.append") [b,x]) (λ_ k=>∃m,m<n/\J m k) (λ_ _=>False) l) (λ_ _=>False) j
      else∃m,m<n/\J m j) (λ_ _=>False) s2) (λ_ _=>False) d) (λ_ _=>False) s1) (λ_ _=>False) s)(n:Nat)(h:J n s):Px (Nk prog w) A (.compLoop (.ListComp elt [⟨a,iter,ifs,0⟩] scope pos) 0 it b env) R s:=by
 have no:∀{E:B5->Gc->Prop}(e:B5)(s:Gc),(λ(_:B5) (_:Gc)=>False) e s->E e s:=λ_ _ f=>f.elim;refine codeAny_loop rfl J (λn s t=>?_) n h;show GT _ A ((compTurn (.ListComp elt [⟨a,iter,ifs,0⟩] scope pos) 0 it b env).onRaise _) _ _ s;refine wpAny_noted ?_;rw[compTurn_list];refine AC (Q4 (AC (OR (g n s t) (λr s1 h1=>?_) no)))
 cases r with
 |none=>exact Fk h1
 |some v=>
  refine AC (OR h1 (λ_ d i=>AC (OR i (λ_ s2 h2=>AC (OR h2 (λok j o=>?_) no)) no)) no)
  cases ok with
  |false=>exact Fk ⟨rfl,o⟩
  |true=>exact AC (AC (OR o (λx l q=>AC (OR q (λ_ k p=>Fk (Fk ⟨rfl,p⟩)) no)) no))
noncomputable abbrev Cx.comp(X:Cx)(x:Str)(scope:Qs)(cl:List (Str×B3))(C:B3)(fp:List B3)(s:Gc)(H:Hp):Cx:=
 {X with N:=x::X.N,s₀:=s,H₀:=H,env:=compEnvC scope cl C X.env,outer:=X.stack,ex:=fp,fn:=λ_=>false,pn:=[],xe:=λ_ _=>False}
noncomputable def uV(scope:Qs)(env:Env)(y:Str):Bool:=match scope.names.lookup y with
 |none=>true
 |some .free=>env.kindOf y==some .cell||env.kindOf y==some .free
 |some _=>false
structure jq(X:Cx)(x:Str)(scope:Qs):Prop where
 kind:scope.kind= .function
 cell:∀y∈scope.names,y.2≠ .cell
 names:∀y∈scope.names,y.2= .local->scope.names.lookup y.1=some .local
 hx:scope.names.lookup x=some .local
 free:∀y∈scope.names,y.2= .free->X.env.kindOf y.1=some .cell∨X.env.kindOf y.1=some .free
 cap:∀y∈X.N,uV scope X.env y=true
 nd:(x::X.N).Nodup
theorem sN{y:Str}(h:scope.names.lookup y=some .free):(y,O9)∈scope.names:=O3 h
def Gn(X:Cx)(ifs:List Expr)(t:TT):Prop:=
 ∀(pins:List (B3×Obj))(s:Gc)(σ:St)(H:Hp)(Q:Bool->Hp->Prop),Inv X pins σ H s->t σ H Q->
  GT (Nk X.prog X.w) X.A (forIn ifs true λc r=>if r=true then do let ok<-UA c X.env (OI c X.env);pure (Qd ok)else pure (Qd r)) (TP X pins σ Q) X.xe s
def jE:TT:=λ_ H Q=>Q true H
theorem bH:Gn X [] jE:=λpins s σ H Q I h=>by
 rw[List.forIn_nil];exact Fk ⟨H,I,h⟩
theorem FL{c:Expr}{t:TT}(a:PT X c t):Gn X [c] t:=λpins s σ H Q I h=>by
 rw[Sy,if_pos rfl];refine AC (AC (bS (a pins s σ H Q I h) λok s1 q=>Fk ?_))
 try dsimp only
 rw[List.forIn_nil];exact Fk q
def fk(J:It)(H1:Hp)(σ:St)(tt:TT)(te:TE)(Q:VK):Prop:=∀D,H1 D=none->∃W:Nat->Nat->Hp->Prop,(∃m,W 0 m (upd H1 D (.lst [])))/\∀i m H,W i m H->
 (J.stop i H/\Q (.ref D) H)∨(J.go i H/\∀x H',J.yld i H x H'->tt (some x::σ) H' λb H2=>if b=true then te (some x::σ) H2 λy H3=>∃ys,H3 D=some (.lst ys)/\ys.length<sizeLine/\∃a,a<m/\W (i+1) a (upd H3 D (.lst (ys++[y])))
  else∃a,a<m/\W (i+1) a H2)
def qG(wi:TI)(tt:TT)(te:TE):TE:=λσ H Q=>wi σ H λJ H1=>fk J H1 σ tt te Q
open AutoSeq1 (wpAny_loadPart')
variable{E Q:B5->Gc->Prop}{i t' kk:Nat}{it e b:B3}{its:Array B5}{fp:List B3}{old u r:B5}{h':ON}{pins:List (B3×Obj)}{σ:St}{es:List Expr}{us:List B5}{d y v:V}{o:Option V}{kvs:List (List Key×V)}{value:Expr}{td tv ty:TE}{trs:List (TE×TE)}
theorem IG{t:B3}{x:B5}(a:s.heap.IsTupleIter it t i)(f:s.heap.IsTuple t its)(hx:its[i]? =some x)(g:∀h',h'.IsTupleIter it t (i+1)->OW it s.heap h'->Q x {s with heap:=h'}):GT (Nk prog w) A (P3 (.ref it)) Q E s:=by
 obtain⟨o,b,e,hd⟩:=id a;obtain⟨ol,c,_,h,d⟩:=f;unfold P3;refine AC (OF (name:=NR "__next__") a.typeIs PZ (OE PZ a.typeIs SH ?_ (SC _)))
 (show GT _ _ (Uj (.ref it) 0 >>= _) _ _ s);refine AC (Oj b hd (x:= .ref t) rfl ?_)
 (show GT _ _ (if(KB t==OC)=true then _ else _) _ _ s);rw[if_neg (show¬((KB t==OC)=true)from FS)]
 (show GT _ _ (Uj (.ref it) 1 >>= _) _ _ s);refine AC (Oj b hd (x:= .int i 0) rfl ?_)
 (show GT _ _ (RP (.ref t) >>= _) _ _ s);refine AC (Pv c d ?_)
 simp only[Sg,hx];refine AC (wpAny_setField b hd (by simp) (Fk ⟨x,rfl,Fk (g _ ⟨_,Of _ b (Obj.isFreed_of_fields (UL hd _)),(Obj.cls_mapFields ..).trans e,by rw[UL hd];simp[Qv]⟩ (Ux ..))⟩))
theorem vC{t:B3}(g:A.handled=none)(b:s.heap.IsTupleIter it t i)(h:s.heap.IsTuple t its)(hx:its[i]? =none)(j:∀h' e,Heap.ExtBut it s.heap h'->(∃o,h'.get? e=some o/\o.cls= .type "StopIteration")->E (.ref e) {s with heap:=h'}):GT (Nk prog w) A (P3 (.ref it)) Q E s:=by
 obtain⟨o,d,k,hd⟩:=id b;obtain⟨ol,c,_,l,f⟩:=h;unfold P3;refine AC (OF (name:=NR "__next__") b.typeIs PZ (OE PZ b.typeIs SH ?_ (SC _)))
 (show GT _ _ (Uj (.ref it) 0 >>= _) _ _ s);refine AC (Oj d hd (x:= .ref t) rfl ?_)
 (show GT _ _ (if(KB t==OC)=true then _ else _) _ _ s);rw[if_neg (show¬((KB t==OC)=true)from FS)]
 (show GT _ _ (Uj (.ref it) 1 >>= _) _ _ s);refine AC (Oj d hd (x:= .int i 0) rfl ?_)
 (show GT _ _ (RP (.ref t) >>= _) _ _ s);refine AC (Pv c f ?_)
 simp only[Sg,hx];refine AC (Qu (AC (wpAny_setField d hd (by simp) ?_)))
 (show GT _ _ (Uz (.type "StopIteration") [] >>= _) _ _ _);refine AC ?_
 simp only[Uz,newTuple];refine AC (Oq ?_ (by size_fits));refine AC (m:=RG _ _) (Pp (a:=OC) (by first|rfl|(simp only[RG];rfl)) (Oq ?_ (by size_fits)));simp only[raiseNew];refine AC (wpAny_handled ?_)
 first|rw[show A.in1.handled=none from g]|rw[g]
 exact AC (Fk (wpAny_throw (j _ _ (((Ux ..).extBut.push _).push _) ⟨_,KM _ rfl,rfl⟩)))
theorem pK(g:A.handled=none)(it l:B3)(d:l≠it)(its:Array B5):
  Draws prog w A it [it,l] its.size (λi v=>its[i]? =some v) (λi h=>h.IsTupleIter it l i/\h.IsTuple l its) where
 live:=λ_ _ st=>let⟨o,ho,_⟩:=st.1;⟨o,ho⟩
 frame:=λ_ _ _ st f=>by
  obtain⟨⟨o,e,r⟩,⟨o',c,r'⟩⟩:=st;exact⟨⟨o,f it (by simp) o e,r⟩,⟨o',f l (by simp) o' c,r'⟩⟩
 item:=λi s Q E hi st k=>IG st.1 st.2 (x:=its[i]) (by simp[hi]) λh' b a=>by
  obtain⟨o',c,r'⟩:=st.2;exact k _ h' s.toks (by simp[hi]) ⟨b,⟨o',a.extBut l o' d c,r'⟩⟩ a
 done:=λs Q E st j=>vC g st.1 st.2 (by simp) j
theorem D1{k:Int}{P:Nat->B5->Prop}{St:Nat->ON->Prop}(D:Draws prog w A it fp n P St)(he:RM s.heap e it k old)(S:St i s.heap)(G:i<n)(R:e≠it)(m:e∉fp)(W:∀x h' tk,P i x->Tv h' e it (k+1) x s.heap.objs.size->St (i+1) h'->h'.get? s.heap.objs.size=some {cls:= .type "tuple",data:= .seq #[.int k tk,x]}->
   (∀b o,b≠e->b≠it->s.heap.get? b=some o->h'.get? b=some o)->Q (.ref s.heap.objs.size) {s with heap:=h',toks:=tk+1}):
  GT (Nk prog w) A (Builtin.«enumerate.__next__» ⟨[.ref e],[]⟩) (λM s'=>∃v,M= .done (.ret v)/\Q v s') E s:=by
 obtain⟨f,g,d,X,os⟩:=s
 (show GT _ _ (Uj (.ref e) 2 >>= _) _ _ _);refine AC (Oj he rfl (x:= .ref it) rfl ?_)
 refine AC (D.item i _ _ _ G S λx g1 tk px c1 b1=>?_);have b1:OW it f g1:=b1;have N:RM g1 e it k old:=(b1.2 e R).trans he
 (show GT _ _ (Uj (.ref e) 3 >>= _) _ _ ⟨g1,g,d,tk,os⟩);refine AC (Oj N rfl (x:=Qv k) rfl ?_)
 (show GT _ _ (Uj (.ref e) 4 >>= _) _ _ ⟨g1,g,d,tk,os⟩);refine AC (Oj N rfl (x:= .none) rfl ?_)
 (show GT _ _ (mkInt k >>= _) _ _ ⟨g1,g,d,tk,os⟩);refine AC (Uh ?_)
 (show GT _ _ (SK (.ref e) 3 (Qv (k+1)) >>= _) _ _ ⟨g1,g,d,tk+1,os⟩);refine AC (OQ N (by simp) λg2 J l=>?_)
 have l:OW e g1 g2:=l;have J:RM g2 e it (k+1) old:=J
 (show GT _ _ (SK (.ref e) 4 .none >>= _) _ _ ⟨g2,g,d,tk+1,os⟩);refine AC (OQ J (by simp) λg3 I p=>?_)
 have p:OW e g2 g3:=p;have I:RM g3 e it (k+1) old:=I
 (show GT _ _ (newTuple [.int k tk,x] >>= _) _ _ ⟨g3,g,d,tk+1,os⟩);refine AC (wpAny_newTuple ?_)
 have t:RM (g3.push {cls:= .type "tuple",data:= .seq #[.int k tk,x]}) e it (k+1) old:=B4 _ I;generalize h:g3.push {cls:= .type "tuple",data:= .seq #[.int k tk,x]}=g4 at t
 have T:g3.objs.size=f.objs.size:=by rw[p.1,l.1,b1.1]
 have le:e<f.objs.size:=FM he
 have U:g4.get? f.objs.size=some {cls:= .type "tuple",data:= .seq #[.int k tk,x]}:=by rw[<-h,<-T];exact KM _ rfl
 have V:∀b o,b≠e->b≠it->f.get? b=some o->g4.get? b=some o:=λb o a j c=>by
  rw[<-h];exact B4 _ (p.extBut b o a (l.extBut b o a (b1.extBut b o j c)))
 have c4:St (i+1) g4:=D.frame _ _ _ c1 λb c o y=>by
  have a:b≠e:=λq=>m (q▸c);rw[<-h];exact B4 _ (p.extBut b o a (l.extBut b o a y))
 show GT _ _ (RZ (.ref e) >>= _) _ _ ⟨g4,g,d,tk+1,os⟩;rw[T];refine AC ?_;unfold RZ;refine AC (Oj t rfl (x:= .none) rfl (Fk ?_));simp only[if_true];refine AC (Qu (AC (Oj t rfl (x:=old) rfl (AC (OQ t (by simp) λu C O=>?_)))));have O:OW e g4 u:=O;have C:RM u e it (k+1) x:=C
 (show GT _ _ (RU (.ref e) (.ref f.objs.size) >>= _) _ _ ⟨u,g,d,tk+1,os⟩);refine AC ?_
 unfold RU;refine AC (OQ C (by simp) λz B F=>?_);have F:OW e u z:=F;have B:Tv z e it (k+1) x f.objs.size:=B;refine OQ B (by simp) λr L K=>?_;have K:OW e z r:=K;have L:Tv r e it (k+1) x f.objs.size:=L;have H:∀b o,b≠e->g4.get? b=some o->r.get? b=some o:=λb o c y=>K.extBut b o c (F.extBut b o c (O.extBut b o c y));refine AC (Qz (Fk ⟨_,rfl,W x r tk px L (D.frame _ _ _ c4 λb c o y=>H b o (λq=>m (q▸c)) y) (H _ _ (PB le) U) λb o a j c=>H b o a (V b o a j c)⟩))
theorem FW{k:Int}{P:Nat->B5->Prop}{St:Nat->ON->Prop}{Q:Option B5->Gc->Prop}(D:Draws prog w A.in1 it fp n P St)(he:RM s.heap e it k old)(j:St i s.heap)(g:i<n)(h:e≠it)(f:e∉fp)(m:∀x h' tk,P i x->Tv h' e it (k+1) x s.heap.objs.size->St (i+1) h'->h'.get? s.heap.objs.size=some {cls:= .type "tuple",data:= .seq #[.int k tk,x]}->
   (∀b o,b≠e->b≠it->s.heap.get? b=some o->h'.get? b=some o)->Q (some (.ref s.heap.objs.size)) {s with heap:=h',toks:=tk+1}):
  GT (Nk prog w) A (QQ (.ref e)) Q E s:=by
 have l:s.TypeIs (.ref e) "enumerate":=⟨_,he,rfl⟩;unfold QQ
 exact AC (Q5 (OF (name:=NR "__next__") l Ug (OE Ug l F.entry_enumerate_next
  (D1 D he j g h f λx h' tk a b c d k=>Fk (m x h' tk a b c d k)) (F.args_enumerate_next_1 _))))
theorem En(l:B3)(its:Array B5)(n:Nat)(a:Option B3)(sl:Array (Option B5)):
  Meets (Builtin.«enumerate.__new__» ⟨[.type "enumerate",.ref l],[]⟩) (λ_ R s=>s.heap.get? l=some {cls:= .type "tuple",dict:=a,data:= .seq its n,slots:=sl}/\
   R (.ok (.ret (.ref (s.heap.push {cls:= .type "tuple_iterator",data:= .fields #[.ref l,.int 0 0]}).objs.size)))
    {s with heap:=(s.heap.push {cls:= .type "tuple_iterator",data:= .fields #[.ref l,.int 0 0]}).push {cls:= .type "enumerate",data:= .fields #[.none,.bool false,.ref s.heap.objs.size,Qv 0,.none,.none]}}):=
 .of_wp λprog w A R s h=>by
  obtain⟨f,g,d,tk,os⟩:=s;obtain⟨hl,h⟩:=h;have b:=sub_enumerate;have e:Heap.IsTuple (Shared.heap ⟨f,g,d,tk,os⟩) l its:=⟨_,hl,rfl,n,rfl⟩
  wp_walk using P_ hl
  refine wpAny_stack_any λst=>Fk ?_
  split
  ·rename_i c _ _ _ _ _
   cases(c==Pt "enumerate")
   all_goals
    wp_walk using P_ hl,R0 e
    exact⟨_,rfl,h⟩
  ·wp_walk using P_ hl,R0 e
   exact⟨_,rfl,h⟩
theorem BZ(i:s.heap.IsTuple l its)(h:∀h',RM h' (s.heap.objs.size+1) s.heap.objs.size 0 .none->h'.IsTupleIter s.heap.objs.size l 0->(∀b o,s.heap.get? b=some o->h'.get? b=some o)->Q (.ref (s.heap.objs.size+1)) {s with heap:=h'}):
  GT (Nk prog w) A (call (.type "enumerate") [.ref l]) Q E s:=by
 obtain⟨⟨c,a,j,sl⟩,hl,g,n,hd⟩:=i;have e:c= .type "tuple":=g;have d:j= .seq its n:=hd;subst e d;refine callType_new F.called_enumerate (by decide) (F.typeCall_enumerate_1 _) (F.newCall_enumerate_1 _) (λobj=>F.args_object_init_2 obj _) F.entry_enumerate_new (En l its n a sl) ⟨hl,?_⟩;have f:(s.heap.push {cls:= .type "tuple_iterator",data:= .fields #[.ref l,.int 0 0]}).objs.size=s.heap.objs.size+1:=QU ..
 have he:RM ((s.heap.push {cls:= .type "tuple_iterator",data:= .fields #[.ref l,.int 0 0]}).push {cls:= .type "enumerate",data:= .fields #[.none,.bool false,.ref s.heap.objs.size,Qv 0,.none,.none]}) (s.heap.objs.size+1) s.heap.objs.size 0 .none:=by
  have q:=KM (s.heap.push {cls:= .type "tuple_iterator",data:= .fields #[.ref l,.int 0 0]}) (o:={cls:= .type "enumerate",data:= .fields #[.none,.bool false,.ref s.heap.objs.size,Qv 0,.none,.none]}) rfl;rw[f]at q;exact q
 (show _/\_);rw[f]
 exact⟨⟨_,he,rfl⟩,h _ he ⟨_,B4 _ (KM _ rfl),rfl,rfl⟩ λb o x=>B4 _ (B4 _ x)⟩
theorem Inv.lu{ch:List B3}{o:HO}(I:Inv X pins σ H s)(k:∀b u,b∉ch->s.heap.get? b=some u->h'.get? b=some u)(d:∀b∈ch,kH X pins H b)(l:s.heap.objs.size<=a)(i:cj X.prog X.w (upd H a o) h' a o):Inv X pins σ (upd H a o) {s with heap:=h',toks:=t'}:=by
 have hn:H a=none:=I.hok.fresh l
 have h:∀b u,H b=some u->b∉ch:=λb u e z=>by rw[(d b z).1]at e;cases e
 refine I.step (g':=s.gens) (d':=s.drawn) (ch:=ch) (λb g=>⟨(d b g).2.2.2.1,(d b g).2.1,(d b g).2.2.2.2.1,(d b g).2.2.2.2.2⟩) (λb o _ _ f e _=>k b o f e) (λb o _ _ f e _=>⟨o.slots,k b o f e⟩)
  (λb u f e n=>by rw[ak (Nn (NL (FM e) l))];exact n) (λb o f e=>⟨o,k b o f e⟩) (λb xs e=>by rw[ak (aI e hn)];exact e) (λb u xs e=>by rw[ak (aI e hn)];exact e)
  (λb ps e=>⟨#[],by rw[ak (aI e hn),e];simp⟩) (λm hm=>?_) (λb u e=>?_) I.bare
 ·obtain⟨j,es,ep,p,r⟩:=hm;exact⟨j,es,ep,k _ j (λz=>(d _ z).2.1 rfl) p,r⟩
 ·by_cases g:b=a
  ·subst g;rw[ae]at e
   cases e
   exact i
  ·rw[ak g]at e
   refine(I.hok b u e).wR (λc v f q=>k c v ?_ q) (λc q=>by rw[ak (aI q hn)];exact q) λc xs q=>by rw[ak (aI q hn)];exact q
   rcases f with z|z
   ·rw[z];exact h b u e
   ·exact h c _ z
noncomputable def Js(Sq:Hp->List V->Prop)(k:Int):It:=
 ⟨λi H=>∃xs x,Sq H xs/\xs[i]? =some x,λi H x H'=>∃p y,x= .ref p/\H p=none/\H'=upd H p (.tup [.int (k+i),y])/\∀xs,Sq H xs->xs[i]? =some y,λi H=>∃xs,Sq H xs/\xs.length=i⟩
theorem BQ{pt:Pos}(a e it:B3)(k:Int)(l:e≠it):
  Turn P w K (.Tuple es kk pt) (Js (λH xs=>ba K H a xs) k) [e,it] e (λi h=>(∃old,RM h e it (k+(i:Int)) old)/\h.IsTupleIter it a i) where
 mem:=by simp
 obj:=λi h st b j=>by
  obtain⟨⟨old,he⟩,o,c,f,hd⟩:=st
  rcases List.mem_cons.mp j with z|z
  ·subst z;exact⟨_,he,λv q=>by cases q⟩
  ·have z:b=it:=by simpa using z
   subst z;exact⟨o,c,λv q=>by rw[hd]at q;cases q⟩
 keep:=λi h h' st kk=>by
  obtain⟨⟨old,he⟩,o,c,r⟩:=st;exact⟨⟨old,kk e (by simp) _ he⟩,o,kk it (by simp) o c,r⟩
 item:=by
  intro X O S J f i pins s σ H E I C st G;subst O S J;obtain⟨xs,x,F,hx⟩:=G;obtain⟨its,L,p,hz⟩:=I.tuple F;obtain⟨u,V,ru⟩:=L.get hx;obtain⟨⟨old,he⟩,d⟩:=st;have pl:s.heap.IsTuple a its.toArray:=p
  have m:a≠it:=λz=>by
   obtain⟨o,c,f,_⟩:=pl;obtain⟨o',t,n,_⟩:=d;rw[z,t]at c
   cases c
   rw[n]at f
   injection f with q
   exact absurd q (by decide)
  have T:e≠a:=λz=>by
   obtain⟨o,c,f,_⟩:=pl;rw[<-z,he]at c
   cases c
   injection f with q
   exact absurd q (by decide)
  have D:=pK (prog:=X.prog) (w:=X.w) (A:=X.A.in1) (I.ok.hd f) it a m its.toArray
  have lt:i<its.toArray.size:=by
   rw[B8];exact(List.getElem?_eq_some_iff.mp V).1
  refine FW D he ⟨d,pl⟩ lt l (λz=>?_) λy g tk py W R tt kp=>?_
  ·rcases List.mem_cons.mp z with z|z
   ·exact l z
   ·exact T (by simpa using z)
  ·have ey:y=u:=by
    have q:its.toArray[i]? =some y:=py
    have q2:its.toArray[i]? =some u:=by simpa using V
    rw[q2]at q;exact(Kf q).symm
   subst ey;refine⟨_,rfl,wpAny_letOwnedTupleGo_enum W λg2 N Q=>?_⟩;have le:e<s.heap.objs.size:=FM he
   have li:it<s.heap.objs.size:=by
    obtain⟨o,c,_⟩:=d;exact FM c
   have U:g2.get? s.heap.objs.size=some {cls:= .type "tuple",data:= .seq #[.int (k+i) tk,y]}:=(Q.2 _ (PB le)).trans tt;have nT:H s.heap.objs.size=none:=I.fresh
   have I1:Inv X pins σ (upd H s.heap.objs.size (.tup [.int (k+i),x])) {s with heap:=g2,toks:=tk+1}:=by
    refine I.lu (t':=tk+1) (ch:=[e,it]) (λb o j q=>?_) C (B2 _) ⟨?_,[.int (k+i) tk,y],.cons ⟨tk,rfl⟩ (.cons ru .nil),⟨_,U,rfl,0,rfl⟩⟩
    ·have B:b≠e:=λz=>j (by simp[z]);have M:b≠it:=λz=>j (by simp[z]);exact(Q.2 b B).trans (kp b o B M q)
    ·show 2<=sizeLine;decide
   have e1:k+((i+1:Nat):Int)=k+(i:Int)+1:=by lia
   refine⟨.ref s.heap.objs.size,_,I1,rfl,⟨_,x,rfl,nT,rfl,λys hy=>?_⟩,⟨⟨y,by rw[e1];exact N⟩,?_⟩,λb j=>?_⟩
   ·rw[I.pS hy F];exact hx
   ·obtain⟨⟨o,c,r⟩,_⟩:=R;exact⟨o,(Q.2 it l.symm).trans c,r⟩
   ·rcases List.mem_cons.mp j with z|z
    ·subst z;rw[ak (Nn le)];exact(C b (by simp)).1
    ·have z:b=it:=by simpa using z
     subst z;rw[ak (Nn li)];exact(C b (by simp)).1
 done:=by
  intro X O S J f i pins s σ H E I C st G;subst O S J;obtain⟨xs,F,hx⟩:=G;obtain⟨its,L,p,hz⟩:=I.tuple F;obtain⟨⟨old,he⟩,d⟩:=st;have pl:s.heap.IsTuple a its.toArray:=p
  have m:a≠it:=λz=>by
   obtain⟨o,c,f,_⟩:=pl;obtain⟨o',t,n,_⟩:=d;rw[z,t]at c
   cases c
   rw[n]at f
   injection f with q
   exact absurd q (by decide)
  have D:=pK (prog:=X.prog) (w:=X.w) (A:=X.A.in1) (I.ok.hd f) it a m its.toArray
  have Z:its.toArray.size=i:=by
   rw[B8,<-L.length];exact hx
  obtain⟨f0,f1,f2,f3,f4,f5⟩:=C it (by simp);refine wpAny_pyNext_enum_endD D he (by rw[Z];exact⟨d,pl⟩) λh' Y=>⟨rfl,I.turned (t':=s.toks) (λb o j q=>Y b o j q) f0 f1 f3 f4 f5⟩
 self:=λ_ _ _ _ _ st h=>by
  obtain⟨⟨old,he⟩,_⟩:=st;exact UR he h
section
variable{pt:Pos}
def Ml(K:mo)(ta:TA):TI:=λσ H R=>ta σ H λvs H1=>∃a,vs=[.ref a]/\(∃xs,ba K H1 a xs)/\R (Js (λH xs=>ba K H a xs) 0) H1
theorem Jf{l:Expr}{ta:TA}{p:Pos}(f:Gl X "enumerate")(hm:X.mg "enumerate"=none)(ha:PA X [l] ta)(n:Nx [l] X.env=[(false,OI l X.env)]:=by rfl):
  PI X (.Tuple es kk pt) (.Call (.Name "enumerate" p) [l] [] pos) (Ml X.K ta):=by
 intro pins s σ H R I h;refine SZ (dZ I f hm boot_enumerate (NP (bS (ha pos pins s σ H _ I h) λus s1 ⟨vs,H1,c,m,g⟩=>?_) n rfl));obtain⟨a,e,⟨xs,o⟩,q⟩:=g;subst e;obtain⟨u,e,i⟩:=vals1 m;subst e;obtain rfl:u=KB a:=i;obtain⟨its,t,pl,r⟩:=c.tuple o;refine BZ (show s1.heap.IsTuple a its.toArray from pl) λh' he d kp=>?_;have k:Inv X pins σ H1 {s1 with heap:=h'}:=c.kept (t':=s1.toks) kp;refine UR he ⟨s1.heap.objs.size+1,[s1.heap.objs.size+1,s1.heap.objs.size],_,_,H1,rfl,k,BQ a _ _ 0 (Nat.succ_ne_self _),⟨⟨.none,by rw[show(0:Int)+((0:Nat):Int)=0 by exact DX];exact he⟩,d⟩,λb j=>?_,q⟩
 rcases List.mem_cons.mp j with z|z
 ·subst z;exact c.mD (QD _) (c.hok.fresh (QD _))
 ·have z:b=s1.heap.objs.size:=by simpa using z
  subst z;exact c.mD (B2 _) (c.hok.fresh (B2 _))
end
theorem ID{Sq:Hp->List V->Prop}{k:Int}{g:TG}{tb:TS}{D:Ends}(b:Nat->St->Hp->Prop)(h0:b 0 σ H)(hl:∀i σ H,i<=xs.length->b i σ H->Sq H xs)(l:∀i x p σ H,xs[i]? =some x->H p=none->b i σ H->g (.ref p) σ (upd H p (.tup [.int (k+i),x])) λc H2=>tb {D with nx:=b (i+1),ct:=b (i+1),bk:=D.nx} c H2)(hd:∀σ H,b xs.length σ H->D.nx σ H):
  ∃W:Nat->Nat->St->Hp->Prop,(∃m,W 0 m σ H)/\∀i m σ H,W i m σ H->
   ((Js Sq k).stop i H/\D.nx σ H)∨((Js Sq k).go i H/\∃N:St->Hp->Prop,(∀σ' H',N σ' H'->∃f,f<m/\W (i+1) f σ' H')/\∀x H',(Js Sq k).yld i H x H'->g x σ H' λc H2=>tb {D with nx:=N,ct:=N,bk:=D.nx} c H2):=by
 refine⟨λi m σ H=>m=xs.length-i/\i<=xs.length/\b i σ H,⟨xs.length,by simp,Nl _,h0⟩,?_⟩;rintro i m σ H ⟨rfl,hi,p⟩;have q:=hl i σ H hi p;by_cases d:i<xs.length
 ·refine .inr ⟨⟨xs,xs[i],q,by simp[d]⟩,b (i+1),λσ' H' n=>⟨xs.length-(i+1),by lia,rfl,d,n⟩,λx H' y=>?_⟩;obtain⟨a,z,j,hn,h,y⟩:=y;subst j h;exact l i z a σ H (y xs q) hn p
 ·have e:i=xs.length:=by lia
  subst e;exact .inl ⟨⟨xs,q,rfl⟩,hd σ H p⟩
theorem qO:∀{ys:List Str}{us:List B5},Vals (ys.map V.str) us->StrsAre us ys
 |[],_,.nil=> .nil
 |y::ys,_,.cons r t=>by
  obtain⟨t',e⟩:=(show∃t',_=OG y t' from r);subst e;exact .cons _ _ (qO t)
inductive rJoin(K:mo)(x:V)(vs:List V)(H:Hp)(Q:VK):Prop|mk(z b ys:_)(_:x= .str z)(_:vs=[.ref b])(_:bf K H b (ys.map V.str))(_:(ys.map (·.length)).sum+ys.length*z.length<=16777216)(_:Q (.str (NA z ys)) H)
theorem ma:AF X "str.join" (rJoin X.K):=by
 intro pins s σ H x vs v us Q I e d h;obtain⟨z,b,ys,l,i,hB,a,q⟩:=h;subst l i;obtain⟨t,j⟩:=(show∃t,v=OG z t from e);subst j;obtain⟨u,g,f⟩:=d.one;subst g;obtain rfl:u=KB b:=f;obtain⟨its,r,pl,c⟩:=I.list hB;exact join_list pl.isList (by simpa using qO r) a λt' k=>⟨.str (NA z ys),H,I.tok k,⟨t',rfl⟩,q⟩
noncomputable def vE{α:Type}(p:α->α->Bool):Option α->Option α->Bool
 |some a,some b=>p a b
 |_,_=>true
theorem all_range{α:Type}(p:α->α->Bool):∀(xs ys:List α),xs.length=ys.length->((Nz xs.length).all λj=>vE p xs[j]? ys[j]?)=(xs.zip ys).all λq=>p q.1 q.2
 |[],_,_=>by simp
 |x::xs,[],h=>by simp at h
 |x::xs,y::ys,h=>by
  have a:=all_range p xs ys (by simpa using h);rw[FB,TZ,Qy,QM,UM,Qy,<-a]
  congr 1
inductive CN(K:mo)(xs:List V)(H:Hp)(Q:VK):Prop|mk(x n t b:_)(_:xs=[x,.ty n])(_:kJ K H x t)(_:PySem.W.kitOne K t (.type n)=some b)(_:Q (.bl b) H)
theorem bT:dv X (.builtin "isinstance") (CN X.K):=by
 intro pins s σ H xs us Q I r h;obtain⟨x,n,t,b,f,ty,c,q⟩:=h;subst f;obtain⟨u,v,a,d,e⟩:=vals2 r;subst a;obtain rfl:v=Pt n:=e;exact zH I d ty c λtk=>⟨.bl b,H,I.tok tk,rfl,q⟩
noncomputable def yf(fs:Qs)(N:List Str)(x:Str)(scope:Qs):Bool:=
 decide (scope.kind= .function)&&scope.names.all (λy=>decide (y.2≠ .cell))&&scope.names.all (λy=>decide (y.2= .local->scope.names.lookup y.1=some .local))&&decide (scope.names.lookup x=some .local)&&
 scope.names.all (λy=>decide (y.2= .free->fs.names.lookup y.1=some .cell∨fs.names.lookup y.1=some .free))&&
 N.all (λy=>match scope.names.lookup y with
  |none=>true
  |some .free=>decide (fs.names.lookup y=some .cell∨fs.names.lookup y=some .free)
  |some _=>false)&&decide ((x::N).Nodup)
theorem bg{fs:Qs}(g:X.env.scope=fs)(b:X.N=N)(c:yf fs N x scope=true):jq X x scope:=by
 subst g b;unfold yf at c;simp only[Oi,Rl,decide_eq_true_eq]at c;obtain⟨⟨⟨⟨⟨⟨c1,c2⟩,c3⟩,c4⟩,c5⟩,c6⟩,c7⟩:=c;refine⟨c1,c2,c3,c4,c5,λy d=>?_,c7⟩;have q:=c6 y d;unfold uV
 cases e:scope.names.lookup y with
 |none=>rfl
 |some k=>
  rw[e]at q
  cases k with
  |free=>
   have f:X.env.scope.names.lookup y=some .cell∨X.env.scope.names.lookup y=some .free:=by simpa using q
   show(X.env.kindOf y==some .cell||X.env.kindOf y==some .free)=true;have a:X.env.kindOf y=X.env.scope.names.lookup y:=rfl;rw[a]
   rcases f with z|z<;>rw[z]<;>rfl
  |_=>simp at q
theorem II{ys:List V}{ws:List B5}(r:Vals xs us)(b:Vals ys ws)(hl:xs.length=ys.length)(fx:xs.all eB=true)(fy:ys.all eB=true)(j:Nat)(h1:j<us.toArray.size)(h2:j<ws.toArray.size):
  SN A s us.toArray[j] ws.toArray[j] (vE vB xs[j]? ys[j]?):=by
 have f:=r.length;have e:=b.length;rw[B8]at h1 h2
 have g1:j<xs.length:=by lia
 have g2:j<ys.length:=by lia
 obtain⟨w1,a,d⟩:=r.get (i:=j) (x:=xs[j]) (by simp[g1]);obtain⟨w2,c,p2⟩:=b.get (i:=j) (x:=ys[j]) (by simp[g2])
 have s1:us.toArray[j]=w1:=by
  rw[B0 h1]at a;simpa using a
 have s2:ws.toArray[j]=w2:=by
  rw[B0 h2]at c;simpa using c
 rw[s1,s2];simp only[B0 g1,B0 g2];exact vH d p2 (List.all_eq_true.mp fx _ (Pa g1)) (List.all_eq_true.mp fy _ (Pa g2))
inductive L8(K:mo)(x:V)(y:V)(H:Hp)(Q:VK):Prop|mk(a b xs ys:_)(_:x= .ref a)(_:y= .ref b)(_:bf K H a xs)(_:bf K H b ys)(_:xs.length=ys.length)(_:xs.all eB=true)(_:ys.all eB=true)(_:Q (.bl (!(xs.zip ys).all λp=>vB p.1 p.2)) H)
theorem IE(m:X.A.units<OX):ir X (Os .NotEq) (L8 X.K):=by
 intro pins s σ H x y v u Q I i n h;obtain⟨a,b,xs,ys,o,l,hA,hB,hl,fx,fy,q⟩:=h;subst o l;obtain rfl:v=KB a:=i;obtain rfl:u=KB b:=n;obtain⟨its,r,pl,p⟩:=I.list hA;obtain⟨d,f,c,g⟩:=I.list hB;have k:=r.length;have t:=f.length;refine UF (e:=λj=>vE vB xs[j]? ys[j]?) pl.isList c.isList (by rw[B8,B8];lia) m (λj h1 h2=>II r f hl fx fy j h1 h2) _ _ _ _ ⟨.bl _,H,I,rfl,?_⟩;rw[B8,<-k,all_range vB xs ys hl];exact q
theorem sM{lo:Int}{tt:TT}{te:TE}{Q:VK}(c:B3->Nat->List V->Hp->Prop)(hn:n<sizeLine)(h0:∀D,H D=none->c D 0 [] (upd H D (.lst [])))(hl:∀D i l H',c D i l H'->l.length<=i)(he:∀(D:B3)(i:Nat)(l:List V)(H':Hp)(g:Bool->Hp->Prop),i<n->c D i l H'->(∀b H2,(b=false->c D (i+1) l H2)->(b=true->∀h:VK,(∀y H3,H3 D=some (.lst l)->c D (i+1) (l++[y]) (upd H3 D (.lst (l++[y])))->h y H3)->te (some (.int (lo+i))::σ) H2 h)->g b H2)->tt (some (.int (lo+i))::σ) H' g)(hd:∀D l H',c D n l H'->Q (.ref D) H'):fk (FC lo n) H σ tt te Q:=by
 intro D p;refine⟨λi m H'=>m=n-i/\i<=n/\∃l,c D i l H',⟨n,by lia,Nl _,[],h0 D p⟩,?_⟩;rintro i m H' ⟨rfl,hi,l,f⟩;by_cases a:i<n
 ·refine .inr ⟨a,λx H2 y=>?_⟩;obtain⟨e,y⟩:=y;subst e y;refine he D i l H2 _ a f λb H3 k o=>?_
  cases b with
  |false=>
   refine dh ?_;exact⟨n-(i+1),by lia,rfl,a,l,k rfl⟩
  |true=>
   refine eY (o rfl _ λv H4 q j=>?_);have d:=hl D i l H2 f;exact⟨l,q,QS d (by lia),n-(i+1),by lia,rfl,a,l++[v],j⟩
 ·have e:i=n:=by lia
  subst e;exact .inl ⟨B2 _,hd D l H' f⟩
theorem z_(a:X.K=K):dv X (.builtin "len") (qyL K):=by
 subst a;exact bq
theorem Vals.at(r:Vals xs us)(h:us[i]? =some u):∃x,xs[i]? =some x/\RelV x u:=by
 have hi:i<us.length:=(List.getElem?_eq_some_iff.mp h).1;have hl:=r.length;obtain⟨w,q,p⟩:=r.get (i:=i) (x:=xs[i]) (by simp[show i<xs.length by lia]);rw[h]at q
 cases q
 exact⟨xs[i],by simp[show i<xs.length by lia],p⟩
theorem KN{bs:List Bool}(r:Vals (bs.map V.bl) us)(h:us[i]? =some u):∃b,bs[i]? =some b/\u= .bool b:=by
 obtain⟨x,hx,p⟩:=r.at h;rw[B7]at hx
 cases e:bs[i]? with
 |none=>rw[e]at hx;cases hx
 |some b=>
  rw[e]at hx;have q:V.bl b=x:=Kf hx;subst q;exact⟨b,rfl,p⟩
theorem uP:∀bs:List Bool,((Nz bs.length).all λi=>(bs[i]?).getD true)=bs.all id
 |[]=>rfl
 |b::bs=>by
  have a:=uP bs;rw[FB,TZ,Qy,QM,Qy,<-a];rfl
inductive HU(K:mo)(xs:List V)(H:Hp)(Q:VK):Prop
 |mk (p:B3) (ns:List Int) (c0:xs=[.ref p]) (c1:bf K H p (ns.map V.int)) (c2:Q (.int ns.sum) H)
def GD(K:mo):List V->Hp->VK->Prop:=λxs H Q=>HU K xs H Q
theorem zM(i:X.calm=true):dv X (.builtin "sum") (GD X.K):=by
 intro pins s σ H xs us Q I r h;obtain⟨p,ns,j,e,q⟩:=h;subst j;obtain⟨u,a,g⟩:=vals1 r;subst a;obtain rfl:u=KB p:=g;obtain⟨its,f,pl,m⟩:=I.list e;have b:=intsAre_of f;obtain⟨zs,c⟩:=b.allInts.items
 have l:ns=zs.toList.map (·.1):=by rw[<-b.numsOf,<-nums_intItems,<-c]
 have d:=pl.isList;rw[c]at d;refine sum_intListG (I.ok.hd i) d λh' tk t' k=>?_
 have a:preSum (numAt zs) zs.size=ns.sum:=by rw[preSum_eq,Oa (by simp),l]
 rw[a];exact⟨.int _,H,I.kept k,⟨t',rfl⟩,q⟩
inductive Ir(K:mo)(xs:List V)(H:Hp)(Q:VK):Prop
 |mk (p:B3) (bs:List Bool) (c0:xs=[.ref p]) (c1:bf K H p (bs.map V.bl)) (c2:Q (.bl (bs.all id)) H)
def Br(K:mo):List V->Hp->VK->Prop:=λxs H Q=>Ir K xs H Q
theorem dB(m:X.calm=true):dv X (.builtin "all") (Br X.K):=by
 intro pins s σ H xs us Q I r h;obtain⟨p,bs,t,j,q⟩:=h;subst t;obtain⟨u,n,k⟩:=vals1 r;subst n;obtain rfl:u=KB p:=k;obtain⟨its,d,pl,x⟩:=I.list j;have c:=pl.isList
 have lt:p<s.heap.objs.size:=by
  obtain⟨_,e,_⟩:=c;exact FM e
 refine call_all_walk (UQ c ?_)
 refine⟨s.heap.objs.size,[s.heap.objs.size,p],[s.heap.objs.size],its.toArray.size,_,_,λi=>(bs[i]?).getD true,rfl,Walks.list (A:=X.A.in1) (I.ok.hd m) _ p (Nn lt) its.toArray,
  ⟨⟨_,KM _ rfl,rfl,rfl⟩,c.push _⟩,λi v s' y z g f=>?_,λh' tk w=>?_⟩
 ·obtain⟨b,e,l⟩:=KN d (by simpa using g);subst l;simp only[e,Option.getD_some]at f;exact Oo f
 ·have e:((Nz its.toArray.size).all λi=>(bs[i]?).getD true)=bs.all id:=by
   have hl:=d.length;rw[be]at hl;rw[B8,<-hl,uP]
  rw[e];refine⟨.bl _,H,I.kept (t':=tk) λb o a=>w b o (λhm=>?_) (B4 _ a),rfl,q⟩;rw[List.mem_singleton.mp hm]at a;exact OJ _ (FM a)
inductive LZ(K:mo)(c:Bool)(x:V)(y:V)(H:Hp)(Q:VK):Prop|mk(a b xs:_)(_:x= .ref a)(_:y= .ref b)(_:bf K H a xs)(_:bf K H b [])(_:Q (.bl (if c then !xs.isEmpty else xs.isEmpty)) H)
theorem Dp(g:X.A.units<OX):ir X (Os .NotEq) (LZ X.K true):=by
 intro pins s σ H x y v u Q I k n h;obtain⟨a,b,xs,p,l,hA,hB,q⟩:=h;subst p l;obtain rfl:v=KB a:=k;obtain rfl:u=KB b:=n;obtain⟨its,r,pl,w⟩:=I.list hA;obtain⟨f,o,c,i⟩:=I.list hB;have d:=r.length;have m:=o.length;rw[RA]at m
 cases xs with
 |nil=>
  rw[RA]at d;refine UF (e:=λ_=>true) pl.isList c.isList (by rw[B8,B8];lia) g (λj h1 h2=>by rw[B8]at h1;lia) _ _ _ _ ⟨.bl false,H,I,?_,q⟩;show Rp _=Rp false
  congr 1
  rw[show((Nz its.toArray.size).all λ_=>true)=true from List.all_eq_true.mpr λ_ _=>rfl];rfl
 |cons z t=>
  rw[FB]at d;refine SeqAt.RcNeAt.lists_lengths pl.isList c.isList ?_ g _ _ _ _ ⟨.bl true,H,I,rfl,q⟩;rw[B8,B8];simp
  lia
section
variable{κ:Type}[DecidableEq κ]
noncomputable def cv(kvs:List (κ×V))(k:κ):Option V:=(kvs.find? λa=>decide (a.1=k)).map (·.2)
noncomputable def putK(kvs:List (κ×V))(k:κ)(v:V):List (κ×V):=
 if(kvs.any λa=>decide (a.1=k))=true then kvs.map (λa=>if a.1=k then(a.1,v)else a)else kvs++[(k,v)]
noncomputable def kz(kvs:List (κ×V))(k:κ):List (κ×V):=kvs.filter λa=>decide (a.1≠k)
theorem cC{p:κ×V}{r:List (κ×V)}{k:κ}(e:p.1=k):cv (p::r) k=some p.2:=by simp[cv,Qb,e]
theorem ck{p:κ×V}{r:List (κ×V)}{k:κ}(e:¬p.1=k):cv (p::r) k=cv r k:=by simp[cv,Qb,e]
theorem ia(k:κ):∀kvs:List (κ×V),(kvs.any λa=>decide (a.1=k))=(cv kvs k).isSome
 |[]=>rfl
 |p::r=>by
  rw[Qx];by_cases e:p.1=k
  ·simp only[cC e,decide_eq_true e,Bool.true_or,Option.isSome_some]
  ·rw[ck e,decide_eq_false e,Bool.false_or];exact ia k r
theorem tN(k j:κ)(y:V):∀kvs:List (κ×V),cv (kvs.map λa=>if a.1=k then(a.1,y)else a) j=(cv kvs j).map λx=>if j=k then y else x
 |[]=>rfl
 |p::r=>by
  have b:=tN k j y r;rw[Nq];by_cases h:p.1=k
  ·rw[if_pos h];by_cases e:p.1=j
   ·rw[cC (p:=(p.1,y)) e,cC e,Ry,if_pos (e.symm.trans h)]
   ·rw[ck (p:=(p.1,y)) e,ck e,b]
  ·rw[if_neg h];by_cases e:p.1=j
   ·rw[cC (p:=p) e,cC e,Ry,if_neg (λz=>h (e.trans z))]
   ·rw[ck (p:=p) e,ck e,b]
theorem pO(k j:κ)(y:V):∀kvs:List (κ×V),cv kvs k=none->cv (kvs++[(k,y)]) j=if j=k then some y else cv kvs j
 |[],_=>by
  by_cases e:k=j
  ·rw[if_pos e.symm];exact cC (p:=(k,y)) e
  ·rw[if_neg (λz=>e z.symm)];exact ck (p:=(k,y)) e
 |p::r,hn=>by
  rw[Pb]
  have a:¬p.1=k:=λz=>by rw[cC z]at hn;cases hn
  rw[ck a]at hn;have b:=pO k j y r hn;by_cases e:p.1=j
  ·rw[cC e,cC e,if_neg (λz=>a (e.trans z))]
  ·rw[ck e,ck e,b]
theorem Bq(kvs:List (κ×V))(k j:κ)(y:V):cv (putK kvs k y) j=if j=k then some y else cv kvs j:=by
 unfold putK;by_cases a:(kvs.any λb=>decide (b.1=k))=true
 ·rw[if_pos a,tN];rw[ia]at a;by_cases e:j=k
  ·obtain⟨x,hx⟩:=Option.isSome_iff_exists.mp a;rw[if_pos e,e,hx,Ry,if_pos rfl]
  ·rw[if_neg e]
   cases cv kvs j with
   |none=>rfl
   |some x=>rw[Ry,if_neg e]
 ·rw[if_neg a];refine pO k j y kvs ?_;rw[ia]at a
  cases q:cv kvs k with
  |none=>rfl
  |some x=>rw[q]at a;exact(a rfl).elim
theorem dz(kvs:List (κ×V))(k:κ)(v:V):(putK kvs k v).length<=kvs.length+1:=by
 unfold putK
 split
 ·rw[be];exact Ln
 ·rw[B1,FB,RA];exact MU
theorem ku{kvs:List (κ×V)}{k:κ}(v:V)(h:cv kvs k=none):putK kvs k v=kvs++[(k,v)]:=by
 unfold putK;rw[ia,h];exact if_neg (by decide)
theorem fm.kN{u:Option B5}(r:fm o u):o.isSome=u.isSome:=by
 cases o with
 |none=>cases u with
  |none=>rfl
  |some _=>exact(show False from r).elim
 |some _=>cases u with
  |none=>exact(show False from r).elim
  |some _=>rfl
theorem fm.getD{u:Option B5}{d':B5}(r:fm o u)(a:RelV d d'):RelV (o.getD d) (u.getD d'):=by
 cases o with
 |none=>cases u with
  |none=>exact a
  |some _=>exact(show False from r).elim
 |some _=>cases u with
  |none=>exact(show False from r).elim
  |some _=>exact r
theorem KV.val{kvs:List (κ×V)}{vs:List (κ×B5)}(r:KV kvs vs)(k:κ):fm (cv kvs k) (Qw vs k):=by
 unfold KV at r
 induction r with
 |nil=>exact Ov
 | @cons p q ps a h t d=>
  obtain⟨h1,h2⟩:=h;by_cases e:p.1=k
  ·have c:q.1=k:=h1.symm.trans e
   have b:Qw (q::a) k=some q.2:=by simp[Qw,Qb,c]
   rw[cC e,b];exact h2
  ·have c:¬q.1=k:=λz=>e (h1.trans z)
   have b:Qw (q::a) k=Qw a k:=by simp[Qw,Qb,c]
   rw[ck e,b];exact d
theorem KV.any{kvs:List (κ×V)}{vs:List (κ×B5)}(r:KV kvs vs)(k:κ):(kvs.any λa=>decide (a.1=k))=vs.any λa=>decide (a.1=k):=by
 unfold KV at r
 induction r with
 |nil=>rfl
 |cons h t b=>rw[Qx,Qx,b,h.1]
theorem KV.IW{kvs:List (κ×V)}{vs:List (κ×B5)}(r:KV kvs vs)(k:κ)(b:RelV y u):
  KV (kvs.map λa=>if a.1=k then(a.1,y)else a) (vs.map λa=>if a.1=k then(a.1,u)else a):=by
 unfold KV at r⊢
 induction r with
 |nil=>exact .nil
 | @cons p q ps d h t c=>
  rw[Nq,Nq];refine .cons ?_ c;obtain⟨h1,h2⟩:=h;by_cases e:p.1=k
  ·rw[if_pos e,if_pos (h1.symm.trans e)];exact⟨h1,b⟩
  ·rw[if_neg e,if_neg (λz=>e (h1.trans z))];exact⟨h1,h2⟩
theorem KV.put{kvs:List (κ×V)}{vs:List (κ×B5)}(r:KV kvs vs)(k:κ)(a:RelV y u):KV (putK kvs k y) (stored vs k u):=by
 unfold putK stored;rw[r.any k];by_cases e:(vs.any λb=>decide (b.1=k))=true
 ·rw[if_pos e,if_pos e];exact r.IW k a
 ·rw[if_neg e,if_neg e];exact Paired.snoc r ⟨rfl,a⟩
theorem KV.drop{kvs:List (κ×V)}{vs:List (κ×B5)}(r:KV kvs vs)(k:κ):KV (kz kvs k) (without vs k):=by
 unfold KV at r⊢;unfold kz without
 induction r with
 |nil=>exact .nil
 | @cons p q ps f h t c=>
  obtain⟨h1,h2⟩:=h;rw[Vj,Vj];by_cases e:p.1=k
  ·have a:¬decide (p.1≠k)=true:=by simp[e]
   have b:¬decide (q.1≠k)=true:=by simp[h1.symm.trans e]
   rw[if_neg a,if_neg b];exact c
  ·have d:¬q.1=k:=λz=>e (h1.trans z)
   have a:decide (p.1≠k)=true:=by simp[e]
   have b:decide (q.1≠k)=true:=by simp[d]
   rw[if_pos a,if_pos b];exact .cons ⟨h1,h2⟩ c
theorem KV.length{kvs:List (κ×V)}{vs:List (κ×B5)}(r:KV kvs vs):kvs.length=vs.length:=Q_ r
theorem BY(kvs:List (κ×V))(k:κ):(kz kvs k).length<=kvs.length:=PP _ _
end
theorem ke{k:Key}(r:RelV (kV k) u):(bb P w).is k u=true:=by
 cases k with
 |inl i=>obtain⟨t,e⟩:=(show∃t,u=Rc i t from r);subst e;exact sO P w i t
 |inr x=>obtain⟨t,e⟩:=(show∃t,u=OG x t from r);subst e;exact tf P w x t
theorem qs:∀{ks:List Key}{us:List B5},Vals (ks.map kV) us->ItemsAre (bb P w) ks us
 |[],_,r=>by rw[QL]at r;cases r;exact .nil
 |k::ks,_,r=>by
  rw[Nq]at r
  cases r with
  |cons h t=>exact .cons (ke h) (qs t)
abbrev KT(H:Hp):List (List Key×V)->List (List Key×B3×B5)->Prop:=Paired λp q=>p.1=q.1/\H q.2.1=some (.tup (p.1.map kV))/\RelV p.2 q.2.2
theorem KT.val{xs:List (List Key×B3×B5)}(r:KT H kvs xs)(k:List Key):fm (cv kvs k) ((SM xs k).map (·.2)):=by
 induction r with
 |nil=>exact Ov
 | @cons p q ps a h t d=>
  obtain⟨h1,_,h2⟩:=h;by_cases e:p.1=k
  ·have c:q.1=k:=h1.symm.trans e
   have b:SM (q::a) k=some q.2:=by simp[SM,Qb,c]
   rw[cC e,b];exact h2
  ·have c:¬q.1=k:=λz=>e (h1.trans z)
   have b:SM (q::a) k=SM a k:=by simp[SM,Qb,c]
   rw[ck e,b];exact d
theorem KT.IW{xs:List (List Key×B3×B5)}(r:KT H kvs xs)(k:List Key)(b:RelV y u):
  KT H (kvs.map λa=>if a.1=k then(a.1,y)else a) (xs.map (putAt k u)):=by
 induction r with
 |nil=>exact .nil
 | @cons p q ps f h t d=>
  rw[Nq,Nq];refine .cons ?_ d;obtain⟨h1,h2,c⟩:=h;unfold putAt;by_cases e:p.1=k
  ·rw[if_pos e,if_pos (h1.symm.trans e)];exact⟨h1,h2,b⟩
  ·rw[if_neg e,if_neg (λz=>e (h1.trans z))];exact⟨h1,h2,c⟩
theorem KT.put{xs:List (List Key×B3×B5)}(r:KT H kvs xs)(k:List Key)(d:H b=some (.tup (k.map kV)))(a:RelV y u):
  KT H (putK kvs k y) (storedH xs k b u):=by
 have e:(kvs.any λc=>decide (c.1=k))=(SM xs k).isSome:=by
  rw[ia,(r.val k).kN,UX]
 unfold putK storedH;rw[e];by_cases q:(SM xs k).isSome=true
 ·rw[if_pos q,if_pos q];exact r.IW k a
 ·rw[if_neg q,if_neg q];exact Paired.snoc r ⟨rfl,d,a⟩
theorem KT.keeps{xs:List (List Key×B3×B5)}(r:KT H kvs xs)(a:∀b ys,H b=some (.tup ys)->H' b=some (.tup ys)):KT H' kvs xs:=
 Paired.Ib r λ_ _ z=>⟨z.1,a _ _ z.2.1,z.2.2⟩
section
variable{h:ON}
theorem Gr{u:HO}(ok:ju P w H h)(e:Rd H a u):cj P w H h a u:=e.ok ok
theorem i_{kvs:List (Key×V)}(ok:ju P w H h)(e:Rd H a (.dK kvs)):kvs.length<=sizeLine/\(a==O1)=false/\∃vs,KV kvs vs/\h.DictOf (bb P w) a vs:=
 show cj P w H h a (.dK kvs)from Gr ok e
theorem uQ{kvs:List (Key×V)}(ok:ju P w H h)(e:H a=some (.dK kvs)):kvs.length<=sizeLine/\(a==O1)=false/\∃vs,KV kvs vs/\h.DictOf (bb P w) a vs:=i_ ok (.inl e)
theorem nu{ks:List Key}(ok:ju P w H h)(e:H a=some (.tup (ks.map kV))):(RN (bb P w)).is h ks a:=by
 obtain⟨_,its,r,o,h1,h2,n,b⟩:=(show cj P w H h a (.tup (ks.map kV))from ok a _ e);exact⟨o,its.toArray,n,h1,h2,b,by simpa using qs r⟩
theorem pP(ok:ju P w H h)(e:Rd H a (.dT kvs)):kvs.length<=sizeLine/\(a==O1)=false/\
  ∃xs,KT H kvs xs/\h.DictOfH (RN (bb P w)) a xs:=by
 obtain⟨z,y,xs,r,o,es,ep,h1,h2,f,c,d⟩:=(show cj P w H h a (.dT kvs)from Gr ok e);refine⟨z,y,xs,r,o,es,ep,h1,h2,f,c,λx hx=>?_,d⟩
 have all:∀{l:List (List Key×V)}{m:List (List Key×B3×B5)},KT H l m->∀x∈m,(RN (bb P w)).is h x.1 x.2.1:=by
  intro l m q
  induction q with
  |nil=>intro x hx;exact nomatch hx
  | @cons p q ps i b t g=>
   intro x hx
   rcases List.mem_cons.mp hx with e|hx
   ·subst e;exact nu ok (by rw[<-b.1];exact b.2.1)
   ·exact g x hx
 exact all r x hx
theorem JR(ok:ju P w H h)(e:H a=some (.dT kvs)):kvs.length<=sizeLine/\(a==O1)=false/\
  ∃xs,KT H kvs xs/\h.DictOfH (RN (bb P w)) a xs:=pP ok (.inl e)
end
def fR(H:Hp)(a:B3)(y:V)(r:Option V):Prop:=
 (∃kvs k,Rd H a (.dK kvs)/\y=kV k/\r=cv kvs k)∨∃kvs k b,Rd H a (.dT kvs)/\y= .ref b/\H b=some (.tup (k.map kV))/\r=cv kvs k
def nv(H:Hp)(a:B3)(y v:V)(H':Hp):Prop:=
 (∃kvs k,H a=some (.dK kvs)/\y=kV k/\kvs.length<sizeLine/\H'=upd H a (.dK (putK kvs k v)))∨
 ∃kvs k b,H a=some (.dT kvs)/\y= .ref b/\H b=some (.tup (k.map kV))/\kvs.length<sizeLine/\H'=upd H a (.dT (putK kvs k v))
theorem fR.k{kvs:List (Key×V)}{k:Key}(e:H a=some (.dK kvs)):fR H a (kV k) (cv kvs k):= .inl ⟨kvs,k,.inl e,rfl,rfl⟩
theorem fR.t{k:List Key}(e:H a=some (.dT kvs))(c:H b=some (.tup (k.map kV))):fR H a (.ref b) (cv kvs k):= .inr ⟨kvs,k,b,.inl e,rfl,c,rfl⟩
theorem nv.k{kvs:List (Key×V)}{k:Key}(e:H a=some (.dK kvs))(hl:kvs.length<sizeLine):nv H a (kV k) v (upd H a (.dK (putK kvs k v))):= .inl ⟨kvs,k,e,rfl,hl,rfl⟩
theorem nv.t{k:List Key}(e:H a=some (.dT kvs))(c:H b=some (.tup (k.map kV)))(hl:kvs.length<sizeLine):
  nv H a (.ref b) v (upd H a (.dT (putK kvs k v))):= .inr ⟨kvs,k,b,e,rfl,c,hl,rfl⟩
theorem Inv.big(I:Inv X pins σ H s):O1<s.heap.objs.size:=by
 have h:Nr<s.heap.objs.size:=(I.mod.glob.keeps I.bk).lt;exact Nat.lt_trans (by decide) h
theorem zv(q:A.units+1<OX)(I:Inv X pins σ H s)(g:fR H a y (some v))(n:RelV y u)(h:∀f s',Inv X pins σ H s'->RelV v f->Q f s'):
  GT (Nk X.prog X.w) A (QY (.ref a) u) Q E s:=by
 rcases g with⟨kvs,k,e,i,l⟩|⟨kvs,k,b,e,i,r,l⟩
 ·subst i;obtain⟨z,hd,vs,d,dd⟩:=i_ I.hok e;obtain⟨f,m,c⟩:=fm.some_of (v:=v) (o:=Qw vs k) (by rw[l];exact d.val k);exact wpAny_getItem_of (ke n) dd.mapOf m (h f _ (I.tok _) c)
 ·subst i
  cases(show u=KB b from n)
  obtain⟨z,hd,xs,d,dd⟩:=pP I.hok e;obtain⟨f,m,c⟩:=fm.some_of (v:=v) (o:=(SM xs k).map (·.2)) (by rw[l];exact d.val k);obtain⟨p,t,j⟩:=Option.map_eq_some_iff.mp m;refine wpAny_getItem_heap (QP q) (nu I.hok r) dd t ?_;rw[j];exact h f _ (I.tok _) c
theorem Mm(i:A.units+1<OX)(I:Inv X pins σ H s)(g:fR H a y o)(f:RelV y u)(h:∀s',Inv X pins σ H s'->Q (.bool o.isSome) s'):
  GT (Nk X.prog X.w) A (Os .In u (.ref a)) Q E s:=by
 rcases g with⟨kvs,k,e,d,l⟩|⟨kvs,k,b,e,d,j,l⟩
 ·subst d;obtain⟨z,hd,vs,c,dd⟩:=i_ I.hok e;refine wpAny_in_of (ke f) hd dd.mapOf ?_;rw[<-(c.val k).kN,<-l];exact h _ (I.tok _)
 ·subst d
  cases(show u=KB b from f)
  obtain⟨z,hd,xs,c,dd⟩:=pP I.hok e;refine wpAny_in_heap (QP i) (nu I.hok j) hd dd ?_;have q:=(c.val k).kN;rw[UX]at q;rw[<-q,<-l];exact h _ (I.tok _)
theorem iM{c:HO}(I:Inv X pins σ H s)(f:Lx (H a))(g:OW a s.heap h')(he:∃q,h'.get? a=some q)(d:cj X.prog X.w (upd H a c) h' a c):
  Inv X pins σ (upd H a c) {s with heap:=h',toks:=t'}:=
 I.write (x:=a) (e:=a) f (.inl rfl) (λb q h z=>(g.2 b h).trans z) he d
theorem nL{kvs:List (Key×V)}{vs:List (Key×B5)}(z:kvs.length<=sizeLine)(hd:(a==O1)=false)(b:KV kvs vs)(dd:h'.DictOf (bb P w) a vs):
  cj P w H' h' a (.dK kvs):=⟨z,hd,vs,b,dd⟩
theorem zQ{Q:Unit->Gc->Prop}(F:A.units+1<OX)(I:Inv X pins σ H s)(g:nv H a y v H')(B:RelV y u)(x:RelV v r)(h:∀s',Inv X pins σ H' s'->Q () s'):
  GT (Nk X.prog X.w) A (setItem (.ref a) u r) Q E s:=by
 rcases g with⟨kvs,k,e,n,l,o⟩|⟨kvs,k,b,e,n,p,l,o⟩
 ·subst n o;obtain⟨z,hd,vs,d,dd⟩:=uQ I.hok e
  have j:vs.length<=sizeLine:=by rw[<-d.length];exact z
  have hl:(putK kvs k v).length<=sizeLine:=by have :=dz kvs k v;lia
  refine wpAny_setItem_pairs (hsz:=j) (ke B) dd λh' f m=>h _ ?_;have he:∃q,h'.get? a=some q:=let⟨q,_,_,i,_⟩:=f;⟨q,i⟩;exact iM I (by rw[e];exact Ov) m he (nL hl hd (d.put k x) f)
 ·subst n o
  cases(show u=KB b from B)
  obtain⟨z,hd,xs,d,dd⟩:=JR I.hok e
  have j:xs.length<=sizeLine:=by rw[<-Q_ d];exact z
  have hl:(putK kvs k v).length<=sizeLine:=by have :=dz kvs k v;lia
  refine wpAny_setItem_heap (hsz:=j) (QP F) (nu I.hok p) dd λh' f m=>h _ ?_;obtain⟨q,es,ep,i,h2,G,D,_,C⟩:=f;refine iM I (by rw[e];exact Ov) m ⟨q,i⟩ ⟨hl,hd,_,(d.put k p x).keeps λc ys t=>?_,q,es,ep,i,h2,G,D,C⟩;rw[ak (jV t e (λz=>nomatch z))];exact t
section
variable{kvs:List (Key×V)}{k:Key}
theorem Lr{more:List B5}(I:Inv X pins σ H s)(e:H a=some (.dK kvs))(f:RelV (kV k) u)(l:cv kvs k=some v)(hm:more=[]∨∃x,more=[x])(h:∀c s',Inv X pins σ (upd H a (.dK (kz kvs k))) s'->RelV v c->Q c s'):GT (Nk X.prog X.w) A (call (.builtin "dict.pop") (.ref a::u::more)) Q E s:=by
 obtain⟨z,hd,vs,b,dd⟩:=uQ I.hok e;obtain⟨c,j,g⟩:=fm.some_of (v:=v) (o:=Qw vs k) (by rw[<-l];exact b.val k)
 have m:(keyPart u).isSome=true:=by
  cases k with
  |inl i=>obtain⟨t,q⟩:=(show∃t,u=Rc i t from f);subst q;rfl
  |inr x=>obtain⟨t,q⟩:=(show∃t,u=OG x t from f);subst q;rfl
 have ha:Ro "dict.pop" ⟨.ref a::u::more,[]⟩:=by
  rcases hm with q|⟨x,q⟩
  ·subst q;exact PySem.F.args_dict_pop_2 _ _
  ·subst q;exact Tq _ _ _
 refine Ql RD dd.typeIs TN ha (meets_dict_pop_there (bb X.prog X.w) a (ke f) more hm m)
  ⟨vs,c,dd,by rw[<-b.length];exact z,j,λh' d n=>h c _ ?_ g⟩
 have he:∃q,h'.get? a=some q:=let⟨q,_,_,hq,_⟩:=d;⟨q,hq⟩;exact iM I (by rw[e];exact Ov) n he (nL (NW (BY kvs k) z) hd (b.drop k) d)
theorem I0(I:Inv X pins σ H s)(e:H a=some (.dK kvs))(b:RelV (kV k) u)(l:cv kvs k=none)(h:∀s',Inv X pins σ H s'->Q r s'):
  GT (Nk X.prog X.w) A (call (.builtin "dict.pop") [.ref a,u,r]) Q E s:=by
 obtain⟨z,hd,vs,c,dd⟩:=uQ I.hok e;have hn:Qw vs k=none:=fm.none_of (by rw[<-l];exact c.val k)
 have d:(keyPart u).isSome=true:=by
  cases k with
  |inl i=>obtain⟨t,q⟩:=(show∃t,u=Rc i t from b);subst q;rfl
  |inr x=>obtain⟨t,q⟩:=(show∃t,u=OG x t from b);subst q;rfl
 exact Ql RD dd.typeIs TN (Tq _ _ _) (meets_dict_pop_default (bb X.prog X.w) a (ke b) hd d r) ⟨vs,dd,hn,h _ (I.tok _)⟩
end
def Ll(i:Expr):Prop:=∀a b,Sm i false a b=operate [a,b] (QY a b)
theorem Eu{slice:Expr}{T id:String}(hl:R1 (.type T) "__getitem__"=pure (some (.builtin id)))(k:Ll slice)(h:GT (Nk prog w) A (OI value env) (λo c=>GT (Nk prog w) A (OI slice env) (λi a=>a.TypeIs o T/\GT (Nk prog w) A (QY o i) Q E a) E c) E s):
  GT (Nk prog w) A (OI (.Subscript value slice pos) env) Q E s:=by
 refine UE (OR h (λo c f=>OR f (λi a b=>?_) λ_ _ x=>x) λ_ _ x=>x);obtain⟨j,b⟩:=b;unfold Ta;refine AC ?_;rw[getitemInPython_of_ne j.not_modules];refine AC (Pk j hl ?_)
 have e:GT (Nk prog w) A (Sm slice false o i) (λr d=>GT (Nk prog w) A (letTemporaryGo value o r >>=λ_=>pure r) Q E d) E a:=by
  rw[k o i];exact wpAny_operating (OR b (λr d g=>AC (wpAny_letTemporaryGo (Fk g))) λ_ _ x=>x)
 first
  |exact Fk (AC e)
  |exact AC (Fk (AC e))
  |exact AC e
theorem tD(I:Inv X pins σ H s)(g:fR H a y o):s.TypeIs (.ref a) "dict":=by
 rcases g with⟨kvs,k,e,_,_⟩|⟨kvs,k,b,e,_,_,_⟩
 ·obtain⟨_,_,vs,_,dd⟩:=i_ I.hok e;exact dd.typeIs
 ·obtain⟨_,_,xs,_,dd⟩:=pP I.hok e;exact dd.typeIs
inductive Iy(Q:VK)(x:V)(y:V)(H2:Hp):Prop
 |mk (a:_) (v:_) (c0:x= .ref a) (c1:fR H2 a y (some v)) (c2:Q v H2)
def Gq(td ty:TE):TE:=λσ H Q=>td σ H λx H1=>ty σ H1 λy H2=>Iy Q x y H2
inductive Lg(Q:VK)(y:V)(x:V)(H2:Hp):Prop
 |mk (a:_) (o:_) (c0:x= .ref a) (c1:fR H2 a y o) (c2:Q (.bl o.isSome) H2)
def LU(ty td:TE):TE:=λσ H Q=>ty σ H λy H1=>td σ H1 λx H2=>Lg Q y x H2
inductive Ha(D:Ends)(σ:St)(v:V)(x:V)(y:V)(H3:Hp):Prop
 |mk (a:_) (H4:_) (c0:x= .ref a) (c1:nv H3 a y v H4) (c2:D.nx σ H4)
def Kr(td ty tv:TE):TS:=λD σ H=>tv σ H λv H1=>td σ H1 λx H2=>ty σ H2 λy H3=>Ha D σ v x y H3
section
variable{o i e:Expr}{pos' tpos:Pos}
theorem bR(e:X.A.units+1<OX)(p:PE X o td)(hi:PE X i ty)(q:Ll i):PE X (.Subscript o i pos) (Gq td ty):=by
 intro pins s σ H Q I h;refine Eu PySem.F.slot_dict_getitem.lookup q (bS (p pins s σ H _ I h) λu s1 ⟨x,H1,l,m,f⟩=>bS (hi pins s1 σ H1 _ l f) λw s2 b=>?_);obtain⟨y,H2,d,j,a,v,ex,g,n⟩:=b;subst ex;obtain rfl:u=KB a:=m;exact⟨tD d g,zv e d g j λr t k c=>⟨v,H2,k,c,n⟩⟩
theorem xp(d:X.A.units+1<OX)(hi:PE X i ty)(p:PE X o td):PC X .In i o (LU ty td):=by
 intro pins s σ H Q I h;refine bS (hi pins s σ H _ I h) λr s1 ⟨y,H1,k,f,e⟩=>bS (p pins s1 σ H1 _ k e) λu s2 b=>?_;obtain⟨x,H2,l,m,a,c,ex,g,n⟩:=b;subst ex;obtain rfl:u=KB a:=m;exact Mm d l g f λq j=>⟨.bl c.isSome,H2,j,rfl,n⟩
theorem jT(p:X.A.units+1<OX)(l:PE X o td)(hi:PE X i ty)(n:PE X value tv)(m:RO value (some (.Subscript o i pos')) pos.line X.env=pure false):
  PS X (.Assign [.Subscript o i pos'] value pos) (Kr td ty tv):=by
 intro pins s σ H D I h;refine wpAny_Assign_Subscript (bS (n pins s σ H _ I h) λr s1 ⟨v,H1,d,f,b⟩=>bS (l pins s1 σ H1 _ d b) λu s2 ⟨x,H2,e,j,w⟩=>bS (hi pins s2 σ H2 _ e w) λC B ⟨y,H3,c,q,a,H4,ex,g,t⟩=>?_) m;subst ex;obtain rfl:u=KB a:=j;exact zQ p c g q f λz k=>⟨σ,H4,k,t⟩
end
theorem ub(h:ON)(a:O1<h.objs.size):cj P w H (h.push {cls:= .type "dict",data:= .dict #[]}) h.objs.size (.dK []):=
 ⟨Nl _,beq_eq_false_iff_ne.mpr (B9 (Nn a)),[],.nil,Heap.DictOf.new h⟩
theorem AZ(h:ON)(a:O1<h.objs.size):cj P w H (h.push {cls:= .type "dict",data:= .dict #[]}) h.objs.size (.dT []):=
 ⟨Nl _,beq_eq_false_iff_ne.mpr (B9 (Nn a)),[],.nil,_,#[],0,KM _ rfl,⟨rfl,rfl,rfl⟩,rfl,rfl,SW⟩
def Ic:TE:=λ_ H Q=>∀p,H p=none->Q (.ref p) (upd H p (.dK []))
def HX:TE:=λ_ H Q=>∀p,H p=none->Q (.ref p) (upd H p (.dT []))
theorem gk:PE X (.Dict [] [] pos) Ic:=λpins s σ H Q I h=>
 U7 ⟨.ref s.heap.objs.size,_,I.laid (a:=s.heap.objs.size) (o:= .dK []) (t':=s.toks) (λ_ _ q=>B4 _ q) (B2 _) (ub s.heap I.big),rfl,h _ (I.hok.fresh (B2 _))⟩
theorem CF:PE X (.Dict [] [] pos) HX:=λpins s σ H Q I h=>
 U7 ⟨.ref s.heap.objs.size,_,I.laid (a:=s.heap.objs.size) (o:= .dT []) (t':=s.toks) (λ_ _ q=>B4 _ q) (B2 _) (AZ s.heap I.big),rfl,h _ (I.hok.fresh (B2 _))⟩
def wq:List (TE×TE)->St->Hp->(List (V×V)->Hp->Prop)->Prop
 |[],_,H,Q=>Q [] H
 |(tk,tv)::r,σ,H,Q=>tk σ H λx H1=>tv σ H1 λy H2=>wq r σ H2 λps H3=>Q ((x,y)::ps) H3
abbrev VV:List (V×V)->List (B5×B5)->Prop:=Paired λp q=>RelV p.1 q.1/\RelV p.2 q.2
def LC(X:Cx)(pos:Pos)(keys:List (Option Expr))(a:List Expr)(trs:List (TE×TE)):Prop:=
 ∀(pins:List (B3×Obj))(s:Gc)(σ:St)(H:Hp)(Q:List (V×V)->Hp->Prop),Inv X pins σ H s->wq trs σ H Q->
  GT (Nk X.prog X.w) X.A (evalPairs (pairTrees keys a X.env pos)) (λvs s'=>∃ps H',Inv X pins σ H' s'/\VV ps vs/\Q ps H') X.xe s
theorem eQ:LC X pos [] [] []:=λpins s σ H Q I h=>pairTrees_nil_walk ⟨[],H,I,.nil,h⟩
theorem bF{k v:Expr}{ks:List (Option Expr)}{vs:List Expr}{tk:TE}(n:PE X k tk)(c:PE X v tv)(o:LC X pos ks vs trs):
  LC X pos (some k::ks) (v::vs) ((tk,tv)::trs):=λpins s σ H Q I h=>
 pairTrees_cons_walk (bS (n pins s σ H _ I h) λu s1 ⟨x,H1,i,l,d⟩=>bS (c pins s1 σ H1 _ i d) λw2 s2 ⟨y,H2,j,e,m⟩=>
  bS (o pins s2 σ H2 _ j m) λws p a=>by obtain⟨ps,H3,f,b,g⟩:=a;exact⟨(x,y)::ps,H3,f,.cons ⟨l,e⟩ b,g⟩)
noncomputable def kM(kvs more:List (Key×V)):List (Key×V):=more.foldl (λa b=>putK a b.1 b.2) kvs
theorem KV.merge:∀{more:List (Key×V)}{rs:List (Key×B5)}{kvs:List (Key×V)}{vs:List (Key×B5)},KV more rs->KV kvs vs->KV (kM kvs more) (merged vs rs):=by
 intro more rs kvs vs r;unfold KV at r
 induction r generalizing kvs vs with
 |nil=>intro q;exact q
 | @cons p q ps c h t b=>
  intro a
  have e:KV (putK kvs p.1 p.2) (stored vs q.1 q.2):=by
   have :=a.put p.1 h.2;rw[<-h.1];exact this
  exact b e
theorem iY:∀(more kvs:List (Key×V)),(kM kvs more).length<=kvs.length+more.length
 |[],kvs=>by show kvs.length<=kvs.length+0;exact Lw
 |p::r,kvs=>by
  have h1:=iY r (putK kvs p.1 p.2);have h2:=dz kvs p.1 p.2;show(kM (putK kvs p.1 p.2) r).length<=_;rw[FB];lia
theorem mQ{P:Og}{w:Ox}:∀{kvs:List (Key×V)}{ws:List (B5×B5)},VV (kvs.map λd=>(kV d.1,d.2)) ws->∃rs,Carries (bb P w) ws rs/\KV kvs rs
 |[],_,r=>by rw[QL]at r;cases r;exact⟨[],Ov,.nil⟩
 |p::kvs,_,r=>by
  rw[Nq]at r
  cases r with
  | @cons a b as bs h t=>
   obtain⟨rs,c,q⟩:=mQ (P:=P) (w:=w) t;obtain⟨b1,e⟩:=b;exact⟨(p.1,e)::rs,⟨ke h.1,rfl,c⟩,.cons ⟨rfl,h.2⟩ q⟩
def Kz(trs:List (TE×TE)):TE:=λσ H Q=>∀p,H p=none->wq trs σ (upd H p (.dK [])) λps H2=>H2 p=some (.dK [])/\∃kvs:List (Key×V),ps=kvs.map (λa=>(kV a.1,a.2))/\kvs.length<=15/\Q (.ref p) (upd H2 p (.dK (kM [] kvs)))
theorem eU{keys:List (Option Expr)}{b:List Expr}(h:LC X pos keys b trs)(f:keys.all (·.isSome)=true)(hl:keys.length=b.length)(h0:keys≠[])(g:keys.length<=15):PE X (.Dict keys b pos) (Kz trs):=by
 intro pins s σ H Q I q;have hn:=I.hok.fresh (B2 s.heap.objs.size);have n:=I.laid (a:=s.heap.objs.size) (o:= .dK []) (h':=s.heap.push {cls:= .type "dict",data:= .dict #[]}) (t':=s.toks) (λ_ _ q=>B4 _ q) (B2 _) (ub s.heap I.big);refine wpAny_Dict_walk (knd:=bb X.prog X.w) f hl h0 g (bS (h pins _ σ _ _ n (q _ hn)) λws s2 i=>?_);obtain⟨ps,H2,k,j,e,kvs,ep,lk,t⟩:=i;subst ep;obtain⟨rs,c,rk⟩:=mQ (P:=X.prog) (w:=X.w) j;obtain⟨z,hd,m,r,dd⟩:=uQ k.hok e
 cases r
 refine⟨rs,c,dd,λh' d p=>⟨.ref s.heap.objs.size,_,?_,rfl,t⟩⟩
 have l:(kM [] kvs).length<=sizeLine:=by
  have h1:=iY kvs [];rw[RA]at h1;rw[O8];lia
 have he:∃q,h'.get? s.heap.objs.size=some q:=let⟨q,_,_,hq,_⟩:=d;⟨q,hq⟩;exact iM k (by rw[e];exact Ov) p he (nL l hd (rk.merge .nil) d)
structure M2(X:Cx)(o:Expr)(m:Str)(apos:Pos)(e f:Expr)(cpos:Pos):Prop where
 base:P5 o m X.env (OI o X.env)=OI o X.env
 few:((Pr cpos (Nx [e,f] X.env)).all (λx=> !x.1)&&(PH cpos (OP [] X.env)).all (λx=>x.1.isSome)
  &&decide (([e,f]:List Expr).length+([]:List Q2).length+(if([]:List Q2).isEmpty then 0 else 1)<30))=true
 line:(apos.endLine==cpos.line)=true
 trees:Pr cpos (Nx [e,f] X.env)=[(false,OI e X.env),(false,OI f X.env)]
def Mz(H:Hp)(a:B3):Prop:=(∃kvs,Rd H a (.dK kvs))∨∃kvs,Rd H a (.dT kvs)
theorem IJ(I:Inv X pins σ H s)(d:Mz H a):
  s.TypeIs (.ref a) "dict"/\(∀b,KB a= .ref b->∃c,s.heap.get? b=some c/\c.dict=none)/\(a==O1)=false:=by
 rcases d with⟨kvs,e⟩|⟨kvs,e⟩
 ·obtain⟨_,hd,vs,_,dd⟩:=i_ I.hok e;refine⟨dd.typeIs,λb q=>?_,hd⟩
  cases q
  obtain⟨c,_,_,h1,h2,_⟩:=dd;exact⟨c,h1,h2.2.1⟩
 ·obtain⟨_,hd,xs,_,dd⟩:=pP I.hok e;refine⟨dd.typeIs,λb q=>?_,hd⟩
  cases q
  obtain⟨c,_,_,h1,h2,_⟩:=dd;exact⟨c,h1,h2.2.1⟩
theorem Ie(n:A.units+1<OX)(I:Inv X pins σ H s)(g:fR H a y o)(j:RelV y u)(m:RelV d r)(h:∀i s',Inv X pins σ H s'->RelV (o.getD d) i->Q i s'):
  GT (Nk X.prog X.w) A (call (.builtin "dict.get") [.ref a,u,r]) Q E s:=by
 rcases g with⟨kvs,k,e,f,l⟩|⟨kvs,k,b,e,f,p,l⟩
 ·subst f;obtain⟨z,hd,vs,c,dd⟩:=i_ I.hok e;refine Ql RE dd.typeIs TQ (Tr _ _ _) (meets_dict_get_default (bb X.prog X.w) a (ke j) hd r) ⟨_,dd.mapOf,h _ _ (I.tok _) ?_⟩;rw[l];exact(c.val k).getD m
 ·subst f
  cases(show u=KB b from j)
  obtain⟨z,hd,xs,c,dd⟩:=pP I.hok e;refine Ql RE dd.typeIs TQ (Tr _ _ _) (meetsH_dict_get_default (RN (bb X.prog X.w)) a b hd r) ⟨QP n,k,xs,nu I.hok p,dd,h _ _ (I.tok _) ?_⟩;rw[l];exact(c.val k).getD m
def Hu(td ty tx:TE):TE:=λσ H Q=>td σ H λx H1=>∃a,x= .ref a/\Mz H1 a/\ty σ H1 λy H2=>tx σ H2 λz H3=>∃o,fR H3 a y o/\Q (o.getD z) H3
section
variable{o e f:Expr}{apos cpos:Pos}{tx:TE}
theorem DJ(t:X.A.units+1<OX)(q:PE X o td)(he:PE X e ty)(r:PE X f tx)(m:M2 X o "get" apos e f cpos):PE X (.Call (.Attribute o "get" apos) [e,f] [] cpos) (Hu td ty tx):=by
 intro pins s σ H Q I h;refine UT m.base m.few m.line OZ RE PySem.F.type_dict_get (bS (q pins s σ H _ I h) λu s1 c=>?_);obtain⟨x,H1,i,n,a,ex,d,j⟩:=c;subst ex;obtain rfl:u=KB a:=n;obtain⟨B,D,_⟩:=IJ i d;refine⟨B,D,?_⟩;rw[m.trees]
 refine Qq rfl (Ur (Qk (bS (he pins s1 σ H1 _ i j) λM s2 ⟨y,H2,l,v,E⟩=>
  Qk (bS (r pins s2 σ H2 _ l E) λN L ⟨z,H3,k,w,G,g,C⟩=>Q3 ?_))))
 exact Ie t k g v w λK J p b=>⟨_,H3,p,b,C⟩
end
end L2
namespace S2
open PySem L2
theorem af.put{H H2:Hp}{l:B3}{o:HO}(s:af H H2)(hn:H l=none):af H (upd H2 l o):=λb u e=>by
 rw[ak (aI e hn)];exact s b u e
theorem bw{α:Type}{l:List α}{i:Nat}{x:α}(h:l[i]? =some x):i<l.length:=(List.getElem?_eq_some_iff.mp h).1
variable{n:Nat}{c:Bool}
theorem small(h:n<=100000):n<sizeLine:=QS h (by decide)
theorem aG(h:n<=100000):n<=sizeLine:=Sa (small h)
theorem Hc{α:Type}{xs:List α}{z:Int}{j:Nat}{v:α}(e:z=(j:Int))(h:xs[j]? =some v):jX xs z=some v:=by
 rw[e];exact aN h
theorem dH{A B:Prop}(h:c=true)(a:A):if c=true then A else B:=by rw[if_pos h];exact a
theorem br{A B:Prop}(h:c=false)(b:B):if c=true then A else B:=by rw[if_neg (by rw[h];exact FS)];exact b
theorem fb{z:Int}(h0:0<=z)(h1:z<(n:Int)):∃i:Nat,z=(i:Int)/\i<n:=⟨z.toNat,by lia,by lia⟩
end S2
namespace L2
open PySem PySem.Spec PyProof.Rows
variable{X:Cx}{us:List B5}{xs:List V}{e elt iter:Expr}{es ifs:List Expr}{f a b:B3}{fd:O4}{p pos py spos px:Pos}{ps N N':List Str}{sp:Sp}{x q y:Str}{A:PR}{H H2:Hp}{K:mo}{P:Og}{base h':ON}{mg:Str->Option B5}{s:Gc}{sc scope:Qs}{w:Ox}{n i kk:Nat}{cl:List (Str×B3)}{fp:List B3}{pins:List (B3×Obj)}{σ:St}{E:B5->Gc->Prop}{J:It}{Q:VK}{te:TE}{tt:TT}{wi:TI}
theorem iR(r:Vals xs us)(j:Nat)(h1:j<us.toArray.size):∃x,xs[j]? =some x/\RelV x us.toArray[j]:=by
 have c:=r.length;rw[B8]at h1
 have g1:j<xs.length:=by lia
 obtain⟨w1,a,b⟩:=r.get (i:=j) (x:=xs[j]) (by simp[g1])
 have s1:us.toArray[j]=w1:=by
  rw[B0 h1]at a;simpa using a
 exact⟨xs[j],by simp[g1],by rw[s1];exact b⟩
structure Cq(K:mo)(mg:Str->Option B5)(fd:O4)(f:B3)(ps:List Str)(x:Str):Prop where
 b:Binds K fd ps []
 m:mg x=some (.ref f)
 k:PY K (.ref f)=true
theorem pq{k:Nat}{t:TA}(F:av X.prog X.w X.K X.mg X.base aK k f fd ps sp)(h:eS k X.A)(c:Cq X.K X.mg fd f ps x)(ha:PA X (e::es) t)(g:Gl X x:=by rfl)(a:(x==("__debug__":Str))=false:=by decide)(he:Nx (e::es) X.env=(false,OI e X.env)::Nx es X.env:=by rfl)(d:(Pr pos (Nx es X.env)).any (·.1)=false:=by rfl):
  PE X (.Call (.Name x p) (e::es) [] pos) (ie sp [] E0 t):=FJ F h g c.m c.k c.b .nil GV ha a he d
theorem bO{CX:Ga}{cdv:B5}{outer:List Env}{E:XK}:(tO CX P w K mg base N q sc f cdv A outer s H E).Jl.K=K:=rfl
abbrev Nv(K:mo)(x:Str)(v:B5):Prop:=NN K Nr x=some (some v)
theorem My(h:us.length=0):us=[]:=NK h
theorem Jk(h:us.length=n+1):∃a vs,us=a::vs/\vs.length=n:=by
 cases us with
 |nil=>cases h
 |cons a vs=>exact⟨a,vs,rfl,Nat.succ.inj h⟩
theorem M4{P:List B5->Prop}(h:∀a vs,vs.length=n->P (a::vs))(us:List B5)(g:us.length=n+1):P us:=by
 obtain⟨a,vs,rfl,e⟩:=Jk g;exact h a vs e
theorem MM{P:List B5->Prop}(h:P [])(us:List B5)(g:us.length=0):P us:=by
 rw[My g];exact h
theorem cq{h:ON}{st:NG}(X:K.In h)(G:h.Ns Nr mg)(a:NN K Nr x=some (some (.ref f)))(F:aZ K x q st f fd)(g:∀(kV doc pm:B5)(an:Option B3)(cdv ct:B5)(us:List B5),us.length=ps.length->bindArgs (Py x q (gD st) (eV st) (aj st) .none kV doc pm an cdv ct) ⟨us,[]⟩=pure (ps.zip us):=by intro _ _ _ _ _ _;(repeat refine M4 λ_=>?_);exact MM rfl):Cq K mg fd f ps x:=⟨F.binds g,Nh X G a,F.kp⟩
theorem cD{P:List Str}(a:sc.kind= .function:=by rfl)(b:sc.isCoroutine=false:=by rfl)(c:sc.isGenerator=false:=by rfl)(d:N.Nodup:=by decide +kernel)(e:N.take P.length=P:=by rfl)(f:∀x∈P,sc.names.lookup x=some .local∨sc.names.lookup x=some .cell:=by decide +kernel)(g:∀y∈sc.names,y.2≠ .free:=by decide +kernel):aw N P sc:=⟨a,b,c,d,e,f,g⟩
theorem aZ.cI{qual:Str}{st:NG}{k:Nat}(F:aZ K x qual st f fd)(S:aw N ps (aj st))(a:∀(cdv:B5)(A:PR)(outer:List Env)(s:Gc)(H:Hp)(vs:List V)(Q:VK)(E:XK),eS k (A.deeper (envOfC qual (aj st) s.heap.objs.size f cdv))->sp vs H Q E->
   ∃t,wG (tO aK P w K mg base N qual (aj st) f cdv A outer s H E).Jl (eV st) t/\t {nx:=λ_ H'=>Q .non H',rt:=Q} (start N vs) H)(len:∀vs H Q E,sp vs H Q E->vs.length=ps.length:=by intro _ _ _ _ h;cases h;subst_vars;rfl):av P w K mg base aK (k+1) f fd ps sp:=F.ok S len a
noncomputable abbrev Cx.de(X:Cx)(N':List Str)(scope:Qs)(cl:List (Str×B3))(C:B3)(fp:List B3)(s:Gc)(H:Hp):Cx:=
 {X with N:=N',s₀:=s,H₀:=H,env:=compEnvC scope cl C X.env,outer:=X.stack,ex:=fp,fn:=λ_=>false,pn:=[],xe:=λ_ _=>False}
structure gG(X:Cx)(k:Nat)(N':List Str)(scope:Qs):Prop where
 kind:scope.kind= .function
 cell:∀y∈scope.names,y.2≠ .cell
 names:∀y∈scope.names,y.2= .local->scope.names.lookup y.1=some .local
 free:∀y∈scope.names,y.2= .free->X.env.kindOf y.1=some .cell∨X.env.kindOf y.1=some .free
 len:N'.length=k+X.N.length
 cap:∀i y,N'[k+i]? =some y->(X.N[i]? =some y/\uV scope X.env y=true)∨scope.names.lookup y=none
theorem za{k:Nat}{tk:Nat}{m:Str->Option B5}(S:gG X k N' scope)(I:Inv X pins σ H s)(Q:h'.Ns s.heap.objs.size m)(C:∀b o,s.heap.get? b=some o->h'.get? b=some o)(E:∀b∈fp,kH X pins H b)(ho:∀b∈fp,∃o,s.heap.get? b=some o)(a:∀y c,cl.lookup y=some c->X.env.cells.lookup y=some c)(f:∀y∈scope.names,y.2= .free->∃c,cl.lookup y.1=some c):
  Inv (X.de N' scope cl s.heap.objs.size fp s H) (X.pn++pins) (On k none++σ) H {s with heap:=h',toks:=tk}:=by
 refine⟨⟨I.ok.mod,S.kind,I.ok.glob,I.ok.blt,B2 _,λy z c h1 h2=>I.ok.inj y z c (a y c h1) (a z c h2),λy hy=>?_,λy c K=>absurd K FS,I.ok.hd,I.ok.frames,.inl rfl,λb g=>⟨?_,λy c e=>(E b g).2.2.2.2.1 y c (a y c e)⟩,
  I.bs,NW I.ok.bsz I.sz,λb o e g=>?_,λb g hs=>?_,I.stack,I.xN⟩,rfl,I.bare,Un.kept C,⟨m,Q,λi y v e1 B e3=>?_⟩,λy c e=>?_,I.fresh,λy c e=>I.freeC y c (a y c e),λp hp=>?_,I.hok.kept C,?_⟩
 ·have L:∃k,(k=Tf∨k=O9)/\(UU scope X.env).names.lookup y=some k:=by
   rcases hy with z|z
   ·exact⟨_,.inl rfl,z⟩
   ·exact⟨_,.inr rfl,z⟩
  obtain⟨k,J,e⟩:=L;obtain⟨F,j,r⟩:=nz e
  have R:F= .free:=by
   rcases r with r|r
   ·subst r
    rcases J with z|z
    ·subst z;exact absurd rfl (S.cell _ (O3 j))
    ·exact z
   ·exact r.1
  subst R;exact f (y,.free) (sN j) rfl
 ·obtain⟨o,e⟩:=ho b g;exact Nn (FM e)
 ·rcases(E b g).2.2.2.1 with z|z
  ·exact I.ok.noex b o e z
  ·exact absurd (NL (FM e) (NW I.ok.bsz z)) (OJ _)
 ·rcases List.mem_cons.mp (I.rf b hs)with z|z
  ·exact(E b g).2.1 z
  ·exact(E b g).2.2.1 z
 ·have N:N'[i]? =some y:=e1;by_cases x:i<k
  ·rw[KF (by simpa using x),Ts]at B;rw[if_pos x]at B
   cases B
  obtain⟨i,rfl⟩:∃d,i=k+d:=⟨i-k,by lia⟩
  have O:σ[i]? =some (some v):=by
   rw[GM (by simp)]at B;simpa using B
  have A:∃k,(UU scope X.env).names.lookup y=some k:=by
   rcases e3 with z|z|z
   ·exact⟨_,z⟩
   ·exact⟨_,z⟩
   ·exact⟨_,z⟩
  obtain⟨k,U⟩:=A;obtain⟨F,j,r⟩:=nz U
  rcases S.cap i y N with⟨T,P⟩|z0
  case inr=>rw[z0]at j;cases j
  unfold uV at P;rw[j]at P
  have R:F= .free:=by cases F<;>simp_all
  subst R
  have D:X.env.kindOf y=some .cell∨X.env.kindOf y=some .free:=by simpa using P
  obtain⟨m0,a0,G⟩:=I.loc;obtain⟨u,ru,l⟩:=G i y v T O (.inr D);refine⟨u,ru,.inr ?_⟩;obtain⟨W,w⟩:=f (y,.free) (sN j) rfl
  rcases l with⟨z,_⟩|⟨_,c,Y,⟨o,t,h⟩⟩
  ·rcases D with q|q<;>rw[z]at q<;>cases q
  ·have V:=a y W w;rw[Y]at V;have Z:c=W:=Kf V;subst Z;refine⟨?_,c,w,o,C _ _ t,h⟩
   rcases r with r|r
   ·subst r;exact .inr U
   ·obtain⟨_,r⟩:=r;subst r;exact .inl U
 ·obtain⟨v,o,t,h⟩:=I.cell y c (a y c e);exact⟨v,o,C _ _ t,h⟩
 ·have M:p∈X.pn++pins:=by simpa using hp
  obtain⟨e,n,ne,nf,d⟩:=I.pin p M;refine⟨C _ _ e,n,Nn (FM e),λz=>?_,d⟩
  rcases List.mem_cons.mp (I.rf p.1 z)with q|q
  ·exact ne q
  ·exact nf q
 ·show(On k none++σ).length=N'.length;rw[S.len,B1,PN,I.len]
def fC(J:It)(H1:Hp)(k:Nat)(σ:St)(g:TG)(tt:TT)(te:TE)(Q:VK):Prop:=∀D,H1 D=none->∃W:Nat->Nat->Hp->Prop,(∃m,W 0 m (upd H1 D (.lst [])))/\∀i m H,W i m H->
 (J.stop i H/\Q (.ref D) H)∨(J.go i H/\∀x H' ρ,ρ.length=k->J.yld i H x H'->g x (ρ++σ) H' λa H2=>(∃c:St,c.length=k/\a=c++σ)/\tt a H2 λb H3=>if b=true then te a H3 λy H4=>∃ys,H4 D=some (.lst ys)/\ys.length<sizeLine/\∃d,d<m/\W (i+1) d (upd H4 D (.lst (ys++[y])))
  else∃d,d<m/\W (i+1) d H3)
def Ji(wi:TI)(k:Nat)(g:TG)(tt:TT)(te:TE):TE:=λσ H Q=>wi σ H λJ H1=>fC J H1 k σ g tt te Q
section
variable{k:Nat}{tg:Expr}{g:TG}
theorem mG{s2:Gc}{it:B3}{tn:Nat->ON->Prop}{RR:B5->B3->SO->Gc->Prop}(S:gG X k N' scope)(x:X.calm=true)(G:(∀y c,cl.lookup y=some c->X.env.cells.lookup y=some c)/\∀y∈scope.names,y.2= .free->∃c,cl.lookup y.1=some c)(hg:∀cl C fp s H,PG (X.de N' scope cl C fp s H) tg g)(ht:∀cl C fp s H,Gn (X.de N' scope cl C fp s H) ifs tt)(he:∀cl C fp s H,PE (X.de N' scope cl C fp s H) elt te)(I2:Inv X pins σ H2 s2)(T:Turn X.prog X.w X.K tg J fp it tn)(F:tn 0 s2.heap)(f2:∀b∈fp,kH X pins H2 b)(q:fC J H2 k σ g tt te Q)(a8:∀D C s' H' t,Inv X pins σ H' s'->s'.heap.Ns C t->kH X pins H' C->Q (.ref D) H'->RR (.ref D) C (.ok .next) s'):
  GT (Nk X.prog X.w) X.A (newList []) (λa3 f=>GT (Nk X.prog X.w) X.A (newFunctionEnv scope X.env.globals cl [] X.env.qual none .none (some X.env)) (λB s4=>
   Px (Nk X.prog X.w) X.A (.compStart (.ListComp elt [⟨tg,iter,ifs,0⟩] scope pos) 0 (.ref it) a3 {B with scope:=UU scope X.env}) (RR a3 B.locals) s4) E f) E s2:=by
 obtain⟨O,a0⟩:=G;refine Oq (wpAny_newFunctionEnv S.cell (by intro y hy;simp at hy) (λh1 M I=>?_) S.kind);have I3:Inv X pins σ (upd H2 s2.heap.objs.size (.lst [])) {s2 with heap:=s2.heap.push {cls:= .type "list",data:= .seq ([]:List B5).toArray}}:=I2.Mg (t':=s2.toks) .nil (by simp);have hD:H2 s2.heap.objs.size=none:=I2.fresh;obtain⟨W,⟨m0,w0⟩,a1⟩:=q _ hD;generalize Y:({s2 with heap:=s2.heap.push {cls:= .type "list",data:= .seq ([]:List B5).toArray}}:Gc)=f at I3;have b8:({s2 with heap:=s2.heap.push {cls:= .type "list",dict:=none,data:= .seq ([]:List B5).toArray}}:Gc)=f:=Y;dsimp only at M I⊢;generalize b0:s2.heap.objs.size=D at *
 have eh:s2.heap.push {cls:= .type "list",dict:=none,data:= .seq ([]:List B5).toArray}=f.heap:=by rw[<-Y]
 rw[eh]at M I;have keep:∀b o,f.heap.get? b=some o->h1.get? b=some o:=λb o e=>I.extBut b o (Nn (FM e)) (B4 _ e)
 have objs:∀b∈fp,∃o,f.heap.get? b=some o:=λb a=>by
  obtain⟨o,e,_⟩:=T.obj _ _ F b a;rw[<-eh];exact⟨o,B4 _ e⟩
 have f3:∀b∈fp,kH X pins (upd H2 D (.lst [])) b:=λb a=>by
  obtain⟨o,e,_⟩:=T.obj _ _ F b a
  have ne:b≠D:=by rw[<-b0];exact Nn (FM e)
  exact⟨by rw[ak ne];exact(f2 b a).1,(f2 b a).2⟩
 have I4:Inv (X.de N' scope cl f.heap.objs.size fp f (upd H2 D (.lst []))) (X.pn++pins) (On k none++σ) (upd H2 D (.lst [])) {f with heap:=h1,toks:=f.toks+([]:List (Str×B5)).length}:=za S I3 M keep f3 objs O a0;have a2:tn 0 h1:=T.keep _ _ _ F λb a o e=>keep b o (by rw[<-eh];exact B4 _ e)
 have h:∀{H':Hp},(∀b∈fp,H' b=none)->∀b∈fp,kH (X.de N' scope cl f.heap.objs.size fp f (upd H2 D (.lst []))) (X.pn++pins) H' b:=λhn b a=>by
  refine⟨hn b a,(I4.ok.exf b a).1,I4.ok.exfs b a,.inl a,(I4.ok.exf b a).2,λp hp=>(f3 b a).2.2.2.2.2 p (by simpa using hp)⟩
 have l:Px (Nk X.prog X.w) X.A (.compLoop (.ListComp elt [⟨tg,iter,ifs,0⟩] scope pos) 0 (.ref it) (.ref D) (compEnvC scope cl f.heap.objs.size X.env)) (RR (.ref D) f.heap.objs.size) {f with heap:=h1,toks:=f.toks+([]:List (Str×B5)).length}:=by
  refine qL (λn s'=>∃i ρ H',Inv (X.de N' scope cl f.heap.objs.size fp f (upd H2 D (.lst []))) (X.pn++pins) (ρ++σ) H' s'/\ρ.length=k/\tn i s'.heap/\(∀b∈fp,H' b=none)/\W i n H') ?_ m0
   ⟨0,_,_,I4,by simp,a2,λb a=>(f3 b a).1,w0⟩
  rintro n s5 ⟨i,ρ,H5,I5,a6,U,P,w5⟩
  rcases a1 i n H5 w5 with⟨stop,qn⟩|⟨go,step⟩
  ·refine bS (T.done (X.de N' scope cl f.heap.objs.size fp f (upd H2 D (.lst []))) rfl rfl rfl x i _ s5 _ H5 _ I5 (h P) U stop) λr s6 d=>?_;obtain⟨hr,N⟩:=d;subst hr;obtain⟨m6,b7,_⟩:=N.loc;have I7:Inv X pins σ H5 s6:=I3.KY (ch:=fp) N.os N.base N.hok N.bare λb a=>⟨(f3 b a).2.2.2.1,(f3 b a).2.1,(f3 b a).2.2.2.2.1,(f3 b a).2.2.2.2.2⟩;exact a8 D f.heap.objs.size s6 H5 m6 I7 b7 (I3.mD (B2 _) N.free) qn
  ·refine bS (T.item (X.de N' scope cl f.heap.objs.size fp f (upd H2 D (.lst []))) rfl rfl rfl x i _ s5 _ H5 _ I5 (h P) U go) λr s6 d=>?_;obtain⟨u,hr,h6⟩:=d;subst hr;refine bS h6 λ_ s7 d=>?_;obtain⟨y,H7,I7,r7,y7,L,b1⟩:=d;have a4:=I7.pinned (h b1) (T.obj _ _ L);refine bS (hg _ _ _ _ _ _ s7 (ρ++σ) H7 y u _ a4 r7 (step y H7 ρ a6 y7)) λ_ s8 d=>?_;obtain⟨c1,H8,I8,⟨V,l2,e8⟩,q8⟩:=d;subst e8;refine bS (ht _ _ _ _ _ _ s8 _ H8 _ I8 q8) λok s9 d=>?_;obtain⟨H9,I9,q9⟩:=d
   have j:∀{H':Hp}{s':Gc}{t:Nat},Inv (X.de N' scope cl f.heap.objs.size fp f (upd H2 D (.lst []))) (X.pn++pins++oI fp s7.heap) (V++σ) H' s'->t<n->W (i+1) t H'->
     ∃m,m<n/\∃i ρ H',Inv (X.de N' scope cl f.heap.objs.size fp f (upd H2 D (.lst []))) (X.pn++pins) (ρ++σ) H' s'/\ρ.length=k/\tn i s'.heap/\(∀b∈fp,H' b=none)/\W i m H':=λ{H' s' t} I' hm R=>by
    have pin:∀b o,b∈fp->s7.heap.get? b=some o->s'.heap.get? b=some o/\H' b=none:=λb o a e=>by
     have z:=I'.pin (b,o) (ND _ (ND _ (jm a e)));exact⟨z.1,z.2.1⟩
    refine⟨t,hm,i+1,V,H',I'.jB,l2,T.keep _ _ _ L λb a o e=>(pin b o a e).1,λb a=>?_,R⟩;obtain⟨o',e,_⟩:=T.obj _ _ L b a;exact(pin b o' a e).2
   cases ok with
   |false=>
    rw[if_neg FS]at q9⊢;obtain⟨t,hm,R⟩:=q9;exact j I9 hm R
   |true=>
    rw[if_pos rfl]at q9⊢;refine bS (he _ _ _ _ _ _ s9 _ H9 _ I9 q9) λv b6 d=>?_;obtain⟨z,Z,a7,b3,b5⟩:=d;obtain⟨ys,a5,b2,t,hm,R⟩:=b5;refine bS (cR _ b6 _ Z (.ref D) [z] (.ref D) [v] (λ_ H'=>H'=upd Z D (.lst (ys++[z]))) a7 rfl (.cons b3 .nil) ⟨D,ys,z,rfl,rfl,a5,b2,rfl⟩) λ_ b9 d=>?_;obtain⟨_,c0,a9,_,b4⟩:=d;subst b4;exact j a9 hm R
 exact codeAny_compStart_list l (T.self _ 0 _ _ _ a2 l)
theorem uj(j:It->Hp->St->VK->Prop)(t:∀J H σ Q,j J H σ Q->fC J H k σ g tt te Q)(S:gG X k N' scope)(a:X.calm=true)(hi:PI X tg iter wi)(l:∀cl C fp s H,PG (X.de N' scope cl C fp s H) tg g)(G:∀cl C fp s H,Gn (X.de N' scope cl C fp s H) ifs tt)(he:∀cl C fp s H,PE (X.de N' scope cl C fp s H) elt te)(v:∀x,PU iter X.env x=pure x:=by intro _;rfl):PE X (.ListComp elt [⟨tg,iter,ifs,0⟩] scope pos) (λσ H Q=>wi σ H λJ H1=>j J H1 σ Q):=by
 intro pins s σ H Q I h;obtain⟨cl,f,z⟩:=xM (env:=X.env) (scope:=scope) λy E B=>I.ok.has y.1 (S.free y E B);rw[eval_ListComp];refine S_ (use:=none) rfl v f S.kind S.names (bS (hi pins s σ H _ I h) λK s1 h1=>bS h1 λitv s2 h2=>?_);obtain⟨it,fp,tn,J,H2,e,r,T,d,f2,q⟩:=h2;subst e;refine mG (RR:=λi C=>compPost (Nk X.prog X.w) X.A X.xe none (EP X pins σ Q) i C) S a z l G he r T d f2 (t _ _ _ _ q) ?_;intro D C s' H' n u hn c F;exact⟨n,hn,λh' m=>⟨.ref D,H',u.turned (t':=s'.toks) (λb o p e=>(m.2 b p).trans e) c.1 c.2.1 c.2.2.2.1 c.2.2.2.2.1 c.2.2.2.2.2,rfl,F⟩⟩
theorem ui(F:It->Hp->St->VK->Prop)(P:∀J H σ Q,F J H σ Q->fC J H k σ g tt te Q)(S:gG X k N' scope)(d:X.calm=true)(V:X.N.Nodup)(j:X.N[i]? =some y)(t:Loc X.env.scope y)(hi:PI X tg iter wi)(G:∀cl C fp s H,PG (X.de N' scope cl C fp s H) tg g)(Y:∀cl C fp s H,Gn (X.de N' scope cl C fp s H) ifs tt)(he:∀cl C fp s H,PE (X.de N' scope cl C fp s H) elt te)(p:RO (.ListComp elt [⟨tg,iter,ifs,0⟩] scope pos) (some (.Name y py)) spos.line X.env=pure true)(U:∀x,PU iter X.env x=pure x:=by intro _;rfl)(r:X.fn y=true∨X.env.scope.names.lookup y=some .local:=by first|exact .inl rfl|exact .inr rfl|assumption):
  PS X (.Assign [.Name y py] (.ListComp elt [⟨tg,iter,ifs,0⟩] scope pos) spos) (DM (λσ H Q=>wi σ H λJ H1=>F J H1 σ Q) (ix i)):=by
 intro pins s σ H D0 I h;obtain⟨cl,m,W⟩:=xM (env:=X.env) (scope:=scope) λy t r=>I.ok.has y.1 (S.free y t r);rw[exec_Assign_Name_used _ _ _ _ p];refine AC (Q4 (AC ?_));show GT _ _ (do let _<-comprehension (.ListComp elt [⟨tg,iter,ifs,0⟩] scope pos) scope X.env _ (newList []) false (OI iter X.env) (some (Q7 (.Name y py) X.env))) _ _ s;refine AC (bS (S_ (use:=some (Q7 (.Name y py) X.env)) (Q:=λ_ s'=>SP X pins D0 .next s') rfl U m S.kind S.names (bS (hi pins s σ H _ I h) λZ s1 h1=>bS h1 λitv s2 h2=>?_)) λ_ s' u=>Fk (Fk u));obtain⟨it,fp,tn,J,H2,e,O,T,l,f2,q⟩:=h2;subst e;refine mG (Q:=λv H=>D0.nx (σ.set i (some v)) H) (RR:=λB C=>compPost (Nk X.prog X.w) X.A X.xe (some (Q7 (.Name y py) X.env)) (λ_ s'=>SP X pins D0 .next s') B C) S d W G Y he O T l f2 (P _ _ _ _ q) ?_;intro D C s' H' L R hn c u;show GT _ _ (Q7 (.Name y py) X.env (.ref D)) _ _ s';refine US (qf (v:= .ref D) R V j t rfl (λn f ch=>?_) r);obtain⟨a,K,ha⟩:=ch
 have ne:C≠a:=by
  rcases ha with z|z
  ·rw[z];exact c.2.1
  ·exact B9 (c.2.2.2.2.1 y a z)
 refine⟨L,hn.sameBut K ne,λh' E=>⟨_,H',f.turned (t':=n.toks) (λb o M e=>(E.2 b M).trans e) c.1 c.2.1 c.2.2.2.1 c.2.2.2.2.1 c.2.2.2.2.2,u⟩⟩
theorem ou(S:gG X k N' scope)(a:X.calm=true)(hi:PI X tg iter wi)(c:∀cl C fp s H,PG (X.de N' scope cl C fp s H) tg g)(b:∀cl C fp s H,Gn (X.de N' scope cl C fp s H) ifs tt)(he:∀cl C fp s H,PE (X.de N' scope cl C fp s H) elt te)(d:∀x,PU iter X.env x=pure x:=by intro _;rfl):PE X (.ListComp elt [⟨tg,iter,ifs,0⟩] scope pos) (Ji wi k g tt te):=
 uj (λJ H σ Q=>fC J H k σ g tt te Q) (λ_ _ _ _ q=>q) S a hi c b he d
end
theorem qa{H1:Hp}(h:fk J H1 σ tt te Q):fC J H1 1 σ (ix 0) tt te Q:=by
 intro D d;obtain⟨W,w0,a⟩:=h D d;refine⟨W,w0,λi m H c=>?_⟩
 rcases a i m H c with q|⟨go,step⟩
 ·exact .inl q
 ·refine .inr ⟨go,λx H' ρ b y=>?_⟩
  match ρ,b with
  |[e],_=>exact⟨⟨[some x],rfl,rfl⟩,step x H' y⟩
theorem jq.toN(S:jq X x scope):gG X 1 (x::X.N) scope:=
 ⟨S.kind,S.cell,S.names,S.free,by rw[FB,TY],λi y h=>by
  rw[TY,List.getElem?_cons_succ]at h
  exact .inl ⟨h,S.cap y (Do h)⟩⟩
theorem jq.pg(S:jq X x scope)(cl:List (Str×B3))(C:B3)(fp:List B3)(s:Gc)(H:Hp):PG (X.de (x::X.N) scope cl C fp s H) (.Name x px) (ix 0):=by
 have a:(UU scope X.env).names.lookup x=some .local:=lookup_relabel_local S.hx;exact aV (X:=X.de (x::X.N) scope cl C fp s H) (i:=0) S.nd rfl (.inl a) (.inr a)
theorem cp(S:jq X x scope)(a:X.calm=true)(hi:PI X (.Name x px) iter wi)(b:∀cl C fp s H,Gn (X.comp x scope cl C fp s H) ifs tt)(he:∀cl C fp s H,PE (X.comp x scope cl C fp s H) elt te)(c:∀x,PU iter X.env x=pure x:=by intro _;rfl):PE X (.ListComp elt [⟨.Name x px,iter,ifs,0⟩] scope pos) (qG wi tt te):=
 uj (k:=1) (N':=x::X.N) (g:=ix 0) (λJ H σ Q=>fk J H σ tt te Q) (λ_ _ _ _ q=>qa q) S.toN a hi S.pg b he c
theorem gA(S:jq X x scope)(a:X.calm=true)(j:X.N.Nodup)(b:X.N[i]? =some y)(e:Loc X.env.scope y)(hi:PI X (.Name x px) iter wi)(f:∀cl C fp s H,Gn (X.comp x scope cl C fp s H) ifs tt)(he:∀cl C fp s H,PE (X.comp x scope cl C fp s H) elt te)(c:RO (.ListComp elt [⟨.Name x px,iter,ifs,0⟩] scope pos) (some (.Name y py)) spos.line X.env=pure true)(h:∀x,PU iter X.env x=pure x:=by intro _;rfl)(d:X.fn y=true∨X.env.scope.names.lookup y=some .local:=by first|exact .inl rfl|exact .inr rfl|assumption):
  PS X (.Assign [.Name y py] (.ListComp elt [⟨.Name x px,iter,ifs,0⟩] scope pos) spos) (DM (qG wi tt te) (ix i)):=
 ui (k:=1) (N':=x::X.N) (g:=ix 0) (λJ H σ Q=>fk J H σ tt te Q) (λ_ _ _ _ q=>qa q) S.toN a j b e hi S.pg f he c h d
noncomputable def uS(fs:Qs)(N:List Str)(k:Nat)(N':List Str)(scope:Qs):Bool:=
 decide (scope.kind= .function)&&scope.names.all (λy=>decide (y.2≠ .cell))&&scope.names.all (λy=>decide (y.2= .local->scope.names.lookup y.1=some .local))&&
 scope.names.all (λy=>decide (y.2= .free->fs.names.lookup y.1=some .cell∨fs.names.lookup y.1=some .free))&&decide (N'.length=k+N.length)&&
 (Nz N.length).all (λi=>match N'[k+i]?,N[i]? with
  |some y,some z=>(match scope.names.lookup y with
   |none=>true
   |some .free=>decide (y=z)&&decide (fs.names.lookup y=some .cell∨fs.names.lookup y=some .free)
   |some _=>false)
  |_,_=>false)
theorem jk{k:Nat}{fs:Qs}(h:X.env.scope=fs)(g:X.N=N)(c:uS fs N k N' scope=true):gG X k N' scope:=by
 subst h g;unfold uS at c;simp only[Oi,Rl,decide_eq_true_eq]at c;obtain⟨⟨⟨⟨⟨c1,c2⟩,c3⟩,c4⟩,c5⟩,c6⟩:=c;refine⟨c1,c2,c3,c4,c5,λi y b=>?_⟩;have hi:k+i<N'.length:=(List.getElem?_eq_some_iff.mp b).1
 have a:i<X.N.length:=by lia
 have q:=c6 i (List.mem_range.mpr a);rw[b,B0 a]at q;dsimp only at q;unfold uV
 cases e:scope.names.lookup y with
 |none=>exact .inr rfl
 |some kd=>
  rw[e]at q
  cases kd with
  |free=>
   have d:y=X.N[i]/\(X.env.scope.names.lookup y=some .cell∨X.env.scope.names.lookup y=some .free):=by simpa using q
   refine .inl ⟨by rw[B0 a,d.1],?_⟩;show(X.env.kindOf y==some .cell||X.env.kindOf y==some .free)=true;have f:X.env.kindOf y=X.env.scope.names.lookup y:=rfl;rw[f]
   rcases d.2 with z|z<;>rw[z]<;>rfl
  |_=>simp at q
theorem Inv.xE{t':Nat}{ch:List B3}(I:Inv X pins σ H s)(k:∀b u,b∉ch->s.heap.get? b=some u->h'.get? b=some u)(a:∀b∈ch,kH X pins H b):Inv X pins σ H {s with heap:=h',toks:=t'}:=by
 have f:∀b u,H b=some u->b∉ch:=λb u e z=>by rw[(a b z).1]at e;cases e
 refine I.step (g':=s.gens) (d':=s.drawn) (ch:=ch) (λb g=>⟨(a b g).2.2.2.1,(a b g).2.1,(a b g).2.2.2.2.1,(a b g).2.2.2.2.2⟩) (λb o _ _ d e _=>k b o d e) (λb o _ _ d e _=>⟨o.slots,k b o d e⟩)
  (λ_ _ _ _ n=>n) (λb o d e=>⟨o,k b o d e⟩) (λ_ _ e=>e) (λ_ _ _ e=>e) (λb ps e=>⟨#[],by rw[e];simp⟩) (λm hm=>?_) (λb u e=>?_) I.bare
 ·obtain⟨h,es,ep,i,r⟩:=hm;exact⟨h,es,ep,k _ h (λz=>(a _ z).2.1 rfl) i,r⟩
 ·refine(I.hok b u e).wR (λc v d q=>k c v ?_ q) (λc q=>q) λc xs q=>q
  rcases d with z|z
  ·rw[z];exact f b u e
  ·exact f c _ z
noncomputable def Jj(K:mo)(a b:B3):It:=
 ⟨λi H=>∃xs ys x y,bf K H a xs/\bf K H b ys/\xs[i]? =some x/\ys[i]? =some y,λi H x H'=>∃p u v,x= .ref p/\H p=none/\H'=upd H p (.tup [u,v])/\(∀xs,bf K H a xs->xs[i]? =some u)/\∀ys,bf K H b ys->ys[i]? =some v,
  λi H=>∃xs ys,bf K H a xs/\bf K H b ys/\(xs.length<=i∨ys.length<=i)⟩
theorem Bu{pt:Pos}{z TI TO k t:B3}(D:ZipApart z TI TO k t a b):
  Turn P w K (.Tuple es kk pt) (Jj K a b) [z,TI,TO,k,t] z (λi h=>IsZip h z TI TO .none/\IsPair h TI (.ref k) (.ref t)/\(∃u v,IsPair h TO u v)/\h.IsListIter k a i/\h.IsListIter t b i) where
 mem:=by simp
 obj:=λi h st c N=>by
  obtain⟨A,d,⟨u,v,e⟩,⟨Y,h1,c1,d1⟩,⟨Z,h2,c2,d2⟩⟩:=st;simp only[NH,Nt,or_false]at N
  rcases N with q|q|q|q|q<;>subst q
  ·exact⟨_,A,λv q=>by cases q⟩
  ·exact⟨_,d,λv q=>by cases q⟩
  ·exact⟨_,e,λv q=>by cases q⟩
  ·exact⟨Y,h1,λv q=>by rw[d1]at q;cases q⟩
  ·exact⟨Z,h2,λv q=>by rw[d2]at q;cases q⟩
 keep:=λi h h' st kk=>by
  obtain⟨A,d,⟨u,v,e⟩,⟨Y,h1,c1⟩,⟨Z,h2,c2⟩⟩:=st;exact⟨kk z (by simp) _ A,kk TI (by simp) _ d,⟨u,v,kk TO (by simp) _ e⟩,⟨Y,kk k (by simp) _ h1,c1⟩,⟨Z,kk t (by simp) _ h2,c2⟩⟩
 item:=by
  intro X hP hw R N i pins s σ H E I O st Q;subst hP hw R;obtain⟨xs,ys,x,y,l,j,hx,hy⟩:=Q;obtain⟨its,U,p,W⟩:=I.list l;obtain⟨u,hu,ru⟩:=U.get hx;obtain⟨M,B,p2,a7⟩:=I.list j;obtain⟨v,hv,T⟩:=B.get hy;obtain⟨A,d,⟨u0,v0,e⟩,m,n⟩:=st;refine wpAny_pyNext_zip_item D A d e m n p.isList p2.isList (x:=u) (y:=v) (by simpa using hu) (by simpa using hv) λh' a1 a2 a3 a4 a5 a6 kp=>⟨_,rfl,?_⟩;refine wpAny_letOwnedTupleGo_zip a1 λg2 J G=>?_;have lz:z<s.heap.objs.size:=FM A;have S:TI<s.heap.objs.size:=FM d;have V:TO<s.heap.objs.size:=FM e
  have l1:k<s.heap.objs.size:=by obtain⟨o,F,_⟩:=m;exact FM F
  have l2:t<s.heap.objs.size:=by obtain⟨o,F,_⟩:=n;exact FM F
  have nT:H s.heap.objs.size=none:=I.fresh;have a0:g2.get? s.heap.objs.size=some {cls:= .type "tuple",data:= .seq #[u,v]}:=(G.2 _ (PB lz)).trans a5
  have I1:Inv X pins σ (upd H s.heap.objs.size (.tup [x,y])) {s with heap:=g2,toks:=s.toks}:=by
   refine I.lu (t':=s.toks) (ch:=[z,TI,TO,k,t]) (λc o f q=>?_) O (B2 _) ⟨?_,[u,v],.cons ru (.cons T .nil),⟨_,a0,rfl,0,rfl⟩⟩
   ·simp only[NH,Nt,or_false,not_or]at f;exact(G.2 c f.1).trans (kp c o f.1 f.2.2.1 f.2.2.2.1 f.2.2.2.2 q)
   ·show 2<=sizeLine;decide
  refine⟨.ref s.heap.objs.size,_,I1,rfl,⟨_,x,y,rfl,nT,rfl,λzs C=>?_,λzs C=>?_⟩,⟨J,?_,⟨u,v,?_⟩,?_,?_⟩,λc f=>?_⟩
  ·rw[I.jJ C l];exact hx
  ·rw[I.jJ C j];exact hy
  ·exact(G.2 TI D.TIz).trans (kp TI _ D.TIz D.TITO D.TIi1 D.TIi2 d)
  ·exact(G.2 TO D.TOz).trans a2
  ·obtain⟨o,F,r⟩:=a3;exact⟨o,(G.2 k D.i1z).trans F,r⟩
  ·obtain⟨o,F,r⟩:=a4;exact⟨o,(G.2 t D.i2z).trans F,r⟩
  ·have g:=(O c f).1;simp only[NH,Nt,or_false]at f
   rcases f with q|q|q|q|q<;>subst q
   ·rw[ak (Nn lz)];exact g
   ·rw[ak (Nn S)];exact g
   ·rw[ak (Nn V)];exact g
   ·rw[ak (Nn l1)];exact g
   ·rw[ak (Nn l2)];exact g
 done:=by
  intro X hP hw R N i pins s σ H E I O st Q;subst hP hw R;obtain⟨xs,ys,l,j,L⟩:=Q;obtain⟨its,U,p,W⟩:=I.list l;obtain⟨M,B,p2,a7⟩:=I.list j;obtain⟨A,d,⟨u0,v0,e⟩,m,n⟩:=st;have l1:=U.length;have l2:=B.length;refine wpAny_pyNext_zip_end (I.ok.hd N) D A d e m n p.isList p2.isList ?_ λh' kp=>⟨rfl,I.xE (t':=s.toks) (ch:=[z,TI,TO,k,t]) (λc o f q=>?_) O⟩
  ·rcases L with q|q
   ·exact .inl (by simp;lia)
   ·exact .inr (by simp;lia)
  ·simp only[NH,Nt,or_false,not_or]at f;exact kp c o f.1 f.2.2.1 f.2.2.2.1 f.2.2.2.2 q
 self:=λ_ _ _ _ _ st h=>U5 st.1 h
section
variable{pt:Pos}
inductive Lv(K:mo)(R:It->Hp->Prop)(vs:List V)(H1:Hp):Prop
 |mk (a:_) (b:_) (c0:vs=[.ref a,.ref b]) (c1:(∃xs,bf K H1 a xs)) (c2:(∃ys,bf K H1 b ys)) (c3:R (Jj K a b) H1)
def Mc(K:mo)(ta:TA):TI:=λσ H R=>ta σ H λvs H1=>Lv K R vs H1
theorem Dn{l m:Expr}{ta:TA}(B:Gl X "zip")(hm:X.mg "zip"=none)(ha:PA X [l,m] ta)(J:Nx [l,m] X.env=[(false,OI l X.env),(false,OI m X.env)]:=by rfl)(f:Nx [m] X.env=[(false,OI m X.env)]:=by rfl):
  PI X (.Tuple es kk pt) (.Call (.Name "zip" p) [l,m] [] pos) (Mc X.K ta):=by
 intro pins s σ H R I h;refine SZ (dZ I B hm PyProof.Rows.boot_zip (NP (bS (ha pos pins s σ H _ I h) λus s1 ⟨vs,H1,d,F,C⟩=>?_) (by rw[J,f]) (by rw[f];rfl)));obtain⟨a,b,t,⟨xs,n⟩,⟨ys,k⟩,q⟩:=C;subst t;obtain⟨u,v,t,D,L⟩:=vals2 F;subst t;obtain rfl:u=KB a:=D;obtain rfl:v=KB b:=L;obtain⟨its,Q,pl,g⟩:=d.list n;obtain⟨A,P,e,O⟩:=d.list k
 have M:a<s1.heap.objs.size:=by obtain⟨o,j,_⟩:=pl.isList;exact FM j
 have G:b<s1.heap.objs.size:=by obtain⟨o,j,_⟩:=e.isList;exact FM j
 refine call_zip_2 pl.isList e.isList λh' g r i w x N kp=>?_;have E:Inv X pins σ H1 {s1 with heap:=h'}:=d.kept (t':=s1.toks) kp;refine U5 g ⟨s1.heap.objs.size+4,[s1.heap.objs.size+4,s1.heap.objs.size+2,s1.heap.objs.size+3,s1.heap.objs.size,s1.heap.objs.size+1],_,_,H1,rfl,E,Bu (zipApart_new M G),⟨g,r,⟨_,_,i⟩,w,x⟩,λc y=>?_,q⟩
 have z:s1.heap.objs.size<=c:=by
  simp only[NH,Nt,or_false]at y
  rcases y with q|q|q|q|q<;>rw[q]
  ·exact P1 _ _
  ·exact P1 _ _
  ·exact P1 _ _
  ·exact B2 _
  ·exact P1 _ _
 exact d.mD z (d.hok.fresh z)
end
section
variable{M:Model}{env:Env}
theorem tK{T:String}{rest:List Expr}{kws:List Q2}{Q:B5->Gc->Prop}(h:GT M A (TB (Pr pos (Nx (e::rest) env))) (λvs s1=>GT M A (evalAll ((PH pos (OP kws env)).map (·.2)))
   (λkvs s2=>GT M A (call (.builtin T) vs (((PH pos (OP kws env)).filterMap (·.1)).zip kvs)) Q E s2) E s1) E s)(he:Pr pos (Nx (e::rest) env)=(false,OI e env)::Pr pos (Nx rest env):=by rfl)(d:(Pr pos (Nx (e::rest) env)).any (·.1)=false:=by rfl)(b:(PH pos (OP kws env)).all (·.1.isSome)=true:=by rfl)(c:(PH pos (OP kws env)).any (·.1.isNone)=false:=by rfl):
  GT M A (callWith pos (.builtin T) [] (Pr pos (Nx (e::rest) env)) (PH pos (OP kws env))) Q E s:=by
 have h2:GT M A (evalArgs (.builtin T) true (Pr pos (Nx (e::rest) env)) (PH pos (OP kws env))) (λa s1=>GT M A (call (.builtin T) ([]++a.pos) a.kw) Q E s1) E s:=by
  rw[he]at h⊢;exact evalArgs_kwB b h
 unfold callWith;refine AC (OV (OR h2 (λa s1 h1=>AC (Q4 ?_)) λ_ _ z=>z));simp only[d,c,Ra];exact AC (Fk (AC (OR h1 (λr s2 f=>AC (OV (wpAny_point (Fk f)))) λ_ _ z=>z)))
end
theorem same_none{H':Hp}(s:af H H')(h:H' b=none):H b=none:=by
 cases e:H b with
 |none=>rfl
 |some u=>rw[s b u e]at h;cases h
abbrev Je(K:mo):TG:=Ke K 2 (Dg (ix 0) (Dg (ix 1) Kj))
theorem af.mV{l:B3}{o:HO}(s:af H H2)(hn:H l=none):af H (upd H2 l o):=λb u e=>by
 rw[ak (aI e hn)];exact s b u e
theorem fA{α:Type}(n:Nat)(c:Nat->Bool)(f:Nat->α):((Nz (n+1)).filter c).map f=((Nz n).filter c).map f++(if c n=true then[f n]else[]):=by
 rw[List.range_succ,Qj,Da];by_cases h:c n=true
 ·rw[if_pos h,Tt h];rfl
 ·rw[if_neg h,Rj h];rfl
theorem zk{ys:List V}(c:Nat->Bool)(f:Nat->V)(hA:bf K H a xs)(hB:bf K H b ys)(hn:min xs.length ys.length<sizeLine)(I:∀(i:Nat)(x y:V)(H':Hp)(l:Bool->Hp->Prop),xs[i]? =some x->ys[i]? =some y->af H H'->(∀d,af H' d->l (c i) d)->tt (some x::some y::σ) H' l)(he:∀(i:Nat)(x y:V)(H':Hp)(l:VK),c i=true->xs[i]? =some x->ys[i]? =some y->af H H'->(∀d,af H' d->l (f i) d)->te (some x::some y::σ) H' l)(hd:∀D H',H D=none->af H H'->H' D=some (.lst (((Nz (min xs.length ys.length)).filter c).map f))->Q (.ref D) H'):fC (Jj K a b) H 2 σ (Je K) tt te Q:=by
 intro D r;refine⟨λi m H'=>m=min xs.length ys.length-i/\i<=min xs.length ys.length/\af H H'/\H' D=some (.lst (((Nz i).filter c).map f)),⟨_,rfl,Nl _,af.mV (af.refl H) r,ae⟩,?_⟩;rintro i m H' ⟨rfl,hi,s1,hl⟩;have t:=s1.seq hA;have s:=s1.seq hB;by_cases g:i<min xs.length ys.length
 ·have hx:i<xs.length:=by lia
  have G:i<ys.length:=by lia
  refine .inr ⟨⟨xs,ys,xs[i],ys[i],t,s,by simp[hx],by simp[G]⟩,λx H2 ρ n y=>?_⟩;obtain⟨p,u,v,rfl,E,rfl,F,C⟩:=y;have w:=F xs t;have A:=C ys s
  match ρ,n with
  |[L,J],_=>
   have s2:af H' (upd H' p (.tup [u,v])):=af.mV (af.refl _) E;refine⟨p,_,rfl,ba.of ae,rfl,_,_,rfl,_,_,rfl,rfl,⟨[some u,some v],rfl,rfl⟩,?_⟩;have j:=af.trans s1 s2;have q:=s2 _ _ hl;refine I i u v _ _ w A j λH3 B=>?_;have k:=B _ _ q;have h:=af.trans j B
   cases o:c i with
   |true=>
    refine eY (he i u v _ _ o w A h λH4 z=>⟨_,z _ _ k,?_,_,OH _ _ g,rfl,g,af.mV (af.trans h z) r,?_⟩)
    ·rw[be];exact QS (NW (PP _ _) (by rw[Oy];exact vY)) hn
    ·rw[ae,fA,if_pos o]
   |false=>
    refine dh ⟨_,OH _ _ g,rfl,g,h,?_⟩;rw[k,fA,if_neg (by rw[o];exact FS),Dk]
 ·have e:i=min xs.length ys.length:=by lia
  refine .inl ⟨⟨xs,ys,t,s,by lia⟩,?_⟩;rw[e]at hl;exact hd D H' r s1 hl
end L2
namespace L2
open PySem
noncomputable abbrev Za:List Str:=["thing"]
noncomputable abbrev Zb:List Str:=["box"]
noncomputable abbrev Zc:List Str:=["thing","many"]
noncomputable abbrev Zd:List Str:=["what","many"]
noncomputable abbrev Ze:List Str:=["tree"]
noncomputable abbrev Zf:List Str:=["text"]
noncomputable abbrev Zg:List Str:=["_law_stream_here","_law_many"]
noncomputable abbrev Zh:List Str:=["thing","least","most"]
noncomputable abbrev Zi:List Str:=["thing","depth","in_table","names"]
noncomputable abbrev Zj:List Str:=["_law_stream_here"]
noncomputable abbrev Zk:List Str:=["wish","columns","gap","align","side","joint","text"]
noncomputable abbrev Zl:List Str:=["things","sign"]
noncomputable abbrev Zm:List Str:=["_law_script"]
noncomputable abbrev Zn:List Str:=["_law_stream_here","_law_box_here","_law_names_here","_law_at_here"]
noncomputable abbrev Zo:List Str:=["span","float","at"]
noncomputable abbrev Zp:List Str:=["text","sign"]
noncomputable abbrev Zq:List Str:=["row","column","wrap"]
noncomputable abbrev Zr:List Str:=["text","sign","many"]
noncomputable abbrev Zs:List Str:=["_law_stream_here","_law_box_here","_law_names_here"]
noncomputable abbrev Zt:List Str:=["places","spans"]
noncomputable abbrev Zu:List Str:=["kind","what"]
noncomputable abbrev Zv:List Str:=["box","depth","as_part"]
noncomputable abbrev Zw:List Str:=["_law_stream_here","_law_names_here","_law_deep_here","_law_tabled"]
noncomputable abbrev Zx:List Str:=["thing","columns"]
noncomputable abbrev Zy:List Str:=["kind","what","many"]
noncomputable abbrev Zz:List Str:=["self","depth","kind","name","told"]
noncomputable abbrev ZA:List Str:=["box","in_table"]
noncomputable abbrev ZC:List Str:=["taken","row","column","span"]
noncomputable abbrev ZD:List Str:=["taken","columns","span"]
noncomputable abbrev ZE:List Str:=["taken","place","span"]
noncomputable abbrev ZF:List Str:=["columns","spans"]
noncomputable abbrev ZG:List Str:=["wish","columns","gap","align","side","joint","span","float","at","text"]
noncomputable abbrev ZH:List Str:=["elder","place"]
noncomputable abbrev ZI:List Str:=["box","as_part"]
noncomputable abbrev ZJ:List Str:=["_law_stream_here","_law_kind","_law_many"]
noncomputable abbrev ZK:List Str:=["kind","told","parts_told"]
noncomputable abbrev ZL:List Str:=["_law_elders","_law_name"]
end L2
namespace S2
open PySem L2
def bp(H:Hp)(as:List B3)(rows:List (List V)):Prop:=as.length=rows.length/\∀(i:Nat)(p:B3)(r:List V),as[i]? =some p->rows[i]? =some r->H p=some (.tup r)
theorem bp.same{H H2:Hp}{as:List B3}{rows:List (List V)}(h:bp H as rows)(s:af H H2):bp H2 as rows:=⟨h.1,λi p r a b=>s _ _ (h.2 i p r a b)⟩
variable{H H2:Hp}{as:List B3}
theorem bp.nil:bp H [] []:=⟨rfl,λi p r e=>by simp at e⟩
theorem bp.snoc{rows:List (List V)}{p:B3}{r:List V}(h:bp H as rows)(s:af H H2)(c:H2 p=some (.tup r)):bp H2 (as++[p]) (rows++[r]):=by
 refine⟨by rw[B1,B1,h.1];rfl,λi q x a b=>?_⟩;by_cases hi:i<as.length
 ·rw[KF hi]at a;rw[KF (by rw[<-h.1];exact hi)]at b;exact s _ _ (h.2 i q x a b)
 ·rw[GM (by lia)]at a;rw[GM (by rw[<-h.1];lia),<-h.1]at b
  cases e:i-as.length with
  |zero=>
   rw[e]at a b
   cases a
   cases b
   exact c
  |succ d=>rw[e]at a;simp at a
theorem bp.get{rows:List (List V)}(h:bp H as rows){i:Nat}{x:V}(e:(as.map V.ref)[i]? =some x):∃p r,x= .ref p/\as[i]? =some p/\rows[i]? =some r/\H p=some (.tup r):=by
 rw[B7]at e
 cases a:as[i]? with
 |none=>rw[a]at e;cases e
 |some p=>
  rw[a]at e
  have hi:i<rows.length:=by rw[<-h.1];exact bw a
  exact⟨p,rows[i],(Kf e).symm,rfl,by simp[hi],h.2 i p rows[i] a (by simp[hi])⟩
end S2
namespace PySem
variable{A:PR}{E Q:B5->Gc->Prop}{i:Int}{it l I:B3}{prog:Og}{s:Gc}{w:Ox}{xs:Array B5}
namespace DT
theorem lx:Manifest.owners.lookup (String.ofList ['d','e','s','r','e','v','e','r'].reverse)=some Manifest.sig_reversed:=by kernel_rfl
theorem dk:Vd "reversed" "__next__" "reversed.__next__":=
 .of (owner:="reversed") (n:="__next__") (by rw[Pl,Oz];kernel_rfl) (by decide +kernel) (by decide +kernel) (by decide +kernel)
  (by first|exact .inl (by decide +kernel)|exact .inr (by decide +kernel)) (by rw[Pc];kernel_rfl)
theorem h_:Uk table "reversed.__next__"=some Builtin.«reversed.__next__»:=U_ (by kernel_rfl)
theorem iV(a:B5):Ro "reversed.__next__" ⟨[a],[]⟩:=by
 unfold Ro;rw[RV (id:="reversed.__next__") (n:=['_','_','t','x','e','n','_','_']) (o:=['d','e','s','r','e','v','e','r']) (by kernel_rfl) lx];kernel_rfl
theorem jc:Vd "reversed" "__iter__" "reversed.__iter__":=
 .of (owner:="reversed") (n:="__iter__") (by rw[Pl,Oz];kernel_rfl) (by decide +kernel) (by decide +kernel) (by decide +kernel)
  (by first|exact .inl (by decide +kernel)|exact .inr (by decide +kernel)) (by rw[Pc];kernel_rfl)
theorem oX(a:B5):Ro "reversed.__iter__" ⟨[a],[]⟩:=by
 unfold Ro;rw[RV (id:="reversed.__iter__") (n:=['_','_','r','e','t','i','_','_']) (o:=['d','e','s','r','e','v','e','r']) (by kernel_rfl) lx];kernel_rfl
theorem oB:Uk table "reversed.__iter__"=some Builtin.«dict_keyiterator.__iter__»:=
 entryFor_alias (id':="dict_keyiterator.__iter__") (by kernel_rfl) (by first|rfl|decide +kernel|(unfold String.splitOn;simp +decide [String.splitOnAux])) (by decide +kernel) (by kernel_rfl)
theorem fL:Vd "reversed" "__length_hint__" "reversed.__length_hint__":=
 .of (owner:="reversed") (n:="__length_hint__") (by rw[Pl,Oz];kernel_rfl) (by decide +kernel) (by decide +kernel) (by decide +kernel)
  (by first|exact .inl (by decide +kernel)|exact .inr (by decide +kernel)) (by rw[Pc];kernel_rfl)
theorem og:Uk table "reversed.__length_hint__"=some Builtin.«reversed.__length_hint__»:=U_ (by kernel_rfl)
theorem oQ(a:B5):Ro "reversed.__length_hint__" ⟨[a],[]⟩:=by
 unfold Ro;rw[RV (id:="reversed.__length_hint__") (n:=['_','_','t','n','i','h','_','h','t','g','n','e','l','_','_']) (o:=['d','e','s','r','e','v','e','r']) (by kernel_rfl) lx];kernel_rfl
theorem oP:Vd "reversed" "__init__" "object.__init__":=
 .of (owner:="object") (n:="__init__") (by rw[Pl,Oz];kernel_rfl) (by decide +kernel) (by decide +kernel) (by decide +kernel)
  (by first|exact .inl (by decide +kernel)|exact .inr (by decide +kernel)) (by rw[Pc];kernel_rfl)
theorem v_:TypeCalled "reversed" "reversed.__new__" "object.__init__":=
 ⟨by decide +kernel,by decide +kernel,⟨_,_,F.mro_reversed⟩,F.made_reversed,by decide +kernel,by rw[Pc];kernel_rfl,oP⟩
theorem args_object_init_2(a b:B5):Ro "object.__init__" ⟨[a,b],[]⟩:=by
 unfold Ro;rw[RV (id:="object.__init__") (n:=['_','_','t','i','n','i','_','_']) (o:=['t','c','e','j','b','o']) (by kernel_rfl) F.owner_object];kernel_rfl
theorem xj:R1 (.type "tuple") "__reversed__"=pure none:=by rw[Pl,Oz];kernel_rfl
theorem wH:R1 (.type "reversed") "__len__"=pure none:=by rw[Pl,Oz];kernel_rfl
theorem rj:isSubtype (.type "tuple") (.type "dict")=pure false:=by rw[Pc];kernel_rfl
noncomputable def pH(l:B3)(i:Int):Obj:={cls:= .type "reversed",data:= .fields #[.ref l,Qv i]}
def lM(h:ON)(a l:B3)(i:Int):Prop:=h.get? a=some (pH l i)
theorem lM.typeIs{a:B3}(x:lM s.heap a l i):s.TypeIs (.ref a) "reversed":=⟨_,x,rfl⟩
theorem zI(l:B3)(xs:Array B5)(hz:xs.size<=sizeLine):
  Meets (Builtin.«reversed.__new__» ⟨[.type "reversed",.ref l],[]⟩) (λ_ R s=>OD s.heap l xs/\
   R (.ok (.ret (.ref s.heap.objs.size))) {s with heap:=s.heap.push (pH l ((xs.size:Int)-1)),toks:=s.toks+1+1}):=
 .of_wp λprog w A R s h=>by
  obtain⟨c,h⟩:=h;unfold Builtin.«reversed.__new__»;refine AC (Pp (newClass_reversed _) ?_)
  try dsimp only
  refine AC (Pp (a:=()) (by first|rfl|kernel_rfl) ?_);refine AC (Pp (a:=()) (by first|rfl|kernel_rfl) ?_)
  try dsimp only
  refine AC (Pk c.typeIs xj ?_)
  try dsimp only
  refine AC ?_;refine AC (m:=isInstance (.ref l) (.type "dict")) (Rb (T:="tuple") (b:=false) c.typeIs rj ?_)
  try dsimp only
  refine AC (m:=Tj (.ref l) (NR "__getitem__")) (Pk c.typeIs PyProof.Rows.slot_tuple_getitem.lookup ?_)
  try dsimp only
  refine Fk ?_
  try dsimp only
  refine AC (TR c (by rw[O8]at hz;lia) ?_);refine AC (Fk ?_)
  try dsimp only
  refine AC ?_;show GT _ _ (newObj (.type "reversed") (.fields #[.ref l,Qv ((xs.size:Int)-1)])) _ _ _;exact Oq (Fk ⟨_,rfl,h⟩)
theorem jz(hz:xs.size<=sizeLine)(hl:OD s.heap l xs)(h:Q (.ref s.heap.objs.size) {s with heap:=s.heap.push (pH l ((xs.size:Int)-1)),toks:=s.toks+1+1}):GT (Nk prog w) A (call (.type "reversed") [.ref l]) Q E s:=by
 refine callType_new v_ (by decide) (F.typeCall_reversed_1 _) (F.newCall_reversed_1 _) (λobj=>args_object_init_2 obj _) F.entry_reversed_new (zI l xs hz) ⟨hl,?_⟩;exact⟨⟨_,KM _ rfl,rfl⟩,h⟩
theorem next_item{i:Nat}{x:B5}{Q:Option B5->Gc->Prop}(b:lM s.heap it l (i:Int))(hl:OD s.heap l xs)(hx:xs[i]? =some x)(e:i<2^63)(f:∀h',lM h' it l ((i:Int)-1)->OW it s.heap h'->Q (some x) {s with heap:=h',toks:=s.toks+1}):GT (Nk prog w) A (QQ (.ref it)) Q E s:=by
 unfold QQ
 refine AC (Q5 (OF (name:=NR "__next__") b.typeIs dk
  (OE dk b.typeIs h_ ?_ (iV _))))
 unfold Builtin.«reversed.__next__»;refine AC (Pp (a:=(KB it,[])) rfl ?_)
 try dsimp only
 refine AC (Oj b rfl (x:= .ref l) rfl ?_);refine AC (Oj b rfl (x:=Qv (i:Int)) rfl ?_);show GT _ _ (if(i:Int)<0 then _ else _) _ _ s;rw[if_neg (by lia)];refine AC (m:=Tj (.ref l) (NR "__getitem__")) (Pk hl.typeIs PyProof.Rows.slot_tuple_getitem.lookup ?_);rw[if_neg (by simp)];refine AC (Uh ?_)
 have hi:i<xs.size:=by
  rcases TV i xs.size with q|q
  ·exact q
  ·rw[Array.getElem?_eq_none q]at hx;cases hx
 refine AC (Q5 (PyProof.Rows.getItem_tuple (s:={s with toks:=s.toks+1}) hl (by lia) (by lia) (j:=i) ?_ hx ?_))
 ·unfold U9;simp
  lia
 try dsimp only
 refine AC (Oj (s:={s with toks:=s.toks+1}) b rfl (x:=Qv (i:Int)) rfl ?_)
 try dsimp only
 show GT _ _ (SK (.ref it) 1 (Qv ((i:Int)-1)) >>=λ_=>ret x) _ _ _;refine AC (OQ (s:={s with toks:=s.toks+1}) b (by simp) λh' c d=>?_);exact Fk ⟨x,rfl,Fk (f h' c d)⟩
theorem next_end{Q:Option B5->Gc->Prop}(g:A.handled=none)(c:lM s.heap it l (-1))(i:∀h',Heap.ExtBut it s.heap h'->Q none {s with heap:=h'}):GT (Nk prog w) A (QQ (.ref it)) Q E s:=by
 unfold QQ
 refine AC (Q5 (OF (name:=NR "__next__") c.typeIs dk
  (OE dk c.typeIs h_ ?_ (iV _))))
 unfold Builtin.«reversed.__next__»;refine AC (Pp (a:=(KB it,[])) rfl ?_)
 try dsimp only
 refine AC (Oj c rfl (x:= .ref l) rfl ?_);refine AC (Oj c rfl (x:=Qv (-1)) rfl ?_);show GT _ _ (if(-1:Int)<0 then _ else _) _ _ s;rw[if_pos (by decide)];refine AC (Qu ?_);refine AC ?_;show GT _ _ (SK (.ref it) 1 (Qv (-1)) >>=λ_=>SK (.ref it) 0 .none) _ _ _;refine AC (OQ c (by simp) λh1 d e=>?_);refine OQ (s:={s with heap:=h1}) d (by simp) λh2 h f=>?_
 first
 |show GT _ _ (Uz (.type "StopIteration") [] >>= _) _ _ _
 |(refine AC ?_;show GT _ _ (Uz (.type "StopIteration") [] >>= _) _ _ _)
 refine AC ?_;simp only[Uz,newTuple];refine AC (Oq ?_ (by size_fits));refine AC (m:=RG _ _) (Pp (a:=OC) (by first|rfl|(simp only[RG];rfl)) ?_);refine Oq ?_ (by size_fits);simp only[raiseNew];refine AC (wpAny_handled ?_)
 first|rw[show A.in1.handled=none from g]|rw[g]
 refine AC (Fk (wpAny_throw ?_));refine AC (Rb (T:="StopIteration") (b:=true) ⟨_,KM _ rfl,rfl⟩ isSubtype_stop ?_);exact Fk (i _ (((e.extBut.trans f.extBut).push _).push _))
theorem qu(a:lM s.heap it l i)(h:Q (.ref it) s):GT (Nk prog w) A (pyIter (.ref it)) Q E s:=by
 refine UP a.typeIs jc (OE jc a.typeIs oB ?_ (oX _));show GT _ _ (ret (.ref it)) _ _ s;exact Fk ⟨_,rfl,"reversed",_,a.typeIs,dk.lookup,h⟩
theorem walks(q:A.handled=none)(I l:B3)(n:l≠I)(a:Array B5)(hz:a.size<=sizeLine):
  Walks prog w A I [I,l] [I] a.size (λi v=>a[a.size-1-i]? =some v) (λi h=>i<=a.size/\lM h I l ((a.size:Int)-1-(i:Int))/\OD h l a) where
 sub:=λb f=>by simp at f;simp[f]
 frame:=λ_ _ _ x p=>⟨x.1,p I (by simp) _ x.2.1,let⟨o,ho,r⟩:=x.2.2;⟨o,p l (by simp) o ho,r⟩⟩
 item:=λi s Q E hi x g=>by
  have e:(a.size:Int)-1-(i:Int)=((a.size-1-i:Nat):Int):=by lia
  have c:=x.2.1;rw[e]at c;have hx:a[a.size-1-i]? =some (a[a.size-1-i]'(by lia)):=Pj (by lia);refine next_item c x.2.2 hx (by rw[O8]at hz;lia) λh' d j=>?_
  have t:((a.size-1-i:Nat):Int)-1=(a.size:Int)-1-((i+1:Nat):Int):=by lia
  rw[t]at d;exact g _ h' (s.toks+1) hx ⟨hi,d,let⟨o,ho,r⟩:=x.2.2;⟨o,(j.2 l n).trans ho,r⟩⟩ λb o f k=>j.extBut b o (λh=>f (by simp[h])) k
 done:=λs Q E x g=>by
  have e:(a.size:Int)-1-(a.size:Int)= -1:=by lia
  have c:=x.2.1;rw[e]at c;exact next_end q c λh' m=>g h' s.toks λb o f k=>m b o (λh=>f (by simp[h])) k
 self:=λ_ _ _ _ x g=>qu x.2.1 g
end DT
namespace DT
theorem Bs{Q:Bool->Gc->Prop}(d:lM s.heap it l ((xs.size:Int)-1))(hl:OD s.heap l xs)(hz:xs.size<=sizeLine)(h:∀b tk,s.toks<=tk->Q b {s with toks:=tk}):GT (Nk prog w) A (PV (.ref it)) Q E s:=by
 have j:=hz;rw[O8]at j
 have e:∀(A:PR)(E:B5->Gc->Prop)(i:B5->Gc->Prop),(∀u tk,s.toks<=tk->i (.int (xs.size:Int) u) {s with toks:=tk})->GT (Nk prog w) A (call (.builtin "reversed.__length_hint__") [.ref it]) i E s:=λA E i k=>by
  refine OE fL d.typeIs og ?_ (oQ _);unfold Builtin.«reversed.__length_hint__»;refine AC (Pp (a:=KB it) rfl ?_)
  try dsimp only
  refine AC (Oj d rfl (x:= .ref l) rfl ?_);rw[if_neg (show¬(KB l==OC)=true from FS)];refine AC (TR hl (by lia) ?_);refine AC (Fk ?_)
  try dsimp only
  refine AC (Oj (s:={s with toks:=s.toks+1+1}) d rfl (x:=Qv ((xs.size:Int)-1)) rfl ?_);show GT _ _ (if(xs.size:Int)<(xs.size:Int)-1+1 then _ else _) _ _ _;rw[if_neg (by lia)];rw[show(xs.size:Int)-1+1=xs.size by lia];exact AC (Uh (Fk ⟨_,rfl,k _ _ (by show s.toks<=s.toks+1+1+1;lia)⟩))
 unfold PV;refine AC (Pk d.typeIs wH ?_);show GT _ _ (Tj (KB it) (NR "__length_hint__") >>= _) _ _ _;refine AC (Pk d.typeIs fL.lookup ?_);generalize f:("reversed.__length_hint__":String)=g
 wp_delta
 rw[show splitId g=some ("reversed","__length_hint__")from by subst f;decide +kernel];subst f;refine AC (Rb (T:="reversed") (b:=true) d.typeIs (by rw[Pc];kernel_rfl) ?_);refine OO (λc=>absurd c (by decide)) (λ_=>?_);refine OO (λc=>absurd c (by decide +kernel)) (λ_=>?_);refine AC (Qu ?_);refine AC (Pp (fL.bind _) ?_);refine AC (m:=(call (.builtin "reversed.__length_hint__") [.ref it]).attempt) (Q5 (e _ _ _ λu tk htk=>?_));obtain⟨n,hn⟩:∃n:Int,n=xs.size:=⟨_,rfl⟩;rw[<-hn];dsimp only;refine AC (Pp (a:=some n) rfl ?_);dsimp only;refine OO (λc=>absurd c ?_) (λ_=>?_)
 ·have :S7 n=true:=by
   unfold S7;simp
   lia
  rw[this];decide
 refine OO (λc=>absurd c (by lia)) (λ_=>?_);refine OO (λc=>absurd c ?_) (λ_=>?_)
 ·unfold P7;simp
  lia
 exact Fk (h _ tk htk)
section
variable{R:SO->Gc->Prop}
theorem wM(H:A.in1.handled=none)(hz:xs.size<=sizeLine)(G:l≠I)(S:B3)(n:S≠I)(y:S≠l)(res:B5)(j:Nat)(c:lM s.heap I l ((xs.size:Int)-1))(hl:OD s.heap l xs)(z:s.heap.get? S=some {cls:= .type "list",data:= .seq #[] j})(J:∀h' tk a p,s.toks<=tk->(∀b o,b≠S->b≠I->s.heap.get? b=some o->h'.get? b=some o)->h'.get? S=some {cls:= .type "list",dict:=none,data:= .seq a p,slots:=#[]}->U2 (λi v=>xs[xs.size-1-i]? =some v) a xs.size->R (.ok (.ret res)) {s with heap:=h',toks:=tk}):
  GT (Nk prog w) A.in1 (Oe (.ref S) (.ref I) res)
   (λC s'=>match C with| .done f=>R (.ok f) s'| .again p=>p.quiet=true/\Px (Nk prog w) A p R s') (λe s'=>R (.error e) s') s:=by
 have W:=walks (prog:=prog) (w:=w) (A:=A.in1) H I l G xs hz
 have B:S∉[I,l]:=by simp only[NH,Nt,or_false,not_or];exact⟨n,y⟩
 have L:(xs.size:Int)-1-((0:Nat):Int)=(xs.size:Int)-1:=by lia
 have u:∀(h:ON)(d tk:Nat),s.toks<=tk->lM h I l ((xs.size:Int)-1)->OD h l xs->(∀b o,b≠S->s.heap.get? b=some o->h.get? b=some o)->
   h.get? S=some {cls:= .type "list",data:= .seq #[] d}->Px (Nk prog w) A (.builtin "list.extend.loop" ⟨[.ref S,.ref I,res],[]⟩) R {s with heap:=h,toks:=tk}:=by
  intro h d tk htk h1 h2 N k;refine Ul W.toS hz S B res xs.size 0 _ #[] d rfl (Nl _) ⟨Nl _,by rw[L];exact h1,h2⟩ k (ItemsOf.nil _) λs' a p hm D t=>?_;have x:=hm.toks;rw[Moved.eq_with hm];refine J s'.heap s'.toks a p (NW htk x) (λb o q E e=>hm.heap b o (λhmem=>?_) (N b o q e)) D t
  rcases List.mem_cons.mp hmem with K|hmem
  ·exact q K
  ·exact E (List.mem_singleton.mp hmem)
 unfold Oe;refine AC (Rn c.typeIs ?_)
 have h1:P8 (.ref S) (.ref I)=false:=by simp[P8,n]
 have h2:(Pt "reversed"==Pt "list")=false:=by decide
 have M:(Pt "reversed"==Pt "tuple")=false:=by decide
 simp only[h1,h2,M,Ra,QV,if_false];refine AC (qu c ?_);refine AC (OV (Bs c hl hz λb tk htk=>?_));refine OO (λ_=>?_) (λ_=>Fk ⟨Pq QJ _,u _ j _ htk c hl (λb o _ e=>e) z⟩);refine AC (Qu ?_);refine AC ?_;show GT _ _ (QN S (·.push .none) >>=λ_=>QN S (·.pop)) _ _ _;refine AC (O0 (s:={s with toks:=tk}) z rfl ?_);have g:=Of (Ol (·.push OC)) z rfl;refine O0 (hz:=by seq_fits) (s:={s with heap:=s.heap.update S (Ol (·.push OC)),toks:=tk}) g rfl ?_;have m:=Of (Ol (·.pop)) g rfl
 have oth:∀b o,b≠S->s.heap.get? b=some o->((s.heap.update S (Ol (·.push OC))).update S (Ol (·.pop))).get? b=some o:=
  λb o q e=>(NM _ _ (B9 q)).trans ((NM _ _ (B9 q)).trans e)
 refine Fk ⟨Pq QJ _,u _ _ _ htk (oth _ _ (B9 n) c) (let⟨o,ho,r⟩:=hl;⟨o,oth _ _ (B9 y) ho,r⟩) oth m⟩
theorem AJ(x:A.in1.handled=none)(hz:xs.size<=sizeLine)(t:l≠I)(S:B3)(j:S≠I)(h:S≠l)(u:lM s.heap I l ((xs.size:Int)-1))(hl:OD s.heap l xs)(q:s.heap.get? S=some {cls:= .type "list",data:= .seq #[]})(y:∀h' tk a d,s.toks<=tk->(∀b o,b≠S->b≠I->s.heap.get? b=some o->h'.get? b=some o)->h'.get? S=some {cls:= .type "list",dict:=none,data:= .seq a d,slots:=#[]}->U2 (λi v=>xs[xs.size-1-i]? =some v) a xs.size->R (.ok (.ret .none)) {s with heap:=h',toks:=tk}):
  GT (Nk prog w) A.in1 (Builtin.«list.__init__» ⟨[.ref S,.ref I],[]⟩)
   (λn s'=>match n with| .done f=>R (.ok f) s'| .again d=>d.quiet=true/\Px (Nk prog w) A d R s') (λe s'=>R (.error e) s') s:=by
 show GT _ A.in1 (do let old<-Qr (.ref S);Tw (.ref S) (λ_=>#[]);letGo old.toList.reverse;Oe (.ref S) (.ref I) .none) _ _ s;refine AC ?_;unfold Qr;refine AC (Pv q rfl (Fk ?_));show GT _ A.in1 (QN S (λ_=>#[]) >>=λ_=>letGo (#[]:Array B5).toList.reverse >>=λ_=>Oe (.ref S) (.ref I) .none) _ _ s;refine AC (O0 q rfl ?_);have c:=Of (Ol (λ_=>(#[]:Array B5))) q rfl
 have oth:∀b o,b≠S->s.heap.get? b=some o->(s.heap.update S (Ol (λ_=>(#[]:Array B5)))).get? b=some o:=
  λb o k e=>(NM _ _ (B9 k)).trans e
 refine AC (Qz ?_);refine wM (s:={s with heap:=s.heap.update S (Ol (λ_=>(#[]:Array B5)))}) x hz t S j h .none _ (oth _ _ (B9 j) u) (let⟨o,ho,r⟩:=hl;⟨o,oth _ _ (B9 h) ho,r⟩) c λh' tk a d htk z p g=>?_;exact y h' tk a d htk (λb o k m e=>z b o k m (oth b o k e)) p g
end
theorem pe(t:A.handled=none)(hz:xs.size<=sizeLine)(m:l≠I)(i:lM s.heap I l ((xs.size:Int)-1))(hl:OD s.heap l xs)(B:∀h' tk n,s.toks<=tk->(∀b o,b≠I->s.heap.get? b=some o->h'.get? b=some o)->h'.get? s.heap.objs.size=some {cls:= .type "list",dict:=none,data:= .seq xs.toList.reverse.toArray n,slots:=#[]}->Q (.ref s.heap.objs.size) {s with heap:=h',toks:=tk}):
  GT (Nk prog w) A (call (.type "list") [.ref I]) Q E s:=by
 refine callType_codes (Q₁:=λobj d=>obj= .ref s.heap.objs.size/\d={s with heap:=s.heap.push {cls:= .type "list",data:= .seq #[]}}) F.called_list (U3 _) U4
  (code_list_new _ ⟨rfl,rfl⟩) λobj d g=>?_
 obtain⟨rfl,rfl⟩:=g;have p:(s.heap.push {cls:= .type "list",data:= .seq #[]}).get? s.heap.objs.size=some {cls:= .type "list",data:= .seq #[]}:=KM _ rfl;have n1:s.heap.objs.size≠I:=PB (FM i)
 have x:s.heap.objs.size≠l:=by obtain⟨o,k,_⟩:=hl;exact PB (FM k)
 refine⟨⟨_,p,rfl⟩,UN _ _,AJ (A:=A.in1) (s:={s with heap:=s.heap.push {cls:= .type "list",data:= .seq #[]}}) t hz m _ n1 x (B4 _ i) (let⟨o,k,r⟩:=hl;⟨o,B4 _ k,r⟩) p λh' tk a n htk y h c=>?_⟩
 have u:a=xs.toList.reverse.toArray:=by
  apply Array.ext';apply Q1;intro j;by_cases q:j<xs.size
  ·have f:j<a.size:=by rw[c.1];exact q
   have h1:=c.2 j a[j] (Pj f);rw[Pi,Pj f];simp only[Ut];rw[Pg (by simpa using q),<-h1];simp
  ·rw[Ph (by rw[Ni,c.1];lia),Ph (by simp;lia)]
 rw[u]at h;exact⟨rfl,B h' tk n htk (λb o v e=>y b o (λz=>by subst z;exact absurd (FM e) (OJ _)) v (B4 _ e)) h⟩
end DT
end PySem
namespace L2
open PySem PySem.Spec PyProof.Rows
section
variable{X:Cx}
def M_(K:mo)(ta:TA):TE:=λσ H Q=>ta σ H λvs H1=>∃p ys,vs=[.ref p]/\ba K H1 p ys/\∀l,H1 l=none->Q (.ref l) (upd H1 l (.lst ys.reverse))
theorem xq{e:Expr}{ta:TA}{p p2 pos c:Pos}(J:X.calm=true)(y:Gl X "list")(hm:X.mg "list"=none)(G:O5 "list"=some (.type "list"))(t:Gl X "reversed")(m:X.mg "reversed"=none)(j:O5 "reversed"=some (.type "reversed"))(ha:PA X [e] ta)(F:Nx [e] X.env=[(false,OI e X.env)]:=by rfl)(f:Nx [.Call (.Name "reversed" p2) [e] [] c] X.env=[(false,OI (.Call (.Name "reversed" p2) [e] [] c) X.env)]:=by rfl):
  PE X (.Call (.Name "list" p) [.Call (.Name "reversed" p2) [e] [] c] [] pos) (M_ X.K ta):=by
 intro pins s σ H Q I h;refine SZ (dZ I y hm G (NP ?_ f rfl));rw[f];show GT _ _ (TB ((false,OI (.Call (.Name "reversed" p2) [e] [] c) X.env)::[])) _ _ s;refine Qk ?_;refine SZ (dZ I t m j (NP (bS (ha c pins s σ H _ I h) λus s1 ⟨vs,H1,i,D,A⟩=>?_) F rfl));obtain⟨a,ys,n,L,q⟩:=A;subst n;obtain⟨u,n,B⟩:=vals1 D;subst n;obtain rfl:u=KB a:=B;obtain⟨its,w,pl,z⟩:=i.tuple L;have hl:=w.length
 have g:its.toArray.size<=sizeLine:=by rw[B8];lia
 refine PySem.DT.jz g pl ?_;refine Q3 ?_
 have E:a<s1.heap.objs.size:=by obtain⟨o,k,_⟩:=pl;exact FM k
 refine PySem.DT.pe (s:={s1 with heap:=s1.heap.push (PySem.DT.pH a ((its.toArray.size:Int)-1)),toks:=s1.toks+1+1}) (xs:=its.toArray) (i.ok.hd J) g (Nn E) (KM _ rfl) (let⟨o,k,r⟩:=pl;⟨o,B4 _ k,r⟩) λh' tk x htk M C=>?_;have d:(s1.heap.push (PySem.DT.pH a ((its.toArray.size:Int)-1))).objs.size=s1.heap.objs.size+1:=QU ..
 have l:h'.get? (s1.heap.objs.size+1)=some {cls:= .type "list",dict:=none,data:= .seq its.reverse.toArray x,slots:=#[]}:=by
  have :=C;dsimp only at this;rw[d]at this;exact this
 show EP X pins σ Q (.ref (s1.heap.push (PySem.DT.pH a ((its.toArray.size:Int)-1))).objs.size) _;rw[d];refine⟨.ref (s1.heap.objs.size+1),_,i.laid (a:=s1.heap.objs.size+1) (o:= .lst ys.reverse) (t':=tk) (λb o v=>M b o (Nn (FM v)) (B4 _ v)) (QD _) ⟨by rw[NZ];exact z,_,x,w.reverse,l⟩,rfl,q _ (i.hok.fresh (QD _))⟩
end
end L2
namespace PySem
variable{A:PR}{prog:Og}{s:Gc}{w:Ox}
namespace DT
section
variable{R:SO->Gc->Prop}{I:B3}{fp wr:List B3}{n:Nat}{P:Nat->B5->Prop}{St:Nat->ON->Prop}
theorem An(W:Walks prog w A.in1 I fp wr n P St)(z:Nat->Nat->Bool)(B:CmpOf prog w A.in1 .Gt P z)(O:B5)(S:B3)(E:S∉fp):
  ∀(k j:Nat)(s:Gc)(q:B5)(c:Nat),n-(j+1)=k->j+1<=n->St (j+1) s.heap->P (RQ z j) q->
  s.heap.get? S=some {cls:= .type "list",dict:=none,data:= .seq #[q,q] c,slots:=#[]}->
  (∀v h' tk,P (RQ z (n-1)) v->(∀b o,b∉wr->b≠S->s.heap.get? b=some o->h'.get? b=some o)->R (.ok (.ret v)) {s with heap:=h',toks:=tk})->
  Px (Nk prog w) A (.builtin "max.loop" ⟨[.ref I,.none,.ref S],[(NR "default",O)]⟩) R s:=by
 have D:S∉wr:=λh=>E (W.sub _ h)
 have g:(toString "max"++toString ".loop":String)="max.loop":=by decide
 intro k
 induction k with
 |zero=>
  intro j s q c Q T y p C H
  have G:j+1=n:=by lia
  refine Rx Rm ?_;rw[QH OU _];show GT _ A.in1 (RP (.ref S) >>= _) _ _ s;refine AC (Pv C rfl ?_);show GT _ A.in1 (tryCatch (QQ (.ref I)) _ >>= _) _ _ s;refine AC (QO (W.done s _ _ (G▸y) λh' tk d=>?_));have i:=d S _ D C;show GT _ A.in1 (QN S (λ_=>#[]) >>= _) _ _ _;refine AC ?_;refine O0 i rfl (AC (Qz (Fk ?_)));refine H q _ tk (by rw[<-G];exact p) λb o a f e=>(NM _ _ (B9 f)).trans (d b o a e)
 |succ k N=>
  intro j s q c Q T y p C H
  have u:j+1<n:=by lia
  refine Rx Rm ?_;rw[QH OU _];show GT _ A.in1 (RP (.ref S) >>= _) _ _ s;refine AC (Pv C rfl ?_);show GT _ A.in1 (tryCatch (QQ (.ref I)) _ >>= _) _ _ s;refine AC (QO (W.item (j+1) s _ _ u y λv h' tk L r d=>?_));have i:=d S _ D C;show GT _ A.in1 (tryCatch (TJ [v,v] (richCompare .Gt v q >>= _)) _ >>= _) _ _ _;refine AC (QO (OV (AC (B (j+1) (RQ z j) v q _ _ _ L p ?_))));refine AC (OV (Oo ?_));refine AC (Qz (Fk ?_))
  cases M:z (j+1) (RQ z j)with
  |true=>
   simp only[if_true];refine AC ?_;refine O0 i rfl (AC (Qz ?_));rw[g]
   refine Fk ⟨Pq OU _,N (j+1) _ v _ (by lia) u (W.frame _ _ _ r λb J o e=>?_) (by simp only[RQ,M,if_true];exact L) (Of _ i rfl)
    λK x l t m=>?_⟩
   ·exact(NM _ _ (λh:S=b=>E (by rw[h];exact J))).trans e
   ·exact H K x l t λb o a f e=>m b o a f ((NM _ _ (B9 f)).trans (d b o a e))
  |false=>
   simp only[QV,if_false];refine AC (Qz ?_);rw[g];refine Fk ⟨Pq OU _,N (j+1) _ q c (by lia) u r (by simp only[RQ,M,QV,if_false];exact p) i λK x l t m=>?_⟩;exact H K x l t λb o a f e=>m b o a f (d b o a e)
theorem wm(W:Walks prog w A.in1 I fp wr n P St)(r:Nat->Nat->Bool)(f:CmpOf prog w A.in1 .Gt P r)(z:B5)(S:B3)(d:S∉fp)(hn:0<n){c:Nat}(y:St 0 s.heap)(B:s.heap.get? S=some {cls:= .type "list",dict:=none,data:= .seq #[] c,slots:=#[]})(E:∀v h' tk,P (RQ r (n-1)) v->(∀b o,b∉wr->b≠S->s.heap.get? b=some o->h'.get? b=some o)->R (.ok (.ret v)) {s with heap:=h',toks:=tk}):
  Px (Nk prog w) A (.builtin "max.loop" ⟨[.ref I,.none,.ref S],[(NR "default",z)]⟩) R s:=by
 have u:S∉wr:=λh=>d (W.sub _ h)
 have a:(toString "max"++toString ".loop":String)="max.loop":=by decide
 refine Rx Rm ?_;rw[QH OU _];show GT _ A.in1 (RP (.ref S) >>= _) _ _ s;refine AC (Pv B rfl ?_);show GT _ A.in1 (tryCatch (QQ (.ref I)) _ >>= _) _ _ s;refine AC (QO (W.item 0 s _ _ hn y λv h' tk C p g=>?_));have j:=g S _ u B;show GT _ A.in1 (QN S (λ_=>#[v,v]) >>= _) _ _ _;refine AC ?_;refine O0 j rfl ?_;rw[a];refine Fk ⟨Pq OU _,An W r f z S d _ 0 _ v _ rfl hn (W.frame _ _ _ p λb x o e=>?_) C (Of _ j rfl) λD t l q m=>?_⟩
 ·exact(NM _ _ (λh:S=b=>d (by rw[h];exact x))).trans e
 ·exact E D t l q λb o i k e=>m b o i k ((NM _ _ (B9 k)).trans (g b o i e))
end
theorem Ar(a b:B5):Ro "max" ⟨[a],[(NR "default",b)]⟩:=by unfold Ro;kernel_rfl
section
variable{E:B5->Gc->Prop}{l:B3}
theorem qV{xs:Array (Int×Tok)}{d:B5}{Q:B5->Gc->Prop}(z:A.handled=none)(hl:s.heap.IsList l (SL xs))(h0:xs.size=0->∀h' tk,(∀b o,s.heap.get? b=some o->h'.get? b=some o)->Q d {s with heap:=h',toks:=tk})(h:∀v h' tk,0<xs.size->(SL xs)[RQ (λi j=>decide (numAt xs i>numAt xs j)) (xs.size-1)]? =some v->(∀b o,s.heap.get? b=some o->h'.get? b=some o)->Q v {s with heap:=h',toks:=tk}):
  GT (Nk prog w) A (call (.builtin "max") [.ref l] [(NR "default",d)]) Q E s:=by
 have a:(toString "max"++toString ".loop":String)="max.loop":=by decide
 refine PyProof.Rows.kmk_tree PySem.F.kind_max PySem.F.plain_max PySem.F.entry_max (Ar _ _) ?_;show GT _ A.in1 (SI "max" ["key","default"] 0 ⟨[],[(NR "default",d)]⟩ >>= _) _ _ s;refine AC (Pp (show SI "max" ["key","default"] 0 ⟨[],[(NR "default",d)]⟩=pure [none,some d]from rfl) ?_);refine AC (Fk ?_);refine AC (iter_intList hl λx e st r p=>?_);subst e;refine AC (Oq ?_);have q:(s.heap.push {cls:= .type "list_iterator",data:= .fields #[.ref l,.int 0 0]}).objs.size∉[s.heap.objs.size,l]:=λhm=>OJ _ (r _ hm);rw[a];have W:=Walks.list (prog:=prog) (w:=w) (A:=A.in1) z s.heap.objs.size l p (SL xs)
 have c:(SL xs).size=xs.size:=by simp[SL]
 generalize B:s.heap.push {cls:= .type "list_iterator",data:= .fields #[.ref l,.int 0 0]}=g at *
 have n:∀b o,s.heap.get? b=some o->g.get? b=some o:=λb o e=>by rw[<-B];exact B4 _ e
 have k:=W.frame 0 g (g.push {cls:= .type "list",data:= .seq ([]:List B5).toArray}) st λb _ o e=>B4 _ e;have f:(g.push {cls:= .type "list",data:= .seq ([]:List B5).toArray}).get? g.objs.size=some {cls:= .type "list",dict:=none,data:= .seq #[] 0,slots:=#[]}:=KM _ rfl
 have y:∀b o,s.heap.get? b=some o->b∉[s.heap.objs.size]:=λb o e hm=>by
  rw[List.mem_singleton.mp hm]at e;exact absurd (FM e) (OJ _)
 rcases Nat.eq_zero_or_pos xs.size with u|hp
 ·refine Fk ⟨Pq OU _,Rx Rm ?_⟩;rw[QH OU _];show GT _ _ (RP (.ref g.objs.size) >>= _) _ _ _;refine AC (Pv f rfl ?_);show GT _ _ (tryCatch (QQ (.ref s.heap.objs.size)) _ >>= _) _ _ _;rw[c,u]at W;refine AC (QO (W.done {s with heap:=g.push {cls:= .type "list",data:= .seq ([]:List B5).toArray}} _ _ k λh' tk m=>?_));refine AC (Qu (Fk ?_));exact h0 u h' tk λb o e=>m b o (y b o e) (B4 _ (n b o e))
 ·refine Fk ⟨Pq OU _,wm (s:={s with heap:=g.push {cls:= .type "list",data:= .seq ([]:List B5).toArray}}) W _ (CmpOf.ints_gt (numAt xs) (λ_ _=>intItems_at)) d g.objs.size q (by rw[c];exact hp) k f λv h' tk t C=>?_⟩;rw[c]at t;exact h v h' tk hp t λb o e=>C b o (y b o e) (Nn (FM (n b o e))) (B4 _ (n b o e))
end
end DT
end PySem
namespace L2
open PySem PySem.Spec PyProof.Rows
variable{X:Cx}
inductive GC(K:mo)(xs:List V)(ws:List V)(H:Hp)(Q:VK):Prop|mk(p:B3)(ns:List Int)(d:Int)(_:xs=[.ref p])(_:ws=[.int d])(_:bf K H p (ns.map V.int))(_:∀M:Int,(ns=[]->M=d)->(ns≠[]->M∈ns/\∀b∈ns,b<=M)->Q (.int M) H)
theorem zJ{pins:List (B3×Obj)}{σ:St}(D:X.calm=true){s:Gc}{H:Hp}{xs ws:List V}{us ks:List B5}{Q:VK}(I:Inv X pins σ H s)(r:Vals xs us)(F:Vals ws ks)(h:GC X.K xs ws H Q):
  GT (Nk X.prog X.w) X.A (call (.builtin "max") us ([NR "default"].zip ks)) (EP X pins σ Q) X.xe s:=by
 obtain⟨p,ns,d,G,c,o,q⟩:=h;subst G c;obtain⟨u,c,y⟩:=vals1 r;subst c;obtain rfl:u=KB p:=y;obtain⟨v,c,g⟩:=vals1 F;subst c;obtain⟨J,rfl⟩:=g;obtain⟨its,x,pl,n⟩:=I.list o;have i:=intsAre_of x;obtain⟨zs,l⟩:=i.allInts.items
 have f:ns=zs.toList.map (·.1):=by rw[<-i.numsOf,<-nums_intItems,<-l]
 have m:=pl.isList;rw[l]at m
 have a:ns.length=zs.size:=by rw[f,be,Ni]
 refine PySem.DT.qV (I.ok.hd D) m (λn h' tk e=>?_) λv h' tk M B e=>?_
 ·exact⟨.int d,H,I.kept e,⟨J,rfl⟩,q d (λ_=>rfl) λz=>absurd (NK (by lia)) z⟩
 obtain⟨t,C⟩:=intItems_at B;subst C;obtain⟨g1,g2⟩:=argBest_gt (numAt zs) (zs.size-1);refine⟨.int _,H,I.kept e,⟨t,rfl⟩,q _ (λz=>?_) λ_=>⟨?_,λb k=>?_⟩⟩
 ·rw[z]at a;simp at a
  lia
 ·rw[f,numAt_eq];exact getD_mem (by rw[be,Ni];lia)
 ·rw[f]at k;obtain⟨j,L,E⟩:=mem_getD k;subst E;rw[be,Ni]at L;rw[<-numAt_eq];exact g2 j (by lia)
def Jw(K:mo)(ta tk:TA):TE:=λσ H Q=>ta σ H λvs H1=>tk σ H1 λws H2=>GC K vs ws H2 Q
theorem EU{l:Expr}{kws:List Q2}{ta tk:TA}{p pos:Pos}(e:X.calm=true)(f:Gl X "max")(hm:X.mg "max"=none)(ha:PA X [l] ta)(o:PK X kws tk)(c:(PH pos (OP kws X.env)).filterMap (·.1)=[NR "default"]:=by rfl)(he:Pr pos (Nx [l] X.env)=(false,OI l X.env)::Pr pos (Nx [] X.env):=by rfl)(d:(Pr pos (Nx [l] X.env)).any (·.1)=false:=by rfl)(a:(PH pos (OP kws X.env)).all (·.1.isSome)=true:=by rfl)(b:(PH pos (OP kws X.env)).any (·.1.isNone)=false:=by rfl):
  PE X (.Call (.Name "max" p) [l] kws pos) (Jw X.K ta tk):=by
 intro pins s σ H Q I h;refine Qe (dZ I f hm Ub (tK (bS (ha pos pins s σ H _ I h) λus s1 ⟨vs,H1,k,i,g⟩=>bS (o pos pins s1 σ H1 _ k g) λks s2 ⟨ws,H2,m,j,n⟩=>?_) he d a b));rw[c];exact zJ e m i j n
open PySem.W
variable{w:Ox}
theorem yQ{prog:Og}{K:Type}[DecidableEq K]{knd:KeyKind prog w K}{h:ON}{a:B3}{vs:List (K×B5)}(d:h.DictOf knd a vs):∃ep,h.DictAt knd a vs ep:=by
 obtain⟨o,es,ep,h1,h2,b,c,f,e⟩:=d;exact⟨ep,o,es,h1,h2,b,c,f,e⟩
theorem LY{kvs:List (Key×V)}{vs:List (Key×B5)}(r:KV kvs vs){i:Nat}{k:Key}{x:V}(h:kvs[i]? =some (k,x)):∃v,vs[i]? =some (k,v)/\RelV x v:=by
 induction r generalizing i with
 |nil=>cases h
 |cons p q a=>
  cases i with
  |zero=>
   cases h
   obtain⟨e,z⟩:=p;exact⟨_,by rw[List.getElem?_cons_zero];exact congrArg some (QB e.symm rfl),z⟩
  |succ i=>exact a h
theorem Gy{P:Og}{k:Key}{u:B5}(h:(bb P w).is k u=true):RelV (kV k) u:=by
 rcases b_ h with⟨i,t,rfl,rfl⟩|⟨x,t,rfl,rfl⟩
 ·exact⟨t,rfl⟩
 ·exact⟨t,rfl⟩
theorem nV:Uk table "dict_itemiterator.__iter__"=some Builtin.«dict_keyiterator.__iter__»:=
 entryFor_alias (id':="dict_keyiterator.__iter__") (by kernel_rfl) rfl (by decide +kernel) (by kernel_rfl)
inductive Jg(xs:List V)(H:Hp)(Q:VK):Prop|mk(a:B3)(kvs:List (Key×V))(_:xs=[.ref a])(_:Rd H a (.dK kvs))(_:∀p,H p=none->Q (.ref p) (upd H p (.lst (kvs.map λb=>kV b.1))))
theorem vo(F:X.calm=true):dv X (.type "list") Jg:=by
 intro pins s σ H xs us Q I r h;obtain⟨a,kvs,J,d,q⟩:=h;subst J;obtain⟨u,G,D⟩:=vals1 r;subst G;obtain rfl:u=KB a:=D;obtain⟨z,hd,vs,i,dd⟩:=i_ I.hok d;obtain⟨ep,da⟩:=yQ dd;refine kdl_call (kdl_dict (knd:=bb X.prog X.w) (kvs:=vs) (ep:=ep) hd) (I.ok.hd F) da (by rw[<-i.length];exact z) λh' tk g c K y b=>?_
 have B:Vals (kvs.map λf=>kV f.1) g.toList:=by
  have A:g.toList.length=vs.length:=by rw[Ni];exact b.1
  have go:∀(ks:List (Key×V))(us:List (Key×B5))(as:List B5),KV ks us->as.length=us.length->(∀(j:Nat)(v:B5),as[j]? =some v->∃k x,us[j]? =some (k,x)/\(bb X.prog X.w).is k v=true)->Vals (ks.map λf=>kV f.1) as:=by
   intro ks us as f
   induction f generalizing as with
   |nil=>intro l _;cases as with
    |nil=>exact .nil
    |cons=>cases l
   |cons p t E=>
    intro l n
    cases as with
    |nil=>cases l
    |cons v as=>
     refine .cons ?_ (E as (by simpa using l) λj w e=>n (j+1) w (by simpa using e));obtain⟨k,x,e,m⟩:=n 0 v rfl;have C:=Kf e;show RelV (kV _) v;rw[p.1,C];exact Gy m
  exact go kvs vs _ i A λj v e=>b.2 j v (by rw[<-Pi];exact e)
 refine⟨.ref s.heap.objs.size,_,I.laid (a:=s.heap.objs.size) (o:= .lst (kvs.map λf=>kV f.1)) (t':=tk) K (B2 _) ⟨by rw[be];exact z,g.toList,c,B,by simpa using y⟩,rfl,q _ (I.hok.fresh (B2 _))⟩
end L2
namespace L2
open PySem PySem.Spec PyProof.Rows
noncomputable def Mn(x:Str):It:=⟨λi _=>i<x.cps.size,λi H v H'=>H'=H/\∃c,x.cps[i]? =some c/\v= .str ⟨#[c]⟩,λi _=>x.cps.size<=i⟩
variable{tg:Expr}{X:Cx}
theorem uk{P:Og}{w:Ox}{K:mo}{T:String}(m:T="str_ascii_iterator"∨T="str_iterator")(it:B3)(x:Str)(t:Tok):Turn P w K tg (Mn x) [it] it (λi h=>h.IsStrIter it T x t i/\i<=x.cps.size) where
 mem:=by simp
 obj:=λi h st b a=>by
  have e:b=it:=by simpa using a
  subst e;obtain⟨⟨o,e,c,d⟩,_⟩:=st;exact⟨o,e,λv z=>by rw[d]at z;cases z⟩
 keep:=λi h h' st k=>by
  obtain⟨⟨o,e,r⟩,hi⟩:=st;exact⟨⟨o,k it (by simp) o e,r⟩,hi⟩
 item:=by
  intro X p y q j i pins s σ H E I l st f;subst p y q;obtain⟨B,f1,f2,f3,f4,f5⟩:=l it (by simp)
  have W:Walks X.prog X.w X.A it [it] [it] x.cps.size (SignAt x) (λi h=>h.IsStrIter it T x t i):=by
   rcases m with rfl|rfl
   ·exact Walks.strAscii (I.ok.hd j) it x t
   ·exact Walks.strWide (I.ok.hd j) it x t
  have f:i<x.cps.size:=f;refine W.item i s _ _ f st.1 λv h' tk F g kk=>?_;obtain⟨c,u,n,rfl⟩:=F;have D:Inv X pins σ H {s with heap:=h',toks:=tk}:=I.turned (λb o a e=>kk b o (by simpa using a) e) B f1 f3 f4 f5;obtain⟨o,e,C,d⟩:=id g;exact⟨_,rfl,tL (s:={s with heap:=h',toks:=tk}) e C d (by rcases m with rfl|rfl<;>decide) ⟨.str ⟨#[c]⟩,H,D,⟨u,rfl⟩,⟨rfl,c,n,rfl⟩,⟨g,f⟩,λb a=>(l b a).1⟩⟩
 done:=by
  intro X p y q j i pins s σ H E I l st f;subst p y q;obtain⟨B,f1,f2,f3,f4,f5⟩:=l it (by simp)
  have W:Walks X.prog X.w X.A it [it] [it] x.cps.size (SignAt x) (λi h=>h.IsStrIter it T x t i):=by
   rcases m with rfl|rfl
   ·exact Walks.strAscii (I.ok.hd j) it x t
   ·exact Walks.strWide (I.ok.hd j) it x t
  have hi:i=x.cps.size:=Nat.le_antisymm st.2 f;subst hi;exact W.done s _ _ st.1 λh' tk kk=>⟨rfl,I.turned (λb o a e=>kk b o (by simpa using a) e) B f1 f3 f4 f5⟩
 self:=λ_ _ _ _ _ st h=>by
  rcases m with rfl|rfl
  ·exact wpAny_pyIter_striter_ascii st.1 h
  ·exact wpAny_pyIter_striter_wide st.1 h
def K8(tl:TE):TI:=λσ H R=>tl σ H λv H1=>∃x,v= .str x/\R (Mn x) H1
theorem qZ{l:Expr}{tl:TE}(hl:PE X l tl):PI X tg l (K8 tl):=by
 intro pins s σ H R I h;refine bS (hl pins s σ H _ I h) λv s1 c=>?_;obtain⟨y,H1,a,g,f⟩:=c;obtain⟨x,e,q⟩:=f;subst e;obtain⟨t,rfl⟩:=g
 cases ha:x.cps.all (·<128)
 ·refine wpAny_pyIter_wide ha ?_;refine⟨s1.heap.objs.size,[s1.heap.objs.size],_,_,H1,rfl,a.kept (t':=s1.toks) λb o e=>B4 _ e,uk (.inr rfl) _ x t,⟨⟨_,KM _ rfl,rfl,rfl⟩,Nl _⟩,λb d=>?_,q⟩
  have e:b=s1.heap.objs.size:=by simpa using d
  subst e;exact a.mD (B2 _) (a.hok.fresh (B2 _))
 ·refine wpAny_pyIter_ascii ha ?_;refine⟨s1.heap.objs.size,[s1.heap.objs.size],_,_,H1,rfl,a.kept (t':=s1.toks) λb o e=>B4 _ e,uk (.inl rfl) _ x t,⟨⟨_,KM _ rfl,rfl,rfl⟩,Nl _⟩,λb d=>?_,q⟩
  have e:b=s1.heap.objs.size:=by simpa using d
  subst e;exact a.mD (B2 _) (a.hok.fresh (B2 _))
inductive L_(a:V)(b:V)(H:Hp)(Q:VK):Prop|mk(x y:Str)(_:a= .str x)(_:b= .str y)(_:Q (.bl (!decide (y.cps.toList<x.cps.toList))) H)
theorem qJ:ir X (Os .LtE) L_:=by
 intro pins s σ H x y v u Q I f d h;obtain⟨a,b,e,c,q⟩:=h;subst e c;obtain⟨t,rfl⟩:=f;obtain⟨t',rfl⟩:=d;exact PySem.P.le_str ⟨.bl _,H,I,rfl,q⟩
end L2
namespace DW
open PySem
noncomputable def nS(i:Int):Str:=NR (toString i)
theorem dc(s:String):(NR s).cps.toList=s.toList.map Char.toNat:=by
 rw[Str.ofString_eq_byList];rfl
variable{x y s:Str}{a b i:Int}{c B:Nat}
theorem lW(h:x.cps.toList=y.cps.toList):x=y:=by
 cases x;cases y
 simp only[Str.mk.injEq];exact Array.toList_inj.mp h
theorem qX{a b:String}(h:NR a=NR b):a=b:=by
 have e:=congrArg (λs:Str=>s.cps.toList) h;rw[dc,dc]at e
 have g:a.toList=b.toList:=by
  exact(Qh λc d f=>Char.toNat_inj.mp f).mp e
 exact String.toList_inj.mp g
theorem dg(h:nS a=nS b):a=b:=Int.repr_injective (qX h)
theorem xK(n:Nat):∀c∈(Qm n).toList,48<=c.toNat/\c.toNat<=57:=λc a=>by
 have e:(Qm n).toList=P0 10 n:=by unfold Qm;exact Uo
 rw[e]at a;have :=SF (by decide) (by decide) a;simp only[Char.isDigit,Oi,decide_eq_true_eq]at this;exact⟨this.1,this.2⟩
theorem He(i:Int):∀c∈(nS i).cps.toList,c=45∨48<=c/\c<=57:=λc a=>by
 unfold nS at a;rw[dc]at a;obtain⟨d,hd,rfl⟩:=List.mem_map.mp a
 cases i with
 |ofNat n=>exact .inr (xK n d hd)
 |negSucc n=>
  have e:(toString (Int.negSucc n)).toList= '-' ::(Qm (n+1)).toList:=by
   show("-"++Qm (n+1)).toList=_;rw[RH];rfl
  rw[e]at hd
  rcases List.mem_cons.mp hd with z|z
  ·rw[z];exact .inl rfl
  ·exact .inr (xK (n+1) d z)
theorem ml(x y:Str):(x++y).cps.toList=x.cps.toList++y.cps.toList:=by
 show(x.cps++y.cps).toList=_;rw[Nm]
theorem BJ{α:Type}{c:α}:∀{x y r r':List α},c∉x->c∉y->x++c::r=y++c::r'->x=y/\r=r'
 |[],[],r,r',_,_,e=>by injection e with _ e;exact⟨rfl,e⟩
 |[],b::y,r,r',_,d,e=>by injection e with e _;exact absurd (by rw[<-e];exact B6) d
 |a::x,[],r,r',hx,_,e=>by injection e with e _;exact absurd (by rw[e];exact B6) hx
 |a::x,b::y,r,r',hx,d,e=>by
  injection e with g i
  obtain⟨j,f⟩:=BJ (λh=>hx (De _ h)) (λh=>d (De _ h)) i;exact⟨by rw[g,j],f⟩
theorem cut_str{r r':Str}(hx:c∉x.cps.toList)(d:c∉y.cps.toList){t:List Nat}(f:s.cps.toList=c::t)(e:x++(s++r)=y++(s++r')):x=y/\r=r':=by
 have a:=congrArg (λs:Str=>s.cps.toList) e;rw[ml,ml,ml,ml,f,Pb,Pb]at a;obtain⟨g,b⟩:=BJ hx d a;exact⟨lW g,lW (List.append_cancel_left b)⟩
theorem kn(h:c<45∨(45<c/\c<48)∨57<c)(i:Int):c∉(nS i).cps.toList:=λa=>by
 have :=He i c a
 lia
theorem fZ(x y z:Str):(x++y)++z=x++(y++z):=by
 show(⟨(x.cps++y.cps)++z.cps⟩:Str)=⟨x.cps++(y.cps++z.cps)⟩;rw[Pf]
theorem Em{t:List Nat}(f:s.cps.toList=c::t)(d:c<45∨(45<c/\c<48)∨57<c){a' b':Int}(e:nS a++(s++nS b)=nS a'++(s++nS b')):a=a'/\b=b':=by
 obtain⟨h1,h2⟩:=cut_str (kn d a) (kn d a') f e;exact⟨dg h1,dg h2⟩
theorem KP(s x:Str):NA s [x]=x:=rfl
theorem GX(s x y:Str):NA s [x,y]=x++(s++y):=by
 show(⟨x.cps++s.cps++y.cps⟩:Str)=⟨x.cps++(s.cps++y.cps)⟩;rw[Pf]
theorem yF(s x y:Str)(r:List Str):NA s (x::y::r)=x++(s++NA s (y::r)):=by
 have d:∀(r:List Str)(a b:Array Nat),r.foldl (λc p=>c++s.cps++p.cps) (a++b)=a++r.foldl (λc p=>c++s.cps++p.cps) b:=λr=>by
  induction r with
  |nil=>intro a b;rfl
  |cons z r e=>
   intro a b;rw[RB,RB,Pf (xs:=a),Pf (xs:=a),e]
 show(⟨r.foldl (λc p=>c++s.cps++p.cps) (x.cps++s.cps++y.cps)⟩:Str)=⟨x.cps++(s.cps++r.foldl (λc p=>c++s.cps++p.cps) y.cps)⟩;rw[d,Pf]
theorem Fy(x:Str):x.length=x.cps.toList.length:=by
 show x.cps.size=_;exact Array.length_toList.symm
theorem fi(s:Str):∀(ys:List Str),(∀y∈ys,y.length<=B)->(NA s ys).length<=ys.length*(B+s.length)
 |[],_=>Nl _
 |[x],h=>by
  rw[KP];have :=h x B6;show _<=1*_
  lia
 |x::y::r,h=>by
  rw[yF,GE,GE];have h1:=h x B6;have h2:=fi s (y::r) λz a=>h z (De _ a);rw[FB,R_]
  lia
theorem kP:∀(ys:List Str),(∀y∈ys,y.length<=B)->(ys.map (·.length)).sum<=ys.length*B
 |[],_=>Nl _
 |y::r,h=>by
  have h1:=h y B6;have h2:=kP r λz a=>h z (De _ a);rw[Nq,RY,FB,R_]
  lia
theorem fj(h:i.natAbs<1000000000):(nS i).length<=10:=by
 have k:∀n:Nat,n<1000000000->(Qm n).toList.length<=9:=λn hn=>by
  have e:(Qm n).toList=P0 10 n:=by unfold Qm;exact Uo
  rw[e];exact(Nat.length_toDigits_le_iff (by decide) (by decide)).mpr vY
 rw[Fy];unfold nS;rw[dc,be]
 cases i with
 |ofNat n=>
  have :=k n h;show(Qm n).toList.length<=10;exact cP
 |negSucc n=>
  have e:(toString (Int.negSucc n)).toList= '-' ::(Qm (n+1)).toList:=by
   show("-"++Qm (n+1)).toList=_;rw[RH];rfl
  rw[e,FB];have :=k (n+1) h;exact Ik
theorem Au(h:i.natAbs<1000000000):i.natAbs.log2<1920:=by
 have :i.natAbs.log2<=i.natAbs:=Nat.log2_le_self _;by_cases z:i.natAbs=0
 ·rw[z];decide
 ·have h2:=(Nat.log2_lt z (k:=30)).mpr Ew;exact Ew
end DW
namespace L2
open PySem PySem.Spec PyProof.Rows
noncomputable def tS:V->Str
 | .int i=>DW.nS i
 | .str x=>x
 |_=>""
def ro:V->Prop
 | .int i=>i.natAbs<1000000000
 | .str x=>x.length<=60
 |_=>False
variable{K:mo}
section
variable{X:Cx}
inductive qyG(xs:List V)(H:Hp)(Q:VK):Prop|mk(x:_)(_:xs=[x])(_:ro x)(_:Q (.str (tS x)) H)
theorem cS:dv X (.type "str") qyG:=by
 intro pins s σ H xs us Q I r h;obtain⟨x,rfl,hx,q⟩:=h;obtain⟨u,rfl,a⟩:=vals1 r
 cases x with
 |int i=>
  obtain⟨t,rfl⟩:=a;exact PySem.P.str_of_int (DW.Au hx) ⟨.str _,H,I.tok _,⟨_,rfl⟩,q⟩
 |str x=>
  obtain⟨t,rfl⟩:=a;exact PySem.P.str_of_str ⟨.str _,H,I,⟨_,rfl⟩,q⟩
 |_=>exact hx.elim
inductive vr(K:mo)(x:V)(vs:List V)(H:Hp)(Q:VK):Prop|mk(z b ys:_)(_:x= .str z)(_:vs=[.ref b])(_:ba K H b (ys.map V.str))(_:(ys.map (·.length)).sum+ys.length*z.length<=16777216)(_:Q (.str (NA z ys)) H)
theorem CD:AF X "str.join" (vr X.K):=by
 intro pins s σ H x vs v us Q I e d h;obtain⟨z,b,ys,l,i,hB,a,q⟩:=h;subst l i;obtain⟨t,j⟩:=(show∃t,v=OG z t from e);subst j;obtain⟨u,g,f⟩:=d.one;subst g;obtain rfl:u=KB b:=f;obtain⟨its,r,pl,c⟩:=I.tuple hB;exact join_tuple pl (by simpa using qO r) a λt' k=>⟨.str (NA z ys),H,I.tok k,⟨t',rfl⟩,q⟩
variable{o e:Expr}{es:List Expr}{to:TE}{t:TA}{name:Str}{apos cpos:Pos}{T id:String}{r:V->List V->Hp->VK->Prop}
theorem A9(pa:UK T)(slot:Vd T name id)(g:typeOf (.builtin id)=pure (.type "method_descriptor"))(hm:X.K=K->LA X id r)(i:PE X o to)(ha:PA X (e::es) t)(h:X.K=K:=by rfl)(c:P5 o name X.env (OI o X.env)=OI o X.env:=by rfl)(d:((Pr cpos (Nx (e::es) X.env)).all (λx=> !x.1)&&(PH cpos (OP [] X.env)).all (λx=>x.1.isSome)
   &&decide ((e::es).length+([]:List Q2).length+(if([]:List Q2).isEmpty then 0 else 1)<30))=true:=by rfl)(b:(apos.endLine==cpos.line)=true:=by rfl)(j:Nx (e::es) X.env=(false,OI e X.env)::Nx es X.env:=by rfl)(a:(Pr cpos (Nx es X.env)).any (·.1)=false:=by rfl):
  PE X (.Call (.Attribute o name apos) (e::es) [] cpos) (Mx K T r to t):=by
 have f:=hm h;subst h;exact cw pa slot g f i ha c d b j a
theorem Ag(h:X.K=K):LA X "str.join" (vr K):=by subst h;exact CD
end
open S2
variable{H:Hp}{Q:VK}{a:B3}{te:TE}{xs:List V}{σ:St}
theorem pR(f:V->V)(h:H a=some (.tup xs))(hn:xs.length<sizeLine)(he:∀(i:Nat)(x:V)(H':Hp)(d:VK),xs[i]? =some x->af H H'->(∀H3,af H' H3->d (f x) H3)->te (some x::σ) H' d)(hd:∀D H',H D=none->af H H'->H' D=some (.lst (xs.map f))->Q (.ref D) H'):fk (Ht K a) H σ jE te Q:=by
 intro D c;refine⟨λi m H'=>m=xs.length-i/\i<=xs.length/\af H H'/\H' D=some (.lst ((xs.take i).map f)),⟨xs.length,by lia,Nl _,af.put (af.refl H) c,ae⟩,?_⟩;rintro i m H' ⟨rfl,hi,s1,hl⟩;have q:ba K H' a xs:=ba.of (s1 _ _ h);by_cases b:i<xs.length
 ·refine .inr ⟨⟨xs,xs[i],q,by simp[b]⟩,λx H2 y=>?_⟩;obtain⟨e,y⟩:=y;subst e;have hx:=y xs q;show te _ H2 _;refine he i x H2 _ hx s1 λH3 g=>⟨_,g _ _ hl,by rw[be,OT];lia,xs.length-(i+1),by lia,rfl,by lia,af.put (s1.trans g) c,?_⟩;rw[ae,Pd,hx,Da];rfl
 ·have e:i=xs.length:=by lia
  subst e;rw[O_]at hl;exact .inl ⟨⟨xs,q,B2 _⟩,hd D H' c s1 hl⟩
theorem aq{t u:TS}{D:Ends}(h:∀N:St->Hp->Prop,(∀σ H,u D σ H->N σ H)->t {D with nx:=N} σ H):HC t u D σ H:=h _ λ_ _ x=>x
open PySem.W
def gp(J:It)(H:Hp)(xs:List V):Prop:=
 (∀i H',af H H'->i<xs.length->J.go i H')/\(∀H',af H H'->J.stop xs.length H')/\∀i x H' a,af H H'->J.yld i H' x a->a=H'/\xs[i]? =some x
theorem gp.list(h:bf K H a xs):gp (IS K a) H xs:=
 ⟨λi H' s hi=>⟨xs,xs[i],s.seq h,by simp[hi]⟩,λH' s=>⟨xs,s.seq h,B2 _⟩,λi x H' b s y=>by
  obtain⟨e,y⟩:=y
  exact⟨e,y xs (s.seq h)⟩⟩
theorem lE{α:Type}{l:List α}{c:α->Bool}{i:Nat}{x:α}(h:l[i]? =some x):(l.take (i+1)).filter c=(l.take i).filter c++if c x=true then[x]else[]:=by
 rw[Pd,h,Qj]
 congr 1
 cases a:c x<;>simp[a]
theorem lT{α:Type}{J:It}{l:List α}{tt:TT}(inj:α->V)(c:α->Bool)(f:α->V)(k:gp J H (l.map inj))(hn:l.length<sizeLine)(r:∀(x:α)(H':Hp)(h:Bool->Hp->Prop),x∈l->af H H'->(∀b,af H' b->h (c x) b)->tt (some (inj x)::σ) H' h)(he:∀(x:α)(H':Hp)(h:VK),c x=true->x∈l->af H H'->(∀b,af H' b->h (f x) b)->te (some (inj x)::σ) H' h)(hd:∀D H',H D=none->af H H'->H' D=some (.lst ((l.filter c).map f))->Q (.ref D) H'):fk J H σ tt te Q:=by
 intro D n;refine⟨λi m H'=>m=l.length-i/\i<=l.length/\af H H'/\H' D=some (.lst (((l.take i).filter c).map f)),⟨_,rfl,Nl _,af.mV (af.refl H) n,ae⟩,?_⟩;rintro i m H' ⟨rfl,hi,s1,hl⟩;by_cases a:i<l.length
 ·refine .inr ⟨k.1 i H' s1 (by rw[be];exact a),λx H2 y=>?_⟩;obtain⟨e,o⟩:=k.2.2 i x H' H2 s1 y;subst e;have ex:l[i]? =some l[i]:=B0 a;rw[B7,ex]at o
  cases o
  have hm:=Do ex;generalize l[i]=x at *;refine r x _ _ hm s1 λH3 q=>?_;have g:=q _ _ hl;have d:=af.trans s1 q
  cases j:c x with
  |true=>
   refine eY (he x _ _ j hm d λH4 p=>⟨_,p _ _ g,?_,_,OH _ _ a,rfl,a,af.mV (af.trans d p) n,?_⟩)
   ·rw[be];exact QS (NW (PP _ _) (by rw[OT];lia)) hn
   ·rw[ae,lE ex,if_pos j,Da];rfl
  |false=>
   refine dh ⟨_,OH _ _ a,rfl,a,d,?_⟩;rw[g,lE ex,if_neg (by rw[j];exact FS),Dk]
 ·have e:i=l.length:=by lia
  have :=k.2.1 H' s1;rw[be]at this;rw[e];refine .inl ⟨this,?_⟩;rw[e,O_]at hl;exact hd D H' n s1 hl
end L2
namespace L2
open PySem PySem.Spec PyProof.Rows
variable{H:Hp}{X:Cx}{pins:List (B3×Obj)}{s:Gc}{xe:B5->Gc->Prop}{σ:St}{K:mo}{tg:Expr}
section
variable{C1:B3}{n c1:Str}{np1 hp1 tpos:Pos}{tb:XK->TS}{T1:TS}{b1:NG}{su1 body:List NG}{i:Nat}
theorem Inv.Me{a:List (B3×Obj)}(I:Inv {X with pn:=X.pn++pins,xe:=xe} a σ H s):Inv X pins σ H s:=
 ⟨⟨I.ok.mod,I.ok.kind,I.ok.glob,I.ok.blt,I.ok.above,I.ok.inj,I.ok.has,I.ok.cab,I.ok.hd,I.ok.frames,I.ok.stk,I.ok.exf,I.ok.bs,I.ok.bsz,I.ok.noex,I.ok.exfs,I.ok.jN,I.ok.frf⟩,I.os,I.bare,I.base,I.loc,I.cell,I.free,I.freeC,λp b=>I.pin p (NS _ b),I.hok,I.len⟩
theorem Inv.Ku(I:Inv X pins σ H s):Inv {X with pn:=X.pn++pins,xe:=xe} [] σ H s:=
 ⟨⟨I.ok.mod,I.ok.kind,I.ok.glob,I.ok.blt,I.ok.above,I.ok.inj,I.ok.has,I.ok.cab,I.ok.hd,I.ok.frames,I.ok.stk,I.ok.exf,I.ok.bs,I.ok.bsz,I.ok.noex,I.ok.exfs,I.ok.jN,I.ok.frf⟩,I.os,I.bare,I.base,I.loc,I.cell,I.free,I.freeC,λp a=>I.pin p (by simpa using a),I.hok,I.len⟩
end
noncomputable def uz(K:mo)(a:B3)(n:Nat):It:=
 ⟨λi H=>∃xs x,bf K H a xs/\xs.length=n/\i<n/\xs[n-1-i]? =some x,λi H x H'=>H'=H/\∀xs,bf K H a xs->xs[n-1-i]? =some x,λi H=>n<=i⟩
theorem Dr{P:Og}{w:Ox}(a it:B3)(n:Nat):Turn P w K tg (uz K a n) [it] it (λi h=>i<=n/\h.IsRevIter it a ((n:Int)-1-(i:Int))) where
 mem:=by simp
 obj:=λi h st b j=>by
  have e:b=it:=by simpa using j
  subst e;obtain⟨_,o,e,c,d⟩:=st;exact⟨o,e,λv z=>by rw[d]at z;cases z⟩
 keep:=λi h h' st k=>⟨st.1,st.2.at λo e=>k it (by simp) o e⟩
 item:=by
  intro X m t r B i pins s σ H E I l st q;subst m t r;obtain⟨xs,x,C,D,hi,hx⟩:=q;obtain⟨its,L,p,S⟩:=I.list C;obtain⟨u,O,M⟩:=L.get hx;obtain⟨y,f1,f2,f3,f4,f5⟩:=l it (by simp)
  have A:(n:Int)-1-(i:Int)=((n-1-i:Nat):Int):=by lia
  have f:=st.2;rw[A]at f;refine wpAny_pyNext_rev_item f p.isList (x:=u) (by simpa using O) λh' g F=>?_;have J:Inv X pins σ H {s with heap:=h'}:=I.turned (t':=s.toks) (λb o j e=>(F.2 b j).trans e) y f1 f3 f4 f5
  have N:((n-1-i:Nat):Int)-1=(n:Int)-1-((i+1:Nat):Int):=by lia
  rw[N]at g;obtain⟨o,e,c,d⟩:=id g;exact⟨u,rfl,tL (s:={s with heap:=h'}) e c d (by decide) ⟨x,H,J,M,⟨rfl,λys Q=>by rw[I.jJ Q C];exact hx⟩,⟨hi,g⟩,λb j=>(l b j).1⟩⟩
 done:=by
  intro X m t r B i pins s σ H E I l st q;subst m t r;obtain⟨y,f1,f2,f3,f4,f5⟩:=l it (by simp);have R:n<=i:=q
  have A:(n:Int)-1-(i:Int)= -1:=by have :=st.1;lia
  have f:=st.2;rw[A]at f;exact wpAny_pyNext_rev_end (I.ok.hd B) f λh' G=>⟨rfl,I.turned (t':=s.toks) (λb o j e=>G b o j e) y f1 f3 f4 f5⟩
 self:=λ_ _ _ _ _ st h=>RF st.2 h
def LW(K:mo)(ta:TA):TI:=λσ H R=>ta σ H λvs H1=>∃a xs,vs=[.ref a]/\bf K H1 a xs/\R (uz K a xs.length) H1
theorem HD{l:Expr}{ta:TA}{p pos:Pos}(f:Gl X "reversed")(hm:X.mg "reversed"=none)(t:O5 "reversed"=some (.type "reversed"))(ha:PA X [l] ta)(r:Nx [l] X.env=[(false,OI l X.env)]:=by rfl):
  PI X tg (.Call (.Name "reversed" p) [l] [] pos) (LW X.K ta):=by
 intro pins s σ H R I h;refine SZ (dZ I f hm t (NP (bS (ha pos pins s σ H _ I h) λus s1 ⟨vs,H1,c,k,g⟩=>?_) r rfl));obtain⟨a,xs,d,v,q⟩:=g;subst d;obtain⟨u,d,i⟩:=vals1 k;subst d;obtain rfl:u=KB a:=i;obtain⟨its,m,pl,w⟩:=c.list v;have hl:=m.length;refine UB pl.isList ?_;have n:Inv X pins σ H1 {s1 with heap:=s1.heap.push (TH a ((its.toArray.size:Int)-1))}:=c.kept (t':=s1.toks) λb o e=>B4 _ e
 have st:Heap.IsRevIter (s1.heap.push (TH a ((its.toArray.size:Int)-1))) s1.heap.objs.size a ((xs.length:Int)-1-((0:Nat):Int)):=by
  refine⟨_,KM _ rfl,rfl,?_⟩;rw[B8,<-hl];simp[TH]
 refine RF st ⟨s1.heap.objs.size,[s1.heap.objs.size],_,_,H1,rfl,n,Dr a _ xs.length,⟨Nl _,st⟩,λb j=>?_,q⟩
 have e:b=s1.heap.objs.size:=by simpa using j
 subst e;exact c.mD (B2 _) (c.hok.fresh (B2 _))
theorem FU{a:B3}{xs:List V}{g:TG}{tb:TS}{D:Ends}(b:Nat->St->Hp->Prop)(h0:b 0 σ H)(hl:∀i σ H,i<=xs.length->b i σ H->bf K H a xs)(k:∀i x σ H,i<xs.length->xs[xs.length-1-i]? =some x->b i σ H->g x σ H λc H2=>tb {D with nx:=b (i+1),ct:=b (i+1),bk:=D.nx} c H2)(hd:∀σ H,b xs.length σ H->D.nx σ H):
  ∃W:Nat->Nat->St->Hp->Prop,(∃m,W 0 m σ H)/\∀i m σ H,W i m σ H->
   ((uz K a xs.length).stop i H/\D.nx σ H)∨((uz K a xs.length).go i H/\∃N:St->Hp->Prop,(∀σ' H',N σ' H'->∃f,f<m/\W (i+1) f σ' H')/\∀x H',(uz K a xs.length).yld i H x H'->g x σ H' λc H2=>tb {D with nx:=N,ct:=N,bk:=D.nx} c H2):=by
 refine⟨λi m σ H=>m=xs.length-i/\i<=xs.length/\b i σ H,⟨xs.length,by simp,Nl _,h0⟩,?_⟩;rintro i m σ H ⟨rfl,hi,p⟩;have q:=hl i σ H hi p;by_cases d:i<xs.length
 ·have j:xs.length-1-i<xs.length:=by lia
  refine .inr ⟨⟨xs,xs[xs.length-1-i],q,rfl,d,by simp[j]⟩,b (i+1),λσ' H' l=>⟨xs.length-(i+1),by lia,rfl,d,l⟩,λx H' y=>?_⟩;obtain⟨h,y⟩:=y;subst h;exact k i x σ _ d (y xs q) p
 ·have e:i=xs.length:=by lia
  subst e;exact .inl ⟨B2 _,hd σ H p⟩
inductive qyH(xs:List V)(H:Hp)(Q:VK):Prop|mk(a:B3)(kvs:List (Key×V))(_:xs=[.ref a])(_:Rd H a (.dK kvs))(_:Q (.int kvs.length) H)
theorem zd:dv X (.builtin "len") qyH:=by
 intro pins s σ H xs us Q I r h;obtain⟨a,kvs,e,d,q⟩:=h;subst e;obtain⟨u,c,g⟩:=vals1 r;subst c;obtain rfl:u=KB a:=g;obtain⟨z,ha,vs,b,dd⟩:=i_ I.hok d;have hl:=jo;have i:sizeLine=16777216:=O8;have f:=b.length;refine call_len_dict ha dd (by lia) ?_;rw[<-f];exact⟨.int _,H,I.tok _,⟨_,rfl⟩,q⟩
open PySem.W
noncomputable def hK(z:Str)(lo hi:Option Int):Str:=if(NQ lo hi 1 z.length).length==z.length then z else⟨((NQ lo hi 1 z.length).filterMap (z.cps[·]?)).toArray⟩
theorem qM(z:Str)(lo hi:Option Int):(hK z lo hi).length<=z.length:=by
 unfold hK
 split
 ·exact B2 _
 ·show((NQ lo hi 1 z.length).filterMap (z.cps[·]?)).toArray.size<=_;rw[B8];exact NW (Tg _ _) (sliceIndices_le _ _ _)
inductive LJ(x:V)(lo:Option Int)(hi:Option Int)(H:Hp)(Q:VK):Prop|mk(z:_)(_:x= .str z)(_:z.length<=sizeLine)(_:Q (.str (hK z lo hi)) H)
theorem yv:Kl X LJ:=by
 intro pins s σ H x v vl vu lo hi sl Q I j k pl b h;obtain⟨z,r,e,q⟩:=h;subst r;obtain⟨t,n⟩:=(show∃t,v=OG z t from j);subst n;refine⟨"str",_,F.slot_str_getitem.lookup,Qf s z t,?_⟩
 have a:∀{v:B5}{o:Option Int},Ru v o->∃l:Option (Int×Tok),v=partValue l/\l.map (·.1)=o:=λ{v o} p=>by
  cases p with
  |none=>exact⟨none,rfl,rfl⟩
  |int i t=>exact⟨some (i,t),rfl,rfl⟩
 obtain⟨l,d,m⟩:=a pl;obtain⟨u,f,g⟩:=a b;subst d f;refine wpAny_getItem_str_slice (l:=l) (u:=u) (st:=none) k rfl ?_;have le:=qM z lo hi
 have ep:slicePicked z l u none=NQ lo hi 1 z.length:=by unfold slicePicked;rw[m,g];rfl
 unfold sliceMade;rw[ep];unfold hK at q le;by_cases c:((NQ lo hi 1 z.length).length==z.length)=true
 ·rw[if_pos (by rw[c];rfl)];rw[if_pos c]at q;exact⟨.str z,H,I,⟨t,rfl⟩,q⟩
 ·rw[if_neg (by intro w;exact c (by simpa using w))];rw[if_neg c]at q le;exact⟨NW le e,.str _,H,I.tok _,⟨_,rfl⟩,q⟩
theorem qU(x:Array Nat):∀(n:Nat)(a:Array Nat),((On n x).foldl (·++·) a).size=a.size+n*x.size
 |0,a=>by simp
 |n+1,a=>by
  rw[Uv,RB,qU x n,Array.size_append,R_]
  lia
noncomputable def nk(z:Str)(n:Nat):Str:=⟨(On n z.cps).foldl (·++·) #[]⟩
theorem oD(z:Str)(n:Nat):(nk z n).length=n*z.length:=by
 show((On n z.cps).foldl (·++·) #[]).size=_;rw[qU];show 0+_=_;rw[TU];rfl
inductive Ld(x:V)(y:V)(H:Hp)(Q:VK):Prop|mk(z:Str)(n:Nat)(_:x= .str z)(_:y= .int n)(_:n<=1000)(_:1<=z.length)(_:z.length<=1000)(_:Q (.str (nk z n)) H)
theorem xC:ir X (PF .Mult) Ld:=by
 intro pins s σ H x y v u Q I g j h;obtain⟨z,n,l,i,h2,h0,m,k⟩:=h;subst l i;obtain⟨t,rfl⟩:=g;obtain⟨r,rfl⟩:=j;have hm:z.length*n<=1000*1000:=RJ m h2
 have a:((n:Int)).toNat=n:=by lia
 refine P.mul_str ?_ (λp _=>?_) (λ_ _=>?_) ?_
 ·have f:¬(n:Int)< -(2^63:Int):=by lia
  have o:¬(n:Int)≥2^63:=by lia
  rw[decide_eq_false f,decide_eq_false o];rfl
 ·have q:(9223372036854775:Int)<=(2^63-1)/(n:Int):=by
   rw[Int.le_ediv_iff_mul_le (by lia)]
   lia
  lia
 ·rw[a];show decide (z.length*n>sizeLine)=false;exact decide_eq_false (by rw[O8];lia)
 ·by_cases c0:(n:Int)<1
  ·rw[if_pos c0]
   have :n=0:=by lia
   subst this;exact⟨by decide,.str _,H,I.tok _,⟨_,rfl⟩,k⟩
  ·rw[if_neg c0];by_cases c:((n:Int)==1||z.length==0)=true
   ·rw[if_pos c];rw[RC]at c
    rcases c with c|c
    ·have :(n:Int)=1:=by simpa using c
     have :n=1:=by lia
     subst this;refine⟨.str z,H,I,⟨t,rfl⟩,?_⟩
     have e:nk z 1=z:=by
      show(⟨#[]++z.cps⟩:Str)=z;rw[Array.empty_append]
     rw[e]at k;exact k
    ·have :z.length=0:=by simpa using c
     lia
   ·rw[if_neg c,a];refine⟨?_,.str _,H,I.tok _,⟨_,rfl⟩,k⟩;show(List.foldl (λb d=>b++d) #[] (On n z.cps)).size<=_;rw[qU];show 0+n*z.cps.size<=sizeLine;have e:z.cps.size*n<=1000*1000:=hm;rw[O8,Nat.mul_comm]
    lia
end L2
namespace L2
open PySem PySem.Spec PyProof.Rows
theorem tuple_addW0(l b:B3)(a c:Array B5)(n j:Nat)(dd e:Option B3)(sl f:Array (Option B5))(k:a.isEmpty=true):
  Meets (Builtin.«tuple.__add__» ⟨[.ref l,.ref b],[]⟩) (λ_ R s=>s.heap.get? l=some {cls:= .type "tuple",dict:=dd,data:= .seq a n,slots:=sl}/\s.heap.get? b=some {cls:= .type "tuple",dict:=e,data:= .seq c j,slots:=f}/\R (.ok (.ret (KB b))) {s with heap:=s.heap,toks:=s.toks}):=
 .of_wp λprog w A R s h=>by obtain⟨m,g,d,tk,os⟩:=s;obtain⟨hl,i,h⟩:=h;have f1:=AutoSeq1.idx_int;have f2:=AutoSeq1.sub_tuple_tuple;have f3:=AutoSeq1.sub_list_list;have f4:=AutoSeq1.sub_tuple_list;have f5:=AutoSeq1.sub_list_tuple;wp_walk using P_ hl,P_ i;exact⟨_,rfl,h⟩
variable{X:Cx}
inductive HS(K:mo)(x:V)(y:V)(H:Hp)(Q:VK):Prop|mk(a b ys:_)(_:x= .ref a)(_:y= .ref b)(_:ba K H a [])(_:ba K H b ys)(_:Q (.ref b) H)
theorem AW:ir X (PF .Add) (HS X.K):=by
 intro pins s σ H x y v u Q I t z h;obtain⟨a,b,ys,rfl,rfl,ha,p,q⟩:=h
 cases t
 cases z
 obtain⟨its,r,A,_⟩:=I.tuple ha;obtain⟨l,B,p2,_⟩:=I.tuple p
 cases r
 obtain⟨⟨o,dd,data,sl⟩,k,m,n,hd⟩:=id A;obtain⟨⟨j,f,g,i⟩,e,d,w,c⟩:=id p2;simp only at m hd d c;subst m hd d c
 exact TK ⟨_,k,rfl⟩ ⟨_,e,rfl⟩ Sj Tb Rq Rg (Q9 _ _)
   (tuple_addW0 a b _ _ n w dd f sl i rfl) ⟨k,e,⟨.ref b,H,I,rfl,q⟩⟩
inductive GA(K:mo)(x:V)(y:V)(H:Hp)(Q:VK):Prop|mk(a b xs ys:_)(_:x= .ref a)(_:y= .ref b)(_:ba K H a xs)(_:ba K H b ys)(_:xs.length+ys.length<=sizeLine)(_:xs=[]->Q (.ref b) H)(_:xs≠[]->ys=[]->Q (.ref a) H)(_:∀p,H p=none->Q (.ref p) (upd H p (.tup (xs++ys))))
theorem xB:ir X (PF .Add) (GA X.K):=by
 intro pins s σ H x y v u Q I f c h;obtain⟨a,b,xs,ys,rfl,rfl,ha,d,g,i,j,k⟩:=h;by_cases e:xs=[]
 ·subst e;exact AW pins s σ H _ _ v u Q I f c ⟨a,b,ys,rfl,rfl,ha,d,i rfl⟩
 ·exact xT pins s σ H _ _ v u Q I f c ⟨a,b,xs,ys,rfl,rfl,ha,d,e,g,j e,λ_=>k⟩
open PySem.W
noncomputable def JG(kvs:List (Key×V)):It:=
 ⟨λi _=>i<kvs.length,λi H x H'=>∃p k v,x= .ref p/\H p=none/\kvs[i]? =some (k,v)/\H'=upd H p (.tup [kV k,v]),λi _=>kvs.length<=i⟩
variable{K:mo}{P:Og}{a:B3}{ep kk:Nat}{es:List Expr}{kvs:List (Key×V)}{w:Ox}
theorem uB{pt:Pos}{it:B3}{o:Obj}{vs:List (Key×B5)}(M:K.lookup a=some o)(n:KV kvs vs)(da:∀h:ON,h.get? a=some o->h.DictAt (bb P w) a vs ep):
  Turn P w K (.Tuple es kk pt) (JG kvs) [it] it (λi h=>∃ok d,IsItemIter h it a i vs.length ep ok d) where
 mem:=by simp
 obj:=λi h st c r=>by
  obtain⟨ok,d,st⟩:=st
  cases(List.mem_singleton.mp r)
  exact⟨_,st,λv q=>by cases q⟩
 keep:=λi h h' st kk=>by
  obtain⟨ok,d,st⟩:=st;exact⟨ok,d,kk it (by simp) _ st⟩
 item:=by
  intro X u B A r i pins s σ H E I t st y;subst u B A;obtain⟨ok,d,st⟩:=st;have hi:i<kvs.length:=y;obtain⟨⟨k,x⟩,hx⟩:∃p,kvs[i]? =some p:=⟨kvs[i],by simp[hi]⟩;obtain⟨v,Q,O⟩:=LY n hx;have C:=I.lJ a o M;refine wpAny_pyNext_items_item st (da _ C) Q λl h' f m j R kp=>⟨_,rfl,?_⟩;refine wpAny_letOwnedTupleGo_items m λg2 g J=>?_;have L:it<s.heap.objs.size:=FM st;have nT:H s.heap.objs.size=none:=I.fresh;have G:g2.get? s.heap.objs.size=some {cls:= .type "tuple",data:= .seq #[l,v]}:=(J.2 _ (PB L)).trans j
  have N:Inv X pins σ (upd H s.heap.objs.size (.tup [kV k,x])) {s with heap:=g2,toks:=s.toks}:=by
   refine I.lu (t':=s.toks) (ch:=[it]) (λc o e q=>?_) t (B2 _) ⟨?_,[l,v],.cons (Gy f) (.cons O .nil),⟨_,G,rfl,0,rfl⟩⟩
   ·have b:c≠it:=λz=>e (by simp[z]);exact(J.2 c b).trans (kp c o b q)
   ·show 2<=sizeLine;decide
  refine⟨.ref s.heap.objs.size,_,N,rfl,⟨_,k,x,rfl,nT,hx,rfl⟩,⟨_,_,g⟩,λc e=>?_⟩;have b:=(t c e).1
  cases(List.mem_singleton.mp e)
  rw[ak (Nn L)];exact b
 done:=by
  intro X u B A r i pins s σ H E I t st y;subst u B A;obtain⟨ok,d,st⟩:=st;have hi:kvs.length<=i:=y;have C:=I.lJ a o M;have S:=n.length;refine wpAny_pyNext_items_end (I.ok.hd r) st (da _ C) (List.getElem?_eq_none_iff.mpr (by lia)) λh' kp=>⟨rfl,I.xE (t':=s.toks) (ch:=[it]) (λc o e q=>?_) t⟩;exact kp c o (λz=>e (by simp[z])) q
 self:=λ_ _ _ _ _ st h=>by
  obtain⟨ok,d,st⟩:=st;have D:Shared.TypeIs _ (.ref it) "dict_itemiterator":=⟨_,st,rfl⟩;refine UP D RX (OE RX D nV ?_ (PySem.F.args_dict_itemiterator_iter_1 _));show GT _ _ (ret (.ref it)) _ _ _;exact Fk ⟨_,rfl,"dict_itemiterator",_,D,PySem.F.slot_dict_itemiterator_next.lookup,h⟩
structure uq(P:Og)(w:Ox)(K:mo)(a:B3)(kvs:List (Key×V)):Prop where
 is:∃(o:Obj)(vs:List (Key×B5))(ep:Nat),K.lookup a=some o/\KV kvs vs/\(∀h:ON,h.get? a=some o->h.DictAt (bb P w) a vs ep)
 ns:(a==O1)=false
def Ep(a:B3)(kvs:List (Key×V))(td:TE):TI:=λσ H R=>td σ H λx H1=>x= .ref a/\R (JG kvs) H1
section
variable{o:Expr}{pt:Pos}{apos cpos:Pos}{td:TE}
theorem zO(p:uq X.prog X.w X.K a kvs)(v:PE X o td)(k:P5 o "items" X.env (OI o X.env)=OI o X.env:=by rfl)(hl:(apos.endLine==cpos.line)=true:=by rfl):
  PI X (.Tuple es kk pt) (.Call (.Attribute o "items" apos) [] [] cpos) (Ep a kvs td):=by
 intro pins s σ H R I h;refine UT k rfl hl OZ Tp PySem.F.type_dict_items (bS (v pins s σ H _ I h) λu s1 l=>?_);obtain⟨x,H1,g,t,ex,r⟩:=l;subst ex;obtain rfl:u=KB a:=t;obtain⟨i,vs,ep,n,m,c⟩:=p.is;have f:=g.lJ a i n;have da:=c _ f
 have y:∀b,KB a= .ref b->∃i,s1.heap.get? b=some i/\i.dict=none:=λb q=>by
  cases q
  obtain⟨j,_,h1,h2,_⟩:=da;exact⟨j,h1,h2.2.1⟩
 refine⟨da.dictOf.typeIs,y,?_⟩;refine Qq rfl (PyProof.Rows.evalArgs_empty ?_);refine Ql Tp da.dictOf.typeIs PySem.F.entry_dict_items (PySem.F.args_dict_items_1 _) (meets_dict_items (bb X.prog X.w) a p.ns) ⟨⟨vs,da.dictOf⟩,?_⟩;refine wpAny_pyIter_items (knd:=bb X.prog X.w) (d:=a) (kvs:=vs) (ep:=ep) ⟨_,KM _ rfl,rfl,rfl⟩ (da.push _) ?_;have z:a<s1.heap.objs.size:=FM f;refine⟨_,[_],_,_,_,rfl,g.kept (t':=s1.toks) λb o e=>B4 _ (B4 _ e),uB (ep:=ep) n m c,⟨_,_,KM _ rfl⟩,λb k=>?_,r⟩
 cases(List.mem_singleton.mp k)
 exact g.mD (by rw[size_push'];exact Ln) (g.hok.fresh (by rw[size_push'];exact Ln))
end
theorem wu{g:TG}{tb:TS}{D:Ends}{σ:St}{H:Hp}(c:Nat->St->Hp->Prop)(h0:c 0 σ H)(n:∀(i:Nat)(k:Key)(v:V)(p:B3)(σ:St)(H:Hp),kvs[i]? =some (k,v)->H p=none->c i σ H->g (.ref p) σ (upd H p (.tup [kV k,v])) λa H2=>tb {D with nx:=c (i+1),ct:=c (i+1),bk:=D.nx} a H2)(hd:∀σ H,c kvs.length σ H->D.nx σ H):
  ∃W:Nat->Nat->St->Hp->Prop,(∃m,W 0 m σ H)/\∀i m σ H,W i m σ H->
   ((JG kvs).stop i H/\D.nx σ H)∨((JG kvs).go i H/\∃N:St->Hp->Prop,(∀σ' H',N σ' H'->∃f,f<m/\W (i+1) f σ' H')/\∀x H',(JG kvs).yld i H x H'->g x σ H' λa H2=>tb {D with nx:=N,ct:=N,bk:=D.nx} a H2):=by
 refine⟨λi m σ H=>m=kvs.length-i/\i<=kvs.length/\c i σ H,⟨kvs.length,by simp,Nl _,h0⟩,?_⟩;rintro i m σ H ⟨rfl,hi,p⟩;by_cases d:i<kvs.length
 ·refine .inr ⟨d,c (i+1),λσ' H' o=>⟨kvs.length-(i+1),by lia,rfl,d,o⟩,λx H' y=>?_⟩;obtain⟨b,k,v,l,hn,h,j⟩:=y;subst l j;exact n i k v b σ H h hn p
 ·have e:i=kvs.length:=by lia
  subst e;exact .inl ⟨B2 _,hd σ H p⟩
theorem BW{es:List Sl}{ps:List (Str×Str)}(l:K.lookup a=some {cls:= .type "dict",data:= .dict es.toArray ep})(he:Paired (λ(p:Str×Str) (e:Sl)=>e.hash=NU w.params p.1/\(∃t,e.key= .str p.1 t)/\∃t,e.val= .str p.2 t) ps es)(hn:(ps.map (·.1)).Nodup)(m:(a==O1)=false):
  uq P w K a (ps.map λp=>(NV p.1,V.str p.2)):=by
 have key:∀{ps:List (Str×Str)}{es:List Sl},Paired (λ(p:Str×Str) (e:Sl)=>e.hash=NU w.params p.1/\(∃t,e.key= .str p.1 t)/\∃t,e.val= .str p.2 t) ps es->
   ∃vs:List (Key×B5),KV (ps.map λp=>(NV p.1,V.str p.2)) vs/\vs.map (·.1)=ps.map (λp=>(NV p.1:Key))/\Pairs (bb P w) es vs/\∀e∈es,∃k,(bb P w).is k e.key=true/\e.hash=(bb P w).hash k:=λ{ps es} h=>by
  induction h with
  |nil=>exact⟨[],.nil,rfl,.nil,λe he=>nomatch he⟩
  | @cons p e ps es r t n=>
   obtain⟨vs,h1,h2,f,d⟩:=n;obtain⟨i,⟨tk,rk⟩,tv,j⟩:=r
   have hi:(bb P w).is (NV p.1) e.key=true:=by
    rw[rk];show RW p.1 (.str p.1 tk)=true;simp[RW]
   refine⟨(NV p.1,e.val)::vs,.cons ⟨rfl,⟨tv,j⟩⟩ h1,by rw[Nq,Nq,h2],.cons hi rfl f,λg c=>?_⟩
   rcases List.mem_cons.mp c with z|z
   ·rw[z];refine⟨NV p.1,hi,?_⟩;rw[i];rfl
   ·exact d g z
 obtain⟨vs,h1,h2,f,d⟩:=key he;refine⟨⟨_,vs,ep,l,h1,λh e=>⟨_,es.toArray,e,⟨rfl,rfl,rfl⟩,rfl,λg c=>d g (by simpa using c),by simpa using f,?_⟩⟩,m⟩;rw[h2,show ps.map (λp=>(NV p.1:Key))=(ps.map (·.1)).map NV by rw[NO];rfl];exact List.Pairwise.map _ (λa b h e=>h (QZ e)) hn
end L2
namespace L2
open PySem PySem.Spec PyProof.Rows S2
noncomputable def hU(kvs ps:List (Key×V)):List (Key×V):=ps.foldl (λa p=>putK a p.1 p.2) kvs
theorem xw(ps:List (Key×V)):∀kvs,(hU kvs ps).length<=kvs.length+ps.length:=by
 induction ps with
 |nil=>intro kvs;exact B2 _
 |cons p r a=>
  intro kvs;have h1:=a (putK kvs p.1 p.2);have h2:=dz kvs p.1 p.2;show(hU (putK kvs p.1 p.2) r).length<=_;rw[FB]
  lia
variable{X:Cx}
theorem zb{more:List (Key×V)}{us:List (Key×B5)}(r:KV more us):∀{kvs:List (Key×V)}{vs:List (Key×B5)},KV kvs vs->KV (hU kvs more) (merged vs us):=by
 induction r with
 |nil=>intro kvs vs h;exact h
 | @cons p q a b h t d=>
  intro kvs vs c;show KV (hU (putK kvs p.1 p.2) a) (merged (stored vs q.1 q.2) b);rw[<-h.1];exact d (c.put p.1 h.2)
inductive Ip(x:V)(vs:List V)(H:Hp)(Q:VK):Prop
 |mk (d o:B3) (kvs more:List (Key×V)) (c0:x= .ref d) (c1:vs=[.ref o]) (c2:d≠o) (c3:H d=some (.dK kvs)) (c4:Rd H o (.dK more)) (c5:kvs.length+more.length<=sizeLine) (c6:Q .non (upd H d (.dK (hU kvs more))))
def Kd:V->List V->Hp->VK->Prop:=λx vs H Q=>Ip x vs H Q
theorem oA:AF X "dict.update" Kd:=by
 intro pins s σ H x vs v us Q I l k h;obtain⟨d,o,kvs,more,rfl,rfl,i,hd,m,t,q⟩:=h
 cases l
 obtain⟨u,rfl,p⟩:=k.one;obtain rfl:u=KB o:=p;obtain⟨z,f,xs,c,dd⟩:=i_ I.hok (.inl hd);obtain⟨A,g,ys,a,e⟩:=i_ I.hok m;have C:=Q_ c;have B:=Q_ a;refine Ql Q8 dd.typeIs PySem.F.entry_dict_update (PySem.F.args_dict_update_2 _ _) (meets_dict_update (bb X.prog X.w) d o i g) ⟨xs,ys,dd,e,by lia,λh' b _ r=>?_⟩
 have hl:(hU kvs more).length<=sizeLine:=by have :=xw more kvs;lia
 obtain⟨j,es,ep,y,rest⟩:=id b;have n:Inv X pins σ (upd H d (.dK (hU kvs more))) {s with heap:=h'}:=iM I (by rw[hd];exact Ov) r ⟨j,y⟩ ⟨hl,f,_,zb a c,b⟩;exact⟨.non,_,n,rfl,q⟩
open PySem.Builtin PySem.Builtin.Str
theorem hE:∀l:List (NY×Tok),Vals ((l.map (·.1)).map V.str) (U8 l)
 |[]=> .nil
 |p::l=> .cons ⟨p.2,rfl⟩ (hE l)
inductive AX(x:V)(vs:List V)(H:Hp)(Q:VK):Prop|mk(z y:_)(_:x= .str z)(_:vs=[.str y])(_:(y.length==0)=false)(_:z.length+2<=sizeLine)(_:∀l,H l=none->Q (.ref l) (upd H l (.lst ((Oh z y).map V.str))))
theorem gh:AF X "str.split" AX:=by
 intro pins s σ H x vs v us Q I n m h;obtain⟨z,y,f,A,g,d,q⟩:=h;subst f A;obtain⟨t,B⟩:=(show∃t,v=OG z t from n);subst B;obtain⟨i,r,p⟩:=m.one;obtain⟨u,j⟩:=(show∃t,i=OG y t from p);subst r j
 have a:∀(l:List (NY×Tok))(k:Nat),l.map (·.1)=Oh z y->EP X pins σ Q (.ref s.heap.objs.size) {s with heap:=s.heap.push {cls:= .type "list",data:= .seq (U8 l).toArray},toks:=k}:=λl k e=>by
  have hl:((Oh z y).map V.str).length<=sizeLine:=by
   rw[be];exact NW (split_le z y) d
  refine⟨.ref s.heap.objs.size,_,I.laid (t':=k) (λb o e=>B4 _ e) (B2 _) (show cj X.prog X.w _ _ _ (.lst ((Oh z y).map V.str))from⟨hl,U8 l,0,?_,KM _ rfl⟩),rfl,q _ (I.hok.fresh (B2 _))⟩;rw[<-e];exact hE l
 have hn:(partsBetween z (occurrences z y 0 z.length (z.length+1)) y.length).length<=sizeLine:=by
  have f:=StrLaws.occ_length_le z y 0 z.length (z.length+1);rw[length_partsBetween];lia
 cases h1:(decide (z.length<y.length)||decide (strKind z<strKind y))
 ·cases c:(occurrences z y 0 z.length (z.length+1)).isEmpty
  ·refine Qg O7 (Qf _ _ _) Sh (R4 _ _) (meets_str_split_sep z y t u h1 g c (by lia) hn) ?_;show wants _ _ _ {s with toks:=_,heap:=s.heap.push {cls:= .type "list",data:= .seq (strsFrom s.toks (partsBetween z (occurrences z y 0 z.length (z.length+1)) y.length)).toArray}};rw[strsFrom_eq];exact a (numbered s.toks _) _ ((numbered_texts _ _).trans ((if_neg (ne_true_of_eq_false h1)).trans (if_neg (ne_true_of_eq_false c))).symm)
  ·exact Qg O7 (Qf _ _ _) Sh (R4 _ _) (meets_str_split_not_found z y t u h1 g c) (a [(z,t)] s.toks ((if_neg (ne_true_of_eq_false h1)).trans (if_pos c)).symm)
 ·exact Qg O7 (Qf _ _ _) Sh (R4 _ _) (meets_str_split_cannot_occur z y t u h1) (a [(z,t)] s.toks (if_pos h1).symm)
noncomputable def parted(z y:NY):List NY:=match occurrences z y 0 z.length 1 with
 |i::_=>[strSub z 0 i,y,strSub z (i+y.length) z.length]
 |[]=>[z,Re,Re]
inductive FH(x:V)(vs:List V)(H:Hp)(Q:VK):Prop|mk(z y:_)(_:x= .str z)(_:vs=[.str y])(_:(y.length==0)=false)(_:z.length<=sizeLine)(_:∀l,H l=none->Q (.ref l) (upd H l (.tup ((parted z y).map V.str))))
theorem kx:AF X "str.partition" FH:=by
 intro pins s σ H x vs v us Q I l j h;obtain⟨z,y,B,p,C,c,q⟩:=h;subst B p;obtain⟨t,A⟩:=(show∃t,v=OG z t from l);subst A;obtain⟨f,n,m⟩:=j.one;obtain⟨u,g⟩:=(show∃t,f=OG y t from m);subst n g
 have hl:((parted z y).map V.str).length<=sizeLine:=by
  have :(parted z y).length=3:=by unfold parted;split<;>rfl
  rw[be,this];decide
 have a:∀(its:List B5)(k:Nat),Vals ((parted z y).map V.str) its->EP X pins σ Q (.ref s.heap.objs.size) {s with toks:=k,heap:=s.heap.push {cls:= .type "tuple",data:= .seq its.toArray}}:=λits k r=>
  ⟨.ref s.heap.objs.size,_,I.laid (t':=k) (λb o e=>B4 _ e) (B2 _) (show cj X.prog X.w _ _ _ (.tup ((parted z y).map V.str))from⟨hl,its,r,Tu _ _⟩),rfl,q _ (I.hok.fresh (B2 _))⟩
 refine Qg F.slot_str_partition (Qf _ _ _) F.entry_str_partition (F.args_str_partition_2 _ _) (meets_str_partition z y t u C c) ?_;unfold parted at a
 cases d:occurrences z y 0 z.length 1 with
 |nil=>
  rw[d]at a;exact a _ _ (.cons ⟨_,rfl⟩ (.cons ⟨_,rfl⟩ (.cons ⟨_,rfl⟩ .nil)))
 |cons i r=>
  rw[d]at a;exact a _ _ (.cons ⟨_,rfl⟩ (.cons ⟨_,rfl⟩ (.cons ⟨_,rfl⟩ .nil)))
noncomputable def eZ(z y:NY):NY:=if Ti y.cps.contains true false z then z else stripped y.cps.contains true false z
inductive Fj(x:V)(vs:List V)(H:Hp)(Q:VK):Prop|mk(z y:_)(_:x= .str z)(_:vs=[.str y])(_:(eZ z y).length<=sizeLine)(_:Q (.str (eZ z y)) H)
theorem yZ:AF X "str.lstrip" Fj:=by
 intro pins s σ H x vs v us Q I k j h;obtain⟨z,y,i,e,a,q⟩:=h;subst i e;obtain⟨t,f⟩:=(show∃t,v=OG z t from k);subst f;obtain⟨d,c,l⟩:=j.one;obtain⟨u,g⟩:=(show∃t,d=OG y t from l);subst c g;refine Qg F.slot_str_lstrip (Qf _ _ _) F.entry_str_lstrip (F.args_str_lstrip_2 _ _) (gives_str_lstrip_chars z y t u).meets ?_;unfold eZ at q a
 cases b:Ti y.cps.contains true false z with
 |true=>
  rw[b]at q a;exact⟨.str z,H,I,⟨_,rfl⟩,q⟩
 |false=>
  rw[b]at q a;exact⟨a,.str (stripped y.cps.contains true false z),H,I.tok _,⟨_,rfl⟩,q⟩
inductive EO(x:V)(vs:List V)(H:Hp)(Q:VK):Prop|mk(z y:_)(_:x= .str z)(_:vs=[.str y])(_:Q (.bl (0+y.length<=z.length&&subAt z y 0)) H)
theorem ja:AF X "str.startswith" EO:=by
 intro pins s σ H x vs v us Q I i g h;obtain⟨z,y,f,c,q⟩:=h;subst f c;obtain⟨t,d⟩:=(show∃t,v=OG z t from i);subst d;obtain⟨b,a,j⟩:=g.one;obtain⟨u,e⟩:=(show∃t,b=OG y t from j);subst a e;exact Qg F.slot_str_startswith (Qf _ _ _) F.entry_str_startswith (F.args_str_startswith_2 _ _) (gives_str_startswith z y t u).meets ⟨.bl _,H,I,rfl,q⟩
inductive qyI(xs:List V)(H:Hp)(Q:VK):Prop|mk(z n:_)(_:xs=[.str z])(_:z.length<=640)(_:PySem.intText? z=some n)(_:Q (.int n) H)
theorem sj:dv X (.type "int") qyI:=by
 intro pins s σ H xs us Q I r h;obtain⟨z,n,rfl,hl,hn,q⟩:=h;obtain⟨u,rfl,t,rfl⟩:=vals1 r;exact call_int_1 (PySem.W.KIN.gives_text hl hn).meets (show(Made.int n).post _ s from⟨rfl,.int n,H,I.tok _,⟨_,rfl⟩,q⟩)
end L2
namespace DW
open PySem PySem.StrLaws PySem.Builtin PySem.Builtin.Str
variable{x y:NY}{Z:List Nat}{c:Nat}
theorem jf(h:x.cps.toList=y.cps.toList):x=y:=by
 cases x;cases y
 simp only[Str.mk.injEq];exact Array.toList_inj.mp h
theorem dE(x:NY):x.cps.toList.length=x.length:=by rw[Ni];rfl
noncomputable def dn(Y:List Nat):List (List Nat)->List Nat
 |[]=>[]
 |[p]=>p
 |p::q::r=>p++(Y++dn Y (q::r))
theorem join_list(y:NY):∀ps:List NY,(NT y ps).cps.toList=dn y.cps.toList (ps.map λp=>p.cps.toList)
 |[]=>rfl
 |[p]=>rfl
 |p::q::r=>by
  show((p.cps++y.cps)++(NT y (q::r)).cps).toList=_;rw[Nm,Nm,join_list y (q::r),IR];rfl
section
variable{t:List Nat}
theorem L7(a:y.cps.toList=c::t){k:Nat}(h:At x y x.length k):x.cps.toList[k]? =some c:=by
 have h2:=h.2;rw[subAt_eq,beq_iff_eq,a,<-dE y,a,FB]at h2
 cases e:x.cps.toList.drop k with
 |nil=>rw[e]at h2;cases h2
 |cons d r=>
  rw[e,List.take_succ_cons]at h2
  injection h2 with b _
  have :(x.cps.toList.drop k)[0]? =some d:=by rw[e];rfl
  rw[Qi,TX]at this;rw[this,b]
theorem at_of(a:y.cps.toList=c::t){k:Nat}(h:x.cps.toList.drop k=y.cps.toList++Z):At x y x.length k:=by
 have hl:=congrArg QG h;rw[Ot,B1,dE,dE]at hl
 have b:y.length=t.length+1:=by rw[<-dE,a];rfl
 refine⟨by lia,?_⟩;rw[subAt_eq,beq_iff_eq,h,<-dE y,SV]
theorem DG(d:y.cps.toList=c::t){a k:Nat}{p:List Nat}(hx:x.cps.toList.drop a=p++Z)(f:c∉p)(h1:a<=k)(h2:k<a+p.length):¬At x y x.length k:=λh=>by
 have e:=L7 d h
 have b:(x.cps.toList.drop a)[k-a]? =some c:=by rw[Qi,show a+(k-a)=k by lia];exact e
 rw[hx,KF (by lia)]at b;exact f (Do b)
theorem oe(g:y.cps.toList=c::t):∀(ps:List (List Nat))(a:Nat)(b:List Nat)(f:Nat),ps≠[]->(∀p∈ps,c∉p)->x.cps.toList.drop a=dn y.cps.toList ps->a<=x.length->ChainG x y x.length a b f->(∀k,f<=k->¬At x y x.length k)->(partsFrom x y.length a b).map (λp=>p.cps.toList)=ps
 |[],_,_,_,h,_,_,_,_,_=>absurd rfl h
 |[p],a,b,f,_,j,hx,ha,l,n=>by
  have hx:x.cps.toList.drop a=p:=hx
  have pl:p.length=x.length-a:=by rw[<-hx,Ot,dE]
  cases b with
  |nil=>
   show[(strSub x a x.length).cps.toList]=[p];rw[strSub_toList,hx,Oa (by lia)]
  |cons i r=>
   obtain⟨h1,h2,_⟩:=l;have :=h2.1
   have A:1<=y.length:=by rw[<-dE,g];exact QK _
   exact absurd h2 (DG (Z:=[]) g (by rw[Dk];exact hx) (j p B6) h1 (by lia))
 |p::q::r,a,b,f,_,j,hx,ha,l,n=>by
  have hx:x.cps.toList.drop a=p++(y.cps.toList++dn y.cps.toList (q::r)):=hx;have hl:=congrArg QG hx;rw[Ot,B1,B1,dE,dE]at hl
  have hd:x.cps.toList.drop (a+p.length)=y.cps.toList++dn y.cps.toList (q::r):=by
   rw[<-QT,hx,Qp]
  have d:=at_of g hd
  cases b with
  |nil=>
   have e:f=a:=l;exact absurd d (n _ (by lia))
  |cons i cs=>
   obtain⟨h1,h2,v,u⟩:=l
   have s:i=a+p.length:=by
    by_cases o:i<a+p.length
    ·exact absurd h2 (DG g hx (j p B6) h1 o)
    ·by_cases w:a+p.length<i
     ·exact absurd d (v _ Lw w)
     ·lia
   subst s;show(strSub x a (a+p.length)).cps.toList::(partsFrom x y.length (a+p.length+y.length) cs).map (λp=>p.cps.toList)=p::q::r;rw[strSub_toList,hx,show a+p.length-a=p.length by lia,SV]
   congr 1
   refine oe g (q::r) _ cs f (Ou _ _) (λz m=>j z (De _ m)) ?_ (by lia) u n;rw[<-QT,hd,<-dE y,Qp]
end
theorem jw:∀{ps a:List NY},ps.map (λp=>p.cps.toList)=a.map (λp=>p.cps.toList)->ps=a
 |[],[],_=>rfl
 |[],_::_,h=>nomatch h
 |_::_,[],h=>nomatch h
 |p::ps,q::a,h=>by
  injection h with h1 h2
  rw[jf h1,jw h2]
theorem dU{t:List Nat}(l:y.cps.toList=c::t)(q:strKind y=1){ps:List NY}(j:ps≠[])(m:∀p∈ps,c∉p.cps.toList):Oh (NT y ps) y=ps:=by
 have o:1<=y.length:=by rw[<-dE,l];exact QK _
 obtain⟨f,h1,h2⟩:=occ_tight (NT y ps) y o
 have a:=oe (x:=NT y ps) l (ps.map λp=>p.cps.toList) 0 _ f (λe=>j (List.map_eq_nil_iff.mp e)) (λp g=>by
  obtain⟨n,hm,rfl⟩:=List.mem_map.mp g
  exact m n hm) (by rw[Qo,join_list]) (Nl _) h1 h2
 have a:=jw a
 have h:¬strKind (NT y ps)<strKind y:=by
  have :=PyProof.Rows.strKind_pos (NT y ps)
  lia
 unfold Oh;by_cases k:(NT y ps).length<y.length
 ·rw[if_pos (by rw[decide_eq_true k];rfl)]
  have b:occurrences (NT y ps) y 0 (NT y ps).length ((NT y ps).length+1)=[]:=by
   cases e:occurrences (NT y ps) y 0 (NT y ps).length ((NT y ps).length+1)with
   |nil=>rfl
   |cons i r=>
    rw[e]at h1;have :=h1.2.1.1
    lia
  rw[b]at a;exact Eq.trans (by show[_]=[strSub _ 0 _];rw[sub_whole]) a
 ·rw[if_neg (by rw[decide_eq_false k,decide_eq_false h];decide)];by_cases d:(occurrences (NT y ps) y 0 (NT y ps).length ((NT y ps).length+1)).isEmpty=true
  ·rw[if_pos d];rw[List.isEmpty_iff.mp d]at a;exact Eq.trans (by show[_]=[strSub _ 0 _];rw[sub_whole]) a
  ·rw[if_neg d,partsBetween_eq];exact a
open L2
variable{p r:NY}
theorem pY{z:NY}{t:List Nat}(f:y.cps.toList=c::t)(hz:z=p++(y++r))(hn:∀k,k<p.length->¬At z y z.length k):parted z y=[p,y,r]:=by
 have hl:z.cps.toList=p.cps.toList++(y.cps.toList++r.cps.toList):=by
  rw[hz];show(p.cps++(y.cps++r.cps)).toList=_;rw[Nm,Nm]
 have hd:z.cps.toList.drop p.length=y.cps.toList++r.cps.toList:=by rw[hl,<-dE p,Qp]
 have a:=at_of f hd;unfold parted
 rcases occ_head z y 1 (B2 _)with⟨h0,h1⟩|⟨i,r',h0,h1,h2⟩
 ·exact absurd a (h1 _)
 ·rw[h0]
  have e:i=p.length:=by
   by_cases q:i<p.length
   ·exact absurd h1 (hn i q)
   ·by_cases g:p.length<i
    ·exact absurd a (h2 _ g)
    ·lia
  subst e;have d:strSub z 0 p.length=p:=jf (by rw[strSub_toList,Qo,Nat.sub_zero,hl,<-dE p,SV])
  have h:z.length=p.length+(y.length+r.length):=by
   have :=congrArg QG hl;rw[B1,B1,dE,dE,dE,dE]at this;exact this
  have b:strSub z (p.length+y.length) z.length=r:=jf (by
   rw[strSub_toList,<-QT,hd,<-dE y,Qp,Oa];rw[dE,dE]
   lia)
  show[strSub z 0 p.length,y,strSub z (p.length+y.length) z.length]=_;rw[d,b]
theorem zu{z:NY}(hn:∀k,¬At z y z.length k):parted z y=[z,Re,Re]:=by
 unfold parted
 rcases occ_head z y 1 (B2 _)with⟨h0,_⟩|⟨i,r',_,h1,_⟩
 ·rw[h0]
 ·exact absurd h1 (hn i)
theorem uD{t:List Nat}(b:y.cps.toList=c::t)(d:c∉p.cps.toList):parted (p++(y++r)) y=[p,y,r]:=by
 refine pY b rfl λk e=>?_;refine DG (a:=0) (p:=p.cps.toList) (Z:=y.cps.toList++r.cps.toList) b ?_ d (Nl _) (by rw[dE];lia);rw[Qo];show(p.cps++(y.cps++r.cps)).toList=_;rw[Nm,Nm]
theorem zY{z:NY}{k:Nat}(hz:z.cps.toList=On k 32++r.cps.toList)(g:r.cps.toList.head?≠some 32):eZ z " "=r:=by
 have f:(z.cps.toList.takeWhile (" ":NY).cps.contains).length=k:=by
  rw[hz]
  have h1:∀(k:Nat)(l:List Nat),l.head?≠some 32->((On k 32++l).takeWhile (" ":NY).cps.contains).length=k:=λk l hl=>by
   induction k with
   |zero=>
    cases l with
    |nil=>rfl
    |cons a l=>
     have ha:(" ":NY).cps.contains a=false:=by
      cases e:(" ":NY).cps.contains a with
      |false=>rfl
      |true=>
       have b:a∈(" ":NY).cps:=by simpa using e
       have c:(" ":NY).cps=#[32]:=rfl;rw[c]at b
       have d:a=32:=by simpa using b
       exact absurd (by rw[d];rfl) hl
     show((a::l).takeWhile _).length=0;rw[Uu,ha];rfl
   |succ k i=>
    show((32::(On k 32++l)).takeWhile _).length=k+1;rw[Uu,show(" ":NY).cps.contains 32=true by decide +kernel];show(_::_).length=_;rw[FB,i]
  exact h1 k _ g
 have j:z.length=k+r.length:=by
  rw[<-dE,hz,B1,PN,dE]
 have lo:stripLo (" ":NY).cps.contains true z=k:=f;have hi:stripHi (" ":NY).cps.contains false z (stripLo (" ":NY).cps.contains true z)=z.length:=rfl
 have e:stripped (" ":NY).cps.contains true false z=r:=jf (by
  show(strSub z _ _).cps.toList=_;rw[hi,lo,strSub_toList,hz,List.drop_left' (by rw[PN]),Oa];rw[dE]
  lia)
 unfold eZ;by_cases q:Ti (" ":NY).cps.contains true false z=true
 ·rw[if_pos q];unfold Ti at q;rw[lo,Oi]at q;have h:k=0:=eq_of_beq q.1;subst h;exact jf (by rw[hz];rfl)
 ·rw[if_neg q];exact e
end DW
namespace L2
open PySem PySem.Spec PyProof.Rows
section
variable{X:Cx}
theorem xo{a:B3}{kvs:List (Key×V)}(g:uq X.prog X.w X.K a kvs)(hz:kvs.length<=sizeLine):dv X (.type "dict") (λxs H Q=>xs=[.ref a]/\∀l,H l=none->Q (.ref l) (upd H l (.dK kvs))):=by
 intro pins s σ H xs us Q I r h;obtain⟨j,q⟩:=h;subst j;obtain⟨u,i,n⟩:=vals1 r;subst i;obtain rfl:u=KB a:=n;obtain⟨k,vs,ep,m,c,d⟩:=g.is;have da:=d _ (I.lJ a k m);refine kt_call_dict g.ns da.dictOf (by rw[<-c.length];exact hz) λh' e p=>?_;refine⟨.ref s.heap.objs.size,_,I.laid (a:=s.heap.objs.size) (o:= .dK kvs) (t':=s.toks) (λb q f=>?_) (B2 _) (nL hz (beq_eq_false_iff_ne.mpr (B9 (Nn I.big))) c e),rfl,q _ (I.hok.fresh (B2 _))⟩;exact(p.2 b (Nn (FM f))).trans (B4 _ f)
inductive JZ(x:V)(vs:List V)(H:Hp)(Q:VK):Prop|mk(a:B3)(kvs:List (Key×V))(k:Key)(z:V)(_:x= .ref a)(_:vs=[kV k,z])(_:H a=some (.dK kvs))(_:(∃v,cv kvs k=some v/\Q v (upd H a (.dK (kz kvs k))))∨(cv kvs k=none/\Q z H))
theorem Ey:AF X "dict.pop" JZ:=by
 intro pins s σ H x vs v us Q I g f h;obtain⟨a,kvs,k,z,l,j,ha,h⟩:=h;subst l j;obtain rfl:v=KB a:=g;obtain⟨u,r,i,d,e⟩:=f.two;subst i
 rcases h with⟨y,m,q⟩|⟨hn,q⟩
 ·exact Lr I ha d m (.inr ⟨r,rfl⟩) λn s' b c=>⟨y,_,b,c,q⟩
 ·exact I0 I ha d hn λs' b=>⟨z,H,b,e,q⟩
inductive Gm(x:V)(vs:List V)(H:Hp)(Q:VK):Prop|mk(a:B3)(kvs:List (Key×V))(k:Key)(z:V)(_:x= .ref a)(_:vs=[kV k,z])(_:H a=some (.dK kvs))(_:kvs.length<sizeLine)(_:(∃v,cv kvs k=some v/\Q v H)∨(cv kvs k=none/\Q z (upd H a (.dK (putK kvs k z)))))
theorem pw:AF X "dict.setdefault" Gm:=by
 intro pins s σ H x vs v us Q I p n h;obtain⟨a,kvs,k,z,E,C,ha,l,h⟩:=h;subst E C;obtain rfl:v=KB a:=p;obtain⟨u,r,B,t,i⟩:=n.two;subst B;obtain⟨D,hd,ws,c,dd⟩:=uQ I.hok ha
 have m:ws.length<=sizeLine:=by rw[<-c.length];exact D
 refine Ql Su dd.typeIs PySem.F.entry_dict_setdefault (PySem.F.args_dict_setdefault_3 _ _ _) (kt_meets_setdefault (bb X.prog X.w) a (ke t) hd r) ⟨ws,dd,m,λG j=>?_,λhn h' d A=>?_⟩
 ·rcases h with⟨y,g,q⟩|⟨hn,q⟩
  ·obtain⟨w2,b,f⟩:=fm.some_of (v:=y) (o:=Qw ws k) (by rw[<-g];exact c.val k);rw[j]at b
   cases b
   exact⟨y,H,I.tok _,f,q⟩
  ·have e:Qw ws k=none:=fm.none_of (by rw[<-hn];exact c.val k);rw[j]at e
   cases e
 ·rcases h with⟨y,g,q⟩|⟨_,q⟩
  ·obtain⟨w2,b,_⟩:=fm.some_of (v:=y) (o:=Qw ws k) (by rw[<-g];exact c.val k);rw[hn]at b
   cases b
  ·have he:∃q,h'.get? a=some q:=let⟨q,_,_,hq,_⟩:=d;⟨q,hq⟩
   have hl:(putK kvs k z).length<=sizeLine:=by have :=dz kvs k z;lia
   exact⟨z,_,iM I (by rw[ha];exact Ov) A he (nL hl hd (c.put k i) d),i,q⟩
end
end L2
namespace PySem
variable{A:PR}{E:B5->Gc->Prop}{I l:B3}{prog:Og}{s:Gc}{w:Ox}{xs:Array B5}
namespace DB5
theorem oW:Vd "list_reverseiterator" "__length_hint__" "list_reverseiterator.__length_hint__":=
 .of (owner:="list_reverseiterator") (n:="__length_hint__") (by rw[Pl,Oz];kernel_rfl) (by decide +kernel) (by decide +kernel) (by decide +kernel)
  (by first|exact .inl (by decide +kernel)|exact .inr (by decide +kernel)) (by rw[Pc];kernel_rfl)
theorem wV:R1 (.type "list_reverseiterator") "__len__"=pure none:=by rw[Pl,Oz];kernel_rfl
theorem A0{it:B3}{Q:Bool->Gc->Prop}(c:s.heap.IsRevIter it l ((xs.size:Int)-1))(hl:s.heap.IsList l xs)(hz:xs.size<=sizeLine)(h:∀b tk,s.toks<=tk->Q b {s with toks:=tk}):GT (Nk prog w) A (PV (.ref it)) Q E s:=by
 have f:=hz;rw[O8]at f;unfold PV;refine AC (Pk c.typeIs wV ?_);show GT _ _ (Tj (KB it) (NR "__length_hint__") >>= _) _ _ _;refine AC (Pk c.typeIs oW.lookup ?_);generalize d:("list_reverseiterator.__length_hint__":String)=e
 wp_delta
 rw[show splitId e=some ("list_reverseiterator","__length_hint__")from by subst d;decide +kernel];subst d;refine AC (Rb (T:="list_reverseiterator") (b:=true) c.typeIs (by rw[Pc];kernel_rfl) ?_);refine OO (λa=>absurd a (by decide)) (λ_=>?_);refine OO (λ_=>?_) (λa=>absurd (by decide +kernel) a);refine OO (λa=>absurd a (by decide +kernel)) (λ_=>?_);exact Fk (h _ _ (B2 _))
section
variable{R:SO->Gc->Prop}
theorem xv(G:A.in1.handled=none)(hz:xs.size<=sizeLine)(E:l≠I)(S:B3)(n:S≠I)(x:S≠l)(res:B5)(j:Nat)(c:s.heap.IsRevIter I l ((xs.size:Int)-1))(hl:s.heap.IsList l xs)(y:s.heap.get? S=some {cls:= .type "list",data:= .seq #[] j})(H:∀h' tk a p,s.toks<=tk->(∀b o,b≠S->b≠I->s.heap.get? b=some o->h'.get? b=some o)->h'.get? S=some {cls:= .type "list",dict:=none,data:= .seq a p,slots:=#[]}->U2 (λi v=>xs[xs.size-1-i]? =some v) a xs.size->R (.ok (.ret res)) {s with heap:=h',toks:=tk}):
  GT (Nk prog w) A.in1 (Oe (.ref S) (.ref I) res)
   (λB s'=>match B with| .done f=>R (.ok f) s'| .again p=>p.quiet=true/\Px (Nk prog w) A p R s') (λe s'=>R (.error e) s') s:=by
 have W:=Walks.listRev (prog:=prog) (w:=w) (A:=A.in1) G I l E xs
 have z:S∉[I,l]:=by simp only[NH,Nt,or_false,not_or];exact⟨n,x⟩
 have K:(xs.size:Int)-1-((0:Nat):Int)=(xs.size:Int)-1:=by lia
 have t:∀(h:ON)(d tk:Nat),s.toks<=tk->h.IsRevIter I l ((xs.size:Int)-1)->h.IsList l xs->(∀b o,b≠S->s.heap.get? b=some o->h.get? b=some o)->
   h.get? S=some {cls:= .type "list",data:= .seq #[] d}->Px (Nk prog w) A (.builtin "list.extend.loop" ⟨[.ref S,.ref I,res],[]⟩) R {s with heap:=h,toks:=tk}:=by
  intro h d tk htk h1 h2 M k;refine Ul W.toS hz S z res xs.size 0 _ #[] d rfl (Nl _) ⟨Nl _,by rw[K];exact h1,h2⟩ k (ItemsOf.nil _) λs' a p hm C r=>?_;have u:=hm.toks;rw[Moved.eq_with hm];refine H s'.heap s'.toks a p (NW htk u) (λb o q D e=>hm.heap b o (λhmem=>?_) (M b o q e)) C r
  rcases List.mem_cons.mp hmem with J|hmem
  ·exact q J
  ·exact D (List.mem_singleton.mp hmem)
 unfold Oe;refine AC (Rn c.typeIs ?_)
 have h1:P8 (.ref S) (.ref I)=false:=by simp[P8,n]
 have h2:(Pt "list_reverseiterator"==Pt "list")=false:=by decide
 have L:(Pt "list_reverseiterator"==Pt "tuple")=false:=by decide
 simp only[h1,h2,L,Ra,QV,if_false];refine AC (RF c ?_);refine AC (OV (A0 c hl hz λb tk htk=>?_));refine OO (λ_=>?_) (λ_=>Fk ⟨Pq QJ _,t _ j _ htk c hl (λb o _ e=>e) y⟩);refine AC (Qu ?_);refine AC ?_;show GT _ _ (QN S (·.push .none) >>=λ_=>QN S (·.pop)) _ _ _;refine AC (O0 (s:={s with toks:=tk}) y rfl ?_);have g:=Of (Ol (·.push OC)) y rfl;refine O0 (hz:=by seq_fits) (s:={s with heap:=s.heap.update S (Ol (·.push OC)),toks:=tk}) g rfl ?_;have m:=Of (Ol (·.pop)) g rfl
 have oth:∀b o,b≠S->s.heap.get? b=some o->((s.heap.update S (Ol (·.push OC))).update S (Ol (·.pop))).get? b=some o:=
  λb o q e=>(NM _ _ (B9 q)).trans ((NM _ _ (B9 q)).trans e)
 refine Fk ⟨Pq QJ _,t _ _ _ htk (c.at λo e=>oth _ _ (B9 n) e) (hl.at λo e=>oth _ _ (B9 x) e) oth m⟩
theorem Dv(u:A.in1.handled=none)(hz:xs.size<=sizeLine)(r:l≠I)(S:B3)(j:S≠I)(h:S≠l)(t:s.heap.IsRevIter I l ((xs.size:Int)-1))(hl:s.heap.IsList l xs)(q:s.heap.get? S=some {cls:= .type "list",data:= .seq #[]})(x:∀h' tk a d,s.toks<=tk->(∀b o,b≠S->b≠I->s.heap.get? b=some o->h'.get? b=some o)->h'.get? S=some {cls:= .type "list",dict:=none,data:= .seq a d,slots:=#[]}->U2 (λi v=>xs[xs.size-1-i]? =some v) a xs.size->R (.ok (.ret .none)) {s with heap:=h',toks:=tk}):
  GT (Nk prog w) A.in1 (Builtin.«list.__init__» ⟨[.ref S,.ref I],[]⟩)
   (λn s'=>match n with| .done f=>R (.ok f) s'| .again d=>d.quiet=true/\Px (Nk prog w) A d R s') (λe s'=>R (.error e) s') s:=by
 show GT _ A.in1 (do let old<-Qr (.ref S);Tw (.ref S) (λ_=>#[]);letGo old.toList.reverse;Oe (.ref S) (.ref I) .none) _ _ s;refine AC ?_;unfold Qr;refine AC (Pv q rfl (Fk ?_));show GT _ A.in1 (QN S (λ_=>#[]) >>=λ_=>letGo (#[]:Array B5).toList.reverse >>=λ_=>Oe (.ref S) (.ref I) .none) _ _ s;refine AC (O0 q rfl ?_);have c:=Of (Ol (λ_=>(#[]:Array B5))) q rfl
 have oth:∀b o,b≠S->s.heap.get? b=some o->(s.heap.update S (Ol (λ_=>(#[]:Array B5)))).get? b=some o:=
  λb o k e=>(NM _ _ (B9 k)).trans e
 refine AC (Qz ?_);refine xv (s:={s with heap:=s.heap.update S (Ol (λ_=>(#[]:Array B5)))}) u hz r S j h .none _ (t.at λo e=>oth _ _ (B9 j) e) (hl.at λo e=>oth _ _ (B9 h) e) c λh' tk a d htk y p g=>?_;exact x h' tk a d htk (λb o k m e=>y b o k m (oth b o k e)) p g
end
theorem ph{Q:B5->Gc->Prop}(r:A.handled=none)(hz:xs.size<=sizeLine)(m:l≠I)(i:s.heap.IsRevIter I l ((xs.size:Int)-1))(hl:s.heap.IsList l xs)(y:∀h' tk n,s.toks<=tk->(∀b o,b≠I->s.heap.get? b=some o->h'.get? b=some o)->h'.get? s.heap.objs.size=some {cls:= .type "list",dict:=none,data:= .seq xs.toList.reverse.toArray n,slots:=#[]}->Q (.ref s.heap.objs.size) {s with heap:=h',toks:=tk}):
  GT (Nk prog w) A (call (.type "list") [.ref I]) Q E s:=by
 refine callType_codes (Q₁:=λobj d=>obj= .ref s.heap.objs.size/\d={s with heap:=s.heap.push {cls:= .type "list",data:= .seq #[]}}) F.called_list (U3 _) U4
  (code_list_new _ ⟨rfl,rfl⟩) λobj d g=>?_
 obtain⟨rfl,rfl⟩:=g;have p:(s.heap.push {cls:= .type "list",data:= .seq #[]}).get? s.heap.objs.size=some {cls:= .type "list",data:= .seq #[]}:=KM _ rfl
 have n1:s.heap.objs.size≠I:=by obtain⟨o,k,_⟩:=i;exact PB (FM k)
 have v:s.heap.objs.size≠l:=by obtain⟨o,k,_⟩:=hl;exact PB (FM k)
 refine⟨⟨_,p,rfl⟩,UN _ _,Dv (A:=A.in1) (s:={s with heap:=s.heap.push {cls:= .type "list",data:= .seq #[]}}) r hz m _ n1 v (i.at λo e=>B4 _ e) (hl.at λo e=>B4 _ e) p λh' tk a n htk x h c=>?_⟩
 have t:a=xs.toList.reverse.toArray:=by
  apply Array.ext';apply Q1;intro j;by_cases q:j<xs.size
  ·have f:j<a.size:=by rw[c.1];exact q
   have h1:=c.2 j a[j] (Pj f);rw[Pi,Pj f];simp only[Ut];rw[Pg (by simpa using q),<-h1];simp
  ·rw[Ph (by rw[Ni,c.1];lia),Ph (by simp;lia)]
 rw[t]at h;exact⟨rfl,y h' tk n htk (λb o u e=>x b o (λz=>by subst z;exact absurd (FM e) (OJ _)) u (B4 _ e)) h⟩
end DB5
end PySem
namespace L2
open PySem PySem.Spec PyProof.Rows
variable{X:Cx}
def LV(K:mo)(ta:TA):TE:=λσ H Q=>ta σ H λvs H1=>∃p ys,vs=[.ref p]/\bf K H1 p ys/\∀l,H1 l=none->Q (.ref l) (upd H1 l (.lst ys.reverse))
theorem tM{e:Expr}{ta:TA}{p p2 pos c:Pos}(G:X.calm=true)(w:Gl X "list")(hm:X.mg "list"=none)(F:O5 "list"=some (.type "list"))(n:Gl X "reversed")(k:X.mg "reversed"=none)(i:O5 "reversed"=some (.type "reversed"))(ha:PA X [e] ta)(E:Nx [e] X.env=[(false,OI e X.env)]:=by rfl)(f:Nx [.Call (.Name "reversed" p2) [e] [] c] X.env=[(false,OI (.Call (.Name "reversed" p2) [e] [] c) X.env)]:=by rfl):
  PE X (.Call (.Name "list" p) [.Call (.Name "reversed" p2) [e] [] c] [] pos) (LV X.K ta):=by
 intro pins s σ H Q I h;refine SZ (dZ I w hm F (NP ?_ f rfl));rw[f];show GT _ _ (TB ((false,OI (.Call (.Name "reversed" p2) [e] [] c) X.env)::[])) _ _ s;refine Qk ?_;refine SZ (dZ I n k i (NP (bS (ha c pins s σ H _ I h) λus s1 ⟨vs,H1,g,B,y⟩=>?_) E rfl));obtain⟨a,ys,l,J,q⟩:=y;subst l;obtain⟨u,l,z⟩:=vals1 B;subst l;obtain rfl:u=KB a:=z;obtain⟨its,t,pl,x⟩:=g.list J;have hl:=t.length
 have m:its.toArray.size<=sizeLine:=by rw[B8];lia
 refine UB pl.isList ?_;refine Q3 ?_
 have D:a<s1.heap.objs.size:=by obtain⟨o,C,_⟩:=pl.isList;exact FM C
 refine PySem.DB5.ph (s:={s1 with heap:=s1.heap.push (TH a ((its.toArray.size:Int)-1))}) (xs:=its.toArray) (g.ok.hd G) m (Nn D) ⟨_,KM _ rfl,rfl,rfl⟩ (pl.isList.at λo e=>B4 _ e) λh' tk v htk L A=>?_;have d:(s1.heap.push (TH a ((its.toArray.size:Int)-1))).objs.size=s1.heap.objs.size+1:=QU ..
 have j:h'.get? (s1.heap.objs.size+1)=some {cls:= .type "list",dict:=none,data:= .seq its.reverse.toArray v,slots:=#[]}:=by
  have :=A;dsimp only at this;rw[d]at this;exact this
 show EP X pins σ Q (.ref (s1.heap.push (TH a ((its.toArray.size:Int)-1))).objs.size) _;rw[d];refine⟨.ref (s1.heap.objs.size+1),_,g.laid (a:=s1.heap.objs.size+1) (o:= .lst ys.reverse) (t':=tk) (λb o r=>L b o (Nn (FM r)) (B4 _ r)) (QD _) ⟨by rw[NZ];exact x,_,v,t.reverse,j⟩,rfl,q _ (g.hok.fresh (QD _))⟩
inductive mi(K:mo)(H:Hp):Nat->V->V->Bool->Prop
 |flat {n:Nat} {x y:V} (fx:eB x=true) (fy:eB y=true):mi K H n x y (vB x y)
 |same {n:Nat} {a:B3}:mi K H n (.ref a) (.ref a) true
 |tup {n:Nat} {a b:B3} {xs ys:List V} (ne:a≠b) (hA:ba K H a xs) (hB:ba K H b ys) (e:Nat->Bool)
   (he:∀(j:Nat)(x y:V),xs[j]? =some x->ys[j]? =some y->mi K H n x y (e j)):mi K H (n+1) (.ref a) (.ref b) ((Nz (min xs.length ys.length)).all e&&xs.length==ys.length)
 |mixL {n:Nat} {x:V} {b:B3} {ys:List V} (fx:eB x=true) (hB:ba K H b ys):mi K H (n+1) x (.ref b) false
 |mixR {n:Nat} {y:V} {a:B3} {xs:List V} (hA:ba K H a xs) (fy:eB y=true):mi K H (n+1) (.ref a) y false
theorem Bx{pins:List (B3×Obj)}{σ:St}{H:Hp}{s:Gc}(I:Inv X pins σ H s){n:Nat}{x y:V}{b:Bool}(h:mi X.K H n x y b):
  ∀{A:PR}{u v:B5},A.units+n<OX->RelV x u->RelV y v->SN A s u v b:=by
 induction h with
 |flat fx fy=>intro A u v _ f g;exact vH f g fx fy
 | @same n a=>
  intro A u v _ f g;obtain rfl:u=KB a:=f;obtain rfl:v=KB a:=g;exact SeqAt.EqAt.same _
 | @tup n a b xs ys ne hA hB e he B=>
  intro A u v p f g;obtain rfl:u=KB a:=f;obtain rfl:v=KB b:=g;obtain⟨its,r,pl,E⟩:=I.tuple hA;obtain⟨k,m,c,l⟩:=I.tuple hB;have w:=r.length;have D:=m.length
  have o:=SeqAt.RcAt.tuples (A:=A) (s:=s) (e:=e) pl c (by lia) (λj h1 h2=>by
   obtain⟨x,ex,f⟩:=iR r j h1;obtain⟨y,C,g⟩:=iR m j h2
   exact B j x y ex C (show A.units+1+n<OX by lia) f g)
  rw[B8,B8,<-w,<-D]at o;exact SeqAt.EqAt.of_refs ne o
 | @mixL n x b ys fx hB=>
  intro A u v p f g;obtain rfl:v=KB b:=g;obtain⟨k,m,c,l⟩:=I.tuple hB
  have d:A.units<OX:=by lia
  cases x with
  |non=>cases f;exact SeqAt.EqAt.none_tuple c d
  |bl q=>cases f;exact SeqAt.EqAt.bool_tuple q c d
  |int i=>obtain⟨t,rfl⟩:=f;exact SeqAt.EqAt.int_tuple i t c d
  |str z=>obtain⟨t,rfl⟩:=f;exact SeqAt.EqAt.str_tuple z t c d
  |_=>exact absurd (show false=true from fx) FS
 | @mixR n y a xs hA fy=>
  intro A u v p f g;obtain rfl:u=KB a:=f;obtain⟨k,m,c,l⟩:=I.tuple hA
  have d:A.units<OX:=by lia
  cases y with
  |non=>cases g;exact SeqAt.EqAt.tuple_none c d
  |bl q=>cases g;exact SeqAt.EqAt.tuple_bool q c d
  |int i=>obtain⟨t,rfl⟩:=g;exact SeqAt.EqAt.tuple_int i t c d
  |str z=>obtain⟨t,rfl⟩:=g;exact SeqAt.EqAt.tuple_str z t c d
  |_=>exact absurd (show false=true from fy) FS
inductive Dz(K:mo)(c:Bool)(x:V)(y:V)(H:Hp)(Q:VK):Prop|mk(a b:B3)(xs ys:List V)(e:Nat->Bool)(_:x= .ref a)(_:y= .ref b)(_:ba K H a xs)(_:ba K H b ys)(_:∀(j:Nat)(x y:V),xs[j]? =some x->ys[j]? =some y->mi K H 40 x y (e j))(_:Q (.bl (if c then !((Nz (min xs.length ys.length)).all e&&xs.length==ys.length)else((Nz (min xs.length ys.length)).all e&&xs.length==ys.length))) H)
theorem Hw(w:X.A.units+50<OX):ir X (Os .Eq) (Dz X.K false):=by
 intro pins s σ H x y v u Q I c f h;obtain⟨a,b,xs,ys,e,p,m,hA,hB,he,q⟩:=h;subst p m;obtain rfl:v=KB a:=c;obtain rfl:u=KB b:=f;obtain⟨its,r,pl,t⟩:=I.tuple hA;obtain⟨g,i,d,k⟩:=I.tuple hB;have l:=r.length;have o:=i.length;refine SeqAt.eq_tupleAt (e:=e) pl d (by lia) (λj h1 h2=>?_) ⟨.bl _,H,I,rfl,?_⟩
 ·obtain⟨x,ex,c⟩:=iR r j h1;obtain⟨y,n,f⟩:=iR i j h2;exact Bx I (he j x y ex n) (show X.A.units+1+40<OX by lia) c f
 ·rw[B8,B8,<-l,<-o];exact q
theorem Bb(w:X.A.units+50<OX):ir X (Os .NotEq) (Dz X.K true):=by
 intro pins s σ H x y v u Q I c f h;obtain⟨a,b,xs,ys,e,p,m,hA,hB,he,q⟩:=h;subst p m;obtain rfl:v=KB a:=c;obtain rfl:u=KB b:=f;obtain⟨its,r,pl,t⟩:=I.tuple hA;obtain⟨g,i,d,k⟩:=I.tuple hB;have l:=r.length;have o:=i.length;refine SeqAt.RcNeAt.tuples (e:=e) pl d (by lia) (λj h1 h2=>?_) _ _ _ _ ⟨.bl _,H,I,rfl,?_⟩
 ·obtain⟨x,ex,c⟩:=iR r j h1;obtain⟨y,n,f⟩:=iR i j h2;exact Bx I (he j x y ex n) (show X.A.units+1+40<OX by lia) c f
 ·rw[B8,B8,<-l,<-o];exact q
end L2
namespace HT
open PySem PySem.Spec PyProof.Rows L2
variable{prog:Og}{w:Ox}{A:PR}{E:B5->Gc->Prop}{s:Gc}
theorem iU{t sl:B3}{a:Array B5}{vl vu:B5}{lo hi:Option Int}{Q:B5->Gc->Prop}(b:IsTup s.heap t a)(g:s.heap.IsSliceOf sl vl vu .none)(pl:Ru vl lo)(i:Ru vu hi)(f:cZ a.size 0 lo=0/\cZ a.size a.size hi=a.size)(h:Q (.ref t) s):GT (Nk prog w) A (QY (.ref t) (.ref sl)) Q E s:=by
 obtain⟨os,e,d,j⟩:=id g;have c:s.TypeIs (.ref sl) "slice":=⟨os,e,d⟩;unfold QY
 try with_reducible refine OV ?_
 first|refine AC (Fk ?_)|skip
 refine AC (UO b.typeIs (by decide) ?_)
 refine AC (OF (name:=NR "__getitem__") b.typeIs Pu
  (OE Pu b.typeIs Us ?_ (UD _ _)))
 show GT _ _ (S0 (.ref t) >>= _) _ _ s;refine AC (tupleItemsOf_ b ?_);refine AC (Rn c ?_);rw[if_pos (by decide)];refine AC (gq g pl i ?_);show GT _ _ (if(((cZ a.size 0 lo:Nat):Int)==0&&(1:Int)==1&&(cZ a.size a.size hi-cZ a.size 0 lo)==a.size)=true then _ else _) _ _ s;rw[if_pos (by rw[f.1,f.2];simp)];refine AC ?_;unfold Builtin.Tuple.tupleIsExact;refine AC (Rn b.typeIs (Fk ?_));rw[if_pos (by decide)];refine AC (Qu ?_);exact Fk ⟨_,rfl,Fk h⟩
end HT
namespace L2
open PySem PySem.Spec PyProof.Rows
section
variable{X:Cx}
inductive JE(K:mo)(x:V)(lo:Option Int)(hi:Option Int)(H:Hp)(Q:VK):Prop|mk(a xs:_)(_:x= .ref a)(_:ba K H a xs)(_:(HT.cZ xs.length 0 lo=0/\HT.cZ xs.length xs.length hi=xs.length)->Q (.ref a) H)(_:∀p,H p=none->Q (.ref p) (upd H p (.tup (hY xs lo hi))))
theorem ra:Kl X (JE X.K):=by
 intro pins s σ H x v vl vu lo hi sl Q I e g pl d h;obtain⟨a,xs,rfl,hx,i,q⟩:=h;by_cases c:HT.cZ xs.length 0 lo=0/\HT.cZ xs.length xs.length hi=xs.length
 ·cases e
  obtain⟨its,r,f,j⟩:=I.tuple hx
  have b:its.toArray.size=xs.length:=by rw[B8];exact r.length.symm
  refine⟨"tuple",_,PyProof.Rows.slot_tuple_getitem.lookup,f.typeIs,?_⟩;exact HT.iU f g pl d (by rw[b];exact c) ⟨.ref a,H,I,rfl,i c⟩
 ·exact Hk pins s σ H _ v vl vu lo hi sl Q I e g pl d ⟨a,xs,rfl,hx,c,q⟩
end
end L2
namespace B11E
open PySem L2 S2
noncomputable def top(i:Nat):NG:=PySem.Challenge.pw_boxgalley_k11_whole_one_text_each.main.body.getD i (.Pass ⟨0,0,0,0⟩)
noncomputable abbrev uZ:NG:=top 46
noncomputable abbrev Bl:NG:=top 49
noncomputable abbrev qR:NG:=top 51
noncomputable abbrev mS:NG:=top 88
noncomputable abbrev me:NG:=top 89
structure aO(mg:Str->Option B5):Prop where
 list:mg "list"=none
 rev:mg "reversed"=none
inductive Fo where
 |nil
 |cons (a:B3) (nm:Str) (q:B3) (cs as:Fo)
variable{H H':Hp}{ps:List (Str×Str)}{x:Str}{d1 fd:O4}{f f1:B3}
namespace Fo
noncomputable def aD:Fo->List B3
 |nil=>[]
 |cons a _ _ _ as=>a::as.aD
noncomputable def p_:Fo->List Str
 |nil=>[]
 |cons _ n _ _ as=>n::as.p_
abbrev Sub:=B3×Str×B3×Fo
noncomputable def subs:Fo->List Sub
 |nil=>[]
 |cons a n q cs as=>(a,n,q,cs)::(cs.subs++as.subs)
noncomputable def lN(F:Fo):List B3:=F.subs.map (·.1)
noncomputable def aX(F:Fo):List Str:=F.subs.map (·.2.1)
noncomputable def cnt(F:Fo):Nat:=F.subs.length
noncomputable def app:Fo->Fo->Fo
 |nil,G=>G
 |cons a n q cs as,G=>cons a n q cs (as.app G)
noncomputable def yg:Fo->Str->List (Str×Str)
 |nil,_=>[]
 |cons _ n _ cs as,e=>(n,e)::(cs.yg n++as.yg e)
noncomputable def one(x:Sub):List (Str×Str):=x.2.2.2.p_.map λm=>(m,x.2.1)
noncomputable def sY(F:Fo):List (Str×Str):=F.subs.flatMap one
def Ok(H:Hp):Fo->Prop
 |nil=>True
 |cons a n q cs as=>(∃k o w:V,H a=some (.tup [k,.str n,o,w,.ref q]))/\H q=some (.tup (cs.aD.map V.ref))/\cs.Ok H/\as.Ok H
theorem bx(G:Fo):∀F:Fo,(F.app G).aD=F.aD++G.aD
 |nil=>rfl
 |cons a n q cs as=>by show a::(as.app G).aD=_;rw[bx G as];rfl
theorem oJ(G:Fo):∀F:Fo,(F.app G).subs=F.subs++G.subs
 |nil=>rfl
 |cons a n q cs as=>by
  show(a,n,q,cs)::(cs.subs++(as.app G).subs)=_;rw[oJ G as,<-IR];rfl
theorem Gb(F G:Fo):(F.app G).lN=F.lN++G.lN:=by unfold lN;rw[oJ,Da]
theorem ee(F G:Fo):(F.app G).cnt=F.cnt+G.cnt:=by unfold cnt;rw[oJ,B1]
theorem mR(a:B3)(n:Str)(q:B3)(cs as:Fo):(cons a n q cs as).aX=n::(cs.aX++as.aX):=by
 unfold aX;show n::(cs.subs++as.subs).map (·.2.1)=_;rw[Da]
theorem uL(a:B3)(n:Str)(q:B3)(cs as:Fo):(cons a n q cs as).lN=a::(cs.lN++as.lN):=by
 unfold lN;show a::(cs.subs++as.subs).map (·.1)=_;rw[Da]
theorem cnt_cons(a:B3)(n:Str)(q:B3)(cs as:Fo):(cons a n q cs as).cnt=cs.cnt+as.cnt+1:=by
 unfold cnt;show((cs.subs++as.subs).length+1)=_;rw[B1]
theorem D6:nil.lN=[]:=rfl
theorem km(F:Fo):F.lN.length=F.cnt:=be ..
theorem jH(F:Fo):F.aX.length=F.cnt:=be ..
theorem fS{G:Fo}:∀{F:Fo},(F.app G).Ok H↔F.Ok H/\G.Ok H
 |nil=>⟨λh=>⟨trivial,h⟩,λh=>h.2⟩
 |cons a n q cs as=>by
  show(_/\_/\_/\(as.app G).Ok H)↔(_/\_/\_/\as.Ok H)/\_;rw[fS (F:=as)];constructor
  ·rintro⟨a,b,c,d,e⟩;exact⟨⟨a,b,c,d⟩,e⟩
  ·rintro⟨⟨a,b,c,d⟩,e⟩;exact⟨a,b,c,d,e⟩
def KT(H H':Hp):Prop:=∀b xs,H b=some (.tup xs)->H' b=some (.tup xs)
theorem KT.trans{H1 H2 H3:Hp}(a:KT H1 H2)(b:KT H2 H3):KT H1 H3:=λx xs e=>b x xs (a x xs e)
theorem KT.same{H H':Hp}(s:af H H'):KT H H':=λb _ e=>s b _ e
theorem KT.lst{H:Hp}{l:B3}{xs ys:List V}(e:H l=some (.lst xs)):KT H (upd H l (.lst ys)):=λb zs h=>by
 rw[ak (jV h e (by intro z;cases z))];exact h
theorem KT.dK{H:Hp}{l:B3}{xs ys:List (Key×V)}(e:H l=some (.dK xs)):KT H (upd H l (.dK ys)):=λb zs h=>by
 rw[ak (jV h e (by intro z;cases z))];exact h
theorem Ok.keep(k:KT H H'):∀{F:Fo},F.Ok H->F.Ok H'
 |nil,_=>trivial
 |cons a n q cs as,⟨⟨x,o,w,e⟩,b,c,d⟩=>⟨⟨x,o,w,k _ _ e⟩,k _ _ b,Ok.keep k c,Ok.keep k d⟩
theorem Ok.sub:∀{F:Fo},F.Ok H->∀x∈F.subs,(∃k o w:V,H x.1=some (.tup [k,.str x.2.1,o,w,.ref x.2.2.1]))/\H x.2.2.1=some (.tup (x.2.2.2.aD.map V.ref))/\x.2.2.2.Ok H
 |nil,_,x,hx=>nomatch hx
 |cons a n q cs as,⟨e,b,c,d⟩,x,hx=>by
  rcases List.mem_cons.mp hx with r|r
  ·rw[r];exact⟨e,b,c⟩
  ·rcases List.mem_append.mp r with r|r
   ·exact Ok.sub c x r
   ·exact Ok.sub d x r
theorem Ok.top:∀{F:Fo}{j:Nat}{a:B3},F.Ok H->F.aD[j]? =some a->∃(n:Str)(k o w:V)(q:B3),F.p_[j]? =some n/\H a=some (.tup [k,.str n,o,w,.ref q])
 |nil,j,a,_,e=>nomatch e
 |cons b n q cs as,0,a,⟨⟨k,o,w,h⟩,_⟩,e=>by cases e;exact⟨n,k,o,w,q,rfl,h⟩
 |cons b n q cs as,j+1,a,⟨_,_,_,d⟩,e=>Ok.top (F:=as) (j:=j) d e
theorem yp:∀F:Fo,F.p_.length=F.aD.length
 |nil=>rfl
 |cons a n q cs as=>by show as.p_.length+1=as.aD.length+1;rw[yp as]
theorem iB:∀F:Fo,F.aD.length<=F.cnt
 |nil=>B2 _
 |cons a n q cs as=>by rw[cnt_cons];show as.aD.length+1<=_;have :=iB as;lia
theorem ic:∀(F:Fo)(e:Str),(F.yg e).map (·.1)=F.aX
 |nil,_=>rfl
 |cons a n q cs as,e=>by
  rw[mR];show n::(cs.yg n++as.yg e).map (·.1)=_;rw[Da,ic cs n,ic as e]
theorem Fl(F:Fo)(e:Str):(F.yg e).length=F.cnt:=by
 have :=congrArg QG (ic F e);rw[be,jH]at this;exact this
theorem tT(a:B3)(n:Str)(q:B3)(cs as:Fo):(cons a n q cs as).sY=(cs.p_.map λm=>(m,n))++(cs.sY++as.sY):=by
 unfold sY;show(one (a,n,q,cs))++(cs.subs++as.subs).flatMap one=_;rw[OM];rfl
theorem gY:∀(F:Fo)(e:Str),(F.yg e).Perm ((F.p_.map λm=>(m,e))++F.sY)
 |nil,_=> .nil
 |cons a n q cs as,e=>by
  rw[tT];show((n,e)::(cs.yg n++as.yg e)).Perm ((n,e)::((as.p_.map λm=>(m,e))++_));refine .cons _ ?_;refine(List.Perm.append (gY cs n) (gY as e)).trans ?_;generalize(cs.p_.map λm=>(m,n))=A;generalize(as.p_.map λm=>(m,e))=B;rw[<-IR,<-IR,<-IR];refine List.Perm.append_right _ ?_;exact List.perm_append_comm.trans (by rw[IR])
theorem ug{F:Fo}(nd:F.aX.Nodup):(F.sY.map (·.1)).Nodup:=by
 have p:=(gY F "").map (·.1);rw[ic,Da]at p;exact(List.nodup_append.mp (p.nodup_iff.mp nd)).2.1
end Fo
noncomputable def kS(p:Str×Str):Key×V:=(.inr p.1,.str p.2)
theorem fX(h:x∉ps.map (·.1)):cv (ps.map kS) (.inr x)=none:=by
 induction ps with
 |nil=>rfl
 |cons p r a=>
  rw[Nq,NH,not_or]at h;rw[Nq,ck (λe=>h.1 (by injection e with e;exact e.symm))];exact a h.2
theorem jM{p:Str×Str}(nd:(ps.map (·.1)).Nodup)(h:p∈ps):cv (ps.map kS) (.inr p.1)=some (.str p.2):=by
 induction ps with
 |nil=>cases h
 |cons q r a=>
  rw[Nq,Rz]at nd;rw[Nq]
  rcases List.mem_cons.mp h with e|e
  ·rw[e];exact cC rfl
  ·rw[ck (λz=>nd.1 (by injection z with z;rw[z];exact Ow e))];exact a nd.2 e
theorem vq{y:Str}(h:x∉ps.map (·.1)):putK (ps.map kS) (.inr x) (.str y)=(ps++[(x,y)]).map kS:=by
 rw[ku _ (fX h),Da];rfl
inductive EZ(vs:List V)(H:Hp)(Q:VK):Prop
 |mk (b:B3) (k n o w q:V) (c0:vs=[.ref b]) (c1:H b=some (.tup [k,n,o,w,q])) (c2:Q n H)
def BD:Sp:=λvs H Q _=>EZ vs H Q
inductive BS(vs:List V)(H:Hp)(Q:VK):Prop
 |mk (b:B3) (k n o w q:V) (c0:vs=[.ref b]) (c1:H b=some (.tup [k,n,o,w,q])) (c2:Q q H)
def rK:Sp:=λvs H Q _=>BS vs H Q
noncomputable abbrev tr(a:B3)(n:Str)(q:B3)(cs:Fo):Fo:= .cons a n q cs .nil
inductive Cd(vs:List V)(H:Hp)(Q:VK):Prop
 |mk (a:B3) (n:Str) (q:B3) (cs:Fo) (c0:vs=[.ref a]) (c1:(tr a n q cs).Ok H) (c2:(tr a n q cs).cnt<=60) (c3:∀(l:B3)(H':Hp),H l=none->af H H'->H' l=some (.lst ((tr a n q cs).lN.map V.ref))->Q (.ref l) H')
def fv:Sp:=λvs H Q _=>Cd vs H Q
inductive AD(vs:List V)(H:Hp)(Q:VK):Prop
 |mk (a:B3) (n:Str) (q:B3) (cs:Fo) (c0:vs=[.ref a]) (c1:(tr a n q cs).Ok H) (c2:(tr a n q cs).cnt<=60) (c3:(tr a n q cs).aX.Nodup) (c4:∀(l:B3)(H':Hp),H l=none->af H H'->H' l=some (.dK ((tr a n q cs).sY.map kS))->Q (.ref l) H')
def tR:Sp:=λvs H Q _=>AD vs H Q
section
variable{P:Og}{w:Ox}{K:mo}{mg:Str->Option B5}{base:ON}
theorem vx:aw Zb Zb (aj uZ):=cD
theorem DZ(F:aZ K "name_of" "name_of" uZ f fd):av P w K mg base aK 1 f fd Zb BD:=by
 refine F.cI vx λcdv A outer s H vs Q E c h=>?_
 ·obtain⟨b,k,n,o,w,q,e,a,z⟩:=h;subst e;refine⟨_,ai (au (ay ax (pv 0) ag (λ_ _=>rfl))),?_⟩;exact⟨_,rfl,b,_,_,_,rfl,rfl,ba.of a,rfl,z⟩
theorem Gf:aw Zb Zb (aj Bl):=cD
theorem BN(F:aZ K "parts_of" "parts_of" Bl f fd):av P w K mg base aK 1 f fd Zb rK:=by
 refine F.cI Gf λcdv A outer s H vs Q E c h=>?_
 ·obtain⟨b,k,n,o,w,q,e,a,z⟩:=h;subst e;refine⟨_,ai (au (ay ax (pv 0) ag (λ_ _=>rfl))),?_⟩;exact⟨_,rfl,b,_,_,_,rfl,rfl,ba.of a,rfl,z⟩
theorem lX:aw ["tree","boxes","to_come","box"] Ze (aj qR):=cD
theorem CV(F:aZ K "boxes_in" "boxes_in" qR f fd)(N:aO mg)(G1:av P w K mg base aK 1 f1 d1 Zb rK)(J1:Cq K mg d1 f1 Zb "parts_of"):
  av P w K mg base aK 2 f fd Ze fv:=by
 refine F.cI lX λcdv A outer s H vs Q E hr h=>?_
 ·obtain⟨a,n,q,cs,e,hok,hc,k⟩:=h;subst e
  have a5:(A.deeper (NB "boxes_in" (aj qR) s.heap.objs.size f cdv)).units<OX:=by have :=hr.units;lia
  refine⟨_,ah (aB (i:=1) lX.nd rfl (Ki rfl) (bU ab))
   (ah (aB (i:=2) lX.nd rfl (Ki rfl) (bU (aa (pv 0) ab)))
   (ah (jU Np (aA (Dp a5) (pv 2) (bU ab) (aF _))
    (ah (aB (i:=3) lX.nd rfl (Ki rfl) (BF NJ Ua T_ CK (pv 2)))
    (ah (cu (cw NJ Od Oc cR (pv 1) (aa (pv 3) ab)))
    (ai (cu (cw NJ Te Tc pG (pv 2) (aa (xq rfl (by rfl) N.list Pz (by rfl) N.rev QR (aa (pq G1 hr J1 (aa (pv 3) ab)) ab)) ab)))))))
   (ai (au (pv 1))))),?_⟩
  refine⟨aG (by simp),λl hl=>?_⟩;have s0:af H (upd H l (.lst [])):=af.put (af.refl H) hl;have h0:(upd H l (.lst [])) l=some (.lst []):=ae;generalize upd H l (.lst [])=H1 at *;refine⟨_,rfl,aG (by simp),λt ht=>?_⟩;have u:t≠l:=B9 (aI h0 ht);have z:H t=none:=same_none s0 ht;have s1:af H1 (upd H1 t (.lst [.ref a])):=af.put (af.refl _) ht;have h1:(upd H1 t (.lst [.ref a])) t=some (.lst [.ref a]):=ae;have a3:=s1 _ _ h0;generalize upd H1 t (.lst [.ref a])=H2 at *;have B:=af.trans s0 s1
  refine⟨λm σ g=>∃(G:Fo)(bs:List B3)(y:Option V),σ=[some (.ref a),some (.ref l),some (.ref t),y]/\af H g/\g l=some (.lst (bs.map V.ref))/\g t=some (.lst (G.aD.reverse.map V.ref))/\bs++G.lN=(tr a n q cs).lN/\G.Ok g/\m=G.cnt,
   ⟨_,tr a n q cs,[],none,rfl,B,a3,h1,rfl,hok.keep (.same B),rfl⟩,?_⟩
  rintro m σ H3 ⟨G,bs,y,rfl,s3,T,S,x,a1,rfl⟩;refine⟨_,rfl,aG (by simp),λp X=>?_⟩;have L:af H3 (upd H3 p (.lst [])):=af.put (af.refl _) X;have h4:(upd H3 p (.lst [])) p=some (.lst []):=ae;generalize upd H3 p (.lst [])=H4 at *;have I:=L _ _ T;have d:=L _ _ S;have S4:=af.trans s3 L;have a9:=a1.keep (.same L);refine⟨t,p,_,rfl,rfl,bf.of d,bf.of h4,_,rfl,?_⟩
  have W:bs.length+G.cnt<=60:=by
   have :=congrArg QG x;rw[B1,Fo.km,Fo.km]at this
   lia
  cases G with
  |nil=>
   refine dh ⟨_,rfl,k l H4 hl S4 ?_⟩;rw[<-x,Fo.D6,Dk];exact I
  |cons b nb qb j as=>
   have er:(Fo.cons b nb qb j as).aD.reverse.map V.ref=as.aD.reverse.map V.ref++[V.ref b]:=by
    show(b::as.aD).reverse.map V.ref=_;rw[Qn,Da];rfl
   rw[er]at d⊢;rw[Fo.cnt_cons]at W;have b1:=Fo.iB as;have b0:=Fo.iB j;refine dH (by cases as.aD.reverse.map V.ref<;>rfl) ?_;obtain⟨⟨kb,ob,wb,eb⟩,eq,a0,a2⟩:=a9;refine⟨λσ' g=>∃(G:Fo)(bs:List B3)(y:Option V),σ'=[some (.ref a),some (.ref l),some (.ref t),y]/\af H g/\g l=some (.lst (bs.map V.ref))/\g t=some (.lst (G.aD.reverse.map V.ref))/\bs++G.lN=(tr a n q cs).lN/\G.Ok g/\G.cnt<(Fo.cons b nb qb j as).cnt,λσ' g a7=>by obtain⟨G,bs,y,e1,e2,p,e4,e5,e6,e7⟩:=a7;exact⟨G.cnt,e7,G,bs,y,e1,e2,p,e4,e5,e6,rfl⟩,?_⟩;refine⟨_,rfl,.inl ⟨rfl,_,bf.of d⟩,t,_,V.ref b,rfl,rfl,d,(by rw[B1];show(_++[V.ref b])[_]? =_;rw[GM (by simp)];simp),?_⟩;rw[List.dropLast_concat]
   have v:(upd H4 t (.lst (as.aD.reverse.map V.ref))) l=some (.lst (bs.map V.ref)):=by rw[ak (B9 u)];exact I
   have a6:(upd H4 t (.lst (as.aD.reverse.map V.ref))) t=some (.lst (as.aD.reverse.map V.ref)):=ae;have S5:af H (upd H4 t (.lst (as.aD.reverse.map V.ref))):=af.put S4 z;have U:=Fo.KT.lst (ys:=as.aD.reverse.map V.ref) d;generalize upd H4 t (.lst (as.aD.reverse.map V.ref))=O at *;refine⟨_,rfl,.inl ⟨rfl,_,bf.of v⟩,_,rfl,l,_,_,rfl,rfl,v,small (by rw[be];lia),?_⟩
   have Z:(upd O l (.lst (bs.map V.ref++[V.ref b]))) l=some (.lst ((bs++[b]).map V.ref)):=by rw[ae,Da];rfl
   have C:(upd O l (.lst (bs.map V.ref++[V.ref b]))) t=some (.lst (as.aD.reverse.map V.ref)):=by rw[ak u];exact a6
   have S6:af H (upd O l (.lst (bs.map V.ref++[V.ref b]))):=af.put S5 hl;have a8:=Fo.KT.lst (ys:=bs.map V.ref++[V.ref b]) v;generalize upd O l (.lst (bs.map V.ref++[V.ref b]))=M at *;have c:=Fo.KT.trans U a8;refine⟨_,rfl,.inl ⟨rfl,_,bf.of C⟩,_,rfl,b,_,_,_,_,_,rfl,c _ _ eb,qb,_,rfl,ba.of (c _ _ eq),λr Y=>?_⟩;have J:af M (upd M r (.lst (j.aD.map V.ref).reverse)):=af.put (af.refl _) Y;have h7:(upd M r (.lst (j.aD.map V.ref).reverse)) r=some (.lst (j.aD.map V.ref).reverse):=ae;generalize upd M r (.lst (j.aD.map V.ref).reverse)=H7 at *;have D:=J _ _ C;have R:=J _ _ Z;refine⟨t,r,_,_,rfl,rfl,D,h7,aG (by simp only[be,NZ];lia),?_⟩;have a4:=Fo.KT.lst (ys:=as.aD.reverse.map V.ref++(j.aD.map V.ref).reverse) D;have o:=Fo.KT.trans (Fo.KT.trans c (.same J)) a4;refine⟨j.app as,bs++[b],_,rfl,af.put (af.trans S6 J) z,by rw[ak (B9 u)];exact R,?_,?_,Fo.fS.mpr ⟨a0.keep o,a2.keep o⟩,by rw[Fo.ee,Fo.cnt_cons];lia⟩
   ·rw[ae,Fo.bx,RS,Da,<-Vi]
   ·rw[<-x,Fo.uL,Fo.Gb,IR];rfl
theorem AB:aw Ze Ze (aj mS):=cD
theorem vA(F:aZ K "boxes_of" "boxes_of" mS f fd)(G1:av P w K mg base aK 2 f1 d1 Ze fv)(b:Cq K mg d1 f1 Ze "boxes_in"):
  av P w K mg base aK 3 f fd Ze fv:=by
 refine F.cI AB λcdv A outer s H vs Q E d h=>?_
 ·obtain⟨a,n,q,cs,e,hok,c,k⟩:=h;subst e;refine⟨_,ai (au (pq G1 d b (aa (pv 0) ab))),?_⟩;exact⟨_,rfl,a,n,q,cs,rfl,hok,c,k⟩
theorem j_:aw ["tree","elders","box","part"] Ze (aj me):=cD
theorem ze{f2 f3:B3}{d2 d3:O4}(F:aZ K "elders_of" "elders_of" me f fd)(G1:av P w K mg base aK 2 f1 d1 Ze fv)(J1:Cq K mg d1 f1 Ze "boxes_in")(G2:av P w K mg base aK 2 f2 d2 Zb rK)(J2:Cq K mg d2 f2 Zb "parts_of")(G3:av P w K mg base aK 2 f3 d3 Zb BD)(J3:Cq K mg d3 f3 Zb "name_of"):
  av P w K mg base aK 3 f fd Ze tR:=by
 refine F.cI j_ λcdv A outer s H vs Q E U h=>?_
 ·obtain⟨a,n,q,cs,e,hok,hc,a0,k⟩:=h;subst e
  have hu:(A.deeper (NB "elders_of" (aj me) s.heap.objs.size f cdv)).units+1<OX:=by have :=U.units;lia
  refine⟨_,ah (aB (i:=1) j_.nd rfl (Ki rfl) gk)
   (ah (cx Np rfl (dr (pq G1 U J1 (aa (pv 0) ab))) (aV (i:=2) j_.nd rfl (Ki rfl))
    (ai (cx Np rfl (eK (pq G2 U J2 (aa (pv 2) ab))) (aV (i:=3) j_.nd rfl (Ki rfl))
     (ai (jT hu (pv 1) (pq G3 U J3 (aa (pv 3) ab)) (pq G3 U J3 (aa (pv 2) ab)) rfl)))))
   (ai (au (pv 1)))),?_⟩
  refineλd hd=>?_;have s1:af H (upd H d (.dK [])):=af.put (af.refl _) hd;have h1:(upd H d (.dK [])) d=some (.dK []):=ae;generalize upd H d (.dK [])=H1 at *;refine⟨_,rfl,a,n,q,cs,rfl,hok.keep (.same s1),hc,λl H2 hl s2 h2=>?_⟩;have a3:H l=none:=same_none s1 hl;have ndl:d≠l:=aI h1 hl;have S:=af.trans s1 s2;have v:=Fo.ug a0;generalize hT:tr a n q cs=T at *
  refine⟨l,rfl,⟨_,bf.of h2⟩,ki (K:=K) (a:=l) (xs:=T.lN.map V.ref) (λi σ u=>∃(u2 I:Option V),σ=[some (.ref a),some (.ref d),u2,I]/\af H u/\u l=some (.lst (T.lN.map V.ref))/\T.Ok u/\u d=some (.dK (((T.subs.take i).flatMap Fo.one).map kS)))
   ⟨none,none,rfl,S,h2,hok.keep (.same S),s2 _ _ h1⟩ (λi σ u _ L=>by obtain⟨_,_,_,_,z,_⟩:=L;exact bf.of z) ?_ ?_⟩
  ·rintro i x σ H3 hx ⟨u2,I,rfl,s3,O,G,D⟩;rw[B7]at hx;unfold Fo.lN at hx;rw[B7]at hx
   cases es:T.subs[i]? with
   |none=>rw[es]at hx;cases hx
   |some y=>
    rw[es]at hx
    cases hx
    have hi:=bw es;obtain⟨⟨ky,oy,wy,ey⟩,eq,R⟩:=G.sub y (Do es);obtain⟨b,r,N,g⟩:=y;dsimp only at ey eq R
    have eT:(T.subs.take (i+1)).flatMap Fo.one=(T.subs.take i).flatMap Fo.one++Fo.one (b,r,N,g):=by
     rw[Pd,es,OM];simp
    have eP:T.sY=(T.subs.take i).flatMap Fo.one++Fo.one (b,r,N,g)++(T.subs.drop (i+1)).flatMap Fo.one:=by
     unfold Fo.sY;rw[<-eT,<-OM,Qt]
    have t:T.sY.length<=60:=by
     have p:=(Fo.gY T "").length_eq;rw[Fo.Fl,B1]at p
     lia
    rw[eP]at v t;rw[eT];generalize(T.subs.take i).flatMap Fo.one=Y at *;generalize(T.subs.drop (i+1)).flatMap Fo.one=P9 at *;have e1:Fo.one (b,r,N,g)=g.p_.map λm=>(m,r):=rfl;rw[e1]at v t⊢
    refine⟨_,rfl,b,_,_,_,_,_,rfl,ey,N,rfl,⟨_,ba.of eq⟩,rD (K:=K) (a:=N) (xs:=g.aD.map V.ref) (λj σ u=>∃(I:Option V),σ=[some (.ref a),some (.ref d),some (.ref b),I]/\af H u/\u l=some (.lst (T.lN.map V.ref))/\T.Ok u/\(∃k o w:V,u b=some (.tup [k,.str r,o,w,.ref N]))/\u N=some (.tup (g.aD.map V.ref))/\g.Ok u/\u d=some (.dK ((Y++(g.p_.take j).map λm=>(m,r)).map kS)))
     ⟨_,rfl,s3,O,G,⟨_,_,_,ey⟩,eq,R,by rw[List.take_zero,QL,Dk];exact D⟩ (λj σ u _ L=>by obtain⟨_,_,_,_,_,_,z,_⟩:=L;exact ba.of z) ?_ ?_⟩
    ·rintro j x σ H4 hx ⟨I,rfl,s4,M,J,⟨k4,o4,w4,e4⟩,a1,C,B⟩;rw[B7]at hx
     cases et:g.aD[j]? with
     |none=>rw[et]at hx;cases hx
     |some c=>
      rw[et]at hx
      cases hx
      obtain⟨X,kc,oc,wc,qc,en,ec⟩:=C.top et
      have W:(g.p_.take (j+1)).map (λm=>(m,r))=(g.p_.take j).map (λm=>(m,r))++[(X,r)]:=by
       rw[Pd,en,Da];rfl
      have eA:(g.p_.map λm=>(m,r))=(g.p_.take j).map (λm=>(m,r))++[(X,r)]++(g.p_.drop (j+1)).map (λm=>(m,r)):=by
       rw[<-W,<-Da,Qt]
      rw[eA]at v t
      have hf:X∉(Y++(g.p_.take j).map (λm=>(m,r))).map (·.1):=by
       simp only[Da,IR,Nq,QL,Pb,PJ]at v⊢;rw[<-IR]at v;intro z;exact(List.nodup_append.mp v).2.2 _ z _ B6 rfl
      have a2:(Y++(g.p_.take j).map (λm=>(m,r))).length<=60:=by
       simp only[B1]at t⊢
       lia
      refine⟨_,rfl,b,_,_,_,_,_,rfl,e4,_,rfl,_,rfl,c,_,_,_,_,_,rfl,ec,d,_,rfl,nv.k (k:= .inr X) B (small (by rw[be];exact cP)),?_⟩;rw[vq hf];have Z:=Fo.KT.dK (ys:=(Y++(g.p_.take j).map (λm=>(m,r))++[(X,r)]).map kS) B;refine⟨_,rfl,af.put s4 hd,by rw[ak (B9 ndl)];exact M,J.keep Z,⟨_,_,_,Z _ _ e4⟩,Z _ _ a1,C.keep Z,?_⟩;rw[ae,W,IR]
    ·rintro σ H4 ⟨I,rfl,s4,M,J,_,_,_,B⟩;refine⟨_,_,rfl,s4,M,J,?_⟩;rw[be,<-Fo.yp,O_]at B;exact B
  ·rintro σ H3 ⟨u2,I,rfl,s3,O,G,D⟩;refine⟨_,rfl,k d H3 hd s3 ?_⟩;rw[D,be,Fo.km];unfold Fo.cnt Fo.sY;rw[O_]
end
end B11E
namespace B11
open PySem L2 S2
noncomputable def top(i:Nat):NG:=PySem.Challenge.pw_boxgalley_k11_whole_one_text_each.main.body.getD i (.Pass ⟨0,0,0,0⟩)
noncomputable abbrev nt:NG:=top 1
noncomputable abbrev jt:NG:=top 2
noncomputable abbrev jj:NG:=top 3
noncomputable abbrev fJ:NG:=top 8
noncomputable abbrev kU:NG:=top 9
noncomputable abbrev fM:NG:=top 10
noncomputable abbrev fG:NG:=top 11
noncomputable abbrev qK:NG:=top 23
noncomputable abbrev oo:NG:=top 24
noncomputable abbrev rh:NG:=top 25
noncomputable abbrev kv:NG:=top 26
noncomputable abbrev lU:NG:=top 27
noncomputable abbrev iu:NG:=top 28
noncomputable abbrev gP:NG:=top 29
noncomputable abbrev iz:NG:=top 30
noncomputable abbrev hI:NG:=top 31
noncomputable abbrev Ek:NG:=top 45
noncomputable abbrev FX:NG:=top 46
noncomputable abbrev sq:NG:=top 47
noncomputable abbrev iC:NG:=top 48
noncomputable abbrev kj:NG:=top 49
noncomputable abbrev oK:NG:=top 50
noncomputable abbrev lS:NG:=top 52
noncomputable abbrev rB:NG:=top 53
noncomputable abbrev kX:NG:=top 54
noncomputable abbrev wW:NG:=top 55
noncomputable abbrev iq:NG:=top 56
noncomputable abbrev xb:NG:=top 57
noncomputable abbrev n_:NG:=top 58
noncomputable abbrev gw:NG:=top 59
noncomputable abbrev rF:NG:=top 60
noncomputable abbrev eR:NG:=top 61
noncomputable abbrev qQ:NG:=top 62
noncomputable abbrev vR:NG:=top 63
noncomputable abbrev Gd:NG:=top 69
noncomputable abbrev sX:NG:=top 70
noncomputable abbrev ym:NG:=top 71
noncomputable abbrev y_:NG:=top 72
noncomputable abbrev gQ:NG:=top 73
noncomputable abbrev nZ:NG:=top 75
noncomputable abbrev mO:NG:=top 76
noncomputable abbrev js:NG:=top 77
noncomputable abbrev ij:NG:=top 84
noncomputable abbrev jy:NG:=top 85
noncomputable abbrev dF:NG:=top 86
noncomputable abbrev je:NG:=top 87
noncomputable abbrev gL:NG:=inClass (top 94) 0
noncomputable abbrev kg:NG:=top 95
noncomputable abbrev jZ:NG:=top 96
noncomputable abbrev wA:NG:=top 97
noncomputable abbrev iP:NG:=top 98
noncomputable abbrev iO:NG:=top 99
noncomputable abbrev ib:NG:=top 100
noncomputable abbrev iE:NG:=top 101
noncomputable abbrev iK:NG:=top 102
noncomputable abbrev fz:NG:=top 103
noncomputable abbrev hZ:NG:=top 104
noncomputable abbrev iH:NG:=top 105
noncomputable abbrev gO:NG:=top 106
noncomputable abbrev gK:NG:=top 107
noncomputable abbrev ik:NG:=top 108
noncomputable abbrev dQ:NG:=top 109
noncomputable abbrev ka:NG:=top 110
noncomputable abbrev ig:NG:=top 111
noncomputable abbrev cY:NG:=top 112
noncomputable abbrev iA:NG:=top 113
noncomputable abbrev xa:NG:=top 115
noncomputable abbrev BK:NG:=top 116
noncomputable abbrev zU:NG:=top 117
noncomputable abbrev Aq:NG:=top 118
noncomputable abbrev zc:NG:=top 119
noncomputable abbrev xh:NG:=top 120
noncomputable abbrev C8:NG:=top 121
noncomputable abbrev Fg:NG:=top 122
noncomputable abbrev o_:NG:=top 127
structure aO(mg:Str->Option B5):Prop where
 len:mg "len"=none
 max:mg "max"=none
 list:mg "list"=none
 int:mg "int"=none
 inst:mg "isinstance"=none
 range:mg "range"=none
 all:mg "all"=none
 bool:mg "bool"=none
 sum:mg "sum"=none
 zip:mg "zip"=none
 str:mg "str"=none
 tuple:mg "tuple"=none
 ord:mg "ord"=none
 enum:mg "enumerate"=none
 any:mg "any"=none
 dict:mg "dict"=none
 rev:mg "reversed"=none
structure lZ(K:mo)(mg:Str->Option B5)(tk:Nat->Tok)(ad:Nat->B3):Prop where
 cANCHOR_FARTHEST:mg "ANCHOR_FARTHEST"=some (.int 1000000 (tk 0))
 cOVER_PARTS:mg "OVER_PARTS"=some (.int 12 (tk 1))
 cJOINT_MOST:mg "JOINT_MOST"=some (.int 999 (tk 2))
 cPIECE_LONGEST:mg "PIECE_LONGEST"=some (.int 12 (tk 3))
 cWORD_PIECES:mg "WORD_PIECES"=some (.int 6 (tk 4))
 cWORDS_PIECES:mg "WORDS_PIECES"=some (.int 60 (tk 5))
 cFLOW_PARTS:mg "FLOW_PARTS"=some (.int 12 (tk 6))
 cFIRST_SIGN:mg "FIRST_SIGN"=some (.int 33 (tk 7))
 cLAST_SIGN:mg "LAST_SIGN"=some (.int 126 (tk 8))
 cPERCENT_SIGN:mg "PERCENT_SIGN"=some (.int 37 (tk 9))
 cBAR_SIGN:mg "BAR_SIGN"=some (.int 124 (tk 10))
 cNAME_LONGEST:mg "NAME_LONGEST"=some (.int 8 (tk 11))
 cSIZE_MOST:mg "SIZE_MOST"=some (.int 1000000 (tk 12))
 cWEIGHT_MOST:mg "WEIGHT_MOST"=some (.int 99 (tk 13))
 cRANK_MOST:mg "RANK_MOST"=some (.int 9 (tk 14))
 cALIKE_MOST:mg "ALIKE_MOST"=some (.int 9 (tk 15))
 cLINED_PARTS:mg "LINED_PARTS"=some (.int 20 (tk 16))
 cGAP_MOST:mg "GAP_MOST"=some (.int 1000 (tk 17))
 cTABLE_PARTS:mg "TABLE_PARTS"=some (.int 40 (tk 18))
 cTABLE_COLUMNS:mg "TABLE_COLUMNS"=some (.int 12 (tk 19))
 cSPAN_MOST:mg "SPAN_MOST"=some (.int 12 (tk 20))
 cBOXES_MOST:mg "BOXES_MOST"=some (.int 60 (tk 21))
 cDEEPEST:mg "DEEPEST"=some (.int 8 (tk 22))
 cTABLE_ROWS:mg "TABLE_ROWS"=some (.int 60 (tk 23))
 cFIGURES_MOST:mg "FIGURES_MOST"=some (.int 7 (tk 24))
 tANCHOR_WORDS:mg "ANCHOR_WORDS"=some (.ref (ad 0))
 sANCHOR_WORDS:∀H:Hp,ba K H (ad 0) [.str "start",.str "mid",.str "mid2",.str "end"]
 tSIDES:mg "SIDES"=some (.ref (ad 1))
 sSIDES:∀H:Hp,ba K H (ad 1) [.str "left",.str "right"]
 tLINED:mg "LINED"=some (.ref (ad 2))
 sLINED:∀H:Hp,ba K H (ad 2) [.str "row",.str "column",.str "wrap"]
 tALIGNS:mg "ALIGNS"=some (.ref (ad 3))
 sALIGNS:∀H:Hp,ba K H (ad 3) [.str "start",.str "end",.str "mid",.str "mid2"]
 tALIKE_KINDS:mg "ALIKE_KINDS"=some (.ref (ad 4))
 sALIKE_KINDS:∀H:Hp,ba K H (ad 4) [.str "leaf",.str "row",.str "column",.str "wrap"]
inductive D where
 |non
 |bl (b:Bool)
 |int (i:Int)
 |str (s:Str)
 |tup (l:List D)
 |oth
inductive At(K:mo)(H:Hp):V->D->Prop
 |non:At K H .non .non
 |bl (b:Bool):At K H (.bl b) (.bl b)
 |int (i:Int):At K H (.int i) (.int i)
 |str (s:Str) (h:s.length<=sizeLine):At K H (.str s) (.str s)
 |tup {a:B3} {xs:List V} {l:List D} (h:H a=some (.tup xs)) (hl:xs.length=l.length) (he:∀(j:Nat)(x:V)(d:D),xs[j]? =some x->l[j]? =some d->At K H x d):At K H (.ref a) (.tup l)
 |oth {a:B3} {es:List V} (h:H a=some (.lst es)):At K H (.ref a) .oth
theorem At.same{K:mo}{H H':Hp}(s:af H H'){v:V}{d:D}(h:At K H v d):At K H' v d:=by
 induction h with
 |non=>exact .non
 |bl b=>exact .bl b
 |int i=>exact .int i
 |str x h=>exact .str x h
 |tup h hl _ a=>exact .tup (s _ _ h) hl a
 |oth h=>exact .oth (s _ _ h)
inductive EN(K:mo)(j:Nat)(vs:List V)(H:Hp)(Q:VK):Prop
 |mk (v:V) (l:List D) (d:D) (c0:vs=[v]) (c1:At K H v (.tup l)) (c2:l[j]? =some d) (c3:∀x:V,At K H x d->Q x H)
def xc(K:mo)(j:Nat):Sp:=λvs H Q _=>EN K j vs H Q
variable{H H1 H2 H':Hp}{K:mo}{j col h row w i n B c r cols x y:Nat}{v:V}{d:D}{l ds es:List D}{P:Og}{base:ON}{f f1 f2 f3 a:B3}{fd d1 d2 d3:O4}{mg:Str->Option B5}{ta te:TE}{σ:St}{o:HO}{p:Nat->Bool}{sps:List (Nat×Nat)}{kvs:List (List Key×V)}{as:List B3}{xs ys:List V}{nm:Str}{D0:Ends}
theorem At.part(h:At K H v (.tup l))(e:l[j]? =some d):∃(a:B3)(xs:List V)(x:V),v= .ref a/\ba K H a xs/\jX xs (j:Int)=some x/\At K H x d:=by
 cases h with
 | @tup a xs l h hl he=>
  have b:j<xs.length:=by rw[hl];exact bw e
  have ex:=B0 b;exact⟨a,xs,xs[j],rfl,ba.of h,aN ex,he j _ d ex e⟩
section
variable{w:Ox}
noncomputable abbrev FE:List Str:=Zb
theorem mN:aw FE Zb (aj iC):=cD
theorem zG(F:aZ K "what_of" "what_of" iC f fd)(N:aO mg):av P w K mg base aK 1 f fd Zb (xc K 3):=by
 refine F.cI mN λcdv A outer s H vs Q E i h=>?_
 ·obtain⟨v,l,d,e,b,g,k⟩:=h;subst e;refine⟨_,ai (au (ay ax (pv 0) ag (λ_ _=>rfl))),?_⟩
  try rw[bO]
  obtain⟨a,xs,x,rfl,h1,h2,c⟩:=b.part g;exact⟨_,rfl,a,_,_,_,rfl,rfl,h1,h2,k x c⟩
end
theorem gp.str(x:Str)(H:Hp):gp (Mn x) H (x.cps.toList.map λc=>V.str ⟨#[c]⟩):=
 ⟨λi H' _ hi=>by rw[be,Ni]at hi;exact hi,λH' _=>by rw[be,Ni];exact B2 _,λi v H' a _ y=>by
  obtain⟨e,c,b,d⟩:=y
  exact⟨e,by rw[B7,Pi,b,d];rfl⟩⟩
theorem gp.tup{K:mo}{a:B3}{H:Hp}{xs:List V}(h:H a=some (.tup xs)):gp (Ht K a) H xs:=
 ⟨λi H' s hi=>⟨xs,xs[i],ba.of (s _ _ h),by simp[hi]⟩,λH' s=>⟨xs,ba.of (s _ _ h),B2 _⟩,λi x H' b s y=>by
  obtain⟨e,y⟩:=y
  exact⟨e,y xs (ba.of (s _ _ h))⟩⟩
theorem vO{α β:Type}{xs:List α}{l:List β}{p:α×β}(h:(xs.zip l)[j]? =some p):xs[j]? =some p.1/\l[j]? =some p.2:=by
 rw[S8]at h;exact h
section
variable{n:Int}
theorem u_{α β:Type}{f:β->Int}:∀{xs:List α}{l:List β},xs.length=l.length->((xs.zip l).map λp=>f p.2).sum=(l.map f).sum
 |[],[],_=>rfl
 |[],d::l,h=>nomatch h
 |x::xs,[],h=>nomatch h
 |x::xs,d::l,h=>by rw[UM,Nq,Nq,RY,RY,u_ (Nat.succ.inj h)]
end
noncomputable abbrev gI:List V:=[.str "row",.str "column",.str "wrap"]
noncomputable abbrev yM:=Gd
noncomputable abbrev vv:=sX
noncomputable abbrev rM:=ym
noncomputable abbrev IY:=y_
def Kp(st:B3)(H H':Hp):Prop:=∀b o,b≠st->H b=some o->H' b=some o
theorem Kp.refl{st:B3}(H:Hp):Kp st H H:=λ_ _ _ h=>h
theorem Kp.trans{st:B3}(a:Kp st H H1)(b:Kp st H1 H2):Kp st H H2:=λc o n h=>b c o n (a c o n h)
theorem Kp.of{st:B3}(s:af H H'):Kp st H H':=λb o _ h=>s b o h
theorem Kp.store{st:B3}:Kp st H (upd H st o):=λb o' n h=>by rw[ak n];exact h
theorem Kp.put{st D:B3}(k:Kp st H H')(h:H D=none):Kp st H (upd H' D o):=λb o' n a=>by
 rw[ak (λz=>by rw[z,h]at a;cases a)];exact k b o' n a
abbrev Tk:=Nat->Nat->Bool
noncomputable def dJ(T:Tk)(row col w h:Nat):Bool:=(Nz h).all λd=>(Nz w).all λa=> !T (row+d) (col+a)
variable{T:Tk}
theorem oC:dJ T row col w h=true↔∀d,d<h->∀a,a<w->T (row+d) (col+a)=false:=by
 unfold dJ;rw[Rl];constructor
 ·intro z d hd a ha;have :=List.all_eq_true.mp (z d (List.mem_range.mpr hd)) a (List.mem_range.mpr ha);simpa using this
 ·intro z d hd;refine List.all_eq_true.mpr λa ha=>?_;rw[z d (List.mem_range.mp hd) a (List.mem_range.mp ha)];rfl
theorem Fs{d a:Nat}(hd:d<h)(ha:a<w)(t:T (row+d) (col+a)=true):dJ T row col w h=false:=by
 cases e:dJ T row col w h with
 |false=>rfl
 |true=>rw[oC.mp e d hd a ha]at t;cases t
noncomputable def bY(T:Tk)(n w h:Nat):Nat->Nat->Nat×Nat
 |0,row=>(row,0)
 |f+1,row=>match(Nz n).find? (λc=>dJ T row c w h)with
  |some c=>(row,c)
  |none=>bY T n w h f (row+1)
noncomputable def gx(T:Tk)(B n w h:Nat):Nat×Nat:=bY T n w h (B+1) 0
def Bd(T:Tk)(B:Nat):Prop:=∀r c,B<=r->T r c=false
theorem xk(hi:i<n)(a:p i=true)(b:∀j,j<i->p j=false):(Nz n).find? p=some i:=by
 rw[Th];exact⟨a,List.mem_range.mpr hi,λj c=>by rw[b j c];rfl⟩
theorem find_none(a:∀j,j<n->p j=false):(Nz n).find? p=none:=by
 rw[List.find?_eq_none];intro x hx;rw[a x (List.mem_range.mp hx)];exact FS
theorem Ct{f:Nat}(hi:i<n)(a:dJ T row i w h=true)(b:∀j,j<i->dJ T row j w h=false):bY T n w h (f+1) row=(row,i):=by
 rw[bY,xk hi a b]
theorem pV{f:Nat}(a:∀j,j<n->dJ T row j w h=false):bY T n w h (f+1) row=bY T n w h f (row+1):=by
 rw[bY,find_none a]
theorem iZ(hB:Bd T B):dJ T B c w h=true:=oC.mpr λd _ a _=>hB _ _ (P1 _ _)
structure rT(T:Tk)(B n w h:Nat)(p:Nat×Nat):Prop where
 row:p.1<=B
 col:p.2<n
 free:dJ T p.1 p.2 w h=true
 above:∀r c,r<p.1->c<n->dJ T r c w h=false
 ahead:∀c,c<p.2->dJ T p.1 c w h=false
theorem yH(hB:Bd T B)(hn:0<n):∀(f row:Nat),f+row=B+1->0<f->(∀r c,r<row->c<n->dJ T r c w h=false)->rT T B n w h (bY T n w h f row)
 |0,row,_,h0,_=>absurd h0 (OJ _)
 |f+1,row,e,_,j=>by
  cases d:(Nz n).find? (λc=>dJ T row c w h)with
  |some c=>
   obtain⟨h1,h2,l⟩:=(Th).mp d
   have k:bY T n w h (f+1) row=(row,c):=by rw[bY,d]
   rw[k]
   exact⟨by show row<=B;lia,List.mem_range.mp h2,h1,j,λm g=>by
    have :=l m g
    simpa using this⟩
  |none=>
   have a:∀c,c<n->dJ T row c w h=false:=λc b=>by
    have :=List.find?_eq_none.mp d c (List.mem_range.mpr b);exact Bool.eq_false_iff.mpr this
   have i:row≠B:=λz=>by
    subst z;have :=a 0 hn;rw[iZ hB]at this
    cases this
   rw[pV a]
   exact yH hB hn f (row+1) (by lia) (by lia) λr c o b=>by
    by_cases z:r=row
    ·rw[z];exact a c b
    ·exact j r c (by lia) b
theorem uM(hB:Bd T B)(hn:0<n):rT T B n w h (gx T B n w h):=yH hB hn (B+1) 0 rfl (QK _) λr c a=>absurd a (Pn _)
noncomputable def cover(T:Tk)(r c w h:Nat):Tk:=λx y=>T x y||(decide (r<=x)&&(decide (x<r+h)&&(decide (c<=y)&&decide (y<c+w))))
noncomputable def eN(T:Tk)(r c w d a:Nat):Tk:=λx y=>T x y||((decide (r<=x)&&(decide (x<r+d)&&(decide (c<=y)&&decide (y<c+w))))||(decide (x=r+d)&&(decide (c<=y)&&decide (y<c+a))))
theorem uX(T:Tk)(r c w:Nat):eN T r c w 0 0=T:=by
 funext x y
 unfold eN
 have a:(decide (r<=x)&&(decide (x<r+0)&&(decide (c<=y)&&decide (y<c+w))))=false:=by
  by_cases h:r<=x
  ·rw[decide_eq_false (show¬x<r+0 by lia)];simp
  ·rw[decide_eq_false h];rfl
 have b:(decide (x=r+0)&&(decide (c<=y)&&decide (y<c+0)))=false:=by
  by_cases h:c<=y
  ·rw[decide_eq_false (show¬y<c+0 by lia)];simp
  ·rw[decide_eq_false h];simp
 rw[a,b];simp
theorem ud(T:Tk)(r c w d a:Nat)(x y:Nat):eN T r c w d (a+1) x y=(eN T r c w d a x y||(decide (x=r+d)&&decide (y=c+a))):=by
 unfold eN;rw[Po];simp only[RC,Oi,decide_eq_true_eq];constructor
 ·rintro(h|h|⟨h1,h2,b⟩)
  ·exact .inl (.inl h)
  ·exact .inl (.inr (.inl h))
  ·by_cases e:y=c+a
   ·exact .inr ⟨h1,e⟩
   ·exact .inl (.inr (.inr ⟨h1,h2,by lia⟩))
 ·rintro((h|h|⟨h1,h2,b⟩)|⟨h1,h2⟩)
  ·exact .inl h
  ·exact .inr (.inl h)
  ·exact .inr (.inr ⟨h1,h2,by lia⟩)
  ·exact .inr (.inr ⟨h1,by lia,by lia⟩)
theorem xi(T:Tk)(r c w d:Nat):eN T r c w d w=eN T r c w (d+1) 0:=by
 funext x y
 unfold eN;rw[Po];simp only[RC,Oi,decide_eq_true_eq];constructor
 ·rintro(h|h|⟨h1,h2,a⟩)
  ·exact .inl h
  ·exact .inr (.inl ⟨h.1,by lia,h.2.2⟩)
  ·exact .inr (.inl ⟨by lia,by lia,h2,a⟩)
 ·rintro(h|⟨h1,h2,a,b⟩|h)
  ·exact .inl h
  ·by_cases e:x=r+d
   ·exact .inr (.inr ⟨e,a,b⟩)
   ·exact .inr (.inl ⟨h1,by lia,a,b⟩)
  ·exact absurd h.2.2 (by lia)
theorem xn(T:Tk)(r c w h:Nat):eN T r c w h 0=cover T r c w h:=by
 funext x y
 unfold eN cover;rw[Po];simp only[RC,Oi,decide_eq_true_eq];constructor
 ·rintro(h|h|h)
  ·exact .inl h
  ·exact .inr h
  ·exact absurd h.2.2 (by lia)
 ·rintro(h|h)
  ·exact .inl h
  ·exact .inr (.inl h)
theorem CM(hB:Bd T B)(a:r<=B):Bd (cover T r c w h) (B+h):=λx y hx=>by
 unfold cover;rw[hB x y (by lia),decide_eq_false (show¬x<r+h by lia)];simp
abbrev J0:=Tk×Nat×List (Nat×Nat)
noncomputable def cE(cols:Nat)(sps:List (Nat×Nat)):Nat->J0
 |0=>(λ_ _=>false,0,[])
 |i+1=>
  (cover (cE cols sps i).1 (gx (cE cols sps i).1 (cE cols sps i).2.1 (cols-(sps.getD i (1,1)).1+1) (sps.getD i (1,1)).1 (sps.getD i (1,1)).2).1 (gx (cE cols sps i).1 (cE cols sps i).2.1 (cols-(sps.getD i (1,1)).1+1) (sps.getD i (1,1)).1 (sps.getD i (1,1)).2).2 (sps.getD i (1,1)).1 (sps.getD i (1,1)).2,
   (cE cols sps i).2.1+(sps.getD i (1,1)).2,(cE cols sps i).2.2++[gx (cE cols sps i).1 (cE cols sps i).2.1 (cols-(sps.getD i (1,1)).1+1) (sps.getD i (1,1)).1 (sps.getD i (1,1)).2])
noncomputable def mM(cols:Nat)(sps:List (Nat×Nat))(i:Nat):Nat×Nat:=gx (cE cols sps i).1 (cE cols sps i).2.1 (cols-(sps.getD i (1,1)).1+1) (sps.getD i (1,1)).1 (sps.getD i (1,1)).2
theorem mq(cols:Nat)(sps:List (Nat×Nat)):∀i,Bd (cE cols sps i).1 (cE cols sps i).2.1
 |0=>λ_ _ _=>rfl
 |i+1=>CM (mq cols sps i) (uM (mq cols sps i) (QK _)).row
theorem Eo(cols:Nat)(sps:List (Nat×Nat))(i:Nat):rT (cE cols sps i).1 (cE cols sps i).2.1 (cols-(sps.getD i (1,1)).1+1) (sps.getD i (1,1)).1 (sps.getD i (1,1)).2 (mM cols sps i):=uM (mq cols sps i) (QK _)
theorem eH(cols:Nat)(sps:List (Nat×Nat)):∀i,(cE cols sps i).2.2.length=i
 |0=>rfl
 |i+1=>by
  show((cE cols sps i).2.2++[_]).length=i+1;rw[B1,eH cols sps i];rfl
theorem lh(cols:Nat)(sps:List (Nat×Nat))(i:Nat):(cE cols sps (i+1)).2.2=(cE cols sps i).2.2++[mM cols sps i]:=rfl
theorem pJ:∀n i,i<=n->(cE cols sps n).2.2.take i=(cE cols sps i).2.2
 |0,i,h=>by
  have :i=0:=by lia
  subst this;rfl
 |n+1,i,h=>by
  by_cases e:i=n+1
  ·subst e;exact Oa (by rw[eH];exact B2 _)
  ·rw[lh,QE (by rw[eH];lia)];exact pJ n i (by lia)
theorem C6(h:i<n):(cE cols sps n).2.2[i]? =some (mM cols sps i):=by
 have e:=pJ (cols:=cols) (sps:=sps) n (i+1) h;rw[lh]at e
 have :((cE cols sps n).2.2.take (i+1))[i]? =some (mM cols sps i):=by
  rw[e,GM (by rw[eH];exact B2 _),eH,Rr];rfl
 rw[List.getElem?_take,if_pos (Ri i)]at this;exact this
theorem nO(cols:Nat)(sps:List (Nat×Nat))(a:∀j,(sps.getD j (1,1)).2<=100):∀i,(cE cols sps i).2.1<=100*i
 |0=>B2 _
 |i+1=>by
  have b:=nO cols sps a i;have :=a i;show(cE cols sps i).2.1+(sps.getD i (1,1)).2<=100*(i+1)
  lia
def DT(kvs:List (List Key×V))(T:Tk):Prop:=∀r c:Nat,(cv kvs [N_ (r:Int),N_ (c:Int)]).isSome=T r c
theorem DT.nil:DT [] (λ_ _=>false):=λ_ _=>rfl
theorem xV:([N_ (r:Int),N_ (c:Int)]:List Key)=[N_ (x:Int),N_ (y:Int)]↔r=x/\c=y:=by
 constructor
 ·intro h
  injection h with h1 h2
  injection h2 with h2 _
  injection h1 with h1
  injection h2 with h2
  exact⟨Int.ofNat.inj h1,Int.ofNat.inj h2⟩
 ·rintro⟨rfl,rfl⟩;rfl
theorem DT.put{d:Tk}(h:DT kvs T)(f:∀a b,d a b=(T a b||(decide (a=x)&&decide (b=y)))):DT (putK kvs [N_ (x:Int),N_ (y:Int)] v) d:=λr c=>by
 rw[Bq,f];by_cases e:r=x/\c=y
 ·rw[if_pos (xV.mpr e),decide_eq_true e.1,decide_eq_true e.2];simp
 ·rw[if_neg (λz=>e (xV.mp z)),h r c]
  have :(decide (r=x)&&decide (c=y))=false:=by
   rw[Bool.eq_false_iff];intro z;rw[Oi,decide_eq_true_eq,decide_eq_true_eq]at z;exact e z
  rw[this,Ra]
theorem Kp.same{st:B3}{H H1 H2:Hp}(k:Kp st H1 H2)(s:af H H1)(h:H st=none):af H H2:=λb o a=>k b o (λz=>by rw[z,h]at a;cases a) (s b o a)
theorem EC{st:B3}{rows:List (List V)}(h:bp H as rows)(k:Kp st H H2)(hd:H st=some (.dT kvs)):bp H2 as rows:=⟨h.1,λi p r b c=>by
 have a:=h.2 i p r b c
 exact k p _ (λz=>by rw[z,hd]at a;cases a) a⟩
theorem zT{rows:List (List V)}{l:B3}(h:bp H as rows)(hl:H l=some (.lst xs)):bp (upd H l o) as rows:=⟨h.1,λi p r b c=>by
 have a:=h.2 i p r b c;rw[ak (jV a hl (by intro z;cases z))]
 exact a⟩
noncomputable def zN(p:Nat×Nat):List V:=[.int (p.1:Int),.int (p.2:Int)]
inductive EB(vs:List V)(H:Hp)(Q:VK):Prop
 |mk (dd p:B3) (kvs:List (List Key×V)) (T:Tk) (row col w h:Nat) (c0:vs=[.ref dd,.int (row:Int),.int (col:Int),.ref p]) (c1:H dd=some (.dT kvs)) (c2:DT kvs T) (c3:H p=some (.tup [.int (w:Int),.int (h:Int)])) (c4:row<=100000) (c5:col<=1000) (c6:w<=100) (c7:h<=100) (c8:∀H',af H H'->Q (.bl (dJ T row col w h)) H')
def Ci:Sp:=λvs H Q _=>EB vs H Q
inductive C0(vs:List V)(H:Hp)(Q:VK):Prop
 |mk (dd p:B3) (kvs:List (List Key×V)) (T:Tk) (B cols w h:Nat) (c0:vs=[.ref dd,.int (cols:Int),.ref p]) (c1:H dd=some (.dT kvs)) (c2:DT kvs T) (c3:Bd T B) (c4:B<=50000) (c5:H p=some (.tup [.int (w:Int),.int (h:Int)])) (c6:0<w) (c7:w<=cols) (c8:cols<=100) (c9:h<=100) (c10:∀(t:B3)(H':Hp),af H H'->H' t=some (.tup (zN (gx T B (cols-w+1) w h)))->Q (.ref t) H')
def yy:Sp:=λvs H Q _=>C0 vs H Q
inductive AN(vs:List V)(H:Hp)(Q:VK):Prop
 |mk (dd q p:B3) (kvs:List (List Key×V)) (T:Tk) (r c w h:Nat) (c0:vs=[.ref dd,.ref q,.ref p]) (c1:H dd=some (.dT kvs)) (c2:DT kvs T) (c3:H q=some (.tup [.int (r:Int),.int (c:Int)])) (c4:H p=some (.tup [.int (w:Int),.int (h:Int)])) (c5:w<=12) (c6:h<=12) (c7:kvs.length<=50000) (c8:∀(kvs':List (List Key×V))(H':Hp),Kp dd H H'->H' dd=some (.dT kvs')->DT kvs' (cover T r c w h)->kvs'.length<=kvs.length+144->Q .non H')
def yt:Sp:=λvs H Q _=>AN vs H Q
inductive IF(vs:List V)(H:Hp)(Q:VK):Prop
 |mk (a:B3) (sa:List B3) (sps:List (Nat×Nat)) (cols:Nat) (c0:vs=[.int (cols:Int),.ref a]) (c1:H a=some (.lst (sa.map V.ref))) (c2:bp H sa (sps.map zN)) (c3:(∀sp∈sps,0<sp.1/\sp.1<=cols/\sp.2<=12)) (c4:cols<=12) (c5:sps.length<=100) (c6:∀(l:B3)(pa:List B3)(H':Hp),H l=none->af H H'->H' l=some (.lst (pa.map V.ref))->bp H' pa ((cE cols sps sps.length).2.2.map zN)->Q (.ref l) H')
def Gv:Sp:=λvs H Q _=>IF vs H Q
section
variable{w:Ox}
theorem xx:aw ["taken","row","column","span","down","across"] ZC (aj yM):=cD
theorem Fb(F:aZ K "is_free" "is_free" yM f fd)(N:aO mg):av P w K mg base aK 1 f fd ZC Ci:=by
 refine F.cI xx λcdv A outer s H vs Q E R h=>?_
 ·obtain⟨dd,p,kvs,T,row,col,w,h,e,hd,L,B,b1,W,U,X,k⟩:=h;subst e
  have S:(A.deeper (NB "is_free" (aj yM) s.heap.objs.size f cdv)).units+1<OX:=by have :=R.units;lia
  refine⟨_,ah (cx Np rfl (qC (by rfl) N.range (aa (pv 1) (aa (aJ bz (pv 1) (ay ax (pv 3) ag (λ_ _=>rfl))) ab))) (aV (i:=4) xx.nd rfl (Ki rfl))
    (ai (cx Np rfl (qC (by rfl) N.range (aa (pv 2) (aa (aJ bz (pv 2) (ay ax (pv 3) ag (λ_ _=>rfl))) ab))) (aV (i:=5) xx.nd rfl (Ki rfl))
     (ai (aR (xu (xp S (aT (aa (pv 4) (aa (pv 5) ab))) (pv 0))) (ai (au cQ)) az)))))
   (ai (au cQ)),?_⟩
  have D:∀x y:V,jX [x,y] 0=some x:=λx y=>rfl;have O:∀x y:V,jX [x,y] 1=some y:=λx y=>rfl;refine⟨_,rfl,_,rfl,_,rfl,p,_,_,_,rfl,rfl,ba.of B,O _ _,_,_,rfl,rfl,(row:Int),(row:Int)+(h:Int),rfl,⟨by lia,by lia,by lia,by lia⟩,?_⟩
  have M:((row:Int)+(h:Int)-(row:Int)).toNat=h:=by lia
  rw[M]
  refine cJ (lo:=(row:Int)) (n:=h) (λi σ u=>(∃(q c:Option V),σ=[some (.ref dd),some (.int (row:Int)),some (.int (col:Int)),some (.ref p),q,c])/\af H u/\∀d,d<i->∀a,a<w->T (row+d) (col+a)=false)
   ⟨⟨none,none,rfl⟩,af.refl _,λd hd=>absurd hd (Pn _)⟩ ?_ ?_
  ·rintro d σ H1 o ⟨⟨q,c,rfl⟩,s1,j⟩;have hp1:=s1 _ _ B;refine⟨_,rfl,_,rfl,_,rfl,p,_,_,_,rfl,rfl,ba.of hp1,D _ _,_,_,rfl,rfl,(col:Int),(col:Int)+(w:Int),rfl,⟨by lia,by lia,by lia,by lia⟩,?_⟩
   have r:((col:Int)+(w:Int)-(col:Int)).toNat=w:=by lia
   rw[r]
   refine cJ (lo:=(col:Int)) (n:=w) (λa σ u=>(∃(c:Option V),σ=[some (.ref dd),some (.int (row:Int)),some (.int (col:Int)),some (.ref p),some (.int ((row:Int)+(d:Int))),c])/\af H1 u/\∀b,b<a->T (row+d) (col+b)=false)
    ⟨⟨_,rfl⟩,af.refl _,λb z=>absurd z (Pn _)⟩ ?_ ?_
   ·rintro a σ H2 ha ⟨⟨c,rfl⟩,s2,l⟩;refine⟨_,rfl,_,rfl,(by show 2<=sizeLine;decide),λt J=>?_⟩;have C:af H2 (upd H2 t (.tup [V.int ((row:Int)+(d:Int)),V.int ((col:Int)+(a:Int))])):=af.put (af.refl _) J
    have I:(upd H2 t (.tup [V.int ((row:Int)+(d:Int)),V.int ((col:Int)+(a:Int))])) t=some (.tup (([N_ ((row+d:Nat):Int),N_ ((col+a:Nat):Int)]:List Key).map kV)):=by
     rw[ae];show some (HO.tup [_,_])=some (HO.tup [_,_]);rw[show((row+d:Nat):Int)=(row:Int)+(d:Int)by lia,show((col+a:Nat):Int)=(col:Int)+(a:Int)by lia];rfl
    generalize upd H2 t (.tup [V.int ((row:Int)+(d:Int)),V.int ((col:Int)+(a:Int))])=H3 at *;have v:af H H3:=af.trans s1 (af.trans s2 C);have g:=fR.t (v _ _ hd) I;refine⟨_,rfl,dd,_,rfl,g,_,rfl,?_⟩;rw[L]
    cases m:T (row+d) (col+a)with
    |true=>
     refine eY ?_;have :=k H3 v;rw[Fs o ha m]at this;exact this
    |false=>
     refine dh ⟨⟨_,rfl⟩,af.trans s2 C,λb z=>?_⟩;by_cases e:b=a
     ·rw[e];exact m
     ·exact l b (by lia)
   ·rintro σ H2 ⟨⟨c,rfl⟩,s2,l⟩;refine⟨⟨_,_,rfl⟩,af.trans s1 s2,λd' G=>?_⟩;by_cases e:d'=d
    ·rw[e];exact l
    ·exact j d' (by lia)
  ·rintro σ H1 ⟨⟨q,c,rfl⟩,s1,j⟩;have :=k H1 s1;rw[oC.mpr j]at this;exact this
theorem jx:aw ["taken","columns","span","tried","row","column"] ZD (aj vv):=cD
theorem Dt(F:aZ K "first_place" "first_place" vv f fd)(N:aO mg)(G1:av P w K mg base aK 1 f1 d1 ZC Ci)(U:Cq K mg d1 f1 ZC "is_free"):
  av P w K mg base aK 2 f fd ZD yy:=by
 refine F.cI jx λcdv A outer s H vs Q E O h=>?_
 ·obtain⟨dd,p,kvs,T,B,cols,w,h,e,hd,M,hB,D,u,c1,c2,c3,c4,k⟩:=h;subst e
  refine⟨_,ah (aB (i:=3) jx.nd rfl (Ki rfl) (aH (zA rfl) (by rfl) N.max Ub (aa (aJ bz (aJ fU (pv 1) (ay ax (pv 2) ag (λ_ _=>rfl))) ag) (aa ag ab))))
   (ah (aB (i:=4) jx.nd rfl (Ki rfl) ag)
   (ai (jU Np (bJ cQ)
    (ah (cx Np rfl (cy (by rfl) N.range (aa (pv 3) ab)) (aV (i:=5) jx.nd rfl (Ki rfl))
     (ai (aR (bJ (pq G1 O U (aa (pv 0) (aa (pv 4) (aa (pv 5) (aa (pv 2) ab)))))) (ai (au (aT (aa (pv 4) (aa (pv 5) ab))))) az)))
    (ai (aB (i:=4) jx.nd rfl (Ki rfl) (aJ bz (pv 4) ag))))))),?_⟩
  have C:∀x y:V,jX [x,y] 0=some x:=λx y=>rfl;refine⟨_,rfl,_,rfl,p,_,_,_,rfl,rfl,ba.of u,C _ _,_,_,rfl,rfl,_,_,rfl,rfl,_,_,rfl,?_⟩
  have j:(if(1:Int)>(cols:Int)-(w:Int)+1 then(1:Int)else(cols:Int)-(w:Int)+1)=((cols-w+1:Nat):Int):=by split<;>lia
  rw[j];have hn:0<cols-w+1:=QK _
  have R:cols-w+1<=100:=by lia
  generalize cols-w+1=n at *;clear j;refine⟨λm σ o=>∃(row:Nat)(a:Option V),σ=[some (.ref dd),some (.int (cols:Int)),some (.ref p),some (.int (n:Int)),some (.int (row:Int)),a]/\af H o/\row<=B/\m=B+1-row/\bY T n w h (B+1-row) row=gx T B n w h,⟨_,0,none,rfl,af.refl _,Nl _,rfl,rfl⟩,?_⟩;rintro m σ H1 ⟨row,a,rfl,s1,r,rfl,d⟩;refine⟨_,rfl,eY ?_⟩;refine⟨λσ' H'=>∃(a:Option V),σ'=[some (.ref dd),some (.int (cols:Int)),some (.ref p),some (.int (n:Int)),some (.int ((row+1:Nat):Int)),a]/\af H H'/\row+1<=B/\bY T n w h (B+1-(row+1)) (row+1)=gx T B n w h,λσ' H' q=>by obtain⟨a,Y,W,I,J⟩:=q;exact⟨B+1-(row+1),by lia,row+1,a,Y,W,I,rfl,J⟩,?_⟩;refine⟨_,rfl,(n:Int),rfl,by lia,by lia,?_⟩;rw[show((n:Int)).toNat=n by lia]
  have S:B+1-row=(B-row)+1:=by lia
  rw[S]at d
  refine cJ (lo:=0) (n:=n) (λi σ o=>(∃(a:Option V),σ=[some (.ref dd),some (.int (cols:Int)),some (.ref p),some (.int (n:Int)),some (.int (row:Int)),a])/\af H o/\∀c,c<i->dJ T row c w h=false)
   ⟨⟨_,rfl⟩,s1,λc v=>absurd v (Pn _)⟩ ?_ ?_
  ·rintro i σ H2 hi ⟨⟨a,rfl⟩,s2,b⟩;refine⟨_,rfl,_,rfl,_,rfl,_,rfl,dd,p,kvs,T,row,i,w,h,(by rw[show(0:Int)+(i:Int)=(i:Int)by lia];rfl),s2 _ _ hd,M,s2 _ _ u,by lia,by lia,by lia,vY,λH3 X=>⟨_,rfl,?_⟩⟩;have l:=af.trans s2 X
   cases g:dJ T row i w h with
   |true=>
    refine eY ?_;rw[Ct hi g b]at d;refine⟨_,rfl,_,rfl,(by show 2<=sizeLine;decide),λt L=>?_⟩;refine k t _ (af.put l (same_none l L)) ?_;rw[<-d,ae];show some (HO.tup [V.int (row:Int),V.int (0+(i:Int))])=some (HO.tup [V.int (row:Int),V.int (i:Int)]);rw[show(0:Int)+(i:Int)=(i:Int)by lia]
   |false=>
    refine dh ⟨⟨_,rfl⟩,l,λc v=>?_⟩;by_cases e:c=i
    ·rw[e];exact g
    ·exact b c (by lia)
  ·rintro σ H2 ⟨⟨a,rfl⟩,s2,b⟩
   have G:row≠B:=λz=>by
    have :=b 0 hn;rw[z,iZ hB]at this
    cases this
   rw[pV b]at d;refine⟨_,rfl,_,_,rfl,rfl,?_⟩;refine(show∃a,_ from⟨a,?_,s2,by lia,by rw[show B+1-(row+1)=B-row by lia];exact d⟩);rw[show((row+1:Nat):Int)=(row:Int)+1 by lia];rfl
theorem qI:aw ["taken","place","span","down","across"] ZE (aj rM):=cD
theorem B_(F:aZ K "take" "take" rM f fd)(N:aO mg):av P w K mg base aK 1 f fd ZE yt:=by
 refine F.cI qI λcdv A outer s H vs Q E hr h=>?_
 ·obtain⟨dd,q,p,kvs,T,r,c,w,h,e,hd,Z,J,C,b1,b2,b3,k⟩:=h;subst e
  have hu:(A.deeper (NB "take" (aj rM) s.heap.objs.size f cdv)).units+1<OX:=by have :=hr.units;lia
  refine⟨_,ai (cx Np rfl (cy (by rfl) N.range (aa (ay ax (pv 2) ag (λ_ _=>rfl)) ab)) (aV (i:=3) qI.nd rfl (Ki rfl))
    (ai (cx Np rfl (cy (by rfl) N.range (aa (ay ax (pv 2) ag (λ_ _=>rfl)) ab)) (aV (i:=4) qI.nd rfl (Ki rfl))
     (ai (jT hu (pv 0) (aT (aa (aJ bz (ay ax (pv 1) ag (λ_ _=>rfl)) (pv 3)) (aa (aJ bz (ay ax (pv 1) ag (λ_ _=>rfl)) (pv 4)) ab))) cQ rfl))))),?_⟩
  have R:∀x y:V,jX [x,y] 0=some x:=λx y=>rfl;have S:∀x y:V,jX [x,y] 1=some y:=λx y=>rfl
  have L:p≠dd:=λz=>by rw[z,hd]at C;cases C
  have I:q≠dd:=λz=>by rw[z,hd]at J;cases J
  refine⟨_,rfl,p,_,_,_,rfl,rfl,ba.of C,S _ _,(h:Int),rfl,by lia,by lia,?_⟩;rw[show((h:Int)).toNat=h by lia]
  refine cJ (lo:=0) (n:=h) (λd σ B=>∃(kvs':List (List Key×V))(M g:Option V),σ=[some (.ref dd),some (.ref q),some (.ref p),M,g]/\Kp dd H B/\B dd=some (.dT kvs')/\DT kvs' (eN T r c w d 0)/\kvs'.length<=kvs.length+d*w)
   ⟨kvs,none,none,rfl,Kp.refl _,hd,(by rw[uX];exact Z),Lw⟩ ?_ ?_
  ·rintro d σ H1 W ⟨m,M,g,rfl,s1,l,b,D⟩;refine⟨_,rfl,p,_,_,_,rfl,rfl,ba.of (s1 _ _ L C),R _ _,(w:Int),rfl,by lia,by lia,?_⟩;rw[show((w:Int)).toNat=w by lia];have a3:d*w<=11*12:=RJ (by lia) b1
   refine cJ (lo:=0) (n:=w) (λa σ B=>∃(kvs':List (List Key×V))(g:Option V),σ=[some (.ref dd),some (.ref q),some (.ref p),some (.int (0+(d:Int))),g]/\Kp dd H B/\B dd=some (.dT kvs')/\DT kvs' (eN T r c w d a)/\kvs'.length<=kvs.length+(d*w+a))
    ⟨m,_,rfl,s1,l,b,by lia⟩ ?_ ?_
   ·rintro a σ H2 ha ⟨u,g,rfl,s2,j,o,G⟩;have v:=s2 _ _ I J;refine⟨_,rfl,_,rfl,q,_,_,_,rfl,rfl,ba.of v,R _ _,_,rfl,_,_,rfl,rfl,_,rfl,q,_,_,_,rfl,rfl,ba.of v,S _ _,_,rfl,_,_,rfl,rfl,(by show 2<=sizeLine;decide),λt Y=>?_⟩;have U:af H2 (upd H2 t (.tup [V.int ((r:Int)+(0+(d:Int))),V.int ((c:Int)+(0+(a:Int)))])):=af.put (af.refl _) Y
    have X:(upd H2 t (.tup [V.int ((r:Int)+(0+(d:Int))),V.int ((c:Int)+(0+(a:Int)))])) t=some (.tup (([N_ ((r+d:Nat):Int),N_ ((c+a:Nat):Int)]:List Key).map kV)):=by
     rw[ae];show some (HO.tup [_,_])=some (HO.tup [_,_]);rw[show((r+d:Nat):Int)=(r:Int)+(0+(d:Int))by lia,show((c+a:Nat):Int)=(c:Int)+(0+(a:Int))by lia];rfl
    dsimp only;generalize upd H2 t (.tup [V.int ((r:Int)+(0+(d:Int))),V.int ((c:Int)+(0+(a:Int)))])=H3 at *;have O:=U _ _ j;refine⟨dd,_,rfl,nv.t O X (small (by lia)),?_⟩;refine(show∃kvs' g,_ from⟨_,_,rfl,Kp.trans (Kp.trans s2 (Kp.of U)) Kp.store,ae,DT.put o (ud T r c w d a),?_⟩);have :=dz u ([N_ ((r+d:Nat):Int),N_ ((c+a:Nat):Int)]:List Key) (V.bl true)
    lia
   ·rintro σ H2 ⟨u,g,rfl,s2,j,o,G⟩;refine⟨u,_,_,rfl,s2,j,(by rw[<-xi];exact o),by rw[R_];exact vY⟩
  ·rintro σ H1 ⟨m,M,g,rfl,s1,l,b,D⟩;have a2:h*w<=12*12:=RJ b2 b1;rw[xn]at b;exact k m H1 s1 l b (by lia)
theorem tV:aw ["columns","spans","taken","places","span","place"] ZF (aj IY):=cD
theorem IV(F:aZ K "put_cells" "put_cells" IY f fd)(G1:av P w K mg base aK 2 f1 d1 ZD yy)(J1:Cq K mg d1 f1 ZD "first_place")(G2:av P w K mg base aK 1 f2 d2 ZE yt)(J2:Cq K mg d2 f2 ZE "take"):
  av P w K mg base aK 3 f fd ZF Gv:=by
 refine F.cI tV λcdv A outer s H vs Q E hr h=>?_
 ·obtain⟨a,sa,sps,cols,e,ha,hR,y,hc,hl,k⟩:=h;subst e;have a0:=hr.mono (j:=1) (by decide)
  refine⟨_,ah (aB (i:=2) tV.nd rfl (Ki rfl) CF)
   (ah (aB (i:=3) tV.nd rfl (Ki rfl) (bU ab))
   (ah (cx Np rfl (dr (pv 1)) (aV (i:=4) tV.nd rfl (Ki rfl))
    (ah (aB (i:=5) tV.nd rfl (Ki rfl) (pq G1 hr J1 (aa (pv 2) (aa (pv 0) (aa (pv 4) ab)))))
    (ah (cu (pq G2 a0 J2 (aa (pv 2) (aa (pv 5) (aa (pv 4) ab)))))
    (ai (cu (cw NJ Od Oc cR (pv 3) (aa (pv 5) ab)))))))
   (ai (au (pv 3))))),?_⟩
  refineλdd D=>?_;have s1:af H (upd H dd (.dT [])):=af.put (af.refl _) D;have h1:(upd H dd (.dT [])) dd=some (.dT []):=ae;generalize upd H dd (.dT [])=H1 at *;refine⟨aG (by simp),λg n=>?_⟩;have s2:af H1 (upd H1 g (.lst [])):=af.put (af.refl _) n;have h2:(upd H1 g (.lst [])) g=some (.lst []):=ae;have ndl:g≠dd:=B9 (aI h1 n);have m:H g=none:=same_none s1 n;generalize upd H1 g (.lst [])=H2 at *;have G:=af.trans s1 s2
  have Z:sa.length=sps.length:=by rw[hR.1,be]
  refine⟨_,rfl,a,rfl,⟨_,bf.of (G _ _ ha)⟩,ki (K:=K) (a:=a) (xs:=sa.map V.ref) (λi σ J=>∃(kvs:List (List Key×V))(pa:List B3)(N M:Option V),σ=[some (.int (cols:Int)),some (.ref a),some (.ref dd),some (.ref g),N,M]/\af H J/\J dd=some (.dT kvs)/\DT kvs (cE cols sps i).1/\kvs.length<=144*i/\J g=some (.lst (pa.map V.ref))/\bp J pa ((cE cols sps i).2.2.map zN))
   ⟨[],[],none,none,rfl,G,s2 _ _ h1,DT.nil,Nl _,h2,bp.nil⟩ (λi σ J _ Y=>by obtain⟨_,_,_,_,_,z,_⟩:=Y;exact bf.of (z _ _ ha)) ?_ ?_⟩
  ·rintro i x σ H3 hx ⟨kvs,pa,N,M,rfl,L,o,u,U,q,c⟩;obtain⟨p,r,rfl,ep,C,hp⟩:=hR.get hx;rw[B7]at C
   cases d:sps[i]? with
   |none=>rw[d]at C;cases C
   |some sp=>
    rw[d]at C
    cases C
    have hi:=bw d;obtain⟨q1,q2,q3⟩:=y sp (Do d)
    have eg:sps.getD i (1,1)=sp:=by rw[Nj,d];rfl
    have a4:=nO cols sps (λj=>by
     rw[Nj]
     cases ej:sps[j]? with
     |none=>show 1<=100;decide
     |some s'=>have :=(y s' (Do ej)).2.2;show s'.2<=100;exact cP) i
    refine⟨_,rfl,_,rfl,_,rfl,dd,p,kvs,_,(cE cols sps i).2.1,cols,sp.1,sp.2,rfl,o,u,mq cols sps i,by lia,L _ _ hp,q1,q2,cP,cP,λt H4 B b=>?_⟩
    have R:gx (cE cols sps i).1 (cE cols sps i).2.1 (cols-sp.1+1) sp.1 sp.2=mM cols sps i:=by unfold mM;rw[eg]
    rw[R]at b;have v:=B _ _ o;refine⟨_,rfl,_,rfl,_,rfl,dd,t,p,kvs,_,(mM cols sps i).1,(mM cols sps i).2,sp.1,sp.2,rfl,v,u,b,af.trans L B _ _ hp,by lia,q3,by lia,λT H5 O W S a3=>?_⟩
    have X:t≠dd:=λz=>by rw[z,v]at b;cases b
    have I:=O _ _ X b;have l:=O _ _ ndl (B _ _ q);have a1:bp H5 pa ((cE cols sps i).2.2.map zN):=EC (c.same B) O v;have S5:af H H5:=Kp.same O (af.trans L B) D
    have a2:pa.length=i:=by rw[c.1,be,eH]
    refine⟨_,rfl,.inl ⟨rfl,_,bf.of l⟩,_,rfl,g,_,_,rfl,rfl,l,small (by rw[be];lia),?_⟩;refine(show∃kvs pa N M,_ from⟨T,pa++[t],_,_,rfl,af.put S5 m,?_,?_,by lia,?_,?_⟩)
    ·rw[ak (B9 ndl)];exact W
    ·have e5:(cE cols sps (i+1)).1=cover (cE cols sps i).1 (mM cols sps i).1 (mM cols sps i).2 sp.1 sp.2:=by
      show cover _ _ _ (sps.getD i (1,1)).1 (sps.getD i (1,1)).2=_;unfold mM;rw[eg]
     rw[e5];exact S
    ·rw[ae,Da];rfl
    ·rw[lh,Da];exact bp.snoc (zT a1 l) (af.refl _) (by rw[ak (jV I l (by intro z;cases z))];exact I)
  ·rintro σ H3 ⟨kvs,pa,N,M,rfl,L,o,u,U,q,c⟩;rw[be,Z]at c;exact⟨_,rfl,k g pa H3 m L q c⟩
end
theorem qB(cols:Nat)(sps:List (Nat×Nat)):∀i,i<=sps.length->(cE cols sps i).2.1=((sps.take i).map (·.2)).sum
 |0,_=>rfl
 |i+1,hi=>by
  show(cE cols sps i).2.1+(sps.getD i (1,1)).2=_
  have e:sps[i]? =some (sps.getD i (1,1)):=by rw[Nj,B0 (by lia)];rfl
  rw[qB cols sps i (by lia),Pd,e,Da,Sv];simp
theorem qS{X:Cx}(f:X.K=K){x y:Str}{px py pt:Pos}{kk:Nat}(e:X.calm=true)(d:X.N.Nodup)(h0:X.N[0]? =some x)(h1:X.N[1]? =some y)(hx:X.env.scope.names.lookup x=some .local)(c:X.env.scope.names.lookup y=some .local)(ha:(PX [.Name x px,.Name y py] X.env).map (·.2)=[Q7 (.Name x px) X.env,Q7 (.Name y py) X.env]:=by rfl)(b:(PX [.Name y py] X.env).map (·.2)=[Q7 (.Name y py) X.env]:=by rfl)(hn:(PX [.Name x px,.Name y py] X.env).length=2:=by rfl)(a:(PX [.Name x px,.Name y py] X.env).findIdx? (·.1)=none:=by rfl):PG X (.Tuple [.Name x px,.Name y py] kk pt) (Je K):=by
 subst f;exact kR e (bN (aV d h0 (.inl hx) (.inr hx)) (bN (aV d h1 (.inl c) (.inr c)) iL (by rw[b];rfl)) (by rw[ha,b])) hn a
noncomputable def dS(p:Nat×Nat):D:= .tup [.int (p.1:Int),.int (p.2:Int)]
noncomputable def KS:V->B3
 | .ref a=>a
 |_=>0
theorem BH(h:At K H v (.tup (sps.map dS))):∃(a:B3)(sa:List B3),v= .ref a/\H a=some (.tup (sa.map V.ref))/\bp H sa (sps.map zN):=by
 cases h with
 | @tup a xs l h hl he=>
  rw[be]at hl
  have f:∀(j:Nat)(x:V),xs[j]? =some x->∃p,sps[j]? =some p/\x= .ref (KS x)/\H (KS x)=some (.tup (zN p)):=λj x ex=>by
   have n:j<sps.length:=by rw[<-hl];exact bw ex
   have ep:=B0 n;have hx:=he j x (dS sps[j]) ex (by rw[B7,ep];rfl);refine⟨_,ep,?_⟩
   cases hx with
   | @tup b ys s h2 i c=>
    refine⟨rfl,?_⟩
    match ys,i,h2,c with
    |[k,o],_,h2,c=>
     have m:=c 0 k _ rfl rfl;have d:=c 1 o _ rfl rfl
     cases m
     cases d
     exact h2
  refine⟨a,xs.map KS,rfl,?_,?_,λj p r d g=>?_⟩
  ·have e:(xs.map KS).map V.ref=xs:=by
    rw[NO];refine Q1 λj=>?_;rw[B7]
    cases ex:xs[j]? with
    |none=>rfl
    |some x=>
     obtain⟨_,_,e,_⟩:=f j x ex;show some (V.ref (KS x))=some x;rw[<-e]
   rw[e];exact h
  ·rw[be,be,hl]
  ·rw[B7]at d g
   cases ex:xs[j]? with
   |none=>rw[ex]at d;cases d
   |some x=>
    obtain⟨q,eq,_,e⟩:=f j x ex;rw[ex]at d;rw[eq]at g
    cases d
    cases g
    exact e
noncomputable def gN(l:List (Nat×Nat))(i:Nat):Nat×Nat:=l.getD i (1,1)
theorem xW{l:List (Nat×Nat)}(h:i<l.length):l[i]? =some (gN l i):=by
 unfold gN;rw[Nj,B0 h];rfl
inductive Bi(vs:List V)(H:Hp)(Q:VK):Prop
 |mk (a b:B3) (pa sa:List B3) (ps sps:List (Nat×Nat)) (c0:vs=[.ref a,.ref b]) (c1:H a=some (.lst (pa.map V.ref))) (c2:bp H pa (ps.map zN)) (c3:H b=some (.lst (sa.map V.ref))) (c4:bp H sa (sps.map zN)) (c5:ps.length=sps.length) (c6:sps.length<=100) (c7:∀(M:Int)(H':Hp),af H H'->(sps=[]->M=0)->(sps≠[]->(∃i,i<sps.length/\M=((gN ps i).1:Int)+((gN sps i).2:Int))/\∀i,i<sps.length->((gN ps i).1:Int)+((gN sps i).2:Int)<=M)->Q (.int M) H')
def xX:Sp:=λvs H Q _=>Bi vs H Q
inductive Bh(K:mo)(vs:List V)(H:Hp)(Q:VK):Prop
 |mk (v:V) (d0 d1 d2 w0 w1 w2 d4:D) (sps:List (Nat×Nat)) (c0:vs=[v]) (c1:At K H v (.tup [d0,d1,d2,.tup [w0,w1,w2,.tup (sps.map dS)],d4])) (c2:∀(l:B3)(sa:List B3)(H':Hp),H l=none->af H H'->H' l=some (.lst (sa.map V.ref))->bp H' sa (sps.map zN)->Q (.ref l) H')
def rS(K:mo):Sp:=λvs H Q _=>Bh K vs H Q
noncomputable def vG(sps:List (Nat×Nat)):Nat:=(sps.map (·.2)).sum
def G9(cols:Nat)(sps:List (Nat×Nat)):Prop:=(∀sp∈sps,0<sp.1/\sp.1<=cols/\sp.2<=12)/\cols<=12/\sps.length<=100
inductive wK(K:mo)(vs:List V)(H:Hp)(Q:VK):Prop
 |mk (v:V) (d0 d1 d2 w1 w2 d4:D) (cols:Nat) (sps:List (Nat×Nat)) (c0:vs=[v]) (c1:At K H v (.tup [d0,d1,d2,.tup [.int (cols:Int),w1,w2,.tup (sps.map dS)],d4])) (c2:G9 cols sps) (c3:∀(l:B3)(pa:List B3)(H':Hp),af H H'->H' l=some (.lst (pa.map V.ref))->bp H' pa ((cE cols sps sps.length).2.2.map zN)->Q (.ref l) H')
def qo(K:mo):Sp:=λvs H Q _=>wK K vs H Q
inductive vP(K:mo)(vs:List V)(H:Hp)(Q:VK):Prop
 |mk (v:V) (d0 d1 d2 w1 w2 d4:D) (cols:Nat) (sps:List (Nat×Nat)) (c0:vs=[v]) (c1:At K H v (.tup [d0,d1,d2,.tup [.int (cols:Int),w1,w2,.tup (sps.map dS)],d4])) (c2:G9 cols sps) (c3:∀(M:Int)(H':Hp),M<=(vG sps:Nat)->af H H'->Q (.int M) H')
def pT(K:mo):Sp:=λvs H Q _=>vP K vs H Q
theorem Cf{M:Int}(d:sps=[]->M=0)(g1:sps≠[]->(∃i,i<sps.length/\M=((gN (cE cols sps sps.length).2.2 i).1:Int)+((gN sps i).2:Int))/\∀i,i<sps.length->((gN (cE cols sps sps.length).2.2 i).1:Int)+((gN sps i).2:Int)<=M):M<=(vG sps:Nat):=by
 by_cases e:sps=[]
 ·rw[d e]
  lia
 ·obtain⟨⟨i,hi,b⟩,_⟩:=g1 e;have z:=C6 (cols:=cols) (sps:=sps) hi;have a:(cE cols sps sps.length).2.2[i]? =some (gN (cE cols sps sps.length).2.2 i):=xW (by rw[eH];exact hi);rw[z]at a;rw[<-Kf a]at b;have c:=(Eo cols sps i).row;rw[qB cols sps i MT]at c
  have st:((sps.take i).map (·.2)).sum+(gN sps i).2=((sps.take (i+1)).map (·.2)).sum:=by
   rw[Pd,xW hi,Da,Sv];simp
  have mono:((sps.take (i+1)).map (·.2)).sum<=vG sps:=by
   unfold vG
   conv=>rhs;rw[<-Qt (i+1) sps,Da,Sv]
   exact Lw
  lia
section
variable{w:Ox}{tk:Nat->Tok}{ad:Nat->B3}
noncomputable abbrev CG:List Str:=Zb
theorem Al:aw CG Zb (aj nZ):=cD
theorem vM(F:aZ K "spans_of" "spans_of" nZ f fd)(N:aO mg)(G1:av P w K mg base aK 1 f1 d1 Zb (xc K 3))(c:Cq K mg d1 f1 Zb "what_of"):av P w K mg base aK 2 f fd Zb (rS K):=by
 refine F.cI Al λcdv A outer s H vs Q E b h=>?_
 ·obtain⟨v,d0,d1,d2,w0,w1,w2,d4,sps,e,d,k⟩:=h;subst e;have a:=b.mono (j:=1) (by decide);refine⟨_,ai (au (aQ jA (by rfl) N.list Pz (aa (ay ax (pq G1 a c (aa (pv 0) ab)) ag (λ_ _=>rfl)) ab))),?_⟩
  try rw[bO]
  refine⟨_,rfl,v,_,_,rfl,d,rfl,λx hx=>?_⟩;obtain⟨p,xs,y,rfl,m,i,g⟩:=hx.part (j:=3) rfl;obtain⟨q,sa,rfl,f1,f2⟩:=BH g;refine⟨p,_,_,_,rfl,rfl,m,i,q,_,rfl,.inr (ba.of f1),λl hl=>?_⟩;have s1:af H (upd H l (.lst (sa.map V.ref))):=af.put (af.refl _) hl;exact k l sa _ hl s1 ae (f2.same s1)
noncomputable abbrev ox:List Str:=Zt
theorem ur:aw ox Zt (aj gQ):=cD
theorem oY:(["place","span","places","spans"]:List Str).Nodup:=by decide +kernel
theorem rO(F:aZ K "rows_taken" "rows_taken" gQ f fd)(N:aO mg):av P w K mg base aK 1 f fd Zt xX:=by
 refine F.cI ur λcdv A outer s H vs Q E L h=>?_
 ·obtain⟨a,b,pa,sa,ps,sps,e,ha,m,n,o,hl,hn,k⟩:=h;subst e;refine⟨_,ai (au (EU rfl (by rfl) N.max (aa (ou (k:=2) (N':=["place","span","places","spans"]) (jk (fs:=aj gQ) (N:=ox) rfl rfl (by decide +kernel)) rfl (Dn (by rfl) N.zip (aa (pv 0) (aa (pv 1) ab))) (λ_ _ _ _ _=>qS (K:=K) rfl rfl oY rfl rfl rfl rfl) (λ_ _ _ _ _=>bH) (λ_ _ _ _ _=>(aJ bz (ay (r:=DB K) ax (pv 0) ag (λ_ _=>rfl)) (ay (r:=DB K) ax (pv 1) ag (λ_ _=>rfl))))) ab) (EW ag Jd))),?_⟩
  try rw[bO]
  have u:pa.length=sps.length:=by rw[m.1,be,hl]
  have O:sa.length=sps.length:=by rw[o.1,be]
  refine⟨_,rfl,_,rfl,a,b,rfl,⟨_,bf.of ha⟩,⟨_,bf.of n⟩,?_⟩;refine zk (K:=K) (a:=a) (b:=b) (xs:=pa.map V.ref) (ys:=sa.map V.ref) (λ_=>true) (λi=>V.int (((gN ps i).1:Int)+((gN sps i).2:Int))) (bf.of ha) (bf.of n) (small (by rw[be,be];lia)) (λi x y H' G _ _ _ l=>l _ (af.refl _)) (λi x y H' G _ ex d s' l=>?_) λv H1 R s1 h1=>?_
  ·rw[B7]at ex d
   cases c:pa[i]? with
   |none=>rw[c]at ex;cases ex
   |some p=>
    cases g:sa[i]? with
    |none=>rw[g]at d;cases d
    |some q=>
     rw[c]at ex;rw[g]at d
     cases ex
     cases d
     have hi:i<sps.length:=by rw[<-u];exact bw c
     have B:H' p=some (.tup (zN (gN ps i))):=s' _ _ (m.2 i p _ c (by rw[B7,xW (by lia)];rfl));have C:H' q=some (.tup (zN (gN sps i))):=s' _ _ (o.2 i q _ g (by rw[B7,xW hi];rfl));exact⟨_,rfl,p,_,_,_,rfl,rfl,ba.of B,aN (j:=0) rfl,_,rfl,q,_,_,_,rfl,rfl,ba.of C,aN (j:=1) rfl,_,_,rfl,rfl,l _ (af.refl _)⟩
  ·have t:min (pa.map V.ref).length (sa.map V.ref).length=sps.length:=by rw[be,be];lia
   rw[t,List.filter_eq_self.mpr λ_ _=>rfl]at h1;refine⟨v,(Nz sps.length).map λi=>((gN ps i).1:Int)+((gN sps i).2:Int),0,rfl,rfl,bf.of (by rw[h1,NO];rfl),λM I D=>k M H1 s1 (λe=>I (by rw[e];rfl)) λe=>?_⟩
   obtain⟨g1,g2⟩:=D λz=>e (by
    have :=congrArg QG z;rw[be,Oy]at this
    exact NK this)
   obtain⟨i,hi,c⟩:=List.mem_map.mp g1;exact⟨⟨i,List.mem_range.mp hi,c.symm⟩,λj J=>g2 _ (Ow (f:=λi=>((gN ps i).1:Int)+((gN sps i).2:Int)) (List.mem_range.mpr J))⟩
noncomputable abbrev AQ:List Str:=Zb
theorem zi:aw AQ Zb (aj mO):=cD
theorem vJ(F:aZ K "cells_of" "cells_of" mO f fd)(N:aO mg)(G1:av P w K mg base aK 3 f1 d1 ZF Gv)(t:Cq K mg d1 f1 ZF "put_cells")(G2:av P w K mg base aK 1 f2 d2 Zb (xc K 3))(n:Cq K mg d2 f2 Zb "what_of")(r:av P w K mg base aK 2 f3 d3 Zb (rS K))(o:Cq K mg d3 f3 Zb "spans_of"):av P w K mg base aK 4 f fd Zb (qo K):=by
 refine F.cI zi λcdv A outer s H vs Q E c h=>?_
 ·obtain⟨v,d0,d1,d2,w1,w2,d4,cols,sps,e,i,d,k⟩:=h;subst e;have g:=c.mono (j:=1) (by decide);have a:=c.mono (j:=2) (by decide);have b:=c.mono (j:=3) (by decide);refine⟨_,ai (au (pq G1 b t (aa (ay ax (pq G2 g n (aa (pv 0) ab)) ag (λ_ _=>rfl)) (aa (pq r a o (aa (pv 0) ab)) ab)))),?_⟩
  try rw[bO]
  refine⟨_,rfl,v,_,_,rfl,i,rfl,λx hx=>?_⟩;obtain⟨p,xs,y,rfl,C,z,u⟩:=hx.part (j:=0) rfl
  cases u
  refine⟨p,_,_,_,rfl,rfl,C,z,_,rfl,v,_,_,_,_,_,_,_,sps,rfl,i,λl sa H1 hl s1 h1 q=>?_⟩;exact⟨l,sa,sps,cols,rfl,h1,q,d.1,d.2.1,d.2.2,λm pa H2 hm s2 h2 B=>k m pa H2 (af.trans s1 s2) h2 B⟩
noncomputable abbrev wd:List Str:=Zb
theorem sZ:aw wd Zb (aj js):=cD
theorem rx(F:aZ K "table_rows" "table_rows" js f fd)(N:aO mg)(G1:av P w K mg base aK 1 f1 d1 Zt xX)(t:Cq K mg d1 f1 Zt "rows_taken")(G2:av P w K mg base aK 4 f2 d2 Zb (qo K))(o:Cq K mg d2 f2 Zb "cells_of")(r:av P w K mg base aK 2 f3 d3 Zb (rS K))(p:Cq K mg d3 f3 Zb "spans_of"):av P w K mg base aK 5 f fd Zb (pT K):=by
 refine F.cI sZ λcdv A outer s H vs Q E b h=>?_
 ·obtain⟨v,d0,d1,d2,w1,w2,d4,cols,sps,e,i,g,k⟩:=h;subst e;have d:=b.mono (j:=1) (by decide);have a:=b.mono (j:=2) (by decide);have c:=b.mono (j:=4) (by decide);refine⟨_,ai (au (pq G1 d t (aa (pq G2 c o (aa (pv 0) ab)) (aa (pq r a p (aa (pv 0) ab)) ab)))),?_⟩
  try rw[bO]
  refine⟨_,rfl,v,_,_,_,_,_,_,cols,sps,rfl,i,g,λm pa H1 s1 h1 q=>?_⟩;refine⟨_,rfl,v,_,_,_,_,_,_,_,sps,rfl,i.same s1,λl sa H2 hl s2 h2 x=>?_⟩;refine⟨m,l,pa,sa,(cE cols sps sps.length).2.2,sps,rfl,s2 _ _ h1,q.same s2,h2,x,eH cols sps _,g.2.2,λM H3 u n g1=>?_⟩;exact k M H3 (Cf n g1) (af.trans s1 (af.trans s2 u))
end
noncomputable def sy(aX:List Str):List (Key×V):=aX.map λn=>(NV n,V.bl true)
theorem yj(aX:List Str):(sy aX).length=aX.length:=by unfold sy;rw[be]
theorem sr:∀(aX:List Str),(cv (sy aX) (.inr nm)).isSome=decide (nm∈aX)
 |[]=>rfl
 |n::l=>by
  show(cv ((NV n,V.bl true)::sy l) (.inr nm)).isSome=_;by_cases e:n=nm
  ·subst e;rw[cC rfl,decide_eq_true B6];rfl
  ·rw[ck (λz=>e (QZ z)),sr l];exact decide_eq_decide.mpr ⟨λz=>De _ z,λz=>(List.mem_cons.mp z).resolve_left (B9 e)⟩
theorem Mj{aX:List Str}(h:nm∉aX):putK (sy aX) (.inr nm) (.bl true)=sy (aX++[nm]):=by
 rw[ku (.bl true) (by
  have z:=sr (nm:=nm) aX;rw[decide_eq_false h]at z
  cases e:cv (sy aX) (.inr nm)with
  |none=>rfl
  |some v=>rw[e]at z;cases z)]
 unfold sy;rw[Da];rfl
def bV(K:mo)(H:Hp)(xs:List V)(ds:List D):Prop:=xs.length=ds.length/\∀(j:Nat)(x:V)(d:D),xs[j]? =some x->ds[j]? =some d->At K H x d
theorem At.LP{dN:B3}(k:Kp dN H H')(e:H dN=some (.lst xs))(c:H' dN=some (.lst ys))(h:At K H v d):At K H' v d:=by
 induction h with
 |non=>exact .non
 |bl b=>exact .bl b
 |int i=>exact .int i
 |str x hx=>exact .str x hx
 |tup h hl _ f=>exact .tup (k _ _ (λz=>by rw[z,e]at h;cases h) h) hl f
 | @oth a es h=>
  by_cases q:a=dN
  ·subst q;exact .oth c
  ·exact .oth (k _ _ q h)
theorem bV.nil:bV K H [] []:=⟨rfl,λj x d e=>nomatch e⟩
theorem bV.same{K:mo}{H H':Hp}{xs:List V}{ds:List D}(h:bV K H xs ds)(s:af H H'):bV K H' xs ds:=⟨h.1,λj x d a b=>(h.2 j x d a b).same s⟩
theorem bV.snoc{x:V}(h:bV K H xs ds)(hx:At K H x d):bV K H (xs++[x]) (ds++[d]):=by
 refine⟨by rw[B1,B1,h.1];rfl,λj y e a b=>?_⟩;by_cases q:j<xs.length
 ·rw[KF q]at a;rw[KF (by rw[<-h.1];exact q)]at b;exact h.2 j y e a b
 ·rw[GM (by lia)]at a;rw[GM (by rw[<-h.1];lia),<-h.1]at b
  have c:j-xs.length=0:=by
   have :=bw a;simp at this;exact vY
  rw[c]at a b
  cases a
  cases b
  exact hx
theorem bV.tup{K:mo}{H:Hp}{a:B3}{xs:List V}{ds:List D}(h:bV K H xs ds)(e:H a=some (.tup xs)):At K H (.ref a) (.tup ds):= .tup e h.1 h.2
theorem md{α:Type}{J:It}{l:List α}{tt:TT}{Q:VK}(inj:α->V)(f:α->D)(q:gp J H (l.map inj))(hn:l.length<sizeLine)(B:∀(x:α)(H':Hp)(k:Bool->Hp->Prop),x∈l->af H H'->(∀a,af H' a->k true a)->tt (some (inj x)::σ) H' k)(he:∀(x:α)(H':Hp)(k:VK),x∈l->af H H'->(∀v a,af H' a->At K a v (f x)->k v a)->te (some (inj x)::σ) H' k)(hd:∀(c:B3)(xs:List V)(H':Hp),H c=none->af H H'->H' c=some (.lst xs)->bV K H' xs (l.map f)->Q (.ref c) H'):fk J H σ tt te Q:=by
 intro c r;refine⟨λi m H'=>m=l.length-i/\i<=l.length/\af H H'/\∃xs:List V,H' c=some (.lst xs)/\bV K H' xs ((l.take i).map f),⟨_,rfl,Nl _,af.mV (af.refl H) r,[],ae,.nil⟩,?_⟩;rintro i m H' ⟨rfl,hi,s1,xs,hl,n⟩;by_cases b:i<l.length
 ·refine .inr ⟨q.1 i H' s1 (by rw[be];exact b),λx H2 y=>?_⟩;obtain⟨e,s⟩:=q.2.2 i x H' H2 s1 y;subst e;have ex:l[i]? =some l[i]:=B0 b;rw[B7,ex]at s
  cases s
  have hm:=Do ex;generalize l[i]=x at *;refine B x _ _ hm s1 λH3 t=>eY (he x _ _ hm (af.trans s1 t) λv H4 o w=>?_);have p:=af.trans t o;have g:=p _ _ hl;have h:=n.same p;have u:Kp c H4 (upd H4 c (.lst (xs++[v]))):=Kp.store;refine⟨_,g,?_,_,OH _ _ b,rfl,b,af.mV (af.trans s1 p) r,xs++[v],ae,?_⟩
  ·rw[n.1,be,OT]
   lia
  ·rw[Pd,ex,Da];exact bV.snoc ⟨h.1,λj x d A z=>(h.2 j x d A z).LP u g ae⟩ (w.LP u g ae)
 ·have e:i=l.length:=by lia
  have :=q.2.1 H' s1;rw[be]at this;rw[e];refine .inl ⟨this,?_⟩;rw[e,O_]at n;exact hd c xs H' r s1 hl n
def Ev(K:mo)(σ:St)(H0:Hp)(te:TE)(d:D):Prop:=∀(H:Hp)(Q:VK),af H0 H->(∀v H',af H H'->At K H' v d->Q v H')->te σ H Q
def LF(K:mo)(σ:St)(H0:Hp)(ta:TA)(ds:List D):Prop:=∀(H:Hp)(Q:List V->Hp->Prop),af H0 H->(∀xs H',af H H'->bV K H' xs ds->Q xs H')->ta σ H Q
def Mb(K:mo)(σ:St)(H0:Hp)(te:TE)(ds:List D):Prop:=∀(H:Hp)(Q:VK),af H0 H->(∀l xs H',af H H'->H' l=some (.lst xs)->bV K H' xs ds->Q (.ref l) H')->te σ H Q
section
variable{H0:Hp}{e:D}{tb tx tn:TE}{tl:TA}{E:XK}{m n:Int}{x y:Str}
theorem bV.cons{H:Hp}{v:V}{xs:List V}{d:D}{ds:List D}(h:At K H v d)(g:bV K H xs ds):bV K H (v::xs) (d::ds):=by
 refine⟨by rw[FB,FB,g.1],λj y e a b=>?_⟩
 cases j with
 |zero=>cases a;cases b;exact h
 |succ j=>exact g.2 j y e a b
theorem bV.app(h:bV K H xs ds)(g:bV K H ys es):bV K H (xs++ys) (ds++es):=by
 refine⟨by rw[B1,B1,h.1,g.1],λj y e a b=>?_⟩;by_cases q:j<xs.length
 ·rw[KF q]at a;rw[KF (by rw[<-h.1];exact q)]at b;exact h.2 j y e a b
 ·rw[GM (by lia)]at a;rw[GM (by rw[<-h.1];lia),<-h.1]at b;exact g.2 _ y e a b
theorem At.tupS(h:At K H v (.tup l)):∃a xs,v= .ref a/\H a=some (.tup xs)/\bV K H xs l:=by
 cases h with
 | @tup a xs l h hl he=>exact⟨a,xs,rfl,h,hl,he⟩
theorem wz(h:σ[i]? =some (some v))(a:At K H0 v d):Ev K σ H0 (kh i) d:=λH Q s k=>⟨v,h,k v H (af.refl _) (a.same s)⟩
theorem eW:LF K σ H0 fu []:=λH Q _ k=>k _ H (af.refl _) bV.nil
theorem bo(h:Ev K σ H0 te d)(g:LF K σ H0 tl ds):LF K σ H0 (cG te tl) (d::ds):=λH Q s k=>h H _ s λv H1 s1 a=>g H1 _ (af.trans s s1) λxs H2 s2 ha=>k _ H2 (af.trans s1 s2) (bV.cons (a.same s2) ha)
theorem gJ(h:LF K σ H0 tl ds)(hl:ds.length<=100000):Ev K σ H0 (Lj tl) (.tup ds):=λH Q s k=>h H _ s λxs H1 s1 ha=>⟨aG (by rw[ha.1];exact hl),λp a=>k _ _ (af.trans s1 (af.put (af.refl _) a)) (bV.tup (ha.same (af.put (af.refl _) a)) ae)⟩
theorem ES(h:σ[i]? =some (some (.ref a)))(hl:H0 a=some (.lst xs))(ha:bV K H0 xs ds):Mb K σ H0 (kh i) ds:=λH Q s k=>⟨_,h,k a xs H (af.refl _) (s _ _ hl) (ha.same s)⟩
theorem Iu(h:Ev K σ H0 ta (.tup ds))(g:Ev K σ H0 tb (.tup es))(hl:ds.length+es.length<=100000):Ev K σ H0 (Ad (GA K) ta tb) (.tup (ds++es)):=λH Q s k=>h H _ s λv H1 s1 c=>g H1 _ (af.trans s s1) λu H2 s2 d=>by
 obtain⟨a,xs,rfl,ha,hA⟩:=(c.same s2).tupS;obtain⟨b,ys,rfl,i,hB⟩:=d.tupS;refine⟨a,b,xs,ys,rfl,rfl,ba.of ha,ba.of i,aG (by rw[hA.1,hB.1];exact hl),λe=>?_,λ_ e=>?_,λp f=>k _ _ (af.trans s1 (af.trans s2 (af.put (af.refl _) f))) (bV.tup ((hA.app hB).same (af.put (af.refl _) f)) ae)⟩
 ·subst e;have :ds=[]:=NK hA.1.symm;subst this;exact k _ H2 (af.trans s1 s2) d
 ·subst e;have :es=[]:=NK hB.1.symm;subst this;rw[Dk]at k;exact k _ H2 (af.trans s1 s2) (c.same s2)
theorem iv(h:Mb K σ H0 te l):Ev K σ H0 (CT (qyT K) (cG te fu)) (.tup l):=λH Q s k=>h H _ s λa xs H1 s1 ha hA=>
 ⟨a,xs,rfl,.inl ⟨bf.of ha,λp b=>k _ _ (af.trans s1 (af.put (af.refl _) b)) (bV.tup (hA.same (af.put (af.refl _) b)) ae)⟩⟩
theorem Ev.ret(h:Ev K σ H te d)(k:∀v H',af H H'->At K H' v d->D0.rt v H'):EA te D0 σ H:=h H _ (af.refl _) k
theorem Ev.set(h:Ev K σ H te d)(k:∀v H',af H H'->At K H' v d->D0.nx (σ.set i (some v)) H'):DM te (ix i) D0 σ H:=h H _ (af.refl _) k
end
end B11
namespace B11P
open PySem L2 S2 DW
structure Own where
 w0:Int
 w1:Int
 h0:Int
 h1:Int
 gr:Int
 sh:Int
 rk:Int
 al:Int
inductive aY where
 |leaf (a b:Int)
 |lined (k:Nat) (g:Int) (al sd:Str)
 |table (c g:Int) (sd:Str) (sps:List (Int×Int))
 |words (ws:List (List Str)) (j:Int)
 |flow (sds:List Str) (ws:List (List Str)) (j:Int)
 |over (ps:List ((Str×Int)×(Str×Int)))
noncomputable def aY.kd:aY->Str
 | .leaf _ _=>"leaf"
 | .lined 0 _ _ _=>"row"
 | .lined 1 _ _ _=>"column"
 | .lined _ _ _ _=>"wrap"
 | .table _ _ _ _=>"table"
 | .words _ _=>"words"
 | .flow _ _ _=>"flow"
 | .over _=>"over"
noncomputable abbrev bu:List (Str×Str):=[("wide","0..1000000"),("high","0..1000000"),("grow","0"),("shrink","1"),("rank","0"),("alike","0"),("wish","0,0"),("columns","1"),("gap","0"),("align","start"),("side","left"),("joint","50"),("span","1,1"),("float","left"),("at","start,0,start,0"),("text","")]
noncomputable def two(s:Str)(a b:Int):Str:=nS a++(s++nS b)
noncomputable def iW(ws:List (List Str)):Str:=NA " " (ws.map (NA "|"))
noncomputable def four(p:(Str×Int)×(Str×Int)):Str:=p.1.1++(","++(nS p.1.2++(","++(p.2.1++(","++nS p.2.2)))))
noncomputable def cB(o:Own):List (Str×Str):=[("wide",two ".." o.w0 o.w1),("high",two ".." o.h0 o.h1),("grow",nS o.gr),("shrink",nS o.sh),("rank",nS o.rk),("alike",nS o.al)]
noncomputable def bt:aY->List (Str×Str)
 | .leaf a b=>[("wish",two "," a b)]
 | .lined _ g al sd=>[("gap",nS g),("align",al),("side",sd)]
 | .table c g sd _=>[("columns",nS c),("gap",nS g),("side",sd)]
 | .words ws j=>[("text",iW ws),("joint",nS j)]
 | .flow _ ws j=>[("text",iW ws),("joint",nS j)]
 | .over _=>[]
noncomputable def bD:aY->Nat->List (Str×Str)
 | .table _ _ _ sps,i=>[("span",two "," (sps.getD i (1,1)).1 (sps.getD i (1,1)).2)]
 | .flow sds _ _,i=>[("float",sds.getD i "left")]
 | .over ps,i+1=>[("at",four (ps.getD i (("",0),("",0))))]
 |_,_=>[]
noncomputable def lk(ps:List (Str×Str))(w:Str):Option Str:=(ps.find? λp=>decide (p.1=w)).map (·.2)
noncomputable def pick(ps:List (Str×Str))(p:Str×Str):List Str:=if(lk ps p.1).getD p.2=p.2 then[]else[(p.1++"=")++(lk ps p.1).getD p.2]
noncomputable def rW(c:Str)(a b:Int):List Str:=if(a,b)=((0:Int),(1000000:Int))then[]else[(((c++"=")++nS a)++"..")++nS b]
noncomputable def nW(b:Str)(a p:Int):List Str:=if a=p then[]else[(b++"=")++nS a]
noncomputable def Dh(o:Own):List Str:=rW "wide" o.w0 o.w1++(rW "high" o.h0 o.h1++(nW "grow" o.gr 0++(nW "shrink" o.sh 1++(nW "rank" o.rk 0++nW "alike" o.al 0))))
noncomputable def gW(g:Int):List Str:=if g=0 then[]else["gap="++nS g]
noncomputable def aW(al:Str):List Str:=if al="start"then[]else["align="++al]
noncomputable def sW(sd:Str):List Str:=if sd="left"then[]else["side="++sd]
noncomputable def jW(j:Int):List Str:=if j=50 then[]else["joint="++nS j]
noncomputable def g_:aY->List Str
 | .leaf a b=>if(a,b)=((0:Int),(0:Int))then[]else[(("wish="++nS a)++",")++nS b]
 | .lined _ g al sd=>gW g++(aW al++sW sd)
 | .table c g sd _=>(if c=1 then[]else["columns="++nS c])++(gW g++sW sd)
 | .words _ j=>jW j
 | .flow _ _ j=>jW j
 | .over _=>[]
noncomputable def zE:aY->Nat->List Str
 | .table _ _ _ sps,i=>if sps.getD i (1,1)=(1,1)then[]else[(("span="++nS (sps.getD i (1,1)).1)++",")++nS (sps.getD i (1,1)).2]
 | .flow sds _ _,i=>if sds.getD i "left"="left"then[]else["float=right"]
 | .over ps,i+1=>if ps.getD i (("",0),("",0))=(((("start":Str),(0:Int)),(("start":Str),(0:Int))):(Str×Int)×(Str×Int))then[]else
   [(((((("at="++(ps.getD i (("",0),("",0))).1.1)++",")++nS (ps.getD i (("",0),("",0))).1.2)++",")++(ps.getD i (("",0),("",0))).2.1)++",")++nS (ps.getD i (("",0),("",0))).2.2]
 |_,_=>[]
noncomputable def Jn:aY->List Str
 | .words ws _=>if ws=[]then[]else["text="++iW ws]
 | .flow _ ws _=>if ws=[]then[]else["text="++iW ws]
 |_=>[]
def gF(ws:List (List Str)):Prop:=ws.length<=3/\∀w∈ws,1<=w.length/\w.length<=3/\∀x∈w,1<=x.length/\x.length<=4
def bG(i:Int):Prop:=i.natAbs<1000000000
def il(p:Str×Int):Prop:=44∉p.1.cps.toList/\p.1.length<=10/\bG p.2
def aY.Good:aY->Prop
 | .leaf a b=>bG a/\bG b
 | .lined _ g al sd=>bG g/\al.length<=10/\sd.length<=10
 | .table c g sd sps=>bG c/\bG g/\sd.length<=10/\∀p∈sps,bG p.1/\bG p.2
 | .words ws j=>gF ws/\bG j
 | .flow sds ws j=>(∀s∈sds,s="left"∨s="right")/\gF ws/\bG j
 | .over ps=>∀p∈ps,il p.1/\il p.2
def Own.Good(o:Own):Prop:=bG o.w0/\bG o.w1/\bG o.h0/\bG o.h1/\bG o.gr/\bG o.sh/\bG o.rk/\bG o.al
theorem gE(a b:List (Str×Str))(w:Str):lk (a++b) w=(lk a w).or (lk b w):=by
 unfold lk;rw[U0]
 cases a.find? λp=>decide (p.1=w)<;>rfl
theorem vm(ps:List (Str×Str))(w:Str):cv (ps.map λp=>(NV p.1,V.str p.2)) (NV w:Key)=(lk ps w).map V.str:=by
 induction ps with
 |nil=>rfl
 |cons p r a=>
  unfold lk;by_cases e:p.1=w
  ·rw[Nq,cC (by rw[e]),Rt (by simpa using e)];rfl
  ·rw[Nq,ck (λz=>e (QZ z)),T4 (by simpa using e)];exact a
theorem dd:("..":Str).cps.toList=46::[46]:=by decide +kernel
theorem cm:(",":Str).cps.toList=44::[]:=by decide +kernel
theorem w6:("0..1000000":Str)=two ".." 0 1000000:=by decide +kernel
theorem M3:("0,0":Str)=two "," 0 0:=by decide +kernel
theorem MO:("1,1":Str)=two "," 1 1:=by decide +kernel
theorem n0:("0":Str)=nS 0:=by decide +kernel
theorem n1:("1":Str)=nS 1:=by decide +kernel
theorem Mv:("50":Str)=nS 50:=by decide +kernel
variable{a b g v:Int}{c i n:Nat}{s x y al sd r:Str}{ps:List (Str×Str)}{ws:List (List Str)}{p:(Str×Int)×(Str×Int)}{eh wh:aY}{H1 H2 H H':Hp}{l f f1 aL aP f2 fK fW f3:B3}{o:HO}{as:List B3}{K:mo}{P:Og}{base:ON}{fd d1 d2 dW d3:O4}{mg:Str->Option B5}{w:Ox}{C:Str×Str->Prop}{q:Str×Str}{ts:List Str}{xs ys:List V}{Q:VK}{σ:St}
theorem fH{t:List Nat}(h:s.cps.toList=c::t)(f:c<45∨(45<c/\c<48)∨57<c){a' b':Int}:two s a b=two s a' b'↔(a,b)=(a',b'):=
 ⟨λe=>by obtain⟨h1,h2⟩:=Em h f e;rw[h1,h2],λe=>by injection e with d g;rw[d,g]⟩
theorem gy:nS a=nS b↔a=b:=⟨dg,λe=>by rw[e]⟩
theorem bh{p:Str×Str}{t:Str}(h:lk ps p.1=some t):pick ps p=if t=p.2 then[]else[(p.1++"=")++t]:=by unfold pick;rw[h];rfl
theorem aE{p:Str×Str}(h:lk ps p.1=none):pick ps p=[]:=by unfold pick;rw[h];exact if_pos rfl
theorem eO{α:Type}{a b:Prop}[Decidable a][Decidable b](h:a↔b){x y d:α}(e:y=d):(if a then x else y)=(if b then x else d):=by
 subst e;by_cases c:b
 ·rw[if_pos c,if_pos (h.mpr c)]
 ·rw[if_neg c,if_neg (λz=>c (h.mp z))]
theorem CW(o:Own):lk (cB o) "wide"=some (two ".." o.w0 o.w1)/\lk (cB o) "high"=some (two ".." o.h0 o.h1)/\lk (cB o) "grow"=some (nS o.gr)/\lk (cB o) "shrink"=some (nS o.sh)/\lk (cB o) "rank"=some (nS o.rk)/\lk (cB o) "alike"=some (nS o.al):=
 ⟨by kernel_rfl,by kernel_rfl,by kernel_rfl,by kernel_rfl,by kernel_rfl,by kernel_rfl⟩
theorem vy(o:Own):∀w∈(ZG:List Str),lk (cB o) w=none:=by
 have k:∀ws:List Str,(ws.all λw=>decide (w∉(["wide","high","grow","shrink","rank","alike"]:List Str)))=true->∀w∈ws,lk (cB o) w=none:=λws h w a=>by
  have h1:=of_decide_eq_true (List.all_eq_true.mp h w a);unfold lk;rw[List.find?_eq_none.mpr]
  ·rfl
  ·intro p b e;refine h1 ?_;rw[<-of_decide_eq_true e];exact Ow (f:=(·.1)) b
 exact k _ (by decide +kernel)
theorem mY(wh:aY)(i:Nat):∀w∈(Zk:List Str),lk (bD wh i) w=none:=by
 have k:∀(ps:List (Str×Str)),(∀p∈ps,p.1="span"∨p.1="float"∨p.1="at")->∀ws:List Str,(ws.all λw=>decide (w≠"span"/\w≠"float"/\w≠"at"))=true->∀w∈ws,lk ps w=none:=λps a ws h w c=>by
  obtain⟨h1,h2,d⟩:=of_decide_eq_true (List.all_eq_true.mp h w c);unfold lk;rw[List.find?_eq_none.mpr]
  ·rfl
  ·intro p b e;have e:=of_decide_eq_true e
   rcases a p b with z|z|z<;>rw[z]at e
   ·exact h1 e.symm
   ·exact h2 e.symm
   ·exact d e.symm
 refine k _ (λp a=>?_) _ (by decide +kernel);unfold bD at a
 split at a
 ·rw[List.mem_singleton.mp a];exact .inl rfl
 ·rw[List.mem_singleton.mp a];exact .inr (.inl rfl)
 ·rw[List.mem_singleton.mp a];exact .inr (.inr rfl)
 ·cases a
theorem ny(wh:aY):∀w∈(Zo:List Str),lk (bt wh) w=none:=by
 have k:∀(ps:List (Str×Str)),(∀p∈ps,p.1∈(Zk:List Str))->∀ws:List Str,(ws.all λw=>decide (w∉(Zk:List Str)))=true->∀w∈ws,lk ps w=none:=λps a ws h w c=>by
  have h1:=of_decide_eq_true (List.all_eq_true.mp h w c);unfold lk;rw[List.find?_eq_none.mpr]
  ·rfl
  ·intro p b e;refine h1 ?_;rw[<-of_decide_eq_true e];exact a p b
 refine k _ (λp a=>?_) _ (by decide +kernel)
 cases wh<;>simp only[bt,NH,Nt,or_false]at a<;>simp only[NH,Nt,or_false]
 ·rw[a];simp
 ·rcases a with z|z|z<;>rw[z]<;>simp
 ·rcases a with z|z|z<;>rw[z]<;>simp
 ·rcases a with z|z<;>rw[z]<;>simp
 ·rcases a with z|z<;>rw[z]<;>simp
theorem AH{o:Own}{b:List (Str×Str)}{w t:Str}(h:lk (cB o) w=some t):lk (cB o++b) w=some t:=by rw[gE,h];rfl
theorem MF{o:Own}{b c:List (Str×Str)}{w:Str}{t:Option Str}(h:lk (cB o) w=none)(h2:lk c w=none)(a:lk b w=t):lk (cB o++(b++c)) w=t:=by
 rw[gE,h,gE,h2,a]
 cases t<;>rfl
theorem MD{o:Own}{b c:List (Str×Str)}{w:Str}{t:Option Str}(h:lk (cB o) w=none)(h2:lk b w=none)(a:lk c w=t):lk (cB o++(b++c)) w=t:=by
 rw[gE,h,gE,h2,a];rfl
theorem vF(h:1<=x.length):x≠"":=λe=>by
 rw[e]at h;exact absurd h (by decide +kernel)
theorem sS(s:Str):∀{ys:List Str},ys≠[]->(∀y∈ys,1<=y.length)->1<=(NA s ys).length
 |[],h,_=>absurd rfl h
 |[x],_,h=>h x B6
 |x::y::r,_,h=>by
  rw[yF,GE];have :=h x B6
  lia
theorem yG(h:gF ws):iW ws=""↔ws=[]:=by
 constructor
 ·intro e
  cases ws with
  |nil=>rfl
  |cons w r=>
   refine absurd e (vF (sS _ (by simp) λy b=>?_));obtain⟨v,a,rfl⟩:=List.mem_map.mp b;obtain⟨h1,_,c⟩:=h.2 v a;exact sS _ (λz=>by rw[z]at h1;exact absurd h1 (by decide)) λx hx=>(c x hx).1
 ·intro e;rw[e];decide +kernel
theorem CU(h1:il p.1)(h2:il p.2):four p="start,0,start,0"↔p=(((("start":Str),(0:Int)),(("start":Str),(0:Int))):(Str×Int)×(Str×Int)):=by
 have g:("start,0,start,0":Str)=four ((("start":Str),(0:Int)),(("start":Str),(0:Int))):=by decide +kernel
 have a:44∉("start":Str).cps.toList:=by decide +kernel
 constructor
 ·intro e;rw[g]at e;unfold four at e;obtain⟨c,e⟩:=cut_str h1.1 a cm e;obtain⟨d,e⟩:=cut_str (kn (by decide) _) (kn (by decide) _) cm e;obtain⟨b,f⟩:=cut_str h2.1 a cm e;obtain⟨⟨s1,h⟩,s2,i⟩:=p;dsimp only at c d b f;rw[c,dg d,b,dg f]
 ·intro e;rw[e,g]
theorem HY(o:Own)(f:wh.Good)(he:eh.Good):bu.flatMap (pick (cB o++(bt wh++bD eh i)))=Dh o++(g_ wh++(zE eh i++Jn wh)):=by
 have H:=vy o;have pn:=mY eh i;have R:=ny wh;obtain⟨S,T,o3,Q,U,L⟩:=CW o
 have x:(46:Nat)<45∨(45<46/\46<48)∨57<46:=by decide
 have u:(44:Nat)<45∨(45<44/\44<48)∨57<44:=by decide
 have X:([("wide","0..1000000"),("high","0..1000000"),("grow","0"),("shrink","1"),("rank","0"),("alike","0")]:List (Str×Str)).flatMap (pick (cB o++(bt wh++bD eh i)))=Dh o:=by
  simp only[Ob,Pw,Dk];rw[bh (p:=("wide",_)) (AH S),bh (p:=("high",_)) (AH T),bh (p:=("grow",_)) (AH o3),bh (p:=("shrink",_)) (AH Q),bh (p:=("rank",_)) (AH U),bh (p:=("alike",_)) (AH L)];unfold Dh rW nW;dsimp only;rw[w6,n0,n1];refine congr (congrArg _ (eO (fH dd x) ?_)) (congr (congrArg _ (eO (fH dd x) ?_)) (congr (congrArg _ (eO gy rfl)) (congr (congrArg _ (eO gy rfl)) (congr (congrArg _ (eO gy rfl)) (eO gy rfl)))))
  ·unfold two;simp only[fZ]
  ·unfold two;simp only[fZ]
 have sub:∀w∈(Zk:List Str),w∈(ZG:List Str):=by decide +kernel
 have v:∀w∈(Zo:List Str),w∈(ZG:List Str):=by decide +kernel
 have eo:∀w∈(Zk:List Str),∀t,lk (bt wh) w=t->lk (cB o++(bt wh++bD eh i)) w=t:=λw f t D=>MF (H w (sub w f)) (pn w f) D;have vd:∀w∈(Zo:List Str),∀t,lk (bD eh i) w=t->lk (cB o++(bt wh++bD eh i)) w=t:=λw f t D=>MD (H w (v w f)) (R w f) D
 have r:("wish":Str)∈(Zk:List Str):=by decide +kernel
 have k:("columns":Str)∈(Zk:List Str):=by decide +kernel
 have s:("gap":Str)∈(Zk:List Str):=by decide +kernel
 have l:("align":Str)∈(Zk:List Str):=by decide +kernel
 have h:("side":Str)∈(Zk:List Str):=by decide +kernel
 have m:("joint":Str)∈(Zk:List Str):=by decide +kernel
 have q:("text":Str)∈(Zk:List Str):=by decide +kernel
 have O:("wish":Str)++"="="wish=":=by decide +kernel
 have k2:("columns":Str)++"="="columns=":=by decide +kernel
 have G:("gap":Str)++"="="gap=":=by decide +kernel
 have Z:("align":Str)++"="="align=":=by decide +kernel
 have K:("side":Str)++"="="side=":=by decide +kernel
 have J:("joint":Str)++"="="joint=":=by decide +kernel
 have I:("text":Str)++"="="text=":=by decide +kernel
 have P:("span":Str)++"="="span=":=by decide +kernel
 have Y:("float":Str)++"="="float=":=by decide +kernel
 have C:("at":Str)++"="="at=":=by decide +kernel
 have V:([("wish","0,0"),("columns","1"),("gap","0"),("align","start"),("side","left"),("joint","50")]:List (Str×Str)).flatMap (pick (cB o++(bt wh++bD eh i)))=g_ wh:=by
  simp only[Ob,Pw,Dk]
  cases wh with
  |leaf a b=>
   rw[bh (p:=("wish",_)) (eo _ r (some (two "," a b)) (by kernel_rfl)),aE (p:=("columns",_)) (eo _ k none (by kernel_rfl)),aE (p:=("gap",_)) (eo _ s none (by kernel_rfl)),aE (p:=("align",_)) (eo _ l none (by kernel_rfl)),aE (p:=("side",_)) (eo _ h none (by kernel_rfl)),aE (p:=("joint",_)) (eo _ m none (by kernel_rfl))];simp only[Dk];unfold g_;rw[M3,O];exact eO (fH cm u) (by unfold two;simp only[fZ])
  |lined n g al sd=>
   rw[aE (p:=("wish",_)) (eo _ r none (by kernel_rfl)),aE (p:=("columns",_)) (eo _ k none (by kernel_rfl)),bh (p:=("gap",_)) (eo _ s (some (nS g)) (by kernel_rfl)),bh (p:=("align",_)) (eo _ l (some al) (by kernel_rfl)),bh (p:=("side",_)) (eo _ h (some sd) (by kernel_rfl)),aE (p:=("joint",_)) (eo _ m none (by kernel_rfl))];simp only[Dk,PJ];unfold g_ gW aW sW;rw[G,Z,K];dsimp only;rw[n0];exact congr (congrArg _ (eO gy rfl)) rfl
  |table c g sd sps=>
   rw[aE (p:=("wish",_)) (eo _ r none (by kernel_rfl)),bh (p:=("columns",_)) (eo _ k (some (nS c)) (by kernel_rfl)),bh (p:=("gap",_)) (eo _ s (some (nS g)) (by kernel_rfl)),aE (p:=("align",_)) (eo _ l none (by kernel_rfl)),bh (p:=("side",_)) (eo _ h (some sd) (by kernel_rfl)),aE (p:=("joint",_)) (eo _ m none (by kernel_rfl))];simp only[Dk,PJ];unfold g_ gW sW;rw[k2,G,K];dsimp only;rw[n0,n1];exact congr (congrArg _ (eO gy rfl)) (congr (congrArg _ (eO gy rfl)) rfl)
  |words ws j=>
   rw[aE (p:=("wish",_)) (eo _ r none (by kernel_rfl)),aE (p:=("columns",_)) (eo _ k none (by kernel_rfl)),aE (p:=("gap",_)) (eo _ s none (by kernel_rfl)),aE (p:=("align",_)) (eo _ l none (by kernel_rfl)),aE (p:=("side",_)) (eo _ h none (by kernel_rfl)),bh (p:=("joint",_)) (eo _ m (some (nS j)) (by kernel_rfl))];simp only[PJ];unfold g_ jW;rw[J];dsimp only;rw[Mv];exact eO gy rfl
  |flow sds ws j=>
   rw[aE (p:=("wish",_)) (eo _ r none (by kernel_rfl)),aE (p:=("columns",_)) (eo _ k none (by kernel_rfl)),aE (p:=("gap",_)) (eo _ s none (by kernel_rfl)),aE (p:=("align",_)) (eo _ l none (by kernel_rfl)),aE (p:=("side",_)) (eo _ h none (by kernel_rfl)),bh (p:=("joint",_)) (eo _ m (some (nS j)) (by kernel_rfl))];simp only[PJ];unfold g_ jW;rw[J];dsimp only;rw[Mv];exact eO gy rfl
  |over ps=>
   rw[aE (p:=("wish",_)) (eo _ r none rfl),aE (p:=("columns",_)) (eo _ k none rfl),aE (p:=("gap",_)) (eo _ s none rfl),aE (p:=("align",_)) (eo _ l none rfl),aE (p:=("side",_)) (eo _ h none rfl),aE (p:=("joint",_)) (eo _ m none rfl)];rfl
 have y:("span":Str)∈(Zo:List Str):=by decide +kernel
 have B:("float":Str)∈(Zo:List Str):=by decide +kernel
 have A:("at":Str)∈(Zo:List Str):=by decide +kernel
 have d:bD eh i=[]->zE eh i=[]->([("span","1,1"),("float","left"),("at","start,0,start,0")]:List (Str×Str)).flatMap (pick (cB o++(bt wh++bD eh i)))=zE eh i:=λE W=>by
  simp only[Ob,Pw,Dk];rw[aE (p:=("span",_)) (vd _ y none (by rw[E];rfl)),aE (p:=("float",_)) (vd _ B none (by rw[E];rfl)),aE (p:=("at",_)) (vd _ A none (by rw[E];rfl)),W];rfl
 have N:([("span","1,1"),("float","left"),("at","start,0,start,0")]:List (Str×Str)).flatMap (pick (cB o++(bt wh++bD eh i)))=zE eh i:=by
  cases eh with
  |leaf a b=>exact d rfl rfl
  |lined n g al sd=>exact d rfl rfl
  |words ws j=>exact d rfl rfl
  |table c g sd sps=>
   simp only[Ob,Pw,Dk];rw[bh (p:=("span",_)) (vd _ y (some (two "," (sps.getD i (1,1)).1 (sps.getD i (1,1)).2)) (by kernel_rfl)),aE (p:=("float",_)) (vd _ B none (by kernel_rfl)),aE (p:=("at",_)) (vd _ A none (by kernel_rfl))];simp only[Dk];unfold zE;rw[MO,P];exact eO (fH cm u) (by unfold two;simp only[fZ])
  |flow sds ws j=>
   simp only[Ob,Pw,Dk];rw[aE (p:=("span",_)) (vd _ y none (by kernel_rfl)),bh (p:=("float",_)) (vd _ B (some (sds.getD i "left")) (by kernel_rfl)),aE (p:=("at",_)) (vd _ A none (by kernel_rfl))];simp only[Dk,PJ];unfold zE;rw[Y];dsimp only;by_cases c:sds.getD i "left"="left"
   ·rw[if_pos c,if_pos c]
   ·rw[if_neg c,if_neg c]
    have hi:i<sds.length:=by
     rcases TV i sds.length with z|z
     ·exact z
     ·exact absurd (by rw[Nj,Ph z];rfl) c
    have hm:sds.getD i "left"∈sds:=by
     rw[Nj,B0 hi];exact Pa hi
    rcases he.1 _ hm with z|z
    ·exact absurd z c
    ·rw[z];decide +kernel
  |over ps=>
   cases i with
   |zero=>exact d rfl rfl
   |succ i=>
    simp only[Ob,Pw,Dk];rw[aE (p:=("span",_)) (vd _ y none (by kernel_rfl)),aE (p:=("float",_)) (vd _ B none (by kernel_rfl)),bh (p:=("at",_)) (vd _ A (some (four (ps.getD i (("",0),("",0))))) (by kernel_rfl))];simp only[PJ];unfold zE;rw[C]
    have F:il (ps.getD i (("",0),("",0))).1/\il (ps.getD i (("",0),("",0))).2:=by
     rw[Nj]
     cases e:ps[i]? with
     |some p=>exact he p (Do e)
     |none=>exact⟨⟨by decide +kernel,by decide +kernel,by show(0:Nat)<1000000000;decide⟩,⟨by decide +kernel,by decide +kernel,by show(0:Nat)<1000000000;decide⟩⟩
    exact eO (CU F.1 F.2) (by unfold four;simp only[fZ])
 have M:([("text","")]:List (Str×Str)).flatMap (pick (cB o++(bt wh++bD eh i)))=Jn wh:=by
  simp only[Ob,Pw,Dk]
  cases wh with
  |leaf a b=>rw[aE (p:=("text",_)) (eo _ q none (by kernel_rfl))];rfl
  |lined n g al sd=>rw[aE (p:=("text",_)) (eo _ q none (by kernel_rfl))];rfl
  |table c g sd sps=>rw[aE (p:=("text",_)) (eo _ q none (by kernel_rfl))];rfl
  |over ps=>rw[aE (p:=("text",_)) (eo _ q none rfl)];rfl
  |words ws j=>
   rw[bh (p:=("text",_)) (eo _ q (some (iW ws)) (by kernel_rfl)),I];exact eO (yG f.1) rfl
  |flow sds ws j=>
   rw[bh (p:=("text",_)) (eo _ q (some (iW ws)) (by kernel_rfl)),I];exact eO (yG f.2.1) rfl
 rw[<-X,<-V,<-N,<-M,<-OM,<-OM,<-OM];rfl
noncomputable def top(i:Nat):NG:=PySem.Challenge.pw_boxgalley_k11_whole_one_text_each.main.body.getD i (.Pass ⟨0,0,0,0⟩)
noncomputable abbrev G0:NG:=top 45
noncomputable abbrev uZ:NG:=top 46
noncomputable abbrev sq:NG:=top 47
noncomputable abbrev iC:NG:=top 48
noncomputable abbrev kj:NG:=top 49
noncomputable abbrev kg:NG:=top 95
noncomputable abbrev jZ:NG:=top 96
noncomputable abbrev vZ:NG:=top 97
noncomputable abbrev iP:NG:=top 98
noncomputable abbrev iO:NG:=top 99
noncomputable abbrev ib:NG:=top 100
noncomputable abbrev iE:NG:=top 101
noncomputable abbrev iK:NG:=top 102
noncomputable abbrev yc:NG:=top 115
noncomputable abbrev ym:NG:=top 116
noncomputable abbrev ya:NG:=top 117
noncomputable abbrev yd:NG:=top 118
noncomputable abbrev xP:NG:=top 119
noncomputable abbrev uu:NG:=top 120
noncomputable abbrev mX:NG:=top 121
noncomputable abbrev Dx:NG:=top 122
structure aO(mg:Str->Option B5):Prop where
 len:mg "len"=none
 range:mg "range"=none
 list:mg "list"=none
 tuple:mg "tuple"=none
 min:mg "min"=none
 abs:mg "abs"=none
 enum:mg "enumerate"=none
 str:mg "str"=none
 inst:mg "isinstance"=none
noncomputable def kS(p:Str×Str):Key×V:=(NV p.1,V.str p.2)
structure Hv(P:Og)(w:Ox)(K:mo)(mg:Str->Option B5)(aL aP:B3):Prop where
 mL:mg "LINED"=some (.ref aL)
 sL:∀H,ba K H aL [.str "row",.str "column",.str "wrap"]
 mP:mg "PLAIN"=some (.ref aP)
 dP:uq P w K aP (bu.map kS)
 mI:∃t,mg "INDENT"=some (.str "  " t)
def KT(H H':Hp):Prop:=∀b xs,H b=some (.tup xs)->H' b=some (.tup xs)
theorem KT.trans{H3:Hp}(a:KT H1 H2)(b:KT H2 H3):KT H1 H3:=λx xs e=>b x xs (a x xs e)
theorem KT.same{H H':Hp}(s:af H H'):KT H H':=λb _ e=>s b _ e
theorem KT.lst{H:Hp}{l:B3}{xs ys:List V}(e:H l=some (.lst xs)):KT H (upd H l (.lst ys)):=λb zs h=>by
 rw[ak (jV h e (by intro z;cases z))];exact h
theorem KT.put(e:H l=none):KT H (upd H l o):=λb zs h=>by
 rw[ak (λz=>by rw[z,e]at h;cases h)];exact h
theorem fe{rows:List (List V)}(h:bp H as rows)(k:KT H H'):bp H' as rows:=⟨h.1,λi p r a b=>k _ _ (h.2 i p r a b)⟩
def hH(H:Hp)(a:B3)(o:Own):Prop:=∃u v,H a=some (.tup [.ref u,.ref v,.int o.gr,.int o.sh,.int o.rk,.int o.al])/\H u=some (.tup [.int o.w0,.int o.w1])/\H v=some (.tup [.int o.h0,.int o.h1])
noncomputable def dm(w:List Str):List V:=w.map V.str
noncomputable def kZ(p:Int×Int):List V:=[.int p.1,.int p.2]
def oU(H:Hp)(s:B3)(ws:List (List Str)):Prop:=∃as,H s=some (.tup (as.map V.ref))/\bp H as (ws.map dm)
def cT(H:Hp)(q:B3):aY->Prop
 | .leaf a b=>H q=some (.tup [.int a,.int b])
 | .lined _ g al sd=>H q=some (.tup [.int g,.str al,.str sd])
 | .table c g sd sps=>∃s as,H q=some (.tup [.int c,.int g,.str sd,.ref s])/\H s=some (.tup (as.map V.ref))/\bp H as (sps.map kZ)
 | .words ws j=>∃s,H q=some (.tup [.ref s,.int j])/\oU H s ws
 | .flow sds ws j=>∃t s,H q=some (.tup [.ref t,.ref s,.int j])/\H t=some (.tup (dm sds))/\oU H s ws
 | .over ps=>∃as:List B3,H q=some (.tup (as.map V.ref))/\as.length=ps.length/\∀(i:Nat)(a:B3)(p:(Str×Int)×(Str×Int)),as[i]? =some a->ps[i]? =some p->∃b c,H a=some (.tup [.ref b,.ref c])/\H b=some (.tup [.str p.1.1,.int p.1.2])/\H c=some (.tup [.str p.2.1,.int p.2.2])
theorem hH.keep(k:KT H H'){a:B3}{o:Own}:hH H a o->hH H' a o:=λ⟨u,v,b,d,c⟩=>⟨u,v,k _ _ b,k _ _ d,k _ _ c⟩
theorem oU.keep(k:KT H H'){a:B3}{o:List (List Str)}:oU H a o->oU H' a o:=λ⟨as,b,c⟩=>⟨as,k _ _ b,fe c k⟩
theorem cT.keep(k:KT H H'){q:B3}:∀{wh:aY},cT H q wh->cT H' q wh
 | .leaf a b,h=>k _ _ h
 | .lined _ g al sd,h=>k _ _ h
 | .table c g sd sps,⟨s,as,e,d,f⟩=>⟨s,as,k _ _ e,k _ _ d,fe f k⟩
 | .words ws j,⟨s,e,d⟩=>⟨s,k _ _ e,d.keep k⟩
 | .flow sds ws j,⟨t,s,e,d,f⟩=>⟨t,s,k _ _ e,k _ _ d,f.keep k⟩
 | .over ps,⟨as,e,d,f⟩=>⟨as,k _ _ e,d,λi a p ha n=>by
   obtain⟨b,c,l,m,o⟩:=f i a p ha n
   exact⟨b,c,k _ _ l,k _ _ m,k _ _ o⟩⟩
structure cK where
 nm:Str
 own:Own
 wh:aY
inductive Fo where
 |nil
 |cons (a:B3) (d:cK) (cs as:Fo)
variable{d:cK}{G:Fo}
namespace Fo
noncomputable def aD:Fo->List B3
 |nil=>[]
 |cons a _ _ as=>a::as.aD
noncomputable def cnt:Fo->Nat
 |nil=>0
 |cons _ _ cs as=>cs.cnt+as.cnt+1
noncomputable def bW:Fo->Nat
 |nil=>0
 |cons _ _ cs as=>max (cs.bW+1) as.bW
noncomputable def app:Fo->Fo->Fo
 |nil,G=>G
 |cons a d cs as,G=>cons a d cs (as.app G)
def jb(H:Hp)(a:B3)(d:cK)(ts:List B3):Prop:=∃o q p,H a=some (.tup [.str d.wh.kd,.str d.nm,.ref o,.ref q,.ref p])/\hH H o d.own/\cT H q d.wh/\H p=some (.tup (ts.map V.ref))
def Ok(H:Hp):Fo->Prop
 |nil=>True
 |cons a d cs as=>jb H a d cs.aD/\cs.Ok H/\as.Ok H
def fits:aY->Nat->Prop
 | .table _ _ _ sps,n=>sps.length=n
 | .flow sds _ _,n=>sds.length=n
 | .over ps,n=>n<=ps.length+1
 |_,_=>True
def Good:Fo->Prop
 |nil=>True
 |cons _ d cs as=>(d.wh.Good/\d.own.Good/\d.nm.length<=60/\fits d.wh cs.aD.length)/\cs.Good/\as.Good
theorem jb.keep(k:KT H H'){a:B3}{ts:List B3}:jb H a d ts->jb H' a d ts:=λ⟨o,q,p,c,f,e,b⟩=>⟨o,q,p,k _ _ c,f.keep k,e.keep k,k _ _ b⟩
theorem Ok.keep(k:KT H H'):∀{F:Fo},F.Ok H->F.Ok H'
 |nil,_=>trivial
 |cons a d cs as,⟨e,b,c⟩=>⟨e.keep k,Ok.keep k b,Ok.keep k c⟩
theorem bx(G:Fo):∀F:Fo,(F.app G).aD=F.aD++G.aD
 |nil=>rfl
 |cons a d cs as=>by show a::(as.app G).aD=_;rw[bx G as];rfl
theorem ee(G:Fo):∀F:Fo,(F.app G).cnt=F.cnt+G.cnt
 |nil=>by show G.cnt=0+_;lia
 |cons a d cs as=>by show cs.cnt+(as.app G).cnt+1=cs.cnt+as.cnt+1+_;rw[ee G as];lia
theorem fI(G:Fo):∀F:Fo,(F.app G).bW=max F.bW G.bW
 |nil=>by show G.bW=max 0 _;lia
 |cons a d cs as=>by show max (cs.bW+1) (as.app G).bW=max (max (cs.bW+1) as.bW) _;rw[fI G as];lia
theorem yb:∀F:Fo,F.app nil=F
 |nil=>rfl
 |cons a d cs as=>by show cons a d cs (as.app nil)=_;rw[yb as]
theorem qY(G K:Fo):∀F:Fo,(F.app G).app K=F.app (G.app K)
 |nil=>rfl
 |cons a d cs as=>by show cons a d cs ((as.app G).app K)=_;rw[qY G K as];rfl
theorem fS:∀{F:Fo},(F.app G).Ok H↔F.Ok H/\G.Ok H
 |nil=>⟨λh=>⟨trivial,h⟩,λh=>h.2⟩
 |cons a d cs as=>by
  show(_/\_/\(as.app G).Ok H)↔(_/\_/\as.Ok H)/\_;rw[fS (F:=as)];constructor
  ·rintro⟨a,b,c,d⟩;exact⟨⟨a,b,c⟩,d⟩
  ·rintro⟨⟨a,b,c⟩,d⟩;exact⟨a,b,c,d⟩
theorem fc:∀{F:Fo},(F.app G).Good↔F.Good/\G.Good
 |nil=>⟨λh=>⟨trivial,h⟩,λh=>h.2⟩
 |cons a d cs as=>by
  show(_/\_/\(as.app G).Good)↔(_/\_/\as.Good)/\_;rw[fc (F:=as)];constructor
  ·rintro⟨a,b,c,d⟩;exact⟨⟨a,b,c⟩,d⟩
  ·rintro⟨⟨a,b,c⟩,d⟩;exact⟨a,b,c,d⟩
theorem iB:∀F:Fo,F.aD.length<=F.cnt
 |nil=>B2 _
 |cons a d cs as=>by show as.aD.length+1<=cs.cnt+as.cnt+1;have :=iB as;lia
end Fo
noncomputable def fo(d:cK)(eh:aY)(i:Nat):List Str:=d.wh.kd::d.nm::(Dh d.own++(g_ d.wh++(zE eh i++Jn d.wh)))
noncomputable def bY(d:cK)(n:Nat)(eh:aY)(i:Nat):Str:=nk "  " n++NA " " (fo d eh i)
noncomputable def aS:Fo->Nat->aY->Nat->List Str
 | .nil,_,_,_=>[]
 | .cons _ d cs as,n,eh,i=>bY d n eh i::(aS cs (n+1) d.wh 0++aS as n eh (i+1))
theorem qj(G:Fo)(n:Nat)(eh:aY):∀(F:Fo)(i:Nat),aS (F.app G) n eh i=aS F n eh i++aS G n eh (i+F.aD.length)
 | .nil,i=>rfl
 | .cons a d cs as,i=>by
  show bY d n eh i::(aS cs (n+1) d.wh 0++aS (as.app G) n eh (i+1))=bY d n eh i::(aS cs (n+1) d.wh 0++aS as n eh (i+1))++aS G n eh (i+(as.aD.length+1));rw[qj G n eh as (i+1),show i+1+as.aD.length=i+(as.aD.length+1)by lia,Pb,IR]
theorem dR(n:Nat)(eh:aY):∀(F:Fo)(n:Nat)(eh:aY)(i:Nat),(aS F n eh i).length=F.cnt
 | .nil,_,_,_=>rfl
 | .cons a d cs as,n,eh,i=>by
  show(aS cs (n+1) d.wh 0++aS as n eh (i+1)).length+1=cs.cnt+as.cnt+1;rw[B1,dR n eh cs (n+1) d.wh 0,dR n eh as n eh (i+1)]
def LB(n:Nat)(xs:List Str):Prop:=∀x∈xs,x.length<=n
theorem LB.app{a b:List Str}(h1:LB n a)(h2:LB n b):LB n (a++b):=λx hx=>by
 rcases List.mem_append.mp hx with z|z
 ·exact h1 x z
 ·exact h2 x z
theorem LB.nil:LB n []:=λx hx=>nomatch hx
theorem LB.one(h:y.length<=n):LB n [y]:=λx hx=>by rw[List.mem_singleton.mp hx];exact h
theorem LB.ite{c:Prop}[Decidable c](h:y.length<=n):LB n (if c then[]else[y]):=by
 split
 ·exact LB.nil
 ·exact LB.one h
theorem Mt{c:Prop}[Decidable c]:(if c then[]else[y]).length<=1:=by split<;>simp
theorem mr(h:gF ws):(iW ws).length<=60:=by
 have h1:∀y∈ws.map (NA "|"),y.length<=15:=λy b=>by
  obtain⟨v,a,rfl⟩:=List.mem_map.mp b;obtain⟨_,h2,c⟩:=h.2 v a;have :=fi "|" v (B:=4) λx hx=>(c x hx).2
  have e:("|":Str).length=1:=by decide +kernel
  rw[e]at this
  have :v.length*5<=15:=by lia
  lia
 have h2:=fi " " _ h1
 have e:(" ":Str).length=1:=by decide +kernel
 rw[e,be]at h2;have :=h.1
 have :ws.length*16<=48:=by lia
 show(NA " " (ws.map (NA "|"))).length<=60
 lia
inductive A5(j:Nat)(vs:List V)(H:Hp)(Q:VK):Prop
 |mk (a:B3) (xs:List V) (v:V) (c0:vs=[.ref a]) (c1:H a=some (.tup xs)) (c2:xs[j]? =some v) (c3:Q v H)
def di(j:Nat):Sp:=λvs H Q _=>A5 j vs H Q
theorem IQ:aw Zb Zb (aj G0):=cD
theorem D4(F:aZ K "kind_of" "kind_of" G0 f fd):av P w K mg base aK 1 f fd Zb (di 0):=by
 refine F.cI IQ λcdv A outer s H vs Q E c h=>?_
 ·obtain⟨a,xs,v,e,ha,b,k⟩:=h;subst e;exact⟨_,ai (au (ay ax (pv 0) ag (λ_ _=>rfl))),_,rfl,a,_,_,_,rfl,rfl,ba.of ha,aN (j:=0) b,k⟩
theorem vx:aw Zb Zb (aj uZ):=cD
theorem FI(F:aZ K "name_of" "name_of" uZ f fd):av P w K mg base aK 1 f fd Zb (di 1):=by
 refine F.cI vx λcdv A outer s H vs Q E c h=>?_
 ·obtain⟨a,xs,v,e,ha,b,k⟩:=h;subst e;exact⟨_,ai (au (ay ax (pv 0) ag (λ_ _=>rfl))),_,rfl,a,_,_,_,rfl,rfl,ba.of ha,aN (j:=1) b,k⟩
theorem F_:aw Zb Zb (aj sq):=cD
theorem C9(F:aZ K "own_of" "own_of" sq f fd):av P w K mg base aK 1 f fd Zb (di 2):=by
 refine F.cI F_ λcdv A outer s H vs Q E c h=>?_
 ·obtain⟨a,xs,v,e,ha,b,k⟩:=h;subst e;exact⟨_,ai (au (ay ax (pv 0) ag (λ_ _=>rfl))),_,rfl,a,_,_,_,rfl,rfl,ba.of ha,aN (j:=2) b,k⟩
theorem mN:aw Zb Zb (aj iC):=cD
theorem AA(F:aZ K "what_of" "what_of" iC f fd):av P w K mg base aK 1 f fd Zb (di 3):=by
 refine F.cI mN λcdv A outer s H vs Q E c h=>?_
 ·obtain⟨a,xs,v,e,ha,b,k⟩:=h;subst e;exact⟨_,ai (au (ay ax (pv 0) ag (λ_ _=>rfl))),_,rfl,a,_,_,_,rfl,rfl,ba.of ha,aN (j:=3) b,k⟩
theorem Ac:aw Zb Zb (aj kj):=cD
theorem wU(F:aZ K "parts_of" "parts_of" kj f fd):av P w K mg base aK 1 f fd Zb (di 4):=by
 refine F.cI Ac λcdv A outer s H vs Q E c h=>?_
 ·obtain⟨a,xs,v,e,ha,b,k⟩:=h;subst e;exact⟨_,ai (au (ay ax (pv 0) ag (λ_ _=>rfl))),_,rfl,a,_,_,_,rfl,rfl,ba.of ha,aN (j:=4) b,k⟩
inductive zP(vs:List V)(H:Hp)(Q:VK):Prop
 |mk (p:B3) (xs:List V) (s:Str) (c0:vs=[.ref p,.str s]) (c1:H p=some (.tup xs)) (c2:xs.length<=10) (c3:(∀x∈xs,ro x)) (c4:s.length<=10) (c5:∀H',af H H'->Q (.str (NA s (xs.map tS))) H')
def jC:Sp:=λvs H Q _=>zP vs H Q
inductive vQ(vs:List V)(H:Hp)(Q:VK):Prop
 |mk (a:B3) (o:Own) (c0:vs=[.ref a]) (c1:hH H a o) (c2:o.Good) (c3:∀(d:B3)(H':Hp),H d=none->af H H'->H' d=some (.dK ((cB o).map kS))->Q (.ref d) H')
def pM:Sp:=λvs H Q _=>vQ vs H Q
inductive AU(vs:List V)(H:Hp)(Q:VK):Prop
 |mk (s:B3) (ws:List (List Str)) (c0:vs=[.ref s]) (c1:oU H s ws) (c2:gF ws) (c3:∀H',af H H'->Q (.str (iW ws)) H')
def yK:Sp:=λvs H Q _=>AU vs H Q
theorem Hy{x:V}(h:ro x):(tS x).length<=60:=by
 cases x with
 |int i=>have :i.natAbs<1000000000:=h;have :=fj this;show(nS i).length<=60;exact cP
 |str x=>exact h
 |_=>exact h.elim
theorem vq(h:x∉ps.map (·.1)):putK (ps.map kS) (NV x) (V.str y)=(ps++[(x,y)]).map kS:=by
 have hn:cv (ps.map kS) (NV x:Key)=none:=by
  show cv (ps.map λp=>(NV p.1,V.str p.2)) _=none;rw[vm];unfold lk;rw[List.find?_eq_none.mpr]
  ·rfl
  ·intro p a e;exact h (by rw[<-of_decide_eq_true e];exact Ow (f:=(·.1)) a)
 rw[ku _ hn,Da];rfl
theorem m_:∀(a ps:List (Str×Str)),((ps++a).map (·.1)).Nodup->(a.map kS).foldl (λb p=>putK b p.1 p.2) (ps.map kS)=(ps++a).map kS
 |[],ps,_=>by rw[Dk];rfl
 |q::a,ps,h=>by
  have hn:q.1∉ps.map (·.1):=λz=>by
   rw[Da,Nq]at h;exact(List.nodup_append.mp h).2.2 _ z _ B6 rfl
  show(a.map kS).foldl _ (putK (ps.map kS) (NV q.1) (V.str q.2))=_;rw[vq hn,m_ a (ps++[(q.1,q.2)]) (by rw[IR];exact h),IR];rfl
theorem c_(h:(ps.map (·.1)).Nodup):kM [] (ps.map kS)=ps.map kS:=m_ ps [] h
theorem qh{a:List (Str×Str)}(h:((ps++a).map (·.1)).Nodup):hU (ps.map kS) (a.map kS)=(ps++a).map kS:=m_ a ps h
theorem CL(o:Own):((cB o).map (·.1)).Nodup:=by
 show(["wide","high","grow","shrink","rank","alike"]:List Str).Nodup;decide +kernel
theorem f_(s:Str)(a b:Int):NA s ([V.int a,V.int b].map tS)=two s a b:=GX _ _ _
theorem kF(h1:bG a)(h2:bG b):∀x∈[V.int a,V.int b],ro x:=λx hx=>by
 rcases List.mem_cons.mp hx with z|z
 ·rw[z];exact h1
 ·rw[List.mem_singleton.mp z];exact h2
noncomputable def wordAt(H:Hp):V->V
 | .ref p=>match H p with
  |some (.tup xs)=> .str (NA "|" (xs.map tS))
  |_=> .non
 |_=> .non
theorem D7(w:List Str):(dm w).map tS=w:=by
 unfold dm;rw[NO];exact RK w
theorem qF{p:B3}{w:List Str}(h:H p=some (.tup (dm w))):wordAt H (.ref p)= .str (NA "|" w):=by
 unfold wordAt;dsimp only;rw[h];dsimp only;rw[D7]
theorem zy(h:bp H as (ws.map dm)):(as.map V.ref).map (wordAt H)=(ws.map (NA "|")).map V.str:=by
 have hl:as.length=ws.length:=by rw[h.1,be]
 apply Q1;intro i;rw[B7,B7,B7,B7]
 cases a:as[i]? with
 |none=>
  have h1:=List.getElem?_eq_none_iff.mp a;rw[Ph (l:=ws) (by lia)];rfl
 |some p=>
  have hi:i<ws.length:=by rw[<-hl];exact bw a
  have b:=h.2 i p _ a (by rw[B7,B0 hi];rfl);rw[B0 hi];show some (wordAt H (.ref p))=some (.str _);rw[qF b]
theorem Di:aw Zl Zl (aj kg):=cD
theorem zf(F:aZ K "joined" "joined" kg f fd)(N:aO mg):av P w K mg base aK 1 f fd Zl jC:=by
 refine F.cI Di λcdv A outer s H vs Q E l h=>?_
 ·obtain⟨p,xs,c,e,d,hl,hx,g,k⟩:=h;subst e
  refine⟨_,ai (au (cw Nu PM PL ma (pv 1) (aa (cp (bg (fs:=aj kg) (N:=Zl) rfl rfl (by decide +kernel)) rfl (eK (pv 0)) (λ_ _ _ _ _=>bH)
   (λ_ _ _ _ _=>aQ cS (by rfl) N.str NC (aa (pv 0) ab))) ab))),?_⟩
  refine⟨_,rfl,rfl,_,rfl,p,rfl,⟨_,ba.of d⟩,pR (λx=> .str (tS x)) d (small cP) (λi x H' m ex s1 kk=>⟨_,rfl,x,rfl,hx x (Do ex),kk _ (af.refl _)⟩) λD H' n s1 b=>?_⟩;refine⟨c,D,xs.map tS,rfl,rfl,bf.of (by rw[b,NO];rfl),?_,k H' s1⟩
  have h1:=kP (xs.map tS) (B:=60) λy j=>by
   obtain⟨x,a,rfl⟩:=List.mem_map.mp j;exact Hy (hx x a)
  rw[be]at h1⊢;have :xs.length*c.length<=10*10:=RJ hl g
  lia
theorem zg:aw ["own"] ["own"] (aj jZ):=cD
theorem wL(F:aZ K "own_told" "own_told" jZ f fd)(N:aO mg)(G1:av P w K mg base aK 1 f1 d1 Zl jC)(l:Cq K mg d1 f1 Zl "joined"):av P w K mg base aK 2 f fd ["own"] pM:=by
 refine F.cI zg λcdv A outer s H vs Q E i h=>?_
 ·obtain⟨a,o,e,⟨u,v,ha,x,r⟩,⟨g1,g2,g3,z,B,n,q,t⟩,k⟩:=h;subst e
  refine⟨_,ai (au (eU (bF ar (pq G1 i l (aa (ay ax (pv 0) ag (λ_ _=>rfl)) (aa ar ab)))
   (bF ar (pq G1 i l (aa (ay ax (pv 0) ag (λ_ _=>rfl)) (aa ar ab)))
   (bF ar (aQ cS (by rfl) N.str NC (aa (ay ax (pv 0) ag (λ_ _=>rfl)) ab))
   (bF ar (aQ cS (by rfl) N.str NC (aa (ay ax (pv 0) ag (λ_ _=>rfl)) ab))
   (bF ar (aQ cS (by rfl) N.str NC (aa (ay ax (pv 0) ag (λ_ _=>rfl)) ab))
   (bF ar (aQ cS (by rfl) N.str NC (aa (ay ax (pv 0) ag (λ_ _=>rfl)) ab)) eQ)))))) rfl rfl (by simp) (by decide))),?_⟩
  intro p g;have s1:af H (upd H p (.dK [])):=af.put (af.refl _) g;have h1:(upd H p (.dK [])) p=some (.dK []):=ae;generalize upd H p (.dK [])=H1 at *;refine⟨_,rfl,a,_,_,_,rfl,rfl,ba.of (s1 _ _ ha),aN (j:=0) rfl,u,_,"..",rfl,s1 _ _ x,(by show 2<=10;decide),kF g1 g2,by decide +kernel,λH2 s2=>?_⟩;have b:=s1.trans s2;refine⟨_,rfl,a,_,_,_,rfl,rfl,ba.of (b _ _ ha),aN (j:=1) rfl,v,_,"..",rfl,b _ _ r,(by show 2<=10;decide),kF g3 z,by decide +kernel,λH3 m=>?_⟩;have c:=b.trans m;have d:=ba.of (K:=K) (c _ _ ha);refine⟨_,rfl,a,_,_,_,rfl,rfl,d,aN (j:=2) rfl,_,rfl,B,_,rfl,a,_,_,_,rfl,rfl,d,aN (j:=3) rfl,_,rfl,n,_,rfl,a,_,_,_,rfl,rfl,d,aN (j:=4) rfl,_,rfl,q,_,rfl,a,_,_,_,rfl,rfl,d,aN (j:=5) rfl,_,rfl,t,?_⟩;have y:=(s2.trans m) _ _ h1;refine⟨y,(cB o).map kS,?_,(by show 6<=15;decide),?_⟩
  ·rw[f_,f_];rfl
  ·rw[c_ (CL o)];exact k p _ g (af.put c g) ae
theorem Eh:aw ["words"] ["words"] (aj vZ):=cD
theorem Cg(F:aZ K "words_text" "words_text" vZ f fd):av P w K mg base aK 1 f fd ["words"] yK:=by
 refine F.cI Eh λcdv A outer s H vs Q E q h=>?_
 ·obtain⟨m,ws,e,⟨as,j,a⟩,d,k⟩:=h;subst e
  have hl:as.length=ws.length:=by rw[a.1,be]
  have g1:=d.1
  refine⟨_,ai (au (cw Nu PM PL ma ar (aa (cp (bg (fs:=aj vZ) (N:=["words"]) rfl rfl (by decide +kernel)) rfl (eK (pv 0)) (λ_ _ _ _ _=>bH)
   (λ_ _ _ _ _=>A9 (K:=K) (r:=vr K) Nu PM PL Ag ar (aa (pv 0) ab))) ab))),?_⟩
  refine⟨rfl,_,rfl,m,rfl,⟨_,ba.of j⟩,pR (wordAt H) j (small (by rw[be];lia)) (λi x H' t ex s1 kk=>?_) λD H' u s1 c=>?_⟩
  ·rw[B7]at ex;obtain⟨p,g,rfl⟩:=Option.map_eq_some_iff.mp ex
   have hi:i<ws.length:=by rw[<-hl];exact bw g
   have b:=a.2 i p _ g (by rw[B7,B0 hi];rfl);obtain⟨w1,w2,l⟩:=d.2 _ (Pa hi);rw[qF b]at kk;refine⟨rfl,_,rfl,"|",p,ws[i],rfl,rfl,ba.of (s1 _ _ b),?_,kk H' (af.refl _)⟩;have h1:=kP ws[i] (B:=4) λy b=>(l y b).2
   have e:("|":Str).length=1:=by decide +kernel
   rw[e]
   lia
  ·rw[zy a]at c;refine⟨" ",D,ws.map (NA "|"),rfl,rfl,bf.of c,?_,k H' s1⟩
   have h1:=kP (ws.map (NA "|")) (B:=15) λy b=>by
    obtain⟨v,n,rfl⟩:=List.mem_map.mp b;obtain⟨_,h2,o⟩:=d.2 v n;have :=fi "|" v (B:=4) λx hx=>(o x hx).2
    have e:("|":Str).length=1:=by decide +kernel
    rw[e]at this
    lia
   have e:(" ":Str).length=1:=by decide +kernel
   rw[e];rw[be]at h1⊢
   lia
noncomputable abbrev L3:List V:=[.str "row",.str "column",.str "wrap"]
inductive uy(vs:List V)(H:Hp)(Q:VK):Prop
 |mk (q:B3) (wh:aY) (c0:vs=[.str wh.kd,.ref q]) (c1:cT H q wh) (c2:wh.Good) (c3:∀(d:B3)(H':Hp),H d=none->af H H'->H' d=some (.dK ((bt wh).map kS))->Q (.ref d) H')
def oH:Sp:=λvs H Q _=>uy vs H Q
inductive tE(vs:List V)(H:Hp)(Q:VK):Prop
 |mk (a:B3) (d:cK) (ts:List B3) (i:Nat) (c0:vs=[.ref a,.int (i:Int)]) (c1:Fo.jb H a d ts) (c2:d.wh.Good) (c3:Fo.fits d.wh ts.length) (c4:i<ts.length) (c5:∀(p:B3)(H':Hp),H p=none->af H H'->H' p=some (.dK ((bD d.wh i).map kS))->Q (.ref p) H')
def mH:Sp:=λvs H Q _=>tE vs H Q
theorem Jq:gu (.str "row") L3=true:=by decide +kernel
theorem KC:gu (.str "column") L3=true:=by decide +kernel
theorem IZ:gu (.str "wrap") L3=true:=by decide +kernel
theorem HP:gu (.str "leaf") L3=false:=by decide +kernel
theorem yn:gu (.str "table") L3=false:=by decide +kernel
theorem inWords:gu (.str "words") L3=false:=by decide +kernel
theorem Ck:gu (.str "flow") L3=false:=by decide +kernel
theorem CY:gu (.str "over") L3=false:=by decide +kernel
theorem kW{a b:Str}(h:a≠b):decide (V.str a=V.str b)=false:=decide_eq_false λz=>h (V.str.inj z)
theorem AI{a:Str}:decide (V.str a=V.str a)=true:=decide_eq_true rfl
theorem tl:("table":Str)≠"leaf":=by decide +kernel
theorem wl:("words":Str)≠"leaf":=by decide +kernel
theorem wt:("words":Str)≠"table":=by decide +kernel
theorem fl:("flow":Str)≠"leaf":=by decide +kernel
theorem ft:("flow":Str)≠"table":=by decide +kernel
theorem fw:("flow":Str)≠"words":=by decide +kernel
theorem ol:("over":Str)≠"leaf":=by decide +kernel
theorem ot:("over":Str)≠"table":=by decide +kernel
theorem ow:("over":Str)≠"words":=by decide +kernel
theorem MJ:("over":Str)≠"flow":=by decide +kernel
theorem lt':("leaf":Str)≠"table":=by decide +kernel
theorem MY:("leaf":Str)≠"flow":=by decide +kernel
theorem M8:("leaf":Str)≠"over":=by decide +kernel
theorem Nd:("words":Str)≠"flow":=by decide +kernel
theorem Na:("words":Str)≠"over":=by decide +kernel
theorem Nf{k:Nat}:(aY.lined k g al sd).kd≠"table"/\(aY.lined k g al sd).kd≠"flow"/\(aY.lined k g al sd).kd≠"over"/\(aY.lined k g al sd).kd≠"leaf"/\(aY.lined k g al sd).kd≠"words":=by
 have h:(aY.lined k g al sd).kd="row"∨(aY.lined k g al sd).kd="column"∨(aY.lined k g al sd).kd="wrap":=by
  match k with
  |0=>exact .inl rfl
  |1=>exact .inr (.inl rfl)
  |k+2=>exact .inr (.inr rfl)
 rcases h with h|h|h<;>rw[h]<;>decide +kernel
theorem sU{k:Nat}:gu (.str (aY.lined k g al sd).kd) L3=true:=by
 match k with
 |0=>exact Jq
 |1=>exact KC
 |k+2=>exact IZ
theorem kd_len(wh:aY):wh.kd.length<=10:=by
 have :wh.kd∈(["leaf","row","column","wrap","table","words","flow","over"]:List Str):=by
  cases wh with
  |lined k g al sd=>
   match k with
   |0=>simp[aY.kd]
   |1=>simp[aY.kd]
   |k+2=>simp[aY.kd]
  |_=>simp[aY.kd]
 revert this
 generalize wh.kd=x
 revert x
 decide +kernel
theorem As(p:(Str×Int)×(Str×Int)):NA "," ([V.str p.1.1,V.int p.1.2,V.str p.2.1,V.int p.2.2].map tS)=four p:=by
 show NA "," [p.1.1,nS p.1.2,p.2.1,nS p.2.2]=_;rw[yF,yF,GX];rfl
theorem om{c:Int}{sps:List (Int×Int)}{p:Int×Int}(h:sps[i]? =some p):bD (.table c g sd sps) i=[(("span":Str),two "," p.1 p.2)]:=by
 show[(("span":Str),two "," (sps.getD i (1,1)).1 (sps.getD i (1,1)).2)]=_;rw[Nj,h];rfl
theorem qy{sds:List Str}{j:Int}{p:Str}(h:sds[i]? =some p):bD (.flow sds ws j) i=[(("float":Str),p)]:=by
 show[(("float":Str),sds.getD i "left")]=_;rw[Nj,h];rfl
theorem qE{ps:List ((Str×Int)×(Str×Int))}(h:ps[i]? =some p):bD (.over ps) (i+1)=[(("at":Str),four p)]:=by
 show[(("at":Str),four (ps.getD i (("",0),("",0))))]=_;rw[Nj,h];rfl
theorem vK:aw Zu Zu (aj iP):=cD
theorem t_(F:aZ K "what_told" "what_told" iP f fd)(N:aO mg)(G:Hv P w K mg aL aP)(G1:av P w K mg base aK 1 f1 d1 Zl jC)(y:Cq K mg d1 f1 Zl "joined")(G2:av P w K mg base aK 1 f2 d2 ["words"] yK)(x:Cq K mg d2 f2 ["words"] "words_text"):av P w K mg base aK 2 f fd Zu oH:=by
 refine F.cI vK λcdv A outer s H vs Q E u h=>?_
 ·obtain⟨q,wh,e,l,o,k⟩:=h;subst e
  refine⟨_,ah (aR (aA (r:=tY K false) cf (pv 0) (aU (v:= .ref aL) (by rfl) G.mL rfl) (by rfl))
    (ai (au (eU (bF ar (aQ cS (by rfl) N.str NC (aa (ay ax (pv 1) ag (λ_ _=>rfl)) ab)) (bF ar (ay ax (pv 1) ag (λ_ _=>rfl)) (bF ar (ay ax (pv 1) ag (λ_ _=>rfl)) eQ))) rfl rfl (by simp) (by decide)))) az)
   (ah (aR (aA bE (pv 0) ar (aF _)) (ai (au (eU (bF ar (pq G1 u y (aa (pv 1) (aa ar ab))) eQ) rfl rfl (by simp) (by decide)))) az)
   (ah (aR (aA bE (pv 0) ar (aF _)) (ai (au (eU (bF ar (aQ cS (by rfl) N.str NC (aa (ay ax (pv 1) ag (λ_ _=>rfl)) ab)) (bF ar (aQ cS (by rfl) N.str NC (aa (ay ax (pv 1) ag (λ_ _=>rfl)) ab)) (bF ar (ay ax (pv 1) ag (λ_ _=>rfl)) eQ))) rfl rfl (by simp) (by decide)))) az)
   (ah (aR (aA bE (pv 0) ar (aF _)) (ai (au (eU (bF ar (pq G2 u x (aa (ay ax (pv 1) ag (λ_ _=>rfl)) ab)) (bF ar (aQ cS (by rfl) N.str NC (aa (ay ax (pv 1) ag (λ_ _=>rfl)) ab)) eQ)) rfl rfl (by simp) (by decide)))) az)
   (ah (aR (aA bE (pv 0) ar (aF _)) (ai (au (eU (bF ar (pq G2 u x (aa (ay ax (pv 1) ag (λ_ _=>rfl)) ab)) (bF ar (aQ cS (by rfl) N.str NC (aa (ay ax (pv 1) ag (λ_ _=>rfl)) ab)) eQ)) rfl rfl (by simp) (by decide)))) az)
   (ai (au gk)))))),?_⟩
  have put:∀{p:B3},H p=none->af H (upd H p (.dK [])):=λd=>af.put (af.refl _) d;refine⟨_,rfl,aL,_,rfl,.inr (G.sL _),rfl,rfl,_,rfl,?_⟩
  cases wh with
  |lined n g al sd=>
   refine dH sU λp d=>?_;have i:(upd H p (.dK [])) q=some (.tup [.int g,.str al,.str sd]):=put d _ _ l;refine⟨_,rfl,q,_,_,_,rfl,rfl,ba.of i,aN (j:=0) rfl,_,rfl,o.1,_,rfl,q,_,_,_,rfl,rfl,ba.of i,aN (j:=1) rfl,_,rfl,q,_,_,_,rfl,rfl,ba.of i,aN (j:=2) rfl,ae,(bt (.lined n g al sd)).map kS,rfl,(by show 3<=15;decide),?_⟩;rw[c_ (ps:=bt (.lined n g al sd)) (show(["gap","align","side"]:List Str).Nodup by decide +kernel)];exact k p _ d (af.put (put d) d) ae
  |leaf a b=>
   refine br HP ⟨_,rfl,rfl,_,rfl,dH AI λp d=>?_⟩;refine⟨_,rfl,q,_,",",rfl,put d _ _ l,(by show 2<=10;decide),kF o.1 o.2,by decide +kernel,λH2 s2=>⟨s2 _ _ ae,(bt (.leaf a b)).map kS,by rw[f_];rfl,(by show 1<=15;decide),?_⟩⟩;rw[c_ (ps:=bt (.leaf a b)) (show(["wish"]:List Str).Nodup by decide +kernel)];exact k p _ d (af.put ((put d).trans s2) d) ae
  |table c g sd sps=>
   obtain⟨sp,as,l,_⟩:=l;refine br yn ⟨_,rfl,rfl,_,rfl,br (kW tl) ⟨_,rfl,rfl,_,rfl,dH AI λp d=>?_⟩⟩;have i:=put d _ _ l;refine⟨_,rfl,q,_,_,_,rfl,rfl,ba.of i,aN (j:=0) rfl,_,rfl,o.1,_,rfl,q,_,_,_,rfl,rfl,ba.of i,aN (j:=1) rfl,_,rfl,o.2.1,_,rfl,q,_,_,_,rfl,rfl,ba.of i,aN (j:=2) rfl,ae,(bt (.table c g sd sps)).map kS,rfl,(by show 3<=15;decide),?_⟩;rw[c_ (ps:=bt (.table c g sd sps)) (show(["columns","gap","side"]:List Str).Nodup by decide +kernel)];exact k p _ d (af.put (put d) d) ae
  |words ws j=>
   obtain⟨sp,l,t⟩:=l;refine br inWords ⟨_,rfl,rfl,_,rfl,br (kW wl) ⟨_,rfl,rfl,_,rfl,br (kW wt) ⟨_,rfl,rfl,_,rfl,dH AI λp d=>?_⟩⟩⟩;have s1:=put d;refine⟨_,rfl,q,_,_,_,rfl,rfl,ba.of (s1 _ _ l),aN (j:=0) rfl,sp,ws,rfl,t.keep (KT.same s1),o.1,λH2 s2=>?_⟩;have m:=s1.trans s2;refine⟨_,rfl,q,_,_,_,rfl,rfl,ba.of (m _ _ l),aN (j:=1) rfl,_,rfl,o.2,s2 _ _ ae,(bt (.words ws j)).map kS,rfl,(by show 2<=15;decide),?_⟩;rw[c_ (ps:=bt (.words ws j)) (show(["text","joint"]:List Str).Nodup by decide +kernel)];exact k p _ d (af.put m d) ae
  |flow sds ws j=>
   obtain⟨B,sp,l,z,t⟩:=l;refine br Ck ⟨_,rfl,rfl,_,rfl,br (kW fl) ⟨_,rfl,rfl,_,rfl,br (kW ft) ⟨_,rfl,rfl,_,rfl,br (kW fw) ⟨_,rfl,rfl,_,rfl,dH AI λp d=>?_⟩⟩⟩⟩;have s1:=put d;refine⟨_,rfl,q,_,_,_,rfl,rfl,ba.of (s1 _ _ l),aN (j:=1) rfl,sp,ws,rfl,t.keep (KT.same s1),o.2.1,λH2 s2=>?_⟩;have m:=s1.trans s2;refine⟨_,rfl,q,_,_,_,rfl,rfl,ba.of (m _ _ l),aN (j:=2) rfl,_,rfl,o.2.2,s2 _ _ ae,(bt (.flow sds ws j)).map kS,rfl,(by show 2<=15;decide),?_⟩;rw[c_ (ps:=bt (.flow sds ws j)) (show(["text","joint"]:List Str).Nodup by decide +kernel)];exact k p _ d (af.put m d) ae
  |over ps=>
   refine br CY ⟨_,rfl,rfl,_,rfl,br (kW ol) ⟨_,rfl,rfl,_,rfl,br (kW ot) ⟨_,rfl,rfl,_,rfl,br (kW ow) ⟨_,rfl,rfl,_,rfl,br (kW MJ) ?_⟩⟩⟩⟩;intro p d;exact k p _ d (put d) ae
theorem jd:aw ["elder","place","what","pair"] ZH (aj iO):=cD
theorem uv{dK:O4}(F:aZ K "part_told" "part_told" iO f fd)(G1:av P w K mg base aK 1 f1 d1 Zl jC)(R:Cq K mg d1 f1 Zl "joined")(I:av P w K mg base aK 1 fK dK Zb (di 0))(J:Cq K mg dK fK Zb "kind_of")(Z:av P w K mg base aK 1 fW dW Zb (di 3))(X:Cq K mg dW fW Zb "what_of"):av P w K mg base aK 2 f fd ZH mH:=by
 refine F.cI jd λcdv A outer s H vs Q E v h=>?_
 ·obtain⟨a,d,ts,i,e,⟨ao,q,ap,ha,_,u,_⟩,C,B,hi,k⟩:=h;subst e
  refine⟨_,ah (aB (i:=2) jd.nd rfl (Ki rfl) (pq Z v X (aa (pv 0) ab)))
   (ah (aR (aA bE (pq I v J (aa (pv 0) ab)) ar (aF _)) (ai (au (eU (bF ar (pq G1 v R (aa (ay ax (ay ax (pv 2) ag (λ_ _=>rfl)) (pv 1) (λ_ _=>rfl)) (aa ar ab))) eQ) rfl rfl (by simp) (by decide)))) az)
   (ah (aR (aA bE (pq I v J (aa (pv 0) ab)) ar (aF _)) (ai (au (eU (bF ar (ay ax (ay ax (pv 2) ag (λ_ _=>rfl)) (pv 1) (λ_ _=>rfl)) eQ) rfl rfl (by simp) (by decide)))) az)
   (ah (aR (cM (aA bE (pq I v J (aa (pv 0) ab)) ar (aF _)) (cA (aA lG (pv 1) ag (aF _)))).pt
    (ah (aB (i:=3) jd.nd rfl (Ki rfl) (ay ax (pv 2) (aJ fU (pv 1) ag) (λ_ _=>rfl)))
    (ai (au (eU (bF ar (pq G1 v R (aa (aJ xT (ay ax (pv 3) ag (λ_ _=>rfl)) (ay ax (pv 3) ag (λ_ _=>rfl))) (aa ar ab))) eQ) rfl rfl (by simp) (by decide))))) az)
   (ai (au gk))))),?_⟩
  refine⟨_,rfl,a,_,_,rfl,ha,rfl,_,rfl,a,_,_,rfl,ha,rfl,rfl,_,rfl,?_⟩;have put:∀{p:B3},H p=none->af H (upd H p (.dK [])):=λl=>af.put (af.refl _) l
  cases e:d.wh with
  |lined n g al sd=>
   rw[e]at k;obtain⟨z1,T,z3,_⟩:=Nf (k:=n) (g:=g) (al:=al) (sd:=sd);exact br (kW z1) ⟨_,rfl,a,_,_,rfl,ha,rfl,rfl,_,rfl,br (by rw[e];exact kW T) ⟨_,rfl,a,_,_,rfl,ha,rfl,rfl,_,rfl,br (by rw[e];exact kW z3) (dh λp l=>k p _ l (put l) ae)⟩⟩
  |leaf x y=>
   rw[e]at k;exact br (kW lt') ⟨_,rfl,a,_,_,rfl,ha,rfl,rfl,_,rfl,br (by rw[e];exact kW MY) ⟨_,rfl,a,_,_,rfl,ha,rfl,rfl,_,rfl,br (by rw[e];exact kW M8) (dh λp l=>k p _ l (put l) ae)⟩⟩
  |words ws j=>
   rw[e]at k;exact br (kW wt) ⟨_,rfl,a,_,_,rfl,ha,rfl,rfl,_,rfl,br (by rw[e];exact kW Nd) ⟨_,rfl,a,_,_,rfl,ha,rfl,rfl,_,rfl,br (by rw[e];exact kW Na) (dh λp l=>k p _ l (put l) ae)⟩⟩
  |table c g sd sps=>
   rw[e]at k u C B;obtain⟨sp,as,D,hs,r⟩:=u
   have hl:as.length=sps.length:=by rw[r.1,be]
   have G:sps.length=ts.length:=B;refine dH AI λp l=>?_;have s1:=put l
   have o:i<as.length:=by lia
   have m:i<sps.length:=by lia
   have hp1:=r.2 i as[i] _ (B0 o) (by rw[B7,B0 m];rfl);obtain⟨g1,g2⟩:=C.2.2.2 _ (Pa m);refine⟨_,rfl,q,_,_,_,rfl,rfl,ba.of (s1 _ _ D),aN (j:=3) rfl,_,rfl,sp,_,_,_,rfl,rfl,ba.of (s1 _ _ hs),aN (j:=i) (by rw[B7,B0 o];rfl),as[i],_,",",rfl,s1 _ _ hp1,(by show 2<=10;decide),kF g1 g2,by decide +kernel,λH2 s2=>⟨s2 _ _ ae,(bD (.table c g sd sps) i).map kS,?_,(by show 1<=15;decide),?_⟩⟩
   ·rw[show NA "," ((kZ sps[i]).map tS)=two "," sps[i].1 sps[i].2 from f_ _ _ _];rw[om (B0 m)];rfl
   ·rw[c_ (ps:=bD (.table c g sd sps) i) (show(["span"]:List Str).Nodup by decide +kernel)];exact k p _ l (af.put (s1.trans s2) l) ae
  |flow sds ws j=>
   rw[e]at k u C B;obtain⟨Y,sp,D,M,_⟩:=u;have G:sds.length=ts.length:=B;refine br (kW ft) ⟨_,rfl,a,_,_,rfl,ha,rfl,rfl,_,rfl,dH (by rw[e];exact AI) λp l=>?_⟩;have s1:=put l
   have m:i<sds.length:=by lia
   refine⟨_,rfl,q,_,_,_,rfl,rfl,ba.of (s1 _ _ D),aN (j:=0) rfl,_,rfl,Y,_,_,_,rfl,rfl,ba.of (s1 _ _ M),aN (j:=i) (by unfold dm;rw[B7,B0 m];rfl),ae,(bD (.flow sds ws j) i).map kS,?_,(by show 1<=15;decide),?_⟩
   ·rw[qy (B0 m)];rfl
   ·rw[c_ (ps:=bD (.flow sds ws j) i) (show(["float"]:List Str).Nodup by decide +kernel)];exact k p _ l (af.put s1 l) ae
  |over ps=>
   rw[e]at k u C B;obtain⟨as,D,hl,r⟩:=u;have G:ts.length<=ps.length+1:=B;refine br (kW ot) ⟨_,rfl,a,_,_,rfl,ha,rfl,rfl,_,rfl,br (by rw[e];exact kW MJ) ⟨_,rfl,a,_,_,rfl,ha,rfl,rfl,_,rfl,dH (by rw[e];exact AI) ⟨_,rfl,_,_,rfl,rfl,_,rfl,?_⟩⟩⟩
   cases i with
   |zero=>exact br (decide_eq_false (by decide)) λp l=>k p _ l (put l) ae
   |succ i=>
    have m:i<ps.length:=by lia
    have o:i<as.length:=by lia
    obtain⟨b,c,O,U,W⟩:=r i as[i] ps[i] (B0 o) (B0 m);obtain⟨g1,g2⟩:=C _ (Pa m);refine dH (decide_eq_true (by lia)) ⟨_,rfl,_,rfl,_,_,rfl,rfl,q,_,_,_,rfl,rfl,ba.of D,Hc (j:=i) (by lia) (by rw[B7,B0 o];rfl),λp l=>?_⟩;have s1:=put l;refine⟨_,rfl,as[i],_,_,_,rfl,rfl,ba.of (s1 _ _ O),aN (j:=0) rfl,_,rfl,as[i],_,_,_,rfl,rfl,ba.of (s1 _ _ O),aN (j:=1) rfl,b,c,_,_,rfl,rfl,ba.of (s1 _ _ U),ba.of (s1 _ _ W),by simp,(by show 4<=sizeLine;decide),λz=>absurd z (by simp),λ_ t M=>?_⟩;have s2:af (upd H p (.dK [])) (upd (upd H p (.dK [])) t (.tup [.str ps[i].1.1,.int ps[i].1.2,.str ps[i].2.1,.int ps[i].2.2])):=af.put (af.refl _) M;refine⟨t,_,",",rfl,ae,(by show 4<=10;decide),?_,by decide +kernel,λH3 S=>⟨S _ _ (s2 _ _ ae),(bD (.over ps) (i+1)).map kS,?_,(by show 1<=15;decide),?_⟩⟩
    ·intro x hx
     have L:ps[i].1.1.length<=60:=by have :=g1.2.1;exact cP
     have N:ps[i].2.1.length<=60:=by have :=g2.2.1;exact cP
     rcases List.mem_cons.mp hx with z|hx
     ·rw[z];exact L
     rcases List.mem_cons.mp hx with z|hx
     ·rw[z];exact g1.2.2
     rcases List.mem_cons.mp hx with z|hx
     ·rw[z];exact N
     ·rw[List.mem_singleton.mp hx];exact g2.2.2
    ·rw[show NA "," (List.map tS ([V.str ps[i].1.1,V.int ps[i].1.2]++[V.str ps[i].2.1,V.int ps[i].2.2]))=four ps[i]from As _];rw[qE (B0 m)];rfl
    ·rw[c_ (ps:=bD (.over ps) (i+1)) (show(["at"]:List Str).Nodup by decide +kernel)];exact k p _ l (af.put (s1.trans (s2.trans S)) l) ae
inductive vN(vs:List V)(H:Hp)(Q:VK):Prop
 |mk (a p:B3) (d:cK) (ts:List B3) (eh:aY) (i:Nat) (c0:vs=[.ref a,.ref p]) (c1:Fo.jb H a d ts) (c2:d.wh.Good) (c3:d.own.Good) (c4:d.nm.length<=60) (c5:eh.Good) (c6:H p=some (.dK ((bD eh i).map kS))) (c7:∀H',af H H'->Q (.str (NA " " (fo d eh i))) H')
def qd:Sp:=λvs H Q _=>vN vs H Q
theorem hV:bG 0:=by show(0:Nat)<1000000000;decide
theorem ew(c:s.length<=2)(h1:bG a)(h2:bG b):(two s a b).length<=60:=by
 unfold two;rw[GE,GE];have :=fj h1;have :=fj h2
 lia
theorem sg(h:bG a):(nS a).length<=60:=by have :=fj h;exact cP
theorem kf(h1:il p.1)(h2:il p.2):(four p).length<=60:=by
 unfold four
 have e:(",":Str).length=1:=by decide +kernel
 simp only[GE,e];have :=fj h1.2.2;have :=fj h2.2.2;have :=h1.2.1;have :=h2.2.1
 lia
theorem all_cons{r:List (Str×Str)}(h:C q)(t:∀p∈r,C p):∀p∈q::r,C p:=λp a=>by
 rcases List.mem_cons.mp a with z|z
 ·rw[z];exact h
 ·exact t p z
theorem all_nil:∀p∈([]:List (Str×Str)),C p:=λp a=>nomatch a
theorem ux{o:Own}(r:o.Good)(d:wh.Good)(he:eh.Good):∀p∈cB o++(bt wh++bD eh i),p.2.length<=60:=by
 obtain⟨g1,g2,g3,v,w,n,s,u⟩:=r
 have m:("..":Str).length<=2:=by decide +kernel
 have h:(",":Str).length<=2:=by decide +kernel
 have A:∀p∈cB o,p.2.length<=60:=all_cons (ew m g1 g2) (all_cons (ew m g3 v) (all_cons (sg w) (all_cons (sg n) (all_cons (sg s) (all_cons (sg u) all_nil)))))
 have B:∀p∈bt wh,p.2.length<=60:=by
  cases wh with
  |leaf a b=>exact all_cons (ew h d.1 d.2) all_nil
  |lined k g al sd=>exact all_cons (sg d.1) (all_cons (by have :=d.2.1;show al.length<=60;exact cP) (all_cons (by have :=d.2.2;show sd.length<=60;exact cP) all_nil))
  |table c g sd sps=>exact all_cons (sg d.1) (all_cons (sg d.2.1) (all_cons (by have :=d.2.2.1;show sd.length<=60;exact cP) all_nil))
  |words ws j=>exact all_cons (mr d.1) (all_cons (sg d.2) all_nil)
  |flow sds ws j=>exact all_cons (mr d.2.1) (all_cons (sg d.2.2) all_nil)
  |over ps=>exact all_nil
 have C:∀p∈bD eh i,p.2.length<=60:=by
  cases eh with
  |leaf a b=>exact all_nil
  |lined k g al sd=>exact all_nil
  |words ws j=>exact all_nil
  |table c g sd sps=>
   refine all_cons ?_ all_nil;show(two "," (sps.getD i (1,1)).1 (sps.getD i (1,1)).2).length<=60;rw[Nj]
   cases e:sps[i]? with
   |none=>exact ew h (by show(1:Nat)<1000000000;decide) (by show(1:Nat)<1000000000;decide)
   |some q=>
    obtain⟨l,f⟩:=he.2.2.2 q (Do e);exact ew h l f
  |flow sds ws j=>
   refine all_cons ?_ all_nil;show(sds.getD i "left").length<=60;rw[Nj]
   cases e:sds[i]? with
   |none=>show("left":Str).length<=60;decide +kernel
   |some q=>
    show q.length<=60
    rcases he.1 q (Do e)with z|z<;>rw[z]<;>decide +kernel
  |over ps=>
   cases i with
   |zero=>exact all_nil
   |succ i=>
    refine all_cons ?_ all_nil;show(four (ps.getD i (("",0),("",0)))).length<=60;rw[Nj]
    cases e:ps[i]? with
    |none=>exact kf ⟨by decide +kernel,by decide +kernel,hV⟩ ⟨by decide +kernel,by decide +kernel,hV⟩
    |some q=>
     obtain⟨l,f⟩:=he q (Do e);exact kf l f
 intro p t
 rcases List.mem_append.mp t with z|z
 ·exact A p z
 ·rcases List.mem_append.mp z with z|z
  ·exact B p z
  ·exact C p z
theorem BR{t:Str}(h:lk ps x=some t):∃p∈ps,p.2=t:=by
 unfold lk at h;obtain⟨p,a,e⟩:=Option.map_eq_some_iff.mp h;exact⟨p,QW a,e⟩
theorem zq(ps:List (Str×Str))(p:Str×Str):(pick ps p).length<=1:=by unfold pick;exact Mt
theorem nQ(ps:List (Str×Str)):∀l:List (Str×Str),(l.flatMap (pick ps)).length<=l.length
 |[]=>B2 _
 |p::l=>by
  rw[Ob,B1,FB];have :=zq ps p;have :=nQ ps l
  lia
theorem nX:∀p∈bu,p.1.length<=10:=by decide +kernel
theorem EV(h:∀p∈ps,p.2.length<=60)(c:q.1.length<=10):LB 80 (pick ps q):=by
 unfold pick
 cases e:lk ps q.1 with
 |none=>exactλx hx=>by rw[show((none:Option Str).getD q.2)=q.2 from rfl,if_pos rfl]at hx;cases hx
 |some t=>
  obtain⟨p,b,rfl⟩:=BR e;refine LB.ite ?_;have :=h p b
  have a:("=":Str).length=1:=by decide +kernel
  rw[GE,GE,a];show q.1.length+1+p.2.length<=80
  lia
theorem yo(h:∀p∈ps,p.2.length<=60):∀(l:List (Str×Str)),(∀p∈l,p.1.length<=10)->LB 80 (l.flatMap (pick ps))
 |[],_=>LB.nil
 |p::l,hl=>by
  rw[Ob];exact LB.app (EV h (hl p B6)) (yo h l λq a=>hl q (De _ a))
theorem zF(o:Own)(wh eh:aY)(i:Nat):((cB o++bt wh++bD eh i).map (·.1)).Nodup:=by
 have h:∀a∈([["wish"],["gap","align","side"],["columns","gap","side"],["text","joint"],[]]:List (List Str)),∀b∈([["span"],["float"],["at"],[]]:List (List Str)),((["wide","high","grow","shrink","rank","alike"]:List Str)++a++b).Nodup:=by decide +kernel
 rw[Da,Da];refine h _ ?_ _ ?_
 ·cases wh<;>simp[bt]
 ·unfold bD
  split<;>simp
theorem lR(a:d.wh.Good)(he:eh.Good):fo d eh i=d.wh.kd::d.nm::bu.flatMap (pick (cB d.own++(bt d.wh++bD eh i))):=by
 unfold fo;rw[HY d.own a he]
theorem mf(a:d.wh.Good)(b:d.own.Good)(hn:d.nm.length<=60)(he:eh.Good):LB 80 (fo d eh i)/\(fo d eh i).length<=18:=by
 rw[lR a he];constructor
 ·intro x hx
  rcases List.mem_cons.mp hx with z|hx
  ·rw[z];have :=kd_len d.wh;exact cP
  rcases List.mem_cons.mp hx with z|hx
  ·rw[z];exact cP
  ·exact yo (ux b a he) _ nX x hx
 ·have :=nQ (cB d.own++(bt d.wh++bD eh i)) bu;rw[FB,FB];have e:bu.length=16:=rfl
  lia
theorem fV:aw ["box","as_part","told","words","word","plain"] ZI (aj ib):=cD
inductive qxC(a p g l:B3)(H:Hp)(ps:List (Str×Str))(d:cK)(j:Nat)(σ:St)(x:Hp):Prop|mk(u4 u5:_)(_:σ=[some (.ref a),some (.ref p),some (.ref g),some (.ref l),u4,u5])(_:af H x)(_:x g=some (.dK (ps.map kS)))(_:x l=some (.lst ((d.wh.kd::d.nm::(bu.take j).flatMap (pick ps)).map V.str)))
theorem vg{fN fO:B3}{dK dN dO:O4}(F:aZ K "row_text" "row_text" ib f fd)(G:Hv P w K mg aL aP)(G1:av P w K mg base aK 2 f1 d1 ["own"] pM)(J1:Cq K mg d1 f1 ["own"] "own_told")(G2:av P w K mg base aK 2 f2 d2 Zu oH)(J2:Cq K mg d2 f2 Zu "what_told")(GK:av P w K mg base aK 1 fK dK Zb (di 0))(JK:Cq K mg dK fK Zb "kind_of")(GN:av P w K mg base aK 1 fN dN Zb (di 1))(JN:Cq K mg dN fN Zb "name_of")(GO:av P w K mg base aK 1 fO dO Zb (di 2))(JO:Cq K mg dO fO Zb "own_of")(GW:av P w K mg base aK 1 fW dW Zb (di 3))(JW:Cq K mg dW fW Zb "what_of"):av P w K mg base aK 3 f fd ZI qd:=by
 refine F.cI fV λcdv A outer s H vs Q E hr h=>?_
 ·obtain⟨a,p,d,ts,eh,i,e,⟨ao,q,ap,ha,b2,hw,_⟩,hg,J,a8,C,hp,k⟩:=h;subst e;have u:=hr.mono (j:=1) (by decide)
  have hu:(A.deeper (NB "row_text" (aj ib) s.heap.objs.size f cdv)).units+1<OX:=by have :=hr.units;lia
  refine⟨_,ah (aB (i:=2) fV.nd rfl (Ki rfl) (pq G1 hr J1 (aa (pq GO u JO (aa (pv 0) ab)) ab)))
   (ah (cu (cw OZ Q8 Td oA (pv 2) (aa (pq G2 hr J2 (aa (pq GK u JK (aa (pv 0) ab)) (aa (pq GW u JW (aa (pv 0) ab)) ab))) ab)))
   (ah (cu (cw OZ Q8 Td oA (pv 2) (aa (pv 1) ab)))
   (ah (aB (i:=3) fV.nd rfl (Ki rfl) (bU (aa (pq GK u JK (aa (pv 0) ab)) (aa (pq GN u JN (aa (pv 0) ab)) ab))))
   (ah (cx Np rfl (zO G.dP (aU (v:= .ref aP) (by rfl) G.mP rfl)) (kR rfl (bN (aV (i:=4) fV.nd rfl (Ki rfl)) (bN (aV (i:=5) fV.nd rfl (Ki rfl)) iL)))
    (ai (aR (aA kr (DJ hu (pv 2) (pv 4) (pv 5) ⟨rfl,rfl,rfl,rfl⟩) (pv 5) (aF _))
     (ai (cu (cw NJ Od Oc cR (pv 3) (aa (aJ bP (aJ bP (pv 4) ar) (bR hu (pv 2) (pv 4) (λ_ _=>rfl))) ab)))) az)))
   (ai (au (cw Nu PM PL ma ar (aa (pv 3) ab)))))))),?_⟩
  refine aq λN1 S=>?_;refine⟨_,rfl,a,_,_,rfl,ha,rfl,ao,d.own,rfl,b2,J,λg H1 O s1 h1=>S _ _ ?_⟩;clear S N1;refine aq λN2 a2=>?_;have M:=s1 _ _ ha;refine⟨_,rfl,.inr (.inr (.inl ⟨rfl,.inl ⟨_,h1⟩⟩)),_,rfl,a,_,_,rfl,M,rfl,_,rfl,a,_,_,rfl,M,rfl,q,d.wh,rfl,hw.keep (KT.same s1),hg,λdw H2 Y s2 h2=>?_⟩
  have a3:g≠dw:=λz=>by rw[<-z,h1]at Y;cases Y
  refine⟨g,dw,_,_,rfl,rfl,a3,s2 _ _ h1,.inl h2,?_,a2 _ _ ?_⟩
  ·rw[be,be]
   have :(bt d.wh).length<=3:=by cases d.wh<;>simp[bt]
   show 6+_<=sizeLine;rw[O8];lia
  clear a2 N2;have B:=zF d.own d.wh eh i
  have T:((cB d.own++bt d.wh).map (·.1)).Nodup:=by
   rw[Da]at B;exact(List.nodup_append.mp B).1
  rw[qh T];have D:=s1.trans s2
  have X:p≠g:=λz=>by rw[z,O]at hp;cases hp
  have a0:∀b o,b≠g->H2 b=some o->(upd H2 g (.dK ((cB d.own++bt d.wh).map kS))) b=some o:=λb o hb e=>by rw[ak hb];exact e
  have h3:(upd H2 g (.dK ((cB d.own++bt d.wh).map kS))) g=some (.dK ((cB d.own++bt d.wh).map kS)):=ae;have a1:=a0 _ _ X (D _ _ hp);have S3:af H (upd H2 g (.dK ((cB d.own++bt d.wh).map kS))):=af.put D O;generalize upd H2 g (.dK ((cB d.own++bt d.wh).map kS))=H3 at *;refine aq λN3 a4=>?_;refine⟨_,rfl,.inr (.inr (.inl ⟨rfl,.inl ⟨_,h3⟩⟩)),_,rfl,g,p,_,_,rfl,rfl,B9 X,h3,.inl a1,?_,a4 _ _ ?_⟩
  ·rw[be,be,B1]
   have :(bt d.wh).length<=3:=by cases d.wh<;>simp[bt]
   have :(bD eh i).length<=1:=by unfold bD;split<;>simp
   show 6+_+_<=sizeLine;rw[O8];lia
  clear a4 N3;rw[qh B,IR];have h4:(upd H3 g (.dK ((cB d.own++(bt d.wh++bD eh i)).map kS))) g=some (.dK ((cB d.own++(bt d.wh++bD eh i)).map kS)):=ae;have Z:af H (upd H3 g (.dK ((cB d.own++(bt d.wh++bD eh i)).map kS))):=af.put S3 O;have tl:=ux (i:=i) J hg C;have b0:=lR (i:=i) hg C;generalize cB d.own++(bt d.wh++bD eh i)=ps at *;generalize upd H3 g (.dK (ps.map kS))=H4 at *;clear h3 a1 a0 S3 D h2 h1 M s1 s2 a3 T B;refine aq λN4 a6=>?_;refine⟨_,rfl,a,_,_,rfl,Z _ _ ha,rfl,_,rfl,a,_,_,rfl,Z _ _ ha,rfl,(by show 2<=sizeLine;decide),λl hl=>a6 _ _ ?_⟩;clear a6 N4;have h5:(upd H4 l (.lst [.str d.wh.kd,.str d.nm])) l=some (.lst ((d.wh.kd::d.nm::(bu.take 0).flatMap (pick ps)).map V.str)):=ae
  have nl:g≠l:=λz=>by rw[<-z,h4]at hl;cases hl
  have d5:(upd H4 l (.lst [.str d.wh.kd,.str d.nm])) g=some (.dK (ps.map kS)):=(ak nl).trans h4;have S5:af H (upd H4 l (.lst [.str d.wh.kd,.str d.nm])):=af.put Z (Z.free hl);have a9:H l=none:=Z.free hl;generalize upd H4 l (.lst [.str d.wh.kd,.str d.nm])=H5 at *;refine aq λN5 b4=>?_;refine⟨rfl,wu (kvs:=bu.map kS) (qxC a p g l H ps d) ⟨_,_,rfl,S5,d5,h5⟩ ?_ ?_⟩
  ·rintro j kk v t σ x hj ht ⟨u4,u5,rfl,S9,d9,h9⟩;rw[B7]at hj;obtain⟨wp,W,e0⟩:=Option.map_eq_some_iff.mp hj;obtain⟨r,pl⟩:=wp;have e1:(NV r:Key)=kk:=congrArg SU e0;have e2:V.str pl=v:=congrArg Prod.snd e0;subst e1 e2;have a5:=Do W;have b8:r.length<=10:=nX _ a5;have b1:(upd x t (.tup [kV (NV r),V.str pl])) t=some (.tup [V.str r,V.str pl]):=ae;have N:af x (upd x t (.tup [kV (NV r),V.str pl])):=af.put (af.refl _) ht;have m:=N _ _ d9;have y:=N _ _ h9;have I:=S9.trans N;generalize upd x t (.tup [kV (NV r),V.str pl])=b6 at *
   have L:(bu.take (j+1)).flatMap (pick ps)=(bu.take j).flatMap (pick ps)++pick ps (r,pl):=by rw[Pd,W,OM];simp
   have U:cv (ps.map kS) (NV r:Key)=(lk ps r).map V.str:=vm ps r;have R:=fR.k (k:=NV r) m;rw[U]at R
   have b5:((bu.take j).flatMap (pick ps)).length<=16:=by
    have :=nQ ps (bu.take j);rw[OT]at this;have e:bu.length=16:=rfl
    lia
   refine⟨t,_,rfl,ba.of b1,rfl,_,_,rfl,_,_,rfl,rfl,?_⟩
   cases n:lk ps r with
   |none=>
    rw[n]at R;refine⟨_,rfl,g,rfl,.inl ⟨_,.inl m⟩,_,rfl,_,rfl,_,R,_,rfl,rfl,_,rfl,?_⟩
    show if(!decide (V.str pl=V.str pl))=true then _ else _
    rw[AI];refine dh ?_;refine⟨_,_,rfl,I,m,?_⟩;rw[L,aE n,Dk];exact y
   |some tx=>
    rw[n]at R;obtain⟨q0,a7,b3⟩:=BR n
    have b7:tx.length<=60:=by rw[<-b3];exact tl q0 a7
    refine⟨_,rfl,g,rfl,.inl ⟨_,.inl m⟩,_,rfl,_,rfl,_,R,_,rfl,rfl,_,rfl,?_⟩
    show if(!decide (V.str tx=V.str pl))=true then _ else _
    by_cases c:tx=pl
    ·rw[decide_eq_true (by rw[c])];refine dh ⟨_,_,rfl,I,m,?_⟩;rw[L,bh n,if_pos c,Dk];exact y
    ·rw[kW c]
     have e1:("=":Str).length=1:=by decide +kernel
     refine eY ⟨_,rfl,.inl ⟨rfl,_,bf.of y⟩,_,rfl,_,_,rfl,rfl,aG (by rw[e1];lia),_,rfl,_,rfl,g,_,rfl,R,_,_,rfl,rfl,aG (by rw[GE,e1];lia),l,_,_,rfl,rfl,y,small (by rw[be,FB,FB];lia),?_⟩;refine⟨_,_,rfl,af.put I a9,(ak nl).trans m,?_⟩;rw[ae,L,bh n,if_neg c,<-Pb,<-Pb,Da (l₂:=[_])];rfl
  ·rintro σ x ⟨u4,u5,rfl,S9,d9,h9⟩;rw[be,O_,<-b0]at h9;refine b4 _ _ ?_;obtain⟨r1,r2⟩:=mf (i:=i) hg J a8 C;refine⟨rfl,_,rfl," ",l,fo d eh i,rfl,rfl,bf.of h9,?_,k x S9⟩;have :=kP (fo d eh i) r1
   have e:(" ":Str).length=1:=by decide +kernel
   rw[e]
   lia
noncomputable def bX:aY:= .leaf 0 0
theorem dV:bX.Good:=⟨hV,hV⟩
inductive sH(m:Nat)(vs:List V)(H:Hp)(Q:VK):Prop
 |mk (a p:B3) (d:cK) (cs:Fo) (n:Nat) (eh:aY) (i:Nat) (c0:vs=[.ref a,.int (n:Int),.ref p]) (c1:(Fo.cons a d cs .nil).Ok H) (c2:(Fo.cons a d cs .nil).Good) (c3:cs.bW<m) (c4:cs.cnt<=100) (c5:n+m<=100) (c6:eh.Good) (c7:H p=some (.dK ((bD eh i).map kS))) (c8:∀(l:B3)(H':Hp),H l=none->af H H'->H' l=some (.lst ((bY d n eh i::aS cs (n+1) d.wh 0).map V.str))->Q (.ref l) H')
def mB(m:Nat):Sp:=λvs H Q _=>sH m vs H Q
inductive uC(vs:List V)(H:Hp)(Q:VK):Prop
 |mk (a:B3) (d:cK) (cs:Fo) (c0:vs=[.ref a]) (c1:(Fo.cons a d cs .nil).Ok H) (c2:(Fo.cons a d cs .nil).Good) (c3:cs.bW<12) (c4:cs.cnt<=20) (c5:∀H',af H H'->Q (.str (NA "\n" (bY d 0 bX 0::aS cs 1 d.wh 0))) H')
def gM:Sp:=λvs H Q _=>uC vs H Q
theorem mW(hn:n<=200)(f:d.wh.Good)(g:d.own.Good)(a:d.nm.length<=60)(he:eh.Good):(bY d n eh i).length<=2000:=by
 unfold bY;obtain⟨b,c⟩:=mf (i:=i) f g a he;have h1:=fi " " (fo d eh i) b
 have e:(" ":Str).length=1:=by decide +kernel
 have h:("  ":Str).length=2:=by decide +kernel
 rw[e]at h1;rw[GE,oD,h];have :(fo d eh i).length*81<=18*81:=QC _ c
 lia
theorem jK:∀(F:Fo)(n:Nat)(eh:aY)(i:Nat),F.Good->eh.Good->n+F.bW<=200->LB 2000 (aS F n eh i)
 | .nil,_,_,_,_,_,_=>LB.nil
 | .cons a d cs as,n,eh,i,⟨⟨h1,h2,c,_⟩,b,f⟩,he,hn=>by
  have hm:n+max (cs.bW+1) as.bW<=200:=hn;have e:aS (.cons a d cs as) n eh i=[bY d n eh i]++(aS cs (n+1) d.wh 0++aS as n eh (i+1)):=rfl;rw[e];exact LB.app (LB.one (mW (by lia) h1 h2 c he)) (LB.app (jK cs (n+1) d.wh 0 b h1 (by lia)) (jK as n eh (i+1) f he (by lia)))
theorem fg:aw ["box","depth","as_part","rows","place","part"] Zv (aj iE):=cD
theorem l_:("  ":Str).length=2:=by decide +kernel
inductive qxD(a p l:B3)(n i:Nat)(cs:Fo)(H:Hp)(d:cK)(eh:aY)(j:Nat)(σ:St)(y:Hp):Prop|mk(g R:Fo)(u4 u5:Option V)(_:σ=[some (.ref a),some (.int (n:Int)),some (.ref p),some (.ref l),u4,u5])(_:cs=g.app R)(_:g.aD.length=j)(_:af H y)(_:y l=some (.lst ((bY d n eh i::aS g (n+1) d.wh 0).map V.str)))
theorem uG(F:aZ K "text_rows" "text_rows" iE f fd)(N:aO mg)(G:Hv P w K mg aL aP)(G1:av P w K mg base aK 3 f1 d1 ZI qd)(J1:Cq K mg d1 f1 ZI "row_text")(G2:av P w K mg base aK 2 f2 d2 ZH mH)(J2:Cq K mg d2 f2 ZH "part_told")(G3:av P w K mg base aK 1 f3 d3 Zb (di 4))(J3:Cq K mg d3 f3 Zb "parts_of")(JF:Cq K mg fd f Zv "text_rows"):∀m:Nat,av P w K mg base aK (m+4) f fd Zv (mB m):=by
 obtain⟨tI,mI⟩:=G.mI;intro m
 induction m with
 |zero=>
  refine F.ok fg (λvs H Q E h=>?_) (λcdv A outer s H vs Q E Z h=>?_)
  ·obtain⟨a,p,d,cs,n,eh,i,e,_⟩:=h;rw[e];rfl
  ·obtain⟨a,p,d,cs,n,eh,i,e,_,_,hh,_⟩:=h;exact absurd hh (Pn _)
 |succ m ih=>
  refine F.ok fg (λvs H Q E h=>?_) (λcdv A outer s H vs Q E Z h=>?_)
  ·obtain⟨a,p,d,cs,n,eh,i,e,_⟩:=h;rw[e];rfl
  ·obtain⟨a,p,d,cs,n,eh,i,e,⟨r,a4,_⟩,⟨⟨g1,g2,g3,g4⟩,gc,_⟩,hh,hc,hn,T,hp,k⟩:=h;subst e;have a6:=Z.mono (j:=3) DY;have a1:=Z.mono (j:=2) DY;have b1:=Z.mono (j:=1) DY
   refine⟨_,ah (aB (i:=3) fg.nd rfl (Ki rfl) (bU (aa (aJ bP (aJ xC (aU (v:= .str "  ") (by rfl) mI ⟨tI,rfl⟩) (pv 1)) (pq G1 a6 J1 (aa (pv 0) (aa (pv 2) ab)))) ab)))
    (ah (cx Np rfl (Jf (by rfl) N.enum (aa (pq G3 b1 J3 (aa (pv 0) ab)) ab)) (kR rfl (bN (aV (i:=4) fg.nd rfl (Ki rfl)) (bN (aV (i:=5) fg.nd rfl (Ki rfl)) iL)))
     (ai (cu (cw NJ Te Tc pG (pv 3) (aa (pq ih Z JF (aa (pv 5) (aa (aJ bz (pv 1) ag) (aa (pq G2 a1 J2 (aa (pv 0) (aa (pv 4) ab))) ab)))) ab)))))
    (ai (au (pv 3)))),?_⟩
   obtain⟨ao,q,ap,ha,c2,hw,X⟩:=id r;refine aq λN1 W=>?_;refine⟨_,rfl,"  ",n,rfl,rfl,by lia,by rw[l_];decide,by rw[l_];decide,_,rfl,_,rfl,a,p,d,cs.aD,eh,i,rfl,r,g1,g2,g3,T,hp,λH1 s1=>?_⟩;have rl:=mf (i:=i) g1 g2 g3 T;have rg:=fi " " (fo d eh i) rl.1
   have e1:(" ":Str).length=1:=by decide +kernel
   rw[e1]at rg;have c0:(fo d eh i).length*81<=18*81:=QC _ rl.2;refine⟨_,_,rfl,rfl,aG (by rw[oD,l_];lia),(by show 1<=sizeLine;decide),λl hl=>W _ _ ?_⟩;clear W N1;have L:H l=none:=s1.free hl;have s2:af H (upd H1 l (.lst [.str (nk "  " n++NA " " (fo d eh i))])):=af.put s1 L;have h2:(upd H1 l (.lst [.str (nk "  " n++NA " " (fo d eh i))])) l=some (.lst ((bY d n eh i::aS .nil (n+1) d.wh 0).map V.str)):=ae;generalize upd H1 l (.lst [.str (nk "  " n++NA " " (fo d eh i))])=H2 at *;refine aq λN2 a7=>?_;refine⟨_,rfl,a,_,_,rfl,s2 _ _ ha,rfl,ap,rfl,⟨_,ba.of (s2 _ _ X)⟩,?_⟩
   refine ID (Sq:=λH xs=>ba K H ap xs) (k:=0) (xs:=cs.aD.map V.ref) (qxD a p l n i cs H d eh)
    ⟨.nil,cs,none,none,rfl,rfl,rfl,s2,h2⟩ (λj σ y _ a8=>by obtain⟨_,_,_,_,_,_,_,z,_⟩:=a8;exact ba.of (z _ _ X)) ?_ ?_
   ·rintro j x t σ y hx ht ⟨g,R,u4,u5,rfl,b,S,S9,h9⟩;rw[B7,b,Fo.bx,GM (by lia),S,Rr]at hx
    cases R with
    |nil=>cases hx
    |cons c C B as=>
     have ex:V.ref c=x:=Kf hx;subst ex;have a9:(upd y t (.tup [.int (0+(j:Int)),.ref c])) t=some (.tup [.int (0+(j:Int)),.ref c]):=ae;have a0:af y (upd y t (.tup [.int (0+(j:Int)),.ref c])):=af.put (af.refl _) ht;have D:=a0 _ _ h9;have O:=S9.trans a0;generalize upd y t (.tup [.int (0+(j:Int)),.ref c])=c1 at *;have u:=a4.keep (KT.same O);have J:=gc;have M:=hc;have I:=hh;rw[b]at u J M I;rw[Fo.fS]at u;rw[Fo.fc]at J;rw[Fo.ee]at M;rw[Fo.fI]at I;obtain⟨-,bc,a5,-⟩:=u;obtain⟨-,gd,a2,-⟩:=J;have b4:g.cnt+(B.cnt+as.cnt+1)<=100:=M;have b5:max g.bW (max (B.bW+1) as.bW)<m+1:=I
     have b3:j<cs.aD.length:=by
      rw[b,Fo.bx,B1,S];show j<j+(as.aD.length+1)
      lia
     refine⟨t,_,rfl,ba.of a9,rfl,_,_,rfl,_,_,rfl,rfl,?_⟩;refine⟨_,rfl,.inl ⟨rfl,_,bf.of D⟩,_,rfl,_,rfl,_,_,rfl,rfl,_,rfl,_,rfl,?_⟩;refine⟨a,d,cs.aD,j,by rw[show(0:Int)+(j:Int)=(j:Int)from Int.zero_add _];rfl,r.keep (KT.same O),g1,g4,b3,λpp b9 b7 o b0=>?_⟩;have a3:=O.trans o;refine⟨c,pp,C,B,n+1,d.wh,j,rfl,⟨bc.keep (KT.same o),a5.keep (KT.same o),trivial⟩,⟨gd,a2,trivial⟩,by lia,by lia,by lia,g1,b0,λlr c3 U Y b2=>?_⟩
     have n1:l≠lr:=λz=>by rw[<-z,o _ _ D]at U;cases U
     have b6:=dR 0 bX g (n+1) d.wh 0;have b8:=dR 0 bX B (n+1+1) C.wh 0;refine⟨l,lr,_,_,rfl,rfl,(o.trans Y) _ _ D,b2,aG (by rw[be,be,FB,FB];lia),?_⟩;refine⟨g.app (.cons c C B .nil),as,_,_,rfl,by rw[b,Fo.qY];rfl,by rw[Fo.bx,B1,S];rfl,af.put (a3.trans Y) L,?_⟩;rw[ae,qj,<-Da];rw[S,TU];show some (HO.lst (((bY d n eh i::aS g (n+1) d.wh 0)++(bY C (n+1) d.wh j::aS B (n+1+1) C.wh 0)).map V.str))=some (HO.lst ((bY d n eh i::(aS g (n+1) d.wh 0++(bY C (n+1) d.wh j::(aS B (n+1+1) C.wh 0++[])))).map V.str));rw[Dk];rfl
   ·rintro σ y ⟨g,R,u4,u5,rfl,b,S,S9,h9⟩;refine a7 _ _ ?_
    have e2:R= .nil:=by
     have e:=congrArg (λF=>F.aD.length) b;have e':cs.aD.length=(g.app R).aD.length:=e;rw[Fo.bx,B1,S,be]at e'
     cases R with
     |nil=>rfl
     |cons c C B as=>
      have :(Fo.cons c C B as).aD.length=as.aD.length+1:=rfl
      lia
    subst e2;rw[Fo.yb]at b;subst b;exact⟨_,rfl,k l y L S9 h9⟩
theorem xm:aw Ze Ze (aj iK):=cD
theorem tj(F:aZ K "tree_text" "tree_text" iK f fd)(G1:av P w K mg base aK 16 f1 d1 Zv (mB 12))(o:Cq K mg d1 f1 Zv "text_rows"):av P w K mg base aK 17 f fd Ze gM:=by
 refine F.cI xm λcdv A outer s H vs Q E j h=>?_
 ·obtain⟨a,d,cs,e,hok,b,g,r,k⟩:=h;subst e;refine⟨_,ai (au (cw Nu PM PL ma ar (aa (pq G1 j o (aa (pv 0) (aa ag (aa gk ab)))) ab))),?_⟩;refine⟨rfl,_,rfl,λp n=>?_⟩;have s1:af H (upd H p (.dK [])):=af.put (af.refl _) n;have h1:(upd H p (.dK [])) p=some (.dK ((bD bX 0).map kS)):=ae;generalize upd H p (.dK [])=H1 at *;refine⟨a,p,d,cs,0,bX,0,rfl,hok.keep (KT.same s1),b,g,cP,by decide,dV,h1,λl H2 hl s2 h2=>?_⟩;refine⟨"\n",l,_,rfl,rfl,bf.of h2,?_,k H2 (s1.trans s2)⟩
  have e:("\n":Str).length=1:=by decide +kernel
  obtain⟨⟨g1,g2,g3,_⟩,m,_⟩:=b;have i:LB 2000 (bY d 0 bX 0::aS cs (0+1) d.wh 0):=LB.app (a:=[bY d 0 bX 0]) (LB.one (mW (by decide) g1 g2 g3 dV)) (jK cs 1 d.wh 0 m g1 (by lia));have q:=kP _ i;have c:=dR 0 bX cs (0+1) d.wh 0;rw[FB,c]at q;rw[e,FB,c];have :(cs.cnt+1)*2000<=21*2000:=QC _ Ik
  lia
theorem same_none{b:B3}(s:af H H')(h:H' b=none):H b=none:=by
 cases e:H b with
 |none=>rfl
 |some o=>rw[s b o e]at h;cases h
section
variable{X:Cx}
def Lf(_ j:Int):Prop:=0<j/\j.natAbs.log2<9000
theorem A2:ir X (PF .FloorDiv) (rI Lf λi j=> .int (i/j)):=Lm λi j _ _ _ _ _ a q=>by
 have h1:(0:Int)<j:=a.1;exact PyProof.Rows.floordiv_int (by lia) (by rw[SX i M7];exact q) (.inl (PyProof.noPylong_of_log2 a.2))
end
def Kp(st:B3)(H H':Hp):Prop:=∀b o,b≠st->H b=some o->H' b=some o
theorem Kp.refl{st:B3}(H:Hp):Kp st H H:=λ_ _ _ h=>h
theorem Kp.trans{st:B3}(a:Kp st H H1)(b:Kp st H1 H2):Kp st H H2:=λc o n h=>b c o n (a c o n h)
theorem Kp.store{st:B3}:Kp st H (upd H st o):=λb o' n h=>by rw[ak n];exact h
theorem Kp.put{st D:B3}(k:Kp st H H')(h:H D=none):Kp st H (upd H' D o):=λb o' n a=>by
 rw[ak (λz=>by rw[z,h]at a;cases a)];exact k b o' n a
theorem Kp.gone{st D:B3}(k:Kp st H H')(n:D≠st)(h:H' D=none):H D=none:=by
 cases e:H D with
 |none=>rfl
 |some o=>rw[k D o n e]at h;cases h
theorem int_at{us:List Int}{x:V}(h:(us.map V.int)[i]? =some x):∃c,us[i]? =some c/\x= .int c:=by
 rw[B7]at h
 cases e:us[i]? with
 |none=>rw[e]at h;cases h
 |some c=>rw[e]at h;cases h;exact⟨c,rfl,rfl⟩
theorem DF(ns:List Int)(lo hi:Option Int):∃us:List Int,hY (ns.map V.int) lo hi=us.map V.int/\us.length<=ns.length:=by
 refine⟨(ns.drop (HT.cZ (ns.map V.int).length 0 lo)).take (HT.cZ (ns.map V.int).length (ns.map V.int).length hi-HT.cZ (ns.map V.int).length 0 lo),?_,?_⟩
 ·unfold hY;rw[List.map_take,List.map_drop]
 ·rw[OT,Ot]
  lia
theorem MG{ns:List Int}{j:Nat}(h:j<ns.length):jX (ns.map V.int) ((j:Nat):Int)=some (.int (ns.getD j 0)):=aN (by rw[B7,Nj,B0 h];rfl)
inductive Af(K:mo)(vs:List V)(H:Hp)(Q:VK):Prop
 |mk (a:B3) (ns:List Int) (c0:vs=[.ref a]) (c1:bf K H a (ns.map V.int)) (c2:ns.length<=63) (c3:∀(l:B3)(d z:Int)(H':Hp),H l=none->af H H'->H' l=some (.lst [.int d,.int z])->Q (.ref l) H')
def ue(K:mo):Sp:=λvs H Q _=>Af K vs H Q
inductive Er(vs:List V)(H:Hp)(Q:VK):Prop
 |mk (st:B3) (d z m:Int) (c0:vs=[.ref st,.int m]) (c1:H st=some (.lst [.int d,.int z])) (c2:0<m) (c3:m<1073741824) (c4:∀v d' z':Int,0<=v->v<m->Q (.int v) (upd H st (.lst [.int d',.int z'])))
def gv:Sp:=λvs H Q _=>Er vs H Q
theorem gi:aw ["_law_script","_law_seed","_law_cell","_law_digits"] Zm (aj yc):=cD
theorem yR(F:aZ K "_law_stream" "_law_stream" yc f fd)(N:aO mg):av P w K mg base aK 1 f fd Zm (ue K):=by
 refine F.cI gi λcdv A outer s H vs Q E u h=>?_
 ·obtain⟨a,ns,e,q,hn,k⟩:=h;subst e
  refine⟨_,ah (aB (i:=1) gi.nd rfl (Ki rfl) ag)
   (ah (cx Np rfl (dr (eD sf (pv 0) fE (fF ag))) (aV (i:=2) gi.nd rfl (Ki rfl))
    (ai (aB (i:=1) gi.nd rfl (Ki rfl) (aJ fP (aJ bz (aJ oN (pv 1) ag) (pv 2)) ag))))
   (ah (aB (i:=3) gi.nd rfl (Ki rfl) ag)
   (ah (aR (cM (aA lG (aH bq (by rfl) N.len NI (aa (pv 0) ab)) ag (aF _)) (cA (aA bE (aJ fP (ay bB (pv 0) ag (λ_ _=>rfl)) ag) ag (aF _)))).pt
    (ai (aB (i:=3) gi.nd rfl (Ki rfl) (aH Cb (by rfl) N.abs PyProof.Rows.boot_abs (aa (ay bB (pv 0) ag (λ_ _=>rfl)) ab)))) az)
   (ai (au (bU (aa (pv 3) (aa (pv 1) ab)))))))),?_⟩
  refine⟨_,rfl,_,rfl,a,_,rfl,q,λn o=>?_⟩;obtain⟨us,r,v⟩:=DF ns none (some 63);rw[r];have s1:af H (upd H n (.lst (us.map V.int))):=af.put (af.refl _) o;have h1:(upd H n (.lst (us.map V.int))) n=some (.lst (us.map V.int)):=ae;generalize upd H n (.lst (us.map V.int))=H1 at *;have g:=s1.seq q;refine⟨n,rfl,⟨_,bf.of h1⟩,ki (K:=K) (a:=n) (xs:=us.map V.int) (λi σ m=>(∃(z:Int)(p:Option V),σ=[some (.ref a),some (.int z),p,none])/\m=H1) ⟨⟨_,none,rfl⟩,rfl⟩ (λi σ m _ t=>by rw[t.2];exact bf.of h1) ?_ ?_⟩
  ·rintro i x σ m hx ⟨⟨z,p,rfl⟩,rfl⟩;obtain⟨c,_,rfl⟩:=int_at hx;exact⟨_,rfl,_,_,rfl,rfl,.inr ⟨by decide,by decide⟩,_,rfl,_,_,rfl,rfl,_,_,rfl,rfl,(by show(0:Int)<2305843009213693951;decide),⟨_,_,rfl⟩,rfl⟩
  ·rintro σ m ⟨⟨z,p,rfl⟩,rfl⟩;have b:∀(d:Int)(l:B3),m l=none->Q (.ref l) (upd m l (.lst [.int d,.int z])):=λd l hl=>k l d z _ (same_none s1 hl) (af.put s1 (same_none s1 hl)) ae;refine⟨_,rfl,a,_,rfl,.inl g,_,_,rfl,rfl,_,rfl,dM (λc=>?_) (λ_=>dh ?_)⟩
   ·have hl:1<ns.length:=by
     have z:=of_decide_eq_true c;rw[be]at z
     lia
    refine⟨_,rfl,a,_,_,_,rfl,rfl,g,MG (j:=0) (by lia),_,_,rfl,rfl,(by show(0:Int)<2;decide),rfl,_,rfl,dM (λ_=>?_) (λ_=>?_)⟩
    ·refine⟨_,rfl,a,_,_,_,rfl,rfl,g,MG (j:=1) hl,_,rfl,?_⟩;exact⟨_,rfl,_,rfl,(by show 2<=sizeLine;decide),λl hl=>b _ l hl⟩
    ·exact⟨_,rfl,_,rfl,(by show 2<=sizeLine;decide),λl hl=>b _ l hl⟩
   ·exact⟨_,rfl,_,rfl,(by show 2<=sizeLine;decide),λl hl=>b _ l hl⟩
theorem Bc:aw ["_law_stream_here","_law_many","_law_digit"] Zg (aj ym):=cD
theorem Ee(F:aZ K "_law_take" "_law_take" ym f fd):av P w K mg base aK 1 f fd Zg gv:=by
 refine F.cI Bc λcdv A outer s H vs Q E l h=>?_
 ·obtain⟨st,d,z,m,e,a,hm,g,k⟩:=h;subst e
  refine⟨_,ah (aR (aA lG (ay bB (pv 0) ag (λ_ _=>rfl)) ag (aF _))
    (ah (aB (i:=2) Bc.nd rfl (Ki rfl) (aJ fP (ay bB (pv 0) ag (λ_ _=>rfl)) (pv 1)))
    (ah (rQ (aJ sk (ay bB (pv 0) ag (λ_ _=>rfl)) (pv 1)) (Cu (pv 0) ag set_list))
    (ai (au (pv 2))))) az)
   (ah (rQ (aJ fP (aJ bz (aJ oN (ay bB (pv 0) ag (λ_ _=>rfl)) ag) ag) ag) (Cu (pv 0) ag set_list))
   (ai (au (aJ fP (aJ bz (aJ fP (aJ oN (ay bB (pv 0) ag (λ_ _=>rfl)) ag) ag) (aJ A2 (ay bB (pv 0) ag (λ_ _=>rfl)) ag)) (pv 1))))),?_⟩
  have b:∀x y:V,jX [x,y] 0=some x:=λx y=>rfl;have j:∀x y:V,jX [x,y] 1=some y:=λx y=>rfl;refine⟨_,rfl,st,_,_,_,rfl,rfl,bf.of a,b _ _,_,_,rfl,rfl,_,rfl,dM (λc=>?_) (λc=>?_)⟩
  ·refine⟨_,rfl,st,_,_,_,rfl,rfl,bf.of a,b _ _,_,rfl,_,_,rfl,rfl,hm,?_⟩;refine⟨_,rfl,st,_,_,_,rfl,rfl,bf.of a,b _ _,_,rfl,_,_,rfl,rfl,⟨hm,g⟩,_,rfl,st,_,_,0,rfl,rfl,a,rfl,?_⟩;exact⟨_,rfl,k _ _ _ (SB _ (by lia)) (R3 _ hm)⟩
  ·refine⟨_,rfl,st,_,_,_,rfl,rfl,bf.of a,j _ _,_,_,rfl,rfl,.inr ⟨by decide,by decide⟩,_,_,rfl,rfl,_,_,rfl,rfl,(by show(0:Int)<2305843009213693951;decide),_,rfl,st,_,_,1,rfl,rfl,a,rfl,?_⟩;have h2:(upd H st (.lst ([V.int d,V.int z].set 1 (V.int ((z*48271+1013904223)%2305843009213693951))))) st=some (.lst [V.int d,V.int ((z*48271+1013904223)%2305843009213693951)]):=ae;refine⟨_,rfl,st,_,_,_,rfl,rfl,bf.of h2,j _ _,_,_,rfl,rfl,.inr ⟨by decide,by decide⟩,_,_,rfl,rfl,(by show(0:Int)<2147483629;decide),_,rfl,st,_,_,_,rfl,rfl,bf.of h2,j _ _,_,_,rfl,rfl,⟨by decide,by decide +kernel⟩,_,_,rfl,rfl,_,rfl,_,_,rfl,rfl,hm,?_⟩;exact k _ _ _ (SB _ (by lia)) (R3 _ hm)
noncomputable abbrev alpha:Str:="abcdefghijklmnopqrstuvwxyz"
theorem um{i:Int}(h0:0<=i)(h1:i<26):jX alpha.cps.toList i=some (97+i.toNat):=by
 obtain⟨k,rfl,a⟩:=fb (z:=i) (n:=26) h0 h1;have :=(by decide +kernel:∀k:Fin 26,alpha.cps.toList[k.val]? =some (97+k.val)) ⟨k,a⟩;exact aN this
theorem jG{i:Int}:jX alpha.cps.toList (i%26)=some (97+(i%26).toNat):=um (SB _ (by decide)) (R3 _ (by decide))
theorem gs:alpha.length=26:=by decide +kernel
theorem AR{α:Type}[BEq α][LawfulBEq α]:∀{l1 l2:List α},l1.Nodup->(∀x∈l1,x∈l2)->l1.length<=l2.length
 |[],_,_,_=>Nl _
 |a::l1,l2,nd,h=>by
  rw[Rz]at nd;have ha:=h a B6;have :=AR (l1:=l1) (l2:=l2.erase a) nd.2 λx hx=>(List.mem_erase_of_ne (λe=>nd.1 (by rw[<-e];exact hx))).mpr (h x (De _ hx));rw[List.length_erase_of_mem ha]at this;have :0<l2.length:=List.length_pos_of_mem ha;rw[FB]
  lia
def oF(k:Nat)(ts:List Str):Prop:=∀(j:Nat)(x:Str),ts[j]? =some x->∃r:Str,x=⟨#[97+(k+7*j)%26]⟩++r
theorem Bv{a b:Nat}{r':Str}(e:(⟨#[a]⟩:Str)++r=⟨#[b]⟩++r'):a=b:=by
 have q:[a]++r.cps.toList=[b]++r'.cps.toList:=by
  have :=congrArg (λs:Str=>s.cps.toList) e
  have z:∀(a:Nat)(r:Str),((⟨#[a]⟩:Str)++r).cps.toList=[a]++r.cps.toList:=λa r=>by
   show(#[a]++r.cps).toList=_;rw[Nm]
  rw[<-z,<-z];exact this
 injection q
theorem DH{k:Nat}(h:oF k ts)(hl:ts.length<=26):ts.Nodup:=by
 refine List.pairwise_iff_getElem.mpr λi j hi c d e=>?_;obtain⟨r,a⟩:=h i _ (B0 hi);obtain⟨r',b⟩:=h j _ (B0 c);rw[a,b]at e;have :=Bv e
 lia
theorem oF.snoc{k:Nat}(h:oF k ts)(e:x=⟨#[97+(k+7*ts.length)%26]⟩++r):oF k (ts++[x]):=λj y a=>by
 by_cases b:j<ts.length
 ·rw[KF b]at a;exact h j y a
 ·rw[GM (by lia)]at a
  have z:j-ts.length=0:=by
   have :=bw a;simp at this;exact vY
  rw[z]at a
  cases a
  have :j=ts.length:=by lia
  rw[this];exact⟨r,e⟩
theorem Hj(a:Nat)(r:Str):(⟨#[a]⟩:Str)++r≠"":=λe=>by
 have :=congrArg (λs:Str=>s.cps.toList.length) e
 have z:((⟨#[a]⟩:Str)++r).cps.toList.length=1+r.cps.toList.length:=by
  show(#[a]++r.cps).toList.length=_;rw[Nm,B1];rfl
 have b:("":Str).cps.toList.length=0:=by decide +kernel
 rw[z,b]at this
 lia
theorem yJ(x y z:Str):(x++y)++z=x++(y++z):=by
 show(⟨(x.cps++y.cps)++z.cps⟩:Str)=⟨x.cps++(y.cps++z.cps)⟩;rw[Pf]
theorem iy{xs:List Str}:gu (.str x) (xs.map V.str)=decide (x∈xs):=by
 unfold gu;rw[Se];by_cases h:x∈xs
 ·rw[decide_eq_true h,Vk];exact⟨x,h,by simp[vB]⟩
 ·rw[decide_eq_false h,Sf];intro y a;simp only[Function.comp,vB,beq_iff_eq];intro e;exact h (by rw[<-e];exact a)
theorem Ai(a:List Str):(a.map V.str).all eB=true:=by
 rw[QM];exact List.all_eq_true.mpr λ_ _=>rfl
def Vl(x:Str):Prop:=∀c∈x.cps.toList,97<=c/\c<=122
def Vn(x:Str):Prop:=1<=x.length/\x.length<=8/\Vl x
theorem JX(x y:Str):(x++y).cps.toList=x.cps.toList++y.cps.toList:=by
 show(x.cps++y.cps).toList=_;rw[Nm]
theorem Vl.nil:Vl "":=λc a=>by
 have e:("":Str).cps.toList=[]:=by decide +kernel
 rw[e]at a
 cases a
theorem Vl.app(h:Vl x)(g:Vl y):Vl (x++y):=λa ha=>by
 rw[JX]at ha
 rcases List.mem_append.mp ha with z|z
 ·exact h a z
 ·exact g a z
theorem Vl.one(h:97<=c/\c<=122):Vl (⟨#[c]⟩:Str):=λa ha=>by
 have ha:a∈[c]:=ha;rw[List.mem_singleton.mp ha];exact h
theorem MZ(n:Nat):(NQ none (some 4) 1 n).length<=4:=by
 by_cases h:4<=n
 ·rw[StrLaws.sliceIdx_none_lo,show(some 0:Option Int)=some ((0:Nat):Int)from rfl,show(some 4:Option Int)=some ((4:Nat):Int)from rfl,Sn (Nl _) h,be,Oy];exact B2 _
 ·have :=(by decide +kernel:∀i:Fin 4,(NQ none (some 4) 1 i.val).length<=4) ⟨n,by lia⟩;exact this
theorem KR(x:Str):(hK x none (some 4)).length<=4:=by
 have h:=MZ x.length;unfold hK
 split
 ·rename_i e
  have :=eq_of_beq e
  lia
 ·show((NQ none (some 4) 1 x.length).filterMap (x.cps[·]?)).toArray.size<=_;rw[B8];exact NW (Tg _ _) h
theorem Co(h:Vl x):Vl (hK x none (some 4)):=by
 unfold hK
 split
 ·exact h
 ·intro c a;have a:c∈(NQ none (some 4) 1 x.length).filterMap (x.cps[·]?):=a;obtain⟨i,_,e⟩:=List.mem_filterMap.mp a;rw[<-Pi]at e;exact h c (Do e)
inductive Aj(vs:List V)(H:Hp)(Q:VK):Prop
 |mk (st:B3) (d z:Int) (m:Nat) (c0:vs=[.ref st,.int m]) (c1:H st=some (.lst [.int d,.int z])) (c2:m<=20) (c3:∀(l:B3)(aX:List Str)(d' z':Int)(H':Hp),H l=none->Kp st H H'->H' st=some (.lst [.int d',.int z'])->H' l=some (.lst (aX.map V.str))->aX.length=m->(∀x∈aX,x.length<=60)->aX.Nodup->(∀x∈aX,Vn x)->Q (.ref l) H')
def tX:Sp:=λvs H Q _=>Aj vs H Q
theorem cV:aw ["_law_stream_here","_law_many","_law_letters","_law_names_here","_law_k","_law_name","_law_j","_law_turn","_law_other"] Zg (aj ya):=cD
inductive qzI(st l:B3)(m:Nat)(H:Hp)(i:Nat)(σ:St)(H2:Hp):Prop|mk(u4 u5 u6 u7 u8:Option V)(aX:List Str)(d2 W:Int)(_:σ=[some (.ref st),some (.int m),some (.str alpha),some (.ref l),u4,u5,u6,u7,u8])(_:Kp st H H2)(_:H2 st=some (.lst [.int d2,.int W]))(_:H2 l=some (.lst (aX.map V.str)))(_:aX.length=i)(_:∀x∈aX,x.length<=60)(_:aX.Nodup)(_:∀x∈aX,Vn x)
inductive qzJ(st l:B3)(m i:Nat)(D:Option V)(aX:List Str)(H4:Hp)(m':Nat)(σ:St)(T:Hp):Prop|mk(nm:Str)(t:Nat)(ts:List Str)(c:Option V)(_:T=H4)(_:σ=[some (.ref st),some (.int m),some (.str alpha),some (.ref l),some (.int i),some (.str nm),D,some (.int ((i+7*t:Nat):Int)),c])(_:nm.length<=7+2*t)(_:nm.length<=7/\Vl nm)(_:t<=aX.length+1)(_:oF i ts)(_:∀x∈ts,x∈aX)(_:(t=0/\ts=[])∨(t=ts.length+1/\∃r,nm=⟨#[97+(i+7*ts.length)%26]⟩++r))(_:m'=aX.length+2-t)
inductive qzK(st l:B3)(m i:Nat)(H:Hp)(u7 u8:Option V)(aX:List Str)(j:Nat)(σ:St)(H4:Hp):Prop|mk(D:Option V)(nm:Str)(d4 X:Int)(_:σ=[some (.ref st),some (.int m),some (.str alpha),some (.ref l),some (.int i),some (.str nm),D,u7,u8])(_:Kp st H H4)(_:H4 st=some (.lst [.int d4,.int X]))(_:H4 l=some (.lst (aX.map V.str)))(_:nm.length<=j)(_:Vl nm)
theorem qqv(x:Int):97<=97+(x%26).toNat/\97+(x%26).toNat<=122:=by lia
theorem Aa(F:aZ K "_law_names" "_law_names" ya f fd)(N:aO mg)(G1:av P w K mg base aK 1 f1 d1 Zg gv)(J1:Cq K mg d1 f1 Zg "_law_take"):
  av P w K mg base aK 2 f fd Zg tX:=by
 refine F.cI cV λcdv A outer s H vs Q E hr h=>?_
 ·obtain⟨st,d,z,m,e,a2,hm,k⟩:=h;subst e
  refine⟨_,ah (aB (i:=2) cV.nd rfl (Ki rfl) ar)
   (ah (aB (i:=3) cV.nd rfl (Ki rfl) (bU ab))
   (ah (cx Np rfl (cy rfl N.range (aa (pv 1) ab)) (aV (i:=4) cV.nd rfl (Ki rfl))
    (ah (aB (i:=5) cV.nd rfl (Ki rfl) ar)
    (ah (cx Np rfl (cy rfl N.range (aa (pq G1 hr J1 (aa (pv 0) (aa ag ab))) ab)) (aV (i:=6) cV.nd rfl (Ki rfl))
     (ai (aB (i:=5) cV.nd rfl (Ki rfl) (aJ bP (pv 5) (ay rR (pv 2) (pq G1 hr J1 (aa (pv 0) (aa ag ab))) (λ_ _=>rfl))))))
    (ah (aB (i:=7) cV.nd rfl (Ki rfl) (pv 4))
    (ah (jU Np (mU (aA (r:=tY K false) cf (pv 5) (pv 3) (by rfl)) (lq (aA bE (pv 5) ar (aF _)))).pt
     (ah (aB (i:=8) cV.nd rfl (Ki rfl) (ay rR (pv 2) (aJ fP (aJ bz (aJ sk (pv 7) ag) (aH cO (by rfl) N.len NI (aa (pv 5) ab))) ag) (λ_ _=>rfl)))
     (ah (aB (i:=5) cV.nd rfl (Ki rfl) (aJ bP (aJ bP (ay rR (pv 2) (aJ fP (pv 7) ag) (λ_ _=>rfl)) (pv 8)) (eD yv (pv 5) fE (fF ag))))
     (ai (aB (i:=7) cV.nd rfl (Ki rfl) (aJ bz (pv 7) ag))))))
    (ai (cu (cw NJ Od Oc cR (pv 3) (aa (pv 5) ab)))))))))
   (ai (au (pv 3))))),?_⟩
  refine⟨aG (by simp),λl hl=>?_⟩;have dC:l≠st:=B9 (aI a2 hl);refine⟨_,rfl,(m:Int),rfl,by lia,by lia,?_⟩
  have en:((m:Int)).toNat=m:=by lia
  rw[en];refine cJ (n:=m) (qzI st l m H) ⟨_,_,_,_,_,[],d,z,rfl,Kp.put (Kp.refl _) hl,by rw[ak (B9 dC)];exact a2,ae,rfl,(λx hx=>nomatch hx),SW,λx hx=>nomatch hx⟩ ?_ ?_
  ·rintro i σ H2 hi ⟨u4,u5,u6,u7,u8,aX,d2,W,rfl,C,R,G,B,J,g,O⟩;have ei:(0:Int)+(i:Int)=(i:Int):=Int.zero_add _;refine⟨_,rfl,st,d2,W,8,rfl,R,by decide,by decide,λv0 d3 U b1 b2=>?_⟩;rw[ei];have a8:(upd H2 st (.lst [.int d3,.int U])) st=some (.lst [.int d3,.int U]):=ae
   have a4:(upd H2 st (.lst [.int d3,.int U])) l=some (.lst (aX.map V.str)):=by rw[ak dC];exact G
   have a7:Kp st H (upd H2 st (.lst [.int d3,.int U])):=C.trans Kp.store;generalize upd H2 st (.lst [.int d3,.int U])=H3 at *;refine⟨v0,rfl,by lia,DU,?_⟩;refine cJ (n:=v0.toNat) (qzK st l m i H u7 u8 aX) ⟨_,"",d3,U,rfl,a7,a8,a4,by decide +kernel,Vl.nil⟩ ?_ ?_
   ·rintro j σ H4 hj ⟨D,nm,d4,X,rfl,L,S,u,a0,b⟩;refine⟨_,rfl,_,rfl,_,rfl,st,d4,X,26,rfl,S,by decide,by decide,λv d5 z5 a3 a9=>?_⟩;refine⟨alpha,_,_,rfl,rfl,aG (by rw[gs];exact DX),um a3 a9,_,_,rfl,rfl,aG (by show nm.length+1<=100000;lia),?_⟩;exact⟨_,_,d5,z5,rfl,L.trans Kp.store,ae,by rw[ak dC];exact u,by rw[GE];show nm.length+1<=j+1;exact Ik,b.app (Vl.one (by lia))⟩
   rintro σ H4 ⟨D,nm,d4,X,rfl,L,S,u,a0,b⟩;refine⟨_,rfl,?_⟩
   refine⟨qzJ st l m i D aX H4,
    ⟨aX.length+2,nm,0,[],_,rfl,rfl,by lia,⟨by lia,b⟩,MQ,(λj x e=>nomatch e),(λx e=>nomatch e),.inl ⟨rfl,rfl⟩,rfl⟩,?_⟩
   rintro m' σ T ⟨nm,t,ts,c,rfl,rfl,a0,⟨b0,b⟩,ht,Z,Y,I,rfl⟩
   have p:(nm∈aX∨nm="")->∃N:St->Hp->Prop,(∀σ' H',N σ' H'->∃m',m'<aX.length+2-t/\qzJ st l m i D aX T m' σ' H')/\
     ∀a r:Str,a=⟨#[97+(i+7*t)%26]⟩++r->a.length<=2+nm.length->(a.length<=7/\Vl a)->∀c,N [some (.ref st),some (.int m),some (.str alpha),some (.ref l),some (.int i),some (.str a),D,some (.int ((i+7*(t+1):Nat):Int)),c] T:=λa5=>by
    obtain⟨o,h1,h2,h3,h4⟩:∃o:List Str,oF i o/\(∀x∈o,x∈aX)/\o.length=t/\t<=aX.length:=by
     rcases I with⟨rfl,rfl⟩|⟨et,r,er⟩
     ·exact⟨[],Z,Y,rfl,Nl _⟩
     ·have a1:nm∈aX:=a5.resolve_right λe=>Hj _ r (by rw[<-er];exact e);have hT:=Z.snoc er
      have hS:∀x∈ts++[nm],x∈aX:=λx hx=>by
       rcases List.mem_append.mp hx with q|q
       ·exact Y x q
       ·rw[List.mem_singleton.mp q];exact a1
      have hL:(ts++[nm]).length=t:=by rw[B1,et];rfl
      refine⟨ts++[nm],hT,hS,hL,?_⟩;rw[<-hL];exact AR (DH hT (by rw[hL];lia)) hS
    refine⟨λσ' H'=>H'=T/\∃(a r:Str)(c:Option V),a=⟨#[97+(i+7*t)%26]⟩++r/\a.length<=2+nm.length/\(a.length<=7/\Vl a)/\σ'=[some (.ref st),some (.int m),some (.str alpha),some (.ref l),some (.int i),some (.str a),D,some (.int ((i+7*(t+1):Nat):Int)),c],?_,λa r e1 e2 e3 c=>⟨rfl,a,r,c,e1,e2,e3,rfl⟩⟩;rintro σ' H' ⟨rfl,a,r,c,e1,e2,e3,rfl⟩;exact⟨aX.length+2-(t+1),by lia,a,t+1,o,c,rfl,rfl,by lia,e3,Ik,h1,h2,.inr ⟨by lia,r,by rw[h3];exact e1⟩,rfl⟩
   refine⟨_,rfl,_,rfl,l,_,rfl,.inl (bf.of u),rfl,Ai aX,_,rfl,?_⟩
   show if gu (.str nm) (aX.map V.str)=true then _ else _
   rw[iy];refine have qw:(nm∈aX∨nm="")->_:=λa5=>?_;dM (λh1=>eY (qw (.inl (of_decide_eq_true h1)))) (λh1=>⟨_,rfl,rfl,_,rfl,dM (λh2=>qw (.inr (V.str.inj (of_decide_eq_true h2)))) (λh2=>?_)⟩)
   ·obtain⟨N,hN,M⟩:=p a5;refine⟨N,hN,?_⟩;refine⟨_,rfl,_,rfl,_,_,rfl,rfl,⟨by decide,by decide⟩,_,rfl,nm,rfl,aG cP,_,_,rfl,rfl,_,_,rfl,rfl,(by show(0:Int)<26;decide),alpha,_,_,rfl,rfl,aG (by rw[gs];exact DX),jG,?_⟩;refine⟨_,rfl,_,rfl,_,_,rfl,rfl,(by show(0:Int)<26;decide),alpha,_,_,rfl,rfl,aG (by rw[gs];exact DX),jG,_,rfl,_,_,rfl,rfl,aG (by show 1+1<=100000;exact DX),_,rfl,_,rfl,nm,rfl,aG cP,?_⟩;obtain⟨y,hy,y4,yl,ey⟩:∃y,y.length<=nm.length/\y.length<=4/\Vl y/\hK nm none (some 4)=y:=⟨_,qM _ _ _,KR nm,Co b,rfl⟩;rw[ey];refine⟨_,_,rfl,rfl,aG (by show 2+y.length<=100000;lia),?_⟩;refine⟨_,rfl,_,_,rfl,rfl,?_⟩
    have et:((i+7*t:Nat):Int)+7=((i+7*(t+1):Nat):Int):=by lia
    have ea:(((i+7*t:Nat):Int)%26).toNat=(i+7*t)%26:=by lia
    show N [_,_,_,_,_,_,_,some (V.int (((i+7*t:Nat):Int)+7)),_] T;rw[et];refine M _ (⟨#[97+((((i+7*t:Nat):Int)/26+(nm.length:Int))%26).toNat]⟩++y) ?_ (by rw[GE,GE];show 1+1+y.length<=2+nm.length;lia) ⟨by rw[GE,GE];show 1+1+y.length<=7;lia,((Vl.one (qqv _)).app (Vl.one (qqv _))).app yl⟩ _;rw[yJ,ea]
   have a6:nm∉aX:=λz=>h1 (decide_eq_true z);refine⟨_,rfl,.inl ⟨rfl,_,bf.of u⟩,_,rfl,l,_,_,rfl,rfl,u,small (by rw[be];lia),?_⟩;refine⟨_,_,_,_,_,aX++[nm],d4,X,rfl,Kp.put L hl,by rw[ak (B9 dC)];exact S,by rw[ae,Da];rfl,by rw[B1];show aX.length+1=i+1;lia,?_,?_,?_⟩
   ·intro x hx
    rcases List.mem_append.mp hx with z|z
    ·exact J x z
    ·rw[List.mem_singleton.mp z];exact cP
   ·refine List.nodup_append.mpr ⟨g,List.pairwise_singleton _ _,λx hx y hy e=>a6 ?_⟩;rw[<-List.mem_singleton.mp hy,<-e];exact hx
   ·intro x hx
    rcases List.mem_append.mp hx with z|z
    ·exact O x z
    ·rw[List.mem_singleton.mp z];refine⟨?_,cP,b⟩;by_cases q:nm.length=0
     ·refine absurd (decide_eq_true ?_) h2
      have e0:nm="":=by
       refine lW ?_;have e1:nm.cps.toList=[]:=NK (by rw[Ni];exact q);rw[e1];decide +kernel
      rw[e0]
     ·lia
  ·rintro σ H2 ⟨u4,u5,u6,u7,u8,aX,d2,W,rfl,C,R,G,B,J,g,O⟩;exact⟨_,rfl,k l aX d2 W H2 hl C R G B J g O⟩
theorem bK{x:Int}(h0:0<=x)(h1:x<1000000000):bG x:=by unfold bG;lia
theorem KT.kp{st:B3}(k:Kp st H H')(h:H st=some (.lst xs)):KT H H':=λb ys e=>k b _ (jV e h (by intro z;cases z)) e
def Vr(a b:Int):Prop:=0<=a/\a<=b/\b<=1000000
def Va(p:Str×Int):Prop:=(p.1="start"∨p.1="mid"∨p.1="mid2"∨p.1="end")/\ -1000000<=p.2/\p.2<=1000000
def K_(c:Nat):Prop:=33<=c/\c<=126/\c≠37/\c≠124
def Vx(x:Str):Prop:=∀c∈x.cps.toList,K_ c
def Hl(ws:List (List Str)):Prop:=∀w∈ws,∀x∈w,Vx x
theorem Vx.nil:Vx "":=λc a=>by
 have e:("":Str).cps.toList=[]:=by decide +kernel
 rw[e]at a
 cases a
theorem Vx.snoc(h:Vx x)(b:K_ c):Vx (x++(⟨#[c]⟩:Str)):=λa ha=>by
 have e:(x++(⟨#[c]⟩:Str)).cps.toList=x.cps.toList++[c]:=by
  show(x.cps++#[c]).toList=_;rw[Nm]
 rw[e]at ha
 rcases List.mem_append.mp ha with z|z
 ·exact h a z
 ·rw[List.mem_singleton.mp z];exact b
inductive Dw(vs:List V)(H:Hp)(Q:VK):Prop
 |mk (st:B3) (d z:Int) (c0:vs=[.ref st]) (c1:H st=some (.lst [.int d,.int z])) (c2:∀(t:B3)(a b d' z':Int)(H':Hp),H t=none->Kp st H H'->H' st=some (.lst [.int d',.int z'])->H' t=some (.tup [.int a,.int b])->bG a->bG b->Vr a b->Q (.ref t) H')
def yz:Sp:=λvs H Q _=>Dw vs H Q
inductive Az(vs:List V)(H:Hp)(Q:VK):Prop
 |mk (st:B3) (d z:Int) (c0:vs=[.ref st]) (c1:H st=some (.lst [.int d,.int z])) (c2:∀(t:B3)(ws:List (List Str))(d' z':Int)(H':Hp),H t=none->Kp st H H'->H' st=some (.lst [.int d',.int z'])->oU H' t ws->gF ws->Hl ws->Q (.ref t) H')
def uH:Sp:=λvs H Q _=>Az vs H Q
inductive zx(vs:List V)(H:Hp)(Q:VK):Prop
 |mk (st:B3) (d z:Int) (c0:vs=[.ref st]) (c1:H st=some (.lst [.int d,.int z])) (c2:∀(t:B3)(p:Str×Int)(d' z':Int)(H':Hp),H t=none->Kp st H H'->H' st=some (.lst [.int d',.int z'])->H' t=some (.tup [.str p.1,.int p.2])->il p->Va p->Q (.ref t) H')
def uE:Sp:=λvs H Q _=>zx vs H Q
theorem mF:(10:Int)^P2 6=1000000:=by decide
noncomputable abbrev sgn:Str:="abkxyzAZ019-=,.:;'^_~!#text"
theorem Gh:sgn.length=27:=by decide +kernel
theorem HB{i:Int}(h0:0<=i)(h1:i<27):∃c,jX sgn.cps.toList i=some c/\K_ c:=by
 obtain⟨k,rfl,b⟩:=fb (z:=i) (n:=27) h0 h1
 have hl:sgn.cps.toList.length=27:=by decide +kernel
 have a:∀c∈sgn.cps.toList,K_ c:=by
  unfold K_;decide +kernel
 exact⟨_,aN (B0 Ew),a _ (Pa _)⟩
theorem uA{c:Int}(h0:0<=v)(h1:v<3):∃x,jX [V.int a,.int b,.int c] v=some (.int x)/\(x=a∨x=b∨x=c):=by
 obtain⟨k,rfl,d⟩:=fb (z:=v) (n:=3) h0 h1
 match k,d with
 |0,_=>exact⟨a,rfl,.inl rfl⟩
 |1,_=>exact⟨b,rfl,.inr (.inl rfl)⟩
 |2,_=>exact⟨c,rfl,.inr (.inr rfl)⟩
theorem F0(h0:0<=v)(h1:v<4):∃x:Str,jX [V.str "start",.str "mid",.str "mid2",.str "end"] v=some (.str x)/\44∉x.cps.toList/\x.length<=10/\(x="start"∨x="mid"∨x="mid2"∨x="end"):=by
 obtain⟨k,rfl,a⟩:=fb (z:=v) (n:=4) h0 h1
 match k,a with
 |0,_=>exact⟨"start",rfl,by decide +kernel,by decide +kernel,.inl rfl⟩
 |1,_=>exact⟨"mid",rfl,by decide +kernel,by decide +kernel,.inr (.inl rfl)⟩
 |2,_=>exact⟨"mid2",rfl,by decide +kernel,by decide +kernel,.inr (.inr (.inl rfl))⟩
 |3,_=>exact⟨"end",rfl,by decide +kernel,by decide +kernel,.inr (.inr (.inr rfl))⟩
theorem uY:aw ["_law_stream_here","_law_least"] Zj (aj yd):=cD
theorem Ae(F:aZ K "_law_range" "_law_range" yd f fd)(G1:av P w K mg base aK 1 f1 d1 Zg gv)(C:Cq K mg d1 f1 Zg "_law_take"):av P w K mg base aK 2 f fd Zj yz:=by
 refine F.cI uY λcdv A outer s H vs Q E B h=>?_
 ·obtain⟨st,d,z,e,T,k⟩:=h;subst e
  refine⟨_,ah (aR (aA bE (pq G1 B C (aa (pv 0) (aa ag ab))) ag (aF _)) (ai (au (aT (aa ag (aa (aJ lg ag ag) ab))))) az)
   (ah (aB (i:=1) uY.nd rfl (Ki rfl) (pq G1 B C (aa (pv 0) (aa (ay bB (bU (aa ag (aa ag (aa (aJ bz (aJ lg ag ag) ag) ab)))) (pq G1 B C (aa (pv 0) (aa ag ab))) (λ_ _=>rfl)) ab))))
   (ai (au (aT (aa (pv 1) (aa (aJ bz (pv 1) (pq G1 B C (aa (pv 0) (aa (aJ fU (aJ bz (aJ lg ag ag) ag) (pv 1)) ab)))) ab)))))),?_⟩
  refine aq λW u=>?_;refine⟨_,rfl,st,d,z,3,rfl,T,by decide,by decide,λv d1 o v0 v1=>?_⟩;have g:Kp st H (upd H st (.lst [.int d1,.int o])):=Kp.store;have h1:(upd H st (.lst [.int d1,.int o])) st=some (.lst [.int d1,.int o]):=ae;generalize upd H st (.lst [.int d1,.int o])=H1 at *;refine⟨rfl,_,rfl,dM (λ_=>?_) (λ_=>u _ _ ?_)⟩
  ·refine⟨_,_,rfl,rfl,⟨by decide,by decide,by decide⟩,(by show 2<=sizeLine;decide),λt j=>?_⟩
   have m:st≠t:=λz=>by rw[<-z,h1]at j;cases j
   exact k t _ _ d1 o _ (g.gone (B9 m) j) (Kp.put g (g.gone (B9 m) j)) ((ak m).trans h1) ae hV (by show bG ((10:Int)^P2 6);rw[mF];exact bK (by decide) (by decide)) (by show Vr 0 ((10:Int)^P2 6);rw[mF];exact⟨by decide,by decide,by decide⟩)
  clear u W;refine aq λN2 S=>?_;refine⟨_,rfl,_,_,rfl,rfl,⟨by decide,by decide,by decide⟩,_,_,rfl,rfl,(by show 3<=sizeLine;decide),λl hl=>?_⟩
  have O:st≠l:=λz=>by rw[<-z,h1]at hl;cases hl
  have M:=g.gone (B9 O) hl;have h2:(upd H1 l (.lst [.int 20,.int 1000,.int (10^P2 6+1)])) st=some (.lst [.int d1,.int o]):=(ak O).trans h1;have Y:(upd H1 l (.lst [.int 20,.int 1000,.int (10^P2 6+1)])) l=some (.lst [.int 20,.int 1000,.int (10^P2 6+1)]):=ae;have D:Kp st H (upd H1 l (.lst [.int 20,.int 1000,.int (10^P2 6+1)])):=Kp.put g M;generalize upd H1 l (.lst [.int 20,.int 1000,.int (10^P2 6+1)])=H2 at *;refine⟨_,rfl,st,d1,o,3,rfl,h2,by decide,by decide,λv2 d2 p L R=>?_⟩;have Z:(upd H2 st (.lst [.int d2,.int p])) l=some (.lst [.int 20,.int 1000,.int (10^P2 6+1)]):=(ak (B9 O)).trans Y;have h3:(upd H2 st (.lst [.int d2,.int p])) st=some (.lst [.int d2,.int p]):=ae;have N:Kp st H (upd H2 st (.lst [.int d2,.int p])):=D.trans Kp.store;generalize upd H2 st (.lst [.int d2,.int p])=H3 at *;obtain⟨x,hx,G⟩:=uA (a:=20) (b:=1000) (c:=10^P2 6+1) L R;rw[mF]at G;refine⟨l,_,_,_,rfl,rfl,bf.of Z,hx,st,d2,p,x,rfl,h3,by lia,by lia,λU d3 y r a0=>?_⟩;have X:(upd H3 st (.lst [.int d3,.int y])) st=some (.lst [.int d3,.int y]):=ae;have J:Kp st H (upd H3 st (.lst [.int d3,.int y])):=N.trans Kp.store;generalize upd H3 st (.lst [.int d3,.int y])=H4 at *;refine S _ _ ?_;refine⟨_,rfl,_,rfl,_,rfl,_,_,rfl,rfl,⟨by decide,by decide,by decide⟩,_,_,rfl,rfl,_,rfl,_,_,rfl,rfl,st,d3,y,_,rfl,X,by rw[mF];lia,by rw[mF];lia,λv4 d4 q a1 I=>?_⟩;rw[mF]at I;have V:(upd H4 st (.lst [.int d4,.int q])) st=some (.lst [.int d4,.int q]):=ae;have n:Kp st H (upd H4 st (.lst [.int d4,.int q])):=J.trans Kp.store;generalize upd H4 st (.lst [.int d4,.int q])=H5 at *;refine⟨_,_,rfl,rfl,(by show 2<=sizeLine;decide),λt j=>?_⟩
  have m:st≠t:=λz=>by rw[<-z,V]at j;cases j
  exact k t U (U+v4) d4 q _ (n.gone (B9 m) j) (Kp.put n (n.gone (B9 m) j)) ((ak m).trans V) ae (bK r (by lia)) (bK (by lia) (by lia)) ⟨r,by lia,by lia⟩
theorem lp:aw ["_law_stream_here","_law_by"] Zj (aj uu):=cD
theorem vU(F:aZ K "_law_anchor" "_law_anchor" uu f fd)(G1:av P w K mg base aK 1 f1 d1 Zg gv)(r:Cq K mg d1 f1 Zg "_law_take"):av P w K mg base aK 2 f fd Zj uE:=by
 refine F.cI lp λcdv A outer s H vs Q E q h=>?_
 ·obtain⟨st,d,z,e,M,k⟩:=h;subst e
  refine⟨_,ah (aB (i:=1) lp.nd rfl (Ki rfl) (aJ fU (pq G1 q r (aa (pv 0) (aa ag ab))) ag))
   (ah (aR (aA bE (pq G1 q r (aa (pv 0) (aa ag ab))) ag (aF _)) (ai (aB (i:=1) lp.nd rfl (Ki rfl) (aJ fU (pq G1 q r (aa (pv 0) (aa (aJ bz (aJ oN ag (aJ lg ag ag)) ag) ab))) (aJ lg ag ag)))) az)
   (ai (au (aT (aa (ay bB (bU (aa ar (aa ar (aa ar (aa ar ab))))) (pq G1 q r (aa (pv 0) (aa ag ab))) (λ_ _=>rfl)) (aa (pv 1) ab)))))),?_⟩
  refine aq λR m=>?_;refine⟨_,rfl,st,d,z,7,rfl,M,by decide,by decide,λv d1 o v0 v1=>?_⟩;have D:Kp st H (upd H st (.lst [.int d1,.int o])):=Kp.store;have h1:(upd H st (.lst [.int d1,.int o])) st=some (.lst [.int d1,.int o]):=ae;generalize upd H st (.lst [.int d1,.int o])=H1 at *;refine⟨_,_,rfl,rfl,m _ _ ?_⟩;clear m R;refine aq λV J=>?_
  have n:∀(b d2 a:Int)(H2:Hp),Kp st H H2->H2 st=some (.lst [.int d2,.int a])->bG b->(-1000000<=b/\b<=1000000)->V [some (.ref st),some (.int b)] H2:=λb d2 a H2 c h2 gb X=>by
   refine J _ _ ?_;refine⟨(by show 4<=sizeLine;decide),λl hl=>?_⟩
   have G:st≠l:=λz=>by rw[<-z,h2]at hl;cases hl
   have B:=c.gone (B9 G) hl;have W:(upd H2 l (.lst [.str "start",.str "mid",.str "mid2",.str "end"])) st=some (.lst [.int d2,.int a]):=(ak G).trans h2;have U:(upd H2 l (.lst [.str "start",.str "mid",.str "mid2",.str "end"])) l=some (.lst [.str "start",.str "mid",.str "mid2",.str "end"]):=ae;have C:Kp st H (upd H2 l (.lst [.str "start",.str "mid",.str "mid2",.str "end"])):=Kp.put c B;generalize upd H2 l (.lst [.str "start",.str "mid",.str "mid2",.str "end"])=H3 at *;refine⟨_,rfl,st,d2,a,4,rfl,W,by decide,by decide,λv4 d4 j L u=>?_⟩;have l4:(upd H3 st (.lst [.int d4,.int j])) l=some (.lst [.str "start",.str "mid",.str "mid2",.str "end"]):=(ak (B9 G)).trans U;have N:(upd H3 st (.lst [.int d4,.int j])) st=some (.lst [.int d4,.int j]):=ae;have g:Kp st H (upd H3 st (.lst [.int d4,.int j])):=C.trans Kp.store;generalize upd H3 st (.lst [.int d4,.int j])=H4 at *;obtain⟨x,hx,Z,O,T⟩:=F0 L u;refine⟨l,_,_,_,rfl,rfl,bf.of l4,hx,_,rfl,(by show 2<=sizeLine;decide),λt p=>?_⟩
   have y:st≠t:=λz=>by rw[<-z,N]at p;cases p
   exact k t (x,b) d4 j _ (g.gone (B9 y) p) (Kp.put g (g.gone (B9 y) p)) ((ak y).trans N) ae ⟨Z,O,gb⟩ ⟨T,X⟩
  refine⟨_,rfl,st,d1,o,4,rfl,h1,by decide,by decide,λv2 d2 a Y a0=>?_⟩;have c:Kp st H (upd H1 st (.lst [.int d2,.int a])):=D.trans Kp.store;have h2:(upd H1 st (.lst [.int d2,.int a])) st=some (.lst [.int d2,.int a]):=ae;generalize upd H1 st (.lst [.int d2,.int a])=H2 at *;refine⟨rfl,_,rfl,dM (λ_=>?_) (λ_=>n _ d2 a H2 c h2 (by unfold bG;lia) (by lia))⟩;refine⟨_,rfl,_,_,rfl,rfl,⟨by decide,by decide,by decide⟩,_,_,rfl,rfl,.inl ⟨by decide,by decide⟩,_,_,rfl,rfl,st,d2,a,_,rfl,h2,by decide,by decide,λv3 d3 z3 S I=>?_⟩
  have e2:(2:Int)*10^P2 6+1=2000001:=by decide
  rw[e2]at I;refine⟨_,_,rfl,rfl,⟨by decide,by decide,by decide⟩,_,_,rfl,rfl,?_⟩;exact n _ d3 z3 _ (c.trans Kp.store) ae (by rw[mF];unfold bG;lia) (by rw[mF];lia)
theorem eE:aw ["_law_stream_here","_law_words_here","_law_k","_law_word","_law_j","_law_piece","_law_i"] Zj (aj xP):=cD
inductive qzL(st a:B3)(H:Hp)(i:Nat)(σ:St)(p:Hp):Prop|mk(u2 u3 u4 u5 u6:Option V)(as:List B3)(ws:List (List Str))(d9 J:Int)(_:σ=[some (.ref st),some (.ref a),u2,u3,u4,u5,u6])(_:Kp st H p)(_:p st=some (.lst [.int d9,.int J]))(_:p a=some (.lst (as.map V.ref)))(_:bp p as (ws.map dm))(_:as.length=i)(_:∀w∈ws,1<=w.length/\w.length<=3/\∀x∈w,1<=x.length/\x.length<=4)(_:Hl ws)
inductive qzM(st a g:B3)(i:Nat)(H3:Hp)(j:Nat)(σ:St)(p:Hp):Prop|mk(y4 y5 y6:Option V)(xs:List Str)(d9 J:Int)(_:σ=[some (.ref st),some (.ref a),some (.int (0+(i:Int))),some (.ref g),y4,y5,y6])(_:Kp st H3 p)(_:p st=some (.lst [.int d9,.int J]))(_:p g=some (.lst (xs.map V.str)))(_:xs.length=j)(_:∀x∈xs,1<=x.length/\x.length<=4)(_:∀x∈xs,Vx x)
inductive qzN(st a g:B3)(i j:Nat)(H3:Hp)(xs:List Str)(n:Nat)(σ:St)(p:Hp):Prop|mk(t6:Option V)(B:Str)(d9 J:Int)(_:σ=[some (.ref st),some (.ref a),some (.int (0+(i:Int))),some (.ref g),some (.int (0+(j:Int))),some (.str B),t6])(_:Kp st H3 p)(_:p st=some (.lst [.int d9,.int J]))(_:p g=some (.lst (xs.map V.str)))(_:B.length=n)(_:Vx B)
theorem zt(F:aZ K "_law_words" "_law_words" xP f fd)(N:aO mg)(G1:av P w K mg base aK 1 f1 d1 Zg gv)(J1:Cq K mg d1 f1 Zg "_law_take"):av P w K mg base aK 2 f fd Zj uH:=by
 refine F.cI eE λcdv A outer s H vs Q E hr h=>?_
 ·obtain⟨st,d,z,e,a1,k⟩:=h;subst e
  refine⟨_,ah (aB (i:=1) eE.nd rfl (Ki rfl) (bU ab))
   (ah (cx Np rfl (cy (by rfl) N.range (aa (pq G1 hr J1 (aa (pv 0) (aa ag ab))) ab)) (aV (i:=2) eE.nd rfl (Ki rfl))
    (ah (aB (i:=3) eE.nd rfl (Ki rfl) (bU ab))
    (ah (cx Np rfl (cy (by rfl) N.range (aa (aJ bz ag (pq G1 hr J1 (aa (pv 0) (aa ag ab)))) ab)) (aV (i:=4) eE.nd rfl (Ki rfl))
     (ah (aB (i:=5) eE.nd rfl (Ki rfl) ar)
     (ah (cx Np rfl (cy (by rfl) N.range (aa (aJ bz ag (pq G1 hr J1 (aa (pv 0) (aa ag ab)))) ab)) (aV (i:=6) eE.nd rfl (Ki rfl))
      (ai (aB (i:=5) eE.nd rfl (Ki rfl) (aJ bP (pv 5) (ay rR ar (pq G1 hr J1 (aa (pv 0) (aa ag ab))) (λ_ _=>rfl))))))
     (ai (cu (cw NJ Od Oc cR (pv 3) (aa (pv 5) ab)))))))
    (ai (cu (cw NJ Od Oc cR (pv 1) (aa (aQ a_ (by rfl) N.tuple Ng (aa (pv 3) ab)) ab)))))))
   (ai (au (aQ a_ (by rfl) N.tuple Ng (aa (pv 1) ab))))),?_⟩
  refine aq λN0 T=>?_;refine⟨aG (by simp),λa I=>T _ _ ?_⟩;clear T N0;have nw:a≠st:=B9 (aI a1 I);have b3:Kp st H (upd H a (.lst [])):=Kp.put (Kp.refl _) I;have s1:(upd H a (.lst [])) st=some (.lst [.int d,.int z]):=(ak (B9 nw)).trans a1;have w1:(upd H a (.lst [])) a=some (.lst (([]:List B3).map V.ref)):=ae;generalize upd H a (.lst [])=H1 at *;refine aq λN1 a3=>?_;refine⟨_,rfl,st,d,z,4,rfl,s1,by decide,by decide,λv0 d2 L c0 b7=>?_⟩;have a9:Kp st H (upd H1 st (.lst [.int d2,.int L])):=b3.trans Kp.store;have s2:(upd H1 st (.lst [.int d2,.int L])) st=some (.lst [.int d2,.int L]):=ae;have w2:(upd H1 st (.lst [.int d2,.int L])) a=some (.lst (([]:List B3).map V.ref)):=(ak nw).trans w1;generalize upd H1 st (.lst [.int d2,.int L])=H2 at *;refine⟨v0,rfl,by lia,DU,?_⟩
  refine cJ (n:=v0.toNat) (qzL st a H)
   ⟨_,_,_,_,_,[],[],d2,L,rfl,a9,s2,w2,bp.nil,rfl,(λw C=>nomatch C),λw C=>nomatch C⟩ ?_ ?_
  ·rintro i σ H3 hi ⟨u2,u3,u4,u5,u6,as,ws,d3,z3,rfl,m,R,w3,r3,S,g3,q3⟩;refine aq λN4 a2=>?_;refine⟨aG (by simp),λg q=>a2 _ _ ?_⟩;clear a2 N4;have nx:g≠st:=B9 (aI R q);have b9:a≠g:=aI w3 q;have b5:=m.gone nx q;have b1:Kp st H3 (upd H3 g (.lst [])):=Kp.put (Kp.refl _) q;have s4:(upd H3 g (.lst [])) st=some (.lst [.int d3,.int z3]):=(ak (B9 nx)).trans R;have x4:(upd H3 g (.lst [])) g=some (.lst (([]:List Str).map V.str)):=ae;generalize upd H3 g (.lst [])=H4 at *;refine aq λN2 a5=>?_;refine⟨_,rfl,st,d3,z3,3,rfl,s4,by decide,by decide,λv1 d5 M b8 b6=>?_⟩;have b4:Kp st H3 (upd H4 st (.lst [.int d5,.int M])):=b1.trans Kp.store;have s5:(upd H4 st (.lst [.int d5,.int M])) st=some (.lst [.int d5,.int M]):=ae;have x5:(upd H4 st (.lst [.int d5,.int M])) g=some (.lst (([]:List Str).map V.str)):=(ak nx).trans x4;generalize upd H4 st (.lst [.int d5,.int M])=H5 at *;refine⟨_,_,rfl,rfl,_,rfl,by lia,by lia,?_⟩
   refine cJ (n:=(1+v1).toNat) (qzM st a g i H3)
    ⟨_,_,_,[],d5,M,rfl,b4,s5,x5,rfl,(λx hx=>nomatch hx),λx hx=>nomatch hx⟩ ?_ ?_
   ·rintro j σ r hj ⟨y4,y5,y6,xs,d6,z6,rfl,l,s6,x6,X,g6,q6⟩;refine aq λN5 a0=>a0 _ _ ?_;clear a0 N5;refine aq λN3 a6=>?_;refine⟨_,rfl,st,d6,z6,4,rfl,s6,by decide,by decide,λv2 d7 O c1 c2=>?_⟩;have a4:Kp st H3 (upd r st (.lst [.int d7,.int O])):=l.trans Kp.store;have s7:(upd r st (.lst [.int d7,.int O])) st=some (.lst [.int d7,.int O]):=ae;have x7:(upd r st (.lst [.int d7,.int O])) g=some (.lst (xs.map V.str)):=(ak nx).trans x6;generalize upd r st (.lst [.int d7,.int O])=H7 at *;refine⟨_,_,rfl,rfl,_,rfl,by lia,by lia,?_⟩
    refine cJ (n:=(1+v2).toNat) (qzN st a g i j H3 xs)
     ⟨_,"",d7,O,rfl,a4,s7,x7,by decide +kernel,Vx.nil⟩ ?_ ?_
    ·rintro n σ H8 hn ⟨t6,B,d8,z8,rfl,D,s8,x8,Z,G⟩;refine⟨_,rfl,_,rfl,st,d8,z8,27,rfl,s8,by decide,by decide,λv d9 J b2 a7=>?_⟩;obtain⟨c,hc,a8⟩:=HB b2 a7;refine⟨sgn,_,_,rfl,rfl,aG (by rw[Gh];decide),hc,_,_,rfl,rfl,aG (by show B.length+1<=100000;lia),?_⟩;exact⟨_,_,d9,J,rfl,D.trans Kp.store,ae,(ak nx).trans x8,by rw[GE,Z];rfl,G.snoc a8⟩
    ·rintro σ H8 ⟨t6,B,d8,z8,rfl,D,s8,x8,Z,G⟩;refine a6 _ _ ?_;refine⟨_,rfl,.inl ⟨rfl,_,bf.of x8⟩,_,rfl,g,_,_,rfl,rfl,x8,small (by rw[be];lia),?_⟩;refine⟨_,_,_,xs++[B],d8,z8,rfl,λb o hb e=>?_,(ak (B9 nx)).trans s8,by rw[ae,Da];rfl,by rw[B1,X];rfl,λx hx=>?_,λx hx=>?_⟩
     ·rw[ak (λz=>by rw[z,q]at e;cases e)];exact D b o hb e
     ·rcases List.mem_append.mp hx with z|z
      ·exact g6 x z
      ·rw[List.mem_singleton.mp z];lia
     ·rcases List.mem_append.mp hx with z|z
      ·exact q6 x z
      ·rw[List.mem_singleton.mp z];exact G
   ·rintro σ r ⟨y4,y5,y6,xs,d6,z6,rfl,l,s6,x6,X,g6,q6⟩;refine a5 _ _ ?_;have w6:r a=some (.lst (as.map V.ref)):=l _ _ nw w3;refine⟨_,rfl,.inl ⟨rfl,_,bf.of w6⟩,_,rfl,g,_,rfl,.inl ⟨bf.of x6,λt y=>?_⟩⟩;have Y:st≠t:=aI s6 y;have U:a≠t:=aI w6 y;have r6:=fe r3 (KT.kp l R);refine⟨a,_,_,rfl,rfl,(ak U).trans w6,small (by rw[be];lia),?_⟩;refine⟨_,_,_,_,_,as++[t],ws++[xs],d6,z6,rfl,?_,?_,by rw[ae,Da];rfl,?_,by rw[B1,S];rfl,λw C=>?_,λw C=>?_⟩
    ·have u:H t=none:=(m.trans l).gone (B9 Y) y;exact Kp.put (Kp.put (m.trans l) u) I
    ·rw[ak (B9 nw),ak Y];exact s6
    ·rw[Da];have b0:(upd r t (.tup (xs.map V.str))) t=some (.tup (dm xs)):=ae;have k1:KT r (upd r t (.tup (xs.map V.str))):=KT.put y;have k2:KT (upd r t (.tup (xs.map V.str))) (upd (upd r t (.tup (xs.map V.str))) a (.lst (as.map V.ref++[V.ref t]))):=KT.lst ((ak U).trans w6);exact bp.snoc (fe r6 (k1.trans k2)) (af.refl _) (k2 _ _ b0)
    ·rcases List.mem_append.mp C with z|z
     ·exact g3 w z
     ·rw[List.mem_singleton.mp z];exact⟨by lia,by lia,g6⟩
    ·rcases List.mem_append.mp C with z|z
     ·exact q3 w z
     ·rw[List.mem_singleton.mp z];exact q6
  ·rintro σ H3 ⟨u2,u3,u4,u5,u6,as,ws,d3,z3,rfl,m,R,w3,r3,S,g3,q3⟩;refine a3 _ _ ?_;refine⟨_,rfl,a,_,rfl,.inl ⟨bf.of w3,λt y=>?_⟩⟩;have Y:st≠t:=aI R y;have u:H t=none:=m.gone (B9 Y) y
   have W:ws.length<=3:=by have :=r3.1;rw[be]at this;lia
   exact k t ws d3 z3 _ u (Kp.put m u) ((ak Y).trans R) ⟨as,ae,fe r3 (KT.put y)⟩ ⟨W,g3⟩ q3
theorem ip{lo:Int}{te:TE}(a:B3->Nat->List V->Hp->Prop)(hn:n<sizeLine)(h0:∀D,H D=none->a D 0 [] (upd H D (.lst [])))(hl:∀D i l H',a D i l H'->l.length<=i)(he:∀(D:B3)(i:Nat)(l:List V)(H':Hp)(b:VK),i<n->a D i l H'->(∀y H3,H3 D=some (.lst l)->a D (i+1) (l++[y]) (upd H3 D (.lst (l++[y])))->b y H3)->te (some (.int (lo+i))::σ) H' b)(hd:∀D l H',a D n l H'->Q (.ref D) H'):fk (FC lo n) H σ jE te Q:=
 sM a hn h0 hl (λD i l H' d hi pv c=>c true H' (λh=>by cases h) (λ_ b k=>he D i l H' b hi pv k)) hd
def L1(kd:Str):Prop:=kd="leaf"∨(∃k,kd=(aY.lined k 0 "" "").kd)∨kd="table"∨kd="words"∨kd="flow"∨kd="over"
def Vs(s:Str):Prop:=s="left"∨s="right"
def Jm(bd:Int):aY->Nat->Prop
 | .leaf a b,n=>n=0/\(0<=a/\a<=1000000)/\0<=b/\b<=1000000
 | .lined _ g al sd,n=>n<=4/\(0<=g/\g<=bd)/\(al="start"∨al="end"∨al="mid"∨al="mid2")/\Vs sd
 | .table c g sd sps,n=>n<=4/\(1<=c/\c<=12)/\(0<=g/\g<=1000)/\Vs sd/\sps.length=n/\∀p∈sps,(1<=p.1/\p.1<=c)/\1<=p.2/\p.2<=12
 | .words ws j,n=>n=0/\Hl ws/\0<=j/\j<=999
 | .flow sds ws j,n=>n<=4/\sds.length=n/\(∀s∈sds,Vs s)/\Hl ws/\0<=j/\j<=999
 | .over ps,n=>(1<=n/\n<=4)/\ps.length+1=n/\∀p∈ps,Va p.1/\Va p.2
abbrev Vw:=Jm 1000
inductive Cs(vs:List V)(H:Hp)(Q:VK):Prop
 |mk (st:B3) (d z:Int) (kd:Str) (n:Nat) (c0:vs=[.ref st,.str kd,.int (n:Int)]) (c1:H st=some (.lst [.int d,.int z])) (c2:L1 kd) (c3:n<=4) (c4:(kd="leaf"∨kd="words"->n=0)) (c5:(kd="over"->1<=n)) (c6:∀(t:B3)(wh:aY)(d' z':Int)(H':Hp),H t=none->Kp st H H'->H' st=some (.lst [.int d',.int z'])->cT H' t wh->wh.Good->wh.kd=kd->Fo.fits wh n->Jm 3 wh n->Q (.ref t) H')
def xY:Sp:=λvs H Q _=>Cs vs H Q
theorem GU(h0:0<=v)(h1:v<2):∃x:Str,jX [V.str "left",.str "right"] v=some (.str x)/\(x="left"∨x="right"):=by
 obtain⟨k,rfl,a⟩:=fb (z:=v) (n:=2) h0 h1
 match k,a with
 |0,_=>exact⟨"left",rfl,.inl rfl⟩
 |1,_=>exact⟨"right",rfl,.inr rfl⟩
theorem wZ(h:x="left"∨x="right"):x.length<=10:=by rcases h with z|z<;>rw[z]<;>decide +kernel
theorem Jr(h0:0<=v)(h1:v<4):∃x:Str,jX [V.str "start",.str "end",.str "mid",.str "mid2"] v=some (.str x)/\x.length<=10/\(x="start"∨x="end"∨x="mid"∨x="mid2"):=by
 obtain⟨k,rfl,a⟩:=fb (z:=v) (n:=4) h0 h1
 match k,a with
 |0,_=>exact⟨"start",rfl,by decide +kernel,.inl rfl⟩
 |1,_=>exact⟨"end",rfl,by decide +kernel,.inr (.inl rfl)⟩
 |2,_=>exact⟨"mid",rfl,by decide +kernel,.inr (.inr (.inl rfl))⟩
 |3,_=>exact⟨"mid2",rfl,by decide +kernel,.inr (.inr (.inr rfl))⟩
theorem AS(k:Nat)(g:Int)(al sd:Str):(aY.lined k g al sd).kd=(aY.lined k 0 "" "").kd:=by
 match k with
 |0=>rfl
 |1=>rfl
 |k+2=>rfl
theorem dC{st t:B3}(h:H st=some o)(a:H t=none):st≠t:=aI h a
noncomputable abbrev ry:List Str:=["_law_stream_here","_law_kind","_law_many","_law_side","_law_columns","_law_spans","_law_joint","_law_sides"]
theorem iD:aw ry ZJ (aj mX):=cD
theorem BG(F:aZ K "_law_what" "_law_what" mX f fd)(N:aO mg)(G1:av P w K mg base aK 1 f1 d1 Zg gv)(J1:Cq K mg d1 f1 Zg "_law_take")(G2:av P w K mg base aK 2 f2 d2 Zj uH)(J2:Cq K mg d2 f2 Zj "_law_words")(G3:av P w K mg base aK 2 f3 d3 Zj uE)(J3:Cq K mg d3 f3 Zj "_law_anchor"):av P w K mg base aK 3 f fd ZJ xY:=by
 refine F.cI iD λcdv A outer s H vs Q E hr h=>?_
 ·obtain⟨st,d,z,kd,n,e,e4,hk,hn,g9,k3,k⟩:=h;subst e;have M:=hr.mono (j:=1) (by decide)
  refine⟨_,ah (aB (i:=3) iD.nd rfl (Ki rfl) (ay bB (bU (aa ar (aa ar ab))) (pq G1 M J1 (aa (pv 0) (aa ag ab))) (λ_ _=>rfl)))
   (ah (aR (aA bE (pv 1) ar (aF _)) (ai (au (aT (aa (pq G1 M J1 (aa (pv 0) (aa ag ab))) (aa (pq G1 M J1 (aa (pv 0) (aa (aJ bz (aJ lg ag ag) ag) ab))) ab))))) az)
   (ah (aR (aA (r:=tY K false) cf (pv 1) (aT (aa ar (aa ar (aa ar ab)))) (by rfl)) (ai (au (aT (aa (pq G1 M J1 (aa (pv 0) (aa ag ab))) (aa (ay bB (bU (aa ar (aa ar (aa ar (aa ar ab))))) (pq G1 M J1 (aa (pv 0) (aa ag ab))) (λ_ _=>rfl)) (aa (pv 3) ab)))))) az)
   (ah (aR (aA bE (pv 1) ar (aF _))
    (ah (aB (i:=4) iD.nd rfl (Or.inr rfl) (aJ bz ag (pq G1 M J1 (aa (pv 0) (aa ag ab)))))
    (ah (gA (i:=5) (bg (fs:=aj mX) (N:=ry) rfl rfl (by decide +kernel)) rfl iD.nd rfl (Ki rfl) (cy (by rfl) N.range (aa (pv 2) ab)) (λ_ _ _ _ _=>bH)
     (λ_ _ _ _ _=>aT (aa (aJ bz ag (pq G1 M J1 (aa (pv 1) (aa (pv 5) ab)))) (aa (aJ bz ag (pq G1 M J1 (aa (pv 1) (aa ag ab)))) ab))) rfl)
    (ai (au (aT (aa (pv 4) (aa (pq G1 M J1 (aa (pv 0) (aa ag ab))) (aa (pv 3) (aa (aQ a_ (by rfl) N.tuple Ng (aa (pv 5) ab)) ab))))))))) az)
   (ah (aB (i:=6) iD.nd rfl (Ki rfl) (ay bB (bU (aa ag (aa ag (aa (aJ bz ag (pq G1 M J1 (aa (pv 0) (aa ag ab)))) ab)))) (pq G1 M J1 (aa (pv 0) (aa ag ab))) (λ_ _=>rfl)))
   (ah (aR (aA bE (pv 1) ar (aF _)) (ai (au (aT (aa (pq G2 hr J2 (aa (pv 0) ab)) (aa (pv 6) ab))))) az)
   (ah (aR (aA bE (pv 1) ar (aF _))
    (ah (gA (i:=7) (bg (fs:=aj mX) (N:=ry) rfl rfl (by decide +kernel)) rfl iD.nd rfl (Ki rfl) (cy (by rfl) N.range (aa (pv 2) ab)) (λ_ _ _ _ _=>bH)
     (λ_ _ _ _ _=>ay (r:=IA K) bB (bU (aa ar (aa ar ab))) (pq G1 M J1 (aa (pv 1) (aa ag ab))) (λ_ _=>rfl)) rfl)
    (ai (au (aT (aa (aQ a_ (by rfl) N.tuple Ng (aa (pv 7) ab)) (aa (pq G2 hr J2 (aa (pv 0) ab)) (aa (pv 6) ab))))))) az)
   (ai (au (aQ a_ (by rfl) N.tuple Ng (aa (cp (bg (fs:=aj mX) (N:=ry) rfl rfl (by decide +kernel)) rfl (cy (by rfl) N.range (aa (aJ fU (pv 2) ag) ab)) (λ_ _ _ _ _=>bH)
     (λ_ _ _ _ _=>aT (aa (pq G3 hr J3 (aa (pv 1) ab)) (aa (pq G3 hr J3 (aa (pv 1) ab)) ab)))) ab)))))))))),?_⟩
  refine aq λN1 e8=>?_;refine⟨(by show 2<=sizeLine;decide),λl hl=>?_⟩;have nl:=dC e4 hl;have i1:Kp st H (upd H l (.lst [.str "left",.str "right"])):=Kp.put (Kp.refl _) hl;have h1:(upd H l (.lst [.str "left",.str "right"])) st=some (.lst [.int d,.int z]):=(ak nl).trans e4;have l1:(upd H l (.lst [.str "left",.str "right"])) l=some (.lst [.str "left",.str "right"]):=ae;generalize upd H l (.lst [.str "left",.str "right"])=H1 at *;refine⟨_,rfl,st,d,z,2,rfl,h1,by decide,by decide,λv d2 z2 v0 v1=>?_⟩;have b5:Kp st H (upd H1 st (.lst [.int d2,.int z2])):=i1.trans Kp.store;have h2:(upd H1 st (.lst [.int d2,.int z2])) st=some (.lst [.int d2,.int z2]):=ae;have l2:(upd H1 st (.lst [.int d2,.int z2])) l=some (.lst [.str "left",.str "right"]):=(ak (B9 nl)).trans l1;generalize upd H1 st (.lst [.int d2,.int z2])=H2 at *;obtain⟨sd,g6,d0⟩:=GU v0 v1;refine⟨l,_,_,_,rfl,rfl,bf.of l2,g6,e8 _ _ ?_⟩;clear e8 N1 l2 l1 h1 i1 e4 g6;have i3:=wZ d0;refine aq λN2 f9=>?_;by_cases c1:kd="leaf"
  ·subst c1;refine⟨_,rfl,rfl,_,rfl,dH AI ?_⟩;refine⟨_,rfl,st,d2,z2,60,rfl,h2,by decide,by decide,λa d3 z3 a0 a1=>?_⟩;refine⟨_,rfl,_,_,rfl,rfl,⟨by decide,by decide,by decide⟩,_,_,rfl,rfl,st,d3,z3,_,rfl,ae,by rw[mF];decide,by rw[mF];decide,λb d4 J b0 b1=>?_⟩;rw[mF]at b1;have L:Kp st H (upd (upd H2 st (.lst [.int d3,.int z3])) st (.lst [.int d4,.int J])):=(b5.trans Kp.store).trans Kp.store;have h4:(upd (upd H2 st (.lst [.int d3,.int z3])) st (.lst [.int d4,.int J])) st=some (.lst [.int d4,.int J]):=ae;generalize upd (upd H2 st (.lst [.int d3,.int z3])) st (.lst [.int d4,.int J])=H4 at *;refine⟨(by show 2<=sizeLine;decide),λt B=>?_⟩;have O:=dC h4 B;have q:=L.gone (B9 O) B;exact k t (.leaf a b) d4 J _ q (Kp.put L q) ((ak O).trans h4) ae ⟨bK a0 DU,bK b0 DU⟩ rfl trivial ⟨g9 (.inl rfl),⟨a0,by lia⟩,b0,by lia⟩
  refine⟨_,rfl,rfl,_,rfl,br (kW c1) (f9 _ _ ?_)⟩;clear f9 N2;refine aq λN3 g3=>?_;refine⟨_,rfl,(by show 3<=sizeLine;decide),λt3 e6=>?_⟩;have n3:=dC h2 e6;have f5:=b5.gone (B9 n3) e6;have b6:Kp st H (upd H2 t3 (.tup [.str "row",.str "column",.str "wrap"])):=Kp.put b5 f5;have h3:(upd H2 t3 (.tup [.str "row",.str "column",.str "wrap"])) st=some (.lst [.int d2,.int z2]):=(ak n3).trans h2;have i0:(upd H2 t3 (.tup [.str "row",.str "column",.str "wrap"])) t3=some (.tup [.str "row",.str "column",.str "wrap"]):=ae;generalize upd H2 t3 (.tup [.str "row",.str "column",.str "wrap"])=H3 at *;refine⟨t3,_,rfl,.inr (ba.of i0),rfl,rfl,_,rfl,?_⟩;by_cases c2:∃n,kd=(aY.lined n 0 "" "").kd
  ·obtain⟨ln,rfl⟩:=c2;refine dH sU ?_;refine⟨_,rfl,st,d2,z2,4,rfl,h3,by decide,by decide,λg d4 J g0 g1=>?_⟩;have L:Kp st H (upd H3 st (.lst [.int d4,.int J])):=b6.trans Kp.store;have h4:(upd H3 st (.lst [.int d4,.int J])) st=some (.lst [.int d4,.int J]):=ae;generalize upd H3 st (.lst [.int d4,.int J])=H4 at *;refine⟨(by show 4<=sizeLine;decide),λla g8=>?_⟩;have na:=dC h4 g8;have f6:=L.gone (B9 na) g8;have Y:Kp st H (upd H4 la (.lst [.str "start",.str "end",.str "mid",.str "mid2"])):=Kp.put L f6;have h5:(upd H4 la (.lst [.str "start",.str "end",.str "mid",.str "mid2"])) st=some (.lst [.int d4,.int J]):=(ak na).trans h4;have a5:(upd H4 la (.lst [.str "start",.str "end",.str "mid",.str "mid2"])) la=some (.lst [.str "start",.str "end",.str "mid",.str "mid2"]):=ae;generalize upd H4 la (.lst [.str "start",.str "end",.str "mid",.str "mid2"])=U at *;refine⟨_,rfl,st,d4,J,4,rfl,h5,by decide,by decide,λx d6 C x0 x1=>?_⟩;have G:Kp st H (upd U st (.lst [.int d6,.int C])):=Y.trans Kp.store;have h6:(upd U st (.lst [.int d6,.int C])) st=some (.lst [.int d6,.int C]):=ae;have a6:(upd U st (.lst [.int d6,.int C])) la=some (.lst [.str "start",.str "end",.str "mid",.str "mid2"]):=(ak (B9 na)).trans a5;generalize upd U st (.lst [.int d6,.int C])=H6 at *;obtain⟨al,j4,j7,val⟩:=Jr x0 x1;refine⟨la,_,_,_,rfl,rfl,bf.of a6,j4,_,rfl,(by show 3<=sizeLine;decide),λt B=>?_⟩;have O:=dC h6 B;have q:=G.gone (B9 O) B;exact k t (.lined ln g al sd) d6 C _ q (Kp.put G q) ((ak O).trans h6) ae ⟨bK g0 DU,j7,i3⟩ (AS ln g al sd) trivial ⟨hn,⟨g0,by lia⟩,val,d0⟩
  have f4:kd="table"∨kd="words"∨kd="flow"∨kd="over":=by
   rcases hk with z|z|z
   ·exact absurd z c1
   ·exact absurd z c2
   ·exact z
  have h0:gu (.str kd) L3=false:=by
   rcases f4 with z|z|z|z<;>rw[z]
   ·exact yn
   ·exact inWords
   ·exact Ck
   ·exact CY
  refine br h0 (g3 _ _ ?_);clear g3 N3 i0 hk h0;refine aq λN4 i6=>?_;by_cases c3:kd="table"
  ·subst c3;refine⟨_,rfl,rfl,_,rfl,dH AI ?_⟩;refine aq λM1 e5=>?_;refine⟨_,rfl,st,d2,z2,12,rfl,h3,by decide,by decide,λc d4 J c0 c1=>?_⟩;have L:Kp st H (upd H3 st (.lst [.int d4,.int J])):=b6.trans Kp.store;have h4:(upd H3 st (.lst [.int d4,.int J])) st=some (.lst [.int d4,.int J]):=ae;generalize upd H3 st (.lst [.int d4,.int J])=H4 at *;refine⟨_,_,rfl,rfl,e5 _ _ ?_⟩;clear e5 M1;refine aq λM2 c9=>?_;refine⟨_,rfl,_,rfl,by lia,by lia,?_⟩
   have en:((n:Int)).toNat=n:=by lia
   rw[en];refine ip (λD i xs I=>∃(as:List B3)(sps:List (Int×Int))(d9 z9:Int),xs=as.map V.ref/\as.length=i/\Kp st H I/\I st=some (.lst [.int d9,.int z9])/\I D=some (.lst xs)/\H D=none/\D≠st/\bp I as (sps.map kZ)/\(∀p∈sps,bG p.1/\bG p.2)/\∀p∈sps,(1<=p.1/\p.1<=1+c)/\1<=p.2/\p.2<=12) (small cP) (λD hD=>?_) (λD i xs I b3=>by obtain⟨as,_,_,_,e1,e2,_⟩:=b3;exact by rw[e1,be,e2];exact B2 _) ?_ ?_
   ·have nD:=dC h4 hD;have u:=L.gone (B9 nD) hD;exact⟨[],[],d4,J,rfl,rfl,Kp.put L u,(ak nD).trans h4,ae,u,B9 nD,bp.nil,(λp W=>nomatch W),λp W=>nomatch W⟩
   ·rintro D i xs U Q' hi ⟨as,sps,d5,z5,rfl,f7,Y,h5,b9,u,nD,r5,g5,q5⟩ kk;refine⟨_,rfl,_,rfl,st,d5,z5,_,rfl,h5,by lia,by lia,λx d6 C x0 x1=>?_⟩;have G:Kp st U (upd U st (.lst [.int d6,.int C])):=Kp.store;have h6:(upd U st (.lst [.int d6,.int C])) st=some (.lst [.int d6,.int C]):=ae;generalize upd U st (.lst [.int d6,.int C])=H6 at *;refine⟨_,_,rfl,rfl,_,rfl,st,d6,C,12,rfl,h6,by decide,by decide,λy d7 Z y0 y1=>?_⟩;have m:Kp st U (upd H6 st (.lst [.int d7,.int Z])):=G.trans Kp.store;have T:(upd H6 st (.lst [.int d7,.int Z])) st=some (.lst [.int d7,.int Z]):=ae;generalize upd H6 st (.lst [.int d7,.int Z])=S at *;refine⟨_,_,rfl,rfl,(by show 2<=sizeLine;decide),λt B=>?_⟩;have O:=dC T B;have R:S D=some (.lst (as.map V.ref)):=m _ _ nD b9;have e3:D≠t:=aI R B;have q:H t=none:=(Y.trans m).gone (B9 O) B;have r7:=fe r5 (KT.kp m h5);have k1:KT S (upd S t (.tup [.int (1+x),.int (1+y)])):=KT.put B;have b2:(upd S t (.tup [.int (1+x),.int (1+y)])) D=some (.lst (as.map V.ref)):=(ak e3).trans R;have k2:KT (upd S t (.tup [.int (1+x),.int (1+y)])) (upd (upd S t (.tup [.int (1+x),.int (1+y)])) D (.lst (as.map V.ref++[V.ref t]))):=KT.lst b2;refine kk _ _ b2 ⟨as++[t],sps++[(1+x,1+y)],d7,Z,by rw[Da];rfl,by rw[B1,f7];rfl,Kp.put (Kp.put (Y.trans m) q) u,?_,ae,u,nD,?_,λp W=>?_,λp W=>?_⟩
    ·rw[ak (B9 nD),ak O];exact T
    ·rw[Da];exact bp.snoc (fe r7 (k1.trans k2)) (af.refl _) (k2 _ _ ae)
    ·rcases List.mem_append.mp W with z|z
     ·exact g5 p z
     ·rw[List.mem_singleton.mp z];exact⟨bK (by lia) (by lia),bK (by lia) (by lia)⟩
    ·rcases List.mem_append.mp W with z|z
     ·exact q5 p z
     ·rw[List.mem_singleton.mp z];show(1<=1+x/\1+x<=1+c)/\1<=1+y/\1+y<=12
      lia
   ·rintro D xs U ⟨as,sps,d5,z5,rfl,f7,Y,h5,b9,u,nD,r5,g5,q5⟩;refine c9 _ _ ?_;refine⟨_,rfl,_,rfl,st,d5,z5,1001,rfl,h5,by decide,by decide,λg d6 C g0 g1=>?_⟩;have G:Kp st H (upd U st (.lst [.int d6,.int C])):=Y.trans Kp.store;have h6:(upd U st (.lst [.int d6,.int C])) st=some (.lst [.int d6,.int C]):=ae;have k6:(upd U st (.lst [.int d6,.int C])) D=some (.lst (as.map V.ref)):=(ak nD).trans b9;have r6:=fe r5 (KT.lst h5 (ys:=[.int d6,.int C]));generalize upd U st (.lst [.int d6,.int C])=H6 at *;refine⟨_,rfl,_,rfl,D,_,rfl,.inl ⟨bf.of k6,λts a8=>?_⟩⟩;have a4:=dC h6 a8;have b4:=G.gone (B9 a4) a8;have m:Kp st H (upd H6 ts (.tup (as.map V.ref))):=Kp.put G b4;have T:(upd H6 ts (.tup (as.map V.ref))) st=some (.lst [.int d6,.int C]):=(ak a4).trans h6;have t7:(upd H6 ts (.tup (as.map V.ref))) ts=some (.tup (as.map V.ref)):=ae;have r7:=fe r6 (KT.put (o:= .tup (as.map V.ref)) a8);generalize upd H6 ts (.tup (as.map V.ref))=S at *;refine⟨(by show 4<=sizeLine;decide),λt B=>?_⟩;have O:=dC T B;have q:=m.gone (B9 O) B;have kt:=KT.put (o:= .tup [.int (1+c),.int g,.str sd,.ref ts]) B;refine k t (.table (1+c) g sd sps) d6 C _ q (Kp.put m q) ((ak O).trans T) ⟨ts,as,ae,kt _ _ t7,fe r7 kt⟩ ⟨bK (by lia) (by lia),bK g0 DU,i3,g5⟩ rfl ?_ ⟨hn,⟨by lia,by lia⟩,⟨g0,by lia⟩,d0,?_,q5⟩
    all_goals
     show sps.length=n;have :=r5.1;rw[be]at this
     lia
  refine⟨_,rfl,rfl,_,rfl,br (kW c3) (i6 _ _ ?_)⟩;clear i6 N4;refine aq λN5 i4=>?_;refine⟨_,rfl,st,d2,z2,999,rfl,h3,by decide,by decide,λjv d4 J j0 j1=>?_⟩;have L:Kp st H (upd H3 st (.lst [.int d4,.int J])):=b6.trans Kp.store;have h4:(upd H3 st (.lst [.int d4,.int J])) st=some (.lst [.int d4,.int J]):=ae;generalize upd H3 st (.lst [.int d4,.int J])=H4 at *;refine⟨_,_,rfl,rfl,(by show 3<=sizeLine;decide),λlj i2=>?_⟩;have nj:=dC h4 i2;have f8:=L.gone (B9 nj) i2;have Y:Kp st H (upd H4 lj (.lst [.int 50,.int 0,.int (1+jv)])):=Kp.put L f8;have h5:(upd H4 lj (.lst [.int 50,.int 0,.int (1+jv)])) st=some (.lst [.int d4,.int J]):=(ak nj).trans h4;have j5:(upd H4 lj (.lst [.int 50,.int 0,.int (1+jv)])) lj=some (.lst [.int 50,.int 0,.int (1+jv)]):=ae;generalize upd H4 lj (.lst [.int 50,.int 0,.int (1+jv)])=U at *;refine⟨_,rfl,st,d4,J,3,rfl,h5,by decide,by decide,λy d6 C y0 y1=>?_⟩;have G:Kp st H (upd U st (.lst [.int d6,.int C])):=Y.trans Kp.store;have h6:(upd U st (.lst [.int d6,.int C])) st=some (.lst [.int d6,.int C]):=ae;have j6:(upd U st (.lst [.int d6,.int C])) lj=some (.lst [.int 50,.int 0,.int (1+jv)]):=(ak (B9 nj)).trans j5;generalize upd U st (.lst [.int d6,.int C])=H6 at *;obtain⟨jn,hj,j3⟩:=uA (a:=50) (b:=0) (c:=1+jv) y0 y1;refine⟨lj,_,_,_,rfl,rfl,bf.of j6,hj,i4 _ _ ?_⟩;have gj:bG jn:=bK (by lia) (by lia)
  have vj:0<=jn/\jn<=999:=by lia
  clear i4 N5 j6 j5 h5 Y hj j3 h4 L h3 b6 h2 b5;refine aq λN6 g4=>?_;by_cases c4:kd="words"
  ·subst c4;refine⟨_,rfl,rfl,_,rfl,dH AI ?_⟩;refine⟨_,rfl,st,d6,C,rfl,h6,λtw ws d7 Z S k5 m T e0 c7 b7=>?_⟩;have X:=G.trans m;refine⟨_,rfl,(by show 2<=sizeLine;decide),λt B=>?_⟩;have O:=dC T B;have q:=X.gone (B9 O) B;exact k t (.words ws jn) d7 Z _ q (Kp.put X q) ((ak O).trans T) ⟨tw,ae,e0.keep (KT.put B)⟩ ⟨c7,gj⟩ rfl trivial ⟨g9 (.inr rfl),b7,vj⟩
  refine⟨_,rfl,rfl,_,rfl,br (kW c4) (g4 _ _ ?_)⟩;clear g4 N6;refine aq λN7 g2=>?_;by_cases c5:kd="flow"
  ·subst c5;refine⟨_,rfl,rfl,_,rfl,dH AI ?_⟩;refine aq λM2 c9=>?_;refine⟨_,rfl,_,rfl,by lia,by lia,?_⟩
   have en:((n:Int)).toNat=n:=by lia
   rw[en];refine ip (λD i xs I=>∃(sds:List Str)(d9 z9:Int),xs=sds.map V.str/\sds.length=i/\Kp st H I/\I st=some (.lst [.int d9,.int z9])/\I D=some (.lst xs)/\H D=none/\D≠st/\∀s∈sds,s="left"∨s="right") (small cP) (λD hD=>?_) (λD i xs I b3=>by obtain⟨as,_,_,e1,e2,_⟩:=b3;exact by rw[e1,be,e2];exact B2 _) ?_ ?_
   ·have nD:=dC h6 hD;have u:=G.gone (B9 nD) hD;exact⟨[],d6,C,rfl,rfl,Kp.put G u,(ak nD).trans h6,ae,u,B9 nD,λp W=>nomatch W⟩
   ·rintro D i xs S Q' hi ⟨sds,d7,Z,rfl,a2,m,T,R,u,nD,g7⟩ kk;refine⟨(by show 2<=sizeLine;decide),λlb c8=>?_⟩;have nb:=dC T c8;have j8:D≠lb:=aI R c8;have e9:=m.gone (B9 nb) c8;have X:Kp st H (upd S lb (.lst [.str "left",.str "right"])):=Kp.put m e9;have h8:(upd S lb (.lst [.str "left",.str "right"])) st=some (.lst [.int d7,.int Z]):=(ak nb).trans T;have b8:(upd S lb (.lst [.str "left",.str "right"])) lb=some (.lst [.str "left",.str "right"]):=ae;have D8:(upd S lb (.lst [.str "left",.str "right"])) D=some (.lst (sds.map V.str)):=(ak j8).trans R;generalize upd S lb (.lst [.str "left",.str "right"])=H8 at *;refine⟨_,rfl,st,d7,Z,2,rfl,h8,by decide,by decide,λx d9 z9 x0 x1=>?_⟩;obtain⟨sx,k4,i7⟩:=GU x0 x1;refine⟨lb,_,_,_,rfl,rfl,bf.of ((ak (B9 nb)).trans b8),k4,?_⟩;refine kk _ _ ((ak nD).trans D8) ⟨sds++[sx],d9,z9,by rw[Da];rfl,by rw[B1,a2];rfl,Kp.put (X.trans Kp.store) u,by rw[ak (B9 nD),ae],ae,u,nD,λp W=>?_⟩
    rcases List.mem_append.mp W with z|z
    ·exact g7 p z
    ·rw[List.mem_singleton.mp z];exact i7
   ·rintro D xs S ⟨sds,d7,Z,rfl,a2,m,T,R,u,nD,g7⟩;refine c9 _ _ ?_;refine⟨_,rfl,D,_,rfl,.inl ⟨bf.of R,λts a8=>?_⟩⟩;have a4:=dC T a8;have b4:=m.gone (B9 a4) a8;have X:Kp st H (upd S ts (.tup (sds.map V.str))):=Kp.put m b4;have h8:(upd S ts (.tup (sds.map V.str))) st=some (.lst [.int d7,.int Z]):=(ak a4).trans T;have t8:(upd S ts (.tup (sds.map V.str))) ts=some (.tup (dm sds)):=ae;generalize upd S ts (.tup (sds.map V.str))=H8 at *;refine⟨_,rfl,st,d7,Z,rfl,h8,λtw ws d9 z9 I k5 a7 h9 e0 c7 b7=>?_⟩;have t9:=a7 _ _ (B9 a4) t8;refine⟨_,rfl,(by show 3<=sizeLine;decide),λt B=>?_⟩;have O:=dC h9 B;have q:=(X.trans a7).gone (B9 O) B;have kt:=KT.put (o:= .tup [.ref ts,.ref tw,.int jn]) B;exact k t (.flow sds ws jn) d9 z9 _ q (Kp.put (X.trans a7) q) ((ak O).trans h9) ⟨ts,tw,ae,kt _ _ t9,e0.keep kt⟩ ⟨g7,c7,gj⟩ rfl a2 ⟨hn,a2,g7,b7,vj⟩
  refine⟨_,rfl,rfl,_,rfl,br (kW c5) (g2 _ _ ?_)⟩;clear g2 N7
  have c6:kd="over":=by
   rcases f4 with z|z|z|z
   ·exact absurd z c3
   ·exact absurd z c4
   ·exact absurd z c5
   ·exact z
  subst c6;refine⟨_,rfl,_,_,rfl,rfl,_,rfl,by lia,by lia,?_⟩
  have en:((n:Int)-1).toNat=n-1:=by lia
  rw[en];refine ip (λD i xs I=>∃(as:List B3)(ps:List ((Str×Int)×(Str×Int)))(d9 z9:Int),xs=as.map V.ref/\as.length=i/\ps.length=i/\Kp st H I/\I st=some (.lst [.int d9,.int z9])/\I D=some (.lst xs)/\H D=none/\D≠st/\(∀(i:Nat)(a:B3)(p:(Str×Int)×(Str×Int)),as[i]? =some a->ps[i]? =some p->∃b c,I a=some (.tup [.ref b,.ref c])/\I b=some (.tup [.str p.1.1,.int p.1.2])/\I c=some (.tup [.str p.2.1,.int p.2.2]))/\(∀p∈ps,il p.1/\il p.2)/\∀p∈ps,Va p.1/\Va p.2) (small (by lia)) (λD hD=>?_) (λD i xs I b3=>by obtain⟨as,_,_,_,e1,e2,_⟩:=b3;exact by rw[e1,be,e2];exact B2 _) ?_ ?_
  ·have nD:=dC h6 hD;have u:=G.gone (B9 nD) hD;exact⟨[],[],d6,C,rfl,rfl,rfl,Kp.put G u,(ak nD).trans h6,ae,u,B9 nD,(λi a p e=>nomatch e),(λp W=>nomatch W),λp W=>nomatch W⟩
  ·rintro D i xs S Q' hi ⟨as,ps,d7,Z,rfl,a2,f0,m,T,R,u,nD,r7,g7,q7⟩ kk;refine⟨_,rfl,st,d7,Z,rfl,T,λta pa d8 z8 H8 i5 X h8 i8 ga va=>?_⟩;refine⟨_,rfl,st,d8,z8,rfl,h8,λtb pb d9 z9 I k8 a7 h9 i9 gb vb=>?_⟩
   have j2:ta≠st:=λz=>by rw[z,T]at i5;cases i5
   have k7:=a7 _ _ j2 i8;have a3:=X.trans a7;have e7:I D=some (.lst (as.map V.ref)):=a3 _ _ nD R;refine⟨(by show 2<=sizeLine;decide),λt B=>?_⟩;have O:=dC h9 B;have e3:D≠t:=aI e7 B;have q:H t=none:=(m.trans a3).gone (B9 O) B;have k0:=KT.kp a3 T;have k1:KT I (upd I t (.tup [.ref ta,.ref tb])):=KT.put B;have b2:(upd I t (.tup [.ref ta,.ref tb])) D=some (.lst (as.map V.ref)):=(ak e3).trans e7;have k2:KT (upd I t (.tup [.ref ta,.ref tb])) (upd (upd I t (.tup [.ref ta,.ref tb])) D (.lst (as.map V.ref++[V.ref t]))):=KT.lst b2;refine kk _ _ b2 ⟨as++[t],ps++[(pa,pb)],d9,z9,by rw[Da];rfl,by rw[B1,a2];rfl,by rw[B1,f0];rfl,Kp.put (Kp.put (m.trans a3) q) u,?_,ae,u,nD,?_,λp W=>?_,λp W=>?_⟩
   ·rw[ak (B9 nD),ak O];exact h9
   ·intro j a p ea ep;by_cases hj:j<as.length
    ·rw[KF hj]at ea;rw[KF (by lia)]at ep;obtain⟨b,c,x1,x2,x3⟩:=r7 j a p ea ep;have a9:=k0.trans (k1.trans k2);exact⟨b,c,a9 _ _ x1,a9 _ _ x2,a9 _ _ x3⟩
    ·have j9:=bw ea;rw[B1,Ue]at j9
     have ej:j=as.length:=by lia
     subst ej;rw[GM (B2 _),Rr]at ea;rw[GM (by lia),show as.length-ps.length=0 by lia]at ep
     cases ea
     cases ep
     have a9:=k1.trans k2;exact⟨ta,tb,k2 _ _ ae,a9 _ _ k7,a9 _ _ i9⟩
   ·rcases List.mem_append.mp W with z|z
    ·exact g7 p z
    ·rw[List.mem_singleton.mp z];exact⟨ga,gb⟩
   ·rcases List.mem_append.mp W with z|z
    ·exact q7 p z
    ·rw[List.mem_singleton.mp z];exact⟨va,vb⟩
  ·rintro D xs S ⟨as,ps,d7,Z,rfl,a2,f0,m,T,R,u,nD,r7,g7,q7⟩;refine⟨D,_,rfl,.inl ⟨bf.of R,λt B=>?_⟩⟩;have O:=dC T B;have q:=m.gone (B9 O) B;have kt:=KT.put (o:= .tup (as.map V.ref)) B;refine k t (.over ps) d7 Z _ q (Kp.put m q) ((ak O).trans T) ⟨as,ae,by lia,λj a p ea ep=>?_⟩ g7 rfl (by show n<=ps.length+1;lia) (by have :=k3 rfl;exact⟨⟨this,hn⟩,by lia,q7⟩);obtain⟨b,c,x1,x2,x3⟩:=r7 j a p ea ep;exact⟨b,c,kt _ _ x1,kt _ _ x2,kt _ _ x3⟩
def K2(st ln:B3)(H H':Hp):Prop:=∀b o,b≠st->b≠ln->H b=some o->H' b=some o
theorem K2.trans{st ln:B3}(a:K2 st ln H H1)(b:K2 st ln H1 H2):K2 st ln H H2:=λc o n m h=>b c o n m (a c o n m h)
theorem K2.kp{st ln:B3}(k:Kp st H H'):K2 st ln H H':=λb o n _ h=>k b o n h
theorem K2.put{st ln D:B3}(k:K2 st ln H H')(h:H D=none):K2 st ln H (upd H' D o):=λb o' n m a=>by
 rw[ak (λz=>by rw[z,h]at a;cases a)];exact k b o' n m a
theorem K2.gone{st ln D:B3}(k:K2 st ln H H')(n:D≠st)(m:D≠ln)(h:H' D=none):H D=none:=by
 cases e:H D with
 |none=>rfl
 |some o=>rw[k D o n m e]at h;cases h
theorem K2.st{st ln:B3}:K2 st ln H (upd H st o):=λb o' n _ h=>by rw[ak n];exact h
theorem K2.ln{st ln:B3}:K2 st ln H (upd H ln o):=λb o' _ n h=>by rw[ak n];exact h
theorem KT.k2{st ln:B3}(k:K2 st ln H H')(h:H st=some (.lst xs))(h2:H ln=some (.lst ys)):KT H H':=λb zs e=>k b _ (jV e h (by intro z;cases z)) (jV e h2 (by intro z;cases z)) e
noncomputable def aM:Fo->List Str
 | .nil=>[]
 | .cons _ d cs as=>d.nm::(aM cs++aM as)
theorem eG(G:Fo):∀F:Fo,aM (F.app G)=aM F++aM G
 | .nil=>rfl
 | .cons a d cs as=>by
  show d.nm::(aM cs++aM (as.app G))=d.nm::(aM cs++aM as)++aM G;rw[eG G as,<-IR];rfl
def Vo(o:Own):Prop:=Vr o.w0 o.w1/\Vr o.h0 o.h1/\(0<=o.gr/\o.gr<=99)/\(0<=o.sh/\o.sh<=99)/\(0<=o.rk/\o.rk<=9)/\0<=o.al/\o.al<=9
def Ef(kd:Str):Prop:=kd="leaf"∨kd="row"∨kd="column"∨kd="wrap"
def iT(bd:Int):Bool->Fo->Prop
 |_,.nil=>True
 |tb,.cons _ d cs as=>(Vo d.own/\Jm bd d.wh cs.aD.length/\(0<d.own.al->tb=false/\Ef d.wh.kd))/\iT bd (tb||decide (V.str d.wh.kd=V.str "table")) cs/\iT bd tb as
abbrev VF:=iT 1000
theorem qP{bd:Int}{tb:Bool}(G:Fo)(b:iT bd tb G):∀F:Fo,iT bd tb F->iT bd tb (F.app G)
 | .nil,_=>b
 | .cons a d cs as,⟨h1,h2,c⟩=>⟨h1,h2,qP G b as c⟩
inductive FF(m:Nat)(vs:List V)(H:Hp)(Q:VK):Prop
 |mk (st ln:B3) (d z:Int) (aX:List Str) (dp:Nat) (tb:Bool) (c0:vs=[.ref st,.ref ln,.int (dp:Int),.bl tb]) (c1:st≠ln) (c2:H st=some (.lst [.int d,.int z])) (c3:H ln=some (.lst (aX.map V.str))) (c4:aX≠[]) (c5:aX.length<=20) (c6:(∀x∈aX,x.length<=60)) (c7:dp<=8) (c8:9<=dp+m) (c9:∀(a:B3)(bd:cK)(cs:Fo)(nms':List Str)(d' z':Int)(H':Hp),H a=none->K2 st ln H H'->H' st=some (.lst [.int d',.int z'])->H' ln=some (.lst (nms'.map V.str))->(∀x∈nms',x.length<=60)->nms'.length+(cs.cnt+1)=aX.length->aX=nms'++(bd.nm::aM cs).reverse->(Fo.cons a bd cs .nil).Ok H'->(Fo.cons a bd cs .nil).Good->iT 3 tb (Fo.cons a bd cs .nil)->cs.bW+dp<=8->Q (.ref a) H')
def BL(m:Nat):Sp:=λvs H Q _=>FF m vs H Q
theorem HL(h0:0<=v)(h1:v<8):∃x:Str,jX [V.str "leaf",.str "row",.str "column",.str "wrap",.str "table",.str "words",.str "flow",.str "over"] v=some (.str x)/\L1 x:=by
 obtain⟨k,rfl,a⟩:=fb (z:=v) (n:=8) h0 h1
 match k,a with
 |0,_=>exact⟨"leaf",rfl,.inl rfl⟩
 |1,_=>exact⟨"row",rfl,.inr (.inl ⟨0,rfl⟩)⟩
 |2,_=>exact⟨"column",rfl,.inr (.inl ⟨1,rfl⟩)⟩
 |3,_=>exact⟨"wrap",rfl,.inr (.inl ⟨2,rfl⟩)⟩
 |4,_=>exact⟨"table",rfl,.inr (.inr (.inl rfl))⟩
 |5,_=>exact⟨"words",rfl,.inr (.inr (.inr (.inl rfl)))⟩
 |6,_=>exact⟨"flow",rfl,.inr (.inr (.inr (.inr (.inl rfl))))⟩
 |7,_=>exact⟨"over",rfl,.inr (.inr (.inr (.inr (.inr rfl))))⟩
theorem JC(h0:0<=v)(h1:v<2):∃x:Str,jX [V.str "leaf",.str "words"] v=some (.str x)/\(x="leaf"∨x="words"):=by
 obtain⟨k,rfl,a⟩:=fb (z:=v) (n:=2) h0 h1
 match k,a with
 |0,_=>exact⟨"leaf",rfl,.inl rfl⟩
 |1,_=>exact⟨"words",rfl,.inr rfl⟩
theorem Im(h0:0<=v)(h1:v<4):∃x:Int,jX [V.int 0,.int 0,.int 1,.int a] v=some (.int x)/\(x=0∨x=1∨x=a):=by
 obtain⟨k,rfl,b⟩:=fb (z:=v) (n:=4) h0 h1
 match k,b with
 |0,_=>exact⟨0,rfl,.inl rfl⟩
 |1,_=>exact⟨0,rfl,.inl rfl⟩
 |2,_=>exact⟨1,rfl,.inr (.inl rfl)⟩
 |3,_=>exact⟨a,rfl,.inr (.inr rfl)⟩
theorem Io{a b c:B3}(h0:0<=v)(h1:v<3):∃x:B3,jX [V.ref a,.ref b,.ref c] v=some (.ref x)/\(x=a∨x=b∨x=c):=by
 obtain⟨k,rfl,d⟩:=fb (z:=v) (n:=3) h0 h1
 match k,d with
 |0,_=>exact⟨a,rfl,.inl rfl⟩
 |1,_=>exact⟨b,rfl,.inr (.inl rfl)⟩
 |2,_=>exact⟨c,rfl,.inr (.inr rfl)⟩
theorem BU{kd:Str}(h:gu (.str kd) [V.str "leaf",.str "row",.str "column",.str "wrap"]=true):Ef kd:=by
 have h:gu (.str kd) ((["leaf","row","column","wrap"]:List Str).map V.str)=true:=h;rw[iy]at h;have h:=of_decide_eq_true h;simpa[Ef]using h
theorem AK{u:TE}{b c:Bool}(hi:σ[i]? =some (some (.bl b)))(d:∀a:VK,a (.bl c) H->u σ H a)(k:Q (.bl (b||c)) H):Lp (kh i) u σ H Q:=
 ⟨.bl b,hi,b,rfl,by
  cases b with
  |true=>exact k
  |false=>exact d Q k⟩
noncomputable abbrev Jt:List Str:=["_law_stream_here","_law_names_here","_law_deep_here","_law_tabled","_law_name","_law_kind","_law_many","_law_parts","_law_k","_law_alike","_law_shares","_law_rank","_law_own"]
theorem dD:aw Jt Zw (aj Dx):=cD
inductive qxA(st ln S:B3)(dp:Nat)(H:Hp)(tb:Bool)(nm kd:Str)(mn:Int)(aX n0:List Str)(i:Nat)(σ:St)(t:Hp):Prop|mk(u8:Option V)(F9:Fo)(n9:List Str)(d9 z9:Int)(_:σ=[some (.ref st),some (.ref ln),some (.int (dp:Int)),some (.bl tb),some (.str nm),some (.str kd),some (.int mn),some (.ref S),u8,none,none,none,none])(_:K2 st ln H t)(_:t st=some (.lst [.int d9,.int z9]))(_:t ln=some (.lst (n9.map V.str)))(_:∀x∈n9,x.length<=60)(_:n9.length+(F9.cnt+1)=aX.length)(_:t S=some (.lst (F9.aD.map V.ref)))(_:F9.Ok t)(_:F9.Good)(_:F9.bW+dp<=8)(_:F9.aD.length<=i)(_:aX=n9++(nm::aM F9).reverse)(_:iT 3 (tb||decide (V.str kd=V.str "table")) F9)(_:0<F9.aD.length∨(n9=n0/\i=0))
theorem Ej(F:aZ K "_law_box" "_law_box" Dx f fd)(N:aO mg)(G1:av P w K mg base aK 1 f1 d1 Zg gv)(J1:Cq K mg d1 f1 Zg "_law_take")(G2:av P w K mg base aK 2 f2 d2 Zj yz)(J2:Cq K mg d2 f2 Zj "_law_range")(G3:av P w K mg base aK 3 f3 d3 ZJ xY)(J3:Cq K mg d3 f3 ZJ "_law_what")(JF:Cq K mg fd f Zw "_law_box"):∀m:Nat,av P w K mg base aK (m+4) f fd Zw (BL m):=by
 intro m
 induction m with
 |zero=>
  refine F.ok dD (λvs H Q E h=>?_) (λcdv A outer s H vs Q E hr h=>?_)
  ·obtain⟨st,ln,d,z,aX,dp,tb,e,_⟩:=h;rw[e];rfl
  ·obtain⟨st,ln,d,z,aX,dp,tb,e,_,_,_,_,_,_,h1,h2,_⟩:=h
   lia
 |succ m ih=>
  refine F.ok dD (λvs H Q E h=>?_) (λcdv A outer s H vs Q E hr h=>?_)
  ·obtain⟨st,ln,d,z,aX,dp,tb,e,_⟩:=h;rw[e];rfl
  ·obtain⟨st,ln,d,z,aX,dp,tb,e,p,hst,s3,X,hnl,o1,hdp,hdm,k⟩:=h;subst e;have hr3:=hr.mono (j:=3) DY;have v0:=hr.mono (j:=2) DY;have D:=hr.mono (j:=1) DY
   have hu:(A.deeper (NB "_law_box" (aj Dx) s.heap.objs.size f cdv)).units<OX:=by have :=hr.units;lia
   refine⟨_,ah (aB (i:=4) dD.nd rfl (Ki rfl) (BF NJ Ua T_ CK (pv 1)))
    (ah (aB (i:=5) dD.nd rfl (Ki rfl) (ay bB (bU (aa ar (aa ar (aa ar (aa ar (aa ar (aa ar (aa ar (aa ar ab))))))))) (pq G1 D J1 (aa (pv 0) (aa ag ab))) (λ_ _=>rfl)))
    (ah (aB (i:=6) dD.nd rfl (Ki rfl) (aH (Aw rfl) (by rfl) N.min PyProof.Rows.boot_min (aa (pq G1 D J1 (aa (pv 0) (aa ag ab))) (aa (aH bq (by rfl) N.len NI (aa (pv 1) ab)) ab))))
    (ah (aR (mU (aA lG (pv 2) ag (aF _)) (lq (cM (aA bE (pv 6) ag (aF _)) (cA (aA bE (pv 5) ar (aF _)))).pt)).pt
     (ai (aB (i:=5) dD.nd rfl (Ki rfl) (ay bB (bU (aa ar (aa ar ab))) (pq G1 D J1 (aa (pv 0) (aa ag ab))) (λ_ _=>rfl)))) az)
    (ah (aR (aA (r:=tY K false) cf (pv 5) (aT (aa ar (aa ar ab))) (by rfl)) (ai (aB (i:=6) dD.nd rfl (Ki rfl) ag)) az)
    (ah (aB (i:=7) dD.nd rfl (Ki rfl) (bU ab))
    (ah (cx Np rfl (cy (by rfl) N.range (aa (pv 6) ab)) (aV (i:=8) dD.nd rfl (Ki rfl))
     (ai (aR (aA (Dp hu) (pv 1) (bU ab) (aF _))
      (ai (cu (cw NJ Od Oc cR (pv 7) (aa (pq ih hr JF (aa (pv 0) (aa (pv 1) (aa (aJ bz (pv 2) ag) (aa (GR (pv 3) (bQ (bZ bE (pv 5) ar (aF _)))) ab))))) ab)))) az)))
    (ah (aB (i:=9) dD.nd rfl (Ki rfl) ag)
    (ah (aR (cM (aA (r:=tY K false) cf (pv 5) (aT (aa ar (aa ar (aa ar (aa ar ab))))) (by rfl)) (cA (cX (bJ (pv 3))))).pt
     (ai (aB (i:=9) dD.nd rfl (Ki rfl) (ay bB (bU (aa ag (aa ag (aa ag (aa (aJ bz ag (pq G1 D J1 (aa (pv 0) (aa ag ab)))) ab))))) (pq G1 D J1 (aa (pv 0) (aa ag ab))) (λ_ _=>rfl)))) az)
    (ah (aB (i:=10) dD.nd rfl (Ki rfl) (ay bB (bU (aa (aT (aa ag (aa ag ab))) (aa (aT (aa ag (aa ag ab))) (aa (aT (aa (pq G1 D J1 (aa (pv 0) (aa ag ab))) (aa (pq G1 D J1 (aa (pv 0) (aa ag ab))) ab))) ab)))) (pq G1 D J1 (aa (pv 0) (aa ag ab))) (λ_ _=>rfl)))
    (ah (aB (i:=11) dD.nd rfl (Ki rfl) (aJ oN (pq G1 D J1 (aa (pv 0) (aa ag ab))) (pq G1 D J1 (aa (pv 0) (aa ag ab)))))
    (ah (aB (i:=12) dD.nd rfl (Ki rfl) (aT (aa (pq G2 v0 J2 (aa (pv 0) ab)) (aa (pq G2 v0 J2 (aa (pv 0) ab)) (aa (ay ax (pv 10) ag (λ_ _=>rfl)) (aa (ay ax (pv 10) ag (λ_ _=>rfl)) (aa (pv 11) (aa (pv 9) ab))))))))
    (ai (au (aT (aa (pv 5) (aa (pv 4) (aa (pv 12) (aa (pq G3 hr3 J3 (aa (pv 0) (aa (pv 5) (aa (aH bq (by rfl) N.len NI (aa (pv 7) ab)) ab)))) (aa (aQ a_ (by rfl) N.tuple Ng (aa (pv 7) ab)) ab))))))))))))))))))),?_⟩
   refine aq λN1 s5=>?_
   have l3:(aX.map V.str)[(aX.map V.str).length-1]? =some (.str (aX.getLast X)):=by
    rw[be,B7,<-List.getLast?_eq_getElem?,List.getLast?_eq_some_getLast X];rfl
   have hnm:(aX.getLast X).length<=60:=o1 _ (List.getLast_mem X);have g7:aX=aX.dropLast++[aX.getLast X]:=(List.dropLast_concat_getLast X).symm;generalize aX.getLast X=nm at *;refine⟨_,rfl,.inl ⟨rfl,_,bf.of s3⟩,ln,_,_,rfl,rfl,s3,l3,s5 _ _ ?_⟩;clear s5 N1;have kA:K2 st ln H (upd H ln (.lst (aX.map V.str).dropLast)):=K2.ln;have sA:(upd H ln (.lst (aX.map V.str).dropLast)) st=some (.lst [.int d,.int z]):=(ak p).trans hst
   have nA:(upd H ln (.lst (aX.map V.str).dropLast)) ln=some (.lst (aX.dropLast.map V.str)):=by rw[ae,List.map_dropLast]
   have n0l:aX.dropLast.length+1=aX.length:=by
    rw[Up];have :=List.length_pos_iff.mpr X
    lia
   have n0n:∀x∈aX.dropLast,x.length<=60:=λx hx=>o1 x (List.dropLast_subset _ hx);generalize upd H ln (.lst (aX.map V.str).dropLast)=H1 at *;generalize aX.dropLast=n0 at *;refine aq λN2 o4=>?_;refine⟨(by show 8<=sizeLine;decide),λl8 k6=>?_⟩;have n8:=dC sA k6;have m8:=dC nA k6;have w4:=kA.gone (B9 n8) (B9 m8) k6;have kB:K2 st ln H (upd H1 l8 (.lst [.str "leaf",.str "row",.str "column",.str "wrap",.str "table",.str "words",.str "flow",.str "over"])):=kA.put w4;have sB:(upd H1 l8 (.lst [.str "leaf",.str "row",.str "column",.str "wrap",.str "table",.str "words",.str "flow",.str "over"])) st=some (.lst [.int d,.int z]):=(ak n8).trans sA;have nB:(upd H1 l8 (.lst [.str "leaf",.str "row",.str "column",.str "wrap",.str "table",.str "words",.str "flow",.str "over"])) ln=some (.lst (n0.map V.str)):=(ak m8).trans nA;have v9:(upd H1 l8 (.lst [.str "leaf",.str "row",.str "column",.str "wrap",.str "table",.str "words",.str "flow",.str "over"])) l8=some (.lst [.str "leaf",.str "row",.str "column",.str "wrap",.str "table",.str "words",.str "flow",.str "over"]):=ae;generalize upd H1 l8 (.lst [.str "leaf",.str "row",.str "column",.str "wrap",.str "table",.str "words",.str "flow",.str "over"])=H2 at *;refine⟨_,rfl,st,d,z,8,rfl,sB,by decide,by decide,λv3 d3 z3 v30 v31=>?_⟩;have kC:K2 st ln H (upd H2 st (.lst [.int d3,.int z3])):=kB.trans K2.st;have sC:(upd H2 st (.lst [.int d3,.int z3])) st=some (.lst [.int d3,.int z3]):=ae;have nC:(upd H2 st (.lst [.int d3,.int z3])) ln=some (.lst (n0.map V.str)):=(ak (B9 p)).trans nB;have p5:=(ak (H:=H2) (o:= .lst [.int d3,.int z3]) (B9 n8)).trans v9;generalize upd H2 st (.lst [.int d3,.int z3])=H3 at *;obtain⟨g0,i2,v6⟩:=HL v30 v31;refine⟨l8,_,_,_,rfl,rfl,bf.of p5,i2,o4 _ _ ?_⟩;clear o4 N2 p5 v9 nB sB kB nA sA kA i2;refine aq λN3 u6=>?_;refine⟨_,rfl,st,d3,z3,5,rfl,sC,by decide,by decide,λv4 d4 z4 v40 v41=>?_⟩;have kD:K2 st ln H (upd H3 st (.lst [.int d4,.int z4])):=kC.trans K2.st;have sD:(upd H3 st (.lst [.int d4,.int z4])) st=some (.lst [.int d4,.int z4]):=ae;have nD:(upd H3 st (.lst [.int d4,.int z4])) ln=some (.lst (n0.map V.str)):=(ak (B9 p)).trans nC;generalize upd H3 st (.lst [.int d4,.int z4])=H4 at *;refine⟨_,rfl,ln,_,rfl,.inl (bf.of nD),_,_,rfl,u6 _ _ ?_⟩;rw[be]
   have l0:0<=(if(n0.length:Int)<v4 then(n0.length:Int)else v4)/\(if(n0.length:Int)<v4 then(n0.length:Int)else v4)<=4/\(if(n0.length:Int)<v4 then(n0.length:Int)else v4)<=n0.length:=by split<;>lia
   generalize(if(n0.length:Int)<v4 then(n0.length:Int)else v4)=g6 at *;clear u6 N3 kC sC nC;refine aq λN4 m4=>?_
   have o9:∀(kd:Str)(dd zz:Int)(H5:Hp),L1 kd->(dp=8->kd="leaf"∨kd="words")->(kd="over"->g6≠0)->K2 st ln H H5->H5 st=some (.lst [.int dd,.int zz])->H5 ln=some (.lst (n0.map V.str))->N4 [some (.ref st),some (.ref ln),some (.int (dp:Int)),some (.bl tb),some (.str nm),some (.str kd),some (.int g6),none,none,none,none,none,none] H5:=λkd dd zz H5 k1 hk8 n6 kE sE nE=>by
    refine m4 _ _ ?_;clear m4 N4;refine aq λN5 s0=>?_;refine⟨_,rfl,(by show 2<=sizeLine;decide),λC O=>?_⟩;have n2:=dC sE O;have r6:=dC nE O;have w7:=kE.gone (B9 n2) (B9 r6) O;have kG:K2 st ln H (upd H5 C (.tup [.str "leaf",.str "words"])):=kE.put w7;have sG:(upd H5 C (.tup [.str "leaf",.str "words"])) st=some (.lst [.int dd,.int zz]):=(ak n2).trans sE;have nG:(upd H5 C (.tup [.str "leaf",.str "words"])) ln=some (.lst (n0.map V.str)):=(ak r6).trans nE;have tG:(upd H5 C (.tup [.str "leaf",.str "words"])) C=some (.tup ((["leaf","words"]:List Str).map V.str)):=ae;generalize upd H5 C (.tup [.str "leaf",.str "words"])=H6 at *
    have v2:∀mn:Int,0<=mn->mn<=4->(dp=8->mn=0)->mn<=n0.length->(kd="leaf"∨kd="words"->mn=0)->(kd="over"->mn≠0)->N5 [some (.ref st),some (.ref ln),some (.int (dp:Int)),some (.bl tb),some (.str nm),some (.str kd),some (.int mn),none,none,none,none,none,none] H6:=λmn hm0 hm4 hm8 j1 q5 o2=>by
     refine s0 _ _ ?_;clear s0 N5;refine aq λN6 u9=>?_;refine⟨aG (by simp),λS k4=>u9 _ _ ?_⟩;clear u9 N6;have np:=dC sG k4;have mp:=dC nG k4;have i5:=kG.gone (B9 np) (B9 mp) k4;have kI:K2 st ln H (upd H6 S (.lst [])):=kG.put i5;have sI:(upd H6 S (.lst [])) st=some (.lst [.int dd,.int zz]):=(ak np).trans sG;have nI:(upd H6 S (.lst [])) ln=some (.lst (n0.map V.str)):=(ak mp).trans nG;have pI:(upd H6 S (.lst [])) S=some (.lst (Fo.nil.aD.map V.ref)):=ae;generalize upd H6 S (.lst [])=H7 at *;refine aq λN7 o5=>?_;refine⟨_,rfl,mn,rfl,by lia,by lia,?_⟩
     refine cJ (n:=mn.toNat) (qxA st ln S dp H tb nm kd mn aX n0)
      ⟨none,.nil,n0,dd,zz,rfl,kI,sI,nI,n0n,n0l,pI,trivial,trivial,(by show 0+dp<=8;lia),B2 _,g7,trivial,.inr ⟨rfl,rfl⟩⟩ ?_ ?_
     ·rintro i σ H8 hi ⟨u8,v,c6,d8,z8,rfl,k8,s8,e1,g8,c8,p8,k7,L,l1,ht8,b3,g9,i7⟩;refine⟨_,rfl,aG (by simp),λle e5=>?_⟩;have s2:=dC s8 e5;have x6:=dC e1 e5;have y8:=dC p8 e5;have t6:=k8.gone (B9 s2) (B9 x6) e5;have k9:K2 st ln H (upd H8 le (.lst [])):=k8.put t6;have s9:(upd H8 le (.lst [])) st=some (.lst [.int d8,.int z8]):=(ak s2).trans s8;have B:(upd H8 le (.lst [])) ln=some (.lst (c6.map V.str)):=(ak x6).trans e1;have p9:(upd H8 le (.lst [])) S=some (.lst (v.aD.map V.ref)):=(ak y8).trans p8;have e9:(upd H8 le (.lst [])) le=some (.lst []):=ae;have Y:=k7.keep (KT.put (o:= .lst []) e5);generalize upd H8 le (.lst [])=t at *;refine⟨ln,le,_,rfl,rfl,bf.of B,bf.of e9,_,rfl,?_⟩
      cases c6 with
      |nil=>exact dh ⟨_,v,[],d8,z8,rfl,k9,s9,B,g8,c8,p9,Y,L,l1,by lia,b3,g9,.inl (i7.resolve_right λh9a=>by obtain⟨z1,_⟩:=h9a;exact by rw[<-z1]at j1;have :mn<=0:=j1;lia)⟩
      |cons x r=>
       have m7:0<mn.toNat:=by lia
       have w9:dp+1<=8:=by
        rcases TV dp 8 with z|z
        ·lia
        ·have :=hm8 (by lia);rw[this]at m7;exact absurd m7 (by decide)
       refine eY ⟨_,rfl,.inl ⟨rfl,_,bf.of p9⟩,_,rfl,_,rfl,_,rfl,_,_,rfl,rfl,AK (c:=decide (V.str kd=V.str "table")) rfl (λQ' kq=>⟨_,rfl,rfl,kq⟩) ?_⟩;refine⟨st,ln,d8,z8,x::r,dp+1,_,by rw[SA];rfl,p,s9,B,by simp,by lia,g8,w9,by lia,λa bd cs nms' d' z' H' ha kk ss nn gg cc enm okk good z0 hh=>?_⟩
       have hap:S≠a:=λz=>by rw[<-z,p9]at ha;cases ha
       have pp:H' S=some (.lst (v.aD.map V.ref)):=kk _ _ (B9 np) (B9 mp) p9;have h3:=k9.trans kk;have o3:=Y.keep (KT.k2 kk s9 B);refine⟨S,_,_,rfl,rfl,pp,small (by rw[be];lia),?_⟩;have r7:=KT.lst (ys:=v.aD.map V.ref++[V.ref a]) pp;have hcn:(Fo.cons a bd cs .nil).cnt=cs.cnt+0+1:=rfl;refine⟨_,v.app (.cons a bd cs .nil),nms',d',z',rfl,h3.put i5,(ak np).trans ss,(ak mp).trans nn,gg,?_,?_,?_,Fo.fc.mpr ⟨L,good⟩,?_,?_,?_,qP _ z0 _ g9,.inl ?_⟩
       ·rw[Fo.ee,hcn];rw[FB]at c8 cc
        lia
       ·rw[ae,Fo.bx,Da];rfl
       ·exact Fo.fS.mpr ⟨o3.keep r7,okk.keep r7⟩
       ·rw[Fo.fI];show max v.bW (max (cs.bW+1) 0)+dp<=8
        lia
       ·rw[Fo.bx,B1];show v.aD.length+1<=i+1;exact Ik
       ·rw[b3,enm,eG];show nms'++(bd.nm::aM cs).reverse++(nm::aM v).reverse=nms'++(nm::(aM v++(bd.nm::(aM cs++[])))).reverse;rw[Dk,<-Pb,RS,IR]
       ·rw[Fo.bx,B1];show 0<v.aD.length+1;exact M0
     rintro σ H8 ⟨u8,v,c6,d8,z8,rfl,k8,s8,e1,g8,c8,p8,k7,L,l1,ht8,b3,g9,i7⟩;refine o5 _ _ ?_;clear o5 N7;refine aq λN8 o7=>o7 _ _ ?_;clear o7 N8;refine aq λN9 l9=>?_
     have l2:∀(al d9 z9:Int)(t:Hp),bG al->((0<=al/\al<=9)/\(0<al->tb=false/\Ef kd))->K2 st ln H t->t st=some (.lst [.int d9,.int z9])->t ln=some (.lst (c6.map V.str))->t S=some (.lst (v.aD.map V.ref))->v.Ok t->N9 [some (.ref st),some (.ref ln),some (.int (dp:Int)),some (.bl tb),some (.str nm),some (.str kd),some (.int mn),some (.ref S),u8,some (.int al),none,none,none] t:=λal d9 z9 t gal val k9 s9 B p9 Y=>by
      refine l9 _ _ ?_;clear l9 N9;refine aq λN10 i3=>?_;refine⟨(by show 2<=sizeLine;decide),λt1 e3=>?_⟩;have a1:=dC s9 e3;have a2:=dC B e3;have a3:=dC p9 e3;have r4:=KT.put (o:= .tup [.int 1,.int 1]) e3;have c3:K2 st ln H (upd t t1 (.tup [.int 1,.int 1])):=k9.put (k9.gone (B9 a1) (B9 a2) e3);have c7:=(ak (H:=t) (o:= .tup [.int 1,.int 1]) a1).trans s9;have J:=(ak (H:=t) (o:= .tup [.int 1,.int 1]) a2).trans B;have b8:=(ak (H:=t) (o:= .tup [.int 1,.int 1]) a3).trans p9;have q6:(upd t t1 (.tup [.int 1,.int 1])) t1=some (.tup [.int 1,.int 1]):=ae;have b2:=Y.keep r4;generalize upd t t1 (.tup [.int 1,.int 1])=u at *;refine⟨(by show 2<=sizeLine;decide),λC O=>?_⟩;have x0:=dC c7 O;have v7:=dC J O;have b3':=dC b8 O;have k5:=KT.put (o:= .tup [.int 0,.int 1]) O;have g5:K2 st ln H (upd u C (.tup [.int 0,.int 1])):=c3.put (c3.gone (B9 x0) (B9 v7) O);have d0:=(ak (H:=u) (o:= .tup [.int 0,.int 1]) x0).trans c7;have b6:=(ak (H:=u) (o:= .tup [.int 0,.int 1]) v7).trans J;have f9:=(ak (H:=u) (o:= .tup [.int 0,.int 1]) b3').trans b8;have r9:=k5 _ _ q6;have n3:(upd u C (.tup [.int 0,.int 1])) C=some (.tup [.int 0,.int 1]):=ae;have b5:=b2.keep k5;generalize upd u C (.tup [.int 0,.int 1])=b7 at *;refine⟨_,rfl,st,d9,z9,100,rfl,d0,by decide,by decide,λx1 G I w8 x11=>?_⟩;have h9:=KT.lst (ys:=[.int G,.int I]) d0;have h3:K2 st ln H (upd b7 st (.lst [.int G,.int I])):=g5.trans K2.st;have m5:(upd b7 st (.lst [.int G,.int I])) st=some (.lst [.int G,.int I]):=ae;have j4:=(ak (H:=b7) (o:= .lst [.int G,.int I]) (B9 p)).trans b6;have v8:=(ak (H:=b7) (o:= .lst [.int G,.int I]) (B9 np)).trans f9;generalize upd b7 st (.lst [.int G,.int I])=e7 at *;refine⟨_,rfl,st,G,I,100,rfl,m5,by decide,by decide,λx2 T a4 s7 x21=>?_⟩;have h5:=h9.trans (KT.lst (ys:=[.int T,.int a4]) m5);have m2:K2 st ln H (upd e7 st (.lst [.int T,.int a4])):=h3.trans K2.st;have m0:(upd e7 st (.lst [.int T,.int a4])) st=some (.lst [.int T,.int a4]):=ae;have e6:=(ak (H:=e7) (o:= .lst [.int T,.int a4]) (B9 p)).trans j4;have m1:=(ak (H:=e7) (o:= .lst [.int T,.int a4]) (B9 np)).trans v8;generalize upd e7 st (.lst [.int T,.int a4])=c9 at *;refine⟨(by show 2<=sizeLine;decide),λt3 e8=>?_⟩;have q4:=dC m0 e8;have p2:=dC e6 e8;have c3':=dC m1 e8;have j2:=h5.trans (KT.put (o:= .tup [.int x1,.int x2]) e8);have l6:K2 st ln H (upd c9 t3 (.tup [.int x1,.int x2])):=m2.put (m2.gone (B9 q4) (B9 p2) e8);have j5:=(ak (H:=c9) (o:= .tup [.int x1,.int x2]) q4).trans m0;have e0:=(ak (H:=c9) (o:= .tup [.int x1,.int x2]) p2).trans e6;have m6:=(ak (H:=c9) (o:= .tup [.int x1,.int x2]) c3').trans m1;have r8:(upd c9 t3 (.tup [.int x1,.int x2])) t3=some (.tup [.int x1,.int x2]):=ae;generalize upd c9 t3 (.tup [.int x1,.int x2])=c5 at *;refine⟨(by show 3<=sizeLine;decide),λls c0=>?_⟩;have k3:=dC j5 c0;have o0:=dC e0 c0;have d3':=dC m6 c0;have h6:=j2.trans (KT.put (o:= .lst [.ref t1,.ref C,.ref t3]) c0);have q0:=KT.put (o:= .lst [.ref t1,.ref C,.ref t3]) c0 _ _ r8;have p1:K2 st ln H (upd c5 ls (.lst [.ref t1,.ref C,.ref t3])):=l6.put (l6.gone (B9 k3) (B9 o0) c0);have j6:=(ak (H:=c5) (o:= .lst [.ref t1,.ref C,.ref t3]) k3).trans j5;have i9:=(ak (H:=c5) (o:= .lst [.ref t1,.ref C,.ref t3]) o0).trans e0;have t8:=(ak (H:=c5) (o:= .lst [.ref t1,.ref C,.ref t3]) d3').trans m6;have x9:(upd c5 ls (.lst [.ref t1,.ref C,.ref t3])) ls=some (.lst [.ref t1,.ref C,.ref t3]):=ae;generalize upd c5 ls (.lst [.ref t1,.ref C,.ref t3])=b9 at *;refine⟨_,rfl,st,T,a4,3,rfl,j6,by decide,by decide,λx3 R M x30 x31=>?_⟩;have a7:=KT.lst (ys:=[.int R,.int M]) j6;have b1:=h6.trans a7;have u4:=a7 _ _ q0;have y9:K2 st ln H (upd b9 st (.lst [.int R,.int M])):=p1.trans K2.st;have s1:(upd b9 st (.lst [.int R,.int M])) st=some (.lst [.int R,.int M]):=ae;have u7:=(ak (H:=b9) (o:= .lst [.int R,.int M]) (B9 p)).trans i9;have p16:=(ak (H:=b9) (o:= .lst [.int R,.int M]) (B9 np)).trans t8;have r0:=(ak (H:=b9) (o:= .lst [.int R,.int M]) (B9 k3)).trans x9;generalize upd b9 st (.lst [.int R,.int M])=a5 at *;obtain⟨tx,o6,p0⟩:=Io (a:=t1) (b:=C) (c:=t3) x30 x31;refine⟨ls,_,_,_,rfl,rfl,bf.of r0,o6,i3 _ _ ?_⟩
      have hsh:∃g1 g2:Int,a5 tx=some (.tup [.int g1,.int g2])/\(bG g1/\bG g2)/\(0<=g1/\g1<=99)/\0<=g2/\g2<=99:=by
       rcases p0 with z|z|z<;>rw[z]
       ·exact⟨_,_,b1 _ _ r9,⟨bK (by decide) (by decide),bK (by decide) (by decide)⟩,⟨by decide,by decide⟩,by decide,by decide⟩
       ·exact⟨_,_,b1 _ _ n3,⟨bK (by decide) (by decide),bK (by decide) (by decide)⟩,⟨by decide,by decide⟩,by decide,by decide⟩
       ·exact⟨_,_,u4,⟨bK w8 DU,bK s7 DU⟩,⟨w8,by lia⟩,s7,by lia⟩
      obtain⟨g1,g2,hsx,⟨gg1,y7⟩,vg1,vg2⟩:=hsh;have x7:=b5.keep b1;clear i3 N10 p0 o6 r0 u4 b1 a7 h6 j2 h5 h9 q0 r8 r9 n3 q6 r4 k5 b2 b5 x9;clear p1 j6 i9 t8 l6 j5 e0 m6 m2 m0 e6 m1 h3 m5 j4 v8 g5 d0 b6 f9 c3 c7 J b8;refine aq λy5 i6=>?_;refine⟨_,rfl,st,R,M,10,rfl,s1,by decide,by decide,λr1 a9 a8 q9 r11=>?_⟩;refine⟨_,rfl,st,a9,a8,2,rfl,ae,by decide,by decide,λW Z U r20 r21=>?_⟩;have h7:KT a5 (upd (upd a5 st (.lst [.int a9,.int a8])) st (.lst [.int Z,.int U])):=(KT.lst s1).trans (KT.lst ae);have n1:K2 st ln H (upd (upd a5 st (.lst [.int a9,.int a8])) st (.lst [.int Z,.int U])):=(y9.trans K2.st).trans K2.st;have h4:(upd (upd a5 st (.lst [.int a9,.int a8])) st (.lst [.int Z,.int U])) st=some (.lst [.int Z,.int U]):=ae
      have i0:(upd (upd a5 st (.lst [.int a9,.int a8])) st (.lst [.int Z,.int U])) ln=some (.lst (c6.map V.str)):=by rw[ak (B9 p),ak (B9 p)];exact u7
      have w3:(upd (upd a5 st (.lst [.int a9,.int a8])) st (.lst [.int Z,.int U])) S=some (.lst (v.aD.map V.ref)):=by rw[ak (B9 np),ak (B9 np)];exact p16
      generalize upd (upd a5 st (.lst [.int a9,.int a8])) st (.lst [.int Z,.int U])=H18 at *
      have w5:bG (r1*W)/\0<=r1*W/\r1*W<=9:=by
       have e:W=0∨W=1:=by lia
       rcases e with e|e<;>rw[e]
       ·rw[Int.mul_zero];exact⟨hV,by decide,by decide⟩
       ·rw[Int.mul_one];exact⟨bK q9 DU,q9,by lia⟩
      refine⟨_,_,rfl,rfl,.inl ⟨by lia,DU⟩,i6 _ _ ?_⟩;clear i6 y5;refine aq λN12 i8=>?_;refine⟨_,rfl,st,Z,U,rfl,h4,λta w0 w1 d19 z19 H19 x8 i4 s19 a19 gw0 gw1 vw=>?_⟩
      have nta:ta≠st:=λz=>by rw[z,h4]at x8;cases x8
      refine⟨_,rfl,st,d19,z19,rfl,s19,λtv h0 h1 d20 z20 c4 htv f5 j7 w6 z2 z5 vh=>?_⟩;have r5:=f5 _ _ nta a19;have g:=i4.trans f5;have k0:=n1.trans (K2.kp (ln:=ln) g);have d5:=g _ _ (B9 p) i0;have m3:=g _ _ (B9 np) w3;have f6:=h7.trans (KT.kp g h4);have f8:=f6 _ _ hsx;refine⟨_,rfl,tx,_,_,_,rfl,rfl,ba.of f8,aN (j:=0) rfl,_,rfl,tx,_,_,_,rfl,rfl,ba.of f8,aN (j:=1) rfl,_,rfl,_,rfl,(by show 6<=sizeLine;decide),λto f7=>i8 _ _ ?_⟩;clear i8 N12;have t5:=dC j7 f7;have p6:=dC d5 f7;have e3':=dC m3 f7;have g3:=KT.put (o:= .tup [.ref ta,.ref tv,.int g1,.int g2,.int (r1*W),.int al]) f7;have k21:K2 st ln H (upd c4 to (.tup [.ref ta,.ref tv,.int g1,.int g2,.int (r1*W),.int al])):=k0.put (k0.gone (B9 t5) (B9 p6) f7);have v1:=(ak (H:=c4) (o:= .tup [.ref ta,.ref tv,.int g1,.int g2,.int (r1*W),.int al]) t5).trans j7;have u0:=(ak (H:=c4) (o:= .tup [.ref ta,.ref tv,.int g1,.int g2,.int (r1*W),.int al]) p6).trans d5;have u5:=(ak (H:=c4) (o:= .tup [.ref ta,.ref tv,.int g1,.int g2,.int (r1*W),.int al]) e3').trans m3;have l4:hH (upd c4 to (.tup [.ref ta,.ref tv,.int g1,.int g2,.int (r1*W),.int al])) to ⟨w0,w1,h0,h1,g1,g2,r1*W,al⟩:=⟨ta,tv,ae,g3 _ _ r5,g3 _ _ w6⟩;have p4:=(x7.keep f6).keep g3;generalize upd c4 to (.tup [.ref ta,.ref tv,.int g1,.int g2,.int (r1*W),.int al])=H21 at *;clear k0 j7 d5 m3 r5 w6 f8 f6 g f5 i4 h7 n1 h4 i0 w3 g3
      have htl:v.aD.length<=4:=by lia
      refine⟨_,rfl,_,rfl,_,rfl,_,rfl,_,rfl,_,rfl,S,_,rfl,.inl (bf.of u5),st,d20,z20,kd,v.aD.length,by rw[be];rfl,v1,k1,vY,λz=>(by have :=q5 z;lia),λz=>(by have :=o2 z;lia),λq wh d22 y4 d7 hq b4 w2 n5 gwh j9 fwh vwh=>?_⟩;have p22:=b4 _ _ (B9 np) u5;have j3:=KT.kp b4 v1;refine⟨_,rfl,S,_,rfl,.inl ⟨bf.of p22,λtp g4=>?_⟩⟩;have i1:=b4 _ _ (B9 p) u0;have s6:=dC w2 g4;have m9:=dC i1 g4;have s4:=k21.trans (K2.kp (ln:=ln) b4);have e4:=KT.put (o:= .tup (v.aD.map V.ref)) g4;have n7:K2 st ln H (upd d7 tp (.tup (v.aD.map V.ref))):=s4.put (s4.gone (B9 s6) (B9 m9) g4);have t7:=(ak (H:=d7) (o:= .tup (v.aD.map V.ref)) s6).trans w2;have j0:=(ak (H:=d7) (o:= .tup (v.aD.map V.ref)) m9).trans i1;have u3:(upd d7 tp (.tup (v.aD.map V.ref))) tp=some (.tup (v.aD.map V.ref)):=ae;have l7:=(l4.keep j3).keep e4;have p3:=n5.keep e4;have p7:=(p4.keep j3).keep e4;generalize upd d7 tp (.tup (v.aD.map V.ref))=H23 at *;refine⟨(by show 5<=sizeLine;decide),λa ha=>?_⟩;have o8:=dC t7 ha;have t0:=dC j0 ha;have n4:=n7.gone (B9 o8) (B9 t0) ha;have b0:=KT.put (o:= .tup [.str kd,.str nm,.ref to,.ref q,.ref tp]) ha;refine k a ⟨nm,⟨w0,w1,h0,h1,g1,g2,r1*W,al⟩,wh⟩ v c6 d22 y4 _ n4 (n7.put n4) ((ak o8).trans t7) ((ak t0).trans j0) g8 c8 b3 ⟨⟨to,q,tp,?_,l7.keep b0,p3.keep b0,b0 _ _ u3⟩,p7.keep b0,trivial⟩ ⟨⟨gwh,⟨gw0,gw1,z2,z5,gg1,y7,w5.1,gal⟩,hnm,fwh⟩,L,trivial⟩ ⟨⟨⟨vw,vh,vg1,vg2,w5.2,val.1⟩,vwh,by rw[j9];exact val.2⟩,by rw[j9];exact g9,trivial⟩ l1;rw[ae];show some (HO.tup [V.str kd,.str nm,.ref to,.ref q,.ref tp])=some (HO.tup [V.str wh.kd,.str nm,.ref to,.ref q,.ref tp]);rw[j9]
     clear l9;refine⟨_,rfl,(by show 4<=sizeLine;decide),λt4 f0=>?_⟩;have q1:=dC s8 f0;have q2:=dC e1 f0;have q3:=dC p8 f0;have kt4:=KT.put (o:= .tup [.str "leaf",.str "row",.str "column",.str "wrap"]) f0;have k9:K2 st ln H (upd H8 t4 (.tup [.str "leaf",.str "row",.str "column",.str "wrap"])):=k8.put (k8.gone (B9 q1) (B9 q2) f0);have s9:=(ak (H:=H8) (o:= .tup [.str "leaf",.str "row",.str "column",.str "wrap"]) q1).trans s8;have B:=(ak (H:=H8) (o:= .tup [.str "leaf",.str "row",.str "column",.str "wrap"]) q2).trans e1;have p9:=(ak (H:=H8) (o:= .tup [.str "leaf",.str "row",.str "column",.str "wrap"]) q3).trans p8;have t9:(upd H8 t4 (.tup [.str "leaf",.str "row",.str "column",.str "wrap"])) t4=some (.tup [.str "leaf",.str "row",.str "column",.str "wrap"]):=ae;have Y:=k7.keep kt4;generalize upd H8 t4 (.tup [.str "leaf",.str "row",.str "column",.str "wrap"])=t at *;refine⟨t4,_,rfl,.inr (ba.of t9),rfl,rfl,_,rfl,dM (λc1=>?_) (λ_=>dh (l2 0 d8 z8 t hV ⟨⟨by decide,by decide⟩,λz=>absurd z (by decide)⟩ k9 s9 B p9 Y))⟩;refine⟨_,rfl,_,rfl,dM (λc2=>?_) (λ_=>l2 0 d8 z8 t hV ⟨⟨by decide,by decide⟩,λz=>absurd z (by decide)⟩ k9 s9 B p9 Y)⟩;refine⟨_,rfl,st,d8,z8,8,rfl,s9,by decide,by decide,λy1 a6 a0 y10 y11=>?_⟩;have y3:=KT.lst (ys:=[.int a6,.int a0]) s9;have c3:K2 st ln H (upd t st (.lst [.int a6,.int a0])):=k9.trans K2.st;have c7:(upd t st (.lst [.int a6,.int a0])) st=some (.lst [.int a6,.int a0]):=ae;have J:=(ak (H:=t) (o:= .lst [.int a6,.int a0]) (B9 p)).trans B;have b8:=(ak (H:=t) (o:= .lst [.int a6,.int a0]) (B9 np)).trans p9;have b2:=Y.keep y3;generalize upd t st (.lst [.int a6,.int a0])=u at *;refine⟨_,_,rfl,rfl,(by show 4<=sizeLine;decide),λla e2=>?_⟩;have r1:=dC c7 e2;have W:=dC J e2;have r3:=dC b8 e2;have q7:=KT.put (o:= .lst [.int 0,.int 0,.int 1,.int (2+y1)]) e2;have g5:K2 st ln H (upd u la (.lst [.int 0,.int 0,.int 1,.int (2+y1)])):=c3.put (c3.gone (B9 r1) (B9 W) e2);have d0:=(ak (H:=u) (o:= .lst [.int 0,.int 0,.int 1,.int (2+y1)]) r1).trans c7;have b6:=(ak (H:=u) (o:= .lst [.int 0,.int 0,.int 1,.int (2+y1)]) W).trans J;have f9:=(ak (H:=u) (o:= .lst [.int 0,.int 0,.int 1,.int (2+y1)]) r3).trans b8;have l11:(upd u la (.lst [.int 0,.int 0,.int 1,.int (2+y1)])) la=some (.lst [.int 0,.int 0,.int 1,.int (2+y1)]):=ae;have b5:=b2.keep q7;generalize upd u la (.lst [.int 0,.int 0,.int 1,.int (2+y1)])=b7 at *;refine⟨_,rfl,st,a6,a0,4,rfl,d0,by decide,by decide,λy2 G I y6 y21=>?_⟩;obtain⟨al,z7,halc⟩:=Im (a:=2+y1) y6 y21;refine⟨la,_,_,_,rfl,rfl,bf.of ((ak (B9 r1)).trans l11),z7,?_⟩;have q8:Ef kd:=BU c1;exact l2 al G I _ (bK (by lia) (by lia)) ⟨by lia,λ_=>⟨by simpa using c2,q8⟩⟩ (g5.trans K2.st) ae ((ak (B9 p)).trans b6) ((ak (B9 np)).trans f9) (b5.keep (KT.lst d0))
    refine⟨C,_,rfl,.inr (ba.of tG),rfl,rfl,_,rfl,?_⟩
    show if gu (.str kd) ((["leaf","words"]:List Str).map V.str)=true then _ else _
    rw[iy]
    have ov:kd∈(["leaf","words"]:List Str)->kd≠"over":=λz e=>by
     rw[e]at z
     revert z
     decide +kernel
    have lw:kd="leaf"∨kd="words"->kd∈(["leaf","words"]:List Str):=λz=>by rcases z with z|z<;>rw[z]<;>simp
    refine dM (λc=>v2 0 DX DX (λ_=>rfl) (by lia) (λ_=>rfl) λz=>absurd z (ov (of_decide_eq_true c))) (λc=>v2 g6 l0.1 l0.2.1 (λh8=>absurd (decide_eq_true (lw (hk8 h8))) c) l0.2.2 (λz=>absurd (decide_eq_true (lw z)) c) n6)
   have f4:=λ(h8:dp=8->g0="leaf"∨g0="words") (ho:g0="over"->g6≠0)=>o9 g0 d4 z4 H4 v6 h8 ho kD sD nD
   have j8:∀(l:B3),H4 l=none->K2 st ln H (upd H4 l (.lst [.str "leaf",.str "words"]))/\(upd H4 l (.lst [.str "leaf",.str "words"])) st=some (.lst [.int d4,.int z4])/\(upd H4 l (.lst [.str "leaf",.str "words"])) ln=some (.lst (n0.map V.str))/\l≠st:=λl hl=>by
    have u1:=dC sD hl;have u2:=dC nD hl;exact⟨kD.put (kD.gone (B9 u1) (B9 u2) hl),(ak u1).trans sD,(ak u2).trans nD,B9 u1⟩
   clear m4;refine⟨_,rfl,_,_,rfl,rfl,_,rfl,dM (λc=>?_) (λc=>?_)⟩
   case' refine_2=>
    have v5:dp≠8:=λe=>c (decide_eq_true (by rw[e];decide));refine⟨_,rfl,rfl,_,rfl,dM (λ_=>?_) (λq=>dh (f4 (λe=>absurd e v5) λ_ e=>q (decide_eq_true (by rw[e]))))⟩;refine⟨_,rfl,rfl,_,rfl,dM (λ_=>?_) (λq=>f4 (λe=>absurd e v5) λe=>absurd (decide_eq_true (by rw[e])) q)⟩
   case' refine_1=>refine eY ?_
   all_goals
    refine⟨(by show 2<=sizeLine;decide),λl hl=>?_⟩;obtain⟨x1,x2,x3,x4⟩:=j8 l hl;have x5:(upd H4 l (.lst [.str "leaf",.str "words"])) l=some (.lst [.str "leaf",.str "words"]):=ae;generalize upd H4 l (.lst [.str "leaf",.str "words"])=H5 at *;refine⟨_,rfl,st,d4,z4,2,rfl,x2,by decide,by decide,λy d6 z6 y0 y1=>?_⟩;obtain⟨kd,k1,l5⟩:=JC y0 y1;refine⟨l,_,_,_,rfl,rfl,bf.of ((ak x4).trans x5),k1,?_⟩;exact o9 kd d6 z6 _ (by rcases l5 with z|z;exact .inl z;exact .inr (.inr (.inr (.inl z)))) (λ_=>l5) (λe=>by exfalso;rcases l5 with z|z<;>rw[z]at e<;>revert e<;>decide +kernel) (x1.trans K2.st) ae ((ak (B9 p)).trans x3)
end B11P
namespace B11
open PySem L2 S2
open DW B11P
def pF(te:TE)(σ:St)(H:Hp):Prop:=∀(H1:Hp)(Q:VK),af H H1->(∀H2,af H1 H2->Q (.bl true) H2)->te σ H1 Q
def Ap(tt:TT)(σ:St)(H:Hp):Prop:=∀(H1:Hp)(Q:Bool->Hp->Prop),af H H1->(∀H2,af H1 H2->Q true H2)->tt σ H1 Q
def Val(te:TE)(σ:St)(H:Hp)(v:V):Prop:=∀(H1:Hp)(Q:VK),af H H1->Q v H1->te σ H1 Q
inductive Kx(C:V->Hp->Prop)(vs:List V)(H:Hp)(Q:VK):Prop
 |mk (v:_) (c0:vs=[v]) (c1:C v H) (c2:∀H',af H H'->Q (.bl true) H')
def cL(C:V->Hp->Prop):Sp:=λvs H Q _=>Kx C vs H Q
inductive Lq(C:V->V->Hp->Prop)(vs:List V)(H:Hp)(Q:VK):Prop
 |mk (v:_) (u:_) (c0:vs=[v,u]) (c1:C v u H) (c2:∀H',af H H'->Q (.bl true) H')
def df(C:V->V->Hp->Prop):Sp:=λvs H Q _=>Lq C vs H Q
inductive K7(C:V->V->V->Hp->Prop)(vs:List V)(H:Hp)(Q:VK):Prop
 |mk (v:_) (u:_) (x:_) (c0:vs=[v,u,x]) (c1:C v u x H) (c2:∀H',af H H'->Q (.bl true) H')
def nr(C:V->V->V->Hp->Prop):Sp:=λvs H Q _=>K7 C vs H Q
variable{D0:Ends}{E:XK}{H H' H0:Hp}{a f f1 f2 f3 f4 f5 f6 f7 f8 f9 l C aP:B3}{as:List B3}{i j m c:Nat}{ta te:TE}{tt:TT}{v:V}{xs:List V}{σ:St}{P:Og}{ad:Nat->B3}{base:ON}{d1 d2 d3 d4 d5 d6 d7 d8 d9 fd:O4}{mg:Str->Option B5}{tk:Nat->Tok}{w:Ox}{x y s:Str}{ws:List (List Str)}{X:Cx}{b:Int}{p:(Str×Int)×(Str×Int)}{Q:VK}
section
variable{K:mo}{tb tc tx ty tz:TE}{tu:TT}{u x:V}{m n l:Int}
theorem bM(a:pF ta σ H)(b:pF tb σ H):pF (GQ ta tb) σ H:=λH1 Q s k=>a H1 _ s λH2 s2=>⟨true,rfl,eY (b H2 Q (af.trans s s2) λH3 c=>k H3 (af.trans s2 c))⟩
theorem eJ(a:Ap tt σ H)(b:Ap tu σ H):Ap (KO tt tu) σ H:=λH1 Q s k=>a H1 _ s λH2 s2=>eY (b H2 Q (af.trans s s2) λH3 c=>k H3 (af.trans s2 c))
theorem cF(h:pF ta σ H):Ap (tB ta) σ H:=λH1 Q s k=>h H1 _ s λH2 s2=>⟨true,rfl,k H2 s2⟩
theorem rr(h:pF ta σ H):Ap (Bj ta) σ H:=λH1 Q s k=>h H1 _ s λH2 s2=>⟨true,rfl,k H2 s2⟩
theorem eu{ts:TS}(hA:Ap tt σ H)(hB:∀H',af H H'->ts D0 σ H'):HC (Lo (KI tt) (EA (tC (.bl false))) GF) ts D0 σ H:=hA H _ (af.refl _) λH1 s1=>dh (hB H1 s1)
theorem y_ret(h:pF te σ H)(s:af H H')(k:∀H2,af H H2->D0.rt (.bl true) H2):EA te D0 σ H':=h H' _ s λH2 s2=>k H2 (af.trans s s2)
theorem v_var(h:σ[i]? =some (some v)):Val (kh i) σ H v:=λH1 Q _ k=>⟨v,h,k⟩
theorem d_:Val (tC v) σ H v:=λH1 Q _ k=>k
theorem dj(h:Val tx σ H (.ref a))(ha:H a=some (.tup xs))(b:xs[j]? =some v):Val (Ad (DB K) tx (tC (.int (j:Int)))) σ H v:=λH1 Q s k=>h H1 _ s ⟨a,xs,_,v,rfl,rfl,ba.of (s _ _ ha),aN b,k⟩
theorem CI(h:Val tx σ H (.ref a))(ha:H a=some (.tup xs)):Val (CT (qyL K) (cG tx fu)) σ H (.int xs.length):=λH1 Q s k=>h H1 _ s ⟨a,xs,rfl,.inr (ba.of (s _ _ ha)),k⟩
theorem JA(h:Val tx σ H (.int n)):Val (ME (rU λi=> .int (-i)) tx) σ H (.int (-n)):=λH1 Q s k=>h H1 _ s ⟨n,rfl,k⟩
theorem v_sub(h:Val tx σ H (.int m))(g:Val ty σ H (.int n)):Val (Ad (zD λi j=> .int (i-j)) tx ty) σ H (.int (m-n)):=λH1 Q s k=>h H1 _ s (g H1 _ s ⟨m,n,rfl,rfl,k⟩)
theorem FY(h:Val tx σ H (.int m))(g:Val ty σ H (.int n))(e:m<=n):pF (Ad (zD λi j=> .bl (decide (i<=j))) tx ty) σ H:=λH1 Q s k=>h H1 _ s (g H1 _ s ⟨m,n,rfl,rfl,by show Q (.bl (decide (m<=n))) H1;rw[decide_eq_true e];exact k H1 (af.refl _)⟩)
theorem pL(h:Val tx σ H (.int l))(g:Val ty σ H (.int m))(i:Val tz σ H (.int n))(a:l<=m)(b:m<=n):pF (vT (zD λi j=> .bl (decide (i<=j))) (zD λi j=> .bl (decide (i<=j))) tx ty tz) σ H:=λH1 Q s k=>h H1 _ s (g H1 _ s ⟨l,m,rfl,rfl,_,rfl,by
 rw[decide_eq_true a]
 exact eY (i H1 _ s ⟨m,n,rfl,rfl,by show Q (.bl (decide (m<=n))) H1;rw[decide_eq_true b];exact k H1 (af.refl _)⟩)⟩)
theorem y_eq(h:Val tx σ H v)(g:Val ty σ H v)(f:Fi v v=true):pF (Ad Mw tx ty) σ H:=λH1 Q s k=>h H1 _ s (g H1 _ s ⟨f,by rw[decide_eq_true rfl];exact k H1 (af.refl _)⟩)
theorem FA{z:Str}{ws:List Str}(hz:z∈ws)(h:Val tx σ H (.str z))(g:Val ty σ H (.ref a))(ha:∀H,ba K H a (ws.map V.str)):pF (Ad (tY K false) tx ty) σ H:=λH1 Q s k=>h H1 _ s (g H1 _ s ⟨a,_,rfl,.inr (ha H1),rfl,by rw[QM];exact List.all_eq_true.mpr λ_ _=>rfl,by
 show Q (.bl (gu (.str z) (ws.map V.str))) H1;rw[iy,decide_eq_true hz]
 exact k H1 (af.refl _)⟩)
theorem Kw(h:Val tx σ H v)(g:Val ty σ H u)(f:Fi v u=true)(e:¬v=u):pF (Ad MB tx ty) σ H:=λH1 Q s k=>h H1 _ s (g H1 _ s ⟨f,by rw[decide_eq_false e];exact k H1 (af.refl _)⟩)
theorem Dq{z:Str}(h:Val tx σ H (.str z))(hn:z.length<=100000):Val (CT qyF (cG tx fu)) σ H (.int z.length):=λH1 Q s k=>h H1 _ s ⟨z,rfl,aG hn,k⟩
theorem Cc{z:Str}(h:Val tx σ H (.str z))(hn:z.length<=100000)(he:∀c∈z.cps.toList,pF ta (some (.str ⟨#[c]⟩)::σ) H):pF (CT (Br K) (cG (qG (K8 tx) jE ta) fu)) σ H:=λH1 Q s k=>h H1 _ s ⟨z,rfl,lT (α:=Nat) (l:=z.cps.toList) (λc=> .str ⟨#[c]⟩) (λ_=>true) (λ_=> .bl true) (gp.str _ _) (small (by rw[Ni];exact hn)) (λ_ H' b _ _ a=>a _ (af.refl _)) (λp H' b _ j s' a=>he p j H' b (af.trans s s') a) λg d m f i=>by
 refine⟨g,z.cps.toList.map λ_=>true,rfl,bf.of (by rw[i,List.filter_eq_self.mpr λ_ _=>rfl,NO];rfl),?_⟩;rw[List.all_eq_true.mpr λz e=>by obtain⟨_,_,rfl⟩:=List.mem_map.mp e;rfl]
 exact k d f⟩
theorem w_(h:Val tx σ H (.ref a))(ha:H a=some (.tup xs))(b:xs[i]? =some v):Val (ie (B11P.di i) [] E (cG tx fu)) σ H v:=λH1 Q s k=>h H1 _ s ⟨a,xs,v,rfl,s _ _ ha,b,k⟩
theorem EX{ws:List (List V)}(h:Val tx σ H (.ref a))(ha:H a=some (.tup (as.map V.ref)))(c:bp H as ws)(hn:as.length<=100000)(v:(ws.map λw=>(w.length:Int)).sum<=n):pF (Ad (zD λi j=> .bl (decide (i<=j))) (CT (GD K) (cG (qG (HG K tx) jE (CT (qyL K) (cG (kh 0) fu))) fu)) (tC (.int n))) σ H:=λH1 Q s k=>h H1 _ s ⟨a,rfl,⟨_,ba.of (s _ _ ha)⟩,lT (α:=B3×List V) (l:=as.zip ws) (λp=> .ref p.1) (λ_=>true) (λp=> .int (p.2.length:Int)) (by
  have e:(as.zip ws).map (λp=>V.ref p.1)=as.map V.ref:=by
   rw[show(λp:B3×List V=>V.ref p.1)=V.ref∘SU from rfl,<-NO,Sk (by rw[c.1];exact B2 _)]
  rw[e]
  exact gp.tup (s _ _ ha)) (small (by rw[Sx];lia)) (λ_ H' m _ _ b=>b _ (af.refl _)) (λp H' m _ u s' b=>by
  obtain⟨j,t⟩:=OY u;obtain⟨x,g⟩:=vO t
  exact⟨_,rfl,p.1,p.2,rfl,.inr (ba.of (s' _ _ (s _ _ (c.2 j _ _ x g)))),b H' (af.refl _)⟩) λq d y o r=>by
  refine⟨q,(as.zip ws).map λp=>(p.2.length:Int),rfl,bf.of (by rw[r,List.filter_eq_self.mpr λ_ _=>rfl,NO];rfl),_,_,rfl,rfl,?_⟩;show Q (.bl (decide (((as.zip ws).map λp=>(p.2.length:Int)).sum<=n))) d;rw[u_ (f:=λw:List V=>(w.length:Int)) c.1,decide_eq_true v]
  exact k d o⟩
theorem lB{C:V->Hp->Prop}(h:Val tx σ H v)(c:∀H1,af H H1->C v H1):pF (ie (cL C) [] E (cG tx fu)) σ H:=λH1 Q s k=>h H1 _ s ⟨v,rfl,c H1 s,k⟩
theorem oi{C:V->V->Hp->Prop}(h:Val tx σ H v)(g:Val ty σ H u)(c:∀H1,af H H1->C v u H1):pF (ie (df C) [] E (cG tx (cG ty fu))) σ H:=λH1 Q s k=>h H1 _ s (g H1 _ s ⟨v,u,rfl,c H1 s,k⟩)
theorem AG{C:V->V->V->Hp->Prop}(h:Val tx σ H v)(g:Val ty σ H u)(i:Val tz σ H x)(c:∀H1,af H H1->C v u x H1):pF (ie (nr C) [] E (cG tx (cG ty (cG tz fu)))) σ H:=λH1 Q s k=>h H1 _ s (g H1 _ s (i H1 _ s ⟨v,u,x,rfl,c H1 s,k⟩))
theorem tJ(h:Val tx σ H (.ref a))(ha:H a=some (.tup xs))(hn:xs.length<=100000)(he:∀x∈xs,pF ta (some x::σ) H):pF (CT (Br K) (cG (qG (HG K tx) jE ta) fu)) σ H:=λH1 Q s k=>h H1 _ s ⟨a,rfl,⟨_,ba.of (s _ _ ha)⟩,lT (α:=V) (l:=xs) id (λ_=>true) (λ_=> .bl true) (by rw[RK];exact gp.tup (s _ _ ha)) (small hn) (λ_ H' c _ _ b=>b _ (af.refl _)) (λp H' c _ j s' b=>he p j H' c (af.trans s s') b) λg d m f i=>by
 refine⟨g,xs.map λ_=>true,rfl,bf.of (by rw[i,List.filter_eq_self.mpr λ_ _=>rfl,NO];rfl),?_⟩;rw[List.all_eq_true.mpr λz e=>by obtain⟨_,_,rfl⟩:=List.mem_map.mp e;rfl]
 exact k d f⟩
theorem DA(h:σ[i]? =some (some (.ref a)))(ha:H a=some (.tup xs)):pF (CT (CN K) (cG (kh i) (cG (tC (V.ty "tuple")) fu))) σ H:=λH1 Q s k=>⟨_,h,_,"tuple",_,_,rfl,.tup (s _ _ ha),rfl,k H1 (af.refl _)⟩
theorem tH{z:Str}(h:σ[i]? =some (some (.str z))):pF (CT (CN K) (cG (kh i) (cG (tC (V.ty "str")) fu))) σ H:=λH1 Q s k=>⟨_,h,_,"str",_,_,rfl,.str z,rfl,k H1 (af.refl _)⟩
end
theorem CS(k:Nat)(g:Int)(al sd:Str):gu (.str (aY.lined k g al sd).kd) [.str "row",.str "column",.str "wrap"]=true:=by
 match k with
 |0=>show gu (.str "row") _=true;decide +kernel
 |1=>show gu (.str "column") _=true;decide +kernel
 |k+2=>show gu (.str "wrap") _=true;decide +kernel
def cInt(v:V)(_:Hp):Prop:=∃i,v= .int i
def uo(v u x:V)(_:Hp):Prop:=∃i m n:Int,v= .int i/\u= .int m/\x= .int n/\m<=i/\i<=n
def jQ(v u:V)(H:Hp):Prop:=∃a xs,v= .ref a/\u= .int (xs.length:Int)/\H a=some (.tup xs)
def Fv(n:Int)(v:V)(_:Hp):Prop:=∃i,v= .int i/\0<=i/\i<=n
def KW(v:V)(H:Hp):Prop:=∃a x y,v= .ref a/\H a=some (.tup [.int x,.int y])/\Vr x y
def KG(v:V)(H:Hp):Prop:=∃a o,v= .ref a/\hH H a o/\Vo o
def Jy(v:V)(H:Hp):Prop:=∃(a:B3)(p:Str×Int),v= .ref a/\H a=some (.tup [.str p.1,.int p.2])/\Va p
def Kc(v:V)(H:Hp):Prop:=∃(a b c:B3)(p:(Str×Int)×(Str×Int)),v= .ref a/\H a=some (.tup [.ref b,.ref c])/\H b=some (.tup [.str p.1.1,.int p.1.2])/\H c=some (.tup [.str p.2.1,.int p.2.2])/\Va p.1/\Va p.2
def Gx(v u:V)(H:Hp):Prop:=∃(q:B3)(ps:List ((Str×Int)×(Str×Int)))(n:Nat),v= .ref q/\u= .int (n:Int)/\cT H q (.over ps)/\Vw (.over ps) n
def Ko(v:V)(_:Hp):Prop:=∃c:Nat,v= .str ⟨#[c]⟩/\33<=c/\c<=126/\c≠37/\c≠124
def Lb(v:V)(_:Hp):Prop:=∃x:Str,v= .str x/\1<=x.length/\x.length<=4/\Vx x
def JP(v:V)(H:Hp):Prop:=∃(a:B3)(ws:List Str),v= .ref a/\H a=some (.tup (dm ws))/\1<=ws.length/\ws.length<=3/\∀x∈ws,1<=x.length/\x.length<=4/\Vx x
def Mf(v:V)(H:Hp):Prop:=∃(a:B3)(ws:List (List Str)),v= .ref a/\oU H a ws/\gF ws/\Hl ws
def JS(v u:V)(H:Hp):Prop:=∃(a:B3)(sds:List Str)(n:Nat),v= .ref a/\u= .int (n:Int)/\H a=some (.tup (dm sds))/\sds.length=n/\n<=4/\∀s∈sds,Vs s
def DV(f:aY->Prop)(v u:V)(H:Hp):Prop:=∃(q:B3)(wh:aY)(n:Nat),v= .ref q/\u= .int (n:Int)/\cT H q wh/\wh.Good/\Vw wh n/\f wh
def GL(v u x:V)(H:Hp):Prop:=∃(q:B3)(wh:aY)(n:Nat),v= .str wh.kd/\u= .ref q/\x= .int (n:Int)/\cT H q wh/\wh.Good/\Vw wh n
def ED(v:V)(H:Hp):Prop:=∃(a:B3)(bd:cK)(ts:List B3),v= .ref a/\Fo.jb H a bd ts/\bd.wh.Good/\Vo bd.own/\Vw bd.wh ts.length/\Vn bd.nm
def JQ(v u:V)(H:Hp):Prop:=∃(a:B3)(p:Int×Int)(c:Int),v= .ref a/\u= .int c/\H a=some (.tup (kZ p))/\(1<=p.1/\p.1<=c)/\1<=p.2/\p.2<=12
def MH(v:V)(_:Hp):Prop:=∃x:Str,v= .str x/\Vn x
def GS(ws:List Str)(v:V)(_:Hp):Prop:=∃x,v= .str x/\x∈ws
section
variable{K:mo}
noncomputable abbrev Fp:List Str:=Za
theorem Cj:aw Fp Za (aj nt):=cD
theorem Av(F:aZ K "is_whole" "is_whole" nt f fd)(N:aO mg):av P w K mg base aK 1 f fd Za (cL cInt):=by
 refine F.cI Cj λcdv A outer s H vs Q E b h=>?_
 ·obtain⟨v,e,a,k⟩:=h;subst e;refine⟨_,ai (au (bj (aH bT (by rfl) N.inst NF (aa (pv 0) (aa (dG (v:= .ty "int") (by rfl) N.int Uc rfl (by decide)) ab))) (bQ (Bg (aH bT (by rfl) N.inst NF (aa (pv 0) (aa (dG (v:= .ty "bool") (by rfl) N.bool PyProof.Rows.boot_bool rfl (by decide)) ab))))))),?_⟩
  try rw[bO]
  obtain⟨i,rfl⟩:=a;exact⟨_,rfl,_,"int",_,_,rfl,.int i,rfl,_,rfl,eY ⟨_,rfl,_,"bool",_,_,rfl,.int i,rfl,_,rfl,k H (af.refl _)⟩⟩
noncomputable abbrev Ao:List Str:=Zh
theorem wg:aw Ao Zh (aj jt):=cD
theorem uJ(F:aZ K "is_between" "is_between" jt f fd)(N:aO mg)(G1:av P w K mg base aK 1 f1 d1 Za (cL cInt))(b:Cq K mg d1 f1 Za "is_whole"):av P w K mg base aK 2 f fd Zh (nr uo):=by
 refine F.cI wg λcdv A outer s H vs Q E d h=>?_
 ·obtain⟨v,u,x,e,c,k⟩:=h;subst e;have a:=d.mono (j:=1) (by decide);refine⟨_,ai (au (bj (pq G1 a b (aa (pv 0) ab)) (bQ (ff dA dA (pv 1) (pv 0) (pv 2))))),?_⟩
  try rw[bO]
  obtain⟨i,m,n,rfl,rfl,rfl,h1,h2⟩:=c;exact y_ret (bM (lB (v_var rfl) λ_ _=>⟨i,rfl⟩) (pL (v_var rfl) (v_var rfl) (v_var rfl) h1 h2)) (af.refl _) k
noncomputable abbrev zS:List Str:=Zc
theorem wJ:aw zS Zc (aj jj):=cD
theorem uT(F:aZ K "is_tuple_of" "is_tuple_of" jj f fd)(N:aO mg):av P w K mg base aK 1 f fd Zc (df jQ):=by
 refine F.cI wJ λcdv A outer s H vs Q E c h=>?_
 ·obtain⟨v,u,e,b,k⟩:=h;subst e;refine⟨_,ai (au (bj (aH bT (by rfl) N.inst NF (aa (pv 0) (aa (dG (v:= .ty "tuple") (by rfl) N.tuple Ng rfl (by decide)) ab))) (bQ (bZ bE (aH bq (by rfl) N.len NI (aa (pv 0) ab)) (pv 1) (aF _))))),?_⟩
  try rw[bO]
  obtain⟨a,xs,rfl,rfl,ha⟩:=b;exact y_ret (bM (DA rfl ha) (y_eq (CI (v_var rfl) ha) (v_var rfl) rfl)) (af.refl _) k
noncomputable abbrev Hx:List Str:=Za
theorem Fd:aw Hx Za (aj rB):=cD
theorem CZ(b:lZ K mg tk ad)(F:aZ K "is_size" "is_size" rB f fd)(N:aO mg)(G1:av P w K mg base aK 2 f1 d1 Zh (nr uo))(c:Cq K mg d1 f1 Zh "is_between"):av P w K mg base aK 3 f fd Za (cL (Fv 1000000)):=by
 refine F.cI Fd λcdv A outer s H vs Q E g h=>?_
 ·obtain⟨v,e,d,k⟩:=h;subst e;have a:=g.mono (j:=2) (by decide);refine⟨_,ai (au (pq G1 a c (aa (pv 0) (aa ag (aa (aU (v:= .int 1000000) (by rfl) b.cSIZE_MOST ⟨_,rfl⟩) ab))))),?_⟩
  try rw[bO]
  obtain⟨i,rfl,h1,h2⟩:=d;exact y_ret (AG (v_var rfl) d_ d_ λ_ _=>⟨i,_,_,rfl,rfl,rfl,h1,h2⟩) (af.refl _) k
noncomputable abbrev J_:List Str:=Za
theorem Iz:aw J_ Za (aj xb):=cD
theorem EG(b:lZ K mg tk ad)(F:aZ K "is_gap" "is_gap" xb f fd)(N:aO mg)(G1:av P w K mg base aK 2 f1 d1 Zh (nr uo))(c:Cq K mg d1 f1 Zh "is_between"):av P w K mg base aK 3 f fd Za (cL (Fv 1000)):=by
 refine F.cI Iz λcdv A outer s H vs Q E g h=>?_
 ·obtain⟨v,e,d,k⟩:=h;subst e;have a:=g.mono (j:=2) (by decide);refine⟨_,ai (au (pq G1 a c (aa (pv 0) (aa ag (aa (aU (v:= .int 1000) (by rfl) b.cGAP_MOST ⟨_,rfl⟩) ab))))),?_⟩
  try rw[bO]
  obtain⟨i,rfl,h1,h2⟩:=d;exact y_ret (AG (v_var rfl) d_ d_ λ_ _=>⟨i,_,_,rfl,rfl,rfl,h1,h2⟩) (af.refl _) k
noncomputable abbrev Fw:List Str:=Za
theorem Be:aw Fw Za (aj oo):=cD
theorem zB(b:lZ K mg tk ad)(F:aZ K "is_joint" "is_joint" oo f fd)(N:aO mg)(G1:av P w K mg base aK 2 f1 d1 Zh (nr uo))(c:Cq K mg d1 f1 Zh "is_between"):av P w K mg base aK 3 f fd Za (cL (Fv 999)):=by
 refine F.cI Be λcdv A outer s H vs Q E g h=>?_
 ·obtain⟨v,e,d,k⟩:=h;subst e;have a:=g.mono (j:=2) (by decide);refine⟨_,ai (au (pq G1 a c (aa (pv 0) (aa ag (aa (aU (v:= .int 999) (by rfl) b.cJOINT_MOST ⟨_,rfl⟩) ab))))),?_⟩
  try rw[bO]
  obtain⟨i,rfl,h1,h2⟩:=d;exact y_ret (AG (v_var rfl) d_ d_ λ_ _=>⟨i,_,_,rfl,rfl,rfl,h1,h2⟩) (af.refl _) k
noncomputable abbrev Cv:List Str:=Za
theorem zL:aw Cv Za (aj kX):=cD
theorem xt(F:aZ K "is_bounds" "is_bounds" kX f fd)(N:aO mg)(G1:av P w K mg base aK 1 f1 d1 Zc (df jQ))(i:Cq K mg d1 f1 Zc "is_tuple_of")(G2:av P w K mg base aK 3 f2 d2 Za (cL (Fv 1000000)))(d:Cq K mg d2 f2 Za "is_size"):av P w K mg base aK 4 f fd Za (cL KW):=by
 refine F.cI zL λcdv A outer s H vs Q E g h=>?_
 ·obtain⟨v,e,l,k⟩:=h;subst e;have c:=g.mono (j:=1) (by decide);have b:=g.mono (j:=3) (by decide);refine⟨_,ai (au (bj (pq G1 c i (aa (pv 0) (aa ag ab))) (bj (pq G2 b d (aa (ay ax (pv 0) ag (λ_ _=>rfl)) ab)) (bj (pq G2 b d (aa (ay ax (pv 0) ag (λ_ _=>rfl)) ab)) (bQ (bZ dA (ay ax (pv 0) ag (λ_ _=>rfl)) (ay ax (pv 0) ag (λ_ _=>rfl)) (aF _))))))),?_⟩
  try rw[bO]
  obtain⟨a,x,y,rfl,ha,h1,h2,m⟩:=l;exact y_ret (bM (oi (v_var rfl) d_ λ_ s=>⟨a,_,rfl,rfl,s _ _ ha⟩) (bM (lB (dj (j:=0) (v_var rfl) ha rfl) λ_ _=>⟨x,rfl,h1,by lia⟩) (bM (lB (dj (j:=1) (v_var rfl) ha rfl) λ_ _=>⟨y,rfl,by lia,m⟩) (FY (dj (j:=0) (v_var rfl) ha rfl) (dj (j:=1) (v_var rfl) ha rfl) h2)))) (af.refl _) k
noncomputable abbrev Jp:List Str:=Za
theorem IX:aw Jp Za (aj wW):=cD
theorem EH(m:lZ K mg tk ad)(F:aZ K "is_own" "is_own" wW f fd)(N:aO mg)(G1:av P w K mg base aK 1 f1 d1 Zc (df jQ))(G:Cq K mg d1 f1 Zc "is_tuple_of")(G2:av P w K mg base aK 4 f2 d2 Za (cL KW))(r:Cq K mg d2 f2 Za "is_bounds")(l:av P w K mg base aK 2 f3 d3 Zh (nr uo))(i:Cq K mg d3 f3 Zh "is_between"):av P w K mg base aK 5 f fd Za (cL KG):=by
 refine F.cI IX λcdv A outer s H vs Q E p h=>?_
 ·obtain⟨v,e,D,k⟩:=h;subst e;have q:=p.mono (j:=1) (by decide);have b:=p.mono (j:=2) (by decide);have d:=p.mono (j:=4) (by decide)
  refine⟨_,ah (aR (cX (cM (bJ (pq G1 q G (aa (pv 0) (aa ag ab)))) (cM (bJ (pq G2 d r (aa (ay ax (pv 0) ag (λ_ _=>rfl)) ab))) (cA (bJ (pq G2 d r (aa (ay ax (pv 0) ag (λ_ _=>rfl)) ab)))))).pt) (ai (au cQ)) az)
   (ah (aR (cX (cM (bJ (pq l b i (aa (ay ax (pv 0) ag (λ_ _=>rfl)) (aa ag (aa (aU (v:= .int 99) (by rfl) m.cWEIGHT_MOST ⟨_,rfl⟩) ab))))) (cA (bJ (pq l b i (aa (ay ax (pv 0) ag (λ_ _=>rfl)) (aa ag (aa (aU (v:= .int 99) (by rfl) m.cWEIGHT_MOST ⟨_,rfl⟩) ab))))))).pt) (ai (au cQ)) az)
   (ai (au (bj (pq l b i (aa (ay ax (pv 0) ag (λ_ _=>rfl)) (aa ag (aa (aU (v:= .int 9) (by rfl) m.cRANK_MOST ⟨_,rfl⟩) ab)))) (bQ (pq l b i (aa (ay ax (pv 0) ag (λ_ _=>rfl)) (aa ag (aa (aU (v:= .int 9) (by rfl) m.cALIKE_MOST ⟨_,rfl⟩) ab))))))))),?_⟩
  try rw[bO]
  obtain⟨a,o,rfl,⟨u,t,ha,J,O⟩,y,M,⟨x,z⟩,⟨R,I⟩,⟨S,B⟩,C,n⟩:=D;refine eu (eJ (cF (oi (v_var rfl) d_ λ_ s=>⟨a,_,rfl,rfl,s _ _ ha⟩)) (eJ (cF (lB (dj (j:=0) (v_var rfl) ha rfl) λ_ s=>⟨u,_,_,rfl,s _ _ J,y⟩)) (cF (lB (dj (j:=1) (v_var rfl) ha rfl) λ_ s=>⟨t,_,_,rfl,s _ _ O,M⟩)))) λH1 s1=>?_;have c:=s1 _ _ ha;refine eu (eJ (cF (AG (dj (j:=2) (v_var rfl) c rfl) d_ d_ λ_ _=>⟨_,_,_,rfl,rfl,rfl,x,z⟩)) (cF (AG (dj (j:=3) (v_var rfl) c rfl) d_ d_ λ_ _=>⟨_,_,_,rfl,rfl,rfl,R,I⟩))) λH2 s2=>?_;have g:=s2 _ _ c;exact y_ret (bM (AG (dj (j:=4) (v_var rfl) g rfl) d_ d_ λ_ _=>⟨_,_,_,rfl,rfl,rfl,S,B⟩) (AG (dj (j:=5) (v_var rfl) g rfl) d_ d_ λ_ _=>⟨_,_,_,rfl,rfl,rfl,C,n⟩)) (af.refl _) λH3 L=>k H3 (af.trans s1 (af.trans s2 L))
noncomputable abbrev IP:List Str:=Za
theorem ER:aw IP Za (aj qK):=cD
theorem C5(a:lZ K mg tk ad)(F:aZ K "is_side" "is_side" qK f fd)(N:aO mg):av P w K mg base aK 1 f fd Za (cL (GS ["left","right"])):=by
 refine F.cI ER λcdv A outer s H vs Q E c h=>?_
 ·obtain⟨v,e,b,k⟩:=h;subst e;refine⟨_,ai (au (bj (aH bT (by rfl) N.inst NF (aa (pv 0) (aa (dG (v:= .ty "str") (by rfl) N.str NC rfl (by decide)) ab))) (bQ (bZ (r:=tY K false) cf (pv 0) (aU (v:= .ref (ad 1)) (by rfl) a.tSIDES rfl) (by rfl))))),?_⟩
  try rw[bO]
  obtain⟨x,rfl,hx⟩:=b;exact y_ret (bM (tH rfl) (FA hx (v_var rfl) d_ a.sSIDES)) (af.refl _) k
noncomputable abbrev Fz:List Str:=Za
theorem BI:aw Fz Za (aj n_):=cD
theorem zC(a:lZ K mg tk ad)(F:aZ K "is_align" "is_align" n_ f fd)(N:aO mg):av P w K mg base aK 1 f fd Za (cL (GS ["start","end","mid","mid2"])):=by
 refine F.cI BI λcdv A outer s H vs Q E c h=>?_
 ·obtain⟨v,e,b,k⟩:=h;subst e;refine⟨_,ai (au (bj (aH bT (by rfl) N.inst NF (aa (pv 0) (aa (dG (v:= .ty "str") (by rfl) N.str NC rfl (by decide)) ab))) (bQ (bZ (r:=tY K false) cf (pv 0) (aU (v:= .ref (ad 3)) (by rfl) a.tALIGNS rfl) (by rfl))))),?_⟩
  try rw[bO]
  obtain⟨x,rfl,hx⟩:=b;exact y_ret (bM (tH rfl) (FA hx (v_var rfl) d_ a.sALIGNS)) (af.refl _) k
noncomputable abbrev rC:List Str:=Za
theorem pE:aw rC Za (aj fJ):=cD
theorem mT(a:lZ K mg tk ad)(F:aZ K "is_anchor_word" "is_anchor_word" fJ f fd)(N:aO mg):av P w K mg base aK 1 f fd Za (cL (GS ["start","mid","mid2","end"])):=by
 refine F.cI pE λcdv A outer s H vs Q E c h=>?_
 ·obtain⟨v,e,b,k⟩:=h;subst e;refine⟨_,ai (au (bj (aH bT (by rfl) N.inst NF (aa (pv 0) (aa (dG (v:= .ty "str") (by rfl) N.str NC rfl (by decide)) ab))) (bQ (bZ (r:=tY K false) cf (pv 0) (aU (v:= .ref (ad 0)) (by rfl) a.tANCHOR_WORDS rfl) (by rfl))))),?_⟩
  try rw[bO]
  obtain⟨x,rfl,hx⟩:=b;exact y_ret (bM (tH rfl) (FA hx (v_var rfl) d_ a.sANCHOR_WORDS)) (af.refl _) k
noncomputable abbrev Bz:List Str:=Za
theorem zm:aw Bz Za (aj kU):=cD
theorem ve(i:lZ K mg tk ad)(F:aZ K "is_anchor" "is_anchor" kU f fd)(N:aO mg)(G1:av P w K mg base aK 1 f1 d1 Zc (df jQ))(q:Cq K mg d1 f1 Zc "is_tuple_of")(G2:av P w K mg base aK 1 f2 d2 Za (cL (GS ["start","mid","mid2","end"])))(l:Cq K mg d2 f2 Za "is_anchor_word")(n:av P w K mg base aK 2 f3 d3 Zh (nr uo))(m:Cq K mg d3 f3 Zh "is_between"):av P w K mg base aK 3 f fd Za (cL Jy):=by
 refine F.cI zm λcdv A outer s H vs Q E g h=>?_
 ·obtain⟨v,e,o,k⟩:=h;subst e;have c:=g.mono (j:=1) (by decide);have d:=g.mono (j:=2) (by decide)
  refine⟨_,ah (aR (cX (bJ (pq G1 c q (aa (pv 0) (aa ag ab))))) (ai (au cQ)) az)
   (ai (au (bj (pq G2 c l (aa (ay ax (pv 0) ag (λ_ _=>rfl)) ab)) (bQ (pq n d m (aa (ay ax (pv 0) ag (λ_ _=>rfl)) (aa (Jv HW (aU (v:= .int 1000000) (by rfl) i.cANCHOR_FARTHEST ⟨_,rfl⟩)) (aa (aU (v:= .int 1000000) (by rfl) i.cANCHOR_FARTHEST ⟨_,rfl⟩) ab)))))))),?_⟩
  try rw[bO]
  obtain⟨a,p,rfl,ha,h1,h2,r⟩:=o;refine eu (cF (oi (v_var rfl) d_ λ_ s=>⟨a,_,rfl,rfl,s _ _ ha⟩)) λH1 s1=>?_;have b:=s1 _ _ ha;exact y_ret (bM (lB (dj (j:=0) (v_var rfl) b rfl) λ_ _=>⟨_,rfl,by simpa using h1⟩) (AG (dj (j:=1) (v_var rfl) b rfl) (JA d_) d_ λ_ _=>⟨_,_,_,rfl,rfl,rfl,h2,r⟩)) (af.refl _) λH2 s2=>k H2 (af.trans s1 s2)
noncomputable abbrev rV:List Str:=Za
theorem pC:aw rV Za (aj fM):=cD
theorem mE(F:aZ K "is_anchor_pair" "is_anchor_pair" fM f fd)(N:aO mg)(G1:av P w K mg base aK 1 f1 d1 Zc (df jQ))(m:Cq K mg d1 f1 Zc "is_tuple_of")(G2:av P w K mg base aK 3 f2 d2 Za (cL Jy))(i:Cq K mg d2 f2 Za "is_anchor"):av P w K mg base aK 4 f fd Za (cL Kc):=by
 refine F.cI pC λcdv A outer s H vs Q E l h=>?_
 ·obtain⟨v,e,n,k⟩:=h;subst e;have g:=l.mono (j:=1) (by decide);have d:=l.mono (j:=3) (by decide);refine⟨_,ai (au (bj (pq G1 g m (aa (pv 0) (aa ag ab))) (bj (pq G2 d i (aa (ay ax (pv 0) ag (λ_ _=>rfl)) ab)) (bQ (pq G2 d i (aa (ay ax (pv 0) ag (λ_ _=>rfl)) ab)))))),?_⟩
  try rw[bO]
  obtain⟨a,b,c,p,rfl,ha,q,o,h1,h2⟩:=n;exact y_ret (bM (oi (v_var rfl) d_ λ_ s=>⟨a,_,rfl,rfl,s _ _ ha⟩) (bM (lB (dj (j:=0) (v_var rfl) ha rfl) λ_ s=>⟨b,p.1,rfl,s _ _ q,h1⟩) (lB (dj (j:=1) (v_var rfl) ha rfl) λ_ s=>⟨c,p.2,rfl,s _ _ o,h2⟩))) (af.refl _) k
noncomputable abbrev oO:List Str:=Zd
theorem uc:aw oO Zd (aj fG):=cD
theorem rv(G:lZ K mg tk ad)(F:aZ K "is_over_what" "is_over_what" fG f fd)(N:aO mg)(G1:av P w K mg base aK 1 f1 d1 Zc (df jQ))(I:Cq K mg d1 f1 Zc "is_tuple_of")(G2:av P w K mg base aK 4 f2 d2 Za (cL Kc))(z:Cq K mg d2 f2 Za "is_anchor_pair"):av P w K mg base aK 5 f fd Zd (df Gx):=by
 refine F.cI uc λcdv A outer s H vs Q E o h=>?_
 ·obtain⟨v,u,e,J,k⟩:=h;subst e;have l:=o.mono (j:=1) (by decide);have a:=o.mono (j:=4) (by decide)
  refine⟨_,ah (aR (cX (cM (mJ dA dA ag (pv 1) (aU (v:= .int 12) (by rfl) G.cOVER_PARTS ⟨_,rfl⟩)) (cA (bJ (pq G1 l I (aa (pv 0) (aa (aJ fU (pv 1) ag) ab)))))).pt) (ai (au cQ)) az)
   (ai (au (aH (dB rfl) (by rfl) N.all OA (aa (cp (bg (fs:=aj fG) (N:=oO) rfl rfl (by decide +kernel)) rfl (eK (pv 0)) (λ_ _ _ _ _=>bH) (λ_ _ _ _ _=>(pq G2 a z (aa (pv 0) ab)))) ab)))),?_⟩
  try rw[bO]
  obtain⟨q,ps,n,rfl,rfl,⟨as,r,hl,C⟩,⟨h1,h2⟩,O,L⟩:=J;refine eu (eJ (rr (pL d_ (v_var rfl) d_ (by lia) (by lia))) (cF (oi (v_var rfl) (v_sub (v_var rfl) d_) λ_ s=>⟨q,_,rfl,by rw[be,hl];congr 1;lia,s _ _ r⟩))) λH1 s1=>?_;have g:=s1 _ _ r;refine y_ret (tJ (v_var rfl) g (by rw[be,hl];lia) λx hx=>?_) (af.refl _) λH2 s2=>k H2 (af.trans s1 s2);obtain⟨i,hi⟩:=OY hx;rw[B7]at hi;obtain⟨c,p,rfl⟩:=Option.map_eq_some_iff.mp hi
  have m:i<ps.length:=by rw[<-hl];exact bw p
  have e:=B0 m;obtain⟨b,d,t,y,D⟩:=C i c _ p e;obtain⟨B,M⟩:=L _ (Do e);exact lB (v_var rfl) λ_ s=>⟨c,b,d,_,rfl,s _ _ (s1 _ _ t),s _ _ (s1 _ _ y),s _ _ (s1 _ _ D),B,M⟩
noncomputable abbrev Jb:List Str:=["sign","number"]
theorem yw:aw Jb ["sign"] (aj rh):=cD
theorem Cy(a:lZ K mg tk ad)(F:aZ K "is_sign" "is_sign" rh f fd)(N:aO mg):av P w K mg base aK 1 f fd ["sign"] (cL Ko):=by
 refine F.cI yw λcdv A outer s H vs Q E m h=>?_
 ·obtain⟨v,e,d,k⟩:=h;subst e
  refine⟨_,ah (aB (i:=1) yw.nd rfl (Ki rfl) (aH CJ (by rfl) N.ord PyProof.Rows.boot_ord (aa (pv 0) ab)))
   (ai (au (bj (ff dA dA (aU (v:= .int 33) (by rfl) a.cFIRST_SIGN ⟨_,rfl⟩) (pv 1) (aU (v:= .int 126) (by rfl) a.cLAST_SIGN ⟨_,rfl⟩)) (bj (bZ kr (pv 1) (aU (v:= .int 37) (by rfl) a.cPERCENT_SIGN ⟨_,rfl⟩) (aF _)) (bQ (bZ kr (pv 1) (aU (v:= .int 124) (by rfl) a.cBAR_SIGN ⟨_,rfl⟩) (aF _))))))),?_⟩
  try rw[bO]
  obtain⟨c,rfl,h1,h2,l,g⟩:=d;refine aq λj b=>?_;refine⟨_,rfl,⟨#[c]⟩,rfl,rfl,?_⟩;rw[show((⟨#[c]⟩:Str).cps.getD 0 0)=c from rfl];refine b _ _ ?_;clear b j;exact y_ret (bM (pL d_ (v_var rfl) d_ (by lia) (by lia)) (bM (Kw (v_var rfl) d_ rfl λz=>l (by injection z with z;lia)) (Kw (v_var rfl) d_ rfl λz=>g (by injection z with z;lia)))) (af.refl _) k
noncomputable abbrev yL:List Str:=Za
theorem DC:aw yL Za (aj kv):=cD
theorem yT(b:lZ K mg tk ad)(F:aZ K "is_piece" "is_piece" kv f fd)(N:aO mg)(G1:av P w K mg base aK 1 f1 d1 ["sign"] (cL Ko))(d:Cq K mg d1 f1 ["sign"] "is_sign"):av P w K mg base aK 2 f fd Za (cL Lb):=by
 refine F.cI DC λcdv A outer s H vs Q E m h=>?_
 ·obtain⟨v,e,g,k⟩:=h;subst e;have a:=m.mono (j:=1) (by decide);refine⟨_,ai (au (bj (aH bT (by rfl) N.inst NF (aa (pv 0) (aa (dG (v:= .ty "str") (by rfl) N.str NC rfl (by decide)) ab))) (bj (ff dA dA ag (aH cO (by rfl) N.len NI (aa (pv 0) ab)) (aU (v:= .int 12) (by rfl) b.cPIECE_LONGEST ⟨_,rfl⟩)) (bQ (aH (dB rfl) (by rfl) N.all OA (aa (cp (bg (fs:=aj kv) (N:=yL) rfl rfl (by decide +kernel)) rfl (qZ (pv 0)) (λ_ _ _ _ _=>bH) (λ_ _ _ _ _=>(pq G1 a d (aa (pv 0) ab)))) ab)))))),?_⟩
  try rw[bO]
  obtain⟨x,rfl,h1,h2,l⟩:=g;exact y_ret (bM (tH rfl) (bM (pL d_ (Dq (v_var rfl) cP) d_ (by lia) (by lia)) (Cc (v_var rfl) cP λc i=>lB (v_var rfl) λ_ _=>⟨c,rfl,(l c i)⟩))) (af.refl _) k
noncomputable abbrev C4:List Str:=Za
theorem FD:aw C4 Za (aj lU):=cD
theorem Bk(c:lZ K mg tk ad)(F:aZ K "is_word" "is_word" lU f fd)(N:aO mg)(G1:av P w K mg base aK 2 f1 d1 Za (cL Lb))(d:Cq K mg d1 f1 Za "is_piece"):av P w K mg base aK 3 f fd Za (cL JP):=by
 refine F.cI FD λcdv A outer s H vs Q E m h=>?_
 ·obtain⟨v,e,g,k⟩:=h;subst e;have b:=m.mono (j:=2) (by decide);refine⟨_,ai (au (bj (aH bT (by rfl) N.inst NF (aa (pv 0) (aa (dG (v:= .ty "tuple") (by rfl) N.tuple Ng rfl (by decide)) ab))) (bj (ff dA dA ag (aH bq (by rfl) N.len NI (aa (pv 0) ab)) (aU (v:= .int 6) (by rfl) c.cWORD_PIECES ⟨_,rfl⟩)) (bQ (aH (dB rfl) (by rfl) N.all OA (aa (cp (bg (fs:=aj lU) (N:=C4) rfl rfl (by decide +kernel)) rfl (eK (pv 0)) (λ_ _ _ _ _=>bH) (λ_ _ _ _ _=>(pq G1 b d (aa (pv 0) ab)))) ab)))))),?_⟩
  try rw[bO]
  obtain⟨a,ws,rfl,ha,h1,h2,l⟩:=g;have hl:(dm ws).length=ws.length:=be ..
  exact y_ret (bM (DA rfl ha) (bM (pL d_ (CI (v_var rfl) ha) d_ (by lia) (by lia)) (tJ (v_var rfl) ha (by lia) λx hx=>by
   obtain⟨z,i,rfl⟩:=List.mem_map.mp hx
   exact lB (v_var rfl) λ_ _=>⟨z,rfl,l z i⟩))) (af.refl _) k
noncomputable abbrev rn:List Str:=Za
theorem Ba:aw rn Za (aj iu):=cD
theorem yY(y:lZ K mg tk ad)(F:aZ K "is_words" "is_words" iu f fd)(N:aO mg)(G1:av P w K mg base aK 3 f1 d1 Za (cL JP))(z:Cq K mg d1 f1 Za "is_word"):av P w K mg base aK 4 f fd Za (cL Mf):=by
 refine F.cI Ba λcdv A outer s H vs Q E b h=>?_
 ·obtain⟨v,e,m,k⟩:=h;subst e;have d:=b.mono (j:=3) (by decide)
  refine⟨_,ah (aR (cX (cM (bJ (aH bT (by rfl) N.inst NF (aa (pv 0) (aa (dG (v:= .ty "tuple") (by rfl) N.tuple Ng rfl (by decide)) ab)))) (cA (bJ (aH (dB rfl) (by rfl) N.all OA (aa (cp (bg (fs:=aj iu) (N:=rn) rfl rfl (by decide +kernel)) rfl (eK (pv 0)) (λ_ _ _ _ _=>bH) (λ_ _ _ _ _=>(pq G1 d z (aa (pv 0) ab)))) ab))))).pt) (ai (au cQ)) az)
   (ai (au (bZ dA (aH (zM rfl) (by rfl) N.sum PyProof.Rows.boot_sum (aa (cp (bg (fs:=aj iu) (N:=rn) rfl rfl (by decide +kernel)) rfl (eK (pv 0)) (λ_ _ _ _ _=>bH) (λ_ _ _ _ _=>(aH (z_ (K:=K) rfl) (by rfl) N.len NI (aa (pv 0) ab)))) ab)) (aU (v:= .int 60) (by rfl) y.cWORDS_PIECES ⟨_,rfl⟩) (aF _)))),?_⟩
  try rw[bO]
  obtain⟨a,ws,rfl,⟨as,ha,b⟩,g,h1⟩:=m;have hl:=b.1;rw[be]at hl;have D:=g.1;refine eu (eJ (cF (DA rfl ha)) (cF (tJ (v_var rfl) ha (by rw[be];lia) λx hx=>?_))) λH1 s1=>?_
  ·obtain⟨i,hi⟩:=OY hx;rw[B7]at hi;obtain⟨c,r,rfl⟩:=Option.map_eq_some_iff.mp hi
   have o:i<ws.length:=by rw[<-hl];exact bw r
   have e:=B0 o;have hm:=Do e;have B:=b.2 i c _ r (by rw[B7,e];rfl);obtain⟨C,t,p⟩:=g.2 _ hm;exact lB (v_var rfl) λ_ s=>⟨c,ws[i],rfl,s _ _ B,C,t,λx hx=>⟨(p x hx).1,(p x hx).2,h1 _ hm x hx⟩⟩
  ·refine y_ret (EX (v_var rfl) (s1 _ _ ha) (fe b (KT.same s1)) (by lia) ?_) (af.refl _) λH2 s2=>k H2 (af.trans s1 s2)
   have n:∀l:List (List Str),(∀w∈l,w.length<=3)->(((l.map dm).map λw=>(w.length:Int)).sum)<=3*l.length:=by
    intro l
    induction l with
    |nil=>intro _;simp
    |cons w l q=>
     intro h;have q:=q λv m=>h v (De _ m);have h1:=h w B6
     have e:((dm w).length:Int)=w.length:=by show(((w.map V.str).length:Nat):Int)=_;rw[be]
     simp only[Nq,RY,FB];rw[e]
     lia
   have :=n ws λw u=>(g.2 w u).2.1
   lia
noncomputable abbrev xy:List Str:=Zc
theorem AY:aw xy Zc (aj iz):=cD
theorem yP(F:aZ K "are_sides" "are_sides" iz f fd)(N:aO mg)(G1:av P w K mg base aK 1 f1 d1 Zc (df jQ))(l:Cq K mg d1 f1 Zc "is_tuple_of")(G2:av P w K mg base aK 1 f2 d2 Za (cL (GS ["left","right"])))(g:Cq K mg d2 f2 Za "is_side"):av P w K mg base aK 2 f fd Zc (df JS):=by
 refine F.cI AY λcdv A outer s H vs Q E i h=>?_
 ·obtain⟨v,u,e,m,k⟩:=h;subst e;have b:=i.mono (j:=1) (by decide);refine⟨_,ai (au (bj (pq G1 b l (aa (pv 0) (aa (pv 1) ab))) (bQ (aH (dB rfl) (by rfl) N.all OA (aa (cp (bg (fs:=aj iz) (N:=xy) rfl rfl (by decide +kernel)) rfl (eK (pv 0)) (λ_ _ _ _ _=>bH) (λ_ _ _ _ _=>(pq G2 b g (aa (pv 0) ab)))) ab))))),?_⟩
  try rw[bO]
  obtain⟨a,sds,n,rfl,rfl,ha,hl,hn,h1⟩:=m;have c:(dm sds).length=sds.length:=be ..
  exact y_ret (bM (oi (v_var rfl) (v_var rfl) λ_ s=>⟨a,_,rfl,by rw[c,hl],s _ _ ha⟩) (tJ (v_var rfl) ha (by lia) λx hx=>by
   obtain⟨z,d,rfl⟩:=List.mem_map.mp hx
   exact lB (v_var rfl) λ_ _=>⟨z,rfl,by rcases h1 z d with rfl|rfl<;>decide +kernel⟩)) (af.refl _) k
noncomputable abbrev uO:List Str:=Zd
theorem rm:aw uO Zd (aj gP):=cD
theorem oR(F:aZ K "is_words_what" "is_words_what" gP f fd)(N:aO mg)(G1:av P w K mg base aK 1 f1 d1 Zc (df jQ))(t:Cq K mg d1 f1 Zc "is_tuple_of")(G2:av P w K mg base aK 4 f2 d2 Za (cL Mf))(m:Cq K mg d2 f2 Za "is_words")(r:av P w K mg base aK 3 f3 d3 Za (cL (Fv 999)))(o:Cq K mg d3 f3 Za "is_joint"):av P w K mg base aK 5 f fd Zd (df (DV λwh=>∃ws j,wh= .words ws j)):=by
 refine F.cI rm λcdv A outer s H vs Q E c h=>?_
 ·obtain⟨v,u,e,i,k⟩:=h;subst e;have l:=c.mono (j:=1) (by decide);have b:=c.mono (j:=3) (by decide);have d:=c.mono (j:=4) (by decide);refine⟨_,ai (au (bj (bZ bE (pv 1) ag (aF _)) (bj (pq G1 l t (aa (pv 0) (aa ag ab))) (bj (pq G2 d m (aa (ay ax (pv 0) ag (λ_ _=>rfl)) ab)) (bQ (pq r b o (aa (ay ax (pv 0) ag (λ_ _=>rfl)) ab))))))),?_⟩
  try rw[bO]
  obtain⟨q,wh,n,rfl,rfl,a,g,i,ws,j,rfl⟩:=i;obtain⟨s,a,p⟩:=a;obtain⟨rfl,h2,y,x⟩:=i;exact y_ret (bM (y_eq (v_var rfl) d_ rfl) (bM (oi (v_var rfl) d_ λ_ z=>⟨q,_,rfl,rfl,z _ _ a⟩) (bM (lB (dj (j:=0) (v_var rfl) a rfl) λ_ z=>⟨s,ws,rfl,p.keep (KT.same z),g.1,h2⟩) (lB (dj (j:=1) (v_var rfl) a rfl) λ_ _=>⟨j,rfl,y,x⟩)))) (af.refl _) k
noncomputable abbrev wx:List Str:=Zd
theorem sJ:aw wx Zd (aj hI):=cD
theorem rd(C:lZ K mg tk ad)(F:aZ K "is_flow_what" "is_flow_what" hI f fd)(N:aO mg)(G1:av P w K mg base aK 1 f1 d1 Zc (df jQ))(D:Cq K mg d1 f1 Zc "is_tuple_of")(G2:av P w K mg base aK 2 f2 d2 Zc (df JS))(r:Cq K mg d2 f2 Zc "are_sides")(B:av P w K mg base aK 4 f3 d3 Za (cL Mf))(x:Cq K mg d3 f3 Za "is_words")(I:av P w K mg base aK 3 f4 d4 Za (cL (Fv 999)))(J:Cq K mg d4 f4 Za "is_joint"):av P w K mg base aK 5 f fd Zd (df (DV λwh=>∃sds ws j,wh= .flow sds ws j)):=by
 refine F.cI sJ λcdv A outer s H vs Q E b h=>?_
 ·obtain⟨v,u,e,m,k⟩:=h;subst e;have o:=b.mono (j:=1) (by decide);have d:=b.mono (j:=2) (by decide);have i:=b.mono (j:=3) (by decide);have l:=b.mono (j:=4) (by decide)
  refine⟨_,ah (aR (cX (cM (aA dA (pv 1) (aU (v:= .int 12) (by rfl) C.cFLOW_PARTS ⟨_,rfl⟩) (aF _)) (cA (bJ (pq G1 o D (aa (pv 0) (aa ag ab)))))).pt) (ai (au cQ)) az)
   (ai (au (bj (pq G2 d r (aa (ay ax (pv 0) ag (λ_ _=>rfl)) (aa (pv 1) ab))) (bj (pq B l x (aa (ay ax (pv 0) ag (λ_ _=>rfl)) ab)) (bQ (pq I i J (aa (ay ax (pv 0) ag (λ_ _=>rfl)) ab))))))),?_⟩
  try rw[bO]
  obtain⟨q,wh,n,rfl,rfl,c,g,m,sds,ws,j,rfl⟩:=m;obtain⟨t,s,c,M,y⟩:=c;obtain⟨h0,h1,h2,L,G,p⟩:=m;refine eu (eJ (rr (FY (v_var rfl) d_ (by lia))) (cF (oi (v_var rfl) d_ λ_ z=>⟨q,_,rfl,rfl,z _ _ c⟩))) λH1 s1=>?_;have a:=s1 _ _ c;exact y_ret (bM (oi (dj (j:=0) (v_var rfl) a rfl) (v_var rfl) λ_ z=>⟨t,sds,n,rfl,rfl,z _ _ (s1 _ _ M),h1,h0,h2⟩) (bM (lB (dj (j:=1) (v_var rfl) a rfl) λ_ z=>⟨s,ws,rfl,(y.keep (KT.same s1)).keep (KT.same z),g.2.1,L⟩) (lB (dj (j:=2) (v_var rfl) a rfl) λ_ _=>⟨j,rfl,G,p⟩))) (af.refl _) λH2 s2=>k H2 (af.trans s1 s2)
noncomputable abbrev wj:List Str:=Zd
theorem tP:aw wj Zd (aj iq):=cD
theorem sm(F:aZ K "is_leaf_what" "is_leaf_what" iq f fd)(N:aO mg)(G1:av P w K mg base aK 1 f1 d1 Zc (df jQ))(p:Cq K mg d1 f1 Zc "is_tuple_of")(G2:av P w K mg base aK 3 f2 d2 Za (cL (Fv 1000000)))(m:Cq K mg d2 f2 Za "is_size"):av P w K mg base aK 4 f fd Zd (df (DV λwh=>∃a b,wh= .leaf a b)):=by
 refine F.cI tP λcdv A outer s H vs Q E o h=>?_
 ·obtain⟨v,u,e,i,k⟩:=h;subst e;have l:=o.mono (j:=1) (by decide);have c:=o.mono (j:=3) (by decide);refine⟨_,ai (au (bj (bZ bE (pv 1) ag (aF _)) (bj (pq G1 l p (aa (pv 0) (aa ag ab))) (bj (pq G2 c m (aa (ay ax (pv 0) ag (λ_ _=>rfl)) ab)) (bQ (pq G2 c m (aa (ay ax (pv 0) ag (λ_ _=>rfl)) ab))))))),?_⟩
  try rw[bO]
  obtain⟨q,wh,n,rfl,rfl,d,g,i,a,b,rfl⟩:=i;obtain⟨rfl,⟨h1,h2⟩,t,r⟩:=i;have d:H q=some (.tup [.int a,.int b]):=d;exact y_ret (bM (y_eq (v_var rfl) d_ rfl) (bM (oi (v_var rfl) d_ λ_ z=>⟨q,_,rfl,rfl,z _ _ d⟩) (bM (lB (dj (j:=0) (v_var rfl) d rfl) λ_ _=>⟨a,rfl,h1,h2⟩) (lB (dj (j:=1) (v_var rfl) d rfl) λ_ _=>⟨b,rfl,t,r⟩)))) (af.refl _) k
noncomputable abbrev ua:List Str:=Zd
theorem qN:aw ua Zd (aj gw):=cD
theorem pB(t:lZ K mg tk ad)(F:aZ K "is_lined_what" "is_lined_what" gw f fd)(N:aO mg)(G1:av P w K mg base aK 1 f1 d1 Zc (df jQ))(x:Cq K mg d1 f1 Zc "is_tuple_of")(G2:av P w K mg base aK 3 f2 d2 Za (cL (Fv 1000)))(o:Cq K mg d2 f2 Za "is_gap")(r:av P w K mg base aK 1 f3 d3 Za (cL (GS ["start","end","mid","mid2"])))(p:Cq K mg d3 f3 Za "is_align")(B:av P w K mg base aK 1 f4 d4 Za (cL (GS ["left","right"])))(C:Cq K mg d4 f4 Za "is_side"):av P w K mg base aK 4 f fd Zd (df (DV λwh=>∃k g al sd,wh= .lined k g al sd)):=by
 refine F.cI qN λcdv A outer s H vs Q E m h=>?_
 ·obtain⟨v,u,e,i,k⟩:=h;subst e;have b:=m.mono (j:=1) (by decide);have d:=m.mono (j:=3) (by decide)
  refine⟨_,ah (aR (cX (cM (aA dA (pv 1) (aU (v:= .int 20) (by rfl) t.cLINED_PARTS ⟨_,rfl⟩) (aF _)) (cA (bJ (pq G1 b x (aa (pv 0) (aa ag ab)))))).pt) (ai (au cQ)) az)
   (ai (au (bj (pq G2 d o (aa (ay ax (pv 0) ag (λ_ _=>rfl)) ab)) (bj (pq r b p (aa (ay ax (pv 0) ag (λ_ _=>rfl)) ab)) (bQ (pq B b C (aa (ay ax (pv 0) ag (λ_ _=>rfl)) ab))))))),?_⟩
  try rw[bO]
  obtain⟨q,wh,n,rfl,rfl,c,g,i,G,l,al,sd,rfl⟩:=i;obtain⟨h0,⟨h1,h2⟩,D,y⟩:=i;have c:H q=some (.tup [.int l,.str al,.str sd]):=c;refine eu (eJ (rr (FY (v_var rfl) d_ (by lia))) (cF (oi (v_var rfl) d_ λ_ z=>⟨q,_,rfl,rfl,z _ _ c⟩))) λH1 s1=>?_;have a:=s1 _ _ c;exact y_ret (bM (lB (dj (j:=0) (v_var rfl) a rfl) λ_ _=>⟨l,rfl,h1,h2⟩) (bM (lB (dj (j:=1) (v_var rfl) a rfl) λ_ _=>⟨al,rfl,by simpa using D⟩) (lB (dj (j:=2) (v_var rfl) a rfl) λ_ _=>⟨sd,rfl,by rcases y with rfl|rfl<;>decide +kernel⟩))) (af.refl _) λH2 s2=>k H2 (af.trans s1 s2)
noncomputable abbrev Ih:List Str:=Zx
theorem D9:aw Ih Zx (aj rF):=cD
theorem BC(l:lZ K mg tk ad)(F:aZ K "is_span" "is_span" rF f fd)(N:aO mg)(G1:av P w K mg base aK 1 f1 d1 Zc (df jQ))(m:Cq K mg d1 f1 Zc "is_tuple_of")(G2:av P w K mg base aK 2 f2 d2 Zh (nr uo))(g:Cq K mg d2 f2 Zh "is_between"):av P w K mg base aK 3 f fd Zx (df JQ):=by
 refine F.cI D9 λcdv A outer s H vs Q E i h=>?_
 ·obtain⟨v,u,e,n,k⟩:=h;subst e;have d:=i.mono (j:=1) (by decide);have b:=i.mono (j:=2) (by decide);refine⟨_,ai (au (bj (pq G1 d m (aa (pv 0) (aa ag ab))) (bj (pq G2 b g (aa (ay ax (pv 0) ag (λ_ _=>rfl)) (aa ag (aa (pv 1) ab)))) (bQ (pq G2 b g (aa (ay ax (pv 0) ag (λ_ _=>rfl)) (aa ag (aa (aU (v:= .int 12) (by rfl) l.cSPAN_MOST ⟨_,rfl⟩) ab)))))))),?_⟩
  try rw[bO]
  obtain⟨a,p,c,rfl,rfl,ha,⟨h1,h2⟩,q,o⟩:=n;exact y_ret (bM (oi (v_var rfl) d_ λ_ s=>⟨a,_,rfl,rfl,s _ _ ha⟩) (bM (AG (dj (j:=0) (v_var rfl) ha rfl) d_ (v_var rfl) λ_ _=>⟨_,_,_,rfl,rfl,rfl,h1,h2⟩) (AG (dj (j:=1) (v_var rfl) ha rfl) d_ d_ λ_ _=>⟨_,_,_,rfl,rfl,rfl,q,o⟩))) (af.refl _) k
noncomputable abbrev lC:List Str:=Zd
theorem rH:aw lC Zd (aj eR):=cD
theorem oV(I:lZ K mg tk ad)(F:aZ K "is_table_what" "is_table_what" eR f fd)(N:aO mg)(G1:av P w K mg base aK 1 f1 d1 Zc (df jQ))(J:Cq K mg d1 f1 Zc "is_tuple_of")(G2:av P w K mg base aK 2 f2 d2 Zh (nr uo))(M:Cq K mg d2 f2 Zh "is_between")(U:av P w K mg base aK 3 f3 d3 Za (cL (Fv 1000)))(O:Cq K mg d3 f3 Za "is_gap")(W:av P w K mg base aK 1 f4 d4 Za (cL (GS ["left","right"])))(Y:Cq K mg d4 f4 Za "is_side")(G5:av P w K mg base aK 3 f5 d5 Zx (df JQ))(J5:Cq K mg d5 f5 Zx "is_span"):av P w K mg base aK 4 f fd Zd (df (DV λwh=>∃c g sd sps,wh= .table c g sd sps)):=by
 refine F.cI rH λcdv A outer s H vs Q E o h=>?_
 ·obtain⟨v,u,e,C,k⟩:=h;subst e;have m:=o.mono (j:=1) (by decide);have B:=o.mono (j:=2) (by decide);have t:=o.mono (j:=3) (by decide)
  refine⟨_,ah (aR (cX (cM (aA dA (pv 1) (aU (v:= .int 40) (by rfl) I.cTABLE_PARTS ⟨_,rfl⟩) (aF _)) (cA (bJ (pq G1 m J (aa (pv 0) (aa ag ab)))))).pt) (ai (au cQ)) az)
   (ah (aR (cX (cM (bJ (pq G2 B M (aa (ay ax (pv 0) ag (λ_ _=>rfl)) (aa ag (aa (aU (v:= .int 12) (by rfl) I.cTABLE_COLUMNS ⟨_,rfl⟩) ab))))) (cM (bJ (pq U t O (aa (ay ax (pv 0) ag (λ_ _=>rfl)) ab))) (cA (bJ (pq W m Y (aa (ay ax (pv 0) ag (λ_ _=>rfl)) ab)))))).pt) (ai (au cQ)) az)
   (ai (au (bj (pq G1 m J (aa (ay ax (pv 0) ag (λ_ _=>rfl)) (aa (pv 1) ab))) (bQ (aH (dB rfl) (by rfl) N.all OA (aa (cp (bg (fs:=aj eR) (N:=lC) rfl rfl (by decide +kernel)) rfl (eK (ay ax (pv 0) ag (λ_ _=>rfl))) (λ_ _ _ _ _=>bH) (λ_ _ _ _ _=>(pq G5 t J5 (aa (pv 0) (aa (ay (r:=DB K) ax (pv 1) ag (λ_ _=>rfl)) ab))))) ab))))))),?_⟩
  try rw[bO]
  obtain⟨q,wh,n,rfl,rfl,p,g,C,c,R,sd,sps,rfl⟩:=C;obtain⟨s,as,p,T,o⟩:=p;obtain⟨h0,⟨h1,h2⟩,⟨Z,V⟩,L,S,h7⟩:=C;have hl:=o.1;rw[be]at hl;refine eu (eJ (rr (FY (v_var rfl) d_ (by lia))) (cF (oi (v_var rfl) d_ λ_ z=>⟨q,_,rfl,rfl,z _ _ p⟩))) λH1 s1=>?_;have a:=s1 _ _ p;refine eu (eJ (cF (AG (dj (j:=0) (v_var rfl) a rfl) d_ d_ λ_ _=>⟨_,_,_,rfl,rfl,rfl,h1,h2⟩)) (eJ (cF (lB (dj (j:=1) (v_var rfl) a rfl) λ_ _=>⟨R,rfl,Z,V⟩)) (cF (lB (dj (j:=2) (v_var rfl) a rfl) λ_ _=>⟨sd,rfl,by rcases L with rfl|rfl<;>decide +kernel⟩)))) λH2 s2=>?_;have d:=s2 _ _ a;have l:=af.trans s1 s2;have y:=l _ _ T;refine y_ret (bM (oi (dj (j:=3) (v_var rfl) d rfl) (v_var rfl) λ_ z=>⟨s,_,rfl,by rw[be,hl,S],z _ _ y⟩) (tJ (dj (j:=3) (v_var rfl) d rfl) y (by rw[be];lia) λx hx=>?_)) (af.refl _) λH3 X=>k H3 (af.trans l X);obtain⟨i,hi⟩:=OY hx;rw[B7]at hi;obtain⟨b,G,rfl⟩:=Option.map_eq_some_iff.mp hi
  have D:i<sps.length:=by rw[<-hl];exact bw G
  have e:=B0 D;have p:=o.2 i b _ G (by rw[B7,e];rfl);exact oi (v_var rfl) (dj (j:=0) (v_var rfl) d rfl) λ_ z=>⟨b,sps[i],c,rfl,rfl,z _ _ (l _ _ p),h7 _ (Do e)⟩
noncomputable abbrev A7:List Str:=Za
theorem FO:aw A7 Za (aj lS):=cD
theorem Dj(d:lZ K mg tk ad)(F:aZ K "is_name" "is_name" lS f fd)(N:aO mg):av P w K mg base aK 1 f fd Za (cL MH):=by
 refine F.cI FO λcdv A outer s H vs Q E l h=>?_
 ·obtain⟨v,e,g,k⟩:=h;subst e;refine⟨_,ai (au (bj (aH bT (by rfl) N.inst NF (aa (pv 0) (aa (dG (v:= .ty "str") (by rfl) N.str NC rfl (by decide)) ab))) (bj (ff dA dA ag (aH cO (by rfl) N.len NI (aa (pv 0) ab)) (aU (v:= .int 8) (by rfl) d.cNAME_LONGEST ⟨_,rfl⟩)) (bQ (aH (dB rfl) (by rfl) N.all OA (aa (cp (bg (fs:=aj lS) (N:=A7) rfl rfl (by decide +kernel)) rfl (qZ (pv 0)) (λ_ _ _ _ _=>bH) (λ_ _ _ _ _=>(ff qJ qJ ar (pv 0) ar))) ab)))))),?_⟩
  try rw[bO]
  obtain⟨x,rfl,h1,h2,b⟩:=g;refine y_ret (bM (tH rfl) (bM (pL d_ (Dq (v_var rfl) cP) d_ (by lia) (by lia)) (Cc (v_var rfl) cP λc a=>?_))) (af.refl _) k
  have j:∀i:Fin 26,(!decide ((⟨#[97+i.val]⟩:Str).cps.toList<("a":Str).cps.toList))=true/\(!decide (("z":Str).cps.toList<(⟨#[97+i.val]⟩:Str).cps.toList))=true:=by decide +kernel
  have z:=j ⟨c-97,by have :=b c a;lia⟩;rw[show 97+(c-97)=c by have :=b c a;lia]at z;exactλH1 Q s k=>⟨_,rfl,_,_,rfl,rfl,_,rfl,by rw[z.1];exact eY ⟨_,_,rfl,rfl,by rw[z.2];exact k H1 (af.refl _)⟩⟩
noncomputable abbrev H_:List Str:=Zy
theorem Ez:aw H_ Zy (aj qQ):=cD
theorem Bm(o:lZ K mg tk ad)(F:aZ K "is_what" "is_what" qQ f fd)(N:aO mg)(G1:av P w K mg base aK 4 f1 d1 Zd (df (DV λwh=>∃k g al sd,wh= .lined k g al sd)))(I:Cq K mg d1 f1 Zd "is_lined_what")(G2:av P w K mg base aK 4 f2 d2 Zd (df (DV λwh=>∃a b,wh= .leaf a b)))(C:Cq K mg d2 f2 Zd "is_leaf_what")(G:av P w K mg base aK 4 f3 d3 Zd (df (DV λwh=>∃c g sd sps,wh= .table c g sd sps)))(D:Cq K mg d3 f3 Zd "is_table_what")(J:av P w K mg base aK 5 f4 d4 Zd (df (DV λwh=>∃ws j,wh= .words ws j)))(M:Cq K mg d4 f4 Zd "is_words_what")(R:av P w K mg base aK 5 f5 d5 Zd (df (DV λwh=>∃sds ws j,wh= .flow sds ws j)))(T:Cq K mg d5 f5 Zd "is_flow_what")(O:av P w K mg base aK 5 f6 d6 Zd (df Gx))(L:Cq K mg d6 f6 Zd "is_over_what"):av P w K mg base aK 6 f fd Zy (nr GL):=by
 refine F.cI Ez λcdv A outer s H vs Q E B h=>?_
 ·obtain⟨v,u,x,e,l,k⟩:=h;subst e;have m:=B.mono (j:=4) (by decide);have p:=B.mono (j:=5) (by decide)
  refine⟨_,ah (aR (aA (r:=tY K false) cf (pv 0) (aU (v:= .ref (ad 2)) (by rfl) o.tLINED rfl) (by rfl)) (ai (au (pq G1 m I (aa (pv 1) (aa (pv 2) ab))))) az)
   (ah (aR (aA bE (pv 0) ar (aF _)) (ai (au (pq G2 m C (aa (pv 1) (aa (pv 2) ab))))) az)
   (ah (aR (aA bE (pv 0) ar (aF _)) (ai (au (pq G m D (aa (pv 1) (aa (pv 2) ab))))) az)
   (ah (aR (aA bE (pv 0) ar (aF _)) (ai (au (pq J p M (aa (pv 1) (aa (pv 2) ab))))) az)
   (ah (aR (aA bE (pv 0) ar (aF _)) (ai (au (pq R p T (aa (pv 1) (aa (pv 2) ab))))) az)
   (ai (au (bj (bZ bE (pv 0) ar (aF _)) (bQ (pq O p L (aa (pv 1) (aa (pv 2) ab))))))))))),?_⟩
  try rw[bO]
  obtain⟨q,wh,n,rfl,rfl,rfl,t,g,l⟩:=l
  cases wh with
  |lined S y al sd=>
   refine aq λi d=>?_;refine⟨_,rfl,_,_,rfl,.inr (o.sLINED H),rfl,by decide,_,rfl,?_⟩
   show if gu (.str (aY.lined S y al sd).kd) [.str "row",.str "column",.str "wrap"]=true then _ else _
   rw[CS];exact eY (y_ret (oi (v_var rfl) (v_var rfl) λ_ z=>⟨q,_,n,rfl,rfl,cT.keep (KT.same z) t,g,l,_,_,_,_,rfl⟩) (af.refl _) k)
  |leaf a b=>
   refine aq λi d=>?_;refine⟨_,rfl,_,_,rfl,.inr (o.sLINED H),rfl,by decide,_,rfl,br (by kernel_rfl) ?_⟩;refine d _ _ (aq λi d=>?_);refine⟨_,rfl,rfl,_,rfl,dH (by kernel_rfl) ?_⟩;exact y_ret (oi (v_var rfl) (v_var rfl) λ_ z=>⟨q,_,n,rfl,rfl,cT.keep (KT.same z) t,g,l,_,_,rfl⟩) (af.refl _) k
  |table c y sd sps=>
   refine aq λi d=>?_;refine⟨_,rfl,_,_,rfl,.inr (o.sLINED H),rfl,by decide,_,rfl,br (by kernel_rfl) ?_⟩;refine d _ _ (aq λi d=>?_);refine⟨_,rfl,rfl,_,rfl,br (by kernel_rfl) ?_⟩;refine d _ _ (aq λi d=>?_);refine⟨_,rfl,rfl,_,rfl,dH (by kernel_rfl) ?_⟩;exact y_ret (oi (v_var rfl) (v_var rfl) λ_ z=>⟨q,_,n,rfl,rfl,cT.keep (KT.same z) t,g,l,_,_,_,_,rfl⟩) (af.refl _) k
  |words ws j=>
   refine aq λi d=>?_;refine⟨_,rfl,_,_,rfl,.inr (o.sLINED H),rfl,by decide,_,rfl,br (by kernel_rfl) ?_⟩;refine d _ _ (aq λi d=>?_);refine⟨_,rfl,rfl,_,rfl,br (by kernel_rfl) ?_⟩;refine d _ _ (aq λi d=>?_);refine⟨_,rfl,rfl,_,rfl,br (by kernel_rfl) ?_⟩;refine d _ _ (aq λi d=>?_);refine⟨_,rfl,rfl,_,rfl,dH (by kernel_rfl) ?_⟩;exact y_ret (oi (v_var rfl) (v_var rfl) λ_ z=>⟨q,_,n,rfl,rfl,cT.keep (KT.same z) t,g,l,_,_,rfl⟩) (af.refl _) k
  |flow sds ws j=>
   refine aq λi d=>?_;refine⟨_,rfl,_,_,rfl,.inr (o.sLINED H),rfl,by decide,_,rfl,br (by kernel_rfl) ?_⟩;refine d _ _ (aq λi d=>?_);refine⟨_,rfl,rfl,_,rfl,br (by kernel_rfl) ?_⟩;refine d _ _ (aq λi d=>?_);refine⟨_,rfl,rfl,_,rfl,br (by kernel_rfl) ?_⟩;refine d _ _ (aq λi d=>?_);refine⟨_,rfl,rfl,_,rfl,br (by kernel_rfl) ?_⟩;refine d _ _ (aq λi d=>?_);refine⟨_,rfl,rfl,_,rfl,dH (by kernel_rfl) ?_⟩;exact y_ret (oi (v_var rfl) (v_var rfl) λ_ z=>⟨q,_,n,rfl,rfl,cT.keep (KT.same z) t,g,l,_,_,_,rfl⟩) (af.refl _) k
  |over ps=>
   refine aq λi d=>?_;refine⟨_,rfl,_,_,rfl,.inr (o.sLINED H),rfl,by decide,_,rfl,br (by kernel_rfl) ?_⟩;refine d _ _ (aq λi d=>?_);refine⟨_,rfl,rfl,_,rfl,br (by kernel_rfl) ?_⟩;refine d _ _ (aq λi d=>?_);refine⟨_,rfl,rfl,_,rfl,br (by kernel_rfl) ?_⟩;refine d _ _ (aq λi d=>?_);refine⟨_,rfl,rfl,_,rfl,br (by kernel_rfl) ?_⟩;refine d _ _ (aq λi d=>?_);refine⟨_,rfl,rfl,_,rfl,br (by kernel_rfl) ?_⟩;refine d _ _ ?_;clear d i;exact y_ret (bM (y_eq (v_var rfl) d_ rfl) (oi (v_var rfl) (v_var rfl) λ_ z=>⟨q,ps,n,rfl,rfl,cT.keep (KT.same z) t,l⟩)) (af.refl _) k
noncomputable abbrev La:List Str:=Za
theorem IL:aw La Za (aj vR):=cD
theorem D5(F:aZ K "is_box" "is_box" vR f fd)(N:aO mg)(G1:av P w K mg base aK 1 f1 d1 Zc (df jQ))(D:Cq K mg d1 f1 Zc "is_tuple_of")(G2:av P w K mg base aK 1 f2 d2 Za (cL MH))(r:Cq K mg d2 f2 Za "is_name")(C:av P w K mg base aK 1 f3 d3 Zb (B11P.di 1))(u:Cq K mg d3 f3 Zb "name_of")(L:av P w K mg base aK 5 f4 d4 Za (cL KG))(S:Cq K mg d4 f4 Za "is_own")(V:av P w K mg base aK 1 f5 d5 Zb (B11P.di 2))(X:Cq K mg d5 f5 Zb "own_of")(n:av P w K mg base aK 1 f6 d6 Zb (B11P.di 4))(m:Cq K mg d6 f6 Zb "parts_of")(O:av P w K mg base aK 6 f7 d7 Zy (nr GL))(M:Cq K mg d7 f7 Zy "is_what")(I:av P w K mg base aK 1 f8 d8 Zb (B11P.di 0))(W:Cq K mg d8 f8 Zb "kind_of")(J:av P w K mg base aK 1 f9 d9 Zb (B11P.di 3))(R:Cq K mg d9 f9 Zb "what_of"):av P w K mg base aK 7 f fd Za (cL ED):=by
 refine F.cI IL λcdv A outer s H vs Q E d h=>?_
 ·obtain⟨v,e,G,k⟩:=h;subst e;have b:=d.mono (j:=1) (by decide);have l:=d.mono (j:=5) (by decide);have i:=d.mono (j:=6) (by decide)
  refine⟨_,ah (aR (cX (cM (bJ (pq G1 b D (aa (pv 0) (aa ag ab)))) (cM (bJ (pq G2 b r (aa (pq C b u (aa (pv 0) ab)) ab))) (cA (bJ (pq L l S (aa (pq V b X (aa (pv 0) ab)) ab)))))).pt) (ai (au cQ)) az)
   (ai (au (bj (aH bT (by rfl) N.inst NF (aa (pq n b m (aa (pv 0) ab)) (aa (dG (v:= .ty "tuple") (by rfl) N.tuple Ng rfl (by decide)) ab))) (bQ (pq O i M (aa (pq I b W (aa (pv 0) ab)) (aa (pq J b R (aa (pv 0) ab)) (aa (aH bq (by rfl) N.len NI (aa (pq n b m (aa (pv 0) ab)) ab)) ab)))))))),?_⟩
  try rw[bO]
  obtain⟨a,bd,ts,rfl,⟨o,q,p,ha,x,T,y⟩,g,t,U,B⟩:=G;refine eu (eJ (cF (oi (v_var rfl) d_ λ_ z=>⟨a,_,rfl,rfl,z _ _ ha⟩)) (eJ (cF (lB (w_ (v_var rfl) ha rfl) λ_ _=>⟨_,rfl,B⟩)) (cF (lB (w_ (v_var rfl) ha rfl) λ_ z=>⟨o,bd.own,rfl,x.keep (KT.same z),t⟩)))) λH1 s1=>?_;have c:=s1 _ _ ha;have hp1:=s1 _ _ y;exact y_ret (bM (λH2 Y s2 k2=>w_ (xs:=[.str bd.wh.kd,.str bd.nm,.ref o,.ref q,.ref p]) (v_var rfl) c rfl H2 _ s2 ⟨_,"tuple",_,_,rfl,.tup (s2 _ _ hp1),rfl,k2 H2 (af.refl _)⟩) (AG (w_ (v_var rfl) c rfl) (w_ (v_var rfl) c rfl) (CI (w_ (v_var rfl) c rfl) hp1) λ_ z=>⟨q,bd.wh,ts.length,rfl,rfl,by rw[be],(T.keep (KT.same s1)).keep (KT.same z),g,U⟩)) (af.refl _) λH2 s2=>k H2 (af.trans s1 s2)
end
theorem tW:∀(k m:Nat),m<10^(k+1)->(P0 10 m).length<=k+1
 |0,m,h=>by
  rw[Rh (by simpa using h)];exact B2 _
 |k+1,m,h=>by
  by_cases q:m<10
  ·rw[Rh q];exact Vg (Nl _)
  ·have t:P0 10 (m/10)++P0 10 (m%10)=P0 10 (10*(m/10)+m%10):=Nat.toDigits_append_toDigits (by decide) (by lia) (by lia);rw[Nat.div_add_mod]at t;have h1:=tW k (m/10) (by rw[Nat.pow_succ]at h;lia);rw[<-t,B1,Rh (show m%10<10 by lia)];show _+1<=_;exact Ik
theorem wQ(m:Nat):(nS (m:Int)).cps.toList=(P0 10 m).map Char.toNat:=PySem.W.KIN.signs_num m
theorem qt(h:m<10000000):1<=(nS (m:Int)).length/\(nS (m:Int)).length<=7:=by
 have e:(nS (m:Int)).length=(P0 10 m).length:=by
  show(nS (m:Int)).cps.size=_;rw[<-Ni,wQ,be]
 have h1:=PySem.toDigits_len_ge 10 m;have h2:=tW 6 m h
 lia
theorem ly(m:Nat):∀c∈(nS (m:Int)).cps.toList,48<=c/\c<=57:=λc b=>by
 rw[wQ]at b;obtain⟨ch,a,e⟩:=List.mem_map.mp b;have r:=PyProof.Rows.digit_range (SF (by decide) (by decide) a);rw[<-e];exact r
theorem vS(m:Nat):(nS (-((m+1:Nat):Int))).cps.toList=45::(nS ((m+1:Nat):Int)).cps.toList:=by
 unfold nS;rw[dc,dc];have e:toString (-((m+1:Nat):Int))="-"++toString ((m+1:Nat):Int):=rfl;rw[e,RH,Da];rfl
theorem AM{n:Int}(h:n.natAbs<10000000):PySem.intText? (nS n)=some n:=by
 by_cases q:0<=n
 ·exact PySem.W.KIN.num_reads q (by lia)
 ·obtain⟨m,rfl⟩:∃m:Nat,n= -((m+1:Nat):Int):=⟨n.natAbs-1,by lia⟩;have hl:=qt (m:=m+1) (by lia);have hx:=vS m
  have len:(nS (-((m+1:Nat):Int))).length<=8:=by
   show(nS (-((m+1:Nat):Int))).cps.size<=8;rw[<-Ni,hx,FB,Ni];have :=hl.2;show(nS ((m+1:Nat):Int)).length+1<=8;exact Ik
  have e:=PySem.intText_neg hx (ly (m+1)) (λz=>by
   have :(nS ((m+1:Nat):Int)).length=0:=by
    show(nS ((m+1:Nat):Int)).cps.size=0;rw[<-Ni,z];rfl
   lia) cP
  rw[e,wQ,PySem.W.KIN.val_back]
noncomputable def Ig(c:Nat):Bool:=(!decide ((⟨#[c]⟩:Str).cps.toList<("0":Str).cps.toList))&& !decide (("9":Str).cps.toList<(⟨#[c]⟩:Str).cps.toList)
theorem Ho(h:48<=c/\c<=57):Ig c=true:=by
 have :∀i:Fin 10,Ig (48+i.val)=true:=by decide +kernel
 have z:=this ⟨c-48,by lia⟩;rw[show 48+(c-48)=c by lia]at z;exact z
theorem vi{n:Int}:(decide (0+("-":Str).length<=(nS n).length)&&Si (nS n) "-" 0)=decide (n<0):=by
 rw[Vc];by_cases q:0<=n
 ·rw[decide_eq_false (show¬n<0 by lia)];obtain⟨m,rfl⟩:=Int.eq_ofNat_of_zero_le q;have hd:=ly m
  have :(((nS (m:Int)).cps.toList.drop 0).take ("-":Str).length==("-":Str).cps.toList)=false:=by
   rw[Qo,show("-":Str).length=1 from rfl,show("-":Str).cps.toList=[45]from rfl]
   cases e:(nS (m:Int)).cps.toList with
   |nil=>rfl
   |cons c r=>
    have :=hd c (by rw[e];exact B6);show([c]==[45])=false;simp
    lia
  rw[this,Bool.and_false]
 ·obtain⟨m,rfl⟩:∃m:Nat,n= -((m+1:Nat):Int):=⟨n.natAbs-1,by lia⟩;have hx:=vS m
  have hl:1<=(nS (-((m+1:Nat):Int))).length:=by
   show 1<=(nS (-((m+1:Nat):Int))).cps.size;rw[<-Ni,hx,FB];exact DY
  rw[hx,decide_eq_true (show 0+("-":Str).length<=(nS (-((m+1:Nat):Int))).length from hl),decide_eq_true (show -((m+1:Nat):Int)<0 by lia)];rfl
theorem DQ{a b:Nat}(c:a<=b)(d:b<=x.length):(hK x (some (a:Int)) (some (b:Int))).cps.toList=(x.cps.toList.drop a).take (b-a):=by
 unfold hK;have e:=StrLaws.sliced_plain x c d;by_cases q:((NQ (some (a:Int)) (some (b:Int)) 1 x.length).length==x.length)=true
 ·rw[if_pos q];rw[Sn c d,be,Oy]at q;have z:=eq_of_beq q
  have f:a=0:=by lia
  have bl:b=x.length:=by lia
  subst f bl;rw[Qo,Nat.sub_zero];exact(Oa (by rw[Ni];exact B2 _)).symm
 ·rw[if_neg q,e]
theorem HR{a:Nat}(ha:a<=x.length):(hK x (some (a:Int)) none).cps.toList=x.cps.toList.drop a:=by
 have e:hK x (some (a:Int)) none=hK x (some (a:Int)) (some (x.length:Int)):=by
  unfold hK;rw[StrLaws.sliceIdx_none_hi]
 rw[e,DQ ha (B2 _)];exact Oa (by rw[Ot,Ni];exact B2 _)
theorem Fh{n:Int}(h:n<0):hK (nS n) (some 1) none=nS (n.natAbs:Int):=by
 obtain⟨m,rfl⟩:∃m:Nat,n= -((m+1:Nat):Int):=⟨n.natAbs-1,by lia⟩;have hx:=vS m;refine lW ?_
 rw[show(some 1:Option Int)=some ((1:Nat):Int)from rfl,HR (by
  show 1<=(nS (-((m+1:Nat):Int))).cps.size;rw[<-Ni,hx,FB]
  exact DY),hx,List.drop_one,List.tail_cons,show(-((m+1:Nat):Int)).natAbs=m+1 by lia]
inductive Gi(vs:List V)(H:Hp)(Q:VK):Prop
 |mk (n:Int) (c0:vs=[.str (nS n)]) (c1:n.natAbs<10000000) (c2:∀H':Hp,af H H'->Q (.int n) H')
def kY:Sp:=λvs H Q _=>Gi vs H Q
section
variable{K:mo}
noncomputable abbrev lI:List Str:=["text","figures"]
theorem jY:aw lI Zf (aj fz):=cD
theorem oS(q:lZ K mg tk ad)(F:aZ K "number_read" "number_read" fz f fd)(N:aO mg):av P w K mg base aK 1 f fd Zf kY:=by
 refine F.cI jY λcdv A outer s H vs Q E x h=>?_
 ·obtain⟨n,e,hn,k⟩:=h;subst e
  refine⟨_,ah (aB (i:=1) jY.nd rfl (Ki rfl) (Bt (bJ (cw Nu SE SD ja (pv 0) (aa ar ab))) (eD yv (pv 0) (fF ag) fE) (pv 0)))
   (ah (aR (cX (cM (mJ dA dA ag (aH cO (by rfl) N.len NI (aa (pv 1) ab)) (aU (v:= .int 7) (by rfl) q.cFIGURES_MOST ⟨_,rfl⟩)) (cA (bJ (aH (dB rfl) (by rfl) N.all OA (aa (cp (bg (fs:=aj fz) (N:=lI) rfl rfl (by decide +kernel)) rfl (qZ (pv 1)) (λ_ _ _ _ _=>bH) (λ_ _ _ _ _=>(ff qJ qJ ar (pv 0) ar))) ab))))).pt) (ai e_) az)
   (ai (au (aQ sj (by rfl) N.int Uc (aa (pv 0) ab))))),?_⟩
  try rw[bO]
  have hl:=qt hn
  have d:(nS n).length<=640:=by
   have :=fj (i:=n) Ew;exact cP
  refine aq λm b=>?_
  have a:m [some (.str (nS n)),some (.str (nS (n.natAbs:Int)))] H:=b _ _ (by
   clear b m
   have t:(nS (n.natAbs:Int)).cps.toList.length<=7:=by
    rw[Ni];exact hl.2
   refine aq λm b=>?_;refine⟨_,rfl,_,rfl,aG (by lia),_,_,rfl,rfl,_,rfl,dH (decide_eq_true (by lia)) ?_⟩;refine⟨_,_,rfl,rfl,_,rfl,dH (decide_eq_true (by have :=hl.2;lia)) ?_⟩;refine⟨_,rfl,_,rfl,lT (α:=Nat) (l:=(nS (n.natAbs:Int)).cps.toList) (λc=>V.str ⟨#[c]⟩) (λ_=>true) (λc=> .bl (Ig c)) (gp.str _ H) (small cP) (λc H' r _ _ o=>o _ (af.refl _)) (λc H' r _ _ _ o=>?_) λp H1 B s1 h1=>?_⟩
   ·refine⟨_,rfl,_,_,rfl,rfl,_,rfl,dM (λy=>?_) (λy=>?_)⟩
    ·refine⟨_,_,rfl,rfl,?_⟩;have z:=o H' (af.refl _);unfold Ig at z;rw[y,Bool.true_and]at z;exact z
    ·have z:=o H' (af.refl _);unfold Ig at z;rw[Bool.eq_false_iff.mpr y,Bool.false_and]at z;exact z
   refine⟨p,(nS (n.natAbs:Int)).cps.toList.map Ig,rfl,bf.of (by rw[h1,List.filter_eq_self.mpr λ_ _=>rfl,NO];rfl),?_⟩
   have u:((nS (n.natAbs:Int)).cps.toList.map Ig).all id=true:=by
    rw[QM];exact List.all_eq_true.mpr λc g=>Ho (ly _ c g)
   refine⟨_,rfl,br (by rw[u];rfl) ?_⟩;refine b _ _ ?_;clear b m
   exact⟨_,rfl,_,n,rfl,d,AM hn,k H1 s1⟩)
  clear b;refine⟨_,rfl,rfl,_,_,rfl,rfl,?_⟩;rw[vi];refine⟨_,rfl,dM (λg=>?_) (λg=>?_)⟩
  ·have j:=of_decide_eq_true g;refine⟨_,rfl,_,rfl,_,rfl,aG cP,?_⟩;rw[Fh j];exact a
  ·have j:¬n<0:=λz=>g (decide_eq_true z);refine⟨_,rfl,?_⟩;rw[show((n.natAbs:Nat):Int)=n by lia]at a;exact a
end
inductive yX(vs:List V)(H:Hp)(Q:VK):Prop
 |mk (z y:Str) (m:Int) (c0:vs=[.str z,.str y,.int m]) (c1:(y.length==0)=false) (c2:z.length<=10000) (c3:((Oh z y).length:Int)=m) (c4:∀(l:B3)(H':Hp),af H H'->H' l=some (.lst ((Oh z y).map V.str))->Q (.ref l) H')
def oE:Sp:=λvs H Q _=>yX vs H Q
inductive Dc(K:mo)(vs:List V)(H:Hp)(Q:VK):Prop
 |mk (z y:Str) (a b:Int) (c0:vs=[.str z,.str y]) (c1:(y.length==0)=false) (c2:z.length<=10000) (c3:Oh z y=[nS a,nS b]) (c4:a.natAbs<10000000) (c5:b.natAbs<10000000) (c6:∀(v:V)(H':Hp),af H H'->At K H' v (.tup [.int a,.int b])->Q v H')
def lQ(K:mo):Sp:=λvs H Q _=>Dc K vs H Q
inductive CQ(K:mo)(vs:List V)(H:Hp)(Q:VK):Prop
 |mk (z s1 s2:Str) (a b:Int) (c0:vs=[.str z]) (c1:z.length<=10000) (c2:Oh z ","=[s1,nS a,s2,nS b]) (c3:s1.length<=1000) (c4:s2.length<=1000) (c5:a.natAbs<10000000) (c6:b.natAbs<10000000) (c7:∀(v:V)(H':Hp),af H H'->At K H' v (.tup [.tup [.str s1,.int a],.tup [.str s2,.int b]])->Q v H')
def rA(K:mo):Sp:=λvs H Q _=>CQ K vs H Q
noncomputable def eM(ws:List (List Str)):D:= .tup (ws.map λw=> .tup (w.map D.str))
def pA(ws:List (List Str)):Prop:=ws.length<=100/\∀w∈ws,w≠[]/\w.length<=100/\∀x∈w,1<=x.length/\x.length<=100/\32∉x.cps.toList/\124∉x.cps.toList
inductive zV(K:mo)(vs:List V)(H:Hp)(Q:VK):Prop
 |mk (ws:List (List Str)) (c0:vs=[.str (iW ws)]) (c1:pA ws) (c2:(iW ws).length<=10000) (c3:∀(v:V)(H':Hp),af H H'->At K H' v (eM ws)->Q v H')
def oz(K:mo):Sp:=λvs H Q _=>zV K vs H Q
theorem join_eq(y:Str)(ps:List Str):NA y ps=NT y ps:=StrLaws.glued_eq_join y ps
theorem A1(ps:List Str)(c:Nat)(a:c≠124)(h:∀x∈ps,c∉x.cps.toList):c∉(NA "|" ps).cps.toList:=by
 rw[join_eq,join_list]
 induction ps with
 |nil=>exactλz=>nomatch z
 |cons p r b=>
  cases r with
  |nil=>exact h p B6
  |cons q r=>
   intro z;have z:c∈p.cps.toList++(("|":Str).cps.toList++dn ("|":Str).cps.toList ((q::r).map λp=>p.cps.toList)):=z
   rcases List.mem_append.mp z with z|z
   ·exact h p B6 z
   ·rcases List.mem_append.mp z with z|z
    ·have e:("|":Str).cps.toList=[124]:=rfl;rw[e]at z;exact a (List.mem_singleton.mp z)
    ·exact b (λx hx=>h x (De _ hx)) z
theorem lL(h:pA ws)(a:ws≠[]):Oh (iW ws) " "=ws.map (NA "|"):=by
 unfold iW;rw[join_eq];refine dU (c:=32) (t:=[]) rfl (by decide +kernel) (λe=>a (List.map_eq_nil_iff.mp e)) λp d=>?_;obtain⟨w,b,rfl⟩:=List.mem_map.mp d;exact A1 w 32 (by decide) λx hx=>((h.2 w b).2.2 x hx).2.2.1
theorem nc{w:List Str}(a:w≠[])(h:∀x∈w,124∉x.cps.toList):Oh (NA "|" w) "|"=w:=by
 rw[join_eq];exact dU (c:=124) (t:=[]) rfl (by decide +kernel) a h
theorem join_le{ps:List Str}{p:Str}(h:p∈ps):p.length<=(NA y ps).length:=by
 rw[join_eq,<-dE,<-dE,join_list]
 induction ps with
 |nil=>cases h
 |cons q r b=>
  cases r with
  |nil=>
   rw[List.mem_singleton.mp h];exact B2 _
  |cons a r=>
   show p.cps.toList.length<=(q.cps.toList++(y.cps.toList++dn y.cps.toList ((a::r).map λp=>p.cps.toList))).length;rw[B1,B1]
   rcases List.mem_cons.mp h with rfl|h
   ·exact Lw
   ·have :=b h
    lia
section
variable{K:mo}
noncomputable abbrev tU:List Str:=["text","sign","many","fields"]
theorem jD:aw tU Zr (aj hZ):=cD
theorem pD(F:aZ K "fields_read" "fields_read" hZ f fd)(N:aO mg):av P w K mg base aK 1 f fd Zr oE:=by
 refine F.cI jD λcdv A outer s H vs Q E j h=>?_
 ·obtain⟨z,y,m,e,d,g,hm,k⟩:=h;subst e
  refine⟨_,ah (aB (i:=3) jD.nd rfl (Ki rfl) (cw Nu O7 O6 gh (pv 0) (aa (pv 1) ab)))
   (ah (aR (aA kr (aH bq (by rfl) N.len NI (aa (pv 3) ab)) (pv 2) (aF _)) (ai e_) az)
   (ai (au (pv 3)))),?_⟩
  try rw[bO]
  refine aq λc a=>?_;refine⟨_,rfl,rfl,_,rfl,z,y,rfl,rfl,d,aG (by lia),λl hl=>?_⟩;generalize b:upd H l _=H1
  have s1:af H H1:=by rw[<-b];exact af.put (af.refl _) hl
  have h1:H1 l=some (.lst ((Oh z y).map V.str)):=by rw[<-b];exact ae
  clear b;refine a _ _ (aq λc a=>?_);refine⟨_,rfl,l,_,rfl,.inl (bf.of h1),_,rfl,rfl,_,rfl,br (by rw[be,hm,decide_eq_true rfl];rfl) ?_⟩;refine a _ _ ?_;clear a c;exact⟨_,rfl,k l H1 s1 h1⟩
noncomputable abbrev qe:List Str:=Zp
theorem wa:aw qe Zp (aj iH):=cD
theorem sQ(F:aZ K "pair_read" "pair_read" iH f fd)(N:aO mg)(G1:av P w K mg base aK 1 f1 d1 Zf kY)(u:Cq K mg d1 f1 Zf "number_read")(G2:av P w K mg base aK 1 f2 d2 Zr oE)(o:Cq K mg d2 f2 Zr "fields_read"):av P w K mg base aK 2 f fd Zp (lQ K):=by
 refine F.cI wa λcdv A outer s H vs Q E r h=>?_
 ·obtain⟨z,y,a,b,e,B,m,g,ha,p,k⟩:=h;subst e;have c:=r.mono (j:=1) (by decide);refine⟨_,ai (au (aQ a_ (by rfl) N.tuple Ng (aa (cp (bg (fs:=aj iH) (N:=qe) rfl rfl (by decide +kernel)) rfl (dr (pq G2 c o (aa (pv 0) (aa (pv 1) (aa ag ab))))) (λ_ _ _ _ _=>bH) (λ_ _ _ _ _=>(pq G1 c u (aa (pv 0) ab)))) ab))),?_⟩
  try rw[bO]
  refine⟨_,rfl,_,rfl,z,y,2,rfl,B,m,by rw[g];rfl,λl H1 s1 h1=>?_⟩;rw[g]at h1;refine⟨l,rfl,⟨_,bf.of h1⟩,md (K:=K) (α:=Int) (l:=[a,b]) (λn=> .str (nS n)) D.int (gp.list (bf.of h1)) (small (by show 2<=100000;decide)) (λx H' v _ _ d=>d _ (af.refl _)) (λx H' v hx s' d=>?_) λq xs H2 G s2 h2 hA=>?_⟩
  ·have hx:x.natAbs<10000000:=by
    simp only[NH,Nt,or_false]at hx
    rcases hx with rfl|rfl
    ·exact ha
    ·exact p
   exact⟨_,rfl,x,rfl,hx,λH2 s2=>d _ H2 s2 (.int x)⟩
  ·refine⟨q,_,rfl,.inl ⟨bf.of h2,λt C=>?_⟩⟩;have i:af H2 (upd H2 t (.tup xs)):=af.put (af.refl _) C;exact k (.ref t) _ (af.trans s1 (af.trans s2 i)) (bV.tup (hA.same i) ae)
end
theorem sP{K:mo}(a:X.K=K):dv X (.type "tuple") (qyT K):=by
 subst a;exact a_
def wF(K:mo)(σ:St)(H0:Hp)(te:TE)(x:Str):Prop:=∀(H:Hp)(Q:VK),af H0 H->Q (.str x) H->te σ H Q
section
variable{K:mo}{n:Int}
theorem iN(h:wF K σ H0 te x)(hx:x.length<=100000):Ev K σ H0 te (.str x):=λH Q s k=>h H _ s (k _ H (af.refl _) (.str x (aG hx)))
theorem gz(h:wF K σ H0 te (nS n))(hn:n.natAbs<10000000):Ev K σ H0 (ie kY [] E (cG te fu)) (.int n):=λH Q s k=>h H _ s ⟨n,rfl,hn,λH' s'=>k _ H' s' (.int n)⟩
theorem mu{ps:List Str}(a:σ[i]? =some (some (.ref l)))(hl:H0 l=some (.lst (ps.map V.str)))(b:ps[j]? =some x):wF K σ H0 (Ad (IA K) (kh i) (tC (.int (j:Int)))) x:=λH Q s q=>⟨_,a,l,_,_,_,rfl,rfl,bf.of (s _ _ hl),aN (by rw[B7,b];rfl),q⟩
end
section
variable{K:mo}
noncomputable abbrev si:List Str:=["text","fields"]
theorem iX:aw si Zf (aj gO):=cD
theorem mx(F:aZ K "anchors_read" "anchors_read" gO f fd)(N:aO mg)(G1:av P w K mg base aK 1 f1 d1 Zf kY)(o:Cq K mg d1 f1 Zf "number_read")(G2:av P w K mg base aK 1 f2 d2 Zr oE)(q:Cq K mg d2 f2 Zr "fields_read"):av P w K mg base aK 2 f fd Zf (rA K):=by
 refine F.cI iX λcdv A outer s H vs Q E u h=>?_
 ·obtain⟨z,s1,s2,a,b,e,p,m,h1,h2,ha,r,k⟩:=h;subst e;have c:=u.mono (j:=1) (by decide)
  refine⟨_,ah (aB (i:=1) iX.nd rfl (Ki rfl) (pq G2 c q (aa (pv 0) (aa ar (aa ag ab)))))
   (ai (au (aT (aa (aT (aa (ay bB (pv 1) ag (λ_ _=>rfl)) (aa (pq G1 c o (aa (ay bB (pv 1) ag (λ_ _=>rfl)) ab)) ab))) (aa (aT (aa (ay bB (pv 1) ag (λ_ _=>rfl)) (aa (pq G1 c o (aa (ay bB (pv 1) ag (λ_ _=>rfl)) ab)) ab))) ab))))),?_⟩
  try rw[bO]
  refine aq λt n=>?_;refine⟨_,rfl,z,",",4,rfl,by decide +kernel,p,by rw[m];rfl,λl H1 g hl=>?_⟩;rw[m]at hl;refine n _ _ ?_;clear n t;refine Ev.ret (H:=H1) (d:= .tup [.tup [.str s1,.int a],.tup [.str s2,.int b]]) (gJ (bo (gJ (bo (iN (mu (j:=0) rfl hl rfl) cP) (bo (gz (mu (j:=1) rfl hl rfl) ha) eW)) (by show 2<=100000;decide)) (bo (gJ (bo (iN (mu (j:=2) rfl hl rfl) cP) (bo (gz (mu (j:=3) rfl hl rfl) r) eW)) (by show 2<=100000;decide)) eW)) (by show 2<=100000;decide)) λv H' s' h'=>k v H' (af.trans g s') h'
noncomputable abbrev nJ:List Str:=Zf
theorem uf:aw nJ Zf (aj gK):=cD
theorem sb(F:aZ K "words_read" "words_read" gK f fd)(N:aO mg):av P w K mg base aK 1 f fd Zf (oz K):=by
 refine F.cI uf λcdv A outer s H vs Q E W h=>?_
 ·obtain⟨ws,e,m,hl,k⟩:=h;subst e
  refine⟨_,ah (aR (aA bE (pv 0) ar (aF _)) (ai (au (aT ab))) az)
   (ai (au (aQ a_ (by rfl) N.tuple Ng (aa (cp (bg (fs:=aj gK) (N:=nJ) rfl rfl (by decide +kernel)) rfl (dr (cw Nu O7 O6 gh (pv 0) (aa ar ab))) (λ_ _ _ _ _=>bH) (λ_ _ _ _ _=>(aQ (sP (K:=K) rfl) (by rfl) N.tuple Ng (aa (A9 (K:=K) (r:=AX) Nu O7 O6 (λ_=>gh) (pv 0) (aa ar ab)) ab)))) ab)))),?_⟩
  try rw[bO]
  refine aq λL J=>?_
  cases a:ws with
  |nil=>
   subst a;refine⟨_,rfl,rfl,_,rfl,dH (decide_eq_true rfl) ?_⟩;refine⟨(by show 0<=sizeLine;decide),λt c=>?_⟩;exact k (.ref t) _ (af.put (af.refl _) c) (bV.tup bV.nil ae)
  |cons w0 wr=>
   rw[<-a]
   have z:ws≠[]:=by rw[a];exact Ou _ _
   have b:iW ws≠"":=λe=>by
    have h0:=m.2 w0 (by rw[a];exact B6)
    obtain⟨x,hx⟩:∃x,x∈w0:=by
     cases w0 with
     |nil=>exact absurd rfl h0.1
     |cons x _=>exact⟨x,B6⟩
    have h1:=(h0.2.2 x hx).1;have h2:x.length<=(NA "|" w0).length:=join_le hx;have R:(NA "|" w0).length<=(iW ws).length:=join_le (Ow (by rw[a];exact B6));rw[e]at R;have T:("":Str).length=0:=rfl
    lia
   refine⟨_,rfl,rfl,_,rfl,br (decide_eq_false λe=>b (by injection e)) ?_⟩;refine J _ _ ?_;clear J L;have o:=lL m z;refine⟨_,rfl,rfl,_,_,rfl,rfl,by decide +kernel,aG (by lia),λl u=>?_⟩;rw[o];generalize B:upd H l _=H1
   have s1:af H H1:=by rw[<-B];exact af.put (af.refl _) u
   have h1:H1 l=some (.lst ((ws.map (NA "|")).map V.str)):=by rw[<-B];exact ae
   clear B;refine⟨l,rfl,⟨_,bf.of h1⟩,md (K:=K) (α:=List Str) (l:=ws) (λw=> .str (NA "|" w)) (λw=> .tup (w.map D.str)) (by rw[NO]at h1;exact gp.list (bf.of h1)) (small (by have :=m.1;exact cP)) (λx H' O _ _ v=>v _ (af.refl _)) (λw H' O i s' v=>?_) λS xs H2 X s2 h2 hA=>?_⟩
   ·obtain⟨n1,U,G⟩:=m.2 w i;have M:(NA "|" w).length<=(iW ws).length:=join_le (Ow i);refine⟨_,rfl,rfl,_,_,rfl,rfl,by decide +kernel,aG (by lia),λI q=>?_⟩;rw[nc n1 λx hx=>(G x hx).2.2.2];have n:af H' (upd H' I (.lst (w.map V.str))):=af.put (af.refl _) q;refine⟨I,_,rfl,.inl ⟨bf.of ae,λt c=>?_⟩⟩;refine v (.ref t) _ (af.trans n (af.put (af.refl _) c)) (bV.tup (xs:=w.map V.str) ⟨by rw[be,be],λj x d g C=>?_⟩ ae);rw[B7]at g C
    cases p:w[j]? with
    |none=>rw[p]at g;cases g
    |some y=>
     rw[p]at g C
     cases g
     cases C
     exact .str y (aG (by have :=(G y (Do p)).2.1;exact cP))
   ·refine⟨S,_,rfl,.inl ⟨bf.of h2,λt c=>?_⟩⟩;have n:af H2 (upd H2 t (.tup xs)):=af.put (af.refl _) c;exact k (.ref t) _ (af.trans s1 (af.trans s2 n)) (bV.tup (hA.same n) ae)
end
noncomputable def tm(p:Str×Str):Key×V:=(NV p.1,V.str p.2)
def Told(H:Hp)(a:B3)(ps:List (Str×Str)):Prop:=H a=some (.dK (ps.map tm))
theorem Told.same{H H':Hp}{a:B3}{ps:List (Str×Str)}(h:Told H a ps)(s:af H H'):Told H' a ps:=s _ _ h
theorem Told.get{ps:List (Str×Str)}{k v:Str}(h:Told H a ps)(e:lk ps k=some v):fR H a (.str k) (some (.str v)):=by
 have z:fR H a (kV (NV k)) (cv (ps.map tm) (NV k)):=fR.k h;have b:cv (ps.map tm) (NV k)=some (.str v):=(vm ps k).trans (by rw[e];rfl);rw[b]at z;exact z
abbrev kl(n:Int):Prop:=n.natAbs<10000000
theorem f_(s:Str)(a b:Int):two s a b=NT s [nS a,nS b]:=by
 refine jf ?_;rw[join_list];show((nS a).cps++(s.cps++(nS b).cps)).toList=(nS a).cps.toList++(s.cps.toList++(nS b).cps.toList);rw[Nm,Nm]
theorem iF{t:List Nat}(g:s.cps.toList=c::t)(f:Builtin.Str.strKind s=1)(d:c<45∨(45<c/\c<48)∨57<c)(a b:Int):Oh (two s a b) s=[nS a,nS b]:=by
 rw[f_];refine dU g f (Ou _ _) λp e=>?_;simp only[NH,Nt,or_false]at e
 rcases e with rfl|rfl
 ·exact kn d a
 ·exact kn d b
theorem ew{a:Int}(d:s.length<=10)(ha:kl a)(c:kl b):(two s a b).length<=10000:=by
 have h1:=fj (i:=a) (by have :a.natAbs<10000000:=ha;exact Ew);have h2:=fj (i:=b) (by have :b.natAbs<10000000:=c;exact Ew)
 have :(two s a b).length=(nS a).length+(s.length+(nS b).length):=by
  show(nS a++(s++nS b)).length=_;rw[GE,GE]
 lia
section
variable{K:mo}{z:Str}{n:Int}
theorem bL{ps:List (Str×Str)}{k:Str}(b:σ[i]? =some (some (.ref a)))(c:Told H0 a ps)(e:lk ps k=some x):wF K σ H0 (Gq (kh i) (tC (.str k))) x:=λH Q s q=>⟨_,b,a,_,rfl,(c.same s).get e,q⟩
theorem jS{a:Int}(h:wF K σ H0 te z)(c:(y.length==0)=false)(hz:z.length<=10000)(d:Oh z y=[nS a,nS b])(ha:kl a)(e:kl b):Ev K σ H0 (ie (lQ K) [] E (cG te (cG (tC (.str y)) fu))) (.tup [.int a,.int b]):=λH Q s k=>h H _ s ⟨z,y,a,b,rfl,c,hz,d,ha,e,k⟩
theorem pQ(h:wF K σ H0 te (iW ws))(a:pA ws)(hl:(iW ws).length<=10000):Ev K σ H0 (ie (oz K) [] E (cG te fu)) (eM ws):=λH Q s k=>h H _ s ⟨ws,rfl,a,hl,k⟩
theorem Dm{s1 s2:Str}{a:Int}(h:wF K σ H0 te z)(hz:z.length<=10000)(c:Oh z ","=[s1,nS a,s2,nS b])(h1:s1.length<=1000)(h2:s2.length<=1000)(ha:kl a)(d:kl b):Ev K σ H0 (ie (rA K) [] E (cG te fu)) (.tup [.tup [.str s1,.int a],.tup [.str s2,.int b]]):=λH Q s k=>h H _ s ⟨z,s1,s2,a,b,rfl,hz,c,h1,h2,ha,d,k⟩
end
noncomputable def lO(o:Own):D:= .tup ([.tup [.int o.w0,.int o.w1],.tup [.int o.h0,.int o.h1]]++[.int o.gr,.int o.sh,.int o.rk,.int o.al])
def zw(ps:List (Str×Str))(o:Own):Prop:=(lk ps "wide"=some (two ".." o.w0 o.w1)/\lk ps "high"=some (two ".." o.h0 o.h1))/\(lk ps "grow"=some (nS o.gr)/\lk ps "shrink"=some (nS o.sh)/\lk ps "rank"=some (nS o.rk)/\lk ps "alike"=some (nS o.al))/\(kl o.w0/\kl o.w1/\kl o.h0/\kl o.h1)/\(kl o.gr/\kl o.sh/\kl o.rk/\kl o.al)
inductive FN(K:mo)(vs:List V)(H:Hp)(Q:VK):Prop
 |mk (d:B3) (ps:List (Str×Str)) (o:Own) (c0:vs=[.ref d]) (c1:Told H d ps) (c2:zw ps o) (c3:∀(v:V)(H':Hp),af H H'->At K H' v (lO o)->Q v H')
def BO(K:mo):Sp:=λvs H Q _=>FN K vs H Q
section
variable{K:mo}
noncomputable abbrev vc:List Str:=["told","numbers"]
theorem qm:aw vc ["told"] (aj ik):=cD
theorem xl(F:aZ K "own_read" "own_read" ik f fd)(N:aO mg)(G1:av P w K mg base aK 1 f1 d1 Zf kY)(X:Cq K mg d1 f1 Zf "number_read")(G2:av P w K mg base aK 2 f2 d2 Zp (lQ K))(D:Cq K mg d2 f2 Zp "pair_read"):av P w K mg base aK 3 f fd ["told"] (BO K):=by
 refine F.cI qm λcdv A outer s H vs Q E r h=>?_
 ·obtain⟨d,ps,o,e,L,W,k⟩:=h;subst e;have B:=r.mono (j:=1) (by decide);have b:=r.mono (j:=2) (by decide)
  have y:(A.deeper (NB "own_read" (aj ik) s.heap.objs.size f cdv)).units+1<OX:=by have :=r.units;lia
  refine⟨_,ah (gA (i:=1) (bg (fs:=aj ik) (N:=vc) rfl rfl (by decide +kernel)) rfl qm.nd rfl (Ki rfl) (eK (aT (aa ar (aa ar (aa ar (aa ar ab)))))) (λ_ _ _ _ _=>bH) (λ_ _ _ _ _=>(pq G1 B X (aa (bR y (pv 1) (pv 0) (λ_ _=>rfl)) ab))) rfl)
   (ai (au (aJ xB (aT (aa (pq G2 b D (aa (bR y (pv 0) ar (λ_ _=>rfl)) (aa ar ab))) (aa (pq G2 b D (aa (bR y (pv 0) ar (λ_ _=>rfl)) (aa ar ab))) ab))) (aQ a_ (by rfl) N.tuple Ng (aa (pv 1) ab))))),?_⟩
  try rw[bO]
  obtain⟨⟨V,R⟩,⟨S,q,z,ha⟩,⟨b1,J,M,O⟩,⟨c1,c2,c3,c4⟩⟩:=W;refine aq λU I=>?_;refine⟨(by show 4<=sizeLine;decide),λt u=>?_⟩;generalize n:upd H t _=H1
  have s1:af H H1:=by rw[<-n];exact af.put (af.refl _) u
  have h1:H1 t=some (.tup [.str "grow",.str "shrink",.str "rank",.str "alike"]):=by rw[<-n];exact ae
  clear n;refine⟨t,rfl,⟨_,ba.of h1⟩,md (K:=K) (α:=Str×Int) (l:=[("grow",o.gr),("shrink",o.sh),("rank",o.rk),("alike",o.al)]) (λp=> .str p.1) (λp=> .int p.2) (gp.tup h1) (small (by show 4<=100000;decide)) (λx H' Y _ _ C=>C _ (af.refl _)) (λp H' Y G s' C=>?_) λT xs H2 Z s2 h2 hA=>?_⟩
  ·have g:lk ps p.1=some (nS p.2)/\kl p.2:=by
    simp only[NH,Nt,or_false]at G
    rcases G with rfl|rfl|rfl|rfl
    ·exact⟨S,c1⟩
    ·exact⟨q,c2⟩
    ·exact⟨z,c3⟩
    ·exact⟨ha,c4⟩
   exact⟨_,rfl,_,rfl,d,_,rfl,(L.same (af.trans s1 s')).get g.1,p.2,rfl,g.2,λH2 s2=>C _ H2 s2 (.int _)⟩
  refine I _ _ ?_;clear I U;have m:=af.trans s1 s2;have c:=L.same m;refine Ev.ret (H:=H2) (d:=lO o) (Iu (ds:=[.tup [.int o.w0,.int o.w1],.tup [.int o.h0,.int o.h1]]) (es:=[.int o.gr,.int o.sh,.int o.rk,.int o.al]) (gJ (bo (jS (bL rfl c V) (by decide +kernel) (ew (by decide +kernel) b1 J) (iF dd (by decide +kernel) (by decide) _ _) b1 J) (bo (jS (bL rfl c R) (by decide +kernel) (ew (by decide +kernel) M O) (iF dd (by decide +kernel) (by decide) _ _) M O) eW)) (by show 2<=100000;decide)) (iv (ES (a:=T) rfl h2 hA)) (by show 2+4<=100000;decide)) λv H' s' h'=>k v H' (af.trans m s') h'
end
noncomputable def zh(p:(Str×Int)×(Str×Int)):D:= .tup [.tup [.str p.1.1,.int p.1.2],.tup [.str p.2.1,.int p.2.2]]
noncomputable def dy:aY->D
 | .leaf a b=> .tup [.int a,.int b]
 | .lined _ g al sd=> .tup [.int g,.str al,.str sd]
 | .table c g sd sps=> .tup [.int c,.int g,.str sd,.tup (sps.map λp=> .tup [.int p.1,.int p.2])]
 | .words ws j=> .tup [eM ws,.int j]
 | .flow sds ws j=> .tup [.tup (sds.map D.str),eM ws,.int j]
 | .over ps=> .tup (ps.map zh)
def Le(H:Hp)(pd:List B3)(pts:List (List (Str×Str))):Prop:=pd.length=pts.length/\∀(i:Nat)(a:B3)(ps:List (Str×Str)),pd[i]? =some a->pts[i]? =some ps->Told H a ps
theorem kf(h1:p.1.1.length<=1000)(h2:p.2.1.length<=1000)(a:kl p.1.2)(b:kl p.2.2):(four p).length<=10000:=by
 have n1:=fj (i:=p.1.2) (by have :p.1.2.natAbs<10000000:=a;exact Ew);have c:=fj (i:=p.2.2) (by have :p.2.2.natAbs<10000000:=b;exact Ew);have c1:(",":Str).length=1:=rfl;show(p.1.1++(","++(nS p.1.2++(","++(p.2.1++(","++nS p.2.2)))))).length<=10000;rw[GE,GE,GE,GE,GE,GE,c1]
 lia
theorem jg(h1:44∉p.1.1.cps.toList)(h2:44∉p.2.1.cps.toList):Oh (four p) ","=[p.1.1,nS p.1.2,p.2.1,nS p.2.2]:=by
 have e:four p=NT "," [p.1.1,nS p.1.2,p.2.1,nS p.2.2]:=by
  refine jf ?_;rw[join_list];show(p.1.1.cps++((",":Str).cps++((nS p.1.2).cps++((",":Str).cps++(p.2.1.cps++((",":Str).cps++(nS p.2.2).cps)))))).toList=_;rw[Nm,Nm,Nm,Nm,Nm,Nm];rfl
 rw[e];refine dU (c:=44) (t:=[]) rfl (by decide +kernel) (Ou _ _) λq a=>?_;simp only[NH,Nt,or_false]at a
 rcases a with rfl|rfl|rfl|rfl
 ·exact h1
 ·exact kn (by decide) _
 ·exact h2
 ·exact kn (by decide) _
def qk(ps:List (Str×Str))(pts:List (List (Str×Str))):aY->Prop
 | .leaf a b=>lk ps "wish"=some (two "," a b)/\kl a/\kl b
 | .lined _ g al sd=>lk ps "gap"=some (nS g)/\lk ps "align"=some al/\lk ps "side"=some sd/\kl g/\al.length<=1000/\sd.length<=1000
 | .table c g sd sps=>(lk ps "columns"=some (nS c)/\lk ps "gap"=some (nS g)/\lk ps "side"=some sd)/\(kl c/\kl g/\sd.length<=1000)/\pts.length=sps.length/\∀(i:Nat)(t:List (Str×Str))(p:Int×Int),pts[i]? =some t->sps[i]? =some p->lk t "span"=some (two "," p.1 p.2)/\kl p.1/\kl p.2
 | .words ws j=>(lk ps "text"=some (iW ws)/\lk ps "joint"=some (nS j))/\kl j/\pA ws/\(iW ws).length<=10000
 | .flow sds ws j=>(lk ps "text"=some (iW ws)/\lk ps "joint"=some (nS j))/\(kl j/\pA ws/\(iW ws).length<=10000)/\pts.length=sds.length/\∀(i:Nat)(t:List (Str×Str))(s:Str),pts[i]? =some t->sds[i]? =some s->lk t "float"=some s/\s.length<=1000
 | .over as=>pts.length=as.length+1/\∀(i:Nat)(t:List (Str×Str))(p:(Str×Int)×(Str×Int)),pts[i+1]? =some t->as[i]? =some p->lk t "at"=some (four p)/\(44∉p.1.1.cps.toList/\44∉p.2.1.cps.toList)/\(p.1.1.length<=1000/\p.2.1.length<=1000)/\kl p.1.2/\kl p.2.2
inductive C_(K:mo)(vs:List V)(H:Hp)(Q:VK):Prop
 |mk (d pl:B3) (pd:List B3) (ps:List (Str×Str)) (pts:List (List (Str×Str))) (wh:aY) (c0:vs=[.str wh.kd,.ref d,.ref pl]) (c1:Told H d ps) (c2:H pl=some (.lst (pd.map V.ref))) (c3:Le H pd pts) (c4:pd.length<=1000) (c5:qk ps pts wh) (c6:∀(v:V)(H':Hp),af H H'->At K H' v (dy wh)->Q v H')
def xU(K:mo):Sp:=λvs H Q _=>C_ K vs H Q
theorem kQ{α:Type}{K:mo}{pd:List B3}{xs:List α}{f:α->D}(ha:∀(H:Hp)(Q:VK),af H0 H->(∀l H',af H H'->H' l=some (.lst (pd.map V.ref))->Q (.ref l) H')->ta σ H Q)(b:pd.length=xs.length)(hl:pd.length<=1000)(he:∀(i:Nat)(a:B3)(x:α)(H1:Hp),pd[i]? =some a->xs[i]? =some x->af H0 H1->Ev K (some (.ref a)::σ) H1 te (f x)):Mb K σ H0 (qG (GP K ta) jE te) (xs.map f):=λH Q s k=>ha H _ s λl H1 s1 h1=>by
 refine⟨l,rfl,⟨_,bf.of h1⟩,md (K:=K) (α:=B3×α) (l:=pd.zip xs) (λp=> .ref p.1) (λp=>f p.2) ?_ (small (by rw[Sx];lia)) (λp H' g _ _ c=>c _ (af.refl _)) (λp H' g o s' c=>?_) λm ys t v q n d=>?_⟩
 ·have e:(pd.zip xs).map (λp=>V.ref p.1)=pd.map V.ref:=by
   rw[show(λp:B3×α=>V.ref p.1)=V.ref∘SU from rfl,<-NO,Sk (by rw[b];exact B2 _)]
  rw[e];exact gp.list (bf.of h1)
 ·obtain⟨j,r⟩:=OY o;obtain⟨u,h⟩:=vO r;exact he j p.1 p.2 H' u h (af.trans s (af.trans s1 s')) H' g (af.refl _) c
 ·refine k m ys t (af.trans s1 q) n ?_
  have e:(pd.zip xs).map (λp=>f p.2)=xs.map f:=by
   rw[show(λp:B3×α=>f p.2)=f∘Prod.snd from rfl,<-NO,List.map_snd_zip (by rw[b];exact B2 _)]
  rw[e]at d;exact d
theorem xJ(h:σ[i]? =some (some (.ref l)))(hl:H0 l=some (.lst xs)):∀(H:Hp)(Q:VK),af H0 H->(∀l H',af H H'->H' l=some (.lst xs)->Q (.ref l) H')->kh i σ H Q:=λH Q s k=>⟨_,h,k l H (af.refl _) (s _ _ hl)⟩
theorem zr{K:mo}(h:σ[i]? =some (some (.ref l)))(hl:H0 l=some (.lst xs)):∀(H:Hp)(Q:VK),af H0 H->(∀l H',af H H'->H' l=some (.lst (xs.drop 1))->Q (.ref l) H')->Mu (Lh K) (kh i) (GI (tC (.int 1))) xH σ H Q:=λH Q s k=>by
 refine⟨_,h,_,rfl,l,xs,rfl,bf.of (s _ _ hl),λp a=>?_⟩
 have e:hY xs (some 1) none=xs.drop 1:=by
  unfold hY;rw[HT.jF,show(some 1:Option Int)=some ((1:Nat):Int)from rfl,HT.iQ]
  cases xs with
  |nil=>rfl
  |cons x xs=>
   rw[Qa (by show 1<=xs.length+1;exact DY)];exact Oa (by rw[Ot];exact B2 _)
 rw[e];exact k p _ (af.put (af.refl _) a) ae
theorem C2(k:Nat)(g:Int)(al sd:Str):gu (.str (aY.lined k g al sd).kd) gI=true:=by
 match k with
 |0=>show gu (.str "row") gI=true;decide +kernel
 |1=>show gu (.str "column") gI=true;decide +kernel
 |k+2=>show gu (.str "wrap") gI=true;decide +kernel
section
variable{K:mo}
noncomputable abbrev iI:List Str:=["kind","told","parts_told","spans","sides"]
theorem jl:aw iI ZK (aj dQ):=cD
theorem uh(L:lZ K mg tk ad)(F:aZ K "what_read" "what_read" dQ f fd)(N:aO mg)(G1:av P w K mg base aK 1 f1 d1 Zf kY)(U:Cq K mg d1 f1 Zf "number_read")(G2:av P w K mg base aK 2 f2 d2 Zp (lQ K))(J2:Cq K mg d2 f2 Zp "pair_read")(G3:av P w K mg base aK 1 f3 d3 Zf (oz K))(J3:Cq K mg d3 f3 Zf "words_read")(G4:av P w K mg base aK 2 f4 d4 Zf (rA K))(J4:Cq K mg d4 f4 Zf "anchors_read"):av P w K mg base aK 3 f fd ZK (xU K):=by
 refine F.cI jl λcdv A outer s H vs Q E hr h=>?_
 ·obtain⟨d,pl,pd,ps,pts,wh,e,G,O,n,y,R,k⟩:=h;subst e;have q:=hr.mono (j:=1) (by decide);have J:=hr.mono (j:=2) (by decide)
  have u:(A.deeper (NB "what_read" (aj dQ) s.heap.objs.size f cdv)).units+1<OX:=by have :=hr.units;lia
  refine⟨_,ah (aR (aA (r:=tY K false) cf (pv 0) (aU (v:= .ref (ad 2)) (by rfl) L.tLINED rfl) (by rfl)) (ai (au (aT (aa (pq G1 q U (aa (bR u (pv 1) ar (λ_ _=>rfl)) ab)) (aa (bR u (pv 1) ar (λ_ _=>rfl)) (aa (bR u (pv 1) ar (λ_ _=>rfl)) ab)))))) az)
   (ah (aR (aA bE (pv 0) ar (aF _)) (ai (au (pq G2 J J2 (aa (bR u (pv 1) ar (λ_ _=>rfl)) (aa ar ab))))) az)
   (ah (aR (aA bE (pv 0) ar (aF _)) (ah (aB (i:=3) jl.nd rfl (Ki rfl) (aQ a_ (by rfl) N.tuple Ng (aa (cp (bg (fs:=aj dQ) (N:=iI) rfl rfl (by decide +kernel)) rfl (dr (pv 2)) (λ_ _ _ _ _=>bH) (λ_ _ _ _ _=>(pq G2 J J2 (aa (bR u (pv 0) ar (λ_ _=>rfl)) (aa ar ab))))) ab)))
    (ai (au (aT (aa (pq G1 q U (aa (bR u (pv 1) ar (λ_ _=>rfl)) ab)) (aa (pq G1 q U (aa (bR u (pv 1) ar (λ_ _=>rfl)) ab)) (aa (bR u (pv 1) ar (λ_ _=>rfl)) (aa (pv 3) ab)))))))) az)
   (ah (aR (aA bE (pv 0) ar (aF _)) (ai (au (aT (aa (pq G3 q J3 (aa (bR u (pv 1) ar (λ_ _=>rfl)) ab)) (aa (pq G1 q U (aa (bR u (pv 1) ar (λ_ _=>rfl)) ab)) ab))))) az)
   (ah (aR (aA bE (pv 0) ar (aF _)) (ah (aB (i:=4) jl.nd rfl (Ki rfl) (aQ a_ (by rfl) N.tuple Ng (aa (cp (bg (fs:=aj dQ) (N:=iI) rfl rfl (by decide +kernel)) rfl (dr (pv 2)) (λ_ _ _ _ _=>bH) (λ_ _ _ _ _=>(bR u (pv 0) ar (λ_ _=>rfl)))) ab)))
    (ai (au (aT (aa (pv 4) (aa (pq G3 q J3 (aa (bR u (pv 1) ar (λ_ _=>rfl)) ab)) (aa (pq G1 q U (aa (bR u (pv 1) ar (λ_ _=>rfl)) ab)) ab))))))) az)
   (ah (aR (aA bE (pv 0) ar (aF _)) (ai (au (aQ a_ (by rfl) N.tuple Ng (aa (cp (bg (fs:=aj dQ) (N:=iI) rfl rfl (by decide +kernel)) rfl (dr (eD sf (pv 2) (fF ag) fE)) (λ_ _ _ _ _=>bH) (λ_ _ _ _ _=>(pq G4 J J4 (aa (bR u (pv 0) ar (λ_ _=>rfl)) ab)))) ab)))) az)
   (ai e_)))))),?_⟩
  try rw[bO]
  cases wh with
  |lined kk g al sd=>
   obtain⟨C,M,e3,b1,z,T⟩:=R;refine aq λm l=>?_;refine⟨_,rfl,_,_,rfl,.inr (L.sLINED H),rfl,by decide,_,rfl,dH (C2 kk g al sd) ?_⟩;exact Ev.ret (H:=H) (d:= .tup [.int g,.str al,.str sd]) (gJ (bo (gz (bL rfl G C) b1) (bo (iN (bL rfl G M) cP) (bo (iN (bL rfl G e3) cP) eW))) (by show 3<=100000;decide)) k
  |leaf a b=>
   obtain⟨C,b1,z⟩:=R;refine aq λm l=>?_;refine⟨_,rfl,_,_,rfl,.inr (L.sLINED H),rfl,by decide,_,rfl,br (by show gu (.str "leaf") gI=false;decide +kernel) ?_⟩;refine l _ _ ?_;clear l m;refine⟨_,rfl,rfl,_,rfl,dH (by show decide (V.str "leaf"=V.str "leaf")=true;decide +kernel) ?_⟩;exact Ev.ret (H:=H) (d:= .tup [.int a,.int b]) (jS (bL rfl G C) (by decide +kernel) (ew (by decide +kernel) b1 z) (iF cm (by decide +kernel) (by decide) _ _) b1 z) k
  |table c g sd sps=>
   obtain⟨⟨C,M,e3⟩,⟨b1,z,T⟩,o,Z⟩:=R;refine aq λm l=>?_;refine⟨_,rfl,_,_,rfl,.inr (L.sLINED H),rfl,by decide,_,rfl,br (by show gu (.str "table") gI=false;decide +kernel) ?_⟩;refine l _ _ (aq λm l=>?_);refine⟨_,rfl,rfl,_,rfl,br (by show decide (V.str "table"=V.str "leaf")=false;decide +kernel) ?_⟩;refine l _ _ ?_;clear l m;refine⟨_,rfl,rfl,_,rfl,dH (by show decide (V.str "table"=V.str "table")=true;decide +kernel) ?_⟩;refine Ev.set (K:=K) (H:=H) (d:= .tup (sps.map λp=> .tup [.int p.1,.int p.2])) (iv (kQ (xs:=sps) (xJ rfl O) (by rw[n.1,o]) y λi a p H1 B ep s1=>?_)) λvs H1 s1 hv=>?_
   ·obtain⟨t,I⟩:∃t,pts[i]? =some t:=⟨_,B0 (by rw[<-n.1];exact bw B)⟩;obtain⟨S,W,X⟩:=Z i t p I ep;exact jS (bL rfl ((n.2 i a t B I).same s1) S) (by decide +kernel) (ew (by decide +kernel) W X) (iF cm (by decide +kernel) (by decide) _ _) W X
   ·have x:=G.same s1;exact Ev.ret (H:=H1) (d:=dy (.table c g sd sps)) (gJ (bo (gz (bL rfl x C) b1) (bo (gz (bL rfl x M) z) (bo (iN (bL rfl x e3) cP) (bo (wz rfl hv) eW)))) (by show 4<=100000;decide)) λv H' s' h'=>k v H' (af.trans s1 s') h'
  |words ws j=>
   obtain⟨⟨C,M⟩,b1,z,T⟩:=R;refine aq λm l=>?_;refine⟨_,rfl,_,_,rfl,.inr (L.sLINED H),rfl,by decide,_,rfl,br (by show gu (.str "words") gI=false;decide +kernel) ?_⟩;refine l _ _ (aq λm l=>?_);refine⟨_,rfl,rfl,_,rfl,br (by show decide (V.str "words"=V.str "leaf")=false;decide +kernel) ?_⟩;refine l _ _ (aq λm l=>?_);refine⟨_,rfl,rfl,_,rfl,br (by show decide (V.str "words"=V.str "table")=false;decide +kernel) ?_⟩;refine l _ _ ?_;clear l m;refine⟨_,rfl,rfl,_,rfl,dH (by show decide (V.str "words"=V.str "words")=true;decide +kernel) ?_⟩;exact Ev.ret (H:=H) (d:= .tup [eM ws,.int j]) (gJ (bo (pQ (bL rfl G C) z T) (bo (gz (bL rfl G M) b1) eW)) (by show 2<=100000;decide)) k
  |flow sds ws j=>
   obtain⟨⟨C,M⟩,⟨b1,z,T⟩,o,Y⟩:=R;refine aq λm l=>?_;refine⟨_,rfl,_,_,rfl,.inr (L.sLINED H),rfl,by decide,_,rfl,br (by show gu (.str "flow") gI=false;decide +kernel) ?_⟩;refine l _ _ (aq λm l=>?_);refine⟨_,rfl,rfl,_,rfl,br (by show decide (V.str "flow"=V.str "leaf")=false;decide +kernel) ?_⟩;refine l _ _ (aq λm l=>?_);refine⟨_,rfl,rfl,_,rfl,br (by show decide (V.str "flow"=V.str "table")=false;decide +kernel) ?_⟩;refine l _ _ (aq λm l=>?_);refine⟨_,rfl,rfl,_,rfl,br (by show decide (V.str "flow"=V.str "words")=false;decide +kernel) ?_⟩;refine l _ _ ?_;clear l m;refine⟨_,rfl,rfl,_,rfl,dH (by show decide (V.str "flow"=V.str "flow")=true;decide +kernel) ?_⟩;refine Ev.set (K:=K) (H:=H) (d:= .tup (sds.map D.str)) (iv (kQ (xs:=sds) (xJ rfl O) (by rw[n.1,o]) y λi a p H1 B ep s1=>?_)) λvs H1 s1 hv=>?_
   ·obtain⟨t,I⟩:∃t,pts[i]? =some t:=⟨_,B0 (by rw[<-n.1];exact bw B)⟩;obtain⟨S,W⟩:=Y i t p I ep;exact iN (bL rfl ((n.2 i a t B I).same s1) S) cP
   ·have x:=G.same s1;exact Ev.ret (H:=H1) (d:=dy (.flow sds ws j)) (gJ (bo (wz rfl hv) (bo (pQ (bL rfl x C) z T) (bo (gz (bL rfl x M) b1) eW))) (by show 3<=100000;decide)) λv H' s' h'=>k v H' (af.trans s1 s') h'
  |over as=>
   obtain⟨o,has⟩:=R;refine aq λm l=>?_;refine⟨_,rfl,_,_,rfl,.inr (L.sLINED H),rfl,by decide,_,rfl,br (by show gu (.str "over") gI=false;decide +kernel) ?_⟩;refine l _ _ (aq λm l=>?_);refine⟨_,rfl,rfl,_,rfl,br (by show decide (V.str "over"=V.str "leaf")=false;decide +kernel) ?_⟩;refine l _ _ (aq λm l=>?_);refine⟨_,rfl,rfl,_,rfl,br (by show decide (V.str "over"=V.str "table")=false;decide +kernel) ?_⟩;refine l _ _ (aq λm l=>?_);refine⟨_,rfl,rfl,_,rfl,br (by show decide (V.str "over"=V.str "words")=false;decide +kernel) ?_⟩;refine l _ _ (aq λm l=>?_);refine⟨_,rfl,rfl,_,rfl,br (by show decide (V.str "over"=V.str "flow")=false;decide +kernel) ?_⟩;refine l _ _ (aq λm l=>?_);refine⟨_,rfl,rfl,_,rfl,dH (by show decide (V.str "over"=V.str "over")=true;decide +kernel) ?_⟩;clear l
   have el:(pd.drop 1).length=as.length:=by rw[Ot,n.1,o];rfl
   refine Ev.ret (H:=H) (d:= .tup (as.map zh)) (iv (kQ (pd:=pd.drop 1) (xs:=as) (by rw[List.map_drop];exact zr rfl O) el (by rw[Ot];lia) λi a p H1 B ep s1=>?_)) k;rw[Qi,TY]at B;obtain⟨t,I⟩:∃t,pts[i+1]? =some t:=⟨_,B0 (by rw[<-n.1];exact bw B)⟩;obtain⟨S,⟨W,X⟩,⟨q4,q5⟩,q6,q7⟩:=has i t p I ep;exact Dm (bL rfl ((n.2 (i+1) a t B I).same s1) S) (kf q4 q5 q6 q7) (jg W X) q4 q5 q6 q7
end
structure RowC(K:mo)(C:B3):Prop where
 cl:GY K C
 nD:fQ K C "depth"
 nK:fQ K C "kind"
 nN:fQ K C "name"
 nT:fQ K C "told"
structure Hv(P:Og)(w:Ox)(K:mo)(mg:Str->Option B5)(aP:B3)(ti:Tok):Prop where
 mP:mg "PLAIN"=some (.ref aP)
 dP:uq P w K aP (bu.map tm)
 mI:mg "INDENT"=some (.str "  " ti)
inductive vk(C:B3)(vs:List V)(H:Hp)(Q:VK):Prop
 |mk (x dx:B3) (a b c d:V) (c0:vs=[.ref x,a,b,c,d]) (c1:H x=some (.ins C dx [])) (c2:∀H':Hp,(∀y u,y≠x->H y=some u->H' y=some u)->H' x=some (.ins C dx [("depth",a),("kind",b),("name",c),("told",d)])->Q .non H')
def k_(K:mo)(C:B3):Sp:=λvs H Q _=>vk C vs H Q
noncomputable def pj(ps:List (Str×Str))(k v:Str):List (Str×Str):=if(ps.any λp=>decide (p.1=k))=true then ps.map (λp=>if p.1=k then(p.1,v)else p)else ps++[(k,v)]
noncomputable def putAll(ps:List (Str×Str))(l:List (Str×Str)):List (Str×Str):=l.foldl (λa p=>pj a p.1 p.2) ps
theorem pW(ps:List (Str×Str))(k v:Str):putK (ps.map tm) (NV k:Key) (.str v)=(pj ps k v).map tm:=by
 have b:((ps.map tm).any λa=>decide (a.1=(NV k:Key)))=ps.any λp=>decide (p.1=k):=by
  rw[Se]
  congr 1
  funext p
  exact decide_eq_decide.mpr ⟨λe=>QZ e,λe=>congrArg NV e⟩
 unfold putK pj;rw[b]
 split
 ·rw[NO,NO];refine OL λp _=>?_;show(if(tm p).1=(NV k:Key)then((tm p).1,V.str v)else tm p)=tm (if p.1=k then(p.1,v)else p);by_cases e:p.1=k
  ·rw[if_pos e,if_pos (show(tm p).1=(NV k:Key)from congrArg NV e)];rfl
  ·rw[if_neg e,if_neg (show¬(tm p).1=(NV k:Key)fromλz=>e (QZ z))]
 ·rw[Da];rfl
theorem DE(ps:List (Str×Str))(k v:Str):(pj ps k v).length<=ps.length+1:=by
 unfold pj
 split
 ·rw[be];exact Ln
 ·rw[B1];exact B2 _
noncomputable def gC(p:Str×Str):Str:=p.1++("="++p.2)
structure vp(row:Str)(dep:Nat)(kd nm:Str)(kvs:List (Str×Str))(tx:Str):Prop where
 len:row.length<=10000
 deep:row.length=(eZ row " ").length+2*dep
 head:∃h0 m:Str,parted (eZ row " ") " text="=[h0,m,tx]/\h0.length<=10000/\Oh h0 " "=kd::nm::kvs.map gC
 keys:∀p∈kvs,61∉p.1.cps.toList/\(gC p).length<=10000
 many:kvs.length<=100
def Cp(C:B3)(H:Hp)(x:B3)(dep:Nat)(kd nm:Str)(d:B3):Prop:=∃dx,H x=some (.ins C dx [("depth",.int (dep:Int)),("kind",.str kd),("name",.str nm),("told",.ref d)])
inductive FT(C:B3)(vs:List V)(H:Hp)(Q:VK):Prop
 |mk (row:Str) (dep:Nat) (kd nm:Str) (kvs:List (Str×Str)) (tx:Str) (c0:vs=[.str row]) (c1:vp row dep kd nm kvs tx) (c2:∀(x d:B3)(H':Hp),af H H'->Cp C H' x dep kd nm d->Told H' d (putAll bu (kvs++[(("text":Str),tx)]))->Q (.ref x) H')
def A6(C:B3):Sp:=λvs H Q _=>FT C vs H Q
theorem AV{K:mo}{a b c d:V}(k:∀x dx H',H x=none->af H H'->H' x=some (.ins C dx [("depth",a),("kind",b),("name",c),("told",d)])->Q (.ref x) H')(x dx:B3)(hx:H x=none)(f:H dx=none)(ne:dx≠x):k_ K C (.ref x::([a,b,c,d]++[])) (upd (upd H dx (.own x)) x (.ins C dx [])) (λv H2=>v= .non/\Q (.ref x) H2) E:=by
 refine⟨x,dx,_,_,_,_,rfl,ae,λH' kp hi=>⟨rfl,k x dx H' hx ?_ hi⟩⟩;exactλb u e=>kp b u (aI e hx) (by rw[ak (aI e hx),ak (aI e f)];exact e)
section
variable{K:mo}
noncomputable abbrev rq:List Str:=Zz
theorem pk:aw rq Zz (aj gL):=cD
theorem ni(g:RowC K C)(F:aZ K "__init__" "TextRow.__init__" gL f fd)(N:aO mg):av P w K mg base aK 1 f fd Zz (k_ K C):=by
 refine F.cI pk λcdv A outer s H vs Q E j h=>?_
 ·obtain⟨x,dx,a,b,c,d,e,hx,k⟩:=h;subst e
  refine⟨_,ah (se (pv 0) (pv 1) rfl)
   (ah (se (pv 0) (pv 2) rfl)
   (ah (se (pv 0) (pv 3) rfl)
   (ai (se (pv 0) (pv 4) rfl)))),?_⟩
  try rw[bO]
  refine⟨_,rfl,_,rfl,x,C,dx,_,rfl,hx,g.cl,g.nD,(by decide),?_⟩;refine⟨_,rfl,_,rfl,x,C,dx,_,rfl,ae,g.cl,g.nK,(by show 1<1000;decide),?_⟩;refine⟨_,rfl,_,rfl,x,C,dx,_,rfl,ae,g.cl,g.nN,(by show 2<1000;decide),?_⟩;refine⟨_,rfl,_,rfl,x,C,dx,_,rfl,ae,g.cl,g.nT,(by show 3<1000;decide),?_⟩;refine k _ (λy u i e=>?_) ae;rw[ak i,ak i,ak i,ak i];exact e
noncomputable abbrev DN:List Str:=["row","bare","halves","words","told","word","pair"]
theorem dY:aw DN ["row"] (aj ka):=cD
inductive qxE(row bare:Str)(t l d q:B3)(H2:Hp)(kvs:List (Str×Str))(i:Nat)(σ:St)(G:Hp):Prop|mk(L S:_)(_:σ=[some (.str row),some (.str bare),some (.ref t),some (.ref l),some (.ref d),L,S])(_:af H2 G)(_:Told G d (putAll bu (kvs.take i)))(_:G q=some (.lst ((kvs.map gC).map V.str)))(_:(putAll bu (kvs.take i)).length<=16+i)
theorem vD{C1:B3}{ti:Tok}(U:Hv P w K mg aP ti)(F:aZ K "row_read" "row_read" ka f fd)(N:aO mg)(G1:av P w K mg base aK 1 f1 d1 Zz (k_ K C1))(b1:Binds K d1 Zz [])(m1:mg "TextRow"=some (.ref C1))(M1:Mk K C1 f1):av P w K mg base aK 3 f fd ["row"] (A6 C1):=by
 refine F.cI dY λcdv A outer s H vs Q E hr h=>?_
 ·obtain⟨row,dep,kd,nm,kvs,tx,e,hR,k⟩:=h;subst e;have T:=hr.mono (j:=2) (by decide)
  have hu:(A.deeper (NB "row_read" (aj ka) s.heap.objs.size f cdv)).units+1<OX:=by have :=hr.units;lia
  refine⟨_,ah (aB (i:=1) dY.nd rfl (Ki rfl) (cw Nu PySem.F.slot_str_lstrip PySem.F.type_str_lstrip yZ (pv 0) (aa ar ab)))
   (ah (aB (i:=2) dY.nd rfl (Ki rfl) (cw Nu SS SR kx (pv 1) (aa ar ab)))
   (ah (aB (i:=3) dY.nd rfl (Ki rfl) (cw Nu O7 O6 gh (ay ax (pv 2) ag (λ_ _=>rfl)) (aa ar ab)))
   (ah (aR (aA Gk (aH bq (by rfl) N.len NI (aa (pv 3) ab)) ag (aF _)) (ai e_) az)
   (ah (aB (i:=4) dY.nd rfl (Ki rfl) (aQ (xo U.dP (by decide)) (by rfl) N.dict PyProof.Rows.boot_dict (aa (aU (v:= .ref aP) (by rfl) U.mP rfl) ab)))
   (ah (cx Np rfl (dr (eD sf (pv 3) (fF ag) fE)) (aV (i:=5) dY.nd rfl (Ki rfl))
    (ah (aB (i:=6) dY.nd rfl (Ki rfl) (cw Nu SS SR kx (pv 5) (aa ar ab)))
    (ai (jT hu (pv 4) (ay ax (pv 6) ag (λ_ _=>rfl)) (ay ax (pv 6) ag (λ_ _=>rfl)) rfl))))
   (ah (jT hu (pv 4) ar (ay ax (pv 2) ag (λ_ _=>rfl)) rfl)
   (ai (au (ET M1 G1 T (by rfl) m1 b1 .nil GV (aa (aJ sk (aJ fU (aH cO (by rfl) N.len NI (aa (pv 0) ab)) (aH cO (by rfl) N.len NI (aa (pv 1) ab))) (aH cO (by rfl) N.len NI (aa (aU (v:= .str "  ") (by rfl) U.mI ⟨_,rfl⟩) ab))) (aa (ay bB (pv 3) ag (λ_ _=>rfl)) (aa (ay bB (pv 3) ag (λ_ _=>rfl)) (aa (pv 4) ab))))))))))))),?_⟩
  try rw[bO]
  obtain⟨a5,a0,⟨h0,mm,hp,a6,X⟩,o,W⟩:=hR;generalize hb:eZ row " "=bare at *
  have a7:bare.length<=10000:=by lia
  refine aq λm b=>?_;refine⟨_,rfl,rfl,_,_,rfl,rfl,by rw[hb];exact aG cP,?_⟩;rw[hb];refine b _ _ (aq λm b=>?_);refine⟨_,rfl,rfl,_,_,rfl,rfl,by decide +kernel,aG cP,λt ht=>?_⟩;rw[hp];generalize g:upd H t _=H1
  have s1:af H H1:=by rw[<-g];exact af.put (af.refl _) ht
  have h1:H1 t=some (.tup ([h0,mm,tx].map V.str)):=by rw[<-g];exact ae
  clear g;refine b _ _ (aq λm b=>?_);refine⟨_,rfl,t,_,_,_,rfl,rfl,ba.of h1,aN (j:=0) rfl,rfl,_,_,rfl,rfl,by decide +kernel,aG (by lia),λl hl=>?_⟩;rw[X];generalize g:upd H1 l _=H2
  have s2:af H1 H2:=by rw[<-g];exact af.put (af.refl _) hl
  have h2:H2 l=some (.lst ((kd::nm::kvs.map gC).map V.str)):=by rw[<-g];exact ae
  clear g;refine b _ _ ?_;clear b m;have a4:=s2 _ _ h1;refine aq λm b=>?_;refine⟨_,rfl,l,_,rfl,.inl (bf.of h2),_,_,rfl,rfl,_,rfl,br (decide_eq_false (by rw[be,FB,FB];lia)) ?_⟩;refine b _ _ (aq λm b=>?_);refine⟨rfl,λd hd=>?_⟩;generalize g:upd H2 d _=H3
  have s3:af H2 H3:=by rw[<-g];exact af.put (af.refl _) hd
  have h3:H3 d=some (.dK (bu.map tm)):=by rw[<-g];exact ae
  clear g;refine b _ _ ?_;clear b m;have a8:=s3;refine aq λm b=>?_;refine⟨_,rfl,_,rfl,l,_,rfl,bf.of (s3 _ _ h2),λq u=>?_⟩
  have r:hY ((kd::nm::kvs.map gC).map V.str) (some 2) none=(kvs.map gC).map V.str:=by
   unfold hY;rw[HT.jF,show(some 2:Option Int)=some ((2:Nat):Int)from rfl,HT.iQ,Qa (by rw[be,FB,FB];exact DY)];exact Oa (by rw[Ot];exact B2 _)
  rw[r];generalize g:upd H3 q _=H4
  have s4:af H3 H4:=by rw[<-g];exact af.put (af.refl _) u
  have h4:H4 q=some (.lst ((kvs.map gC).map V.str)):=by rw[<-g];exact ae
  clear g;have B:H2 d=none:=hd;have a1:q≠d:=B9 (aI h3 u);refine⟨q,rfl,⟨_,bf.of h4⟩,ki (K:=K) (a:=q) (xs:=(kvs.map gC).map V.str) (qxE row bare t l d q H2 kvs) ⟨_,_,rfl,af.trans s3 s4,s4 _ _ h3,h4,(by rw[List.take_zero];decide +kernel)⟩ (λi σ G _ a3=>by obtain⟨_,_,_,_,_,z,_⟩:=a3;exact bf.of z) ?_ ?_⟩
  ·rintro i x σ G hx ⟨L,S,rfl,I,M,n,J⟩;rw[NO,B7]at hx
   cases ep:kvs[i]? with
   |none=>rw[ep]at hx;cases hx
   |some p=>
    rw[ep]at hx
    cases hx
    obtain⟨q1,q2⟩:=o p (Do ep);have hi:=bw ep;refine aq λN2 y=>?_;refine⟨_,rfl,rfl,_,_,rfl,rfl,by decide +kernel,aG (by show(gC p).length<=100000;exact cP),λO Z=>?_⟩;have Y:parted (gC p) "="=[p.1,"=",p.2]:=uD (c:=61) (t:=[]) rfl q1;rw[show(V.str∘gC) p=V.str (gC p)from rfl]at *;rw[Y];generalize g:upd G O _=G1
    have g1:af G G1:=by rw[<-g];exact af.put (af.refl _) Z
    have qp:G1 O=some (.tup ([p.1,"=",p.2].map V.str)):=by rw[<-g];exact ae
    clear g;refine y _ _ ?_;clear y N2;refine⟨_,rfl,O,_,_,_,rfl,rfl,ba.of qp,aN (j:=2) rfl,_,rfl,_,rfl,O,_,_,_,rfl,rfl,ba.of qp,aN (j:=0) rfl,d,_,rfl,nv.k (k:= .inr p.1) (M.same g1) (small (by rw[be];lia)),?_⟩;rw[pW]
    have R:pj (putAll bu (kvs.take i)) p.1 p.2=putAll bu (kvs.take (i+1)):=by
     rw[Pd,ep];unfold putAll;rw[Sd];rfl
    rw[R];refine(show qxE _ _ _ _ _ _ _ _ _ _ _ from⟨_,_,rfl,af.put (af.trans I g1) B,ae,by rw[ak a1];exact g1 _ _ n,?_⟩);have :=DE (putAll bu (kvs.take i)) p.1 p.2;rw[R]at this
    lia
  ·rintro σ G ⟨L,S,rfl,I,M,n,J⟩;refine b _ _ ?_;clear b m;rw[be,be,O_]at M J;have a9:=I;have tG:=I _ _ a4;refine aq λm b=>?_;refine⟨_,rfl,t,_,_,_,rfl,rfl,ba.of tG,aN (j:=2) rfl,_,rfl,d,_,rfl,nv.k (k:= .inr "text") M (small (by rw[be];lia)),?_⟩;rw[pW]
   have R:pj (putAll bu kvs) "text" tx=putAll bu (kvs++[(("text":Str),tx)]):=by
    unfold putAll;rw[Sd];rfl
   rw[R];have C:af H2 (upd G d (.dK ((putAll bu (kvs++[(("text":Str),tx)])).map tm))):=af.put I B;have a2:Told (upd G d (.dK ((putAll bu (kvs++[(("text":Str),tx)])).map tm))) d (putAll bu (kvs++[(("text":Str),tx)])):=ae;generalize upd G d (.dK ((putAll bu (kvs++[(("text":Str),tx)])).map tm))=G2 at *;refine b _ _ ?_;clear b m;have l2:=C _ _ h2;have s0:af H G2:=af.trans s1 (af.trans s2 C)
   have D:((row.length:Int)-(bare.length:Int))/((("  ":Str).length:Nat):Int)=(dep:Int):=by
    rw[show(("  ":Str).length:Nat)=2 from rfl]
    lia
   refine⟨_,rfl,_,rfl,aG cP,_,rfl,_,rfl,aG cP,_,_,rfl,rfl,_,rfl,aG (by decide +kernel),_,_,rfl,rfl,⟨by decide +kernel,by decide +kernel⟩,_,rfl,l,_,_,_,rfl,rfl,bf.of l2,aN (j:=0) rfl,_,rfl,l,_,_,_,rfl,rfl,bf.of l2,aN (j:=1) rfl,_,rfl,?_⟩;exact AV λx dx H' hx s' hi=>k x d H' (af.trans s0 s') ⟨dx,by rw[<-D];exact hi⟩ (a2.same s')
end
section
open PySem.Spec PyProof.Rows
theorem nU{K:mo}{g1 g2:Nat->V}{σ:L2.St}(f:Nat->V)(r:bf K H a (as.map V.ref))(hn:as.length<sizeLine)(n:∀(i:Nat)(p:B3),as[i]? =some p->H p=some (.tup [g1 i,g2 i]))(he:∀(D:B3)(i:Nat)(l:List V)(k:VK),H D=none->i<as.length->k (f i) (upd H D (.lst l))->te (some (g1 i)::some (g2 i)::σ) (upd H D (.lst l)) k)(hd:∀D,H D=none->Q (.ref D) (upd H D (.lst ((Nz as.length).map f)))):
  fC (IS K a) H 2 σ (Je K) jE te Q:=by
 intro D h;refine⟨λi m H'=>m=as.length-i/\i<=as.length/\H'=upd H D (.lst ((Nz i).map f)),⟨as.length,by lia,Nl _,rfl⟩,?_⟩;rintro i m H' ⟨rfl,hi,rfl⟩
 have j:af H (upd H D (.lst ((Nz i).map f))):=λb o e=>by rw[ak (aI e h)];exact e
 have q:=j.seq r;by_cases c:i<as.length
 ·obtain⟨p,ep⟩:∃p,as[i]? =some p:=⟨_,B0 c⟩
  have d:(as.map V.ref)[i]? =some (V.ref p):=by rw[B7,ep];rfl
  refine .inr ⟨⟨as.map V.ref,_,q,d⟩,λx H2 ρ g y=>?_⟩;obtain⟨e,y⟩:=y;subst e;have hx:=(y _ q).symm.trans d
  cases hx
  match ρ,g with
  |[t,s],_=>
   refine⟨p,_,rfl,ba.of (j _ _ (n i p ep)),rfl,_,_,rfl,_,_,rfl,rfl,⟨[some (g1 i),some (g2 i)],rfl,rfl⟩,?_⟩;unfold jE;refine eY ?_;refine he D i _ _ h c ⟨_,ae,?_,as.length-(i+1),by lia,rfl,c,?_⟩
   ·rw[be,Oy];lia
   ·rw[FG,List.range_succ,Da];rfl
 ·have e:i=as.length:=by lia
  subst e;exact .inl ⟨⟨as.map V.ref,q,by rw[be];exact B2 _⟩,hd D h⟩
end
abbrev PS:Type:=List (Str×Str)
def MK(K:mo)(H:Hp)(a:B3)(p:D×PS):Prop:=∃(v:V)(da:B3),H a=some (.tup [v,.ref da])/\At K H v p.1/\Told H da p.2
def A_(K:mo)(H:Hp)(as:List B3)(pt:List (D×PS)):Prop:=as.length=pt.length/\∀(i:Nat)(a:B3)(p:D×PS),as[i]? =some a->pt[i]? =some p->MK K H a p
theorem A_.pick{K:mo}{pt:List (D×PS)}(h:A_ K H as pt):∃(g:Nat->V)(da:Nat->B3),∀(i:Nat)(a:B3)(p:D×PS),as[i]? =some a->pt[i]? =some p->H a=some (.tup [g i,.ref (da i)])/\At K H (g i) p.1/\Told H (da i) p.2:=by
 have z:∀i:Nat,∃y:V×B3,∀(a:B3)(p:D×PS),as[i]? =some a->pt[i]? =some p->H a=some (.tup [y.1,.ref y.2])/\At K H y.1 p.1/\Told H y.2 p.2:=λi=>by
  cases d:as[i]? with
  |none=>exact⟨(.non,0),λa p e=>nomatch e⟩
  |some a=>
   cases c:pt[i]? with
   |none=>exact⟨(.non,0),λa p _ e=>nomatch e⟩
   |some p=>
    obtain⟨v,da,h1,h2,j⟩:=h.2 i a p d c;exact⟨(v,da),λa' l e k=>by cases e;cases k;exact⟨h1,h2,j⟩⟩
 obtain⟨f,b⟩:=Classical.skolem.mp z;exact⟨λi=>(f i).1,λi=>(f i).2,b⟩
noncomputable def fq(kd nm:Str)(o:Own)(wh:aY)(ds:List D):D:= .tup [.str kd,.str nm,lO o,dy wh,.tup ds]
inductive Gg(K:mo)(C:B3)(vs:List V)(H:Hp)(Q:VK):Prop
 |mk (x l d:B3) (dep:Nat) (nm:Str) (ps:PS) (as:List B3) (pt:List (D×PS)) (o:Own) (wh:aY) (c0:vs=[.ref x,.ref l]) (c1:(Cp C H x dep wh.kd nm d/\Told H d ps/\H l=some (.lst (as.map V.ref))/\A_ K H as pt)) (c2:(as.length<=1000/\nm.length<=1000)) (c3:zw ps o) (c4:qk ps (pt.map (·.2)) wh) (c5:∀(v:V)(H':Hp),af H H'->At K H' v (fq wh.kd nm o wh (pt.map (·.1)))->Q v H')
def BM(K:mo)(C:B3):Sp:=λvs H Q _=>Gg K C vs H Q
theorem kd_len(wh:aY):wh.kd.length<=10:=by
 cases wh with
 |lined k g al sd=>
  match k with
  |0=>show("row":Str).length<=10;decide +kernel
  |1=>show("column":Str).length<=10;decide +kernel
  |k+2=>show("wrap":Str).length<=10;decide +kernel
 |leaf=>show("leaf":Str).length<=10;decide +kernel
 |table=>show("table":Str).length<=10;decide +kernel
 |words=>show("words":Str).length<=10;decide +kernel
 |flow=>show("flow":Str).length<=10;decide +kernel
 |over=>show("over":Str).length<=10;decide +kernel
section
variable{K:mo}
noncomputable abbrev ng:List Str:=["row","parts","what"]
theorem qD:aw ng ["row","parts"] (aj ig):=cD
theorem lD:(["box","told","row","parts","what"]:List Str).Nodup:=by decide +kernel
theorem wk(n:RowC K C)(F:aZ K "box_read" "box_read" ig f fd)(N:aO mg)(G1:av P w K mg base aK 3 f1 d1 ["told"] (BO K))(J1:Cq K mg d1 f1 ["told"] "own_read")(G2:av P w K mg base aK 3 f2 d2 ZK (xU K))(J2:Cq K mg d2 f2 ZK "what_read"):av P w K mg base aK 4 f fd ["row","parts"] (BM K C):=by
 refine F.cI qD λcdv A outer s H vs Q E hr h=>?_
 ·obtain⟨x,l,d,dep,nm,ps,as,pt,o,wh,e,⟨⟨dx,hx⟩,U,hl,I⟩,⟨hn,a0⟩,hO,hW,k⟩:=h;subst e;have M:=hr.mono (j:=3) (by decide)
  refine⟨_,ah (aB (i:=2) qD.nd rfl (Ki rfl) (pq G2 M J2 (aa (gZ (pv 0) rfl) (aa (gZ (pv 0) rfl) (aa (ou (k:=2) (N':=["box","told","row","parts","what"]) (jk (fs:=aj ig) (N:=ng) rfl rfl (by decide +kernel)) rfl (dr (pv 1)) (λ_ _ _ _ _=>qS (K:=K) rfl rfl lD rfl rfl rfl rfl) (λ_ _ _ _ _=>bH) (λ_ _ _ _ _=>(pv 1))) ab)))))
   (ai (au (aT (aa (gZ (pv 0) rfl) (aa (gZ (pv 0) rfl) (aa (pq G1 M J1 (aa (gZ (pv 0) rfl) ab)) (aa (pv 2) (aa (aQ a_ (by rfl) N.tuple Ng (aa (ou (k:=2) (N':=["box","told","row","parts","what"]) (jk (fs:=aj ig) (N:=ng) rfl rfl (by decide +kernel)) rfl (dr (pv 1)) (λ_ _ _ _ _=>qS (K:=K) rfl rfl lD rfl rfl rfl rfl) (λ_ _ _ _ _=>bH) (λ_ _ _ _ _=>(pv 0))) ab)) ab)))))))),?_⟩
  try rw[bO]
  obtain⟨g,da,R⟩:=I.pick;have b:=I.1
  have J:∀(i:Nat)(p:B3),as[i]? =some p->H p=some (.tup [g i,.ref (da i)]):=λi p e=>by
   obtain⟨q,eq⟩:∃q,pt[i]? =some q:=⟨_,B0 (by rw[<-b];exact bw e)⟩;exact(R i p q e eq).1
  refine aq λX W=>?_;refine⟨_,rfl,x,C,dx,_,_,rfl,hx,n.cl,n.nK,rfl,_,rfl,x,C,dx,_,_,rfl,hx,n.cl,n.nT,rfl,_,rfl,l,rfl,⟨_,bf.of hl⟩,nU (g1:=g) (g2:=λi=> .ref (da i)) (λi=> .ref (da i)) (bf.of hl) (small cP) J (λD i ll Q' O hi q=>⟨_,rfl,q⟩) λD O=>?_⟩;generalize G:upd H D _=H1
  have s1:af H H1:=by rw[<-G];exact af.put (af.refl _) O
  have h1:H1 D=some (.lst ((Nz as.length).map λi=>V.ref (da i))):=by rw[<-G];exact ae
  clear G;refine⟨d,D,(Nz as.length).map da,ps,pt.map (·.2),wh,rfl,U.same s1,by rw[h1,NO];rfl,⟨by rw[be,Oy,be,b],λi a Y m c=>?_⟩,by rw[be,Oy];exact vY,hW,λv H2 s2 hv=>?_⟩
  ·rw[B7]at m c
   have hi:i<as.length:=by
    cases L:(Nz as.length)[i]? with
    |none=>rw[L]at m;cases m
    |some j=>have :=bw L;rw[Oy]at this;exact this
   rw[Uw hi]at m
   cases m
   cases z:pt[i]? with
   |none=>rw[z]at c;cases c
   |some q=>
    rw[z]at c
    cases c
    exact(R i _ q (B0 hi) z).2.2.same s1
  refine W _ _ ?_;clear W X;have r:=af.trans s1 s2;have y:=r _ _ hx;refine Ev.ret (H:=H2) (d:=fq wh.kd nm o wh (pt.map (·.1))) (gJ (bo ?_ (bo ?_ (bo ?_ (bo (wz rfl hv) (bo (iv (l:=pt.map (·.1)) ?_) eW))))) (by show 5<=100000;decide)) λv H' s' h'=>k v H' (af.trans r s') h'
  ·exactλH3 S u B=>⟨_,rfl,x,C,dx,_,_,rfl,u _ _ y,n.cl,n.nK,rfl,B _ H3 (af.refl _) (.str _ (aG (by have :=kd_len wh;exact cP)))⟩
  ·exactλH3 S u B=>⟨_,rfl,x,C,dx,_,_,rfl,u _ _ y,n.cl,n.nN,rfl,B _ H3 (af.refl _) (.str _ (aG cP))⟩
  ·exactλH3 S u B=>⟨_,rfl,x,C,dx,_,_,rfl,u _ _ y,n.cl,n.nT,rfl,d,ps,o,rfl,U.same (af.trans r u),hO,B⟩
  ·intro H3 S u B;have t:=af.trans r u;refine⟨_,rfl,l,rfl,⟨_,bf.of (t _ _ hl)⟩,nU (g1:=g) (g2:=λi=> .ref (da i)) g (bf.of (t _ _ hl)) (small cP) (λi p e=>t _ _ (J i p e)) (λD i ll Q' O hi q=>⟨_,rfl,q⟩) λD O=>?_⟩;generalize G:upd H3 D _=H4
   have T:af H3 H4:=by rw[<-G];exact af.put (af.refl _) O
   have Z:H4 D=some (.lst ((Nz as.length).map g)):=by rw[<-G];exact ae
   clear G;refine B D _ H4 T Z ⟨by rw[be,Oy,be,b],λi a dd m c=>?_⟩;rw[B7]at m c
   have hi:i<as.length:=by
    cases L:(Nz as.length)[i]? with
    |none=>rw[L]at m;cases m
    |some j=>have :=bw L;rw[Oy]at this;exact this
   rw[Uw hi]at m
   cases m
   cases z:pt[i]? with
   |none=>rw[z]at c;cases c
   |some q=>
    rw[z]at c
    cases c
    exact(R i _ q (B0 hi) z).2.1.same (af.trans t T)
end
inductive Jo(vs:List V)(H:Hp)(Q:VK):Prop
 |mk (a:B3) (bd:cK) (ts:List B3) (c0:vs=[.ref a]) (c1:Fo.jb H a bd ts) (c2:Q (.int bd.own.al) H)
def Kh:Sp:=λvs H Q _=>Jo vs H Q
def JH(v u:V)(H:Hp):Prop:=∃(a:B3)(bd:cK)(ts:List B3),v= .ref a/\u= .bl false/\Fo.jb H a bd ts/\Ef bd.wh.kd
inductive Lc(K:mo)(vs:List V)(H:Hp)(Q:VK):Prop
 |mk (a:B3) (bd:cK) (ts:List B3) (dep:Int) (it:Bool) (dN:B3) (aX:List Str) (ds:List D) (c0:vs=[.ref a,.int dep,.bl it,.ref dN]) (c1:ED (.ref a) H) (c2:Fo.jb H a bd ts) (c3:At K H (.ref a) (fq bd.wh.kd bd.nm bd.own bd.wh ds)) (c4:(0<bd.own.al->it=false/\Ef bd.wh.kd)) (c5:Vw bd.wh ts.length) (c6:dep<=8) (c7:H dN=some (.dK (sy aX))) (c8:bd.nm∉aX) (c9:aX.length<60) (c10:∀H',af H H'->Q (.bl false) H')
def HJ(K:mo):Sp:=λvs H Q _=>Lc K vs H Q
section
variable{K:mo}
noncomputable abbrev E8:List Str:=Zb
theorem CP:aw E8 Zb (aj oK):=cD
theorem AE(F:aZ K "alike_of" "alike_of" oK f fd)(N:aO mg)(G1:av P w K mg base aK 1 f1 d1 Zb (B11P.di 2))(c:Cq K mg d1 f1 Zb "own_of"):av P w K mg base aK 2 f fd Zb Kh:=by
 refine F.cI CP λcdv A outer s H vs Q E i h=>?_
 ·obtain⟨a,bd,ts,e,d,k⟩:=h;subst e;have b:=i.mono (j:=1) (by decide);refine⟨_,ai (au (ay ax (pq G1 b c (aa (pv 0) ab)) ag (λ_ _=>rfl))),?_⟩
  try rw[bO]
  obtain⟨o,q,p,ha,⟨u,t,g,_⟩,_⟩:=d;exact⟨_,rfl,a,_,_,rfl,ha,rfl,o,_,_,_,rfl,rfl,ba.of g,rfl,k⟩
noncomputable abbrev Kt:List Str:=ZA
theorem Jc:aw Kt ZA (aj ij):=cD
theorem EM(c:lZ K mg tk ad)(F:aZ K "may_be_alike" "may_be_alike" ij f fd)(N:aO mg)(G1:av P w K mg base aK 1 f1 d1 Zb (B11P.di 0))(d:Cq K mg d1 f1 Zb "kind_of"):av P w K mg base aK 2 f fd ZA (df JH):=by
 refine F.cI Jc λcdv A outer s H vs Q E l h=>?_
 ·obtain⟨v,u,e,g,k⟩:=h;subst e;have b:=l.mono (j:=1) (by decide);refine⟨_,ai (au (bj (bZ (r:=tY K false) cf (pq G1 b d (aa (pv 0) ab)) (aU (v:= .ref (ad 4)) (by rfl) c.tALIKE_KINDS rfl) (by rfl)) (bQ (Bg (pv 1))))),?_⟩
  try rw[bO]
  obtain⟨a,bd,ts,rfl,rfl,⟨o,q,p,ha,_⟩,i⟩:=g;exact y_ret (bM (FA (ws:=["leaf","row","column","wrap"]) (by simpa[Ef]using i) (w_ (v_var rfl) ha rfl) d_ c.sALIKE_KINDS) (λH1 n s1 m=>⟨_,rfl,_,rfl,m H1 (af.refl _)⟩)) (af.refl _) k
noncomputable abbrev EY:List Str:=Zi
theorem DP:aw EY Zi (aj jy):=cD
theorem yS(J:lZ K mg tk ad)(F:aZ K "is_amiss" "is_amiss" jy f fd)(N:aO mg)(G1:av P w K mg base aK 7 f1 d1 Za (cL ED))(J1:Cq K mg d1 f1 Za "is_box")(G2:av P w K mg base aK 1 f2 d2 Zb (B11P.di 1))(J2:Cq K mg d2 f2 Zb "name_of")(G3:av P w K mg base aK 2 f3 d3 Zb Kh)(J3:Cq K mg d3 f3 Zb "alike_of")(G4:av P w K mg base aK 2 f4 d4 ZA (df JH))(J4:Cq K mg d4 f4 ZA "may_be_alike")(G5:av P w K mg base aK 1 f5 d5 Zb (B11P.di 0))(J5:Cq K mg d5 f5 Zb "kind_of")(G6:av P w K mg base aK 5 f6 d6 Zb (pT K))(J6:Cq K mg d6 f6 Zb "table_rows"):av P w K mg base aK 8 f fd Zi (HJ K):=by
 refine F.cI DP λcdv A outer s H vs Q E x h=>?_
 ·obtain⟨a,bd,ts,dep,it,dN,aX,ds,e,cb,S,ht,T,vw,hd,g,hn,hl,k⟩:=h;subst e;have y:=x.mono (j:=1) (by decide);have m:=x.mono (j:=2) (by decide);have Z:=x.mono (j:=5) (by decide);have U:=x.mono (j:=7) (by decide)
  have hu:(A.deeper (NB "is_amiss" (aj jy) s.heap.objs.size f cdv)).units+1<OX:=by have :=x.units;lia
  refine⟨_,ah (aR (cX (bJ (pq G1 U J1 (aa (pv 0) ab)))) (ai (au cQ)) az)
   (ah (aR (mU (xu (xp hu (pq G2 y J2 (aa (pv 0) ab)) (pv 3))) (mU (aA JT (aH zd (by rfl) N.len NI (aa (pv 3) ab)) (aU (v:= .int 60) (by rfl) J.cBOXES_MOST ⟨_,rfl⟩) (aF _)) (lq (aA lG (pv 1) (aU (v:= .int 8) (by rfl) J.cDEEPEST ⟨_,rfl⟩) (aF _))))).pt (ai (au cQ)) az)
   (ah (aR (cM (aA lG (pq G3 m J3 (aa (pv 0) ab)) ag (aF _)) (cA (cX (bJ (pq G4 m J4 (aa (pv 0) (aa (pv 2) ab))))))).pt (ai (au cQ)) az)
   (ai (au (bj (bZ bE (pq G5 y J5 (aa (pv 0) ab)) ar (aF _)) (bQ (bZ lG (pq G6 Z J6 (aa (pv 0) ab)) (aU (v:= .int 60) (by rfl) J.cTABLE_ROWS ⟨_,rfl⟩) (aF _)))))))),?_⟩
  try rw[bO]
  have Y:=S;obtain⟨o,q,p,ha,ho,B,i⟩:=Y
  have R:∀H1,af H H1->ED (.ref a) H1:=λH1 s=>by
   obtain⟨a',bd',O,e,I,r⟩:=cb;exact⟨a',bd',O,e,I.keep (KT.same s),r⟩
  refine aq λt g=>?_;refine(cF (lB (v_var rfl) R)) H _ (af.refl _) λH1 s1=>dh ?_;refine g _ _ ?_;clear g t;have X:=s1 _ _ ha;have u:=s1 _ _ g;refine aq λt g=>?_;refine⟨_,rfl,a,_,_,rfl,X,rfl,_,rfl,dN,_,rfl,.inl ⟨_,.inr bd.nm,.inl u,rfl,rfl⟩,?_⟩;rw[sr,decide_eq_false hn];refine⟨_,rfl,dh ?_⟩;refine⟨_,rfl,dN,_,rfl,.inl u,_,_,rfl,rfl,_,rfl,br (by rw[yj];exact decide_eq_false (by lia)) ?_⟩;refine⟨_,rfl,_,_,rfl,rfl,_,rfl,br (decide_eq_false (by lia)) ?_⟩;refine g _ _ (aq λt g=>?_)
  have rest:∀H2,af H1 H2->t [some (.ref a),some (.int dep),some (.bl it),some (.ref dN)] H2:=λH2 s2=>g _ _ (by
   have d:=af.trans s1 s2;refine⟨_,rfl,a,_,_,rfl,d _ _ ha,rfl,rfl,_,rfl,dM (λb=>?_) (λb=>k H2 d)⟩;have b:V.str bd.wh.kd=V.str "table":=of_decide_eq_true b
   injection b with b
   obtain⟨nm,own,wh⟩:=bd
   cases wh with
   |table c W sd sps=>
    obtain⟨h1,⟨h2,h3⟩,⟨h4,h5⟩,h6,h7,G⟩:=vw
    have e1:((c.toNat:Nat):Int)=c:=by lia
    have e2:(sps.map λp=>(p.1.toNat,p.2.toNat)).map dS=sps.map λp=>D.tup [.int p.1,.int p.2]:=by
     rw[NO];refine OL λp i=>?_;obtain⟨⟨q1,q2⟩,q3,b⟩:=G p i;show D.tup [.int ((p.1.toNat:Nat):Int),.int ((p.2.toNat:Nat):Int)]=_;rw[show((p.1.toNat:Nat):Int)=p.1 by lia,show((p.2.toNat:Nat):Int)=p.2 by lia]
    have C:At K H2 (.ref a) (.tup [.str "table",.str nm,lO own,.tup [.int ((c.toNat:Nat):Int),.int W,.str sd,.tup ((sps.map λp=>(p.1.toNat,p.2.toNat)).map dS)],.tup ds]):=by
     rw[e1,e2];exact ht.same d
    refine⟨_,rfl,.ref a,_,_,_,_,_,_,c.toNat,sps.map λp=>(p.1.toNat,p.2.toNat),rfl,C,⟨λsp L=>?_,by lia,by rw[be];lia⟩,λM H3 hM s3=>⟨_,_,rfl,rfl,?_⟩⟩
    ·obtain⟨p,i,rfl⟩:=List.mem_map.mp L;obtain⟨⟨q1,q2⟩,q3,b⟩:=G p i;dsimp only
     lia
    ·have n:∀{l:List (Nat×Nat)},(∀p∈l,p.2<=12)->vG l<=12*l.length:=λ{l}=>by
      induction l with
      |nil=>exactλ_=>B2 _
      |cons p l ih=>
       intro h;have ih:=ih λq B=>h q (De _ B);have h1:=h p B6;have e:vG (p::l)=p.2+vG l:=rfl;rw[e,FB]
       lia
     have hz:=n (l:=sps.map λp=>(p.1.toNat,p.2.toNat)) λq B=>by
      obtain⟨p,i,rfl⟩:=List.mem_map.mp B;obtain⟨⟨q1,q2⟩,q3,b⟩:=G p i;dsimp only
      lia
     rw[be]at hz;show Q (.bl (decide ((60:Int)<M))) H3;rw[decide_eq_false (show¬(60:Int)<M by lia)];exact k H3 (af.trans d s3)
   |lined k0 W al sd=>
    exfalso;have z:=CS k0 W al sd;rw[b]at z
    revert z
    decide +kernel
   |leaf=>exact absurd b (by show¬("leaf":Str)="table";decide +kernel)
   |words=>exact absurd b (by show¬("words":Str)="table";decide +kernel)
   |flow=>exact absurd b (by show¬("flow":Str)="table";decide +kernel)
   |over=>exact absurd b (by show¬("over":Str)="table";decide +kernel))
  refine⟨_,rfl,a,bd,ts,rfl,S.keep (KT.same s1),_,_,rfl,rfl,_,rfl,dM (λq5=>?_) (λq5=>dh (rest H1 (af.refl _)))⟩;obtain⟨rfl,hk⟩:=T (of_decide_eq_true q5);exact(cF (oi (v_var rfl) (v_var rfl) λ_ z=>⟨a,bd,ts,rfl,rfl,(S.keep (KT.same s1)).keep (KT.same z),hk⟩)) H1 _ (af.refl _) λH2 s2=>dh (rest H2 s2)
end
structure gX where
 dep:Nat
 nm:Str
 own:Own
 wh:aY
 ps:PS
abbrev WT:Type:=List (Nat×List (D×PS))
noncomputable def kids(W:WT)(n:Nat):List (D×PS):=((W.find? λp=>decide (p.1=n)).map (·.2)).getD []
noncomputable def mz(W:WT)(n:Nat):WT:=W.filter λp=>decide (p.1≠n)
noncomputable def addW(W:WT)(n:Nat)(x:D×PS):WT:=if(W.any λp=>decide (p.1=n))=true then W.map (λp=>if p.1=n then(p.1,p.2++[x])else p)else W++[(n,[x])]
noncomputable def kT(r:gX)(ch:List (D×PS)):D×PS:=(fq r.wh.kd r.nm r.own r.wh (ch.map (·.1)),r.ps)
noncomputable def qg(W:WT)(r:gX):WT:=addW (mz W (r.dep+1)) r.dep (kT r (kids W (r.dep+1)).reverse)
structure Ka(W:WT)(r:gX):Prop where
 own:zw r.ps r.own
 what:qk r.ps ((kids W (r.dep+1)).reverse.map (·.2)) r.wh
 nm:r.nm.length<=1000
inductive Run:WT->List gX->WT->Prop
 |nil (W:WT):Run W [] W
 |cons {W:WT} {r:gX} {rs:List gX} {W':WT} (h:Ka W r) (t:Run (qg W r) rs W'):Run W (r::rs) W'
variable{W:WT}{da dw:B3}{n h:Nat}{Qc:VK}{R:List Nat}{ps:PS}{d:cK}{eh wh:aY}{q:Str×Str}{o:Own}{pts:List PS}{cs F G:Fo}{tb:Bool}
theorem Run.done{W':WT}(h:Run W [] W'):W=W':=by
 cases h
 rfl
def KA(K:mo)(H H':Hp):Prop:=(∀(a:B3)(xs:List V),H a=some (.tup xs)->H' a=some (.tup xs))/\∀(v:V)(d:D),At K H v d->At K H' v d
theorem KA.refl{K:mo}(H:Hp):KA K H H:=⟨λ_ _ e=>e,λ_ _ h=>h⟩
theorem KA.trans{K:mo}{H1 H2:Hp}(a:KA K H H1)(b:KA K H1 H2):KA K H H2:=⟨λx xs e=>b.1 x xs (a.1 x xs e),λv d h=>b.2 v d (a.2 v d h)⟩
theorem KA.same{K:mo}{H H':Hp}(s:af H H'):KA K H H':=⟨λ_ _ e=>s _ _ e,λ_ _ h=>h.same s⟩
theorem KA.lst{K:mo}{H:Hp}{l:B3}{xs ys:List V}(h:H l=some (.lst xs)):KA K H (upd H l (.lst ys)):=⟨λa zs e=>by rw[ak (λz=>by rw[z,h]at e;cases e)];exact e,λv d b=>b.LP Kp.store h ae⟩
theorem At.MW{K:mo}{dN:B3}{o:List (Key×V)}(k:Kp dN H H')(a:H dN=some (.dK o)){d:D}(h:At K H v d):At K H' v d:=by
 induction h with
 |non=>exact .non
 |bl b=>exact .bl b
 |int i=>exact .int i
 |str x hx=>exact .str x hx
 |tup h hl _ c=>exact .tup (k _ _ (λz=>by rw[z,a]at h;cases h) h) hl c
 |oth h=>exact .oth (k _ _ (λz=>by rw[z,a]at h;cases h) h)
theorem KA.dict{K:mo}{xs:List (Key×V)}{o:HO}(h:H l=some (.dK xs)):KA K H (upd H l o):=⟨λa zs e=>by rw[ak (λz=>by rw[z,h]at e;cases e)];exact e,λv d b=>At.MW Kp.store h b⟩
structure Wt where
 dep:Nat
 l:B3
 as:List B3
 pt:List (D×PS)
noncomputable def gU(t:Wt):Key×V:=(N_ (t.dep:Int),.ref t.l)
noncomputable def cg(T:List Wt):WT:=T.map λt=>(t.dep,t.pt)
def PQ(K:mo)(H0 H:Hp)(as:List B3)(pt:List (D×PS)):Prop:=as.length=pt.length/\∀(i:Nat)(a:B3)(p:D×PS),as[i]? =some a->pt[i]? =some p->∃(v:V)(da:B3),H a=some (.tup [v,.ref da])/\At K H v p.1/\Told H0 da p.2
theorem PQ.keep{K:mo}{pt:List (D×PS)}(h:PQ K H0 H as pt)(k:KA K H H'):PQ K H0 H' as pt:=⟨h.1,λi a p b d=>by
 obtain⟨v,da,h1,h2,c⟩:=h.2 i a p b d
 exact⟨v,da,k.1 _ _ h1,k.2 _ _ h2,c⟩⟩
theorem PQ.nil{K:mo}:PQ K H0 H [] []:=⟨rfl,λi a p e=>nomatch e⟩
theorem PQ.snoc{K:mo}{pt:List (D×PS)}{p:D×PS}(h:PQ K H0 H as pt)(h1:H a=some (.tup [v,.ref da]))(h2:At K H v p.1)(f:Told H0 da p.2):PQ K H0 H (as++[a]) (pt++[p]):=by
 refine⟨by rw[B1,B1,h.1];rfl,λj b q d e=>?_⟩;by_cases c:j<as.length
 ·rw[KF c]at d;rw[KF (by rw[<-h.1];exact c)]at e;exact h.2 j b q d e
 ·rw[GM (by lia)]at d;rw[GM (by rw[<-h.1];lia),<-h.1]at e
  have g:j-as.length=0:=by
   have :=bw d;simp at this;exact vY
  rw[g]at d e
  cases d
  cases e
  exact⟨v,da,h1,h2,f⟩
theorem PQ.rev{K:mo}{pt:List (D×PS)}(h:PQ K H0 H as pt)(s:af H0 H):A_ K H as.reverse pt.reverse:=by
 refine⟨by rw[NZ,NZ,h.1],λj b q a c=>?_⟩
 have d:j<as.length:=by have :=bw a;rw[NZ]at this;exact this
 rw[Pg d]at a;rw[Pg (by rw[<-h.1];exact d),<-h.1]at c;obtain⟨v,da,h1,h2,e⟩:=h.2 _ b q a c;exact⟨v,da,h1,h2,e.same s⟩
structure sT(K:mo)(H0 H:Hp)(dw:B3)(T:List Wt):Prop where
 dict:H dw=some (.dK (T.map gU))
 lst:∀t∈T,H t.l=some (.lst (t.as.map V.ref))/\PQ K H0 H t.as t.pt/\H0 t.l=none
 ndl:∀t∈T,∀u∈T,t.l=u.l->t=u
 ndd:∀t∈T,∀u∈T,t.dep=u.dep->t=u
theorem sT.same{K:mo}{H0 H H':Hp}{dw:B3}{T:List Wt}(h:sT K H0 H dw T)(s:af H H'):sT K H0 H' dw T:=⟨s _ _ h.dict,λt d=>let⟨a,b,c⟩:=h.lst t d;⟨s _ _ a,b.keep (KA.same s),c⟩,h.ndl,h.ndd⟩
theorem rp{a b:Nat}:(N_ (a:Int):Key)=N_ (b:Int)↔a=b:=⟨λe=>by have :=Sum.inl.inj e;lia,λe=>by rw[e]⟩
variable{T:List Wt}
theorem jM(h:∀t∈T,∀u∈T,t.dep=u.dep->t=u){t:Wt}(a:t∈T):cv (T.map gU) (N_ (t.dep:Int):Key)=some (.ref t.l)/\kids (cg T) t.dep=t.pt/\((cg T).any λp=>decide (p.1=t.dep))=true:=by
 have f1:T.find? (λu=>decide (u.dep=t.dep))=some t:=by
  cases e:T.find? (λu=>decide (u.dep=t.dep))with
  |none=>exact absurd (decide_eq_true rfl) (by have :=List.find?_eq_none.mp e t a;exact this)
  |some u=>rw[h u (QW e) t a (of_decide_eq_true (List.find?_some (p:=λu:Wt=>decide (u.dep=t.dep)) e))]
 refine⟨?_,?_,?_⟩
 ·unfold cv;rw[RL]
  have :((λb:Key×V=>decide (b.1=N_ (t.dep:Int)))∘gU)=λu:Wt=>decide (u.dep=t.dep):=by
   funext u
   exact decide_eq_decide.mpr rp
  rw[this,f1];rfl
 ·unfold kids cg;rw[RL];have :((λp:Nat×List (D×PS)=>decide (p.1=t.dep))∘λu:Wt=>(u.dep,u.pt))=λu:Wt=>decide (u.dep=t.dep):=rfl;rw[this,f1];rfl
 ·unfold cg;rw[Se,Vk];exact⟨t,a,decide_eq_true rfl⟩
theorem fX(h:∀t∈T,t.dep≠n):cv (T.map gU) (N_ (n:Int):Key)=none/\kids (cg T) n=[]/\((cg T).any λp=>decide (p.1=n))=false:=by
 have f1:T.find? (λu=>decide (u.dep=n))=none:=List.find?_eq_none.mpr λu a e=>h u a (of_decide_eq_true e);refine⟨?_,?_,?_⟩
 ·unfold cv;rw[RL]
  have :((λb:Key×V=>decide (b.1=N_ (n:Int)))∘gU)=λu:Wt=>decide (u.dep=n):=by
   funext u
   exact decide_eq_decide.mpr rp
  rw[this,f1];rfl
 ·unfold kids cg;rw[RL];have :((λp:Nat×List (D×PS)=>decide (p.1=n))∘λu:Wt=>(u.dep,u.pt))=λu:Wt=>decide (u.dep=n):=rfl;rw[this,f1];rfl
 ·unfold cg;rw[Se,Sf];exactλu a e=>h u a (of_decide_eq_true e)
theorem uU(T:List Wt)(n:Nat):kz (T.map gU) (N_ (n:Int):Key)=(T.filter λt=>decide (t.dep≠n)).map gU/\mz (cg T) n=cg (T.filter λt=>decide (t.dep≠n)):=by
 refine⟨?_,?_⟩
 ·unfold kz;rw[List.filter_map]
  congr 2
  funext u
  exact decide_eq_decide.mpr (not_congr rp)
 ·unfold mz cg;rw[List.filter_map];rfl
theorem there(T:List Wt)(n:Nat):(∃t∈T,t.dep=n)∨∀t∈T,t.dep≠n:=by
 by_cases h:∃t∈T,t.dep=n
 ·exact .inl h
 ·exact .inr λt a e=>h ⟨t,a,e⟩
theorem sT.drop{K:mo}(h:sT K H0 H dw T)(n:Nat):sT K H0 (upd H dw (.dK (kz (T.map gU) (N_ (n:Int):Key)))) dw (T.filter λt=>decide (t.dep≠n)):=by
 refine⟨by rw[ae,(uU T n).1],λt d=>?_,λt d u e=>h.ndl t (List.mem_filter.mp d).1 u (List.mem_filter.mp e).1,λt d u e=>h.ndd t (List.mem_filter.mp d).1 u (List.mem_filter.mp e).1⟩;obtain⟨a,b,c⟩:=h.lst t (List.mem_filter.mp d).1;exact⟨by rw[ak (λz=>by rw[z,h.dict]at a;cases a)];exact a,b.keep (KA.dict h.dict),c⟩
theorem sT.put{K:mo}(h:sT K H0 H dw T)(hn:∀t∈T,t.dep≠n)(hl:H l=some (.lst []))(h0:H0 l=none)(g:∀t∈T,t.l≠l):sT K H0 (upd H dw (.dK (putK (T.map gU) (N_ (n:Int):Key) (.ref l)))) dw (T++[⟨n,l,[],[]⟩]):=by
 refine⟨by rw[ae,ku _ (fX hn).1,Da];rfl,λt d=>?_,λt d u f e=>?_,λt d u f e=>?_⟩
 ·rcases List.mem_append.mp d with z|z
  ·obtain⟨a,b,c⟩:=h.lst t z;exact⟨by rw[ak (λz=>by rw[z,h.dict]at a;cases a)];exact a,b.keep (KA.dict h.dict),c⟩
  ·rw[List.mem_singleton.mp z];exact⟨by rw[ak (λz=>by have z':l=dw:=z;rw[z',h.dict]at hl;cases hl)];exact hl,PQ.nil,h0⟩
 ·rcases List.mem_append.mp d with z|z<;>rcases List.mem_append.mp f with y|y
  ·exact h.ndl t z u y e
  ·rw[List.mem_singleton.mp y]at e;exact absurd e (g t z)
  ·rw[List.mem_singleton.mp z]at e;exact absurd e.symm (g u y)
  ·rw[List.mem_singleton.mp z,List.mem_singleton.mp y]
 ·rcases List.mem_append.mp d with z|z<;>rcases List.mem_append.mp f with y|y
  ·exact h.ndd t z u y e
  ·rw[List.mem_singleton.mp y]at e;exact absurd e (hn t z)
  ·rw[List.mem_singleton.mp z]at e;exact absurd e.symm (hn u y)
  ·rw[List.mem_singleton.mp z,List.mem_singleton.mp y]
noncomputable def ji(n:Nat)(a:B3)(x:D×PS)(t:Wt):Wt:=if t.dep=n then⟨t.dep,t.l,t.as++[a],t.pt++[x]⟩else t
theorem Ca{x:Nat×List (D×PS)}(h:cg T=[x]):∃t,T=[t]:=by
 match T,h with
 |[t],_=>exact⟨t,rfl⟩
theorem Hf{l:List B3}(h:l.length=1):∃a,l=[a]:=by
 match l,h with
 |[a],_=>exact⟨a,rfl⟩
theorem gf(n:Nat)(a:B3)(x:D×PS)(t:Wt):(ji n a x t).dep=t.dep/\(ji n a x t).l=t.l:=by
 unfold ji
 split<;>exact⟨rfl,rfl⟩
theorem EI(n:Nat)(a:B3)(x:D×PS)(t:Wt):(ji n a x t).as.length<=t.as.length+1:=by
 unfold ji
 split
 ·rw[B1];exact B2 _
 ·exact Ln
theorem sT.add{K:mo}{j:B3}(h:sT K H0 H dw T){t:Wt}(n:t∈T){x:D×PS}(h1:H j=some (.tup [v,.ref da]))(h2:At K H v x.1)(r:Told H0 da x.2):sT K H0 (upd H t.l (.lst (t.as.map V.ref++[.ref j]))) dw (T.map (ji t.dep j x)):=by
 obtain⟨a,b,c⟩:=h.lst t n;have k:KA K H (upd H t.l (.lst (t.as.map V.ref++[.ref j]))):=KA.lst a;refine⟨?_,λu i=>?_,λu i w m e=>?_,λu i w m e=>?_⟩
 ·rw[ak (λz=>by rw[<-z,h.dict]at a;cases a),h.dict,NO]
  congr 2
  refine OL λu _=>?_;show gU u=gU (ji t.dep j x u);unfold gU;rw[(gf _ _ _ _).1,(gf _ _ _ _).2]
 ·obtain⟨f,d,rfl⟩:=List.mem_map.mp i;obtain⟨p,o,c0⟩:=h.lst f d;unfold ji;by_cases e:f.dep=t.dep
  ·rw[if_pos e];have q:=h.ndd f d t n e;subst q;exact⟨by rw[ae,Da];rfl,(o.keep k).snoc (k.1 _ _ h1) (k.2 _ _ h2) r,c0⟩
  ·rw[if_neg e];have s:f.l≠t.l:=λz=>e (by rw[h.ndl f d t n z]);exact⟨by rw[ak s];exact p,o.keep k,c0⟩
 ·obtain⟨f,d,rfl⟩:=List.mem_map.mp i;obtain⟨w0,g,rfl⟩:=List.mem_map.mp m;rw[(gf _ _ _ _).2,(gf _ _ _ _).2]at e;rw[h.ndl f d w0 g e]
 ·obtain⟨f,d,rfl⟩:=List.mem_map.mp i;obtain⟨w0,g,rfl⟩:=List.mem_map.mp m;rw[(gf _ _ _ _).1,(gf _ _ _ _).1]at e;rw[h.ndd f d w0 g e]
theorem sF(T:List Wt)(n:Nat)(a:B3)(x:D×PS):cg (T.map (ji n a x))=(cg T).map λp=>if p.1=n then(p.1,p.2++[x])else p:=by
 unfold cg;rw[NO,NO];refine OL λt _=>?_
 show((ji n a x t).dep,(ji n a x t).pt)=if t.dep=n then(t.dep,t.pt++[x])else(t.dep,t.pt)
 unfold ji
 split<;>rfl
theorem Bw(T:List Wt)(n:Nat)(l b:B3)(x:D×PS)(h:∀t∈T,t.dep≠n):cg ((T++[(⟨n,l,[],[]⟩:Wt)]).map (ji n b x))=cg T++[(n,[x])]:=by
 rw[sF];unfold cg;rw[Da,Da]
 congr 1
 ·rw[NO];refine OL λt a=>?_;exact if_neg (h t a)
 ·show[if n=n then(n,[]++[x])else(n,[])]=_;rw[if_pos rfl];rfl
theorem IT{K:mo}{G:Hp}{p:B3}(f:sT K H G dw T)(s:af H G)(h0:H dw=none)(o:G p=some (.lst []))(g:T.length<=i)(e:∀t∈T,t.as.length<=i)(r:∀(pl:B3)(d:List B3)(G2:Hp)(j:List Wt),G2 pl=some (.lst (d.map V.ref))->d.length<=i->PQ K H G2 d (kids (cg T) n)->af H G2->sT K H G2 dw j->cg j=mz (cg T) n->j.length<=i->(∀t∈j,t.as.length<=i)->Qc (.ref pl) G2):
  (∃v,cv (T.map gU) (N_ ((n:Nat):Int):Key)=some v/\Qc v (upd G dw (.dK (kz (T.map gU) (N_ ((n:Nat):Int):Key)))))∨(cv (T.map gU) (N_ ((n:Nat):Int):Key)=none/\Qc (.ref p) G):=by
 have q:=(uU T n).2
 rcases there T n with⟨t,h,x⟩|hno
 ·obtain⟨k,m,_⟩:=jM f.ndd h;rw[x]at k m;obtain⟨a,b,c⟩:=f.lst t h;refine .inl ⟨_,k,r t.l t.as _ _ ?_ (e t h) ?_ (af.put s h0) (f.drop n) q.symm (NW (PP _ _) g) λu w=>e u (List.mem_filter.mp w).1⟩
  ·rw[ak (λz=>by rw[z,f.dict]at a;cases a)];exact a
  ·rw[m];exact b.keep (KA.dict f.dict)
 ·obtain⟨k,m,_⟩:=fX hno;have y:T.filter (λt=>decide (t.dep≠n))=T:=List.filter_eq_self.mpr λt h=>decide_eq_true (hno t h);refine .inr ⟨k,r p [] G T o (Nl _) (by rw[m];exact PQ.nil) s f (by rw[q,y]) g e⟩
theorem FR{K:mo}{G:Hp}{a:B3}(h:sT K H G dw T)(s:af H G)(h0:H dw=none)(p:H a=none)(hp1:G a=some (.lst []))(w:∀t∈T,t.l≠a)(hi:i<=1000)(c:T.length<=i)(d:∀t∈T,t.as.length<=i)(v:∀(g:Hp)(f:List Wt)(t:Wt),t∈f->t.dep=n->af H g->(∀b o,b≠dw->G b=some o->g b=some o)->KA K G g->sT K H g dw f->(∀m y,cg (f.map (ji n m y))=addW (cg T) n y)->f.length<=i+1->(∀u∈f,u.as.length<=i)->Qc (.ref t.l) g):
  Gm (.ref dw) [.int ((n:Nat):Int),.ref a] G Qc:=by
 refine⟨dw,_,N_ ((n:Nat):Int),.ref a,rfl,rfl,h.dict,small (by rw[be];lia),?_⟩
 rcases there T n with⟨t,r,q⟩|hno
 ·obtain⟨k,_,j⟩:=jM h.ndd r;rw[q]at k j;refine .inl ⟨_,k,v G T t r q s (λ_ _ _ e=>e) (KA.refl _) h (λm y=>?_) (UY c) d⟩;unfold addW;rw[if_pos j,sF]
 ·obtain⟨k,_,j⟩:=fX hno;refine .inr ⟨k,v _ _ ⟨n,a,[],[]⟩ (List.mem_append.mpr (.inr (List.mem_singleton.mpr rfl))) rfl (af.put s h0) (λb o A e=>by rw[ak A];exact e) (KA.dict h.dict) (h.put hno hp1 p w) (λm y=>?_) (by rw[B1];exact Vg c) λu x=>?_⟩
  ·unfold addW;rw[Bw _ _ _ _ _ hno,if_neg (by rw[j];exact FS)]
  ·rcases List.mem_append.mp x with z|z
   ·exact d u z
   ·rw[List.mem_singleton.mp z];exact Nl _
def HA(C:B3)(H:Hp)(xs:List B3)(L:List gX):Prop:=xs.length=L.length/\∀(i:Nat)(x:B3)(r:gX),xs[i]? =some x->L[i]? =some r->∃d,Cp C H x r.dep r.wh.kd r.nm d/\Told H d r.ps
inductive Il(K:mo)(C:B3)(vs:List V)(H:Hp)(Q:VK):Prop
 |mk (lr:B3) (xs:List B3) (L:List gX) (d:D) (ps:PS) (c0:vs=[.ref lr]) (c1:H lr=some (.lst (xs.map V.ref))) (c2:HA C H xs L) (c3:L.length<=1000) (c4:Run [] L.reverse [(0,[(d,ps)])]) (c5:∀(v:V)(H':Hp),af H H'->At K H' v d->Q v H')
def Gw(K:mo)(C:B3):Sp:=λvs H Q _=>Il K C vs H Q
section
variable{K:mo}
noncomputable abbrev mZ:List Str:=["rows","waiting","row","parts"]
theorem dq:aw mZ ["rows"] (aj cY):=cD
theorem kL(Y:RowC K C)(F:aZ K "outermost_read" "outermost_read" cY f fd)(N:aO mg)(G1:av P w K mg base aK 4 f1 d1 ["row","parts"] (BM K C))(J1:Cq K mg d1 f1 ["row","parts"] "box_read"):av P w K mg base aK 5 f fd ["rows"] (Gw K C):=by
 refine F.cI dq λcdv A outer s H vs Q E hr h=>?_
 ·obtain⟨lr,xs,L,d,ps,e,a7,hR,hL,a8,k⟩:=h;subst e;have c7:=hr.mono (j:=4) (by decide)
  have hu:(A.deeper (NB "outermost_read" (aj cY) s.heap.objs.size f cdv)).units+1<OX:=by have :=hr.units;lia
  have X:(A.deeper (NB "outermost_read" (aj cY) s.heap.objs.size f cdv)).units<OX:=by have :=hr.units;lia
  refine⟨_,ah (aB (i:=1) dq.nd rfl (Ki rfl) gk)
   (ah (cx Np rfl (HD rfl N.rev QR (aa (pv 0) ab)) (aV (i:=2) dq.nd rfl (Ki rfl))
    (ah (aB (i:=3) dq.nd rfl (Ki rfl) (tM rfl (by rfl) N.list Pz (by rfl) N.rev QR (aa (cw OZ RD PySem.F.type_dict_pop Ey (pv 1) (aa (aJ bz (gZ (pv 2) rfl) ag) (aa (bU ab) ab))) ab)))
    (ai (cu (cw NJ Od Oc cR (cw OZ Su PySem.F.type_dict_setdefault pw (pv 1) (aa (gZ (pv 2) rfl) (aa (bU ab) ab))) (aa (aT (aa (pq G1 c7 J1 (aa (pv 2) (aa (pv 3) ab))) (aa (gZ (pv 2) rfl) ab))) ab))))))
   (ah (aR (mU (aA (IE X) (aQ (vo rfl) (by rfl) N.list Pz (aa (pv 1) ab)) (bU (aa ag ab)) (aF _)) (lq (aA kr (aH bq (by rfl) N.len NI (aa (bR hu (pv 1) ag (λ_ _=>rfl)) ab)) ag (aF _)))).pt (ai e_) az)
   (ai (au (ay ax (ay bB (bR hu (pv 1) ag (λ_ _=>rfl)) ag (λ_ _=>rfl)) ag (λ_ _=>rfl)))))),?_⟩
  try rw[bO]
  refine aq λN1 O=>?_;intro dw W;generalize g:upd H dw _=H1
  have s1:af H H1:=by rw[<-g];exact af.put (af.refl _) W
  have h1:H1 dw=some (.dK []):=by rw[<-g];exact ae
  clear g;refine O _ _ (aq λN1 O=>?_);refine⟨_,rfl,lr,_,rfl,bf.of (s1 _ _ a7),FU (K:=K) (a:=lr) (xs:=xs.map V.ref) (λi σ G=>∃(u2 u3:Option V)(T:List Wt),σ=[some (.ref lr),some (.ref dw),u2,u3]/\af H G/\sT K H G dw T/\Run (cg T) (L.reverse.drop i) [(0,[(d,ps)])]/\T.length<=i/\∀t∈T,t.as.length<=i) ⟨_,_,[],rfl,s1,⟨h1,(λt y=>nomatch y),(λt y=>nomatch y),(λt y=>nomatch y)⟩,a8,Nl _,(λt y=>nomatch y)⟩ (λi σ G _ d4=>by obtain⟨_,_,_,_,z,_⟩:=d4;exact bf.of (z _ _ a7)) ?_ ?_⟩
  ·rintro i x σ G hi hx ⟨u2,u3,T,rfl,sG,Z,m,a6,a5⟩;rw[be]at hi hx
   have b5:i<L.length:=by rw[<-hR.1];exact hi
   rw[B7]at hx
   cases ex:xs[xs.length-1-i]? with
   |none=>rw[ex]at hx;cases hx
   |some xr=>
    rw[ex]at hx
    cases hx
    have er:L[L.length-1-i]? =some L[L.length-1-i]:=B0 (by lia)
    have D:L.reverse.drop i=L[L.length-1-i]::L.reverse.drop (i+1):=by
     rw[List.drop_eq_getElem_cons (by rw[NZ];exact b5),List.getElem_reverse]
    obtain⟨dt,⟨dx,J⟩,a4⟩:=hR.2 _ xr _ ex (by rw[hR.1];exact er);generalize L[L.length-1-i]=r at *;rw[D]at m
    obtain⟨p,U⟩:Ka (cg T) r/\Run (qg (cg T) r) (L.reverse.drop (i+1)) [(0,[(d,ps)])]:=by
     cases m with
     |cons h t=>exact⟨h,t⟩
    clear m D er ex;have c5:=sG _ _ J;refine aq λN2 a1=>?_;refine⟨_,rfl,.inr (.inr (.inl ⟨rfl,.inl ⟨_,Z.dict⟩⟩)),_,rfl,xr,C,dx,_,_,rfl,c5,Y.cl,Y.nD,rfl,_,_,rfl,rfl,(by show 0<=sizeLine;decide),λp0 c8=>?_⟩;generalize g:upd G p0 _=G1
    have g1:af G G1:=by rw[<-g];exact af.put (af.refl _) c8
    have q1:G1 p0=some (.lst []):=by rw[<-g];exact ae
    clear g;refine⟨dw,_,N_ ((r.dep+1:Nat):Int),.ref p0,rfl,rfl,g1 _ _ Z.dict,IT (Z.same g1) (af.trans sG g1) W q1 a6 a5 λpl I G2 T2 d5 d6 c6 s2 a0 ep a9 b0=>⟨pl,_,rfl,bf.of d5,λl hl=>?_⟩⟩;refine a1 _ _ ?_;clear a1 N2;generalize g:upd G2 l _=G3
    have g3:af G2 G3:=by rw[<-g];exact af.put (af.refl _) hl
    have h3:G3 l=some (.lst (I.map V.ref).reverse):=by rw[<-g];exact ae
    clear g;have s3:=af.trans s2 g3;have M:=a0.same g3;clear a0;refine⟨_,rfl,.inr (.inr (.inl ⟨rfl,.inl ⟨_,M.dict⟩⟩)),_,rfl,xr,C,dx,_,_,rfl,s3 _ _ J,Y.cl,Y.nD,rfl,(by show 0<=sizeLine;decide),λp1 hp1=>?_⟩;generalize g:upd G3 p1 _=G4
    have g4:af G3 G4:=by rw[<-g];exact af.put (af.refl _) hp1
    have h4:G4 p1=some (.lst []):=by rw[<-g];exact ae
    clear g;have s4:=af.trans s3 g4;have b8:=M.same g4;have hf:∀t∈T2,t.l≠p1:=λt y=>aI (M.lst t y).1 hp1;have c0:H p1=none:=s3.free hp1;dsimp only[fu];refine FR (n:=r.dep) (i:=i) b8 s4 W c0 h4 hf (by lia) a9 b0 λG5 T5 t y et s5 k5 d0 b1 c4 b9 b2=>?_
    have d3:l≠dw:=λz=>by rw[z]at h3;have :=M.dict;rw[h3]at this;cases this
    have l5:G5 l=some (.lst (I.reverse.map V.ref)):=by
     rw[Vi];exact k5 _ _ d3 (g4 _ _ h3)
    have c9:A_ K G5 I.reverse (kids (cg T) (r.dep+1)).reverse:=(c6.keep (KA.trans (KA.same (af.trans g3 g4)) d0)).rev s5;obtain⟨lt,_,_⟩:=b1.lst t y;refine⟨.inl ⟨rfl,_,bf.of lt⟩,_,rfl,_,rfl,xr,l,dt,r.dep,r.nm,r.ps,I.reverse,(kids (cg T) (r.dep+1)).reverse,r.own,r.wh,rfl,⟨⟨dx,s5 _ _ J⟩,a4.same s5,l5,c9⟩,⟨by rw[NZ];lia,p.nm⟩,p.own,p.what,λv G6 g6 hv=>?_⟩;have s6:=af.trans s5 g6;have b6:=b1.same g6;refine⟨_,rfl,xr,C,dx,_,_,rfl,s6 _ _ J,Y.cl,Y.nT,rfl,(by show 2<=sizeLine;decide),λR b7=>?_⟩;generalize g:upd G6 R _=G7
    have g7:af G6 G7:=by rw[<-g];exact af.put (af.refl _) b7
    have h7:G7 R=some (.tup [v,.ref dt]):=by rw[<-g];exact ae
    clear g;have s7:=af.trans s6 g7;have a3:=b6.same g7;obtain⟨c3,_,l0⟩:=a3.lst t y;refine⟨t.l,_,.ref R,rfl,rfl,c3,small (by rw[be];have :=b2 t y;lia),?_⟩;refine(show∃u2 u3 T,_ from⟨_,_,T5.map (ji t.dep R (kT r (kids (cg T) (r.dep+1)).reverse)),rfl,af.put s7 l0,a3.add y h7 (hv.same g7) a4,?_,by rw[be];exact b9,λu hu=>?_⟩)
    ·rw[et,c4,ep];exact U
    ·obtain⟨u0,X,rfl⟩:=List.mem_map.mp hu;have :=EI t.dep R (kT r (kids (cg T) (r.dep+1)).reverse) u0;have :=b2 u0 X
     lia
  ·rintro σ G ⟨u2,u3,T,rfl,sG,Z,m,a6,a5⟩;refine O _ _ ?_;clear O N1;rw[be,hR.1,T6 (by rw[NZ];exact B2 _)]at m;have eT:cg T=[(0,[(d,ps)])]:=m.done;obtain⟨t,rfl⟩:=Ca eT
   ·have e1:(t.dep,t.pt)=(0,[(d,ps)]):=(List.cons.inj eT).1;have ed:t.dep=0:=congrArg SU e1;have b3:t.pt=[(d,ps)]:=congrArg Prod.snd e1;obtain⟨a,b,c⟩:=Z.lst t B6;rw[b3]at b;obtain⟨R,c2⟩:=Hf (l:=t.as) b.1
    ·rw[c2]at a b;obtain⟨v,da,z1,z2,z3⟩:=b.2 0 R (d,ps) rfl rfl
     have a2:[t].map gU=[((N_ ((0:Nat):Int):Key),V.ref t.l)]:=by
      show[gU t]=_;unfold gU;rw[ed]
     have o:=Z.dict;rw[a2]at o;refine aq λN1 O=>?_;refine⟨_,rfl,dw,_,rfl,.inl o,λq hq=>?_⟩;generalize g:upd G q _=G1
     have g1:af G G1:=by rw[<-g];exact af.put (af.refl _) hq
     have d2:G1 q=some (.lst [.int 0]):=by rw[<-g];exact ae
     clear g;refine⟨(by show 1<=sizeLine;decide),λq2 b4=>?_⟩;generalize g:upd G1 q2 _=G2
     have g2:af G1 G2:=by rw[<-g];exact af.put (af.refl _) b4
     have h2:G2 q2=some (.lst [.int 0]):=by rw[<-g];exact ae
     clear g;have B:=af.trans g1 g2;have c1:=B _ _ o;refine⟨q,q2,_,_,rfl,rfl,bf.of (g2 _ _ d2),bf.of h2,rfl,rfl,rfl,_,rfl,br (by decide +kernel) ?_⟩;have S:fR G2 dw (.int 0) (some (.ref t.l)):=fR.k (k:=N_ 0) c1;refine⟨_,rfl,dw,_,rfl,S,t.l,_,rfl,.inl (bf.of (B _ _ a)),rfl,_,rfl,br (by rw[be];show(!decide (V.int 1=V.int 1))=false;decide) ?_⟩;refine O _ _ ?_;clear O N1;exact⟨_,rfl,dw,_,rfl,S,t.l,_,_,_,rfl,rfl,bf.of (B _ _ a),aN (j:=0) rfl,R,_,_,_,rfl,rfl,ba.of (B _ _ z1),aN (j:=0) rfl,k v G2 (af.trans sG B) (z2.same B)⟩
end
noncomputable def fD:Fo->List D
 | .nil=>[]
 | .cons _ d cs as=>fq d.wh.kd d.nm d.own d.wh (fD cs)::fD as
theorem pre_of{q S T Z:List Nat}(h:q++S=T++Z)(e:32∉T)(hS:S=[]∨S.head?=some 32):T<+:q:=by
 rcases List.append_eq_append_iff.mp h with⟨a,b,d⟩|⟨c,b,d⟩
 ·cases a with
  |nil=>rw[b,Dk];exact List.prefix_refl _
  |cons x a=>
   rcases hS with hS|hS
   ·rw[hS]at d;cases d
   ·rw[d]at hS
    have :x=32:=by injection hS
    exact absurd (by rw[b,this];simp) e
 ·rw[b];exact List.prefix_append _ _
theorem oM(Y p q:List Nat)(r:List (List Nat)):dn Y (p::q::r)=p++(Y++dn Y (q::r)):=rfl
theorem wI(q:List Nat)(r:List (List Nat))(R:List Nat)(a:R=[]∨R.head?=some 32):∃S,dn [32] (q::r)++R=q++S/\(S=[]∨S.head?=some 32):=by
 cases r with
 |nil=>exact⟨R,rfl,a⟩
 |cons p r=>
  refine⟨[32]++dn [32] (p::r)++R,?_,.inr rfl⟩;rw[oM,IR]
theorem qW{T:List Nat}(c:32∉T)(h:R=[]∨R.head?=some 32):∀(ps:List (List Nat)),(∀p∈ps,32∉p)->(∀q∈ps.tail,¬T<+:q)->∀(k:Nat)(Z:List Nat),k<(dn [32] ps).length->(dn [32] ps++R).drop k≠(32::T)++Z
 |[],_,_,k,Z,a=>absurd a (Pn _)
 |[p],d,_,k,Z,a=>λe=>by
  have a:k<p.length:=a;have e:(p++R).drop k=(32::T)++Z:=e
  have b:((p++R).drop k)[0]? =some 32:=by rw[e];rfl
  rw[Qi,TX,KF a]at b;exact d p B6 (Do b)
 |p::q::r,d,g,k,Z,a=>λe=>by
  rw[oM]at e a;by_cases i:k<p.length
  ·have b:((p++([32]++dn [32] (q::r))++R).drop k)[0]? =some 32:=by rw[e];rfl
   rw[Qi,TX,IR,KF i]at b;exact d p B6 (Do b)
  ·by_cases n:k=p.length
   ·rw[n,IR,Qp,IR]at e;have f:dn [32] (q::r)++R=T++Z:=(List.cons.inj e).2;obtain⟨S,l,j⟩:=wI q r R h;rw[l]at f;exact g q B6 (pre_of f c j)
   ·have m:k=p.length+(1+(k-p.length-1)):=by lia
    rw[m,<-QT,IR,Qp,<-QT,IR]at e;have e:(dn [32] (q::r)++R).drop (k-p.length-1)=(32::T)++Z:=e;refine qW c h (q::r) (λx hx=>d x (De _ hx)) (λx hx=>g x (De _ hx)) _ Z ?_ e;rw[B1,B1]at a;have :([32]:List Nat).length=1:=rfl
    lia
theorem CB{k:Nat}(h:PySem.StrLaws.At x y x.length k):∃Z,x.cps.toList.drop k=y.cps.toList++Z:=by
 have h2:=h.2;rw[PySem.StrLaws.subAt_eq,beq_iff_eq]at h2;exact⟨(x.cps.toList.drop k).drop y.length,by rw[<-h2,Qt]⟩
noncomputable abbrev Tx:List Nat:=[116,101,120,116,61]
theorem mv:(" text=":Str).cps.toList=32::Tx:=by decide +kernel
theorem jO:(" ":Str).cps.toList=[32]:=by decide +kernel
theorem Fn:("\n":Str).cps.toList=[10]:=by decide +kernel
theorem app_list(x y:Str):(x++y).cps.toList=x.cps.toList++y.cps.toList:=by
 show(x.cps++y.cps).toList=_;rw[Nm]
theorem yi(x y z:Str):(x++y)++z=x++(y++z):=jf (by rw[app_list,app_list,app_list,app_list,IR])
theorem join_snoc(y x:Str):∀ws:List Str,ws≠[]->NT y (ws++[x])=NT y ws++(y++x)
 |[],h=>absurd rfl h
 |[w],_=>jf (by
  rw[join_list,app_list,join_list,app_list]
  rfl)
 |w::v::r,_=>jf (by
  have a:=congrArg (λs:Str=>s.cps.toList) (join_snoc y x (v::r) (Ou _ _));rw[join_list,app_list,app_list,join_list]at a;rw[join_list,app_list,app_list,join_list];show w.cps.toList++(y.cps.toList++dn y.cps.toList (((v::r)++[x]).map λp=>p.cps.toList))=(w.cps.toList++(y.cps.toList++dn y.cps.toList ((v::r).map λp=>p.cps.toList)))++_;rw[a]
  simp)
theorem zR{ws:List Str}(l:ws≠[])(b:∀w∈ws,32∉w.cps.toList)(i:∀w∈ws.tail,¬Tx<+:w.cps.toList)(tx:Str)(z:Str)(hz:z=if tx=""then NT " " ws else NT " " ws++(" text="++tx)):∃m:Str,parted z " text="=[NT " " ws,m,tx]:=by
 have d:(NT " " ws).cps.toList=dn [32] (ws.map λp=>p.cps.toList):=by rw[join_list,jO]
 have c1:∀p∈ws.map (λp=>p.cps.toList),32∉p:=λp j=>by
  obtain⟨w,c,rfl⟩:=List.mem_map.mp j;exact b w c
 have c2:∀q∈(ws.map λp=>p.cps.toList).tail,¬Tx<+:q:=λq h=>by
  rw[<-List.map_tail]at h;obtain⟨w,c,rfl⟩:=List.mem_map.mp h;exact i w c
 by_cases e:tx=""
 ·rw[if_pos e]at hz;subst hz e;refine⟨Re,?_⟩;rw[zu]
  ·rfl
  ·intro k f;obtain⟨Z,a⟩:=CB f;rw[mv,d]at a;by_cases q:k<(dn [32] (ws.map λp=>p.cps.toList)).length
   ·refine qW (by decide) (.inl rfl) _ c1 c2 k Z q ?_;rw[Dk];exact a
   ·rw[T6 (by lia)]at a
    cases a
 ·rw[if_neg e]at hz;refine⟨" text=",pY mv hz λk f g=>?_⟩;obtain⟨Z,a⟩:=CB g;rw[mv,hz,app_list,app_list,d,mv]at a;refine qW (by decide) (R:=(32::Tx)++tx.cps.toList) (.inr rfl) _ c1 c2 k Z ?_ a;rw[<-d,dE];exact f
noncomputable abbrev cU:List (Str×Str):=[("wide","0..1000000"),("high","0..1000000"),("grow","0"),("shrink","1"),("rank","0"),("alike","0"),("wish","0,0"),("columns","1"),("gap","0"),("align","start"),("side","left"),("joint","50"),("span","1,1"),("float","left"),("at","start,0,start,0")]
noncomputable def gm(ps:PS)(p:Str×Str):List (Str×Str):=if(lk ps p.1).getD p.2=p.2 then[]else[(p.1,(lk ps p.1).getD p.2)]
noncomputable def kvsOf(ps:PS):PS:=cU.flatMap (gm ps)
noncomputable def gH(ps:PS):Str:=(lk ps "text").getD ""
noncomputable def toldOf(ps:PS):PS:=putAll bu (kvsOf ps++[(("text":Str),gH ps)])
theorem EJ(ps:PS)(p:Str×Str):pick ps p=(gm ps p).map gC:=by
 unfold pick gm
 split
 ·rfl
 ·show _=[gC _];unfold gC;rw[yi]
theorem xR(ps:PS):∀l:List (Str×Str),l.flatMap (pick ps)=(l.flatMap (gm ps)).map gC
 |[]=>rfl
 |p::l=>by rw[Ob,Ob,Da,xR ps l,EJ]
theorem Li:("text":Str)++"="="text=":=by decide +kernel
theorem qz(ps:PS):bu.flatMap (pick ps)=(kvsOf ps).map gC++(if gH ps=""then[]else["text="++gH ps]):=by
 have e:bu=cU++[(("text":Str),("":Str))]:=rfl;rw[e,OM,xR]
 congr 1
 show pick ps ("text","")++[]=_;rw[Dk];unfold pick;show(if gH ps=""then[]else[("text"++"=")++gH ps])=_;rw[Li]
theorem du(p:Str×Str)(r:PS)(j:Str):lk (p::r) j=if p.1=j then some p.2 else lk r j:=by
 unfold lk;by_cases e:p.1=j
 ·rw[if_pos e,Rt (by simpa using e)];rfl
 ·rw[if_neg e,T4 (by simpa using e)]
theorem yh{j:Str}(h:j∉ps.map (·.1)):lk ps j=none:=by
 unfold lk;rw[List.find?_eq_none.mpr]
 ·rfl
 ·intro p a e;exact h (by rw[<-of_decide_eq_true e];exact Ow a)
theorem yr{j v:Str}(h:lk ps j=some v):(j,v)∈ps:=by
 unfold lk at h;obtain⟨p,a,e⟩:=Option.map_eq_some_iff.mp h;have h1:=QW a;have h2:=of_decide_eq_true (List.find?_some (p:=λp:Str×Str=>decide (p.1=j)) a);rw[<-h2,<-e];exact h1
theorem Fm(ps:PS)(k v j:Str):lk (pj ps k v) j=if j=k then some v else lk ps j:=by
 unfold pj;by_cases c:(ps.any λp=>decide (p.1=k))=true
 ·rw[if_pos c]
  induction ps with
  |nil=>cases c
  |cons p r i=>
   rw[Nq,du,du];by_cases e:p.1=k
   ·rw[if_pos e];by_cases a:p.1=j
    ·rw[if_pos a,if_pos (a.symm.trans e)]
    ·have h:j≠k:=λz=>a (e.trans z.symm);rw[if_neg a,if_neg h,if_neg a];by_cases b:(r.any λp=>decide (p.1=k))=true
     ·rw[i b,if_neg h]
     ·have m:r.map (λp=>if p.1=k then(p.1,v)else p)=r:=by
       have :=OL (l:=r) (f:=λp=>if p.1=k then(p.1,v)else p) (g:=id) λp d=>if_neg λz=>b (List.any_eq_true.mpr ⟨p,d,decide_eq_true z⟩);rw[this,RK]
      rw[m]
   ·rw[if_neg e]
    have b:(r.any λp=>decide (p.1=k))=true:=by
     rw[Qx,decide_eq_false e,Bool.false_or]at c;exact c
    rw[i b];by_cases a:p.1=j
    ·rw[if_pos a,if_pos a,if_neg (λz=>e (a.trans z))]
    ·rw[if_neg a,if_neg a]
 ·rw[if_neg c,gE]
  have n:lk ps k=none:=yh λz=>by
   obtain⟨p,d,e⟩:=List.mem_map.mp z;exact c (List.any_eq_true.mpr ⟨p,d,decide_eq_true e⟩)
  by_cases e:j=k
  ·rw[e,n,if_pos rfl,du,if_pos rfl];rfl
  ·rw[if_neg e,du,if_neg (B9 e)]
   cases lk ps j<;>rfl
theorem kO(j:Str):∀(kvs ps:PS),(kvs.map (·.1)).Nodup->lk (putAll ps kvs) j=(lk kvs j).or (lk ps j)
 |[],ps,_=>rfl
 |p::r,ps,h=>by
  rw[Nq,Rz]at h;show lk (putAll (pj ps p.1 p.2) r) j=_;rw[kO j r _ h.2,Fm,du];by_cases e:p.1=j
  ·rw[if_pos e,if_pos e.symm,yh (by rw[<-e];exact h.1)];rfl
  ·rw[if_neg e,if_neg (B9 e)]
theorem flat_keys(ps:PS):∀l:List (Str×Str),((l.flatMap (gm ps)).map (·.1)).Sublist (l.map (·.1))
 |[]=>U1 _
 |p::l=>by
  rw[Ob,Da,Nq];unfold gm
  split
  ·exact(flat_keys ps l).cons _
  ·exact(flat_keys ps l).cons₂ _
theorem xZ(ps:PS):((kvsOf ps++[(("text":Str),gH ps)]).map (·.1)).Nodup:=by
 rw[Da];have h:((kvsOf ps).map (λp=>p.1)++[("text":Str)]).Sublist (cU.map (λp=>p.1)++[("text":Str)]):=(flat_keys ps cU).append (U1 _);exact h.nodup (by decide +kernel)
theorem x_(ps:PS):∀(l:List (Str×Str)),(l.map (·.1)).Nodup->∀p∈l,lk (l.flatMap (gm ps)) p.1=if(lk ps p.1).getD p.2=p.2 then none else some ((lk ps p.1).getD p.2)
 |[],_,p,hp=>nomatch hp
 |q::l,nd,p,hp=>by
  rw[Nq,Rz]at nd;rw[Ob,gE]
  rcases List.mem_cons.mp hp with rfl|hp
  ·have hn:lk (l.flatMap (gm ps)) p.1=none:=yh λz=>nd.1 ((flat_keys ps l).subset z);rw[hn];unfold gm
   split
   ·rfl
   ·rw[du,if_pos rfl];rfl
  ·have a:q.1≠p.1:=λe=>nd.1 (by rw[e];exact Ow hp)
   have b:lk (gm ps q) p.1=none:=by
    unfold gm
    split
    ·rfl
    ·rw[du,if_neg a];rfl
   rw[b,x_ ps l nd.2 p hp];rfl
theorem uN:∀p∈cU,lk bu p.1=some p.2/\p.1≠"text":=by decide +kernel
theorem EE(ps:PS):∀p∈cU,lk (toldOf ps) p.1=some ((lk ps p.1).getD p.2):=λp a=>by
 obtain⟨h1,h2⟩:=uN p a;unfold toldOf;rw[kO _ _ _ (xZ ps),h1,gE,du,if_neg (B9 h2)];have e:=x_ ps cU (by decide +kernel) p a;have e:lk (kvsOf ps) p.1=_:=e;rw[e];by_cases c:(lk ps p.1).getD p.2=p.2
 ·rw[if_pos c,c];rfl
 ·rw[if_neg c];rfl
theorem yu(ps:PS):lk (toldOf ps) "text"=some (gH ps):=by
 unfold toldOf;rw[kO _ _ _ (xZ ps),gE,du,if_pos rfl,yh λz=>?_]
 ·rfl
 ·have :=(flat_keys ps cU).subset z
  revert this
  decide +kernel
def Cl(x:Str):Prop:=∀c∈x.cps.toList,33<=c
def Cz(x:Str):Prop:=∀c∈x.cps.toList,32<=c
theorem Cl.cz(h:Cl x):Cz x:=λc a=>UZ (h c a)
theorem Cl.app(h:Cl x)(g:Cl y):Cl (x++y):=λc a=>by
 rw[app_list]at a
 rcases List.mem_append.mp a with z|z
 ·exact h c z
 ·exact g c z
theorem Cz.app(h:Cz x)(g:Cz y):Cz (x++y):=λc a=>by
 rw[app_list]at a
 rcases List.mem_append.mp a with z|z
 ·exact h c z
 ·exact g c z
theorem Cl.no(h:Cl x):32∉x.cps.toList:=λz=>by have :=h 32 z;lia
theorem dX(i:Int):Cl (nS i):=λc a=>by
 by_cases q:c<33
 ·exact absurd a (kn (.inl Ew) i)
 ·lia
theorem GH:Cl "..":=by unfold Cl;decide +kernel
theorem uw:Cl ",":=by unfold Cl;decide +kernel
theorem r_(h:Cl s)(a b:Int):Cl (two s a b):=(dX a).app (h.app (dX b))
theorem mw(h:Vs s):Cl s:=by
 rcases h with rfl|rfl<;>(unfold Cl;decide +kernel)
theorem Kk(h:s="start"∨s="end"∨s="mid"∨s="mid2"):Cl s:=by
 rcases h with rfl|rfl|rfl|rfl<;>(unfold Cl;decide +kernel)
theorem Gs(h:s="start"∨s="mid"∨s="mid2"∨s="end"):Cl s:=by
 rcases h with rfl|rfl|rfl|rfl<;>(unfold Cl;decide +kernel)
theorem wO:Cl "":=by unfold Cl;decide +kernel
theorem yk(h:Cl p.1.1)(g:Cl p.2.1):Cl (four p):=h.app (uw.app ((dX _).app (uw.app (g.app (uw.app (dX _))))))
theorem lY(b:Cz y):∀{ws:List Str},(∀w∈ws,Cz w)->Cz (NT y ws)
 |[],_=>λc a=>by
  rw[join_list]at a
  cases a
 |[w],h=>λc a=>by
  rw[join_list]at a;exact h w B6 c a
 |w::v::r,h=>λc a=>by
  have d:=lY b (ws:=v::r) λx hx=>h x (De _ hx);rw[join_list]at a;have a:c∈w.cps.toList++(y.cps.toList++dn y.cps.toList ((v::r).map λp=>p.cps.toList)):=a
  rcases List.mem_append.mp a with z|z
  ·exact h w B6 c z
  ·rcases List.mem_append.mp z with z|z
   ·exact b c z
   ·rw[<-join_list]at z;exact d c z
theorem Gz:Cz " ":=by unfold Cz;decide +kernel
theorem IM:Cz "|":=by unfold Cz;decide +kernel
theorem A8(h:Hl ws):Cz (iW ws):=by
 unfold iW;rw[join_eq];refine lY Gz λw b=>?_;obtain⟨v,a,rfl⟩:=List.mem_map.mp b;rw[join_eq];exact lY IM λx hx c d=>UZ (h v a x hx c d).1
noncomputable def cH(d:cK)(eh:aY)(i:Nat):PS:=cB d.own++(bt d.wh++bD eh i)
abbrev K6(p:Str×Str):Prop:=Cz p.2/\(p.1≠"text"->Cl p.2)
theorem dI{k:Str}(h:Cl x):K6 (k,x):=⟨h.cz,λ_=>h⟩
theorem Eg{k:Nat}(v:Vw d.wh m)(f:Vw eh k):∀p∈cH d eh i,K6 p:=by
 have A:∀p∈cB d.own,K6 p:=all_cons (dI (r_ GH _ _)) (all_cons (dI (r_ GH _ _)) (all_cons (dI (dX _)) (all_cons (dI (dX _)) (all_cons (dI (dX _)) (all_cons (dI (dX _)) all_nil)))))
 have B:∀p∈bt d.wh,K6 p:=by
  generalize d.wh=wh at v
  cases wh with
  |leaf a b=>exact all_cons (dI (r_ uw _ _)) all_nil
  |lined k g al sd=>exact all_cons (dI (dX _)) (all_cons (dI (Kk v.2.2.1)) (all_cons (dI (mw v.2.2.2)) all_nil))
  |table c g sd sps=>exact all_cons (dI (dX _)) (all_cons (dI (dX _)) (all_cons (dI (mw v.2.2.2.1)) all_nil))
  |words ws j=>exact all_cons ⟨A8 v.2.1,λz=>absurd rfl z⟩ (all_cons (dI (dX _)) all_nil)
  |flow sds ws j=>exact all_cons ⟨A8 v.2.2.2.1,λz=>absurd rfl z⟩ (all_cons (dI (dX _)) all_nil)
  |over ps=>exact all_nil
 have C:∀p∈bD eh i,K6 p:=by
  cases eh with
  |leaf a b=>exact all_nil
  |lined k g al sd=>exact all_nil
  |words ws j=>exact all_nil
  |table c g sd sps=>exact all_cons (dI (r_ uw _ _)) all_nil
  |flow sds ws j=>
   refine all_cons (dI ?_) all_nil;rw[Nj]
   cases e:sds[i]? with
   |none=>exact mw (.inl rfl)
   |some q=>exact mw (f.2.2.1 q (Do e))
  |over ps=>
   cases i with
   |zero=>exact all_nil
   |succ i=>
    refine all_cons (dI ?_) all_nil;rw[Nj]
    cases e:ps[i]? with
    |none=>exact yk wO wO
    |some q=>
     obtain⟨n,h⟩:=f.2.2 q (Do e);exact yk (Gs n.1) (Gs h.1)
 intro p l
 rcases List.mem_append.mp l with z|z
 ·exact A p z
 ·rcases List.mem_append.mp z with z|z
  ·exact B p z
  ·exact C p z
theorem nP(n:Nat):(nk "  " n).cps.toList=On (2*n) 32:=by
 have b:∀(n:Nat)(a:Array Nat),((On n ("  ":Str).cps).foldl (·++·) a).toList=a.toList++On (2*n) 32:=by
  intro n
  induction n with
  |zero=>intro a;simp
  |succ n c=>
   intro a;rw[Uv,RB,c]
   have e:("  ":Str).cps.toList=[32,32]:=by decide +kernel
   rw[Nm,e,show 2*(n+1)=2+2*n by lia,<-List.replicate_append_replicate,IR];rfl
 have :=b n #[];exact this
theorem K5(wh:aY):Cl wh.kd/\wh.kd≠"":=by
 have :wh.kd∈(["leaf","row","column","wrap","table","words","flow","over"]:List Str):=by
  cases wh with
  |lined k g al sd=>
   match k with
   |0=>simp[aY.kd]
   |1=>simp[aY.kd]
   |k+2=>simp[aY.kd]
  |_=>simp[aY.kd]
 revert this
 generalize wh.kd=x
 have :∀x∈(["leaf","row","column","wrap","table","words","flow","over"]:List Str),Cl x/\x≠"":=by
  unfold Cl;decide +kernel
 exact this x
theorem vL:∀p∈cU,61∉p.1.cps.toList/\Cl p.1/\Tx.take (min 5 (p.1.cps.toList.length+1))≠(p.1.cps.toList++[61]).take (min 5 (p.1.cps.toList.length+1)):=by
 unfold Cl;decide +kernel
theorem rb(h:q∈kvsOf ps):∃p∈cU,q.1=p.1/\(q.1,q.2)∈ps:=by
 unfold kvsOf at h;obtain⟨p,b,a⟩:=List.mem_flatMap.mp h;unfold gm at a
 split at a
 ·cases a
 ·rename_i c
  rw[List.mem_singleton.mp a]
  cases e:lk ps p.1 with
  |none=>rw[e]at c;exact absurd rfl c
  |some v=>exact⟨p,b,rfl,yr e⟩
theorem EK(p:Str×Str):(gC p).cps.toList=p.1.cps.toList++(61::p.2.cps.toList):=by
 unfold gC;rw[app_list,app_list];rfl
theorem EF{p:Str×Str}{v:Str}(h:p∈cU):¬Tx<+:(gC (p.1,v)).cps.toList:=λ⟨Z,a⟩=>by
 rw[EK]at a;refine(vL p h).2.2 ?_;have e:=congrArg (List.take (min 5 (p.1.cps.toList.length+1))) a;have b:(Tx++Z).take (min 5 (p.1.cps.toList.length+1))=Tx.take (min 5 (p.1.cps.toList.length+1)):=QE (by show min 5 _<=5;lia)
 have c:(p.1.cps.toList++(61::v.cps.toList)).take (min 5 (p.1.cps.toList.length+1))=(p.1.cps.toList++[61]).take (min 5 (p.1.cps.toList.length+1)):=by
  rw[show p.1.cps.toList++(61::v.cps.toList)=(p.1.cps.toList++[61])++v.cps.toList by simp];exact QE (by rw[B1];show _<=_+1;lia)
 rw[b,c]at e;exact e
theorem Ei(h:Vn x):¬Tx<+:x.cps.toList:=λa=>by
 have :61∈x.cps.toList:=a.subset (by decide);have :=(h.2.2 61 this).1
 lia
theorem D_(g:d.wh.Good)(a:eh.Good):NA " " (fo d eh i)=if gH (cH d eh i)=""then NT " " (d.wh.kd::d.nm::(kvsOf (cH d eh i)).map gC)else NT " " (d.wh.kd::d.nm::(kvsOf (cH d eh i)).map gC)++(" text="++gH (cH d eh i)):=by
 rw[join_eq,lR g a];show NT " " (d.wh.kd::d.nm::bu.flatMap (pick (cH d eh i)))=_;rw[qz];by_cases c:gH (cH d eh i)=""
 ·rw[if_pos c,if_pos c,Dk]
 ·rw[if_neg c,if_neg c];have e:=join_snoc " " ("text="++gH (cH d eh i)) (d.wh.kd::d.nm::(kvsOf (cH d eh i)).map gC) (Ou _ _)
  have b:(" ":Str)++("text="++gH (cH d eh i))=" text="++gH (cH d eh i):=by
   rw[<-yi]
   congr 1
  rw[b]at e;exact e
theorem yE{ws:List Str}{k:Str}(h:Cl k)(a:k≠""):((NT " " (k::ws)).cps.toList++R).head?≠some 32:=by
 have e:∃S,(NT " " (k::ws)).cps.toList=k.cps.toList++S:=by
  rw[join_list]
  cases ws with
  |nil=>exact⟨[],(Dk _).symm⟩
  |cons w r=>exact⟨_,rfl⟩
 obtain⟨S,e⟩:=e;rw[e,IR]
 cases q:k.cps.toList with
 |nil=>exact absurd (jf (by rw[q];decide +kernel)) a
 |cons c r=>
  intro z
  have :c=32:=by injection z
  have :=h c (by rw[q];exact B6)
  lia
theorem KU{k:Nat}(g:d.wh.Good)(go:d.own.Good)(u:eh.Good)(v:Vw d.wh m)(L:Vw eh k)(A:Vn d.nm)(hn:n<=200):vp (B11P.bY d n eh i) n d.wh.kd d.nm (kvsOf (cH d eh i)) (gH (cH d eh i))/\Cz (B11P.bY d n eh i):=by
 have r:d.nm.length<=60:=by have :=A.2.1;exact cP
 have H:=mW (i:=i) hn g go r u;obtain⟨I,_⟩:=mf (i:=i) g go r u;have F:=Eg (d:=d) (eh:=eh) (i:=i) v L;have s:=D_ (d:=d) (eh:=eh) (i:=i) g u;obtain⟨z,k2⟩:=K5 d.wh
 have K:Cl d.nm:=λc y=>by have :=(A.2.2 c y).1;lia
 have D:∀q∈kvsOf (cH d eh i),Cl (gC q):=λq a=>by
  obtain⟨p,h,j,B⟩:=rb a;have M:=(uN p h).2;refine Cl.app (by rw[j];exact(vL p h).2.1) (Cl.app (by unfold Cl;decide +kernel) ((F _ B).2 (by show q.1≠_;rw[j];exact M)))
 have b:∀w∈d.wh.kd::d.nm::(kvsOf (cH d eh i)).map gC,Cl w:=λw hw=>by
  rcases List.mem_cons.mp hw with rfl|hw
  ·exact z
  rcases List.mem_cons.mp hw with rfl|hw
  ·exact K
  ·obtain⟨q,a,rfl⟩:=List.mem_map.mp hw;exact D q a
 have C:∀w∈(d.wh.kd::d.nm::(kvsOf (cH d eh i)).map gC).tail,¬Tx<+:w.cps.toList:=λw hw=>by
  have hw:w∈d.nm::(kvsOf (cH d eh i)).map gC:=hw
  rcases List.mem_cons.mp hw with rfl|hw
  ·exact Ei A
  ·obtain⟨q,a,rfl⟩:=List.mem_map.mp hw;obtain⟨p,h,j,B⟩:=rb a;have :=EF (v:=q.2) h;rw[<-j]at this;exact this
 obtain⟨J,f⟩:=zR (Ou _ _) (λw hw=>(b w hw).no) C _ _ s
 have o:eZ (B11P.bY d n eh i) " "=NA " " (fo d eh i):=by
  refine zY (k:=2*n) ?_ ?_
  ·unfold B11P.bY;rw[app_list,nP]
  ·rw[s]
   split
   ·have :=yE (ws:=d.nm::(kvsOf (cH d eh i)).map gC) z k2 (R:=[]);rw[Dk]at this;exact this
   ·rw[app_list];exact yE z k2
 have E:(B11P.bY d n eh i).length=(NA " " (fo d eh i)).length+2*n:=by
  unfold B11P.bY;rw[GE,oD,l_]
  lia
 refine⟨⟨cP,by rw[o];exact E,⟨_,J,by rw[o];exact f,?_,?_⟩,λq a=>?_,?_⟩,?_⟩
 ·have h1:(NT " " (d.wh.kd::d.nm::(kvsOf (cH d eh i)).map gC)).length<=(NA " " (fo d eh i)).length:=by
   rw[s]
   split
   ·exact B2 _
   ·rw[GE];exact P1 _ _
  lia
 ·exact dU (c:=32) (t:=[]) jO (by decide +kernel) (Ou _ _) λw hw=>(b w hw).no
 ·obtain⟨p,h,j,B⟩:=rb a;refine⟨by rw[j];exact(vL p h).1,?_⟩
  have hm:gC q∈fo d eh i:=by
   rw[lR g u];show gC q∈d.wh.kd::d.nm::bu.flatMap (pick (cH d eh i));rw[qz];exact De _ (De _ (NS _ (Ow a)))
  have :=I _ hm;exact cP
 ·have :∀l:List (Str×Str),(l.flatMap (gm (cH d eh i))).length<=l.length:=λl=>by
   have :=(flat_keys (cH d eh i) l).length_le;rw[be,be]at this;exact this
  have :=this cU;have e:cU.length=15:=rfl;unfold kvsOf;exact cP
 ·unfold B11P.bY;refine Cz.app (λc y=>?_) ?_
  ·rw[nP]at y;rw[List.eq_of_mem_replicate y];exact B2 _
  ·have G:Cz (NT " " (d.wh.kd::d.nm::(kvsOf (cH d eh i)).map gC)):=lY Gz λw hw=>(b w hw).cz;rw[s]
   split
   ·exact G
   ·refine G.app (Cz.app (by unfold Cz;decide +kernel) ?_);unfold gH
    cases e:lk (cH d eh i) "text"with
    |none=>exact wO.cz
    |some x=>exact(F _ (yr e)).1
theorem eo{w:Str}{t:Option Str}(a:w∈(Zk:List Str))(h:lk (bt wh) w=t):lk (cB o++(bt wh++bD eh i)) w=t:=by
 have sub:∀w∈(Zk:List Str),w∈(ZG:List Str):=by decide +kernel
 exact MF (B11P.vy o w (sub w a)) (mY eh i w a) h
theorem vd{w:Str}{t:Option Str}(a:w∈(Zo:List Str))(h:lk (bD eh i) w=t):lk (cB o++(bt wh++bD eh i)) w=t:=by
 have sub:∀w∈(Zo:List Str),w∈(ZG:List Str):=by decide +kernel
 exact MD (B11P.vy o w (sub w a)) (ny wh w a) h
theorem cn{k pl:Str}(a:(k,pl)∈cU)(h:lk ps k=some x):lk (toldOf ps) k=some x:=by
 have :=EE ps (k,pl) a;rw[h]at this;exact this
theorem C3{i a:Int}(h:a<=i)(g:i<=b)(ha: -1000000<=a)(c:b<=1000000):kl i:=by
 show i.natAbs<10000000
 lia
theorem JU(h:Vo d.own):zw (toldOf (cH d eh i)) d.own:=by
 obtain⟨⟨l,n,k⟩,⟨b1,p,o⟩,⟨c1,c2⟩,⟨d1,d2⟩,⟨m,j⟩,f1,f2⟩:=h;obtain⟨f,b,g,e,a,c⟩:=CW d.own;refine⟨⟨cn (pl:="0..1000000") (by decide +kernel) (AH f),cn (pl:="0..1000000") (by decide +kernel) (AH b)⟩,⟨cn (pl:="0") (by decide +kernel) (AH g),cn (pl:="1") (by decide +kernel) (AH e),cn (pl:="0") (by decide +kernel) (AH a),cn (pl:="0") (by decide +kernel) (AH c)⟩,⟨?_,?_,?_,?_⟩,?_,?_,?_,?_⟩
 all_goals
  show Int.natAbs _<10000000
  lia
theorem Gu(g:gF ws)(v:Hl ws):pA ws:=⟨by have :=g.1;exact cP,λw a=>by
 obtain⟨g1,g2,g3⟩:=g.2 w a;refine⟨λe=>by rw[e]at g1;exact absurd g1 (by decide),cP,λx hx=>?_⟩;have h:=g3 x hx;refine⟨h.1,by lia,λz=>?_,λz=>?_⟩
 ·have :=(v w a x hx 32 z).1;lia
 ·exact(v w a x hx 124 z).2.2.2 rfl⟩
def Ms(wh:aY)(pts:List PS):Prop:=∀(j:Nat)(t:PS),pts[j]? =some t->∃d:cK,t=toldOf (cH d wh j)
theorem Hd(g:d.wh.Good)(v:Vw d.wh pts.length)(n:Ms d.wh pts):qk (toldOf (cH d eh i)) pts d.wh:=by
 obtain⟨nm,o,wh⟩:=d
 cases wh with
 |leaf a b=>
  obtain⟨_,⟨h1,h2⟩,e,f⟩:=v;exact⟨cn (pl:="0,0") (by decide +kernel) (eo (by decide +kernel) (by kernel_rfl)),C3 h1 h2 (by decide) (by decide),C3 e f (by decide) (by decide)⟩
 |lined k u al sd=>
  obtain⟨_,⟨h2,e⟩,f,l⟩:=v;obtain⟨_,g2,g3⟩:=g;exact⟨cn (pl:="0") (by decide +kernel) (eo (by decide +kernel) (by kernel_rfl)),cn (pl:="start") (by decide +kernel) (eo (by decide +kernel) (by kernel_rfl)),cn (pl:="left") (by decide +kernel) (eo (by decide +kernel) (by kernel_rfl)),C3 h2 e (by decide) (by decide),cP,cP⟩
 |table c u sd sps=>
  obtain⟨_,⟨h2,e⟩,⟨f,l⟩,m,D,r⟩:=v;refine⟨⟨cn (pl:="1") (by decide +kernel) (eo (by decide +kernel) (by kernel_rfl)),cn (pl:="0") (by decide +kernel) (eo (by decide +kernel) (by kernel_rfl)),cn (pl:="left") (by decide +kernel) (eo (by decide +kernel) (by kernel_rfl))⟩,⟨C3 h2 e (by decide) (by decide),C3 f l (by decide) (by decide),by have :=wZ m;exact cP⟩,D.symm,λj t p h ep=>?_⟩;obtain⟨d',rfl⟩:=n j t h;obtain⟨⟨q,B⟩,y,x⟩:=r p (Do ep);refine⟨cn (pl:="1,1") (by decide +kernel) (vd (by decide +kernel) ?_),C3 q B (by decide) M5,C3 y x (by decide) (by decide)⟩;rw[om ep,du,if_pos rfl]
 |words ws j=>
  obtain⟨_,h2,e,f⟩:=v;refine⟨⟨?_,cn (pl:="50") (by decide +kernel) (eo (by decide +kernel) (by kernel_rfl))⟩,C3 e f (by decide) (by decide),Gu g.1 h2,by have :=mr g.1;exact cP⟩;rw[yu];unfold gH;rw[show lk (cH ⟨nm,o,.words ws j⟩ eh i) "text"=some (iW ws)from eo (by decide +kernel) (by kernel_rfl)];rfl
 |flow sds ws j=>
  obtain⟨_,h2,e,f,l,m⟩:=v;refine⟨⟨?_,cn (pl:="50") (by decide +kernel) (eo (by decide +kernel) (by kernel_rfl))⟩,⟨C3 l m (by decide) (by decide),Gu g.2.1 f,by have :=mr g.2.1;exact cP⟩,h2.symm,λj t p h ep=>?_⟩
  ·rw[yu];unfold gH;rw[show lk (cH ⟨nm,o,.flow sds ws j⟩ eh i) "text"=some (iW ws)from eo (by decide +kernel) (by kernel_rfl)];rfl
  ·obtain⟨d',rfl⟩:=n j t h;refine⟨cn (pl:="left") (by decide +kernel) (vd (by decide +kernel) ?_),by have :=wZ (e p (Do ep));exact cP⟩;rw[qy ep,du,if_pos rfl]
 |over ps=>
  obtain⟨⟨h1,h2⟩,e,f⟩:=v;refine⟨e.symm,λj t p h ep=>?_⟩;obtain⟨d',rfl⟩:=n (j+1) t h;obtain⟨⟨E,A,s⟩,b1,w,C⟩:=f p (Do ep);obtain⟨⟨g1,g2,_⟩,z,F,_⟩:=g p (Do ep);refine⟨cn (pl:="start,0,start,0") (by decide +kernel) (vd (by decide +kernel) ?_),⟨g1,z⟩,⟨cP,cP⟩,C3 A s (by decide) (by decide),C3 w C (by decide) (by decide)⟩;rw[qE ep,du,if_pos rfl]
noncomputable def itemOf(n:Nat)(d:cK)(eh:aY)(i:Nat):gX:=⟨n,d.nm,d.own,d.wh,toldOf (cH d eh i)⟩
noncomputable def nH:Fo->Nat->aY->Nat->List gX
 | .nil,_,_,_=>[]
 | .cons _ d cs as,n,eh,i=>itemOf n d eh i::(nH cs (n+1) d.wh 0++nH as n eh (i+1))
noncomputable def fT:Fo->aY->Nat->List (D×PS)
 | .nil,_,_=>[]
 | .cons _ d cs as,eh,i=>(fq d.wh.kd d.nm d.own d.wh (fD cs),toldOf (cH d eh i))::fT as eh (i+1)
theorem DR:∀(F:Fo)(eh:aY)(i:Nat),(fT F eh i).map (·.1)=fD F
 | .nil,_,_=>rfl
 | .cons a d cs as,eh,i=>by
  show _::(fT as eh (i+1)).map (·.1)=_::fD as;rw[DR as eh (i+1)]
theorem DL:∀(F:Fo)(eh:aY)(i j:Nat)(t:PS),((fT F eh i).map (·.2))[j]? =some t->∃d:cK,t=toldOf (cH d eh (i+j))
 | .nil,_,_,_,_,h=>nomatch h
 | .cons a d cs as,eh,i,0,t,h=>by
  have h:some (toldOf (cH d eh i))=some t:=h
  injection h with h
  exact⟨d,h.symm⟩
 | .cons a d cs as,eh,i,j+1,t,h=>by
  have h:((fT as eh (i+1)).map (·.2))[j]? =some t:=h;obtain⟨d',e⟩:=DL as eh (i+1) j t h;exact⟨d',by rw[e,show i+1+j=i+(j+1)by lia]⟩
noncomputable def cW(W:WT)(n:Nat)(xs:List (D×PS)):WT:=xs.foldl (λW x=>addW W n x) W
theorem E_(h:∀p∈W,p.1≠n)(x:D×PS):addW W n x=W++[(n,[x])]:=by
 unfold addW;rw[if_neg];intro z;obtain⟨p,a,e⟩:=List.any_eq_true.mp z;exact h p a (of_decide_eq_true e)
theorem Fq(h:∀p∈W,p.1≠n)(ys:List (D×PS))(x:D×PS):addW (W++[(n,ys)]) n x=W++[(n,ys++[x])]:=by
 unfold addW;rw[if_pos (List.any_eq_true.mpr ⟨(n,ys),by simp,decide_eq_true rfl⟩),Da]
 congr 1
 ·have :=OL (l:=W) (f:=λp=>if p.1=n then(p.1,p.2++[x])else p) (g:=id) λp a=>if_neg (h p a);rw[this,RK]
 ·show[if n=n then(n,ys++[x])else(n,ys)]=_;rw[if_pos rfl]
theorem mC(h:∀p∈W,p.1≠n):∀(xs ys:List (D×PS)),cW (W++[(n,ys)]) n xs=W++[(n,ys++xs)]
 |[],ys=>by rw[Dk];rfl
 |x::xs,ys=>by
  show cW (addW (W++[(n,ys)]) n x) n xs=_;rw[Fq h,mC h xs (ys++[x]),IR];rfl
theorem oa(h:∀p∈W,p.1≠n)(xs:List (D×PS)):cW W n xs=if xs=[]then W else W++[(n,xs)]:=by
 cases xs with
 |nil=>rfl
 |cons x xs=>
  rw[if_neg (Ou _ _)];show cW (addW W n x) n xs=_;rw[E_ h,mC h];rfl
theorem yA(h:∀p∈W,p.1≠n):W.find? (λp=>decide (p.1=n))=none:=List.find?_eq_none.mpr λp a e=>h p a (of_decide_eq_true e)
theorem BA(h:∀p∈W,p.1≠n)(xs:List (D×PS)):kids (cW W n xs) n=xs:=by
 rw[oa h];unfold kids
 split
 ·rename_i e
  rw[yA h,e];rfl
 ·rw[U0,yA h,Rt (by simp)];rfl
theorem Du(h:∀p∈W,p.1≠n)(xs:List (D×PS)):mz (cW W n xs) n=W:=by
 rw[oa h];have e:W.filter (λp=>decide (p.1≠n))=W:=List.filter_eq_self.mpr λp a=>decide_eq_true (h p a);unfold mz
 split
 ·exact e
 ·rw[Qj,e,Rj (by simp),Sz,Dk]
theorem DK(h:∀p∈W,p.1<=m)(hn:n<=m)(x:D×PS):∀p∈addW W n x,p.1<=m:=by
 unfold addW
 split
 ·intro p a;obtain⟨q,b,rfl⟩:=List.mem_map.mp a;by_cases e:q.1=n
  ·rw[if_pos e];exact h q b
  ·rw[if_neg e];exact h q b
 ·intro p a
  rcases List.mem_append.mp a with z|z
  ·exact h p z
  ·rw[List.mem_singleton.mp z];exact hn
theorem sV(hn:n<=m):∀(xs:List (D×PS))(W:WT),(∀p∈W,p.1<=m)->∀p∈cW W n xs,p.1<=m
 |[],_,h=>h
 |x::xs,W,h=>sV hn xs _ (DK h hn x)
theorem wo(W:WT)(n:Nat)(xs ys:List (D×PS)):cW W n (xs++ys)=cW (cW W n xs) n ys:=by
 unfold cW;rw[Sd]
theorem Dl:∀(F:Fo)(eh:aY)(i:Nat),(fT F eh i).length=F.aD.length
 | .nil,_,_=>rfl
 | .cons a d cs as,eh,i=>by
  show(fT as eh (i+1)).length+1=as.aD.length+1;rw[Dl as]
theorem wN:∀(F:Fo)(n:Nat)(eh:aY)(i:Nat)(it:Bool)(W W':WT)(rest:List gX),VF it F->F.Good->(∀p∈W,p.1<=n)->Run (cW W n (fT F eh i).reverse) rest W'->Run W ((nH F n eh i).reverse++rest) W'
 | .nil,n,eh,i,it,W,W',rest,_,_,_,h=>h
 | .cons a d cs as,n,eh,i,it,W,W',rest,⟨⟨s,y,C⟩,z,u⟩,⟨⟨g1,g2,g3,D⟩,A,q⟩,o,h=>by
  have v:(nH (.cons a d cs as) n eh i).reverse++rest=(nH as n eh (i+1)).reverse++((nH cs (n+1) d.wh 0).reverse++(itemOf n d eh i::rest)):=by
   show(itemOf n d eh i::(nH cs (n+1) d.wh 0++nH as n eh (i+1))).reverse++rest=_;rw[Qn,RS];simp
  rw[v];refine wN as n eh (i+1) it W W' _ u q o ?_;have b:=sV (B2 n) (fT as eh (i+1)).reverse W o
  have l:cW W n (fT (.cons a d cs as) eh i).reverse=addW (cW W n (fT as eh (i+1)).reverse) n (fq d.wh.kd d.nm d.own d.wh (fD cs),toldOf (cH d eh i)):=by
   show cW W n ((fq d.wh.kd d.nm d.own d.wh (fD cs),toldOf (cH d eh i))::fT as eh (i+1)).reverse=_;rw[Qn,wo];rfl
  rw[l]at h;generalize cW W n (fT as eh (i+1)).reverse=k at *;refine wN cs (n+1) d.wh 0 _ k W' _ z A (λp g=>UY (b p g)) ?_
  have c:∀p∈k,p.1≠n+1:=λp g e=>by have :=b p g;lia
  have B:=BA c (fT cs d.wh 0).reverse;have w:=Du c (fT cs d.wh 0).reverse;generalize cW k (n+1) (fT cs d.wh 0).reverse=m at *
  have f:(kids m ((itemOf n d eh i).dep+1)).reverse=fT cs d.wh 0:=by
   show(kids m (n+1)).reverse=_;rw[B,List.reverse_reverse]
  refine Run.cons ⟨JU s,?_,by show d.nm.length<=1000;exact cP⟩ ?_
  ·rw[f];refine Hd g1 ?_ λj t x=>?_
   ·rw[be,Dl];exact y
   ·obtain⟨d',e⟩:=DL cs d.wh 0 j t x;rw[TU]at e;exact⟨d',e⟩
  ·unfold qg;rw[f];show Run (addW (mz m (n+1)) n (kT (itemOf n d eh i) (fT cs d.wh 0))) rest W';rw[w]
   have r:kT (itemOf n d eh i) (fT cs d.wh 0)=(fq d.wh.kd d.nm d.own d.wh (fD cs),toldOf (cH d eh i)):=by
    show(fq d.wh.kd d.nm d.own d.wh ((fT cs d.wh 0).map (·.1)),toldOf (cH d eh i))=_;rw[DR]
   rw[r];exact h
theorem oG(v:VF false (.cons a d cs .nil))(g:(Fo.cons a d cs .nil).Good):Run [] (nH (.cons a d cs .nil) 0 bX 0).reverse [(0,[(fq d.wh.kd d.nm d.own d.wh (fD cs),toldOf (cH d bX 0))])]:=by
 have :=wN (.cons a d cs .nil) 0 bX 0 false [] [(0,[(fq d.wh.kd d.nm d.own d.wh (fD cs),toldOf (cH d bX 0))])] [] v g (λp b=>nomatch b) (Run.nil _);rw[Dk]at this;exact this
theorem iG:∀(F:Fo)(n:Nat)(eh:aY)(i:Nat)(it:Bool)(k:Nat),VF it F->F.Good->(∀x∈aM F,Vn x)->eh.Good->Vw eh k->n+F.bW<=200->(aS F n eh i).length=(nH F n eh i).length/\∀(j:Nat)(row:Str)(r:gX),(aS F n eh i)[j]? =some row->(nH F n eh i)[j]? =some r->∃ps:PS,vp row r.dep r.wh.kd r.nm (kvsOf ps) (gH ps)/\Cz row/\r.ps=toldOf ps
 | .nil,_,_,_,_,_,_,_,_,_,_,_=>⟨rfl,λj row r e=>nomatch e⟩
 | .cons a d cs as,n,eh,i,it,k,⟨⟨A,o,C⟩,w,t⟩,⟨⟨g1,g2,g3,E⟩,y,p⟩,hn,m,l,h=>by
  have h:n+max (cs.bW+1) as.bW<=200:=h;have D:=Nat.le_max_left (cs.bW+1) as.bW;have B:=Vh (cs.bW+1) as.bW;obtain⟨g,s⟩:=iG cs (n+1) d.wh 0 _ _ w y (λx hx=>hn x (De _ (NS _ hx))) g1 o (by lia);obtain⟨u,v⟩:=iG as n eh (i+1) it k t p (λx hx=>hn x (De _ (ND _ hx))) m l (by lia);refine⟨?_,λj row r f b=>?_⟩
  ·show(aS cs (n+1) d.wh 0++aS as n eh (i+1)).length+1=(nH cs (n+1) d.wh 0++nH as n eh (i+1)).length+1;rw[B1,B1,g,u]
  ·cases j with
   |zero=>
    have f:some (B11P.bY d n eh i)=some row:=f;have b:some (itemOf n d eh i)=some r:=b
    injection f with f
    injection b with b
    subst f b;obtain⟨q,z⟩:=KU (i:=i) (n:=n) g1 g2 m o l (hn _ B6) (by lia);exact⟨cH d eh i,q,z,rfl⟩
   |succ j=>
    have f:(aS cs (n+1) d.wh 0++aS as n eh (i+1))[j]? =some row:=f;have b:(nH cs (n+1) d.wh 0++nH as n eh (i+1))[j]? =some r:=b;by_cases c:j<(aS cs (n+1) d.wh 0).length
    ·rw[KF c]at f;rw[KF (by rw[<-g];exact c)]at b;exact s j row r f b
    ·rw[GM (by lia)]at f;rw[GM (by rw[<-g];lia),<-g]at b;exact v _ row r f b
section
variable{K:mo}
theorem eL{i:Int}(h:At K H v (.int i)):v= .int i:=by
 cases h
 rfl
theorem jr(h:At K H v (.str s)):v= .str s:=by
 cases h
 rfl
theorem bV.gS(h:bV K H xs []):xs=[]:=NK h.1
theorem bV.bC{d:D}{ds:List D}(h:bV K H xs (d::ds)):∃x ys,xs=x::ys/\At K H x d/\bV K H ys ds:=by
 cases xs with
 |nil=>exact absurd h.1 (by simp)
 |cons x ys=>exact⟨x,ys,rfl,h.2 0 x d rfl rfl,by have :=h.1;simpa using this,λj y e a b=>h.2 (j+1) y e a b⟩
theorem jP{α:Type}{f:α->D}{R:B3->α->Prop}:∀(l:List α)(xs:List V),bV K H xs (l.map f)->(∀x∈l,∀v,At K H v (f x)->∃a,v= .ref a/\R a x)->∃as:List B3,xs=as.map V.ref/\as.length=l.length/\∀(i:Nat)(a:B3)(x:α),as[i]? =some a->l[i]? =some x->R a x
 |[],xs,h,_=>⟨[],by rw[h.gS];rfl,rfl,λi a x e=>nomatch e⟩
 |y::l,xs,h,g=>by
  obtain⟨x,ys,rfl,h1,h2⟩:=bV.bC h;obtain⟨a,rfl,k⟩:=g y B6 x h1;obtain⟨as,rfl,m,j⟩:=jP l ys h2 λz n=>g z (De _ n);refine⟨a::as,rfl,by rw[FB,FB,m],λi b z c d=>?_⟩
  cases i with
  |zero=>cases c;cases d;exact k
  |succ i=>exact j i b z c d
theorem nF:∀(w:List Str)(xs:List V),bV K H xs (w.map D.str)->xs=dm w
 |[],xs,h=>h.gS
 |y::w,xs,h=>by
  obtain⟨x,ys,rfl,h1,h2⟩:=bV.bC h;rw[jr h1,nF w ys h2];rfl
theorem mh{a:Int}(h:At K H v (.tup [.int a,.int b])):∃p,v= .ref p/\H p=some (.tup [.int a,.int b]):=by
 obtain⟨p,xs,rfl,c,hA⟩:=h.tupS;obtain⟨x,ys,rfl,h1,h2⟩:=hA.bC;obtain⟨y,zs,rfl,d,e⟩:=h2.bC;rw[eL h1,eL d,e.gS]at c;exact⟨p,rfl,c⟩
theorem Hs(h:At K H v (lO o)):∃a,v= .ref a/\hH H a o:=by
 have h:At K H v (.tup [.tup [.int o.w0,.int o.w1],.tup [.int o.h0,.int o.h1],.int o.gr,.int o.sh,.int o.rk,.int o.al]):=h;obtain⟨p,xs,rfl,i,hA⟩:=h.tupS;obtain⟨r,F,rfl,h1,b⟩:=hA.bC;obtain⟨s,z,rfl,h2,f⟩:=b.bC;obtain⟨A,C,rfl,q,g⟩:=f.bC;obtain⟨y,E,rfl,m,e⟩:=g.bC;obtain⟨D,x,rfl,j,c⟩:=e.bC;obtain⟨t,B,rfl,l,d⟩:=c.bC;obtain⟨u,rfl,n⟩:=mh h1;obtain⟨w,rfl,k⟩:=mh h2;rw[eL q,eL m,eL j,eL l,d.gS]at i;exact⟨p,rfl,u,w,i,n,k⟩
theorem words_of(h:At K H v (eM ws)):∃s,v= .ref s/\oU H s ws:=by
 obtain⟨p,xs,rfl,g,hA⟩:=h.tupS
 obtain⟨as,rfl,e,d⟩:=jP (R:=λa w=>H a=some (.tup (dm w))) ws xs hA λw _ v c=>by
  obtain⟨q,ys,rfl,b,hB⟩:=c.tupS;rw[nF w ys hB]at b;exact⟨q,rfl,b⟩
 refine⟨p,rfl,as,g,by rw[be,e],λi a r h1 h2=>?_⟩;rw[B7]at h2;obtain⟨w,f,rfl⟩:=Option.map_eq_some_iff.mp h2;exact d i a w h1 f
theorem Gj(h:At K H v (dy wh)):∃q,v= .ref q/\cT H q wh:=by
 cases wh with
 |leaf a b=>exact mh h
 |lined k g al sd=>
  obtain⟨p,xs,rfl,d,hA⟩:=At.tupS (l:=[.int g,.str al,.str sd]) h;obtain⟨C,M,rfl,h1,T⟩:=hA.bC;obtain⟨f,F,rfl,h2,P⟩:=T.bC;obtain⟨W,Y,rfl,A,S⟩:=P.bC;rw[eL h1,jr h2,jr A,S.gS]at d;exact⟨p,rfl,d⟩
 |table c g sd sps=>
  obtain⟨p,xs,rfl,d,hA⟩:=At.tupS (l:=[.int c,.int g,.str sd,.tup (sps.map λp=> .tup [.int p.1,.int p.2])]) h;obtain⟨C,M,rfl,h1,o⟩:=hA.bC;obtain⟨f,F,rfl,h2,L⟩:=o.bC;obtain⟨W,Y,rfl,A,z⟩:=L.bC;obtain⟨x4,y4,rfl,Z,E⟩:=z.bC;obtain⟨s,zs,rfl,G,hB⟩:=Z.tupS;obtain⟨as,rfl,U,Q⟩:=jP (R:=λa q=>H a=some (.tup (kZ q))) sps zs hB λq _ v y=>mh y;rw[eL h1,eL h2,jr A,E.gS]at d;refine⟨p,rfl,s,as,d,G,by rw[be,U],λi a r h1 h2=>?_⟩;rw[B7]at h2;obtain⟨w,hw,rfl⟩:=Option.map_eq_some_iff.mp h2;exact Q i a w h1 hw
 |words ws j=>
  obtain⟨p,xs,rfl,d,hA⟩:=At.tupS (l:=[eM ws,.int j]) h;obtain⟨C,M,rfl,h1,I⟩:=hA.bC;obtain⟨f,F,rfl,h2,J⟩:=I.bC;obtain⟨s,rfl,G⟩:=words_of h1;rw[eL h2,J.gS]at d;exact⟨p,rfl,s,d,G⟩
 |flow sds ws j=>
  obtain⟨p,xs,rfl,d,hA⟩:=At.tupS (l:=[.tup (sds.map D.str),eM ws,.int j]) h;obtain⟨C,M,rfl,h1,x⟩:=hA.bC;obtain⟨f,F,rfl,h2,m⟩:=x.bC;obtain⟨W,Y,rfl,A,N⟩:=m.bC;obtain⟨t,zs,rfl,X,hB⟩:=h1.tupS;obtain⟨s,rfl,G⟩:=words_of h2;rw[nF sds zs hB]at X;rw[eL A,N.gS]at d;exact⟨p,rfl,t,s,d,X,G⟩
 |over ps=>
  obtain⟨p,xs,rfl,d,hA⟩:=At.tupS (l:=ps.map zh) h
  obtain⟨as,rfl,U,Q⟩:=jP (R:=λa p=>∃b c,H a=some (.tup [.ref b,.ref c])/\H b=some (.tup [.str p.1.1,.int p.1.2])/\H c=some (.tup [.str p.2.1,.int p.2.2])) ps xs hA λq _ v y=>by
   obtain⟨a,zs,rfl,ha,hB⟩:=At.tupS (l:=[.tup [.str q.1.1,.int q.1.2],.tup [.str q.2.1,.int q.2.2]]) y;obtain⟨C,M,rfl,h1,n⟩:=hB.bC;obtain⟨f,F,rfl,h2,e⟩:=n.bC
   have two:∀{v:V}{s:Str}{i:Int},At K H v (.tup [.str s,.int i])->∃b,v= .ref b/\H b=some (.tup [.str s,.int i]):=λ{v s i} y=>by
    obtain⟨b,zs,rfl,O,hC⟩:=y.tupS;obtain⟨C,M,rfl,h1,B⟩:=hC.bC;obtain⟨f,F,rfl,h2,u⟩:=B.bC;rw[jr h1,eL h2,u.gS]at O;exact⟨b,rfl,O⟩
   obtain⟨b,rfl,O⟩:=two h1;obtain⟨c,rfl,hc⟩:=two h2;rw[e.gS]at ha;exact⟨a,rfl,b,c,ha,O,hc⟩
  exact⟨p,rfl,as,d,U,Q⟩
inductive Lk:Fo->Fo->Prop
 |nil:Lk .nil .nil
 |cons {a a':B3} {d:cK} {cs cs' as as':Fo} (h:Lk cs cs') (g:Lk as as'):Lk (.cons a d cs as) (.cons a' d cs' as')
theorem Lk.aD(h:Lk F G):F.aD.length=G.aD.length:=by
 induction h with
 |nil=>rfl
 |cons _ _ _ a=>exact congrArg (· +1) a
theorem Lk.cnt(h:Lk F G):F.cnt=G.cnt:=by
 induction h with
 |nil=>rfl
 | @cons a a' d cs cs' as as' _ _ b c=>
  show cs.cnt+as.cnt+1=cs'.cnt+as'.cnt+1;rw[b,c]
theorem Lk.bW(h:Lk F G):F.bW=G.bW:=by
 induction h with
 |nil=>rfl
 | @cons a a' d cs cs' as as' _ _ b c=>
  show max (cs.bW+1) as.bW=max (cs'.bW+1) as'.bW;rw[b,c]
theorem Lk.good(h:Lk F G)(g:F.Good):G.Good:=by
 induction h with
 |nil=>trivial
 | @cons a a' d cs cs' as as' j k c f=>
  obtain⟨⟨g1,g2,g3,b⟩,i,e⟩:=g;rw[j.aD]at b;exact⟨⟨g1,g2,g3,b⟩,c i,f e⟩
theorem Lk.rows(h:Lk F G):∀(n:Nat)(eh:aY)(i:Nat),aS F n eh i=aS G n eh i:=by
 induction h with
 |nil=>exactλ_ _ _=>rfl
 | @cons a a' d cs cs' as as' f e b c=>
  intro n eh i;show B11P.bY d n eh i::(aS cs (n+1) d.wh 0++aS as n eh (i+1))=B11P.bY d n eh i::(aS cs' (n+1) d.wh 0++aS as' n eh (i+1));rw[b,c]
theorem yO:∀(F:Fo)(xs:List V),bV K H xs (fD F)->∃G:Fo,Lk F G/\xs=G.aD.map V.ref/\G.Ok H
 | .nil,xs,h=>⟨.nil,.nil,h.gS,trivial⟩
 | .cons a d cs as,xs,h=>by
  obtain⟨x,ys,rfl,h1,h2⟩:=bV.bC (d:=fq d.wh.kd d.nm d.own d.wh (fD cs)) (ds:=fD as) h;obtain⟨b,zs,rfl,m,hB⟩:=At.tupS (l:=[.str d.wh.kd,.str d.nm,lO d.own,dy d.wh,.tup (fD cs)]) h1;obtain⟨B,O,rfl,s,g⟩:=hB.bC;obtain⟨C,I,rfl,k2,i⟩:=g.bC;obtain⟨J,L,rfl,n,e⟩:=i.bC;obtain⟨E,N,rfl,y,f⟩:=e.bC;obtain⟨M,D,rfl,A,c⟩:=f.bC;obtain⟨o,rfl,r⟩:=Hs n;obtain⟨q,rfl,z⟩:=Gj y;obtain⟨p,ts,rfl,u,v⟩:=A.tupS;obtain⟨G1,t,rfl,k⟩:=yO cs ts v;obtain⟨G2,w,rfl,j⟩:=yO as ys h2;rw[jr s,jr k2,c.gS]at m;exact⟨.cons b d G1 G2,.cons t w,rfl,⟨o,q,p,m,r,z,u⟩,k,j⟩
theorem bV.two{x y:V}{d e:D}(h:At K H x d)(g:At K H y e):bV K H [x,y] [d,e]:=bV.cons h (bV.cons g bV.nil)
theorem Ja(h:hH H a o):At K H (.ref a) (lO o):=by
 obtain⟨u,v,h1,h2,b⟩:=h;exact bV.tup (bV.cons (bV.tup (bV.two (.int _) (.int _)) h2) (bV.cons (bV.tup (bV.two (.int _) (.int _)) b) (bV.cons (.int _) (bV.cons (.int _) (bV.two (.int _) (.int _)))))) h1
theorem nh{α:Type}{f:α->D}{R:B3->α->Prop}{l:List α}(hl:as.length=l.length)(h:∀(i:Nat)(a:B3)(x:α),as[i]? =some a->l[i]? =some x->R a x)(e:∀x∈l,∀a,R a x->At K H (.ref a) (f x)):bV K H (as.map V.ref) (l.map f):=by
 refine⟨by rw[be,be,hl],λj v d b c=>?_⟩;rw[B7]at b c;obtain⟨a,ha,rfl⟩:=Option.map_eq_some_iff.mp b;obtain⟨x,hx,rfl⟩:=Option.map_eq_some_iff.mp c;exact e x (Do hx) a (h j a x ha hx)
theorem yx{w:List Str}(h:∀x∈w,x.length<=1000):bV K H (dm w) (w.map D.str):=by
 unfold dm;refine⟨by rw[be,be],λj v d b c=>?_⟩;rw[B7]at b c;obtain⟨a,ha,rfl⟩:=Option.map_eq_some_iff.mp b;obtain⟨x,hx,rfl⟩:=Option.map_eq_some_iff.mp c;rw[ha]at hx
 injection hx with hx
 subst hx;exact .str _ (aG (by have :=h a (Do ha);exact cP))
theorem uR{s:B3}(h:oU H s ws)(g:gF ws):At K H (.ref s) (eM ws):=by
 obtain⟨as,h1,h2,c⟩:=h;rw[be]at h2;refine bV.tup (nh (R:=λa w=>H a=some (.tup (dm w))) h2 (λi a x b e=>c i a _ b (by rw[B7,e];rfl)) λw d a ha=>bV.tup (yx λx hx=>?_) ha) h1;have :=((g.2 w d).2.2 x hx).2;exact cP
theorem Ec{q:B3}(h:cT H q wh)(g:wh.Good)(v:∃n,Vw wh n):At K H (.ref q) (dy wh):=by
 cases wh with
 |leaf a b=>exact bV.tup (bV.two (.int _) (.int _)) h
 |lined k m al sd=>exact bV.tup (bV.cons (.int _) (bV.two (.str _ (aG (by have :=g.2.1;exact cP))) (.str _ (aG (by have :=g.2.2;exact cP))))) h
 |table c m sd sps=>
  obtain⟨s,as,h1,h2,d,r⟩:=h;rw[be]at d;exact bV.tup (bV.cons (.int _) (bV.cons (.int _) (bV.two (.str _ (aG (by have :=g.2.2.1;exact cP))) (bV.tup (nh (R:=λa p=>H a=some (.tup (kZ p))) d (λi a x w u=>r i a _ w (by rw[B7,u];rfl)) λp e a ha=>bV.tup (bV.two (.int _) (.int _)) ha) h2)))) h1
 |words ws j=>
  obtain⟨s,h1,h2⟩:=h;exact bV.tup (bV.two (uR h2 g.1) (.int _)) h1
 |flow sds ws j=>
  obtain⟨t,s,h1,h2,d⟩:=h;exact bV.tup (bV.cons (bV.tup (yx λx hx=>by rcases g.1 x hx with rfl|rfl<;>decide +kernel) h2) (bV.two (uR d g.2.1) (.int _))) h1
 |over ps=>
  obtain⟨as,h1,h2,d⟩:=h;refine bV.tup (nh h2 d λp e a ⟨b,c,f,l,o⟩=>?_) h1;obtain⟨⟨_,g1,_⟩,_,g2,_⟩:=g p e;exact bV.tup (bV.two (bV.tup (bV.two (.str _ (aG cP)) (.int _)) l) (bV.tup (bV.two (.str _ (aG cP)) (.int _)) o)) f
theorem s_:∀(F:Fo)(it:Bool),F.Ok H->F.Good->VF it F->bV K H (F.aD.map V.ref) (fD F)
 | .nil,_,_,_,_=>bV.nil
 | .cons a d cs as,it,⟨⟨o,q,p,h1,h2,g,f⟩,c,b⟩,⟨⟨g1,g2,g3,m⟩,i,e⟩,⟨⟨l,h,n⟩,k,j⟩=>by
  refine bV.cons ?_ (s_ as it b e j);exact bV.tup (bV.cons (.str _ (aG (by have :=B11P.kd_len d.wh;exact cP))) (bV.cons (.str _ (aG cP)) (bV.cons (Ja h2) (bV.two (Ec g g1 ⟨_,h⟩) (bV.tup (s_ cs _ c i k) f))))) h1
end
theorem Lk.vf(h:Lk F G):∀{b:Bool},VF b F->VF b G:=by
 induction h with
 |nil=>exactλ_=>trivial
 | @cons a a' d cs cs' as as' j m c e=>
  intro b ⟨⟨f,g,l⟩,i,k⟩;exact⟨⟨f,by rw[<-j.aD];exact g,l⟩,c i,e k⟩
theorem Lk.aX(h:Lk F G):aM F=aM G:=by
 induction h with
 |nil=>rfl
 | @cons a a' d cs cs' as as' _ _ b c=>
  show d.nm::(aM cs++aM as)=d.nm::(aM cs'++aM as');rw[b,c]
theorem rG:∀{F:Fo},iT b tb (F.app G)->iT b tb F/\iT b tb G
 | .nil,h=>⟨trivial,h⟩
 | .cons a d cs as,⟨h1,h2,c⟩=>⟨⟨h1,h2,(rG c).1⟩,(rG c).2⟩
theorem oj:∀F:Fo,(aM F).length=F.cnt
 | .nil=>rfl
 | .cons a d cs as=>by
  show(aM cs++aM as).length+1=cs.cnt+as.cnt+1;rw[B1,oj cs,oj as]
inductive Jz(h:Nat)(vs:List V)(H:Hp)(Q:VK):Prop
 |mk (a:B3) (bd:cK) (cs:Fo) (dep:Int) (it:Bool) (dN:B3) (aX:List Str) (c0:vs=[.ref a,.int dep,.bl it,.ref dN]) (c1:cs.bW<h) (c2:(Fo.cons a bd cs .nil).Ok H) (c3:(Fo.cons a bd cs .nil).Good) (c4:VF it (.cons a bd cs .nil)) (c5:(∀x∈bd.nm::aM cs,Vn x)) (c6:H dN=some (.dK (sy aX))) (c7:(aX++(bd.nm::aM cs)).Nodup) (c8:aX.length+(cs.cnt+1)<=60) (c9:dep+cs.bW<=8) (c10:∀H',Kp dN H H'->H' dN=some (.dK (sy (aX++(bd.nm::aM cs))))->Q .non H')
def FQ(h:Nat):Sp:=λvs H Q _=>Jz h vs H Q
inductive zj(vs:List V)(H:Hp)(Q:VK):Prop
 |mk (a:B3) (bd:cK) (cs:Fo) (c0:vs=[.ref a]) (c1:(Fo.cons a bd cs .nil).Ok H) (c2:(Fo.cons a bd cs .nil).Good) (c3:VF false (.cons a bd cs .nil)) (c4:(∀x∈bd.nm::aM cs,Vn x)) (c5:(bd.nm::aM cs).Nodup) (c6:cs.bW<=7) (c7:cs.cnt<=20) (c8:∀H',af H H'->Q .non H')
def jL:Sp:=λvs H Q _=>zj vs H Q
section
variable{K:mo}
noncomputable abbrev HM:List Str:=["thing","depth","in_table","names","part"]
theorem rE:aw HM Zi (aj dF):=cD
inductive qxF(a dN:B3)(dep:Int)(it:Bool)(H:Hp)(cs:Fo)(aX:List Str)(bd:cK)(i:Nat)(σ:St)(G:Hp):Prop|mk(S:Option V)(l u:Fo)(_:σ=[some (.ref a),some (.int dep),some (.bl it),some (.ref dN),S])(_:Kp dN H G)(_:cs=l.app u)(_:l.aD.length=i)(_:G dN=some (.dK (sy ((aX++[bd.nm])++aM l))))
theorem AL(F:aZ K "look_through" "look_through" dF f fd)(N:aO mg)(G1:av P w K mg base aK 8 f1 d1 Zi (HJ K))(J1:Cq K mg d1 f1 Zi "is_amiss")(G2:av P w K mg base aK 1 f2 d2 Zb (B11P.di 1))(J2:Cq K mg d2 f2 Zb "name_of")(G3:av P w K mg base aK 1 f3 d3 Zb (B11P.di 4))(J3:Cq K mg d3 f3 Zb "parts_of")(G4:av P w K mg base aK 1 f4 d4 Zb (B11P.di 0))(J4:Cq K mg d4 f4 Zb "kind_of")(G5:av P w K mg base aK (9+h) f5 d5 Zi (FQ h))(J5:Cq K mg d5 f5 Zi "look_through"):av P w K mg base aK (9+h+1) f fd Zi (FQ (h+1)):=by
 refine F.cI rE λcdv A outer s H vs Q E U h=>?_
 ·obtain⟨a,bd,cs,dep,it,dN,aX,e,T,ok,good,vf,M,v,nd,W,hd,k⟩:=h;subst e;have I:=U.mono (j:=1) (by lia);have a2:=U.mono (j:=8) (by lia);have t:=U
  have hu:(A.deeper (NB "look_through" (aj dF) s.heap.objs.size f cdv)).units+1<OX:=by have :=U.units;lia
  refine⟨_,ah (aR (bJ (pq G1 a2 J1 (aa (pv 0) (aa (pv 1) (aa (pv 2) (aa (pv 3) ab)))))) (ai e_) az)
   (ah (jT hu (pv 3) (pq G2 I J2 (aa (pv 0) ab)) cQ rfl)
   (ai (cx Np rfl (eK (pq G3 I J3 (aa (pv 0) ab))) (aV (i:=4) rE.nd rfl (Ki rfl))
    (ai (cu (pq G5 t J5 (aa (pv 4) (aa (aJ bz (pv 1) ag) (aa (GR (pv 2) (bQ (bZ bE (pq G4 I J4 (aa (pv 0) ab)) ar (aF _)))) (aa (pv 3) ab)))))))))),?_⟩
  try rw[bO]
  have X:=ok;obtain⟨hb,a3,-⟩:=X;have b2:=hb;obtain⟨o,q,p,e1,e2,e3,e4⟩:=b2;have C:=good;obtain⟨⟨g1,g2,g3,g4⟩,g5,-⟩:=C;have b0:=vf;obtain⟨⟨v1,v2,v3⟩,v4,-⟩:=b0;have ht:At K H (.ref a) (fq bd.wh.kd bd.nm bd.own bd.wh (fD cs)):=(s_ (K:=K) (.cons a bd cs .nil) it ok good vf).2 0 _ _ rfl rfl;refine aq λY R=>?_;refine⟨_,rfl,_,rfl,_,rfl,_,rfl,a,bd,cs.aD,dep,it,dN,aX,fD cs,rfl,⟨a,bd,cs.aD,rfl,hb,g1,v1,v2,M _ B6⟩,hb,ht,v3,v2,by lia,v,λz=>?_,by lia,λH1 s1=>?_⟩
  ·exact(List.nodup_append.mp nd).2.2 _ z _ B6 rfl
  refine⟨_,rfl,dh ?_⟩;refine R _ _ ?_;clear R Y;have a0:bd.nm∉aX:=λz=>(List.nodup_append.mp nd).2.2 _ z _ B6 rfl;have Z:=s1 _ _ v;refine aq λY R=>?_;refine⟨_,rfl,_,rfl,a,_,_,rfl,s1 _ _ e1,rfl,dN,_,rfl,nv.k (k:= .inr bd.nm) Z (small (by rw[yj];lia)),?_⟩;rw[Mj a0];have a9:Kp dN H1 (upd H1 dN (.dK (sy (aX++[bd.nm])))):=Kp.store;have a8:(upd H1 dN (.dK (sy (aX++[bd.nm])))) dN=some (.dK (sy (aX++[bd.nm]))):=ae;generalize upd H1 dN (.dK (sy (aX++[bd.nm])))=H2 at *;have B:Kp dN H H2:=(Kp.of s1).trans a9;have n:∀{H':Hp},Kp dN H H'->KT H H':=λkk b xs e=>kk b _ (λz=>by rw[z,v]at e;cases e) e;refine R _ _ ?_;clear R Y;refine⟨_,rfl,a,_,_,rfl,n B _ _ e1,rfl,p,rfl,⟨_,ba.of (n B _ _ e4)⟩,rD (K:=K) (a:=p) (xs:=cs.aD.map V.ref) (qxF a dN dep it H cs aX bd) ⟨none,.nil,cs,rfl,B,rfl,rfl,by rw[a8];show _=some (HO.dK (sy ((aX++[bd.nm])++[])));rw[Dk]⟩ ?_ ?_ ?_⟩
  ·rintro i σ G hi ⟨S,l,u,rfl,D,_⟩;exact ba.of (n D _ _ e4)
  ·rintro i x σ G ex ⟨S,l,u,rfl,D,g,m,hG⟩
   cases u with
   |nil=>
    exfalso;have :=bw ex;rw[be,g,Fo.bx,B1,m]at this;simp[Fo.aD]at this
   |cons O b1 c1 r=>
    have a6:x= .ref O:=by
     rw[g,Fo.bx,Da,GM (by rw[be];lia),be,m,Rr]at ex;exact(Kf ex).symm
    subst a6;have L:=a3.keep (n D);rw[g]at L g5 v4 M nd T W hd;obtain⟨_,a4,J,_⟩:=Fo.fS.mp L;obtain⟨_,a7,b3,_⟩:=Fo.fc.mp g5;obtain⟨_,b4,a5,_⟩:=rG v4;rw[eG]at M nd;have en:aM (.cons O b1 c1 r)=(b1.nm::aM c1)++aM r:=rfl;rw[en]at M nd;rw[Fo.ee]at W;have W:aX.length+((l.cnt+(c1.cnt+r.cnt+1))+1)<=60:=W;rw[Fo.fI]at T hd;have T:max l.bW (max (c1.bW+1) r.bW)<h+1:=T;have hd:dep+((max l.bW (max (c1.bW+1) r.bW):Nat):Int)<=8:=hd
    have ek:∀(x y:List Str),aX++bd.nm::(aM l++((b1.nm::aM c1)++aM r))=(((aX++[bd.nm])++aM l)++(b1.nm::aM c1))++aM r:=λ_ _=>by simp
    rw[ek [] []]at nd;refine⟨_,rfl,_,rfl,_,_,rfl,rfl,AK (c:=decide (V.str bd.wh.kd=V.str "table")) rfl (λQ' kq=>⟨_,rfl,a,_,_,rfl,n D _ _ e1,rfl,rfl,kq⟩) ?_⟩;refine⟨_,rfl,O,b1,c1,dep+1,it||decide (V.str bd.wh.kd=V.str "table"),dN,(aX++[bd.nm])++aM l,rfl,by lia,⟨a4,J,trivial⟩,⟨a7,b3,trivial⟩,⟨b4,a5,trivial⟩,λx hx=>M x (De _ (ND _ (NS _ hx))),hG,(List.nodup_append.mp nd).1,?_,by lia,λH' k1 k2=>⟨_,l.app (.cons O b1 c1 .nil),r,rfl,D.trans k1,?_,?_,?_⟩⟩
    ·rw[B1,B1,oj];show aX.length+1+l.cnt+(c1.cnt+1)<=60
     lia
    ·rw[g,Fo.qY];rfl
    ·rw[Fo.bx,B1,m];rfl
    ·rw[k2,eG];show _=some (HO.dK (sy ((aX++[bd.nm])++(aM l++(b1.nm::(aM c1++[]))))));rw[Dk,IR]
  ·rintro σ G ⟨S,l,u,rfl,D,g,m,hG⟩
   have eF:u= .nil:=by
    have e:cs.aD.length=(l.app u).aD.length:=by rw[g]
    rw[Fo.bx,B1,m,be]at e
    cases u with
    |nil=>rfl
    |cons O b1 c1 r=>exact absurd e (by show¬_=_+(r.aD.length+1);lia)
   rw[eF]at g
   have e0:l.app .nil=l:=by
    have :∀F:Fo,F.app .nil=F:=λF=>by
     induction F with
     |nil=>rfl
     |cons a d cs as _ ih=>show Fo.cons a d cs (as.app .nil)=_;rw[ih]
    exact this l
   rw[e0]at g;subst g;refine k G D ?_;rw[hG,IR];rfl
theorem uI(F:aZ K "look_through" "look_through" dF f fd)(N:aO mg)(G1:av P w K mg base aK 8 f1 d1 Zi (HJ K))(b:Cq K mg d1 f1 Zi "is_amiss")(G2:av P w K mg base aK 1 f2 d2 Zb (B11P.di 1))(d:Cq K mg d2 f2 Zb "name_of")(k:av P w K mg base aK 1 f3 d3 Zb (B11P.di 4))(g:Cq K mg d3 f3 Zb "parts_of")(c:av P w K mg base aK 1 f4 d4 Zb (B11P.di 0))(i:Cq K mg d4 f4 Zb "kind_of")(j:Cq K mg fd f Zi "look_through"):∀h:Nat,av P w K mg base aK (9+h) f fd Zi (FQ h)
 |0=>by
  refine F.ok rE (λvs H Q E h=>?_) (λcdv A outer s H vs Q E m h=>?_)
  ·obtain⟨a,bd,cs,dep,it,dN,aX,e,_⟩:=h;rw[e];rfl
  ·obtain⟨a,bd,cs,dep,it,dN,aX,e,l,_⟩:=h;exact absurd l (Pn _)
 |h+1=>AL F N G1 b G2 d k g c i (uI F N G1 b G2 d k g c i j h) j
noncomputable abbrev Es:List Str:=Za
theorem CA:aw Es Za (aj je):=cD
theorem zl(F:aZ K "check_tree" "check_tree" je f fd)(N:aO mg)(G1:av P w K mg base aK 21 f1 d1 Zi (FQ 12))(n:Cq K mg d1 f1 Zi "look_through"):av P w K mg base aK 22 f fd Za jL:=by
 refine F.cI CA λcdv A outer s H vs Q E l h=>?_
 ·obtain⟨a,bd,cs,e,ok,good,vf,o,nd,q,r,k⟩:=h;subst e;have c:=l.mono (j:=21) (by decide);refine⟨_,ai (cu (pq G1 c n (aa (pv 0) (aa ag (aa cQ (aa gk ab)))))),?_⟩
  try rw[bO]
  refine⟨_,rfl,λdN d=>⟨a,bd,cs,1,false,dN,[],rfl,K4,ok.keep (KT.put d),good,vf,o,ae,nd,by show 0+(cs.cnt+1)<=60;lia,by lia,λH' m _=>k H' λb p g=>?_⟩⟩
  have i:b≠dN:=λz=>by rw[z,d]at g;cases g
  exact m b p i ((ak i).trans g)
end
section
open PySem.Spec PyProof.Rows
def K1(tb:TS):TS:=λD σ H=>tb {nx:=D.nx,rt:=λ_ _=>False} σ H
theorem Fu{h0:ExceptHandler}{e:List ExceptHandler}{body:List NG}{tb:TS}{tpos:Pos}(c:∀(pn:List (B3×Obj))(xe:B5->Gc->Prop),wG {X with pn:=pn,xe:=xe} body tb):
  L2.PS X (.Try body (h0::e) [] [] tpos) (K1 tb):=by
 intro pins s σ H D I h;refine wpAny_Try_except ?_;have a:=c (X.pn++pins) (λ_ _=>False) [] s σ H _ I.Ku h;refine OR a (λf s1 z=>?_) (λg s1 z=>z.elim)
 cases f with
 |next=>
  obtain⟨σ',H',d,q⟩:=z;exact QI ⟨σ',H',d.Me,q⟩
 |brk=>obtain⟨_,_,_,b⟩:=z;exact b.elim
 |cont=>obtain⟨_,_,_,b⟩:=z;exact b.elim
 |ret u=>obtain⟨_,_,_,_,_,b⟩:=z;exact b.elim
end
variable{J:It}{l':List D}{ys:List V}{bd d':cK}{cs':Fo}{o':Own}{wh':aY}{us:List B5}
theorem Hb{α:Type}{l:List α}(inj:α->V)(R:Hp->V->α->Prop)(C:∀(H H':Hp)(v:V)(x:α),af H H'->R H v x->R H' v x)(B:∀(H:Hp)(a:B3)(xs ys:List V)(v:V)(x:α),H a=some (.lst xs)->R H v x->R (upd H a (.lst ys)) v x)(r:gp J H (l.map inj))(hn:l.length<sizeLine)(G:∀(x:α)(H':Hp)(k:Bool->Hp->Prop),x∈l->af H H'->(∀b,af H' b->k true b)->tt (some (inj x)::σ) H' k)(he:∀(x:α)(H':Hp)(k:VK),x∈l->af H H'->(∀v b,af H' b->R b v x->k v b)->te (some (inj x)::σ) H' k)(hd:∀(g:B3)(xs:List V)(H':Hp),H g=none->af H H'->H' g=some (.lst xs)->(xs.length=l.length/\∀(j:Nat)(v:V)(x:α),xs[j]? =some v->l[j]? =some x->R H' v x)->Q (.ref g) H'):fk J H σ tt te Q:=by
 intro g s;refine⟨λi m H'=>m=l.length-i/\i<=l.length/\af H H'/\∃xs:List V,H' g=some (.lst xs)/\xs.length=i/\∀(j:Nat)(v:V)(x:α),xs[j]? =some v->l[j]? =some x->R H' v x,⟨_,rfl,Nl _,af.mV (af.refl H) s,[],ae,rfl,λj v x e=>nomatch e⟩,?_⟩;rintro i m H' ⟨rfl,hi,s1,xs,hl,n,w⟩;by_cases d:i<l.length
 ·refine .inr ⟨r.1 i H' s1 (by rw[be];exact d),λx H2 y=>?_⟩;obtain⟨e,t⟩:=r.2.2 i x H' H2 s1 y;subst e;have ex:l[i]? =some l[i]:=B0 d;rw[B7,ex]at t
  cases t
  have hm:=Do ex;generalize l[i]=x at *;refine G x _ _ hm s1 λH3 A=>eY (he x _ _ hm (af.trans s1 A) λv H4 o E=>?_);have p:=af.trans A o;have f:=p _ _ hl;refine⟨_,f,?_,_,OH _ _ d,rfl,d,af.mV (af.trans s1 p) s,xs++[v],ae,by rw[B1,n];rfl,λj u z h q=>?_⟩
  ·rw[n]
   lia
  ·by_cases c:j<xs.length
   ·rw[KF c]at h;exact B _ _ _ _ _ _ f (C _ _ _ _ p (w j u z h q))
   ·rw[GM (by lia)]at h
    have D:j-xs.length=0:=by
     have :=bw h;simp at this;exact vY
    rw[D]at h
    cases h
    have F:j=i:=by lia
    rw[F,ex]at q
    cases q
    exact B _ _ _ _ _ _ f E
 ·have e:i=l.length:=by lia
  have :=r.2.1 H' s1;rw[be]at this;rw[e];refine .inl ⟨this,?_⟩;exact hd g xs H' s s1 hl ⟨by lia,w⟩
theorem xA{α:Type}{S:B3->α->Prop}:∀(l:List α)(xs:List V),xs.length=l.length->(∀(j:Nat)(v:V)(x:α),xs[j]? =some v->l[j]? =some x->∃a,v= .ref a/\S a x)->∃as:List B3,xs=as.map V.ref/\as.length=l.length/\∀(j:Nat)(a:B3)(x:α),as[j]? =some a->l[j]? =some x->S a x
 |[],xs,h,_=>⟨[],NK h,rfl,λi a x e=>nomatch e⟩
 |y::l,[],h,_=>absurd h (by simp)
 |y::l,x::ys,h,g=>by
  obtain⟨a,rfl,m⟩:=g 0 x y rfl rfl;obtain⟨as,rfl,c,k⟩:=xA l ys (by simpa using h) λj v z n c=>g (j+1) v z n c;refine⟨a::as,rfl,by rw[FB,FB,c],λi b z d f=>?_⟩
  cases i with
  |zero=>cases d;cases f;exact m
  |succ i=>exact k i b z d f
structure Drawn(d:cK)(cs:Fo):Prop where
 vf:VF false (.cons 0 d cs .nil)
 good:(Fo.cons 0 d cs .nil).Good
 aX:∀x∈aM (.cons 0 d cs .nil),Vn x
 nd:(aM (.cons 0 d cs .nil)).Nodup
 bW:cs.bW<=7
 cnt:cs.cnt<=20
noncomputable def textOf(d:cK)(cs:Fo):Str:=NA "\n" (B11P.bY d 0 bX 0::aS cs 1 d.wh 0)
noncomputable def eC(d:cK)(cs:Fo):D:=fq d.wh.kd d.nm d.own d.wh (fD cs)
inductive DS(K:mo)(vs:List V)(H:Hp)(Q:VK):Prop
 |mk (d:cK) (cs:Fo) (c0:vs=[.str (textOf d cs)]) (c1:Drawn d cs) (c2:∀(v:V)(H':Hp),af H H'->At K H' v (eC d cs)->Q v H')
def xQ(K:mo):Sp:=λvs H Q _=>DS K vs H Q
theorem jH:∀F:Fo,(aM F).length=F.cnt
 | .nil=>rfl
 | .cons a d cs as=>by
  show(aM cs++aM as).length+1=cs.cnt+as.cnt+1;rw[B1,jH cs,jH as]
theorem lV:Vw bX 0:=⟨rfl,⟨by decide,by decide⟩,by decide,by decide⟩
theorem sv(d:cK)(cs:Fo):aS (.cons 0 d cs .nil) 0 bX 0=B11P.bY d 0 bX 0::aS cs 1 d.wh 0:=by
 show B11P.bY d 0 bX 0::(aS cs (0+1) d.wh 0++[])=_;rw[Dk]
theorem gR(h:Drawn d cs):Oh (textOf d cs) "\n"=aS (.cons 0 d cs .nil) 0 bX 0/\(textOf d cs).length<=99000:=by
 have o:(Fo.cons 0 d cs .nil).bW<=8:=by
  show max (cs.bW+1) 0<=8;have :=h.bW
  lia
 obtain⟨m,k⟩:=iG (.cons 0 d cs .nil) 0 bX 0 false 0 h.vf h.good h.aX dV lV (by lia);have l:=jK (.cons 0 d cs .nil) 0 bX 0 h.good dV (by lia);have a:=dR 0 bX (.cons 0 d cs .nil) 0 bX 0;unfold textOf;rw[<-sv];refine⟨?_,?_⟩
 ·rw[join_eq];refine dU (c:=10) (t:=[]) Fn (by decide +kernel) (Ou _ _) λp n f=>?_;obtain⟨j,i⟩:=OY n
  have b:j<(nH (.cons 0 d cs .nil) 0 bX 0).length:=by rw[<-m];exact bw i
  obtain⟨ps,_,cz,_⟩:=k j p _ i (B0 b);have :=cz 10 f
  lia
 ·have g:=fi "\n" _ l
  have e:("\n":Str).length=1:=by decide +kernel
  rw[e,a]at g
  have f:(Fo.cons 0 d cs .nil).cnt<=21:=by
   show cs.cnt+0+1<=21;have :=h.cnt
   lia
  have :(Fo.cons 0 d cs .nil).cnt*(2000+1)<=21*2001:=QC _ f
  lia
def CO:TS:=Gp (ie jL [] E0 (cG (kh 1) fu))
section
variable{K:mo}
noncomputable abbrev qr:List Str:=["text","tree"]
theorem nY:aw qr Zf (aj iA):=cD
theorem tq(F:aZ K "read_tree" "read_tree" iA f fd)(N:aO mg)(G1:av P w K mg base aK 5 f1 d1 ["rows"] (Gw K C))(J1:Cq K mg d1 f1 ["rows"] "outermost_read")(G2:av P w K mg base aK 3 f2 d2 ["row"] (A6 C))(J2:Cq K mg d2 f2 ["row"] "row_read")(G3:av P w K mg base aK 22 f3 d3 Za jL)(J3:Cq K mg d3 f3 Za "check_tree")(G4:av P w K mg base aK 17 f4 d4 Ze gM)(J4:Cq K mg d4 f4 Ze "tree_text"):av P w K mg base aK 23 f fd Zf (xQ K):=by
 refine F.cI nY λcdv A outer s H vs Q E M h=>?_
 ·obtain⟨d,cs,e,hd,k⟩:=h;subst e;have Z:=M.mono (j:=3) (by decide);have a1:=M.mono (j:=5) (by decide);have I:=M.mono (j:=17) (by decide);have D:=M.mono (j:=22) (by decide)
  refine⟨_,ah (aB (i:=1) nY.nd rfl (Ki rfl) (pq G1 a1 J1 (aa (cp (bg (fs:=aj iA) (N:=qr) rfl rfl (by decide +kernel)) rfl (dr (cw Nu O7 O6 gh (pv 0) (aa ar ab))) (λ_ _ _ _ _=>bH) (λ_ _ _ _ _=>(pq G2 Z J2 (aa (pv 0) ab)))) ab)))
   (ah (Fu (tb:=CO) (λpn xe=>(ai (cu (pq G3 D J3 (aa (pv 1) ab))))))
   (ah (aR (aA kr (pq G4 I J4 (aa (pv 1) ab)) (pv 0) (aF _)) (ai e_) az)
   (ai (au (pv 1))))),?_⟩
  try rw[bO]
  obtain⟨T,a2⟩:=gR hd
  have h8:(Fo.cons 0 d cs .nil).bW<=8:=by
   show max (cs.bW+1) 0<=8;have :=hd.bW
   lia
  have a3:(Fo.cons 0 d cs .nil).cnt<=21:=by
   show cs.cnt+0+1<=21;have :=hd.cnt
   lia
  obtain⟨J,r1⟩:=iG (.cons 0 d cs .nil) 0 bX 0 false 0 hd.vf hd.good hd.aX dV lV (by lia);have L:=dR 0 bX (.cons 0 d cs .nil) 0 bX 0;refine aq λu o=>?_;refine⟨_,rfl,rfl,_,_,rfl,rfl,by decide +kernel,aG (by lia),λl hl=>?_⟩;rw[T];generalize Y:upd H l _=H1
  have s1:af H H1:=by rw[<-Y];exact af.put (af.refl _) hl
  have h1:H1 l=some (.lst ((aS (.cons 0 d cs .nil) 0 bX 0).map V.str)):=by rw[<-Y];exact ae
  clear Y
  have ez:((aS (.cons 0 d cs .nil) 0 bX 0).zip (nH (.cons 0 d cs .nil) 0 bX 0)).map (λp=>V.str p.1)=(aS (.cons 0 d cs .nil) 0 bX 0).map V.str:=by
   rw[show(λp:Str×gX=>V.str p.1)=V.str∘SU from rfl,<-NO,Sk (by rw[J];exact B2 _)]
  have el:((aS (.cons 0 d cs .nil) 0 bX 0).zip (nH (.cons 0 d cs .nil) 0 bX 0)).length=(nH (.cons 0 d cs .nil) 0 bX 0).length:=by
   rw[Sx,J,Nat.min_self]
  refine⟨l,rfl,⟨_,bf.of h1⟩,Hb (α:=Str×gX) (l:=(aS (.cons 0 d cs .nil) 0 bX 0).zip (nH (.cons 0 d cs .nil) 0 bX 0)) (λp=> .str p.1) (λG v p=>∃x b,v= .ref x/\Cp C G x p.2.dep p.2.wh.kd p.2.nm b/\Told G b p.2.ps) (λG G' v p s t=>by obtain⟨x,b,e,⟨dx,g⟩,n⟩:=t;exact⟨x,b,e,⟨dx,s _ _ g⟩,n.same s⟩) (λG a xs ys v p ha t=>by obtain⟨x,b,e,⟨dx,g⟩,n⟩:=t;exact⟨x,b,e,⟨dx,by rw[ak (λz=>by rw[z,ha]at g;cases g)];exact g⟩,by unfold Told at n⊢;rw[ak (λz=>by rw[z,ha]at n;cases n)];exact n⟩) (by rw[ez];exact gp.list (bf.of h1)) (small (by rw[el,<-J,L];exact cP)) (λx H' Q' _ _ W=>W _ (af.refl _)) (λp H' Q' hp s' W=>?_) λDD xs H2 hD s2 h2 hA=>?_⟩
  ·obtain⟨j,hj⟩:=OY hp;obtain⟨z1,z2⟩:=vO hj;obtain⟨ps,g,_,q3⟩:=r1 j p.1 p.2 z1 z2;refine⟨_,rfl,p.1,p.2.dep,p.2.wh.kd,p.2.nm,kvsOf ps,gH ps,rfl,g,λx b G sG hx hT=>W _ G sG ⟨x,b,rfl,hx,?_⟩⟩;rw[q3];exact hT
  obtain⟨as,rfl,e2,e3⟩:=xA _ xs hA.1 (S:=λx p=>∃b,Cp C H2 x p.2.dep p.2.wh.kd p.2.nm b/\Told H2 b p.2.ps) λj v p O e2=>by
   obtain⟨x,b,e,g,n⟩:=hA.2 j v p O e2;exact⟨x,e,b,g,n⟩
  refine⟨DD,as,nH (.cons 0 d cs .nil) 0 bX 0,eC d cs,toldOf (cH d bX 0),rfl,h2,⟨by rw[e2,el],λi x r O e4=>?_⟩,by rw[<-J,L];exact cP,oG hd.vf hd.good,λv H3 s3 hv=>?_⟩
  ·have hi:i<(aS (.cons 0 d cs .nil) 0 bX 0).length:=by rw[J];exact bw e4
   refine e3 i x ((aS (.cons 0 d cs .nil) 0 bX 0)[i],r) O ?_;rw[S8];exact⟨B0 hi,e4⟩
  refine o _ _ ?_;clear o u;obtain⟨G,m,B,y⟩:=yO (.cons 0 d cs .nil) [v] (bV.cons hv bV.nil);have c:=m.good hd.good;have R:=m.vf hd.vf;have q:=m.aX
  cases m with
  | @cons _ a' _ _ cs' _ as' X la=>
   cases la with
   |nil=>
    have B:[v]=[V.ref a']:=B
    injection B with B _
    subst B;have O:=X.bW;have a4:=X.cnt;have g:=hd.bW;have n:=hd.cnt
    have en:aM (.cons a' d cs' .nil)=d.nm::aM cs':=by
     show d.nm::(aM cs'++[])=_;rw[Dk]
    rw[en]at q;refine aq λu o=>?_;refine⟨_,rfl,a',d,cs',rfl,y,c,R,λx hx=>hd.aX x (by rw[q];exact hx),by rw[<-q];exact hd.nd,by lia,by lia,λH4 U=>?_⟩;refine o _ _ ?_;clear o u;have a0:=hv.same U;refine aq λu o=>?_;refine⟨_,rfl,a',d,cs',rfl,y.keep (KT.same U),c,by lia,by lia,λH5 s5=>⟨_,rfl,rfl,_,rfl,br ?_ ?_⟩⟩
    ·rw[<-X.rows];show(!decide (V.str (textOf d cs)=V.str (textOf d cs)))=false;rw[decide_eq_true rfl];rfl
    refine o _ _ ?_;clear o u;exact⟨_,rfl,k _ H5 (af.trans s1 (af.trans s2 (af.trans s3 (af.trans U s5)))) (a0.same s5)⟩
end
def jh:Nat->D->Prop
 |_,.int _=>True
 |_,.str _=>True
 |n+1,.tup l=>∀x∈l,jh n x
 |_,_=>False
theorem jh.no{d:D}(p:jh n d)(h:d= .non∨(∃b,d= .bl b)∨d= .oth):False:=by
 rcases h with rfl|⟨b,rfl⟩|rfl<;>cases n<;>exact p
theorem jh.z{l:List D}(p:jh 0 (.tup l)):False:=p
theorem bV.ext{K:mo}{l:List D}(h:bV K H xs l)(g:bV K H xs l')(u:∀x∈l,∀(v:V)(d':D),At K H v x->At K H v d'->x=d'):l=l':=by
 have b:=h.1;have c:=g.1;refine Rk (by lia) λj h1 h2=>?_
 have a:j<xs.length:=by lia
 exact u _ (Pa h1) xs[j] _ (h.2 j _ _ (B0 a) (B0 h1)) (g.2 j _ _ (B0 a) (B0 h2))
theorem At.uniq{K:mo}:∀(n:Nat)(d d':D)(v:V),jh n d->At K H v d->At K H v d'->d=d'
 |n,.int i,d',v,_,h,g=>by
  cases h
  cases g
  rfl
 |n,.str x,d',v,_,h,g=>by
  cases h
  cases g
  rfl
 |n+1,.tup l,d',v,p,h,g=>by
  obtain⟨a,xs,rfl,ha,hA⟩:=h.tupS
  cases d' with
  |tup l'=>
   obtain⟨b,ys,e,c,hB⟩:=g.tupS
   cases e
   rw[ha]at c
   injection c with c
   injection c with c
   subst c;rw[hA.ext hB λx hx v d' h1 h2=>At.uniq n x d' v (p x hx) h1 h2]
  |oth=>cases g with|oth g=>rw[ha]at g;cases g
  |_=>cases g
 |0,.tup l,_,_,p,_,_=>p.z.elim
 |n,.non,_,_,p,_,_=>(p.no (.inl rfl)).elim
 |n,.bl b,_,_,p,_,_=>(p.no (.inr (.inl ⟨_,rfl⟩))).elim
 |n,.oth,_,_,p,_,_=>(p.no (.inr (.inr rfl))).elim
theorem pN{K:mo}{l:List D}(hA:bV K H xs l)(hB:bV K H ys l')(p:∀d∈l,∀d'∈l',∀v m:V,At K H v d->At K H m d'->∃b:Bool,mi K H n v m b/\(b=true↔d=d')):
  ∃e:Nat->Bool,(∀(j:Nat)(x y:V),xs[j]? =some x->ys[j]? =some y->mi K H n x y (e j))/\(((Nz (min xs.length ys.length)).all e&&xs.length==ys.length)=true↔l=l'):=by
 have s:=hA.1;have u:=hB.1
 have g:∀j:Nat,∃c:Bool,(∀x y,xs[j]? =some x->ys[j]? =some y->mi K H n x y c)/\(∀d e,l[j]? =some d->l'[j]? =some e->(c=true↔d=e)):=λj=>by
  cases ex:l[j]? with
  |none=>exact⟨true,λx y a f=>by have :=bw a;have :=List.getElem?_eq_none_iff.mp ex;lia,λd e a=>nomatch a⟩
  |some d=>
   cases i:l'[j]? with
   |none=>exact⟨true,λx y a f=>by have :=bw f;have :=List.getElem?_eq_none_iff.mp i;lia,λd e _ a=>nomatch a⟩
   |some d'=>
    have t:=bw ex;have w:=bw i
    have h1:j<xs.length:=by lia
    have h2:j<ys.length:=by lia
    obtain⟨c,c1,c2⟩:=p d (Do ex) d' (Do i) xs[j] ys[j] (hA.2 j _ _ (B0 h1) ex) (hB.2 j _ _ (B0 h2) i);refine⟨c,λx y a f=>?_,λd e a f=>?_⟩
    ·rw[B0 h1]at a;rw[B0 h2]at f
     cases a
     cases f
     exact c1
    ·cases a
     cases f
     exact c2
 have o:∃e:Nat->Bool,∀j,(∀x y,xs[j]? =some x->ys[j]? =some y->mi K H n x y (e j))/\(∀d k,l[j]? =some d->l'[j]? =some k->(e j=true↔d=k)):=⟨λj=>Classical.choose (g j),λj=>Classical.choose_spec (g j)⟩;obtain⟨e,he⟩:=o;refine⟨e,λj x y=>(he j).1 x y,?_⟩;rw[Oi,Rl,beq_iff_eq];constructor
 ·rintro⟨h1,h2⟩;refine Rk (by lia) λj h q=>?_;exact((he j).2 _ _ (B0 h) (B0 q)).mp (h1 j (List.mem_range.mpr (by lia)))
 ·intro z;subst z;refine⟨λj r=>?_,by lia⟩;have :=List.mem_range.mp r
  have h:j<l.length:=by lia
  exact((he j).2 _ _ (B0 h) (B0 h)).mpr rfl
theorem MA{K:mo}:∀(n:Nat)(d d':D)(v c:V),jh n d->jh n d'->At K H v d->At K H c d'->∃b:Bool,mi K H n v c b/\(b=true↔d=d')
 |n,.int i,.int j,v,c,_,_,h,g=>by
  cases h
  cases g
  refine⟨_,mi.flat rfl rfl,?_⟩;show(i==j)=true↔_;simp
 |n,.int i,.str j,v,c,_,_,h,g=>by
  cases h
  cases g
  exact⟨_,mi.flat rfl rfl,by show false=true↔_;simp⟩
 |n,.str i,.int j,v,c,_,_,h,g=>by
  cases h
  cases g
  exact⟨_,mi.flat rfl rfl,by show false=true↔_;simp⟩
 |n,.str i,.str j,v,c,_,_,h,g=>by
  cases h
  cases g
  refine⟨_,mi.flat rfl rfl,?_⟩;show(i==j)=true↔_;simp
 |n+1,.int i,.tup l,v,c,_,_,h,g=>by
  cases h
  obtain⟨b,ys,rfl,f,hB⟩:=g.tupS;exact⟨_,mi.mixL rfl (.inl (.inl f)),by simp⟩
 |n+1,.str i,.tup l,v,c,_,_,h,g=>by
  cases h
  obtain⟨b,ys,rfl,f,hB⟩:=g.tupS;exact⟨_,mi.mixL rfl (.inl (.inl f)),by simp⟩
 |n+1,.tup l,.int i,v,c,_,_,h,g=>by
  cases g
  obtain⟨b,ys,rfl,f,hB⟩:=h.tupS;exact⟨_,mi.mixR (.inl (.inl f)) rfl,by simp⟩
 |n+1,.tup l,.str i,v,c,_,_,h,g=>by
  cases g
  obtain⟨b,ys,rfl,f,hB⟩:=h.tupS;exact⟨_,mi.mixR (.inl (.inl f)) rfl,by simp⟩
 |n+1,.tup l,.tup l',v,c,p,q,h,g=>by
  obtain⟨a,xs,o,ha,hA⟩:=h.tupS;obtain⟨b,ys,m,f,hB⟩:=g.tupS;subst o m;by_cases ne:a=b
  ·subst ne;exact⟨true,mi.same,by simp only[true_iff];exact At.uniq (n+1) _ _ _ p h g⟩
  ·obtain⟨e,h1,h2⟩:=pN (n:=n) hA hB λd hd d' k v c=>MA n d d' v c (p d hd) (q d' k);refine⟨_,mi.tup ne (.inl (.inl ha)) (.inl (.inl f)) e h1,?_⟩;rw[h2];exact⟨λz=>by rw[z],λz=>by injection z⟩
 |0,.tup l,_,_,_,p,_,_,_=>p.z.elim
 |0,_,.tup l,_,_,_,p,_,_=>p.z.elim
 |n,.non,_,_,_,p,_,_,_=>(p.no (.inl rfl)).elim
 |n,.bl b,_,_,_,p,_,_,_=>(p.no (.inr (.inl ⟨_,rfl⟩))).elim
 |n,.oth,_,_,_,p,_,_,_=>(p.no (.inr (.inr rfl))).elim
 |n,_,.non,_,_,_,p,_,_=>(p.no (.inl rfl)).elim
 |n,_,.bl b,_,_,_,p,_,_=>(p.no (.inr (.inl ⟨_,rfl⟩))).elim
 |n,_,.oth,_,_,_,p,_,_=>(p.no (.inr (.inr rfl))).elim
theorem jh.mono:∀(n m:Nat)(d:D),n<=m->jh n d->jh m d
 |_,m,.int _,_,_=>by cases m<;>exact trivial
 |_,m,.str _,_,_=>by cases m<;>exact trivial
 |n+1,m+1,.tup l,h,p=>λx hx=>jh.mono n m x (by lia) (p x hx)
 |0,_,.tup l,_,p=>p.z.elim
 |n+1,0,.tup l,h,_=>absurd h (by lia)
 |n,_,.non,_,p=>(p.no (.inl rfl)).elim
 |n,_,.bl b,_,p=>(p.no (.inr (.inl ⟨_,rfl⟩))).elim
 |n,_,.oth,_,p=>(p.no (.inr (.inr rfl))).elim
theorem xS{K:mo}{l:List D}{c:V}(p:jh 41 (.tup l))(o:jh 41 (.tup l'))(h:At K H v (.tup l))(g:At K H c (.tup l')):
  ∃(a b:B3)(xs ys:List V)(e:Nat->Bool),v= .ref a/\c= .ref b/\ba K H a xs/\ba K H b ys/\(∀(j:Nat)(x y:V),xs[j]? =some x->ys[j]? =some y->mi K H 40 x y (e j))/\(((Nz (min xs.length ys.length)).all e&&xs.length==ys.length)=true↔l=l'):=by
 obtain⟨a,xs,m,ha,hA⟩:=h.tupS;obtain⟨b,ys,i,k,hB⟩:=g.tupS;obtain⟨e,h1,h2⟩:=pN (n:=40) hA hB λd hd d' f v c=>MA 40 d d' v c (p d hd) (o d' f);exact⟨a,b,xs,ys,e,m,i,.inl (.inl ha),.inl (.inl k),h1,h2⟩
theorem FK(o:Own)(n:Nat)(h:2<=n):jh n (lO o):=by
 refine jh.mono 2 n _ h ?_;show∀x∈[D.tup [.int o.w0,.int o.w1],.tup [.int o.h0,.int o.h1],.int o.gr,.int o.sh,.int o.rk,.int o.al],jh 1 x
 have i:∀a b:Int,jh 1 (.tup [.int a,.int b]):=λa b x hx=>by
  simp only[NH,Nt,or_false]at hx
  rcases hx with rfl|rfl<;>trivial
 intro x hx;simp only[NH,Nt,or_false]at hx
 rcases hx with rfl|rfl|rfl|rfl|rfl|rfl
 ·exact i _ _
 ·exact i _ _
 all_goals trivial
theorem tZ(w:List Str):∀x∈w.map D.str,jh 0 x:=λx hx=>by
 obtain⟨z,_,rfl⟩:=List.mem_map.mp hx;trivial
theorem qx(ws:List (List Str)):jh 2 (eM ws):=λx hx=>by
 obtain⟨w,_,rfl⟩:=List.mem_map.mp hx;exact tZ w
theorem Bo(wh:aY):jh 3 (dy wh):=by
 have i:∀a b:Int,jh 1 (.tup [.int a,.int b]):=λa b x hx=>by
  simp only[NH,Nt,or_false]at hx
  rcases hx with rfl|rfl<;>trivial
 have e:∀(a:Str)(b:Int),jh 1 (.tup [.str a,.int b]):=λa b x hx=>by
  simp only[NH,Nt,or_false]at hx
  rcases hx with rfl|rfl<;>trivial
 cases wh with
 |leaf a b=>exact jh.mono 1 3 _ (by decide) (i a b)
 |lined k g al sd=>
  intro x hx;simp only[NH,Nt,or_false]at hx
  rcases hx with rfl|rfl|rfl<;>trivial
 |table c g sd sps=>
  intro x hx;simp only[NH,Nt,or_false]at hx
  rcases hx with rfl|rfl|rfl|rfl
  ·trivial
  ·trivial
  ·trivial
  ·intro y d;obtain⟨p,_,rfl⟩:=List.mem_map.mp d;exact i _ _
 |words ws j=>
  intro x hx;simp only[NH,Nt,or_false]at hx
  rcases hx with rfl|rfl
  ·exact qx ws
  ·trivial
 |flow sds ws j=>
  intro x hx;simp only[NH,Nt,or_false]at hx
  rcases hx with rfl|rfl|rfl
  ·exact jh.mono 1 2 _ (by decide) (tZ sds)
  ·exact qx ws
  ·trivial
 |over ps=>
  intro x hx;obtain⟨p,_,rfl⟩:=List.mem_map.mp hx;intro y d;simp only[NH,Nt,or_false]at d
  rcases d with rfl|rfl<;>exact e _ _
theorem oq:∀(F:Fo)(n:Nat),2*F.bW+4<=n->∀x∈fD F,jh n x
 | .nil,_,_,x,hx=>nomatch hx
 | .cons a d cs as,n,h,x,hx=>by
  have h:2*max (cs.bW+1) as.bW+4<=n:=h;have e:=Nat.le_max_left (cs.bW+1) as.bW;have f:=Vh (cs.bW+1) as.bW;have hx:x∈fq d.wh.kd d.nm d.own d.wh (fD cs)::fD as:=hx
  rcases List.mem_cons.mp hx with rfl|hx
  ·match n,h with
   |n+2,h=>
    show∀x∈[D.str d.wh.kd,.str d.nm,lO d.own,dy d.wh,.tup (fD cs)],jh (n+1) x;intro y b;simp only[NH,Nt,or_false]at b
    rcases b with rfl|rfl|rfl|rfl|rfl
    ·trivial
    ·trivial
    ·exact FK _ _ (by lia)
    ·exact jh.mono 3 _ _ (by lia) (Bo _)
    ·exactλz c=>oq cs n (by lia) z c
  ·exact oq as n (by lia) x hx
noncomputable abbrev jR:NG:=top 125
inductive BE(ps:List (Str×Str)):Str->Nat->Prop
 |root {x:Str} (h:x∉ps.map (·.1)):BE ps x 0
 |step {x e:Str} {n:Nat} (h:(x,e)∈ps) (g:BE ps e n):BE ps x (n+1)
inductive D2(vs:List V)(H:Hp)(Q:VK):Prop
 |mk (dd:B3) (x:Str) (ps:List (Str×Str)) (n:Nat) (c0:vs=[.ref dd,.str x]) (c1:H dd=some (.dK (ps.map B11E.kS))) (c2:(ps.map (·.1)).Nodup) (c3:BE ps x n) (c4:Q (.int (n:Int)) H)
def AO:Sp:=λvs H Q _=>D2 vs H Q
section
variable{K:mo}
noncomputable abbrev Iq:List Str:=["_law_elders","_law_name","_law_deep_here"]
theorem mj:aw Iq ZL (aj jR):=cD
theorem DI(F:aZ K "_law_deep" "_law_deep" jR f fd)(N:aO mg):av P w K mg base aK 1 f fd ZL AO:=by
 refine F.cI mj λcdv A outer s H vs Q E l h=>?_
 ·obtain⟨dd,x,ps,n,e,hd,nd,o,k⟩:=h;subst e
  have j:(A.deeper (NB "_law_deep" (aj jR) s.heap.objs.size f cdv)).units+1<OX:=by have :=l.units;lia
  refine⟨_,ah (aB (i:=2) mj.nd rfl (Ki rfl) ag)
   (ah (jU Np (xu (xp j (pv 1) (pv 0)))
    (ah (aB (i:=1) mj.nd rfl (Ki rfl) (bR j (pv 0) (pv 1) (λ_ _=>rfl)))
    (ai (aB (i:=2) mj.nd rfl (Ki rfl) (aJ bz (pv 2) ag)))))
   (ai (au (pv 2)))),?_⟩
  try rw[bO]
  refine aq λc a=>?_;show c _ _;refine a _ _ (aq λc a=>?_);refine⟨λm σ b=>∃(y:Str)(i:Nat),σ=[some (.ref dd),some (.str y),some (.int (i:Int))]/\b=H/\BE ps y m/\i+m=n,⟨n,x,0,rfl,rfl,o,by lia⟩,?_⟩;rintro m σ b ⟨y,i,rfl,rfl,t,hi⟩
  cases t with
  |root hn=>
   refine⟨_,rfl,_,rfl,dd,none,rfl,?_,_,rfl,dh ?_⟩
   ·rw[<-B11E.fX hn];exact fR.k (k:= .inr y) hd
   refine a _ _ ⟨_,rfl,?_⟩;rw[show i=n by lia];exact k
  | @step _ e m hm he=>
   have g:fR b dd (.str y) (some (.str e)):=by
    have :=fR.k (k:= .inr y) hd;rw[B11E.jM nd hm]at this;exact this
   refine⟨_,rfl,_,rfl,dd,_,rfl,g,_,rfl,eY ?_⟩;refine⟨λσ' H'=>∃(y:Str)(i:Nat),σ'=[some (.ref dd),some (.str y),some (.int (i:Int))]/\H'=b/\BE ps y m/\i+m=n,λσ' H' d=>by obtain⟨y,i,u,q,p,r⟩:=d;exact⟨m,Ri _,y,i,u,q,p,r⟩,?_⟩;refine⟨_,rfl,_,rfl,dd,_,rfl,g,?_⟩;refine⟨_,rfl,_,_,rfl,rfl,e,i+1,?_,rfl,he,by lia⟩;rw[SA];rfl
end
noncomputable abbrev fh:NG:=top 123
theorem E9{α:Type}{l:List α}(inj g:α->V)(p:α->Bool)(d:gp J H (l.map inj))(hn:l.length<sizeLine)(n:∀(x:α)(H':Hp)(c:Bool->Hp->Prop),x∈l->af H H'->c (p x) H'->tt (some (inj x)::σ) H' c)(he:∀(x:α)(H':Hp)(c:VK),x∈l->af H H'->c (g x) H'->te (some (inj x)::σ) H' c)(hd:∀(b:B3)(H':Hp),H b=none->af H H'->H' b=some (.lst ((l.filter p).map g))->Q (.ref b) H'):fk J H σ tt te Q:=by
 intro b f;refine⟨λi m H'=>m=l.length-i/\i<=l.length/\af H H'/\H' b=some (.lst (((l.take i).filter p).map g)),⟨_,rfl,Nl _,af.mV (af.refl H) f,ae⟩,?_⟩;rintro i m H' ⟨rfl,hi,s1,hl⟩;by_cases a:i<l.length
 ·refine .inr ⟨d.1 i H' s1 (by rw[be];exact a),λx H2 y=>?_⟩;obtain⟨e,h⟩:=d.2.2 i x H' H2 s1 y;subst e;have ex:l[i]? =some l[i]:=B0 a;rw[B7,ex]at h
  cases h
  have hm:=Do ex;have j:l.take (i+1)=l.take i++[l[i]]:=List.take_succ_eq_append_getElem a;generalize l[i]=x at *;refine n x _ _ hm s1 ?_
  cases k:p x with
  |false=>
   refine dh ⟨_,OH _ _ a,rfl,a,s1,?_⟩;rw[j,Qj,Rj (by rw[k];exact FS),Sz,Dk];exact hl
  |true=>
   refine eY (he x _ _ hm s1 ⟨_,hl,?_,_,OH _ _ a,rfl,a,af.mV s1 f,?_⟩)
   ·rw[be];have :=PP p (l.take i);rw[OT]at this
    lia
   ·rw[ae,j,Qj,Tt k,Sz,Da];rfl
 ·have e:i=l.length:=by lia
  have :=d.2.1 H' s1;rw[be]at this;rw[e];refine .inl ⟨this,?_⟩;rw[e,O_]at hl;exact hd b H' f s1 hl
theorem iT.le{b':Int}(h:b<=b'):∀{tb:Bool}{F:Fo},iT b tb F->iT b' tb F
 |_,.nil,_=>trivial
 |tb,.cons a d cs as,⟨⟨f,c,l⟩,i,j⟩=>by
  refine⟨⟨f,?_,l⟩,iT.le h i,iT.le h j⟩;generalize d.wh=wh at c
  cases wh with
  |lined k g al sd=>
   obtain⟨h1,⟨h2,m⟩,e⟩:=c;exact⟨h1,⟨h2,by lia⟩,e⟩
  |leaf=>exact c
  |table=>exact c
  |words=>exact c
  |flow=>exact c
  |over=>exact c
noncomputable def q_(c:Nat):Str:=(⟨#[c]⟩:Str)++"q"
noncomputable abbrev oT:List Nat:=("abcdefghijklmnopqrstuvwxyz":Str).cps.toList
theorem Jx:(oT.map q_).Nodup:=by decide +kernel
theorem Kv:∀c∈oT,Vn (q_ c):=by
 have :∀c∈oT,(1<=(q_ c).length/\(q_ c).length<=8)/\∀x∈(q_ c).cps.toList,97<=x/\x<=122:=by decide +kernel
 exactλc a=>⟨(this c a).1.1,(this c a).1.2,(this c a).2⟩
theorem Fx{aX:List Str}(h:aX.length<=20):∃c r,oT.filter (λc=> !decide (q_ c∈aX))=c::r/\q_ c∉aX/\c∈oT:=by
 cases e:oT.filter (λc=> !decide (q_ c∈aX))with
 |nil=>
  exfalso
  have sub:oT.map q_ ⊆ aX:=λx hx=>by
   obtain⟨c,a,rfl⟩:=List.mem_map.mp hx;have :=List.filter_eq_nil_iff.mp e c a;simpa using this
  have :=Jx.length_le_of_subset sub
  have b:(oT.map q_).length=26:=by decide +kernel
  lia
 |cons c r=>
  have hm:c∈oT.filter (λc=> !decide (q_ c∈aX)):=by rw[e];exact B6
  obtain⟨h1,h2⟩:=List.mem_filter.mp hm;exact⟨c,r,rfl,by simpa using h2,h1⟩
theorem JI(h:∀k g al sd,wh≠ .lined k g al sd):¬wh.kd∈(Zq:List Str):=by
 cases wh with
 |lined k g al sd=>exact absurd rfl (h k g al sd)
 |leaf=>show¬("leaf":Str)∈_;decide +kernel
 |table=>show¬("table":Str)∈_;decide +kernel
 |words=>show¬("words":Str)∈_;decide +kernel
 |flow=>show¬("flow":Str)∈_;decide +kernel
 |over=>show¬("over":Str)∈_;decide +kernel
theorem G_(k:Nat)(g:Int)(al sd:Str):(aY.lined k g al sd).kd∈(Zq:List Str):=by
 match k with
 |0=>show("row":Str)∈_;decide +kernel
 |1=>show("column":Str)∈_;decide +kernel
 |k+2=>show("wrap":Str)∈_;decide +kernel
theorem Ge(h:wh.kd="leaf"):∃a b,wh= .leaf a b:=by
 cases wh with
 |leaf a b=>exact⟨a,b,rfl⟩
 |lined k g al sd=>
  exfalso;have :=G_ k g al sd;rw[h]at this
  revert this
  decide +kernel
 |table=>exact absurd h (by show¬("table":Str)="leaf";decide +kernel)
 |words=>exact absurd h (by show¬("words":Str)="leaf";decide +kernel)
 |flow=>exact absurd h (by show¬("flow":Str)="leaf";decide +kernel)
 |over=>exact absurd h (by show¬("over":Str)="leaf";decide +kernel)
theorem Mh(k:Nat)(g g':Int)(al sd:Str):(aY.lined k g al sd).kd=(aY.lined k g' al sd).kd:=by
 match k with
 |0=>rfl
 |1=>rfl
 |k+2=>rfl
theorem Ds(x:V)(r:List V):hY (x::r) (some 1) none=r:=by
 unfold hY;rw[show(1:Int)=((1:Nat):Int)from rfl,HT.iQ,HT.jF,Qa (by simp)];exact Oa (by simp)
theorem Hg(x:V)(r:List V):hY (x::r) none (some 1)=[x]:=by
 unfold hY;rw[show(1:Int)=((1:Nat):Int)from rfl,HT.iQ,HT.jF,Qa (by simp)];rfl
theorem pZ(x:V)(r:List V):¬(HT.cZ (x::r).length 0 (some 1)=0/\HT.cZ (x::r).length (x::r).length none=(x::r).length):=by
 rw[show(1:Int)=((1:Nat):Int)from rfl,HT.iQ,Qa (by simp)];intro z;exact absurd z.1 (by decide)
theorem yW(x:V)(r:List V)(h:HT.cZ (x::r).length 0 none=0/\HT.cZ (x::r).length (x::r).length (some 1)=(x::r).length):r=[]:=by
 obtain⟨_,h⟩:=h;rw[show(1:Int)=((1:Nat):Int)from rfl,HT.iQ,Qa (by simp)]at h;have h:1=r.length+1:=h;exact NK (by lia)
theorem BV(h:F.aD=[]):F= .nil:=by
 cases F with
 |nil=>rfl
 |cons a d cs as=>exact absurd h (Ou _ _)
inductive zp(vs:List V)(H:Hp)(Q:VK):Prop
 |mk (st a ln:B3) (d z:Int) (bd:cK) (cs:Fo) (aX:List Str) (tb:Bool) (c0:vs=[.ref st,.ref a,.ref ln]) (c1:H st=some (.lst [.int d,.int z])) (c2:H ln=some (.lst (aX.map V.str))) (c3:aX.length<=20) (c4:(∀x∈aX,x.length<=60)) (c5:(Fo.cons a bd cs .nil).Ok H) (c6:(Fo.cons a bd cs .nil).Good) (c7:iT 3 tb (.cons a bd cs .nil)) (c8:∀(a':B3)(bd':cK)(cs':Fo)(d' z':Int)(H':Hp),Kp st H H'->H' st=some (.lst [.int d',.int z'])->(Fo.cons a' bd' cs' .nil).Ok H'->(Fo.cons a' bd' cs' .nil).Good->VF tb (.cons a' bd' cs' .nil)->(bd'.nm=bd.nm∨(bd'.nm∉aX/\Vn bd'.nm))->(∃l,(aM cs'++l).Perm (aM cs))->cs'.cnt<=cs.cnt->cs'.bW<=cs.bW->Q (.ref a') H')
def nq(K:mo):Sp:=λvs H Q _=>zp vs H Q
section
variable{K:mo}
noncomputable abbrev my:List Str:=["_law_stream_here","_law_box_here","_law_names_here","_law_kind","_law_name","_law_own","_law_what_here","_law_parts","_law_way","_law_free"]
theorem cN:aw my Zs (aj fh):=cD
theorem qT(F:aZ K "_law_change" "_law_change" fh f fd)(N:aO mg)(G1:av P w K mg base aK 1 f1 d1 Zg B11P.gv)(J1:Cq K mg d1 f1 Zg "_law_take"):av P w K mg base aK 2 f fd Zs (nq K):=by
 refine F.cI cN λcdv A outer s H vs Q E hr h=>?_
 ·obtain⟨st,a,ln,d,z,bd,cs,aX,tb,e,d3,T,i9,k7,ok,good,vf,k⟩:=h;subst e;have j8:=hr.mono (j:=1) (by decide)
  have e8:(A.deeper (NB "_law_change" (aj fh) s.heap.objs.size f cdv)).units+50<OX:=by have :=hr.units;lia
  refine⟨_,ah (rQ (pv 1) (kR rfl (bN (aV (i:=3) cN.nd rfl (Ki rfl)) (bN (aV (i:=4) cN.nd rfl (Ki rfl)) (bN (aV (i:=5) cN.nd rfl (Ki rfl)) (bN (aV (i:=6) cN.nd rfl (Ki rfl)) (bN (aV (i:=7) cN.nd rfl (Ki rfl)) iL)))))))
   (ah (aB (i:=8) cN.nd rfl (Ki rfl) (pq G1 j8 J1 (aa (pv 0) (aa ag ab))))
   (ah (aR (aA bE (pv 8) ag (aF _)) (ah (gA (i:=9) (bg (fs:=aj fh) (N:=my) rfl rfl (by decide +kernel)) rfl cN.nd rfl (Ki rfl) (qZ ar) (λ_ _ _ _ _=>FL (aA (r:=tY K true) rY (aJ bP (pv 0) ar) (pv 3) (by rfl))) (λ_ _ _ _ _=>(aJ bP (pv 0) ar)) rfl)
    (ai (au (aT (aa (pv 3) (aa (ay bB (pv 9) ag (λ_ _=>rfl)) (aa (pv 5) (aa (pv 6) (aa (pv 7) ab))))))))) az)
   (ah (aR (aA bE (pv 8) ag (aF _)) (ai (au (aT (aa (pv 3) (aa (pv 4) (aa (aT (aa (ay ax (pv 5) ag (λ_ _=>rfl)) (aa (ay ax (pv 5) ag (λ_ _=>rfl)) (aa (aJ fP (aJ bz (ay ax (pv 5) ag (λ_ _=>rfl)) ag) ag) (aa (ay ax (pv 5) ag (λ_ _=>rfl)) (aa (ay ax (pv 5) ag (λ_ _=>rfl)) (aa (ay ax (pv 5) ag (λ_ _=>rfl)) ab))))))) (aa (pv 6) (aa (pv 7) ab)))))))) az)
   (ah (aR (aA bE (pv 8) ag (aF _)) (ai (au (aT (aa (pv 3) (aa (pv 4) (aa (aT (aa (ay ax (pv 5) ag (λ_ _=>rfl)) (aa (aT (aa ag (aa (ay ax (ay ax (pv 5) ag (λ_ _=>rfl)) ag (λ_ _=>rfl)) ab))) (aa (ay ax (pv 5) ag (λ_ _=>rfl)) (aa (ay ax (pv 5) ag (λ_ _=>rfl)) (aa (aJ fP (aJ bz (ay ax (pv 5) ag (λ_ _=>rfl)) ag) ag) (aa (ay ax (pv 5) ag (λ_ _=>rfl)) ab))))))) (aa (pv 6) (aa (pv 7) ab)))))))) az)
   (ah (aR (cM (aA (r:=tY K false) cf (pv 3) (aT (aa ar (aa ar (aa ar ab)))) (by rfl)) (cA (aA (Bb e8) (pv 7) (aT ab) (aF _)))).pt (ah (aR (aA bE (pv 8) ag (aF _)) (ai (au (aT (aa (pv 3) (aa (pv 4) (aa (pv 5) (aa (pv 6) (aa (eD ra (pv 7) (fF ag) fE) ab)))))))) az)
    (ai (au (aT (aa (pv 3) (aa (pv 4) (aa (pv 5) (aa (pv 6) (aa (aJ xB (eD ra (pv 7) (fF ag) fE) (eD ra (pv 7) fE (fF ag))) ab))))))))) az)
   (ah (aR (aA (r:=tY K false) cf (pv 3) (aT (aa ar (aa ar (aa ar ab)))) (by rfl)) (ai (au (aT (aa (pv 3) (aa (pv 4) (aa (pv 5) (aa (aT (aa (aJ bz (ay ax (pv 6) ag (λ_ _=>rfl)) ag) (aa (ay ax (pv 6) ag (λ_ _=>rfl)) (aa (ay ax (pv 6) ag (λ_ _=>rfl)) ab)))) (aa (pv 7) ab)))))))) az)
   (ah (aR (aA bE (pv 3) ar (aF _)) (ai (au (aT (aa (pv 3) (aa (pv 4) (aa (pv 5) (aa (aT (aa (ay ax (pv 6) ag (λ_ _=>rfl)) (aa (ay ax (pv 6) ag (λ_ _=>rfl)) ab))) (aa (pv 7) ab)))))))) az)
   (ai (au (pv 1)))))))))),?_⟩
  try rw[bO]
  have f4:=ok;obtain⟨⟨o,q,p,e1,e2,e3,e4⟩,f7,-⟩:=f4
  have i4:ln≠st:=λz=>by
   rw[z,d3]at T
   injection T with T
   injection T with T
   cases aX with
   |nil=>cases T
   |cons x r=>cases T
  have c6:=good;obtain⟨⟨g1,g2,g3,g4⟩,g5,-⟩:=c6;have g7:=vf;obtain⟨⟨v1,v2,v3⟩,v4,-⟩:=g7;refine aq λO I=>?_;refine⟨_,rfl,a,_,rfl,ba.of e1,rfl,_,_,rfl,_,_,rfl,_,_,rfl,_,_,rfl,_,_,rfl,rfl,?_⟩;refine I _ _ (aq λO I=>?_);refine⟨_,rfl,st,d,z,6,rfl,d3,by decide,by decide,λv d2 z2 w0 w1=>?_⟩;have kp:Kp st H (upd H st (.lst [.int d2,.int z2])):=Kp.store;have kt:=KT.lst (ys:=[.int d2,.int z2]) d3;have n:(upd H st (.lst [.int d2,.int z2])) st=some (.lst [.int d2,.int z2]):=ae;have f0:=(ak (H:=H) (o:= .lst [.int d2,.int z2]) i4).trans T;generalize upd H st (.lst [.int d2,.int z2])=H2 at *;have E1:=kt _ _ e1;have E2:=e2.keep kt;have E3:=e3.keep kt;have E4:=kt _ _ e4;have W:=f7.keep kt;refine I _ _ ?_;clear I O;have pm:∃l,(aM cs++l).Perm (aM cs):=⟨[],by rw[Dk]⟩
  have Y:∀(a0:Str)(o' S:B3)(J:Own)(wh':aY)(cs':Fo)(p' a':B3)(H':Hp),Kp st H H'->H' st=some (.lst [.int d2,.int z2])->H' a'=some (.tup [.str wh'.kd,.str a0,.ref o',.ref S,.ref p'])->hH H' o' J->cT H' S wh'->H' p'=some (.tup (cs'.aD.map V.ref))->cs'.Ok H'->a0.length<=60->J.Good->Vo J->J.al=bd.own.al->wh'.Good->wh'.kd=bd.wh.kd->Fo.fits wh' cs'.aD.length->Jm 1000 wh' cs'.aD.length->cs'.Good->iT 3 (tb||decide (V.str bd.wh.kd=V.str "table")) cs'->(a0=bd.nm∨(a0∉aX/\Vn a0))->(∃l,(aM cs'++l).Perm (aM cs))->cs'.cnt<=cs.cnt->cs'.bW<=cs.bW->Q (.ref a') H':=λa0 o' S J wh' cs' p' a' H' h1 h2 h3 h4 h5 h6 h7 h8 h9 f3 j6 j9 f2 g6 i1 j5 k1 j2 g0 i2 g9=>
   k a' ⟨a0,J,wh'⟩ cs' d2 z2 H' h1 h2 ⟨⟨o',S,p',h3,h4,h5,h6⟩,h7,trivial⟩ ⟨⟨j9,h9,h8,g6⟩,j5,trivial⟩ ⟨⟨f3,i1,λz=>by
    have z:0<J.al:=z;rw[j6]at z;show tb=false/\Ef wh'.kd;rw[f2]
    exact v3 z⟩,by show iT 1000 (tb||decide (V.str wh'.kd=V.str "table")) cs';rw[f2];exact iT.le (by decide) k1,trivial⟩ j2 g0 i2 g9
  have M:Jm 1000 bd.wh cs.aD.length:=by
   have :=iT.le (b':=1000) (by decide) vf;exact this.1.2.1
  refine aq λO I=>?_;refine⟨_,rfl,rfl,_,rfl,dM (λc0=>?_) (λc0=>?_)⟩
  ·refine⟨_,rfl,E9 (l:=oT) (λc=>V.str ⟨#[c]⟩) (λc=>V.str (q_ c)) (λc=> !decide (q_ c∈aX)) (gp.str _ _) (by decide +kernel) (λc H3 Q' hc X kq=>?_) (λc H3 Q' hc X kq=>?_) (λDD H3 k3 X d5=>?_)⟩
   ·refine⟨_,rfl,_,_,rfl,rfl,aG (by show 1+1<=100000;decide),_,rfl,ln,_,rfl,.inl (bf.of (X _ _ f0)),rfl,by rw[QM];exact List.all_eq_true.mpr λ_ _=>rfl,_,rfl,?_⟩;show Q' (!gu (.str (q_ c)) (aX.map V.str)) H3;rw[iy];exact kq
   ·exact⟨_,rfl,_,_,rfl,rfl,aG (by show 1+1<=100000;decide),kq⟩
   obtain⟨c,r,er,hc,hm⟩:=Fx i9;rw[er]at d5;refine⟨_,rfl,_,rfl,DD,_,_,V.str (q_ c),rfl,rfl,bf.of d5,(by show jX (V.str (q_ c)::r.map λc=>V.str (q_ c)) ((0:Nat):Int)=_;exact aN rfl),_,rfl,_,rfl,_,rfl,(by show 5<=sizeLine;decide),λa' b=>?_⟩;have D:=KT.same X;have m:=KT.put (o:= .tup [.str bd.wh.kd,.str (q_ c),.ref o,.ref q,.ref p]) b;have hv:=Kv c hm;exact Y (q_ c) o q bd.own bd.wh cs p a' _ ((kp.trans (Kp.of X)).trans (Kp.of (af.put (af.refl _) b))) ((ak (λz=>by rw[<-z,X _ _ n]at b;cases b)).trans (X _ _ n)) ae ((E2.keep D).keep m) ((E3.keep D).keep m) (m _ _ (D _ _ E4)) ((W.keep D).keep m) (by have :=hv.2.1;exact cP) g2 v1 rfl g1 rfl g4 M g5 v4 (.inr ⟨hc,hv⟩) pm (B2 _) (B2 _)
  refine I _ _ ?_;clear I O;clear c0;obtain⟨u,t,E5,E6,E7⟩:=E2;have E2:hH H2 o bd.own:=⟨u,t,E5,E6,E7⟩;obtain⟨C,r2,⟨r3,r4⟩,r5,⟨r6,r7⟩,r8⟩:=v1;have v1:Vo bd.own:=⟨C,r2,⟨r3,r4⟩,r5,⟨r6,r7⟩,r8⟩;obtain⟨n1,n2,n3,n4,n5,n6,n7,n8⟩:=g2;have g2:bd.own.Good:=⟨n1,n2,n3,n4,n5,n6,n7,n8⟩
  have gN:∀{x:Int},0<=x->x<=1000000->bG x:=λ{x} h1 h2=>by show x.natAbs<1000000000;lia
  refine aq λO I=>?_;refine⟨_,rfl,rfl,_,rfl,dM (λc0=>?_) (λc0=>?_)⟩
  ·refine⟨_,rfl,_,rfl,_,rfl,o,_,_,_,rfl,rfl,ba.of E5,rfl,_,rfl,o,_,_,_,rfl,rfl,ba.of E5,rfl,_,rfl,o,_,_,_,rfl,rfl,ba.of E5,rfl,_,_,rfl,rfl,_,_,rfl,rfl,(by show(0:Int)<100;decide),_,rfl,o,_,_,_,rfl,rfl,ba.of E5,rfl,_,rfl,o,_,_,_,rfl,rfl,ba.of E5,rfl,_,rfl,o,_,_,_,rfl,rfl,ba.of E5,rfl,(by show 6<=sizeLine;decide),λo' b3=>?_⟩;have D:=KT.put (o:= .tup [.ref u,.ref t,.int ((bd.own.gr+1)%100),.int bd.own.sh,.int bd.own.rk,.int bd.own.al]) b3;have X:af H2 (upd H2 o' (.tup [.ref u,.ref t,.int ((bd.own.gr+1)%100),.int bd.own.sh,.int bd.own.rk,.int bd.own.al])):=af.put (af.refl _) b3;have hO:(upd H2 o' (.tup [.ref u,.ref t,.int ((bd.own.gr+1)%100),.int bd.own.sh,.int bd.own.rk,.int bd.own.al])) o'=_:=ae;generalize upd H2 o' (.tup [.ref u,.ref t,.int ((bd.own.gr+1)%100),.int bd.own.sh,.int bd.own.rk,.int bd.own.al])=H3 at *;refine⟨_,rfl,_,rfl,(by show 5<=sizeLine;decide),λa' b=>?_⟩;have m:=KT.put (o:= .tup [.str bd.wh.kd,.str bd.nm,.ref o',.ref q,.ref p]) b;exact Y bd.nm o' q {bd.own with gr:=(bd.own.gr+1)%100} bd.wh cs p a' _ ((kp.trans (Kp.of X)).trans (Kp.of (af.put (af.refl _) b))) ((ak (λz=>by rw[<-z,X _ _ n]at b;cases b)).trans (X _ _ n)) ae ⟨u,t,m _ _ hO,m _ _ (D _ _ E6),m _ _ (D _ _ E7)⟩ ((E3.keep D).keep m) (m _ _ (D _ _ E4)) ((W.keep D).keep m) g3 ⟨n1,n2,n3,n4,gN (by show 0<=(bd.own.gr+1)%100;lia) (by show(bd.own.gr+1)%100<=1000000;lia),n6,n7,n8⟩ ⟨C,r2,⟨by show 0<=(bd.own.gr+1)%100;lia,by show(bd.own.gr+1)%100<=99;lia⟩,r5,⟨r6,r7⟩,r8⟩ rfl g1 rfl g4 M g5 v4 (.inl rfl) pm (B2 _) (B2 _)
  refine I _ _ ?_;clear I O;clear c0;refine aq λO I=>?_;refine⟨_,rfl,rfl,_,rfl,dM (λc0=>?_) (λc0=>?_)⟩
  ·refine⟨_,rfl,_,rfl,_,rfl,o,_,_,_,rfl,rfl,ba.of E5,rfl,_,rfl,o,_,_,_,rfl,rfl,ba.of E5,rfl,t,_,_,_,rfl,rfl,ba.of E7,rfl,(by show 2<=sizeLine;decide),λt' d6=>?_⟩;have D:=KT.put (o:= .tup [.int 0,.int bd.own.h1]) d6;have X:af H2 (upd H2 t' (.tup [.int 0,.int bd.own.h1])):=af.put (af.refl _) d6;have hT:(upd H2 t' (.tup [.int 0,.int bd.own.h1])) t'=_:=ae;generalize upd H2 t' (.tup [.int 0,.int bd.own.h1])=H3 at *;have b6:=D _ _ E5;refine⟨_,rfl,o,_,_,_,rfl,rfl,ba.of b6,rfl,_,rfl,o,_,_,_,rfl,rfl,ba.of b6,rfl,_,rfl,o,_,_,_,rfl,rfl,ba.of b6,rfl,_,_,rfl,rfl,_,_,rfl,rfl,(by show(0:Int)<10;decide),_,rfl,o,_,_,_,rfl,rfl,ba.of b6,rfl,(by show 6<=sizeLine;decide),λo' b3=>?_⟩;have a3:=KT.put (o:= .tup [.ref u,.ref t',.int bd.own.gr,.int bd.own.sh,.int ((bd.own.rk+1)%10),.int bd.own.al]) b3;have s4:af H3 (upd H3 o' (.tup [.ref u,.ref t',.int bd.own.gr,.int bd.own.sh,.int ((bd.own.rk+1)%10),.int bd.own.al])):=af.put (af.refl _) b3;have hO:(upd H3 o' (.tup [.ref u,.ref t',.int bd.own.gr,.int bd.own.sh,.int ((bd.own.rk+1)%10),.int bd.own.al])) o'=_:=ae;generalize upd H3 o' (.tup [.ref u,.ref t',.int bd.own.gr,.int bd.own.sh,.int ((bd.own.rk+1)%10),.int bd.own.al])=H4 at *;have G:=KT.trans D a3;have Z:=af.trans X s4;refine⟨_,rfl,_,rfl,(by show 5<=sizeLine;decide),λa' b=>?_⟩;have m:=KT.put (o:= .tup [.str bd.wh.kd,.str bd.nm,.ref o',.ref q,.ref p]) b;obtain⟨k6,k4,i8⟩:=r2;exact Y bd.nm o' q {bd.own with h0:=0,rk:=(bd.own.rk+1)%10} bd.wh cs p a' _ ((kp.trans (Kp.of Z)).trans (Kp.of (af.put (af.refl _) b))) ((ak (λz=>by rw[<-z,Z _ _ n]at b;cases b)).trans (Z _ _ n)) ae ⟨u,t',m _ _ hO,m _ _ (G _ _ E6),m _ _ (a3 _ _ hT)⟩ ((E3.keep G).keep m) (m _ _ (G _ _ E4)) ((W.keep G).keep m) g3 ⟨n1,n2,gN (x:=0) (by decide) (by decide),n4,n5,n6,gN (by show 0<=(bd.own.rk+1)%10;lia) (by show(bd.own.rk+1)%10<=1000000;lia),n8⟩ ⟨C,⟨by show(0:Int)<=0;decide,by show(0:Int)<=bd.own.h1;lia,i8⟩,⟨r3,r4⟩,r5,⟨by show 0<=(bd.own.rk+1)%10;lia,by show(bd.own.rk+1)%10<=9;lia⟩,r8⟩ rfl g1 rfl g4 M g5 v4 (.inl rfl) pm (B2 _) (B2 _)
  refine I _ _ ?_;clear I O;clear c0;have a2:gu (.str bd.wh.kd) [.str "row",.str "column",.str "wrap"]=decide (bd.wh.kd∈(Zq:List Str)):=iy (xs:=Zq)
  have f5:∀(xs:List V)(e:Nat->Bool),((Nz (min xs.length ([]:List V).length)).all e&&xs.length==([]:List V).length)=decide (xs=[]):=λxs e=>by cases xs<;>simp
  by_cases hl:∃k g al sd,bd.wh= .lined k g al sd
  ·obtain⟨k0,g,al,sd,hw⟩:=hl;have i7:decide (bd.wh.kd∈(Zq:List Str))=true:=decide_eq_true (by rw[hw];exact G_ k0 g al sd);rw[i7]at a2;refine aq λO I=>?_;refine⟨_,rfl,(by show 3<=sizeLine;decide),λt1 a8=>?_⟩;have D:=KT.put (o:= .tup [.str "row",.str "column",.str "wrap"]) a8;have X:af H2 (upd H2 t1 (.tup [.str "row",.str "column",.str "wrap"])):=af.put (af.refl _) a8;have c9:(upd H2 t1 (.tup [.str "row",.str "column",.str "wrap"])) t1=_:=ae;generalize upd H2 t1 (.tup [.str "row",.str "column",.str "wrap"])=H3 at *;refine⟨t1,_,rfl,.inr (ba.of c9),rfl,rfl,_,rfl,?_⟩
   show if gu (.str bd.wh.kd) [.str "row",.str "column",.str "wrap"]=true then _ else _
   rw[a2];refine eY ⟨_,rfl,(by show 0<=sizeLine;decide),λt2 a7=>?_⟩;have a3:=KT.put (o:= .tup []) a7;have s4:af H3 (upd H3 t2 (.tup [])):=af.put (af.refl _) a7;have d0:(upd H3 t2 (.tup [])) t2=some (.tup []):=ae;generalize upd H3 t2 (.tup [])=H4 at *;have G:=KT.trans D a3;have Z:=af.trans X s4;refine⟨p,t2,_,[],(λ_=>true),rfl,rfl,ba.of (G _ _ E4),ba.of d0,(λj x y e1 e2=>nomatch e2),_,rfl,?_⟩
   show if(!((Nz (min (cs.aD.map V.ref).length ([]:List V).length)).all (λ_=>true)&&(cs.aD.map V.ref).length==([]:List V).length))=true then _ else _
   rw[f5]
   cases cs with
   |nil=>
    refine dh ?_;refine I _ _ (aq λO I=>?_);refine⟨_,rfl,(by show 3<=sizeLine;decide),λt3 d4=>?_⟩;have U:=KT.put (o:= .tup [.str "row",.str "column",.str "wrap"]) d4;have s5:af H4 (upd H4 t3 (.tup [.str "row",.str "column",.str "wrap"])):=af.put (af.refl _) d4;have j0:(upd H4 t3 (.tup [.str "row",.str "column",.str "wrap"])) t3=_:=ae;generalize upd H4 t3 (.tup [.str "row",.str "column",.str "wrap"])=H5 at *;have B:=KT.trans G U;have L:=af.trans Z s5;refine⟨t3,_,rfl,.inr (ba.of j0),rfl,rfl,_,rfl,?_⟩
    show if gu (.str bd.wh.kd) [.str "row",.str "column",.str "wrap"]=true then _ else _
    rw[a2];refine eY ?_;have a4:=E3.keep B;rw[hw]at a4 v2 g1;have a4:H5 q=some (.tup [.int g,.str al,.str sd]):=a4;obtain⟨b5,⟨c2,k5⟩,b7,j4⟩:=v2;obtain⟨k8,f6,i3⟩:=g1;refine⟨_,rfl,_,rfl,_,rfl,_,rfl,q,_,_,_,rfl,rfl,ba.of a4,rfl,_,_,rfl,rfl,_,rfl,q,_,_,_,rfl,rfl,ba.of a4,rfl,_,rfl,q,_,_,_,rfl,rfl,ba.of a4,rfl,(by show 3<=sizeLine;decide),λS a5=>?_⟩;have g8:=KT.put (o:= .tup [.int (g+1),.str al,.str sd]) a5;have s6:af H5 (upd H5 S (.tup [.int (g+1),.str al,.str sd])):=af.put (af.refl _) a5;have hQ:(upd H5 S (.tup [.int (g+1),.str al,.str sd])) S=_:=ae;generalize upd H5 S (.tup [.int (g+1),.str al,.str sd])=H6 at *;have b8:=KT.trans B g8;have c5:=af.trans L s6;refine⟨_,rfl,(by show 5<=sizeLine;decide),λa' b=>?_⟩;have m:=KT.put (o:= .tup [.str bd.wh.kd,.str bd.nm,.ref o,.ref S,.ref p]) b
    have ek:(aY.lined k0 (g+1) al sd).kd=bd.wh.kd:=by rw[hw];exact Mh ..
    exact Y bd.nm o S bd.own (.lined k0 (g+1) al sd) .nil p a' _ ((kp.trans (Kp.of c5)).trans (Kp.of (af.put (af.refl _) b))) ((ak (λz=>by rw[<-z,c5 _ _ n]at b;cases b)).trans (c5 _ _ n)) (by rw[ek];exact ae) ((E2.keep b8).keep m) (m _ _ hQ) (m _ _ (b8 _ _ E4)) trivial g3 g2 v1 rfl ⟨gN (by lia) (by lia),f6,i3⟩ ek trivial ⟨b5,⟨by lia,by lia⟩,b7,j4⟩ trivial trivial (.inl rfl) pm (B2 _) (B2 _)
   |cons R b1 c1 C=>
    refine eY ?_;have c4:H4 p=some (.tup (.ref R::C.aD.map V.ref)):=G _ _ E4;obtain⟨f8,e7,b9⟩:=W;obtain⟨j3,i0,e6⟩:=g5;obtain⟨k2,f9,d9⟩:=v4;rw[hw]at M g1;obtain⟨b5,c2,b7⟩:=M
    have ek:(aY.lined k0 g al sd).kd=bd.wh.kd:=by rw[hw]
    have b5:C.aD.length+1<=4:=b5;rw[hw]at E3;refine aq λO I=>?_;refine⟨_,rfl,rfl,_,rfl,dM (λc3=>?_) (λc3=>?_)⟩
    ·refine⟨_,rfl,_,rfl,_,rfl,_,rfl,_,rfl,_,rfl,p,_,rfl,ba.of c4,λz=>absurd z (pZ _ _),λp' d7=>?_⟩;rw[Ds];have U:=KT.put (o:= .tup (C.aD.map V.ref)) d7;have s5:af H4 (upd H4 p' (.tup (C.aD.map V.ref))):=af.put (af.refl _) d7;have hP:(upd H4 p' (.tup (C.aD.map V.ref))) p'=_:=ae;generalize upd H4 p' (.tup (C.aD.map V.ref))=H5 at *;have B:=KT.trans G U;have L:=af.trans Z s5;refine⟨(by show 5<=sizeLine;decide),λa' b=>?_⟩;have m:=KT.put (o:= .tup [.str bd.wh.kd,.str bd.nm,.ref o,.ref q,.ref p']) b;exact Y bd.nm o q bd.own (.lined k0 g al sd) C p' a' _ ((kp.trans (Kp.of L)).trans (Kp.of (af.put (af.refl _) b))) ((ak (λz=>by rw[<-z,L _ _ n]at b;cases b)).trans (L _ _ n)) (by rw[ek];exact ae) ((E2.keep B).keep m) ((E3.keep B).keep m) (m _ _ hP) ((b9.keep B).keep m) g3 g2 v1 rfl g1 ek trivial ⟨by lia,c2,b7⟩ e6 d9 (.inl rfl) ⟨b1.nm::aM c1,Ud⟩ (by show C.cnt<=c1.cnt+C.cnt+1;lia) (by show C.bW<=max (c1.bW+1) C.bW;lia)
    ·refine I _ _ ?_;clear I O;refine⟨_,rfl,_,rfl,_,rfl,_,rfl,_,rfl,_,rfl,p,_,rfl,ba.of c4,λz=>absurd z (pZ _ _),λp1 hp1=>?_⟩;rw[Ds];have U:=KT.put (o:= .tup (C.aD.map V.ref)) hp1;have s5:af H4 (upd H4 p1 (.tup (C.aD.map V.ref))):=af.put (af.refl _) hp1;have hP:(upd H4 p1 (.tup (C.aD.map V.ref))) p1=_:=ae;generalize upd H4 p1 (.tup (C.aD.map V.ref))=H5 at *;have B:=KT.trans G U;have L:=af.trans Z s5;have b4:=U _ _ c4;have gT:bG g:=g1.1;have i5:(C.app (.cons R b1 c1 .nil)).Ok H2:=Fo.fS.mpr ⟨b9,(⟨f8,e7,trivial⟩:(Fo.cons R b1 c1 .nil).Ok H2)⟩;have j1:(C.app (.cons R b1 c1 .nil)).Good:=Fo.fc.mpr ⟨e6,(⟨j3,i0,trivial⟩:(Fo.cons R b1 c1 .nil).Good)⟩;have j7:iT 3 (tb||decide (V.str bd.wh.kd=V.str "table")) (C.app (.cons R b1 c1 .nil)):=qP (.cons R b1 c1 .nil) (⟨k2,f9,trivial⟩:iT 3 (tb||decide (V.str bd.wh.kd=V.str "table")) (.cons R b1 c1 .nil)) C d9
     have last:∀(pp:B3)(H7:Hp),af H5 H7->H7 pp=some (.tup ((C.app (.cons R b1 c1 .nil)).aD.map V.ref))->∀a',H7 a'=none->Q (.ref a') (upd H7 a' (.tup [.str bd.wh.kd,.str bd.nm,.ref o,.ref q,.ref pp])):=λpp H7 s7 b0 a' b=>by
      have b2:=KT.trans B (KT.same s7);have c8:=af.trans L s7;have m:=KT.put (o:= .tup [.str bd.wh.kd,.str bd.nm,.ref o,.ref q,.ref pp]) b
      exact Y bd.nm o q bd.own (.lined k0 g al sd) (C.app (.cons R b1 c1 .nil)) pp a' _ ((kp.trans (Kp.of c8)).trans (Kp.of (af.put (af.refl _) b))) ((ak (λz=>by rw[<-z,c8 _ _ n]at b;cases b)).trans (c8 _ _ n)) (by rw[ek];exact ae) ((E2.keep b2).keep m) ((E3.keep b2).keep m) (m _ _ b0) ((i5.keep b2).keep m) g3 g2 v1 rfl g1 ek trivial ⟨by rw[Fo.bx,B1];show C.aD.length+1<=4;exact vY,c2,b7⟩ j1 j7 (.inl rfl) ⟨[],by
        rw[Dk,eG];show(aM C++(b1.nm::(aM c1++[]))).Perm (b1.nm::(aM c1++aM C));rw[Dk]
        exact Ud⟩ (by rw[Fo.ee];show C.cnt+(c1.cnt+0+1)<=c1.cnt+C.cnt+1;lia) (by rw[Fo.fI];show max C.bW (max (c1.bW+1) 0)<=max (c1.bW+1) C.bW;lia)
     have et:(C.app (.cons R b1 c1 .nil)).aD.map V.ref=C.aD.map V.ref++[.ref R]:=by
      rw[Fo.bx,Da];rfl
     have e5:(C.aD.map V.ref).length+[V.ref R].length<=sizeLine:=aG (by rw[be];show C.aD.length+1<=100000;exact cP);refine⟨_,rfl,_,rfl,p,_,rfl,ba.of b4,λz=>?_,λp2 i6=>?_⟩
     ·have er:=yW _ _ z;refine⟨p1,p,C.aD.map V.ref,[.ref R],rfl,rfl,ba.of hP,ba.of (by rw[er]at b4;exact b4),e5,λe0=>?_,λ_ e0=>(nomatch e0),λpp b0=>?_⟩
      ·refine⟨(by show 5<=sizeLine;decide),λa' b=>last p H5 (af.refl _) (by rw[et,er];rw[er]at b4;exact b4) a' b⟩
      ·refine⟨(by show 5<=sizeLine;decide),λa' b=>last pp _ (af.put (af.refl _) b0) (by rw[et];exact ae) a' b⟩
     ·rw[Hg];have s6:af H5 (upd H5 p2 (.tup [.ref R])):=af.put (af.refl _) i6;have d8:(upd H5 p2 (.tup [.ref R])) p2=_:=ae;generalize upd H5 p2 (.tup [.ref R])=H6 at *;refine⟨p1,p2,C.aD.map V.ref,[.ref R],rfl,rfl,ba.of (s6 _ _ hP),ba.of d8,e5,λe0=>?_,λ_ e0=>(nomatch e0),λpp b0=>?_⟩
      ·refine⟨(by show 5<=sizeLine;decide),λa' b=>last p2 H6 s6 (by rw[et,e0];exact d8) a' b⟩
      ·refine⟨(by show 5<=sizeLine;decide),λa' b=>last pp _ (af.trans s6 (af.put (af.refl _) b0)) (by rw[et];exact ae) a' b⟩
  ·have e9:decide (bd.wh.kd∈(Zq:List Str))=false:=decide_eq_false (JI λk0 g al sd e=>hl ⟨k0,g,al,sd,e⟩);rw[e9]at a2;refine aq λO I=>?_;refine⟨_,rfl,(by show 3<=sizeLine;decide),λt1 a8=>?_⟩;have D:=KT.put (o:= .tup [.str "row",.str "column",.str "wrap"]) a8;have X:af H2 (upd H2 t1 (.tup [.str "row",.str "column",.str "wrap"])):=af.put (af.refl _) a8;have c9:(upd H2 t1 (.tup [.str "row",.str "column",.str "wrap"])) t1=_:=ae;generalize upd H2 t1 (.tup [.str "row",.str "column",.str "wrap"])=H3 at *;refine⟨t1,_,rfl,.inr (ba.of c9),rfl,rfl,_,rfl,?_⟩
   show if gu (.str bd.wh.kd) [.str "row",.str "column",.str "wrap"]=true then _ else _
   rw[a2];refine dh (dh ?_);refine I _ _ (aq λO I=>?_);refine⟨_,rfl,(by show 3<=sizeLine;decide),λt2 a7=>?_⟩;have a3:=KT.put (o:= .tup [.str "row",.str "column",.str "wrap"]) a7;have s4:af H3 (upd H3 t2 (.tup [.str "row",.str "column",.str "wrap"])):=af.put (af.refl _) a7;have d0:(upd H3 t2 (.tup [.str "row",.str "column",.str "wrap"])) t2=_:=ae;generalize upd H3 t2 (.tup [.str "row",.str "column",.str "wrap"])=H4 at *;refine⟨t2,_,rfl,.inr (ba.of d0),rfl,rfl,_,rfl,?_⟩
   show if gu (.str bd.wh.kd) [.str "row",.str "column",.str "wrap"]=true then _ else _
   rw[a2];refine dh ?_;refine I _ _ ?_;clear I O;have a6:=KT.trans D a3;have c7:=af.trans X s4;refine aq λO I=>?_;refine⟨_,rfl,rfl,_,rfl,dM (λc=>?_) (λc=>?_)⟩
   ·have c:V.str bd.wh.kd=V.str "leaf":=of_decide_eq_true c
    injection c with c
    obtain⟨x,y,hw⟩:=Ge c;have a9:=E3.keep a6;rw[hw]at a9 M g1 g4;have a9:H4 q=some (.tup [.int x,.int y]):=a9;refine⟨_,rfl,_,rfl,_,rfl,_,rfl,q,_,_,_,rfl,rfl,ba.of a9,rfl,_,rfl,q,_,_,_,rfl,rfl,ba.of a9,rfl,(by show 2<=sizeLine;decide),λS a5=>?_⟩;have U:=KT.put (o:= .tup [.int y,.int x]) a5;have s5:af H4 (upd H4 S (.tup [.int y,.int x])):=af.put (af.refl _) a5;have hQ:(upd H4 S (.tup [.int y,.int x])) S=_:=ae;generalize upd H4 S (.tup [.int y,.int x])=H5 at *;have B:=KT.trans a6 U;have L:=af.trans c7 s5;refine⟨_,rfl,(by show 5<=sizeLine;decide),λa' b=>?_⟩;have m:=KT.put (o:= .tup [.str bd.wh.kd,.str bd.nm,.ref o,.ref S,.ref p]) b
    have ek:(aY.leaf y x).kd=bd.wh.kd:=by rw[hw];rfl
    exact Y bd.nm o S bd.own (.leaf y x) cs p a' _ ((kp.trans (Kp.of L)).trans (Kp.of (af.put (af.refl _) b))) ((ak (λz=>by rw[<-z,L _ _ n]at b;cases b)).trans (L _ _ n)) (by rw[ek];exact ae) ((E2.keep B).keep m) (m _ _ hQ) (m _ _ (B _ _ E4)) ((W.keep B).keep m) g3 g2 v1 rfl ⟨g1.2,g1.1⟩ ek trivial ⟨M.1,M.2.2,M.2.1⟩ g5 v4 (.inl rfl) pm (B2 _) (B2 _)
   ·refine I _ _ ?_;exact⟨_,rfl,k a bd cs d2 z2 H4 (kp.trans (Kp.of c7)) (c7 _ _ n) ((ok.keep kt).keep a6) good (iT.le (by decide) vf) (.inl rfl) pm (B2 _) (B2 _)⟩
end
noncomputable abbrev rL:NG:=top 124
inductive R7:Fo->B11E.Fo->Prop
 |nil:R7 .nil .nil
 |cons {a p:B3} {d:cK} {cs as:Fo} {G1 G2:B11E.Fo} (h:R7 cs G1) (g:R7 as G2):R7 (.cons a d cs as) (.cons a d.nm p G1 G2)
theorem R7.aD{G:B11E.Fo}(h:R7 F G):G.aD=F.aD:=by
 induction h with
 |nil=>rfl
 | @cons a p d cs as G1 G2 _ _ _ b=>
  show a::G2.aD=a::as.aD;rw[b]
theorem R7.cnt{G:B11E.Fo}(h:R7 F G):G.cnt=F.cnt:=by
 induction h with
 |nil=>rfl
 | @cons a p d cs as G1 G2 _ _ b c=>
  rw[B11E.Fo.cnt_cons,b,c];rfl
theorem R7.aX{G:B11E.Fo}(h:R7 F G):G.aX=aM F:=by
 induction h with
 |nil=>rfl
 | @cons a p d cs as G1 G2 _ _ b c=>
  rw[B11E.Fo.mR,b,c];rfl
theorem HV:∀F:Fo,F.Ok H->∃G,R7 F G/\G.Ok H
 | .nil,_=>⟨.nil,.nil,trivial⟩
 | .cons a d cs as,⟨⟨o,q,p,h,j,i,f⟩,h1,h2⟩=>by
  obtain⟨G1,e,c⟩:=HV cs h1;obtain⟨G2,g,b⟩:=HV as h2;exact⟨.cons a d.nm p G1 G2,.cons e g,⟨_,_,_,h⟩,by rw[e.aD];exact f,c,b⟩
theorem Bn(h:(Fo.cons a d cs .nil).Ok H):∃p G,R7 (.cons a d cs .nil) (B11E.tr a d.nm p G)/\(B11E.tr a d.nm p G).Ok H:=by
 obtain⟨G,r,ok⟩:=HV _ h
 cases r with
 | @cons a p d cs as G1 G2 h g=>
  cases g
  exact⟨p,G1,.cons h .nil,ok⟩
theorem nM(G K:Fo):∀F:Fo,(F.app G).app K=F.app (G.app K)
 | .nil=>rfl
 | .cons a d cs as=>by show Fo.cons a d cs ((as.app G).app K)= .cons a d cs (as.app (G.app K));rw[nM G K as]
theorem mK:∀F:Fo,F.app .nil=F
 | .nil=>rfl
 | .cons a d cs as=>by show Fo.cons a d cs (as.app .nil)=_;rw[mK as]
theorem ri:∀{F:Fo},iT b tb (F.app G)->iT b tb F/\iT b tb G
 | .nil,h=>⟨trivial,h⟩
 | .cons a d cs as,⟨h1,h2,c⟩=>⟨⟨h1,h2,(ri c).1⟩,(ri c).2⟩
def Nw(aX:List Str)(F G:Fo):Prop:=(∀x∈aM G,x∈aM F∨(x∉aX/\Vn x))/\(aM G).Nodup
theorem yV{aX:List Str}{a':B3}{bd':cK}(sub:∀x∈bd.nm::aM cs,x∈aX)(nd:(bd.nm::aM cs).Nodup)(h:bd'.nm=bd.nm∨(bd'.nm∉aX/\Vn bd'.nm))(g:∃l,(aM cs'++l).Perm (aM cs)):Nw aX (.cons a bd cs .nil) (.cons a' bd' cs' .nil):=by
 obtain⟨l,g⟩:=g
 have f:aM (.cons a bd cs .nil)=bd.nm::aM cs:=by
  show bd.nm::(aM cs++[])=_;rw[Dk]
 have c:aM (.cons a' bd' cs' .nil)=bd'.nm::aM cs':=by
  show bd'.nm::(aM cs'++[])=_;rw[Dk]
 have d:∀x∈aM cs',x∈aM cs:=λx hx=>g.mem_iff.mp (NS _ hx);have e:=(List.nodup_cons.mp nd);have b:(aM cs'++l).Nodup:=g.nodup_iff.mpr e.2;unfold Nw;rw[f,c];refine⟨λx hx=>?_,List.nodup_cons.mpr ⟨λhx=>?_,(List.nodup_append.mp b).1⟩⟩
 ·rcases List.mem_cons.mp hx with rfl|hx
  ·rcases h with h|h
   ·rw[h];exact .inl B6
   ·exact .inr h
  ·exact .inl (De _ (d x hx))
 ·rcases h with h|h
  ·rw[h]at hx;exact e.1 (d _ hx)
  ·exact h.1 (sub _ (De _ (d _ hx)))
inductive A5(m:Nat)(vs:List V)(H:Hp)(Q:VK):Prop
 |mk (st a ln:B3) (d z i:Int) (bd:cK) (cs:Fo) (aX:List Str) (tb:Bool) (c0:vs=[.ref st,.ref a,.ref ln,.int i]) (c1:cs.bW<m) (c2:H st=some (.lst [.int d,.int z])) (c3:H ln=some (.lst (aX.map V.str))) (c4:aX.length<=20) (c5:(∀x∈aX,x.length<=60)) (c6:(Fo.cons a bd cs .nil).Ok H) (c7:(Fo.cons a bd cs .nil).Good) (c8:iT 3 tb (.cons a bd cs .nil)) (c9:(∀x∈aM (.cons a bd cs .nil),x∈aX)) (c10:(aM (.cons a bd cs .nil)).Nodup) (c11:∀(a':B3)(bd':cK)(cs':Fo)(d' z':Int)(H':Hp),Kp st H H'->H' st=some (.lst [.int d',.int z'])->(Fo.cons a' bd' cs' .nil).Ok H'->(Fo.cons a' bd' cs' .nil).Good->VF tb (.cons a' bd' cs' .nil)->Nw aX (.cons a bd cs .nil) (.cons a' bd' cs' .nil)->cs'.cnt<=cs.cnt->cs'.bW<=cs.bW->Q (.ref a') H')
def di(K:mo)(m:Nat):Sp:=λvs H Q _=>A5 m vs H Q
section
variable{K:mo}
noncomputable abbrev LI:List Str:=["_law_stream_here","_law_box_here","_law_names_here","_law_at_here","_law_kind","_law_name","_law_own","_law_what_here","_law_parts","_law_after","_law_part","_law_many"]
theorem fY:aw LI Zn (aj rL):=cD
inductive qxB(st a ln O o q p:B3)(bd:cK)(H:Hp)(tb:Bool)(cs:Fo)(aX:List Str)(j:Nat)(σ:St)(R:Hp):Prop|mk(a3 a0:Option V)(t:Int)(G:Fo)(d9 z9:Int)(_:σ=[some (.ref st),some (.ref a),some (.ref ln),some (.int t),some (.str bd.wh.kd),some (.str bd.nm),some (.ref o),some (.ref q),some (.ref p),some (.ref O),a3,a0])(_:Kp st H R)(_:R st=some (.lst [.int d9,.int z9]))(_:R O=some (.lst (G.aD.map V.ref)))(_:G.Ok R)(_:G.Good)(_:VF (tb||decide (V.str bd.wh.kd=V.str "table")) G)(_:G.aD.length=j)(u F2:_)(_:cs=u.app F2)(_:u.aD.length=j)(_:∀x∈aM G,x∈aM u∨(x∉aX/\Vn x/\t<0))(_:(aM G).Nodup)(_:G.cnt<=u.cnt)(_:G.bW<=u.bW)
theorem IC(F:aZ K "_law_at" "_law_at" rL f fd)(N:aO mg)(G1:av P w K mg base aK 2 f1 d1 Zs (nq K))(J1:Cq K mg d1 f1 Zs "_law_change")(G2:av P w K mg base aK 3 f2 d2 Ze B11E.fv)(J2:Cq K mg d2 f2 Ze "boxes_of")(G3:av P w K mg base aK (4+h) f3 d3 Zn (di K h))(J3:Cq K mg d3 f3 Zn "_law_at"):av P w K mg base aK (4+h+1) f fd Zn (di K (h+1)):=by
 refine F.cI fY λcdv A outer s H vs Q E hr h=>?_
 ·obtain⟨st,a,ln,d,z,i,bd,cs,aX,tb,e,hh,M,m,f0,e8,ok,good,vf,sub,nd,k⟩:=h;subst e;have i7:=hr.mono (j:=2) (by lia);have j0:=hr.mono (j:=3) (by lia);have Z:=hr
  refine⟨_,ah (rQ (pv 1) (kR rfl (bN (aV (i:=4) fY.nd rfl (Ki rfl)) (bN (aV (i:=5) fY.nd rfl (Ki rfl)) (bN (aV (i:=6) fY.nd rfl (Ki rfl)) (bN (aV (i:=7) fY.nd rfl (Ki rfl)) (bN (aV (i:=8) fY.nd rfl (Ki rfl)) iL)))))))
   (ah (aR (aA bE (pv 3) ag (aF _)) (ai (au (pq G1 i7 J1 (aa (pv 0) (aa (pv 1) (aa (pv 2) ab)))))) az)
   (ah (aB (i:=9) fY.nd rfl (Ki rfl) (bU ab))
   (ah (aB (i:=3) fY.nd rfl (Ki rfl) (aJ fU (pv 3) ag))
   (ah (cx Np rfl (eK (pv 8)) (aV (i:=10) fY.nd rfl (Ki rfl))
    (ah (aB (i:=11) fY.nd rfl (Ki rfl) (aH bq (by rfl) N.len NI (aa (pq G2 j0 J2 (aa (pv 10) ab)) ab)))
    (ah (aR (mJ dA Gk ag (pv 3) (pv 11)) (ai (aB (i:=10) fY.nd rfl (Ki rfl) (pq G3 Z J3 (aa (pv 0) (aa (pv 10) (aa (pv 2) (aa (pv 3) ab))))))) az)
    (ah (cu (cw NJ Od Oc cR (pv 9) (aa (pv 10) ab)))
    (ai (aB (i:=3) fY.nd rfl (Ki rfl) (aJ fU (pv 3) (pv 11))))))))
   (ai (au (aT (aa (pv 4) (aa (pv 5) (aa (pv 6) (aa (pv 7) (aa (aQ a_ (by rfl) N.tuple Ng (aa (pv 9) ab)) ab)))))))))))),?_⟩
  try rw[bO]
  have f8:=ok;obtain⟨⟨o,q,p,e1,e2,e3,e4⟩,g6,-⟩:=f8
  have i8:ln≠st:=λz=>by
   rw[z,M]at m
   injection m with m
   injection m with m
   cases aX with
   |nil=>cases m
   |cons x r=>cases m
  have b8:=good;obtain⟨⟨g1,g2,g3,g4⟩,g5,-⟩:=b8;have i5:=vf;obtain⟨⟨v1,v2,v3⟩,v4,-⟩:=i5
  have en:aM (.cons a bd cs .nil)=bd.nm::aM cs:=by
   show bd.nm::(aM cs++[])=_;rw[Dk]
  rw[en]at sub nd;refine aq λD g=>?_;refine⟨_,rfl,a,_,rfl,ba.of e1,rfl,_,_,rfl,_,_,rfl,_,_,rfl,_,_,rfl,_,_,rfl,rfl,?_⟩;refine g _ _ (aq λD g=>?_);refine⟨_,rfl,rfl,_,rfl,dM (λc0=>?_) (λc0=>?_)⟩
  ·refine⟨_,rfl,_,rfl,_,rfl,st,a,ln,d,z,bd,cs,aX,tb,rfl,M,m,f0,e8,ok,good,vf,λa' bd' cs' d' z' H' h1 h2 h3 h4 h5 h6 h7 h8 h9=>k a' bd' cs' d' z' H' h1 h2 h3 h4 h5 ?_ h8 h9⟩;exact yV sub nd h6 h7
  refine g _ _ (aq λD g=>?_);refine⟨Nl _,λO a4=>?_⟩;generalize hG:upd H O _=H1
  have s1:af H H1:=by rw[<-hG];exact af.put (af.refl _) a4
  have i1:H1 O=some (.lst []):=by rw[<-hG];exact ae
  clear hG;refine g _ _ (aq λD g=>?_);refine⟨_,rfl,_,_,rfl,rfl,?_⟩;refine g _ _ ?_;clear g D
  have f5:O≠st:=λz=>by rw[z,M]at a4;cases a4
  have i0:=s1 _ _ e4;refine aq λD g=>?_;refine⟨_,rfl,p,rfl,⟨_,ba.of i0⟩,rD (K:=K) (a:=p) (xs:=cs.aD.map V.ref) (qxB st a ln O o q p bd H tb cs aX) ⟨_,_,_,.nil,d,z,rfl,Kp.of s1,s1 _ _ M,i1,trivial,trivial,trivial,rfl,.nil,cs,rfl,rfl,λx hx=>(nomatch hx),SW,B2 _,B2 _⟩ ?_ ?_ ?_⟩
  ·rintro j σ R hj ⟨a3,a0,t,G,d9,z9,-,C,-⟩;exact ba.of (C _ _ (λz=>by rw[z,M]at e4;cases e4) e4)
  ·rintro j x σ R ex ⟨a3,a0,t,G,d9,z9,rfl,C,b2,b0,b4,I,c3,v,u,F2,l,B,W,c2,a9,a7⟩;have c4:=KT.kp C M
   cases F2 with
   |nil=>
    exfalso;have :=bw ex;rw[be,l,Fo.bx,B1,B]at this;simp[Fo.aD]at this
   |cons n b1 c1 r1=>
    have g9:x= .ref n:=by
     rw[l,Fo.bx,Da,GM (by rw[be];lia),be,B,Rr]at ex;exact(Kf ex).symm
    subst g9;have a6:=g6.keep c4;rw[l]at a6;obtain⟨j6,g7,e6,j9⟩:=Fo.fS.mp a6;have e5:(Fo.cons n b1 c1 .nil).Ok R:=⟨g7,e6,trivial⟩;obtain⟨p7,G7,r7,h0⟩:=Bn e5;have c7:=r7.cnt
    have f9:(Fo.cons n b1 c1 r1).cnt<=20/\u.cnt<=20:=by
     have e:=congrArg Fo.cnt l;rw[Fo.ee]at e;have e2:(bd.nm::aM cs).length<=aX.length:=nd.length_le_of_subset sub;rw[FB,jH]at e2
     lia
    have k9:j<=20:=by
     have :=Fo.iB u
     lia
    have l7:c1.cnt+0+1<=20:=by
     have :c1.cnt+r1.cnt+1<=20:=f9.1
     lia
    refine aq λD g=>?_;refine⟨_,rfl,n,b1.nm,p7,G7,rfl,h0,by rw[c7];show c1.cnt+0+1<=60;exact cP,λl7 c5 k0 U i3=>?_⟩;refine⟨l7,_,rfl,.inl (bf.of i3),?_⟩;refine g _ _ ?_;clear g D;have d7:=KT.same U;have S:=C.trans (Kp.of U);have c:=U _ _ b2;have X:=U _ _ b0;have d5:=U _ _ (C _ _ i8 m);have J:=b4.keep d7;have L:=e5.keep d7
    have em:(((B11E.tr n b1.nm p7 G7).lN.map V.ref).length:Int)=((c1.cnt+1:Nat):Int):=by
     rw[be,B11E.Fo.km,c7];rfl
    rw[em];rw[l]at g5 v4 sub nd hh;rw[eG]at sub nd;obtain⟨l2,j1,i6,l1⟩:=Fo.fc.mp g5;obtain⟨l3,j5,g8,l0⟩:=ri v4;have gt:(Fo.cons n b1 c1 .nil).Good:=⟨j1,i6,trivial⟩;have vt:iT 3 (tb||decide (V.str bd.wh.kd=V.str "table")) (.cons n b1 c1 .nil):=⟨j5,g8,trivial⟩
    have i9:aM (.cons n b1 c1 .nil)=b1.nm::aM c1:=by
     show b1.nm::(aM c1++[])=_;rw[Dk]
    have j3:aM (.cons n b1 c1 r1)=aM (.cons n b1 c1 .nil)++aM r1:=by
     rw[i9];rfl
    rw[j3]at sub nd
    have hF:((u.app (.cons n b1 c1 r1)).bW)=max u.bW (max (c1.bW+1) r1.bW):=by rw[Fo.fI];rfl
    rw[hF]at hh;have f6:=(List.nodup_append.mp (List.nodup_cons.mp nd).2);have b7:=List.nodup_append.mp f6.2.1;have a5:∀x∈aM (.cons n b1 c1 .nil),x∈aX:=λx hx=>sub x (De _ (ND _ (NS _ hx)));have e9:∀x∈aM u,x∈aX:=λx hx=>sub x (De _ (NS _ hx));refine aq λD g=>?_
    have next:∀(t':Int)(a':B3)(bd':cK)(cs':Fo)(d' z':Int)(b:Hp),Kp st H b->b st=some (.lst [.int d',.int z'])->b O=some (.lst (G.aD.map V.ref))->G.Ok b->(Fo.cons a' bd' cs' .nil).Ok b->(Fo.cons a' bd' cs' .nil).Good->VF (tb||decide (V.str bd.wh.kd=V.str "table")) (.cons a' bd' cs' .nil)->(∀x∈aM (.cons a' bd' cs' .nil),x∈aM (.cons n b1 c1 .nil)∨(x∉aX/\Vn x/\(0<=t/\t'<0)))->(aM (.cons a' bd' cs' .nil)).Nodup->cs'.cnt<=c1.cnt->cs'.bW<=c1.bW->t'=t-((c1.cnt+1:Nat):Int)->D [some (.ref st),some (.ref a),some (.ref ln),some (.int t),some (.str bd.wh.kd),some (.str bd.nm),some (.ref o),some (.ref q),some (.ref p),some (.ref O),some (.ref a'),some (.int ((c1.cnt+1:Nat):Int))] b:=by
     intro t' a' bd' cs' d' z' b e7 d0 T b6 i2 b9 j2 c6 f7 j8 j7 et;subst et;refine g _ _ ?_;clear g D;have c8:(G.app (.cons a' bd' cs' .nil)).Ok b:=Fo.fS.mpr ⟨b6,i2⟩;have g0:=KT.lst (ys:=G.aD.map V.ref++[.ref a']) T;refine aq λD g=>?_;refine⟨_,rfl,.inl ⟨rfl,_,bf.of T⟩,_,rfl,O,_,_,rfl,rfl,T,small (by rw[be];lia),?_⟩;have f4:Kp st H (upd b O (.lst (G.aD.map V.ref++[.ref a']))):=e7.put a4;have e0:=(ak (H:=b) (o:= .lst (G.aD.map V.ref++[.ref a'])) (B9 f5)).trans d0;have c9:(upd b O (.lst (G.aD.map V.ref++[.ref a']))) O=_:=ae;have b3:=c8.keep g0;generalize upd b O (.lst (G.aD.map V.ref++[.ref a']))=l4 at *;refine g _ _ ?_;clear g D;refine⟨_,rfl,_,rfl,_,_,rfl,rfl,?_⟩;have eg:aM (G.app (.cons a' bd' cs' .nil))=aM G++aM (.cons a' bd' cs' .nil):=eG _ _;have ef:aM (u.app (.cons n b1 c1 .nil))=aM u++aM (.cons n b1 c1 .nil):=eG _ _;refine⟨_,_,_,G.app (.cons a' bd' cs' .nil),d',z',rfl,f4,e0,by rw[c9,Fo.bx,Da];rfl,b3,Fo.fc.mpr ⟨I,b9⟩,qP _ j2 _ c3,by rw[Fo.bx,B1,v];rfl,u.app (.cons n b1 c1 .nil),r1,?_,by rw[Fo.bx,B1,B];rfl,?_,?_,?_,?_⟩
     ·rw[l,nM];rfl
     ·intro x hx;rw[eg]at hx;rw[ef]
      rcases List.mem_append.mp hx with hx|hx
      ·rcases W x hx with y|⟨Y,y2,y3⟩
       ·exact .inl (NS _ y)
       ·exact .inr ⟨Y,y2,by lia⟩
      ·rcases c6 x hx with y|⟨Y,y2,y3⟩
       ·exact .inl (ND _ y)
       ·exact .inr ⟨Y,y2,y3.2⟩
     ·rw[eg];refine List.nodup_append.mpr ⟨c2,f7,λx hx y hy e=>?_⟩;subst e
      rcases W x hx with y|⟨Y,y2,y3⟩
      ·rcases c6 x hy with z|⟨z1,z2,z3⟩
       ·exact f6.2.2 x y x (NS _ z) rfl
       ·exact z1 (e9 x y)
      ·rcases c6 x hy with z|⟨z1,z2,z3⟩
       ·exact Y (a5 x z)
       ·lia
     ·rw[Fo.ee,Fo.ee];show G.cnt+(cs'.cnt+0+1)<=u.cnt+(c1.cnt+0+1)
      lia
     ·rw[Fo.fI,Fo.fI];show max G.bW (max (cs'.bW+1) 0)<=max u.bW (max (c1.bW+1) 0)
      lia
    refine⟨_,rfl,_,_,rfl,rfl,_,rfl,dM (λq1=>?_) (λq1=>?_)⟩
    ·refine⟨_,rfl,_,_,rfl,rfl,_,rfl,dM (λq2=>?_) (λq2=>?_)⟩
     ·refine⟨_,rfl,_,rfl,_,rfl,_,rfl,st,n,ln,d9,z9,t,b1,c1,aX,_,rfl,by lia,c,d5,f0,e8,L,gt,vt,a5,b7.1,λa' bd' cs' d' z' b k1 k2 k3 k4 k5 k6 k7 k8=>?_⟩;have q1:0<=t:=of_decide_eq_true q1;have q2:t<((c1.cnt+1:Nat):Int):=of_decide_eq_true q2;have kk:=KT.kp k1 c;exact next (t-((c1.cnt+1:Nat):Int)) a' bd' cs' d' z' b (S.trans k1) k2 (k1 _ _ f5 X) (J.keep kk) k3 k4 k5 (λx hx=>(k6.1 x hx).imp id λj4=>by obtain⟨Y,y2⟩:=j4;exact⟨Y,y2,q1,by lia⟩) k6.2 k7 k8 rfl
     ·exact next (t-((c1.cnt+1:Nat):Int)) n b1 c1 d9 z9 c5 S c X J L gt (iT.le (by decide) vt) (λx hx=> .inl hx) b7.1 (B2 _) (B2 _) rfl
    ·exact⟨_,rfl,dh (next (t-((c1.cnt+1:Nat):Int)) n b1 c1 d9 z9 c5 S c X J L gt (iT.le (by decide) vt) (λx hx=> .inl hx) b7.1 (B2 _) (B2 _) rfl)⟩
  ·rintro σ R ⟨a3,a0,t,G,d9,z9,rfl,C,b2,b0,b4,I,c3,v,u,F2,l,B,W,c2,a9,a7⟩;have c4:=KT.kp C M
   have eF:F2= .nil:=by
    have e:=congrArg (λF=>F.aD.length) l;have e:cs.aD.length=(u.app F2).aD.length:=e;rw[Fo.bx,B1,B,be]at e;exact BV (NK (by lia))
   rw[eF,mK]at l;subst l;rw[be]at v;refine g _ _ ?_;clear g D;refine⟨_,rfl,_,rfl,_,rfl,_,rfl,_,rfl,O,_,rfl,.inl ⟨bf.of b0,λp' d4=>?_⟩⟩;have d8:=KT.put (o:= .tup (G.aD.map V.ref)) d4;have sp:af R (upd R p' (.tup (G.aD.map V.ref))):=af.put (af.refl _) d4;have hP:(upd R p' (.tup (G.aD.map V.ref))) p'=_:=ae;generalize upd R p' (.tup (G.aD.map V.ref))=c5 at *;refine⟨(by show 5<=sizeLine;decide),λa' a2=>?_⟩;have b5:=KT.put (o:= .tup [.str bd.wh.kd,.str bd.nm,.ref o,.ref q,.ref p']) a2;have a8:=KT.trans c4 (KT.trans d8 b5);have c:=sp _ _ b2;have i4:Jm 1000 bd.wh cs.aD.length:=(iT.le (b':=1000) (by decide) vf).1.2.1
   have d6:aM (.cons a' bd G .nil)=bd.nm::aM G:=by
    show bd.nm::(aM G++[])=_;rw[Dk]
   refine k a' bd G d9 z9 _ ((C.trans (Kp.of sp)).trans (Kp.of (af.put (af.refl _) a2))) ((ak (λz=>by rw[<-z,c]at a2;cases a2)).trans c) ⟨⟨o,q,p',ae,e2.keep a8,e3.keep a8,b5 _ _ hP⟩,(b4.keep d8).keep b5,trivial⟩ ⟨⟨g1,g2,g3,by rw[v];exact g4⟩,I,trivial⟩ ⟨⟨v1,by rw[v];exact i4,v3⟩,c3,trivial⟩ ⟨λx hx=>?_,?_⟩ a9 a7
   ·rw[d6]at hx;rw[en]
    rcases List.mem_cons.mp hx with rfl|hx
    ·exact .inl B6
    ·rcases W x hx with y|⟨Y,y2,_⟩
     ·exact .inl (De _ y)
     ·exact .inr ⟨Y,y2⟩
   ·rw[d6];refine List.nodup_cons.mpr ⟨λhx=>?_,c2⟩
    rcases W _ hx with y|⟨Y,y2,_⟩
    ·exact(List.nodup_cons.mp nd).1 y
    ·exact Y (sub _ B6)
theorem GZ(F:aZ K "_law_at" "_law_at" rL f fd)(N:aO mg)(G1:av P w K mg base aK 2 f1 d1 Zs (nq K))(b:Cq K mg d1 f1 Zs "_law_change")(G2:av P w K mg base aK 3 f2 d2 Ze B11E.fv)(c:Cq K mg d2 f2 Ze "boxes_of")(g:Cq K mg fd f Zn "_law_at"):∀h:Nat,av P w K mg base aK (4+h) f fd Zn (di K h)
 |0=>by
  refine F.ok fY (λvs H Q E h=>?_) (λcdv A outer s H vs Q E k h=>?_)
  ·obtain⟨st,a,ln,d,z,i,bd,cs,aX,tb,e,_⟩:=h;rw[e];rfl
  ·obtain⟨st,a,ln,d,z,i,bd,cs,aX,tb,e,j,_⟩:=h;exact absurd j (Pn _)
 |h+1=>IC F N G1 b G2 c (GZ F N G1 b G2 c g h) g
end
noncomputable abbrev iJ:NG:=top 126
theorem Eb{K:mo}{b:B3}{g:TG}{tb:TS}{D:Ends}(c:Nat->St->Hp->Prop)(h0:c 0 σ H)(l:xs.length=ys.length)(hl:∀i σ H,i<=xs.length->c i σ H->bf K H a xs/\bf K H b ys)(q:∀i x y p σ H,xs[i]? =some x->ys[i]? =some y->H p=none->c i σ H->g (.ref p) σ (upd H p (.tup [x,y])) λd H2=>tb {D with nx:=c (i+1),ct:=c (i+1),bk:=D.nx} d H2)(hd:∀σ H,c xs.length σ H->D.nx σ H):
  ∃W:Nat->Nat->St->Hp->Prop,(∃m,W 0 m σ H)/\∀i m σ H,W i m σ H->
   ((Jj K a b).stop i H/\D.nx σ H)∨((Jj K a b).go i H/\∃N:St->Hp->Prop,(∀σ' H',N σ' H'->∃k,k<m/\W (i+1) k σ' H')/\∀x H',(Jj K a b).yld i H x H'->g x σ H' λd H2=>tb {D with nx:=N,ct:=N,bk:=D.nx} d H2):=by
 refine⟨λi m σ H=>m=xs.length-i/\i<=xs.length/\c i σ H,⟨xs.length,by simp,Nl _,h0⟩,?_⟩;rintro i m σ H ⟨rfl,hi,p⟩;obtain⟨j,h⟩:=hl i σ H hi p;by_cases f:i<xs.length
 ·refine .inr ⟨⟨xs,ys,xs[i],ys[i]'(by lia),j,h,by simp[f],by simp[show i<ys.length by lia]⟩,c (i+1),λσ' H' w=>⟨xs.length-(i+1),by lia,rfl,f,w⟩,λx H' y=>?_⟩;obtain⟨o,u,v,t,hn,s,r,n⟩:=y;subst t s;exact q i u v o σ H (r xs j) (n ys h) hn p
 ·have e:i=xs.length:=by lia
  subst e;exact .inl ⟨⟨xs,ys,j,h,.inl (B2 _)⟩,hd σ H p⟩
noncomputable def fB:Fo->Nat->List (B3×cK×Nat)
 | .nil,_=>[]
 | .cons a d cs as,n=>(a,d,n)::(fB cs (n+1)++fB as n)
theorem kK:∀(F:Fo)(n:Nat),(fB F n).length=F.cnt
 | .nil,_=>rfl
 | .cons a d cs as,n=>by
  show(fB cs (n+1)++fB as n).length+1=cs.cnt+as.cnt+1;rw[B1,kK cs,kK as]
theorem rz:∀(F:Fo)(n:Nat)(eh:aY)(i:Nat),(aS F n eh i).length=F.cnt/\∀(j:Nat)(row:Str)(x:B3×cK×Nat),(aS F n eh i)[j]? =some row->(fB F n)[j]? =some x->∃g l,row=B11P.bY x.2.1 x.2.2 g l
 | .nil,_,_,_=>⟨rfl,λj row x e=>nomatch e⟩
 | .cons a d cs as,n,eh,i=>by
  obtain⟨h,m⟩:=rz cs (n+1) d.wh 0;obtain⟨k,o⟩:=rz as n eh (i+1);refine⟨?_,λj row x f b=>?_⟩
  ·show(aS cs (n+1) d.wh 0++aS as n eh (i+1)).length+1=cs.cnt+as.cnt+1;rw[B1,h,k]
  ·cases j with
   |zero=>
    have f:some (B11P.bY d n eh i)=some row:=f;have b:some (a,d,n)=some x:=b
    cases f
    cases b
    exact⟨eh,i,rfl⟩
   |succ j=>
    have f:(aS cs (n+1) d.wh 0++aS as n eh (i+1))[j]? =some row:=f;have b:(fB cs (n+1)++fB as n)[j]? =some x:=b;by_cases c:j<cs.cnt
    ·rw[KF (by lia)]at f;rw[KF (by rw[kK];exact vY)]at b;exact m j row x f b
    ·rw[GM (by lia),h]at f;rw[GM (by rw[kK];lia),kK]at b;exact o _ row x f b
theorem R7.lN{G:B11E.Fo}(h:R7 F G):∀n:Nat,G.lN=(fB F n).map (·.1):=by
 induction h with
 |nil=>exactλ_=>rfl
 | @cons a p d cs as G1 G2 _ _ b c=>
  intro n;rw[B11E.Fo.uL,b (n+1),c n,<-Da];rfl
theorem CH:∀(F:Fo)(n:Nat),F.Ok H->∀x∈fB F n,∃o q p:V,H x.1=some (.tup [.str x.2.1.wh.kd,.str x.2.1.nm,o,q,p])
 | .nil,_,_,x,hx=>nomatch hx
 | .cons a d cs as,n,⟨⟨o,q,p,b,_⟩,h1,h2⟩,x,hx=>by
  rcases List.mem_cons.mp hx with rfl|hx
  ·exact⟨_,_,_,b⟩
  ·rcases List.mem_append.mp hx with hx|hx
   ·exact CH cs _ h1 x hx
   ·exact CH as _ h2 x hx
theorem su:∀(F:Fo)(n m:Nat),F.Good->n+F.bW<=m->∀x∈fB F n,x.2.1.nm.length<=60/\x.2.2<=m
 | .nil,_,_,_,_,x,hx=>nomatch hx
 | .cons a d cs as,n,m,⟨⟨_,_,g3,_⟩,c,b⟩,hm,x,hx=>by
  have hm:n+max (cs.bW+1) as.bW<=m:=hm
  rcases List.mem_cons.mp hx with rfl|hx
  ·exact⟨g3,by show n<=m;lia⟩
  ·rcases List.mem_append.mp hx with hx|hx
   ·exact su cs _ m c (by lia) x hx
   ·exact su as _ m b (by lia) x hx
theorem Iw{ps:List (Str×Str)}{G:B11E.Fo}(h:R7 F G):∀(e:Str)(m:Nat),BE ps e m->(∀p∈G.yg e,p∈ps)->∀x∈fB F (m+1),BE ps x.2.1.nm x.2.2:=by
 induction h with
 |nil=>exactλ_ _ _ _ x hx=>nomatch hx
 | @cons a p d cs as G1 G2 _ _ c f=>
  intro e m he sub x hx;have sub:∀q∈(d.nm,e)::(G1.yg d.nm++G2.yg e),q∈ps:=sub;have hd:BE ps d.nm (m+1):= .step (sub _ B6) he
  rcases List.mem_cons.mp hx with rfl|hx
  ·exact hd
  ·rcases List.mem_append.mp hx with hx|hx
   ·exact c d.nm (m+1) hd (λq b=>sub q (De _ (NS _ b))) x hx
   ·exact f e m he (λq b=>sub q (De _ (ND _ b))) x hx
theorem Cw{p:B3}{G:B11E.Fo}(h:R7 (.cons a d cs .nil) (B11E.tr a d.nm p G))(nd:(aM (.cons a d cs .nil)).Nodup):∀x∈fB (.cons a d cs .nil) 0,BE (B11E.tr a d.nm p G).sY x.2.1.nm x.2.2:=by
 have l:=h.aX
 have c:(B11E.tr a d.nm p G).aX.Nodup:=by rw[l];exact nd
 have f:(B11E.tr a d.nm p G).sY.Perm (G.yg d.nm):=by
  have e:=B11E.Fo.tT a d.nm p G .nil;rw[show(B11E.tr a d.nm p G).sY=_ from e];have k:=B11E.Fo.gY G d.nm;refine List.Perm.trans ?_ k.symm;refine List.Perm.append_left _ ?_;show(G.sY++[]).Perm G.sY;rw[Dk]
 have j:R7 cs G:=by
  cases h with
  |cons h1 h2=>exact h1
 have i:BE (B11E.tr a d.nm p G).sY d.nm 0:= .root λhx=>by
  obtain⟨q,b,e⟩:=List.mem_map.mp hx;have b:=f.mem_iff.mp b;have g:d.nm∈(G.yg d.nm).map (·.1):=List.mem_map.mpr ⟨q,b,e⟩;rw[B11E.Fo.ic]at g;rw[B11E.Fo.mR]at c;exact(List.nodup_cons.mp c).1 (NS _ g)
 intro x hx;have hx:x∈(a,d,0)::(fB cs (0+1)++[]):=hx;rw[Dk]at hx
 rcases List.mem_cons.mp hx with rfl|hx
 ·exact i
 ·exact Iw j d.nm 0 i (λq b=>f.mem_iff.mpr b) x hx
theorem starts_app(p q:Str):(decide (0+p.length<=(p++q).length)&&Si (p++q) p 0)=true:=by
 rw[Vc,GE,decide_eq_true (by lia),Bool.true_and,beq_iff_eq,Qo,app_list];exact List.take_left' (dE p)
noncomputable def nR(d:cK)(n:Nat):Str:=((nk "  " n++d.wh.kd)++" ")++d.nm
theorem Ed(d:cK)(n:Nat)(eh:aY)(i:Nat):B11P.bY d n eh i=nR d n∨∃r,B11P.bY d n eh i=(nR d n++" ")++r:=by
 unfold B11P.bY B11P.fo;generalize Dh d.own++(g_ d.wh++(zE eh i++Jn d.wh))=W
 have a:(nR d n).cps.toList=(nk "  " n).cps.toList++(d.wh.kd.cps.toList++([32]++d.nm.cps.toList)):=by
  unfold nR;rw[app_list,app_list,app_list,jO,IR,IR]
 cases W with
 |nil=>
  refine .inl (jf ?_);rw[a,app_list,join_eq,join_list,jO];rfl
 |cons w r=>
  refine .inr ⟨NT " " (w::r),jf ?_⟩;rw[app_list,app_list (nR d n++" "),app_list (nR d n),a,join_eq,join_list,join_list,jO,IR,IR,IR,IR];rfl
inductive Cr(vs:List V)(H:Hp)(Q:VK):Prop
 |mk (t:B3) (bd:cK) (cs:Fo) (c0:vs=[.ref t]) (c1:(Fo.cons t bd cs .nil).Ok H) (c2:Drawn bd cs) (c3:∀H',af H H'->Q (.bl true) H')
def xG(K:mo):Sp:=λvs H Q _=>Cr vs H Q
section
variable{K:mo}
noncomputable abbrev Ex:List Str:=["_law_tree","_law_text","_law_rows","_law_boxes","_law_elders","_law_row","_law_box_here","_law_begin"]
theorem eI:aw Ex ["_law_tree"] (aj iJ):=cD
theorem Ax(F:aZ K "_law_right" "_law_right" iJ f fd)(N:aO mg)(G1:av P w K mg base aK 22 f1 d1 Za jL)(J1:Cq K mg d1 f1 Za "check_tree")(G2:av P w K mg base aK 17 f2 d2 Ze gM)(J2:Cq K mg d2 f2 Ze "tree_text")(G3:av P w K mg base aK 23 f3 d3 Zf (xQ K))(J3:Cq K mg d3 f3 Zf "read_tree")(G4:av P w K mg base aK 3 f4 d4 Ze B11E.fv)(J4:Cq K mg d4 f4 Ze "boxes_of")(G5:av P w K mg base aK 3 f5 d5 Ze B11E.tR)(J5:Cq K mg d5 f5 Ze "elders_of")(G6:av P w K mg base aK 1 f6 d6 ZL AO)(J6:Cq K mg d6 f6 ZL "_law_deep"):av P w K mg base aK 24 f fd ["_law_tree"] (xG K):=by
 refine F.cI eI λcdv A outer s H vs Q E J h=>?_
 ·obtain⟨t,bd,cs,e,ok,l,k⟩:=h;subst e;have c8:=J.mono (j:=1) (by decide);have a9:=J.mono (j:=3) (by decide);have v:=J.mono (j:=17) (by decide);have T:=J.mono (j:=22) (by decide);have p:=J.mono (j:=23) (by decide)
  have a7:(A.deeper (NB "_law_right" (aj iJ) s.heap.objs.size f cdv)).units+50<OX:=by have :=J.units;lia
  refine⟨_,ah (cu (pq G1 T J1 (aa (pv 0) ab)))
   (ah (aB (i:=1) eI.nd rfl (Ki rfl) (pq G2 v J2 (aa (pv 0) ab)))
   (ah (aR (mU (aA (Bb a7) (pq G3 p J3 (aa (pv 1) ab)) (pv 0) (aF _)) (lq (aA kr (pq G2 v J2 (aa (pq G3 p J3 (aa (pv 1) ab)) ab)) (pv 1) (aF _)))).pt (ai (au cQ)) az)
   (ah (aB (i:=2) eI.nd rfl (Ki rfl) (cw Nu O7 O6 gh (pv 1) (aa ar ab)))
   (ah (aB (i:=3) eI.nd rfl (Ki rfl) (pq G4 a9 J4 (aa (pv 0) ab)))
   (ah (aB (i:=4) eI.nd rfl (Ki rfl) (pq G5 a9 J5 (aa (pv 0) ab)))
   (ah (aR (aA kr (aH bq (by rfl) N.len NI (aa (pv 2) ab)) (aH bq (by rfl) N.len NI (aa (pv 3) ab)) (aF _)) (ai (au cQ)) az)
   (ah (cx Np rfl (Dn (by rfl) N.zip (aa (pv 2) (aa (pv 3) ab))) (kR rfl (bN (aV (i:=5) eI.nd rfl (Ki rfl)) (bN (aV (i:=6) eI.nd rfl (Ki rfl)) iL)))
    (ah (aB (i:=7) eI.nd rfl (Ki rfl) (aJ bP (aJ bP (aJ bP (aJ xC ar (pq G6 c8 J6 (aa (pv 4) (aa (ay ax (pv 6) ag (λ_ _=>rfl)) ab)))) (ay ax (pv 6) ag (λ_ _=>rfl))) ar) (ay ax (pv 6) ag (λ_ _=>rfl))))
    (ai (aR (cM (aA kr (pv 5) (pv 7) (aF _)) (cA (cX (bJ (cw Nu SE SD ja (pv 5) (aa (aJ bP (pv 7) ar) ab)))))).pt (ai (au cQ)) az))))
   (ai (au cQ))))))))),?_⟩
  try rw[bO]
  have good:=l.good;have hh:=l.bW;have hc:=l.cnt;have c0:At K H (.ref t) (eC bd cs):=(s_ (K:=K) (.cons t bd cs .nil) false ok good l.vf).2 0 _ _ rfl rfl
  have L:aM (.cons 0 bd cs .nil)=bd.nm::aM cs:=by
   show bd.nm::(aM cs++[])=_;rw[Dk]
  refine aq λd c=>?_;refine⟨_,rfl,t,bd,cs,rfl,ok,good,l.vf,λx hx=>l.aX x (by rw[L];exact hx),by rw[<-L];exact l.nd,hh,hc,λH1 s1=>?_⟩;refine c _ _ (aq λd c=>?_);refine⟨_,rfl,t,bd,cs,rfl,ok.keep (KT.same s1),good,K4,vY,λH2 s2=>?_⟩;have b3:=af.trans s1 s2;refine c _ _ (aq λd c=>?_);refine⟨_,rfl,bd,cs,rfl,l,λv1 H3 s3 b0=>?_⟩;have Z:=af.trans b3 s3;have pl:jh 41 (eC bd cs):=oq (.cons 0 bd cs .nil) 41 (by show 2*max (cs.bW+1) 0+4<=41;lia) _ B6;obtain⟨a1,e5,xs,ys,e,e1,e2,hA,hB,he,hq⟩:=xS pl pl b0 (c0.same Z);subst e1
  injection e2 with e2
  subst e2;refine⟨_,rfl,a1,t,xs,ys,e,rfl,rfl,hA,hB,he,_,rfl,?_⟩
  show if(!((Nz (min xs.length ys.length)).all e&&xs.length==ys.length))=true then _ else _
  rw[hq.mpr rfl];refine dh ?_;refine⟨_,rfl,bd,cs,rfl,l,λv2 H4 s4 W=>?_⟩;have b8:=af.trans Z s4;obtain⟨G,a0,R,O⟩:=yO (.cons 0 bd cs .nil) [v2] (bV.cons W bV.nil);have m:=a0.good l.good
  cases a0 with
  | @cons _ a' _ _ cs' _ as' lc la=>
   cases la with
   |nil=>
    have R:[v2]=[V.ref a']:=R
    injection R with R _
    subst R;have e1:=lc.bW;have d9:=lc.cnt;refine⟨a',bd,cs',rfl,O,m,by lia,by lia,λH5 s5=>⟨_,rfl,rfl,_,rfl,br ?_ ?_⟩⟩
    ·rw[<-lc.rows];show(!decide (V.str (textOf bd cs)=V.str (textOf bd cs)))=false;rw[decide_eq_true rfl];rfl
    clear lc O m W b0 hA hB he hq;have b4:=af.trans b8 s5;refine c _ _ ?_;clear c d;obtain⟨c9,d7⟩:=gR l;refine aq λd c=>?_;refine⟨_,rfl,rfl,textOf bd cs,"\n",rfl,rfl,by decide +kernel,aG (by lia),λlr c2=>?_⟩;have er:Oh (textOf bd cs) "\n"=aS (.cons t bd cs .nil) 0 bX 0:=c9;rw[er];generalize hG:upd H5 lr _=H6
    have s6:af H5 H6:=by rw[<-hG];exact af.put (af.refl _) c2
    have h6:H6 lr=some (.lst ((aS (.cons t bd cs .nil) 0 bX 0).map V.str)):=by rw[<-hG];exact ae
    clear hG;have a5:=af.trans b4 s6;refine c _ _ ?_;clear c d;obtain⟨S,G7,r7,U⟩:=Bn ok;have c7:=r7.cnt
    have a8:(B11E.tr t bd.nm S G7).cnt<=60:=by rw[c7];show cs.cnt+0+1<=60;lia
    refine aq λd c=>?_;refine⟨_,rfl,t,bd.nm,S,G7,rfl,U.keep (.same a5),a8,λlb H7 d8 s7 b7=>?_⟩;have a2:=af.trans a5 s7;refine c _ _ (aq λd c=>?_);refine⟨_,rfl,t,bd.nm,S,G7,rfl,U.keep (.same a2),a8,by rw[r7.aX];exact l.nd,λle H8 e0 s8 c4=>?_⟩;have a6:=af.trans a2 s8;refine c _ _ ?_;clear c d;have B:=s8 _ _ (s7 _ _ h6);have C:=s8 _ _ b7;obtain⟨a3,c1⟩:=rz (.cons t bd cs .nil) 0 bX 0;have D:=r7.lN 0;have M:=kK (.cons t bd cs .nil) 0;refine aq λd c=>?_;refine⟨_,rfl,lr,_,rfl,.inl (bf.of B),_,rfl,lb,_,rfl,.inl (bf.of C),rfl,_,rfl,br ?_ ?_⟩
    ·rw[be,be,a3,D,be,M,decide_eq_true rfl];rfl
    refine c _ _ ?_;clear c d;have tp:=Cw r7 l.nd;have gB:=su (.cons t bd cs .nil) 0 8 good (by show 0+max (cs.bW+1) 0<=8;lia);have bA:=CH (.cons t bd cs .nil) 0 (ok.keep (KT.same a6));have c5:=B11E.Fo.ug (F:=B11E.tr t bd.nm S G7) (by rw[r7.aX];exact l.nd);refine aq λd c=>?_;refine⟨_,rfl,_,rfl,lr,lb,rfl,⟨_,bf.of B⟩,⟨_,bf.of C⟩,Eb (K:=K) (a:=lr) (b:=lb) (xs:=(aS (.cons t bd cs .nil) 0 bX 0).map V.str) (ys:=(B11E.tr t bd.nm S G7).lN.map V.ref) (λj σ o=>af H8 o/\∃u5 u6 u7:Option V,σ=[some (.ref t),some (.str (textOf bd cs)),some (.ref lr),some (.ref lb),some (.ref le),u5,u6,u7]) ⟨af.refl _,_,_,_,rfl⟩ (by rw[be,be,a3,D,be,M]) ?_ ?_ ?_⟩
    ·rintro j σ o hj ⟨I,-⟩;exact⟨bf.of (I _ _ B),bf.of (I _ _ C)⟩
    ·rintro j x y pz σ o ex ey b5 ⟨I,u5,u6,u7,rfl⟩;rw[B7]at ex ey;obtain⟨row,d0,rfl⟩:=Option.map_eq_some_iff.mp ex;obtain⟨b1,b2,rfl⟩:=Option.map_eq_some_iff.mp ey;rw[D,B7]at b2;obtain⟨X,eX,rfl⟩:=Option.map_eq_some_iff.mp b2;have hX:=Do eX;obtain⟨b6,i',u⟩:=c1 j row X d0 eX;obtain⟨ob,qb,pb,c3⟩:=bA X hX;obtain⟨gn,gd⟩:=gB X hX;have pX:=tp X hX;have b9:af o (upd o pz (.tup [.str row,.ref X.1])):=af.put (af.refl _) b5;have Y:(upd o pz (.tup [.str row,.ref X.1])) pz=_:=ae;generalize upd o pz (.tup [.str row,.ref X.1])=e3 at *;have g:=af.trans I b9;have n:=g _ _ c3;have a4:=g _ _ c4;refine⟨pz,_,rfl,ba.of Y,rfl,_,_,rfl,_,_,rfl,rfl,?_⟩
     have e6:(nk "  " X.2.2).length=2*X.2.2:=by rw[<-dE,nP,PN]
     have e4:=B11P.kd_len X.2.1.wh;refine aq λd c=>?_;refine⟨_,rfl,_,rfl,X.1,_,_,_,rfl,rfl,ba.of n,rfl,le,X.2.1.nm,_,X.2.2,rfl,a4,c5,pX,"  ",X.2.2,rfl,rfl,cP,by decide +kernel,by decide +kernel,_,rfl,X.1,_,_,_,rfl,rfl,ba.of n,rfl,_,_,rfl,rfl,aG (by lia),_,_,rfl,rfl,aG (by rw[GE];show _+1<=100000;lia),_,rfl,X.1,_,_,_,rfl,rfl,ba.of n,rfl,_,_,rfl,rfl,aG (by rw[GE,GE];show(_+1)+_<=100000;lia),?_⟩;refine c _ _ ?_;clear c d;refine⟨_,rfl,_,rfl,rfl,_,rfl,dM (λq=>?_) (λq=>dh ?_)⟩
     ·have c6:¬row=nR X.2.1 X.2.2:=λz=>by
       have q:(!decide (V.str row=V.str (nR X.2.1 X.2.2)))=true:=q;rw[z,decide_eq_true rfl]at q;exact FS q
      rcases Ed X.2.1 X.2.2 b6 i' with z|⟨r,z⟩
      ·exact absurd (u.trans z) c6
      refine⟨_,rfl,rfl,_,rfl,_,_,rfl,rfl,aG (by rw[GE,GE,GE];show((_+1)+_)+1<=100000;lia),row,nR X.2.1 X.2.2++" ",rfl,rfl,_,rfl,?_⟩
      show if(!(decide (0+(nR X.2.1 X.2.2++" ").length<=row.length)&&Si row (nR X.2.1 X.2.2++" ") 0))=true then _ else _
      rw[u,z,starts_app];exact dh ⟨g,_,_,_,rfl⟩
     ·exact⟨g,_,_,_,rfl⟩
    ·rintro σ o ⟨I,u5,u6,u7,rfl⟩;refine c _ _ ?_;exact k o (af.trans a6 I)
end
theorem FV{p:Str×Str}(k:61∉p.1.cps.toList)(j:61∉q.1.cps.toList)(e:gC p=gC q):p=q:=by
 have e:(gC p).cps.toList=(gC q).cps.toList:=by rw[e]
 unfold gC at e;rw[app_list,app_list,app_list,app_list,show("=":Str).cps.toList=[61]by decide +kernel]at e
 have i:∀{a b c d:List Nat},61∉a->61∉c->a++([61]++b)=c++([61]++d)->a=c/\b=d:=by
  intro a
  induction a with
  |nil=>
   intro b c d _ g e
   cases c with
   |nil=>exact⟨rfl,by simpa using e⟩
   |cons x c=>
    injection e with f h
    exact absurd (by rw[f];exact B6) g
  |cons x a l=>
   intro b c d ha g e
   cases c with
   |nil=>
    injection e with f h
    exact absurd (by rw[<-f];exact B6) ha
   |cons y c=>
    injection e with f h
    obtain⟨h1,h2⟩:=l (λz=>ha (De _ z)) (λz=>g (De _ z)) h;exact⟨by rw[f,h1],h2⟩
 obtain⟨h1,h2⟩:=i k j e;exact QB (jf h1) (jf h2)
theorem xI:∀{l m:List (Str×Str)},(∀p∈l,61∉p.1.cps.toList)->(∀p∈m,61∉p.1.cps.toList)->l.map gC=m.map gC->l=m
 |[],[],_,_,_=>rfl
 |[],_::_,_,_,e=>nomatch e
 |_::_,[],_,_,e=>nomatch e
 |p::l,q::m,h,g,e=>by
  injection e with a b
  rw[FV (h p B6) (g q B6) a,xI (λx hx=>h x (De _ hx)) (λx hx=>g x (De _ hx)) b]
theorem vp.one{row:Str}{dep a:Nat}{kd d nm c:Str}{kvs kvs':List (Str×Str)}{tx e:Str}(h:vp row dep kd nm kvs tx)(g:vp row a d c kvs' e):dep=a/\kd=d/\nm=c/\kvs=kvs'/\tx=e:=by
 obtain⟨h0,m,o,_,n⟩:=h.head;obtain⟨q,t,b,_,f⟩:=g.head;rw[o]at b
 injection b with r l
 injection l with l i
 injection i with i _
 subst r i;rw[n]at f
 injection f with b1 k
 injection k with k s
 have :=h.deep;have :=g.deep;exact⟨by lia,b1,k,xI (λp j=>(h.keys p j).1) (λp j=>(g.keys p j).1) s,rfl⟩
theorem own_one(h:zw ps o)(g:zw ps o'):o=o':=by
 obtain⟨⟨r,s⟩,⟨q,n,p,t⟩,_⟩:=h;obtain⟨⟨b1,i⟩,⟨k,l,d,f⟩,_⟩:=g;rw[r]at b1;rw[s]at i;rw[q]at k;rw[n]at l;rw[p]at d;rw[t]at f;have a:=(fH dd (by decide)).mp (Kf b1);have j:=(fH dd (by decide)).mp (Kf i);have e:=dg (Kf k);have b:=dg (Kf l);have c:=dg (Kf d);have m:=dg (Kf f)
 cases o;cases o'
 simp only[Prod.mk.injEq]at a j;obtain⟨rfl,rfl⟩:=a;obtain⟨rfl,rfl⟩:=j;simp only at e b c m;subst e b c m;rfl
theorem A4{a:List (List Str)}(h:pA ws)(g:pA a)(e:iW ws=iW a):ws=a:=by
 have z:∀{ws:List (List Str)},pA ws->ws≠[]->(Oh (iW ws) " ").map (λx=>Oh x "|")=ws:=λ{ws} h b=>by
  rw[lL h b,NO];have :=OL (l:=ws) (f:=(λx=>Oh x "|")∘NA "|") (g:=id) λw c=>nc (h.2 w c).1 λx hx=>((h.2 w c).2.2 x hx).2.2.2;rw[this,RK]
 have d:∀{ws:List (List Str)},pA ws->ws≠[]->iW ws≠iW []:=λ{ws} h b e=>by
  have q:=z h b;rw[e]at q
  have i:(Oh (iW []) " ").map (λx=>Oh x "|")=[[("":Str)]]:=by decide +kernel
  rw[i]at q;have :=((h.2 [("":Str)] (by rw[<-q];exact B6)).2.2 ("":Str) B6).1;exact absurd this (by decide +kernel)
 by_cases h1:ws=[]
 ·by_cases h2:a=[]
  ·rw[h1,h2]
  ·rw[h1]at e;exact absurd e.symm (d g h2)
 ·by_cases h2:a=[]
  ·rw[h2]at e;exact absurd e (d h h1)
  ·rw[<-z h h1,<-z g h2,e]
theorem By{q:(Str×Int)×(Str×Int)}(h1:44∉p.1.1.cps.toList)(h2:44∉p.2.1.cps.toList)(g1:44∉q.1.1.cps.toList)(g2:44∉q.2.1.cps.toList)(e:four p=four q):p=q:=by
 have d:=jg h1 h2;rw[e,jg g1 g2]at d
 injection d with f b
 injection b with b a
 injection a with a c
 injection c with c _
 exact QB (QB f.symm (dg b).symm) (QB a.symm (dg c).symm)
theorem uF{α:Type}{l m:List α}(h1:pts.length=l.length)(h2:pts.length=m.length)(h:∀(i:Nat)(t:PS)(x y:α),pts[i]? =some t->l[i]? =some x->m[i]? =some y->x=y):l=m:=
 Rk (by lia) λj b a=>h j (pts[j]'(by lia)) _ _ (B0 _) (B0 b) (B0 a)
theorem BX(h:qk ps pts wh)(g:qk ps pts wh')(d:wh.kd=wh'.kd):dy wh=dy wh':=by
 have l:∀{k:Nat}{g:Int}{al sd:Str}{x:Str},x∉(Zq:List Str)->(aY.lined k g al sd).kd≠x:=λ{k g al sd x} hx e=>hx (by
  rw[<-e]
  match k with
  |0=>show("row":Str)∈_;decide +kernel
  |1=>show("column":Str)∈_;decide +kernel
  |k+2=>show("wrap":Str)∈_;decide +kernel)
 cases wh with
 |leaf a b=>
  cases wh' with
  |leaf a' U=>
   have e:=h.1;rw[g.1]at e;have e:=(fH cm (by decide)).mp (Kf e);simp only[Prod.mk.injEq]at e;rw[e.1,e.2]
  |lined=>exact absurd d.symm (l (x:="leaf") (by decide +kernel))
  |table=>exact absurd d (by show¬("leaf":Str)="table";decide +kernel)
  |words=>exact absurd d (by show¬("leaf":Str)="words";decide +kernel)
  |flow=>exact absurd d (by show¬("leaf":Str)="flow";decide +kernel)
  |over=>exact absurd d (by show¬("leaf":Str)="over";decide +kernel)
 |lined k z al sd=>
  cases wh' with
  |lined T q R B=>
   obtain⟨o,m,p,_⟩:=h;obtain⟨b1,f,n,_⟩:=g;rw[o]at b1;rw[m]at f;rw[p]at n;rw[show z=q from dg (Kf b1),Kf f,Kf n];rfl
  |leaf=>exact absurd d (l (x:="leaf") (by decide +kernel))
  |table=>exact absurd d (l (x:="table") (by decide +kernel))
  |words=>exact absurd d (l (x:="words") (by decide +kernel))
  |flow=>exact absurd d (l (x:="flow") (by decide +kernel))
  |over=>exact absurd d (l (x:="over") (by decide +kernel))
 |table c z sd sps=>
  cases wh' with
  |table S q B G=>
   obtain⟨⟨o,m,p⟩,_,u,v⟩:=h;obtain⟨⟨b1,f,n⟩,_,F,E⟩:=g;rw[o]at b1;rw[m]at f;rw[p]at n
   rw[show c=S from dg (Kf b1),show z=q from dg (Kf f),Kf n,uF u F λi t x y s D C=>by
    have r:=(v i t x s D).1;rw[(E i t y s C).1]at r
    exact((fH cm (by decide)).mp (Kf r)).symm]
  |leaf=>exact absurd d (by show¬("table":Str)="leaf";decide +kernel)
  |lined=>exact absurd d.symm (l (x:="table") (by decide +kernel))
  |words=>exact absurd d (by show¬("table":Str)="words";decide +kernel)
  |flow=>exact absurd d (by show¬("table":Str)="flow";decide +kernel)
  |over=>exact absurd d (by show¬("table":Str)="over";decide +kernel)
 |words ws j=>
  cases wh' with
  |words A w=>
   obtain⟨⟨o,m⟩,_,p,_⟩:=h;obtain⟨⟨b1,f⟩,_,n,_⟩:=g;rw[o]at b1;rw[m]at f;rw[A4 p n (Kf b1),show j=w from dg (Kf f)]
  |leaf=>exact absurd d (by show¬("words":Str)="leaf";decide +kernel)
  |lined=>exact absurd d.symm (l (x:="words") (by decide +kernel))
  |table=>exact absurd d (by show¬("words":Str)="table";decide +kernel)
  |flow=>exact absurd d (by show¬("words":Str)="flow";decide +kernel)
  |over=>exact absurd d (by show¬("words":Str)="over";decide +kernel)
 |flow sds ws j=>
  cases wh' with
  |flow I A w=>
   obtain⟨⟨o,m⟩,⟨_,p,_⟩,u,v⟩:=h;obtain⟨⟨b1,f⟩,⟨_,n,_⟩,F,E⟩:=g;rw[o]at b1;rw[m]at f
   rw[A4 p n (Kf b1),show j=w from dg (Kf f),uF u F λi t x y s D C=>by
    have r:=(v i t x s D).1;rw[(E i t y s C).1]at r
    exact(Kf r).symm]
  |leaf=>exact absurd d (by show¬("flow":Str)="leaf";decide +kernel)
  |lined=>exact absurd d.symm (l (x:="flow") (by decide +kernel))
  |table=>exact absurd d (by show¬("flow":Str)="table";decide +kernel)
  |words=>exact absurd d (by show¬("flow":Str)="words";decide +kernel)
  |over=>exact absurd d (by show¬("flow":Str)="over";decide +kernel)
 |over as=>
  cases wh' with
  |over as'=>
   obtain⟨o,m⟩:=h;obtain⟨b1,f⟩:=g
   have e:as=as':=Rk (by lia) λj M Q=>by
    have H:pts[j+1]? =some (pts[j+1]'(by lia)):=B0 _;obtain⟨K,⟨L,O⟩,_⟩:=m j _ _ H (B0 M);obtain⟨J,⟨N,P⟩,_⟩:=f j _ _ H (B0 Q);rw[K]at J;exact By L O N P (Kf J)
   rw[e]
  |leaf=>exact absurd d (by show¬("over":Str)="leaf";decide +kernel)
  |lined=>exact absurd d.symm (l (x:="over") (by decide +kernel))
  |table=>exact absurd d (by show¬("over":Str)="table";decide +kernel)
  |words=>exact absurd d (by show¬("over":Str)="words";decide +kernel)
  |flow=>exact absurd d (by show¬("over":Str)="flow";decide +kernel)
def Ks(r r':gX):Prop:=r.dep=r'.dep/\r.wh.kd=r'.wh.kd/\r.nm=r'.nm/\r.ps=r'.ps
theorem ye:∀{rs c:List gX}{W d f:WT},rs.length=c.length->(∀(j:Nat)(r r':gX),rs[j]? =some r->c[j]? =some r'->Ks r r')->Run W rs d->Run W c f->d=f
 |[],[],W,d,f,_,_,h,g=>by rw[<-h.done,<-g.done]
 |[],_::_,_,_,_,e,_,_,_=>nomatch e
 |_::_,[],_,_,_,e,_,_,_=>nomatch e
 |r::rs,r'::c,W,d,f,q,l,h,g=>by
  obtain⟨o,m,t,i⟩:=l 0 r r' rfl rfl
  cases h with
  |cons f1 n=>
   cases g with
   |cons f2 v=>
    have u:=f1.own;have k:=f2.own;have w1:=f1.what;have w2:=f2.what;rw[<-i]at k;rw[<-i,<-o]at w2;have p:=own_one u k;have s:=BX w1 w2 m
    have es:qg W r=qg W r':=by
     unfold qg kT;rw[o,i]
     have :fq r.wh.kd r.nm r.own r.wh ((kids W (r'.dep+1)).reverse.map (·.1))=fq r'.wh.kd r'.nm r'.own r'.wh ((kids W (r'.dep+1)).reverse.map (·.1)):=by
      unfold fq;rw[m,t,p,s]
     rw[this]
    rw[es]at n;exact ye (by simpa using q) (λj a b h1 h2=>l (j+1) a b h1 h2) n v
theorem Cm(h:Drawn d cs)(g:Drawn d' cs')(e:textOf d cs=textOf d' cs'):eC d cs=eC d' cs':=by
 have m:aS (.cons 0 d cs .nil) 0 bX 0=aS (.cons 0 d' cs' .nil) 0 bX 0:=by rw[<-(gR h).1,<-(gR g).1,e]
 have A:(Fo.cons 0 d cs .nil).bW<=8:=by
  show max (cs.bW+1) 0<=8;have :=h.bW
  lia
 have z:(Fo.cons 0 d' cs' .nil).bW<=8:=by
  show max (cs'.bW+1) 0<=8;have :=g.bW
  lia
 obtain⟨B,s⟩:=iG (.cons 0 d cs .nil) 0 bX 0 false 0 h.vf h.good h.aX dV lV (by lia);obtain⟨p,i⟩:=iG (.cons 0 d' cs' .nil) 0 bX 0 false 0 g.vf g.good g.aX dV lV (by lia);rw[<-m]at p i;have q:=oG (a:=0) h.vf h.good;have t:=oG (a:=0) g.vf g.good;have :=ye (by rw[NZ,NZ];lia) (λj r r' c b=>?_) q t
 ·injection this with this
  injection this with _ this
  injection this with this
  injection this
 ·have f:=bw c;have k:=bw b;rw[NZ]at f k;rw[Pg f]at c;rw[Pg k]at b
  have n:(nH (.cons 0 d cs .nil) 0 bX 0).length=(nH (.cons 0 d' cs' .nil) 0 bX 0).length:=by lia
  rw[<-n]at b;have C:=bw c;obtain⟨D,o,_,s1⟩:=s _ _ r (B0 (by lia)) c;obtain⟨p2,u,_,s2⟩:=i _ _ r' (B0 (by lia)) b;obtain⟨y,l,v,w,x⟩:=vp.one o u;exact⟨y,l,v,by rw[s1,s2];unfold toldOf;rw[w,x]⟩
theorem JV(h:lO o=lO o'):o=o':=by
 cases o;cases o'
 simp only[lO,D.tup.injEq,O2,D.int.injEq,and_true]at h;obtain⟨⟨rfl,rfl⟩,⟨rfl,rfl⟩,rfl,rfl,rfl,rfl⟩:=h;rfl
theorem Dd{a b:List Str}(h:a.map D.str=b.map D.str):a=b:=(Qh λx y e=>by injection e).mp h
theorem yB{a b:List (List Str)}(h:eM a=eM b):a=b:=by
 have h:a.map (λw=>D.tup (w.map D.str))=b.map (λw=>D.tup (w.map D.str)):=by injection h
 exact(Qh λx y e=>Dd (by injection e)).mp h
theorem LL(d:wh.kd=wh'.kd)(h:dy wh=dy wh'):wh=wh'∨∃k l g al sd,wh= .lined k g al sd/\wh'= .lined l g al sd:=by
 have f:∀{k:Nat}{g:Int}{al sd:Str}{x:Str},x∉(Zq:List Str)->(aY.lined k g al sd).kd≠x:=λ{k g al sd x} hx e=>hx (by
  rw[<-e]
  match k with
  |0=>show("row":Str)∈_;decide +kernel
  |1=>show("column":Str)∈_;decide +kernel
  |k+2=>show("wrap":Str)∈_;decide +kernel)
 cases wh with
 |leaf a b=>
  cases wh' with
  |leaf a' t=>
   simp only[dy,D.tup.injEq,O2,D.int.injEq,and_true]at h;obtain⟨rfl,rfl⟩:=h;exact .inl rfl
  |lined=>exact absurd d.symm (f (x:="leaf") (by decide +kernel))
  |table=>exact absurd d (by show¬("leaf":Str)="table";decide +kernel)
  |words=>exact absurd d (by show¬("leaf":Str)="words";decide +kernel)
  |flow=>exact absurd d (by show¬("leaf":Str)="flow";decide +kernel)
  |over=>exact absurd d (by show¬("leaf":Str)="over";decide +kernel)
 |lined k r al sd=>
  cases wh' with
  |lined l n s m=>
   simp only[dy,D.tup.injEq,O2,D.int.injEq,D.str.injEq,and_true]at h;obtain⟨rfl,rfl,rfl⟩:=h;exact .inr ⟨k,l,_,_,_,rfl,rfl⟩
  |leaf=>exact absurd d (f (x:="leaf") (by decide +kernel))
  |table=>exact absurd d (f (x:="table") (by decide +kernel))
  |words=>exact absurd d (f (x:="words") (by decide +kernel))
  |flow=>exact absurd d (f (x:="flow") (by decide +kernel))
  |over=>exact absurd d (f (x:="over") (by decide +kernel))
 |table c r sd sps=>
  cases wh' with
  |table u n m o=>
   simp only[dy,D.tup.injEq,O2,D.int.injEq,D.str.injEq,and_true]at h;obtain⟨rfl,rfl,rfl,h⟩:=h
   rw[(Qh λ(x y:Int×Int) e=>by
    simp only[D.tup.injEq,O2,D.int.injEq,and_true]at e
    exact QB e.1 e.2).mp h]
   exact .inl rfl
  |leaf=>exact absurd d (by show¬("table":Str)="leaf";decide +kernel)
  |lined=>exact absurd d.symm (f (x:="table") (by decide +kernel))
  |words=>exact absurd d (by show¬("table":Str)="words";decide +kernel)
  |flow=>exact absurd d (by show¬("table":Str)="flow";decide +kernel)
  |over=>exact absurd d (by show¬("table":Str)="over";decide +kernel)
 |words ws j=>
  cases wh' with
  |words i q=>
   simp only[dy,D.tup.injEq,O2,D.int.injEq,and_true]at h;obtain⟨h,rfl⟩:=h;rw[yB h];exact .inl rfl
  |leaf=>exact absurd d (by show¬("words":Str)="leaf";decide +kernel)
  |lined=>exact absurd d.symm (f (x:="words") (by decide +kernel))
  |table=>exact absurd d (by show¬("words":Str)="table";decide +kernel)
  |flow=>exact absurd d (by show¬("words":Str)="flow";decide +kernel)
  |over=>exact absurd d (by show¬("words":Str)="over";decide +kernel)
 |flow sds ws j=>
  cases wh' with
  |flow p i q=>
   simp only[dy,D.tup.injEq,O2,D.int.injEq,and_true]at h;obtain⟨h1,h,rfl⟩:=h;rw[yB h,Dd h1];exact .inl rfl
  |leaf=>exact absurd d (by show¬("flow":Str)="leaf";decide +kernel)
  |lined=>exact absurd d.symm (f (x:="flow") (by decide +kernel))
  |table=>exact absurd d (by show¬("flow":Str)="table";decide +kernel)
  |words=>exact absurd d (by show¬("flow":Str)="words";decide +kernel)
  |over=>exact absurd d (by show¬("flow":Str)="over";decide +kernel)
 |over as=>
  cases wh' with
  |over as'=>
   have h:as.map zh=as'.map zh:=by injection h
   rw[(Qh λ(x y:(Str×Int)×(Str×Int)) e=>by
    simp only[zh,D.tup.injEq,O2,D.int.injEq,D.str.injEq,and_true]at e
    exact QB (QB e.1.1 e.1.2) (QB e.2.1 e.2.2)).mp h]
   exact .inl rfl
  |leaf=>exact absurd d (by show¬("over":Str)="leaf";decide +kernel)
  |lined=>exact absurd d.symm (f (x:="over") (by decide +kernel))
  |table=>exact absurd d (by show¬("over":Str)="table";decide +kernel)
  |words=>exact absurd d (by show¬("over":Str)="words";decide +kernel)
  |flow=>exact absurd d (by show¬("over":Str)="flow";decide +kernel)
theorem Ky(a:wh.kd=wh'.kd)(h:dy wh=dy wh'):g_ wh=g_ wh'/\Jn wh=Jn wh'/\∀i,zE wh i=zE wh' i:=by
 rcases LL a h with rfl|⟨k,b,g,al,sd,rfl,rfl⟩
 ·exact⟨rfl,rfl,λ_=>rfl⟩
 ·exact⟨rfl,rfl,λ_=>rfl⟩
theorem vX:∀(F c:Fo)(n:Nat)(eh b:aY)(i:Nat),fD F=fD c->(∀j,zE eh j=zE b j)->aS F n eh i=aS c n b i
 | .nil,.nil,_,_,_,_,_,_=>rfl
 | .nil,.cons _ _ _ _,_,_,_,_,h,_=>nomatch h
 | .cons _ _ _ _,.nil,_,_,_,_,h,_=>nomatch h
 | .cons a d cs as,.cons a' d' cs' as',n,eh,b,i,h,he=>by
  have h:fq d.wh.kd d.nm d.own d.wh (fD cs)::fD as=fq d'.wh.kd d'.nm d'.own d'.wh (fD cs')::fD as':=h
  injection h with h1 h2
  simp only[fq,D.tup.injEq,O2,D.str.injEq,and_true]at h1;obtain⟨e,k,g,l,m⟩:=h1;obtain⟨w1,w2,f⟩:=Ky e l;show B11P.bY d n eh i::(aS cs (n+1) d.wh 0++aS as n eh (i+1))=B11P.bY d' n b i::(aS cs' (n+1) d'.wh 0++aS as' n b (i+1));rw[vX cs cs' (n+1) d.wh d'.wh 0 m f,vX as as' n eh b (i+1) h2 he];unfold B11P.bY B11P.fo;rw[e,k,JV g,w1,w2,he i]
theorem HZ(h:eC d cs=eC d' cs'):textOf d cs=textOf d' cs':=by
 unfold textOf;rw[<-sv,<-sv,vX (.cons 0 d cs .nil) (.cons 0 d' cs' .nil) 0 bX bX 0 (by show[eC d cs]=[eC d' cs'];rw[h]) λ_=>rfl]
theorem BB{t:B3}{aX r:List Str}(vf:VF false (.cons t bd cs .nil))(good:(Fo.cons t bd cs .nil).Good)(d:cs.bW+1<=8)(c:r.length+(cs.cnt+1)=aX.length)(hl:aX.length<=20)(a:aX=r++(bd.nm::aM cs).reverse)(nd:aX.Nodup)(b:∀x∈aX,Vn x):Drawn bd cs:=by
 have e:aM (.cons 0 bd cs .nil)=bd.nm::aM cs:=by
  show bd.nm::(aM cs++[])=_;rw[Dk]
 refine⟨vf,good,λx hx=>?_,?_,by lia,by lia⟩
 ·rw[e]at hx;refine b x ?_;rw[a];exact ND _ (List.mem_reverse.mpr hx)
 ·rw[e];rw[a]at nd;exact(List.pairwise_reverse.mp (List.nodup_append.mp nd).2.1).imp λh=>B9 h
theorem yC{K:mo}{t:B3}(ok:(Fo.cons t bd cs .nil).Ok H)(good:(Fo.cons t bd cs .nil).Good)(vf:VF false (.cons t bd cs .nil)):At K H (.ref t) (eC bd cs):=(s_ (K:=K) (.cons t bd cs .nil) false ok good vf).2 0 _ _ rfl rfl
theorem K0{aX:List Str}(h:Nw aX F G)(a:∀y∈aM F,Vn y)(hx:x∈aM G):Vn x:=by
 rcases h.1 x hx with z|z
 ·exact a x z
 ·exact z.2
inductive Hz(K:mo)(vs:List V)(H:Hp)(Q:VK):Prop
 |mk (a:B3) (ns:List Int) (c0:vs=[.ref a]) (c1:bf K H a (ns.map V.int)) (c2:ns.length<=63) (c3:∀H',Q (.bl true) H')
def yD(K:mo):Sp:=λvs H Q _=>Hz K vs H Q
section
variable{K:mo}
noncomputable abbrev L9:List Str:=["_law_script","_law_stream_here","_law_names_here","_law_one","_law_other"]
theorem qw:aw L9 Zm (aj o_):=cD
theorem Hn(F:aZ K "law" "law" o_ f fd)(N:aO mg)(G1:av P w K mg base aK 1 f1 d1 Zm (B11P.ue K))(J1:Cq K mg d1 f1 Zm "_law_stream")(G2:av P w K mg base aK 1 f2 d2 Zg B11P.gv)(J2:Cq K mg d2 f2 Zg "_law_take")(G3:av P w K mg base aK 2 f3 d3 Zg tX)(J3:Cq K mg d3 f3 Zg "_law_names")(G4:av P w K mg base aK 12 f4 d4 Zw (BL 8))(J4:Cq K mg d4 f4 Zw "_law_box")(G5:av P w K mg base aK 12 f5 d5 Zn (di K 8))(J5:Cq K mg d5 f5 Zn "_law_at")(G6:av P w K mg base aK 3 f6 d6 Ze B11E.fv)(J6:Cq K mg d6 f6 Ze "boxes_of")(G7:av P w K mg base aK 24 f7 d7 ["_law_tree"] (xG K))(J7:Cq K mg d7 f7 ["_law_tree"] "_law_right")(G8:av P w K mg base aK 17 f8 d8 Ze gM)(J8:Cq K mg d8 f8 Ze "tree_text"):av P w K mg base aK 25 f fd Zm (yD K):=by
 refine F.cI qw λcdv A outer s H vs Q E hr h=>?_
 ·obtain⟨a,ns,e,hS,hn,k⟩:=h;subst e;have I:=hr.mono (j:=1) (by decide);have c8:=hr.mono (j:=2) (by decide);have e5:=hr.mono (j:=3) (by decide);have W:=hr.mono (j:=12) (by decide);have R:=hr.mono (j:=17) (by decide);have L:=hr.mono (j:=24) (by decide)
  have a7:(A.deeper (NB "law" (aj o_) s.heap.objs.size f cdv)).units+50<OX:=by have :=hr.units;lia
  refine⟨_,ah (aB (i:=1) qw.nd rfl (Ki rfl) (pq G1 I J1 (aa (pv 0) ab)))
   (ah (aB (i:=2) qw.nd rfl (Ki rfl) (pq G3 c8 J3 (aa (pv 1) (aa (aJ bz ag (pq G2 I J2 (aa (pv 1) (aa ag ab)))) ab))))
   (ah (aB (i:=3) qw.nd rfl (Ki rfl) (pq G4 W J4 (aa (pv 1) (aa (aQ jA (by rfl) N.list Pz (aa (pv 2) ab)) (aa ag (aa cQ ab))))))
   (ah (aB (i:=4) qw.nd rfl (Ki rfl) (pv 3))
   (ah (aR (aA lG (pq G2 I J2 (aa (pv 1) (aa ag ab))) ag (aF _)) (ai (aB (i:=4) qw.nd rfl (Ki rfl) (pq G5 W J5 (aa (pv 1) (aa (pv 3) (aa (pv 2) (aa (pq G2 I J2 (aa (pv 1) (aa (aH bq (by rfl) N.len NI (aa (pq G6 e5 J6 (aa (pv 3) ab)) ab)) ab))) ab))))))) az)
   (ah (aR (mU (cX (bJ (pq G7 L J7 (aa (pv 3) ab)))) (lq (cX (bJ (pq G7 L J7 (aa (pv 4) ab)))))).pt (ai (au cQ)) az)
   (ai (au (bZ bE (bZ bE (pq G8 R J8 (aa (pv 3) ab)) (pq G8 R J8 (aa (pv 4) ab)) (aF _)) (bZ (Hw a7) (pv 3) (pv 4) (aF _)) (aF _))))))))),?_⟩
  try rw[bO]
  refine aq λu p=>?_;refine⟨_,rfl,a,ns,rfl,hS,hn,λst d z H1 f9 s1 f0=>?_⟩;refine p _ _ (aq λu p=>?_);refine⟨_,rfl,_,rfl,st,d,z,14,rfl,f0,by decide,by decide,λv d2 z2 v0 v1=>?_⟩;have S:(upd H1 st (.lst [.int d2,.int z2])) st=some (.lst [.int d2,.int z2]):=ae;generalize upd H1 st (.lst [.int d2,.int z2])=H2 at *;obtain⟨vn,rfl,g7⟩:=fb (z:=v) (n:=14) v0 v1;refine⟨_,_,rfl,rfl,st,d2,z2,1+vn,by rw[SA];rfl,S,by lia,λln aX d3 z3 H3 a0 e4 O Z a9 a8 d0 U=>?_⟩;refine p _ _ ?_;clear p u
  have Y:st≠ln:=λz=>by rw[<-z,S]at a0;cases a0
  have d9:aX≠[]:=λz=>by rw[z]at a9;simp at a9;lia
  clear e4;refine aq λu p=>?_;refine⟨_,rfl,_,rfl,ln,_,rfl,.inl (bf.of Z),λl1 X=>?_⟩;generalize hG:upd H3 l1 _=H4
  have s4:af H3 H4:=by rw[<-hG];exact af.put (af.refl _) X
  have c4:H4 l1=some (.lst (aX.map V.str)):=by rw[<-hG];exact ae
  clear hG;have n1:st≠l1:=B11P.dC O X;have b6:ln≠l1:=B11P.dC Z X;refine⟨st,l1,d3,z3,aX,1,false,rfl,n1,s4 _ _ O,c4,d9,by lia,a8,by decide,by decide,λt c b r1 d5 z5 H5 g4 b5 a5 g6 g5 a6 b2 e7 C b3 e3=>?_⟩;refine p _ _ ?_;clear p u;have e9:H5 ln=some (.lst (aX.map V.str)):=b5 _ _ (B9 Y) b6 (s4 _ _ Z);have m:=BB (iT.le (by decide) b3) C e3 a6 (by lia) b2 d0 U;have q1:=m.cnt;have q2:=m.bW;have b7:(aM (.cons t c b .nil)).Nodup:=m.nd
  have a3:∀x∈aM (.cons t c b .nil),x∈aX:=λx hx=>by
   have e:aM (.cons t c b .nil)=c.nm::aM b:=by
    show c.nm::(aM b++[])=_;rw[Dk]
   rw[e]at hx;rw[b2];exact ND _ (List.mem_reverse.mpr hx)
  refine aq λu p=>?_;refine⟨_,rfl,?_⟩;refine p _ _ (aq λu p=>?_)
  have a4:∀(t2:B3)(l:cK)(g:Fo)(H6:Hp),(Fo.cons t c b .nil).Ok H6->(Fo.cons t2 l g .nil).Ok H6->Drawn l g->u [some (.ref a),some (.ref st),some (.ref ln),some (.ref t),some (.ref t2)] H6:=by
   intro t2 l g H6 q M r;have p1:=r.cnt;have p2:=r.bW;refine p _ _ (aq λu p=>?_);refine⟨_,rfl,t,c,b,rfl,q,m,λH7 s7=>⟨_,rfl,dh ?_⟩⟩;refine⟨_,rfl,t2,l,g,rfl,M.keep (KT.same s7),r,λH8 s8=>⟨_,rfl,dh ?_⟩⟩;have b1:=af.trans s7 s8;have B:=q.keep (KT.same b1);have T:=M.keep (KT.same b1);refine p _ _ ?_;clear p u;refine⟨_,rfl,t,c,b,rfl,B,m.good,K4,vY,λH9 s9=>?_⟩;refine⟨_,rfl,t2,l,g,rfl,T.keep (KT.same s9),r.good,K4,vY,λG c1=>?_⟩;have J:=af.trans s9 c1;refine⟨rfl,_,rfl,_,rfl,?_⟩;have a1:At K G (.ref t) (eC c b):=yC (B.keep (KT.same J)) m.good m.vf;have a2:At K G (.ref t2) (eC l g):=yC (T.keep (KT.same J)) r.good r.vf;have c9:jh 41 (eC c b):=oq (.cons 0 c b .nil) 41 (by show 2*max (b.bW+1) 0+4<=41;lia) _ B6;have e8:jh 41 (eC l g):=oq (.cons 0 l g .nil) 41 (by show 2*max (g.bW+1) 0+4<=41;lia) _ B6;obtain⟨g8,g3,xs,ys,e,e1,e2,hA,hB,he,hq⟩:=xS c9 e8 a1 a2
   injection e1 with e1
   injection e2 with e2
   subst e1 e2;refine⟨t,t2,xs,ys,e,rfl,rfl,hA,hB,he,rfl,?_⟩
   have c2:decide (V.str (textOf c b)=V.str (textOf l g))=((Nz (min xs.length ys.length)).all e&&xs.length==ys.length):=by
    rw[Po,decide_eq_true_eq,hq];constructor
    ·intro z
     injection z with z
     have :=Cm m r z;injection this
    ·intro z;have :eC c b=eC l g:=congrArg D.tup z;rw[HZ this]
   have e0:decide (V.bl (decide (V.str (textOf c b)=V.str (textOf l g)))=V.bl ((Nz (min xs.length ys.length)).all e&&xs.length==ys.length))=true:=decide_eq_true (by rw[c2]);show Q (V.bl (decide (V.bl (decide (V.str (textOf c b)=V.str (textOf l g)))=V.bl ((Nz (min xs.length ys.length)).all e&&xs.length==ys.length)))) G;rw[e0];exact k G
  refine⟨_,rfl,st,d5,z5,5,rfl,a5,by decide,by decide,λv6 d6 z6 g1 g9=>?_⟩;have b4:(upd H5 st (.lst [.int d6,.int z6])) st=some (.lst [.int d6,.int z6]):=ae;have c5:=KT.lst (ys:=[.int d6,.int z6]) a5;have c3:=(ak (H:=H5) (o:= .lst [.int d6,.int z6]) (B9 Y)).trans e9;have q:=e7.keep c5;generalize upd H5 st (.lst [.int d6,.int z6])=H6 at *;refine⟨_,_,rfl,rfl,_,rfl,dM (λc6=>?_) (λc6=>?_)⟩
  ·obtain⟨p7,G7,r7,b8⟩:=Bn q;have c7:=r7.cnt;refine⟨_,rfl,_,rfl,_,rfl,_,rfl,_,rfl,t,c.nm,p7,G7,rfl,b8,by rw[c7];show b.cnt+0+1<=60;lia,λlb H7 g2 s7 b9=>?_⟩
   have em:(((B11E.tr t c.nm p7 G7).lN.map V.ref).length:Int)=((b.cnt+1:Nat):Int):=by
    rw[be,B11E.Fo.km,c7];rfl
   refine⟨lb,_,rfl,.inl (bf.of b9),st,d6,z6,_,rfl,s7 _ _ b4,by rw[em];lia,by rw[em];lia,λv8 d8 z8 h0 g0=>?_⟩;have b0:(upd H7 st (.lst [.int d8,.int z8])) st=some (.lst [.int d8,.int z8]):=ae;have e6:=KT.trans (KT.same s7) (KT.lst (ys:=[.int d8,.int z8]) (s7 _ _ b4));have c0:=(ak (H:=H7) (o:= .lst [.int d8,.int z8]) (B9 Y)).trans (s7 _ _ c3);have B:=q.keep e6;generalize upd H7 st (.lst [.int d8,.int z8])=H8 at *;refine⟨st,t,ln,d8,z8,v8,c,b,aX,false,rfl,K4,b0,c0,by lia,a8,B,C,b3,a3,b7,λa' bd' cs' d' z' H9 k1 k2 k3 k4 k5 k6 k7 k8=>?_⟩;exact a4 a' bd' cs' H9 (B.keep (KT.kp k1 b0)) k3 ⟨k5,k4,λx hx=>K0 k6 (λy hy=>U y (a3 y hy)) hx,k6.2,by lia,by lia⟩
  ·exact a4 t c b H6 q q m
end
theorem Nc(h:us.length=1):∃a,us=[a]:=by
 obtain⟨a,vs,rfl,g⟩:=Jk h;exact⟨a,by rw[My g]⟩
theorem MX(h:us.length=2):∃a b,us=[a,b]:=by
 obtain⟨a,vs,rfl,g⟩:=Jk h;obtain⟨b,rfl⟩:=Nc g;exact⟨a,b,rfl⟩
theorem M6(h:us.length=3):∃a b c,us=[a,b,c]:=by
 obtain⟨a,vs,rfl,g⟩:=Jk h;obtain⟨b,c,rfl⟩:=MX g;exact⟨a,b,c,rfl⟩
theorem MP(h:us.length=4):∃a c d b,us=[a,c,d,b]:=by
 obtain⟨a,vs,rfl,g⟩:=Jk h;obtain⟨c,d,b,rfl⟩:=M6 g;exact⟨a,c,d,b,rfl⟩
theorem M9(h:us.length=5):∃a c d b e,us=[a,c,d,b,e]:=by
 obtain⟨a,vs,rfl,g⟩:=Jk h;obtain⟨c,d,b,e,rfl⟩:=MP g;exact⟨a,c,d,b,e,rfl⟩
theorem all_mk{l:Ss}{K:mo}{h:ON}{fa CR c1 e4 c4 e1 b9 f10 p8 m4 f13 s6 f15 f16 f17 u4 g0 h8 f21 n1 k6 h9 e8 l9 s3 f28 v9 y3 f31 g9 y8 r4 u3 t3 j6 f38 v5 q1 y9 k5 k0 l0 r8 f46 f47 i0 n2 u f51 j1 n0 f54 x0 l1 r2 f58 b7 j7 u7 h5 f63 l3 g5 s7 f67 y7 w3 r3 f71 f72 w7 f74 h1 h7 m0 u1 j9 q7 l8 f82:B3}(X:K.In h)(G:h.Ns Nr mg)(hfa:mg "law"=some (.ref fa)){q6 b0 s4 y5 s5 r7 h2:Option B3}{k7 o5 i7 w8 sla3 sla4:Array (Option B5)}{n3 Y b6 T n I:B5}{d10 d11 d12 d13 d14 d15 d16 d17 d18 d19 d20 d21 d22 d23 d24 d25 d26 d27 d28 d29 d30 d31 d32 d33 d34 d35 d36 d37 d38 d39 d40 d41 d42 d43 d44 d45 d46 d47 d48 d49 d50 d51 d52 d53 d54 d55 d56 d57 d58 d60 d61 d62 d63 d64 d65 d66 d67 d68 d69 d70 d71 d72 d73 d74 d75 d76 d77 d78 d79 d80 d81 d82:O4}{c8 x5 w1 tk3 t7 y4 tk6 u5 e6 w2 S B b5 b1 Z V b4 y D M C F z a0 R q8 j8 v4 x2 m7 tk30 o2 tk32 o0 i1 h4 p0 i3 tk38 v0 tk40 h3:Tok}{na0 na1 na2 na3 na4:Nat}(aCR:NN K Nr "TextRow"=some (some (.ref CR)))(a1:Nv K "what_of" (.ref f1))(F1:aZ K "what_of" "what_of" iC f1 d1)(a2:Nv K "is_free" (.ref f2))(F2:aZ K "is_free" "is_free" yM f2 d2)(a3:Nv K "first_place" (.ref f3))(F3:aZ K "first_place" "first_place" vv f3 d3)(a4:Nv K "take" (.ref f4))(F4:aZ K "take" "take" rM f4 d4)(a5:Nv K "put_cells" (.ref f5))(F5:aZ K "put_cells" "put_cells" IY f5 d5)(a6:Nv K "spans_of" (.ref f6))(F6:aZ K "spans_of" "spans_of" nZ f6 d6)(a7:Nv K "rows_taken" (.ref f7))(F7:aZ K "rows_taken" "rows_taken" gQ f7 d7)(a8:Nv K "cells_of" (.ref f8))(F8:aZ K "cells_of" "cells_of" mO f8 d8)(a9:Nv K "table_rows" (.ref f9))(F9:aZ K "table_rows" "table_rows" js f9 d9)(a10:Nv K "is_whole" (.ref f10))(o8:aZ K "is_whole" "is_whole" nt f10 d10)(a11:Nv K "is_between" (.ref p8))(n4:aZ K "is_between" "is_between" jt p8 d11)(a12:Nv K "is_tuple_of" (.ref m4))(s2:aZ K "is_tuple_of" "is_tuple_of" jj m4 d12)(a13:Nv K "is_size" (.ref f13))(e5:aZ K "is_size" "is_size" rB f13 d13)(a14:Nv K "is_gap" (.ref s6))(F14:aZ K "is_gap" "is_gap" xb s6 d14)(a15:Nv K "is_joint" (.ref f15))(m1:aZ K "is_joint" "is_joint" oo f15 d15)(a16:Nv K "is_bounds" (.ref f16))(F16:aZ K "is_bounds" "is_bounds" kX f16 d16)(a17:Nv K "is_own" (.ref f17))(F17:aZ K "is_own" "is_own" wW f17 d17)(a18:Nv K "is_side" (.ref u4))(m5:aZ K "is_side" "is_side" qK u4 d18)(a19:Nv K "is_align" (.ref g0))(t4:aZ K "is_align" "is_align" n_ g0 d19)(a20:Nv K "is_anchor_word" (.ref h8))(x3:aZ K "is_anchor_word" "is_anchor_word" fJ h8 d20)(a21:Nv K "is_anchor" (.ref f21))(k3:aZ K "is_anchor" "is_anchor" kU f21 d21)(a22:Nv K "is_anchor_pair" (.ref n1))(w0:aZ K "is_anchor_pair" "is_anchor_pair" fM n1 d22)(a23:Nv K "is_over_what" (.ref k6))(q5:aZ K "is_over_what" "is_over_what" fG k6 d23)(a24:Nv K "is_sign" (.ref h9))(e7:aZ K "is_sign" "is_sign" rh h9 d24)(a25:Nv K "is_piece" (.ref e8))(F25:aZ K "is_piece" "is_piece" kv e8 d25)(a26:Nv K "is_word" (.ref l9))(x4:aZ K "is_word" "is_word" lU l9 d26)(a27:Nv K "is_words" (.ref s3))(o9:aZ K "is_words" "is_words" iu s3 d27)(a28:Nv K "are_sides" (.ref f28))(u0:aZ K "are_sides" "are_sides" iz f28 d28)(a29:Nv K "is_words_what" (.ref v9))(v6:aZ K "is_words_what" "is_words_what" gP v9 d29)(a30:Nv K "is_flow_what" (.ref y3))(F30:aZ K "is_flow_what" "is_flow_what" hI y3 d30)(a31:Nv K "is_leaf_what" (.ref f31))(o7:aZ K "is_leaf_what" "is_leaf_what" iq f31 d31)(a32:Nv K "is_lined_what" (.ref g9))(q4:aZ K "is_lined_what" "is_lined_what" gw g9 d32)(a33:Nv K "is_span" (.ref y8))(w9:aZ K "is_span" "is_span" rF y8 d33)(a34:Nv K "is_table_what" (.ref r4))(F34:aZ K "is_table_what" "is_table_what" eR r4 d34)(a35:Nv K "is_name" (.ref u3))(k1:aZ K "is_name" "is_name" lS u3 d35)(a36:Nv K "is_what" (.ref t3))(y2:aZ K "is_what" "is_what" qQ t3 d36)(a37:Nv K "is_box" (.ref j6))(e9:aZ K "is_box" "is_box" vR j6 d37)(a38:Nv K "alike_of" (.ref f38))(n8:aZ K "alike_of" "alike_of" oK f38 d38)(a39:Nv K "may_be_alike" (.ref v5))(F39:aZ K "may_be_alike" "may_be_alike" ij v5 d39)(a40:Nv K "is_amiss" (.ref q1))(F40:aZ K "is_amiss" "is_amiss" jy q1 d40)(a41:Nv K "look_through" (.ref y9))(F41:aZ K "look_through" "look_through" dF y9 d41)(a42:Nv K "check_tree" (.ref k5))(s9:aZ K "check_tree" "check_tree" je k5 d42)(a43:Nv K "number_read" (.ref k0))(F43:aZ K "number_read" "number_read" fz k0 d43)(a44:Nv K "fields_read" (.ref l0))(F44:aZ K "fields_read" "fields_read" hZ l0 d44)(a45:Nv K "pair_read" (.ref r8))(t1:aZ K "pair_read" "pair_read" iH r8 d45)(a46:Nv K "anchors_read" (.ref f46))(u6:aZ K "anchors_read" "anchors_read" gO f46 d46)(a47:Nv K "words_read" (.ref f47))(g4:aZ K "words_read" "words_read" gK f47 d47)(a48:Nv K "own_read" (.ref i0))(i4:aZ K "own_read" "own_read" ik i0 d48)(a49:Nv K "what_read" (.ref n2))(y0:aZ K "what_read" "what_read" dQ n2 d49)(a50:Om K (.ref CR) "__init__"=some (some (.ref u)))(i50:PySem.W.isFn K (.ref u)=true)(m3:aZ K "__init__" "TextRow.__init__" gL u d50)(a51:Nv K "row_read" (.ref f51))(v2:aZ K "row_read" "row_read" ka f51 d51)(a52:Nv K "box_read" (.ref j1))(j3:aZ K "box_read" "box_read" ig j1 d52)(a53:Nv K "outermost_read" (.ref n0))(g1:aZ K "outermost_read" "outermost_read" cY n0 d53)(a54:Nv K "read_tree" (.ref f54))(h0:aZ K "read_tree" "read_tree" iA f54 d54)(a55:Nv K "_law_change" (.ref x0))(o1:aZ K "_law_change" "_law_change" fh x0 d55)(a56:Nv K "_law_at" (.ref l1))(u2:aZ K "_law_at" "_law_at" rL l1 d56)(a57:Nv K "_law_deep" (.ref r2))(F57:aZ K "_law_deep" "_law_deep" jR r2 d57)(a58:Nv K "_law_right" (.ref f58))(v8:aZ K "_law_right" "_law_right" iJ f58 d58)(a59:Nv K "law" (.ref b7))(l59:K.lookup b7=some ⟨n3,q6,.func (Py "law" "law" (gD o_) (eV o_) (aj o_) .none Y b6 T b0 n I),k7⟩)(c59:RI K n "law"=true)(k59:PY K (.ref b7)=true)(a60:Nv K "joined" (.ref j7))(g3:aZ K "joined" "joined" kg j7 d60)(a61:Nv K "own_told" (.ref u7))(i9:aZ K "own_told" "own_told" jZ u7 d61)(a62:Nv K "words_text" (.ref h5))(F62:aZ K "words_text" "words_text" wA h5 d62)(a63:Nv K "what_told" (.ref f63))(F63:aZ K "what_told" "what_told" iP f63 d63)(a64:Nv K "part_told" (.ref l3))(F64:aZ K "part_told" "part_told" iO l3 d64)(a65:Nv K "row_text" (.ref g5))(F65:aZ K "row_text" "row_text" ib g5 d65)(a66:Nv K "text_rows" (.ref s7))(l7:aZ K "text_rows" "text_rows" iE s7 d66)(a67:Nv K "tree_text" (.ref f67))(F67:aZ K "tree_text" "tree_text" iK f67 d67)(a68:Nv K "_law_stream" (.ref y7))(i2:aZ K "_law_stream" "_law_stream" xa y7 d68)(a69:Nv K "_law_take" (.ref w3))(o6:aZ K "_law_take" "_law_take" BK w3 d69)(a70:Nv K "_law_names" (.ref r3))(r5:aZ K "_law_names" "_law_names" zU r3 d70)(a71:Nv K "_law_range" (.ref f71))(x8:aZ K "_law_range" "_law_range" Aq f71 d71)(a72:Nv K "_law_words" (.ref f72))(F72:aZ K "_law_words" "_law_words" zc f72 d72)(a73:Nv K "_law_anchor" (.ref w7))(t5:aZ K "_law_anchor" "_law_anchor" xh w7 d73)(a74:Nv K "_law_what" (.ref f74))(g2:aZ K "_law_what" "_law_what" C8 f74 d74)(a75:Nv K "_law_box" (.ref h1))(j5:aZ K "_law_box" "_law_box" Fg h1 d75)(a76:Nv K "kind_of" (.ref h7))(F76:aZ K "kind_of" "kind_of" Ek h7 d76)(a77:Nv K "name_of" (.ref m0))(c3:aZ K "name_of" "name_of" FX m0 d77)(a78:Nv K "own_of" (.ref u1))(F78:aZ K "own_of" "own_of" sq u1 d78)(a79:Nv K "parts_of" (.ref j9))(c6:aZ K "parts_of" "parts_of" kj j9 d79)(a80:Nv K "boxes_in" (.ref q7))(F80:aZ K "boxes_in" "boxes_in" B11E.qR q7 d80)(a81:Nv K "boxes_of" (.ref l8))(s0:aZ K "boxes_of" "boxes_of" B11E.mS l8 d81)(a82:Nv K "elders_of" (.ref f82))(r1:aZ K "elders_of" "elders_of" B11E.me f82 d82)(p1:Rf K CR Re=true)(p2:Q0 K CR=true)(p3:R8 K CR=true)(p4:Om K (.ref CR) "__setattr__"=some (some (.builtin "object.__setattr__")))(p5:Sr K CR=true)(p6:PY K (.ref CR)=true)(nD:Om K (.ref CR) "depth"=some none)(nK:Om K (.ref CR) "kind"=some none)(nN:Om K (.ref CR) "name"=some none)(nT:Om K (.ref CR) "told"=some none)(kq0:Nv K "ANCHOR_FARTHEST" (.int 1000000 c8))(kq1:Nv K "OVER_PARTS" (.int 12 x5))(kq2:Nv K "JOINT_MOST" (.int 999 w1))(kq3:Nv K "PIECE_LONGEST" (.int 12 tk3))(kq4:Nv K "WORD_PIECES" (.int 6 t7))(kq5:Nv K "WORDS_PIECES" (.int 60 y4))(kq6:Nv K "FLOW_PARTS" (.int 12 tk6))(kq7:Nv K "FIRST_SIGN" (.int 33 u5))(kq8:Nv K "LAST_SIGN" (.int 126 e6))(kq9:Nv K "PERCENT_SIGN" (.int 37 w2))(s8:Nv K "BAR_SIGN" (.int 124 S))(kq11:Nv K "NAME_LONGEST" (.int 8 B))(kq12:Nv K "SIZE_MOST" (.int 1000000 b5))(x1:Nv K "WEIGHT_MOST" (.int 99 b1))(g8:Nv K "RANK_MOST" (.int 9 Z))(kq15:Nv K "ALIKE_MOST" (.int 9 V))(v7:Nv K "LINED_PARTS" (.int 20 b4))(x7:Nv K "GAP_MOST" (.int 1000 y))(m6:Nv K "TABLE_PARTS" (.int 40 D))(i6:Nv K "TABLE_COLUMNS" (.int 12 M))(t8:Nv K "SPAN_MOST" (.int 12 C))(i5:Nv K "BOXES_MOST" (.int 60 F))(o4:Nv K "DEEPEST" (.int 8 z))(j2:Nv K "TABLE_ROWS" (.int 60 a0))(u9:Nv K "FIGURES_MOST" (.int 7 R))(tq0:Nv K "ANCHOR_WORDS" (.ref c1))(lq0:K.lookup c1=some ⟨.type "tuple",s4,.seq #[.str "start" q8,.str "mid" j8,.str "mid2" v4,.str "end" x2] na0,o5⟩)(tq1:Nv K "SIDES" (.ref e4))(lq1:K.lookup e4=some ⟨.type "tuple",y5,.seq #[.str "left" m7,.str "right" tk30] na1,i7⟩)(tq2:Nv K "LINED" (.ref c4))(lq2:K.lookup c4=some ⟨.type "tuple",s5,.seq #[.str "row" o2,.str "column" tk32,.str "wrap" o0] na2,w8⟩)(tq3:Nv K "ALIGNS" (.ref e1))(lq3:K.lookup e1=some ⟨.type "tuple",r7,.seq #[.str "start" i1,.str "end" h4,.str "mid" p0,.str "mid2" i3] na3,sla3⟩)(tq4:Nv K "ALIKE_KINDS" (.ref b9))(lq4:K.lookup b9=some ⟨.type "tuple",h2,.seq #[.str "leaf" tk38,.str "row" v0,.str "column" tk40,.str "wrap" h3] na4,sla4⟩){tI eP:Nat}{pp0 qq0 pp1 qq1 pp2 qq2 pp3 qq3 pp4 qq4 pp5 qq5 pp6 qq6 pp7 qq7 pp8 qq8 pp9 qq9 w4 m8 pp11 n5 y1 w6 pp13 v1 pp14 k9 m2 g7:Nat}(aPL:NN K Nr "PLAIN"=some (some (.ref aP)))(lPL:K.lookup aP=some {cls:= .type "dict",data:= .dict (List.toArray [⟨NU w.params "wide",.str "wide" pp0,.str "0..1000000" qq0⟩,⟨NU w.params "high",.str "high" pp1,.str "0..1000000" qq1⟩,⟨NU w.params "grow",.str "grow" pp2,.str "0" qq2⟩,⟨NU w.params "shrink",.str "shrink" pp3,.str "1" qq3⟩,⟨NU w.params "rank",.str "rank" pp4,.str "0" qq4⟩,⟨NU w.params "alike",.str "alike" pp5,.str "0" qq5⟩,⟨NU w.params "wish",.str "wish" pp6,.str "0,0" qq6⟩,⟨NU w.params "columns",.str "columns" pp7,.str "1" qq7⟩,⟨NU w.params "gap",.str "gap" pp8,.str "0" qq8⟩,⟨NU w.params "align",.str "align" pp9,.str "start" qq9⟩,⟨NU w.params "side",.str "side" w4,.str "left" m8⟩,⟨NU w.params "joint",.str "joint" pp11,.str "50" n5⟩,⟨NU w.params "span",.str "span" y1,.str "1,1" w6⟩,⟨NU w.params "float",.str "float" pp13,.str "left" v1⟩,⟨NU w.params "at",.str "at" pp14,.str "start,0,start,0" k9⟩,⟨NU w.params "text",.str "text" m2,.str "" g7⟩]) eP})(nPL:(aP==O1)=false)(aIN:NN K Nr "INDENT"=some (some (.str "  " tI)))(z0:NN K Nr "len"=some none)(z1:NN K Nr "max"=some none)(z2:NN K Nr "list"=some none)(z3:NN K Nr "int"=some none)(z4:NN K Nr "isinstance"=some none)(z5:NN K Nr "range"=some none)(z6:NN K Nr "all"=some none)(z7:NN K Nr "bool"=some none)(z8:NN K Nr "sum"=some none)(z9:NN K Nr "zip"=some none)(z10:NN K Nr "str"=some none)(z11:NN K Nr "tuple"=some none)(z12:NN K Nr "ord"=some none)(z13:NN K Nr "enumerate"=some none)(z14:NN K Nr "any"=some none)(z15:NN K Nr "dict"=some none)(z16:NN K Nr "reversed"=some none)(z17:NN K Nr "min"=some none)(z18:NN K Nr "abs"=some none):
  ∃fd:O4,(∀(s:Gc)(v:B5),SJ s fd ⟨[v],[]⟩ [("_law_script",v)])/\∀base:ON,K.In base->base.Ns Nr mg->av l.prog w K mg base aK 25 fa fd Zm (yD K):=by
 have e:=hfa.symm.trans (Nh X G a59)
 cases e
 have N:aO mg:=⟨Ny X G z0,Ny X G z1,Ny X G z2,Ny X G z3,Ny X G z4,Ny X G z5,Ny X G z6,Ny X G z7,Ny X G z8,Ny X G z9,Ny X G z10,Ny X G z11,Ny X G z12,Ny X G z13,Ny X G z14,Ny X G z15,Ny X G z16⟩;have nmin:=Ny X G z17;have k8:=Ny X G z18;have mCR:=Nh X G aCR;have c:lZ K mg (λi=>[c8,x5,w1,tk3,t7,y4,tk6,u5,e6,w2,S,B,b5,b1,Z,V,b4,y,D,M,C,F,z,a0,R].getD i c8) (λi=>[c1,e4,c4,e1,b9].getD i 0):=⟨Nh X G kq0,Nh X G kq1,Nh X G kq2,Nh X G kq3,Nh X G kq4,Nh X G kq5,Nh X G kq6,Nh X G kq7,Nh X G kq8,Nh X G kq9,Nh X G s8,Nh X G kq11,Nh X G kq12,Nh X G x1,Nh X G g8,Nh X G kq15,Nh X G v7,Nh X G x7,Nh X G m6,Nh X G i6,Nh X G t8,Nh X G i5,Nh X G o4,Nh X G j2,Nh X G u9,Nh X G tq0,λH=> .inr ⟨_,_,_,lq0,rfl,rfl,aG (by show 4<=100000;decide),.cons ⟨_,rfl⟩ (.cons ⟨_,rfl⟩ (.cons ⟨_,rfl⟩ (.cons ⟨_,rfl⟩ .nil)))⟩,Nh X G tq1,λH=> .inr ⟨_,_,_,lq1,rfl,rfl,aG (by show 2<=100000;decide),.cons ⟨_,rfl⟩ (.cons ⟨_,rfl⟩ .nil)⟩,Nh X G tq2,λH=> .inr ⟨_,_,_,lq2,rfl,rfl,aG (by show 3<=100000;decide),.cons ⟨_,rfl⟩ (.cons ⟨_,rfl⟩ (.cons ⟨_,rfl⟩ .nil))⟩,Nh X G tq3,λH=> .inr ⟨_,_,_,lq3,rfl,rfl,aG (by show 4<=100000;decide),.cons ⟨_,rfl⟩ (.cons ⟨_,rfl⟩ (.cons ⟨_,rfl⟩ (.cons ⟨_,rfl⟩ .nil)))⟩,Nh X G tq4,λH=> .inr ⟨_,_,_,lq4,rfl,rfl,aG (by show 4<=100000;decide),.cons ⟨_,rfl⟩ (.cons ⟨_,rfl⟩ (.cons ⟨_,rfl⟩ (.cons ⟨_,rfl⟩ .nil)))⟩⟩;have J1:=cq (ps:=Zb) X G a1 F1;have J2:=cq (ps:=ZC) X G a2 F2;have J3:=cq (ps:=ZD) X G a3 F3;have J4:=cq (ps:=ZE) X G a4 F4;have J5:=cq (ps:=ZF) X G a5 F5;have J6:=cq (ps:=Zb) X G a6 F6;have J7:=cq (ps:=Zt) X G a7 F7;have J8:=cq (ps:=Zb) X G a8 F8;have J9:=cq (ps:=Zb) X G a9 F9;have J10:=cq (ps:=Za) X G a10 o8;have j:=cq (ps:=Zh) X G a11 n4;have b:=cq (ps:=Zc) X G a12 s2;have y6:=cq (ps:=Za) X G a13 e5;have f0:=cq (ps:=Za) X G a14 F14;have i8:=cq (ps:=Za) X G a15 m1;have J16:=cq (ps:=Za) X G a16 F16;have J17:=cq (ps:=Za) X G a17 F17;have c9:=cq (ps:=Za) X G a18 m5;have J19:=cq (ps:=Za) X G a19 t4;have J20:=cq (ps:=Za) X G a20 x3;have J21:=cq (ps:=Za) X G a21 k3;have J22:=cq (ps:=Za) X G a22 w0;have J23:=cq (ps:=Zd) X G a23 q5;have J24:=cq (ps:=["sign"]) X G a24 e7;have J25:=cq (ps:=Za) X G a25 F25;have J26:=cq (ps:=Za) X G a26 x4;have n7:=cq (ps:=Za) X G a27 o9;have J28:=cq (ps:=Zc) X G a28 u0;have J29:=cq (ps:=Zd) X G a29 v6;have J30:=cq (ps:=Zd) X G a30 F30;have J31:=cq (ps:=Zd) X G a31 o7;have J32:=cq (ps:=Zd) X G a32 q4;have J33:=cq (ps:=Zx) X G a33 w9;have J34:=cq (ps:=Zd) X G a34 F34;have J35:=cq (ps:=Za) X G a35 k1;have J36:=cq (ps:=Zy) X G a36 y2;have J37:=cq (ps:=Za) X G a37 e9;have J38:=cq (ps:=Zb) X G a38 n8;have J39:=cq (ps:=ZA) X G a39 F39;have J40:=cq (ps:=Zi) X G a40 F40;have J41:=cq (ps:=Zi) X G a41 F41;have n6:=cq (ps:=Za) X G a42 s9;have t:=cq (ps:=Zf) X G a43 F43;have k4:=cq (ps:=Zr) X G a44 F44;have J45:=cq (ps:=Zp) X G a45 t1;have J46:=cq (ps:=Zf) X G a46 u6;have J47:=cq (ps:=Zf) X G a47 g4;have J48:=cq (ps:=["told"]) X G a48 i4;have J49:=cq (ps:=ZK) X G a49 y0
 have b50:=m3.binds (ps:=Zz) λ_ _ _ _ _ _ us hl=>by obtain⟨_,_,_,_,_,rfl⟩:=M9 hl;rfl
 have J51:=cq (ps:=["row"]) X G a51 v2;have J52:=cq (ps:=["row","parts"]) X G a52 j3;have J53:=cq (ps:=["rows"]) X G a53 g1;have J54:=cq (ps:=Zf) X G a54 h0;have J55:=cq (ps:=Zs) X G a55 o1;have r9:=cq (ps:=Zn) X G a56 u2;have J57:=cq (ps:=ZL) X G a57 F57;have J58:=cq (ps:=["_law_tree"]) X G a58 v8;have F59:=aC (st:=o_) l59 c59 k59;have c7:=cq (ps:=Zl) X G a60 g3;have J61:=cq (ps:=["own"]) X G a61 i9;have J62:=cq (ps:=["words"]) X G a62 F62;have J63:=cq (ps:=Zu) X G a63 F63;have J64:=cq (ps:=ZH) X G a64 F64;have J65:=cq (ps:=ZI) X G a65 F65;have J66:=cq (ps:=Zv) X G a66 l7;have d0:=cq (ps:=Ze) X G a67 F67;have J68:=cq (ps:=Zm) X G a68 i2;have f:=cq (ps:=Zg) X G a69 o6;have J70:=cq (ps:=Zg) X G a70 r5;have J71:=cq (ps:=Zj) X G a71 x8;have J72:=cq (ps:=Zj) X G a72 F72;have J73:=cq (ps:=Zj) X G a73 t5;have J74:=cq (ps:=ZJ) X G a74 g2;have J75:=cq (ps:=Zw) X G a75 j5;have m:=cq (ps:=Zb) X G a76 F76;have q:=cq (ps:=Zb) X G a77 c3;have c5:=cq (ps:=Zb) X G a78 F78;have p:=cq (ps:=Zb) X G a79 c6;have t2:=cq (ps:=Ze) X G a80 F80;have e0:=cq (ps:=Ze) X G a81 s0;have J82:=cq (ps:=Ze) X G a82 r1;have TC:RowC K CR:=⟨⟨p1,p2,p3,p4⟩,nD,nK,nN,nT⟩;have MC:Mk K CR u:=⟨p5,a50,i50,p6⟩;have GB:Hv l.prog w K mg aP tI:=⟨Nh X G aPL,BW (ps:=bu) lPL (.cons ⟨rfl,⟨_,rfl⟩,_,rfl⟩ (.cons ⟨rfl,⟨_,rfl⟩,_,rfl⟩ (.cons ⟨rfl,⟨_,rfl⟩,_,rfl⟩ (.cons ⟨rfl,⟨_,rfl⟩,_,rfl⟩ (.cons ⟨rfl,⟨_,rfl⟩,_,rfl⟩ (.cons ⟨rfl,⟨_,rfl⟩,_,rfl⟩ (.cons ⟨rfl,⟨_,rfl⟩,_,rfl⟩ (.cons ⟨rfl,⟨_,rfl⟩,_,rfl⟩ (.cons ⟨rfl,⟨_,rfl⟩,_,rfl⟩ (.cons ⟨rfl,⟨_,rfl⟩,_,rfl⟩ (.cons ⟨rfl,⟨_,rfl⟩,_,rfl⟩ (.cons ⟨rfl,⟨_,rfl⟩,_,rfl⟩ (.cons ⟨rfl,⟨_,rfl⟩,_,rfl⟩ (.cons ⟨rfl,⟨_,rfl⟩,_,rfl⟩ (.cons ⟨rfl,⟨_,rfl⟩,_,rfl⟩ (.cons ⟨rfl,⟨_,rfl⟩,_,rfl⟩ .nil)))))))))))))))) (by decide +kernel) nPL,Nh X G aIN⟩;have r:B11P.aO mg:=⟨N.len,N.range,N.list,N.tuple,nmin,k8,N.enum,N.str,N.inst⟩;have GG:B11P.Hv l.prog w K mg _ aP:=⟨c.tLINED,c.sLINED,GB.mP,GB.dP,tI,GB.mI⟩;refine⟨Py "law" "law" (gD o_) (eV o_) (aj o_) .none Y b6 T b0 n I,λs v=> .of_eq rfl,λbase _ _=>?_⟩;have h6:=zG (P:=l.prog) (w:=w) (mg:=mg) (base:=base) F1 N;have G_2:=Fb (P:=l.prog) (w:=w) (mg:=mg) (base:=base) F2 N;have G_3:=Dt (P:=l.prog) (w:=w) (mg:=mg) (base:=base) F3 N G_2 J2;have G_4:=B_ (P:=l.prog) (w:=w) (mg:=mg) (base:=base) F4 N;have G_5:=IV (P:=l.prog) (w:=w) (mg:=mg) (base:=base) F5 G_3 J3 G_4 J4;have q9:=vM (P:=l.prog) (w:=w) (mg:=mg) (base:=base) F6 N h6 J1;have G_7:=rO (P:=l.prog) (w:=w) (mg:=mg) (base:=base) F7 N;have G_8:=vJ (P:=l.prog) (w:=w) (mg:=mg) (base:=base) F8 N G_5 J5 h6 J1 q9 J6;have G_9:=rx (P:=l.prog) (w:=w) (mg:=mg) (base:=base) F9 N G_7 J7 G_8 J8 q9 J6;have j4:=Av (P:=l.prog) (w:=w) (mg:=mg) (base:=base) o8 N;have d:=uJ (P:=l.prog) (w:=w) (mg:=mg) (base:=base) n4 N j4 J10;have a:=uT (P:=l.prog) (w:=w) (mg:=mg) (base:=base) s2 N;have b2:=CZ (P:=l.prog) (w:=w) (mg:=mg) (base:=base) c e5 N d j;have A:=EG (P:=l.prog) (w:=w) (mg:=mg) (base:=base) c F14 N d j;have b3:=zB (P:=l.prog) (w:=w) (mg:=mg) (base:=base) c m1 N d j;have v3:=xt (P:=l.prog) (w:=w) (mg:=mg) (base:=base) F16 N a b b2 y6;have p9:=EH (P:=l.prog) (w:=w) (mg:=mg) (base:=base) c F17 N a b v3 J16 d j;have GK:=B11P.D4 (P:=l.prog) (w:=w) (mg:=mg) (base:=base) F76;have x:=B11P.FI (P:=l.prog) (w:=w) (mg:=mg) (base:=base) c3;have e2:=B11P.C9 (P:=l.prog) (w:=w) (mg:=mg) (base:=base) F78;have b8:=B11P.AA (P:=l.prog) (w:=w) (mg:=mg) (base:=base) F1;have c2:=B11P.wU (P:=l.prog) (w:=w) (mg:=mg) (base:=base) c6;have o:=C5 (P:=l.prog) (w:=w) (mg:=mg) (base:=base) c m5 N;have G_19:=zC (P:=l.prog) (w:=w) (mg:=mg) (base:=base) c t4 N;have j0:=mT (P:=l.prog) (w:=w) (mg:=mg) (base:=base) c x3 N;have t6:=ve (P:=l.prog) (w:=w) (mg:=mg) (base:=base) c k3 N a b j0 J20 d j;have o3:=mE (P:=l.prog) (w:=w) (mg:=mg) (base:=base) w0 N a b t6 J21;have q3:=rv (P:=l.prog) (w:=w) (mg:=mg) (base:=base) c q5 N a b o3 J22;have G_24:=Cy (P:=l.prog) (w:=w) (mg:=mg) (base:=base) c e7 N;have l4:=yT (P:=l.prog) (w:=w) (mg:=mg) (base:=base) c F25 N G_24 J24;have l6:=Bk (P:=l.prog) (w:=w) (mg:=mg) (base:=base) c x4 N l4 J25;have E:=yY (P:=l.prog) (w:=w) (mg:=mg) (base:=base) c o9 N l6 J26;have G_28:=yP (P:=l.prog) (w:=w) (mg:=mg) (base:=base) u0 N a b o c9;have w5:=oR (P:=l.prog) (w:=w) (mg:=mg) (base:=base) v6 N a b E n7 b3 i8;have r6:=rd (P:=l.prog) (w:=w) (mg:=mg) (base:=base) c F30 N a b G_28 J28 E n7 b3 i8;have t9:=sm (P:=l.prog) (w:=w) (mg:=mg) (base:=base) o7 N a b b2 y6;have G_32:=pB (P:=l.prog) (w:=w) (mg:=mg) (base:=base) c q4 N a b A f0 G_19 J19 o c9;have l2:=BC (P:=l.prog) (w:=w) (mg:=mg) (base:=base) c w9 N a b d j;have k2:=oV (P:=l.prog) (w:=w) (mg:=mg) (base:=base) c F34 N a b d j A f0 o c9 l2 J33;have x6:=Dj (P:=l.prog) (w:=w) (mg:=mg) (base:=base) c k1 N;have q2:=Bm (P:=l.prog) (w:=w) (mg:=mg) (base:=base) c y2 N G_32 J32 t9 J31 k2 J34 w5 J29 r6 J30 q3 J23;have q0:=D5 (P:=l.prog) (w:=w) (mg:=mg) (base:=base) e9 N a b x6 J35 x q p9 J17 e2 c5 c2 p q2 J36 GK m b8 J1;have g6:=AE (P:=l.prog) (w:=w) (mg:=mg) (base:=base) n8 N e2 c5;have t0:=EM (P:=l.prog) (w:=w) (mg:=mg) (base:=base) c F39 N GK m;have G_40:=yS (P:=l.prog) (w:=w) (mg:=mg) (base:=base) c F40 N q0 J37 x q g6 J38 t0 J39 GK m G_9 J9;have O:=Ov;have O:=uI (P:=l.prog) (w:=w) (mg:=mg) (base:=base) F41 N G_40 J40 x q c2 p GK m J41 12;have L:=zl (P:=l.prog) (w:=w) (mg:=mg) (base:=base) s9 N O J41;have k:=oS (P:=l.prog) (w:=w) (mg:=mg) (base:=base) c F43 N;have J:=pD (P:=l.prog) (w:=w) (mg:=mg) (base:=base) F44 N;have U:=sQ (P:=l.prog) (w:=w) (mg:=mg) (base:=base) t1 N k t J k4;have n9:=mx (P:=l.prog) (w:=w) (mg:=mg) (base:=base) u6 N k t J k4;have l5:=sb (P:=l.prog) (w:=w) (mg:=mg) (base:=base) g4 N;have G_48:=xl (P:=l.prog) (w:=w) (mg:=mg) (base:=base) i4 N k t U J45;have s1:=uh (P:=l.prog) (w:=w) (mg:=mg) (base:=base) c y0 N k t U J45 l5 J47 n9 J46;have G_50:=ni (P:=l.prog) (w:=w) (mg:=mg) (base:=base) TC m3 N;have G_51:=vD (P:=l.prog) (w:=w) (mg:=mg) (base:=base) GB v2 N G_50 b50 mCR MC;have x9:=wk (P:=l.prog) (w:=w) (mg:=mg) (base:=base) TC j3 N G_48 J48 s1 J49;have p7:=kL (P:=l.prog) (w:=w) (mg:=mg) (base:=base) TC g1 N x9 J52;have GJ:=B11P.zf (P:=l.prog) (w:=w) (mg:=mg) (base:=base) g3 r;have GWT:=B11P.t_ (P:=l.prog) (w:=w) (mg:=mg) (base:=base) F63 r GG GJ c7 (B11P.Cg F62) J62;have GPT:=B11P.uv (P:=l.prog) (w:=w) (mg:=mg) (base:=base) F64 GJ c7 GK m b8 J1;have GRT:=B11P.vg (P:=l.prog) (w:=w) (mg:=mg) (base:=base) F65 GG (B11P.wL i9 r GJ c7) J61 GWT J63 GK m x q e2 c5 b8 J1;have GTR:=B11P.uG (P:=l.prog) (w:=w) (mg:=mg) (base:=base) l7 r GG GRT J65 GPT J64 c2 p J66 12;have c0:=B11P.tj (P:=l.prog) (w:=w) (mg:=mg) (base:=base) F67 GTR J66;have g:=B11P.Ee (P:=l.prog) (w:=w) (mg:=mg) (base:=base) o6;have GWw:=B11P.BG (P:=l.prog) (w:=w) (mg:=mg) (base:=base) g2 r g f (B11P.zt F72 r g f) J72 (B11P.vU t5 g f) J73;have GBx:=B11P.Ej (P:=l.prog) (w:=w) (mg:=mg) (base:=base) j5 r g f (B11P.Ae x8 g f) J71 GWw J74 J75 8;have NE:B11E.aO mg:=⟨N.list,N.rev⟩;have r0:=B11E.BN (P:=l.prog) (w:=w) (mg:=mg) (base:=base) c6;have GEn:=B11E.DZ (P:=l.prog) (w:=w) (mg:=mg) (base:=base) c3;have u8:=B11E.CV (P:=l.prog) (w:=w) (mg:=mg) (base:=base) F80 NE r0 p;have e3:=B11E.vA (P:=l.prog) (w:=w) (mg:=mg) (base:=base) s0 u8 t2;have GEl:=B11E.ze (P:=l.prog) (w:=w) (mg:=mg) (base:=base) r1 u8 t2 (r0.mono (by decide)) p (GEn.mono (by decide)) q;have m9:=tq (P:=l.prog) (w:=w) (mg:=mg) (base:=base) h0 N p7 J53 G_51 J51 L n6 c0 d0;have G_55:=qT (P:=l.prog) (w:=w) (mg:=mg) (base:=base) o1 N g f;have Q:=Ov;have Q:=GZ (P:=l.prog) (w:=w) (mg:=mg) (base:=base) u2 N G_55 J55 e3 e0 r9 8;have G_57:=DI (P:=l.prog) (w:=w) (mg:=mg) (base:=base) F57 N;have G_58:=Ax (P:=l.prog) (w:=w) (mg:=mg) (base:=base) v8 N L n6 c0 d0 m9 J54 e3 e0 GEl J82 G_57 J57;exact Hn (P:=l.prog) (w:=w) (mg:=mg) (base:=base) F59 N (B11P.yR i2 r) J68 g f (B11P.Aa r5 r g f) J70 GBx J75 Q r9 e3 e0 G_58 J58 c0 d0
theorem walk{l:Ss}{q:Og}{b:List Str}{i:(Str->Option B5)->ON->Prop}{e:Ox->ON->Prop}{d:DefRec}{K:Params->mo}(hn:l.most=some 63)(c:d.params.defaults=[])(m:∀(w:Ox)(h:ON),e w h->(K w.params).In h)(F:∀(w:Ox)(mg:Str->Option B5)(g:B3)(h:ON),(K w.params).In h->h.Ns Nr mg->mg d.name=some (.ref g)->
   ∃fd:O4,(∀(s:Gc)(u:B5),SJ s fd ⟨[u],[]⟩ [("_law_script",u)])/\∀base:ON,(K w.params).In base->base.Ns Nr mg->av l.prog w (K w.params) mg base aK 25 g fd Zm (yD (K w.params))):
  PySem.W.WalkO q b i e l.row.toRowW d [] (λf vs=>UI f vs):=
 L2.Ea (n:=63) (k:=25) (x:="_law_script") (CX:=λ_=>aK) (sp:=λw=>yD (K w.params)) hn (by decide) c ⟨rfl,by decide,by decide⟩ m F (λ_ _ a ns hl _ j=>⟨a,ns,rfl,j,hl,λ_=>rfl⟩) λ_ _ _ _ _ z=>z
end B11
inductive PySem.W.Fast:Prop|tw14751048378600346854|tw10875747284141587819|tw8159412409121243965|tw14060401372188026957|tw15865335623204726502|tw14669076274064361828|tw4072748933757340419|tw790041566885753775|tw10390539422691131711|tw6650247559892668034|tw12520640412174308903|tw11275756955634646863|tw13298177126718505463|tw4236040435860865781|tw2950295017537257481|tw11407978854741541510|tw17095573077968124609|tw15582127760947252150|tw3984646252462590827|tw3365608734646263613|tw7867165780663388857|tw2980331874243824881|tw6611296731401856169|tw2988432748883126237|tw15488316909642503650|tw17161093654934354550|tw8796864468426265589|tw11353058385926299686|tw10231129239256736672|tw2570547108171098346|tw9706750002404495739|tw18135200690658497231|tw6427010459423747714|tw15894127253602081279|tw841679361103109802|tw4203399726776230368|tw16378508240667891190|tw72039569017746370|tw6575684660528159929|tw8621789636990440716|tw12629366230384559977|tw3841898423063151615|tw14218419675866413706|tw4874967308919434672|tw14360651293879510826|tw17172608022250310490|tw8311941931698068521|tw14804362354654391367|tw7774318811671052613|tw3193490592372197122|tw12171177186713559977|tw10211999490537671351|tw8853416803991707570|tw17093757266554258841|tw13592311859049709909|tw17640124538051908309|tw1721276244650952583|tw11039181765371513098|tw2983843084043982679|tw4583726711106991640|tw16350041018958095203|tw14591078417729019983|tw10264658339138620403|tw2636922562193025415|tw17400110968512062116|tw5993551916466070246|tw15696098032668456542|tw5388924931466294|tw18115183144495055729|tw636256602593842370|tw6974916229357145379|tw7046667450063591628|tw16988957183078405711|tw12936126624900168650|tw10478793586938014101|tw11417197027027448910|tw7762445899927914580|tw3622010095446628445|tw5753959544172108952|tw13632032593179540948|tw13005482705179135686|tw1937572520998917899|tw864735518793666097|tw8047843047508754138|tw15231380370630452167|tw17997407920843947628|tw9215439736511111715|tw18057754518604200621|tw17277294162833172555|tw11244285172152170107|tw3843400710248059950|tw9617536076079091708|tw6946252230216623440|tw8068076690630753400|tw2553674612850284871|tw368651051192956699|tw7968645391880147694|tw14498424551739412023|tw5624959470579774647|tw17051597023069643324|tw10372443539292418686|tw6147581554546747658|tw14371713207405119644|tw12204653549663046673|tw9211409301790281879|tw10838078970237174934|tw918561423004015565|tw6657500920134237558|tw3978666796302004051|tw2594621472954925940|tw5166494598607172414|tw2302274343633363546|tw15265978506954019158|tw11209630929042850046|tw13755815750396489926|tw13190339428633828701|tw771471921470823167|tw8117819752297712819|tw7929043766227738289|tw2158674609786508865|tw8164077405393736309|tw6335855832079379399|tw15776040690460137248|tw11233046546748680025|tw4643533151265956999|tw8655310722174278177|tw1468684701311605834|tw5637220903752514686|tw2963905965177606628|tw14820899246974853203|tw16212190574710908409|tw13726527831452258178|tw12927804934518909271|tw18041872944195985921|tw1813783352892359139|tw163780843528658576|tw7921002314957702781|tw14543965291784279049|tw12714063481564318919|tw10840598696746221780|tw3472875241386419211|tw7642116243792288029|tw11187011927495806639|tw9068412834613802391|tw8443290838924986005|tw3480342760991288392|tw1717789086048587508|tw8872701885828828675|tw7090064784269732950|tw13973494955222427639|tw13565897835903679702|tw13519034532451914045|tw11161039389609485848|tw17597750249533195438|tw10532246279957463032|tw14673067075508165571|tw9514794623491591134|tw5247284734038412916|tw13303222572563705851|tw2593589012275942076|tw7307329994810182088|tw10941976032850841160|tw17924119728867812894|tw5609403348712484151|tw5020995752703214920
open PySem PySem.W PyProof.Rows
set_option maxRecDepth 100000 in
theorem PySem.Challenge.cw_boxgalley_k11_whole_one_text_each_holds : PySem.Challenge.rw_boxgalley_k11_whole_one_text_each.Holds := by
  w_on; o_law; k_head; (case hw => w_witness2)
  k_fill
  refine B11.walk (l := PySem.Challenge.rw_boxgalley_k11_whole_one_text_each) rfl rfl (fun w h Y => PySem.W.kIn_of Y) ?F
  case F =>
    intro w mg fa h KX G hmg
    refine' B11.all_mk KX G hmg ?aCR ?a1 ?F1 ?a2 ?F2 ?a3 ?F3 ?a4 ?F4 ?a5 ?F5 ?a6 ?F6 ?a7 ?F7 ?a8 ?F8 ?a9 ?F9 ?a10 ?F10 ?a11 ?F11 ?a12 ?F12 ?a13 ?F13 ?a14 ?F14 ?a15 ?F15 ?a16 ?F16 ?a17 ?F17 ?a18 ?F18 ?a19 ?F19 ?a20 ?F20 ?a21 ?F21 ?a22 ?F22 ?a23 ?F23 ?a24 ?F24 ?a25 ?F25 ?a26 ?F26 ?a27 ?F27 ?a28 ?F28 ?a29 ?F29 ?a30 ?F30 ?a31 ?F31 ?a32 ?F32 ?a33 ?F33 ?a34 ?F34 ?a35 ?F35 ?a36 ?F36 ?a37 ?F37 ?a38 ?F38 ?a39 ?F39 ?a40 ?F40 ?a41 ?F41 ?a42 ?F42 ?a43 ?F43 ?a44 ?F44 ?a45 ?F45 ?a46 ?F46 ?a47 ?F47 ?a48 ?F48 ?a49 ?F49 ?a50 ?i50 ?F50 ?a51 ?F51 ?a52 ?F52 ?a53 ?F53 ?a54 ?F54 ?a55 ?F55 ?a56 ?F56 ?a57 ?F57 ?a58 ?F58 ?a59 ?l59 ?c59 ?k59 ?a60 ?F60 ?a61 ?F61 ?a62 ?F62 ?a63 ?F63 ?a64 ?F64 ?a65 ?F65 ?a66 ?F66 ?a67 ?F67 ?a68 ?F68 ?a69 ?F69 ?a70 ?F70 ?a71 ?F71 ?a72 ?F72 ?a73 ?F73 ?a74 ?F74 ?a75 ?F75 ?a76 ?F76 ?a77 ?F77 ?a78 ?F78 ?a79 ?F79 ?a80 ?F80 ?a81 ?F81 ?a82 ?F82 ?p1 ?p2 ?p3 ?p4 ?p5 ?p6 ?nD ?nK ?nN ?nT ?kq0 ?kq1 ?kq2 ?kq3 ?kq4 ?kq5 ?kq6 ?kq7 ?kq8 ?kq9 ?kq10 ?kq11 ?kq12 ?kq13 ?kq14 ?kq15 ?kq16 ?kq17 ?kq18 ?kq19 ?kq20 ?kq21 ?kq22 ?kq23 ?kq24 ?tq0 ?lq0 ?tq1 ?lq1 ?tq2 ?lq2 ?tq3 ?lq3 ?tq4 ?lq4 ?aPL ?lPL ?nPL ?aIN ?z0 ?z1 ?z2 ?z3 ?z4 ?z5 ?z6 ?z7 ?z8 ?z9 ?z10 ?z11 ?z12 ?z13 ?z14 ?z15 ?z16 ?z17 ?z18
    (case aCR => k_is); (case a1 => show _ = _; k_is); (case F1 => exact L2.aC (by k_is) (by k_is) (by k_is)); (case a2 => show _ = _; k_is); (case F2 => exact L2.aC (by k_is) (by k_is) (by k_is)); (case a3 => show _ = _; k_is)
    (case F3 => exact L2.aC (by k_is) (by k_is) (by k_is)); (case a4 => show _ = _; k_is); (case F4 => exact L2.aC (by k_is) (by k_is) (by k_is)); (case a5 => show _ = _; k_is); (case F5 => exact L2.aC (by k_is) (by k_is) (by k_is)); (case a6 => show _ = _; k_is)
    (case F6 => exact L2.aC (by k_is) (by k_is) (by k_is)); (case a7 => show _ = _; k_is); (case F7 => exact L2.aC (by k_is) (by k_is) (by k_is)); (case a8 => show _ = _; k_is); (case F8 => exact L2.aC (by k_is) (by k_is) (by k_is)); (case a9 => show _ = _; k_is)
    (case F9 => exact L2.aC (by k_is) (by k_is) (by k_is)); (case a10 => show _ = _; k_is); (case F10 => exact L2.aC (by k_is) (by k_is) (by k_is)); (case a11 => show _ = _; k_is); (case F11 => exact L2.aC (by k_is) (by k_is) (by k_is)); (case a12 => show _ = _; k_is)
    (case F12 => exact L2.aC (by k_is) (by k_is) (by k_is)); (case a13 => show _ = _; k_is); (case F13 => exact L2.aC (by k_is) (by k_is) (by k_is)); (case a14 => show _ = _; k_is); (case F14 => exact L2.aC (by k_is) (by k_is) (by k_is)); (case a15 => show _ = _; k_is)
    (case F15 => exact L2.aC (by k_is) (by k_is) (by k_is)); (case a16 => show _ = _; k_is); (case F16 => exact L2.aC (by k_is) (by k_is) (by k_is)); (case a17 => show _ = _; k_is); (case F17 => exact L2.aC (by k_is) (by k_is) (by k_is)); (case a18 => show _ = _; k_is)
    (case F18 => exact L2.aC (by k_is) (by k_is) (by k_is)); (case a19 => show _ = _; k_is); (case F19 => exact L2.aC (by k_is) (by k_is) (by k_is)); (case a20 => show _ = _; k_is); (case F20 => exact L2.aC (by k_is) (by k_is) (by k_is)); (case a21 => show _ = _; k_is)
    (case F21 => exact L2.aC (by k_is) (by k_is) (by k_is)); (case a22 => show _ = _; k_is); (case F22 => exact L2.aC (by k_is) (by k_is) (by k_is)); (case a23 => show _ = _; k_is); (case F23 => exact L2.aC (by k_is) (by k_is) (by k_is)); (case a24 => show _ = _; k_is)
    (case F24 => exact L2.aC (by k_is) (by k_is) (by k_is)); (case a25 => show _ = _; k_is); (case F25 => exact L2.aC (by k_is) (by k_is) (by k_is)); (case a26 => show _ = _; k_is); (case F26 => exact L2.aC (by k_is) (by k_is) (by k_is)); (case a27 => show _ = _; k_is)
    (case F27 => exact L2.aC (by k_is) (by k_is) (by k_is)); (case a28 => show _ = _; k_is); (case F28 => exact L2.aC (by k_is) (by k_is) (by k_is)); (case a29 => show _ = _; k_is); (case F29 => exact L2.aC (by k_is) (by k_is) (by k_is)); (case a30 => show _ = _; k_is)
    (case F30 => exact L2.aC (by k_is) (by k_is) (by k_is)); (case a31 => show _ = _; k_is); (case F31 => exact L2.aC (by k_is) (by k_is) (by k_is)); (case a32 => show _ = _; k_is); (case F32 => exact L2.aC (by k_is) (by k_is) (by k_is)); (case a33 => show _ = _; k_is)
    (case F33 => exact L2.aC (by k_is) (by k_is) (by k_is)); (case a34 => show _ = _; k_is); (case F34 => exact L2.aC (by k_is) (by k_is) (by k_is)); (case a35 => show _ = _; k_is); (case F35 => exact L2.aC (by k_is) (by k_is) (by k_is)); (case a36 => show _ = _; k_is)
    (case F36 => exact L2.aC (by k_is) (by k_is) (by k_is)); (case a37 => show _ = _; k_is); (case F37 => exact L2.aC (by k_is) (by k_is) (by k_is)); (case a38 => show _ = _; k_is); (case F38 => exact L2.aC (by k_is) (by k_is) (by k_is)); (case a39 => show _ = _; k_is)
    (case F39 => exact L2.aC (by k_is) (by k_is) (by k_is)); (case a40 => show _ = _; k_is); (case F40 => exact L2.aC (by k_is) (by k_is) (by k_is)); (case a41 => show _ = _; k_is); (case F41 => exact L2.aC (by k_is) (by k_is) (by k_is)); (case a42 => show _ = _; k_is)
    (case F42 => exact L2.aC (by k_is) (by k_is) (by k_is)); (case a43 => show _ = _; k_is); (case F43 => exact L2.aC (by k_is) (by k_is) (by k_is)); (case a44 => show _ = _; k_is); (case F44 => exact L2.aC (by k_is) (by k_is) (by k_is)); (case a45 => show _ = _; k_is)
    (case F45 => exact L2.aC (by k_is) (by k_is) (by k_is)); (case a46 => show _ = _; k_is); (case F46 => exact L2.aC (by k_is) (by k_is) (by k_is)); (case a47 => show _ = _; k_is); (case F47 => exact L2.aC (by k_is) (by k_is) (by k_is)); (case a48 => show _ = _; k_is)
    (case F48 => exact L2.aC (by k_is) (by k_is) (by k_is)); (case a49 => show _ = _; k_is); (case F49 => exact L2.aC (by k_is) (by k_is) (by k_is)); (case a50 => show _ = _; k_is); (case i50 => k_is); (case F50 => exact L2.aC (by k_is) (by k_is) (by k_is))
    (case a51 => show _ = _; k_is); (case F51 => exact L2.aC (by k_is) (by k_is) (by k_is)); (case a52 => show _ = _; k_is); (case F52 => exact L2.aC (by k_is) (by k_is) (by k_is)); (case a53 => show _ = _; k_is); (case F53 => exact L2.aC (by k_is) (by k_is) (by k_is))
    (case a54 => show _ = _; k_is); (case F54 => exact L2.aC (by k_is) (by k_is) (by k_is)); (case a55 => show _ = _; k_is); (case F55 => exact L2.aC (by k_is) (by k_is) (by k_is)); (case a56 => show _ = _; k_is); (case F56 => exact L2.aC (by k_is) (by k_is) (by k_is))
    (case a57 => show _ = _; k_is); (case F57 => exact L2.aC (by k_is) (by k_is) (by k_is)); (case a58 => show _ = _; k_is); (case F58 => exact L2.aC (by k_is) (by k_is) (by k_is)); (case a59 => show _ = _; k_is); (case l59 => k_is)
    (case c59 => k_is); (case k59 => k_is); (case a60 => show _ = _; k_is); (case F60 => exact L2.aC (by k_is) (by k_is) (by k_is)); (case a61 => show _ = _; k_is); (case F61 => exact L2.aC (by k_is) (by k_is) (by k_is))
    (case a62 => show _ = _; k_is); (case F62 => exact L2.aC (by k_is) (by k_is) (by k_is)); (case a63 => show _ = _; k_is); (case F63 => exact L2.aC (by k_is) (by k_is) (by k_is)); (case a64 => show _ = _; k_is); (case F64 => exact L2.aC (by k_is) (by k_is) (by k_is))
    (case a65 => show _ = _; k_is); (case F65 => exact L2.aC (by k_is) (by k_is) (by k_is)); (case a66 => show _ = _; k_is); (case F66 => exact L2.aC (by k_is) (by k_is) (by k_is)); (case a67 => show _ = _; k_is); (case F67 => exact L2.aC (by k_is) (by k_is) (by k_is))
    (case a68 => show _ = _; k_is); (case F68 => exact L2.aC (by k_is) (by k_is) (by k_is)); (case a69 => show _ = _; k_is); (case F69 => exact L2.aC (by k_is) (by k_is) (by k_is)); (case a70 => show _ = _; k_is); (case F70 => exact L2.aC (by k_is) (by k_is) (by k_is))
    (case a71 => show _ = _; k_is); (case F71 => exact L2.aC (by k_is) (by k_is) (by k_is)); (case a72 => show _ = _; k_is); (case F72 => exact L2.aC (by k_is) (by k_is) (by k_is)); (case a73 => show _ = _; k_is); (case F73 => exact L2.aC (by k_is) (by k_is) (by k_is))
    (case a74 => show _ = _; k_is); (case F74 => exact L2.aC (by k_is) (by k_is) (by k_is)); (case a75 => show _ = _; k_is); (case F75 => exact L2.aC (by k_is) (by k_is) (by k_is)); (case a76 => show _ = _; k_is); (case F76 => exact L2.aC (by k_is) (by k_is) (by k_is))
    (case a77 => show _ = _; k_is); (case F77 => exact L2.aC (by k_is) (by k_is) (by k_is)); (case a78 => show _ = _; k_is); (case F78 => exact L2.aC (by k_is) (by k_is) (by k_is)); (case a79 => show _ = _; k_is); (case F79 => exact L2.aC (by k_is) (by k_is) (by k_is))
    (case a80 => show _ = _; k_is); (case F80 => exact L2.aC (by k_is) (by k_is) (by k_is)); (case a81 => show _ = _; k_is); (case F81 => exact L2.aC (by k_is) (by k_is) (by k_is)); (case a82 => show _ = _; k_is); (case F82 => exact L2.aC (by k_is) (by k_is) (by k_is))
    (case p1 => k_is); (case p2 => k_is); (case p3 => k_is); (case p4 => k_is); (case p5 => k_is); (case p6 => k_is)
    (case nD => k_is); (case nK => k_is); (case nN => k_is); (case nT => k_is); (case kq0 => show _ = _; k_is); (case kq1 => show _ = _; k_is)
    (case kq2 => show _ = _; k_is); (case kq3 => show _ = _; k_is); (case kq4 => show _ = _; k_is); (case kq5 => show _ = _; k_is); (case kq6 => show _ = _; k_is); (case kq7 => show _ = _; k_is)
    (case kq8 => show _ = _; k_is); (case kq9 => show _ = _; k_is); (case kq10 => show _ = _; k_is); (case kq11 => show _ = _; k_is); (case kq12 => show _ = _; k_is); (case kq13 => show _ = _; k_is)
    (case kq14 => show _ = _; k_is); (case kq15 => show _ = _; k_is); (case kq16 => show _ = _; k_is); (case kq17 => show _ = _; k_is); (case kq18 => show _ = _; k_is); (case kq19 => show _ = _; k_is)
    (case kq20 => show _ = _; k_is); (case kq21 => show _ = _; k_is); (case kq22 => show _ = _; k_is); (case kq23 => show _ = _; k_is); (case kq24 => show _ = _; k_is); (case tq0 => show _ = _; k_is)
    (case lq0 => k_is); (case tq1 => show _ = _; k_is); (case lq1 => k_is); (case tq2 => show _ = _; k_is); (case lq2 => k_is); (case tq3 => show _ = _; k_is)
    (case lq3 => k_is); (case tq4 => show _ = _; k_is); (case lq4 => k_is); (case aPL => k_is); (case lPL => k_is); (case nPL => rfl); (case aIN => k_is); (case z0 => k_is); (case z1 => k_is); (case z2 => k_is)
    (case z3 => k_is); (case z4 => k_is); (case z5 => k_is); (case z6 => k_is); (case z7 => k_is); (case z8 => k_is)
    (case z9 => k_is); (case z10 => k_is); (case z11 => k_is); (case z12 => k_is); (case z13 => k_is); (case z14 => k_is)
    (case z15 => k_is); (case z16 => k_is); (case z17 => k_is); (case z18 => k_is)
