import PyProof.Rows.All
import Wide.All
import OpenK.AllK
import Wide.FinOn
import Lean
import PyProof.EqAt
import PyProof.EqKinds
import PyProof.TupleCall
import PyProof.MinMaxWalk
import PyProof.NeKinds
import PyProof.Rows.ZipGen
import KE.KMinKey
import PyProof.StrWalks
import PyProof.FString5
import PyProof.Rows.StrJoin2
import KE.KDictSum
import PyProof.DictItems
import KE.KEqDict
import KE.KSortTup
import KE.KLam
import KE.KNestM
import PyProof.DictWalks
import PyProof.PassesOwn
import PyProof.StationsW
import PyProof.ExcClass3
import OpenK.KMake
import PyProof.InstStoreFacts
import PyProof.ExcAttrAll.ValueError
import OpenK.KDescr
import OpenK.KOwn
import KE.KIsAll
import PyProof.NsDelKeeps
import KE.KRevIter
import PyProof.ListNew
import PyProof.DictTruth
import PyProof.Rows.SortStr
import PyProof.Rows.SortWalk
import PyProof.StrOps2
import PyProof.AttrMiss
import PyProof.IsiH_list
import KE.KDictOf
import PyProof.DictUpdate
import PyProof.StrBlockL
import PyProof.Rows.StrNews
import PyProof.MeetsStr
import PyProof.MeetsStr2
import KE.KIntText
import PyProof.StrLawsTight
import PyProof.Rows.StrFirst2
import KE.KDictLaws
import PySem.Challenge.RW_boxgalley_k09_texts_read
set_option Elab.async false
set_option linter.all false
set_option maxRecDepth 100000
theorem Cv{p:Prop}(h:p:=by decide +kernel):p:=h
theorem CA{p:Prop}(h:p:=by assumption):p:=h
theorem Li{a:Nat}:a<=a:=Nat.le_refl _
theorem Lu{a:Nat}:0<=a:=Nat.zero_le _
theorem Lz{a:Nat}:0<a.succ:=Nat.succ_pos _
theorem Jq{a:Nat}:a<=a.succ:=Nat.le_succ _
theorem Lx{a b:Nat}(h:a<b:=by assumption):a<=b:=Nat.le_of_lt h
theorem cV{a b c:Nat}(h:a<=b:=by assumption)(g:b<=c:=by decide +kernel):a<=c:=Nat.le_trans h g
theorem Ll{a b c:Nat}(h:a<=b:=by assumption)(g:b<c:=by decide +kernel):a<c:=Nat.lt_of_le_of_lt h g
theorem CI{a b c:Nat}(h:a<b:=by assumption)(g:b<=c:=by decide +kernel):a<c:=Nat.lt_of_lt_of_le h g
theorem LO{a b c:Int}(h:a<=b:=by assumption)(g:b<=c:=by decide +kernel):a<=c:=Int.le_trans h g
theorem Cw{a b c:Int}(h:a<b:=by assumption)(g:b<=c:=by decide +kernel):a<c:=Int.lt_of_lt_of_le h g
theorem IY{a b:Nat}:a<=a+b:=Nat.le_add_right _ _
theorem Cu{a b:Nat}:a<=b+a:=Nat.le_add_left _ _
theorem Hu{a b c:Nat}(h:a<=b:=by assumption):a+c<=b+c:=Nat.add_le_add_right h _
theorem Lo{a b:Int}(h:a<b:=by assumption):a<=b:=Int.le_of_lt h
set_option maxHeartbeats 0
set_option compiler.extract_closed false
set_option bootstrap.genMatcherCode false
open List renaming length_map->be,getElem?_eq_getElem->AC,length_append->B1,size_toArray->B4,getElem?_map->B7,length_cons->B8,map_append->Dk,mem_cons_self->Do,mem_of_getElem?->Fk,append_nil->FB,mem_cons_of_mem->GE,getElem?_append_right->GT,getD_eq_getElem?_getD->Ki,getElem?_append_left->LQ,append_assoc->LW,map_cons->Mc,range->Me,eq_nil_of_length_eq_zero->Mf,not_mem_nil->Ml,map_map->Mm,replicate->Mo,mem_append_right->Mv,flatMap_cons->Mx,mem_cons->Mz,take_of_length_le->MF,cons_append->ML,length_range->MQ,length_drop->MX,getElem_mem->MY,cons_ne_nil->MZ,mem_map_of_mem->M5,lookup_cons->Na,getElem?_of_mem->Nf,map_congr_left->Nk,length_reverse->Nl,mem_append_left->NB,length_take->NI,flatMap_nil->NJ,nil_append->NR,length_replicate->NT,take_succ->Oa,flatMap_append->Oe,all_cons->Oi,length_nil->On,find?_cons->Oo,getElem?_drop->Ow,drop_left->OB,length_filter_le->OE,getElem?_eq_none->OF,take_length->OH,any_cons->OJ,take_append_of_le_length->OL,lookup->OM,drop_zero->OU,drop_drop->OV,mem_of_find?_eq_some->OX,reverse_cons->O1,find?_cons_of_pos->Pm,all_map->Pn,forIn_cons->Pu,foldl_cons->Pv,length_singleton->PD,getElem?_reverse->PF,length->PP,find?_map->PR,replicate_succ->P0,filterMap_cons->P1,sum_cons->P7,filter_append->P_,map_nil->Qo,foldl_append->Qp,ext_getElem?->Qq,any_map->Qr,any_eq_false->Qs,map_fst_zip->Qz,all_eq_true->QA,map_id->QE,sum_append->QJ,of_mem_zip->QK,nodup_cons->QL,length_zip->QM,take_left->Q5,forIn_nil->Q6,getElem?_zip_eq_some->Q_,length_filterMap_le->Rj,find?_range_eq_some->Rk,getElem?_replicate->Rt,filter_cons_of_neg->Ru,range_succ_eq_map->RK,getElem?_set_self->RL,find?_cons_of_neg->RM,drop_eq_nil_of_le->RN,take_append_drop->RY,length_dropLast->R6,getElem?_set_ne->R7,takeWhile_cons->R_,reverse_append->Sa,getElem?_range->Sb,zip_cons_cons->Sv,find?_append->SH,zipIdx_cons->SV,filter_cons->SW,any_eq_true->SX
open PySem.W renaming Frag->mo,mg_of->LU,mg_none_of->L_,nsIn->Mi,findIn->MG,kia_one->MT,emptyDict->M4,instObj->Nw,fnOf->NL,keepIn->N_,kitOne->Oz,hasDictIn->O0,plainGet->Pd,codeIn->PL,plainOver->Qi,methodObj->Qj,takerIn->QG,makesIn->QH,lookIn->QZ,cellsFrom_some->RE,callWith_K->Sr,kitx_list->SC,kitx_dict->SD,handedIn->SQ
open PySem.Heap renaming get?_push_of_some->B0,lt_size->De,get?_push_size->Gc,get?_update_other->My,get?_update_self->M8,size_push->Ng,SameBut->Nn,IsTuple->RP
open PySem renaming wpAny_bind->B2,Addr->B3,Value->B5,Shared->FS,wpAny->IR,wpAny_pure->KF,model->L0,mainGlobals->L4,starEach->L9,Stmt->Mb,boot_len->Md,Program->MA,Str->MD,wpAny_truthy_bool->MI,wpAny_setField_rec->MJ,wpAny_field->MK,World->MM,Heap->MP,compareOp->MR,wpAny_seqItems->MS,eval->M3,keywordEach->M6,FuncData->M9,wpAny_mono->M_,sysModules->Ni,mem_of_lookup->Nj,cLine->Np,backTo->NC,IsPair->NF,wpAny_callSpecial?_slot->NG,binaryOp->NH,bootBuiltins->NK,wpAny_passesOwn->NP,backToKw->NQ,wpAny_holding->NS,foldedSetIterable->NV,sizeLine_eq->NY,assignEach->NZ,wpAny_call_entry->Oc,Around->Of,plainId_quiet->Og,attributeBase->Oh,wpAny_updateSeq->Oj,wpAny_loadPart'->Ol,codeAny->Om,wpAny_pyIter_tuple->Os,wpAny_Call_Name_kw->Ot,typeIs_str->Ou,call_meets->Ov,wpAny_letGo->Ox,call_meetsIn->Oy,Scope->OD,valueAt->OI,sliceBounds->OK,wpAny_execs_nil->OO,wpAny_tryCatch->OQ,tupleKind_room_in1->OR,pyNext->OS,wpAny_newObj_type->OY,Keyword->O2,IsZip->O3,wpAny_standAt->O4,behindInMarks->O5,assign->O6,wpAny_pyIter_zip->Pa,wpAny_rule->Ph,rawInt->Pi,wpAny_ite_split->Pp,letOwnedTupleGo->Pq,codeAny_builtin->Pr,wpAny_pyIter_revIter->PH,IsEnum->PU,tupleKind->PV,swapsWith->PX,seqItems?->PY,argBest->PZ,field->Qe,codeAny_mono->Qf,callerA->Qg,ZipApart->Qh,NameKind->Qn,updateSeq->Qw,noFill_tuple_add->Qx,DictEntry->QB,subscripted->QC,wpAny_specialOf->QF,getItem->QP,BindsTo->QV,intItems->QW,atKey->QX,wpAny_letOwnedTupleGo_zip->Q9,wpAny_onRaise->Rb,wpAny_comprehension_free->Rc,wpAny_attempt->Re,seq_tuple_add->Rg,stripSame->Rm,bindL->Rn,bindC->Ro,IsEnumOut->Rv,seqIndex_neg->Ry,revObj->Rz,holding->RA,concat_meets->RB,Result->RC,Within->RD,wpAny_isTrue_Compare1->RU,builtinLookup_eq_fast->RV,wpAny_updateSeq_pair->R0,seqIndex_of->R1,wpAny_Name->Sf,typeLookup->Sg,isTrue->Sh,call_reversed_list->Si,builtinsNs->Sj,call->So,PlainAttrs->Ss,wpAny_pyIter_list->Sw,wpAny_pyIter_enum->Sx,wpAny_assign_Name->Sy,wpAny_Call_method->Sz,spliced->SA,relabel->SB,wpAny_isInstance->SK,wpAny_execs_cons->SL,wpAny_Dict_empty->SM,strValues->SN,cellsFrom->SO
open Nat renaming le_refl->B6,ne_of_lt->LV,zero_le->L5,lt_of_lt_of_le->Mg,le_trans->Mu,le_add_right->MW,lt_irrefl->Nc,sub_succ_lt_self->Nd,not_lt_zero->Nx,ne_of_gt->Nz,mul_le_mul_right->NA,toDigits->Od,repr->OA,succ_pos->OP,lt_of_le_of_lt->OT,toDigits_of_lt_base->Pf,sub_self->Pl,mul_le_mul->PM,le_succ->PN,zero_add->Qk,succ_mul->Ql,le_of_lt->Qm,lt_succ_self->Qy,isDigit_of_mem_toDigits->QQ,add_zero->RI,add_comm->RJ,le_succ_of_le->SF,le_of_succ_le->SG,succ_le_succ->SS,le_max_right->SU
open PySem.Str renaming length_append->B9,join->Mr,ofString->MB,empty->Pc
open Ne renaming symm->Da
open PyProof.Rows renaming boot_str->FM,boot_isinstance->KM,boot_tuple->LR,envOfC->Mh,callWith_type1->Mq,boot_all->MH,boot_list->NO,AllBare->Po,boot_int->PB,IntsAre->QR,boot_reversed->Q3,subscriptTail->Rf,Call_->Rw,subscriptTail_builtinR->Rx,boot_bool->RH,boot_zip->RW,boot_max->RX,Subscript_->Sk
open Bool renaming false_ne_true->GM,and_eq_true->M0,eq_iff_iff->M7,or_eq_true->Px,or_false->P8,false_eq_true->Qd
open PySem.Value renaming ref->Kf,str->MU,none->ND,type->OG,int->Pb,bool->Pj,isStrOf->P5,float->R3
open Or renaming inl->KB
open PySem.F renaming plainAttrs_str->LS,plainAttrs_list->LZ,type_list_append->L7,slot_list_append->L8,type_str_join->Ms,slot_str_join->Mt,plain_max_loop->Nb,plainAttrs_dict->Nh,type_str_split->NM,slot_str_split->NN,slot_tuple_iterator_next->Ob,slot_dict_update->O7,args_tuple_add_2->O8,entry_tuple_add->Pe,entry_max_loop->Pg,slot_tuple_add->Pk,slot_zip_next->Pw,slot_dict_pop->Py,slot_dict_get->Pz,slot_dict_itemiterator_iter->P6,args_str_split_2->Qb,entry_str_split->Qu,slot_dict_setdefault->QI,args_tuple_iterator_next_1->QO,entry_tuple_iterator_next->QS,type_str_partition->Q0,slot_str_partition->Q1,type_dict_update->Rh,slot_dict_items->Rp,args_dict_pop_3->Rq,args_dict_get_3->Rr,entry_dict_pop->RF,entry_dict_get->RG,slot_enumerate_next->RZ,plain_extend_loop->Se,args_zip_next_1->SJ,entry_zip_next->SZ
open Array renaming toList_append->LX,length_toList->LY,append_assoc->Nu,getElem?_toList->NU,getElem?_eq_getElem->Ra
open PySem.Txt renaming join->L1,split->MV
open Option.some renaming inj->L6
open PySem.PassesOwn renaming never->Ma
open PySem.Builtin.Str renaming strSliceIndices->Mj
open PySem.PyData renaming keyHash->Mn
open Sum renaming inr->Mp,inl->Mw
open PySem.Builtin.SmallTypes renaming ownedTupleIsFree->ME,nextOf->MN,ownedTupleHandOut->Nm
open True renaming intro->MO
open PySem.NameKind renaming free->Nq,cell->Ri
open PySem.Obj renaming mapSeq->Nr,data_mapFields->Su
open False renaming elim->Nt
open Int renaming toNat->Ny,emod_lt_of_pos->Qa,toNat_natCast->Qt,emod_nonneg->QN,fdiv_eq_ediv_of_nonneg->Q7,zero_add->RO
open PySem.Builtin.List renaming listExtendWith->NW,listTooLong->O_,listLengthHint->QT,listSameRef->Rl,listItems->RS
open ForInStep renaming yield->Oq
open PySem.Calls renaming callWith_builtin->OC,spliced_cons->OW,spliced_nil->Qv,Name_function_global->Q8,evalArgs_plain->R8
open PySem.Around renaming under_plainId->ON,under->RT
open Sum.inr renaming inj->OZ
open PySem.Paired renaming length->O9
open Option renaming map_some->Pt,isSome_map->SE,getD_none->SR
open String renaming toList_append->PJ,toList_ofList->R4
open PySem.SeqAt.RcNeAt renaming lists->P9,tuples->R9
open PySem.StrLaws renaming strSliceIndices_plain->QD
open PySem.Builtin.Builtins renaming bindParams->QU
open PySem.SeqAt renaming EqAt->QY
open Prod renaming fst->Q4
open PySem.Code renaming isFrame->RQ
open PySem.Shared renaming heap->R5
open PySem.Heap.SameBut renaming update->Sd
open PySem.SeqAt.EqAt renaming str_int->Sl,of_refs->Sm,int_str->Sn
open List.Sublist renaming refl->SI
open PyProof.Rows.IsTup renaming new->SY
namespace L2
open PySem PySem.Spec PyProof.Rows
abbrev Key:=Sum Int Str
def oF:Key->B5->Bool
 | .inl k,v=>Value.isInt k v
 | .inr x,v=>P5 x v
def KD(w:MM):Key->Int
 | .inl k=>hashInt k
 | .inr x=>hashStr w x
theorem cp:∀{k:Key}{v:B5},oF k v=true->(∃i t,k=Mw i/\v=Pb i t)∨(∃x t,k=Mp x/\v=MU x t)
 | .inl i,v,h=>by
  obtain⟨t,e⟩:=Value.isInt_shape (k:=i) (v:=v) h;exact .inl ⟨i,t,rfl,e⟩
 | .inr x,v,h=>by
  obtain⟨t,e⟩:=Value.isStrOf_shape (x:=x) (v:=v) h;exact .inr ⟨x,t,rfl,e⟩
theorem yJ(i:Int)(t:Tok):oF (.inl i) (.int i t)=true:=by simp[oF,Value.isInt]
theorem xK(x:Str)(t:Tok):oF (.inr x) (.str x t)=true:=by simp[oF,P5]
theorem GF(a b:Int):decide ((Mw a:Key)=Mw b)=(a==b):=by
 by_cases e:a=b
 ·subst e;simp
 ·have h:¬(Mw a:Key)=Mw b:=λq=>e (Sum.inl.inj q);rw[decide_eq_false h];exact(beq_eq_false_iff_ne.mpr e).symm
theorem Gh(a b:Str):decide ((Mp a:Key)=Mp b)=decide (a=b):=by
 by_cases e:a=b
 ·subst e;simp
 ·have h:¬(Mp a:Key)=Mp b:=λq=>e (OZ q);rw[decide_eq_false h,decide_eq_false e]
theorem G8(a:Int)(b:Str):decide ((Mw a:Key)=Mp b)=false:=decide_eq_false (λq=>nomatch q)
theorem FT(a:Str)(b:Int):decide ((Mp a:Key)=Mw b)=false:=decide_eq_false (λq=>nomatch q)
def bb(prog:MA)(w:MM):PySem.KeyKind prog w Key where
 is:=oF
 hash:=KD w
 inj:=λv a b ha f=>by
  rcases cp ha with⟨i,t,rfl,rfl⟩|⟨x,t,rfl,rfl⟩
  ·rcases cp f with⟨j,u,rfl,e⟩|⟨y,u,rfl,e⟩
   ·injection e with c _;rw[c]
   ·exact nomatch e
  ·rcases cp f with⟨j,u,rfl,e⟩|⟨y,u,rfl,e⟩
   ·exact nomatch e
   ·injection e with c _;rw[c]
 byValue:=λk v h=>by
  rcases cp h with⟨i,t,rfl,rfl⟩|⟨x,t,rfl,rfl⟩<;>rfl
 pyHash:=λd h=>by
  rcases cp d with⟨i,t,rfl,rfl⟩|⟨x,t,rfl,rfl⟩
  ·exact wpAny_pyHash_int h
  ·exact wpAny_pyHash_str h
 eqBool:=λg d h=>by
  rcases cp g with⟨i,t,rfl,rfl⟩|⟨x,t,rfl,rfl⟩
  ·rcases cp d with⟨j,u,rfl,rfl⟩|⟨y,u,rfl,rfl⟩
   ·rw[GF]at h;exact wpAny_eqBool_int h
   ·rw[G8]at h;exact Sn i t y u _ _ _ _ h
  ·rcases cp d with⟨j,u,rfl,rfl⟩|⟨y,u,rfl,rfl⟩
   ·rw[FT]at h;exact Sl x t j u _ _ _ _ h
   ·rw[Gh]at h;exact wpAny_eqBool_str h
 «strs»:=λk x t v h=>by
  rcases cp h with⟨i,u,rfl,e⟩|⟨y,u,rfl,e⟩
  ·exact nomatch e
  ·injection e with c _
   subst c
   cases v<;>rfl
theorem sH(prog:MA)(w:MM)(i:Int)(t:Tok):(bb prog w).is (.inl i) (.int i t)=true:=yJ i t
theorem rh(prog:MA)(w:MM)(x:Str)(t:Tok):(bb prog w).is (.inr x) (.str x t)=true:=xK x t
inductive V where
 |non|bl (b:Bool)|int (i:Int)|str (x:Str)|byt (b:Array UInt8)|flt (b:UInt64)|ref (a:B3)|ty (n:String)
 deriving DecidableEq
def RelV:V->B5->Prop
 | .non,u=>u=ND
 | .bl b,u=>u=Pj b
 | .int i,u=>∃t,u=Pb i t
 | .str x,u=>∃t,u=MU x t
 | .byt b,u=>∃t,u=Value.bytes b t
 | .flt b,u=>∃t,u=R3 b t
 | .ref a,u=>u=Kf a
 | .ty n,u=>u=OG n
abbrev Vals:List V->List B5->Prop:=Paired RelV
variable{us:List B5}{xs vs:List V}{u:B5}{a b it dx C f:B3}{P prog:MA}{h h' base:MP}{w:MM}{A:Of}{E Q:B5->FS->Prop}{M:Model}{N ps:List Str}{ch fp:List B3}{d':Drawn}{g':Array GenState}{i j t' n:Nat}{pins:List (B3×Obj)}{s s':FS}{x name m qual:Str}{v y:V}{e c tg l:Expr}{op op':CmpOp}{pos pos' p apos:Pos}{K:mo}{es:List Expr}{body:List Mb}{lo:Int}{mA mg:Str->Option B5}{kw:List (Str×B5)}{outer:List Env}{fd:M9}{kindOf:Str->Option Qn}{scope:OD}
theorem Vals.length(r:Vals xs us):xs.length=us.length:=O9 r
theorem Vals.get:∀{xs:List V}{us:List B5}{i:Nat}{x:V},Vals xs us->xs[i]? =some x->∃u,us[i]? =some u/\RelV x u
 |_,_,_,_,.nil,e=>by simp at e
 |_,_,0,_,.cons r _,e=>by simp at e;subst e;exact⟨_,rfl,r⟩
 |_,_,i+1,x,.cons _ t,e=>by
  obtain⟨u,h1,h2⟩:=Vals.get (i:=i) (x:=x) t (by simpa using e);exact⟨u,by simpa using h1,h2⟩
theorem Vals.set{x:V}(r:RelV x u):∀{xs:List V}{us:List B5}(i:Nat),Vals xs us->Vals (xs.set i x) (us.set i u)
 |_,_,_,.nil=> .nil
 |_,_,0,.cons _ t=> .cons r t
 |_,_,i+1,.cons q t=> .cons q (Vals.set r i t)
theorem Vals.append:∀{xs ys:List V}{us ws:List B5},Vals xs us->Vals ys ws->Vals (xs++ys) (us++ws)
 |_,_,_,_,.nil,s=>s
 |_,_,_,_,.cons r t,s=> .cons r (Vals.append t s)
theorem Vals.take:∀{xs:List V}{us:List B5}(n:Nat),Vals xs us->Vals (xs.take n) (us.take n)
 |_,_,0,_=> .nil
 |_,_,_+1,.nil=> .nil
 |_,_,n+1,.cons r t=> .cons r (Vals.take n t)
theorem Vals.drop:∀{xs:List V}{us:List B5}(n:Nat),Vals xs us->Vals (xs.drop n) (us.drop n)
 |_,_,0,r=>r
 |_,_,_+1,.nil=> .nil
 |_,_,n+1,.cons _ t=>Vals.drop n t
def fe:Option V->Option B5->Prop
 |some v,some u=>RelV v u
 |none,none=>True
 |_,_=>False
def KV{κ:Type}:List (κ×V)->List (κ×B5)->Prop:=Paired λ(p:κ×V) (q:κ×B5)=>p.1=q.1/\RelV p.2 q.2
def kV:Key->V
 | .inl i=> .int i
 | .inr x=> .str x
inductive HO where
  |lst (xs:List V)
  |tup (xs:List V)
  |dK (kvs:List (Key×V))|dT (kvs:List (List Key×V))
  |set (S:Int->Bool) (n:Nat)
  |ins (C dx:B3) (fs:List (Str×V))
  |own (x:B3)
  |xd (fs:List (Str×V))
  |met (f x:B3)
  |rng (lo hi:Int)
  |frz (o:Obj) (u:HO)
  |tbl (ps:Array B5)
  |ext (φ:MP->Prop)
abbrev Hp:=B3->Option HO
def upd(H:Hp)(a:B3)(o:HO):Hp:=λb=>if b=a then some o else H b
variable{o:HO}{H H':Hp}
theorem ae:upd H a o a=some o:=by unfold upd;rw[if_pos rfl]
theorem ak(h:b≠a):upd H a o b=H b:=by unfold upd;rw[if_neg h]
theorem CQ{u:HO}:upd (upd H a o) a u=upd H a u:=by
 funext b;unfold upd;split<;>rfl
theorem gx{u:HO}(h:H a=some o)(h':H b=some u)(d:o≠u):a≠b:=by
 intro e;subst e;rw[h]at h';exact d (L6 h')
theorem aM(h:H a=some o)(h':H b=none):a≠b:=by
 intro e;subst e;rw[h]at h';cases h'
section
variable(P:MA)(w:MM)
def cv(H:Hp)(h:MP)(a:B3):HO->Prop
 | .lst xs=>xs.length<=sizeLine/\∃(its:List B5)(n:Nat),Vals xs its/\h.get? a=some {cls:= .type "list",data:= .seq its.toArray n}
 | .tup xs=>xs.length<=sizeLine/\∃its:List B5,Vals xs its/\IsTup h a its.toArray
 | .dK kvs=>kvs.length<=sizeLine/\(a==Ni)=false/\∃vs,KV kvs vs/\h.DictOf (bb P w) a vs
 | .dT kvs=>kvs.length<=sizeLine/\(a==Ni)=false/\∃xs:List (List Key×B3×B5),
   Paired (λ(p:List Key×V) (q:List Key×B3×B5)=>p.1=q.1/\H q.2.1=some (.tup (p.1.map kV))/\RelV p.2 q.2.2) kvs xs/\
   ∃o es ep,h.get? a=some o/\o.ExactDict/\o.data= .dict es ep/\es.toList=xs.map (entryOfKey (PV (bb P w)))/\(xs.map (·.1)).Nodup
 | .set S n=>h.SetOf (intKind P w) a S n
 | .ins C dx fs=>H dx=some (.own a)/\fs.length<=1000/\dx≠a/\h.get? a=some (Nw C dx)/\
   ∃mA,h.Ns1 dx mA/\(∀f,fe (fs.lookup f) (mA f))/\RD mA (fs.map (·.1))
 | .own _=>∃o,h.get? a=some o
 | .xd fs=>∃mA,h.Ns1 a mA/\∀f,fe (fs.lookup f) (mA f)
 | .rng lo hi=>∃t u v,h.get? a=some {cls:= .type "range",data:= .fields #[.int lo t,.int hi u,.int 1 v]}
 | .frz o u=>h.get? a=some o/\cv H h a u
 | .tbl ps=>h.get? a=some {cls:= .none,data:= .fields ps}
 | .met f x=>h.get? a=some (Qj (.ref f) (.ref x))
 | .ext φ=>φ h/\(∃o,h.get? a=some o)/\∀h1 h2:MP,φ h1->(∀o,h1.get? a=some o->h2.get? a=some o)->φ h2
def iX(H:Hp)(h:MP):Prop:=∀a o,H a=some o->cv P w H h a o
end
theorem cv.lt(x:cv P w H h a o):a<h.objs.size:=by
 cases o with
 |lst xs=>obtain⟨_,_,_,_,e⟩:=x;exact De e
 |tup xs=>obtain⟨_,_,_,p⟩:=x;exact p.lt
 |dK kvs=>obtain⟨_,_,_,_,o,_,_,e,_⟩:=x;exact De e
 |dT kvs=>obtain⟨_,_,_,_,o,_,_,e,_⟩:=x;exact De e
 |set S n=>obtain⟨o,_,_,_,e,_⟩:=x;exact De e
 |ins C dx fs=>obtain⟨_,_,_,e,_⟩:=x;exact De e
 |own y=>obtain⟨_,e⟩:=x;exact De e
 |xd fs=>obtain⟨_,⟨_,_,_,e,_⟩,_⟩:=x;exact De e
 |rng lo hi=>obtain⟨_,_,_,e⟩:=x;exact De e
 |frz b u=>obtain⟨e,_⟩:=x;exact De e
 |tbl ps=>exact De (show h.get? a=some _ from x)
 |met f y=>exact De (show h.get? a=some _ from x)
 |ext φ=>obtain⟨_,⟨_,e⟩,_⟩:=x;exact De e
theorem Paired.GZ{α β:Type}{F G:α->β->Prop}:∀{d:List α}{c:List β},Paired F d c->(∀a b,F a b->G a b)->Paired G d c
 |_,_,.nil,_=> .nil
 |_,_,.cons r t,f=> .cons (f _ _ r) (Paired.GZ t f)
theorem cv.vG(x:cv P w H h a o)(k:∀b u,(b=a∨H b=some (.own a))->h.get? b=some u->h'.get? b=some u)(l:∀b,H b=some (.own a)->H' b=some (.own a))(m:∀b xs,H b=some (.tup xs)->H' b=some (.tup xs)):cv P w H' h' a o:=by
 induction o with
 |lst xs=>obtain⟨z,its,n,r,e⟩:=x;exact⟨z,its,n,r,k _ _ (.inl rfl) e⟩
 |tup xs=>obtain⟨z,its,r,g,e,c⟩:=x;exact⟨z,its,r,g,k _ _ (.inl rfl) e,c⟩
 |dK kvs=>obtain⟨z,y,vs,r,g,es,ep,e,c⟩:=x;exact⟨z,y,vs,r,g,es,ep,k _ _ (.inl rfl) e,c⟩
 |dT kvs=>
  obtain⟨z,y,xs,r,g,es,ep,e,c⟩:=x;exact⟨z,y,xs,Paired.GZ r λp q z=>⟨z.1,m _ _ z.2.1,z.2.2⟩,g,es,ep,k _ _ (.inl rfl) e,c⟩
 |set S n=>obtain⟨g,es,ep,t,e,c⟩:=x;exact⟨g,es,ep,t,k _ _ (.inl rfl) e,c⟩
 |ins C dx fs=>
  obtain⟨d,z,ne,e,mA,⟨od,es,ep,j,c⟩,r⟩:=x;exact⟨l _ d,z,ne,k _ _ (.inl rfl) e,mA,⟨od,es,ep,k _ _ (.inr d) j,c⟩,r⟩
 |own y=>obtain⟨g,e⟩:=x;exact⟨g,k _ _ (.inl rfl) e⟩
 |xd fs=>obtain⟨mA,⟨od,es,ep,e,c⟩,r⟩:=x;exact⟨mA,⟨od,es,ep,k _ _ (.inl rfl) e,c⟩,r⟩
 |rng lo hi=>obtain⟨t,u,v,e⟩:=x;exact⟨t,u,v,k _ _ (.inl rfl) e⟩
 |frz g u i=>obtain⟨e,q⟩:=x;exact⟨k _ _ (.inl rfl) e,i q⟩
 |tbl ps=>
  have e:h.get? a=some {cls:= .none,data:= .fields ps}:=x;show h'.get? a=some {cls:= .none,data:= .fields ps};exact k a _ (.inl rfl) e
 |met f y=>
  have e:h.get? a=some (Qj (.ref f) (.ref y)):=x;show h'.get? a=some (Qj (.ref f) (.ref y));exact k a _ (.inl rfl) e
 |ext φ=>obtain⟨p,⟨o,e⟩,st⟩:=x;exact⟨st _ _ p λo q=>k _ _ (.inl rfl) q,⟨o,k _ _ (.inl rfl) e⟩,st⟩
theorem iX.lt(x:iX P w H h)(e:H a=some o):a<h.objs.size:=(x a o e).lt
theorem iX.fresh(x:iX P w H h)(e:h.objs.size<=a):H a=none:=by
 cases q:H a with
 |none=>rfl
 |some u=>exact absurd (Mg (x.lt q) e) (Nc _)
theorem iX.kept(x:iX P w H h)(k:∀b u,h.get? b=some u->h'.get? b=some u):iX P w H h':=λa o e=>
 (x a o e).vG (λb u _ q=>k b u q) (λ_ q=>q) λ_ _ q=>q
theorem iX.laid(x:iX P w H h)(k:∀b u,h.get? b=some u->h'.get? b=some u)(g:h.objs.size<=a)(d:cv P w (upd H a o) h' a o):iX P w (upd H a o) h':=λb u e=>by
 have hn:=x.fresh g;by_cases f:b=a
 ·subst f;rw[ae]at e;cases e;exact d
 ·rw[ak f]at e
  exact(x b u e).vG (λc v _ q=>k c v q) (λc q=>by rw[ak (aM q hn)];exact q) λc xs q=>by rw[ak (aM q hn)];exact q
def Rd(H:Hp)(a:B3)(u:HO):Prop:=H a=some u∨∃o,H a=some (.frz o u)
theorem Rd.ok{u:HO}(r:Rd H a u)(x:iX P w H h):cv P w H h a u:=by
 rcases r with r|⟨o,r⟩
 ·exact x a u r
 ·obtain⟨_,q⟩:=x a _ r;exact q
def Jj:Option HO->Prop
 |some (.lst _)=>True
 |some (.dK _)=>True
 |some (.dT _)=>True
 |some (.set _ _)=>True
 |some (.ins _ _ _)=>True
 |some (.ext _)=>True
 |_=>False
section
variable{x e:B3}{o':HO}
theorem iX.write(ok:iX P w H h)(g:Jj (H x))(he:e=x∨H e=some (.own x))(k:∀b u,b≠e->h.get? b=some u->h'.get? b=some u)(l:∃u,h'.get? e=some u)(j:cv P w (upd H x o') h' x o'):iX P w (upd H x o') h':=λb u q=>by
 have d:∀c y,H c=some (.own y)->c≠x:=λc y r z=>by subst z;rw[r]at g;exact g
 have f:∀c xs,H c=some (.tup xs)->c≠x:=λc xs r z=>by subst z;rw[r]at g;exact g
 by_cases i:b=x
 ·subst i;rw[ae]at q;cases q;exact j
 ·rw[ak i]at q;by_cases a:b=e
  ·have m:H b=some (.own x):=by
    rcases he with z|z
    ·exact absurd (a.trans z) i
    ·rw[a];exact z
   rw[q]at m;cases m;obtain⟨v,n⟩:=l;exact⟨v,by rw[a];exact n⟩
  ·refine(ok b u q).vG (λc v hc r=>k c v ?_ r) (λc r=>by rw[ak (d c b r)];exact r) λc xs r=>by rw[ak (f c xs r)];exact r
   rcases hc with rfl|hc
   ·exact a
   ·rintro rfl
    rcases he with z|z
    ·exact d c b hc z
    ·rw[hc]at z;cases z;exact i rfl
end
structure Un(fs ex:List B3)(H H':Hp)(h h':MP):Prop where
 keep:∀b o,h.get? b=some o->H b=none->b∉fs->b∉ex->h'.get? b=some o
 slot:∀b o,h.get? b=some o->H b=none->b∈fs->b∉ex->∃sl,h'.get? b=some {o with slots:=sl}
 free:∀b o,h.get? b=some o->H b=none->b∉ex->H' b=none
 there:∀b o,h.get? b=some o->b∉ex->∃o',h'.get? b=some o'
 tups:∀b xs,H b=some (.tup xs)->H' b=some (.tup xs)
 frzs:∀b o u,H b=some (.frz o u)->H' b=some (.frz o u)
 tbls:∀b ps,H b=some (.tbl ps)->∃more,H' b=some (.tbl (ps++more))
section
variable{fs fs' ex ex':List B3}{H1 H2:Hp}{h1 h2:MP}{x e:B3}
theorem Un.any(u:Un fs ex H H1 h h1){a:Obj}(q:h.get? b=some a)(n:H b=none)(hx:b∉ex):∃sl,h1.get? b=some {a with slots:=sl}:=by
 by_cases c:b∈fs
 ·exact u.slot b a q n c hx
 ·exact⟨a.slots,u.keep b a q n c hx⟩
theorem Un.kept(k:∀b u,h.get? b=some u->h'.get? b=some u):Un fs ex H H h h':=
 ⟨λb a q _ _ _=>k b a q,λb a q _ _ _=>⟨a.slots,k b a q⟩,λ_ _ _ n _=>n,λb a q _=>⟨a,k b a q⟩,λ_ _ q=>q,λ_ _ _ q=>q,λ_ ps q=>⟨#[],by rw[q];simp⟩⟩
theorem Un.refl:Un fs ex H H h h:=Un.kept λ_ _ q=>q
theorem Un.laid(k:∀b u,h.get? b=some u->h'.get? b=some u)(c:h.objs.size<=a)(hn:H a=none):Un fs ex H (upd H a o) h h' where
 keep:=λb u q _ _ _=>k b u q
 slot:=λb u q _ _ _=>⟨u.slots,k b u q⟩
 free:=λb u q n _=>by rw[ak (LV (Mg (De q) c))];exact n
 there:=λb u q _=>⟨u,k b u q⟩
 tups:=λb xs q=>by rw[ak (aM q hn)];exact q
 frzs:=λb u xs q=>by rw[ak (aM q hn)];exact q
 tbls:=λb ps q=>⟨#[],by rw[ak (aM q hn),q];simp⟩
theorem Un.write(c:Jj (H x))(he:e=x∨H e=some (.own x))(k:∀b u,b≠e->h.get? b=some u->h'.get? b=some u)(d:∃u,h'.get? e=some u):Un fs ex H (upd H x o) h h':=by
 have hx:∀b,H b=none->b≠x:=λb n z=>by subst z;rw[n]at c;exact c
 have f:∀b,H b=none->b≠e:=λb n z=>by
  subst z
  rcases he with r|r
  ·exact hx b n r
  ·rw[n]at r;cases r
 have hm:∀b u,H b=some u->¬Jj (some u)->b≠x:=λb u q nm z=>by subst z;rw[q]at c;exact nm c
 refine⟨λb u q n _ _=>k b u (f b n) q,λb u q n _ _=>⟨u.slots,k b u (f b n) q⟩,λb u q n _=>by rw[ak (hx b n)];exact n,λb u q _=>?_,
  λb xs q=>by rw[ak (hm b _ q λz=>z)];exact q,λb u xs q=>by rw[ak (hm b _ q λz=>z)];exact q,λb ps q=>⟨#[],by rw[ak (hm b _ q λz=>z),q];simp⟩⟩
 by_cases a:b=e
 ·subst a;exact d
 ·exact⟨u,k b u a q⟩
end
def JP(h:MP)(H:Hp):List B3:=(Me h.objs.size).filter λa=>(H a).isSome
def qB(h:MP)(H:Hp):MP:=PySem.W.hideAll h (JP h H)
theorem yu(h:MP)(H:Hp):(qB h H).objs.size=h.objs.size:=PySem.W.hideAll_size _ _
theorem zE{o:Obj}(e:h.get? b=some o)(n:H b=none):(qB h H).get? b=some o:=
 PySem.W.hideAll_get _ e λhm=>by
  have q:(H b).isSome=true:=(List.mem_filter.mp hm).2;rw[n]at q;simp at q
theorem Ep{o:Obj}(e:(qB h H).get? b=some o):h.get? b=some o/\H b=none:=by
 have a:h.get? b=some o:=PySem.W.of_hideAll (JP h H) e;refine⟨a,?_⟩
 cases q:H b with
 |none=>rfl
 |some x=>
  have hm:b∈JP h H:=List.mem_filter.mpr ⟨List.mem_range.mpr (De a),by simp[q]⟩;have z:(qB h H).get? b=none:=PySem.W.hideAll_none (JP h H) hm;rw[z]at e;cases e
structure Mod(K:mo)(mg:Str->Option B5)(base:MP):Prop where
 kin:K.In base
 glob:base.Ns L4 mg
 blt:∃mb,base.Ns Sj mb/\∀x:Str,x≠"__name__"->mb x=NK x
 nolimit:base.NoLimit
structure Cx where
 prog:MA
 w:MM
 K:mo
 mg:Str->Option B5
 base:MP
 A:Of
 N:List Str
 s₀:FS
 H₀:Hp
 env:Env
 outer:List Env
 stack:List Env
 ex:List B3
 fn:Str->Bool
 calm:Bool
 pn:List (B3×Obj)
 xe:B5->FS->Prop
def Aj(l:List Env):List B3:=l.filterMap (·.frame)
abbrev Cx.fs(X:Cx):List B3:=Aj X.outer
def Kd(sc:OD)(x:Str):Prop:=sc.names.lookup x=some .local∨sc.names.lookup x=some .cell∨sc.names.lookup x=some .free
def Loc(sc:OD)(x:Str):Prop:=sc.names.lookup x=some .local∨sc.names.lookup x=some .cell
def Look(env:Env)(h:MP)(m:Str->Option B5)(x:Str)(u:B5):Prop:=
 (env.kindOf x=some .local/\m x=some u)∨((env.kindOf x=some .cell∨env.kindOf x=some .free)/\∃c,env.cells.lookup x=some c/\h.IsCell c (some u))
structure Cx.Ok(X:Cx):Prop where
 mod:Mod X.K X.mg X.base
 kind:X.env.scope.kind= .function
 glob:X.env.globals=L4
 blt:X.env.builtins=Sj
 above:X.s₀.heap.objs.size<=X.env.locals
 inj:∀x y c,X.env.cells.lookup x=some c->X.env.cells.lookup y=some c->x=y
 has:∀x,(X.env.kindOf x=some .cell∨X.env.kindOf x=some .free)->∃c,X.env.cells.lookup x=some c
 cab:∀x c,X.fn x=true->X.env.cells.lookup x=some c->X.s₀.heap.objs.size<=c
 hd:X.calm=true->X.A.handled=none
 frames:X.A.frames=some X.stack
 stk:X.stack=X.outer∨(X.stack=X.env::X.outer/\X.env.frame=some X.env.locals)
 exf:∀b∈X.ex,b≠X.env.locals/\∀x c,X.env.cells.lookup x=some c->c≠b
 bs:∀b o,X.base.get? b=some o->X.s₀.heap.get? b=some o/\X.H₀ b=none
 bsz:X.base.objs.size<=X.s₀.heap.objs.size
 noex:∀b o,X.base.get? b=some o->b∉X.ex
 exfs:∀b∈X.ex,b∉X.fs
 jj:X.s₀.heap.FunFrames X.base X.outer
 frf:∀b∈X.fs,X.H₀ b=none
structure Inv(X:Cx)(pins:List (B3×Obj))(σ:List (Option V))(H:Hp)(s:FS):Prop where
 ok:X.Ok
 os:s.os=X.s₀.os
 bare:Po s.gens
 base:Un X.fs X.ex X.H₀ H X.s₀.heap s.heap
 loc:∃m,s.heap.Ns X.env.locals m/\∀(i:Nat)(x:Str)(v:V),X.N[i]? =some x->σ[i]? =some (some v)->Kd X.env.scope x->∃u,RelV v u/\Look X.env s.heap m x u
 cell:∀x c,X.env.cells.lookup x=some c->∃v,s.heap.IsCell c v
 free:H X.env.locals=none
 freeC:∀x c,X.env.cells.lookup x=some c->H c=none
 pin:∀p∈X.pn++pins,s.heap.get? p.1=some p.2/\H p.1=none/\p.1≠X.env.locals/\p.1∉X.fs/\∀v,p.2.data≠ .cell v
 hok:iX X.prog X.w H s.heap
 len:σ.length=X.N.length
variable{X:Cx}
section
variable{σ:List (Option V)}
theorem Cx.Ok.Ks(ok:X.Ok){o:Obj}(e:X.base.get? b=some o):b∉X.fs:=λa=>by
 have :=(ok.jj.mem a).1;rw[e]at this;cases this
theorem Inv.bs(I:Inv X pins σ H s):∀b o,X.base.get? b=some o->s.heap.get? b=some o/\H b=none:=λb o e=>
 ⟨I.base.keep b o (I.ok.bs b o e).1 (I.ok.bs b o e).2 (I.ok.Ks e) (I.ok.noex b o e),I.base.free b o (I.ok.bs b o e).1 (I.ok.bs b o e).2 (I.ok.noex b o e)⟩
theorem Inv.bk(I:Inv X pins σ H s):∀b o,X.base.get? b=some o->s.heap.get? b=some o:=λb o e=>(I.bs b o e).1
theorem Inv.mod(I:Inv X pins σ H s):Mod X.K X.mg X.base:=I.ok.mod
theorem Inv.ku(I:Inv X pins σ H s):X.K.In s.heap:=I.ok.mod.kin.keeps I.bk
theorem Inv.lt(I:Inv X pins σ H s):X.env.locals<s.heap.objs.size:=let⟨_,hn,_⟩:=I.loc;hn.lt
theorem Inv.sz(I:Inv X pins σ H s):X.s₀.heap.objs.size<=s.heap.objs.size:=Mu I.ok.above (Qm I.lt)
theorem Inv.KL(I:Inv X pins σ H s)(h:s.heap.objs.size<=a):a∉X.fs:=λb=>by
 obtain⟨_,o,c,_⟩:=I.ok.jj.mem b;exact absurd (Mg (De c) (Mu I.sz h)) (Nc _)
theorem Inv.FJ(I:Inv X pins σ H s):∀x c,X.env.cells.lookup x=some c->c≠X.env.locals:=λx c e z=>by
 obtain⟨v,o,d,hd⟩:=I.cell x c e;obtain⟨m,⟨o',es,ep,b,a,_⟩,_⟩:=I.loc;rw[z,b]at d;cases d;rw[a]at hd;cases hd
theorem Inv.jj(I:Inv X pins σ H s):s.heap.FunFrames X.base X.outer:=by
 have all:∀(l:List Env),(∀b∈Aj l,b∈X.fs)->X.s₀.heap.FunFrames X.base l->s.heap.FunFrames X.base l:=by
  intro l
  induction l with
  |nil=>intro _ _;trivial
  |cons env r g=>
   intro f hl;obtain⟨i,⟨L,o,c,hn,h,hd⟩,j⟩:=hl;have a:L∈X.fs:=f L (by unfold Aj;rw[P1,c];exact Do);obtain⟨sl,e⟩:=I.base.slot L o h (I.ok.frf L a) a λz=>I.ok.exfs L z a;exact⟨i,⟨L,_,c,hn,e,hd⟩,g (λb d=>f b (by unfold Aj;rw[P1,c];exact GE _ d)) j⟩
 exact all X.outer (λ_ d=>d) I.ok.jj
theorem Inv.stack(I:Inv X pins σ H s):s.heap.FunFrames X.base X.stack:=by
 rcases I.ok.stk with e|⟨e,a⟩
 ·rw[e];exact I.jj
 ·rw[e];obtain⟨m,hn,_⟩:=I.loc;refine .cons (by rw[I.ok.kind];decide) a hn ?_ I.jj;exact Heap.get?_none_of_le (Mu I.ok.bsz I.ok.above)
theorem Inv.qw(I:Inv X pins σ H s):∀b∈Aj X.stack,b∈X.env.locals::X.fs:=λb a=>by
 rcases I.ok.stk with e|⟨e,c⟩
 ·rw[e]at a;exact GE _ a
 ·rw[e]at a;unfold Aj at a;rw[P1,c]at a;exact a
theorem Inv.xn(I:Inv X pins σ H s):∀b∈Aj X.stack,H b=none:=λb hb=>by
 rcases List.mem_cons.mp (I.qw b hb)with e|hb
 ·rw[e];exact I.free
 ·obtain⟨_,o,a,_⟩:=I.ok.jj.mem hb;exact I.base.free b o a (I.ok.frf b hb) λz=>I.ok.exfs b z hb
theorem Inv.step(I:Inv X pins σ H s)(f:∀b∈ch,(b∈X.ex∨X.s₀.heap.objs.size<=b)/\b≠X.env.locals/\(∀x c,X.env.cells.lookup x=some c->c≠b)/\∀p∈X.pn++pins,p.1≠b)(keep:∀b o,b≠X.env.locals->b∉X.fs->b∉ch->s.heap.get? b=some o->H b=none->h'.get? b=some o)(slot:∀b o,b≠X.env.locals->b∈X.fs->b∉ch->s.heap.get? b=some o->H b=none->∃sl,h'.get? b=some {o with slots:=sl})(free:∀b o,b∉ch->s.heap.get? b=some o->H b=none->H' b=none)(there:∀b o,b∉ch->s.heap.get? b=some o->∃o',h'.get? b=some o')(tups:∀b xs,H b=some (.tup xs)->H' b=some (.tup xs))(frzs:∀b o u,H b=some (.frz o u)->H' b=some (.frz o u))(tbls:∀b ps,H b=some (.tbl ps)->∃more,H' b=some (.tbl (ps++more)))(ns:∀m,s.heap.Ns X.env.locals m->h'.Ns X.env.locals m)(hok:iX X.prog X.w H' h')(J:Po g'):
  Inv X pins σ H' {s with heap:=h',gens:=g',drawn:=d',toks:=t'}:=by
 have B:∀b o,X.s₀.heap.get? b=some o->b≠X.env.locals:=λb o e=>LV (Mg (De e) I.ok.above)
 have j:∀b o,X.s₀.heap.get? b=some o->b∉X.ex->b∉ch:=λb o e hx t=>by
  rcases(f b t).1 with z|z
  ·exact hx z
  ·exact absurd (Mg (De e) z) (Nc _)
 have a:∀x c,X.env.cells.lookup x=some c->∀v,s.heap.IsCell c v->h'.IsCell c v:=λx c e v ⟨o,y,hd⟩=>by
  have g:c∉ch:=λz=>(f c z).2.2.1 x c e rfl;by_cases F:c∈X.fs
  ·obtain⟨sl,q⟩:=slot c o (I.FJ x c e) F g y (I.freeC x c e);exact⟨_,q,hd⟩
  ·exact⟨o,keep c o (I.FJ x c e) F g y (I.freeC x c e),hd⟩
 refine⟨I.ok,I.os,J,⟨λb o e n t hx=>?_,λb o e n t hx=>?_,λb o e n hx=>?_,λb o e hx=>?_,λb xs e=>tups b xs (I.base.tups b xs e),λb o xs e=>frzs b o xs (I.base.frzs b o xs e),λb ps e=>?_⟩,?_,λx c e=>?_,?_,λx c e=>?_,λp E=>?_,hok,I.len⟩
 ·exact keep b o (B b o e) t (j b o e hx) (I.base.keep b o e n t hx) (I.base.free b o e n hx)
 ·obtain⟨sl,h⟩:=I.base.slot b o e n t hx;obtain⟨C,A⟩:=slot b _ (B b o e) t (j b o e hx) h (I.base.free b o e n hx);exact⟨C,A⟩
 ·obtain⟨o',h⟩:=I.base.there b o e hx;exact free b o' (j b o e hx) h (I.base.free b o e n hx)
 ·obtain⟨o',h⟩:=I.base.there b o e hx;exact there b o' (j b o e hx) h
 ·obtain⟨K,h⟩:=I.base.tbls b ps e;obtain⟨G,A⟩:=tbls b _ h;exact⟨K++G,by rw[A,Nu]⟩
 ·obtain⟨m,hn,hl⟩:=I.loc;refine⟨m,ns m hn,λi x v h A L=>?_⟩;obtain⟨u,r,l⟩:=hl i x v h A L;refine⟨u,r,?_⟩
  rcases l with l|⟨k,c,e,z⟩
  ·exact .inl l
  ·exact .inr ⟨k,c,e,a x c e _ z⟩
 ·obtain⟨v,z⟩:=I.cell x c e;exact⟨v,a x c e v z⟩
 ·obtain⟨m,⟨o,_,_,y,_⟩,_⟩:=I.loc;exact free _ o (λz=>(f _ z).2.1 rfl) y I.free
 ·obtain⟨v,o,y,hd⟩:=I.cell x c e;exact free c o (λz=>(f c z).2.2.1 x c e rfl) y (I.freeC x c e)
 ·obtain⟨e,n,ne,D,d⟩:=I.pin p E;have g:p.1∉ch:=λz=>(f p.1 z).2.2.2 p E rfl;exact⟨keep p.1 p.2 ne D g e n,free p.1 p.2 g e n,ne,D,d⟩
theorem Inv.un(I:Inv X pins σ H s)(u:Un X.fs [] H H' s.heap h')(hok:iX X.prog X.w H' h'):Inv X pins σ H' {s with heap:=h',toks:=t'}:=by
 obtain⟨m,⟨o,es,ep,g,r⟩,_⟩:=id I.loc;obtain⟨sl,h⟩:=u.any g I.free (by simp)
 exact I.step (g':=s.gens) (d':=s.drawn) (ch:=[]) (λ_ z=>nomatch z) (λb o _ f _ e n=>u.keep b o e n f (by simp)) (λb o _ f _ e n=>u.slot b o e n f (by simp)) (λb o _ e n=>u.free b o e n (by simp)) (λb o _ e=>u.there b o e (by simp)) u.tups u.frzs u.tbls (λi hm=>by
  obtain⟨o',d,c,a,r'⟩:=hm;rw[g]at a;cases a
  exact⟨_,d,c,h,r'⟩) hok I.bare
theorem Inv.call(I:Inv X pins σ H s)(u:Un (Aj X.stack) ch H H' s.heap h')(hok:iX X.prog X.w H' h')(k:Po g')(d:∀b∈ch,(b∈X.ex∨X.s₀.heap.objs.size<=b)/\b≠X.env.locals/\(∀x c,X.env.cells.lookup x=some c->c≠b)/\∀p∈X.pn++pins,p.1≠b):
  Inv X pins σ H' {s with heap:=h',gens:=g',drawn:=d',toks:=t'}:=by
 obtain⟨m,⟨o,es,ep,j,r⟩,_⟩:=id I.loc;obtain⟨sl,i⟩:=u.any j I.free λz=>(d _ z).2.1 rfl
 exact I.step (ch:=ch) d (λb o i l a e n=>u.keep b o e n (λz=>(List.mem_cons.mp (I.qw b z)).elim i l) a) (λb o _ _ a e n=>u.any e n a) (λb o a e n=>u.free b o e n a) (λb o a e=>u.there b o e a) u.tups u.frzs u.tbls (λq hm=>by
  obtain⟨o',h,g,f,r'⟩:=hm;rw[j]at f;cases f
  exact⟨_,h,g,i,r'⟩) hok k
theorem Inv.turned(I:Inv X pins σ H s)(k:∀b o,b≠it->s.heap.get? b=some o->h'.get? b=some o)(hn:H it=none)(f:it≠X.env.locals)(h1:it∈X.ex∨X.s₀.heap.objs.size<=it)(h2:∀x c,X.env.cells.lookup x=some c->c≠it)(h:∀p∈X.pn++pins,p.1≠it):Inv X pins σ H {s with heap:=h',toks:=t'}:=by
 have d:∀b u,H b=some u->b≠it:=λb u e z=>by rw[z,hn]at e;cases e
 refine I.step (g':=s.gens) (d':=s.drawn) (ch:=[it]) (λb i=>?_) (λb o _ _ a e _=>k b o (λz=>a (by simp[z])) e) (λb o _ _ a e _=>⟨o.slots,k b o (λz=>a (by simp[z])) e⟩) (λ_ _ _ _ n=>n)
  (λb o a e=>⟨o,k b o (λz=>a (by simp[z])) e⟩) (λ_ _ e=>e) (λ_ _ _ e=>e) (λb ps e=>⟨#[],by rw[e];simp⟩) (λm hm=>?_) (λb u e=>?_) I.bare
 ·have e:b=it:=by simpa using i
  subst e;exact⟨h1,f,h2,h⟩
 ·obtain⟨o,es,ep,g,r⟩:=hm;exact⟨o,es,ep,k _ o (Da f) g,r⟩
 ·refine(I.hok b u e).vG (λc v a q=>k c v ?_ q) (λ_ q=>q) λ_ _ q=>q
  rcases a with z|z
  ·rw[z];exact d b u e
  ·exact d c _ z
theorem Inv.tok(I:Inv X pins σ H s)(t:Nat):Inv X pins σ H {s with toks:=t}:=I.un (h':=s.heap) (t':=t) Un.refl I.hok
theorem Inv.kept(I:Inv X pins σ H s)(k:∀b u,s.heap.get? b=some u->h'.get? b=some u):Inv X pins σ H {s with heap:=h',toks:=t'}:=I.un (Un.kept k) (I.hok.kept k)
theorem Inv.laid(I:Inv X pins σ H s)(k:∀b u,s.heap.get? b=some u->h'.get? b=some u)(c:s.heap.objs.size<=a)(d:cv X.prog X.w (upd H a o) h' a o):
  Inv X pins σ (upd H a o) {s with heap:=h',toks:=t'}:=I.un (Un.laid k c (I.hok.fresh c)) (I.hok.laid k c d)
theorem Inv.write{x e:B3}(I:Inv X pins σ H s)(d:Jj (H x))(he:e=x∨H e=some (.own x))(k:∀b u,b≠e->s.heap.get? b=some u->h'.get? b=some u)(a:∃u,h'.get? e=some u)(c:cv X.prog X.w (upd H x o) h' x o):Inv X pins σ (upd H x o) {s with heap:=h',toks:=t'}:=I.un (Un.write d he k a) (I.hok.write d he k a c)
theorem Inv.xk{a:List (B3×Obj)}(I:Inv X pins σ H s)(h:∀p∈a,s.heap.get? p.1=some p.2/\H p.1=none/\p.1≠X.env.locals/\p.1∉X.fs/\∀v,p.2.data≠ .cell v):Inv X a σ H s:=
 ⟨I.ok,I.os,I.bare,I.base,I.loc,I.cell,I.free,I.freeC,λp b=>(List.mem_append.mp b).elim (λz=>I.pin p (NB _ z)) (h p),I.hok,I.len⟩
theorem sY(c:N.Nodup)(a:N[i]? =some x)(b:N[j]? =some x):i=j:=by
 obtain⟨h1,d⟩:=List.getElem?_eq_some_iff.mp a;obtain⟨h2,e⟩:=List.getElem?_eq_some_iff.mp b;exact(List.getElem_inj c).mp (d.trans e.symm)
theorem oI{Q:Unit->FS->Prop}(I:Inv X pins σ H s)(hN:X.N.Nodup)(hi:X.N[i]? =some x)(hx:Loc X.env.scope x)(r:RelV v u)(h:∀s',Inv X pins (σ.set i (some v)) H s'->(∃a,Nn a s.heap s'.heap/\(a=X.env.locals∨X.env.cells.lookup x=some a))->Q () s')(hf:X.fn x=true∨X.env.scope.names.lookup x=some .local:=by first|exact .inl rfl|exact .inr rfl|assumption):IR M A (storeName X.env x u) Q E s:=by
 obtain⟨m,hn,hl⟩:=id I.loc
 have J:(X.env.scope.kind== .class||(X.env.scope.kind== .module&&X.env.locals !=X.env.globals))=false:=by rw[I.ok.kind];rfl
 have C:i<σ.length:=by rw[I.len];exact(List.getElem?_eq_some_iff.mp hi).1
 have FJ:=I.FJ
 have l:∀{a:B3}{h':MP},(∃o,s.heap.get? a=some o/\H a=none)->Nn a s.heap h'->iX X.prog X.w H h':=λ{a h'} ha f b ob e=>by
  obtain⟨_,_,t⟩:=ha;refine(I.hok b ob e).vG (λc R hc q=>(f.2 c ?_).trans q) (λ_ q=>q) λ_ _ q=>q;rintro rfl
  rcases hc with rfl|hc
  ·rw[t]at e;cases e
  ·rw[t]at hc;cases hc
 rcases hx with hk|hk
 ·refine wpAny_storeName_local hk hn (λh' V f=>?_) J;obtain⟨oL,_,_,Z,_⟩:=id hn;refine h _ ⟨I.ok,I.os,I.bare,⟨λb o e n G hx=>?_,λb o e n G hx=>?_,I.base.free,λb o e hx=>?_,I.base.tups,I.base.frzs,I.base.tbls⟩,⟨_,V,λj y Y g B e3=>?_⟩,λy c e=>?_,I.free,I.freeC,λp W=>?_,l ⟨oL,Z,I.free⟩ f,by simpa using I.len⟩ ⟨_,f,.inl rfl⟩
  ·exact(f.2 b (LV (Mg (De e) I.ok.above))).trans (I.base.keep b o e n G hx)
  ·obtain⟨sl,g⟩:=I.base.slot b o e n G hx;exact⟨sl,(f.2 b (LV (Mg (De e) I.ok.above))).trans g⟩
  ·obtain⟨o',g⟩:=I.base.there b o e hx;exact⟨o',(f.2 b (LV (Mg (De e) I.ok.above))).trans g⟩
  ·by_cases F:j=i
   ·subst F;rw[hi]at g;cases g;rw[RL C]at B
    cases B
    exact⟨u,r,.inl ⟨hk,by simp⟩⟩
   ·rw[R7 (Da F)]at B;obtain⟨U,r',q⟩:=hl j y Y g B e3;refine⟨U,r',?_⟩
    rcases q with⟨k,e⟩|⟨k,c,e,z⟩
    ·refine .inl ⟨k,?_⟩;have :y≠x:=λe=>F (sY hN g (e▸hi));simp[this,e]
    ·exact .inr ⟨k,c,e,z.sameBut f (FJ y c e)⟩
  ·obtain⟨R,z⟩:=I.cell y c e;exact⟨R,z.sameBut f (FJ y c e)⟩
  ·obtain⟨e,n,ne,T,d⟩:=I.pin p W;exact⟨(f.2 p.1 ne).trans e,n,ne,T,d⟩
 ·have D:X.fn x=true:=by
   rcases hf with z|z
   ·exact z
   ·rw[z]at hk;cases hk
  obtain⟨c,hc⟩:=I.ok.has x (.inl hk);obtain⟨R,z⟩:=I.cell x c hc;refine wpAny_storeName_cell I.ok.kind hk hc z (λh' O f=>?_);obtain⟨oc,K,P⟩:=id z;refine h {s with heap:=h'} ⟨I.ok,I.os,I.bare,⟨λb o e n G hx=>?_,λb o e n G hx=>?_,I.base.free,λb o e hx=>?_,I.base.tups,I.base.frzs,I.base.tbls⟩,⟨m,hn.sameBut f (Da (FJ x c hc)),λj y Y g B e3=>?_⟩,λy S e=>?_,I.free,I.freeC,λp W=>?_,l ⟨oc,K,I.freeC x c hc⟩ f,by simpa using I.len⟩ ⟨c,f,.inr hc⟩
  ·exact(f.2 b (LV (Mg (De e) (I.ok.cab x c D hc)))).trans (I.base.keep b o e n G hx)
  ·obtain⟨sl,g⟩:=I.base.slot b o e n G hx;exact⟨sl,(f.2 b (LV (Mg (De e) (I.ok.cab x c D hc)))).trans g⟩
  ·obtain⟨o',g⟩:=I.base.there b o e hx;exact⟨o',(f.2 b (LV (Mg (De e) (I.ok.cab x c D hc)))).trans g⟩
  ·by_cases F:j=i
   ·subst F;rw[hi]at g;cases g;rw[RL C]at B
    cases B
    exact⟨u,r,.inr ⟨.inl hk,c,hc,O⟩⟩
   ·rw[R7 (Da F)]at B;obtain⟨U,r',q⟩:=hl j y Y g B e3;refine⟨U,r',?_⟩
    rcases q with q|⟨k,S,e,z'⟩
    ·exact .inl q
    ·refine .inr ⟨k,S,e,z'.sameBut f ?_⟩;rintro rfl;exact F (sY hN g (I.ok.inj _ _ _ e hc▸hi))
  ·by_cases L:S=c
   ·subst L;exact⟨_,O⟩
   ·obtain⟨w2,z2⟩:=I.cell y S e;exact⟨w2,z2.sameBut f L⟩
  ·obtain⟨e,n,ne,T,d⟩:=I.pin p W;refine⟨(f.2 p.1 ?_).trans e,n,ne,T,d⟩;intro q;rw[q,K]at e;have q':oc=p.2:=L6 e;exact d R (by rw[<-q'];exact P)
theorem su{Q:Unit->FS->Prop}(I:Inv X pins σ H s)(b:X.N.Nodup)(hi:X.N[i]? =some x)(hx:Loc X.env.scope x)(r:RelV v u)(h:∀s',Inv X pins (σ.set i (some v)) H s'->Q () s')(c:X.fn x=true∨X.env.scope.names.lookup x=some .local:=by first|exact .inl rfl|exact .inr rfl|assumption):IR M A (storeName X.env x u) Q E s:=
 oI I b hi hx r (λs' a _=>h s' a) c
theorem Inv.Ih(I:Inv X pins σ H s)(f:s'.os=s.os)(u:Un (Aj X.stack) ch H H' s.heap s'.heap)(hok:iX X.prog X.w H' s'.heap)(d:Po s'.gens)(a:∀b∈ch,(b∈X.ex∨X.s₀.heap.objs.size<=b)/\b≠X.env.locals/\(∀x c,X.env.cells.lookup x=some c->c≠b)/\∀p∈X.pn++pins,p.1≠b):Inv X pins σ H' s':=by
 obtain⟨h',g',d',t',o'⟩:=s';have e:o'=s.os:=f;subst e;exact I.call (g':=g') (t':=t') (d':=d') u hok d a
end
abbrev XK:=B5->Option B3->Hp->Prop
abbrev St:=List (Option V)
abbrev VK:=V->Hp->Prop
abbrev TE:=St->Hp->VK->Prop
abbrev TT:=St->Hp->(Bool->Hp->Prop)->Prop
abbrev TA:=St->Hp->(List V->Hp->Prop)->Prop
structure Ends where
 nx:St->Hp->Prop
 rt:VK
 bk:St->Hp->Prop:=λ_ _=>False
 ct:St->Hp->Prop:=λ_ _=>False
abbrev TS:=Ends->St->Hp->Prop
inductive EP(X:Cx)(pins:List (B3×Obj))(σ:St)(Q:VK)(u:B5)(s':FS):Prop
 |mk (v:V) (H':Hp) (i:Inv X pins σ H' s') (r:RelV v u) (q:Q v H')
inductive TP(X:Cx)(pins:List (B3×Obj))(σ:St)(Q:Bool->Hp->Prop)(b:Bool)(s':FS):Prop
 |mk (H':Hp) (i:Inv X pins σ H' s') (q:Q b H')
inductive AP(X:Cx)(pins:List (B3×Obj))(σ:St)(Q:List V->Hp->Prop)(us:List B5)(s':FS):Prop
 |mk (vs:List V) (H':Hp) (i:Inv X pins σ H' s') (r:Vals vs us) (q:Q vs H')
inductive NX(X:Cx)(pins:List (B3×Obj))(k:St->Hp->Prop)(s':FS):Prop
 |mk (σ':St) (H':Hp) (i:Inv X pins σ' H' s') (q:k σ' H')
def SP(X:Cx)(pins:List (B3×Obj))(D:Ends)(f:Flow)(s':FS):Prop:=
 match f with
 | .next=>NX X pins D.nx s'
 | .brk=>NX X pins D.bk s'
 | .cont=>NX X pins D.ct s'
 | .ret u=>∃v σ' H',Inv X pins σ' H' s'/\RelV v u/\D.rt v H'
def PE(X:Cx)(e:Expr)(t:TE):Prop:=
 ∀(pins:List (B3×Obj))(s:FS)(σ:St)(H:Hp)(Q:VK),Inv X pins σ H s->t σ H Q->IR (L0 X.prog X.w) X.A (M3 e X.env) (EP X pins σ Q) X.xe s
def PT(X:Cx)(e:Expr)(t:TT):Prop:=
 ∀(pins:List (B3×Obj))(s:FS)(σ:St)(H:Hp)(Q:Bool->Hp->Prop),Inv X pins σ H s->t σ H Q->IR (L0 X.prog X.w) X.A (Sh e X.env (M3 e X.env)) (TP X pins σ Q) X.xe s
def PW(X:Cx)(e:Expr)(t:TT):Prop:=
 ∀(a:Sem B5)(pins:List (B3×Obj))(s:FS)(σ:St)(H:Hp)(Q:Bool->Hp->Prop),Inv X pins σ H s->t σ H Q->IR (L0 X.prog X.w) X.A (Sh e X.env a) (TP X pins σ Q) X.xe s
theorem PW.pt{t:TT}(h:PW X e t):PT X e t:=h _
def PA(X:Cx)(es:List Expr)(t:TA):Prop:=
 ∀(pos:Pos)(pins:List (B3×Obj))(s:FS)(σ:St)(H:Hp)(Q:List V->Hp->Prop),Inv X pins σ H s->t σ H Q->IR (L0 X.prog X.w) X.A (SA (NC pos (L9 es X.env))) (AP X pins σ Q) X.xe s
def PS(X:Cx)(st:Mb)(t:TS):Prop:=
 ∀(pins:List (B3×Obj))(s:FS)(σ:St)(H:Hp)(D:Ends),Inv X pins σ H s->t D σ H->IR (L0 X.prog X.w) X.A (exec st X.env) (SP X pins D) X.xe s
def u_(X:Cx)(st:List Mb)(t:TS):Prop:=
 ∀(pins:List (B3×Obj))(s:FS)(σ:St)(H:Hp)(D:Ends),Inv X pins σ H s->t D σ H->IR (L0 X.prog X.w) X.A (execs st X.env) (SP X pins D) X.xe s
theorem bW{α:Type}{t:Sem α}{Q b:α->FS->Prop}(h:IR M A t Q E s)(c:∀a s,Q a s->b a s):IR M A t b E s:=M_ h c λ_ _ x=>x
variable{σ:St}{ta te:TE}{tc:TT}{tb:TS}
section
inductive II(i:Nat)(σ:St)(H:Hp)(Q:VK):Prop
 |mk (v:_) (c0:σ[i]? =some (some v)) (c1:Q v H)
def iR(i:Nat):TE:=λσ H Q=>II i σ H Q
def tC(v:V):TE:=λ_ H Q=>Q v H
theorem Gf(j:X.N[i]? =some x)(g:Kd X.env.scope x)(hd:(x==("__debug__":Str))=false:=by decide)(d:(x==("__classdict__":Str))=false:=by decide):PE X (.Name x pos) (iR i):=by
 intro pins s σ H Q I h;obtain⟨v,e,h⟩:=h;obtain⟨m,hn,hl⟩:=I.loc;obtain⟨u,r,l⟩:=hl i x v j e g;have b:EP X pins σ Q u s:=⟨v,H,I,r,h⟩
 rcases l with⟨hk,hm⟩|⟨hk,c,f,a⟩
 ·exact Sf (wpAny_loadName_local I.ok.kind hk hn hm b) hd
 ·rcases hk with hk|hk
  ·exact Sf (wpAny_loadName_cell I.ok.kind hk f a b) hd
  ·exact Sf (wpAny_loadName_free I.ok.kind hk f a b d) hd
theorem ag{i j pos}:PE X (.Constant (.int i) j pos) (tC (.int i)):=λ_ _ _ H _ I h=>wpAny_Constant_int ⟨.int i,H,I.tok _,⟨_,rfl⟩,h⟩
theorem c_{b j pos}:PE X (.Constant (.bool b) j pos) (tC (.bl b)):=λ_ _ _ H _ I h=>Constant_bool ⟨.bl b,H,I,rfl,h⟩
theorem aq{x j pos}:PE X (.Constant (.str x) j pos) (tC (.str x)):=λ_ _ _ H _ I h=>Calls.Constant_str ⟨.str x,H,I.tok _,⟨_,rfl⟩,h⟩
def Gl(X:Cx)(x:Str):Prop:=X.env.kindOf x=some .globalImplicit
theorem qy(I:Inv X pins σ H s)(a:Gl X x)(hm:X.mg x=some u)(h:Q u s)(hd:(x==("__debug__":Str))=false:=by decide):IR (L0 X.prog X.w) X.A (M3 (.Name x pos) X.env) Q E s:=
 Q8 I.ok.kind a (Calls.loadGlobal_global (by rw[I.ok.glob];exact I.mod.glob.keeps I.bk) hm h) hd
theorem eI(I:Inv X pins σ H s)(b:Gl X x)(hm:X.mg x=none)(a:NK x=some u)(h:Q u s)(hn:x≠"__name__":=by decide)(hd:(x==("__debug__":Str))=false:=by decide):IR (L0 X.prog X.w) X.A (M3 (.Name x pos) X.env) Q E s:=by
 obtain⟨mb,h1,h2⟩:=I.mod.blt;exact Q8 I.ok.kind b (Calls.loadGlobal_builtin (by rw[I.ok.glob];exact I.mod.glob.keeps I.bk) hm (by rw[I.ok.blt];exact h1.keeps I.bk) ((h2 x hn).trans a) h) hd
theorem aU(a:Gl X x)(hm:X.mg x=some u)(r:RelV v u)(hd:(x==("__debug__":Str))=false:=by decide):PE X (.Name x pos) (tC v):=
 λ_ _ _ H _ I h=>qy I a hm ⟨v,H,I,r,h⟩ hd
theorem cC(b:Gl X x)(hm:X.mg x=none)(a:NK x=some u)(r:RelV v u)(hn:x≠"__name__":=by decide)(hd:(x==("__debug__":Str))=false:=by decide):PE X (.Name x pos) (tC v):=
 λ_ _ _ H _ I h=>eI I b hm a ⟨v,H,I,r,h⟩ hn hd
variable{a b:Expr}{tb:TE}
def PC(X:Cx)(op:CmpOp)(a b:Expr)(t:TE):Prop:=
 ∀(pins:List (B3×Obj))(s:FS)(σ:St)(H:Hp)(Q:VK),Inv X pins σ H s->t σ H Q->
  IR (L0 X.prog X.w) X.A (M3 a X.env) (λv c=>IR (L0 X.prog X.w) X.A (M3 b X.env) (λu d=>IR (L0 X.prog X.w) X.A (MR op v u) (EP X pins σ Q) X.xe d) X.xe c) X.xe s
inductive Lq(Q:Bool->Hp->Prop)(x:V)(H1:Hp):Prop
 |mk (c:_) (c0:x= .bl c) (c1:Q c H1)
def tB(t:TE):TT:=λσ H Q=>t σ H λx H1=>Lq Q x H1
theorem AW{t:TE}(h:PC X op a b t)(h1:O5 op b=false:=by first|exact nobehind _ (by decide) (by decide)|rfl):PT X (.Compare a [op] [b] pos) (tB t):=by
 intro pins s σ H Q I f;refine RU (bW (h pins s σ H _ I f) λv s1 h1=>bW h1 λu s2 h2=>bW h2 λc j ⟨x,H1,e,i,g⟩=>?_) h1;obtain⟨d,rfl,q⟩:=g
 cases i
 exact MI ⟨H1,e,q⟩
theorem bH{t:TE}(h:PE X e t)(he:∀a,Sh e X.env a=(do let v<-a;standAt e.pos;RA [v] (truthy v)):=by intro _;rfl):PT X e (tB t):=by
 intro pins s σ H Q I c;refine isTrue_plain (bW (h pins s σ H _ I c) λv s1 ⟨x,H1,b,g,f⟩=>?_) (he _);obtain⟨d,rfl,q⟩:=f
 cases g
 exact MI ⟨H1,b,q⟩
variable{tA tB':TT}{rest:List Expr}
def IU(t u:TT):TT:=λσ H Q=>t σ H λc H1=>if c=true then u σ H1 Q else Q false H1
def LI(t u:TT):TT:=λσ H Q=>t σ H λc H1=>if c=true then Q true H1 else u σ H1 Q
def Io(t:TT):TT:=λσ H Q=>t σ H λc H1=>Q (!c) H1
theorem bS(ha:PT X a tA):PW X (.BoolOp .And [a] pos) tA:=by
 intro wh pins s σ H Q I h;refine isTrue_and (bW (ha pins s σ H Q I h) λc s1 e=>?_)
 cases c with
 |true=>exact isTrue_and_nil e
 |false=>exact e
theorem jM(ha:PT X a tA):PW X (.BoolOp .Or [a] pos) tA:=by
 intro wh pins s σ H Q I h;refine isTrue_or (bW (ha pins s σ H Q I h) λc s1 e=>?_)
 cases c with
 |false=>exact isTrue_or_nil e
 |true=>exact e
theorem bY(ha:PT X a tA)(f:PW X (.BoolOp .And (b::rest) pos) tB'):PW X (.BoolOp .And (a::b::rest) pos) (IU tA tB'):=by
 intro wh pins s σ H Q I h;refine isTrue_and (bW (ha pins s σ H _ I h) λc s1 ⟨H1,d,e⟩=>?_)
 cases c with
 |true=>exact f wh pins s1 σ H1 Q d e
 |false=>exact⟨H1,d,e⟩
theorem mR(ha:PT X a tA)(f:PW X (.BoolOp .Or (b::rest) pos) tB'):PW X (.BoolOp .Or (a::b::rest) pos) (LI tA tB'):=by
 intro wh pins s σ H Q I h;refine isTrue_or (bW (ha pins s σ H _ I h) λc s1 ⟨H1,d,e⟩=>?_)
 cases c with
 |true=>exact⟨H1,d,e⟩
 |false=>exact f wh pins s1 σ H1 Q d e
theorem cZ(ha:PT X a tA):PT X (.UnaryOp .Not a pos) (Io tA):=by
 intro pins s σ H Q I h;exact isTrue_not (bW (ha pins s σ H (λc H1=>Q (!c) H1) I h) λ_ _ h=>by obtain⟨a,b,c⟩:=h;exact⟨a,b,c⟩)
def Fj(ta tb:TE):TE:=λσ H Q=>ta σ H λx H1=>∃c,x= .bl c/\if c=true then tb σ H1 Q else Q (.bl false) H1
def Jb(ta tb:TE):TE:=λσ H Q=>ta σ H λx H1=>∃c,x= .bl c/\if c=true then Q (.bl true) H1 else tb σ H1 Q
def Ij(ta:TE):TE:=λσ H Q=>ta σ H λx H1=>∃c,x= .bl c/\Q (.bl (!c)) H1
theorem bN{op}{t:TE}(h:PE X a t):PE X (.BoolOp op [a] pos) t:=λpins s σ H Q I b=>BoolOp_one (h pins s σ H Q I b)
theorem a_(ha:PE X a ta)(g:PE X (.BoolOp .And (b::rest) pos) tb):PE X (.BoolOp .And (a::b::rest) pos) (Fj ta tb):=by
 intro pins s σ H Q I h;refine BoolOp_and (bW (ha pins s σ H _ I h) λv s1 e=>?_);obtain⟨x,H1,f,i,d⟩:=e;obtain⟨c,rfl,d⟩:=d
 cases i
 refine MI ?_
 cases c with
 |true=>exact g pins s1 σ H1 Q f d
 |false=>exact⟨.bl false,H1,f,rfl,d⟩
theorem Fp(ha:PE X a ta)(g:PE X (.BoolOp .Or (b::rest) pos) tb):PE X (.BoolOp .Or (a::b::rest) pos) (Jb ta tb):=by
 intro pins s σ H Q I h;refine BoolOp_or (bW (ha pins s σ H _ I h) λv s1 e=>?_);obtain⟨x,H1,f,i,d⟩:=e;obtain⟨c,rfl,d⟩:=d
 cases i
 refine MI ?_
 cases c with
 |false=>exact g pins s1 σ H1 Q f d
 |true=>exact⟨.bl true,H1,f,rfl,d⟩
theorem uZ(ha:PE X a ta):PE X (.UnaryOp .Not a pos) (Ij ta):=by
 intro pins s σ H Q I h;refine UnaryOp_ (bW (ha pins s σ H _ I h) λv s1 b=>?_);obtain⟨x,H1,e,f,d⟩:=b;obtain⟨c,rfl,d⟩:=d
 cases f
 exact not_of (MI ⟨.bl (!c),H1,e,rfl,d⟩)
def Lm(t:TT)(ta tb:TE):TE:=λσ H Q=>t σ H λc H1=>if c=true then ta σ H1 Q else tb σ H1 Q
theorem zF(i:PT X c tA)(ha:PE X a ta)(g:PE X b tb):PE X (.IfExp c a b pos) (Lm tA ta tb):=by
 intro pins s σ H Q I h;refine wpAny_IfExp (bW (i pins s σ H _ I h) λd s1 ⟨H1,e,f⟩=>?_)
 cases d with
 |true=>exact ha pins s1 σ H1 Q e f
 |false=>exact g pins s1 σ H1 Q e f
end
def bg(K:mo)(H:Hp)(a:B3)(xs:List V):Prop:=
 Rd H a (.lst xs)∨
  ∃(o:Obj)(its:Array B5)(n:Nat),K.lookup a=some o/\o.cls= .type "list"/\o.dict=none/\o.data= .seq its n/\its.size<=sizeLine/\Vals xs its.toList
def aT(K:mo)(H:Hp)(a:B3)(xs:List V):Prop:=
 Rd H a (.tup xs)∨
  ∃(o:Obj)(its:Array B5)(n:Nat),K.lookup a=some o/\o.cls= .type "tuple"/\o.data= .seq its n/\its.size<=sizeLine/\Vals xs its.toList
def J_:B5->Option V
 | .none=>some .non
 | .bool b=>some (.bl b)
 | .int i _=>some (.int i)
 | .str x _=>some (.str x)
 | .bytes b _=>some (.byt b)
 | .float b _=>some (.flt b)
 | .ref a=>some (.ref a)
 | .type n=>some (.ty n)
 |_=>none
theorem RelV.abs{x:V}(r:RelV x u):J_ u=some x:=by
 cases x with
 |non=>cases r;rfl
 |bl _=>cases r;rfl
 |int _=>obtain⟨t,rfl⟩:=r;rfl
 |str _=>obtain⟨t,rfl⟩:=r;rfl
 |byt _=>obtain⟨t,rfl⟩:=r;rfl
 |flt _=>obtain⟨t,rfl⟩:=r;rfl
 |ref _=>cases r;rfl
 |ty _=>cases r;rfl
theorem RelV.inj{x:V}(r:RelV x u)(q:RelV y u):x=y:=L6 (r.abs.symm.trans q.abs)
theorem Vals.inj:∀{xs ys:List V}{us:List B5},Vals xs us->Vals ys us->xs=ys
 |_,_,_,.nil,.nil=>rfl
 |_,_,_,.cons r t,.cons r' t'=>by rw[r.inj r',Vals.inj t t']
section
variable{ys:List V}
theorem bg.of(h:H a=some (.lst xs)):bg K H a xs:= .inl (.inl h)
theorem aT.of(h:H a=some (.tup xs)):aT K H a xs:= .inl (.inl h)
theorem Inv.list(I:Inv X pins σ H s)(h:bg X.K H a xs):∃its:List B5,Vals xs its/\PlainL s.heap a its.toArray/\xs.length<=sizeLine:=by
 rcases h with h|⟨o,its,n,b,d,hd,c,f,r⟩
 ·obtain⟨z,its,n,r,e⟩:=h.ok I.hok;exact⟨its,r,⟨_,n,e,rfl,rfl,rfl⟩,z⟩
 ·refine⟨its.toList,r,⟨o,n,I.ku a o b,d,hd,by simpa using c⟩,?_⟩;have e:=r.length;simp only[LY]at e
  lia
theorem Inv.tuple(I:Inv X pins σ H s)(h:aT X.K H a xs):∃its:List B5,Vals xs its/\IsTup s.heap a its.toArray/\xs.length<=sizeLine:=by
 rcases h with h|⟨o,its,n,b,d,c,f,r⟩
 ·obtain⟨z,its,r,p⟩:=h.ok I.hok;exact⟨its,r,p,z⟩
 ·refine⟨its.toList,r,⟨o,I.ku a o b,d,n,by simpa using c⟩,?_⟩;have e:=r.length;simp only[LY]at e
  lia
theorem Inv.jt(I:Inv X pins σ H s)(h:bg X.K H a xs)(h':bg X.K H a ys):xs=ys:=by
 obtain⟨its,r,⟨o,n,e,_,_,d⟩,_⟩:=I.list h;obtain⟨its',r',⟨o',c,b,_,_,d'⟩,_⟩:=I.list h';rw[e]at b;cases b;rw[d]at d'
 injection d' with d1 _
 have :its=its':=by simpa using congrArg Array.toList d1
 subst this;exact r.inj r'
theorem Inv.ix(I:Inv X pins σ H s)(h:aT X.K H a xs)(h':aT X.K H a ys):xs=ys:=by
 obtain⟨its,r,⟨o,e,_,n,d⟩,_⟩:=I.tuple h;obtain⟨its',r',⟨o',b,_,c,d'⟩,_⟩:=I.tuple h';rw[e]at b;cases b;rw[d]at d'
 injection d' with d1 _
 have :its=its':=by simpa using congrArg Array.toList d1
 subst this;exact r.inj r'
end
abbrev Cx.nQ(X:Cx)(E:B5->FS->Prop):Cx:={X with xe:=E}
abbrev Cx.HB(X:Cx):Cx:=X.nQ λ_ _=>False
theorem Cx.Ok.nQ(ok:X.Ok)(E:B5->FS->Prop):(X.nQ E).Ok:=
 ⟨ok.mod,ok.kind,ok.glob,ok.blt,ok.above,ok.inj,ok.has,ok.cab,ok.hd,ok.frames,ok.stk,ok.exf,ok.bs,ok.bsz,ok.noex,ok.exfs,ok.jj,ok.frf⟩
theorem Cx.Ok.gZ(ok:(X.nQ E).Ok):X.Ok:=
 ⟨ok.mod,ok.kind,ok.glob,ok.blt,ok.above,ok.inj,ok.has,ok.cab,ok.hd,ok.frames,ok.stk,ok.exf,ok.bs,ok.bsz,ok.noex,ok.exfs,ok.jj,ok.frf⟩
theorem Inv.nQ(I:Inv X pins σ H s)(E:B5->FS->Prop):Inv (X.nQ E) pins σ H s:=⟨I.ok.nQ E,I.os,I.bare,I.base,I.loc,I.cell,I.free,I.freeC,I.pin,I.hok,I.len⟩
theorem Inv.gZ(I:Inv (X.nQ E) pins σ H s):Inv X pins σ H s:=⟨I.ok.gZ,I.os,I.bare,I.base,I.loc,I.cell,I.free,I.freeC,I.pin,I.hok,I.len⟩
theorem SP.gZ{D:Ends}{f:Flow}(h:SP (X.nQ E) pins D f s'):SP X pins D f s':=by
 cases f with
 |next=>obtain⟨σ',H',I,q⟩:=h;exact⟨σ',H',I.gZ,q⟩
 |brk=>obtain⟨σ',H',I,q⟩:=h;exact⟨σ',H',I.gZ,q⟩
 |cont=>obtain⟨σ',H',I,q⟩:=h;exact⟨σ',H',I.gZ,q⟩
 |ret u=>obtain⟨v,σ',H',I,r,q⟩:=h;exact⟨v,σ',H',I.gZ,r,q⟩
theorem u_.HB{st:List Mb}{t:TS}(h:u_ X.HB st t):u_ X st t:=λpins s σ H D I a=>
 M_ (h pins s σ H D (I.nQ _) a) (λ_ _ q=>q.gZ) λ_ _ z=>Nt z
section
variable{st:Mb}{rest:List Mb}{t u:TS}
def EY:TS:=λD σ H=>D.nx σ H
def He(t u:TS):TS:=λD σ H=>t {D with nx:=u D} σ H
theorem aC:u_ X [] EY:=λ_ _ σ H _ I h=>OO ⟨σ,H,I,h⟩
theorem ah(h1:PS X st t)(h2:u_ X rest u):u_ X (st::rest) (He t u):=by
 intro pins s σ H D I h;refine SL (bW (h1 pins s σ H {D with nx:=u D} I h) λf s1 q=>?_)
 cases f with
 |next=>
  obtain⟨σ',H',a,q⟩:=q;exact h2 pins s1 σ' H' D a q
 |ret v=>exact q
 |brk=>exact q
 |cont=>exact q
theorem ai(h1:PS X st t):u_ X [st] t:=by
 intro pins s σ H D I h;refine SL (bW (h1 pins s σ H D I h) λf s1 q=>?_)
 cases f with
 |next=>exact OO q
 |ret v=>exact q
 |brk=>exact q
 |cont=>exact q
theorem Inv.quiet(I:Inv X pins σ H s):interactive X.env=false:=by simp[interactive,I.ok.kind]
def EW(te:TE):TS:=λD σ H=>te σ H λ_ H1=>D.nx σ H1
theorem bT(he:PE X e te)(d:PX e none pos.line X.env=pure false:=by rfl):PS X (.Expr e pos) (EW te):=by
 intro pins s σ H D I h;exact wpAny_Expr_any (bW (he pins s σ H _ I h) λv s1 a=>by obtain⟨x,H1,c,f,b⟩:=a;exact⟨σ,H1,c,b⟩) I.quiet d
def Dt(te:TE):TS:=λD σ H=>te σ H D.rt
theorem au(he:PE X e te):PS X (.Return (some e) pos) (Dt te):=by
 intro pins s σ H D I h;exact wpAny_Return_some (bW (he pins s σ H _ I h) λv s1 a=>by obtain⟨x,H1,c,d,b⟩:=a;exact⟨x,σ,H1,c,d,b⟩)
def HQ(c:TT)(t u:TS):TS:=λD σ H=>c σ H λb H1=>if b=true then t D σ H1 else u D σ H1
theorem aQ{a b:List Mb}(i:PT X c tc)(ha:u_ X a t)(g:u_ X b u):PS X (.If c a b pos) (HQ tc t u):=by
 intro pins s σ H D I h;refine wpAny_If (bW (i pins s σ H _ I h) λd s1 ⟨H1,e,f⟩=>?_)
 cases d with
 |true=>exact ha pins s1 σ H1 D e f
 |false=>exact g pins s1 σ H1 D e f
def Gz:TS:=λ_ _ _=>False
theorem fc:PS X st Gz:=λ_ _ _ _ _ _ h=>h.elim
end
abbrev TG:=V->St->Hp->(St->Hp->Prop)->Prop
abbrev Ed:=List V->St->Hp->(St->Hp->Prop)->Prop
def PG(X:Cx)(a:Expr)(t:TG):Prop:=
 ∀(pins:List (B3×Obj))(s:FS)(σ:St)(H:Hp)(v:V)(u:B5)(Q:St->Hp->Prop),Inv X pins σ H s->RelV v u->t v σ H Q->
  IR (L0 X.prog X.w) X.A (O6 a X.env u) (λ_ s'=>∃σ' H',Inv X pins σ' H' s'/\Q σ' H') X.xe s
def JQ(X:Cx)(ts:List Expr)(t:Ed):Prop:=
 ∀(pins:List (B3×Obj))(s:FS)(σ:St)(H:Hp)(vs:List V)(us:List B5)(Q:St->Hp->Prop),Inv X pins σ H s->Vals vs us->t vs σ H Q->
  IR (L0 X.prog X.w) X.A (assignInOrder ((NZ ts X.env).map (·.2)) us) (λ_ s'=>∃σ' H',Inv X pins σ' H' s'/\Q σ' H') X.xe s
abbrev Fu:=V->V->V->Hp->(Hp->Prop)->Prop
def HG(X:Cx)(t:Fu):Prop:=
 ∀(pins:List (B3×Obj))(s:FS)(σ:St)(H:Hp)(o i v:V)(b a u:B5)(Q:Hp->Prop),Inv X pins σ H s->RelV o b->RelV i a->RelV v u->t o i v H Q->
  IR (L0 X.prog X.w) X.A (setItem b a u) (λ_ s'=>∃H',Inv X pins σ H' s'/\Q H') X.xe s
variable{g:TG}
def gE(i:Nat):TG:=λv σ H Q=>Q (σ.set i (some v)) H
theorem aV(b:X.N.Nodup)(hi:X.N[i]? =some x)(hx:Loc X.env.scope x)(c:X.fn x=true∨X.env.scope.names.lookup x=some .local:=by first|exact .inl rfl|exact .inr rfl|assumption):PG X (.Name x pos) (gE i):=by
 intro pins s σ H v u Q I r h;exact Sy (su I b hi hx r (λs' a=>⟨_,H,a,h⟩) c)
def JM:Ed:=λvs σ H Q=>vs=[]/\Q σ H
inductive FZ(t:TG)(u:Ed)(vs:List V)(σ:St)(H:Hp)(Q:St->Hp->Prop):Prop
 |mk (v:_) (r:_) (c0:vs=v::r) (c1:t v σ H λσ' H'=>u r σ' H' Q)
def BC(t:TG)(u:Ed):Ed:=λvs σ H Q=>FZ t u vs σ H Q
theorem fo:JQ X [] JM:=by
 intro pins s σ H vs us Q I r h;obtain⟨e,h⟩:=h;subst e
 cases r
 exact assignInOrder_nil ⟨σ,H,I,h⟩
theorem bK{t:TG}{u:Ed}(h1:PG X e t)(h2:JQ X es u)(d:(NZ (e::es) X.env).map (·.2)=O6 e X.env::(NZ es X.env).map (·.2):=by rfl):JQ X (e::es) (BC t u):=by
 intro pins s σ H vs us Q I r h;obtain⟨v,j,c,h⟩:=h;subst c
 cases r with
 |cons r g=>
  rw[d];refine assignInOrder_cons (bW (h1 pins s σ H _ _ _ I r h) λ_ s1 a=>?_);obtain⟨b,H1,f,i⟩:=a;exact h2 pins s1 b H1 _ _ Q f g i
inductive JG(K:mo)(n:Nat)(t:Ed)(v:V)(σ:St)(H:Hp)(Q:St->Hp->Prop):Prop
 |mk (a:_) (xs:_) (c0:v= .ref a) (c1:aT K H a xs) (c2:xs.length=n) (c3:t xs σ H Q)
def Jv(K:mo)(n:Nat)(t:Ed):TG:=λv σ H Q=>JG K n t v σ H Q
theorem gG{k:Nat}{t:Ed}(m:X.calm=true)(h:JQ X es t)(hn:(NZ es X.env).length=n:=by rfl)(c:(NZ es X.env).findIdx? (·.1)=none:=by rfl):PG X (.Tuple es k pos) (Jv X.K n t):=by
 intro pins s σ H v u Q I r d;obtain⟨a,xs,g,l,hl,d⟩:=d;subst g
 cases r
 obtain⟨its,f,j,p⟩:=I.tuple l;refine assign_Tuple_tuple (I.ok.hd m) j (by simp[hn,<-hl,f.length]) c λh' hx=>?_;have i:Inv X pins σ H {s with heap:=h'}:=I.kept (t':=s.toks) λb o e=>hx b o (LV (De e)) e;exact h pins _ σ H xs _ Q i (by simpa using f) d
def KC(to ti:TE)(t:Fu):TG:=λv σ H Q=>to σ H λo H1=>ti σ H1 λi H2=>t o i v H2 λH3=>Q σ H3
theorem zw{o i:Expr}{to ti:TE}{t:Fu}(e:PE X o to)(hi:PE X i ti)(d:HG X t)(ha:∀v,O6 (.Subscript o i pos) X.env v=(do
   let b<-RA [v] (M3 o X.env)
   let c<-RA [v,b] (M3 i X.env)
   standAt pos
   RA [v,b,c] (setItem b c v)
   release [v,b,c] []):=by intro _;rfl):PG X (.Subscript o i pos) (KC to ti t):=by
 intro pins s σ H v u Q I r h;rw[ha];refine B2 (NS (bW (e pins s σ H _ I h) λb s1 a=>?_));obtain⟨x,H1,m,p,f⟩:=a;refine B2 (NS (bW (hi pins s1 σ H1 _ m f) λc s2 a=>?_));obtain⟨y,H2,l,n,k⟩:=a;refine B2 (O4 (B2 (NS (bW (d pins s2 σ H2 x y v b c u _ l p n r k) λ_ q a=>?_))));obtain⟨H3,g,j⟩:=a;exact wpAny_release ⟨σ,H3,g,j⟩
def BE(te:TE)(g:TG):TS:=λD σ H=>te σ H λx H1=>g x σ H1 D.nx
theorem qm(he:PE X e te)(m:PG X tg g)(f:swapsWithSole [tg] e pos.line X.env=pure false:=by rfl)(j:swappedStores [tg] e X.env=pure none:=by rfl)(h1:(NZ [tg] X.env).map (·.2)=[O6 tg X.env]:=by rfl):PS X (.Assign [tg] e pos) (BE te g):=by
 intro pins s σ H D I h;refine wpAny_Assign_stores (bW (he pins s σ H _ I h) λv s1 ⟨x,H1,i,l,k⟩=>?_) f j;rw[h1]
 exact bW (m pins s1 σ H1 x v _ i l k) λ_ s2 q=>by obtain⟨a,b,c,d⟩:=q;exact⟨a,b,c,d⟩
theorem aJ(d:X.N.Nodup)(hi:X.N[i]? =some x)(hx:Loc X.env.scope x)(he:PE X e te)(a:PX e (some (.Name x pos')) pos.line X.env=pure false:=by rfl)(f:X.fn x=true∨X.env.scope.names.lookup x=some .local:=by first|exact .inl rfl|exact .inr rfl|assumption):
  PS X (.Assign [.Name x pos'] e pos) (BE te (gE i)):=by
 intro pins s σ H D I h;refine wpAny_Assign_Name (bW (he pins s σ H _ I h) λv s1 ⟨y,H1,c,j,g⟩=>?_) a;exact su c d hi hx j (λs2 b=>⟨_,H1,b,g⟩) f
def FG(c:TT)(tb:TS):TS:=λD σ H=>∃W:Nat->St->Hp->Prop,(∃m,W m σ H)/\∀m σ H,W m σ H->
 c σ H λb H1=>if b=true then∃N:St->Hp->Prop,(∀σ' H',N σ' H'->∃a,a<m/\W a σ' H')/\tb {D with nx:=N,ct:=N,bk:=D.nx} σ H1 else D.nx σ H1
theorem rf(p:PassesOwn (L0 X.prog X.w) X.A X.env X.xe)(x:PT X c tc)(u:u_ X body tb):PS X (.While c body [] pos) (FG tc tb):=by
 intro pins s σ H D I h;obtain⟨W,⟨r,w0⟩,e⟩:=h;refine wpAny_While (codeAny_whileLoop (λn s'=>∃σ' H',Inv X pins σ' H' s'/\W n σ' H') ?_ r ⟨σ,H,I,w0⟩);rintro n s1 ⟨d,H1,t,w1⟩;refine NP p (bW (x pins s1 d H1 _ t (e n d H1 w1)) λb s2 ⟨H2,q,i⟩=>?_)
 cases b with
 |true=>
  obtain⟨N,o,i⟩:=i;rw[if_pos rfl];refine NP p (bW (u pins s2 d H2 _ q i) λf y g=>?_)
  cases f with
  |next=>
   obtain⟨a,H3,m,k⟩:=g;obtain⟨j,hm,l⟩:=o a H3 k;exact⟨j,hm,a,H3,m,l⟩
  |cont=>
   obtain⟨a,H3,m,k⟩:=g;obtain⟨j,hm,l⟩:=o a H3 k;exact⟨j,hm,a,H3,m,l⟩
  |brk=>exact g
  |ret v=>exact g
 |false=>
  rw[if_neg GM];exact OO ⟨d,H2,q,i⟩
structure It where
 go:Nat->Hp->Prop
 yld:Nat->Hp->V->Hp->Prop
 stop:Nat->Hp->Prop
def jO(X:Cx)(pins:List (B3×Obj))(H:Hp)(b:B3):Prop:=
 H b=none/\b≠X.env.locals/\b∉X.fs/\(b∈X.ex∨X.s₀.heap.objs.size<=b)/\(∀x c,X.env.cells.lookup x=some c->c≠b)/\∀p∈X.pn++pins,p.1≠b
theorem Inv.kz(I:Inv X pins σ H s)(a:s.heap.objs.size<=b)(hn:H' b=none):jO X pins H' b:=by
 refine⟨hn,Nz (Mg I.lt a),I.KL a,.inr (Mu I.sz a),λx c e z=>?_,λp d z=>?_⟩
 ·obtain⟨v,q⟩:=I.cell x c e;exact absurd (Mg q.lt (by rw[z];exact a)) (Nc _)
 ·exact absurd (Mg (De (I.pin p d).1) (by rw[z];exact a)) (Nc _)
structure Turn(P:MA)(w:MM)(K:mo)(tg:Expr)(J:It)(fp:List B3)(it:B3)(tn:Nat->MP->Prop):Prop where
 mem:it∈fp
 obj:∀i h,tn i h->∀b∈fp,∃o,h.get? b=some o/\∀v,o.data≠ .cell v
 keep:∀i h h',tn i h->(∀b∈fp,∀o,h.get? b=some o->h'.get? b=some o)->tn i h'
 item:∀(X:Cx),X.prog=P->X.w=w->X.K=K->X.calm=true->∀(i:Nat)(pins:List (B3×Obj))(s:FS)(σ:St)(H:Hp)(E:B5->FS->Prop),Inv X pins σ H s->(∀b∈fp,jO X pins H b)->tn i s.heap->J.go i H->
  IR (L0 P w) X.A (OS (.ref it)) (λr s1=>∃u,r=some u/\
   IR (L0 P w) X.A (Pq tg (.ref it) u) (λ_ s2=>∃x H',Inv X pins σ H' s2/\RelV x u/\J.yld i H x H'/\tn (i+1) s2.heap/\∀b∈fp,H' b=none) E s1) E s
 done:∀(X:Cx),X.prog=P->X.w=w->X.K=K->X.calm=true->∀(i:Nat)(pins:List (B3×Obj))(s:FS)(σ:St)(H:Hp)(E:B5->FS->Prop),Inv X pins σ H s->(∀b∈fp,jO X pins H b)->tn i s.heap->J.stop i H->
  IR (L0 P w) X.A (OS (.ref it)) (λr s1=>r=none/\Inv X pins σ H s1) E s
 self:∀(A:Of)(i:Nat)(s:FS)(Q:B5->FS->Prop)(E:B5->FS->Prop),tn i s.heap->Q (.ref it) s->IR (L0 P w) A (pyIter (.ref it)) Q E s
abbrev TI:=St->Hp->(It->Hp->Prop)->Prop
inductive La(X:Cx)(pins:List (B3×Obj))(σ:St)(tg:Expr)(R:It->Hp->Prop)(itv:B5)(s2:FS):Prop
 |mk (it:B3) (fp:List B3) (tn:Nat->MP->Prop) (J:It) (H':Hp) (c0:itv= .ref it) (c1:Inv X pins σ H' s2) (c2:Turn X.prog X.w X.K tg J fp it tn) (c3:tn 0 s2.heap) (c4:∀b∈fp,jO X pins H' b) (c5:R J H')
def PI(X:Cx)(tg iter:Expr)(wi:TI):Prop:=
 ∀(pins:List (B3×Obj))(s:FS)(σ:St)(H:Hp)(R:It->Hp->Prop),Inv X pins σ H s->wi σ H R->
  IR (L0 X.prog X.w) X.A (M3 iter X.env) (λv s1=>IR (L0 X.prog X.w) X.A (pyIter v) (La X pins σ tg R) X.xe s1) X.xe s
theorem sF{o:Obj}{n:String}{vs:Array B5}{Q:Unit->FS->Prop}(c:s.heap.get? it=some o)(b:o.cls= .type n)(hd:o.data= .fields vs)(hn:["enumerate","zip","dict_itemiterator","dict_reverseitemiterator","odict_iterator","itertools.zip_longest","itertools.pairwise"].contains n=false)(a:Q () s):IR M A (Pq tg (.ref it) u) Q E s:=by
 unfold Pq
 cases tg<;>first
  |exact KF a
  |(cases u<;>first
    |exact KF a
    | (refine B2 (wpAny_load c ?_)
       rw[b,hd];show IR M A (if(["enumerate","zip","dict_itemiterator","dict_reverseitemiterator","odict_iterator","itertools.zip_longest","itertools.pairwise"].contains n&&vs[0]? ==some (Pi _))=true then _ else _) Q E s;rw[if_neg (by intro h;rw[hn,Bool.false_and]at h;cases h)]
       exact KF a))
def Hh(K:mo)(a:B3):It:=
 ⟨λi H=>∃xs x,bg K H a xs/\xs[i]? =some x,λi H x H'=>H'=H/\∀xs,bg K H a xs->xs[i]? =some x,λi H=>∃xs,bg K H a xs/\xs.length<=i⟩
def EU(K:mo)(a:B3):It:=
 ⟨λi H=>∃xs x,aT K H a xs/\xs[i]? =some x,λi H x H'=>H'=H/\∀xs,aT K H a xs->xs[i]? =some x,λi H=>∃xs,aT K H a xs/\xs.length<=i⟩
def Eg(lo:Int)(n:Nat):It:=⟨λi _=>i<n,λi H x H'=>H'=H/\x= .int (lo+i),λi _=>n<=i⟩
theorem ze(a it:B3):Turn P w K tg (Hh K a) [it] it (λi h=>h.IsListIter it a i) where
 mem:=by simp
 obj:=λi h st b f=>by
  have e:b=it:=by simpa using f
  subst e;obtain⟨o,e,c,d⟩:=st;exact⟨o,e,λv z=>by rw[d]at z;cases z⟩
 keep:=λi h h' st k=>st.at λo e=>k it (by simp) o e
 item:=by
  intro X q t m A i pins s σ H E I l st r;subst q t m;obtain⟨xs,x,j,hx⟩:=r;obtain⟨its,y,p,G⟩:=I.list j;obtain⟨u,L,J⟩:=y.get hx;obtain⟨n,f1,f2,f3,f4,f5⟩:=l it (by simp);refine wpAny_pyNext_list_item st p.isList (x:=u) (by simpa using L) λh' g B=>?_;have F:Inv X pins σ H {s with heap:=h'}:=I.turned (t':=s.toks) (λb o f e=>(B.2 b f).trans e) n f1 f3 f4 f5;obtain⟨o,e,c,d⟩:=id g;exact⟨u,rfl,sF (s:={s with heap:=h'}) e c d (by decide) ⟨x,H,F,J,⟨rfl,λys C=>by rw[I.jt C j];exact hx⟩,g,λb f=>(l b f).1⟩⟩
 done:=by
  intro X q t m A i pins s σ H E I l st r;subst q t m;obtain⟨xs,j,hx⟩:=r;obtain⟨its,y,p,G⟩:=I.list j;obtain⟨n,f1,f2,f3,f4,f5⟩:=l it (by simp);have hl:=y.length;exact wpAny_pyNext_list_end (I.ok.hd A) st p.isList (by simp;lia) λh' D=>⟨rfl,I.turned (t':=s.toks) (λb o f e=>D b o f e) n f1 f3 f4 f5⟩
 self:=λ_ _ _ _ _ st h=>wpAny_pyIter_listiter st h
theorem vM(a it:B3):Turn P w K tg (EU K a) [it] it (λi h=>h.IsTupleIter it a i) where
 mem:=by simp
 obj:=λi h st b f=>by
  have e:b=it:=by simpa using f
  subst e;obtain⟨o,e,c,d⟩:=st;exact⟨o,e,λv z=>by rw[d]at z;cases z⟩
 keep:=λi h h' st k=>st.at λo e=>k it (by simp) o e
 item:=by
  intro X q t m A i pins s σ H E I l st r;subst q t m;obtain⟨xs,x,j,hx⟩:=r;obtain⟨its,y,p,G⟩:=I.tuple j;obtain⟨u,L,J⟩:=y.get hx;obtain⟨n,f1,f2,f3,f4,f5⟩:=l it (by simp);refine wpAny_pyNext_tuple_item st (show s.heap.IsTuple a its.toArray from p) (x:=u) (by simpa using L) λh' g B=>?_;have F:Inv X pins σ H {s with heap:=h'}:=I.turned (t':=s.toks) (λb o f e=>(B.2 b f).trans e) n f1 f3 f4 f5;obtain⟨o,e,c,d⟩:=id g;exact⟨u,rfl,sF (s:={s with heap:=h'}) e c d (by decide) ⟨x,H,F,J,⟨rfl,λys C=>by rw[I.ix C j];exact hx⟩,g,λb f=>(l b f).1⟩⟩
 done:=by
  intro X q t m A i pins s σ H E I l st r;subst q t m;obtain⟨xs,j,hx⟩:=r;obtain⟨its,y,p,G⟩:=I.tuple j;obtain⟨n,f1,f2,f3,f4,f5⟩:=l it (by simp);have hl:=y.length;exact wpAny_pyNext_tuple_end (I.ok.hd A) st (show s.heap.IsTuple a its.toArray from p) (by simp;lia) λh' D=>⟨rfl,I.turned (t':=s.toks) (λb o f e=>D b o f e) n f1 f3 f4 f5⟩
 self:=λ_ _ _ _ _ st h=>wpAny_pyIter_tupleiter st h
theorem uB(it:B3)(lo:Int)(n:Nat):Turn P w K tg (Eg lo n) [it] it (λi h=>IsRangeIter h it (lo+(i:Nat)*1) ((n:Int)-(i:Nat)) 1) where
 mem:=by simp
 obj:=λi h st b a=>by
  have e:b=it:=by simpa using a
  subst e
  exact⟨_,st,λv z=>by
   have z':Data.fields _=Data.cell v:=z
   cases z'⟩
 keep:=λi h h' st k=>k it (by simp) _ st
 item:=by
  intro X j m f p i pins s σ H E I d st l;subst j m f;obtain⟨g,f1,f2,f3,f4,f5⟩:=d it (by simp);have W:=Walks.range (prog:=X.prog) (w:=X.w) (I.ok.hd p) it lo 1 n;refine W.item i s _ _ l st λv h' tk q c kk=>?_;obtain⟨t,rfl⟩:=q;have u:Inv X pins σ H {s with heap:=h',toks:=tk}:=I.turned (λb o a e=>kk b o (by simpa using a) e) g f1 f3 f4 f5;refine⟨_,rfl,sF (s:={s with heap:=h',toks:=tk}) (n:="range_iterator") c rfl rfl (by decide) ⟨.int (lo+i),H,u,⟨t,?_⟩,⟨rfl,rfl⟩,c,λb a=>(d b a).1⟩⟩;rw[Int.mul_one]
 done:=by
  intro X j m f p i pins s σ H E I d st l;subst j m f;obtain⟨g,f1,f2,f3,f4,f5⟩:=d it (by simp);exact wpAny_pyNext_range_end (I.ok.hd p) st (by have :n<=i:=l;lia) λh' r=>⟨rfl,I.turned (t':=s.toks) (λb o a e=>r b o a e) g f1 f3 f4 f5⟩
 self:=λ_ _ _ _ _ st h=>wpAny_pyIter_rangeiter st h
inductive FD(K:mo)(R:It->Hp->Prop)(x:V)(H1:Hp):Prop
 |mk (a:_) (c0:x= .ref a) (c1:(∃xs,bg K H1 a xs)) (c2:R (Hh K a) H1)
def Ff(K:mo)(tl:TE):TI:=λσ H R=>tl σ H λx H1=>FD K R x H1
inductive Iw(K:mo)(R:It->Hp->Prop)(x:V)(H1:Hp):Prop
 |mk (a:_) (c0:x= .ref a) (c1:(∃xs,aT K H1 a xs)) (c2:R (EU K a) H1)
def Fs(K:mo)(tl:TE):TI:=λσ H R=>tl σ H λx H1=>Iw K R x H1
theorem dg{tl:TE}(hl:PE X l tl):PI X tg l (Ff X.K tl):=by
 intro pins s σ H R I h;refine bW (hl pins s σ H _ I h) λv s1 d=>?_;obtain⟨x,H1,c,j,g⟩:=d;obtain⟨a,e,⟨xs,f⟩,q⟩:=g;subst e
 cases j
 obtain⟨its,m,p,k⟩:=c.list f;refine Sw p.isList ?_;refine⟨s1.heap.objs.size,[s1.heap.objs.size],_,_,H1,rfl,c.kept (t':=s1.toks) λb o e=>B0 _ e,ze a _,⟨_,Gc _ rfl,rfl,rfl⟩,λb i=>?_,q⟩
 have e:b=s1.heap.objs.size:=by simpa using i
 subst e;exact c.kz (B6 _) (c.hok.fresh (B6 _))
theorem eG{tl:TE}(hl:PE X l tl):PI X tg l (Fs X.K tl):=by
 intro pins s σ H R I h;refine bW (hl pins s σ H _ I h) λv s1 d=>?_;obtain⟨x,H1,c,j,g⟩:=d;obtain⟨a,e,⟨xs,f⟩,q⟩:=g;subst e
 cases j
 obtain⟨its,m,p,k⟩:=c.tuple f;refine Os (show s1.heap.IsTuple a its.toArray from p) ?_;refine⟨s1.heap.objs.size,[s1.heap.objs.size],_,_,H1,rfl,c.kept (t':=s1.toks) λb o e=>B0 _ e,vM a _,⟨_,Gc _ rfl,rfl,rfl⟩,λb i=>?_,q⟩
 have e:b=s1.heap.objs.size:=by simpa using i
 subst e;exact c.kz (B6 _) (c.hok.fresh (B6 _))
theorem sv{R:It->Hp->Prop}{hi:Int}{t u v:Tok}{tk:Nat}(I:Inv X pins σ H s)(h1: -(2^62)<=lo)(h2:lo<2^62)(g: -(2^62)<=hi)(c:hi<2^62)(q:R (Eg lo (hi-lo).toNat) H):IR (L0 X.prog X.w) X.A (pyIter (.ref s.heap.objs.size)) (La X pins σ tg R) E {s with heap:=s.heap.push {cls:= .type "range",data:= .fields #[.int lo t,.int hi u,.int 1 v]},toks:=tk}:=by
 refine wpAny_pyIter_range (IsRange.new ..) (small_one h1 h2 g c) ?_;have a:Inv X pins σ H {s with heap:=s.heap.push {cls:= .type "range",data:= .fields #[.int lo t,.int hi u,.int 1 v]},toks:=tk}:=I.kept λb o e=>B0 _ e
 refine⟨(s.heap.push {cls:= .type "range",data:= .fields #[.int lo t,.int hi u,.int 1 v]}).objs.size,[(s.heap.push {cls:= .type "range",data:= .fields #[.int lo t,.int hi u,.int 1 v]}).objs.size],_,_,H,rfl,
  a.kept (t':=tk) λb o e=>B0 _ e,uB _ lo (hi-lo).toNat,?_,λb h=>?_,q⟩
 ·have d:lo+((0:Nat):Int)*1=lo:=by simp
  have f:(((hi-lo).toNat:Nat):Int)-((0:Nat):Int)=Builtin.Range.rangeSize lo hi 1:=by rw[rangeSize_one];split<;>lia
  show IsRangeIter _ _ (lo+((0:Nat):Int)*1) ((((hi-lo).toNat:Nat):Int)-((0:Nat):Int)) 1;rw[d,f];exact Gc _ rfl
 ·have e:b=(s.heap.push {cls:= .type "range",data:= .fields #[.int lo t,.int hi u,.int 1 v]}).objs.size:=by simpa using h
  subst e;exact a.kz (B6 _) (a.hok.fresh (B6 _))
inductive Hn(R:It->Hp->Prop)(vs:List V)(H1:Hp):Prop
 |mk (j:Int) (c0:vs=[.int j]) (c1: -(2^62)<=j) (c2:j<2^62) (c3:R (Eg 0 j.toNat) H1)
def IP(ta:TA):TI:=λσ H R=>ta σ H λvs H1=>Hn R vs H1
def HK(ta:TA):TI:=λσ H R=>ta σ H λvs H1=>∃i j:Int,vs=[.int i,.int j]/\(-(2^62)<=i/\i<2^62/\ -(2^62)<=j/\j<2^62)/\R (Eg i (j-i).toNat) H1
theorem cB{a:Expr}{ta:TA}(c:Gl X "range")(hm:X.mg "range"=none)(ha:PA X [a] ta)(d:L9 [a] X.env=[(false,M3 a X.env)]:=by rfl):PI X tg (.Call (.Name "range" p) [a] [] pos) (IP ta):=by
 intro pins s σ H R I h;refine Rw (eI I c hm boot_range (Mq (bW (ha pos pins s σ H _ I h) λus s1 ⟨vs,H1,f,i,b⟩=>?_) d rfl));obtain⟨j,e,b,k,q⟩:=b;subst e
 cases i with
 |cons r g=>
  cases g
  obtain⟨t,rfl⟩:=r;exact call_range_1 (sv f (by lia) (by lia) b k (by simpa using q))
theorem oA{a b:Expr}{ta:TA}(g:Gl X "range")(hm:X.mg "range"=none)(ha:PA X [a,b] ta)(k:L9 [a,b] X.env=[(false,M3 a X.env),(false,M3 b X.env)]:=by rfl)(c:L9 [b] X.env=[(false,M3 b X.env)]:=by rfl):
  PI X tg (.Call (.Name "range" p) [a,b] [] pos) (HK ta):=by
 intro pins s σ H R I h;refine Rw (eI I g hm boot_range (Mq (bW (ha pos pins s σ H _ I h) λus s1 ⟨vs,H1,l,o,f⟩=>?_) (by rw[k,c]) (by rw[c];rfl)));obtain⟨i,j,e,⟨f,u,n,m⟩,q⟩:=f;subst e
 cases o with
 |cons r d=>
  cases d with
  |cons r' d=>
   cases d
   obtain⟨t,rfl⟩:=r;obtain⟨t',rfl⟩:=r';exact call_range_2 (sv l f u n m q)
def KW(wi:TI)(g:TG)(tb:TS):TS:=λD σ H=>wi σ H λJ H1=>∃W:Nat->Nat->St->Hp->Prop,(∃m,W 0 m σ H1)/\∀i m σ H,W i m σ H->
 (J.stop i H/\D.nx σ H)∨(J.go i H/\∃N:St->Hp->Prop,(∀σ' H',N σ' H'->∃b,b<m/\W (i+1) b σ' H')/\∀x H',J.yld i H x H'->g x σ H' λa H2=>tb {D with nx:=N,ct:=N,bk:=D.nx} a H2)
def lG(fp:List B3)(h:MP):List (B3×Obj):=fp.filterMap λb=>(h.get? b).map λo=>(b,o)
theorem iW{o:Obj}(a:b∈fp)(e:h.get? b=some o):(b,o)∈lG fp h:=List.mem_filterMap.mpr ⟨b,a,by rw[e];rfl⟩
theorem xG{p:B3×Obj}(d:p∈lG fp h):p.1∈fp/\h.get? p.1=some p.2:=by
 obtain⟨b,c,e⟩:=List.mem_filterMap.mp d
 cases q:h.get? b with
 |none=>rw[q]at e;cases e
 |some o=>
  rw[q]at e;have a:(b,o)=p:=L6 e;subst a;exact⟨c,q⟩
theorem Inv.pinned(I:Inv X pins σ H s)(f:∀b∈fp,jO X pins H b)(i:∀b∈fp,∃o,s.heap.get? b=some o/\∀v,o.data≠ .cell v):Inv X (pins++lG fp s.heap) σ H s:=
 I.xk λp g=>(List.mem_append.mp g).elim (λz=>I.pin p (Mv _ z)) λz=>by
  obtain⟨c,e⟩:=xG z;obtain⟨h,f1,f2,_⟩:=f p.1 c;obtain⟨o,a,d⟩:=i p.1 c;rw[e]at a;cases a;exact⟨e,h,f1,f2,d⟩
theorem Inv.je{pl:List (B3×Obj)}(I:Inv X (pins++pl) σ H s):Inv X pins σ H s:=I.xk λp a=>I.pin p (Mv _ (NB _ a))
theorem cG{iter:Expr}{wi:TI}(F:PassesOwn (L0 X.prog X.w) X.A X.env X.xe)(R:X.calm=true)(hi:PI X tg iter wi)(hg:PG X tg g)(p:u_ X body tb)(hs:∀x,NV iter X.env x=pure x:=by intro _;rfl):PS X (.For tg iter body [] pos) (KW wi g tb):=by
 intro pins s σ H D I h;refine wpAny_For (bW (hi pins s σ H _ I h) λv s1 h1=>bW h1 λitv s2 h2=>?_) hs;obtain⟨it,fp,tn,J,H2,e,I2,T,K,f2,W,⟨m0,w0⟩,C⟩:=h2;subst e;have q:∀{H':Hp},(∀b∈fp,H' b=none)->∀b∈fp,jO X pins H' b:=λhn b p=>⟨hn b p,(f2 b p).2⟩;refine codeAny_forLoop_any (λn s'=>∃i σ' H',Inv X pins σ' H' s'/\tn i s'.heap/\(∀b∈fp,H' b=none)/\W i n σ' H') ?_ m0 ⟨0,σ,H2,I2,K,λb p=>(f2 b p).1,w0⟩;rintro n V ⟨i,l,H3,U,E,G,w3⟩
 rcases C i n l H3 w3 with⟨stop,qn⟩|⟨go,N,Z,step⟩
 ·refine NP F (bW (T.done X rfl rfl rfl R i pins V l H3 X.xe U (q G) E stop) λr s4 c=>?_);obtain⟨P,I4⟩:=c;subst P;exact OO ⟨l,H3,I4,qn⟩
 ·refine NP F (bW (T.item X rfl rfl rfl R i pins V l H3 X.xe U (q G) E go) λr s4 c=>?_);obtain⟨u,P,h4⟩:=c;subst P;refine NP F (bW h4 λ_ S c=>?_);obtain⟨x,Y,I5,r5,y5,z,Q⟩:=c;have O:=I5.pinned (q Q) (T.obj _ _ z);refine NP F (bW (hg _ S l Y x u _ O r5 (step x Y y5)) λ_ s6 c=>?_);obtain⟨L,H6,I6,q6⟩:=c;refine NP F (bW (p _ s6 L H6 _ I6 q6) λf M y=>?_)
  have j:∀{a:St}{k:Hp},Inv X (pins++lG fp S.heap) a k M->N a k->∃m,m<n/\∃i σ' H',Inv X pins σ' H' M/\tn i M.heap/\(∀b∈fp,H' b=none)/\W i m σ' H':=λ{a k} t B=>by
   obtain⟨m',hm,w7⟩:=Z a k B;refine⟨m',hm,i+1,a,k,t.je,T.keep _ _ _ z λb p o e=>(t.pin (b,o) (Mv _ (Mv _ (iW p e)))).1,λb p=>?_,w7⟩;obtain⟨o,e,d⟩:=T.obj _ _ z b p;exact(t.pin (b,o) (Mv _ (Mv _ (iW p e)))).2.1
  cases f with
  |next=>obtain⟨a,k,t,B⟩:=y;exact j t B
  |cont=>obtain⟨a,k,t,B⟩:=y;exact j t B
  |brk=>obtain⟨a,k,t,y⟩:=y;exact⟨a,k,t.je,y⟩
  |ret v=>obtain⟨x7,a,k,t,r7,y⟩:=y;exact⟨x7,a,k,t.je,r7,y⟩
theorem gS{D:Ends}(b:Nat->St->Hp->Prop)(h0:b 0 σ H)(hl:∀i σ H,i<=xs.length->b i σ H->bg K H a xs)(h:∀i x σ H,xs[i]? =some x->b i σ H->g x σ H λc H2=>tb {D with nx:=b (i+1),ct:=b (i+1),bk:=D.nx} c H2)(hd:∀σ H,b xs.length σ H->D.nx σ H):
  ∃W:Nat->Nat->St->Hp->Prop,(∃m,W 0 m σ H)/\∀i m σ H,W i m σ H->
   ((Hh K a).stop i H/\D.nx σ H)∨((Hh K a).go i H/\∃N:St->Hp->Prop,(∀σ' H',N σ' H'->∃f,f<m/\W (i+1) f σ' H')/\∀x H',(Hh K a).yld i H x H'->g x σ H' λc H2=>tb {D with nx:=N,ct:=N,bk:=D.nx} c H2):=by
 refine⟨λi m σ H=>m=xs.length-i/\i<=xs.length/\b i σ H,⟨xs.length,by simp,L5 _,h0⟩,?_⟩;rintro i m σ H ⟨rfl,hi,p⟩;have q:=hl i σ H hi p;by_cases d:i<xs.length
 ·refine .inr ⟨⟨xs,xs[i],q,by simp[d]⟩,b (i+1),λσ' H' j=>⟨xs.length-(i+1),by lia,rfl,d,j⟩,λx H' y=>?_⟩;obtain⟨e,y⟩:=y;subst e;exact h i x σ _ (y xs q) p
 ·have e:i=xs.length:=by lia
  subst e;exact .inl ⟨⟨xs,q,B6 _⟩,hd σ H p⟩
theorem CL{D:Ends}(b:Nat->St->Hp->Prop)(h0:b 0 σ H)(hl:∀i σ H,i<=xs.length->b i σ H->aT K H a xs)(h:∀i x σ H,xs[i]? =some x->b i σ H->g x σ H λc H2=>tb {D with nx:=b (i+1),ct:=b (i+1),bk:=D.nx} c H2)(hd:∀σ H,b xs.length σ H->D.nx σ H):
  ∃W:Nat->Nat->St->Hp->Prop,(∃m,W 0 m σ H)/\∀i m σ H,W i m σ H->
   ((EU K a).stop i H/\D.nx σ H)∨((EU K a).go i H/\∃N:St->Hp->Prop,(∀σ' H',N σ' H'->∃f,f<m/\W (i+1) f σ' H')/\∀x H',(EU K a).yld i H x H'->g x σ H' λc H2=>tb {D with nx:=N,ct:=N,bk:=D.nx} c H2):=by
 refine⟨λi m σ H=>m=xs.length-i/\i<=xs.length/\b i σ H,⟨xs.length,by simp,L5 _,h0⟩,?_⟩;rintro i m σ H ⟨rfl,hi,p⟩;have q:=hl i σ H hi p;by_cases d:i<xs.length
 ·refine .inr ⟨⟨xs,xs[i],q,by simp[d]⟩,b (i+1),λσ' H' j=>⟨xs.length-(i+1),by lia,rfl,d,j⟩,λx H' y=>?_⟩;obtain⟨e,y⟩:=y;subst e;exact h i x σ _ (y xs q) p
 ·have e:i=xs.length:=by lia
  subst e;exact .inl ⟨⟨xs,q,B6 _⟩,hd σ H p⟩
theorem cP{D:Ends}(c:Nat->St->Hp->Prop)(h0:c 0 σ H)(f:∀i σ H,i<n->c i σ H->g (.int (lo+i)) σ H λb H2=>tb {D with nx:=c (i+1),ct:=c (i+1),bk:=D.nx} b H2)(hd:∀σ H,c n σ H->D.nx σ H):
  ∃W:Nat->Nat->St->Hp->Prop,(∃m,W 0 m σ H)/\∀i m σ H,W i m σ H->
   ((Eg lo n).stop i H/\D.nx σ H)∨((Eg lo n).go i H/\∃N:St->Hp->Prop,(∀σ' H',N σ' H'->∃d,d<m/\W (i+1) d σ' H')/\∀x H',(Eg lo n).yld i H x H'->g x σ H' λb H2=>tb {D with nx:=N,ct:=N,bk:=D.nx} b H2):=by
 refine⟨λi m σ H=>m=n-i/\i<=n/\c i σ H,⟨n,by simp,L5 _,h0⟩,?_⟩;rintro i m σ H ⟨rfl,hi,p⟩;by_cases a:i<n
 ·refine .inr ⟨a,c (i+1),λσ' H' h=>⟨n-(i+1),by lia,rfl,a,h⟩,λx H' y=>?_⟩;obtain⟨e,y⟩:=y;subst e y;exact f i σ _ a p
 ·have e:i=n:=by lia
  subst e;exact .inl ⟨B6 _,hd σ H p⟩
abbrev R2:=V->V->Hp->VK->Prop
def hV(X:Cx)(f:B5->B5->Sem B5)(r:R2):Prop:=
 ∀(pins:List (B3×Obj))(s:FS)(σ:St)(H:Hp)(x y:V)(v u:B5)(Q:VK),Inv X pins σ H s->RelV x v->RelV y u->r x y H Q->
  IR (L0 X.prog X.w) X.A (f v u) (EP X pins σ Q) X.xe s
def Kz(X:Cx)(f:B5->Sem B5)(r:V->Hp->VK->Prop):Prop:=
 ∀(pins:List (B3×Obj))(s:FS)(σ:St)(H:Hp)(x:V)(v:B5)(Q:VK),Inv X pins σ H s->RelV x v->r x H Q->
  IR (L0 X.prog X.w) X.A (f v) (EP X pins σ Q) X.xe s
def dB(X:Cx)(f:B5)(r:List V->Hp->VK->Prop):Prop:=
 ∀(pins:List (B3×Obj))(s:FS)(σ:St)(H:Hp)(xs:List V)(us:List B5)(Q:VK),Inv X pins σ H s->Vals xs us->r xs H Q->
  IR (L0 X.prog X.w) X.A (call f us) (EP X pins σ Q) X.xe s
def xI(r:R2)(ta tb:TE):TE:=λσ H Q=>ta σ H λx H1=>tb σ H1 λy H2=>r x y H2 Q
def K4(r:V->Hp->VK->Prop)(ta:TE):TE:=λσ H Q=>ta σ H λx H1=>r x H1 Q
inductive LF(C:Int->Int->Prop)(g:Int->Int->V)(x:V)(y:V)(H:Hp)(Q:VK):Prop
 |mk (i:_) (j:_) (c0:x= .int i) (c1:y= .int j) (c2:C i j) (c3:Q (g i j) H)
def rI(C:Int->Int->Prop)(g:Int->Int->V):R2:=λx y H Q=>LF C g x y H Q
inductive Ko(g:Int->Int->V)(x:V)(y:V)(H:Hp)(Q:VK):Prop
 |mk (i:_) (j:_) (c0:x= .int i) (c1:y= .int j) (c2:Q (g i j) H)
def yo(g:Int->Int->V):R2:=λx y H Q=>Ko g x y H Q
inductive Ln(g:Int->V)(x:V)(H:Hp)(Q:VK):Prop
 |mk (i:_) (c0:x= .int i) (c1:Q (g i) H)
def rU(g:Int->V):V->Hp->VK->Prop:=λx H Q=>Ln g x H Q
variable{r r':R2}
section
variable{a b:Expr}{tb tc:TE}
theorem FK(ha:PE X a ta)(m:PE X b tb){R:V->V->Hp->Prop}(I:Inv X pins σ H s)(h:ta σ H λx H1=>tb σ H1 λy H2=>R x y H2){f:B5->B5->Sem B5}(k:∀v u s2 x y H2,Inv X pins σ H2 s2->RelV x v->RelV y u->R x y H2->IR (L0 X.prog X.w) X.A (f v u) Q X.xe s2):
  IR (L0 X.prog X.w) X.A (M3 a X.env) (λv d=>IR (L0 X.prog X.w) X.A (M3 b X.env) (λu e=>IR (L0 X.prog X.w) X.A (f v u) Q X.xe e) X.xe d) X.xe s:=by
 refine bW (ha pins s σ H _ I h) λv s1 c=>?_;obtain⟨x,H1,i,n,l⟩:=c;refine bW (m pins s1 σ H1 _ i l) λu s2 c=>?_;obtain⟨y,H2,g,j,o⟩:=c;exact k v u s2 x y H2 g n j o
theorem aE{op:Operator}(d:hV X (NH op) r)(ha:PE X a ta)(g:PE X b tb):PE X (.BinOp a op b pos) (xI r ta tb):=by
 intro pins s σ H Q I h;exact wpAny_BinOp (FK ha g I h λv u s2 x y H2 c e f q=>d pins s2 σ H2 x y v u Q c e f q)
theorem Ib{op:UnaryOp}{r:V->Hp->VK->Prop}(d:Kz X (unaryOp op) r)(ha:PE X a ta):PE X (.UnaryOp op a pos) (K4 r ta):=by
 intro pins s σ H Q I h;exact UnaryOp_ (bW (ha pins s σ H _ I h) λv s1 b=>by obtain⟨x,H1,c,f,e⟩:=b;exact d pins s1 σ H1 x v Q c f e)
theorem Jd{f:B5->B5->Sem B5}{C:Int->Int->Prop}{g:Int->Int->Int}(a:∀(i j:Int)(t u:Tok)(s:FS)(Q:B5->FS->Prop)(E:B5->FS->Prop),C i j->Q (.int (g i j) s.toks) {s with toks:=s.toks+1}->IR (L0 X.prog X.w) X.A (f (.int i t) (.int j u)) Q E s):
  hV X f (rI C λi j=> .int (g i j)):=by
 intro pins s σ H x y v u Q I b c h;obtain⟨i,j,rfl,rfl,d,q⟩:=h;obtain⟨t,rfl⟩:=b;obtain⟨t',rfl⟩:=c;exact a i j t t' s _ _ d ⟨.int (g i j),H,I.tok _,⟨_,rfl⟩,q⟩
theorem Iz{f:B5->B5->Sem B5}{g:Int->Int->Int}(a:∀(i j:Int)(t u:Tok)(s:FS)(Q:B5->FS->Prop)(E:B5->FS->Prop),Q (.int (g i j) s.toks) {s with toks:=s.toks+1}->IR (L0 X.prog X.w) X.A (f (.int i t) (.int j u)) Q E s):
  hV X f (yo λi j=> .int (g i j)):=by
 intro pins s σ H x y v u Q I b c h;obtain⟨i,j,rfl,rfl,q⟩:=h;obtain⟨t,rfl⟩:=b;obtain⟨t',rfl⟩:=c;exact a i j t t' s _ _ ⟨.int (g i j),H,I.tok _,⟨_,rfl⟩,q⟩
theorem CM{f:B5->B5->Sem B5}{g:Int->Int->Bool}(a:∀(i j:Int)(t u:Tok)(s:FS)(Q:B5->FS->Prop)(E:B5->FS->Prop),Q (.bool (g i j)) s->IR (L0 X.prog X.w) X.A (f (.int i t) (.int j u)) Q E s):
  hV X f (yo λi j=> .bl (g i j)):=by
 intro pins s σ H x y v u Q I b c h;obtain⟨i,j,rfl,rfl,q⟩:=h;obtain⟨t,rfl⟩:=b;obtain⟨t',rfl⟩:=c;exact a i j t t' s _ _ ⟨.bl (g i j),H,I,rfl,q⟩
def KU(i j:Int):Prop:=0<j/\j<1073741824
def Ky(i j:Int):Prop:=0<=j/\j<=1000000/\i.natAbs<2^64
def FH(i j:Int):Prop:=(-(2^64)<i/\i<2^64)∨(-(2^64)<j/\j<2^64)
theorem FH.ok{i j:Int}(h:FH i j):IntMulOk i j:=by
 rcases h with⟨h1,h2⟩|⟨h1,h2⟩
 ·exact .of_left (intBits_le_64 h1 h2)
 ·exact .of_right (intBits_le_64 h1 h2)
theorem bM:hV X (NH .Add) (yo λi j=> .int (i+j)):=Iz λ_ _ _ _ _ _ _ q=>add_int q
theorem eE:hV X (NH .Sub) (yo λi j=> .int (i-j)):=Iz λ_ _ _ _ _ _ _ q=>sub_int q
theorem nv:hV X (NH .Mult) (rI FH λi j=> .int (i*j)):=Jd λ_ _ _ _ _ _ _ a q=>mul_int q a.ok
theorem pB:hV X (NH .FloorDiv) (rI KU λi j=> .int (i/j)):=Jd λi j _ _ _ _ _ a q=>by
 have h1:(0:Int)<j:=a.1;have h2:j<1073741824:=a.2;exact floordiv_int (by lia) (by rw[Q7 i (by lia)];exact q) (.inl (PyProof.noPylong_small (by lia)))
theorem hX:hV X (NH .Mod) (rI (λ_ j=>0<j) λi j=> .int (i%j)):=Jd λi j _ _ _ _ _ a q=>by
 have h1:(0:Int)<j:=a;exact mod_int' (by lia) (by rw[Int.fmod_eq_emod_of_nonneg i (by lia)];exact q)
theorem iT:hV X (NH .Pow) (rI Ky λi j=> .int (i^j.toNat)):=Jd λ_ _ _ _ _ _ _ a q=>pow_int_small a.1 a.2.1 a.2.2 q
theorem Ly{f:B5->Sem B5}{g:Int->Int}(a:∀(i:Int)(t:Tok)(s:FS)(Q:B5->FS->Prop)(E:B5->FS->Prop),Q (.int (g i) s.toks) {s with toks:=s.toks+1}->IR (L0 X.prog X.w) X.A (f (.int i t)) Q E s):
  Kz X f (rU λi=> .int (g i)):=by
 intro pins s σ H x v Q I b h;obtain⟨i,rfl,q⟩:=h;obtain⟨t,rfl⟩:=b;exact a i t s _ _ ⟨.int (g i),H,I.tok _,⟨_,rfl⟩,q⟩
theorem FX:Kz X (unaryOp .USub) (rU λi=> .int (-i)):=Ly λ_ _ _ _ _ q=>neg_int q
end
def DZ:V->V->Bool
 | .non,.non=>true| .non,.int _=>true| .int _,.non=>true| .non,.bl _=>true| .bl _,.non=>true| .non,.str _=>true| .str _,.non=>true
 | .int _,.int _=>true| .bl _,.bl _=>true| .str _,.str _=>true| .byt _,.byt _=>true
 | .int _,.str _=>true| .str _,.int _=>true| .bl _,.str _=>true| .str _,.bl _=>true
 |_,_=>false
inductive Kx(x:V)(y:V)(H:Hp)(Q:VK):Prop
 |mk (c0:DZ x y=true) (c1:Q (.bl (decide (x=y))) H)
def K3:R2:=λx y H Q=>Kx x y H Q
inductive Kr(x:V)(y:V)(H:Hp)(Q:VK):Prop
 |mk (c0:DZ x y=true) (c1:Q (.bl (!decide (x=y))) H)
def K6:R2:=λx y H Q=>Kr x y H Q
theorem xp{i j:Int}:decide (V.int i=V.int j)=(i==j):=by
 rw[M7];simp
theorem Bt{i j:Bool}:decide (V.bl i=V.bl j)=(i==j):=by
 rw[M7];simp
theorem xj{i j:Str}:decide (V.str i=V.str j)=(i==j):=by
 rw[M7];simp
theorem vZ{i j:Array UInt8}:decide (V.byt i=V.byt j)=(i.toList==j.toList):=by
 rw[M7]
 cases i
 cases j
 simp
section
variable{a b:Expr}{tb tc:TE}
theorem bL{Q:VK}{k a:Bool}(I:Inv X pins σ H s)(q:Q (.bl k) H)(e:k=a):EP X pins σ Q (.bool a) s:=by
 subst e;exact⟨.bl k,H,I,rfl,q⟩
theorem bD:hV X (MR .Eq) K3:=by
 intro pins s σ H x y v u Q I c a h;obtain⟨b,q⟩:=h
 cases x with
 |non=>
  cases c
  cases y with
  |non=>cases a;exact PySem.EqNone.eq_none_none (bL I q (by simp))
  |bl j=>cases a;exact PySem.EqNone.eq_none_bool (bL I q (by simp))
  |int j=>obtain⟨t',rfl⟩:=a;exact PySem.EqNone.eq_none_int (bL I q (by simp))
  |str j=>obtain⟨t',rfl⟩:=a;exact PySem.EqNone.eq_none_str (bL I q (by simp))
  |_=>exact absurd (show false=true from b) GM
 |bl i=>
  cases c
  cases y with
  |non=>cases a;exact PySem.EqNone.eq_bool_none (bL I q (by simp))
  |bl j=>cases a;exact eq_bool (bL I q Bt)
  |str j=>obtain⟨t',rfl⟩:=a;exact PySem.EqMixed.eq_bool_str (bL I q (by simp))
  |_=>exact absurd (show false=true from b) GM
 |int i=>
  obtain⟨t,rfl⟩:=c
  cases y with
  |non=>cases a;exact PySem.EqNone.eq_int_none (bL I q (by simp))
  |int j=>obtain⟨t',rfl⟩:=a;exact eq_int (bL I q xp)
  |str j=>obtain⟨t',rfl⟩:=a;exact PySem.EqMixed.eq_int_str (bL I q (by simp))
  |_=>exact absurd (show false=true from b) GM
 |str i=>
  obtain⟨t,rfl⟩:=c
  cases y with
  |non=>cases a;exact PySem.EqNone.eq_str_none (bL I q (by simp))
  |bl j=>cases a;exact PySem.EqMixed.eq_str_bool (bL I q (by simp))
  |int j=>obtain⟨t',rfl⟩:=a;exact PySem.EqMixed.eq_str_int (bL I q (by simp))
  |str j=>obtain⟨t',rfl⟩:=a;exact eq_str (bL I q xj)
  |_=>exact absurd (show false=true from b) GM
 |byt i=>
  obtain⟨t,rfl⟩:=c
  cases y with
  |byt j=>obtain⟨t',rfl⟩:=a;exact PySem.W.eq_bytes (bL I q vZ)
  |_=>exact absurd (show false=true from b) GM
 |_=>cases y<;>exact absurd (show false=true from b) GM
theorem fg:hV X (MR .NotEq) K6:=by
 intro pins s σ H x y v u Q I c a h;obtain⟨b,q⟩:=h
 cases x with
 |non=>
  cases c
  cases y with
  |non=>cases a;exact PySem.EqNone.ne_none_none (bL I q (by simp))
  |bl j=>cases a;exact PySem.EqNone.ne_none_bool (bL I q (by simp))
  |int j=>obtain⟨t',rfl⟩:=a;exact PySem.EqNone.ne_none_int (bL I q (by simp))
  |str j=>obtain⟨t',rfl⟩:=a;exact PySem.EqNone.ne_none_str (bL I q (by simp))
  |_=>exact absurd (show false=true from b) GM
 |bl i=>
  cases c
  cases y with
  |non=>cases a;exact PySem.EqNone.ne_bool_none (bL I q (by simp))
  |bl j=>cases a;exact ne_bool (bL I q (congrArg not Bt))
  |str j=>obtain⟨t',rfl⟩:=a;exact PySem.EqMixed.ne_bool_str (bL I q (by simp))
  |_=>exact absurd (show false=true from b) GM
 |int i=>
  obtain⟨t,rfl⟩:=c
  cases y with
  |non=>cases a;exact PySem.EqNone.ne_int_none (bL I q (by simp))
  |int j=>obtain⟨t',rfl⟩:=a;exact ne_int (bL I q (congrArg not xp))
  |str j=>obtain⟨t',rfl⟩:=a;exact PySem.EqMixed.ne_int_str (bL I q (by simp))
  |_=>exact absurd (show false=true from b) GM
 |str i=>
  obtain⟨t,rfl⟩:=c
  cases y with
  |non=>cases a;exact PySem.EqNone.ne_str_none (bL I q (by simp))
  |bl j=>cases a;exact PySem.EqMixed.ne_str_bool (bL I q (by simp))
  |int j=>obtain⟨t',rfl⟩:=a;exact PySem.EqMixed.ne_str_int (bL I q (by simp))
  |str j=>obtain⟨t',rfl⟩:=a;exact ne_str (bL I q (congrArg not xj))
  |_=>exact absurd (show false=true from b) GM
 |byt i=>
  obtain⟨t,rfl⟩:=c
  cases y with
  |byt j=>obtain⟨t',rfl⟩:=a;exact PySem.W.ne_bytes (bL I q (congrArg not vZ))
  |_=>exact absurd (show false=true from b) GM
 |_=>cases y<;>exact absurd (show false=true from b) GM
theorem HL:hV X (MR .Lt) (yo λi j=> .bl (decide (i<j))):=CM λ_ _ _ _ _ _ _ q=>lt_int q
theorem dI:hV X (MR .LtE) (yo λi j=> .bl (decide (i<=j))):=CM λ_ _ _ _ _ _ _ q=>le_int q
theorem kv:hV X (MR .Gt) (yo λi j=> .bl (decide (j<i))):=CM λ_ _ _ _ _ _ _ q=>gt_int q
theorem JC:hV X (MR .GtE) (yo λi j=> .bl (decide (j<=i))):=CM λ_ _ _ _ _ _ _ q=>ge_int q
theorem aG(b:Expr)(h:op≠ .In:=by decide)(h2:op≠ .NotIn:=by decide):O5 op b=false:=by
 have a:(op==CmpOp.In)=false:=by cases op<;>first|rfl|exact absurd rfl h
 have c:(op==CmpOp.NotIn)=false:=by cases op<;>first|rfl|exact absurd rfl h2
 cases b<;>simp[O5,a,c]
theorem cy(d:hV X (MR op) r)(ha:PE X a ta)(g:PE X b tb)(hm:O5 op b=false):PE X (.Compare a [op] [b] pos) (xI r ta tb):=by
 intro pins s σ H Q I h;exact wpAny_Compare1 (FK ha g I h λv u s2 x y H2 c e f q=>d pins s2 σ H2 x y v u Q c e f q) hm
inductive Hj(Q:Bool->Hp->Prop)(x:V)(H':Hp):Prop
 |mk (k:_) (c0:x= .bl k) (c1:Q k H')
def Ay(t:TE):TT:=λσ H Q=>t σ H λx H'=>Hj Q x H'
theorem aB(g:hV X (MR op) r)(ha:PE X a ta)(p:PE X b tb)(hm:O5 op b=false):PT X (.Compare a [op] [b] pos) (Ay (xI r ta tb)):=by
 intro pins s σ H Q I h
 refine RU (bW (ha pins s σ H _ I h) λv s1 ⟨x,H1,f,o,l⟩=>bW (p pins s1 σ H1 _ f l) λu s2 ⟨y,H2,d,i,q⟩=>
  bW (g pins s2 σ H2 x y v u _ d o i q) λc t ⟨z,H3,m,j,k,e,n⟩=>?_) hm
 subst e
 cases j
 exact MI ⟨H3,m,n⟩
def um(r r':R2)(ta tb tc:TE):TE:=λσ H Q=>ta σ H λx H1=>tb σ H1 λy H2=>r x y H2 λz H3=>∃k,z= .bl k/\
 (if k=true then tc σ H3 λa H4=>r' y a H4 Q else Q (.bl false) H3)
theorem eY(m:hV X (MR op) r)(g:hV X (MR op') r')(ha:PE X a ta)(E:PE X b tb)(J:PE X c tc)(hm:lastMarks [op,op'] [b,c]=false:=by with_unfolding_all rfl):PE X (.Compare a [op,op'] [b,c] pos) (um r r' ta tb tc):=by
 intro pins s σ H Q I h
 refine Compare_chain (bW (ha pins s σ H _ I h) λv s1 ⟨x,H1,B,G,o⟩=>chain_link (bW (E pins s1 σ H1 _ B o) λu s2 ⟨y,H2,A,l,p⟩=>
  bW (m pins s2 σ H2 x y v u _ A G l p) λd q ⟨z,H3,i,C,k,e,j⟩=>?_)) hm
 subst e
 cases C
 refine MI ?_
 cases k with
 |false=>exact ite_ff ⟨.bl false,H3,i,rfl,j⟩
 |true=>exact ite_tt (chain_last (bW (J pins q σ H3 _ i j) λw n f=>by obtain⟨z',H4,t,F,D⟩:=f;exact g pins n σ H4 y z' u w Q t l F D))
theorem q_(p:hV X (MR op) r)(g:hV X (MR op') r')(ha:PE X a ta)(N:PE X b tb)(R:PE X c tc)(hm:lastMarks [op,op'] [b,c]=false:=by with_unfolding_all rfl):PT X (.Compare a [op,op'] [b,c] pos) (Ay (um r r' ta tb tc)):=by
 intro pins s σ H Q I h
 refine isTrue_chain (bW (ha pins s σ H _ I h) λv s1 ⟨x,H1,J,P,w⟩=>test_link (bW (N pins s1 σ H1 _ J w) λu s2 ⟨y,H2,G,l,A⟩=>
  bW (p pins s2 σ H2 x y v u _ G P l A) λd C ⟨z,H3,i,K,k,e,j⟩=>?_)) hm
 subst e
 cases K
 refine MI ?_
 cases k with
 |false=>
  obtain⟨U,m,q⟩:=j
  cases m
  exact ite_ff ⟨H3,i,q⟩
 |true=>
  refine ite_tt (test_last (bW (R pins C σ H3 _ i j) λF t ⟨z',H4,E,O,M⟩=>bW (g pins t σ H4 y z' u F _ E l O M) λd' S f=>?_));obtain⟨T,L,o,D,k2,n,B⟩:=f;subst n
  cases D
  exact MI ⟨L,o,B⟩
theorem iU:(sizeLine:Nat)<2^63:=by rw[NY];decide
theorem aK:hV X (NH .Add) (λx y H Q=>∃i j,x= .str i/\y= .str j/\i.length+j.length<=sizeLine/\Q (.str (i++j)) H):=by
 intro pins s σ H x y v u Q I b c h;obtain⟨i,j,rfl,rfl,a,q⟩:=h;obtain⟨t,rfl⟩:=b;obtain⟨t',rfl⟩:=c;exact add_str (λt' tk=>⟨.str (i++j),H,I.tok _,⟨_,rfl⟩,q⟩) a
theorem vals1{x:V}(r:Vals [x] us):∃u,us=[u]/\RelV x u:=by
 cases r with
 |cons b a=>cases a;exact⟨_,rfl,b⟩
theorem vals2{x:V}(r:Vals [x,y] us):∃u a,us=[u,a]/\RelV x u/\RelV y a:=by
 cases r with
 |cons e b=>
  cases b with
  |cons c d=>cases d;exact⟨_,_,rfl,e,c⟩
theorem Ag:dB X (.builtin "abs") (λxs H Q=>∃i,xs=[.int i]/\Q (.int (if i<0 then -i else i)) H):=by
 intro pins s σ H xs us Q I r h;obtain⟨i,rfl,q⟩:=h;obtain⟨u,rfl,t,rfl⟩:=vals1 r;exact call_abs_int λu tk=>⟨.int (if i<0 then -i else i),H,I.tok _,⟨_,rfl⟩,q⟩
theorem xF(b:X.calm=true):dB X (.builtin "max") (λxs H Q=>∃i j,xs=[.int i,.int j]/\Q (.int (if j>i then j else i)) H):=by
 intro pins s σ H xs us Q I r h;obtain⟨i,j,rfl,q⟩:=h;obtain⟨u,c,rfl,⟨t,rfl⟩,⟨t',rfl⟩⟩:=vals2 r;refine max_two_ints (I.ok.hd b) λh' tk k=>⟨_,H,I.kept k,?_,q⟩;by_cases a:j>i
 ·rw[if_pos a,if_pos a];exact⟨_,rfl⟩
 ·rw[if_neg a,if_neg a];exact⟨_,rfl⟩
theorem yk(b:X.calm=true):dB X (.builtin "min") (λxs H Q=>∃i j,xs=[.int i,.int j]/\Q (.int (if j<i then j else i)) H):=by
 intro pins s σ H xs us Q I r h;obtain⟨i,j,rfl,q⟩:=h;obtain⟨u,c,rfl,⟨t,rfl⟩,⟨t',rfl⟩⟩:=vals2 r;refine min_two_ints (I.ok.hd b) λh' tk k=>⟨_,H,I.kept k,?_,q⟩;by_cases a:j<i
 ·rw[if_pos a,if_pos a];exact⟨_,rfl⟩
 ·rw[if_neg a,if_neg a];exact⟨_,rfl⟩
theorem Ca:dB X (.builtin "ord") (λxs H Q=>∃x,xs=[.str x]/\x.length=1/\Q (.int (x.cps.getD 0 0:Nat)) H):=by
 intro pins s σ H xs us Q I r h;obtain⟨x,rfl,a,q⟩:=h;obtain⟨u,rfl,t,rfl⟩:=vals1 r;exact ord_of_one a ⟨.int _,H,I.tok _,⟨_,rfl⟩,q⟩
end
structure xu(h:MP)(x dx C:B3)(mA:Str->Option B5):Prop where
 obj:h.get? x=some (Nw C dx)
 ns:h.Ns1 dx mA
 ne:dx≠x
theorem yL(n:h.Ns1 dx mA):∃od,h.get? dx=some od/\∀name,QZ name od=some (mA name):=by
 obtain⟨o,es,ep,d,hd,f,_,hm⟩:=n;refine⟨o,d,λname=>?_⟩;have e:=hm name;unfold nsFind findBy at e;rw[<-Array.find?_toList]at e;unfold QZ;rw[hd];dsimp only
 split
 ·rename_i y q
  rw[q]at e;exact congrArg some e
 ·rename_i q
  rw[q]at e
  have a:es.toList.any (·.refKey)=false:=by
   rw[Qs];intro y c;obtain⟨z,t,b⟩:=f y (Array.mem_toList_iff.mp c);simp[DictEntry.refKey,b]
  have a':¬es.toList.any (·.refKey)=true:=by rw[a];exact GM
  rw[if_neg a'];exact congrArg some e
theorem xu.look{x:B3}(I:xu h x dx C mA):∃od,PySem.W.InstAt h x (Nw C dx) C (some od)/\∀name,QZ name od=some (mA name):=
 let⟨od,ho,hl⟩:=yL I.ns
 ⟨od,⟨I.obj,rfl,rfl,ho⟩,hl⟩
section
variable{x:B3}{v:B5}
theorem get_map{a:Bool}(X:K.In s.heap)(I:xu s.heap x dx C mA)(d:Pd K C name=true)(e:O0 K C=true)(ha:MG K (.ref C) name=some none)(c:mA name=some v)(b:SQ v=true)(h:Q v {s with toks:=s.toks+1}):
  IR (L0 prog w) A (getAttr (.ref x) name a) Q E s:=by
 obtain⟨od,J,hl⟩:=I.look;exact PySem.W.get_value X J (PySem.W.plainGet_of d).1 (PySem.W.findObj_own e ha rfl (by rw[hl,c])) b h
theorem D2{ns:List Str}{Q:Unit->FS->Prop}(X:K.In s.heap)(I:xu s.heap x dx C mA)(k:MG K (.ref C) "__setattr__"=some (some (.builtin "object.__setattr__")))(q:Qi K C=true)(m:QG K C name=some none)(l:O0 K C=true)(n:RD mA ns)(hsz:ns.length<=sizeLine)(h:∀h',xu h' x dx C (λy=>if y=name then some v else mA y)->Nn dx s.heap h'->Q () {s with heap:=h',toks:=s.toks+2}):
  IR (L0 prog w) A (setAttr (.ref x) name v) Q E s:=by
 obtain⟨od,J,hl⟩:=I.look;refine PySem.W.set_plain X J k (PySem.W.osa_open (s:={s with toks:=s.toks+1}) (r:=none) X J q m λb=>?_);obtain⟨t,j,g⟩:=PySem.W.any_some l;have hx:s.heap.get? x=some ⟨.ref C,some dx,.plain,#[]⟩:=I.obj;refine B2 (KF (B2 (B2 (wpAny_loadPart hx (B2 (PySem.W.Looks.here (s:={s with toks:=s.toks+1}) (PySem.W.looks_clsIn X j) ?_))))));rw[g];refine KF (a:=some dx) (B2 (KF (B2 ?_)));refine wpAny_nsSet1 (s:={s with toks:=s.toks+1}) I.ns λh' c d=>?_;obtain⟨u,p,o,f,i,e⟩:=c.count (PySem.Within.cons name v n);refine B2 (wpAny_lookBehind f (by rw[i];exact pastItsLine_dict (Mu e (by rw[B8];lia))) ?_);exact KF (h _ ⟨(d.2 _ (Da I.ne)).trans I.obj,c,I.ne⟩ d)
theorem BR{R:RC->FS->Prop}{vs:List B5}(X:K.In s.heap)(hm:QH K C=true)(hi:MG K (.ref C) "__init__"=some (some (.ref f)))(a:PySem.W.typeIn K (.ref f)=some (.type "function"))(h:Om (L0 prog w) (A.under (.builtin "type.__call__" ⟨.ref C::vs,kw⟩)) (.call (.ref f) ⟨.ref (s.heap.objs.size+1)::vs,kw⟩) (PySem.W.InitBack (s.heap.objs.size+1) R)
   {s with heap:=(s.heap.push M4).push (Nw C s.heap.objs.size)}):
  Om (L0 prog w) A (.call (.ref C) ⟨vs,kw⟩) R s:=by
 obtain⟨b,g,d,t,os⟩:=s;exact PySem.W.make_core (PySem.W.makes_of X hm) (PySem.W.looks_findIn X hi) (λself=>PySem.W.bind_fn X self a) (.inl rfl) h
end
def iB(f:Str)(v:V):List (Str×V)->List (Str×V)
 |[]=>[(f,v)]
 |(g,x)::r=>if g=f then(g,v)::r else(g,x)::iB f v r
theorem km(f g:Str)(v:V):∀fs:List (Str×V),(iB f v fs).lookup g=if g=f then some v else fs.lookup g
 |[]=>by
  show OM g [(f,v)]=_;by_cases h:g=f
  ·have a:(g==f)=true:=beq_iff_eq.mpr h;simp only[OM,a,if_pos h]
  ·have a:(g==f)=false:=beq_eq_false_iff_ne.mpr h;simp only[OM,a,if_neg h]
 |(k,x)::r=>by
  have c:=km f g v r;rw[show iB f v ((k,x)::r)=(if k=f then(k,v)::r else(k,x)::iB f v r)from rfl];by_cases b:k=f
  ·rw[if_pos b];by_cases h:g=k
   ·have a:(g==k)=true:=beq_iff_eq.mpr h;simp only[OM,a,if_pos (h.trans b)]
   ·have a:(g==k)=false:=beq_eq_false_iff_ne.mpr h;simp only[OM,a,if_neg (λe:g=f=>h (e.trans b.symm))]
  ·rw[if_neg b];by_cases h:g=k
   ·have a:(g==k)=true:=beq_iff_eq.mpr h;simp only[OM,a,if_neg (λe:g=f=>b (h.symm.trans e))]
   ·have a:(g==k)=false:=beq_eq_false_iff_ne.mpr h;simp only[OM,a];exact c
theorem jQ(f:Str)(v:V):∀fs:List (Str×V),f∈(iB f v fs).map (·.1)/\∀g,g∈fs.map (·.1)->g∈(iB f v fs).map (·.1)
 |[]=>⟨by simp[iB],λg h=>by simp at h⟩
 |(k,x)::r=>by
  obtain⟨i1,i2⟩:=jQ f v r;rw[show iB f v ((k,x)::r)=(if k=f then(k,v)::r else(k,x)::iB f v r)from rfl];by_cases a:k=f
  ·rw[if_pos a];subst a;exact⟨by simp,λg h=>by simpa using h⟩
  ·rw[if_neg a];refine⟨?_,λg h=>?_⟩
   ·rw[Mc];exact GE _ i1
   ·rw[Mc]at h⊢
    rcases List.mem_cons.mp h with e|e
    ·exact List.mem_cons.mpr (.inl e)
    ·exact GE _ (i2 g e)
theorem kx(f:Str)(v:V):∀fs:List (Str×V),(iB f v fs).length<=fs.length+1
 |[]=>by simp[iB]
 |(k,x)::r=>by
  have b:=kx f v r;rw[show iB f v ((k,x)::r)=(if k=f then(k,v)::r else(k,x)::iB f v r)from rfl];by_cases a:k=f
  ·rw[if_pos a,B8,B8];lia
  ·rw[if_neg a,B8,B8];lia
theorem fe.some_of{o:Option B5}(r:fe (some v) o):∃u,o=some u/\RelV v u:=by
 cases o with
 |none=>exact(show False from r).elim
 |some u=>exact⟨u,rfl,r⟩
theorem fe.none_of{o:Option B5}(r:fe none o):o=none:=by
 cases o with
 |none=>rfl
 |some u=>exact(show False from r).elim
theorem yG(r:RelV v u):SQ u=true:=by
 cases v with
 |non=>cases(show u=ND from r);rfl
 |bl b=>cases(show u=Pj b from r);rfl
 |int i=>obtain⟨t,e⟩:=(show∃t,u=Pb i t from r);cases e;rfl
 |str x=>obtain⟨t,e⟩:=(show∃t,u=MU x t from r);cases e;rfl
 |byt b=>obtain⟨t,e⟩:=(show∃t,u=Value.bytes b t from r);cases e;rfl
 |flt b=>obtain⟨t,e⟩:=(show∃t,u=R3 b t from r);cases e;rfl
 |ref a=>cases(show u=Kf a from r);rfl
 |ty n=>cases(show u=OG n from r);rfl
section
variable{fs fs':List (Str×V)}
theorem qL(hok:iX P w H h)(e:H a=some (.ins C dx fs)):∃mA,xu h a dx C mA/\(∀f,fe (fs.lookup f) (mA f))/\RD mA (fs.map (·.1))/\fs.length<=1000/\H dx=some (.own a):=by
 obtain⟨d,z,ne,b,mA,n,r,q⟩:=(show cv P w H h a (.ins C dx fs)from hok a _ e);exact⟨mA,⟨b,n,ne⟩,r,q,z,d⟩
end
structure Fl(K:mo)(C:B3):Prop where
 pg:Pd K C Pc=true
 hd:O0 K C=true
 po:Qi K C=true
 sa:MG K (.ref C) "__setattr__"=some (some (.builtin "object.__setattr__"))
theorem Fl.get(c:Fl K C)(f:Str):Pd K C f=true:=c.pg
def fv(K:mo)(C:B3)(f:Str):Prop:=MG K (.ref C) f=some none
theorem fv.IX{f:Str}(n:fv K C f):QG K C f=some none:=by
 unfold QG;rw[show MG K (.ref C) f=some none from n];rfl
section
variable{fs:List (Str×V)}{f:Str}
theorem vz{b:Bool}(I:Inv X pins σ H s)(e:H a=some (.ins C dx fs))(c:Fl X.K C)(n:fv X.K C f)(l:fs.lookup f=some v)(h:∀u s',Inv X pins σ H s'->RelV v u->Q u s'):IR (L0 X.prog X.w) A (getAttr (.ref a) f b) Q E s:=by
 obtain⟨mA,O,r,_,_,_⟩:=qL I.hok e;obtain⟨u,g,d⟩:=fe.some_of (v:=v) (o:=mA f) (by rw[<-l];exact r f);exact get_map I.ku O (c.get f) c.hd n g (yG d) (h u _ (I.tok _) d)
theorem uU{Q:Unit->FS->Prop}(I:Inv X pins σ H s)(e:H a=some (.ins C dx fs))(c:Fl X.K C)(n:fv X.K C f)(hl:fs.length<1000)(m:RelV y u)(h:∀s',Inv X pins σ (upd H a (.ins C dx (iB f y fs))) s'->Q () s'):IR (L0 X.prog X.w) A (setAttr (.ref a) f u) Q E s:=by
 obtain⟨mA,O,r,wi,_,i⟩:=qL I.hok e
 have k:(fs.map (·.1)).length<=sizeLine:=by rw[be,NY];lia
 refine D2 I.ku O c.sa c.po n.IX c.hd wi k λh' d l=>h _ ?_;have hd:∃o,h'.get? dx=some o:=let⟨o,_,_,e',_⟩:=d.ns;⟨o,e'⟩;refine I.write (x:=a) (e:=dx) (by rw[e];exact MO) (.inr i) (λb q p z=>(l.2 b p).trans z) hd ?_;refine⟨by rw[ak O.ne];exact i,?_,O.ne,d.obj,_,d.ns,λg=>?_,λg j=>?_⟩
 ·have :=kx f y fs;lia
 ·show fe ((iB f y fs).lookup g) (if g=f then some u else mA g);rw[km];by_cases q:g=f
  ·rw[if_pos q,if_pos q];exact m
  ·rw[if_neg q,if_neg q];exact r g
 ·by_cases q:g=f
  ·rw[q];exact(jQ f y fs).1
  ·refine(jQ f y fs).2 g (wi g λz=>j ?_);show(if g=f then some u else mA g)=none;rw[if_neg q];exact z
theorem Inv.made(I:Inv X pins σ H s):Inv X pins σ (upd (upd H s.heap.objs.size (.own (s.heap.objs.size+1))) (s.heap.objs.size+1) (.ins C s.heap.objs.size []))
  {s with heap:=(s.heap.push M4).push (Nw C s.heap.objs.size)}:=by
 have c:(s.heap.push M4).get? s.heap.objs.size=some M4:=Gc s.heap rfl
 have h:((s.heap.push M4).push (Nw C s.heap.objs.size)).get? (s.heap.objs.size+1)=some (Nw C s.heap.objs.size):=by
  have :=Gc (s.heap.push M4) (o:=Nw C s.heap.objs.size) rfl
  rwa [Ng]at this
 have f:(s.heap.push M4).Ns s.heap.objs.size (λ_=>none):=⟨M4,#[],_,c,rfl,(λe he=>absurd he (by simp)),λ_=>rfl⟩;have g:=I.laid (a:=s.heap.objs.size) (o:= .own (s.heap.objs.size+1)) (h':=s.heap.push M4) (t':=s.toks) (λb u q=>B0 _ q) (B6 _) ⟨_,c⟩;refine g.laid (a:=s.heap.objs.size+1) (o:= .ins C s.heap.objs.size []) (t':=s.toks) (λb u q=>B0 _ q) (Nat.le_of_eq (Ng _ _)) ?_;have ne:s.heap.objs.size≠s.heap.objs.size+1:=LV (Qy _);refine⟨by rw[ak ne,ae],L5 _,ne,h,λ_=>none,(Heap.Ns1.of_empty f).at λo q=>B0 _ q,λ_=>MO,λy d=>absurd rfl d⟩
theorem Dx{env:Env}{f:Str}(b:Oh e f env (M3 e env)=M3 e env)(h:IR (L0 prog w) A (M3 e env) (λo a=>IR (L0 prog w) A (getAttr o f true) Q E a) E s):IR (L0 prog w) A (M3 (.Attribute e f pos) env) Q E s:=
 Attribute_any_ h (by rw[arm_eval_Attribute,b])
end
inductive IA(K:mo)(f:Str)(Q:VK)(x:V)(H1:Hp):Prop
 |mk (a:_) (C:_) (dx:_) (fs:_) (v:_) (c0:x= .ref a) (c1:H1 a=some (.ins C dx fs)) (c2:Fl K C) (c3:fv K C f) (c4:fs.lookup f=some v) (c5:Q v H1)
def JX(K:mo)(ta:TE)(f:Str):TE:=λσ H Q=>ta σ H λx H1=>IA K f Q x H1
inductive IL(K:mo)(f:Str)(D:Ends)(σ:St)(y:V)(x:V)(H2:Hp):Prop
 |mk (a:_) (C:_) (dx:_) (fs:_) (c0:x= .ref a) (c1:H2 a=some (.ins C dx fs)) (c2:Fl K C) (c3:fv K C f) (c4:fs.length<1000) (c5:D.nx σ (upd H2 a (.ins C dx (iB f y fs))))
def KS(K:mo)(ta tv:TE)(f:Str):TS:=λD σ H=>tv σ H λy H1=>ta σ H1 λx H2=>IL K f D σ y x H2
section
variable{o value:Expr}{f:Str}{tpos:Pos}{tv:TE}
theorem hY(he:PE X e ta)(k:Oh e f X.env (M3 e X.env)=M3 e X.env):PE X (.Attribute e f pos) (JX X.K ta f):=by
 intro pins s σ H Q I h;refine Dx k (bW (he pins s σ H _ I h) λu s1 b=>?_);obtain⟨x,H1,i,j,a,C,dx,fs,v,ex,d,c,n,l,q⟩:=b;subst ex;obtain rfl:u=Kf a:=j;exact vz i d c n l λo s2 g m=>⟨v,H1,g,m,q⟩
theorem qb(ha:PE X o ta)(b:PE X value tv)(d:PX value (some (.Attribute o f pos')) pos.line X.env=pure false):PS X (.Assign [.Attribute o f pos'] value pos) (KS X.K ta tv f):=by
 intro pins s σ H D I h;refine plainObj_wpAny_Assign_Attribute (bW (b pins s σ H _ I h) λu s1 ⟨y,H1,r,e,q⟩=>bW (ha pins s1 σ H1 _ r q) λm s2 ⟨x,H2,p,g,a,C,dx,fs,ex,k,c,n,l,j⟩=>?_) d;subst ex;obtain rfl:m=Kf a:=g;exact uU p k c n l e λt i=>⟨σ,_,i,j⟩
end
section
variable{c:B5}{b:Bool}
inductive hK(K:mo)(H:Hp):V->B5->Prop where
 |non:hK K H .non (.type "NoneType")
 |bl (x:Bool):hK K H (.bl x) (.type "bool")
 |int (i:Int):hK K H (.int i) (.type "int")
 |str (x:Str):hK K H (.str x) (.type "str")
 |flt (x:UInt64):hK K H (.flt x) (.type "float")
 |lst {a:B3} {xs:List V} (e:H a=some (.lst xs)):hK K H (.ref a) (.type "list")
 |frz {a:B3} {o:Obj} {xs:List V} (e:H a=some (.frz o (.lst xs))):hK K H (.ref a) (.type "list")
 |tup {a:B3} {xs:List V} (e:H a=some (.tup xs)):hK K H (.ref a) (.type "tuple")
 |dK {a:B3} {kvs:List (Key×V)} (e:H a=some (.dK kvs)):hK K H (.ref a) (.type "dict")
 |dT {a:B3} {kvs:List (List Key×V)} (e:H a=some (.dT kvs)):hK K H (.ref a) (.type "dict")
 |ins {a C dx:B3} {fs:List (Str×V)} (e:H a=some (.ins C dx fs)) (cl:Fl K C) (ha:MG K (.ref C) "__class__"=some (some (.builtin "object.__class__")))
   (hn:PySem.W.specialIn K (.builtin "object.__class__") "__get__"=some (some (.builtin "getset_descriptor.__get__"))) (htk:PySem.W.takesIn K (.builtin "object.__class__")=some true)
   (hm:PySem.W.mroIn K C (.type "object")=some true):hK K H (.ref a) (.ref C)
theorem xT{x:V}{t:B5}(I:Inv X pins σ H s)(d:RelV x u)(ty:hK X.K H x t)(e:Oz X.K t c=some b)(h:∀tk,Q (.bool b) {s with toks:=tk}):
  IR (L0 X.prog X.w) A (call (.builtin "isinstance") [u,c]) Q E s:=by
 cases ty with
 |non=>cases(show u=ND from d);exact MT PySem.W.kitx_none I.ku MO e (λz=>nomatch z) h
 |bl y=>cases(show u=Pj y from d);exact MT PySem.W.kitx_bool I.ku MO e (λz=>nomatch z) h
 |int i=>obtain⟨t,q⟩:=(show∃t,u=Pb i t from d);cases q;exact MT PySem.W.kitx_int I.ku MO e (λz=>nomatch z) h
 |str y=>obtain⟨t,q⟩:=(show∃t,u=MU y t from d);cases q;exact MT PySem.W.kitx_str I.ku MO e (λz=>nomatch z) h
 |flt y=>obtain⟨t,q⟩:=(show∃t,u=R3 y t from d);cases q;exact MT PySem.W.kitx_float I.ku MO e (λz=>nomatch z) h
 | @lst a xs f=>
  cases(show u=Kf a from d)
  obtain⟨_,_,n,_,h1⟩:=(show cv X.prog X.w H s.heap a (.lst xs)from I.hok a _ f);exact MT SC I.ku ⟨_,h1,rfl⟩ e (λz=>nomatch z) h
 | @frz a g xs f=>
  cases(show u=Kf a from d)
  obtain⟨_,_,_,n,_,h1⟩:=(show cv X.prog X.w H s.heap a (.frz g (.lst xs))from I.hok a _ f);exact MT SC I.ku ⟨_,h1,rfl⟩ e (λz=>nomatch z) h
 | @tup a xs f=>
  cases(show u=Kf a from d)
  obtain⟨_,_,_,p⟩:=(show cv X.prog X.w H s.heap a (.tup xs)from I.hok a _ f);obtain⟨o,h1,h2,_⟩:=p;exact MT PySem.W.kitx_tuple I.ku ⟨o,h1,h2⟩ e (λz=>nomatch z) h
 | @dK a kvs f=>
  cases(show u=Kf a from d)
  obtain⟨_,_,vs,_,p⟩:=(show cv X.prog X.w H s.heap a (.dK kvs)from I.hok a _ f);obtain⟨o,es,ep,h1,h2,_⟩:=p;exact MT SD I.ku ⟨o,h1,h2.1⟩ e (λz=>nomatch z) h
 | @dT a kvs f=>
  cases(show u=Kf a from d)
  obtain⟨_,_,xs,_,o,es,ep,h1,h2,_⟩:=(show cv X.prog X.w H s.heap a (.dT kvs)from I.hok a _ f);exact MT SD I.ku ⟨o,h1,h2.1⟩ e (λz=>nomatch z) h
 | @ins a C dx fs f cl ha hn htk hm=>
  cases(show u=Kf a from d)
  obtain⟨mA,O,_⟩:=qL I.hok f;obtain⟨od,J,_⟩:=O.look;exact MT (PySem.W.kitx_own (cl.get _) cl.hd ha hn htk hm) I.ku J e (λz=>nomatch z) h
end
structure eV(k:Nat)(A:Of):Prop where
 hd:A.handled=none
 dp:A.depth+3*k+5<recursionLimit
 un:A.units+16*k+200<Np
theorem eV.mono{k:Nat}(r:eV k A)(h:j<=k):eV j A:=⟨r.hd,by have :=r.dp;lia,by have :=r.un;lia⟩
theorem eV.deeper{k:Nat}(r:eV (k+1) A)(env:Env):eV k (A.deeper env):=
 ⟨r.hd,by have :=r.dp;show A.depth+1+3*k+5<_;lia,by have :=r.un;show A.units+3+16*k+200<_;lia⟩
theorem uD:(A.under (.builtin "type.__call__" ⟨.ref C::us,kw⟩)).depth=A.depth+1:=by
 first|rfl|simp[RT,Code.weight,Code.isCreation,Code.isGuard,Code.isCaller,Code.frames,RQ,guardIds]
theorem vu:(A.under (.builtin "type.__call__" ⟨.ref C::us,kw⟩)).units=A.units+1:=by
 first|rfl|simp[RT,Code.cUnits,Code.frames,RQ]
theorem eV.make{k:Nat}(r:eV (k+1) A)(C:B3)(us:List B5)(kw:List (Str×B5)):eV k (A.under (.builtin "type.__call__" ⟨.ref C::us,kw⟩)):=
 ⟨r.hd,by have :=r.dp;rw[uD];lia,by have :=r.un;rw[vu];lia⟩
theorem eV.depth{k:Nat}(r:eV k A):A.depth<recursionLimit:=by have :=r.dp;lia
theorem eV.units{k:Nat}(r:eV k A):A.units+64<Np:=by have :=r.un;lia
def e_:TA:=λ_ H Q=>Q [] H
def cH(ta:TE)(a:TA):TA:=λσ H Q=>ta σ H λx H1=>a σ H1 λxs H2=>Q (x::xs) H2
section
variable{t:TA}
theorem ab:PA X [] e_:=λ_ _ _ _ H Q I h=>Qv ⟨[],H,I,.nil,h⟩
theorem aa(ha:PE X e te)(i:PA X es t)(b:L9 (e::es) X.env=(false,M3 e X.env)::L9 es X.env:=by rfl):PA X (e::es) (cH te t):=by
 intro pos pins s σ H Q I h;rw[b];show IR _ _ (SA ((false,M3 e X.env)::NC pos (L9 es X.env))) _ _ s;refine OW (bW (ha pins s σ H _ I h) λu s1 a=>?_);obtain⟨x,H1,d,j,g⟩:=a;exact bW (i pos pins s1 σ H1 _ d g) λus s2 ⟨xs,H2,c,f,k⟩=>⟨x::xs,H2,c,.cons j f,k⟩
inductive IZ(Q:VK)(xs:List V)(H1:Hp):Prop
 |mk (c0:xs.length<=sizeLine) (c1:∀p,H1 p=none->Q (.ref p) (upd H1 p (.tup xs)))
def Je(t:TA):TE:=λσ H Q=>t σ H λxs H1=>IZ Q xs H1
inductive Im(Q:VK)(xs:List V)(H1:Hp):Prop
 |mk (c0:xs.length<=sizeLine) (c1:∀p,H1 p=none->Q (.ref p) (upd H1 p (.lst xs)))
def KZ(t:TA):TE:=λσ H Q=>t σ H λxs H1=>Im Q xs H1
theorem aS{x1}(h:PA X es t):PE X (.Tuple es x1 pos) (Je t):=by
 intro pins s σ H Q I c;refine wpAny_Tuple_spliced (bW (h pos pins s σ H _ I c) λus s1 ⟨xs,H1,a,r,z,q⟩=>⟨by rw[<-r.length];exact z,?_⟩);have d:H1 s1.heap.objs.size=none:=a.hok.fresh (B6 _);refine⟨.ref s1.heap.objs.size,upd H1 s1.heap.objs.size (.tup xs),a.laid (t':=s1.toks) (λb u e=>B0 _ e) (B6 _) ?_,rfl,q _ d⟩;exact⟨z,us,r,⟨_,Gc _ rfl,rfl,_,rfl⟩⟩
theorem bu(h:PA X es t):PE X (.List es pos) (KZ t):=by
 intro pins s σ H Q I c;refine wpAny_List_spliced (bW (h pos pins s σ H _ I c) λus s1 ⟨xs,H1,a,r,z,q⟩=>⟨by rw[<-r.length];exact z,?_⟩);have d:H1 s1.heap.objs.size=none:=a.hok.fresh (B6 _);refine⟨.ref s1.heap.objs.size,upd H1 s1.heap.objs.size (.lst xs),a.laid (t':=s1.toks) (λb u e=>B0 _ e) (B6 _) ?_,rfl,q _ d⟩;exact⟨z,us,0,r,Gc _ rfl⟩
end
abbrev Sp:=List V->Hp->VK->XK->Prop
abbrev C_:=List Env->Hp->FS->XK->B5->FS->Prop
structure vg(P:MA)(w:MM)(K:mo)(mg:Str->Option B5)(base:MP)(A:Of)(outer:List Env)(s:FS)(H:Hp):Prop where
 frames:A.frames=some outer
 mod:Mod K mg base
 bs:∀b o,base.get? b=some o->s.heap.get? b=some o/\H b=none
 bsz:base.objs.size<=s.heap.objs.size
 jj:s.heap.FunFrames base outer
 frf:∀b∈Aj outer,H b=none
 hok:iX P w H s.heap
 bare:Po s.gens
inductive CE(outer:List Env)(P:MA)(w:MM)(H:Hp)(s:FS)(Q:VK)(u:B5)(s':FS):Prop
 |mk (v:V) (H':Hp) (c0:s'.os=s.os) (c1:Po s'.gens) (c2:Un (Aj outer) [] H H' s.heap s'.heap) (c3:iX P w H' s'.heap) (c4:RelV v u) (c5:Q v H')
def CR(CX:C_)(outer:List Env)(P:MA)(w:MM)(H:Hp)(s:FS)(Q:VK)(E:XK)(r:RC)(s':FS):Prop:=
 match r with
 | .ok (.ret u)=>CE outer P w H s Q u s'
 | .ok _=>False
 | .error e=>CX outer H s E e s'
structure aw(P:MA)(w:MM)(K:mo)(mg:Str->Option B5)(base:MP)(CX:C_)(k:Nat)(f:B3)(fd:M9)(ps:List Str)(sp:Sp):Prop where
 len:∀vs H Q E,sp vs H Q E->vs.length=ps.length
 run:∀(A:Of)(outer:List Env)(s:FS)(H:Hp)(args:Args)(us:List B5)(vs:List V)(Q:VK)(E:XK),eV k A->vg P w K mg base A outer s H->QV s fd args (ps.zip us)->Vals vs us->sp vs H Q E->
  Om (L0 P w) A (.call (.ref f) args) (CR CX outer P w H s Q E) s
theorem vg.make(e:vg P w K mg base A outer s H)(C:B3)(us:List B5)(kw:List (Str×B5)):
  vg P w K mg base (A.under (.builtin "type.__call__" ⟨.ref C::us,kw⟩)) outer s H:=⟨by first|exact e.frames|(simpa[RT,Code.envs,RQ,pushEnvs]using e.frames),e.mod,e.bs,e.bsz,e.jj,e.frf,e.hok,e.bare⟩
theorem Inv.HS(I:Inv X pins σ H s):vg X.prog X.w X.K X.mg X.base X.A X.stack s H:=
 ⟨I.ok.frames,I.ok.mod,I.bs,Mu I.ok.bsz I.sz,I.stack,I.xn,I.hok,I.bare⟩
theorem Inv.after{Q:VK}(I:Inv X pins σ H s)(h:CE X.stack X.prog X.w H s Q u s'):EP X pins σ Q u s':=by
 obtain⟨v,H',os,bare,un,hok,r,q⟩:=h;obtain⟨c,g,d,t,a⟩:=s';obtain rfl:a=s.os:=os;exact⟨v,H',I.call (h':=c) (g':=g) (d':=d) (t':=t) (ch:=[]) un hok bare (λb z=>absurd z (by simp)),r,q⟩
def hP(sp:Sp)(dvs:List V)(E:XK)(t:TA):TE:=λσ H Q=>t σ H λvs H1=>sp (vs++dvs) H1 Q E
def HP(C:B3)(sp:Sp)(dvs:List V)(E:XK)(t:TA):TE:=λσ H Q=>t σ H λvs H1=>∀x dx,H1 x=none->H1 dx=none->dx≠x->
 sp (.ref x::(vs++dvs)) (upd (upd H1 dx (.own x)) x (.ins C dx [])) (λv H2=>v= .non/\Q (.ref x) H2) E
def Binds(K:mo)(fd:M9)(ps:List Str)(ds:List B5):Prop:=
 ∀(s:FS)(us:List B5),K.In s.heap->(us++ds).length=ps.length->QV s fd ⟨us,[]⟩ (ps.zip (us++ds))
theorem Binds.all(h:∀us:List B5,us.length=ps.length->bindArgs fd ⟨us,[]⟩=pure (ps.zip us)):Binds K fd ps []:=λs us _ hl=>by
 rw[FB]at hl⊢;exact .of_eq (h us hl)
def Passes(CX:C_)(X:Cx)(E:XK):Prop:=∀(pins:List (B3×Obj))(σ:St)(H:Hp)(s:FS)(e:B5)(s':FS),Inv X pins σ H s->CX X.stack H s E e s'->X.xe e s'
variable{sp:Sp}{CX:C_}
section
variable{k:Nat}{dvs:List V}{ds:List B5}{E:XK}{o:Expr}{t:TA}
theorem Ha{Q:VK}(F:aw X.prog X.w X.K X.mg X.base CX k f fd ps sp)(d:eV k X.A)(c:Binds X.K fd ps ds)(hd:Vals dvs ds)(hx:Passes CX X E)(I:Inv X pins σ H s)(r:Vals vs us)(h:sp (vs++dvs) H Q E):IR (L0 X.prog X.w) X.A (call (.ref f) us) (EP X pins σ Q) X.xe s:=by
 have b:Vals (vs++dvs) (us++ds):=r.append hd
 have hl:(us++ds).length=ps.length:=by rw[<-b.length];exact F.len _ _ _ _ h
 refine wpAny_call (Qf (F.run X.A X.stack s H ⟨us,[]⟩ (us++ds) (vs++dvs) Q E d I.HS (c s us I.ku hl) b h) λr s' a=>?_)
 cases r with
 |error e=>exact hx pins σ H s e s' I a
 |ok fl=>
  cases fl with
  |ret u=>exact I.after a
  |next=>exact Nt a
  |brk=>exact Nt a
  |cont=>exact Nt a
theorem ED(F:aw X.prog X.w X.K X.mg X.base CX k f fd ps sp)(i:eV k X.A)(j:Gl X x)(hm:X.mg x=some (.ref f))(d:N_ X.K (.ref f)=true)(g:Binds X.K fd ps ds)(hd:Vals dvs ds)(hx:Passes CX X E)(ha:PA X (e::es) t)(a:(x==("__debug__":Str))=false:=by decide)(he:L9 (e::es) X.env=(false,M3 e X.env)::L9 es X.env:=by rfl)(b:(NC pos (L9 es X.env)).any (·.1)=false:=by rfl):
  PE X (.Call (.Name x p) (e::es) [] pos) (hP sp dvs E t):=by
 intro pins s σ H Q I h;refine Ot (qy I j hm ?_ a);refine Sr (h₀:=X.base) I.ok.mod.kin d (bW (ha pos pins s σ H _ I h) λus s1 ⟨vs,H1,c,r,q⟩=>⟨c.ku,?_⟩) he b;exact Ha F i g hd hx c r q
structure Mk(K:mo)(C f:B3):Prop where
 makes:QH K C=true
 init:MG K (.ref C) "__init__"=some (some (.ref f))
 fn:PySem.W.isFn K (.ref f)=true
 kp:N_ K (.ref C)=true
theorem zB{Q:VK}(M:Mk X.K C f)(F:aw X.prog X.w X.K X.mg X.base CX k f fd ps sp)(l:eV (k+1) X.A)(n:Binds X.K fd ps ds)(hd:Vals dvs ds)(hx:Passes CX X E)(I:Inv X pins σ H s)(r:Vals vs us)(h:∀x dx,H x=none->H dx=none->dx≠x->sp (.ref x::(vs++dvs)) (upd (upd H dx (.own x)) x (.ins C dx [])) (λv H2=>v= .non/\Q (.ref x) H2) E):
  IR (L0 X.prog X.w) X.A (call (.ref C) us) (EP X pins σ Q) X.xe s:=by
 have d:=h (s.heap.objs.size+1) s.heap.objs.size (I.hok.fresh (PN _)) (I.hok.fresh (B6 _)) (LV (Qy _));have b:=Inv.made (C:=C) I;have c:Vals (V.ref (s.heap.objs.size+1)::(vs++dvs)) (Kf (s.heap.objs.size+1)::(us++ds)):= .cons rfl (r.append hd)
 have hl:(Kf (s.heap.objs.size+1)::us++ds).length=ps.length:=by
  have e:=c.length;rw[F.len _ _ _ _ d]at e;exact e.symm
 refine wpAny_call (BR (f:=f) I.ku M.makes M.init (beq_iff_eq.mp M.fn) (Qf (F.run _ X.stack _ _ ⟨Kf (s.heap.objs.size+1)::us,[]⟩ (Kf (s.heap.objs.size+1)::(us++ds)) _ _ E (l.make C us [])
  (b.HS.make C us []) (n _ (Kf (s.heap.objs.size+1)::us) b.ku hl) c d) λr s' a=>?_))
 cases r with
 |error e=>exact hx pins σ _ _ e s' b a
 |ok fl=>
  cases fl with
  |ret u=>
   obtain⟨v,H',i,g,j,m⟩:=b.after a;subst j;exact⟨g,⟨V.ref (s.heap.objs.size+1),H',i,rfl,m⟩⟩
  |next=>exact Nt a
  |brk=>exact Nt a
  |cont=>exact Nt a
theorem Ee(M:Mk X.K C f)(F:aw X.prog X.w X.K X.mg X.base CX k f fd ps sp)(g:eV (k+1) X.A)(i:Gl X x)(hm:X.mg x=some (.ref C))(d:Binds X.K fd ps ds)(hd:Vals dvs ds)(hx:Passes CX X E)(ha:PA X (e::es) t)(a:(x==("__debug__":Str))=false:=by decide)(he:L9 (e::es) X.env=(false,M3 e X.env)::L9 es X.env:=by rfl)(b:(NC pos (L9 es X.env)).any (·.1)=false:=by rfl):
  PE X (.Call (.Name x p) (e::es) [] pos) (HP C sp dvs E t):=by
 intro pins s σ H Q I h;refine Ot (qy I i hm ?_ a);refine Sr (h₀:=X.base) I.ok.mod.kin M.kp (bW (ha pos pins s σ H _ I h) λus s1 ⟨vs,H1,c,r,q⟩=>⟨c.ku,?_⟩) he b;exact zB M F g d hd hx c r q
end
def PK(X:Cx)(kws:List O2)(t:TA):Prop:=
 ∀(pos:Pos)(pins:List (B3×Obj))(s:FS)(σ:St)(H:Hp)(Q:List V->Hp->Prop),Inv X pins σ H s->t σ H Q->IR (L0 X.prog X.w) X.A (evalAll ((NQ pos (M6 kws X.env)).map (·.2))) (AP X pins σ Q) X.xe s
section
variable{k:Nat}{ks:List Str}{E:XK}{kpos:Pos}{o:Expr}{kws:List O2}{t tk:TA}{nm:Option Str}
theorem FC:PK X [] e_:=λ_ _ _ _ H Q I h=>wpAny_evalAll_nil ⟨[],H,I,.nil,h⟩
theorem DI(ha:PE X e te)(f:PK X kws t):PK X (⟨nm,e,kpos⟩::kws) (cH te t):=by
 intro pos pins s σ H Q I h;show IR _ _ (evalAll ((do let v<-M3 e X.env;standAt pos;pure v)::(NQ pos (M6 kws X.env)).map (·.2))) _ _ s;refine wpAny_evalAll_cons (B2 (bW (ha pins s σ H _ I h) λu s1 ⟨x,H1,b,g,d⟩=>B2 (O4 (KF ?_))));exact bW (f pos pins s1 σ H1 _ b d) λus s2 ⟨xs,H2,a,c,i⟩=>⟨x::xs,H2,a,.cons g c,i⟩
variable{g:List B5->List B5->List B5}{gV:List V->List V->List V}
end
structure ay(N P:List Str)(sc:OD):Prop where
 kind:sc.kind= .function
 co:sc.isCoroutine=false
 gen:sc.isGenerator=false
 nd:N.Nodup
 pre:N.take P.length=P
 par:∀x∈P,sc.names.lookup x=some .local∨sc.names.lookup x=some .cell
 nofree:∀y∈sc.names,y.2≠ .free
theorem oH:∀{binds:List (Str×B5)}{m:Str->Option B5},(∀v,(x,v)∉binds)->Rn kindOf binds m x=m x
 |[],_,_=>rfl
 |(n,v)::r,m,h=>by
  unfold Rn;rw[oH λw a=>h w (GE _ a)]
  split
  ·have :x≠n:=by rintro rfl;exact h v Do
   simp[this]
  ·rfl
theorem pf:∀{binds:List (Str×B5)}{m:Str->Option B5},(∀v,(x,v)∉binds)->Ro kindOf binds m x=m x
 |[],_,_=>rfl
 |(n,v)::r,m,h=>by
  unfold Ro;rw[pf λw a=>h w (GE _ a)]
  split
  ·rfl
  ·have :x≠n:=by rintro rfl;exact h v Do
   simp[this]
theorem oC{v:B5}:∀{P:List Str}{vs:List B5}{i:Nat}{m:Str->Option B5},P.Nodup->P[i]? =some x->vs[i]? =some v->kindOf x=some .local->
  Rn kindOf (P.zip vs) m x=some v
 |[],_,_,_,_,h,_,_=>by simp at h
 |_::_,[],_,_,_,_,h,_=>by simp at h
 |p::P,w::vs,0,m,nd,h1,h2,a=>by
  simp at h1 h2;subst h1;subst h2;show Rn kindOf ((p,w)::P.zip vs) m p=_;unfold Rn;rw[oH λv b=>(List.nodup_cons.mp nd).1 (QK b).1,if_pos a];simp
 |p::P,w::vs,i+1,m,nd,h1,h2,a=>by
  show Rn kindOf ((p,w)::P.zip vs) m x=_;unfold Rn;exact oC (i:=i) (List.nodup_cons.mp nd).2 (by simpa using h1) (by simpa using h2) a
theorem oU{v:B5}:∀{P:List Str}{vs:List B5}{i:Nat}{m:Str->Option B5},P.Nodup->P[i]? =some x->vs[i]? =some v->kindOf x≠some .local->
  Ro kindOf (P.zip vs) m x=some v
 |[],_,_,_,_,h,_,_=>by simp at h
 |_::_,[],_,_,_,_,h,_=>by simp at h
 |p::P,w::vs,0,m,nd,h1,h2,a=>by
  simp at h1 h2;subst h1;subst h2;show Ro kindOf ((p,w)::P.zip vs) m p=_;unfold Ro;rw[pf λv b=>(List.nodup_cons.mp nd).1 (QK b).1,if_neg a];simp
 |p::P,w::vs,i+1,m,nd,h1,h2,a=>by
  show Ro kindOf ((p,w)::P.zip vs) m x=_;unfold Ro;exact oU (i:=i) (List.nodup_cons.mp nd).2 (by simpa using h1) (by simpa using h2) a
def start(N:List Str)(vs:List V):St:=vs.map some++Mo (N.length-vs.length) none
def tD(CX:C_)(P:MA)(w:MM)(K:mo)(mg:Str->Option B5)(base:MP)(N:List Str)(qual:Str)(scope:OD)(f:B3)(b:B5)(A:Of)(outer:List Env)(s:FS)(H:Hp)(E:XK):Cx where
 prog:=P
 w:=w
 K:=K
 mg:=mg
 base:=base
 A:=A.deeper (envOfC qual scope s.heap.objs.size f b)
 N:=N
 s₀:=s
 H₀:=H
 env:=envOfC qual scope s.heap.objs.size f b
 outer:=outer
 stack:=envOfC qual scope s.heap.objs.size f b::outer
 ex:=[]
 calm:=true
 fn:=λ_=>true
 pn:=[]
 xe:=λe s'=>IR (L0 P w) (A.deeper (envOfC qual scope s.heap.objs.size f b)) (leaving (envOfC qual scope s.heap.objs.size f b) e) (λ_ a=>CX outer H s E e a) (λc a=>CX outer H s E c a) s'
theorem sj{sc:OD}(h:sc.names.lookup x=some .cell):∃c,(SO n sc.names []).lookup x=some c:=by
 have q:=RE sc.names n [] (.inl h);exact Option.isSome_iff_exists.mp q
theorem zf{m:B5}{s1:FS}{E:XK}(S:ay N ps scope)(hd:A.handled=none)(d:vg P w K mg base A outer s H)(hl:vs.length=ps.length)(r:Vals vs us)(x:InCallC s s.heap.objs.size (Rn (envOfC qual scope s.heap.objs.size f m).kindOf (ps.zip us) λ_=>none) (SO (s.heap.objs.size+1) scope.names []) (Ro (envOfC qual scope s.heap.objs.size f m).kindOf (ps.zip us) λ_=>none) s1):
  Inv (tD CX P w K mg base N qual scope f m A outer s H E) [] (start N vs) H s1:=by
 have B:ps.length<=N.length:=by have :=congrArg PP S.pre;rw[NI]at this;lia
 obtain⟨h1,tk,rfl,o⟩:=x.done;have g:∀b:B3,b∉(tD CX P w K mg base N qual scope f m A outer s H E).ex:=λb z=>absurd (show b∈([]:List B3)from z) (by simp)
 refine⟨⟨d.mod,S.kind,rfl,rfl,B6 _,λy z c h1 h2=>?_,λy hy=>?_,λy c _ h=>?_,λ_=>hd,Around.frames_deeper d.frames,.inr ⟨rfl,rfl⟩,λb z=>absurd z (g b),d.bs,d.bsz,λb _ _=>g b,λb z=>absurd z (g b),d.jj,d.frf⟩,
  rfl,d.bare,Un.kept o,⟨_,x.toInCall.ns,λi y v h1 h2 D=>?_⟩,λy c h=>⟨_,x.cell y c h⟩,d.hok.fresh (B6 _),λy c h=>?_,λp j=>absurd (show p∈([]:List (B3×Obj))from j) (by simp),d.hok.kept o,?_⟩
 ·exact name_of_addr x.apart (Nj h1) (Nj h2)
 ·have hy:scope.names.lookup y=some .cell∨scope.names.lookup y=some .free:=hy
  rcases hy with hy|hy
  ·exact sj hy
  ·exact absurd rfl (S.nofree _ (Nj hy))
 ·exact Qm (x.above y c (Nj h))
 ·have hi:i<vs.length:=by
   unfold start at h2;by_cases hi:i<vs.length
   ·exact hi
   ·rw[GT (by simpa using hi)]at h2;rw[Rt]at h2
    split at h2<;>cases h2
  have ha:vs[i]? =some v:=by
   unfold start at h2;rw[LQ (by simpa using hi),B7]at h2
   cases e:vs[i]? with
   |none=>rw[e]at h2;cases h2
   |some a=>rw[e]at h2;cases h2;rfl
  obtain⟨u,t,C⟩:=r.get ha
  have j:ps[i]? =some y:=by
   rw[<-S.pre,List.getElem?_take_of_lt (by lia)];exact h1
  have l:ps.Nodup:=by rw[<-S.pre];exact S.nd.sublist (List.take_sublist _ _)
  refine⟨u,C,?_⟩
  rcases S.par y (Fk j)with k|k
  ·exact .inl ⟨k,oC l j t k⟩
  ·obtain⟨c,e⟩:=sj (n:=s.heap.objs.size+1) k;refine .inr ⟨.inl k,c,e,?_⟩;have q:=x.cell y c e;rw[oU l j t (by show scope.names.lookup y≠_;rw[k];decide)]at q;exact q
 ·exact d.hok.fresh (Qm (x.above y c (Nj h)))
 ·unfold start;show _=N.length;rw[B1,be,NT]
  lia
theorem Jr{k:Nat}{a:Arguments}{B kV doc pm cdv ct oc:B5}{an od:Option B3}{osl:Array (Option B5)}(lk:K.lookup f=some ⟨oc,od,.func (NL name qual a body scope B kV doc pm an cdv ct),osl⟩)(z:PL K cdv qual=true)(S:ay N ps scope)(len:∀vs H Q E,sp vs H Q E->vs.length=ps.length)(d:∀(A:Of)(outer:List Env)(s:FS)(H:Hp)(vs:List V)(Q:VK)(E:XK),eV k (A.deeper (envOfC qual scope s.heap.objs.size f cdv))->sp vs H Q E->
   ∃t,u_ (tD CX P w K mg base N qual scope f cdv A outer s H E) body t/\t {nx:=λ_ H'=>Q .non H',rt:=Q} (start N vs) H):
  aw P w K mg base CX (k+1) f (NL name qual a body scope B kV doc pm an cdv ct) ps sp:=by
 refine⟨len,λA outer s H args us vs Q E p i L r h=>?_⟩;have hl:=len _ _ _ _ h;have C:K.In s.heap:=i.mod.kin.keeps λb o e=>(i.bs b o e).1;have l:s.heap.NoLimit:=i.mod.nolimit.keeps λb o e=>(i.bs b o e).1
 have c:∀y∈ps.zip us,scope.names.lookup y.1=some .local∨(scope.names.lookup y.1=some .cell/\((SO (s.heap.objs.size+1) scope.names []).lookup y.1).isSome=true):=λ⟨n,v⟩ D=>by
  rcases S.par n (QK D).1 with q|q
  ·exact .inl q
  ·exact .inr ⟨q,RE _ _ _ (.inl q)⟩
 refine codeAny_call_function p.depth (C _ _ lk) rfl S.co S.gen rfl (PySem.W.codeRec_of C z) (L _ _ _ _ ?_);refine wpAny_newFunctionEnv_cells S.kind c λenv he s1 x=>?_;subst he;refine⟨l.keeps x.toInCall.keep,codeAny_func ?_⟩;obtain⟨t,F,G⟩:=d A outer s H vs Q E (p.deeper _) h;have I:Inv (tD CX P w K mg base N qual scope f cdv A outer s H E) [] (start N vs) H s1:=zf S p.hd i hl r x;refine M_ (F [] s1 (start N vs) H _ I G) (λfl s' g=>?_) λe s' g=>g
 have j:∀{σ':St}{H':Hp}{v:V}{u:B5},Inv (tD CX P w K mg base N qual scope f cdv A outer s H E) [] σ' H' s'->RelV v u->Q v H'->CE outer P w H s Q u s':=
  λ{σ' H' v u} J m q=>⟨v,H',J.os,J.bare,J.base,J.hok,m,q⟩
 cases fl with
 |ret u=>
  obtain⟨v,σ',H',J,m,q⟩:=g;exact j J m q
 |next=>
  obtain⟨σ',H',J,q⟩:=g;exact j (v:=V.non) (u:=ND) J rfl q
 |brk=>
  obtain⟨_,_,_,q⟩:=g;exact Nt q
 |cont=>
  obtain⟨_,_,_,q⟩:=g;exact Nt q
section
variable{t:TA}{id T:String}{r:List V->Hp->VK->Prop}
def Ao(r:List V->Hp->VK->Prop)(t:TA):TE:=λσ H Q=>t σ H λvs H1=>r vs H1 Q
theorem aF(d:dB X (.builtin id) r)(k:Gl X x)(hm:X.mg x=none)(f:NK x=some (.builtin id))(ha:PA X (e::es) t)(hn:x≠"__name__":=by decide)(b:(x==("__debug__":Str))=false:=by decide)(he:L9 (e::es) X.env=(false,M3 e X.env)::L9 es X.env:=by rfl)(c:(NC pos (L9 es X.env)).any (·.1)=false:=by rfl):PE X (.Call (.Name x p) (e::es) [] pos) (Ao r t):=by
 intro pins s σ H Q I h;refine Ot (eI I k hm f ?_ hn b);exact PyProof.Rows.callWith_builtin1 (bW (ha pos pins s σ H _ I h) λus s1 a=>by obtain⟨vs,H1,g,j,i⟩:=a;exact d pins s1 σ H1 vs us Q g j i) he c
theorem aH(d:dB X (.type T) r)(k:Gl X x)(hm:X.mg x=none)(f:NK x=some (.type T))(ha:PA X (e::es) t)(hn:x≠"__name__":=by decide)(b:(x==("__debug__":Str))=false:=by decide)(he:L9 (e::es) X.env=(false,M3 e X.env)::L9 es X.env:=by rfl)(c:(NC pos (L9 es X.env)).any (·.1)=false:=by rfl):PE X (.Call (.Name x p) (e::es) [] pos) (Ao r t):=by
 intro pins s σ H Q I h;refine Ot (eI I k hm f ?_ hn b);exact Mq (bW (ha pos pins s σ H _ I h) λus s1 a=>by obtain⟨vs,H1,g,j,i⟩:=a;exact d pins s1 σ H1 vs us Q g j i) he c
end
end L2
namespace HT
open PySem PyProof.Rows
section
variable{prog:MA}{w:MM}{A:Of}{E:B5->FS->Prop}{s:FS}
theorem C3{t b:B3}{vs ws:List B5}{Q:B5->FS->Prop}(p:IsTup s.heap t vs.toArray)(q:IsTup s.heap b ws.toArray)(l:vs≠[])(h1:ws=[]->Q (.ref t) s)(h2:ws≠[]->Q (.ref s.heap.objs.size) {s with heap:=s.heap.push {cls:= .type "tuple",data:= .seq (vs++ws).toArray}})(hsz:vs.length+ws.length<=sizeLine):IR (L0 prog w) A (NH .Add (.ref t) (.ref b)) Q E s:=by
 obtain⟨⟨cls,dd,data,sl⟩,h,o,n,hd⟩:=id p;obtain⟨⟨k,c,j,d⟩,a,g,m,f⟩:=id q;simp only at o hd g f;subst o hd g f
 have e:vs.toArray++ws.toArray=(vs++ws).toArray:=by simp
 by_cases i:ws=[]
 ·exact RB ⟨_,h,rfl⟩ ⟨_,a,rfl⟩ Qx Rg Pk Pe (O8 _ _)
   (tuple_addW1 t b vs.toArray ws.toArray n m dd c sl d (by simpa using l) (by simp[i])) ⟨h,a,h1 i⟩
 ·refine RB ⟨_,h,rfl⟩ ⟨_,a,rfl⟩ Qx Rg Pk Pe (O8 _ _)
   (tuple_addW2 t b vs.toArray ws.toArray n m dd c sl d (by simpa using l) (by simpa using i) (by rw[B4,B4];exact hsz)) ⟨h,a,?_⟩
  rw[e];exact h2 i
def oO(n d:Nat):Option Int->Nat
 |none=>d
 |some v=>if v<0 then(v+(n:Int)).toNat else min v.toNat n
theorem rz(n d:Nat):oO n d none=d:=rfl
theorem wU(n d k:Nat):oO n d (some (k:Int))=min k n:=by
 show(if(k:Int)<0 then((k:Int)+(n:Int)).toNat else min (k:Int).toNat n)=min k n;rw[if_neg (by lia),Qt]
end
end HT
namespace L2
open PySem PySem.Spec PyProof.Rows
abbrev TO:=St->Hp->(Option Int->Hp->Prop)->Prop
def PO(X:Cx)(e:Option Expr)(t:TO):Prop:=
 ∀(pins:List (B3×Obj))(s:FS)(σ:St)(H:Hp)(Q:Option Int->Hp->Prop),Inv X pins σ H s->t σ H Q->
  IR (L0 X.prog X.w) X.A (evalPart e X.env) (λu s'=>∃o H',Inv X pins σ H' s'/\IsPart u o/\Q o H') X.xe s
def wR:TO:=λ_ H Q=>Q none H
inductive G9(Q:Option Int->Hp->Prop)(x:V)(H1:Hp):Prop
 |mk (i:_) (c0:x= .int i) (c1:Q (some i) H1)
def Fc(t:TE):TO:=λσ H Q=>t σ H λx H1=>G9 Q x H1
theorem intsAre_of{ns:List Int}:∀{us:List B5},Vals (ns.map V.int) us->QR us ns:=by
 induction ns with
 |nil=>intro us r;rw[Qo]at r;cases r;exact .nil
 |cons n ns b=>
  intro us r;rw[Mc]at r
  cases r with
  |cons c a=>
   obtain⟨t,e⟩:=c;subst e;exact .cons n t (b a)
variable{X:Cx}{e:Expr}{pos:Pos}{us its its':List B5}{xs ys:List V}{i:Int}{j n t':Nat}{A:Of}{H:Hp}{T:String}{p:B3}{pins:List (B3×Obj)}{s:FS}{u v:B5}{x y:V}{σ:St}
section
variable{te:TE}{lo hi:Option Expr}{tl th:TO}{p2:Pos}
theorem jq:PO X none wR:=by
 intro pins s σ H Q I h;rw[evalPart_none];exact KF ⟨none,H,I,.none,h⟩
theorem jr(h:PE X e te):PO X (some e) (Fc te):=by
 intro pins s σ H Q I c;rw[evalPart_some];refine bW (h pins s σ H _ I c) λu s1 a=>?_;obtain⟨x,H1,b,f,d⟩:=a;obtain⟨i,rfl,q⟩:=d;obtain⟨t,rfl⟩:=f;exact⟨some i,H1,b,.int i t,q⟩
def Kg(X:Cx)(r:V->Option Int->Option Int->Hp->VK->Prop):Prop:=
 ∀(pins:List (B3×Obj))(s:FS)(σ:St)(H:Hp)(x:V)(v a b:B5)(lo hi:Option Int)(sl:B3)(Q:VK),Inv X pins σ H s->RelV x v->s.heap.IsSliceOf sl a b .none->IsPart a lo->IsPart b hi->r x lo hi H Q->
  ∃T id,Sg (.type T) "__getitem__"=pure (some (.builtin id))/\s.TypeIs v T/\IR (L0 X.prog X.w) X.A (QP v (.ref sl)) (EP X pins σ Q) X.xe s
def Ld(r:V->Option Int->Option Int->Hp->VK->Prop)(te:TE)(tl th:TO):TE:=λσ H Q=>te σ H λx H1=>tl σ H1 λl H2=>th σ H2 λu H3=>r x l u H3 Q
theorem hC{r:V->Option Int->Option Int->Hp->VK->Prop}(z:Kg X r)(he:PE X e te)(hl:PO X lo tl)(D:PO X hi th):PE X (.Subscript e (.Slice lo hi none p2) pos) (Ld r te tl th):=by
 intro pins s σ H Q I h;refine Sk (bW (he pins s σ H _ I h) λv s1 c=>?_);obtain⟨x,H1,t,B,j⟩:=c;refine wpAny_Slice (bW (hl pins s1 σ H1 _ t j) λd s2 ⟨l,H2,p,pl,n⟩=>bW (D pins s2 σ H2 _ p n) λf a c=>?_);obtain⟨u,H3,k,g,m⟩:=c;rw[evalPart_none];refine KF ?_;have o:Inv X pins σ H3 {a with heap:=a.heap.push {cls:= .type "slice",data:= .fields #[d,f,.none]}}:=k.kept (t':=a.toks) λb E q=>B0 _ q;obtain⟨T,id,i,y,C⟩:=z pins {a with heap:=a.heap.push {cls:= .type "slice",data:= .fields #[d,f,.none]}} σ H3 x v d f l u a.heap.objs.size Q o B (Heap.IsSliceOf.new ..) pl g m;show IR (L0 X.prog X.w) X.A (Rf e (.Slice lo hi none p2) v (.ref a.heap.objs.size)) (EP X pins σ Q) X.xe {a with heap:=a.heap.push {cls:= .type "slice",data:= .fields #[d,f,.none]}};exact tail_any (ops:=[.ref a.heap.objs.size,v]) y i C (by with_unfolding_all rfl)
def nM(xs:List V)(lo hi:Option Int):List V:=(xs.drop (HT.oO xs.length 0 lo)).take (HT.oO xs.length xs.length hi-HT.oO xs.length 0 lo)
theorem tm(xs:List V)(lo hi:Option Int):(nM xs lo hi).length<=xs.length:=by
 unfold nM;rw[NI,MX]
 lia
def Jm(K:mo):R2:=λx y H Q=>∃a b xs ys,x= .ref a/\y= .ref b/\aT K H a xs/\aT K H b ys/\xs≠[]/\xs.length+ys.length<=sizeLine/\
 (ys=[]->Q (.ref a) H)/\(ys≠[]->∀p,H p=none->Q (.ref p) (upd H p (.tup (xs++ys))))
theorem Vals.qC(r:Vals xs us):us=[]↔xs=[]:=by
 cases r with
 |nil=>simp
 |cons _ _=>simp
theorem wH:hV X (NH .Add) (Jm X.K):=by
 intro pins s σ H x y v u Q I g i h;obtain⟨a,b,xs,ys,rfl,rfl,ha,m,hx,e,j,k⟩:=h
 cases g
 cases i
 obtain⟨its,d,l,_⟩:=I.tuple ha;obtain⟨f,c,p2,_⟩:=I.tuple m;refine HT.C3 l p2 (λz=>hx (d.qC.mp z)) (λz=>⟨.ref a,H,I,rfl,j (c.qC.mp z)⟩) (λz=>?_) (by rw[<-d.length,<-c.length];exact e);refine⟨.ref s.heap.objs.size,_,I.laid (t':=s.toks) (o:= .tup (xs++ys)) (λb n q=>B0 _ q) (B6 _) ?_,rfl,k (λw=>z (c.qC.mpr w)) _ (I.hok.fresh (B6 _))⟩;exact⟨by rw[B1];exact e,_,d.append c,SY _ _⟩
end
def FN(n:Nat)(i:Int):Option Nat:=if 0<=i then(if i<n then some i.toNat else none)else if -(n:Int)<=i then some (i+n).toNat else none
def iY{α:Type}(xs:List α)(i:Int):Option α:=(FN xs.length i).bind λj=>xs[j]?
theorem vX(h:FN n i=some j):seqIndex? i n=some j/\j<n/\ -(n:Int)<=i/\i<n:=by
 unfold FN at h;by_cases h0:0<=i
 ·rw[if_pos h0]at h;by_cases h1:i<n
  ·rw[if_pos h1]at h;have e:i.toNat=j:=L6 h;exact⟨by rw[R1 h0 h1,e],by lia,by lia,h1⟩
  ·rw[if_neg h1]at h;cases h
 ·rw[if_neg h0]at h;by_cases h1: -(n:Int)<=i
  ·rw[if_pos h1]at h;have e:(i+n).toNat=j:=L6 h;exact⟨by rw[Ry (by lia) h1,e],by lia,h1,by lia⟩
  ·rw[if_neg h1]at h;cases h
theorem qr{α:Type}{xs:List α}{v:α}(h:iY xs i=some v):∃j,seqIndex? i xs.length=some j/\xs[j]? =some v/\j<xs.length/\ -(xs.length:Int)<=i/\i<xs.length:=by
 unfold iY at h
 cases e:FN xs.length i with
 |none=>rw[e]at h;cases h
 |some j=>
  rw[e]at h;obtain⟨h1,h2,b,a⟩:=vX e;exact⟨j,h1,h,h2,b,a⟩
theorem aA{α:Type}{xs:List α}{v:α}(h:xs[j]? =some v):iY xs (j:Int)=some v:=by
 have a:j<xs.length:=(List.getElem?_eq_some_iff.mp h).1
 have e:FN xs.length (j:Int)=some j:=by
  unfold FN;rw[if_pos (by lia),if_pos (by lia)];simp
 unfold iY;rw[e];exact h
def Di(b:Expr):Prop:=∀o i,QC b false o i=operate [o,i] (QP o i)
def JS(X:Cx)(r:R2):Prop:=
 ∀(value slice:Expr)(pins:List (B3×Obj))(s:FS)(σ:St)(H:Hp)(x y:V)(v u:B5)(Q:VK),Inv X pins σ H s->RelV x v->RelV y u->r x y H Q->
  QC slice false v u=operate [v,u] (QP v u)->IR (L0 X.prog X.w) X.A (Rf value slice v u) (EP X pins σ Q) X.xe s
def JT(X:Cx)(id:String)(r:V->List V->Hp->VK->Prop):Prop:=
 ∀(pins:List (B3×Obj))(s:FS)(σ:St)(H:Hp)(x:V)(xs:List V)(v:B5)(us:List B5)(Q:VK),Inv X pins σ H s->RelV x v->Vals xs us->r x xs H Q->
  IR (L0 X.prog X.w) X.A (call (.builtin id) (v::us)) (EP X pins σ Q) X.xe s
section
variable{a b:Expr}{ta tb:TE}
theorem ax{r:R2}(i:JS X r)(ha:PE X a ta)(g:PE X b tb)(c:Di b):PE X (.Subscript a b pos) (xI r ta tb):=by
 intro pins s σ H Q I h;exact Sk (FK ha g I h λv u s2 x y H2 d e f q=>i a b pins s2 σ H2 x y v u Q d e f q (c _ _))
inductive IE(K:mo)(x:V)(y:V)(H:Hp)(Q:VK):Prop
 |mk (p:_) (xs:_) (i:_) (v:_) (c0:x= .ref p) (c1:y= .int i) (c2:bg K H p xs) (c3:iY xs i=some v) (c4:Q v H)
def Hi(K:mo):R2:=λx y H Q=>IE K x y H Q
inductive Il(K:mo)(x:V)(y:V)(H:Hp)(Q:VK):Prop
 |mk (p:_) (xs:_) (i:_) (v:_) (c0:x= .ref p) (c1:y= .int i) (c2:aT K H p xs) (c3:iY xs i=some v) (c4:Q v H)
def A2(K:mo):R2:=λx y H Q=>Il K x y H Q
inductive Jx(x:V)(y:V)(H:Hp)(Q:VK):Prop
 |mk (z:_) (i:_) (c:_) (c0:x= .str z) (c1:y= .int i) (c2:z.length<=sizeLine) (c3:iY z.cps.toList i=some c) (c4:Q (.str ⟨#[c]⟩) H)
def Kn:R2:=λx y H Q=>Jx x y H Q
theorem bF:JS X (Hi X.K):=by
 intro value slice pins s σ H x y v u Q I g k h d;obtain⟨p,xs,i,z,rfl,rfl,m,he,q⟩:=h
 cases g
 obtain⟨t,rfl⟩:=k;obtain⟨its,r,pl,o⟩:=I.list m;obtain⟨j,h1,h2,n,l,f⟩:=qr he;obtain⟨w,e,b⟩:=r.get h2;have hl:=r.length;have hn:=iU;have a:EP X pins σ Q w s:=⟨z,H,I,b,q⟩;by_cases h0:0<=i
 ·have c:i.toNat=j:=by
   rw[R1 h0 f]at h1;exact L6 h1
  exact item_listR pl.isList h0 (by lia) (by rw[c];simpa using e) a d
 ·have c:(i+(its.toArray.size:Int)).toNat=j:=by
   rw[Ry (by lia) l]at h1;rw[B4,<-hl];exact L6 h1
  exact Rx (x:=w) pl.isList.typeIs slot_list_getitem.lookup
   (wpAny_getItem_list_neg (Q:=λr s'=>r=w/\EP X pins σ Q r s') pl.isList (by lia) (by rw[B4]<;>lia) (by lia) (by rw[c];simpa using e) ⟨rfl,a⟩) d
theorem av:JS X (A2 X.K):=by
 intro value slice pins s σ H x y v u Q I e f h c;obtain⟨p,xs,i,z,rfl,rfl,g,he,q⟩:=h
 cases e
 obtain⟨t,rfl⟩:=f;obtain⟨its,r,pl,n⟩:=I.tuple g;obtain⟨j,h1,h2,l,m,k⟩:=qr he;obtain⟨w,d,a⟩:=r.get h2;have hl:=r.length;have hn:=iU;have b:EP X pins σ Q w s:=⟨z,H,I,a,q⟩
 exact Rx (x:=w) pl.typeIs slot_tuple_getitem.lookup
  (getItem_tuple (j:=j) (Q:=λr s'=>r=w/\EP X pins σ Q r s') pl (by lia) (by lia) (by rw[B4,<-hl];exact h1) (by simpa using d) ⟨rfl,b⟩) c
theorem qO:JS X Kn:=by
 intro value slice pins s σ H x y v u Q I f g h b;obtain⟨z,i,c,rfl,rfl,m,he,q⟩:=h;obtain⟨t,rfl⟩:=f;obtain⟨t',rfl⟩:=g;obtain⟨j,h1,h2,l,k,e⟩:=qr he
 have hl:z.cps.toList.length=z.length:=by simp[Str.length]
 rw[hl]at h1 k e;have hn:=iU
 exact tail_any (Ou s z t) slot_str_getitem.lookup (getItem_str (c:=c) (by
  have a:decide (i< -(2^63:Int))=false:=decide_eq_false (by lia);have d:decide (i≥2^63)=false:=decide_eq_false (by lia)
  rw[a,d,P8]) (by rw[h1];simpa using h2) ⟨.str ⟨#[c]⟩,H,I.tok _,⟨_,rfl⟩,q⟩) b
theorem uF(its:List B5)(n j:Nat)(u:B5):Nr (·.setIfInBounds j u) {cls:= .type "list",data:= .seq its.toArray n}={cls:= .type "list",data:= .seq (its.set j u).toArray n}:=by
 simp[Nr]
theorem Inv.lst{pins:List (B3×Obj)}{σ:St}{H:Hp}{s:FS}{p:B3}{xs:List V}(I:Inv X pins σ H s)(h:H p=some (.lst xs)):
  ∃(its:List B5)(n:Nat),Vals xs its/\s.heap.get? p=some {cls:= .type "list",data:= .seq its.toArray n}/\xs.length<=sizeLine:=by
 obtain⟨z,its,n,r,e⟩:=I.hok p _ h;exact⟨its,n,r,e,z⟩
theorem Inv.Gw{a:Nat}{f:Obj->Obj}(I:Inv X pins σ H s)(h:H p=some (.lst xs))(g:s.heap.get? p=some {cls:= .type "list",data:= .seq its.toArray n})(c:f {cls:= .type "list",data:= .seq its.toArray n}={cls:= .type "list",data:= .seq its'.toArray a})(r:Vals ys its')(hz:ys.length<=sizeLine)(t:Nat):
  Inv X pins σ (upd H p (.lst ys)) {s with heap:=s.heap.update p f,toks:=t}:=by
 have e:(s.heap.update p f).get? p=some {cls:= .type "list",data:= .seq its'.toArray a}:=by
  rw[M8 f g (by rw[c]<;>rfl),c]
 refine I.write (x:=p) (e:=p) (by rw[h];trivial) (.inl rfl) (λb u d q=>(My _ _ (Da d)).trans q) ⟨_,e⟩ ?_;exact⟨hz,its',a,r,e⟩
def Ie:V->V->V->Hp->(Hp->Prop)->Prop:=λo i v H Q=>∃p xs k j,o= .ref p/\i= .int k/\H p=some (.lst xs)/\FN xs.length k=some j/\Q (upd H p (.lst (xs.set j v)))
theorem set_list:HG X Ie:=by
 intro pins s σ H o i v y z u Q I l g x h;obtain⟨p,xs,k,j,rfl,rfl,d,m,q⟩:=h
 cases l
 obtain⟨t,rfl⟩:=g;obtain⟨its,n,r,a,w⟩:=I.lst d;obtain⟨h1,h2,c,e⟩:=vX m;have hl:=r.length;have hn:=iU
 have f:Inv X pins σ (upd H p (.lst (xs.set j v))) {s with heap:=s.heap.update p (Nr (·.setIfInBounds j u))}:=
  I.Gw d a (uF its n j u) (r.set x j) (by rw[List.length_set];exact w) s.toks
 by_cases h0:0<=k
 ·have b:k.toNat=j:=by
   rw[R1 h0 e]at h1;exact L6 h1
  exact PySem.W.ki_setAt a h0 (by lia) (by rw[B4,<-hl];exact e) (by rw[b];exact⟨_,f,q⟩)
 ·have b:(k+(its.toArray.size:Int)).toNat=j:=by
   rw[Ry (by lia) c]at h1;rw[B4,<-hl];exact L6 h1
  exact PySem.W.ki_setBack a (by lia) (by rw[B4,<-hl];exact c) (by lia) (by rw[b];exact⟨_,f,q⟩)
theorem pY(lo hi:Option Int)(n:Nat):(OK lo hi none n).1=((HT.oO n 0 lo:Nat):Int)/\(OK lo hi none n).2.1=((HT.oO n n hi:Nat):Int)/\(OK lo hi none n).2.2=1:=by
 refine⟨?_,?_,rfl⟩
 ·cases lo with
  |none=>simp[OK,HT.oO]
  |some i=>
   simp only[OK,HT.oO,SR,show(1:Int)>0 by decide,if_true];by_cases h:i<0
   ·simp only[h,if_true]<;>lia
   ·simp only[h,if_false]<;>lia
 ·cases hi with
  |none=>simp[OK,HT.oO]
  |some i=>
   simp only[OK,HT.oO,SR,show(1:Int)>0 by decide,if_true];by_cases h:i<0
   ·simp only[h,if_true]<;>lia
   ·simp only[h,if_false]<;>lia
theorem oh(its:List B5)(lo hi:Option Int):slicePick its.toArray lo hi none=((its.drop (HT.oO its.length 0 lo)).take (HT.oO its.length its.length hi-HT.oO its.length 0 lo)).toArray:=by
 obtain⟨h1,h2,a⟩:=pY lo hi its.toArray.size;unfold slicePick;rw[h1,h2,a];simp only[sliceRange_one,pick_run,B4]<;>rfl
inductive IM(K:mo)(x:V)(lo:Option Int)(hi:Option Int)(H:Hp)(Q:VK):Prop
 |mk (a:_) (xs:_) (c0:x= .ref a) (c1:bg K H a xs) (c2:∀p,H p=none->Q (.ref p) (upd H p (.lst (nM xs lo hi))))
def Iv(K:mo):V->Option Int->Option Int->Hp->VK->Prop:=λx lo hi H Q=>IM K x lo hi H Q
theorem qv:Kg X (Iv X.K):=by
 intro pins s σ H x v j l lo hi sl Q I i f pl e h;obtain⟨a,xs,rfl,hx,q⟩:=h
 cases i
 obtain⟨its,r,d,g⟩:=I.list hx;have c:=r.length;refine⟨"list",_,slot_list_getitem.lookup,d.isList.typeIs,?_⟩;refine wpAny_getItem_list_slice d.isList f pl e .none (by simp) ?_ (by rw[B4]<;>lia);rw[oh,<-c];refine⟨.ref s.heap.objs.size,_,I.laid (t':=s.toks) (o:= .lst (nM xs lo hi)) (λb k q=>B0 _ q) (B6 _) ?_,rfl,q _ (I.hok.fresh (B6 _))⟩;exact⟨Mu (tm xs lo hi) g,_,0,(r.drop (HT.oO xs.length 0 lo)).take (HT.oO xs.length xs.length hi-HT.oO xs.length 0 lo),Gc _ rfl⟩
def eX:V->Bool
 | .non=>true
 | .bl _=>true
 | .int _=>true
 | .str _=>true
 |_=>false
def qT:V->V->Bool
 | .non,.non=>true
 | .bl a,.bl b=>a==b
 | .bl a,.int b=>(if a then 1 else 0)==b
 | .int a,.bl b=>a==(if b then 1 else 0)
 | .int a,.int b=>a==b
 | .str a,.str b=>a==b
 |_,_=>false
theorem uI(d:RelV y u)(c:RelV x v)(fy:eX y=true)(fx:eX x=true):QY A s u v (qT y x):=by
 cases y with
 |non=>
  cases d
  cases x with
  |non=>cases c;exact SeqAt.EqAt.same _
  |bl b=>cases c;exact SeqAt.EqAt.none_bool b
  |int b=>obtain⟨t,rfl⟩:=c;exact SeqAt.EqAt.none_int b t
  |str b=>obtain⟨t,rfl⟩:=c;exact SeqAt.EqAt.none_str b t
  |_=>exact absurd (show false=true from fx) GM
 |bl a=>
  cases d
  cases x with
  |non=>cases c;exact SeqAt.EqAt.bool_none a
  |bl b=>cases c;exact SeqAt.EqAt.bool_bool a b
  |int b=>obtain⟨t,rfl⟩:=c;exact SeqAt.EqAt.bool_int a b t
  |str b=>obtain⟨t,rfl⟩:=c;exact SeqAt.EqAt.bool_str a b t
  |_=>exact absurd (show false=true from fx) GM
 |int a=>
  obtain⟨t',rfl⟩:=d
  cases x with
  |non=>cases c;exact SeqAt.EqAt.int_none a t'
  |bl b=>cases c;exact SeqAt.EqAt.int_bool a t' b
  |int b=>obtain⟨t,rfl⟩:=c;exact SeqAt.EqAt.int_int a t' b t
  |str b=>obtain⟨t,rfl⟩:=c;exact Sn a t' b t
  |_=>exact absurd (show false=true from fx) GM
 |str a=>
  obtain⟨t',rfl⟩:=d
  cases x with
  |non=>cases c;exact SeqAt.EqAt.str_none a t'
  |bl b=>cases c;exact SeqAt.EqAt.str_bool a t' b
  |int b=>obtain⟨t,rfl⟩:=c;exact Sl a t' b t
  |str b=>obtain⟨t,rfl⟩:=c;exact SeqAt.EqAt.str_str a t' b t
  |_=>exact absurd (show false=true from fx) GM
 |_=>exact absurd (show false=true from fy) GM
def DE(x:V)(u:B5):Bool:=match u with
 | .none=>qT .non x
 | .bool b=>qT (.bl b) x
 | .int i _=>qT (.int i) x
 | .str z _=>qT (.str z) x
 |_=>false
theorem BZ(r:RelV y u)(f:eX y=true):DE x u=qT y x:=by
 cases y with
 |non=>cases r;rfl
 |bl b=>cases r;rfl
 |int i=>obtain⟨t,rfl⟩:=r;rfl
 |str z=>obtain⟨t,rfl⟩:=r;rfl
 |_=>exact absurd (show false=true from f) GM
theorem pF:∀{xs:List V}{us:List B5},Vals xs us->xs.all eX=true->us.any (DE x)=xs.any λy=>qT y x
 |_,_,.nil,_=>rfl
 |y::xs,u::us,.cons r t,f=>by
  rw[Oi,M0]at f;rw[OJ,OJ,BZ r f.1,pF t f.2]
theorem lD(a:RelV x v)(fx:eX x=true):∀{xs:List V}{us:List B5},Vals xs us->xs.all eX=true->∀u∈us,QY A s u v (DE x u)
 |_,_,.nil,_=>λu hu=>by cases hu
 |y::xs,u::us,.cons r t,f=>λb hu=>by
  rw[Oi,M0]at f
  rcases List.mem_cons.mp hu with rfl|hu
  ·rw[BZ r f.1];exact uI r a f.1 fx
  ·exact lD a fx t f.2 b hu
def gB(x:V)(xs:List V):Bool:=xs.any λy=>qT y x
def uK(K:mo)(a:Bool):R2:=λx y H Q=>∃p xs,y= .ref p/\(bg K H p xs∨aT K H p xs)/\eX x=true/\xs.all eX=true/\Q (.bl (if a then !gB x xs else gB x xs)) H
theorem cu:hV X (MR .In) (uK X.K false):=by
 intro pins s σ H x y v u Q I b d h;obtain⟨p,xs,rfl,hq,fx,fs,q⟩:=h
 cases d
 rcases hq with hq|hq
 ·obtain⟨its,r,pl,c⟩:=I.list hq;refine SeqAt.in_listAt (DE x) pl.isList (λw a=>lD b fx r fs w (by simpa using a)) ⟨.bl _,H,I,rfl,?_⟩;rw[show its.toArray.any (DE x)=its.any (DE x)by simp,pF r fs];exact q
 ·obtain⟨its,r,pl,c⟩:=I.tuple hq;refine SeqAt.in_tupleAt (DE x) pl (λw a=>lD b fx r fs w (by simpa using a)) ⟨.bl _,H,I,rfl,?_⟩;rw[show its.toArray.any (DE x)=its.any (DE x)by simp,pF r fs];exact q
theorem br:dB X (.builtin "len") (λxs H Q=>∃p ys,xs=[.ref p]/\(bg X.K H p ys∨aT X.K H p ys)/\Q (.int ys.length) H):=by
 intro pins s σ H xs us Q I r h;obtain⟨p,ys,rfl,hq,q⟩:=h;obtain⟨u,rfl,c⟩:=vals1 r
 cases c
 have hn:=iU
 rcases hq with hq|hq
 ·obtain⟨its,r',pl,b⟩:=I.list hq;have a:=r'.length;exact Calls.call_len_list pl.isList (by simp only[B4]<;>lia) ⟨.int ys.length,H,I.tok _,⟨s.toks+1,by rw[B4,a]⟩,q⟩
 ·obtain⟨its,r',pl,b⟩:=I.tuple hq;have a:=r'.length;exact len_tuple pl (by simp only[B4]<;>lia) ⟨.int ys.length,H,I.tok _,⟨s.toks+1,by rw[B4,a]⟩,q⟩
theorem cT:dB X (.builtin "len") (λxs H Q=>∃z,xs=[.str z]/\z.length<=sizeLine/\Q (.int z.length) H):=by
 intro pins s σ H xs us Q I r h;obtain⟨z,rfl,a,q⟩:=h;obtain⟨u,rfl,t,rfl⟩:=vals1 r;have hn:=iU;exact len_str (by lia) ⟨.int z.length,H,I.tok _,⟨_,rfl⟩,q⟩
theorem gn:dB X (.type "list") (λxs H Q=>∃p ys,xs=[.ref p]/\(bg X.K H p ys∨aT X.K H p ys)/\∀l,H l=none->Q (.ref l) (upd H l (.lst ys))):=by
 intro pins s σ H xs us Q I r h;obtain⟨p,ys,rfl,hq,q⟩:=h;obtain⟨u,rfl,j⟩:=vals1 r
 cases j
 have f:∀(its:List B5),Vals ys its->ys.length<=sizeLine->∀(h':MP)(a:Nat),(∀b o',s.heap.get? b=some o'->h'.get? b=some o')->
   h'.get? s.heap.objs.size=some {cls:= .type "list",dict:=none,data:= .seq its.toArray a,slots:=#[]}->EP X pins σ Q (.ref s.heap.objs.size) {s with heap:=h'}:=λits r' d h' a kp e=>
  ⟨.ref s.heap.objs.size,_,I.laid (t':=s.toks) kp (B6 _) (show cv X.prog X.w _ h' _ (.lst ys)from⟨d,its,a,r',e⟩),rfl,q _ (I.hok.fresh (B6 _))⟩
 rcases hq with hq|hq
 ·obtain⟨its,r',pl,d⟩:=I.list hq;have c:=r'.length;obtain⟨o,g,i,n,hd⟩:=pl.isList;exact call_list_seq p (.inl rfl) g i hd (λh' a kp e=>f its r' d h' a kp e) (by simp only[B4]<;>lia)
 ·obtain⟨its,r',pl,d⟩:=I.tuple hq;have c:=r'.length;obtain⟨o,g,i,n,hd⟩:=pl;exact call_list_seq p (.inr rfl) g i hd (λh' a kp e=>f its r' d h' a kp e) (by simp only[B4]<;>lia)
theorem bf:dB X (.type "tuple") (λxs H Q=>∃p ys,xs=[.ref p]/\((bg X.K H p ys/\∀l,H l=none->Q (.ref l) (upd H l (.tup ys)))∨(aT X.K H p ys/\Q (.ref p) H))):=by
 intro pins s σ H xs us Q I r h;obtain⟨p,ys,rfl,h⟩:=h;obtain⟨u,rfl,i⟩:=vals1 r
 cases i
 rcases h with⟨a,q⟩|⟨a,q⟩
 ·obtain⟨its,r',pl,f⟩:=I.list a;have d:=r'.length;refine call_tuple_list pl.isList (λh' kp=>?_) (by simp only[B4]<;>lia);have c:Inv X pins σ H {s with heap:=h'}:=I.kept (t':=s.toks) kp
  have g:Inv X pins σ (upd H h'.objs.size (.tup ys)) {s with heap:=h'.push {cls:= .type "tuple",data:= .seq its.toArray}}:=
   c.laid (t':=s.toks) (λb o e=>B0 _ e) (B6 _) (show cv X.prog X.w _ _ _ (.tup ys)from⟨f,its,r',SY _ _⟩)
  exact⟨.ref h'.objs.size,_,g,rfl,q _ (c.hok.fresh (B6 _))⟩
 ·obtain⟨its,r',pl,f⟩:=I.tuple a;exact call_tuple_same pl ⟨.ref p,H,I,rfl,q⟩
def KR(K:mo)(T:String)(x:V)(H:Hp):Prop:=match x with
 | .str _=>T="str"
 | .int _=>T="int"
 | .ref p=>(T="list"/\∃xs,bg K H p xs)∨(T="tuple"/\∃o,K.lookup p=some o/\o.cls= .type "tuple"/\o.dict=none)∨
   (T="dict"/\((∃kvs,H p=some (.dK kvs))∨∃kvs,H p=some (.dT kvs)))∨(T="set"/\∃S n,H p=some (.set S n))
 |_=>False
theorem Bl(I:Inv X pins σ H s)(r:RelV x v)(ty:KR X.K T x H):
  s.TypeIs v T/\∀a,v= .ref a->∃f,s.heap.get? a=some f/\f.dict=none:=by
 cases x with
 |str z=>
  obtain⟨t,rfl⟩:=r
  cases(show T="str"from ty)
  exact⟨Ou s z t,λ_ e=>nomatch e⟩
 |int i=>
  obtain⟨t,rfl⟩:=r
  cases(show T="int"from ty)
  exact⟨typeIs_int s i t,λ_ e=>nomatch e⟩
 |ref p=>
  cases r
  rcases ty with⟨rfl,xs,g⟩|⟨rfl,o,b,h,hd⟩|⟨rfl,b⟩|⟨rfl,S,n,b⟩
  ·obtain⟨its,_,pl,_⟩:=I.list g;refine⟨pl.isList.typeIs,λa e=>?_⟩
   cases e
   obtain⟨o,n,e,c,hd,_⟩:=pl;exact⟨o,e,hd⟩
  ·refine⟨⟨o,I.ku p o b,h⟩,λa e=>?_⟩
   cases e
   exact⟨o,I.ku _ o b,hd⟩
  ·have z:∃o,s.heap.get? p=some o/\o.ExactDict:=by
    rcases b with⟨kvs,b⟩|⟨kvs,b⟩
    ·obtain⟨_,_,_,_,o,_,_,e,ex,_⟩:=I.hok p _ b;exact⟨o,e,ex⟩
    ·obtain⟨_,_,_,_,o,_,_,e,ex,_⟩:=I.hok p _ b;exact⟨o,e,ex⟩
   obtain⟨o,e,ex⟩:=z;refine⟨⟨o,e,ex.1⟩,λa d=>?_⟩
   cases d
   exact⟨o,e,ex.2.1⟩
  ·obtain⟨o,_,_,_,e,ex,_⟩:=I.hok p _ b;refine⟨⟨o,e,ex.1⟩,λa d=>?_⟩
   cases d
   exact⟨o,e,ex.2.1⟩
 |_=>exact Nt ty
def Kk(K:mo)(T:String)(r:V->List V->Hp->VK->Prop)(to:TE):TE:=λσ H Q=>to σ H λx H1=>KR K T x H1/\r x [] H1 Q
def Kh(K:mo)(T:String)(r:V->List V->Hp->VK->Prop)(to:TE)(t:TA):TE:=λσ H Q=>to σ H λx H1=>KR K T x H1/\t σ H1 λxs H2=>r x xs H2 Q
variable{o:Expr}{es:List Expr}{to:TE}{t:TA}{name:Str}{apos cpos:Pos}{id:String}{r:V->List V->Hp->VK->Prop}
theorem Ge(pa:Ss T)(slot:Slot T name id)(d:typeOf (.builtin id)=pure (.type "method_descriptor"))(hm:JT X id r)(g:PE X o to)(a:Oh o name X.env (M3 o X.env)=M3 o X.env:=by rfl)(b:(apos.endLine==cpos.line)=true:=by rfl):PE X (.Call (.Attribute o name apos) [] [] cpos) (Kk X.K T r to):=by
 intro pins s σ H Q I h;refine wpAny_Call_method0_late a b (bW (g pins s σ H _ I h) λv s1 c=>?_);obtain⟨x,H1,e,f,ty,i⟩:=c;obtain⟨h1,h2⟩:=Bl e f ty;exact⟨T,id,pa,slot,d,h1,h2,OC rfl (PySem.evalArgs_none (hm pins s1 σ H1 x [] v [] Q e f .nil i))⟩
theorem bV(pa:Ss T)(slot:Slot T name id)(g:typeOf (.builtin id)=pure (.type "method_descriptor"))(hm:JT X id r)(m:PE X o to)(ha:PA X (e::es) t)(b:Oh o name X.env (M3 o X.env)=M3 o X.env:=by rfl)(d:((NC cpos (L9 (e::es) X.env)).all (λx=> !x.1)&&(NQ cpos (M6 [] X.env)).all (λx=>x.1.isSome)
   &&decide ((e::es).length+([]:List O2).length+(if([]:List O2).isEmpty then 0 else 1)<30))=true:=by rfl)(c:(apos.endLine==cpos.line)=true:=by rfl)(k:L9 (e::es) X.env=(false,M3 e X.env)::L9 es X.env:=by rfl)(a:(NC cpos (L9 es X.env)).any (·.1)=false:=by rfl):
  PE X (.Call (.Attribute o name apos) (e::es) [] cpos) (Kh X.K T r to t):=by
 intro pins s σ H Q I h;refine wpAny_Call_method_late b d c rfl (bW (m pins s σ H _ I h) λv s1 f=>?_);obtain⟨x,H1,i,j,ty,p⟩:=f;obtain⟨h1,h2⟩:=Bl i j ty;refine⟨T,id,pa,slot,g,h1,h2,?_⟩;have hA:=ha cpos pins s1 σ H1 _ i p;rw[k]at hA⊢;refine OC (by show(false||(NC cpos (L9 es X.env)).any (·.1))=false;rw[a]<;>rfl) (R8 ?_);exact bW hA λus s2 ⟨vs,H2,l,n,q⟩=>hm pins s2 σ H2 x vs v us Q l j n q
end
def zl(X:Cx)(id:String)(r:V->List V->Hp->VK->Prop):Prop:=
 ∀(pins:List (B3×Obj))(s:FS)(σ:St)(H:Hp)(x:V)(xs:List V)(v:B5)(us:List B5)(Q:VK),Inv X pins σ H s->RelV x v->Vals xs us->r x xs H Q->
  IR (L0 X.prog X.w) X.A (call (.builtin id) (v::us)) (EP X pins σ Q) X.xe s
theorem Vals.one(h:Vals [x] us):∃u,us=[u]/\RelV x u:=by
 cases h with
 |cons r t=>cases t;exact⟨_,rfl,r⟩
theorem Vals.two(h:Vals [x,y] us):∃u v,us=[u,v]/\RelV x u/\RelV y v:=by
 cases h with
 |cons r t=>
  obtain⟨v,rfl,q⟩:=Vals.one t;exact⟨_,_,rfl,r,q⟩
theorem Vals.zero:∀{us:List B5},Vals [] us->us=[]
 |_,.nil=>rfl
theorem Vals.dropLast(h:Vals xs us):Vals xs.dropLast us.dropLast:=by
 induction h with
 |nil=>exact .nil
 |cons r t a=>
  cases t with
  |nil=>exact .nil
  |cons q t'=>exact .cons r a
theorem Vals.reverse(h:Vals xs us):Vals xs.reverse us.reverse:=by
 induction h with
 |nil=>exact .nil
 |cons r t a=>rw[O1,O1];exact Vals.append a (.cons r .nil)
theorem ug{α:Type}(l:List α):l.eraseIdx (l.length-1)=l.dropLast:=by
 induction l with
 |nil=>rfl
 |cons a r c=>
  cases r with
  |nil=>rfl
  |cons b r=>
   have e:(a::b::r).length-1=((b::r).length-1)+1:=by
    have h1:(a::b::r).length=r.length+2:=rfl;have h2:(b::r).length=r.length+1:=rfl
    lia
   rw[e,List.eraseIdx_cons_succ,c]
   all_goals rfl
section
variable{l b:B3}{zs:List V}
theorem Inv.GC{f:Array B5->Array B5}(I:Inv X pins σ H s)(a:H l=some (.lst xs))(e:s.heap.get? l=some {cls:= .type "list",data:= .seq its.toArray n})(b:f its.toArray=its'.toArray)(c:Vals ys its')(hz:ys.length<=sizeLine):
  Inv X pins σ (upd H l (.lst ys)) {s with heap:=s.heap.update l (Nr f),toks:=t'}:=by
 have q:=PySem.IsL.update e f;rw[b]at q;refine I.write (x:=l) (e:=l) (by rw[a];exact trivial) (.inl rfl) (λh u d g=>(My s.heap (Nr f) (Da d)).trans g) ⟨_,q⟩ ?_;exact⟨hz,its',_,c,q⟩
theorem Inv.Jt(I:Inv X pins σ H s)(a:Vals ys its)(hz:ys.length<=sizeLine):
  Inv X pins σ (upd H s.heap.objs.size (.lst ys)) {s with heap:=s.heap.push {cls:= .type "list",data:= .seq its.toArray},toks:=t'}:=
 I.laid (λ_ _ q=>B0 _ q) (B6 _) ⟨hz,its,0,a,Gc _ rfl⟩
theorem Inv.fresh(I:Inv X pins σ H s):H s.heap.objs.size=none:=I.hok.fresh (B6 _)
theorem Inv.yC(I:Inv X pins σ H s)(a:H l=some (.lst xs)):xs.length<=sizeLine/\∃(its:List B5)(n:Nat),Vals xs its/\xs.length=its.length/\s.heap.get? l=some {cls:= .type "list",data:= .seq its.toArray n}:=by
 obtain⟨z,its,n,r,e⟩:=I.hok l _ a;exact⟨z,its,n,r,r.length,e⟩
theorem AI(h:n<=sizeLine):O_ n=false:=by
 unfold O_;exact decide_eq_false (by lia)
end
inductive As(x:V)(vs:List V)(H:Hp)(Q:VK):Prop
 |mk (l:_) (xs:_) (y:_) (c0:x= .ref l) (c1:vs=[y]) (c2:H l=some (.lst xs)) (c3:xs.length<sizeLine) (c4:Q .non (upd H l (.lst (xs++[y]))))
def DQ:V->List V->Hp->VK->Prop:=λx vs H Q=>As x vs H Q
theorem bQ:zl X "list.append" DQ:=by
 intro pins s σ H x vs v us Q I c b h;obtain⟨l,xs,y,rfl,rfl,a,f,q⟩:=h
 cases c
 obtain⟨u,rfl,d⟩:=b.one;obtain⟨z,its,n,r,hl,e⟩:=I.yC a;refine Ov F.slot_list_append ⟨_,e,rfl⟩ F.entry_list_append (F.args_list_append_2 _ _) (PySem.list_append l its.toArray n u (by rw[B4];lia)) ⟨e,?_⟩;refine⟨.non,_,I.GC (its':=its++[u]) a e (by simp) (r.append (.cons d .nil)) ?_,rfl,q⟩;rw[B1,PD]
 lia
def El:V->List V->Hp->VK->Prop:=λx vs H Q=>∃l b xs zs,x= .ref l/\vs=[.ref b]/\H l=some (.lst xs)/\H b=some (.lst zs)/\xs.length+zs.length<=sizeLine/\Q .non (upd H l (.lst (xs++zs)))
theorem y_:zl X "list.extend" El:=by
 intro pins s σ H x vs v us Q I i m h;obtain⟨l,b,xs,zs,rfl,rfl,f,hB,w,q⟩:=h
 cases i
 obtain⟨u,rfl,p⟩:=m.one
 cases p
 obtain⟨z,its,n,r,hl,e⟩:=I.yC f;obtain⟨t,a,j,k,o,g⟩:=I.yC hB
 have d:its.toArray.size+a.toArray.size<=sizeLine:=by rw[B4,B4];lia
 have c:¬(!its.toArray.isEmpty&&O_ (its.toArray.size+a.toArray.size))=true:=by
  rw[AI d,Bool.and_false];exact GM
 refine Ov F.slot_list_extend ⟨_,e,rfl⟩ F.entry_list_extend (F.args_list_extend_2 _ _)
  (AutoSeq1.list_extend_list_list_0 l its.toArray n b a.toArray j c (by rw[B4];lia) (by lia)) ⟨e,g,?_⟩
 refine⟨.non,_,I.GC (its':=its++a) f e (by simp) (r.append k) ?_,rfl,q⟩;rw[B1]
 lia
def Km:V->List V->Hp->VK->Prop:=λx vs H Q=>∃l xs y,x= .ref l/\vs=[]/\H l=some (.lst xs)/\xs[xs.length-1]? =some y/\Q y (upd H l (.lst xs.dropLast))
theorem Gy:zl X "list.pop" Km:=by
 intro pins s σ H x vs v us Q I g f h;obtain⟨l,xs,y,rfl,rfl,c,d,q⟩:=h
 cases g
 have b:=f.zero;subst b;obtain⟨z,its,n,r,hl,e⟩:=I.yC c;obtain⟨u,i,j⟩:=r.get d
 have a:its.toArray[its.toArray.size-1]? =some u:=by
  show its.toArray[its.length-1]? =some u;rw[<-NU,<-hl];exact i
 refine Ov F.slot_list_pop ⟨_,e,rfl⟩ F.entry_list_pop (F.args_list_pop_1 _) (MeetsSeq.list_pop_last l its.toArray n u a (by rw[B4];lia)) ⟨e,?_⟩;refine⟨y,_,I.GC (its':=its.dropLast) c e ?_ r.dropLast ?_,j,q⟩
 ·show its.toArray.eraseIdxIfInBounds (its.toArray.size-1)=its.dropLast.toArray;rw[B4,List.eraseIdxIfInBounds_toArray,ug]
 ·rw[R6]
  lia
inductive Ik(x:V)(y:V)(H:Hp)(Q:VK):Prop
 |mk (l:_) (b:_) (xs:_) (zs:_) (c0:x= .ref l) (c1:y= .ref b) (c2:H l=some (.lst xs)) (c3:H b=some (.lst zs)) (c4:xs.length+zs.length<=sizeLine) (c5:∀p,H p=none->Q (.ref p) (upd H p (.lst (xs++zs))))
def JZ:R2:=λx y H Q=>Ik x y H Q
theorem lF:hV X (NH .Add) JZ:=by
 intro pins s σ H x y v u Q I d f h;obtain⟨l,b,xs,zs,rfl,rfl,g,hB,p,q⟩:=h
 cases d
 cases f
 obtain⟨z,its,n,r,hl,e⟩:=I.yC g;obtain⟨m,a,o,j,k,c⟩:=I.yC hB;refine PySem.P.add_list e c ?_ (by rw[B4,B4];lia)
 have i:its.toArray++a.toArray=(its++a).toArray:=by simp
 rw[i];exact⟨.ref _,_,I.Jt (t':=s.toks) (r.append j) (by rw[B1];lia),rfl,q _ I.fresh⟩
end L2
namespace Att
open PySem PySem.W PySem.Calls PyProof.Rows
variable{P:Params}{h:MP}{l:OpenLaw}{n:Nat}
theorem kF:∀(ns:List Int)(vs:List B5),WellAll P h vs (ns.map WData.int)->QR vs ns:=by
 intro ns
 induction ns with
 |nil=>
  intro vs w;rw[Qo]at w
  cases w
  exact .nil
 |cons n ns c=>
  intro vs w;rw[Mc]at w
  cases w with
  |cons a b=>
   cases a
   exact .cons _ _ (c _ b)
theorem xy(hn:l.most=some n){args:List WData}{b:List B5}(c:l.row.toRowW.claim.pre args=true)(j:WellAll P h b args):
  ∃a vs ns,b=[Kf a]/\args=[WData.list (ns.map WData.int)]/\h.get? a=some {cls:= .type "list",data:= .seq vs.toArray}/\QR vs ns/\ns.length<=n:=by
 have k:WShape.hasAll [] args [.list .int]=true:=(pre_splitW c).1;have m:l.pre.holds [] {args:=args}=true:=(pre_splitW c).2;obtain⟨d,r,rfl,h1,h2⟩:=hasAllW_cons k;obtain rfl:=hasAllW_nil h2;obtain⟨xs,rfl,p⟩:=hasW_list h1;obtain⟨ns,rfl⟩:=items_int p
 have e:ns.length<=n:=by
  unfold OpenLaw.pre at m
  have g:(WTm.not (.lt (.lit (.int (n:Int))) (.len (.arg 0)))).holds [] {args:=[.list (ns.map .int)]}=true:=by
   have g:=(holds_andW m).1;rw[hn]at g;exact g
  have i:=condW_of g (w_not (w_lt w_lit (w_len_list (w_arg rfl))));rw[be]at i;refine Nat.le_of_not_lt λq=>?_
  have s:(n:Int)<((ns.length:Nat):Int):=by lia
  first
   |(rw[decide_eq_true s]at i;exact absurd i (by decide))
   |(simp at i;lia)
 cases j with
 |cons w1 w2=>
  cases w2
  cases w1 with
  |list o f=>exact⟨_,_,ns,rfl,rfl,o,kF ns _ f,e⟩
theorem xO(l:OpenLaw)(args:List WData):l.row.toRowW.claim.post args (.bool true) args=true:=
 postW_of (r:=l.row.toRowW) (X:=(true==true))
  (show WShape.has [] (.bool true) .bool=true by first|rfl|decide|simp[WShape.has,WShape.arms,WShape.armsAll])
  (show(WTm.eq .res (.lit (.bool true))).value [] {args:=args,res:=some (.bool true),after:=args}=some (.bool (true==true))from w_eq_bool (w_res rfl) w_lit) rfl
theorem sN{q:MA}{c:List Str}{u:(Str->Option B5)->MP->Prop}{x:MM->MP->Prop}{d:DefRec}(hn:l.most=some n)(m:d.params.defaults=[])(call:∀(w:MM)(s₀ b:FS)(mg mb:Str->Option B5)(h:B3)(o:Obj)(pm k doc:B5)(a:B3)(vs:List B5)(ns:List Int),
   Ground q c [] u w s₀ mg mb b.heap->x w b.heap->
   b.heap.get? h=some o->o.data= .func (docDef d.name d.params d.body d.scope pm k doc)->b.heap.CodeRec k d.name->mg d.name=some (.ref h)->
   b.heap.get? a=some {cls:= .type "list",data:= .seq vs.toArray}->QR vs ns->ns.length<=n->b.gens=#[]->
   Om (L0 l.prog w) Qg (.call (.ref h) ⟨[.ref a],[]⟩) (λr s'=>r= .ok (.ret (.bool true))/\OldK b.heap s'.heap/\s'.os=b.os/\Po s'.gens) b):
  WalkO q c u x l.row.toRowW d [] (λf vs=>So f vs):=by
 intro w s₀ b mg mb G Y h o pm k doc A kV C hd t v p I args z as j y F s B;obtain rfl:A= .none:=Dflts.none v m;obtain rfl:kV= .none:=Dflts.noKw v;obtain⟨a,vs,ns,rfl,rfl,i,e,g⟩:=xy hn j s;refine enter_call (Qf (call w s₀ b mg mb h o pm k doc a vs ns G Y C (fd_plain hd) t p i e g I) λr s' H=>?_);obtain⟨rfl,h2,D,E⟩:=H;exact⟨.inl ⟨.bool true,.bool true,[],rfl,λ_=>rfl,.bool true,xO l _,λ_=>⟨List.Pairwise.nil,λ_ hm=>(nomatch hm)⟩⟩,h2,D,E⟩
end Att
namespace L2
open PySem PySem.Spec PyProof.Rows
theorem oG:∀{vs:List B5}{ns:List Int},QR vs ns->Vals (ns.map V.int) vs
 |_,_,.nil=> .nil
 |_,_,.cons n t h=> .cons ⟨t,rfl⟩ (oG h)
def Hz(H:Hp):Prop:=∀b,H b=none∨∃o xs,H b=some (.frz o (.lst xs))
variable{K:mo}{P prog:MA}{a f l:B3}{fd:M9}{mg:Str->Option B5}{sp:Sp}{w:MM}{x qual:Str}{n:Nat}{X:Cx}{N ps:List Str}{pos:Pos}{H H':Hp}{xs:List V}{env:Env}{scope:OD}{A:Of}{s:FS}
theorem zR{mb:Str->Option B5}{CX:C_}{k:Nat}{E:B3}{c:FS}{vs:List B5}{ns:List Int}(M:K.In c.heap)(B:c.heap.Ns L4 mg)(g:c.heap.Ns Sj mb)(L:∀x:Str,x≠"__name__"->mb x=NK x)(t:c.heap.NoLimit)(hg:c.gens=#[])(ha:c.heap.get? a=some {cls:= .type "list",data:= .seq vs.toArray})(hi:QR vs ns)(hl:ns.length<=sizeLine)(hr:eV k Qg)(F:∀base:MP,K.In base->base.Ns L4 mg->aw P w K mg base CX k E fd [x] sp)(l:∀(s:FS)(u:B5),QV s fd ⟨[u],[]⟩ [(x,u)])(D:∀H:Hp,Hz H->bg K H a (ns.map V.int)->sp [.ref a] H (λv _=>v= .bl true) λ_ _ _=>False)(I:∀H e s',CX [] H c (λ_ _ _=>False) e s'->False):
  Om (L0 P w) Qg (.call (.ref E) ⟨[.ref a],[]⟩) (λr s'=>r= .ok (.ret (.bool true))/\OldK c.heap s'.heap/\s'.os=c.os/\Po s'.gens) c:=by
 have O:=oG hi;have y:=hi.length
 have j:∀H:Hp,Hz H->bg K H a (ns.map V.int)->iX P w H c.heap->(∀b,H b≠none->b=a)->(H a≠none->K.lookup a=none)->
   Om (L0 P w) Qg (.call (.ref E) ⟨[.ref a],[]⟩) (λr s'=>r= .ok (.ret (.bool true))/\OldK c.heap s'.heap/\s'.os=c.os/\Po s'.gens) c:=by
  intro H Q S hok hA W;have f:∀{b:B3}{o:Obj},c.heap.get? b=some o->H b=none->(qB c.heap H).get? b=some o:=λe n=>zE e n
  have J:∀{b:B3}{o:Obj}{es:Array QB}{ep:Nat},c.heap.get? b=some o->o.data= .dict es ep->H b=none:=λ{b o es ep} e d=>by
   cases q:H b with
   |none=>rfl
   |some u=>
    have G:b=a:=hA b (by rw[q];simp);subst G;rw[ha]at e;cases e;have d':Data.seq vs.toArray _=Data.dict es ep:=d
    cases d'
  have i:∀{b:B3}{m:Str->Option B5},c.heap.Ns b m->(qB c.heap H).Ns b m:=λ{b m} ⟨o,es,ep,e,d,r⟩=>⟨o,es,ep,f e (J e d),d,r⟩
  have A:K.In (qB c.heap H):=λb o e=>f (M b o e) (by
   cases q:H b with
   |none=>rfl
   |some u=>
    have G:b=a:=hA b (by rw[q];simp);subst G
    rw[W (by rw[q];simp)]at e;cases e)
  have T:Mod K mg (qB c.heap H):=⟨A,i B,⟨mb,i g,L⟩,let⟨mc,h1,h2⟩:=t;⟨mc,i h1,h2⟩⟩;have Y:vg P w K mg (qB c.heap H) Qg [] c H:=⟨rfl,T,λb o e=>Ep e,Nat.le_of_eq (yu _ _),trivial,λb g=>absurd (show b∈([]:List B3)from g) (by simp),hok,.of_eq hg⟩;refine Qf ((F _ A (i B)).run Qg [] c H ⟨[.ref a],[]⟩ [.ref a] [.ref a] _ _ hr Y (l c (.ref a)) (.cons rfl .nil) (D H Q S)) λr s' h=>?_
  cases r with
  |error e=>exact(I H e s' h).elim
  |ok fl=>
   cases fl with
   |next=>exact Nt h
   |brk=>exact Nt h
   |cont=>exact Nt h
   |ret u=>
    obtain⟨v,H',os,bare,un,p,r',q⟩:=h;have R:v= .bl true:=q;subst R;obtain rfl:u=Pj true:=r';refine⟨rfl,OldK.of_keep λb o e=>?_,os,bare⟩
    cases q:H b with
    |none=>exact un.keep b o e q (by intro z;exact absurd (show b∈([]:List B3)from z) (by simp)) (by simp)
    |some u=>
     rcases Q b with z|⟨U,xs,z⟩
     ·rw[q]at z;cases z
     ·have Z:=un.frzs b U _ z;obtain⟨N,_⟩:=hok b _ z;obtain⟨X,_⟩:=p b _ Z;rw[e]at N;cases N;exact X
 cases C:K.lookup a with
 |some o=>
  have e:=M a o C;rw[ha]at e
  cases e
  refine j (λ_=>none) (λ_=> .inl rfl) (.inr ⟨_,vs.toArray,_,C,rfl,rfl,rfl,by rw[B4,y];exact hl,by simpa using O⟩) (λb u z=>by have z':(none:Option HO)=some u:=z;cases z') (λb z=>absurd rfl z) λz=>absurd rfl z
 |none=>
  refine j (λb=>if b=a then some (.frz {cls:= .type "list",data:= .seq vs.toArray} (.lst (ns.map V.int)))else none) (λb=>?_) (.inl (.inr ⟨{cls:= .type "list",data:= .seq vs.toArray},if_pos rfl⟩)) (λb u z=>?_) (λb z=>?_) λ_=>C
  ·by_cases g:b=a
   ·exact .inr ⟨_,_,if_pos g⟩
   ·exact .inl (if_neg g)
  ·by_cases g:b=a
   ·have z':=(if_pos g).symm.trans z
    cases z'
    subst g;exact⟨ha,by rw[be];exact hl,vs,_,O,ha⟩
   ·have z':=(if_neg g).symm.trans z
    cases z'
  ·by_cases g:b=a
   ·exact g
   ·exact absurd (if_neg g) z
theorem DV{l:PySem.W.OpenLaw}{k:Nat}{q:MA}{i:List Str}{E:(Str->Option B5)->MP->Prop}{C:MM->MP->Prop}{d:DefRec}{K:Params->mo}{CX:MM->C_}{sp:MM->Sp}(hn:l.most=some n)(A:n<=sizeLine)(y:d.params.defaults=[])(O:eV k Qg)(L:∀(w:MM)(h:MP),C w h->(K w.params).In h)(F:∀(w:MM)(mg:Str->Option B5)(r:B3)(h:MP),(K w.params).In h->h.Ns L4 mg->mg d.name=some (.ref r)->
   ∃fd:M9,(∀(s:FS)(u:B5),QV s fd ⟨[u],[]⟩ [(x,u)])/\
    ∀base:MP,(K w.params).In base->base.Ns L4 mg->aw l.prog w (K w.params) mg base (CX w) k r fd [x] (sp w))(B:∀(w:MM)(H:Hp)(a:B3)(ns:List Int),ns.length<=n->Hz H->bg (K w.params) H a (ns.map V.int)->sp w [.ref a] H (λv _=>v= .bl true) λ_ _ _=>False)(t:∀(w:MM)(H:Hp)(s:FS)(e:B5)(s':FS),CX w [] H s (λ_ _ _=>False) e s'->False):
  PySem.W.WalkO q i E C l.row.toRowW d [] (λf vs=>So f vs):=by
 refine Att.sN hn y λw s₀ p mg mb r o pm S doc a vs ns G Y R hd Q z m j c P=>?_;have D:=L w _ Y;obtain⟨fd,N,J⟩:=F w mg r _ D G.T.g z;exact zR D G.T.g G.T.b G.T.builtins G.T.nolimit P m j (Mu c A) O J N (λH M I=>B w H a ns c M I) λH e s'=>t w H p e s'
def inClass(s:Mb)(j:Nat):Mb:=match s with
 | .ClassDef _ _ _ body _ _ _ _ _ _ _=>body.getD j (.Pass ⟨0,0,0,0⟩)
 |_=> .Pass ⟨0,0,0,0⟩
def fY(s:Mb):Arguments:=match s with
 | .FunctionDef _ a _ _ _ _ _ _ _ _=>a
 |_=>{posonlyargs:=[],args:=[],vararg:=none,kwonlyargs:=[],kw_defaults:=[],kwarg:=none,defaults:=[]}
def eQ(s:Mb):List Mb:=match s with
 | .FunctionDef _ _ b _ _ _ _ _ _ _=>b
 |_=>[]
def aj(s:Mb):OD:=match s with
 | .FunctionDef _ _ _ _ _ _ sc _ _ _=>sc
 |_=>{kind:= .function,names:=[],isGenerator:=false,isCoroutine:=false}
abbrev aO:C_:=λ_ _ _ _ _ _=>False
abbrev E0:XK:=λ_ _ _=>False
theorem E5:Passes aO X E0:=λ_ _ _ _ _ _ _ h=>h.elim
structure aZ(K:mo)(x qual:Str)(st:Mb)(f:B3)(fd:M9):Prop where
 ex:∃(oc:B5)(od:Option B3)(kV doc pm:B5)(an:Option B3)(cdv ct:B5)(osl:Array (Option B5)),
  fd=NL x qual (fY st) (eQ st) (aj st) .none kV doc pm an cdv ct/\K.lookup f=some ⟨oc,od,.func fd,osl⟩/\PL K cdv qual=true
 kp:N_ K (.ref f)=true
section
variable{base:MP}
theorem aZ.ok{st:Mb}{k:Nat}(F:aZ K x qual st f fd)(S:ay N ps (aj st))(len:∀vs H Q E,sp vs H Q E->vs.length=ps.length)(a:∀(cdv:B5)(A:Of)(outer:List Env)(s:FS)(H:Hp)(vs:List V)(Q:VK)(E:XK),eV k (A.deeper (envOfC qual (aj st) s.heap.objs.size f cdv))->sp vs H Q E->
   ∃t,u_ (tD aO P w K mg base N qual (aj st) f cdv A outer s H E).HB (eQ st) t/\t {nx:=λ_ H'=>Q .non H',rt:=Q} (start N vs) H):aw P w K mg base aO (k+1) f fd ps sp:=by
 obtain⟨oc,od,kV,doc,pm,an,cdv,ct,osl,rfl,lk,c⟩:=F.ex;refine Jr lk c S len λA outer s H vs Q E d b=>?_;obtain⟨t,h,q⟩:=a cdv A outer s H vs Q E d b;exact⟨t,h.HB,q⟩
theorem aZ.binds{st:Mb}(F:aZ K x qual st f fd)(h:∀(kV doc pm:B5)(an:Option B3)(cdv ct:B5)(us:List B5),us.length=ps.length->bindArgs (NL x qual (fY st) (eQ st) (aj st) .none kV doc pm an cdv ct) ⟨us,[]⟩=pure (ps.zip us)):Binds K fd ps []:=by
 obtain⟨oc,od,kV,doc,pm,an,cdv,ct,osl,rfl,lk,a⟩:=F.ex;exact .all (h kV doc pm an cdv ct)
theorem aD{st:Mb}{oc:B5}{od an:Option B3}{osl:Array (Option B5)}{kV doc pm cdv ct:B5}(l:K.lookup f=some ⟨oc,od,.func (NL x qual (fY st) (eQ st) (aj st) .none kV doc pm an cdv ct),osl⟩)(c:PL K cdv qual=true)(k:N_ K (.ref f)=true):aZ K x qual st f (NL x qual (fY st) (eQ st) (aj st) .none kV doc pm an cdv ct):=⟨⟨oc,od,kV,doc,pm,an,cdv,ct,osl,rfl,l,c⟩,k⟩
end
theorem pv(i:Nat)(c:X.N[i]? =some x:=by rfl)(b:Kd X.env.scope x:=by first|exact KB rfl|exact Or.inr (KB rfl)|exact Or.inr (Or.inr rfl))(hd:(x==("__debug__":Str))=false:=by decide)(a:(x==("__classdict__":Str))=false:=by decide):PE X (.Name x pos) (iR i):=Gf c b hd a
theorem bA{A B:Prop}(h:B):if false=true then A else B:=by
 rw[if_neg GM];exact h
theorem di{A B:Prop}(h:A):if true=true then A else B:=by
 rw[if_pos rfl];exact h
theorem gP{c A B:Prop}[Decidable c](h1:c->A)(h2:¬c->B):if c then A else B:=by
 by_cases h:c
 ·rw[if_pos h];exact h1 h
 ·rw[if_neg h];exact h2 h
def af(H H':Hp):Prop:=∀b o,H b=some o->H' b=some o
theorem af.refl(H:Hp):af H H:=λ_ _ h=>h
theorem af.trans{H1 H2:Hp}(a:af H H1)(b:af H1 H2):af H H2:=λc o h=>b c o (a c o h)
theorem af.free(e:af H H')(h:H' l=Option.none):H l=Option.none:=by
 cases q:H l with
 |none=>rfl
 |some o=>
  rw[e l o q]at h
  cases h
theorem af.seq(e:af H H')(h:bg K H a xs):bg K H' a xs:=by
 rcases h with(h|⟨o,h⟩)|h
 ·exact .inl (.inl (e _ _ h))
 ·exact .inl (.inr ⟨o,e _ _ h⟩)
 ·exact .inr h
theorem mZ{env:Env}{y:Str}{k:Qn}:∀{names:List (Str×Qn)},
  (names.map λ(n,k)=>if(k==Nq&&env.scope.kind== .function&&env.kindOf n==some .cell)then(n,Ri)else(n,k)).lookup y=some k->
   ∃b,names.lookup y=some b/\(k=b∨(b= .free/\k= .cell))
 |[],h=>by simp at h
 |(n,q)::r,h=>by
  have c:= @mZ env y k r;rw[Mc]at h;dsimp only at h
  cases hx:y==n with
  |true=>
   refine⟨q,by simp[Na,hx],?_⟩;by_cases a:(q==Nq&&env.scope.kind== .function&&env.kindOf n==some .cell)=true
   ·rw[if_pos a]at h;simp only[Na,hx]at h
    cases h
    have d:(q==Nq)=true:=by
     cases e:q==Nq with
     |true=>rfl
     |false=>rw[e]at a;simp at a
    exact .inr ⟨by simpa using d,rfl⟩
   ·rw[if_neg a]at h;simp only[Na,hx]at h
    cases h
    exact .inl rfl
  |false=>
   have h2:(r.map λ(n,k)=>if(k==Nq&&env.scope.kind== .function&&env.kindOf n==some .cell)then(n,Ri)else(n,k)).lookup y=some k:=by
    by_cases a:(q==Nq&&env.scope.kind== .function&&env.kindOf n==some .cell)=true
    ·rw[if_pos a]at h;simpa only[Na,hx]using h
    ·rw[if_neg a]at h;simpa only[Na,hx]using h
   obtain⟨b,e,r'⟩:=c h2;exact⟨b,by simpa only[Na,hx]using e,r'⟩
theorem qh:∀(names:List (Str×Qn))(a:List (Str×B3)),(∀y∈names,y.2= .free->∃c,env.cells.lookup y.1=some c)->(∀y c,a.lookup y=some c->env.cells.lookup y=some c)->
  ∃cl,(forIn names a λ(x:Str×Qn) (r:List (Str×B3))=>(if(x.2==Nq)=true then(do let c<-cellOf env x.1;pure (Oq ((x.1,c)::r)))else pure (Oq r):Sem (ForInStep (List (Str×B3)))))=(pure cl:Sem (List (Str×B3)))/\
   (∀y c,cl.lookup y=some c->env.cells.lookup y=some c)/\(∀y∈names,y.2= .free->∃c,cl.lookup y.1=some c)/\∀y c,a.lookup y=some c->∃m,cl.lookup y=some m
 |[],a,_,ha=>⟨a,rfl,ha,(λy b=>absurd b (by simp)),λy c h=>⟨c,h⟩⟩
 |(n,k)::r,a,hn,ha=>by
  by_cases j:k=Nq
  ·obtain⟨c,o⟩:=hn (n,k) Do j
   have f:∀y d,((n,c)::a).lookup y=some d->env.cells.lookup y=some d:=λy d e=>by
    cases hx:y==n with
    |true=>
     simp only[Na,hx]at e
     cases e
     have :y=n:=by simpa using hx
     rw[this];exact o
    |false=>
     simp only[Na,hx]at e;exact ha y d e
   obtain⟨cl,e,h1,h2,i⟩:=qh r ((n,c)::a) (λy b=>hn y (GE _ b)) f;have g:∃m,cl.lookup n=some m:=i n c (by simp);refine⟨cl,?_,h1,λy b l=>?_,λy d hd=>?_⟩
   ·rw[Pu];dsimp only;rw[if_pos (by simp[j])]
    have p:cellOf env n=pure c:=by
     unfold cellOf;rw[o]
    rw[p];simp only[pure_bind];exact e
   ·rcases List.mem_cons.mp b with z|z
    ·subst z;exact g
    ·exact h2 y z l
   ·cases hx:y==n with
    |true=>
     have :y=n:=by simpa using hx
     rw[this];exact g
    |false=>exact i y d (by simpa only[Na,hx]using hd)
  ·obtain⟨cl,e,h1,h2,i⟩:=qh r a (λy b=>hn y (GE _ b)) ha;refine⟨cl,?_,h1,λy b l=>?_,i⟩
   ·rw[Pu];dsimp only;rw[if_neg (by simpa using j),pure_bind];exact e
   ·rcases List.mem_cons.mp b with z|z
    ·subst z;exact absurd l j
    ·exact h2 y z l
theorem wD(hn:∀y∈scope.names,y.2= .free->∃c,env.cells.lookup y.1=some c):
  ∃cl,closureFor scope env=pure cl/\(∀y c,cl.lookup y=some c->env.cells.lookup y=some c)/\∀y∈scope.names,y.2= .free->∃c,cl.lookup y.1=some c:=by
 obtain⟨cl,e,h1,h2,_⟩:=qh (env:=env) scope.names [] hn (λy c h=>by simp at h);refine⟨cl,?_,h1,h2⟩;unfold closureFor;dsimp only
 have a:∀(f g:Str×Qn->List (Str×B3)->Sem (ForInStep (List (Str×B3)))),(∀x r,f x r=g x r)->(forIn scope.names [] f:Sem (List (Str×B3)))=forIn scope.names [] g:=λf g h=>by
  have :f=g:=by funext x r;exact h x r
  rw[this]
 rw[a _ _ (λx r=>?_),e]
 ·rfl
 ·obtain⟨n,k⟩:=x;dsimp only
theorem pS{R:RC->FS->Prop}{elt a iter:Expr}{ifs:List Expr}{it b:B5}(J:Nat->FS->Prop)(d:∀n s,J n s->IR (L0 prog w) A (OS it) (λr s1=>match r with
   |none=>R (.ok .next) s1
   |some v=>IR (L0 prog w) A (Pq a it v) (λ_ g=>IR (L0 prog w) A (O6 a env v) (λ_ s2=>
     IR (L0 prog w) A (forIn ifs true λc r=>if r=true then do let ok<-Sh c env (M3 c env);pure (Oq ok)else pure (Oq r)) (λok i=>
      if ok=true then IR (L0 prog w) A (M3 elt env) (λx o=>
       IR (L0 prog w) A (call (.builtin "list.append") [b,x]) (λ_ l=>∃m,m<n/\J m l) (λ_ _=>False) o) (λ_ _=>False) i
      else∃m,m<n/\J m i) (λ_ _=>False) s2) (λ_ _=>False) g) (λ_ _=>False) s1) (λ_ _=>False) s)(n:Nat)(h:J n s):Om (L0 prog w) A (.compLoop (.ListComp elt [⟨a,iter,ifs,0⟩] scope pos) 0 it b env) R s:=by
 have no:∀{E:B5->FS->Prop}(e:B5)(s:FS),(λ(_:B5) (_:FS)=>False) e s->E e s:=λ_ _ f=>f.elim;refine codeAny_loop rfl J (λn s t=>?_) n h;show IR _ A ((compTurn (.ListComp elt [⟨a,iter,ifs,0⟩] scope pos) 0 it b env).onRaise _) _ _ s;refine wpAny_noted ?_;rw[compTurn_list];refine B2 (O4 (B2 (M_ (d n s t) (λr s1 h1=>?_) no)))
 cases r with
 |none=>exact KF h1
 |some v=>
  refine B2 (M_ h1 (λ_ g j=>B2 (M_ j (λ_ s2 h2=>B2 (M_ h2 (λok i k=>?_) no)) no)) no)
  cases ok with
  |false=>exact KF ⟨rfl,k⟩
  |true=>exact B2 (B2 (M_ k (λx o q=>B2 (M_ q (λ_ l p=>KF (KF ⟨rfl,p⟩)) no)) no))
abbrev Cx.comp(X:Cx)(x:Str)(scope:OD)(cl:List (Str×B3))(C:B3)(fp:List B3)(s:FS)(H:Hp):Cx:=
 {X with N:=x::X.N,s₀:=s,H₀:=H,env:=compEnvC scope cl C X.env,outer:=X.stack,ex:=fp,fn:=λ_=>false,pn:=[],xe:=λ_ _=>False}
def rG(scope:OD)(env:Env)(y:Str):Bool:=match scope.names.lookup y with
 |none=>true
 |some .free=>env.kindOf y==some .cell||env.kindOf y==some .free
 |some _=>false
structure iV(X:Cx)(x:Str)(scope:OD):Prop where
 kind:scope.kind= .function
 cell:∀y∈scope.names,y.2≠ .cell
 names:∀y∈scope.names,y.2= .local->scope.names.lookup y.1=some .local
 hx:scope.names.lookup x=some .local
 free:∀y∈scope.names,y.2= .free->X.env.kindOf y.1=some .cell∨X.env.kindOf y.1=some .free
 cap:∀y∈X.N,rG scope X.env y=true
 nd:(x::X.N).Nodup
theorem sO{y:Str}(h:scope.names.lookup y=some .free):(y,Nq)∈scope.names:=Nj h
def GU(X:Cx)(ifs:List Expr)(t:TT):Prop:=
 ∀(pins:List (B3×Obj))(s:FS)(σ:St)(H:Hp)(Q:Bool->Hp->Prop),Inv X pins σ H s->t σ H Q->
  IR (L0 X.prog X.w) X.A (forIn ifs true λc r=>if r=true then do let ok<-Sh c X.env (M3 c X.env);pure (Oq ok)else pure (Oq r)) (TP X pins σ Q) X.xe s
def gw:TT:=λ_ H Q=>Q true H
theorem bB:GU X [] gw:=λpins s σ H Q I h=>by
 rw[Q6];exact KF ⟨H,I,h⟩
def fb(J:It)(H1:Hp)(σ:St)(tt:TT)(te:TE)(Q:VK):Prop:=∀D,H1 D=none->∃W:Nat->Nat->Hp->Prop,(∃m,W 0 m (upd H1 D (.lst [])))/\∀i m H,W i m H->
 (J.stop i H/\Q (.ref D) H)∨(J.go i H/\∀x H',J.yld i H x H'->tt (some x::σ) H' λb H2=>if b=true then te (some x::σ) H2 λy H3=>∃ys,H3 D=some (.lst ys)/\ys.length<sizeLine/\∃a,a<m/\W (i+1) a (upd H3 D (.lst (ys++[y])))
  else∃a,a<m/\W (i+1) a H2)
def o_(wi:TI)(tt:TT)(te:TE):TE:=λσ H Q=>wi σ H λJ H1=>fb J H1 σ tt te Q
open AutoSeq1 (wpAny_loadPart')
variable{E Q:B5->FS->Prop}{i t' kk:Nat}{it e b:B3}{its:Array B5}{fp:List B3}{old u r:B5}{h':MP}{pins:List (B3×Obj)}{σ:St}{es:List Expr}{us:List B5}{d y v:V}{o:Option V}{kvs:List (List Key×V)}{value:Expr}{td tv ty:TE}{trs:List (TE×TE)}
theorem uG{t:B3}{x:B5}(a:s.heap.IsTupleIter it t i)(e:s.heap.IsTuple t its)(hx:its[i]? =some x)(f:∀h',h'.IsTupleIter it t (i+1)->Nn it s.heap h'->Q x {s with heap:=h'}):IR (L0 prog w) A (MN (.ref it)) Q E s:=by
 obtain⟨o,b,g,hd⟩:=id a;obtain⟨ol,c,_,h,d⟩:=e;unfold MN;refine B2 (NG (name:=MB "__next__") a.typeIs Ob (Oc Ob a.typeIs QS ?_ (QO _)))
 (show IR _ _ (Qe (.ref it) 0 >>= _) _ _ s);refine B2 (MK b hd (x:= .ref t) rfl ?_)
 (show IR _ _ (if(Kf t==ND)=true then _ else _) _ _ s);rw[if_neg (show¬((Kf t==ND)=true)from GM)]
 (show IR _ _ (Qe (.ref it) 1 >>= _) _ _ s);refine B2 (MK b hd (x:= .int i 0) rfl ?_)
 (show IR _ _ (PY (.ref t) >>= _) _ _ s);refine B2 (MS c d ?_)
 simp only[Qt,hx];refine B2 (wpAny_setField b hd (by simp) (KF ⟨x,rfl,KF (f _ ⟨_,M8 _ b (Obj.isFreed_of_fields (Su hd _)),(Obj.cls_mapFields ..).trans g,by rw[Su hd];simp[Pi]⟩ (Sd ..))⟩))
theorem mh{t:B3}(g:A.handled=none)(b:s.heap.IsTupleIter it t i)(h:s.heap.IsTuple t its)(hx:its[i]? =none)(j:∀h' e,Heap.ExtBut it s.heap h'->(∃o,h'.get? e=some o/\o.cls= .type "StopIteration")->E (.ref e) {s with heap:=h'}):IR (L0 prog w) A (MN (.ref it)) Q E s:=by
 obtain⟨o,f,l,hd⟩:=id b;obtain⟨ol,c,_,k,d⟩:=h;unfold MN;refine B2 (NG (name:=MB "__next__") b.typeIs Ob (Oc Ob b.typeIs QS ?_ (QO _)))
 (show IR _ _ (Qe (.ref it) 0 >>= _) _ _ s);refine B2 (MK f hd (x:= .ref t) rfl ?_)
 (show IR _ _ (if(Kf t==ND)=true then _ else _) _ _ s);rw[if_neg (show¬((Kf t==ND)=true)from GM)]
 (show IR _ _ (Qe (.ref it) 1 >>= _) _ _ s);refine B2 (MK f hd (x:= .int i 0) rfl ?_)
 (show IR _ _ (PY (.ref t) >>= _) _ _ s);refine B2 (MS c d ?_)
 simp only[Qt,hx];refine B2 (Ph (B2 (wpAny_setField f hd (by simp) ?_)))
 (show IR _ _ (newExc (.type "StopIteration") [] >>= _) _ _ _);refine B2 ?_
 simp only[newExc,newTuple];refine B2 (OY ?_ (by size_fits));refine B2 (m:=firstArgMember _ _) (wpAny_of_eq (a:=ND) (by first|rfl|(simp only[firstArgMember];rfl)) (OY ?_ (by size_fits)));simp only[raiseNew];refine B2 (wpAny_handled ?_)
 first|rw[show A.in1.handled=none from g]|rw[g]
 exact B2 (KF (wpAny_throw (j _ _ (((Sd ..).extBut.push _).push _) ⟨_,Gc _ rfl,rfl⟩)))
theorem ou(j:A.handled=none)(it l:B3)(d:l≠it)(its:Array B5):
  Draws prog w A it [it,l] its.size (λi v=>its[i]? =some v) (λi h=>h.IsTupleIter it l i/\h.IsTuple l its) where
 live:=λ_ _ st=>let⟨o,ho,_⟩:=st.1;⟨o,ho⟩
 frame:=λ_ _ _ st f=>by
  obtain⟨⟨o,e,r⟩,⟨o',c,r'⟩⟩:=st;exact⟨⟨o,f it (by simp) o e,r⟩,⟨o',f l (by simp) o' c,r'⟩⟩
 item:=λi s Q E hi st g=>uG st.1 st.2 (x:=its[i]) (by simp[hi]) λh' a b=>by
  obtain⟨o',c,r'⟩:=st.2;exact g _ h' s.toks (by simp[hi]) ⟨a,⟨o',b.extBut l o' d c,r'⟩⟩ b
 done:=λs Q E st k=>mh j st.1 st.2 (by simp) k
theorem CP{k:Int}{P:Nat->B5->Prop}{St:Nat->MP->Prop}(D:Draws prog w A it fp n P St)(he:PU s.heap e it k old)(B:St i s.heap)(I:i<n)(G:e≠it)(p:e∉fp)(U:∀x h' tk,P i x->Rv h' e it (k+1) x s.heap.objs.size->St (i+1) h'->h'.get? s.heap.objs.size=some {cls:= .type "tuple",data:= .seq #[.int k tk,x]}->
   (∀b o,b≠e->b≠it->s.heap.get? b=some o->h'.get? b=some o)->Q (.ref s.heap.objs.size) {s with heap:=h',toks:=tk+1}):
  IR (L0 prog w) A (Builtin.«enumerate.__next__» ⟨[.ref e],[]⟩) (λR s'=>∃v,R= .done (.ret v)/\Q v s') E s:=by
 obtain⟨f,g,d,X,os⟩:=s
 (show IR _ _ (Qe (.ref e) 2 >>= _) _ _ _);refine B2 (MK he rfl (x:= .ref it) rfl ?_)
 refine B2 (D.item i _ _ _ I B λx g1 tk px c1 b1=>?_);have b1:Nn it f g1:=b1;have z:PU g1 e it k old:=(b1.2 e G).trans he
 (show IR _ _ (Qe (.ref e) 3 >>= _) _ _ ⟨g1,g,d,tk,os⟩);refine B2 (MK z rfl (x:=Pi k) rfl ?_)
 (show IR _ _ (Qe (.ref e) 4 >>= _) _ _ ⟨g1,g,d,tk,os⟩);refine B2 (MK z rfl (x:= .none) rfl ?_)
 (show IR _ _ (mkInt k >>= _) _ _ ⟨g1,g,d,tk,os⟩);refine B2 (wpAny_mkInt ?_)
 (show IR _ _ (setField (.ref e) 3 (Pi (k+1)) >>= _) _ _ ⟨g1,g,d,tk+1,os⟩);refine B2 (MJ z (by simp) λg2 C m=>?_)
 have m:Nn e g1 g2:=m;have C:PU g2 e it (k+1) old:=C
 (show IR _ _ (setField (.ref e) 4 .none >>= _) _ _ ⟨g2,g,d,tk+1,os⟩);refine B2 (MJ C (by simp) λg3 O l=>?_)
 have l:Nn e g2 g3:=l;have O:PU g3 e it (k+1) old:=O
 (show IR _ _ (newTuple [.int k tk,x] >>= _) _ _ ⟨g3,g,d,tk+1,os⟩);refine B2 (wpAny_newTuple ?_)
 have r:PU (g3.push {cls:= .type "tuple",data:= .seq #[.int k tk,x]}) e it (k+1) old:=B0 _ O;generalize h:g3.push {cls:= .type "tuple",data:= .seq #[.int k tk,x]}=g4 at r
 have T:g3.objs.size=f.objs.size:=by rw[l.1,m.1,b1.1]
 have le:e<f.objs.size:=De he
 have V:g4.get? f.objs.size=some {cls:= .type "tuple",data:= .seq #[.int k tk,x]}:=by rw[<-h,<-T];exact Gc _ rfl
 have W:∀b o,b≠e->b≠it->f.get? b=some o->g4.get? b=some o:=λb o a j c=>by
  rw[<-h];exact B0 _ (l.extBut b o a (m.extBut b o a (b1.extBut b o j c)))
 have c4:St (i+1) g4:=D.frame _ _ _ c1 λb c o y=>by
  have a:b≠e:=λq=>p (q▸c);rw[<-h];exact B0 _ (l.extBut b o a (m.extBut b o a y))
 show IR _ _ (ME (.ref e) >>= _) _ _ ⟨g4,g,d,tk+1,os⟩;rw[T];refine B2 ?_;unfold ME;refine B2 (MK r rfl (x:= .none) rfl (KF ?_));simp only[if_true];refine B2 (Ph (B2 (MK r rfl (x:=old) rfl (B2 (MJ r (by simp) λt M L=>?_)))));have L:Nn e g4 t:=L;have M:PU t e it (k+1) x:=M
 (show IR _ _ (Nm (.ref e) (.ref f.objs.size) >>= _) _ _ ⟨t,g,d,tk+1,os⟩);refine B2 ?_
 unfold Nm;refine B2 (MJ M (by simp) λN K H=>?_);have H:Nn e t N:=H;have K:Rv N e it (k+1) x f.objs.size:=K;refine MJ K (by simp) λu S J=>?_;have J:Nn e N u:=J;have S:Rv u e it (k+1) x f.objs.size:=S;have F:∀b o,b≠e->g4.get? b=some o->u.get? b=some o:=λb o c y=>J.extBut b o c (H.extBut b o c (L.extBut b o c y));refine B2 (Ox (KF ⟨_,rfl,U x u tk px S (D.frame _ _ _ c4 λb c o y=>F b o (λq=>p (q▸c)) y) (F _ _ (Nz le) V) λb o a j c=>F b o a (W b o a j c)⟩))
theorem DM{k:Int}{P:Nat->B5->Prop}{St:Nat->MP->Prop}{Q:Option B5->FS->Prop}(D:Draws prog w A.in1 it fp n P St)(he:PU s.heap e it k old)(f:St i s.heap)(g:i<n)(h:e≠it)(j:e∉fp)(m:∀x h' tk,P i x->Rv h' e it (k+1) x s.heap.objs.size->St (i+1) h'->h'.get? s.heap.objs.size=some {cls:= .type "tuple",data:= .seq #[.int k tk,x]}->
   (∀b o,b≠e->b≠it->s.heap.get? b=some o->h'.get? b=some o)->Q (some (.ref s.heap.objs.size)) {s with heap:=h',toks:=tk+1}):
  IR (L0 prog w) A (OS (.ref e)) Q E s:=by
 have l:s.TypeIs (.ref e) "enumerate":=⟨_,he,rfl⟩;unfold OS
 exact B2 (Re (NG (name:=MB "__next__") l RZ (Oc RZ l F.entry_enumerate_next
  (CP D he f g h j λx h' tk a b c d k=>KF (m x h' tk a b c d k)) (F.args_enumerate_next_1 _))))
theorem Dn(l:B3)(its:Array B5)(n:Nat)(a:Option B3)(sl:Array (Option B5)):
  Meets (Builtin.«enumerate.__new__» ⟨[.type "enumerate",.ref l],[]⟩) (λ_ R s=>s.heap.get? l=some {cls:= .type "tuple",dict:=a,data:= .seq its n,slots:=sl}/\
   R (.ok (.ret (.ref (s.heap.push {cls:= .type "tuple_iterator",data:= .fields #[.ref l,.int 0 0]}).objs.size)))
    {s with heap:=(s.heap.push {cls:= .type "tuple_iterator",data:= .fields #[.ref l,.int 0 0]}).push {cls:= .type "enumerate",data:= .fields #[.none,.bool false,.ref s.heap.objs.size,Pi 0,.none,.none]}}):=
 .of_wp λprog w A R s h=>by
  obtain⟨f,g,d,tk,os⟩:=s;obtain⟨hl,h⟩:=h;have e:=sub_enumerate;have b:RP (R5 ⟨f,g,d,tk,os⟩) l its:=⟨_,hl,rfl,n,rfl⟩
  wp_walk using Ol hl
  refine wpAny_stack_any λst=>KF ?_
  split
  ·rename_i c _ _ _ _ _
   cases(c==OG "enumerate")
   all_goals
    wp_walk using Ol hl,Os b
    exact⟨_,rfl,h⟩
  ·wp_walk using Ol hl,Os b
   exact⟨_,rfl,h⟩
theorem BD(g:s.heap.IsTuple l its)(h:∀h',PU h' (s.heap.objs.size+1) s.heap.objs.size 0 .none->h'.IsTupleIter s.heap.objs.size l 0->(∀b o,s.heap.get? b=some o->h'.get? b=some o)->Q (.ref (s.heap.objs.size+1)) {s with heap:=h'}):
  IR (L0 prog w) A (call (.type "enumerate") [.ref l]) Q E s:=by
 obtain⟨⟨c,a,i,sl⟩,hl,j,n,hd⟩:=g;have e:c= .type "tuple":=j;have d:i= .seq its n:=hd;subst e d;refine callType_new F.called_enumerate (by decide) (F.typeCall_enumerate_1 _) (F.newCall_enumerate_1 _) (λobj=>F.args_object_init_2 obj _) F.entry_enumerate_new (Dn l its n a sl) ⟨hl,?_⟩;have f:(s.heap.push {cls:= .type "tuple_iterator",data:= .fields #[.ref l,.int 0 0]}).objs.size=s.heap.objs.size+1:=Ng ..
 have he:PU ((s.heap.push {cls:= .type "tuple_iterator",data:= .fields #[.ref l,.int 0 0]}).push {cls:= .type "enumerate",data:= .fields #[.none,.bool false,.ref s.heap.objs.size,Pi 0,.none,.none]}) (s.heap.objs.size+1) s.heap.objs.size 0 .none:=by
  have q:=Gc (s.heap.push {cls:= .type "tuple_iterator",data:= .fields #[.ref l,.int 0 0]}) (o:={cls:= .type "enumerate",data:= .fields #[.none,.bool false,.ref s.heap.objs.size,Pi 0,.none,.none]}) rfl;rw[f]at q;exact q
 (show _/\_);rw[f]
 exact⟨⟨_,he,rfl⟩,h _ he ⟨_,B0 _ (Gc _ rfl),rfl,rfl⟩ λb o x=>B0 _ (B0 _ x)⟩
theorem Inv.iw{ch:List B3}{o:HO}(I:Inv X pins σ H s)(k:∀b u,b∉ch->s.heap.get? b=some u->h'.get? b=some u)(d:∀b∈ch,jO X pins H b)(l:s.heap.objs.size<=a)(i:cv X.prog X.w (upd H a o) h' a o):Inv X pins σ (upd H a o) {s with heap:=h',toks:=t'}:=by
 have hn:H a=none:=I.hok.fresh l
 have h:∀b u,H b=some u->b∉ch:=λb u e z=>by rw[(d b z).1]at e;cases e
 refine I.step (g':=s.gens) (d':=s.drawn) (ch:=ch) (λb g=>⟨(d b g).2.2.2.1,(d b g).2.1,(d b g).2.2.2.2.1,(d b g).2.2.2.2.2⟩) (λb o _ _ f e _=>k b o f e) (λb o _ _ f e _=>⟨o.slots,k b o f e⟩)
  (λb u f e n=>by rw[ak (LV (Mg (De e) l))];exact n) (λb o f e=>⟨o,k b o f e⟩) (λb xs e=>by rw[ak (aM e hn)];exact e) (λb u xs e=>by rw[ak (aM e hn)];exact e)
  (λb ps e=>⟨#[],by rw[ak (aM e hn),e];simp⟩) (λm hm=>?_) (λb u e=>?_) I.bare
 ·obtain⟨j,es,ep,p,r⟩:=hm;exact⟨j,es,ep,k _ j (λz=>(d _ z).2.1 rfl) p,r⟩
 ·by_cases g:b=a
  ·subst g;rw[ae]at e
   cases e
   exact i
  ·rw[ak g]at e
   refine(I.hok b u e).vG (λc v f q=>k c v ?_ q) (λc q=>by rw[ak (aM q hn)];exact q) λc xs q=>by rw[ak (aM q hn)];exact q
   rcases f with z|z
   ·rw[z];exact h b u e
   ·exact h c _ z
def HX(Sq:Hp->List V->Prop)(k:Int):It:=
 ⟨λi H=>∃xs x,Sq H xs/\xs[i]? =some x,λi H x H'=>∃p y,x= .ref p/\H p=none/\H'=upd H p (.tup [.int (k+i),y])/\∀xs,Sq H xs->xs[i]? =some y,λi H=>∃xs,Sq H xs/\xs.length=i⟩
theorem By{pt:Pos}(a e it:B3)(k:Int)(m:e≠it):
  Turn P w K (.Tuple es kk pt) (HX (λH xs=>aT K H a xs) k) [e,it] e (λi h=>(∃old,PU h e it (k+(i:Int)) old)/\h.IsTupleIter it a i) where
 mem:=by simp
 obj:=λi h st b j=>by
  obtain⟨⟨old,he⟩,o,c,f,hd⟩:=st
  rcases List.mem_cons.mp j with z|z
  ·subst z;exact⟨_,he,λv q=>by cases q⟩
  ·have z:b=it:=by simpa using z
   subst z;exact⟨o,c,λv q=>by rw[hd]at q;cases q⟩
 keep:=λi h h' st kk=>by
  obtain⟨⟨old,he⟩,o,c,r⟩:=st;exact⟨⟨old,kk e (by simp) _ he⟩,o,kk it (by simp) o c,r⟩
 item:=by
  intro X Q T M f i pins s σ H E I B st R;subst Q T M;obtain⟨xs,x,F,hx⟩:=R;obtain⟨its,U,p,hz⟩:=I.tuple F;obtain⟨u,V,ru⟩:=U.get hx;obtain⟨⟨old,he⟩,d⟩:=st;have pl:s.heap.IsTuple a its.toArray:=p
  have n:a≠it:=λz=>by
   obtain⟨o,c,f,_⟩:=pl;obtain⟨o',t,l,_⟩:=d;rw[z,t]at c
   cases c
   rw[l]at f
   injection f with q
   exact absurd q (by decide)
  have S:e≠a:=λz=>by
   obtain⟨o,c,f,_⟩:=pl;rw[<-z,he]at c
   cases c
   injection f with q
   exact absurd q (by decide)
  have D:=ou (prog:=X.prog) (w:=X.w) (A:=X.A.in1) (I.ok.hd f) it a n its.toArray
  have lt:i<its.toArray.size:=by
   rw[B4];exact(List.getElem?_eq_some_iff.mp V).1
  refine DM D he ⟨d,pl⟩ lt m (λz=>?_) λy g tk py eo O tt kp=>?_
  ·rcases List.mem_cons.mp z with z|z
   ·exact m z
   ·exact S (by simpa using z)
  ·have ey:y=u:=by
    have q:its.toArray[i]? =some y:=py
    have Z:its.toArray[i]? =some u:=by simpa using V
    rw[Z]at q;exact(L6 q).symm
   subst ey;refine⟨_,rfl,wpAny_letOwnedTupleGo_enum eo λg2 L N=>?_⟩;have le:e<s.heap.objs.size:=De he
   have W:it<s.heap.objs.size:=by
    obtain⟨o,c,_⟩:=d;exact De c
   have G:g2.get? s.heap.objs.size=some {cls:= .type "tuple",data:= .seq #[.int (k+i) tk,y]}:=(N.2 _ (Nz le)).trans tt;have nT:H s.heap.objs.size=none:=I.fresh
   have I1:Inv X pins σ (upd H s.heap.objs.size (.tup [.int (k+i),x])) {s with heap:=g2,toks:=tk+1}:=by
    refine I.iw (t':=tk+1) (ch:=[e,it]) (λb o j q=>?_) B (B6 _) ⟨?_,[.int (k+i) tk,y],.cons ⟨tk,rfl⟩ (.cons ru .nil),⟨_,G,rfl,0,rfl⟩⟩
    ·have C:b≠e:=λz=>j (by simp[z]);have J:b≠it:=λz=>j (by simp[z]);exact(N.2 b C).trans (kp b o C J q)
    ·show 2<=sizeLine;decide
   have e1:k+((i+1:Nat):Int)=k+(i:Int)+1:=by lia
   refine⟨.ref s.heap.objs.size,_,I1,rfl,⟨_,x,rfl,nT,rfl,λys hy=>?_⟩,⟨⟨y,by rw[e1];exact L⟩,?_⟩,λb j=>?_⟩
   ·rw[I.ix hy F];exact hx
   ·obtain⟨⟨o,c,r⟩,_⟩:=O;exact⟨o,(N.2 it m.symm).trans c,r⟩
   ·rcases List.mem_cons.mp j with z|z
    ·subst z;rw[ak (LV le)];exact(B b (by simp)).1
    ·have z:b=it:=by simpa using z
     subst z;rw[ak (LV W)];exact(B b (by simp)).1
 done:=by
  intro X Q T M f i pins s σ H E I B st R;subst Q T M;obtain⟨xs,F,hx⟩:=R;obtain⟨its,U,p,hz⟩:=I.tuple F;obtain⟨⟨old,he⟩,d⟩:=st;have pl:s.heap.IsTuple a its.toArray:=p
  have n:a≠it:=λz=>by
   obtain⟨o,c,f,_⟩:=pl;obtain⟨o',t,l,_⟩:=d;rw[z,t]at c
   cases c
   rw[l]at f
   injection f with q
   exact absurd q (by decide)
  have D:=ou (prog:=X.prog) (w:=X.w) (A:=X.A.in1) (I.ok.hd f) it a n its.toArray
  have Y:its.toArray.size=i:=by
   rw[B4,<-U.length];exact hx
  obtain⟨f0,f1,f2,f3,f4,f5⟩:=B it (by simp);refine wpAny_pyNext_enum_endD D he (by rw[Y];exact⟨d,pl⟩) λh' eb=>⟨rfl,I.turned (t':=s.toks) (λb o j q=>eb b o j q) f0 f1 f3 f4 f5⟩
 self:=λ_ _ _ _ _ st h=>by
  obtain⟨⟨old,he⟩,_⟩:=st;exact Sx he h
section
variable{pt:Pos}
def KO(K:mo)(ta:TA):TI:=λσ H R=>ta σ H λvs H1=>∃a,vs=[.ref a]/\(∃xs,aT K H1 a xs)/\R (HX (λH xs=>aT K H a xs) 0) H1
theorem zr{l:Expr}{ta:TA}{p:Pos}(o:Gl X "enumerate")(hm:X.mg "enumerate"=none)(ha:PA X [l] ta)(f:L9 [l] X.env=[(false,M3 l X.env)]:=by rfl):
  PI X (.Tuple es kk pt) (.Call (.Name "enumerate" p) [l] [] pos) (KO X.K ta):=by
 intro pins s σ H R I h;refine Rw (eI I o hm boot_enumerate (Mq (bW (ha pos pins s σ H _ I h) λus s1 ⟨vs,H1,c,n,g⟩=>?_) f rfl));obtain⟨a,d,⟨xs,k⟩,q⟩:=g;subst d;obtain⟨u,d,j⟩:=vals1 n;subst d;obtain rfl:u=Kf a:=j;obtain⟨its,t,pl,r⟩:=c.tuple k;refine BD (show s1.heap.IsTuple a its.toArray from pl) λh' he e kp=>?_;have i:Inv X pins σ H1 {s1 with heap:=h'}:=c.kept (t':=s1.toks) kp;refine Sx he ⟨s1.heap.objs.size+1,[s1.heap.objs.size+1,s1.heap.objs.size],_,_,H1,rfl,i,By a _ _ 0 (Nat.succ_ne_self _),⟨⟨.none,by rw[show(0:Int)+((0:Nat):Int)=0 by exact Cv];exact he⟩,e⟩,λb m=>?_,q⟩
 rcases List.mem_cons.mp m with z|z
 ·subst z;exact c.kz (PN _) (c.hok.fresh (PN _))
 ·have z:b=s1.heap.objs.size:=by simpa using z
  subst z;exact c.kz (B6 _) (c.hok.fresh (B6 _))
end
theorem Aq{Sq:Hp->List V->Prop}{k:Int}{g:TG}{tb:TS}{D:Ends}(b:Nat->St->Hp->Prop)(h0:b 0 σ H)(hl:∀i σ H,i<=xs.length->b i σ H->Sq H xs)(j:∀i x p σ H,xs[i]? =some x->H p=none->b i σ H->g (.ref p) σ (upd H p (.tup [.int (k+i),x])) λc H2=>tb {D with nx:=b (i+1),ct:=b (i+1),bk:=D.nx} c H2)(hd:∀σ H,b xs.length σ H->D.nx σ H):
  ∃W:Nat->Nat->St->Hp->Prop,(∃m,W 0 m σ H)/\∀i m σ H,W i m σ H->
   ((HX Sq k).stop i H/\D.nx σ H)∨((HX Sq k).go i H/\∃N:St->Hp->Prop,(∀σ' H',N σ' H'->∃f,f<m/\W (i+1) f σ' H')/\∀x H',(HX Sq k).yld i H x H'->g x σ H' λc H2=>tb {D with nx:=N,ct:=N,bk:=D.nx} c H2):=by
 refine⟨λi m σ H=>m=xs.length-i/\i<=xs.length/\b i σ H,⟨xs.length,by simp,L5 _,h0⟩,?_⟩;rintro i m σ H ⟨rfl,hi,p⟩;have q:=hl i σ H hi p;by_cases d:i<xs.length
 ·refine .inr ⟨⟨xs,xs[i],q,by simp[d]⟩,b (i+1),λσ' H' n=>⟨xs.length-(i+1),by lia,rfl,d,n⟩,λx H' y=>?_⟩;obtain⟨a,z,h,hn,l,y⟩:=y;subst h l;exact j i z a σ H (y xs q) hn p
 ·have e:i=xs.length:=by lia
  subst e;exact .inl ⟨⟨xs,q,rfl⟩,hd σ H p⟩
theorem qH:∀{ys:List Str}{us:List B5},Vals (ys.map V.str) us->StrsAre us ys
 |[],_,.nil=> .nil
 |y::ys,_,.cons r t=>by
  obtain⟨t',e⟩:=(show∃t',_=MU y t' from r);subst e;exact .cons _ _ (qH t)
def rJoin(K:mo):V->List V->Hp->VK->Prop:=λx vs H Q=>∃z b ys,x= .str z/\vs=[.ref b]/\bg K H b (ys.map V.str)/\(ys.map (·.length)).sum+ys.length*z.length<=16777216/\Q (.str (L1 z ys)) H
theorem ff:zl X "str.join" (rJoin X.K):=by
 intro pins s σ H x vs v us Q I f i h;obtain⟨z,b,ys,a,d,hB,g,q⟩:=h;subst a d;obtain⟨t,e⟩:=(show∃t,v=MU z t from f);subst e;obtain⟨u,j,l⟩:=i.one;subst j;obtain rfl:u=Kf b:=l;obtain⟨its,r,pl,c⟩:=I.list hB;exact join_list pl.isList (by simpa using qH r) g λt' k=>⟨.str (L1 z ys),H,I.tok k,⟨t',rfl⟩,q⟩
def uk{α:Type}(p:α->α->Bool):Option α->Option α->Bool
 |some a,some b=>p a b
 |_,_=>true
theorem all_range{α:Type}(p:α->α->Bool):∀(xs ys:List α),xs.length=ys.length->((Me xs.length).all λj=>uk p xs[j]? ys[j]?)=(xs.zip ys).all λq=>p q.1 q.2
 |[],_,_=>by simp
 |x::xs,[],h=>by simp at h
 |x::xs,y::ys,h=>by
  have a:=all_range p xs ys (by simpa using h);rw[B8,RK,Oi,Pn,Sv,Oi,<-a]
  congr 1
def A6(K:mo):List V->Hp->VK->Prop:=λxs H Q=>∃x n t b,xs=[x,.ty n]/\hK K H x t/\Oz K t (.type n)=some b/\Q (.bl b) H
theorem bh:dB X (.builtin "isinstance") (A6 X.K):=by
 intro pins s σ H xs us Q I r h;obtain⟨x,n,t,b,a,ty,c,q⟩:=h;subst a;obtain⟨u,v,e,f,d⟩:=vals2 r;subst e;obtain rfl:v=OG n:=d;exact xT I f ty c λtk=>⟨.bl b,H,I.tok tk,rfl,q⟩
def xf(fs:OD)(N:List Str)(x:Str)(scope:OD):Bool:=
 decide (scope.kind= .function)&&scope.names.all (λy=>decide (y.2≠ .cell))&&scope.names.all (λy=>decide (y.2= .local->scope.names.lookup y.1=some .local))&&decide (scope.names.lookup x=some .local)&&
 scope.names.all (λy=>decide (y.2= .free->fs.names.lookup y.1=some .cell∨fs.names.lookup y.1=some .free))&&
 N.all (λy=>match scope.names.lookup y with
  |none=>true
  |some .free=>decide (fs.names.lookup y=some .cell∨fs.names.lookup y=some .free)
  |some _=>false)&&decide ((x::N).Nodup)
theorem ba{fs:OD}(b:X.env.scope=fs)(f:X.N=N)(c:xf fs N x scope=true):iV X x scope:=by
 subst b f;unfold xf at c;simp only[M0,QA,decide_eq_true_eq]at c;obtain⟨⟨⟨⟨⟨⟨c1,c2⟩,c3⟩,c4⟩,c5⟩,c6⟩,c7⟩:=c;refine⟨c1,c2,c3,c4,c5,λy a=>?_,c7⟩;have q:=c6 y a;unfold rG
 cases e:scope.names.lookup y with
 |none=>rfl
 |some k=>
  rw[e]at q
  cases k with
  |free=>
   have g:X.env.scope.names.lookup y=some .cell∨X.env.scope.names.lookup y=some .free:=by simpa using q
   show(X.env.kindOf y==some .cell||X.env.kindOf y==some .free)=true;have d:X.env.kindOf y=X.env.scope.names.lookup y:=rfl;rw[d]
   rcases g with z|z<;>rw[z]<;>rfl
  |_=>simp at q
theorem Ga{ys:List V}{ws:List B5}(r:Vals xs us)(a:Vals ys ws)(hl:xs.length=ys.length)(fx:xs.all eX=true)(fy:ys.all eX=true)(j:Nat)(h1:j<us.toArray.size)(h2:j<ws.toArray.size):
  QY A s us.toArray[j] ws.toArray[j] (uk qT xs[j]? ys[j]?):=by
 have l1:=r.length;have l2:=a.length;rw[B4]at h1 h2
 have g1:j<xs.length:=by lia
 have g2:j<ys.length:=by lia
 obtain⟨w1,b,d⟩:=r.get (i:=j) (x:=xs[j]) (by simp[g1]);obtain⟨w2,c,p2⟩:=a.get (i:=j) (x:=ys[j]) (by simp[g2])
 have s1:us.toArray[j]=w1:=by
  rw[AC h1]at b;simpa using b
 have s2:ws.toArray[j]=w2:=by
  rw[AC h2]at c;simpa using c
 rw[s1,s2];simp only[AC g1,AC g2];exact uI d p2 (List.all_eq_true.mp fx _ (MY g1)) (List.all_eq_true.mp fy _ (MY g2))
def Kj(K:mo):R2:=λx y H Q=>∃a b xs ys,x= .ref a/\y= .ref b/\bg K H a xs/\bg K H b ys/\xs.length=ys.length/\xs.all eX=true/\ys.all eX=true/\Q (.bl (!(xs.zip ys).all λp=>qT p.1 p.2)) H
theorem Gu(n:X.A.units<Np):hV X (MR .NotEq) (Kj X.K):=by
 intro pins s σ H x y v u Q I l m h;obtain⟨a,b,xs,ys,g,k,hA,hB,hl,fx,fy,q⟩:=h;subst g k;obtain rfl:v=Kf a:=l;obtain rfl:u=Kf b:=m;obtain⟨its,r,pl,o⟩:=I.list hA;obtain⟨f,d,c,i⟩:=I.list hB;have l1:=r.length;have l2:=d.length;refine P9 (e:=λj=>uk qT xs[j]? ys[j]?) pl.isList c.isList (by rw[B4,B4];lia) n (λj h1 h2=>Ga r d hl fx fy j h1 h2) _ _ _ _ ⟨.bl _,H,I,rfl,?_⟩;rw[B4,<-l1,all_range qT xs ys hl];exact q
theorem tq{lo:Int}{tt:TT}{te:TE}{Q:VK}(c:B3->Nat->List V->Hp->Prop)(hn:n<sizeLine)(h0:∀D,H D=none->c D 0 [] (upd H D (.lst [])))(hl:∀D i l H',c D i l H'->l.length<=i)(he:∀(D:B3)(i:Nat)(l:List V)(H':Hp)(g:Bool->Hp->Prop),i<n->c D i l H'->(∀b H2,(b=false->c D (i+1) l H2)->(b=true->∀h:VK,(∀y H3,H3 D=some (.lst l)->c D (i+1) (l++[y]) (upd H3 D (.lst (l++[y])))->h y H3)->te (some (.int (lo+i))::σ) H2 h)->g b H2)->tt (some (.int (lo+i))::σ) H' g)(hd:∀D l H',c D n l H'->Q (.ref D) H'):fb (Eg lo n) H σ tt te Q:=by
 intro D o;refine⟨λi m H'=>m=n-i/\i<=n/\∃l,c D i l H',⟨n,by lia,L5 _,[],h0 D o⟩,?_⟩;rintro i m H' ⟨rfl,hi,l,f⟩;by_cases a:i<n
 ·refine .inr ⟨a,λx H2 y=>?_⟩;obtain⟨e,y⟩:=y;subst e y;refine he D i l H2 _ a f λb H3 q p=>?_
  cases b with
  |false=>
   refine bA ?_;exact⟨n-(i+1),by lia,rfl,a,l,q rfl⟩
  |true=>
   refine di (p rfl _ λv H4 k j=>?_);have d:=hl D i l H2 f;exact⟨l,k,OT d (by lia),n-(i+1),by lia,rfl,a,l++[v],j⟩
 ·have e:i=n:=by lia
  subst e;exact .inl ⟨B6 _,hd D l H' f⟩
theorem ym(a:X.K=K):dB X (.builtin "len") (λxs H Q=>∃p ys,xs=[.ref p]/\(bg K H p ys∨aT K H p ys)/\Q (.int ys.length) H):=by
 subst a;exact br
theorem Vals.at(r:Vals xs us)(h:us[i]? =some u):∃x,xs[i]? =some x/\RelV x u:=by
 have hi:i<us.length:=(List.getElem?_eq_some_iff.mp h).1;have hl:=r.length;obtain⟨w,q,p⟩:=r.get (i:=i) (x:=xs[i]) (by simp[show i<xs.length by lia]);rw[h]at q
 cases q
 exact⟨xs[i],by simp[show i<xs.length by lia],p⟩
theorem Jh{bs:List Bool}(r:Vals (bs.map V.bl) us)(h:us[i]? =some u):∃b,bs[i]? =some b/\u= .bool b:=by
 obtain⟨x,hx,p⟩:=r.at h;rw[B7]at hx
 cases e:bs[i]? with
 |none=>rw[e]at hx;cases hx
 |some b=>
  rw[e]at hx;have q:V.bl b=x:=L6 hx;subst q;exact⟨b,rfl,p⟩
theorem sU:∀bs:List Bool,((Me bs.length).all λi=>(bs[i]?).getD true)=bs.all id
 |[]=>rfl
 |b::bs=>by
  have a:=sU bs;rw[B8,RK,Oi,Pn,Oi,<-a];rfl
inductive Hx(K:mo)(xs:List V)(H:Hp)(Q:VK):Prop
 |mk (p:B3) (ns:List Int) (c0:xs=[.ref p]) (c1:bg K H p (ns.map V.int)) (c2:Q (.int ns.sum) H)
def E1(K:mo):List V->Hp->VK->Prop:=λxs H Q=>Hx K xs H Q
theorem yH(l:X.calm=true):dB X (.builtin "sum") (E1 X.K):=by
 intro pins s σ H xs us Q I r h;obtain⟨p,ns,e,i,q⟩:=h;subst e;obtain⟨u,a,k⟩:=vals1 r;subst a;obtain rfl:u=Kf p:=k;obtain⟨its,j,pl,m⟩:=I.list i;have b:=intsAre_of j;obtain⟨zs,d⟩:=b.allInts.items
 have f:ns=zs.toList.map (·.1):=by rw[<-b.numsOf,<-nums_intItems,<-d]
 have c:=pl.isList;rw[d]at c;refine sum_intListG (I.ok.hd l) c λh' tk t' g=>?_
 have a:preSum (numAt zs) zs.size=ns.sum:=by rw[preSum_eq,MF (by simp),f]
 rw[a];exact⟨.int _,H,I.kept g,⟨t',rfl⟩,q⟩
inductive Hq(K:mo)(xs:List V)(H:Hp)(Q:VK):Prop
 |mk (p:B3) (bs:List Bool) (c0:xs=[.ref p]) (c1:bg K H p (bs.map V.bl)) (c2:Q (.bl (bs.all id)) H)
def zv(K:mo):List V->Hp->VK->Prop:=λxs H Q=>Hq K xs H Q
theorem dh(w:X.calm=true):dB X (.builtin "all") (zv X.K):=by
 intro pins s σ H xs us Q I r h;obtain⟨p,bs,g,l,q⟩:=h;subst g;obtain⟨u,j,t⟩:=vals1 r;subst j;obtain rfl:u=Kf p:=t;obtain⟨its,f,pl,z⟩:=I.list l;have c:=pl.isList
 have lt:p<s.heap.objs.size:=by
  obtain⟨_,e,_⟩:=c;exact De e
 refine call_all_walk (Sw c ?_)
 refine⟨s.heap.objs.size,[s.heap.objs.size,p],[s.heap.objs.size],its.toArray.size,_,_,λi=>(bs[i]?).getD true,rfl,Walks.list (A:=X.A.in1) (I.ok.hd w) _ p (LV lt) its.toArray,
  ⟨⟨_,Gc _ rfl,rfl,rfl⟩,c.push _⟩,λi v s' y x m d=>?_,λh' tk k=>?_⟩
 ·obtain⟨b,e,n⟩:=Jh f (by simpa using m);subst n;simp only[e,Option.getD_some]at d;exact MI d
 ·have e:((Me its.toArray.size).all λi=>(bs[i]?).getD true)=bs.all id:=by
   have hl:=f.length;rw[be]at hl;rw[B4,<-hl,sU]
  rw[e];refine⟨.bl _,H,I.kept (t':=tk) λb o a=>k b o (λhm=>?_) (B0 _ a),rfl,q⟩;rw[List.mem_singleton.mp hm]at a;exact Nc _ (De a)
def KG(K:mo)(c:Bool):R2:=λx y H Q=>∃a b xs,x= .ref a/\y= .ref b/\bg K H a xs/\bg K H b []/\Q (.bl (if c then !xs.isEmpty else xs.isEmpty)) H
theorem Hc(f:X.A.units<Np):hV X (MR .NotEq) (KG X.K true):=by
 intro pins s σ H x y v u Q I l m h;obtain⟨a,b,xs,g,k,hA,hB,q⟩:=h;subst g k;obtain rfl:v=Kf a:=l;obtain rfl:u=Kf b:=m;obtain⟨its,r,pl,p⟩:=I.list hA;obtain⟨d,o,c,i⟩:=I.list hB;have l1:=r.length;have l2:=o.length;rw[On]at l2
 cases xs with
 |nil=>
  rw[On]at l1;refine P9 (e:=λ_=>true) pl.isList c.isList (by rw[B4,B4];lia) f (λj h1 h2=>by rw[B4]at h1;lia) _ _ _ _ ⟨.bl false,H,I,?_,q⟩;show Pj _=Pj false
  congr 1
  rw[show((Me its.toArray.size).all λ_=>true)=true from List.all_eq_true.mpr λ_ _=>rfl];rfl
 |cons t n=>
  rw[B8]at l1;refine SeqAt.RcNeAt.lists_lengths pl.isList c.isList ?_ f _ _ _ _ ⟨.bl true,H,I,rfl,q⟩;rw[B4,B4];simp
  lia
section
variable{κ:Type}[DecidableEq κ]
def cE(kvs:List (κ×V))(k:κ):Option V:=(kvs.find? λa=>decide (a.1=k)).map (·.2)
def putK(kvs:List (κ×V))(k:κ)(v:V):List (κ×V):=
 if(kvs.any λa=>decide (a.1=k))=true then kvs.map (λa=>if a.1=k then(a.1,v)else a)else kvs++[(k,v)]
def jh(kvs:List (κ×V))(k:κ):List (κ×V):=kvs.filter λa=>decide (a.1≠k)
theorem cM{p:κ×V}{r:List (κ×V)}{k:κ}(e:p.1=k):cE (p::r) k=some p.2:=by simp[cE,Oo,e]
theorem cN{p:κ×V}{r:List (κ×V)}{k:κ}(e:¬p.1=k):cE (p::r) k=cE r k:=by simp[cE,Oo,e]
theorem gF(k:κ):∀kvs:List (κ×V),(kvs.any λa=>decide (a.1=k))=(cE kvs k).isSome
 |[]=>rfl
 |p::r=>by
  rw[OJ];by_cases e:p.1=k
  ·simp only[cM e,decide_eq_true e,Bool.true_or,Option.isSome_some]
  ·rw[cN e,decide_eq_false e,Bool.false_or];exact gF k r
theorem rO(k j:κ)(y:V):∀kvs:List (κ×V),cE (kvs.map λa=>if a.1=k then(a.1,y)else a) j=(cE kvs j).map λx=>if j=k then y else x
 |[]=>rfl
 |p::r=>by
  have b:=rO k j y r;rw[Mc];by_cases h:p.1=k
  ·rw[if_pos h];by_cases e:p.1=j
   ·rw[cM (p:=(p.1,y)) e,cM e,Pt,if_pos (e.symm.trans h)]
   ·rw[cN (p:=(p.1,y)) e,cN e,b]
  ·rw[if_neg h];by_cases e:p.1=j
   ·rw[cM (p:=p) e,cM e,Pt,if_neg (λz=>h (e.trans z))]
   ·rw[cN (p:=p) e,cN e,b]
theorem oV(k j:κ)(y:V):∀kvs:List (κ×V),cE kvs k=none->cE (kvs++[(k,y)]) j=if j=k then some y else cE kvs j
 |[],_=>by
  by_cases e:k=j
  ·rw[if_pos e.symm];exact cM (p:=(k,y)) e
  ·rw[if_neg (λz=>e z.symm)];exact cN (p:=(k,y)) e
 |p::r,hn=>by
  rw[ML]
  have a:¬p.1=k:=λz=>by rw[cM z]at hn;cases hn
  rw[cN a]at hn;have b:=oV k j y r hn;by_cases e:p.1=j
  ·rw[cM e,cM e,if_neg (λz=>a (e.trans z))]
  ·rw[cN e,cN e,b]
theorem BI(kvs:List (κ×V))(k j:κ)(y:V):cE (putK kvs k y) j=if j=k then some y else cE kvs j:=by
 unfold putK;by_cases a:(kvs.any λb=>decide (b.1=k))=true
 ·rw[if_pos a,rO];rw[gF]at a;by_cases e:j=k
  ·obtain⟨x,hx⟩:=Option.isSome_iff_exists.mp a;rw[if_pos e,e,hx,Pt,if_pos rfl]
  ·rw[if_neg e]
   cases cE kvs j with
   |none=>rfl
   |some x=>rw[Pt,if_neg e]
 ·rw[if_neg a];refine oV k j y kvs ?_;rw[gF]at a
  cases q:cE kvs k with
  |none=>rfl
  |some x=>rw[q]at a;exact(a rfl).elim
theorem dA(kvs:List (κ×V))(k:κ)(v:V):(putK kvs k v).length<=kvs.length+1:=by
 unfold putK
 split
 ·rw[be];exact Jq
 ·rw[B1,B8,On];exact Li
theorem lJ{kvs:List (κ×V)}{k:κ}(v:V)(h:cE kvs k=none):putK kvs k v=kvs++[(k,v)]:=by
 unfold putK;rw[gF,h];exact if_neg (by decide)
theorem fe.kh{u:Option B5}(r:fe o u):o.isSome=u.isSome:=by
 cases o with
 |none=>cases u with
  |none=>rfl
  |some _=>exact(show False from r).elim
 |some _=>cases u with
  |none=>exact(show False from r).elim
  |some _=>rfl
theorem fe.getD{u:Option B5}{d':B5}(r:fe o u)(a:RelV d d'):RelV (o.getD d) (u.getD d'):=by
 cases o with
 |none=>cases u with
  |none=>exact a
  |some _=>exact(show False from r).elim
 |some _=>cases u with
  |none=>exact(show False from r).elim
  |some _=>exact r
theorem KV.val{kvs:List (κ×V)}{vs:List (κ×B5)}(r:KV kvs vs)(k:κ):fe (cE kvs k) (OI vs k):=by
 unfold KV at r
 induction r with
 |nil=>exact MO
 | @cons p q ps a h t d=>
  obtain⟨h1,h2⟩:=h;by_cases e:p.1=k
  ·have c:q.1=k:=h1.symm.trans e
   have b:OI (q::a) k=some q.2:=by simp[OI,Oo,c]
   rw[cM e,b];exact h2
  ·have c:¬q.1=k:=λz=>e (h1.trans z)
   have b:OI (q::a) k=OI a k:=by simp[OI,Oo,c]
   rw[cN e,b];exact d
theorem KV.any{kvs:List (κ×V)}{vs:List (κ×B5)}(r:KV kvs vs)(k:κ):(kvs.any λa=>decide (a.1=k))=vs.any λa=>decide (a.1=k):=by
 unfold KV at r
 induction r with
 |nil=>rfl
 |cons h t b=>rw[OJ,OJ,b,h.1]
theorem KV.Gn{kvs:List (κ×V)}{vs:List (κ×B5)}(r:KV kvs vs)(k:κ)(c:RelV y u):
  KV (kvs.map λa=>if a.1=k then(a.1,y)else a) (vs.map λa=>if a.1=k then(a.1,u)else a):=by
 unfold KV at r⊢
 induction r with
 |nil=>exact .nil
 | @cons p q ps d h t b=>
  rw[Mc,Mc];refine .cons ?_ b;obtain⟨h1,h2⟩:=h;by_cases e:p.1=k
  ·rw[if_pos e,if_pos (h1.symm.trans e)];exact⟨h1,c⟩
  ·rw[if_neg e,if_neg (λz=>e (h1.trans z))];exact⟨h1,h2⟩
theorem KV.put{kvs:List (κ×V)}{vs:List (κ×B5)}(r:KV kvs vs)(k:κ)(a:RelV y u):KV (putK kvs k y) (stored vs k u):=by
 unfold putK stored;rw[r.any k];by_cases e:(vs.any λb=>decide (b.1=k))=true
 ·rw[if_pos e,if_pos e];exact r.Gn k a
 ·rw[if_neg e,if_neg e];exact Paired.snoc r ⟨rfl,a⟩
theorem KV.drop{kvs:List (κ×V)}{vs:List (κ×B5)}(r:KV kvs vs)(k:κ):KV (jh kvs k) (without vs k):=by
 unfold KV at r⊢;unfold jh without
 induction r with
 |nil=>exact .nil
 | @cons p q ps f h t c=>
  obtain⟨h1,h2⟩:=h;rw[SW,SW];by_cases e:p.1=k
  ·have a:¬decide (p.1≠k)=true:=by simp[e]
   have b:¬decide (q.1≠k)=true:=by simp[h1.symm.trans e]
   rw[if_neg a,if_neg b];exact c
  ·have d:¬q.1=k:=λz=>e (h1.trans z)
   have a:decide (p.1≠k)=true:=by simp[e]
   have b:decide (q.1≠k)=true:=by simp[d]
   rw[if_pos a,if_pos b];exact .cons ⟨h1,h2⟩ c
theorem KV.length{kvs:List (κ×V)}{vs:List (κ×B5)}(r:KV kvs vs):kvs.length=vs.length:=O9 r
theorem zY(kvs:List (κ×V))(k:κ):(jh kvs k).length<=kvs.length:=OE _ _
end
theorem iZ{k:Key}(r:RelV (kV k) u):(bb P w).is k u=true:=by
 cases k with
 |inl i=>obtain⟨t,e⟩:=(show∃t,u=Pb i t from r);subst e;exact sH P w i t
 |inr x=>obtain⟨t,e⟩:=(show∃t,u=MU x t from r);subst e;exact rh P w x t
theorem pe:∀{ks:List Key}{us:List B5},Vals (ks.map kV) us->ItemsAre (bb P w) ks us
 |[],_,r=>by rw[Qo]at r;cases r;exact .nil
 |k::ks,_,r=>by
  rw[Mc]at r
  cases r with
  |cons h t=>exact .cons (iZ h) (pe t)
abbrev KT(H:Hp):List (List Key×V)->List (List Key×B3×B5)->Prop:=Paired λp q=>p.1=q.1/\H q.2.1=some (.tup (p.1.map kV))/\RelV p.2 q.2.2
theorem KT.val{xs:List (List Key×B3×B5)}(r:KT H kvs xs)(k:List Key):fe (cE kvs k) ((QX xs k).map (·.2)):=by
 induction r with
 |nil=>exact MO
 | @cons p q ps a h t d=>
  obtain⟨h1,_,h2⟩:=h;by_cases e:p.1=k
  ·have c:q.1=k:=h1.symm.trans e
   have b:QX (q::a) k=some q.2:=by simp[QX,Oo,c]
   rw[cM e,b];exact h2
  ·have c:¬q.1=k:=λz=>e (h1.trans z)
   have b:QX (q::a) k=QX a k:=by simp[QX,Oo,c]
   rw[cN e,b];exact d
theorem KT.Gn{xs:List (List Key×B3×B5)}(r:KT H kvs xs)(k:List Key)(d:RelV y u):
  KT H (kvs.map λa=>if a.1=k then(a.1,y)else a) (xs.map (putAt k u)):=by
 induction r with
 |nil=>exact .nil
 | @cons p q ps f h t b=>
  rw[Mc,Mc];refine .cons ?_ b;obtain⟨h1,h2,c⟩:=h;unfold putAt;by_cases e:p.1=k
  ·rw[if_pos e,if_pos (h1.symm.trans e)];exact⟨h1,h2,d⟩
  ·rw[if_neg e,if_neg (λz=>e (h1.trans z))];exact⟨h1,h2,c⟩
theorem KT.put{xs:List (List Key×B3×B5)}(r:KT H kvs xs)(k:List Key)(c:H b=some (.tup (k.map kV)))(a:RelV y u):
  KT H (putK kvs k y) (storedH xs k b u):=by
 have e:(kvs.any λd=>decide (d.1=k))=(QX xs k).isSome:=by
  rw[gF,(r.val k).kh,SE]
 unfold putK storedH;rw[e];by_cases q:(QX xs k).isSome=true
 ·rw[if_pos q,if_pos q];exact r.Gn k a
 ·rw[if_neg q,if_neg q];exact Paired.snoc r ⟨rfl,c,a⟩
theorem KT.keeps{xs:List (List Key×B3×B5)}(r:KT H kvs xs)(a:∀b ys,H b=some (.tup ys)->H' b=some (.tup ys)):KT H' kvs xs:=
 Paired.GZ r λ_ _ z=>⟨z.1,a _ _ z.2.1,z.2.2⟩
section
variable{h:MP}
theorem Fb{u:HO}(ok:iX P w H h)(e:Rd H a u):cv P w H h a u:=e.ok ok
theorem iG{kvs:List (Key×V)}(ok:iX P w H h)(e:Rd H a (.dK kvs)):kvs.length<=sizeLine/\(a==Ni)=false/\∃vs,KV kvs vs/\h.DictOf (bb P w) a vs:=
 show cv P w H h a (.dK kvs)from Fb ok e
theorem qW{kvs:List (Key×V)}(ok:iX P w H h)(e:H a=some (.dK kvs)):kvs.length<=sizeLine/\(a==Ni)=false/\∃vs,KV kvs vs/\h.DictOf (bb P w) a vs:=iG ok (.inl e)
theorem nh{ks:List Key}(ok:iX P w H h)(e:H a=some (.tup (ks.map kV))):(PV (bb P w)).is h ks a:=by
 obtain⟨_,its,r,o,h1,h2,n,b⟩:=(show cv P w H h a (.tup (ks.map kV))from ok a _ e);exact⟨o,its.toArray,n,h1,h2,b,by simpa using pe r⟩
theorem oQ(ok:iX P w H h)(e:Rd H a (.dT kvs)):kvs.length<=sizeLine/\(a==Ni)=false/\
  ∃xs,KT H kvs xs/\h.DictOfH (PV (bb P w)) a xs:=by
 obtain⟨z,y,xs,r,o,es,ep,h1,h2,g,c,f⟩:=(show cv P w H h a (.dT kvs)from Fb ok e);refine⟨z,y,xs,r,o,es,ep,h1,h2,g,c,λx hx=>?_,f⟩
 have all:∀{l:List (List Key×V)}{m:List (List Key×B3×B5)},KT H l m->∀x∈m,(PV (bb P w)).is h x.1 x.2.1:=by
  intro l m q
  induction q with
  |nil=>intro x hx;exact nomatch hx
  | @cons p q ps i b t d=>
   intro x hx
   rcases List.mem_cons.mp hx with e|hx
   ·subst e;exact nh ok (by rw[<-b.1];exact b.2.1)
   ·exact d x hx
 exact all r x hx
theorem I0(ok:iX P w H h)(e:H a=some (.dT kvs)):kvs.length<=sizeLine/\(a==Ni)=false/\
  ∃xs,KT H kvs xs/\h.DictOfH (PV (bb P w)) a xs:=oQ ok (.inl e)
end
def gC(H:Hp)(a:B3)(y:V)(r:Option V):Prop:=
 (∃kvs k,Rd H a (.dK kvs)/\y=kV k/\r=cE kvs k)∨∃kvs k b,Rd H a (.dT kvs)/\y= .ref b/\H b=some (.tup (k.map kV))/\r=cE kvs k
def oa(H:Hp)(a:B3)(y v:V)(H':Hp):Prop:=
 (∃kvs k,H a=some (.dK kvs)/\y=kV k/\kvs.length<sizeLine/\H'=upd H a (.dK (putK kvs k v)))∨
 ∃kvs k b,H a=some (.dT kvs)/\y= .ref b/\H b=some (.tup (k.map kV))/\kvs.length<sizeLine/\H'=upd H a (.dT (putK kvs k v))
theorem gC.k{kvs:List (Key×V)}{k:Key}(e:H a=some (.dK kvs)):gC H a (kV k) (cE kvs k):= .inl ⟨kvs,k,.inl e,rfl,rfl⟩
theorem gC.t{k:List Key}(e:H a=some (.dT kvs))(c:H b=some (.tup (k.map kV))):gC H a (.ref b) (cE kvs k):= .inr ⟨kvs,k,b,.inl e,rfl,c,rfl⟩
theorem oa.k{kvs:List (Key×V)}{k:Key}(e:H a=some (.dK kvs))(hl:kvs.length<sizeLine):oa H a (kV k) v (upd H a (.dK (putK kvs k v))):= .inl ⟨kvs,k,e,rfl,hl,rfl⟩
theorem oa.t{k:List Key}(e:H a=some (.dT kvs))(c:H b=some (.tup (k.map kV)))(hl:kvs.length<sizeLine):
  oa H a (.ref b) v (upd H a (.dT (putK kvs k v))):= .inr ⟨kvs,k,b,e,rfl,c,hl,rfl⟩
theorem Inv.big(I:Inv X pins σ H s):Ni<s.heap.objs.size:=by
 have h:L4<s.heap.objs.size:=(I.mod.glob.keeps I.bk).lt;exact Nat.lt_trans (by decide) h
theorem yR(t:A.units+1<Np)(I:Inv X pins σ H s)(g:gC H a y (some v))(n:RelV y u)(h:∀f s',Inv X pins σ H s'->RelV v f->Q f s'):
  IR (L0 X.prog X.w) A (QP (.ref a) u) Q E s:=by
 rcases g with⟨kvs,k,e,j,l⟩|⟨kvs,k,b,e,j,q,l⟩
 ·subst j;obtain⟨z,hd,vs,c,dd⟩:=iG I.hok e;obtain⟨f,m,d⟩:=fe.some_of (v:=v) (o:=OI vs k) (by rw[l];exact c.val k);exact wpAny_getItem_of (iZ n) dd.mapOf m (h f _ (I.tok _) d)
 ·subst j
  cases(show u=Kf b from n)
  obtain⟨z,hd,xs,c,dd⟩:=oQ I.hok e;obtain⟨f,m,d⟩:=fe.some_of (v:=v) (o:=(QX xs k).map (·.2)) (by rw[l];exact c.val k);obtain⟨p,r,i⟩:=Option.map_eq_some_iff.mp m;refine wpAny_getItem_heap (OR t) (nh I.hok q) dd r ?_;rw[i];exact h f _ (I.tok _) d
theorem J0(j:A.units+1<Np)(I:Inv X pins σ H s)(g:gC H a y o)(f:RelV y u)(h:∀s',Inv X pins σ H s'->Q (.bool o.isSome) s'):
  IR (L0 X.prog X.w) A (MR .In u (.ref a)) Q E s:=by
 rcases g with⟨kvs,k,e,d,l⟩|⟨kvs,k,b,e,d,i,l⟩
 ·subst d;obtain⟨z,hd,vs,c,dd⟩:=iG I.hok e;refine wpAny_in_of (iZ f) hd dd.mapOf ?_;rw[<-(c.val k).kh,<-l];exact h _ (I.tok _)
 ·subst d
  cases(show u=Kf b from f)
  obtain⟨z,hd,xs,c,dd⟩:=oQ I.hok e;refine wpAny_in_heap (OR j) (nh I.hok i) hd dd ?_;have q:=(c.val k).kh;rw[SE]at q;rw[<-q,<-l];exact h _ (I.tok _)
theorem il{c:HO}(I:Inv X pins σ H s)(f:Jj (H a))(h:Nn a s.heap h')(he:∃q,h'.get? a=some q)(d:cv X.prog X.w (upd H a c) h' a c):
  Inv X pins σ (upd H a c) {s with heap:=h',toks:=t'}:=
 I.write (x:=a) (e:=a) f (.inl rfl) (λb q g z=>(h.2 b g).trans z) he d
theorem me{kvs:List (Key×V)}{vs:List (Key×B5)}(z:kvs.length<=sizeLine)(hd:(a==Ni)=false)(b:KV kvs vs)(dd:h'.DictOf (bb P w) a vs):
  cv P w H' h' a (.dK kvs):=⟨z,hd,vs,b,dd⟩
theorem yx{Q:Unit->FS->Prop}(G:A.units+1<Np)(I:Inv X pins σ H s)(g:oa H a y v H')(p:RelV y u)(B:RelV v r)(h:∀s',Inv X pins σ H' s'->Q () s'):
  IR (L0 X.prog X.w) A (setItem (.ref a) u r) Q E s:=by
 rcases g with⟨kvs,k,e,n,l,j⟩|⟨kvs,k,b,e,n,x,l,j⟩
 ·subst n j;obtain⟨z,hd,vs,d,dd⟩:=qW I.hok e
  have o:vs.length<=sizeLine:=by rw[<-d.length];exact z
  have hl:(putK kvs k v).length<=sizeLine:=by have :=dA kvs k v;lia
  refine wpAny_setItem_pairs (hsz:=o) (iZ p) dd λh' f m=>h _ ?_;have he:∃q,h'.get? a=some q:=let⟨q,_,_,i,_⟩:=f;⟨q,i⟩;exact il I (by rw[e];exact MO) m he (me hl hd (d.put k B) f)
 ·subst n j
  cases(show u=Kf b from p)
  obtain⟨z,hd,xs,d,dd⟩:=I0 I.hok e
  have o:xs.length<=sizeLine:=by rw[<-O9 d];exact z
  have hl:(putK kvs k v).length<=sizeLine:=by have :=dA kvs k v;lia
  refine wpAny_setItem_heap (hsz:=o) (OR G) (nh I.hok x) dd λh' f m=>h _ ?_;obtain⟨q,es,ep,i,h2,D,F,_,C⟩:=f;refine il I (by rw[e];exact MO) m ⟨q,i⟩ ⟨hl,hd,_,(d.put k x B).keeps λc ys t=>?_,q,es,ep,i,h2,D,F,C⟩;rw[ak (gx t e (λz=>nomatch z))];exact t
section
variable{kvs:List (Key×V)}{k:Key}
theorem IB{more:List B5}(I:Inv X pins σ H s)(e:H a=some (.dK kvs))(g:RelV (kV k) u)(l:cE kvs k=some v)(hm:more=[]∨∃x,more=[x])(h:∀d s',Inv X pins σ (upd H a (.dK (jh kvs k))) s'->RelV v d->Q d s'):IR (L0 X.prog X.w) A (call (.builtin "dict.pop") (.ref a::u::more)) Q E s:=by
 obtain⟨z,hd,vs,b,dd⟩:=qW I.hok e;obtain⟨d,m,f⟩:=fe.some_of (v:=v) (o:=OI vs k) (by rw[<-l];exact b.val k)
 have n:(keyPart u).isSome=true:=by
  cases k with
  |inl i=>obtain⟨t,q⟩:=(show∃t,u=Pb i t from g);subst q;rfl
  |inr x=>obtain⟨t,q⟩:=(show∃t,u=MU x t from g);subst q;rfl
 have ha:argsOk "dict.pop" ⟨.ref a::u::more,[]⟩:=by
  rcases hm with q|⟨x,q⟩
  ·subst q;exact PySem.F.args_dict_pop_2 _ _
  ·subst q;exact Rq _ _ _
 refine Oy Py dd.typeIs RF ha (meets_dict_pop_there (bb X.prog X.w) a (iZ g) more hm n)
  ⟨vs,d,dd,by rw[<-b.length];exact z,m,λh' c j=>h d _ ?_ f⟩
 have he:∃q,h'.get? a=some q:=let⟨q,_,_,hq,_⟩:=c;⟨q,hq⟩;exact il I (by rw[e];exact MO) j he (me (Mu (zY kvs k) z) hd (b.drop k) c)
theorem Gv(I:Inv X pins σ H s)(e:H a=some (.dK kvs))(c:RelV (kV k) u)(l:cE kvs k=none)(h:∀s',Inv X pins σ H s'->Q r s'):
  IR (L0 X.prog X.w) A (call (.builtin "dict.pop") [.ref a,u,r]) Q E s:=by
 obtain⟨z,hd,vs,b,dd⟩:=qW I.hok e;have hn:OI vs k=none:=fe.none_of (by rw[<-l];exact b.val k)
 have d:(keyPart u).isSome=true:=by
  cases k with
  |inl i=>obtain⟨t,q⟩:=(show∃t,u=Pb i t from c);subst q;rfl
  |inr x=>obtain⟨t,q⟩:=(show∃t,u=MU x t from c);subst q;rfl
 exact Oy Py dd.typeIs RF (Rq _ _ _) (meets_dict_pop_default (bb X.prog X.w) a (iZ c) hd d r) ⟨vs,dd,hn,h _ (I.tok _)⟩
end
def Ja(i:Expr):Prop:=∀a b,QC i false a b=operate [a,b] (QP a b)
theorem Dh{slice:Expr}{T id:String}(hl:Sg (.type T) "__getitem__"=pure (some (.builtin id)))(k:Ja slice)(h:IR (L0 prog w) A (M3 value env) (λo d=>IR (L0 prog w) A (M3 slice env) (λi a=>a.TypeIs o T/\IR (L0 prog w) A (QP o i) Q E a) E d) E s):
  IR (L0 prog w) A (M3 (.Subscript value slice pos) env) Q E s:=by
 refine Sk (M_ h (λo d f=>M_ f (λi a b=>?_) λ_ _ x=>x) λ_ _ x=>x);obtain⟨j,b⟩:=b;unfold Rf;refine B2 ?_;rw[getitemInPython_of_ne j.not_modules];refine B2 (QF j hl ?_)
 have e:IR (L0 prog w) A (QC slice false o i) (λr c=>IR (L0 prog w) A (letTemporaryGo value o r >>=λ_=>pure r) Q E c) E a:=by
  rw[k o i];exact wpAny_operating (M_ b (λr c g=>B2 (wpAny_letTemporaryGo (KF g))) λ_ _ x=>x)
 first
  |exact KF (B2 e)
  |exact B2 (KF (B2 e))
  |exact B2 e
theorem tQ(I:Inv X pins σ H s)(g:gC H a y o):s.TypeIs (.ref a) "dict":=by
 rcases g with⟨kvs,k,e,_,_⟩|⟨kvs,k,b,e,_,_,_⟩
 ·obtain⟨_,_,vs,_,dd⟩:=iG I.hok e;exact dd.typeIs
 ·obtain⟨_,_,xs,_,dd⟩:=oQ I.hok e;exact dd.typeIs
inductive FW(Q:VK)(x:V)(y:V)(H2:Hp):Prop
 |mk (a:_) (v:_) (c0:x= .ref a) (c1:gC H2 a y (some v)) (c2:Q v H2)
def EV(td ty:TE):TE:=λσ H Q=>td σ H λx H1=>ty σ H1 λy H2=>FW Q x y H2
inductive JE(Q:VK)(y:V)(x:V)(H2:Hp):Prop
 |mk (a:_) (o:_) (c0:x= .ref a) (c1:gC H2 a y o) (c2:Q (.bl o.isSome) H2)
def KJ(ty td:TE):TE:=λσ H Q=>ty σ H λy H1=>td σ H1 λx H2=>JE Q y x H2
inductive Fq(D:Ends)(σ:St)(v:V)(x:V)(y:V)(H3:Hp):Prop
 |mk (a:_) (H4:_) (c0:x= .ref a) (c1:oa H3 a y v H4) (c2:D.nx σ H4)
def HW(td ty tv:TE):TS:=λD σ H=>tv σ H λv H1=>td σ H1 λx H2=>ty σ H2 λy H3=>Fq D σ v x y H3
section
variable{o i e:Expr}{pos' tpos:Pos}
theorem cf(m:X.A.units+1<Np)(j:PE X o td)(hi:PE X i ty)(e:Ja i):PE X (.Subscript o i pos) (EV td ty):=by
 intro pins s σ H Q I h;refine Dh PySem.F.slot_dict_getitem.lookup e (bW (j pins s σ H _ I h) λu s1 ⟨x,H1,f,k,n⟩=>bW (hi pins s1 σ H1 _ f n) λw s2 b=>?_);obtain⟨y,H2,d,l,a,v,ex,g,q⟩:=b;subst ex;obtain rfl:u=Kf a:=k;exact⟨tQ d g,yR m d g l λt r p c=>⟨v,H2,p,c,q⟩⟩
theorem zX(l:X.A.units+1<Np)(hi:PE X i ty)(f:PE X o td):PC X .In i o (KJ ty td):=by
 intro pins s σ H Q I h;refine bW (hi pins s σ H _ I h) λr s1 ⟨y,H1,e,j,m⟩=>bW (f pins s1 σ H1 _ e m) λu s2 b=>?_;obtain⟨x,H2,d,k,a,c,ex,g,p⟩:=b;subst ex;obtain rfl:u=Kf a:=k;exact J0 l d g j λq n=>⟨.bl c.isSome,H2,n,rfl,p⟩
theorem kR(w:X.A.units+1<Np)(d:PE X o td)(hi:PE X i ty)(b:PE X value tv)(c:PX value (some (.Subscript o i pos')) pos.line X.env=pure false):
  PS X (.Assign [.Subscript o i pos'] value pos) (HW td ty tv):=by
 intro pins s σ H D I h;refine wpAny_Assign_Subscript (bW (b pins s σ H _ I h) λr s1 ⟨v,H1,q,t,j⟩=>bW (d pins s1 σ H1 _ q j) λu s2 ⟨x,H2,p,e,m⟩=>bW (hi pins s2 σ H2 _ p m) λC B ⟨y,H3,k,f,a,H4,ex,g,l⟩=>?_) c;subst ex;obtain rfl:u=Kf a:=e;exact yx w k g f t λz n=>⟨σ,H4,n,l⟩
end
theorem sM(h:MP)(a:Ni<h.objs.size):cv P w H (h.push {cls:= .type "dict",data:= .dict #[]}) h.objs.size (.dK []):=
 ⟨L5 _,beq_eq_false_iff_ne.mpr (Da (LV a)),[],.nil,Heap.DictOf.new h⟩
theorem BA(h:MP)(a:Ni<h.objs.size):cv P w H (h.push {cls:= .type "dict",data:= .dict #[]}) h.objs.size (.dT []):=
 ⟨L5 _,beq_eq_false_iff_ne.mpr (Da (LV a)),[],.nil,_,#[],0,Gc _ rfl,⟨rfl,rfl,rfl⟩,rfl,rfl,List.nodup_nil⟩
def FY:TE:=λ_ H Q=>∀p,H p=none->Q (.ref p) (upd H p (.dK []))
def Hk:TE:=λ_ H Q=>∀p,H p=none->Q (.ref p) (upd H p (.dT []))
theorem hE:PE X (.Dict [] [] pos) FY:=λpins s σ H Q I h=>
 SM ⟨.ref s.heap.objs.size,_,I.laid (a:=s.heap.objs.size) (o:= .dK []) (t':=s.toks) (λ_ _ q=>B0 _ q) (B6 _) (sM s.heap I.big),rfl,h _ (I.hok.fresh (B6 _))⟩
theorem BV:PE X (.Dict [] [] pos) Hk:=λpins s σ H Q I h=>
 SM ⟨.ref s.heap.objs.size,_,I.laid (a:=s.heap.objs.size) (o:= .dT []) (t':=s.toks) (λ_ _ q=>B0 _ q) (B6 _) (BA s.heap I.big),rfl,h _ (I.hok.fresh (B6 _))⟩
def ur:List (TE×TE)->St->Hp->(List (V×V)->Hp->Prop)->Prop
 |[],_,H,Q=>Q [] H
 |(tk,tv)::r,σ,H,Q=>tk σ H λx H1=>tv σ H1 λy H2=>ur r σ H2 λps H3=>Q ((x,y)::ps) H3
abbrev VV:List (V×V)->List (B5×B5)->Prop:=Paired λp q=>RelV p.1 q.1/\RelV p.2 q.2
def JR(X:Cx)(pos:Pos)(keys:List (Option Expr))(a:List Expr)(trs:List (TE×TE)):Prop:=
 ∀(pins:List (B3×Obj))(s:FS)(σ:St)(H:Hp)(Q:List (V×V)->Hp->Prop),Inv X pins σ H s->ur trs σ H Q->
  IR (L0 X.prog X.w) X.A (evalPairs (pairTrees keys a X.env pos)) (λvs s'=>∃ps H',Inv X pins σ H' s'/\VV ps vs/\Q ps H') X.xe s
theorem eL:JR X pos [] [] []:=λpins s σ H Q I h=>pairTrees_nil_walk ⟨[],H,I,.nil,h⟩
theorem bJ{k v:Expr}{ks:List (Option Expr)}{vs:List Expr}{tk:TE}(f:PE X k tk)(c:PE X v tv)(m:JR X pos ks vs trs):
  JR X pos (some k::ks) (v::vs) ((tk,tv)::trs):=λpins s σ H Q I h=>
 pairTrees_cons_walk (bW (f pins s σ H _ I h) λu s1 ⟨x,H1,e,g,j⟩=>bW (c pins s1 σ H1 _ e j) λw2 s2 ⟨y,H2,d,i,o⟩=>
  bW (m pins s2 σ H2 _ d o) λws p b=>by obtain⟨ps,H3,l,a,n⟩:=b;exact⟨(x,y)::ps,H3,l,.cons ⟨g,i⟩ a,n⟩)
def kg(kvs more:List (Key×V)):List (Key×V):=more.foldl (λa b=>putK a b.1 b.2) kvs
theorem KV.merge:∀{more:List (Key×V)}{rs:List (Key×B5)}{kvs:List (Key×V)}{vs:List (Key×B5)},KV more rs->KV kvs vs->KV (kg kvs more) (merged vs rs):=by
 intro more rs kvs vs r;unfold KV at r
 induction r generalizing kvs vs with
 |nil=>intro q;exact q
 | @cons p q ps c h t b=>
  intro a
  have e:KV (putK kvs p.1 p.2) (stored vs q.1 q.2):=by
   have :=a.put p.1 h.2;rw[<-h.1];exact this
  exact b e
theorem iD:∀(more kvs:List (Key×V)),(kg kvs more).length<=kvs.length+more.length
 |[],kvs=>by show kvs.length<=kvs.length+0;exact IY
 |p::r,kvs=>by
  have h1:=iD r (putK kvs p.1 p.2);have h2:=dA kvs p.1 p.2;show(kg (putK kvs p.1 p.2) r).length<=_;rw[B8];lia
theorem lH{P:MA}{w:MM}:∀{kvs:List (Key×V)}{ws:List (B5×B5)},VV (kvs.map λd=>(kV d.1,d.2)) ws->∃rs,Carries (bb P w) ws rs/\KV kvs rs
 |[],_,r=>by rw[Qo]at r;cases r;exact⟨[],MO,.nil⟩
 |p::kvs,_,r=>by
  rw[Mc]at r
  cases r with
  | @cons a b as bs h t=>
   obtain⟨rs,c,q⟩:=lH (P:=P) (w:=w) t;obtain⟨b1,e⟩:=b;exact⟨(p.1,e)::rs,⟨iZ h.1,rfl,c⟩,.cons ⟨rfl,h.2⟩ q⟩
def Jg(trs:List (TE×TE)):TE:=λσ H Q=>∀p,H p=none->ur trs σ (upd H p (.dK [])) λps H2=>H2 p=some (.dK [])/\∃kvs:List (Key×V),ps=kvs.map (λa=>(kV a.1,a.2))/\kvs.length<=15/\Q (.ref p) (upd H2 p (.dK (kg [] kvs)))
theorem eU{keys:List (Option Expr)}{b:List Expr}(h:JR X pos keys b trs)(f:keys.all (·.isSome)=true)(hl:keys.length=b.length)(h0:keys≠[])(j:keys.length<=15):PE X (.Dict keys b pos) (Jg trs):=by
 intro pins s σ H Q I q;have hn:=I.hok.fresh (B6 s.heap.objs.size);have r:=I.laid (a:=s.heap.objs.size) (o:= .dK []) (h':=s.heap.push {cls:= .type "dict",data:= .dict #[]}) (t':=s.toks) (λ_ _ q=>B0 _ q) (B6 _) (sM s.heap I.big);refine wpAny_Dict_walk (knd:=bb X.prog X.w) f hl h0 j (bW (h pins _ σ _ _ r (q _ hn)) λws s2 i=>?_);obtain⟨ps,H2,k,g,e,kvs,ep,lk,n⟩:=i;subst ep;obtain⟨rs,c,rk⟩:=lH (P:=X.prog) (w:=X.w) g;obtain⟨z,hd,m,p,dd⟩:=qW k.hok e
 cases p
 refine⟨rs,c,dd,λh' d l=>⟨.ref s.heap.objs.size,_,?_,rfl,n⟩⟩
 have t:(kg [] kvs).length<=sizeLine:=by
  have h1:=iD kvs [];rw[On]at h1;rw[NY];lia
 have he:∃q,h'.get? s.heap.objs.size=some q:=let⟨q,_,_,hq,_⟩:=d;⟨q,hq⟩;exact il k (by rw[e];exact MO) l he (me t hd (rk.merge .nil) d)
structure M2(X:Cx)(o:Expr)(m:Str)(apos:Pos)(e f:Expr)(cpos:Pos):Prop where
 base:Oh o m X.env (M3 o X.env)=M3 o X.env
 few:((NC cpos (L9 [e,f] X.env)).all (λx=> !x.1)&&(NQ cpos (M6 [] X.env)).all (λx=>x.1.isSome)
  &&decide (([e,f]:List Expr).length+([]:List O2).length+(if([]:List O2).isEmpty then 0 else 1)<30))=true
 line:(apos.endLine==cpos.line)=true
 trees:NC cpos (L9 [e,f] X.env)=[(false,M3 e X.env),(false,M3 f X.env)]
def Lb(H:Hp)(a:B3):Prop:=(∃kvs,Rd H a (.dK kvs))∨∃kvs,Rd H a (.dT kvs)
theorem Gj(I:Inv X pins σ H s)(d:Lb H a):
  s.TypeIs (.ref a) "dict"/\(∀b,Kf a= .ref b->∃c,s.heap.get? b=some c/\c.dict=none)/\(a==Ni)=false:=by
 rcases d with⟨kvs,e⟩|⟨kvs,e⟩
 ·obtain⟨_,hd,vs,_,dd⟩:=iG I.hok e;refine⟨dd.typeIs,λb q=>?_,hd⟩
  cases q
  obtain⟨c,_,_,h1,h2,_⟩:=dd;exact⟨c,h1,h2.2.1⟩
 ·obtain⟨_,hd,xs,_,dd⟩:=oQ I.hok e;refine⟨dd.typeIs,λb q=>?_,hd⟩
  cases q
  obtain⟨c,_,_,h1,h2,_⟩:=dd;exact⟨c,h1,h2.2.1⟩
theorem FU(p:A.units+1<Np)(I:Inv X pins σ H s)(g:gC H a y o)(m:RelV y u)(i:RelV d r)(h:∀j s',Inv X pins σ H s'->RelV (o.getD d) j->Q j s'):
  IR (L0 X.prog X.w) A (call (.builtin "dict.get") [.ref a,u,r]) Q E s:=by
 rcases g with⟨kvs,k,e,f,l⟩|⟨kvs,k,b,e,f,n,l⟩
 ·subst f;obtain⟨z,hd,vs,c,dd⟩:=iG I.hok e;refine Oy Pz dd.typeIs RG (Rr _ _ _) (meets_dict_get_default (bb X.prog X.w) a (iZ m) hd r) ⟨_,dd.mapOf,h _ _ (I.tok _) ?_⟩;rw[l];exact(c.val k).getD i
 ·subst f
  cases(show u=Kf b from m)
  obtain⟨z,hd,xs,c,dd⟩:=oQ I.hok e;refine Oy Pz dd.typeIs RG (Rr _ _ _) (meetsH_dict_get_default (PV (bb X.prog X.w)) a b hd r) ⟨OR p,k,xs,nh I.hok n,dd,h _ _ (I.tok _) ?_⟩;rw[l];exact(c.val k).getD i
def FQ(td ty tx:TE):TE:=λσ H Q=>td σ H λx H1=>∃a,x= .ref a/\Lb H1 a/\ty σ H1 λy H2=>tx σ H2 λz H3=>∃o,gC H3 a y o/\Q (o.getD z) H3
section
variable{o e f:Expr}{apos cpos:Pos}{tx:TE}
theorem AY(E:X.A.units+1<Np)(k:PE X o td)(he:PE X e ty)(D:PE X f tx)(m:M2 X o "get" apos e f cpos):PE X (.Call (.Attribute o "get" apos) [e,f] [] cpos) (FQ td ty tx):=by
 intro pins s σ H Q I h;refine Sz m.base m.few m.line Nh Pz PySem.F.type_dict_get (bW (k pins s σ H _ I h) λu s1 b=>?_);obtain⟨x,H1,i,l,a,ex,d,p⟩:=b;subst ex;obtain rfl:u=Kf a:=l;obtain⟨C,v,_⟩:=Gj i d;refine⟨C,v,?_⟩;rw[m.trees]
 refine OC rfl (R8 (OW (bW (he pins s1 σ H1 _ i p) λN s2 ⟨y,H2,B,n,t⟩=>
  OW (bW (D pins s2 σ H2 _ B t) λM J ⟨z,H3,q,j,K,g,r⟩=>Qv ?_))))
 exact FU E q g n j λL G w c=>⟨_,H3,w,c,r⟩
end
end L2
namespace S2
open PySem L2
theorem af.put{H H2:Hp}{l:B3}{o:HO}(s:af H H2)(hn:H l=none):af H (upd H2 l o):=λb u e=>by
 rw[ak (aM e hn)];exact s b u e
theorem bR{α:Type}{l:List α}{i:Nat}{x:α}(h:l[i]? =some x):i<l.length:=(List.getElem?_eq_some_iff.mp h).1
variable{n:Nat}{z:Int}{c:Bool}
theorem small(h:n<=100000):n<sizeLine:=OT h (by decide)
theorem az(h:n<=100000):n<=sizeLine:=Qm (small h)
theorem Cr{α:Type}{xs:List α}{j:Nat}{v:α}(e:z=(j:Int))(h:xs[j]? =some v):iY xs z=some v:=by
 rw[e];exact aA h
theorem cF{A B:Prop}(h:c=true)(a:A):if c=true then A else B:=by rw[if_pos h];exact a
theorem aN{A B:Prop}(h:c=false)(b:B):if c=true then A else B:=by rw[if_neg (by rw[h];exact GM)];exact b
theorem eW(h0:0<=z)(h1:z<(n:Int)):∃i:Nat,z=(i:Int)/\i<n:=⟨z.toNat,by lia,by lia⟩
end S2
namespace L2
open PySem PySem.Spec PyProof.Rows
inductive CK(K:mo)(H:Hp):Nat->V->V->Bool->Prop
 |flat {n:Nat} {x y:V} (fx:eX x=true) (fy:eX y=true):CK K H n x y (qT x y)
 |same {n:Nat} {a:B3}:CK K H n (.ref a) (.ref a) true
 |lst {n:Nat} {a b:B3} {xs ys:List V} (ne:a≠b) (hA:bg K H a xs) (hB:bg K H b ys) (hl:xs.length=ys.length) (e:Nat->Bool)
   (he:∀(j:Nat)(x y:V),xs[j]? =some x->ys[j]? =some y->CK K H n x y (e j)):CK K H (n+1) (.ref a) (.ref b) ((Me xs.length).all e)
 |tup {n:Nat} {a b:B3} {xs ys:List V} (ne:a≠b) (hA:aT K H a xs) (hB:aT K H b ys) (hl:xs.length=ys.length) (e:Nat->Bool)
   (he:∀(j:Nat)(x y:V),xs[j]? =some x->ys[j]? =some y->CK K H n x y (e j)):CK K H (n+1) (.ref a) (.ref b) ((Me xs.length).all e)
variable{H H2:Hp}{X:Cx}{n i kk:Nat}{pins:List (B3×Obj)}{s:FS}{us:List B5}{xs:List V}{σ:St}{e elt iter:Expr}{es ifs:List Expr}{f a b:B3}{fd:M9}{p pos py spos px:Pos}{ps N N':List Str}{sp:Sp}{x q y:Str}{A:Of}{K:mo}{P:MA}{base h':MP}{mg:Str->Option B5}{sc scope:OD}{w:MM}{cl:List (Str×B3)}{fp:List B3}{E:B5->FS->Prop}{J:It}{Q:VK}{te:TE}{tt:TT}{wi:TI}
theorem fi(r:Vals xs us)(j:Nat)(h1:j<us.toArray.size):∃x,xs[j]? =some x/\RelV x us.toArray[j]:=by
 have l1:=r.length;rw[B4]at h1
 have g1:j<xs.length:=by lia
 obtain⟨w1,a,b⟩:=r.get (i:=j) (x:=xs[j]) (by simp[g1])
 have s1:us.toArray[j]=w1:=by
  rw[AC h1]at a;simpa using a
 exact⟨xs[j],by simp[g1],by rw[s1];exact b⟩
theorem Bn(I:Inv X pins σ H s){x y:V}{b:Bool}(h:CK X.K H n x y b):
  ∀{A:Of}{u v:B5},A.units+n<Np->RelV x u->RelV y v->QY A s u v b:=by
 induction h with
 |flat fx fy=>intro A u v _ c d;exact uI c d fx fy
 | @same n a=>
  intro A u v _ c d;obtain rfl:u=Kf a:=c;obtain rfl:v=Kf a:=d;exact SeqAt.EqAt.same _
 | @lst n a b xs ys ne hA hB hl e he m=>
  intro A u v w c d;obtain rfl:u=Kf a:=c;obtain rfl:v=Kf b:=d;obtain⟨its,r,pl,t⟩:=I.list hA;obtain⟨f,k,g,l⟩:=I.list hB;have l1:=r.length;have l2:=k.length
  have i:=SeqAt.RcAt.lists (A:=A) (s:=s) (e:=e) pl.isList g.isList (by rw[B4,B4];lia) (by lia) (λj h1 h2=>by
   obtain⟨x,ex,c⟩:=fi r j h1;obtain⟨y,o,d⟩:=fi k j h2
   exact m j x y ex o (show A.units+1+n<Np by lia) c d)
  rw[B4,<-l1]at i;exact Sm ne i
 | @tup n a b xs ys ne hA hB hl e he m=>
  intro A u v w c d;obtain rfl:u=Kf a:=c;obtain rfl:v=Kf b:=d;obtain⟨its,r,pl,t⟩:=I.tuple hA;obtain⟨f,k,g,l⟩:=I.tuple hB;have l1:=r.length;have l2:=k.length
  have i:=SeqAt.RcAt.tuples (A:=A) (s:=s) (e:=e) pl g (by lia) (λj h1 h2=>by
   obtain⟨x,ex,c⟩:=fi r j h1;obtain⟨y,o,d⟩:=fi k j h2
   exact m j x y ex o (show A.units+1+n<Np by lia) c d)
  have p:min its.toArray.size f.toArray.size=xs.length:=by rw[B4,B4];lia
  have q:(its.toArray.size==f.toArray.size)=true:=by rw[B4,B4];exact beq_iff_eq.mpr (by lia)
  rw[p,q,Bool.and_true]at i;exact Sm ne i
def AZ(K:mo)(c:Bool):R2:=λx y H Q=>∃(a b:B3)(xs ys:List V)(e:Nat->Bool),x= .ref a/\y= .ref b/\((bg K H a xs/\bg K H b ys)∨(aT K H a xs/\aT K H b ys))/\xs.length=ys.length/\
 (∀(j:Nat)(x y:V),xs[j]? =some x->ys[j]? =some y->CK K H 8 x y (e j))/\Q (.bl (if c then !((Me xs.length).all e)else(Me xs.length).all e)) H
theorem hZ(t:X.A.units+20<Np):hV X (MR .NotEq) (AZ X.K true):=by
 intro pins s σ H x y v u Q I f g h;obtain⟨a,b,xs,ys,e,k,m,o,hl,he,q⟩:=h;subst k m;obtain rfl:v=Kf a:=f;obtain rfl:u=Kf b:=g
 rcases o with⟨hA,hB⟩|⟨hA,hB⟩
 ·obtain⟨its,r,pl,p⟩:=I.list hA;obtain⟨c,i,d,l⟩:=I.list hB;have l1:=r.length;have l2:=i.length;refine P9 (e:=e) pl.isList d.isList (by rw[B4,B4];lia) (by lia) (λj h1 h2=>?_) _ _ _ _ ⟨.bl _,H,I,rfl,?_⟩
  ·obtain⟨x,ex,f⟩:=fi r j h1;obtain⟨y,n,g⟩:=fi i j h2;exact Bn I (he j x y ex n) (show X.A.units+1+8<Np by lia) f g
  ·rw[B4,<-l1];exact q
 ·obtain⟨its,r,pl,p⟩:=I.tuple hA;obtain⟨c,i,d,l⟩:=I.tuple hB;have l1:=r.length;have l2:=i.length;refine R9 (e:=e) pl d (by lia) (λj h1 h2=>?_) _ _ _ _ ⟨.bl _,H,I,rfl,?_⟩
  ·obtain⟨x,ex,f⟩:=fi r j h1;obtain⟨y,n,g⟩:=fi i j h2;exact Bn I (he j x y ex n) (show X.A.units+1+8<Np by lia) f g
  ·have k:min its.toArray.size c.toArray.size=xs.length:=by rw[B4,B4];lia
   have m:(its.toArray.size==c.toArray.size)=true:=by rw[B4,B4];exact beq_iff_eq.mpr (by lia)
   rw[k,m,Bool.and_true];exact q
structure Cq(K:mo)(mg:Str->Option B5)(fd:M9)(f:B3)(ps:List Str)(x:Str):Prop where
 b:Binds K fd ps []
 m:mg x=some (.ref f)
 k:N_ K (.ref f)=true
theorem pq{k:Nat}{t:TA}(F:aw X.prog X.w X.K X.mg X.base aO k f fd ps sp)(g:eV k X.A)(c:Cq X.K X.mg fd f ps x)(ha:PA X (e::es) t)(h:Gl X x:=by rfl)(a:(x==("__debug__":Str))=false:=by decide)(he:L9 (e::es) X.env=(false,M3 e X.env)::L9 es X.env:=by rfl)(d:(NC pos (L9 es X.env)).any (·.1)=false:=by rfl):
  PE X (.Call (.Name x p) (e::es) [] pos) (hP sp [] E0 t):=ED F g h c.m c.k c.b .nil E5 ha a he d
theorem bZ{CX:C_}{cdv:B5}{outer:List Env}{E:XK}:(tD CX P w K mg base N q sc f cdv A outer s H E).HB.K=K:=rfl
abbrev Nv(K:mo)(x:Str)(v:B5):Prop:=Mi K L4 x=some (some v)
theorem Lg(h:us.length=0):us=[]:=Mf h
theorem HC(h:us.length=n+1):∃a vs,us=a::vs/\vs.length=n:=by
 cases us with
 |nil=>cases h
 |cons a vs=>exact⟨a,vs,rfl,Nat.succ.inj h⟩
theorem Lp{P:List B5->Prop}(h:∀a vs,vs.length=n->P (a::vs))(us:List B5)(g:us.length=n+1):P us:=by
 obtain⟨a,vs,rfl,e⟩:=HC g;exact h a vs e
theorem Lw{P:List B5->Prop}(h:P [])(us:List B5)(g:us.length=0):P us:=by
 rw[Lg g];exact h
theorem cq{h:MP}{st:Mb}(X:K.In h)(G:h.Ns L4 mg)(a:Mi K L4 x=some (some (.ref f)))(F:aZ K x q st f fd)(g:∀(kV doc pm:B5)(an:Option B3)(cdv ct:B5)(us:List B5),us.length=ps.length->bindArgs (NL x q (fY st) (eQ st) (aj st) .none kV doc pm an cdv ct) ⟨us,[]⟩=pure (ps.zip us):=by intro _ _ _ _ _ _;(repeat refine Lp λ_=>?_);exact Lw rfl):Cq K mg fd f ps x:=⟨F.binds g,LU X G a,F.kp⟩
theorem cL{P:List Str}(a:sc.kind= .function:=by rfl)(b:sc.isCoroutine=false:=by rfl)(c:sc.isGenerator=false:=by rfl)(d:N.Nodup:=by decide +kernel)(e:N.take P.length=P:=by rfl)(f:∀x∈P,sc.names.lookup x=some .local∨sc.names.lookup x=some .cell:=by decide +kernel)(g:∀y∈sc.names,y.2≠ .free:=by decide +kernel):ay N P sc:=⟨a,b,c,d,e,f,g⟩
theorem aZ.cS{qual:Str}{st:Mb}{k:Nat}(F:aZ K x qual st f fd)(S:ay N ps (aj st))(a:∀(cdv:B5)(A:Of)(outer:List Env)(s:FS)(H:Hp)(vs:List V)(Q:VK)(E:XK),eV k (A.deeper (envOfC qual (aj st) s.heap.objs.size f cdv))->sp vs H Q E->
   ∃t,u_ (tD aO P w K mg base N qual (aj st) f cdv A outer s H E).HB (eQ st) t/\t {nx:=λ_ H'=>Q .non H',rt:=Q} (start N vs) H)(len:∀vs H Q E,sp vs H Q E->vs.length=ps.length:=by intro _ _ _ _ h;cases h;subst_vars;rfl):aw P w K mg base aO (k+1) f fd ps sp:=F.ok S len a
abbrev Cx.dm(X:Cx)(N':List Str)(scope:OD)(cl:List (Str×B3))(C:B3)(fp:List B3)(s:FS)(H:Hp):Cx:=
 {X with N:=N',s₀:=s,H₀:=H,env:=compEnvC scope cl C X.env,outer:=X.stack,ex:=fp,fn:=λ_=>false,pn:=[],xe:=λ_ _=>False}
structure gp(X:Cx)(k:Nat)(N':List Str)(scope:OD):Prop where
 kind:scope.kind= .function
 cell:∀y∈scope.names,y.2≠ .cell
 names:∀y∈scope.names,y.2= .local->scope.names.lookup y.1=some .local
 free:∀y∈scope.names,y.2= .free->X.env.kindOf y.1=some .cell∨X.env.kindOf y.1=some .free
 len:N'.length=k+X.N.length
 cap:∀i y,N'[k+i]? =some y->(X.N[i]? =some y/\rG scope X.env y=true)∨scope.names.lookup y=none
theorem yq{k:Nat}{tk:Nat}{m:Str->Option B5}(S:gp X k N' scope)(I:Inv X pins σ H s)(T:h'.Ns s.heap.objs.size m)(A:∀b o,s.heap.get? b=some o->h'.get? b=some o)(F:∀b∈fp,jO X pins H b)(ho:∀b∈fp,∃o,s.heap.get? b=some o)(a:∀y c,cl.lookup y=some c->X.env.cells.lookup y=some c)(f:∀y∈scope.names,y.2= .free->∃c,cl.lookup y.1=some c):
  Inv (X.dm N' scope cl s.heap.objs.size fp s H) (X.pn++pins) (Mo k none++σ) H {s with heap:=h',toks:=tk}:=by
 refine⟨⟨I.ok.mod,S.kind,I.ok.glob,I.ok.blt,B6 _,λy z c h1 h2=>I.ok.inj y z c (a y c h1) (a z c h2),λy hy=>?_,λy c G=>absurd G GM,I.ok.hd,I.ok.frames,.inl rfl,λb t=>⟨?_,λy c e=>(F b t).2.2.2.2.1 y c (a y c e)⟩,
  I.bs,Mu I.ok.bsz I.sz,λb o e t=>?_,λb t hs=>?_,I.stack,I.xn⟩,rfl,I.bare,Un.kept A,⟨m,T,λi y v Y x e3=>?_⟩,λy c e=>?_,I.fresh,λy c e=>I.freeC y c (a y c e),λp hp=>?_,I.hok.kept A,?_⟩
 ·have L:∃k,(k=Ri∨k=Nq)/\(SB scope X.env).names.lookup y=some k:=by
   rcases hy with z|z
   ·exact⟨_,.inl rfl,z⟩
   ·exact⟨_,.inr rfl,z⟩
  obtain⟨k,O,e⟩:=L;obtain⟨E,g,r⟩:=mZ e
  have Q:E= .free:=by
   rcases r with r|r
   ·subst r
    rcases O with z|z
    ·subst z;exact absurd rfl (S.cell _ (Nj g))
    ·exact z
   ·exact r.1
  subst Q;exact f (y,.free) (sO g) rfl
 ·obtain⟨o,e⟩:=ho b t;exact LV (De e)
 ·rcases(F b t).2.2.2.1 with z|z
  ·exact I.ok.noex b o e z
  ·exact absurd (Mg (De e) (Mu I.ok.bsz z)) (Nc _)
 ·rcases List.mem_cons.mp (I.qw b hs)with z|z
  ·exact(F b t).2.1 z
  ·exact(F b t).2.2.1 z
 ·have K:N'[i]? =some y:=Y;by_cases D:i<k
  ·rw[LQ (by simpa using D),Rt]at x;rw[if_pos D]at x
   cases x
  obtain⟨i,rfl⟩:∃d,i=k+d:=⟨i-k,by lia⟩
  have N:σ[i]? =some (some v):=by
   rw[GT (by simp)]at x;simpa using x
  have w:∃k,(SB scope X.env).names.lookup y=some k:=by
   rcases e3 with z|z|z
   ·exact⟨_,z⟩
   ·exact⟨_,z⟩
   ·exact⟨_,z⟩
  obtain⟨k,J⟩:=w;obtain⟨E,g,r⟩:=mZ J
  rcases S.cap i y K with⟨R,U⟩|z0
  case inr=>rw[z0]at g;cases g
  unfold rG at U;rw[g]at U
  have Q:E= .free:=by cases E<;>simp_all
  subst Q
  have C:X.env.kindOf y=some .cell∨X.env.kindOf y=some .free:=by simpa using U
  obtain⟨m0,Z,M⟩:=I.loc;obtain⟨u,ru,l⟩:=M i y v R N (.inr C);refine⟨u,ru,.inr ?_⟩;obtain⟨W,B⟩:=f (y,.free) (sO g) rfl
  rcases l with⟨z,_⟩|⟨_,c,ec,⟨o,j,h⟩⟩
  ·rcases C with q|q<;>rw[z]at q<;>cases q
  ·have V:=a y W B;rw[ec]at V;have e5:c=W:=L6 V;subst e5;refine⟨?_,c,B,o,A _ _ j,h⟩
   rcases r with r|r
   ·subst r;exact .inr J
   ·obtain⟨_,r⟩:=r;subst r;exact .inl J
 ·obtain⟨v,o,j,h⟩:=I.cell y c (a y c e);exact⟨v,o,A _ _ j,h⟩
 ·have P:p∈X.pn++pins:=by simpa using hp
  obtain⟨e,n,ne,nf,d⟩:=I.pin p P;refine⟨A _ _ e,n,LV (De e),λz=>?_,d⟩
  rcases List.mem_cons.mp (I.qw p.1 z)with q|q
  ·exact ne q
  ·exact nf q
 ·show(Mo k none++σ).length=N'.length;rw[S.len,B1,NT,I.len]
def eO(J:It)(H1:Hp)(k:Nat)(σ:St)(g:TG)(tt:TT)(te:TE)(Q:VK):Prop:=∀D,H1 D=none->∃W:Nat->Nat->Hp->Prop,(∃m,W 0 m (upd H1 D (.lst [])))/\∀i m H,W i m H->
 (J.stop i H/\Q (.ref D) H)∨(J.go i H/\∀x H' ρ,ρ.length=k->J.yld i H x H'->g x (ρ++σ) H' λa H2=>(∃d:St,d.length=k/\a=d++σ)/\tt a H2 λb H3=>if b=true then te a H3 λy H4=>∃ys,H4 D=some (.lst ys)/\ys.length<sizeLine/\∃c,c<m/\W (i+1) c (upd H4 D (.lst (ys++[y])))
  else∃c,c<m/\W (i+1) c H3)
def Hv(wi:TI)(k:Nat)(g:TG)(tt:TT)(te:TE):TE:=λσ H Q=>wi σ H λJ H1=>eO J H1 k σ g tt te Q
section
variable{k:Nat}{tg:Expr}{g:TG}
theorem mJ{s2:FS}{it:B3}{tn:Nat->MP->Prop}{RR:B5->B3->RC->FS->Prop}(S:gp X k N' scope)(j:X.calm=true)(M:(∀y c,cl.lookup y=some c->X.env.cells.lookup y=some c)/\∀y∈scope.names,y.2= .free->∃c,cl.lookup y.1=some c)(hg:∀cl C fp s H,PG (X.dm N' scope cl C fp s H) tg g)(ht:∀cl C fp s H,GU (X.dm N' scope cl C fp s H) ifs tt)(he:∀cl C fp s H,PE (X.dm N' scope cl C fp s H) elt te)(I2:Inv X pins σ H2 s2)(T:Turn X.prog X.w X.K tg J fp it tn)(F:tn 0 s2.heap)(f2:∀b∈fp,jO X pins H2 b)(q:eO J H2 k σ g tt te Q)(a8:∀D C s' H' t,Inv X pins σ H' s'->s'.heap.Ns C t->jO X pins H' C->Q (.ref D) H'->RR (.ref D) C (.ok .next) s'):
  IR (L0 X.prog X.w) X.A (newList []) (λZ f=>IR (L0 X.prog X.w) X.A (newFunctionEnv scope X.env.globals cl [] X.env.qual none .none (some X.env)) (λx s4=>
   Om (L0 X.prog X.w) X.A (.compStart (.ListComp elt [⟨tg,iter,ifs,0⟩] scope pos) 0 (.ref it) Z {x with scope:=SB scope X.env}) (RR Z x.locals) s4) E f) E s2:=by
 obtain⟨a1,V⟩:=M;refine OY (wpAny_newFunctionEnv S.cell (by intro y hy;simp at hy) (λh1 L G=>?_) S.kind);have I3:Inv X pins σ (upd H2 s2.heap.objs.size (.lst [])) {s2 with heap:=s2.heap.push {cls:= .type "list",data:= .seq ([]:List B5).toArray}}:=I2.Jt (t':=s2.toks) .nil (by simp);have hD:H2 s2.heap.objs.size=none:=I2.fresh;obtain⟨W,⟨m0,w0⟩,U⟩:=q _ hD;generalize a0:({s2 with heap:=s2.heap.push {cls:= .type "list",data:= .seq ([]:List B5).toArray}}:FS)=f at I3;have b8:({s2 with heap:=s2.heap.push {cls:= .type "list",dict:=none,data:= .seq ([]:List B5).toArray}}:FS)=f:=a0;dsimp only at L G⊢;generalize a4:s2.heap.objs.size=D at *
 have eh:s2.heap.push {cls:= .type "list",dict:=none,data:= .seq ([]:List B5).toArray}=f.heap:=by rw[<-a0]
 rw[eh]at L G;have keep:∀b o,f.heap.get? b=some o->h1.get? b=some o:=λb o e=>G.extBut b o (LV (De e)) (B0 _ e)
 have objs:∀b∈fp,∃o,f.heap.get? b=some o:=λb a=>by
  obtain⟨o,e,_⟩:=T.obj _ _ F b a;rw[<-eh];exact⟨o,B0 _ e⟩
 have f3:∀b∈fp,jO X pins (upd H2 D (.lst [])) b:=λb a=>by
  obtain⟨o,e,_⟩:=T.obj _ _ F b a
  have ne:b≠D:=by rw[<-a4];exact LV (De e)
  exact⟨by rw[ak ne];exact(f2 b a).1,(f2 b a).2⟩
 have I4:Inv (X.dm N' scope cl f.heap.objs.size fp f (upd H2 D (.lst []))) (X.pn++pins) (Mo k none++σ) (upd H2 D (.lst [])) {f with heap:=h1,toks:=f.toks+([]:List (Str×B5)).length}:=yq S I3 L keep f3 objs a1 V;have Y:tn 0 h1:=T.keep _ _ _ F λb a o e=>keep b o (by rw[<-eh];exact B0 _ e)
 have h:∀{H':Hp},(∀b∈fp,H' b=none)->∀b∈fp,jO (X.dm N' scope cl f.heap.objs.size fp f (upd H2 D (.lst []))) (X.pn++pins) H' b:=λhn b a=>by
  refine⟨hn b a,(I4.ok.exf b a).1,I4.ok.exfs b a,.inl a,(I4.ok.exf b a).2,λp hp=>(f3 b a).2.2.2.2.2 p (by simpa using hp)⟩
 have l:Om (L0 X.prog X.w) X.A (.compLoop (.ListComp elt [⟨tg,iter,ifs,0⟩] scope pos) 0 (.ref it) (.ref D) (compEnvC scope cl f.heap.objs.size X.env)) (RR (.ref D) f.heap.objs.size) {f with heap:=h1,toks:=f.toks+([]:List (Str×B5)).length}:=by
  refine pS (λn s'=>∃i ρ H',Inv (X.dm N' scope cl f.heap.objs.size fp f (upd H2 D (.lst []))) (X.pn++pins) (ρ++σ) H' s'/\ρ.length=k/\tn i s'.heap/\(∀b∈fp,H' b=none)/\W i n H') ?_ m0
   ⟨0,_,_,I4,by simp,Y,λb a=>(f3 b a).1,w0⟩
  rintro n s5 ⟨i,ρ,H5,I5,b0,P,a2,w5⟩
  rcases U i n H5 w5 with⟨stop,qn⟩|⟨go,step⟩
  ·refine bW (T.done (X.dm N' scope cl f.heap.objs.size fp f (upd H2 D (.lst []))) rfl rfl rfl j i _ s5 _ H5 _ I5 (h a2) P stop) λr s6 d=>?_;obtain⟨hr,N⟩:=d;subst hr;obtain⟨m6,a7,_⟩:=N.loc;have I7:Inv X pins σ H5 s6:=I3.Ih (ch:=fp) N.os N.base N.hok N.bare λb a=>⟨(f3 b a).2.2.2.1,(f3 b a).2.1,(f3 b a).2.2.2.2.1,(f3 b a).2.2.2.2.2⟩;exact a8 D f.heap.objs.size s6 H5 m6 I7 a7 (I3.kz (B6 _) N.free) qn
  ·refine bW (T.item (X.dm N' scope cl f.heap.objs.size fp f (upd H2 D (.lst []))) rfl rfl rfl j i _ s5 _ H5 _ I5 (h a2) P go) λr s6 d=>?_;obtain⟨u,hr,h6⟩:=d;subst hr;refine bW h6 λ_ s7 d=>?_;obtain⟨y,H7,I7,r7,y7,I,b2⟩:=d;have b4:=I7.pinned (h b2) (T.obj _ _ I);refine bW (hg _ _ _ _ _ _ s7 (ρ++σ) H7 y u _ b4 r7 (step y H7 ρ b0 y7)) λ_ s8 d=>?_;obtain⟨c0,H8,I8,⟨a3,l2,e8⟩,q8⟩:=d;subst e8;refine bW (ht _ _ _ _ _ _ s8 _ H8 _ I8 q8) λok s9 d=>?_;obtain⟨H9,I9,q9⟩:=d
   have B:∀{H':Hp}{s':FS}{t:Nat},Inv (X.dm N' scope cl f.heap.objs.size fp f (upd H2 D (.lst []))) (X.pn++pins++lG fp s7.heap) (a3++σ) H' s'->t<n->W (i+1) t H'->
     ∃m,m<n/\∃i ρ H',Inv (X.dm N' scope cl f.heap.objs.size fp f (upd H2 D (.lst []))) (X.pn++pins) (ρ++σ) H' s'/\ρ.length=k/\tn i s'.heap/\(∀b∈fp,H' b=none)/\W i m H':=λ{H' s' t} I' hm R=>by
    have pin:∀b o,b∈fp->s7.heap.get? b=some o->s'.heap.get? b=some o/\H' b=none:=λb o a e=>by
     have z:=I'.pin (b,o) (Mv _ (Mv _ (iW a e)));exact⟨z.1,z.2.1⟩
    refine⟨t,hm,i+1,a3,H',I'.je,l2,T.keep _ _ _ I λb a o e=>(pin b o a e).1,λb a=>?_,R⟩;obtain⟨o',e,_⟩:=T.obj _ _ I b a;exact(pin b o' a e).2
   cases ok with
   |false=>
    rw[if_neg GM]at q9⊢;obtain⟨t,hm,R⟩:=q9;exact B I9 hm R
   |true=>
    rw[if_pos rfl]at q9⊢;refine bW (he _ _ _ _ _ _ s9 _ H9 _ I9 q9) λv b1 d=>?_;obtain⟨z,O,b5,a5,b7⟩:=d;obtain⟨ys,a9,a6,t,hm,R⟩:=b7;refine bW (bQ _ b1 _ O (.ref D) [z] (.ref D) [v] (λ_ H'=>H'=upd O D (.lst (ys++[z]))) b5 rfl (.cons a5 .nil) ⟨D,ys,z,rfl,rfl,a9,a6,rfl⟩) λ_ c1 d=>?_;obtain⟨_,b9,b3,_,b6⟩:=d;subst b6;exact B b3 hm R
 exact codeAny_compStart_list l (T.self _ 0 _ _ _ Y l)
theorem rd(j:It->Hp->St->VK->Prop)(t:∀J H σ Q,j J H σ Q->eO J H k σ g tt te Q)(S:gp X k N' scope)(a:X.calm=true)(hi:PI X tg iter wi)(r:∀cl C fp s H,PG (X.dm N' scope cl C fp s H) tg g)(v:∀cl C fp s H,GU (X.dm N' scope cl C fp s H) ifs tt)(he:∀cl C fp s H,PE (X.dm N' scope cl C fp s H) elt te)(m:∀x,NV iter X.env x=pure x:=by intro _;rfl):PE X (.ListComp elt [⟨tg,iter,ifs,0⟩] scope pos) (λσ H Q=>wi σ H λJ H1=>j J H1 σ Q):=by
 intro pins s σ H Q I h;obtain⟨cl,d,G⟩:=wD (env:=X.env) (scope:=scope) λy p E=>I.ok.has y.1 (S.free y p E);rw[eval_ListComp];refine Rc (use:=none) rfl m d S.kind S.names (bW (hi pins s σ H _ I h) λK s1 h1=>bW h1 λitv s2 h2=>?_);obtain⟨it,fp,tn,J,H2,e,u,T,i,f2,q⟩:=h2;subst e;refine mJ (RR:=λf C=>compPost (L0 X.prog X.w) X.A X.xe none (EP X pins σ Q) f C) S a G r v he u T i f2 (t _ _ _ _ q) ?_;intro D C s' H' l z hn c B;exact⟨l,hn,λh' n=>⟨.ref D,H',z.turned (t':=s'.toks) (λb o F e=>(n.2 b F).trans e) c.1 c.2.1 c.2.2.2.1 c.2.2.2.2.1 c.2.2.2.2.2,rfl,B⟩⟩
theorem sf(F:It->Hp->St->VK->Prop)(P:∀J H σ Q,F J H σ Q->eO J H k σ g tt te Q)(S:gp X k N' scope)(d:X.calm=true)(M:X.N.Nodup)(t:X.N[i]? =some y)(p:Loc X.env.scope y)(hi:PI X tg iter wi)(O:∀cl C fp s H,PG (X.dm N' scope cl C fp s H) tg g)(U:∀cl C fp s H,GU (X.dm N' scope cl C fp s H) ifs tt)(he:∀cl C fp s H,PE (X.dm N' scope cl C fp s H) elt te)(E:PX (.ListComp elt [⟨tg,iter,ifs,0⟩] scope pos) (some (.Name y py)) spos.line X.env=pure true)(K:∀x,NV iter X.env x=pure x:=by intro _;rfl)(B:X.fn y=true∨X.env.scope.names.lookup y=some .local:=by first|exact .inl rfl|exact .inr rfl|assumption):
  PS X (.Assign [.Name y py] (.ListComp elt [⟨tg,iter,ifs,0⟩] scope pos) spos) (BE (λσ H Q=>wi σ H λJ H1=>F J H1 σ Q) (gE i)):=by
 intro pins s σ H D0 I h;obtain⟨cl,l,Y⟩:=wD (env:=X.env) (scope:=scope) λy p B=>I.ok.has y.1 (S.free y p B);rw[exec_Assign_Name_used _ _ _ _ E];refine B2 (O4 (B2 ?_));show IR _ _ (do let _<-comprehension (.ListComp elt [⟨tg,iter,ifs,0⟩] scope pos) scope X.env _ (newList []) false (M3 iter X.env) (some (O6 (.Name y py) X.env))) _ _ s;refine B2 (bW (Rc (use:=some (O6 (.Name y py) X.env)) (Q:=λ_ s'=>SP X pins D0 .next s') rfl K l S.kind S.names (bW (hi pins s σ H _ I h) λZ s1 h1=>bW h1 λitv s2 h2=>?_)) λ_ s' u=>KF (KF u));obtain⟨it,fp,tn,J,H2,e,R,T,r,f2,q⟩:=h2;subst e;refine mJ (Q:=λv H=>D0.nx (σ.set i (some v)) H) (RR:=λm C=>compPost (L0 X.prog X.w) X.A X.xe (some (O6 (.Name y py) X.env)) (λ_ s'=>SP X pins D0 .next s') m C) S d Y O U he R T r f2 (P _ _ _ _ q) ?_;intro D C s' H' G V hn c u;show IR _ _ (O6 (.Name y py) X.env (.ref D)) _ _ s';refine Sy (oI (v:= .ref D) V M t p rfl (λf j ch=>?_) B);obtain⟨a,L,ha⟩:=ch
 have ne:C≠a:=by
  rcases ha with z|z
  ·rw[z];exact c.2.1
  ·exact Da (c.2.2.2.2.1 y a z)
 refine⟨G,hn.sameBut L ne,λh' n=>⟨_,H',j.turned (t':=f.toks) (λb o W e=>(n.2 b W).trans e) c.1 c.2.1 c.2.2.2.1 c.2.2.2.2.1 c.2.2.2.2.2,u⟩⟩
theorem jb(S:gp X k N' scope)(a:X.calm=true)(hi:PI X tg iter wi)(c:∀cl C fp s H,PG (X.dm N' scope cl C fp s H) tg g)(d:∀cl C fp s H,GU (X.dm N' scope cl C fp s H) ifs tt)(he:∀cl C fp s H,PE (X.dm N' scope cl C fp s H) elt te)(b:∀x,NV iter X.env x=pure x:=by intro _;rfl):PE X (.ListComp elt [⟨tg,iter,ifs,0⟩] scope pos) (Hv wi k g tt te):=
 rd (λJ H σ Q=>eO J H k σ g tt te Q) (λ_ _ _ _ q=>q) S a hi c d he b
end
theorem oY{H1:Hp}(h:fb J H1 σ tt te Q):eO J H1 1 σ (gE 0) tt te Q:=by
 intro D c;obtain⟨W,w0,a⟩:=h D c;refine⟨W,w0,λi m H d=>?_⟩
 rcases a i m H d with q|⟨go,step⟩
 ·exact .inl q
 ·refine .inr ⟨go,λx H' ρ b y=>?_⟩
  match ρ,b with
  |[e],_=>exact⟨⟨[some x],rfl,rfl⟩,step x H' y⟩
theorem iV.toN(S:iV X x scope):gp X 1 (x::X.N) scope:=
 ⟨S.kind,S.cell,S.names,S.free,by rw[B8,RJ],λi y h=>by
  rw[RJ,List.getElem?_cons_succ]at h
  exact .inl ⟨h,S.cap y (Fk h)⟩⟩
theorem iV.pg(S:iV X x scope)(cl:List (Str×B3))(C:B3)(fp:List B3)(s:FS)(H:Hp):PG (X.dm (x::X.N) scope cl C fp s H) (.Name x px) (gE 0):=by
 have a:(SB scope X.env).names.lookup x=some .local:=lookup_relabel_local S.hx;exact aV (X:=X.dm (x::X.N) scope cl C fp s H) (i:=0) S.nd rfl (.inl a) (.inr a)
theorem b_(S:iV X x scope)(a:X.calm=true)(hi:PI X (.Name x px) iter wi)(c:∀cl C fp s H,GU (X.comp x scope cl C fp s H) ifs tt)(he:∀cl C fp s H,PE (X.comp x scope cl C fp s H) elt te)(b:∀x,NV iter X.env x=pure x:=by intro _;rfl):PE X (.ListComp elt [⟨.Name x px,iter,ifs,0⟩] scope pos) (o_ wi tt te):=
 rd (k:=1) (N':=x::X.N) (g:=gE 0) (λJ H σ Q=>fb J H σ tt te Q) (λ_ _ _ _ q=>oY q) S.toN a hi S.pg c he b
theorem iM(S:iV X x scope)(a:X.calm=true)(h:X.N.Nodup)(b:X.N[i]? =some y)(d:Loc X.env.scope y)(hi:PI X (.Name x px) iter wi)(f:∀cl C fp s H,GU (X.comp x scope cl C fp s H) ifs tt)(he:∀cl C fp s H,PE (X.comp x scope cl C fp s H) elt te)(c:PX (.ListComp elt [⟨.Name x px,iter,ifs,0⟩] scope pos) (some (.Name y py)) spos.line X.env=pure true)(e:∀x,NV iter X.env x=pure x:=by intro _;rfl)(j:X.fn y=true∨X.env.scope.names.lookup y=some .local:=by first|exact .inl rfl|exact .inr rfl|assumption):
  PS X (.Assign [.Name y py] (.ListComp elt [⟨.Name x px,iter,ifs,0⟩] scope pos) spos) (BE (o_ wi tt te) (gE i)):=
 sf (k:=1) (N':=x::X.N) (g:=gE 0) (λJ H σ Q=>fb J H σ tt te Q) (λ_ _ _ _ q=>oY q) S.toN a h b d hi S.pg f he c e j
def tE(fs:OD)(N:List Str)(k:Nat)(N':List Str)(scope:OD):Bool:=
 decide (scope.kind= .function)&&scope.names.all (λy=>decide (y.2≠ .cell))&&scope.names.all (λy=>decide (y.2= .local->scope.names.lookup y.1=some .local))&&
 scope.names.all (λy=>decide (y.2= .free->fs.names.lookup y.1=some .cell∨fs.names.lookup y.1=some .free))&&decide (N'.length=k+N.length)&&
 (Me N.length).all (λi=>match N'[k+i]?,N[i]? with
  |some y,some z=>(match scope.names.lookup y with
   |none=>true
   |some .free=>decide (y=z)&&decide (fs.names.lookup y=some .cell∨fs.names.lookup y=some .free)
   |some _=>false)
  |_,_=>false)
theorem fZ{k:Nat}{fs:OD}(f:X.env.scope=fs)(h:X.N=N)(c:tE fs N k N' scope=true):gp X k N' scope:=by
 subst f h;unfold tE at c;simp only[M0,QA,decide_eq_true_eq]at c;obtain⟨⟨⟨⟨⟨c1,c2⟩,c3⟩,c4⟩,c5⟩,c6⟩:=c;refine⟨c1,c2,c3,c4,c5,λi y b=>?_⟩;have hi:k+i<N'.length:=(List.getElem?_eq_some_iff.mp b).1
 have a:i<X.N.length:=by lia
 have q:=c6 i (List.mem_range.mpr a);rw[b,AC a]at q;dsimp only at q;unfold rG
 cases e:scope.names.lookup y with
 |none=>exact .inr rfl
 |some kd=>
  rw[e]at q
  cases kd with
  |free=>
   have d:y=X.N[i]/\(X.env.scope.names.lookup y=some .cell∨X.env.scope.names.lookup y=some .free):=by simpa using q
   refine .inl ⟨by rw[AC a,d.1],?_⟩;show(X.env.kindOf y==some .cell||X.env.kindOf y==some .free)=true;have g:X.env.kindOf y=X.env.scope.names.lookup y:=rfl;rw[g]
   rcases d.2 with z|z<;>rw[z]<;>rfl
  |_=>simp at q
theorem Inv.pD{t':Nat}{ch:List B3}(I:Inv X pins σ H s)(k:∀b u,b∉ch->s.heap.get? b=some u->h'.get? b=some u)(a:∀b∈ch,jO X pins H b):Inv X pins σ H {s with heap:=h',toks:=t'}:=by
 have f:∀b u,H b=some u->b∉ch:=λb u e z=>by rw[(a b z).1]at e;cases e
 refine I.step (g':=s.gens) (d':=s.drawn) (ch:=ch) (λb g=>⟨(a b g).2.2.2.1,(a b g).2.1,(a b g).2.2.2.2.1,(a b g).2.2.2.2.2⟩) (λb o _ _ d e _=>k b o d e) (λb o _ _ d e _=>⟨o.slots,k b o d e⟩)
  (λ_ _ _ _ n=>n) (λb o d e=>⟨o,k b o d e⟩) (λ_ _ e=>e) (λ_ _ _ e=>e) (λb ps e=>⟨#[],by rw[e];simp⟩) (λm hm=>?_) (λb u e=>?_) I.bare
 ·obtain⟨h,es,ep,i,r⟩:=hm;exact⟨h,es,ep,k _ h (λz=>(a _ z).2.1 rfl) i,r⟩
 ·refine(I.hok b u e).vG (λc v d q=>k c v ?_ q) (λc q=>q) λc xs q=>q
  rcases d with z|z
  ·rw[z];exact f b u e
  ·exact f c _ z
def Kq(K:mo)(a b:B3):It:=
 ⟨λi H=>∃xs ys x y,bg K H a xs/\bg K H b ys/\xs[i]? =some x/\ys[i]? =some y,λi H x H'=>∃p u v,x= .ref p/\H p=none/\H'=upd H p (.tup [u,v])/\(∀xs,bg K H a xs->xs[i]? =some u)/\∀ys,bg K H b ys->ys[i]? =some v,
  λi H=>∃xs ys,bg K H a xs/\bg K H b ys/\(xs.length<=i∨ys.length<=i)⟩
theorem BO{pt:Pos}{z TI TO i1 i2:B3}(D:Qh z TI TO i1 i2 a b):
  Turn P w K (.Tuple es kk pt) (Kq K a b) [z,TI,TO,i1,i2] z (λi h=>O3 h z TI TO .none/\NF h TI (.ref i1) (.ref i2)/\(∃u v,NF h TO u v)/\h.IsListIter i1 a i/\h.IsListIter i2 b i) where
 mem:=by simp
 obj:=λi h st c L=>by
  obtain⟨n,d,⟨u,v,e⟩,⟨Q,h1,c1,d1⟩,⟨O,h2,c2,d2⟩⟩:=st;simp only[Mz,Ml,or_false]at L
  rcases L with q|q|q|q|q<;>subst q
  ·exact⟨_,n,λv q=>by cases q⟩
  ·exact⟨_,d,λv q=>by cases q⟩
  ·exact⟨_,e,λv q=>by cases q⟩
  ·exact⟨Q,h1,λv q=>by rw[d1]at q;cases q⟩
  ·exact⟨O,h2,λv q=>by rw[d2]at q;cases q⟩
 keep:=λi h h' st kk=>by
  obtain⟨n,d,⟨u,v,e⟩,⟨Q,h1,c1⟩,⟨O,h2,c2⟩⟩:=st;exact⟨kk z (by simp) _ n,kk TI (by simp) _ d,⟨u,v,kk TO (by simp) _ e⟩,⟨Q,kk i1 (by simp) _ h1,c1⟩,⟨O,kk i2 (by simp) _ h2,c2⟩⟩
 item:=by
  intro X V Z T L i pins s σ H E I M st W;subst V Z T;obtain⟨xs,ys,x,y,m,l,hx,hy⟩:=W;obtain⟨its,rv,p,R⟩:=I.list m;obtain⟨u,hu,ru⟩:=rv.get hx;obtain⟨G,A,p2,S⟩:=I.list l;obtain⟨v,hv,Y⟩:=A.get hy;obtain⟨n,d,⟨u0,v0,e⟩,j,k⟩:=st;refine wpAny_pyNext_zip_item D n d e j k p.isList p2.isList (x:=u) (y:=v) (by simpa using hu) (by simpa using hv) λh' a1 a2 a3 a4 a5 a6 kp=>⟨_,rfl,?_⟩;refine Q9 a1 λg2 F C=>?_;have lz:z<s.heap.objs.size:=De n;have U:TI<s.heap.objs.size:=De d;have a0:TO<s.heap.objs.size:=De e
  have l1:i1<s.heap.objs.size:=by obtain⟨o,B,_⟩:=j;exact De B
  have l2:i2<s.heap.objs.size:=by obtain⟨o,B,_⟩:=k;exact De B
  have nT:H s.heap.objs.size=none:=I.fresh;have N:g2.get? s.heap.objs.size=some {cls:= .type "tuple",data:= .seq #[u,v]}:=(C.2 _ (Nz lz)).trans a5
  have I1:Inv X pins σ (upd H s.heap.objs.size (.tup [x,y])) {s with heap:=g2,toks:=s.toks}:=by
   refine I.iw (t':=s.toks) (ch:=[z,TI,TO,i1,i2]) (λc o f q=>?_) M (B6 _) ⟨?_,[u,v],.cons ru (.cons Y .nil),⟨_,N,rfl,0,rfl⟩⟩
   ·simp only[Mz,Ml,or_false,not_or]at f;exact(C.2 c f.1).trans (kp c o f.1 f.2.2.1 f.2.2.2.1 f.2.2.2.2 q)
   ·show 2<=sizeLine;decide
  refine⟨.ref s.heap.objs.size,_,I1,rfl,⟨_,x,y,rfl,nT,rfl,λzs t=>?_,λzs t=>?_⟩,⟨F,?_,⟨u,v,?_⟩,?_,?_⟩,λc f=>?_⟩
  ·rw[I.jt t m];exact hx
  ·rw[I.jt t l];exact hy
  ·exact(C.2 TI D.TIz).trans (kp TI _ D.TIz D.TITO D.TIi1 D.TIi2 d)
  ·exact(C.2 TO D.TOz).trans a2
  ·obtain⟨o,B,r⟩:=a3;exact⟨o,(C.2 i1 D.i1z).trans B,r⟩
  ·obtain⟨o,B,r⟩:=a4;exact⟨o,(C.2 i2 D.i2z).trans B,r⟩
  ·have g:=(M c f).1;simp only[Mz,Ml,or_false]at f
   rcases f with q|q|q|q|q<;>subst q
   ·rw[ak (LV lz)];exact g
   ·rw[ak (LV U)];exact g
   ·rw[ak (LV a0)];exact g
   ·rw[ak (LV l1)];exact g
   ·rw[ak (LV l2)];exact g
 done:=by
  intro X V Z T L i pins s σ H E I M st W;subst V Z T;obtain⟨xs,ys,m,l,J⟩:=W;obtain⟨its,rv,p,R⟩:=I.list m;obtain⟨G,A,p2,S⟩:=I.list l;obtain⟨n,d,⟨u0,v0,e⟩,j,k⟩:=st;have l1:=rv.length;have l2:=A.length;refine wpAny_pyNext_zip_end (I.ok.hd L) D n d e j k p.isList p2.isList ?_ λh' kp=>⟨rfl,I.pD (t':=s.toks) (ch:=[z,TI,TO,i1,i2]) (λc o f q=>?_) M⟩
  ·rcases J with q|q
   ·exact .inl (by simp;lia)
   ·exact .inr (by simp;lia)
  ·simp only[Mz,Ml,or_false,not_or]at f;exact kp c o f.1 f.2.2.1 f.2.2.2.1 f.2.2.2.2 q
 self:=λ_ _ _ _ _ st h=>Pa st.1 h
section
variable{pt:Pos}
inductive IT(K:mo)(R:It->Hp->Prop)(vs:List V)(H1:Hp):Prop
 |mk (a:_) (b:_) (c0:vs=[.ref a,.ref b]) (c1:(∃xs,bg K H1 a xs)) (c2:(∃ys,bg K H1 b ys)) (c3:R (Kq K a b) H1)
def KP(K:mo)(ta:TA):TI:=λσ H R=>ta σ H λvs H1=>IT K R vs H1
theorem Gq{l m:Expr}{ta:TA}(P:Gl X "zip")(hm:X.mg "zip"=none)(ha:PA X [l,m] ta)(D:L9 [l,m] X.env=[(false,M3 l X.env),(false,M3 m X.env)]:=by rfl)(f:L9 [m] X.env=[(false,M3 m X.env)]:=by rfl):
  PI X (.Tuple es kk pt) (.Call (.Name "zip" p) [l,m] [] pos) (KP X.K ta):=by
 intro pins s σ H R I h;refine Rw (eI I P hm RW (Mq (bW (ha pos pins s σ H _ I h) λus s1 ⟨vs,H1,e,O,G⟩=>?_) (by rw[D,f]) (by rw[f];rfl)));obtain⟨a,b,g,⟨xs,r⟩,⟨ys,n⟩,q⟩:=G;subst g;obtain⟨u,v,g,M,N⟩:=vals2 O;subst g;obtain rfl:u=Kf a:=M;obtain rfl:v=Kf b:=N;obtain⟨its,Q,pl,w⟩:=e.list r;obtain⟨A,F,d,C⟩:=e.list n
 have L:a<s1.heap.objs.size:=by obtain⟨o,k,_⟩:=pl.isList;exact De k
 have E:b<s1.heap.objs.size:=by obtain⟨o,k,_⟩:=d.isList;exact De k
 refine call_zip_2 pl.isList d.isList λh' w i x j t B kp=>?_;have J:Inv X pins σ H1 {s1 with heap:=h'}:=e.kept (t':=s1.toks) kp;refine Pa w ⟨s1.heap.objs.size+4,[s1.heap.objs.size+4,s1.heap.objs.size+2,s1.heap.objs.size+3,s1.heap.objs.size,s1.heap.objs.size+1],_,_,H1,rfl,J,BO (zipApart_new L E),⟨w,i,⟨_,_,x⟩,j,t⟩,λc z=>?_,q⟩
 have y:s1.heap.objs.size<=c:=by
  simp only[Mz,Ml,or_false]at z
  rcases z with q|q|q|q|q<;>rw[q]
  ·exact MW _ _
  ·exact MW _ _
  ·exact MW _ _
  ·exact B6 _
  ·exact MW _ _
 exact e.kz y (e.hok.fresh y)
end
section
variable{M:Model}{env:Env}
theorem rV{T:String}{rest:List Expr}{kws:List O2}{Q:B5->FS->Prop}(h:IR M A (SA (NC pos (L9 (e::rest) env))) (λvs s1=>IR M A (evalAll ((NQ pos (M6 kws env)).map (·.2)))
   (λkvs s2=>IR M A (call (.builtin T) vs (((NQ pos (M6 kws env)).filterMap (·.1)).zip kvs)) Q E s2) E s1) E s)(he:NC pos (L9 (e::rest) env)=(false,M3 e env)::NC pos (L9 rest env):=by rfl)(c:(NC pos (L9 (e::rest) env)).any (·.1)=false:=by rfl)(b:(NQ pos (M6 kws env)).all (·.1.isSome)=true:=by rfl)(d:(NQ pos (M6 kws env)).any (·.1.isNone)=false:=by rfl):
  IR M A (callWith pos (.builtin T) [] (NC pos (L9 (e::rest) env)) (NQ pos (M6 kws env))) Q E s:=by
 have h2:IR M A (evalArgs (.builtin T) true (NC pos (L9 (e::rest) env)) (NQ pos (M6 kws env))) (λa s1=>IR M A (call (.builtin T) ([]++a.pos) a.kw) Q E s1) E s:=by
  rw[he]at h⊢;exact evalArgs_kwB b h
 unfold callWith;refine B2 (NS (M_ h2 (λa s1 h1=>B2 (O4 ?_)) λ_ _ z=>z));simp only[c,d,P8];exact B2 (KF (B2 (M_ h1 (λr s2 f=>B2 (NS (wpAny_point (KF f)))) λ_ _ z=>z)))
end
theorem same_none{H':Hp}(s:af H H')(h:H' b=none):H b=none:=by
 cases e:H b with
 |none=>rfl
 |some u=>rw[s b u e]at h;cases h
abbrev C5(K:mo):TG:=Jv K 2 (BC (gE 0) (BC (gE 1) JM))
theorem af.kJ{l:B3}{o:HO}(s:af H H2)(hn:H l=none):af H (upd H2 l o):=λb u e=>by
 rw[ak (aM e hn)];exact s b u e
theorem fh{α:Type}(n:Nat)(c:Nat->Bool)(f:Nat->α):((Me (n+1)).filter c).map f=((Me n).filter c).map f++(if c n=true then[f n]else[]):=by
 rw[List.range_succ,P_,Dk];by_cases h:c n=true
 ·rw[if_pos h,List.filter_cons_of_pos h];rfl
 ·rw[if_neg h,Ru h];rfl
theorem yK{ys:List V}(c:Nat->Bool)(f:Nat->V)(hA:bg K H a xs)(hB:bg K H b ys)(hn:min xs.length ys.length<sizeLine)(F:∀(i:Nat)(x y:V)(H':Hp)(k:Bool->Hp->Prop),xs[i]? =some x->ys[i]? =some y->af H H'->(∀d,af H' d->k (c i) d)->tt (some x::some y::σ) H' k)(he:∀(i:Nat)(x y:V)(H':Hp)(k:VK),c i=true->xs[i]? =some x->ys[i]? =some y->af H H'->(∀d,af H' d->k (f i) d)->te (some x::some y::σ) H' k)(hd:∀D H',H D=none->af H H'->H' D=some (.lst (((Me (min xs.length ys.length)).filter c).map f))->Q (.ref D) H'):eO (Kq K a b) H 2 σ (C5 K) tt te Q:=by
 intro D n;refine⟨λi m H'=>m=min xs.length ys.length-i/\i<=min xs.length ys.length/\af H H'/\H' D=some (.lst (((Me i).filter c).map f)),⟨_,rfl,L5 _,af.kJ (af.refl H) n,ae⟩,?_⟩;rintro i m H' ⟨rfl,hi,s1,hl⟩;have o:=s1.seq hA;have q:=s1.seq hB;by_cases g:i<min xs.length ys.length
 ·have hx:i<xs.length:=by lia
  have E:i<ys.length:=by lia
  refine .inr ⟨⟨xs,ys,xs[i],ys[i],o,q,by simp[hx],by simp[E]⟩,λx H2 ρ r y=>?_⟩;obtain⟨p,u,v,rfl,C,rfl,G,I⟩:=y;have A:=G xs o;have B:=I ys q
  match ρ,r with
  |[J,L],_=>
   have s2:af H' (upd H' p (.tup [u,v])):=af.kJ (af.refl _) C;refine⟨p,_,rfl,aT.of ae,rfl,_,_,rfl,_,_,rfl,rfl,⟨[some u,some v],rfl,rfl⟩,?_⟩;have j:=af.trans s1 s2;have s:=s2 _ _ hl;refine F i u v _ _ A B j λH3 z=>?_;have l:=z _ _ s;have h:=af.trans j z
   cases t:c i with
   |true=>
    refine di (he i u v _ _ t A B h λH4 w=>⟨_,w _ _ l,?_,_,Nd _ _ g,rfl,g,af.kJ (af.trans h w) n,?_⟩)
    ·rw[be];exact OT (Mu (OE _ _) (by rw[MQ];exact CA)) hn
    ·rw[ae,fh,if_pos t]
   |false=>
    refine bA ⟨_,Nd _ _ g,rfl,g,h,?_⟩;rw[l,fh,if_neg (by rw[t];exact GM),FB]
 ·have e:i=min xs.length ys.length:=by lia
  refine .inl ⟨⟨xs,ys,o,q,by lia⟩,?_⟩;rw[e]at hl;exact hd D H' n s1 hl
end L2
namespace L2
open PySem
abbrev Za:List Str:=["thing"]
abbrev Zb:List Str:=["box"]
abbrev Zc:List Str:=["thing","many"]
abbrev Zd:List Str:=["what","many"]
abbrev Ze:List Str:=["text"]
abbrev Zf:List Str:=["_law_stream_here","_law_many"]
abbrev Zg:List Str:=["thing","least","most"]
abbrev Zh:List Str:=["thing","depth","in_table","names"]
abbrev Zi:List Str:=["_law_stream_here"]
abbrev Zj:List Str:=["wish","columns","gap","align","side","joint","text"]
abbrev Zk:List Str:=["_law_kind","_law_what_here"]
abbrev Zl:List Str:=["things","sign"]
abbrev Zm:List Str:=["_law_found","_law_due_here"]
abbrev Zn:List Str:=["_law_script"]
abbrev Zo:List Str:=["span","float","at"]
abbrev Zp:List Str:=["text","sign"]
abbrev Zq:List Str:=["text","sign","many"]
abbrev Zr:List Str:=["places","spans"]
abbrev Zs:List Str:=["kind","what"]
abbrev Zt:List Str:=["box","depth","as_part"]
abbrev Zu:List Str:=["_law_stream_here","_law_names_here","_law_deep","_law_tabled"]
abbrev Zv:List Str:=["thing","columns"]
abbrev Zw:List Str:=["kind","what","many"]
abbrev Zx:List Str:=["self","depth","kind","name","told"]
abbrev Zy:List Str:=["box","in_table"]
abbrev Zz:List Str:=["_law_box_here","_law_deep","_law_extra"]
abbrev ZA:List Str:=["taken","row","column","span"]
abbrev ZC:List Str:=["taken","columns","span"]
abbrev ZD:List Str:=["taken","place","span"]
abbrev ZE:List Str:=["columns","spans"]
abbrev ZF:List Str:=["wish","columns","gap","align","side","joint","span","float","at","text"]
abbrev ZG:List Str:=["elder","place"]
abbrev ZH:List Str:=["box","as_part"]
abbrev ZI:List Str:=["_law_stream_here","_law_kind","_law_many"]
abbrev ZJ:List Str:=["kind","told","parts_told"]
abbrev ZK:List Str:=["_law_kind","_law_what_here","_law_at"]
end L2
namespace S2
open PySem L2
def bp(H:Hp)(as:List B3)(rows:List (List V)):Prop:=as.length=rows.length/\∀(i:Nat)(p:B3)(r:List V),as[i]? =some p->rows[i]? =some r->H p=some (.tup r)
theorem bp.same{H H2:Hp}{as:List B3}{rows:List (List V)}(h:bp H as rows)(s:af H H2):bp H2 as rows:=⟨h.1,λi p r a b=>s _ _ (h.2 i p r a b)⟩
variable{H H2:Hp}{as:List B3}
theorem bp.nil:bp H [] []:=⟨rfl,λi p r e=>by simp at e⟩
theorem bp.snoc{rows:List (List V)}{p:B3}{r:List V}(h:bp H as rows)(s:af H H2)(c:H2 p=some (.tup r)):bp H2 (as++[p]) (rows++[r]):=by
 refine⟨by rw[B1,B1,h.1];rfl,λi q x a b=>?_⟩;by_cases hi:i<as.length
 ·rw[LQ hi]at a;rw[LQ (by rw[<-h.1];exact hi)]at b;exact s _ _ (h.2 i q x a b)
 ·rw[GT (by lia)]at a;rw[GT (by rw[<-h.1];lia),<-h.1]at b
  cases e:i-as.length with
  |zero=>
   rw[e]at a b
   cases a
   cases b
   exact c
  |succ d=>rw[e]at a;simp at a
theorem bp.get{rows:List (List V)}(h:bp H as rows){i:Nat}{x:V}(e:(as.map V.ref)[i]? =some x):∃p r,x= .ref p/\as[i]? =some p/\rows[i]? =some r/\H p=some (.tup r):=by
 rw[B7]at e
 cases a:as[i]? with
 |none=>rw[a]at e;cases e
 |some p=>
  rw[a]at e
  have hi:i<rows.length:=by rw[<-h.1];exact bR a
  exact⟨p,rows[i],(L6 e).symm,rfl,by simp[hi],h.2 i p rows[i] a (by simp[hi])⟩
end S2
namespace L2
open PySem PySem.Spec PyProof.Rows
def KN(x:Str):It:=⟨λi _=>i<x.cps.size,λi H v H'=>H'=H/\∃c,x.cps[i]? =some c/\v= .str ⟨#[c]⟩,λi _=>x.cps.size<=i⟩
variable{tg:Expr}{X:Cx}
theorem tU{P:MA}{w:MM}{K:mo}{T:String}(l:T="str_ascii_iterator"∨T="str_iterator")(it:B3)(x:Str)(t:Tok):Turn P w K tg (KN x) [it] it (λi h=>h.IsStrIter it T x t i/\i<=x.cps.size) where
 mem:=by simp
 obj:=λi h st b a=>by
  have e:b=it:=by simpa using a
  subst e;obtain⟨⟨o,e,c,d⟩,_⟩:=st;exact⟨o,e,λv z=>by rw[d]at z;cases z⟩
 keep:=λi h h' st k=>by
  obtain⟨⟨o,e,r⟩,hi⟩:=st;exact⟨⟨o,k it (by simp) o e,r⟩,hi⟩
 item:=by
  intro X y B n j i pins s σ H E I m st f;subst y B n;obtain⟨q,f1,f2,f3,f4,f5⟩:=m it (by simp)
  have W:Walks X.prog X.w X.A it [it] [it] x.cps.size (SignAt x) (λi h=>h.IsStrIter it T x t i):=by
   rcases l with rfl|rfl
   ·exact Walks.strAscii (I.ok.hd j) it x t
   ·exact Walks.strWide (I.ok.hd j) it x t
  have f:i<x.cps.size:=f;refine W.item i s _ _ f st.1 λv h' tk C g kk=>?_;obtain⟨c,u,p,rfl⟩:=C;have F:Inv X pins σ H {s with heap:=h',toks:=tk}:=I.turned (λb o a e=>kk b o (by simpa using a) e) q f1 f3 f4 f5;obtain⟨o,e,D,d⟩:=id g;exact⟨_,rfl,sF (s:={s with heap:=h',toks:=tk}) e D d (by rcases l with rfl|rfl<;>decide) ⟨.str ⟨#[c]⟩,H,F,⟨u,rfl⟩,⟨rfl,c,p,rfl⟩,⟨g,f⟩,λb a=>(m b a).1⟩⟩
 done:=by
  intro X y B n j i pins s σ H E I m st f;subst y B n;obtain⟨q,f1,f2,f3,f4,f5⟩:=m it (by simp)
  have W:Walks X.prog X.w X.A it [it] [it] x.cps.size (SignAt x) (λi h=>h.IsStrIter it T x t i):=by
   rcases l with rfl|rfl
   ·exact Walks.strAscii (I.ok.hd j) it x t
   ·exact Walks.strWide (I.ok.hd j) it x t
  have hi:i=x.cps.size:=Nat.le_antisymm st.2 f;subst hi;exact W.done s _ _ st.1 λh' tk kk=>⟨rfl,I.turned (λb o a e=>kk b o (by simpa using a) e) q f1 f3 f4 f5⟩
 self:=λ_ _ _ _ _ st h=>by
  rcases l with rfl|rfl
  ·exact wpAny_pyIter_striter_ascii st.1 h
  ·exact wpAny_pyIter_striter_wide st.1 h
def I_(tl:TE):TI:=λσ H R=>tl σ H λv H1=>∃x,v= .str x/\R (KN x) H1
theorem vC{l:Expr}{tl:TE}(hl:PE X l tl):PI X tg l (I_ tl):=by
 intro pins s σ H R I h;refine bW (hl pins s σ H _ I h) λv s1 c=>?_;obtain⟨y,H1,a,g,f⟩:=c;obtain⟨x,e,q⟩:=f;subst e;obtain⟨t,rfl⟩:=g
 cases ha:x.cps.all (·<128)
 ·refine wpAny_pyIter_wide ha ?_;refine⟨s1.heap.objs.size,[s1.heap.objs.size],_,_,H1,rfl,a.kept (t':=s1.toks) λb o e=>B0 _ e,tU (.inr rfl) _ x t,⟨⟨_,Gc _ rfl,rfl,rfl⟩,L5 _⟩,λb d=>?_,q⟩
  have e:b=s1.heap.objs.size:=by simpa using d
  subst e;exact a.kz (B6 _) (a.hok.fresh (B6 _))
 ·refine wpAny_pyIter_ascii ha ?_;refine⟨s1.heap.objs.size,[s1.heap.objs.size],_,_,H1,rfl,a.kept (t':=s1.toks) λb o e=>B0 _ e,tU (.inl rfl) _ x t,⟨⟨_,Gc _ rfl,rfl,rfl⟩,L5 _⟩,λb d=>?_,q⟩
  have e:b=s1.heap.objs.size:=by simpa using d
  subst e;exact a.kz (B6 _) (a.hok.fresh (B6 _))
def Kv:R2:=λa b H Q=>∃x y:Str,a= .str x/\b= .str y/\Q (.bl (!decide (y.cps.toList<x.cps.toList))) H
theorem qQ:hV X (MR .LtE) Kv:=by
 intro pins s σ H x y v u Q I e f h;obtain⟨a,b,c,d,q⟩:=h;subst c d;obtain⟨t,rfl⟩:=e;obtain⟨t',rfl⟩:=f;exact PySem.P.le_str ⟨.bl _,H,I,rfl,q⟩
end L2
namespace DW
open PySem
def nS(i:Int):Str:=MB (toString i)
theorem dj(s:String):(MB s).cps.toList=s.toList.map Char.toNat:=by
 rw[Str.ofString_eq_byList];rfl
variable{x y s:Str}{a b i:Int}{c B:Nat}
theorem kQ(h:x.cps.toList=y.cps.toList):x=y:=by
 cases x;cases y
 simp only[Str.mk.injEq];exact Array.toList_inj.mp h
theorem qj{a b:String}(h:MB a=MB b):a=b:=by
 have e:=congrArg (λs:Str=>s.cps.toList) h;rw[dj,dj]at e
 have g:a.toList=b.toList:=by
  exact(List.map_inj_right λc d f=>Char.toNat_inj.mp f).mp e
 exact String.toList_inj.mp g
theorem mz(h:nS a=nS b):a=b:=Int.repr_injective (qj h)
theorem wK(n:Nat):∀c∈(OA n).toList,48<=c.toNat/\c.toNat<=57:=λc a=>by
 have e:(OA n).toList=Od 10 n:=by unfold OA;exact R4
 rw[e]at a;have :=QQ (by decide) (by decide) a;simp only[Char.isDigit,M0,decide_eq_true_eq]at this;exact⟨this.1,this.2⟩
theorem GV(i:Int):∀c∈(nS i).cps.toList,c=45∨48<=c/\c<=57:=λc a=>by
 unfold nS at a;rw[dj]at a;obtain⟨d,hd,rfl⟩:=List.mem_map.mp a
 cases i with
 |ofNat n=>exact .inr (wK n d hd)
 |negSucc n=>
  have e:(toString (Int.negSucc n)).toList= '-' ::(OA (n+1)).toList:=by
   show("-"++OA (n+1)).toList=_;rw[PJ];rfl
  rw[e]at hd
  rcases List.mem_cons.mp hd with z|z
  ·rw[z];exact .inl rfl
  ·exact .inr (wK (n+1) d z)
theorem kM(x y:Str):(x++y).cps.toList=x.cps.toList++y.cps.toList:=by
 show(x.cps++y.cps).toList=_;rw[LX]
theorem Br{α:Type}{c:α}:∀{x y r r':List α},c∉x->c∉y->x++c::r=y++c::r'->x=y/\r=r'
 |[],[],r,r',_,_,e=>by injection e with _ e;exact⟨rfl,e⟩
 |[],b::y,r,r',_,d,e=>by injection e with e _;exact absurd (by rw[<-e];exact Do) d
 |a::x,[],r,r',hx,_,e=>by injection e with e _;exact absurd (by rw[e];exact Do) hx
 |a::x,b::y,r,r',hx,d,e=>by
  injection e with f j
  obtain⟨g,i⟩:=Br (λh=>hx (GE _ h)) (λh=>d (GE _ h)) j;exact⟨by rw[f,g],i⟩
theorem cut_str{r r':Str}(hx:c∉x.cps.toList)(b:c∉y.cps.toList){t:List Nat}(d:s.cps.toList=c::t)(e:x++(s++r)=y++(s++r')):x=y/\r=r':=by
 have a:=congrArg (λs:Str=>s.cps.toList) e;rw[kM,kM,kM,kM,d,ML,ML]at a;obtain⟨g,f⟩:=Br hx b a;exact⟨kQ g,kQ (List.append_cancel_left f)⟩
theorem jm(h:c<45∨(45<c/\c<48)∨57<c)(i:Int):c∉(nS i).cps.toList:=λa=>by
 have :=GV i c a
 lia
theorem fE(x y z:Str):(x++y)++z=x++(y++z):=by
 show(⟨(x.cps++y.cps)++z.cps⟩:Str)=⟨x.cps++(y.cps++z.cps)⟩;rw[Nu]
theorem DA{t:List Nat}(g:s.cps.toList=c::t)(f:c<45∨(45<c/\c<48)∨57<c){a' d:Int}(e:nS a++(s++nS b)=nS a'++(s++nS d)):a=a'/\b=d:=by
 obtain⟨h1,h2⟩:=cut_str (jm f a) (jm f a') g e;exact⟨mz h1,mz h2⟩
theorem JH(s x:Str):L1 s [x]=x:=rfl
theorem EO(s x y:Str):L1 s [x,y]=x++(s++y):=by
 show(⟨x.cps++s.cps++y.cps⟩:Str)=⟨x.cps++(s.cps++y.cps)⟩;rw[Nu]
theorem wZ(s x y:Str)(r:List Str):L1 s (x::y::r)=x++(s++L1 s (y::r)):=by
 have d:∀(r:List Str)(a b:Array Nat),r.foldl (λc p=>c++s.cps++p.cps) (a++b)=a++r.foldl (λc p=>c++s.cps++p.cps) b:=λr=>by
  induction r with
  |nil=>intro a b;rfl
  |cons z r e=>
   intro a b;rw[Pv,Pv,Nu (xs:=a),Nu (xs:=a),e]
 show(⟨r.foldl (λc p=>c++s.cps++p.cps) (x.cps++s.cps++y.cps)⟩:Str)=⟨x.cps++(s.cps++r.foldl (λc p=>c++s.cps++p.cps) y.cps)⟩;rw[d,Nu]
theorem Ds(x:Str):x.length=x.cps.toList.length:=by
 show x.cps.size=_;exact Array.length_toList.symm
theorem dG(s:Str):∀(ys:List Str),(∀y∈ys,y.length<=B)->(L1 s ys).length<=ys.length*(B+s.length)
 |[],_=>L5 _
 |[x],h=>by
  rw[JH];have :=h x Do;show _<=1*_
  lia
 |x::y::r,h=>by
  rw[wZ,B9,B9];have h1:=h x Do;have h2:=dG s (y::r) λz a=>h z (GE _ a);rw[B8,Ql]
  lia
theorem fu:∀(ys:List Str),(∀y∈ys,y.length<=B)->(ys.map (·.length)).sum<=ys.length*B
 |[],_=>L5 _
 |y::r,h=>by
  have h1:=h y Do;have h2:=fu r λz a=>h z (GE _ a);rw[Mc,P7,B8,Ql]
  lia
theorem cn(h:i.natAbs<1000000000):(nS i).length<=10:=by
 have k:∀n:Nat,n<1000000000->(OA n).toList.length<=9:=λn hn=>by
  have e:(OA n).toList=Od 10 n:=by unfold OA;exact R4
  rw[e];exact(Nat.length_toDigits_le_iff (by decide) (by decide)).mpr CA
 rw[Ds];unfold nS;rw[dj,be]
 cases i with
 |ofNat n=>
  have :=k n h;show(OA n).toList.length<=10;exact cV
 |negSucc n=>
  have e:(toString (Int.negSucc n)).toList= '-' ::(OA (n+1)).toList:=by
   show("-"++OA (n+1)).toList=_;rw[PJ];rfl
  rw[e,B8];have :=k (n+1) h;exact Hu
theorem yg(h:i.natAbs<1000000000):i.natAbs.log2<1920:=by
 have :i.natAbs.log2<=i.natAbs:=Nat.log2_le_self _;by_cases z:i.natAbs=0
 ·rw[z];decide
 ·have h2:=(Nat.log2_lt z (k:=30)).mpr CI;exact CI
end DW
namespace L2
open PySem PySem.Spec PyProof.Rows
def tS:V->Str
 | .int i=>DW.nS i
 | .str x=>x
 |_=>""
def pC:V->Prop
 | .int i=>i.natAbs<1000000000
 | .str x=>x.length<=60
 |_=>False
variable{K:mo}{X:Cx}
section
theorem bj:dB X (.type "str") (λxs H Q=>∃x,xs=[x]/\pC x/\Q (.str (tS x)) H):=by
 intro pins s σ H xs us Q I r h;obtain⟨x,rfl,hx,q⟩:=h;obtain⟨u,rfl,a⟩:=vals1 r
 cases x with
 |int i=>
  obtain⟨t,rfl⟩:=a;exact PySem.P.str_of_int (DW.yg hx) ⟨.str _,H,I.tok _,⟨_,rfl⟩,q⟩
 |str x=>
  obtain⟨t,rfl⟩:=a;exact PySem.P.str_of_str ⟨.str _,H,I,⟨_,rfl⟩,q⟩
 |_=>exact hx.elim
def jR(K:mo):V->List V->Hp->VK->Prop:=λx vs H Q=>∃z b ys,x= .str z/\vs=[.ref b]/\aT K H b (ys.map V.str)/\(ys.map (·.length)).sum+ys.length*z.length<=16777216/\Q (.str (L1 z ys)) H
theorem BN:zl X "str.join" (jR X.K):=by
 intro pins s σ H x vs v us Q I f i h;obtain⟨z,b,ys,a,d,hB,g,q⟩:=h;subst a d;obtain⟨t,e⟩:=(show∃t,v=MU z t from f);subst e;obtain⟨u,j,l⟩:=i.one;subst j;obtain rfl:u=Kf b:=l;obtain⟨its,r,pl,c⟩:=I.tuple hB;exact join_tuple pl (by simpa using qH r) g λt' k=>⟨.str (L1 z ys),H,I.tok k,⟨t',rfl⟩,q⟩
variable{o e:Expr}{es:List Expr}{to:TE}{t:TA}{name:Str}{apos cpos:Pos}{T id:String}{r:V->List V->Hp->VK->Prop}
theorem qe(pa:Ss T)(slot:Slot T name id)(f:typeOf (.builtin id)=pure (.type "method_descriptor"))(hm:X.K=K->JT X id r)(j:PE X o to)(ha:PA X (e::es) t)(h:X.K=K:=by rfl)(c:Oh o name X.env (M3 o X.env)=M3 o X.env:=by rfl)(d:((NC cpos (L9 (e::es) X.env)).all (λx=> !x.1)&&(NQ cpos (M6 [] X.env)).all (λx=>x.1.isSome)
   &&decide ((e::es).length+([]:List O2).length+(if([]:List O2).isEmpty then 0 else 1)<30))=true:=by rfl)(b:(apos.endLine==cpos.line)=true:=by rfl)(i:L9 (e::es) X.env=(false,M3 e X.env)::L9 es X.env:=by rfl)(a:(NC cpos (L9 es X.env)).any (·.1)=false:=by rfl):
  PE X (.Call (.Attribute o name apos) (e::es) [] cpos) (Kh K T r to t):=by
 have g:=hm h;subst h;exact bV pa slot f g j ha c d b i a
theorem jU(h:X.K=K):JT X "str.join" (jR K):=by subst h;exact BN
end
open S2
variable{H:Hp}{Q:VK}{a:B3}{te:TE}{xs:List V}{σ:St}
theorem ke(f:V->V)(h:H a=some (.tup xs))(hn:xs.length<sizeLine)(he:∀(i:Nat)(x:V)(H':Hp)(g:VK),xs[i]? =some x->af H H'->(∀H3,af H' H3->g (f x) H3)->te (some x::σ) H' g)(hd:∀D H',H D=none->af H H'->H' D=some (.lst (xs.map f))->Q (.ref D) H'):fb (EU K a) H σ gw te Q:=by
 intro D c;refine⟨λi m H'=>m=xs.length-i/\i<=xs.length/\af H H'/\H' D=some (.lst ((xs.take i).map f)),⟨xs.length,by lia,L5 _,af.put (af.refl H) c,ae⟩,?_⟩;rintro i m H' ⟨rfl,hi,s1,hl⟩;have q:aT K H' a xs:=aT.of (s1 _ _ h);by_cases b:i<xs.length
 ·refine .inr ⟨⟨xs,xs[i],q,by simp[b]⟩,λx H2 y=>?_⟩;obtain⟨e,y⟩:=y;subst e;have hx:=y xs q;show te _ H2 _;refine he i x H2 _ hx s1 λH3 d=>⟨_,d _ _ hl,by rw[be,NI];lia,xs.length-(i+1),by lia,rfl,by lia,af.put (s1.trans d) c,?_⟩;rw[ae,Oa,hx,Dk];rfl
 ·have e:i=xs.length:=by lia
  subst e;rw[OH]at hl;exact .inl ⟨⟨xs,q,B6 _⟩,hd D H' c s1 hl⟩
theorem ar{t u:TS}{D:Ends}(h:∀N:St->Hp->Prop,(∀σ H,u D σ H->N σ H)->t {D with nx:=N} σ H):He t u D σ H:=h _ λ_ _ x=>x
open PySem.W
variable{w:MM}{i:Nat}
theorem xS{prog:MA}{K:Type}[DecidableEq K]{knd:KeyKind prog w K}{h:MP}{vs:List (K×B5)}(d:h.DictOf knd a vs):∃ep,h.DictAt knd a vs ep:=by
 obtain⟨o,es,ep,h1,h2,e,c,f,b⟩:=d;exact⟨ep,o,es,h1,h2,e,c,f,b⟩
theorem Kt{kvs:List (Key×V)}{vs:List (Key×B5)}(r:KV kvs vs){k:Key}{x:V}(h:kvs[i]? =some (k,x)):∃v,vs[i]? =some (k,v)/\RelV x v:=by
 induction r generalizing i with
 |nil=>cases h
 |cons p q a=>
  cases i with
  |zero=>
   cases h
   obtain⟨e,z⟩:=p;exact⟨_,by rw[List.getElem?_cons_zero];exact congrArg some (Prod.ext e.symm rfl),z⟩
  |succ i=>exact a h
theorem EM{P:MA}{k:Key}{u:B5}(h:(bb P w).is k u=true):RelV (kV k) u:=by
 rcases cp h with⟨i,t,rfl,rfl⟩|⟨x,t,rfl,rfl⟩
 ·exact⟨t,rfl⟩
 ·exact⟨t,rfl⟩
theorem mS:entryFor table "dict_itemiterator.__iter__"=some Builtin.«dict_keyiterator.__iter__»:=
 entryFor_alias (id':="dict_keyiterator.__iter__") (by kernel_rfl) rfl (by decide +kernel) (by kernel_rfl)
def GI:List V->Hp->VK->Prop:=λxs H Q=>∃(a:B3)(kvs:List (Key×V)),xs=[.ref a]/\Rd H a (.dK kvs)/\∀p,H p=none->Q (.ref p) (upd H p (.lst (kvs.map λb=>kV b.1)))
theorem uJ(A:X.calm=true):dB X (.type "list") GI:=by
 intro pins s σ H xs us Q I r h;obtain⟨a,kvs,y,d,q⟩:=h;subst y;obtain⟨u,D,G⟩:=vals1 r;subst D;obtain rfl:u=Kf a:=G;obtain⟨z,hd,vs,i,dd⟩:=iG I.hok d;obtain⟨ep,da⟩:=xS dd;refine kdl_call (kdl_dict (knd:=bb X.prog X.w) (kvs:=vs) (ep:=ep) hd) (I.ok.hd A) da (by rw[<-i.length];exact z) λh' tk f c E J b=>?_
 have F:Vals (kvs.map λg=>kV g.1) f.toList:=by
  have K:f.toList.length=vs.length:=by rw[LY];exact b.1
  have go:∀(ks:List (Key×V))(us:List (Key×B5))(as:List B5),KV ks us->as.length=us.length->(∀(j:Nat)(v:B5),as[j]? =some v->∃k x,us[j]? =some (k,x)/\(bb X.prog X.w).is k v=true)->Vals (ks.map λg=>kV g.1) as:=by
   intro ks us as g
   induction g generalizing as with
   |nil=>intro l _;cases as with
    |nil=>exact .nil
    |cons=>cases l
   |cons p t C=>
    intro l n
    cases as with
    |nil=>cases l
    |cons v as=>
     refine .cons ?_ (C as (by simpa using l) λj w e=>n (j+1) w (by simpa using e));obtain⟨k,x,e,m⟩:=n 0 v rfl;have B:=L6 e;show RelV (kV _) v;rw[p.1,B];exact EM m
  exact go kvs vs _ i K λj v e=>b.2 j v (by rw[<-NU];exact e)
 refine⟨.ref s.heap.objs.size,_,I.laid (a:=s.heap.objs.size) (o:= .lst (kvs.map λg=>kV g.1)) (t':=tk) E (B6 _) ⟨by rw[be];exact z,f.toList,c,F,by simpa using J⟩,rfl,q _ (I.hok.fresh (B6 _))⟩
def gA(J:It)(H:Hp)(xs:List V):Prop:=
 (∀i H',af H H'->i<xs.length->J.go i H')/\(∀H',af H H'->J.stop xs.length H')/\∀i x H' a,af H H'->J.yld i H' x a->a=H'/\xs[i]? =some x
theorem gA.list(h:bg K H a xs):gA (Hh K a) H xs:=
 ⟨λi H' s hi=>⟨xs,xs[i],s.seq h,by simp[hi]⟩,λH' s=>⟨xs,s.seq h,B6 _⟩,λi x H' b s y=>by
  obtain⟨e,y⟩:=y
  exact⟨e,y xs (s.seq h)⟩⟩
theorem kl{α:Type}{l:List α}{c:α->Bool}{x:α}(h:l[i]? =some x):(l.take (i+1)).filter c=(l.take i).filter c++if c x=true then[x]else[]:=by
 rw[Oa,h,P_]
 congr 1
 cases a:c x<;>simp[a]
theorem kY{α:Type}{J:It}{l:List α}{tt:TT}(inj:α->V)(c:α->Bool)(f:α->V)(k:gA J H (l.map inj))(hn:l.length<sizeLine)(r:∀(x:α)(H':Hp)(g:Bool->Hp->Prop),x∈l->af H H'->(∀b,af H' b->g (c x) b)->tt (some (inj x)::σ) H' g)(he:∀(x:α)(H':Hp)(g:VK),c x=true->x∈l->af H H'->(∀b,af H' b->g (f x) b)->te (some (inj x)::σ) H' g)(hd:∀D H',H D=none->af H H'->H' D=some (.lst ((l.filter c).map f))->Q (.ref D) H'):fb J H σ tt te Q:=by
 intro D j;refine⟨λi m H'=>m=l.length-i/\i<=l.length/\af H H'/\H' D=some (.lst (((l.take i).filter c).map f)),⟨_,rfl,L5 _,af.kJ (af.refl H) j,ae⟩,?_⟩;rintro i m H' ⟨rfl,hi,s1,hl⟩;by_cases a:i<l.length
 ·refine .inr ⟨k.1 i H' s1 (by rw[be];exact a),λx H2 y=>?_⟩;obtain⟨e,q⟩:=k.2.2 i x H' H2 s1 y;subst e;have ex:l[i]? =some l[i]:=AC a;rw[B7,ex]at q
  cases q
  have hm:=Fk ex;generalize l[i]=x at *;refine r x _ _ hm s1 λH3 p=>?_;have h:=p _ _ hl;have d:=af.trans s1 p
  cases n:c x with
  |true=>
   refine di (he x _ _ n hm d λH4 o=>⟨_,o _ _ h,?_,_,Nd _ _ a,rfl,a,af.kJ (af.trans d o) j,?_⟩)
   ·rw[be];exact OT (Mu (OE _ _) (by rw[NI];lia)) hn
   ·rw[ae,kl ex,if_pos n,Dk];rfl
  |false=>
   refine bA ⟨_,Nd _ _ a,rfl,a,d,?_⟩;rw[h,kl ex,if_neg (by rw[n];exact GM),FB]
 ·have e:i=l.length:=by lia
  have :=k.2.1 H' s1;rw[be]at this;rw[e];refine .inl ⟨this,?_⟩;rw[e,OH]at hl;exact hd D H' j s1 hl
end L2
namespace L2
open PySem PySem.Spec PyProof.Rows
variable{H:Hp}{X:Cx}{pins:List (B3×Obj)}{s:FS}{xe:B5->FS->Prop}{σ:St}{K:mo}{tg:Expr}
section
variable{C1:B3}{n c1:Str}{np1 hp1 tpos:Pos}{tb:XK->TS}{T1:TS}{b1:Mb}{su1 body:List Mb}{i:Nat}
theorem Inv.Ka{a:List (B3×Obj)}(I:Inv {X with pn:=X.pn++pins,xe:=xe} a σ H s):Inv X pins σ H s:=
 ⟨⟨I.ok.mod,I.ok.kind,I.ok.glob,I.ok.blt,I.ok.above,I.ok.inj,I.ok.has,I.ok.cab,I.ok.hd,I.ok.frames,I.ok.stk,I.ok.exf,I.ok.bs,I.ok.bsz,I.ok.noex,I.ok.exfs,I.ok.jj,I.ok.frf⟩,I.os,I.bare,I.base,I.loc,I.cell,I.free,I.freeC,λp b=>I.pin p (NB _ b),I.hok,I.len⟩
theorem Inv.IQ(I:Inv X pins σ H s):Inv {X with pn:=X.pn++pins,xe:=xe} [] σ H s:=
 ⟨⟨I.ok.mod,I.ok.kind,I.ok.glob,I.ok.blt,I.ok.above,I.ok.inj,I.ok.has,I.ok.cab,I.ok.hd,I.ok.frames,I.ok.stk,I.ok.exf,I.ok.bs,I.ok.bsz,I.ok.noex,I.ok.exfs,I.ok.jj,I.ok.frf⟩,I.os,I.bare,I.base,I.loc,I.cell,I.free,I.freeC,λp a=>I.pin p (by simpa using a),I.hok,I.len⟩
end
def rA(K:mo)(a:B3)(n:Nat):It:=
 ⟨λi H=>∃xs x,bg K H a xs/\xs.length=n/\i<n/\xs[n-1-i]? =some x,λi H x H'=>H'=H/\∀xs,bg K H a xs->xs[n-1-i]? =some x,λi H=>n<=i⟩
theorem Bh{P:MA}{w:MM}(a it:B3)(n:Nat):Turn P w K tg (rA K a n) [it] it (λi h=>i<=n/\h.IsRevIter it a ((n:Int)-1-(i:Int))) where
 mem:=by simp
 obj:=λi h st b j=>by
  have e:b=it:=by simpa using j
  subst e;obtain⟨_,o,e,c,d⟩:=st;exact⟨o,e,λv z=>by rw[d]at z;cases z⟩
 keep:=λi h h' st k=>⟨st.1,st.2.at λo e=>k it (by simp) o e⟩
 item:=by
  intro X t A q D i pins s σ H E I l st y;subst t A q;obtain⟨xs,x,C,B,hi,hx⟩:=y;obtain⟨its,O,p,S⟩:=I.list C;obtain⟨u,R,Q⟩:=O.get hx;obtain⟨r,f1,f2,f3,f4,f5⟩:=l it (by simp)
  have m:(n:Int)-1-(i:Int)=((n-1-i:Nat):Int):=by lia
  have f:=st.2;rw[m]at f;refine wpAny_pyNext_rev_item f p.isList (x:=u) (by simpa using R) λh' g G=>?_;have N:Inv X pins σ H {s with heap:=h'}:=I.turned (t':=s.toks) (λb o j e=>(G.2 b j).trans e) r f1 f3 f4 f5
  have F:((n-1-i:Nat):Int)-1=(n:Int)-1-((i+1:Nat):Int):=by lia
  rw[F]at g;obtain⟨o,e,c,d⟩:=id g;exact⟨u,rfl,sF (s:={s with heap:=h'}) e c d (by decide) ⟨x,H,N,Q,⟨rfl,λys L=>by rw[I.jt L C];exact hx⟩,⟨hi,g⟩,λb j=>(l b j).1⟩⟩
 done:=by
  intro X t A q D i pins s σ H E I l st y;subst t A q;obtain⟨r,f1,f2,f3,f4,f5⟩:=l it (by simp);have J:n<=i:=y
  have m:(n:Int)-1-(i:Int)= -1:=by have :=st.1;lia
  have f:=st.2;rw[m]at f;exact wpAny_pyNext_rev_end (I.ok.hd D) f λh' M=>⟨rfl,I.turned (t':=s.toks) (λb o j e=>M b o j e) r f1 f3 f4 f5⟩
 self:=λ_ _ _ _ _ st h=>PH st.2 h
def KI(K:mo)(ta:TA):TI:=λσ H R=>ta σ H λvs H1=>∃a xs,vs=[.ref a]/\bg K H1 a xs/\R (rA K a xs.length) H1
theorem Gp{l:Expr}{ta:TA}{p pos:Pos}(v:Gl X "reversed")(hm:X.mg "reversed"=none)(f:NK "reversed"=some (.type "reversed"))(ha:PA X [l] ta)(g:L9 [l] X.env=[(false,M3 l X.env)]:=by rfl):
  PI X tg (.Call (.Name "reversed" p) [l] [] pos) (KI X.K ta):=by
 intro pins s σ H R I h;refine Rw (eI I v hm f (Mq (bW (ha pos pins s σ H _ I h) λus s1 ⟨vs,H1,c,t,i⟩=>?_) g rfl));obtain⟨a,xs,d,n,q⟩:=i;subst d;obtain⟨u,d,m⟩:=vals1 t;subst d;obtain rfl:u=Kf a:=m;obtain⟨its,k,pl,w⟩:=c.list n;have hl:=k.length;refine Si pl.isList ?_;have j:Inv X pins σ H1 {s1 with heap:=s1.heap.push (Rz a ((its.toArray.size:Int)-1))}:=c.kept (t':=s1.toks) λb o e=>B0 _ e
 have st:Heap.IsRevIter (s1.heap.push (Rz a ((its.toArray.size:Int)-1))) s1.heap.objs.size a ((xs.length:Int)-1-((0:Nat):Int)):=by
  refine⟨_,Gc _ rfl,rfl,?_⟩;rw[B4,<-hl];simp[Rz]
 refine PH st ⟨s1.heap.objs.size,[s1.heap.objs.size],_,_,H1,rfl,j,Bh a _ xs.length,⟨L5 _,st⟩,λb r=>?_,q⟩
 have e:b=s1.heap.objs.size:=by simpa using r
 subst e;exact c.kz (B6 _) (c.hok.fresh (B6 _))
theorem EI{a:B3}{xs:List V}{g:TG}{tb:TS}{D:Ends}(b:Nat->St->Hp->Prop)(h0:b 0 σ H)(hl:∀i σ H,i<=xs.length->b i σ H->bg K H a xs)(j:∀i x σ H,i<xs.length->xs[xs.length-1-i]? =some x->b i σ H->g x σ H λd H2=>tb {D with nx:=b (i+1),ct:=b (i+1),bk:=D.nx} d H2)(hd:∀σ H,b xs.length σ H->D.nx σ H):
  ∃W:Nat->Nat->St->Hp->Prop,(∃m,W 0 m σ H)/\∀i m σ H,W i m σ H->
   ((rA K a xs.length).stop i H/\D.nx σ H)∨((rA K a xs.length).go i H/\∃N:St->Hp->Prop,(∀σ' H',N σ' H'->∃f,f<m/\W (i+1) f σ' H')/\∀x H',(rA K a xs.length).yld i H x H'->g x σ H' λd H2=>tb {D with nx:=N,ct:=N,bk:=D.nx} d H2):=by
 refine⟨λi m σ H=>m=xs.length-i/\i<=xs.length/\b i σ H,⟨xs.length,by simp,L5 _,h0⟩,?_⟩;rintro i m σ H ⟨rfl,hi,p⟩;have q:=hl i σ H hi p;by_cases c:i<xs.length
 ·have k:xs.length-1-i<xs.length:=by lia
  refine .inr ⟨⟨xs,xs[xs.length-1-i],q,rfl,c,by simp[k]⟩,b (i+1),λσ' H' l=>⟨xs.length-(i+1),by lia,rfl,c,l⟩,λx H' y=>?_⟩;obtain⟨h,y⟩:=y;subst h;exact j i x σ _ c (y xs q) p
 ·have e:i=xs.length:=by lia
  subst e;exact .inl ⟨B6 _,hd σ H p⟩
end L2
namespace PySem
variable{A:Of}{prog:MA}{s:FS}{w:MM}
namespace DT
section
variable{R:RC->FS->Prop}{I:B3}{fp wr:List B3}{n:Nat}{P:Nat->B5->Prop}{St:Nat->MP->Prop}
theorem yY(W:Walks prog w A.in1 I fp wr n P St)(z:Nat->Nat->Bool)(B:CmpOf prog w A.in1 .Gt P z)(Q:B5)(S:B3)(E:S∉fp):
  ∀(k j:Nat)(s:FS)(p:B5)(c:Nat),n-(j+1)=k->j+1<=n->St (j+1) s.heap->P (PZ z j) p->
  s.heap.get? S=some {cls:= .type "list",dict:=none,data:= .seq #[p,p] c,slots:=#[]}->
  (∀v h' tk,P (PZ z (n-1)) v->(∀b o,b∉wr->b≠S->s.heap.get? b=some o->h'.get? b=some o)->R (.ok (.ret v)) {s with heap:=h',toks:=tk})->
  Om (L0 prog w) A (.builtin "max.loop" ⟨[.ref I,.none,.ref S],[(MB "default",Q)]⟩) R s:=by
 have D:S∉wr:=λh=>E (W.sub _ h)
 have m:(toString "max"++toString ".loop":String)="max.loop":=by decide
 intro k
 induction k with
 |zero=>
  intro j s p c O T t q G H
  have C:j+1=n:=by lia
  refine Pr Pg ?_;rw[ON Nb _];show IR _ A.in1 (PY (.ref S) >>= _) _ _ s;refine B2 (MS G rfl ?_);show IR _ A.in1 (tryCatch (OS (.ref I)) _ >>= _) _ _ s;refine B2 (OQ (W.done s _ _ (C▸t) λh' tk d=>?_));have g:=d S _ D G;show IR _ A.in1 (Qw S (λ_=>#[]) >>= _) _ _ _;refine B2 ?_;refine Oj g rfl (B2 (Ox (KF ?_)));refine H p _ tk (by rw[<-C];exact q) λb o a f e=>(My _ _ (Da f)).trans (d b o a e)
 |succ k L=>
  intro j s p c O T t q G H
  have x:j+1<n:=by lia
  refine Pr Pg ?_;rw[ON Nb _];show IR _ A.in1 (PY (.ref S) >>= _) _ _ s;refine B2 (MS G rfl ?_);show IR _ A.in1 (tryCatch (OS (.ref I)) _ >>= _) _ _ s;refine B2 (OQ (W.item (j+1) s _ _ x t λv h' tk M r d=>?_));have g:=d S _ D G;show IR _ A.in1 (tryCatch (RA [v,v] (richCompare .Gt v p >>= _)) _ >>= _) _ _ _;refine B2 (OQ (NS (B2 (B (j+1) (PZ z j) v p _ _ _ M q ?_))));refine B2 (NS (MI ?_));refine B2 (Ox (KF ?_))
  cases N:z (j+1) (PZ z j)with
  |true=>
   simp only[if_true];refine B2 ?_;refine Oj g rfl (B2 (Ox ?_));rw[m]
   refine KF ⟨Og Nb _,L (j+1) _ v _ (by lia) x (W.frame _ _ _ r λb K o e=>?_) (by simp only[PZ,N,if_true];exact M) (M8 _ g rfl)
    λJ y i u l=>?_⟩
   ·exact(My _ _ (λh:S=b=>E (by rw[h];exact K))).trans e
   ·exact H J y i u λb o a f e=>l b o a f ((My _ _ (Da f)).trans (d b o a e))
  |false=>
   simp only[Qd,if_false];refine B2 (Ox ?_);rw[m];refine KF ⟨Og Nb _,L (j+1) _ p c (by lia) x r (by simp only[PZ,N,Qd,if_false];exact q) g λJ y i u l=>?_⟩;exact H J y i u λb o a f e=>l b o a f (d b o a e)
theorem vH(W:Walks prog w A.in1 I fp wr n P St)(y:Nat->Nat->Bool)(f:CmpOf prog w A.in1 .Gt P y)(z:B5)(S:B3)(a:S∉fp)(hn:0<n){c:Nat}(r:St 0 s.heap)(B:s.heap.get? S=some {cls:= .type "list",dict:=none,data:= .seq #[] c,slots:=#[]})(D:∀v h' tk,P (PZ y (n-1)) v->(∀b o,b∉wr->b≠S->s.heap.get? b=some o->h'.get? b=some o)->R (.ok (.ret v)) {s with heap:=h',toks:=tk}):
  Om (L0 prog w) A (.builtin "max.loop" ⟨[.ref I,.none,.ref S],[(MB "default",z)]⟩) R s:=by
 have u:S∉wr:=λh=>a (W.sub _ h)
 have d:(toString "max"++toString ".loop":String)="max.loop":=by decide
 refine Pr Pg ?_;rw[ON Nb _];show IR _ A.in1 (PY (.ref S) >>= _) _ _ s;refine B2 (MS B rfl ?_);show IR _ A.in1 (tryCatch (OS (.ref I)) _ >>= _) _ _ s;refine B2 (OQ (W.item 0 s _ _ hn r λv h' tk E g p=>?_));have j:=p S _ u B;show IR _ A.in1 (Qw S (λ_=>#[v,v]) >>= _) _ _ _;refine B2 ?_;refine Oj j rfl ?_;rw[d];refine KF ⟨Og Nb _,yY W y f z S a _ 0 _ v _ rfl hn (W.frame _ _ _ g λb t o e=>?_) E (M8 _ j rfl) λC x i q l=>?_⟩
 ·exact(My _ _ (λh:S=b=>a (by rw[h];exact t))).trans e
 ·exact D C x i q λb o m k e=>l b o m k ((My _ _ (Da k)).trans (p b o m e))
end
theorem yf(a b:B5):argsOk "max" ⟨[a],[(MB "default",b)]⟩:=by unfold argsOk;kernel_rfl
section
variable{E:B5->FS->Prop}{l:B3}
theorem pA{xs:Array (Int×Tok)}{d:B5}{Q:B5->FS->Prop}(z:A.handled=none)(hl:s.heap.IsList l (QW xs))(h0:xs.size=0->∀h' tk,(∀b o,s.heap.get? b=some o->h'.get? b=some o)->Q d {s with heap:=h',toks:=tk})(h:∀v h' tk,0<xs.size->(QW xs)[PZ (λi j=>decide (numAt xs i>numAt xs j)) (xs.size-1)]? =some v->(∀b o,s.heap.get? b=some o->h'.get? b=some o)->Q v {s with heap:=h',toks:=tk}):
  IR (L0 prog w) A (call (.builtin "max") [.ref l] [(MB "default",d)]) Q E s:=by
 have c:(toString "max"++toString ".loop":String)="max.loop":=by decide
 refine PyProof.Rows.kmk_tree PySem.F.kind_max PySem.F.plain_max PySem.F.entry_max (yf _ _) ?_;show IR _ A.in1 (QU "max" ["key","default"] 0 ⟨[],[(MB "default",d)]⟩ >>= _) _ _ s;refine B2 (wpAny_of_eq (show QU "max" ["key","default"] 0 ⟨[],[(MB "default",d)]⟩=pure [none,some d]from rfl) ?_);refine B2 (KF ?_);refine B2 (iter_intList hl λy e st q m=>?_);subst e;refine B2 (OY ?_);have n:(s.heap.push {cls:= .type "list_iterator",data:= .fields #[.ref l,.int 0 0]}).objs.size∉[s.heap.objs.size,l]:=λhm=>Nc _ (q _ hm);rw[c];have W:=Walks.list (prog:=prog) (w:=w) (A:=A.in1) z s.heap.objs.size l m (QW xs)
 have a:(QW xs).size=xs.size:=by simp[QW]
 generalize C:s.heap.push {cls:= .type "list_iterator",data:= .fields #[.ref l,.int 0 0]}=g at *
 have p:∀b o,s.heap.get? b=some o->g.get? b=some o:=λb o e=>by rw[<-C];exact B0 _ e
 have f:=W.frame 0 g (g.push {cls:= .type "list",data:= .seq ([]:List B5).toArray}) st λb _ o e=>B0 _ e;have k:(g.push {cls:= .type "list",data:= .seq ([]:List B5).toArray}).get? g.objs.size=some {cls:= .type "list",dict:=none,data:= .seq #[] 0,slots:=#[]}:=Gc _ rfl
 have x:∀b o,s.heap.get? b=some o->b∉[s.heap.objs.size]:=λb o e hm=>by
  rw[List.mem_singleton.mp hm]at e;exact absurd (De e) (Nc _)
 rcases Nat.eq_zero_or_pos xs.size with u|hp
 ·refine KF ⟨Og Nb _,Pr Pg ?_⟩;rw[ON Nb _];show IR _ _ (PY (.ref g.objs.size) >>= _) _ _ _;refine B2 (MS k rfl ?_);show IR _ _ (tryCatch (OS (.ref s.heap.objs.size)) _ >>= _) _ _ _;rw[a,u]at W;refine B2 (OQ (W.done {s with heap:=g.push {cls:= .type "list",data:= .seq ([]:List B5).toArray}} _ _ f λh' tk r=>?_));refine B2 (Ph (KF ?_));exact h0 u h' tk λb o e=>r b o (x b o e) (B0 _ (p b o e))
 ·refine KF ⟨Og Nb _,vH (s:={s with heap:=g.push {cls:= .type "list",data:= .seq ([]:List B5).toArray}}) W _ (CmpOf.ints_gt (numAt xs) (λ_ _=>intItems_at)) d g.objs.size n (by rw[a];exact hp) f k λv h' tk t B=>?_⟩;rw[a]at t;exact h v h' tk hp t λb o e=>B b o (x b o e) (LV (De (p b o e))) (B0 _ (p b o e))
end
end DT
end PySem
namespace L2
open PySem PySem.Spec PyProof.Rows
variable{X:Cx}
def EN(K:mo):List V->List V->Hp->VK->Prop:=λxs ws H Q=>∃(p:B3)(ns:List Int)(d:Int),xs=[.ref p]/\ws=[.int d]/\bg K H p (ns.map V.int)/\∀M:Int,(ns=[]->M=d)->(ns≠[]->M∈ns/\∀b∈ns,b<=M)->Q (.int M) H
theorem yi{pins:List (B3×Obj)}{σ:St}(L:X.calm=true){s:FS}{H:Hp}{xs ws:List V}{us ks:List B5}{Q:VK}(I:Inv X pins σ H s)(r:Vals xs us)(E:Vals ws ks)(h:EN X.K xs ws H Q):
  IR (L0 X.prog X.w) X.A (call (.builtin "max") us ([MB "default"].zip ks)) (EP X pins σ Q) X.xe s:=by
 obtain⟨p,ns,d,n,c,y,q⟩:=h;subst n c;obtain⟨u,c,J⟩:=vals1 r;subst c;obtain rfl:u=Kf p:=J;obtain⟨v,c,g⟩:=vals1 E;subst c;obtain⟨B,rfl⟩:=g;obtain⟨its,F,pl,D⟩:=I.list y;have i:=intsAre_of F;obtain⟨zs,m⟩:=i.allInts.items
 have e:ns=zs.toList.map (·.1):=by rw[<-i.numsOf,<-nums_intItems,<-m]
 have k:=pl.isList;rw[m]at k
 have a:ns.length=zs.size:=by rw[e,be,LY]
 refine PySem.DT.pA (I.ok.hd L) k (λD h' tk f=>?_) λv h' tk M o f=>?_
 ·exact⟨.int d,H,I.kept f,⟨B,rfl⟩,q d (λ_=>rfl) λz=>absurd (Mf (by lia)) z⟩
 obtain⟨t,G⟩:=intItems_at o;subst G;obtain⟨g1,g2⟩:=argBest_gt (numAt zs) (zs.size-1);refine⟨.int _,H,I.kept f,⟨t,rfl⟩,q _ (λz=>?_) λ_=>⟨?_,λb l=>?_⟩⟩
 ·rw[z]at a;simp at a
  lia
 ·rw[e,numAt_eq];exact getD_mem (by rw[be,LY];lia)
 ·rw[e]at l;obtain⟨j,C,x⟩:=mem_getD l;subst x;rw[be,LY]at C;rw[<-numAt_eq];exact g2 j (by lia)
def JL(K:mo)(ta tk:TA):TE:=λσ H Q=>ta σ H λvs H1=>tk σ H1 λws H2=>EN K vs ws H2 Q
theorem EG{l:Expr}{kws:List O2}{ta tk:TA}{p pos:Pos}(f:X.calm=true)(e:Gl X "max")(hm:X.mg "max"=none)(ha:PA X [l] ta)(k:PK X kws tk)(c:(NQ pos (M6 kws X.env)).filterMap (·.1)=[MB "default"]:=by rfl)(he:NC pos (L9 [l] X.env)=(false,M3 l X.env)::NC pos (L9 [] X.env):=by rfl)(b:(NC pos (L9 [l] X.env)).any (·.1)=false:=by rfl)(a:(NQ pos (M6 kws X.env)).all (·.1.isSome)=true:=by rfl)(d:(NQ pos (M6 kws X.env)).any (·.1.isNone)=false:=by rfl):
  PE X (.Call (.Name "max" p) [l] kws pos) (JL X.K ta tk):=by
 intro pins s σ H Q I h;refine Ot (eI I e hm RX (rV (bW (ha pos pins s σ H _ I h) λus s1 ⟨vs,H1,i,n,m⟩=>bW (k pos pins s1 σ H1 _ i m) λks s2 ⟨ws,H2,g,j,o⟩=>?_) he b a d));rw[c];exact yi f g n j o
theorem yy:dB X (.builtin "len") (λxs H Q=>∃(a:B3)(kvs:List (Key×V)),xs=[.ref a]/\Rd H a (.dK kvs)/\Q (.int kvs.length) H):=by
 intro pins s σ H xs us Q I r h;obtain⟨a,kvs,e,d,q⟩:=h;subst e;obtain⟨u,c,f⟩:=vals1 r;subst c;obtain rfl:u=Kf a:=f;obtain⟨z,ha,vs,b,dd⟩:=iG I.hok d;have hl:=iU;have i:sizeLine=16777216:=NY;have g:=b.length;refine call_len_dict ha dd (by lia) ?_;rw[<-g];exact⟨.int _,H,I.tok _,⟨_,rfl⟩,q⟩
open PySem.W
def gT(z:Str)(lo hi:Option Int):Str:=if(Mj lo hi 1 z.length).length==z.length then z else⟨((Mj lo hi 1 z.length).filterMap (z.cps[·]?)).toArray⟩
theorem pH(z:Str)(lo hi:Option Int):(gT z lo hi).length<=z.length:=by
 unfold gT
 split
 ·exact B6 _
 ·show((Mj lo hi 1 z.length).filterMap (z.cps[·]?)).toArray.size<=_;rw[B4];exact Mu (Rj _ _) (sliceIndices_le _ _ _)
def Ku:V->Option Int->Option Int->Hp->VK->Prop:=λx lo hi H Q=>∃z,x= .str z/\z.length<=sizeLine/\Q (.str (gT z lo hi)) H
theorem v_:Kg X Ku:=by
 intro pins s σ H x v y A lo hi sl Q I j e pl d h;obtain⟨z,b,m,q⟩:=h;subst b;obtain⟨t,f⟩:=(show∃t,v=MU z t from j);subst f;refine⟨"str",_,F.slot_str_getitem.lookup,Ou s z t,?_⟩
 have a:∀{v:B5}{o:Option Int},IsPart v o->∃l:Option (Int×Tok),v=partValue l/\l.map (·.1)=o:=λ{v o} p=>by
  cases p with
  |none=>exact⟨none,rfl,rfl⟩
  |int i t=>exact⟨some (i,t),rfl,rfl⟩
 obtain⟨l,r,k⟩:=a pl;obtain⟨u,n,g⟩:=a d;subst r n;refine wpAny_getItem_str_slice (l:=l) (u:=u) (st:=none) e rfl ?_;have le:=pH z lo hi
 have ep:slicePicked z l u none=Mj lo hi 1 z.length:=by unfold slicePicked;rw[k,g];rfl
 unfold sliceMade;rw[ep];unfold gT at q le;by_cases c:((Mj lo hi 1 z.length).length==z.length)=true
 ·rw[if_pos (by rw[c];rfl)];rw[if_pos c]at q;exact⟨.str z,H,I,⟨t,rfl⟩,q⟩
 ·rw[if_neg (by intro w;exact c (by simpa using w))];rw[if_neg c]at q le;exact⟨Mu le m,.str _,H,I.tok _,⟨_,rfl⟩,q⟩
theorem pE(x:Array Nat):∀(n:Nat)(a:Array Nat),((Mo n x).foldl (·++·) a).size=a.size+n*x.size
 |0,a=>by simp
 |n+1,a=>by
  rw[P0,Pv,pE x n,Array.size_append,Ql]
  lia
def lU(z:Str)(n:Nat):Str:=⟨(Mo n z.cps).foldl (·++·) #[]⟩
theorem jx(z:Str)(n:Nat):(lU z n).length=n*z.length:=by
 show((Mo n z.cps).foldl (·++·) #[]).size=_;rw[pE];show 0+_=_;rw[Qk];rfl
def HE:R2:=λx y H Q=>∃(z:Str)(n:Nat),x= .str z/\y= .int n/\n<=1000/\1<=z.length/\z.length<=1000/\Q (.str (lU z n)) H
theorem wQ:hV X (NH .Mult) HE:=by
 intro pins s σ H x y v u Q I g i h;obtain⟨z,n,b,d,h2,h0,f,k⟩:=h;subst b d;obtain⟨t,rfl⟩:=g;obtain⟨r,rfl⟩:=i;have hm:z.length*n<=1000*1000:=PM f h2
 have a:((n:Int)).toNat=n:=by lia
 refine P.mul_str ?_ (λp _=>?_) (λ_ _=>?_) ?_
 ·have j:¬(n:Int)< -(2^63:Int):=by lia
  have o:¬(n:Int)≥2^63:=by lia
  rw[decide_eq_false j,decide_eq_false o];rfl
 ·have q:(9223372036854775:Int)<=(2^63-1)/(n:Int):=by
   rw[Int.le_ediv_iff_mul_le (by lia)]
   lia
  lia
 ·rw[a];show decide (z.length*n>sizeLine)=false;exact decide_eq_false (by rw[NY];lia)
 ·by_cases c0:(n:Int)<1
  ·rw[if_pos c0]
   have :n=0:=by lia
   subst this;exact⟨by decide,.str _,H,I.tok _,⟨_,rfl⟩,k⟩
  ·rw[if_neg c0];by_cases c:((n:Int)==1||z.length==0)=true
   ·rw[if_pos c];rw[Px]at c
    rcases c with c|c
    ·have :(n:Int)=1:=by simpa using c
     have :n=1:=by lia
     subst this;refine⟨.str z,H,I,⟨t,rfl⟩,?_⟩
     have e:lU z 1=z:=by
      show(⟨#[]++z.cps⟩:Str)=z;rw[Array.empty_append]
     rw[e]at k;exact k
    ·have :z.length=0:=by simpa using c
     lia
   ·rw[if_neg c,a];refine⟨?_,.str _,H,I.tok _,⟨_,rfl⟩,k⟩;show(List.foldl (λm l=>m++l) #[] (Mo n z.cps)).size<=_;rw[pE];show 0+n*z.cps.size<=sizeLine;have e:z.cps.size*n<=1000*1000:=hm;rw[NY,Nat.mul_comm]
    lia
end L2
namespace L2
open PySem PySem.Spec PyProof.Rows
theorem tuple_addW0(l b:B3)(a c:Array B5)(n j:Nat)(dd e:Option B3)(sl f:Array (Option B5))(i:a.isEmpty=true):
  Meets (Builtin.«tuple.__add__» ⟨[.ref l,.ref b],[]⟩) (λ_ R s=>s.heap.get? l=some {cls:= .type "tuple",dict:=dd,data:= .seq a n,slots:=sl}/\s.heap.get? b=some {cls:= .type "tuple",dict:=e,data:= .seq c j,slots:=f}/\R (.ok (.ret (Kf b))) {s with heap:=s.heap,toks:=s.toks}):=
 .of_wp λprog w A R s h=>by obtain⟨m,g,d,tk,os⟩:=s;obtain⟨hl,k,h⟩:=h;have f1:=AutoSeq1.idx_int;have f2:=AutoSeq1.sub_tuple_tuple;have f3:=AutoSeq1.sub_list_list;have f4:=AutoSeq1.sub_tuple_list;have f5:=AutoSeq1.sub_list_tuple;wp_walk using Ol hl,Ol k;exact⟨_,rfl,h⟩
variable{X:Cx}
def Hg(K:mo):R2:=λx y H Q=>∃a b ys,x= .ref a/\y= .ref b/\aT K H a []/\aT K H b ys/\Q (.ref b) H
theorem zH:hV X (NH .Add) (Hg X.K):=by
 intro pins s σ H x y v u Q I o p h;obtain⟨a,b,ys,rfl,rfl,ha,w,q⟩:=h
 cases o
 cases p
 obtain⟨its,z,t,_⟩:=I.tuple ha;obtain⟨m,B,p2,_⟩:=I.tuple w
 cases z
 obtain⟨⟨A,dd,data,sl⟩,k,j,n,hd⟩:=id t;obtain⟨⟨l,g,i,f⟩,c,d,r,e⟩:=id p2;simp only at j hd d e;subst j hd d e
 exact RB ⟨_,k,rfl⟩ ⟨_,c,rfl⟩ Qx Rg Pk Pe (O8 _ _)
   (tuple_addW0 a b _ _ n r dd g sl f rfl) ⟨k,c,⟨.ref b,H,I,rfl,q⟩⟩
def E8(K:mo):R2:=λx y H Q=>∃a b xs ys,x= .ref a/\y= .ref b/\aT K H a xs/\aT K H b ys/\xs.length+ys.length<=sizeLine/\(xs=[]->Q (.ref b) H)/\(xs≠[]->ys=[]->Q (.ref a) H)/\(∀p,H p=none->Q (.ref p) (upd H p (.tup (xs++ys))))
theorem CF:hV X (NH .Add) (E8 X.K):=by
 intro pins s σ H x y v u Q I c d h;obtain⟨a,b,xs,ys,rfl,rfl,ha,f,g,i,j,k⟩:=h;by_cases e:xs=[]
 ·subst e;exact zH pins s σ H _ _ v u Q I c d ⟨a,b,ys,rfl,rfl,ha,f,i rfl⟩
 ·exact wH pins s σ H _ _ v u Q I c d ⟨a,b,xs,ys,rfl,rfl,ha,f,e,g,j e,λ_=>k⟩
open PySem.W
def HD(kvs:List (Key×V)):It:=
 ⟨λi _=>i<kvs.length,λi H x H'=>∃p k v,x= .ref p/\H p=none/\kvs[i]? =some (k,v)/\H'=upd H p (.tup [kV k,v]),λi _=>kvs.length<=i⟩
variable{K:mo}{P:MA}{a:B3}{ep kk:Nat}{es:List Expr}{kvs:List (Key×V)}{w:MM}
theorem tO{pt:Pos}{it:B3}{o:Obj}{vs:List (Key×B5)}(M:K.lookup a=some o)(j:KV kvs vs)(da:∀h:MP,h.get? a=some o->h.DictAt (bb P w) a vs ep):
  Turn P w K (.Tuple es kk pt) (HD kvs) [it] it (λi h=>∃ok d,IsItemIter h it a i vs.length ep ok d) where
 mem:=by simp
 obj:=λi h st c t=>by
  obtain⟨ok,d,st⟩:=st
  cases(List.mem_singleton.mp t)
  exact⟨_,st,λv q=>by cases q⟩
 keep:=λi h h' st kk=>by
  obtain⟨ok,d,st⟩:=st;exact⟨ok,d,kk it (by simp) _ st⟩
 item:=by
  intro X C G u t i pins s σ H E I r st D;subst C G u;obtain⟨ok,d,st⟩:=st;have hi:i<kvs.length:=D;obtain⟨⟨k,x⟩,hx⟩:∃p,kvs[i]? =some p:=⟨kvs[i],by simp[hi]⟩;obtain⟨v,O,R⟩:=Kt j hx;have B:=I.ku a o M;refine wpAny_pyNext_items_item st (da _ B) O λm h' l n f N kp=>⟨_,rfl,?_⟩;refine wpAny_letOwnedTupleGo_items n λg2 g L=>?_;have J:it<s.heap.objs.size:=De st;have nT:H s.heap.objs.size=none:=I.fresh;have y:g2.get? s.heap.objs.size=some {cls:= .type "tuple",data:= .seq #[m,v]}:=(L.2 _ (Nz J)).trans f
  have Q:Inv X pins σ (upd H s.heap.objs.size (.tup [kV k,x])) {s with heap:=g2,toks:=s.toks}:=by
   refine I.iw (t':=s.toks) (ch:=[it]) (λc o e q=>?_) r (B6 _) ⟨?_,[m,v],.cons (EM l) (.cons R .nil),⟨_,y,rfl,0,rfl⟩⟩
   ·have b:c≠it:=λz=>e (by simp[z]);exact(L.2 c b).trans (kp c o b q)
   ·show 2<=sizeLine;decide
  refine⟨.ref s.heap.objs.size,_,Q,rfl,⟨_,k,x,rfl,nT,hx,rfl⟩,⟨_,_,g⟩,λc e=>?_⟩;have b:=(r c e).1
  cases(List.mem_singleton.mp e)
  rw[ak (LV J)];exact b
 done:=by
  intro X C G u t i pins s σ H E I r st D;subst C G u;obtain⟨ok,d,st⟩:=st;have hi:kvs.length<=i:=D;have B:=I.ku a o M;have S:=j.length;refine wpAny_pyNext_items_end (I.ok.hd t) st (da _ B) (List.getElem?_eq_none_iff.mpr (by lia)) λh' kp=>⟨rfl,I.pD (t':=s.toks) (ch:=[it]) (λc o e q=>?_) r⟩;exact kp c o (λz=>e (by simp[z])) q
 self:=λ_ _ _ _ _ st h=>by
  obtain⟨ok,d,st⟩:=st;have A:Shared.TypeIs _ (.ref it) "dict_itemiterator":=⟨_,st,rfl⟩;refine wpAny_pyIter_slot A P6 (Oc P6 A mS ?_ (PySem.F.args_dict_itemiterator_iter_1 _));show IR _ _ (ret (.ref it)) _ _ _;exact KF ⟨_,rfl,"dict_itemiterator",_,A,PySem.F.slot_dict_itemiterator_next.lookup,h⟩
structure sm(P:MA)(w:MM)(K:mo)(a:B3)(kvs:List (Key×V)):Prop where
 is:∃(o:Obj)(vs:List (Key×B5))(ep:Nat),K.lookup a=some o/\KV kvs vs/\(∀h:MP,h.get? a=some o->h.DictAt (bb P w) a vs ep)
 ns:(a==Ni)=false
def Df(a:B3)(kvs:List (Key×V))(td:TE):TI:=λσ H R=>td σ H λx H1=>x= .ref a/\R (HD kvs) H1
section
variable{o:Expr}{pt:Pos}{apos cpos:Pos}{td:TE}
theorem xJ(n:sm X.prog X.w X.K a kvs)(r:PE X o td)(l:Oh o "items" X.env (M3 o X.env)=M3 o X.env:=by rfl)(hl:(apos.endLine==cpos.line)=true:=by rfl):
  PI X (.Tuple es kk pt) (.Call (.Attribute o "items" apos) [] [] cpos) (Df a kvs td):=by
 intro pins s σ H R I h;refine Sz l rfl hl Nh Rp PySem.F.type_dict_items (bW (r pins s σ H _ I h) λu s1 k=>?_);obtain⟨x,H1,g,t,ex,v⟩:=k;subst ex;obtain rfl:u=Kf a:=t;obtain⟨i,vs,ep,p,j,f⟩:=n.is;have c:=g.ku a i p;have da:=f _ c
 have y:∀b,Kf a= .ref b->∃i,s1.heap.get? b=some i/\i.dict=none:=λb q=>by
  cases q
  obtain⟨m,_,h1,h2,_⟩:=da;exact⟨m,h1,h2.2.1⟩
 refine⟨da.dictOf.typeIs,y,?_⟩;refine OC rfl (PyProof.Rows.evalArgs_empty ?_);refine Oy Rp da.dictOf.typeIs PySem.F.entry_dict_items (PySem.F.args_dict_items_1 _) (meets_dict_items (bb X.prog X.w) a n.ns) ⟨⟨vs,da.dictOf⟩,?_⟩;refine wpAny_pyIter_items (knd:=bb X.prog X.w) (d:=a) (kvs:=vs) (ep:=ep) ⟨_,Gc _ rfl,rfl,rfl⟩ (da.push _) ?_;have z:a<s1.heap.objs.size:=De c;refine⟨_,[_],_,_,_,rfl,g.kept (t':=s1.toks) λb o e=>B0 _ (B0 _ e),tO (ep:=ep) p j f,⟨_,_,Gc _ rfl⟩,λb l=>?_,v⟩
 cases(List.mem_singleton.mp l)
 exact g.kz (by rw[size_push'];exact Jq) (g.hok.fresh (by rw[size_push'];exact Jq))
end
theorem ux{g:TG}{tb:TS}{D:Ends}{σ:St}{H:Hp}(c:Nat->St->Hp->Prop)(h0:c 0 σ H)(j:∀(i:Nat)(k:Key)(v:V)(p:B3)(σ:St)(H:Hp),kvs[i]? =some (k,v)->H p=none->c i σ H->g (.ref p) σ (upd H p (.tup [kV k,v])) λa H2=>tb {D with nx:=c (i+1),ct:=c (i+1),bk:=D.nx} a H2)(hd:∀σ H,c kvs.length σ H->D.nx σ H):
  ∃W:Nat->Nat->St->Hp->Prop,(∃m,W 0 m σ H)/\∀i m σ H,W i m σ H->
   ((HD kvs).stop i H/\D.nx σ H)∨((HD kvs).go i H/\∃N:St->Hp->Prop,(∀σ' H',N σ' H'->∃f,f<m/\W (i+1) f σ' H')/\∀x H',(HD kvs).yld i H x H'->g x σ H' λa H2=>tb {D with nx:=N,ct:=N,bk:=D.nx} a H2):=by
 refine⟨λi m σ H=>m=kvs.length-i/\i<=kvs.length/\c i σ H,⟨kvs.length,by simp,L5 _,h0⟩,?_⟩;rintro i m σ H ⟨rfl,hi,p⟩;by_cases d:i<kvs.length
 ·refine .inr ⟨d,c (i+1),λσ' H' o=>⟨kvs.length-(i+1),by lia,rfl,d,o⟩,λx H' y=>?_⟩;obtain⟨b,k,v,h,hn,n,l⟩:=y;subst h l;exact j i k v b σ H n hn p
 ·have e:i=kvs.length:=by lia
  subst e;exact .inl ⟨B6 _,hd σ H p⟩
theorem BX{es:List QB}{ps:List (Str×Str)}(n:K.lookup a=some {cls:= .type "dict",data:= .dict es.toArray ep})(he:Paired (λ(p:Str×Str) (e:QB)=>e.hash=Mn w.params p.1/\(∃t,e.key= .str p.1 t)/\∃t,e.val= .str p.2 t) ps es)(hn:(ps.map (·.1)).Nodup)(l:(a==Ni)=false):
  sm P w K a (ps.map λp=>(Mp p.1,V.str p.2)):=by
 have key:∀{ps:List (Str×Str)}{es:List QB},Paired (λ(p:Str×Str) (e:QB)=>e.hash=Mn w.params p.1/\(∃t,e.key= .str p.1 t)/\∃t,e.val= .str p.2 t) ps es->
   ∃vs:List (Key×B5),KV (ps.map λp=>(Mp p.1,V.str p.2)) vs/\vs.map (·.1)=ps.map (λp=>(Mp p.1:Key))/\Pairs (bb P w) es vs/\∀e∈es,∃k,(bb P w).is k e.key=true/\e.hash=(bb P w).hash k:=λ{ps es} h=>by
  induction h with
  |nil=>exact⟨[],.nil,rfl,.nil,λe he=>nomatch he⟩
  | @cons p e ps es r t j=>
   obtain⟨vs,h1,h2,g,d⟩:=j;obtain⟨i,⟨tk,rk⟩,tv,m⟩:=r
   have hi:(bb P w).is (Mp p.1) e.key=true:=by
    rw[rk];show P5 p.1 (.str p.1 tk)=true;simp[P5]
   refine⟨(Mp p.1,e.val)::vs,.cons ⟨rfl,⟨tv,m⟩⟩ h1,by rw[Mc,Mc,h2],.cons hi rfl g,λf c=>?_⟩
   rcases List.mem_cons.mp c with z|z
   ·rw[z];refine⟨Mp p.1,hi,?_⟩;rw[i];rfl
   ·exact d f z
 obtain⟨vs,h1,h2,g,d⟩:=key he;refine⟨⟨_,vs,ep,n,h1,λh e=>⟨_,es.toArray,e,⟨rfl,rfl,rfl⟩,rfl,λf c=>d f (by simpa using c),by simpa using g,?_⟩⟩,l⟩;rw[h2,show ps.map (λp=>(Mp p.1:Key))=(ps.map (·.1)).map Mp by rw[Mm];rfl];exact List.Pairwise.map _ (λa b h e=>h (OZ e)) hn
end L2
namespace L2
open PySem PySem.Spec PyProof.Rows S2
def gK(kvs ps:List (Key×V)):List (Key×V):=ps.foldl (λa p=>putK a p.1 p.2) kvs
theorem tX(ps:List (Key×V)):∀kvs,(gK kvs ps).length<=kvs.length+ps.length:=by
 induction ps with
 |nil=>intro kvs;exact B6 _
 |cons p r a=>
  intro kvs;have h1:=a (putK kvs p.1 p.2);have h2:=dA kvs p.1 p.2;show(gK (putK kvs p.1 p.2) r).length<=_;rw[B8]
  lia
variable{X:Cx}
theorem x_{more:List (Key×V)}{us:List (Key×B5)}(r:KV more us):∀{kvs:List (Key×V)}{vs:List (Key×B5)},KV kvs vs->KV (gK kvs more) (merged vs us):=by
 induction r with
 |nil=>intro kvs vs h;exact h
 | @cons p q l1 l2 h t b=>
  intro kvs vs a;show KV (gK (putK kvs p.1 p.2) l1) (merged (stored vs q.1 q.2) l2);rw[<-h.1];exact b (a.put p.1 h.2)
inductive Fy(x:V)(vs:List V)(H:Hp)(Q:VK):Prop
 |mk (d o:B3) (kvs more:List (Key×V)) (c0:x= .ref d) (c1:vs=[.ref o]) (c2:d≠o) (c3:H d=some (.dK kvs)) (c4:Rd H o (.dK more)) (c5:kvs.length+more.length<=sizeLine) (c6:Q .non (upd H d (.dK (gK kvs more))))
def HM:V->List V->Hp->VK->Prop:=λx vs H Q=>Fy x vs H Q
theorem mq:zl X "dict.update" HM:=by
 intro pins s σ H x vs v us Q I m p h;obtain⟨d,o,kvs,more,rfl,rfl,i,hd,l,j,q⟩:=h
 cases m
 obtain⟨u,rfl,t⟩:=p.one;obtain rfl:u=Kf o:=t;obtain⟨z,e,xs,c,dd⟩:=iG I.hok (.inl hd);obtain⟨B,g,ys,a,f⟩:=iG I.hok l;have A:=O9 c;have C:=O9 a;refine Oy O7 dd.typeIs PySem.F.entry_dict_update (PySem.F.args_dict_update_2 _ _) (meets_dict_update (bb X.prog X.w) d o i g) ⟨xs,ys,dd,f,by lia,λh' b _ k=>?_⟩
 have hl:(gK kvs more).length<=sizeLine:=by have :=tX more kvs;lia
 obtain⟨y,es,ep,r,rest⟩:=id b;have n:Inv X pins σ (upd H d (.dK (gK kvs more))) {s with heap:=h'}:=il I (by rw[hd];exact MO) k ⟨y,r⟩ ⟨hl,e,_,x_ a c,b⟩;exact⟨.non,_,n,rfl,q⟩
open PySem.Builtin PySem.Builtin.Str
theorem gH:∀l:List (MD×Tok),Vals ((l.map (·.1)).map V.str) (SN l)
 |[]=> .nil
 |p::l=> .cons ⟨p.2,rfl⟩ (gH l)
def Cm:V->List V->Hp->VK->Prop:=λx vs H Q=>∃z y,x= .str z/\vs=[.str y]/\(y.length==0)=false/\z.length+2<=sizeLine/\∀l,H l=none->Q (.ref l) (upd H l (.lst ((MV z y).map V.str)))
theorem gD:zl X "str.split" Cm:=by
 intro pins s σ H x vs v us Q I n r h;obtain⟨z,y,f,i,g,d,q⟩:=h;subst f i;obtain⟨t,m⟩:=(show∃t,v=MU z t from n);subst m;obtain⟨j,A,B⟩:=r.one;obtain⟨u,p⟩:=(show∃t,j=MU y t from B);subst A p
 have a:∀(l:List (MD×Tok))(k:Nat),l.map (·.1)=MV z y->EP X pins σ Q (.ref s.heap.objs.size) {s with heap:=s.heap.push {cls:= .type "list",data:= .seq (SN l).toArray},toks:=k}:=λl k e=>by
  have hl:((MV z y).map V.str).length<=sizeLine:=by
   rw[be];exact Mu (split_le z y) d
  refine⟨.ref s.heap.objs.size,_,I.laid (t':=k) (λb o e=>B0 _ e) (B6 _) (show cv X.prog X.w _ _ _ (.lst ((MV z y).map V.str))from⟨hl,SN l,0,?_,Gc _ rfl⟩),rfl,q _ (I.hok.fresh (B6 _))⟩;rw[<-e];exact gH l
 have hn:(partsBetween z (occurrences z y 0 z.length (z.length+1)) y.length).length<=sizeLine:=by
  have f:=StrLaws.occ_length_le z y 0 z.length (z.length+1);rw[length_partsBetween];lia
 cases h1:(decide (z.length<y.length)||decide (strKind z<strKind y))
 ·cases c:(occurrences z y 0 z.length (z.length+1)).isEmpty
  ·refine Ov NN (Ou _ _ _) Qu (Qb _ _) (meets_str_split_sep z y t u h1 g c (by lia) hn) ?_;show wants _ _ _ {s with toks:=_,heap:=s.heap.push {cls:= .type "list",data:= .seq (strsFrom s.toks (partsBetween z (occurrences z y 0 z.length (z.length+1)) y.length)).toArray}};rw[strsFrom_eq];exact a (numbered s.toks _) _ ((numbered_texts _ _).trans ((if_neg (ne_true_of_eq_false h1)).trans (if_neg (ne_true_of_eq_false c))).symm)
  ·exact Ov NN (Ou _ _ _) Qu (Qb _ _) (meets_str_split_not_found z y t u h1 g c) (a [(z,t)] s.toks ((if_neg (ne_true_of_eq_false h1)).trans (if_pos c)).symm)
 ·exact Ov NN (Ou _ _ _) Qu (Qb _ _) (meets_str_split_cannot_occur z y t u h1) (a [(z,t)] s.toks (if_pos h1).symm)
def parted(z y:MD):List MD:=match occurrences z y 0 z.length 1 with
 |i::_=>[strSub z 0 i,y,strSub z (i+y.length) z.length]
 |[]=>[z,Pc,Pc]
def Dv:V->List V->Hp->VK->Prop:=λx vs H Q=>∃z y,x= .str z/\vs=[.str y]/\(y.length==0)=false/\z.length<=sizeLine/\∀l,H l=none->Q (.ref l) (upd H l (.tup ((parted z y).map V.str)))
theorem jC:zl X "str.partition" Dv:=by
 intro pins s σ H x vs v us Q I m A h;obtain⟨z,y,f,g,n,c,q⟩:=h;subst f g;obtain⟨t,l⟩:=(show∃t,v=MU z t from m);subst l;obtain⟨j,B,C⟩:=A.one;obtain⟨u,p⟩:=(show∃t,j=MU y t from C);subst B p
 have hl:((parted z y).map V.str).length<=sizeLine:=by
  have :(parted z y).length=3:=by unfold parted;split<;>rfl
  rw[be,this];decide
 have a:∀(its:List B5)(k:Nat),Vals ((parted z y).map V.str) its->EP X pins σ Q (.ref s.heap.objs.size) {s with toks:=k,heap:=s.heap.push {cls:= .type "tuple",data:= .seq its.toArray}}:=λits k r=>
  ⟨.ref s.heap.objs.size,_,I.laid (t':=k) (λb o e=>B0 _ e) (B6 _) (show cv X.prog X.w _ _ _ (.tup ((parted z y).map V.str))from⟨hl,its,r,SY _ _⟩),rfl,q _ (I.hok.fresh (B6 _))⟩
 refine Ov F.slot_str_partition (Ou _ _ _) F.entry_str_partition (F.args_str_partition_2 _ _) (meets_str_partition z y t u n c) ?_;unfold parted at a
 cases d:occurrences z y 0 z.length 1 with
 |nil=>
  rw[d]at a;exact a _ _ (.cons ⟨_,rfl⟩ (.cons ⟨_,rfl⟩ (.cons ⟨_,rfl⟩ .nil)))
 |cons i r=>
  rw[d]at a;exact a _ _ (.cons ⟨_,rfl⟩ (.cons ⟨_,rfl⟩ (.cons ⟨_,rfl⟩ .nil)))
def eS(z y:MD):MD:=if Rm y.cps.contains true false z then z else stripped y.cps.contains true false z
def C6:V->List V->Hp->VK->Prop:=λx vs H Q=>∃z y,x= .str z/\vs=[.str y]/\(eS z y).length<=sizeLine/\Q (.str (eS z y)) H
theorem zc:zl X "str.lstrip" C6:=by
 intro pins s σ H x vs v us Q I j g h;obtain⟨z,y,c,d,a,q⟩:=h;subst c d;obtain⟨t,i⟩:=(show∃t,v=MU z t from j);subst i;obtain⟨e,k,l⟩:=g.one;obtain⟨u,f⟩:=(show∃t,e=MU y t from l);subst k f;refine Ov F.slot_str_lstrip (Ou _ _ _) F.entry_str_lstrip (F.args_str_lstrip_2 _ _) (gives_str_lstrip_chars z y t u).meets ?_;unfold eS at q a
 cases b:Rm y.cps.contains true false z with
 |true=>
  rw[b]at q a;exact⟨.str z,H,I,⟨_,rfl⟩,q⟩
 |false=>
  rw[b]at q a;exact⟨a,.str (stripped y.cps.contains true false z),H,I.tok _,⟨_,rfl⟩,q⟩
def CC:V->List V->Hp->VK->Prop:=λx vs H Q=>∃z y,x= .str z/\vs=[.str y]/\Q (.bl (0+y.length<=z.length&&subAt z y 0)) H
theorem nU:zl X "str.startswith" CC:=by
 intro pins s σ H x vs v us Q I g e h;obtain⟨z,y,a,b,q⟩:=h;subst a b;obtain⟨t,f⟩:=(show∃t,v=MU z t from g);subst f;obtain⟨c,i,j⟩:=e.one;obtain⟨u,d⟩:=(show∃t,c=MU y t from j);subst i d;exact Ov F.slot_str_startswith (Ou _ _ _) F.entry_str_startswith (F.args_str_startswith_2 _ _) (gives_str_startswith z y t u).meets ⟨.bl _,H,I,rfl,q⟩
theorem p_:dB X (.type "int") (λxs H Q=>∃z n,xs=[.str z]/\z.length<=640/\PySem.intText? z=some n/\Q (.int n) H):=by
 intro pins s σ H xs us Q I r h;obtain⟨z,n,rfl,hl,hn,q⟩:=h;obtain⟨u,rfl,t,rfl⟩:=vals1 r;exact call_int_1 (PySem.W.KIN.gives_text hl hn).meets (show(Made.int n).post _ s from⟨rfl,.int n,H,I.tok _,⟨_,rfl⟩,q⟩)
end L2
namespace DW
open PySem PySem.StrLaws PySem.Builtin PySem.Builtin.Str
variable{x y:MD}{Z:List Nat}{c:Nat}
theorem nk(h:x.cps.toList=y.cps.toList):x=y:=by
 cases x;cases y
 simp only[Str.mk.injEq];exact Array.toList_inj.mp h
theorem dV(x:MD):x.cps.toList.length=x.length:=by rw[LY];rfl
def du(Y:List Nat):List (List Nat)->List Nat
 |[]=>[]
 |[p]=>p
 |p::q::r=>p++(Y++du Y (q::r))
theorem join_list(y:MD):∀ps:List MD,(Mr y ps).cps.toList=du y.cps.toList (ps.map λp=>p.cps.toList)
 |[]=>rfl
 |[p]=>rfl
 |p::q::r=>by
  show((p.cps++y.cps)++(Mr y (q::r)).cps).toList=_;rw[LX,LX,join_list y (q::r),LW];rfl
section
variable{t:List Nat}
theorem Ke(a:y.cps.toList=c::t){k:Nat}(h:At x y x.length k):x.cps.toList[k]? =some c:=by
 have h2:=h.2;rw[subAt_eq,beq_iff_eq,a,<-dV y,a,B8]at h2
 cases e:x.cps.toList.drop k with
 |nil=>rw[e]at h2;cases h2
 |cons d r=>
  rw[e,List.take_succ_cons]at h2
  injection h2 with b _
  have :(x.cps.toList.drop k)[0]? =some d:=by rw[e];rfl
  rw[Ow,RI]at this;rw[this,b]
theorem at_of(a:y.cps.toList=c::t){k:Nat}(h:x.cps.toList.drop k=y.cps.toList++Z):At x y x.length k:=by
 have hl:=congrArg PP h;rw[MX,B1,dV,dV]at hl
 have b:y.length=t.length+1:=by rw[<-dV,a];rfl
 refine⟨by lia,?_⟩;rw[subAt_eq,beq_iff_eq,h,<-dV y,Q5]
theorem AQ(d:y.cps.toList=c::t){a k:Nat}{p:List Nat}(hx:x.cps.toList.drop a=p++Z)(f:c∉p)(h1:a<=k)(h2:k<a+p.length):¬At x y x.length k:=λh=>by
 have e:=Ke d h
 have b:(x.cps.toList.drop a)[k-a]? =some c:=by rw[Ow,show a+(k-a)=k by lia];exact e
 rw[hx,LQ (by lia)]at b;exact f (Fk b)
theorem nr(g:y.cps.toList=c::t):∀(ps:List (List Nat))(a:Nat)(b:List Nat)(f:Nat),ps≠[]->(∀p∈ps,c∉p)->x.cps.toList.drop a=du y.cps.toList ps->a<=x.length->ChainG x y x.length a b f->(∀k,f<=k->¬At x y x.length k)->(partsFrom x y.length a b).map (λp=>p.cps.toList)=ps
 |[],_,_,_,h,_,_,_,_,_=>absurd rfl h
 |[p],a,b,f,_,j,hx,ha,l,n=>by
  have hx:x.cps.toList.drop a=p:=hx
  have pl:p.length=x.length-a:=by rw[<-hx,MX,dV]
  cases b with
  |nil=>
   show[(strSub x a x.length).cps.toList]=[p];rw[strSub_toList,hx,MF (by lia)]
  |cons i r=>
   obtain⟨h1,h2,_⟩:=l;have :=h2.1
   have A:1<=y.length:=by rw[<-dV,g];exact OP _
   exact absurd h2 (AQ (Z:=[]) g (by rw[FB];exact hx) (j p Do) h1 (by lia))
 |p::q::r,a,b,f,_,j,hx,ha,l,n=>by
  have hx:x.cps.toList.drop a=p++(y.cps.toList++du y.cps.toList (q::r)):=hx;have hl:=congrArg PP hx;rw[MX,B1,B1,dV,dV]at hl
  have hd:x.cps.toList.drop (a+p.length)=y.cps.toList++du y.cps.toList (q::r):=by
   rw[<-OV,hx,OB]
  have d:=at_of g hd
  cases b with
  |nil=>
   have e:f=a:=l;exact absurd d (n _ (by lia))
  |cons i cs=>
   obtain⟨h1,h2,s,z⟩:=l
   have o:i=a+p.length:=by
    by_cases u:i<a+p.length
    ·exact absurd h2 (AQ g hx (j p Do) h1 u)
    ·by_cases w:a+p.length<i
     ·exact absurd d (s _ IY w)
     ·lia
   subst o;show(strSub x a (a+p.length)).cps.toList::(partsFrom x y.length (a+p.length+y.length) cs).map (λp=>p.cps.toList)=p::q::r;rw[strSub_toList,hx,show a+p.length-a=p.length by lia,Q5]
   congr 1
   refine nr g (q::r) _ cs f (MZ _ _) (λv m=>j v (GE _ m)) ?_ (by lia) z n;rw[<-OV,hd,<-dV y,OB]
end
theorem jf:∀{ps a:List MD},ps.map (λp=>p.cps.toList)=a.map (λp=>p.cps.toList)->ps=a
 |[],[],_=>rfl
 |[],_::_,h=>nomatch h
 |_::_,[],h=>nomatch h
 |p::ps,q::a,h=>by
  injection h with h1 h2
  rw[nk h1,jf h2]
theorem dX{t:List Nat}(k:y.cps.toList=c::t)(q:strKind y=1){ps:List MD}(g:ps≠[])(o:∀p∈ps,c∉p.cps.toList):MV (Mr y ps) y=ps:=by
 have m:1<=y.length:=by rw[<-dV,k];exact OP _
 obtain⟨f,h1,h2⟩:=occ_tight (Mr y ps) y m
 have a:=nr (x:=Mr y ps) k (ps.map λp=>p.cps.toList) 0 _ f (λe=>g (List.map_eq_nil_iff.mp e)) (λp h=>by
  obtain⟨n,hm,rfl⟩:=List.mem_map.mp h
  exact o n hm) (by rw[OU,join_list]) (L5 _) h1 h2
 have a:=jf a
 have d:¬strKind (Mr y ps)<strKind y:=by
  have :=PyProof.Rows.strKind_pos (Mr y ps)
  lia
 unfold MV;by_cases l:(Mr y ps).length<y.length
 ·rw[if_pos (by rw[decide_eq_true l];rfl)]
  have b:occurrences (Mr y ps) y 0 (Mr y ps).length ((Mr y ps).length+1)=[]:=by
   cases e:occurrences (Mr y ps) y 0 (Mr y ps).length ((Mr y ps).length+1)with
   |nil=>rfl
   |cons i r=>
    rw[e]at h1;have :=h1.2.1.1
    lia
  rw[b]at a;exact Eq.trans (by show[_]=[strSub _ 0 _];rw[sub_whole]) a
 ·rw[if_neg (by rw[decide_eq_false l,decide_eq_false d];decide)];by_cases j:(occurrences (Mr y ps) y 0 (Mr y ps).length ((Mr y ps).length+1)).isEmpty=true
  ·rw[if_pos j];rw[List.isEmpty_iff.mp j]at a;exact Eq.trans (by show[_]=[strSub _ 0 _];rw[sub_whole]) a
  ·rw[if_neg j,partsBetween_eq];exact a
open L2
variable{p r z:MD}
theorem oy{t:List Nat}(b:y.cps.toList=c::t)(hz:z=p++(y++r))(hn:∀k,k<p.length->¬At z y z.length k):parted z y=[p,y,r]:=by
 have hl:z.cps.toList=p.cps.toList++(y.cps.toList++r.cps.toList):=by
  rw[hz];show(p.cps++(y.cps++r.cps)).toList=_;rw[LX,LX]
 have hd:z.cps.toList.drop p.length=y.cps.toList++r.cps.toList:=by rw[hl,<-dV p,OB]
 have a:=at_of b hd;unfold parted
 rcases occ_head z y 1 (B6 _)with⟨h0,h1⟩|⟨i,r',h0,h1,h2⟩
 ·exact absurd a (h1 _)
 ·rw[h0]
  have f:i=p.length:=by
   by_cases q:i<p.length
   ·exact absurd h1 (hn i q)
   ·by_cases g:p.length<i
    ·exact absurd a (h2 _ g)
    ·lia
  subst f;have d:strSub z 0 p.length=p:=nk (by rw[strSub_toList,OU,Nat.sub_zero,hl,<-dV p,Q5])
  have h:z.length=p.length+(y.length+r.length):=by
   have :=congrArg PP hl;rw[B1,B1,dV,dV,dV,dV]at this;exact this
  have e:strSub z (p.length+y.length) z.length=r:=nk (by
   rw[strSub_toList,<-OV,hd,<-dV y,OB,MF];rw[dV,dV]
   lia)
  show[strSub z 0 p.length,y,strSub z (p.length+y.length) z.length]=_;rw[d,e]
theorem za(hn:∀k,¬At z y z.length k):parted z y=[z,Pc,Pc]:=by
 unfold parted
 rcases occ_head z y 1 (B6 _)with⟨h0,_⟩|⟨i,r',_,h1,_⟩
 ·rw[h0]
 ·exact absurd h1 (hn i)
theorem tH{t:List Nat}(b:y.cps.toList=c::t)(d:c∉p.cps.toList):parted (p++(y++r)) y=[p,y,r]:=by
 refine oy b rfl λk e=>?_;refine AQ (a:=0) (p:=p.cps.toList) (Z:=y.cps.toList++r.cps.toList) b ?_ d (L5 _) (by rw[dV];lia);rw[OU];show(p.cps++(y.cps++r.cps)).toList=_;rw[LX,LX]
theorem yj{k:Nat}(hz:z.cps.toList=Mo k 32++r.cps.toList)(i:r.cps.toList.head?≠some 32):eS z " "=r:=by
 have f:(z.cps.toList.takeWhile (" ":MD).cps.contains).length=k:=by
  rw[hz]
  have h1:∀(k:Nat)(l:List Nat),l.head?≠some 32->((Mo k 32++l).takeWhile (" ":MD).cps.contains).length=k:=λk l hl=>by
   induction k with
   |zero=>
    cases l with
    |nil=>rfl
    |cons a l=>
     have ha:(" ":MD).cps.contains a=false:=by
      cases e:(" ":MD).cps.contains a with
      |false=>rfl
      |true=>
       have b:a∈(" ":MD).cps:=by simpa using e
       have h:(" ":MD).cps=#[32]:=rfl;rw[h]at b
       have g:a=32:=by simpa using b
       exact absurd (by rw[g];rfl) hl
     show((a::l).takeWhile _).length=0;rw[R_,ha];rfl
   |succ k d=>
    show((32::(Mo k 32++l)).takeWhile _).length=k+1;rw[R_,show(" ":MD).cps.contains 32=true by decide +kernel];show(_::_).length=_;rw[B8,d]
  exact h1 k _ i
 have j:z.length=k+r.length:=by
  rw[<-dV,hz,B1,NT,dV]
 have lo:stripLo (" ":MD).cps.contains true z=k:=f;have hi:stripHi (" ":MD).cps.contains false z (stripLo (" ":MD).cps.contains true z)=z.length:=rfl
 have e:stripped (" ":MD).cps.contains true false z=r:=nk (by
  show(strSub z _ _).cps.toList=_;rw[hi,lo,strSub_toList,hz,List.drop_left' (by rw[NT]),MF];rw[dV]
  lia)
 unfold eS;by_cases q:Rm (" ":MD).cps.contains true false z=true
 ·rw[if_pos q];unfold Rm at q;rw[lo,M0]at q;have c:k=0:=eq_of_beq q.1;subst c;exact nk (by rw[hz];rfl)
 ·rw[if_neg q];exact e
end DW
namespace L2
open PySem PySem.Spec PyProof.Rows
section
variable{X:Cx}
theorem ui{a:B3}{kvs:List (Key×V)}(f:sm X.prog X.w X.K a kvs)(hz:kvs.length<=sizeLine):dB X (.type "dict") (λxs H Q=>xs=[.ref a]/\∀l,H l=none->Q (.ref l) (upd H l (.dK kvs))):=by
 intro pins s σ H xs us Q I r h;obtain⟨i,q⟩:=h;subst i;obtain⟨u,k,p⟩:=vals1 r;subst k;obtain rfl:u=Kf a:=p;obtain⟨n,vs,ep,m,c,e⟩:=f.is;have da:=e _ (I.ku a n m);refine kt_call_dict f.ns da.dictOf (by rw[<-c.length];exact hz) λh' d j=>?_;refine⟨.ref s.heap.objs.size,_,I.laid (a:=s.heap.objs.size) (o:= .dK kvs) (t':=s.toks) (λb q g=>?_) (B6 _) (me hz (beq_eq_false_iff_ne.mpr (Da (LV I.big))) c d),rfl,q _ (I.hok.fresh (B6 _))⟩;exact(j.2 b (LV (De g))).trans (B0 _ g)
def HU:V->List V->Hp->VK->Prop:=λx vs H Q=>∃(a:B3)(kvs:List (Key×V))(k:Key)(z:V),x= .ref a/\vs=[kV k,z]/\H a=some (.dK kvs)/\((∃v,cE kvs k=some v/\Q v (upd H a (.dK (jh kvs k))))∨(cE kvs k=none/\Q z H))
theorem C4:zl X "dict.pop" HU:=by
 intro pins s σ H x vs v us Q I g j h;obtain⟨a,kvs,k,z,e,f,ha,h⟩:=h;subst e f;obtain rfl:v=Kf a:=g;obtain⟨u,r,l,d,m⟩:=j.two;subst l
 rcases h with⟨y,i,q⟩|⟨hn,q⟩
 ·exact IB I ha d i (.inr ⟨r,rfl⟩) λn s' c b=>⟨y,_,c,b,q⟩
 ·exact Gv I ha d hn λs' c=>⟨z,H,c,m,q⟩
def E3:V->List V->Hp->VK->Prop:=λx vs H Q=>∃(a:B3)(kvs:List (Key×V))(k:Key)(z:V),x= .ref a/\vs=[kV k,z]/\H a=some (.dK kvs)/\kvs.length<sizeLine/\((∃v,cE kvs k=some v/\Q v H)∨(cE kvs k=none/\Q z (upd H a (.dK (putK kvs k z)))))
theorem om:zl X "dict.setdefault" E3:=by
 intro pins s σ H x vs v us Q I t C h;obtain⟨a,kvs,k,z,m,p,ha,i,h⟩:=h;subst m p;obtain rfl:v=Kf a:=t;obtain⟨u,r,D,E,l⟩:=C.two;subst D;obtain⟨A,hd,ws,b,dd⟩:=qW I.hok ha
 have B:ws.length<=sizeLine:=by rw[<-b.length];exact A
 refine Oy QI dd.typeIs PySem.F.entry_dict_setdefault (PySem.F.args_dict_setdefault_3 _ _ _) (kt_meets_setdefault (bb X.prog X.w) a (iZ E) hd r) ⟨ws,dd,B,λG j=>?_,λhn h' d n=>?_⟩
 ·rcases h with⟨y,f,q⟩|⟨hn,q⟩
  ·obtain⟨w2,c,g⟩:=fe.some_of (v:=y) (o:=OI ws k) (by rw[<-f];exact b.val k);rw[j]at c
   cases c
   exact⟨y,H,I.tok _,g,q⟩
  ·have e:OI ws k=none:=fe.none_of (by rw[<-hn];exact b.val k);rw[j]at e
   cases e
 ·rcases h with⟨y,f,q⟩|⟨_,q⟩
  ·obtain⟨w2,c,_⟩:=fe.some_of (v:=y) (o:=OI ws k) (by rw[<-f];exact b.val k);rw[hn]at c
   cases c
  ·have he:∃q,h'.get? a=some q:=let⟨q,_,_,hq,_⟩:=d;⟨q,hq⟩
   have hl:(putK kvs k z).length<=sizeLine:=by have :=dA kvs k z;lia
   exact⟨z,_,il I (by rw[ha];exact MO) n he (me hl hd (b.put k l) d),l,q⟩
end
end L2
namespace PySem
variable{A:Of}{E:B5->FS->Prop}{I l:B3}{prog:MA}{s:FS}{w:MM}{xs:Array B5}
namespace DB5
theorem nz:Slot "list_reverseiterator" "__length_hint__" "list_reverseiterator.__length_hint__":=
 .of (owner:="list_reverseiterator") (n:="__length_hint__") (by rw[typeLookup_type,RV];kernel_rfl) (by decide +kernel) (by decide +kernel) (by decide +kernel)
  (by first|exact .inl (by decide +kernel)|exact .inr (by decide +kernel)) (by rw[isSubtype_type];kernel_rfl)
theorem vO:Sg (.type "list_reverseiterator") "__len__"=pure none:=by rw[typeLookup_type,RV];kernel_rfl
theorem AN{it:B3}{Q:Bool->FS->Prop}(c:s.heap.IsRevIter it l ((xs.size:Int)-1))(hl:s.heap.IsList l xs)(hz:xs.size<=sizeLine)(h:∀b tk,s.toks<=tk->Q b {s with toks:=tk}):IR (L0 prog w) A (QT (.ref it)) Q E s:=by
 have f:=hz;rw[NY]at f;unfold QT;refine B2 (QF c.typeIs vO ?_);show IR _ _ (specialOf (Kf it) (MB "__length_hint__") >>= _) _ _ _;refine B2 (QF c.typeIs nz.lookup ?_);generalize d:("list_reverseiterator.__length_hint__":String)=e
 wp_delta
 rw[show splitId e=some ("list_reverseiterator","__length_hint__")from by subst d;decide +kernel];subst d;refine B2 (SK (T:="list_reverseiterator") (b:=true) c.typeIs (by rw[isSubtype_type];kernel_rfl) ?_);refine Pp (λa=>absurd a (by decide)) (λ_=>?_);refine Pp (λ_=>?_) (λa=>absurd (by decide +kernel) a);refine Pp (λa=>absurd a (by decide +kernel)) (λ_=>?_);exact KF (h _ _ (B6 _))
section
variable{R:RC->FS->Prop}
theorem uX(M:A.in1.handled=none)(hz:xs.size<=sizeLine)(B:l≠I)(S:B3)(n:S≠I)(r:S≠l)(res:B5)(j:Nat)(g:s.heap.IsRevIter I l ((xs.size:Int)-1))(hl:s.heap.IsList l xs)(C:s.heap.get? S=some {cls:= .type "list",data:= .seq #[] j})(L:∀h' tk a p,s.toks<=tk->(∀b o,b≠S->b≠I->s.heap.get? b=some o->h'.get? b=some o)->h'.get? S=some {cls:= .type "list",dict:=none,data:= .seq a p,slots:=#[]}->ItemsOf (λi v=>xs[xs.size-1-i]? =some v) a xs.size->R (.ok (.ret res)) {s with heap:=h',toks:=tk}):
  IR (L0 prog w) A.in1 (NW (.ref S) (.ref I) res)
   (λE s'=>match E with| .done f=>R (.ok f) s'| .again p=>p.quiet=true/\Om (L0 prog w) A p R s') (λe s'=>R (.error e) s') s:=by
 have W:=Walks.listRev (prog:=prog) (w:=w) (A:=A.in1) M I l B xs
 have z:S∉[I,l]:=by simp only[Mz,Ml,or_false,not_or];exact⟨n,r⟩
 have K:(xs.size:Int)-1-((0:Nat):Int)=(xs.size:Int)-1:=by lia
 have t:∀(h:MP)(d tk:Nat),s.toks<=tk->h.IsRevIter I l ((xs.size:Int)-1)->h.IsList l xs->(∀b o,b≠S->s.heap.get? b=some o->h.get? b=some o)->
   h.get? S=some {cls:= .type "list",data:= .seq #[] d}->Om (L0 prog w) A (.builtin "list.extend.loop" ⟨[.ref S,.ref I,res],[]⟩) R {s with heap:=h,toks:=tk}:=by
  intro h d tk htk h1 h2 J k;refine codeAny_extend_loopS W.toS hz S z res xs.size 0 _ #[] d rfl (L5 _) ⟨L5 _,by rw[K];exact h1,h2⟩ k (ItemsOf.nil _) λs' a p hm y q=>?_;have u:=hm.toks;rw[Moved.eq_with hm];refine L s'.heap s'.toks a p (Mu htk u) (λb o x D e=>hm.heap b o (λhmem=>?_) (J b o x e)) y q
  rcases List.mem_cons.mp hmem with G|hmem
  ·exact x G
  ·exact D (List.mem_singleton.mp hmem)
 unfold NW;refine B2 (wpAny_typeOf g.typeIs ?_)
 have h1:Rl (.ref S) (.ref I)=false:=by simp[Rl,n]
 have h2:(OG "list_reverseiterator"==OG "list")=false:=by decide
 have H:(OG "list_reverseiterator"==OG "tuple")=false:=by decide
 simp only[h1,h2,H,P8,Qd,if_false];refine B2 (PH g ?_);refine B2 (NS (AN g hl hz λb tk htk=>?_));refine Pp (λ_=>?_) (λ_=>KF ⟨Og Se _,t _ j _ htk g hl (λb o _ e=>e) C⟩);refine B2 (Ph ?_);refine B2 ?_;show IR _ _ (Qw S (·.push .none) >>=λ_=>Qw S (·.pop)) _ _ _;refine B2 (Oj (s:={s with toks:=tk}) C rfl ?_);have c:=M8 (Nr (·.push ND)) C rfl;refine Oj (hz:=by seq_fits) (s:={s with heap:=s.heap.update S (Nr (·.push ND)),toks:=tk}) c rfl ?_;have m:=M8 (Nr (·.pop)) c rfl
 have oth:∀b o,b≠S->s.heap.get? b=some o->((s.heap.update S (Nr (·.push ND))).update S (Nr (·.pop))).get? b=some o:=
  λb o x e=>(My _ _ (Da x)).trans ((My _ _ (Da x)).trans e)
 refine KF ⟨Og Se _,t _ _ _ htk (g.at λo e=>oth _ _ (Da n) e) (hl.at λo e=>oth _ _ (Da r) e) oth m⟩
theorem Ci(x:A.in1.handled=none)(hz:xs.size<=sizeLine)(p:l≠I)(S:B3)(j:S≠I)(h:S≠l)(q:s.heap.IsRevIter I l ((xs.size:Int)-1))(hl:s.heap.IsList l xs)(r:s.heap.get? S=some {cls:= .type "list",data:= .seq #[]})(u:∀h' tk a d,s.toks<=tk->(∀b o,b≠S->b≠I->s.heap.get? b=some o->h'.get? b=some o)->h'.get? S=some {cls:= .type "list",dict:=none,data:= .seq a d,slots:=#[]}->ItemsOf (λi v=>xs[xs.size-1-i]? =some v) a xs.size->R (.ok (.ret .none)) {s with heap:=h',toks:=tk}):
  IR (L0 prog w) A.in1 (Builtin.«list.__init__» ⟨[.ref S,.ref I],[]⟩)
   (λt s'=>match t with| .done f=>R (.ok f) s'| .again d=>d.quiet=true/\Om (L0 prog w) A d R s') (λe s'=>R (.error e) s') s:=by
 show IR _ A.in1 (do let old<-RS (.ref S);Builtin.List.listUpdate (.ref S) (λ_=>#[]);letGo old.toList.reverse;NW (.ref S) (.ref I) .none) _ _ s;refine B2 ?_;unfold RS;refine B2 (MS r rfl (KF ?_));show IR _ A.in1 (Qw S (λ_=>#[]) >>=λ_=>letGo (#[]:Array B5).toList.reverse >>=λ_=>NW (.ref S) (.ref I) .none) _ _ s;refine B2 (Oj r rfl ?_);have c:=M8 (Nr (λ_=>(#[]:Array B5))) r rfl
 have oth:∀b o,b≠S->s.heap.get? b=some o->(s.heap.update S (Nr (λ_=>(#[]:Array B5)))).get? b=some o:=
  λb o k e=>(My _ _ (Da k)).trans e
 refine B2 (Ox ?_);refine uX (s:={s with heap:=s.heap.update S (Nr (λ_=>(#[]:Array B5)))}) x hz p S j h .none _ (q.at λo e=>oth _ _ (Da j) e) (hl.at λo e=>oth _ _ (Da h) e) c λh' tk a d htk y m g=>?_;exact u h' tk a d htk (λb o k n e=>y b o k n (oth b o k e)) m g
end
theorem nY{Q:B5->FS->Prop}(t:A.handled=none)(hz:xs.size<=sizeLine)(m:l≠I)(i:s.heap.IsRevIter I l ((xs.size:Int)-1))(hl:s.heap.IsList l xs)(u:∀h' tk n,s.toks<=tk->(∀b o,b≠I->s.heap.get? b=some o->h'.get? b=some o)->h'.get? s.heap.objs.size=some {cls:= .type "list",dict:=none,data:= .seq xs.toList.reverse.toArray n,slots:=#[]}->Q (.ref s.heap.objs.size) {s with heap:=h',toks:=tk}):
  IR (L0 prog w) A (call (.type "list") [.ref I]) Q E s:=by
 refine callType_codes (Q₁:=λobj d=>obj= .ref s.heap.objs.size/\d={s with heap:=s.heap.push {cls:= .type "list",data:= .seq #[]}}) F.called_list (F.typeCall_list_1 _) F.entry_list_init
  (code_list_new _ ⟨rfl,rfl⟩) λobj d f=>?_
 obtain⟨rfl,rfl⟩:=f;have q:(s.heap.push {cls:= .type "list",data:= .seq #[]}).get? s.heap.objs.size=some {cls:= .type "list",data:= .seq #[]}:=Gc _ rfl
 have n1:s.heap.objs.size≠I:=by obtain⟨o,k,_⟩:=i;exact Nz (De k)
 have v:s.heap.objs.size≠l:=by obtain⟨o,k,_⟩:=hl;exact Nz (De k)
 refine⟨⟨_,q,rfl⟩,F.args_list_init_2 _ _,Ci (A:=A.in1) (s:={s with heap:=s.heap.push {cls:= .type "list",data:= .seq #[]}}) t hz m _ n1 v (i.at λo e=>B0 _ e) (hl.at λo e=>B0 _ e) q λh' tk c n htk x g a=>?_⟩
 have r:c=xs.toList.reverse.toArray:=by
  apply Array.ext';apply Qq;intro j;by_cases p:j<xs.size
  ·have h:j<c.size:=by rw[a.1];exact p
   have h1:=a.2 j c[j] (Ra h);rw[NU,Ra h];simp only[List.toList_toArray];rw[PF (by simpa using p),<-h1];simp
  ·rw[OF (by rw[LY,a.1];lia),OF (by simp;lia)]
 rw[r]at g;exact⟨rfl,u h' tk n htk (λb o y e=>x b o (λz=>by subst z;exact absurd (De e) (Nc _)) y (B0 _ e)) g⟩
end DB5
end PySem
namespace L2
open PySem PySem.Spec PyProof.Rows
section
variable{X:Cx}
def JY(K:mo)(ta:TA):TE:=λσ H Q=>ta σ H λvs H1=>∃p ys,vs=[.ref p]/\bg K H1 p ys/\∀l,H1 l=none->Q (.ref l) (upd H1 l (.lst ys.reverse))
theorem rN{e:Expr}{ta:TA}{p p2 pos c:Pos}(w:X.calm=true)(L:Gl X "list")(hm:X.mg "list"=none)(x:NK "list"=some (.type "list"))(n:Gl X "reversed")(l:X.mg "reversed"=none)(k:NK "reversed"=some (.type "reversed"))(ha:PA X [e] ta)(y:L9 [e] X.env=[(false,M3 e X.env)]:=by rfl)(f:L9 [.Call (.Name "reversed" p2) [e] [] c] X.env=[(false,M3 (.Call (.Name "reversed" p2) [e] [] c) X.env)]:=by rfl):
  PE X (.Call (.Name "list" p) [.Call (.Name "reversed" p2) [e] [] c] [] pos) (JY X.K ta):=by
 intro pins s σ H Q I h;refine Rw (eI I L hm x (Mq ?_ f rfl));rw[f];show IR _ _ (SA ((false,M3 (.Call (.Name "reversed" p2) [e] [] c) X.env)::[])) _ _ s;refine OW ?_;refine Rw (eI I n l k (Mq (bW (ha c pins s σ H _ I h) λus s1 ⟨vs,H1,g,J,B⟩=>?_) y rfl));obtain⟨a,ys,i,G,q⟩:=B;subst i;obtain⟨u,i,F⟩:=vals1 J;subst i;obtain rfl:u=Kf a:=F;obtain⟨its,t,pl,E⟩:=g.list G;have hl:=t.length
 have m:its.toArray.size<=sizeLine:=by rw[B4];lia
 refine Si pl.isList ?_;refine Qv ?_
 have D:a<s1.heap.objs.size:=by obtain⟨o,z,_⟩:=pl.isList;exact De z
 refine PySem.DB5.nY (s:={s1 with heap:=s1.heap.push (Rz a ((its.toArray.size:Int)-1))}) (xs:=its.toArray) (g.ok.hd w) m (LV D) ⟨_,Gc _ rfl,rfl,rfl⟩ (pl.isList.at λo e=>B0 _ e) λh' tk v htk A C=>?_;have d:(s1.heap.push (Rz a ((its.toArray.size:Int)-1))).objs.size=s1.heap.objs.size+1:=Ng ..
 have j:h'.get? (s1.heap.objs.size+1)=some {cls:= .type "list",dict:=none,data:= .seq its.reverse.toArray v,slots:=#[]}:=by
  have :=C;dsimp only at this;rw[d]at this;exact this
 show EP X pins σ Q (.ref (s1.heap.push (Rz a ((its.toArray.size:Int)-1))).objs.size) _;rw[d];refine⟨.ref (s1.heap.objs.size+1),_,g.laid (a:=s1.heap.objs.size+1) (o:= .lst ys.reverse) (t':=tk) (λb o r=>A b o (LV (De r)) (B0 _ r)) (PN _) ⟨by rw[Nl];exact E,_,v,t.reverse,j⟩,rfl,q _ (g.hok.fresh (PN _))⟩
end
end L2
namespace PySem
variable{A:Of}{E Q:B5->FS->Prop}{a b x y:B5}{i1 i2 l1 l2 z:B3}{k1:Nat}{prog:MA}{s:FS}{w:MM}{xs ys:Array B5}
namespace DB6
theorem yV{TI TO:B3}{k2:Nat}(D:Qh z TI TO i1 i2 l1 l2)(hz:O3 s.heap z TI TO .none)(X:NF s.heap TI (.ref i1) (.ref i2))(a2:NF s.heap TO a b)(h1:s.heap.IsTupleIter i1 l1 k1)(h2:s.heap.IsTupleIter i2 l2 k2)(Z:s.heap.IsTuple l1 xs)(a1:s.heap.IsTuple l2 ys)(hx:xs[k1]? =some x)(hy:ys[k2]? =some y)(hQ:∀h',O3 h' z TI TO (Pi s.heap.objs.size)->NF h' TO x y->h'.IsTupleIter i1 l1 (k1+1)->h'.IsTupleIter i2 l2 (k2+1)->NF h' s.heap.objs.size x y->h'.objs.size=s.heap.objs.size+1->
   (∀c o,c≠z->c≠TO->c≠i1->c≠i2->s.heap.get? c=some o->h'.get? c=some o)->Q (.ref s.heap.objs.size) {s with heap:=h'}):
  IR (L0 prog w) A (Builtin.«zip.__next__» ⟨[.ref z],[]⟩) (λa4 s'=>∃v,a4= .done (.ret v)/\Q v s') E s:=by
 show IR _ _ (Qe (.ref z) 2 >>= _) _ _ _;refine B2 (MK hz rfl (x:= .bool false) rfl ?_);show IR _ _ (Qe (.ref z) 3 >>= _) _ _ _;refine B2 (MK hz rfl (x:= .ref TI) rfl ?_);refine B2 (MS X rfl ?_);show IR _ _ (ME (.ref z) >>= _) _ _ _;refine B2 ?_;unfold ME;refine B2 (MK hz rfl (x:= .none) rfl (KF ?_));simp only[if_true];refine B2 (Ph ?_);refine B2 (MK hz rfl (x:= .ref TO) rfl ?_);refine B2 (MJ hz (by simp) λK p f=>?_)
 replace p:O3 K z TI TO .ellipsis:=p
 refine B2 ?_;simp only[SV,List.zipIdx_nil,Pu,Q6];refine B2 (B2 (Rb ?_));show IR _ _ (MN (.ref i1) >>= _) _ _ _;refine B2 (L2.uG (s:={s with heap:=K}) (h1.extBut f.extBut D.i1z) (Z.extBut f.extBut D.l1z) hx λV L h=>KF ?_);have B:NF V TO a b:=h.extBut _ _ D.TOi1 (f.extBut _ _ D.TOz a2);refine B2 (MS B rfl ?_);refine B2 (R0 B λR m i=>?_)
 replace m:NF R TO x b:=m
 refine B2 (Ox (KF ?_));refine B2 (B2 (Rb ?_));show IR _ _ (MN (.ref i2) >>= _) _ _ _
 refine B2 (L2.uG (((h2.extBut f.extBut D.i2z).extBut h.extBut D.i12.symm).extBut i.extBut D.TOi2.symm)
  (((a1.extBut f.extBut D.l2z).extBut h.extBut D.l2i1).extBut i.extBut D.l2TO) hy λT O k=>KF ?_)
 have C:NF T TO x b:=k.extBut _ _ D.TOi2 m;refine B2 (MS C rfl ?_);refine B2 (R0 C λd g j=>?_)
 replace g:NF d TO x y:=g
 refine B2 (Ox (KF (KF ?_)));refine B2 (MS g rfl ?_);refine B2 (wpAny_newTuple ?_)
 have P:d.objs.size=s.heap.objs.size:=by rw[j.1,k.1,i.1,h.1,f.1]
 have H:O3 d z TI TO .ellipsis:=j.extBut _ _ D.TOz.symm (k.extBut _ _ D.i2z.symm (i.extBut _ _ D.TOz.symm (h.extBut _ _ D.i1z.symm p)))
 have M:∀c o,c≠z->c≠TO->c≠i1->c≠i2->s.heap.get? c=some o->d.get? c=some o:=λc o c1 c2 c3 c4 e=>
  j.extBut _ _ c2 (k.extBut _ _ c4 (i.extBut _ _ c2 (h.extBut _ _ c3 (f.extBut _ _ c1 e))))
 have G:d.IsTupleIter i1 l1 (k1+1):=((L.extBut i.extBut D.TOi1.symm).extBut k.extBut D.i12).extBut j.extBut D.TOi1.symm;have F:d.IsTupleIter i2 l2 (k2+1):=O.extBut j.extBut D.TOi2.symm;have J:z<d.objs.size:=De H;have a3:TO<d.objs.size:=De g
 have Y:i1<d.objs.size:=by obtain⟨_,e,_⟩:=G;exact De e
 have a0:i2<d.objs.size:=by obtain⟨_,e,_⟩:=F;exact De e
 show IR _ _ (Nm (.ref z) (.ref d.objs.size) >>= _) _ _ _;refine B2 ?_;unfold Nm;have N:O3 (d.push {cls:= .type "tuple",data:= .seq #[x,y]}) z TI TO .ellipsis:=B0 _ H;refine B2 (MJ N (by simp) λU t q=>?_)
 replace t:O3 U z TI TO (Pi d.objs.size):=t
 refine MJ t (by simp) λn l u=>?_
 replace l:O3 n z TI TO (Pi d.objs.size):=l
 have W:∀c o,c≠z->d.get? c=some o->n.get? c=some o:=λc o c1 e=>u.extBut _ _ c1 (q.extBut _ _ c1 (B0 _ e));have I:NF n d.objs.size x y:=u.extBut _ _ (Nz J) (q.extBut _ _ (Nz J) (Gc _ rfl))
 have S:n.objs.size=d.objs.size+1:=by rw[u.1,q.1,Ng]
 rw[P]at l I S;refine KF ⟨_,rfl,?_⟩;show Q (.ref d.objs.size) _;rw[P];exact hQ n l (W _ _ D.TOz g) (let⟨o,ho,r⟩:=G;⟨o,W _ _ D.i1z ho,r⟩) (let⟨o,ho,r⟩:=F;⟨o,W _ _ D.i2z ho,r⟩) I S λc o c1 c2 c3 c4 e=>W c o c1 (M c o c1 c2 c3 c4 e)
theorem BB{TI TO:B3}{Q:Fin->FS->Prop}(t:A.handled=none)(D:Qh z TI TO i1 i2 l1 l2)(hz:O3 s.heap z TI TO .none)(p:NF s.heap TI (.ref i1) (.ref i2))(v:NF s.heap TO a b)(h1:s.heap.IsTupleIter i1 l1 k1)(r:s.heap.IsTuple l1 xs)(hx:xs[k1]? =none)(u:∀h' e,(∀c o,c≠z->c≠TO->c≠i1->c≠i2->s.heap.get? c=some o->h'.get? c=some o)->(∃o,h'.get? e=some o/\o.cls= .type "StopIteration")->E (.ref e) {s with heap:=h'}):
  IR (L0 prog w) A (Builtin.«zip.__next__» ⟨[.ref z],[]⟩) Q E s:=by
 show IR _ _ (Qe (.ref z) 2 >>= _) _ _ _;refine B2 (MK hz rfl (x:= .bool false) rfl ?_);show IR _ _ (Qe (.ref z) 3 >>= _) _ _ _;refine B2 (MK hz rfl (x:= .ref TI) rfl ?_);refine B2 (MS p rfl ?_);show IR _ _ (ME (.ref z) >>= _) _ _ _;refine B2 ?_;unfold ME;refine B2 (MK hz rfl (x:= .none) rfl (KF ?_));simp only[if_true];refine B2 (Ph ?_);refine B2 (MK hz rfl (x:= .ref TO) rfl ?_);refine B2 (MJ hz (by simp) λj f d=>?_)
 replace f:O3 j z TI TO .ellipsis:=f
 refine B2 ?_;simp only[SV,List.zipIdx_nil,Pu,Q6];refine B2 (B2 (Rb ?_));show IR _ _ (MN (.ref i1) >>= _) _ _ _;refine B2 (L2.mh (s:={s with heap:=j}) t (h1.extBut d.extBut D.i1z) (r.extBut d.extBut D.l1z) hx λl e g he=>?_);obtain⟨y,k,n⟩:=he;have h:O3 l z TI TO .ellipsis:=g _ _ D.i1z.symm f
 have q:e≠z:=λx=>by subst x;rw[h]at k;cases k;simp at n
 refine MJ h (by simp) λm _ i=>u m e (λc o c1 _ c3 _ x=>i.extBut _ _ c1 (g _ _ c3 (d.extBut _ _ c1 x))) ⟨y,i.extBut _ _ q k,n⟩
theorem jV{TI TO:B3}{k2:Nat}{Q:Option B5->FS->Prop}(D:Qh z TI TO i1 i2 l1 l2)(hz:O3 s.heap z TI TO .none)(d:NF s.heap TI (.ref i1) (.ref i2))(f:NF s.heap TO a b)(h1:s.heap.IsTupleIter i1 l1 k1)(h2:s.heap.IsTupleIter i2 l2 k2)(g:s.heap.IsTuple l1 xs)(e:s.heap.IsTuple l2 ys)(hx:xs[k1]? =some x)(i:ys[k2]? =some y)(n:∀h',O3 h' z TI TO (Pi s.heap.objs.size)->NF h' TO x y->h'.IsTupleIter i1 l1 (k1+1)->h'.IsTupleIter i2 l2 (k2+1)->NF h' s.heap.objs.size x y->h'.objs.size=s.heap.objs.size+1->
   (∀c o,c≠z->c≠TO->c≠i1->c≠i2->s.heap.get? c=some o->h'.get? c=some o)->Q (some (.ref s.heap.objs.size)) {s with heap:=h'}):
  IR (L0 prog w) A (OS (.ref z)) Q E s:=by
 have h:s.TypeIs (.ref z) "zip":=⟨_,hz,rfl⟩;unfold OS
 exact B2 (Re (NG (name:=MB "__next__") h Pw
  (Oc Pw h SZ
   (yV D hz d f h1 h2 g e hx i λh' l r j p k m q=>KF (n h' l r j p k m q)) (SJ _))))
theorem kH{TI TO:B3}{Q:Option B5->FS->Prop}(i:A.handled=none)(D:Qh z TI TO i1 i2 l1 l2)(hz:O3 s.heap z TI TO .none)(d:NF s.heap TI (.ref i1) (.ref i2))(f:NF s.heap TO a b)(h1:s.heap.IsTupleIter i1 l1 k1)(g:s.heap.IsTuple l1 xs)(hx:xs[k1]? =none)(j:∀h',(∀c o,c≠z->c≠TO->c≠i1->c≠i2->s.heap.get? c=some o->h'.get? c=some o)->Q none {s with heap:=h'}):IR (L0 prog w) A (OS (.ref z)) Q E s:=by
 have h:s.TypeIs (.ref z) "zip":=⟨_,hz,rfl⟩;unfold OS
 refine B2 (Re (NG (name:=MB "__next__") h Pw
  (Oc Pw h SZ (BB i D hz d f h1 g hx λh' e l he=>?_) (SJ _))))
 obtain⟨o,k,m⟩:=he;refine B2 (SK (T:="StopIteration") (b:=true) ⟨o,k,m⟩ isSubtype_stop ?_);exact KF (j _ l)
abbrev Dj(h:MP)(l1:B3):MP:=h.push {cls:= .type "tuple_iterator",data:= .fields #[.ref l1,.int 0 0]}
abbrev DY(h:MP)(l1 l2:B3):MP:=(Dj h l1).push {cls:= .type "tuple_iterator",data:= .fields #[.ref l2,.int 0 0]}
abbrev CW(h:MP)(l1 l2:B3):MP:=(DY h l1 l2).push {cls:= .type "tuple",data:= .seq #[.ref h.objs.size,.ref (Dj h l1).objs.size]}
abbrev Ec(h:MP)(l1 l2:B3):MP:=(CW h l1 l2).push {cls:= .type "tuple",data:= .seq #[.none,.none]}
abbrev vA(h:MP)(l1 l2:B3):MP:=(Ec h l1 l2).push {cls:= .type "zip",data:= .fields #[.none,.bool false,.bool false,.ref (DY h l1 l2).objs.size,.ref (CW h l1 l2).objs.size]}
theorem my(l1 l2:B3)(xs ys:Array B5):
  Meets (Builtin.«zip.__new__» ⟨[.type "zip",.ref l1,.ref l2],[]⟩) (λ_ R s=>s.heap.IsTuple l1 xs/\s.heap.IsTuple l2 ys/\
   R (.ok (.ret (.ref (Ec s.heap l1 l2).objs.size))) {s with heap:=vA s.heap l1 l2}):=
 .of_wp λprog w A R s h=>by
  obtain⟨i,g,d,tk,os⟩:=s;obtain⟨c,b,h⟩:=h;have f:=sub_zip;have a:RP (R5 ⟨i,g,d,tk,os⟩) l1 xs:=c;have e:RP (R5 ⟨i.push {cls:= .type "tuple_iterator",data:= .fields #[.ref l1,.int 0 0]},g,d,tk,os⟩) l2 ys:=Heap.IsTuple.push b _
  wp_walk using Os a,Os e
  exact⟨_,rfl,h⟩
theorem zd(f:s.heap.IsTuple l1 xs)(a:s.heap.IsTuple l2 ys)(h:∀h',O3 h' (s.heap.objs.size+4) (s.heap.objs.size+2) (s.heap.objs.size+3) .none->NF h' (s.heap.objs.size+2) (.ref s.heap.objs.size) (.ref (s.heap.objs.size+1))->
   NF h' (s.heap.objs.size+3) .none .none->h'.IsTupleIter s.heap.objs.size l1 0->h'.IsTupleIter (s.heap.objs.size+1) l2 0->h'.objs.size=s.heap.objs.size+5->
   (∀c o,s.heap.get? c=some o->h'.get? c=some o)->Q (.ref (s.heap.objs.size+4)) {s with heap:=h'}):
  IR (L0 prog w) A (call (.type "zip") [.ref l1,.ref l2]) Q E s:=by
 refine callType_new F.called_zip (by decide) (F.typeCall_zip_2 _ _) (F.newCall_zip_2 _ _) (λobj=>F.args_object_init_3 obj _ _) F.entry_zip_new
  (my l1 l2 xs ys) ⟨f,a,?_⟩
 have g:(Dj s.heap l1).objs.size=s.heap.objs.size+1:=Ng ..
 have e:(DY s.heap l1 l2).objs.size=s.heap.objs.size+2:=by rw[Ng,g]
 have b:(CW s.heap l1 l2).objs.size=s.heap.objs.size+3:=by rw[Ng,e]
 have i:(Ec s.heap l1 l2).objs.size=s.heap.objs.size+4:=by rw[Ng,b]
 have k:(vA s.heap l1 l2).objs.size=s.heap.objs.size+5:=by rw[Ng,i]
 have d:(vA s.heap l1 l2).get? (Ec s.heap l1 l2).objs.size=some _:=Gc _ rfl;have j:(vA s.heap l1 l2).get? (CW s.heap l1 l2).objs.size=some _:=B0 _ (Gc _ rfl);have g3:(vA s.heap l1 l2).get? (DY s.heap l1 l2).objs.size=some _:=B0 _ (B0 _ (Gc _ rfl));have g2:(vA s.heap l1 l2).get? (Dj s.heap l1).objs.size=some _:=B0 _ (B0 _ (B0 _ (Gc _ rfl)));have g1:(vA s.heap l1 l2).get? s.heap.objs.size=some _:=B0 _ (B0 _ (B0 _ (B0 _ (Gc _ rfl))));show _/\_;rw[e,b,i]at d;rw[g,e]at g3;rw[b]at j;rw[g]at g2;rw[i]
 exact⟨⟨_,d,rfl⟩,h _ d g3 j ⟨_,g1,rfl,rfl⟩ ⟨_,g2,rfl,rfl⟩ k λc o x=>
  B0 _ (B0 _ (B0 _ (B0 _ (B0 _ x))))⟩
end DB6
end PySem
namespace L2
open PySem PySem.Spec PyProof.Rows
def GA(K:mo)(a b:B3):It:=
 ⟨λi H=>∃xs ys x y,aT K H a xs/\aT K H b ys/\xs[i]? =some x/\ys[i]? =some y,λi H x H'=>∃p u v,x= .ref p/\H p=none/\H'=upd H p (.tup [u,v])/\(∀xs,aT K H a xs->xs[i]? =some u)/\∀ys,aT K H b ys->ys[i]? =some v,
  λi H=>∃xs ys,aT K H a xs/\aT K H b ys/\xs.length<=i⟩
variable{es:List Expr}{kk:Nat}
theorem zb{P:MA}{w:MM}{K:mo}{pt:Pos}{z TI TO i1 i2 a b:B3}(D:Qh z TI TO i1 i2 a b):
  Turn P w K (.Tuple es kk pt) (GA K a b) [z,TI,TO,i1,i2] z (λi h=>O3 h z TI TO .none/\NF h TI (.ref i1) (.ref i2)/\(∃u v,NF h TO u v)/\h.IsTupleIter i1 a i/\h.IsTupleIter i2 b i) where
 mem:=by simp
 obj:=λi h st c J=>by
  obtain⟨n,d,⟨u,v,e⟩,⟨O,h1,c1,d1⟩,⟨N,h2,c2,d2⟩⟩:=st;simp only[Mz,Ml,or_false]at J
  rcases J with q|q|q|q|q<;>subst q
  ·exact⟨_,n,λv q=>by cases q⟩
  ·exact⟨_,d,λv q=>by cases q⟩
  ·exact⟨_,e,λv q=>by cases q⟩
  ·exact⟨O,h1,λv q=>by rw[d1]at q;cases q⟩
  ·exact⟨N,h2,λv q=>by rw[d2]at q;cases q⟩
 keep:=λi h h' st kk=>by
  obtain⟨n,d,⟨u,v,e⟩,⟨O,h1,c1⟩,⟨N,h2,c2⟩⟩:=st;exact⟨kk z (by simp) _ n,kk TI (by simp) _ d,⟨u,v,kk TO (by simp) _ e⟩,⟨O,kk i1 (by simp) _ h1,c1⟩,⟨N,kk i2 (by simp) _ h2,c2⟩⟩
 item:=by
  intro X U Z S J i pins s σ H E I L st V;subst U Z S;obtain⟨xs,ys,x,y,l,k,hx,hy⟩:=V;obtain⟨its,rv,p,Q⟩:=I.tuple l;obtain⟨u,hu,ru⟩:=rv.get hx;obtain⟨m,A,p2,R⟩:=I.tuple k;obtain⟨v,hv,Y⟩:=A.get hy;obtain⟨n,d,⟨u0,v0,e⟩,j,B⟩:=st;refine PySem.DB6.jV D n d e j B (show s.heap.IsTuple a its.toArray from p) (show s.heap.IsTuple b m.toArray from p2) (x:=u) (y:=v) (by simpa using hu) (by simpa using hv) λh' a1 a2 a3 a4 a5 a6 kp=>⟨_,rfl,?_⟩;refine Q9 a1 λg2 G F=>?_;have lz:z<s.heap.objs.size:=De n;have T:TI<s.heap.objs.size:=De d;have a0:TO<s.heap.objs.size:=De e
  have l1:i1<s.heap.objs.size:=by obtain⟨o,C,_⟩:=j;exact De C
  have l2:i2<s.heap.objs.size:=by obtain⟨o,C,_⟩:=B;exact De C
  have nT:H s.heap.objs.size=none:=I.fresh;have M:g2.get? s.heap.objs.size=some {cls:= .type "tuple",data:= .seq #[u,v]}:=(F.2 _ (Nz lz)).trans a5
  have I1:Inv X pins σ (upd H s.heap.objs.size (.tup [x,y])) {s with heap:=g2,toks:=s.toks}:=by
   refine I.iw (t':=s.toks) (ch:=[z,TI,TO,i1,i2]) (λc o f q=>?_) L (B6 _) ⟨?_,[u,v],.cons ru (.cons Y .nil),⟨_,M,rfl,0,rfl⟩⟩
   ·simp only[Mz,Ml,or_false,not_or]at f;exact(F.2 c f.1).trans (kp c o f.1 f.2.2.1 f.2.2.2.1 f.2.2.2.2 q)
   ·show 2<=sizeLine;decide
  refine⟨.ref s.heap.objs.size,_,I1,rfl,⟨_,x,y,rfl,nT,rfl,λzs t=>?_,λzs t=>?_⟩,⟨G,?_,⟨u,v,?_⟩,?_,?_⟩,λc f=>?_⟩
  ·rw[I.ix t l];exact hx
  ·rw[I.ix t k];exact hy
  ·exact(F.2 TI D.TIz).trans (kp TI _ D.TIz D.TITO D.TIi1 D.TIi2 d)
  ·exact(F.2 TO D.TOz).trans a2
  ·obtain⟨o,C,r⟩:=a3;exact⟨o,(F.2 i1 D.i1z).trans C,r⟩
  ·obtain⟨o,C,r⟩:=a4;exact⟨o,(F.2 i2 D.i2z).trans C,r⟩
  ·have g:=(L c f).1;simp only[Mz,Ml,or_false]at f
   rcases f with q|q|q|q|q<;>subst q
   ·rw[ak (LV lz)];exact g
   ·rw[ak (LV T)];exact g
   ·rw[ak (LV a0)];exact g
   ·rw[ak (LV l1)];exact g
   ·rw[ak (LV l2)];exact g
 done:=by
  intro X U Z S J i pins s σ H E I L st V;subst U Z S;obtain⟨xs,ys,l,k,a7⟩:=V;obtain⟨its,rv,p,Q⟩:=I.tuple l;obtain⟨m,A,p2,R⟩:=I.tuple k;obtain⟨n,d,⟨u0,v0,e⟩,j,B⟩:=st;have l1:=rv.length;have l2:=A.length;refine PySem.DB6.kH (I.ok.hd J) D n d e j (show s.heap.IsTuple a its.toArray from p) ?_ λh' kp=>⟨rfl,I.pD (t':=s.toks) (ch:=[z,TI,TO,i1,i2]) (λc o f q=>?_) L⟩
  ·simp
   lia
  ·simp only[Mz,Ml,or_false,not_or]at f;exact kp c o f.1 f.2.2.1 f.2.2.2.1 f.2.2.2.2 q
 self:=λ_ _ _ _ _ st h=>Pa st.1 h
section
variable{X:Cx}{pt:Pos}
def IS(K:mo)(ta:TA):TI:=λσ H R=>ta σ H λvs H1=>∃a b,vs=[.ref a,.ref b]/\(∃xs,aT K H1 a xs)/\(∃ys,aT K H1 b ys)/\R (GA K a b) H1
theorem CV{l m:Expr}{ta:TA}{p pos:Pos}(P:Gl X "zip")(hm:X.mg "zip"=none)(ha:PA X [l,m] ta)(D:L9 [l,m] X.env=[(false,M3 l X.env),(false,M3 m X.env)]:=by rfl)(f:L9 [m] X.env=[(false,M3 m X.env)]:=by rfl):
  PI X (.Tuple es kk pt) (.Call (.Name "zip" p) [l,m] [] pos) (IS X.K ta):=by
 intro pins s σ H R I h;refine Rw (eI I P hm RW (Mq (bW (ha pos pins s σ H _ I h) λus s1 ⟨vs,H1,e,O,G⟩=>?_) (by rw[D,f]) (by rw[f];rfl)));obtain⟨a,b,i,⟨xs,t⟩,⟨ys,r⟩,q⟩:=G;subst i;obtain⟨u,v,i,M,N⟩:=vals2 O;subst i;obtain rfl:u=Kf a:=M;obtain rfl:v=Kf b:=N;obtain⟨its,Q,pl,x⟩:=e.tuple t;obtain⟨g,F,d,C⟩:=e.tuple r
 have L:a<s1.heap.objs.size:=by obtain⟨o,n,_⟩:=pl;exact De n
 have E:b<s1.heap.objs.size:=by obtain⟨o,n,_⟩:=d;exact De n
 refine PySem.DB6.zd (show s1.heap.IsTuple a its.toArray from pl) (show s1.heap.IsTuple b g.toArray from d) λh' x j y k w B kp=>?_;have J:Inv X pins σ H1 {s1 with heap:=h'}:=e.kept (t':=s1.toks) kp;refine Pa x ⟨s1.heap.objs.size+4,[s1.heap.objs.size+4,s1.heap.objs.size+2,s1.heap.objs.size+3,s1.heap.objs.size,s1.heap.objs.size+1],_,_,H1,rfl,J,zb (zipApart_new L E),⟨x,j,⟨_,_,y⟩,k,w⟩,λc A=>?_,q⟩
 have z:s1.heap.objs.size<=c:=by
  simp only[Mz,Ml,or_false]at A
  rcases A with q|q|q|q|q<;>rw[q]
  ·exact MW _ _
  ·exact MW _ _
  ·exact MW _ _
  ·exact B6 _
  ·exact MW _ _
 exact e.kz z (e.hok.fresh z)
end
end L2
namespace B09
open PySem L2 S2
def top(i:Nat):Mb:=PySem.Challenge.pw_boxgalley_k09_texts_read.main.body.getD i (.Pass ⟨0,0,0,0⟩)
abbrev mG:Mb:=top 1
abbrev iN:Mb:=top 2
abbrev iJ:Mb:=top 3
abbrev fA:Mb:=top 8
abbrev jP:Mb:=top 9
abbrev fq:Mb:=top 10
abbrev fj:Mb:=top 11
abbrev qN:Mb:=top 23
abbrev mM:Mb:=top 24
abbrev pW:Mb:=top 25
abbrev jE:Mb:=top 26
abbrev kZ:Mb:=top 27
abbrev g_:Mb:=top 28
abbrev gm:Mb:=top 29
abbrev ig:Mb:=top 30
abbrev gX:Mb:=top 31
abbrev EK:Mb:=top 45
abbrev Dl:Mb:=top 46
abbrev pV:Mb:=top 47
abbrev ia:Mb:=top 48
abbrev jz:Mb:=top 49
abbrev lT:Mb:=top 50
abbrev kT:Mb:=top 51
abbrev qA:Mb:=top 52
abbrev j_:Mb:=top 53
abbrev uq:Mb:=top 54
abbrev hH:Mb:=top 55
abbrev uY:Mb:=top 56
abbrev mQ:Mb:=top 57
abbrev gh:Mb:=top 58
abbrev pz:Mb:=top 59
abbrev eN:Mb:=top 60
abbrev qK:Mb:=top 61
abbrev uS:Mb:=top 62
abbrev Em:Mb:=top 68
abbrev rC:Mb:=top 69
abbrev wz:Mb:=top 70
abbrev yn:Mb:=top 71
abbrev gi:Mb:=top 72
abbrev ml:Mb:=top 74
abbrev mC:Mb:=top 75
abbrev iL:Mb:=top 76
abbrev gJ:Mb:=top 83
abbrev jc:Mb:=top 84
abbrev dE:Mb:=top 85
abbrev iQ:Mb:=top 86
abbrev gq:Mb:=inClass (top 91) 0
abbrev jd:Mb:=top 92
abbrev jo:Mb:=top 93
abbrev uc:Mb:=top 94
abbrev ie:Mb:=top 95
abbrev ic:Mb:=top 96
abbrev gY:Mb:=top 97
abbrev ip:Mb:=top 98
abbrev iu:Mb:=top 99
abbrev fm:Mb:=top 100
abbrev hU:Mb:=top 101
abbrev ik:Mb:=top 102
abbrev fS:Mb:=top 103
abbrev fX:Mb:=top 104
abbrev gU:Mb:=top 105
abbrev ee:Mb:=top 106
abbrev ju:Mb:=top 107
abbrev gI:Mb:=top 108
abbrev cY:Mb:=top 109
abbrev iz:Mb:=top 110
abbrev vk:Mb:=top 112
abbrev zp:Mb:=top 113
abbrev xC:Mb:=top 114
abbrev yv:Mb:=top 115
abbrev xB:Mb:=top 116
abbrev uP:Mb:=top 117
abbrev Bx:Mb:=top 118
abbrev DJ:Mb:=top 119
abbrev qd:Mb:=top 120
abbrev og:Mb:=top 121
abbrev n_:Mb:=top 122
abbrev nO:Mb:=top 123
abbrev Bz:Mb:=top 124
abbrev C2:Mb:=top 125
abbrev gM:Mb:=top 126
abbrev qz:Mb:=top 127
structure aR(mg:Str->Option B5):Prop where
 len:mg "len"=none
 max:mg "max"=none
 list:mg "list"=none
 int:mg "int"=none
 inst:mg "isinstance"=none
 range:mg "range"=none
 all:mg "all"=none
 bool:mg "bool"=none
 sum:mg "sum"=none
 zip:mg "zip"=none
 str:mg "str"=none
 tuple:mg "tuple"=none
 ord:mg "ord"=none
 enum:mg "enumerate"=none
 any:mg "any"=none
 dict:mg "dict"=none
 rev:mg "reversed"=none
structure kN(K:mo)(mg:Str->Option B5)(tk:Nat->Tok)(ad:Nat->B3):Prop where
 cANCHOR_FARTHEST:mg "ANCHOR_FARTHEST"=some (.int 1000000 (tk 0))
 cOVER_PARTS:mg "OVER_PARTS"=some (.int 12 (tk 1))
 cJOINT_MOST:mg "JOINT_MOST"=some (.int 999 (tk 2))
 cPIECE_LONGEST:mg "PIECE_LONGEST"=some (.int 12 (tk 3))
 cWORD_PIECES:mg "WORD_PIECES"=some (.int 6 (tk 4))
 cWORDS_PIECES:mg "WORDS_PIECES"=some (.int 60 (tk 5))
 cFLOW_PARTS:mg "FLOW_PARTS"=some (.int 12 (tk 6))
 cFIRST_SIGN:mg "FIRST_SIGN"=some (.int 33 (tk 7))
 cLAST_SIGN:mg "LAST_SIGN"=some (.int 126 (tk 8))
 cPERCENT_SIGN:mg "PERCENT_SIGN"=some (.int 37 (tk 9))
 cBAR_SIGN:mg "BAR_SIGN"=some (.int 124 (tk 10))
 cNAME_LONGEST:mg "NAME_LONGEST"=some (.int 8 (tk 11))
 cSIZE_MOST:mg "SIZE_MOST"=some (.int 1000000 (tk 12))
 cWEIGHT_MOST:mg "WEIGHT_MOST"=some (.int 99 (tk 13))
 cRANK_MOST:mg "RANK_MOST"=some (.int 9 (tk 14))
 cALIKE_MOST:mg "ALIKE_MOST"=some (.int 9 (tk 15))
 cLINED_PARTS:mg "LINED_PARTS"=some (.int 20 (tk 16))
 cGAP_MOST:mg "GAP_MOST"=some (.int 1000 (tk 17))
 cTABLE_PARTS:mg "TABLE_PARTS"=some (.int 40 (tk 18))
 cTABLE_COLUMNS:mg "TABLE_COLUMNS"=some (.int 12 (tk 19))
 cSPAN_MOST:mg "SPAN_MOST"=some (.int 12 (tk 20))
 cBOXES_MOST:mg "BOXES_MOST"=some (.int 60 (tk 21))
 cDEEPEST:mg "DEEPEST"=some (.int 8 (tk 22))
 cTABLE_ROWS:mg "TABLE_ROWS"=some (.int 60 (tk 23))
 cFIGURES_MOST:mg "FIGURES_MOST"=some (.int 7 (tk 24))
 tANCHOR_WORDS:mg "ANCHOR_WORDS"=some (.ref (ad 0))
 sANCHOR_WORDS:∀H:Hp,aT K H (ad 0) [.str "start",.str "mid",.str "mid2",.str "end"]
 tSIDES:mg "SIDES"=some (.ref (ad 1))
 sSIDES:∀H:Hp,aT K H (ad 1) [.str "left",.str "right"]
 tLINED:mg "LINED"=some (.ref (ad 2))
 sLINED:∀H:Hp,aT K H (ad 2) [.str "row",.str "column",.str "wrap"]
 tALIGNS:mg "ALIGNS"=some (.ref (ad 3))
 sALIGNS:∀H:Hp,aT K H (ad 3) [.str "start",.str "end",.str "mid",.str "mid2"]
 tALIKE_KINDS:mg "ALIKE_KINDS"=some (.ref (ad 4))
 sALIKE_KINDS:∀H:Hp,aT K H (ad 4) [.str "leaf",.str "row",.str "column",.str "wrap"]
inductive D where
 |non
 |bl (b:Bool)
 |int (i:Int)
 |str (s:Str)
 |tup (l:List D)
 |oth
inductive At(K:mo)(H:Hp):V->D->Prop
 |non:At K H .non .non
 |bl (b:Bool):At K H (.bl b) (.bl b)
 |int (i:Int):At K H (.int i) (.int i)
 |str (s:Str) (h:s.length<=sizeLine):At K H (.str s) (.str s)
 |tup {a:B3} {xs:List V} {l:List D} (h:H a=some (.tup xs)) (hl:xs.length=l.length) (he:∀(j:Nat)(x:V)(d:D),xs[j]? =some x->l[j]? =some d->At K H x d):At K H (.ref a) (.tup l)
 |oth {a:B3} {es:List V} (h:H a=some (.lst es)):At K H (.ref a) .oth
theorem At.same{K:mo}{H H':Hp}(s:af H H'){v:V}{d:D}(h:At K H v d):At K H' v d:=by
 induction h with
 |non=>exact .non
 |bl b=>exact .bl b
 |int i=>exact .int i
 |str x h=>exact .str x h
 |tup h hl _ a=>exact .tup (s _ _ h) hl a
 |oth h=>exact .oth (s _ _ h)
def D.isInt:D->Bool
 | .int _=>true
 | .bl _=>true
 |_=>false
def D.isBool:D->Bool
 | .bl _=>true
 |_=>false
def D.isStr:D->Bool
 | .str _=>true
 |_=>false
def D.isTup:D->Bool
 | .tup _=>true
 |_=>false
variable{H H1 H2 H':Hp}{K:mo}{v:V}{d:D}{j col h row w i n B c r cols x y:Nat}{l ds es:List D}{P:MA}{base:MP}{f f1 f2 f3 a:B3}{fd d1 d2 d3:M9}{mg:Str->Option B5}{ta te:TE}{σ:St}{o:HO}{p:Nat->Bool}{sps:List (Nat×Nat)}{kvs:List (List Key×V)}{as:List B3}{xs ys:List V}{nm:Str}{D0:Ends}
theorem At.Ii(h:At K H v d):∃T,hK K H v (.type T)/\Oz K (.type T) (.type "int")=some d.isInt:=by
 cases h with
 |non=>exact⟨_,.non,by rfl⟩
 |bl b=>exact⟨_,.bl b,by rfl⟩
 |int i=>exact⟨_,.int i,by rfl⟩
 |str x _=>exact⟨_,.str x,by rfl⟩
 |tup h hl he=>exact⟨_,.tup h,by rfl⟩
 |oth h=>exact⟨_,.lst h,by rfl⟩
theorem At.Hf(h:At K H v d):∃T,hK K H v (.type T)/\Oz K (.type T) (.type "bool")=some d.isBool:=by
 cases h with
 |non=>exact⟨_,.non,by rfl⟩
 |bl b=>exact⟨_,.bl b,by rfl⟩
 |int i=>exact⟨_,.int i,by rfl⟩
 |str x _=>exact⟨_,.str x,by rfl⟩
 |tup h hl he=>exact⟨_,.tup h,by rfl⟩
 |oth h=>exact⟨_,.lst h,by rfl⟩
theorem At.Bo(h:At K H v d):∃T,hK K H v (.type T)/\Oz K (.type T) (.type "str")=some d.isStr:=by
 cases h with
 |non=>exact⟨_,.non,by rfl⟩
 |bl b=>exact⟨_,.bl b,by rfl⟩
 |int i=>exact⟨_,.int i,by rfl⟩
 |str x _=>exact⟨_,.str x,by rfl⟩
 |tup h hl he=>exact⟨_,.tup h,by rfl⟩
 |oth h=>exact⟨_,.lst h,by rfl⟩
theorem At.E7(h:At K H v d):∃T,hK K H v (.type T)/\Oz K (.type T) (.type "tuple")=some d.isTup:=by
 cases h with
 |non=>exact⟨_,.non,by rfl⟩
 |bl b=>exact⟨_,.bl b,by rfl⟩
 |int i=>exact⟨_,.int i,by rfl⟩
 |str x _=>exact⟨_,.str x,by rfl⟩
 |tup h hl he=>exact⟨_,.tup h,by rfl⟩
 |oth h=>exact⟨_,.lst h,by rfl⟩
inductive Ej(K:mo)(j:Nat)(vs:List V)(H:Hp)(Q:VK):Prop
 |mk (v:V) (l:List D) (d:D) (c0:vs=[v]) (c1:At K H v (.tup l)) (c2:l[j]? =some d) (c3:∀x:V,At K H x d->Q x H)
def vN(K:mo)(j:Nat):Sp:=λvs H Q _=>Ej K j vs H Q
theorem At.part(h:At K H v (.tup l))(e:l[j]? =some d):∃(a:B3)(xs:List V)(x:V),v= .ref a/\aT K H a xs/\iY xs (j:Int)=some x/\At K H x d:=by
 cases h with
 | @tup a xs l h hl he=>
  have b:j<xs.length:=by rw[hl];exact bR e
  have ex:=AC b;exact⟨a,xs,xs[j],rfl,aT.of h,aA ex,he j _ d ex e⟩
section
variable{w:MM}
abbrev CS:List Str:=Zb
theorem lZ:ay CS Zb (aj ia):=cL
theorem xP(F:aZ K "what_of" "what_of" ia f fd)(N:aR mg):aw P w K mg base aO 1 f fd Zb (vN K 3):=by
 refine F.cS lZ λcdv A outer s H vs Q E i h=>?_
 ·obtain⟨v,l,d,e,c,b,k⟩:=h;subst e;refine⟨_,ai (au (ax av (pv 0) ag (λ_ _=>rfl))),?_⟩
  try rw[bZ]
  obtain⟨a,xs,x,rfl,h1,h2,g⟩:=c.part b;exact⟨_,rfl,a,_,_,_,rfl,rfl,h1,h2,k x g⟩
end
theorem gA.str(x:Str)(H:Hp):gA (KN x) H (x.cps.toList.map λc=>V.str ⟨#[c]⟩):=
 ⟨λi H' _ hi=>by rw[be,LY]at hi;exact hi,λH' _=>by rw[be,LY];exact B6 _,λi v H' a _ y=>by
  obtain⟨e,c,b,d⟩:=y
  exact⟨e,by rw[B7,NU,b,d];rfl⟩⟩
theorem gA.tup{K:mo}{a:B3}{H:Hp}{xs:List V}(h:H a=some (.tup xs)):gA (EU K a) H xs:=
 ⟨λi H' s hi=>⟨xs,xs[i],aT.of (s _ _ h),by simp[hi]⟩,λH' s=>⟨xs,aT.of (s _ _ h),B6 _⟩,λi x H' b s y=>by
  obtain⟨e,y⟩:=y
  exact⟨e,y xs (aT.of (s _ _ h))⟩⟩
theorem uv{α β:Type}{xs:List α}{l:List β}{p:α×β}(h:(xs.zip l)[j]? =some p):xs[j]? =some p.1/\l[j]? =some p.2:=by
 rw[Q_]at h;exact h
section
variable{n:Int}
theorem rK{α β:Type}{f:β->Int}:∀{xs:List α}{l:List β},xs.length=l.length->((xs.zip l).map λp=>f p.2).sum=(l.map f).sum
 |[],[],_=>rfl
 |[],d::l,h=>nomatch h
 |x::xs,[],h=>nomatch h
 |x::xs,d::l,h=>by rw[Sv,Mc,Mc,P7,P7,rK (Nat.succ.inj h)]
end
abbrev gu:List V:=[.str "row",.str "column",.str "wrap"]
abbrev wj:=Em
abbrev uL:=rC
abbrev qE:=wz
abbrev GR:=yn
def Kp(st:B3)(H H':Hp):Prop:=∀b o,b≠st->H b=some o->H' b=some o
theorem Kp.refl{st:B3}(H:Hp):Kp st H H:=λ_ _ _ h=>h
theorem Kp.trans{st:B3}(a:Kp st H H1)(b:Kp st H1 H2):Kp st H H2:=λc o n h=>b c o n (a c o n h)
theorem Kp.of{st:B3}(s:af H H'):Kp st H H':=λb o _ h=>s b o h
theorem Kp.store{st:B3}:Kp st H (upd H st o):=λb o' n h=>by rw[ak n];exact h
abbrev Tk:=Nat->Nat->Bool
def dR(T:Tk)(row col w h:Nat):Bool:=(Me h).all λd=>(Me w).all λa=> !T (row+d) (col+a)
variable{T:Tk}
theorem mH:dR T row col w h=true↔∀d,d<h->∀a,a<w->T (row+d) (col+a)=false:=by
 unfold dR;rw[QA];constructor
 ·intro z d hd a ha;have :=List.all_eq_true.mp (z d (List.mem_range.mpr hd)) a (List.mem_range.mpr ha);simpa using this
 ·intro z d hd;refine List.all_eq_true.mpr λa ha=>?_;rw[z d (List.mem_range.mp hd) a (List.mem_range.mp ha)];rfl
theorem DH{d a:Nat}(hd:d<h)(ha:a<w)(t:T (row+d) (col+a)=true):dR T row col w h=false:=by
 cases e:dR T row col w h with
 |false=>rfl
 |true=>rw[mH.mp e d hd a ha]at t;cases t
def cg(T:Tk)(n w h:Nat):Nat->Nat->Nat×Nat
 |0,row=>(row,0)
 |f+1,row=>match(Me n).find? (λc=>dR T row c w h)with
  |some c=>(row,c)
  |none=>cg T n w h f (row+1)
def gv(T:Tk)(B n w h:Nat):Nat×Nat:=cg T n w h (B+1) 0
def Bd(T:Tk)(B:Nat):Prop:=∀r c,B<=r->T r c=false
theorem ub(hi:i<n)(b:p i=true)(a:∀j,j<i->p j=false):(Me n).find? p=some i:=by
 rw[Rk];exact⟨b,List.mem_range.mpr hi,λj c=>by rw[a j c];rfl⟩
theorem find_none(a:∀j,j<n->p j=false):(Me n).find? p=none:=by
 rw[List.find?_eq_none];intro x hx;rw[a x (List.mem_range.mp hx)];exact GM
theorem A3{f:Nat}(hi:i<n)(b:dR T row i w h=true)(a:∀j,j<i->dR T row j w h=false):cg T n w h (f+1) row=(row,i):=by
 rw[cg,ub hi b a]
theorem pk{f:Nat}(a:∀j,j<n->dR T row j w h=false):cg T n w h (f+1) row=cg T n w h f (row+1):=by
 rw[cg,find_none a]
theorem iF(hB:Bd T B):dR T B c w h=true:=mH.mpr λd _ a _=>hB _ _ (MW _ _)
structure pO(T:Tk)(B n w h:Nat)(p:Nat×Nat):Prop where
 row:p.1<=B
 col:p.2<n
 free:dR T p.1 p.2 w h=true
 above:∀r c,r<p.1->c<n->dR T r c w h=false
 ahead:∀c,c<p.2->dR T p.1 c w h=false
theorem wX(hB:Bd T B)(hn:0<n):∀(f row:Nat),f+row=B+1->0<f->(∀r c,r<row->c<n->dR T r c w h=false)->pO T B n w h (cg T n w h f row)
 |0,row,_,h0,_=>absurd h0 (Nc _)
 |f+1,row,e,_,i=>by
  cases d:(Me n).find? (λc=>dR T row c w h)with
  |some c=>
   obtain⟨h1,h2,k⟩:=(Rk).mp d
   have l:cg T n w h (f+1) row=(row,c):=by rw[cg,d]
   rw[l]
   exact⟨by show row<=B;lia,List.mem_range.mp h2,h1,i,λm g=>by
    have :=k m g
    simpa using this⟩
  |none=>
   have a:∀c,c<n->dR T row c w h=false:=λc b=>by
    have :=List.find?_eq_none.mp d c (List.mem_range.mpr b);exact Bool.eq_false_iff.mpr this
   have j:row≠B:=λz=>by
    subst z;have :=a 0 hn;rw[iF hB]at this
    cases this
   rw[pk a]
   exact wX hB hn f (row+1) (by lia) (by lia) λr c o b=>by
    by_cases z:r=row
    ·rw[z];exact a c b
    ·exact i r c (by lia) b
theorem sR(hB:Bd T B)(hn:0<n):pO T B n w h (gv T B n w h):=wX hB hn (B+1) 0 rfl (OP _) λr c a=>absurd a (Nx _)
def cover(T:Tk)(r c w h:Nat):Tk:=λx y=>T x y||(decide (r<=x)&&(decide (x<r+h)&&(decide (c<=y)&&decide (y<c+w))))
def eD(T:Tk)(r c w d a:Nat):Tk:=λx y=>T x y||((decide (r<=x)&&(decide (x<r+d)&&(decide (c<=y)&&decide (y<c+w))))||(decide (x=r+d)&&(decide (c<=y)&&decide (y<c+a))))
theorem so(T:Tk)(r c w:Nat):eD T r c w 0 0=T:=by
 funext x y
 unfold eD
 have a:(decide (r<=x)&&(decide (x<r+0)&&(decide (c<=y)&&decide (y<c+w))))=false:=by
  by_cases h:r<=x
  ·rw[decide_eq_false (show¬x<r+0 by lia)];simp
  ·rw[decide_eq_false h];rfl
 have b:(decide (x=r+0)&&(decide (c<=y)&&decide (y<c+0)))=false:=by
  by_cases h:c<=y
  ·rw[decide_eq_false (show¬y<c+0 by lia)];simp
  ·rw[decide_eq_false h];simp
 rw[a,b];simp
theorem rD(T:Tk)(r c w d a:Nat)(x y:Nat):eD T r c w d (a+1) x y=(eD T r c w d a x y||(decide (x=r+d)&&decide (y=c+a))):=by
 unfold eD;rw[M7];simp only[Px,M0,decide_eq_true_eq];constructor
 ·rintro(h|h|⟨h1,h2,b⟩)
  ·exact .inl (.inl h)
  ·exact .inl (.inr (.inl h))
  ·by_cases e:y=c+a
   ·exact .inr ⟨h1,e⟩
   ·exact .inl (.inr (.inr ⟨h1,h2,by lia⟩))
 ·rintro((h|h|⟨h1,h2,b⟩)|⟨h1,h2⟩)
  ·exact .inl h
  ·exact .inr (.inl h)
  ·exact .inr (.inr ⟨h1,h2,by lia⟩)
  ·exact .inr (.inr ⟨h1,by lia,by lia⟩)
theorem vJ(T:Tk)(r c w d:Nat):eD T r c w d w=eD T r c w (d+1) 0:=by
 funext x y
 unfold eD;rw[M7];simp only[Px,M0,decide_eq_true_eq];constructor
 ·rintro(h|h|⟨h1,h2,a⟩)
  ·exact .inl h
  ·exact .inr (.inl ⟨h.1,by lia,h.2.2⟩)
  ·exact .inr (.inl ⟨by lia,by lia,h2,a⟩)
 ·rintro(h|⟨h1,h2,a,b⟩|h)
  ·exact .inl h
  ·by_cases e:x=r+d
   ·exact .inr (.inr ⟨e,a,b⟩)
   ·exact .inr (.inl ⟨h1,by lia,a,b⟩)
  ·exact absurd h.2.2 (by lia)
theorem vy(T:Tk)(r c w h:Nat):eD T r c w h 0=cover T r c w h:=by
 funext x y
 unfold eD cover;rw[M7];simp only[Px,M0,decide_eq_true_eq];constructor
 ·rintro(h|h|h)
  ·exact .inl h
  ·exact .inr h
  ·exact absurd h.2.2 (by lia)
 ·rintro(h|h)
  ·exact .inl h
  ·exact .inr (.inl h)
theorem AK(hB:Bd T B)(a:r<=B):Bd (cover T r c w h) (B+h):=λx y hx=>by
 unfold cover;rw[hB x y (by lia),decide_eq_false (show¬x<r+h by lia)];simp
abbrev IC:=Tk×Nat×List (Nat×Nat)
def cI(cols:Nat)(sps:List (Nat×Nat)):Nat->IC
 |0=>(λ_ _=>false,0,[])
 |i+1=>
  (cover (cI cols sps i).1 (gv (cI cols sps i).1 (cI cols sps i).2.1 (cols-(sps.getD i (1,1)).1+1) (sps.getD i (1,1)).1 (sps.getD i (1,1)).2).1 (gv (cI cols sps i).1 (cI cols sps i).2.1 (cols-(sps.getD i (1,1)).1+1) (sps.getD i (1,1)).1 (sps.getD i (1,1)).2).2 (sps.getD i (1,1)).1 (sps.getD i (1,1)).2,
   (cI cols sps i).2.1+(sps.getD i (1,1)).2,(cI cols sps i).2.2++[gv (cI cols sps i).1 (cI cols sps i).2.1 (cols-(sps.getD i (1,1)).1+1) (sps.getD i (1,1)).1 (sps.getD i (1,1)).2])
def lS(cols:Nat)(sps:List (Nat×Nat))(i:Nat):Nat×Nat:=gv (cI cols sps i).1 (cI cols sps i).2.1 (cols-(sps.getD i (1,1)).1+1) (sps.getD i (1,1)).1 (sps.getD i (1,1)).2
theorem kK(cols:Nat)(sps:List (Nat×Nat)):∀i,Bd (cI cols sps i).1 (cI cols sps i).2.1
 |0=>λ_ _ _=>rfl
 |i+1=>AK (kK cols sps i) (sR (kK cols sps i) (OP _)).row
theorem Et(cols:Nat)(sps:List (Nat×Nat))(i:Nat):pO (cI cols sps i).1 (cI cols sps i).2.1 (cols-(sps.getD i (1,1)).1+1) (sps.getD i (1,1)).1 (sps.getD i (1,1)).2 (lS cols sps i):=sR (kK cols sps i) (OP _)
theorem eB(cols:Nat)(sps:List (Nat×Nat)):∀i,(cI cols sps i).2.2.length=i
 |0=>rfl
 |i+1=>by
  show((cI cols sps i).2.2++[_]).length=i+1;rw[B1,eB cols sps i];rfl
theorem jS(cols:Nat)(sps:List (Nat×Nat))(i:Nat):(cI cols sps (i+1)).2.2=(cI cols sps i).2.2++[lS cols sps i]:=rfl
theorem ph:∀n i,i<=n->(cI cols sps n).2.2.take i=(cI cols sps i).2.2
 |0,i,h=>by
  have :i=0:=by lia
  subst this;rfl
 |n+1,i,h=>by
  by_cases e:i=n+1
  ·subst e;exact MF (by rw[eB];exact B6 _)
  ·rw[jS,OL (by rw[eB];lia)];exact ph n i (by lia)
theorem Bf(h:i<n):(cI cols sps n).2.2[i]? =some (lS cols sps i):=by
 have e:=ph (cols:=cols) (sps:=sps) n (i+1) h;rw[jS]at e
 have :((cI cols sps n).2.2.take (i+1))[i]? =some (lS cols sps i):=by
  rw[e,GT (by rw[eB];exact B6 _),eB,Pl];rfl
 rw[List.getElem?_take,if_pos (Qy i)]at this;exact this
theorem mD(cols:Nat)(sps:List (Nat×Nat))(a:∀j,(sps.getD j (1,1)).2<=100):∀i,(cI cols sps i).2.1<=100*i
 |0=>B6 _
 |i+1=>by
  have b:=mD cols sps a i;have :=a i;show(cI cols sps i).2.1+(sps.getD i (1,1)).2<=100*(i+1)
  lia
def DT(kvs:List (List Key×V))(T:Tk):Prop:=∀r c:Nat,(cE kvs [Mw (r:Int),Mw (c:Int)]).isSome=T r c
theorem DT.nil:DT [] (λ_ _=>false):=λ_ _=>rfl
theorem wx:([Mw (r:Int),Mw (c:Int)]:List Key)=[Mw (x:Int),Mw (y:Int)]↔r=x/\c=y:=by
 constructor
 ·intro h
  injection h with h1 h2
  injection h2 with h2 _
  injection h1 with h1
  injection h2 with h2
  exact⟨Int.ofNat.inj h1,Int.ofNat.inj h2⟩
 ·rintro⟨rfl,rfl⟩;rfl
theorem DT.put{d:Tk}(h:DT kvs T)(f:∀a b,d a b=(T a b||(decide (a=x)&&decide (b=y)))):DT (putK kvs [Mw (x:Int),Mw (y:Int)] v) d:=λr c=>by
 rw[BI,f];by_cases e:r=x/\c=y
 ·rw[if_pos (wx.mpr e),decide_eq_true e.1,decide_eq_true e.2];simp
 ·rw[if_neg (λz=>e (wx.mp z)),h r c]
  have :(decide (r=x)&&decide (c=y))=false:=by
   rw[Bool.eq_false_iff];intro z;rw[M0,decide_eq_true_eq,decide_eq_true_eq]at z;exact e z
  rw[this,P8]
theorem Kp.same{st:B3}{H H1 H2:Hp}(k:Kp st H1 H2)(s:af H H1)(h:H st=none):af H H2:=λb o a=>k b o (λz=>by rw[z,h]at a;cases a) (s b o a)
theorem Dr{st:B3}{rows:List (List V)}(h:bp H as rows)(k:Kp st H H2)(hd:H st=some (.dT kvs)):bp H2 as rows:=⟨h.1,λi p r b c=>by
 have a:=h.2 i p r b c
 exact k p _ (λz=>by rw[z,hd]at a;cases a) a⟩
theorem zi{rows:List (List V)}{l:B3}(h:bp H as rows)(hl:H l=some (.lst xs)):bp (upd H l o) as rows:=⟨h.1,λi p r b c=>by
 have a:=h.2 i p r b c;rw[ak (gx a hl (by intro z;cases z))]
 exact a⟩
def yS(p:Nat×Nat):List V:=[.int (p.1:Int),.int (p.2:Int)]
inductive C7(vs:List V)(H:Hp)(Q:VK):Prop
 |mk (dd p:B3) (kvs:List (List Key×V)) (T:Tk) (row col w h:Nat) (c0:vs=[.ref dd,.int (row:Int),.int (col:Int),.ref p]) (c1:H dd=some (.dT kvs)) (c2:DT kvs T) (c3:H p=some (.tup [.int (w:Int),.int (h:Int)])) (c4:row<=100000) (c5:col<=1000) (c6:w<=100) (c7:h<=100) (c8:∀H',af H H'->Q (.bl (dR T row col w h)) H')
def Az:Sp:=λvs H Q _=>C7 vs H Q
inductive AX(vs:List V)(H:Hp)(Q:VK):Prop
 |mk (dd p:B3) (kvs:List (List Key×V)) (T:Tk) (B cols w h:Nat) (c0:vs=[.ref dd,.int (cols:Int),.ref p]) (c1:H dd=some (.dT kvs)) (c2:DT kvs T) (c3:Bd T B) (c4:B<=50000) (c5:H p=some (.tup [.int (w:Int),.int (h:Int)])) (c6:0<w) (c7:w<=cols) (c8:cols<=100) (c9:h<=100) (c10:∀(t:B3)(H':Hp),af H H'->H' t=some (.tup (yS (gv T B (cols-w+1) w h)))->Q (.ref t) H')
def wY:Sp:=λvs H Q _=>AX vs H Q
inductive Bv(vs:List V)(H:Hp)(Q:VK):Prop
 |mk (dd q p:B3) (kvs:List (List Key×V)) (T:Tk) (r c w h:Nat) (c0:vs=[.ref dd,.ref q,.ref p]) (c1:H dd=some (.dT kvs)) (c2:DT kvs T) (c3:H q=some (.tup [.int (r:Int),.int (c:Int)])) (c4:H p=some (.tup [.int (w:Int),.int (h:Int)])) (c5:w<=12) (c6:h<=12) (c7:kvs.length<=50000) (c8:∀(kvs':List (List Key×V))(H':Hp),Kp dd H H'->H' dd=some (.dT kvs')->DT kvs' (cover T r c w h)->kvs'.length<=kvs.length+144->Q .non H')
def wg:Sp:=λvs H Q _=>Bv vs H Q
inductive Fw(vs:List V)(H:Hp)(Q:VK):Prop
 |mk (a:B3) (sa:List B3) (sps:List (Nat×Nat)) (cols:Nat) (c0:vs=[.int (cols:Int),.ref a]) (c1:H a=some (.lst (sa.map V.ref))) (c2:bp H sa (sps.map yS)) (c3:(∀sp∈sps,0<sp.1/\sp.1<=cols/\sp.2<=12)) (c4:cols<=12) (c5:sps.length<=100) (c6:∀(l:B3)(pa:List B3)(H':Hp),H l=none->af H H'->H' l=some (.lst (pa.map V.ref))->bp H' pa ((cI cols sps sps.length).2.2.map yS)->Q (.ref l) H')
def Fe:Sp:=λvs H Q _=>Fw vs H Q
section
variable{w:MM}
theorem uu:ay ["taken","row","column","span","down","across"] ZA (aj wj):=cL
theorem CZ(F:aZ K "is_free" "is_free" wj f fd)(N:aR mg):aw P w K mg base aO 1 f fd ZA Az:=by
 refine F.cS uu λcdv A outer s H vs Q E R h=>?_
 ·obtain⟨dd,p,kvs,T,row,col,w,h,e,hd,M,z,b1,X,W,U,k⟩:=h;subst e
  have S:(A.deeper (Mh "is_free" (aj wj) s.heap.objs.size f cdv)).units+1<Np:=by have :=R.units;lia
  refine⟨_,ah (cG Ma rfl (oA (by rfl) N.range (aa (pv 1) (aa (aE bM (pv 1) (ax av (pv 3) ag (λ_ _=>rfl))) ab))) (aV (i:=4) uu.nd rfl (KB rfl))
    (ai (cG Ma rfl (oA (by rfl) N.range (aa (pv 2) (aa (aE bM (pv 2) (ax av (pv 3) ag (λ_ _=>rfl))) ab))) (aV (i:=5) uu.nd rfl (KB rfl))
     (ai (aQ (AW (zX S (aS (aa (pv 4) (aa (pv 5) ab))) (pv 0))) (ai (au c_)) aC)))))
   (ai (au c_)),?_⟩
  have L:∀x y:V,iY [x,y] 0=some x:=λx y=>rfl;have I:∀x y:V,iY [x,y] 1=some y:=λx y=>rfl;refine⟨_,rfl,_,rfl,_,rfl,p,_,_,_,rfl,rfl,aT.of z,I _ _,_,_,rfl,rfl,(row:Int),(row:Int)+(h:Int),rfl,⟨by lia,by lia,by lia,by lia⟩,?_⟩
  have D:((row:Int)+(h:Int)-(row:Int)).toNat=h:=by lia
  rw[D]
  refine cP (lo:=(row:Int)) (n:=h) (λi σ u=>(∃(r j:Option V),σ=[some (.ref dd),some (.int (row:Int)),some (.int (col:Int)),some (.ref p),r,j])/\af H u/\∀d,d<i->∀a,a<w->T (row+d) (col+a)=false)
   ⟨⟨none,none,rfl⟩,af.refl _,λd hd=>absurd hd (Nx _)⟩ ?_ ?_
  ·rintro d σ H1 q ⟨⟨r,j,rfl⟩,s1,l⟩;have hp1:=s1 _ _ z;refine⟨_,rfl,_,rfl,_,rfl,p,_,_,_,rfl,rfl,aT.of hp1,L _ _,_,_,rfl,rfl,(col:Int),(col:Int)+(w:Int),rfl,⟨by lia,by lia,by lia,by lia⟩,?_⟩
   have o:((col:Int)+(w:Int)-(col:Int)).toNat=w:=by lia
   rw[o]
   refine cP (lo:=(col:Int)) (n:=w) (λa σ u=>(∃(j:Option V),σ=[some (.ref dd),some (.int (row:Int)),some (.int (col:Int)),some (.ref p),some (.int ((row:Int)+(d:Int))),j])/\af H1 u/\∀b,b<a->T (row+d) (col+b)=false)
    ⟨⟨_,rfl⟩,af.refl _,λb v=>absurd v (Nx _)⟩ ?_ ?_
   ·rintro a σ H2 ha ⟨⟨j,rfl⟩,s2,c⟩;refine⟨_,rfl,_,rfl,(by show 2<=sizeLine;decide),λt O=>?_⟩;have B:af H2 (upd H2 t (.tup [V.int ((row:Int)+(d:Int)),V.int ((col:Int)+(a:Int))])):=af.put (af.refl _) O
    have G:(upd H2 t (.tup [V.int ((row:Int)+(d:Int)),V.int ((col:Int)+(a:Int))])) t=some (.tup (([Mw ((row+d:Nat):Int),Mw ((col+a:Nat):Int)]:List Key).map kV)):=by
     rw[ae];show some (HO.tup [_,_])=some (HO.tup [_,_]);rw[show((row+d:Nat):Int)=(row:Int)+(d:Int)by lia,show((col+a:Nat):Int)=(col:Int)+(a:Int)by lia];rfl
    generalize upd H2 t (.tup [V.int ((row:Int)+(d:Int)),V.int ((col:Int)+(a:Int))])=H3 at *;have C:af H H3:=af.trans s1 (af.trans s2 B);have g:=gC.t (C _ _ hd) G;refine⟨_,rfl,dd,_,rfl,g,_,rfl,?_⟩;rw[M]
    cases m:T (row+d) (col+a)with
    |true=>
     refine di ?_;have :=k H3 C;rw[DH q ha m]at this;exact this
    |false=>
     refine bA ⟨⟨_,rfl⟩,af.trans s2 B,λb v=>?_⟩;by_cases e:b=a
     ·rw[e];exact m
     ·exact c b (by lia)
   ·rintro σ H2 ⟨⟨j,rfl⟩,s2,c⟩;refine⟨⟨_,_,rfl⟩,af.trans s1 s2,λd' J=>?_⟩;by_cases e:d'=d
    ·rw[e];exact c
    ·exact l d' (by lia)
  ·rintro σ H1 ⟨⟨r,j,rfl⟩,s1,l⟩;have :=k H1 s1;rw[mH.mpr l]at this;exact this
theorem jA:ay ["taken","columns","span","tried","row","column"] ZC (aj uL):=cL
theorem zL(F:aZ K "first_place" "first_place" uL f fd)(N:aR mg)(J:aw P w K mg base aO 1 f1 d1 ZA Az)(Y:Cq K mg d1 f1 ZA "is_free"):
  aw P w K mg base aO 2 f fd ZC wY:=by
 refine F.cS jA λcdv A outer s H vs Q E Z h=>?_
 ·obtain⟨dd,p,kvs,T,B,cols,w,h,e,hd,O,hB,S,u,c1,c2,c3,c4,k⟩:=h;subst e
  refine⟨_,ah (aJ (i:=3) jA.nd rfl (KB rfl) (aF (xF rfl) (by rfl) N.max RX (aa (aE bM (aE eE (pv 1) (ax av (pv 2) ag (λ_ _=>rfl))) ag) (aa ag ab))))
   (ah (aJ (i:=4) jA.nd rfl (KB rfl) ag)
   (ai (rf Ma (bH c_)
    (ah (cG Ma rfl (cB (by rfl) N.range (aa (pv 3) ab)) (aV (i:=5) jA.nd rfl (KB rfl))
     (ai (aQ (bH (pq J Z Y (aa (pv 0) (aa (pv 4) (aa (pv 5) (aa (pv 2) ab)))))) (ai (au (aS (aa (pv 4) (aa (pv 5) ab))))) aC)))
    (ai (aJ (i:=4) jA.nd rfl (KB rfl) (aE bM (pv 4) ag))))))),?_⟩
  have M:∀x y:V,iY [x,y] 0=some x:=λx y=>rfl;refine⟨_,rfl,_,rfl,p,_,_,_,rfl,rfl,aT.of u,M _ _,_,_,rfl,rfl,_,_,rfl,rfl,_,_,rfl,?_⟩
  have g:(if(1:Int)>(cols:Int)-(w:Int)+1 then(1:Int)else(cols:Int)-(w:Int)+1)=((cols-w+1:Nat):Int):=by split<;>lia
  rw[g];have hn:0<cols-w+1:=OP _
  have D:cols-w+1<=100:=by lia
  generalize cols-w+1=n at *;clear g;refine⟨λm σ l=>∃(row:Nat)(a:Option V),σ=[some (.ref dd),some (.int (cols:Int)),some (.ref p),some (.int (n:Int)),some (.int (row:Int)),a]/\af H l/\row<=B/\m=B+1-row/\cg T n w h (B+1-row) row=gv T B n w h,⟨_,0,none,rfl,af.refl _,L5 _,rfl,rfl⟩,?_⟩;rintro m σ H1 ⟨row,a,rfl,s1,r,rfl,b⟩;refine⟨_,rfl,di ?_⟩;refine⟨λσ' H'=>∃(a:Option V),σ'=[some (.ref dd),some (.int (cols:Int)),some (.ref p),some (.int (n:Int)),some (.int ((row+1:Nat):Int)),a]/\af H H'/\row+1<=B/\cg T n w h (B+1-(row+1)) (row+1)=gv T B n w h,λσ' H' o=>by obtain⟨a,L,R,G,C⟩:=o;exact⟨B+1-(row+1),by lia,row+1,a,L,R,G,rfl,C⟩,?_⟩;refine⟨_,rfl,(n:Int),rfl,by lia,by lia,?_⟩;rw[show((n:Int)).toNat=n by lia]
  have I:B+1-row=(B-row)+1:=by lia
  rw[I]at b
  refine cP (lo:=0) (n:=n) (λi σ l=>(∃(a:Option V),σ=[some (.ref dd),some (.int (cols:Int)),some (.ref p),some (.int (n:Int)),some (.int (row:Int)),a])/\af H l/\∀c,c<i->dR T row c w h=false)
   ⟨⟨_,rfl⟩,s1,λc v=>absurd v (Nx _)⟩ ?_ ?_
  ·rintro i σ H2 hi ⟨⟨a,rfl⟩,s2,d⟩;refine⟨_,rfl,_,rfl,_,rfl,_,rfl,dd,p,kvs,T,row,i,w,h,(by rw[show(0:Int)+(i:Int)=(i:Int)by lia];rfl),s2 _ _ hd,O,s2 _ _ u,by lia,by lia,by lia,CA,λH3 U=>⟨_,rfl,?_⟩⟩;have q:=af.trans s2 U
   cases j:dR T row i w h with
   |true=>
    refine di ?_;rw[A3 hi j d]at b;refine⟨_,rfl,_,rfl,(by show 2<=sizeLine;decide),λt X=>?_⟩;refine k t _ (af.put q (same_none q X)) ?_;rw[<-b,ae];show some (HO.tup [V.int (row:Int),V.int (0+(i:Int))])=some (HO.tup [V.int (row:Int),V.int (i:Int)]);rw[show(0:Int)+(i:Int)=(i:Int)by lia]
   |false=>
    refine bA ⟨⟨_,rfl⟩,q,λc v=>?_⟩;by_cases e:c=i
    ·rw[e];exact j
    ·exact d c (by lia)
  ·rintro σ H2 ⟨⟨a,rfl⟩,s2,d⟩
   have W:row≠B:=λz=>by
    have :=d 0 hn;rw[z,iF hB]at this
    cases this
   rw[pk d]at b;refine⟨_,rfl,_,_,rfl,rfl,?_⟩;refine(show∃a,_ from⟨a,?_,s2,by lia,by rw[show B+1-(row+1)=B-row by lia];exact b⟩);rw[show((row+1:Nat):Int)=(row:Int)+1 by lia];rfl
theorem pZ:ay ["taken","place","span","down","across"] ZD (aj qE):=cL
theorem Bb(F:aZ K "take" "take" qE f fd)(N:aR mg):aw P w K mg base aO 1 f fd ZD wg:=by
 refine F.cS pZ λcdv A outer s H vs Q E hr h=>?_
 ·obtain⟨dd,q,p,kvs,T,r,c,w,h,e,hd,hT,M,C,b1,b2,b3,k⟩:=h;subst e
  have hu:(A.deeper (Mh "take" (aj qE) s.heap.objs.size f cdv)).units+1<Np:=by have :=hr.units;lia
  refine⟨_,ai (cG Ma rfl (cB (by rfl) N.range (aa (ax av (pv 2) ag (λ_ _=>rfl)) ab)) (aV (i:=3) pZ.nd rfl (KB rfl))
    (ai (cG Ma rfl (cB (by rfl) N.range (aa (ax av (pv 2) ag (λ_ _=>rfl)) ab)) (aV (i:=4) pZ.nd rfl (KB rfl))
     (ai (kR hu (pv 0) (aS (aa (aE bM (ax av (pv 1) ag (λ_ _=>rfl)) (pv 3)) (aa (aE bM (ax av (pv 1) ag (λ_ _=>rfl)) (pv 4)) ab))) c_ rfl))))),?_⟩
  have S:∀x y:V,iY [x,y] 0=some x:=λx y=>rfl;have R:∀x y:V,iY [x,y] 1=some y:=λx y=>rfl
  have D:p≠dd:=λz=>by rw[z,hd]at C;cases C
  have J:q≠dd:=λz=>by rw[z,hd]at M;cases M
  refine⟨_,rfl,p,_,_,_,rfl,rfl,aT.of C,R _ _,(h:Int),rfl,by lia,by lia,?_⟩;rw[show((h:Int)).toNat=h by lia]
  refine cP (lo:=0) (n:=h) (λd σ B=>∃(kvs':List (List Key×V))(L g:Option V),σ=[some (.ref dd),some (.ref q),some (.ref p),L,g]/\Kp dd H B/\B dd=some (.dT kvs')/\DT kvs' (eD T r c w d 0)/\kvs'.length<=kvs.length+d*w)
   ⟨kvs,none,none,rfl,Kp.refl _,hd,(by rw[so];exact hT),IY⟩ ?_ ?_
  ·rintro d σ H1 Y ⟨j,L,g,rfl,s1,u,b,G⟩;refine⟨_,rfl,p,_,_,_,rfl,rfl,aT.of (s1 _ _ D C),S _ _,(w:Int),rfl,by lia,by lia,?_⟩;rw[show((w:Int)).toNat=w by lia];have X:d*w<=11*12:=PM (by lia) b1
   refine cP (lo:=0) (n:=w) (λa σ B=>∃(kvs':List (List Key×V))(g:Option V),σ=[some (.ref dd),some (.ref q),some (.ref p),some (.int (0+(d:Int))),g]/\Kp dd H B/\B dd=some (.dT kvs')/\DT kvs' (eD T r c w d a)/\kvs'.length<=kvs.length+(d*w+a))
    ⟨j,_,rfl,s1,u,b,by lia⟩ ?_ ?_
   ·rintro a σ H2 ha ⟨l,g,rfl,s2,m,o,O⟩;have v:=s2 _ _ J M;refine⟨_,rfl,_,rfl,q,_,_,_,rfl,rfl,aT.of v,S _ _,_,rfl,_,_,rfl,rfl,_,rfl,q,_,_,_,rfl,rfl,aT.of v,R _ _,_,rfl,_,_,rfl,rfl,(by show 2<=sizeLine;decide),λt ht=>?_⟩;have U:af H2 (upd H2 t (.tup [V.int ((r:Int)+(0+(d:Int))),V.int ((c:Int)+(0+(a:Int)))])):=af.put (af.refl _) ht
    have W:(upd H2 t (.tup [V.int ((r:Int)+(0+(d:Int))),V.int ((c:Int)+(0+(a:Int)))])) t=some (.tup (([Mw ((r+d:Nat):Int),Mw ((c+a:Nat):Int)]:List Key).map kV)):=by
     rw[ae];show some (HO.tup [_,_])=some (HO.tup [_,_]);rw[show((r+d:Nat):Int)=(r:Int)+(0+(d:Int))by lia,show((c+a:Nat):Int)=(c:Int)+(0+(a:Int))by lia];rfl
    dsimp only;generalize upd H2 t (.tup [V.int ((r:Int)+(0+(d:Int))),V.int ((c:Int)+(0+(a:Int)))])=H3 at *;have I:=U _ _ m;refine⟨dd,_,rfl,oa.t I W (small (by lia)),?_⟩;refine(show∃kvs' g,_ from⟨_,_,rfl,Kp.trans (Kp.trans s2 (Kp.of U)) Kp.store,ae,DT.put o (rD T r c w d a),?_⟩);have :=dA l ([Mw ((r+d:Nat):Int),Mw ((c+a:Nat):Int)]:List Key) (V.bl true)
    lia
   ·rintro σ H2 ⟨l,g,rfl,s2,m,o,O⟩;refine⟨l,_,_,rfl,s2,m,(by rw[<-vJ];exact o),by rw[Ql];exact CA⟩
  ·rintro σ H1 ⟨j,L,g,rfl,s1,u,b,G⟩;have Z:h*w<=12*12:=PM b2 b1;rw[vy]at b;exact k j H1 s1 u b (by lia)
theorem tJ:ay ["columns","spans","taken","places","span","place"] ZE (aj GR):=cL
theorem Gi(F:aZ K "put_cells" "put_cells" GR f fd)(G1:aw P w K mg base aO 2 f1 d1 ZC wY)(J1:Cq K mg d1 f1 ZC "first_place")(G2:aw P w K mg base aO 1 f2 d2 ZD wg)(J2:Cq K mg d2 f2 ZD "take"):
  aw P w K mg base aO 3 f fd ZE Fe:=by
 refine F.cS tJ λcdv A outer s H vs Q E hr h=>?_
 ·obtain⟨a,sa,sps,cols,e,ha,hR,D,hc,hl,k⟩:=h;subst e;have R:=hr.mono (j:=1) (by decide)
  refine⟨_,ah (aJ (i:=2) tJ.nd rfl (KB rfl) BV)
   (ah (aJ (i:=3) tJ.nd rfl (KB rfl) (bu ab))
   (ah (cG Ma rfl (dg (pv 1)) (aV (i:=4) tJ.nd rfl (KB rfl))
    (ah (aJ (i:=5) tJ.nd rfl (KB rfl) (pq G1 hr J1 (aa (pv 2) (aa (pv 0) (aa (pv 4) ab)))))
    (ah (bT (pq G2 R J2 (aa (pv 2) (aa (pv 5) (aa (pv 4) ab)))))
    (ai (bT (bV LZ L8 L7 bQ (pv 3) (aa (pv 5) ab)))))))
   (ai (au (pv 3))))),?_⟩
  refineλdd G=>?_;have s1:af H (upd H dd (.dT [])):=af.put (af.refl _) G;have h1:(upd H dd (.dT [])) dd=some (.dT []):=ae;generalize upd H dd (.dT [])=H1 at *;refine⟨az (by simp),λg v=>?_⟩;have s2:af H1 (upd H1 g (.lst [])):=af.put (af.refl _) v;have h2:(upd H1 g (.lst [])) g=some (.lst []):=ae;have ndl:g≠dd:=Da (aM h1 v);have m:H g=none:=same_none s1 v;generalize upd H1 g (.lst [])=H2 at *;have y:=af.trans s1 s2
  have U:sa.length=sps.length:=by rw[hR.1,be]
  refine⟨_,rfl,a,rfl,⟨_,bg.of (y _ _ ha)⟩,gS (K:=K) (a:=a) (xs:=sa.map V.ref) (λi σ J=>∃(kvs:List (List Key×V))(pa:List B3)(N M:Option V),σ=[some (.int (cols:Int)),some (.ref a),some (.ref dd),some (.ref g),N,M]/\af H J/\J dd=some (.dT kvs)/\DT kvs (cI cols sps i).1/\kvs.length<=144*i/\J g=some (.lst (pa.map V.ref))/\bp J pa ((cI cols sps i).2.2.map yS))
   ⟨[],[],none,none,rfl,y,s2 _ _ h1,DT.nil,L5 _,h2,bp.nil⟩ (λi σ J _ a0=>by obtain⟨_,_,_,_,_,z,_⟩:=a0;exact bg.of (z _ _ ha)) ?_ ?_⟩
  ·rintro i x σ H3 hx ⟨kvs,pa,N,M,rfl,L,o,q,W,u,b⟩;obtain⟨p,r,rfl,ep,B,hp⟩:=hR.get hx;rw[B7]at B
   cases d:sps[i]? with
   |none=>rw[d]at B;cases B
   |some sp=>
    rw[d]at B
    cases B
    have hi:=bR d;obtain⟨q1,q2,q3⟩:=D sp (Fk d)
    have eg:sps.getD i (1,1)=sp:=by rw[Ki,d];rfl
    have a3:=mD cols sps (λj=>by
     rw[Ki]
     cases ej:sps[j]? with
     |none=>show 1<=100;decide
     |some s'=>have :=(D s' (Fk ej)).2.2;show s'.2<=100;exact cV) i
    refine⟨_,rfl,_,rfl,_,rfl,dd,p,kvs,_,(cI cols sps i).2.1,cols,sp.1,sp.2,rfl,o,q,kK cols sps i,by lia,L _ _ hp,q1,q2,cV,cV,λt H4 C c=>?_⟩
    have Y:gv (cI cols sps i).1 (cI cols sps i).2.1 (cols-sp.1+1) sp.1 sp.2=lS cols sps i:=by unfold lS;rw[eg]
    rw[Y]at c;have n:=C _ _ o;refine⟨_,rfl,_,rfl,_,rfl,dd,t,p,kvs,_,(lS cols sps i).1,(lS cols sps i).2,sp.1,sp.2,rfl,n,q,c,af.trans L C _ _ hp,by lia,q3,by lia,λX H5 O a1 T a4=>?_⟩
    have S:t≠dd:=λz=>by rw[z,n]at c;cases c
    have I:=O _ _ S c;have l:=O _ _ ndl (C _ _ u);have Z:bp H5 pa ((cI cols sps i).2.2.map yS):=Dr (b.same C) O n;have S5:af H H5:=Kp.same O (af.trans L C) G
    have a2:pa.length=i:=by rw[b.1,be,eB]
    refine⟨_,rfl,.inl ⟨rfl,_,bg.of l⟩,_,rfl,g,_,_,rfl,rfl,l,small (by rw[be];lia),?_⟩;refine(show∃kvs pa N M,_ from⟨X,pa++[t],_,_,rfl,af.put S5 m,?_,?_,by lia,?_,?_⟩)
    ·rw[ak (Da ndl)];exact a1
    ·have e5:(cI cols sps (i+1)).1=cover (cI cols sps i).1 (lS cols sps i).1 (lS cols sps i).2 sp.1 sp.2:=by
      show cover _ _ _ (sps.getD i (1,1)).1 (sps.getD i (1,1)).2=_;unfold lS;rw[eg]
     rw[e5];exact T
    ·rw[ae,Dk];rfl
    ·rw[jS,Dk];exact bp.snoc (zi Z l) (af.refl _) (by rw[ak (gx I l (by intro z;cases z))];exact I)
  ·rintro σ H3 ⟨kvs,pa,N,M,rfl,L,o,q,W,u,b⟩;rw[be,U]at b;exact⟨_,rfl,k g pa H3 m L u b⟩
end
theorem oD(cols:Nat)(sps:List (Nat×Nat)):∀i,i<=sps.length->(cI cols sps i).2.1=((sps.take i).map (·.2)).sum
 |0,_=>rfl
 |i+1,hi=>by
  show(cI cols sps i).2.1+(sps.getD i (1,1)).2=_
  have e:sps[i]? =some (sps.getD i (1,1)):=by rw[Ki,AC (by lia)];rfl
  rw[oD cols sps i (by lia),Oa,e,Dk,QJ];simp
theorem kW{X:Cx}(e:X.K=K){x y:Str}{px py pt:Pos}{kk:Nat}(f:X.calm=true)(c:X.N.Nodup)(h0:X.N[0]? =some x)(h1:X.N[1]? =some y)(hx:X.env.scope.names.lookup x=some .local)(b:X.env.scope.names.lookup y=some .local)(ha:(NZ [.Name x px,.Name y py] X.env).map (·.2)=[O6 (.Name x px) X.env,O6 (.Name y py) X.env]:=by rfl)(d:(NZ [.Name y py] X.env).map (·.2)=[O6 (.Name y py) X.env]:=by rfl)(hn:(NZ [.Name x px,.Name y py] X.env).length=2:=by rfl)(a:(NZ [.Name x px,.Name y py] X.env).findIdx? (·.1)=none:=by rfl):PG X (.Tuple [.Name x px,.Name y py] kk pt) (C5 K):=by
 subst e;exact gG f (bK (aV c h0 (.inl hx) (.inr hx)) (bK (aV c h1 (.inl b) (.inr b)) fo (by rw[d];rfl)) (by rw[ha,d])) hn a
def dS(p:Nat×Nat):D:= .tup [.int (p.1:Int),.int (p.2:Int)]
def IG:V->B3
 | .ref a=>a
 |_=>0
theorem z_(h:At K H v (.tup (sps.map dS))):∃(a:B3)(sa:List B3),v= .ref a/\H a=some (.tup (sa.map V.ref))/\bp H sa (sps.map yS):=by
 cases h with
 | @tup a xs l h hl he=>
  rw[be]at hl
  have f:∀(j:Nat)(x:V),xs[j]? =some x->∃p,sps[j]? =some p/\x= .ref (IG x)/\H (IG x)=some (.tup (yS p)):=λj x ex=>by
   have n:j<sps.length:=by rw[<-hl];exact bR ex
   have ep:=AC n;have hx:=he j x (dS sps[j]) ex (by rw[B7,ep];rfl);refine⟨_,ep,?_⟩
   cases hx with
   | @tup b ys l2 h2 i c=>
    refine⟨rfl,?_⟩
    match ys,i,h2,c with
    |[m,k],_,h2,c=>
     have o:=c 0 m _ rfl rfl;have d:=c 1 k _ rfl rfl
     cases o
     cases d
     exact h2
  refine⟨a,xs.map IG,rfl,?_,?_,λj p r d g=>?_⟩
  ·have e:(xs.map IG).map V.ref=xs:=by
    rw[Mm];refine Qq λj=>?_;rw[B7]
    cases ex:xs[j]? with
    |none=>rfl
    |some x=>
     obtain⟨_,_,e,_⟩:=f j x ex;show some (V.ref (IG x))=some x;rw[<-e]
   rw[e];exact h
  ·rw[be,be,hl]
  ·rw[B7]at d g
   cases ex:xs[j]? with
   |none=>rw[ex]at d;cases d
   |some x=>
    obtain⟨q,eq,_,e⟩:=f j x ex;rw[ex]at d;rw[eq]at g
    cases d
    cases g
    exact e
def gN(l:List (Nat×Nat))(i:Nat):Nat×Nat:=l.getD i (1,1)
theorem xo{l:List (Nat×Nat)}(h:i<l.length):l[i]? =some (gN l i):=by
 unfold gN;rw[Ki,AC h];rfl
inductive BQ(vs:List V)(H:Hp)(Q:VK):Prop
 |mk (a b:B3) (pa sa:List B3) (ps sps:List (Nat×Nat)) (c0:vs=[.ref a,.ref b]) (c1:H a=some (.lst (pa.map V.ref))) (c2:bp H pa (ps.map yS)) (c3:H b=some (.lst (sa.map V.ref))) (c4:bp H sa (sps.map yS)) (c5:ps.length=sps.length) (c6:sps.length<=100) (c7:∀(M:Int)(H':Hp),af H H'->(sps=[]->M=0)->(sps≠[]->(∃i,i<sps.length/\M=((gN ps i).1:Int)+((gN sps i).2:Int))/\∀i,i<sps.length->((gN ps i).1:Int)+((gN sps i).2:Int)<=M)->Q (.int M) H')
def wB:Sp:=λvs H Q _=>BQ vs H Q
inductive Ac(K:mo)(vs:List V)(H:Hp)(Q:VK):Prop
 |mk (v:V) (d0 d1 d2 w0 w1 w2 d4:D) (sps:List (Nat×Nat)) (c0:vs=[v]) (c1:At K H v (.tup [d0,d1,d2,.tup [w0,w1,w2,.tup (sps.map dS)],d4])) (c2:∀(l:B3)(sa:List B3)(H':Hp),H l=none->af H H'->H' l=some (.lst (sa.map V.ref))->bp H' sa (sps.map yS)->Q (.ref l) H')
def qf(K:mo):Sp:=λvs H Q _=>Ac K vs H Q
def vc(sps:List (Nat×Nat)):Nat:=(sps.map (·.2)).sum
def ET(cols:Nat)(sps:List (Nat×Nat)):Prop:=(∀sp∈sps,0<sp.1/\sp.1<=cols/\sp.2<=12)/\cols<=12/\sps.length<=100
inductive uw(K:mo)(vs:List V)(H:Hp)(Q:VK):Prop
 |mk (v:V) (d0 d1 d2 w1 w2 d4:D) (cols:Nat) (sps:List (Nat×Nat)) (c0:vs=[v]) (c1:At K H v (.tup [d0,d1,d2,.tup [.int (cols:Int),w1,w2,.tup (sps.map dS)],d4])) (c2:ET cols sps) (c3:∀(l:B3)(pa:List B3)(H':Hp),af H H'->H' l=some (.lst (pa.map V.ref))->bp H' pa ((cI cols sps sps.length).2.2.map yS)->Q (.ref l) H')
def oP(K:mo):Sp:=λvs H Q _=>uw K vs H Q
inductive vq(K:mo)(vs:List V)(H:Hp)(Q:VK):Prop
 |mk (v:V) (d0 d1 d2 w1 w2 d4:D) (cols:Nat) (sps:List (Nat×Nat)) (c0:vs=[v]) (c1:At K H v (.tup [d0,d1,d2,.tup [.int (cols:Int),w1,w2,.tup (sps.map dS)],d4])) (c2:ET cols sps) (c3:∀(M:Int)(H':Hp),M<=(vc sps:Nat)->af H H'->Q (.int M) H')
def oX(K:mo):Sp:=λvs H Q _=>vq K vs H Q
theorem zN{M:Int}(d:sps=[]->M=0)(g1:sps≠[]->(∃i,i<sps.length/\M=((gN (cI cols sps sps.length).2.2 i).1:Int)+((gN sps i).2:Int))/\∀i,i<sps.length->((gN (cI cols sps sps.length).2.2 i).1:Int)+((gN sps i).2:Int)<=M):M<=(vc sps:Nat):=by
 by_cases e:sps=[]
 ·rw[d e]
  lia
 ·obtain⟨⟨i,hi,c⟩,_⟩:=g1 e;have z:=Bf (cols:=cols) (sps:=sps) hi;have a:(cI cols sps sps.length).2.2[i]? =some (gN (cI cols sps sps.length).2.2 i):=xo (by rw[eB];exact hi);rw[z]at a;rw[<-L6 a]at c;have b:=(Et cols sps i).row;rw[oD cols sps i Lx]at b
  have st:((sps.take i).map (·.2)).sum+(gN sps i).2=((sps.take (i+1)).map (·.2)).sum:=by
   rw[Oa,xo hi,Dk,QJ];simp
  have mono:((sps.take (i+1)).map (·.2)).sum<=vc sps:=by
   unfold vc
   conv=>rhs;rw[<-RY (i+1) sps,Dk,QJ]
   exact IY
  lia
section
variable{w:MM}{tk:Nat->Tok}{ad:Nat->B3}
abbrev Ct:List Str:=Zb
theorem yA:ay Ct Zb (aj ml):=cL
theorem ue(F:aZ K "spans_of" "spans_of" ml f fd)(N:aR mg)(g:aw P w K mg base aO 1 f1 d1 Zb (vN K 3))(i:Cq K mg d1 f1 Zb "what_of"):aw P w K mg base aO 2 f fd Zb (qf K):=by
 refine F.cS yA λcdv A outer s H vs Q E n h=>?_
 ·obtain⟨v,d0,d1,d2,w0,w1,w2,d4,sps,e,c,k⟩:=h;subst e;have a:=n.mono (j:=1) (by decide);refine⟨_,ai (au (aH gn (by rfl) N.list NO (aa (ax av (pq g a i (aa (pv 0) ab)) ag (λ_ _=>rfl)) ab))),?_⟩
  try rw[bZ]
  refine⟨_,rfl,v,_,_,rfl,c,rfl,λx hx=>?_⟩;obtain⟨p,xs,y,rfl,b,d,m⟩:=hx.part (j:=3) rfl;obtain⟨q,sa,rfl,f1,f2⟩:=z_ m;refine⟨p,_,_,_,rfl,rfl,b,d,q,_,rfl,.inr (aT.of f1),λl hl=>?_⟩;have s1:af H (upd H l (.lst (sa.map V.ref))):=af.put (af.refl _) hl;exact k l sa _ hl s1 ae (f2.same s1)
abbrev l_:List Str:=Zr
theorem rF:ay l_ Zr (aj gi):=cL
theorem nL:(["place","span","places","spans"]:List Str).Nodup:=by decide +kernel
theorem pX(F:aZ K "rows_taken" "rows_taken" gi f fd)(N:aR mg):aw P w K mg base aO 1 f fd Zr wB:=by
 refine F.cS rF λcdv A outer s H vs Q E R h=>?_
 ·obtain⟨a,b,pa,sa,ps,sps,e,ha,m,o,n,hl,hn,k⟩:=h;subst e;refine⟨_,ai (au (EG rfl (by rfl) N.max (aa (jb (k:=2) (N':=["place","span","places","spans"]) (fZ (fs:=aj gi) (N:=l_) rfl rfl (by decide +kernel)) rfl (Gq (by rfl) N.zip (aa (pv 0) (aa (pv 1) ab))) (λ_ _ _ _ _=>kW (K:=K) rfl rfl nL rfl rfl rfl rfl) (λ_ _ _ _ _=>bB) (λ_ _ _ _ _=>(aE bM (ax (r:=A2 K) av (pv 0) ag (λ_ _=>rfl)) (ax (r:=A2 K) av (pv 1) ag (λ_ _=>rfl))))) ab) (DI ag FC))),?_⟩
  try rw[bZ]
  have u:pa.length=sps.length:=by rw[m.1,be,hl]
  have O:sa.length=sps.length:=by rw[n.1,be]
  refine⟨_,rfl,_,rfl,a,b,rfl,⟨_,bg.of ha⟩,⟨_,bg.of o⟩,?_⟩;refine yK (K:=K) (a:=a) (b:=b) (xs:=pa.map V.ref) (ys:=sa.map V.ref) (λ_=>true) (λi=>V.int (((gN ps i).1:Int)+((gN sps i).2:Int))) (bg.of ha) (bg.of o) (small (by rw[be,be];lia)) (λi x y H' B _ _ _ l=>l _ (af.refl _)) (λi x y H' B _ ex d s' l=>?_) λI H1 L s1 h1=>?_
  ·rw[B7]at ex d
   cases c:pa[i]? with
   |none=>rw[c]at ex;cases ex
   |some p=>
    cases g:sa[i]? with
    |none=>rw[g]at d;cases d
    |some q=>
     rw[c]at ex;rw[g]at d
     cases ex
     cases d
     have hi:i<sps.length:=by rw[<-u];exact bR c
     have C:H' p=some (.tup (yS (gN ps i))):=s' _ _ (m.2 i p _ c (by rw[B7,xo (by lia)];rfl));have t:H' q=some (.tup (yS (gN sps i))):=s' _ _ (n.2 i q _ g (by rw[B7,xo hi];rfl));exact⟨_,rfl,p,_,_,_,rfl,rfl,aT.of C,aA (j:=0) rfl,_,rfl,q,_,_,_,rfl,rfl,aT.of t,aA (j:=1) rfl,_,_,rfl,rfl,l _ (af.refl _)⟩
  ·have J:min (pa.map V.ref).length (sa.map V.ref).length=sps.length:=by rw[be,be];lia
   rw[J,List.filter_eq_self.mpr λ_ _=>rfl]at h1;refine⟨I,(Me sps.length).map λi=>((gN ps i).1:Int)+((gN sps i).2:Int),0,rfl,rfl,bg.of (by rw[h1,Mm];rfl),λM v G=>k M H1 s1 (λe=>v (by rw[e];rfl)) λe=>?_⟩
   obtain⟨g1,g2⟩:=G λz=>e (by
    have :=congrArg PP z;rw[be,MQ]at this
    exact Mf this)
   obtain⟨i,hi,c⟩:=List.mem_map.mp g1;exact⟨⟨i,List.mem_range.mp hi,c.symm⟩,λj D=>g2 _ (M5 (f:=λi=>((gN ps i).1:Int)+((gN sps i).2:Int)) (List.mem_range.mpr D))⟩
abbrev zZ:List Str:=Zb
theorem yd:ay zZ Zb (aj mC):=cL
theorem tW(F:aZ K "cells_of" "cells_of" mC f fd)(N:aR mg)(u:aw P w K mg base aO 3 f1 d1 ZE Fe)(C:Cq K mg d1 f1 ZE "put_cells")(z:aw P w K mg base aO 1 f2 d2 Zb (vN K 3))(o:Cq K mg d2 f2 Zb "what_of")(r:aw P w K mg base aO 2 f3 d3 Zb (qf K))(t:Cq K mg d3 f3 Zb "spans_of"):aw P w K mg base aO 4 f fd Zb (oP K):=by
 refine F.cS yd λcdv A outer s H vs Q E g h=>?_
 ·obtain⟨v,d0,d1,d2,w1,w2,d4,cols,sps,e,i,b,k⟩:=h;subst e;have a:=g.mono (j:=1) (by decide);have c:=g.mono (j:=2) (by decide);have d:=g.mono (j:=3) (by decide);refine⟨_,ai (au (pq u d C (aa (ax av (pq z a o (aa (pv 0) ab)) ag (λ_ _=>rfl)) (aa (pq r c t (aa (pv 0) ab)) ab)))),?_⟩
  try rw[bZ]
  refine⟨_,rfl,v,_,_,rfl,i,rfl,λx hx=>?_⟩;obtain⟨p,xs,y,rfl,n,q,D⟩:=hx.part (j:=0) rfl
  cases D
  refine⟨p,_,_,_,rfl,rfl,n,q,_,rfl,v,_,_,_,_,_,_,_,sps,rfl,i,λl sa H1 hl s1 h1 G=>?_⟩;exact⟨l,sa,sps,cols,rfl,h1,G,b.1,b.2.1,b.2.2,λm pa H2 hm s2 h2 B=>k m pa H2 (af.trans s1 s2) h2 B⟩
abbrev uW:List Str:=Zb
theorem r_:ay uW Zb (aj iL):=cL
theorem qP(F:aZ K "table_rows" "table_rows" iL f fd)(N:aR mg)(q:aw P w K mg base aO 1 f1 d1 Zr wB)(y:Cq K mg d1 f1 Zr "rows_taken")(u:aw P w K mg base aO 4 f2 d2 Zb (oP K))(n:Cq K mg d2 f2 Zb "cells_of")(o:aw P w K mg base aO 2 f3 d3 Zb (qf K))(p:Cq K mg d3 f3 Zb "spans_of"):aw P w K mg base aO 5 f fd Zb (oX K):=by
 refine F.cS r_ λcdv A outer s H vs Q E d h=>?_
 ·obtain⟨v,d0,d1,d2,w1,w2,d4,cols,sps,e,g,i,k⟩:=h;subst e;have a:=d.mono (j:=1) (by decide);have c:=d.mono (j:=2) (by decide);have b:=d.mono (j:=4) (by decide);refine⟨_,ai (au (pq q a y (aa (pq u b n (aa (pv 0) ab)) (aa (pq o c p (aa (pv 0) ab)) ab)))),?_⟩
  try rw[bZ]
  refine⟨_,rfl,v,_,_,_,_,_,_,cols,sps,rfl,g,i,λm pa H1 s1 h1 z=>?_⟩;refine⟨_,rfl,v,_,_,_,_,_,_,_,sps,rfl,g.same s1,λl sa H2 hl s2 h2 x=>?_⟩;refine⟨m,l,pa,sa,(cI cols sps sps.length).2.2,sps,rfl,s2 _ _ h1,z.same s2,h2,x,eB cols sps _,i.2.2,λM H3 t r g1=>?_⟩;exact k M H3 (zN r g1) (af.trans s1 (af.trans s2 t))
end
def qU(bI:List Str):List (Key×V):=bI.map λn=>(Mp n,V.bl true)
theorem xl(bI:List Str):(qU bI).length=bI.length:=by unfold qU;rw[be]
theorem pP:∀(bI:List Str),(cE (qU bI) (.inr nm)).isSome=decide (nm∈bI)
 |[]=>rfl
 |n::l=>by
  show(cE ((Mp n,V.bl true)::qU l) (.inr nm)).isSome=_;by_cases e:n=nm
  ·subst e;rw[cM rfl,decide_eq_true Do];rfl
  ·rw[cN (λz=>e (OZ z)),pP l];exact decide_eq_decide.mpr ⟨λz=>GE _ z,λz=>(List.mem_cons.mp z).resolve_left (Da e)⟩
theorem KH{bI:List Str}(h:nm∉bI):putK (qU bI) (.inr nm) (.bl true)=qU (bI++[nm]):=by
 rw[lJ (.bl true) (by
  have z:=pP (nm:=nm) bI;rw[decide_eq_false h]at z
  cases e:cE (qU bI) (.inr nm)with
  |none=>rfl
  |some v=>rw[e]at z;cases z)]
 unfold qU;rw[Dk];rfl
def ck(K:mo)(H:Hp)(xs:List V)(ds:List D):Prop:=xs.length=ds.length/\∀(j:Nat)(x:V)(d:D),xs[j]? =some x->ds[j]? =some d->At K H x d
theorem At.K0{dN:B3}(k:Kp dN H H')(f:H dN=some (.lst xs))(c:H' dN=some (.lst ys))(h:At K H v d):At K H' v d:=by
 induction h with
 |non=>exact .non
 |bl b=>exact .bl b
 |int i=>exact .int i
 |str x hx=>exact .str x hx
 |tup h hl _ e=>exact .tup (k _ _ (λz=>by rw[z,f]at h;cases h) h) hl e
 | @oth a es h=>
  by_cases q:a=dN
  ·subst q;exact .oth c
  ·exact .oth (k _ _ q h)
theorem ck.nil:ck K H [] []:=⟨rfl,λj x d e=>nomatch e⟩
theorem ck.same{K:mo}{H H':Hp}{xs:List V}{ds:List D}(h:ck K H xs ds)(s:af H H'):ck K H' xs ds:=⟨h.1,λj x d a b=>(h.2 j x d a b).same s⟩
theorem ck.snoc{x:V}(h:ck K H xs ds)(hx:At K H x d):ck K H (xs++[x]) (ds++[d]):=by
 refine⟨by rw[B1,B1,h.1];rfl,λj y e a b=>?_⟩;by_cases q:j<xs.length
 ·rw[LQ q]at a;rw[LQ (by rw[<-h.1];exact q)]at b;exact h.2 j y e a b
 ·rw[GT (by lia)]at a;rw[GT (by rw[<-h.1];lia),<-h.1]at b
  have c:j-xs.length=0:=by
   have :=bR a;simp at this;exact CA
  rw[c]at a b
  cases a
  cases b
  exact hx
theorem ck.tup{K:mo}{H:Hp}{a:B3}{xs:List V}{ds:List D}(h:ck K H xs ds)(e:H a=some (.tup xs)):At K H (.ref a) (.tup ds):= .tup e h.1 h.2
theorem lq{α:Type}{J:It}{l:List α}{tt:TT}{Q:VK}(inj:α->V)(f:α->D)(q:gA J H (l.map inj))(hn:l.length<sizeLine)(B:∀(x:α)(H':Hp)(h:Bool->Hp->Prop),x∈l->af H H'->(∀a,af H' a->h true a)->tt (some (inj x)::σ) H' h)(he:∀(x:α)(H':Hp)(h:VK),x∈l->af H H'->(∀v a,af H' a->At K a v (f x)->h v a)->te (some (inj x)::σ) H' h)(hd:∀(c:B3)(xs:List V)(H':Hp),H c=none->af H H'->H' c=some (.lst xs)->ck K H' xs (l.map f)->Q (.ref c) H'):fb J H σ tt te Q:=by
 intro c o;refine⟨λi m H'=>m=l.length-i/\i<=l.length/\af H H'/\∃xs:List V,H' c=some (.lst xs)/\ck K H' xs ((l.take i).map f),⟨_,rfl,L5 _,af.kJ (af.refl H) o,[],ae,.nil⟩,?_⟩;rintro i m H' ⟨rfl,hi,s1,xs,hl,n⟩;by_cases b:i<l.length
 ·refine .inr ⟨q.1 i H' s1 (by rw[be];exact b),λx H2 y=>?_⟩;obtain⟨e,u⟩:=q.2.2 i x H' H2 s1 y;subst e;have ex:l[i]? =some l[i]:=AC b;rw[B7,ex]at u
  cases u
  have hm:=Fk ex;generalize l[i]=x at *;refine B x _ _ hm s1 λH3 t=>di (he x _ _ hm (af.trans s1 t) λv H4 r z=>?_);have p:=af.trans t r;have g:=p _ _ hl;have k:=n.same p;have s:Kp c H4 (upd H4 c (.lst (xs++[v]))):=Kp.store;refine⟨_,g,?_,_,Nd _ _ b,rfl,b,af.kJ (af.trans s1 p) o,xs++[v],ae,?_⟩
  ·rw[n.1,be,NI]
   lia
  ·rw[Oa,ex,Dk];exact ck.snoc ⟨k.1,λj x d w A=>(k.2 j x d w A).K0 s g ae⟩ (z.K0 s g ae)
 ·have e:i=l.length:=by lia
  have :=q.2.1 H' s1;rw[be]at this;rw[e];refine .inl ⟨this,?_⟩;rw[e,OH]at n;exact hd c xs H' o s1 hl n
def Ev(K:mo)(σ:St)(H0:Hp)(te:TE)(d:D):Prop:=∀(H:Hp)(Q:VK),af H0 H->(∀v H',af H H'->At K H' v d->Q v H')->te σ H Q
def JU(K:mo)(σ:St)(H0:Hp)(ta:TA)(ds:List D):Prop:=∀(H:Hp)(Q:List V->Hp->Prop),af H0 H->(∀xs H',af H H'->ck K H' xs ds->Q xs H')->ta σ H Q
def K1(K:mo)(σ:St)(H0:Hp)(te:TE)(ds:List D):Prop:=∀(H:Hp)(Q:VK),af H0 H->(∀l xs H',af H H'->H' l=some (.lst xs)->ck K H' xs ds->Q (.ref l) H')->te σ H Q
section
variable{H0:Hp}{e:D}{tb tx tn:TE}{tl:TA}{E:XK}{m n:Int}{x y:Str}
theorem ck.cons{H:Hp}{v:V}{xs:List V}{d:D}{ds:List D}(h:At K H v d)(g:ck K H xs ds):ck K H (v::xs) (d::ds):=by
 refine⟨by rw[B8,B8,g.1],λj y e a b=>?_⟩
 cases j with
 |zero=>cases a;cases b;exact h
 |succ j=>exact g.2 j y e a b
theorem ck.app(h:ck K H xs ds)(g:ck K H ys es):ck K H (xs++ys) (ds++es):=by
 refine⟨by rw[B1,B1,h.1,g.1],λj y e a b=>?_⟩;by_cases q:j<xs.length
 ·rw[LQ q]at a;rw[LQ (by rw[<-h.1];exact q)]at b;exact h.2 j y e a b
 ·rw[GT (by lia)]at a;rw[GT (by rw[<-h.1];lia),<-h.1]at b;exact g.2 _ y e a b
theorem At.tupS(h:At K H v (.tup l)):∃a xs,v= .ref a/\H a=some (.tup xs)/\ck K H xs l:=by
 cases h with
 | @tup a xs l h hl he=>exact⟨a,xs,rfl,h,hl,he⟩
theorem vD(h:σ[i]? =some (some v))(a:At K H0 v d):Ev K σ H0 (iR i) d:=λH Q s k=>⟨v,h,k v H (af.refl _) (a.same s)⟩
theorem eR:JU K σ H0 e_ []:=λH Q _ k=>k _ H (af.refl _) ck.nil
theorem bq(h:Ev K σ H0 te d)(g:JU K σ H0 tl ds):JU K σ H0 (cH te tl) (d::ds):=λH Q s k=>h H _ s λv H1 s1 a=>g H1 _ (af.trans s s1) λxs H2 s2 ha=>k _ H2 (af.trans s1 s2) (ck.cons (a.same s2) ha)
theorem f_(h:JU K σ H0 tl ds)(hl:ds.length<=100000):Ev K σ H0 (Je tl) (.tup ds):=λH Q s k=>h H _ s λxs H1 s1 ha=>⟨az (by rw[ha.1];exact hl),λp a=>k _ _ (af.trans s1 (af.put (af.refl _) a)) (ck.tup (ha.same (af.put (af.refl _) a)) ae)⟩
theorem Ey(h:σ[i]? =some (some (.ref a)))(hl:H0 a=some (.lst xs))(ha:ck K H0 xs ds):K1 K σ H0 (iR i) ds:=λH Q s k=>⟨_,h,k a xs H (af.refl _) (s _ _ hl) (ha.same s)⟩
theorem Hr(h:Ev K σ H0 ta (.tup ds))(g:Ev K σ H0 tb (.tup es))(hl:ds.length+es.length<=100000):Ev K σ H0 (xI (E8 K) ta tb) (.tup (ds++es)):=λH Q s k=>h H _ s λv H1 s1 c=>g H1 _ (af.trans s s1) λu H2 s2 d=>by
 obtain⟨a,xs,rfl,ha,hA⟩:=(c.same s2).tupS;obtain⟨b,ys,rfl,i,hB⟩:=d.tupS;refine⟨a,b,xs,ys,rfl,rfl,aT.of ha,aT.of i,az (by rw[hA.1,hB.1];exact hl),λe=>?_,λ_ e=>?_,λp f=>k _ _ (af.trans s1 (af.trans s2 (af.put (af.refl _) f))) (ck.tup ((hA.app hB).same (af.put (af.refl _) f)) ae)⟩
 ·subst e;have :ds=[]:=Mf hA.1.symm;subst this;exact k _ H2 (af.trans s1 s2) d
 ·subst e;have :es=[]:=Mf hB.1.symm;subst this;rw[FB]at k;exact k _ H2 (af.trans s1 s2) (c.same s2)
theorem gQ(h:K1 K σ H0 te l):Ev K σ H0 (Ao (λxs H Q=>∃p ys,xs=[.ref p]/\((bg K H p ys/\∀l,H l=none->Q (.ref l) (upd H l (.tup ys)))∨(aT K H p ys/\Q (.ref p) H))) (cH te e_)) (.tup l):=λH Q s k=>h H _ s λa xs H1 s1 ha hA=>
 ⟨a,xs,rfl,.inl ⟨bg.of ha,λp b=>k _ _ (af.trans s1 (af.put (af.refl _) b)) (ck.tup (hA.same (af.put (af.refl _) b)) ae)⟩⟩
theorem Ev.ret(h:Ev K σ H te d)(k:∀v H',af H H'->At K H' v d->D0.rt v H'):Dt te D0 σ H:=h H _ (af.refl _) k
theorem Ev.set(h:Ev K σ H te d)(k:∀v H',af H H'->At K H' v d->D0.nx (σ.set i (some v)) H'):BE te (gE i) D0 σ H:=h H _ (af.refl _) k
end
end B09
namespace B09P
open PySem L2 S2 DW
structure Own where
 w0:Int
 w1:Int
 h0:Int
 h1:Int
 gr:Int
 sh:Int
 rk:Int
 al:Int
inductive aX where
 |leaf (a b:Int)
 |lined (k:Nat) (g:Int) (al sd:Str)
 |table (c g:Int) (sd:Str) (sps:List (Int×Int))
 |words (ws:List (List Str)) (j:Int)
 |flow (sds:List Str) (ws:List (List Str)) (j:Int)
 |over (ps:List ((Str×Int)×(Str×Int)))
def aX.kd:aX->Str
 | .leaf _ _=>"leaf"
 | .lined 0 _ _ _=>"row"
 | .lined 1 _ _ _=>"column"
 | .lined _ _ _ _=>"wrap"
 | .table _ _ _ _=>"table"
 | .words _ _=>"words"
 | .flow _ _ _=>"flow"
 | .over _=>"over"
abbrev bx:List (Str×Str):=[("wide","0..1000000"),("high","0..1000000"),("grow","0"),("shrink","1"),("rank","0"),("alike","0"),("wish","0,0"),("columns","1"),("gap","0"),("align","start"),("side","left"),("joint","50"),("span","1,1"),("float","left"),("at","start,0,start,0"),("text","")]
def two(s:Str)(a b:Int):Str:=nS a++(s++nS b)
def jL(ws:List (List Str)):Str:=L1 " " (ws.map (L1 "|"))
def four(p:(Str×Int)×(Str×Int)):Str:=p.1.1++(","++(nS p.1.2++(","++(p.2.1++(","++nS p.2.2)))))
def cD(o:Own):List (Str×Str):=[("wide",two ".." o.w0 o.w1),("high",two ".." o.h0 o.h1),("grow",nS o.gr),("shrink",nS o.sh),("rank",nS o.rk),("alike",nS o.al)]
def bw:aX->List (Str×Str)
 | .leaf a b=>[("wish",two "," a b)]
 | .lined _ g al sd=>[("gap",nS g),("align",al),("side",sd)]
 | .table c g sd _=>[("columns",nS c),("gap",nS g),("side",sd)]
 | .words ws j=>[("text",jL ws),("joint",nS j)]
 | .flow _ ws j=>[("text",jL ws),("joint",nS j)]
 | .over _=>[]
def bG:aX->Nat->List (Str×Str)
 | .table _ _ _ sps,i=>[("span",two "," (sps.getD i (1,1)).1 (sps.getD i (1,1)).2)]
 | .flow sds _ _,i=>[("float",sds.getD i "left")]
 | .over ps,i+1=>[("at",four (ps.getD i (("",0),("",0))))]
 |_,_=>[]
def lk(ps:List (Str×Str))(w:Str):Option Str:=(ps.find? λp=>decide (p.1=w)).map (·.2)
def pick(ps:List (Str×Str))(p:Str×Str):List Str:=if(lk ps p.1).getD p.2=p.2 then[]else[(p.1++"=")++(lk ps p.1).getD p.2]
def rW(c:Str)(a b:Int):List Str:=if(a,b)=((0:Int),(1000000:Int))then[]else[(((c++"=")++nS a)++"..")++nS b]
def nW(b:Str)(a p:Int):List Str:=if a=p then[]else[(b++"=")++nS a]
def eM(o:Own):List Str:=rW "wide" o.w0 o.w1++(rW "high" o.h0 o.h1++(nW "grow" o.gr 0++(nW "shrink" o.sh 1++(nW "rank" o.rk 0++nW "alike" o.al 0))))
def gW(g:Int):List Str:=if g=0 then[]else["gap="++nS g]
def aW(al:Str):List Str:=if al="start"then[]else["align="++al]
def sW(sd:Str):List Str:=if sd="left"then[]else["side="++sd]
def jW(j:Int):List Str:=if j=50 then[]else["joint="++nS j]
def cR:aX->List Str
 | .leaf a b=>if(a,b)=((0:Int),(0:Int))then[]else[(("wish="++nS a)++",")++nS b]
 | .lined _ g al sd=>gW g++(aW al++sW sd)
 | .table c g sd _=>(if c=1 then[]else["columns="++nS c])++(gW g++sW sd)
 | .words _ j=>jW j
 | .flow _ _ j=>jW j
 | .over _=>[]
def ny:aX->Nat->List Str
 | .table _ _ _ sps,i=>if sps.getD i (1,1)=(1,1)then[]else[(("span="++nS (sps.getD i (1,1)).1)++",")++nS (sps.getD i (1,1)).2]
 | .flow sds _ _,i=>if sds.getD i "left"="left"then[]else["float=right"]
 | .over ps,i+1=>if ps.getD i (("",0),("",0))=(((("start":Str),(0:Int)),(("start":Str),(0:Int))):(Str×Int)×(Str×Int))then[]else
   [(((((("at="++(ps.getD i (("",0),("",0))).1.1)++",")++nS (ps.getD i (("",0),("",0))).1.2)++",")++(ps.getD i (("",0),("",0))).2.1)++",")++nS (ps.getD i (("",0),("",0))).2.2]
 |_,_=>[]
def Fn:aX->List Str
 | .words ws _=>if ws=[]then[]else["text="++jL ws]
 | .flow _ ws _=>if ws=[]then[]else["text="++jL ws]
 |_=>[]
def eH(ws:List (List Str)):Prop:=ws.length<=3/\∀w∈ws,1<=w.length/\w.length<=3/\∀x∈w,1<=x.length/\x.length<=4
def bC(i:Int):Prop:=i.natAbs<1000000000
def hJ(p:Str×Int):Prop:=44∉p.1.cps.toList/\p.1.length<=10/\bC p.2
def aX.Good:aX->Prop
 | .leaf a b=>bC a/\bC b
 | .lined _ g al sd=>bC g/\al.length<=10/\sd.length<=10
 | .table c g sd sps=>bC c/\bC g/\sd.length<=10/\∀p∈sps,bC p.1/\bC p.2
 | .words ws j=>eH ws/\bC j
 | .flow sds ws j=>(∀s∈sds,s="left"∨s="right")/\eH ws/\bC j
 | .over ps=>∀p∈ps,hJ p.1/\hJ p.2
def Own.Good(o:Own):Prop:=bC o.w0/\bC o.w1/\bC o.h0/\bC o.h1/\bC o.gr/\bC o.sh/\bC o.rk/\bC o.al
theorem fL(a b:List (Str×Str))(w:Str):lk (a++b) w=(lk a w).or (lk b w):=by
 unfold lk;rw[SH]
 cases a.find? λp=>decide (p.1=w)<;>rfl
theorem uy(ps:List (Str×Str))(w:Str):cE (ps.map λp=>(Mp p.1,V.str p.2)) (Mp w:Key)=(lk ps w).map V.str:=by
 induction ps with
 |nil=>rfl
 |cons p r a=>
  unfold lk;by_cases e:p.1=w
  ·rw[Mc,cM (by rw[e]),Pm (by simpa using e)];rfl
  ·rw[Mc,cN (λz=>e (OZ z)),RM (by simpa using e)];exact a
theorem dd:("..":Str).cps.toList=46::[46]:=by decide +kernel
theorem cm:(",":Str).cps.toList=44::[]:=by decide +kernel
theorem w6:("0..1000000":Str)=two ".." 0 1000000:=by decide +kernel
theorem LJ:("0,0":Str)=two "," 0 0:=by decide +kernel
theorem LG:("1,1":Str)=two "," 1 1:=by decide +kernel
theorem n0:("0":Str)=nS 0:=by decide +kernel
theorem n1:("1":Str)=nS 1:=by decide +kernel
theorem Lc:("50":Str)=nS 50:=by decide +kernel
variable{a b g v:Int}{c i n:Nat}{s x y al sd r:Str}{ps:List (Str×Str)}{ws:List (List Str)}{p:(Str×Int)×(Str×Int)}{eh wh:aX}{H1 H2 H H':Hp}{l f f1 aL aP f2 fK fW f3:B3}{o:HO}{as:List B3}{K:mo}{P:MA}{base:MP}{fd d1 d2 dK dW d3:M9}{mg:Str->Option B5}{w:MM}{C:Str×Str->Prop}{q:Str×Str}{ts:List Str}{xs ys:List V}{Q:VK}{σ:St}
theorem lB{t:List Nat}(h:s.cps.toList=c::t)(g:c<45∨(45<c/\c<48)∨57<c){a' d:Int}:two s a b=two s a' d↔(a,b)=(a',d):=
 ⟨λe=>by obtain⟨h1,h2⟩:=DA h g e;rw[h1,h2],λe=>by injection e with f i;rw[f,i]⟩
theorem fV:nS a=nS b↔a=b:=⟨mz,λe=>by rw[e]⟩
theorem bo{p:Str×Str}{t:Str}(h:lk ps p.1=some t):pick ps p=if t=p.2 then[]else[(p.1++"=")++t]:=by unfold pick;rw[h];rfl
theorem aI{p:Str×Str}(h:lk ps p.1=none):pick ps p=[]:=by unfold pick;rw[h];exact if_pos rfl
theorem eK{α:Type}{a b:Prop}[Decidable a][Decidable b](h:a↔b){x y d:α}(e:y=d):(if a then x else y)=(if b then x else d):=by
 subst e;by_cases c:b
 ·rw[if_pos c,if_pos (h.mpr c)]
 ·rw[if_neg c,if_neg (λz=>c (h.mp z))]
theorem BW(o:Own):lk (cD o) "wide"=some (two ".." o.w0 o.w1)/\lk (cD o) "high"=some (two ".." o.h0 o.h1)/\lk (cD o) "grow"=some (nS o.gr)/\lk (cD o) "shrink"=some (nS o.sh)/\lk (cD o) "rank"=some (nS o.rk)/\lk (cD o) "alike"=some (nS o.al):=
 ⟨by kernel_rfl,by kernel_rfl,by kernel_rfl,by kernel_rfl,by kernel_rfl,by kernel_rfl⟩
theorem tY(o:Own):∀w∈(ZF:List Str),lk (cD o) w=none:=by
 have k:∀ws:List Str,(ws.all λw=>decide (w∉(["wide","high","grow","shrink","rank","alike"]:List Str)))=true->∀w∈ws,lk (cD o) w=none:=λws h w a=>by
  have h1:=of_decide_eq_true (List.all_eq_true.mp h w a);unfold lk;rw[List.find?_eq_none.mpr]
  ·rfl
  ·intro p b e;refine h1 ?_;rw[<-of_decide_eq_true e];exact M5 (f:=(·.1)) b
 exact k _ (by decide +kernel)
theorem mx(wh:aX)(i:Nat):∀w∈(Zj:List Str),lk (bG wh i) w=none:=by
 have k:∀(ps:List (Str×Str)),(∀p∈ps,p.1="span"∨p.1="float"∨p.1="at")->∀ws:List Str,(ws.all λw=>decide (w≠"span"/\w≠"float"/\w≠"at"))=true->∀w∈ws,lk ps w=none:=λps a ws h w c=>by
  obtain⟨h1,h2,d⟩:=of_decide_eq_true (List.all_eq_true.mp h w c);unfold lk;rw[List.find?_eq_none.mpr]
  ·rfl
  ·intro p b e;have e:=of_decide_eq_true e
   rcases a p b with z|z|z<;>rw[z]at e
   ·exact h1 e.symm
   ·exact h2 e.symm
   ·exact d e.symm
 refine k _ (λp a=>?_) _ (by decide +kernel);unfold bG at a
 split at a
 ·rw[List.mem_singleton.mp a];exact .inl rfl
 ·rw[List.mem_singleton.mp a];exact .inr (.inl rfl)
 ·rw[List.mem_singleton.mp a];exact .inr (.inr rfl)
 ·cases a
theorem mi(wh:aX):∀w∈(Zo:List Str),lk (bw wh) w=none:=by
 have k:∀(ps:List (Str×Str)),(∀p∈ps,p.1∈(Zj:List Str))->∀ws:List Str,(ws.all λw=>decide (w∉(Zj:List Str)))=true->∀w∈ws,lk ps w=none:=λps a ws h w c=>by
  have h1:=of_decide_eq_true (List.all_eq_true.mp h w c);unfold lk;rw[List.find?_eq_none.mpr]
  ·rfl
  ·intro p b e;refine h1 ?_;rw[<-of_decide_eq_true e];exact a p b
 refine k _ (λp a=>?_) _ (by decide +kernel)
 cases wh<;>simp only[bw,Mz,Ml,or_false]at a<;>simp only[Mz,Ml,or_false]
 ·rw[a];simp
 ·rcases a with z|z|z<;>rw[z]<;>simp
 ·rcases a with z|z|z<;>rw[z]<;>simp
 ·rcases a with z|z<;>rw[z]<;>simp
 ·rcases a with z|z<;>rw[z]<;>simp
theorem zj{o:Own}{b:List (Str×Str)}{w t:Str}(h:lk (cD o) w=some t):lk (cD o++b) w=some t:=by rw[fL,h];rfl
theorem K9{o:Own}{b c:List (Str×Str)}{w:Str}{t:Option Str}(h:lk (cD o) w=none)(h2:lk c w=none)(a:lk b w=t):lk (cD o++(b++c)) w=t:=by
 rw[fL,h,fL,h2,a]
 cases t<;>rfl
theorem K5{o:Own}{b c:List (Str×Str)}{w:Str}{t:Option Str}(h:lk (cD o) w=none)(h2:lk b w=none)(a:lk c w=t):lk (cD o++(b++c)) w=t:=by
 rw[fL,h,fL,h2,a];rfl
theorem uO(h:1<=x.length):x≠"":=λe=>by
 rw[e]at h;exact absurd h (by decide +kernel)
theorem sV(s:Str):∀{ys:List Str},ys≠[]->(∀y∈ys,1<=y.length)->1<=(L1 s ys).length
 |[],h,_=>absurd rfl h
 |[x],_,h=>h x Do
 |x::y::r,_,h=>by
  rw[wZ,B9];have :=h x Do
  lia
theorem wI(h:eH ws):jL ws=""↔ws=[]:=by
 constructor
 ·intro e
  cases ws with
  |nil=>rfl
  |cons w r=>
   refine absurd e (uO (sV _ (by simp) λy a=>?_));obtain⟨v,b,rfl⟩:=List.mem_map.mp a;obtain⟨h1,_,c⟩:=h.2 v b;exact sV _ (λz=>by rw[z]at h1;exact absurd h1 (by decide)) λx hx=>(c x hx).1
 ·intro e;rw[e];decide +kernel
theorem Ak(h1:hJ p.1)(h2:hJ p.2):four p="start,0,start,0"↔p=(((("start":Str),(0:Int)),(("start":Str),(0:Int))):(Str×Int)×(Str×Int)):=by
 have d:("start,0,start,0":Str)=four ((("start":Str),(0:Int)),(("start":Str),(0:Int))):=by decide +kernel
 have a:44∉("start":Str).cps.toList:=by decide +kernel
 constructor
 ·intro e;rw[d]at e;unfold four at e;obtain⟨f,e⟩:=cut_str h1.1 a cm e;obtain⟨g,e⟩:=cut_str (jm (by decide) _) (jm (by decide) _) cm e;obtain⟨c,b⟩:=cut_str h2.1 a cm e;obtain⟨⟨s1,i1⟩,s2,i2⟩:=p;dsimp only at f g c b;rw[f,mz g,c,mz b]
 ·intro e;rw[e,d]
theorem GH(o:Own)(f:wh.Good)(he:eh.Good):bx.flatMap (pick (cD o++(bw wh++bG eh i)))=eM o++(cR wh++(ny eh i++Fn wh)):=by
 have F:=tY o;have pn:=mx eh i;have S:=mi wh;obtain⟨O,N,T,W,M,L⟩:=BW o
 have x:(46:Nat)<45∨(45<46/\46<48)∨57<46:=by decide
 have v:(44:Nat)<45∨(45<44/\44<48)∨57<44:=by decide
 have V:([("wide","0..1000000"),("high","0..1000000"),("grow","0"),("shrink","1"),("rank","0"),("alike","0")]:List (Str×Str)).flatMap (pick (cD o++(bw wh++bG eh i)))=eM o:=by
  simp only[Mx,NJ,FB];rw[bo (p:=("wide",_)) (zj O),bo (p:=("high",_)) (zj N),bo (p:=("grow",_)) (zj T),bo (p:=("shrink",_)) (zj W),bo (p:=("rank",_)) (zj M),bo (p:=("alike",_)) (zj L)];unfold eM rW nW;dsimp only;rw[w6,n0,n1];refine congr (congrArg _ (eK (lB dd x) ?_)) (congr (congrArg _ (eK (lB dd x) ?_)) (congr (congrArg _ (eK fV rfl)) (congr (congrArg _ (eK fV rfl)) (congr (congrArg _ (eK fV rfl)) (eK fV rfl)))))
  ·unfold two;simp only[fE]
  ·unfold two;simp only[fE]
 have sub:∀w∈(Zj:List Str),w∈(ZF:List Str):=by decide +kernel
 have u:∀w∈(Zo:List Str),w∈(ZF:List Str):=by decide +kernel
 have ew:∀w∈(Zj:List Str),∀t,lk (bw wh) w=t->lk (cD o++(bw wh++bG eh i)) w=t:=λw f t E=>K9 (F w (sub w f)) (pn w f) E;have tV:∀w∈(Zo:List Str),∀t,lk (bG eh i) w=t->lk (cD o++(bw wh++bG eh i)) w=t:=λw f t E=>K5 (F w (u w f)) (S w f) E
 have s:("wish":Str)∈(Zj:List Str):=by decide +kernel
 have q:("columns":Str)∈(Zj:List Str):=by decide +kernel
 have r:("gap":Str)∈(Zj:List Str):=by decide +kernel
 have h:("align":Str)∈(Zj:List Str):=by decide +kernel
 have k:("side":Str)∈(Zj:List Str):=by decide +kernel
 have m:("joint":Str)∈(Zj:List Str):=by decide +kernel
 have l:("text":Str)∈(Zj:List Str):=by decide +kernel
 have k1:("wish":Str)++"="="wish=":=by decide +kernel
 have k2:("columns":Str)++"="="columns=":=by decide +kernel
 have I:("gap":Str)++"="="gap=":=by decide +kernel
 have Q:("align":Str)++"="="align=":=by decide +kernel
 have G:("side":Str)++"="="side=":=by decide +kernel
 have H:("joint":Str)++"="="joint=":=by decide +kernel
 have K:("text":Str)++"="="text=":=by decide +kernel
 have U:("span":Str)++"="="span=":=by decide +kernel
 have P:("float":Str)++"="="float=":=by decide +kernel
 have C:("at":Str)++"="="at=":=by decide +kernel
 have P2:([("wish","0,0"),("columns","1"),("gap","0"),("align","start"),("side","left"),("joint","50")]:List (Str×Str)).flatMap (pick (cD o++(bw wh++bG eh i)))=cR wh:=by
  simp only[Mx,NJ,FB]
  cases wh with
  |leaf a b=>
   rw[bo (p:=("wish",_)) (ew _ s (some (two "," a b)) (by kernel_rfl)),aI (p:=("columns",_)) (ew _ q none (by kernel_rfl)),aI (p:=("gap",_)) (ew _ r none (by kernel_rfl)),aI (p:=("align",_)) (ew _ h none (by kernel_rfl)),aI (p:=("side",_)) (ew _ k none (by kernel_rfl)),aI (p:=("joint",_)) (ew _ m none (by kernel_rfl))];simp only[FB];unfold cR;rw[LJ,k1];exact eK (lB cm v) (by unfold two;simp only[fE])
  |lined n g al sd=>
   rw[aI (p:=("wish",_)) (ew _ s none (by kernel_rfl)),aI (p:=("columns",_)) (ew _ q none (by kernel_rfl)),bo (p:=("gap",_)) (ew _ r (some (nS g)) (by kernel_rfl)),bo (p:=("align",_)) (ew _ h (some al) (by kernel_rfl)),bo (p:=("side",_)) (ew _ k (some sd) (by kernel_rfl)),aI (p:=("joint",_)) (ew _ m none (by kernel_rfl))];simp only[FB,NR];unfold cR gW aW sW;rw[I,Q,G];dsimp only;rw[n0];exact congr (congrArg _ (eK fV rfl)) rfl
  |table c g sd sps=>
   rw[aI (p:=("wish",_)) (ew _ s none (by kernel_rfl)),bo (p:=("columns",_)) (ew _ q (some (nS c)) (by kernel_rfl)),bo (p:=("gap",_)) (ew _ r (some (nS g)) (by kernel_rfl)),aI (p:=("align",_)) (ew _ h none (by kernel_rfl)),bo (p:=("side",_)) (ew _ k (some sd) (by kernel_rfl)),aI (p:=("joint",_)) (ew _ m none (by kernel_rfl))];simp only[FB,NR];unfold cR gW sW;rw[k2,I,G];dsimp only;rw[n0,n1];exact congr (congrArg _ (eK fV rfl)) (congr (congrArg _ (eK fV rfl)) rfl)
  |words ws j=>
   rw[aI (p:=("wish",_)) (ew _ s none (by kernel_rfl)),aI (p:=("columns",_)) (ew _ q none (by kernel_rfl)),aI (p:=("gap",_)) (ew _ r none (by kernel_rfl)),aI (p:=("align",_)) (ew _ h none (by kernel_rfl)),aI (p:=("side",_)) (ew _ k none (by kernel_rfl)),bo (p:=("joint",_)) (ew _ m (some (nS j)) (by kernel_rfl))];simp only[NR];unfold cR jW;rw[H];dsimp only;rw[Lc];exact eK fV rfl
  |flow sds ws j=>
   rw[aI (p:=("wish",_)) (ew _ s none (by kernel_rfl)),aI (p:=("columns",_)) (ew _ q none (by kernel_rfl)),aI (p:=("gap",_)) (ew _ r none (by kernel_rfl)),aI (p:=("align",_)) (ew _ h none (by kernel_rfl)),aI (p:=("side",_)) (ew _ k none (by kernel_rfl)),bo (p:=("joint",_)) (ew _ m (some (nS j)) (by kernel_rfl))];simp only[NR];unfold cR jW;rw[H];dsimp only;rw[Lc];exact eK fV rfl
  |over ps=>
   rw[aI (p:=("wish",_)) (ew _ s none rfl),aI (p:=("columns",_)) (ew _ q none rfl),aI (p:=("gap",_)) (ew _ r none rfl),aI (p:=("align",_)) (ew _ h none rfl),aI (p:=("side",_)) (ew _ k none rfl),aI (p:=("joint",_)) (ew _ m none rfl)];rfl
 have y:("span":Str)∈(Zo:List Str):=by decide +kernel
 have B:("float":Str)∈(Zo:List Str):=by decide +kernel
 have A:("at":Str)∈(Zo:List Str):=by decide +kernel
 have d:bG eh i=[]->ny eh i=[]->([("span","1,1"),("float","left"),("at","start,0,start,0")]:List (Str×Str)).flatMap (pick (cD o++(bw wh++bG eh i)))=ny eh i:=λD R=>by
  simp only[Mx,NJ,FB];rw[aI (p:=("span",_)) (tV _ y none (by rw[D];rfl)),aI (p:=("float",_)) (tV _ B none (by rw[D];rfl)),aI (p:=("at",_)) (tV _ A none (by rw[D];rfl)),R];rfl
 have P3:([("span","1,1"),("float","left"),("at","start,0,start,0")]:List (Str×Str)).flatMap (pick (cD o++(bw wh++bG eh i)))=ny eh i:=by
  cases eh with
  |leaf a b=>exact d rfl rfl
  |lined n g al sd=>exact d rfl rfl
  |words ws j=>exact d rfl rfl
  |table c g sd sps=>
   simp only[Mx,NJ,FB];rw[bo (p:=("span",_)) (tV _ y (some (two "," (sps.getD i (1,1)).1 (sps.getD i (1,1)).2)) (by kernel_rfl)),aI (p:=("float",_)) (tV _ B none (by kernel_rfl)),aI (p:=("at",_)) (tV _ A none (by kernel_rfl))];simp only[FB];unfold ny;rw[LG,U];exact eK (lB cm v) (by unfold two;simp only[fE])
  |flow sds ws j=>
   simp only[Mx,NJ,FB];rw[aI (p:=("span",_)) (tV _ y none (by kernel_rfl)),bo (p:=("float",_)) (tV _ B (some (sds.getD i "left")) (by kernel_rfl)),aI (p:=("at",_)) (tV _ A none (by kernel_rfl))];simp only[FB,NR];unfold ny;rw[P];dsimp only;by_cases c:sds.getD i "left"="left"
   ·rw[if_pos c,if_pos c]
   ·rw[if_neg c,if_neg c]
    have hi:i<sds.length:=by
     rcases Nat.lt_or_ge i sds.length with z|z
     ·exact z
     ·exact absurd (by rw[Ki,OF z];rfl) c
    have hm:sds.getD i "left"∈sds:=by
     rw[Ki,AC hi];exact MY hi
    rcases he.1 _ hm with z|z
    ·exact absurd z c
    ·rw[z];decide +kernel
  |over ps=>
   cases i with
   |zero=>exact d rfl rfl
   |succ i=>
    simp only[Mx,NJ,FB];rw[aI (p:=("span",_)) (tV _ y none (by kernel_rfl)),aI (p:=("float",_)) (tV _ B none (by kernel_rfl)),bo (p:=("at",_)) (tV _ A (some (four (ps.getD i (("",0),("",0))))) (by kernel_rfl))];simp only[NR];unfold ny;rw[C]
    have J:hJ (ps.getD i (("",0),("",0))).1/\hJ (ps.getD i (("",0),("",0))).2:=by
     rw[Ki]
     cases e:ps[i]? with
     |some p=>exact he p (Fk e)
     |none=>exact⟨⟨by decide +kernel,by decide +kernel,by show(0:Nat)<1000000000;decide⟩,⟨by decide +kernel,by decide +kernel,by show(0:Nat)<1000000000;decide⟩⟩
    exact eK (Ak J.1 J.2) (by unfold four;simp only[fE])
 have P4:([("text","")]:List (Str×Str)).flatMap (pick (cD o++(bw wh++bG eh i)))=Fn wh:=by
  simp only[Mx,NJ,FB]
  cases wh with
  |leaf a b=>rw[aI (p:=("text",_)) (ew _ l none (by kernel_rfl))];rfl
  |lined n g al sd=>rw[aI (p:=("text",_)) (ew _ l none (by kernel_rfl))];rfl
  |table c g sd sps=>rw[aI (p:=("text",_)) (ew _ l none (by kernel_rfl))];rfl
  |over ps=>rw[aI (p:=("text",_)) (ew _ l none rfl)];rfl
  |words ws j=>
   rw[bo (p:=("text",_)) (ew _ l (some (jL ws)) (by kernel_rfl)),K];exact eK (wI f.1) rfl
  |flow sds ws j=>
   rw[bo (p:=("text",_)) (ew _ l (some (jL ws)) (by kernel_rfl)),K];exact eK (wI f.2.1) rfl
 rw[<-V,<-P2,<-P3,<-P4,<-Oe,<-Oe,<-Oe];rfl
def top(i:Nat):Mb:=PySem.Challenge.pw_boxgalley_k09_texts_read.main.body.getD i (.Pass ⟨0,0,0,0⟩)
abbrev Fh:Mb:=top 45
abbrev Fd:Mb:=top 46
abbrev pV:Mb:=top 47
abbrev ia:Mb:=top 48
abbrev jz:Mb:=top 49
abbrev jd:Mb:=top 92
abbrev jo:Mb:=top 93
abbrev ud:Mb:=top 94
abbrev ie:Mb:=top 95
abbrev ic:Mb:=top 96
abbrev gY:Mb:=top 97
abbrev ip:Mb:=top 98
abbrev iu:Mb:=top 99
abbrev wq:Mb:=top 112
abbrev wz:Mb:=top 113
abbrev vV:Mb:=top 114
abbrev vP:Mb:=top 115
abbrev wb:Mb:=top 116
abbrev qZ:Mb:=top 117
abbrev mV:Mb:=top 118
abbrev AS:Mb:=top 119
abbrev uo:Mb:=top 120
abbrev qs:Mb:=top 121
abbrev qt:Mb:=top 122
abbrev jy:Mb:=top 123
abbrev AF:Mb:=top 124
abbrev Fi:Mb:=top 125
structure aR(mg:Str->Option B5):Prop where
 len:mg "len"=none
 range:mg "range"=none
 list:mg "list"=none
 tuple:mg "tuple"=none
 min:mg "min"=none
 abs:mg "abs"=none
 enum:mg "enumerate"=none
 str:mg "str"=none
 inst:mg "isinstance"=none
def kS(p:Str×Str):Key×V:=(Mp p.1,V.str p.2)
structure F_(P:MA)(w:MM)(K:mo)(mg:Str->Option B5)(aL aP:B3):Prop where
 mL:mg "LINED"=some (.ref aL)
 sL:∀H,aT K H aL [.str "row",.str "column",.str "wrap"]
 mP:mg "PLAIN"=some (.ref aP)
 dP:sm P w K aP (bx.map kS)
 mI:∃t,mg "INDENT"=some (.str "  " t)
def KT(H H':Hp):Prop:=∀b xs,H b=some (.tup xs)->H' b=some (.tup xs)
theorem KT.trans{H3:Hp}(a:KT H1 H2)(b:KT H2 H3):KT H1 H3:=λx xs e=>b x xs (a x xs e)
theorem KT.same{H H':Hp}(s:af H H'):KT H H':=λb _ e=>s b _ e
theorem KT.lst{H:Hp}{l:B3}{xs ys:List V}(e:H l=some (.lst xs)):KT H (upd H l (.lst ys)):=λb zs h=>by
 rw[ak (gx h e (by intro z;cases z))];exact h
theorem KT.put(e:H l=none):KT H (upd H l o):=λb zs h=>by
 rw[ak (λz=>by rw[z,e]at h;cases h)];exact h
theorem dY{rows:List (List V)}(h:bp H as rows)(k:KT H H'):bp H' as rows:=⟨h.1,λi p r a b=>k _ _ (h.2 i p r a b)⟩
def iI(H:Hp)(a:B3)(o:Own):Prop:=∃u v,H a=some (.tup [.ref u,.ref v,.int o.gr,.int o.sh,.int o.rk,.int o.al])/\H u=some (.tup [.int o.w0,.int o.w1])/\H v=some (.tup [.int o.h0,.int o.h1])
def de(w:List Str):List V:=w.map V.str
def jX(p:Int×Int):List V:=[.int p.1,.int p.2]
def oi(H:Hp)(s:B3)(ws:List (List Str)):Prop:=∃as,H s=some (.tup (as.map V.ref))/\bp H as (ws.map de)
def cJ(H:Hp)(q:B3):aX->Prop
 | .leaf a b=>H q=some (.tup [.int a,.int b])
 | .lined _ g al sd=>H q=some (.tup [.int g,.str al,.str sd])
 | .table c g sd sps=>∃s as,H q=some (.tup [.int c,.int g,.str sd,.ref s])/\H s=some (.tup (as.map V.ref))/\bp H as (sps.map jX)
 | .words ws j=>∃s,H q=some (.tup [.ref s,.int j])/\oi H s ws
 | .flow sds ws j=>∃t s,H q=some (.tup [.ref t,.ref s,.int j])/\H t=some (.tup (de sds))/\oi H s ws
 | .over ps=>∃as:List B3,H q=some (.tup (as.map V.ref))/\as.length=ps.length/\∀(i:Nat)(a:B3)(p:(Str×Int)×(Str×Int)),as[i]? =some a->ps[i]? =some p->∃b c,H a=some (.tup [.ref b,.ref c])/\H b=some (.tup [.str p.1.1,.int p.1.2])/\H c=some (.tup [.str p.2.1,.int p.2.2])
theorem iI.keep(k:KT H H'){a:B3}{o:Own}:iI H a o->iI H' a o:=λ⟨u,v,b,c,d⟩=>⟨u,v,k _ _ b,k _ _ c,k _ _ d⟩
theorem oi.keep(k:KT H H'){a:B3}{o:List (List Str)}:oi H a o->oi H' a o:=λ⟨as,b,c⟩=>⟨as,k _ _ b,dY c k⟩
theorem cJ.keep(k:KT H H'){q:B3}:∀{wh:aX},cJ H q wh->cJ H' q wh
 | .leaf a b,h=>k _ _ h
 | .lined _ g al sd,h=>k _ _ h
 | .table c g sd sps,⟨s,as,d,e,f⟩=>⟨s,as,k _ _ d,k _ _ e,dY f k⟩
 | .words ws j,⟨s,d,e⟩=>⟨s,k _ _ d,e.keep k⟩
 | .flow sds ws j,⟨t,s,d,e,f⟩=>⟨t,s,k _ _ d,k _ _ e,f.keep k⟩
 | .over ps,⟨as,d,e,f⟩=>⟨as,k _ _ d,e,λi a p ha o=>by
   obtain⟨b,c,n,m,l⟩:=f i a p ha o
   exact⟨b,c,k _ _ n,k _ _ m,k _ _ l⟩⟩
structure dF where
 nm:Str
 own:Own
 wh:aX
inductive Fo where
 |nil
 |cons (a:B3) (d:dF) (cs as:Fo)
variable{d:dF}{G:Fo}
namespace Fo
def bt:Fo->List B3
 |nil=>[]
 |cons a _ _ as=>a::as.bt
def cnt:Fo->Nat
 |nil=>0
 |cons _ _ cs as=>cs.cnt+as.cnt+1
def df:Fo->Nat
 |nil=>0
 |cons _ _ cs as=>max (cs.df+1) as.df
def app:Fo->Fo->Fo
 |nil,G=>G
 |cons a d cs as,G=>cons a d cs (as.app G)
def iH(H:Hp)(a:B3)(d:dF)(ts:List B3):Prop:=∃o q p,H a=some (.tup [.str d.wh.kd,.str d.nm,.ref o,.ref q,.ref p])/\iI H o d.own/\cJ H q d.wh/\H p=some (.tup (ts.map V.ref))
def Ok(H:Hp):Fo->Prop
 |nil=>True
 |cons a d cs as=>iH H a d cs.bt/\cs.Ok H/\as.Ok H
def fits:aX->Nat->Prop
 | .table _ _ _ sps,n=>sps.length=n
 | .flow sds _ _,n=>sds.length=n
 | .over ps,n=>n<=ps.length+1
 |_,_=>True
def Good:Fo->Prop
 |nil=>True
 |cons _ d cs as=>(d.wh.Good/\d.own.Good/\d.nm.length<=60/\fits d.wh cs.bt.length)/\cs.Good/\as.Good
theorem iH.keep(k:KT H H'){a:B3}{ts:List B3}:iH H a d ts->iH H' a d ts:=λ⟨o,q,p,b,f,e,c⟩=>⟨o,q,p,k _ _ b,f.keep k,e.keep k,k _ _ c⟩
theorem Ok.keep(k:KT H H'):∀{F:Fo},F.Ok H->F.Ok H'
 |nil,_=>trivial
 |cons a d cs as,⟨e,b,c⟩=>⟨e.keep k,Ok.keep k b,Ok.keep k c⟩
theorem cj(G:Fo):∀F:Fo,(F.app G).bt=F.bt++G.bt
 |nil=>rfl
 |cons a d cs as=>by show a::(as.app G).bt=_;rw[cj G as];rfl
theorem jB(G:Fo):∀F:Fo,(F.app G).cnt=F.cnt+G.cnt
 |nil=>by show G.cnt=0+_;lia
 |cons a d cs as=>by show cs.cnt+(as.app G).cnt+1=cs.cnt+as.cnt+1+_;rw[jB G as];lia
theorem js(G:Fo):∀F:Fo,(F.app G).df=max F.df G.df
 |nil=>by show G.df=max 0 _;lia
 |cons a d cs as=>by show max (cs.df+1) (as.app G).df=max (max (cs.df+1) as.df) _;rw[js G as];lia
theorem pG:∀F:Fo,F.app nil=F
 |nil=>rfl
 |cons a d cs as=>by show cons a d cs (as.app nil)=_;rw[pG as]
theorem lu(G K:Fo):∀F:Fo,(F.app G).app K=F.app (G.app K)
 |nil=>rfl
 |cons a d cs as=>by show cons a d cs ((as.app G).app K)=_;rw[lu G K as];rfl
theorem lI:∀{F:Fo},(F.app G).Ok H↔F.Ok H/\G.Ok H
 |nil=>⟨λh=>⟨trivial,h⟩,λh=>h.2⟩
 |cons a d cs as=>by
  show(_/\_/\(as.app G).Ok H)↔(_/\_/\as.Ok H)/\_;rw[lI (F:=as)];constructor
  ·rintro⟨a,b,c,d⟩;exact⟨⟨a,b,c⟩,d⟩
  ·rintro⟨⟨a,b,c⟩,d⟩;exact⟨a,b,c,d⟩
theorem gL:∀{F:Fo},(F.app G).Good↔F.Good/\G.Good
 |nil=>⟨λh=>⟨trivial,h⟩,λh=>h.2⟩
 |cons a d cs as=>by
  show(_/\_/\(as.app G).Good)↔(_/\_/\as.Good)/\_;rw[gL (F:=as)];constructor
  ·rintro⟨a,b,c,d⟩;exact⟨⟨a,b,c⟩,d⟩
  ·rintro⟨⟨a,b,c⟩,d⟩;exact⟨a,b,c,d⟩
theorem xi:∀F:Fo,F.bt.length<=F.cnt
 |nil=>B6 _
 |cons a d cs as=>by show as.bt.length+1<=cs.cnt+as.cnt+1;have :=xi as;lia
end Fo
def dJ(d:dF)(eh:aX)(i:Nat):List Str:=d.wh.kd::d.nm::(eM d.own++(cR d.wh++(ny eh i++Fn d.wh)))
def cg(d:dF)(n:Nat)(eh:aX)(i:Nat):Str:=lU "  " n++L1 " " (dJ d eh i)
def aY:Fo->Nat->aX->Nat->List Str
 | .nil,_,_,_=>[]
 | .cons _ d cs as,n,eh,i=>cg d n eh i::(aY cs (n+1) d.wh 0++aY as n eh (i+1))
theorem kj(G:Fo)(n:Nat)(eh:aX):∀(F:Fo)(i:Nat),aY (F.app G) n eh i=aY F n eh i++aY G n eh (i+F.bt.length)
 | .nil,i=>rfl
 | .cons a d cs as,i=>by
  show cg d n eh i::(aY cs (n+1) d.wh 0++aY (as.app G) n eh (i+1))=cg d n eh i::(aY cs (n+1) d.wh 0++aY as n eh (i+1))++aY G n eh (i+(as.bt.length+1));rw[kj G n eh as (i+1),show i+1+as.bt.length=i+(as.bt.length+1)by lia,ML,LW]
theorem cU(n:Nat)(eh:aX):∀(F:Fo)(n:Nat)(eh:aX)(i:Nat),(aY F n eh i).length=F.cnt
 | .nil,_,_,_=>rfl
 | .cons a d cs as,n,eh,i=>by
  show(aY cs (n+1) d.wh 0++aY as n eh (i+1)).length+1=cs.cnt+as.cnt+1;rw[B1,cU n eh cs (n+1) d.wh 0,cU n eh as n eh (i+1)]
def LB(n:Nat)(xs:List Str):Prop:=∀x∈xs,x.length<=n
theorem LB.app{a b:List Str}(h1:LB n a)(h2:LB n b):LB n (a++b):=λx hx=>by
 rcases List.mem_append.mp hx with z|z
 ·exact h1 x z
 ·exact h2 x z
theorem LB.nil:LB n []:=λx hx=>nomatch hx
theorem LB.one(h:y.length<=n):LB n [y]:=λx hx=>by rw[List.mem_singleton.mp hx];exact h
theorem LB.ite{c:Prop}[Decidable c](h:y.length<=n):LB n (if c then[]else[y]):=by
 split
 ·exact LB.nil
 ·exact LB.one h
theorem fM{c:Prop}[Decidable c]:(if c then[]else[y]).length<=1:=by split<;>simp
theorem ib(h:eH ws):(jL ws).length<=60:=by
 have h1:∀y∈ws.map (L1 "|"),y.length<=15:=λy a=>by
  obtain⟨v,c,rfl⟩:=List.mem_map.mp a;obtain⟨_,h2,b⟩:=h.2 v c;have :=dG "|" v (B:=4) λx hx=>(b x hx).2
  have e:("|":Str).length=1:=by decide +kernel
  rw[e]at this
  have :v.length*5<=15:=by lia
  lia
 have h2:=dG " " _ h1
 have e:(" ":Str).length=1:=by decide +kernel
 rw[e,be]at h2;have :=h.1
 have :ws.length*16<=48:=by lia
 show(L1 " " (ws.map (L1 "|"))).length<=60
 lia
inductive JI(j:Nat)(vs:List V)(H:Hp)(Q:VK):Prop
 |mk (a:B3) (xs:List V) (v:V) (c0:vs=[.ref a]) (c1:H a=some (.tup xs)) (c2:xs[j]? =some v) (c3:Q v H)
def dM(j:Nat):Sp:=λvs H Q _=>JI j vs H Q
theorem GY:ay Zb Zb (aj Fh):=cL
theorem C8(F:aZ K "kind_of" "kind_of" Fh f fd):aw P w K mg base aO 1 f fd Zb (dM 0):=by
 refine F.cS GY λcdv A outer s H vs Q E c h=>?_
 ·obtain⟨a,xs,v,e,ha,b,k⟩:=h;subst e;exact⟨_,ai (au (ax av (pv 0) ag (λ_ _=>rfl))),_,rfl,a,_,_,_,rfl,rfl,aT.of ha,aA (j:=0) b,k⟩
theorem FF:ay Zb Zb (aj Fd):=cL
theorem DB(F:aZ K "name_of" "name_of" Fd f fd):aw P w K mg base aO 1 f fd Zb (dM 1):=by
 refine F.cS FF λcdv A outer s H vs Q E c h=>?_
 ·obtain⟨a,xs,v,e,ha,b,k⟩:=h;subst e;exact⟨_,ai (au (ax av (pv 0) ag (λ_ _=>rfl))),_,rfl,a,_,_,_,rfl,rfl,aT.of ha,aA (j:=1) b,k⟩
theorem CY:ay Zb Zb (aj pV):=cL
theorem Al(F:aZ K "own_of" "own_of" pV f fd):aw P w K mg base aO 1 f fd Zb (dM 2):=by
 refine F.cS CY λcdv A outer s H vs Q E c h=>?_
 ·obtain⟨a,xs,v,e,ha,b,k⟩:=h;subst e;exact⟨_,ai (au (ax av (pv 0) ag (λ_ _=>rfl))),_,rfl,a,_,_,_,rfl,rfl,aT.of ha,aA (j:=2) b,k⟩
theorem lZ:ay Zb Zb (aj ia):=cL
theorem xM(F:aZ K "what_of" "what_of" ia f fd):aw P w K mg base aO 1 f fd Zb (dM 3):=by
 refine F.cS lZ λcdv A outer s H vs Q E c h=>?_
 ·obtain⟨a,xs,v,e,ha,b,k⟩:=h;subst e;exact⟨_,ai (au (ax av (pv 0) ag (λ_ _=>rfl))),_,rfl,a,_,_,_,rfl,rfl,aT.of ha,aA (j:=3) b,k⟩
theorem yO:ay Zb Zb (aj jz):=cL
theorem uH(F:aZ K "parts_of" "parts_of" jz f fd):aw P w K mg base aO 1 f fd Zb (dM 4):=by
 refine F.cS yO λcdv A outer s H vs Q E c h=>?_
 ·obtain⟨a,xs,v,e,ha,b,k⟩:=h;subst e;exact⟨_,ai (au (ax av (pv 0) ag (λ_ _=>rfl))),_,rfl,a,_,_,_,rfl,rfl,aT.of ha,aA (j:=4) b,k⟩
inductive yz(vs:List V)(H:Hp)(Q:VK):Prop
 |mk (p:B3) (xs:List V) (s:Str) (c0:vs=[.ref p,.str s]) (c1:H p=some (.tup xs)) (c2:xs.length<=10) (c3:(∀x∈xs,pC x)) (c4:s.length<=10) (c5:∀H',af H H'->Q (.str (L1 s (xs.map tS))) H')
def jl:Sp:=λvs H Q _=>yz vs H Q
inductive vt(vs:List V)(H:Hp)(Q:VK):Prop
 |mk (a:B3) (o:Own) (c0:vs=[.ref a]) (c1:iI H a o) (c2:o.Good) (c3:∀(d:B3)(H':Hp),H d=none->af H H'->H' d=some (.dK ((cD o).map kS))->Q (.ref d) H')
def oE:Sp:=λvs H Q _=>vt vs H Q
inductive zJ(vs:List V)(H:Hp)(Q:VK):Prop
 |mk (s:B3) (ws:List (List Str)) (c0:vs=[.ref s]) (c1:oi H s ws) (c2:eH ws) (c3:∀H',af H H'->Q (.str (jL ws)) H')
def wu:Sp:=λvs H Q _=>zJ vs H Q
theorem FL{x:V}(h:pC x):(tS x).length<=60:=by
 cases x with
 |int i=>have :i.natAbs<1000000000:=h;have :=cn this;show(nS i).length<=60;exact cV
 |str x=>exact h
 |_=>exact h.elim
theorem Gg(h:x∉ps.map (·.1)):putK (ps.map kS) (Mp x) (V.str y)=(ps++[(x,y)]).map kS:=by
 have hn:cE (ps.map kS) (Mp x:Key)=none:=by
  show cE (ps.map λp=>(Mp p.1,V.str p.2)) _=none;rw[uy];unfold lk;rw[List.find?_eq_none.mpr]
  ·rfl
  ·intro p a e;exact h (by rw[<-of_decide_eq_true e];exact M5 (f:=(·.1)) a)
 rw[lJ _ hn,Dk];rfl
theorem lV:∀(a ps:List (Str×Str)),((ps++a).map (·.1)).Nodup->(a.map kS).foldl (λb p=>putK b p.1 p.2) (ps.map kS)=(ps++a).map kS
 |[],ps,_=>by rw[FB];rfl
 |q::a,ps,h=>by
  have hn:q.1∉ps.map (·.1):=λz=>by
   rw[Dk,Mc]at h;exact(List.nodup_append.mp h).2.2 _ z _ Do rfl
  show(a.map kS).foldl _ (putK (ps.map kS) (Mp q.1) (V.str q.2))=_;rw[Gg hn,lV a (ps++[(q.1,q.2)]) (by rw[LW];exact h),LW];rfl
theorem dk(h:(ps.map (·.1)).Nodup):kg [] (ps.map kS)=ps.map kS:=lV ps [] h
theorem oR{a:List (Str×Str)}(h:((ps++a).map (·.1)).Nodup):gK (ps.map kS) (a.map kS)=(ps++a).map kS:=lV a ps h
theorem AV(o:Own):((cD o).map (·.1)).Nodup:=by
 show(["wide","high","grow","shrink","rank","alike"]:List Str).Nodup;decide +kernel
theorem fG(s:Str)(a b:Int):L1 s ([V.int a,V.int b].map tS)=two s a b:=EO _ _ _
theorem ja(h1:bC a)(h2:bC b):∀x∈[V.int a,V.int b],pC x:=λx hx=>by
 rcases List.mem_cons.mp hx with z|z
 ·rw[z];exact h1
 ·rw[List.mem_singleton.mp z];exact h2
def wordAt(H:Hp):V->V
 | .ref p=>match H p with
  |some (.tup xs)=> .str (L1 "|" (xs.map tS))
  |_=> .non
 |_=> .non
theorem DX(w:List Str):(de w).map tS=w:=by
 unfold de;rw[Mm];exact QE w
theorem ka{p:B3}{w:List Str}(h:H p=some (.tup (de w))):wordAt H (.ref p)= .str (L1 "|" w):=by
 unfold wordAt;dsimp only;rw[h];dsimp only;rw[DX]
theorem oN(h:bp H as (ws.map de)):(as.map V.ref).map (wordAt H)=(ws.map (L1 "|")).map V.str:=by
 have hl:as.length=ws.length:=by rw[h.1,be]
 apply Qq;intro i;rw[B7,B7,B7,B7]
 cases a:as[i]? with
 |none=>
  have h1:=List.getElem?_eq_none_iff.mp a;rw[OF (l:=ws) (by lia)];rfl
 |some p=>
  have hi:i<ws.length:=by rw[<-hl];exact bR a
  have b:=h.2 i p _ a (by rw[B7,AC hi];rfl);rw[AC hi];show some (wordAt H (.ref p))=some (.str _);rw[ka b]
theorem AO:ay Zl Zl (aj jd):=cL
theorem zh(F:aZ K "joined" "joined" jd f fd)(N:aR mg):aw P w K mg base aO 1 f fd Zl jl:=by
 refine F.cS AO λcdv A outer s H vs Q E n h=>?_
 ·obtain⟨p,xs,d,e,c,hl,hx,g,k⟩:=h;subst e
  refine⟨_,ai (au (bV LS Mt Ms ff (pv 1) (aa (b_ (ba (fs:=aj jd) (N:=Zl) rfl rfl (by decide +kernel)) rfl (eG (pv 0)) (λ_ _ _ _ _=>bB)
   (λ_ _ _ _ _=>aH bj (by rfl) N.str FM (aa (pv 0) ab))) ab))),?_⟩
  refine⟨_,rfl,rfl,_,rfl,p,rfl,⟨_,aT.of c⟩,ke (λx=> .str (tS x)) c (small cV) (λi x H' m ex s1 kk=>⟨_,rfl,x,rfl,hx x (Fk ex),kk _ (af.refl _)⟩) λD H' l s1 a=>?_⟩;refine⟨d,D,xs.map tS,rfl,rfl,bg.of (by rw[a,Mm];rfl),?_,k H' s1⟩
  have h1:=fu (xs.map tS) (B:=60) λy j=>by
   obtain⟨x,b,rfl⟩:=List.mem_map.mp j;exact FL (hx x b)
  rw[be]at h1⊢;have :xs.length*d.length<=10*10:=PM hl g
  lia
theorem xV:ay ["own"] ["own"] (aj jo):=cL
theorem ua(F:aZ K "own_told" "own_told" jo f fd)(N:aR mg)(n:aw P w K mg base aO 1 f1 d1 Zl jl)(l:Cq K mg d1 f1 Zl "joined"):aw P w K mg base aO 2 f fd ["own"] oE:=by
 refine F.cS xV λcdv A outer s H vs Q E m h=>?_
 ·obtain⟨a,o,e,⟨u,v,ha,C,q⟩,⟨g1,g2,g3,r,x,z,B,y⟩,k⟩:=h;subst e
  refine⟨_,ai (au (eU (bJ aq (pq n m l (aa (ax av (pv 0) ag (λ_ _=>rfl)) (aa aq ab)))
   (bJ aq (pq n m l (aa (ax av (pv 0) ag (λ_ _=>rfl)) (aa aq ab)))
   (bJ aq (aH bj (by rfl) N.str FM (aa (ax av (pv 0) ag (λ_ _=>rfl)) ab))
   (bJ aq (aH bj (by rfl) N.str FM (aa (ax av (pv 0) ag (λ_ _=>rfl)) ab))
   (bJ aq (aH bj (by rfl) N.str FM (aa (ax av (pv 0) ag (λ_ _=>rfl)) ab))
   (bJ aq (aH bj (by rfl) N.str FM (aa (ax av (pv 0) ag (λ_ _=>rfl)) ab)) eL)))))) rfl rfl (by simp) (by decide))),?_⟩
  intro p g;have s1:af H (upd H p (.dK [])):=af.put (af.refl _) g;have h1:(upd H p (.dK [])) p=some (.dK []):=ae;generalize upd H p (.dK [])=H1 at *;refine⟨_,rfl,a,_,_,_,rfl,rfl,aT.of (s1 _ _ ha),aA (j:=0) rfl,u,_,"..",rfl,s1 _ _ C,(by show 2<=10;decide),ja g1 g2,by decide +kernel,λH2 s2=>?_⟩;have b:=s1.trans s2;refine⟨_,rfl,a,_,_,_,rfl,rfl,aT.of (b _ _ ha),aA (j:=1) rfl,v,_,"..",rfl,b _ _ q,(by show 2<=10;decide),ja g3 r,by decide +kernel,λH3 i=>?_⟩;have c:=b.trans i;have d:=aT.of (K:=K) (c _ _ ha);refine⟨_,rfl,a,_,_,_,rfl,rfl,d,aA (j:=2) rfl,_,rfl,x,_,rfl,a,_,_,_,rfl,rfl,d,aA (j:=3) rfl,_,rfl,z,_,rfl,a,_,_,_,rfl,rfl,d,aA (j:=4) rfl,_,rfl,B,_,rfl,a,_,_,_,rfl,rfl,d,aA (j:=5) rfl,_,rfl,y,?_⟩;have t:=(s2.trans i) _ _ h1;refine⟨t,(cD o).map kS,?_,(by show 6<=15;decide),?_⟩
  ·rw[fG,fG];rfl
  ·rw[dk (AV o)];exact k p _ g (af.put c g) ae
theorem EE:ay ["words"] ["words"] (aj ud):=cL
theorem Bc(F:aZ K "words_text" "words_text" ud f fd):aw P w K mg base aO 1 f fd ["words"] wu:=by
 refine F.cS EE λcdv A outer s H vs Q E u h=>?_
 ·obtain⟨o,ws,e,⟨as,g,a⟩,d,k⟩:=h;subst e
  have hl:as.length=ws.length:=by rw[a.1,be]
  have g1:=d.1
  refine⟨_,ai (au (bV LS Mt Ms ff aq (aa (b_ (ba (fs:=aj ud) (N:=["words"]) rfl rfl (by decide +kernel)) rfl (eG (pv 0)) (λ_ _ _ _ _=>bB)
   (λ_ _ _ _ _=>qe (K:=K) (r:=jR K) LS Mt Ms jU aq (aa (pv 0) ab))) ab))),?_⟩
  refine⟨rfl,_,rfl,o,rfl,⟨_,aT.of g⟩,ke (wordAt H) g (small (by rw[be];lia)) (λi x H' t ex s1 kk=>?_) λD H' q s1 c=>?_⟩
  ·rw[B7]at ex;obtain⟨p,j,rfl⟩:=Option.map_eq_some_iff.mp ex
   have hi:i<ws.length:=by rw[<-hl];exact bR j
   have b:=a.2 i p _ j (by rw[B7,AC hi];rfl);obtain⟨w1,w2,m⟩:=d.2 _ (MY hi);rw[ka b]at kk;refine⟨rfl,_,rfl,"|",p,ws[i],rfl,rfl,aT.of (s1 _ _ b),?_,kk H' (af.refl _)⟩;have h1:=fu ws[i] (B:=4) λy b=>(m y b).2
   have e:("|":Str).length=1:=by decide +kernel
   rw[e]
   lia
  ·rw[oN a]at c;refine⟨" ",D,ws.map (L1 "|"),rfl,rfl,bg.of c,?_,k H' s1⟩
   have h1:=fu (ws.map (L1 "|")) (B:=15) λy b=>by
    obtain⟨v,l,rfl⟩:=List.mem_map.mp b;obtain⟨_,h2,n⟩:=d.2 v l;have :=dG "|" v (B:=4) λx hx=>(n x hx).2
    have e:("|":Str).length=1:=by decide +kernel
    rw[e]at this
    lia
   have e:(" ":Str).length=1:=by decide +kernel
   rw[e];rw[be]at h1⊢
   lia
abbrev L3:List V:=[.str "row",.str "column",.str "wrap"]
inductive tL(vs:List V)(H:Hp)(Q:VK):Prop
 |mk (q:B3) (wh:aX) (c0:vs=[.str wh.kd,.ref q]) (c1:cJ H q wh) (c2:wh.Good) (c3:∀(d:B3)(H':Hp),H d=none->af H H'->H' d=some (.dK ((bw wh).map kS))->Q (.ref d) H')
def lE:Sp:=λvs H Q _=>tL vs H Q
inductive ry(vs:List V)(H:Hp)(Q:VK):Prop
 |mk (a:B3) (d:dF) (ts:List B3) (i:Nat) (c0:vs=[.ref a,.int (i:Int)]) (c1:Fo.iH H a d ts) (c2:d.wh.Good) (c3:Fo.fits d.wh ts.length) (c4:i<ts.length) (c5:∀(p:B3)(H':Hp),H p=none->af H H'->H' p=some (.dK ((bG d.wh i).map kS))->Q (.ref p) H')
def mw:Sp:=λvs H Q _=>ry vs H Q
theorem Jw:gB (.str "row") L3=true:=by decide +kernel
theorem Jn:gB (.str "column") L3=true:=by decide +kernel
theorem GP:gB (.str "wrap") L3=true:=by decide +kernel
theorem Gx:gB (.str "leaf") L3=false:=by decide +kernel
theorem wL:gB (.str "table") L3=false:=by decide +kernel
theorem inWords:gB (.str "words") L3=false:=by decide +kernel
theorem Ad:gB (.str "flow") L3=false:=by decide +kernel
theorem BJ:gB (.str "over") L3=false:=by decide +kernel
theorem dr{a b:Str}(h:a≠b):decide (V.str a=V.str b)=false:=decide_eq_false λz=>h (V.str.inj z)
theorem qR{a:Str}:decide (V.str a=V.str a)=true:=decide_eq_true rfl
theorem tl:("table":Str)≠"leaf":=by decide +kernel
theorem wl:("words":Str)≠"leaf":=by decide +kernel
theorem wt:("words":Str)≠"table":=by decide +kernel
theorem fl:("flow":Str)≠"leaf":=by decide +kernel
theorem ft:("flow":Str)≠"table":=by decide +kernel
theorem fw:("flow":Str)≠"words":=by decide +kernel
theorem ol:("over":Str)≠"leaf":=by decide +kernel
theorem ot:("over":Str)≠"table":=by decide +kernel
theorem ow:("over":Str)≠"words":=by decide +kernel
theorem JV:("over":Str)≠"flow":=by decide +kernel
theorem lt':("leaf":Str)≠"table":=by decide +kernel
theorem KQ:("leaf":Str)≠"flow":=by decide +kernel
theorem Lf:("leaf":Str)≠"over":=by decide +kernel
theorem Kw:("words":Str)≠"flow":=by decide +kernel
theorem K_:("words":Str)≠"over":=by decide +kernel
theorem Fg{k:Nat}:(aX.lined k g al sd).kd≠"table"/\(aX.lined k g al sd).kd≠"flow"/\(aX.lined k g al sd).kd≠"over"/\(aX.lined k g al sd).kd≠"leaf"/\(aX.lined k g al sd).kd≠"words":=by
 have h:(aX.lined k g al sd).kd="row"∨(aX.lined k g al sd).kd="column"∨(aX.lined k g al sd).kd="wrap":=by
  match k with
  |0=>exact .inl rfl
  |1=>exact .inr (.inl rfl)
  |k+2=>exact .inr (.inr rfl)
 rcases h with h|h|h<;>rw[h]<;>decide +kernel
theorem sk{k:Nat}:gB (.str (aX.lined k g al sd).kd) L3=true:=by
 match k with
 |0=>exact Jw
 |1=>exact Jn
 |k+2=>exact GP
theorem kd_len(wh:aX):wh.kd.length<=10:=by
 have :wh.kd∈(["leaf","row","column","wrap","table","words","flow","over"]:List Str):=by
  cases wh with
  |lined k g al sd=>
   match k with
   |0=>simp[aX.kd]
   |1=>simp[aX.kd]
   |k+2=>simp[aX.kd]
  |_=>simp[aX.kd]
 revert this
 generalize wh.kd=x
 revert x
 decide +kernel
theorem yt(p:(Str×Int)×(Str×Int)):L1 "," ([V.str p.1.1,V.int p.1.2,V.str p.2.1,V.int p.2.2].map tS)=four p:=by
 show L1 "," [p.1.1,nS p.1.2,p.2.1,nS p.2.2]=_;rw[wZ,wZ,EO];rfl
theorem lW{c:Int}{sps:List (Int×Int)}{p:Int×Int}(h:sps[i]? =some p):bG (.table c g sd sps) i=[(("span":Str),two "," p.1 p.2)]:=by
 show[(("span":Str),two "," (sps.getD i (1,1)).1 (sps.getD i (1,1)).2)]=_;rw[Ki,h];rfl
theorem oB{sds:List Str}{j:Int}{p:Str}(h:sds[i]? =some p):bG (.flow sds ws j) i=[(("float":Str),p)]:=by
 show[(("float":Str),sds.getD i "left")]=_;rw[Ki,h];rfl
theorem oz{ps:List ((Str×Int)×(Str×Int))}(h:ps[i]? =some p):bG (.over ps) (i+1)=[(("at":Str),four p)]:=by
 show[(("at":Str),four (ps.getD i (("",0),("",0))))]=_;rw[Ki,h];rfl
theorem vv:ay Zs Zs (aj ie):=cL
theorem tf(F:aZ K "what_told" "what_told" ie f fd)(N:aR mg)(G:F_ P w K mg aL aP)(B:aw P w K mg base aO 1 f1 d1 Zl jl)(z:Cq K mg d1 f1 Zl "joined")(y:aw P w K mg base aO 1 f2 d2 ["words"] wu)(x:Cq K mg d2 f2 ["words"] "words_text"):aw P w K mg base aO 2 f fd Zs lE:=by
 refine F.cS vv λcdv A outer s H vs Q E u h=>?_
 ·obtain⟨q,wh,e,l,o,k⟩:=h;subst e
  refine⟨_,ah (aQ (aB (r:=uK K false) cu (pv 0) (aU (v:= .ref aL) (by rfl) G.mL rfl) (by rfl))
    (ai (au (eU (bJ aq (aH bj (by rfl) N.str FM (aa (ax av (pv 1) ag (λ_ _=>rfl)) ab)) (bJ aq (ax av (pv 1) ag (λ_ _=>rfl)) (bJ aq (ax av (pv 1) ag (λ_ _=>rfl)) eL))) rfl rfl (by simp) (by decide)))) aC)
   (ah (aQ (aB bD (pv 0) aq (aG _)) (ai (au (eU (bJ aq (pq B u z (aa (pv 1) (aa aq ab))) eL) rfl rfl (by simp) (by decide)))) aC)
   (ah (aQ (aB bD (pv 0) aq (aG _)) (ai (au (eU (bJ aq (aH bj (by rfl) N.str FM (aa (ax av (pv 1) ag (λ_ _=>rfl)) ab)) (bJ aq (aH bj (by rfl) N.str FM (aa (ax av (pv 1) ag (λ_ _=>rfl)) ab)) (bJ aq (ax av (pv 1) ag (λ_ _=>rfl)) eL))) rfl rfl (by simp) (by decide)))) aC)
   (ah (aQ (aB bD (pv 0) aq (aG _)) (ai (au (eU (bJ aq (pq y u x (aa (ax av (pv 1) ag (λ_ _=>rfl)) ab)) (bJ aq (aH bj (by rfl) N.str FM (aa (ax av (pv 1) ag (λ_ _=>rfl)) ab)) eL)) rfl rfl (by simp) (by decide)))) aC)
   (ah (aQ (aB bD (pv 0) aq (aG _)) (ai (au (eU (bJ aq (pq y u x (aa (ax av (pv 1) ag (λ_ _=>rfl)) ab)) (bJ aq (aH bj (by rfl) N.str FM (aa (ax av (pv 1) ag (λ_ _=>rfl)) ab)) eL)) rfl rfl (by simp) (by decide)))) aC)
   (ai (au hE)))))),?_⟩
  have put:∀{p:B3},H p=none->af H (upd H p (.dK [])):=λd=>af.put (af.refl _) d;refine⟨_,rfl,aL,_,rfl,.inr (G.sL _),rfl,rfl,_,rfl,?_⟩
  cases wh with
  |lined n g al sd=>
   refine cF sk λp d=>?_;have i:(upd H p (.dK [])) q=some (.tup [.int g,.str al,.str sd]):=put d _ _ l;refine⟨_,rfl,q,_,_,_,rfl,rfl,aT.of i,aA (j:=0) rfl,_,rfl,o.1,_,rfl,q,_,_,_,rfl,rfl,aT.of i,aA (j:=1) rfl,_,rfl,q,_,_,_,rfl,rfl,aT.of i,aA (j:=2) rfl,ae,(bw (.lined n g al sd)).map kS,rfl,(by show 3<=15;decide),?_⟩;rw[dk (ps:=bw (.lined n g al sd)) (show(["gap","align","side"]:List Str).Nodup by decide +kernel)];exact k p _ d (af.put (put d) d) ae
  |leaf a b=>
   refine aN Gx ⟨_,rfl,rfl,_,rfl,cF qR λp d=>?_⟩;refine⟨_,rfl,q,_,",",rfl,put d _ _ l,(by show 2<=10;decide),ja o.1 o.2,by decide +kernel,λH2 s2=>⟨s2 _ _ ae,(bw (.leaf a b)).map kS,by rw[fG];rfl,(by show 1<=15;decide),?_⟩⟩;rw[dk (ps:=bw (.leaf a b)) (show(["wish"]:List Str).Nodup by decide +kernel)];exact k p _ d (af.put ((put d).trans s2) d) ae
  |table c g sd sps=>
   obtain⟨sp,as,l,_⟩:=l;refine aN wL ⟨_,rfl,rfl,_,rfl,aN (dr tl) ⟨_,rfl,rfl,_,rfl,cF qR λp d=>?_⟩⟩;have i:=put d _ _ l;refine⟨_,rfl,q,_,_,_,rfl,rfl,aT.of i,aA (j:=0) rfl,_,rfl,o.1,_,rfl,q,_,_,_,rfl,rfl,aT.of i,aA (j:=1) rfl,_,rfl,o.2.1,_,rfl,q,_,_,_,rfl,rfl,aT.of i,aA (j:=2) rfl,ae,(bw (.table c g sd sps)).map kS,rfl,(by show 3<=15;decide),?_⟩;rw[dk (ps:=bw (.table c g sd sps)) (show(["columns","gap","side"]:List Str).Nodup by decide +kernel)];exact k p _ d (af.put (put d) d) ae
  |words ws j=>
   obtain⟨sp,l,t⟩:=l;refine aN inWords ⟨_,rfl,rfl,_,rfl,aN (dr wl) ⟨_,rfl,rfl,_,rfl,aN (dr wt) ⟨_,rfl,rfl,_,rfl,cF qR λp d=>?_⟩⟩⟩;have s1:=put d;refine⟨_,rfl,q,_,_,_,rfl,rfl,aT.of (s1 _ _ l),aA (j:=0) rfl,sp,ws,rfl,t.keep (KT.same s1),o.1,λH2 s2=>?_⟩;have m:=s1.trans s2;refine⟨_,rfl,q,_,_,_,rfl,rfl,aT.of (m _ _ l),aA (j:=1) rfl,_,rfl,o.2,s2 _ _ ae,(bw (.words ws j)).map kS,rfl,(by show 2<=15;decide),?_⟩;rw[dk (ps:=bw (.words ws j)) (show(["text","joint"]:List Str).Nodup by decide +kernel)];exact k p _ d (af.put m d) ae
  |flow sds ws j=>
   obtain⟨D,sp,l,C,t⟩:=l;refine aN Ad ⟨_,rfl,rfl,_,rfl,aN (dr fl) ⟨_,rfl,rfl,_,rfl,aN (dr ft) ⟨_,rfl,rfl,_,rfl,aN (dr fw) ⟨_,rfl,rfl,_,rfl,cF qR λp d=>?_⟩⟩⟩⟩;have s1:=put d;refine⟨_,rfl,q,_,_,_,rfl,rfl,aT.of (s1 _ _ l),aA (j:=1) rfl,sp,ws,rfl,t.keep (KT.same s1),o.2.1,λH2 s2=>?_⟩;have m:=s1.trans s2;refine⟨_,rfl,q,_,_,_,rfl,rfl,aT.of (m _ _ l),aA (j:=2) rfl,_,rfl,o.2.2,s2 _ _ ae,(bw (.flow sds ws j)).map kS,rfl,(by show 2<=15;decide),?_⟩;rw[dk (ps:=bw (.flow sds ws j)) (show(["text","joint"]:List Str).Nodup by decide +kernel)];exact k p _ d (af.put m d) ae
  |over ps=>
   refine aN BJ ⟨_,rfl,rfl,_,rfl,aN (dr ol) ⟨_,rfl,rfl,_,rfl,aN (dr ot) ⟨_,rfl,rfl,_,rfl,aN (dr ow) ⟨_,rfl,rfl,_,rfl,aN (dr JV) ?_⟩⟩⟩⟩;intro p d;exact k p _ d (put d) ae
theorem iP:ay ["elder","place","what","pair"] ZG (aj ic):=cL
theorem rB(F:aZ K "part_told" "part_told" ic f fd)(R:aw P w K mg base aO 1 f1 d1 Zl jl)(T:Cq K mg d1 f1 Zl "joined")(I:aw P w K mg base aO 1 fK dK Zb (dM 0))(J:Cq K mg dK fK Zb "kind_of")(GW:aw P w K mg base aO 1 fW dW Zb (dM 3))(JW:Cq K mg dW fW Zb "what_of"):aw P w K mg base aO 2 f fd ZG mw:=by
 refine F.cS iP λcdv A outer s H vs Q E B h=>?_
 ·obtain⟨a,d,ts,i,e,⟨ao,q,ap,ha,_,v,_⟩,G,u,hi,k⟩:=h;subst e
  refine⟨_,ah (aJ (i:=2) iP.nd rfl (KB rfl) (pq GW B JW (aa (pv 0) ab)))
   (ah (aQ (aB bD (pq I B J (aa (pv 0) ab)) aq (aG _)) (ai (au (eU (bJ aq (pq R B T (aa (ax av (ax av (pv 2) ag (λ_ _=>rfl)) (pv 1) (λ_ _=>rfl)) (aa aq ab))) eL) rfl rfl (by simp) (by decide)))) aC)
   (ah (aQ (aB bD (pq I B J (aa (pv 0) ab)) aq (aG _)) (ai (au (eU (bJ aq (ax av (ax av (pv 2) ag (λ_ _=>rfl)) (pv 1) (λ_ _=>rfl)) eL) rfl rfl (by simp) (by decide)))) aC)
   (ah (aQ (bY (aB bD (pq I B J (aa (pv 0) ab)) aq (aG _)) (bS (aB kv (pv 1) ag (aG _)))).pt
    (ah (aJ (i:=3) iP.nd rfl (KB rfl) (ax av (pv 2) (aE eE (pv 1) ag) (λ_ _=>rfl)))
    (ai (au (eU (bJ aq (pq R B T (aa (aE wH (ax av (pv 3) ag (λ_ _=>rfl)) (ax av (pv 3) ag (λ_ _=>rfl))) (aa aq ab))) eL) rfl rfl (by simp) (by decide))))) aC)
   (ai (au hE))))),?_⟩
  refine⟨_,rfl,a,_,_,rfl,ha,rfl,_,rfl,a,_,_,rfl,ha,rfl,rfl,_,rfl,?_⟩;have put:∀{p:B3},H p=none->af H (upd H p (.dK [])):=λl=>af.put (af.refl _) l
  cases e:d.wh with
  |lined n g al sd=>
   rw[e]at k;obtain⟨Z,z2,U,_⟩:=Fg (k:=n) (g:=g) (al:=al) (sd:=sd);exact aN (dr Z) ⟨_,rfl,a,_,_,rfl,ha,rfl,rfl,_,rfl,aN (by rw[e];exact dr z2) ⟨_,rfl,a,_,_,rfl,ha,rfl,rfl,_,rfl,aN (by rw[e];exact dr U) (bA λp l=>k p _ l (put l) ae)⟩⟩
  |leaf x y=>
   rw[e]at k;exact aN (dr lt') ⟨_,rfl,a,_,_,rfl,ha,rfl,rfl,_,rfl,aN (by rw[e];exact dr KQ) ⟨_,rfl,a,_,_,rfl,ha,rfl,rfl,_,rfl,aN (by rw[e];exact dr Lf) (bA λp l=>k p _ l (put l) ae)⟩⟩
  |words ws j=>
   rw[e]at k;exact aN (dr wt) ⟨_,rfl,a,_,_,rfl,ha,rfl,rfl,_,rfl,aN (by rw[e];exact dr Kw) ⟨_,rfl,a,_,_,rfl,ha,rfl,rfl,_,rfl,aN (by rw[e];exact dr K_) (bA λp l=>k p _ l (put l) ae)⟩⟩
  |table c g sd sps=>
   rw[e]at k v G u;obtain⟨sp,as,D,Y,r⟩:=v
   have hl:as.length=sps.length:=by rw[r.1,be]
   have C:sps.length=ts.length:=u;refine cF qR λp l=>?_;have s1:=put l
   have o:i<as.length:=by lia
   have m:i<sps.length:=by lia
   have hp1:=r.2 i as[i] _ (AC o) (by rw[B7,AC m];rfl);obtain⟨g1,g2⟩:=G.2.2.2 _ (MY m);refine⟨_,rfl,q,_,_,_,rfl,rfl,aT.of (s1 _ _ D),aA (j:=3) rfl,_,rfl,sp,_,_,_,rfl,rfl,aT.of (s1 _ _ Y),aA (j:=i) (by rw[B7,AC o];rfl),as[i],_,",",rfl,s1 _ _ hp1,(by show 2<=10;decide),ja g1 g2,by decide +kernel,λH2 s2=>⟨s2 _ _ ae,(bG (.table c g sd sps) i).map kS,?_,(by show 1<=15;decide),?_⟩⟩
   ·rw[show L1 "," ((jX sps[i]).map tS)=two "," sps[i].1 sps[i].2 from fG _ _ _];rw[lW (AC m)];rfl
   ·rw[dk (ps:=bG (.table c g sd sps) i) (show(["span"]:List Str).Nodup by decide +kernel)];exact k p _ l (af.put (s1.trans s2) l) ae
  |flow sds ws j=>
   rw[e]at k v G u;obtain⟨tp,sp,D,M,_⟩:=v;have C:sds.length=ts.length:=u;refine aN (dr ft) ⟨_,rfl,a,_,_,rfl,ha,rfl,rfl,_,rfl,cF (by rw[e];exact qR) λp l=>?_⟩;have s1:=put l
   have m:i<sds.length:=by lia
   refine⟨_,rfl,q,_,_,_,rfl,rfl,aT.of (s1 _ _ D),aA (j:=0) rfl,_,rfl,tp,_,_,_,rfl,rfl,aT.of (s1 _ _ M),aA (j:=i) (by unfold de;rw[B7,AC m];rfl),ae,(bG (.flow sds ws j) i).map kS,?_,(by show 1<=15;decide),?_⟩
   ·rw[oB (AC m)];rfl
   ·rw[dk (ps:=bG (.flow sds ws j) i) (show(["float"]:List Str).Nodup by decide +kernel)];exact k p _ l (af.put s1 l) ae
  |over ps=>
   rw[e]at k v G u;obtain⟨as,D,hl,r⟩:=v;have C:ts.length<=ps.length+1:=u;refine aN (dr ot) ⟨_,rfl,a,_,_,rfl,ha,rfl,rfl,_,rfl,aN (by rw[e];exact dr JV) ⟨_,rfl,a,_,_,rfl,ha,rfl,rfl,_,rfl,cF (by rw[e];exact qR) ⟨_,rfl,_,_,rfl,rfl,_,rfl,?_⟩⟩⟩
   cases i with
   |zero=>exact aN (decide_eq_false (by decide)) λp l=>k p _ l (put l) ae
   |succ i=>
    have m:i<ps.length:=by lia
    have o:i<as.length:=by lia
    obtain⟨b,c,O,X,W⟩:=r i as[i] ps[i] (AC o) (AC m);obtain⟨g1,g2⟩:=G _ (MY m);refine cF (decide_eq_true (by lia)) ⟨_,rfl,_,rfl,_,_,rfl,rfl,q,_,_,_,rfl,rfl,aT.of D,Cr (j:=i) (by lia) (by rw[B7,AC o];rfl),λp l=>?_⟩;have s1:=put l;refine⟨_,rfl,as[i],_,_,_,rfl,rfl,aT.of (s1 _ _ O),aA (j:=0) rfl,_,rfl,as[i],_,_,_,rfl,rfl,aT.of (s1 _ _ O),aA (j:=1) rfl,b,c,_,_,rfl,rfl,aT.of (s1 _ _ X),aT.of (s1 _ _ W),by simp,(by show 4<=sizeLine;decide),λz=>absurd z (by simp),λ_ t M=>?_⟩;have s2:af (upd H p (.dK [])) (upd (upd H p (.dK [])) t (.tup [.str ps[i].1.1,.int ps[i].1.2,.str ps[i].2.1,.int ps[i].2.2])):=af.put (af.refl _) M;refine⟨t,_,",",rfl,ae,(by show 4<=10;decide),?_,by decide +kernel,λH3 S=>⟨S _ _ (s2 _ _ ae),(bG (.over ps) (i+1)).map kS,?_,(by show 1<=15;decide),?_⟩⟩
    ·intro x hx
     have L:ps[i].1.1.length<=60:=by have :=g1.2.1;exact cV
     have N:ps[i].2.1.length<=60:=by have :=g2.2.1;exact cV
     rcases List.mem_cons.mp hx with z|hx
     ·rw[z];exact L
     rcases List.mem_cons.mp hx with z|hx
     ·rw[z];exact g1.2.2
     rcases List.mem_cons.mp hx with z|hx
     ·rw[z];exact N
     ·rw[List.mem_singleton.mp hx];exact g2.2.2
    ·rw[show L1 "," (List.map tS ([V.str ps[i].1.1,V.int ps[i].1.2]++[V.str ps[i].2.1,V.int ps[i].2.2]))=four ps[i]from yt _];rw[oz (AC m)];rfl
    ·rw[dk (ps:=bG (.over ps) (i+1)) (show(["at"]:List Str).Nodup by decide +kernel)];exact k p _ l (af.put (s1.trans (s2.trans S)) l) ae
inductive uQ(vs:List V)(H:Hp)(Q:VK):Prop
 |mk (a p:B3) (d:dF) (ts:List B3) (eh:aX) (i:Nat) (c0:vs=[.ref a,.ref p]) (c1:Fo.iH H a d ts) (c2:d.wh.Good) (c3:d.own.Good) (c4:d.nm.length<=60) (c5:eh.Good) (c6:H p=some (.dK ((bG eh i).map kS))) (c7:∀H',af H H'->Q (.str (L1 " " (dJ d eh i))) H')
def pw:Sp:=λvs H Q _=>uQ vs H Q
theorem gO:bC 0:=by show(0:Nat)<1000000000;decide
theorem eu(c:s.length<=2)(h1:bC a)(h2:bC b):(two s a b).length<=60:=by
 unfold two;rw[B9,B9];have :=cn h1;have :=cn h2
 lia
theorem pQ(h:bC a):(nS a).length<=60:=by have :=cn h;exact cV
theorem jK(h1:hJ p.1)(h2:hJ p.2):(four p).length<=60:=by
 unfold four
 have e:(",":Str).length=1:=by decide +kernel
 simp only[B9,e];have :=cn h1.2.2;have :=cn h2.2.2;have :=h1.2.1;have :=h2.2.1
 lia
theorem all_cons{r:List (Str×Str)}(h:C q)(t:∀p∈r,C p):∀p∈q::r,C p:=λp a=>by
 rcases List.mem_cons.mp a with z|z
 ·rw[z];exact h
 ·exact t p z
theorem all_nil:∀p∈([]:List (Str×Str)),C p:=λp a=>nomatch a
theorem sr{o:Own}(m:o.Good)(d:wh.Good)(he:eh.Good):∀p∈cD o++(bw wh++bG eh i),p.2.length<=60:=by
 obtain⟨g1,g2,g3,l,n,t,u,s⟩:=m
 have l2:("..":Str).length<=2:=by decide +kernel
 have l1:(",":Str).length<=2:=by decide +kernel
 have A:∀p∈cD o,p.2.length<=60:=all_cons (eu l2 g1 g2) (all_cons (eu l2 g3 l) (all_cons (pQ n) (all_cons (pQ t) (all_cons (pQ u) (all_cons (pQ s) all_nil)))))
 have B:∀p∈bw wh,p.2.length<=60:=by
  cases wh with
  |leaf a b=>exact all_cons (eu l1 d.1 d.2) all_nil
  |lined k g al sd=>exact all_cons (pQ d.1) (all_cons (by have :=d.2.1;show al.length<=60;exact cV) (all_cons (by have :=d.2.2;show sd.length<=60;exact cV) all_nil))
  |table c g sd sps=>exact all_cons (pQ d.1) (all_cons (pQ d.2.1) (all_cons (by have :=d.2.2.1;show sd.length<=60;exact cV) all_nil))
  |words ws j=>exact all_cons (ib d.1) (all_cons (pQ d.2) all_nil)
  |flow sds ws j=>exact all_cons (ib d.2.1) (all_cons (pQ d.2.2) all_nil)
  |over ps=>exact all_nil
 have C:∀p∈bG eh i,p.2.length<=60:=by
  cases eh with
  |leaf a b=>exact all_nil
  |lined k g al sd=>exact all_nil
  |words ws j=>exact all_nil
  |table c g sd sps=>
   refine all_cons ?_ all_nil;show(two "," (sps.getD i (1,1)).1 (sps.getD i (1,1)).2).length<=60;rw[Ki]
   cases e:sps[i]? with
   |none=>exact eu l1 (by show(1:Nat)<1000000000;decide) (by show(1:Nat)<1000000000;decide)
   |some q=>
    obtain⟨f,h⟩:=he.2.2.2 q (Fk e);exact eu l1 f h
  |flow sds ws j=>
   refine all_cons ?_ all_nil;show(sds.getD i "left").length<=60;rw[Ki]
   cases e:sds[i]? with
   |none=>show("left":Str).length<=60;decide +kernel
   |some q=>
    show q.length<=60
    rcases he.1 q (Fk e)with z|z<;>rw[z]<;>decide +kernel
  |over ps=>
   cases i with
   |zero=>exact all_nil
   |succ i=>
    refine all_cons ?_ all_nil;show(four (ps.getD i (("",0),("",0)))).length<=60;rw[Ki]
    cases e:ps[i]? with
    |none=>exact jK ⟨by decide +kernel,by decide +kernel,gO⟩ ⟨by decide +kernel,by decide +kernel,gO⟩
    |some q=>
     obtain⟨f,h⟩:=he q (Fk e);exact jK f h
 intro p r
 rcases List.mem_append.mp r with z|z
 ·exact A p z
 ·rcases List.mem_append.mp z with z|z
  ·exact B p z
  ·exact C p z
theorem AJ{t:Str}(h:lk ps x=some t):∃p∈ps,p.2=t:=by
 unfold lk at h;obtain⟨p,a,e⟩:=Option.map_eq_some_iff.mp h;exact⟨p,OX a,e⟩
theorem xZ(ps:List (Str×Str))(p:Str×Str):(pick ps p).length<=1:=by unfold pick;exact fM
theorem mY(ps:List (Str×Str)):∀l:List (Str×Str),(l.flatMap (pick ps)).length<=l.length
 |[]=>B6 _
 |p::l=>by
  rw[Mx,B1,B8];have :=xZ ps p;have :=mY ps l
  lia
theorem mO:∀p∈bx,p.1.length<=10:=by decide +kernel
theorem D7(h:∀p∈ps,p.2.length<=60)(c:q.1.length<=10):LB 80 (pick ps q):=by
 unfold pick
 cases e:lk ps q.1 with
 |none=>exactλx hx=>by rw[show((none:Option Str).getD q.2)=q.2 from rfl,if_pos rfl]at hx;cases hx
 |some t=>
  obtain⟨p,b,rfl⟩:=AJ e;refine LB.ite ?_;have :=h p b
  have a:("=":Str).length=1:=by decide +kernel
  rw[B9,B9,a];show q.1.length+1+p.2.length<=80
  lia
theorem wo(h:∀p∈ps,p.2.length<=60):∀(l:List (Str×Str)),(∀p∈l,p.1.length<=10)->LB 80 (l.flatMap (pick ps))
 |[],_=>LB.nil
 |p::l,hl=>by
  rw[Mx];exact LB.app (D7 h (hl p Do)) (wo h l λq a=>hl q (GE _ a))
theorem yQ(o:Own)(wh eh:aX)(i:Nat):((cD o++bw wh++bG eh i).map (·.1)).Nodup:=by
 have h:∀a∈([["wish"],["gap","align","side"],["columns","gap","side"],["text","joint"],[]]:List (List Str)),∀b∈([["span"],["float"],["at"],[]]:List (List Str)),((["wide","high","grow","shrink","rank","alike"]:List Str)++a++b).Nodup:=by decide +kernel
 rw[Dk,Dk];refine h _ ?_ _ ?_
 ·cases wh<;>simp[bw]
 ·unfold bG
  split<;>simp
theorem k_(a:d.wh.Good)(he:eh.Good):dJ d eh i=d.wh.kd::d.nm::bx.flatMap (pick (cD d.own++(bw d.wh++bG eh i))):=by
 unfold dJ;rw[GH d.own a he]
theorem jG(a:d.wh.Good)(b:d.own.Good)(hn:d.nm.length<=60)(he:eh.Good):LB 80 (dJ d eh i)/\(dJ d eh i).length<=18:=by
 rw[k_ a he];constructor
 ·intro x hx
  rcases List.mem_cons.mp hx with z|hx
  ·rw[z];have :=kd_len d.wh;exact cV
  rcases List.mem_cons.mp hx with z|hx
  ·rw[z];exact cV
  ·exact wo (sr b a he) _ mO x hx
 ·have :=mY (cD d.own++(bw d.wh++bG eh i)) bx;rw[B8,B8];have e:bx.length=16:=rfl
  lia
theorem fF:ay ["box","as_part","told","words","word","plain"] ZH (aj gY):=cL
theorem vr{fN fO:B3}{dN dO:M9}(F:aZ K "row_text" "row_text" gY f fd)(G:F_ P w K mg aL aP)(G1:aw P w K mg base aO 2 f1 d1 ["own"] oE)(J1:Cq K mg d1 f1 ["own"] "own_told")(G2:aw P w K mg base aO 2 f2 d2 Zs lE)(J2:Cq K mg d2 f2 Zs "what_told")(GK:aw P w K mg base aO 1 fK dK Zb (dM 0))(JK:Cq K mg dK fK Zb "kind_of")(GN:aw P w K mg base aO 1 fN dN Zb (dM 1))(JN:Cq K mg dN fN Zb "name_of")(GO:aw P w K mg base aO 1 fO dO Zb (dM 2))(JO:Cq K mg dO fO Zb "own_of")(GW:aw P w K mg base aO 1 fW dW Zb (dM 3))(JW:Cq K mg dW fW Zb "what_of"):aw P w K mg base aO 3 f fd ZH pw:=by
 refine F.cS fF λcdv A outer s H vs Q E hr h=>?_
 ·obtain⟨a,p,d,ts,eh,i,e,⟨ao,q,ap,ha,a8,hw,_⟩,hg,N,b0,J,hp,k⟩:=h;subst e;have u:=hr.mono (j:=1) (by decide)
  have hu:(A.deeper (Mh "row_text" (aj gY) s.heap.objs.size f cdv)).units+1<Np:=by have :=hr.units;lia
  refine⟨_,ah (aJ (i:=2) fF.nd rfl (KB rfl) (pq G1 hr J1 (aa (pq GO u JO (aa (pv 0) ab)) ab)))
   (ah (bT (bV Nh O7 Rh mq (pv 2) (aa (pq G2 hr J2 (aa (pq GK u JK (aa (pv 0) ab)) (aa (pq GW u JW (aa (pv 0) ab)) ab))) ab)))
   (ah (bT (bV Nh O7 Rh mq (pv 2) (aa (pv 1) ab)))
   (ah (aJ (i:=3) fF.nd rfl (KB rfl) (bu (aa (pq GK u JK (aa (pv 0) ab)) (aa (pq GN u JN (aa (pv 0) ab)) ab))))
   (ah (cG Ma rfl (xJ G.dP (aU (v:= .ref aP) (by rfl) G.mP rfl)) (gG rfl (bK (aV (i:=4) fF.nd rfl (KB rfl)) (bK (aV (i:=5) fF.nd rfl (KB rfl)) fo)))
    (ai (aQ (aB fg (AY hu (pv 2) (pv 4) (pv 5) ⟨rfl,rfl,rfl,rfl⟩) (pv 5) (aG _))
     (ai (bT (bV LZ L8 L7 bQ (pv 3) (aa (aE aK (aE aK (pv 4) aq) (cf hu (pv 2) (pv 4) (λ_ _=>rfl))) ab)))) aC)))
   (ai (au (bV LS Mt Ms ff aq (aa (pv 3) ab)))))))),?_⟩
  refine ar λN1 a4=>?_;refine⟨_,rfl,a,_,_,rfl,ha,rfl,ao,d.own,rfl,a8,N,λg H1 D s1 h1=>a4 _ _ ?_⟩;clear a4 N1;refine ar λN2 a1=>?_;have C:=s1 _ _ ha;refine⟨_,rfl,.inr (.inr (.inl ⟨rfl,.inl ⟨_,h1⟩⟩)),_,rfl,a,_,_,rfl,C,rfl,_,rfl,a,_,_,rfl,C,rfl,q,d.wh,rfl,hw.keep (KT.same s1),hg,λdw H2 U s2 h2=>?_⟩
  have a5:g≠dw:=λz=>by rw[<-z,h1]at U;cases U
  refine⟨g,dw,_,_,rfl,rfl,a5,s2 _ _ h1,.inl h2,?_,a1 _ _ ?_⟩
  ·rw[be,be]
   have :(bw d.wh).length<=3:=by cases d.wh<;>simp[bw]
   show 6+_<=sizeLine;rw[NY];lia
  clear a1 N2;have B:=yQ d.own d.wh eh i
  have S:((cD d.own++bw d.wh).map (·.1)).Nodup:=by
   rw[Dk]at B;exact(List.nodup_append.mp B).1
  rw[oR S];have L:=s1.trans s2
  have T:p≠g:=λz=>by rw[z,D]at hp;cases hp
  have a6:∀b o,b≠g->H2 b=some o->(upd H2 g (.dK ((cD d.own++bw d.wh).map kS))) b=some o:=λb o hb e=>by rw[ak hb];exact e
  have h3:(upd H2 g (.dK ((cD d.own++bw d.wh).map kS))) g=some (.dK ((cD d.own++bw d.wh).map kS)):=ae;have a2:=a6 _ _ T (L _ _ hp);have S3:af H (upd H2 g (.dK ((cD d.own++bw d.wh).map kS))):=af.put L D;generalize upd H2 g (.dK ((cD d.own++bw d.wh).map kS))=H3 at *;refine ar λN3 a3=>?_;refine⟨_,rfl,.inr (.inr (.inl ⟨rfl,.inl ⟨_,h3⟩⟩)),_,rfl,g,p,_,_,rfl,rfl,Da T,h3,.inl a2,?_,a3 _ _ ?_⟩
  ·rw[be,be,B1]
   have :(bw d.wh).length<=3:=by cases d.wh<;>simp[bw]
   have :(bG eh i).length<=1:=by unfold bG;split<;>simp
   show 6+_+_<=sizeLine;rw[NY];lia
  clear a3 N3;rw[oR B,LW];have h4:(upd H3 g (.dK ((cD d.own++(bw d.wh++bG eh i)).map kS))) g=some (.dK ((cD d.own++(bw d.wh++bG eh i)).map kS)):=ae;have W:af H (upd H3 g (.dK ((cD d.own++(bw d.wh++bG eh i)).map kS))):=af.put S3 D;have tl:=sr (i:=i) N hg J;have a7:=k_ (i:=i) hg J;generalize cD d.own++(bw d.wh++bG eh i)=ps at *;generalize upd H3 g (.dK (ps.map kS))=H4 at *;clear h3 a2 a6 S3 L h2 h1 C s1 s2 a5 S B;refine ar λN4 X=>?_;refine⟨_,rfl,a,_,_,rfl,W _ _ ha,rfl,_,rfl,a,_,_,rfl,W _ _ ha,rfl,(by show 2<=sizeLine;decide),λl hl=>X _ _ ?_⟩;clear X N4;have h5:(upd H4 l (.lst [.str d.wh.kd,.str d.nm])) l=some (.lst ((d.wh.kd::d.nm::(bx.take 0).flatMap (pick ps)).map V.str)):=ae
  have nl:g≠l:=λz=>by rw[<-z,h4]at hl;cases hl
  have d5:(upd H4 l (.lst [.str d.wh.kd,.str d.nm])) g=some (.dK (ps.map kS)):=(ak nl).trans h4;have S5:af H (upd H4 l (.lst [.str d.wh.kd,.str d.nm])):=af.put W (W.free hl);have b2:H l=none:=W.free hl;generalize upd H4 l (.lst [.str d.wh.kd,.str d.nm])=H5 at *;refine ar λN5 b4=>?_;refine⟨rfl,ux (kvs:=bx.map kS) (λj σ x=>∃u4 u5,σ=[some (.ref a),some (.ref p),some (.ref g),some (.ref l),u4,u5]/\af H x/\x g=some (.dK (ps.map kS))/\x l=some (.lst ((d.wh.kd::d.nm::(bx.take j).flatMap (pick ps)).map V.str))) ⟨_,_,rfl,S5,d5,h5⟩ ?_ ?_⟩
  ·rintro j kk v t σ x hj ht ⟨u4,u5,rfl,S9,d9,h9⟩;rw[B7]at hj;obtain⟨wp,a0,e0⟩:=Option.map_eq_some_iff.mp hj;obtain⟨r,pl⟩:=wp;have e1:(Mp r:Key)=kk:=congrArg Q4 e0;have e2:V.str pl=v:=congrArg Prod.snd e0;subst e1 e2;have Y:=Fk a0;have b8:r.length<=10:=mO _ Y;have b3:(upd x t (.tup [kV (Mp r),V.str pl])) t=some (.tup [V.str r,V.str pl]):=ae;have M:af x (upd x t (.tup [kV (Mp r),V.str pl])):=af.put (af.refl _) ht;have n:=M _ _ d9;have y:=M _ _ h9;have O:=S9.trans M;generalize upd x t (.tup [kV (Mp r),V.str pl])=b6 at *
   have I:(bx.take (j+1)).flatMap (pick ps)=(bx.take j).flatMap (pick ps)++pick ps (r,pl):=by rw[Oa,a0,Oe];simp
   have Z:cE (ps.map kS) (Mp r:Key)=(lk ps r).map V.str:=uy ps r;have R:=gC.k (k:=Mp r) n;rw[Z]at R
   have b5:((bx.take j).flatMap (pick ps)).length<=16:=by
    have :=mY ps (bx.take j);rw[NI]at this;have e:bx.length=16:=rfl
    lia
   refine⟨t,_,rfl,aT.of b3,rfl,_,_,rfl,_,_,rfl,rfl,?_⟩
   cases m:lk ps r with
   |none=>
    rw[m]at R;refine⟨_,rfl,g,rfl,.inl ⟨_,.inl n⟩,_,rfl,_,rfl,_,R,_,rfl,rfl,_,rfl,?_⟩
    show if(!decide (V.str pl=V.str pl))=true then _ else _
    rw[qR];refine bA ?_;refine⟨_,_,rfl,O,n,?_⟩;rw[I,aI m,FB];exact y
   |some tx=>
    rw[m]at R;obtain⟨q0,a9,b1⟩:=AJ m
    have b7:tx.length<=60:=by rw[<-b1];exact tl q0 a9
    refine⟨_,rfl,g,rfl,.inl ⟨_,.inl n⟩,_,rfl,_,rfl,_,R,_,rfl,rfl,_,rfl,?_⟩
    show if(!decide (V.str tx=V.str pl))=true then _ else _
    by_cases c:tx=pl
    ·rw[decide_eq_true (by rw[c])];refine bA ⟨_,_,rfl,O,n,?_⟩;rw[I,bo m,if_pos c,FB];exact y
    ·rw[dr c]
     have e1:("=":Str).length=1:=by decide +kernel
     refine di ⟨_,rfl,.inl ⟨rfl,_,bg.of y⟩,_,rfl,_,_,rfl,rfl,az (by rw[e1];lia),_,rfl,_,rfl,g,_,rfl,R,_,_,rfl,rfl,az (by rw[B9,e1];lia),l,_,_,rfl,rfl,y,small (by rw[be,B8,B8];lia),?_⟩;refine⟨_,_,rfl,af.put O b2,(ak nl).trans n,?_⟩;rw[ae,I,bo m,if_neg c,<-ML,<-ML,Dk (l₂:=[_])];rfl
  ·rintro σ x ⟨u4,u5,rfl,S9,d9,h9⟩;rw[be,OH,<-a7]at h9;refine b4 _ _ ?_;obtain⟨r1,r2⟩:=jG (i:=i) hg N b0 J;refine⟨rfl,_,rfl," ",l,dJ d eh i,rfl,rfl,bg.of h9,?_,k x S9⟩;have :=fu (dJ d eh i) r1
   have e:(" ":Str).length=1:=by decide +kernel
   rw[e]
   lia
def cw:aX:= .leaf 0 0
theorem ef:cw.Good:=⟨gO,gO⟩
inductive rq(m:Nat)(vs:List V)(H:Hp)(Q:VK):Prop
 |mk (a p:B3) (d:dF) (cs:Fo) (n:Nat) (eh:aX) (i:Nat) (c0:vs=[.ref a,.int (n:Int),.ref p]) (c1:(Fo.cons a d cs .nil).Ok H) (c2:(Fo.cons a d cs .nil).Good) (c3:cs.df<m) (c4:cs.cnt<=100) (c5:n+m<=100) (c6:eh.Good) (c7:H p=some (.dK ((bG eh i).map kS))) (c8:∀(l:B3)(H':Hp),H l=none->af H H'->H' l=some (.lst ((cg d n eh i::aY cs (n+1) d.wh 0).map V.str))->Q (.ref l) H')
def lY(m:Nat):Sp:=λvs H Q _=>rq m vs H Q
inductive ro(vs:List V)(H:Hp)(Q:VK):Prop
 |mk (a:B3) (d:dF) (cs:Fo) (c0:vs=[.ref a]) (c1:(Fo.cons a d cs .nil).Ok H) (c2:(Fo.cons a d cs .nil).Good) (c3:cs.df<12) (c4:cs.cnt<=20) (c5:∀H',af H H'->Q (.str (L1 "\n" (cg d 0 cw 0::aY cs 1 d.wh 0))) H')
def fR:Sp:=λvs H Q _=>ro vs H Q
theorem i_(hn:n<=200)(c:d.wh.Good)(h:d.own.Good)(a:d.nm.length<=60)(he:eh.Good):(cg d n eh i).length<=2000:=by
 unfold cg;obtain⟨f,b⟩:=jG (i:=i) c h a he;have h1:=dG " " (dJ d eh i) f
 have e:(" ":Str).length=1:=by decide +kernel
 have g:("  ":Str).length=2:=by decide +kernel
 rw[e]at h1;rw[B9,jx,g];have :(dJ d eh i).length*81<=18*81:=NA _ b
 lia
theorem gR:∀(F:Fo)(n:Nat)(eh:aX)(i:Nat),F.Good->eh.Good->n+F.df<=200->LB 2000 (aY F n eh i)
 | .nil,_,_,_,_,_,_=>LB.nil
 | .cons a d cs as,n,eh,i,⟨⟨h1,h2,f,_⟩,c,b⟩,he,hn=>by
  have hm:n+max (cs.df+1) as.df<=200:=hn;have e:aY (.cons a d cs as) n eh i=[cg d n eh i]++(aY cs (n+1) d.wh 0++aY as n eh (i+1)):=rfl;rw[e];exact LB.app (LB.one (i_ (by lia) h1 h2 f he)) (LB.app (gR cs (n+1) d.wh 0 c h1 (by lia)) (gR as n eh (i+1) b he (by lia)))
theorem eZ:ay ["box","depth","as_part","rows","place","part"] Zt (aj ip):=cL
theorem gk:("  ":Str).length=2:=by decide +kernel
theorem sb(F:aZ K "text_rows" "text_rows" ip f fd)(N:aR mg)(G:F_ P w K mg aL aP)(G1:aw P w K mg base aO 3 f1 d1 ZH pw)(J1:Cq K mg d1 f1 ZH "row_text")(G2:aw P w K mg base aO 2 f2 d2 ZG mw)(J2:Cq K mg d2 f2 ZG "part_told")(G3:aw P w K mg base aO 1 f3 d3 Zb (dM 4))(J3:Cq K mg d3 f3 Zb "parts_of")(JF:Cq K mg fd f Zt "text_rows"):∀m:Nat,aw P w K mg base aO (m+4) f fd Zt (lY m):=by
 obtain⟨tI,mI⟩:=G.mI;intro m
 induction m with
 |zero=>
  refine F.ok eZ (λvs H Q E h=>?_) (λcdv A outer s H vs Q E hr h=>?_)
  ·obtain⟨a,p,d,cs,n,eh,i,e,_⟩:=h;rw[e];rfl
  ·obtain⟨a,p,d,cs,n,eh,i,e,_,_,hh,_⟩:=h;exact absurd hh (Nx _)
 |succ m ih=>
  refine F.ok eZ (λvs H Q E h=>?_) (λcdv A outer s H vs Q E hr h=>?_)
  ·obtain⟨a,p,d,cs,n,eh,i,e,_⟩:=h;rw[e];rfl
  ·obtain⟨a,p,d,cs,n,eh,i,e,⟨u,a1,_⟩,⟨⟨g1,g2,g3,g4⟩,gc,_⟩,hh,hc,hn,U,hp,k⟩:=h;subst e;have a6:=hr.mono (j:=3) Cu;have a5:=hr.mono (j:=2) Cu;have a0:=hr.mono (j:=1) Cu
   refine⟨_,ah (aJ (i:=3) eZ.nd rfl (KB rfl) (bu (aa (aE aK (aE wQ (aU (v:= .str "  ") (by rfl) mI ⟨tI,rfl⟩) (pv 1)) (pq G1 a6 J1 (aa (pv 0) (aa (pv 2) ab)))) ab)))
    (ah (cG Ma rfl (zr (by rfl) N.enum (aa (pq G3 a0 J3 (aa (pv 0) ab)) ab)) (gG rfl (bK (aV (i:=4) eZ.nd rfl (KB rfl)) (bK (aV (i:=5) eZ.nd rfl (KB rfl)) fo)))
     (ai (bT (bV LZ PySem.F.slot_list_extend PySem.F.type_list_extend y_ (pv 3) (aa (pq ih hr JF (aa (pv 5) (aa (aE bM (pv 1) ag) (aa (pq G2 a5 J2 (aa (pv 0) (aa (pv 4) ab))) ab)))) ab)))))
    (ai (au (pv 3)))),?_⟩
   obtain⟨ao,q,ap,ha,b3,hw,W⟩:=id u;refine ar λN1 Z=>?_;refine⟨_,rfl,"  ",n,rfl,rfl,by lia,by rw[gk];decide,by rw[gk];decide,_,rfl,_,rfl,a,p,d,cs.bt,eh,i,rfl,u,g1,g2,g3,U,hp,λH1 s1=>?_⟩;have rl:=jG (i:=i) g1 g2 g3 U;have rg:=dG " " (dJ d eh i) rl.1
   have e1:(" ":Str).length=1:=by decide +kernel
   rw[e1]at rg;have b6:(dJ d eh i).length*81<=18*81:=NA _ rl.2;refine⟨_,_,rfl,rfl,az (by rw[jx,gk];lia),(by show 1<=sizeLine;decide),λl hl=>Z _ _ ?_⟩;clear Z N1;have L:H l=none:=s1.free hl;have s2:af H (upd H1 l (.lst [.str (lU "  " n++L1 " " (dJ d eh i))])):=af.put s1 L;have h2:(upd H1 l (.lst [.str (lU "  " n++L1 " " (dJ d eh i))])) l=some (.lst ((cg d n eh i::aY .nil (n+1) d.wh 0).map V.str)):=ae;generalize upd H1 l (.lst [.str (lU "  " n++L1 " " (dJ d eh i))])=H2 at *;refine ar λN2 a8=>?_;refine⟨_,rfl,a,_,_,rfl,s2 _ _ ha,rfl,ap,rfl,⟨_,aT.of (s2 _ _ W)⟩,?_⟩
   refine Aq (Sq:=λH xs=>aT K H ap xs) (k:=0) (xs:=cs.bt.map V.ref) (λj σ y=>∃(g O:Fo)(u4 u5:Option V),σ=[some (.ref a),some (.int (n:Int)),some (.ref p),some (.ref l),u4,u5]/\cs=g.app O/\g.bt.length=j/\af H y/\y l=some (.lst ((cg d n eh i::aY g (n+1) d.wh 0).map V.str)))
    ⟨.nil,cs,none,none,rfl,rfl,rfl,s2,h2⟩ (λj σ y _ b0=>by obtain⟨_,_,_,_,_,_,_,z,_⟩:=b0;exact aT.of (z _ _ W)) ?_ ?_
   ·rintro j x t σ y hx ht ⟨g,O,u4,u5,rfl,b,S,S9,h9⟩;rw[B7,b,Fo.cj,GT (by lia),S,Pl]at hx
    cases O with
    |nil=>cases hx
    |cons c C B as=>
     have ex:V.ref c=x:=L6 hx;subst ex;have a9:(upd y t (.tup [.int (0+(j:Int)),.ref c])) t=some (.tup [.int (0+(j:Int)),.ref c]):=ae;have X:af y (upd y t (.tup [.int (0+(j:Int)),.ref c])):=af.put (af.refl _) ht;have I:=X _ _ h9;have R:=S9.trans X;generalize upd y t (.tup [.int (0+(j:Int)),.ref c])=b5 at *;have o:=a1.keep (KT.same R);have J:=gc;have D:=hc;have M:=hh;rw[b]at o J D M;rw[Fo.lI]at o;rw[Fo.gL]at J;rw[Fo.jB]at D;rw[Fo.js]at M;obtain⟨-,bc,b2,-⟩:=o;obtain⟨-,gd,a2,-⟩:=J;have c1:g.cnt+(B.cnt+as.cnt+1)<=100:=D;have b9:max g.df (max (B.df+1) as.df)<m+1:=M
     have a4:j<cs.bt.length:=by
      rw[b,Fo.cj,B1,S];show j<j+(as.bt.length+1)
      lia
     refine⟨t,_,rfl,aT.of a9,rfl,_,_,rfl,_,_,rfl,rfl,?_⟩;refine⟨_,rfl,.inl ⟨rfl,_,bg.of I⟩,_,rfl,_,rfl,_,_,rfl,rfl,_,rfl,_,rfl,?_⟩;refine⟨a,d,cs.bt,j,by rw[show(0:Int)+(j:Int)=(j:Int)from RO _];rfl,u.keep (KT.same R),g1,g4,a4,λpp b4 c0 r a7=>?_⟩;have b1:=R.trans r;refine⟨c,pp,C,B,n+1,d.wh,j,rfl,⟨bc.keep (KT.same r),b2.keep (KT.same r),trivial⟩,⟨gd,a2,trivial⟩,by lia,by lia,by lia,g1,a7,λlr b7 Y T a3=>?_⟩
     have n1:l≠lr:=λz=>by rw[<-z,r _ _ I]at Y;cases Y
     have b8:=cU 0 cw g (n+1) d.wh 0;have c2:=cU 0 cw B (n+1+1) C.wh 0;refine⟨l,lr,_,_,rfl,rfl,(r.trans T) _ _ I,a3,az (by rw[be,be,B8,B8];lia),?_⟩;refine⟨g.app (.cons c C B .nil),as,_,_,rfl,by rw[b,Fo.lu];rfl,by rw[Fo.cj,B1,S];rfl,af.put (b1.trans T) L,?_⟩;rw[ae,kj,<-Dk];rw[S,Qk];show some (HO.lst (((cg d n eh i::aY g (n+1) d.wh 0)++(cg C (n+1) d.wh j::aY B (n+1+1) C.wh 0)).map V.str))=some (HO.lst ((cg d n eh i::(aY g (n+1) d.wh 0++(cg C (n+1) d.wh j::(aY B (n+1+1) C.wh 0++[])))).map V.str));rw[FB];rfl
   ·rintro σ y ⟨g,O,u4,u5,rfl,b,S,S9,h9⟩;refine a8 _ _ ?_
    have e2:O= .nil:=by
     have e:=congrArg (λF=>F.bt.length) b;have e':cs.bt.length=(g.app O).bt.length:=e;rw[Fo.cj,B1,S,be]at e'
     cases O with
     |nil=>rfl
     |cons c C B as=>
      have :(Fo.cons c C B as).bt.length=as.bt.length+1:=rfl
      lia
    subst e2;rw[Fo.pG]at b;subst b;exact⟨_,rfl,k l y L S9 h9⟩
theorem tZ:ay ["tree"] ["tree"] (aj iu):=cL
theorem tR(F:aZ K "tree_text" "tree_text" iu f fd)(r:aw P w K mg base aO 16 f1 d1 Zt (lY 12))(n:Cq K mg d1 f1 Zt "text_rows"):aw P w K mg base aO 17 f fd ["tree"] fR:=by
 refine F.cS tZ λcdv A outer s H vs Q E q h=>?_
 ·obtain⟨a,d,cs,e,hok,c,m,t,k⟩:=h;subst e;refine⟨_,ai (au (bV LS Mt Ms ff aq (aa (pq r q n (aa (pv 0) (aa ag (aa hE ab)))) ab))),?_⟩;refine⟨rfl,_,rfl,λp j=>?_⟩;have s1:af H (upd H p (.dK [])):=af.put (af.refl _) j;have h1:(upd H p (.dK [])) p=some (.dK ((bG cw 0).map kS)):=ae;generalize upd H p (.dK [])=H1 at *;refine⟨a,p,d,cs,0,cw,0,rfl,hok.keep (KT.same s1),c,m,cV,by decide,ef,h1,λl H2 hl s2 h2=>?_⟩;refine⟨"\n",l,_,rfl,rfl,bg.of h2,?_,k H2 (s1.trans s2)⟩
  have e:("\n":Str).length=1:=by decide +kernel
  obtain⟨⟨g1,g2,g3,_⟩,g,_⟩:=c;have o:LB 2000 (cg d 0 cw 0::aY cs (0+1) d.wh 0):=LB.app (a:=[cg d 0 cw 0]) (LB.one (i_ (by decide) g1 g2 g3 ef)) (gR cs 1 d.wh 0 g g1 (by lia));have i:=fu _ o;have b:=cU 0 cw cs (0+1) d.wh 0;rw[B8,b]at i;rw[e,B8,b];have :(cs.cnt+1)*2000<=21*2000:=NA _ Hu
  lia
theorem same_none{b:B3}(s:af H H')(h:H' b=none):H b=none:=by
 cases e:H b with
 |none=>rfl
 |some o=>rw[s b o e]at h;cases h
section
variable{X:Cx}
def Ji(_ j:Int):Prop:=0<j/\j.natAbs.log2<9000
theorem Cj:hV X (NH .FloorDiv) (rI Ji λi j=> .int (i/j)):=Jd λi j _ _ _ _ _ a q=>by
 have h1:(0:Int)<j:=a.1;exact PyProof.Rows.floordiv_int (by lia) (by rw[Q7 i Lo];exact q) (.inl (PyProof.noPylong_of_log2 a.2))
end
def Kp(st:B3)(H H':Hp):Prop:=∀b o,b≠st->H b=some o->H' b=some o
theorem Kp.refl{st:B3}(H:Hp):Kp st H H:=λ_ _ _ h=>h
theorem Kp.trans{st:B3}(a:Kp st H H1)(b:Kp st H1 H2):Kp st H H2:=λc o n h=>b c o n (a c o n h)
theorem Kp.store{st:B3}:Kp st H (upd H st o):=λb o' n h=>by rw[ak n];exact h
theorem Kp.put{st D:B3}(k:Kp st H H')(h:H D=none):Kp st H (upd H' D o):=λb o' n a=>by
 rw[ak (λz=>by rw[z,h]at a;cases a)];exact k b o' n a
theorem Kp.gone{st D:B3}(k:Kp st H H')(n:D≠st)(h:H' D=none):H D=none:=by
 cases e:H D with
 |none=>rfl
 |some o=>rw[k D o n e]at h;cases h
theorem int_at{us:List Int}{x:V}(h:(us.map V.int)[i]? =some x):∃c,us[i]? =some c/\x= .int c:=by
 rw[B7]at h
 cases e:us[i]? with
 |none=>rw[e]at h;cases h
 |some c=>rw[e]at h;cases h;exact⟨c,rfl,rfl⟩
theorem Af(ns:List Int)(lo hi:Option Int):∃us:List Int,nM (ns.map V.int) lo hi=us.map V.int/\us.length<=ns.length:=by
 refine⟨(ns.drop (HT.oO (ns.map V.int).length 0 lo)).take (HT.oO (ns.map V.int).length (ns.map V.int).length hi-HT.oO (ns.map V.int).length 0 lo),?_,?_⟩
 ·unfold nM;rw[List.map_take,List.map_drop]
 ·rw[NI,MX]
  lia
theorem Le{ns:List Int}{j:Nat}(h:j<ns.length):iY (ns.map V.int) ((j:Nat):Int)=some (.int (ns.getD j 0)):=aA (by rw[B7,Ki,AC h];rfl)
inductive xt(K:mo)(vs:List V)(H:Hp)(Q:VK):Prop
 |mk (a:B3) (ns:List Int) (c0:vs=[.ref a]) (c1:bg K H a (ns.map V.int)) (c2:ns.length<=63) (c3:∀(l:B3)(d z:Int)(H':Hp),H l=none->af H H'->H' l=some (.lst [.int d,.int z])->Q (.ref l) H')
def sg(K:mo):Sp:=λvs H Q _=>xt K vs H Q
inductive CG(vs:List V)(H:Hp)(Q:VK):Prop
 |mk (st:B3) (d z m:Int) (c0:vs=[.ref st,.int m]) (c1:H st=some (.lst [.int d,.int z])) (c2:0<m) (c3:m<1073741824) (c4:∀v d' z':Int,0<=v->v<m->Q (.int v) (upd H st (.lst [.int d',.int z'])))
def hF:Sp:=λvs H Q _=>CG vs H Q
theorem fC:ay ["_law_script","_law_seed","_law_cell","_law_digits"] Zn (aj wq):=cL
theorem yc(F:aZ K "_law_stream" "_law_stream" wq f fd)(N:aR mg):aw P w K mg base aO 1 f fd Zn (sg K):=by
 refine F.cS fC λcdv A outer s H vs Q E v h=>?_
 ·obtain⟨a,ns,e,q,hn,k⟩:=h;subst e
  refine⟨_,ah (aJ (i:=1) fC.nd rfl (KB rfl) ag)
   (ah (cG Ma rfl (dg (hC qv (pv 0) jq (jr ag))) (aV (i:=2) fC.nd rfl (KB rfl))
    (ai (aJ (i:=1) fC.nd rfl (KB rfl) (aE hX (aE bM (aE nv (pv 1) ag) (pv 2)) ag))))
   (ah (aJ (i:=3) fC.nd rfl (KB rfl) ag)
   (ah (aQ (bY (aB kv (aF br (by rfl) N.len Md (aa (pv 0) ab)) ag (aG _)) (bS (aB bD (aE hX (ax bF (pv 0) ag (λ_ _=>rfl)) ag) ag (aG _)))).pt
    (ai (aJ (i:=3) fC.nd rfl (KB rfl) (aF Ag (by rfl) N.abs PyProof.Rows.boot_abs (aa (ax bF (pv 0) ag (λ_ _=>rfl)) ab)))) aC)
   (ai (au (bu (aa (pv 3) (aa (pv 1) ab)))))))),?_⟩
  refine⟨_,rfl,_,rfl,a,_,rfl,q,λm o=>?_⟩;obtain⟨us,r,u⟩:=Af ns none (some 63);rw[r];have s1:af H (upd H m (.lst (us.map V.int))):=af.put (af.refl _) o;have h1:(upd H m (.lst (us.map V.int))) m=some (.lst (us.map V.int)):=ae;generalize upd H m (.lst (us.map V.int))=H1 at *;have g:=s1.seq q;refine⟨m,rfl,⟨_,bg.of h1⟩,gS (K:=K) (a:=m) (xs:=us.map V.int) (λi σ n=>(∃(z:Int)(p:Option V),σ=[some (.ref a),some (.int z),p,none])/\n=H1) ⟨⟨_,none,rfl⟩,rfl⟩ (λi σ n _ t=>by rw[t.2];exact bg.of h1) ?_ ?_⟩
  ·rintro i x σ n hx ⟨⟨z,p,rfl⟩,rfl⟩;obtain⟨c,_,rfl⟩:=int_at hx;exact⟨_,rfl,_,_,rfl,rfl,.inr ⟨by decide,by decide⟩,_,rfl,_,_,rfl,rfl,_,_,rfl,rfl,(by show(0:Int)<2305843009213693951;decide),⟨_,_,rfl⟩,rfl⟩
  ·rintro σ n ⟨⟨z,p,rfl⟩,rfl⟩;have b:∀(d:Int)(l:B3),n l=none->Q (.ref l) (upd n l (.lst [.int d,.int z])):=λd l hl=>k l d z _ (same_none s1 hl) (af.put s1 (same_none s1 hl)) ae;refine⟨_,rfl,a,_,rfl,.inl g,_,_,rfl,rfl,_,rfl,gP (λc=>?_) (λ_=>bA ?_)⟩
   ·have hl:1<ns.length:=by
     have z:=of_decide_eq_true c;rw[be]at z
     lia
    refine⟨_,rfl,a,_,_,_,rfl,rfl,g,Le (j:=0) (by lia),_,_,rfl,rfl,(by show(0:Int)<2;decide),rfl,_,rfl,gP (λ_=>?_) (λ_=>?_)⟩
    ·refine⟨_,rfl,a,_,_,_,rfl,rfl,g,Le (j:=1) hl,_,rfl,?_⟩;exact⟨_,rfl,_,rfl,(by show 2<=sizeLine;decide),λl hl=>b _ l hl⟩
    ·exact⟨_,rfl,_,rfl,(by show 2<=sizeLine;decide),λl hl=>b _ l hl⟩
   ·exact⟨_,rfl,_,rfl,(by show 2<=sizeLine;decide),λl hl=>b _ l hl⟩
theorem zC:ay ["_law_stream_here","_law_many","_law_digit"] Zf (aj wz):=cL
theorem Dd(F:aZ K "_law_take" "_law_take" wz f fd):aw P w K mg base aO 1 f fd Zf hF:=by
 refine F.cS zC λcdv A outer s H vs Q E l h=>?_
 ·obtain⟨st,d,z,m,e,a,hm,j,k⟩:=h;subst e
  refine⟨_,ah (aQ (aB kv (ax bF (pv 0) ag (λ_ _=>rfl)) ag (aG _))
    (ah (aJ (i:=2) zC.nd rfl (KB rfl) (aE hX (ax bF (pv 0) ag (λ_ _=>rfl)) (pv 1)))
    (ah (qm (aE pB (ax bF (pv 0) ag (λ_ _=>rfl)) (pv 1)) (zw (pv 0) ag set_list))
    (ai (au (pv 2))))) aC)
   (ah (qm (aE hX (aE bM (aE nv (ax bF (pv 0) ag (λ_ _=>rfl)) ag) ag) ag) (zw (pv 0) ag set_list))
   (ai (au (aE hX (aE bM (aE hX (aE nv (ax bF (pv 0) ag (λ_ _=>rfl)) ag) ag) (aE Cj (ax bF (pv 0) ag (λ_ _=>rfl)) ag)) (pv 1))))),?_⟩
  have b:∀x y:V,iY [x,y] 0=some x:=λx y=>rfl;have g:∀x y:V,iY [x,y] 1=some y:=λx y=>rfl;refine⟨_,rfl,st,_,_,_,rfl,rfl,bg.of a,b _ _,_,_,rfl,rfl,_,rfl,gP (λc=>?_) (λc=>?_)⟩
  ·refine⟨_,rfl,st,_,_,_,rfl,rfl,bg.of a,b _ _,_,rfl,_,_,rfl,rfl,hm,?_⟩;refine⟨_,rfl,st,_,_,_,rfl,rfl,bg.of a,b _ _,_,rfl,_,_,rfl,rfl,⟨hm,j⟩,_,rfl,st,_,_,0,rfl,rfl,a,rfl,?_⟩;exact⟨_,rfl,k _ _ _ (QN _ (by lia)) (Qa _ hm)⟩
  ·refine⟨_,rfl,st,_,_,_,rfl,rfl,bg.of a,g _ _,_,_,rfl,rfl,.inr ⟨by decide,by decide⟩,_,_,rfl,rfl,_,_,rfl,rfl,(by show(0:Int)<2305843009213693951;decide),_,rfl,st,_,_,1,rfl,rfl,a,rfl,?_⟩;have h2:(upd H st (.lst ([V.int d,V.int z].set 1 (V.int ((z*48271+1013904223)%2305843009213693951))))) st=some (.lst [V.int d,V.int ((z*48271+1013904223)%2305843009213693951)]):=ae;refine⟨_,rfl,st,_,_,_,rfl,rfl,bg.of h2,g _ _,_,_,rfl,rfl,.inr ⟨by decide,by decide⟩,_,_,rfl,rfl,(by show(0:Int)<2147483629;decide),_,rfl,st,_,_,_,rfl,rfl,bg.of h2,g _ _,_,_,rfl,rfl,⟨by decide,by decide +kernel⟩,_,_,rfl,rfl,_,rfl,_,_,rfl,rfl,hm,?_⟩;exact k _ _ _ (QN _ (by lia)) (Qa _ hm)
abbrev alpha:Str:="abcdefghijklmnopqrstuvwxyz"
theorem rr{i:Int}(h0:0<=i)(h1:i<26):iY alpha.cps.toList i=some (97+i.toNat):=by
 obtain⟨k,rfl,a⟩:=eW (z:=i) (n:=26) h0 h1;have :=(by decide +kernel:∀k:Fin 26,alpha.cps.toList[k.val]? =some (97+k.val)) ⟨k,a⟩;exact aA this
theorem jw{i:Int}:iY alpha.cps.toList (i%26)=some (97+(i%26).toNat):=rr (QN _ (by decide)) (Qa _ (by decide))
theorem fJ:alpha.length=26:=by decide +kernel
theorem Bq{α:Type}[BEq α][LawfulBEq α]:∀{l1 l2:List α},l1.Nodup->(∀x∈l1,x∈l2)->l1.length<=l2.length
 |[],_,_,_=>L5 _
 |a::l1,l2,nd,h=>by
  rw[QL]at nd;have ha:=h a Do;have :=Bq (l1:=l1) (l2:=l2.erase a) nd.2 λx hx=>(List.mem_erase_of_ne (λe=>nd.1 (by rw[<-e];exact hx))).mpr (h x (GE _ hx));rw[List.length_erase_of_mem ha]at this;have :0<l2.length:=List.length_pos_of_mem ha;rw[B8]
  lia
def lL(k:Nat)(ts:List Str):Prop:=∀(j:Nat)(x:Str),ts[j]? =some x->∃r:Str,x=⟨#[97+(k+7*j)%26]⟩++r
theorem A9{a b:Nat}{r':Str}(e:(⟨#[a]⟩:Str)++r=⟨#[b]⟩++r'):a=b:=by
 have q:[a]++r.cps.toList=[b]++r'.cps.toList:=by
  have :=congrArg (λs:Str=>s.cps.toList) e
  have z:∀(a:Nat)(r:Str),((⟨#[a]⟩:Str)++r).cps.toList=[a]++r.cps.toList:=λa r=>by
   show(#[a]++r.cps).toList=_;rw[LX]
  rw[<-z,<-z];exact this
 injection q
theorem A_{k:Nat}(h:lL k ts)(hl:ts.length<=26):ts.Nodup:=by
 refine List.pairwise_iff_getElem.mpr λi j hi b c e=>?_;obtain⟨r,a⟩:=h i _ (AC hi);obtain⟨r',d⟩:=h j _ (AC b);rw[a,d]at e;have :=A9 e
 lia
theorem lL.snoc{k:Nat}(h:lL k ts)(e:x=⟨#[97+(k+7*ts.length)%26]⟩++r):lL k (ts++[x]):=λj y a=>by
 by_cases b:j<ts.length
 ·rw[LQ b]at a;exact h j y a
 ·rw[GT (by lia)]at a
  have z:j-ts.length=0:=by
   have :=bR a;simp at this;exact CA
  rw[z]at a
  cases a
  have :j=ts.length:=by lia
  rw[this];exact⟨r,e⟩
theorem Hs(a:Nat)(r:Str):(⟨#[a]⟩:Str)++r≠"":=λe=>by
 have :=congrArg (λs:Str=>s.cps.toList.length) e
 have z:((⟨#[a]⟩:Str)++r).cps.toList.length=1+r.cps.toList.length:=by
  show(#[a]++r.cps).toList.length=_;rw[LX,B1];rfl
 have b:("":Str).cps.toList.length=0:=by decide +kernel
 rw[z,b]at this
 lia
theorem xm(x y z:Str):(x++y)++z=x++(y++z):=by
 show(⟨(x.cps++y.cps)++z.cps⟩:Str)=⟨x.cps++(y.cps++z.cps)⟩;rw[Nu]
theorem lh{xs:List Str}:gB (.str x) (xs.map V.str)=decide (x∈xs):=by
 unfold gB;rw[Qr];by_cases h:x∈xs
 ·rw[decide_eq_true h,SX];exact⟨x,h,by simp[qT]⟩
 ·rw[decide_eq_false h,Qs];intro y a;simp only[Function.comp,qT,beq_iff_eq];intro e;exact h (by rw[<-e];exact a)
theorem xN(a:List Str):(a.map V.str).all eX=true:=by
 rw[Pn];exact List.all_eq_true.mpr λ_ _=>rfl
def Vl(x:Str):Prop:=∀c∈x.cps.toList,97<=c/\c<=122
def Vn(x:Str):Prop:=1<=x.length/\x.length<=8/\Vl x
theorem IH(x y:Str):(x++y).cps.toList=x.cps.toList++y.cps.toList:=by
 show(x.cps++y.cps).toList=_;rw[LX]
theorem Vl.nil:Vl "":=λc a=>by
 have e:("":Str).cps.toList=[]:=by decide +kernel
 rw[e]at a
 cases a
theorem Vl.app(h:Vl x)(g:Vl y):Vl (x++y):=λa ha=>by
 rw[IH]at ha
 rcases List.mem_append.mp ha with z|z
 ·exact h a z
 ·exact g a z
theorem Vl.one(h:97<=c/\c<=122):Vl (⟨#[c]⟩:Str):=λa ha=>by
 have ha:a∈[c]:=ha;rw[List.mem_singleton.mp ha];exact h
theorem Lv(n:Nat):(Mj none (some 4) 1 n).length<=4:=by
 by_cases h:4<=n
 ·rw[StrLaws.sliceIdx_none_lo,show(some 0:Option Int)=some ((0:Nat):Int)from rfl,show(some 4:Option Int)=some ((4:Nat):Int)from rfl,QD (L5 _) h,be,MQ];exact B6 _
 ·have :=(by decide +kernel:∀i:Fin 4,(Mj none (some 4) 1 i.val).length<=4) ⟨n,by lia⟩;exact this
theorem HR(x:Str):(gT x none (some 4)).length<=4:=by
 have h:=Lv x.length;unfold gT
 split
 ·rename_i e
  have :=eq_of_beq e
  lia
 ·show((Mj none (some 4) 1 x.length).filterMap (x.cps[·]?)).toArray.size<=_;rw[B4];exact Mu (Rj _ _) h
theorem Bs(h:Vl x):Vl (gT x none (some 4)):=by
 unfold gT
 split
 ·exact h
 ·intro c a;have a:c∈(Mj none (some 4) 1 x.length).filterMap (x.cps[·]?):=a;obtain⟨i,_,e⟩:=List.mem_filterMap.mp a;rw[<-NU]at e;exact h c (Fk e)
inductive ya(vs:List V)(H:Hp)(Q:VK):Prop
 |mk (st:B3) (d z:Int) (m:Nat) (c0:vs=[.ref st,.int m]) (c1:H st=some (.lst [.int d,.int z])) (c2:m<=20) (c3:∀(l:B3)(bI:List Str)(d' z':Int)(H':Hp),H l=none->Kp st H H'->H' st=some (.lst [.int d',.int z'])->H' l=some (.lst (bI.map V.str))->bI.length=m->(∀x∈bI,x.length<=60)->bI.Nodup->(∀x∈bI,Vn x)->Q (.ref l) H')
def sZ:Sp:=λvs H Q _=>ya vs H Q
theorem dc:ay ["_law_stream_here","_law_many","_law_letters","_law_names_here","_law_k","_law_name","_law_j","_law_turn","_law_other"] Zf (aj vV):=cL
theorem xx(F:aZ K "_law_names" "_law_names" vV f fd)(N:aR mg)(G1:aw P w K mg base aO 1 f1 d1 Zf hF)(J1:Cq K mg d1 f1 Zf "_law_take"):
  aw P w K mg base aO 2 f fd Zf sZ:=by
 refine F.cS dc λcdv A outer s H vs Q E hr h=>?_
 ·obtain⟨st,d,z,m,e,W,hm,k⟩:=h;subst e
  refine⟨_,ah (aJ (i:=2) dc.nd rfl (KB rfl) aq)
   (ah (aJ (i:=3) dc.nd rfl (KB rfl) (bu ab))
   (ah (cG Ma rfl (cB rfl N.range (aa (pv 1) ab)) (aV (i:=4) dc.nd rfl (KB rfl))
    (ah (aJ (i:=5) dc.nd rfl (KB rfl) aq)
    (ah (cG Ma rfl (cB rfl N.range (aa (pq G1 hr J1 (aa (pv 0) (aa ag ab))) ab)) (aV (i:=6) dc.nd rfl (KB rfl))
     (ai (aJ (i:=5) dc.nd rfl (KB rfl) (aE aK (pv 5) (ax qO (pv 2) (pq G1 hr J1 (aa (pv 0) (aa ag ab))) (λ_ _=>rfl))))))
    (ah (aJ (i:=7) dc.nd rfl (KB rfl) (pv 4))
    (ah (rf Ma (mR (aB (r:=uK K false) cu (pv 5) (pv 3) (by rfl)) (jM (aB bD (pv 5) aq (aG _)))).pt
     (ah (aJ (i:=8) dc.nd rfl (KB rfl) (ax qO (pv 2) (aE hX (aE bM (aE pB (pv 7) ag) (aF cT (by rfl) N.len Md (aa (pv 5) ab))) ag) (λ_ _=>rfl)))
     (ah (aJ (i:=5) dc.nd rfl (KB rfl) (aE aK (aE aK (ax qO (pv 2) (aE hX (pv 7) ag) (λ_ _=>rfl)) (pv 8)) (hC v_ (pv 5) jq (jr ag))))
     (ai (aJ (i:=7) dc.nd rfl (KB rfl) (aE bM (pv 7) ag))))))
    (ai (bT (bV LZ L8 L7 bQ (pv 3) (aa (pv 5) ab)))))))))
   (ai (au (pv 3))))),?_⟩
  refine⟨az (by simp),λl hl=>?_⟩;have dC:l≠st:=Da (aM W hl);refine⟨_,rfl,(m:Int),rfl,by lia,by lia,?_⟩
  have en:((m:Int)).toNat=m:=by lia
  rw[en];refine cP (n:=m) (λi σ H2=>∃(u4 u5 u6 u7 u8:Option V)(bI:List Str)(d2 z2:Int),σ=[some (.ref st),some (.int m),some (.str alpha),some (.ref l),u4,u5,u6,u7,u8]/\Kp st H H2/\H2 st=some (.lst [.int d2,.int z2])/\H2 l=some (.lst (bI.map V.str))/\bI.length=i/\(∀x∈bI,x.length<=60)/\bI.Nodup/\∀x∈bI,Vn x) ⟨_,_,_,_,_,[],d,z,rfl,Kp.put (Kp.refl _) hl,by rw[ak (Da dC)];exact W,ae,rfl,(λx hx=>nomatch hx),List.nodup_nil,λx hx=>nomatch hx⟩ ?_ ?_
  ·rintro i σ H2 hi ⟨u4,u5,u6,u7,u8,bI,d2,z2,rfl,C,I,S,B,T,o,M⟩;have ei:(0:Int)+(i:Int)=(i:Int):=RO _;refine⟨_,rfl,st,d2,z2,8,rfl,I,by decide,by decide,λv0 d3 U b2 b1=>?_⟩;rw[ei];have a6:(upd H2 st (.lst [.int d3,.int U])) st=some (.lst [.int d3,.int U]):=ae
   have a8:(upd H2 st (.lst [.int d3,.int U])) l=some (.lst (bI.map V.str)):=by rw[ak dC];exact S
   have a9:Kp st H (upd H2 st (.lst [.int d3,.int U])):=C.trans Kp.store;generalize upd H2 st (.lst [.int d3,.int U])=H3 at *;refine⟨v0,rfl,by lia,Cw,?_⟩;refine cP (n:=v0.toNat) (λj σ H4=>∃(G:Option V)(nm:Str)(d4 Y:Int),σ=[some (.ref st),some (.int m),some (.str alpha),some (.ref l),some (.int i),some (.str nm),G,u7,u8]/\Kp st H H4/\H4 st=some (.lst [.int d4,.int Y])/\H4 l=some (.lst (bI.map V.str))/\nm.length<=j/\Vl nm) ⟨_,"",d3,U,rfl,a9,a6,a8,by decide +kernel,Vl.nil⟩ ?_ ?_
   ·rintro j σ H4 hj ⟨G,nm,d4,Y,rfl,L,J,p,a0,b⟩;refine⟨_,rfl,_,rfl,_,rfl,st,d4,Y,26,rfl,J,by decide,by decide,λv d5 z5 a7 a3=>?_⟩;refine⟨alpha,_,_,rfl,rfl,az (by rw[fJ];exact Cv),rr a7 a3,_,_,rfl,rfl,az (by show nm.length+1<=100000;lia),?_⟩;exact⟨_,_,d5,z5,rfl,L.trans Kp.store,ae,by rw[ak dC];exact p,by rw[B9];show nm.length+1<=j+1;exact Hu,b.app (Vl.one (by lia))⟩
   rintro σ H4 ⟨G,nm,d4,Y,rfl,L,J,p,a0,b⟩;refine⟨_,rfl,?_⟩
   refine⟨λm' σ R=>∃(nm:Str)(t:Nat)(ts:List Str)(c:Option V),R=H4/\σ=[some (.ref st),some (.int m),some (.str alpha),some (.ref l),some (.int i),some (.str nm),G,some (.int ((i+7*t:Nat):Int)),c]/\nm.length<=7+2*t/\(nm.length<=7/\Vl nm)/\t<=bI.length+1/\lL i ts/\(∀x∈ts,x∈bI)/\((t=0/\ts=[])∨(t=ts.length+1/\∃r,nm=⟨#[97+(i+7*ts.length)%26]⟩++r))/\m'=bI.length+2-t,
    ⟨bI.length+2,nm,0,[],_,rfl,rfl,by lia,⟨by lia,b⟩,Lu,(λj x e=>nomatch e),(λx e=>nomatch e),.inl ⟨rfl,rfl⟩,rfl⟩,?_⟩
   rintro m' σ R ⟨nm,t,ts,c,rfl,rfl,a0,⟨b0,b⟩,ht,Z,a1,D,rfl⟩
   have g:(nm∈bI∨nm="")->∃N:St->Hp->Prop,(∀σ' H',N σ' H'->∃m',m'<bI.length+2-t/\∃(nm:Str)(t:Nat)(ts:List Str)(c:Option V),H'=R/\σ'=[some (.ref st),some (.int m),some (.str alpha),some (.ref l),some (.int i),some (.str nm),G,some (.int ((i+7*t:Nat):Int)),c]/\nm.length<=7+2*t/\(nm.length<=7/\Vl nm)/\t<=bI.length+1/\lL i ts/\(∀x∈ts,x∈bI)/\((t=0/\ts=[])∨(t=ts.length+1/\∃r,nm=⟨#[97+(i+7*ts.length)%26]⟩++r))/\m'=bI.length+2-t)/\
     ∀a r:Str,a=⟨#[97+(i+7*t)%26]⟩++r->a.length<=2+nm.length->(a.length<=7/\Vl a)->∀c,N [some (.ref st),some (.int m),some (.str alpha),some (.ref l),some (.int i),some (.str a),G,some (.int ((i+7*(t+1):Nat):Int)),c] R:=λa5=>by
    obtain⟨u,h1,h2,h3,h4⟩:∃u:List Str,lL i u/\(∀x∈u,x∈bI)/\u.length=t/\t<=bI.length:=by
     rcases D with⟨rfl,rfl⟩|⟨X,r,er⟩
     ·exact⟨[],Z,a1,rfl,L5 _⟩
     ·have a2:nm∈bI:=a5.resolve_right λe=>Hs _ r (by rw[<-er];exact e);have hT:=Z.snoc er
      have hS:∀x∈ts++[nm],x∈bI:=λx hx=>by
       rcases List.mem_append.mp hx with q|q
       ·exact a1 x q
       ·rw[List.mem_singleton.mp q];exact a2
      have hL:(ts++[nm]).length=t:=by rw[B1,X];rfl
      refine⟨ts++[nm],hT,hS,hL,?_⟩;rw[<-hL];exact Bq (A_ hT (by rw[hL];lia)) hS
    refine⟨λσ' H'=>H'=R/\∃(a r:Str)(c:Option V),a=⟨#[97+(i+7*t)%26]⟩++r/\a.length<=2+nm.length/\(a.length<=7/\Vl a)/\σ'=[some (.ref st),some (.int m),some (.str alpha),some (.ref l),some (.int i),some (.str a),G,some (.int ((i+7*(t+1):Nat):Int)),c],?_,λa r e1 e2 e3 c=>⟨rfl,a,r,c,e1,e2,e3,rfl⟩⟩;rintro σ' H' ⟨rfl,a,r,c,e1,e2,e3,rfl⟩;exact⟨bI.length+2-(t+1),by lia,a,t+1,u,c,rfl,rfl,by lia,e3,Hu,h1,h2,.inr ⟨by lia,r,by rw[h3];exact e1⟩,rfl⟩
   refine⟨_,rfl,_,rfl,l,_,rfl,.inl (bg.of p),rfl,xN bI,_,rfl,?_⟩
   show if gB (.str nm) (bI.map V.str)=true then _ else _
   rw[lh];refine gP (λh1=>di ?_) (λh1=>?_)
   ·obtain⟨N,hN,O⟩:=g (.inl (of_decide_eq_true h1));refine⟨N,hN,?_⟩;refine⟨_,rfl,_,rfl,_,_,rfl,rfl,⟨by decide,by decide⟩,_,rfl,nm,rfl,az cV,_,_,rfl,rfl,_,_,rfl,rfl,(by show(0:Int)<26;decide),alpha,_,_,rfl,rfl,az (by rw[fJ];exact Cv),jw,?_⟩;refine⟨_,rfl,_,rfl,_,_,rfl,rfl,(by show(0:Int)<26;decide),alpha,_,_,rfl,rfl,az (by rw[fJ];exact Cv),jw,_,rfl,_,_,rfl,rfl,az (by show 1+1<=100000;exact Cv),_,rfl,_,rfl,nm,rfl,az cV,?_⟩;obtain⟨y,hy,y4,yl,ey⟩:∃y,y.length<=nm.length/\y.length<=4/\Vl y/\gT nm none (some 4)=y:=⟨_,pH _ _ _,HR nm,Bs b,rfl⟩;rw[ey];refine⟨_,_,rfl,rfl,az (by show 2+y.length<=100000;lia),?_⟩;refine⟨_,rfl,_,_,rfl,rfl,?_⟩
    have X:((i+7*t:Nat):Int)+7=((i+7*(t+1):Nat):Int):=by lia
    have ea:(((i+7*t:Nat):Int)%26).toNat=(i+7*t)%26:=by lia
    show N [_,_,_,_,_,_,_,some (V.int (((i+7*t:Nat):Int)+7)),_] R;rw[X];refine O _ (⟨#[97+((((i+7*t:Nat):Int)/26+(nm.length:Int))%26).toNat]⟩++y) ?_ (by rw[B9,B9];show 1+1+y.length<=2+nm.length;lia) ⟨by rw[B9,B9];show 1+1+y.length<=7;lia,((Vl.one (by lia)).app (Vl.one (by lia))).app yl⟩ _;rw[xm,ea]
   refine⟨_,rfl,rfl,_,rfl,gP (λh2=>?_) (λh2=>?_)⟩
   ·obtain⟨N,hN,O⟩:=g (.inr (V.str.inj (of_decide_eq_true h2)));refine⟨N,hN,?_⟩;refine⟨_,rfl,_,rfl,_,_,rfl,rfl,⟨by decide,by decide⟩,_,rfl,nm,rfl,az cV,_,_,rfl,rfl,_,_,rfl,rfl,(by show(0:Int)<26;decide),alpha,_,_,rfl,rfl,az (by rw[fJ];exact Cv),jw,?_⟩;refine⟨_,rfl,_,rfl,_,_,rfl,rfl,(by show(0:Int)<26;decide),alpha,_,_,rfl,rfl,az (by rw[fJ];exact Cv),jw,_,rfl,_,_,rfl,rfl,az (by show 1+1<=100000;exact Cv),_,rfl,_,rfl,nm,rfl,az cV,?_⟩;obtain⟨y,hy,y4,yl,ey⟩:∃y,y.length<=nm.length/\y.length<=4/\Vl y/\gT nm none (some 4)=y:=⟨_,pH _ _ _,HR nm,Bs b,rfl⟩;rw[ey];refine⟨_,_,rfl,rfl,az (by show 2+y.length<=100000;lia),?_⟩;refine⟨_,rfl,_,_,rfl,rfl,?_⟩
    have X:((i+7*t:Nat):Int)+7=((i+7*(t+1):Nat):Int):=by lia
    have ea:(((i+7*t:Nat):Int)%26).toNat=(i+7*t)%26:=by lia
    show N [_,_,_,_,_,_,_,some (V.int (((i+7*t:Nat):Int)+7)),_] R;rw[X];refine O _ (⟨#[97+((((i+7*t:Nat):Int)/26+(nm.length:Int))%26).toNat]⟩++y) ?_ (by rw[B9,B9];show 1+1+y.length<=2+nm.length;lia) ⟨by rw[B9,B9];show 1+1+y.length<=7;lia,((Vl.one (by lia)).app (Vl.one (by lia))).app yl⟩ _;rw[xm,ea]
   have a4:nm∉bI:=λz=>h1 (decide_eq_true z);refine⟨_,rfl,.inl ⟨rfl,_,bg.of p⟩,_,rfl,l,_,_,rfl,rfl,p,small (by rw[be];lia),?_⟩;refine⟨_,_,_,_,_,bI++[nm],d4,Y,rfl,Kp.put L hl,by rw[ak (Da dC)];exact J,by rw[ae,Dk];rfl,by rw[B1];show bI.length+1=i+1;lia,?_,?_,?_⟩
   ·intro x hx
    rcases List.mem_append.mp hx with z|z
    ·exact T x z
    ·rw[List.mem_singleton.mp z];exact cV
   ·refine List.nodup_append.mpr ⟨o,List.pairwise_singleton _ _,λx hx y hy e=>a4 ?_⟩;rw[<-List.mem_singleton.mp hy,<-e];exact hx
   ·intro x hx
    rcases List.mem_append.mp hx with z|z
    ·exact M x z
    ·rw[List.mem_singleton.mp z];refine⟨?_,cV,b⟩;by_cases q:nm.length=0
     ·refine absurd (decide_eq_true ?_) h2
      have e0:nm="":=by
       refine kQ ?_;have e1:nm.cps.toList=[]:=Mf (by rw[LY];exact q);rw[e1];decide +kernel
      rw[e0]
     ·lia
  ·rintro σ H2 ⟨u4,u5,u6,u7,u8,bI,d2,z2,rfl,C,I,S,B,T,o,M⟩;exact⟨_,rfl,k l bI d2 z2 H2 hl C I S B T o M⟩
theorem bO{x:Int}(h0:0<=x)(h1:x<1000000000):bC x:=by unfold bC;lia
theorem KT.kp{st:B3}(k:Kp st H H')(h:H st=some (.lst xs)):KT H H':=λb ys e=>k b _ (gx e h (by intro z;cases z)) e
def Vr(a b:Int):Prop:=0<=a/\a<=b/\b<=1000000
def Va(p:Str×Int):Prop:=(p.1="start"∨p.1="mid"∨p.1="mid2"∨p.1="end")/\ -1000000<=p.2/\p.2<=1000000
def JA(c:Nat):Prop:=33<=c/\c<=126/\c≠37/\c≠124
def Vx(x:Str):Prop:=∀c∈x.cps.toList,JA c
def G_(ws:List (List Str)):Prop:=∀w∈ws,∀x∈w,Vx x
theorem Vx.nil:Vx "":=λc a=>by
 have e:("":Str).cps.toList=[]:=by decide +kernel
 rw[e]at a
 cases a
theorem Vx.snoc(h:Vx x)(b:JA c):Vx (x++(⟨#[c]⟩:Str)):=λa ha=>by
 have e:(x++(⟨#[c]⟩:Str)).cps.toList=x.cps.toList++[c]:=by
  show(x.cps++#[c]).toList=_;rw[LX]
 rw[e]at ha
 rcases List.mem_append.mp ha with z|z
 ·exact h a z
 ·rw[List.mem_singleton.mp z];exact b
inductive Ar(vs:List V)(H:Hp)(Q:VK):Prop
 |mk (st:B3) (d z:Int) (c0:vs=[.ref st]) (c1:H st=some (.lst [.int d,.int z])) (c2:∀(t:B3)(a b d' z':Int)(H':Hp),H t=none->Kp st H H'->H' st=some (.lst [.int d',.int z'])->H' t=some (.tup [.int a,.int b])->bC a->bC b->Vr a b->Q (.ref t) H')
def wM:Sp:=λvs H Q _=>Ar vs H Q
inductive yP(vs:List V)(H:Hp)(Q:VK):Prop
 |mk (st:B3) (d z:Int) (c0:vs=[.ref st]) (c1:H st=some (.lst [.int d,.int z])) (c2:∀(t:B3)(ws:List (List Str))(d' z':Int)(H':Hp),H t=none->Kp st H H'->H' st=some (.lst [.int d',.int z'])->oi H' t ws->eH ws->G_ ws->Q (.ref t) H')
def rS:Sp:=λvs H Q _=>yP vs H Q
inductive yU(vs:List V)(H:Hp)(Q:VK):Prop
 |mk (st:B3) (d z:Int) (c0:vs=[.ref st]) (c1:H st=some (.lst [.int d,.int z])) (c2:∀(t:B3)(p:Str×Int)(d' z':Int)(H':Hp),H t=none->Kp st H H'->H' st=some (.lst [.int d',.int z'])->H' t=some (.tup [.str p.1,.int p.2])->hJ p->Va p->Q (.ref t) H')
def rM:Sp:=λvs H Q _=>yU vs H Q
theorem ng:(10:Int)^Ny 6=1000000:=by decide
abbrev sgn:Str:="abkxyzAZ019-=,.:;'^_~!#text"
theorem EH:sgn.length=27:=by decide +kernel
theorem Hy{i:Int}(h0:0<=i)(h1:i<27):∃c,iY sgn.cps.toList i=some c/\JA c:=by
 obtain⟨k,rfl,b⟩:=eW (z:=i) (n:=27) h0 h1
 have hl:sgn.cps.toList.length=27:=by decide +kernel
 have a:∀c∈sgn.cps.toList,JA c:=by
  unfold JA;decide +kernel
 exact⟨_,aA (AC CI),a _ (MY _)⟩
theorem rn{c:Int}(h0:0<=v)(h1:v<3):∃x,iY [V.int a,.int b,.int c] v=some (.int x)/\(x=a∨x=b∨x=c):=by
 obtain⟨k,rfl,d⟩:=eW (z:=v) (n:=3) h0 h1
 match k,d with
 |0,_=>exact⟨a,rfl,.inl rfl⟩
 |1,_=>exact⟨b,rfl,.inr (.inl rfl)⟩
 |2,_=>exact⟨c,rfl,.inr (.inr rfl)⟩
theorem D3(h0:0<=v)(h1:v<4):∃x:Str,iY [V.str "start",.str "mid",.str "mid2",.str "end"] v=some (.str x)/\44∉x.cps.toList/\x.length<=10/\(x="start"∨x="mid"∨x="mid2"∨x="end"):=by
 obtain⟨k,rfl,a⟩:=eW (z:=v) (n:=4) h0 h1
 match k,a with
 |0,_=>exact⟨"start",rfl,by decide +kernel,by decide +kernel,.inl rfl⟩
 |1,_=>exact⟨"mid",rfl,by decide +kernel,by decide +kernel,.inr (.inl rfl)⟩
 |2,_=>exact⟨"mid2",rfl,by decide +kernel,by decide +kernel,.inr (.inr (.inl rfl))⟩
 |3,_=>exact⟨"end",rfl,by decide +kernel,by decide +kernel,.inr (.inr (.inr rfl))⟩
theorem sy:ay ["_law_stream_here","_law_least"] Zi (aj vP):=cL
theorem ye(F:aZ K "_law_range" "_law_range" vP f fd)(B:aw P w K mg base aO 1 f1 d1 Zf hF)(C:Cq K mg d1 f1 Zf "_law_take"):aw P w K mg base aO 2 f fd Zi wM:=by
 refine F.cS sy λcdv A outer s H vs Q E D h=>?_
 ·obtain⟨st,d,z,e,I,k⟩:=h;subst e
  refine⟨_,ah (aQ (aB bD (pq B D C (aa (pv 0) (aa ag ab))) ag (aG _)) (ai (au (aS (aa ag (aa (aE iT ag ag) ab))))) aC)
   (ah (aJ (i:=1) sy.nd rfl (KB rfl) (pq B D C (aa (pv 0) (aa (ax bF (bu (aa ag (aa ag (aa (aE bM (aE iT ag ag) ag) ab)))) (pq B D C (aa (pv 0) (aa ag ab))) (λ_ _=>rfl)) ab))))
   (ai (au (aS (aa (pv 1) (aa (aE bM (pv 1) (pq B D C (aa (pv 0) (aa (aE eE (aE bM (aE iT ag ag) ag) (pv 1)) ab)))) ab)))))),?_⟩
  refine ar λZ y=>?_;refine⟨_,rfl,st,d,z,3,rfl,I,by decide,by decide,λv d1 o v0 v1=>?_⟩;have g:Kp st H (upd H st (.lst [.int d1,.int o])):=Kp.store;have h1:(upd H st (.lst [.int d1,.int o])) st=some (.lst [.int d1,.int o]):=ae;generalize upd H st (.lst [.int d1,.int o])=H1 at *;refine⟨rfl,_,rfl,gP (λ_=>?_) (λ_=>y _ _ ?_)⟩
  ·refine⟨_,_,rfl,rfl,⟨by decide,by decide,by decide⟩,(by show 2<=sizeLine;decide),λt j=>?_⟩
   have n:st≠t:=λz=>by rw[<-z,h1]at j;cases j
   exact k t _ _ d1 o _ (g.gone (Da n) j) (Kp.put g (g.gone (Da n) j)) ((ak n).trans h1) ae gO (by show bC ((10:Int)^Ny 6);rw[ng];exact bO (by decide) (by decide)) (by show Vr 0 ((10:Int)^Ny 6);rw[ng];exact⟨by decide,by decide,by decide⟩)
  clear y Z;refine ar λN2 N=>?_;refine⟨_,rfl,_,_,rfl,rfl,⟨by decide,by decide,by decide⟩,_,_,rfl,rfl,(by show 3<=sizeLine;decide),λl hl=>?_⟩
  have L:st≠l:=λz=>by rw[<-z,h1]at hl;cases hl
  have S:=g.gone (Da L) hl;have h2:(upd H1 l (.lst [.int 20,.int 1000,.int (10^Ny 6+1)])) st=some (.lst [.int d1,.int o]):=(ak L).trans h1;have l2:(upd H1 l (.lst [.int 20,.int 1000,.int (10^Ny 6+1)])) l=some (.lst [.int 20,.int 1000,.int (10^Ny 6+1)]):=ae;have J:Kp st H (upd H1 l (.lst [.int 20,.int 1000,.int (10^Ny 6+1)])):=Kp.put g S;generalize upd H1 l (.lst [.int 20,.int 1000,.int (10^Ny 6+1)])=H2 at *;refine⟨_,rfl,st,d1,o,3,rfl,h2,by decide,by decide,λv2 d2 p M R=>?_⟩;have l3:(upd H2 st (.lst [.int d2,.int p])) l=some (.lst [.int 20,.int 1000,.int (10^Ny 6+1)]):=(ak (Da L)).trans l2;have Y:(upd H2 st (.lst [.int d2,.int p])) st=some (.lst [.int d2,.int p]):=ae;have U:Kp st H (upd H2 st (.lst [.int d2,.int p])):=J.trans Kp.store;generalize upd H2 st (.lst [.int d2,.int p])=H3 at *;obtain⟨x,hx,T⟩:=rn (a:=20) (b:=1000) (c:=10^Ny 6+1) M R;rw[ng]at T;refine⟨l,_,_,_,rfl,rfl,bg.of l3,hx,st,d2,p,x,rfl,Y,by lia,by lia,λW d3 r u a0=>?_⟩;have h4:(upd H3 st (.lst [.int d3,.int r])) st=some (.lst [.int d3,.int r]):=ae;have O:Kp st H (upd H3 st (.lst [.int d3,.int r])):=U.trans Kp.store;generalize upd H3 st (.lst [.int d3,.int r])=H4 at *;refine N _ _ ?_;refine⟨_,rfl,_,rfl,_,rfl,_,_,rfl,rfl,⟨by decide,by decide,by decide⟩,_,_,rfl,rfl,_,rfl,_,_,rfl,rfl,st,d3,r,_,rfl,h4,by rw[ng];lia,by rw[ng];lia,λv4 d4 q X G=>?_⟩;rw[ng]at G;have V:(upd H4 st (.lst [.int d4,.int q])) st=some (.lst [.int d4,.int q]):=ae;have m:Kp st H (upd H4 st (.lst [.int d4,.int q])):=O.trans Kp.store;generalize upd H4 st (.lst [.int d4,.int q])=H5 at *;refine⟨_,_,rfl,rfl,(by show 2<=sizeLine;decide),λt j=>?_⟩
  have n:st≠t:=λz=>by rw[<-z,V]at j;cases j
  exact k t W (W+v4) d4 q _ (m.gone (Da n) j) (Kp.put m (m.gone (Da n) j)) ((ak n).trans V) ae (bO u (by lia)) (bO (by lia) (by lia)) ⟨u,by lia,by lia⟩
theorem jY:ay ["_law_stream_here","_law_by"] Zi (aj qZ):=cL
theorem vl(F:aZ K "_law_anchor" "_law_anchor" qZ f fd)(p:aw P w K mg base aO 1 f1 d1 Zf hF)(r:Cq K mg d1 f1 Zf "_law_take"):aw P w K mg base aO 2 f fd Zi rM:=by
 refine F.cS jY λcdv A outer s H vs Q E u h=>?_
 ·obtain⟨st,d,z,e,B,k⟩:=h;subst e
  refine⟨_,ah (aJ (i:=1) jY.nd rfl (KB rfl) (aE eE (pq p u r (aa (pv 0) (aa ag ab))) ag))
   (ah (aQ (aB bD (pq p u r (aa (pv 0) (aa ag ab))) ag (aG _)) (ai (aJ (i:=1) jY.nd rfl (KB rfl) (aE eE (pq p u r (aa (pv 0) (aa (aE bM (aE nv ag (aE iT ag ag)) ag) ab))) (aE iT ag ag)))) aC)
   (ai (au (aS (aa (ax bF (bu (aa aq (aa aq (aa aq (aa aq ab))))) (pq p u r (aa (pv 0) (aa ag ab))) (λ_ _=>rfl)) (aa (pv 1) ab)))))),?_⟩
  refine ar λU o=>?_;refine⟨_,rfl,st,d,z,7,rfl,B,by decide,by decide,λv d1 n v0 v1=>?_⟩;have M:Kp st H (upd H st (.lst [.int d1,.int n])):=Kp.store;have h1:(upd H st (.lst [.int d1,.int n])) st=some (.lst [.int d1,.int n]):=ae;generalize upd H st (.lst [.int d1,.int n])=H1 at *;refine⟨_,_,rfl,rfl,o _ _ ?_⟩;clear o U;refine ar λS J=>?_
  have m:∀(b d2 c:Int)(H2:Hp),Kp st H H2->H2 st=some (.lst [.int d2,.int c])->bC b->(-1000000<=b/\b<=1000000)->S [some (.ref st),some (.int b)] H2:=λb d2 c H2 a h2 gb R=>by
   refine J _ _ ?_;refine⟨(by show 4<=sizeLine;decide),λl hl=>?_⟩
   have G:st≠l:=λz=>by rw[<-z,h2]at hl;cases hl
   have L:=a.gone (Da G) hl;have T:(upd H2 l (.lst [.str "start",.str "mid",.str "mid2",.str "end"])) st=some (.lst [.int d2,.int c]):=(ak G).trans h2;have l3:(upd H2 l (.lst [.str "start",.str "mid",.str "mid2",.str "end"])) l=some (.lst [.str "start",.str "mid",.str "mid2",.str "end"]):=ae;have N:Kp st H (upd H2 l (.lst [.str "start",.str "mid",.str "mid2",.str "end"])):=Kp.put a L;generalize upd H2 l (.lst [.str "start",.str "mid",.str "mid2",.str "end"])=H3 at *;refine⟨_,rfl,st,d2,c,4,rfl,T,by decide,by decide,λv4 d4 j C y=>?_⟩;have l4:(upd H3 st (.lst [.int d4,.int j])) l=some (.lst [.str "start",.str "mid",.str "mid2",.str "end"]):=(ak (Da G)).trans l3;have O:(upd H3 st (.lst [.int d4,.int j])) st=some (.lst [.int d4,.int j]):=ae;have g:Kp st H (upd H3 st (.lst [.int d4,.int j])):=N.trans Kp.store;generalize upd H3 st (.lst [.int d4,.int j])=H4 at *;obtain⟨x,hx,Y,X,W⟩:=D3 C y;refine⟨l,_,_,_,rfl,rfl,bg.of l4,hx,_,rfl,(by show 2<=sizeLine;decide),λt q=>?_⟩
   have D:st≠t:=λz=>by rw[<-z,O]at q;cases q
   exact k t (x,b) d4 j _ (g.gone (Da D) q) (Kp.put g (g.gone (Da D) q)) ((ak D).trans O) ae ⟨Y,X,gb⟩ ⟨W,R⟩
  refine⟨_,rfl,st,d1,n,4,rfl,h1,by decide,by decide,λv2 d2 c Z a0=>?_⟩;have a:Kp st H (upd H1 st (.lst [.int d2,.int c])):=M.trans Kp.store;have h2:(upd H1 st (.lst [.int d2,.int c])) st=some (.lst [.int d2,.int c]):=ae;generalize upd H1 st (.lst [.int d2,.int c])=H2 at *;refine⟨rfl,_,rfl,gP (λ_=>?_) (λ_=>m _ d2 c H2 a h2 (by unfold bC;lia) (by lia))⟩;refine⟨_,rfl,_,_,rfl,rfl,⟨by decide,by decide,by decide⟩,_,_,rfl,rfl,.inl ⟨by decide,by decide⟩,_,_,rfl,rfl,st,d2,c,_,rfl,h2,by decide,by decide,λv3 d3 V a1 I=>?_⟩
  have e2:(2:Int)*10^Ny 6+1=2000001:=by decide
  rw[e2]at I;refine⟨_,_,rfl,rfl,⟨by decide,by decide,by decide⟩,_,_,rfl,rfl,?_⟩;exact m _ d3 V _ (a.trans Kp.store) ae (by rw[ng];unfold bC;lia) (by rw[ng];lia)
theorem eC:ay ["_law_stream_here","_law_words_here","_law_k","_law_word","_law_j","_law_piece","_law_i"] Zi (aj wb):=cL
theorem zg(F:aZ K "_law_words" "_law_words" wb f fd)(N:aR mg)(G1:aw P w K mg base aO 1 f1 d1 Zf hF)(J1:Cq K mg d1 f1 Zf "_law_take"):aw P w K mg base aO 2 f fd Zi rS:=by
 refine F.cS eC λcdv A outer s H vs Q E hr h=>?_
 ·obtain⟨st,d,z,e,T,k⟩:=h;subst e
  refine⟨_,ah (aJ (i:=1) eC.nd rfl (KB rfl) (bu ab))
   (ah (cG Ma rfl (cB (by rfl) N.range (aa (pq G1 hr J1 (aa (pv 0) (aa ag ab))) ab)) (aV (i:=2) eC.nd rfl (KB rfl))
    (ah (aJ (i:=3) eC.nd rfl (KB rfl) (bu ab))
    (ah (cG Ma rfl (cB (by rfl) N.range (aa (aE bM ag (pq G1 hr J1 (aa (pv 0) (aa ag ab)))) ab)) (aV (i:=4) eC.nd rfl (KB rfl))
     (ah (aJ (i:=5) eC.nd rfl (KB rfl) aq)
     (ah (cG Ma rfl (cB (by rfl) N.range (aa (aE bM ag (pq G1 hr J1 (aa (pv 0) (aa ag ab)))) ab)) (aV (i:=6) eC.nd rfl (KB rfl))
      (ai (aJ (i:=5) eC.nd rfl (KB rfl) (aE aK (pv 5) (ax qO aq (pq G1 hr J1 (aa (pv 0) (aa ag ab))) (λ_ _=>rfl))))))
     (ai (bT (bV LZ L8 L7 bQ (pv 3) (aa (pv 5) ab)))))))
    (ai (bT (bV LZ L8 L7 bQ (pv 1) (aa (aH bf (by rfl) N.tuple LR (aa (pv 3) ab)) ab)))))))
   (ai (au (aH bf (by rfl) N.tuple LR (aa (pv 1) ab))))),?_⟩
  refine ar λN0 a2=>?_;refine⟨az (by simp),λa B=>a2 _ _ ?_⟩;clear a2 N0;have nw:a≠st:=Da (aM T B);have b4:Kp st H (upd H a (.lst [])):=Kp.put (Kp.refl _) B;have s1:(upd H a (.lst [])) st=some (.lst [.int d,.int z]):=(ak (Da nw)).trans T;have w1:(upd H a (.lst [])) a=some (.lst (([]:List B3).map V.ref)):=ae;generalize upd H a (.lst [])=H1 at *;refine ar λN1 b5=>?_;refine⟨_,rfl,st,d,z,4,rfl,s1,by decide,by decide,λv0 d2 S c3 c2=>?_⟩;have a4:Kp st H (upd H1 st (.lst [.int d2,.int S])):=b4.trans Kp.store;have s2:(upd H1 st (.lst [.int d2,.int S])) st=some (.lst [.int d2,.int S]):=ae;have w2:(upd H1 st (.lst [.int d2,.int S])) a=some (.lst (([]:List B3).map V.ref)):=(ak nw).trans w1;generalize upd H1 st (.lst [.int d2,.int S])=H2 at *;refine⟨v0,rfl,by lia,Cw,?_⟩
  refine cP (n:=v0.toNat) (λi σ p=>∃(u2 u3 u4 u5 u6:Option V)(as:List B3)(ws:List (List Str))(J G:Int),σ=[some (.ref st),some (.ref a),u2,u3,u4,u5,u6]/\Kp st H p/\p st=some (.lst [.int J,.int G])/\p a=some (.lst (as.map V.ref))/\bp p as (ws.map de)/\as.length=i/\(∀w∈ws,1<=w.length/\w.length<=3/\∀x∈w,1<=x.length/\x.length<=4)/\G_ ws)
   ⟨_,_,_,_,_,[],[],d2,S,rfl,a4,s2,w2,bp.nil,rfl,(λw L=>nomatch L),λw L=>nomatch L⟩ ?_ ?_
  ·rintro i σ H3 hi ⟨u2,u3,u4,u5,u6,as,ws,d3,z3,rfl,m,M,w3,r3,Y,g3,q3⟩;refine ar λN4 W=>?_;refine⟨az (by simp),λg r=>W _ _ ?_⟩;clear W N4;have nx:g≠st:=Da (aM M r);have b8:a≠g:=aM w3 r;have b6:=m.gone nx r;have b2:Kp st H3 (upd H3 g (.lst [])):=Kp.put (Kp.refl _) r;have s4:(upd H3 g (.lst [])) st=some (.lst [.int d3,.int z3]):=(ak (Da nx)).trans M;have x4:(upd H3 g (.lst [])) g=some (.lst (([]:List Str).map V.str)):=ae;generalize upd H3 g (.lst [])=H4 at *;refine ar λN2 a6=>?_;refine⟨_,rfl,st,d3,z3,3,rfl,s4,by decide,by decide,λv1 d5 O b7 c1=>?_⟩;have a9:Kp st H3 (upd H4 st (.lst [.int d5,.int O])):=b2.trans Kp.store;have s5:(upd H4 st (.lst [.int d5,.int O])) st=some (.lst [.int d5,.int O]):=ae;have x5:(upd H4 st (.lst [.int d5,.int O])) g=some (.lst (([]:List Str).map V.str)):=(ak nx).trans x4;generalize upd H4 st (.lst [.int d5,.int O])=H5 at *;refine⟨_,_,rfl,rfl,_,rfl,by lia,by lia,?_⟩
   refine cP (n:=(1+v1).toNat) (λj σ p=>∃(y4 y5 y6:Option V)(xs:List Str)(J G:Int),σ=[some (.ref st),some (.ref a),some (.int (0+(i:Int))),some (.ref g),y4,y5,y6]/\Kp st H3 p/\p st=some (.lst [.int J,.int G])/\p g=some (.lst (xs.map V.str))/\xs.length=j/\(∀x∈xs,1<=x.length/\x.length<=4)/\∀x∈xs,Vx x)
    ⟨_,_,_,[],d5,O,rfl,a9,s5,x5,rfl,(λx hx=>nomatch hx),λx hx=>nomatch hx⟩ ?_ ?_
   ·rintro j σ q hj ⟨y4,y5,y6,xs,d6,z6,rfl,l,s6,x6,a1,g6,q6⟩;refine ar λN5 a0=>a0 _ _ ?_;clear a0 N5;refine ar λN3 b3=>?_;refine⟨_,rfl,st,d6,z6,4,rfl,s6,by decide,by decide,λv2 d7 R b9 c0=>?_⟩;have b0:Kp st H3 (upd q st (.lst [.int d7,.int R])):=l.trans Kp.store;have s7:(upd q st (.lst [.int d7,.int R])) st=some (.lst [.int d7,.int R]):=ae;have x7:(upd q st (.lst [.int d7,.int R])) g=some (.lst (xs.map V.str)):=(ak nx).trans x6;generalize upd q st (.lst [.int d7,.int R])=H7 at *;refine⟨_,_,rfl,rfl,_,rfl,by lia,by lia,?_⟩
    refine cP (n:=(1+v2).toNat) (λn σ p=>∃(t6:Option V)(D:Str)(J G:Int),σ=[some (.ref st),some (.ref a),some (.int (0+(i:Int))),some (.ref g),some (.int (0+(j:Int))),some (.str D),t6]/\Kp st H3 p/\p st=some (.lst [.int J,.int G])/\p g=some (.lst (xs.map V.str))/\D.length=n/\Vx D)
     ⟨_,"",d7,R,rfl,b0,s7,x7,by decide +kernel,Vx.nil⟩ ?_ ?_
    ·rintro n σ H8 hn ⟨t6,D,d8,z8,rfl,C,s8,x8,a3,I⟩;refine⟨_,rfl,_,rfl,st,d8,z8,27,rfl,s8,by decide,by decide,λv J G a8 a5=>?_⟩;obtain⟨c,hc,a7⟩:=Hy a8 a5;refine⟨sgn,_,_,rfl,rfl,az (by rw[EH];decide),hc,_,_,rfl,rfl,az (by show D.length+1<=100000;lia),?_⟩;exact⟨_,_,J,G,rfl,C.trans Kp.store,ae,(ak nx).trans x8,by rw[B9,a3];rfl,I.snoc a7⟩
    ·rintro σ H8 ⟨t6,D,d8,z8,rfl,C,s8,x8,a3,I⟩;refine b3 _ _ ?_;refine⟨_,rfl,.inl ⟨rfl,_,bg.of x8⟩,_,rfl,g,_,_,rfl,rfl,x8,small (by rw[be];lia),?_⟩;refine⟨_,_,_,xs++[D],d8,z8,rfl,λb o hb e=>?_,(ak (Da nx)).trans s8,by rw[ae,Dk];rfl,by rw[B1,a1];rfl,λx hx=>?_,λx hx=>?_⟩
     ·rw[ak (λz=>by rw[z,r]at e;cases e)];exact C b o hb e
     ·rcases List.mem_append.mp hx with z|z
      ·exact g6 x z
      ·rw[List.mem_singleton.mp z];lia
     ·rcases List.mem_append.mp hx with z|z
      ·exact q6 x z
      ·rw[List.mem_singleton.mp z];exact I
   ·rintro σ q ⟨y4,y5,y6,xs,d6,z6,rfl,l,s6,x6,a1,g6,q6⟩;refine a6 _ _ ?_;have w6:q a=some (.lst (as.map V.ref)):=l _ _ nw w3;refine⟨_,rfl,.inl ⟨rfl,_,bg.of w6⟩,_,rfl,g,_,rfl,.inl ⟨bg.of x6,λt y=>?_⟩⟩;have U:st≠t:=aM s6 y;have Z:a≠t:=aM w6 y;have r6:=dY r3 (KT.kp l M);refine⟨a,_,_,rfl,rfl,(ak Z).trans w6,small (by rw[be];lia),?_⟩;refine⟨_,_,_,_,_,as++[t],ws++[xs],d6,z6,rfl,?_,?_,by rw[ae,Dk];rfl,?_,by rw[B1,Y];rfl,λw L=>?_,λw L=>?_⟩
    ·have u:H t=none:=(m.trans l).gone (Da U) y;exact Kp.put (Kp.put (m.trans l) u) B
    ·rw[ak (Da nw),ak U];exact s6
    ·rw[Dk];have b1:(upd q t (.tup (xs.map V.str))) t=some (.tup (de xs)):=ae;have k1:KT q (upd q t (.tup (xs.map V.str))):=KT.put y;have k2:KT (upd q t (.tup (xs.map V.str))) (upd (upd q t (.tup (xs.map V.str))) a (.lst (as.map V.ref++[V.ref t]))):=KT.lst ((ak Z).trans w6);exact bp.snoc (dY r6 (k1.trans k2)) (af.refl _) (k2 _ _ b1)
    ·rcases List.mem_append.mp L with z|z
     ·exact g3 w z
     ·rw[List.mem_singleton.mp z];exact⟨by lia,by lia,g6⟩
    ·rcases List.mem_append.mp L with z|z
     ·exact q3 w z
     ·rw[List.mem_singleton.mp z];exact q6
  ·rintro σ H3 ⟨u2,u3,u4,u5,u6,as,ws,d3,z3,rfl,m,M,w3,r3,Y,g3,q3⟩;refine b5 _ _ ?_;refine⟨_,rfl,a,_,rfl,.inl ⟨bg.of w3,λt y=>?_⟩⟩;have U:st≠t:=aM M y;have u:H t=none:=m.gone (Da U) y
   have X:ws.length<=3:=by have :=r3.1;rw[be]at this;lia
   exact k t ws d3 z3 _ u (Kp.put m u) ((ak U).trans M) ⟨as,ae,dY r3 (KT.put y)⟩ ⟨X,g3⟩ q3
theorem hI{lo:Int}{te:TE}(a:B3->Nat->List V->Hp->Prop)(hn:n<sizeLine)(h0:∀D,H D=none->a D 0 [] (upd H D (.lst [])))(hl:∀D i l H',a D i l H'->l.length<=i)(he:∀(D:B3)(i:Nat)(l:List V)(H':Hp)(b:VK),i<n->a D i l H'->(∀y H3,H3 D=some (.lst l)->a D (i+1) (l++[y]) (upd H3 D (.lst (l++[y])))->b y H3)->te (some (.int (lo+i))::σ) H' b)(hd:∀D l H',a D n l H'->Q (.ref D) H'):fb (Eg lo n) H σ gw te Q:=
 tq a hn h0 hl (λD i l H' d hi pv c=>c true H' (λh=>by cases h) (λ_ b k=>he D i l H' b hi pv k)) hd
def Kb(kd:Str):Prop:=kd="leaf"∨(∃k,kd=(aX.lined k 0 "" "").kd)∨kd="table"∨kd="words"∨kd="flow"∨kd="over"
def Vs(s:Str):Prop:=s="left"∨s="right"
def Vw:aX->Nat->Prop
 | .leaf a b,n=>n=0/\(0<=a/\a<=1000000)/\0<=b/\b<=1000000
 | .lined _ g al sd,n=>n<=4/\(0<=g/\g<=1000)/\(al="start"∨al="end"∨al="mid"∨al="mid2")/\Vs sd
 | .table c g sd sps,n=>n<=4/\(1<=c/\c<=12)/\(0<=g/\g<=1000)/\Vs sd/\sps.length=n/\∀p∈sps,(1<=p.1/\p.1<=c)/\1<=p.2/\p.2<=12
 | .words ws j,n=>n=0/\G_ ws/\0<=j/\j<=999
 | .flow sds ws j,n=>n<=4/\sds.length=n/\(∀s∈sds,Vs s)/\G_ ws/\0<=j/\j<=999
 | .over ps,n=>(1<=n/\n<=4)/\ps.length+1=n/\∀p∈ps,Va p.1/\Va p.2
inductive zV(vs:List V)(H:Hp)(Q:VK):Prop
 |mk (st:B3) (d z:Int) (kd:Str) (n:Nat) (c0:vs=[.ref st,.str kd,.int (n:Int)]) (c1:H st=some (.lst [.int d,.int z])) (c2:Kb kd) (c3:n<=4) (c4:(kd="leaf"∨kd="words"->n=0)) (c5:(kd="over"->1<=n)) (c6:∀(t:B3)(wh:aX)(d' z':Int)(H':Hp),H t=none->Kp st H H'->H' st=some (.lst [.int d',.int z'])->cJ H' t wh->wh.Good->wh.kd=kd->Fo.fits wh n->Vw wh n->Q (.ref t) H')
def wk:Sp:=λvs H Q _=>zV vs H Q
theorem EX(h0:0<=v)(h1:v<2):∃x:Str,iY [V.str "left",.str "right"] v=some (.str x)/\(x="left"∨x="right"):=by
 obtain⟨k,rfl,a⟩:=eW (z:=v) (n:=2) h0 h1
 match k,a with
 |0,_=>exact⟨"left",rfl,.inl rfl⟩
 |1,_=>exact⟨"right",rfl,.inr rfl⟩
theorem uR(h:x="left"∨x="right"):x.length<=10:=by rcases h with z|z<;>rw[z]<;>decide +kernel
theorem Ir(h0:0<=v)(h1:v<4):∃x:Str,iY [V.str "start",.str "end",.str "mid",.str "mid2"] v=some (.str x)/\x.length<=10/\(x="start"∨x="end"∨x="mid"∨x="mid2"):=by
 obtain⟨k,rfl,a⟩:=eW (z:=v) (n:=4) h0 h1
 match k,a with
 |0,_=>exact⟨"start",rfl,by decide +kernel,.inl rfl⟩
 |1,_=>exact⟨"end",rfl,by decide +kernel,.inr (.inl rfl)⟩
 |2,_=>exact⟨"mid",rfl,by decide +kernel,.inr (.inr (.inl rfl))⟩
 |3,_=>exact⟨"mid2",rfl,by decide +kernel,.inr (.inr (.inr rfl))⟩
theorem Co(k:Nat)(g:Int)(al sd:Str):(aX.lined k g al sd).kd=(aX.lined k 0 "" "").kd:=by
 match k with
 |0=>rfl
 |1=>rfl
 |k+2=>rfl
theorem dC{st t:B3}(h:H st=some o)(a:H t=none):st≠t:=aM h a
abbrev qJ:List Str:=["_law_stream_here","_law_kind","_law_many","_law_side","_law_columns","_law_spans","_law_joint","_law_sides"]
theorem iv:ay qJ ZI (aj mV):=cL
theorem Bi(F:aZ K "_law_what" "_law_what" mV f fd)(N:aR mg)(G1:aw P w K mg base aO 1 f1 d1 Zf hF)(J1:Cq K mg d1 f1 Zf "_law_take")(G2:aw P w K mg base aO 2 f2 d2 Zi rS)(J2:Cq K mg d2 f2 Zi "_law_words")(G3:aw P w K mg base aO 2 f3 d3 Zi rM)(J3:Cq K mg d3 f3 Zi "_law_anchor"):aw P w K mg base aO 3 f fd ZI wk:=by
 refine F.cS iv λcdv A outer s H vs Q E hr h=>?_
 ·obtain⟨st,d,z,kd,n,e,b7,hk,hn,g3,i9,k⟩:=h;subst e;have J:=hr.mono (j:=1) (by decide)
  refine⟨_,ah (aJ (i:=3) iv.nd rfl (KB rfl) (ax bF (bu (aa aq (aa aq ab))) (pq G1 J J1 (aa (pv 0) (aa ag ab))) (λ_ _=>rfl)))
   (ah (aQ (aB bD (pv 1) aq (aG _)) (ai (au (aS (aa (pq G1 J J1 (aa (pv 0) (aa ag ab))) (aa (pq G1 J J1 (aa (pv 0) (aa (aE bM (aE iT ag ag) ag) ab))) ab))))) aC)
   (ah (aQ (aB (r:=uK K false) cu (pv 1) (aS (aa aq (aa aq (aa aq ab)))) (by rfl)) (ai (au (aS (aa (pq G1 J J1 (aa (pv 0) (aa ag ab))) (aa (ax bF (bu (aa aq (aa aq (aa aq (aa aq ab))))) (pq G1 J J1 (aa (pv 0) (aa ag ab))) (λ_ _=>rfl)) (aa (pv 3) ab)))))) aC)
   (ah (aQ (aB bD (pv 1) aq (aG _))
    (ah (aJ (i:=4) iv.nd rfl (Or.inr rfl) (aE bM ag (pq G1 J J1 (aa (pv 0) (aa ag ab)))))
    (ah (iM (i:=5) (ba (fs:=aj mV) (N:=qJ) rfl rfl (by decide +kernel)) rfl iv.nd rfl (KB rfl) (cB (by rfl) N.range (aa (pv 2) ab)) (λ_ _ _ _ _=>bB)
     (λ_ _ _ _ _=>aS (aa (aE bM ag (pq G1 J J1 (aa (pv 1) (aa (pv 5) ab)))) (aa (aE bM ag (pq G1 J J1 (aa (pv 1) (aa ag ab)))) ab))) rfl)
    (ai (au (aS (aa (pv 4) (aa (pq G1 J J1 (aa (pv 0) (aa ag ab))) (aa (pv 3) (aa (aH bf (by rfl) N.tuple LR (aa (pv 5) ab)) ab))))))))) aC)
   (ah (aJ (i:=6) iv.nd rfl (KB rfl) (ax bF (bu (aa ag (aa ag (aa (aE bM ag (pq G1 J J1 (aa (pv 0) (aa ag ab)))) ab)))) (pq G1 J J1 (aa (pv 0) (aa ag ab))) (λ_ _=>rfl)))
   (ah (aQ (aB bD (pv 1) aq (aG _)) (ai (au (aS (aa (pq G2 hr J2 (aa (pv 0) ab)) (aa (pv 6) ab))))) aC)
   (ah (aQ (aB bD (pv 1) aq (aG _))
    (ah (iM (i:=7) (ba (fs:=aj mV) (N:=qJ) rfl rfl (by decide +kernel)) rfl iv.nd rfl (KB rfl) (cB (by rfl) N.range (aa (pv 2) ab)) (λ_ _ _ _ _=>bB)
     (λ_ _ _ _ _=>ax (r:=Hi K) bF (bu (aa aq (aa aq ab))) (pq G1 J J1 (aa (pv 1) (aa ag ab))) (λ_ _=>rfl)) rfl)
    (ai (au (aS (aa (aH bf (by rfl) N.tuple LR (aa (pv 7) ab)) (aa (pq G2 hr J2 (aa (pv 0) ab)) (aa (pv 6) ab))))))) aC)
   (ai (au (aH bf (by rfl) N.tuple LR (aa (b_ (ba (fs:=aj mV) (N:=qJ) rfl rfl (by decide +kernel)) rfl (cB (by rfl) N.range (aa (aE eE (pv 2) ag) ab)) (λ_ _ _ _ _=>bB)
     (λ_ _ _ _ _=>aS (aa (pq G3 hr J3 (aa (pv 1) ab)) (aa (pq G3 hr J3 (aa (pv 1) ab)) ab)))) ab)))))))))),?_⟩
  refine ar λN1 i6=>?_;refine⟨(by show 2<=sizeLine;decide),λl hl=>?_⟩;have nl:=dC b7 hl;have i4:Kp st H (upd H l (.lst [.str "left",.str "right"])):=Kp.put (Kp.refl _) hl;have h1:(upd H l (.lst [.str "left",.str "right"])) st=some (.lst [.int d,.int z]):=(ak nl).trans b7;have l1:(upd H l (.lst [.str "left",.str "right"])) l=some (.lst [.str "left",.str "right"]):=ae;generalize upd H l (.lst [.str "left",.str "right"])=H1 at *;refine⟨_,rfl,st,d,z,2,rfl,h1,by decide,by decide,λv d2 z2 v0 v1=>?_⟩;have b5:Kp st H (upd H1 st (.lst [.int d2,.int z2])):=i4.trans Kp.store;have h2:(upd H1 st (.lst [.int d2,.int z2])) st=some (.lst [.int d2,.int z2]):=ae;have l2:(upd H1 st (.lst [.int d2,.int z2])) l=some (.lst [.str "left",.str "right"]):=(ak (Da nl)).trans l1;generalize upd H1 st (.lst [.int d2,.int z2])=H2 at *;obtain⟨sd,i1,c8⟩:=EX v0 v1;refine⟨l,_,_,_,rfl,rfl,bg.of l2,i1,i6 _ _ ?_⟩;clear i6 N1 l2 l1 h1 i4 b7 i1;have g4:=uR c8;refine ar λN2 f6=>?_;by_cases c1:kd="leaf"
  ·subst c1;refine⟨_,rfl,rfl,_,rfl,cF qR ?_⟩;refine⟨_,rfl,st,d2,z2,60,rfl,h2,by decide,by decide,λa d3 z3 a0 a1=>?_⟩;refine⟨_,rfl,_,_,rfl,rfl,⟨by decide,by decide,by decide⟩,_,_,rfl,rfl,st,d3,z3,_,rfl,ae,by rw[ng];decide,by rw[ng];decide,λb d4 L b0 b1=>?_⟩;rw[ng]at b1;have M:Kp st H (upd (upd H2 st (.lst [.int d3,.int z3])) st (.lst [.int d4,.int L])):=(b5.trans Kp.store).trans Kp.store;have h4:(upd (upd H2 st (.lst [.int d3,.int z3])) st (.lst [.int d4,.int L])) st=some (.lst [.int d4,.int L]):=ae;generalize upd (upd H2 st (.lst [.int d3,.int z3])) st (.lst [.int d4,.int L])=H4 at *;refine⟨(by show 2<=sizeLine;decide),λt B=>?_⟩;have O:=dC h4 B;have q:=M.gone (Da O) B;exact k t (.leaf a b) d4 L _ q (Kp.put M q) ((ak O).trans h4) ae ⟨bO a0 Cw,bO b0 Cw⟩ rfl trivial ⟨g3 (.inl rfl),⟨a0,by lia⟩,b0,by lia⟩
  refine⟨_,rfl,rfl,_,rfl,aN (dr c1) (f6 _ _ ?_)⟩;clear f6 N2;refine ar λN3 i3=>?_;refine⟨_,rfl,(by show 3<=sizeLine;decide),λt3 i2=>?_⟩;have n3:=dC h2 i2;have f4:=b5.gone (Da n3) i2;have b6:Kp st H (upd H2 t3 (.tup [.str "row",.str "column",.str "wrap"])):=Kp.put b5 f4;have h3:(upd H2 t3 (.tup [.str "row",.str "column",.str "wrap"])) st=some (.lst [.int d2,.int z2]):=(ak n3).trans h2;have g9:(upd H2 t3 (.tup [.str "row",.str "column",.str "wrap"])) t3=some (.tup [.str "row",.str "column",.str "wrap"]):=ae;generalize upd H2 t3 (.tup [.str "row",.str "column",.str "wrap"])=H3 at *;refine⟨t3,_,rfl,.inr (aT.of g9),rfl,rfl,_,rfl,?_⟩;by_cases c2:∃n,kd=(aX.lined n 0 "" "").kd
  ·obtain⟨ln,rfl⟩:=c2;refine cF sk ?_;refine⟨_,rfl,st,d2,z2,4,rfl,h3,by decide,by decide,λg d4 L g0 g1=>?_⟩;have M:Kp st H (upd H3 st (.lst [.int d4,.int L])):=b6.trans Kp.store;have h4:(upd H3 st (.lst [.int d4,.int L])) st=some (.lst [.int d4,.int L]):=ae;generalize upd H3 st (.lst [.int d4,.int L])=H4 at *;refine⟨(by show 4<=sizeLine;decide),λla g8=>?_⟩;have na:=dC h4 g8;have i5:=M.gone (Da na) g8;have Y:Kp st H (upd H4 la (.lst [.str "start",.str "end",.str "mid",.str "mid2"])):=Kp.put M i5;have h5:(upd H4 la (.lst [.str "start",.str "end",.str "mid",.str "mid2"])) st=some (.lst [.int d4,.int L]):=(ak na).trans h4;have a5:(upd H4 la (.lst [.str "start",.str "end",.str "mid",.str "mid2"])) la=some (.lst [.str "start",.str "end",.str "mid",.str "mid2"]):=ae;generalize upd H4 la (.lst [.str "start",.str "end",.str "mid",.str "mid2"])=U at *;refine⟨_,rfl,st,d4,L,4,rfl,h5,by decide,by decide,λx d6 C x0 x1=>?_⟩;have G:Kp st H (upd U st (.lst [.int d6,.int C])):=Y.trans Kp.store;have h6:(upd U st (.lst [.int d6,.int C])) st=some (.lst [.int d6,.int C]):=ae;have a6:(upd U st (.lst [.int d6,.int C])) la=some (.lst [.str "start",.str "end",.str "mid",.str "mid2"]):=(ak (Da na)).trans a5;generalize upd U st (.lst [.int d6,.int C])=H6 at *;obtain⟨al,i8,k4,val⟩:=Ir x0 x1;refine⟨la,_,_,_,rfl,rfl,bg.of a6,i8,_,rfl,(by show 3<=sizeLine;decide),λt B=>?_⟩;have O:=dC h6 B;have q:=G.gone (Da O) B;exact k t (.lined ln g al sd) d6 C _ q (Kp.put G q) ((ak O).trans h6) ae ⟨bO g0 Cw,k4,g4⟩ (Co ln g al sd) trivial ⟨hn,⟨g0,by lia⟩,val,c8⟩
  have e7:kd="table"∨kd="words"∨kd="flow"∨kd="over":=by
   rcases hk with z|z|z
   ·exact absurd z c1
   ·exact absurd z c2
   ·exact z
  have f7:gB (.str kd) L3=false:=by
   rcases e7 with z|z|z|z<;>rw[z]
   ·exact wL
   ·exact inWords
   ·exact Ad
   ·exact BJ
  refine aN f7 (i3 _ _ ?_);clear i3 N3 g9 hk f7;refine ar λN4 e8=>?_;by_cases c3:kd="table"
  ·subst c3;refine⟨_,rfl,rfl,_,rfl,cF qR ?_⟩;refine ar λM1 g6=>?_;refine⟨_,rfl,st,d2,z2,12,rfl,h3,by decide,by decide,λc d4 L c0 c1=>?_⟩;have M:Kp st H (upd H3 st (.lst [.int d4,.int L])):=b6.trans Kp.store;have h4:(upd H3 st (.lst [.int d4,.int L])) st=some (.lst [.int d4,.int L]):=ae;generalize upd H3 st (.lst [.int d4,.int L])=H4 at *;refine⟨_,_,rfl,rfl,g6 _ _ ?_⟩;clear g6 M1;refine ar λM2 e4=>?_;refine⟨_,rfl,_,rfl,by lia,by lia,?_⟩
   have en:((n:Int)).toNat=n:=by lia
   rw[en];refine hI (λD i xs I=>∃(as:List B3)(sps:List (Int×Int))(d9 z9:Int),xs=as.map V.ref/\as.length=i/\Kp st H I/\I st=some (.lst [.int d9,.int z9])/\I D=some (.lst xs)/\H D=none/\D≠st/\bp I as (sps.map jX)/\(∀p∈sps,bC p.1/\bC p.2)/\∀p∈sps,(1<=p.1/\p.1<=1+c)/\1<=p.2/\p.2<=12) (small cV) (λD hD=>?_) (λD i xs I b4=>by obtain⟨as,_,_,_,e1,e2,_⟩:=b4;exact by rw[e1,be,e2];exact B6 _) ?_ ?_
   ·have nD:=dC h4 hD;have u:=M.gone (Da nD) hD;exact⟨[],[],d4,L,rfl,rfl,Kp.put M u,(ak nD).trans h4,ae,u,Da nD,bp.nil,(λp X=>nomatch X),λp X=>nomatch X⟩
   ·rintro D i xs U Q' hi ⟨as,sps,d5,z5,rfl,g2,Y,h5,e3,u,nD,r5,g5,q5⟩ kk;refine⟨_,rfl,_,rfl,st,d5,z5,_,rfl,h5,by lia,by lia,λx d6 C x0 x1=>?_⟩;have G:Kp st U (upd U st (.lst [.int d6,.int C])):=Kp.store;have h6:(upd U st (.lst [.int d6,.int C])) st=some (.lst [.int d6,.int C]):=ae;generalize upd U st (.lst [.int d6,.int C])=H6 at *;refine⟨_,_,rfl,rfl,_,rfl,st,d6,C,12,rfl,h6,by decide,by decide,λy d7 Z y0 y1=>?_⟩;have m:Kp st U (upd H6 st (.lst [.int d7,.int Z])):=G.trans Kp.store;have T:(upd H6 st (.lst [.int d7,.int Z])) st=some (.lst [.int d7,.int Z]):=ae;generalize upd H6 st (.lst [.int d7,.int Z])=S at *;refine⟨_,_,rfl,rfl,(by show 2<=sizeLine;decide),λt B=>?_⟩;have O:=dC T B;have R:S D=some (.lst (as.map V.ref)):=m _ _ nD e3;have c9:D≠t:=aM R B;have q:H t=none:=(Y.trans m).gone (Da O) B;have r7:=dY r5 (KT.kp m h5);have k1:KT S (upd S t (.tup [.int (1+x),.int (1+y)])):=KT.put B;have b3:(upd S t (.tup [.int (1+x),.int (1+y)])) D=some (.lst (as.map V.ref)):=(ak c9).trans R;have k2:KT (upd S t (.tup [.int (1+x),.int (1+y)])) (upd (upd S t (.tup [.int (1+x),.int (1+y)])) D (.lst (as.map V.ref++[V.ref t]))):=KT.lst b3;refine kk _ _ b3 ⟨as++[t],sps++[(1+x,1+y)],d7,Z,by rw[Dk];rfl,by rw[B1,g2];rfl,Kp.put (Kp.put (Y.trans m) q) u,?_,ae,u,nD,?_,λp X=>?_,λp X=>?_⟩
    ·rw[ak (Da nD),ak O];exact T
    ·rw[Dk];exact bp.snoc (dY r7 (k1.trans k2)) (af.refl _) (k2 _ _ ae)
    ·rcases List.mem_append.mp X with z|z
     ·exact g5 p z
     ·rw[List.mem_singleton.mp z];exact⟨bO (by lia) (by lia),bO (by lia) (by lia)⟩
    ·rcases List.mem_append.mp X with z|z
     ·exact q5 p z
     ·rw[List.mem_singleton.mp z];show(1<=1+x/\1+x<=1+c)/\1<=1+y/\1+y<=12
      lia
   ·rintro D xs U ⟨as,sps,d5,z5,rfl,g2,Y,h5,e3,u,nD,r5,g5,q5⟩;refine e4 _ _ ?_;refine⟨_,rfl,_,rfl,st,d5,z5,1001,rfl,h5,by decide,by decide,λg d6 C g0 g1=>?_⟩;have G:Kp st H (upd U st (.lst [.int d6,.int C])):=Y.trans Kp.store;have h6:(upd U st (.lst [.int d6,.int C])) st=some (.lst [.int d6,.int C]):=ae;have k6:(upd U st (.lst [.int d6,.int C])) D=some (.lst (as.map V.ref)):=(ak nD).trans e3;have r6:=dY r5 (KT.lst h5 (ys:=[.int d6,.int C]));generalize upd U st (.lst [.int d6,.int C])=H6 at *;refine⟨_,rfl,_,rfl,D,_,rfl,.inl ⟨bg.of k6,λts a9=>?_⟩⟩;have a7:=dC h6 a9;have b2:=G.gone (Da a7) a9;have m:Kp st H (upd H6 ts (.tup (as.map V.ref))):=Kp.put G b2;have T:(upd H6 ts (.tup (as.map V.ref))) st=some (.lst [.int d6,.int C]):=(ak a7).trans h6;have t7:(upd H6 ts (.tup (as.map V.ref))) ts=some (.tup (as.map V.ref)):=ae;have r7:=dY r6 (KT.put (o:= .tup (as.map V.ref)) a9);generalize upd H6 ts (.tup (as.map V.ref))=S at *;refine⟨(by show 4<=sizeLine;decide),λt B=>?_⟩;have O:=dC T B;have q:=m.gone (Da O) B;have kt:=KT.put (o:= .tup [.int (1+c),.int g,.str sd,.ref ts]) B;refine k t (.table (1+c) g sd sps) d6 C _ q (Kp.put m q) ((ak O).trans T) ⟨ts,as,ae,kt _ _ t7,dY r7 kt⟩ ⟨bO (by lia) (by lia),bO g0 Cw,g4,g5⟩ rfl ?_ ⟨hn,⟨by lia,by lia⟩,⟨g0,by lia⟩,c8,?_,q5⟩
    all_goals
     show sps.length=n;have :=r5.1;rw[be]at this
     lia
  refine⟨_,rfl,rfl,_,rfl,aN (dr c3) (e8 _ _ ?_)⟩;clear e8 N4;refine ar λN5 f9=>?_;refine⟨_,rfl,st,d2,z2,999,rfl,h3,by decide,by decide,λjv d4 L j0 j1=>?_⟩;have M:Kp st H (upd H3 st (.lst [.int d4,.int L])):=b6.trans Kp.store;have h4:(upd H3 st (.lst [.int d4,.int L])) st=some (.lst [.int d4,.int L]):=ae;generalize upd H3 st (.lst [.int d4,.int L])=H4 at *;refine⟨_,_,rfl,rfl,(by show 3<=sizeLine;decide),λlj f5=>?_⟩;have nj:=dC h4 f5;have h0:=M.gone (Da nj) f5;have Y:Kp st H (upd H4 lj (.lst [.int 50,.int 0,.int (1+jv)])):=Kp.put M h0;have h5:(upd H4 lj (.lst [.int 50,.int 0,.int (1+jv)])) st=some (.lst [.int d4,.int L]):=(ak nj).trans h4;have j5:(upd H4 lj (.lst [.int 50,.int 0,.int (1+jv)])) lj=some (.lst [.int 50,.int 0,.int (1+jv)]):=ae;generalize upd H4 lj (.lst [.int 50,.int 0,.int (1+jv)])=U at *;refine⟨_,rfl,st,d4,L,3,rfl,h5,by decide,by decide,λy d6 C y0 y1=>?_⟩;have G:Kp st H (upd U st (.lst [.int d6,.int C])):=Y.trans Kp.store;have h6:(upd U st (.lst [.int d6,.int C])) st=some (.lst [.int d6,.int C]):=ae;have j6:(upd U st (.lst [.int d6,.int C])) lj=some (.lst [.int 50,.int 0,.int (1+jv)]):=(ak (Da nj)).trans j5;generalize upd U st (.lst [.int d6,.int C])=H6 at *;obtain⟨jn,hj,j9⟩:=rn (a:=50) (b:=0) (c:=1+jv) y0 y1;refine⟨lj,_,_,_,rfl,rfl,bg.of j6,hj,f9 _ _ ?_⟩;have gj:bC jn:=bO (by lia) (by lia)
  have vj:0<=jn/\jn<=999:=by lia
  clear f9 N5 j6 j5 h5 Y hj j9 h4 M h3 b6 h2 b5;refine ar λN6 e6=>?_;by_cases c4:kd="words"
  ·subst c4;refine⟨_,rfl,rfl,_,rfl,cF qR ?_⟩;refine⟨_,rfl,st,d6,C,rfl,h6,λtw ws d7 Z S k3 m T b9 d0 c7=>?_⟩;have W:=G.trans m;refine⟨_,rfl,(by show 2<=sizeLine;decide),λt B=>?_⟩;have O:=dC T B;have q:=W.gone (Da O) B;exact k t (.words ws jn) d7 Z _ q (Kp.put W q) ((ak O).trans T) ⟨tw,ae,b9.keep (KT.put B)⟩ ⟨d0,gj⟩ rfl trivial ⟨g3 (.inr rfl),c7,vj⟩
  refine⟨_,rfl,rfl,_,rfl,aN (dr c4) (e6 _ _ ?_)⟩;clear e6 N6;refine ar λN7 e9=>?_;by_cases c5:kd="flow"
  ·subst c5;refine⟨_,rfl,rfl,_,rfl,cF qR ?_⟩;refine ar λM2 e4=>?_;refine⟨_,rfl,_,rfl,by lia,by lia,?_⟩
   have en:((n:Int)).toNat=n:=by lia
   rw[en];refine hI (λD i xs I=>∃(sds:List Str)(d9 z9:Int),xs=sds.map V.str/\sds.length=i/\Kp st H I/\I st=some (.lst [.int d9,.int z9])/\I D=some (.lst xs)/\H D=none/\D≠st/\∀s∈sds,s="left"∨s="right") (small cV) (λD hD=>?_) (λD i xs I b4=>by obtain⟨as,_,_,e1,e2,_⟩:=b4;exact by rw[e1,be,e2];exact B6 _) ?_ ?_
   ·have nD:=dC h6 hD;have u:=G.gone (Da nD) hD;exact⟨[],d6,C,rfl,rfl,Kp.put G u,(ak nD).trans h6,ae,u,Da nD,λp X=>nomatch X⟩
   ·rintro D i xs S Q' hi ⟨sds,d7,Z,rfl,a2,m,T,R,u,nD,g7⟩ kk;refine⟨(by show 2<=sizeLine;decide),λlb e0=>?_⟩;have nb:=dC T e0;have j8:D≠lb:=aM R e0;have i0:=m.gone (Da nb) e0;have W:Kp st H (upd S lb (.lst [.str "left",.str "right"])):=Kp.put m i0;have h8:(upd S lb (.lst [.str "left",.str "right"])) st=some (.lst [.int d7,.int Z]):=(ak nb).trans T;have b8:(upd S lb (.lst [.str "left",.str "right"])) lb=some (.lst [.str "left",.str "right"]):=ae;have D8:(upd S lb (.lst [.str "left",.str "right"])) D=some (.lst (sds.map V.str)):=(ak j8).trans R;generalize upd S lb (.lst [.str "left",.str "right"])=H8 at *;refine⟨_,rfl,st,d7,Z,2,rfl,h8,by decide,by decide,λx d9 z9 x0 x1=>?_⟩;obtain⟨sx,j7,j4⟩:=EX x0 x1;refine⟨lb,_,_,_,rfl,rfl,bg.of ((ak (Da nb)).trans b8),j7,?_⟩;refine kk _ _ ((ak nD).trans D8) ⟨sds++[sx],d9,z9,by rw[Dk];rfl,by rw[B1,a2];rfl,Kp.put (W.trans Kp.store) u,by rw[ak (Da nD),ae],ae,u,nD,λp X=>?_⟩
    rcases List.mem_append.mp X with z|z
    ·exact g7 p z
    ·rw[List.mem_singleton.mp z];exact j4
   ·rintro D xs S ⟨sds,d7,Z,rfl,a2,m,T,R,u,nD,g7⟩;refine e4 _ _ ?_;refine⟨_,rfl,D,_,rfl,.inl ⟨bg.of R,λts a9=>?_⟩⟩;have a7:=dC T a9;have b2:=m.gone (Da a7) a9;have W:Kp st H (upd S ts (.tup (sds.map V.str))):=Kp.put m b2;have h8:(upd S ts (.tup (sds.map V.str))) st=some (.lst [.int d7,.int Z]):=(ak a7).trans T;have t8:(upd S ts (.tup (sds.map V.str))) ts=some (.tup (de sds)):=ae;generalize upd S ts (.tup (sds.map V.str))=H8 at *;refine⟨_,rfl,st,d7,Z,rfl,h8,λtw ws d9 z9 I k3 a8 h9 b9 d0 c7=>?_⟩;have t9:=a8 _ _ (Da a7) t8;refine⟨_,rfl,(by show 3<=sizeLine;decide),λt B=>?_⟩;have O:=dC h9 B;have q:=(W.trans a8).gone (Da O) B;have kt:=KT.put (o:= .tup [.ref ts,.ref tw,.int jn]) B;exact k t (.flow sds ws jn) d9 z9 _ q (Kp.put (W.trans a8) q) ((ak O).trans h9) ⟨ts,tw,ae,kt _ _ t9,b9.keep kt⟩ ⟨g7,d0,gj⟩ rfl a2 ⟨hn,a2,g7,c7,vj⟩
  refine⟨_,rfl,rfl,_,rfl,aN (dr c5) (e9 _ _ ?_)⟩;clear e9 N7
  have c6:kd="over":=by
   rcases e7 with z|z|z|z
   ·exact absurd z c3
   ·exact absurd z c4
   ·exact absurd z c5
   ·exact z
  subst c6;refine⟨_,rfl,_,_,rfl,rfl,_,rfl,by lia,by lia,?_⟩
  have en:((n:Int)-1).toNat=n-1:=by lia
  rw[en];refine hI (λD i xs I=>∃(as:List B3)(ps:List ((Str×Int)×(Str×Int)))(d9 z9:Int),xs=as.map V.ref/\as.length=i/\ps.length=i/\Kp st H I/\I st=some (.lst [.int d9,.int z9])/\I D=some (.lst xs)/\H D=none/\D≠st/\(∀(i:Nat)(a:B3)(p:(Str×Int)×(Str×Int)),as[i]? =some a->ps[i]? =some p->∃b c,I a=some (.tup [.ref b,.ref c])/\I b=some (.tup [.str p.1.1,.int p.1.2])/\I c=some (.tup [.str p.2.1,.int p.2.2]))/\(∀p∈ps,hJ p.1/\hJ p.2)/\∀p∈ps,Va p.1/\Va p.2) (small (by lia)) (λD hD=>?_) (λD i xs I b4=>by obtain⟨as,_,_,_,e1,e2,_⟩:=b4;exact by rw[e1,be,e2];exact B6 _) ?_ ?_
  ·have nD:=dC h6 hD;have u:=G.gone (Da nD) hD;exact⟨[],[],d6,C,rfl,rfl,rfl,Kp.put G u,(ak nD).trans h6,ae,u,Da nD,(λi a p e=>nomatch e),(λp X=>nomatch X),λp X=>nomatch X⟩
  ·rintro D i xs S Q' hi ⟨as,ps,d7,Z,rfl,a2,f0,m,T,R,u,nD,r7,g7,q7⟩ kk;refine⟨_,rfl,st,d7,Z,rfl,T,λta pa d8 z8 H8 e5 W h8 i7 ga va=>?_⟩;refine⟨_,rfl,st,d8,z8,rfl,h8,λtb pb d9 z9 I k8 a8 h9 j2 gb vb=>?_⟩
   have j3:ta≠st:=λz=>by rw[z,T]at e5;cases e5
   have k7:=a8 _ _ j3 i7;have a3:=W.trans a8;have f8:I D=some (.lst (as.map V.ref)):=a3 _ _ nD R;refine⟨(by show 2<=sizeLine;decide),λt B=>?_⟩;have O:=dC h9 B;have c9:D≠t:=aM f8 B;have q:H t=none:=(m.trans a3).gone (Da O) B;have k0:=KT.kp a3 T;have k1:KT I (upd I t (.tup [.ref ta,.ref tb])):=KT.put B;have b3:(upd I t (.tup [.ref ta,.ref tb])) D=some (.lst (as.map V.ref)):=(ak c9).trans f8;have k2:KT (upd I t (.tup [.ref ta,.ref tb])) (upd (upd I t (.tup [.ref ta,.ref tb])) D (.lst (as.map V.ref++[V.ref t]))):=KT.lst b3;refine kk _ _ b3 ⟨as++[t],ps++[(pa,pb)],d9,z9,by rw[Dk];rfl,by rw[B1,a2];rfl,by rw[B1,f0];rfl,Kp.put (Kp.put (m.trans a3) q) u,?_,ae,u,nD,?_,λp X=>?_,λp X=>?_⟩
   ·rw[ak (Da nD),ak O];exact h9
   ·intro j a p ea ep;by_cases hj:j<as.length
    ·rw[LQ hj]at ea;rw[LQ (by lia)]at ep;obtain⟨b,c,x1,x2,x3⟩:=r7 j a p ea ep;have a4:=k0.trans (k1.trans k2);exact⟨b,c,a4 _ _ x1,a4 _ _ x2,a4 _ _ x3⟩
    ·have k5:=bR ea;rw[B1,PD]at k5
     have ej:j=as.length:=by lia
     subst ej;rw[GT (B6 _),Pl]at ea;rw[GT (by lia),show as.length-ps.length=0 by lia]at ep
     cases ea
     cases ep
     have a4:=k1.trans k2;exact⟨ta,tb,k2 _ _ ae,a4 _ _ k7,a4 _ _ j2⟩
   ·rcases List.mem_append.mp X with z|z
    ·exact g7 p z
    ·rw[List.mem_singleton.mp z];exact⟨ga,gb⟩
   ·rcases List.mem_append.mp X with z|z
    ·exact q7 p z
    ·rw[List.mem_singleton.mp z];exact⟨va,vb⟩
  ·rintro D xs S ⟨as,ps,d7,Z,rfl,a2,f0,m,T,R,u,nD,r7,g7,q7⟩;refine⟨D,_,rfl,.inl ⟨bg.of R,λt B=>?_⟩⟩;have O:=dC T B;have q:=m.gone (Da O) B;have kt:=KT.put (o:= .tup (as.map V.ref)) B;refine k t (.over ps) d7 Z _ q (Kp.put m q) ((ak O).trans T) ⟨as,ae,by lia,λj a p ea ep=>?_⟩ g7 rfl (by show n<=ps.length+1;lia) (by have :=i9 rfl;exact⟨⟨this,hn⟩,by lia,q7⟩);obtain⟨b,c,x1,x2,x3⟩:=r7 j a p ea ep;exact⟨b,c,kt _ _ x1,kt _ _ x2,kt _ _ x3⟩
def K2(st ln:B3)(H H':Hp):Prop:=∀b o,b≠st->b≠ln->H b=some o->H' b=some o
theorem K2.trans{st ln:B3}(a:K2 st ln H H1)(b:K2 st ln H1 H2):K2 st ln H H2:=λc o n m h=>b c o n m (a c o n m h)
theorem K2.kp{st ln:B3}(k:Kp st H H'):K2 st ln H H':=λb o n _ h=>k b o n h
theorem K2.put{st ln D:B3}(k:K2 st ln H H')(h:H D=none):K2 st ln H (upd H' D o):=λb o' n m a=>by
 rw[ak (λz=>by rw[z,h]at a;cases a)];exact k b o' n m a
theorem K2.gone{st ln D:B3}(k:K2 st ln H H')(n:D≠st)(m:D≠ln)(h:H' D=none):H D=none:=by
 cases e:H D with
 |none=>rfl
 |some o=>rw[k D o n m e]at h;cases h
theorem K2.st{st ln:B3}:K2 st ln H (upd H st o):=λb o' n _ h=>by rw[ak n];exact h
theorem K2.ln{st ln:B3}:K2 st ln H (upd H ln o):=λb o' _ n h=>by rw[ak n];exact h
theorem KT.k2{st ln:B3}(k:K2 st ln H H')(h:H st=some (.lst xs))(h2:H ln=some (.lst ys)):KT H H':=λb zs e=>k b _ (gx e h (by intro z;cases z)) (gx e h2 (by intro z;cases z)) e
def bX:Fo->List Str
 | .nil=>[]
 | .cons _ d cs as=>d.nm::(bX cs++bX as)
theorem jD(G:Fo):∀F:Fo,bX (F.app G)=bX F++bX G
 | .nil=>rfl
 | .cons a d cs as=>by
  show d.nm::(bX cs++bX (as.app G))=d.nm::(bX cs++bX as)++bX G;rw[jD G as,<-LW];rfl
def Vo(o:Own):Prop:=Vr o.w0 o.w1/\Vr o.h0 o.h1/\(0<=o.gr/\o.gr<=99)/\(0<=o.sh/\o.sh<=99)/\(0<=o.rk/\o.rk<=9)/\0<=o.al/\o.al<=9
def Fm(kd:Str):Prop:=kd="leaf"∨kd="row"∨kd="column"∨kd="wrap"
def VF:Bool->Fo->Prop
 |_,.nil=>True
 |tb,.cons _ d cs as=>(Vo d.own/\Vw d.wh cs.bt.length/\(0<d.own.al->tb=false/\Fm d.wh.kd))/\VF (tb||decide (V.str d.wh.kd=V.str "table")) cs/\VF tb as
theorem AM{tb:Bool}(G:Fo)(b:VF tb G):∀F:Fo,VF tb F->VF tb (F.app G)
 | .nil,_=>b
 | .cons a d cs as,⟨h1,h2,c⟩=>⟨h1,h2,AM G b as c⟩
inductive DO(m:Nat)(vs:List V)(H:Hp)(Q:VK):Prop
 |mk (st ln:B3) (d z:Int) (bI:List Str) (dp:Nat) (tb:Bool) (c0:vs=[.ref st,.ref ln,.int (dp:Int),.bl tb]) (c1:st≠ln) (c2:H st=some (.lst [.int d,.int z])) (c3:H ln=some (.lst (bI.map V.str))) (c4:bI≠[]) (c5:bI.length<=20) (c6:(∀x∈bI,x.length<=60)) (c7:dp<=8) (c8:9<=dp+m) (c9:∀(a:B3)(bd:dF)(cs:Fo)(nms':List Str)(d' z':Int)(H':Hp),H a=none->K2 st ln H H'->H' st=some (.lst [.int d',.int z'])->H' ln=some (.lst (nms'.map V.str))->(∀x∈nms',x.length<=60)->nms'.length+(cs.cnt+1)=bI.length->bI=nms'++(bd.nm::bX cs).reverse->(Fo.cons a bd cs .nil).Ok H'->(Fo.cons a bd cs .nil).Good->VF tb (Fo.cons a bd cs .nil)->cs.df+dp<=8->Q (.ref a) H')
def Ce(m:Nat):Sp:=λvs H Q _=>DO m vs H Q
theorem Hw(h0:0<=v)(h1:v<8):∃x:Str,iY [V.str "leaf",.str "row",.str "column",.str "wrap",.str "table",.str "words",.str "flow",.str "over"] v=some (.str x)/\Kb x:=by
 obtain⟨k,rfl,a⟩:=eW (z:=v) (n:=8) h0 h1
 match k,a with
 |0,_=>exact⟨"leaf",rfl,.inl rfl⟩
 |1,_=>exact⟨"row",rfl,.inr (.inl ⟨0,rfl⟩)⟩
 |2,_=>exact⟨"column",rfl,.inr (.inl ⟨1,rfl⟩)⟩
 |3,_=>exact⟨"wrap",rfl,.inr (.inl ⟨2,rfl⟩)⟩
 |4,_=>exact⟨"table",rfl,.inr (.inr (.inl rfl))⟩
 |5,_=>exact⟨"words",rfl,.inr (.inr (.inr (.inl rfl)))⟩
 |6,_=>exact⟨"flow",rfl,.inr (.inr (.inr (.inr (.inl rfl))))⟩
 |7,_=>exact⟨"over",rfl,.inr (.inr (.inr (.inr (.inr rfl))))⟩
theorem JD(h0:0<=v)(h1:v<2):∃x:Str,iY [V.str "leaf",.str "words"] v=some (.str x)/\(x="leaf"∨x="words"):=by
 obtain⟨k,rfl,a⟩:=eW (z:=v) (n:=2) h0 h1
 match k,a with
 |0,_=>exact⟨"leaf",rfl,.inl rfl⟩
 |1,_=>exact⟨"words",rfl,.inr rfl⟩
theorem Fz(h0:0<=v)(h1:v<4):∃x:Int,iY [V.int 0,.int 0,.int 1,.int a] v=some (.int x)/\(x=0∨x=1∨x=a):=by
 obtain⟨k,rfl,b⟩:=eW (z:=v) (n:=4) h0 h1
 match k,b with
 |0,_=>exact⟨0,rfl,.inl rfl⟩
 |1,_=>exact⟨0,rfl,.inl rfl⟩
 |2,_=>exact⟨1,rfl,.inr (.inl rfl)⟩
 |3,_=>exact⟨a,rfl,.inr (.inr rfl)⟩
theorem GQ{a b c:B3}(h0:0<=v)(h1:v<3):∃x:B3,iY [V.ref a,.ref b,.ref c] v=some (.ref x)/\(x=a∨x=b∨x=c):=by
 obtain⟨k,rfl,d⟩:=eW (z:=v) (n:=3) h0 h1
 match k,d with
 |0,_=>exact⟨a,rfl,.inl rfl⟩
 |1,_=>exact⟨b,rfl,.inr (.inl rfl)⟩
 |2,_=>exact⟨c,rfl,.inr (.inr rfl)⟩
theorem Cb{kd:Str}(h:gB (.str kd) [V.str "leaf",.str "row",.str "column",.str "wrap"]=true):Fm kd:=by
 have h:gB (.str kd) ((["leaf","row","column","wrap"]:List Str).map V.str)=true:=h;rw[lh]at h;have h:=of_decide_eq_true h;simpa[Fm]using h
theorem Ab{u:TE}{b c:Bool}(hi:σ[i]? =some (some (.bl b)))(d:∀a:VK,a (.bl c) H->u σ H a)(k:Q (.bl (b||c)) H):Jb (iR i) u σ H Q:=
 ⟨.bl b,hi,b,rfl,by
  cases b with
  |true=>exact k
  |false=>exact d Q k⟩
abbrev ID:List Str:=["_law_stream_here","_law_names_here","_law_deep","_law_tabled","_law_name","_law_kind","_law_many","_law_parts","_law_k","_law_alike","_law_shares","_law_rank","_law_own"]
theorem dH:ay ID Zu (aj AS):=cL
theorem Eh(F:aZ K "_law_box" "_law_box" AS f fd)(N:aR mg)(G1:aw P w K mg base aO 1 f1 d1 Zf hF)(J1:Cq K mg d1 f1 Zf "_law_take")(G2:aw P w K mg base aO 2 f2 d2 Zi wM)(J2:Cq K mg d2 f2 Zi "_law_range")(G3:aw P w K mg base aO 3 f3 d3 ZI wk)(J3:Cq K mg d3 f3 ZI "_law_what")(JF:Cq K mg fd f Zu "_law_box"):∀m:Nat,aw P w K mg base aO (m+4) f fd Zu (Ce m):=by
 intro m
 induction m with
 |zero=>
  refine F.ok dH (λvs H Q E h=>?_) (λcdv A outer s H vs Q E hr h=>?_)
  ·obtain⟨st,ln,d,z,bI,dp,tb,e,_⟩:=h;rw[e];rfl
  ·obtain⟨st,ln,d,z,bI,dp,tb,e,_,_,_,_,_,_,h1,h2,_⟩:=h
   lia
 |succ m ih=>
  refine F.ok dH (λvs H Q E h=>?_) (λcdv A outer s H vs Q E hr h=>?_)
  ·obtain⟨st,ln,d,z,bI,dp,tb,e,_⟩:=h;rw[e];rfl
  ·obtain⟨st,ln,d,z,bI,dp,tb,e,p,hst,s5,W,hnl,p2,hdp,hdm,k⟩:=h;subst e;have y8:=hr.mono (j:=3) Cu;have v5:=hr.mono (j:=2) Cu;have D:=hr.mono (j:=1) Cu
   have hu:(A.deeper (Mh "_law_box" (aj AS) s.heap.objs.size f cdv)).units<Np:=by have :=hr.units;lia
   refine⟨_,ah (aJ (i:=4) dH.nd rfl (KB rfl) (Ge LZ PySem.F.slot_list_pop PySem.F.type_list_pop Gy (pv 1)))
    (ah (aJ (i:=5) dH.nd rfl (KB rfl) (ax bF (bu (aa aq (aa aq (aa aq (aa aq (aa aq (aa aq (aa aq (aa aq ab))))))))) (pq G1 D J1 (aa (pv 0) (aa ag ab))) (λ_ _=>rfl)))
    (ah (aJ (i:=6) dH.nd rfl (KB rfl) (aF (yk rfl) (by rfl) N.min PyProof.Rows.boot_min (aa (pq G1 D J1 (aa (pv 0) (aa ag ab))) (aa (aF br (by rfl) N.len Md (aa (pv 1) ab)) ab))))
    (ah (aQ (mR (aB kv (pv 2) ag (aG _)) (jM (bY (aB bD (pv 6) ag (aG _)) (bS (aB bD (pv 5) aq (aG _)))).pt)).pt
     (ai (aJ (i:=5) dH.nd rfl (KB rfl) (ax bF (bu (aa aq (aa aq ab))) (pq G1 D J1 (aa (pv 0) (aa ag ab))) (λ_ _=>rfl)))) aC)
    (ah (aQ (aB (r:=uK K false) cu (pv 5) (aS (aa aq (aa aq ab))) (by rfl)) (ai (aJ (i:=6) dH.nd rfl (KB rfl) ag)) aC)
    (ah (aJ (i:=7) dH.nd rfl (KB rfl) (bu ab))
    (ah (cG Ma rfl (cB (by rfl) N.range (aa (pv 6) ab)) (aV (i:=8) dH.nd rfl (KB rfl))
     (ai (aQ (aB (Hc hu) (pv 1) (bu ab) (aG _))
      (ai (bT (bV LZ L8 L7 bQ (pv 7) (aa (pq ih hr JF (aa (pv 0) (aa (pv 1) (aa (aE bM (pv 2) ag) (aa (Fp (pv 3) (bN (cy bD (pv 5) aq (aG _)))) ab))))) ab)))) aC)))
    (ah (aJ (i:=9) dH.nd rfl (KB rfl) ag)
    (ah (aQ (bY (aB (r:=uK K false) cu (pv 5) (aS (aa aq (aa aq (aa aq (aa aq ab))))) (by rfl)) (bS (cZ (bH (pv 3))))).pt
     (ai (aJ (i:=9) dH.nd rfl (KB rfl) (ax bF (bu (aa ag (aa ag (aa ag (aa (aE bM ag (pq G1 D J1 (aa (pv 0) (aa ag ab)))) ab))))) (pq G1 D J1 (aa (pv 0) (aa ag ab))) (λ_ _=>rfl)))) aC)
    (ah (aJ (i:=10) dH.nd rfl (KB rfl) (ax bF (bu (aa (aS (aa ag (aa ag ab))) (aa (aS (aa ag (aa ag ab))) (aa (aS (aa (pq G1 D J1 (aa (pv 0) (aa ag ab))) (aa (pq G1 D J1 (aa (pv 0) (aa ag ab))) ab))) ab)))) (pq G1 D J1 (aa (pv 0) (aa ag ab))) (λ_ _=>rfl)))
    (ah (aJ (i:=11) dH.nd rfl (KB rfl) (aE nv (pq G1 D J1 (aa (pv 0) (aa ag ab))) (pq G1 D J1 (aa (pv 0) (aa ag ab)))))
    (ah (aJ (i:=12) dH.nd rfl (KB rfl) (aS (aa (pq G2 v5 J2 (aa (pv 0) ab)) (aa (pq G2 v5 J2 (aa (pv 0) ab)) (aa (ax av (pv 10) ag (λ_ _=>rfl)) (aa (ax av (pv 10) ag (λ_ _=>rfl)) (aa (pv 11) (aa (pv 9) ab))))))))
    (ai (au (aS (aa (pv 5) (aa (pv 4) (aa (pv 12) (aa (pq G3 y8 J3 (aa (pv 0) (aa (pv 5) (aa (aF br (by rfl) N.len Md (aa (pv 7) ab)) ab)))) (aa (aH bf (by rfl) N.tuple LR (aa (pv 7) ab)) ab))))))))))))))))))),?_⟩
   refine ar λN1 x8=>?_
   have m1:(bI.map V.str)[(bI.map V.str).length-1]? =some (.str (bI.getLast W)):=by
    rw[be,B7,<-List.getLast?_eq_getElem?,List.getLast?_eq_some_getLast W];rfl
   have hnm:(bI.getLast W).length<=60:=p2 _ (List.getLast_mem W);have g5:bI=bI.dropLast++[bI.getLast W]:=(List.dropLast_concat_getLast W).symm;generalize bI.getLast W=nm at *;refine⟨_,rfl,.inl ⟨rfl,_,bg.of s5⟩,ln,_,_,rfl,rfl,s5,m1,x8 _ _ ?_⟩;clear x8 N1;have kA:K2 st ln H (upd H ln (.lst (bI.map V.str).dropLast)):=K2.ln;have sA:(upd H ln (.lst (bI.map V.str).dropLast)) st=some (.lst [.int d,.int z]):=(ak p).trans hst
   have nA:(upd H ln (.lst (bI.map V.str).dropLast)) ln=some (.lst (bI.dropLast.map V.str)):=by rw[ae,List.map_dropLast]
   have y6:bI.dropLast.length+1=bI.length:=by
    rw[R6];have :=List.length_pos_iff.mpr W
    lia
   have y3:∀x∈bI.dropLast,x.length<=60:=λx hx=>p2 x (List.dropLast_subset _ hx);generalize upd H ln (.lst (bI.map V.str).dropLast)=H1 at *;generalize bI.dropLast=n0 at *;refine ar λN2 o8=>?_;refine⟨(by show 8<=sizeLine;decide),λl8 m5=>?_⟩;have n8:=dC sA m5;have m8:=dC nA m5;have x0:=kA.gone (Da n8) (Da m8) m5;have kB:K2 st ln H (upd H1 l8 (.lst [.str "leaf",.str "row",.str "column",.str "wrap",.str "table",.str "words",.str "flow",.str "over"])):=kA.put x0;have sB:(upd H1 l8 (.lst [.str "leaf",.str "row",.str "column",.str "wrap",.str "table",.str "words",.str "flow",.str "over"])) st=some (.lst [.int d,.int z]):=(ak n8).trans sA;have nB:(upd H1 l8 (.lst [.str "leaf",.str "row",.str "column",.str "wrap",.str "table",.str "words",.str "flow",.str "over"])) ln=some (.lst (n0.map V.str)):=(ak m8).trans nA;have o9:(upd H1 l8 (.lst [.str "leaf",.str "row",.str "column",.str "wrap",.str "table",.str "words",.str "flow",.str "over"])) l8=some (.lst [.str "leaf",.str "row",.str "column",.str "wrap",.str "table",.str "words",.str "flow",.str "over"]):=ae;generalize upd H1 l8 (.lst [.str "leaf",.str "row",.str "column",.str "wrap",.str "table",.str "words",.str "flow",.str "over"])=H2 at *;refine⟨_,rfl,st,d,z,8,rfl,sB,by decide,by decide,λv3 d3 z3 v30 v31=>?_⟩;have kC:K2 st ln H (upd H2 st (.lst [.int d3,.int z3])):=kB.trans K2.st;have sC:(upd H2 st (.lst [.int d3,.int z3])) st=some (.lst [.int d3,.int z3]):=ae;have nC:(upd H2 st (.lst [.int d3,.int z3])) ln=some (.lst (n0.map V.str)):=(ak (Da p)).trans nB;have p5:=(ak (H:=H2) (o:= .lst [.int d3,.int z3]) (Da n8)).trans o9;generalize upd H2 st (.lst [.int d3,.int z3])=H3 at *;obtain⟨g3,i3,q0⟩:=Hw v30 v31;refine⟨l8,_,_,_,rfl,rfl,bg.of p5,i3,o8 _ _ ?_⟩;clear o8 N2 p5 o9 nB sB kB nA sA kA i3;refine ar λN3 s2=>?_;refine⟨_,rfl,st,d3,z3,5,rfl,sC,by decide,by decide,λv4 d4 z4 v40 v41=>?_⟩;have kD:K2 st ln H (upd H3 st (.lst [.int d4,.int z4])):=kC.trans K2.st;have sD:(upd H3 st (.lst [.int d4,.int z4])) st=some (.lst [.int d4,.int z4]):=ae;have nD:(upd H3 st (.lst [.int d4,.int z4])) ln=some (.lst (n0.map V.str)):=(ak (Da p)).trans nC;generalize upd H3 st (.lst [.int d4,.int z4])=H4 at *;refine⟨_,rfl,ln,_,rfl,.inl (bg.of nD),_,_,rfl,s2 _ _ ?_⟩;rw[be]
   have j4:0<=(if(n0.length:Int)<v4 then(n0.length:Int)else v4)/\(if(n0.length:Int)<v4 then(n0.length:Int)else v4)<=4/\(if(n0.length:Int)<v4 then(n0.length:Int)else v4)<=n0.length:=by split<;>lia
   generalize(if(n0.length:Int)<v4 then(n0.length:Int)else v4)=g7 at *;clear s2 N3 kC sC nC;refine ar λN4 l4=>?_
   have w3:∀(kd:Str)(dd zz:Int)(H5:Hp),Kb kd->(dp=8->kd="leaf"∨kd="words")->(kd="over"->g7≠0)->K2 st ln H H5->H5 st=some (.lst [.int dd,.int zz])->H5 ln=some (.lst (n0.map V.str))->N4 [some (.ref st),some (.ref ln),some (.int (dp:Int)),some (.bl tb),some (.str nm),some (.str kd),some (.int g7),none,none,none,none,none,none] H5:=λkd dd zz H5 k5 hk8 p1 kE sE nE=>by
    refine l4 _ _ ?_;clear l4 N4;refine ar λN5 u4=>?_;refine⟨_,rfl,(by show 2<=sizeLine;decide),λC M=>?_⟩;have n2:=dC sE M;have w4:=dC nE M;have w8:=kE.gone (Da n2) (Da w4) M;have kG:K2 st ln H (upd H5 C (.tup [.str "leaf",.str "words"])):=kE.put w8;have sG:(upd H5 C (.tup [.str "leaf",.str "words"])) st=some (.lst [.int dd,.int zz]):=(ak n2).trans sE;have nG:(upd H5 C (.tup [.str "leaf",.str "words"])) ln=some (.lst (n0.map V.str)):=(ak w4).trans nE;have tG:(upd H5 C (.tup [.str "leaf",.str "words"])) C=some (.tup ((["leaf","words"]:List Str).map V.str)):=ae;generalize upd H5 C (.tup [.str "leaf",.str "words"])=H6 at *
    have t5:∀mn:Int,0<=mn->mn<=4->(dp=8->mn=0)->mn<=n0.length->(kd="leaf"∨kd="words"->mn=0)->(kd="over"->mn≠0)->N5 [some (.ref st),some (.ref ln),some (.int (dp:Int)),some (.bl tb),some (.str nm),some (.str kd),some (.int mn),none,none,none,none,none,none] H6:=λmn hm0 hm4 hm8 h5 v1 w9=>by
     refine u4 _ _ ?_;clear u4 N5;refine ar λN6 n5=>?_;refine⟨az (by simp),λS l7=>n5 _ _ ?_⟩;clear n5 N6;have np:=dC sG l7;have mp:=dC nG l7;have i2:=kG.gone (Da np) (Da mp) l7;have kI:K2 st ln H (upd H6 S (.lst [])):=kG.put i2;have sI:(upd H6 S (.lst [])) st=some (.lst [.int dd,.int zz]):=(ak np).trans sG;have nI:(upd H6 S (.lst [])) ln=some (.lst (n0.map V.str)):=(ak mp).trans nG;have pI:(upd H6 S (.lst [])) S=some (.lst (Fo.nil.bt.map V.ref)):=ae;generalize upd H6 S (.lst [])=H7 at *;refine ar λN7 o5=>?_;refine⟨_,rfl,mn,rfl,by lia,by lia,?_⟩
     refine cP (n:=mn.toNat) (λi σ t=>∃(u8:Option V)(F9:Fo)(n9:List Str)(d9 z9:Int),σ=[some (.ref st),some (.ref ln),some (.int (dp:Int)),some (.bl tb),some (.str nm),some (.str kd),some (.int mn),some (.ref S),u8,none,none,none,none]/\K2 st ln H t/\t st=some (.lst [.int d9,.int z9])/\t ln=some (.lst (n9.map V.str))/\(∀x∈n9,x.length<=60)/\n9.length+(F9.cnt+1)=bI.length/\t S=some (.lst (F9.bt.map V.ref))/\F9.Ok t/\F9.Good/\F9.df+dp<=8/\F9.bt.length<=i/\bI=n9++(nm::bX F9).reverse/\VF (tb||decide (V.str kd=V.str "table")) F9/\(0<F9.bt.length∨(n9=n0/\i=0)))
      ⟨none,.nil,n0,dd,zz,rfl,kI,sI,nI,y3,y6,pI,trivial,trivial,(by show 0+dp<=8;lia),B6 _,g5,trivial,.inr ⟨rfl,rfl⟩⟩ ?_ ?_
     ·rintro i σ H8 hi ⟨u8,v,b8,d8,z8,rfl,k8,s8,f0,g8,c8,p8,k1,R,m4,ht8,b5,f8,j0⟩;refine⟨_,rfl,az (by simp),λle e6=>?_⟩;have m9:=dC s8 e6;have n1:=dC f0 e6;have ne3:=dC p8 e6;have q7:=k8.gone (Da m9) (Da n1) e6;have k9:K2 st ln H (upd H8 le (.lst [])):=k8.put q7;have s9:(upd H8 le (.lst [])) st=some (.lst [.int d8,.int z8]):=(ak m9).trans s8;have B:(upd H8 le (.lst [])) ln=some (.lst (b8.map V.str)):=(ak n1).trans f0;have p9:(upd H8 le (.lst [])) S=some (.lst (v.bt.map V.ref)):=(ak ne3).trans p8;have e9:(upd H8 le (.lst [])) le=some (.lst []):=ae;have a4:=k1.keep (KT.put (o:= .lst []) e6);generalize upd H8 le (.lst [])=t at *;refine⟨ln,le,_,rfl,rfl,bg.of B,bg.of e9,_,rfl,?_⟩
      cases b8 with
      |nil=>exact bA ⟨_,v,[],d8,z8,rfl,k9,s9,B,g8,c8,p9,a4,R,m4,by lia,b5,f8,.inl (j0.resolve_right λh9a=>by obtain⟨z1,_⟩:=h9a;exact by rw[<-z1]at h5;have :mn<=0:=h5;lia)⟩
      |cons x r=>
       have w5:0<mn.toNat:=by lia
       have q5:dp+1<=8:=by
        rcases Nat.lt_or_ge dp 8 with z|z
        ·lia
        ·have :=hm8 (by lia);rw[this]at w5;exact absurd w5 (by decide)
       refine di ⟨_,rfl,.inl ⟨rfl,_,bg.of p9⟩,_,rfl,_,rfl,_,rfl,_,_,rfl,rfl,Ab (c:=decide (V.str kd=V.str "table")) rfl (λQ' kq=>⟨_,rfl,rfl,kq⟩) ?_⟩;refine⟨st,ln,d8,z8,x::r,dp+1,_,by rw[Int.natCast_add];rfl,p,s9,B,by simp,by lia,g8,q5,by lia,λa bd cs nms' d' z' H' ha kk ss nn gg cc enm okk good vfn hh=>?_⟩
       have hap:S≠a:=λz=>by rw[<-z,p9]at ha;cases ha
       have pp:H' S=some (.lst (v.bt.map V.ref)):=kk _ _ (Da np) (Da mp) p9;have h3:=k9.trans kk;have o1:=a4.keep (KT.k2 kk s9 B);refine⟨S,_,_,rfl,rfl,pp,small (by rw[be];lia),?_⟩;have u3:=KT.lst (ys:=v.bt.map V.ref++[V.ref a]) pp;have hcn:(Fo.cons a bd cs .nil).cnt=cs.cnt+0+1:=rfl;refine⟨_,v.app (.cons a bd cs .nil),nms',d',z',rfl,h3.put i2,(ak np).trans ss,(ak mp).trans nn,gg,?_,?_,?_,Fo.gL.mpr ⟨R,good⟩,?_,?_,?_,AM _ vfn _ f8,.inl ?_⟩
       ·rw[Fo.jB,hcn];rw[B8]at c8 cc
        lia
       ·rw[ae,Fo.cj,Dk];rfl
       ·exact Fo.lI.mpr ⟨o1.keep u3,okk.keep u3⟩
       ·rw[Fo.js];show max v.df (max (cs.df+1) 0)+dp<=8
        lia
       ·rw[Fo.cj,B1];show v.bt.length+1<=i+1;exact Hu
       ·rw[b5,enm,jD];show nms'++(bd.nm::bX cs).reverse++(nm::bX v).reverse=nms'++(nm::(bX v++(bd.nm::(bX cs++[])))).reverse;rw[FB,<-ML,Sa,LW]
       ·rw[Fo.cj,B1];show 0<v.bt.length+1;exact Lz
     rintro σ H8 ⟨u8,v,b8,d8,z8,rfl,k8,s8,f0,g8,c8,p8,k1,R,m4,ht8,b5,f8,j0⟩;refine o5 _ _ ?_;clear o5 N7;refine ar λN8 v8=>v8 _ _ ?_;clear v8 N8;refine ar λN9 l5=>?_
     have m0:∀(al d9 z9:Int)(t:Hp),bC al->((0<=al/\al<=9)/\(0<al->tb=false/\Fm kd))->K2 st ln H t->t st=some (.lst [.int d9,.int z9])->t ln=some (.lst (b8.map V.str))->t S=some (.lst (v.bt.map V.ref))->v.Ok t->N9 [some (.ref st),some (.ref ln),some (.int (dp:Int)),some (.bl tb),some (.str nm),some (.str kd),some (.int mn),some (.ref S),u8,some (.int al),none,none,none] t:=λal d9 z9 t gal val k9 s9 B p9 a4=>by
      refine l5 _ _ ?_;clear l5 N9;refine ar λz5 j3=>?_;refine⟨(by show 2<=sizeLine;decide),λt1 f5=>?_⟩;have a1:=dC s9 f5;have a2:=dC B f5;have a3:=dC p9 f5;have n4:=KT.put (o:= .tup [.int 1,.int 1]) f5;have c0:K2 st ln H (upd t t1 (.tup [.int 1,.int 1])):=k9.put (k9.gone (Da a1) (Da a2) f5);have c5:=(ak (H:=t) (o:= .tup [.int 1,.int 1]) a1).trans s9;have J:=(ak (H:=t) (o:= .tup [.int 1,.int 1]) a2).trans B;have c9:=(ak (H:=t) (o:= .tup [.int 1,.int 1]) a3).trans p9;have u6:(upd t t1 (.tup [.int 1,.int 1])) t1=some (.tup [.int 1,.int 1]):=ae;have a9:=a4.keep n4;generalize upd t t1 (.tup [.int 1,.int 1])=u at *;refine⟨(by show 2<=sizeLine;decide),λC M=>?_⟩;have t6:=dC c5 M;have q4:=dC J M;have b3':=dC c9 M;have j7:=KT.put (o:= .tup [.int 0,.int 1]) M;have f9:K2 st ln H (upd u C (.tup [.int 0,.int 1])):=c0.put (c0.gone (Da t6) (Da q4) M);have c6:=(ak (H:=u) (o:= .tup [.int 0,.int 1]) t6).trans c5;have b2:=(ak (H:=u) (o:= .tup [.int 0,.int 1]) q4).trans J;have g0:=(ak (H:=u) (o:= .tup [.int 0,.int 1]) b3').trans c9;have r9:=j7 _ _ u6;have v9:(upd u C (.tup [.int 0,.int 1])) C=some (.tup [.int 0,.int 1]):=ae;have b0:=a9.keep j7;generalize upd u C (.tup [.int 0,.int 1])=c3 at *;refine⟨_,rfl,st,d9,z9,100,rfl,c6,by decide,by decide,λx1 G I p6 x11=>?_⟩;have j1:=KT.lst (ys:=[.int G,.int I]) c6;have h3:K2 st ln H (upd c3 st (.lst [.int G,.int I])):=f9.trans K2.st;have l3:(upd c3 st (.lst [.int G,.int I])) st=some (.lst [.int G,.int I]):=ae;have i6:=(ak (H:=c3) (o:= .lst [.int G,.int I]) (Da p)).trans b2;have r6:=(ak (H:=c3) (o:= .lst [.int G,.int I]) (Da np)).trans g0;generalize upd c3 st (.lst [.int G,.int I])=e3 at *;refine⟨_,rfl,st,G,I,100,rfl,l3,by decide,by decide,λx2 T Z p3 x21=>?_⟩;have h9:=j1.trans (KT.lst (ys:=[.int T,.int Z]) l3);have l0:K2 st ln H (upd e3 st (.lst [.int T,.int Z])):=h3.trans K2.st;have j5:(upd e3 st (.lst [.int T,.int Z])) st=some (.lst [.int T,.int Z]):=ae;have e1:=(ak (H:=e3) (o:= .lst [.int T,.int Z]) (Da p)).trans i6;have k6:=(ak (H:=e3) (o:= .lst [.int T,.int Z]) (Da np)).trans r6;generalize upd e3 st (.lst [.int T,.int Z])=b6 at *;refine⟨(by show 2<=sizeLine;decide),λt3 f7=>?_⟩;have w6:=dC j5 f7;have o6:=dC e1 f7;have c3':=dC k6 f7;have i4:=h9.trans (KT.put (o:= .tup [.int x1,.int x2]) f7);have l6:K2 st ln H (upd b6 t3 (.tup [.int x1,.int x2])):=l0.put (l0.gone (Da w6) (Da o6) f7);have k4:=(ak (H:=b6) (o:= .tup [.int x1,.int x2]) w6).trans j5;have e2:=(ak (H:=b6) (o:= .tup [.int x1,.int x2]) o6).trans e1;have l1:=(ak (H:=b6) (o:= .tup [.int x1,.int x2]) c3').trans k6;have x9:(upd b6 t3 (.tup [.int x1,.int x2])) t3=some (.tup [.int x1,.int x2]):=ae;generalize upd b6 t3 (.tup [.int x1,.int x2])=c7 at *;refine⟨(by show 3<=sizeLine;decide),λls b9=>?_⟩;have k0:=dC k4 b9;have o0:=dC e2 b9;have d3':=dC l1 b9;have i7:=i4.trans (KT.put (o:= .lst [.ref t1,.ref C,.ref t3]) b9);have q6:=KT.put (o:= .lst [.ref t1,.ref C,.ref t3]) b9 _ _ x9;have p7:K2 st ln H (upd c7 ls (.lst [.ref t1,.ref C,.ref t3])):=l6.put (l6.gone (Da k0) (Da o0) b9);have k3:=(ak (H:=c7) (o:= .lst [.ref t1,.ref C,.ref t3]) k0).trans k4;have i0:=(ak (H:=c7) (o:= .lst [.ref t1,.ref C,.ref t3]) o0).trans e2;have s3:=(ak (H:=c7) (o:= .lst [.ref t1,.ref C,.ref t3]) d3').trans l1;have v6:(upd c7 ls (.lst [.ref t1,.ref C,.ref t3])) ls=some (.lst [.ref t1,.ref C,.ref t3]):=ae;generalize upd c7 ls (.lst [.ref t1,.ref C,.ref t3])=c4 at *;refine⟨_,rfl,st,T,Z,3,rfl,k3,by decide,by decide,λx3 L O x30 x31=>?_⟩;have a6:=KT.lst (ys:=[.int L,.int O]) k3;have b1:=i7.trans a6;have r0:=a6 _ _ q6;have z7:K2 st ln H (upd c4 st (.lst [.int L,.int O])):=p7.trans K2.st;have w7:(upd c4 st (.lst [.int L,.int O])) st=some (.lst [.int L,.int O]):=ae;have v0:=(ak (H:=c4) (o:= .lst [.int L,.int O]) (Da p)).trans i0;have y4:=(ak (H:=c4) (o:= .lst [.int L,.int O]) (Da np)).trans s3;have u7:=(ak (H:=c4) (o:= .lst [.int L,.int O]) (Da k0)).trans v6;generalize upd c4 st (.lst [.int L,.int O])=X at *;obtain⟨tx,w2,s6⟩:=GQ (a:=t1) (b:=C) (c:=t3) x30 x31;refine⟨ls,_,_,_,rfl,rfl,bg.of u7,w2,j3 _ _ ?_⟩
      have y9:∃g1 g2:Int,X tx=some (.tup [.int g1,.int g2])/\(bC g1/\bC g2)/\(0<=g1/\g1<=99)/\0<=g2/\g2<=99:=by
       rcases s6 with z|z|z<;>rw[z]
       ·exact⟨_,_,b1 _ _ r9,⟨bO (by decide) (by decide),bO (by decide) (by decide)⟩,⟨by decide,by decide⟩,by decide,by decide⟩
       ·exact⟨_,_,b1 _ _ v9,⟨bO (by decide) (by decide),bO (by decide) (by decide)⟩,⟨by decide,by decide⟩,by decide,by decide⟩
       ·exact⟨_,_,r0,⟨bO p6 Cw,bO p3 Cw⟩,⟨p6,by lia⟩,p3,by lia⟩
      obtain⟨g1,g2,hsx,⟨gg1,gg2⟩,vg1,vg2⟩:=y9;have r8:=b0.keep b1;clear j3 z5 s6 w2 u7 r0 b1 a6 i7 i4 h9 j1 q6 x9 r9 v9 u6 n4 j7 a9 b0 v6;clear p7 k3 i0 s3 l6 k4 e2 l1 l0 j5 e1 k6 h3 l3 i6 r6 f9 c6 b2 g0 c0 c5 J c9;refine ar λN11 i8=>?_;refine⟨_,rfl,st,L,O,10,rfl,w7,by decide,by decide,λr1 a8 a7 m7 r11=>?_⟩;refine⟨_,rfl,st,a8,a7,2,rfl,ae,by decide,by decide,λr2 a0 U r20 r21=>?_⟩;have i5:KT X (upd (upd X st (.lst [.int a8,.int a7])) st (.lst [.int a0,.int U])):=(KT.lst w7).trans (KT.lst ae);have s1:K2 st ln H (upd (upd X st (.lst [.int a8,.int a7])) st (.lst [.int a0,.int U])):=(z7.trans K2.st).trans K2.st;have g6:(upd (upd X st (.lst [.int a8,.int a7])) st (.lst [.int a0,.int U])) st=some (.lst [.int a0,.int U]):=ae
      have i1:(upd (upd X st (.lst [.int a8,.int a7])) st (.lst [.int a0,.int U])) ln=some (.lst (b8.map V.str)):=by rw[ak (Da p),ak (Da p)];exact v0
      have u9:(upd (upd X st (.lst [.int a8,.int a7])) st (.lst [.int a0,.int U])) S=some (.lst (v.bt.map V.ref)):=by rw[ak (Da np),ak (Da np)];exact y4
      generalize upd (upd X st (.lst [.int a8,.int a7])) st (.lst [.int a0,.int U])=H18 at *
      have t0:bC (r1*r2)/\0<=r1*r2/\r1*r2<=9:=by
       have e:r2=0∨r2=1:=by lia
       rcases e with e|e<;>rw[e]
       ·rw[Int.mul_zero];exact⟨gO,by decide,by decide⟩
       ·rw[Int.mul_one];exact⟨bO m7 Cw,m7,by lia⟩
      refine⟨_,_,rfl,rfl,.inl ⟨by lia,Cw⟩,i8 _ _ ?_⟩;clear i8 N11;refine ar λz2 i9=>?_;refine⟨_,rfl,st,a0,U,rfl,g6,λta w0 w1 d19 z19 H19 n3 h6 y7 a19 gw0 y5 vw=>?_⟩
      have nta:ta≠st:=λz=>by rw[z,g6]at n3;cases n3
      refine⟨_,rfl,st,d19,z19,rfl,y7,λtv h0 h1 d20 z20 b7 htv e7 j8 o4 gh0 gh1 vh=>?_⟩;have q8:=e7 _ _ nta a19;have g:=h6.trans e7;have m2:=s1.trans (K2.kp (ln:=ln) g);have e5:=g _ _ (Da p) i1;have j6:=g _ _ (Da np) u9;have e4:=i5.trans (KT.kp g g6);have e0:=e4 _ _ hsx;refine⟨_,rfl,tx,_,_,_,rfl,rfl,aT.of e0,aA (j:=0) rfl,_,rfl,tx,_,_,_,rfl,rfl,aT.of e0,aA (j:=1) rfl,_,rfl,_,rfl,(by show 6<=sizeLine;decide),λto f4=>i9 _ _ ?_⟩;clear i9 z2;have s4:=dC j8 f4;have s7:=dC e5 f4;have e3':=dC j6 f4;have g9:=KT.put (o:= .tup [.ref ta,.ref tv,.int g1,.int g2,.int (r1*r2),.int al]) f4;have z0:K2 st ln H (upd b7 to (.tup [.ref ta,.ref tv,.int g1,.int g2,.int (r1*r2),.int al])):=m2.put (m2.gone (Da s4) (Da s7) f4);have r5:=(ak (H:=b7) (o:= .tup [.ref ta,.ref tv,.int g1,.int g2,.int (r1*r2),.int al]) s4).trans j8;have o2:=(ak (H:=b7) (o:= .tup [.ref ta,.ref tv,.int g1,.int g2,.int (r1*r2),.int al]) s7).trans e5;have p0:=(ak (H:=b7) (o:= .tup [.ref ta,.ref tv,.int g1,.int g2,.int (r1*r2),.int al]) e3').trans j6;have l9:iI (upd b7 to (.tup [.ref ta,.ref tv,.int g1,.int g2,.int (r1*r2),.int al])) to ⟨w0,w1,h0,h1,g1,g2,r1*r2,al⟩:=⟨ta,tv,ae,g9 _ _ q8,g9 _ _ o4⟩;have p4:=(r8.keep e4).keep g9;generalize upd b7 to (.tup [.ref ta,.ref tv,.int g1,.int g2,.int (r1*r2),.int al])=H21 at *;clear m2 j8 e5 j6 q8 o4 e0 e4 g e7 h6 i5 s1 g6 i1 u9 g9
      have htl:v.bt.length<=4:=by lia
      refine⟨_,rfl,_,rfl,_,rfl,_,rfl,_,rfl,_,rfl,S,_,rfl,.inl (bg.of p0),st,d20,z20,kd,v.bt.length,by rw[be];rfl,r5,k5,CA,λz=>(by have :=v1 z;lia),λz=>(by have :=w9 z;lia),λq wh d22 z22 d7 hq b3 q9 u5 gwh l2 fwh vwh=>?_⟩;have p22:=b3 _ _ (Da np) p0;have h4:=KT.kp b3 r5;refine⟨_,rfl,S,_,rfl,.inl ⟨bg.of p22,λtp g4=>?_⟩⟩;have h7:=b3 _ _ (Da p) o2;have s0:=dC q9 g4;have u0:=dC h7 g4;have v7:=z0.trans (K2.kp (ln:=ln) b3);have d5:=KT.put (o:= .tup (v.bt.map V.ref)) g4;have n6:K2 st ln H (upd d7 tp (.tup (v.bt.map V.ref))):=v7.put (v7.gone (Da s0) (Da u0) g4);have o3:=(ak (H:=d7) (o:= .tup (v.bt.map V.ref)) s0).trans q9;have j2:=(ak (H:=d7) (o:= .tup (v.bt.map V.ref)) u0).trans h7;have t7:(upd d7 tp (.tup (v.bt.map V.ref))) tp=some (.tup (v.bt.map V.ref)):=ae;have j9:=(l9.keep h4).keep d5;have o7:=u5.keep d5;have n7:=(p4.keep h4).keep d5;generalize upd d7 tp (.tup (v.bt.map V.ref))=H23 at *;refine⟨(by show 5<=sizeLine;decide),λa ha=>?_⟩;have x6:=dC o3 ha;have m6:=dC j2 ha;have r4:=n6.gone (Da x6) (Da m6) ha;have b4:=KT.put (o:= .tup [.str kd,.str nm,.ref to,.ref q,.ref tp]) ha;refine k a ⟨nm,⟨w0,w1,h0,h1,g1,g2,r1*r2,al⟩,wh⟩ v b8 d22 z22 _ r4 (n6.put r4) ((ak x6).trans o3) ((ak m6).trans j2) g8 c8 b5 ⟨⟨to,q,tp,?_,j9.keep b4,o7.keep b4,b4 _ _ t7⟩,n7.keep b4,trivial⟩ ⟨⟨gwh,⟨gw0,y5,gh0,gh1,gg1,gg2,t0.1,gal⟩,hnm,fwh⟩,R,trivial⟩ ⟨⟨⟨vw,vh,vg1,vg2,t0.2,val.1⟩,vwh,by rw[l2];exact val.2⟩,by rw[l2];exact f8,trivial⟩ m4;rw[ae];show some (HO.tup [V.str kd,.str nm,.ref to,.ref q,.ref tp])=some (HO.tup [V.str wh.kd,.str nm,.ref to,.ref q,.ref tp]);rw[l2]
     clear l5;refine⟨_,rfl,(by show 4<=sizeLine;decide),λt4 f6=>?_⟩;have q1:=dC s8 f6;have q2:=dC f0 f6;have q3:=dC p8 f6;have kt4:=KT.put (o:= .tup [.str "leaf",.str "row",.str "column",.str "wrap"]) f6;have k9:K2 st ln H (upd H8 t4 (.tup [.str "leaf",.str "row",.str "column",.str "wrap"])):=k8.put (k8.gone (Da q1) (Da q2) f6);have s9:=(ak (H:=H8) (o:= .tup [.str "leaf",.str "row",.str "column",.str "wrap"]) q1).trans s8;have B:=(ak (H:=H8) (o:= .tup [.str "leaf",.str "row",.str "column",.str "wrap"]) q2).trans f0;have p9:=(ak (H:=H8) (o:= .tup [.str "leaf",.str "row",.str "column",.str "wrap"]) q3).trans p8;have t9:(upd H8 t4 (.tup [.str "leaf",.str "row",.str "column",.str "wrap"])) t4=some (.tup [.str "leaf",.str "row",.str "column",.str "wrap"]):=ae;have a4:=k1.keep kt4;generalize upd H8 t4 (.tup [.str "leaf",.str "row",.str "column",.str "wrap"])=t at *;refine⟨t4,_,rfl,.inr (aT.of t9),rfl,rfl,_,rfl,gP (λc1=>?_) (λ_=>bA (m0 0 d8 z8 t gO ⟨⟨by decide,by decide⟩,λz=>absurd z (by decide)⟩ k9 s9 B p9 a4))⟩;refine⟨_,rfl,_,rfl,gP (λc2=>?_) (λ_=>m0 0 d8 z8 t gO ⟨⟨by decide,by decide⟩,λz=>absurd z (by decide)⟩ k9 s9 B p9 a4)⟩;refine⟨_,rfl,st,d8,z8,8,rfl,s9,by decide,by decide,λy1 Y a5 y10 y11=>?_⟩;have r7:=KT.lst (ys:=[.int Y,.int a5]) s9;have c0:K2 st ln H (upd t st (.lst [.int Y,.int a5])):=k9.trans K2.st;have c5:(upd t st (.lst [.int Y,.int a5])) st=some (.lst [.int Y,.int a5]):=ae;have J:=(ak (H:=t) (o:= .lst [.int Y,.int a5]) (Da p)).trans B;have c9:=(ak (H:=t) (o:= .lst [.int Y,.int a5]) (Da np)).trans p9;have a9:=a4.keep r7;generalize upd t st (.lst [.int Y,.int a5])=u at *;refine⟨_,_,rfl,rfl,(by show 4<=sizeLine;decide),λla e8=>?_⟩;have r1:=dC c5 e8;have r2:=dC J e8;have r3:=dC c9 e8;have x7:=KT.put (o:= .lst [.int 0,.int 0,.int 1,.int (2+y1)]) e8;have f9:K2 st ln H (upd u la (.lst [.int 0,.int 0,.int 1,.int (2+y1)])):=c0.put (c0.gone (Da r1) (Da r2) e8);have c6:=(ak (H:=u) (o:= .lst [.int 0,.int 0,.int 1,.int (2+y1)]) r1).trans c5;have b2:=(ak (H:=u) (o:= .lst [.int 0,.int 0,.int 1,.int (2+y1)]) r2).trans J;have g0:=(ak (H:=u) (o:= .lst [.int 0,.int 0,.int 1,.int (2+y1)]) r3).trans c9;have l11:(upd u la (.lst [.int 0,.int 0,.int 1,.int (2+y1)])) la=some (.lst [.int 0,.int 0,.int 1,.int (2+y1)]):=ae;have b0:=a9.keep x7;generalize upd u la (.lst [.int 0,.int 0,.int 1,.int (2+y1)])=c3 at *;refine⟨_,rfl,st,Y,a5,4,rfl,c6,by decide,by decide,λy2 G I y20 y21=>?_⟩;obtain⟨al,hal,halc⟩:=Fz (a:=2+y1) y20 y21;refine⟨la,_,_,_,rfl,rfl,bg.of ((ak (Da r1)).trans l11),hal,?_⟩;have t8:Fm kd:=Cb c1;exact m0 al G I _ (bO (by lia) (by lia)) ⟨by lia,λ_=>⟨by simpa using c2,t8⟩⟩ (f9.trans K2.st) ae ((ak (Da p)).trans b2) ((ak (Da np)).trans g0) (b0.keep (KT.lst c6))
    refine⟨C,_,rfl,.inr (aT.of tG),rfl,rfl,_,rfl,?_⟩
    show if gB (.str kd) ((["leaf","words"]:List Str).map V.str)=true then _ else _
    rw[lh]
    have ov:kd∈(["leaf","words"]:List Str)->kd≠"over":=λz e=>by
     rw[e]at z
     revert z
     decide +kernel
    have lw:kd="leaf"∨kd="words"->kd∈(["leaf","words"]:List Str):=λz=>by rcases z with z|z<;>rw[z]<;>simp
    refine gP (λc=>t5 0 Cv Cv (λ_=>rfl) (by lia) (λ_=>rfl) λz=>absurd z (ov (of_decide_eq_true c))) (λc=>t5 g7 j4.1 j4.2.1 (λh8=>absurd (decide_eq_true (lw (hk8 h8))) c) j4.2.2 (λz=>absurd (decide_eq_true (lw z)) c) p1)
   have d0:=λ(h8:dp=8->g3="leaf"∨g3="words") (ho:g3="over"->g7≠0)=>w3 g3 d4 z4 H4 q0 h8 ho kD sD nD
   have k7:∀(l:B3),H4 l=none->K2 st ln H (upd H4 l (.lst [.str "leaf",.str "words"]))/\(upd H4 l (.lst [.str "leaf",.str "words"])) st=some (.lst [.int d4,.int z4])/\(upd H4 l (.lst [.str "leaf",.str "words"])) ln=some (.lst (n0.map V.str))/\l≠st:=λl hl=>by
    have u1:=dC sD hl;have u2:=dC nD hl;exact⟨kD.put (kD.gone (Da u1) (Da u2) hl),(ak u1).trans sD,(ak u2).trans nD,Da u1⟩
   clear l4;refine⟨_,rfl,_,_,rfl,rfl,_,rfl,gP (λc=>?_) (λc=>?_)⟩
   case' refine_2=>
    have v2:dp≠8:=λe=>c (decide_eq_true (by rw[e];decide));refine⟨_,rfl,rfl,_,rfl,gP (λ_=>?_) (λq=>bA (d0 (λe=>absurd e v2) λ_ e=>q (decide_eq_true (by rw[e]))))⟩;refine⟨_,rfl,rfl,_,rfl,gP (λ_=>?_) (λq=>d0 (λe=>absurd e v2) λe=>absurd (decide_eq_true (by rw[e])) q)⟩
   case' refine_1=>refine di ?_
   all_goals
    refine⟨(by show 2<=sizeLine;decide),λl hl=>?_⟩;obtain⟨x1,x2,x3,x4⟩:=k7 l hl;have x5:(upd H4 l (.lst [.str "leaf",.str "words"])) l=some (.lst [.str "leaf",.str "words"]):=ae;generalize upd H4 l (.lst [.str "leaf",.str "words"])=H5 at *;refine⟨_,rfl,st,d4,z4,2,rfl,x2,by decide,by decide,λy d6 z6 y0 y1=>?_⟩;obtain⟨kd,k5,m3⟩:=JD y0 y1;refine⟨l,_,_,_,rfl,rfl,bg.of ((ak x4).trans x5),k5,?_⟩;exact w3 kd d6 z6 _ (by rcases m3 with z|z;exact .inl z;exact .inr (.inr (.inr (.inl z)))) (λ_=>m3) (λe=>by exfalso;rcases m3 with z|z<;>rw[z]at e<;>revert e<;>decide +kernel) (x1.trans K2.st) ae ((ak (Da p)).trans x3)
end B09P
namespace B09
open PySem L2 S2
open DW B09P
def nZ(te:TE)(σ:St)(H:Hp):Prop:=∀(H1:Hp)(Q:VK),af H H1->(∀H2,af H1 H2->Q (.bl true) H2)->te σ H1 Q
def yB(tt:TT)(σ:St)(H:Hp):Prop:=∀(H1:Hp)(Q:Bool->Hp->Prop),af H H1->(∀H2,af H1 H2->Q true H2)->tt σ H1 Q
def Val(te:TE)(σ:St)(H:Hp)(v:V):Prop:=∀(H1:Hp)(Q:VK),af H H1->Q v H1->te σ H1 Q
inductive IW(C:V->Hp->Prop)(vs:List V)(H:Hp)(Q:VK):Prop
 |mk (v:_) (c0:vs=[v]) (c1:C v H) (c2:∀H',af H H'->Q (.bl true) H')
def cQ(C:V->Hp->Prop):Sp:=λvs H Q _=>IW C vs H Q
inductive HJ(C:V->V->Hp->Prop)(vs:List V)(H:Hp)(Q:VK):Prop
 |mk (v:_) (u:_) (c0:vs=[v,u]) (c1:C v u H) (c2:∀H',af H H'->Q (.bl true) H')
def dn(C:V->V->Hp->Prop):Sp:=λvs H Q _=>HJ C vs H Q
inductive Ia(C:V->V->V->Hp->Prop)(vs:List V)(H:Hp)(Q:VK):Prop
 |mk (v:_) (u:_) (x:_) (c0:vs=[v,u,x]) (c1:C v u x H) (c2:∀H',af H H'->Q (.bl true) H')
def mj(C:V->V->V->Hp->Prop):Sp:=λvs H Q _=>Ia C vs H Q
variable{D0:Ends}{E:XK}{H H' H0:Hp}{a f f1 f2 f3 f4 f5 f6 l C:B3}{as:List B3}{i j m c:Nat}{ta te:TE}{tt:TT}{v:V}{xs:List V}{z x y s:Str}{σ:St}{P:MA}{ad:Nat->B3}{base:MP}{d1 d2 d3 d4 d5 d6 fd:M9}{mg:Str->Option B5}{tk:Nat->Tok}{w:MM}{ws:List (List Str)}{X:Cx}{b:Int}{p:(Str×Int)×(Str×Int)}{Q:VK}
section
variable{K:mo}{tb tc tx ty tz:TE}{tu:TT}{u x:V}{m n l:Int}
theorem bU(a:nZ ta σ H)(b:nZ tb σ H):nZ (Fj ta tb) σ H:=λH1 Q s k=>a H1 _ s λH2 s2=>⟨true,rfl,di (b H2 Q (af.trans s s2) λH3 c=>k H3 (af.trans s2 c))⟩
theorem eJ(a:yB tt σ H)(b:yB tu σ H):yB (IU tt tu) σ H:=λH1 Q s k=>a H1 _ s λH2 s2=>di (b H2 Q (af.trans s s2) λH3 c=>k H3 (af.trans s2 c))
theorem cK(h:nZ ta σ H):yB (tB ta) σ H:=λH1 Q s k=>h H1 _ s λH2 s2=>⟨true,rfl,k H2 s2⟩
theorem pL(h:nZ ta σ H):yB (Ay ta) σ H:=λH1 Q s k=>h H1 _ s λH2 s2=>⟨true,rfl,k H2 s2⟩
theorem eA{ts:TS}(hA:yB tt σ H)(hB:∀H',af H H'->ts D0 σ H'):He (HQ (Io tt) (Dt (tC (.bl false))) EY) ts D0 σ H:=hA H _ (af.refl _) λH1 s1=>bA (hB H1 s1)
theorem y_ret(h:nZ te σ H)(s:af H H')(k:∀H2,af H H2->D0.rt (.bl true) H2):Dt te D0 σ H':=h H' _ s λH2 s2=>k H2 (af.trans s s2)
theorem v_var(h:σ[i]? =some (some v)):Val (iR i) σ H v:=λH1 Q _ k=>⟨v,h,k⟩
theorem d_:Val (tC v) σ H v:=λH1 Q _ k=>k
theorem dq(h:Val tx σ H (.ref a))(ha:H a=some (.tup xs))(b:xs[j]? =some v):Val (xI (A2 K) tx (tC (.int (j:Int)))) σ H v:=λH1 Q s k=>h H1 _ s ⟨a,xs,_,v,rfl,rfl,aT.of (s _ _ ha),aA b,k⟩
theorem AU(h:Val tx σ H (.ref a))(ha:H a=some (.tup xs)):Val (Ao (λxs H Q=>∃p ys,xs=[.ref p]/\(bg K H p ys∨aT K H p ys)/\Q (.int ys.length) H) (cH tx e_)) σ H (.int xs.length):=λH1 Q s k=>h H1 _ s ⟨a,xs,rfl,.inr (aT.of (s _ _ ha)),k⟩
theorem HF(h:Val tx σ H (.int n)):Val (K4 (rU λi=> .int (-i)) tx) σ H (.int (-n)):=λH1 Q s k=>h H1 _ s ⟨n,rfl,k⟩
theorem v_sub(h:Val tx σ H (.int m))(g:Val ty σ H (.int n)):Val (xI (yo λi j=> .int (i-j)) tx ty) σ H (.int (m-n)):=λH1 Q s k=>h H1 _ s (g H1 _ s ⟨m,n,rfl,rfl,k⟩)
theorem Dy(h:Val tx σ H (.int m))(g:Val ty σ H (.int n))(e:m<=n):nZ (xI (yo λi j=> .bl (decide (i<=j))) tx ty) σ H:=λH1 Q s k=>h H1 _ s (g H1 _ s ⟨m,n,rfl,rfl,by show Q (.bl (decide (m<=n))) H1;rw[decide_eq_true e];exact k H1 (af.refl _)⟩)
theorem ox(h:Val tx σ H (.int l))(g:Val ty σ H (.int m))(i:Val tz σ H (.int n))(a:l<=m)(b:m<=n):nZ (um (yo λi j=> .bl (decide (i<=j))) (yo λi j=> .bl (decide (i<=j))) tx ty tz) σ H:=λH1 Q s k=>h H1 _ s (g H1 _ s ⟨l,m,rfl,rfl,_,rfl,by
 rw[decide_eq_true a]
 exact di (i H1 _ s ⟨m,n,rfl,rfl,by show Q (.bl (decide (m<=n))) H1;rw[decide_eq_true b];exact k H1 (af.refl _)⟩)⟩)
theorem y_eq(h:Val tx σ H v)(g:Val ty σ H v)(f:DZ v v=true):nZ (xI K3 tx ty) σ H:=λH1 Q s k=>h H1 _ s (g H1 _ s ⟨f,by rw[decide_eq_true rfl];exact k H1 (af.refl _)⟩)
theorem Er{ws:List Str}(hz:z∈ws)(h:Val tx σ H (.str z))(g:Val ty σ H (.ref a))(ha:∀H,aT K H a (ws.map V.str)):nZ (xI (uK K false) tx ty) σ H:=λH1 Q s k=>h H1 _ s (g H1 _ s ⟨a,_,rfl,.inr (ha H1),rfl,by rw[Pn];exact List.all_eq_true.mpr λ_ _=>rfl,by
 show Q (.bl (gB (.str z) (ws.map V.str))) H1;rw[lh,decide_eq_true hz]
 exact k H1 (af.refl _)⟩)
theorem IV(h:Val tx σ H v)(g:Val ty σ H u)(f:DZ v u=true)(e:¬v=u):nZ (xI K6 tx ty) σ H:=λH1 Q s k=>h H1 _ s (g H1 _ s ⟨f,by rw[decide_eq_false e];exact k H1 (af.refl _)⟩)
theorem Cn(h:Val tx σ H (.str z))(hn:z.length<=100000):Val (Ao (λxs H Q=>∃z,xs=[V.str z]/\z.length<=sizeLine/\Q (V.int z.length) H) (cH tx e_)) σ H (.int z.length):=λH1 Q s k=>h H1 _ s ⟨z,rfl,az hn,k⟩
theorem Cs(h:Val tx σ H (.str z))(hn:z.length<=100000)(he:∀c∈z.cps.toList,nZ ta (some (.str ⟨#[c]⟩)::σ) H):nZ (Ao (zv K) (cH (o_ (I_ tx) gw ta) e_)) σ H:=λH1 Q s k=>h H1 _ s ⟨z,rfl,kY (α:=Nat) (l:=z.cps.toList) (λc=> .str ⟨#[c]⟩) (λ_=>true) (λ_=> .bl true) (gA.str _ _) (small (by rw[LY];exact hn)) (λ_ H' b _ _ a=>a _ (af.refl _)) (λp H' b _ j s' a=>he p j H' b (af.trans s s') a) λi e m g d=>by
 refine⟨i,z.cps.toList.map λ_=>true,rfl,bg.of (by rw[d,List.filter_eq_self.mpr λ_ _=>rfl,Mm];rfl),?_⟩;rw[List.all_eq_true.mpr λz f=>by obtain⟨_,_,rfl⟩:=List.mem_map.mp f;rfl]
 exact k e g⟩
theorem vm(h:Val tx σ H (.ref a))(ha:H a=some (.tup xs))(b:xs[i]? =some v):Val (hP (B09P.dM i) [] E (cH tx e_)) σ H v:=λH1 Q s k=>h H1 _ s ⟨a,xs,v,rfl,s _ _ ha,b,k⟩
theorem DK{ws:List (List V)}(h:Val tx σ H (.ref a))(ha:H a=some (.tup (as.map V.ref)))(c:bp H as ws)(hn:as.length<=100000)(o:(ws.map λw=>(w.length:Int)).sum<=n):nZ (xI (yo λi j=> .bl (decide (i<=j))) (Ao (E1 K) (cH (o_ (Fs K tx) gw (Ao (λxs H Q=>∃p ys,xs=[.ref p]/\(bg K H p ys∨aT K H p ys)/\Q (.int ys.length) H) (cH (iR 0) e_))) e_)) (tC (.int n))) σ H:=λH1 Q s k=>h H1 _ s ⟨a,rfl,⟨_,aT.of (s _ _ ha)⟩,kY (α:=B3×List V) (l:=as.zip ws) (λp=> .ref p.1) (λ_=>true) (λp=> .int (p.2.length:Int)) (by
  have e:(as.zip ws).map (λp=>V.ref p.1)=as.map V.ref:=by
   rw[show(λp:B3×List V=>V.ref p.1)=V.ref∘Q4 from rfl,<-Mm,Qz (by rw[c.1];exact B6 _)]
  rw[e]
  exact gA.tup (s _ _ ha)) (small (by rw[QM];lia)) (λ_ H' v _ _ b=>b _ (af.refl _)) (λp H' v _ x s' b=>by
  obtain⟨j,m⟩:=Nf x;obtain⟨r,q⟩:=uv m
  exact⟨_,rfl,p.1,p.2,rfl,.inr (aT.of (s' _ _ (s _ _ (c.2 j _ _ r q)))),b H' (af.refl _)⟩) λu d y t g=>by
  refine⟨u,(as.zip ws).map λp=>(p.2.length:Int),rfl,bg.of (by rw[g,List.filter_eq_self.mpr λ_ _=>rfl,Mm];rfl),_,_,rfl,rfl,?_⟩;show Q (.bl (decide (((as.zip ws).map λp=>(p.2.length:Int)).sum<=n))) d;rw[rK (f:=λw:List V=>(w.length:Int)) c.1,decide_eq_true o]
  exact k d t⟩
theorem kb{C:V->Hp->Prop}(h:Val tx σ H v)(c:∀H1,af H H1->C v H1):nZ (hP (cQ C) [] E (cH tx e_)) σ H:=λH1 Q s k=>h H1 _ s ⟨v,rfl,c H1 s,k⟩
theorem mK{C:V->V->Hp->Prop}(h:Val tx σ H v)(g:Val ty σ H u)(c:∀H1,af H H1->C v u H1):nZ (hP (dn C) [] E (cH tx (cH ty e_))) σ H:=λH1 Q s k=>h H1 _ s (g H1 _ s ⟨v,u,rfl,c H1 s,k⟩)
theorem zk{C:V->V->V->Hp->Prop}(h:Val tx σ H v)(g:Val ty σ H u)(i:Val tz σ H x)(c:∀H1,af H H1->C v u x H1):nZ (hP (mj C) [] E (cH tx (cH ty (cH tz e_)))) σ H:=λH1 Q s k=>h H1 _ s (g H1 _ s (i H1 _ s ⟨v,u,x,rfl,c H1 s,k⟩))
theorem qV(h:Val tx σ H (.ref a))(ha:H a=some (.tup xs))(hn:xs.length<=100000)(he:∀x∈xs,nZ ta (some x::σ) H):nZ (Ao (zv K) (cH (o_ (Fs K tx) gw ta) e_)) σ H:=λH1 Q s k=>h H1 _ s ⟨a,rfl,⟨_,aT.of (s _ _ ha)⟩,kY (α:=V) (l:=xs) id (λ_=>true) (λ_=> .bl true) (by rw[QE];exact gA.tup (s _ _ ha)) (small hn) (λ_ H' c _ _ b=>b _ (af.refl _)) (λp H' c _ j s' b=>he p j H' c (af.trans s s') b) λi e m g d=>by
 refine⟨i,xs.map λ_=>true,rfl,bg.of (by rw[d,List.filter_eq_self.mpr λ_ _=>rfl,Mm];rfl),?_⟩;rw[List.all_eq_true.mpr λz f=>by obtain⟨_,_,rfl⟩:=List.mem_map.mp f;rfl]
 exact k e g⟩
theorem Av(h:σ[i]? =some (some (.ref a)))(ha:H a=some (.tup xs)):nZ (Ao (A6 K) (cH (iR i) (cH (tC (V.ty "tuple")) e_))) σ H:=λH1 Q s k=>⟨_,h,_,"tuple",_,_,rfl,.tup (s _ _ ha),rfl,k H1 (af.refl _)⟩
theorem tK(h:σ[i]? =some (some (.str z))):nZ (Ao (A6 K) (cH (iR i) (cH (tC (V.ty "str")) e_))) σ H:=λH1 Q s k=>⟨_,h,_,"str",_,_,rfl,.str z,rfl,k H1 (af.refl _)⟩
end
theorem zD(k:Nat)(g:Int)(al sd:Str):gB (.str (aX.lined k g al sd).kd) [.str "row",.str "column",.str "wrap"]=true:=by
 match k with
 |0=>show gB (.str "row") _=true;decide +kernel
 |1=>show gB (.str "column") _=true;decide +kernel
 |k+2=>show gB (.str "wrap") _=true;decide +kernel
def cInt(v:V)(_:Hp):Prop:=∃i,v= .int i
def sP(v u x:V)(_:Hp):Prop:=∃i m n:Int,v= .int i/\u= .int m/\x= .int n/\m<=i/\i<=n
def jg(v u:V)(H:Hp):Prop:=∃a xs,v= .ref a/\u= .int (xs.length:Int)/\H a=some (.tup xs)
def CN(n:Int)(v:V)(_:Hp):Prop:=∃i,v= .int i/\0<=i/\i<=n
def Ig(v:V)(H:Hp):Prop:=∃a x y,v= .ref a/\H a=some (.tup [.int x,.int y])/\Vr x y
def Jl(v:V)(H:Hp):Prop:=∃a o,v= .ref a/\iI H a o/\Vo o
def Iq(v:V)(H:Hp):Prop:=∃(a:B3)(p:Str×Int),v= .ref a/\H a=some (.tup [.str p.1,.int p.2])/\Va p
def H_(v:V)(H:Hp):Prop:=∃(a b c:B3)(p:(Str×Int)×(Str×Int)),v= .ref a/\H a=some (.tup [.ref b,.ref c])/\H b=some (.tup [.str p.1.1,.int p.1.2])/\H c=some (.tup [.str p.2.1,.int p.2.2])/\Va p.1/\Va p.2
def E9(v u:V)(H:Hp):Prop:=∃(q:B3)(ps:List ((Str×Int)×(Str×Int)))(n:Nat),v= .ref q/\u= .int (n:Int)/\cJ H q (.over ps)/\Vw (.over ps) n
def JJ(v:V)(_:Hp):Prop:=∃c:Nat,v= .str ⟨#[c]⟩/\33<=c/\c<=126/\c≠37/\c≠124
def HZ(v:V)(_:Hp):Prop:=∃x:Str,v= .str x/\1<=x.length/\x.length<=4/\Vx x
def Jc(v:V)(H:Hp):Prop:=∃(a:B3)(ws:List Str),v= .ref a/\H a=some (.tup (de ws))/\1<=ws.length/\ws.length<=3/\∀x∈ws,1<=x.length/\x.length<=4/\Vx x
def Kc(v:V)(H:Hp):Prop:=∃(a:B3)(ws:List (List Str)),v= .ref a/\oi H a ws/\eH ws/\G_ ws
def Jp(v u:V)(H:Hp):Prop:=∃(a:B3)(sds:List Str)(n:Nat),v= .ref a/\u= .int (n:Int)/\H a=some (.tup (de sds))/\sds.length=n/\n<=4/\∀s∈sds,Vs s
def Cy(f:aX->Prop)(v u:V)(H:Hp):Prop:=∃(q:B3)(wh:aX)(n:Nat),v= .ref q/\u= .int (n:Int)/\cJ H q wh/\wh.Good/\Vw wh n/\f wh
def E2(v u x:V)(H:Hp):Prop:=∃(q:B3)(wh:aX)(n:Nat),v= .str wh.kd/\u= .ref q/\x= .int (n:Int)/\cJ H q wh/\wh.Good/\Vw wh n
def EF(v:V)(H:Hp):Prop:=∃(a:B3)(bd:dF)(ts:List B3),v= .ref a/\Fo.iH H a bd ts/\bd.wh.Good/\Vo bd.own/\Vw bd.wh ts.length/\Vn bd.nm
def HY(v u:V)(H:Hp):Prop:=∃(a:B3)(p:Int×Int)(c:Int),v= .ref a/\u= .int c/\H a=some (.tup (jX p))/\(1<=p.1/\p.1<=c)/\1<=p.2/\p.2<=12
def K8(v:V)(_:Hp):Prop:=∃x:Str,v= .str x/\Vn x
def ER(ws:List Str)(v:V)(_:Hp):Prop:=∃x,v= .str x/\x∈ws
section
variable{K:mo}
abbrev Dp:List Str:=Za
theorem zK:ay Dp Za (aj mG):=cL
theorem xH(F:aZ K "is_whole" "is_whole" mG f fd)(N:aR mg):aw P w K mg base aO 1 f fd Za (cQ cInt):=by
 refine F.cS zK λcdv A outer s H vs Q E b h=>?_
 ·obtain⟨v,e,a,k⟩:=h;subst e;refine⟨_,ai (au (a_ (aF bh (by rfl) N.inst KM (aa (pv 0) (aa (cC (v:= .ty "int") (by rfl) N.int PB rfl (by decide)) ab))) (bN (uZ (aF bh (by rfl) N.inst KM (aa (pv 0) (aa (cC (v:= .ty "bool") (by rfl) N.bool RH rfl (by decide)) ab))))))),?_⟩
  try rw[bZ]
  obtain⟨i,rfl⟩:=a;exact⟨_,rfl,_,"int",_,_,rfl,.int i,rfl,_,rfl,di ⟨_,rfl,_,"bool",_,_,rfl,.int i,rfl,_,rfl,k H (af.refl _)⟩⟩
abbrev yh:List Str:=Zg
theorem uN:ay yh Zg (aj iN):=cL
theorem tj(F:aZ K "is_between" "is_between" iN f fd)(N:aR mg)(g:aw P w K mg base aO 1 f1 d1 Za (cQ cInt))(c:Cq K mg d1 f1 Za "is_whole"):aw P w K mg base aO 2 f fd Zg (mj sP):=by
 refine F.cS uN λcdv A outer s H vs Q E d h=>?_
 ·obtain⟨v,u,x,e,b,k⟩:=h;subst e;have a:=d.mono (j:=1) (by decide);refine⟨_,ai (au (a_ (pq g a c (aa (pv 0) ab)) (bN (eY dI dI (pv 1) (pv 0) (pv 2))))),?_⟩
  try rw[bZ]
  obtain⟨i,m,n,rfl,rfl,rfl,h1,h2⟩:=b;exact y_ret (bU (kb (v_var rfl) λ_ _=>⟨i,rfl⟩) (ox (v_var rfl) (v_var rfl) (v_var rfl) h1 h2)) (af.refl _) k
abbrev xR:List Str:=Zc
theorem vi:ay xR Zc (aj iJ):=cL
theorem sX(F:aZ K "is_tuple_of" "is_tuple_of" iJ f fd)(N:aR mg):aw P w K mg base aO 1 f fd Zc (dn jg):=by
 refine F.cS vi λcdv A outer s H vs Q E c h=>?_
 ·obtain⟨v,u,e,b,k⟩:=h;subst e;refine⟨_,ai (au (a_ (aF bh (by rfl) N.inst KM (aa (pv 0) (aa (cC (v:= .ty "tuple") (by rfl) N.tuple LR rfl (by decide)) ab))) (bN (cy bD (aF br (by rfl) N.len Md (aa (pv 0) ab)) (pv 1) (aG _))))),?_⟩
  try rw[bZ]
  obtain⟨a,xs,rfl,rfl,ha⟩:=b;exact y_ret (bU (Av rfl ha) (y_eq (AU (v_var rfl) ha) (v_var rfl) rfl)) (af.refl _) k
abbrev FA:List Str:=Za
theorem Ek:ay FA Za (aj qA):=cL
theorem zI(l:kN K mg tk ad)(F:aZ K "is_size" "is_size" qA f fd)(N:aR mg)(g:aw P w K mg base aO 2 f1 d1 Zg (mj sP))(c:Cq K mg d1 f1 Zg "is_between"):aw P w K mg base aO 3 f fd Za (cQ (CN 1000000)):=by
 refine F.cS Ek λcdv A outer s H vs Q E d h=>?_
 ·obtain⟨v,e,b,k⟩:=h;subst e;have a:=d.mono (j:=2) (by decide);refine⟨_,ai (au (pq g a c (aa (pv 0) (aa ag (aa (aU (v:= .int 1000000) (by rfl) l.cSIZE_MOST ⟨_,rfl⟩) ab))))),?_⟩
  try rw[bZ]
  obtain⟨i,rfl,h1,h2⟩:=b;exact y_ret (zk (v_var rfl) d_ d_ λ_ _=>⟨i,_,_,rfl,rfl,rfl,h1,h2⟩) (af.refl _) k
abbrev Iy:List Str:=Za
theorem Fv:ay Iy Za (aj uY):=cL
theorem D5(l:kN K mg tk ad)(F:aZ K "is_gap" "is_gap" uY f fd)(N:aR mg)(g:aw P w K mg base aO 2 f1 d1 Zg (mj sP))(c:Cq K mg d1 f1 Zg "is_between"):aw P w K mg base aO 3 f fd Za (cQ (CN 1000)):=by
 refine F.cS Fv λcdv A outer s H vs Q E d h=>?_
 ·obtain⟨v,e,b,k⟩:=h;subst e;have a:=d.mono (j:=2) (by decide);refine⟨_,ai (au (pq g a c (aa (pv 0) (aa ag (aa (aU (v:= .int 1000) (by rfl) l.cGAP_MOST ⟨_,rfl⟩) ab))))),?_⟩
  try rw[bZ]
  obtain⟨i,rfl,h1,h2⟩:=b;exact y_ret (zk (v_var rfl) d_ d_ λ_ _=>⟨i,_,_,rfl,rfl,rfl,h1,h2⟩) (af.refl _) k
abbrev Eo:List Str:=Za
theorem Bp:ay Eo Za (aj mM):=cL
theorem yr(l:kN K mg tk ad)(F:aZ K "is_joint" "is_joint" mM f fd)(N:aR mg)(g:aw P w K mg base aO 2 f1 d1 Zg (mj sP))(c:Cq K mg d1 f1 Zg "is_between"):aw P w K mg base aO 3 f fd Za (cQ (CN 999)):=by
 refine F.cS Bp λcdv A outer s H vs Q E d h=>?_
 ·obtain⟨v,e,b,k⟩:=h;subst e;have a:=d.mono (j:=2) (by decide);refine⟨_,ai (au (pq g a c (aa (pv 0) (aa ag (aa (aU (v:= .int 999) (by rfl) l.cJOINT_MOST ⟨_,rfl⟩) ab))))),?_⟩
  try rw[bZ]
  obtain⟨i,rfl,h1,h2⟩:=b;exact y_ret (zk (v_var rfl) d_ d_ λ_ _=>⟨i,_,_,rfl,rfl,rfl,h1,h2⟩) (af.refl _) k
abbrev zO:List Str:=Za
theorem xD:ay zO Za (aj j_):=cL
theorem vF(F:aZ K "is_bounds" "is_bounds" j_ f fd)(N:aR mg)(o:aw P w K mg base aO 1 f1 d1 Zc (dn jg))(n:Cq K mg d1 f1 Zc "is_tuple_of")(g:aw P w K mg base aO 3 f2 d2 Za (cQ (CN 1000000)))(d:Cq K mg d2 f2 Za "is_size"):aw P w K mg base aO 4 f fd Za (cQ Ig):=by
 refine F.cS xD λcdv A outer s H vs Q E i h=>?_
 ·obtain⟨v,e,l,k⟩:=h;subst e;have c:=i.mono (j:=1) (by decide);have b:=i.mono (j:=3) (by decide);refine⟨_,ai (au (a_ (pq o c n (aa (pv 0) (aa ag ab))) (a_ (pq g b d (aa (ax av (pv 0) ag (λ_ _=>rfl)) ab)) (a_ (pq g b d (aa (ax av (pv 0) ag (λ_ _=>rfl)) ab)) (bN (cy dI (ax av (pv 0) ag (λ_ _=>rfl)) (ax av (pv 0) ag (λ_ _=>rfl)) (aG _))))))),?_⟩
  try rw[bZ]
  obtain⟨a,x,y,rfl,ha,h1,h2,m⟩:=l;exact y_ret (bU (mK (v_var rfl) d_ λ_ s=>⟨a,_,rfl,rfl,s _ _ ha⟩) (bU (kb (dq (j:=0) (v_var rfl) ha rfl) λ_ _=>⟨x,rfl,h1,by lia⟩) (bU (kb (dq (j:=1) (v_var rfl) ha rfl) λ_ _=>⟨y,rfl,by lia,m⟩) (Dy (dq (j:=0) (v_var rfl) ha rfl) (dq (j:=1) (v_var rfl) ha rfl) h2)))) (af.refl _) k
abbrev JB:List Str:=Za
theorem FI:ay JB Za (aj uq):=cL
theorem D4(m:kN K mg tk ad)(F:aZ K "is_own" "is_own" uq f fd)(N:aR mg)(T:aw P w K mg base aO 1 f1 d1 Zc (dn jg))(M:Cq K mg d1 f1 Zc "is_tuple_of")(x:aw P w K mg base aO 4 f2 d2 Za (cQ Ig))(r:Cq K mg d2 f2 Za "is_bounds")(i:aw P w K mg base aO 2 f3 d3 Zg (mj sP))(l:Cq K mg d3 f3 Zg "is_between"):aw P w K mg base aO 5 f fd Za (cQ Jl):=by
 refine F.cS FI λcdv A outer s H vs Q E q h=>?_
 ·obtain⟨v,e,z,k⟩:=h;subst e;have n:=q.mono (j:=1) (by decide);have b:=q.mono (j:=2) (by decide);have d:=q.mono (j:=4) (by decide)
  refine⟨_,ah (aQ (cZ (bY (bH (pq T n M (aa (pv 0) (aa ag ab)))) (bY (bH (pq x d r (aa (ax av (pv 0) ag (λ_ _=>rfl)) ab))) (bS (bH (pq x d r (aa (ax av (pv 0) ag (λ_ _=>rfl)) ab)))))).pt) (ai (au c_)) aC)
   (ah (aQ (cZ (bY (bH (pq i b l (aa (ax av (pv 0) ag (λ_ _=>rfl)) (aa ag (aa (aU (v:= .int 99) (by rfl) m.cWEIGHT_MOST ⟨_,rfl⟩) ab))))) (bS (bH (pq i b l (aa (ax av (pv 0) ag (λ_ _=>rfl)) (aa ag (aa (aU (v:= .int 99) (by rfl) m.cWEIGHT_MOST ⟨_,rfl⟩) ab))))))).pt) (ai (au c_)) aC)
   (ai (au (a_ (pq i b l (aa (ax av (pv 0) ag (λ_ _=>rfl)) (aa ag (aa (aU (v:= .int 9) (by rfl) m.cRANK_MOST ⟨_,rfl⟩) ab)))) (bN (pq i b l (aa (ax av (pv 0) ag (λ_ _=>rfl)) (aa ag (aa (aU (v:= .int 9) (by rfl) m.cALIKE_MOST ⟨_,rfl⟩) ab))))))))),?_⟩
  try rw[bZ]
  obtain⟨a,o,rfl,⟨u,t,ha,U,I⟩,S,L,⟨O,R⟩,⟨G,B⟩,⟨y,J⟩,C,p⟩:=z;refine eA (eJ (cK (mK (v_var rfl) d_ λ_ s=>⟨a,_,rfl,rfl,s _ _ ha⟩)) (eJ (cK (kb (dq (j:=0) (v_var rfl) ha rfl) λ_ s=>⟨u,_,_,rfl,s _ _ U,S⟩)) (cK (kb (dq (j:=1) (v_var rfl) ha rfl) λ_ s=>⟨t,_,_,rfl,s _ _ I,L⟩)))) λH1 s1=>?_;have c:=s1 _ _ ha;refine eA (eJ (cK (zk (dq (j:=2) (v_var rfl) c rfl) d_ d_ λ_ _=>⟨_,_,_,rfl,rfl,rfl,O,R⟩)) (cK (zk (dq (j:=3) (v_var rfl) c rfl) d_ d_ λ_ _=>⟨_,_,_,rfl,rfl,rfl,G,B⟩))) λH2 s2=>?_;have g:=s2 _ _ c;exact y_ret (bU (zk (dq (j:=4) (v_var rfl) g rfl) d_ d_ λ_ _=>⟨_,_,_,rfl,rfl,rfl,y,J⟩) (zk (dq (j:=5) (v_var rfl) g rfl) d_ d_ λ_ _=>⟨_,_,_,rfl,rfl,rfl,C,p⟩)) (af.refl _) λH3 D=>k H3 (af.trans s1 (af.trans s2 D))
abbrev Hm:List Str:=Za
theorem CO:ay Hm Za (aj qN):=cL
theorem zU(a:kN K mg tk ad)(F:aZ K "is_side" "is_side" qN f fd)(N:aR mg):aw P w K mg base aO 1 f fd Za (cQ (ER ["left","right"])):=by
 refine F.cS CO λcdv A outer s H vs Q E c h=>?_
 ·obtain⟨v,e,b,k⟩:=h;subst e;refine⟨_,ai (au (a_ (aF bh (by rfl) N.inst KM (aa (pv 0) (aa (cC (v:= .ty "str") (by rfl) N.str FM rfl (by decide)) ab))) (bN (cy (r:=uK K false) cu (pv 0) (aU (v:= .ref (ad 1)) (by rfl) a.tSIDES rfl) (by rfl))))),?_⟩
  try rw[bZ]
  obtain⟨x,rfl,hx⟩:=b;exact y_ret (bU (tK rfl) (Er hx (v_var rfl) d_ a.sSIDES)) (af.refl _) k
abbrev DP:List Str:=Za
theorem BU:ay DP Za (aj mQ):=cL
theorem yT(a:kN K mg tk ad)(F:aZ K "is_align" "is_align" mQ f fd)(N:aR mg):aw P w K mg base aO 1 f fd Za (cQ (ER ["start","end","mid","mid2"])):=by
 refine F.cS BU λcdv A outer s H vs Q E c h=>?_
 ·obtain⟨v,e,b,k⟩:=h;subst e;refine⟨_,ai (au (a_ (aF bh (by rfl) N.inst KM (aa (pv 0) (aa (cC (v:= .ty "str") (by rfl) N.str FM rfl (by decide)) ab))) (bN (cy (r:=uK K false) cu (pv 0) (aU (v:= .ref (ad 3)) (by rfl) a.tALIGNS rfl) (by rfl))))),?_⟩
  try rw[bZ]
  obtain⟨x,rfl,hx⟩:=b;exact y_ret (bU (tK rfl) (Er hx (v_var rfl) d_ a.sALIGNS)) (af.refl _) k
abbrev qo:List Str:=Za
theorem nJ:ay qo Za (aj fA):=cL
theorem mW(a:kN K mg tk ad)(F:aZ K "is_anchor_word" "is_anchor_word" fA f fd)(N:aR mg):aw P w K mg base aO 1 f fd Za (cQ (ER ["start","mid","mid2","end"])):=by
 refine F.cS nJ λcdv A outer s H vs Q E c h=>?_
 ·obtain⟨v,e,b,k⟩:=h;subst e;refine⟨_,ai (au (a_ (aF bh (by rfl) N.inst KM (aa (pv 0) (aa (cC (v:= .ty "str") (by rfl) N.str FM rfl (by decide)) ab))) (bN (cy (r:=uK K false) cu (pv 0) (aU (v:= .ref (ad 0)) (by rfl) a.tANCHOR_WORDS rfl) (by rfl))))),?_⟩
  try rw[bZ]
  obtain⟨x,rfl,hx⟩:=b;exact y_ret (bU (tK rfl) (Er hx (v_var rfl) d_ a.sANCHOR_WORDS)) (af.refl _) k
abbrev Ai:List Str:=Za
theorem yZ:ay Ai Za (aj jP):=cL
theorem uT(g:kN K mg tk ad)(F:aZ K "is_anchor" "is_anchor" jP f fd)(N:aR mg)(u:aw P w K mg base aO 1 f1 d1 Zc (dn jg))(t:Cq K mg d1 f1 Zc "is_tuple_of")(r:aw P w K mg base aO 1 f2 d2 Za (cQ (ER ["start","mid","mid2","end"])))(m:Cq K mg d2 f2 Za "is_anchor_word")(o:aw P w K mg base aO 2 f3 d3 Zg (mj sP))(q:Cq K mg d3 f3 Zg "is_between"):aw P w K mg base aO 3 f fd Za (cQ Iq):=by
 refine F.cS yZ λcdv A outer s H vs Q E i h=>?_
 ·obtain⟨v,e,l,k⟩:=h;subst e;have c:=i.mono (j:=1) (by decide);have d:=i.mono (j:=2) (by decide)
  refine⟨_,ah (aQ (cZ (bH (pq u c t (aa (pv 0) (aa ag ab))))) (ai (au c_)) aC)
   (ai (au (a_ (pq r c m (aa (ax av (pv 0) ag (λ_ _=>rfl)) ab)) (bN (pq o d q (aa (ax av (pv 0) ag (λ_ _=>rfl)) (aa (Ib FX (aU (v:= .int 1000000) (by rfl) g.cANCHOR_FARTHEST ⟨_,rfl⟩)) (aa (aU (v:= .int 1000000) (by rfl) g.cANCHOR_FARTHEST ⟨_,rfl⟩) ab)))))))),?_⟩
  try rw[bZ]
  obtain⟨a,p,rfl,ha,h1,h2,n⟩:=l;refine eA (cK (mK (v_var rfl) d_ λ_ s=>⟨a,_,rfl,rfl,s _ _ ha⟩)) λH1 s1=>?_;have b:=s1 _ _ ha;exact y_ret (bU (kb (dq (j:=0) (v_var rfl) b rfl) λ_ _=>⟨_,rfl,by simpa using h1⟩) (zk (dq (j:=1) (v_var rfl) b rfl) (HF d_) d_ λ_ _=>⟨_,_,_,rfl,rfl,rfl,h2,n⟩)) (af.refl _) λH2 s2=>k H2 (af.trans s1 s2)
abbrev qx:List Str:=Za
theorem oo:ay qx Za (aj fq):=cL
theorem lN(F:aZ K "is_anchor_pair" "is_anchor_pair" fq f fd)(N:aR mg)(r:aw P w K mg base aO 1 f1 d1 Zc (dn jg))(o:Cq K mg d1 f1 Zc "is_tuple_of")(l:aw P w K mg base aO 3 f2 d2 Za (cQ Iq))(i:Cq K mg d2 f2 Za "is_anchor"):aw P w K mg base aO 4 f fd Za (cQ H_):=by
 refine F.cS oo λcdv A outer s H vs Q E m h=>?_
 ·obtain⟨v,e,n,k⟩:=h;subst e;have g:=m.mono (j:=1) (by decide);have d:=m.mono (j:=3) (by decide);refine⟨_,ai (au (a_ (pq r g o (aa (pv 0) (aa ag ab))) (a_ (pq l d i (aa (ax av (pv 0) ag (λ_ _=>rfl)) ab)) (bN (pq l d i (aa (ax av (pv 0) ag (λ_ _=>rfl)) ab)))))),?_⟩
  try rw[bZ]
  obtain⟨a,b,c,p,rfl,ha,q,t,h1,h2⟩:=n;exact y_ret (bU (mK (v_var rfl) d_ λ_ s=>⟨a,_,rfl,rfl,s _ _ ha⟩) (bU (kb (dq (j:=0) (v_var rfl) ha rfl) λ_ s=>⟨b,p.1,rfl,s _ _ q,h1⟩) (kb (dq (j:=1) (v_var rfl) ha rfl) λ_ s=>⟨c,p.2,rfl,s _ _ t,h2⟩))) (af.refl _) k
abbrev nu:List Str:=Zd
theorem rY:ay nu Zd (aj fj):=cL
theorem qM(B:kN K mg tk ad)(F:aZ K "is_over_what" "is_over_what" fj f fd)(N:aR mg)(O:aw P w K mg base aO 1 f1 d1 Zc (dn jg))(L:Cq K mg d1 f1 Zc "is_tuple_of")(I:aw P w K mg base aO 4 f2 d2 Za (cQ H_))(y:Cq K mg d2 f2 Za "is_anchor_pair"):aw P w K mg base aO 5 f fd Zd (dn E9):=by
 refine F.cS rY λcdv A outer s H vs Q E p h=>?_
 ·obtain⟨v,u,e,t,k⟩:=h;subst e;have a:=p.mono (j:=1) (by decide);have g:=p.mono (j:=4) (by decide)
  refine⟨_,ah (aQ (cZ (bY (q_ dI dI ag (pv 1) (aU (v:= .int 12) (by rfl) B.cOVER_PARTS ⟨_,rfl⟩)) (bS (bH (pq O a L (aa (pv 0) (aa (aE eE (pv 1) ag) ab)))))).pt) (ai (au c_)) aC)
   (ai (au (aF (dh rfl) (by rfl) N.all MH (aa (b_ (ba (fs:=aj fj) (N:=nu) rfl rfl (by decide +kernel)) rfl (eG (pv 0)) (λ_ _ _ _ _=>bB) (λ_ _ _ _ _=>(pq I g y (aa (pv 0) ab)))) ab)))),?_⟩
  try rw[bZ]
  obtain⟨q,ps,n,rfl,rfl,⟨as,o,hl,z⟩,⟨h1,h2⟩,S,C⟩:=t;refine eA (eJ (pL (ox d_ (v_var rfl) d_ (by lia) (by lia))) (cK (mK (v_var rfl) (v_sub (v_var rfl) d_) λ_ s=>⟨q,_,rfl,by rw[be,hl];congr 1;lia,s _ _ o⟩))) λH1 s1=>?_;have m:=s1 _ _ o;refine y_ret (qV (v_var rfl) m (by rw[be,hl];lia) λx hx=>?_) (af.refl _) λH2 s2=>k H2 (af.trans s1 s2);obtain⟨i,hi⟩:=Nf hx;rw[B7]at hi;obtain⟨c,r,rfl⟩:=Option.map_eq_some_iff.mp hi
  have l:i<ps.length:=by rw[<-hl];exact bR r
  have e:=AC l;obtain⟨b,d,M,J,D⟩:=z i c _ r e;obtain⟨G,R⟩:=C _ (Fk e);exact kb (v_var rfl) λ_ s=>⟨c,b,d,_,rfl,s _ _ (s1 _ _ M),s _ _ (s1 _ _ J),s _ _ (s1 _ _ D),G,R⟩
abbrev Hl:List Str:=["sign","number"]
theorem vS:ay Hl ["sign"] (aj pW):=cL
theorem A0(a:kN K mg tk ad)(F:aZ K "is_sign" "is_sign" pW f fd)(N:aR mg):aw P w K mg base aO 1 f fd ["sign"] (cQ JJ):=by
 refine F.cS vS λcdv A outer s H vs Q E m h=>?_
 ·obtain⟨v,e,g,k⟩:=h;subst e
  refine⟨_,ah (aJ (i:=1) vS.nd rfl (KB rfl) (aF Ca (by rfl) N.ord PyProof.Rows.boot_ord (aa (pv 0) ab)))
   (ai (au (a_ (eY dI dI (aU (v:= .int 33) (by rfl) a.cFIRST_SIGN ⟨_,rfl⟩) (pv 1) (aU (v:= .int 126) (by rfl) a.cLAST_SIGN ⟨_,rfl⟩)) (a_ (cy fg (pv 1) (aU (v:= .int 37) (by rfl) a.cPERCENT_SIGN ⟨_,rfl⟩) (aG _)) (bN (cy fg (pv 1) (aU (v:= .int 124) (by rfl) a.cBAR_SIGN ⟨_,rfl⟩) (aG _))))))),?_⟩
  try rw[bZ]
  obtain⟨c,rfl,h1,h2,j,d⟩:=g;refine ar λl b=>?_;refine⟨_,rfl,⟨#[c]⟩,rfl,rfl,?_⟩;rw[show((⟨#[c]⟩:Str).cps.getD 0 0)=c from rfl];refine b _ _ ?_;clear b l;exact y_ret (bU (ox d_ (v_var rfl) d_ (by lia) (by lia)) (bU (IV (v_var rfl) d_ rfl λz=>j (by injection z with z;lia)) (IV (v_var rfl) d_ rfl λz=>d (by injection z with z;lia)))) (af.refl _) k
abbrev vW:List Str:=Za
theorem AG:ay vW Za (aj jE):=cL
theorem yM(m:kN K mg tk ad)(F:aZ K "is_piece" "is_piece" jE f fd)(N:aR mg)(l:aw P w K mg base aO 1 f1 d1 ["sign"] (cQ JJ))(g:Cq K mg d1 f1 ["sign"] "is_sign"):aw P w K mg base aO 2 f fd Za (cQ HZ):=by
 refine F.cS AG λcdv A outer s H vs Q E i h=>?_
 ·obtain⟨v,e,b,k⟩:=h;subst e;have a:=i.mono (j:=1) (by decide);refine⟨_,ai (au (a_ (aF bh (by rfl) N.inst KM (aa (pv 0) (aa (cC (v:= .ty "str") (by rfl) N.str FM rfl (by decide)) ab))) (a_ (eY dI dI ag (aF cT (by rfl) N.len Md (aa (pv 0) ab)) (aU (v:= .int 12) (by rfl) m.cPIECE_LONGEST ⟨_,rfl⟩)) (bN (aF (dh rfl) (by rfl) N.all MH (aa (b_ (ba (fs:=aj jE) (N:=vW) rfl rfl (by decide +kernel)) rfl (vC (pv 0)) (λ_ _ _ _ _=>bB) (λ_ _ _ _ _=>(pq l a g (aa (pv 0) ab)))) ab)))))),?_⟩
  try rw[bZ]
  obtain⟨x,rfl,h1,h2,d⟩:=b;exact y_ret (bU (tK rfl) (bU (ox d_ (Cn (v_var rfl) cV) d_ (by lia) (by lia)) (Cs (v_var rfl) cV λc n=>kb (v_var rfl) λ_ _=>⟨c,rfl,(d c n)⟩))) (af.refl _) k
abbrev zx:List Str:=Za
theorem En:ay zx Za (aj kZ):=cL
theorem Be(n:kN K mg tk ad)(F:aZ K "is_word" "is_word" kZ f fd)(N:aR mg)(m:aw P w K mg base aO 2 f1 d1 Za (cQ HZ))(i:Cq K mg d1 f1 Za "is_piece"):aw P w K mg base aO 3 f fd Za (cQ Jc):=by
 refine F.cS En λcdv A outer s H vs Q E l h=>?_
 ·obtain⟨v,e,c,k⟩:=h;subst e;have b:=l.mono (j:=2) (by decide);refine⟨_,ai (au (a_ (aF bh (by rfl) N.inst KM (aa (pv 0) (aa (cC (v:= .ty "tuple") (by rfl) N.tuple LR rfl (by decide)) ab))) (a_ (eY dI dI ag (aF br (by rfl) N.len Md (aa (pv 0) ab)) (aU (v:= .int 6) (by rfl) n.cWORD_PIECES ⟨_,rfl⟩)) (bN (aF (dh rfl) (by rfl) N.all MH (aa (b_ (ba (fs:=aj kZ) (N:=zx) rfl rfl (by decide +kernel)) rfl (eG (pv 0)) (λ_ _ _ _ _=>bB) (λ_ _ _ _ _=>(pq m b i (aa (pv 0) ab)))) ab)))))),?_⟩
  try rw[bZ]
  obtain⟨a,ws,rfl,ha,h1,h2,g⟩:=c;have hl:(de ws).length=ws.length:=be ..
  exact y_ret (bU (Av rfl ha) (bU (ox d_ (AU (v_var rfl) ha) d_ (by lia) (by lia)) (qV (v_var rfl) ha (by lia) λx hx=>by
   obtain⟨z,d,rfl⟩:=List.mem_map.mp hx
   exact kb (v_var rfl) λ_ _=>⟨z,rfl,g z d⟩))) (af.refl _) k
abbrev pN:List Str:=Za
theorem Aa:ay pN Za (aj g_):=cL
theorem xE(u:kN K mg tk ad)(F:aZ K "is_words" "is_words" g_ f fd)(N:aR mg)(D:aw P w K mg base aO 3 f1 d1 Za (cQ Jc))(B:Cq K mg d1 f1 Za "is_word"):aw P w K mg base aO 4 f fd Za (cQ Kc):=by
 refine F.cS Aa λcdv A outer s H vs Q E b h=>?_
 ·obtain⟨v,e,d,k⟩:=h;subst e;have n:=b.mono (j:=3) (by decide)
  refine⟨_,ah (aQ (cZ (bY (bH (aF bh (by rfl) N.inst KM (aa (pv 0) (aa (cC (v:= .ty "tuple") (by rfl) N.tuple LR rfl (by decide)) ab)))) (bS (bH (aF (dh rfl) (by rfl) N.all MH (aa (b_ (ba (fs:=aj g_) (N:=pN) rfl rfl (by decide +kernel)) rfl (eG (pv 0)) (λ_ _ _ _ _=>bB) (λ_ _ _ _ _=>(pq D n B (aa (pv 0) ab)))) ab))))).pt) (ai (au c_)) aC)
   (ai (au (cy dI (aF (yH rfl) (by rfl) N.sum PyProof.Rows.boot_sum (aa (b_ (ba (fs:=aj g_) (N:=pN) rfl rfl (by decide +kernel)) rfl (eG (pv 0)) (λ_ _ _ _ _=>bB) (λ_ _ _ _ _=>(aF (ym (K:=K) rfl) (by rfl) N.len Md (aa (pv 0) ab)))) ab)) (aU (v:= .int 60) (by rfl) u.cWORDS_PIECES ⟨_,rfl⟩) (aG _)))),?_⟩
  try rw[bZ]
  obtain⟨a,ws,rfl,⟨as,ha,b⟩,g,h1⟩:=d;have hl:=b.1;rw[be]at hl;have G:=g.1;refine eA (eJ (cK (Av rfl ha)) (cK (qV (v_var rfl) ha (by rw[be];lia) λx hx=>?_))) λH1 s1=>?_
  ·obtain⟨i,hi⟩:=Nf hx;rw[B7]at hi;obtain⟨c,r,rfl⟩:=Option.map_eq_some_iff.mp hi
   have m:i<ws.length:=by rw[<-hl];exact bR r
   have e:=AC m;have hm:=Fk e;have C:=b.2 i c _ r (by rw[B7,e];rfl);obtain⟨t,y,q⟩:=g.2 _ hm;exact kb (v_var rfl) λ_ s=>⟨c,ws[i],rfl,s _ _ C,t,y,λx hx=>⟨(q x hx).1,(q x hx).2,h1 _ hm x hx⟩⟩
  ·refine y_ret (DK (v_var rfl) (s1 _ _ ha) (dY b (KT.same s1)) (by lia) ?_) (af.refl _) λH2 s2=>k H2 (af.trans s1 s2)
   have o:∀l:List (List Str),(∀w∈l,w.length<=3)->(((l.map de).map λw=>(w.length:Int)).sum)<=3*l.length:=by
    intro l
    induction l with
    |nil=>intro _;simp
    |cons w l p=>
     intro h;have p:=p λv d=>h v (GE _ d);have h1:=h w Do
     have e:((de w).length:Int)=w.length:=by show(((w.map V.str).length:Nat):Int)=_;rw[be]
     simp only[Mc,P7,B8];rw[e]
     lia
   have :=o ws λw z=>(g.2 w z).2.1
   lia
abbrev vR:List Str:=Zc
theorem AD:ay vR Zc (aj ig):=cL
theorem xQ(F:aZ K "are_sides" "are_sides" ig f fd)(N:aR mg)(o:aw P w K mg base aO 1 f1 d1 Zc (dn jg))(l:Cq K mg d1 f1 Zc "is_tuple_of")(g:aw P w K mg base aO 1 f2 d2 Za (cQ (ER ["left","right"])))(d:Cq K mg d2 f2 Za "is_side"):aw P w K mg base aO 2 f fd Zc (dn Jp):=by
 refine F.cS AD λcdv A outer s H vs Q E m h=>?_
 ·obtain⟨v,u,e,c,k⟩:=h;subst e;have b:=m.mono (j:=1) (by decide);refine⟨_,ai (au (a_ (pq o b l (aa (pv 0) (aa (pv 1) ab))) (bN (aF (dh rfl) (by rfl) N.all MH (aa (b_ (ba (fs:=aj ig) (N:=vR) rfl rfl (by decide +kernel)) rfl (eG (pv 0)) (λ_ _ _ _ _=>bB) (λ_ _ _ _ _=>(pq g b d (aa (pv 0) ab)))) ab))))),?_⟩
  try rw[bZ]
  obtain⟨a,sds,n,rfl,rfl,ha,hl,hn,h1⟩:=c;have p:(de sds).length=sds.length:=be ..
  exact y_ret (bU (mK (v_var rfl) (v_var rfl) λ_ s=>⟨a,_,rfl,by rw[p,hl],s _ _ ha⟩) (qV (v_var rfl) ha (by lia) λx hx=>by
   obtain⟨z,i,rfl⟩:=List.mem_map.mp hx
   exact kb (v_var rfl) λ_ _=>⟨z,rfl,by rcases h1 z i with rfl|rfl<;>decide +kernel⟩)) (af.refl _) k
abbrev tM:List Str:=Zd
theorem qg:ay tM Zd (aj gm):=cL
theorem nV(F:aZ K "is_words_what" "is_words_what" gm f fd)(N:aR mg)(C:aw P w K mg base aO 1 f1 d1 Zc (dn jg))(B:Cq K mg d1 f1 Zc "is_tuple_of")(y:aw P w K mg base aO 4 f2 d2 Za (cQ Kc))(o:Cq K mg d2 f2 Za "is_words")(r:aw P w K mg base aO 3 f3 d3 Za (cQ (CN 999)))(t:Cq K mg d3 f3 Za "is_joint"):aw P w K mg base aO 5 f fd Zd (dn (Cy λwh=>∃ws j,wh= .words ws j)):=by
 refine F.cS qg λcdv A outer s H vs Q E l h=>?_
 ·obtain⟨v,u,e,c,k⟩:=h;subst e;have b:=l.mono (j:=1) (by decide);have i:=l.mono (j:=3) (by decide);have d:=l.mono (j:=4) (by decide);refine⟨_,ai (au (a_ (cy bD (pv 1) ag (aG _)) (a_ (pq C b B (aa (pv 0) (aa ag ab))) (a_ (pq y d o (aa (ax av (pv 0) ag (λ_ _=>rfl)) ab)) (bN (pq r i t (aa (ax av (pv 0) ag (λ_ _=>rfl)) ab))))))),?_⟩
  try rw[bZ]
  obtain⟨q,wh,n,rfl,rfl,a,g,c,ws,j,rfl⟩:=c;obtain⟨s,a,m⟩:=a;obtain⟨rfl,h2,p,x⟩:=c;exact y_ret (bU (y_eq (v_var rfl) d_ rfl) (bU (mK (v_var rfl) d_ λ_ z=>⟨q,_,rfl,rfl,z _ _ a⟩) (bU (kb (dq (j:=0) (v_var rfl) a rfl) λ_ z=>⟨s,ws,rfl,m.keep (KT.same z),g.1,h2⟩) (kb (dq (j:=1) (v_var rfl) a rfl) λ_ _=>⟨j,rfl,p,x⟩)))) (af.refl _) k
abbrev vx:List Str:=Zd
theorem sS:ay vx Zd (aj gX):=cL
theorem qu(I:kN K mg tk ad)(F:aZ K "is_flow_what" "is_flow_what" gX f fd)(N:aR mg)(G:aw P w K mg base aO 1 f1 d1 Zc (dn jg))(O:Cq K mg d1 f1 Zc "is_tuple_of")(L:aw P w K mg base aO 2 f2 d2 Zc (dn Jp))(x:Cq K mg d2 f2 Zc "are_sides")(C:aw P w K mg base aO 4 f3 d3 Za (cQ Kc))(D:Cq K mg d3 f3 Za "is_words")(R:aw P w K mg base aO 3 f4 d4 Za (cQ (CN 999)))(p:Cq K mg d4 f4 Za "is_joint"):aw P w K mg base aO 5 f fd Zd (dn (Cy λwh=>∃sds ws j,wh= .flow sds ws j)):=by
 refine F.cS sS λcdv A outer s H vs Q E c h=>?_
 ·obtain⟨v,u,e,i,k⟩:=h;subst e;have d:=c.mono (j:=1) (by decide);have m:=c.mono (j:=2) (by decide);have o:=c.mono (j:=3) (by decide);have l:=c.mono (j:=4) (by decide)
  refine⟨_,ah (aQ (cZ (bY (aB dI (pv 1) (aU (v:= .int 12) (by rfl) I.cFLOW_PARTS ⟨_,rfl⟩) (aG _)) (bS (bH (pq G d O (aa (pv 0) (aa ag ab)))))).pt) (ai (au c_)) aC)
   (ai (au (a_ (pq L m x (aa (ax av (pv 0) ag (λ_ _=>rfl)) (aa (pv 1) ab))) (a_ (pq C l D (aa (ax av (pv 0) ag (λ_ _=>rfl)) ab)) (bN (pq R o p (aa (ax av (pv 0) ag (λ_ _=>rfl)) ab))))))),?_⟩
  try rw[bZ]
  obtain⟨q,wh,n,rfl,rfl,b,g,i,sds,ws,j,rfl⟩:=i;obtain⟨t,s,b,M,r⟩:=b;obtain⟨h0,h1,h2,B,J,y⟩:=i;refine eA (eJ (pL (Dy (v_var rfl) d_ (by lia))) (cK (mK (v_var rfl) d_ λ_ z=>⟨q,_,rfl,rfl,z _ _ b⟩))) λH1 s1=>?_;have a:=s1 _ _ b;exact y_ret (bU (mK (dq (j:=0) (v_var rfl) a rfl) (v_var rfl) λ_ z=>⟨t,sds,n,rfl,rfl,z _ _ (s1 _ _ M),h1,h0,h2⟩) (bU (kb (dq (j:=1) (v_var rfl) a rfl) λ_ z=>⟨s,ws,rfl,(r.keep (KT.same s1)).keep (KT.same z),g.2.1,B⟩) (kb (dq (j:=2) (v_var rfl) a rfl) λ_ _=>⟨j,rfl,J,y⟩))) (af.refl _) λH2 s2=>k H2 (af.trans s1 s2)
abbrev vp:List Str:=Zd
theorem tF:ay vp Zd (aj hH):=cL
theorem pR(F:aZ K "is_leaf_what" "is_leaf_what" hH f fd)(N:aR mg)(y:aw P w K mg base aO 1 f1 d1 Zc (dn jg))(x:Cq K mg d1 f1 Zc "is_tuple_of")(o:aw P w K mg base aO 3 f2 d2 Za (cQ (CN 1000000)))(m:Cq K mg d2 f2 Za "is_size"):aw P w K mg base aO 4 f fd Zd (dn (Cy λwh=>∃a b,wh= .leaf a b)):=by
 refine F.cS tF λcdv A outer s H vs Q E p h=>?_
 ·obtain⟨v,u,e,l,k⟩:=h;subst e;have i:=p.mono (j:=1) (by decide);have c:=p.mono (j:=3) (by decide);refine⟨_,ai (au (a_ (cy bD (pv 1) ag (aG _)) (a_ (pq y i x (aa (pv 0) (aa ag ab))) (a_ (pq o c m (aa (ax av (pv 0) ag (λ_ _=>rfl)) ab)) (bN (pq o c m (aa (ax av (pv 0) ag (λ_ _=>rfl)) ab))))))),?_⟩
  try rw[bZ]
  obtain⟨q,wh,n,rfl,rfl,d,g,l,a,b,rfl⟩:=l;obtain⟨rfl,⟨h1,h2⟩,t,r⟩:=l;have d:H q=some (.tup [.int a,.int b]):=d;exact y_ret (bU (y_eq (v_var rfl) d_ rfl) (bU (mK (v_var rfl) d_ λ_ z=>⟨q,_,rfl,rfl,z _ _ d⟩) (bU (kb (dq (j:=0) (v_var rfl) d rfl) λ_ _=>⟨a,rfl,h1,h2⟩) (kb (dq (j:=1) (v_var rfl) d rfl) λ_ _=>⟨b,rfl,t,r⟩)))) (af.refl _) k
abbrev se:List Str:=Zd
theorem qq:ay se Zd (aj gh):=cL
theorem nX(y:kN K mg tk ad)(F:aZ K "is_lined_what" "is_lined_what" gh f fd)(N:aR mg)(I:aw P w K mg base aO 1 f1 d1 Zc (dn jg))(D:Cq K mg d1 f1 Zc "is_tuple_of")(C:aw P w K mg base aO 3 f2 d2 Za (cQ (CN 1000)))(p:Cq K mg d2 f2 Za "is_gap")(t:aw P w K mg base aO 1 f3 d3 Za (cQ (ER ["start","end","mid","mid2"])))(x:Cq K mg d3 f3 Za "is_align")(G:aw P w K mg base aO 1 f4 d4 Za (cQ (ER ["left","right"])))(o:Cq K mg d4 f4 Za "is_side"):aw P w K mg base aO 4 f fd Zd (dn (Cy λwh=>∃k g al sd,wh= .lined k g al sd)):=by
 refine F.cS qq λcdv A outer s H vs Q E m h=>?_
 ·obtain⟨v,u,e,d,k⟩:=h;subst e;have a:=m.mono (j:=1) (by decide);have i:=m.mono (j:=3) (by decide)
  refine⟨_,ah (aQ (cZ (bY (aB dI (pv 1) (aU (v:= .int 20) (by rfl) y.cLINED_PARTS ⟨_,rfl⟩) (aG _)) (bS (bH (pq I a D (aa (pv 0) (aa ag ab)))))).pt) (ai (au c_)) aC)
   (ai (au (a_ (pq C i p (aa (ax av (pv 0) ag (λ_ _=>rfl)) ab)) (a_ (pq t a x (aa (ax av (pv 0) ag (λ_ _=>rfl)) ab)) (bN (pq G a o (aa (ax av (pv 0) ag (λ_ _=>rfl)) ab))))))),?_⟩
  try rw[bZ]
  obtain⟨q,wh,n,rfl,rfl,c,g,d,J,l,al,sd,rfl⟩:=d;obtain⟨h0,⟨h1,h2⟩,r,B⟩:=d;have c:H q=some (.tup [.int l,.str al,.str sd]):=c;refine eA (eJ (pL (Dy (v_var rfl) d_ (by lia))) (cK (mK (v_var rfl) d_ λ_ z=>⟨q,_,rfl,rfl,z _ _ c⟩))) λH1 s1=>?_;have b:=s1 _ _ c;exact y_ret (bU (kb (dq (j:=0) (v_var rfl) b rfl) λ_ _=>⟨l,rfl,h1,h2⟩) (bU (kb (dq (j:=1) (v_var rfl) b rfl) λ_ _=>⟨al,rfl,by simpa using r⟩) (kb (dq (j:=2) (v_var rfl) b rfl) λ_ _=>⟨sd,rfl,by rcases B with rfl|rfl<;>decide +kernel⟩))) (af.refl _) λH2 s2=>k H2 (af.trans s1 s2)
abbrev FO:List Str:=Zv
theorem Ef:ay FO Zv (aj pz):=cL
theorem Au(t:kN K mg tk ad)(F:aZ K "is_span" "is_span" pz f fd)(N:aR mg)(r:aw P w K mg base aO 1 f1 d1 Zc (dn jg))(q:Cq K mg d1 f1 Zc "is_tuple_of")(i:aw P w K mg base aO 2 f2 d2 Zg (mj sP))(g:Cq K mg d2 f2 Zg "is_between"):aw P w K mg base aO 3 f fd Zv (dn HY):=by
 refine F.cS Ef λcdv A outer s H vs Q E l h=>?_
 ·obtain⟨v,u,e,n,k⟩:=h;subst e;have d:=l.mono (j:=1) (by decide);have b:=l.mono (j:=2) (by decide);refine⟨_,ai (au (a_ (pq r d q (aa (pv 0) (aa ag ab))) (a_ (pq i b g (aa (ax av (pv 0) ag (λ_ _=>rfl)) (aa ag (aa (pv 1) ab)))) (bN (pq i b g (aa (ax av (pv 0) ag (λ_ _=>rfl)) (aa ag (aa (aU (v:= .int 12) (by rfl) t.cSPAN_MOST ⟨_,rfl⟩) ab)))))))),?_⟩
  try rw[bZ]
  obtain⟨a,p,c,rfl,rfl,ha,⟨h1,h2⟩,o,m⟩:=n;exact y_ret (bU (mK (v_var rfl) d_ λ_ s=>⟨a,_,rfl,rfl,s _ _ ha⟩) (bU (zk (dq (j:=0) (v_var rfl) ha rfl) d_ (v_var rfl) λ_ _=>⟨_,_,_,rfl,rfl,rfl,h1,h2⟩) (zk (dq (j:=1) (v_var rfl) ha rfl) d_ d_ λ_ _=>⟨_,_,_,rfl,rfl,rfl,o,m⟩))) (af.refl _) k
abbrev kr:List Str:=Zd
theorem qc:ay kr Zd (aj eN):=cL
theorem oe(G:kN K mg tk ad)(F:aZ K "is_table_what" "is_table_what" eN f fd)(N:aR mg)(L:aw P w K mg base aO 1 f1 d1 Zc (dn jg))(I:Cq K mg d1 f1 Zc "is_tuple_of")(G2:aw P w K mg base aO 2 f2 d2 Zg (mj sP))(S:Cq K mg d2 f2 Zg "is_between")(V:aw P w K mg base aO 3 f3 d3 Za (cQ (CN 1000)))(W:Cq K mg d3 f3 Za "is_gap")(G4:aw P w K mg base aO 1 f4 d4 Za (cQ (ER ["left","right"])))(M:Cq K mg d4 f4 Za "is_side")(G5:aw P w K mg base aO 3 f5 d5 Zv (dn HY))(R:Cq K mg d5 f5 Zv "is_span"):aw P w K mg base aO 4 f fd Zd (dn (Cy λwh=>∃c g sd sps,wh= .table c g sd sps)):=by
 refine F.cS qc λcdv A outer s H vs Q E p h=>?_
 ·obtain⟨v,u,e,B,k⟩:=h;subst e;have d:=p.mono (j:=1) (by decide);have D:=p.mono (j:=2) (by decide);have t:=p.mono (j:=3) (by decide)
  refine⟨_,ah (aQ (cZ (bY (aB dI (pv 1) (aU (v:= .int 40) (by rfl) G.cTABLE_PARTS ⟨_,rfl⟩) (aG _)) (bS (bH (pq L d I (aa (pv 0) (aa ag ab)))))).pt) (ai (au c_)) aC)
   (ah (aQ (cZ (bY (bH (pq G2 D S (aa (ax av (pv 0) ag (λ_ _=>rfl)) (aa ag (aa (aU (v:= .int 12) (by rfl) G.cTABLE_COLUMNS ⟨_,rfl⟩) ab))))) (bY (bH (pq V t W (aa (ax av (pv 0) ag (λ_ _=>rfl)) ab))) (bS (bH (pq G4 d M (aa (ax av (pv 0) ag (λ_ _=>rfl)) ab)))))).pt) (ai (au c_)) aC)
   (ai (au (a_ (pq L d I (aa (ax av (pv 0) ag (λ_ _=>rfl)) (aa (pv 1) ab))) (bN (aF (dh rfl) (by rfl) N.all MH (aa (b_ (ba (fs:=aj eN) (N:=kr) rfl rfl (by decide +kernel)) rfl (eG (ax av (pv 0) ag (λ_ _=>rfl))) (λ_ _ _ _ _=>bB) (λ_ _ _ _ _=>(pq G5 t R (aa (pv 0) (aa (ax (r:=A2 K) av (pv 1) ag (λ_ _=>rfl)) ab))))) ab))))))),?_⟩
  try rw[bZ]
  obtain⟨q,wh,n,rfl,rfl,o,g,B,c,Y,sd,sps,rfl⟩:=B;obtain⟨s,as,o,O,p⟩:=o;obtain⟨h0,⟨h1,h2⟩,⟨U,Z⟩,T,X,h7⟩:=B;have hl:=p.1;rw[be]at hl;refine eA (eJ (pL (Dy (v_var rfl) d_ (by lia))) (cK (mK (v_var rfl) d_ λ_ z=>⟨q,_,rfl,rfl,z _ _ o⟩))) λH1 s1=>?_;have a:=s1 _ _ o;refine eA (eJ (cK (zk (dq (j:=0) (v_var rfl) a rfl) d_ d_ λ_ _=>⟨_,_,_,rfl,rfl,rfl,h1,h2⟩)) (eJ (cK (kb (dq (j:=1) (v_var rfl) a rfl) λ_ _=>⟨Y,rfl,U,Z⟩)) (cK (kb (dq (j:=2) (v_var rfl) a rfl) λ_ _=>⟨sd,rfl,by rcases T with rfl|rfl<;>decide +kernel⟩)))) λH2 s2=>?_;have m:=s2 _ _ a;have l:=af.trans s1 s2;have y:=l _ _ O;refine y_ret (bU (mK (dq (j:=3) (v_var rfl) m rfl) (v_var rfl) λ_ z=>⟨s,_,rfl,by rw[be,hl,X],z _ _ y⟩) (qV (dq (j:=3) (v_var rfl) m rfl) y (by rw[be];lia) λx hx=>?_)) (af.refl _) λH3 s3=>k H3 (af.trans l s3);obtain⟨i,hi⟩:=Nf hx;rw[B7]at hi;obtain⟨b,J,rfl⟩:=Option.map_eq_some_iff.mp hi
  have C:i<sps.length:=by rw[<-hl];exact bR J
  have e:=AC C;have o:=p.2 i b _ J (by rw[B7,e];rfl);exact mK (v_var rfl) (dq (j:=0) (v_var rfl) m rfl) λ_ z=>⟨b,sps[i],c,rfl,rfl,z _ _ (l _ _ o),h7 _ (Fk e)⟩
abbrev zQ:List Str:=Za
theorem DL:ay zQ Za (aj kT):=cL
theorem zP(j:kN K mg tk ad)(F:aZ K "is_name" "is_name" kT f fd)(N:aR mg):aw P w K mg base aO 1 f fd Za (cQ K8):=by
 refine F.cS DL λcdv A outer s H vs Q E l h=>?_
 ·obtain⟨v,e,d,k⟩:=h;subst e;refine⟨_,ai (au (a_ (aF bh (by rfl) N.inst KM (aa (pv 0) (aa (cC (v:= .ty "str") (by rfl) N.str FM rfl (by decide)) ab))) (a_ (eY dI dI ag (aF cT (by rfl) N.len Md (aa (pv 0) ab)) (aU (v:= .int 8) (by rfl) j.cNAME_LONGEST ⟨_,rfl⟩)) (bN (aF (dh rfl) (by rfl) N.all MH (aa (b_ (ba (fs:=aj kT) (N:=zQ) rfl rfl (by decide +kernel)) rfl (vC (pv 0)) (λ_ _ _ _ _=>bB) (λ_ _ _ _ _=>(eY qQ qQ aq (pv 0) aq))) ab)))))),?_⟩
  try rw[bZ]
  obtain⟨x,rfl,h1,h2,a⟩:=d;refine y_ret (bU (tK rfl) (bU (ox d_ (Cn (v_var rfl) cV) d_ (by lia) (by lia)) (Cs (v_var rfl) cV λc b=>?_))) (af.refl _) k
  have g:∀i:Fin 26,(!decide ((⟨#[97+i.val]⟩:Str).cps.toList<("a":Str).cps.toList))=true/\(!decide (("z":Str).cps.toList<(⟨#[97+i.val]⟩:Str).cps.toList))=true:=by decide +kernel
  have z:=g ⟨c-97,by have :=a c b;lia⟩;rw[show 97+(c-97)=c by have :=a c b;lia]at z;exactλH1 Q s k=>⟨_,rfl,_,_,rfl,rfl,_,rfl,by rw[z.1];exact di ⟨_,_,rfl,rfl,by rw[z.2];exact k H1 (af.refl _)⟩⟩
abbrev FE:List Str:=Zw
theorem EA:ay FE Zw (aj qK):=cL
theorem Cg(p:kN K mg tk ad)(F:aZ K "is_what" "is_what" qK f fd)(N:aR mg)(V:aw P w K mg base aO 4 f1 d1 Zd (dn (Cy λwh=>∃k g al sd,wh= .lined k g al sd)))(S:Cq K mg d1 f1 Zd "is_lined_what")(R:aw P w K mg base aO 4 f2 d2 Zd (dn (Cy λwh=>∃a b,wh= .leaf a b)))(I:Cq K mg d2 f2 Zd "is_leaf_what")(J:aw P w K mg base aO 4 f3 d3 Zd (dn (Cy λwh=>∃c g sd sps,wh= .table c g sd sps)))(L:Cq K mg d3 f3 Zd "is_table_what")(T:aw P w K mg base aO 5 f4 d4 Zd (dn (Cy λwh=>∃ws j,wh= .words ws j)))(C:Cq K mg d4 f4 Zd "is_words_what")(U:aw P w K mg base aO 5 f5 d5 Zd (dn (Cy λwh=>∃sds ws j,wh= .flow sds ws j)))(G:Cq K mg d5 f5 Zd "is_flow_what")(M:aw P w K mg base aO 5 f6 d6 Zd (dn E9))(O:Cq K mg d6 f6 Zd "is_over_what"):aw P w K mg base aO 6 f fd Zw (mj E2):=by
 refine F.cS EA λcdv A outer s H vs Q E B h=>?_
 ·obtain⟨v,u,x,e,l,k⟩:=h;subst e;have o:=B.mono (j:=4) (by decide);have m:=B.mono (j:=5) (by decide)
  refine⟨_,ah (aQ (aB (r:=uK K false) cu (pv 0) (aU (v:= .ref (ad 2)) (by rfl) p.tLINED rfl) (by rfl)) (ai (au (pq V o S (aa (pv 1) (aa (pv 2) ab))))) aC)
   (ah (aQ (aB bD (pv 0) aq (aG _)) (ai (au (pq R o I (aa (pv 1) (aa (pv 2) ab))))) aC)
   (ah (aQ (aB bD (pv 0) aq (aG _)) (ai (au (pq J o L (aa (pv 1) (aa (pv 2) ab))))) aC)
   (ah (aQ (aB bD (pv 0) aq (aG _)) (ai (au (pq T m C (aa (pv 1) (aa (pv 2) ab))))) aC)
   (ah (aQ (aB bD (pv 0) aq (aG _)) (ai (au (pq U m G (aa (pv 1) (aa (pv 2) ab))))) aC)
   (ai (au (a_ (cy bD (pv 0) aq (aG _)) (bN (pq M m O (aa (pv 1) (aa (pv 2) ab))))))))))),?_⟩
  try rw[bZ]
  obtain⟨q,wh,n,rfl,rfl,rfl,t,g,l⟩:=l
  cases wh with
  |lined D y al sd=>
   refine ar λi d=>?_;refine⟨_,rfl,_,_,rfl,.inr (p.sLINED H),rfl,by decide,_,rfl,?_⟩
   show if gB (.str (aX.lined D y al sd).kd) [.str "row",.str "column",.str "wrap"]=true then _ else _
   rw[zD];exact di (y_ret (mK (v_var rfl) (v_var rfl) λ_ z=>⟨q,_,n,rfl,rfl,cJ.keep (KT.same z) t,g,l,_,_,_,_,rfl⟩) (af.refl _) k)
  |leaf a b=>
   refine ar λi d=>?_;refine⟨_,rfl,_,_,rfl,.inr (p.sLINED H),rfl,by decide,_,rfl,aN (by kernel_rfl) ?_⟩;refine d _ _ (ar λi d=>?_);refine⟨_,rfl,rfl,_,rfl,cF (by kernel_rfl) ?_⟩;exact y_ret (mK (v_var rfl) (v_var rfl) λ_ z=>⟨q,_,n,rfl,rfl,cJ.keep (KT.same z) t,g,l,_,_,rfl⟩) (af.refl _) k
  |table c y sd sps=>
   refine ar λi d=>?_;refine⟨_,rfl,_,_,rfl,.inr (p.sLINED H),rfl,by decide,_,rfl,aN (by kernel_rfl) ?_⟩;refine d _ _ (ar λi d=>?_);refine⟨_,rfl,rfl,_,rfl,aN (by kernel_rfl) ?_⟩;refine d _ _ (ar λi d=>?_);refine⟨_,rfl,rfl,_,rfl,cF (by kernel_rfl) ?_⟩;exact y_ret (mK (v_var rfl) (v_var rfl) λ_ z=>⟨q,_,n,rfl,rfl,cJ.keep (KT.same z) t,g,l,_,_,_,_,rfl⟩) (af.refl _) k
  |words ws j=>
   refine ar λi d=>?_;refine⟨_,rfl,_,_,rfl,.inr (p.sLINED H),rfl,by decide,_,rfl,aN (by kernel_rfl) ?_⟩;refine d _ _ (ar λi d=>?_);refine⟨_,rfl,rfl,_,rfl,aN (by kernel_rfl) ?_⟩;refine d _ _ (ar λi d=>?_);refine⟨_,rfl,rfl,_,rfl,aN (by kernel_rfl) ?_⟩;refine d _ _ (ar λi d=>?_);refine⟨_,rfl,rfl,_,rfl,cF (by kernel_rfl) ?_⟩;exact y_ret (mK (v_var rfl) (v_var rfl) λ_ z=>⟨q,_,n,rfl,rfl,cJ.keep (KT.same z) t,g,l,_,_,rfl⟩) (af.refl _) k
  |flow sds ws j=>
   refine ar λi d=>?_;refine⟨_,rfl,_,_,rfl,.inr (p.sLINED H),rfl,by decide,_,rfl,aN (by kernel_rfl) ?_⟩;refine d _ _ (ar λi d=>?_);refine⟨_,rfl,rfl,_,rfl,aN (by kernel_rfl) ?_⟩;refine d _ _ (ar λi d=>?_);refine⟨_,rfl,rfl,_,rfl,aN (by kernel_rfl) ?_⟩;refine d _ _ (ar λi d=>?_);refine⟨_,rfl,rfl,_,rfl,aN (by kernel_rfl) ?_⟩;refine d _ _ (ar λi d=>?_);refine⟨_,rfl,rfl,_,rfl,cF (by kernel_rfl) ?_⟩;exact y_ret (mK (v_var rfl) (v_var rfl) λ_ z=>⟨q,_,n,rfl,rfl,cJ.keep (KT.same z) t,g,l,_,_,_,rfl⟩) (af.refl _) k
  |over ps=>
   refine ar λi d=>?_;refine⟨_,rfl,_,_,rfl,.inr (p.sLINED H),rfl,by decide,_,rfl,aN (by kernel_rfl) ?_⟩;refine d _ _ (ar λi d=>?_);refine⟨_,rfl,rfl,_,rfl,aN (by kernel_rfl) ?_⟩;refine d _ _ (ar λi d=>?_);refine⟨_,rfl,rfl,_,rfl,aN (by kernel_rfl) ?_⟩;refine d _ _ (ar λi d=>?_);refine⟨_,rfl,rfl,_,rfl,aN (by kernel_rfl) ?_⟩;refine d _ _ (ar λi d=>?_);refine⟨_,rfl,rfl,_,rfl,aN (by kernel_rfl) ?_⟩;refine d _ _ ?_;clear d i;exact y_ret (bU (y_eq (v_var rfl) d_ rfl) (mK (v_var rfl) (v_var rfl) λ_ z=>⟨q,ps,n,rfl,rfl,cJ.keep (KT.same z) t,l⟩)) (af.refl _) k
abbrev HV:List Str:=Za
theorem HA:ay HV Za (aj uS):=cL
theorem Dc{f7 m u:B3}{d7 x n:M9}(F:aZ K "is_box" "is_box" uS f fd)(N:aR mg)(G1:aw P w K mg base aO 1 f1 d1 Zc (dn jg))(Y:Cq K mg d1 f1 Zc "is_tuple_of")(X:aw P w K mg base aO 1 f2 d2 Za (cQ K8))(I:Cq K mg d2 f2 Za "is_name")(O:aw P w K mg base aO 1 f3 d3 Zb (B09P.dM 1))(S:Cq K mg d3 f3 Zb "name_of")(Z:aw P w K mg base aO 5 f4 d4 Za (cQ Jl))(B:Cq K mg d4 f4 Za "is_own")(G5:aw P w K mg base aO 1 f5 d5 Zb (B09P.dM 2))(C:Cq K mg d5 f5 Zb "own_of")(r:aw P w K mg base aO 1 f6 d6 Zb (B09P.dM 4))(t:Cq K mg d6 f6 Zb "parts_of")(y:aw P w K mg base aO 6 f7 d7 Zw (mj E2))(U:Cq K mg d7 f7 Zw "is_what")(W:aw P w K mg base aO 1 m x Zb (B09P.dM 0))(J8:Cq K mg x m Zb "kind_of")(R:aw P w K mg base aO 1 u n Zb (B09P.dM 3))(J:Cq K mg n u Zb "what_of"):aw P w K mg base aO 7 f fd Za (cQ EF):=by
 refine F.cS HA λcdv A outer s H vs Q E l h=>?_
 ·obtain⟨v,e,D,k⟩:=h;subst e;have b:=l.mono (j:=1) (by decide);have d:=l.mono (j:=5) (by decide);have i:=l.mono (j:=6) (by decide)
  refine⟨_,ah (aQ (cZ (bY (bH (pq G1 b Y (aa (pv 0) (aa ag ab)))) (bY (bH (pq X b I (aa (pq O b S (aa (pv 0) ab)) ab))) (bS (bH (pq Z d B (aa (pq G5 b C (aa (pv 0) ab)) ab)))))).pt) (ai (au c_)) aC)
   (ai (au (a_ (aF bh (by rfl) N.inst KM (aa (pq r b t (aa (pv 0) ab)) (aa (cC (v:= .ty "tuple") (by rfl) N.tuple LR rfl (by decide)) ab))) (bN (pq y i U (aa (pq W b J8 (aa (pv 0) ab)) (aa (pq R b J (aa (pv 0) ab)) (aa (aF br (by rfl) N.len Md (aa (pq r b t (aa (pv 0) ab)) ab)) ab)))))))),?_⟩
  try rw[bZ]
  obtain⟨a,bd,ts,rfl,⟨o,q,p,ha,L,hq,T⟩,g,G,V,M⟩:=D;refine eA (eJ (cK (mK (v_var rfl) d_ λ_ z=>⟨a,_,rfl,rfl,z _ _ ha⟩)) (eJ (cK (kb (vm (v_var rfl) ha rfl) λ_ _=>⟨_,rfl,M⟩)) (cK (kb (vm (v_var rfl) ha rfl) λ_ z=>⟨o,bd.own,rfl,L.keep (KT.same z),G⟩)))) λH1 s1=>?_;have c:=s1 _ _ ha;have hp1:=s1 _ _ T;exact y_ret (bU (λH2 Q2 s2 k2=>vm (xs:=[.str bd.wh.kd,.str bd.nm,.ref o,.ref q,.ref p]) (v_var rfl) c rfl H2 _ s2 ⟨_,"tuple",_,_,rfl,.tup (s2 _ _ hp1),rfl,k2 H2 (af.refl _)⟩) (zk (vm (v_var rfl) c rfl) (vm (v_var rfl) c rfl) (AU (vm (v_var rfl) c rfl) hp1) λ_ z=>⟨q,bd.wh,ts.length,rfl,rfl,by rw[be],(hq.keep (KT.same s1)).keep (KT.same z),g,V⟩)) (af.refl _) λH2 s2=>k H2 (af.trans s1 s2)
end
theorem rZ:∀(k m:Nat),m<10^(k+1)->(Od 10 m).length<=k+1
 |0,m,h=>by
  rw[Pf (by simpa using h)];exact B6 _
 |k+1,m,h=>by
  by_cases q:m<10
  ·rw[Pf q];exact SS (L5 _)
  ·have t:Od 10 (m/10)++Od 10 (m%10)=Od 10 (10*(m/10)+m%10):=Nat.toDigits_append_toDigits (by decide) (by lia) (by lia);rw[Nat.div_add_mod]at t;have h1:=rZ k (m/10) (by rw[Nat.pow_succ]at h;lia);rw[<-t,B1,Pf (show m%10<10 by lia)];show _+1<=_;exact Hu
theorem vB(m:Nat):(nS (m:Int)).cps.toList=(Od 10 m).map Char.toNat:=PySem.W.KIN.signs_num m
theorem pj(h:m<10000000):1<=(nS (m:Int)).length/\(nS (m:Int)).length<=7:=by
 have e:(nS (m:Int)).length=(Od 10 m).length:=by
  show(nS (m:Int)).cps.size=_;rw[<-LY,vB,be]
 have h1:=PySem.toDigits_len_ge 10 m;have h2:=rZ 6 m h
 lia
theorem jN(m:Nat):∀c∈(nS (m:Int)).cps.toList,48<=c/\c<=57:=λc b=>by
 rw[vB]at b;obtain⟨ch,a,e⟩:=List.mem_map.mp b;have r:=PyProof.Rows.digit_range (QQ (by decide) (by decide) a);rw[<-e];exact r
theorem uA(m:Nat):(nS (-((m+1:Nat):Int))).cps.toList=45::(nS ((m+1:Nat):Int)).cps.toList:=by
 unfold nS;rw[dj,dj];have e:toString (-((m+1:Nat):Int))="-"++toString ((m+1:Nat):Int):=rfl;rw[e,PJ,Dk];rfl
theorem BH{n:Int}(h:n.natAbs<10000000):PySem.intText? (nS n)=some n:=by
 by_cases q:0<=n
 ·exact PySem.W.KIN.num_reads q (by lia)
 ·obtain⟨m,rfl⟩:∃m:Nat,n= -((m+1:Nat):Int):=⟨n.natAbs-1,by lia⟩;have hl:=pj (m:=m+1) (by lia);have hx:=uA m
  have len:(nS (-((m+1:Nat):Int))).length<=8:=by
   show(nS (-((m+1:Nat):Int))).cps.size<=8;rw[<-LY,hx,B8,LY];have :=hl.2;show(nS ((m+1:Nat):Int)).length+1<=8;exact Hu
  have e:=PySem.intText_neg hx (jN (m+1)) (λz=>by
   have :(nS ((m+1:Nat):Int)).length=0:=by
    show(nS ((m+1:Nat):Int)).cps.size=0;rw[<-LY,z];rfl
   lia) cV
  rw[e,vB,PySem.W.KIN.val_back]
def FR(c:Nat):Bool:=(!decide ((⟨#[c]⟩:Str).cps.toList<("0":Str).cps.toList))&& !decide (("9":Str).cps.toList<(⟨#[c]⟩:Str).cps.toList)
theorem Gs(h:48<=c/\c<=57):FR c=true:=by
 have :∀i:Fin 10,FR (48+i.val)=true:=by decide +kernel
 have z:=this ⟨c-48,by lia⟩;rw[show 48+(c-48)=c by lia]at z;exact z
theorem uj{n:Int}:(decide (0+("-":Str).length<=(nS n).length)&&Builtin.Str.subAt (nS n) "-" 0)=decide (n<0):=by
 rw[StrLaws.subAt_eq];by_cases q:0<=n
 ·rw[decide_eq_false (show¬n<0 by lia)];obtain⟨m,rfl⟩:=Int.eq_ofNat_of_zero_le q;have hd:=jN m
  have :(((nS (m:Int)).cps.toList.drop 0).take ("-":Str).length==("-":Str).cps.toList)=false:=by
   rw[OU,show("-":Str).length=1 from rfl,show("-":Str).cps.toList=[45]from rfl]
   cases e:(nS (m:Int)).cps.toList with
   |nil=>rfl
   |cons c r=>
    have :=hd c (by rw[e];exact Do);show([c]==[45])=false;simp
    lia
  rw[this,Bool.and_false]
 ·obtain⟨m,rfl⟩:∃m:Nat,n= -((m+1:Nat):Int):=⟨n.natAbs-1,by lia⟩;have hx:=uA m
  have hl:1<=(nS (-((m+1:Nat):Int))).length:=by
   show 1<=(nS (-((m+1:Nat):Int))).cps.size;rw[<-LY,hx,B8];exact Cu
  rw[hx,decide_eq_true (show 0+("-":Str).length<=(nS (-((m+1:Nat):Int))).length from hl),decide_eq_true (show -((m+1:Nat):Int)<0 by lia)];rfl
theorem zM{a b:Nat}(c:a<=b)(d:b<=x.length):(gT x (some (a:Int)) (some (b:Int))).cps.toList=(x.cps.toList.drop a).take (b-a):=by
 unfold gT;have e:=StrLaws.sliced_plain x c d;by_cases q:((Mj (some (a:Int)) (some (b:Int)) 1 x.length).length==x.length)=true
 ·rw[if_pos q];rw[QD c d,be,MQ]at q;have z:=eq_of_beq q
  have f:a=0:=by lia
  have bl:b=x.length:=by lia
  subst f bl;rw[OU,Nat.sub_zero];exact(MF (by rw[LY];exact B6 _)).symm
 ·rw[if_neg q,e]
theorem Hd{a:Nat}(ha:a<=x.length):(gT x (some (a:Int)) none).cps.toList=x.cps.toList.drop a:=by
 have e:gT x (some (a:Int)) none=gT x (some (a:Int)) (some (x.length:Int)):=by
  unfold gT;rw[StrLaws.sliceIdx_none_hi]
 rw[e,zM ha (B6 _)];exact MF (by rw[MX,LY];exact B6 _)
theorem Du{n:Int}(h:n<0):gT (nS n) (some 1) none=nS (n.natAbs:Int):=by
 obtain⟨m,rfl⟩:∃m:Nat,n= -((m+1:Nat):Int):=⟨n.natAbs-1,by lia⟩;have hx:=uA m;refine kQ ?_
 rw[show(some 1:Option Int)=some ((1:Nat):Int)from rfl,Hd (by
  show 1<=(nS (-((m+1:Nat):Int))).cps.size;rw[<-LY,hx,B8]
  exact Cu),hx,List.drop_one,List.tail_cons,show(-((m+1:Nat):Int)).natAbs=m+1 by lia]
inductive Ei(vs:List V)(H:Hp)(Q:VK):Prop
 |mk (n:Int) (c0:vs=[.str (nS n)]) (c1:n.natAbs<10000000) (c2:∀H':Hp,af H H'->Q (.int n) H')
def kf:Sp:=λvs H Q _=>Ei vs H Q
section
variable{K:mo}
abbrev kn:List Str:=["text","figures"]
theorem jJ:ay kn Ze (aj fm):=cL
theorem oj(q:kN K mg tk ad)(F:aZ K "number_read" "number_read" fm f fd)(N:aR mg):aw P w K mg base aO 1 f fd Ze kf:=by
 refine F.cS jJ λcdv A outer s H vs Q E B h=>?_
 ·obtain⟨n,e,hn,k⟩:=h;subst e
  refine⟨_,ah (aJ (i:=1) jJ.nd rfl (KB rfl) (zF (bH (bV LS PySem.F.slot_str_startswith PySem.F.type_str_startswith nU (pv 0) (aa aq ab))) (hC v_ (pv 0) (jr ag) jq) (pv 0)))
   (ah (aQ (cZ (bY (q_ dI dI ag (aF cT (by rfl) N.len Md (aa (pv 1) ab)) (aU (v:= .int 7) (by rfl) q.cFIGURES_MOST ⟨_,rfl⟩)) (bS (bH (aF (dh rfl) (by rfl) N.all MH (aa (b_ (ba (fs:=aj fm) (N:=kn) rfl rfl (by decide +kernel)) rfl (vC (pv 1)) (λ_ _ _ _ _=>bB) (λ_ _ _ _ _=>(eY qQ qQ aq (pv 0) aq))) ab))))).pt) (ai fc) aC)
   (ai (au (aH p_ (by rfl) N.int PB (aa (pv 0) ab))))),?_⟩
  try rw[bZ]
  have hl:=pj hn
  have g:(nS n).length<=640:=by
   have :=cn (i:=n) CI;exact cV
  refine ar λm b=>?_
  have a:m [some (.str (nS n)),some (.str (nS (n.natAbs:Int)))] H:=b _ _ (by
   clear b m
   have u:(nS (n.natAbs:Int)).cps.toList.length<=7:=by
    rw[LY];exact hl.2
   refine ar λm b=>?_;refine⟨_,rfl,_,rfl,az (by lia),_,_,rfl,rfl,_,rfl,cF (decide_eq_true (by lia)) ?_⟩;refine⟨_,_,rfl,rfl,_,rfl,cF (decide_eq_true (by have :=hl.2;lia)) ?_⟩;refine⟨_,rfl,_,rfl,kY (α:=Nat) (l:=(nS (n.natAbs:Int)).cps.toList) (λc=>V.str ⟨#[c]⟩) (λ_=>true) (λc=> .bl (FR c)) (gA.str _ H) (small cV) (λc H' p _ _ o=>o _ (af.refl _)) (λc H' p _ _ _ o=>?_) λt H1 x s1 h1=>?_⟩
   ·refine⟨_,rfl,_,_,rfl,rfl,_,rfl,gP (λy=>?_) (λy=>?_)⟩
    ·refine⟨_,_,rfl,rfl,?_⟩;have z:=o H' (af.refl _);unfold FR at z;rw[y,Bool.true_and]at z;exact z
    ·have z:=o H' (af.refl _);unfold FR at z;rw[Bool.eq_false_iff.mpr y,Bool.false_and]at z;exact z
   refine⟨t,(nS (n.natAbs:Int)).cps.toList.map FR,rfl,bg.of (by rw[h1,List.filter_eq_self.mpr λ_ _=>rfl,Mm];rfl),?_⟩
   have r:((nS (n.natAbs:Int)).cps.toList.map FR).all id=true:=by
    rw[Pn];exact List.all_eq_true.mpr λc j=>Gs (jN _ c j)
   refine⟨_,rfl,aN (by rw[r];rfl) ?_⟩;refine b _ _ ?_;clear b m
   exact⟨_,rfl,_,n,rfl,g,BH hn,k H1 s1⟩)
  clear b;refine⟨_,rfl,rfl,_,_,rfl,rfl,?_⟩;rw[uj];refine⟨_,rfl,gP (λj=>?_) (λj=>?_)⟩
  ·have d:=of_decide_eq_true j;refine⟨_,rfl,_,rfl,_,rfl,az cV,?_⟩;rw[Du d];exact a
  ·have d:¬n<0:=λz=>j (decide_eq_true z);refine⟨_,rfl,?_⟩;rw[show((n.natAbs:Nat):Int)=n by lia]at a;exact a
end
inductive xU(vs:List V)(H:Hp)(Q:VK):Prop
 |mk (z y:Str) (m:Int) (c0:vs=[.str z,.str y,.int m]) (c1:(y.length==0)=false) (c2:z.length<=10000) (c3:((MV z y).length:Int)=m) (c4:∀(l:B3)(H':Hp),af H H'->H' l=some (.lst ((MV z y).map V.str))->Q (.ref l) H')
def lK:Sp:=λvs H Q _=>xU vs H Q
inductive Cd(K:mo)(vs:List V)(H:Hp)(Q:VK):Prop
 |mk (z y:Str) (a b:Int) (c0:vs=[.str z,.str y]) (c1:(y.length==0)=false) (c2:z.length<=10000) (c3:MV z y=[nS a,nS b]) (c4:a.natAbs<10000000) (c5:b.natAbs<10000000) (c6:∀(v:V)(H':Hp),af H H'->At K H' v (.tup [.int a,.int b])->Q v H')
def kO(K:mo):Sp:=λvs H Q _=>Cd K vs H Q
inductive AE(K:mo)(vs:List V)(H:Hp)(Q:VK):Prop
 |mk (z s1 s2:Str) (a b:Int) (c0:vs=[.str z]) (c1:z.length<=10000) (c2:MV z ","=[s1,nS a,s2,nS b]) (c3:s1.length<=1000) (c4:s2.length<=1000) (c5:a.natAbs<10000000) (c6:b.natAbs<10000000) (c7:∀(v:V)(H':Hp),af H H'->At K H' v (.tup [.tup [.str s1,.int a],.tup [.str s2,.int b]])->Q v H')
def qD(K:mo):Sp:=λvs H Q _=>AE K vs H Q
def fB(ws:List (List Str)):D:= .tup (ws.map λw=> .tup (w.map D.str))
def xW(ws:List (List Str)):Prop:=ws.length<=100/\∀w∈ws,w≠[]/\w.length<=100/\∀x∈w,1<=x.length/\x.length<=100/\32∉x.cps.toList/\124∉x.cps.toList
inductive yp(K:mo)(vs:List V)(H:Hp)(Q:VK):Prop
 |mk (ws:List (List Str)) (c0:vs=[.str (jL ws)]) (c1:xW ws) (c2:(jL ws).length<=10000) (c3:∀(v:V)(H':Hp),af H H'->At K H' v (fB ws)->Q v H')
def lM(K:mo):Sp:=λvs H Q _=>yp K vs H Q
theorem join_eq(y:Str)(ps:List Str):L1 y ps=Mr y ps:=StrLaws.glued_eq_join y ps
theorem zA(ps:List Str)(c:Nat)(b:c≠124)(h:∀x∈ps,c∉x.cps.toList):c∉(L1 "|" ps).cps.toList:=by
 rw[join_eq,join_list]
 induction ps with
 |nil=>exactλz=>nomatch z
 |cons p r a=>
  cases r with
  |nil=>exact h p Do
  |cons q r=>
   intro z;have z:c∈p.cps.toList++(("|":Str).cps.toList++du ("|":Str).cps.toList ((q::r).map λp=>p.cps.toList)):=z
   rcases List.mem_append.mp z with z|z
   ·exact h p Do z
   ·rcases List.mem_append.mp z with z|z
    ·have e:("|":Str).cps.toList=[124]:=rfl;rw[e]at z;exact b (List.mem_singleton.mp z)
    ·exact a (λx hx=>h x (GE _ hx)) z
theorem si(h:xW ws)(a:ws≠[]):MV (jL ws) " "=ws.map (L1 "|"):=by
 unfold jL;rw[join_eq];refine dX (c:=32) (t:=[]) rfl (by decide +kernel) (λe=>a (List.map_eq_nil_iff.mp e)) λp d=>?_;obtain⟨w,b,rfl⟩:=List.mem_map.mp d;exact zA w 32 (by decide) λx hx=>((h.2 w b).2.2 x hx).2.2.1
theorem t_{w:List Str}(a:w≠[])(h:∀x∈w,124∉x.cps.toList):MV (L1 "|" w) "|"=w:=by
 rw[join_eq];exact dX (c:=124) (t:=[]) rfl (by decide +kernel) a h
theorem join_le{ps:List Str}{p:Str}(h:p∈ps):p.length<=(L1 y ps).length:=by
 rw[join_eq,<-dV,<-dV,join_list]
 induction ps with
 |nil=>cases h
 |cons q r a=>
  cases r with
  |nil=>
   rw[List.mem_singleton.mp h];exact B6 _
  |cons b r=>
   show p.cps.toList.length<=(q.cps.toList++(y.cps.toList++du y.cps.toList ((b::r).map λp=>p.cps.toList))).length;rw[B1,B1]
   rcases List.mem_cons.mp h with rfl|h
   ·exact IY
   ·have :=a h
    lia
section
variable{K:mo}
abbrev tT:List Str:=["text","sign","many","fields"]
theorem jI:ay tT Zq (aj hU):=cL
theorem nF(F:aZ K "fields_read" "fields_read" hU f fd)(N:aR mg):aw P w K mg base aO 1 f fd Zq lK:=by
 refine F.cS jI λcdv A outer s H vs Q E j h=>?_
 ·obtain⟨z,y,m,e,d,g,hm,k⟩:=h;subst e
  refine⟨_,ah (aJ (i:=3) jI.nd rfl (KB rfl) (bV LS NN NM gD (pv 0) (aa (pv 1) ab)))
   (ah (aQ (aB fg (aF br (by rfl) N.len Md (aa (pv 3) ab)) (pv 2) (aG _)) (ai fc) aC)
   (ai (au (pv 3)))),?_⟩
  try rw[bZ]
  refine ar λc a=>?_;refine⟨_,rfl,rfl,_,rfl,z,y,rfl,rfl,d,az (by lia),λl hl=>?_⟩;generalize b:upd H l _=H1
  have s1:af H H1:=by rw[<-b];exact af.put (af.refl _) hl
  have h1:H1 l=some (.lst ((MV z y).map V.str)):=by rw[<-b];exact ae
  clear b;refine a _ _ (ar λc a=>?_);refine⟨_,rfl,l,_,rfl,.inl (bg.of h1),_,rfl,rfl,_,rfl,aN (by rw[be,hm,decide_eq_true rfl];rfl) ?_⟩;refine a _ _ ?_;clear a c;exact⟨_,rfl,k l H1 s1 h1⟩
abbrev oZ:List Str:=Zp
theorem uh:ay oZ Zp (aj ik):=cL
theorem sT(F:aZ K "pair_read" "pair_read" ik f fd)(N:aR mg)(I:aw P w K mg base aO 1 f1 d1 Ze kf)(v:Cq K mg d1 f1 Ze "number_read")(q:aw P w K mg base aO 1 f2 d2 Zq lK)(m:Cq K mg d2 f2 Zq "fields_read"):aw P w K mg base aO 2 f fd Zp (kO K):=by
 refine F.cS uh λcdv A outer s H vs Q E G h=>?_
 ·obtain⟨z,y,a,b,e,p,u,g,ha,C,k⟩:=h;subst e;have c:=G.mono (j:=1) (by decide);refine⟨_,ai (au (aH bf (by rfl) N.tuple LR (aa (b_ (ba (fs:=aj ik) (N:=oZ) rfl rfl (by decide +kernel)) rfl (dg (pq q c m (aa (pv 0) (aa (pv 1) (aa ag ab))))) (λ_ _ _ _ _=>bB) (λ_ _ _ _ _=>(pq I c v (aa (pv 0) ab)))) ab))),?_⟩
  try rw[bZ]
  refine⟨_,rfl,_,rfl,z,y,2,rfl,p,u,by rw[g];rfl,λl H1 s1 h1=>?_⟩;rw[g]at h1;refine⟨l,rfl,⟨_,bg.of h1⟩,lq (K:=K) (α:=Int) (l:=[a,b]) (λn=> .str (nS n)) D.int (gA.list (bg.of h1)) (small (by show 2<=100000;decide)) (λx H' o _ _ d=>d _ (af.refl _)) (λx H' o hx s' d=>?_) λB xs H2 J s2 h2 hA=>?_⟩
  ·have hx:x.natAbs<10000000:=by
    simp only[Mz,Ml,or_false]at hx
    rcases hx with rfl|rfl
    ·exact ha
    ·exact C
   exact⟨_,rfl,x,rfl,hx,λH2 s2=>d _ H2 s2 (.int x)⟩
  ·refine⟨B,_,rfl,.inl ⟨bg.of h2,λt r=>?_⟩⟩;have i:af H2 (upd H2 t (.tup xs)):=af.put (af.refl _) r;exact k (.ref t) _ (af.trans s1 (af.trans s2 i)) (ck.tup (hA.same i) ae)
end
theorem sQ{K:mo}(a:X.K=K):dB X (.type "tuple") (λxs H Q=>∃p ys,xs=[.ref p]/\((bg K H p ys/\∀l,H l=none->Q (.ref l) (upd H l (.tup ys)))∨(aT K H p ys/\Q (.ref p) H))):=by
 subst a;exact bf
def vd(K:mo)(σ:St)(H0:Hp)(te:TE)(x:Str):Prop:=∀(H:Hp)(Q:VK),af H0 H->Q (.str x) H->te σ H Q
section
variable{K:mo}{n:Int}
theorem ij(h:vd K σ H0 te x)(hx:x.length<=100000):Ev K σ H0 te (.str x):=λH Q s k=>h H _ s (k _ H (af.refl _) (.str x (az hx)))
theorem fP(h:vd K σ H0 te (nS n))(hn:n.natAbs<10000000):Ev K σ H0 (hP kf [] E (cH te e_)) (.int n):=λH Q s k=>h H _ s ⟨n,rfl,hn,λH' s'=>k _ H' s' (.int n)⟩
theorem kX{ps:List Str}(b:σ[i]? =some (some (.ref l)))(hl:H0 l=some (.lst (ps.map V.str)))(a:ps[j]? =some x):vd K σ H0 (xI (Hi K) (iR i) (tC (.int (j:Int)))) x:=λH Q s q=>⟨_,b,l,_,_,_,rfl,rfl,bg.of (s _ _ hl),aA (by rw[B7,a];rfl),q⟩
end
section
variable{K:mo}
abbrev qa:List Str:=["text","fields"]
theorem iC:ay qa Ze (aj fS):=cL
theorem lC(F:aZ K "anchors_read" "anchors_read" fS f fd)(N:aR mg)(p:aw P w K mg base aO 1 f1 d1 Ze kf)(o:Cq K mg d1 f1 Ze "number_read")(t:aw P w K mg base aO 1 f2 d2 Zq lK)(q:Cq K mg d2 f2 Zq "fields_read"):aw P w K mg base aO 2 f fd Ze (qD K):=by
 refine F.cS iC λcdv A outer s H vs Q E y h=>?_
 ·obtain⟨z,s1,s2,a,b,e,u,m,h1,h2,ha,x,k⟩:=h;subst e;have c:=y.mono (j:=1) (by decide)
  refine⟨_,ah (aJ (i:=1) iC.nd rfl (KB rfl) (pq t c q (aa (pv 0) (aa aq (aa ag ab)))))
   (ai (au (aS (aa (aS (aa (ax bF (pv 1) ag (λ_ _=>rfl)) (aa (pq p c o (aa (ax bF (pv 1) ag (λ_ _=>rfl)) ab)) ab))) (aa (aS (aa (ax bF (pv 1) ag (λ_ _=>rfl)) (aa (pq p c o (aa (ax bF (pv 1) ag (λ_ _=>rfl)) ab)) ab))) ab))))),?_⟩
  try rw[bZ]
  refine ar λr n=>?_;refine⟨_,rfl,z,",",4,rfl,by decide +kernel,u,by rw[m];rfl,λl H1 g hl=>?_⟩;rw[m]at hl;refine n _ _ ?_;clear n r;refine Ev.ret (H:=H1) (d:= .tup [.tup [.str s1,.int a],.tup [.str s2,.int b]]) (f_ (bq (f_ (bq (ij (kX (j:=0) rfl hl rfl) cV) (bq (fP (kX (j:=1) rfl hl rfl) ha) eR)) (by show 2<=100000;decide)) (bq (f_ (bq (ij (kX (j:=2) rfl hl rfl) cV) (bq (fP (kX (j:=3) rfl hl rfl) x) eR)) (by show 2<=100000;decide)) eR)) (by show 2<=100000;decide)) λv H' s' h'=>k v H' (af.trans g s') h'
abbrev mr:List Str:=Ze
theorem rR:ay mr Ze (aj fX):=cL
theorem qk(F:aZ K "words_read" "words_read" fX f fd)(N:aR mg):aw P w K mg base aO 1 f fd Ze (lM K):=by
 refine F.cS rR λcdv A outer s H vs Q E W h=>?_
 ·obtain⟨ws,e,n,hl,k⟩:=h;subst e
  refine⟨_,ah (aQ (aB bD (pv 0) aq (aG _)) (ai (au (aS ab))) aC)
   (ai (au (aH bf (by rfl) N.tuple LR (aa (b_ (ba (fs:=aj fX) (N:=mr) rfl rfl (by decide +kernel)) rfl (dg (bV LS NN NM gD (pv 0) (aa aq ab))) (λ_ _ _ _ _=>bB) (λ_ _ _ _ _=>(aH (sQ (K:=K) rfl) (by rfl) N.tuple LR (aa (qe (K:=K) (r:=Cm) LS NN NM (λ_=>gD) (pv 0) (aa aq ab)) ab)))) ab)))),?_⟩
  try rw[bZ]
  refine ar λL I=>?_
  cases a:ws with
  |nil=>
   subst a;refine⟨_,rfl,rfl,_,rfl,cF (decide_eq_true rfl) ?_⟩;refine⟨(by show 0<=sizeLine;decide),λt i=>?_⟩;exact k (.ref t) _ (af.put (af.refl _) i) (ck.tup ck.nil ae)
  |cons w0 wr=>
   rw[<-a]
   have o:ws≠[]:=by rw[a];exact MZ _ _
   have b:jL ws≠"":=λe=>by
    have h0:=n.2 w0 (by rw[a];exact Do)
    obtain⟨x,hx⟩:∃x,x∈w0:=by
     cases w0 with
     |nil=>exact absurd rfl h0.1
     |cons x _=>exact⟨x,Do⟩
    have h1:=(h0.2.2 x hx).1;have h2:x.length<=(L1 "|" w0).length:=join_le hx;have J:(L1 "|" w0).length<=(jL ws).length:=join_le (M5 (by rw[a];exact Do));rw[e]at J;have T:("":Str).length=0:=rfl
    lia
   refine⟨_,rfl,rfl,_,rfl,aN (decide_eq_false λe=>b (by injection e)) ?_⟩;refine I _ _ ?_;clear I L;have p:=si n o;refine⟨_,rfl,rfl,_,_,rfl,rfl,by decide +kernel,az (by lia),λl v=>?_⟩;rw[p];generalize q:upd H l _=H1
   have s1:af H H1:=by rw[<-q];exact af.put (af.refl _) v
   have h1:H1 l=some (.lst ((ws.map (L1 "|")).map V.str)):=by rw[<-q];exact ae
   clear q;refine⟨l,rfl,⟨_,bg.of h1⟩,lq (K:=K) (α:=List Str) (l:=ws) (λw=> .str (L1 "|" w)) (λw=> .tup (w.map D.str)) (by rw[Mm]at h1;exact gA.list (bg.of h1)) (small (by have :=n.1;exact cV)) (λx H' M _ _ B=>B _ (af.refl _)) (λw H' M g s' B=>?_) λR xs H2 S s2 h2 hA=>?_⟩
   ·obtain⟨n1,U,G⟩:=n.2 w g;have O:(L1 "|" w).length<=(jL ws).length:=join_le (M5 g);refine⟨_,rfl,rfl,_,_,rfl,rfl,by decide +kernel,az (by lia),λl2 C=>?_⟩;rw[t_ n1 λx hx=>(G x hx).2.2.2];have m:af H' (upd H' l2 (.lst (w.map V.str))):=af.put (af.refl _) C;refine⟨l2,_,rfl,.inl ⟨bg.of ae,λt i=>?_⟩⟩;refine B (.ref t) _ (af.trans m (af.put (af.refl _) i)) (ck.tup (xs:=w.map V.str) ⟨by rw[be,be],λj x d c z=>?_⟩ ae);rw[B7]at c z
    cases u:w[j]? with
    |none=>rw[u]at c;cases c
    |some y=>
     rw[u]at c z
     cases c
     cases z
     exact .str y (az (by have :=(G y (Fk u)).2.1;exact cV))
   ·refine⟨R,_,rfl,.inl ⟨bg.of h2,λt i=>?_⟩⟩;have m:af H2 (upd H2 t (.tup xs)):=af.put (af.refl _) i;exact k (.ref t) _ (af.trans s1 (af.trans s2 m)) (ck.tup (hA.same m) ae)
end
def rJ(p:Str×Str):Key×V:=(Mp p.1,V.str p.2)
def Told(H:Hp)(a:B3)(ps:List (Str×Str)):Prop:=H a=some (.dK (ps.map rJ))
theorem Told.same{H H':Hp}{a:B3}{ps:List (Str×Str)}(h:Told H a ps)(s:af H H'):Told H' a ps:=s _ _ h
theorem Told.get{ps:List (Str×Str)}{k v:Str}(h:Told H a ps)(e:lk ps k=some v):gC H a (.str k) (some (.str v)):=by
 have z:gC H a (kV (Mp k)) (cE (ps.map rJ) (Mp k)):=gC.k h;have b:cE (ps.map rJ) (Mp k)=some (.str v):=(uy ps k).trans (by rw[e];rfl);rw[b]at z;exact z
abbrev ji(n:Int):Prop:=n.natAbs<10000000
theorem fG(s:Str)(a b:Int):two s a b=Mr s [nS a,nS b]:=by
 refine nk ?_;rw[join_list];show((nS a).cps++(s.cps++(nS b).cps)).toList=(nS a).cps.toList++(s.cps.toList++(nS b).cps.toList);rw[LX,LX]
theorem h_{t:List Nat}(g:s.cps.toList=c::t)(f:Builtin.Str.strKind s=1)(e:c<45∨(45<c/\c<48)∨57<c)(a b:Int):MV (two s a b) s=[nS a,nS b]:=by
 rw[fG];refine dX g f (MZ _ _) λp d=>?_;simp only[Mz,Ml,or_false]at d
 rcases d with rfl|rfl
 ·exact jm e a
 ·exact jm e b
theorem eu{a:Int}(d:s.length<=10)(ha:ji a)(c:ji b):(two s a b).length<=10000:=by
 have h1:=cn (i:=a) (by have :a.natAbs<10000000:=ha;exact CI);have h2:=cn (i:=b) (by have :b.natAbs<10000000:=c;exact CI)
 have :(two s a b).length=(nS a).length+(s.length+(nS b).length):=by
  show(nS a++(s++nS b)).length=_;rw[B9,B9]
 lia
section
variable{K:mo}{n:Int}
theorem bP{ps:List (Str×Str)}{k:Str}(b:σ[i]? =some (some (.ref a)))(c:Told H0 a ps)(e:lk ps k=some x):vd K σ H0 (EV (iR i) (tC (.str k))) x:=λH Q s q=>⟨_,b,a,_,rfl,(c.same s).get e,q⟩
theorem jk{a:Int}(h:vd K σ H0 te z)(c:(y.length==0)=false)(hz:z.length<=10000)(d:MV z y=[nS a,nS b])(ha:ji a)(e:ji b):Ev K σ H0 (hP (kO K) [] E (cH te (cH (tC (.str y)) e_))) (.tup [.int a,.int b]):=λH Q s k=>h H _ s ⟨z,y,a,b,rfl,c,hz,d,ha,e,k⟩
theorem oq(h:vd K σ H0 te (jL ws))(a:xW ws)(hl:(jL ws).length<=10000):Ev K σ H0 (hP (lM K) [] E (cH te e_)) (fB ws):=λH Q s k=>h H _ s ⟨ws,rfl,a,hl,k⟩
theorem Aw{s1 s2:Str}{a:Int}(h:vd K σ H0 te z)(hz:z.length<=10000)(c:MV z ","=[s1,nS a,s2,nS b])(h1:s1.length<=1000)(h2:s2.length<=1000)(ha:ji a)(d:ji b):Ev K σ H0 (hP (qD K) [] E (cH te e_)) (.tup [.tup [.str s1,.int a],.tup [.str s2,.int b]]):=λH Q s k=>h H _ s ⟨z,s1,s2,a,b,rfl,hz,c,h1,h2,ha,d,k⟩
end
def ra(o:Own):D:= .tup ([.tup [.int o.w0,.int o.w1],.tup [.int o.h0,.int o.h1]]++[.int o.gr,.int o.sh,.int o.rk,.int o.al])
def CJ(ps:List (Str×Str))(o:Own):Prop:=(lk ps "wide"=some (two ".." o.w0 o.w1)/\lk ps "high"=some (two ".." o.h0 o.h1))/\(lk ps "grow"=some (nS o.gr)/\lk ps "shrink"=some (nS o.sh)/\lk ps "rank"=some (nS o.rk)/\lk ps "alike"=some (nS o.al))/\(ji o.w0/\ji o.w1/\ji o.h0/\ji o.h1)/\(ji o.gr/\ji o.sh/\ji o.rk/\ji o.al)
inductive DF(K:mo)(vs:List V)(H:Hp)(Q:VK):Prop
 |mk (d:B3) (ps:List (Str×Str)) (o:Own) (c0:vs=[.ref d]) (c1:Told H d ps) (c2:CJ ps o) (c3:∀(v:V)(H':Hp),af H H'->At K H' v (ra o)->Q v H')
def Bj(K:mo):Sp:=λvs H Q _=>DF K vs H Q
section
variable{K:mo}
abbrev tP:List Str:=["told","numbers"]
theorem oW:ay tP ["told"] (aj gU):=cL
theorem uV(F:aZ K "own_read" "own_read" gU f fd)(N:aR mg)(Z:aw P w K mg base aO 1 f1 d1 Ze kf)(X:Cq K mg d1 f1 Ze "number_read")(L:aw P w K mg base aO 2 f2 d2 Zp (kO K))(D:Cq K mg d2 f2 Zp "pair_read"):aw P w K mg base aO 3 f fd ["told"] (Bj K):=by
 refine F.cS oW λcdv A outer s H vs Q E B h=>?_
 ·obtain⟨d,ps,o,e,M,U,k⟩:=h;subst e;have n:=B.mono (j:=1) (by decide);have c:=B.mono (j:=2) (by decide)
  have C:(A.deeper (Mh "own_read" (aj gU) s.heap.objs.size f cdv)).units+1<Np:=by have :=B.units;lia
  refine⟨_,ah (iM (i:=1) (ba (fs:=aj gU) (N:=tP) rfl rfl (by decide +kernel)) rfl oW.nd rfl (KB rfl) (eG (aS (aa aq (aa aq (aa aq (aa aq ab)))))) (λ_ _ _ _ _=>bB) (λ_ _ _ _ _=>(pq Z n X (aa (cf C (pv 1) (pv 0) (λ_ _=>rfl)) ab))) rfl)
   (ai (au (aE CF (aS (aa (pq L c D (aa (cf C (pv 0) aq (λ_ _=>rfl)) (aa aq ab))) (aa (pq L c D (aa (cf C (pv 0) aq (λ_ _=>rfl)) (aa aq ab))) ab))) (aH bf (by rfl) N.tuple LR (aa (pv 1) ab))))),?_⟩
  try rw[bZ]
  obtain⟨⟨W,V⟩,⟨hg,u,r,ha⟩,⟨b1,O,J,R⟩,⟨c1,c2,c3,c4⟩⟩:=U;refine ar λS G=>?_;refine⟨(by show 4<=sizeLine;decide),λt q=>?_⟩;generalize y:upd H t _=H1
  have s1:af H H1:=by rw[<-y];exact af.put (af.refl _) q
  have h1:H1 t=some (.tup [.str "grow",.str "shrink",.str "rank",.str "alike"]):=by rw[<-y];exact ae
  clear y;refine⟨t,rfl,⟨_,aT.of h1⟩,lq (K:=K) (α:=Str×Int) (l:=[("grow",o.gr),("shrink",o.sh),("rank",o.rk),("alike",o.al)]) (λp=> .str p.1) (λp=> .int p.2) (gA.tup h1) (small (by show 4<=100000;decide)) (λx H' T _ _ z=>z _ (af.refl _)) (λp H' T I s' z=>?_) λY xs H2 hD s2 h2 hA=>?_⟩
  ·have g:lk ps p.1=some (nS p.2)/\ji p.2:=by
    simp only[Mz,Ml,or_false]at I
    rcases I with rfl|rfl|rfl|rfl
    ·exact⟨hg,c1⟩
    ·exact⟨u,c2⟩
    ·exact⟨r,c3⟩
    ·exact⟨ha,c4⟩
   exact⟨_,rfl,_,rfl,d,_,rfl,(M.same (af.trans s1 s')).get g.1,p.2,rfl,g.2,λH2 s2=>z _ H2 s2 (.int _)⟩
  refine G _ _ ?_;clear G S;have b:=af.trans s1 s2;have m:=M.same b;refine Ev.ret (H:=H2) (d:=ra o) (Hr (ds:=[.tup [.int o.w0,.int o.w1],.tup [.int o.h0,.int o.h1]]) (es:=[.int o.gr,.int o.sh,.int o.rk,.int o.al]) (f_ (bq (jk (bP rfl m W) (by decide +kernel) (eu (by decide +kernel) b1 O) (h_ dd (by decide +kernel) (by decide) _ _) b1 O) (bq (jk (bP rfl m V) (by decide +kernel) (eu (by decide +kernel) J R) (h_ dd (by decide +kernel) (by decide) _ _) J R) eR)) (by show 2<=100000;decide)) (gQ (Ey (a:=Y) rfl h2 hA)) (by show 2+4<=100000;decide)) λv H' s' h'=>k v H' (af.trans b s') h'
end
def Gb(p:(Str×Int)×(Str×Int)):D:= .tup [.tup [.str p.1.1,.int p.1.2],.tup [.str p.2.1,.int p.2.2]]
def ko:aX->D
 | .leaf a b=> .tup [.int a,.int b]
 | .lined _ g al sd=> .tup [.int g,.str al,.str sd]
 | .table c g sd sps=> .tup [.int c,.int g,.str sd,.tup (sps.map λp=> .tup [.int p.1,.int p.2])]
 | .words ws j=> .tup [fB ws,.int j]
 | .flow sds ws j=> .tup [.tup (sds.map D.str),fB ws,.int j]
 | .over ps=> .tup (ps.map Gb)
def Ju(H:Hp)(pd:List B3)(pts:List (List (Str×Str))):Prop:=pd.length=pts.length/\∀(i:Nat)(a:B3)(ps:List (Str×Str)),pd[i]? =some a->pts[i]? =some ps->Told H a ps
theorem jK(h1:p.1.1.length<=1000)(h2:p.2.1.length<=1000)(a:ji p.1.2)(b:ji p.2.2):(four p).length<=10000:=by
 have n1:=cn (i:=p.1.2) (by have :p.1.2.natAbs<10000000:=a;exact CI);have c:=cn (i:=p.2.2) (by have :p.2.2.natAbs<10000000:=b;exact CI);have c1:(",":Str).length=1:=rfl;show(p.1.1++(","++(nS p.1.2++(","++(p.2.1++(","++nS p.2.2)))))).length<=10000;rw[B9,B9,B9,B9,B9,B9,c1]
 lia
theorem vE(h1:44∉p.1.1.cps.toList)(h2:44∉p.2.1.cps.toList):MV (four p) ","=[p.1.1,nS p.1.2,p.2.1,nS p.2.2]:=by
 have e:four p=Mr "," [p.1.1,nS p.1.2,p.2.1,nS p.2.2]:=by
  refine nk ?_;rw[join_list];show(p.1.1.cps++((",":Str).cps++((nS p.1.2).cps++((",":Str).cps++(p.2.1.cps++((",":Str).cps++(nS p.2.2).cps)))))).toList=_;rw[LX,LX,LX,LX,LX,LX];rfl
 rw[e];refine dX (c:=44) (t:=[]) rfl (by decide +kernel) (MZ _ _) λq a=>?_;simp only[Mz,Ml,or_false]at a
 rcases a with rfl|rfl|rfl|rfl
 ·exact h1
 ·exact jm (by decide) _
 ·exact h2
 ·exact jm (by decide) _
def vT(ps:List (Str×Str))(pts:List (List (Str×Str))):aX->Prop
 | .leaf a b=>lk ps "wish"=some (two "," a b)/\ji a/\ji b
 | .lined _ g al sd=>lk ps "gap"=some (nS g)/\lk ps "align"=some al/\lk ps "side"=some sd/\ji g/\al.length<=1000/\sd.length<=1000
 | .table c g sd sps=>(lk ps "columns"=some (nS c)/\lk ps "gap"=some (nS g)/\lk ps "side"=some sd)/\(ji c/\ji g/\sd.length<=1000)/\pts.length=sps.length/\∀(i:Nat)(t:List (Str×Str))(p:Int×Int),pts[i]? =some t->sps[i]? =some p->lk t "span"=some (two "," p.1 p.2)/\ji p.1/\ji p.2
 | .words ws j=>(lk ps "text"=some (jL ws)/\lk ps "joint"=some (nS j))/\ji j/\xW ws/\(jL ws).length<=10000
 | .flow sds ws j=>(lk ps "text"=some (jL ws)/\lk ps "joint"=some (nS j))/\(ji j/\xW ws/\(jL ws).length<=10000)/\pts.length=sds.length/\∀(i:Nat)(t:List (Str×Str))(s:Str),pts[i]? =some t->sds[i]? =some s->lk t "float"=some s/\s.length<=1000
 | .over as=>pts.length=as.length+1/\∀(i:Nat)(t:List (Str×Str))(p:(Str×Int)×(Str×Int)),pts[i+1]? =some t->as[i]? =some p->lk t "at"=some (four p)/\(44∉p.1.1.cps.toList/\44∉p.2.1.cps.toList)/\(p.1.1.length<=1000/\p.2.1.length<=1000)/\ji p.1.2/\ji p.2.2
inductive Bm(K:mo)(vs:List V)(H:Hp)(Q:VK):Prop
 |mk (d pl:B3) (pd:List B3) (ps:List (Str×Str)) (pts:List (List (Str×Str))) (wh:aX) (c0:vs=[.str wh.kd,.ref d,.ref pl]) (c1:Told H d ps) (c2:H pl=some (.lst (pd.map V.ref))) (c3:Ju H pd pts) (c4:pd.length<=1000) (c5:vT ps pts wh) (c6:∀(v:V)(H':Hp),af H H'->At K H' v (ko wh)->Q v H')
def wm(K:mo):Sp:=λvs H Q _=>Bm K vs H Q
theorem jT{α:Type}{K:mo}{pd:List B3}{xs:List α}{f:α->D}(ha:∀(H:Hp)(Q:VK),af H0 H->(∀l H',af H H'->H' l=some (.lst (pd.map V.ref))->Q (.ref l) H')->ta σ H Q)(b:pd.length=xs.length)(hl:pd.length<=1000)(he:∀(i:Nat)(a:B3)(x:α)(H1:Hp),pd[i]? =some a->xs[i]? =some x->af H0 H1->Ev K (some (.ref a)::σ) H1 te (f x)):K1 K σ H0 (o_ (Ff K ta) gw te) (xs.map f):=λH Q s k=>ha H _ s λl H1 s1 h1=>by
 refine⟨l,rfl,⟨_,bg.of h1⟩,lq (K:=K) (α:=B3×α) (l:=pd.zip xs) (λp=> .ref p.1) (λp=>f p.2) ?_ (small (by rw[QM];lia)) (λp H' d _ _ c=>c _ (af.refl _)) (λp H' d o s' c=>?_) λu ys h v n q g=>?_⟩
 ·have e:(pd.zip xs).map (λp=>V.ref p.1)=pd.map V.ref:=by
   rw[show(λp:B3×α=>V.ref p.1)=V.ref∘Q4 from rfl,<-Mm,Qz (by rw[b];exact B6 _)]
  rw[e];exact gA.list (bg.of h1)
 ·obtain⟨j,r⟩:=Nf o;obtain⟨m,t⟩:=uv r;exact he j p.1 p.2 H' m t (af.trans s (af.trans s1 s')) H' d (af.refl _) c
 ·refine k u ys h (af.trans s1 n) q ?_
  have e:(pd.zip xs).map (λp=>f p.2)=xs.map f:=by
   rw[show(λp:B3×α=>f p.2)=f∘Prod.snd from rfl,<-Mm,List.map_snd_zip (by rw[b];exact B6 _)]
  rw[e]at g;exact g
theorem wd(h:σ[i]? =some (some (.ref l)))(hl:H0 l=some (.lst xs)):∀(H:Hp)(Q:VK),af H0 H->(∀l H',af H H'->H' l=some (.lst xs)->Q (.ref l) H')->iR i σ H Q:=λH Q s k=>⟨_,h,k l H (af.refl _) (s _ _ hl)⟩
theorem xw{K:mo}(h:σ[i]? =some (some (.ref l)))(hl:H0 l=some (.lst xs)):∀(H:Hp)(Q:VK),af H0 H->(∀l H',af H H'->H' l=some (.lst (xs.drop 1))->Q (.ref l) H')->Ld (Iv K) (iR i) (Fc (tC (.int 1))) wR σ H Q:=λH Q s k=>by
 refine⟨_,h,_,rfl,l,xs,rfl,bg.of (s _ _ hl),λp a=>?_⟩
 have e:nM xs (some 1) none=xs.drop 1:=by
  unfold nM;rw[HT.rz,show(some 1:Option Int)=some ((1:Nat):Int)from rfl,HT.wU]
  cases xs with
  |nil=>rfl
  |cons x xs=>
   rw[Nat.min_eq_left (by show 1<=xs.length+1;exact Cu)];exact MF (by rw[MX];exact B6 _)
 rw[e];exact k p _ (af.put (af.refl _) a) ae
theorem Ap(k:Nat)(g:Int)(al sd:Str):gB (.str (aX.lined k g al sd).kd) gu=true:=by
 match k with
 |0=>show gB (.str "row") gu=true;decide +kernel
 |1=>show gB (.str "column") gu=true;decide +kernel
 |k+2=>show gB (.str "wrap") gu=true;decide +kernel
section
variable{K:mo}
abbrev iy:List Str:=["kind","told","parts_told","spans","sides"]
theorem iS:ay iy ZJ (aj ee):=cL
theorem tr(J:kN K mg tk ad)(F:aZ K "what_read" "what_read" ee f fd)(N:aR mg)(U:aw P w K mg base aO 1 f1 d1 Ze kf)(X:Cq K mg d1 f1 Ze "number_read")(G2:aw P w K mg base aO 2 f2 d2 Zp (kO K))(J2:Cq K mg d2 f2 Zp "pair_read")(G3:aw P w K mg base aO 1 f3 d3 Ze (lM K))(J3:Cq K mg d3 f3 Ze "words_read")(G4:aw P w K mg base aO 2 f4 d4 Ze (qD K))(J4:Cq K mg d4 f4 Ze "anchors_read"):aw P w K mg base aO 3 f fd ZJ (wm K):=by
 refine F.cS iS λcdv A outer s H vs Q E hr h=>?_
 ·obtain⟨d,pl,pd,ps,pts,wh,e,I,O,n,y,R,k⟩:=h;subst e;have q:=hr.mono (j:=1) (by decide);have L:=hr.mono (j:=2) (by decide)
  have u:(A.deeper (Mh "what_read" (aj ee) s.heap.objs.size f cdv)).units+1<Np:=by have :=hr.units;lia
  refine⟨_,ah (aQ (aB (r:=uK K false) cu (pv 0) (aU (v:= .ref (ad 2)) (by rfl) J.tLINED rfl) (by rfl)) (ai (au (aS (aa (pq U q X (aa (cf u (pv 1) aq (λ_ _=>rfl)) ab)) (aa (cf u (pv 1) aq (λ_ _=>rfl)) (aa (cf u (pv 1) aq (λ_ _=>rfl)) ab)))))) aC)
   (ah (aQ (aB bD (pv 0) aq (aG _)) (ai (au (pq G2 L J2 (aa (cf u (pv 1) aq (λ_ _=>rfl)) (aa aq ab))))) aC)
   (ah (aQ (aB bD (pv 0) aq (aG _)) (ah (aJ (i:=3) iS.nd rfl (KB rfl) (aH bf (by rfl) N.tuple LR (aa (b_ (ba (fs:=aj ee) (N:=iy) rfl rfl (by decide +kernel)) rfl (dg (pv 2)) (λ_ _ _ _ _=>bB) (λ_ _ _ _ _=>(pq G2 L J2 (aa (cf u (pv 0) aq (λ_ _=>rfl)) (aa aq ab))))) ab)))
    (ai (au (aS (aa (pq U q X (aa (cf u (pv 1) aq (λ_ _=>rfl)) ab)) (aa (pq U q X (aa (cf u (pv 1) aq (λ_ _=>rfl)) ab)) (aa (cf u (pv 1) aq (λ_ _=>rfl)) (aa (pv 3) ab)))))))) aC)
   (ah (aQ (aB bD (pv 0) aq (aG _)) (ai (au (aS (aa (pq G3 q J3 (aa (cf u (pv 1) aq (λ_ _=>rfl)) ab)) (aa (pq U q X (aa (cf u (pv 1) aq (λ_ _=>rfl)) ab)) ab))))) aC)
   (ah (aQ (aB bD (pv 0) aq (aG _)) (ah (aJ (i:=4) iS.nd rfl (KB rfl) (aH bf (by rfl) N.tuple LR (aa (b_ (ba (fs:=aj ee) (N:=iy) rfl rfl (by decide +kernel)) rfl (dg (pv 2)) (λ_ _ _ _ _=>bB) (λ_ _ _ _ _=>(cf u (pv 0) aq (λ_ _=>rfl)))) ab)))
    (ai (au (aS (aa (pv 4) (aa (pq G3 q J3 (aa (cf u (pv 1) aq (λ_ _=>rfl)) ab)) (aa (pq U q X (aa (cf u (pv 1) aq (λ_ _=>rfl)) ab)) ab))))))) aC)
   (ah (aQ (aB bD (pv 0) aq (aG _)) (ai (au (aH bf (by rfl) N.tuple LR (aa (b_ (ba (fs:=aj ee) (N:=iy) rfl rfl (by decide +kernel)) rfl (dg (hC qv (pv 2) (jr ag) jq)) (λ_ _ _ _ _=>bB) (λ_ _ _ _ _=>(pq G4 L J4 (aa (cf u (pv 0) aq (λ_ _=>rfl)) ab)))) ab)))) aC)
   (ai fc)))))),?_⟩
  try rw[bZ]
  cases wh with
  |lined kk g al sd=>
   obtain⟨z,M,e3,b1,C,W⟩:=R;refine ar λm l=>?_;refine⟨_,rfl,_,_,rfl,.inr (J.sLINED H),rfl,by decide,_,rfl,cF (Ap kk g al sd) ?_⟩;exact Ev.ret (H:=H) (d:= .tup [.int g,.str al,.str sd]) (f_ (bq (fP (bP rfl I z) b1) (bq (ij (bP rfl I M) cV) (bq (ij (bP rfl I e3) cV) eR))) (by show 3<=100000;decide)) k
  |leaf a b=>
   obtain⟨z,b1,C⟩:=R;refine ar λm l=>?_;refine⟨_,rfl,_,_,rfl,.inr (J.sLINED H),rfl,by decide,_,rfl,aN (by show gB (.str "leaf") gu=false;decide +kernel) ?_⟩;refine l _ _ ?_;clear l m;refine⟨_,rfl,rfl,_,rfl,cF (by show decide (V.str "leaf"=V.str "leaf")=true;decide +kernel) ?_⟩;exact Ev.ret (H:=H) (d:= .tup [.int a,.int b]) (jk (bP rfl I z) (by decide +kernel) (eu (by decide +kernel) b1 C) (h_ cm (by decide +kernel) (by decide) _ _) b1 C) k
  |table c g sd sps=>
   obtain⟨⟨z,M,e3⟩,⟨b1,C,W⟩,o,a0⟩:=R;refine ar λm l=>?_;refine⟨_,rfl,_,_,rfl,.inr (J.sLINED H),rfl,by decide,_,rfl,aN (by show gB (.str "table") gu=false;decide +kernel) ?_⟩;refine l _ _ (ar λm l=>?_);refine⟨_,rfl,rfl,_,rfl,aN (by show decide (V.str "table"=V.str "leaf")=false;decide +kernel) ?_⟩;refine l _ _ ?_;clear l m;refine⟨_,rfl,rfl,_,rfl,cF (by show decide (V.str "table"=V.str "table")=true;decide +kernel) ?_⟩;refine Ev.set (K:=K) (H:=H) (d:= .tup (sps.map λp=> .tup [.int p.1,.int p.2])) (gQ (jT (xs:=sps) (wd rfl O) (by rw[n.1,o]) y λi a p H1 B ep s1=>?_)) λvs H1 s1 Z=>?_
   ·obtain⟨t,G⟩:∃t,pts[i]? =some t:=⟨_,AC (by rw[<-n.1];exact bR B)⟩;obtain⟨S,T,Y⟩:=a0 i t p G ep;exact jk (bP rfl ((n.2 i a t B G).same s1) S) (by decide +kernel) (eu (by decide +kernel) T Y) (h_ cm (by decide +kernel) (by decide) _ _) T Y
   ·have x:=I.same s1;exact Ev.ret (H:=H1) (d:=ko (.table c g sd sps)) (f_ (bq (fP (bP rfl x z) b1) (bq (fP (bP rfl x M) C) (bq (ij (bP rfl x e3) cV) (bq (vD rfl Z) eR)))) (by show 4<=100000;decide)) λv H' s' h'=>k v H' (af.trans s1 s') h'
  |words ws j=>
   obtain⟨⟨z,M⟩,b1,C,W⟩:=R;refine ar λm l=>?_;refine⟨_,rfl,_,_,rfl,.inr (J.sLINED H),rfl,by decide,_,rfl,aN (by show gB (.str "words") gu=false;decide +kernel) ?_⟩;refine l _ _ (ar λm l=>?_);refine⟨_,rfl,rfl,_,rfl,aN (by show decide (V.str "words"=V.str "leaf")=false;decide +kernel) ?_⟩;refine l _ _ (ar λm l=>?_);refine⟨_,rfl,rfl,_,rfl,aN (by show decide (V.str "words"=V.str "table")=false;decide +kernel) ?_⟩;refine l _ _ ?_;clear l m;refine⟨_,rfl,rfl,_,rfl,cF (by show decide (V.str "words"=V.str "words")=true;decide +kernel) ?_⟩;exact Ev.ret (H:=H) (d:= .tup [fB ws,.int j]) (f_ (bq (oq (bP rfl I z) C W) (bq (fP (bP rfl I M) b1) eR)) (by show 2<=100000;decide)) k
  |flow sds ws j=>
   obtain⟨⟨z,M⟩,⟨b1,C,W⟩,o,a1⟩:=R;refine ar λm l=>?_;refine⟨_,rfl,_,_,rfl,.inr (J.sLINED H),rfl,by decide,_,rfl,aN (by show gB (.str "flow") gu=false;decide +kernel) ?_⟩;refine l _ _ (ar λm l=>?_);refine⟨_,rfl,rfl,_,rfl,aN (by show decide (V.str "flow"=V.str "leaf")=false;decide +kernel) ?_⟩;refine l _ _ (ar λm l=>?_);refine⟨_,rfl,rfl,_,rfl,aN (by show decide (V.str "flow"=V.str "table")=false;decide +kernel) ?_⟩;refine l _ _ (ar λm l=>?_);refine⟨_,rfl,rfl,_,rfl,aN (by show decide (V.str "flow"=V.str "words")=false;decide +kernel) ?_⟩;refine l _ _ ?_;clear l m;refine⟨_,rfl,rfl,_,rfl,cF (by show decide (V.str "flow"=V.str "flow")=true;decide +kernel) ?_⟩;refine Ev.set (K:=K) (H:=H) (d:= .tup (sds.map D.str)) (gQ (jT (xs:=sds) (wd rfl O) (by rw[n.1,o]) y λi a p H1 B ep s1=>?_)) λvs H1 s1 Z=>?_
   ·obtain⟨t,G⟩:∃t,pts[i]? =some t:=⟨_,AC (by rw[<-n.1];exact bR B)⟩;obtain⟨S,T⟩:=a1 i t p G ep;exact ij (bP rfl ((n.2 i a t B G).same s1) S) cV
   ·have x:=I.same s1;exact Ev.ret (H:=H1) (d:=ko (.flow sds ws j)) (f_ (bq (vD rfl Z) (bq (oq (bP rfl x z) C W) (bq (fP (bP rfl x M) b1) eR))) (by show 3<=100000;decide)) λv H' s' h'=>k v H' (af.trans s1 s') h'
  |over as=>
   obtain⟨o,has⟩:=R;refine ar λm l=>?_;refine⟨_,rfl,_,_,rfl,.inr (J.sLINED H),rfl,by decide,_,rfl,aN (by show gB (.str "over") gu=false;decide +kernel) ?_⟩;refine l _ _ (ar λm l=>?_);refine⟨_,rfl,rfl,_,rfl,aN (by show decide (V.str "over"=V.str "leaf")=false;decide +kernel) ?_⟩;refine l _ _ (ar λm l=>?_);refine⟨_,rfl,rfl,_,rfl,aN (by show decide (V.str "over"=V.str "table")=false;decide +kernel) ?_⟩;refine l _ _ (ar λm l=>?_);refine⟨_,rfl,rfl,_,rfl,aN (by show decide (V.str "over"=V.str "words")=false;decide +kernel) ?_⟩;refine l _ _ (ar λm l=>?_);refine⟨_,rfl,rfl,_,rfl,aN (by show decide (V.str "over"=V.str "flow")=false;decide +kernel) ?_⟩;refine l _ _ (ar λm l=>?_);refine⟨_,rfl,rfl,_,rfl,cF (by show decide (V.str "over"=V.str "over")=true;decide +kernel) ?_⟩;clear l
   have el:(pd.drop 1).length=as.length:=by rw[MX,n.1,o];rfl
   refine Ev.ret (H:=H) (d:= .tup (as.map Gb)) (gQ (jT (pd:=pd.drop 1) (xs:=as) (by rw[List.map_drop];exact xw rfl O) el (by rw[MX];lia) λi a p H1 B ep s1=>?_)) k;rw[Ow,RJ]at B;obtain⟨t,G⟩:∃t,pts[i+1]? =some t:=⟨_,AC (by rw[<-n.1];exact bR B)⟩;obtain⟨S,⟨T,Y⟩,⟨q4,q5⟩,q6,q7⟩:=has i t p G ep;exact Aw (bP rfl ((n.2 (i+1) a t B G).same s1) S) (jK q4 q5 q6 q7) (vE T Y) q4 q5 q6 q7
end
structure RowC(K:mo)(C:B3):Prop where
 cl:Fl K C
 nD:fv K C "depth"
 nK:fv K C "kind"
 nN:fv K C "name"
 nT:fv K C "told"
structure F_(P:MA)(w:MM)(K:mo)(mg:Str->Option B5)(aP:B3)(ti:Tok):Prop where
 mP:mg "PLAIN"=some (.ref aP)
 dP:sm P w K aP (bx.map rJ)
 mI:mg "INDENT"=some (.str "  " ti)
inductive uM(C:B3)(vs:List V)(H:Hp)(Q:VK):Prop
 |mk (x dx:B3) (a b c d:V) (c0:vs=[.ref x,a,b,c,d]) (c1:H x=some (.ins C dx [])) (c2:∀H':Hp,(∀y u,y≠x->H y=some u->H' y=some u)->H' x=some (.ins C dx [("depth",a),("kind",b),("name",c),("told",d)])->Q .non H')
def kc(K:mo)(C:B3):Sp:=λvs H Q _=>uM C vs H Q
def nP(ps:List (Str×Str))(k v:Str):List (Str×Str):=if(ps.any λp=>decide (p.1=k))=true then ps.map (λp=>if p.1=k then(p.1,v)else p)else ps++[(k,v)]
def putAll(ps:List (Str×Str))(l:List (Str×Str)):List (Str×Str):=l.foldl (λa p=>nP a p.1 p.2) ps
theorem oK(ps:List (Str×Str))(k v:Str):putK (ps.map rJ) (Mp k:Key) (.str v)=(nP ps k v).map rJ:=by
 have a:((ps.map rJ).any λb=>decide (b.1=(Mp k:Key)))=ps.any λp=>decide (p.1=k):=by
  rw[Qr]
  congr 1
  funext p
  exact decide_eq_decide.mpr ⟨λe=>OZ e,λe=>congrArg Mp e⟩
 unfold putK nP;rw[a]
 split
 ·rw[Mm,Mm];refine Nk λp _=>?_;show(if(rJ p).1=(Mp k:Key)then((rJ p).1,V.str v)else rJ p)=rJ (if p.1=k then(p.1,v)else p);by_cases e:p.1=k
  ·rw[if_pos e,if_pos (show(rJ p).1=(Mp k:Key)from congrArg Mp e)];rfl
  ·rw[if_neg e,if_neg (show¬(rJ p).1=(Mp k:Key)fromλz=>e (OZ z))]
 ·rw[Dk];rfl
theorem A8(ps:List (Str×Str))(k v:Str):(nP ps k v).length<=ps.length+1:=by
 unfold nP
 split
 ·rw[be];exact Jq
 ·rw[B1];exact B6 _
def iE(p:Str×Str):Str:=p.1++("="++p.2)
structure Gm(row:Str)(dep:Nat)(kd nm:Str)(kvs:List (Str×Str))(tx:Str):Prop where
 len:row.length<=10000
 deep:row.length=(eS row " ").length+2*dep
 head:∃h0 m:Str,parted (eS row " ") " text="=[h0,m,tx]/\h0.length<=10000/\MV h0 " "=kd::nm::kvs.map iE
 keys:∀p∈kvs,61∉p.1.cps.toList/\(iE p).length<=10000
 many:kvs.length<=100
def Ck(C:B3)(H:Hp)(x:B3)(dep:Nat)(kd nm:Str)(d:B3):Prop:=∃dx,H x=some (.ins C dx [("depth",.int (dep:Int)),("kind",.str kd),("name",.str nm),("told",.ref d)])
inductive Ea(C:B3)(vs:List V)(H:Hp)(Q:VK):Prop
 |mk (row:Str) (dep:Nat) (kd nm:Str) (kvs:List (Str×Str)) (tx:Str) (c0:vs=[.str row]) (c1:Gm row dep kd nm kvs tx) (c2:∀(x d:B3)(H':Hp),af H H'->Ck C H' x dep kd nm d->Told H' d (putAll bx (kvs++[(("text":Str),tx)]))->Q (.ref x) H')
def BM(C:B3):Sp:=λvs H Q _=>Ea C vs H Q
theorem BK{K:mo}{a b c d:V}(k:∀x dx H',H x=none->af H H'->H' x=some (.ins C dx [("depth",a),("kind",b),("name",c),("told",d)])->Q (.ref x) H')(x dx:B3)(hx:H x=none)(f:H dx=none)(ne:dx≠x):kc K C (.ref x::([a,b,c,d]++[])) (upd (upd H dx (.own x)) x (.ins C dx [])) (λv H2=>v= .non/\Q (.ref x) H2) E:=by
 refine⟨x,dx,_,_,_,_,rfl,ae,λH' kp hi=>⟨rfl,k x dx H' hx ?_ hi⟩⟩;exactλb u e=>kp b u (aM e hx) (by rw[ak (aM e hx),ak (aM e f)];exact e)
section
variable{K:mo}
abbrev pM:List Str:=Zx
theorem nR:ay pM Zx (aj gq):=cL
theorem mN(g:RowC K C)(F:aZ K "__init__" "TextRow.__init__" gq f fd)(N:aR mg):aw P w K mg base aO 1 f fd Zx (kc K C):=by
 refine F.cS nR λcdv A outer s H vs Q E j h=>?_
 ·obtain⟨x,dx,a,b,c,d,e,hx,k⟩:=h;subst e
  refine⟨_,ah (qb (pv 0) (pv 1) rfl)
   (ah (qb (pv 0) (pv 2) rfl)
   (ah (qb (pv 0) (pv 3) rfl)
   (ai (qb (pv 0) (pv 4) rfl)))),?_⟩
  try rw[bZ]
  refine⟨_,rfl,_,rfl,x,C,dx,_,rfl,hx,g.cl,g.nD,(by decide),?_⟩;refine⟨_,rfl,_,rfl,x,C,dx,_,rfl,ae,g.cl,g.nK,(by show 1<1000;decide),?_⟩;refine⟨_,rfl,_,rfl,x,C,dx,_,rfl,ae,g.cl,g.nN,(by show 2<1000;decide),?_⟩;refine⟨_,rfl,_,rfl,x,C,dx,_,rfl,ae,g.cl,g.nT,(by show 3<1000;decide),?_⟩;refine k _ (λy u i e=>?_) ae;rw[ak i,ak i,ak i,ak i];exact e
abbrev zu:List Str:=["row","bare","halves","words","told","word","pair"]
theorem dU:ay zu ["row"] (aj ju):=cL
theorem vL{C1 aP:B3}{ti:Tok}(W:F_ P w K mg aP ti)(F:aZ K "row_read" "row_read" ju f fd)(N:aR mg)(O:aw P w K mg base aO 1 f1 d1 Zx (kc K C1))(b1:Binds K d1 Zx [])(m1:mg "TextRow"=some (.ref C1))(M1:Mk K C1 f1):aw P w K mg base aO 3 f fd ["row"] (BM C1):=by
 refine F.cS dU λcdv A outer s H vs Q E hr h=>?_
 ·obtain⟨row,dep,kd,nm,kvs,tx,e,hR,k⟩:=h;subst e;have Y:=hr.mono (j:=2) (by decide)
  have hu:(A.deeper (Mh "row_read" (aj ju) s.heap.objs.size f cdv)).units+1<Np:=by have :=hr.units;lia
  refine⟨_,ah (aJ (i:=1) dU.nd rfl (KB rfl) (bV LS PySem.F.slot_str_lstrip PySem.F.type_str_lstrip zc (pv 0) (aa aq ab)))
   (ah (aJ (i:=2) dU.nd rfl (KB rfl) (bV LS Q1 Q0 jC (pv 1) (aa aq ab)))
   (ah (aJ (i:=3) dU.nd rfl (KB rfl) (bV LS NN NM gD (ax av (pv 2) ag (λ_ _=>rfl)) (aa aq ab)))
   (ah (aQ (aB HL (aF br (by rfl) N.len Md (aa (pv 3) ab)) ag (aG _)) (ai fc) aC)
   (ah (aJ (i:=4) dU.nd rfl (KB rfl) (aH (ui W.dP (by decide)) (by rfl) N.dict PyProof.Rows.boot_dict (aa (aU (v:= .ref aP) (by rfl) W.mP rfl) ab)))
   (ah (cG Ma rfl (dg (hC qv (pv 3) (jr ag) jq)) (aV (i:=5) dU.nd rfl (KB rfl))
    (ah (aJ (i:=6) dU.nd rfl (KB rfl) (bV LS Q1 Q0 jC (pv 5) (aa aq ab)))
    (ai (kR hu (pv 4) (ax av (pv 6) ag (λ_ _=>rfl)) (ax av (pv 6) ag (λ_ _=>rfl)) rfl))))
   (ah (kR hu (pv 4) aq (ax av (pv 2) ag (λ_ _=>rfl)) rfl)
   (ai (au (Ee M1 O Y (by rfl) m1 b1 .nil E5 (aa (aE pB (aE eE (aF cT (by rfl) N.len Md (aa (pv 0) ab)) (aF cT (by rfl) N.len Md (aa (pv 1) ab))) (aF cT (by rfl) N.len Md (aa (aU (v:= .str "  ") (by rfl) W.mI ⟨_,rfl⟩) ab))) (aa (ax bF (pv 3) ag (λ_ _=>rfl)) (aa (ax bF (pv 3) ag (λ_ _=>rfl)) (aa (pv 4) ab))))))))))))),?_⟩
  try rw[bZ]
  obtain⟨a6,Z,⟨h0,mm,hp,a9,a0⟩,o,a2⟩:=hR;generalize hb:eS row " "=bare at *
  have a7:bare.length<=10000:=by lia
  refine ar λm b=>?_;refine⟨_,rfl,rfl,_,_,rfl,rfl,by rw[hb];exact az cV,?_⟩;rw[hb];refine b _ _ (ar λm b=>?_);refine⟨_,rfl,rfl,_,_,rfl,rfl,by decide +kernel,az cV,λt ht=>?_⟩;rw[hp];generalize g:upd H t _=H1
  have s1:af H H1:=by rw[<-g];exact af.put (af.refl _) ht
  have h1:H1 t=some (.tup ([h0,mm,tx].map V.str)):=by rw[<-g];exact ae
  clear g;refine b _ _ (ar λm b=>?_);refine⟨_,rfl,t,_,_,_,rfl,rfl,aT.of h1,aA (j:=0) rfl,rfl,_,_,rfl,rfl,by decide +kernel,az (by lia),λl hl=>?_⟩;rw[a0];generalize g:upd H1 l _=H2
  have s2:af H1 H2:=by rw[<-g];exact af.put (af.refl _) hl
  have h2:H2 l=some (.lst ((kd::nm::kvs.map iE).map V.str)):=by rw[<-g];exact ae
  clear g;refine b _ _ ?_;clear b m;have U:=s2 _ _ h1;refine ar λm b=>?_;refine⟨_,rfl,l,_,rfl,.inl (bg.of h2),_,_,rfl,rfl,_,rfl,aN (decide_eq_false (by rw[be,B8,B8];lia)) ?_⟩;refine b _ _ (ar λm b=>?_);refine⟨rfl,λd hd=>?_⟩;generalize g:upd H2 d _=H3
  have s3:af H2 H3:=by rw[<-g];exact af.put (af.refl _) hd
  have h3:H3 d=some (.dK (bx.map rJ)):=by rw[<-g];exact ae
  clear g;refine b _ _ ?_;clear b m;have a8:=s3;refine ar λm b=>?_;refine⟨_,rfl,_,rfl,l,_,rfl,bg.of (s3 _ _ h2),λq r=>?_⟩
  have u:nM ((kd::nm::kvs.map iE).map V.str) (some 2) none=(kvs.map iE).map V.str:=by
   unfold nM;rw[HT.rz,show(some 2:Option Int)=some ((2:Nat):Int)from rfl,HT.wU,Nat.min_eq_left (by rw[be,B8,B8];exact Cu)];exact MF (by rw[MX];exact B6 _)
  rw[u];generalize g:upd H3 q _=H4
  have s4:af H3 H4:=by rw[<-g];exact af.put (af.refl _) r
  have h4:H4 q=some (.lst ((kvs.map iE).map V.str)):=by rw[<-g];exact ae
  clear g;have J:H2 d=none:=hd;have X:q≠d:=Da (aM h3 r);refine⟨q,rfl,⟨_,bg.of h4⟩,gS (K:=K) (a:=q) (xs:=(kvs.map iE).map V.str) (λi σ G=>∃M S,σ=[some (.str row),some (.str bare),some (.ref t),some (.ref l),some (.ref d),M,S]/\af H2 G/\Told G d (putAll bx (kvs.take i))/\G q=some (.lst ((kvs.map iE).map V.str))/\(putAll bx (kvs.take i)).length<=16+i) ⟨_,_,rfl,af.trans s3 s4,s4 _ _ h3,h4,(by rw[List.take_zero];decide +kernel)⟩ (λi σ G _ a3=>by obtain⟨_,_,_,_,_,z,_⟩:=a3;exact bg.of z) ?_ ?_⟩
  ·rintro i x σ G hx ⟨M,S,rfl,D,R,n,C⟩;rw[Mm,B7]at hx
   cases ep:kvs[i]? with
   |none=>rw[ep]at hx;cases hx
   |some p=>
    rw[ep]at hx
    cases hx
    obtain⟨q1,q2⟩:=o p (Fk ep);have hi:=bR ep;refine ar λN2 B=>?_;refine⟨_,rfl,rfl,_,_,rfl,rfl,by decide +kernel,az (by show(iE p).length<=100000;exact cV),λT a1=>?_⟩;have a4:parted (iE p) "="=[p.1,"=",p.2]:=tH (c:=61) (t:=[]) rfl q1;rw[show(V.str∘iE) p=V.str (iE p)from rfl]at *;rw[a4];generalize g:upd G T _=O
    have g1:af G O:=by rw[<-g];exact af.put (af.refl _) a1
    have qp:O T=some (.tup ([p.1,"=",p.2].map V.str)):=by rw[<-g];exact ae
    clear g;refine B _ _ ?_;clear B N2;refine⟨_,rfl,T,_,_,_,rfl,rfl,aT.of qp,aA (j:=2) rfl,_,rfl,_,rfl,T,_,_,_,rfl,rfl,aT.of qp,aA (j:=0) rfl,d,_,rfl,oa.k (k:= .inr p.1) (R.same g1) (small (by rw[be];lia)),?_⟩;rw[oK]
    have L:nP (putAll bx (kvs.take i)) p.1 p.2=putAll bx (kvs.take (i+1)):=by
     rw[Oa,ep];unfold putAll;rw[Qp];rfl
    rw[L];refine(show∃M S,_ from⟨_,_,rfl,af.put (af.trans D g1) J,ae,by rw[ak X];exact g1 _ _ n,?_⟩);have :=A8 (putAll bx (kvs.take i)) p.1 p.2;rw[L]at this
    lia
  ·rintro σ G ⟨M,S,rfl,D,R,n,C⟩;refine b _ _ ?_;clear b m;rw[be,be,OH]at R C;have b0:=D;have tG:=D _ _ U;refine ar λm b=>?_;refine⟨_,rfl,t,_,_,_,rfl,rfl,aT.of tG,aA (j:=2) rfl,_,rfl,d,_,rfl,oa.k (k:= .inr "text") R (small (by rw[be];lia)),?_⟩;rw[oK]
   have L:nP (putAll bx kvs) "text" tx=putAll bx (kvs++[(("text":Str),tx)]):=by
    unfold putAll;rw[Qp];rfl
   rw[L];have I:af H2 (upd G d (.dK ((putAll bx (kvs++[(("text":Str),tx)])).map rJ))):=af.put D J;have a5:Told (upd G d (.dK ((putAll bx (kvs++[(("text":Str),tx)])).map rJ))) d (putAll bx (kvs++[(("text":Str),tx)])):=ae;generalize upd G d (.dK ((putAll bx (kvs++[(("text":Str),tx)])).map rJ))=G2 at *;refine b _ _ ?_;clear b m;have l2:=I _ _ h2;have s0:af H G2:=af.trans s1 (af.trans s2 I)
   have y:((row.length:Int)-(bare.length:Int))/((("  ":Str).length:Nat):Int)=(dep:Int):=by
    rw[show(("  ":Str).length:Nat)=2 from rfl]
    lia
   refine⟨_,rfl,_,rfl,az cV,_,rfl,_,rfl,az cV,_,_,rfl,rfl,_,rfl,az (by decide +kernel),_,_,rfl,rfl,⟨by decide +kernel,by decide +kernel⟩,_,rfl,l,_,_,_,rfl,rfl,bg.of l2,aA (j:=0) rfl,_,rfl,l,_,_,_,rfl,rfl,bg.of l2,aA (j:=1) rfl,_,rfl,?_⟩;exact BK λx dx H' hx s' hi=>k x d H' (af.trans s0 s') ⟨dx,by rw[<-y];exact hi⟩ (a5.same s')
end
section
open PySem.Spec PyProof.Rows
theorem ma{K:mo}{g1 g2:Nat->V}{σ:L2.St}(f:Nat->V)(r:bg K H a (as.map V.ref))(hn:as.length<sizeLine)(n:∀(i:Nat)(p:B3),as[i]? =some p->H p=some (.tup [g1 i,g2 i]))(he:∀(D:B3)(i:Nat)(l:List V)(k:VK),H D=none->i<as.length->k (f i) (upd H D (.lst l))->te (some (g1 i)::some (g2 i)::σ) (upd H D (.lst l)) k)(hd:∀D,H D=none->Q (.ref D) (upd H D (.lst ((Me as.length).map f)))):
  eO (Hh K a) H 2 σ (C5 K) gw te Q:=by
 intro D g;refine⟨λi m H'=>m=as.length-i/\i<=as.length/\H'=upd H D (.lst ((Me i).map f)),⟨as.length,by lia,L5 _,rfl⟩,?_⟩;rintro i m H' ⟨rfl,hi,rfl⟩
 have j:af H (upd H D (.lst ((Me i).map f))):=λb o e=>by rw[ak (aM e g)];exact e
 have q:=j.seq r;by_cases c:i<as.length
 ·obtain⟨p,ep⟩:∃p,as[i]? =some p:=⟨_,AC c⟩
  have d:(as.map V.ref)[i]? =some (V.ref p):=by rw[B7,ep];rfl
  refine .inr ⟨⟨as.map V.ref,_,q,d⟩,λx H2 ρ h y=>?_⟩;obtain⟨e,y⟩:=y;subst e;have hx:=(y _ q).symm.trans d
  cases hx
  match ρ,h with
  |[s,t],_=>
   refine⟨p,_,rfl,aT.of (j _ _ (n i p ep)),rfl,_,_,rfl,_,_,rfl,rfl,⟨[some (g1 i),some (g2 i)],rfl,rfl⟩,?_⟩;unfold gw;refine di ?_;refine he D i _ _ g c ⟨_,ae,?_,as.length-(i+1),by lia,rfl,c,?_⟩
   ·rw[be,MQ];lia
   ·rw[CQ,List.range_succ,Dk];rfl
 ·have e:i=as.length:=by lia
  subst e;exact .inl ⟨⟨as.map V.ref,q,by rw[be];exact B6 _⟩,hd D g⟩
end
abbrev PS:Type:=List (Str×Str)
def LL(K:mo)(H:Hp)(a:B3)(p:D×PS):Prop:=∃(v:V)(da:B3),H a=some (.tup [v,.ref da])/\At K H v p.1/\Told H da p.2
def Cf(K:mo)(H:Hp)(as:List B3)(pt:List (D×PS)):Prop:=as.length=pt.length/\∀(i:Nat)(a:B3)(p:D×PS),as[i]? =some a->pt[i]? =some p->LL K H a p
theorem Cf.pick{K:mo}{pt:List (D×PS)}(h:Cf K H as pt):∃(g:Nat->V)(da:Nat->B3),∀(i:Nat)(a:B3)(p:D×PS),as[i]? =some a->pt[i]? =some p->H a=some (.tup [g i,.ref (da i)])/\At K H (g i) p.1/\Told H (da i) p.2:=by
 have z:∀i:Nat,∃y:V×B3,∀(a:B3)(p:D×PS),as[i]? =some a->pt[i]? =some p->H a=some (.tup [y.1,.ref y.2])/\At K H y.1 p.1/\Told H y.2 p.2:=λi=>by
  cases b:as[i]? with
  |none=>exact⟨(.non,0),λa p e=>nomatch e⟩
  |some a=>
   cases d:pt[i]? with
   |none=>exact⟨(.non,0),λa p _ e=>nomatch e⟩
   |some p=>
    obtain⟨v,da,h1,h2,j⟩:=h.2 i a p b d;exact⟨(v,da),λa' l e c=>by cases e;cases c;exact⟨h1,h2,j⟩⟩
 obtain⟨f,k⟩:=Classical.skolem.mp z;exact⟨λi=>(f i).1,λi=>(f i).2,k⟩
def iA(kd nm:Str)(o:Own)(wh:aX)(ds:List D):D:= .tup [.str kd,.str nm,ra o,ko wh,.tup ds]
inductive D_(K:mo)(C:B3)(vs:List V)(H:Hp)(Q:VK):Prop
 |mk (x l d:B3) (dep:Nat) (nm:Str) (ps:PS) (as:List B3) (pt:List (D×PS)) (o:Own) (wh:aX) (c0:vs=[.ref x,.ref l]) (c1:(Ck C H x dep wh.kd nm d/\Told H d ps/\H l=some (.lst (as.map V.ref))/\Cf K H as pt)) (c2:(as.length<=1000/\nm.length<=1000)) (c3:CJ ps o) (c4:vT ps (pt.map (·.2)) wh) (c5:∀(v:V)(H':Hp),af H H'->At K H' v (iA wh.kd nm o wh (pt.map (·.1)))->Q v H')
def BF(K:mo)(C:B3):Sp:=λvs H Q _=>D_ K C vs H Q
theorem kd_len(wh:aX):wh.kd.length<=10:=by
 cases wh with
 |lined k g al sd=>
  match k with
  |0=>show("row":Str).length<=10;decide +kernel
  |1=>show("column":Str).length<=10;decide +kernel
  |k+2=>show("wrap":Str).length<=10;decide +kernel
 |leaf=>show("leaf":Str).length<=10;decide +kernel
 |table=>show("table":Str).length<=10;decide +kernel
 |words=>show("words":Str).length<=10;decide +kernel
 |flow=>show("flow":Str).length<=10;decide +kernel
 |over=>show("over":Str).length<=10;decide +kernel
section
variable{K:mo}
abbrev md:List Str:=["row","parts","what"]
theorem oT:ay md ["row","parts"] (aj gI):=cL
theorem ky:(["box","told","row","parts","what"]:List Str).Nodup:=by decide +kernel
theorem vI(n:RowC K C)(F:aZ K "box_read" "box_read" gI f fd)(N:aR mg)(G1:aw P w K mg base aO 3 f1 d1 ["told"] (Bj K))(J1:Cq K mg d1 f1 ["told"] "own_read")(G2:aw P w K mg base aO 3 f2 d2 ZJ (wm K))(J2:Cq K mg d2 f2 ZJ "what_read"):aw P w K mg base aO 4 f fd ["row","parts"] (BF K C):=by
 refine F.cS oT λcdv A outer s H vs Q E hr h=>?_
 ·obtain⟨x,l,d,dep,nm,ps,as,pt,o,wh,e,⟨⟨dx,hx⟩,W,hl,J⟩,⟨hn,a0⟩,hO,hW,k⟩:=h;subst e;have L:=hr.mono (j:=3) (by decide)
  refine⟨_,ah (aJ (i:=2) oT.nd rfl (KB rfl) (pq G2 L J2 (aa (hY (pv 0) rfl) (aa (hY (pv 0) rfl) (aa (jb (k:=2) (N':=["box","told","row","parts","what"]) (fZ (fs:=aj gI) (N:=md) rfl rfl (by decide +kernel)) rfl (dg (pv 1)) (λ_ _ _ _ _=>kW (K:=K) rfl rfl ky rfl rfl rfl rfl) (λ_ _ _ _ _=>bB) (λ_ _ _ _ _=>(pv 1))) ab)))))
   (ai (au (aS (aa (hY (pv 0) rfl) (aa (hY (pv 0) rfl) (aa (pq G1 L J1 (aa (hY (pv 0) rfl) ab)) (aa (pv 2) (aa (aH bf (by rfl) N.tuple LR (aa (jb (k:=2) (N':=["box","told","row","parts","what"]) (fZ (fs:=aj gI) (N:=md) rfl rfl (by decide +kernel)) rfl (dg (pv 1)) (λ_ _ _ _ _=>kW (K:=K) rfl rfl ky rfl rfl rfl rfl) (λ_ _ _ _ _=>bB) (λ_ _ _ _ _=>(pv 0))) ab)) ab)))))))),?_⟩
  try rw[bZ]
  obtain⟨g,da,S⟩:=J.pick;have b:=J.1
  have O:∀(i:Nat)(p:B3),as[i]? =some p->H p=some (.tup [g i,.ref (da i)]):=λi p e=>by
   obtain⟨q,eq⟩:∃q,pt[i]? =some q:=⟨_,AC (by rw[<-b];exact bR e)⟩;exact(S i p q e eq).1
  refine ar λY T=>?_;refine⟨_,rfl,x,C,dx,_,_,rfl,hx,n.cl,n.nK,rfl,_,rfl,x,C,dx,_,_,rfl,hx,n.cl,n.nT,rfl,_,rfl,l,rfl,⟨_,bg.of hl⟩,ma (g1:=g) (g2:=λi=> .ref (da i)) (λi=> .ref (da i)) (bg.of hl) (small cV) O (λD i ll Z I hi q=>⟨_,rfl,q⟩) λD I=>?_⟩;generalize z:upd H D _=H1
  have s1:af H H1:=by rw[<-z];exact af.put (af.refl _) I
  have h1:H1 D=some (.lst ((Me as.length).map λi=>V.ref (da i))):=by rw[<-z];exact ae
  clear z;refine⟨d,D,(Me as.length).map da,ps,pt.map (·.2),wh,rfl,W.same s1,by rw[h1,Mm];rfl,⟨by rw[be,MQ,be,b],λi a a1 c m=>?_⟩,by rw[be,MQ];exact CA,hW,λv H2 s2 X=>?_⟩
  ·rw[B7]at c m
   have hi:i<as.length:=by
    cases M:(Me as.length)[i]? with
    |none=>rw[M]at c;cases c
    |some j=>have :=bR M;rw[MQ]at this;exact this
   rw[Sb hi]at c
   cases c
   cases y:pt[i]? with
   |none=>rw[y]at m;cases m
   |some q=>
    rw[y]at m
    cases m
    exact(S i _ q (AC hi) y).2.2.same s1
  refine T _ _ ?_;clear T Y;have r:=af.trans s1 s2;have G:=r _ _ hx;refine Ev.ret (H:=H2) (d:=iA wh.kd nm o wh (pt.map (·.1))) (f_ (bq ?_ (bq ?_ (bq ?_ (bq (vD rfl X) (bq (gQ (l:=pt.map (·.1)) ?_) eR))))) (by show 5<=100000;decide)) λv H' s' h'=>k v H' (af.trans r s') h'
  ·exactλH3 R u B=>⟨_,rfl,x,C,dx,_,_,rfl,u _ _ G,n.cl,n.nK,rfl,B _ H3 (af.refl _) (.str _ (az (by have :=kd_len wh;exact cV)))⟩
  ·exactλH3 R u B=>⟨_,rfl,x,C,dx,_,_,rfl,u _ _ G,n.cl,n.nN,rfl,B _ H3 (af.refl _) (.str _ (az cV))⟩
  ·exactλH3 R u B=>⟨_,rfl,x,C,dx,_,_,rfl,u _ _ G,n.cl,n.nT,rfl,d,ps,o,rfl,W.same (af.trans r u),hO,B⟩
  ·intro H3 R u B;have t:=af.trans r u;refine⟨_,rfl,l,rfl,⟨_,bg.of (t _ _ hl)⟩,ma (g1:=g) (g2:=λi=> .ref (da i)) g (bg.of (t _ _ hl)) (small cV) (λi p e=>t _ _ (O i p e)) (λD i ll Z I hi q=>⟨_,rfl,q⟩) λD I=>?_⟩;generalize z:upd H3 D _=H4
   have U:af H3 H4:=by rw[<-z];exact af.put (af.refl _) I
   have h4:H4 D=some (.lst ((Me as.length).map g)):=by rw[<-z];exact ae
   clear z;refine B D _ H4 U h4 ⟨by rw[be,MQ,be,b],λi a dd c m=>?_⟩;rw[B7]at c m
   have hi:i<as.length:=by
    cases M:(Me as.length)[i]? with
    |none=>rw[M]at c;cases c
    |some j=>have :=bR M;rw[MQ]at this;exact this
   rw[Sb hi]at c
   cases c
   cases y:pt[i]? with
   |none=>rw[y]at m;cases m
   |some q=>
    rw[y]at m
    cases m
    exact(S i _ q (AC hi) y).2.1.same (af.trans t U)
end
inductive Jk(vs:List V)(H:Hp)(Q:VK):Prop
 |mk (a:B3) (bd:dF) (ts:List B3) (c0:vs=[.ref a]) (c1:Fo.iH H a bd ts) (c2:Q (.int bd.own.al) H)
def Js:Sp:=λvs H Q _=>Jk vs H Q
def Iu(v u:V)(H:Hp):Prop:=∃(a:B3)(bd:dF)(ts:List B3),v= .ref a/\u= .bl false/\Fo.iH H a bd ts/\Fm bd.wh.kd
inductive Jz(K:mo)(vs:List V)(H:Hp)(Q:VK):Prop
 |mk (a:B3) (bd:dF) (ts:List B3) (dep:Int) (it:Bool) (dN:B3) (bI:List Str) (ds:List D) (c0:vs=[.ref a,.int dep,.bl it,.ref dN]) (c1:EF (.ref a) H) (c2:Fo.iH H a bd ts) (c3:At K H (.ref a) (iA bd.wh.kd bd.nm bd.own bd.wh ds)) (c4:(0<bd.own.al->it=false/\Fm bd.wh.kd)) (c5:Vw bd.wh ts.length) (c6:dep<=8) (c7:H dN=some (.dK (qU bI))) (c8:bd.nm∉bI) (c9:bI.length<60) (c10:∀H',af H H'->Q (.bl false) H')
def G0(K:mo):Sp:=λvs H Q _=>Jz K vs H Q
section
variable{K:mo}
abbrev Dq:List Str:=Zb
theorem zW:ay Dq Zb (aj lT):=cL
theorem yb(F:aZ K "alike_of" "alike_of" lT f fd)(N:aR mg)(l:aw P w K mg base aO 1 f1 d1 Zb (B09P.dM 2))(d:Cq K mg d1 f1 Zb "own_of"):aw P w K mg base aO 2 f fd Zb Js:=by
 refine F.cS zW λcdv A outer s H vs Q E i h=>?_
 ·obtain⟨a,bd,ts,e,g,k⟩:=h;subst e;have b:=i.mono (j:=1) (by decide);refine⟨_,ai (au (ax av (pq l b d (aa (pv 0) ab)) ag (λ_ _=>rfl))),?_⟩
  try rw[bZ]
  obtain⟨o,q,p,ha,⟨u,t,c,_⟩,_⟩:=g;exact⟨_,rfl,a,_,_,rfl,ha,rfl,o,_,_,_,rfl,rfl,aT.of c,rfl,k⟩
abbrev IJ:List Str:=Zy
theorem Fx:ay IJ Zy (aj gJ):=cL
theorem Dm(c:kN K mg tk ad)(F:aZ K "may_be_alike" "may_be_alike" gJ f fd)(N:aR mg)(m:aw P w K mg base aO 1 f1 d1 Zb (B09P.dM 0))(g:Cq K mg d1 f1 Zb "kind_of"):aw P w K mg base aO 2 f fd Zy (dn Iu):=by
 refine F.cS Fx λcdv A outer s H vs Q E l h=>?_
 ·obtain⟨v,u,e,d,k⟩:=h;subst e;have b:=l.mono (j:=1) (by decide);refine⟨_,ai (au (a_ (cy (r:=uK K false) cu (pq m b g (aa (pv 0) ab)) (aU (v:= .ref (ad 4)) (by rfl) c.tALIKE_KINDS rfl) (by rfl)) (bN (uZ (pv 1))))),?_⟩
  try rw[bZ]
  obtain⟨a,bd,ts,rfl,rfl,⟨o,q,p,ha,_⟩,i⟩:=d;exact y_ret (bU (Er (ws:=["leaf","row","column","wrap"]) (by simpa[Fm]using i) (vm (v_var rfl) ha rfl) d_ c.sALIKE_KINDS) (λH1 n s1 k1=>⟨_,rfl,_,rfl,k1 H1 (af.refl _)⟩)) (af.refl _) k
abbrev D6:List Str:=Zh
theorem zG:ay D6 Zh (aj jc):=cL
theorem yN(L:kN K mg tk ad)(F:aZ K "is_amiss" "is_amiss" jc f fd)(N:aR mg)(G1:aw P w K mg base aO 7 f1 d1 Za (cQ EF))(J1:Cq K mg d1 f1 Za "is_box")(G2:aw P w K mg base aO 1 f2 d2 Zb (B09P.dM 1))(J2:Cq K mg d2 f2 Zb "name_of")(G3:aw P w K mg base aO 2 f3 d3 Zb Js)(J3:Cq K mg d3 f3 Zb "alike_of")(G4:aw P w K mg base aO 2 f4 d4 Zy (dn Iu))(J4:Cq K mg d4 f4 Zy "may_be_alike")(G5:aw P w K mg base aO 1 f5 d5 Zb (B09P.dM 0))(J5:Cq K mg d5 f5 Zb "kind_of")(G6:aw P w K mg base aO 5 f6 d6 Zb (oX K))(J6:Cq K mg d6 f6 Zb "table_rows"):aw P w K mg base aO 8 f fd Zh (G0 K):=by
 refine F.cS zG λcdv A outer s H vs Q E y h=>?_
 ·obtain⟨a,bd,ts,dep,it,dN,bI,ds,e,cb,T,ht,G,vw,hd,g,hn,hl,k⟩:=h;subst e;have m:=y.mono (j:=1) (by decide);have t:=y.mono (j:=2) (by decide);have X:=y.mono (j:=5) (by decide);have Y:=y.mono (j:=7) (by decide)
  have hu:(A.deeper (Mh "is_amiss" (aj jc) s.heap.objs.size f cdv)).units+1<Np:=by have :=y.units;lia
  refine⟨_,ah (aQ (cZ (bH (pq G1 Y J1 (aa (pv 0) ab)))) (ai (au c_)) aC)
   (ah (aQ (mR (AW (zX hu (pq G2 m J2 (aa (pv 0) ab)) (pv 3))) (mR (aB JC (aF yy (by rfl) N.len Md (aa (pv 3) ab)) (aU (v:= .int 60) (by rfl) L.cBOXES_MOST ⟨_,rfl⟩) (aG _)) (jM (aB kv (pv 1) (aU (v:= .int 8) (by rfl) L.cDEEPEST ⟨_,rfl⟩) (aG _))))).pt (ai (au c_)) aC)
   (ah (aQ (bY (aB kv (pq G3 t J3 (aa (pv 0) ab)) ag (aG _)) (bS (cZ (bH (pq G4 t J4 (aa (pv 0) (aa (pv 2) ab))))))).pt (ai (au c_)) aC)
   (ai (au (a_ (cy bD (pq G5 m J5 (aa (pv 0) ab)) aq (aG _)) (bN (cy kv (pq G6 X J6 (aa (pv 0) ab)) (aU (v:= .int 60) (by rfl) L.cTABLE_ROWS ⟨_,rfl⟩) (aG _)))))))),?_⟩
  try rw[bZ]
  have a0:=T;obtain⟨o,q,p,ha,ho,B,i⟩:=a0
  have I:∀H1,af H H1->EF (.ref a) H1:=λH1 s=>by
   obtain⟨a',J,U,e,O,r⟩:=cb;exact⟨a',J,U,e,O.keep (KT.same s),r⟩
  refine ar λn g=>?_;refine(cK (kb (v_var rfl) I)) H _ (af.refl _) λH1 s1=>bA ?_;refine g _ _ ?_;clear g n;have C:=s1 _ _ ha;have x:=s1 _ _ g;refine ar λn g=>?_;refine⟨_,rfl,a,_,_,rfl,C,rfl,_,rfl,dN,_,rfl,.inl ⟨_,.inr bd.nm,.inl x,rfl,rfl⟩,?_⟩;rw[pP,decide_eq_false hn];refine⟨_,rfl,bA ?_⟩;refine⟨_,rfl,dN,_,rfl,.inl x,_,_,rfl,rfl,_,rfl,aN (by rw[xl];exact decide_eq_false (by lia)) ?_⟩;refine⟨_,rfl,_,_,rfl,rfl,_,rfl,aN (decide_eq_false (by lia)) ?_⟩;refine g _ _ (ar λn g=>?_)
  have rest:∀H2,af H1 H2->n [some (.ref a),some (.int dep),some (.bl it),some (.ref dN)] H2:=λH2 s2=>g _ _ (by
   have d:=af.trans s1 s2;refine⟨_,rfl,a,_,_,rfl,d _ _ ha,rfl,rfl,_,rfl,gP (λb=>?_) (λb=>k H2 d)⟩;have b:V.str bd.wh.kd=V.str "table":=of_decide_eq_true b
   injection b with b
   obtain⟨nm,own,wh⟩:=bd
   cases wh with
   |table c Z sd sps=>
    obtain⟨h1,⟨h2,h3⟩,⟨h4,h5⟩,h6,h7,W⟩:=vw
    have e1:((c.toNat:Nat):Int)=c:=by lia
    have e2:(sps.map λp=>(p.1.toNat,p.2.toNat)).map dS=sps.map λp=>D.tup [.int p.1,.int p.2]:=by
     rw[Mm];refine Nk λp i=>?_;obtain⟨⟨q1,q2⟩,q3,b⟩:=W p i;show D.tup [.int ((p.1.toNat:Nat):Int),.int ((p.2.toNat:Nat):Int)]=_;rw[show((p.1.toNat:Nat):Int)=p.1 by lia,show((p.2.toNat:Nat):Int)=p.2 by lia]
    have S:At K H2 (.ref a) (.tup [.str "table",.str nm,ra own,.tup [.int ((c.toNat:Nat):Int),.int Z,.str sd,.tup ((sps.map λp=>(p.1.toNat,p.2.toNat)).map dS)],.tup ds]):=by
     rw[e1,e2];exact ht.same d
    refine⟨_,rfl,.ref a,_,_,_,_,_,_,c.toNat,sps.map λp=>(p.1.toNat,p.2.toNat),rfl,S,⟨λsp R=>?_,by lia,by rw[be];lia⟩,λM H3 hM s3=>⟨_,_,rfl,rfl,?_⟩⟩
    ·obtain⟨p,i,rfl⟩:=List.mem_map.mp R;obtain⟨⟨q1,q2⟩,q3,b⟩:=W p i;dsimp only
     lia
    ·have u:∀{l:List (Nat×Nat)},(∀p∈l,p.2<=12)->vc l<=12*l.length:=λ{l}=>by
      induction l with
      |nil=>exactλ_=>B6 _
      |cons p l ih=>
       intro h;have ih:=ih λq B=>h q (GE _ B);have h1:=h p Do;have e:vc (p::l)=p.2+vc l:=rfl;rw[e,B8]
       lia
     have hz:=u (l:=sps.map λp=>(p.1.toNat,p.2.toNat)) λq B=>by
      obtain⟨p,i,rfl⟩:=List.mem_map.mp B;obtain⟨⟨q1,q2⟩,q3,b⟩:=W p i;dsimp only
      lia
     rw[be]at hz;show Q (.bl (decide ((60:Int)<M))) H3;rw[decide_eq_false (show¬(60:Int)<M by lia)];exact k H3 (af.trans d s3)
   |lined k0 Z al sd=>
    exfalso;have z:=zD k0 Z al sd;rw[b]at z
    revert z
    decide +kernel
   |leaf=>exact absurd b (by show¬("leaf":Str)="table";decide +kernel)
   |words=>exact absurd b (by show¬("words":Str)="table";decide +kernel)
   |flow=>exact absurd b (by show¬("flow":Str)="table";decide +kernel)
   |over=>exact absurd b (by show¬("over":Str)="table";decide +kernel))
  refine⟨_,rfl,a,bd,ts,rfl,T.keep (KT.same s1),_,_,rfl,rfl,_,rfl,gP (λq5=>?_) (λq5=>bA (rest H1 (af.refl _)))⟩;obtain⟨rfl,hk⟩:=G (of_decide_eq_true q5);exact(cK (mK (v_var rfl) (v_var rfl) λ_ z=>⟨a,bd,ts,rfl,rfl,(T.keep (KT.same s1)).keep (KT.same z),hk⟩)) H1 _ (af.refl _) λH2 s2=>bA (rest H2 s2)
end
structure iK where
 dep:Nat
 nm:Str
 own:Own
 wh:aX
 ps:PS
abbrev WT:Type:=List (Nat×List (D×PS))
def kids(W:WT)(n:Nat):List (D×PS):=((W.find? λp=>decide (p.1=n)).map (·.2)).getD []
def mU(W:WT)(n:Nat):WT:=W.filter λp=>decide (p.1≠n)
def addW(W:WT)(n:Nat)(x:D×PS):WT:=if(W.any λp=>decide (p.1=n))=true then W.map (λp=>if p.1=n then(p.1,p.2++[x])else p)else W++[(n,[x])]
def mf(r:iK)(ch:List (D×PS)):D×PS:=(iA r.wh.kd r.nm r.own r.wh (ch.map (·.1)),r.ps)
def Ah(W:WT)(r:iK):WT:=addW (mU W (r.dep+1)) r.dep (mf r (kids W (r.dep+1)).reverse)
structure Jy(W:WT)(r:iK):Prop where
 own:CJ r.ps r.own
 what:vT r.ps ((kids W (r.dep+1)).reverse.map (·.2)) r.wh
 nm:r.nm.length<=1000
inductive Run:WT->List iK->WT->Prop
 |nil (W:WT):Run W [] W
 |cons {W:WT} {r:iK} {rs:List iK} {W':WT} (h:Jy W r) (t:Run (Ah W r) rs W'):Run W (r::rs) W'
variable{W:WT}{da dw:B3}{n h:Nat}{Qc:VK}{R:List Nat}{ps:PS}{d:dF}{eh wh:aX}{o:Own}{cs F G:Fo}
theorem Run.done{W':WT}(h:Run W [] W'):W=W':=by
 cases h
 rfl
def KA(K:mo)(H H':Hp):Prop:=(∀(a:B3)(xs:List V),H a=some (.tup xs)->H' a=some (.tup xs))/\∀(v:V)(d:D),At K H v d->At K H' v d
theorem KA.refl{K:mo}(H:Hp):KA K H H:=⟨λ_ _ e=>e,λ_ _ h=>h⟩
theorem KA.trans{K:mo}{H1 H2:Hp}(a:KA K H H1)(b:KA K H1 H2):KA K H H2:=⟨λx xs e=>b.1 x xs (a.1 x xs e),λv d h=>b.2 v d (a.2 v d h)⟩
theorem KA.same{K:mo}{H H':Hp}(s:af H H'):KA K H H':=⟨λ_ _ e=>s _ _ e,λ_ _ h=>h.same s⟩
theorem KA.lst{K:mo}{H:Hp}{l:B3}{xs ys:List V}(h:H l=some (.lst xs)):KA K H (upd H l (.lst ys)):=⟨λa zs e=>by rw[ak (λz=>by rw[z,h]at e;cases e)];exact e,λv d b=>b.K0 Kp.store h ae⟩
theorem At.Lr{K:mo}{dN:B3}{o:List (Key×V)}(k:Kp dN H H')(a:H dN=some (.dK o)){d:D}(h:At K H v d):At K H' v d:=by
 induction h with
 |non=>exact .non
 |bl b=>exact .bl b
 |int i=>exact .int i
 |str x hx=>exact .str x hx
 |tup h hl _ c=>exact .tup (k _ _ (λz=>by rw[z,a]at h;cases h) h) hl c
 |oth h=>exact .oth (k _ _ (λz=>by rw[z,a]at h;cases h) h)
theorem KA.dict{K:mo}{xs:List (Key×V)}{o:HO}(h:H l=some (.dK xs)):KA K H (upd H l o):=⟨λa zs e=>by rw[ak (λz=>by rw[z,h]at e;cases e)];exact e,λv d b=>At.Lr Kp.store h b⟩
structure Wt where
 dep:Nat
 l:B3
 as:List B3
 pt:List (D×PS)
def gz(t:Wt):Key×V:=(Mw (t.dep:Int),.ref t.l)
def cx(T:List Wt):WT:=T.map λt=>(t.dep,t.pt)
def PQ(K:mo)(H0 H:Hp)(as:List B3)(pt:List (D×PS)):Prop:=as.length=pt.length/\∀(i:Nat)(a:B3)(p:D×PS),as[i]? =some a->pt[i]? =some p->∃(v:V)(da:B3),H a=some (.tup [v,.ref da])/\At K H v p.1/\Told H0 da p.2
theorem PQ.keep{K:mo}{pt:List (D×PS)}(h:PQ K H0 H as pt)(k:KA K H H'):PQ K H0 H' as pt:=⟨h.1,λi a p c d=>by
 obtain⟨v,da,h1,h2,b⟩:=h.2 i a p c d
 exact⟨v,da,k.1 _ _ h1,k.2 _ _ h2,b⟩⟩
theorem PQ.nil{K:mo}:PQ K H0 H [] []:=⟨rfl,λi a p e=>nomatch e⟩
theorem PQ.snoc{K:mo}{pt:List (D×PS)}{p:D×PS}(h:PQ K H0 H as pt)(h1:H a=some (.tup [v,.ref da]))(h2:At K H v p.1)(f:Told H0 da p.2):PQ K H0 H (as++[a]) (pt++[p]):=by
 refine⟨by rw[B1,B1,h.1];rfl,λj b q d e=>?_⟩;by_cases c:j<as.length
 ·rw[LQ c]at d;rw[LQ (by rw[<-h.1];exact c)]at e;exact h.2 j b q d e
 ·rw[GT (by lia)]at d;rw[GT (by rw[<-h.1];lia),<-h.1]at e
  have g:j-as.length=0:=by
   have :=bR d;simp at this;exact CA
  rw[g]at d e
  cases d
  cases e
  exact⟨v,da,h1,h2,f⟩
theorem PQ.rev{K:mo}{pt:List (D×PS)}(h:PQ K H0 H as pt)(s:af H0 H):Cf K H as.reverse pt.reverse:=by
 refine⟨by rw[Nl,Nl,h.1],λj b q a d=>?_⟩
 have c:j<as.length:=by have :=bR a;rw[Nl]at this;exact this
 rw[PF c]at a;rw[PF (by rw[<-h.1];exact c),<-h.1]at d;obtain⟨v,da,h1,h2,e⟩:=h.2 _ b q a d;exact⟨v,da,h1,h2,e.same s⟩
structure qY(K:mo)(H0 H:Hp)(dw:B3)(T:List Wt):Prop where
 dict:H dw=some (.dK (T.map gz))
 lst:∀t∈T,H t.l=some (.lst (t.as.map V.ref))/\PQ K H0 H t.as t.pt/\H0 t.l=none
 ndl:∀t∈T,∀u∈T,t.l=u.l->t=u
 ndd:∀t∈T,∀u∈T,t.dep=u.dep->t=u
theorem qY.same{K:mo}{H0 H H':Hp}{dw:B3}{T:List Wt}(h:qY K H0 H dw T)(s:af H H'):qY K H0 H' dw T:=⟨s _ _ h.dict,λt d=>let⟨a,b,c⟩:=h.lst t d;⟨s _ _ a,b.keep (KA.same s),c⟩,h.ndl,h.ndd⟩
theorem qG{a b:Nat}:(Mw (a:Int):Key)=Mw (b:Int)↔a=b:=⟨λe=>by have :=Sum.inl.inj e;lia,λe=>by rw[e]⟩
variable{T:List Wt}
theorem rP(h:∀t∈T,∀u∈T,t.dep=u.dep->t=u){t:Wt}(a:t∈T):cE (T.map gz) (Mw (t.dep:Int):Key)=some (.ref t.l)/\kids (cx T) t.dep=t.pt/\((cx T).any λp=>decide (p.1=t.dep))=true:=by
 have f1:T.find? (λu=>decide (u.dep=t.dep))=some t:=by
  cases e:T.find? (λu=>decide (u.dep=t.dep))with
  |none=>exact absurd (decide_eq_true rfl) (by have :=List.find?_eq_none.mp e t a;exact this)
  |some u=>rw[h u (OX e) t a (of_decide_eq_true (List.find?_some (p:=λu:Wt=>decide (u.dep=t.dep)) e))]
 refine⟨?_,?_,?_⟩
 ·unfold cE;rw[PR]
  have :((λb:Key×V=>decide (b.1=Mw (t.dep:Int)))∘gz)=λu:Wt=>decide (u.dep=t.dep):=by
   funext u
   exact decide_eq_decide.mpr qG
  rw[this,f1];rfl
 ·unfold kids cx;rw[PR];have :((λp:Nat×List (D×PS)=>decide (p.1=t.dep))∘λu:Wt=>(u.dep,u.pt))=λu:Wt=>decide (u.dep=t.dep):=rfl;rw[this,f1];rfl
 ·unfold cx;rw[Qr,SX];exact⟨t,a,decide_eq_true rfl⟩
theorem m_(h:∀t∈T,t.dep≠n):cE (T.map gz) (Mw (n:Int):Key)=none/\kids (cx T) n=[]/\((cx T).any λp=>decide (p.1=n))=false:=by
 have f1:T.find? (λu=>decide (u.dep=n))=none:=List.find?_eq_none.mpr λu a e=>h u a (of_decide_eq_true e);refine⟨?_,?_,?_⟩
 ·unfold cE;rw[PR]
  have :((λb:Key×V=>decide (b.1=Mw (n:Int)))∘gz)=λu:Wt=>decide (u.dep=n):=by
   funext u
   exact decide_eq_decide.mpr qG
  rw[this,f1];rfl
 ·unfold kids cx;rw[PR];have :((λp:Nat×List (D×PS)=>decide (p.1=n))∘λu:Wt=>(u.dep,u.pt))=λu:Wt=>decide (u.dep=n):=rfl;rw[this,f1];rfl
 ·unfold cx;rw[Qr,Qs];exactλu a e=>h u a (of_decide_eq_true e)
theorem rm(T:List Wt)(n:Nat):jh (T.map gz) (Mw (n:Int):Key)=(T.filter λt=>decide (t.dep≠n)).map gz/\mU (cx T) n=cx (T.filter λt=>decide (t.dep≠n)):=by
 refine⟨?_,?_⟩
 ·unfold jh;rw[List.filter_map]
  congr 2
  funext u
  exact decide_eq_decide.mpr (not_congr qG)
 ·unfold mU cx;rw[List.filter_map];rfl
theorem there(T:List Wt)(n:Nat):(∃t∈T,t.dep=n)∨∀t∈T,t.dep≠n:=by
 by_cases h:∃t∈T,t.dep=n
 ·exact .inl h
 ·exact .inr λt a e=>h ⟨t,a,e⟩
theorem qY.drop{K:mo}(h:qY K H0 H dw T)(n:Nat):qY K H0 (upd H dw (.dK (jh (T.map gz) (Mw (n:Int):Key)))) dw (T.filter λt=>decide (t.dep≠n)):=by
 refine⟨by rw[ae,(rm T n).1],λt d=>?_,λt d u e=>h.ndl t (List.mem_filter.mp d).1 u (List.mem_filter.mp e).1,λt d u e=>h.ndd t (List.mem_filter.mp d).1 u (List.mem_filter.mp e).1⟩;obtain⟨a,b,c⟩:=h.lst t (List.mem_filter.mp d).1;exact⟨by rw[ak (λz=>by rw[z,h.dict]at a;cases a)];exact a,b.keep (KA.dict h.dict),c⟩
theorem qY.put{K:mo}(h:qY K H0 H dw T)(hn:∀t∈T,t.dep≠n)(hl:H l=some (.lst []))(h0:H0 l=none)(g:∀t∈T,t.l≠l):qY K H0 (upd H dw (.dK (putK (T.map gz) (Mw (n:Int):Key) (.ref l)))) dw (T++[⟨n,l,[],[]⟩]):=by
 refine⟨by rw[ae,lJ _ (m_ hn).1,Dk];rfl,λt d=>?_,λt d u f e=>?_,λt d u f e=>?_⟩
 ·rcases List.mem_append.mp d with z|z
  ·obtain⟨a,b,c⟩:=h.lst t z;exact⟨by rw[ak (λz=>by rw[z,h.dict]at a;cases a)];exact a,b.keep (KA.dict h.dict),c⟩
  ·rw[List.mem_singleton.mp z];exact⟨by rw[ak (λz=>by have z':l=dw:=z;rw[z',h.dict]at hl;cases hl)];exact hl,PQ.nil,h0⟩
 ·rcases List.mem_append.mp d with z|z<;>rcases List.mem_append.mp f with y|y
  ·exact h.ndl t z u y e
  ·rw[List.mem_singleton.mp y]at e;exact absurd e (g t z)
  ·rw[List.mem_singleton.mp z]at e;exact absurd e.symm (g u y)
  ·rw[List.mem_singleton.mp z,List.mem_singleton.mp y]
 ·rcases List.mem_append.mp d with z|z<;>rcases List.mem_append.mp f with y|y
  ·exact h.ndd t z u y e
  ·rw[List.mem_singleton.mp y]at e;exact absurd e (hn t z)
  ·rw[List.mem_singleton.mp z]at e;exact absurd e.symm (hn u y)
  ·rw[List.mem_singleton.mp z,List.mem_singleton.mp y]
def iO(n:Nat)(a:B3)(x:D×PS)(t:Wt):Wt:=if t.dep=n then⟨t.dep,t.l,t.as++[a],t.pt++[x]⟩else t
theorem A5{x:Nat×List (D×PS)}(h:cx T=[x]):∃t,T=[t]:=by
 match T,h with
 |[t],_=>exact⟨t,rfl⟩
theorem GS{l:List B3}(h:l.length=1):∃a,l=[a]:=by
 match l,h with
 |[a],_=>exact⟨a,rfl⟩
theorem fH(n:Nat)(a:B3)(x:D×PS)(t:Wt):(iO n a x t).dep=t.dep/\(iO n a x t).l=t.l:=by
 unfold iO
 split<;>exact⟨rfl,rfl⟩
theorem EJ(n:Nat)(a:B3)(x:D×PS)(t:Wt):(iO n a x t).as.length<=t.as.length+1:=by
 unfold iO
 split
 ·rw[B1];exact B6 _
 ·exact Jq
theorem qY.add{K:mo}{i:B3}(h:qY K H0 H dw T){t:Wt}(m:t∈T){x:D×PS}(h1:H i=some (.tup [v,.ref da]))(h2:At K H v x.1)(r:Told H0 da x.2):qY K H0 (upd H t.l (.lst (t.as.map V.ref++[.ref i]))) dw (T.map (iO t.dep i x)):=by
 obtain⟨a,b,c⟩:=h.lst t m;have k:KA K H (upd H t.l (.lst (t.as.map V.ref++[.ref i]))):=KA.lst a;refine⟨?_,λu j=>?_,λu j w n e=>?_,λu j w n e=>?_⟩
 ·rw[ak (λz=>by rw[<-z,h.dict]at a;cases a),h.dict,Mm]
  congr 2
  refine Nk λu _=>?_;show gz u=gz (iO t.dep i x u);unfold gz;rw[(fH _ _ _ _).1,(fH _ _ _ _).2]
 ·obtain⟨f,d,rfl⟩:=List.mem_map.mp j;obtain⟨p,o,c0⟩:=h.lst f d;unfold iO;by_cases e:f.dep=t.dep
  ·rw[if_pos e];have s:=h.ndd f d t m e;subst s;exact⟨by rw[ae,Dk];rfl,(o.keep k).snoc (k.1 _ _ h1) (k.2 _ _ h2) r,c0⟩
  ·rw[if_neg e];have q:f.l≠t.l:=λz=>e (by rw[h.ndl f d t m z]);exact⟨by rw[ak q];exact p,o.keep k,c0⟩
 ·obtain⟨f,d,rfl⟩:=List.mem_map.mp j;obtain⟨w0,g,rfl⟩:=List.mem_map.mp n;rw[(fH _ _ _ _).2,(fH _ _ _ _).2]at e;rw[h.ndl f d w0 g e]
 ·obtain⟨f,d,rfl⟩:=List.mem_map.mp j;obtain⟨w0,g,rfl⟩:=List.mem_map.mp n;rw[(fH _ _ _ _).1,(fH _ _ _ _).1]at e;rw[h.ndd f d w0 g e]
theorem rb(T:List Wt)(n:Nat)(a:B3)(x:D×PS):cx (T.map (iO n a x))=(cx T).map λp=>if p.1=n then(p.1,p.2++[x])else p:=by
 unfold cx;rw[Mm,Mm];refine Nk λt _=>?_
 show((iO n a x t).dep,(iO n a x t).pt)=if t.dep=n then(t.dep,t.pt++[x])else(t.dep,t.pt)
 unfold iO
 split<;>rfl
theorem B_(T:List Wt)(n:Nat)(l a:B3)(x:D×PS)(h:∀t∈T,t.dep≠n):cx ((T++[(⟨n,l,[],[]⟩:Wt)]).map (iO n a x))=cx T++[(n,[x])]:=by
 rw[rb];unfold cx;rw[Dk,Dk]
 congr 1
 ·rw[Mm];refine Nk λt b=>?_;exact if_neg (h t b)
 ·show[if n=n then(n,[]++[x])else(n,[])]=_;rw[if_pos rfl];rfl
theorem GL{K:mo}{G:Hp}{p:B3}(f:qY K H G dw T)(s:af H G)(h0:H dw=none)(q:G p=some (.lst []))(j:T.length<=i)(e:∀t∈T,t.as.length<=i)(r:∀(pl:B3)(d:List B3)(g:Hp)(o:List Wt),g pl=some (.lst (d.map V.ref))->d.length<=i->PQ K H g d (kids (cx T) n)->af H g->qY K H g dw o->cx o=mU (cx T) n->o.length<=i->(∀t∈o,t.as.length<=i)->Qc (.ref pl) g):
  (∃v,cE (T.map gz) (Mw ((n:Nat):Int):Key)=some v/\Qc v (upd G dw (.dK (jh (T.map gz) (Mw ((n:Nat):Int):Key)))))∨(cE (T.map gz) (Mw ((n:Nat):Int):Key)=none/\Qc (.ref p) G):=by
 have w:=(rm T n).2
 rcases there T n with⟨t,h,x⟩|hno
 ·obtain⟨m,k,_⟩:=rP f.ndd h;rw[x]at m k;obtain⟨a,b,c⟩:=f.lst t h;refine .inl ⟨_,m,r t.l t.as _ _ ?_ (e t h) ?_ (af.put s h0) (f.drop n) w.symm (Mu (OE _ _) j) λu y=>e u (List.mem_filter.mp y).1⟩
  ·rw[ak (λz=>by rw[z,f.dict]at a;cases a)];exact a
  ·rw[k];exact b.keep (KA.dict f.dict)
 ·obtain⟨m,k,_⟩:=m_ hno;have A:T.filter (λt=>decide (t.dep≠n))=T:=List.filter_eq_self.mpr λt h=>decide_eq_true (hno t h);refine .inr ⟨m,r p [] G T q (L5 _) (by rw[k];exact PQ.nil) s f (by rw[w,A]) j e⟩
theorem EC{K:mo}{G:Hp}{a:B3}(d:qY K H G dw T)(s:af H G)(h0:H dw=none)(m:H a=none)(hp1:G a=some (.lst []))(w:∀t∈T,t.l≠a)(hi:i<=1000)(h:T.length<=i)(f:∀t∈T,t.as.length<=i)(v:∀(g:Hp)(c:List Wt)(t:Wt),t∈c->t.dep=n->af H g->(∀b o,b≠dw->G b=some o->g b=some o)->KA K G g->qY K H g dw c->(∀p y,cx (c.map (iO n p y))=addW (cx T) n y)->c.length<=i+1->(∀u∈c,u.as.length<=i)->Qc (.ref t.l) g):
  E3 (.ref dw) [.int ((n:Nat):Int),.ref a] G Qc:=by
 refine⟨dw,_,Mw ((n:Nat):Int),.ref a,rfl,rfl,d.dict,small (by rw[be];lia),?_⟩
 rcases there T n with⟨t,r,q⟩|hno
 ·obtain⟨j,_,k⟩:=rP d.ndd r;rw[q]at j k;refine .inl ⟨_,j,v G T t r q s (λ_ _ _ e=>e) (KA.refl _) d (λp y=>?_) (SF h) f⟩;unfold addW;rw[if_pos k,rb]
 ·obtain⟨j,_,k⟩:=m_ hno;refine .inr ⟨j,v _ _ ⟨n,a,[],[]⟩ (List.mem_append.mpr (.inr (List.mem_singleton.mpr rfl))) rfl (af.put s h0) (λb o x e=>by rw[ak x];exact e) (KA.dict d.dict) (d.put hno hp1 m w) (λp y=>?_) (by rw[B1];exact SS h) λu A=>?_⟩
  ·unfold addW;rw[B_ _ _ _ _ _ hno,if_neg (by rw[k];exact GM)]
  ·rcases List.mem_append.mp A with z|z
   ·exact f u z
   ·rw[List.mem_singleton.mp z];exact L5 _
def F0(C:B3)(H:Hp)(xs:List B3)(L:List iK):Prop:=xs.length=L.length/\∀(i:Nat)(x:B3)(r:iK),xs[i]? =some x->L[i]? =some r->∃d,Ck C H x r.dep r.wh.kd r.nm d/\Told H d r.ps
inductive Gr(K:mo)(C:B3)(vs:List V)(H:Hp)(Q:VK):Prop
 |mk (lr:B3) (xs:List B3) (L:List iK) (d:D) (ps:PS) (c0:vs=[.ref lr]) (c1:H lr=some (.lst (xs.map V.ref))) (c2:F0 C H xs L) (c3:L.length<=1000) (c4:Run [] L.reverse [(0,[(d,ps)])]) (c5:∀(v:V)(H':Hp),af H H'->At K H' v d->Q v H')
def EZ(K:mo)(C:B3):Sp:=λvs H Q _=>Gr K C vs H Q
section
variable{K:mo}
abbrev mu:List Str:=["rows","waiting","row","parts"]
theorem dv:ay mu ["rows"] (aj cY):=cL
theorem ki(TC:RowC K C)(F:aZ K "outermost_read" "outermost_read" cY f fd)(N:aR mg)(J:aw P w K mg base aO 4 f1 d1 ["row","parts"] (BF K C))(J1:Cq K mg d1 f1 ["row","parts"] "box_read"):aw P w K mg base aO 5 f fd ["rows"] (EZ K C):=by
 refine F.cS dv λcdv A outer s H vs Q E hr h=>?_
 ·obtain⟨lr,xs,L,d,ps,e,a4,hR,hL,b1,k⟩:=h;subst e;have c3:=hr.mono (j:=4) (by decide)
  have hu:(A.deeper (Mh "outermost_read" (aj cY) s.heap.objs.size f cdv)).units+1<Np:=by have :=hr.units;lia
  have W:(A.deeper (Mh "outermost_read" (aj cY) s.heap.objs.size f cdv)).units<Np:=by have :=hr.units;lia
  refine⟨_,ah (aJ (i:=1) dv.nd rfl (KB rfl) hE)
   (ah (cG Ma rfl (Gp rfl N.rev Q3 (aa (pv 0) ab)) (aV (i:=2) dv.nd rfl (KB rfl))
    (ah (aJ (i:=3) dv.nd rfl (KB rfl) (rN rfl (by rfl) N.list NO (by rfl) N.rev Q3 (aa (bV Nh Py PySem.F.type_dict_pop C4 (pv 1) (aa (aE bM (hY (pv 2) rfl) ag) (aa (bu ab) ab))) ab)))
    (ai (bT (bV LZ L8 L7 bQ (bV Nh QI PySem.F.type_dict_setdefault om (pv 1) (aa (hY (pv 2) rfl) (aa (bu ab) ab))) (aa (aS (aa (pq J c3 J1 (aa (pv 2) (aa (pv 3) ab))) (aa (hY (pv 2) rfl) ab))) ab))))))
   (ah (aQ (mR (aB (Gu W) (aH (uJ rfl) (by rfl) N.list NO (aa (pv 1) ab)) (bu (aa ag ab)) (aG _)) (jM (aB fg (aF br (by rfl) N.len Md (aa (cf hu (pv 1) ag (λ_ _=>rfl)) ab)) ag (aG _)))).pt (ai fc) aC)
   (ai (au (ax av (ax bF (cf hu (pv 1) ag (λ_ _=>rfl)) ag (λ_ _=>rfl)) ag (λ_ _=>rfl)))))),?_⟩
  try rw[bZ]
  refine ar λN1 R=>?_;intro dw Y;generalize m:upd H dw _=H1
  have s1:af H H1:=by rw[<-m];exact af.put (af.refl _) Y
  have h1:H1 dw=some (.dK []):=by rw[<-m];exact ae
  clear m;refine R _ _ (ar λN1 R=>?_);refine⟨_,rfl,lr,_,rfl,bg.of (s1 _ _ a4),EI (K:=K) (a:=lr) (xs:=xs.map V.ref) (λi σ G=>∃(u2 u3:Option V)(T:List Wt),σ=[some (.ref lr),some (.ref dw),u2,u3]/\af H G/\qY K H G dw T/\Run (cx T) (L.reverse.drop i) [(0,[(d,ps)])]/\T.length<=i/\∀t∈T,t.as.length<=i) ⟨_,_,[],rfl,s1,⟨h1,(λt y=>nomatch y),(λt y=>nomatch y),(λt y=>nomatch y)⟩,b1,L5 _,(λt y=>nomatch y)⟩ (λi σ G _ c9=>by obtain⟨_,_,_,_,z,_⟩:=c9;exact bg.of (z _ _ a4)) ?_ ?_⟩
  ·rintro i x σ G hi hx ⟨u2,u3,T,rfl,sG,hW,g,a1,a9⟩;rw[be]at hi hx
   have b3:i<L.length:=by rw[<-hR.1];exact hi
   rw[B7]at hx
   cases ex:xs[xs.length-1-i]? with
   |none=>rw[ex]at hx;cases hx
   |some xr=>
    rw[ex]at hx
    cases hx
    have er:L[L.length-1-i]? =some L[L.length-1-i]:=AC (by lia)
    have D:L.reverse.drop i=L[L.length-1-i]::L.reverse.drop (i+1):=by
     rw[List.drop_eq_getElem_cons (by rw[Nl];exact b3),List.getElem_reverse]
    obtain⟨dt,⟨dx,M⟩,a7⟩:=hR.2 _ xr _ ex (by rw[hR.1];exact er);generalize L[L.length-1-i]=r at *;rw[D]at g
    obtain⟨p,Z⟩:Jy (cx T) r/\Run (Ah (cx T) r) (L.reverse.drop (i+1)) [(0,[(d,ps)])]:=by
     cases g with
     |cons h t=>exact⟨h,t⟩
    clear g D er ex;have c7:=sG _ _ M;refine ar λN2 a3=>?_;refine⟨_,rfl,.inr (.inr (.inl ⟨rfl,.inl ⟨_,hW.dict⟩⟩)),_,rfl,xr,C,dx,_,_,rfl,c7,TC.cl,TC.nD,rfl,_,_,rfl,rfl,(by show 0<=sizeLine;decide),λp0 b5=>?_⟩;generalize m:upd G p0 _=J
    have g1:af G J:=by rw[<-m];exact af.put (af.refl _) b5
    have q1:J p0=some (.lst []):=by rw[<-m];exact ae
    clear m;refine⟨dw,_,Mw ((r.dep+1:Nat):Int),.ref p0,rfl,rfl,g1 _ _ hW.dict,GL (hW.same g1) (af.trans sG g1) Y q1 a1 a9 λpl O X T2 d0 d6 d5 s2 a8 ep a2 a5=>⟨pl,_,rfl,bg.of d0,λl hl=>?_⟩⟩;refine a3 _ _ ?_;clear a3 N2;generalize m:upd X l _=G3
    have g3:af X G3:=by rw[<-m];exact af.put (af.refl _) hl
    have h3:G3 l=some (.lst (O.map V.ref).reverse):=by rw[<-m];exact ae
    clear m;have s3:=af.trans s2 g3;have I:=a8.same g3;clear a8;refine⟨_,rfl,.inr (.inr (.inl ⟨rfl,.inl ⟨_,I.dict⟩⟩)),_,rfl,xr,C,dx,_,_,rfl,s3 _ _ M,TC.cl,TC.nD,rfl,(by show 0<=sizeLine;decide),λp1 hp1=>?_⟩;generalize m:upd G3 p1 _=G4
    have g4:af G3 G4:=by rw[<-m];exact af.put (af.refl _) hp1
    have h4:G4 p1=some (.lst []):=by rw[<-m];exact ae
    clear m;have s4:=af.trans s3 g4;have d4:=I.same g4;have hf:∀t∈T2,t.l≠p1:=λt y=>aM (I.lst t y).1 hp1;have c5:H p1=none:=s3.free hp1;dsimp only[e_];refine EC (n:=r.dep) (i:=i) d4 s4 Y c5 h4 hf (by lia) a2 a5 λG5 T5 t y et s5 k5 b9 a6 c8 c0 a0=>?_
    have c1:l≠dw:=λz=>by rw[z]at h3;have :=I.dict;rw[h3]at this;cases this
    have l5:G5 l=some (.lst (O.reverse.map V.ref)):=by
     rw[List.map_reverse];exact k5 _ _ c1 (g4 _ _ h3)
    have c4:Cf K G5 O.reverse (kids (cx T) (r.dep+1)).reverse:=(d5.keep (KA.trans (KA.same (af.trans g3 g4)) b9)).rev s5;obtain⟨lt,_,_⟩:=a6.lst t y;refine⟨.inl ⟨rfl,_,bg.of lt⟩,_,rfl,_,rfl,xr,l,dt,r.dep,r.nm,r.ps,O.reverse,(kids (cx T) (r.dep+1)).reverse,r.own,r.wh,rfl,⟨⟨dx,s5 _ _ M⟩,a7.same s5,l5,c4⟩,⟨by rw[Nl];lia,p.nm⟩,p.own,p.what,λv G6 g6 hv=>?_⟩;have s6:=af.trans s5 g6;have d2:=a6.same g6;refine⟨_,rfl,xr,C,dx,_,_,rfl,s6 _ _ M,TC.cl,TC.nT,rfl,(by show 2<=sizeLine;decide),λS c6=>?_⟩;generalize m:upd G6 S _=G7
    have g7:af G6 G7:=by rw[<-m];exact af.put (af.refl _) c6
    have h7:G7 S=some (.tup [v,.ref dt]):=by rw[<-m];exact ae
    clear m;have s7:=af.trans s6 g7;have b2:=d2.same g7;obtain⟨b7,_,l0⟩:=b2.lst t y;refine⟨t.l,_,.ref S,rfl,rfl,b7,small (by rw[be];have :=a0 t y;lia),?_⟩;refine(show∃u2 u3 T,_ from⟨_,_,T5.map (iO t.dep S (mf r (kids (cx T) (r.dep+1)).reverse)),rfl,af.put s7 l0,b2.add y h7 (hv.same g7) a7,?_,by rw[be];exact c0,λu hu=>?_⟩)
    ·rw[et,c8,ep];exact Z
    ·obtain⟨u0,W,rfl⟩:=List.mem_map.mp hu;have :=EJ t.dep S (mf r (kids (cx T) (r.dep+1)).reverse) u0;have :=a0 u0 W
     lia
  ·rintro σ G ⟨u2,u3,T,rfl,sG,hW,g,a1,a9⟩;refine R _ _ ?_;clear R N1;rw[be,hR.1,RN (by rw[Nl];exact B6 _)]at g;have eT:cx T=[(0,[(d,ps)])]:=g.done;obtain⟨t,rfl⟩:=A5 eT
   ·have e1:(t.dep,t.pt)=(0,[(d,ps)]):=(List.cons.inj eT).1;have ed:t.dep=0:=congrArg Q4 e1;have d3:t.pt=[(d,ps)]:=congrArg Prod.snd e1;obtain⟨a,b,c⟩:=hW.lst t Do;rw[d3]at b;obtain⟨S,c2⟩:=GS (l:=t.as) b.1
    ·rw[c2]at a b;obtain⟨v,da,z1,z2,z3⟩:=b.2 0 S (d,ps) rfl rfl
     have b0:[t].map gz=[((Mw ((0:Nat):Int):Key),V.ref t.l)]:=by
      show[gz t]=_;unfold gz;rw[ed]
     have o:=hW.dict;rw[b0]at o;refine ar λN1 R=>?_;refine⟨_,rfl,dw,_,rfl,.inl o,λq hq=>?_⟩;generalize m:upd G q _=J
     have g1:af G J:=by rw[<-m];exact af.put (af.refl _) hq
     have b4:J q=some (.lst [.int 0]):=by rw[<-m];exact ae
     clear m;refine⟨(by show 1<=sizeLine;decide),λq2 b6=>?_⟩;generalize m:upd J q2 _=X
     have g2:af J X:=by rw[<-m];exact af.put (af.refl _) b6
     have h2:X q2=some (.lst [.int 0]):=by rw[<-m];exact ae
     clear m;have B:=af.trans g1 g2;have b8:=B _ _ o;refine⟨q,q2,_,_,rfl,rfl,bg.of (g2 _ _ b4),bg.of h2,rfl,rfl,rfl,_,rfl,aN (by decide +kernel) ?_⟩;have U:gC X dw (.int 0) (some (.ref t.l)):=gC.k (k:=Mw 0) b8;refine⟨_,rfl,dw,_,rfl,U,t.l,_,rfl,.inl (bg.of (B _ _ a)),rfl,_,rfl,aN (by rw[be];show(!decide (V.int 1=V.int 1))=false;decide) ?_⟩;refine R _ _ ?_;clear R N1;exact⟨_,rfl,dw,_,rfl,U,t.l,_,_,_,rfl,rfl,bg.of (B _ _ a),aA (j:=0) rfl,S,_,_,_,rfl,rfl,aT.of (B _ _ z1),aA (j:=0) rfl,k v X (af.trans sG B) (z2.same B)⟩
end
def fD:Fo->List D
 | .nil=>[]
 | .cons _ d cs as=>iA d.wh.kd d.nm d.own d.wh (fD cs)::fD as
theorem BL:∀F:Fo,(fD F).length=F.bt.length
 | .nil=>rfl
 | .cons a d cs as=>by
  show(fD as).length+1=as.bt.length+1;rw[BL as]
theorem pre_of{q S T Z:List Nat}(h:q++S=T++Z)(e:32∉T)(hS:S=[]∨S.head?=some 32):T<+:q:=by
 rcases List.append_eq_append_iff.mp h with⟨a,b,d⟩|⟨c,b,d⟩
 ·cases a with
  |nil=>rw[b,FB];exact List.prefix_refl _
  |cons x a=>
   rcases hS with hS|hS
   ·rw[hS]at d;cases d
   ·rw[d]at hS
    have :x=32:=by injection hS
    exact absurd (by rw[b,this];simp) e
 ·rw[b];exact List.prefix_append _ _
theorem mv(Y p q:List Nat)(r:List (List Nat)):du Y (p::q::r)=p++(Y++du Y (q::r)):=rfl
theorem uE(q:List Nat)(r:List (List Nat))(R:List Nat)(a:R=[]∨R.head?=some 32):∃S,du [32] (q::r)++R=q++S/\(S=[]∨S.head?=some 32):=by
 cases r with
 |nil=>exact⟨R,rfl,a⟩
 |cons p r=>
  refine⟨[32]++du [32] (p::r)++R,?_,.inr rfl⟩;rw[mv,LW]
theorem pU{T:List Nat}(b:32∉T)(f:R=[]∨R.head?=some 32):∀(ps:List (List Nat)),(∀p∈ps,32∉p)->(∀q∈ps.tail,¬T<+:q)->∀(k:Nat)(Z:List Nat),k<(du [32] ps).length->(du [32] ps++R).drop k≠(32::T)++Z
 |[],_,_,k,Z,a=>absurd a (Nx _)
 |[p],d,_,k,Z,a=>λe=>by
  have a:k<p.length:=a;have e:(p++R).drop k=(32::T)++Z:=e
  have c:((p++R).drop k)[0]? =some 32:=by rw[e];rfl
  rw[Ow,RI,LQ a]at c;exact d p Do (Fk c)
 |p::q::r,d,g,k,Z,a=>λe=>by
  rw[mv]at e a;by_cases l:k<p.length
  ·have c:((p++([32]++du [32] (q::r))++R).drop k)[0]? =some 32:=by rw[e];rfl
   rw[Ow,RI,LW,LQ l]at c;exact d p Do (Fk c)
  ·by_cases n:k=p.length
   ·rw[n,LW,OB,LW]at e;have h:du [32] (q::r)++R=T++Z:=(List.cons.inj e).2;obtain⟨S,j,m⟩:=uE q r R f;rw[j]at h;exact g q Do (pre_of h b m)
   ·have i:k=p.length+(1+(k-p.length-1)):=by lia
    rw[i,<-OV,LW,OB,<-OV,LW]at e;have e:(du [32] (q::r)++R).drop (k-p.length-1)=(32::T)++Z:=e;refine pU b f (q::r) (λx hx=>d x (GE _ hx)) (λx hx=>g x (GE _ hx)) _ Z ?_ e;rw[B1,B1]at a;have :([32]:List Nat).length=1:=rfl
    lia
theorem BP{k:Nat}(h:PySem.StrLaws.At x y x.length k):∃Z,x.cps.toList.drop k=y.cps.toList++Z:=by
 have h2:=h.2;rw[PySem.StrLaws.subAt_eq,beq_iff_eq]at h2;exact⟨(x.cps.toList.drop k).drop y.length,by rw[<-h2,RY]⟩
abbrev Tx:List Nat:=[116,101,120,116,61]
theorem kL:(" text=":Str).cps.toList=32::Tx:=by decide +kernel
theorem wy:(" ":Str).cps.toList=[32]:=by decide +kernel
theorem D1:("\n":Str).cps.toList=[10]:=by decide +kernel
theorem app_list(x y:Str):(x++y).cps.toList=x.cps.toList++y.cps.toList:=by
 show(x.cps++y.cps).toList=_;rw[LX]
theorem wc(x y z:Str):(x++y)++z=x++(y++z):=nk (by rw[app_list,app_list,app_list,app_list,LW])
theorem join_snoc(y x:Str):∀ws:List Str,ws≠[]->Mr y (ws++[x])=Mr y ws++(y++x)
 |[],h=>absurd rfl h
 |[w],_=>nk (by
  rw[join_list,app_list,join_list,app_list]
  rfl)
 |w::v::r,_=>nk (by
  have a:=congrArg (λs:Str=>s.cps.toList) (join_snoc y x (v::r) (MZ _ _));rw[join_list,app_list,app_list,join_list]at a;rw[join_list,app_list,app_list,join_list];show w.cps.toList++(y.cps.toList++du y.cps.toList (((v::r)++[x]).map λp=>p.cps.toList))=(w.cps.toList++(y.cps.toList++du y.cps.toList ((v::r).map λp=>p.cps.toList)))++_;rw[a]
  simp)
theorem xA{ws:List Str}(j:ws≠[])(b:∀w∈ws,32∉w.cps.toList)(i:∀w∈ws.tail,¬Tx<+:w.cps.toList)(tx:Str)(z:Str)(hz:z=if tx=""then Mr " " ws else Mr " " ws++(" text="++tx)):∃m:Str,parted z " text="=[Mr " " ws,m,tx]:=by
 have c:(Mr " " ws).cps.toList=du [32] (ws.map λp=>p.cps.toList):=by rw[join_list,wy]
 have c1:∀p∈ws.map (λp=>p.cps.toList),32∉p:=λp l=>by
  obtain⟨w,d,rfl⟩:=List.mem_map.mp l;exact b w d
 have c2:∀q∈(ws.map λp=>p.cps.toList).tail,¬Tx<+:q:=λq h=>by
  rw[<-List.map_tail]at h;obtain⟨w,d,rfl⟩:=List.mem_map.mp h;exact i w d
 by_cases e:tx=""
 ·rw[if_pos e]at hz;subst hz e;refine⟨Pc,?_⟩;rw[za]
  ·rfl
  ·intro k g;obtain⟨Z,a⟩:=BP g;rw[kL,c]at a;by_cases q:k<(du [32] (ws.map λp=>p.cps.toList)).length
   ·refine pU (by decide) (.inl rfl) _ c1 c2 k Z q ?_;rw[FB];exact a
   ·rw[RN (by lia)]at a
    cases a
 ·rw[if_neg e]at hz;refine⟨" text=",oy kL hz λk g f=>?_⟩;obtain⟨Z,a⟩:=BP f;rw[kL,hz,app_list,app_list,c,kL]at a;refine pU (by decide) (R:=(32::Tx)++tx.cps.toList) (.inr rfl) _ c1 c2 k Z ?_ a;rw[<-c,dV];exact g
abbrev cW:List (Str×Str):=[("wide","0..1000000"),("high","0..1000000"),("grow","0"),("shrink","1"),("rank","0"),("alike","0"),("wish","0,0"),("columns","1"),("gap","0"),("align","start"),("side","left"),("joint","50"),("span","1,1"),("float","left"),("at","start,0,start,0")]
def fI(ps:PS)(p:Str×Str):List (Str×Str):=if(lk ps p.1).getD p.2=p.2 then[]else[(p.1,(lk ps p.1).getD p.2)]
def kvsOf(ps:PS):PS:=cW.flatMap (fI ps)
def fQ(ps:PS):Str:=(lk ps "text").getD ""
def toldOf(ps:PS):PS:=putAll bx (kvsOf ps++[(("text":Str),fQ ps)])
theorem CD(ps:PS)(p:Str×Str):pick ps p=(fI ps p).map iE:=by
 unfold pick fI
 split
 ·rfl
 ·show _=[iE _];unfold iE;rw[wc]
theorem xc(ps:PS):∀l:List (Str×Str),l.flatMap (pick ps)=(l.flatMap (fI ps)).map iE
 |[]=>rfl
 |p::l=>by rw[Mx,Mx,Dk,xc ps l,CD]
theorem HN:("text":Str)++"="="text=":=by decide +kernel
theorem oJ(ps:PS):bx.flatMap (pick ps)=(kvsOf ps).map iE++(if fQ ps=""then[]else["text="++fQ ps]):=by
 have e:bx=cW++[(("text":Str),("":Str))]:=rfl;rw[e,Oe,xc]
 congr 1
 show pick ps ("text","")++[]=_;rw[FB];unfold pick;show(if fQ ps=""then[]else[("text"++"=")++fQ ps])=_;rw[HN]
theorem dz(p:Str×Str)(r:PS)(j:Str):lk (p::r) j=if p.1=j then some p.2 else lk r j:=by
 unfold lk;by_cases e:p.1=j
 ·rw[if_pos e,Pm (by simpa using e)];rfl
 ·rw[if_neg e,RM (by simpa using e)]
theorem wV{j:Str}(h:j∉ps.map (·.1)):lk ps j=none:=by
 unfold lk;rw[List.find?_eq_none.mpr]
 ·rfl
 ·intro p a e;exact h (by rw[<-of_decide_eq_true e];exact M5 a)
theorem wO{j v:Str}(h:lk ps j=some v):(j,v)∈ps:=by
 unfold lk at h;obtain⟨p,a,e⟩:=Option.map_eq_some_iff.mp h;have h1:=OX a;have h2:=of_decide_eq_true (List.find?_some (p:=λp:Str×Str=>decide (p.1=j)) a);rw[<-h2,<-e];exact h1
theorem CT(ps:PS)(k v j:Str):lk (nP ps k v) j=if j=k then some v else lk ps j:=by
 unfold nP;by_cases c:(ps.any λp=>decide (p.1=k))=true
 ·rw[if_pos c]
  induction ps with
  |nil=>cases c
  |cons p r h=>
   rw[Mc,dz,dz];by_cases e:p.1=k
   ·rw[if_pos e];by_cases a:p.1=j
    ·rw[if_pos a,if_pos (a.symm.trans e)]
    ·have i:j≠k:=λz=>a (e.trans z.symm);rw[if_neg a,if_neg i,if_neg a];by_cases b:(r.any λp=>decide (p.1=k))=true
     ·rw[h b,if_neg i]
     ·have n:r.map (λp=>if p.1=k then(p.1,v)else p)=r:=by
       have :=Nk (l:=r) (f:=λp=>if p.1=k then(p.1,v)else p) (g:=id) λp d=>if_neg λz=>b (List.any_eq_true.mpr ⟨p,d,decide_eq_true z⟩);rw[this,QE]
      rw[n]
   ·rw[if_neg e]
    have b:(r.any λp=>decide (p.1=k))=true:=by
     rw[OJ,decide_eq_false e,Bool.false_or]at c;exact c
    rw[h b];by_cases a:p.1=j
    ·rw[if_pos a,if_pos a,if_neg (λz=>e (a.trans z))]
    ·rw[if_neg a,if_neg a]
 ·rw[if_neg c,fL]
  have m:lk ps k=none:=wV λz=>by
   obtain⟨p,d,e⟩:=List.mem_map.mp z;exact c (List.any_eq_true.mpr ⟨p,d,decide_eq_true e⟩)
  by_cases e:j=k
  ·rw[e,m,if_pos rfl,dz,if_pos rfl];rfl
  ·rw[if_neg e,dz,if_neg (Da e)]
   cases lk ps j<;>rfl
theorem jZ(j:Str):∀(kvs ps:PS),(kvs.map (·.1)).Nodup->lk (putAll ps kvs) j=(lk kvs j).or (lk ps j)
 |[],ps,_=>rfl
 |p::r,ps,h=>by
  rw[Mc,QL]at h;show lk (putAll (nP ps p.1 p.2) r) j=_;rw[jZ j r _ h.2,CT,dz];by_cases e:p.1=j
  ·rw[if_pos e,if_pos e.symm,wV (by rw[<-e];exact h.1)];rfl
  ·rw[if_neg e,if_neg (Da e)]
theorem flat_keys(ps:PS):∀l:List (Str×Str),((l.flatMap (fI ps)).map (·.1)).Sublist (l.map (·.1))
 |[]=>SI _
 |p::l=>by
  rw[Mx,Dk,Mc];unfold fI
  split
  ·exact(flat_keys ps l).cons _
  ·exact(flat_keys ps l).cons₂ _
theorem we(ps:PS):((kvsOf ps++[(("text":Str),fQ ps)]).map (·.1)).Nodup:=by
 rw[Dk];have h:((kvsOf ps).map (λp=>p.1)++[("text":Str)]).Sublist (cW.map (λp=>p.1)++[("text":Str)]):=(flat_keys ps cW).append (SI _);exact h.nodup (by decide +kernel)
theorem wW(ps:PS):∀(l:List (Str×Str)),(l.map (·.1)).Nodup->∀p∈l,lk (l.flatMap (fI ps)) p.1=if(lk ps p.1).getD p.2=p.2 then none else some ((lk ps p.1).getD p.2)
 |[],_,p,hp=>nomatch hp
 |q::l,nd,p,hp=>by
  rw[Mc,QL]at nd;rw[Mx,fL]
  rcases List.mem_cons.mp hp with rfl|hp
  ·have hn:lk (l.flatMap (fI ps)) p.1=none:=wV λz=>nd.1 ((flat_keys ps l).subset z);rw[hn];unfold fI
   split
   ·rfl
   ·rw[dz,if_pos rfl];rfl
  ·have a:q.1≠p.1:=λe=>nd.1 (by rw[e];exact M5 hp)
   have b:lk (fI ps q) p.1=none:=by
    unfold fI
    split
    ·rfl
    ·rw[dz,if_neg a];rfl
   rw[b,wW ps l nd.2 p hp];rfl
theorem rE:∀p∈cW,lk bx p.1=some p.2/\p.1≠"text":=by decide +kernel
theorem Dz(ps:PS):∀p∈cW,lk (toldOf ps) p.1=some ((lk ps p.1).getD p.2):=λp a=>by
 obtain⟨h1,h2⟩:=rE p a;unfold toldOf;rw[jZ _ _ _ (we ps),h1,fL,dz,if_neg (Da h2)];have e:=wW ps cW (by decide +kernel) p a;have e:lk (kvsOf ps) p.1=_:=e;rw[e];by_cases c:(lk ps p.1).getD p.2=p.2
 ·rw[if_pos c,c];rfl
 ·rw[if_neg c];rfl
theorem wC(ps:PS):lk (toldOf ps) "text"=some (fQ ps):=by
 unfold toldOf;rw[jZ _ _ _ (we ps),fL,dz,if_pos rfl,wV λz=>?_]
 ·rfl
 ·have :=(flat_keys ps cW).subset z
  revert this
  decide +kernel
def Cl(x:Str):Prop:=∀c∈x.cps.toList,33<=c
def Cz(x:Str):Prop:=∀c∈x.cps.toList,32<=c
theorem Cl.cz(h:Cl x):Cz x:=λc a=>SG (h c a)
theorem Cl.app(h:Cl x)(g:Cl y):Cl (x++y):=λc a=>by
 rw[app_list]at a
 rcases List.mem_append.mp a with z|z
 ·exact h c z
 ·exact g c z
theorem Cz.app(h:Cz x)(g:Cz y):Cz (x++y):=λc a=>by
 rw[app_list]at a
 rcases List.mem_append.mp a with z|z
 ·exact h c z
 ·exact g c z
theorem Cl.no(h:Cl x):32∉x.cps.toList:=λz=>by have :=h 32 z;lia
theorem dZ(i:Int):Cl (nS i):=λc a=>by
 by_cases q:c<33
 ·exact absurd a (jm (.inl CI) i)
 ·lia
theorem E4:Cl "..":=by unfold Cl;decide +kernel
theorem ri:Cl ",":=by unfold Cl;decide +kernel
theorem ql(h:Cl s)(a b:Int):Cl (two s a b):=(dZ a).app (h.app (dZ b))
theorem ly(h:Vs s):Cl s:=by
 rcases h with rfl|rfl<;>(unfold Cl;decide +kernel)
theorem IK(h:s="start"∨s="end"∨s="mid"∨s="mid2"):Cl s:=by
 rcases h with rfl|rfl|rfl|rfl<;>(unfold Cl;decide +kernel)
theorem E6(h:s="start"∨s="mid"∨s="mid2"∨s="end"):Cl s:=by
 rcases h with rfl|rfl|rfl|rfl<;>(unfold Cl;decide +kernel)
theorem vo:Cl "":=by unfold Cl;decide +kernel
theorem vU(h:Cl p.1.1)(g:Cl p.2.1):Cl (four p):=h.app (ri.app ((dZ _).app (ri.app (g.app (ri.app (dZ _))))))
theorem kP(b:Cz y):∀{ws:List Str},(∀w∈ws,Cz w)->Cz (Mr y ws)
 |[],_=>λc a=>by
  rw[join_list]at a
  cases a
 |[w],h=>λc a=>by
  rw[join_list]at a;exact h w Do c a
 |w::v::r,h=>λc a=>by
  have d:=kP b (ws:=v::r) λx hx=>h x (GE _ hx);rw[join_list]at a;have a:c∈w.cps.toList++(y.cps.toList++du y.cps.toList ((v::r).map λp=>p.cps.toList)):=a
  rcases List.mem_append.mp a with z|z
  ·exact h w Do c z
  ·rcases List.mem_append.mp z with z|z
   ·exact b c z
   ·rw[<-join_list]at z;exact d c z
theorem ES:Cz " ":=by unfold Cz;decide +kernel
theorem Ft:Cz "|":=by unfold Cz;decide +kernel
theorem Ax(h:G_ ws):Cz (jL ws):=by
 unfold jL;rw[join_eq];refine kP ES λw a=>?_;obtain⟨v,b,rfl⟩:=List.mem_map.mp a;rw[join_eq];exact kP Ft λx hx c d=>SG (h v b x hx c d).1
def cO(d:dF)(eh:aX)(i:Nat):PS:=cD d.own++(bw d.wh++bG eh i)
abbrev Jf(p:Str×Str):Prop:=Cz p.2/\(p.1≠"text"->Cl p.2)
theorem dQ{k:Str}(h:Cl x):Jf (k,x):=⟨h.cz,λ_=>h⟩
theorem Es{k:Nat}(v:Vw d.wh m)(f:Vw eh k):∀p∈cO d eh i,Jf p:=by
 have A:∀p∈cD d.own,Jf p:=all_cons (dQ (ql E4 _ _)) (all_cons (dQ (ql E4 _ _)) (all_cons (dQ (dZ _)) (all_cons (dQ (dZ _)) (all_cons (dQ (dZ _)) (all_cons (dQ (dZ _)) all_nil)))))
 have B:∀p∈bw d.wh,Jf p:=by
  generalize d.wh=wh at v
  cases wh with
  |leaf a b=>exact all_cons (dQ (ql ri _ _)) all_nil
  |lined k g al sd=>exact all_cons (dQ (dZ _)) (all_cons (dQ (IK v.2.2.1)) (all_cons (dQ (ly v.2.2.2)) all_nil))
  |table c g sd sps=>exact all_cons (dQ (dZ _)) (all_cons (dQ (dZ _)) (all_cons (dQ (ly v.2.2.2.1)) all_nil))
  |words ws j=>exact all_cons ⟨Ax v.2.1,λz=>absurd rfl z⟩ (all_cons (dQ (dZ _)) all_nil)
  |flow sds ws j=>exact all_cons ⟨Ax v.2.2.2.1,λz=>absurd rfl z⟩ (all_cons (dQ (dZ _)) all_nil)
  |over ps=>exact all_nil
 have C:∀p∈bG eh i,Jf p:=by
  cases eh with
  |leaf a b=>exact all_nil
  |lined k g al sd=>exact all_nil
  |words ws j=>exact all_nil
  |table c g sd sps=>exact all_cons (dQ (ql ri _ _)) all_nil
  |flow sds ws j=>
   refine all_cons (dQ ?_) all_nil;rw[Ki]
   cases e:sds[i]? with
   |none=>exact ly (.inl rfl)
   |some q=>exact ly (f.2.2.1 q (Fk e))
  |over ps=>
   cases i with
   |zero=>exact all_nil
   |succ i=>
    refine all_cons (dQ ?_) all_nil;rw[Ki]
    cases e:ps[i]? with
    |none=>exact vU vo vo
    |some q=>
     obtain⟨h,n⟩:=f.2.2 q (Fk e);exact vU (E6 h.1) (E6 n.1)
 intro p l
 rcases List.mem_append.mp l with z|z
 ·exact A p z
 ·rcases List.mem_append.mp z with z|z
  ·exact B p z
  ·exact C p z
theorem rj(n:Nat):(lU "  " n).cps.toList=Mo (2*n) 32:=by
 have b:∀(n:Nat)(a:Array Nat),((Mo n ("  ":Str).cps).foldl (·++·) a).toList=a.toList++Mo (2*n) 32:=by
  intro n
  induction n with
  |zero=>intro a;simp
  |succ n c=>
   intro a;rw[P0,Pv,c]
   have e:("  ":Str).cps.toList=[32,32]:=by decide +kernel
   rw[LX,e,show 2*(n+1)=2+2*n by lia,<-List.replicate_append_replicate,LW];rfl
 have :=b n #[];exact this
theorem Jo(wh:aX):Cl wh.kd/\wh.kd≠"":=by
 have :wh.kd∈(["leaf","row","column","wrap","table","words","flow","over"]:List Str):=by
  cases wh with
  |lined k g al sd=>
   match k with
   |0=>simp[aX.kd]
   |1=>simp[aX.kd]
   |k+2=>simp[aX.kd]
  |_=>simp[aX.kd]
 revert this
 generalize wh.kd=x
 have :∀x∈(["leaf","row","column","wrap","table","words","flow","over"]:List Str),Cl x/\x≠"":=by
  unfold Cl;decide +kernel
 exact this x
theorem vK:∀p∈cW,61∉p.1.cps.toList/\Cl p.1/\Tx.take (min 5 (p.1.cps.toList.length+1))≠(p.1.cps.toList++[61]).take (min 5 (p.1.cps.toList.length+1)):=by
 unfold Cl;decide +kernel
theorem pT{q:Str×Str}(h:q∈kvsOf ps):∃p∈cW,q.1=p.1/\(q.1,q.2)∈ps:=by
 unfold kvsOf at h;obtain⟨p,b,a⟩:=List.mem_flatMap.mp h;unfold fI at a
 split at a
 ·cases a
 ·rename_i c
  rw[List.mem_singleton.mp a]
  cases e:lk ps p.1 with
  |none=>rw[e]at c;exact absurd rfl c
  |some v=>exact⟨p,b,rfl,wO e⟩
theorem CB(p:Str×Str):(iE p).cps.toList=p.1.cps.toList++(61::p.2.cps.toList):=by
 unfold iE;rw[app_list,app_list];rfl
theorem EL{p:Str×Str}{v:Str}(h:p∈cW):¬Tx<+:(iE (p.1,v)).cps.toList:=λ⟨Z,a⟩=>by
 rw[CB]at a;refine(vK p h).2.2 ?_;have e:=congrArg (List.take (min 5 (p.1.cps.toList.length+1))) a;have b:(Tx++Z).take (min 5 (p.1.cps.toList.length+1))=Tx.take (min 5 (p.1.cps.toList.length+1)):=OL (by show min 5 _<=5;lia)
 have c:(p.1.cps.toList++(61::v.cps.toList)).take (min 5 (p.1.cps.toList.length+1))=(p.1.cps.toList++[61]).take (min 5 (p.1.cps.toList.length+1)):=by
  rw[show p.1.cps.toList++(61::v.cps.toList)=(p.1.cps.toList++[61])++v.cps.toList by simp];exact OL (by rw[B1];show _<=_+1;lia)
 rw[b,c]at e;exact e
theorem DS(h:Vn x):¬Tx<+:x.cps.toList:=λa=>by
 have :61∈x.cps.toList:=a.subset (by decide);have :=(h.2.2 61 this).1
 lia
theorem Ez(g:d.wh.Good)(a:eh.Good):L1 " " (dJ d eh i)=if fQ (cO d eh i)=""then Mr " " (d.wh.kd::d.nm::(kvsOf (cO d eh i)).map iE)else Mr " " (d.wh.kd::d.nm::(kvsOf (cO d eh i)).map iE)++(" text="++fQ (cO d eh i)):=by
 rw[join_eq,k_ g a];show Mr " " (d.wh.kd::d.nm::bx.flatMap (pick (cO d eh i)))=_;rw[oJ];by_cases c:fQ (cO d eh i)=""
 ·rw[if_pos c,if_pos c,FB]
 ·rw[if_neg c,if_neg c];have e:=join_snoc " " ("text="++fQ (cO d eh i)) (d.wh.kd::d.nm::(kvsOf (cO d eh i)).map iE) (MZ _ _)
  have b:(" ":Str)++("text="++fQ (cO d eh i))=" text="++fQ (cO d eh i):=by
   rw[<-wc]
   congr 1
  rw[b]at e;exact e
theorem wA{ws:List Str}{k:Str}(h:Cl k)(a:k≠""):((Mr " " (k::ws)).cps.toList++R).head?≠some 32:=by
 have e:∃S,(Mr " " (k::ws)).cps.toList=k.cps.toList++S:=by
  rw[join_list]
  cases ws with
  |nil=>exact⟨[],(FB _).symm⟩
  |cons w r=>exact⟨_,rfl⟩
 obtain⟨S,e⟩:=e;rw[e,LW]
 cases q:k.cps.toList with
 |nil=>exact absurd (nk (by rw[q];decide +kernel)) a
 |cons c r=>
  intro z
  have :c=32:=by injection z
  have :=h c (by rw[q];exact Do)
  lia
theorem HI{k:Nat}(g:d.wh.Good)(go:d.own.Good)(s:eh.Good)(v:Vw d.wh m)(I:Vw eh k)(B:Vn d.nm)(hn:n<=200):Gm (B09P.cg d n eh i) n d.wh.kd d.nm (kvsOf (cO d eh i)) (fQ (cO d eh i))/\Cz (B09P.cg d n eh i):=by
 have r:d.nm.length<=60:=by have :=B.2.1;exact cV
 have E:=i_ (i:=i) hn g go r s;obtain⟨H,_⟩:=jG (i:=i) g go r s;have F:=Es (d:=d) (eh:=eh) (i:=i) v I;have u:=Ez (d:=d) (eh:=eh) (i:=i) g s;obtain⟨k1,k2⟩:=Jo d.wh
 have L:Cl d.nm:=λc y=>by have :=(B.2.2 c y).1;lia
 have C:∀q∈kvsOf (cO d eh i),Cl (iE q):=λq a=>by
  obtain⟨p,j,h,A⟩:=pT a;have K:=(rE p j).2;refine Cl.app (by rw[h];exact(vK p j).2.1) (Cl.app (by unfold Cl;decide +kernel) ((F _ A).2 (by show q.1≠_;rw[h];exact K)))
 have f:∀w∈d.wh.kd::d.nm::(kvsOf (cO d eh i)).map iE,Cl w:=λw hw=>by
  rcases List.mem_cons.mp hw with rfl|hw
  ·exact k1
  rcases List.mem_cons.mp hw with rfl|hw
  ·exact L
  ·obtain⟨q,a,rfl⟩:=List.mem_map.mp hw;exact C q a
 have z:∀w∈(d.wh.kd::d.nm::(kvsOf (cO d eh i)).map iE).tail,¬Tx<+:w.cps.toList:=λw hw=>by
  have hw:w∈d.nm::(kvsOf (cO d eh i)).map iE:=hw
  rcases List.mem_cons.mp hw with rfl|hw
  ·exact DS B
  ·obtain⟨q,a,rfl⟩:=List.mem_map.mp hw;obtain⟨p,j,h,A⟩:=pT a;have :=EL (v:=q.2) j;rw[<-h]at this;exact this
 obtain⟨J,b⟩:=xA (MZ _ _) (λw hw=>(f w hw).no) z _ _ u
 have o:eS (B09P.cg d n eh i) " "=L1 " " (dJ d eh i):=by
  refine yj (k:=2*n) ?_ ?_
  ·unfold B09P.cg;rw[app_list,rj]
  ·rw[u]
   split
   ·have :=wA (ws:=d.nm::(kvsOf (cO d eh i)).map iE) k1 k2 (R:=[]);rw[FB]at this;exact this
   ·rw[app_list];exact wA k1 k2
 have D:(B09P.cg d n eh i).length=(L1 " " (dJ d eh i)).length+2*n:=by
  unfold B09P.cg;rw[B9,jx,gk]
  lia
 refine⟨⟨cV,by rw[o];exact D,⟨_,J,by rw[o];exact b,?_,?_⟩,λq a=>?_,?_⟩,?_⟩
 ·have h1:(Mr " " (d.wh.kd::d.nm::(kvsOf (cO d eh i)).map iE)).length<=(L1 " " (dJ d eh i)).length:=by
   rw[u]
   split
   ·exact B6 _
   ·rw[B9];exact MW _ _
  lia
 ·exact dX (c:=32) (t:=[]) wy (by decide +kernel) (MZ _ _) λw hw=>(f w hw).no
 ·obtain⟨p,j,h,A⟩:=pT a;refine⟨by rw[h];exact(vK p j).1,?_⟩
  have hm:iE q∈dJ d eh i:=by
   rw[k_ g s];show iE q∈d.wh.kd::d.nm::bx.flatMap (pick (cO d eh i));rw[oJ];exact GE _ (GE _ (NB _ (M5 a)))
  have :=H _ hm;exact cV
 ·have :∀l:List (Str×Str),(l.flatMap (fI (cO d eh i))).length<=l.length:=λl=>by
   have :=(flat_keys (cO d eh i) l).length_le;rw[be,be]at this;exact this
  have :=this cW;have e:cW.length=15:=rfl;unfold kvsOf;exact cV
 ·unfold B09P.cg;refine Cz.app (λc y=>?_) ?_
  ·rw[rj]at y;rw[List.eq_of_mem_replicate y];exact B6 _
  ·have G:Cz (Mr " " (d.wh.kd::d.nm::(kvsOf (cO d eh i)).map iE)):=kP ES λw hw=>(f w hw).cz;rw[u]
   split
   ·exact G
   ·refine G.app (Cz.app (by unfold Cz;decide +kernel) ?_);unfold fQ
    cases e:lk (cO d eh i) "text"with
    |none=>exact vo.cz
    |some x=>exact(F _ (wO e)).1
theorem ew{w:Str}{t:Option Str}(a:w∈(Zj:List Str))(h:lk (bw wh) w=t):lk (cD o++(bw wh++bG eh i)) w=t:=by
 have sub:∀w∈(Zj:List Str),w∈(ZF:List Str):=by decide +kernel
 exact K9 (B09P.tY o w (sub w a)) (mx eh i w a) h
theorem tV{w:Str}{t:Option Str}(a:w∈(Zo:List Str))(h:lk (bG eh i) w=t):lk (cD o++(bw wh++bG eh i)) w=t:=by
 have sub:∀w∈(Zo:List Str),w∈(ZF:List Str):=by decide +kernel
 exact K5 (B09P.tY o w (sub w a)) (mi wh w a) h
theorem cA{k pl:Str}(a:(k,pl)∈cW)(h:lk ps k=some x):lk (toldOf ps) k=some x:=by
 have :=Dz ps (k,pl) a;rw[h]at this;exact this
theorem Cc{i a:Int}(h:a<=i)(g:i<=b)(ha: -1000000<=a)(c:b<=1000000):ji i:=by
 show i.natAbs<10000000
 lia
theorem Ip(h:Vo d.own):CJ (toldOf (cO d eh i)) d.own:=by
 obtain⟨⟨m,p,l⟩,⟨b1,o,j⟩,⟨c1,c2⟩,⟨d1,d2⟩,⟨k,n⟩,f1,f2⟩:=h;obtain⟨a,e,f,g,c,b⟩:=BW d.own;refine⟨⟨cA (pl:="0..1000000") (by decide +kernel) (zj a),cA (pl:="0..1000000") (by decide +kernel) (zj e)⟩,⟨cA (pl:="0") (by decide +kernel) (zj f),cA (pl:="1") (by decide +kernel) (zj g),cA (pl:="0") (by decide +kernel) (zj c),cA (pl:="0") (by decide +kernel) (zj b)⟩,⟨?_,?_,?_,?_⟩,?_,?_,?_,?_⟩
 all_goals
  show Int.natAbs _<10000000
  lia
theorem E_(g:eH ws)(v:G_ ws):xW ws:=⟨by have :=g.1;exact cV,λw a=>by
 obtain⟨g1,g2,g3⟩:=g.2 w a;refine⟨λe=>by rw[e]at g1;exact absurd g1 (by decide),cV,λx hx=>?_⟩;have h:=g3 x hx;refine⟨h.1,by lia,λz=>?_,λz=>?_⟩
 ·have :=(v w a x hx 32 z).1;lia
 ·exact(v w a x hx 124 z).2.2.2 rfl⟩
def Kl(wh:aX)(pts:List PS):Prop:=∀(j:Nat)(t:PS),pts[j]? =some t->∃d:dF,t=toldOf (cO d wh j)
theorem Ht{pts:List PS}(g:d.wh.Good)(v:Vw d.wh pts.length)(m:Kl d.wh pts):vT (toldOf (cO d eh i)) pts d.wh:=by
 obtain⟨nm,o,wh⟩:=d
 cases wh with
 |leaf a b=>
  obtain⟨_,⟨h1,h2⟩,e,f⟩:=v;exact⟨cA (pl:="0,0") (by decide +kernel) (ew (by decide +kernel) (by kernel_rfl)),Cc h1 h2 (by decide) (by decide),Cc e f (by decide) (by decide)⟩
 |lined k z al sd=>
  obtain⟨_,⟨h2,e⟩,f,l⟩:=v;obtain⟨_,g2,g3⟩:=g;exact⟨cA (pl:="0") (by decide +kernel) (ew (by decide +kernel) (by kernel_rfl)),cA (pl:="start") (by decide +kernel) (ew (by decide +kernel) (by kernel_rfl)),cA (pl:="left") (by decide +kernel) (ew (by decide +kernel) (by kernel_rfl)),Cc h2 e (by decide) (by decide),cV,cV⟩
 |table c z sd sps=>
  obtain⟨_,⟨h2,e⟩,⟨f,l⟩,n,C,s⟩:=v;refine⟨⟨cA (pl:="1") (by decide +kernel) (ew (by decide +kernel) (by kernel_rfl)),cA (pl:="0") (by decide +kernel) (ew (by decide +kernel) (by kernel_rfl)),cA (pl:="left") (by decide +kernel) (ew (by decide +kernel) (by kernel_rfl))⟩,⟨Cc h2 e (by decide) (by decide),Cc f l (by decide) (by decide),by have :=uR n;exact cV⟩,C.symm,λj t p h ep=>?_⟩;obtain⟨d',rfl⟩:=m j t h;obtain⟨⟨u,x⟩,w,B⟩:=s p (Fk ep);refine⟨cA (pl:="1,1") (by decide +kernel) (tV (by decide +kernel) ?_),Cc u x (by decide) LO,Cc w B (by decide) (by decide)⟩;rw[lW ep,dz,if_pos rfl]
 |words ws j=>
  obtain⟨_,h2,e,f⟩:=v;refine⟨⟨?_,cA (pl:="50") (by decide +kernel) (ew (by decide +kernel) (by kernel_rfl))⟩,Cc e f (by decide) (by decide),E_ g.1 h2,by have :=ib g.1;exact cV⟩;rw[wC];unfold fQ;rw[show lk (cO ⟨nm,o,.words ws j⟩ eh i) "text"=some (jL ws)from ew (by decide +kernel) (by kernel_rfl)];rfl
 |flow sds ws j=>
  obtain⟨_,h2,e,f,l,n⟩:=v;refine⟨⟨?_,cA (pl:="50") (by decide +kernel) (ew (by decide +kernel) (by kernel_rfl))⟩,⟨Cc l n (by decide) (by decide),E_ g.2.1 f,by have :=ib g.2.1;exact cV⟩,h2.symm,λj t p h ep=>?_⟩
  ·rw[wC];unfold fQ;rw[show lk (cO ⟨nm,o,.flow sds ws j⟩ eh i) "text"=some (jL ws)from ew (by decide +kernel) (by kernel_rfl)];rfl
  ·obtain⟨d',rfl⟩:=m j t h;refine⟨cA (pl:="left") (by decide +kernel) (tV (by decide +kernel) ?_),by have :=uR (e p (Fk ep));exact cV⟩;rw[oB ep,dz,if_pos rfl]
 |over ps=>
  obtain⟨⟨h1,h2⟩,e,f⟩:=v;refine⟨e.symm,λj t p h ep=>?_⟩;obtain⟨d',rfl⟩:=m (j+1) t h;obtain⟨⟨F,D,q⟩,b1,A,y⟩:=f p (Fk ep);obtain⟨⟨g1,g2,_⟩,r,E,_⟩:=g p (Fk ep);refine⟨cA (pl:="start,0,start,0") (by decide +kernel) (tV (by decide +kernel) ?_),⟨g1,r⟩,⟨cV,cV⟩,Cc D q (by decide) (by decide),Cc A y (by decide) (by decide)⟩;rw[oz ep,dz,if_pos rfl]
def itemOf(n:Nat)(d:dF)(eh:aX)(i:Nat):iK:=⟨n,d.nm,d.own,d.wh,toldOf (cO d eh i)⟩
def nH:Fo->Nat->aX->Nat->List iK
 | .nil,_,_,_=>[]
 | .cons _ d cs as,n,eh,i=>itemOf n d eh i::(nH cs (n+1) d.wh 0++nH as n eh (i+1))
def fT:Fo->aX->Nat->List (D×PS)
 | .nil,_,_=>[]
 | .cons _ d cs as,eh,i=>(iA d.wh.kd d.nm d.own d.wh (fD cs),toldOf (cO d eh i))::fT as eh (i+1)
theorem Am:∀(F:Fo)(eh:aX)(i:Nat),(fT F eh i).map (·.1)=fD F
 | .nil,_,_=>rfl
 | .cons a d cs as,eh,i=>by
  show _::(fT as eh (i+1)).map (·.1)=_::fD as;rw[Am as eh (i+1)]
theorem AA:∀(F:Fo)(eh:aX)(i j:Nat)(t:PS),((fT F eh i).map (·.2))[j]? =some t->∃d:dF,t=toldOf (cO d eh (i+j))
 | .nil,_,_,_,_,h=>nomatch h
 | .cons a d cs as,eh,i,0,t,h=>by
  have h:some (toldOf (cO d eh i))=some t:=h
  injection h with h
  exact⟨d,h.symm⟩
 | .cons a d cs as,eh,i,j+1,t,h=>by
  have h:((fT as eh (i+1)).map (·.2))[j]? =some t:=h;obtain⟨d',e⟩:=AA as eh (i+1) j t h;exact⟨d',by rw[e,show i+1+j=i+(j+1)by lia]⟩
def cX(W:WT)(n:Nat)(xs:List (D×PS)):WT:=xs.foldl (λW x=>addW W n x) W
theorem DN(h:∀p∈W,p.1≠n)(x:D×PS):addW W n x=W++[(n,[x])]:=by
 unfold addW;rw[if_neg];intro z;obtain⟨p,a,e⟩:=List.any_eq_true.mp z;exact h p a (of_decide_eq_true e)
theorem DC(h:∀p∈W,p.1≠n)(ys:List (D×PS))(x:D×PS):addW (W++[(n,ys)]) n x=W++[(n,ys++[x])]:=by
 unfold addW;rw[if_pos (List.any_eq_true.mpr ⟨(n,ys),by simp,decide_eq_true rfl⟩),Dk]
 congr 1
 ·have :=Nk (l:=W) (f:=λp=>if p.1=n then(p.1,p.2++[x])else p) (g:=id) λp a=>if_neg (h p a);rw[this,QE]
 ·show[if n=n then(n,ys++[x])else(n,ys)]=_;rw[if_pos rfl]
theorem lO(h:∀p∈W,p.1≠n):∀(xs ys:List (D×PS)),cX (W++[(n,ys)]) n xs=W++[(n,ys++xs)]
 |[],ys=>by rw[FB];rfl
 |x::xs,ys=>by
  show cX (addW (W++[(n,ys)]) n x) n xs=_;rw[DC h,lO h xs (ys++[x]),LW];rfl
theorem ni(h:∀p∈W,p.1≠n)(xs:List (D×PS)):cX W n xs=if xs=[]then W else W++[(n,xs)]:=by
 cases xs with
 |nil=>rfl
 |cons x xs=>
  rw[if_neg (MZ _ _)];show cX (addW W n x) n xs=_;rw[DN h,lO h];rfl
theorem wN(h:∀p∈W,p.1≠n):W.find? (λp=>decide (p.1=n))=none:=List.find?_eq_none.mpr λp a e=>h p a (of_decide_eq_true e)
theorem AB(h:∀p∈W,p.1≠n)(xs:List (D×PS)):kids (cX W n xs) n=xs:=by
 rw[ni h];unfold kids
 split
 ·rename_i e
  rw[wN h,e];rfl
 ·rw[SH,wN h,Pm (by simp)];rfl
theorem An(h:∀p∈W,p.1≠n)(xs:List (D×PS)):mU (cX W n xs) n=W:=by
 rw[ni h];have e:W.filter (λp=>decide (p.1≠n))=W:=List.filter_eq_self.mpr λp a=>decide_eq_true (h p a);unfold mU
 split
 ·exact e
 ·rw[P_,e,Ru (by simp),List.filter_nil,FB]
theorem Cp(h:∀p∈W,p.1<=m)(hn:n<=m)(x:D×PS):∀p∈addW W n x,p.1<=m:=by
 unfold addW
 split
 ·intro p a;obtain⟨q,b,rfl⟩:=List.mem_map.mp a;by_cases e:q.1=n
  ·rw[if_pos e];exact h q b
  ·rw[if_neg e];exact h q b
 ·intro p a
  rcases List.mem_append.mp a with z|z
  ·exact h p z
  ·rw[List.mem_singleton.mp z];exact hn
theorem rx(hn:n<=m):∀(xs:List (D×PS))(W:WT),(∀p∈W,p.1<=m)->∀p∈cX W n xs,p.1<=m
 |[],_,h=>h
 |x::xs,W,h=>rx hn xs _ (Cp h hn x)
theorem uf(W:WT)(n:Nat)(xs ys:List (D×PS)):cX W n (xs++ys)=cX (cX W n xs) n ys:=by
 unfold cX;rw[Qp]
theorem zT:∀(F:Fo)(eh:aX)(i:Nat),(fT F eh i).length=F.bt.length
 | .nil,_,_=>rfl
 | .cons a d cs as,eh,i=>by
  show(fT as eh (i+1)).length+1=as.bt.length+1;rw[zT as]
theorem ve:∀(F:Fo)(n:Nat)(eh:aX)(i:Nat)(it:Bool)(W W':WT)(rest:List iK),VF it F->F.Good->(∀p∈W,p.1<=n)->Run (cX W n (fT F eh i).reverse) rest W'->Run W ((nH F n eh i).reverse++rest) W'
 | .nil,n,eh,i,it,W,W',rest,_,_,_,h=>h
 | .cons a d cs as,n,eh,i,it,W,W',rest,⟨⟨r,x,D⟩,s,w⟩,⟨⟨g1,g2,g3,C⟩,v,A⟩,o,h=>by
  have y:(nH (.cons a d cs as) n eh i).reverse++rest=(nH as n eh (i+1)).reverse++((nH cs (n+1) d.wh 0).reverse++(itemOf n d eh i::rest)):=by
   show(itemOf n d eh i::(nH cs (n+1) d.wh 0++nH as n eh (i+1))).reverse++rest=_;rw[O1,Sa];simp
  rw[y];refine ve as n eh (i+1) it W W' _ w A o ?_;have c:=rx (B6 n) (fT as eh (i+1)).reverse W o
  have l:cX W n (fT (.cons a d cs as) eh i).reverse=addW (cX W n (fT as eh (i+1)).reverse) n (iA d.wh.kd d.nm d.own d.wh (fD cs),toldOf (cO d eh i)):=by
   show cX W n ((iA d.wh.kd d.nm d.own d.wh (fD cs),toldOf (cO d eh i))::fT as eh (i+1)).reverse=_;rw[O1,uf];rfl
  rw[l]at h;generalize cX W n (fT as eh (i+1)).reverse=m at *;refine ve cs (n+1) d.wh 0 _ m W' _ s v (λp g=>SF (c p g)) ?_
  have b:∀p∈m,p.1≠n+1:=λp g e=>by have :=c p g;lia
  have q:=AB b (fT cs d.wh 0).reverse;have u:=An b (fT cs d.wh 0).reverse;generalize cX m (n+1) (fT cs d.wh 0).reverse=k at *
  have f:(kids k ((itemOf n d eh i).dep+1)).reverse=fT cs d.wh 0:=by
   show(kids k (n+1)).reverse=_;rw[q,List.reverse_reverse]
  refine Run.cons ⟨Ip r,?_,by show d.nm.length<=1000;exact cV⟩ ?_
  ·rw[f];refine Ht g1 ?_ λj t z=>?_
   ·rw[be,zT];exact x
   ·obtain⟨d',e⟩:=AA cs d.wh 0 j t z;rw[Qk]at e;exact⟨d',e⟩
  ·unfold Ah;rw[f];show Run (addW (mU k (n+1)) n (mf (itemOf n d eh i) (fT cs d.wh 0))) rest W';rw[u]
   have B:mf (itemOf n d eh i) (fT cs d.wh 0)=(iA d.wh.kd d.nm d.own d.wh (fD cs),toldOf (cO d eh i)):=by
    show(iA d.wh.kd d.nm d.own d.wh ((fT cs d.wh 0).map (·.1)),toldOf (cO d eh i))=_;rw[Am]
   rw[B];exact h
theorem zy(v:VF false (.cons a d cs .nil))(g:(Fo.cons a d cs .nil).Good):Run [] (nH (.cons a d cs .nil) 0 cw 0).reverse [(0,[(iA d.wh.kd d.nm d.own d.wh (fD cs),toldOf (cO d cw 0))])]:=by
 have :=ve (.cons a d cs .nil) 0 cw 0 false [] [(0,[(iA d.wh.kd d.nm d.own d.wh (fD cs),toldOf (cO d cw 0))])] [] v g (λp b=>nomatch b) (Run.nil _);rw[FB]at this;exact this
theorem lA:∀(F:Fo)(n:Nat)(eh:aX)(i:Nat)(it:Bool)(k:Nat),VF it F->F.Good->(∀x∈bX F,Vn x)->eh.Good->Vw eh k->n+F.df<=200->(aY F n eh i).length=(nH F n eh i).length/\∀(j:Nat)(row:Str)(r:iK),(aY F n eh i)[j]? =some row->(nH F n eh i)[j]? =some r->∃ps:PS,Gm row r.dep r.wh.kd r.nm (kvsOf ps) (fQ ps)/\Cz row/\r.ps=toldOf ps
 | .nil,_,_,_,_,_,_,_,_,_,_,_=>⟨rfl,λj row r e=>nomatch e⟩
 | .cons a d cs as,n,eh,i,it,k,⟨⟨y,h,A⟩,o,t⟩,⟨⟨g1,g2,g3,z⟩,p,u⟩,hn,g,l,m=>by
  have m:n+max (cs.df+1) as.df<=200:=m;have C:=Nat.le_max_left (cs.df+1) as.df;have B:=SU (cs.df+1) as.df;obtain⟨l1,w⟩:=lA cs (n+1) d.wh 0 _ _ o p (λx hx=>hn x (GE _ (NB _ hx))) g1 h (by lia);obtain⟨l2,v⟩:=lA as n eh (i+1) it k t u (λx hx=>hn x (GE _ (Mv _ hx))) g l (by lia);refine⟨?_,λj row r b f=>?_⟩
  ·show(aY cs (n+1) d.wh 0++aY as n eh (i+1)).length+1=(nH cs (n+1) d.wh 0++nH as n eh (i+1)).length+1;rw[B1,B1,l1,l2]
  ·cases j with
   |zero=>
    have b:some (B09P.cg d n eh i)=some row:=b;have f:some (itemOf n d eh i)=some r:=f
    injection b with b
    injection f with f
    subst b f;obtain⟨q,s⟩:=HI (i:=i) (n:=n) g1 g2 g h l (hn _ Do) (by lia);exact⟨cO d eh i,q,s,rfl⟩
   |succ j=>
    have b:(aY cs (n+1) d.wh 0++aY as n eh (i+1))[j]? =some row:=b;have f:(nH cs (n+1) d.wh 0++nH as n eh (i+1))[j]? =some r:=f;by_cases c:j<(aY cs (n+1) d.wh 0).length
    ·rw[LQ c]at b;rw[LQ (by rw[<-l1];exact c)]at f;exact w j row r b f
    ·rw[GT (by lia)]at b;rw[GT (by rw[<-l1];lia),<-l1]at f;exact v _ row r b f
section
variable{K:mo}
theorem dD{i:Int}(h:At K H v (.int i)):v= .int i:=by
 cases h
 rfl
theorem gf(h:At K H v (.str s)):v= .str s:=by
 cases h
 rfl
theorem ck.gy(h:ck K H xs []):xs=[]:=Mf h.1
theorem ck.bE{d:D}{ds:List D}(h:ck K H xs (d::ds)):∃x ys,xs=x::ys/\At K H x d/\ck K H ys ds:=by
 cases xs with
 |nil=>exact absurd h.1 (by simp)
 |cons x ys=>exact⟨x,ys,rfl,h.2 0 x d rfl rfl,by have :=h.1;simpa using this,λj y e a b=>h.2 (j+1) y e a b⟩
theorem jF{α:Type}{f:α->D}{R:B3->α->Prop}:∀(l:List α)(xs:List V),ck K H xs (l.map f)->(∀x∈l,∀v,At K H v (f x)->∃a,v= .ref a/\R a x)->∃as:List B3,xs=as.map V.ref/\as.length=l.length/\∀(i:Nat)(a:B3)(x:α),as[i]? =some a->l[i]? =some x->R a x
 |[],xs,h,_=>⟨[],by rw[h.gy];rfl,rfl,λi a x e=>nomatch e⟩
 |y::l,xs,h,g=>by
  obtain⟨x,ys,rfl,h1,h2⟩:=ck.bE h;obtain⟨a,rfl,m⟩:=g y Do x h1;obtain⟨as,rfl,j,n⟩:=jF l ys h2 λz k=>g z (GE _ k);refine⟨a::as,rfl,by rw[B8,B8,j],λi b z d c=>?_⟩
  cases i with
  |zero=>cases d;cases c;exact m
  |succ i=>exact n i b z d c
theorem lX:∀(w:List Str)(xs:List V),ck K H xs (w.map D.str)->xs=de w
 |[],xs,h=>h.gy
 |y::w,xs,h=>by
  obtain⟨x,ys,rfl,h1,h2⟩:=ck.bE h;rw[gf h1,lX w ys h2];rfl
theorem kU{a:Int}(h:At K H v (.tup [.int a,.int b])):∃p,v= .ref p/\H p=some (.tup [.int a,.int b]):=by
 obtain⟨p,xs,rfl,c,hA⟩:=h.tupS;obtain⟨x,ys,rfl,h1,h2⟩:=hA.bE;obtain⟨y,zs,rfl,e,d⟩:=h2.bE;rw[dD h1,dD e,d.gy]at c;exact⟨p,rfl,c⟩
theorem FP(h:At K H v (ra o)):∃a,v= .ref a/\iI H a o:=by
 have h:At K H v (.tup [.tup [.int o.w0,.int o.w1],.tup [.int o.h0,.int o.h1],.int o.gr,.int o.sh,.int o.rk,.int o.al]):=h;obtain⟨p,xs,rfl,i,hA⟩:=h.tupS;obtain⟨E,y,rfl,h1,d⟩:=hA.bE;obtain⟨D,r,rfl,h2,f⟩:=d.bE;obtain⟨B,z,rfl,k,b⟩:=f.bE;obtain⟨F,C,rfl,m,e⟩:=b.bE;obtain⟨t,s,rfl,j,g⟩:=e.bE;obtain⟨x,A,rfl,l,c⟩:=g.bE;obtain⟨u,rfl,q⟩:=kU h1;obtain⟨w,rfl,n⟩:=kU h2;rw[dD k,dD m,dD j,dD l,c.gy]at i;exact⟨p,rfl,u,w,i,q,n⟩
theorem words_of(h:At K H v (fB ws)):∃s,v= .ref s/\oi H s ws:=by
 obtain⟨p,xs,rfl,g,hA⟩:=h.tupS
 obtain⟨as,rfl,d,f⟩:=jF (R:=λa w=>H a=some (.tup (de w))) ws xs hA λw _ v c=>by
  obtain⟨q,ys,rfl,b,hB⟩:=c.tupS;rw[lX w ys hB]at b;exact⟨q,rfl,b⟩
 refine⟨p,rfl,as,g,by rw[be,d],λi a r h1 h2=>?_⟩;rw[B7]at h2;obtain⟨w,e,rfl⟩:=Option.map_eq_some_iff.mp h2;exact f i a w h1 e
theorem EB(h:At K H v (ko wh)):∃q,v= .ref q/\cJ H q wh:=by
 cases wh with
 |leaf a b=>exact kU h
 |lined k g al sd=>
  obtain⟨p,xs,rfl,d,hA⟩:=At.tupS (l:=[.int g,.str al,.str sd]) h;obtain⟨G,z,rfl,h1,S⟩:=hA.bE;obtain⟨F,x,rfl,h2,P⟩:=S.bE;obtain⟨W,X,rfl,y,Q⟩:=P.bE;rw[dD h1,gf h2,gf y,Q.gy]at d;exact⟨p,rfl,d⟩
 |table c g sd sps=>
  obtain⟨p,xs,rfl,d,hA⟩:=At.tupS (l:=[.int c,.int g,.str sd,.tup (sps.map λp=> .tup [.int p.1,.int p.2])]) h;obtain⟨G,z,rfl,h1,I⟩:=hA.bE;obtain⟨F,x,rfl,h2,N⟩:=I.bE;obtain⟨W,X,rfl,y,u⟩:=N.bE;obtain⟨x4,y4,rfl,h4,B⟩:=u.bE;obtain⟨s,zs,rfl,J,hB⟩:=h4.tupS;obtain⟨as,rfl,U,T⟩:=jF (R:=λa q=>H a=some (.tup (jX q))) sps zs hB λq _ v o=>kU o;rw[dD h1,dD h2,gf y,B.gy]at d;refine⟨p,rfl,s,as,d,J,by rw[be,U],λi a r h1 h2=>?_⟩;rw[B7]at h2;obtain⟨w,hw,rfl⟩:=Option.map_eq_some_iff.mp h2;exact T i a w h1 hw
 |words ws j=>
  obtain⟨p,xs,rfl,d,hA⟩:=At.tupS (l:=[fB ws,.int j]) h;obtain⟨G,z,rfl,h1,e⟩:=hA.bE;obtain⟨F,x,rfl,h2,M⟩:=e.bE;obtain⟨s,rfl,J⟩:=words_of h1;rw[dD h2,M.gy]at d;exact⟨p,rfl,s,d,J⟩
 |flow sds ws j=>
  obtain⟨p,xs,rfl,d,hA⟩:=At.tupS (l:=[.tup (sds.map D.str),fB ws,.int j]) h;obtain⟨G,z,rfl,h1,L⟩:=hA.bE;obtain⟨F,x,rfl,h2,f⟩:=L.bE;obtain⟨W,X,rfl,y,m⟩:=f.bE;obtain⟨t,zs,rfl,Y,hB⟩:=h1.tupS;obtain⟨s,rfl,J⟩:=words_of h2;rw[lX sds zs hB]at Y;rw[dD y,m.gy]at d;exact⟨p,rfl,t,s,d,Y,J⟩
 |over ps=>
  obtain⟨p,xs,rfl,d,hA⟩:=At.tupS (l:=ps.map Gb) h
  obtain⟨as,rfl,U,T⟩:=jF (R:=λa p=>∃b c,H a=some (.tup [.ref b,.ref c])/\H b=some (.tup [.str p.1.1,.int p.1.2])/\H c=some (.tup [.str p.2.1,.int p.2.2])) ps xs hA λq _ v o=>by
   obtain⟨a,zs,rfl,ha,hB⟩:=At.tupS (l:=[.tup [.str q.1.1,.int q.1.2],.tup [.str q.2.1,.int q.2.2]]) o;obtain⟨G,z,rfl,h1,n⟩:=hB.bE;obtain⟨F,x,rfl,h2,E⟩:=n.bE
   have two:∀{v:V}{s:Str}{i:Int},At K H v (.tup [.str s,.int i])->∃b,v= .ref b/\H b=some (.tup [.str s,.int i]):=λ{v s i} o=>by
    obtain⟨b,zs,rfl,O,Z⟩:=o.tupS;obtain⟨G,z,rfl,h1,C⟩:=Z.bE;obtain⟨F,x,rfl,h2,A⟩:=C.bE;rw[gf h1,dD h2,A.gy]at O;exact⟨b,rfl,O⟩
   obtain⟨b,rfl,O⟩:=two h1;obtain⟨c,rfl,hc⟩:=two h2;rw[E.gy]at ha;exact⟨a,rfl,b,c,ha,O,hc⟩
  exact⟨p,rfl,as,d,U,T⟩
inductive Lk:Fo->Fo->Prop
 |nil:Lk .nil .nil
 |cons {a a':B3} {d:dF} {cs cs' as as':Fo} (h:Lk cs cs') (g:Lk as as'):Lk (.cons a d cs as) (.cons a' d cs' as')
theorem Lk.bt(h:Lk F G):F.bt.length=G.bt.length:=by
 induction h with
 |nil=>rfl
 |cons _ _ _ a=>exact congrArg (· +1) a
theorem Lk.cnt(h:Lk F G):F.cnt=G.cnt:=by
 induction h with
 |nil=>rfl
 | @cons a a' d cs cs' as as' _ _ i1 i2=>
  show cs.cnt+as.cnt+1=cs'.cnt+as'.cnt+1;rw[i1,i2]
theorem Lk.df(h:Lk F G):F.df=G.df:=by
 induction h with
 |nil=>rfl
 | @cons a a' d cs cs' as as' _ _ i1 i2=>
  show max (cs.df+1) as.df=max (cs'.df+1) as'.df;rw[i1,i2]
theorem Lk.good(h:Lk F G)(g:F.Good):G.Good:=by
 induction h with
 |nil=>trivial
 | @cons a a' d cs cs' as as' l1 l2 i1 i2=>
  obtain⟨⟨g1,g2,g3,b⟩,e,c⟩:=g;rw[l1.bt]at b;exact⟨⟨g1,g2,g3,b⟩,i1 e,i2 c⟩
theorem Lk.rows(h:Lk F G):∀(n:Nat)(eh:aX)(i:Nat),aY F n eh i=aY G n eh i:=by
 induction h with
 |nil=>exactλ_ _ _=>rfl
 | @cons a a' d cs cs' as as' l1 l2 i1 i2=>
  intro n eh i;show B09P.cg d n eh i::(aY cs (n+1) d.wh 0++aY as n eh (i+1))=B09P.cg d n eh i::(aY cs' (n+1) d.wh 0++aY as' n eh (i+1));rw[i1,i2]
theorem Bk:∀(F:Fo)(xs:List V),ck K H xs (fD F)->∃G:Fo,Lk F G/\xs=G.bt.map V.ref/\G.Ok H
 | .nil,xs,h=>⟨.nil,.nil,h.gy,trivial⟩
 | .cons a d cs as,xs,h=>by
  obtain⟨x,ys,rfl,h1,h2⟩:=ck.bE (d:=iA d.wh.kd d.nm d.own d.wh (fD cs)) (ds:=fD as) h;obtain⟨b,zs,rfl,m,hB⟩:=At.tupS (l:=[.str d.wh.kd,.str d.nm,ra d.own,ko d.wh,.tup (fD cs)]) h1;obtain⟨M,D,rfl,k1,g⟩:=hB.bE;obtain⟨L,A,rfl,k2,e⟩:=g.bE;obtain⟨I,E,rfl,s,f⟩:=e.bE;obtain⟨N,J,rfl,y,c⟩:=f.bE;obtain⟨C,B,rfl,u,i⟩:=c.bE;obtain⟨o,rfl,r⟩:=FP s;obtain⟨q,rfl,w⟩:=EB y;obtain⟨p,ts,rfl,t,n⟩:=u.tupS;obtain⟨z,l1,rfl,j⟩:=Bk cs ts n;obtain⟨v,l2,rfl,k⟩:=Bk as ys h2;rw[gf k1,gf k2,i.gy]at m;exact⟨.cons b d z v,.cons l1 l2,rfl,⟨o,q,p,m,r,w,t⟩,j,k⟩
theorem ck.two{x y:V}{d e:D}(h:At K H x d)(g:At K H y e):ck K H [x,y] [d,e]:=ck.cons h (ck.cons g ck.nil)
theorem Hb(h:iI H a o):At K H (.ref a) (ra o):=by
 obtain⟨u,v,h1,h2,b⟩:=h;exact ck.tup (ck.cons (ck.tup (ck.two (.int _) (.int _)) h2) (ck.cons (ck.tup (ck.two (.int _) (.int _)) b) (ck.cons (.int _) (ck.cons (.int _) (ck.two (.int _) (.int _)))))) h1
theorem mX{α:Type}{f:α->D}{R:B3->α->Prop}{l:List α}(hl:as.length=l.length)(h:∀(i:Nat)(a:B3)(x:α),as[i]? =some a->l[i]? =some x->R a x)(e:∀x∈l,∀a,R a x->At K H (.ref a) (f x)):ck K H (as.map V.ref) (l.map f):=by
 refine⟨by rw[be,be,hl],λj v d b c=>?_⟩;rw[B7]at b c;obtain⟨a,ha,rfl⟩:=Option.map_eq_some_iff.mp b;obtain⟨x,hx,rfl⟩:=Option.map_eq_some_iff.mp c;exact e x (Fk hx) a (h j a x ha hx)
theorem xq{w:List Str}(h:∀x∈w,x.length<=1000):ck K H (de w) (w.map D.str):=by
 unfold de;refine⟨by rw[be,be],λj v d b c=>?_⟩;rw[B7]at b c;obtain⟨a,ha,rfl⟩:=Option.map_eq_some_iff.mp b;obtain⟨x,hx,rfl⟩:=Option.map_eq_some_iff.mp c;rw[ha]at hx
 injection hx with hx
 subst hx;exact .str _ (az (by have :=h a (Fk ha);exact cV))
theorem rL{s:B3}(h:oi H s ws)(g:eH ws):At K H (.ref s) (fB ws):=by
 obtain⟨as,h1,h2,c⟩:=h;rw[be]at h2;refine ck.tup (mX (R:=λa w=>H a=some (.tup (de w))) h2 (λi a x d e=>c i a _ d (by rw[B7,e];rfl)) λw b a ha=>ck.tup (xq λx hx=>?_) ha) h1;have :=((g.2 w b).2.2 x hx).2;exact cV
theorem CH{q:B3}(h:cJ H q wh)(g:wh.Good)(v:∃n,Vw wh n):At K H (.ref q) (ko wh):=by
 cases wh with
 |leaf a b=>exact ck.tup (ck.two (.int _) (.int _)) h
 |lined k m al sd=>exact ck.tup (ck.cons (.int _) (ck.two (.str _ (az (by have :=g.2.1;exact cV))) (.str _ (az (by have :=g.2.2;exact cV))))) h
 |table c m sd sps=>
  obtain⟨s,as,h1,h2,d,o⟩:=h;rw[be]at d;exact ck.tup (ck.cons (.int _) (ck.cons (.int _) (ck.two (.str _ (az (by have :=g.2.2.1;exact cV))) (ck.tup (mX (R:=λa p=>H a=some (.tup (jX p))) d (λi a x f l=>o i a _ f (by rw[B7,l];rfl)) λp e a ha=>ck.tup (ck.two (.int _) (.int _)) ha) h2)))) h1
 |words ws j=>
  obtain⟨s,h1,h2⟩:=h;exact ck.tup (ck.two (rL h2 g.1) (.int _)) h1
 |flow sds ws j=>
  obtain⟨t,s,h1,h2,d⟩:=h;exact ck.tup (ck.cons (ck.tup (xq λx hx=>by rcases g.1 x hx with rfl|rfl<;>decide +kernel) h2) (ck.two (rL d g.2.1) (.int _))) h1
 |over ps=>
  obtain⟨as,h1,h2,d⟩:=h;refine ck.tup (mX h2 d λp e a ⟨b,c,w,u,r⟩=>?_) h1;obtain⟨⟨_,g1,_⟩,_,g2,_⟩:=g p e;exact ck.tup (ck.two (ck.tup (ck.two (.str _ (az cV)) (.int _)) u) (ck.tup (ck.two (.str _ (az cV)) (.int _)) r)) w
theorem wJ:∀(F:Fo)(it:Bool),F.Ok H->F.Good->VF it F->ck K H (F.bt.map V.ref) (fD F)
 | .nil,_,_,_,_=>ck.nil
 | .cons a d cs as,it,⟨⟨o,q,p,h1,h2,i,g⟩,c,b⟩,⟨⟨g1,g2,g3,m⟩,k,h⟩,⟨⟨l,f,n⟩,j,e⟩=>by
  refine ck.cons ?_ (wJ as it b h e);exact ck.tup (ck.cons (.str _ (az (by have :=B09P.kd_len d.wh;exact cV))) (ck.cons (.str _ (az cV)) (ck.cons (Hb h2) (ck.two (CH i g1 ⟨_,f⟩) (ck.tup (wJ cs _ c k j) g))))) h1
end
theorem Lk.vf(h:Lk F G):∀{b:Bool},VF b F->VF b G:=by
 induction h with
 |nil=>exactλ_=>trivial
 | @cons a a' d cs cs' as as' l1 l2 i1 i2=>
  intro b ⟨⟨f,e,g⟩,i,c⟩;exact⟨⟨f,by rw[<-l1.bt];exact e,g⟩,i1 i,i2 c⟩
theorem Lk.bI(h:Lk F G):bX F=bX G:=by
 induction h with
 |nil=>rfl
 | @cons a a' d cs cs' as as' _ _ i1 i2=>
  show d.nm::(bX cs++bX as)=d.nm::(bX cs'++bX as');rw[i1,i2]
theorem qF{tb:Bool}:∀{F:Fo},VF tb (F.app G)->VF tb F/\VF tb G
 | .nil,h=>⟨trivial,h⟩
 | .cons a d cs as,⟨h1,h2,b⟩=>⟨⟨h1,h2,(qF b).1⟩,(qF b).2⟩
theorem mF:∀F:Fo,(bX F).length=F.cnt
 | .nil=>rfl
 | .cons a d cs as=>by
  show(bX cs++bX as).length+1=cs.cnt+as.cnt+1;rw[B1,mF cs,mF as]
inductive Ic(h:Nat)(vs:List V)(H:Hp)(Q:VK):Prop
 |mk (a:B3) (bd:dF) (cs:Fo) (dep:Int) (it:Bool) (dN:B3) (bI:List Str) (c0:vs=[.ref a,.int dep,.bl it,.ref dN]) (c1:cs.df<h) (c2:(Fo.cons a bd cs .nil).Ok H) (c3:(Fo.cons a bd cs .nil).Good) (c4:VF it (.cons a bd cs .nil)) (c5:(∀x∈bd.nm::bX cs,Vn x)) (c6:H dN=some (.dK (qU bI))) (c7:(bI++(bd.nm::bX cs)).Nodup) (c8:bI.length+(cs.cnt+1)<=60) (c9:dep+cs.df<=8) (c10:∀H',Kp dN H H'->H' dN=some (.dK (qU (bI++(bd.nm::bX cs))))->Q .non H')
def C0(h:Nat):Sp:=λvs H Q _=>Ic h vs H Q
inductive yE(vs:List V)(H:Hp)(Q:VK):Prop
 |mk (a:B3) (bd:dF) (cs:Fo) (c0:vs=[.ref a]) (c1:(Fo.cons a bd cs .nil).Ok H) (c2:(Fo.cons a bd cs .nil).Good) (c3:VF false (.cons a bd cs .nil)) (c4:(∀x∈bd.nm::bX cs,Vn x)) (c5:(bd.nm::bX cs).Nodup) (c6:cs.df<=7) (c7:cs.cnt<=20) (c8:∀H',af H H'->Q .non H')
def mT:Sp:=λvs H Q _=>yE vs H Q
section
variable{K:mo}
abbrev Ho:List Str:=["thing","depth","in_table","names","part"]
theorem pK:ay Ho Zh (aj dE):=cL
theorem BY(F:aZ K "look_through" "look_through" dE f fd)(N:aR mg)(G1:aw P w K mg base aO 8 f1 d1 Zh (G0 K))(J1:Cq K mg d1 f1 Zh "is_amiss")(G2:aw P w K mg base aO 1 f2 d2 Zb (B09P.dM 1))(J2:Cq K mg d2 f2 Zb "name_of")(G3:aw P w K mg base aO 1 f3 d3 Zb (B09P.dM 4))(J3:Cq K mg d3 f3 Zb "parts_of")(G4:aw P w K mg base aO 1 f4 d4 Zb (B09P.dM 0))(J4:Cq K mg d4 f4 Zb "kind_of")(G5:aw P w K mg base aO (9+h) f5 d5 Zh (C0 h))(J5:Cq K mg d5 f5 Zh "look_through"):aw P w K mg base aO (9+h+1) f fd Zh (C0 (h+1)):=by
 refine F.cS pK λcdv A outer s H vs Q E U h=>?_
 ·obtain⟨a,bd,cs,dep,it,dN,bI,e,S,ok,good,vf,L,D,nd,W,hd,k⟩:=h;subst e;have v:=U.mono (j:=1) (by lia);have a2:=U.mono (j:=8) (by lia);have t:=U
  have hu:(A.deeper (Mh "look_through" (aj dE) s.heap.objs.size f cdv)).units+1<Np:=by have :=U.units;lia
  refine⟨_,ah (aQ (bH (pq G1 a2 J1 (aa (pv 0) (aa (pv 1) (aa (pv 2) (aa (pv 3) ab)))))) (ai fc) aC)
   (ah (kR hu (pv 3) (pq G2 v J2 (aa (pv 0) ab)) c_ rfl)
   (ai (cG Ma rfl (eG (pq G3 v J3 (aa (pv 0) ab))) (aV (i:=4) pK.nd rfl (KB rfl))
    (ai (bT (pq G5 t J5 (aa (pv 4) (aa (aE bM (pv 1) ag) (aa (Fp (pv 2) (bN (cy bD (pq G4 v J4 (aa (pv 0) ab)) aq (aG _)))) (aa (pv 3) ab)))))))))),?_⟩
  try rw[bZ]
  have Z:=ok;obtain⟨hb,Y,-⟩:=Z;have a8:=hb;obtain⟨o,q,p,e1,e2,e3,e4⟩:=a8;have I:=good;obtain⟨⟨g1,g2,g3,g4⟩,g5,-⟩:=I;have a9:=vf;obtain⟨⟨v1,v2,v3⟩,v4,-⟩:=a9;have ht:At K H (.ref a) (iA bd.wh.kd bd.nm bd.own bd.wh (fD cs)):=(wJ (K:=K) (.cons a bd cs .nil) it ok good vf).2 0 _ _ rfl rfl;refine ar λN1 J=>?_;refine⟨_,rfl,_,rfl,_,rfl,_,rfl,a,bd,cs.bt,dep,it,dN,bI,fD cs,rfl,⟨a,bd,cs.bt,rfl,hb,g1,v1,v2,L _ Do⟩,hb,ht,v3,v2,by lia,D,λz=>?_,by lia,λH1 s1=>?_⟩
  ·exact(List.nodup_append.mp nd).2.2 _ z _ Do rfl
  refine⟨_,rfl,bA ?_⟩;refine J _ _ ?_;clear J N1;have a7:bd.nm∉bI:=λz=>(List.nodup_append.mp nd).2.2 _ z _ Do rfl;have b0:=s1 _ _ D;refine ar λN1 J=>?_;refine⟨_,rfl,_,rfl,a,_,_,rfl,s1 _ _ e1,rfl,dN,_,rfl,oa.k (k:= .inr bd.nm) b0 (small (by rw[xl];lia)),?_⟩;rw[KH a7];have a5:Kp dN H1 (upd H1 dN (.dK (qU (bI++[bd.nm])))):=Kp.store;have a3:(upd H1 dN (.dK (qU (bI++[bd.nm])))) dN=some (.dK (qU (bI++[bd.nm]))):=ae;generalize upd H1 dN (.dK (qU (bI++[bd.nm])))=H2 at *;have C:Kp dN H H2:=(Kp.of s1).trans a5;have n:∀{H':Hp},Kp dN H H'->KT H H':=λkk b xs e=>kk b _ (λz=>by rw[z,D]at e;cases e) e;refine J _ _ ?_;clear J N1;refine⟨_,rfl,a,_,_,rfl,n C _ _ e1,rfl,p,rfl,⟨_,aT.of (n C _ _ e4)⟩,CL (K:=K) (a:=p) (xs:=cs.bt.map V.ref) (λi σ G=>∃(T:Option V)(l u:Fo),σ=[some (.ref a),some (.int dep),some (.bl it),some (.ref dN),T]/\Kp dN H G/\cs=l.app u/\l.bt.length=i/\G dN=some (.dK (qU ((bI++[bd.nm])++bX l)))) ⟨none,.nil,cs,rfl,C,rfl,rfl,by rw[a3];show _=some (HO.dK (qU ((bI++[bd.nm])++[])));rw[FB]⟩ ?_ ?_ ?_⟩
  ·rintro i σ G hi ⟨T,l,u,rfl,B,_⟩;exact aT.of (n B _ _ e4)
  ·rintro i x σ G ex ⟨T,l,u,rfl,B,g,m,hG⟩
   cases u with
   |nil=>
    exfalso;have :=bR ex;rw[be,g,Fo.cj,B1,m]at this;simp[Fo.bt]at this
   |cons M b1 c1 r=>
    have b3:x= .ref M:=by
     rw[g,Fo.cj,Dk,GT (by rw[be];lia),be,m,Pl]at ex;exact(L6 ex).symm
    subst b3;have R:=Y.keep (n B);rw[g]at R g5 v4 L nd S W hd;obtain⟨_,a4,O,_⟩:=Fo.lI.mp R;obtain⟨_,b2,X,_⟩:=Fo.gL.mp g5;obtain⟨_,a0,a6,_⟩:=qF v4;rw[jD]at L nd;have en:bX (.cons M b1 c1 r)=(b1.nm::bX c1)++bX r:=rfl;rw[en]at L nd;rw[Fo.jB]at W;have W:bI.length+((l.cnt+(c1.cnt+r.cnt+1))+1)<=60:=W;rw[Fo.js]at S hd;have S:max l.df (max (c1.df+1) r.df)<h+1:=S;have hd:dep+((max l.df (max (c1.df+1) r.df):Nat):Int)<=8:=hd
    have ek:∀(x y:List Str),bI++bd.nm::(bX l++((b1.nm::bX c1)++bX r))=(((bI++[bd.nm])++bX l)++(b1.nm::bX c1))++bX r:=λ_ _=>by simp
    rw[ek [] []]at nd;refine⟨_,rfl,_,rfl,_,_,rfl,rfl,Ab (c:=decide (V.str bd.wh.kd=V.str "table")) rfl (λQ' kq=>⟨_,rfl,a,_,_,rfl,n B _ _ e1,rfl,rfl,kq⟩) ?_⟩;refine⟨_,rfl,M,b1,c1,dep+1,it||decide (V.str bd.wh.kd=V.str "table"),dN,(bI++[bd.nm])++bX l,rfl,by lia,⟨a4,O,trivial⟩,⟨b2,X,trivial⟩,⟨a0,a6,trivial⟩,λx hx=>L x (GE _ (Mv _ (NB _ hx))),hG,(List.nodup_append.mp nd).1,?_,by lia,λH' k1 k2=>⟨_,l.app (.cons M b1 c1 .nil),r,rfl,B.trans k1,?_,?_,?_⟩⟩
    ·rw[B1,B1,mF];show bI.length+1+l.cnt+(c1.cnt+1)<=60
     lia
    ·rw[g,Fo.lu];rfl
    ·rw[Fo.cj,B1,m];rfl
    ·rw[k2,jD];show _=some (HO.dK (qU ((bI++[bd.nm])++(bX l++(b1.nm::(bX c1++[]))))));rw[FB,LW]
  ·rintro σ G ⟨T,l,u,rfl,B,g,m,hG⟩
   have eF:u= .nil:=by
    have e:cs.bt.length=(l.app u).bt.length:=by rw[g]
    rw[Fo.cj,B1,m,be]at e
    cases u with
    |nil=>rfl
    |cons M b1 c1 r=>exact absurd e (by show¬_=_+(r.bt.length+1);lia)
   rw[eF]at g
   have e0:l.app .nil=l:=by
    have :∀F:Fo,F.app .nil=F:=λF=>by
     induction F with
     |nil=>rfl
     |cons a d cs as _ ih=>show Fo.cons a d cs (as.app .nil)=_;rw[ih]
    exact this l
   rw[e0]at g;subst g;refine k G B ?_;rw[hG,LW];rfl
theorem rX(F:aZ K "look_through" "look_through" dE f fd)(N:aR mg)(m:aw P w K mg base aO 8 f1 d1 Zh (G0 K))(i:Cq K mg d1 f1 Zh "is_amiss")(g:aw P w K mg base aO 1 f2 d2 Zb (B09P.dM 1))(d:Cq K mg d2 f2 Zb "name_of")(k:aw P w K mg base aO 1 f3 d3 Zb (B09P.dM 4))(l:Cq K mg d3 f3 Zb "parts_of")(j:aw P w K mg base aO 1 f4 d4 Zb (B09P.dM 0))(b:Cq K mg d4 f4 Zb "kind_of")(c:Cq K mg fd f Zh "look_through"):∀h:Nat,aw P w K mg base aO (9+h) f fd Zh (C0 h)
 |0=>by
  refine F.ok pK (λvs H Q E h=>?_) (λcdv A outer s H vs Q E o h=>?_)
  ·obtain⟨a,bd,cs,dep,it,dN,bI,e,_⟩:=h;rw[e];rfl
  ·obtain⟨a,bd,cs,dep,it,dN,bI,e,n,_⟩:=h;exact absurd n (Nx _)
 |h+1=>BY F N m i g d k l j b (rX F N m i g d k l j b c h) c
abbrev Dg:List Str:=Za
theorem Bu:ay Dg Za (aj iQ):=cL
theorem yF(F:aZ K "check_tree" "check_tree" iQ f fd)(N:aR mg)(p:aw P w K mg base aO 21 f1 d1 Zh (C0 12))(m:Cq K mg d1 f1 Zh "look_through"):aw P w K mg base aO 22 f fd Za mT:=by
 refine F.cS Bu λcdv A outer s H vs Q E o h=>?_
 ·obtain⟨a,bd,cs,e,ok,good,vf,l,nd,q,r,k⟩:=h;subst e;have c:=o.mono (j:=21) (by decide);refine⟨_,ai (bT (pq p c m (aa (pv 0) (aa ag (aa c_ (aa hE ab)))))),?_⟩
  try rw[bZ]
  refine⟨_,rfl,λdN d=>⟨a,bd,cs,1,false,dN,[],rfl,Ll,ok.keep (KT.put d),good,vf,l,ae,nd,by show 0+(cs.cnt+1)<=60;lia,by lia,λH' k1 _=>k H' λb n g=>?_⟩⟩
  have i:b≠dN:=λz=>by rw[z,d]at g;cases g
  exact k1 b n i ((ak i).trans g)
end
section
open PySem.Spec PyProof.Rows
def IF(tb:TS):TS:=λD σ H=>tb {nx:=D.nx,rt:=λ_ _=>False} σ H
theorem Ex{h0:ExceptHandler}{c:List ExceptHandler}{body:List Mb}{tb:TS}{tpos:Pos}(e:∀(pn:List (B3×Obj))(xe:B5->FS->Prop),u_ {X with pn:=pn,xe:=xe} body tb):
  L2.PS X (.Try body (h0::c) [] [] tpos) (IF tb):=by
 intro pins s σ H D I h;refine wpAny_Try_except ?_;have a:=e (X.pn++pins) (λ_ _=>False) [] s σ H _ I.IQ h;refine M_ a (λf s1 z=>?_) (λg s1 z=>z.elim)
 cases f with
 |next=>
  obtain⟨σ',H',d,q⟩:=z;exact OO ⟨σ',H',d.Ka,q⟩
 |brk=>obtain⟨_,_,_,b⟩:=z;exact b.elim
 |cont=>obtain⟨_,_,_,b⟩:=z;exact b.elim
 |ret u=>obtain⟨_,_,_,_,_,b⟩:=z;exact b.elim
end
theorem Gk{α:Type}{J:It}{l:List α}(inj:α->V)(R:Hp->V->α->Prop)(E:∀(H H':Hp)(v:V)(x:α),af H H'->R H v x->R H' v x)(w:∀(H:Hp)(a:B3)(xs ys:List V)(v:V)(x:α),H a=some (.lst xs)->R H v x->R (upd H a (.lst ys)) v x)(r:gA J H (l.map inj))(hn:l.length<sizeLine)(G:∀(x:α)(H':Hp)(n:Bool->Hp->Prop),x∈l->af H H'->(∀b,af H' b->n true b)->tt (some (inj x)::σ) H' n)(he:∀(x:α)(H':Hp)(n:VK),x∈l->af H H'->(∀v b,af H' b->R b v x->n v b)->te (some (inj x)::σ) H' n)(hd:∀(h:B3)(xs:List V)(H':Hp),H h=none->af H H'->H' h=some (.lst xs)->(xs.length=l.length/\∀(j:Nat)(v:V)(x:α),xs[j]? =some v->l[j]? =some x->R H' v x)->Q (.ref h) H'):fb J H σ tt te Q:=by
 intro h p;refine⟨λi m H'=>m=l.length-i/\i<=l.length/\af H H'/\∃xs:List V,H' h=some (.lst xs)/\xs.length=i/\∀(j:Nat)(v:V)(x:α),xs[j]? =some v->l[j]? =some x->R H' v x,⟨_,rfl,L5 _,af.kJ (af.refl H) p,[],ae,rfl,λj v x e=>nomatch e⟩,?_⟩;rintro i m H' ⟨rfl,hi,s1,xs,hl,k,B⟩;by_cases d:i<l.length
 ·refine .inr ⟨r.1 i H' s1 (by rw[be];exact d),λx H2 y=>?_⟩;obtain⟨e,A⟩:=r.2.2 i x H' H2 s1 y;subst e;have ex:l[i]? =some l[i]:=AC d;rw[B7,ex]at A
  cases A
  have hm:=Fk ex;generalize l[i]=x at *;refine G x _ _ hm s1 λH3 t=>di (he x _ _ hm (af.trans s1 t) λv H4 s C=>?_);have q:=af.trans t s;have f:=q _ _ hl;refine⟨_,f,?_,_,Nd _ _ d,rfl,d,af.kJ (af.trans s1 q) p,xs++[v],ae,by rw[B1,k];rfl,λj u z g o=>?_⟩
  ·rw[k]
   lia
  ·by_cases c:j<xs.length
   ·rw[LQ c]at g;exact w _ _ _ _ _ _ f (E _ _ _ _ q (B j u z g o))
   ·rw[GT (by lia)]at g
    have F:j-xs.length=0:=by
     have :=bR g;simp at this;exact CA
    rw[F]at g
    cases g
    have D:j=i:=by lia
    rw[D,ex]at o
    cases o
    exact w _ _ _ _ _ _ f C
 ·have e:i=l.length:=by lia
  have :=r.2.1 H' s1;rw[be]at this;rw[e];refine .inl ⟨this,?_⟩;exact hd h xs H' p s1 hl ⟨by lia,B⟩
theorem w_{α:Type}{S:B3->α->Prop}:∀(l:List α)(xs:List V),xs.length=l.length->(∀(j:Nat)(v:V)(x:α),xs[j]? =some v->l[j]? =some x->∃a,v= .ref a/\S a x)->∃as:List B3,xs=as.map V.ref/\as.length=l.length/\∀(j:Nat)(a:B3)(x:α),as[j]? =some a->l[j]? =some x->S a x
 |[],xs,h,_=>⟨[],Mf h,rfl,λi a x e=>nomatch e⟩
 |y::l,[],h,_=>absurd h (by simp)
 |y::l,x::ys,h,g=>by
  obtain⟨a,rfl,m⟩:=g 0 x y rfl rfl;obtain⟨as,rfl,c,n⟩:=w_ l ys (by simpa using h) λj v z k c=>g (j+1) v z k c;refine⟨a::as,rfl,by rw[B8,B8,c],λi b z f d=>?_⟩
  cases i with
  |zero=>cases f;cases d;exact m
  |succ i=>exact n i b z f d
structure Drawn(d:dF)(cs:Fo):Prop where
 vf:VF false (.cons 0 d cs .nil)
 good:(Fo.cons 0 d cs .nil).Good
 bI:∀x∈bX (.cons 0 d cs .nil),Vn x
 nd:(bX (.cons 0 d cs .nil)).Nodup
 df:cs.df<=7
 cnt:cs.cnt<=20
def textOf(d:dF)(cs:Fo):Str:=L1 "\n" (B09P.cg d 0 cw 0::aY cs 1 d.wh 0)
def jH(d:dF)(cs:Fo):D:=iA d.wh.kd d.nm d.own d.wh (fD cs)
inductive A1(K:mo)(vs:List V)(H:Hp)(Q:VK):Prop
 |mk (d:dF) (cs:Fo) (c0:vs=[.str (textOf d cs)]) (c1:Drawn d cs) (c2:∀(v:V)(H':Hp),af H H'->At K H' v (jH d cs)->Q v H')
def vY(K:mo):Sp:=λvs H Q _=>A1 K vs H Q
theorem xb:Vw cw 0:=⟨rfl,⟨by decide,by decide⟩,by decide,by decide⟩
theorem Dw(d:dF)(cs:Fo):aY (.cons 0 d cs .nil) 0 cw 0=B09P.cg d 0 cw 0::aY cs 1 d.wh 0:=by
 show B09P.cg d 0 cw 0::(aY cs (0+1) d.wh 0++[])=_;rw[FB]
theorem uz(h:Drawn d cs):MV (textOf d cs) "\n"=aY (.cons 0 d cs .nil) 0 cw 0/\(textOf d cs).length<=99000:=by
 have n:(Fo.cons 0 d cs .nil).df<=8:=by
  show max (cs.df+1) 0<=8;have :=h.df
  lia
 obtain⟨l1,m⟩:=lA (.cons 0 d cs .nil) 0 cw 0 false 0 h.vf h.good h.bI ef xb (by lia);have k:=gR (.cons 0 d cs .nil) 0 cw 0 h.good ef (by lia);have a:=cU 0 cw (.cons 0 d cs .nil) 0 cw 0;unfold textOf;rw[<-Dw];refine⟨?_,?_⟩
 ·rw[join_eq];refine dX (c:=10) (t:=[]) D1 (by decide +kernel) (MZ _ _) λp l f=>?_;obtain⟨j,i⟩:=Nf l
  have b:j<(nH (.cons 0 d cs .nil) 0 cw 0).length:=by rw[<-l1];exact bR i
  obtain⟨ps,_,cz,_⟩:=m j p _ i (AC b);have :=cz 10 f
  lia
 ·have g:=dG "\n" _ k
  have e:("\n":Str).length=1:=by decide +kernel
  rw[e,a]at g
  have f:(Fo.cons 0 d cs .nil).cnt<=21:=by
   show cs.cnt+0+1<=21;have :=h.cnt
   lia
  have :(Fo.cons 0 d cs .nil).cnt*(2000+1)<=21*2001:=NA _ f
  lia
def AH:TS:=EW (hP mT [] E0 (cH (iR 1) e_))
section
variable{K:mo}
abbrev oM:List Str:=["text","tree"]
theorem mB:ay oM Ze (aj iz):=cL
theorem rQ(F:aZ K "read_tree" "read_tree" iz f fd)(N:aR mg)(G1:aw P w K mg base aO 5 f1 d1 ["rows"] (EZ K C))(J1:Cq K mg d1 f1 ["rows"] "outermost_read")(G2:aw P w K mg base aO 3 f2 d2 ["row"] (BM C))(J2:Cq K mg d2 f2 ["row"] "row_read")(G3:aw P w K mg base aO 22 f3 d3 Za mT)(J3:Cq K mg d3 f3 Za "check_tree")(G4:aw P w K mg base aO 17 f4 d4 ["tree"] fR)(J4:Cq K mg d4 f4 ["tree"] "tree_text"):aw P w K mg base aO 23 f fd Ze (vY K):=by
 refine F.cS mB λcdv A outer s H vs Q E M h=>?_
 ·obtain⟨d,cs,e,hd,k⟩:=h;subst e;have U:=M.mono (j:=3) (by decide);have a0:=M.mono (j:=5) (by decide);have D:=M.mono (j:=17) (by decide);have u:=M.mono (j:=22) (by decide)
  refine⟨_,ah (aJ (i:=1) mB.nd rfl (KB rfl) (pq G1 a0 J1 (aa (b_ (ba (fs:=aj iz) (N:=oM) rfl rfl (by decide +kernel)) rfl (dg (bV LS NN NM gD (pv 0) (aa aq ab))) (λ_ _ _ _ _=>bB) (λ_ _ _ _ _=>(pq G2 U J2 (aa (pv 0) ab)))) ab)))
   (ah (Ex (tb:=AH) (λpn xe=>(ai (bT (pq G3 u J3 (aa (pv 1) ab))))))
   (ah (aQ (aB fg (pq G4 D J4 (aa (pv 1) ab)) (pv 0) (aG _)) (ai fc) aC)
   (ai (au (pv 1))))),?_⟩
  try rw[bZ]
  obtain⟨W,a1⟩:=uz hd
  have h8:(Fo.cons 0 d cs .nil).df<=8:=by
   show max (cs.df+1) 0<=8;have :=hd.df
   lia
  have a2:(Fo.cons 0 d cs .nil).cnt<=21:=by
   show cs.cnt+0+1<=21;have :=hd.cnt
   lia
  obtain⟨l1,r1⟩:=lA (.cons 0 d cs .nil) 0 cw 0 false 0 hd.vf hd.good hd.bI ef xb (by lia);have I:=cU 0 cw (.cons 0 d cs .nil) 0 cw 0;refine ar λy o=>?_;refine⟨_,rfl,rfl,_,_,rfl,rfl,by decide +kernel,az (by lia),λl hl=>?_⟩;rw[W];generalize Y:upd H l _=H1
  have s1:af H H1:=by rw[<-Y];exact af.put (af.refl _) hl
  have h1:H1 l=some (.lst ((aY (.cons 0 d cs .nil) 0 cw 0).map V.str)):=by rw[<-Y];exact ae
  clear Y
  have ez:((aY (.cons 0 d cs .nil) 0 cw 0).zip (nH (.cons 0 d cs .nil) 0 cw 0)).map (λp=>V.str p.1)=(aY (.cons 0 d cs .nil) 0 cw 0).map V.str:=by
   rw[show(λp:Str×iK=>V.str p.1)=V.str∘Q4 from rfl,<-Mm,Qz (by rw[l1];exact B6 _)]
  have el:((aY (.cons 0 d cs .nil) 0 cw 0).zip (nH (.cons 0 d cs .nil) 0 cw 0)).length=(nH (.cons 0 d cs .nil) 0 cw 0).length:=by
   rw[QM,l1,Nat.min_self]
  refine⟨l,rfl,⟨_,bg.of h1⟩,Gk (α:=Str×iK) (l:=(aY (.cons 0 d cs .nil) 0 cw 0).zip (nH (.cons 0 d cs .nil) 0 cw 0)) (λp=> .str p.1) (λG v p=>∃x b,v= .ref x/\Ck C G x p.2.dep p.2.wh.kd p.2.nm b/\Told G b p.2.ps) (λG G' v p s t=>by obtain⟨x,b,e,⟨dx,g⟩,m⟩:=t;exact⟨x,b,e,⟨dx,s _ _ g⟩,m.same s⟩) (λG a xs ys v p ha t=>by obtain⟨x,b,e,⟨dx,g⟩,m⟩:=t;exact⟨x,b,e,⟨dx,by rw[ak (λz=>by rw[z,ha]at g;cases g)];exact g⟩,by unfold Told at m⊢;rw[ak (λz=>by rw[z,ha]at m;cases m)];exact m⟩) (by rw[ez];exact gA.list (bg.of h1)) (small (by rw[el,<-l1,I];exact cV)) (λx H' Q' _ _ hq=>hq _ (af.refl _)) (λp H' Q' hp s' hq=>?_) λDD xs H2 hD s2 h2 hA=>?_⟩
  ·obtain⟨j,hj⟩:=Nf hp;obtain⟨z1,z2⟩:=uv hj;obtain⟨ps,g,_,q3⟩:=r1 j p.1 p.2 z1 z2;refine⟨_,rfl,p.1,p.2.dep,p.2.wh.kd,p.2.nm,kvsOf ps,fQ ps,rfl,g,λx b G sG hx hT=>hq _ G sG ⟨x,b,rfl,hx,?_⟩⟩;rw[q3];exact hT
  obtain⟨as,rfl,Z,e3⟩:=w_ _ xs hA.1 (S:=λx p=>∃b,Ck C H2 x p.2.dep p.2.wh.kd p.2.nm b/\Told H2 b p.2.ps) λj v p L Z=>by
   obtain⟨x,b,e,g,m⟩:=hA.2 j v p L Z;exact⟨x,e,b,g,m⟩
  refine⟨DD,as,nH (.cons 0 d cs .nil) 0 cw 0,jH d cs,toldOf (cO d cw 0),rfl,h2,⟨by rw[Z,el],λi x r L e4=>?_⟩,by rw[<-l1,I];exact cV,zy hd.vf hd.good,λv H3 s3 hv=>?_⟩
  ·have hi:i<(aY (.cons 0 d cs .nil) 0 cw 0).length:=by rw[l1];exact bR e4
   refine e3 i x ((aY (.cons 0 d cs .nil) 0 cw 0)[i],r) L ?_;rw[Q_];exact⟨AC hi,e4⟩
  refine o _ _ ?_;clear o y;obtain⟨G,n,B,J⟩:=Bk (.cons 0 d cs .nil) [v] (ck.cons hv ck.nil);have c:=n.good hd.good;have O:=n.vf hd.vf;have q:=n.bI
  cases n with
  | @cons _ a' _ _ cs' _ as' R la=>
   cases la with
   |nil=>
    have B:[v]=[V.ref a']:=B
    injection B with B _
    subst B;have L:=R.df;have a3:=R.cnt;have g:=hd.df;have m:=hd.cnt
    have en:bX (.cons a' d cs' .nil)=d.nm::bX cs':=by
     show d.nm::(bX cs'++[])=_;rw[FB]
    rw[en]at q;refine ar λy o=>?_;refine⟨_,rfl,a',d,cs',rfl,J,c,O,λx hx=>hd.bI x (by rw[q];exact hx),by rw[<-q];exact hd.nd,by lia,by lia,λH4 T=>?_⟩;refine o _ _ ?_;clear o y;have X:=hv.same T;refine ar λy o=>?_;refine⟨_,rfl,a',d,cs',rfl,J.keep (KT.same T),c,by lia,by lia,λH5 s5=>⟨_,rfl,rfl,_,rfl,aN ?_ ?_⟩⟩
    ·rw[<-R.rows];show(!decide (V.str (textOf d cs)=V.str (textOf d cs)))=false;rw[decide_eq_true rfl];rfl
    refine o _ _ ?_;clear o y;exact⟨_,rfl,k _ H5 (af.trans s1 (af.trans s2 (af.trans s3 (af.trans T s5)))) (X.same s5)⟩
end
variable{ys:List V}
theorem yX{K:mo}{b:B3}(hA:H a=some (.tup xs))(hB:H b=some (.tup ys))(hl:xs.length=ys.length)(hn:xs.length<sizeLine)(he:∀(i:Nat)(x y:V)(H':Hp)(q:VK),xs[i]? =some x->ys[i]? =some y->af H H'->(∀f,af H' f->q (.bl true) f)->te (some x::some y::σ) H' q)(hd:∀D H',H D=none->af H H'->H' D=some (.lst ((Mo xs.length true).map V.bl))->Q (.ref D) H'):eO (GA K a b) H 2 σ (C5 K) gw te Q:=by
 intro D h;refine⟨λi m H'=>m=xs.length-i/\i<=xs.length/\af H H'/\H' D=some (.lst ((Mo i true).map V.bl)),⟨_,rfl,L5 _,af.kJ (af.refl H) h,ae⟩,?_⟩;rintro i m H' ⟨rfl,hi,s1,c⟩;have j:aT K H' a xs:=aT.of (s1 _ _ hA);have k:aT K H' b ys:=aT.of (s1 _ _ hB);by_cases d:i<xs.length
 ·have s:i<ys.length:=by lia
  refine .inr ⟨⟨xs,ys,xs[i],ys[i],j,k,by simp[d],by simp[s]⟩,λx H2 ρ l y=>?_⟩;obtain⟨p,u,v,rfl,r,rfl,t,A⟩:=y;have w:=t xs j;have z:=A ys k
  match ρ,l with
  |[B,C],_=>
   have s2:af H' (upd H' p (.tup [u,v])):=af.kJ (af.refl _) r;refine⟨p,_,rfl,aT.of ae,rfl,_,_,rfl,_,_,rfl,rfl,⟨[some u,some v],rfl,rfl⟩,?_⟩;have g:=af.trans s1 s2;have n:=s2 _ _ c;unfold gw;refine di (he i u v _ _ w z g λH4 o=>⟨_,o _ _ n,?_,_,Nd _ _ d,rfl,d,af.kJ (af.trans g o) h,?_⟩)
   ·rw[be,NT]
    lia
   ·rw[ae,List.replicate_succ',Dk];rfl
 ·have e:i=xs.length:=by lia
  refine .inl ⟨⟨xs,ys,j,k,by lia⟩,?_⟩;rw[e]at c;exact hd D H' h s1 c
def qS:Nat->D->Prop
 |0,_=>False
 |_+1,.int _=>True
 |_+1,.str _=>True
 |h+1,.tup l=>l.length<=1000/\∀e∈l,qS h e
 |_+1,_=>False
inductive DG(K:mo)(h:Nat)(vs:List V)(H:Hp)(Q:VK):Prop
 |mk (v u:V) (d:D) (c0:vs=[v,u]) (c1:At K H v d) (c2:At K H u d) (c3:qS h d) (c4:∀H':Hp,af H H'->Q (.bl true) H')
def pJ(K:mo)(h:Nat):Sp:=λvs H Q _=>DG K h vs H Q
theorem DR(n:Nat):(Mo n true).all id=true:=by
 induction n with
 |zero=>rfl
 |succ n a=>rw[P0,Oi,a];rfl
section
variable{K:mo}
abbrev zS:List Str:=Zm
theorem wG:ay zS Zm (aj gM):=cL
theorem yI:(["_law_one","_law_other","_law_found","_law_due_here"]:List Str).Nodup:=by decide +kernel
theorem AL(F:aZ K "_law_same" "_law_same" gM f fd)(N:aR mg)(R:aw P w K mg base aO (1+h) f1 d1 Zm (pJ K h))(V:Cq K mg d1 f1 Zm "_law_same"):aw P w K mg base aO (1+h+1) f fd Zm (pJ K (h+1)):=by
 refine F.cS wG λcdv A outer s H vs Q E Y h=>?_
 ·obtain⟨v,u,d,e,j,n,hd,k⟩:=h;subst e;have g:=Y
  refine⟨_,ah (aQ (bH (aF bh (by rfl) N.inst KM (aa (pv 1) (aa (cC (v:= .ty "tuple") (by rfl) N.tuple LR rfl (by decide)) ab)))) (ah (aQ (mR (cZ (bH (aF bh (by rfl) N.inst KM (aa (pv 0) (aa (cC (v:= .ty "tuple") (by rfl) N.tuple LR rfl (by decide)) ab))))) (jM (aB fg (aF br (by rfl) N.len Md (aa (pv 0) ab)) (aF br (by rfl) N.len Md (aa (pv 1) ab)) (aG _)))).pt (ai (au c_)) aC)
    (ai (au (aF (dh rfl) (by rfl) N.all MH (aa (jb (k:=2) (N':=["_law_one","_law_other","_law_found","_law_due_here"]) (fZ (fs:=aj gM) (N:=zS) rfl rfl (by decide +kernel)) rfl (CV (by rfl) N.zip (aa (pv 0) (aa (pv 1) ab))) (λ_ _ _ _ _=>kW (K:=K) rfl rfl yI rfl rfl rfl rfl) (λ_ _ _ _ _=>bB) (λ_ _ _ _ _=>(pq R g V (aa (pv 0) (aa (pv 1) ab))))) ab))))) aC)
   (ah (aQ (bH (aF bh (by rfl) N.inst KM (aa (pv 1) (aa (cC (v:= .ty "str") (by rfl) N.str FM rfl (by decide)) ab)))) (ai (au (a_ (aF bh (by rfl) N.inst KM (aa (pv 0) (aa (cC (v:= .ty "str") (by rfl) N.str FM rfl (by decide)) ab))) (bN (cy bD (pv 0) (pv 1) (aG _)))))) aC)
   (ai (au (a_ (aF bh (by rfl) N.inst KM (aa (pv 0) (aa (cC (v:= .ty "int") (by rfl) N.int PB rfl (by decide)) ab))) (a_ (uZ (aF bh (by rfl) N.inst KM (aa (pv 0) (aa (cC (v:= .ty "bool") (by rfl) N.bool RH rfl (by decide)) ab)))) (bN (cy bD (pv 0) (pv 1) (aG _)))))))),?_⟩
  try rw[bZ]
  obtain⟨T1,G,D⟩:=n.E7;obtain⟨T2,O,U⟩:=j.E7
  cases d with
  |non=>cases hd
  |bl b=>cases hd
  |oth=>cases hd
  |tup l=>
   obtain⟨hl,hd⟩:=hd;obtain⟨a,xs,rfl,ha,hA⟩:=j.tupS;obtain⟨b,ys,rfl,z,hB⟩:=n.tupS;refine ar λm c=>?_;refine⟨_,rfl,_,"tuple",_,_,rfl,G,D,_,rfl,cF rfl ?_⟩;clear c;refine ar λJ o=>?_;refine⟨_,rfl,_,"tuple",_,_,rfl,O,U,_,rfl,aN rfl ?_⟩;refine⟨_,rfl,a,_,rfl,.inr (aT.of ha),_,rfl,b,_,rfl,.inr (aT.of z),rfl,_,rfl,aN (by rw[hA.1,hB.1,decide_eq_true rfl];rfl) ?_⟩;refine o _ _ ?_;clear o J;refine⟨_,rfl,_,rfl,a,b,rfl,⟨_,aT.of ha⟩,⟨_,aT.of z⟩,yX (K:=K) ha z (by rw[hA.1,hB.1]) (small (by rw[hA.1];lia)) (λi x y H' Q' ex M s' W=>?_) λX H1 hD s1 h1=>?_⟩
   ·have hi:i<l.length:=by rw[<-hA.1];exact bR ex
    have I:l[i]? =some l[i]:=AC hi;exact⟨_,rfl,_,rfl,x,y,l[i],rfl,(hA.2 i x _ ex I).same s',(hB.2 i y _ M I).same s',hd _ (Fk I),W⟩
   ·refine⟨X,Mo xs.length true,rfl,bg.of h1,?_⟩;rw[DR];exact k H1 s1
  |str s=>
   obtain⟨L,t,r⟩:=n.Bo;obtain⟨Z,q,p⟩:=j.Bo;have B:=gf j;have C:=gf n;subst B C;refine ar λm c=>?_;refine⟨_,rfl,_,"tuple",_,_,rfl,G,D,_,rfl,aN rfl ?_⟩;refine c _ _ (ar λm c=>?_);refine⟨_,rfl,_,"str",_,_,rfl,t,r,_,rfl,cF rfl ?_⟩;refine⟨_,rfl,_,"str",_,_,rfl,q,p,_,rfl,cF rfl ?_⟩;refine⟨_,rfl,_,rfl,rfl,?_⟩;rw[decide_eq_true rfl];exact k H (af.refl _)
  |int i=>
   obtain⟨L,t,r⟩:=n.Bo;obtain⟨Z,q,p⟩:=j.Ii;obtain⟨T5,S,T⟩:=j.Hf;have B:=dD j;have C:=dD n;subst B C;refine ar λm c=>?_;refine⟨_,rfl,_,"tuple",_,_,rfl,G,D,_,rfl,aN rfl ?_⟩;refine c _ _ (ar λm c=>?_);refine⟨_,rfl,_,"str",_,_,rfl,t,r,_,rfl,aN rfl ?_⟩;refine c _ _ ?_;clear c m;refine⟨_,rfl,_,"int",_,_,rfl,q,p,_,rfl,cF rfl ?_⟩;refine⟨_,rfl,_,"bool",_,_,rfl,S,T,_,rfl,_,rfl,cF rfl ?_⟩;refine⟨_,rfl,_,rfl,rfl,?_⟩;rw[decide_eq_true rfl];exact k H (af.refl _)
theorem wF(F:aZ K "_law_same" "_law_same" gM f fd)(N:aR mg)(a:Cq K mg fd f Zm "_law_same"):∀h:Nat,aw P w K mg base aO (1+h) f fd Zm (pJ K h)
 |0=>by
  refine F.ok wG (λvs H Q E h=>?_) (λcdv A outer s H vs Q E b h=>?_)
  ·obtain⟨v,u,d,e,_⟩:=h;rw[e];rfl
  ·obtain⟨v,u,d,e,_,_,hd,_⟩:=h;exact hd.elim
 |h+1=>AL F N (wF F N a h) a
end
end B09
namespace B09P
open PySem L2 S2 DW
section
variable{X:Cx}
def HH(K:mo):R2:=λx y H Q=>∃(a b:B3)(xs:List V),x= .ref a/\y= .ref b/\aT K H a xs/\aT K H b []/\Q (.bl (!xs.isEmpty)) H
theorem wa(o:X.A.units<Np):hV X (MR .NotEq) (HH X.K):=by
 intro pins s σ H x y v u Q I k l h;obtain⟨a,b,xs,d,g,hA,hB,q⟩:=h;subst d g;obtain rfl:v=Kf a:=k;obtain rfl:u=Kf b:=l;obtain⟨its,r,pl,p⟩:=I.tuple hA;obtain⟨c,n,f,i⟩:=I.tuple hB;have l1:=r.length;have l2:=n.length;rw[On]at l2;refine R9 (e:=λ_=>true) pl f o (λj h1 h2=>by rw[B4]at h2;lia) _ _ _ _ ⟨.bl _,H,I,rfl,?_⟩
 have d:min its.toArray.size c.toArray.size=0:=by rw[B4,B4];lia
 have g:(its.toArray.size==c.toArray.size)=xs.isEmpty:=by
  rw[B4,B4,<-l2]
  cases xs with
  |nil=>rw[On]at l1;rw[<-l1];rfl
  |cons t m=>rw[B8]at l1;rw[<-l1];rfl
 rw[d,g];exact q
end
theorem C9(x y:Int×Int):((Me [V.int x.1,.int x.2].length).all λj=>qT ([V.int x.1,.int x.2].getD j .non) ([V.int y.1,.int y.2].getD j .non))=decide (x=y):=by
 obtain⟨a,b⟩:=x;obtain⟨c,d⟩:=y;show((a==c)&&((b==d)&&true))=_;rw[M7];simp
theorem Ew(x y:Str×Int):((Me [V.str x.1,.int x.2].length).all λj=>qT ([V.str x.1,.int x.2].getD j .non) ([V.str y.1,.int y.2].getD j .non))=decide (x=y):=by
 obtain⟨a,b⟩:=x;obtain⟨c,d⟩:=y;show((a==c)&&((b==d)&&true))=_;rw[M7];simp
variable{H:Hp}{K:mo}{Q:VK}{a b f f1:B3}{P:MA}{base:MP}{fd d1:M9}{mg:Str->Option B5}{w:MM}{ws:List (List Str)}
theorem qI{x y:Int×Int}(ha:H a=some (.tup [.int x.1,.int x.2]))(e:H b=some (.tup [.int y.1,.int y.2]))(k:Q (.bl (!decide (x=y))) H):AZ K true (.ref a) (.ref b) H Q:=by
 refine⟨a,b,_,_,λj=>qT ([V.int x.1,.int x.2].getD j .non) ([V.int y.1,.int y.2].getD j .non),rfl,rfl,.inr ⟨aT.of ha,aT.of e⟩,rfl,?_,?_⟩
 ·intro j u v d c
  match j,d,c with
  |0,d,c=>cases d;cases c;exact .flat rfl rfl
  |1,d,c=>cases d;cases c;exact .flat rfl rfl
 ·rw[if_pos rfl,C9];exact k
theorem tN{n:Nat}{x y:Str×Int}(ha:H a=some (.tup [.str x.1,.int x.2]))(e:H b=some (.tup [.str y.1,.int y.2]))(ne:a≠b):CK K H (n+1) (.ref a) (.ref b) (decide (x=y)):=by
 rw[<-Ew];refine .tup ne (aT.of ha) (aT.of e) rfl _ λj u v d c=>?_
 match j,d,c with
 |0,d,c=>cases d;cases c;exact .flat rfl rfl
 |1,d,c=>cases d;cases c;exact .flat rfl rfl
theorem CU{f g b1 n:B3}{x y:(Str×Int)×(Str×Int)}(ha:H a=some (.tup [.ref f,.ref g]))(h:H f=some (.tup [.str x.1.1,.int x.1.2]))(i:H g=some (.tup [.str x.2.1,.int x.2.2]))(s:H b=some (.tup [.ref b1,.ref n]))(l:H b1=some (.tup [.str y.1.1,.int y.1.2]))(m:H n=some (.tup [.str y.2.1,.int y.2.2]))(n1:f≠b1)(p:g≠n)(k:Q (.bl (!decide (x=y))) H):AZ K true (.ref a) (.ref b) H Q:=by
 refine⟨a,b,_,_,λj=>if j=0 then decide (x.1=y.1)else decide (x.2=y.2),rfl,rfl,.inr ⟨aT.of ha,aT.of s⟩,rfl,?_,?_⟩
 ·intro j u v d c
  match j,d,c with
  |0,d,c=>cases d;cases c;exact tN h l n1
  |1,d,c=>cases d;cases c;exact tN i m p
 ·have e:((Me [V.ref f,.ref g].length).all λj=>if j=0 then decide (x.1=y.1)else decide (x.2=y.2))=decide (x=y):=by
   obtain⟨r,q⟩:=x;obtain⟨t,o⟩:=y;show(decide (r=t)&&(decide (q=o)&&true))=_;rw[M7];simp
  rw[if_pos rfl,e];exact k
inductive Ae(vs:List V)(H:Hp)(Q:VK):Prop
 |mk (a:B3) (o:Own) (c0:vs=[.ref a]) (c1:iI H a o) (c2:o.Good) (c3:∀(l:B3)(H':Hp),H l=none->af H H'->H' l=some (.lst ((eM o).map V.str))->Q (.ref l) H')
def xh:Sp:=λvs H Q _=>Ae vs H Q
inductive yW(vs:List V)(H:Hp)(Q:VK):Prop
 |mk (q:B3) (wh:aX) (c0:vs=[.str wh.kd,.ref q]) (c1:cJ H q wh) (c2:wh.Good) (c3:∀(l:B3)(H':Hp),H l=none->af H H'->H' l=some (.lst ((Fn wh).map V.str))->Q (.ref l) H')
def s_:Sp:=λvs H Q _=>yW vs H Q
inductive yw(vs:List V)(H:Hp)(Q:VK):Prop
 |mk (q:B3) (wh:aX) (c0:vs=[.str wh.kd,.ref q]) (c1:cJ H q wh) (c2:wh.Good) (c3:∀(l:B3)(H':Hp),H l=none->af H H'->H' l=some (.lst ((cR wh).map V.str))->Q (.ref l) H')
def sq:Sp:=λvs H Q _=>yw vs H Q
inductive xX(vs:List V)(H:Hp)(Q:VK):Prop
 |mk (q:B3) (wh:aX) (n i:Nat) (c0:vs=[.str wh.kd,.ref q,.int (i:Int)]) (c1:cJ H q wh) (c2:wh.Good) (c3:Fo.fits wh n) (c4:i<n) (c5:∀(l:B3)(H':Hp),H l=none->af H H'->H' l=some (.lst ((ny wh i).map V.str))->Q (.ref l) H')
def sJ:Sp:=λvs H Q _=>xX vs H Q
theorem ir:("=":Str).length=1:=by decide +kernel
theorem BS:("..":Str).length=2:=by decide +kernel
theorem fz:(",":Str).length=1:=by decide +kernel
def AR(o:Own):Nat->List Str
 |0=>[]
 |1=>rW "wide" o.w0 o.w1
 |_=>rW "wide" o.w0 o.w1++rW "high" o.h0 o.h1
def qi(o:Own):Nat->List Str
 |0=>rW "wide" o.w0 o.w1++rW "high" o.h0 o.h1
 |1=>rW "wide" o.w0 o.w1++rW "high" o.h0 o.h1++nW "grow" o.gr 0
 |2=>rW "wide" o.w0 o.w1++rW "high" o.h0 o.h1++nW "grow" o.gr 0++nW "shrink" o.sh 1
 |3=>rW "wide" o.w0 o.w1++rW "high" o.h0 o.h1++nW "grow" o.gr 0++nW "shrink" o.sh 1++nW "rank" o.rk 0
 |_=>eM o
theorem zm(o:Own)(i:Nat):(AR o i).length<=2:=by
 match i with
 |0=>exact L5 _
 |1=>exact Mu fM (by decide)
 |i+2=>
  show(rW "wide" o.w0 o.w1++rW "high" o.h0 o.h1).length<=2;rw[B1];have h1:(rW "wide" o.w0 o.w1).length<=1:=fM;have h2:(rW "high" o.h0 o.h1).length<=1:=fM
  lia
theorem qX(o:Own):(eM o).length<=6:=by
 unfold eM;simp only[B1];have h1:(rW "wide" o.w0 o.w1).length<=1:=fM;have h2:(rW "high" o.h0 o.h1).length<=1:=fM;have c:(nW "grow" o.gr 0).length<=1:=fM;have b:(nW "shrink" o.sh 1).length<=1:=fM;have d:(nW "rank" o.rk 0).length<=1:=fM;have a:(nW "alike" o.al 0).length<=1:=fM
 lia
theorem zq(o:Own)(i:Nat):(qi o i).length<=6:=by
 have h1:(rW "wide" o.w0 o.w1).length<=1:=fM;have h2:(rW "high" o.h0 o.h1).length<=1:=fM;have b:(nW "grow" o.gr 0).length<=1:=fM;have a:(nW "shrink" o.sh 1).length<=1:=fM;have c:(nW "rank" o.rk 0).length<=1:=fM
 match i with
 |0=>simp only[qi,B1];lia
 |1=>simp only[qi,B1];lia
 |2=>simp only[qi,B1];lia
 |3=>simp only[qi,B1];lia
 |i+4=>exact qX o
theorem fU:ay ["_law_own","_law_words_here","_law_key","_law_pair","_law_number","_law_plain"] ["_law_own"] (aj uo):=cL
theorem zo(F:aZ K "_law_own_words" "_law_own_words" uo f fd)(N:aR mg):aw P w K mg base aO 1 f fd ["_law_own"] xh:=by
 refine F.cS fU λcdv A outer s H vs Q E hr h=>?_
 ·obtain⟨a,o,e,⟨u,v,ha,b7,c6⟩,⟨g1,g2,g3,g4,g5,g6,g7,g8⟩,k⟩:=h;subst e
  have hu:(A.deeper (Mh "_law_own_words" (aj uo) s.heap.objs.size f cdv)).units+20<Np:=by have :=hr.units;lia
  refine⟨_,ah (aJ (i:=1) fU.nd rfl (KB rfl) (bu ab))
   (ah (cG Ma rfl (dg (bu (aa (aS (aa aq (aa (ax av (pv 0) ag (λ_ _=>rfl)) ab))) (aa (aS (aa aq (aa (ax av (pv 0) ag (λ_ _=>rfl)) ab))) ab)))) (gG rfl (bK (aV (i:=2) fU.nd rfl (KB rfl)) (bK (aV (i:=3) fU.nd rfl (KB rfl)) fo)))
    (ai (aQ (aB (hZ hu) (pv 3) (aS (aa ag (aa (aE iT ag ag) ab))) (aG _))
     (ai (bT (bV LZ L8 L7 bQ (pv 1) (aa (aE aK (aE aK (aE aK (aE aK (pv 2) aq) (aH bj (by rfl) N.str FM (aa (ax av (pv 3) ag (λ_ _=>rfl)) ab))) aq) (aH bj (by rfl) N.str FM (aa (ax av (pv 3) ag (λ_ _=>rfl)) ab))) ab)))) aC)))
   (ah (cG Ma rfl (dg (bu (aa (aS (aa aq (aa (ax av (pv 0) ag (λ_ _=>rfl)) (aa ag ab)))) (aa (aS (aa aq (aa (ax av (pv 0) ag (λ_ _=>rfl)) (aa ag ab)))) (aa (aS (aa aq (aa (ax av (pv 0) ag (λ_ _=>rfl)) (aa ag ab)))) (aa (aS (aa aq (aa (ax av (pv 0) ag (λ_ _=>rfl)) (aa ag ab)))) ab)))))) (gG rfl (bK (aV (i:=2) fU.nd rfl (KB rfl)) (bK (aV (i:=4) fU.nd rfl (KB rfl)) (bK (aV (i:=5) fU.nd rfl (KB rfl)) fo))))
    (ai (aQ (aB fg (pv 4) (pv 5) (aG _))
     (ai (bT (bV LZ L8 L7 bQ (pv 1) (aa (aE aK (aE aK (pv 2) aq) (aH bj (by rfl) N.str FM (aa (pv 4) ab))) ab)))) aC)))
   (ai (au (pv 1))))),?_⟩
  refine ar λN1 b0=>?_;refine⟨az (by simp),λl hl=>b0 _ _ ?_⟩;clear b0 N1;have s1:af H (upd H l (.lst [])):=af.put (af.refl _) hl;have l1:(upd H l (.lst [])) l=some (.lst ((AR o 0).map V.str)):=ae;generalize upd H l (.lst [])=H1 at *;refine ar λN2 a6=>?_;refine⟨_,rfl,a,_,_,_,rfl,rfl,aT.of (s1 _ _ ha),aA (j:=0) rfl,(by show 2<=sizeLine;decide),λC hp1=>?_⟩;have s2:af H1 (upd H1 C (.tup [.str "wide",.ref u])):=af.put (af.refl _) hp1;have q2:(upd H1 C (.tup [.str "wide",.ref u])) C=some (.tup [.str "wide",.ref u]):=ae;generalize upd H1 C (.tup [.str "wide",.ref u])=H2 at *;refine⟨_,rfl,a,_,_,_,rfl,rfl,aT.of (s2 _ _ (s1 _ _ ha)),aA (j:=1) rfl,(by show 2<=sizeLine;decide),λp2 c7=>?_⟩;have s3:af H2 (upd H2 p2 (.tup [.str "high",.ref v])):=af.put (af.refl _) c7;have q3:(upd H2 p2 (.tup [.str "high",.ref v])) p2=some (.tup [.str "high",.ref v]):=ae;generalize upd H2 p2 (.tup [.str "high",.ref v])=H3 at *;refine⟨(by show 2<=sizeLine;decide),λZ a0=>?_⟩;have s4:af H3 (upd H3 Z (.lst [.ref C,.ref p2])):=af.put (af.refl _) a0;have q4:(upd H3 Z (.lst [.ref C,.ref p2])) Z=some (.lst [.ref C,.ref p2]):=ae;generalize upd H3 Z (.lst [.ref C,.ref p2])=H4 at *;have S4:=s1.trans (s2.trans (s3.trans s4));have l4:=(s2.trans (s3.trans s4)) _ _ l1;have c8:=(s3.trans s4) _ _ q2;have b8:=s4 _ _ q3
  have b3:Z≠l:=λz=>by rw[z,(s2.trans s3) _ _ l1]at a0;cases a0
  refine⟨Z,rfl,⟨_,bg.of q4⟩,gS (K:=K) (a:=Z) (xs:=[.ref C,.ref p2]) (λi σ d=>∃(y2 y3:Option V),σ=[some (.ref a),some (.ref l),y2,y3,none,none]/\af H d/\d Z=some (.lst [.ref C,.ref p2])/\d C=some (.tup [.str "wide",.ref u])/\d p2=some (.tup [.str "high",.ref v])/\d l=some (.lst ((AR o i).map V.str)))
   ⟨_,_,rfl,S4,q4,c8,b8,l4⟩ (λi σ d _ a3=>by obtain⟨_,_,_,_,z,_⟩:=a3;exact bg.of z) ?_ ?_⟩
  ·rintro i x σ d hx ⟨y2,y3,rfl,B,x9,a9,b9,J⟩
   obtain⟨g,p,r,c,e,d3,gc,ge,hp,a5,m,a4⟩:∃(g:Str)(p r:B3)(c e:Int),g.length<=10/\bC c/\bC e/\d p=some (.tup [.str g,.ref r])/\d r=some (.tup [.int c,.int e])/\AR o (i+1)=AR o i++rW g c e/\x= .ref p:=by
    match i,hx with
    |0,hx=>exact⟨"wide",C,u,o.w0,o.w1,by decide +kernel,g1,g2,a9,B _ _ b7,rfl,(L6 hx).symm⟩
    |1,hx=>exact⟨"high",p2,v,o.h0,o.h1,by decide +kernel,g3,g4,b9,B _ _ c6,rfl,(L6 hx).symm⟩
   subst a4;refine⟨p,_,rfl,aT.of hp,rfl,_,_,rfl,_,_,rfl,rfl,?_⟩;refine⟨_,rfl,_,_,rfl,rfl,⟨by decide,by decide,by decide⟩,(by show 2<=sizeLine;decide),λt ht=>?_⟩;have b:af d (upd d t (.tup [.int 0,.int (10^Ny 6)])):=af.put (af.refl _) ht;have c0:(upd d t (.tup [.int 0,.int (10^Ny 6)])) t=some (.tup [.int ((0,1000000):Int×Int).1,.int ((0,1000000):Int×Int).2]):=ae;generalize upd d t (.tup [.int 0,.int (10^Ny 6)])=L at *;have O:=B.trans b;refine qI (x:=(c,e)) (b _ _ a5) c0 ⟨_,rfl,?_⟩;by_cases U:(c,e)=((0:Int),(1000000:Int))
   ·rw[decide_eq_true U];refine bA ⟨_,_,rfl,O,b _ _ x9,b _ _ a9,b _ _ b9,?_⟩;rw[m,show rW g c e=[]from if_pos U,FB];exact b _ _ J
   ·rw[decide_eq_false U];have n1:=cn gc;have n2:=cn ge;have Y:=b _ _ a5;have n:=b _ _ J;have pl:=zm o i;refine di ⟨_,rfl,.inl ⟨rfl,_,bg.of n⟩,_,rfl,_,_,rfl,rfl,az (by rw[ir];lia),_,rfl,r,_,_,_,rfl,rfl,aT.of Y,aA (j:=0) rfl,_,rfl,gc,_,_,rfl,rfl,az (by rw[B9,ir];show _+(nS c).length<=_;lia),_,_,rfl,rfl,az (by rw[B9,B9,ir,BS];show _+(nS c).length+_<=_;lia),_,rfl,r,_,_,_,rfl,rfl,aT.of Y,aA (j:=1) rfl,_,rfl,ge,_,_,rfl,rfl,az (by rw[B9,B9,B9,ir,BS];show _+(nS c).length+_+(nS e).length<=_;lia),l,_,_,rfl,rfl,n,small (by rw[be];lia),?_⟩;refine⟨_,_,rfl,af.put O hl,(ak b3).trans (b _ _ x9),(ak (gx (b _ _ a9) n (by intro z;cases z))).trans (b _ _ a9),(ak (gx (b _ _ b9) n (by intro z;cases z))).trans (b _ _ b9),?_⟩;rw[ae,m,show rW g c e=[(((g++"=")++nS c)++"..")++nS e]from if_neg U,Dk];rfl
  ·rintro σ d ⟨y2,y3,rfl,B,x9,a9,b9,J⟩;refine a6 _ _ ?_;clear a6 N2;refine ar λN3 d2=>?_;have d5:=B;refine⟨_,rfl,a,_,_,_,rfl,rfl,aT.of (B _ _ ha),aA (j:=2) rfl,(by show 3<=sizeLine;decide),λG c9=>?_⟩;have b:af d (upd d G (.tup [.str "grow",.int o.gr,.int 0])):=af.put (af.refl _) c9;have c1:(upd d G (.tup [.str "grow",.int o.gr,.int 0])) G=some (.tup [.str "grow",.int o.gr,.int 0]):=ae;generalize upd d G (.tup [.str "grow",.int o.gr,.int 0])=L at *;have O:=B.trans b;refine⟨_,rfl,a,_,_,_,rfl,rfl,aT.of (O _ _ ha),aA (j:=3) rfl,(by show 3<=sizeLine;decide),λD b5=>?_⟩;have a2:af L (upd L D (.tup [.str "shrink",.int o.sh,.int 1])):=af.put (af.refl _) b5;have c2:(upd L D (.tup [.str "shrink",.int o.sh,.int 1])) D=some (.tup [.str "shrink",.int o.sh,.int 1]):=ae;generalize upd L D (.tup [.str "shrink",.int o.sh,.int 1])=T at *;have a8:=O.trans a2;refine⟨_,rfl,a,_,_,_,rfl,rfl,aT.of (a8 _ _ ha),aA (j:=4) rfl,(by show 3<=sizeLine;decide),λy d1=>?_⟩;have R:af T (upd T y (.tup [.str "rank",.int o.rk,.int 0])):=af.put (af.refl _) d1;have c3:(upd T y (.tup [.str "rank",.int o.rk,.int 0])) y=some (.tup [.str "rank",.int o.rk,.int 0]):=ae;generalize upd T y (.tup [.str "rank",.int o.rk,.int 0])=W at *;have b1:=a8.trans R;refine⟨_,rfl,a,_,_,_,rfl,rfl,aT.of (b1 _ _ ha),aA (j:=5) rfl,(by show 3<=sizeLine;decide),λI d0=>?_⟩;have M:af W (upd W I (.tup [.str "alike",.int o.al,.int 0])):=af.put (af.refl _) d0;have c4:(upd W I (.tup [.str "alike",.int o.al,.int 0])) I=some (.tup [.str "alike",.int o.al,.int 0]):=ae;generalize upd W I (.tup [.str "alike",.int o.al,.int 0])=S at *;have b6:=b1.trans M;refine⟨(by show 4<=sizeLine;decide),λX a1=>?_⟩;have q:af S (upd S X (.lst [.ref G,.ref D,.ref y,.ref I])):=af.put (af.refl _) a1;have c5:(upd S X (.lst [.ref G,.ref D,.ref y,.ref I])) X=some (.lst [.ref G,.ref D,.ref y,.ref I]):=ae;generalize upd S X (.lst [.ref G,.ref D,.ref y,.ref I])=d6 at *;have b4:=b6.trans q;have a7:=(b.trans (a2.trans (R.trans M))) _ _ J;have d4:=q _ _ a7
   have b2:X≠l:=λz=>by rw[z,a7]at a1;cases a1
   have e1:=(a2.trans (R.trans (M.trans q))) _ _ c1;have e2:=(R.trans (M.trans q)) _ _ c2;have e3:=(M.trans q) _ _ c3;have e4:=q _ _ c4
   refine⟨X,rfl,⟨_,bg.of c5⟩,gS (K:=K) (a:=X) (xs:=[.ref G,.ref D,.ref y,.ref I]) (λi σ d=>∃(z2 z4 z5:Option V),σ=[some (.ref a),some (.ref l),z2,y3,z4,z5]/\af H d/\d X=some (.lst [.ref G,.ref D,.ref y,.ref I])/\d G=some (.tup [.str "grow",.int o.gr,.int 0])/\d D=some (.tup [.str "shrink",.int o.sh,.int 1])/\d y=some (.tup [.str "rank",.int o.rk,.int 0])/\d I=some (.tup [.str "alike",.int o.al,.int 0])/\d l=some (.lst ((qi o i).map V.str)))
    ⟨_,_,_,rfl,b4,c5,e1,e2,e3,e4,d4⟩ (λi σ d _ a3=>by obtain⟨_,_,_,_,_,z,_⟩:=a3;exact bg.of z) ?_ ?_⟩
   ·rintro i x σ d hx ⟨z2,z4,z5,rfl,B,x9,f1,f2,f3,f4,J⟩
    obtain⟨g,p,c,e,d3,gc,hp,m,a4⟩:∃(g:Str)(p:B3)(c e:Int),g.length<=10/\bC c/\d p=some (.tup [.str g,.int c,.int e])/\qi o (i+1)=qi o i++nW g c e/\x= .ref p:=by
     match i,hx with
     |0,hx=>exact⟨"grow",G,o.gr,0,by decide +kernel,g5,f1,rfl,(L6 hx).symm⟩
     |1,hx=>exact⟨"shrink",D,o.sh,1,by decide +kernel,g6,f2,rfl,(L6 hx).symm⟩
     |2,hx=>exact⟨"rank",y,o.rk,0,by decide +kernel,g7,f3,rfl,(L6 hx).symm⟩
     |3,hx=>exact⟨"alike",I,o.al,0,by decide +kernel,g8,f4,by simp only[qi,eM,LW],(L6 hx).symm⟩
    subst a4;refine⟨p,_,rfl,aT.of hp,rfl,_,_,rfl,_,_,rfl,_,_,rfl,rfl,?_⟩;refine⟨_,rfl,_,rfl,rfl,_,rfl,?_⟩;by_cases U:c=e
    ·rw[decide_eq_true (show V.int c=V.int e by rw[U])];refine bA ⟨_,_,_,rfl,B,x9,f1,f2,f3,f4,?_⟩;rw[m,show nW g c e=[]from if_pos U,FB];exact J
    ·rw[decide_eq_false (show¬V.int c=V.int e fromλz=>U (V.int.inj z))];have n1:=cn gc;have pl:=zq o i;refine di ⟨_,rfl,.inl ⟨rfl,_,bg.of J⟩,_,rfl,_,_,rfl,rfl,az (by rw[ir];lia),_,rfl,_,rfl,gc,_,_,rfl,rfl,az (by rw[B9,ir];show _+(nS c).length<=_;lia),l,_,_,rfl,rfl,J,small (by rw[be];lia),?_⟩;have nt:∀{t:B3}{xs:List V},d t=some (.tup xs)->t≠l:=λh=>gx h J (by intro z;cases z);refine⟨_,_,_,rfl,af.put B hl,(ak b2).trans x9,(ak (nt f1)).trans f1,(ak (nt f2)).trans f2,(ak (nt f3)).trans f3,(ak (nt f4)).trans f4,?_⟩;rw[ae,m,show nW g c e=[(g++"=")++nS c]from if_neg U,Dk];rfl
   ·rintro σ d ⟨z2,z4,z5,rfl,B,x9,f1,f2,f3,f4,J⟩;refine d2 _ _ ?_;exact⟨_,rfl,k l d hl B J⟩
theorem lP{d:B3}{as:List B3}{σ:St}(h:H d=some (.tup (as.map V.ref)))(a:bp H as (ws.map de))(g:eH ws)(hd:∀D H',H D=none->af H H'->H' D=some (.lst ((ws.map (L1 "|")).map V.str))->Q (.ref D) H'):fb (EU K d) H σ gw (Kh K "str" (jR K) (tC (.str "|")) (cH (iR 0) e_)) Q:=by
 have hl:as.length=ws.length:=by rw[a.1,be]
 have g1:=g.1;refine ke (wordAt H) h (small (by rw[be];lia)) (λi x H' l ex s1 kk=>?_) λD H' j s1 b=>?_
 ·rw[B7]at ex;obtain⟨p,f,rfl⟩:=Option.map_eq_some_iff.mp ex
  have hi:i<ws.length:=by rw[<-hl];exact bR f
  have c:=a.2 i p _ f (by rw[B7,AC hi];rfl);obtain⟨w1,w2,k⟩:=g.2 _ (MY hi);rw[ka c]at kk;refine⟨rfl,_,rfl,"|",p,ws[i],rfl,rfl,aT.of (s1 _ _ c),?_,kk H' (af.refl _)⟩;have h1:=fu ws[i] (B:=4) λy c=>(k y c).2
  have e:("|":Str).length=1:=by decide +kernel
  rw[e]
  lia
 ·rw[oN a]at b;exact hd D H' j s1 b
theorem A4(a:eH ws):((ws.map (L1 "|")).map (·.length)).sum+(ws.map (L1 "|")).length*(" ":Str).length<=16777216:=by
 have g1:=a.1
 have h1:=fu (ws.map (L1 "|")) (B:=15) λy b=>by
  obtain⟨v,d,rfl⟩:=List.mem_map.mp b;obtain⟨_,h2,c⟩:=a.2 v d;have :=dG "|" v (B:=4) λx hx=>(c x hx).2
  have e:("|":Str).length=1:=by decide +kernel
  rw[e]at this
  lia
 have e:(" ":Str).length=1:=by decide +kernel
 rw[e];rw[be]at h1⊢
 lia
theorem LN{k:Nat}{g:Int}{al sd:Str}:(aX.lined k g al sd).kd≠"words":=Fg.2.2.2.2
theorem LP:("table":Str)≠"words":=by decide +kernel
theorem Lh:("table":Str)≠"flow":=by decide +kernel
theorem LD:("leaf":Str)≠"words":=by decide +kernel
theorem Lj:("flow":Str)≠"over":=by decide +kernel
theorem LM:("table":Str)≠"over":=by decide +kernel
theorem A7:ay Zk Zk (aj jy):=cL
theorem xY(F:aZ K "_law_text_words" "_law_text_words" jy f fd):aw P w K mg base aO 1 f fd Zk s_:=by
 refine F.cS A7 λcdv A outer s H vs Q E G h=>?_
 ·obtain⟨q,wh,e,z,u,k⟩:=h;subst e
  have B:(A.deeper (Mh "_law_text_words" (aj jy) s.heap.objs.size f cdv)).units<Np:=by have :=G.units;lia
  refine⟨_,ah (aQ (bY (aB bD (pv 0) aq (aG _)) (bS (aB (wa B) (ax av (pv 1) ag (λ_ _=>rfl)) (aS ab) (aG _)))).pt
    (ai (au (bu (aa (aE aK aq (bV LS Mt Ms ff aq (aa (b_ (ba (fs:=aj jy) (N:=Zk) rfl rfl (by decide +kernel)) rfl (eG (ax av (pv 1) ag (λ_ _=>rfl))) (λ_ _ _ _ _=>bB)
     (λ_ _ _ _ _=>qe (K:=K) (r:=jR K) LS Mt Ms jU aq (aa (pv 0) ab))) ab))) ab)))) aC)
   (ah (aQ (bY (aB bD (pv 0) aq (aG _)) (bS (aB (wa B) (ax av (pv 1) ag (λ_ _=>rfl)) (aS ab) (aG _)))).pt
    (ai (au (bu (aa (aE aK aq (bV LS Mt Ms ff aq (aa (b_ (ba (fs:=aj jy) (N:=Zk) rfl rfl (by decide +kernel)) rfl (eG (ax av (pv 1) ag (λ_ _=>rfl))) (λ_ _ _ _ _=>bB)
     (λ_ _ _ _ _=>qe (K:=K) (r:=jR K) LS Mt Ms jU aq (aa (pv 0) ab))) ab))) ab)))) aC)
   (ai (au (bu ab)))),?_⟩
  have d:∀{H1:Hp},af H H1->Fn wh=[]->∀l,H1 l=none->Q (.ref l) (upd H1 l (.lst [])):=λs1 e l hl=>k l _ (s1.free hl) (af.put s1 (s1.free hl)) (by rw[ae,e];rfl)
  have v:("text=":Str).length=5:=by decide +kernel
  cases wh with
  |leaf a b=>exact⟨_,rfl,rfl,_,rfl,aN (dr LD) (bA ⟨_,rfl,rfl,_,rfl,aN (dr KQ) (bA ⟨az (by simp),λl hl=>d (af.refl _) rfl l hl⟩)⟩)⟩
  |lined n g al sd=>exact⟨_,rfl,rfl,_,rfl,aN (dr LN) (bA ⟨_,rfl,rfl,_,rfl,aN (dr Fg.2.1) (bA ⟨az (by simp),λl hl=>d (af.refl _) rfl l hl⟩)⟩)⟩
  |table c g sd sps=>exact⟨_,rfl,rfl,_,rfl,aN (dr LP) (bA ⟨_,rfl,rfl,_,rfl,aN (dr Lh) (bA ⟨az (by simp),λl hl=>d (af.refl _) rfl l hl⟩)⟩)⟩
  |over ps=>exact⟨_,rfl,rfl,_,rfl,aN (dr ow) (bA ⟨_,rfl,rfl,_,rfl,aN (dr JV) (bA ⟨az (by simp),λl hl=>d (af.refl _) rfl l hl⟩)⟩)⟩
  |words ws j=>
   obtain⟨sp,x,as,o,i⟩:=z
   have hl:as.length=ws.length:=by rw[i.1,be]
   refine⟨_,rfl,rfl,_,rfl,cF qR ?_⟩;refine⟨_,rfl,q,_,_,_,rfl,rfl,aT.of x,aA (j:=0) rfl,az (by simp),λte m=>?_⟩;have s1:af H (upd H te (.tup [])):=af.put (af.refl _) m;have y:(upd H te (.tup [])) te=some (.tup []):=ae;generalize upd H te (.tup [])=H1 at *;refine⟨sp,te,_,rfl,rfl,aT.of (s1 _ _ o),aT.of y,_,rfl,?_⟩
   cases ws with
   |nil=>
    have p:as=[]:=Mf hl;subst p;exact bA ⟨_,rfl,rfl,_,rfl,aN (dr Kw) (bA ⟨az (by simp),λl hl=>d s1 rfl l hl⟩)⟩
   |cons w0 wr=>
    have p:((as.map V.ref).isEmpty)=false:=by
     cases as with
     |nil=>cases hl
     |cons=>rfl
    rw[p];refine di ⟨rfl,_,rfl,q,_,_,_,rfl,rfl,aT.of (s1 _ _ x),aA (j:=0) rfl,sp,rfl,⟨_,aT.of (s1 _ _ o)⟩,lP (s1 _ _ o) (dY i (KT.same s1)) u.1 λD H2 C s2 h2=>?_⟩;have wl:=ib u.1;refine⟨" ",D,_,rfl,rfl,bg.of h2,A4 u.1,_,_,rfl,rfl,az (by rw[v];show 5+(jL (w0::wr)).length<=_;lia),(by show 1<=sizeLine;decide),λl hl=>?_⟩;have t:=s1.trans s2;exact k l _ (t.free hl) (af.put t (t.free hl)) ae
  |flow sds ws j=>
   obtain⟨J,sp,x,I,as,o,i⟩:=z
   have hl:as.length=ws.length:=by rw[i.1,be]
   refine⟨_,rfl,rfl,_,rfl,aN (dr fw) (bA ⟨_,rfl,rfl,_,rfl,cF qR ?_⟩)⟩;refine⟨_,rfl,q,_,_,_,rfl,rfl,aT.of x,aA (j:=1) rfl,az (by simp),λte m=>?_⟩;have s1:af H (upd H te (.tup [])):=af.put (af.refl _) m;have y:(upd H te (.tup [])) te=some (.tup []):=ae;generalize upd H te (.tup [])=H1 at *;refine⟨sp,te,_,rfl,rfl,aT.of (s1 _ _ o),aT.of y,_,rfl,?_⟩
   cases ws with
   |nil=>
    have p:as=[]:=Mf hl;subst p;exact bA ⟨az (by simp),λl hl=>d s1 rfl l hl⟩
   |cons w0 wr=>
    have p:((as.map V.ref).isEmpty)=false:=by
     cases as with
     |nil=>cases hl
     |cons=>rfl
    rw[p];refine di ⟨rfl,_,rfl,q,_,_,_,rfl,rfl,aT.of (s1 _ _ x),aA (j:=1) rfl,sp,rfl,⟨_,aT.of (s1 _ _ o)⟩,lP (s1 _ _ o) (dY i (KT.same s1)) u.2.1 λD H2 C s2 h2=>?_⟩;have wl:=ib u.2.1;refine⟨" ",D,_,rfl,rfl,bg.of h2,A4 u.2.1,_,_,rfl,rfl,az (by rw[v];show 5+(jL (w0::wr)).length<=_;lia),(by show 1<=sizeLine;decide),λl hl=>?_⟩;have t:=s1.trans s2;exact k l _ (t.free hl) (af.put t (t.free hl)) ae
theorem lR:ay ["_law_kind","_law_what_here","_law_at","_law_one","_law_other"] ZK (aj qt):=cL
theorem yD(F:aZ K "_law_part_words" "_law_part_words" qt f fd)(N:aR mg):aw P w K mg base aO 1 f fd ZK sJ:=by
 refine F.cS lR λcdv A outer s H vs Q E hr h=>?_
 ·obtain⟨q,wh,n,i,e,Y,hg,S,hi,k⟩:=h;subst e
  have hu:(A.deeper (Mh "_law_part_words" (aj qt) s.heap.objs.size f cdv)).units+20<Np:=by have :=hr.units;lia
  refine⟨_,ah (aQ (bY (aB bD (pv 0) aq (aG _)) (bS (aB (hZ hu) (ax av (ax av (pv 1) ag (λ_ _=>rfl)) (pv 2) (λ_ _=>rfl)) (aS (aa ag (aa ag ab))) (aG _)))).pt
    (ai (au (bu (aa (aE aK (aE aK (aE aK aq (aH bj (by rfl) N.str FM (aa (ax av (ax av (ax av (pv 1) ag (λ_ _=>rfl)) (pv 2) (λ_ _=>rfl)) ag (λ_ _=>rfl)) ab))) aq) (aH bj (by rfl) N.str FM (aa (ax av (ax av (ax av (pv 1) ag (λ_ _=>rfl)) (pv 2) (λ_ _=>rfl)) ag (λ_ _=>rfl)) ab))) ab)))) aC)
   (ah (aQ (bY (aB bD (pv 0) aq (aG _)) (bS (aB fg (ax av (ax av (pv 1) ag (λ_ _=>rfl)) (pv 2) (λ_ _=>rfl)) aq (aG _)))).pt (ai (au (bu (aa aq ab)))) aC)
   (ah (aQ (bY (aB bD (pv 0) aq (aG _)) (bY (aB kv (pv 2) ag (aG _)) (bS (aB (hZ hu) (ax av (pv 1) (aE eE (pv 2) ag) (λ_ _=>rfl)) (aS (aa (aS (aa aq (aa ag ab))) (aa (aS (aa aq (aa ag ab))) ab))) (aG _))))).pt
    (ah (qm (ax av (pv 1) (aE eE (pv 2) ag) (λ_ _=>rfl)) (gG rfl (bK (aV (i:=3) lR.nd rfl (KB rfl)) (bK (aV (i:=4) lR.nd rfl (KB rfl)) fo))))
    (ai (au (bu (aa (aE aK (aE aK (aE aK (aE aK (aE aK (aE aK (aE aK aq (ax av (pv 3) ag (λ_ _=>rfl))) aq) (aH bj (by rfl) N.str FM (aa (ax av (pv 3) ag (λ_ _=>rfl)) ab))) aq) (ax av (pv 4) ag (λ_ _=>rfl))) aq) (aH bj (by rfl) N.str FM (aa (ax av (pv 4) ag (λ_ _=>rfl)) ab))) ab))))) aC)
   (ai (au (bu ab))))),?_⟩
  have d:∀{H1:Hp},af H H1->ny wh i=[]->∀l,H1 l=none->Q (.ref l) (upd H1 l (.lst [])):=λs1 e l hl=>k l _ (s1.free hl) (af.put s1 (s1.free hl)) (by rw[ae,e];rfl)
  cases wh with
  |leaf a b=>exact⟨_,rfl,rfl,_,rfl,aN (dr lt') (bA ⟨_,rfl,rfl,_,rfl,aN (dr KQ) (bA ⟨_,rfl,rfl,_,rfl,aN (dr Lf) (bA ⟨az (by simp),λl hl=>d (af.refl _) rfl l hl⟩)⟩)⟩)⟩
  |lined m g al sd=>exact⟨_,rfl,rfl,_,rfl,aN (dr Fg.1) (bA ⟨_,rfl,rfl,_,rfl,aN (dr Fg.2.1) (bA ⟨_,rfl,rfl,_,rfl,aN (dr Fg.2.2.1) (bA ⟨az (by simp),λl hl=>d (af.refl _) rfl l hl⟩)⟩)⟩)⟩
  |words ws j=>exact⟨_,rfl,rfl,_,rfl,aN (dr wt) (bA ⟨_,rfl,rfl,_,rfl,aN (dr Kw) (bA ⟨_,rfl,rfl,_,rfl,aN (dr K_) (bA ⟨az (by simp),λl hl=>d (af.refl _) rfl l hl⟩)⟩)⟩)⟩
  |table c g sd sps=>
   obtain⟨sp,as,D,T,C⟩:=Y
   have hl:as.length=sps.length:=by rw[C.1,be]
   have L:sps.length=n:=S
   have z:i<as.length:=by lia
   have o:i<sps.length:=by lia
   have hp1:H as[i]=some (.tup [.int sps[i].1,.int sps[i].2]):=C.2 i as[i] _ (AC z) (by rw[B7,AC o];rfl);obtain⟨g1,g2⟩:=hg.2.2.2 _ (MY o);have u:iY (as.map V.ref) (i:Int)=some (.ref as[i]):=aA (by rw[B7,AC z];rfl)
   have v:sps.getD i (1,1)=sps[i]:=by rw[Ki,AC o];rfl
   have p:ny (.table c g sd sps) i=if sps[i]=(1,1)then[]else[(("span="++nS sps[i].1)++",")++nS sps[i].2]:=by
    show(if sps.getD i (1,1)=(1,1)then[]else[(("span="++nS (sps.getD i (1,1)).1)++",")++nS (sps.getD i (1,1)).2])=_;rw[v]
   refine⟨_,rfl,rfl,_,rfl,cF qR ?_⟩;refine⟨_,rfl,q,_,_,_,rfl,rfl,aT.of D,aA (j:=3) rfl,_,rfl,sp,_,_,_,rfl,rfl,aT.of T,u,(by show 2<=sizeLine;decide),λt W=>?_⟩;have s1:af H (upd H t (.tup [.int 1,.int 1])):=af.put (af.refl _) W;have t1:(upd H t (.tup [.int 1,.int 1])) t=some (.tup [.int ((1,1):Int×Int).1,.int ((1,1):Int×Int).2]):=ae;generalize upd H t (.tup [.int 1,.int 1])=H1 at *;refine qI (x:=sps[i]) (s1 _ _ hp1) t1 ⟨_,rfl,?_⟩;by_cases r:sps[i]=(1,1)
   ·rw[decide_eq_true r];refine bA ⟨_,rfl,rfl,_,rfl,aN (dr Lh) (bA ⟨_,rfl,rfl,_,rfl,aN (dr LM) (bA ⟨az (by simp),λl hl=>d s1 (by rw[p,if_pos r]) l hl⟩)⟩)⟩
   ·rw[decide_eq_false r];have n1:=cn g1;have n2:=cn g2
    have X:("span=":Str).length=5:=by decide +kernel
    refine di ⟨_,rfl,q,_,_,_,rfl,rfl,aT.of (s1 _ _ D),aA (j:=3) rfl,_,rfl,sp,_,_,_,rfl,rfl,aT.of (s1 _ _ T),u,as[i],_,_,_,rfl,rfl,aT.of (s1 _ _ hp1),aA (j:=0) rfl,_,rfl,g1,_,_,rfl,rfl,az (by rw[X];show 5+(nS sps[i].1).length<=_;lia),_,_,rfl,rfl,az (by rw[B9,X,fz];show 5+(nS sps[i].1).length+1<=_;lia),_,rfl,q,_,_,_,rfl,rfl,aT.of (s1 _ _ D),aA (j:=3) rfl,_,rfl,sp,_,_,_,rfl,rfl,aT.of (s1 _ _ T),u,as[i],_,_,_,rfl,rfl,aT.of (s1 _ _ hp1),aA (j:=1) rfl,_,rfl,g2,_,_,rfl,rfl,az (by rw[B9,B9,X,fz];show 5+(nS sps[i].1).length+1+(nS sps[i].2).length<=_;lia),(by show 1<=sizeLine;decide),λl hl=>?_⟩;exact k l _ (s1.free hl) (af.put s1 (s1.free hl)) (by rw[ae,p,if_neg r];rfl)
  |flow sds ws j=>
   obtain⟨tp,sp,D,W,_⟩:=Y;have L:sds.length=n:=S
   have o:i<sds.length:=by lia
   have v:sds.getD i "left"=sds[i]:=by rw[Ki,AC o];rfl
   have p:ny (.flow sds ws j) i=if sds[i]="left"then[]else(["float=right"]:List Str):=by
    show(if sds.getD i "left"="left"then[]else(["float=right"]:List Str))=_;rw[v]
   refine⟨_,rfl,rfl,_,rfl,aN (dr ft) (bA ⟨_,rfl,rfl,_,rfl,cF qR ?_⟩)⟩;refine⟨_,rfl,q,_,_,_,rfl,rfl,aT.of D,aA (j:=0) rfl,_,rfl,tp,_,_,_,rfl,rfl,aT.of W,aA (j:=i) (by unfold de;rw[B7,AC o];rfl),rfl,_,rfl,?_⟩;by_cases r:sds[i]="left"
   ·rw[decide_eq_true (show V.str sds[i]=V.str "left"by rw[r])];refine bA ⟨_,rfl,rfl,_,rfl,aN (dr Lj) (bA ⟨az (by simp),λl hl=>d (af.refl _) (by rw[p,if_pos r]) l hl⟩)⟩
   ·rw[dr r];refine di ⟨(by show 1<=sizeLine;decide),λl hl=>?_⟩;exact k l _ hl (af.put (af.refl _) hl) (by rw[ae,p,if_neg r];rfl)
  |over ps=>
   obtain⟨as,D,hl,C⟩:=Y;have L:n<=ps.length+1:=S;refine⟨_,rfl,rfl,_,rfl,aN (dr ot) (bA ⟨_,rfl,rfl,_,rfl,aN (dr JV) (bA ⟨_,rfl,rfl,_,rfl,cF qR ⟨_,rfl,_,_,rfl,rfl,_,rfl,?_⟩⟩)⟩)⟩
   cases i with
   |zero=>exact aN (decide_eq_false (by decide)) (bA ⟨az (by simp),λl hl=>d (af.refl _) rfl l hl⟩)
   |succ i=>
    have o:i<ps.length:=by lia
    have z:i<as.length:=by lia
    obtain⟨b,c,x1,R,O⟩:=C i as[i] ps[i] (AC z) (AC o);obtain⟨g1,g2⟩:=hg _ (MY o);have u:iY (as.map V.ref) (((i+1:Nat):Int)-1)=some (.ref as[i]):=Cr (j:=i) (by lia) (by rw[B7,AC z];rfl)
    have v:ps.getD i (("",0),("",0))=ps[i]:=by rw[Ki,AC o];rfl
    have p:ny (.over ps) (i+1)=if ps[i]=(((("start":Str),(0:Int)),(("start":Str),(0:Int))):(Str×Int)×(Str×Int))then[]else[(((((("at="++ps[i].1.1)++",")++nS ps[i].1.2)++",")++ps[i].2.1)++",")++nS ps[i].2.2]:=by
     rw[<-v];rfl
    refine cF (decide_eq_true (by lia)) ⟨_,rfl,_,rfl,_,_,rfl,rfl,q,_,_,_,rfl,rfl,aT.of D,u,(by show 2<=sizeLine;decide),λta I=>?_⟩;have s1:af H (upd H ta (.tup [.str "start",.int 0])):=af.put (af.refl _) I;have a1:(upd H ta (.tup [.str "start",.int 0])) ta=some (.tup [.str "start",.int 0]):=ae;have nb:b≠ta:=aM R I;generalize upd H ta (.tup [.str "start",.int 0])=H1 at *;refine⟨(by show 2<=sizeLine;decide),λtb J=>?_⟩;have s2:af H1 (upd H1 tb (.tup [.str "start",.int 0])):=af.put (af.refl _) J;have b2:(upd H1 tb (.tup [.str "start",.int 0])) tb=some (.tup [.str "start",.int 0]):=ae;have nc:c≠tb:=aM (s1 _ _ O) J;generalize upd H1 tb (.tup [.str "start",.int 0])=H2 at *;refine⟨(by show 2<=sizeLine;decide),λtc M=>?_⟩;have U:af H2 (upd H2 tc (.tup [.ref ta,.ref tb])):=af.put (af.refl _) M;have c3:(upd H2 tc (.tup [.ref ta,.ref tb])) tc=some (.tup [.ref ta,.ref tb]):=ae;generalize upd H2 tc (.tup [.ref ta,.ref tb])=H3 at *;have B:=s1.trans (s2.trans U);refine CU (x:=ps[i]) (y:=(("start",0),("start",0))) (B _ _ x1) (B _ _ R) (B _ _ O) c3 ((s2.trans U) _ _ a1) (U _ _ b2) nb nc ⟨_,rfl,?_⟩;by_cases r:ps[i]=(((("start":Str),(0:Int)),(("start":Str),(0:Int))):(Str×Int)×(Str×Int))
    ·rw[decide_eq_true r];refine bA ⟨az (by simp),λl hl=>d B (by rw[p,if_pos r]) l hl⟩
    ·rw[decide_eq_false r];have n1:=cn g1.2.2;have n2:=cn g2.2.2;have m1:=g1.2.1;have m2:=g2.2.1
     have G:("at=":Str).length=3:=by decide +kernel
     have X1:=aT.of (K:=K) (B _ _ x1);have Z:=aT.of (K:=K) (B _ _ R);have X3:=aT.of (K:=K) (B _ _ O);refine di ⟨_,rfl,_,rfl,_,_,rfl,rfl,q,_,_,_,rfl,rfl,aT.of (B _ _ D),u,as[i],_,rfl,X1,rfl,_,_,rfl,_,_,rfl,rfl,?_⟩;refine⟨_,rfl,b,_,_,_,rfl,rfl,Z,aA (j:=0) rfl,_,_,rfl,rfl,az (by rw[G];lia),_,_,rfl,rfl,az (by simp only[B9,G,fz];lia),_,rfl,b,_,_,_,rfl,rfl,Z,aA (j:=1) rfl,_,rfl,g1.2.2,_,_,rfl,rfl,az (by simp only[B9,G,fz];show _+(nS ps[i].1.2).length<=_;lia),_,_,rfl,rfl,az (by simp only[B9,G,fz];show _+(nS ps[i].1.2).length+_<=_;lia),_,rfl,c,_,_,_,rfl,rfl,X3,aA (j:=0) rfl,_,_,rfl,rfl,az (by simp only[B9,G,fz];show _+(nS ps[i].1.2).length+_+_<=_;lia),_,_,rfl,rfl,az (by simp only[B9,G,fz];show _+(nS ps[i].1.2).length+_+_+_<=_;lia),_,rfl,c,_,_,_,rfl,rfl,X3,aA (j:=1) rfl,_,rfl,g2.2.2,_,_,rfl,rfl,az (by simp only[B9,G,fz];show _+(nS ps[i].1.2).length+_+_+_+(nS ps[i].2.2).length<=_;lia),(by show 1<=sizeLine;decide),λl hl=>?_⟩;exact k l _ (B.free hl) (af.put B (B.free hl)) (by rw[ae,p,if_neg r];rfl)
theorem in4{kd:Str}(h:kd="row"∨kd="column"∨kd="wrap"∨kd="table"):gB (.str kd) [.str "row",.str "column",.str "wrap",.str "table"]=true:=by
 rcases h with z|z|z|z<;>rw[z]<;>decide +kernel
theorem D9{kd:Str}(h:kd="leaf"∨kd="words"∨kd="flow"∨kd="over"):gB (.str kd) [.str "row",.str "column",.str "wrap",.str "table"]=false:=by
 rcases h with z|z|z|z<;>rw[z]<;>decide +kernel
theorem K7{kd:Str}(h:kd="words"∨kd="flow"):gB (.str kd) [.str "words",.str "flow"]=true:=by
 rcases h with z|z<;>rw[z]<;>decide +kernel
theorem Eu{kd:Str}(h:kd="leaf"∨kd="row"∨kd="column"∨kd="wrap"∨kd="table"∨kd="over"):gB (.str kd) [.str "words",.str "flow"]=false:=by
 rcases h with z|z|z|z|z|z<;>rw[z]<;>decide +kernel
theorem BG(k:Nat)(g:Int)(al sd:Str):(aX.lined k g al sd).kd="row"∨(aX.lined k g al sd).kd="column"∨(aX.lined k g al sd).kd="wrap":=by
 match k with
 |0=>exact .inl rfl
 |1=>exact .inr (.inl rfl)
 |k+2=>exact .inr (.inr rfl)
def P2:aX->List Str->Prop
 | .leaf a b,W=>W=cR (.leaf a b)
 |_,W=>W=[]
def P3(H3:Hp)(q d:B3):aX->List Str->Prop
 | .leaf a b,W=>W=cR (.leaf a b)/\d=q
 | .table c g sd _,W=>W=(if c=1 then[]else[("columns=":Str)++nS c])/\H3 d=some (.tup [.int g,.str "start",.str sd])
 |_,W=>W=[]/\d=q
def P4(q a:B3):aX->List Str->Prop
 | .words _ _,W=>W=[]/\a=q
 | .flow _ _ _,W=>W=[]/\a=q
 |wh,W=>W=cR wh
theorem mE:ay ["_law_kind","_law_what_here","_law_words_here"] Zk (aj qs):=cL
theorem xv(F:aZ K "_law_what_words" "_law_what_words" qs f fd)(N:aR mg):aw P w K mg base aO 1 f fd Zk sq:=by
 refine F.cS mE λcdv A outer s H vs Q E hr h=>?_
 ·obtain⟨q,wh,e,hw,M,k⟩:=h;subst e
  have hu:(A.deeper (Mh "_law_what_words" (aj qs) s.heap.objs.size f cdv)).units+20<Np:=by have :=hr.units;lia
  refine⟨_,ah (aJ (i:=2) mE.nd rfl (KB rfl) (bu ab))
   (ah (aQ (bY (aB bD (pv 0) aq (aG _)) (bS (aB (hZ hu) (pv 1) (aS (aa ag (aa ag ab))) (aG _)))).pt
    (ai (bT (bV LZ L8 L7 bQ (pv 2) (aa (aE aK (aE aK (aE aK aq (aH bj (by rfl) N.str FM (aa (ax av (pv 1) ag (λ_ _=>rfl)) ab))) aq) (aH bj (by rfl) N.str FM (aa (ax av (pv 1) ag (λ_ _=>rfl)) ab))) ab)))) aC)
   (ah (aQ (aB bD (pv 0) aq (aG _))
    (ah (aQ (aB fg (ax av (pv 1) ag (λ_ _=>rfl)) ag (aG _)) (ai (bT (bV LZ L8 L7 bQ (pv 2) (aa (aE aK aq (aH bj (by rfl) N.str FM (aa (ax av (pv 1) ag (λ_ _=>rfl)) ab))) ab)))) aC)
    (ai (aJ (i:=1) mE.nd rfl (KB rfl) (aS (aa (ax av (pv 1) ag (λ_ _=>rfl)) (aa aq (aa (ax av (pv 1) ag (λ_ _=>rfl)) ab))))))) aC)
   (ah (aQ (aB (r:=uK K false) cu (pv 0) (aS (aa aq (aa aq (aa aq (aa aq ab))))) (by rfl))
    (ah (aQ (aB fg (ax av (pv 1) ag (λ_ _=>rfl)) ag (aG _)) (ai (bT (bV LZ L8 L7 bQ (pv 2) (aa (aE aK aq (aH bj (by rfl) N.str FM (aa (ax av (pv 1) ag (λ_ _=>rfl)) ab))) ab)))) aC)
    (ah (aQ (aB fg (ax av (pv 1) ag (λ_ _=>rfl)) aq (aG _)) (ai (bT (bV LZ L8 L7 bQ (pv 2) (aa (aE aK aq (ax av (pv 1) ag (λ_ _=>rfl))) ab)))) aC)
    (ai (aQ (aB fg (ax av (pv 1) ag (λ_ _=>rfl)) aq (aG _)) (ai (bT (bV LZ L8 L7 bQ (pv 2) (aa (aE aK aq (ax av (pv 1) ag (λ_ _=>rfl))) ab)))) aC)))) aC)
   (ah (aQ (bY (aB (r:=uK K false) cu (pv 0) (aS (aa aq (aa aq ab))) (by rfl)) (bS (aB fg (ax av (pv 1) (aE eE (aF br (by rfl) N.len Md (aa (pv 1) ab)) ag) (λ_ _=>rfl)) ag (aG _)))).pt
    (ai (bT (bV LZ L8 L7 bQ (pv 2) (aa (aE aK aq (aH bj (by rfl) N.str FM (aa (ax av (pv 1) (aE eE (aF br (by rfl) N.len Md (aa (pv 1) ab)) ag) (λ_ _=>rfl)) ab))) ab)))) aC)
   (ai (au (pv 2))))))),?_⟩
  refine ar λN1 a4=>?_;refine⟨az (by simp),λl hl=>a4 _ _ ?_⟩;clear a4 N1;have s1:af H (upd H l (.lst [])):=af.put (af.refl _) hl;have l1:(upd H l (.lst [])) l=some (.lst (([]:List Str).map V.str)):=ae;generalize upd H l (.lst [])=H1 at *;refine ar λN2 X=>?_
  have D:∀(W:List Str)(H2:Hp),af H H2->H2 l=some (.lst (W.map V.str))->W.length<=1->P2 wh W->N2 [some (.str wh.kd),some (.ref q),some (.ref l)] H2:=λW H2 I l2 C p=>by
   refine X _ _ ?_;clear X N2;refine ar λN3 a0=>?_
   have G:∀(m:B3)(W:List Str)(H3:Hp),af H H3->H3 l=some (.lst (W.map V.str))->W.length<=1->P3 H3 q m wh W->N3 [some (.str wh.kd),some (.ref m),some (.ref l)] H3:=λm W H3 S3 l3 C p=>by
    refine a0 _ _ ?_;clear a0 N3;refine ar λN4 U=>?_
    have L:∀(W:List Str)(H4:Hp),af H3 H4∨True->af H H4->H4 l=some (.lst (W.map V.str))->W.length<=4->P4 q m wh W->N4 [some (.str wh.kd),some (.ref m),some (.ref l)] H4:=λW H4 _ R O C p=>by
     refine U _ _ ?_;clear U N4;refine ar λN5 a1=>?_;have B:∀(W:List Str)(o:Hp),af H o->o l=some (.lst (W.map V.str))->W=cR wh->N5 [some (.str wh.kd),some (.ref m),some (.ref l)] o:=λW o y u p=>a1 _ _ ⟨_,rfl,k l o hl y (by rw[u,p])⟩;clear a1;refine⟨_,rfl,(by show 2<=sizeLine;decide),λt ht=>?_⟩;have s5:af H4 (upd H4 t (.tup [.str "words",.str "flow"])):=af.put (af.refl _) ht;have t5:(upd H4 t (.tup [.str "words",.str "flow"])) t=some (.tup [.str "words",.str "flow"]):=ae;generalize upd H4 t (.tup [.str "words",.str "flow"])=o at *;have y:=R.trans s5;have u:=s5 _ _ O;refine⟨t,_,rfl,.inr (aT.of t5),rfl,rfl,_,rfl,?_⟩
     have e6:("joint=":Str).length=6:=by decide +kernel
     cases wh with
     |leaf a b=>exact aN (Eu (.inl rfl)) (bA (B W o y u p))
     |lined n g al sd=>exact aN (Eu (by rcases BG n g al sd with z|z|z;exact .inr (.inl z);exact .inr (.inr (.inl z));exact .inr (.inr (.inr (.inl z))))) (bA (B W o y u p))
     |table c g sd sps=>exact aN (Eu (.inr (.inr (.inr (.inr (.inl rfl)))))) (bA (B W o y u p))
     |over ps=>exact aN (Eu (.inr (.inr (.inr (.inr (.inr rfl)))))) (bA (B W o y u p))
     |words ws j=>
      obtain⟨rfl,rfl⟩:=p;obtain⟨sp,hq,_⟩:=hw;have v:=aT.of (K:=K) (y _ _ hq);have gj:=M.2;refine cF (K7 (.inl rfl)) ⟨_,rfl,_,rfl,m,_,rfl,.inr v,_,_,rfl,rfl,m,_,_,_,rfl,rfl,v,aA (j:=1) rfl,rfl,_,rfl,?_⟩;by_cases d:j=50
      ·rw[decide_eq_true (show V.int j=V.int 50 by rw[d])];exact bA (B [] o y u (show[]=jW j from(if_pos d).symm))
      ·rw[decide_eq_false (show¬V.int j=V.int 50 fromλz=>d (V.int.inj z))];have n1:=cn gj;refine di ⟨_,rfl,.inl ⟨rfl,_,bg.of u⟩,_,rfl,_,rfl,m,_,rfl,.inr v,_,_,rfl,rfl,m,_,_,_,rfl,rfl,v,aA (j:=1) rfl,_,rfl,gj,_,_,rfl,rfl,az (by rw[e6];show 6+(nS j).length<=_;lia),l,_,_,rfl,rfl,u,(by show 0<sizeLine;decide),?_⟩;exact B ["joint="++nS j] _ (af.put y hl) ae (show _=jW j from(if_neg d).symm)
     |flow sds ws j=>
      obtain⟨rfl,rfl⟩:=p;obtain⟨tp,sp,hq,_⟩:=hw;have v:=aT.of (K:=K) (y _ _ hq);have gj:=M.2.2;refine cF (K7 (.inr rfl)) ⟨_,rfl,_,rfl,m,_,rfl,.inr v,_,_,rfl,rfl,m,_,_,_,rfl,rfl,v,aA (j:=2) rfl,rfl,_,rfl,?_⟩;by_cases d:j=50
      ·rw[decide_eq_true (show V.int j=V.int 50 by rw[d])];exact bA (B [] o y u (show[]=jW j from(if_pos d).symm))
      ·rw[decide_eq_false (show¬V.int j=V.int 50 fromλz=>d (V.int.inj z))];have n1:=cn gj;refine di ⟨_,rfl,.inl ⟨rfl,_,bg.of u⟩,_,rfl,_,rfl,m,_,rfl,.inr v,_,_,rfl,rfl,m,_,_,_,rfl,rfl,v,aA (j:=2) rfl,_,rfl,gj,_,_,rfl,rfl,az (by rw[e6];show 6+(nS j).length<=_;lia),l,_,_,rfl,rfl,u,(by show 0<sizeLine;decide),?_⟩;exact B ["joint="++nS j] _ (af.put y hl) ae (show _=jW j from(if_neg d).symm)
    clear U;refine⟨_,rfl,(by show 4<=sizeLine;decide),λt ht=>?_⟩;have s4:af H3 (upd H3 t (.tup [.str "row",.str "column",.str "wrap",.str "table"])):=af.put (af.refl _) ht;have t4:(upd H3 t (.tup [.str "row",.str "column",.str "wrap",.str "table"])) t=some (.tup [.str "row",.str "column",.str "wrap",.str "table"]):=ae;generalize upd H3 t (.tup [.str "row",.str "column",.str "wrap",.str "table"])=H4 at *;have R:=S3.trans s4;have O:=s4 _ _ l3;refine⟨t,_,rfl,.inr (aT.of t4),rfl,rfl,_,rfl,?_⟩;by_cases T:wh.kd="row"∨wh.kd="column"∨wh.kd="wrap"∨wh.kd="table"
    ·obtain⟨g,al,sd,q4,gg,ga,gs,a3,a2⟩:∃(g:Int)(al sd:Str),H4 m=some (.tup [.int g,.str al,.str sd])/\bC g/\al.length<=10/\sd.length<=10/\cR wh=W++(gW g++(aW al++sW sd))/\(∀W',W'=cR wh->P4 q m wh W'):=by
      cases wh with
      |lined n g al sd=>
       obtain⟨rfl,rfl⟩:=p;exact⟨g,al,sd,R _ _ hw,M.1,M.2.1,M.2.2,rfl,λW' e=>e⟩
      |table c g sd sps=>
       obtain⟨rfl,h3⟩:=p;exact⟨g,"start",sd,s4 _ _ h3,M.2.1,by decide +kernel,M.2.2.1,by rw[show aW "start"=[]from if_pos rfl,NR];rfl,λW' e=>e⟩
      |leaf a b=>exact absurd T (by show¬(("leaf":Str)="row"∨("leaf":Str)="column"∨("leaf":Str)="wrap"∨("leaf":Str)="table");decide +kernel)
      |words ws j=>exact absurd T (by show¬(("words":Str)="row"∨("words":Str)="column"∨("words":Str)="wrap"∨("words":Str)="table");decide +kernel)
      |flow sds ws j=>exact absurd T (by show¬(("flow":Str)="row"∨("flow":Str)="column"∨("flow":Str)="wrap"∨("flow":Str)="table");decide +kernel)
      |over ps=>exact absurd T (by show¬(("over":Str)="row"∨("over":Str)="column"∨("over":Str)="wrap"∨("over":Str)="table");decide +kernel)
     have lg:(gW g).length<=1:=fM;have la:(aW al).length<=1:=fM;have ls:(sW sd).length<=1:=fM;refine cF (in4 T) ?_;refine ar λM1 J=>?_
     have g1:∀(o:Hp),af H o->o l=some (.lst ((W++gW g).map V.str))->o m=some (.tup [.int g,.str al,.str sd])->M1 [some (.str wh.kd),some (.ref m),some (.ref l)] o:=λo y u S=>by
      refine J _ _ ?_;clear J M1;refine ar λM2 Z=>?_
      have g2:∀(H6:Hp),af H H6->H6 l=some (.lst ((W++(gW g++aW al)).map V.str))->H6 m=some (.tup [.int g,.str al,.str sd])->M2 [some (.str wh.kd),some (.ref m),some (.ref l)] H6:=λH6 S6 l6 q6=>by
       refine Z _ _ ?_;clear Z M2;refine⟨_,rfl,m,_,_,_,rfl,rfl,aT.of q6,aA (j:=2) rfl,rfl,_,rfl,?_⟩;by_cases d:sd="left"
       ·rw[decide_eq_true (show V.str sd=V.str "left"by rw[d])];exact bA (L (W++(gW g++aW al)) H6 (.inr trivial) S6 l6 (by simp only[B1];lia) (a2 _ (by rw[a3,show sW sd=[]from if_pos d,FB])))
       ·rw[dr d]
        have e5:("side=":Str).length=5:=by decide +kernel
        refine di ⟨_,rfl,.inl ⟨rfl,_,bg.of l6⟩,_,rfl,m,_,_,_,rfl,rfl,aT.of q6,aA (j:=2) rfl,_,_,rfl,rfl,az (by rw[e5];lia),l,_,_,rfl,rfl,l6,small (by rw[be];simp only[B1];lia),?_⟩;refine L (W++(gW g++aW al)++["side="++sd]) _ (.inr trivial) (af.put S6 hl) (by rw[ae,Dk (l₂:=["side="++sd])];rfl) (by simp only[B1,PD];lia) (a2 _ ?_);rw[a3,show sW sd=["side="++sd]from if_neg d];simp only[LW]
      clear Z;refine⟨_,rfl,m,_,_,_,rfl,rfl,aT.of S,aA (j:=1) rfl,rfl,_,rfl,?_⟩;by_cases d:al="start"
      ·rw[decide_eq_true (show V.str al=V.str "start"by rw[d])];exact bA (g2 o y (by rw[show aW al=[]from if_pos d,FB];exact u) S)
      ·rw[dr d]
       have e6:("align=":Str).length=6:=by decide +kernel
       have nq:m≠l:=gx S u (by intro z;cases z);refine di ⟨_,rfl,.inl ⟨rfl,_,bg.of u⟩,_,rfl,m,_,_,_,rfl,rfl,aT.of S,aA (j:=1) rfl,_,_,rfl,rfl,az (by rw[e6];lia),l,_,_,rfl,rfl,u,small (by rw[be];simp only[B1];lia),?_⟩;refine g2 _ (af.put y hl) ?_ ((ak nq).trans S);rw[ae,show aW al=["align="++al]from if_neg d,<-LW,Dk (l₂:=["align="++al])];rfl
     clear J;refine⟨_,rfl,m,_,_,_,rfl,rfl,aT.of q4,aA (j:=0) rfl,rfl,_,rfl,?_⟩;by_cases d:g=0
     ·rw[decide_eq_true (show V.int g=V.int 0 by rw[d])];exact bA (g1 H4 R (by rw[show gW g=[]from if_pos d,FB];exact O) q4)
     ·rw[decide_eq_false (show¬V.int g=V.int 0 fromλz=>d (V.int.inj z))]
      have e4:("gap=":Str).length=4:=by decide +kernel
      have n1:=cn gg;have nq:m≠l:=gx q4 O (by intro z;cases z);refine di ⟨_,rfl,.inl ⟨rfl,_,bg.of O⟩,_,rfl,m,_,_,_,rfl,rfl,aT.of q4,aA (j:=0) rfl,_,rfl,gg,_,_,rfl,rfl,az (by rw[e4];show 4+(nS g).length<=_;lia),l,_,_,rfl,rfl,O,small (by rw[be];lia),?_⟩;refine g1 _ (af.put R hl) ?_ ((ak nq).trans q4);rw[ae,show gW g=["gap="++nS g]from if_neg d,Dk];rfl
    ·cases wh with
     |lined n g al sd=>
      refine absurd ?_ T
      rcases BG n g al sd with z|z|z
      ·exact .inl z
      ·exact .inr (.inl z)
      ·exact .inr (.inr (.inl z))
     |table c g sd sps=>exact absurd (.inr (.inr (.inr rfl))) T
     |leaf a b=>exact aN (D9 (.inl rfl)) (L W H4 (.inr trivial) R O (by lia) p.1)
     |words ws j=>exact aN (D9 (.inr (.inl rfl))) (L W H4 (.inr trivial) R O (by lia) p)
     |flow sds ws j=>exact aN (D9 (.inr (.inr (.inl rfl)))) (L W H4 (.inr trivial) R O (by lia) p)
     |over ps=>exact aN (D9 (.inr (.inr (.inr rfl)))) (L W H4 (.inr trivial) R O (by lia) p.1)
   clear a0
   cases wh with
   |leaf a b=>exact⟨_,rfl,rfl,_,rfl,aN (dr lt') (G q W H2 I l2 C ⟨p,rfl⟩)⟩
   |lined n g al sd=>exact⟨_,rfl,rfl,_,rfl,aN (dr Fg.1) (G q W H2 I l2 C ⟨p,rfl⟩)⟩
   |words ws j=>exact⟨_,rfl,rfl,_,rfl,aN (dr wt) (G q W H2 I l2 C ⟨p,rfl⟩)⟩
   |flow sds ws j=>exact⟨_,rfl,rfl,_,rfl,aN (dr ft) (G q W H2 I l2 C ⟨p,rfl⟩)⟩
   |over ps=>exact⟨_,rfl,rfl,_,rfl,aN (dr ot) (G q W H2 I l2 C ⟨p,rfl⟩)⟩
   |table c g sd sps=>
    have a5:W=[]:=p;subst a5;obtain⟨sp,as,hq,_⟩:=hw;refine⟨_,rfl,rfl,_,rfl,cF qR ?_⟩;refine ar λM1 J=>?_
    have g1:∀(o:Hp),af H o->o l=some (.lst ((if c=1 then[]else["columns="++nS c]:List Str).map V.str))->M1 [some (.str "table"),some (.ref q),some (.ref l)] o:=λo y u=>by
     refine J _ _ ?_;have S:=aT.of (K:=K) (y _ _ hq);refine⟨_,rfl,q,_,_,_,rfl,rfl,S,aA (j:=1) rfl,_,rfl,q,_,_,_,rfl,rfl,S,aA (j:=2) rfl,(by show 3<=sizeLine;decide),λm Y=>?_⟩
     have nq:l≠m:=λz=>by rw[<-z,u]at Y;cases Y
     exact G m _ _ (af.put y (y.free Y)) ((ak nq).trans u) fM ⟨rfl,ae⟩
    clear J;refine⟨_,rfl,q,_,_,_,rfl,rfl,aT.of (I _ _ hq),aA (j:=0) rfl,rfl,_,rfl,?_⟩;by_cases d:c=1
    ·rw[decide_eq_true (show V.int c=V.int 1 by rw[d])];exact bA (g1 H2 I (by rw[if_pos d];exact l2))
    ·rw[decide_eq_false (show¬V.int c=V.int 1 fromλz=>d (V.int.inj z))]
     have e8:("columns=":Str).length=8:=by decide +kernel
     have n1:=cn M.1;refine di ⟨_,rfl,.inl ⟨rfl,_,bg.of l2⟩,_,rfl,q,_,_,_,rfl,rfl,aT.of (I _ _ hq),aA (j:=0) rfl,_,rfl,M.1,_,_,rfl,rfl,az (by rw[e8];show 8+(nS c).length<=_;lia),l,_,_,rfl,rfl,l2,(by show 0<sizeLine;decide),?_⟩;exact g1 _ (af.put I hl) (by rw[ae,if_neg d];rfl)
  clear X
  cases wh with
  |lined n g al sd=>exact⟨_,rfl,rfl,_,rfl,aN (dr Fg.2.2.2.1) (bA (D [] H1 s1 l1 (by decide) rfl))⟩
  |words ws j=>exact⟨_,rfl,rfl,_,rfl,aN (dr wl) (bA (D [] H1 s1 l1 (by decide) rfl))⟩
  |flow sds ws j=>exact⟨_,rfl,rfl,_,rfl,aN (dr fl) (bA (D [] H1 s1 l1 (by decide) rfl))⟩
  |over ps=>exact⟨_,rfl,rfl,_,rfl,aN (dr ol) (bA (D [] H1 s1 l1 (by decide) rfl))⟩
  |table c g sd sps=>exact⟨_,rfl,rfl,_,rfl,aN (dr tl) (bA (D [] H1 s1 l1 (by decide) rfl))⟩
  |leaf a b=>
   refine⟨_,rfl,rfl,_,rfl,cF qR ⟨_,rfl,(by show 2<=sizeLine;decide),λt ht=>?_⟩⟩;have s2:af H1 (upd H1 t (.tup [.int 0,.int 0])):=af.put (af.refl _) ht;have t2:(upd H1 t (.tup [.int 0,.int 0])) t=some (.tup [.int ((0,0):Int×Int).1,.int ((0,0):Int×Int).2]):=ae;generalize upd H1 t (.tup [.int 0,.int 0])=H2 at *;have I:=s1.trans s2;have l2:=s2 _ _ l1;have q2:H2 q=some (.tup [.int a,.int b]):=I _ _ hw;refine qI (x:=(a,b)) q2 t2 ⟨_,rfl,?_⟩;by_cases d:(a,b)=((0:Int),(0:Int))
   ·rw[decide_eq_true d];exact bA (D [] H2 I l2 (by decide) (show[]=_ from(if_pos d).symm))
   ·rw[decide_eq_false d];have n1:=cn M.1;have n2:=cn M.2
    have e5:("wish=":Str).length=5:=by decide +kernel
    refine di ⟨_,rfl,.inl ⟨rfl,_,bg.of l2⟩,_,rfl,q,_,_,_,rfl,rfl,aT.of q2,aA (j:=0) rfl,_,rfl,M.1,_,_,rfl,rfl,az (by rw[e5];show 5+(nS a).length<=_;lia),_,_,rfl,rfl,az (by rw[B9,e5,fz];show 5+(nS a).length+1<=_;lia),_,rfl,q,_,_,_,rfl,rfl,aT.of q2,aA (j:=1) rfl,_,rfl,M.2,_,_,rfl,rfl,az (by rw[B9,B9,e5,fz];show 5+(nS a).length+1+(nS b).length<=_;lia),l,_,_,rfl,rfl,l2,(by show 0<sizeLine;decide),?_⟩;exact D [(("wish="++nS a)++",")++nS b] _ (af.put I hl) ae (B6 1) (show _=_ from(if_neg d).symm)
inductive zt(m:Nat)(vs:List V)(H:Hp)(Q:VK):Prop
 |mk (a le:B3) (d:dF) (cs:Fo) (n:Nat) (eh:aX) (i:Nat) (c0:vs=[.ref a,.int (n:Int),.ref le]) (c1:(Fo.cons a d cs .nil).Ok H) (c2:(Fo.cons a d cs .nil).Good) (c3:cs.df<m) (c4:cs.cnt<=100) (c5:n+m<=100) (c6:eh.Good) (c7:H le=some (.lst ((ny eh i).map V.str))) (c8:∀(l:B3)(H':Hp),H l=none->af H H'->H' l=some (.lst ((cg d n eh i::aY cs (n+1) d.wh 0).map V.str))->Q (.ref l) H')
def vQ(m:Nat):Sp:=λvs H Q _=>zt m vs H Q
theorem dy:ay ["_law_box_here","_law_deep","_law_extra","_law_kind","_law_name","_law_own","_law_what_here","_law_parts","_law_words_here","_law_rows_here","_law_at","_law_part"] Zz (aj AF):=cL
theorem Bg{f2 f3 f4:B3}{d2 d3 d4:M9}(F:aZ K "_law_rows" "_law_rows" AF f fd)(N:aR mg)(G1:aw P w K mg base aO 1 f1 d1 ["_law_own"] xh)(J1:Cq K mg d1 f1 ["_law_own"] "_law_own_words")(G2:aw P w K mg base aO 1 f2 d2 Zk sq)(J2:Cq K mg d2 f2 Zk "_law_what_words")(G3:aw P w K mg base aO 1 f3 d3 ZK sJ)(J3:Cq K mg d3 f3 ZK "_law_part_words")(G4:aw P w K mg base aO 1 f4 d4 Zk s_)(J4:Cq K mg d4 f4 Zk "_law_text_words")(JF:Cq K mg fd f Zz "_law_rows"):∀m:Nat,aw P w K mg base aO (m+2) f fd Zz (vQ m):=by
 intro m
 induction m with
 |zero=>
  refine F.ok dy (λvs H Q E h=>?_) (λcdv A outer s H vs Q E hr h=>?_)
  ·obtain⟨a,p,d,cs,n,eh,i,e,_⟩:=h;rw[e];rfl
  ·obtain⟨a,p,d,cs,n,eh,i,e,_,_,hh,_⟩:=h;exact absurd hh (Nx _)
 |succ m ih=>
  refine F.ok dy (λvs H Q E h=>?_) (λcdv A outer s H vs Q E hr h=>?_)
  ·obtain⟨a,p,d,cs,n,eh,i,e,_⟩:=h;rw[e];rfl
  ·obtain⟨a,lx,d,cs,n,eh,i,e,⟨a6,c0,_⟩,⟨⟨g1,g2,g3,g4⟩,gc,_⟩,hh,hc,hn,d0,b4,k⟩:=h;subst e;have v:=hr.mono (j:=1) (by lia)
   refine⟨_,ah (qm (pv 0) (gG rfl (bK (aV (i:=3) dy.nd rfl (KB rfl)) (bK (aV (i:=4) dy.nd rfl (KB rfl)) (bK (aV (i:=5) dy.nd rfl (KB rfl)) (bK (aV (i:=6) dy.nd rfl (KB rfl)) (bK (aV (i:=7) dy.nd rfl (KB rfl)) fo)))))))
    (ah (aJ (i:=8) dy.nd rfl (KB rfl) (aE lF (aE lF (aE lF (aE lF (bu (aa (pv 3) (aa (pv 4) ab))) (pq G1 v J1 (aa (pv 5) ab))) (pq G2 v J2 (aa (pv 3) (aa (pv 6) ab)))) (pv 2)) (pq G4 v J4 (aa (pv 3) (aa (pv 6) ab)))))
    (ah (aJ (i:=9) dy.nd rfl (KB rfl) (bu (aa (aE aK (aE wQ aq (pv 1)) (bV LS Mt Ms ff aq (aa (pv 8) ab))) ab)))
    (ah (cG Ma rfl (zr (by rfl) N.enum (aa (pv 7) ab)) (gG rfl (bK (aV (i:=10) dy.nd rfl (KB rfl)) (bK (aV (i:=11) dy.nd rfl (KB rfl)) fo)))
     (ai (aJ (i:=9) dy.nd rfl (KB rfl) (aE lF (pv 9) (pq ih hr JF (aa (pv 11) (aa (aE bM (pv 1) ag) (aa (pq G3 v J3 (aa (pv 3) (aa (pv 6) (aa (pv 10) ab)))) ab))))))))
    (ai (au (pv 9)))))),?_⟩
   obtain⟨ao,q,ap,ha,b0,hw,a3⟩:=id a6;refine ar λN1 a7=>?_;refine⟨_,rfl,a,_,rfl,aT.of ha,rfl,_,_,rfl,_,_,rfl,_,_,rfl,_,_,rfl,_,_,rfl,rfl,a7 _ _ ?_⟩;clear a7 N1;have u:=jG (i:=i) g1 g2 g3 d0;refine ar λN2 a1=>?_;refine⟨_,rfl,_,rfl,(by show 2<=sizeLine;decide),λl0 d5=>?_⟩;have s1:af H (upd H l0 (.lst [.str d.wh.kd,.str d.nm])):=af.put (af.refl _) d5;have c1:(upd H l0 (.lst [.str d.wh.kd,.str d.nm])) l0=some (.lst ([d.wh.kd,d.nm].map V.str)):=ae;generalize upd H l0 (.lst [.str d.wh.kd,.str d.nm])=H1 at *;refine⟨_,rfl,ao,d.own,rfl,b0.keep (KT.same s1),g2,λl2 H2 d7 s2 c2=>?_⟩;have o6:=qX d.own;refine⟨l0,l2,_,_,rfl,rfl,s2 _ _ c1,c2,az (by rw[be,be];show 2+_<=_;lia),λl3 b6=>?_⟩;have S2:=s1.trans s2;have s3:af H2 (upd H2 l3 (.lst ([d.wh.kd,d.nm].map V.str++(eM d.own).map V.str))):=af.put (af.refl _) b6;have c3:(upd H2 l3 (.lst ([d.wh.kd,d.nm].map V.str++(eM d.own).map V.str))) l3=some (.lst ((d.wh.kd::d.nm::eM d.own).map V.str)):=ae;generalize upd H2 l3 (.lst ([d.wh.kd,d.nm].map V.str++(eM d.own).map V.str))=H3 at *;have S3:=S2.trans s3;refine⟨_,rfl,_,rfl,q,d.wh,rfl,hw.keep (KT.same S3),g1,λl4 H4 e7 s4 c4=>?_⟩;have D:=u.2;unfold dJ at D;simp only[B8,B1]at D;refine⟨l3,l4,_,_,rfl,rfl,s4 _ _ c3,c4,az (by rw[be,be,B8,B8];lia),λl5 b9=>?_⟩;have S4:=S3.trans s4;have s5:af H4 (upd H4 l5 (.lst ((d.wh.kd::d.nm::eM d.own).map V.str++(cR d.wh).map V.str))):=af.put (af.refl _) b9
   have c5:(upd H4 l5 (.lst ((d.wh.kd::d.nm::eM d.own).map V.str++(cR d.wh).map V.str))) l5=some (.lst ((d.wh.kd::d.nm::(eM d.own++cR d.wh)).map V.str)):=by rw[ae,<-Dk];rfl
   generalize upd H4 l5 (.lst ((d.wh.kd::d.nm::eM d.own).map V.str++(cR d.wh).map V.str))=H5 at *;have S5:=S4.trans s5;refine⟨_,rfl,l5,lx,_,_,rfl,rfl,c5,S5 _ _ b4,az (by rw[be,be,B8,B8,B1];lia),λl6 b8=>?_⟩;have s6:af H5 (upd H5 l6 (.lst ((d.wh.kd::d.nm::(eM d.own++cR d.wh)).map V.str++(ny eh i).map V.str))):=af.put (af.refl _) b8
   have c6:(upd H5 l6 (.lst ((d.wh.kd::d.nm::(eM d.own++cR d.wh)).map V.str++(ny eh i).map V.str))) l6=some (.lst ((d.wh.kd::d.nm::(eM d.own++(cR d.wh++ny eh i))).map V.str)):=by rw[ae,<-Dk,ML,ML,LW]
   generalize upd H5 l6 (.lst ((d.wh.kd::d.nm::(eM d.own++cR d.wh)).map V.str++(ny eh i).map V.str))=H6 at *;have S6:=S5.trans s6;refine⟨_,rfl,_,rfl,q,d.wh,rfl,hw.keep (KT.same S6),g1,λl7 H7 e8 s7 c7=>?_⟩;refine⟨l6,l7,_,_,rfl,rfl,s7 _ _ c6,c7,az (by rw[be,be,B8,B8,B1,B1];lia),λY d8=>a1 _ _ ?_⟩;clear a1 N2;have S7:=S6.trans s7;have s8:af H7 (upd H7 Y (.lst ((d.wh.kd::d.nm::(eM d.own++(cR d.wh++ny eh i))).map V.str++(Fn d.wh).map V.str))):=af.put (af.refl _) d8
   have c8:(upd H7 Y (.lst ((d.wh.kd::d.nm::(eM d.own++(cR d.wh++ny eh i))).map V.str++(Fn d.wh).map V.str))) Y=some (.lst ((dJ d eh i).map V.str)):=by
    rw[ae,<-Dk,ML,ML,LW,LW];rfl
   generalize upd H7 Y (.lst ((d.wh.kd::d.nm::(eM d.own++(cR d.wh++ny eh i))).map V.str++(Fn d.wh).map V.str))=H8 at *;have S8:=S7.trans s8;clear c1 c2 c3 c4 c5 c6 c7 s1 s2 s3 s4 s5 s6 s7 s8 S2 S3 S4 S5 S6 S7;refine ar λN3 a5=>?_;have rg:=dG " " (dJ d eh i) u.1
   have e1:(" ":Str).length=1:=by decide +kernel
   rw[e1]at rg;have e4:(dJ d eh i).length*81<=18*81:=NA _ u.2;refine⟨_,rfl,"  ",n,rfl,rfl,by lia,by rw[gk];decide,by rw[gk];decide,rfl,_,rfl," ",Y,dJ d eh i,rfl,rfl,bg.of c8,?_,_,_,rfl,rfl,az (by rw[jx,gk];lia),(by show 1<=sizeLine;decide),λl hl=>a5 _ _ ?_⟩
   ·have :=fu (dJ d eh i) u.1;have :=u.2;rw[e1]
    lia
   clear a5 N3;have G:H l=none:=S8.free hl;have s9:af H (upd H8 l (.lst [.str (lU "  " n++L1 " " (dJ d eh i))])):=af.put S8 G;have h9:(upd H8 l (.lst [.str (lU "  " n++L1 " " (dJ d eh i))])) l=some (.lst ((cg d n eh i::aY .nil (n+1) d.wh 0).map V.str)):=ae;generalize upd H8 l (.lst [.str (lU "  " n++L1 " " (dJ d eh i))])=H9 at *;refine ar λN4 b2=>?_;refine⟨_,rfl,ap,rfl,⟨_,aT.of (s9 _ _ a3)⟩,?_⟩
   refine Aq (Sq:=λH xs=>aT K H ap xs) (k:=0) (xs:=cs.bt.map V.ref) (λj σ H9=>∃(o U:Fo)(lr:B3)(R M:Option V),σ=[some (.ref a),some (.int (n:Int)),some (.ref lx),some (.str d.wh.kd),some (.str d.nm),some (.ref ao),some (.ref q),some (.ref ap),some (.ref Y),some (.ref lr),R,M]/\cs=o.app U/\o.bt.length=j/\af H H9/\H lr=none/\H9 lr=some (.lst ((cg d n eh i::aY o (n+1) d.wh 0).map V.str)))
    ⟨.nil,cs,l,none,none,rfl,rfl,rfl,s9,G,h9⟩ (λj σ H9 _ d6=>by obtain⟨_,_,_,_,_,_,_,_,z,_⟩:=d6;exact aT.of (z _ _ a3)) ?_ ?_
   ·rintro j x t σ g hx ht ⟨o,U,lr,R,M,rfl,b,X,W,a2,I⟩;rw[B7,b,Fo.cj,GT (by lia),X,Pl]at hx
    cases U with
    |nil=>cases hx
    |cons c C B as=>
     have ex:V.ref c=x:=L6 hx;subst ex;have b5:(upd g t (.tup [.int (0+(j:Int)),.ref c])) t=some (.tup [.int (0+(j:Int)),.ref c]):=ae;have a4:af g (upd g t (.tup [.int (0+(j:Int)),.ref c])):=af.put (af.refl _) ht;have b3:=a4 _ _ I;have T:=W.trans a4;generalize upd g t (.tup [.int (0+(j:Int)),.ref c])=e3 at *;have r:=c0.keep (KT.same T);have O:=gc;have L:=hc;have S:=hh;rw[b]at r O L S;rw[Fo.lI]at r;rw[Fo.gL]at O;rw[Fo.jB]at L;rw[Fo.js]at S;obtain⟨-,bc,b7,-⟩:=r;obtain⟨-,gd,a8,-⟩:=O;have f0:o.cnt+(B.cnt+as.cnt+1)<=100:=L;have f6:max o.df (max (B.df+1) as.df)<m+1:=S
     have a9:j<cs.bt.length:=by
      rw[b,Fo.cj,B1,X];show j<j+(as.bt.length+1)
      lia
     refine⟨t,_,rfl,aT.of b5,rfl,_,_,rfl,_,_,rfl,rfl,?_⟩;refine⟨_,rfl,_,rfl,_,rfl,_,_,rfl,rfl,_,rfl,_,rfl,_,rfl,?_⟩;refine⟨q,d.wh,cs.bt.length,j,by rw[show(0:Int)+(j:Int)=(j:Int)from RO _];rfl,hw.keep (KT.same T),g1,g4,a9,λlp e5 f5 y c9=>?_⟩;have d9:=T.trans y;refine⟨c,lp,C,B,n+1,d.wh,j,rfl,⟨bc.keep (KT.same y),b7.keep (KT.same y),trivial⟩,⟨gd,a8,trivial⟩,by lia,by lia,by lia,g1,c9,λlz e0 e9 a0 b1=>?_⟩;have e6:=cU 0 cw o (n+1) d.wh 0;have d7:=cU 0 cw B (n+1+1) C.wh 0;refine⟨lr,lz,_,_,rfl,rfl,(y.trans a0) _ _ b3,b1,az (by rw[be,be,B8,B8];lia),λln Z=>?_⟩;have J:=d9.trans a0;refine⟨o.app (.cons c C B .nil),as,ln,_,_,rfl,by rw[b,Fo.lu];rfl,by rw[Fo.cj,B1,X];rfl,af.put J (J.free Z),J.free Z,?_⟩;rw[ae,kj,<-Dk];rw[X,Qk];show some (HO.lst (((cg d n eh i::aY o (n+1) d.wh 0)++(cg C (n+1) d.wh j::aY B (n+1+1) C.wh 0)).map V.str))=some (HO.lst ((cg d n eh i::(aY o (n+1) d.wh 0++(cg C (n+1) d.wh j::(aY B (n+1+1) C.wh 0++[])))).map V.str));rw[FB];rfl
   ·rintro σ g ⟨o,U,lr,R,M,rfl,b,X,W,a2,I⟩;refine b2 _ _ ?_
    have e2:U= .nil:=by
     have e:=congrArg (λF=>F.bt.length) b;have e':cs.bt.length=(o.app U).bt.length:=e;rw[Fo.cj,B1,X,be]at e'
     cases U with
     |nil=>rfl
     |cons c C B as=>
      have :(Fo.cons c C B as).bt.length=as.bt.length+1:=rfl
      lia
    subst e2;rw[Fo.pG]at b;subst b;exact⟨_,rfl,k lr g a2 W I⟩
theorem Gd:ay ["_law_tree"] ["_law_tree"] (aj Fi):=cL
theorem Eb(F:aZ K "_law_due" "_law_due" Fi f fd)(r:aw P w K mg base aO 14 f1 d1 Zz (vQ 12))(n:Cq K mg d1 f1 Zz "_law_rows"):aw P w K mg base aO 15 f fd ["_law_tree"] fR:=by
 refine F.cS Gd λcdv A outer s H vs Q E q h=>?_
 ·obtain⟨a,d,cs,e,hok,c,m,t,k⟩:=h;subst e;refine⟨_,ai (au (bV LS Mt Ms ff aq (aa (pq r q n (aa (pv 0) (aa ag (aa (bu ab) ab)))) ab))),?_⟩;refine⟨rfl,_,rfl,az (by simp),λp j=>?_⟩;have s1:af H (upd H p (.lst [])):=af.put (af.refl _) j;have h1:(upd H p (.lst [])) p=some (.lst ((ny cw 0).map V.str)):=ae;generalize upd H p (.lst [])=H1 at *;refine⟨a,p,d,cs,0,cw,0,rfl,hok.keep (KT.same s1),c,m,by lia,by decide,ef,h1,λl H2 hl s2 h2=>?_⟩;refine⟨"\n",l,_,rfl,rfl,bg.of h2,?_,k H2 (s1.trans s2)⟩
  have e:("\n":Str).length=1:=by decide +kernel
  obtain⟨⟨g1,g2,g3,_⟩,g,_⟩:=c;have o:LB 2000 (cg d 0 cw 0::aY cs (0+1) d.wh 0):=LB.app (a:=[cg d 0 cw 0]) (LB.one (i_ (by decide) g1 g2 g3 ef)) (gR cs 1 d.wh 0 g g1 (by lia));have i:=fu _ o;have b:=cU 0 cw cs (0+1) d.wh 0;rw[B8,b]at i;rw[e,B8,b];have :(cs.cnt+1)*2000<=21*2000:=NA _ (by lia)
  lia
end B09P
namespace B09
open PySem L2 S2
open DW B09P
theorem rH:∀(h:Nat)(d:D),qS h d->qS (h+1) d
 |0,_,h=>h.elim
 |h+1,.int _,_=>trivial
 |h+1,.str _,_=>trivial
 |h+1,.tup l,⟨h1,h2⟩=>⟨h1,λe he=>rH h e (h2 e he)⟩
 |_+1,.non,h=>h.elim
 |_+1,.bl _,h=>h.elim
 |_+1,.oth,h=>h.elim
variable{d:D}{h:Nat}{bd:dF}{cs:Fo}{K:mo}{d1 d2 d3 d4 d5 d6 d7:M9}{f1 f2 f3 f4 f5 f6 f7:B3}{mg:Str->Option B5}{w:MM}{us:List B5}{l:PySem.W.OpenLaw}
theorem Bw{k:Nat}(g:qS h d)(b:h<=k):qS k d:=by
 induction b with
 |refl=>exact g
 |step _ a=>exact rH _ _ a
theorem iq:∀e∈([]:List D),qS h e:=λe he=>nomatch he
theorem bz{l:List D}(g:qS h d)(t:∀e∈l,qS h e):∀e∈d::l,qS h e:=λe he=>by
 rcases List.mem_cons.mp he with z|z
 ·rw[z];exact g
 ·exact t e z
theorem fk{a b:D}(g:qS h a)(k:qS h b):qS (h+1) (.tup [a,b]):=⟨by show 2<=1000;decide,bz g (bz k iq)⟩
theorem DU(o:Own):qS (h+3) (ra o):=⟨by show 6<=1000;decide,bz (fk (h:=h+1) trivial trivial) (bz (fk (h:=h+1) trivial trivial) (bz (h:=h+2) trivial (bz (h:=h+2) trivial (bz (h:=h+2) trivial (bz (h:=h+2) trivial iq)))))⟩
theorem oS{ws:List (List Str)}(g:eH ws):qS (h+3) (fB ws):=⟨by rw[be];have :=g.1;lia,λe he=>by
 obtain⟨w,a,rfl⟩:=List.mem_map.mp he;refine⟨by rw[be];have :=(g.2 w a).2.1;lia,λe he=>?_⟩;obtain⟨x,_,rfl⟩:=List.mem_map.mp he
 exact trivial⟩
theorem Ba{wh:aX}{n:Nat}(g:wh.Good)(v:Vw wh n):qS (h+4) (ko wh):=by
 cases wh with
 |leaf a b=>exact fk (h:=h+3) trivial trivial
 |lined k d al sd=>exact⟨by show 3<=1000;decide,bz (h:=h+3) trivial (bz (h:=h+3) trivial (bz (h:=h+3) trivial iq))⟩
 |table c d sd sps=>
  refine⟨by show 4<=1000;decide,bz (h:=h+3) trivial (bz (h:=h+3) trivial (bz (h:=h+3) trivial (bz (h:=h+3) ⟨?_,λe he=>?_⟩ iq)))⟩
  ·rw[be];have :=v.1;have :=v.2.2.2.2.1
   lia
  ·obtain⟨p,_,rfl⟩:=List.mem_map.mp he;exact fk (h:=h+1) trivial trivial
 |words ws j=>exact fk (h:=h+3) (oS g.1) trivial
 |flow sds ws j=>
  refine⟨by show 3<=1000;decide,bz (h:=h+3) ⟨?_,λe he=>?_⟩ (bz (oS g.2.1) (bz (h:=h+3) trivial iq))⟩
  ·rw[be];have :=v.1;have :=v.2.1
   lia
  ·obtain⟨p,_,rfl⟩:=List.mem_map.mp he;exact trivial
 |over ps=>
  refine⟨?_,λe he=>?_⟩
  ·rw[be];have :=v.1.2;have :=v.2.1
   lia
  ·obtain⟨p,_,rfl⟩:=List.mem_map.mp he;exact fk (h:=h+2) (fk (h:=h+1) trivial trivial) (fk (h:=h+1) trivial trivial)
theorem uC:∀(F:Fo)(it:Bool)(k:Nat),F.Good->VF it F->2*F.df+6<=k->F.cnt<=100->∀e∈fD F,qS k e
 | .nil,_,_,_,_,_,_,e,he=>nomatch he
 | .cons a d cs as,it,k,⟨⟨g1,g2,g3,p⟩,m,i⟩,⟨⟨n,g,r⟩,l,f⟩,b,c,e,he=>by
  have b:2*max (cs.df+1) as.df+6<=k:=b;have c:cs.cnt+as.cnt+1<=100:=c;have o:=Nat.le_max_left (cs.df+1) as.df;have s:=SU (cs.df+1) as.df;have he:e∈iA d.wh.kd d.nm d.own d.wh (fD cs)::fD as:=he
  rcases List.mem_cons.mp he with rfl|he
  ·obtain⟨j,rfl⟩:∃j,k=j+1+1+4:=⟨k-6,by lia⟩;have q:=Fo.xi cs;have i1:=uC cs _ (j+4) m l (by lia) (by lia);refine⟨by show 5<=1000;decide,bz (h:=j+1+4) trivial (bz (h:=j+1+4) trivial (bz (Bw (DU (h:=0) _) (by lia)) (bz (Bw (Ba (h:=0) g1 g) (by lia)) (bz (h:=j+1+4) ⟨?_,λe he=>?_⟩ iq))))⟩
   ·rw[BL]
    lia
   ·exact i1 e he
  ·exact uC as it k i f (by lia) (by lia) e he
theorem rT{t:B3}{bI r:List Str}(vf:VF false (.cons t bd cs .nil))(good:(Fo.cons t bd cs .nil).Good)(c:cs.df+1<=8)(d:r.length+(cs.cnt+1)=bI.length)(hl:bI.length<=20)(a:bI=r++(bd.nm::bX cs).reverse)(nd:bI.Nodup)(b:∀x∈bI,Vn x):Drawn bd cs:=by
 have e:bX (.cons 0 bd cs .nil)=bd.nm::bX cs:=by
  show bd.nm::(bX cs++[])=_;rw[FB]
 refine⟨vf,good,λx hx=>?_,?_,by lia,by lia⟩
 ·rw[e]at hx;refine b x ?_;rw[a];exact Mv _ (List.mem_reverse.mpr hx)
 ·rw[e];rw[a]at nd;exact(List.pairwise_reverse.mp (List.nodup_append.mp nd).2.1).imp λh=>Da h
theorem xa{H:Hp}{t:B3}(ok:(Fo.cons t bd cs .nil).Ok H)(good:(Fo.cons t bd cs .nil).Good)(vf:VF false (.cons t bd cs .nil)):At K H (.ref t) (jH bd cs):=(wJ (K:=K) (.cons t bd cs .nil) false ok good vf).2 0 _ _ rfl rfl
theorem lQ(h:Drawn bd cs):qS 22 (jH bd cs):=by
 have b:(Fo.cons 0 bd cs .nil).df<=8:=by
  show max (cs.df+1) 0<=8;have :=h.df
  lia
 have a:(Fo.cons 0 bd cs .nil).cnt<=100:=by
  show cs.cnt+0+1<=100;have :=h.cnt
  lia
 exact uC (.cons 0 bd cs .nil) false 22 h.good h.vf (by lia) a _ Do
inductive GX(K:mo)(vs:List V)(H:Hp)(Q:VK):Prop
 |mk (a:B3) (ns:List Int) (c0:vs=[.ref a]) (c1:bg K H a (ns.map V.int)) (c2:ns.length<=63) (c3:∀H',Q (.bl true) H')
def xg(K:mo):Sp:=λvs H Q _=>GX K vs H Q
section
variable{P:MA}{base:MP}
abbrev KY:List Str:=["_law_script","_law_stream_here","_law_names_here","_law_one","_law_other"]
theorem rp:ay KY Zn (aj qz):=cL
theorem FV{f:B3}{fd:M9}(F:aZ K "law" "law" qz f fd)(N:aR mg)(G1:aw P w K mg base aO 1 f1 d1 Zn (B09P.sg K))(J1:Cq K mg d1 f1 Zn "_law_stream")(G2:aw P w K mg base aO 1 f2 d2 Zf B09P.hF)(J2:Cq K mg d2 f2 Zf "_law_take")(G3:aw P w K mg base aO 2 f3 d3 Zf sZ)(J3:Cq K mg d3 f3 Zf "_law_names")(G4:aw P w K mg base aO 12 f4 d4 Zu (Ce 8))(J4:Cq K mg d4 f4 Zu "_law_box")(G5:aw P w K mg base aO 15 f5 d5 ["_law_tree"] fR)(J5:Cq K mg d5 f5 ["_law_tree"] "_law_due")(G6:aw P w K mg base aO 23 f6 d6 Ze (vY K))(J6:Cq K mg d6 f6 Ze "read_tree")(G7:aw P w K mg base aO 23 f7 d7 Zm (pJ K 22))(J7:Cq K mg d7 f7 Zm "_law_same"):aw P w K mg base aO 24 f fd Zn (xg K):=by
 refine F.cS rp λcdv A outer s H vs Q E hr h=>?_
 ·obtain⟨a,ns,e,hS,hn,k⟩:=h;subst e;have T:=hr.mono (j:=1) (by decide);have c2:=hr.mono (j:=2) (by decide);have D:=hr.mono (j:=12) (by decide);have p:=hr.mono (j:=15) (by decide);have b:=hr.mono (j:=23) (by decide)
  refine⟨_,ah (aJ (i:=1) rp.nd rfl (KB rfl) (pq G1 T J1 (aa (pv 0) ab)))
   (ah (aJ (i:=2) rp.nd rfl (KB rfl) (pq G3 c2 J3 (aa (pv 1) (aa (aE bM ag (pq G2 T J2 (aa (pv 1) (aa ag ab)))) ab))))
   (ah (aJ (i:=3) rp.nd rfl (KB rfl) (pq G4 D J4 (aa (pv 1) (aa (aH gn (by rfl) N.list NO (aa (pv 2) ab)) (aa ag (aa c_ ab))))))
   (ah (aJ (i:=4) rp.nd rfl (KB rfl) (pq G4 D J4 (aa (pv 1) (aa (aH gn (by rfl) N.list NO (aa (pv 2) ab)) (aa ag (aa c_ ab))))))
   (ah (aQ (mR (cZ (bH (pq G7 b J7 (aa (pq G6 b J6 (aa (pq G5 p J5 (aa (pv 3) ab)) ab)) (aa (pv 3) ab))))) (jM (cZ (bH (pq G7 b J7 (aa (pq G6 b J6 (aa (pq G5 p J5 (aa (pv 4) ab)) ab)) (aa (pv 4) ab))))))).pt (ai (au c_)) aC)
   (ai (au (pq G7 b J7 (aa (pq G6 b J6 (aa (pq G5 p J5 (aa (pv 3) ab)) ab)) (aa (pv 3) ab))))))))),?_⟩
  try rw[bZ]
  refine ar λr o=>?_;refine⟨_,rfl,a,ns,rfl,hS,hn,λst d z H1 e2 s1 b0=>?_⟩;refine o _ _ (ar λr o=>?_);refine⟨_,rfl,_,rfl,st,d,z,14,rfl,b0,by decide,by decide,λv d2 z2 v0 v1=>?_⟩;have C:(upd H1 st (.lst [.int d2,.int z2])) st=some (.lst [.int d2,.int z2]):=ae;generalize upd H1 st (.lst [.int d2,.int z2])=H2 at *;obtain⟨vn,rfl,f0⟩:=eW (z:=v) (n:=14) v0 v1;refine⟨_,_,rfl,rfl,st,d2,z2,1+vn,by rw[Int.natCast_add];rfl,C,by lia,λln bI d3 z3 H3 U e1 G S Z X a0 x=>?_⟩;refine o _ _ ?_;clear o r
  have c1:st≠ln:=λz=>by rw[<-z,C]at U;cases U
  have a5:bI≠[]:=λz=>by rw[z]at Z;simp at Z;lia
  clear e1;refine ar λr o=>?_;refine⟨_,rfl,_,rfl,ln,_,rfl,.inl (bg.of S),λl1 J=>?_⟩;generalize R:upd H3 l1 _=H4
  have s4:af H3 H4:=by rw[<-R];exact af.put (af.refl _) J
  have c4:H4 l1=some (.lst (bI.map V.str)):=by rw[<-R];exact ae
  clear R;have n1:st≠l1:=B09P.dC G J;have b4:ln≠l1:=B09P.dC S J;refine⟨st,l1,d3,z3,bI,1,false,rfl,n1,s4 _ _ G,c4,a5,by lia,X,by decide,by decide,λt1 m l r1 d5 z5 H5 f9 c3 M e4 g5 W b5 c5 c a8 d0=>?_⟩;refine o _ _ ?_;clear o r;have b7:H5 ln=some (.lst (bI.map V.str)):=c3 _ _ (Da c1) b4 (s4 _ _ S);refine ar λr o=>?_;refine⟨_,rfl,_,rfl,ln,_,rfl,.inl (bg.of b7),λl2 a9=>?_⟩;generalize R:upd H5 l2 _=H6
  have s6:af H5 H6:=by rw[<-R];exact af.put (af.refl _) a9
  have c6:H6 l2=some (.lst (bI.map V.str)):=by rw[<-R];exact ae
  clear R;have n2:st≠l2:=B09P.dC M a9;refine⟨st,l2,d5,z5,bI,1,false,rfl,n2,s6 _ _ M,c6,a5,by lia,X,by decide,by decide,λt2 u t r2 d7 z7 H7 e9 c9 g1 e5 g7 a4 e0 Y g a3 b8=>?_⟩;refine o _ _ ?_;clear o r;have O:=(c5.keep (KT.same s6)).keep (KT.k2 c9 (s6 _ _ M) c6);have q:=rT a8 c d0 W (by lia) b5 a0 x;have L:=rT a3 g b8 a4 (by lia) e0 a0 x;have a1:At K H7 (.ref t1) (jH m l):=xa O c a8;have a2:At K H7 (.ref t2) (jH u t):=xa Y g a3;have q1:=q.cnt;have q2:=L.cnt;refine ar λr o=>?_;refine⟨_,rfl,t1,m,l,rfl,O,c,by lia,by lia,λH8 s8=>?_⟩;refine⟨m,l,rfl,q,λv1 H9 s9 c7=>?_⟩;have a7:=af.trans s8 s9;refine⟨_,rfl,v1,.ref t1,jH m l,rfl,c7,a1.same a7,lQ q,λe7 c8=>⟨_,rfl,bA ?_⟩⟩;have y:=af.trans a7 c8;refine⟨_,rfl,t2,u,t,rfl,Y.keep (KT.same y),g,by lia,by lia,λe6 d8=>?_⟩;refine⟨u,t,rfl,L,λv2 e8 b1 b6=>?_⟩;have B:=af.trans y (af.trans d8 b1);refine⟨_,rfl,v2,.ref t2,jH u t,rfl,b6,a2.same B,lQ L,λe3 b3=>⟨_,rfl,bA ?_⟩⟩;have I:=af.trans B b3;refine o _ _ ?_;clear o r;refine⟨_,rfl,t1,m,l,rfl,O.keep (KT.same I),c,by lia,by lia,λg2 c0=>?_⟩;refine⟨m,l,rfl,q,λv3 f8 b9 b2=>?_⟩;have a6:=af.trans I (af.trans c0 b9);exact⟨_,rfl,v3,.ref t1,jH m l,rfl,b2,a1.same a6,lQ q,λd9 g0=>k d9⟩
end
theorem LC(h:us.length=1):∃a,us=[a]:=by
 obtain⟨a,vs,rfl,g⟩:=HC h;exact⟨a,by rw[Lg g]⟩
theorem LH(h:us.length=2):∃a b,us=[a,b]:=by
 obtain⟨a,vs,rfl,g⟩:=HC h;obtain⟨b,rfl⟩:=LC g;exact⟨a,b,rfl⟩
theorem Ls(h:us.length=3):∃a b c,us=[a,b,c]:=by
 obtain⟨a,vs,rfl,g⟩:=HC h;obtain⟨b,c,rfl⟩:=LH g;exact⟨a,b,c,rfl⟩
theorem LK(h:us.length=4):∃a c d b,us=[a,c,d,b]:=by
 obtain⟨a,vs,rfl,g⟩:=HC h;obtain⟨c,d,b,rfl⟩:=Ls g;exact⟨a,c,d,b,rfl⟩
theorem LA(h:us.length=5):∃a d e c b,us=[a,d,e,c,b]:=by
 obtain⟨a,vs,rfl,g⟩:=HC h;obtain⟨d,e,c,b,rfl⟩:=LK g;exact⟨a,d,e,c,b,rfl⟩
theorem all_mk{h:MP}{fa CR b6 c4 c6 b9 b7 f8 f9 e8 g4 n1 r1 m7 f15 g5 e4 f18 n5 j3 i6 m5 f23 f24 f25 f26 o3 k5 y4 w2 f31 h8 f33 f34 f35 q0 q2 f38 f39 t1 f41 y0 w3 n9 d0 f46 f47 m1 u3 q w0 g2 f53 f54 f55 b8 f57 j0 x0 t0 f61 u1 k7 y3 e5 r8 f67 f68 o9 l2 c9 f72 f73 f74 s2 k0 e1 q1 m6 x6 f81 y8:B3}(X:K.In h)(G:h.Ns L4 mg)(hfa:mg "law"=some (.ref fa)){o0 z k4 p8 r7 m8 g1:Option B3}{q8 s8 r2 l8 q6 m2:Array (Option B5)}{r0 b0 L F o b3:B5}{d8 d9 d10 d11 d12 d13 d14 d15 d16 d17 d18 d19 d20 d21 d22 d23 d24 d25 d26 d27 d28 d29 d30 d31 d32 d33 d34 d35 d36 d37 d38 d39 d40 d41 d42 d43 d44 d45 d46 d47 d48 d49 d50 d51 d52 d53 d54 d55 d57 d58 d59 d60 d61 d62 d63 d64 d65 d66 d67 d68 d69 d70 d71 d72 d73 d74 d75 d76 d77 d78 d79 d80 d81 d82:M9}{c0 w6 n2 p7 m4 o7 q5 tk7 e0 q3 O b4 x S J V I A E U Q C T b2 B n4 v3 tk27 i0 l9 o1 m9 l1 f0 y7 tk35 l7 x7 k1 tk39 l0 h6:Tok}{na0 na1 na2 na3 na4:Nat}(aCR:Mi K L4 "TextRow"=some (some (.ref CR)))(a1:Nv K "what_of" (.ref f1))(F1:aZ K "what_of" "what_of" ia f1 d1)(a2:Nv K "is_free" (.ref f2))(F2:aZ K "is_free" "is_free" wj f2 d2)(a3:Nv K "first_place" (.ref f3))(F3:aZ K "first_place" "first_place" uL f3 d3)(a4:Nv K "take" (.ref f4))(F4:aZ K "take" "take" qE f4 d4)(a5:Nv K "put_cells" (.ref f5))(F5:aZ K "put_cells" "put_cells" GR f5 d5)(a6:Nv K "spans_of" (.ref f6))(F6:aZ K "spans_of" "spans_of" ml f6 d6)(a7:Nv K "rows_taken" (.ref f7))(F7:aZ K "rows_taken" "rows_taken" gi f7 d7)(a8:Nv K "cells_of" (.ref f8))(F8:aZ K "cells_of" "cells_of" mC f8 d8)(a9:Nv K "table_rows" (.ref f9))(F9:aZ K "table_rows" "table_rows" iL f9 d9)(a10:Nv K "is_whole" (.ref e8))(y5:aZ K "is_whole" "is_whole" mG e8 d10)(a11:Nv K "is_between" (.ref g4))(x8:aZ K "is_between" "is_between" iN g4 d11)(a12:Nv K "is_tuple_of" (.ref n1))(k6:aZ K "is_tuple_of" "is_tuple_of" iJ n1 d12)(a13:Nv K "is_size" (.ref r1))(n6:aZ K "is_size" "is_size" qA r1 d13)(a14:Nv K "is_gap" (.ref m7))(x2:aZ K "is_gap" "is_gap" uY m7 d14)(a15:Nv K "is_joint" (.ref f15))(s6:aZ K "is_joint" "is_joint" mM f15 d15)(a16:Nv K "is_bounds" (.ref g5))(v0:aZ K "is_bounds" "is_bounds" j_ g5 d16)(a17:Nv K "is_own" (.ref e4))(m3:aZ K "is_own" "is_own" uq e4 d17)(a18:Nv K "is_side" (.ref f18))(n7:aZ K "is_side" "is_side" qN f18 d18)(a19:Nv K "is_align" (.ref n5))(e3:aZ K "is_align" "is_align" mQ n5 d19)(a20:Nv K "is_anchor_word" (.ref j3))(w7:aZ K "is_anchor_word" "is_anchor_word" fA j3 d20)(a21:Nv K "is_anchor" (.ref i6))(g0:aZ K "is_anchor" "is_anchor" jP i6 d21)(a22:Nv K "is_anchor_pair" (.ref m5))(p0:aZ K "is_anchor_pair" "is_anchor_pair" fq m5 d22)(a23:Nv K "is_over_what" (.ref f23))(j6:aZ K "is_over_what" "is_over_what" fj f23 d23)(a24:Nv K "is_sign" (.ref f24))(j9:aZ K "is_sign" "is_sign" pW f24 d24)(a25:Nv K "is_piece" (.ref f25))(v4:aZ K "is_piece" "is_piece" jE f25 d25)(a26:Nv K "is_word" (.ref f26))(o4:aZ K "is_word" "is_word" kZ f26 d26)(a27:Nv K "is_words" (.ref o3))(t5:aZ K "is_words" "is_words" g_ o3 d27)(a28:Nv K "are_sides" (.ref k5))(o6:aZ K "are_sides" "are_sides" ig k5 d28)(a29:Nv K "is_words_what" (.ref y4))(F29:aZ K "is_words_what" "is_words_what" gm y4 d29)(a30:Nv K "is_flow_what" (.ref w2))(j1:aZ K "is_flow_what" "is_flow_what" gX w2 d30)(a31:Nv K "is_leaf_what" (.ref f31))(i7:aZ K "is_leaf_what" "is_leaf_what" hH f31 d31)(a32:Nv K "is_lined_what" (.ref h8))(y9:aZ K "is_lined_what" "is_lined_what" gh h8 d32)(a33:Nv K "is_span" (.ref f33))(h4:aZ K "is_span" "is_span" pz f33 d33)(a34:Nv K "is_table_what" (.ref f34))(h7:aZ K "is_table_what" "is_table_what" eN f34 d34)(a35:Nv K "is_name" (.ref f35))(i9:aZ K "is_name" "is_name" kT f35 d35)(a36:Nv K "is_what" (.ref q0))(s1:aZ K "is_what" "is_what" qK q0 d36)(a37:Nv K "is_box" (.ref q2))(e2:aZ K "is_box" "is_box" uS q2 d37)(a38:Nv K "alike_of" (.ref f38))(F38:aZ K "alike_of" "alike_of" lT f38 d38)(a39:Nv K "may_be_alike" (.ref f39))(j4:aZ K "may_be_alike" "may_be_alike" gJ f39 d39)(a40:Nv K "is_amiss" (.ref t1))(F40:aZ K "is_amiss" "is_amiss" jc t1 d40)(a41:Nv K "look_through" (.ref f41))(y6:aZ K "look_through" "look_through" dE f41 d41)(a42:Nv K "check_tree" (.ref y0))(F42:aZ K "check_tree" "check_tree" iQ y0 d42)(a43:Nv K "number_read" (.ref w3))(t2:aZ K "number_read" "number_read" fm w3 d43)(a44:Nv K "fields_read" (.ref n9))(r6:aZ K "fields_read" "fields_read" hU n9 d44)(a45:Nv K "pair_read" (.ref d0))(g8:aZ K "pair_read" "pair_read" ik d0 d45)(a46:Nv K "anchors_read" (.ref f46))(v2:aZ K "anchors_read" "anchors_read" fS f46 d46)(a47:Nv K "words_read" (.ref f47))(F47:aZ K "words_read" "words_read" fX f47 d47)(a48:Nv K "own_read" (.ref m1))(u6:aZ K "own_read" "own_read" gU m1 d48)(a49:Nv K "what_read" (.ref u3))(j5:aZ K "what_read" "what_read" ee u3 d49)(a50:MG K (.ref CR) "__init__"=some (some (.ref q)))(i50:PySem.W.isFn K (.ref q)=true)(i1:aZ K "__init__" "TextRow.__init__" gq q d50)(a51:Nv K "row_read" (.ref w0))(s4:aZ K "row_read" "row_read" ju w0 d51)(a52:Nv K "box_read" (.ref g2))(F52:aZ K "box_read" "box_read" gI g2 d52)(a53:Nv K "outermost_read" (.ref f53))(u5:aZ K "outermost_read" "outermost_read" cY f53 d53)(a54:Nv K "read_tree" (.ref f54))(F54:aZ K "read_tree" "read_tree" iz f54 d54)(a55:Nv K "_law_same" (.ref f55))(v9:aZ K "_law_same" "_law_same" gM f55 d55)(a56:Nv K "law" (.ref b8))(l56:K.lookup b8=some ⟨r0,o0,.func (NL "law" "law" (fY qz) (eQ qz) (aj qz) .none b0 L F z o b3),q8⟩)(c56:PL K o "law"=true)(k56:N_ K (.ref b8)=true)(a57:Nv K "joined" (.ref f57))(t8:aZ K "joined" "joined" jd f57 d57)(a58:Nv K "own_told" (.ref j0))(r9:aZ K "own_told" "own_told" jo j0 d58)(a59:Nv K "words_text" (.ref x0))(k9:aZ K "words_text" "words_text" uc x0 d59)(a60:Nv K "what_told" (.ref t0))(F60:aZ K "what_told" "what_told" ie t0 d60)(a61:Nv K "part_told" (.ref f61))(F61:aZ K "part_told" "part_told" ic f61 d61)(a62:Nv K "row_text" (.ref u1))(i3:aZ K "row_text" "row_text" gY u1 d62)(a63:Nv K "text_rows" (.ref k7))(l5:aZ K "text_rows" "text_rows" ip k7 d63)(a64:Nv K "tree_text" (.ref y3))(F64:aZ K "tree_text" "tree_text" iu y3 d64)(a65:Nv K "_law_stream" (.ref e5))(v6:aZ K "_law_stream" "_law_stream" vk e5 d65)(a66:Nv K "_law_take" (.ref r8))(j2:aZ K "_law_take" "_law_take" zp r8 d66)(a67:Nv K "_law_names" (.ref f67))(F67:aZ K "_law_names" "_law_names" xC f67 d67)(a68:Nv K "_law_range" (.ref f68))(F68:aZ K "_law_range" "_law_range" yv f68 d68)(a69:Nv K "_law_words" (.ref o9))(h5:aZ K "_law_words" "_law_words" xB o9 d69)(a70:Nv K "_law_anchor" (.ref l2))(h2:aZ K "_law_anchor" "_law_anchor" uP l2 d70)(a71:Nv K "_law_what" (.ref c9))(w9:aZ K "_law_what" "_law_what" Bx c9 d71)(a72:Nv K "_law_box" (.ref f72))(h3:aZ K "_law_box" "_law_box" DJ f72 d72)(a73:Nv K "_law_own_words" (.ref f73))(t9:aZ K "_law_own_words" "_law_own_words" qd f73 d73)(a74:Nv K "_law_what_words" (.ref f74))(e7:aZ K "_law_what_words" "_law_what_words" og f74 d74)(a75:Nv K "_law_part_words" (.ref s2))(F75:aZ K "_law_part_words" "_law_part_words" n_ s2 d75)(a76:Nv K "_law_text_words" (.ref k0))(g9:aZ K "_law_text_words" "_law_text_words" nO k0 d76)(a77:Nv K "_law_rows" (.ref e1))(k2:aZ K "_law_rows" "_law_rows" Bz e1 d77)(a78:Nv K "_law_due" (.ref q1))(u4:aZ K "_law_due" "_law_due" C2 q1 d78)(a79:Nv K "kind_of" (.ref m6))(F79:aZ K "kind_of" "kind_of" EK m6 d79)(a80:Nv K "name_of" (.ref x6))(F80:aZ K "name_of" "name_of" Dl x6 d80)(a81:Nv K "own_of" (.ref f81))(r5:aZ K "own_of" "own_of" pV f81 d81)(a82:Nv K "parts_of" (.ref y8))(F82:aZ K "parts_of" "parts_of" jz y8 d82)(p1:Pd K CR Pc=true)(p2:O0 K CR=true)(p3:Qi K CR=true)(p4:MG K (.ref CR) "__setattr__"=some (some (.builtin "object.__setattr__")))(p5:QH K CR=true)(p6:N_ K (.ref CR)=true)(nD:MG K (.ref CR) "depth"=some none)(nK:MG K (.ref CR) "kind"=some none)(nN:MG K (.ref CR) "name"=some none)(nT:MG K (.ref CR) "told"=some none)(kq0:Nv K "ANCHOR_FARTHEST" (.int 1000000 c0))(kq1:Nv K "OVER_PARTS" (.int 12 w6))(kq2:Nv K "JOINT_MOST" (.int 999 n2))(kq3:Nv K "PIECE_LONGEST" (.int 12 p7))(kq4:Nv K "WORD_PIECES" (.int 6 m4))(kq5:Nv K "WORDS_PIECES" (.int 60 o7))(kq6:Nv K "FLOW_PARTS" (.int 12 q5))(kq7:Nv K "FIRST_SIGN" (.int 33 tk7))(kq8:Nv K "LAST_SIGN" (.int 126 e0))(kq9:Nv K "PERCENT_SIGN" (.int 37 q3))(q9:Nv K "BAR_SIGN" (.int 124 O))(kq11:Nv K "NAME_LONGEST" (.int 8 b4))(t6:Nv K "SIZE_MOST" (.int 1000000 x))(q4:Nv K "WEIGHT_MOST" (.int 99 S))(y1:Nv K "RANK_MOST" (.int 9 J))(h0:Nv K "ALIKE_MOST" (.int 9 V))(y2:Nv K "LINED_PARTS" (.int 20 I))(h1:Nv K "GAP_MOST" (.int 1000 A))(t4:Nv K "TABLE_PARTS" (.int 40 E))(v7:Nv K "TABLE_COLUMNS" (.int 12 U))(u7:Nv K "SPAN_MOST" (.int 12 Q))(v5:Nv K "BOXES_MOST" (.int 60 C))(n8:Nv K "DEEPEST" (.int 8 T))(l4:Nv K "TABLE_ROWS" (.int 60 b2))(n3:Nv K "FIGURES_MOST" (.int 7 B))(tq0:Nv K "ANCHOR_WORDS" (.ref b6))(lq0:K.lookup b6=some ⟨.type "tuple",k4,.seq #[.str "start" n4,.str "mid" v3,.str "mid2" tk27,.str "end" i0] na0,s8⟩)(tq1:Nv K "SIDES" (.ref c4))(lq1:K.lookup c4=some ⟨.type "tuple",p8,.seq #[.str "left" l9,.str "right" o1] na1,r2⟩)(tq2:Nv K "LINED" (.ref c6))(lq2:K.lookup c6=some ⟨.type "tuple",r7,.seq #[.str "row" m9,.str "column" l1,.str "wrap" f0] na2,l8⟩)(tq3:Nv K "ALIGNS" (.ref b9))(lq3:K.lookup b9=some ⟨.type "tuple",m8,.seq #[.str "start" y7,.str "end" tk35,.str "mid" l7,.str "mid2" x7] na3,q6⟩)(tq4:Nv K "ALIKE_KINDS" (.ref b7))(lq4:K.lookup b7=some ⟨.type "tuple",g1,.seq #[.str "leaf" k1,.str "row" tk39,.str "column" l0,.str "wrap" h6] na4,m2⟩){aP:B3}{tI eP:Nat}{pp0 qq0 pp1 qq1 pp2 qq2 pp3 qq3 pp4 qq4 pp5 qq5 pp6 qq6 pp7 qq7 pp8 qq8 pp9 qq9 q7 m0 r3 j8 pp12 l3 x4 s5 s3 qq14 t3 r4:Nat}(aPL:Mi K L4 "PLAIN"=some (some (.ref aP)))(lPL:K.lookup aP=some {cls:= .type "dict",data:= .dict (List.toArray [⟨Mn w.params "wide",.str "wide" pp0,.str "0..1000000" qq0⟩,⟨Mn w.params "high",.str "high" pp1,.str "0..1000000" qq1⟩,⟨Mn w.params "grow",.str "grow" pp2,.str "0" qq2⟩,⟨Mn w.params "shrink",.str "shrink" pp3,.str "1" qq3⟩,⟨Mn w.params "rank",.str "rank" pp4,.str "0" qq4⟩,⟨Mn w.params "alike",.str "alike" pp5,.str "0" qq5⟩,⟨Mn w.params "wish",.str "wish" pp6,.str "0,0" qq6⟩,⟨Mn w.params "columns",.str "columns" pp7,.str "1" qq7⟩,⟨Mn w.params "gap",.str "gap" pp8,.str "0" qq8⟩,⟨Mn w.params "align",.str "align" pp9,.str "start" qq9⟩,⟨Mn w.params "side",.str "side" q7,.str "left" m0⟩,⟨Mn w.params "joint",.str "joint" r3,.str "50" j8⟩,⟨Mn w.params "span",.str "span" pp12,.str "1,1" l3⟩,⟨Mn w.params "float",.str "float" x4,.str "left" s5⟩,⟨Mn w.params "at",.str "at" s3,.str "start,0,start,0" qq14⟩,⟨Mn w.params "text",.str "text" t3,.str "" r4⟩]) eP})(nPL:(aP==Ni)=false)(aIN:Mi K L4 "INDENT"=some (some (.str "  " tI)))(z0:Mi K L4 "len"=some none)(z1:Mi K L4 "max"=some none)(z2:Mi K L4 "list"=some none)(z3:Mi K L4 "int"=some none)(z4:Mi K L4 "isinstance"=some none)(z5:Mi K L4 "range"=some none)(z6:Mi K L4 "all"=some none)(z7:Mi K L4 "bool"=some none)(z8:Mi K L4 "sum"=some none)(z9:Mi K L4 "zip"=some none)(z10:Mi K L4 "str"=some none)(z11:Mi K L4 "tuple"=some none)(z12:Mi K L4 "ord"=some none)(z13:Mi K L4 "enumerate"=some none)(z14:Mi K L4 "any"=some none)(z15:Mi K L4 "dict"=some none)(z16:Mi K L4 "reversed"=some none)(z17:Mi K L4 "min"=some none)(z18:Mi K L4 "abs"=some none):
  ∃fd:M9,(∀(s:FS)(v:B5),QV s fd ⟨[v],[]⟩ [("_law_script",v)])/\∀base:MP,K.In base->base.Ns L4 mg->aw l.prog w K mg base aO 24 fa fd Zn (xg K):=by
 have e:=hfa.symm.trans (LU X G a56)
 cases e
 have N:aR mg:=⟨L_ X G z0,L_ X G z1,L_ X G z2,L_ X G z3,L_ X G z4,L_ X G z5,L_ X G z6,L_ X G z7,L_ X G z8,L_ X G z9,L_ X G z10,L_ X G z11,L_ X G z12,L_ X G z13,L_ X G z14,L_ X G z15,L_ X G z16⟩;have p9:=L_ X G z17;have u2:=L_ X G z18;have mCR:=LU X G aCR;have c:kN K mg (λi=>[c0,w6,n2,p7,m4,o7,q5,tk7,e0,q3,O,b4,x,S,J,V,I,A,E,U,Q,C,T,b2,B].getD i c0) (λi=>[b6,c4,c6,b9,b7].getD i 0):=⟨LU X G kq0,LU X G kq1,LU X G kq2,LU X G kq3,LU X G kq4,LU X G kq5,LU X G kq6,LU X G kq7,LU X G kq8,LU X G kq9,LU X G q9,LU X G kq11,LU X G t6,LU X G q4,LU X G y1,LU X G h0,LU X G y2,LU X G h1,LU X G t4,LU X G v7,LU X G u7,LU X G v5,LU X G n8,LU X G l4,LU X G n3,LU X G tq0,λH=> .inr ⟨_,_,_,lq0,rfl,rfl,az (by show 4<=100000;decide),.cons ⟨_,rfl⟩ (.cons ⟨_,rfl⟩ (.cons ⟨_,rfl⟩ (.cons ⟨_,rfl⟩ .nil)))⟩,LU X G tq1,λH=> .inr ⟨_,_,_,lq1,rfl,rfl,az (by show 2<=100000;decide),.cons ⟨_,rfl⟩ (.cons ⟨_,rfl⟩ .nil)⟩,LU X G tq2,λH=> .inr ⟨_,_,_,lq2,rfl,rfl,az (by show 3<=100000;decide),.cons ⟨_,rfl⟩ (.cons ⟨_,rfl⟩ (.cons ⟨_,rfl⟩ .nil))⟩,LU X G tq3,λH=> .inr ⟨_,_,_,lq3,rfl,rfl,az (by show 4<=100000;decide),.cons ⟨_,rfl⟩ (.cons ⟨_,rfl⟩ (.cons ⟨_,rfl⟩ (.cons ⟨_,rfl⟩ .nil)))⟩,LU X G tq4,λH=> .inr ⟨_,_,_,lq4,rfl,rfl,az (by show 4<=100000;decide),.cons ⟨_,rfl⟩ (.cons ⟨_,rfl⟩ (.cons ⟨_,rfl⟩ (.cons ⟨_,rfl⟩ .nil)))⟩⟩;have J1:=cq (ps:=Zb) X G a1 F1;have J2:=cq (ps:=ZA) X G a2 F2;have J3:=cq (ps:=ZC) X G a3 F3;have J4:=cq (ps:=ZD) X G a4 F4;have J5:=cq (ps:=ZE) X G a5 F5;have J6:=cq (ps:=Zb) X G a6 F6;have J7:=cq (ps:=Zr) X G a7 F7;have J8:=cq (ps:=Zb) X G a8 F8;have J9:=cq (ps:=Zb) X G a9 F9;have J10:=cq (ps:=Za) X G a10 y5;have g:=cq (ps:=Zg) X G a11 x8;have b:=cq (ps:=Zc) X G a12 k6;have J13:=cq (ps:=Za) X G a13 n6;have J14:=cq (ps:=Za) X G a14 x2;have h9:=cq (ps:=Za) X G a15 s6;have J16:=cq (ps:=Za) X G a16 v0;have J17:=cq (ps:=Za) X G a17 m3;have c1:=cq (ps:=Za) X G a18 n7;have J19:=cq (ps:=Za) X G a19 e3;have J20:=cq (ps:=Za) X G a20 w7;have J21:=cq (ps:=Za) X G a21 g0;have J22:=cq (ps:=Za) X G a22 p0;have J23:=cq (ps:=Zd) X G a23 j6;have J24:=cq (ps:=["sign"]) X G a24 j9;have J25:=cq (ps:=Za) X G a25 v4;have J26:=cq (ps:=Za) X G a26 o4;have o8:=cq (ps:=Za) X G a27 t5;have J28:=cq (ps:=Zc) X G a28 o6;have J29:=cq (ps:=Zd) X G a29 F29;have J30:=cq (ps:=Zd) X G a30 j1;have J31:=cq (ps:=Zd) X G a31 i7;have J32:=cq (ps:=Zd) X G a32 y9;have J33:=cq (ps:=Zv) X G a33 h4;have J34:=cq (ps:=Zd) X G a34 h7;have J35:=cq (ps:=Za) X G a35 i9;have J36:=cq (ps:=Zw) X G a36 s1;have J37:=cq (ps:=Za) X G a37 e2;have J38:=cq (ps:=Zb) X G a38 F38;have J39:=cq (ps:=Zy) X G a39 j4;have J40:=cq (ps:=Zh) X G a40 F40;have u9:=cq (ps:=Zh) X G a41 y6;have J42:=cq (ps:=Za) X G a42 F42;have t:=cq (ps:=Ze) X G a43 t2;have J44:=cq (ps:=Zq) X G a44 r6;have x1:=cq (ps:=Zp) X G a45 g8;have J46:=cq (ps:=Ze) X G a46 v2;have J47:=cq (ps:=Ze) X G a47 F47;have J48:=cq (ps:=["told"]) X G a48 u6;have J49:=cq (ps:=ZJ) X G a49 j5
 have b50:=i1.binds (ps:=Zx) λ_ _ _ _ _ _ us hl=>by obtain⟨_,_,_,_,_,rfl⟩:=LA hl;rfl
 have J51:=cq (ps:=["row"]) X G a51 s4;have J52:=cq (ps:=["row","parts"]) X G a52 F52;have J53:=cq (ps:=["rows"]) X G a53 u5;have J54:=cq (ps:=Ze) X G a54 F54;have k8:=cq (ps:=Zm) X G a55 v9;have F56:=aD (st:=qz) l56 c56 k56;have c5:=cq (ps:=Zl) X G a57 t8;have J58:=cq (ps:=["own"]) X G a58 r9;have J59:=cq (ps:=["words"]) X G a59 k9;have J60:=cq (ps:=Zs) X G a60 F60;have J61:=cq (ps:=ZG) X G a61 F61;have J62:=cq (ps:=ZH) X G a62 i3;have g3:=cq (ps:=Zt) X G a63 l5;have J64:=cq (ps:=["tree"]) X G a64 F64;have J65:=cq (ps:=Zn) X G a65 v6;have f:=cq (ps:=Zf) X G a66 j2;have J67:=cq (ps:=Zf) X G a67 F67;have J68:=cq (ps:=Zi) X G a68 F68;have J69:=cq (ps:=Zi) X G a69 h5;have J70:=cq (ps:=Zi) X G a70 h2;have J71:=cq (ps:=ZI) X G a71 w9;have t7:=cq (ps:=Zu) X G a72 h3;have J73:=cq (ps:=["_law_own"]) X G a73 t9;have J74:=cq (ps:=Zk) X G a74 e7;have J75:=cq (ps:=ZK) X G a75 F75;have J76:=cq (ps:=Zk) X G a76 g9;have v1:=cq (ps:=Zz) X G a77 k2;have J78:=cq (ps:=["_law_tree"]) X G a78 u4;have m:=cq (ps:=Zb) X G a79 F79;have r:=cq (ps:=Zb) X G a80 F80;have b5:=cq (ps:=Zb) X G a81 r5;have c7:=cq (ps:=Zb) X G a82 F82;have TC:RowC K CR:=⟨⟨p1,p2,p3,p4⟩,nD,nK,nN,nT⟩;have MC:Mk K CR q:=⟨p5,a50,i50,p6⟩;have GB:F_ l.prog w K mg aP tI:=⟨LU X G aPL,BX (ps:=bx) lPL (.cons ⟨rfl,⟨_,rfl⟩,_,rfl⟩ (.cons ⟨rfl,⟨_,rfl⟩,_,rfl⟩ (.cons ⟨rfl,⟨_,rfl⟩,_,rfl⟩ (.cons ⟨rfl,⟨_,rfl⟩,_,rfl⟩ (.cons ⟨rfl,⟨_,rfl⟩,_,rfl⟩ (.cons ⟨rfl,⟨_,rfl⟩,_,rfl⟩ (.cons ⟨rfl,⟨_,rfl⟩,_,rfl⟩ (.cons ⟨rfl,⟨_,rfl⟩,_,rfl⟩ (.cons ⟨rfl,⟨_,rfl⟩,_,rfl⟩ (.cons ⟨rfl,⟨_,rfl⟩,_,rfl⟩ (.cons ⟨rfl,⟨_,rfl⟩,_,rfl⟩ (.cons ⟨rfl,⟨_,rfl⟩,_,rfl⟩ (.cons ⟨rfl,⟨_,rfl⟩,_,rfl⟩ (.cons ⟨rfl,⟨_,rfl⟩,_,rfl⟩ (.cons ⟨rfl,⟨_,rfl⟩,_,rfl⟩ (.cons ⟨rfl,⟨_,rfl⟩,_,rfl⟩ .nil)))))))))))))))) (by decide +kernel) nPL,LU X G aIN⟩;have n:B09P.aR mg:=⟨N.len,N.range,N.list,N.tuple,p9,u2,N.enum,N.str,N.inst⟩;have GG:B09P.F_ l.prog w K mg _ aP:=⟨c.tLINED,c.sLINED,GB.mP,GB.dP,tI,GB.mI⟩;refine⟨NL "law" "law" (fY qz) (eQ qz) (aj qz) .none b0 L F z o b3,λs v=> .of_eq rfl,λbase _ _=>?_⟩;have G_1:=xP (P:=l.prog) (w:=w) (mg:=mg) (base:=base) F1 N;have G_2:=CZ (P:=l.prog) (w:=w) (mg:=mg) (base:=base) F2 N;have G_3:=zL (P:=l.prog) (w:=w) (mg:=mg) (base:=base) F3 N G_2 J2;have G_4:=Bb (P:=l.prog) (w:=w) (mg:=mg) (base:=base) F4 N;have G_5:=Gi (P:=l.prog) (w:=w) (mg:=mg) (base:=base) F5 G_3 J3 G_4 J4;have o2:=ue (P:=l.prog) (w:=w) (mg:=mg) (base:=base) F6 N G_1 J1;have G_7:=pX (P:=l.prog) (w:=w) (mg:=mg) (base:=base) F7 N;have G_8:=tW (P:=l.prog) (w:=w) (mg:=mg) (base:=base) F8 N G_5 J5 G_1 J1 o2 J6;have G_9:=qP (P:=l.prog) (w:=w) (mg:=mg) (base:=base) F9 N G_7 J7 G_8 J8 o2 J6;have k3:=xH (P:=l.prog) (w:=w) (mg:=mg) (base:=base) y5 N;have d:=tj (P:=l.prog) (w:=w) (mg:=mg) (base:=base) x8 N k3 J10;have a:=sX (P:=l.prog) (w:=w) (mg:=mg) (base:=base) k6 N;have M:=zI (P:=l.prog) (w:=w) (mg:=mg) (base:=base) c n6 N d g;have b1:=D5 (P:=l.prog) (w:=w) (mg:=mg) (base:=base) c x2 N d g;have a0:=yr (P:=l.prog) (w:=w) (mg:=mg) (base:=base) c s6 N d g;have G_16:=vF (P:=l.prog) (w:=w) (mg:=mg) (base:=base) v0 N a b M J13;have w5:=D4 (P:=l.prog) (w:=w) (mg:=mg) (base:=base) c m3 N a b G_16 J16 d g;have GK:=B09P.C8 (P:=l.prog) (w:=w) (mg:=mg) (base:=base) F79;have u:=B09P.DB (P:=l.prog) (w:=w) (mg:=mg) (base:=base) F80;have c8:=B09P.Al (P:=l.prog) (w:=w) (mg:=mg) (base:=base) r5;have c3:=B09P.xM (P:=l.prog) (w:=w) (mg:=mg) (base:=base) F1;have c2:=B09P.uH (P:=l.prog) (w:=w) (mg:=mg) (base:=base) F82;have p:=zU (P:=l.prog) (w:=w) (mg:=mg) (base:=base) c n7 N;have i4:=yT (P:=l.prog) (w:=w) (mg:=mg) (base:=base) c e3 N;have G_20:=mW (P:=l.prog) (w:=w) (mg:=mg) (base:=base) c w7 N;have j7:=uT (P:=l.prog) (w:=w) (mg:=mg) (base:=base) c g0 N a b G_20 J20 d g;have G_22:=lN (P:=l.prog) (w:=w) (mg:=mg) (base:=base) p0 N a b j7 J21;have l6:=qM (P:=l.prog) (w:=w) (mg:=mg) (base:=base) c j6 N a b G_22 J22;have g7:=A0 (P:=l.prog) (w:=w) (mg:=mg) (base:=base) c j9 N;have e6:=yM (P:=l.prog) (w:=w) (mg:=mg) (base:=base) c v4 N g7 J24;have u0:=Be (P:=l.prog) (w:=w) (mg:=mg) (base:=base) c o4 N e6 J25;have Y:=xE (P:=l.prog) (w:=w) (mg:=mg) (base:=base) c t5 N u0 J26;have n0:=xQ (P:=l.prog) (w:=w) (mg:=mg) (base:=base) o6 N a b p c1;have i2:=nV (P:=l.prog) (w:=w) (mg:=mg) (base:=base) F29 N a b Y o8 a0 h9;have s7:=qu (P:=l.prog) (w:=w) (mg:=mg) (base:=base) c j1 N a b n0 J28 Y o8 a0 h9;have w8:=pR (P:=l.prog) (w:=w) (mg:=mg) (base:=base) i7 N a b M J13;have G_32:=nX (P:=l.prog) (w:=w) (mg:=mg) (base:=base) c y9 N a b b1 J14 i4 J19 p c1;have o5:=Au (P:=l.prog) (w:=w) (mg:=mg) (base:=base) c h4 N a b d g;have s0:=oe (P:=l.prog) (w:=w) (mg:=mg) (base:=base) c h7 N a b d g b1 J14 p c1 o5 J33;have G_35:=zP (P:=l.prog) (w:=w) (mg:=mg) (base:=base) c i9 N;have v8:=Cg (P:=l.prog) (w:=w) (mg:=mg) (base:=base) c s1 N G_32 J32 w8 J31 s0 J34 i2 J29 s7 J30 l6 J23;have G_37:=Dc (P:=l.prog) (w:=w) (mg:=mg) (base:=base) e2 N a b G_35 J35 u r w5 J17 c8 b5 c2 c7 v8 J36 GK m c3 J1;have x3:=yb (P:=l.prog) (w:=w) (mg:=mg) (base:=base) F38 N c8 b5;have G_39:=Dm (P:=l.prog) (w:=w) (mg:=mg) (base:=base) c j4 N GK m;have g6:=yN (P:=l.prog) (w:=w) (mg:=mg) (base:=base) c F40 N G_37 J37 u r x3 J38 G_39 J39 GK m G_9 J9;have D:=MO;have D:=rX (P:=l.prog) (w:=w) (mg:=mg) (base:=base) y6 N g6 J40 u r c2 c7 GK m u9 12;have w4:=yF (P:=l.prog) (w:=w) (mg:=mg) (base:=base) F42 N D u9;have k:=oj (P:=l.prog) (w:=w) (mg:=mg) (base:=base) c t2 N;have Z:=nF (P:=l.prog) (w:=w) (mg:=mg) (base:=base) r6 N;have y:=sT (P:=l.prog) (w:=w) (mg:=mg) (base:=base) g8 N k t Z J44;have e9:=lC (P:=l.prog) (w:=w) (mg:=mg) (base:=base) v2 N k t Z J44;have x5:=qk (P:=l.prog) (w:=w) (mg:=mg) (base:=base) F47 N;have s9:=uV (P:=l.prog) (w:=w) (mg:=mg) (base:=base) u6 N k t y x1;have x9:=tr (P:=l.prog) (w:=w) (mg:=mg) (base:=base) c j5 N k t y x1 x5 J47 e9 J46;have i8:=mN (P:=l.prog) (w:=w) (mg:=mg) (base:=base) TC i1 N;have G_51:=vL (P:=l.prog) (w:=w) (mg:=mg) (base:=base) GB s4 N i8 b50 mCR MC;have u8:=vI (P:=l.prog) (w:=w) (mg:=mg) (base:=base) TC F52 N s9 J48 x9 J49;have i5:=ki (P:=l.prog) (w:=w) (mg:=mg) (base:=base) TC u5 N u8 J52;have GJ:=B09P.zh (P:=l.prog) (w:=w) (mg:=mg) (base:=base) t8 n;have GWT:=B09P.tf (P:=l.prog) (w:=w) (mg:=mg) (base:=base) F60 n GG GJ c5 (B09P.Bc k9) J59;have GPT:=B09P.rB (P:=l.prog) (w:=w) (mg:=mg) (base:=base) F61 GJ c5 GK m c3 J1;have GRT:=B09P.vr (P:=l.prog) (w:=w) (mg:=mg) (base:=base) i3 GG (B09P.ua r9 n GJ c5) J58 GWT J60 GK m u r c8 b5 c3 J1;have GTR:=B09P.sb (P:=l.prog) (w:=w) (mg:=mg) (base:=base) l5 n GG GRT J62 GPT J61 c2 c7 g3 12;have GTT:=B09P.tR (P:=l.prog) (w:=w) (mg:=mg) (base:=base) F64 GTR g3;have j:=B09P.Dd (P:=l.prog) (w:=w) (mg:=mg) (base:=base) j2;have GWw:=B09P.Bi (P:=l.prog) (w:=w) (mg:=mg) (base:=base) w9 n j f (B09P.zg h5 n j f) J69 (B09P.vl h2 j f) J70;have GBx:=B09P.Eh (P:=l.prog) (w:=w) (mg:=mg) (base:=base) h3 n j f (B09P.ye F68 j f) J68 GWw J71 t7 8;have GRw:=B09P.Bg (P:=l.prog) (w:=w) (mg:=mg) (base:=base) k2 n (B09P.zo t9 n) J73 (B09P.xv e7 n) J74 (B09P.yD F75 n) J75 (B09P.xY g9) J76 v1 12;have GD:=B09P.Eb (P:=l.prog) (w:=w) (mg:=mg) (base:=base) u4 GRw v1;have w1:=rQ (P:=l.prog) (w:=w) (mg:=mg) (base:=base) F54 N i5 J53 G_51 J51 w4 J42 GTT J64;have R:=MO;have R:=wF (P:=l.prog) (w:=w) (mg:=mg) (base:=base) v9 N k8 22;exact FV (P:=l.prog) (w:=w) (mg:=mg) (base:=base) F56 N (B09P.yc v6 n) J65 j f (B09P.xx F67 n j f) J67 GBx t7 GD J78 w1 J54 R k8
theorem walk{q:MA}{b:List Str}{j:(Str->Option B5)->MP->Prop}{e:MM->MP->Prop}{d:DefRec}{K:Params->mo}(hn:l.most=some 63)(c:d.params.defaults=[])(i:∀(w:MM)(h:MP),e w h->(K w.params).In h)(F:∀(w:MM)(mg:Str->Option B5)(g:B3)(h:MP),(K w.params).In h->h.Ns L4 mg->mg d.name=some (.ref g)->
   ∃fd:M9,(∀(s:FS)(u:B5),QV s fd ⟨[u],[]⟩ [("_law_script",u)])/\∀base:MP,(K w.params).In base->base.Ns L4 mg->aw l.prog w (K w.params) mg base aO 24 g fd Zn (xg (K w.params))):
  PySem.W.WalkO q b j e l.row.toRowW d [] (λf vs=>So f vs):=
 L2.DV (n:=63) (k:=24) (x:="_law_script") (CX:=λ_=>aO) (sp:=λw=>xg (K w.params)) hn (by decide) c ⟨rfl,by decide,by decide⟩ i F (λ_ _ a ns hl _ m=>⟨a,ns,rfl,m,hl,λ_=>rfl⟩) λ_ _ _ _ _ z=>z
end B09
inductive PySem.W.Fast:Prop|tw12434896605275754488|tw16722672024629350530|tw4354091435396265489|tw7942795374672506729|tw7553783559318140711|tw4956423299070247564|tw5193444412516661759|tw3430570050499300543|tw818661103727473475|tw16620194569319291565|tw15787933248838044437|tw10220102947810917651|tw13096865411032766894|tw3083719779352898501|tw14698171178363151330|tw11550228430338564259|tw11285196289556789208|tw8866311219449718116|tw2121541164863081591|tw14239227630760627914|tw9512691815046833495|tw15843273660146840652|tw1215354797184615094|tw2123643085991570968|tw491461742445867723|tw867138938799747203|tw8867540811375195831|tw17739823420043249588|tw13342363598630377063|tw14735181720975132473|tw10158170659447481490|tw6716728443892019395|tw17172040455371147115|tw3045934232755146174|tw9266723080663997582|tw8083538680820464776|tw4901747207033539323|tw7520398634870870100|tw5923708373120583116|tw15647229587981535445|tw1946331744324433515|tw11172959495381219188|tw16144961216985010231|tw1317561194826873515|tw16084939589659109124|tw5990376920437081408|tw6914583435875033606|tw17607745343233783044|tw17455275678715236788|tw6505311865962789779|tw5170731177246051479|tw13928765930358721820|tw9150141874081167010|tw17485752153056743230|tw5953558281245357494|tw2838321440862971081|tw2029024656016115528|tw3337377706165796786|tw4266039754391031074|tw924900522182956099|tw3887645128207469410|tw10003851742150856848|tw16817764830991554927|tw8661250268379746049|tw15767061467566038269|tw4864172801917084467|tw17213309169608000631|tw12515323621208335294|tw6329431413853460776|tw14750212352904245384|tw14881916159684242358|tw13249235331456552668|tw5606701244486575707|tw11413341399447948302|tw3017738465515184281|tw6144044846008540680|tw6704074976688669576|tw2874308310020075334|tw3325037770378148366|tw8495376455155219767|tw14217543781937957875|tw15604959636413038273|tw4047799564850511631|tw16538025550296381370|tw11539107370941497694|tw1534383868820117151|tw17859489368005011315|tw497151086887190955|tw14405008569020995220|tw9267928356594138996|tw7988374192237008097|tw1822665197063725112|tw18244421664404757184|tw12161438660653050476|tw1373051764911144560|tw15314141862756966290|tw9851540945240706485|tw17550559564380719797|tw11534037254484378337|tw18037975432947732876|tw5165299087818490930|tw15012120638613937967|tw3451223166929311734|tw1240166581072024646|tw15250808881916973382|tw11256678168159230473|tw4369657577952928972|tw16458393044800711723|tw8694341340230731015|tw8606763112531274503|tw10570881608223346197|tw2102443648064566199|tw4364315100526942314|tw18113421236651247422|tw16824172170631686527|tw6146207628199568707|tw7274909802092558225|tw1306188952976662719|tw17949375012515485318|tw6945029525935748886|tw16547722107334100052|tw2578260296713237962|tw14395622336835955433|tw6475745201651994346|tw16945286408338267821|tw17968412037571534959|tw15753263893082956912|tw15068416398769510914|tw18068091688922065722|tw15381810736012881637|tw67186502034671807|tw2358175582483564394|tw1988615544330239703|tw714163147614385466|tw15909630870150556216|tw3871995039122713878|tw2657658381731829187|tw7408194125716604823|tw11967012335004075302|tw16898416729320473607|tw9810073816524839037|tw3038884344119282453|tw9616765566838635826|tw14688836058308020794|tw3697044806921252462|tw8378317019970463371|tw17141823501446052184|tw7307617515494707794|tw16861101865409437757|tw11609212611694380826|tw438262485512228834|tw11038162839846746391|tw7714015677909127992|tw4581114634363509696|tw11446288391469252803|tw4594906708486306093|tw715579088960008084|tw14790178984439011546|tw11938136977129115624|tw17886671243061700251|tw4151698139743010561|tw17143621689403039921|tw8609689574358525745|tw10985075689817644127|tw17948852642939810038
open PySem PySem.W PyProof.Rows
set_option maxRecDepth 100000 in
theorem PySem.Challenge.cw_boxgalley_k09_texts_read_holds : PySem.Challenge.rw_boxgalley_k09_texts_read.Holds := by
  w_on; o_law; k_head; (case hw => w_witness2)
  k_fill
  refine B09.walk (l := PySem.Challenge.rw_boxgalley_k09_texts_read) rfl rfl (fun w h Y => PySem.W.kIn_of Y) ?F
  case F =>
    intro w mg fa h KX G hmg
    refine' B09.all_mk KX G hmg ?aCR ?a1 ?F1 ?a2 ?F2 ?a3 ?F3 ?a4 ?F4 ?a5 ?F5 ?a6 ?F6 ?a7 ?F7 ?a8 ?F8 ?a9 ?F9 ?a10 ?F10 ?a11 ?F11 ?a12 ?F12 ?a13 ?F13 ?a14 ?F14 ?a15 ?F15 ?a16 ?F16 ?a17 ?F17 ?a18 ?F18 ?a19 ?F19 ?a20 ?F20 ?a21 ?F21 ?a22 ?F22 ?a23 ?F23 ?a24 ?F24 ?a25 ?F25 ?a26 ?F26 ?a27 ?F27 ?a28 ?F28 ?a29 ?F29 ?a30 ?F30 ?a31 ?F31 ?a32 ?F32 ?a33 ?F33 ?a34 ?F34 ?a35 ?F35 ?a36 ?F36 ?a37 ?F37 ?a38 ?F38 ?a39 ?F39 ?a40 ?F40 ?a41 ?F41 ?a42 ?F42 ?a43 ?F43 ?a44 ?F44 ?a45 ?F45 ?a46 ?F46 ?a47 ?F47 ?a48 ?F48 ?a49 ?F49 ?a50 ?i50 ?F50 ?a51 ?F51 ?a52 ?F52 ?a53 ?F53 ?a54 ?F54 ?a55 ?F55 ?a56 ?l56 ?c56 ?k56 ?a57 ?F57 ?a58 ?F58 ?a59 ?F59 ?a60 ?F60 ?a61 ?F61 ?a62 ?F62 ?a63 ?F63 ?a64 ?F64 ?a65 ?F65 ?a66 ?F66 ?a67 ?F67 ?a68 ?F68 ?a69 ?F69 ?a70 ?F70 ?a71 ?F71 ?a72 ?F72 ?a73 ?F73 ?a74 ?F74 ?a75 ?F75 ?a76 ?F76 ?a77 ?F77 ?a78 ?F78 ?a79 ?F79 ?a80 ?F80 ?a81 ?F81 ?a82 ?F82 ?p1 ?p2 ?p3 ?p4 ?p5 ?p6 ?nD ?nK ?nN ?nT ?kq0 ?kq1 ?kq2 ?kq3 ?kq4 ?kq5 ?kq6 ?kq7 ?kq8 ?kq9 ?kq10 ?kq11 ?kq12 ?kq13 ?kq14 ?kq15 ?kq16 ?kq17 ?kq18 ?kq19 ?kq20 ?kq21 ?kq22 ?kq23 ?kq24 ?tq0 ?lq0 ?tq1 ?lq1 ?tq2 ?lq2 ?tq3 ?lq3 ?tq4 ?lq4 ?aPL ?lPL ?nPL ?aIN ?z0 ?z1 ?z2 ?z3 ?z4 ?z5 ?z6 ?z7 ?z8 ?z9 ?z10 ?z11 ?z12 ?z13 ?z14 ?z15 ?z16 ?z17 ?z18
    (case aCR => k_is); (case a1 => show _ = _; k_is); (case F1 => exact L2.aD (by k_is) (by k_is) (by k_is)); (case a2 => show _ = _; k_is); (case F2 => exact L2.aD (by k_is) (by k_is) (by k_is)); (case a3 => show _ = _; k_is)
    (case F3 => exact L2.aD (by k_is) (by k_is) (by k_is)); (case a4 => show _ = _; k_is); (case F4 => exact L2.aD (by k_is) (by k_is) (by k_is)); (case a5 => show _ = _; k_is); (case F5 => exact L2.aD (by k_is) (by k_is) (by k_is)); (case a6 => show _ = _; k_is)
    (case F6 => exact L2.aD (by k_is) (by k_is) (by k_is)); (case a7 => show _ = _; k_is); (case F7 => exact L2.aD (by k_is) (by k_is) (by k_is)); (case a8 => show _ = _; k_is); (case F8 => exact L2.aD (by k_is) (by k_is) (by k_is)); (case a9 => show _ = _; k_is)
    (case F9 => exact L2.aD (by k_is) (by k_is) (by k_is)); (case a10 => show _ = _; k_is); (case F10 => exact L2.aD (by k_is) (by k_is) (by k_is)); (case a11 => show _ = _; k_is); (case F11 => exact L2.aD (by k_is) (by k_is) (by k_is)); (case a12 => show _ = _; k_is)
    (case F12 => exact L2.aD (by k_is) (by k_is) (by k_is)); (case a13 => show _ = _; k_is); (case F13 => exact L2.aD (by k_is) (by k_is) (by k_is)); (case a14 => show _ = _; k_is); (case F14 => exact L2.aD (by k_is) (by k_is) (by k_is)); (case a15 => show _ = _; k_is)
    (case F15 => exact L2.aD (by k_is) (by k_is) (by k_is)); (case a16 => show _ = _; k_is); (case F16 => exact L2.aD (by k_is) (by k_is) (by k_is)); (case a17 => show _ = _; k_is); (case F17 => exact L2.aD (by k_is) (by k_is) (by k_is)); (case a18 => show _ = _; k_is)
    (case F18 => exact L2.aD (by k_is) (by k_is) (by k_is)); (case a19 => show _ = _; k_is); (case F19 => exact L2.aD (by k_is) (by k_is) (by k_is)); (case a20 => show _ = _; k_is); (case F20 => exact L2.aD (by k_is) (by k_is) (by k_is)); (case a21 => show _ = _; k_is)
    (case F21 => exact L2.aD (by k_is) (by k_is) (by k_is)); (case a22 => show _ = _; k_is); (case F22 => exact L2.aD (by k_is) (by k_is) (by k_is)); (case a23 => show _ = _; k_is); (case F23 => exact L2.aD (by k_is) (by k_is) (by k_is)); (case a24 => show _ = _; k_is)
    (case F24 => exact L2.aD (by k_is) (by k_is) (by k_is)); (case a25 => show _ = _; k_is); (case F25 => exact L2.aD (by k_is) (by k_is) (by k_is)); (case a26 => show _ = _; k_is); (case F26 => exact L2.aD (by k_is) (by k_is) (by k_is)); (case a27 => show _ = _; k_is)
    (case F27 => exact L2.aD (by k_is) (by k_is) (by k_is)); (case a28 => show _ = _; k_is); (case F28 => exact L2.aD (by k_is) (by k_is) (by k_is)); (case a29 => show _ = _; k_is); (case F29 => exact L2.aD (by k_is) (by k_is) (by k_is)); (case a30 => show _ = _; k_is)
    (case F30 => exact L2.aD (by k_is) (by k_is) (by k_is)); (case a31 => show _ = _; k_is); (case F31 => exact L2.aD (by k_is) (by k_is) (by k_is)); (case a32 => show _ = _; k_is); (case F32 => exact L2.aD (by k_is) (by k_is) (by k_is)); (case a33 => show _ = _; k_is)
    (case F33 => exact L2.aD (by k_is) (by k_is) (by k_is)); (case a34 => show _ = _; k_is); (case F34 => exact L2.aD (by k_is) (by k_is) (by k_is)); (case a35 => show _ = _; k_is); (case F35 => exact L2.aD (by k_is) (by k_is) (by k_is)); (case a36 => show _ = _; k_is)
    (case F36 => exact L2.aD (by k_is) (by k_is) (by k_is)); (case a37 => show _ = _; k_is); (case F37 => exact L2.aD (by k_is) (by k_is) (by k_is)); (case a38 => show _ = _; k_is); (case F38 => exact L2.aD (by k_is) (by k_is) (by k_is)); (case a39 => show _ = _; k_is)
    (case F39 => exact L2.aD (by k_is) (by k_is) (by k_is)); (case a40 => show _ = _; k_is); (case F40 => exact L2.aD (by k_is) (by k_is) (by k_is)); (case a41 => show _ = _; k_is); (case F41 => exact L2.aD (by k_is) (by k_is) (by k_is)); (case a42 => show _ = _; k_is)
    (case F42 => exact L2.aD (by k_is) (by k_is) (by k_is)); (case a43 => show _ = _; k_is); (case F43 => exact L2.aD (by k_is) (by k_is) (by k_is)); (case a44 => show _ = _; k_is); (case F44 => exact L2.aD (by k_is) (by k_is) (by k_is)); (case a45 => show _ = _; k_is)
    (case F45 => exact L2.aD (by k_is) (by k_is) (by k_is)); (case a46 => show _ = _; k_is); (case F46 => exact L2.aD (by k_is) (by k_is) (by k_is)); (case a47 => show _ = _; k_is); (case F47 => exact L2.aD (by k_is) (by k_is) (by k_is)); (case a48 => show _ = _; k_is)
    (case F48 => exact L2.aD (by k_is) (by k_is) (by k_is)); (case a49 => show _ = _; k_is); (case F49 => exact L2.aD (by k_is) (by k_is) (by k_is)); (case a50 => show _ = _; k_is); (case i50 => k_is); (case F50 => exact L2.aD (by k_is) (by k_is) (by k_is))
    (case a51 => show _ = _; k_is); (case F51 => exact L2.aD (by k_is) (by k_is) (by k_is)); (case a52 => show _ = _; k_is); (case F52 => exact L2.aD (by k_is) (by k_is) (by k_is)); (case a53 => show _ = _; k_is); (case F53 => exact L2.aD (by k_is) (by k_is) (by k_is))
    (case a54 => show _ = _; k_is); (case F54 => exact L2.aD (by k_is) (by k_is) (by k_is)); (case a55 => show _ = _; k_is); (case F55 => exact L2.aD (by k_is) (by k_is) (by k_is)); (case a56 => show _ = _; k_is); (case l56 => k_is)
    (case c56 => k_is); (case k56 => k_is); (case a57 => show _ = _; k_is); (case F57 => exact L2.aD (by k_is) (by k_is) (by k_is)); (case a58 => show _ = _; k_is); (case F58 => exact L2.aD (by k_is) (by k_is) (by k_is))
    (case a59 => show _ = _; k_is); (case F59 => exact L2.aD (by k_is) (by k_is) (by k_is)); (case a60 => show _ = _; k_is); (case F60 => exact L2.aD (by k_is) (by k_is) (by k_is)); (case a61 => show _ = _; k_is); (case F61 => exact L2.aD (by k_is) (by k_is) (by k_is))
    (case a62 => show _ = _; k_is); (case F62 => exact L2.aD (by k_is) (by k_is) (by k_is)); (case a63 => show _ = _; k_is); (case F63 => exact L2.aD (by k_is) (by k_is) (by k_is)); (case a64 => show _ = _; k_is); (case F64 => exact L2.aD (by k_is) (by k_is) (by k_is))
    (case a65 => show _ = _; k_is); (case F65 => exact L2.aD (by k_is) (by k_is) (by k_is)); (case a66 => show _ = _; k_is); (case F66 => exact L2.aD (by k_is) (by k_is) (by k_is)); (case a67 => show _ = _; k_is); (case F67 => exact L2.aD (by k_is) (by k_is) (by k_is))
    (case a68 => show _ = _; k_is); (case F68 => exact L2.aD (by k_is) (by k_is) (by k_is)); (case a69 => show _ = _; k_is); (case F69 => exact L2.aD (by k_is) (by k_is) (by k_is)); (case a70 => show _ = _; k_is); (case F70 => exact L2.aD (by k_is) (by k_is) (by k_is))
    (case a71 => show _ = _; k_is); (case F71 => exact L2.aD (by k_is) (by k_is) (by k_is)); (case a72 => show _ = _; k_is); (case F72 => exact L2.aD (by k_is) (by k_is) (by k_is)); (case a73 => show _ = _; k_is); (case F73 => exact L2.aD (by k_is) (by k_is) (by k_is))
    (case a74 => show _ = _; k_is); (case F74 => exact L2.aD (by k_is) (by k_is) (by k_is)); (case a75 => show _ = _; k_is); (case F75 => exact L2.aD (by k_is) (by k_is) (by k_is)); (case a76 => show _ = _; k_is); (case F76 => exact L2.aD (by k_is) (by k_is) (by k_is))
    (case a77 => show _ = _; k_is); (case F77 => exact L2.aD (by k_is) (by k_is) (by k_is)); (case a78 => show _ = _; k_is); (case F78 => exact L2.aD (by k_is) (by k_is) (by k_is)); (case a79 => show _ = _; k_is); (case F79 => exact L2.aD (by k_is) (by k_is) (by k_is))
    (case a80 => show _ = _; k_is); (case F80 => exact L2.aD (by k_is) (by k_is) (by k_is)); (case a81 => show _ = _; k_is); (case F81 => exact L2.aD (by k_is) (by k_is) (by k_is)); (case a82 => show _ = _; k_is); (case F82 => exact L2.aD (by k_is) (by k_is) (by k_is))
    (case p1 => k_is); (case p2 => k_is); (case p3 => k_is); (case p4 => k_is); (case p5 => k_is); (case p6 => k_is)
    (case nD => k_is); (case nK => k_is); (case nN => k_is); (case nT => k_is); (case kq0 => show _ = _; k_is); (case kq1 => show _ = _; k_is)
    (case kq2 => show _ = _; k_is); (case kq3 => show _ = _; k_is); (case kq4 => show _ = _; k_is); (case kq5 => show _ = _; k_is); (case kq6 => show _ = _; k_is); (case kq7 => show _ = _; k_is)
    (case kq8 => show _ = _; k_is); (case kq9 => show _ = _; k_is); (case kq10 => show _ = _; k_is); (case kq11 => show _ = _; k_is); (case kq12 => show _ = _; k_is); (case kq13 => show _ = _; k_is)
    (case kq14 => show _ = _; k_is); (case kq15 => show _ = _; k_is); (case kq16 => show _ = _; k_is); (case kq17 => show _ = _; k_is); (case kq18 => show _ = _; k_is); (case kq19 => show _ = _; k_is)
    (case kq20 => show _ = _; k_is); (case kq21 => show _ = _; k_is); (case kq22 => show _ = _; k_is); (case kq23 => show _ = _; k_is); (case kq24 => show _ = _; k_is); (case tq0 => show _ = _; k_is)
    (case lq0 => k_is); (case tq1 => show _ = _; k_is); (case lq1 => k_is); (case tq2 => show _ = _; k_is); (case lq2 => k_is); (case tq3 => show _ = _; k_is)
    (case lq3 => k_is); (case tq4 => show _ = _; k_is); (case lq4 => k_is); (case aPL => k_is); (case lPL => k_is); (case nPL => rfl); (case aIN => k_is); (case z0 => k_is); (case z1 => k_is); (case z2 => k_is)
    (case z3 => k_is); (case z4 => k_is); (case z5 => k_is); (case z6 => k_is); (case z7 => k_is); (case z8 => k_is)
    (case z9 => k_is); (case z10 => k_is); (case z11 => k_is); (case z12 => k_is); (case z13 => k_is); (case z14 => k_is)
    (case z15 => k_is); (case z16 => k_is); (case z17 => k_is); (case z18 => k_is)
